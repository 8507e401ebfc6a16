import PyProof.Rows.All
import Wide.All
import OpenK.AllK
import Wide.FinOn
import Lean
import PyProof.EqAt
import PyProof.EqKinds
import PyProof.TupleCall
import PyProof.ZipIter
import PyProof.Rows.ZipGen
import PyProof.EnumFor
import PyProof.EnumStmt
import KE.KSortTup
import KE.KDictList
import KE.KItemsList
import KE.KTryMore
import PyProof.Rows.TopTwo
import PyProof.ExcBaseAll.ValueError
import PySem.Challenge.RW_seamarks_k39_sides_of_a_book
set_option Elab.async false
set_option linter.all false
set_option maxRecDepth 100000
set_option maxHeartbeats 4000000
theorem nabs{a:Int}{n:Nat} : a.natAbs<=n↔-(n:Int)<=a/\a<=n:=by omega
local macro_rules | `(tactic| lia) => `(tactic| first | (simp only [nabs] at *; lia (config := {})) | lia (config := {}) | omega)
local macro_rules | `(tactic| exists $es,*) => `(tactic| refine ⟨$es,*, ?_⟩)
namespace L2
open PySem
def xK(s:Stmt):Arguments:=match s with
 | .FunctionDef _ a _ _ _ _ _ _ _ _=>a
 | _=>{ posonlyargs:=[],args:=[],vararg:=none,kwonlyargs:=[],kw_defaults:=[],kwarg:=none,defaults:=[] }
def yU(s:Stmt):List Stmt:=match s with
 | .FunctionDef _ _ b _ _ _ _ _ _ _=>b
 | _=>[]
def zI(s:Stmt):Scope:=match s with
 | .FunctionDef _ _ _ _ _ _ sc _ _ _=>sc
 | _=>{ kind:=.function,names:=[],isGenerator:=false,isCoroutine:=false }
def zAg(s:Stmt)(j:Nat):Stmt:=match s with
 | .ClassDef _ _ _ body _ _ _ _ _ _ _=>body.getD j (.Pass ⟨0,0,0,0⟩)
 | _=>.Pass ⟨0,0,0,0⟩
end L2
namespace PySem.W
open PySem
noncomputable def zEh(tb:String->Option Builtin)(p:Program)(w:World)(n₀:Nat)(ann:Option Value):Nat->SharedT->Thread->Option SharedT
 | 0,_,_=>none
 | n+1,s,t=>match through t with
  | true=>some s
  | false=>match Fast.tw6613529449190102663 n₀ ann t with
   | false=>none
   | true=>match Fast.tw10156331382660048174 (Fast.tw11892475500146522536 tb) p w s t with
    | some (s',t')=>zEh tb p w n₀ ann n s' t'
    | none=>none
theorem zF6{tb:String->Option Builtin}{p:Program}{w:World}{n₀:Nat}{ann:Option Value} : ∀{n:Nat}{s s':SharedT}{t:Thread},zEh tb p w n₀ ann n s t=some s'->topRun tb p w n₀ ann n s.abs t=some s'.abs
 | 0,_,_,_,h=>by cases h
 | n+1,s,s',t,h=>by
  unfold zEh at h;rw[<- Fast.te6613529449190102663,<- Fast.te10156331382660048174,<- Fast.te11892475500146522536] at h;unfold topRun;cases he:through t with
  | true=>rw[he] at h; cases h; rfl
  | false =>
   rw[he] at h;cases hk:stepOk n₀ ann t with
   | false=>rw[hk] at h; cases h
   | true =>
    rw[hk] at h;cases hs:stepT (denote tb) p w s t with
    | none=>rw[hs] at h; cases h
    | some r=>obtain⟨s₂,t₂⟩:=r; rw[hs] at h; rw[stepT_spec hs]; exact zF6 h
noncomputable def zQu(P:Params):BT:=((boot_heap P).objs.toList.zipIdx).foldl (λt x=>t.ins x.2 x.1) .nil
theorem zN0(P:Params):absHeap (zQu P) 11 (boot_heap P).life=boot_heap P:=by kernel_rfl
theorem zKw(P:Params):((boot_heap P).isNs mainGlobals,(boot_heap P).objs.size,(boot_heap P).nsMap mainGlobals "__annotations__")=(true,11,some (.ref 6)):=by kernel_rfl
noncomputable abbrev zTm(tb:String->Option Builtin)(p:Program)(N:Nat)(w:World)(os:OsState):Option SharedT:=zEh tb p w 11 (some (.ref 6)) N ⟨zQu w.params,11,(boot_heap w.params).life,#[],boot_drawn,boot_toks,os⟩ (topStub p)
theorem zNb{α β γ:Type}{x:Option α}{f:α->β×γ}{a:β}{b:γ}(h1:x.map (λs=>(f s).1)=some a)(h2:x.map (λs=>(f s).2)=some b):x.map f=some (a,b):=by
 cases x with
 | none=>cases h1
 | some s =>
  injection h1 with h1
  injection h2 with h2
  subst h1 h2;rfl
theorem zKp{p q:Program}{loose:List Str}{Xt:Shared->Bool}{α:Type}{Yf:Shared->α}{Ya:World->α}{N:Nat}
  (open_:∀ w:World,(fencedOpening treeTable p w N).map (λs=>(s.heap,s.gens,s.drawn,s.toks))=some (boot_heap w.params,Array.mk [],boot_drawn,boot_toks))
  (h1:∀ w os,(zTm treeTable p N w os).map (λs=>(staticsOk (importedModules p.main.body) (boot_heap w.params) s.abs.heap&&namesBound p s.abs.heap&&gensDone s.abs&&laidKept (boot_heap w.params) s.abs.heap))=some true)
  (h2:∀ w os,(zTm treeTable p N w os).map (λs=>openSeen q loose (importedModules p.main.body) Xt true s.abs)=some (openGood q loose))
  (h3:∀ w os,(zTm treeTable p N w os).map (λs=>Yf s.abs)=some (Ya w)):LeftO p q loose Xt Yf Ya N:=λw=>by
 obtain⟨⟨h,gs,d,k,os⟩,e,e'⟩:=Option.map_eq_some_iff.mp (open_ w);obtain⟨rfl,rfl,rfl,rfl⟩:h=boot_heap w.params/\gs = #[]/\d=boot_drawn/\k=boot_toks:=by simpa using e'
 obtain⟨z1,z2,z3⟩ : _/\_/\_:=by simpa only[Prod.mk.injEq] using zKw w.params
 obtain⟨s,r1,l1⟩:=Option.map_eq_some_iff.mp (h1 w os);obtain⟨s',r2,l2⟩:=Option.map_eq_some_iff.mp (h2 w os);obtain⟨s'',r3,l3⟩:=Option.map_eq_some_iff.mp (h3 w os);rw[r1] at r2 r3;cases r2;cases r3;have r:=zF6 r1;rw[show SharedT.abs ⟨zQu w.params,11,(boot_heap w.params).life,#[],boot_drawn,boot_toks,os⟩=⟨boot_heap w.params,#[],boot_drawn,boot_toks,os⟩ from by unfold SharedT.abs; rw[zN0]] at r;have t:topFrom treeTable p w N ⟨boot_heap w.params,#[],boot_drawn,boot_toks,os⟩=some s.abs:=by
  unfold topFrom;dsimp only;rw[z1,z2,z3,r];show(match staticsOk (importedModules p.main.body) (boot_heap w.params) s.abs.heap&&namesBound p s.abs.heap&&gensDone s.abs&&laidKept (boot_heap w.params) s.abs.heap with | true=>_ | false=>_)=_;rw[l1]
 unfold openEnds;rw[e];show(topFrom treeTable p w N _).map _=_;rw[t];show some (_,_)=_;rw[l2,l3]
end PySem.W
namespace Sea
open PySem L2
def top(i:Nat):Stmt:=PySem.Challenge.pw_seamarks_k39_sides_of_a_book.main.body.getD i (.Pass ⟨0,0,0,0⟩)
abbrev xH:Stmt:=top 2
abbrev rN:Stmt:=top 3
abbrev zBs:Stmt:=top 5
abbrev wV:Stmt:=top 6
abbrev rK:Stmt:=top 7
abbrev xF:Stmt:=top 8
abbrev wU:Stmt:=top 9
abbrev wB:Stmt:=top 36
abbrev tJ:Stmt:=top 37
abbrev rJ:Stmt:=top 39
abbrev uC:Stmt:=top 40
abbrev uB:Stmt:=top 41
abbrev wI:Stmt:=top 42
abbrev uR:Stmt:=top 43
abbrev wY:Stmt:=top 44
abbrev wX:Stmt:=top 45
abbrev xS:Stmt:=top 46
abbrev uN:Stmt:=top 47
abbrev wG:Stmt:=top 48
abbrev wW:Stmt:=top 49
abbrev uA:Stmt:=top 54
abbrev wS:Stmt:=top 56
abbrev xD:Stmt:=top 57
abbrev wF:Stmt:=top 58
abbrev qR:Stmt:=top 61
abbrev wD:Stmt:=top 63
abbrev wH:Stmt:=top 64
abbrev vO:Stmt:=top 65
abbrev wK:Stmt:=top 66
abbrev wT:Stmt:=top 67
abbrev qX:Stmt:=top 71
abbrev qV:Stmt:=top 72
abbrev zFd:Stmt:=top 73
abbrev zBr:Stmt:=top 74
abbrev zFf:Stmt:=top 75
abbrev rL:Stmt:=top 76
abbrev uP:Stmt:=top 77
abbrev xO:Stmt:=top 78
abbrev wZ:Stmt:=top 79
abbrev qZ:Stmt:=top 80
abbrev qD:Stmt:=top 81
abbrev rE:Stmt:=top 82
abbrev qN:Stmt:=top 83
abbrev zEq:Stmt:=top 84
abbrev rG:Stmt:=top 85
abbrev tU:Stmt:=top 86
abbrev vS:Stmt:=top 87
abbrev tI:Stmt:=top 88
abbrev tO:Stmt:=top 89
abbrev zHo:Stmt:=top 90
abbrev zBm:Stmt:=zAg (top 69) 0
abbrev zBn:Stmt:=zAg (top 69) 11
abbrev qU:Stmt:=zAg (top 69) 18
abbrev zBu:Stmt:=zAg (top 69) 20
abbrev qS:Stmt:=zAg (top 69) 21
abbrev rC:Stmt:=zAg (top 69) 22
noncomputable def qv:Program:={ PySem.Challenge.pw_seamarks_k39_sides_of_a_book with main:={ PySem.Challenge.pw_seamarks_k39_sides_of_a_book.main with body:=[top 2,top 3,top 5,top 6,top 7,top 8,top 9,top 36,top 37,top 39,top 40,top 41,top 42,top 43,top 44,top 45,top 46,top 47,top 48,top 49,top 54,top 56,top 57,top 58,top 61,top 63,top 64,top 65,top 66,top 67,top 71,top 72,top 73,top 74,top 75,top 76,top 77,top 78,top 79,top 80,top 81,top 82,top 83,top 84,top 85,top 86,top 87,top 88,top 89,top 90] } }
def lse:List Str:=("_wall" : Str)::("stretch_way" : Str)::("all_left_of" : Str)::("is_bank" : Str)::("MarkError" : Str)::("BadName" : Str)::("Taken" : Str)::("BadPlace" : Str)::("Full" : Str)::("NoMark" : Str)::("Same" : Str)::("Needed" : Str)::("BadBank" : Str)::("NoBank" : Str)::("BadRun" : Str)::("NoRun" : Str)::("NoMoment" : Str)::("BadWay" : Str)::("BadTurn" : Str)::("NoNote" : Str)::("MOST" : Str)::("LONGEST_NAME" : Str)::("FARTHEST" : Str)::("LONGEST_WAY" : Str)::("without" : Str)::("after_move" : Str)::("after_unmark" : Str)::("after_bank" : Str)::("after_level" : Str)::("after_right" : Str)::("after_strike" : Str)::("AFTER" : Str)::("Book" : Str)::[]
noncomputable def kd(P:Params)(x:Str)(t:Nat)(v:Value):DictEntry:=⟨PyData.keyHash P x,.str x t,v⟩
noncomputable def kc(l:List Value):Obj:=⟨.type "code", none,.fields (List.toArray l),List.toArray []⟩
noncomputable def kq(x:Str)(a:Nat)(l g:Int)(r:Nat)(u v w y z:Value)(h:Int)(b:Nat):Obj:=kc [.str x a,.str x (a+1),.str "/claim/cut.py" (a+2),.int l 0,.int g 0,.int 0 0,.int 0 0,.int 3 0,.ref r,.bool true,.int 181 0,u,v,w,y,z,.int h 0,.int l 0,.str "/claim/cut.py" b]
noncomputable abbrev kf(x:Str)(s:Stmt)(kV doc pm cd ct:Value):Obj:=⟨.type "function", none,.func (PySem.W.fnOf x x (xK s) (yU s) (zI s) .none kV doc pm none cd ct),List.toArray []⟩
noncomputable abbrev kg(x:Str)(s:Stmt)(m:Str)(t c:Nat):Obj:=kf x s .none .none (.str m t) (.ref c) .none
noncomputable abbrev kf2(x q:Str)(s:Stmt)(kV doc pm cd ct:Value):Obj:=⟨.type "function", none,.func (PySem.W.fnOf x q (xK s) (yU s) (zI s) .none kV doc pm none cd ct),List.toArray []⟩
noncomputable def kNs(P:Params):Obj:=⟨.type "dict", none,.dict (List.toArray (kd P "__name__" 165 (.str "law_seamarks_k39_sides_of_a_book" 1055)::kd P "__doc__" 166 .none::kd P "__package__" 167 .none::kd P "__loader__" 168 (.builtin "__main__.__loader__#opaque")::kd P "__spec__" 169 .none::kd P "__annotations__" 170 (.ref 6)::kd P "__builtins__" 171 (.ref 4)::kd P "__file__" 173 (.str "/claim/cut.py" 172)::kd P "__cached__" 174 .none::kd P "_wall" 193 (.ref 21)::kd P "common_factor" 206 (.ref 28)::kd P "lowest" 212 (.ref 33)::kd P "turn" 222 (.ref 40)::kd P "plain_side" 229 (.ref 47)::kd P "pushed" 238 (.ref 54)::kd P "bearing_sides" 249 (.ref 61)::kd P "range_side" 257 (.ref 68)::kd P "stretch_way" 267 (.ref 75)::kd P "all_left_of" 279 (.ref 82)::kd P "is_bank" 285 (.ref 87)::kd P "MarkError" 305 (.ref 97)::kd P "BadName" 321 (.ref 110)::kd P "Taken" 337 (.ref 122)::kd P "BadPlace" 353 (.ref 134)::kd P "Full" 369 (.ref 146)::kd P "NoMark" 385 (.ref 158)::kd P "Same" 401 (.ref 170)::kd P "Needed" 417 (.ref 182)::kd P "BadBank" 433 (.ref 194)::kd P "NoBank" 449 (.ref 206)::kd P "BadRun" 465 (.ref 218)::kd P "NoRun" 481 (.ref 230)::kd P "NoMoment" 497 (.ref 242)::kd P "BadWay" 513 (.ref 254)::kd P "BadTurn" 529 (.ref 266)::kd P "NoNote" 545 (.ref 278)::kd P "MOST" 560 (.ref 281)::kd P "LONGEST_NAME" 562 (.int 8 561)::kd P "FARTHEST" 564 (.int 1000 563)::kd P "LONGEST_WAY" 566 (.int 100 565)::kd P "nothing_yet" 572 (.ref 288)::kd P "changed" 583 (.ref 295)::kd P "without" 593 (.ref 302)::kd P "within" 599 (.ref 307)::kd P "check_name" 605 (.ref 312)::kd P "check_free" 614 (.ref 319)::kd P "check_place" 621 (.ref 326)::kd P "check_run" 628 (.ref 333)::kd P "check_room" 636 (.ref 340)::kd P "check_mark" 644 (.ref 347)::kd P "check_moment" 652 (.ref 354)::kd P "check_way" 659 (.ref 361)::kd P "check_apart" 668 (.ref 368)::kd P "after_mark" 678 (.ref 375)::kd P "after_move" 689 (.ref 382)::kd P "after_unmark" 699 (.ref 389)::kd P "after_bank" 710 (.ref 396)::kd P "after_level" 719 (.ref 403)::kd P "after_sail" 728 (.ref 410)::kd P "after_right" 738 (.ref 417)::kd P "after_note" 747 (.ref 424)::kd P "after_bearing" 755 (.ref 431)::kd P "after_range" 763 (.ref 438)::kd P "after_strike" 772 (.ref 445)::kd P "AFTER" 793 (.ref 446)::kd P "after" 801 (.ref 453)::kd P "way_between" 809 (.ref 458)::kd P "mark_places" 818 (.ref 465)::kd P "sides_of" 826 (.ref 472)::kd P "note_groups" 832 (.ref 477)::kd P "note_sides" 842 (.ref 484)::kd P "Book" 1054 (.ref 651)::kd P "_law_power" 1063 (.ref 662)::kd P "_law_draws" 1075 (.ref 669)::kd P "_law_new" 1081 (.ref 676)::kd P "_law_lead" 1087 (.ref 681)::kd P "_law_way" 1098 (.ref 688)::kd P "_law_turned" 1106 (.ref 695)::kd P "_law_left_pair" 1116 (.ref 702)::kd P "_law_true_bearing" 1135 (.ref 709)::kd P "_law_some_deeds" 1154 (.ref 716)::kd P "_law_names" 1160 (.ref 721)::kd P "_law_after" 1169 (.ref 728)::kd P "_law_raised" 1179 (.ref 735)::kd P "_law_same" 1185 (.ref 740)::kd P "_law_low" 1193 (.ref 747)::kd P "_law_lowest" 1201 (.ref 754)::kd P "_law_rows_of" 1217 (.ref 761)::kd P "_law_m_groups" 1223 (.ref 766)::kd P "_law_m_sides" 1233 (.ref 773)::kd P "_law_nowhere" 1244 (.ref 780)::kd P "law" 1250 (.ref 785)::[])) 92,List.toArray []⟩
noncomputable def KG(P:Params):PySem.W.Frag :=
 (nat_lit 96,⟨.type "dict", none,.dict (List.toArray (kd P "__module__" 295 (.str "seamarks.errors" 286)::kd P "__firstlineno__" 299 (.int 46 298)::kd P "__static_attributes__" 300 (.ref 95)::kd P "__weakref__" 302 (.ref 98)::kd P "__doc__" 303 .none::[])) 3,List.toArray []⟩) ::
 (nat_lit 241,⟨.type "dict", none,.dict (List.toArray (kd P "__module__" 489 (.str "seamarks.errors" 286)::kd P "__firstlineno__" 493 (.int 70 492)::kd P "__static_attributes__" 494 (.ref 240)::kd P "__doc__" 495 .none::[])) 2,List.toArray []⟩) ::
 (nat_lit 281,⟨.type "dict", none,.dict (List.toArray (kd P "marks" 548 (.int 20 549)::kd P "banks" 550 (.int 8 551)::kd P "runs" 552 (.int 12 553)::kd P "notes" 554 (.int 24 555)::[])) 4,List.toArray []⟩) ::
 (nat_lit 446,⟨.type "dict", none,.dict (List.toArray (kd P "mark" 773 (.ref 375)::kd P "move" 774 (.ref 382)::kd P "unmark" 775 (.ref 389)::kd P "bank" 776 (.ref 396)::kd P "level" 777 (.ref 403)::kd P "sail" 778 (.ref 410)::kd P "right" 779 (.ref 417)::kd P "bearing" 780 (.ref 431)::kd P "range" 781 (.ref 438)::kd P "strike" 782 (.ref 445)::[])) 10,List.toArray []⟩) ::
 (nat_lit 650,⟨.type "dict", none,.dict (List.toArray (kd P "__module__" 852 (.str "seamarks.book" 843)::kd P "__firstlineno__" 856 (.int 235 855)::kd P "__init__" 863 (.ref 498)::kd P "mark" 873 (.ref 505)::kd P "move" 883 (.ref 512)::kd P "unmark" 891 (.ref 519)::kd P "bank" 900 (.ref 526)::kd P "level" 908 (.ref 533)::kd P "sail" 917 (.ref 540)::kd P "right" 927 (.ref 547)::kd P "bearing" 938 (.ref 554)::kd P "range_note" 948 (.ref 561)::kd P "strike" 956 (.ref 568)::kd P "deed" 966 (.ref 575)::kd P "step" 975 (.ref 582)::kd P "undo" 982 (.ref 589)::kd P "redo" 989 (.ref 596)::kd P "deeds" 996 (.ref 603)::kd P "undone" 1003 (.ref 610)::kd P "twin" 1010 (.ref 617)::kd P "marks" 1016 (.ref 622)::kd P "banks" 1023 (.ref 629)::kd P "runs" 1029 (.ref 634)::kd P "notes" 1036 (.ref 641)::kd P "coming" 1043 (.ref 648)::kd P "__static_attributes__" 1047 (.ref 649)::kd P "__dict__" 1049 (.ref 652)::kd P "__weakref__" 1051 (.ref 653)::kd P "__doc__" 1052 .none::[])) 4,List.toArray []⟩)::[]
noncomputable abbrev KF(P:Params):PySem.W.Frag:=(nat_lit 3,kNs P)::KG P
noncomputable def KC:PySem.W.Frag :=
 (nat_lit 27,kq "common_factor" 196 5 1 22 (.ref 23) .none (.ref 24) (.ref 25) (.ref 26) 204 205) ::
 (nat_lit 28,kg "common_factor" xH "seamarks.parts" 194 27) ::
 (nat_lit 32,kq "lowest" 207 14 1 29 (.ref 30) .none .none .none (.ref 31) 210 211) ::
 (nat_lit 33,kg "lowest" rN "seamarks.parts" 194 32) ::
 (nat_lit 39,kq "turn" 215 18 2 34 (.ref 35) .none (.ref 36) (.ref 37) (.ref 38) 220 221) ::
 (nat_lit 40,kg "turn" zBs "seamarks.sides" 213 39) ::
 (nat_lit 46,kq "plain_side" 223 20 1 41 (.ref 42) .none (.ref 43) (.ref 44) (.ref 45) 227 228) ::
 (nat_lit 47,kg "plain_side" wV "seamarks.sides" 213 46) ::
 (nat_lit 53,kq "pushed" 230 22 3 48 (.ref 49) .none (.ref 50) (.ref 51) (.ref 52) 236 237) ::
 (nat_lit 54,kg "pushed" rK "seamarks.sides" 213 53) ::
 (nat_lit 60,kq "bearing_sides" 239 24 3 55 (.ref 56) .none (.ref 57) (.ref 58) (.ref 59) 247 248) ::
 (nat_lit 61,kg "bearing_sides" xF "seamarks.sides" 213 60) ::
 (nat_lit 67,kq "range_side" 250 28 2 62 (.ref 63) .none (.ref 64) (.ref 65) (.ref 66) 255 256) ::
 (nat_lit 68,kg "range_side" wU "seamarks.sides" 213 67) ::
 (nat_lit 97,(@PySem.Obj.mk (.type "type") none (@PySem.Data.cls (@PySem.ClassData.mk "MarkError" ((.type "ValueError")::[]) ((.ref 97)::((.type "ValueError")::((.type "Exception")::((.type "BaseException")::((.type "object")::[]))))) 96 "MarkError" true [] ((.ref 110)::((.ref 122)::((.ref 134)::((.ref 146)::((.ref 158)::((.ref 170)::((.ref 182)::((.ref 194)::((.ref 206)::((.ref 218)::((.ref 230)::((.ref 242)::((.ref 254)::((.ref 266)::((.ref 278)::[]))))))))))))))) false none false)) (List.toArray ((some (.ref 88))::(none::((some (.str "MarkError" 288))::((some (.str "MarkError" 296))::((some (.builtin "ValueError.__new__"))::((some (.bool true))::[]))))))))) ::
 (nat_lit 242,(@PySem.Obj.mk (.type "type") none (@PySem.Data.cls (@PySem.ClassData.mk "NoMoment" ((.ref 97)::[]) ((.ref 242)::((.ref 97)::((.type "ValueError")::((.type "Exception")::((.type "BaseException")::((.type "object")::[])))))) 241 "NoMoment" true [] [] false none false)) (List.toArray ((some (.ref 233))::(none::((some (.str "NoMoment" 482))::((some (.str "NoMoment" 490))::((some (.builtin "ValueError.__new__"))::((some (.bool true))::[]))))))))) ::
 (nat_lit 287,kq "nothing_yet" 567 83 0 282 (.ref 283) .none (.ref 284) (.ref 285) (.ref 286) 570 571) ::
 (nat_lit 288,kg "nothing_yet" wB "seamarks.deeds" 546 287) ::
 (nat_lit 294,kq "changed" 573 85 4 289 (.ref 290) .none (.ref 291) (.ref 292) (.ref 293) 581 582) ::
 (nat_lit 295,kg "changed" tJ "seamarks.deeds" 546 294) ::
 (nat_lit 306,kq "within" 594 95 2 303 (.ref 304) .none .none .none (.ref 305) 597 598) ::
 (nat_lit 307,kg "within" rJ "seamarks.deeds" 546 306) ::
 (nat_lit 311,kq "check_name" 600 97 1 308 (.ref 309) .none .none .none (.ref 310) 603 604) ::
 (nat_lit 312,kg "check_name" uC "seamarks.deeds" 546 311) ::
 (nat_lit 318,kq "check_free" 606 100 3 313 (.ref 314) .none (.ref 315) (.ref 316) (.ref 317) 612 613) ::
 (nat_lit 319,kg "check_free" uB "seamarks.deeds" 546 318) ::
 (nat_lit 325,kq "check_place" 615 103 1 320 (.ref 321) .none (.ref 322) (.ref 323) (.ref 324) 619 620) ::
 (nat_lit 326,kg "check_place" wI "seamarks.deeds" 546 325) ::
 (nat_lit 332,kq "check_run" 622 106 1 327 (.ref 328) .none (.ref 329) (.ref 330) (.ref 331) 626 627) ::
 (nat_lit 333,kg "check_run" uR "seamarks.deeds" 546 332) ::
 (nat_lit 339,kq "check_room" 629 109 2 334 (.ref 335) .none (.ref 336) (.ref 337) (.ref 338) 634 635) ::
 (nat_lit 340,kg "check_room" wY "seamarks.deeds" 546 339) ::
 (nat_lit 346,kq "check_mark" 637 112 2 341 (.ref 342) .none (.ref 343) (.ref 344) (.ref 345) 642 643) ::
 (nat_lit 347,kg "check_mark" wX "seamarks.deeds" 546 346) ::
 (nat_lit 353,kq "check_moment" 645 115 2 348 (.ref 349) .none (.ref 350) (.ref 351) (.ref 352) 650 651) ::
 (nat_lit 354,kg "check_moment" xS "seamarks.deeds" 546 353) ::
 (nat_lit 360,kq "check_way" 653 118 1 355 (.ref 356) .none (.ref 357) (.ref 358) (.ref 359) 657 658) ::
 (nat_lit 361,kg "check_way" uN "seamarks.deeds" 546 360) ::
 (nat_lit 367,kq "check_apart" 660 121 3 362 (.ref 363) .none (.ref 364) (.ref 365) (.ref 366) 666 667) ::
 (nat_lit 368,kg "check_apart" wG "seamarks.deeds" 546 367) ::
 (nat_lit 374,kq "after_mark" 669 124 2 369 (.ref 370) .none (.ref 371) (.ref 372) (.ref 373) 676 677) ::
 (nat_lit 375,kg "after_mark" wW "seamarks.deeds" 546 374) ::
 (nat_lit 409,kq "after_sail" 720 164 2 404 (.ref 405) .none (.ref 406) (.ref 407) (.ref 408) 726 727) ::
 (nat_lit 410,kg "after_sail" uA "seamarks.deeds" 546 409) ::
 (nat_lit 423,kq "after_note" 739 176 2 418 (.ref 419) .none (.ref 420) (.ref 421) (.ref 422) 745 746) ::
 (nat_lit 424,kg "after_note" wS "seamarks.deeds" 546 423) ::
 (nat_lit 430,kq "after_bearing" 748 181 2 425 (.ref 426) .none (.ref 427) (.ref 428) (.ref 429) 753 754) ::
 (nat_lit 431,kg "after_bearing" xD "seamarks.deeds" 546 430) ::
 (nat_lit 437,kq "after_range" 756 189 2 432 (.ref 433) .none (.ref 434) (.ref 435) (.ref 436) 761 762) ::
 (nat_lit 438,kg "after_range" wF "seamarks.deeds" 546 437) ::
 (nat_lit 452,kq "after" 794 201 2 447 (.ref 448) .none (.ref 449) (.ref 450) (.ref 451) 799 800) ::
 (nat_lit 453,kg "after" qR "seamarks.deeds" 546 452) ::
 (nat_lit 457,kq "way_between" 804 204 3 454 (.ref 455) .none .none .none (.ref 456) 807 808) ::
 (nat_lit 458,kg "way_between" wD "seamarks.asks" 802 457) ::
 (nat_lit 464,kq "mark_places" 810 211 1 459 (.ref 460) .none (.ref 461) (.ref 462) (.ref 463) 816 817) ::
 (nat_lit 465,kg "mark_places" wH "seamarks.asks" 802 464) ::
 (nat_lit 471,kq "sides_of" 819 216 2 466 (.ref 467) .none (.ref 468) (.ref 469) (.ref 470) 824 825) ::
 (nat_lit 472,kg "sides_of" vO "seamarks.asks" 802 471) ::
 (nat_lit 476,kq "note_groups" 827 220 2 473 (.ref 474) .none .none .none (.ref 475) 830 831) ::
 (nat_lit 477,kg "note_groups" wK "seamarks.asks" 802 476) ::
 (nat_lit 483,kq "note_sides" 833 229 2 478 (.ref 479) .none (.ref 480) (.ref 481) (.ref 482) 840 841) ::
 (nat_lit 484,kg "note_sides" wT "seamarks.asks" 802 483) ::
 (nat_lit 497,kc ((.str "__init__" 857)::((.str "Book.__init__" 858)::((.str "/claim/cut.py" 859)::((.int 237 0)::((.int 1 0)::((.int 0 0)::((.int 0 0)::((.int 3 0)::((.ref 492)::((.bool true)::((.int 181 0)::((.ref 493)::(.none::((.ref 494)::((.ref 495)::((.ref 496)::((.int 861 0)::((.int 237 0)::((.str "/claim/cut.py" 862)::[])))))))))))))))))))) ::
 (nat_lit 498,kf2 "__init__" "Book.__init__" zBm .none .none (.str "seamarks.book" 843) (.ref 497) .none) ::
 (nat_lit 574,kc ((.str "deed" 957)::((.str "Book.deed" 958)::((.str "/claim/cut.py" 959)::((.int 272 0)::((.int 2 0)::((.int 0 0)::((.int 0 0)::((.int 3 0)::((.ref 569)::((.bool true)::((.int 181 0)::((.ref 570)::(.none::((.ref 571)::((.ref 572)::((.ref 573)::((.int 964 0)::((.int 272 0)::((.str "/claim/cut.py" 965)::[])))))))))))))))))))) ::
 (nat_lit 575,kf2 "deed" "Book.deed" zBn .none .none (.str "seamarks.book" 843) (.ref 574) .none) ::
 (nat_lit 621,kc ((.str "marks" 1011)::((.str "Book.marks" 1012)::((.str "/claim/cut.py" 1013)::((.int 298 0)::((.int 1 0)::((.int 0 0)::((.int 0 0)::((.int 3 0)::((.ref 618)::((.bool true)::((.int 181 0)::((.ref 619)::(.none::(.none::(.none::((.ref 620)::((.int 1014 0)::((.int 298 0)::((.str "/claim/cut.py" 1015)::[])))))))))))))))))))) ::
 (nat_lit 622,kf2 "marks" "Book.marks" qU .none .none (.str "seamarks.book" 843) (.ref 621) .none) ::
 (nat_lit 633,kc ((.str "runs" 1024)::((.str "Book.runs" 1025)::((.str "/claim/cut.py" 1026)::((.int 305 0)::((.int 1 0)::((.int 0 0)::((.int 0 0)::((.int 3 0)::((.ref 630)::((.bool true)::((.int 181 0)::((.ref 631)::(.none::(.none::(.none::((.ref 632)::((.int 1027 0)::((.int 305 0)::((.str "/claim/cut.py" 1028)::[])))))))))))))))))))) ::
 (nat_lit 634,kf2 "runs" "Book.runs" zBu .none .none (.str "seamarks.book" 843) (.ref 633) .none) ::
 (nat_lit 640,kc ((.str "notes" 1030)::((.str "Book.notes" 1031)::((.str "/claim/cut.py" 1032)::((.int 309 0)::((.int 1 0)::((.int 0 0)::((.int 0 0)::((.int 3 0)::((.ref 635)::((.bool true)::((.int 181 0)::((.ref 636)::(.none::((.ref 637)::((.ref 638)::((.ref 639)::((.int 1034 0)::((.int 309 0)::((.str "/claim/cut.py" 1035)::[])))))))))))))))))))) ::
 (nat_lit 641,kf2 "notes" "Book.notes" qS .none .none (.str "seamarks.book" 843) (.ref 640) .none) ::
 (nat_lit 647,kc ((.str "coming" 1037)::((.str "Book.coming" 1038)::((.str "/claim/cut.py" 1039)::((.int 312 0)::((.int 1 0)::((.int 0 0)::((.int 0 0)::((.int 3 0)::((.ref 642)::((.bool true)::((.int 181 0)::((.ref 643)::(.none::((.ref 644)::((.ref 645)::((.ref 646)::((.int 1041 0)::((.int 312 0)::((.str "/claim/cut.py" 1042)::[])))))))))))))))))))) ::
 (nat_lit 648,kf2 "coming" "Book.coming" rC .none .none (.str "seamarks.book" 843) (.ref 647) .none) ::
 (nat_lit 651,(@PySem.Obj.mk (.type "type") none (@PySem.Data.cls (@PySem.ClassData.mk "Book" ((.type "object")::[]) ((.ref 651)::((.type "object")::[])) 650 "Book" true [] [] false none false)) (List.toArray (none::(none::((some (.str "Book" 845))::((some (.str "Book" 853))::((some (.builtin "object.__new__"))::((some (.bool true))::[]))))))))) ::
 (nat_lit 661,kq "_law_power" 1057 315 1 656 (.ref 657) .none (.ref 658) (.ref 659) (.ref 660) 1061 1062) ::
 (nat_lit 662,kg "_law_power" qX "law_seamarks_k39_sides_of_a_book" 1055 661) ::
 (nat_lit 668,kq "_law_draws" 1064 317 2 663 (.ref 664) .none (.ref 665) (.ref 666) (.ref 667) 1073 1074) ::
 (nat_lit 669,kg "_law_draws" qV "law_seamarks_k39_sides_of_a_book" 1055 668) ::
 (nat_lit 675,kq "_law_new" 1076 333 0 670 (.ref 671) .none (.ref 672) (.ref 673) (.ref 674) 1079 1080) ::
 (nat_lit 676,kg "_law_new" zFd "law_seamarks_k39_sides_of_a_book" 1055 675) ::
 (nat_lit 680,kq "_law_lead" 1082 335 3 677 (.ref 678) .none .none .none (.ref 679) 1085 1086) ::
 (nat_lit 681,kg "_law_lead" zBr "law_seamarks_k39_sides_of_a_book" 1055 680) ::
 (nat_lit 687,kq "_law_way" 1088 339 3 682 (.ref 683) .none (.ref 684) (.ref 685) (.ref 686) 1096 1097) ::
 (nat_lit 688,kg "_law_way" zFf "law_seamarks_k39_sides_of_a_book" 1055 687) ::
 (nat_lit 694,kq "_law_turned" 1099 345 2 689 (.ref 690) .none (.ref 691) (.ref 692) (.ref 693) 1104 1105) ::
 (nat_lit 695,kg "_law_turned" rL "law_seamarks_k39_sides_of_a_book" 1055 694) ::
 (nat_lit 701,kq "_law_left_pair" 1107 347 2 696 (.ref 697) .none (.ref 698) (.ref 699) (.ref 700) 1114 1115) ::
 (nat_lit 702,kg "_law_left_pair" uP "law_seamarks_k39_sides_of_a_book" 1055 701) ::
 (nat_lit 708,kq "_law_true_bearing" 1117 357 6 703 (.ref 704) .none (.ref 705) (.ref 706) (.ref 707) 1133 1134) ::
 (nat_lit 709,kg "_law_true_bearing" xO "law_seamarks_k39_sides_of_a_book" 1055 708) ::
 (nat_lit 715,kq "_law_some_deeds" 1136 366 2 710 (.ref 711) .none (.ref 712) (.ref 713) (.ref 714) 1152 1153) ::
 (nat_lit 716,kg "_law_some_deeds" wZ "law_seamarks_k39_sides_of_a_book" 1055 715) ::
 (nat_lit 720,kq "_law_names" 1155 386 2 717 (.ref 718) .none .none .none (.ref 719) 1158 1159) ::
 (nat_lit 721,kg "_law_names" qZ "law_seamarks_k39_sides_of_a_book" 1055 720) ::
 (nat_lit 727,kq "_law_after" 1161 401 2 722 (.ref 723) .none (.ref 724) (.ref 725) (.ref 726) 1167 1168) ::
 (nat_lit 728,kg "_law_after" qD "law_seamarks_k39_sides_of_a_book" 1055 727) ::
 (nat_lit 734,kq "_law_raised" 1170 423 2 729 (.ref 730) .none (.ref 731) (.ref 732) (.ref 733) 1177 1178) ::
 (nat_lit 735,kg "_law_raised" rE "law_seamarks_k39_sides_of_a_book" 1055 734) ::
 (nat_lit 739,kq "_law_same" 1180 429 2 736 (.ref 737) .none .none .none (.ref 738) 1183 1184) ::
 (nat_lit 740,kg "_law_same" qN "law_seamarks_k39_sides_of_a_book" 1055 739) ::
 (nat_lit 746,kq "_law_low" 1186 437 2 741 (.ref 742) .none (.ref 743) (.ref 744) (.ref 745) 1191 1192) ::
 (nat_lit 747,kg "_law_low" zEq "law_seamarks_k39_sides_of_a_book" 1055 746) ::
 (nat_lit 753,kq "_law_lowest" 1194 443 1 748 (.ref 749) .none (.ref 750) (.ref 751) (.ref 752) 1199 1200) ::
 (nat_lit 754,kg "_law_lowest" rG "law_seamarks_k39_sides_of_a_book" 1055 753) ::
 (nat_lit 760,kq "_law_rows_of" 1202 446 2 755 (.ref 756) .none (.ref 757) (.ref 758) (.ref 759) 1215 1216) ::
 (nat_lit 761,kg "_law_rows_of" tU "law_seamarks_k39_sides_of_a_book" 1055 760) ::
 (nat_lit 765,kq "_law_m_groups" 1218 455 2 762 (.ref 763) .none .none .none (.ref 764) 1221 1222) ::
 (nat_lit 766,kg "_law_m_groups" vS "law_seamarks_k39_sides_of_a_book" 1055 765) ::
 (nat_lit 772,kq "_law_m_sides" 1224 462 2 767 (.ref 768) .none (.ref 769) (.ref 770) (.ref 771) 1231 1232) ::
 (nat_lit 773,kg "_law_m_sides" tI "law_seamarks_k39_sides_of_a_book" 1055 772) ::
 (nat_lit 779,kq "_law_nowhere" 1234 467 4 774 (.ref 775) .none (.ref 776) (.ref 777) (.ref 778) 1242 1243) ::
 (nat_lit 780,kg "_law_nowhere" tO "law_seamarks_k39_sides_of_a_book" 1055 779) ::
 (nat_lit 784,kq "law" 1245 480 1 781 (.ref 782) .none .none .none (.ref 783) 1248 1249) ::
 (nat_lit 785,kg "law" zHo "law_seamarks_k39_sides_of_a_book" 1055 784)::[]
noncomputable def KK(P:Params):PySem.W.Frag:=(nat_lit 3,kNs P)::(KG P++KC)
noncomputable def K:PySem.W.Frag:=Classical.choose (⟨KC,rfl⟩:∃ k,k=KC)
theorem zLd:K=KC:=Classical.choose_spec (⟨KC,rfl⟩:∃ k,k=KC)
noncomputable def kas:List Nat:=nat_lit 3::nat_lit 96::nat_lit 241::nat_lit 281::nat_lit 446::nat_lit 650::KC.map (·.1)
theorem kas_ok:∀ P:Params,kas=(KK P).map (·.1):=λ_=>by kernel_rfl
theorem zQ9{a b:Bool}(h:a=true)(k:b=true):(a&&b)=true:=by rw[h,k]; rfl
set_option maxHeartbeats 0 in
open PySem.W in
theorem said_ok:PySem.Challenge.rw_seamarks_k39_sides_of_a_book.wellSaid=true:=by
 unfold OpenLaw.wellSaid
 repeat' first | with_reducible apply zQ9 | unfold OpenRow.wellSaid | unfold OpenRow.partSaid | unfold looksOpen
 all_goals decide +kernel
open PySem.W in
noncomputable abbrev lkM:=Fast.tw5923862056798008813 (Fast.tw2368527892694137696 PySem.Challenge.rw_seamarks_k39_sides_of_a_book).prog.main.body
open PySem.W in
noncomputable abbrev lkT(w:World)(os:OsState):=zTm Fast.tw14364793385576792824 (Fast.tw2368527892694137696 PySem.Challenge.rw_seamarks_k39_sides_of_a_book).prog 90000 w os
open PySem.W in
noncomputable abbrev lkS(s:SharedT):=Fast.tw4187177175401517315 qv lse lkM (λs=>xlAt qv [] s&&recOk (Fast.tw2368527892694137696 PySem.Challenge.rw_seamarks_k39_sides_of_a_book).records s) true s.abs
set_option maxHeartbeats 0 in
open PySem.W in
theorem zPq(u:World)(os:OsState):(lkT (u.withFollow "special-get-raises" true) os).map (λs=>(staticsOk lkM (boot_heap (u.withFollow "special-get-raises" true).params) s.abs.heap&&namesBound (Fast.tw2368527892694137696 PySem.Challenge.rw_seamarks_k39_sides_of_a_book).prog s.abs.heap&&gensDone s.abs&&laidKept (boot_heap (u.withFollow "special-get-raises" true).params) s.abs.heap))=some true:=by kernel_rfl
set_option maxHeartbeats 0 in
open PySem.W in
theorem zQi(u:World)(os:OsState):(lkT (u.withFollow "special-get-raises" false) os).map (λs=>(staticsOk lkM (boot_heap (u.withFollow "special-get-raises" false).params) s.abs.heap&&namesBound (Fast.tw2368527892694137696 PySem.Challenge.rw_seamarks_k39_sides_of_a_book).prog s.abs.heap&&gensDone s.abs&&laidKept (boot_heap (u.withFollow "special-get-raises" false).params) s.abs.heap))=some true:=by kernel_rfl
set_option maxHeartbeats 0 in
open PySem.W in
theorem zRg(w:World)(os:OsState):(lkT w os).map (λs=>(staticsOk lkM (boot_heap w.params) s.abs.heap&&namesBound (Fast.tw2368527892694137696 PySem.Challenge.rw_seamarks_k39_sides_of_a_book).prog s.abs.heap&&gensDone s.abs&&laidKept (boot_heap w.params) s.abs.heap))=some true:=by
 have h:∀(b:Bool)(u:World),(λw:World=>(lkT w os).map (λs=>(staticsOk lkM (boot_heap w.params) s.abs.heap&&namesBound (Fast.tw2368527892694137696 PySem.Challenge.rw_seamarks_k39_sides_of_a_book).prog s.abs.heap&&gensDone s.abs&&laidKept (boot_heap w.params) s.abs.heap))=some true) (u.withFollow "special-get-raises" b):=λb u=>by cases b; exact zQi u os; exact zPq u os
 have:=h (w.params.followText "special-get-raises") w;rwa[World.withFollow_self] at this
set_option maxHeartbeats 0 in
open PySem.W in
theorem zQe(u:World)(os:OsState):(lkT (u.withFollow "special-get-raises" true) os).map (λs=>(lkS s).1)=some (openGood qv lse).1:=by kernel_rfl
set_option maxHeartbeats 0 in
open PySem.W in
theorem zQt(u:World)(os:OsState):(lkT (u.withFollow "special-get-raises" false) os).map (λs=>(lkS s).1)=some (openGood qv lse).1:=by kernel_rfl
set_option maxHeartbeats 0 in
open PySem.W in
theorem zR1(w:World)(os:OsState):(lkT w os).map (λs=>(lkS s).1)=some (openGood qv lse).1:=by
 have h:∀(b:Bool)(u:World),(λw:World=>(lkT w os).map (λs=>(lkS s).1)=some (openGood qv lse).1) (u.withFollow "special-get-raises" b):=λb u=>by cases b; exact zQt u os; exact zQe u os
 have:=h (w.params.followText "special-get-raises") w;rwa[World.withFollow_self] at this
set_option maxHeartbeats 0 in
open PySem.W in
theorem zPh(u:World)(os:OsState):(lkT (u.withFollow "special-get-raises" true) os).map (λs=>(lkS s).2)=some (openGood qv lse).2:=by kernel_rfl
set_option maxHeartbeats 0 in
open PySem.W in
theorem zQo(u:World)(os:OsState):(lkT (u.withFollow "special-get-raises" false) os).map (λs=>(lkS s).2)=some (openGood qv lse).2:=by kernel_rfl
set_option maxHeartbeats 0 in
open PySem.W in
theorem zRd(w:World)(os:OsState):(lkT w os).map (λs=>(lkS s).2)=some (openGood qv lse).2:=by
 have h:∀(b:Bool)(u:World),(λw:World=>(lkT w os).map (λs=>(lkS s).2)=some (openGood qv lse).2) (u.withFollow "special-get-raises" b):=λb u=>by cases b; exact zQo u os; exact zPh u os
 have:=h (w.params.followText "special-get-raises") w;rwa[World.withFollow_self] at this
set_option maxHeartbeats 0 in
open PySem.W in
theorem zQv(u:World)(os:OsState):(lkT (u.withFollow "special-get-raises" true) os).map (λs=>kas.map s.abs.heap.get?)=some ((KK (u.withFollow "special-get-raises" true).params).map λp=>some p.2):=by kernel_rfl
set_option maxHeartbeats 0 in
open PySem.W in
theorem zPr(u:World)(os:OsState):(lkT (u.withFollow "special-get-raises" false) os).map (λs=>kas.map s.abs.heap.get?)=some ((KK (u.withFollow "special-get-raises" false).params).map λp=>some p.2):=by kernel_rfl
set_option maxHeartbeats 0 in
open PySem.W in
theorem zRw(w:World)(os:OsState):(lkT w os).map (λs=>kas.map s.abs.heap.get?)=some ((KK w.params).map λp=>some p.2):=by
 have h:∀(b:Bool)(u:World),(λw:World=>(lkT w os).map (λs=>kas.map s.abs.heap.get?)=some ((KK w.params).map λp=>some p.2)) (u.withFollow "special-get-raises" b):=λb u=>by cases b; exact zPr u os; exact zQv u os
 have:=h (w.params.followText "special-get-raises") w;rwa[World.withFollow_self] at this
set_option maxHeartbeats 0 in
open PySem.W in
theorem left_ok:LeftO PySem.Challenge.rw_seamarks_k39_sides_of_a_book.row.prog qv lse (λs=>xlAt qv [] s&&recOk (RowW.records (OpenRow.toRowW PySem.Challenge.rw_seamarks_k39_sides_of_a_book.row)) s)
  (λs=>kas.map s.heap.get?) (λw=>(KK w.params).map λp=>some p.2) 90000:=by
 refine zKp (boot_open (by kernel_rfl) (by decide) (λs=>by kernel_rfl)) ?a ?b ?c
 case a =>
  rw[Fast.te5923862056798008813,Fast.te2368527892694137696,Fast.te14364793385576792824];exact zRg
 case b =>
  rw[Fast.te4187177175401517315,Fast.te5923862056798008813,Fast.te2368527892694137696,Fast.te14364793385576792824];exact λw os=>zNb (f:=lkS) (zR1 w os) (zRd w os)
 case c =>
  rw[Fast.te2368527892694137696,Fast.te14364793385576792824];exact zRw
end Sea
-- BASE
namespace L2
open PySem PySem.Spec PyProof.Rows

abbrev Key:=Sum Int Str
def zHq:Key->Value->Bool
 | .inl k,v=>Value.isInt k v
 | .inr x,v=>Value.isStrOf x v
def keyH(w:World):Key->Int
 | .inl k=>hashInt k
 | .inr x=>hashStr w x
theorem yH:∀{k:Key}{v:Value},zHq k v=true->(∃ i t,k=Sum.inl i/\v=Value.int i t)\/(∃ x t,k=Sum.inr x/\v=Value.str x t)
 | .inl i,v,h=>by
  obtain⟨t,e⟩:=Value.isInt_shape (k:=i) (v:=v) h;exact .inl ⟨i,t,rfl,e⟩
 | .inr x,v,h=>by
  obtain⟨t,e⟩:=Value.isStrOf_shape (x:=x) (v:=v) h;exact .inr ⟨x,t,rfl,e⟩
theorem zKz(i:Int)(t:Tok):zHq (.inl i) (.int i t)=true:=by simp[zHq,Value.isInt]
theorem zJ4(x:Str)(t:Tok):zHq (.inr x) (.str x t)=true:=by simp[zHq,Value.isStrOf]
theorem zSl(a b:Int):decide ((Sum.inl a:Key)=Sum.inl b)=(a == b):=by
 by_cases e:a=b
 ·subst e; simp
 ·have h:¬ (Sum.inl a:Key)=Sum.inl b:=λq=>e (Sum.inl.inj q);rw[decide_eq_false h];exact(beq_eq_false_iff_ne.mpr e).symm
theorem zTb(a b:Str):decide ((Sum.inr a:Key)=Sum.inr b)=decide (a=b):=by
 by_cases e:a=b
 ·subst e; simp
 ·have h:¬ (Sum.inr a:Key)=Sum.inr b:=λq=>e (Sum.inr.inj q);rw[decide_eq_false h,decide_eq_false e]
theorem zSa(a:Int)(b:Str):decide ((Sum.inl a:Key)=Sum.inr b)=false:=decide_eq_false (λq=>nomatch q)
theorem zRu(a:Str)(b:Int):decide ((Sum.inr a:Key)=Sum.inl b)=false:=decide_eq_false (λq=>nomatch q)

def yI(prog:Program)(w:World):PySem.KeyKind prog w Key where
 is:=zHq
 hash:=keyH w
 inj:=λv a b ha hb=>by
  rcases yH ha with ⟨i,t,rfl,rfl⟩ | ⟨x,t,rfl,rfl⟩
  ·rcases yH hb with ⟨j,u,rfl,e⟩ | ⟨y,u,rfl,e⟩
   ·injection e with e1 _; rw[e1]
   ·exact nomatch e
  ·rcases yH hb with ⟨j,u,rfl,e⟩ | ⟨y,u,rfl,e⟩
   ·exact nomatch e
   ·injection e with e1 _; rw[e1]
 byValue:=λk v h=>by
  rcases yH h with ⟨i,t,rfl,rfl⟩ | ⟨x,t,rfl,rfl⟩ <;> rfl
 pyHash:=λhv h=>by
  rcases yH hv with ⟨i,t,rfl,rfl⟩ | ⟨x,t,rfl,rfl⟩
  ·exact wpAny_pyHash_int h
  ·exact wpAny_pyHash_str h
 eqBool:=λhu hv h=>by
  rcases yH hu with ⟨i,t,rfl,rfl⟩ | ⟨x,t,rfl,rfl⟩
  ·rcases yH hv with ⟨j,u,rfl,rfl⟩ | ⟨y,u,rfl,rfl⟩
   ·rw[zSl] at h; exact wpAny_eqBool_int h
   ·rw[zSa] at h; exact SeqAt.EqAt.int_str i t y u _ _ _ _ h
  ·rcases yH hv with ⟨j,u,rfl,rfl⟩ | ⟨y,u,rfl,rfl⟩
   ·rw[zRu] at h; exact SeqAt.EqAt.str_int x t j u _ _ _ _ h
   ·rw[zTb] at h; exact wpAny_eqBool_str h
 «strs»:=λk x t v h=>by
  rcases yH h with ⟨i,u,rfl,e⟩ | ⟨y,u,rfl,e⟩
  ·exact nomatch e
  ·injection e with e1 _
   subst e1;cases v <;> rfl

theorem zHd(prog:Program)(w:World)(i:Int)(t:Tok):(yI prog w).is (.inl i) (.int i t)=true:=zKz i t
theorem rT(prog:Program)(w:World)(x:Str)(t:Tok):(yI prog w).is (.inr x) (.str x t)=true:=zJ4 x t
end L2

namespace L2
open PySem PySem.Spec PyProof.Rows

inductive V where
 | non | bl (b:Bool) | int (i:Int) | str (x:Str) | byt (b:Array UInt8) | flt (b:UInt64) | ref (a:Addr) | ty (n:String)
 deriving DecidableEq

def yQ:V->Value->Prop
 | .non,u=>u=Value.none
 | .bl b,u=>u=Value.bool b
 | .int i,u=>∃ t,u=Value.int i t
 | .str x,u=>∃ t,u=Value.str x t
 | .byt b,u=>∃ t,u=Value.bytes b t
 | .flt b,u=>∃ t,u=Value.float b t
 | .ref a,u=>u=Value.ref a
 | .ty n,u=>u=Value.type n

abbrev yL:List V->List Value->Prop:=Paired yQ
theorem yL.length{xs:List V}{us:List Value}(r:yL xs us):xs.length=us.length:=Paired.length r
theorem yL.get:∀{xs:List V}{us:List Value}{i:Nat}{x:V},yL xs us->xs[i]?=some x->∃ u,us[i]?=some u/\yQ x u
 | _,_,_,_,.nil,e=>by simp at e
 | _,_,0,_,.cons r _,e=>by simp at e; subst e; exact⟨_,rfl,r⟩
 | _,_,i+1,x,.cons _ t,e=>by
  obtain⟨u,h1,h2⟩:=yL.get (i:=i) (x:=x) t (by simpa using e);exact⟨u,by simpa using h1,h2⟩
theorem yL.set{x:V}{u:Value}(r:yQ x u):∀{xs:List V}{us:List Value}(i:Nat),yL xs us->yL (xs.set i x) (us.set i u)
 | _,_,_,.nil=>.nil
 | _,_,0,.cons _ t=>.cons r t
 | _,_,i+1,.cons q t=>.cons q (yL.set r i t)
theorem yL.append:∀{xs ys:List V}{us ws:List Value},yL xs us->yL ys ws->yL (xs++ys) (us++ws)
 | _,_,_,_,.nil,s=>s
 | _,_,_,_,.cons r t,s=>.cons r (yL.append t s)
theorem yL.take:∀{xs:List V}{us:List Value}(n:Nat),yL xs us->yL (xs.take n) (us.take n)
 | _,_,0,_=>.nil
 | _,_,_+1,.nil=>.nil
 | _,_,n+1,.cons r t=>.cons r (yL.take n t)
theorem yL.drop:∀{xs:List V}{us:List Value}(n:Nat),yL xs us->yL (xs.drop n) (us.drop n)
 | _,_,0,r=>r
 | _,_,_+1,.nil=>.nil
 | _,_,n+1,.cons _ t=>yL.drop n t
def zFi:Option V->Option Value->Prop
 | some v,some u=>yQ v u
 | none,none=>True
 | _,_=>False
def KV{κ:Type} : List (κ×V)->List (κ×Value)->Prop:=Paired λ(p:κ×V) (q:κ×Value)=>p.1=q.1/\yQ p.2 q.2

def kV:Key->V
 | .inl i=>.int i
 | .inr x=>.str x

inductive HO where
 | lst (xs:List V)
 | tup (xs:List V)
 | dK (kvs:List (Key×V)) | dT (kvs:List (List Key×V))
 | set (S:Int->Bool) (n:Nat)
 | ins (C dx:Addr) (fs:List (Str×V))
 | own (x:Addr)
 | xd (fs:List (Str×V))
 | met (f x:Addr)
 | rng (lo hi:Int)
 | frz (o:Obj) (u:HO)
 | tbl (ps:Array Value)
 | ext (φ:Heap->Prop)

abbrev Hp:=Addr->Option HO
def upd(H:Hp)(a:Addr)(o:HO):Hp:=λb=>if b=a then some o else H b
theorem zA{H:Hp}{a:Addr}{o:HO} : upd H a o a=some o:=by unfold upd; rw[if_pos rfl]
theorem zG{H:Hp}{a b:Addr}{o:HO}(h:b≠a):upd H a o b=H b:=by unfold upd; rw[if_neg h]
theorem zLf{H:Hp}{a:Addr}{o u:HO} : upd (upd H a o) a u=upd H a u:=by
 funext b; unfold upd; split <;> rfl
theorem zS1{H:Hp}{a b:Addr}{o u:HO}(h:H a=some o)(h':H b=some u)(d:o≠u):a≠b:=by
 intro e; subst e; rw[h] at h'; exact d (Option.some.inj h')
theorem zH{H:Hp}{a b:Addr}{o:HO}(h:H a=some o)(h':H b=none):a≠b:=by
 intro e; subst e; rw[h] at h'; cases h'

section
variable(P:Program)(w:World)
def yZ(H:Hp)(h:Heap)(a:Addr):HO->Prop
 | .lst xs=>xs.length<=sizeLine/\∃(its:List Value)(n:Nat),yL xs its/\h.get? a=some { cls:=.type "list", data:=.seq its.toArray n }
 | .tup xs=>xs.length<=sizeLine/\∃ its:List Value,yL xs its/\IsTup h a its.toArray
 | .dK kvs=>kvs.length<=sizeLine/\(a == sysModules)=false/\∃ vs,KV kvs vs/\h.DictOf (yI P w) a vs
 | .dT kvs=>kvs.length<=sizeLine/\(a == sysModules)=false/\∃ xs:List (List Key×Addr×Value),
   Paired (λ(p:List Key×V) (q:List Key×Addr×Value)=>p.1=q.1/\H q.2.1=some (.tup (p.1.map kV))/\yQ p.2 q.2.2) kvs xs /\
   ∃ o es ep,h.get? a=some o/\o.ExactDict/\o.data=.dict es ep/\es.toList=xs.map (entryOfKey (tupleKind (yI P w)))/\(xs.map (·.1)).Nodup
 | .set S n=>h.SetOf (intKind P w) a S n
 | .ins C dx fs=>H dx=some (.own a)/\fs.length<=1000/\dx≠a/\h.get? a=some (PySem.W.instObj C dx) /\
   ∃ mA,h.Ns1 dx mA/\(∀ f,zFi (fs.lookup f) (mA f))/\PySem.Within mA (fs.map (·.1))
 | .own _=>∃ o,h.get? a=some o
 | .xd fs=>∃ mA,h.Ns1 a mA/\∀ f,zFi (fs.lookup f) (mA f)
 | .rng lo hi=>∃ t u v,h.get? a=some { cls:=.type "range", data:=.fields #[.int lo t,.int hi u,.int 1 v] }
 | .frz o u=>h.get? a=some o/\yZ H h a u
 | .tbl ps=>h.get? a=some { cls:=.none,data:=.fields ps }
 | .met f x=>h.get? a=some (PySem.W.methodObj (.ref f) (.ref x))
 | .ext φ=>φ h/\(∃ o,h.get? a=some o)/\∀ h1 h2:Heap,φ h1->(∀ o,h1.get? a=some o->h2.get? a=some o)->φ h2
def HOk(H:Hp)(h:Heap):Prop:=∀ a o,H a=some o->yZ P w H h a o
end

section
variable{P:Program}{w:World}{H H':Hp}{h h':Heap}{a:Addr}{o:HO}
theorem yZ.lt(x:yZ P w H h a o):a<h.objs.size:=by
 cases o with
 | lst xs=>obtain⟨_,_,_,_,e⟩:=x; exact Heap.lt_size e
 | tup xs=>obtain⟨_,_,_,p⟩:=x; exact p.lt
 | dK kvs=>obtain⟨_,_,_,_,o,_,_,e,_⟩:=x; exact Heap.lt_size e
 | dT kvs=>obtain⟨_,_,_,_,o,_,_,e,_⟩:=x; exact Heap.lt_size e
 | set S n=>obtain⟨o,_,_,_,e,_⟩:=x; exact Heap.lt_size e
 | ins C dx fs=>obtain⟨_,_,_,e,_⟩:=x; exact Heap.lt_size e
 | own y=>obtain⟨_,e⟩:=x; exact Heap.lt_size e
 | xd fs=>obtain⟨_,⟨_,_,_,e,_⟩,_⟩:=x; exact Heap.lt_size e
 | rng lo hi=>obtain⟨_,_,_,e⟩:=x; exact Heap.lt_size e
 | frz ob u=>obtain⟨e,_⟩:=x; exact Heap.lt_size e
 | tbl ps=>exact Heap.lt_size (show h.get? a=some _ from x)
 | met f y=>exact Heap.lt_size (show h.get? a=some _ from x)
 | ext φ=>obtain⟨_,⟨_,e⟩,_⟩:=x; exact Heap.lt_size e
theorem Paired.mapP{α β:Type}{F G:α->β->Prop} : ∀{l₁:List α}{l₂:List β},Paired F l₁ l₂->(∀ a b,F a b->G a b)->Paired G l₁ l₂
 | _,_,.nil,_=>.nil
 | _,_,.cons r t,f=>.cons (f _ _ r) (Paired.mapP t f)
theorem yZ.stay(x:yZ P w H h a o)(k:∀ b u,(b=a\/H b=some (.own a))->h.get? b=some u->h'.get? b=some u)
  (ho:∀ b,H b=some (.own a)->H' b=some (.own a)) (ht:∀ b xs,H b=some (.tup xs)->H' b=some (.tup xs)):yZ P w H' h' a o:=by
 induction o with
 | lst xs=>obtain⟨z,its,n,r,e⟩:=x; exact⟨z,its,n,r,k _ _ (.inl rfl) e⟩
 | tup xs=>obtain⟨z,its,r,ob,e,c⟩:=x; exact⟨z,its,r,ob,k _ _ (.inl rfl) e,c⟩
 | dK kvs=>obtain⟨z,y,vs,r,ob,es,ep,e,c⟩:=x; exact⟨z,y,vs,r,ob,es,ep,k _ _ (.inl rfl) e,c⟩
 | dT kvs =>
  obtain⟨z,y,xs,r,ob,es,ep,e,c⟩:=x;exact⟨z,y,xs,Paired.mapP r λp q z=>⟨z.1,ht _ _ z.2.1,z.2.2⟩,ob,es,ep,k _ _ (.inl rfl) e,c⟩
 | set S n=>obtain⟨ob,es,ep,t,e,c⟩:=x; exact⟨ob,es,ep,t,k _ _ (.inl rfl) e,c⟩
 | ins C dx fs =>
  obtain⟨d,z,ne,e,mA,⟨od,es,ep,e2,c⟩,r⟩:=x;exact⟨ho _ d,z,ne,k _ _ (.inl rfl) e,mA,⟨od,es,ep,k _ _ (.inr d) e2,c⟩,r⟩
 | own y=>obtain⟨ob,e⟩:=x; exact⟨ob,k _ _ (.inl rfl) e⟩
 | xd fs=>obtain⟨mA,⟨od,es,ep,e,c⟩,r⟩:=x; exact⟨mA,⟨od,es,ep,k _ _ (.inl rfl) e,c⟩,r⟩
 | rng lo hi=>obtain⟨t,u,v,e⟩:=x; exact⟨t,u,v,k _ _ (.inl rfl) e⟩
 | frz ob u ih=>obtain⟨e,q⟩:=x; exact⟨k _ _ (.inl rfl) e,ih q⟩
 | tbl ps =>
  have e:h.get? a=some { cls:=.none,data:=.fields ps }:=x;show h'.get? a=some { cls:=.none,data:=.fields ps };exact k a _ (.inl rfl) e
 | met f y =>
  have e:h.get? a=some (PySem.W.methodObj (.ref f) (.ref y)):=x;show h'.get? a=some (PySem.W.methodObj (.ref f) (.ref y));exact k a _ (.inl rfl) e
 | ext φ=>obtain⟨p,⟨o,e⟩,st⟩:=x; exact⟨st _ _ p λo q=>k _ _ (.inl rfl) q,⟨o,k _ _ (.inl rfl) e⟩,st⟩
theorem HOk.lt(x:HOk P w H h)(e:H a=some o):a<h.objs.size:=(x a o e).lt
theorem HOk.fresh(x:HOk P w H h)(e:h.objs.size<=a):H a=none:=by
 cases q:H a with
 | none=>rfl
 | some u=>exact absurd (Nat.lt_of_lt_of_le (x.lt q) e) (Nat.lt_irrefl _)
theorem HOk.kept(x:HOk P w H h)(k:∀ b u,h.get? b=some u->h'.get? b=some u):HOk P w H h':=λa o e =>
 (x a o e).stay (λb u _ q=>k b u q) (λ_ q=>q) λ_ _ q=>q
theorem HOk.laid(x:HOk P w H h)(k:∀ b u,h.get? b=some u->h'.get? b=some u)(hp:h.objs.size<=a)(new:yZ P w (upd H a o) h' a o):HOk P w (upd H a o) h':=λb u e=>by
 have hn:=x.fresh hp;by_cases hb:b=a
 ·subst hb; rw[zA] at e; cases e; exact new
 ·rw[zG hb] at e;exact(x b u e).stay (λc v _ q=>k c v q) (λc q=>by rw[zG (zH q hn)]; exact q) λc xs q=>by rw[zG (zH q hn)]; exact q
end

def Rd(H:Hp)(a:Addr)(u:HO):Prop:=H a=some u\/∃ o,H a=some (.frz o u)
theorem Rd.ok{P:Program}{w:World}{H:Hp}{h:Heap}{a:Addr}{u:HO}(r:Rd H a u)(x:HOk P w H h):yZ P w H h a u:=by
 rcases r with r | ⟨o,r⟩
 ·exact x a u r
 ·obtain⟨_,q⟩:=x a _ r;exact q
def Mut:Option HO->Prop
 | some (.lst _)=>True
 | some (.dK _)=>True
 | some (.dT _)=>True
 | some (.set _ _)=>True
 | some (.ins _ _ _)=>True
 | some (.ext _)=>True
 | _=>False
section
variable{P:Program}{w:World}{H:Hp}{h h':Heap}{x e:Addr}{o':HO}
theorem HOk.write(ok:HOk P w H h)(mu:Mut (H x))(he:e=x\/H e=some (.own x))(k:∀ b u,b≠e->h.get? b=some u->h'.get? b=some u)(heo:∃ u,h'.get? e=some u)
  (new:yZ P w (upd H x o') h' x o'):HOk P w (upd H x o') h':=λb u q=>by
 have nown:∀ c y,H c=some (.own y)->c≠x:=λc y r z=>by subst z; rw[r] at mu; exact mu
 have ntup:∀ c xs,H c=some (.tup xs)->c≠x:=λc xs r z=>by subst z; rw[r] at mu; exact mu
 by_cases hb:b=x
 ·subst hb; rw[zA] at q; cases q; exact new
 ·rw[zG hb] at q;by_cases hbe:b=e
  ·have q':H b=some (.own x):=by
    rcases he with z | z
    ·exact absurd (hbe.trans z) hb
    ·rw[hbe]; exact z
   rw[q] at q'; cases q';obtain⟨v,hv⟩:=heo;exact⟨v,by rw[hbe]; exact hv⟩
  ·refine(ok b u q).stay (λc v hc r=>k c v ?_ r) (λc r=>by rw[zG (nown c b r)]; exact r) λc xs r=>by rw[zG (ntup c xs r)]; exact r
   rcases hc with rfl | hc
   ·exact hbe
   ·rintro rfl;rcases he with z | z
    ·exact nown c b hc z
    ·rw[hc] at z; cases z; exact hb rfl
end

structure Un(fs ex:List Addr)(H H':Hp)(h h':Heap):Prop where
 keep:∀ b o,h.get? b=some o->H b=none->b ∉ fs->b ∉ ex->h'.get? b=some o
 slot:∀ b o,h.get? b=some o->H b=none->b∈fs->b ∉ ex->∃ sl,h'.get? b=some { o with slots:=sl }
 free:∀ b o,h.get? b=some o->H b=none->b ∉ ex->H' b=none
 there:∀ b o,h.get? b=some o->b ∉ ex->∃ o',h'.get? b=some o'
 tups:∀ b xs,H b=some (.tup xs)->H' b=some (.tup xs)
 frzs:∀ b o u,H b=some (.frz o u)->H' b=some (.frz o u)
 tbls:∀ b ps,H b=some (.tbl ps)->∃ more,H' b=some (.tbl (ps++more))
section
variable{fs fs' ex ex':List Addr}{H H1 H2:Hp}{h h1 h2 h':Heap}{a x e:Addr}{o:HO}
theorem Un.any(u:Un fs ex H H1 h h1){b:Addr}{ob:Obj}(q:h.get? b=some ob)(n:H b=none)(hx:b ∉ ex):∃ sl,h1.get? b=some { ob with slots:=sl }:=by
 by_cases hb:b∈fs
 ·exact u.slot b ob q n hb hx
 ·exact⟨ob.slots,u.keep b ob q n hb hx⟩
theorem Un.kept(k:∀ b u,h.get? b=some u->h'.get? b=some u):Un fs ex H H h h' :=
 ⟨λb ob q _ _ _=>k b ob q,λb ob q _ _ _=>⟨ob.slots,k b ob q⟩,λ_ _ _ n _=>n,λb ob q _=>⟨ob,k b ob q⟩,λ_ _ q=>q,λ_ _ _ q=>q,λ_ ps q=>⟨#[],by rw[q]; simp⟩⟩
theorem Un.refl:Un fs ex H H h h:=Un.kept λ_ _ q=>q
theorem Un.laid(k:∀ b u,h.get? b=some u->h'.get? b=some u)(hp:h.objs.size<=a)(hn:H a=none):Un fs ex H (upd H a o) h h' where
 keep:=λb u q _ _ _=>k b u q
 slot:=λb u q _ _ _=>⟨u.slots,k b u q⟩
 free:=λb u q n _=>by rw[zG (Nat.ne_of_lt (Nat.lt_of_lt_of_le (Heap.lt_size q) hp))]; exact n
 there:=λb u q _=>⟨u,k b u q⟩
 tups:=λb xs q=>by rw[zG (zH q hn)]; exact q
 frzs:=λb u xs q=>by rw[zG (zH q hn)]; exact q
 tbls:=λb ps q=>⟨#[],by rw[zG (zH q hn),q]; simp⟩
theorem Un.write(mu:Mut (H x))(he:e=x\/H e=some (.own x))(k:∀ b u,b≠e->h.get? b=some u->h'.get? b=some u)(heo:∃ u,h'.get? e=some u):Un fs ex H (upd H x o) h h':=by
 have hx:∀ b,H b=none->b≠x:=λb n z=>by subst z; rw[n] at mu; exact mu
 have hb:∀ b,H b=none->b≠e:=λb n z=>by
  subst z;rcases he with r | r
  ·exact hx b n r
  ·rw[n] at r; cases r
 have hm:∀ b u,H b=some u->¬ Mut (some u)->b≠x:=λb u q nm z=>by subst z; rw[q] at mu; exact nm mu
 refine⟨λb u q n _ _=>k b u (hb b n) q,λb u q n _ _=>⟨u.slots,k b u (hb b n) q⟩,λb u q n _=>by rw[zG (hx b n)]; exact n,λb u q _=>?_,
  λb xs q=>by rw[zG (hm b _ q λz=>z)]; exact q,λb u xs q=>by rw[zG (hm b _ q λz=>z)]; exact q,λb ps q=>⟨#[],by rw[zG (hm b _ q λz=>z),q]; simp⟩⟩
 by_cases hbe:b=e
 ·subst hbe; exact heo
 ·exact⟨u,k b u hbe q⟩
end

def trk(h:Heap)(H:Hp):List Addr:=(List.range h.objs.size).filter λa=>(H a).isSome
def zMp(h:Heap)(H:Hp):Heap:=PySem.W.hideAll h (trk h H)
theorem zK0(h:Heap)(H:Hp):(zMp h H).objs.size=h.objs.size:=PySem.W.hideAll_size _ _
theorem zMt{h:Heap}{H:Hp}{b:Addr}{o:Obj}(e:h.get? b=some o)(n:H b=none):(zMp h H).get? b=some o :=
 PySem.W.hideAll_get _ e λhm=>by
  have q:(H b).isSome=true:=(List.mem_filter.mp hm).2;rw[n] at q; simp at q
theorem zPx{h:Heap}{H:Hp}{b:Addr}{o:Obj}(e:(zMp h H).get? b=some o):h.get? b=some o/\H b=none:=by
 have e':h.get? b=some o:=PySem.W.of_hideAll (trk h H) e;exists e';cases q:H b with
 | none=>rfl
 | some x =>
  have hm:b∈trk h H:=List.mem_filter.mpr ⟨List.mem_range.mpr (Heap.lt_size e'),by simp[q]⟩;have z:(zMp h H).get? b=none:=PySem.W.hideAll_none (trk h H) hm;rw[z] at e; cases e

end L2

namespace L2
open PySem PySem.Spec PyProof.Rows

structure Mod(K:PySem.W.Frag)(mg:Str->Option Value)(base:Heap):Prop where
 kin:K.In base
 glob:base.Ns mainGlobals mg
 blt:∃ mb,base.Ns builtinsNs mb/\∀ x:Str,x ≠ "__name__" -> mb x=bootBuiltins x
 nolimit:base.NoLimit

structure Cx where
 prog:Program
 w:World
 K:PySem.W.Frag
 mg:Str->Option Value
 base:Heap
 A:Around
 N:List Str
 s₀:Shared
 H₀:Hp
 env:Env
 outer:List Env
 stack:List Env
 ex:List Addr
 fn:Str->Bool
 calm:Bool
 pn:List (Addr×Obj)
 xe:Value->Shared->Prop
def frs(l:List Env):List Addr:=l.filterMap (·.frame)
abbrev Cx.fs(X:Cx):List Addr:=frs X.outer

def Vis(sc:Scope)(x:Str):Prop:=sc.names.lookup x=some .local\/sc.names.lookup x=some .cell\/sc.names.lookup x=some .free
def Loc(sc:Scope)(x:Str):Prop:=sc.names.lookup x=some .local\/sc.names.lookup x=some .cell
def Look(env:Env)(h:Heap)(m:Str->Option Value)(x:Str)(u:Value):Prop :=
 (env.kindOf x=some .local/\m x=some u)\/((env.kindOf x=some .cell\/env.kindOf x=some .free)/\∃ c,env.cells.lookup x=some c/\h.IsCell c (some u))

structure Cx.Ok(X:Cx):Prop where
 mod:Mod X.K X.mg X.base
 kind:X.env.scope.kind=.function
 glob:X.env.globals=mainGlobals
 blt:X.env.builtins=builtinsNs
 above:X.s₀.heap.objs.size<=X.env.locals
 inj:∀ x y c,X.env.cells.lookup x=some c->X.env.cells.lookup y=some c->x=y
 has:∀ x,(X.env.kindOf x=some .cell\/X.env.kindOf x=some .free)->∃ c,X.env.cells.lookup x=some c
 cab:∀ x c,X.fn x=true->X.env.cells.lookup x=some c->X.s₀.heap.objs.size<=c
 hd:X.calm=true->X.A.handled=none
 frames:X.A.frames=some X.stack
 stk:X.stack=X.outer\/(X.stack=X.env::X.outer/\X.env.frame=some X.env.locals)
 exf:∀ b∈X.ex,b≠X.env.locals/\∀ x c,X.env.cells.lookup x=some c->c≠b
 bs:∀ b o,X.base.get? b=some o->X.s₀.heap.get? b=some o/\X.H₀ b=none
 bsz:X.base.objs.size<=X.s₀.heap.objs.size
 noex:∀ b o,X.base.get? b=some o->b ∉ X.ex
 exfs:∀ b∈X.ex,b ∉ X.fs
 funs:X.s₀.heap.FunFrames X.base X.outer
 frf:∀ b∈X.fs,X.H₀ b=none

structure Inv(X:Cx)(pins:List (Addr×Obj))(σ:List (Option V))(H:Hp)(s:Shared):Prop where
 ok:X.Ok
 os:s.os=X.s₀.os
 bare:AllBare s.gens
 base:Un X.fs X.ex X.H₀ H X.s₀.heap s.heap
 loc:∃ m,s.heap.Ns X.env.locals m/\∀(i:Nat)(x:Str)(v:V),X.N[i]?=some x->σ[i]?=some (some v)->Vis X.env.scope x->∃ u,yQ v u/\Look X.env s.heap m x u
 cell:∀ x c,X.env.cells.lookup x=some c->∃ v,s.heap.IsCell c v
 free:H X.env.locals=none
 freeC:∀ x c,X.env.cells.lookup x=some c->H c=none
 pin:∀ p∈X.pn++pins,s.heap.get? p.1=some p.2/\H p.1=none/\p.1≠X.env.locals/\p.1 ∉ X.fs/\∀ v,p.2.data≠.cell v
 hok:HOk X.prog X.w H s.heap
 len:σ.length=X.N.length

section
variable{X:Cx}{pins:List (Addr×Obj)}{σ:List (Option V)}{H H':Hp}{s:Shared}{h':Heap}

theorem Cx.Ok.nofr(ok:X.Ok){b:Addr}{o:Obj}(e:X.base.get? b=some o):b ∉ X.fs:=λhb=>by
 have:=(ok.funs.mem hb).1;rw[e] at this; cases this
theorem Inv.bs(I:Inv X pins σ H s):∀ b o,X.base.get? b=some o->s.heap.get? b=some o/\H b=none:=λb o e =>
 ⟨I.base.keep b o (I.ok.bs b o e).1 (I.ok.bs b o e).2 (I.ok.nofr e) (I.ok.noex b o e),I.base.free b o (I.ok.bs b o e).1 (I.ok.bs b o e).2 (I.ok.noex b o e)⟩
theorem Inv.bk(I:Inv X pins σ H s):∀ b o,X.base.get? b=some o->s.heap.get? b=some o:=λb o e=>(I.bs b o e).1
theorem Inv.mod(I:Inv X pins σ H s):Mod X.K X.mg X.base:=I.ok.mod
theorem Inv.kIn(I:Inv X pins σ H s):X.K.In s.heap:=I.ok.mod.kin.keeps I.bk
theorem Inv.lt(I:Inv X pins σ H s):X.env.locals<s.heap.objs.size:=let ⟨_,hn,_⟩:=I.loc; hn.lt
theorem Inv.sz(I:Inv X pins σ H s):X.s₀.heap.objs.size<=s.heap.objs.size:=Nat.le_trans I.ok.above (Nat.le_of_lt I.lt)
theorem Inv.nofs(I:Inv X pins σ H s){a:Addr}(h:s.heap.objs.size<=a):a ∉ X.fs:=λhb=>by
 obtain⟨_,o,ho,_⟩:=I.ok.funs.mem hb;exact absurd (Nat.lt_of_lt_of_le (Heap.lt_size ho) (Nat.le_trans I.sz h)) (Nat.lt_irrefl _)
theorem Inv.cne(I:Inv X pins σ H s):∀ x c,X.env.cells.lookup x=some c->c≠X.env.locals:=λx c e z=>by
 obtain⟨v,o,ho,hd⟩:=I.cell x c e;obtain⟨m,⟨o',es,ep,ho',hd',_⟩,_⟩:=I.loc;rw[z,ho'] at ho; cases ho; rw[hd'] at hd; cases hd
theorem Inv.funs(I:Inv X pins σ H s):s.heap.FunFrames X.base X.outer:=by
 have all:∀(l:List Env),(∀ b∈frs l,b∈X.fs)->X.s₀.heap.FunFrames X.base l->s.heap.FunFrames X.base l:=by
  intro l
  induction l with
  | nil=>intro _ _; trivial
  | cons env r ih =>
   intro hs hl;obtain⟨hk,⟨L,o,hf,hn,ho,hd⟩,hr⟩:=hl;have hL:L∈X.fs:=hs L (by unfold frs; rw[List.filterMap_cons,hf]; exact List.mem_cons_self);obtain⟨sl,e⟩:=I.base.slot L o ho (I.ok.frf L hL) hL λz=>I.ok.exfs L z hL;exact⟨hk,⟨L,_,hf,hn,e,hd⟩,ih (λb hb=>hs b (by unfold frs; rw[List.filterMap_cons,hf]; exact List.mem_cons_of_mem _ hb)) hr⟩
 exact all X.outer (λ_ hb=>hb) I.ok.funs

theorem Inv.stack(I:Inv X pins σ H s):s.heap.FunFrames X.base X.stack:=by
 rcases I.ok.stk with e | ⟨e,hf⟩
 ·rw[e]; exact I.funs
 ·rw[e];obtain⟨m,hn,_⟩:=I.loc;refine .cons (by rw[I.ok.kind]; decide) hf hn ?_ I.funs;exact Heap.get?_none_of_le (Nat.le_trans I.ok.bsz I.ok.above)
theorem Inv.stkSub(I:Inv X pins σ H s):∀ b∈frs X.stack,b∈X.env.locals::X.fs:=λb hb=>by
 rcases I.ok.stk with e | ⟨e,hf⟩
 ·rw[e] at hb; exact List.mem_cons_of_mem _ hb
 ·rw[e] at hb;unfold frs at hb;rw[List.filterMap_cons,hf] at hb;exact hb
theorem Inv.stkFree(I:Inv X pins σ H s):∀ b∈frs X.stack,H b=none:=λb hb=>by
 rcases List.mem_cons.mp (I.stkSub b hb) with e | hb
 ·rw[e]; exact I.free
 ·obtain⟨_,o,ho,_⟩:=I.ok.funs.mem hb;exact I.base.free b o ho (I.ok.frf b hb) λz=>I.ok.exfs b z hb

theorem Inv.step{g':Array GenState}{t':Nat}{d':Drawn}{ch:List Addr}(I:Inv X pins σ H s)
  (hch:∀ b∈ch,(b∈X.ex\/X.s₀.heap.objs.size<=b)/\b≠X.env.locals/\(∀ x c,X.env.cells.lookup x=some c->c≠b)/\∀ p∈X.pn++pins,p.1≠b)
  (keep:∀ b o,b≠X.env.locals->b ∉ X.fs->b ∉ ch->s.heap.get? b=some o->H b=none->h'.get? b=some o)
  (slot:∀ b o,b≠X.env.locals->b∈X.fs->b ∉ ch->s.heap.get? b=some o->H b=none->∃ sl,h'.get? b=some { o with slots:=sl }) (free:∀ b o,b ∉ ch->s.heap.get? b=some o->H b=none->H' b=none)
  (there:∀ b o,b ∉ ch->s.heap.get? b=some o->∃ o',h'.get? b=some o')
  (tups:∀ b xs,H b=some (.tup xs)->H' b=some (.tup xs)) (frzs:∀ b o u,H b=some (.frz o u)->H' b=some (.frz o u)) (tbls:∀ b ps,H b=some (.tbl ps)->∃ more,H' b=some (.tbl (ps++more)))
  (ns:∀ m,s.heap.Ns X.env.locals m->h'.Ns X.env.locals m) (hok:HOk X.prog X.w H' h') (hg:AllBare g') :
  Inv X pins σ H' { s with heap:=h',gens:=g',drawn:=d',toks:=t' }:=by
 have neL:∀ b o,X.s₀.heap.get? b=some o->b≠X.env.locals:=λb o e=>Nat.ne_of_lt (Nat.lt_of_lt_of_le (Heap.lt_size e) I.ok.above);have neC:∀ b o,X.s₀.heap.get? b=some o->b ∉ X.ex->b ∉ ch:=λb o e hx hb=>by
  rcases (hch b hb).1 with z | z
  ·exact hx z
  ·exact absurd (Nat.lt_of_lt_of_le (Heap.lt_size e) z) (Nat.lt_irrefl _)
 have cellK:∀ x c,X.env.cells.lookup x=some c->∀ v,s.heap.IsCell c v->h'.IsCell c v:=λx c e v ⟨o,ho,hd⟩=>by
  have nch:c ∉ ch:=λz=>(hch c z).2.2.1 x c e rfl;by_cases hc:c∈X.fs
  ·obtain⟨sl,q⟩:=slot c o (I.cne x c e) hc nch ho (I.freeC x c e);exact⟨_,q,hd⟩
  ·exact⟨o,keep c o (I.cne x c e) hc nch ho (I.freeC x c e),hd⟩
 refine⟨I.ok,I.os,hg,⟨λb o e n hb hx=>?_,λb o e n hb hx=>?_,λb o e n hx=>?_,λb o e hx=>?_,λb xs e=>tups b xs (I.base.tups b xs e),λb o xs e=>frzs b o xs (I.base.frzs b o xs e),λb ps e=>?_⟩,?_,λx c e=>?_,?_,λx c e=>?_,λp hp=>?_,hok,I.len⟩
 ·exact keep b o (neL b o e) hb (neC b o e hx) (I.base.keep b o e n hb hx) (I.base.free b o e n hx)
 ·obtain⟨sl,e1⟩:=I.base.slot b o e n hb hx;obtain⟨sl',e2⟩:=slot b _ (neL b o e) hb (neC b o e hx) e1 (I.base.free b o e n hx);exact⟨sl',e2⟩
 ·obtain⟨o',e1⟩:=I.base.there b o e hx;exact free b o' (neC b o e hx) e1 (I.base.free b o e n hx)
 ·obtain⟨o',e1⟩:=I.base.there b o e hx;exact there b o' (neC b o e hx) e1
 ·obtain⟨m1,e1⟩:=I.base.tbls b ps e;obtain⟨m2,e2⟩:=tbls b _ e1;exact⟨m1++m2,by rw[e2,Array.append_assoc]⟩
 ·obtain⟨m,hn,hl⟩:=I.loc;refine⟨m,ns m hn,λi x v e1 e2 e3=>?_⟩;obtain⟨u,r,l⟩:=hl i x v e1 e2 e3;exists u,r;rcases l with l | ⟨k,c,e,z⟩
  ·exact .inl l
  ·exact .inr ⟨k,c,e,cellK x c e _ z⟩
 ·obtain⟨v,z⟩:=I.cell x c e;exact⟨v,cellK x c e v z⟩
 ·obtain⟨m,⟨o,_,_,ho,_⟩,_⟩:=I.loc;exact free _ o (λz=>(hch _ z).2.1 rfl) ho I.free
 ·obtain⟨v,o,ho,hd⟩:=I.cell x c e;exact free c o (λz=>(hch c z).2.2.1 x c e rfl) ho (I.freeC x c e)
 ·obtain⟨e,n,ne,nf,d⟩:=I.pin p hp;have nch:p.1 ∉ ch:=λz=>(hch p.1 z).2.2.2 p hp rfl;exact⟨keep p.1 p.2 ne nf nch e n,free p.1 p.2 nch e n,ne,nf,d⟩
theorem Inv.un{t':Nat}(I:Inv X pins σ H s)(u:Un X.fs [] H H' s.heap h')(hok:HOk X.prog X.w H' h'):Inv X pins σ H' { s with heap:=h',toks:=t' }:=by
 obtain⟨m,⟨o,es,ep,ho,r⟩,_⟩:=id I.loc;obtain⟨sl,hL⟩:=u.any ho I.free (by simp);exact I.step (g':=s.gens) (d':=s.drawn) (ch:=[]) (λ_ z=>nomatch z) (λb o _ hb _ e n=>u.keep b o e n hb (by simp)) (λb o _ hb _ e n=>u.slot b o e n hb (by simp)) (λb o _ e n=>u.free b o e n (by simp)) (λb o _ e=>u.there b o e (by simp)) u.tups u.frzs u.tbls (λm' hm=>by
  obtain⟨o',es',ep',ho',r'⟩:=hm;rw[ho] at ho'; cases ho';exact⟨_,es',ep',hL,r'⟩) hok I.bare
theorem Inv.call{g':Array GenState}{t':Nat}{d':Drawn}{ch:List Addr}(I:Inv X pins σ H s)(u:Un (frs X.stack) ch H H' s.heap h')(hok:HOk X.prog X.w H' h')(hg:AllBare g')
  (hch:∀ b∈ch,(b∈X.ex\/X.s₀.heap.objs.size<=b)/\b≠X.env.locals/\(∀ x c,X.env.cells.lookup x=some c->c≠b)/\∀ p∈X.pn++pins,p.1≠b) :
  Inv X pins σ H' { s with heap:=h',gens:=g',drawn:=d',toks:=t' }:=by
 obtain⟨m,⟨o,es,ep,ho,r⟩,_⟩:=id I.loc;obtain⟨sl,hL⟩:=u.any ho I.free λz=>(hch _ z).2.1 rfl;exact I.step (ch:=ch) hch (λb o hL hb hc e n=>u.keep b o e n (λz=>(List.mem_cons.mp (I.stkSub b z)).elim hL hb) hc) (λb o _ _ hc e n=>u.any e n hc) (λb o hc e n=>u.free b o e n hc) (λb o hc e=>u.there b o e hc) u.tups u.frzs u.tbls (λm' hm=>by
  obtain⟨o',es',ep',ho',r'⟩:=hm;rw[ho] at ho'; cases ho';exact⟨_,es',ep',hL,r'⟩) hok hg
theorem Inv.turned{t':Nat}{it:Addr}(I:Inv X pins σ H s)(k:∀ b o,b≠it->s.heap.get? b=some o->h'.get? b=some o)(hn:H it=none)(hL:it≠X.env.locals)
  (h1:it∈X.ex\/X.s₀.heap.objs.size<=it) (h2:∀ x c,X.env.cells.lookup x=some c->c≠it) (h3:∀ p∈X.pn++pins,p.1≠it):Inv X pins σ H { s with heap:=h',toks:=t' }:=by
 have nit:∀ b u,H b=some u->b≠it:=λb u e z=>by rw[z,hn] at e; cases e
 refine I.step (g':=s.gens) (d':=s.drawn) (ch:=[it]) (λb hb=>?_) (λb o _ _ hc e _=>k b o (λz=>hc (by simp[z])) e) (λb o _ _ hc e _=>⟨o.slots,k b o (λz=>hc (by simp[z])) e⟩) (λ_ _ _ _ n=>n)
  (λb o hc e=>⟨o,k b o (λz=>hc (by simp[z])) e⟩) (λ_ _ e=>e) (λ_ _ _ e=>e) (λb ps e=>⟨#[],by rw[e]; simp⟩) (λm hm=>?_) (λb u e=>?_) I.bare
 ·have e:b=it:=by simpa using hb
  subst e;exact⟨h1,hL,h2,h3⟩
 ·obtain⟨o,es,ep,ho,r⟩:=hm;exact⟨o,es,ep,k _ o (Ne.symm hL) ho,r⟩
 ·refine(I.hok b u e).stay (λc v hc q=>k c v ?_ q) (λ_ q=>q) λ_ _ q=>q;rcases hc with z | z
  ·rw[z]; exact nit b u e
  ·exact nit c _ z
theorem Inv.tok(I:Inv X pins σ H s)(t:Nat):Inv X pins σ H { s with toks:=t }:=I.un (h':=s.heap) (t':=t) Un.refl I.hok
theorem Inv.kept{t':Nat}(I:Inv X pins σ H s)(k:∀ b u,s.heap.get? b=some u->h'.get? b=some u):Inv X pins σ H { s with heap:=h',toks:=t' }:=I.un (Un.kept k) (I.hok.kept k)
theorem Inv.laid{a:Addr}{o:HO}{t':Nat}(I:Inv X pins σ H s)(k:∀ b u,s.heap.get? b=some u->h'.get? b=some u)(hp:s.heap.objs.size<=a)(new:yZ X.prog X.w (upd H a o) h' a o) :
  Inv X pins σ (upd H a o) { s with heap:=h',toks:=t' }:=I.un (Un.laid k hp (I.hok.fresh hp)) (I.hok.laid k hp new)
theorem Inv.write{x e:Addr}{o:HO}{t':Nat}(I:Inv X pins σ H s)(mu:Mut (H x))(he:e=x\/H e=some (.own x))(k:∀ b u,b≠e->s.heap.get? b=some u->h'.get? b=some u)(heo:∃ u,h'.get? e=some u)
  (new:yZ X.prog X.w (upd H x o) h' x o):Inv X pins σ (upd H x o) { s with heap:=h',toks:=t' }:=I.un (Un.write mu he k heo) (I.hok.write mu he k heo new)
theorem Inv.pins_of{pins':List (Addr×Obj)}(I:Inv X pins σ H s)(h:∀ p∈pins',s.heap.get? p.1=some p.2/\H p.1=none/\p.1≠X.env.locals/\p.1 ∉ X.fs/\∀ v,p.2.data≠.cell v):Inv X pins' σ H s :=
 ⟨I.ok,I.os,I.bare,I.base,I.loc,I.cell,I.free,I.freeC,λp hp=>(List.mem_append.mp hp).elim (λz=>I.pin p (List.mem_append_left _ z)) (h p),I.hok,I.len⟩

theorem zH9{N:List Str}(hN:N.Nodup){i j:Nat}{x:Str}(a:N[i]?=some x)(b:N[j]?=some x):i=j:=by
 obtain⟨h1,e1⟩:=List.getElem?_eq_some_iff.mp a;obtain⟨h2,e2⟩:=List.getElem?_eq_some_iff.mp b;exact(List.getElem_inj hN).mp (e1.trans e2.symm)

theorem zGf{M:Model}{A:Around}{E:Value->Shared->Prop}{i:Nat}{x:Str}{v:V}{u:Value}{Q:Unit->Shared->Prop}(I:Inv X pins σ H s)(hN:X.N.Nodup)(hi:X.N[i]?=some x)(hx:Loc X.env.scope x)(r:yQ v u)
  (h:∀ s',Inv X pins (σ.set i (some v)) H s'->(∃ a,Heap.SameBut a s.heap s'.heap/\(a=X.env.locals\/X.env.cells.lookup x=some a))->Q () s') (hf:X.fn x=true\/X.env.scope.names.lookup x=some .local:=by first | exact .inl rfl | exact .inr rfl | assumption):wpAny M A (storeName X.env x u) Q E s:=by
 obtain⟨m,hn,hl⟩:=id I.loc;have hcls:(X.env.scope.kind == .class||(X.env.scope.kind == .module&&X.env.locals != X.env.globals))=false:=by rw[I.ok.kind]; rfl
 have hiσ:i<σ.length:=by rw[I.len]; exact(List.getElem?_eq_some_iff.mp hi).1
 have cne:=I.cne;have tracked:∀{a:Addr}{h':Heap},(∃ o,s.heap.get? a=some o/\H a=none)->Heap.SameBut a s.heap h'->HOk X.prog X.w H h':=λ{a h'} ha hs b ob e=>by
  obtain⟨_,_,hfree⟩:=ha;refine(I.hok b ob e).stay (λc w' hc q=>(hs.2 c ?_).trans q) (λ_ q=>q) λ_ _ q=>q;rintro rfl;rcases hc with rfl | hc
  ·rw[hfree] at e; cases e
  ·rw[hfree] at hc; cases hc
 rcases hx with hk | hk
 ·refine wpAny_storeName_local hk hn (λh' hn' hs=>?_) hcls;obtain⟨oL,_,_,hoL,_⟩:=id hn;refine h _ ⟨I.ok,I.os,I.bare,⟨λb o e n hb hx=>?_,λb o e n hb hx=>?_,I.base.free,λb o e hx=>?_,I.base.tups,I.base.frzs,I.base.tbls⟩,⟨_,hn',λj y v' e1 e2 e3=>?_⟩,λy c e=>?_,I.free,I.freeC,λp hp=>?_,tracked ⟨oL,hoL,I.free⟩ hs,by simpa using I.len⟩ ⟨_,hs,.inl rfl⟩
  ·exact(hs.2 b (Nat.ne_of_lt (Nat.lt_of_lt_of_le (Heap.lt_size e) I.ok.above))).trans (I.base.keep b o e n hb hx)
  ·obtain⟨sl,e1⟩:=I.base.slot b o e n hb hx;exact⟨sl,(hs.2 b (Nat.ne_of_lt (Nat.lt_of_lt_of_le (Heap.lt_size e) I.ok.above))).trans e1⟩
  ·obtain⟨o',e1⟩:=I.base.there b o e hx;exact⟨o',(hs.2 b (Nat.ne_of_lt (Nat.lt_of_lt_of_le (Heap.lt_size e) I.ok.above))).trans e1⟩
  ·by_cases hj:j=i
   ·subst hj;rw[hi] at e1; cases e1;rw[List.getElem?_set_self hiσ] at e2;cases e2;exact⟨u,r,.inl ⟨hk,by simp⟩⟩
   ·rw[List.getElem?_set_ne (Ne.symm hj)] at e2;obtain⟨u',r',q⟩:=hl j y v' e1 e2 e3;exists u',r';rcases q with ⟨k,e⟩ | ⟨k,c,e,z⟩
    ·refine .inl ⟨k,?_⟩;have:y≠x:=λe=>hj (zH9 hN e1 (e ▸ hi));simp[this,e]
    ·exact .inr ⟨k,c,e,z.sameBut hs (cne y c e)⟩
  ·obtain⟨w',z⟩:=I.cell y c e;exact⟨w',z.sameBut hs (cne y c e)⟩
  ·obtain⟨e,n,ne,nf,d⟩:=I.pin p hp;exact⟨(hs.2 p.1 ne).trans e,n,ne,nf,d⟩
 ·have hfn:X.fn x=true:=by
   rcases hf with z | z
   ·exact z
   ·rw[z] at hk; cases hk
  obtain⟨c,hc⟩:=I.ok.has x (.inl hk);obtain⟨w',z⟩:=I.cell x c hc;refine wpAny_storeName_cell I.ok.kind hk hc z (λh' hc' hs=>?_);obtain⟨oc,hoc,hocd⟩:=id z;refine h { s with heap:=h' } ⟨I.ok,I.os,I.bare,⟨λb o e n hb hx=>?_,λb o e n hb hx=>?_,I.base.free,λb o e hx=>?_,I.base.tups,I.base.frzs,I.base.tbls⟩,⟨m,hn.sameBut hs (Ne.symm (cne x c hc)),λj y v' e1 e2 e3=>?_⟩,λy c' e=>?_,I.free,I.freeC,λp hp=>?_,tracked ⟨oc,hoc,I.freeC x c hc⟩ hs,by simpa using I.len⟩ ⟨c,hs,.inr hc⟩
  ·exact(hs.2 b (Nat.ne_of_lt (Nat.lt_of_lt_of_le (Heap.lt_size e) (I.ok.cab x c hfn hc)))).trans (I.base.keep b o e n hb hx)
  ·obtain⟨sl,e1⟩:=I.base.slot b o e n hb hx;exact⟨sl,(hs.2 b (Nat.ne_of_lt (Nat.lt_of_lt_of_le (Heap.lt_size e) (I.ok.cab x c hfn hc)))).trans e1⟩
  ·obtain⟨o',e1⟩:=I.base.there b o e hx;exact⟨o',(hs.2 b (Nat.ne_of_lt (Nat.lt_of_lt_of_le (Heap.lt_size e) (I.ok.cab x c hfn hc)))).trans e1⟩
  ·by_cases hj:j=i
   ·subst hj;rw[hi] at e1; cases e1;rw[List.getElem?_set_self hiσ] at e2;cases e2;exact⟨u,r,.inr ⟨.inl hk,c,hc,hc'⟩⟩
   ·rw[List.getElem?_set_ne (Ne.symm hj)] at e2;obtain⟨u',r',q⟩:=hl j y v' e1 e2 e3;exists u',r';rcases q with q | ⟨k,c',e,z'⟩
    ·exact .inl q
    ·refine .inr ⟨k,c',e,z'.sameBut hs ?_⟩;rintro rfl;exact hj (zH9 hN e1 (I.ok.inj _ _ _ e hc ▸ hi))
  ·by_cases hcc:c'=c
   ·subst hcc; exact⟨_,hc'⟩
   ·obtain⟨w2,z2⟩:=I.cell y c' e;exact⟨w2,z2.sameBut hs hcc⟩
  ·obtain⟨e,n,ne,nf,d⟩:=I.pin p hp;refine⟨(hs.2 p.1 ?_).trans e,n,ne,nf,d⟩;intro q;rw[q,hoc] at e;have q':oc=p.2:=Option.some.inj e;exact d w' (by rw[<- q']; exact hocd)
theorem zBy{M:Model}{A:Around}{E:Value->Shared->Prop}{i:Nat}{x:Str}{v:V}{u:Value}{Q:Unit->Shared->Prop}(I:Inv X pins σ H s)(hN:X.N.Nodup)(hi:X.N[i]?=some x)(hx:Loc X.env.scope x)(r:yQ v u)
  (h:∀ s',Inv X pins (σ.set i (some v)) H s'->Q () s') (hf:X.fn x=true\/X.env.scope.names.lookup x=some .local:=by first | exact .inl rfl | exact .inr rfl | assumption):wpAny M A (storeName X.env x u) Q E s :=
 zGf I hN hi hx r (λs' I' _=>h s' I') hf
theorem Inv.call'{s':Shared}{ch:List Addr}(I:Inv X pins σ H s)(ho:s'.os=s.os)(u:Un (frs X.stack) ch H H' s.heap s'.heap)(hok:HOk X.prog X.w H' s'.heap)(hg:AllBare s'.gens)
  (hch:∀ b∈ch,(b∈X.ex\/X.s₀.heap.objs.size<=b)/\b≠X.env.locals/\(∀ x c,X.env.cells.lookup x=some c->c≠b)/\∀ p∈X.pn++pins,p.1≠b):Inv X pins σ H' s':=by
 obtain⟨h',g',d',t',o'⟩:=s';have e:o'=s.os:=ho;subst e;exact I.call (g':=g') (t':=t') (d':=d') u hok hg hch
end

abbrev XK:=Value->Option Addr->Hp->Prop
abbrev St:=List (Option V)
abbrev VK:=V->Hp->Prop
abbrev TE:=St->Hp->VK->Prop
abbrev TT:=St->Hp->(Bool->Hp->Prop)->Prop
abbrev TA:=St->Hp->(List V->Hp->Prop)->Prop
structure zLy where
 nx:St->Hp->Prop
 rt:VK
 bk:St->Hp->Prop:=λ_ _=>False
 ct:St->Hp->Prop:=λ_ _=>False
abbrev TS:=zLy->St->Hp->Prop

def EP(X:Cx)(pins:List (Addr×Obj))(σ:St)(Q:VK)(u:Value)(s':Shared):Prop:=∃ v H',Inv X pins σ H' s'/\yQ v u/\Q v H'
def TP(X:Cx)(pins:List (Addr×Obj))(σ:St)(Q:Bool->Hp->Prop)(b:Bool)(s':Shared):Prop:=∃ H',Inv X pins σ H' s'/\Q b H'
def AP(X:Cx)(pins:List (Addr×Obj))(σ:St)(Q:List V->Hp->Prop)(us:List Value)(s':Shared):Prop:=∃ vs H',Inv X pins σ H' s'/\yL vs us/\Q vs H'
def SP(X:Cx)(pins:List (Addr×Obj))(D:zLy)(f:Flow)(s':Shared):Prop :=
 match f with
 | .next=>∃ σ' H',Inv X pins σ' H' s'/\D.nx σ' H'
 | .brk=>∃ σ' H',Inv X pins σ' H' s'/\D.bk σ' H'
 | .cont=>∃ σ' H',Inv X pins σ' H' s'/\D.ct σ' H'
 | .ret u=>∃ v σ' H',Inv X pins σ' H' s'/\yQ v u/\D.rt v H'

def PE(X:Cx)(e:Expr)(t:TE):Prop :=
 ∀(pins:List (Addr×Obj))(s:Shared)(σ:St)(H:Hp)(Q:VK),Inv X pins σ H s->t σ H Q->wpAny (model X.prog X.w) X.A (eval e X.env) (EP X pins σ Q) X.xe s
def PT(X:Cx)(e:Expr)(t:TT):Prop :=
 ∀(pins:List (Addr×Obj))(s:Shared)(σ:St)(H:Hp)(Q:Bool->Hp->Prop),Inv X pins σ H s->t σ H Q->wpAny (model X.prog X.w) X.A (isTrue e X.env (eval e X.env)) (TP X pins σ Q) X.xe s
def PW(X:Cx)(e:Expr)(t:TT):Prop :=
 ∀(whole:Sem Value)(pins:List (Addr×Obj))(s:Shared)(σ:St)(H:Hp)(Q:Bool->Hp->Prop),Inv X pins σ H s->t σ H Q->wpAny (model X.prog X.w) X.A (isTrue e X.env whole) (TP X pins σ Q) X.xe s
theorem PW.pt{X:Cx}{e:Expr}{t:TT}(h:PW X e t):PT X e t:=h _
def PA(X:Cx)(es:List Expr)(t:TA):Prop :=
 ∀(pos:Pos)(pins:List (Addr×Obj))(s:Shared)(σ:St)(H:Hp)(Q:List V->Hp->Prop),Inv X pins σ H s->t σ H Q->wpAny (model X.prog X.w) X.A (spliced (backTo pos (starEach es X.env))) (AP X pins σ Q) X.xe s
def PS(X:Cx)(st:Stmt)(t:TS):Prop :=
 ∀(pins:List (Addr×Obj))(s:Shared)(σ:St)(H:Hp)(D:zLy),Inv X pins σ H s->t D σ H->wpAny (model X.prog X.w) X.A (exec st X.env) (SP X pins D) X.xe s
def PSs(X:Cx)(st:List Stmt)(t:TS):Prop :=
 ∀(pins:List (Addr×Obj))(s:Shared)(σ:St)(H:Hp)(D:zLy),Inv X pins σ H s->t D σ H->wpAny (model X.prog X.w) X.A (execs st X.env) (SP X pins D) X.xe s
theorem thn{α:Type}{t:Sem α}{Q Q':α->Shared->Prop}{M:Model}{A:Around}{E:Value->Shared->Prop}{s:Shared}(h:wpAny M A t Q E s)(hQ:∀ a s,Q a s->Q' a s):wpAny M A t Q' E s:=wpAny_mono h hQ λ_ _ x=>x
end L2

namespace L2
open PySem PySem.Spec PyProof.Rows
section
variable{X:Cx}

theorem bin{a b:Expr}{ta tb:TE}(ha:PE X a ta)(hb:PE X b tb){pins:List (Addr×Obj)}{s:Shared}{σ:St}{H:Hp}{R:V->V->Hp->Prop}(I:Inv X pins σ H s)(h:ta σ H λx H1=>tb σ H1 λy H2=>R x y H2)
  {α:Type} {Q:α->Shared->Prop} {f:Value->Value->Sem α}
  (hf:∀ v u s2 x y H2,Inv X pins σ H2 s2->yQ x v->yQ y u->R x y H2->wpAny (model X.prog X.w) X.A (f v u) Q X.xe s2) :
  wpAny (model X.prog X.w) X.A (eval a X.env) (λv s₁=>wpAny (model X.prog X.w) X.A (eval b X.env) (λu s₂=>wpAny (model X.prog X.w) X.A (f v u) Q X.xe s₂) X.xe s₁) X.xe s:=by
 refine thn (ha pins s σ H _ I h) λv s1 ⟨x,H1,I1,r1,q1⟩=>?_;refine thn (hb pins s1 σ H1 _ I1 q1) λu s2 ⟨y,H2,I2,r2,q2⟩=>?_;exact hf v u s2 x y H2 I2 r1 r2 q2

inductive TVar(i:Nat)(σ:St)(H:Hp)(Q:VK):Prop where
 | mk (v:V) (e:σ[i]?=some (some v)) (q:Q v H)
def zQ7(i:Nat):TE:=λσ H Q=>TVar i σ H Q
def tC(v:V):TE:=λ_ H Q=>Q v H
theorem zR7{i:Nat}{x:Str}{pos:Pos}(hN:X.N[i]?=some x)(hv:Vis X.env.scope x)(hd:(x ==("__debug__" : Str))=false:=by decide)(hcd:(x ==("__classdict__" : Str))=false:=by decide):PE X (.Name x pos) (zQ7 i):=by
 intro pins s σ H Q I h;obtain⟨v,e,h⟩:=h;obtain⟨m,hn,hl⟩:=I.loc;obtain⟨u,r,l⟩:=hl i x v hN e hv;have fin:EP X pins σ Q u s:=⟨v,H,I,r,h⟩;rcases l with ⟨hk,hm⟩ | ⟨hk,c,hc,hcell⟩
 ·exact wpAny_Name (wpAny_loadName_local I.ok.kind hk hn hm fin) hd
 ·rcases hk with hk | hk
  ·exact wpAny_Name (wpAny_loadName_cell I.ok.kind hk hc hcell fin) hd
  ·exact wpAny_Name (wpAny_loadName_free I.ok.kind hk hc hcell fin hcd) hd
theorem wA{i j pos} : PE X (.Constant (.int i) j pos) (tC (.int i)):=λ_ _ _ H _ I h=>wpAny_Constant_int ⟨.int i,H,I.tok _,⟨_,rfl⟩,h⟩
theorem zGz{b j pos} : PE X (.Constant (.bool b) j pos) (tC (.bl b)):=λ_ _ _ H _ I h=>Constant_bool ⟨.bl b,H,I,rfl,h⟩
theorem zOh{j pos} : PE X (.Constant .none j pos) (tC .non):=λ_ _ _ H _ I h=>Constant_none ⟨.non,H,I,rfl,h⟩
theorem zQ{x j pos} : PE X (.Constant (.str x) j pos) (tC (.str x)):=λ_ _ _ H _ I h=>Calls.Constant_str ⟨.str x,H,I.tok _,⟨_,rfl⟩,h⟩

def Gl(X:Cx)(x:Str):Prop:=X.env.kindOf x=some .globalImplicit
theorem vV{E:Value->Shared->Prop}{pins:List (Addr×Obj)}{s:Shared}{σ:St}{H:Hp}{x:Str}{u:Value}{pos:Pos}{Q:Value->Shared->Prop}(I:Inv X pins σ H s)(hg:Gl X x)(hm:X.mg x=some u)(h:Q u s)
  (hd:(x ==("__debug__" : Str))=false:=by decide):wpAny (model X.prog X.w) X.A (eval (.Name x pos) X.env) Q E s :=
 Calls.Name_function_global I.ok.kind hg (Calls.loadGlobal_global (by rw[I.ok.glob]; exact I.mod.glob.keeps I.bk) hm h) hd
theorem zG4{E:Value->Shared->Prop}{pins:List (Addr×Obj)}{s:Shared}{σ:St}{H:Hp}{x:Str}{u:Value}{pos:Pos}{Q:Value->Shared->Prop}(I:Inv X pins σ H s)(hg:Gl X x)(hm:X.mg x=none)(hv:bootBuiltins x=some u)(h:Q u s)
  (hn:x ≠ "__name__" := by decide) (hd:(x ==("__debug__" : Str))=false:=by decide):wpAny (model X.prog X.w) X.A (eval (.Name x pos) X.env) Q E s:=by
 obtain⟨mb,h1,h2⟩:=I.mod.blt;exact Calls.Name_function_global I.ok.kind hg (Calls.loadGlobal_builtin (by rw[I.ok.glob]; exact I.mod.glob.keeps I.bk) hm (by rw[I.ok.blt]; exact h1.keeps I.bk) ((h2 x hn).trans hv) h) hd
theorem rY{x:Str}{v:V}{u:Value}{pos:Pos}(hg:Gl X x)(hm:X.mg x=none)(hv:bootBuiltins x=some u)(r:yQ v u)(hn:x ≠ "__name__" := by decide)(hd:(x ==("__debug__" : Str))=false:=by decide):PE X (.Name x pos) (tC v) :=
 λ_ _ _ H _ I h=>zG4 I hg hm hv ⟨v,H,I,r,h⟩ hn hd

variable{a b:Expr}{ta tb:TE}{pos:Pos}
def PC(X:Cx)(op:CmpOp)(a b:Expr)(t:TE):Prop :=
 ∀(pins:List (Addr×Obj))(s:Shared)(σ:St)(H:Hp)(Q:VK),Inv X pins σ H s->t σ H Q ->
  wpAny (model X.prog X.w) X.A (eval a X.env) (λv s₁=>wpAny (model X.prog X.w) X.A (eval b X.env) (λu s₂=>wpAny (model X.prog X.w) X.A (compareOp op v u) (EP X pins σ Q) X.xe s₂) X.xe s₁) X.xe s
def tB(t:TE):TT:=λσ H Q=>t σ H λx H1=>∃ c,x=.bl c/\Q c H1
theorem zO1{op:CmpOp}{t:TE}(h:PC X op a b t)(h1:behindInMarks op b=false:=by first | exact nobehind _ (by decide) (by decide) | rfl):PT X (.Compare a [op] [b] pos) (tB t):=by
 intro pins s σ H Q I hw;refine wpAny_isTrue_Compare1 (thn (h pins s σ H _ I hw) λv s1 h1=>thn h1 λu s2 h2=>thn h2 λc s3 ⟨x,H1,I1,r1,q1⟩=>?_) h1;obtain⟨d,rfl,q⟩:=q1;cases r1;exact wpAny_truthy_bool ⟨H1,I1,q⟩
theorem zCj{e:Expr}{t:TE}(h:PE X e t)(he:∀ whole,isTrue e X.env whole=(do let v <- whole; standAt e.pos; holding [v] (truthy v)):=by intro _; rfl):PT X e (tB t):=by
 intro pins s σ H Q I hw;refine isTrue_plain (thn (h pins s σ H _ I hw) λv s1 ⟨x,H1,I1,r1,q1⟩=>?_) (he _);obtain⟨d,rfl,q⟩:=q1;cases r1;exact wpAny_truthy_bool ⟨H1,I1,q⟩

variable{tA tB':TT}{rest:List Expr}
def tAnd(t u:TT):TT:=λσ H Q=>t σ H λc H1=>if c=true then u σ H1 Q else Q false H1
def tOr(t u:TT):TT:=λσ H Q=>t σ H λc H1=>if c=true then Q true H1 else u σ H1 Q
def tNot(t:TT):TT:=λσ H Q=>t σ H λc H1=>Q (!c) H1
theorem zPj(ha:PT X a tA):PW X (.BoolOp .And [a] pos) tA:=by
 intro wh pins s σ H Q I h;refine isTrue_and (thn (ha pins s σ H Q I h) λc s1 e=>?_);cases c with
 | true=>exact isTrue_and_nil e
 | false=>exact e
theorem zFn(ha:PT X a tA):PW X (.BoolOp .Or [a] pos) tA:=by
 intro wh pins s σ H Q I h;refine isTrue_or (thn (ha pins s σ H Q I h) λc s1 e=>?_);cases c with
 | false=>exact isTrue_or_nil e
 | true=>exact e
theorem zTf(ha:PT X a tA)(hb:PW X (.BoolOp .And (b::rest) pos) tB'):PW X (.BoolOp .And (a::b::rest) pos) (tAnd tA tB'):=by
 intro wh pins s σ H Q I h;refine isTrue_and (thn (ha pins s σ H _ I h) λc s1 ⟨H1,I1,q1⟩=>?_);cases c with
 | true=>exact hb wh pins s1 σ H1 Q I1 q1
 | false=>exact⟨H1,I1,q1⟩
theorem zI8(ha:PT X a tA)(hb:PW X (.BoolOp .Or (b::rest) pos) tB'):PW X (.BoolOp .Or (a::b::rest) pos) (tOr tA tB'):=by
 intro wh pins s σ H Q I h;refine isTrue_or (thn (ha pins s σ H _ I h) λc s1 ⟨H1,I1,q1⟩=>?_);cases c with
 | true=>exact⟨H1,I1,q1⟩
 | false=>exact hb wh pins s1 σ H1 Q I1 q1
theorem zDf(ha:PT X a tA):PT X (.UnaryOp .Not a pos) (tNot tA):=by
 intro pins s σ H Q I h;exact isTrue_not (ha pins s σ H (λc H1=>Q (!c) H1) I h)
def tAndV(ta tb:TE):TE:=λσ H Q=>ta σ H λx H1=>∃ c,x=.bl c/\if c=true then tb σ H1 Q else Q (.bl false) H1
theorem zLq{op}{t:TE}(h:PE X a t):PE X (.BoolOp op [a] pos) t:=λpins s σ H Q I hw=>BoolOp_one (h pins s σ H Q I hw)
theorem zLr(ha:PE X a ta)(hb:PE X (.BoolOp .And (b::rest) pos) tb):PE X (.BoolOp .And (a::b::rest) pos) (tAndV ta tb):=by
 intro pins s σ H Q I h;refine BoolOp_and (thn (ha pins s σ H _ I h) λv s1 ⟨x,H1,I1,r1,q1⟩=>?_);obtain⟨c,rfl,q1⟩:=q1;cases r1;refine wpAny_truthy_bool ?_;cases c with
 | true=>exact hb pins s1 σ H1 Q I1 q1
 | false=>exact⟨.bl false,H1,I1,rfl,q1⟩
def tIf(t:TT)(ta tb:TE):TE:=λσ H Q=>t σ H λc H1=>if c=true then ta σ H1 Q else tb σ H1 Q
theorem zIh{c:Expr}(hc:PT X c tA)(ha:PE X a ta)(hb:PE X b tb):PE X (.IfExp c a b pos) (tIf tA ta tb):=by
 intro pins s σ H Q I h;refine wpAny_IfExp (thn (hc pins s σ H _ I h) λd s1 ⟨H1,I1,q1⟩=>?_);cases d with
 | true=>exact ha pins s1 σ H1 Q I1 q1
 | false=>exact hb pins s1 σ H1 Q I1 q1
end
end L2

namespace L2
open PySem PySem.Spec PyProof.Rows

def SqL(K:PySem.W.Frag)(H:Hp)(a:Addr)(xs:List V):Prop :=
 Rd H a (.lst xs) \/
  ∃(o:Obj)(its:Array Value)(n:Nat),K.lookup a=some o/\o.cls=.type "list" /\ o.dict=none/\o.data=.seq its n/\its.size<=sizeLine/\yL xs its.toList
def SqT(K:PySem.W.Frag)(H:Hp)(a:Addr)(xs:List V):Prop :=
 Rd H a (.tup xs) \/
  ∃(o:Obj)(its:Array Value)(n:Nat),K.lookup a=some o/\o.cls=.type "tuple" /\ o.data=.seq its n/\its.size<=sizeLine/\yL xs its.toList
def absV:Value->Option V
 | .none=>some .non
 | .bool b=>some (.bl b)
 | .int i _=>some (.int i)
 | .str x _=>some (.str x)
 | .bytes b _=>some (.byt b)
 | .float b _=>some (.flt b)
 | .ref a=>some (.ref a)
 | .type n=>some (.ty n)
 | _=>none
theorem yQ.abs{x:V}{u:Value}(r:yQ x u):absV u=some x:=by
 cases x with
 | non=>cases r; rfl
 | bl _=>cases r; rfl
 | int _=>obtain⟨t,rfl⟩:=r; rfl
 | str _=>obtain⟨t,rfl⟩:=r; rfl
 | byt _=>obtain⟨t,rfl⟩:=r; rfl
 | flt _=>obtain⟨t,rfl⟩:=r; rfl
 | ref _=>cases r; rfl
 | ty _=>cases r; rfl
theorem yQ.inj{x y:V}{u:Value}(r:yQ x u)(q:yQ y u):x=y:=Option.some.inj (r.abs.symm.trans q.abs)
theorem yL.inj:∀{xs ys:List V}{us:List Value},yL xs us->yL ys us->xs=ys
 | _,_,_,.nil,.nil=>rfl
 | _,_,_,.cons r t,.cons r' t'=>by rw[r.inj r',yL.inj t t']
section
variable{X:Cx}{pins:List (Addr×Obj)}{σ:St}{H:Hp}{s:Shared}{a:Addr}{xs ys:List V}
theorem SqL.of{K:PySem.W.Frag}(h:H a=some (.lst xs)):SqL K H a xs:=.inl (.inl h)
theorem SqT.of{K:PySem.W.Frag}(h:H a=some (.tup xs)):SqT K H a xs:=.inl (.inl h)
theorem Inv.list(I:Inv X pins σ H s)(h:SqL X.K H a xs):∃ its:List Value,yL xs its/\PlainL s.heap a its.toArray/\xs.length<=sizeLine:=by
 rcases h with h | ⟨o,its,n,hk,hc,hd,hs,hz,r⟩
 ·obtain⟨z,its,n,r,e⟩:=h.ok I.hok;exact⟨its,r,⟨_,n,e,rfl,rfl,rfl⟩,z⟩
 ·exists its.toList,r,⟨o,n,I.kIn a o hk,hc,hd,by simpa using hs⟩;have e:=r.length;simp only[Array.length_toList] at e;lia
theorem Inv.tuple(I:Inv X pins σ H s)(h:SqT X.K H a xs):∃ its:List Value,yL xs its/\IsTup s.heap a its.toArray/\xs.length<=sizeLine:=by
 rcases h with h | ⟨o,its,n,hk,hc,hs,hz,r⟩
 ·obtain⟨z,its,r,p⟩:=h.ok I.hok;exact⟨its,r,p,z⟩
 ·exists its.toList,r,⟨o,I.kIn a o hk,hc,n,by simpa using hs⟩;have e:=r.length;simp only[Array.length_toList] at e;lia
theorem Inv.list_inj(I:Inv X pins σ H s)(h:SqL X.K H a xs)(h':SqL X.K H a ys):xs=ys:=by
 obtain⟨its,r,⟨o,n,e,_,_,d⟩,_⟩:=I.list h;obtain⟨its',r',⟨o',n',e',_,_,d'⟩,_⟩:=I.list h';rw[e] at e'; cases e';rw[d] at d';injection d' with d1 _
 have:its=its':=by simpa using congrArg Array.toList d1
 subst this;exact r.inj r'
theorem Inv.tuple_inj(I:Inv X pins σ H s)(h:SqT X.K H a xs)(h':SqT X.K H a ys):xs=ys:=by
 obtain⟨its,r,⟨o,e,_,n,d⟩,_⟩:=I.tuple h;obtain⟨its',r',⟨o',e',_,n',d'⟩,_⟩:=I.tuple h';rw[e] at e'; cases e';rw[d] at d';injection d' with d1 _
 have:its=its':=by simpa using congrArg Array.toList d1
 subst this;exact r.inj r'
end

abbrev Cx.wish(X:Cx)(E:Value->Shared->Prop):Cx:={ X with xe:=E }
abbrev Cx.nox(X:Cx):Cx:=X.wish λ_ _=>False
theorem Cx.Ok.wish{X:Cx}(ok:X.Ok)(E:Value->Shared->Prop):(X.wish E).Ok :=
 ⟨ok.mod,ok.kind,ok.glob,ok.blt,ok.above,ok.inj,ok.has,ok.cab,ok.hd,ok.frames,ok.stk,ok.exf,ok.bs,ok.bsz,ok.noex,ok.exfs,ok.funs,ok.frf⟩
theorem Cx.Ok.unwish{X:Cx}{E:Value->Shared->Prop}(ok:(X.wish E).Ok):X.Ok :=
 ⟨ok.mod,ok.kind,ok.glob,ok.blt,ok.above,ok.inj,ok.has,ok.cab,ok.hd,ok.frames,ok.stk,ok.exf,ok.bs,ok.bsz,ok.noex,ok.exfs,ok.funs,ok.frf⟩
section
variable{X:Cx}{pins:List (Addr×Obj)}{σ:St}{H:Hp}{s:Shared}{E:Value->Shared->Prop}
theorem Inv.wish(I:Inv X pins σ H s)(E:Value->Shared->Prop):Inv (X.wish E) pins σ H s:=⟨I.ok.wish E,I.os,I.bare,I.base,I.loc,I.cell,I.free,I.freeC,I.pin,I.hok,I.len⟩
theorem Inv.unwish(I:Inv (X.wish E) pins σ H s):Inv X pins σ H s:=⟨I.ok.unwish,I.os,I.bare,I.base,I.loc,I.cell,I.free,I.freeC,I.pin,I.hok,I.len⟩
theorem SP.unwish{D:zLy}{f:Flow}{s':Shared}(h:SP (X.wish E) pins D f s'):SP X pins D f s':=by
 cases f with
 | next=>obtain⟨σ',H',I,q⟩:=h; exact⟨σ',H',I.unwish,q⟩
 | brk=>obtain⟨σ',H',I,q⟩:=h; exact⟨σ',H',I.unwish,q⟩
 | cont=>obtain⟨σ',H',I,q⟩:=h; exact⟨σ',H',I.unwish,q⟩
 | ret u=>obtain⟨v,σ',H',I,r,q⟩:=h; exact⟨v,σ',H',I.unwish,r,q⟩
theorem PSs.nox{st:List Stmt}{t:TS}(h:PSs X.nox st t):PSs X st t:=λpins s σ H D I hw =>
 wpAny_mono (h pins s σ H D (I.wish _) hw) (λ_ _ q=>q.unwish) λ_ _ z=>False.elim z
end

section
variable{X:Cx}{st:Stmt}{rest:List Stmt}{t u:TS}{e:Expr}{te:TE}{pos:Pos}
def tNext:TS:=λD σ H=>D.nx σ H
def tSeq(t u:TS):TS:=λD σ H=>t { D with nx:=u D } σ H
theorem yE:PSs X [] tNext:=λ_ _ σ H _ I h=>wpAny_execs_nil ⟨σ,H,I,h⟩
theorem zB(h1:PS X st t)(h2:PSs X rest u):PSs X (st::rest) (tSeq t u):=by
 intro pins s σ H D I h;refine wpAny_execs_cons (thn (h1 pins s σ H { D with nx:=u D } I h) λf s1 q=>?_);cases f with
 | next =>
  obtain⟨σ',H',I',q⟩:=q;exact h2 pins s1 σ' H' D I' q
 | ret v=>exact q
 | brk=>exact q
 | cont=>exact q
theorem zD(h1:PS X st t):PSs X [st] t:=by
 intro pins s σ H D I h;refine wpAny_execs_cons (thn (h1 pins s σ H D I h) λf s1 q=>?_);cases f with
 | next=>exact wpAny_execs_nil q
 | ret v=>exact q
 | brk=>exact q
 | cont=>exact q
theorem Inv.quiet{pins:List (Addr×Obj)}{σ:St}{H:Hp}{s:Shared}(I:Inv X pins σ H s):interactive X.env=false:=by simp[interactive,I.ok.kind]
def tDrop(te:TE):TS:=λD σ H=>te σ H λ_ H1=>D.nx σ H1
theorem zU(he:PE X e te)(hs:swapsWith e none pos.line X.env=pure false:=by rfl):PS X (.Expr e pos) (tDrop te):=by
 intro pins s σ H D I h;exact wpAny_Expr_any (thn (he pins s σ H _ I h) λv s1 ⟨x,H1,I1,r1,q1⟩=>⟨σ,H1,I1,q1⟩) I.quiet hs
def tRet(te:TE):TS:=λD σ H=>te σ H D.rt
theorem zS(he:PE X e te):PS X (.Return (some e) pos) (tRet te):=by
 intro pins s σ H D I h;exact wpAny_Return_some (thn (he pins s σ H _ I h) λv s1 ⟨x,H1,I1,r1,q1⟩=>⟨x,σ,H1,I1,r1,q1⟩)
def tIfS(c:TT)(t u:TS):TS:=λD σ H=>c σ H λb H1=>if b=true then t D σ H1 else u D σ H1
theorem yY{c:Expr}{a b:List Stmt}{tc:TT}(hc:PT X c tc)(ha:PSs X a t)(hb:PSs X b u):PS X (.If c a b pos) (tIfS tc t u):=by
 intro pins s σ H D I h;refine wpAny_If (thn (hc pins s σ H _ I h) λd s1 ⟨H1,I1,q1⟩=>?_);cases d with
 | true=>exact ha pins s1 σ H1 D I1 q1
 | false=>exact hb pins s1 σ H1 D I1 q1
def zSw:TS:=λ_ _ _=>False
theorem uO:PS X st zSw:=λ_ _ _ _ _ _ h=>h.elim
end

abbrev TG:=V->St->Hp->(St->Hp->Prop)->Prop
abbrev TGs:=List V->St->Hp->(St->Hp->Prop)->Prop
def PG(X:Cx)(target:Expr)(t:TG):Prop :=
 ∀(pins:List (Addr×Obj))(s:Shared)(σ:St)(H:Hp)(v:V)(u:Value)(Q:St->Hp->Prop),Inv X pins σ H s->yQ v u->t v σ H Q ->
  wpAny (model X.prog X.w) X.A (assign target X.env u) (λ_ s'=>∃ σ' H',Inv X pins σ' H' s'/\Q σ' H') X.xe s
def PGs(X:Cx)(ts:List Expr)(t:TGs):Prop :=
 ∀(pins:List (Addr×Obj))(s:Shared)(σ:St)(H:Hp)(vs:List V)(us:List Value)(Q:St->Hp->Prop),Inv X pins σ H s->yL vs us->t vs σ H Q ->
  wpAny (model X.prog X.w) X.A (assignInOrder ((assignEach ts X.env).map (·.2)) us) (λ_ s'=>∃ σ' H',Inv X pins σ' H' s'/\Q σ' H') X.xe s
abbrev zTp:=V->V->V->Hp->(Hp->Prop)->Prop
def PSet(X:Cx)(t:zTp):Prop :=
 ∀(pins:List (Addr×Obj))(s:Shared)(σ:St)(H:Hp)(o i v:V)(ov iv u:Value)(Q:Hp->Prop),Inv X pins σ H s->yQ o ov->yQ i iv->yQ v u->t o i v H Q ->
  wpAny (model X.prog X.w) X.A (setItem ov iv u) (λ_ s'=>∃ H',Inv X pins σ H' s'/\Q H') X.xe s
section
variable{X:Cx}{pos:Pos}
def zK9(i:Nat):TG:=λv σ H Q=>Q (σ.set i (some v)) H
theorem zFg{i:Nat}{x:Str}(hN:X.N.Nodup)(hi:X.N[i]?=some x)(hx:Loc X.env.scope x)(hf:X.fn x=true\/X.env.scope.names.lookup x=some .local:=by first | exact .inl rfl | exact .inr rfl | assumption):PG X (.Name x pos) (zK9 i):=by
 intro pins s σ H v u Q I r h;exact wpAny_assign_Name (zBy I hN hi hx r (λs' I'=>⟨_,H,I',h⟩) hf)
def gNil:TGs:=λvs σ H Q=>vs=[]/\Q σ H
def gCons(t:TG)(u:TGs):TGs:=λvs σ H Q=>∃ v r,vs=v::r/\t v σ H λσ' H'=>u r σ' H' Q
theorem uH:PGs X [] gNil:=by
 intro pins s σ H vs us Q I r h;obtain⟨e,h⟩:=h;subst e;cases r;exact assignInOrder_nil ⟨σ,H,I,h⟩
theorem yA{e:Expr}{es:List Expr}{t:TG}{u:TGs}(h1:PG X e t)(h2:PGs X es u)
  (hs:(assignEach (e::es) X.env).map (·.2)=assign e X.env::(assignEach es X.env).map (·.2):=by rfl):PGs X (e::es) (gCons t u):=by
 intro pins s σ H vs us Q I r h;obtain⟨v,vr,e1,h⟩:=h;subst e1;cases r with
 | cons r rr =>
  rw[hs];refine assignInOrder_cons (thn (h1 pins s σ H _ _ _ I r h) λ_ s1 ⟨σ1,H1,I1,q1⟩=>?_);exact h2 pins s1 σ1 H1 _ _ Q I1 rr q1
def gTup(K:PySem.W.Frag)(n:Nat)(t:TGs):TG:=λv σ H Q=>∃ a xs,v=.ref a/\SqT K H a xs/\xs.length=n/\t xs σ H Q
theorem sC{es:List Expr}{k:Nat}{t:TGs}{n:Nat}(hc:X.calm=true)(h:PGs X es t)
  (hn:(assignEach es X.env).length=n:=by rfl) (hst:(assignEach es X.env).findIdx? (·.1)=none:=by rfl):PG X (.Tuple es k pos) (gTup X.K n t):=by
 intro pins s σ H v u Q I r hw;obtain⟨a,xs,e1,hq,hl,hw⟩:=hw;subst e1;cases r;obtain⟨its,rv,ht,hz⟩:=I.tuple hq;refine assign_Tuple_tuple (I.ok.hd hc) ht (by simp[hn,<- hl,rv.length]) hst λh' hx=>?_;have I1:Inv X pins σ H { s with heap:=h' }:=I.kept (t':=s.toks) λb o e=>hx b o (Nat.ne_of_lt (Heap.lt_size e)) e;exact h pins _ σ H xs _ Q I1 (by simpa using rv) hw
def gSub(to ti:TE)(t:zTp):TG:=λv σ H Q=>to σ H λo H1=>ti σ H1 λi H2=>t o i v H2 λH3=>Q σ H3
theorem zRq{o i:Expr}{to ti:TE}{t:zTp}(ho:PE X o to)(hi:PE X i ti)(hs:PSet X t)
  (ha:∀ v,assign (.Subscript o i pos) X.env v=(do
   let ov <- holding [v] (eval o X.env)
   let iv <- holding [v,ov] (eval i X.env)
   standAt pos
   holding [v,ov,iv] (setItem ov iv v)
   release [v,ov,iv] []):=by intro _; rfl):PG X (.Subscript o i pos) (gSub to ti t):=by
 intro pins s σ H v u Q I r h;rw[ha];refine wpAny_bind (wpAny_holding (thn (ho pins s σ H _ I h) λov s1 ⟨x,H1,I1,r1,q1⟩=>?_));refine wpAny_bind (wpAny_holding (thn (hi pins s1 σ H1 _ I1 q1) λiv s2 ⟨y,H2,I2,r2,q2⟩=>?_));refine wpAny_bind (wpAny_standAt (wpAny_bind (wpAny_holding (thn (hs pins s2 σ H2 x y v ov iv u _ I2 r1 r2 r q2) λ_ s3 ⟨H3,I3,q3⟩=>?_))));exact wpAny_release ⟨σ,H3,I3,q3⟩
def zTo(te:TE)(g:TG):TS:=λD σ H=>te σ H λx H1=>g x σ H1 D.nx
theorem qM{tg e:Expr}{te:TE}{g:TG}(he:PE X e te)(hg:PG X tg g)(hs:swapsWithSole [tg] e pos.line X.env=pure false:=by rfl)(hw:swappedStores [tg] e X.env=pure none:=by rfl)
  (h1:(assignEach [tg] X.env).map (·.2)=[assign tg X.env]:=by rfl):PS X (.Assign [tg] e pos) (zTo te g):=by
 intro pins s σ H D I h;refine wpAny_Assign_stores (thn (he pins s σ H _ I h) λv s1 ⟨x,H1,I1,r1,q1⟩=>?_) hs hw;rw[h1];exact thn (hg pins s1 σ H1 x v _ I1 r1 q1) λ_ s2 q=>q
theorem zK6{i:Nat}{x:Str}{e:Expr}{te:TE}{pos':Pos}(hN:X.N.Nodup)(hi:X.N[i]?=some x)(hx:Loc X.env.scope x)(he:PE X e te)(hs:swapsWith e (some (.Name x pos')) pos.line X.env=pure false:=by rfl)(hf:X.fn x=true\/X.env.scope.names.lookup x=some .local:=by first | exact .inl rfl | exact .inr rfl | assumption) :
  PS X (.Assign [.Name x pos'] e pos) (zTo te (zK9 i)):=by
 intro pins s σ H D I h;refine wpAny_Assign_Name (thn (he pins s σ H _ I h) λv s1 ⟨y,H1,I1,r1,q1⟩=>?_) hs;exact zBy I1 hN hi hx r1 (λs2 I2=>⟨_,H1,I2,q1⟩) hf
def tPar(i j:Nat)(ta:TA):TS:=λD σ H=>ta σ H λvs H1=>∃ v w,vs=[v,w]/\D.nx ((σ.set i (some v)).set j (some w)) H1
theorem zD6{i j:Nat}{x y:Str}{a b:Expr}{ta:TA}{px py pt:Pos}{kt k2 pt2}(hc:X.calm=true)(hN:X.N.Nodup)(hi:X.N[i]?=some x)(hj:X.N[j]?=some y)(hij:i≠j)
  (hx:X.env.scope.names.lookup x=some .local) (hy:X.env.scope.names.lookup y=some .local) (ha:PA X [a,b] ta)
  (hw:swappedStores [.Tuple [.Name x px,.Name y py] kt pt] (.Tuple [a,b] k2 pt2) X.env=pure (some [x,y]))
  (hs:swapsWithSole [.Tuple [.Name x px,.Name y py] kt pt] (.Tuple [a,b] k2 pt2) pos.line X.env=pure false:=by rfl) :
  PS X (.Assign [.Tuple [.Name x px,.Name y py] kt pt] (.Tuple [a,b] k2 pt2) pos) (tPar i j ta):=by
 intro pins s σ H D I h;rw[exec_Assign_arm];refine wpAny_bind (wpAny_standAt ?_);rw[hs];refine wpAny_bind (wpAny_pure ?_);rw[if_neg (by decide)];refine wpAny_bind (Tuple_ (thn (ha _ pins s σ H _ I h) λus s1 ⟨vs,H1,I1,r1,q1⟩=>?_));obtain⟨v,w,e1,q1⟩:=q1;subst e1;obtain⟨u1,u2,rfl,rv,rw'⟩:∃ u1 u2,us=[u1,u2]/\yQ v u1/\yQ w u2:=by
  cases r1 with
  | cons p q =>
   cases q with
   | cons p' q' =>
    cases q';exact⟨_,_,rfl,p,p'⟩
 refine wpAny_newObj_type ?_ (by show 2<=sizeLine; decide);have I2:Inv X pins σ H1 { s1 with heap:=s1.heap.push { cls:=.type "tuple", data:=.seq [u1,u2].toArray } }:=I1.kept (t':=s1.toks) λb o e=>Heap.get?_push_of_some _ e;rw[hw];refine wpAny_bind (wpAny_pure ?_);show wpAny (model X.prog X.w) X.A (do rule "assign.swapped-stores"; let items <- unpackItems (.ref s1.heap.objs.size) 2 none; assignInOrder [λv=>bindName X.env y v,λv=>bindName X.env x v] items.reverse; pure Flow.next) _ _ _;refine wpAny_bind (wpAny_rule (wpAny_bind (unpackItems_tuple (items:=#[u1,u2]) (I.ok.hd hc) (IsTup.new s1.heap _) λh' hx'=>?_)));have I3:=I2.kept (h':=h') (t':=s1.toks) λb o e=>hx' b o (Nat.ne_of_lt (Heap.lt_size e)) e;show wpAny _ _ (assignInOrder [λv=>bindName X.env y v,λv=>bindName X.env x v] [u2,u1] >>= λ_=>pure Flow.next) _ _ _;refine wpAny_bind (assignInOrder_cons (wpAny_bindName (zBy I3 hN hj (.inl hy) rw' (λs2 I4=>?_) (.inr hy))));refine assignInOrder_cons (wpAny_bindName (zBy I4 hN hi (.inl hx) rv (λs3 I5=>assignInOrder_nil (wpAny_pure ?_)) (.inr hx)));rw[List.set_comm _ _ (Ne.symm hij)] at I5;exact⟨_,H1,I5,q1⟩
end

section
variable{X:Cx}{pos:Pos}
def zOq(c:TT)(tb:TS):TS:=λD σ H=>∃ W:Nat->St->Hp->Prop,(∃ m,W m σ H)/\∀ m σ H,W m σ H ->
 c σ H λb H1=>if b=true then ∃ N:St->Hp->Prop,(∀ σ' H',N σ' H'->∃ m',m'<m/\W m' σ' H')/\tb { D with nx:=N,ct:=N,bk:=D.nx } σ H1 else D.nx σ H1
theorem zBk{c:Expr}{body:List Stmt}{tc:TT}{tb:TS}(hp:PassesOwn (model X.prog X.w) X.A X.env X.xe)(hc:PT X c tc)(hb:PSs X body tb):PS X (.While c body [] pos) (zOq tc tb):=by
 intro pins s σ H D I h;obtain⟨W,⟨m0,w0⟩,turn⟩:=h;refine wpAny_While (codeAny_whileLoop (λn s'=>∃ σ' H',Inv X pins σ' H' s'/\W n σ' H') ?_ m0 ⟨σ,H,I,w0⟩);rintro n s1 ⟨σ1,H1,I1,w1⟩;refine wpAny_passesOwn hp (thn (hc pins s1 σ1 H1 _ I1 (turn n σ1 H1 w1)) λb s2 ⟨H2,I2,q2⟩=>?_);cases b with
 | true =>
  obtain⟨N,hN,q2⟩:=q2;rw[if_pos rfl];refine wpAny_passesOwn hp (thn (hb pins s2 σ1 H2 _ I2 q2) λf s3 q3=>?_);cases f with
  | next =>
   obtain⟨σ3,H3,I3,n3⟩:=q3;obtain⟨m',hm,w3⟩:=hN σ3 H3 n3;exact⟨m',hm,σ3,H3,I3,w3⟩
  | cont =>
   obtain⟨σ3,H3,I3,n3⟩:=q3;obtain⟨m',hm,w3⟩:=hN σ3 H3 n3;exact⟨m',hm,σ3,H3,I3,w3⟩
  | brk=>exact q3
  | ret v=>exact q3
 | false =>
  rw[if_neg Bool.false_ne_true];exact wpAny_execs_nil ⟨σ1,H2,I2,q2⟩
end

structure It where
 go:Nat->Hp->Prop
 yld:Nat->Hp->V->Hp->Prop
 stop:Nat->Hp->Prop
def zL6(X:Cx)(pins:List (Addr×Obj))(H:Hp)(b:Addr):Prop :=
 H b=none/\b≠X.env.locals/\b ∉ X.fs/\(b∈X.ex\/X.s₀.heap.objs.size<=b)/\(∀ x c,X.env.cells.lookup x=some c->c≠b)/\∀ p∈X.pn++pins,p.1≠b
theorem Inv.fpOk{X:Cx}{pins:List (Addr×Obj)}{σ:St}{H H':Hp}{s:Shared}{b:Addr}(I:Inv X pins σ H s)(hb:s.heap.objs.size<=b)(hn:H' b=none):zL6 X pins H' b:=by
 refine⟨hn,Nat.ne_of_gt (Nat.lt_of_lt_of_le I.lt hb),I.nofs hb,.inr (Nat.le_trans I.sz hb),λx c e z=>?_,λp hp z=>?_⟩
 ·obtain⟨v,q⟩:=I.cell x c e;exact absurd (Nat.lt_of_lt_of_le q.lt (by rw[z]; exact hb)) (Nat.lt_irrefl _)
 ·exact absurd (Nat.lt_of_lt_of_le (Heap.lt_size (I.pin p hp).1) (by rw[z]; exact hb)) (Nat.lt_irrefl _)
structure zQ4(P:Program)(w:World)(K:PySem.W.Frag)(tg:Expr)(J:It)(fp:List Addr)(it:Addr)(tn:Nat->Heap->Prop):Prop where
 mem:it∈fp
 obj:∀ i h,tn i h->∀ b∈fp,∃ o,h.get? b=some o/\∀ v,o.data≠.cell v
 keep:∀ i h h',tn i h->(∀ b∈fp,∀ o,h.get? b=some o->h'.get? b=some o)->tn i h'
 item:∀(X:Cx),X.prog=P->X.w=w->X.K=K->X.calm=true->∀(i:Nat)(pins:List (Addr×Obj))(s:Shared)(σ:St)(H:Hp)(E:Value->Shared->Prop),Inv X pins σ H s->(∀ b∈fp,zL6 X pins H b)->tn i s.heap->J.go i H ->
  wpAny (model P w) X.A (pyNext (.ref it)) (λr s1=>∃ u,r=some u /\
   wpAny (model P w) X.A (letOwnedTupleGo tg (.ref it) u) (λ_ s2=>∃ x H',Inv X pins σ H' s2/\yQ x u/\J.yld i H x H'/\tn (i+1) s2.heap/\∀ b∈fp,H' b=none) E s1) E s
 done:∀(X:Cx),X.prog=P->X.w=w->X.K=K->X.calm=true->∀(i:Nat)(pins:List (Addr×Obj))(s:Shared)(σ:St)(H:Hp)(E:Value->Shared->Prop),Inv X pins σ H s->(∀ b∈fp,zL6 X pins H b)->tn i s.heap->J.stop i H ->
  wpAny (model P w) X.A (pyNext (.ref it)) (λr s1=>r=none/\Inv X pins σ H s1) E s
 self:∀(A:Around)(i:Nat)(s:Shared)(Q:Value->Shared->Prop)(E:Value->Shared->Prop),tn i s.heap->Q (.ref it) s->wpAny (model P w) A (pyIter (.ref it)) Q E s
abbrev TI:=St->Hp->(It->Hp->Prop)->Prop
def PIE(X:Cx)(pins:List (Addr×Obj))(σ:St)(tg:Expr)(R:It->Hp->Prop)(itv:Value)(s2:Shared):Prop :=
 ∃(it:Addr)(fp:List Addr)(tn:Nat->Heap->Prop)(J:It)(H':Hp),itv=.ref it/\Inv X pins σ H' s2/\zQ4 X.prog X.w X.K tg J fp it tn/\tn 0 s2.heap/\(∀ b∈fp,zL6 X pins H' b)/\R J H'
def PI(X:Cx)(tg iter:Expr)(wi:TI):Prop :=
 ∀(pins:List (Addr×Obj))(s:Shared)(σ:St)(H:Hp)(R:It->Hp->Prop),Inv X pins σ H s->wi σ H R ->
  wpAny (model X.prog X.w) X.A (eval iter X.env) (λv s1=>wpAny (model X.prog X.w) X.A (pyIter v) (PIE X pins σ tg R) X.xe s1) X.xe s

theorem zMs{M:Model}{A:Around}{E:Value->Shared->Prop}{s:Shared}{tg:Expr}{it:Addr}{u:Value}{o:Obj}{n:String}{vs:Array Value}{Q:Unit->Shared->Prop}(ho:s.heap.get? it=some o)(hc:o.cls=.type n)(hd:o.data=.fields vs)
  (hn:["enumerate", "zip", "dict_itemiterator", "dict_reverseitemiterator", "odict_iterator", "itertools.zip_longest", "itertools.pairwise"].contains n=false) (hQ:Q () s):wpAny M A (letOwnedTupleGo tg (.ref it) u) Q E s:=by
 unfold letOwnedTupleGo;cases tg <;> first
  | exact wpAny_pure hQ
  | (cases u <;> first
    | exact wpAny_pure hQ
    | (refine wpAny_bind (wpAny_load ho ?_)
       rw[hc,hd];show wpAny M A (if (["enumerate", "zip", "dict_itemiterator", "dict_reverseitemiterator", "odict_iterator", "itertools.zip_longest", "itertools.pairwise"].contains n&&vs[0]? == some (rawInt _))=true then _ else _) Q E s;rw[if_neg (by intro h; rw[hn,Bool.false_and] at h; cases h)];exact wpAny_pure hQ))

def Itl(K:PySem.W.Frag)(a:Addr):It :=
 ⟨λi H=>∃ xs x,SqL K H a xs/\xs[i]?=some x,λi H x H'=>H'=H/\∀ xs,SqL K H a xs->xs[i]?=some x,λi H=>∃ xs,SqL K H a xs/\xs.length<=i⟩
def Itt(K:PySem.W.Frag)(a:Addr):It :=
 ⟨λi H=>∃ xs x,SqT K H a xs/\xs[i]?=some x,λi H x H'=>H'=H/\∀ xs,SqT K H a xs->xs[i]?=some x,λi H=>∃ xs,SqT K H a xs/\xs.length<=i⟩
def Itr(lo:Int)(n:Nat):It:=⟨λi _=>i<n,λi H x H'=>H'=H/\x=.int (lo+i),λi _=>n<=i⟩
theorem zFq{P:Program}{w:World}{K:PySem.W.Frag}{tg:Expr}(a it:Addr):zQ4 P w K tg (Itl K a) [it] it (λi h=>h.IsListIter it a i) where
 mem:=by simp
 obj:=λi h st b hb=>by
  have e:b=it:=by simpa using hb
  subst e;obtain⟨o,e,c,d⟩:=st;exact⟨o,e,λv z=>by rw[d] at z; cases z⟩
 keep:=λi h h' st k=>st.at λo e=>k it (by simp) o e
 item:=by
  intro X hP hw hK hc i pins s σ H E I hf st hg;subst hP hw hK;obtain⟨xs,x,hq,hx⟩:=hg;obtain⟨its,rv,p,hz⟩:=I.list hq;obtain⟨u,hu,ru⟩:=rv.get hx;obtain⟨f0,f1,f2,f3,f4,f5⟩:=hf it (by simp);refine wpAny_pyNext_list_item st p.isList (x:=u) (by simpa using hu) λh' st' sb=>?_;have I1:Inv X pins σ H { s with heap:=h' }:=I.turned (t':=s.toks) (λb o hb e=>(sb.2 b hb).trans e) f0 f1 f3 f4 f5;obtain⟨o,e,c,d⟩:=id st';exact⟨u,rfl,zMs (s:={ s with heap:=h' }) e c d (by decide) ⟨x,H,I1,ru,⟨rfl,λys hy=>by rw[I.list_inj hy hq]; exact hx⟩,st',λb hb=>(hf b hb).1⟩⟩
 done:=by
  intro X hP hw hK hc i pins s σ H E I hf st hg;subst hP hw hK;obtain⟨xs,hq,hx⟩:=hg;obtain⟨its,rv,p,hz⟩:=I.list hq;obtain⟨f0,f1,f2,f3,f4,f5⟩:=hf it (by simp);have hl:=rv.length;exact wpAny_pyNext_list_end (I.ok.hd hc) st p.isList (by simp; lia) λh' eb=>⟨rfl,I.turned (t':=s.toks) (λb o hb e=>eb b o hb e) f0 f1 f3 f4 f5⟩
 self:=λ_ _ _ _ _ st h=>wpAny_pyIter_listiter st h
theorem zEd{P:Program}{w:World}{K:PySem.W.Frag}{tg:Expr}(a it:Addr):zQ4 P w K tg (Itt K a) [it] it (λi h=>h.IsTupleIter it a i) where
 mem:=by simp
 obj:=λi h st b hb=>by
  have e:b=it:=by simpa using hb
  subst e;obtain⟨o,e,c,d⟩:=st;exact⟨o,e,λv z=>by rw[d] at z; cases z⟩
 keep:=λi h h' st k=>st.at λo e=>k it (by simp) o e
 item:=by
  intro X hP hw hK hc i pins s σ H E I hf st hg;subst hP hw hK;obtain⟨xs,x,hq,hx⟩:=hg;obtain⟨its,rv,p,hz⟩:=I.tuple hq;obtain⟨u,hu,ru⟩:=rv.get hx;obtain⟨f0,f1,f2,f3,f4,f5⟩:=hf it (by simp);refine wpAny_pyNext_tuple_item st (show s.heap.IsTuple a its.toArray from p) (x:=u) (by simpa using hu) λh' st' sb=>?_;have I1:Inv X pins σ H { s with heap:=h' }:=I.turned (t':=s.toks) (λb o hb e=>(sb.2 b hb).trans e) f0 f1 f3 f4 f5;obtain⟨o,e,c,d⟩:=id st';exact⟨u,rfl,zMs (s:={ s with heap:=h' }) e c d (by decide) ⟨x,H,I1,ru,⟨rfl,λys hy=>by rw[I.tuple_inj hy hq]; exact hx⟩,st',λb hb=>(hf b hb).1⟩⟩
 done:=by
  intro X hP hw hK hc i pins s σ H E I hf st hg;subst hP hw hK;obtain⟨xs,hq,hx⟩:=hg;obtain⟨its,rv,p,hz⟩:=I.tuple hq;obtain⟨f0,f1,f2,f3,f4,f5⟩:=hf it (by simp);have hl:=rv.length;exact wpAny_pyNext_tuple_end (I.ok.hd hc) st (show s.heap.IsTuple a its.toArray from p) (by simp; lia) λh' eb=>⟨rfl,I.turned (t':=s.toks) (λb o hb e=>eb b o hb e) f0 f1 f3 f4 f5⟩
 self:=λ_ _ _ _ _ st h=>wpAny_pyIter_tupleiter st h
theorem zI2{P:Program}{w:World}{K:PySem.W.Frag}{tg:Expr}(it:Addr)(lo:Int)(n:Nat):zQ4 P w K tg (Itr lo n) [it] it (λi h=>IsRangeIter h it (lo+(i:Nat)*1) ((n:Int)-(i:Nat)) 1) where
 mem:=by simp
 obj:=λi h st b hb=>by
  have e:b=it:=by simpa using hb
  subst e;exact⟨_,st,λv z=>by
   have z':Data.fields _=Data.cell v:=z;cases z'⟩
 keep:=λi h h' st k=>k it (by simp) _ st
 item:=by
  intro X hP hw hK hc i pins s σ H E I hf st hg;subst hP hw hK;obtain⟨f0,f1,f2,f3,f4,f5⟩:=hf it (by simp);have W:=Walks.range (prog:=X.prog) (w:=X.w) (I.ok.hd hc) it lo 1 n;refine W.item i s _ _ hg st λv h' tk hv st' kk=>?_;obtain⟨t,rfl⟩:=hv;have I1:Inv X pins σ H { s with heap:=h',toks:=tk }:=I.turned (λb o hb e=>kk b o (by simpa using hb) e) f0 f1 f3 f4 f5;refine⟨_,rfl,zMs (s:={ s with heap:=h',toks:=tk }) (n := "range_iterator") st' rfl rfl (by decide) ⟨.int (lo+i),H,I1,⟨t,?_⟩,⟨rfl,rfl⟩,st',λb hb=>(hf b hb).1⟩⟩;rw[Int.mul_one]
 done:=by
  intro X hP hw hK hc i pins s σ H E I hf st hg;subst hP hw hK;obtain⟨f0,f1,f2,f3,f4,f5⟩:=hf it (by simp);exact wpAny_pyNext_range_end (I.ok.hd hc) st (by have:n<=i:=hg; lia) λh' eb=>⟨rfl,I.turned (t':=s.toks) (λb o hb e=>eb b o hb e) f0 f1 f3 f4 f5⟩
 self:=λ_ _ _ _ _ st h=>wpAny_pyIter_rangeiter st h
end L2

namespace L2
open PySem PySem.Spec PyProof.Rows
section
variable{X:Cx}{tg:Expr}
def iList(K:PySem.W.Frag)(tl:TE):TI:=λσ H R=>tl σ H λx H1=>∃ a,x=.ref a/\(∃ xs,SqL K H1 a xs)/\R (Itl K a) H1
def iTup(K:PySem.W.Frag)(tl:TE):TI:=λσ H R=>tl σ H λx H1=>∃ a,x=.ref a/\(∃ xs,SqT K H1 a xs)/\R (Itt K a) H1
theorem zO4{l:Expr}{tl:TE}(hl:PE X l tl):PI X tg l (iList X.K tl):=by
 intro pins s σ H R I h;refine thn (hl pins s σ H _ I h) λv s1 ⟨x,H1,I1,r1,q1⟩=>?_;obtain⟨a,e,⟨xs,hq⟩,q⟩:=q1;subst e;cases r1;obtain⟨its,rv,p,hz⟩:=I1.list hq;refine wpAny_pyIter_list p.isList ?_;refine⟨s1.heap.objs.size,[s1.heap.objs.size],_,_,H1,rfl,I1.kept (t':=s1.toks) λb o e=>Heap.get?_push_of_some _ e,zFq a _,⟨_,Heap.get?_push_size _ rfl,rfl,rfl⟩,λb hb=>?_,q⟩;have e:b=s1.heap.objs.size:=by simpa using hb
 subst e;exact I1.fpOk (Nat.le_refl _) (I1.hok.fresh (Nat.le_refl _))
theorem zSu{l:Expr}{tl:TE}(hl:PE X l tl):PI X tg l (iTup X.K tl):=by
 intro pins s σ H R I h;refine thn (hl pins s σ H _ I h) λv s1 ⟨x,H1,I1,r1,q1⟩=>?_;obtain⟨a,e,⟨xs,hq⟩,q⟩:=q1;subst e;cases r1;obtain⟨its,rv,p,hz⟩:=I1.tuple hq;refine wpAny_pyIter_tuple (show s1.heap.IsTuple a its.toArray from p) ?_;refine⟨s1.heap.objs.size,[s1.heap.objs.size],_,_,H1,rfl,I1.kept (t':=s1.toks) λb o e=>Heap.get?_push_of_some _ e,zEd a _,⟨_,Heap.get?_push_size _ rfl,rfl,rfl⟩,λb hb=>?_,q⟩;have e:b=s1.heap.objs.size:=by simpa using hb
 subst e;exact I1.fpOk (Nat.le_refl _) (I1.hok.fresh (Nat.le_refl _))
theorem zM8{pins:List (Addr×Obj)}{σ:St}{H:Hp}{s:Shared}{R:It->Hp->Prop}{E:Value->Shared->Prop}{lo hi:Int}{t u v:Tok}{tk:Nat}(I:Inv X pins σ H s)(h1 : -(2^62)<=lo)(h2:lo<2^62)(h3 : -(2^62)<=hi)(h4:hi<2^62)
  (q:R (Itr lo (hi-lo).toNat) H):wpAny (model X.prog X.w) X.A (pyIter (.ref s.heap.objs.size)) (PIE X pins σ tg R) E { s with heap:=s.heap.push { cls:=.type "range", data:=.fields #[.int lo t,.int hi u,.int 1 v] },toks:=tk }:=by
 refine wpAny_pyIter_range (IsRange.new ..) (small_one h1 h2 h3 h4) ?_;have I1:Inv X pins σ H { s with heap:=s.heap.push { cls:=.type "range", data:=.fields #[.int lo t,.int hi u,.int 1 v] },toks:=tk }:=I.kept λb o e=>Heap.get?_push_of_some _ e;refine⟨(s.heap.push { cls:=.type "range", data:=.fields #[.int lo t,.int hi u,.int 1 v] }).objs.size,[(s.heap.push { cls:=.type "range", data:=.fields #[.int lo t,.int hi u,.int 1 v] }).objs.size],_,_,H,rfl,
  I1.kept (t':=tk) λb o e=>Heap.get?_push_of_some _ e,zI2 _ lo (hi-lo).toNat,?_,λb hb=>?_,q⟩
 ·have e1:lo+((0:Nat):Int)*1=lo:=by simp
  have e2:(((hi-lo).toNat:Nat):Int)-((0:Nat):Int)=Builtin.Range.rangeSize lo hi 1:=by rw[rangeSize_one]; split <;> lia
  show IsRangeIter _ _ (lo+((0:Nat):Int)*1) ((((hi-lo).toNat:Nat):Int)-((0:Nat):Int)) 1;rw[e1,e2];exact Heap.get?_push_size _ rfl
 ·have e:b=(s.heap.push { cls:=.type "range", data:=.fields #[.int lo t,.int hi u,.int 1 v] }).objs.size:=by simpa using hb
  subst e;exact I1.fpOk (Nat.le_refl _) (I1.hok.fresh (Nat.le_refl _))
def iRng1(ta:TA):TI:=λσ H R=>ta σ H λvs H1=>∃ j:Int,vs=[.int j]/\-(2^62)<=j/\j<2^62/\R (Itr 0 j.toNat) H1
theorem xA{a:Expr}{ta:TA}{p pos:Pos}(hg:Gl X "range")(hm:X.mg "range" = none)(ha:PA X [a] ta)(hs:starEach [a] X.env=[(false,eval a X.env)]:=by rfl):PI X tg (.Call (.Name "range" p) [a] [] pos) (iRng1 ta):=by
 intro pins s σ H R I h;refine Call_ (zG4 I hg hm boot_range (PyProof.Rows.callWith_type1 (thn (ha pos pins s σ H _ I h) λus s1 ⟨vs,H1,I1,r1,q1⟩=>?_) hs rfl));obtain⟨j,e,q1,q2,q⟩:=q1;subst e;cases r1 with
 | cons r rr =>
  cases rr;obtain⟨t,rfl⟩:=r;exact call_range_1 (zM8 I1 (by lia) (by lia) q1 q2 (by simpa using q))
def tFor(wi:TI)(g:TG)(tb:TS):TS:=λD σ H=>wi σ H λJ H1=>∃ W:Nat->Nat->St->Hp->Prop,(∃ m,W 0 m σ H1)/\∀ i m σ H,W i m σ H ->
 (J.stop i H/\D.nx σ H)\/(J.go i H/\∃ N:St->Hp->Prop,(∀ σ' H',N σ' H'->∃ m',m'<m/\W (i+1) m' σ' H')/\∀ x H',J.yld i H x H'->g x σ H' λσ2 H2=>tb { D with nx:=N,ct:=N,bk:=D.nx } σ2 H2)
def zGm(fp:List Addr)(h:Heap):List (Addr×Obj):=fp.filterMap λb=>(h.get? b).map λo=>(b,o)
theorem rH{fp:List Addr}{h:Heap}{b:Addr}{o:Obj}(hb:b∈fp)(e:h.get? b=some o):(b,o)∈zGm fp h:=List.mem_filterMap.mpr ⟨b,hb,by rw[e]; rfl⟩
theorem zKv{fp:List Addr}{h:Heap}{p:Addr×Obj}(hp:p∈zGm fp h):p.1∈fp/\h.get? p.1=some p.2:=by
 obtain⟨b,hb,e⟩:=List.mem_filterMap.mp hp;cases q:h.get? b with
 | none=>rw[q] at e; cases e
 | some o =>
  rw[q] at e;have e':(b,o)=p:=Option.some.inj e;subst e';exact⟨hb,q⟩
theorem Inv.pinned{pins:List (Addr×Obj)}{σ:St}{H:Hp}{s:Shared}{fp:List Addr}(I:Inv X pins σ H s)(hf:∀ b∈fp,zL6 X pins H b)(ho:∀ b∈fp,∃ o,s.heap.get? b=some o/\∀ v,o.data≠.cell v):Inv X (pins++zGm fp s.heap) σ H s :=
 I.pins_of λp hp=>(List.mem_append.mp hp).elim (λz=>I.pin p (List.mem_append_right _ z)) λz=>by
  obtain⟨hb,e⟩:=zKv z;obtain⟨f0,f1,f2,_⟩:=hf p.1 hb;obtain⟨o,e',d⟩:=ho p.1 hb;rw[e] at e'; cases e';exact⟨e,f0,f1,f2,d⟩
theorem Inv.unpinned{pins pl:List (Addr×Obj)}{σ:St}{H:Hp}{s:Shared}(I:Inv X (pins++pl) σ H s):Inv X pins σ H s:=I.pins_of λp hp=>I.pin p (List.mem_append_right _ (List.mem_append_left _ hp))
theorem wP{iter:Expr}{body:List Stmt}{wi:TI}{g:TG}{tb:TS}{pos:Pos}(hp:PassesOwn (model X.prog X.w) X.A X.env X.xe)(hc:X.calm=true)(hi:PI X tg iter wi)(hg:PG X tg g)(hb:PSs X body tb)
  (hs:∀ x,foldedSetIterable iter X.env x=pure x:=by intro _; rfl):PS X (.For tg iter body [] pos) (tFor wi g tb):=by
 intro pins s σ H D I h;refine wpAny_For (thn (hi pins s σ H _ I h) λv s1 h1=>thn h1 λitv s2 h2=>?_) hs;obtain⟨it,fp,tn,J,H2,e,I2,T,st2,f2,W,⟨m0,w0⟩,turn⟩:=h2;subst e;have stat:∀{H':Hp},(∀ b∈fp,H' b=none)->∀ b∈fp,zL6 X pins H' b:=λhn b hb=>⟨hn b hb,(f2 b hb).2⟩;refine codeAny_forLoop_any (λn s'=>∃ i σ' H',Inv X pins σ' H' s'/\tn i s'.heap/\(∀ b∈fp,H' b=none)/\W i n σ' H') ?_ m0 ⟨0,σ,H2,I2,st2,λb hb=>(f2 b hb).1,w0⟩;rintro n s3 ⟨i,σ3,H3,I3,st3,fr3,w3⟩;rcases turn i n σ3 H3 w3 with ⟨stop,qn⟩ | ⟨go,N,hN,step⟩
 ·refine wpAny_passesOwn hp (thn (T.done X rfl rfl rfl hc i pins s3 σ3 H3 X.xe I3 (stat fr3) st3 stop) λr s4 ⟨hr,I4⟩=>?_);subst hr;exact wpAny_execs_nil ⟨σ3,H3,I4,qn⟩
 ·refine wpAny_passesOwn hp (thn (T.item X rfl rfl rfl hc i pins s3 σ3 H3 X.xe I3 (stat fr3) st3 go) λr s4 ⟨u,hr,h4⟩=>?_);subst hr;refine wpAny_passesOwn hp (thn h4 λ_ s5 ⟨x,H5,I5,r5,y5,st5,fr5⟩=>?_);have I5':=I5.pinned (stat fr5) (T.obj _ _ st5);refine wpAny_passesOwn hp (thn (hg _ s5 σ3 H5 x u _ I5' r5 (step x H5 y5)) λ_ s6 ⟨σ6,H6,I6,q6⟩=>?_);refine wpAny_passesOwn hp (thn (hb _ s6 σ6 H6 _ I6 q6) λf s7 q7=>?_);have again:∀{σ7:St}{H7:Hp},Inv X (pins++zGm fp s5.heap) σ7 H7 s7->N σ7 H7->∃ m,m<n/\∃ i σ' H',Inv X pins σ' H' s7/\tn i s7.heap/\(∀ b∈fp,H' b=none)/\W i m σ' H':=λ{σ7 H7} I7 n7=>by
   obtain⟨m',hm,w7⟩:=hN σ7 H7 n7;refine⟨m',hm,i+1,σ7,H7,I7.unpinned,T.keep _ _ _ st5 λb hb o e=>(I7.pin (b,o) (List.mem_append_right _ (List.mem_append_right _ (rH hb e)))).1,λb hb=>?_,w7⟩;obtain⟨o,e,d⟩:=T.obj _ _ st5 b hb;exact(I7.pin (b,o) (List.mem_append_right _ (List.mem_append_right _ (rH hb e)))).2.1
  cases f with
  | next=>obtain⟨σ7,H7,I7,n7⟩:=q7; exact again I7 n7
  | cont=>obtain⟨σ7,H7,I7,n7⟩:=q7; exact again I7 n7
  | brk=>obtain⟨σ7,H7,I7,q7⟩:=q7; exact⟨σ7,H7,I7.unpinned,q7⟩
  | ret v=>obtain⟨x7,σ7,H7,I7,r7,q7⟩:=q7; exact⟨x7,σ7,H7,I7.unpinned,r7,q7⟩
end

theorem uQ{K:PySem.W.Frag}{a:Addr}{xs:List V}{g:TG}{tb:TS}{D:zLy}{σ:St}{H:Hp}(Pv:Nat->St->Hp->Prop)(h0:Pv 0 σ H)(hl:∀ i σ H,i<=xs.length->Pv i σ H->SqL K H a xs)
  (hs:∀ i x σ H,xs[i]?=some x->Pv i σ H->g x σ H λσ2 H2=>tb { D with nx:=Pv (i+1),ct:=Pv (i+1),bk:=D.nx } σ2 H2) (hd:∀ σ H,Pv xs.length σ H->D.nx σ H) :
  ∃ W:Nat->Nat->St->Hp->Prop,(∃ m,W 0 m σ H)/\∀ i m σ H,W i m σ H ->
   ((Itl K a).stop i H/\D.nx σ H)\/((Itl K a).go i H/\∃ N:St->Hp->Prop,(∀ σ' H',N σ' H'->∃ m',m'<m/\W (i+1) m' σ' H')/\∀ x H',(Itl K a).yld i H x H'->g x σ H' λσ2 H2=>tb { D with nx:=N,ct:=N,bk:=D.nx } σ2 H2):=by
 exists λi m σ H=>m=xs.length-i/\i<=xs.length/\Pv i σ H,⟨xs.length,by simp,Nat.zero_le _,h0⟩;rintro i m σ H ⟨rfl,hi,p⟩;have q:=hl i σ H hi p;by_cases hlt:i<xs.length
 ·refine .inr ⟨⟨xs,xs[i],q,by simp[hlt]⟩,Pv (i+1),λσ' H' p'=>⟨xs.length-(i+1),by lia,rfl,hlt,p'⟩,λx H' y=>?_⟩;obtain⟨e,y⟩:=y;subst e;exact hs i x σ _ (y xs q) p
 ·have e:i=xs.length:=by lia
  subst e;exact .inl ⟨⟨xs,q,Nat.le_refl _⟩,hd σ H p⟩
theorem zL3{K:PySem.W.Frag}{a:Addr}{xs:List V}{g:TG}{tb:TS}{D:zLy}{σ:St}{H:Hp}(Pv:Nat->St->Hp->Prop)(h0:Pv 0 σ H)(hl:∀ i σ H,i<=xs.length->Pv i σ H->SqT K H a xs)
  (hs:∀ i x σ H,xs[i]?=some x->Pv i σ H->g x σ H λσ2 H2=>tb { D with nx:=Pv (i+1),ct:=Pv (i+1),bk:=D.nx } σ2 H2) (hd:∀ σ H,Pv xs.length σ H->D.nx σ H) :
  ∃ W:Nat->Nat->St->Hp->Prop,(∃ m,W 0 m σ H)/\∀ i m σ H,W i m σ H ->
   ((Itt K a).stop i H/\D.nx σ H)\/((Itt K a).go i H/\∃ N:St->Hp->Prop,(∀ σ' H',N σ' H'->∃ m',m'<m/\W (i+1) m' σ' H')/\∀ x H',(Itt K a).yld i H x H'->g x σ H' λσ2 H2=>tb { D with nx:=N,ct:=N,bk:=D.nx } σ2 H2):=by
 exists λi m σ H=>m=xs.length-i/\i<=xs.length/\Pv i σ H,⟨xs.length,by simp,Nat.zero_le _,h0⟩;rintro i m σ H ⟨rfl,hi,p⟩;have q:=hl i σ H hi p;by_cases hlt:i<xs.length
 ·refine .inr ⟨⟨xs,xs[i],q,by simp[hlt]⟩,Pv (i+1),λσ' H' p'=>⟨xs.length-(i+1),by lia,rfl,hlt,p'⟩,λx H' y=>?_⟩;obtain⟨e,y⟩:=y;subst e;exact hs i x σ _ (y xs q) p
 ·have e:i=xs.length:=by lia
  subst e;exact .inl ⟨⟨xs,q,Nat.le_refl _⟩,hd σ H p⟩
theorem uG{lo:Int}{n:Nat}{g:TG}{tb:TS}{D:zLy}{σ:St}{H:Hp}(Pv:Nat->St->Hp->Prop)(h0:Pv 0 σ H)
  (hs:∀ i σ H,i<n->Pv i σ H->g (.int (lo+i)) σ H λσ2 H2=>tb { D with nx:=Pv (i+1),ct:=Pv (i+1),bk:=D.nx } σ2 H2) (hd:∀ σ H,Pv n σ H->D.nx σ H) :
  ∃ W:Nat->Nat->St->Hp->Prop,(∃ m,W 0 m σ H)/\∀ i m σ H,W i m σ H ->
   ((Itr lo n).stop i H/\D.nx σ H)\/((Itr lo n).go i H/\∃ N:St->Hp->Prop,(∀ σ' H',N σ' H'->∃ m',m'<m/\W (i+1) m' σ' H')/\∀ x H',(Itr lo n).yld i H x H'->g x σ H' λσ2 H2=>tb { D with nx:=N,ct:=N,bk:=D.nx } σ2 H2):=by
 exists λi m σ H=>m=n-i/\i<=n/\Pv i σ H,⟨n,by simp,Nat.zero_le _,h0⟩;rintro i m σ H ⟨rfl,hi,p⟩;by_cases hlt:i<n
 ·refine .inr ⟨hlt,Pv (i+1),λσ' H' p'=>⟨n-(i+1),by lia,rfl,hlt,p'⟩,λx H' y=>?_⟩;obtain⟨e,y⟩:=y;subst e y;exact hs i σ _ hlt p
 ·have e:i=n:=by lia
  subst e;exact .inl ⟨Nat.le_refl _,hd σ H p⟩
theorem qC{c:TT}{tb:TS}{D:zLy}{σ:St}{H:Hp}(Pv:St->Hp->Prop)(μ:St->Hp->Nat)(h0:Pv σ H)
  (hs:∀ σ H,Pv σ H->c σ H λb H1=>if b=true then tb { D with nx:=λσ' H'=>Pv σ' H'/\μ σ' H'<μ σ H,ct:=λσ' H'=>Pv σ' H'/\μ σ' H'<μ σ H,bk:=D.nx } σ H1 else D.nx σ H1)
  (mono:∀ σ H Q Q',(∀ b H1,Q b H1->Q' b H1)->c σ H Q->c σ H Q'):zOq c tb D σ H:=by
 exists λm σ H=>m=μ σ H/\Pv σ H,⟨_,rfl,h0⟩;rintro m σ H ⟨rfl,p⟩;refine mono σ H _ _ (λb H1 q=>?_) (hs σ H p);cases b with
 | true=>exact⟨_,λσ' H' ⟨p',l⟩=>⟨_,l,rfl,p'⟩,q⟩
 | false=>exact q
end L2

namespace L2
open PySem PySem.Spec PyProof.Rows

abbrev R2:=V->V->Hp->VK->Prop
def OpR(X:Cx)(f:Value->Value->Sem Value)(r:R2):Prop :=
 ∀(pins:List (Addr×Obj))(s:Shared)(σ:St)(H:Hp)(x y:V)(v u:Value)(Q:VK),Inv X pins σ H s->yQ x v->yQ y u->r x y H Q ->
  wpAny (model X.prog X.w) X.A (f v u) (EP X pins σ Q) X.xe s
def UnR(X:Cx)(f:Value->Sem Value)(r:V->Hp->VK->Prop):Prop :=
 ∀(pins:List (Addr×Obj))(s:Shared)(σ:St)(H:Hp)(x:V)(v:Value)(Q:VK),Inv X pins σ H s->yQ x v->r x H Q ->
  wpAny (model X.prog X.w) X.A (f v) (EP X pins σ Q) X.xe s
def wR(X:Cx)(f:Value)(r:List V->Hp->VK->Prop):Prop :=
 ∀(pins:List (Addr×Obj))(s:Shared)(σ:St)(H:Hp)(xs:List V)(us:List Value)(Q:VK),Inv X pins σ H s->yL xs us->r xs H Q ->
  wpAny (model X.prog X.w) X.A (call f us) (EP X pins σ Q) X.xe s
def tOp(r:R2)(ta tb:TE):TE:=λσ H Q=>ta σ H λx H1=>tb σ H1 λy H2=>r x y H2 Q
def tUn(r:V->Hp->VK->Prop)(ta:TE):TE:=λσ H Q=>ta σ H λx H1=>r x H1 Q
inductive RI(C:Int->Int->Prop)(g:Int->Int->V)(x y:V)(H:Hp)(Q:VK):Prop where
 | mk (i j:Int) (ex:x=.int i) (ey:y=.int j) (c:C i j) (q:Q (g i j) H)
def rI(C:Int->Int->Prop)(g:Int->Int->V):R2:=λx y H Q=>RI C g x y H Q
inductive RI0(g:Int->Int->V)(x y:V)(H:Hp)(Q:VK):Prop where
 | mk (i j:Int) (ex:x=.int i) (ey:y=.int j) (q:Q (g i j) H)
def rI0(g:Int->Int->V):R2:=λx y H Q=>RI0 g x y H Q
inductive RU(g:Int->V)(x:V)(H:Hp)(Q:VK):Prop where
 | mk (i:Int) (ex:x=.int i) (q:Q (g i) H)
def rU(g:Int->V):V->Hp->VK->Prop:=λx H Q=>RU g x H Q

section
variable{X:Cx}{a b c:Expr}{ta tb tc:TE}{pos:Pos}

theorem zTn(ha:PE X a ta)(hb:PE X b tb){pins:List (Addr×Obj)}{s:Shared}{σ:St}{H:Hp}{R:V->V->Hp->Prop}(I:Inv X pins σ H s)
  (h:ta σ H λx H1=>tb σ H1 λy H2=>R x y H2) {Q:Value->Shared->Prop} {f:Value->Value->Sem Value}
  (hf:∀ v u s2 x y H2,Inv X pins σ H2 s2->yQ x v->yQ y u->R x y H2->wpAny (model X.prog X.w) X.A (f v u) Q X.xe s2) :
  wpAny (model X.prog X.w) X.A (eval a X.env) (λv s₁=>wpAny (model X.prog X.w) X.A (eval b X.env) (λu s₂=>wpAny (model X.prog X.w) X.A (f v u) Q X.xe s₂) X.xe s₁) X.xe s:=by
 refine thn (ha pins s σ H _ I h) λv s1 ⟨x,H1,I1,r1,q1⟩=>?_;refine thn (hb pins s1 σ H1 _ I1 q1) λu s2 ⟨y,H2,I2,r2,q2⟩=>?_;exact hf v u s2 x y H2 I2 r1 r2 q2

theorem sS{op:Operator}{r:R2}(ho:OpR X (binaryOp op) r)(ha:PE X a ta)(hb:PE X b tb):PE X (.BinOp a op b pos) (tOp r ta tb):=by
 intro pins s σ H Q I h;exact wpAny_BinOp (zTn ha hb I h λv u s2 x y H2 I2 rx ry q=>ho pins s2 σ H2 x y v u Q I2 rx ry q)
theorem pe_un{op:UnaryOp}{r:V->Hp->VK->Prop}(ho:UnR X (unaryOp op) r)(ha:PE X a ta):PE X (.UnaryOp op a pos) (tUn r ta):=by
 intro pins s σ H Q I h;exact UnaryOp_ (thn (ha pins s σ H _ I h) λv s1 ⟨x,H1,I1,r1,q1⟩=>ho pins s1 σ H1 x v Q I1 r1 q1)
theorem opI{f:Value->Value->Sem Value}{C:Int->Int->Prop}{g:Int->Int->Int}
  (rule:∀(i j:Int)(t u:Tok)(s:Shared)(Q:Value->Shared->Prop)(E:Value->Shared->Prop),C i j->Q (.int (g i j) s.toks) { s with toks:=s.toks+1 }->wpAny (model X.prog X.w) X.A (f (.int i t) (.int j u)) Q E s) :
  OpR X f (rI C λi j=>.int (g i j)):=by
 intro pins s σ H x y v u Q I rx ry h;obtain⟨i,j,rfl,rfl,hc,q⟩:=h;obtain⟨t,rfl⟩:=rx;obtain⟨t',rfl⟩:=ry;exact rule i j t t' s _ _ hc ⟨.int (g i j),H,I.tok _,⟨_,rfl⟩,q⟩
theorem opI0{f:Value->Value->Sem Value}{g:Int->Int->Int}
  (rule:∀(i j:Int)(t u:Tok)(s:Shared)(Q:Value->Shared->Prop)(E:Value->Shared->Prop),Q (.int (g i j) s.toks) { s with toks:=s.toks+1 }->wpAny (model X.prog X.w) X.A (f (.int i t) (.int j u)) Q E s) :
  OpR X f (rI0 λi j=>.int (g i j)):=by
 intro pins s σ H x y v u Q I rx ry h;obtain⟨i,j,rfl,rfl,q⟩:=h;obtain⟨t,rfl⟩:=rx;obtain⟨t',rfl⟩:=ry;exact rule i j t t' s _ _ ⟨.int (g i j),H,I.tok _,⟨_,rfl⟩,q⟩
theorem zTi{f:Value->Value->Sem Value}{g:Int->Int->Bool}
  (rule:∀(i j:Int)(t u:Tok)(s:Shared)(Q:Value->Shared->Prop)(E:Value->Shared->Prop),Q (.bool (g i j)) s->wpAny (model X.prog X.w) X.A (f (.int i t) (.int j u)) Q E s) :
  OpR X f (rI0 λi j=>.bl (g i j)):=by
 intro pins s σ H x y v u Q I rx ry h;obtain⟨i,j,rfl,rfl,q⟩:=h;obtain⟨t,rfl⟩:=rx;obtain⟨t',rfl⟩:=ry;exact rule i j t t' s _ _ ⟨.bl (g i j),H,I,rfl,q⟩

def CPow(i j:Int):Prop:=0<=j/\j<=1000000/\i.natAbs<2^64
def zQ5(i j:Int):Prop:=(-(2^64)<i/\i<2^64)\/(-(2^64)<j/\j<2^64)
theorem zQ5.ok{i j:Int}(h:zQ5 i j):IntMulOk i j:=by
 rcases h with ⟨h1,h2⟩ | ⟨h1,h2⟩
 ·exact .of_left (intBits_le_64 h1 h2)
 ·exact .of_right (intBits_le_64 h1 h2)
theorem zIx:OpR X (binaryOp .Add) (rI0 λi j=>.int (i+j)):=opI0 λ_ _ _ _ _ _ _ q=>add_int q
theorem zRa:OpR X (binaryOp .Sub) (rI0 λi j=>.int (i-j)):=opI0 λ_ _ _ _ _ _ _ q=>sub_int q
theorem zFy:OpR X (binaryOp .Mult) (rI zQ5 λi j=>.int (i*j)):=opI λ_ _ _ _ _ _ _ hc q=>mul_int q hc.ok
theorem zOo:OpR X (binaryOp .Mod) (rI (λ_ j=>0<j) λi j=>.int (i%j)):=opI λi j _ _ _ _ _ hc q=>by
 have h1:(0:Int)<j:=hc;exact mod_int' (by lia) (by rw[Int.fmod_eq_emod_of_nonneg i (by lia)]; exact q)
theorem zSx:OpR X (binaryOp .Pow) (rI CPow λi j=>.int (i^j.toNat)):=opI λ_ _ _ _ _ _ _ hc q=>pow_int_small hc.1 hc.2.1 hc.2.2 q
theorem unI{f:Value->Sem Value}{g:Int->Int}
  (rule:∀(i:Int)(t:Tok)(s:Shared)(Q:Value->Shared->Prop)(E:Value->Shared->Prop),Q (.int (g i) s.toks) { s with toks:=s.toks+1 }->wpAny (model X.prog X.w) X.A (f (.int i t)) Q E s) :
  UnR X f (rU λi=>.int (g i)):=by
 intro pins s σ H x v Q I rx h;obtain⟨i,rfl,q⟩:=h;obtain⟨t,rfl⟩:=rx;exact rule i t s _ _ ⟨.int (g i),H,I.tok _,⟨_,rfl⟩,q⟩
theorem zSv:UnR X (unaryOp .USub) (rU λi=>.int (-i)):=unI λ_ _ _ _ _ q=>neg_int q
end

def zR4:V->V->Bool
 | .non,.non=>true | .non,.int _=>true | .int _,.non=>true | .non,.bl _=>true | .bl _,.non=>true | .non,.str _=>true | .str _,.non=>true
 | .int _,.int _=>true | .bl _,.bl _=>true | .str _,.str _=>true | .byt _,.byt _=>true
 | .int _,.str _=>true | .str _,.int _=>true | .bl _,.str _=>true | .str _,.bl _=>true
 | _,_=>false
def rEq:R2:=λx y H Q=>zR4 x y=true/\Q (.bl (decide (x=y))) H
def rNe:R2:=λx y H Q=>zR4 x y=true/\Q (.bl (!decide (x=y))) H

theorem zL2{i j:Int} : decide (V.int i=V.int j)=(i == j):=by
 rw[Bool.eq_iff_iff];simp
theorem zO3{i j:Bool} : decide (V.bl i=V.bl j)=(i == j):=by
 rw[Bool.eq_iff_iff];simp
theorem zK1{i j:Str} : decide (V.str i=V.str j)=(i == j):=by
 rw[Bool.eq_iff_iff];simp
theorem zKy{i j:Array UInt8} : decide (V.byt i=V.byt j)=(i.toList == j.toList):=by
 rw[Bool.eq_iff_iff];cases i;cases j;simp

section
variable{X:Cx}{a b c:Expr}{ta tb tc:TE}{pos:Pos}
theorem yJ{pins:List (Addr×Obj)}{σ:St}{H:Hp}{s:Shared}{Q:VK}{k k':Bool}(I:Inv X pins σ H s)(q:Q (.bl k) H)(e:k=k'):EP X pins σ Q (.bool k') s:=by
 subst e;exact⟨.bl k,H,I,rfl,q⟩
theorem zPp:OpR X (compareOp .Eq) rEq:=by
 intro pins s σ H x y v u Q I rx ry h;obtain⟨hs,q⟩:=h;cases x with
 | non =>
  cases rx;cases y with
  | non=>cases ry; exact PySem.EqNone.eq_none_none (yJ I q (by simp))
  | bl j=>cases ry; exact PySem.EqNone.eq_none_bool (yJ I q (by simp))
  | int j=>obtain⟨t',rfl⟩:=ry; exact PySem.EqNone.eq_none_int (yJ I q (by simp))
  | str j=>obtain⟨t',rfl⟩:=ry; exact PySem.EqNone.eq_none_str (yJ I q (by simp))
  | _=>exact absurd (show false=true from hs) Bool.false_ne_true
 | bl i =>
  cases rx;cases y with
  | non=>cases ry; exact PySem.EqNone.eq_bool_none (yJ I q (by simp))
  | bl j=>cases ry; exact eq_bool (yJ I q zO3)
  | str j=>obtain⟨t',rfl⟩:=ry; exact PySem.EqMixed.eq_bool_str (yJ I q (by simp))
  | _=>exact absurd (show false=true from hs) Bool.false_ne_true
 | int i =>
  obtain⟨t,rfl⟩:=rx;cases y with
  | non=>cases ry; exact PySem.EqNone.eq_int_none (yJ I q (by simp))
  | int j=>obtain⟨t',rfl⟩:=ry; exact eq_int (yJ I q zL2)
  | str j=>obtain⟨t',rfl⟩:=ry; exact PySem.EqMixed.eq_int_str (yJ I q (by simp))
  | _=>exact absurd (show false=true from hs) Bool.false_ne_true
 | str i =>
  obtain⟨t,rfl⟩:=rx;cases y with
  | non=>cases ry; exact PySem.EqNone.eq_str_none (yJ I q (by simp))
  | bl j=>cases ry; exact PySem.EqMixed.eq_str_bool (yJ I q (by simp))
  | int j=>obtain⟨t',rfl⟩:=ry; exact PySem.EqMixed.eq_str_int (yJ I q (by simp))
  | str j=>obtain⟨t',rfl⟩:=ry; exact eq_str (yJ I q zK1)
  | _=>exact absurd (show false=true from hs) Bool.false_ne_true
 | byt i =>
  obtain⟨t,rfl⟩:=rx;cases y with
  | byt j=>obtain⟨t',rfl⟩:=ry; exact PySem.W.eq_bytes (yJ I q zKy)
  | _=>exact absurd (show false=true from hs) Bool.false_ne_true
 | _=>cases y <;> exact absurd (show false=true from hs) Bool.false_ne_true
theorem zSi:OpR X (compareOp .NotEq) rNe:=by
 intro pins s σ H x y v u Q I rx ry h;obtain⟨hs,q⟩:=h;cases x with
 | non =>
  cases rx;cases y with
  | non=>cases ry; exact PySem.EqNone.ne_none_none (yJ I q (by simp))
  | bl j=>cases ry; exact PySem.EqNone.ne_none_bool (yJ I q (by simp))
  | int j=>obtain⟨t',rfl⟩:=ry; exact PySem.EqNone.ne_none_int (yJ I q (by simp))
  | str j=>obtain⟨t',rfl⟩:=ry; exact PySem.EqNone.ne_none_str (yJ I q (by simp))
  | _=>exact absurd (show false=true from hs) Bool.false_ne_true
 | bl i =>
  cases rx;cases y with
  | non=>cases ry; exact PySem.EqNone.ne_bool_none (yJ I q (by simp))
  | bl j=>cases ry; exact ne_bool (yJ I q (congrArg not zO3))
  | str j=>obtain⟨t',rfl⟩:=ry; exact PySem.EqMixed.ne_bool_str (yJ I q (by simp))
  | _=>exact absurd (show false=true from hs) Bool.false_ne_true
 | int i =>
  obtain⟨t,rfl⟩:=rx;cases y with
  | non=>cases ry; exact PySem.EqNone.ne_int_none (yJ I q (by simp))
  | int j=>obtain⟨t',rfl⟩:=ry; exact ne_int (yJ I q (congrArg not zL2))
  | str j=>obtain⟨t',rfl⟩:=ry; exact PySem.EqMixed.ne_int_str (yJ I q (by simp))
  | _=>exact absurd (show false=true from hs) Bool.false_ne_true
 | str i =>
  obtain⟨t,rfl⟩:=rx;cases y with
  | non=>cases ry; exact PySem.EqNone.ne_str_none (yJ I q (by simp))
  | bl j=>cases ry; exact PySem.EqMixed.ne_str_bool (yJ I q (by simp))
  | int j=>obtain⟨t',rfl⟩:=ry; exact PySem.EqMixed.ne_str_int (yJ I q (by simp))
  | str j=>obtain⟨t',rfl⟩:=ry; exact ne_str (yJ I q (congrArg not zK1))
  | _=>exact absurd (show false=true from hs) Bool.false_ne_true
 | byt i =>
  obtain⟨t,rfl⟩:=rx;cases y with
  | byt j=>obtain⟨t',rfl⟩:=ry; exact PySem.W.ne_bytes (yJ I q (congrArg not zKy))
  | _=>exact absurd (show false=true from hs) Bool.false_ne_true
 | _=>cases y <;> exact absurd (show false=true from hs) Bool.false_ne_true

theorem zQz:OpR X (compareOp .Lt) (rI0 λi j=>.bl (decide (i<j))):=zTi λ_ _ _ _ _ _ _ q=>lt_int q
theorem zOb:OpR X (compareOp .LtE) (rI0 λi j=>.bl (decide (i<=j))):=zTi λ_ _ _ _ _ _ _ q=>le_int q
theorem zM7:OpR X (compareOp .Gt) (rI0 λi j=>.bl (decide (j<i))):=zTi λ_ _ _ _ _ _ _ q=>gt_int q
theorem zPu:OpR X (compareOp .GtE) (rI0 λi j=>.bl (decide (j<=i))):=zTi λ_ _ _ _ _ _ _ q=>ge_int q
theorem yV(b:Expr){op:CmpOp}(h:op≠.In:=by decide)(h2:op≠.NotIn:=by decide):behindInMarks op b=false:=by
 have e1:(op == CmpOp.In)=false:=by cases op <;> first | rfl | exact absurd rfl h
 have e2:(op == CmpOp.NotIn)=false:=by cases op <;> first | rfl | exact absurd rfl h2
 cases b <;> simp[behindInMarks,e1,e2]
theorem sF{op:CmpOp}{r:R2}(ho:OpR X (compareOp op) r)(ha:PE X a ta)(hb:PE X b tb)(hm:behindInMarks op b=false):PE X (.Compare a [op] [b] pos) (tOp r ta tb):=by
 intro pins s σ H Q I h;exact wpAny_Compare1 (zTn ha hb I h λv u s2 x y H2 I2 rx ry q=>ho pins s2 σ H2 x y v u Q I2 rx ry q) hm
def zNy(t:TE):TT:=λσ H Q=>t σ H λx H'=>∃ k,x=.bl k/\Q k H'
theorem yT{op:CmpOp}{r:R2}(ho:OpR X (compareOp op) r)(ha:PE X a ta)(hb:PE X b tb)(hm:behindInMarks op b=false):PT X (.Compare a [op] [b] pos) (zNy (tOp r ta tb)):=by
 intro pins s σ H Q I h;refine wpAny_isTrue_Compare1 (thn (ha pins s σ H _ I h) λv s1 ⟨x,H1,I1,r1,q1⟩=>thn (hb pins s1 σ H1 _ I1 q1) λu s2 ⟨y,H2,I2,r2,q2⟩ =>
  thn (ho pins s2 σ H2 x y v u _ I2 r1 r2 q2) λc s3 ⟨z,H3,I3,r3,k,e,q3⟩=>?_) hm
 subst e;cases r3;exact wpAny_truthy_bool ⟨H3,I3,q3⟩
def zSd(r r':R2)(ta tb tc:TE):TE:=λσ H Q=>ta σ H λx H1=>tb σ H1 λy H2=>r x y H2 λz H3=>∃ k,z=.bl k /\
 (if k=true then tc σ H3 λw' H4=>r' y w' H4 Q else Q (.bl false) H3)
theorem zIe{op op':CmpOp}{r r':R2}(ho:OpR X (compareOp op) r)(ho':OpR X (compareOp op') r')(ha:PE X a ta)(hb:PE X b tb)(hc:PE X c tc)
  (hm:lastMarks [op,op'] [b,c]=false:=by with_unfolding_all rfl):PE X (.Compare a [op,op'] [b,c] pos) (zSd r r' ta tb tc):=by
 intro pins s σ H Q I h;refine Compare_chain (thn (ha pins s σ H _ I h) λv s1 ⟨x,H1,I1,r1,q1⟩=>chain_link (thn (hb pins s1 σ H1 _ I1 q1) λu s2 ⟨y,H2,I2,r2,q2⟩ =>
  thn (ho pins s2 σ H2 x y v u _ I2 r1 r2 q2) λd s3 ⟨z,H3,I3,r3,k,e,q3⟩=>?_)) hm
 subst e;cases r3;refine wpAny_truthy_bool ?_;cases k with
 | false=>exact ite_ff ⟨.bl false,H3,I3,rfl,q3⟩
 | true=>exact ite_tt (chain_last (thn (hc pins s3 σ H3 _ I3 q3) λw' s4 ⟨z',H4,I4,r4,q4⟩=>ho' pins s4 σ H4 y z' u w' Q I4 r2 r4 q4))
theorem zDq:(sizeLine:Nat)<2^63:=by rw[sizeLine_eq]; decide
theorem zDw:OpR X (binaryOp .Add) (λx y H Q=>∃ i j,x=.str i/\y=.str j/\i.length+j.length<=sizeLine/\Q (.str (i++j)) H):=by
 intro pins s σ H x y v u Q I rx ry h;obtain⟨i,j,rfl,rfl,hz,q⟩:=h;obtain⟨t,rfl⟩:=rx;obtain⟨t',rfl⟩:=ry;exact add_str (λt' tk=>⟨.str (i++j),H,I.tok _,⟨_,rfl⟩,q⟩) hz
theorem zDo{x:V}{us:List Value}(r:yL [x] us):∃ u,us=[u]/\yQ x u:=by
 cases r with
 | cons r1 r2=>cases r2; exact⟨_,rfl,r1⟩
theorem zP5{x y:V}{us:List Value}(r:yL [x,y] us):∃ u w',us=[u,w']/\yQ x u/\yQ y w':=by
 cases r with
 | cons r1 r2 =>
  cases r2 with
  | cons r3 r4=>cases r4; exact⟨_,_,rfl,r1,r3⟩
theorem zNc:wR X (.builtin "abs") (λxs H Q=>∃ i,xs=[.int i]/\Q (.int (if i<0 then -i else i)) H):=by
 intro pins s σ H xs us Q I r h;obtain⟨i,rfl,q⟩:=h;obtain⟨u,rfl,t,rfl⟩:=zDo r;exact call_abs_int λu tk=>⟨.int (if i<0 then -i else i),H,I.tok _,⟨_,rfl⟩,q⟩
theorem zKk(hc:X.calm=true):wR X (.builtin "max") (λxs H Q=>∃ i j,xs=[.int i,.int j]/\Q (.int (if j>i then j else i)) H):=by
 intro pins s σ H xs us Q I r h;obtain⟨i,j,rfl,q⟩:=h;obtain⟨u,w',rfl,⟨t,rfl⟩,⟨t',rfl⟩⟩:=zP5 r;refine max_two_ints (I.ok.hd hc) λh' tk k=>⟨_,H,I.kept k,?_,q⟩;by_cases hj:j>i
 ·rw[if_pos hj,if_pos hj]; exact⟨_,rfl⟩
 ·rw[if_neg hj,if_neg hj]; exact⟨_,rfl⟩
theorem zK3(hc:X.calm=true):wR X (.builtin "min") (λxs H Q=>∃ i j,xs=[.int i,.int j]/\Q (.int (if j<i then j else i)) H):=by
 intro pins s σ H xs us Q I r h;obtain⟨i,j,rfl,q⟩:=h;obtain⟨u,w',rfl,⟨t,rfl⟩,⟨t',rfl⟩⟩:=zP5 r;refine min_two_ints (I.ok.hd hc) λh' tk k=>⟨_,H,I.kept k,?_,q⟩;by_cases hj:j<i
 ·rw[if_pos hj,if_pos hj]; exact⟨_,rfl⟩
 ·rw[if_neg hj,if_neg hj]; exact⟨_,rfl⟩
theorem zL5:wR X (.type "int") (λxs H Q=>(∃ i,xs=[.int i]/\Q (.int i) H)\/∃ k,xs=[.bl k]/\Q (.int (if k then 1 else 0)) H):=by
 intro pins s σ H xs us Q I r h;rcases h with ⟨i,rfl,q⟩ | ⟨k,rfl,q⟩
 ·obtain⟨u,rfl,t,rfl⟩:=zDo r;exact call_int_int ⟨.int i,H,I,⟨_,rfl⟩,q⟩
 ·obtain⟨u,rfl,r1⟩:=zDo r;cases r1;exact call_int_bool ⟨.int (if k then 1 else 0),H,I.tok _,⟨_,rfl⟩,q⟩
end
end L2

namespace L2
open PySem PySem.Spec PyProof.Rows

structure zQc(h:Heap)(x dx C:Addr)(mA:Str->Option Value):Prop where
 obj:h.get? x=some (PySem.W.instObj C dx)
 ns:h.Ns1 dx mA
 ne:dx≠x

theorem zLp{h:Heap}{dx:Addr}{mA:Str->Option Value}(n:h.Ns1 dx mA):∃ od,h.get? dx=some od/\∀ name,PySem.W.lookIn name od=some (mA name):=by
 obtain⟨o,es,ep,ho,hd,hk,_,hm⟩:=n;refine⟨o,ho,λname=>?_⟩;have e:=hm name;unfold nsFind findBy at e;rw[<- Array.find?_toList] at e;unfold PySem.W.lookIn;rw[hd];dsimp only;split
 ·rename_i y q
  rw[q] at e;exact congrArg some e
 ·rename_i q
  rw[q] at e;have a:es.toList.any (·.refKey)=false:=by
   rw[List.any_eq_false];intro y hy;obtain⟨z,t,hkey⟩:=hk y (Array.mem_toList_iff.mp hy);simp[DictEntry.refKey,hkey]
  have a':¬ es.toList.any (·.refKey)=true:=by rw[a]; exact Bool.false_ne_true
  rw[if_neg a'];exact congrArg some e

theorem zQc.look{h:Heap}{x dx C:Addr}{mA:Str->Option Value}(I:zQc h x dx C mA):∃ od,PySem.W.InstAt h x (PySem.W.instObj C dx) C (some od)/\∀ name,PySem.W.lookIn name od=some (mA name) :=
 let ⟨od,ho,hl⟩:=zLp I.ns
 ⟨od,⟨I.obj,rfl,rfl,ho⟩,hl⟩

section
variable{prog:Program}{w:World}{A:Around}{E:Value->Shared->Prop}{s:Shared}{K:PySem.W.Frag}{x dx C f:Addr}{mA:Str->Option Value}{name:Str}{v:Value}

theorem zPo{expr:Bool}{Q:Value->Shared->Prop}(X:K.In s.heap)(I:zQc s.heap x dx C mA)(hg:PySem.W.plainGet K C name=true)(hh:PySem.W.hasDictIn K C=true)
  (ha:PySem.W.findIn K (.ref C) name=some none) (hv:mA name=some v) (hv':PySem.W.handedIn v=true) (h:Q v { s with toks:=s.toks+1 }) :
  wpAny (model prog w) A (getAttr (.ref x) name expr) Q E s:=by
 obtain⟨od,J,hl⟩:=I.look;exact PySem.W.get_value X J (PySem.W.plainGet_of hg).1 (PySem.W.findObj_own hh ha rfl (by rw[hl,hv])) hv' h

theorem zMy{pl:Sem Bool}{Q:Value×List Value->Shared->Prop}(X:K.In s.heap)(I:zQc s.heap x dx C mA)(hg:PySem.W.plainGet K C name=true)
  (hf:PySem.W.findIn K (.ref C) name=some (some (.ref f))) (ht:PySem.W.isFn K (.ref f)=true) (hv:mA name=none) (h:Q (.ref f,[.ref x]) s) :
  wpAny (model prog w) A (getMethod (.ref x) name pl) Q E s:=by
 obtain⟨od,J,hl⟩:=I.look;exact PySem.W.method_fn X J (PySem.W.plainGet_of hg).1 (PySem.W.plainGet_of hg).2 hf (beq_iff_eq.mp ht) (by show(PySem.W.lookIn name od).map (·.isSome)=some false; rw[hl,hv]; rfl) h

theorem zQ0{ns:List Str}{Q:Unit->Shared->Prop}(X:K.In s.heap)(I:zQc s.heap x dx C mA)
  (hs:PySem.W.findIn K (.ref C) "__setattr__" = some (some (.builtin "object.__setattr__"))) (hp:PySem.W.plainOver K C=true) (ht:PySem.W.takerIn K C name=some none) (hh:PySem.W.hasDictIn K C=true)
  (hw:PySem.Within mA ns) (hsz:ns.length<=sizeLine)
  (h:∀ h',zQc h' x dx C (λy=>if y=name then some v else mA y)->Heap.SameBut dx s.heap h'->Q () { s with heap:=h',toks:=s.toks+2 }) :
  wpAny (model prog w) A (setAttr (.ref x) name v) Q E s:=by
 obtain⟨od,J,hl⟩:=I.look;refine PySem.W.set_plain X J hs (PySem.W.osa_open (s:={ s with toks:=s.toks+1 }) (r:=none) X J hp ht λb=>?_);obtain⟨cd,hc,hd'⟩:=PySem.W.any_some hh;have hx:s.heap.get? x=some ⟨.ref C,some dx,.plain,#[]⟩:=I.obj;refine wpAny_bind (wpAny_pure (wpAny_bind (wpAny_bind (wpAny_loadPart hx (wpAny_bind (PySem.W.Looks.here (s:={ s with toks:=s.toks+1 }) (PySem.W.looks_clsIn X hc) ?_))))));rw[hd'];refine wpAny_pure (a:=some dx) (wpAny_bind (wpAny_pure (wpAny_bind ?_)));refine wpAny_nsSet1 (s:={ s with toks:=s.toks+1 }) I.ns λh' hn2 hs2=>?_;obtain⟨oD,esD,epD,hoD,hdD,hcD⟩:=hn2.count (PySem.Within.cons name v hw);refine wpAny_bind (wpAny_lookBehind hoD (by rw[hdD]; exact pastItsLine_dict (Nat.le_trans hcD (by rw[List.length_cons]; lia))) ?_);exact wpAny_pure (h _ ⟨(hs2.2 _ (Ne.symm I.ne)).trans I.obj,hn2,I.ne⟩ hs2)

theorem zM2{R:Result->Shared->Prop}{vs:List Value}{kw:List (Str×Value)}(X:K.In s.heap)(hm:PySem.W.makesIn K C=true)
  (hi:PySem.W.findIn K (.ref C) "__init__" = some (some (.ref f))) (hf:PySem.W.typeIn K (.ref f)=some (.type "function"))
  (h:codeAny (model prog w) (A.under (.builtin "type.__call__" ⟨.ref C::vs,kw⟩)) (.call (.ref f) ⟨.ref (s.heap.objs.size+1)::vs,kw⟩) (PySem.W.InitBack (s.heap.objs.size+1) R)
   { s with heap:=(s.heap.push PySem.W.emptyDict).push (PySem.W.instObj C s.heap.objs.size) }) :
  codeAny (model prog w) A (.call (.ref C) ⟨vs,kw⟩) R s:=by
 obtain⟨hh,g,d,t,os⟩:=s;exact PySem.W.make_core (PySem.W.makes_of X hm) (PySem.W.looks_findIn X hi) (λself=>PySem.W.bind_fn X self hf) (.inl rfl) h
end

def zBo(f:Str)(v:V):List (Str×V)->List (Str×V)
 | []=>[(f,v)]
 | (g,x)::r=>if g=f then(g,v)::r else(g,x)::zBo f v r
theorem zC5(f g:Str)(v:V):∀ fs:List (Str×V),(zBo f v fs).lookup g=if g=f then some v else fs.lookup g
 | []=>by
  show List.lookup g [(f,v)]=_;by_cases h:g=f
  ·have hb:(g == f)=true:=beq_iff_eq.mpr h;simp only[List.lookup,hb,if_pos h]
  ·have hb:(g == f)=false:=beq_eq_false_iff_ne.mpr h;simp only[List.lookup,hb,if_neg h]
 | (k,x)::r=>by
  have ih:=zC5 f g v r;rw[show zBo f v ((k,x)::r)=(if k=f then(k,v)::r else(k,x)::zBo f v r) from rfl];by_cases hk:k=f
  ·rw[if_pos hk];by_cases h:g=k
   ·have hb:(g == k)=true:=beq_iff_eq.mpr h;simp only[List.lookup,hb,if_pos (h.trans hk)]
   ·have hb:(g == k)=false:=beq_eq_false_iff_ne.mpr h;simp only[List.lookup,hb,if_neg (λe:g=f=>h (e.trans hk.symm))]
  ·rw[if_neg hk];by_cases h:g=k
   ·have hb:(g == k)=true:=beq_iff_eq.mpr h;simp only[List.lookup,hb,if_neg (λe:g=f=>hk (h.symm.trans e))]
   ·have hb:(g == k)=false:=beq_eq_false_iff_ne.mpr h;simp only[List.lookup,hb];exact ih
theorem zCr(f:Str)(v:V):∀ fs:List (Str×V),f∈(zBo f v fs).map (·.1)/\∀ g,g∈fs.map (·.1)->g∈(zBo f v fs).map (·.1)
 | []=>⟨by simp[zBo],λg h=>by simp at h⟩
 | (k,x)::r=>by
  obtain⟨i1,i2⟩:=zCr f v r;rw[show zBo f v ((k,x)::r)=(if k=f then(k,v)::r else(k,x)::zBo f v r) from rfl];by_cases hk:k=f
  ·rw[if_pos hk];subst hk;exact⟨by simp,λg h=>by simpa using h⟩
  ·rw[if_neg hk];refine⟨?_,λg h=>?_⟩
   ·rw[List.map_cons];exact List.mem_cons_of_mem _ i1
   ·rw[List.map_cons] at h ⊢;rcases List.mem_cons.mp h with e | e
    ·exact List.mem_cons.mpr (.inl e)
    ·exact List.mem_cons_of_mem _ (i2 g e)
theorem zB0(f:Str)(v:V):∀ fs:List (Str×V),(zBo f v fs).length<=fs.length+1
 | []=>by simp[zBo]
 | (k,x)::r=>by
  have ih:=zB0 f v r;rw[show zBo f v ((k,x)::r)=(if k=f then(k,v)::r else(k,x)::zBo f v r) from rfl];by_cases hk:k=f
  ·rw[if_pos hk,List.length_cons,List.length_cons]; lia
  ·rw[if_neg hk,List.length_cons,List.length_cons]; lia

theorem zFi.some_of{v:V}{o:Option Value}(r:zFi (some v) o):∃ u,o=some u/\yQ v u:=by
 cases o with
 | none=>exact(show False from r).elim
 | some u=>exact⟨u,rfl,r⟩
theorem zFi.none_of{o:Option Value}(r:zFi none o):o=none:=by
 cases o with
 | none=>rfl
 | some u=>exact(show False from r).elim
theorem zLi{v:V}{u:Value}(r:yQ v u):PySem.W.handedIn u=true:=by
 cases v with
 | non=>cases (show u=Value.none from r); rfl
 | bl b=>cases (show u=Value.bool b from r); rfl
 | int i=>obtain⟨t,e⟩:=(show ∃ t,u=Value.int i t from r); cases e; rfl
 | str x=>obtain⟨t,e⟩:=(show ∃ t,u=Value.str x t from r); cases e; rfl
 | byt b=>obtain⟨t,e⟩:=(show ∃ t,u=Value.bytes b t from r); cases e; rfl
 | flt b=>obtain⟨t,e⟩:=(show ∃ t,u=Value.float b t from r); cases e; rfl
 | ref a=>cases (show u=Value.ref a from r); rfl
 | ty n=>cases (show u=Value.type n from r); rfl

section
variable{P:Program}{w:World}{H H':Hp}{h h':Heap}{a C dx:Addr}{fs fs':List (Str×V)}
theorem zEu(hok:HOk P w H h)(e:H a=some (.ins C dx fs)):∃ mA,zQc h a dx C mA/\(∀ f,zFi (fs.lookup f) (mA f))/\PySem.Within mA (fs.map (·.1))/\fs.length<=1000/\H dx=some (.own a):=by
 obtain⟨d,z,ne,ob,mA,n,r,q⟩:=(show yZ P w H h a (.ins C dx fs) from hok a _ e);exact⟨mA,⟨ob,n,ne⟩,r,q,z,d⟩
end

structure Cls(K:PySem.W.Frag)(C:Addr):Prop where
 pg:PySem.W.plainGet K C Str.empty=true
 hd:PySem.W.hasDictIn K C=true
 po:PySem.W.plainOver K C=true
 sa:PySem.W.findIn K (.ref C) "__setattr__" = some (some (.builtin "object.__setattr__"))
theorem Cls.get{K:PySem.W.Frag}{C:Addr}(c:Cls K C)(f:Str):PySem.W.plainGet K C f=true:=c.pg
def rP(K:PySem.W.Frag)(C:Addr)(f:Str):Prop:=PySem.W.findIn K (.ref C) f=some none
theorem rP.taker{K:PySem.W.Frag}{C:Addr}{f:Str}(n:rP K C f):PySem.W.takerIn K C f=some none:=by
 unfold PySem.W.takerIn;rw[show PySem.W.findIn K (.ref C) f=some none from n];rfl
structure Con(K:PySem.W.Frag)(C:Addr)(f:Str)(v:V)(u:Value):Prop where
 at_:PySem.W.findIn K (.ref C) f=some (some u)
 rel:yQ v u
 get:PySem.W.specialIn K u "__get__" = some none
 cp:PySem.W.copiedNames.contains f=false
structure zO0(K:PySem.W.Frag)(C:Addr)(m:Str)(f:Addr):Prop where
 at_:PySem.W.findIn K (.ref C) m=some (some (.ref f))
 fn:PySem.W.isFn K (.ref f)=true
 kp:PySem.W.keepIn K (.ref f)=true

section
variable{X:Cx}{pins:List (Addr×Obj)}{σ:St}{H:Hp}{s:Shared}{a C dx:Addr}{fs:List (Str×V)}{f:Str}{v:V}{A:Around}{E:Value->Shared->Prop}

theorem zJt{b:Bool}{Q:Value->Shared->Prop}(I:Inv X pins σ H s)(e:H a=some (.ins C dx fs))(c:Cls X.K C)(n:rP X.K C f)(l:fs.lookup f=some v)
  (h:∀ u s',Inv X pins σ H s'->yQ v u->Q u s'):wpAny (model X.prog X.w) A (getAttr (.ref a) f b) Q E s:=by
 obtain⟨mA,O,r,_,_,_⟩:=zEu I.hok e;obtain⟨u,hu,ru⟩:=zFi.some_of (v:=v) (o:=mA f) (by rw[<- l]; exact r f);exact zPo I.kIn O (c.get f) c.hd n hu (zLi ru) (h u _ (I.tok _) ru)

theorem zDr{m:Str}{g:Addr}{pl:Sem Bool}{Q:Value×List Value->Shared->Prop}(I:Inv X pins σ H s)(e:H a=some (.ins C dx fs))(c:Cls X.K C)(k:zO0 X.K C m g)(l:fs.lookup m=none)
  (h:Q (.ref g,[.ref a]) s):wpAny (model X.prog X.w) A (getMethod (.ref a) m pl) Q E s:=by
 obtain⟨mA,O,r,_,_,_⟩:=zEu I.hok e;have hn:mA m=none:=zFi.none_of (by rw[<- l]; exact r m);exact zMy I.kIn O (c.get m) k.at_ k.fn hn h

theorem zIz{y:V}{u:Value}{Q:Unit->Shared->Prop}(I:Inv X pins σ H s)(e:H a=some (.ins C dx fs))(c:Cls X.K C)(n:rP X.K C f)(hl:fs.length<1000)(ry:yQ y u)
  (h:∀ s',Inv X pins σ (upd H a (.ins C dx (zBo f y fs))) s'->Q () s'):wpAny (model X.prog X.w) A (setAttr (.ref a) f u) Q E s:=by
 obtain⟨mA,O,r,wi,_,ho⟩:=zEu I.hok e;have hz:(fs.map (·.1)).length<=sizeLine:=by rw[List.length_map,sizeLine_eq]; lia
 refine zQ0 I.kIn O c.sa c.po n.taker c.hd wi hz λh' O' sb=>h _ ?_;have hd:∃ o,h'.get? dx=some o:=let ⟨o,_,_,e',_⟩:=O'.ns;⟨o,e'⟩;refine I.write (x:=a) (e:=dx) (by rw[e]; exact True.intro) (.inr ho) (λb q hb z=>(sb.2 b hb).trans z) hd ?_;refine⟨by rw[zG O.ne]; exact ho,?_,O.ne,O'.obj,_,O'.ns,λg=>?_,λg hg=>?_⟩
 ·have:=zB0 f y fs; lia
 ·show zFi ((zBo f y fs).lookup g) (if g=f then some u else mA g);rw[zC5];by_cases q:g=f
  ·rw[if_pos q,if_pos q]; exact ry
  ·rw[if_neg q,if_neg q]; exact r g
 ·by_cases q:g=f
  ·rw[q]; exact(zCr f y fs).1
  ·refine(zCr f y fs).2 g (wi g λz=>hg ?_);show(if g=f then some u else mA g)=none;rw[if_neg q]; exact z

theorem Inv.made(I:Inv X pins σ H s):Inv X pins σ (upd (upd H s.heap.objs.size (.own (s.heap.objs.size+1))) (s.heap.objs.size+1) (.ins C s.heap.objs.size []))
  { s with heap:=(s.heap.push PySem.W.emptyDict).push (PySem.W.instObj C s.heap.objs.size) }:=by
 have e1:(s.heap.push PySem.W.emptyDict).get? s.heap.objs.size=some PySem.W.emptyDict:=Heap.get?_push_size s.heap rfl;have e2:((s.heap.push PySem.W.emptyDict).push (PySem.W.instObj C s.heap.objs.size)).get? (s.heap.objs.size+1)=some (PySem.W.instObj C s.heap.objs.size):=by
  have:=Heap.get?_push_size (s.heap.push PySem.W.emptyDict) (o:=PySem.W.instObj C s.heap.objs.size) rfl;rwa[Heap.size_push] at this
 have e3:(s.heap.push PySem.W.emptyDict).Ns s.heap.objs.size (λ_=>none):=⟨PySem.W.emptyDict,#[],_,e1,rfl,(λe he=>absurd he (by simp)),λ_=>rfl⟩;have I1:=I.laid (a:=s.heap.objs.size) (o:=.own (s.heap.objs.size+1)) (h':=s.heap.push PySem.W.emptyDict) (t':=s.toks) (λb u q=>Heap.get?_push_of_some _ q) (Nat.le_refl _) ⟨_,e1⟩;refine I1.laid (a:=s.heap.objs.size+1) (o:=.ins C s.heap.objs.size []) (t':=s.toks) (λb u q=>Heap.get?_push_of_some _ q) (Nat.le_of_eq (Heap.size_push _ _)) ?_;have ne:s.heap.objs.size≠s.heap.objs.size+1:=Nat.ne_of_lt (Nat.lt_succ_self _);refine⟨by rw[zG ne,zA],Nat.zero_le _,ne,e2,λ_=>none,(Heap.Ns1.of_empty e3).at λo q=>Heap.get?_push_of_some _ q,λ_=>True.intro,λy hy=>absurd rfl hy⟩

theorem zQf{prog:Program}{w:World}{env:Env}{e:Expr}{f:Str}{pos:Pos}{s:Shared}{Q:Value->Shared->Prop}(hb:attributeBase e f env (eval e env)=eval e env)
  (h:wpAny (model prog w) A (eval e env) (λo s₁=>wpAny (model prog w) A (getAttr o f true) Q E s₁) E s):wpAny (model prog w) A (eval (.Attribute e f pos) env) Q E s :=
 Attribute_any_ h (by rw[arm_eval_Attribute,hb])
end


section
variable{X:Cx}{pins:List (Addr×Obj)}{σ:St}{H:Hp}{s:Shared}{A:Around}{E:Value->Shared->Prop}{Q:Value->Shared->Prop}{c:Value}{b:Bool}
inductive TyOf(K:PySem.W.Frag)(H:Hp):V->Value->Prop where
 | non:TyOf K H .non (.type "NoneType")
 | bl (x:Bool):TyOf K H (.bl x) (.type "bool")
 | int (i:Int):TyOf K H (.int i) (.type "int")
 | str (x:Str):TyOf K H (.str x) (.type "str")
 | flt (x:UInt64):TyOf K H (.flt x) (.type "float")
 | lst {a:Addr} {xs:List V} (e:H a=some (.lst xs)):TyOf K H (.ref a) (.type "list")
 | frz {a:Addr} {o:Obj} {xs:List V} (e:H a=some (.frz o (.lst xs))):TyOf K H (.ref a) (.type "list")
 | tup {a:Addr} {xs:List V} (e:H a=some (.tup xs)):TyOf K H (.ref a) (.type "tuple")
 | dK {a:Addr} {kvs:List (Key×V)} (e:H a=some (.dK kvs)):TyOf K H (.ref a) (.type "dict")
 | dT {a:Addr} {kvs:List (List Key×V)} (e:H a=some (.dT kvs)):TyOf K H (.ref a) (.type "dict")
 | ins {a C dx:Addr} {fs:List (Str×V)} (e:H a=some (.ins C dx fs)) (cl:Cls K C) (ha:PySem.W.findIn K (.ref C) "__class__" = some (some (.builtin "object.__class__")))
   (hn:PySem.W.specialIn K (.builtin "object.__class__") "__get__" = some (some (.builtin "getset_descriptor.__get__"))) (htk:PySem.W.takesIn K (.builtin "object.__class__")=some true)
   (hm:PySem.W.mroIn K C (.type "object")=some true):TyOf K H (.ref a) (.ref C)
theorem zJ6{x:V}{u t:Value}(I:Inv X pins σ H s)(rx:yQ x u)(ty:TyOf X.K H x t)(e:PySem.W.kitOne X.K t c=some b)(h:∀ tk,Q (.bool b) { s with toks:=tk }) :
  wpAny (model X.prog X.w) A (call (.builtin "isinstance") [u,c]) Q E s:=by
 cases ty with
 | non=>cases (show u=Value.none from rx); exact PySem.W.kia_one PySem.W.kitx_none I.kIn True.intro e (λz=>nomatch z) h
 | bl y=>cases (show u=Value.bool y from rx); exact PySem.W.kia_one PySem.W.kitx_bool I.kIn True.intro e (λz=>nomatch z) h
 | int i=>obtain⟨t,q⟩:=(show ∃ t,u=Value.int i t from rx); cases q; exact PySem.W.kia_one PySem.W.kitx_int I.kIn True.intro e (λz=>nomatch z) h
 | str y=>obtain⟨t,q⟩:=(show ∃ t,u=Value.str y t from rx); cases q; exact PySem.W.kia_one PySem.W.kitx_str I.kIn True.intro e (λz=>nomatch z) h
 | flt y=>obtain⟨t,q⟩:=(show ∃ t,u=Value.float y t from rx); cases q; exact PySem.W.kia_one PySem.W.kitx_float I.kIn True.intro e (λz=>nomatch z) h
 | @lst a xs ea =>
  cases (show u=Value.ref a from rx);obtain⟨_,_,n,_,h1⟩:=(show yZ X.prog X.w H s.heap a (.lst xs) from I.hok a _ ea);exact PySem.W.kia_one PySem.W.kitx_list I.kIn ⟨_,h1,rfl⟩ e (λz=>nomatch z) h
 | @frz a ob xs ea =>
  cases (show u=Value.ref a from rx);obtain⟨_,_,_,n,_,h1⟩:=(show yZ X.prog X.w H s.heap a (.frz ob (.lst xs)) from I.hok a _ ea);exact PySem.W.kia_one PySem.W.kitx_list I.kIn ⟨_,h1,rfl⟩ e (λz=>nomatch z) h
 | @tup a xs ea =>
  cases (show u=Value.ref a from rx);obtain⟨_,_,_,p⟩:=(show yZ X.prog X.w H s.heap a (.tup xs) from I.hok a _ ea);obtain⟨o,h1,h2,_⟩:=p;exact PySem.W.kia_one PySem.W.kitx_tuple I.kIn ⟨o,h1,h2⟩ e (λz=>nomatch z) h
 | @dK a kvs ea =>
  cases (show u=Value.ref a from rx);obtain⟨_,_,vs,_,p⟩:=(show yZ X.prog X.w H s.heap a (.dK kvs) from I.hok a _ ea);obtain⟨o,es,ep,h1,h2,_⟩:=p;exact PySem.W.kia_one PySem.W.kitx_dict I.kIn ⟨o,h1,h2.1⟩ e (λz=>nomatch z) h
 | @dT a kvs ea =>
  cases (show u=Value.ref a from rx);obtain⟨_,_,xs,_,o,es,ep,h1,h2,_⟩:=(show yZ X.prog X.w H s.heap a (.dT kvs) from I.hok a _ ea);exact PySem.W.kia_one PySem.W.kitx_dict I.kIn ⟨o,h1,h2.1⟩ e (λz=>nomatch z) h
 | @ins a C dx fs ea cl ha hn htk hm =>
  cases (show u=Value.ref a from rx);obtain⟨mA,O,_⟩:=zEu I.hok ea;obtain⟨od,J,_⟩:=O.look;exact PySem.W.kia_one (PySem.W.kitx_own (cl.get _) cl.hd ha hn htk hm) I.kIn J e (λz=>nomatch z) h
end
end L2

namespace L2
open PySem PySem.Spec PyProof.Rows

structure sY(k:Nat)(A:Around):Prop where
 hd:A.handled=none
 dp:A.depth+3*k+5<recursionLimit
 un:A.units+16*k+200<cLine
theorem sY.mono{j k:Nat}{A:Around}(r:sY k A)(h:j<=k):sY j A:=⟨r.hd,by have:=r.dp; lia,by have:=r.un; lia⟩
theorem sY.deeper{k:Nat}{A:Around}(r:sY (k+1) A)(env:Env):sY k (A.deeper env) :=
 ⟨r.hd,by have:=r.dp; show A.depth+1+3*k+5<_; lia,by have:=r.un; show A.units+3+16*k+200<_; lia⟩
theorem zJq{A:Around}{C:Addr}{us:List Value}{kw:List (Str×Value)} : (A.under (.builtin "type.__call__" ⟨.ref C::us,kw⟩)).depth=A.depth+1:=by
 first | rfl | simp[Around.under,Code.weight,Code.isCreation,Code.isGuard,Code.isCaller,Code.frames,Code.isFrame,guardIds]
theorem zJv{A:Around}{C:Addr}{us:List Value}{kw:List (Str×Value)} : (A.under (.builtin "type.__call__" ⟨.ref C::us,kw⟩)).units=A.units+1:=by
 first | rfl | simp[Around.under,Code.cUnits,Code.frames,Code.isFrame]
theorem sY.make{k:Nat}{A:Around}(r:sY (k+1) A)(C:Addr)(us:List Value)(kw:List (Str×Value)):sY k (A.under (.builtin "type.__call__" ⟨.ref C::us,kw⟩)) :=
 ⟨r.hd,by have:=r.dp; rw[zJq]; lia,by have:=r.un; rw[zJv]; lia⟩
theorem sY.depth{k:Nat}{A:Around}(r:sY k A):A.depth<recursionLimit:=by have:=r.dp; lia
theorem sY.units{k:Nat}{A:Around}(r:sY k A):A.units+64<cLine:=by have:=r.un; lia
theorem sY.units0{k:Nat}{A:Around}(r:sY k A):A.units<cLine:=by have:=r.un; lia

def zTg:TA:=λ_ H Q=>Q [] H
def zQj(ta:TE)(tr:TA):TA:=λσ H Q=>ta σ H λx H1=>tr σ H1 λxs H2=>Q (x::xs) H2
section
variable{X:Cx}{e:Expr}{es:List Expr}{te:TE}{t:TA}{pos:Pos}
theorem zL:PA X [] zTg:=λ_ _ _ _ H Q I h=>Calls.spliced_nil ⟨[],H,I,.nil,h⟩
theorem zF(ha:PE X e te)(hr:PA X es t)(hs:starEach (e::es) X.env=(false,eval e X.env)::starEach es X.env:=by rfl):PA X (e::es) (zQj te t):=by
 intro pos pins s σ H Q I h;rw[hs];show wpAny _ _ (spliced ((false,eval e X.env)::backTo pos (starEach es X.env))) _ _ s;refine Calls.spliced_cons (thn (ha pins s σ H _ I h) λu s1 ⟨x,H1,I1,r1,q1⟩=>?_);exact thn (hr pos pins s1 σ H1 _ I1 q1) λus s2 ⟨xs,H2,I2,r2,q2⟩=>⟨x::xs,H2,I2,.cons r1 r2,q2⟩

def tTup(t:TA):TE:=λσ H Q=>t σ H λxs H1=>xs.length<=sizeLine/\∀ p,H1 p=none->Q (.ref p) (upd H1 p (.tup xs))
def tLst(t:TA):TE:=λσ H Q=>t σ H λxs H1=>xs.length<=sizeLine/\∀ p,H1 p=none->Q (.ref p) (upd H1 p (.lst xs))
theorem zGr{x1}(h:PA X es t):PE X (.Tuple es x1 pos) (tTup t):=by
 intro pins s σ H Q I hq;refine wpAny_Tuple_spliced (thn (h pos pins s σ H _ I hq) λus s1 ⟨xs,H1,I1,r,z,q⟩=>⟨by rw[<- r.length]; exact z,?_⟩);have hf:H1 s1.heap.objs.size=none:=I1.hok.fresh (Nat.le_refl _);refine⟨.ref s1.heap.objs.size,upd H1 s1.heap.objs.size (.tup xs),I1.laid (t':=s1.toks) (λb u e=>Heap.get?_push_of_some _ e) (Nat.le_refl _) ?_,rfl,q _ hf⟩;exact⟨z,us,r,⟨_,Heap.get?_push_size _ rfl,rfl,_,rfl⟩⟩
theorem zL7(h:PA X es t):PE X (.List es pos) (tLst t):=by
 intro pins s σ H Q I hq;refine wpAny_List_spliced (thn (h pos pins s σ H _ I hq) λus s1 ⟨xs,H1,I1,r,z,q⟩=>⟨by rw[<- r.length]; exact z,?_⟩);have hf:H1 s1.heap.objs.size=none:=I1.hok.fresh (Nat.le_refl _);refine⟨.ref s1.heap.objs.size,upd H1 s1.heap.objs.size (.lst xs),I1.laid (t':=s1.toks) (λb u e=>Heap.get?_push_of_some _ e) (Nat.le_refl _) ?_,rfl,q _ hf⟩;exact⟨z,us,0,r,Heap.get?_push_size _ rfl⟩
end

abbrev Sp:=List V->Hp->VK->XK->Prop
abbrev CXT:=List Env->Hp->Shared->XK->Value->Shared->Prop

structure zQg(P:Program)(w:World)(K:PySem.W.Frag)(mg:Str->Option Value)(base:Heap)(A:Around)(outer:List Env)(s:Shared)(H:Hp):Prop where
 frames:A.frames=some outer
 mod:Mod K mg base
 bs:∀ b o,base.get? b=some o->s.heap.get? b=some o/\H b=none
 bsz:base.objs.size<=s.heap.objs.size
 funs:s.heap.FunFrames base outer
 frf:∀ b∈frs outer,H b=none
 hok:HOk P w H s.heap
 bare:AllBare s.gens
def CE(outer:List Env)(P:Program)(w:World)(H:Hp)(s:Shared)(Q:VK)(u:Value)(s':Shared):Prop :=
 ∃ v H',s'.os=s.os/\AllBare s'.gens/\Un (frs outer) [] H H' s.heap s'.heap/\HOk P w H' s'.heap/\yQ v u/\Q v H'
def CR(CX:CXT)(outer:List Env)(P:Program)(w:World)(H:Hp)(s:Shared)(Q:VK)(E:XK)(r:Result)(s':Shared):Prop :=
 match r with
 | .ok (.ret u)=>CE outer P w H s Q u s'
 | .ok _=>False
 | .error e=>CX outer H s E e s'
structure yP(P:Program)(w:World)(K:PySem.W.Frag)(mg:Str->Option Value)(base:Heap)(CX:CXT)(k:Nat)(f:Addr)(fd:FuncData)(ps:List Str)(sp:Sp):Prop where
 len:∀ vs H Q E,sp vs H Q E->vs.length=ps.length
 run:∀(A:Around)(outer:List Env)(s:Shared)(H:Hp)(args:Args)(us:List Value)(vs:List V)(Q:VK)(E:XK),sY k A->zQg P w K mg base A outer s H->BindsTo s fd args (ps.zip us)->yL vs us->sp vs H Q E ->
  codeAny (model P w) A (.call (.ref f) args) (CR CX outer P w H s Q E) s
theorem zQg.make{P:Program}{w:World}{K:PySem.W.Frag}{mg:Str->Option Value}{base:Heap}{A:Around}{outer:List Env}{s:Shared}{H:Hp}(e:zQg P w K mg base A outer s H)(C:Addr)(us:List Value)(kw:List (Str×Value)) :
  zQg P w K mg base (A.under (.builtin "type.__call__" ⟨.ref C::us,kw⟩)) outer s H:=⟨by first | exact e.frames | (simpa [Around.under,Code.envs,Code.isFrame,pushEnvs] using e.frames),e.mod,e.bs,e.bsz,e.funs,e.frf,e.hok,e.bare⟩
section
variable{X:Cx}{pins:List (Addr×Obj)}{σ:St}{H:Hp}{s s':Shared}
theorem Inv.env0(I:Inv X pins σ H s):zQg X.prog X.w X.K X.mg X.base X.A X.stack s H :=
 ⟨I.ok.frames,I.ok.mod,I.bs,Nat.le_trans I.ok.bsz I.sz,I.stack,I.stkFree,I.hok,I.bare⟩
theorem Inv.after{Q:VK}{u:Value}(I:Inv X pins σ H s)(h:CE X.stack X.prog X.w H s Q u s'):EP X pins σ Q u s':=by
 obtain⟨v,H',os,bare,un,hok,r,q⟩:=h;obtain⟨hh,g,d,t,os'⟩:=s';obtain rfl:os'=s.os:=os;exact⟨v,H',I.call (h':=hh) (g':=g) (d':=d) (t':=t) (ch:=[]) un hok bare (λb z=>absurd z (by simp)),r,q⟩
end

def zK8(sp:Sp)(dvs:List V)(E:XK)(t:TA):TE:=λσ H Q=>t σ H λvs H1=>sp (vs++dvs) H1 Q E
def zAk(K:PySem.W.Frag)(fd:FuncData)(ps:List Str)(ds:List Value):Prop :=
 ∀(s:Shared)(us:List Value),K.In s.heap->(us++ds).length=ps.length->BindsTo s fd ⟨us,[]⟩ (ps.zip (us++ds))
theorem zAk.all{K:PySem.W.Frag}{fd:FuncData}{ps:List Str}(h:∀ us:List Value,us.length=ps.length->bindArgs fd ⟨us,[]⟩=pure (ps.zip us)):zAk K fd ps []:=λs us _ hl=>by
 rw[List.append_nil] at hl ⊢;exact .of_eq (h us hl)

def zGj(CX:CXT)(X:Cx)(E:XK):Prop:=∀(pins:List (Addr×Obj))(σ:St)(H:Hp)(s:Shared)(e:Value)(s':Shared),Inv X pins σ H s->CX X.stack H s E e s'->X.xe e s'

section
variable{X:Cx}{CX:CXT}{k:Nat}{f C:Addr}{fd:FuncData}{ps:List Str}{sp:Sp}{dvs:List V}{ds:List Value}{E:XK}{x m:Str}{p pos apos:Pos}{e o:Expr}{es:List Expr}{ta:TE}{t:TA}

theorem zG0{pins:List (Addr×Obj)}{σ:St}{H:Hp}{s:Shared}{Q:VK}{us:List Value}{vs:List V}(F:yP X.prog X.w X.K X.mg X.base CX k f fd ps sp)(hr:sY k X.A)(hb:zAk X.K fd ps ds)(hd:yL dvs ds)(hx:zGj CX X E)
  (I:Inv X pins σ H s) (r:yL vs us) (h:sp (vs++dvs) H Q E):wpAny (model X.prog X.w) X.A (call (.ref f) us) (EP X pins σ Q) X.xe s:=by
 have r2:yL (vs++dvs) (us++ds):=r.append hd;have hl:(us++ds).length=ps.length:=by rw[<- r2.length]; exact F.len _ _ _ _ h
 refine wpAny_call (codeAny_mono (F.run X.A X.stack s H ⟨us,[]⟩ (us++ds) (vs++dvs) Q E hr I.env0 (hb s us I.kIn hl) r2 h) λr s' hq=>?_);cases r with
 | error e=>exact hx pins σ H s e s' I hq
 | ok fl =>
  cases fl with
  | ret u=>exact I.after hq
  | next=>exact False.elim hq
  | brk=>exact False.elim hq
  | cont=>exact False.elim hq

theorem zQp(F:yP X.prog X.w X.K X.mg X.base CX k f fd ps sp)(hr:sY k X.A)(hg:Gl X x)(hm:X.mg x=some (.ref f))(hk:PySem.W.keepIn X.K (.ref f)=true)(hb:zAk X.K fd ps ds)(hd:yL dvs ds)(hx:zGj CX X E)
  (ha:PA X (e::es) t) (hdb:(x ==("__debug__" : Str))=false:=by decide) (he:starEach (e::es) X.env=(false,eval e X.env)::starEach es X.env:=by rfl) (hpl:(backTo pos (starEach es X.env)).any (·.1)=false:=by rfl) :
  PE X (.Call (.Name x p) (e::es) [] pos) (zK8 sp dvs E t):=by
 intro pins s σ H Q I h;refine wpAny_Call_Name_kw (vV I hg hm ?_ hdb);refine PySem.W.callWith_K (h₀:=X.base) I.ok.mod.kin hk (thn (ha pos pins s σ H _ I h) λus s1 ⟨vs,H1,I1,r,q⟩=>⟨I1.kIn,?_⟩) he hpl;exact zG0 F hr hb hd hx I1 r q
theorem zM3(F:yP X.prog X.w X.K X.mg X.base CX k f fd ps sp)(hr:sY k X.A)(hg:Gl X x)(hm:X.mg x=some (.ref f))(hk:PySem.W.keepIn X.K (.ref f)=true)(hb:zAk X.K fd ps ds)(hd:yL dvs ds)(hx:zGj CX X E)
  (hdb:(x ==("__debug__" : Str))=false:=by decide):PE X (.Call (.Name x p) [] [] pos) (zK8 sp dvs E zTg):=by
 intro pins s σ H Q I h;refine wpAny_Call_Name_kw (vV I hg hm ?_ hdb);exact PySem.W.callWith_K0 I.kIn hk (zG0 (us:=[]) F hr hb hd hx I .nil h)

structure Mk(K:PySem.W.Frag)(C f:Addr):Prop where
 makes:PySem.W.makesIn K C=true
 init:PySem.W.findIn K (.ref C) "__init__" = some (some (.ref f))
 fn:PySem.W.isFn K (.ref f)=true
 kp:PySem.W.keepIn K (.ref C)=true

theorem zMq{pins:List (Addr×Obj)}{σ:St}{H:Hp}{s:Shared}{Q:VK}{us:List Value}{vs:List V}(M:Mk X.K C f)(F:yP X.prog X.w X.K X.mg X.base CX k f fd ps sp)(hr:sY (k+1) X.A)(hb:zAk X.K fd ps ds)(hd:yL dvs ds)
  (hx:zGj CX X E) (I:Inv X pins σ H s) (r:yL vs us)
  (h:∀ x dx,H x=none->H dx=none->dx≠x->sp (.ref x::(vs++dvs)) (upd (upd H dx (.own x)) x (.ins C dx [])) (λv H2=>v=.non/\Q (.ref x) H2) E) :
  wpAny (model X.prog X.w) X.A (call (.ref C) us) (EP X pins σ Q) X.xe s:=by
 have hq:=h (s.heap.objs.size+1) s.heap.objs.size (I.hok.fresh (Nat.le_succ _)) (I.hok.fresh (Nat.le_refl _)) (Nat.ne_of_lt (Nat.lt_succ_self _));have I2:=Inv.made (C:=C) I;have r2:yL (V.ref (s.heap.objs.size+1)::(vs++dvs)) (Value.ref (s.heap.objs.size+1)::(us++ds)):=.cons rfl (r.append hd);have hl:(Value.ref (s.heap.objs.size+1)::us++ds).length=ps.length:=by
  have e:=r2.length;rw[F.len _ _ _ _ hq] at e;exact e.symm
 refine wpAny_call (zM2 (f:=f) I.kIn M.makes M.init (beq_iff_eq.mp M.fn) (codeAny_mono (F.run _ X.stack _ _ ⟨Value.ref (s.heap.objs.size+1)::us,[]⟩ (Value.ref (s.heap.objs.size+1)::(us++ds)) _ _ E (hr.make C us [])
  (I2.env0.make C us []) (hb _ (Value.ref (s.heap.objs.size+1)::us) I2.kIn hl) r2 hq) λr s' hq'=>?_))
 cases r with
 | error e=>exact hx pins σ _ _ e s' I2 hq'
 | ok fl =>
  cases fl with
  | ret u =>
   obtain⟨v,H',I3,rv,ev,q3⟩:=I2.after hq';subst ev;exact⟨rv,⟨V.ref (s.heap.objs.size+1),H',I3,rfl,q3⟩⟩
  | next=>exact False.elim hq'
  | brk=>exact False.elim hq'
  | cont=>exact False.elim hq'
end

section
variable{X:Cx}{CX:CXT}{k:Nat}{f C:Addr}{fd:FuncData}{ps ks:List Str}{sp:Sp}{E:XK}{x m:Str}{p pos apos kpos:Pos}{e o:Expr}{es:List Expr}{kws:List Keyword}{te ta:TE}{t tk:TA}{nm:Option Str}
structure KBinds(K:PySem.W.Frag)(fd:FuncData)(ps ks:List Str)(g:List Value->List Value->List Value)(gV:List V->List V->List V):Prop where
 to:∀(s:Shared)(us ws:List Value),K.In s.heap->(g us ws).length=ps.length->BindsTo s fd ⟨us,ks.zip ws⟩ (ps.zip (g us ws))
 rel:∀{vs:List V}{us:List Value}{zs:List V}{ws:List Value},yL vs us->yL zs ws->yL (gV vs zs) (g us ws)
variable{g:List Value->List Value->List Value}{gV:List V->List V->List V}
end

structure zM(N P:List Str)(sc:Scope):Prop where
 kind:sc.kind=.function
 co:sc.isCoroutine=false
 gen:sc.isGenerator=false
 nd:N.Nodup
 pre:N.take P.length=P
 par:∀ x∈P,sc.names.lookup x=some .local\/sc.names.lookup x=some .cell
 nofree:∀ y∈sc.names,y.2≠.free

theorem zF3{kindOf:Str->Option NameKind}{x:Str} : ∀{binds:List (Str×Value)}{m:Str->Option Value},(∀ v,(x,v) ∉ binds)->bindL kindOf binds m x=m x
 | [],_,_=>rfl
 | (n,v)::r,m,h=>by
  unfold bindL;rw[zF3 λw hw=>h w (List.mem_cons_of_mem _ hw)];split
  ·have:x≠n:=by rintro rfl; exact h v List.mem_cons_self
   simp[this]
  ·rfl
theorem zG6{kindOf:Str->Option NameKind}{x:Str} : ∀{binds:List (Str×Value)}{m:Str->Option Value},(∀ v,(x,v) ∉ binds)->bindC kindOf binds m x=m x
 | [],_,_=>rfl
 | (n,v)::r,m,h=>by
  unfold bindC;rw[zG6 λw hw=>h w (List.mem_cons_of_mem _ hw)];split
  ·rfl
  ·have:x≠n:=by rintro rfl; exact h v List.mem_cons_self
   simp[this]
theorem zF0{kindOf:Str->Option NameKind}{x:Str}{v:Value} : ∀{P:List Str}{vs:List Value}{i:Nat}{m:Str->Option Value},P.Nodup->P[i]?=some x->vs[i]?=some v->kindOf x=some .local ->
  bindL kindOf (P.zip vs) m x=some v
 | [],_,_,_,_,h,_,_=>by simp at h
 | _::_,[],_,_,_,_,h,_=>by simp at h
 | p::P,w::vs,0,m,nd,h1,h2,hk=>by
  simp at h1 h2; subst h1; subst h2;show bindL kindOf ((p,w)::P.zip vs) m p=_;unfold bindL;rw[zF3 λv hv=>(List.nodup_cons.mp nd).1 (List.of_mem_zip hv).1,if_pos hk];simp
 | p::P,w::vs,i+1,m,nd,h1,h2,hk=>by
  show bindL kindOf ((p,w)::P.zip vs) m x=_;unfold bindL;exact zF0 (i:=i) (List.nodup_cons.mp nd).2 (by simpa using h1) (by simpa using h2) hk
theorem zGw{kindOf:Str->Option NameKind}{x:Str}{v:Value} : ∀{P:List Str}{vs:List Value}{i:Nat}{m:Str->Option Value},P.Nodup->P[i]?=some x->vs[i]?=some v->kindOf x≠some .local ->
  bindC kindOf (P.zip vs) m x=some v
 | [],_,_,_,_,h,_,_=>by simp at h
 | _::_,[],_,_,_,_,h,_=>by simp at h
 | p::P,w::vs,0,m,nd,h1,h2,hk=>by
  simp at h1 h2; subst h1; subst h2;show bindC kindOf ((p,w)::P.zip vs) m p=_;unfold bindC;rw[zG6 λv hv=>(List.nodup_cons.mp nd).1 (List.of_mem_zip hv).1,if_neg hk];simp
 | p::P,w::vs,i+1,m,nd,h1,h2,hk=>by
  show bindC kindOf ((p,w)::P.zip vs) m x=_;unfold bindC;exact zGw (i:=i) (List.nodup_cons.mp nd).2 (by simpa using h1) (by simpa using h2) hk

def zE6(N:List Str)(vs:List V):St:=vs.map some++List.replicate (N.length-vs.length) none

def cxOf(CX:CXT)(P:Program)(w:World)(K:PySem.W.Frag)(mg:Str->Option Value)(base:Heap)(N:List Str)(qual:Str)(scope:Scope)(f:Addr)(cd:Value)(A:Around)(outer:List Env)(s:Shared)(H:Hp)(E:XK):Cx where
 prog:=P
 w:=w
 K:=K
 mg:=mg
 base:=base
 A:=A.deeper (envOfC qual scope s.heap.objs.size f cd)
 N:=N
 s₀:=s
 H₀:=H
 env:=envOfC qual scope s.heap.objs.size f cd
 outer:=outer
 stack:=envOfC qual scope s.heap.objs.size f cd::outer
 ex:=[]
 calm:=true
 fn:=λ_=>true
 pn:=[]
 xe:=λe s'=>wpAny (model P w) (A.deeper (envOfC qual scope s.heap.objs.size f cd)) (leaving (envOfC qual scope s.heap.objs.size f cd) e) (λ_ s''=>CX outer H s E e s'') (λe' s''=>CX outer H s E e' s'') s'

theorem zIi{sc:Scope}{n:Nat}{x:Str}(h:sc.names.lookup x=some .cell):∃ c,(cellsFrom n sc.names []).lookup x=some c:=by
 have q:=PySem.W.cellsFrom_some sc.names n [] (.inl h);exact Option.isSome_iff_exists.mp q

theorem zMe{CX:CXT}{P:Program}{w:World}{K:PySem.W.Frag}{mg:Str->Option Value}{base:Heap}{N ps:List Str}{qual:Str}{scope:Scope}{f:Addr}{cd:Value}{A:Around}{outer:List Env}{s s1:Shared}{H:Hp}{E:XK}{us:List Value}{vs:List V}
  (S:zM N ps scope) (hd:A.handled=none) (e0:zQg P w K mg base A outer s H) (hl:vs.length=ps.length) (r:yL vs us)
  (x:InCallC s s.heap.objs.size (bindL (envOfC qual scope s.heap.objs.size f cd).kindOf (ps.zip us) λ_=>none) (cellsFrom (s.heap.objs.size+1) scope.names []) (bindC (envOfC qual scope s.heap.objs.size f cd).kindOf (ps.zip us) λ_=>none) s1) :
  Inv (cxOf CX P w K mg base N qual scope f cd A outer s H E) [] (zE6 N vs) H s1:=by
 have hpl:ps.length<=N.length:=by have:=congrArg List.length S.pre; rw[List.length_take] at this; lia
 obtain⟨h1,tk,rfl,hk⟩:=x.done;have noA:∀ b:Addr,b ∉ (cxOf CX P w K mg base N qual scope f cd A outer s H E).ex:=λb z=>absurd (show b∈([]:List Addr) from z) (by simp);refine⟨⟨e0.mod,S.kind,rfl,rfl,Nat.le_refl _,λy z c h1 h2=>?_,λy hy=>?_,λy c _ h=>?_,λ_=>hd,Around.frames_deeper e0.frames,.inr ⟨rfl,rfl⟩,λb z=>absurd z (noA b),e0.bs,e0.bsz,λb _ _=>noA b,λb z=>absurd z (noA b),e0.funs,e0.frf⟩,
  rfl,e0.bare,Un.kept hk,⟨_,x.toInCall.ns,λi y v h1 h2 h3=>?_⟩,λy c h=>⟨_,x.cell y c h⟩,e0.hok.fresh (Nat.le_refl _),λy c h=>?_,λp hp=>absurd (show p∈([]:List (Addr×Obj)) from hp) (by simp),e0.hok.kept hk,?_⟩
 ·exact name_of_addr x.apart (PySem.mem_of_lookup h1) (PySem.mem_of_lookup h2)
 ·have hy:scope.names.lookup y=some .cell\/scope.names.lookup y=some .free:=hy;rcases hy with hy | hy
  ·exact zIi hy
  ·exact absurd rfl (S.nofree _ (PySem.mem_of_lookup hy))
 ·exact Nat.le_of_lt (x.above y c (PySem.mem_of_lookup h))
 ·have hi:i<vs.length:=by
   unfold zE6 at h2;by_cases hi:i<vs.length
   ·exact hi
   ·rw[List.getElem?_append_right (by simpa using hi)] at h2;rw[List.getElem?_replicate] at h2;split at h2 <;> cases h2
  have ha:vs[i]?=some v:=by
   unfold zE6 at h2;rw[List.getElem?_append_left (by simpa using hi),List.getElem?_map] at h2;cases e:vs[i]? with
   | none=>rw[e] at h2; cases h2
   | some a=>rw[e] at h2; cases h2; rfl
  obtain⟨u,hu,rv⟩:=r.get ha;have hp:ps[i]?=some y:=by
   rw[<- S.pre,List.getElem?_take_of_lt (by lia)]; exact h1
  have ndP:ps.Nodup:=by rw[<- S.pre]; exact S.nd.sublist (List.take_sublist _ _)
  exists u,rv;rcases S.par y (List.mem_of_getElem? hp) with k | k
  ·exact .inl ⟨k,zF0 ndP hp hu k⟩
  ·obtain⟨c,e⟩:=zIi (n:=s.heap.objs.size+1) k;refine .inr ⟨.inl k,c,e,?_⟩;have q:=x.cell y c e;rw[zGw ndP hp hu (by show scope.names.lookup y≠_; rw[k]; decide)] at q;exact q
 ·exact e0.hok.fresh (Nat.le_of_lt (x.above y c (PySem.mem_of_lookup h)))
 ·unfold zE6;show _=N.length;rw[List.length_append,List.length_map,List.length_replicate];lia

theorem zTh{CX:CXT}{P:Program}{w:World}{K:PySem.W.Frag}{mg:Str->Option Value}{base:Heap}{k:Nat}{f:Addr}{name qual:Str}{params:Arguments}{body:List Stmt}{scope:Scope}{dV kV doc pm cdv ct oc:Value}{an od:Option Addr}
  {osl:Array (Option Value)} {N ps:List Str} {sp:Sp} (lk:K.lookup f=some ⟨oc,od,.func (PySem.W.fnOf name qual params body scope dV kV doc pm an cdv ct),osl⟩) (hcd:PySem.W.codeIn K cdv qual=true) (S:zM N ps scope)
  (len:∀ vs H Q E,sp vs H Q E->vs.length=ps.length)
  (hbody:∀(A:Around)(outer:List Env)(s:Shared)(H:Hp)(vs:List V)(Q:VK)(E:XK),sY k (A.deeper (envOfC qual scope s.heap.objs.size f cdv))->sp vs H Q E ->
   ∃ t,PSs (cxOf CX P w K mg base N qual scope f cdv A outer s H E) body t/\t { nx:=λ_ H'=>Q .non H',rt:=Q } (zE6 N vs) H) :
  yP P w K mg base CX (k+1) f (PySem.W.fnOf name qual params body scope dV kV doc pm an cdv ct) ps sp:=by
 refine⟨len,λA outer s H args us vs Q E hr e0 hb r hsp=>?_⟩;have hl:=len _ _ _ _ hsp;have KX:K.In s.heap:=e0.mod.kin.keeps λb o e=>(e0.bs b o e).1;have lim:s.heap.NoLimit:=e0.mod.nolimit.keeps λb o e=>(e0.bs b o e).1;have hkind:∀ y∈ps.zip us,scope.names.lookup y.1=some .local\/(scope.names.lookup y.1=some .cell/\((cellsFrom (s.heap.objs.size+1) scope.names []).lookup y.1).isSome=true):=λ⟨n,v⟩ hy=>by
  rcases S.par n (List.of_mem_zip hy).1 with q | q
  ·exact .inl q
  ·exact .inr ⟨q,PySem.W.cellsFrom_some _ _ _ (.inl q)⟩
 refine codeAny_call_function hr.depth (KX _ _ lk) rfl S.co S.gen rfl (PySem.W.codeRec_of KX hcd) (hb _ _ _ _ ?_);refine wpAny_newFunctionEnv_cells S.kind hkind λenv he s1 x=>?_;subst he;refine⟨lim.keeps x.toInCall.keep,codeAny_func ?_⟩;obtain⟨t,ht,hq⟩:=hbody A outer s H vs Q E (hr.deeper _) hsp;have I:Inv (cxOf CX P w K mg base N qual scope f cdv A outer s H E) [] (zE6 N vs) H s1:=zMe S hr.hd e0 hl r x;refine wpAny_mono (ht [] s1 (zE6 N vs) H _ I hq) (λfl s' hs=>?_) λe s' hs=>hs;have fin:∀{σ':St}{H':Hp}{v:V}{u:Value},Inv (cxOf CX P w K mg base N qual scope f cdv A outer s H E) [] σ' H' s'->yQ v u->Q v H'->CE outer P w H s Q u s' :=
  λ{σ' H' v u} J rv q=>⟨v,H',J.os,J.bare,J.base,J.hok,rv,q⟩
 cases fl with
 | ret u =>
  obtain⟨v,σ',H',J,rv,q⟩:=hs;exact fin J rv q
 | next =>
  obtain⟨σ',H',J,q⟩:=hs;exact fin (v:=V.non) (u:=Value.none) J rfl q
 | brk =>
  obtain⟨_,_,_,q⟩:=hs;exact False.elim q
 | cont =>
  obtain⟨_,_,_,q⟩:=hs;exact False.elim q
end L2

namespace L2
open PySem PySem.Spec PyProof.Rows
section
variable{X:Cx}{x:Str}{p pos:Pos}{e:Expr}{es:List Expr}{t:TA}{id T:String}{r:List V->Hp->VK->Prop}

def tCB(r:List V->Hp->VK->Prop)(t:TA):TE:=λσ H Q=>t σ H λvs H1=>r vs H1 Q
theorem yB(hc:wR X (.builtin id) r)(hg:Gl X x)(hm:X.mg x=none)(hv:bootBuiltins x=some (.builtin id))(ha:PA X (e::es) t)(hn:x ≠ "__name__" := by decide)(hdb:(x ==("__debug__" : Str))=false:=by decide)
  (he:starEach (e::es) X.env=(false,eval e X.env)::starEach es X.env:=by rfl) (hpl:(backTo pos (starEach es X.env)).any (·.1)=false:=by rfl):PE X (.Call (.Name x p) (e::es) [] pos) (tCB r t):=by
 intro pins s σ H Q I h;refine wpAny_Call_Name_kw (zG4 I hg hm hv ?_ hn hdb);exact PyProof.Rows.callWith_builtin1 (thn (ha pos pins s σ H _ I h) λus s1 ⟨vs,H1,I1,r1,q1⟩=>hc pins s1 σ H1 vs us Q I1 r1 q1) he hpl
theorem xN(hc:wR X (.type T) r)(hg:Gl X x)(hm:X.mg x=none)(hv:bootBuiltins x=some (.type T))(ha:PA X (e::es) t)(hn:x ≠ "__name__" := by decide)(hdb:(x ==("__debug__" : Str))=false:=by decide)
  (he:starEach (e::es) X.env=(false,eval e X.env)::starEach es X.env:=by rfl) (hpl:(backTo pos (starEach es X.env)).any (·.1)=false:=by rfl):PE X (.Call (.Name x p) (e::es) [] pos) (tCB r t):=by
 intro pins s σ H Q I h;refine wpAny_Call_Name_kw (zG4 I hg hm hv ?_ hn hdb);exact PyProof.Rows.callWith_type1 (thn (ha pos pins s σ H _ I h) λus s1 ⟨vs,H1,I1,r1,q1⟩=>hc pins s1 σ H1 vs us Q I1 r1 q1) he hpl
end
end L2

namespace HT
open PySem PyProof.Rows

def lexLt:List Int->List Int->Bool
 | [],[]=>false
 | [],_::_=>true
 | _::_,[]=>false
 | x::xs,y::ys=>if x=y then lexLt xs ys else decide (x<y)
section
open PySem.SeqAt
open PySem.AutoSeq1 (wpAny_loadPart')
open PySem.MeetsSeq PySem.MeetsSeq2 PySem.MeetsSeq3

end

section
variable{prog:Program}{w:World}{A:Around}{E:Value->Shared->Prop}{s:Shared}

def sIx(n d:Nat):Option Int->Nat
 | none=>d
 | some v=>if v<0 then(v+(n:Int)).toNat else min v.toNat n
theorem sIx_nat(n d k:Nat):sIx n d (some (k:Int))=min k n:=by
 show(if (k:Int)<0 then((k:Int)+(n:Int)).toNat else min (k:Int).toNat n)=min k n;rw[if_neg (by lia),Int.toNat_natCast]
theorem zSy(n d:Nat)(hd:d<=n)(o:Option Int):sIx n d o<=n:=by
 cases o with
 | none=>exact hd
 | some v =>
  show(if v<0 then(v+(n:Int)).toNat else min v.toNat n)<=n;by_cases hv:v<0
  ·rw[if_pos hv]; lia
  ·rw[if_neg hv]; exact Nat.min_le_right _ _
theorem zLt(v:Int)(n d:Nat):(if v<0 then max (v+(n:Int)) 0 else min v (n:Int))=((sIx n d (some v):Nat):Int):=by
 show(if v<0 then max (v+(n:Int)) 0 else min v (n:Int))=(((if v<0 then(v+(n:Int)).toNat else min v.toNat n):Nat):Int);by_cases hv:v<0
 ·simp only[if_pos hv]; lia
 ·simp only[if_neg hv]; lia
theorem zJg(lo hi:Option Int)(n:Nat):Builtin.Slice.sliceAdjust lo hi 1 (n:Int)=(((sIx n 0 lo:Nat):Int),((sIx n n hi:Nat):Int)):=by
 have h1:¬ ((1:Int)<0):=by lia
 unfold Builtin.Slice.sliceAdjust;simp only[h1,if_false];refine Prod.ext ?_ ?_
 ·cases lo with
  | none=>rfl
  | some v=>exact zLt v n 0
 ·cases hi with
  | none=>rfl
  | some v=>exact zLt v n n
theorem zI5(i j:Nat):Builtin.Slice.slicePlaces (i:Int) (j:Int) 1=j-i:=by
 unfold Builtin.Slice.slicePlaces;have h1:(1:Int)>0:=by lia
 simp only[h1,if_true,Int.ediv_one];split <;> lia
theorem zDs{v:Value}{o:Option Int}{Q:Option Int->Shared->Prop}(p:IsPart v o)(h:Q o s):wpAny (model prog w) A (Builtin.Slice.slicePartIndex v) Q E s:=by
 cases p with
 | none=>exact slicePart_none h
 | int i t=>exact slicePart_int h
theorem zBf{sl:Addr}{vl vu:Value}{lo hi:Option Int}{n:Nat}{Q:Int×Int×Nat->Shared->Prop}(hs:s.heap.IsSliceOf sl vl vu .none)(pl:IsPart vl lo)(pu:IsPart vu hi)
  (h:Q (((sIx n 0 lo:Nat):Int),1,sIx n n hi-sIx n 0 lo) s):wpAny (model prog w) A (Builtin.Slice.sliceApplied (.ref sl) (pure (n:Int))) Q E s:=by
 obtain⟨os,hos,hcs,hds⟩:=id hs;unfold Builtin.Slice.sliceApplied Builtin.Slice.sliceFields;refine wpAny_bind (wpAny_bind (wpAny_field hos hds (x:=vl) rfl (wpAny_bind (wpAny_field hos hds (x:=vu) rfl (wpAny_bind (wpAny_field hos hds (x:=.none) rfl (wpAny_pure ?_)))))));refine wpAny_bind (slicePart_none ?_);show wpAny _ _ (if ((1:Int) == 0)=true then _ else _) _ _ s;rw[if_neg (by decide)];refine wpAny_bind (zDs pl (wpAny_bind (zDs pu (wpAny_bind (wpAny_pure ?_)))));show wpAny _ _ (match Builtin.Slice.sliceAdjust lo hi 1 (n:Int) with | (lo,hi)=>pure (lo,(1:Int),Builtin.Slice.slicePlaces lo hi 1)) _ _ s;rw[zJg lo hi n];show wpAny _ _ (pure (((sIx n 0 lo:Nat):Int),(1:Int),Builtin.Slice.slicePlaces ((sIx n 0 lo:Nat):Int) ((sIx n n hi:Nat):Int) 1)) _ _ s;rw[zI5];exact wpAny_pure h
theorem zMv(xs:Array Value)(i k:Nat):((List.range k).filterMap λ(m:Nat)=>xs[((i:Int)+(m:Int)*1).toNat]?).toArray=((xs.toList.drop i).take k).toArray:=by
 have e:(λ(m:Nat)=>xs[((i:Int)+(m:Int)*1).toNat]?)=λm=>xs[i+m]?:=by
  funext m
  have:((i:Int)+(m:Int)*1).toNat=i+m:=by lia
  rw[this]
 rw[e];have:=pick_run xs i k;rw[List.filterMap_map] at this;have e2:((λx=>xs[x]?) ∘ λx=>i+x)=λm=>xs[i+m]?:=rfl;rw[e2] at this;rw[this]

theorem getItem_tuple_cut{t sl:Addr}{items:Array Value}{vl vu:Value}{lo hi:Option Int}{Q:Value->Shared->Prop}(ht:IsTup s.heap t items)(hs:s.heap.IsSliceOf sl vl vu .none)(pl:IsPart vl lo)(pu:IsPart vu hi)
  (hw:¬ (sIx items.size 0 lo=0/\sIx items.size items.size hi=items.size))
  (h:Q (.ref s.heap.objs.size) { s with heap:=s.heap.push { cls:=.type "tuple", data:=.seq ((items.toList.drop (sIx items.size 0 lo)).take (sIx items.size items.size hi-sIx items.size 0 lo)).toArray } })
  (hsz:items.size<=sizeLine):wpAny (model prog w) A (getItem (.ref t) (.ref sl)) Q E s:=by
 have htake:sizeOk (.seq ((items.toList.drop (sIx items.size 0 lo)).take (sIx items.size items.size hi-sIx items.size 0 lo)).toArray):=by
  show((items.toList.drop (sIx items.size 0 lo)).take (sIx items.size items.size hi-sIx items.size 0 lo)).toArray.size<=sizeLine;rw[List.size_toArray,List.length_take,List.length_drop,Array.length_toList];lia
 have hj:sIx items.size items.size hi<=items.size:=zSy _ _ (Nat.le_refl _) hi;obtain⟨os,hos,hcs,hds⟩:=id hs;have hTs:s.TypeIs (.ref sl) "slice" :=⟨os,hos,hcs⟩;unfold getItem
 try with_reducible refine wpAny_holding ?_
 first | refine wpAny_bind (wpAny_pure ?_) | skip
 refine wpAny_bind (wpAny_sequenceKey ht.typeIs (by decide) ?_);refine wpAny_bind (wpAny_callSpecial?_slot (name:=Str.ofString "__getitem__") ht.typeIs PyProof.Rows.slot_tuple_getitem
  (wpAny_call_entry PyProof.Rows.slot_tuple_getitem ht.typeIs entry_tuple_getitem ?_ (args_tuple_getitem _ _)))
 show wpAny _ _ (Builtin.Tuple.tupleItemsOf (.ref t) >>= _) _ _ s;refine wpAny_bind (tupleItemsOf_ ht ?_);refine wpAny_bind (wpAny_typeOf hTs ?_);rw[if_pos (by decide)];refine wpAny_bind (zBf hs pl pu ?_);have hno:¬ ((((sIx items.size 0 lo:Nat):Int) == 0&&(1:Int) == 1&&(sIx items.size items.size hi-sIx items.size 0 lo) == items.size)=true):=by
  intro q;rw[Bool.and_eq_true,Bool.and_eq_true] at q;have q1:((sIx items.size 0 lo:Nat):Int)=0:=eq_of_beq q.1.1;have q2:sIx items.size items.size hi-sIx items.size 0 lo=items.size:=eq_of_beq q.2;exact hw ⟨by lia,by lia⟩
 show wpAny _ _ (if (((sIx items.size 0 lo:Nat):Int) == 0&&(1:Int) == 1&&(sIx items.size items.size hi-sIx items.size 0 lo) == items.size)=true then _ else _) _ _ s;rw[if_neg hno,zMv]
 first
  | exact wpAny_bind (m:=Builtin.Tuple.tupleExact _) (wpAny_newObj_type (wpAny_pure ⟨_,rfl,wpAny_pure h⟩) htake)
  | exact wpAny_bind (m:=Builtin.Tuple.tupleExact _) (wpAny_newObj_type (wpAny_bind (wpAny_pure (wpAny_pure ⟨_,rfl,wpAny_pure h⟩))) htake)
  | exact wpAny_bind (wpAny_bind (m:=Builtin.Tuple.tupleExact _) (wpAny_newObj_type (wpAny_pure (wpAny_pure ⟨_,rfl,wpAny_pure h⟩)) htake))
  | exact wpAny_bind (wpAny_bind (m:=Builtin.Tuple.tupleExact _) (wpAny_newObj_type (wpAny_pure ⟨_,rfl,wpAny_pure h⟩) htake))
end
end HT

namespace L2
open PySem PySem.Spec PyProof.Rows

abbrev TO:=St->Hp->(Option Int->Hp->Prop)->Prop
def PO(X:Cx)(e:Option Expr)(t:TO):Prop :=
 ∀(pins:List (Addr×Obj))(s:Shared)(σ:St)(H:Hp)(Q:Option Int->Hp->Prop),Inv X pins σ H s->t σ H Q ->
  wpAny (model X.prog X.w) X.A (evalPart e X.env) (λu s'=>∃ o H',Inv X pins σ H' s'/\IsPart u o/\Q o H') X.xe s
def zPg:TO:=λ_ H Q=>Q none H
def tPart(t:TE):TO:=λσ H Q=>t σ H λx H1=>∃ i,x=.int i/\Q (some i) H1

theorem zJp{ns:List Int} : ∀{us:List Value},yL (ns.map V.int) us->IntsAre us ns:=by
 induction ns with
 | nil=>intro us r; rw[List.map_nil] at r; cases r; exact .nil
 | cons n ns ih =>
  intro us r;rw[List.map_cons] at r;cases r with
  | cons r1 r2 =>
   obtain⟨t,e⟩:=r1;subst e;exact .cons n t (ih r2)

section
variable{X:Cx}{e:Expr}{te:TE}{lo hi:Option Expr}{tl th:TO}{pos p2:Pos}

theorem sR:PO X none zPg:=by
 intro pins s σ H Q I h;rw[evalPart_none];exact wpAny_pure ⟨none,H,I,.none,h⟩
theorem vX(h:PE X e te):PO X (some e) (tPart te):=by
 intro pins s σ H Q I hw;rw[evalPart_some];refine thn (h pins s σ H _ I hw) λu s1 ⟨x,H1,I1,r1,q1⟩=>?_;obtain⟨i,rfl,q⟩:=q1;obtain⟨t,rfl⟩:=r1;exact⟨some i,H1,I1,.int i t,q⟩

def SlR(X:Cx)(r:V->Option Int->Option Int->Hp->VK->Prop):Prop :=
 ∀(pins:List (Addr×Obj))(s:Shared)(σ:St)(H:Hp)(x:V)(v vl vu:Value)(lo hi:Option Int)(sl:Addr)(Q:VK),Inv X pins σ H s->yQ x v->s.heap.IsSliceOf sl vl vu .none->IsPart vl lo->IsPart vu hi->r x lo hi H Q ->
  ∃ T id,typeLookup (.type T) "__getitem__" = pure (some (.builtin id))/\s.TypeIs v T/\wpAny (model X.prog X.w) X.A (getItem v (.ref sl)) (EP X pins σ Q) X.xe s
def tSl(r:V->Option Int->Option Int->Hp->VK->Prop)(te:TE)(tl th:TO):TE:=λσ H Q=>te σ H λx H1=>tl σ H1 λl H2=>th σ H2 λu H3=>r x l u H3 Q
theorem uS{r:V->Option Int->Option Int->Hp->VK->Prop}(hr:SlR X r)(he:PE X e te)(hl:PO X lo tl)(hu:PO X hi th):PE X (.Subscript e (.Slice lo hi none p2) pos) (tSl r te tl th):=by
 intro pins s σ H Q I h;refine Subscript_ (thn (he pins s σ H _ I h) λv s1 ⟨x,H1,I1,r1,q1⟩=>?_);refine wpAny_Slice (thn (hl pins s1 σ H1 _ I1 q1) λvl s2 ⟨l,H2,I2,pl,q2⟩=>thn (hu pins s2 σ H2 _ I2 q2) λvu s3 ⟨u,H3,I3,pu,q3⟩=>?_);rw[evalPart_none];refine wpAny_pure ?_;have I4:Inv X pins σ H3 { s3 with heap:=s3.heap.push { cls:=.type "slice", data:=.fields #[vl,vu,.none] } }:=I3.kept (t':=s3.toks) λb ob q=>Heap.get?_push_of_some _ q;obtain⟨T,id,hT,ht,hg⟩:=hr pins { s3 with heap:=s3.heap.push { cls:=.type "slice", data:=.fields #[vl,vu,.none] } } σ H3 x v vl vu l u s3.heap.objs.size Q I4 r1 (Heap.IsSliceOf.new ..) pl pu q3;show wpAny (model X.prog X.w) X.A (subscriptTail e (.Slice lo hi none p2) v (.ref s3.heap.objs.size)) (EP X pins σ Q) X.xe { s3 with heap:=s3.heap.push { cls:=.type "slice", data:=.fields #[vl,vu,.none] } };exact tail_any (ops:=[.ref s3.heap.objs.size,v]) ht hT hg (by with_unfolding_all rfl)

def zDi(xs:List V)(lo hi:Option Int):List V:=(xs.drop (HT.sIx xs.length 0 lo)).take (HT.sIx xs.length xs.length hi-HT.sIx xs.length 0 lo)
theorem zB8(xs:List V)(lo hi:Option Int):(zDi xs lo hi).length<=xs.length:=by
 unfold zDi;rw[List.length_take,List.length_drop];lia
def rSlT(K:PySem.W.Frag):V->Option Int->Option Int->Hp->VK->Prop:=λx lo hi H Q=>∃ a xs,x=.ref a/\SqT K H a xs /\
 ¬ (HT.sIx xs.length 0 lo=0/\HT.sIx xs.length xs.length hi=xs.length)/\∀ p,H p=none->Q (.ref p) (upd H p (.tup (zDi xs lo hi)))
theorem zFs:SlR X (rSlT X.K):=by
 intro pins s σ H x v vl vu lo hi sl Q I rx hs pl pu h;obtain⟨a,xs,rfl,hx,hw,q⟩:=h;cases rx;obtain⟨its,r,ht,hz⟩:=I.tuple hx;have hlen:its.toArray.size=xs.length:=by rw[List.size_toArray]; exact r.length.symm
 exists "tuple", _,PyProof.Rows.slot_tuple_getitem.lookup,ht.typeIs;refine HT.getItem_tuple_cut ht hs pl pu (by rw[hlen]; exact hw) ?_ (by rw[hlen]; exact hz);rw[hlen];refine⟨.ref s.heap.objs.size,_,I.laid (t':=s.toks) (o:=.tup (zDi xs lo hi)) (λb ob q=>Heap.get?_push_of_some _ q) (Nat.le_refl _) ?_,rfl,q _ (I.hok.fresh (Nat.le_refl _))⟩;exact⟨Nat.le_trans (zB8 xs lo hi) hz,_,(r.drop (HT.sIx xs.length 0 lo)).take (HT.sIx xs.length xs.length hi-HT.sIx xs.length 0 lo),IsTup.new _ _⟩

end
end L2

namespace L2
open PySem PySem.Spec PyProof.Rows

def ixN(n:Nat)(i:Int):Option Nat:=if 0<=i then(if i<n then some i.toNat else none) else if -(n:Int)<=i then some (i+n).toNat else none
def atI{α:Type}(xs:List α)(i:Int):Option α:=(ixN xs.length i).bind λj=>xs[j]?
theorem zKl{n:Nat}{i:Int}{j:Nat}(h:ixN n i=some j):seqIndex? i n=some j/\j<n/\-(n:Int)<=i/\i<n:=by
 unfold ixN at h;by_cases h0:0<=i
 ·rw[if_pos h0] at h;by_cases h1:i<n
  ·rw[if_pos h1] at h;have e:i.toNat=j:=Option.some.inj h;exact⟨by rw[seqIndex_of h0 h1,e],by lia,by lia,h1⟩
  ·rw[if_neg h1] at h; cases h
 ·rw[if_neg h0] at h;by_cases h1 : -(n:Int)<=i
  ·rw[if_pos h1] at h;have e:(i+n).toNat=j:=Option.some.inj h;exact⟨by rw[seqIndex_neg (by lia) h1,e],by lia,h1,by lia⟩
  ·rw[if_neg h1] at h; cases h
theorem zHg{α:Type}{xs:List α}{i:Int}{v:α}(h:atI xs i=some v):∃ j,seqIndex? i xs.length=some j/\xs[j]?=some v/\j<xs.length/\-(xs.length:Int)<=i/\i<xs.length:=by
 unfold atI at h;cases e:ixN xs.length i with
 | none=>rw[e] at h; cases h
 | some j =>
  rw[e] at h;obtain⟨h1,h2,h3,h4⟩:=zKl e;exact⟨j,h1,h,h2,h3,h4⟩
theorem zEm{α:Type}{xs:List α}{j:Nat}{v:α}(h:xs[j]?=some v):atI xs (j:Int)=some v:=by
 have hj:j<xs.length:=(List.getElem?_eq_some_iff.mp h).1;have e:ixN xs.length (j:Int)=some j:=by
  unfold ixN;rw[if_pos (by lia),if_pos (by lia)]; simp
 unfold atI; rw[e]; exact h
theorem zIs{α:Type}(xs:List α)(v:α):atI (xs++[v]) (-1)=some v:=by
 have hl:(xs++[v]).length=xs.length+1:=by simp
 have e:ixN (xs++[v]).length (-1)=some xs.length:=by
  unfold ixN;rw[hl,if_neg (by decide),if_pos (by lia)]
  congr 1
  lia
 unfold atI;rw[e];show(xs++[v])[xs.length]?=some v;simp

def zJ7(b:Expr):Prop:=∀ o i,subscripted b false o i=operate [o,i] (getItem o i)
def IxR(X:Cx)(r:R2):Prop :=
 ∀(value slice:Expr)(pins:List (Addr×Obj))(s:Shared)(σ:St)(H:Hp)(x y:V)(v u:Value)(Q:VK),Inv X pins σ H s->yQ x v->yQ y u->r x y H Q ->
  subscripted slice false v u=operate [v,u] (getItem v u)->wpAny (model X.prog X.w) X.A (subscriptTail value slice v u) (EP X pins σ Q) X.xe s
def MtR(X:Cx)(id:String)(r:V->List V->Hp->VK->Prop):Prop :=
 ∀(pins:List (Addr×Obj))(s:Shared)(σ:St)(H:Hp)(x:V)(xs:List V)(v:Value)(us:List Value)(Q:VK),Inv X pins σ H s->yQ x v->yL xs us->r x xs H Q ->
  wpAny (model X.prog X.w) X.A (call (.builtin id) (v::us)) (EP X pins σ Q) X.xe s
section
variable{X:Cx}{a b:Expr}{ta tb:TE}{pos:Pos}
theorem zMf{r:R2}(hr:IxR X r)(ha:PE X a ta)(hb:PE X b tb)(hs:zJ7 b):PE X (.Subscript a b pos) (tOp r ta tb):=by
 intro pins s σ H Q I h;exact Subscript_ (zTn ha hb I h λv u s2 x y H2 I2 rx ry q=>hr a b pins s2 σ H2 x y v u Q I2 rx ry q (hs _ _))

def rIxL(K:PySem.W.Frag):R2:=λx y H Q=>∃ p xs i v,x=.ref p/\y=.int i/\SqL K H p xs/\atI xs i=some v/\Q v H
def rIxT(K:PySem.W.Frag):R2:=λx y H Q=>∃ p xs i v,x=.ref p/\y=.int i/\SqT K H p xs/\atI xs i=some v/\Q v H
def rIxS:R2:=λx y H Q=>∃ z i c,x=.str z/\y=.int i/\z.length<=sizeLine/\atI z.cps.toList i=some c/\Q (.str ⟨#[c]⟩) H
theorem zPn:IxR X (rIxL X.K):=by
 intro value slice pins s σ H x y v u Q I rx ry h hs;obtain⟨p,xs,i,z,rfl,rfl,hq,he,q⟩:=h;cases rx;obtain⟨t,rfl⟩:=ry;obtain⟨its,r,pl,hz⟩:=I.list hq;obtain⟨j,h1,h2,h3,h4,h5⟩:=zHg he;obtain⟨w,ew,rw'⟩:=r.get h2;have hl:=r.length;have hn:=zDq;have fin:EP X pins σ Q w s:=⟨z,H,I,rw',q⟩;by_cases h0:0<=i
 ·have hj:i.toNat=j:=by
   rw[seqIndex_of h0 h5] at h1;exact Option.some.inj h1
  exact item_listR pl.isList h0 (by lia) (by rw[hj]; simpa using ew) fin hs
 ·have hj:(i+(its.toArray.size:Int)).toNat=j:=by
   rw[seqIndex_neg (by lia) h4] at h1;rw[List.size_toArray,<- hl];exact Option.some.inj h1
  exact subscriptTail_builtinR (x:=w) pl.isList.typeIs slot_list_getitem.lookup
   (wpAny_getItem_list_neg (Q:=λr s'=>r=w/\EP X pins σ Q r s') pl.isList (by lia) (by rw[List.size_toArray] <;> lia) (by lia) (by rw[hj]; simpa using ew) ⟨rfl,fin⟩) hs
theorem zR2:IxR X (rIxT X.K):=by
 intro value slice pins s σ H x y v u Q I rx ry h hs;obtain⟨p,xs,i,z,rfl,rfl,hq,he,q⟩:=h;cases rx;obtain⟨t,rfl⟩:=ry;obtain⟨its,r,pl,hz⟩:=I.tuple hq;obtain⟨j,h1,h2,h3,h4,h5⟩:=zHg he;obtain⟨w,ew,rw'⟩:=r.get h2;have hl:=r.length;have hn:=zDq;have fin:EP X pins σ Q w s:=⟨z,H,I,rw',q⟩;exact subscriptTail_builtinR (x:=w) pl.typeIs slot_tuple_getitem.lookup
  (getItem_tuple (j:=j) (Q:=λr s'=>r=w/\EP X pins σ Q r s') pl (by lia) (by lia) (by rw[List.size_toArray,<- hl]; exact h1) (by simpa using ew) ⟨rfl,fin⟩) hs
theorem zOl:IxR X rIxS:=by
 intro value slice pins s σ H x y v u Q I rx ry h hs;obtain⟨z,i,c,rfl,rfl,hz,he,q⟩:=h;obtain⟨t,rfl⟩:=rx;obtain⟨t',rfl⟩:=ry;obtain⟨j,h1,h2,h3,h4,h5⟩:=zHg he;have hl:z.cps.toList.length=z.length:=by simp[Str.length]
 rw[hl] at h1 h4 h5;have hn:=zDq;exact tail_any (typeIs_str s z t) slot_str_getitem.lookup (getItem_str (c:=c) (by
  have e1:decide (i < -(2^63:Int))=false:=decide_eq_false (by lia);have e2:decide (i >= 2^63)=false:=decide_eq_false (by lia);rw[e1,e2,Bool.or_false]) (by rw[h1]; simpa using h2) ⟨.str ⟨#[c]⟩,H,I.tok _,⟨_,rfl⟩,q⟩) hs
theorem zJc(its:List Value)(n j:Nat)(u:Value):Obj.mapSeq (·.setIfInBounds j u) { cls:=.type "list", data:=.seq its.toArray n }={ cls:=.type "list", data:=.seq (its.set j u).toArray n }:=by
 simp[Obj.mapSeq]
theorem Inv.lst{pins:List (Addr×Obj)}{σ:St}{H:Hp}{s:Shared}{p:Addr}{xs:List V}(I:Inv X pins σ H s)(h:H p=some (.lst xs)) :
  ∃(its:List Value)(n:Nat),yL xs its/\s.heap.get? p=some { cls:=.type "list", data:=.seq its.toArray n }/\xs.length<=sizeLine:=by
 obtain⟨z,its,n,r,e⟩:=I.hok p _ h;exact⟨its,n,r,e,z⟩
theorem Inv.lstUpd{pins:List (Addr×Obj)}{σ:St}{H:Hp}{s:Shared}{p:Addr}{xs ys:List V}{its its':List Value}{n n':Nat}{f:Obj->Obj}(I:Inv X pins σ H s)(h:H p=some (.lst xs))
  (ho:s.heap.get? p=some { cls:=.type "list", data:=.seq its.toArray n }) (hf:f { cls:=.type "list", data:=.seq its.toArray n }={ cls:=.type "list", data:=.seq its'.toArray n' }) (r:yL ys its') (hz:ys.length<=sizeLine) (t:Nat) :
  Inv X pins σ (upd H p (.lst ys)) { s with heap:=s.heap.update p f,toks:=t }:=by
 have e:(s.heap.update p f).get? p=some { cls:=.type "list", data:=.seq its'.toArray n' }:=by
  rw[Heap.get?_update_self f ho (by rw[hf] <;> rfl),hf]
 refine I.write (x:=p) (e:=p) (by rw[h]; trivial) (.inl rfl) (λb u hb q=>(Heap.get?_update_other _ _ (Ne.symm hb)).trans q) ⟨_,e⟩ ?_;exact⟨hz,its',n',r,e⟩
def rSetL:V->V->V->Hp->(Hp->Prop)->Prop:=λo i v H Q=>∃ p xs k j,o=.ref p/\i=.int k/\H p=some (.lst xs)/\ixN xs.length k=some j/\Q (upd H p (.lst (xs.set j v)))
theorem zNs:PSet X rSetL:=by
 intro pins s σ H o i v ov iv u Q I ro ri rv h;obtain⟨p,xs,k,j,rfl,rfl,hp,hj,q⟩:=h;cases ro;obtain⟨t,rfl⟩:=ri;obtain⟨its,n,r,ho,hz⟩:=I.lst hp;obtain⟨h1,h2,h3,h4⟩:=zKl hj;have hl:=r.length;have hn:=zDq;have I':Inv X pins σ (upd H p (.lst (xs.set j v))) { s with heap:=s.heap.update p (Obj.mapSeq (·.setIfInBounds j u)) } :=
  I.lstUpd hp ho (zJc its n j u) (r.set rv j) (by rw[List.length_set]; exact hz) s.toks
 by_cases h0:0<=k
 ·have hk:k.toNat=j:=by
   rw[seqIndex_of h0 h4] at h1;exact Option.some.inj h1
  exact PySem.W.ki_setAt ho h0 (by lia) (by rw[List.size_toArray,<- hl]; exact h4) (by rw[hk]; exact⟨_,I',q⟩)
 ·have hk:(k+(its.toArray.size:Int)).toNat=j:=by
   rw[seqIndex_neg (by lia) h3] at h1;rw[List.size_toArray,<- hl];exact Option.some.inj h1
  exact PySem.W.ki_setBack ho (by lia) (by rw[List.size_toArray,<- hl]; exact h3) (by lia) (by rw[hk]; exact⟨_,I',q⟩)

theorem zGe(lo hi:Option Int)(n:Nat):(sliceBounds lo hi none n).1=((HT.sIx n 0 lo:Nat):Int)/\(sliceBounds lo hi none n).2.1=((HT.sIx n n hi:Nat):Int)/\(sliceBounds lo hi none n).2.2=1:=by
 refine⟨?_,?_,rfl⟩
 ·cases lo with
  | none=>simp[sliceBounds,HT.sIx]
  | some i =>
   simp only[sliceBounds,HT.sIx,Option.getD_none,show(1:Int)>0 by decide,if_true];by_cases h:i<0
   ·simp only[h,if_true] <;> lia
   ·simp only[h,if_false] <;> lia
 ·cases hi with
  | none=>simp[sliceBounds,HT.sIx]
  | some i =>
   simp only[sliceBounds,HT.sIx,Option.getD_none,show(1:Int)>0 by decide,if_true];by_cases h:i<0
   ·simp only[h,if_true] <;> lia
   ·simp only[h,if_false] <;> lia
theorem zE9(its:List Value)(lo hi:Option Int):slicePick its.toArray lo hi none=((its.drop (HT.sIx its.length 0 lo)).take (HT.sIx its.length its.length hi-HT.sIx its.length 0 lo)).toArray:=by
 obtain⟨h1,h2,h3⟩:=zGe lo hi its.toArray.size;unfold slicePick;rw[h1,h2,h3];simp only[sliceRange_one,pick_run,List.size_toArray] <;> rfl
def rSlL(K:PySem.W.Frag):V->Option Int->Option Int->Hp->VK->Prop:=λx lo hi H Q=>∃ a xs,x=.ref a/\SqL K H a xs/\∀ p,H p=none->Q (.ref p) (upd H p (.lst (zDi xs lo hi)))
theorem zLb:SlR X (rSlL X.K):=by
 intro pins s σ H x v vl vu lo hi sl Q I rx hs pl pu h;obtain⟨a,xs,rfl,hx,q⟩:=h;cases rx;obtain⟨its,r,ht,hz⟩:=I.list hx;have hlen:=r.length;exists "list", _,slot_list_getitem.lookup,ht.isList.typeIs;refine wpAny_getItem_list_slice ht.isList hs pl pu .none (by simp) ?_ (by rw[List.size_toArray] <;> lia);rw[zE9,<- hlen];refine⟨.ref s.heap.objs.size,_,I.laid (t':=s.toks) (o:=.lst (zDi xs lo hi)) (λb ob q=>Heap.get?_push_of_some _ q) (Nat.le_refl _) ?_,rfl,q _ (I.hok.fresh (Nat.le_refl _))⟩;exact⟨Nat.le_trans (zB8 xs lo hi) hz,_,0,(r.drop (HT.sIx xs.length 0 lo)).take (HT.sIx xs.length xs.length hi-HT.sIx xs.length 0 lo),Heap.get?_push_size _ rfl⟩

def zE8:V->Bool
 | .non=>true
 | .bl _=>true
 | .int _=>true
 | .str _=>true
 | _=>false
def eqV:V->V->Bool
 | .non,.non=>true
 | .bl a,.bl b=>a == b
 | .bl a,.int b=>(if a then 1 else 0) == b
 | .int a,.bl b=>a ==(if b then 1 else 0)
 | .int a,.int b=>a == b
 | .str a,.str b=>a == b
 | _,_=>false
theorem zSe{A:Around}{s:Shared}{y x:V}{u v:Value}(ry:yQ y u)(rx:yQ x v)(fy:zE8 y=true)(fx:zE8 x=true):SeqAt.EqAt A s u v (eqV y x):=by
 cases y with
 | non =>
  cases ry;cases x with
  | non=>cases rx; exact SeqAt.EqAt.same _
  | bl b=>cases rx; exact SeqAt.EqAt.none_bool b
  | int b=>obtain⟨t,rfl⟩:=rx; exact SeqAt.EqAt.none_int b t
  | str b=>obtain⟨t,rfl⟩:=rx; exact SeqAt.EqAt.none_str b t
  | _=>exact absurd (show false=true from fx) Bool.false_ne_true
 | bl a =>
  cases ry;cases x with
  | non=>cases rx; exact SeqAt.EqAt.bool_none a
  | bl b=>cases rx; exact SeqAt.EqAt.bool_bool a b
  | int b=>obtain⟨t,rfl⟩:=rx; exact SeqAt.EqAt.bool_int a b t
  | str b=>obtain⟨t,rfl⟩:=rx; exact SeqAt.EqAt.bool_str a b t
  | _=>exact absurd (show false=true from fx) Bool.false_ne_true
 | int a =>
  obtain⟨t',rfl⟩:=ry;cases x with
  | non=>cases rx; exact SeqAt.EqAt.int_none a t'
  | bl b=>cases rx; exact SeqAt.EqAt.int_bool a t' b
  | int b=>obtain⟨t,rfl⟩:=rx; exact SeqAt.EqAt.int_int a t' b t
  | str b=>obtain⟨t,rfl⟩:=rx; exact SeqAt.EqAt.int_str a t' b t
  | _=>exact absurd (show false=true from fx) Bool.false_ne_true
 | str a =>
  obtain⟨t',rfl⟩:=ry;cases x with
  | non=>cases rx; exact SeqAt.EqAt.str_none a t'
  | bl b=>cases rx; exact SeqAt.EqAt.str_bool a t' b
  | int b=>obtain⟨t,rfl⟩:=rx; exact SeqAt.EqAt.str_int a t' b t
  | str b=>obtain⟨t,rfl⟩:=rx; exact SeqAt.EqAt.str_str a t' b t
  | _=>exact absurd (show false=true from fx) Bool.false_ne_true
 | _=>exact absurd (show false=true from fy) Bool.false_ne_true
def eqU(x:V)(u:Value):Bool:=match u with
 | .none=>eqV .non x
 | .bool b=>eqV (.bl b) x
 | .int i _=>eqV (.int i) x
 | .str z _=>eqV (.str z) x
 | _=>false
theorem zOr{x y:V}{u:Value}(r:yQ y u)(f:zE8 y=true):eqU x u=eqV y x:=by
 cases y with
 | non=>cases r; rfl
 | bl b=>cases r; rfl
 | int i=>obtain⟨t,rfl⟩:=r; rfl
 | str z=>obtain⟨t,rfl⟩:=r; rfl
 | _=>exact absurd (show false=true from f) Bool.false_ne_true
theorem zH4{x:V} : ∀{xs:List V}{us:List Value},yL xs us->xs.all zE8=true->us.any (eqU x)=xs.any λy=>eqV y x
 | _,_,.nil,_=>rfl
 | y::xs,u::us,.cons r t,f=>by
  rw[List.all_cons,Bool.and_eq_true] at f;rw[List.any_cons,List.any_cons,zOr r f.1,zH4 t f.2]
theorem zEw{A:Around}{s:Shared}{x:V}{v:Value}(rx:yQ x v)(fx:zE8 x=true):∀{xs:List V}{us:List Value},yL xs us->xs.all zE8=true->∀ u∈us,SeqAt.EqAt A s u v (eqU x u)
 | _,_,.nil,_=>λu hu=>by cases hu
 | y::xs,u::us,.cons r t,f=>λu' hu=>by
  rw[List.all_cons,Bool.and_eq_true] at f;rcases List.mem_cons.mp hu with rfl | hu
  ·rw[zOr r f.1]; exact zSe r rx f.1 fx
  ·exact zEw rx fx t f.2 u' hu
def inV(x:V)(xs:List V):Bool:=xs.any λy=>eqV y x
def rIn(K:PySem.W.Frag)(neg:Bool):R2:=λx y H Q=>∃ p xs,y=.ref p/\(SqL K H p xs\/SqT K H p xs)/\zE8 x=true/\xs.all zE8=true/\Q (.bl (if neg then !inV x xs else inV x xs)) H
theorem zFw:OpR X (compareOp .In) (rIn X.K false):=by
 intro pins s σ H x y v u Q I rx ry h;obtain⟨p,xs,rfl,hq,fx,fs,q⟩:=h;cases ry;rcases hq with hq | hq
 ·obtain⟨its,r,pl,hz⟩:=I.list hq;refine SeqAt.in_listAt (eqU x) pl.isList (λw hw=>zEw rx fx r fs w (by simpa using hw)) ⟨.bl _,H,I,rfl,?_⟩;rw[show its.toArray.any (eqU x)=its.any (eqU x) by simp,zH4 r fs];exact q
 ·obtain⟨its,r,pl,hz⟩:=I.tuple hq;refine SeqAt.in_tupleAt (eqU x) pl (λw hw=>zEw rx fx r fs w (by simpa using hw)) ⟨.bl _,H,I,rfl,?_⟩;rw[show its.toArray.any (eqU x)=its.any (eqU x) by simp,zH4 r fs];exact q
theorem vP:wR X (.builtin "len") (λxs H Q=>∃ p ys,xs=[.ref p]/\(SqL X.K H p ys\/SqT X.K H p ys)/\Q (.int ys.length) H):=by
 intro pins s σ H xs us Q I r h;obtain⟨p,ys,rfl,hq,q⟩:=h;obtain⟨u,rfl,rx⟩:=zDo r;cases rx;have hn:=zDq;rcases hq with hq | hq
 ·obtain⟨its,r',pl,hz⟩:=I.list hq;have hlen:=r'.length;exact Calls.call_len_list pl.isList (by simp only[List.size_toArray] <;> lia) ⟨.int ys.length,H,I.tok _,⟨s.toks+1,by rw[List.size_toArray,hlen]⟩,q⟩
 ·obtain⟨its,r',pl,hz⟩:=I.tuple hq;have hlen:=r'.length;exact len_tuple pl (by simp only[List.size_toArray] <;> lia) ⟨.int ys.length,H,I.tok _,⟨s.toks+1,by rw[List.size_toArray,hlen]⟩,q⟩
theorem zAz:wR X (.builtin "len") (λxs H Q=>∃ z,xs=[.str z]/\z.length<=sizeLine/\Q (.int z.length) H):=by
 intro pins s σ H xs us Q I r h;obtain⟨z,rfl,hz,q⟩:=h;obtain⟨u,rfl,t,rfl⟩:=zDo r;have hn:=zDq;exact len_str (by lia) ⟨.int z.length,H,I.tok _,⟨_,rfl⟩,q⟩
theorem wR.or{f:Value}{r r':List V->Hp->VK->Prop}(h:wR X f r)(h':wR X f r'):wR X f (λxs H Q=>r xs H Q\/r' xs H Q):=by
 intro pins s σ H xs us Q I rs q;rcases q with q | q
 ·exact h pins s σ H xs us Q I rs q
 ·exact h' pins s σ H xs us Q I rs q
theorem zA2:wR X (.type "list") (λxs H Q=>∃ p ys,xs=[.ref p]/\(SqL X.K H p ys\/SqT X.K H p ys)/\∀ l,H l=none->Q (.ref l) (upd H l (.lst ys))):=by
 intro pins s σ H xs us Q I r h;obtain⟨p,ys,rfl,hq,q⟩:=h;obtain⟨u,rfl,rx⟩:=zDo r;cases rx;have fin:∀(its:List Value),yL ys its->ys.length<=sizeLine->∀(h':Heap)(c':Nat),(∀ b o',s.heap.get? b=some o'->h'.get? b=some o') ->
   h'.get? s.heap.objs.size=some { cls:=.type "list", dict:=none,data:=.seq its.toArray c',slots:=#[] }->EP X pins σ Q (.ref s.heap.objs.size) { s with heap:=h' }:=λits r' hz h' c' kp e =>
  ⟨.ref s.heap.objs.size,_,I.laid (t':=s.toks) kp (Nat.le_refl _) (show yZ X.prog X.w _ h' _ (.lst ys) from⟨hz,its,c',r',e⟩),rfl,q _ (I.hok.fresh (Nat.le_refl _))⟩
 rcases hq with hq | hq
 ·obtain⟨its,r',pl,hz⟩:=I.list hq;have hlen:=r'.length;obtain⟨o,ho,hc,n,hd⟩:=pl.isList;exact call_list_seq p (.inl rfl) ho hc hd (λh' c' kp e=>fin its r' hz h' c' kp e) (by simp only[List.size_toArray] <;> lia)
 ·obtain⟨its,r',pl,hz⟩:=I.tuple hq;have hlen:=r'.length;obtain⟨o,ho,hc,n,hd⟩:=pl;exact call_list_seq p (.inr rfl) ho hc hd (λh' c' kp e=>fin its r' hz h' c' kp e) (by simp only[List.size_toArray] <;> lia)
theorem qI:wR X (.type "tuple") (λxs H Q=>∃ p ys,xs=[.ref p]/\((SqL X.K H p ys/\∀ l,H l=none->Q (.ref l) (upd H l (.tup ys)))\/(SqT X.K H p ys/\Q (.ref p) H))):=by
 intro pins s σ H xs us Q I r h;obtain⟨p,ys,rfl,h⟩:=h;obtain⟨u,rfl,rx⟩:=zDo r;cases rx;rcases h with ⟨hq,q⟩ | ⟨hq,q⟩
 ·obtain⟨its,r',pl,hz⟩:=I.list hq;have hlen:=r'.length;refine call_tuple_list pl.isList (λh' kp=>?_) (by simp only[List.size_toArray] <;> lia);have I1:Inv X pins σ H { s with heap:=h' }:=I.kept (t':=s.toks) kp;have I2:Inv X pins σ (upd H h'.objs.size (.tup ys)) { s with heap:=h'.push { cls:=.type "tuple", data:=.seq its.toArray } } :=
   I1.laid (t':=s.toks) (λb o e=>Heap.get?_push_of_some _ e) (Nat.le_refl _) (show yZ X.prog X.w _ _ _ (.tup ys) from⟨hz,its,r',IsTup.new _ _⟩)
  exact⟨.ref h'.objs.size,_,I2,rfl,q _ (I1.hok.fresh (Nat.le_refl _))⟩
 ·obtain⟨its,r',pl,hz⟩:=I.tuple hq;exact call_tuple_same pl ⟨.ref p,H,I,rfl,q⟩

def tyV(K:PySem.W.Frag)(T:String)(x:V)(H:Hp):Prop:=match x with
 | .str _=>T = "str"
 | .int _=>T = "int"
 | .ref p=>(T = "list" /\ ∃ xs,SqL K H p xs)\/(T = "tuple" /\ ∃ o,K.lookup p=some o/\o.cls=.type "tuple" /\ o.dict=none) \/
   (T = "dict" /\ ((∃ kvs,H p=some (.dK kvs))\/∃ kvs,H p=some (.dT kvs)))\/(T = "set" /\ ∃ S n,H p=some (.set S n))
 | _=>False
theorem zOf{pins:List (Addr×Obj)}{σ:St}{H:Hp}{s:Shared}{T:String}{x:V}{v:Value}(I:Inv X pins σ H s)(r:yQ x v)(ty:tyV X.K T x H) :
  s.TypeIs v T/\∀ a,v=.ref a->∃ ob,s.heap.get? a=some ob/\ob.dict=none:=by
 cases x with
 | str z =>
  obtain⟨t,rfl⟩:=r;cases (show T = "str" from ty);exact⟨typeIs_str s z t,λ_ e=>nomatch e⟩
 | int i =>
  obtain⟨t,rfl⟩:=r;cases (show T = "int" from ty);exact⟨typeIs_int s i t,λ_ e=>nomatch e⟩
 | ref p =>
  cases r;rcases ty with ⟨rfl,xs,hq⟩ | ⟨rfl,o,hk,hc,hd⟩ | ⟨rfl,hk⟩ | ⟨rfl,S,n,hk⟩
  ·obtain⟨its,_,pl,_⟩:=I.list hq;refine⟨pl.isList.typeIs,λa e=>?_⟩;cases e;obtain⟨o,n,e,c,hd,_⟩:=pl;exact⟨o,e,hd⟩
  ·refine⟨⟨o,I.kIn p o hk,hc⟩,λa e=>?_⟩;cases e;exact⟨o,I.kIn _ o hk,hd⟩
  ·have z:∃ o,s.heap.get? p=some o/\o.ExactDict:=by
    rcases hk with ⟨kvs,hk⟩ | ⟨kvs,hk⟩
    ·obtain⟨_,_,_,_,o,_,_,e,ex,_⟩:=I.hok p _ hk;exact⟨o,e,ex⟩
    ·obtain⟨_,_,_,_,o,_,_,e,ex,_⟩:=I.hok p _ hk;exact⟨o,e,ex⟩
   obtain⟨o,e,ex⟩:=z;refine⟨⟨o,e,ex.1⟩,λa e2=>?_⟩;cases e2;exact⟨o,e,ex.2.1⟩
  ·obtain⟨o,_,_,_,e,ex,_⟩:=I.hok p _ hk;refine⟨⟨o,e,ex.1⟩,λa e2=>?_⟩;cases e2;exact⟨o,e,ex.2.1⟩
 | _=>exact False.elim ty
def tBM0(K:PySem.W.Frag)(T:String)(r:V->List V->Hp->VK->Prop)(to:TE):TE:=λσ H Q=>to σ H λx H1=>tyV K T x H1/\r x [] H1 Q
def tBM(K:PySem.W.Frag)(T:String)(r:V->List V->Hp->VK->Prop)(to:TE)(t:TA):TE:=λσ H Q=>to σ H λx H1=>tyV K T x H1/\t σ H1 λxs H2=>r x xs H2 Q
variable{o e:Expr}{es:List Expr}{to:TE}{t:TA}{name:Str}{apos cpos:Pos}{T id:String}{r:V->List V->Hp->VK->Prop}
theorem zRh(pa:PlainAttrs T)(slot:Slot T name id)(hty:typeOf (.builtin id)=pure (.type "method_descriptor"))(hm:MtR X id r)(ho:PE X o to)
  (hbase:attributeBase o name X.env (eval o X.env)=eval o X.env:=by rfl) (hline:(apos.endLine == cpos.line)=true:=by rfl):PE X (.Call (.Attribute o name apos) [] [] cpos) (tBM0 X.K T r to):=by
 intro pins s σ H Q I h;refine wpAny_Call_method0_late hbase hline (thn (ho pins s σ H _ I h) λv s1 ⟨x,H1,I1,r1,ty,q1⟩=>?_);obtain⟨h1,h2⟩:=zOf I1 r1 ty;exact⟨T,id,pa,slot,hty,h1,h2,Calls.callWith_builtin rfl (PySem.evalArgs_none (hm pins s1 σ H1 x [] v [] Q I1 r1 .nil q1))⟩
theorem zQq(pa:PlainAttrs T)(slot:Slot T name id)(hty:typeOf (.builtin id)=pure (.type "method_descriptor"))(hm:MtR X id r)(ho:PE X o to)(ha:PA X (e::es) t)
  (hbase:attributeBase o name X.env (eval o X.env)=eval o X.env:=by rfl)
  (hfew:((backTo cpos (starEach (e::es) X.env)).all (λx=>!x.1)&&(backToKw cpos (keywordEach [] X.env)).all (λx=>x.1.isSome)
   && decide ((e::es).length+([]:List Keyword).length+(if ([]:List Keyword).isEmpty then 0 else 1)<30))=true:=by rfl)
  (hline:(apos.endLine == cpos.line)=true:=by rfl) (hs:starEach (e::es) X.env=(false,eval e X.env)::starEach es X.env:=by rfl) (hplain:(backTo cpos (starEach es X.env)).any (·.1)=false:=by rfl) :
  PE X (.Call (.Attribute o name apos) (e::es) [] cpos) (tBM X.K T r to t):=by
 intro pins s σ H Q I h;refine wpAny_Call_method_late hbase hfew hline rfl (thn (ho pins s σ H _ I h) λv s1 ⟨x,H1,I1,r1,ty,q1⟩=>?_);obtain⟨h1,h2⟩:=zOf I1 r1 ty;exists T,id,pa,slot,hty,h1,h2;have hA:=ha cpos pins s1 σ H1 _ I1 q1;rw[hs] at hA ⊢;refine Calls.callWith_builtin (by show(false||(backTo cpos (starEach es X.env)).any (·.1))=false; rw[hplain] <;> rfl) (Calls.evalArgs_plain ?_);exact thn hA λus s2 ⟨vs,H2,I2,r2,q2⟩=>hm pins s2 σ H2 x vs v us Q I2 r1 r2 q2
end
end L2

namespace L2
open PySem PySem.Spec PyProof.Rows

def MtM(X:Cx)(id:String)(r:V->List V->Hp->VK->Prop):Prop :=
 ∀(pins:List (Addr×Obj))(s:Shared)(σ:St)(H:Hp)(x:V)(xs:List V)(v:Value)(us:List Value)(Q:VK),Inv X pins σ H s->yQ x v->yL xs us->r x xs H Q ->
  wpAny (model X.prog X.w) X.A (call (.builtin id) (v::us)) (EP X pins σ Q) X.xe s

theorem yL.one:∀{x:V}{us:List Value},yL [x] us->∃ u,us=[u]/\yQ x u
 | _,_,.cons r .nil=>⟨_,rfl,r⟩
theorem yL.two:∀{x y:V}{us:List Value},yL [x,y] us->∃ u v,us=[u,v]/\yQ x u/\yQ y v
 | _,_,_,.cons r (.cons q .nil)=>⟨_,_,rfl,r,q⟩
theorem yL.zero:∀{us:List Value},yL [] us->us=[]
 | _,.nil=>rfl
theorem yL.dropLast{xs:List V}{us:List Value}(h:yL xs us):yL xs.dropLast us.dropLast:=by
 induction h with
 | nil=>exact .nil
 | cons r t ih =>
  cases t with
  | nil=>exact .nil
  | cons q t'=>exact .cons r ih
theorem zI6{α:Type}(l:List α):l.eraseIdx (l.length-1)=l.dropLast:=by
 induction l with
 | nil=>rfl
 | cons a r ih =>
  cases r with
  | nil=>rfl
  | cons b r =>
   have e:(a::b::r).length-1=((b::r).length-1)+1:=by
    have h1:(a::b::r).length=r.length+2:=rfl;have h2:(b::r).length=r.length+1:=rfl;lia
   rw[e,List.eraseIdx_cons_succ,ih]
   all_goals rfl
section
variable{X:Cx}{pins:List (Addr×Obj)}{σ:St}{H:Hp}{s:Shared}{l b:Addr}{xs ys zs:List V}

theorem Inv.lset{its its':List Value}{n:Nat}{f:Array Value->Array Value}{t':Nat}(I:Inv X pins σ H s)(hH:H l=some (.lst xs))
  (e:s.heap.get? l=some { cls:=.type "list", data:=.seq its.toArray n }) (hf:f its.toArray=its'.toArray) (hv:yL ys its') (hz:ys.length<=sizeLine) :
  Inv X pins σ (upd H l (.lst ys)) { s with heap:=s.heap.update l (Obj.mapSeq f),toks:=t' }:=by
 have q:=PySem.IsL.update e f;rw[hf] at q;refine I.write (x:=l) (e:=l) (by rw[hH]; exact trivial) (.inl rfl) (λb' u hb hu=>(Heap.get?_update_other s.heap (Obj.mapSeq f) (Ne.symm hb)).trans hu) ⟨_,q⟩ ?_;exact⟨hz,its',_,hv,q⟩
theorem Inv.lnew{its:List Value}{t':Nat}(I:Inv X pins σ H s)(hv:yL ys its)(hz:ys.length<=sizeLine) :
  Inv X pins σ (upd H s.heap.objs.size (.lst ys)) { s with heap:=s.heap.push { cls:=.type "list", data:=.seq its.toArray },toks:=t' } :=
 I.laid (λ_ _ q=>Heap.get?_push_of_some _ q) (Nat.le_refl _) ⟨hz,its,0,hv,Heap.get?_push_size _ rfl⟩
theorem Inv.fresh(I:Inv X pins σ H s):H s.heap.objs.size=none:=I.hok.fresh (Nat.le_refl _)
theorem Inv.lstM(I:Inv X pins σ H s)(hH:H l=some (.lst xs)):xs.length<=sizeLine/\∃(its:List Value)(n:Nat),yL xs its/\xs.length=its.length/\s.heap.get? l=some { cls:=.type "list", data:=.seq its.toArray n }:=by
 obtain⟨z,its,n,r,e⟩:=I.hok l _ hH;exact⟨z,its,n,r,r.length,e⟩

theorem zNx{n:Nat}(h:n<=sizeLine):Builtin.List.listTooLong n=false:=by
 unfold Builtin.List.listTooLong;exact decide_eq_false (by lia)
end

section
variable{X:Cx}

def zKd:V->List V->Hp->VK->Prop:=λx vs H Q=>∃ l xs y,x=.ref l/\vs=[y]/\H l=some (.lst xs)/\xs.length<sizeLine/\Q .non (upd H l (.lst (xs++[y])))
theorem zGt:MtM X "list.append" zKd:=by
 intro pins s σ H x vs v us Q I rx rv h;obtain⟨l,xs,y,rfl,rfl,hH,hz,q⟩:=h;cases rx;obtain⟨u,rfl,ru⟩:=rv.one;obtain⟨z,its,n,r,hl,e⟩:=I.lstM hH;refine call_meets F.slot_list_append ⟨_,e,rfl⟩ F.entry_list_append (F.args_list_append_2 _ _) (PySem.list_append l its.toArray n u (by rw[List.size_toArray]; lia)) ⟨e,?_⟩;refine⟨.non,_,I.lset (its':=its++[u]) hH e (by simp) (r.append (.cons ru .nil)) ?_,rfl,q⟩;rw[List.length_append,List.length_singleton];lia

def zQa:V->List V->Hp->VK->Prop:=λx vs H Q=>∃ l b xs zs,x=.ref l/\vs=[.ref b]/\H l=some (.lst xs)/\H b=some (.lst zs)/\xs.length+zs.length<=sizeLine/\Q .non (upd H l (.lst (xs++zs)))
theorem zLs:MtM X "list.extend" zQa:=by
 intro pins s σ H x vs v us Q I rx rv h;obtain⟨l,b,xs,zs,rfl,rfl,hH,hB,hz,q⟩:=h;cases rx;obtain⟨u,rfl,ru⟩:=rv.one;cases ru;obtain⟨z,its,n,r,hl,e⟩:=I.lstM hH;obtain⟨z2,its2,n2,r2,hl2,e2⟩:=I.lstM hB;have hsz:its.toArray.size+its2.toArray.size<=sizeLine:=by rw[List.size_toArray,List.size_toArray]; lia
 have hlong:¬ (!its.toArray.isEmpty&&Builtin.List.listTooLong (its.toArray.size+its2.toArray.size))=true:=by
  rw[zNx hsz,Bool.and_false];exact Bool.false_ne_true
 refine call_meets F.slot_list_extend ⟨_,e,rfl⟩ F.entry_list_extend (F.args_list_extend_2 _ _)
  (AutoSeq1.list_extend_list_list_0 l its.toArray n b its2.toArray n2 hlong (by rw[List.size_toArray]; lia) (by lia)) ⟨e,e2,?_⟩
 refine⟨.non,_,I.lset (its':=its++its2) hH e (by simp) (r.append r2) ?_,rfl,q⟩;rw[List.length_append];lia

def rPop:V->List V->Hp->VK->Prop:=λx vs H Q=>∃ l xs y,x=.ref l/\vs=[]/\H l=some (.lst xs)/\xs[xs.length-1]?=some y/\Q y (upd H l (.lst xs.dropLast))
theorem mt_pop:MtM X "list.pop" rPop:=by
 intro pins s σ H x vs v us Q I rx rv h;obtain⟨l,xs,y,rfl,rfl,hH,hy,q⟩:=h;cases rx;have hus:=rv.zero;subst hus;obtain⟨z,its,n,r,hl,e⟩:=I.lstM hH;obtain⟨u,hu,ru⟩:=r.get hy;have hy':its.toArray[its.toArray.size-1]?=some u:=by
  show its.toArray[its.length-1]?=some u;rw[<- Array.getElem?_toList,<- hl];exact hu
 refine call_meets F.slot_list_pop ⟨_,e,rfl⟩ F.entry_list_pop (F.args_list_pop_1 _) (MeetsSeq.list_pop_last l its.toArray n u hy' (by rw[List.size_toArray]; lia)) ⟨e,?_⟩;refine⟨y,_,I.lset (its':=its.dropLast) hH e ?_ r.dropLast ?_,ru,q⟩
 ·show its.toArray.eraseIdxIfInBounds (its.toArray.size-1)=its.dropLast.toArray;rw[List.size_toArray,List.eraseIdxIfInBounds_toArray,zI6]
 ·rw[List.length_dropLast];lia

def zRs:V->List V->Hp->VK->Prop:=λx vs H Q=>∃ l xs,x=.ref l/\vs=[]/\H l=some (.lst xs)/\Q .non (upd H l (.lst []))
theorem zMj:MtM X "list.clear" zRs:=by
 intro pins s σ H x vs v us Q I rx rv h;obtain⟨l,xs,rfl,rfl,hH,q⟩:=h;cases rx;have hus:=rv.zero;subst hus;obtain⟨z,its,n,r,hl,e⟩:=I.lstM hH;refine call_meets F.slot_list_clear ⟨_,e,rfl⟩ F.entry_list_clear (F.args_list_clear_1 _) (AutoSeq1.list_clear_list_0 l its.toArray n (by rw[List.size_toArray]; lia)) ⟨e,?_⟩;exact⟨.non,_,I.lset (its':=[]) (ys:=[]) hH e rfl .nil (Nat.zero_le _),rfl,q⟩

def rCat:R2:=λx y H Q=>∃ l b xs zs,x=.ref l/\y=.ref b/\H l=some (.lst xs)/\H b=some (.lst zs)/\xs.length+zs.length<=sizeLine/\∀ p,H p=none->Q (.ref p) (upd H p (.lst (xs++zs)))
theorem zSm:OpR X (binaryOp .Add) rCat:=by
 intro pins s σ H x y v u Q I rx ry h;obtain⟨l,b,xs,zs,rfl,rfl,hH,hB,hz,q⟩:=h;cases rx;cases ry;obtain⟨z,its,n,r,hl,e⟩:=I.lstM hH;obtain⟨z2,its2,n2,r2,hl2,e2⟩:=I.lstM hB;refine PySem.P.add_list e e2 ?_ (by rw[List.size_toArray,List.size_toArray]; lia);have ea:its.toArray++its2.toArray=(its++its2).toArray:=by simp
 rw[ea];exact⟨.ref _,_,I.lnew (t':=s.toks) (r.append r2) (by rw[List.length_append]; lia),rfl,q _ I.fresh⟩
end


end L2

namespace Att
open PySem PySem.W PySem.Calls PyProof.Rows

theorem zB3{P:Params}{h:Heap} : ∀(ns:List Int)(vs:List Value),WellAll P h vs (ns.map WData.int)->IntsAre vs ns:=by
 intro ns
 induction ns with
 | nil =>
  intro vs w;rw[List.map_nil] at w;cases w;exact .nil
 | cons n ns ih =>
  intro vs w;rw[List.map_cons] at w;cases w with
  | cons a b =>
   cases a;exact .cons _ _ (ih _ b)

theorem zLo{l:OpenLaw}{n:Nat}(hn:l.most=some n){P:Params}{h:Heap}{args:List WData}{vals:List Value}
  (hpre:l.row.toRowW.claim.pre args=true) (hwl:WellAll P h vals args) :
  ∃ a vs ns,vals=[Value.ref a]/\args=[WData.list (ns.map WData.int)]/\h.get? a=some { cls:=.type "list", data:=.seq vs.toArray }/\IntsAre vs ns/\ns.length<=n:=by
 have hsh:WShape.hasAll [] args [.list .int]=true:=(pre_splitW hpre).1;have hc:l.pre.holds [] { args:=args }=true:=(pre_splitW hpre).2;obtain⟨d,r,rfl,h1,h2⟩:=hasAllW_cons hsh;obtain rfl:=hasAllW_nil h2;obtain⟨xs,rfl,h3⟩:=hasW_list h1;obtain⟨ns,rfl⟩:=items_int h3;have hlen:ns.length<=n:=by
  unfold OpenLaw.pre at hc;have h4:(WTm.not (.lt (.lit (.int (n:Int))) (.len (.arg 0)))).holds [] { args:=[.list (ns.map .int)] }=true:=by
   have h4:=(holds_andW hc).1;rw[hn] at h4;exact h4
  have h5:=condW_of h4 (w_not (w_lt w_lit (w_len_list (w_arg rfl))));rw[List.length_map] at h5;refine Nat.le_of_not_lt λq=>?_;have q':(n:Int)<((ns.length:Nat):Int):=by lia
  first
   | (rw[decide_eq_true q'] at h5; exact absurd h5 (by decide))
   | (simp at h5; lia)
 cases hwl with
 | cons w1 w2 =>
  cases w2;cases w1 with
  | list ho hall=>exact⟨_,_,ns,rfl,rfl,ho,zB3 ns _ hall,hlen⟩

theorem zKj(l:OpenLaw)(args:List WData):l.row.toRowW.claim.post args (.bool true) args=true :=
 postW_of (r:=l.row.toRowW) (X:=(true == true))
  (show WShape.has [] (.bool true) .bool=true by first | rfl | decide | simp[WShape.has,WShape.arms,WShape.armsAll])
  (show(WTm.eq .res (.lit (.bool true))).value [] { args:=args,res:=some (.bool true),after:=args }=some (.bool (true == true)) from w_eq_bool (w_res rfl) w_lit) rfl

theorem attach_call{l:OpenLaw}{n:Nat}{q:Program}{loose:List Str}{XP:(Str->Option Value)->Heap->Prop}{YP:World->Heap->Prop}{d:DefRec}
  (hn:l.most=some n) (hdf:d.params.defaults=[])
  (call:∀(w:World)(s₀ s₁:Shared)(mg mb:Str->Option Value)(fa:Addr)(o:Obj)(pm cd doc:Value)(a:Addr)(vs:List Value)(ns:List Int),
   Ground q loose [] XP w s₀ mg mb s₁.heap->YP w s₁.heap ->
   s₁.heap.get? fa=some o->o.data=.func (docDef d.name d.params d.body d.scope pm cd doc)->s₁.heap.CodeRec cd d.name->mg d.name=some (.ref fa) ->
   s₁.heap.get? a=some { cls:=.type "list", data:=.seq vs.toArray }->IntsAre vs ns->ns.length<=n->s₁.gens = #[] ->
   codeAny (model l.prog w) callerA (.call (.ref fa) ⟨[.ref a],[]⟩) (λr s'=>r=.ok (.ret (.bool true))/\OldK s₁.heap s'.heap/\s'.os=s₁.os/\AllBare s'.gens) s₁) :
  WalkO q loose XP YP l.row.toRowW d [] (λf vs=>PySem.call f vs):=by
 intro w s₀ s₁ mg mb G Y fa o pm cd doc dV kV ho hd hcd hD hmg hg args vals as hpre hlay hrd hwl hlo;obtain rfl:dV=.none:=Dflts.none hD hdf;obtain rfl:kV=.none:=Dflts.noKw hD;obtain⟨a,vs,ns,rfl,rfl,hobj,hints,hlen⟩:=zLo hn hpre hwl;refine enter_call (codeAny_mono (call w s₀ s₁ mg mb fa o pm cd doc a vs ns G Y ho (fd_plain hd) hcd hmg hobj hints hlen hg) λr s' hq=>?_);obtain⟨rfl,h2,h3,h4⟩:=hq;exact⟨.inl ⟨.bool true,.bool true,[],rfl,λ_=>rfl,.bool true,zKj l _,λ_=>⟨List.Pairwise.nil,λ_ hm=>(nomatch hm)⟩⟩,h2,h3,h4⟩

section
variable{prog:Program}{w:World}{A:Around}{E:Value->Shared->Prop}{s:Shared}{K:Frag}

end
end Att

namespace L2
open PySem PySem.Spec PyProof.Rows

theorem zDg:∀{vs:List Value}{ns:List Int},IntsAre vs ns->yL (ns.map V.int) vs
 | _,_,.nil=>.nil
 | _,_,.cons n t h=>.cons ⟨t,rfl⟩ (zDg h)

def Only(H:Hp):Prop:=∀ b,H b=none\/∃ o xs,H b=some (.frz o (.lst xs))

theorem zNm{P:Program}{w:World}{K:PySem.W.Frag}{mg mb:Str->Option Value}{CX:CXT}{k:Nat}{fa a:Addr}{fd:FuncData}{x:Str}{sp:Sp}{s₁:Shared}{vs:List Value}{ns:List Int}
  (KX:K.In s₁.heap) (hns:s₁.heap.Ns mainGlobals mg) (hb:s₁.heap.Ns builtinsNs mb) (hbb:∀ x:Str,x ≠ "__name__" -> mb x=bootBuiltins x) (hlim:s₁.heap.NoLimit) (hg:s₁.gens = #[])
  (ha:s₁.heap.get? a=some { cls:=.type "list", data:=.seq vs.toArray }) (hi:IntsAre vs ns) (hl:ns.length<=sizeLine) (hr:sY k callerA)
  (F:∀ base:Heap,K.In base->base.Ns mainGlobals mg->yP P w K mg base CX k fa fd [x] sp) (hbind:∀(s:Shared)(u:Value),BindsTo s fd ⟨[u],[]⟩ [(x,u)])
  (hsp:∀ H:Hp,Only H->SqL K H a (ns.map V.int)->sp [.ref a] H (λv _=>v=.bl true) λ_ _ _=>False)
  (hCX:∀ H e s',CX [] H s₁ (λ_ _ _=>False) e s'->False) :
  codeAny (model P w) callerA (.call (.ref fa) ⟨[.ref a],[]⟩) (λr s'=>r=.ok (.ret (.bool true))/\OldK s₁.heap s'.heap/\s'.os=s₁.os/\AllBare s'.gens) s₁:=by
 have rv:=zDg hi;have lenV:=hi.length;have core:∀ H:Hp,Only H->SqL K H a (ns.map V.int)->HOk P w H s₁.heap->(∀ b,H b≠none->b=a)->(H a≠none->K.lookup a=none) ->
   codeAny (model P w) callerA (.call (.ref fa) ⟨[.ref a],[]⟩) (λr s'=>r=.ok (.ret (.bool true))/\OldK s₁.heap s'.heap/\s'.os=s₁.os/\AllBare s'.gens) s₁:=by
  intro H hO hS hok hA hK;have base_of:∀{b:Addr}{o:Obj},s₁.heap.get? b=some o->H b=none->(zMp s₁.heap H).get? b=some o:=λe n=>zMt e n;have noA:∀{b:Addr}{o:Obj}{es:Array DictEntry}{ep:Nat},s₁.heap.get? b=some o->o.data=.dict es ep->H b=none:=λ{b o es ep} e d=>by
   cases q:H b with
   | none=>rfl
   | some u =>
    have e':b=a:=hA b (by rw[q]; simp);subst e';rw[ha] at e; cases e;have d':Data.seq vs.toArray _=Data.dict es ep:=d;cases d'
  have nsK:∀{b:Addr}{m:Str->Option Value},s₁.heap.Ns b m->(zMp s₁.heap H).Ns b m:=λ{b m} ⟨o,es,ep,e,d,r⟩=>⟨o,es,ep,base_of e (noA e d),d,r⟩;have hKb:K.In (zMp s₁.heap H):=λb o e=>base_of (KX b o e) (by
   cases q:H b with
   | none=>rfl
   | some u =>
    have e':b=a:=hA b (by rw[q]; simp);subst e';rw[hK (by rw[q]; simp)] at e; cases e)
  have hM:Mod K mg (zMp s₁.heap H):=⟨hKb,nsK hns,⟨mb,nsK hb,hbb⟩,let ⟨mc,h1,h2⟩:=hlim;⟨mc,nsK h1,h2⟩⟩;have e0:zQg P w K mg (zMp s₁.heap H) callerA [] s₁ H:=⟨rfl,hM,λb o e=>zPx e,Nat.le_of_eq (zK0 _ _),trivial,λb hb=>absurd (show b∈([]:List Addr) from hb) (by simp),hok,.of_eq hg⟩;refine codeAny_mono ((F _ hKb (nsK hns)).run callerA [] s₁ H ⟨[.ref a],[]⟩ [.ref a] [.ref a] _ _ hr e0 (hbind s₁ (.ref a)) (.cons rfl .nil) (hsp H hO hS)) λr s' h=>?_;cases r with
  | error e=>exact(hCX H e s' h).elim
  | ok fl =>
   cases fl with
   | next=>exact False.elim h
   | brk=>exact False.elim h
   | cont=>exact False.elim h
   | ret u =>
    obtain⟨v,H',os,bare,un,hok',r',q⟩:=h;have q':v=.bl true:=q;subst q';obtain rfl:u=Value.bool true:=r';refine⟨rfl,OldK.of_keep λb o e=>?_,os,bare⟩;cases q:H b with
    | none=>exact un.keep b o e q (by intro z; exact absurd (show b∈([]:List Addr) from z) (by simp)) (by simp)
    | some u =>
     rcases hO b with z | ⟨ob,xs,z⟩
     ·rw[q] at z; cases z
     ·have z2:=un.frzs b ob _ z;obtain⟨e1,_⟩:=hok b _ z;obtain⟨e2,_⟩:=hok' b _ z2;rw[e] at e1; cases e1;exact e2
 cases hk:K.lookup a with
 | some o =>
  have e:=KX a o hk;rw[ha] at e;cases e;refine core (λ_=>none) (λ_=>.inl rfl) (.inr ⟨_,vs.toArray,_,hk,rfl,rfl,rfl,by rw[List.size_toArray,lenV]; exact hl,by simpa using rv⟩) (λb u z=>by have z':(none:Option HO)=some u:=z; cases z') (λb z=>absurd rfl z) λz=>absurd rfl z
 | none =>
  refine core (λb=>if b=a then some (.frz { cls:=.type "list", data:=.seq vs.toArray } (.lst (ns.map V.int))) else none) (λb=>?_) (.inl (.inr ⟨{ cls:=.type "list", data:=.seq vs.toArray },if_pos rfl⟩)) (λb u z=>?_) (λb z=>?_) λ_=>hk
  ·by_cases hb:b=a
   ·exact .inr ⟨_,_,if_pos hb⟩
   ·exact .inl (if_neg hb)
  ·by_cases hb:b=a
   ·have z':=(if_pos hb).symm.trans z;cases z';subst hb;exact⟨ha,by rw[List.length_map]; exact hl,vs,_,rv,ha⟩
   ·have z':=(if_neg hb).symm.trans z;cases z'
  ·by_cases hb:b=a
   ·exact hb
   ·exact absurd (if_neg hb) z
end L2

namespace L2
open PySem PySem.Spec PyProof.Rows

end L2

namespace L2
open PySem PySem.Spec PyProof.Rows


abbrev CX0:CXT:=λ_ _ _ _ _ _=>False
abbrev E0:XK:=λ_ _ _=>False
theorem zJa{X:Cx} : zGj CX0 X E0:=λ_ _ _ _ _ _ _ h=>h.elim

structure Fun(K:PySem.W.Frag)(x qual:Str)(st:Stmt)(f:Addr)(fd:FuncData):Prop where
 ex:∃(oc:Value)(od:Option Addr)(kV doc pm:Value)(an:Option Addr)(cdv ct:Value)(osl:Array (Option Value)),
  fd=PySem.W.fnOf x qual (xK st) (yU st) (zI st) .none kV doc pm an cdv ct/\K.lookup f=some ⟨oc,od,.func fd,osl⟩/\PySem.W.codeIn K cdv qual=true
 kp:PySem.W.keepIn K (.ref f)=true
section
variable{P:Program}{w:World}{K:PySem.W.Frag}{mg:Str->Option Value}{base:Heap}
theorem Fun.ok{x qual:Str}{st:Stmt}{f:Addr}{fd:FuncData}{N ps:List Str}{k:Nat}{sp:Sp}(F:Fun K x qual st f fd)(S:zM N ps (zI st))(len:∀ vs H Q E,sp vs H Q E->vs.length=ps.length)
  (hbody:∀(cdv:Value)(A:Around)(outer:List Env)(s:Shared)(H:Hp)(vs:List V)(Q:VK)(E:XK),sY k (A.deeper (envOfC qual (zI st) s.heap.objs.size f cdv))->sp vs H Q E ->
   ∃ t,PSs (cxOf CX0 P w K mg base N qual (zI st) f cdv A outer s H E).nox (yU st) t/\t { nx:=λ_ H'=>Q .non H',rt:=Q } (zE6 N vs) H):yP P w K mg base CX0 (k+1) f fd ps sp:=by
 obtain⟨oc,od,kV,doc,pm,an,cdv,ct,osl,rfl,lk,hcd⟩:=F.ex;refine zTh lk hcd S len λA outer s H vs Q E hr hsp=>?_;obtain⟨t,h,q⟩:=hbody cdv A outer s H vs Q E hr hsp;exact⟨t,h.nox,q⟩
theorem Fun.binds{x qual:Str}{st:Stmt}{f:Addr}{fd:FuncData}{ps:List Str}(F:Fun K x qual st f fd)
  (h:∀(kV doc pm:Value)(an:Option Addr)(cdv ct:Value)(us:List Value),us.length=ps.length->bindArgs (PySem.W.fnOf x qual (xK st) (yU st) (zI st) .none kV doc pm an cdv ct) ⟨us,[]⟩=pure (ps.zip us)):zAk K fd ps []:=by
 obtain⟨oc,od,kV,doc,pm,an,cdv,ct,osl,rfl,lk,hcd⟩:=F.ex;exact .all (h kV doc pm an cdv ct)
theorem zL4{x qual:Str}{st:Stmt}{f:Addr}{oc:Value}{od an:Option Addr}{osl:Array (Option Value)}{kV doc pm cdv ct:Value}(l:K.lookup f=some ⟨oc,od,.func (PySem.W.fnOf x qual (xK st) (yU st) (zI st) .none kV doc pm an cdv ct),osl⟩)
  (c:PySem.W.codeIn K cdv qual=true) (k:PySem.W.keepIn K (.ref f)=true):Fun K x qual st f (PySem.W.fnOf x qual (xK st) (yU st) (zI st) .none kV doc pm an cdv ct):=⟨⟨oc,od,kV,doc,pm,an,cdv,ct,osl,rfl,l,c⟩,k⟩
end
theorem zW{A:Around}{k:Nat}(hr:sY k A):A.units+1<cLine:=Nat.lt_of_le_of_lt (Nat.add_le_add_left (by decide:1<=64) _) hr.units
theorem zJ{n:Nat}(h:n<=1000):n<sizeLine:=Nat.lt_of_le_of_lt h (by decide)

section
variable{X:Cx}
theorem pv(i:Nat){x:Str}{pos:Pos}(hN:X.N[i]?=some x:=by rfl)(hv:Vis X.env.scope x:=by first | exact Or.inl rfl | exact Or.inr (Or.inl rfl) | exact Or.inr (Or.inr rfl))(hd:(x ==("__debug__" : Str))=false:=by decide)
  (hcd:(x ==("__classdict__" : Str))=false:=by decide):PE X (.Name x pos) (zQ7 i):=zR7 hN hv hd hcd
end

theorem rF{A B:Prop}(h:B):if false=true then A else B:=by
 rw[if_neg Bool.false_ne_true];exact h
theorem zFh{A B:Prop}(h:A):if true=true then A else B:=by
 rw[if_pos rfl];exact h
theorem ite2{c A B:Prop}[Decidable c](h1:c->A)(h2:¬ c->B):if c then A else B:=by
 by_cases h:c
 ·rw[if_pos h];exact h1 h
 ·rw[if_neg h];exact h2 h
def Same(H H':Hp):Prop:=∀ b o,H b=some o->H' b=some o
theorem Same.refl(H:Hp):Same H H:=λ_ _ h=>h
theorem Same.trans{H H1 H2:Hp}(a:Same H H1)(b:Same H1 H2):Same H H2:=λc o h=>b c o (a c o h)
theorem Same.free{H H':Hp}(e:Same H H'){l:Addr}(h:H' l=Option.none):H l=Option.none:=by
 cases q:H l with
 | none=>rfl
 | some o =>
  rw[e l o q] at h;cases h
theorem Same.seq{K:PySem.W.Frag}{H H':Hp}{a:Addr}{xs:List V}(e:Same H H')(h:SqL K H a xs):SqL K H' a xs:=by
 rcases h with (h | ⟨o,h⟩) | h
 ·exact .inl (.inl (e _ _ h))
 ·exact .inl (.inr ⟨o,e _ _ h⟩)
 ·exact .inr h

end L2

namespace Sea
def yR(ns:List Int):Nat:=ns.foldl (λg n=>Nat.gcd g n.natAbs) 0
theorem zGp(ns:List Int)(n:Int):yR (ns++[n])=Nat.gcd (yR ns) n.natAbs:=by
 unfold yR;rw[List.foldl_append];rfl
theorem zIf:∀(ns:List Int)(g:Nat),ns.foldl (λg n=>Nat.gcd g n.natAbs) g ∣ g/\∀ n∈ns,ns.foldl (λg n=>Nat.gcd g n.natAbs) g ∣ n.natAbs
 | [],g=>⟨Nat.dvd_refl g,λ_ h=>nomatch h⟩
 | x::r,g=>by
  obtain⟨h1,h2⟩:=zIf r (Nat.gcd g x.natAbs);refine⟨Nat.dvd_trans h1 (Nat.gcd_dvd_left _ _),λn hn=>?_⟩;rcases List.mem_cons.mp hn with e | e
  ·rw[e];exact Nat.dvd_trans h1 (Nat.gcd_dvd_right _ _)
  ·exact h2 n e
theorem tR{ns:List Int}{n:Int}(h:n∈ns):yR ns ∣ n.natAbs:=(zIf ns 0).2 n h
theorem tE{ns:List Int}{n:Int}(h:n∈ns):(yR ns:Int) ∣ n:=Int.ofNat_dvd_left.mpr (tR h)
theorem zIp{d:Nat} : ∀(ns:List Int)(g:Nat),d ∣ g->(∀ n∈ns,d ∣ n.natAbs)->d ∣ ns.foldl (λg n=>Nat.gcd g n.natAbs) g
 | [],_,h,_=>h
 | x::r,g,h,hr=>zIp r _ (Nat.dvd_gcd h (hr x List.mem_cons_self)) λn hn=>hr n (List.mem_cons_of_mem _ hn)
theorem zMm{d:Nat}{ns:List Int}(h:∀ n∈ns,d ∣ n.natAbs):d ∣ yR ns:=zIp ns 0 (Nat.dvd_zero d) h
theorem tP{ns:List Int}{n:Int}(h:n∈ns)(h0:n≠0):0<yR ns:=by
 rcases Nat.eq_zero_or_pos (yR ns) with e | e
 ·have q:=tR h;rw[e,Nat.zero_dvd] at q;lia
 ·exact e
theorem zEp{ns:List Int}{n:Int}(h:n∈ns)(h0:n≠0):(yR ns:Int)<=n.natAbs:=by
 have q:=Nat.le_of_dvd (by lia) (tR h);lia
def zBl(ns:List Int):List Int:=ns.map λn=>n/(yR ns:Int)
theorem tW{ns:List Int}{n:Int}(h:n∈ns):n/(yR ns:Int)*(yR ns:Int)=n:=Int.ediv_mul_cancel (tE h)
theorem zG2{ns:List Int}(h:0<yR ns):yR (zBl ns)=1:=by
 have key:yR ns*yR (zBl ns) ∣ yR ns:=by
  refine zMm λn hn=>?_;have h1:yR (zBl ns) ∣ (n/(yR ns:Int)).natAbs:=tR (List.mem_map.mpr ⟨n,hn,rfl⟩);obtain⟨c,hc⟩:=h1;have h2:=congrArg Int.natAbs (tW hn);rw[Int.natAbs_mul,Int.natAbs_natCast,hc] at h2;rw[<- h2];exact⟨c,by rw[Nat.mul_comm,Nat.mul_assoc]⟩
 obtain⟨c,hc⟩:=key;have h3:yR ns*(yR (zBl ns)*c)=yR ns*1:=by
  rw[<- Nat.mul_assoc,<- hc,Nat.mul_one]
 have h4:=Nat.eq_of_mul_eq_mul_left h h3;exact Nat.dvd_one.mp ⟨c,h4.symm⟩
theorem zIq(x y:Int):yR [x,y]=Nat.gcd x.natAbs y.natAbs:=by
 show Nat.gcd (Nat.gcd 0 x.natAbs) y.natAbs=_;rw[Nat.gcd_zero_left]
theorem zJk(x y z:Int):yR [x,y,z]=Nat.gcd (Nat.gcd x.natAbs y.natAbs) z.natAbs:=by
 show Nat.gcd (Nat.gcd (Nat.gcd 0 x.natAbs) y.natAbs) z.natAbs=_;rw[Nat.gcd_zero_left]
theorem zE5{a b:Int}(ha:0<=a)(hb:0<b):Nat.gcd b.toNat (a%b).toNat=Nat.gcd a.toNat b.toNat:=by
 obtain⟨m,rfl⟩:=Int.eq_ofNat_of_zero_le ha;obtain⟨n,rfl⟩:=Int.eq_ofNat_of_zero_le (Int.le_of_lt hb);have e:((m:Int)%(n:Int)).toNat=m%n:=by
  rw[<- Int.natCast_emod];rfl
 show Nat.gcd n ((m:Int)%(n:Int)).toNat=Nat.gcd m n;rw[e,Nat.gcd_comm m n,Nat.gcd_rec n m,Nat.gcd_comm]
theorem zIt(i:Int):(if i<0 then -i else i)=(i.natAbs:Int):=by
 split <;> lia
end Sea
namespace Sea
structure zOd(t b x y:Int):Prop where
 pos:1<=y
 low:Nat.gcd x.natAbs y.natAbs=1
 eq:x*b=y*t
 xle:x.natAbs<=t.natAbs
 yle:y.natAbs<=b.natAbs
theorem tG(n:Int){g:Int}(hg:0<g)(h:g ∣ n):(n/g).natAbs<=n.natAbs:=by
 obtain⟨c,hc⟩:=h;subst hc;rw[Int.mul_ediv_cancel_left c (by lia),Int.natAbs_mul];exact Nat.le_mul_of_pos_left _ (by lia)
theorem zQ2(t:Int){b:Int}(hb:b≠0):∃ x y:Int,(zBl (if b<0 then [t,b].map (λn=>-n) else [t,b]))=[x,y]/\zOd t b x y:=by
 have key:∀(t b:Int),0<b->∃ x y:Int,zBl [t,b]=[x,y]/\zOd t b x y:=λt b hb=>by
  have gp:0<yR [t,b]:=tP (n:=b) (by simp) (by lia);have e1:=tW (ns:=[t,b]) (n:=t) (by simp);have e2:=tW (ns:=[t,b]) (n:=b) (by simp);have gI:(0:Int)<(yR [t,b]:Int):=by lia
  refine⟨t/(yR [t,b]:Int),b/(yR [t,b]:Int),rfl,?_,?_,?_,tG t gI (tE (by simp)),tG b gI (tE (by simp))⟩
  ·exact Int.ediv_pos_of_pos_of_dvd hb (Int.le_of_lt gI) (tE (by simp))
  ·have h3:=zG2 gp;rw[<- zIq];exact h3
  ·generalize (yR [t,b]:Int)=g at e1 e2
   calc t/g*b=t/g*(b/g*g):=by rw[e2]
    _=b/g*(t/g*g):=by rw[<- Int.mul_assoc,<- Int.mul_assoc,Int.mul_comm (t/g)]
    _=b/g*t:=by rw[e1]
 by_cases h:b<0
 ·rw[if_pos h];obtain⟨x,y,e,p⟩:=key (-t) (-b) (by lia);refine⟨x,y,e,p.pos,p.low,?_,by have:=p.xle; lia,by have:=p.yle; lia⟩;have q:=p.eq;rw[Int.mul_neg,Int.mul_neg] at q;lia
 ·rw[if_neg h];exact key t b (by lia)
end Sea
namespace Sea
theorem uT(a b:Int){m n:Nat}(ha:a.natAbs<=m)(hb:b.natAbs<=n):(a*b).natAbs<=m*n:=by
 rw[Int.natAbs_mul];exact Nat.mul_le_mul ha hb
end Sea
namespace Sea
theorem dir_low{X Y:Int}(h:X≠0\/Y≠0):∃ x y:Int,zBl [X,Y]=[x,y]/\0<yR [X,Y]/\(yR [X,Y]<=X.natAbs\/yR [X,Y]<=Y.natAbs)/\Nat.gcd x.natAbs y.natAbs=1/\x*Y-y*X=0/\0<x*X+y*Y/\x.natAbs<=X.natAbs/\y.natAbs<=Y.natAbs:=by
 have gp:0<yR [X,Y]:=by
  rcases h with h | h
  ·exact tP (n:=X) (by simp) h
  ·exact tP (n:=Y) (by simp) h
 have gI:(0:Int)<(yR [X,Y]:Int):=by lia
 have e1:=tW (ns:=[X,Y]) (n:=X) (by simp);have e2:=tW (ns:=[X,Y]) (n:=Y) (by simp);refine⟨X/(yR [X,Y]:Int),Y/(yR [X,Y]:Int),rfl,gp,?_,?_,?_,?_,tG X gI (tE (by simp)),tG Y gI (tE (by simp))⟩
 ·rcases h with h | h
  ·exact .inl (Nat.le_of_dvd (by lia) (tR (by simp)))
  ·exact .inr (Nat.le_of_dvd (by lia) (tR (by simp)))
 ·rw[<- zIq];exact zG2 gp
 ·generalize (yR [X,Y]:Int)=g at e1 e2;generalize X/g=x at e1;generalize Y/g=y at e2;rw[<- e1,<- e2,<- Int.mul_assoc,<- Int.mul_assoc,Int.mul_comm x y];lia
 ·generalize (yR [X,Y]:Int)=g at e1 e2 gI;have f1:0<=X/g*X:=by
   have:X/g*X=X/g*(X/g)*g:=by rw[Int.mul_assoc,e1]
   rw[this];exact Int.mul_nonneg (by rw[<- Int.natAbs_mul_self]; exact Int.natCast_nonneg _) (Int.le_of_lt gI)
  have f2:0<=Y/g*Y:=by
   have:Y/g*Y=Y/g*(Y/g)*g:=by rw[Int.mul_assoc,e2]
   rw[this];exact Int.mul_nonneg (by rw[<- Int.natAbs_mul_self]; exact Int.natCast_nonneg _) (Int.le_of_lt gI)
  rcases h with h | h
  ·have:X/g*X≠0:=Int.mul_ne_zero (λz=>h (by rw[<- e1,z,Int.zero_mul])) h;lia
  ·have:Y/g*Y≠0:=Int.mul_ne_zero (λz=>h (by rw[<- e2,z,Int.zero_mul])) h;lia
end Sea
namespace Sea
end Sea
namespace Sea
structure SpotOf(X Y W x y w:Int):Prop where
 pos:1<=w
 low:Nat.gcd (Nat.gcd x.natAbs y.natAbs) w.natAbs=1
 ex:x*W=X*w
 ey:y*W=Y*w
 xle:x.natAbs<=X.natAbs
 yle:y.natAbs<=Y.natAbs
 wle:w.natAbs<=W.natAbs
end Sea
namespace Sea
end Sea

namespace Sea
theorem zRj{a b:Int}(h:a≠0\/b≠0):1<=a*a+b*b:=by
 have s1:0<=a*a:=by rw[<- Int.natAbs_mul_self]; exact Int.natCast_nonneg _
 have s2:0<=b*b:=by rw[<- Int.natAbs_mul_self]; exact Int.natCast_nonneg _
 rcases h with h | h
 ·have:a*a≠0:=Int.mul_ne_zero h h;lia
 ·have:b*b≠0:=Int.mul_ne_zero h h;lia
end Sea
namespace Sea
end Sea

namespace Sea
end Sea

namespace L2
open PySem PySem.Spec PyProof.Rows

structure CC where
 C:Addr
 s:Shared
 H:Hp
 fp:List Addr

def zCa(env:Env):List (Str×NameKind)->List (Str×Addr)->List (Str×Addr)
 | [],cs=>cs
 | (n,k)::r,cs=>zCa env r (if (k == NameKind.free)=true then(n,(env.cells.lookup n).getD 0)::cs else cs)
theorem zQx{scope:Scope}{env:Env}(h:∀ x∈scope.names,x.2=.free->∃ c,env.cells.lookup x.1=some c):closureFor scope env=pure (zCa env scope.names []):=by
 simp only[closureFor];have key:∀(names:List (Str×NameKind))(cs:List (Str×Addr)),(∀ x∈names,x.2=.free->∃ c,env.cells.lookup x.1=some c) ->
  (forIn names cs (λ(x:Str×NameKind) (r:List (Str×Addr))=>match x with | (name,kind)=>if (kind == NameKind.free)=true then(do let a <- cellOf env name; pure (ForInStep.yield ((name,a)::r))) else pure (ForInStep.yield r)):Sem (List (Str×Addr)))=pure (zCa env names cs):=by
  intro names
  induction names with
  | nil=>intro cs _; rfl
  | cons x r ih =>
   intro cs hx;obtain⟨n,k⟩:=x;rw[List.forIn_cons];have hr:=ih (if (k == NameKind.free)=true then(n,(env.cells.lookup n).getD 0)::cs else cs) λy hy=>hx y (List.mem_cons_of_mem _ hy);by_cases hk:(k == NameKind.free)=true
   ·obtain⟨c,hc⟩:=hx (n,k) List.mem_cons_self (by simpa using hk);have e:cellOf env n=pure c:=by unfold cellOf; rw[hc]
    rw[if_pos hk] at hr;have hc':env.cells.lookup n=some c:=hc;rw[hc'] at hr;show(((if (k == NameKind.free)=true then(do let a <- cellOf env n; pure (ForInStep.yield ((n,a)::cs))) else pure (ForInStep.yield cs)):Sem _) >>= _)=_;rw[if_pos hk,e];refine Eq.trans ?_ (hr.trans ?_)
    ·rfl
    ·rw[zCa,if_pos hk,hc']
   ·rw[if_neg hk] at hr;show(((if (k == NameKind.free)=true then(do let a <- cellOf env n; pure (ForInStep.yield ((n,a)::cs))) else pure (ForInStep.yield cs)):Sem _) >>= _)=_;rw[if_neg hk];refine Eq.trans ?_ (hr.trans ?_)
    ·rfl
    ·rw[zCa,if_neg hk]
 exact congrArg (λ(z:Sem (List (Str×Addr)))=>z >>= λcs=>pure cs) (key scope.names [] h)
theorem rX{env:Env} : ∀(names:List (Str×NameKind))(cs:List (Str×Addr)),(∀ x∈names,x.2=.free->∃ c,env.cells.lookup x.1=some c) ->
  (∀ x c,cs.lookup x=some c->env.cells.lookup x=some c)->∀ x c,(zCa env names cs).lookup x=some c->env.cells.lookup x=some c
 | [],_,_,hc=>hc
 | (n,k)::r,cs,h,hc=>by
  refine rX r _ (λy hy=>h y (List.mem_cons_of_mem _ hy)) λx c=>?_;by_cases hk:(k == NameKind.free)=true
  ·rw[if_pos hk];obtain⟨d,hd⟩:=h (n,k) List.mem_cons_self (by simpa using hk);have hd':env.cells.lookup n=some d:=hd;intro e;rw[List.lookup_cons] at e;cases hx:x == n with
   | true =>
    rw[hx,hd'] at e;have ex:x=n:=by simpa using hx
    rw[ex,hd'];exact e
   | false =>
    rw[hx] at e;exact hc x c e
  ·rw[if_neg hk];exact hc x c
theorem zC4{env:Env} : ∀(names:List (Str×NameKind))(cs:List (Str×Addr))(x:Str),((x,NameKind.free)∈names\/∃ c,cs.lookup x=some c)->∃ c,(zCa env names cs).lookup x=some c
 | [],_,_,h=>h.elim (λz=>nomatch z) id
 | (n,k)::r,cs,x,h=>by
  refine zC4 r _ x ?_;by_cases hk:(k == NameKind.free)=true
  ·rw[if_pos hk];cases hx:x == n with
   | true=>exact .inr ⟨_,by rw[List.lookup_cons,hx]⟩
   | false =>
    rcases h with h | ⟨c,h⟩
    ·rcases List.mem_cons.mp h with e | e
     ·injection e with e1 _
      subst e1;simp at hx
     ·exact .inl e
    ·exact .inr ⟨c,by rw[List.lookup_cons,hx]; exact h⟩
  ·rw[if_neg hk];rcases h with h | h
   ·rcases List.mem_cons.mp h with e | e
    ·injection e with _ e2
     subst e2;exact absurd rfl hk
    ·exact .inl e
   ·exact .inr h
theorem zAt{env:Env} : ∀{names:List (Str×NameKind)}{x:Str},names.lookup x=some .free ->
  (names.map λ(n,k)=>if (k == NameKind.free&&env.scope.kind == .function&&env.kindOf n == some .cell) then(n,NameKind.cell) else(n,k)).lookup x=some .cell \/
  (names.map λ(n,k)=>if (k == NameKind.free&&env.scope.kind == .function&&env.kindOf n == some .cell) then(n,NameKind.cell) else(n,k)).lookup x=some .free
 | [],_,h=>by simp at h
 | (n,k)::r,x,h=>by
  have ih:=@zAt env r x;show List.lookup x ((if (k == NameKind.free&&env.scope.kind == .function&&env.kindOf n == some .cell)=true then(n,NameKind.cell) else(n,k))::_)=_\/List.lookup x ((if (k == NameKind.free&&env.scope.kind == .function&&env.kindOf n == some .cell)=true then(n,NameKind.cell) else(n,k))::_)=_;by_cases hc:(k == NameKind.free&&env.scope.kind == .function&&env.kindOf n == some .cell)=true
  ·rw[if_pos hc];cases hx:x == n with
   | true=>exact .inl (by rw[List.lookup_cons,hx])
   | false =>
    rw[List.lookup_cons,hx] at h;rw[List.lookup_cons,hx];exact ih h
  ·rw[if_neg hc];cases hx:x == n with
   | true =>
    rw[List.lookup_cons,hx] at h;exact .inr (by rw[List.lookup_cons,hx]; exact h)
   | false =>
    rw[List.lookup_cons,hx] at h;rw[List.lookup_cons,hx];exact ih h
theorem sP{env:Env} : ∀{names:List (Str×NameKind)}{x:Str}{j:NameKind},(∀ y∈names,y.2≠.cell)->(j=.cell\/j=.free) ->
  (names.map λ(n,k)=>if (k == NameKind.free&&env.scope.kind == .function&&env.kindOf n == some .cell) then(n,NameKind.cell) else(n,k)).lookup x=some j->(x,NameKind.free)∈names
 | [],_,_,_,_,h=>by simp at h
 | (n,k)::r,x,j,hn,hj,h=>by
  have ih:=@sP env r x j (λy hy=>hn y (List.mem_cons_of_mem _ hy)) hj;have hk0:k≠.cell:=hn (n,k) List.mem_cons_self
  replace h:List.lookup x ((if (k == NameKind.free&&env.scope.kind == .function&&env.kindOf n == some .cell)=true then(n,NameKind.cell) else(n,k))::(r.map λ(n,k)=>if (k == NameKind.free&&env.scope.kind == .function&&env.kindOf n == some .cell) then(n,NameKind.cell) else(n,k)))=some j:=h
  by_cases hc:(k == NameKind.free&&env.scope.kind == .function&&env.kindOf n == some .cell)=true
  ·rw[if_pos hc] at h;have hf:k=.free:=by
    simp only[Bool.and_eq_true] at hc;simpa using hc.1.1
   cases hx:x == n with
   | true =>
    have ex:x=n:=by simpa using hx
    subst ex;rw[<- hf];exact List.mem_cons_self
   | false =>
    rw[List.lookup_cons,hx] at h;exact List.mem_cons_of_mem _ (ih h)
  ·rw[if_neg hc] at h;cases hx:x == n with
   | true =>
    rw[List.lookup_cons,hx] at h;have ex:x=n:=by simpa using hx
    have ek:k=j:=Option.some.inj h;subst ex;rcases hj with hj | hj
    ·exact absurd (ek.trans hj) hk0
    ·rw[<- hj,<- ek];exact List.mem_cons_self
   | false =>
    rw[List.lookup_cons,hx] at h;exact List.mem_cons_of_mem _ (ih h)

def rO(X:Cx)(N:List Str)(scope:Scope)(c:CC):Cx where
 prog:=X.prog
 w:=X.w
 K:=X.K
 mg:=X.mg
 base:=X.base
 A:=X.A
 N:=N
 s₀:=c.s
 H₀:=c.H
 env:=compEnvC scope (zCa X.env scope.names []) c.C X.env
 outer:=X.stack
 stack:=X.stack
 ex:=c.fp
 fn:=λ_=>false
 calm:=X.calm
 pn:=[]
 xe:=λ_ _=>False

def zEe(X:Cx)(scope:Scope):List (Str×Nat)->Prop
 | []=>True
 | p::r=>(X.N[p.2]?=some p.1/\scope.names.lookup p.1=some .free/\(X.env.kindOf p.1=some .cell\/X.env.kindOf p.1=some .free))/\zEe X scope r
theorem zEe.mem{X:Cx}{scope:Scope} : ∀{caps:List (Str×Nat)},zEe X scope caps->∀ p∈caps,X.N[p.2]?=some p.1/\scope.names.lookup p.1=some .free/\(X.env.kindOf p.1=some .cell\/X.env.kindOf p.1=some .free)
 | [],_,_,h=>nomatch h
 | q::r,h,p,hp=>by
  rcases List.mem_cons.mp hp with e | e
  ·rw[e]; exact h.1
  ·exact zEe.mem h.2 p e
structure qW(X:Cx)(caps:List (Str×Nat))(scope:Scope):Prop where
 kind:scope.kind=.function
 nocell:∀ y∈scope.names,y.2≠.cell
 loc:∀ y∈scope.names,y.2=.local->scope.names.lookup y.1=some .local
 clos:(scope.names.all λx=>!(x.2 == .free)||(X.env.cells.lookup x.1).isSome)=true
 cap:zEe X scope caps
theorem qW.cells{X:Cx}{caps:List (Str×Nat)}{scope:Scope}(S:qW X caps scope):∀ x∈scope.names,x.2=.free->∃ c,X.env.cells.lookup x.1=some c:=λx hx hf=>by
 have h:=List.all_eq_true.mp S.clos x hx;rw[hf] at h;simp only[Bool.or_eq_true] at h;rcases h with h | h
 ·exact absurd h (by decide)
 ·exact Option.isSome_iff_exists.mp h

def zJy(caps:List (Str×Nat))(nt:Nat)(σ:St):St:=List.replicate nt none++caps.map λp=>(σ[p.2]?).join

def PIfs(Y:Cx)(ifs:List Expr)(t:TT):Prop :=
 ∀(pins:List (Addr×Obj))(s:Shared)(σ:St)(H:Hp)(Q:Bool->Hp->Prop),Inv Y pins σ H s->t σ H Q ->
  wpAny (model Y.prog Y.w) Y.A (forIn ifs true λc r=>if r=true then do let ok <- isTrue c Y.env (eval c Y.env); pure (ForInStep.yield ok) else pure (ForInStep.yield r)) (TP Y pins σ Q) Y.xe s
def zQ6:TT:=λ_ H Q=>Q true H
theorem yW{Y:Cx} : PIfs Y [] zQ6:=λ_ _ _ H _ I h=>wpAny_tests_nil ⟨H,I,h⟩
def zBz(J:It)(D:Addr)(g:TG)(tt:TT)(te:TE)(σ0:St)(H1:Hp)(Q:VK):Prop :=
 ∃ W:Nat->Nat->St->List V->Hp->Prop,(∃ m,W 0 m σ0 [] (upd H1 D (.lst [])))/\∀ i m σ ys H,W i m σ ys H->H D=some (.lst ys) /\
  ((J.stop i H/\Q (.ref D) H)\/(J.go i H/\∃ N:St->List V->Hp->Prop,(∀ σ' zs H',N σ' zs H'->∃ m',m'<m/\W (i+1) m' σ' zs H')/\∀ x H',J.yld i H x H'->g x σ H' λσ2 H2=>tt σ2 H2 λb H3 =>
   if b=true then te σ2 H3 λy H4=>H4 D=some (.lst ys)/\ys.length<sizeLine/\N σ2 (ys++[y]) (upd H4 D (.lst (ys++[y]))) else N σ2 ys H3))
def tComp(nt:Nat)(caps:List (Str×Nat))(wi:TI)(g:CC->TG)(tt:CC->TT)(te:CC->TE):TE:=λσ H Q =>
 wi σ H λJ H1=>∀(c:CC)(D:Addr),H1 D=none->zBz J D (g c) (tt c) (te c) (zJy caps nt σ) H1 Q

theorem zPt{α:Type}{t:Sem α}{Q Q':α->Shared->Prop}{M:Model}{A:Around}{E:Value->Shared->Prop}{s:Shared}(h:wpAny M A t Q (λ_ _=>False) s)(hQ:∀ a s,Q a s->Q' a s):wpAny M A t Q' E s:=wpAny_mono h hQ λ_ _ x=>x.elim
theorem Un.same{fs ex:List Addr}{H H':Hp}{h h1 h2:Heap}{C:Addr}(u:Un fs ex H H' h h1)(sb:Heap.SameBut C h1 h2)(hC:h.get? C=none):Un fs ex H H' h h2:=by
 have ne:∀ b o,h.get? b=some o->b≠C:=λb o e z=>by rw[z,hC] at e; cases e
 refine⟨λb o e n hb hx=>(sb.2 b (ne b o e)).trans (u.keep b o e n hb hx),λb o e n hb hx=>?_,u.free,λb o e hx=>?_,u.tups,u.frzs,u.tbls⟩
 ·obtain⟨sl,q⟩:=u.slot b o e n hb hx;exact⟨sl,(sb.2 b (ne b o e)).trans q⟩
 ·obtain⟨o',q⟩:=u.there b o e hx;exact⟨o',(sb.2 b (ne b o e)).trans q⟩
theorem HOk.same{P:Program}{w:World}{H:Hp}{h h':Heap}{C:Addr}(k:HOk P w H h)(sb:Heap.SameBut C h h')(hC:H C=none):HOk P w H h':=λb o e=>by
 refine(k b o e).stay (λc v hc q=>(sb.2 c ?_).trans q) (λ_ q=>q) λ_ _ q=>q;rintro rfl;rcases hc with z | z
 ·rw[z,e] at hC; cases hC
 ·rw[hC] at z; cases z

section
variable{X:Cx}{T:List Str}{caps:List (Str×Nat)}{scope:Scope}{elt target iter:Expr}{ifs:List Expr}{pos:Pos}{wi:TI}{g:CC->TG}{tt:CC->TT}{te:CC->TE}

theorem zJ0{pins:List (Addr×Obj)}{σ:St}{H2:Hp}{s2:Shared}{fp:List Addr}{C D:Addr}{h1:Heap}{tk:Nat}{m:Str->Option Value}(S:qW X caps scope)(I2:Inv X pins σ H2 s2)(f2:∀ b∈fp,zL6 X pins H2 b)
  (hfp:∀ b∈fp,b<s2.heap.objs.size) (hD:s2.heap.objs.size<=D) (hC:s2.heap.objs.size<=C) (hDC:C≠D) (old:∀ b o,s2.heap.get? b=some o->h1.get? b=some o)
  (acc:∃ n,h1.get? D=some { cls:=.type "list", data:=.seq ([]:List Value).toArray n }) (hn:h1.Ns C m) :
  Inv (rO X (T++caps.map (·.1)) scope ⟨C,s2,H2,fp⟩) [] (zJy caps T.length σ) (upd H2 D (.lst [])) { s2 with heap:=h1,toks:=tk }:=by
 have cs:=rX (env:=X.env) scope.names [] S.cells (λ_ _ z=>by cases z);have cellOld:∀ x c,X.env.cells.lookup x=some c->c<s2.heap.objs.size:=λx c e=>by
  obtain⟨v,q⟩:=I2.cell x c e;exact q.lt
 have stkNo:∀ b∈fp,b ∉ frs X.stack:=λb hb z=>by
  rcases List.mem_cons.mp (I2.stkSub b z) with e | e
  ·exact(f2 b hb).2.1 e
  ·exact(f2 b hb).2.2.1 e
 have fr:H2 D=none:=I2.hok.fresh hD;refine⟨⟨I2.ok.mod,S.kind,I2.ok.glob,I2.ok.blt,hC,λx y c e1 e2=>I2.ok.inj x y c (cs x c e1) (cs y c e2),λx hx=>?_,λ_ _ z=>absurd (show false=true from z) Bool.false_ne_true,I2.ok.hd,I2.ok.frames,.inl rfl,λb hb=>⟨?_,λx c e=>(f2 b hb).2.2.2.2.1 x c (cs x c e)⟩,
  λb o e=>I2.bs b o e,Nat.le_trans I2.ok.bsz I2.sz,λb o e hb=>?_,stkNo,I2.stack,I2.stkFree⟩,rfl,I2.bare,?_,⟨m,hn,λi x v e1 e2 e3=>?_⟩,λx c e=>?_,?_,λx c e=>?_,λp hp=>absurd (show p∈([]:List (Addr×Obj)) from hp) (by simp),?_,?_⟩
 ·have hx':(x,NameKind.free)∈scope.names:=by
   rcases hx with z | z
   ·exact sP S.nocell (.inl rfl) z
   ·exact sP S.nocell (.inr rfl) z
  exact zC4 scope.names [] x (.inl hx')
 ·exact Nat.ne_of_lt (Nat.lt_of_lt_of_le (hfp b hb) hC)
 ·rcases (f2 b hb).2.2.2.1 with z | z
  ·exact I2.ok.noex b o e z
  ·exact absurd (Nat.lt_of_lt_of_le (Heap.lt_size (show X.base.get? b=some o from e)) (Nat.le_trans I2.ok.bsz z)) (Nat.lt_irrefl _)
 ·exact Un.laid old hD fr
 ·have hlt:¬ i<T.length:=λhi=>by
   unfold zJy at e2;rw[List.getElem?_append_left (by simpa using hi),List.getElem?_replicate,if_pos hi] at e2;cases e2
  have hge:T.length<=i:=Nat.le_of_not_lt hlt;have e1':(T++caps.map (·.1))[i]?=some x:=e1;rw[List.getElem?_append_right hge,List.getElem?_map] at e1';unfold zJy at e2;rw[List.getElem?_append_right (by simpa using hge),List.length_replicate,List.getElem?_map] at e2;cases hp:caps[i-T.length]? with
  | none=>rw[hp] at e1'; cases e1'
  | some p =>
   rw[hp] at e1' e2;have ex:p.1=x:=Option.some.inj e1';have ev:(σ[p.2]?).join=some v:=Option.some.inj e2;obtain⟨hN,hf,hk⟩:=S.cap.mem p (List.mem_of_getElem? hp);have ev':σ[p.2]?=some (some v):=by
    cases hq:σ[p.2]? with
    | none=>rw[hq] at ev; cases ev
    | some o =>
     rw[hq] at ev;exact congrArg some ev
   obtain⟨m2,_,hl2⟩:=I2.loc;obtain⟨u,ru,l⟩:=hl2 p.2 p.1 v hN ev' (hk.elim (λz=>.inr (.inl z)) λz=>.inr (.inr z));refine⟨u,ru,.inr ⟨?_,?_⟩⟩
   ·rw[<- ex];exact zAt (env:=X.env) hf
   ·rcases l with ⟨kl,_⟩ | ⟨_,c,ec,hcell⟩
    ·rcases hk with z | z <;>(rw[kl] at z; cases z)
    ·obtain⟨d,hd⟩:=zC4 (env:=X.env) scope.names [] p.1 (.inl (PySem.mem_of_lookup hf));have hd':=cs p.1 d hd;rw[ec] at hd';cases hd';obtain⟨o,ho,hod⟩:=hcell;exact⟨c,by rw[<- ex]; exact hd,o,old c o ho,hod⟩
 ·obtain⟨v,o,ho,hd⟩:=I2.cell x c (cs x c e);exact⟨v,o,old c o ho,hd⟩
 ·show upd H2 D (.lst []) C=none;rw[zG hDC];exact I2.hok.fresh hC
 ·show upd H2 D (.lst []) c=none;rw[zG (Nat.ne_of_lt (Nat.lt_of_lt_of_le (cellOld x c (cs x c e)) hD))];exact I2.freeC x c (cs x c e)
 ·obtain⟨n,e⟩:=acc;exact I2.hok.laid old hD ⟨Nat.zero_le _,[],n,.nil,e⟩
 ·show(zJy caps T.length σ).length=(T++caps.map (·.1)).length;unfold zJy;rw[List.length_append,List.length_append,List.length_map,List.length_map,List.length_replicate]

theorem wM(S:qW X caps scope)(hc:X.calm=true)(hi:PI X target iter wi)(hg:∀ c,PG (rO X (T++caps.map (·.1)) scope c) target (g c))(ht:∀ c,PIfs (rO X (T++caps.map (·.1)) scope c) ifs (tt c))(he:∀ c,PE (rO X (T++caps.map (·.1)) scope c) elt (te c))
  (hs:∀ x,foldedSetIterable iter X.env x=pure x:=by intro _; rfl):PE X (.ListComp elt [⟨target,iter,ifs,0⟩] scope pos) (tComp T.length caps wi g tt te):=by
 intro pins s σ H Q I h;rw[eval_ListComp];refine wpAny_comprehension_free (use:=none) rfl hs (zQx S.cells) S.kind S.loc (thn (hi pins s σ H _ I h) λv s1 h1=>thn h1 λitv s2 h2=>?_);obtain⟨it,fp,tn,J,H2,e,I2,TT,st2,f2,q2⟩:=h2;subst e;refine wpAny_newObj_type (wpAny_newFunctionEnv S.nocell (by intro y hy; simp at hy) (λh1 hn hsb=>?_) S.kind);dsimp only at hn hsb ⊢;generalize hg2:s2.heap.push { cls:=.type "list", dict:=none,data:=.seq ([]:List Value).toArray }=G at hn hsb ⊢;have hCv:G.objs.size=s2.heap.objs.size+1:=by rw[<- hg2,Heap.size_push]
 have hDC:G.objs.size≠s2.heap.objs.size:=by rw[hCv]; exact Nat.succ_ne_self _
 have hCle:s2.heap.objs.size<=G.objs.size:=by rw[hCv]; exact Nat.le_succ _
 have old:∀ b o,s2.heap.get? b=some o->h1.get? b=some o:=λb o e=>hsb.extBut b o (Nat.ne_of_lt (Nat.lt_of_lt_of_le (Heap.lt_size e) hCle)) (Heap.get?_push_of_some _ (hg2 ▸ Heap.get?_push_of_some _ e));have hacc:∃ n,h1.get? s2.heap.objs.size=some { cls:=.type "list", data:=.seq ([]:List Value).toArray n }:=⟨_,hsb.extBut _ _ (Ne.symm hDC) (Heap.get?_push_of_some _ (hg2 ▸ Heap.get?_push_size _ rfl))⟩;have hfp:∀ b∈fp,b<s2.heap.objs.size:=λb hb=>by
  obtain⟨o,e,_⟩:=TT.obj _ _ st2 b hb;exact Heap.lt_size e
 have cs:=rX (env:=X.env) scope.names [] S.cells (λ_ _ z=>by cases z);have I0:=zJ0 (T:=T) (tk:=s2.toks+([]:List (Str×Value)).length) S I2 f2 hfp (Nat.le_refl _) hCle hDC old hacc hn;have st0:tn 0 h1:=TT.keep _ _ _ st2 λb _ o e=>old b o e;obtain⟨W,⟨m0,w0⟩,turn⟩:=q2 ⟨G.objs.size,s2,H2,fp⟩ s2.heap.objs.size (I2.hok.fresh (Nat.le_refl _));have fr0:∀ b∈fp,upd H2 s2.heap.objs.size (.lst []) b=none:=λb hb=>by
  rw[zG (Nat.ne_of_lt (hfp b hb))];exact(f2 b hb).1
 have stat:∀{H':Hp},(∀ b∈fp,H' b=none)->∀ b∈fp,zL6 (rO X (T++caps.map (·.1)) scope ⟨G.objs.size,s2,H2,fp⟩) [] H' b:=λ{H'} hn' b hb =>
  ⟨hn' b hb,Nat.ne_of_lt (Nat.lt_of_lt_of_le (hfp b hb) hCle),I0.ok.exfs b hb,.inl hb,λx c e=>(f2 b hb).2.2.2.2.1 x c (cs x c e),λp hp=>absurd (show p∈([]:List (Addr×Obj)) from hp) (by simp)⟩
 have loop:codeAny (model X.prog X.w) X.A (.compLoop (.ListComp elt [⟨target,iter,ifs,0⟩] scope pos) 0 (.ref it) (.ref s2.heap.objs.size) (compEnvC scope (zCa X.env scope.names []) G.objs.size X.env))
   (compPost (model X.prog X.w) X.A X.xe none (EP X pins σ Q) (.ref s2.heap.objs.size) G.objs.size) { s2 with heap:=h1,toks:=s2.toks+([]:List (Str×Value)).length }:=by
  refine codeAny_loop rfl (λn s'=>∃ i σ' ys H',Inv (rO X (T++caps.map (·.1)) scope ⟨G.objs.size,s2,H2,fp⟩) [] σ' H' s'/\tn i s'.heap/\(∀ b∈fp,H' b=none)/\W i n σ' ys H') (λn s3 hI=>?_) m0 ⟨0,_,[],_,I0,st0,fr0,w0⟩;obtain⟨i,σ3,ys,H3,I3,st3,fr3,w3⟩:=hI;show wpAny _ X.A ((compTurn (.ListComp elt [⟨target,iter,ifs,0⟩] scope pos) 0 (.ref it) (.ref s2.heap.objs.size) (compEnvC scope (zCa X.env scope.names []) G.objs.size X.env)).onRaise (λx=>do noteFrame x (compEnvC scope (zCa X.env scope.names []) G.objs.size X.env); theTreesLotGoes x)) _ _ s3;refine wpAny_noted ?_;rw[compTurn_list];refine wpAny_bind (wpAny_standAt (wpAny_bind ?_));obtain⟨hD3,turn3⟩:=turn i n σ3 ys H3 w3;rcases turn3 with ⟨stop,qn⟩ | ⟨go,N,hN,step⟩
  ·refine zPt (TT.done (rO X (T++caps.map (·.1)) scope ⟨G.objs.size,s2,H2,fp⟩) rfl rfl rfl hc i [] s3 σ3 H3 _ I3 (stat fr3) st3 stop) λr s4 ⟨hr,I4⟩=>?_;subst hr;refine wpAny_pure ?_;show ∃ m,s4.heap.Ns G.objs.size m/\∀ h',Heap.SameBut G.objs.size s4.heap h'->EP X pins σ Q (.ref s2.heap.objs.size) { s4 with heap:=h' };obtain⟨m4,hn4,_⟩:=I4.loc;refine⟨m4,hn4,λh' sb=>⟨.ref s2.heap.objs.size,H3,?_,rfl,qn⟩⟩;refine I2.call' (s':={ s4 with heap:=h' }) (ch:=fp) I4.os (Un.same I4.base sb (Heap.get?_none_of_le hCle)) (HOk.same I4.hok sb I4.free) I4.bare λb hb=>?_;obtain⟨_,f1,_,f3,f4,f5⟩:=f2 b hb;exact⟨f3,f1,f4,f5⟩
  ·refine zPt (TT.item (rO X (T++caps.map (·.1)) scope ⟨G.objs.size,s2,H2,fp⟩) rfl rfl rfl hc i [] s3 σ3 H3 _ I3 (stat fr3) st3 go) λr s4 ⟨u,hr,h4⟩=>?_;subst hr;refine wpAny_bind (zPt h4 λ_ s5 ⟨x,H5,I5,r5,y5,st5,fr5⟩=>?_);have I5':=I5.pinned (stat fr5) (TT.obj _ _ st5);refine wpAny_bind (zPt (hg _ _ s5 σ3 H5 x u _ I5' r5 (step x H5 y5)) λ_ s6 ⟨σ6,H6,I6,q6⟩=>?_);have again:∀{s7:Shared}{σ7:St}{zs:List V}{H7:Hp},Inv (rO X (T++caps.map (·.1)) scope ⟨G.objs.size,s2,H2,fp⟩) ([]++zGm fp s5.heap) σ7 H7 s7->N σ7 zs H7 ->
     ∃ m,m<n/\∃ i σ' ys H',Inv (rO X (T++caps.map (·.1)) scope ⟨G.objs.size,s2,H2,fp⟩) [] σ' H' s7/\tn i s7.heap/\(∀ b∈fp,H' b=none)/\W i m σ' ys H':=λ{s7 σ7 zs H7} I7 n7=>by
    obtain⟨m',hm,w7⟩:=hN σ7 zs H7 n7;refine⟨m',hm,i+1,σ7,zs,H7,I7.unpinned,TT.keep _ _ _ st5 λb hb o e=>(I7.pin (b,o) (List.mem_append_right _ (List.mem_append_right _ (rH hb e)))).1,λb hb=>?_,w7⟩;obtain⟨o,e,d⟩:=TT.obj _ _ st5 b hb;exact(I7.pin (b,o) (List.mem_append_right _ (List.mem_append_right _ (rH hb e)))).2.1
   refine wpAny_bind (zPt (ht _ _ s6 σ6 H6 _ I6 q6) λok s7 ⟨H7,I7,q7⟩=>?_);cases ok with
   | false=>exact wpAny_pure ⟨rfl,again I7 q7⟩
   | true =>
    refine wpAny_bind (wpAny_bind (zPt (he _ _ s7 σ6 H7 _ I7 q7) λy s8 ⟨yv,H8,I8,r8,hD8,hl8,q8⟩=>?_));refine wpAny_bind (zPt (zGt _ s8 σ6 H8 (.ref s2.heap.objs.size) [yv] (.ref s2.heap.objs.size) [y] (λ_ H9=>N σ6 (ys++[yv]) H9) I8 rfl (.cons r8 .nil) ⟨_,ys,yv,rfl,rfl,hD8,hl8,q8⟩) λ_ s9 ⟨_,H9,I9,_,q9⟩=>?_);exact wpAny_pure (wpAny_pure ⟨rfl,again I9 q9⟩)
 exact codeAny_compStart_list loop (TT.self _ 0 _ _ _ st0 loop)
end
end L2

namespace L2
open PySem PySem.Spec PyProof.Rows

theorem qF:bootBuiltins "len" = some (.builtin "len"):=by decide +kernel
theorem zRk:bootBuiltins "abs" = some (.builtin "abs"):=by decide +kernel
theorem zGv:bootBuiltins "all" = some (.builtin "all"):=by decide +kernel
theorem zSq:bootBuiltins "max" = some (.builtin "max"):=by decide +kernel
theorem zRr:bootBuiltins "min" = some (.builtin "min"):=by decide +kernel
theorem tM:bootBuiltins "isinstance" = some (.builtin "isinstance"):=by decide +kernel
theorem zOi:bootBuiltins "int" = some (.type "int"):=by decide +kernel
theorem zKx:bootBuiltins "bool" = some (.type "bool"):=by decide +kernel
theorem zOx:bootBuiltins "str" = some (.type "str"):=by decide +kernel
theorem zAo:bootBuiltins "list" = some (.type "list"):=by decide +kernel
theorem zEk:bootBuiltins "tuple" = some (.type "tuple"):=by decide +kernel
theorem zS0:bootBuiltins "zip" = some (.type "zip"):=by decide +kernel

def Has(P:Program)(w:World)(K:PySem.W.Frag)(mg:Str->Option Value)(base:Heap)(x:Str)(n:Nat)(ps:List Str)(sp:Sp):Prop :=
 ∃(f:Addr)(fd:FuncData),yP P w K mg base CX0 n f fd ps sp/\zAk K fd ps []/\PySem.W.keepIn K (.ref f)=true/\mg x=some (.ref f)
section
variable{X:Cx}{x:Str}{p pos:Pos}{e:Expr}{es:List Expr}{t:TA}{n:Nat}{ps:List Str}{sp:Sp}
theorem xT(h:Has X.prog X.w X.K X.mg X.base x n ps sp)(hr:sY n X.A)(hg:Gl X x)(ha:PA X (e::es) t)(hdb:(x ==("__debug__" : Str))=false:=by decide)
  (he:starEach (e::es) X.env=(false,eval e X.env)::starEach es X.env:=by rfl) (hpl:(backTo pos (starEach es X.env)).any (·.1)=false:=by rfl):PE X (.Call (.Name x p) (e::es) [] pos) (zK8 sp [] E0 t):=by
 obtain⟨f,fd,F,b,k,m⟩:=h;exact zQp F hr hg m k b .nil zJa ha hdb he hpl
end

section
variable{X:Cx}
def zBc(i j:Int):Prop:=0<j/\j.natAbs<2^4096
theorem zNo:OpR X (binaryOp .FloorDiv) (rI zBc λi j=>.int (i/j)):=opI λi j _ _ _ _ _ hc q=>by
 have h1:(0:Int)<j:=hc.1;have h3:j.natAbs.log2<9000:=Nat.lt_trans ((Nat.log2_lt (by lia)).mpr hc.2) (by decide);exact floordiv_int (by lia) (by rw[Int.fdiv_eq_ediv_of_nonneg i (by lia)]; exact q) (.inl (PyProof.noPylong_of_log2 h3))
theorem zBc.of{i j:Int}(h:0<j)(h2:j<10^600):zBc i j:=by
 exists h;have e:(10:Nat)^600<2^4096:=by decide +kernel
 lia
theorem zHl:wR X (.builtin "isinstance") (λxs H Q=>∃ x T t b,xs=[x,.ty T]/\TyOf X.K H x t/\PySem.W.kitOne X.K t (.type T)=some b/\Q (.bl b) H):=by
 intro pins s σ H xs us Q I r h;obtain⟨x,T,t,b,rfl,ty,e,q⟩:=h;obtain⟨u,v,rfl,ru,rv⟩:=yL.two r;cases rv;exact zJ6 I ru ty e λtk=>⟨.bl b,H,I.tok tk,rfl,q⟩

def Sq(K:PySem.W.Frag)(H:Hp)(p:Addr)(xs:List V):Prop:=SqL K H p xs\/SqT K H p xs
inductive RIx(K:PySem.W.Frag)(x y:V)(H:Hp)(Q:VK):Prop where
 | mk (p:Addr) (xs:List V) (i:Int) (v:V) (ex:x=.ref p) (ey:y=.int i) (sq:Sq K H p xs) (at':atI xs i=some v) (q:Q v H)
def rIxA(K:PySem.W.Frag):R2:=λx y H Q=>RIx K x y H Q
theorem zLl:IxR X (rIxA X.K):=by
 intro value slice pins s σ H x y v u Q I rx ry q hs;obtain⟨p,xs,i,z,e1,e2,hq,ha,q⟩:=q;rcases hq with hq | hq
 ·exact zPn value slice pins s σ H x y v u Q I rx ry ⟨p,xs,i,z,e1,e2,hq,ha,q⟩ hs
 ·exact zR2 value slice pins s σ H x y v u Q I rx ry ⟨p,xs,i,z,e1,e2,hq,ha,q⟩ hs
def iSeq(K:PySem.W.Frag)(tl:TE):TI:=λσ H R=>tl σ H λx H1=>∃ a,x=.ref a/\(((∃ xs,SqL K H1 a xs)/\R (Itl K a) H1)\/((∃ xs,SqT K H1 a xs)/\R (Itt K a) H1))
theorem uF{tg l:Expr}{tl:TE}(hl:PE X l tl):PI X tg l (iSeq X.K tl):=by
 intro pins s σ H R I h;refine thn (hl pins s σ H _ I h) λv s1 ⟨x,H1,I1,r1,q1⟩=>?_;obtain⟨a,e,q⟩:=q1;subst e;cases r1;have own:∀ b,b∈[s1.heap.objs.size]->zL6 X pins H1 b:=λb hb=>by
  rw[List.mem_singleton] at hb;subst hb;exact I1.fpOk (Nat.le_refl _) (I1.hok.fresh (Nat.le_refl _))
 rcases q with ⟨⟨xs,hq⟩,q⟩ | ⟨⟨xs,hq⟩,q⟩
 ·obtain⟨its,rv,p,hz⟩:=I1.list hq;exact wpAny_pyIter_list p.isList ⟨s1.heap.objs.size,[s1.heap.objs.size],_,_,H1,rfl,I1.kept (t':=s1.toks) λb o e=>Heap.get?_push_of_some _ e,zFq a _,⟨_,Heap.get?_push_size _ rfl,rfl,rfl⟩,own,q⟩
 ·obtain⟨its,rv,p,hz⟩:=I1.tuple hq;exact wpAny_pyIter_tuple (show s1.heap.IsTuple a its.toArray from p) ⟨s1.heap.objs.size,[s1.heap.objs.size],_,_,H1,rfl,I1.kept (t':=s1.toks) λb o e=>Heap.get?_push_of_some _ e,zEd a _,⟨_,Heap.get?_push_size _ rfl,rfl,rfl⟩,own,q⟩
end

section
variable{K:PySem.W.Frag}{a D:Addr}{xs:List V}{g:TG}{tt:TT}{te:TE}{σ0:St}{H1:Hp}{Q:VK}
theorem zMd(Pv:Nat->St->List V->Hp->Prop)(h0:Pv 0 σ0 [] (upd H1 D (.lst [])))(hl:∀ i σ ys H,i<=xs.length->Pv i σ ys H->SqL K H a xs/\H D=some (.lst ys))
  (hs:∀ i x σ ys H,xs[i]?=some x->Pv i σ ys H->g x σ H λσ2 H2=>tt σ2 H2 λb H3 =>
   if b=true then te σ2 H3 λy H4=>H4 D=some (.lst ys)/\ys.length<sizeLine/\Pv (i+1) σ2 (ys++[y]) (upd H4 D (.lst (ys++[y]))) else Pv (i+1) σ2 ys H3)
  (hd:∀ σ ys H,Pv xs.length σ ys H->Q (.ref D) H):zBz (Itl K a) D g tt te σ0 H1 Q:=by
 exists λi m σ ys H=>m=xs.length-i/\i<=xs.length/\Pv i σ ys H,⟨xs.length,by simp,Nat.zero_le _,h0⟩;rintro i m σ ys H ⟨rfl,hi,p⟩;obtain⟨q,qd⟩:=hl i σ ys H hi p;exists qd;by_cases hlt:i<xs.length
 ·refine .inr ⟨⟨xs,xs[i],q,by simp[hlt]⟩,Pv (i+1),λσ' zs H' z=>⟨xs.length-(i+1),by lia,rfl,hlt,z⟩,λx H' y=>?_⟩;obtain⟨e,y⟩:=y;subst e;exact hs i x σ ys _ (y xs q) p
 ·have e:i=xs.length:=by lia
  subst e;exact .inl ⟨⟨xs,q,Nat.le_refl _⟩,hd σ ys H p⟩
theorem zNh(Pv:Nat->St->List V->Hp->Prop)(h0:Pv 0 σ0 [] (upd H1 D (.lst [])))(hl:∀ i σ ys H,i<=xs.length->Pv i σ ys H->SqT K H a xs/\H D=some (.lst ys))
  (hs:∀ i x σ ys H,xs[i]?=some x->Pv i σ ys H->g x σ H λσ2 H2=>tt σ2 H2 λb H3 =>
   if b=true then te σ2 H3 λy H4=>H4 D=some (.lst ys)/\ys.length<sizeLine/\Pv (i+1) σ2 (ys++[y]) (upd H4 D (.lst (ys++[y]))) else Pv (i+1) σ2 ys H3)
  (hd:∀ σ ys H,Pv xs.length σ ys H->Q (.ref D) H):zBz (Itt K a) D g tt te σ0 H1 Q:=by
 exists λi m σ ys H=>m=xs.length-i/\i<=xs.length/\Pv i σ ys H,⟨xs.length,by simp,Nat.zero_le _,h0⟩;rintro i m σ ys H ⟨rfl,hi,p⟩;obtain⟨q,qd⟩:=hl i σ ys H hi p;exists qd;by_cases hlt:i<xs.length
 ·refine .inr ⟨⟨xs,xs[i],q,by simp[hlt]⟩,Pv (i+1),λσ' zs H' z=>⟨xs.length-(i+1),by lia,rfl,hlt,z⟩,λx H' y=>?_⟩;obtain⟨e,y⟩:=y;subst e;exact hs i x σ ys _ (y xs q) p
 ·have e:i=xs.length:=by lia
  subst e;exact .inl ⟨⟨xs,q,Nat.le_refl _⟩,hd σ ys H p⟩
theorem zJf{lo:Int}{n:Nat}(Pv:Nat->St->List V->Hp->Prop)(h0:Pv 0 σ0 [] (upd H1 D (.lst [])))(hl:∀ i σ ys H,i<=n->Pv i σ ys H->H D=some (.lst ys))
  (hs:∀ i σ ys H,i<n->Pv i σ ys H->g (.int (lo+i)) σ H λσ2 H2=>tt σ2 H2 λb H3 =>
   if b=true then te σ2 H3 λy H4=>H4 D=some (.lst ys)/\ys.length<sizeLine/\Pv (i+1) σ2 (ys++[y]) (upd H4 D (.lst (ys++[y]))) else Pv (i+1) σ2 ys H3)
  (hd:∀ σ ys H,Pv n σ ys H->Q (.ref D) H):zBz (Itr lo n) D g tt te σ0 H1 Q:=by
 exists λi m σ ys H=>m=n-i/\i<=n/\Pv i σ ys H,⟨n,by simp,Nat.zero_le _,h0⟩;rintro i m σ ys H ⟨rfl,hi,p⟩;have qd:=hl i σ ys H hi p;exists qd;by_cases hlt:i<n
 ·refine .inr ⟨hlt,Pv (i+1),λσ' zs H' z=>⟨n-(i+1),by lia,rfl,hlt,z⟩,λx H' y=>?_⟩;obtain⟨e,y⟩:=y;subst e y;exact hs i σ ys _ hlt p
 ·have e:i=n:=by lia
  subst e;exact .inl ⟨Nat.le_refl _,hd σ ys H p⟩
end
section
variable{K:PySem.W.Frag}{a D:Addr}{xs:List V}{g:TG}{te:TE}{σ0:St}{H1:Hp}{Q:VK}
theorem xY(Pv:Nat->St->List V->Hp->Prop)(h0:Pv 0 σ0 [] (upd H1 D (.lst [])))(hl:∀ i σ ys H,i<=xs.length->Pv i σ ys H->SqL K H a xs/\H D=some (.lst ys))
  (hs:∀ i x σ ys H,xs[i]?=some x->Pv i σ ys H->g x σ H λσ2 H2=>te σ2 H2 λy H4=>H4 D=some (.lst ys)/\ys.length<sizeLine/\Pv (i+1) σ2 (ys++[y]) (upd H4 D (.lst (ys++[y]))))
  (hd:∀ σ ys H,Pv xs.length σ ys H->Q (.ref D) H):zBz (Itl K a) D g zQ6 te σ0 H1 Q:=zMd Pv h0 hl (λi x σ ys H e p=>hs i x σ ys H e p) hd
theorem zFp(Pv:Nat->St->List V->Hp->Prop)(h0:Pv 0 σ0 [] (upd H1 D (.lst [])))(hl:∀ i σ ys H,i<=xs.length->Pv i σ ys H->SqT K H a xs/\H D=some (.lst ys))
  (hs:∀ i x σ ys H,xs[i]?=some x->Pv i σ ys H->g x σ H λσ2 H2=>te σ2 H2 λy H4=>H4 D=some (.lst ys)/\ys.length<sizeLine/\Pv (i+1) σ2 (ys++[y]) (upd H4 D (.lst (ys++[y]))))
  (hd:∀ σ ys H,Pv xs.length σ ys H->Q (.ref D) H):zBz (Itt K a) D g zQ6 te σ0 H1 Q:=zNh Pv h0 hl (λi x σ ys H e p=>hs i x σ ys H e p) hd
theorem qA{lo:Int}{n:Nat}(Pv:Nat->St->List V->Hp->Prop)(h0:Pv 0 σ0 [] (upd H1 D (.lst [])))(hl:∀ i σ ys H,i<=n->Pv i σ ys H->H D=some (.lst ys))
  (hs:∀ i σ ys H,i<n->Pv i σ ys H->g (.int (lo+i)) σ H λσ2 H2=>te σ2 H2 λy H4=>H4 D=some (.lst ys)/\ys.length<sizeLine/\Pv (i+1) σ2 (ys++[y]) (upd H4 D (.lst (ys++[y]))))
  (hd:∀ σ ys H,Pv n σ ys H->Q (.ref D) H):zBz (Itr lo n) D g zQ6 te σ0 H1 Q:=zJf Pv h0 hl (λi σ ys H e p=>hs i σ ys H e p) hd
end
end L2

namespace L2
open PySem PySem.Spec PyProof.Rows
theorem zMg:∀ bs:List Bool,(List.range bs.length).all (λi=>(bs[i]?).getD true)=bs.all id:=by
 intro bs;rw[Bool.eq_iff_iff,List.all_eq_true,List.all_eq_true];constructor
 ·intro h b hb;obtain⟨i,hi,e⟩:=List.getElem_of_mem hb;have q:=h i (List.mem_range.mpr hi);rw[List.getElem?_eq_getElem hi,e] at q;exact q
 ·intro h i hi;have hi':=List.mem_range.mp hi;rw[List.getElem?_eq_getElem hi'];exact h _ (List.getElem_mem hi')
theorem zNl{bs:List Bool}{its:List Value}(r:yL (bs.map V.bl) its){i:Nat}{v:Value}(h:its[i]?=some v):v=.bool ((bs[i]?).getD true):=by
 have hl:=r.length;rw[List.length_map] at hl;have hi:i<its.length:=(List.getElem?_eq_some_iff.mp h).1;have hb:i<bs.length:=by lia
 obtain⟨u,hu,ru⟩:=r.get (i:=i) (x:=.bl bs[i]) (by rw[List.getElem?_map,List.getElem?_eq_getElem hb]; rfl);rw[hu] at h;cases h;rw[List.getElem?_eq_getElem hb];exact ru
section
variable{X:Cx}
theorem sI(hc:X.calm=true):wR X (.builtin "all") (λxs H Q=>∃(p:Addr)(bs:List Bool),xs=[.ref p]/\SqL X.K H p (bs.map V.bl)/\Q (.bl (bs.all id)) H):=by
 intro pins s σ H xs us Q I r h;obtain⟨p,bs,rfl,hq,q⟩:=h;obtain⟨u,rfl,ru⟩:=yL.one r;cases ru;obtain⟨its,rv,pl,hz⟩:=I.list hq;have plt:p<s.heap.objs.size:=by
  obtain⟨_,e,_⟩:=pl.isList;exact Heap.lt_size e
 refine call_all_walk (wpAny_pyIter_list pl.isList ?_);refine⟨s.heap.objs.size,_,_,_,_,_,λi=>(bs[i]?).getD true,rfl,Walks.list (A:=X.A.in1) (show X.A.in1.handled=none from I.ok.hd hc) _ p (Nat.ne_of_lt plt) its.toArray,⟨⟨_,Heap.get?_push_size _ rfl,rfl,rfl⟩,Heap.IsList.push pl.isList _⟩,λi v s Q E hP hQ=>?_,λh' tk k=>?_⟩
 ·have e:=zNl rv (by simpa using hP);subst e;exact wpAny_truthy_bool hQ
 ·have e:(List.range its.toArray.size).all (λi=>(bs[i]?).getD true)=bs.all id:=by
   have hl:=rv.length;rw[List.length_map] at hl;rw[List.size_toArray,<- hl];exact zMg bs
  rw[e];exact⟨.bl (bs.all id),H,I.kept (t':=tk) λb o z=>k b o (λw=>by rw[List.mem_singleton] at w; exact Nat.lt_irrefl _ (w ▸ Heap.lt_size z)) (Heap.get?_push_of_some _ z),rfl,q⟩
end
end L2

namespace L2
open PySem PySem.Spec PyProof.Rows

def SI(b:Bool)(h:Heap)(i l:Addr)(k:Nat):Prop:=match b with | true=>h.IsListIter i l k | false=>h.IsTupleIter i l k
def SS(b:Bool)(h:Heap)(l:Addr)(its:Array Value):Prop:=match b with | true=>h.IsList l its | false=>h.IsTuple l its
def zG1(b:Bool):String:=match b with | true => "list_iterator" | false => "tuple_iterator"
theorem SI.obj{b:Bool}{h:Heap}{i l:Addr}{k:Nat}(x:SI b h i l k):∃ o,h.get? i=some o/\o.cls=.type (zG1 b)/\o.data=.fields #[.ref l,.int k 0]:=by
 cases b <;> exact x
theorem SI.of{b:Bool}{h:Heap}{i l:Addr}{k:Nat}(x:∃ o,h.get? i=some o/\o.cls=.type (zG1 b)/\o.data=.fields #[.ref l,.int k 0]):SI b h i l k:=by
 cases b <;> exact x
theorem SI.at{b:Bool}{h h':Heap}{i l:Addr}{k:Nat}(x:SI b h i l k)(e:∀ o,h.get? i=some o->h'.get? i=some o):SI b h' i l k:=by
 obtain⟨o,ho,r⟩:=x.obj;exact SI.of ⟨o,e o ho,r⟩
theorem SS.at{b:Bool}{h h':Heap}{l:Addr}{its:Array Value}(x:SS b h l its)(e:∀ o,h.get? l=some o->h'.get? l=some o):SS b h' l its:=by
 cases b <;>(obtain⟨o,ho,r⟩:=x; exact⟨o,e o ho,r⟩)
theorem SS.obj{b:Bool}{h:Heap}{l:Addr}{its:Array Value}(x:SS b h l its):∃ o,h.get? l=some o/\o.cls=.type (match b with | true => "list" | false => "tuple"):=by
 cases b <;>(obtain⟨o,ho,hc,_⟩:=x; exact⟨o,ho,hc⟩)
section
variable{prog:Program}{w:World}{A:Around}{E:Value->Shared->Prop}{s:Shared}
theorem zMo{i l:Addr}{k:Nat}{its:Array Value}{y:Value}{Q:Value->Shared->Prop}(zi:s.heap.IsTupleIter i l k)(zl:s.heap.IsTuple l its)(zy:its[k]?=some y)
  (zq:∀ h',h'.IsTupleIter i l (k+1)->Heap.SameBut i s.heap h'->Q y { s with heap:=h' }):wpAny (model prog w) A (Builtin.SmallTypes.nextOf (.ref i)) Q E s:=by
 obtain⟨ob,zo,zc,zd⟩:=id zi;obtain⟨ot,zot,_,nt,zdt⟩:=zl;unfold Builtin.SmallTypes.nextOf;refine wpAny_bind (wpAny_callSpecial?_slot (name:=Str.ofString "__next__") zi.typeIs F.slot_tuple_iterator_next (wpAny_call_entry F.slot_tuple_iterator_next zi.typeIs F.entry_tuple_iterator_next ?_ (F.args_tuple_iterator_next_1 _)));show wpAny _ _ (field (.ref i) 0 >>= _) _ _ s;refine wpAny_bind (wpAny_field zo zd (x:=.ref l) rfl ?_);show wpAny _ _ (if (Value.ref l == Value.none)=true then _ else _) _ _ s; rw[if_neg (show ¬ ((Value.ref l == Value.none)=true) from Bool.false_ne_true)];show wpAny _ _ (field (.ref i) 1 >>= _) _ _ s;refine wpAny_bind (wpAny_field zo zd (x:=.int k 0) rfl ?_);show wpAny _ _ (seqItems? (.ref l) >>= _) _ _ s; refine wpAny_bind (wpAny_seqItems zot zdt ?_);simp only[Int.toNat_natCast,zy];refine wpAny_bind (wpAny_setField zo zd (by simp) (wpAny_pure ⟨y,rfl,wpAny_pure (zq _ ?_ (Heap.SameBut.update ..))⟩));exact⟨_,Heap.get?_update_self _ zo (Obj.isFreed_of_fields (Obj.data_mapFields zd _)),(Obj.cls_mapFields ..).trans zc,by rw[Obj.data_mapFields zd]; simp[rawInt]⟩
theorem zPk{i l:Addr}{k:Nat}{its:Array Value}{Q:Value->Shared->Prop}(hh:A.handled=none)(zi:s.heap.IsTupleIter i l k)(zl:s.heap.IsTuple l its)(zy:its[k]?=none)
  (zE:∀ h' e,Heap.ExtBut i s.heap h'->(∃ o,h'.get? e=some o/\o.cls=.type "StopIteration")->E (.ref e) { s with heap:=h' }):wpAny (model prog w) A (Builtin.SmallTypes.nextOf (.ref i)) Q E s:=by
 obtain⟨ob,zo,zc,zd⟩:=id zi;obtain⟨ot,zot,_,nt,zdt⟩:=zl;unfold Builtin.SmallTypes.nextOf;refine wpAny_bind (wpAny_callSpecial?_slot (name:=Str.ofString "__next__") zi.typeIs F.slot_tuple_iterator_next (wpAny_call_entry F.slot_tuple_iterator_next zi.typeIs F.entry_tuple_iterator_next ?_ (F.args_tuple_iterator_next_1 _)));show wpAny _ _ (field (.ref i) 0 >>= _) _ _ s;refine wpAny_bind (wpAny_field zo zd (x:=.ref l) rfl ?_);show wpAny _ _ (if (Value.ref l == Value.none)=true then _ else _) _ _ s; rw[if_neg (show ¬ ((Value.ref l == Value.none)=true) from Bool.false_ne_true)];show wpAny _ _ (field (.ref i) 1 >>= _) _ _ s;refine wpAny_bind (wpAny_field zo zd (x:=.int k 0) rfl ?_);show wpAny _ _ (seqItems? (.ref l) >>= _) _ _ s; refine wpAny_bind (wpAny_seqItems zot zdt ?_);simp only[Int.toNat_natCast,zy];refine wpAny_bind (wpAny_rule (wpAny_bind (wpAny_setField zo zd (by simp) ?_)));show wpAny _ _ (newExc (.type "StopIteration") [] >>= _) _ _ _; refine wpAny_bind ?_; simp only[newExc,newTuple];refine wpAny_bind (wpAny_newObj_type ?_ (by size_fits)); refine wpAny_bind (m:=firstArgMember _ _) (wpAny_of_eq (a:=Value.none) (by first | rfl | (simp only[firstArgMember]; rfl)) ?_);refine wpAny_newObj_type ?_ (by size_fits); simp only[raiseNew]; refine wpAny_bind (wpAny_handled ?_)
 first | rw[show A.in1.handled=none from hh] | rw[hh]
 refine wpAny_bind (wpAny_pure (wpAny_throw ?_)); exact zE _ _ (((Heap.SameBut.update ..).extBut.push _).push _) ⟨_,Heap.get?_push_size _ rfl,rfl⟩
theorem zHv{b:Bool}{i l:Addr}{k:Nat}{its:Array Value}{y:Value}{Q:Value->Shared->Prop}(zi:SI b s.heap i l k)(zl:SS b s.heap l its)(zy:its[k]?=some y)
  (zq:∀ h',SI b h' i l (k+1)->Heap.SameBut i s.heap h'->Q y { s with heap:=h' }):wpAny (model prog w) A (Builtin.SmallTypes.nextOf (.ref i)) Q E s:=by
 cases b
 ·exact zMo zi zl zy zq
 ·exact wpAny_nextOf_list_item zi zl zy zq
theorem zOe{b:Bool}{i l:Addr}{k:Nat}{its:Array Value}{Q:Value->Shared->Prop}(hh:A.handled=none)(zi:SI b s.heap i l k)(zl:SS b s.heap l its)(zy:its[k]?=none)
  (zE:∀ h' e,Heap.ExtBut i s.heap h'->(∃ o,h'.get? e=some o/\o.cls=.type "StopIteration")->E (.ref e) { s with heap:=h' }):wpAny (model prog w) A (Builtin.SmallTypes.nextOf (.ref i)) Q E s:=by
 cases b
 ·exact zPk hh zi zl zy zE
 ·exact wpAny_nextOf_list_end hh zi zl zy zE
theorem zOu{b:Bool}{l:Addr}{its:Array Value}{Q:Value->Shared->Prop}(zl:SS b s.heap l its)(h:Q (.ref s.heap.objs.size) { s with heap:=s.heap.push { cls:=.type (zG1 b),data:=.fields #[.ref l,.int 0 0] } }) :
  wpAny (model prog w) A (pyIter (.ref l)) Q E s:=by
 cases b
 ·exact wpAny_pyIter_tuple zl h
 ·exact wpAny_pyIter_list zl h

theorem zKi{b1 b2:Bool}{z TI TO i1 i2 l1 l2:Addr}{k:Nat}{xs ys:Array Value}{x y a b:Value}{Q:Value->Shared->Prop}(D:ZipApart z TI TO i1 i2 l1 l2)
  (hz:IsZip s.heap z TI TO .none) (hI:IsPair s.heap TI (.ref i1) (.ref i2)) (hO:IsPair s.heap TO a b) (h1:SI b1 s.heap i1 l1 k) (h2:SI b2 s.heap i2 l2 k) (g1:SS b1 s.heap l1 xs) (g2:SS b2 s.heap l2 ys)
  (hx:xs[k]?=some x) (hy:ys[k]?=some y)
  (hQ:∀ h',IsZip h' z TI TO (rawInt s.heap.objs.size)->IsPair h' TO x y->SI b1 h' i1 l1 (k+1)->SI b2 h' i2 l2 (k+1)->IsPair h' s.heap.objs.size x y ->
   (∀ c o,c≠z->c≠TO->c≠i1->c≠i2->s.heap.get? c=some o->h'.get? c=some o)->Q (.ref s.heap.objs.size) { s with heap:=h' }) :
  wpAny (model prog w) A (Builtin.«zip.__next__» ⟨[.ref z],[]⟩) (λfin s'=>∃ v,fin=.done (.ret v)/\Q v s') E s:=by
 show wpAny _ _ (field (.ref z) 2 >>= _) _ _ _; refine wpAny_bind (wpAny_field hz rfl (x:=.bool false) rfl ?_);show wpAny _ _ (field (.ref z) 3 >>= _) _ _ _; refine wpAny_bind (wpAny_field hz rfl (x:=.ref TI) rfl ?_);refine wpAny_bind (wpAny_seqItems hI rfl ?_);show wpAny _ _ (Builtin.SmallTypes.ownedTupleIsFree (.ref z) >>= _) _ _ _; refine wpAny_bind ?_; unfold Builtin.SmallTypes.ownedTupleIsFree;refine wpAny_bind (wpAny_field hz rfl (x:=.none) rfl (wpAny_pure ?_)); simp only[if_true];refine wpAny_bind (wpAny_rule ?_); refine wpAny_bind (wpAny_field hz rfl (x:=.ref TO) rfl ?_);refine wpAny_bind (wpAny_setField_rec hz (by simp) λk1 z1 s1=>?_); replace z1:IsZip k1 z TI TO .ellipsis:=z1;refine wpAny_bind ?_; simp only[List.zipIdx_cons,List.zipIdx_nil,List.forIn_cons,List.forIn_nil];refine wpAny_bind (wpAny_bind (wpAny_onRaise ?_)); show wpAny _ _ (Builtin.SmallTypes.nextOf (.ref i1) >>= _) _ _ _
 refine wpAny_bind (zHv (h1.at λo e=>s1.extBut _ o D.i1z e) (g1.at λo e=>s1.extBut _ o D.l1z e) hx λk2 q2 s2=>wpAny_pure ?_);have o2:IsPair k2 TO a b:=s2.extBut _ _ D.TOi1 (s1.extBut _ _ D.TOz hO);refine wpAny_bind (wpAny_seqItems o2 rfl ?_);refine wpAny_bind (wpAny_updateSeq_pair o2 λk3 o3 s3=>?_); replace o3:IsPair k3 TO x b:=o3;refine wpAny_bind (wpAny_letGo (wpAny_pure ?_)); refine wpAny_bind (wpAny_bind (wpAny_onRaise ?_)); show wpAny _ _ (Builtin.SmallTypes.nextOf (.ref i2) >>= _) _ _ _
 refine wpAny_bind (zHv (h2.at λo e=>s3.extBut _ o D.TOi2.symm (s2.extBut _ o D.i12.symm (s1.extBut _ o D.i2z e))) (g2.at λo e=>s3.extBut _ o D.l2TO (s2.extBut _ o D.l2i1 (s1.extBut _ o D.l2z e))) hy λk4 q4 s4=>wpAny_pure ?_);have o4:IsPair k4 TO x b:=s4.extBut _ _ D.TOi2 o3;refine wpAny_bind (wpAny_seqItems o4 rfl ?_);refine wpAny_bind (wpAny_updateSeq_pair o4 λk5 o5 s5=>?_); replace o5:IsPair k5 TO x y:=o5;refine wpAny_bind (wpAny_letGo (wpAny_pure (wpAny_pure ?_)));refine wpAny_bind (wpAny_seqItems o5 rfl ?_); refine wpAny_bind (wpAny_newTuple ?_);have hsz:k5.objs.size=s.heap.objs.size:=by rw[s5.1,s4.1,s3.1,s2.1,s1.1]
 have z5:IsZip k5 z TI TO .ellipsis:=s5.extBut _ _ D.TOz.symm (s4.extBut _ _ D.i2z.symm (s3.extBut _ _ D.TOz.symm (s2.extBut _ _ D.i1z.symm z1)));have kp:∀ c o,c≠z->c≠TO->c≠i1->c≠i2->s.heap.get? c=some o->k5.get? c=some o:=λc o c1 c2 c3 c4 e=>s5.extBut _ _ c2 (s4.extBut _ _ c4 (s3.extBut _ _ c2 (s2.extBut _ _ c3 (s1.extBut _ _ c1 e))));have a5:SI b1 k5 i1 l1 (k+1):=q2.at λo e=>s5.extBut _ o D.TOi1.symm (s4.extBut _ o D.i12 (s3.extBut _ o D.TOi1.symm e));have b5:SI b2 k5 i2 l2 (k+1):=q4.at λo e=>s5.extBut _ o D.TOi2.symm e;have zlt:z<k5.objs.size:=Heap.lt_size z5;show wpAny _ _ (Builtin.SmallTypes.ownedTupleHandOut (.ref z) (.ref k5.objs.size) >>= _) _ _ _; refine wpAny_bind ?_; unfold Builtin.SmallTypes.ownedTupleHandOut;have z6:IsZip (k5.push { cls:=.type "tuple", data:=.seq #[x,y] }) z TI TO .ellipsis:=Heap.get?_push_of_some _ z5;refine wpAny_bind (wpAny_setField_rec z6 (by simp) λk7 z7 s7=>?_); replace z7:IsZip k7 z TI TO (rawInt k5.objs.size):=z7;refine wpAny_setField_rec z7 (by simp) λk8 z8 s8=>?_; replace z8:IsZip k8 z TI TO (rawInt k5.objs.size):=z8;have up:∀ c o,c≠z->k5.get? c=some o->k8.get? c=some o:=λc o c1 e=>s8.extBut _ _ c1 (s7.extBut _ _ c1 (Heap.get?_push_of_some _ e));have t8:IsPair k8 k5.objs.size x y:=s8.extBut _ _ (Nat.ne_of_gt zlt) (s7.extBut _ _ (Nat.ne_of_gt zlt) (Heap.get?_push_size _ rfl));rw[hsz] at z8 t8;refine wpAny_pure ⟨_,rfl,?_⟩; show Q (.ref k5.objs.size) _
 rw[hsz];exact hQ k8 z8 (up _ _ D.TOz o5) (a5.at λo e=>up _ o D.i1z e) (b5.at λo e=>up _ o D.i2z e) t8 λc o c1 c2 c3 c4 e=>up c o c1 (kp c o c1 c2 c3 c4 e)
theorem zN6{b1 b2:Bool}{z TI TO i1 i2 l1 l2:Addr}{k:Nat}{xs ys:Array Value}{a b:Value}{Q:Fin->Shared->Prop}(hh:A.handled=none)(D:ZipApart z TI TO i1 i2 l1 l2)
  (hz:IsZip s.heap z TI TO .none) (hI:IsPair s.heap TI (.ref i1) (.ref i2)) (hO:IsPair s.heap TO a b) (h1:SI b1 s.heap i1 l1 k) (h2:SI b2 s.heap i2 l2 k) (g1:SS b1 s.heap l1 xs) (g2:SS b2 s.heap l2 ys)
  (hend:xs[k]?=none\/ys[k]?=none)
  (hE:∀ h' e,(∀ c o,c≠z->c≠TO->c≠i1->c≠i2->s.heap.get? c=some o->h'.get? c=some o)->(∃ o,h'.get? e=some o/\o.cls=.type "StopIteration")->E (.ref e) { s with heap:=h' }) :
  wpAny (model prog w) A (Builtin.«zip.__next__» ⟨[.ref z],[]⟩) Q E s:=by
 show wpAny _ _ (field (.ref z) 2 >>= _) _ _ _; refine wpAny_bind (wpAny_field hz rfl (x:=.bool false) rfl ?_);show wpAny _ _ (field (.ref z) 3 >>= _) _ _ _; refine wpAny_bind (wpAny_field hz rfl (x:=.ref TI) rfl ?_);refine wpAny_bind (wpAny_seqItems hI rfl ?_);show wpAny _ _ (Builtin.SmallTypes.ownedTupleIsFree (.ref z) >>= _) _ _ _; refine wpAny_bind ?_; unfold Builtin.SmallTypes.ownedTupleIsFree;refine wpAny_bind (wpAny_field hz rfl (x:=.none) rfl (wpAny_pure ?_)); simp only[if_true];refine wpAny_bind (wpAny_rule ?_); refine wpAny_bind (wpAny_field hz rfl (x:=.ref TO) rfl ?_);refine wpAny_bind (wpAny_setField_rec hz (by simp) λk1 z1 s1=>?_); replace z1:IsZip k1 z TI TO .ellipsis:=z1;refine wpAny_bind ?_; simp only[List.zipIdx_cons,List.zipIdx_nil,List.forIn_cons,List.forIn_nil];refine wpAny_bind (wpAny_bind (wpAny_onRaise ?_)); show wpAny _ _ (Builtin.SmallTypes.nextOf (.ref i1) >>= _) _ _ _
 cases hx:xs[k]? with
 | none =>
  refine wpAny_bind (zOe hh (h1.at λo e=>s1.extBut _ o D.i1z e) (g1.at λo e=>s1.extBut _ o D.l1z e) hx λk2 e s2 he=>?_);obtain⟨oe,hoe,hce⟩:=he;have z2:IsZip k2 z TI TO .ellipsis:=s2 _ _ D.i1z.symm z1;have nez:e≠z:=λx=>by subst x; rw[z2] at hoe; cases hoe; simp at hce
  refine wpAny_setField_rec z2 (by simp) λk3 _ s3=>hE k3 e (λc o c1 _ c3 _ x=>s3.extBut _ _ c1 (s2 _ _ c3 (s1.extBut _ _ c1 x))) ⟨oe,s3.extBut _ _ nez hoe,hce⟩
 | some x =>
  have hy:ys[k]?=none:=by
   rcases hend with h | h
   ·rw[hx] at h; cases h
   ·exact h
  refine wpAny_bind (zHv (h1.at λo e=>s1.extBut _ o D.i1z e) (g1.at λo e=>s1.extBut _ o D.l1z e) hx λk2 q2 s2=>wpAny_pure ?_);have o2:IsPair k2 TO a b:=s2.extBut _ _ D.TOi1 (s1.extBut _ _ D.TOz hO);refine wpAny_bind (wpAny_seqItems o2 rfl ?_); refine wpAny_bind (wpAny_updateSeq_pair o2 λk3 o3 s3=>?_);refine wpAny_bind (wpAny_letGo (wpAny_pure ?_)); refine wpAny_bind (wpAny_bind (wpAny_onRaise ?_)); show wpAny _ _ (Builtin.SmallTypes.nextOf (.ref i2) >>= _) _ _ _
  refine wpAny_bind (zOe hh (h2.at λo e=>s3.extBut _ o D.TOi2.symm (s2.extBut _ o D.i12.symm (s1.extBut _ o D.i2z e))) (g2.at λo e=>s3.extBut _ o D.l2TO (s2.extBut _ o D.l2i1 (s1.extBut _ o D.l2z e))) hy λk4 e s4 he=>?_);obtain⟨oe,hoe,hce⟩:=he;have z4:IsZip k4 z TI TO .ellipsis:=s4 _ _ D.i2z.symm (s3.extBut _ _ D.TOz.symm (s2.extBut _ _ D.i1z.symm z1));have nez:e≠z:=λx=>by subst x; rw[z4] at hoe; cases hoe; simp at hce
  refine wpAny_setField_rec z4 (by simp) λk5 _ s5=>hE k5 e (λc o c1 c2 c3 c4 x=>s5.extBut _ _ c1 (s4 _ _ c4 (s3.extBut _ _ c2 (s2.extBut _ _ c3 (s1.extBut _ _ c1 x))))) ⟨oe,s5.extBut _ _ nez hoe,hce⟩
def zPc(b1 b2:Bool)(l1 l2:Addr)(h:Heap):Heap :=
 ((((h.push { cls:=.type (zG1 b1),data:=.fields #[.ref l1,.int 0 0] }).push { cls:=.type (zG1 b2),data:=.fields #[.ref l2,.int 0 0] }).push { cls:=.type "tuple", data:=.seq #[.ref h.objs.size,.ref (h.objs.size+1)] }).push { cls:=.type "tuple", data:=.seq #[.none,.none] }).push { cls:=.type "zip", data:=.fields #[.none,.bool false,.bool false,.ref (h.objs.size+2),.ref (h.objs.size+3)] }
theorem zNt(b1 b2:Bool)(l1 l2:Addr)(xs ys:Array Value) :
  Meets (Builtin.«zip.__new__» ⟨[.type "zip", .ref l1,.ref l2],[]⟩) (λ_ R s=>SS b1 s.heap l1 xs/\SS b2 s.heap l2 ys /\
   R (.ok (.ret (.ref (s.heap.objs.size+4)))) { s with heap:=zPc b1 b2 l1 l2 s.heap }) :=
 .of_wp λprog w A R s h=>by
  obtain⟨hp,g,d,tk,os⟩:=s;obtain⟨hl1,hl2,h⟩:=h;have hsub:=sub_zip;have hL1:SS b1 (Shared.heap ⟨hp,g,d,tk,os⟩) l1 xs:=hl1;have hL2:SS b2 (Shared.heap ⟨hp.push { cls:=.type (zG1 b1),data:=.fields #[.ref l1,.int 0 0] },g,d,tk,os⟩) l2 ys:=SS.at hl2 λo e=>Heap.get?_push_of_some _ e
  wp_walk using zOu hL1,zOu hL2
  exists _,rfl;simp only[zPc,Heap.size_push] at h ⊢;exact h
theorem zJ9{b1 b2:Bool}{l1 l2:Addr}{xs ys:Array Value}{Q:Value->Shared->Prop}(hl1:SS b1 s.heap l1 xs)(hl2:SS b2 s.heap l2 ys)
  (h:∀ h',IsZip h' (s.heap.objs.size+4) (s.heap.objs.size+2) (s.heap.objs.size+3) .none->IsPair h' (s.heap.objs.size+2) (.ref s.heap.objs.size) (.ref (s.heap.objs.size+1))->IsPair h' (s.heap.objs.size+3) .none .none ->
   SI b1 h' s.heap.objs.size l1 0->SI b2 h' (s.heap.objs.size+1) l2 0->(∀ c o,s.heap.get? c=some o->h'.get? c=some o)->Q (.ref (s.heap.objs.size+4)) { s with heap:=h' }) :
  wpAny (model prog w) A (call (.type "zip") [.ref l1,.ref l2]) Q E s:=by
 refine callType_new F.called_zip (by decide) (F.typeCall_zip_2 _ _) (F.newCall_zip_2 _ _) (λobj=>F.args_object_init_3 obj _ _) F.entry_zip_new (zNt b1 b2 l1 l2 xs ys) ⟨hl1,hl2,?_⟩;unfold zPc;generalize e1:s.heap.push { cls:=.type (zG1 b1),data:=.fields #[.ref l1,.int 0 0] }=k1;have n1:k1.objs.size=s.heap.objs.size+1:=by rw[<- e1,Heap.size_push]
 generalize e2:k1.push { cls:=.type (zG1 b2),data:=.fields #[.ref l2,.int 0 0] }=k2;have n2:k2.objs.size=s.heap.objs.size+2:=by rw[<- e2,Heap.size_push,n1]
 generalize e3:k2.push { cls:=.type "tuple", data:=.seq #[.ref s.heap.objs.size,.ref (s.heap.objs.size+1)] }=k3;have n3:k3.objs.size=s.heap.objs.size+3:=by rw[<- e3,Heap.size_push,n2]
 generalize e4:k3.push { cls:=.type "tuple", data:=.seq #[.none,.none] }=k4;have n4:k4.objs.size=s.heap.objs.size+4:=by rw[<- e4,Heap.size_push,n3]
 generalize e5:k4.push { cls:=.type "zip", data:=.fields #[.none,.bool false,.bool false,.ref (s.heap.objs.size+2),.ref (s.heap.objs.size+3)] }=k5;have u5:∀ c o,k4.get? c=some o->k5.get? c=some o:=λc o q=>e5 ▸ Heap.get?_push_of_some _ q;have u4:∀ c o,k3.get? c=some o->k5.get? c=some o:=λc o q=>u5 c o (e4 ▸ Heap.get?_push_of_some _ q);have u3:∀ c o,k2.get? c=some o->k5.get? c=some o:=λc o q=>u4 c o (e3 ▸ Heap.get?_push_of_some _ q);have u2:∀ c o,k1.get? c=some o->k5.get? c=some o:=λc o q=>u3 c o (e2 ▸ Heap.get?_push_of_some _ q);have u1:∀ c o,s.heap.get? c=some o->k5.get? c=some o:=λc o q=>u2 c o (e1 ▸ Heap.get?_push_of_some _ q);have g5:IsZip k5 (s.heap.objs.size+4) (s.heap.objs.size+2) (s.heap.objs.size+3) .none:=by
  rw[<- n4,<- e5];exact Heap.get?_push_size _ rfl
 have g4:IsPair k5 (s.heap.objs.size+3) .none .none:=by
  rw[<- n3];exact u5 _ _ (by rw[<- e4]; exact Heap.get?_push_size _ rfl)
 have g3:IsPair k5 (s.heap.objs.size+2) (.ref s.heap.objs.size) (.ref (s.heap.objs.size+1)):=by
  have q:=u4 k2.objs.size _ (by rw[<- e3]; exact Heap.get?_push_size _ rfl);rw[n2] at q;exact q
 have g2:SI b2 k5 (s.heap.objs.size+1) l2 0:=by
  rw[<- n1];exact SI.of ⟨_,u3 _ _ (by rw[<- e2]; exact Heap.get?_push_size _ rfl),rfl,rfl⟩
 have g1:SI b1 k5 s.heap.objs.size l1 0:=SI.of ⟨_,u2 _ _ (by rw[<- e1]; exact Heap.get?_push_size _ rfl),rfl,rfl⟩;exact⟨⟨_,g5,rfl⟩,h k5 g5 g3 g4 g1 g2 u1⟩
end
end L2

namespace L2
open PySem PySem.Spec PyProof.Rows
def SqB(b:Bool)(K:PySem.W.Frag)(H:Hp)(l:Addr)(xs:List V):Prop:=match b with | true=>SqL K H l xs | false=>SqT K H l xs
theorem Inv.sqB{X:Cx}{pins:List (Addr×Obj)}{σ:St}{H:Hp}{s:Shared}{b:Bool}{l:Addr}{xs:List V}(I:Inv X pins σ H s)(h:SqB b X.K H l xs):∃ its:List Value,yL xs its/\SS b s.heap l its.toArray/\xs.length<=sizeLine:=by
 cases b with
 | true =>
  obtain⟨its,r,p,z⟩:=I.list h;exact⟨its,r,p.isList,z⟩
 | false =>
  obtain⟨its,r,p,z⟩:=I.tuple h;exact⟨its,r,p,z⟩
theorem Inv.sqB_inj{X:Cx}{pins:List (Addr×Obj)}{σ:St}{H:Hp}{s:Shared}{b:Bool}{l:Addr}{xs ys:List V}(I:Inv X pins σ H s)(h:SqB b X.K H l xs)(h':SqB b X.K H l ys):xs=ys:=by
 cases b with
 | true=>exact I.list_inj h h'
 | false=>exact I.tuple_inj h h'
def Itz(K:PySem.W.Frag)(b1 b2:Bool)(l1 l2:Addr):It :=
 ⟨λk H=>∃ xs ys x y,SqB b1 K H l1 xs/\SqB b2 K H l2 ys/\xs[k]?=some x/\ys[k]?=some y,
   λk H v H'=>∃ T x y,v=.ref T/\H T=none/\H'=upd H T (.tup [x,y])/\(∀ xs,SqB b1 K H l1 xs->xs[k]?=some x)/\(∀ ys,SqB b2 K H l2 ys->ys[k]?=some y),
   λk H=>∃ xs ys,SqB b1 K H l1 xs/\SqB b2 K H l2 ys/\(xs.length<=k\/ys.length<=k)⟩
theorem zM6{P:Program}{w:World}{K:PySem.W.Frag}{elts:List Expr}{kt:Nat}{pt:Pos}{b1 b2:Bool}{z TI TO i1 i2 l1 l2:Addr}(D:ZipApart z TI TO i1 i2 l1 l2) :
  zQ4 P w K (.Tuple elts kt pt) (Itz K b1 b2 l1 l2) [z,TI,TO,i1,i2] z (λk h=>IsZip h z TI TO .none/\IsPair h TI (.ref i1) (.ref i2)/\(∃ a b,IsPair h TO a b)/\SI b1 h i1 l1 k/\SI b2 h i2 l2 k) where
 mem:=by simp
 obj:=λk h st b hb=>by
  obtain⟨hz,hI,⟨a',b',hO⟩,h1,h2⟩:=st;obtain⟨o1,g1,_,d1⟩:=h1.obj;obtain⟨o2,g2,_,d2⟩:=h2.obj;simp only[List.mem_cons,List.not_mem_nil,or_false] at hb;rcases hb with rfl | rfl | rfl | rfl | rfl
  ·exact⟨_,hz,λv e=>by cases e⟩
  ·exact⟨_,hI,λv e=>by cases e⟩
  ·exact⟨_,hO,λv e=>by cases e⟩
  ·exact⟨_,g1,λv e=>by rw[d1] at e; cases e⟩
  ·exact⟨_,g2,λv e=>by rw[d2] at e; cases e⟩
 keep:=λk h h' st kp=>by
  obtain⟨hz,hI,⟨a',b',hO⟩,h1,h2⟩:=st;exact⟨kp z (by simp) _ hz,kp TI (by simp) _ hI,⟨a',b',kp TO (by simp) _ hO⟩,h1.at λo e=>kp i1 (by simp) o e,h2.at λo e=>kp i2 (by simp) o e⟩
 item:=by
  intro X hP hw hK hc k pins s σ H E I hf st hg;subst hP hw hK;obtain⟨hz,hI,⟨a',b',hO⟩,h1,h2⟩:=st;obtain⟨xs,ys,x,y,q1,q2,hx,hy⟩:=hg;obtain⟨its1,r1,p1,_⟩:=I.sqB q1;obtain⟨its2,r2,p2,_⟩:=I.sqB q2;obtain⟨u1,e1,v1⟩:=r1.get hx;obtain⟨u2,e2,v2⟩:=r2.get hy;have hT:s.TypeIs (.ref z) "zip" :=⟨_,hz,rfl⟩;have fresh:H s.heap.objs.size=none:=I.hok.fresh (Nat.le_refl _);unfold pyNext;refine wpAny_bind (wpAny_attempt (wpAny_callSpecial?_slot (name:=Str.ofString "__next__") hT F.slot_zip_next (wpAny_call_entry F.slot_zip_next hT F.entry_zip_next (zKi D hz hI hO h1 h2 p1 p2 (by simpa using e1) (by simpa using e2) λh' z1 o1 j1 j2 t1 kp=>wpAny_pure ?_) (F.args_zip_next_1 _))));refine⟨_,rfl,wpAny_letOwnedTupleGo_zip z1 λh2' z2 sb=>?_⟩;have kp2:∀ c o,c ∉ [z,TO,i1,i2]->s.heap.get? c=some o->h2'.get? c=some o:=λc o hc e=>by
   simp only[List.mem_cons,List.not_mem_nil,or_false,not_or] at hc;exact sb.extBut c o hc.1 (kp c o hc.1 hc.2.1 hc.2.2.1 hc.2.2.2 e)
  have nH:∀ c∈[z,TO,i1,i2],c∈[z,TI,TO,i1,i2]:=λc hc=>by
   simp only[List.mem_cons,List.not_mem_nil,or_false] at hc ⊢;rcases hc with e | e | e | e <;> simp[e]
  have neT:∀ b o,s.heap.get? b=some o->b≠s.heap.objs.size:=λb o e=>Nat.ne_of_lt (Heap.lt_size e);have neH:∀ b o,H b=some o->b ∉ [z,TO,i1,i2]:=λb o e hb=>by
   rw[(hf b (nH b hb)).1] at e;cases e
  have upn:∀ b o,H b=some o->upd H s.heap.objs.size (.tup [x,y]) b=some o:=λb o e=>by
   rw[zG (zH e fresh)];exact e
  refine⟨.ref s.heap.objs.size,upd H s.heap.objs.size (.tup [x,y]),?_,rfl,⟨_,x,y,rfl,fresh,rfl,λzs hz'=>by rw[I.sqB_inj hz' q1]; exact hx,λzs hz'=>by rw[I.sqB_inj hz' q2]; exact hy⟩,?_,λb hb=>?_⟩
  ·refine Inv.step (s:=s) (h':=h2') (g':=s.gens) (d':=s.drawn) (t':=s.toks) (ch:=[z,TO,i1,i2]) I (λb hb=>?_) (λb o _ _ hc e _=>kp2 b o hc e) (λb o _ _ hc e _=>⟨o.slots,kp2 b o hc e⟩) (λb o _ e n=>?_) (λb o hc e=>⟨o,kp2 b o hc e⟩)
    (λb zs e=>upn b _ e) (λb o zs e=>upn b _ e) (λb ps e=>⟨#[],by rw[upn b _ e]; simp⟩) (λm hm=>?_) (λb o e=>?_) I.bare
   ·obtain⟨_,f1,_,f3,f4,f5⟩:=hf b (nH b hb);exact⟨f3,f1,f4,f5⟩
   ·rw[zG (neT b o e)];exact n
   ·obtain⟨o,es,ep,ho,r⟩:=hm;refine⟨o,es,ep,kp2 _ o (λhb=>?_) ho,r⟩;exact(hf _ (nH _ hb)).2.1 rfl
   ·by_cases hb:b=s.heap.objs.size
    ·subst hb;rw[zA] at e;cases e;exact⟨by show 2<=sizeLine; decide,[u1,u2],.cons v1 (.cons v2 .nil),_,sb.extBut _ _ (Nat.ne_of_gt (Heap.lt_size hz)) t1,rfl,_,rfl⟩
    ·rw[zG hb] at e;refine(I.hok b o e).stay (λc u hc q=>kp2 c u ?_ q) (λc q=>upn c _ q) λc zs q=>upn c _ q;rcases hc with hc | hc
     ·rw[hc]; exact neH b o e
     ·exact neH c _ hc
  ·exact⟨z2,sb.extBut _ _ D.TIz (kp _ _ D.TIz D.TITO D.TIi1 D.TIi2 hI),⟨_,_,sb.extBut _ _ D.TOz o1⟩,j1.at λo e=>sb.extBut _ o D.i1z e,j2.at λo e=>sb.extBut _ o D.i2z e⟩
  ·obtain⟨o,e,_⟩:∃ o,s.heap.get? b=some o/\True:=by
    obtain⟨o1,g1,_⟩:=h1.obj;obtain⟨o2,g2,_⟩:=h2.obj;simp only[List.mem_cons,List.not_mem_nil,or_false] at hb;rcases hb with rfl | rfl | rfl | rfl | rfl
    ·exact⟨_,hz,trivial⟩
    ·exact⟨_,hI,trivial⟩
    ·exact⟨_,hO,trivial⟩
    ·exact⟨_,g1,trivial⟩
    ·exact⟨_,g2,trivial⟩
   rw[zG (neT b o e)];exact(hf b hb).1
 done:=by
  intro X hP hw hK hc k pins s σ H E I hf st hg;subst hP hw hK;obtain⟨hz,hI,⟨a',b',hO⟩,h1,h2⟩:=st;obtain⟨xs,ys,q1,q2,hend⟩:=hg;obtain⟨its1,r1,p1,_⟩:=I.sqB q1;obtain⟨its2,r2,p2,_⟩:=I.sqB q2;have hT:s.TypeIs (.ref z) "zip" :=⟨_,hz,rfl⟩;have hend':its1.toArray[k]?=none\/its2.toArray[k]?=none:=by
   have l1':=r1.length;have l2':=r2.length;rcases hend with h | h
   ·exact .inl (Array.getElem?_eq_none (by rw[List.size_toArray]; lia))
   ·exact .inr (Array.getElem?_eq_none (by rw[List.size_toArray]; lia))
  have nH:∀ c∈[z,TO,i1,i2],c∈[z,TI,TO,i1,i2]:=λc hc=>by
   simp only[List.mem_cons,List.not_mem_nil,or_false] at hc ⊢;rcases hc with e | e | e | e <;> simp[e]
  have neH:∀ b o,H b=some o->b ∉ [z,TO,i1,i2]:=λb o e hb=>by
   rw[(hf b (nH b hb)).1] at e;cases e
  unfold pyNext;refine wpAny_bind (wpAny_attempt (wpAny_callSpecial?_slot (name:=Str.ofString "__next__") hT F.slot_zip_next (wpAny_call_entry F.slot_zip_next hT F.entry_zip_next (zN6 (I.ok.hd hc) D hz hI hO h1 h2 p1 p2 hend' λh' e kp he=>?_) (F.args_zip_next_1 _))));obtain⟨oe,hoe,hce⟩:=he;refine wpAny_bind (wpAny_isInstance (T := "StopIteration") (b:=true) ⟨oe,hoe,hce⟩ isSubtype_stop (wpAny_pure ⟨rfl,?_⟩));have kp2:∀ c o,c ∉ [z,TO,i1,i2]->s.heap.get? c=some o->h'.get? c=some o:=λc o hc e=>by
   simp only[List.mem_cons,List.not_mem_nil,or_false,not_or] at hc;exact kp c o hc.1 hc.2.1 hc.2.2.1 hc.2.2.2 e
  refine I.step (g':=s.gens) (d':=s.drawn) (t':=s.toks) (ch:=[z,TO,i1,i2]) (λb hb=>?_) (λb o _ _ hc e _=>kp2 b o hc e) (λb o _ _ hc e _=>⟨o.slots,kp2 b o hc e⟩) (λb o _ e n=>n) (λb o hc e=>⟨o,kp2 b o hc e⟩)
   (λb zs e=>e) (λb o zs e=>e) (λb ps e=>⟨#[],by rw[e]; simp⟩) (λm hm=>?_) (λb o e=>?_) I.bare
  ·obtain⟨_,f1,_,f3,f4,f5⟩:=hf b (nH b hb);exact⟨f3,f1,f4,f5⟩
  ·obtain⟨o,es,ep,ho,r⟩:=hm;refine⟨o,es,ep,kp2 _ o (λhb=>?_) ho,r⟩;exact(hf _ (nH _ hb)).2.1 rfl
  ·refine(I.hok b o e).stay (λc u hc q=>kp2 c u ?_ q) (λc q=>q) λc zs q=>q;rcases hc with hc | hc
   ·rw[hc]; exact neH b o e
   ·exact neH c _ hc
 self:=λ_ _ _ _ _ st h=>wpAny_pyIter_zip st.1 h
section
variable{X:Cx}
def iZip(K:PySem.W.Frag)(ta:TA):TI:=λσ H R=>ta σ H λvs H1=>∃(b1 b2:Bool)(l1 l2:Addr)(xs ys:List V),vs=[.ref l1,.ref l2]/\SqB b1 K H1 l1 xs/\SqB b2 K H1 l2 ys/\R (Itz K b1 b2 l1 l2) H1
theorem zR5{elts:List Expr}{kt:Nat}{pt:Pos}{a b:Expr}{ta:TA}{p pos:Pos}(hg:Gl X "zip")(hm:X.mg "zip" = none)(ha:PA X [a,b] ta)(hs:starEach [a,b] X.env=[(false,eval a X.env),(false,eval b X.env)]:=by rfl)(hs2:starEach [b] X.env=[(false,eval b X.env)]:=by rfl) :
  PI X (.Tuple elts kt pt) (.Call (.Name "zip" p) [a,b] [] pos) (iZip X.K ta):=by
 intro pins s σ H R I h;refine Call_ (zG4 I hg hm zS0 (PyProof.Rows.callWith_type1 (thn (ha pos pins s σ H _ I h) λus s1 ⟨vs,H1,I1,r1,q1⟩=>?_) (by rw[hs,hs2]) (by rw[hs2]; rfl)));obtain⟨b1,b2,l1,l2,xs,ys,e,g1,g2,q⟩:=q1;subst e;obtain⟨u1,u2,rfl,v1,v2⟩:=yL.two r1;cases v1;cases v2;obtain⟨its1,_,p1,_⟩:=I1.sqB g1;obtain⟨its2,_,p2,_⟩:=I1.sqB g2;have a1:l1<s1.heap.objs.size:=by
  obtain⟨o,e,_⟩:=p1.obj;exact Heap.lt_size e
 have a2:l2<s1.heap.objs.size:=by
  obtain⟨o,e,_⟩:=p2.obj;exact Heap.lt_size e
 refine zJ9 p1 p2 λh' hz hI hO j1 j2 kp=>?_;refine wpAny_pyIter_zip hz ?_;refine⟨_,_,_,_,H1,rfl,I1.kept (t':=s1.toks) kp,zM6 (zipApart_new a1 a2),⟨hz,hI,⟨_,_,hO⟩,j1,j2⟩,λb hb=>?_,q⟩;have hge:s1.heap.objs.size<=b:=by
  simp only[List.mem_cons,List.not_mem_nil,or_false] at hb;rcases hb with rfl | rfl | rfl | rfl | rfl <;> lia
 exact I1.fpOk hge (I1.hok.fresh hge)
end
section
variable{K:PySem.W.Frag}{b1 b2:Bool}{l1 l2 D:Addr}{xs ys:List V}{g:TG}{tt:TT}{te:TE}{σ0:St}{H1:Hp}{Q:VK}
theorem zMl(Pv:Nat->St->List V->Hp->Prop)(h0:Pv 0 σ0 [] (upd H1 D (.lst [])))(hl:∀ i σ zs H,Pv i σ zs H->SqB b1 K H l1 xs/\SqB b2 K H l2 ys/\H D=some (.lst zs))
  (hs:∀ i x y T σ zs H,xs[i]?=some x->ys[i]?=some y->H T=none->Pv i σ zs H->g (.ref T) σ (upd H T (.tup [x,y])) λσ2 H2=>tt σ2 H2 λb H3 =>
   if b=true then te σ2 H3 λz H4=>H4 D=some (.lst zs)/\zs.length<sizeLine/\Pv (i+1) σ2 (zs++[z]) (upd H4 D (.lst (zs++[z]))) else Pv (i+1) σ2 zs H3)
  (hd:∀ σ zs H,Pv (min xs.length ys.length) σ zs H->Q (.ref D) H):zBz (Itz K b1 b2 l1 l2) D g tt te σ0 H1 Q:=by
 exists λi m σ zs H=>m=min xs.length ys.length-i/\i<=min xs.length ys.length/\Pv i σ zs H,⟨_,rfl,Nat.zero_le _,h0⟩;rintro i m σ zs H ⟨rfl,hi,p⟩;obtain⟨q1,q2,qd⟩:=hl i σ zs H p;exists qd;by_cases hlt:i<min xs.length ys.length
 ·have c1:i<xs.length:=by lia
  have c2:i<ys.length:=by lia
  refine .inr ⟨⟨xs,ys,xs[i],ys[i],q1,q2,by simp[c1],by simp[c2]⟩,Pv (i+1),λσ' zs' H' z=>⟨min xs.length ys.length-(i+1),by lia,rfl,hlt,z⟩,λv H' y=>?_⟩;obtain⟨T,x,y,rfl,hT,rfl,y1,y2⟩:=y;exact hs i x y T σ zs H (y1 xs q1) (y2 ys q2) hT p
 ·have e:i=min xs.length ys.length:=by lia
  subst e;exact .inl ⟨⟨xs,ys,q1,q2,by lia⟩,hd σ zs H p⟩
theorem zGx(Pv:Nat->St->List V->Hp->Prop)(h0:Pv 0 σ0 [] (upd H1 D (.lst [])))(hl:∀ i σ zs H,Pv i σ zs H->SqB b1 K H l1 xs/\SqB b2 K H l2 ys/\H D=some (.lst zs))
  (hs:∀ i x y T σ zs H,xs[i]?=some x->ys[i]?=some y->H T=none->Pv i σ zs H->g (.ref T) σ (upd H T (.tup [x,y])) λσ2 H2=>te σ2 H2 λz H4=>H4 D=some (.lst zs)/\zs.length<sizeLine/\Pv (i+1) σ2 (zs++[z]) (upd H4 D (.lst (zs++[z]))))
  (hd:∀ σ zs H,Pv (min xs.length ys.length) σ zs H->Q (.ref D) H):zBz (Itz K b1 b2 l1 l2) D g zQ6 te σ0 H1 Q:=zMl Pv h0 hl (λi x y T σ zs H e1 e2 e3 p=>hs i x y T σ zs H e1 e2 e3 p) hd
end
end L2

namespace L2
open PySem PySem.Spec PyProof.Rows
theorem ifD{p A B:Prop}[Decidable p](h1:p->A)(h2:¬ p->B):if decide p=true then A else B:=by
 by_cases h:p
 ·rw[if_pos (decide_eq_true h)]; exact h1 h
 ·rw[if_neg (by rw[decide_eq_false h]; exact Bool.false_ne_true)]; exact h2 h
theorem ifN{p A B:Prop}[Decidable p](h1:¬ p->A)(h2:p->B):if (!decide p)=true then A else B:=by
 by_cases h:p
 ·rw[if_neg (by rw[decide_eq_true h]; exact Bool.false_ne_true)]; exact h2 h
 ·rw[if_pos (by rw[decide_eq_false h]; rfl)]; exact h1 h
theorem ifE{x y:Int}{A B:Prop}(h1:x=y->A)(h2:x≠y->B):if decide (V.int x=V.int y)=true then A else B :=
 ifD (λh=>h1 (V.int.inj h)) λh=>h2 λe=>h (congrArg V.int e)
theorem ifNe{x y:Int}{A B:Prop}(h1:x≠y->A)(h2:x=y->B):if (!decide (V.int x=V.int y))=true then A else B :=
 ifN (λh=>h1 λe=>h (congrArg V.int e)) λh=>h2 (V.int.inj h)
theorem decI{x y:Int}(h:x=y):decide (V.int x=V.int y)=true:=decide_eq_true (congrArg V.int h)
theorem zC{H:Hp}{p:Addr}(h:H p=none)(o:HO):Same H (upd H p o):=λb u q=>by rw[zG (zH q h)]; exact q
theorem wQ{ns:List Int}{i:Nat}{x:V}(h:(ns.map V.int)[i]?=some x):∃ n,ns[i]?=some n/\x=.int n:=by
 rw[List.getElem?_map] at h;cases e:ns[i]? with
 | none=>rw[e] at h; cases h
 | some n=>rw[e] at h; exact⟨n,rfl,(Option.some.inj h).symm⟩
theorem qY{α:Type}{l:List α}{i:Nat}{x:α}(h:l[i]?=some x):l.take (i+1)=l.take i++[x]:=by
 rw[List.take_succ,h]; rfl
theorem SqT.same{K:PySem.W.Frag}{H H':Hp}{a:Addr}{xs:List V}(h:SqT K H a xs)(e:Same H H'):SqT K H' a xs:=by
 rcases h with h | h
 ·rcases h with h | ⟨o,h⟩
  ·exact .inl (.inl (e _ _ h))
  ·exact .inl (.inr ⟨o,e _ _ h⟩)
 ·exact .inr h
def zNj(t:TT):Prop:=∀(σ:St)(H:Hp)(Q Q':Bool->Hp->Prop),(∀ b H1,Q b H1->Q' b H1)->t σ H Q->t σ H Q'
def zFz(t:TE):Prop:=∀(σ:St)(H:Hp)(Q Q':VK),(∀ b H1,Q b H1->Q' b H1)->t σ H Q->t σ H Q'
def zNu(t:TA):Prop:=∀(σ:St)(H:Hp)(Q Q':List V->Hp->Prop),(∀ b H1,Q b H1->Q' b H1)->t σ H Q->t σ H Q'
def zSs(r:R2):Prop:=∀(x y:V)(H:Hp)(Q Q':VK),(∀ b H1,Q b H1->Q' b H1)->r x y H Q->r x y H Q'
def zSp(r:List V->Hp->VK->Prop):Prop:=∀(xs:List V)(H:Hp)(Q Q':VK),(∀ b H1,Q b H1->Q' b H1)->r xs H Q->r xs H Q'
theorem zFl{i:Nat} : zFz (zQ7 i):=λ_ _ _ _ hq ⟨v,e,z⟩=>⟨v,e,hq _ _ z⟩
theorem mo_c{v:V} : zFz (tC v):=λ_ _ _ _ hq z=>hq _ _ z
theorem zPf{r:R2}{ta tb:TE}(hr:zSs r)(ha:zFz ta)(hb:zFz tb):zFz (tOp r ta tb):=λσ _ _ _ hq z=>ha σ _ _ _ (λ_ _ z=>hb σ _ _ _ (λ_ _ z=>hr _ _ _ _ _ hq z) z) z
theorem zP6{g:Int->Int->V} : zSs (rI0 g):=λ_ _ _ _ _ hq ⟨i,j,e1,e2,z⟩=>⟨i,j,e1,e2,hq _ _ z⟩
theorem zHj{t:TE}(h:zFz t):zNj (zNy t):=λσ _ _ _ hq z=>h σ _ _ _ (λ_ _ ⟨k,e,z⟩=>⟨k,e,hq _ _ z⟩) z
theorem zSt{t u:TT}(h:zNj t)(h':zNj u):zNj (tAnd t u):=λσ _ _ _ hq z=>h σ _ _ _ (λb _ z=>by
 cases b with
 | true=>exact h' σ _ _ _ hq z
 | false=>exact hq _ _ z) z
theorem zOv:zNu zTg:=λ_ _ _ _ hq z=>hq _ _ z
theorem zKh{te:TE}{ta:TA}(h:zFz te)(h':zNu ta):zNu (zQj te ta):=λσ _ _ _ hq z=>h σ _ _ _ (λ_ _ z=>h' σ _ _ _ (λ_ _ z=>hq _ _ z) z) z
theorem zSr{r:List V->Hp->VK->Prop}{t:TA}(hr:zSp r)(h:zNu t):zFz (tCB r t):=λσ _ _ _ hq z=>h σ _ _ _ (λ_ _ z=>hr _ _ _ _ hq z) z
theorem zOm{K:PySem.W.Frag} : zSp (λxs H Q=>∃ p ys,xs=[.ref p]/\(SqL K H p ys\/SqT K H p ys)/\Q (.int ys.length) H):=λ_ _ _ _ hq ⟨p,ys,e,s,z⟩=>⟨p,ys,e,s,hq _ _ z⟩
theorem zDc(ns:List Int)(lo hi:Option Int):zDi (ns.map V.int) lo hi=((ns.drop (HT.sIx ns.length 0 lo)).take (HT.sIx ns.length ns.length hi-HT.sIx ns.length 0 lo)).map V.int:=by
 unfold zDi;rw[List.length_map,List.map_take,List.map_drop]
end L2

namespace L2
open PySem PySem.Spec PyProof.Rows
theorem zRp{A:Around}{s:Shared}{xs ys:List Int}{us ws:List Value}(r1:yL (xs.map V.int) us)(r2:yL (ys.map V.int) ws):∀ j (h1:j<us.toArray.size) (h2:j<ws.toArray.size),
  SeqAt.EqAt A s us.toArray[j] ws.toArray[j] (decide (xs[j]?=ys[j]?)):=λj h1 h2=>by
 have l1:=r1.length;have l2:=r2.length;rw[List.length_map] at l1 l2;have g1:j<us.length:=by simpa using h1
 have g2:j<ws.length:=by simpa using h2
 have k1:j<xs.length:=by lia
 have k2:j<ys.length:=by lia
 obtain⟨u,hu,t,ru⟩:=r1.get (i:=j) (x:=.int xs[j]) (by rw[List.getElem?_map,List.getElem?_eq_getElem k1]; rfl);obtain⟨w,hw,t',rw'⟩:=r2.get (i:=j) (x:=.int ys[j]) (by rw[List.getElem?_map,List.getElem?_eq_getElem k2]; rfl);have e1:us.toArray[j]=.int xs[j] t:=by
  have z:=List.getElem?_eq_getElem g1;rw[hu] at z;rw[List.getElem_toArray,<- Option.some.inj z,ru]
 have e2:ws.toArray[j]=.int ys[j] t':=by
  have z:=List.getElem?_eq_getElem g2;rw[hw] at z;rw[List.getElem_toArray,<- Option.some.inj z,rw']
 rw[e1,e2];have e3:decide (xs[j]?=ys[j]?)=(xs[j] == ys[j]):=by
  rw[List.getElem?_eq_getElem k1,List.getElem?_eq_getElem k2];by_cases h:xs[j]=ys[j]
  ·rw[h]; simp
  ·rw[decide_eq_false (λz=>h (Option.some.inj z))];exact(beq_eq_false_iff_ne.mpr h).symm
 rw[e3];exact SeqAt.EqAt.int_int _ _ _ _
theorem zPm{xs ys:List Int} : ((List.range (min xs.length ys.length)).all (λj=>decide (xs[j]?=ys[j]?))&&xs.length == ys.length)=decide (xs=ys):=by
 by_cases h:xs=ys
 ·subst h;rw[decide_eq_true rfl,Bool.and_eq_true];exact⟨List.all_eq_true.mpr λj _=>decide_eq_true rfl,by simp⟩
 ·rw[decide_eq_false h,Bool.and_eq_false_iff];by_cases hl:xs.length=ys.length
  ·left;rw[Bool.eq_false_iff];intro z;apply h;rw[List.all_eq_true] at z;refine List.ext_getElem? λj=>?_;by_cases hj:j<xs.length
   ·exact of_decide_eq_true (z j (List.mem_range.mpr (by lia)))
   ·rw[List.getElem?_eq_none (by lia),List.getElem?_eq_none (by lia)]
  ·right;exact beq_eq_false_iff_ne.mpr hl
section
variable{X:Cx}
def rEqT(K:PySem.W.Frag)(neg:Bool):R2:=λx y H Q=>∃(a b:Addr)(xs ys:List Int),x=.ref a/\y=.ref b/\SqT K H a (xs.map V.int)/\SqT K H b (ys.map V.int)/\Q (.bl (if neg then !decide (xs=ys) else decide (xs=ys))) H
theorem zKq(hu:X.A.units<cLine):OpR X (compareOp .Eq) (rEqT X.K false):=by
 intro pins s σ H x y v u Q I rx ry h;obtain⟨a,b,xs,ys,rfl,rfl,h1,h2,q⟩:=h;cases rx;cases ry;obtain⟨us,r1,p1,_⟩:=I.tuple h1;obtain⟨ws,r2,p2,_⟩:=I.tuple h2;refine SeqAt.eq_tupleAt (e:=λj=>decide (xs[j]?=ys[j]?)) (show s.heap.IsTuple a us.toArray from p1) (show s.heap.IsTuple b ws.toArray from p2) hu (zRp r1 r2) ?_;have l1:=r1.length;have l2:=r2.length;rw[List.length_map] at l1 l2;rw[List.size_toArray,List.size_toArray,<- l1,<- l2,zPm];exact⟨.bl (decide (xs=ys)),H,I,rfl,q⟩
end
end L2
namespace L2
open PySem
theorem xW{rows:List Int}{P:Int->Prop}(bd:∀ x∈rows,P x){k:Int}(k0:0<=k)(k1:k<rows.length):∃ v:Int,atI (rows.map V.int) k=some (.int v)/\P v:=by
 have hk:k.toNat<rows.length:=by lia
 refine⟨rows[k.toNat],?_,bd _ (List.getElem_mem hk)⟩;have q:atI (rows.map V.int) ((k.toNat:Nat):Int)=some (.int rows[k.toNat]):=zEm (by rw[List.getElem?_map,List.getElem?_eq_getElem hk] <;> rfl);rw[show((k.toNat:Nat):Int)=k from by lia] at q;exact q
end L2
namespace L2
end L2

namespace L2
open PySem PySem.Spec PyProof.Rows
end L2

namespace L2
open PySem PySem.Spec PyProof.Rows
end L2

namespace L2
open PySem PySem.Spec PyProof.Rows
theorem Same.putNew{H H4:Hp}{D:Addr}{o:HO}(s:Same H H4)(h:H D=none):Same H (upd H4 D o):=λb u q=>by
 rw[zG (zH q h)];exact s _ _ q
abbrev Pr:=Addr×Int×Int
abbrev zOj(ps:List Pr):List V:=(ps.map (·.1)).map V.ref
def PrOk(H:Hp)(M:Nat)(ps:List Pr):Prop:=∀ t∈ps,H t.1=some (.tup [.int t.2.1,.int t.2.2])/\t.2.1.natAbs<=M/\t.2.2.natAbs<=M
end L2

namespace L2
open PySem PySem.Spec PyProof.Rows PySem.W
theorem zGy:∀ rs:List Addr,yL (rs.map V.ref) (rs.map Value.ref)
 | []=>.nil
 | _::rs=>.cons rfl (zGy rs)
section
variable{X:Cx}
theorem sW:bootBuiltins "sorted" = some (.builtin "sorted"):=by decide +kernel
end
end L2
namespace L2
open PySem PySem.Spec PyProof.Rows
end L2

namespace L2
open PySem PySem.Spec PyProof.Rows
section
variable{κ:Type}[DecidableEq κ]
def vA(kvs:List (κ×V))(k:κ):Option V:=(kvs.find? λkv=>decide (kv.1=k)).map (·.2)
def tL(kvs:List (κ×V))(k:κ)(v:V):List (κ×V) :=
 if (kvs.any λkv=>decide (kv.1=k))=true then kvs.map (λkv=>if kv.1=k then(kv.1,v) else kv) else kvs++[(k,v)]
def zJx(kvs:List (κ×V))(k:κ):List (κ×V):=kvs.filter λkv=>decide (kv.1≠k)

theorem xR{p:κ×V}{r:List (κ×V)}{k:κ}(e:p.1=k):vA (p::r) k=some p.2:=by simp[vA,List.find?_cons,e]
theorem xC{p:κ×V}{r:List (κ×V)}{k:κ}(e:¬ p.1=k):vA (p::r) k=vA r k:=by simp[vA,List.find?_cons,e]
theorem zBv(k:κ):∀ kvs:List (κ×V),(kvs.any λkv=>decide (kv.1=k))=(vA kvs k).isSome
 | []=>rfl
 | p::r=>by
  rw[List.any_cons];by_cases e:p.1=k
  ·simp only[xR e,decide_eq_true e,Bool.true_or,Option.isSome_some]
  ·rw[xC e,decide_eq_false e,Bool.false_or]; exact zBv k r
theorem zIu(k j:κ)(y:V):∀ kvs:List (κ×V),vA (kvs.map λkv=>if kv.1=k then(kv.1,y) else kv) j=(vA kvs j).map λx=>if j=k then y else x
 | []=>rfl
 | p::r=>by
  have ih:=zIu k j y r;rw[List.map_cons];by_cases h:p.1=k
  ·rw[if_pos h];by_cases e:p.1=j
   ·rw[xR (p:=(p.1,y)) e,xR e,Option.map_some,if_pos (e.symm.trans h)]
   ·rw[xC (p:=(p.1,y)) e,xC e,ih]
  ·rw[if_neg h];by_cases e:p.1=j
   ·rw[xR (p:=p) e,xR e,Option.map_some,if_neg (λz=>h (e.trans z))]
   ·rw[xC (p:=p) e,xC e,ih]
theorem zF5(k j:κ)(y:V):∀ kvs:List (κ×V),vA kvs k=none->vA (kvs++[(k,y)]) j=if j=k then some y else vA kvs j
 | [],_=>by
  by_cases e:k=j
  ·rw[if_pos e.symm]; exact xR (p:=(k,y)) e
  ·rw[if_neg (λz=>e z.symm)]; exact xC (p:=(k,y)) e
 | p::r,hn=>by
  rw[List.cons_append];have hk:¬ p.1=k:=λz=>by rw[xR z] at hn; cases hn
  rw[xC hk] at hn;have ih:=zF5 k j y r hn;by_cases e:p.1=j
  ·rw[xR e,xR e,if_neg (λz=>hk (e.trans z))]
  ·rw[xC e,xC e,ih]
theorem zE1(kvs:List (κ×V))(k j:κ)(y:V):vA (tL kvs k y) j=if j=k then some y else vA kvs j:=by
 unfold tL;by_cases a:(kvs.any λkv=>decide (kv.1=k))=true
 ·rw[if_pos a,zIu];rw[zBv] at a;by_cases e:j=k
  ·obtain⟨x,hx⟩:=Option.isSome_iff_exists.mp a;rw[if_pos e,e,hx,Option.map_some,if_pos rfl]
  ·rw[if_neg e];cases vA kvs j with
   | none=>rfl
   | some x=>rw[Option.map_some,if_neg e]
 ·rw[if_neg a];refine zF5 k j y kvs ?_;rw[zBv] at a;cases q:vA kvs k with
  | none=>rfl
  | some x=>rw[q] at a; exact(a rfl).elim
theorem tQ(kvs:List (κ×V))(k:κ)(v:V):(tL kvs k v).length<=kvs.length+1:=by
 unfold tL;split
 ·rw[List.length_map]; lia
 ·rw[List.length_append,List.length_cons,List.length_nil]; lia
theorem zFi.isSome_eq{o:Option V}{u:Option Value}(r:zFi o u):o.isSome=u.isSome:=by
 cases o with
 | none=>cases u with
  | none=>rfl
  | some _=>exact(show False from r).elim
 | some _=>cases u with
  | none=>exact(show False from r).elim
  | some _=>rfl
theorem KV.val{kvs:List (κ×V)}{vs:List (κ×Value)}(r:KV kvs vs)(k:κ):zFi (vA kvs k) (valueAt vs k):=by
 unfold KV at r
 induction r with
 | nil=>exact True.intro
 | @cons p q ps qs h t ih =>
  obtain⟨h1,h2⟩:=h;by_cases e:p.1=k
  ·have e':q.1=k:=h1.symm.trans e;have b:valueAt (q::qs) k=some q.2:=by simp[valueAt,List.find?_cons,e']
   rw[xR e,b]; exact h2
  ·have e':¬ q.1=k:=λz=>e (h1.trans z);have b:valueAt (q::qs) k=valueAt qs k:=by simp[valueAt,List.find?_cons,e']
   rw[xC e,b]; exact ih
theorem KV.any{kvs:List (κ×V)}{vs:List (κ×Value)}(r:KV kvs vs)(k:κ):(kvs.any λkv=>decide (kv.1=k))=vs.any λkv=>decide (kv.1=k):=by
 unfold KV at r
 induction r with
 | nil=>rfl
 | cons h t ih=>rw[List.any_cons,List.any_cons,ih,h.1]
theorem KV.repl{kvs:List (κ×V)}{vs:List (κ×Value)}(r:KV kvs vs)(k:κ){y:V}{u:Value}(ry:yQ y u) :
  KV (kvs.map λkv=>if kv.1=k then(kv.1,y) else kv) (vs.map λkv=>if kv.1=k then(kv.1,u) else kv):=by
 unfold KV at r ⊢
 induction r with
 | nil=>exact .nil
 | @cons p q ps qs h t ih =>
  rw[List.map_cons,List.map_cons];refine .cons ?_ ih;obtain⟨h1,h2⟩:=h;by_cases e:p.1=k
  ·rw[if_pos e,if_pos (h1.symm.trans e)]; exact⟨h1,ry⟩
  ·rw[if_neg e,if_neg (λz=>e (h1.trans z))]; exact⟨h1,h2⟩
theorem KV.put{kvs:List (κ×V)}{vs:List (κ×Value)}(r:KV kvs vs)(k:κ){y:V}{u:Value}(ry:yQ y u):KV (tL kvs k y) (stored vs k u):=by
 unfold tL stored;rw[r.any k];by_cases e:(vs.any λkv=>decide (kv.1=k))=true
 ·rw[if_pos e,if_pos e]; exact r.repl k ry
 ·rw[if_neg e,if_neg e]; exact Paired.snoc r ⟨rfl,ry⟩
theorem KV.drop{kvs:List (κ×V)}{vs:List (κ×Value)}(r:KV kvs vs)(k:κ):KV (zJx kvs k) (without vs k):=by
 unfold KV at r ⊢;unfold zJx without
 induction r with
 | nil=>exact .nil
 | @cons p q ps qs h t ih =>
  obtain⟨h1,h2⟩:=h;rw[List.filter_cons,List.filter_cons];by_cases e:p.1=k
  ·have a:¬ decide (p.1≠k)=true:=by simp[e]
   have b:¬ decide (q.1≠k)=true:=by simp[h1.symm.trans e]
   rw[if_neg a,if_neg b]; exact ih
  ·have e':¬ q.1=k:=λz=>e (h1.trans z);have a:decide (p.1≠k)=true:=by simp[e]
   have b:decide (q.1≠k)=true:=by simp[e']
   rw[if_pos a,if_pos b]; exact .cons ⟨h1,h2⟩ ih
theorem KV.length{kvs:List (κ×V)}{vs:List (κ×Value)}(r:KV kvs vs):kvs.length=vs.length:=Paired.length r
theorem zIl(kvs:List (κ×V))(k:κ):(zJx kvs k).length<=kvs.length:=List.length_filter_le _ _
end


theorem zEy{P:Program}{w:World}{k:Key}{u:Value}(r:yQ (kV k) u):(yI P w).is k u=true:=by
 cases k with
 | inl i=>obtain⟨t,e⟩:=(show ∃ t,u=Value.int i t from r); subst e; exact zHd P w i t
 | inr x=>obtain⟨t,e⟩:=(show ∃ t,u=Value.str x t from r); subst e; exact rT P w x t
theorem zFm{P:Program}{w:World} : ∀{ks:List Key}{us:List Value},yL (ks.map kV) us->ItemsAre (yI P w) ks us
 | [],_,r=>by rw[List.map_nil] at r; cases r; exact .nil
 | k::ks,_,r=>by
  rw[List.map_cons] at r;cases r with
  | cons h t=>exact .cons (zEy h) (zFm t)

abbrev KT(H:Hp):List (List Key×V)->List (List Key×Addr×Value)->Prop:=Paired λp q=>p.1=q.1/\H q.2.1=some (.tup (p.1.map kV))/\yQ p.2 q.2.2
theorem KT.val{H:Hp}{kvs:List (List Key×V)}{xs:List (List Key×Addr×Value)}(r:KT H kvs xs)(k:List Key):zFi (vA kvs k) ((atKey xs k).map (·.2)):=by
 induction r with
 | nil=>exact True.intro
 | @cons p q ps qs h t ih =>
  obtain⟨h1,_,h2⟩:=h;by_cases e:p.1=k
  ·have e':q.1=k:=h1.symm.trans e;have b:atKey (q::qs) k=some q.2:=by simp[atKey,List.find?_cons,e']
   rw[xR e,b]; exact h2
  ·have e':¬ q.1=k:=λz=>e (h1.trans z);have b:atKey (q::qs) k=atKey qs k:=by simp[atKey,List.find?_cons,e']
   rw[xC e,b]; exact ih
theorem KT.repl{H:Hp}{kvs:List (List Key×V)}{xs:List (List Key×Addr×Value)}(r:KT H kvs xs)(k:List Key){y:V}{u:Value}(ry:yQ y u) :
  KT H (kvs.map λkv=>if kv.1=k then(kv.1,y) else kv) (xs.map (putAt k u)):=by
 induction r with
 | nil=>exact .nil
 | @cons p q ps qs h t ih =>
  rw[List.map_cons,List.map_cons];refine .cons ?_ ih;obtain⟨h1,h2,h3⟩:=h;unfold putAt;by_cases e:p.1=k
  ·rw[if_pos e,if_pos (h1.symm.trans e)]; exact⟨h1,h2,ry⟩
  ·rw[if_neg e,if_neg (λz=>e (h1.trans z))]; exact⟨h1,h2,h3⟩
theorem KT.put{H:Hp}{kvs:List (List Key×V)}{xs:List (List Key×Addr×Value)}(r:KT H kvs xs)(k:List Key){b:Addr}{y:V}{u:Value}(hb:H b=some (.tup (k.map kV)))(ry:yQ y u) :
  KT H (tL kvs k y) (storedH xs k b u):=by
 have e:(kvs.any λkv=>decide (kv.1=k))=(atKey xs k).isSome:=by
  rw[zBv,(r.val k).isSome_eq,Option.isSome_map]
 unfold tL storedH;rw[e];by_cases q:(atKey xs k).isSome=true
 ·rw[if_pos q,if_pos q]; exact r.repl k ry
 ·rw[if_neg q,if_neg q]; exact Paired.snoc r ⟨rfl,hb,ry⟩
theorem KT.keeps{H H':Hp}{kvs:List (List Key×V)}{xs:List (List Key×Addr×Value)}(r:KT H kvs xs)(ht:∀ b ys,H b=some (.tup ys)->H' b=some (.tup ys)):KT H' kvs xs :=
 Paired.mapP r λ_ _ z=>⟨z.1,ht _ _ z.2.1,z.2.2⟩

section
variable{P:Program}{w:World}{H:Hp}{h:Heap}{a:Addr}
theorem zRo{u:HO}(ok:HOk P w H h)(e:Rd H a u):yZ P w H h a u:=e.ok ok
theorem zFb{kvs:List (Key×V)}(ok:HOk P w H h)(e:Rd H a (.dK kvs)):kvs.length<=sizeLine/\(a == sysModules)=false/\∃ vs,KV kvs vs/\h.DictOf (yI P w) a vs :=
 show yZ P w H h a (.dK kvs) from zRo ok e
theorem zNw{kvs:List (Key×V)}(ok:HOk P w H h)(e:H a=some (.dK kvs)):kvs.length<=sizeLine/\(a == sysModules)=false/\∃ vs,KV kvs vs/\h.DictOf (yI P w) a vs:=zFb ok (.inl e)
theorem zFj{ks:List Key}(ok:HOk P w H h)(e:H a=some (.tup (ks.map kV))):(tupleKind (yI P w)).is h ks a:=by
 obtain⟨_,its,r,o,h1,h2,n,h3⟩:=(show yZ P w H h a (.tup (ks.map kV)) from ok a _ e);exact⟨o,its.toArray,n,h1,h2,h3,by simpa using zFm r⟩
theorem zJu{kvs:List (List Key×V)}(ok:HOk P w H h)(e:Rd H a (.dT kvs)):kvs.length<=sizeLine/\(a == sysModules)=false /\
  ∃ xs,KT H kvs xs/\h.DictOfH (tupleKind (yI P w)) a xs:=by
 obtain⟨z,y,xs,r,o,es,ep,h1,h2,h3,h4,h5⟩:=(show yZ P w H h a (.dT kvs) from zRo ok e);refine⟨z,y,xs,r,o,es,ep,h1,h2,h3,h4,λx hx=>?_,h5⟩;have all:∀{l:List (List Key×V)}{m:List (List Key×Addr×Value)},KT H l m->∀ x∈m,(tupleKind (yI P w)).is h x.1 x.2.1:=by
  intro l m q
  induction q with
  | nil=>intro x hx; exact nomatch hx
  | @cons p q ps qs hq t ih =>
   intro x hx;rcases List.mem_cons.mp hx with e | hx
   ·subst e;exact zFj ok (by rw[<- hq.1]; exact hq.2.1)
   ·exact ih x hx
 exact all r x hx
theorem dt_of{kvs:List (List Key×V)}(ok:HOk P w H h)(e:H a=some (.dT kvs)):kvs.length<=sizeLine/\(a == sysModules)=false /\
  ∃ xs,KT H kvs xs/\h.DictOfH (tupleKind (yI P w)) a xs:=zJu ok (.inl e)
end

def zMb(H:Hp)(a:Addr)(y:V)(r:Option V):Prop :=
 (∃ kvs k,Rd H a (.dK kvs)/\y=kV k/\r=vA kvs k)\/∃ kvs k b,Rd H a (.dT kvs)/\y=.ref b/\H b=some (.tup (k.map kV))/\r=vA kvs k
def zG7(H:Hp)(a:Addr)(y v:V)(H':Hp):Prop :=
 (∃ kvs k,H a=some (.dK kvs)/\y=kV k/\kvs.length<sizeLine/\H'=upd H a (.dK (tL kvs k v))) \/
 ∃ kvs k b,H a=some (.dT kvs)/\y=.ref b/\H b=some (.tup (k.map kV))/\kvs.length<sizeLine/\H'=upd H a (.dT (tL kvs k v))
theorem zG7.k{H:Hp}{a:Addr}{kvs:List (Key×V)}{k:Key}{v:V}(e:H a=some (.dK kvs))(hl:kvs.length<sizeLine):zG7 H a (kV k) v (upd H a (.dK (tL kvs k v))):=.inl ⟨kvs,k,e,rfl,hl,rfl⟩
section
variable{X:Cx}{pins:List (Addr×Obj)}{σ:St}{H:Hp}{s:Shared}{a:Addr}{y v:V}{u r:Value}{o:Option V}{A:Around}{E:Value->Shared->Prop}

theorem Inv.big(I:Inv X pins σ H s):sysModules<s.heap.objs.size:=by
 have h:mainGlobals<s.heap.objs.size:=(I.mod.glob.keeps I.bk).lt;exact Nat.lt_trans (by decide) h

theorem zLx{Q:Value->Shared->Prop}(hu:A.units+1<cLine)(I:Inv X pins σ H s)(g:zMb H a y (some v))(ry:yQ y u)(h:∀ w' s',Inv X pins σ H s'->yQ v w'->Q w' s') :
  wpAny (model X.prog X.w) A (getItem (.ref a) u) Q E s:=by
 rcases g with ⟨kvs,k,e,ey,l⟩ | ⟨kvs,k,b,e,ey,eb,l⟩
 ·subst ey;obtain⟨z,hd,vs,rel,dd⟩:=zFb I.hok e;obtain⟨w',hw,rw'⟩:=zFi.some_of (v:=v) (o:=valueAt vs k) (by rw[l]; exact rel.val k);exact wpAny_getItem_of (zEy ry) dd.mapOf hw (h w' _ (I.tok _) rw')
 ·subst ey;cases (show u=Value.ref b from ry);obtain⟨z,hd,xs,rel,dd⟩:=zJu I.hok e;obtain⟨w',hw,rw'⟩:=zFi.some_of (v:=v) (o:=(atKey xs k).map (·.2)) (by rw[l]; exact rel.val k);obtain⟨p,hp,hp2⟩:=Option.map_eq_some_iff.mp hw;refine wpAny_getItem_heap (tupleKind_room_in1 hu) (zFj I.hok eb) dd hp ?_;rw[hp2];exact h w' _ (I.tok _) rw'
theorem d_in{Q:Value->Shared->Prop}(hu:A.units+1<cLine)(I:Inv X pins σ H s)(g:zMb H a y o)(ry:yQ y u)(h:∀ s',Inv X pins σ H s'->Q (.bool o.isSome) s') :
  wpAny (model X.prog X.w) A (compareOp .In u (.ref a)) Q E s:=by
 rcases g with ⟨kvs,k,e,ey,l⟩ | ⟨kvs,k,b,e,ey,eb,l⟩
 ·subst ey;obtain⟨z,hd,vs,rel,dd⟩:=zFb I.hok e;refine wpAny_in_of (zEy ry) hd dd.mapOf ?_;rw[<- (rel.val k).isSome_eq,<- l];exact h _ (I.tok _)
 ·subst ey;cases (show u=Value.ref b from ry);obtain⟨z,hd,xs,rel,dd⟩:=zJu I.hok e;refine wpAny_in_heap (tupleKind_room_in1 hu) (zFj I.hok eb) hd dd ?_;have q:=(rel.val k).isSome_eq;rw[Option.isSome_map] at q;rw[<- q,<- l];exact h _ (I.tok _)
theorem zQb{Q:Value->Shared->Prop}(hu:A.units+1<cLine)(I:Inv X pins σ H s)(g:zMb H a y o)(ry:yQ y u)(h:∀ s',Inv X pins σ H s'->Q (.bool (!o.isSome)) s') :
  wpAny (model X.prog X.w) A (compareOp .NotIn u (.ref a)) Q E s:=by
 rcases g with ⟨kvs,k,e,ey,l⟩ | ⟨kvs,k,b,e,ey,eb,l⟩
 ·subst ey;obtain⟨z,hd,vs,rel,dd⟩:=zFb I.hok e;refine wpAny_notIn_of (zEy ry) hd dd.mapOf ?_;rw[<- (rel.val k).isSome_eq,<- l];exact h _ (I.tok _)
 ·subst ey;cases (show u=Value.ref b from ry);obtain⟨z,hd,xs,rel,dd⟩:=zJu I.hok e;refine wpAny_notIn_heap (tupleKind_room_in1 hu) (zFj I.hok eb) hd dd ?_;have q:=(rel.val k).isSome_eq;rw[Option.isSome_map] at q;rw[<- q,<- l];exact h _ (I.tok _)
theorem zC7{h':Heap}{t':Nat}{ob:HO}(I:Inv X pins σ H s)(mu:Mut (H a))(hs:Heap.SameBut a s.heap h')(he:∃ q,h'.get? a=some q)(new:yZ X.prog X.w (upd H a ob) h' a ob) :
  Inv X pins σ (upd H a ob) { s with heap:=h',toks:=t' } :=
 I.write (x:=a) (e:=a) mu (.inl rfl) (λb q hb z=>(hs.2 b hb).trans z) he new
theorem zG5{P:Program}{w:World}{H':Hp}{h':Heap}{kvs:List (Key×V)}{vs:List (Key×Value)}(z:kvs.length<=sizeLine)(hd:(a == sysModules)=false)(rel:KV kvs vs)(dd:h'.DictOf (yI P w) a vs) :
  yZ P w H' h' a (.dK kvs):=⟨z,hd,vs,rel,dd⟩
theorem zLh{H':Hp}{Q:Unit->Shared->Prop}(hu:A.units+1<cLine)(I:Inv X pins σ H s)(g:zG7 H a y v H')(ry:yQ y u)(rv:yQ v r)(h:∀ s',Inv X pins σ H' s'->Q () s') :
  wpAny (model X.prog X.w) A (setItem (.ref a) u r) Q E s:=by
 rcases g with ⟨kvs,k,e,ey,l,eH⟩ | ⟨kvs,k,b,e,ey,eb,l,eH⟩
 ·subst ey eH;obtain⟨z,hd,vs,rel,dd⟩:=zNw I.hok e;have hz:vs.length<=sizeLine:=by rw[<- rel.length]; exact z
  have hl:(tL kvs k v).length<=sizeLine:=by have:=tQ kvs k v; lia
  refine wpAny_setItem_pairs (hsz:=hz) (zEy ry) dd λh' dd' hs=>h _ ?_;have he:∃ q,h'.get? a=some q:=let ⟨q,_,_,hq,_⟩:=dd';⟨q,hq⟩;exact zC7 I (by rw[e]; exact True.intro) hs he (zG5 hl hd (rel.put k rv) dd')
 ·subst ey eH;cases (show u=Value.ref b from ry);obtain⟨z,hd,xs,rel,dd⟩:=dt_of I.hok e;have hz:xs.length<=sizeLine:=by rw[<- Paired.length rel]; exact z
  have hl:(tL kvs k v).length<=sizeLine:=by have:=tQ kvs k v; lia
  refine wpAny_setItem_heap (hsz:=hz) (tupleKind_room_in1 hu) (zFj I.hok eb) dd λh' dd' hs=>h _ ?_;obtain⟨q,es,ep,hq,h2,h3,h4,_,h5⟩:=dd';refine zC7 I (by rw[e]; exact True.intro) hs ⟨q,hq⟩ ⟨hl,hd,_,(rel.put k eb rv).keeps λc ys ec=>?_,q,es,ep,hq,h2,h3,h4,h5⟩;rw[zG (zS1 ec e (λz=>nomatch z))];exact ec
end

section
variable{X:Cx}{pins:List (Addr×Obj)}{σ:St}{H:Hp}{s:Shared}{a:Addr}{kvs:List (Key×V)}{k:Key}{u:Value}{A:Around}{E:Value->Shared->Prop}
theorem zTd{Q:Unit->Shared->Prop}(I:Inv X pins σ H s)(e:H a=some (.dK kvs))(ry:yQ (kV k) u)(l:(vA kvs k).isSome=true)(h:∀ s',Inv X pins σ (upd H a (.dK (zJx kvs k))) s'->Q () s') :
  wpAny (model X.prog X.w) A (delItem (.ref a) u) Q E s:=by
 obtain⟨z,hd,vs,rel,dd⟩:=zNw I.hok e;refine wpAny_delItem_slot dd.typeIs (by decide) PySem.F.slot_dict_delitem
  (call_meetsIn PySem.F.slot_dict_delitem dd.typeIs PySem.F.entry_dict_delitem (PySem.F.args_dict_delitem_2 _ _) (meets_dict_delitem_pairs (yI X.prog X.w) a (zEy ry)) ⟨vs,dd,by rw[<- rel.length]; exact z,by rw[<- (rel.val k).isSome_eq]; exact l,λh' dd' hs=>h _ ?_⟩)
 have he:∃ q,h'.get? a=some q:=let ⟨q,_,_,hq,_⟩:=dd';⟨q,hq⟩;exact zC7 I (by rw[e]; exact True.intro) hs he (zG5 (Nat.le_trans (zIl kvs k) z) hd (rel.drop k) dd')
theorem d_pop{v:V}{more:List Value}{Q:Value->Shared->Prop}(I:Inv X pins σ H s)(e:H a=some (.dK kvs))(ry:yQ (kV k) u)(l:vA kvs k=some v)(hm:more=[]\/∃ x,more=[x])
  (h:∀ w' s',Inv X pins σ (upd H a (.dK (zJx kvs k))) s'->yQ v w'->Q w' s'):wpAny (model X.prog X.w) A (call (.builtin "dict.pop") (.ref a::u::more)) Q E s:=by
 obtain⟨z,hd,vs,rel,dd⟩:=zNw I.hok e;obtain⟨w',hw,rw'⟩:=zFi.some_of (v:=v) (o:=valueAt vs k) (by rw[<- l]; exact rel.val k);have hp:(keyPart u).isSome=true:=by
  cases k with
  | inl i=>obtain⟨t,q⟩:=(show ∃ t,u=Value.int i t from ry); subst q; rfl
  | inr x=>obtain⟨t,q⟩:=(show ∃ t,u=Value.str x t from ry); subst q; rfl
 have ha:argsOk "dict.pop" ⟨.ref a::u::more,[]⟩:=by
  rcases hm with q | ⟨x,q⟩
  ·subst q; exact PySem.F.args_dict_pop_2 _ _
  ·subst q; exact PySem.F.args_dict_pop_3 _ _ _
 refine call_meetsIn PySem.F.slot_dict_pop dd.typeIs PySem.F.entry_dict_pop ha (meets_dict_pop_there (yI X.prog X.w) a (zEy ry) more hm hp)
  ⟨vs,w',dd,by rw[<- rel.length]; exact z,hw,λh' dd' hs=>h w' _ ?_ rw'⟩
 have he:∃ q,h'.get? a=some q:=let ⟨q,_,_,hq,_⟩:=dd';⟨q,hq⟩;exact zC7 I (by rw[e]; exact True.intro) hs he (zG5 (Nat.le_trans (zIl kvs k) z) hd (rel.drop k) dd')
theorem d_len{Q:Value->Shared->Prop}(I:Inv X pins σ H s)(e:Rd H a (.dK kvs))(h:∀ t s',Inv X pins σ H s'->Q (.int kvs.length t) s'):wpAny (model X.prog X.w) A (call (.builtin "len") [.ref a]) Q E s:=by
 obtain⟨z,hd,vs,rel,dd⟩:=zFb I.hok e;refine call_len_dict hd dd (by rw[<- rel.length]; rw[sizeLine_eq] at z; lia) ?_;rw[<- rel.length];exact h _ _ (I.tok _)
end


def zTj(i:Expr):Prop:=∀ ov iv,subscripted i false ov iv=operate [ov,iv] (getItem ov iv)
theorem zHk{prog:Program}{w:World}{A:Around}{E:Value->Shared->Prop}{s:Shared}{env:Env}{value slice:Expr}{pos:Pos}{T id:String}{Q:Value->Shared->Prop}
  (hl:typeLookup (.type T) "__getitem__" = pure (some (.builtin id))) (hs:zTj slice)
  (h:wpAny (model prog w) A (eval value env) (λo s₁=>wpAny (model prog w) A (eval slice env) (λi s₂=>s₂.TypeIs o T/\wpAny (model prog w) A (getItem o i) Q E s₂) E s₁) E s) :
  wpAny (model prog w) A (eval (.Subscript value slice pos) env) Q E s:=by
 refine Subscript_ (wpAny_mono h (λo s₁ h₁=>wpAny_mono h₁ (λi s₂ h₂=>?_) λ_ _ x=>x) λ_ _ x=>x);obtain⟨hT,h₂⟩:=h₂;unfold subscriptTail;refine wpAny_bind ?_;rw[getitemInPython_of_ne hT.not_modules];refine wpAny_bind (wpAny_specialOf hT hl ?_);have fin:wpAny (model prog w) A (subscripted slice false o i) (λr s₃=>wpAny (model prog w) A (letTemporaryGo value o r >>= λ_=>pure r) Q E s₃) E s₂:=by
  rw[hs o i];exact wpAny_operating (wpAny_mono h₂ (λr s₃ h₃=>wpAny_bind (wpAny_letTemporaryGo (wpAny_pure h₃))) λ_ _ x=>x)
 first
  | exact wpAny_pure (wpAny_bind fin)
  | exact wpAny_bind (wpAny_pure (wpAny_bind fin))
  | exact wpAny_bind fin

theorem zHr{X:Cx}{pins:List (Addr×Obj)}{σ:St}{H:Hp}{s:Shared}{a:Addr}{y:V}{o:Option V}(I:Inv X pins σ H s)(g:zMb H a y o):s.TypeIs (.ref a) "dict" := by
 rcases g with ⟨kvs,k,e,_,_⟩ | ⟨kvs,k,b,e,_,_,_⟩
 ·obtain⟨_,_,vs,_,dd⟩:=zFb I.hok e;exact dd.typeIs
 ·obtain⟨_,_,xs,_,dd⟩:=zJu I.hok e;exact dd.typeIs
def tDGet(td ty:TE):TE:=λσ H Q=>td σ H λx H1=>ty σ H1 λy H2=>∃ a v,x=.ref a/\zMb H2 a y (some v)/\Q v H2
def tDIn(ty td:TE):TE:=λσ H Q=>ty σ H λy H1=>td σ H1 λx H2=>∃ a o,x=.ref a/\zMb H2 a y o/\Q (.bl o.isSome) H2
def zQh(ty td:TE):TE:=λσ H Q=>ty σ H λy H1=>td σ H1 λx H2=>∃ a o,x=.ref a/\zMb H2 a y o/\Q (.bl (!o.isSome)) H2
def sDPut(td ty tv:TE):TS:=λD σ H=>tv σ H λv H1=>td σ H1 λx H2=>ty σ H2 λy H3=>∃ a H4,x=.ref a/\zG7 H3 a y v H4/\D.nx σ H4
section
variable{X:Cx}{o i e value:Expr}{pos pos' tpos:Pos}{td ty tv:TE}
theorem zN(hu:X.A.units+1<cLine)(ho:PE X o td)(hi:PE X i ty)(hs:zTj i):PE X (.Subscript o i pos) (tDGet td ty):=by
 intro pins s σ H Q I h;refine zHk PySem.F.slot_dict_getitem.lookup hs (thn (ho pins s σ H _ I h) λu s1 ⟨x,H1,I1,rx,q1⟩=>thn (hi pins s1 σ H1 _ I1 q1) λiv s2 ⟨y,H2,I2,ry,a,v,ex,g,q2⟩=>?_);subst ex;obtain rfl:u=Value.ref a:=rx;exact⟨zHr I2 g,zLx hu I2 g ry λw' s3 I3 rw'=>⟨v,H2,I3,rw',q2⟩⟩
theorem zTa(hu:X.A.units+1<cLine)(hi:PE X i ty)(ho:PE X o td):PC X .In i o (tDIn ty td):=by
 intro pins s σ H Q I h;refine thn (hi pins s σ H _ I h) λiv s1 ⟨y,H1,I1,ry,q1⟩=>thn (ho pins s1 σ H1 _ I1 q1) λu s2 ⟨x,H2,I2,rx,a,ov,ex,g,q2⟩=>?_;subst ex;obtain rfl:u=Value.ref a:=rx;exact d_in hu I2 g ry λs3 I3=>⟨.bl ov.isSome,H2,I3,rfl,q2⟩
theorem zLz(hu:X.A.units+1<cLine)(hi:PE X i ty)(ho:PE X o td):PC X .NotIn i o (zQh ty td):=by
 intro pins s σ H Q I h;refine thn (hi pins s σ H _ I h) λiv s1 ⟨y,H1,I1,ry,q1⟩=>thn (ho pins s1 σ H1 _ I1 q1) λu s2 ⟨x,H2,I2,rx,a,ov,ex,g,q2⟩=>?_;subst ex;obtain rfl:u=Value.ref a:=rx;exact zQb hu I2 g ry λs3 I3=>⟨.bl (!ov.isSome),H2,I3,rfl,q2⟩
theorem vE(hu:X.A.units+1<cLine)(ho:PE X o td)(hi:PE X i ty)(hv:PE X value tv)(hs:swapsWith value (some (.Subscript o i pos')) pos.line X.env=pure false) :
  PS X (.Assign [.Subscript o i pos'] value pos) (sDPut td ty tv):=by
 intro pins s σ H D I h;refine wpAny_Assign_Subscript (thn (hv pins s σ H _ I h) λr s1 ⟨v,H1,I1,rv,q1⟩=>thn (ho pins s1 σ H1 _ I1 q1) λu s2 ⟨x,H2,I2,rx,q2⟩=>thn (hi pins s2 σ H2 _ I2 q2) λiv s3 ⟨y,H3,I3,ry,a,H4,ex,g,q3⟩=>?_) hs;subst ex;obtain rfl:u=Value.ref a:=rx;exact zLh hu I3 g ry rv λs4 I4=>⟨σ,H4,I4,q3⟩
end


theorem zIc{P:Program}{w:World}{H:Hp}(h:Heap)(hb:sysModules<h.objs.size):yZ P w H (h.push { cls:=.type "dict", data:=.dict #[] }) h.objs.size (.dK []) :=
 ⟨Nat.zero_le _,beq_eq_false_iff_ne.mpr (Ne.symm (Nat.ne_of_lt hb)),[],.nil,Heap.DictOf.new h⟩
def zRx:TE:=λ_ H Q=>∀ p,H p=none->Q (.ref p) (upd H p (.dK []))
section
variable{X:Cx}{pos:Pos}
theorem vQ:PE X (.Dict [] [] pos) zRx:=λpins s σ H Q I h =>
 wpAny_Dict_empty ⟨.ref s.heap.objs.size,_,I.laid (a:=s.heap.objs.size) (o:=.dK []) (t':=s.toks) (λ_ _ q=>Heap.get?_push_of_some _ q) (Nat.le_refl _) (zIc s.heap I.big),rfl,h _ (I.hok.fresh (Nat.le_refl _))⟩
end

def zL0:List (TE×TE)->St->Hp->(List (V×V)->Hp->Prop)->Prop
 | [],_,H,Q=>Q [] H
 | (tk,tv)::r,σ,H,Q=>tk σ H λx H1=>tv σ H1 λy H2=>zL0 r σ H2 λps H3=>Q ((x,y)::ps) H3
abbrev VV:List (V×V)->List (Value×Value)->Prop:=Paired λp q=>yQ p.1 q.1/\yQ p.2 q.2
def PPs(X:Cx)(pos:Pos)(keys:List (Option Expr))(values:List Expr)(trs:List (TE×TE)):Prop :=
 ∀(pins:List (Addr×Obj))(s:Shared)(σ:St)(H:Hp)(Q:List (V×V)->Hp->Prop),Inv X pins σ H s->zL0 trs σ H Q ->
  wpAny (model X.prog X.w) X.A (evalPairs (pairTrees keys values X.env pos)) (λvs s'=>∃ ps H',Inv X pins σ H' s'/\VV ps vs/\Q ps H') X.xe s
theorem zHe{X:Cx}{pos:Pos} : PPs X pos [] [] []:=λpins s σ H Q I h=>pairTrees_nil_walk ⟨[],H,I,.nil,h⟩
theorem xE{X:Cx}{pos:Pos}{k v:Expr}{ks:List (Option Expr)}{vs:List Expr}{tk tv:TE}{trs:List (TE×TE)}(hk:PE X k tk)(hv:PE X v tv)(hr:PPs X pos ks vs trs) :
  PPs X pos (some k::ks) (v::vs) ((tk,tv)::trs):=λpins s σ H Q I h =>
 pairTrees_cons_walk (thn (hk pins s σ H _ I h) λu s1 ⟨x,H1,I1,rx,q1⟩=>thn (hv pins s1 σ H1 _ I1 q1) λw2 s2 ⟨y,H2,I2,ry,q2⟩ =>
  thn (hr pins s2 σ H2 _ I2 q2) λws s3 ⟨ps,H3,I3,rel,q3⟩=>⟨(x,y)::ps,H3,I3,.cons ⟨rx,ry⟩ rel,q3⟩)

def zAu(kvs more:List (Key×V)):List (Key×V):=more.foldl (λacc kv=>tL acc kv.1 kv.2) kvs
theorem KV.merge:∀{more:List (Key×V)}{rs:List (Key×Value)}{kvs:List (Key×V)}{vs:List (Key×Value)},KV more rs->KV kvs vs->KV (zAu kvs more) (merged vs rs):=by
 intro more rs kvs vs r;unfold KV at r
 induction r generalizing kvs vs with
 | nil=>intro q; exact q
 | @cons p q ps qs h t ih =>
  intro r0;have e:KV (tL kvs p.1 p.2) (stored vs q.1 q.2):=by
   have:=r0.put p.1 h.2;rw[<- h.1]; exact this
  exact ih e
theorem qE:∀(more kvs:List (Key×V)),(zAu kvs more).length<=kvs.length+more.length
 | [],kvs=>by show kvs.length<=kvs.length+0; lia
 | p::r,kvs=>by
  have h1:=qE r (tL kvs p.1 p.2);have h2:=tQ kvs p.1 p.2;show(zAu (tL kvs p.1 p.2) r).length<=_;rw[List.length_cons]; lia
theorem zD0{P:Program}{w:World} : ∀{kvs:List (Key×V)}{ws:List (Value×Value)},VV (kvs.map λkv=>(kV kv.1,kv.2)) ws->∃ rs,Carries (yI P w) ws rs/\KV kvs rs
 | [],_,r=>by rw[List.map_nil] at r; cases r; exact⟨[],True.intro,.nil⟩
 | p::kvs,_,r=>by
  rw[List.map_cons] at r;cases r with
  | @cons a b as bs h t =>
   obtain⟨rs,c,q⟩:=zD0 (P:=P) (w:=w) t;obtain⟨b1,b2⟩:=b;exact⟨(p.1,b2)::rs,⟨zEy h.1,rfl,c⟩,.cons ⟨rfl,h.2⟩ q⟩
def tDisp(trs:List (TE×TE)):TE:=λσ H Q=>∀ p,H p=none->zL0 trs σ (upd H p (.dK [])) λps H2=>H2 p=some (.dK [])/\∃ kvs:List (Key×V),ps=kvs.map (λkv=>(kV kv.1,kv.2))/\kvs.length<=15/\Q (.ref p) (upd H2 p (.dK (zAu [] kvs)))
theorem zHa{X:Cx}{pos:Pos}{keys:List (Option Expr)}{values:List Expr}{trs:List (TE×TE)}(h:PPs X pos keys values trs)(hall:keys.all (·.isSome)=true)(hl:keys.length=values.length)(h0:keys≠[])
  (h15:keys.length<=15):PE X (.Dict keys values pos) (tDisp trs):=by
 intro pins s σ H Q I q;have hn:=I.hok.fresh (Nat.le_refl s.heap.objs.size);have I1:=I.laid (a:=s.heap.objs.size) (o:=.dK []) (h':=s.heap.push { cls:=.type "dict", data:=.dict #[] }) (t':=s.toks) (λ_ _ q=>Heap.get?_push_of_some _ q) (Nat.le_refl _) (zIc s.heap I.big);refine wpAny_Dict_walk (knd:=yI X.prog X.w) hall hl h0 h15 (thn (h pins _ σ _ _ I1 (q _ hn)) λws s2 ⟨ps,H2,I2,rel,e,kvs,ep,lk,q2⟩=>?_);subst ep;obtain⟨rs,c,rk⟩:=zD0 (P:=X.prog) (w:=X.w) rel;obtain⟨z,hd,vs0,r0,dd⟩:=zNw I2.hok e;cases r0;refine⟨rs,c,dd,λh' dd' hs=>⟨.ref s.heap.objs.size,_,?_,rfl,q2⟩⟩;have hz:(zAu [] kvs).length<=sizeLine:=by
  have h1:=qE kvs [];rw[List.length_nil] at h1;rw[sizeLine_eq]; lia
 have he:∃ q,h'.get? s.heap.objs.size=some q:=let ⟨q,_,_,hq,_⟩:=dd';⟨q,hq⟩;exact zC7 I2 (by rw[e]; exact True.intro) hs he (zG5 hz hd (rk.merge .nil) dd')



end L2

namespace L2
open PySem PySem.Spec PyProof.Rows
def zMh(h:Heap)(a:Addr)(rows:Array DictEntry)(age:Nat):Prop:=∃ ob,h.get? a=some ob/\ob.ExactDict/\ob.data=.dict rows age
theorem zMh.at{h h':Heap}{a:Addr}{rows:Array DictEntry}{age:Nat}(x:zMh h a rows age)(e:∀ ob,h.get? a=some ob->h'.get? a=some ob):zMh h' a rows age:=let ⟨ob,g,r⟩:=x;⟨ob,e _ g,r⟩
theorem zMh.typeIs{z:Shared}{a:Addr}{rows:Array DictEntry}{age:Nat}(x:zMh z.heap a rows age):z.TypeIs (.ref a) "dict" := let ⟨ob,g,c,_⟩:=x;⟨ob,g,c.1⟩
section
variable{prog:Program}{w:World}{A:Around}{E:Value->Shared->Prop}{z:Shared}{it a:Addr}{rows:Array DictEntry}{age k:Nat}
theorem zNe{R:Value->Shared->Prop}(hs:(a == sysModules)=false)(x:zMh z.heap a rows age)(hR:R (.ref z.heap.objs.size) { z with heap:=z.heap.push { cls:=.type "dict_keyiterator", data:=.fields #[.ref a,.int 0 0,.int rows.size 0,.int age 0] } }) :
  wpAny (model prog w) A (pyIter (.ref a)) R E z:=by
 have ty:=x.typeIs;obtain⟨ob,g,_,dat⟩:=x;refine wpAny_pyIter_slot ty F.slot_dict_iter (wpAny_call_entry F.slot_dict_iter ty F.entry_dict_iter ?walk (F.args_dict_iter_1 _))
 case walk =>
  unfold Builtin.«dict.__iter__» Builtin.Dict.dictSlotNone;refine wpAny_bind (wpAny_bind (wpAny_notOrdered_dict ty (show wpAny _ _ (pure (Value.ref a)) _ _ z from wpAny_pure ?_)));show wpAny _ _ (Builtin.Dict.showsAll a >>= _) _ _ z;unfold Builtin.Dict.showsAll;rw[if_neg (by rw[hs]; decide)];refine wpAny_bind (wpAny_pure (wpAny_bind (wpAny_dictEntries g dat (wpAny_bind (wpAny_dictEpoch g dat ?_)))));refine wpAny_bind (wpAny_newObj_type (wpAny_pure ⟨_,rfl, "dict_keyiterator", _,⟨_,Heap.get?_push_size _ rfl,rfl⟩,F.slot_dict_keyiterator_next.lookup,?_⟩));simpa [rawInt] using hR
theorem zNz{R:Option Value->Shared->Prop}(ki:z.heap.IsKeyIter it a k rows.size age)(x:zMh z.heap a rows age)(hk:k<rows.size)
  (hR:∀ h',h'.IsKeyIter it a (k+1) rows.size age->Heap.SameBut it z.heap h'->R (some rows[k].key) { z with heap:=h' }):wpAny (model prog w) A (pyNext (.ref it)) R E z:=by
 have ty:=ki.typeIs;obtain⟨oi,gi,ci,di⟩:=id ki;obtain⟨ob,g,_,dat⟩:=x;unfold pyNext;refine wpAny_bind (wpAny_attempt (wpAny_callSpecial?_slot (name:=Str.ofString "__next__") ty F.slot_dict_keyiterator_next (wpAny_call_entry F.slot_dict_keyiterator_next ty F.entry_dict_keyiterator_next ?walk (F.args_dict_keyiterator_next_1 _))))
 case walk =>
  refine wpAny_bind (wpAny_pure (wpAny_bind (wpAny_bind ?_)))
  first | refine wpAny_bind (wpAny_typeNameOfWhole_keyiter ty (wpAny_pure (wpAny_bind (wpAny_fieldsOf gi di ?_)))) | refine wpAny_bind (wpAny_typeNameOf_keyiter ty (wpAny_pure (wpAny_bind (wpAny_fieldsOf gi di ?_))))
  simp only[show Builtin.Dict_items.ownsTuple "dict_keyiterator" = false by decide,Bool.false_eq_true,if_false];show wpAny _ _ (if (Value.ref a == Value.none)=true then _ else _) _ _ z;rw[if_neg (show ¬ ((Value.ref a == Value.none)=true) from Bool.false_ne_true)];refine wpAny_bind (wpAny_pure (wpAny_bind (wpAny_dictEntries g dat ?_)));rw[if_neg (by simp)];refine wpAny_bind (wpAny_pure (wpAny_bind (wpAny_dictEpoch g dat ?_)));rw[if_neg (by simp)];refine wpAny_pure ?_;simp only[show ¬ ((k:Int)<0) from by lia,if_false,Int.toNat_natCast,Array.getElem?_eq_getElem hk];refine wpAny_bind ?_
  first | refine wpAny_bind (wpAny_typeNameOfWhole_keyiter ty (wpAny_pure (wpAny_bind (wpAny_isOneOf_keyiter ty ?_)))) | refine wpAny_bind (wpAny_typeNameOf_keyiter ty (wpAny_pure (wpAny_bind (wpAny_isOneOf_keyiter ty ?_))))
  show wpAny _ _ (setField (.ref it) 1 (rawInt ((k:Int)+1)) >>= _) _ _ z;refine wpAny_bind (wpAny_setField gi di (by simp) ?_);have ki':(z.heap.update it (Obj.mapFields (·.setIfInBounds 1 (rawInt ((k:Int)+1))))).IsKeyIter it a (k+1) rows.size age :=
   ⟨_,Heap.get?_update_self _ gi (Obj.isFreed_of_fields (Obj.data_mapFields di _)),(Obj.cls_mapFields ..).trans ci,by rw[Obj.data_mapFields di]; simp[rawInt]⟩
  refine wpAny_bind (wpAny_holding (wpAny_bind (wpAny_isOneOf_keyiter (s:={ z with heap:=z.heap.update it (Obj.mapFields (·.setIfInBounds 1 (rawInt ((k:Int)+1)))) }) ki'.typeIs ?_)));show wpAny _ _ (pure rows[k].key) _ _ _;exact wpAny_pure (wpAny_pure ⟨_,rfl,wpAny_pure (hR _ ki' (Heap.SameBut.update ..))⟩)
theorem zPa{R:Option Value->Shared->Prop}(hh:A.handled=none)(ki:z.heap.IsKeyIter it a k rows.size age)(x:zMh z.heap a rows age)(hk:rows.size<=k)
  (hR:∀ h',Heap.ExtBut it z.heap h'->R none { z with heap:=h' }):wpAny (model prog w) A (pyNext (.ref it)) R E z:=by
 have ty:=ki.typeIs;obtain⟨oi,gi,ci,di⟩:=id ki;obtain⟨ob,g,_,dat⟩:=x;unfold pyNext;refine wpAny_bind (wpAny_attempt (wpAny_callSpecial?_slot (name:=Str.ofString "__next__") ty F.slot_dict_keyiterator_next (wpAny_call_entry F.slot_dict_keyiterator_next ty F.entry_dict_keyiterator_next ?walk (F.args_dict_keyiterator_next_1 _))))
 case walk =>
  refine wpAny_bind (wpAny_pure (wpAny_bind (wpAny_bind ?_)))
  first | refine wpAny_bind (wpAny_typeNameOfWhole_keyiter ty (wpAny_pure (wpAny_bind (wpAny_fieldsOf gi di ?_)))) | refine wpAny_bind (wpAny_typeNameOf_keyiter ty (wpAny_pure (wpAny_bind (wpAny_fieldsOf gi di ?_))))
  simp only[show Builtin.Dict_items.ownsTuple "dict_keyiterator" = false by decide,Bool.false_eq_true,if_false];show wpAny _ _ (if (Value.ref a == Value.none)=true then _ else _) _ _ z;rw[if_neg (show ¬ ((Value.ref a == Value.none)=true) from Bool.false_ne_true)];refine wpAny_bind (wpAny_pure (wpAny_bind (wpAny_dictEntries g dat ?_)));rw[if_neg (by simp)];refine wpAny_bind (wpAny_pure (wpAny_bind (wpAny_dictEpoch g dat ?_)));rw[if_neg (by simp)];refine wpAny_pure ?_;simp only[show ¬ ((k:Int)<0) from by lia,if_false,Int.toNat_natCast,Array.getElem?_eq_none hk];refine wpAny_bind ?_
  first | refine wpAny_bind (wpAny_typeNameOfWhole_keyiter ty (wpAny_pure ?_)) | refine wpAny_bind (wpAny_typeNameOf_keyiter ty (wpAny_pure ?_))
  show wpAny _ _ (setField (.ref it) 0 .none >>= _) _ _ z;refine wpAny_bind (wpAny_setField gi di (by simp) (show wpAny _ _ (newExc (.type "StopIteration") [] >>= _) _ _ _ from wpAny_bind ?_));simp only[newExc,newTuple];refine wpAny_bind (wpAny_newObj_type (wpAny_bind (m:=firstArgMember _ _) (wpAny_of_eq (a:=Value.none) (by first | rfl | (simp only[firstArgMember]; rfl)) (wpAny_newObj_type ?_ (by size_fits)))) (by size_fits));simp only[raiseNew];refine wpAny_bind (wpAny_handled ?_);rw[show A.in1.handled=none from hh];refine wpAny_bind (wpAny_pure (wpAny_throw ?_));refine wpAny_bind (wpAny_isInstance (T := "StopIteration") (b:=true) ⟨_,Heap.get?_push_size _ rfl,rfl⟩ isSubtype_stop ?_);exact wpAny_pure (hR _ (((Heap.SameBut.update ..).extBut.push _).push _))
theorem zKm(hh:A.handled=none)(hne:a≠it):Walks prog w A it [it,a] [it] rows.size (λi v=>∃ h:i<rows.size,v=rows[i].key) (λi h=>h.IsKeyIter it a i rows.size age/\zMh h a rows age) where
 sub:=λb hb=>by simp at hb; simp[hb]
 frame:=λ_ _ _ st hk=>⟨st.1.at λo e=>hk it (by simp) o e,st.2.at λo e=>hk a (by simp) o e⟩
 item:=λi s Q E hi st hQ=>zNz st.1 st.2 hi λh' ki' hs' =>
  hQ _ h' s.toks ⟨hi,rfl⟩ ⟨ki',st.2.at λo e=>hs'.extBut a o hne e⟩ λb o hb e=>hs'.extBut b o (λh=>hb (by simp[h])) e
 done:=λs Q E st hQ=>zPa hh st.1 st.2 (Nat.le_refl _) λh' he'=>hQ h' s.toks λb o hb e=>he' b o (λh=>hb (by simp[h])) e
 self:=λ_ _ _ _ st hQ=>wpAny_pyIter_keyiter st.1 hQ
theorem zQy(hs:(a == sysModules)=false):PySem.W.KdlSrc prog w "dict" a a rows.size (λi v=>∃ h:i<rows.size,v=rows[i].key) (λh=>zMh h a rows age) where
 type:=λ_ x=>x.typeIs
 there:=λ_ x=>let ⟨_,g,_⟩:=x;⟨Heap.lt_size g,Heap.lt_size g⟩
 keep:=λ_ _ x hk=>x.at λo e=>hk a (.inl rfl) o e
 notList:=by decide
 notTuple:=by decide
 hint:=λ_ _ _ _ x hq=>PySem.W.kdl_hint_dict x.typeIs hq
 iter:=λ_ s hh x=>⟨_,_,(λ_ _ hq=>zNe hs x hq),zKm hh (let ⟨_,g,_⟩:=x; Nat.ne_of_lt (Heap.lt_size g)),⟨⟨_,Heap.get?_push_size _ rfl,rfl,rfl⟩,x.at λo e=>Heap.get?_push_of_some _ e⟩⟩
end
end L2

namespace Sea
open PySem L2
abbrev Sd:=Addr×Int×Int×Int
abbrev zS8(ss:List Sd):List V:=(ss.map (·.1)).map V.ref
def SdOk(H:Hp)(ss:List Sd):Prop:=∀ t∈ss,H t.1=some (.tup [.int t.2.1,.int t.2.2.1,.int t.2.2.2])/\(t.2.1≠0\/t.2.2.1≠0)/\t.2.1.natAbs<=10^9/\t.2.2.1.natAbs<=10^9/\t.2.2.2.natAbs<=10^13
def zP3(ss:List Sd)(x y:Int):Bool:=ss.all λt=>decide (t.2.1*x+t.2.2.1*y<=0)
def WK(ss:List Sd)(n:Nat)(k:List Int):Prop:=∃ j t,j<n/\ss[j]?=some t/\((k=zBl [-t.2.2.1,t.2.1]/\zP3 ss (-t.2.2.1) t.2.1=true)\/(k=zBl [t.2.2.1,-t.2.1]/\zP3 ss t.2.2.1 (-t.2.1)=true))
theorem zNq{ss:List Sd}{x y g:Int}(hg:0<g):zP3 ss (x*g) (y*g)=zP3 ss x y:=by
 unfold zP3
 congr 1
 funext t
 refine decide_eq_decide.mpr ?_;have e:t.2.1*(x*g)+t.2.2.1*(y*g)=(t.2.1*x+t.2.2.1*y)*g:=by rw[Int.add_mul,Int.mul_assoc,Int.mul_assoc]
 rw[e];constructor
 ·intro h;by_cases c:t.2.1*x+t.2.2.1*y<=0
  ·exact c
  ·have:=Int.mul_pos (show 0<t.2.1*x+t.2.2.1*y by lia) hg;lia
 ·intro h;have:=Int.mul_nonneg (show 0<=-(t.2.1*x+t.2.2.1*y) by lia) (Int.le_of_lt hg);rw[Int.neg_mul] at this;lia
theorem way_low{ss:List Sd}{x y:Int}(gp:0<yR [x,y]):zP3 ss (x/(yR [x,y]:Int)) (y/(yR [x,y]:Int))=zP3 ss x y:=by
 have gI:(0:Int)<(yR [x,y]:Int):=by lia
 have e1:=tW (ns:=[x,y]) (n:=x) (by simp);have e2:=tW (ns:=[x,y]) (n:=y) (by simp);have z:=zNq (ss:=ss) (x:=x/(yR [x,y]:Int)) (y:=y/(yR [x,y]:Int)) gI;rw[e1,e2] at z;exact z.symm
def keyI(ns:List Int):List Key:=ns.map Sum.inl
structure TabK(kvs:List (List Key×V))(ks:List (List Int)):Prop where
 keys:kvs.map (·.1)=ks.map keyI
 nodup:ks.Nodup
structure WaysAt(H:Hp)(l:Addr)(ss:List Sd)(us:List (Addr×List Int)):Prop where
 at':H l=some (.lst ((us.map (·.1)).map V.ref))
 all:∀ u∈us,H u.1=some (.tup (u.2.map V.int))
 rises:(us.map (·.2)).Pairwise (λa b=>HT.lexLt b a=false)
 nodup:(us.map (·.2)).Nodup
 mem:∀ k,k∈us.map (·.2)↔WK ss ss.length k
 few:us.length<=80
structure SdSt(H0:Hp)(D:Addr)(ss:List Sd)(H:Hp):Prop where
 same:Same H0 H
 new:H0 D=none
 at':H D=some (.lst (zS8 ss))
 all:SdOk H ss
end Sea

namespace Sea
open PySem L2
theorem qL{i j:Int}(h:i.natAbs<=10^18):zQ5 i j:=.inl ⟨by lia,by lia⟩
abbrev P3:=Int×Int×Int
def sv(t p:P3):Int:=t.1*p.1+t.2.1*p.2.1-t.2.2*p.2.2
def tn(e s:P3):Int:=e.1*s.2.1-e.2.1*s.1
structure IsSpot(l:List Int)(p:P3):Prop where
 list:l=[p.1,p.2.1,p.2.2]
 pos:0<p.2.2
 low:Nat.gcd (Nat.gcd p.1.natAbs p.2.1.natAbs) p.2.2.natAbs=1
def inW(ss:List Sd)(p:P3):Prop:=∀ t∈ss,sv t.2 p<=0
end Sea

namespace Sea
open PySem L2
end Sea

namespace L2
open PySem PySem.Spec PyProof.Rows PySem.W
section
variable{X:Cx}
theorem zGq:wR X (.builtin "sorted") (λxs H Q=>∃(l:Addr)(ns:List Int),xs=[.ref l]/\SqL X.K H l (ns.map V.int)/\ns.length<64 /\
  ∀(p:Addr)(ms:List Int),H p=none->ms.Perm ns->ms.Pairwise (·<=·)->Q (.ref p) (upd H p (.lst (ms.map V.int)))):=by
 intro pins s σ H xs us Q I r h;obtain⟨l,ns,rfl,hq,h64,q⟩:=h;obtain⟨u,rfl,ru⟩:=yL.one r;cases ru;obtain⟨its,rv,pl,hz⟩:=I.list hq;have hn:=rv.length;rw[List.length_map] at hn;refine sorted_ints (ns:=ns) pl.isList (zJp rv) (by lia) λout ms a1 a2 a3=>?_;obtain⟨e,at'⟩:=sortedAll_at s.heap its out;have fr:H (s.heap.objs.size+1)=none:=I.hok.fresh (Nat.le_succ _);refine⟨.ref (s.heap.objs.size+1),_,I.laid (t':=s.toks) (a:=s.heap.objs.size+1) (o:=.lst (ms.map V.int)) (λb ob q=>sortedAll_old q) (Nat.le_succ _) ?_,rfl,q _ ms fr a2 a3⟩;refine⟨?_,out.toList,e,zDg a1,by simpa using at'⟩;rw[List.length_map,a2.length_eq];exact Nat.le_trans (Nat.le_of_lt h64) (by rw[sizeLine_eq]; decide)
end
def PrAt(H:Hp)(cs:List Pr):Prop:=∀ t∈cs,H t.1=some (.tup [.int t.2.1,.int t.2.2])
end L2

namespace Sea
open PySem L2
def dt(s g:P3):Int:=s.1*g.1+s.2.1*g.2.1
structure Bound(ss:List Sd)(g:P3):Prop where
 nz:∀ t∈ss,t.2.1≠0\/t.2.2.1≠0
 gz:g.1≠0\/g.2.1≠0
 ways:∀ t∈ss,∀ h:Int,(h=1\/h = -1)->(∀ s∈ss,tn t.2 s.2*h<=0)->tn t.2 g*h<=0
 lead:¬ ∀ s∈ss,dt s.2 g<=0
 one:∀ t∈ss,tn t.2 g=0->0<dt t.2 g->∀ P:P3,0<P.2.2->sv t.2 P=0->¬ inW ss P
end Sea

namespace L2
open PySem PySem.Spec PyProof.Rows PySem.W
theorem cut4{ok:Addr->Int->Int->Hp->Prop}{G:Prop}{R:Addr->Int->Int->Hp->Prop}(h1:(∀ p x y G,ok p x y G->R p x y G)->G)(h2:∀ p x y G,ok p x y G->R p x y G):G:=h1 h2
end L2

namespace L2
open PySem PySem.Spec PyProof.Rows

def zPl(scope:Scope)(x:Str):Bool:=scope.names.any λy=>y.1 == x&&y.2 == .cell
structure OwnScope(X:Cx)(caps:List (Str×Nat))(scope:Scope):Prop where
 kind:scope.kind=.function
 dis:(scope.names.all λx=>!(x.2 == .free) || !zPl scope x.1)=true
 loc:∀ y∈scope.names,y.2=.local->scope.names.lookup y.1=some .local
 clos:(scope.names.all λx=>!(x.2 == .free)||(X.env.cells.lookup x.1).isSome)=true
 cap:zEe X scope caps
section
variable{X:Cx}{T:List Str}{caps:List (Str×Nat)}{scope:Scope}{elt target iter:Expr}{ifs:List Expr}{pos cpos:Pos}{wi:TI}{g:CC->TG}{tt:CC->TT}{te:CC->TE}

end
end L2

namespace Sea
open PySem L2
def awB(N:Nat):List (Int×Int)->Int->Bool
 | [],_=>true
 | c::cs,least=>if least<=c.1/\c.1<N/\1<=c.2 then awB N cs (c.1+1) else false
def zRi(ss:List Sd)(f:Sd->Int)(n:Int):Int:=match ss[n.toNat]? with
 | some t=>f t
 | none=>0
def zPv(ss:List Sd)(f:Sd->Int):List (Int×Int)->Int->Int
 | [],T=>T
 | c::cs,T=>zPv ss f cs (T+c.2*zRi ss f c.1)
def fAt(k:Int)(t:Sd):Int:=if k=0 then t.2.1 else if k=1 then t.2.2.1 else t.2.2.2
structure PrSt(H0:Hp)(D:Addr)(cs:List Pr)(H:Hp):Prop where
 same:Same H0 H
 new:H0 D=none
 at':H D=some (.lst (zOj cs))
 all:PrAt H cs
end Sea

namespace L2
open PySem PySem.Spec PyProof.Rows
theorem zG3:bootBuiltins "sum" = some (.builtin "sum"):=by decide +kernel
theorem zD9(ns:List Int):∀ n,n<=ns.length->preSum (λi=>ns.getD i 0) n=(ns.take n).sum
 | 0,_=>by simp[preSum]
 | n+1,h=>by
  have hn:n<ns.length:=h;rw[preSum,zD9 ns n (Nat.le_of_lt hn),List.take_succ,List.getElem?_eq_getElem hn,List.sum_append];simp[List.getD,List.getElem?_eq_getElem hn]
theorem zC3:∀{ns:List Int}{us:List Value},yL (ns.map V.int) us->∀(i:Nat)(v:Value),us[i]?=some v->∃ t,v=.int (ns.getD i 0) t
 | [],us,r,i,v,h=>by
  have e:=yL.zero r;subst e;simp at h
 | n::ns,us,r,i,v,h=>by
  cases r with
  | cons r1 r2 =>
   match i,h with
   | 0,h =>
    obtain⟨t,rfl⟩:=r1;exact⟨t,(Option.some.inj h).symm⟩
   | i+1,h=>exact zC3 r2 i v h
section
variable{X:Cx}
theorem sN(hc:X.calm=true):wR X (.builtin "sum") (λxs H Q=>∃(p:Addr)(ns:List Int),xs=[.ref p]/\SqL X.K H p (ns.map V.int)/\Q (.int ns.sum) H):=by
 intro pins s σ H xs us Q I r h;obtain⟨p,ns,rfl,hq,q⟩:=h;obtain⟨u,rfl,r1⟩:=zDo r;cases r1;obtain⟨its,rv,pl,hz⟩:=I.list hq;have hL:s.heap.IsList p its.toArray:=pl.isList;have hlt:p<s.heap.objs.size:=by obtain⟨o,ho,_⟩:=hL; exact Heap.lt_size ho
 have nn:its.length=ns.length:=by
  have z:=rv.length;rw[List.length_map] at z;exact z.symm
 refine call_sum_walkG (wpAny_pyIter_list hL ?_);refine⟨_,[_,p],[_],_,_,_,λi=>ns.getD i 0,rfl,Walks.list (A:=X.A.in1) (I.ok.hd hc) _ p (Nat.ne_of_lt hlt) its.toArray,
  ⟨⟨_,Heap.get?_push_size _ rfl,rfl,rfl⟩,hL.push _⟩,λc hc=>?_,λi v hv=>zC3 rv i v (by simpa using hv),λh' tk t' hk=>?_⟩
 ·have sz:(s.heap.push { cls:=.type "list_iterator", data:=.fields #[.ref p,.int 0 0] }).objs.size=s.heap.objs.size+1:=Heap.size_push ..;show c<(s.heap.push { cls:=.type "list_iterator", data:=.fields #[.ref p,.int 0 0] }).objs.size;rw[sz];simp only[List.mem_cons,List.not_mem_nil,or_false] at hc;rcases hc with e | e
  ·rw[e]; exact Nat.lt_succ_self _
  ·rw[e]; exact Nat.lt_succ_of_lt hlt
 ·refine⟨.int ns.sum,H,I.kept (t':=tk) λc o e=>hk c o (λhm=>?_) (Heap.get?_push_of_some _ e),⟨t',?_⟩,q⟩
  ·have e1:=List.mem_singleton.mp hm;have z:=Heap.lt_size e;rw[e1] at z;exact Nat.lt_irrefl _ z
  ·have e:its.toArray.size=ns.length:=by simp[nn]
   rw[e,zD9 ns ns.length (Nat.le_refl _),List.take_length]
end
end L2

namespace Sea
open PySem L2
def zQk(n:Nat)(cs:List (Int×Int)):List (Int×Int):=cs.filter λc=>decide (c.1<(n:Int))
structure Apart(ss es:List Sd)(cs:List (Int×Int)):Prop where
 out:∀ v:P3,0<v.2.2->inW es v->zPv ss (fAt 2) (zQk ss.length cs) 0*v.2.2<zPv ss (fAt 0) (zQk ss.length cs) 0*v.1+zPv ss (fAt 1) (zQk ss.length cs) 0*v.2.1
 ins:∀ v:P3,inW ss v->zPv ss (fAt 0) (zQk ss.length cs) 0*v.1+zPv ss (fAt 1) (zQk ss.length cs) 0*v.2.1<=zPv ss (fAt 2) (zQk ss.length cs) 0*v.2.2
 few:(∃ z:P3,0<z.2.2/\inW ss z)->(zQk ss.length cs).length<=2
end Sea

namespace Sea
open PySem L2
structure PIb(t:TE)(σ:St)(i:Int)(n:Nat):Prop where
 rd:∀(H:Hp)(Q:VK),Q (.int i) H->t σ H Q
 le:i.natAbs<=n
abbrev zRe(xs:List (Addr×List Pr)):List V:=(xs.map (·.1)).map V.ref
structure Leads(G:Hp)(lo:Addr)(M:Nat)(xs:List (Addr×List Pr)):Prop where
 at':G lo=some (.lst (zRe xs))
 all:∀ u∈xs,u.1≠lo/\G u.1=some (.lst (zOj u.2))/\PrOk G M u.2
end Sea

namespace Sea
open PySem L2
end Sea

namespace PyProof.Rows
open PySem
structure Took(x y out:Array Keyed)(ia ib:Nat):Prop where
 pm:out.toList.Perm (x.toList.take ia++y.toList.take ib)
 la:ia<=x.size
 lb:ib<=y.size
structure Left(x y out:Array Keyed)(na nb:Nat):Prop where
 pm:out.toList.Perm (x.toList.drop na++y.toList.drop nb)
 la:na<=x.size
 lb:nb<=y.size
end PyProof.Rows

namespace PyProof.Rows
open PySem
def rk(r:Keyed->Int)(xs:Array Keyed)(i:Nat):Int:=(xs[i]?.map r).getD 0
structure TookR(r:Keyed->Int)(x y out:Array Keyed)(ia ib:Nat):Prop extends Took x y out ia ib where
 srt:∀ i j,i<=j->j<out.size->rk r out i<=rk r out j
 oa:∀ i j,i<out.size->ia<=j->j<x.size->rk r out i<=rk r x j
 ob:∀ i j,i<out.size->ib<=j->j<y.size->rk r out i<=rk r y j
structure LeftR(r:Keyed->Int)(x y out:Array Keyed)(na nb:Nat):Prop extends Left x y out na nb where
 srt:∀ i j,i<=j->j<out.size->rk r out j<=rk r out i
 oa:∀ i j,i<out.size->j<na->rk r x j<=rk r out i
 ob:∀ i j,i<out.size->j<nb->rk r y j<=rk r out i
end PyProof.Rows

namespace L2
open PySem PySem.Spec PyProof.Rows
theorem sz0:0<=sizeLine:=by decide
theorem sz1:1<=sizeLine:=by decide
theorem sz2:2<=sizeLine:=by decide
theorem sz3:3<=sizeLine:=by decide
theorem gt2:(0:Int)<2:=by decide
theorem gt3:(0:Int)<3:=by decide
theorem gt4:(0:Int)<4:=by decide
theorem gt5:(0:Int)<5:=by decide
section
variable{X:Cx}{x:Str}{p pos:Pos}{a b e c:Expr}{es:List Expr}{t:TA}{te ta tb:TE}{id T:String}{r:List V->Hp->VK->Prop}{n:Nat}{ps:List Str}{sp:Sp}
theorem zRz(h:starEach (e::es) X.env=(false,eval e X.env)::starEach es X.env)(ha:PE X e te)(hr:PA X es t):PA X (e::es) (zQj te t):=zF ha hr h
theorem zSb(h:PE X (.Name x pos) te):PE X (.Name x pos) te:=h
theorem m_sub(h:PE X (.Subscript a b pos) te):PE X (.Subscript a b pos) te:=h
theorem zS9(h:PE X (.Call (.Name x p) (e::es) [] pos) te):PE X (.Call (.Name x p) (e::es) [] pos) te:=h
theorem m_bin{op:Operator}(h:PE X (.BinOp a op b pos) te):PE X (.BinOp a op b pos) te:=h
theorem m_cmp{op:CmpOp}(h:PE X (.Compare a [op] [b] pos) te):PE X (.Compare a [op] [b] pos) te:=h
theorem zRl{op:CmpOp}{tt:TT}(h:PT X (.Compare a [op] [b] pos) tt):PT X (.Compare a [op] [b] pos) tt:=h
theorem zQl{op:BoolOp}{tt:TT}(h:PW X (.BoolOp op es pos) tt):PT X (.BoolOp op es pos) tt:=h.pt
theorem m_val{tt:TE}(he:∀ whole,isTrue e X.env whole=(do let v <- whole; standAt e.pos; holding [v] (truthy v)))(h:PE X e tt):PT X e (tB tt):=zCj h he
theorem m_ix(hs:zJ7 b)(ha:PE X a ta)(hb:PE X b tb):PE X (.Subscript a b pos) (tOp (rIxA X.K) ta tb):=zMf zLl ha hb hs
theorem zQ1(x:Str)(h:PE X (.Name x pos) te):PE X (.Name x pos) te:=h
theorem zFv(hc:wR X (.builtin id) r)(hv:bootBuiltins x=some (.builtin id))(hm:X.mg x=none)(hg:Gl X x)(hn:x ≠ "__name__")(hdb:(x ==("__debug__" : Str))=false)
  (he:starEach (e::es) X.env=(false,eval e X.env)::starEach es X.env) (hpl:(backTo pos (starEach es X.env)).any (·.1)=false) (ha:PA X (e::es) t):PE X (.Call (.Name x p) (e::es) [] pos) (tCB r t):=yB hc hg hm hv ha hn hdb he hpl
theorem zQ8(hc:wR X (.type T) r)(hv:bootBuiltins x=some (.type T))(hm:X.mg x=none)(hg:Gl X x)(hn:x ≠ "__name__")(hdb:(x ==("__debug__" : Str))=false)
  (he:starEach (e::es) X.env=(false,eval e X.env)::starEach es X.env) (hpl:(backTo pos (starEach es X.env)).any (·.1)=false) (ha:PA X (e::es) t):PE X (.Call (.Name x p) (e::es) [] pos) (tCB r t):=xN hc hg hm hv ha hn hdb he hpl
theorem m_own{P:Program}{w:World}{K:PySem.W.Frag}{mg:Str->Option Value}{B:Heap}(h:Has P w K mg B x n ps sp)(e1:X.prog=P/\X.w=w/\X.K=K/\X.mg=mg/\X.base=B)(hr:sY n X.A)(hg:Gl X x)(hdb:(x ==("__debug__" : Str))=false)
  (he:starEach (e::es) X.env=(false,eval e X.env)::starEach es X.env) (hpl:(backTo pos (starEach es X.env)).any (·.1)=false) (ha:PA X (e::es) t):PE X (.Call (.Name x p) (e::es) [] pos) (zK8 sp [] E0 t):=by
 obtain⟨rfl,rfl,rfl,rfl,rfl⟩:=e1;exact xT h hr hg ha hdb he hpl
theorem zV(i:Nat){te:TE}{pos':Pos}(hN:X.N.Nodup)(he:PE X e te)(hi:X.N[i]?=some x:=by rfl)(hx:Loc X.env.scope x:=by first | exact Or.inl rfl | exact Or.inr rfl)(hs:swapsWith e (some (.Name x pos')) pos.line X.env=pure false:=by rfl)
  (hf:X.fn x=true\/X.env.scope.names.lookup x=some .local:=by first | exact .inl rfl | exact .inr rfl | assumption):PS X (.Assign [.Name x pos'] e pos) (zTo te (zK9 i)):=zK6 hN hi hx he hs hf
theorem uL(i:Nat)(hN:X.N.Nodup)(hi:X.N[i]?=some x:=by rfl)(hx:Loc X.env.scope x:=by first | exact Or.inl rfl | exact Or.inr rfl)(hf:X.fn x=true\/X.env.scope.names.lookup x=some .local:=by first | exact .inl rfl | exact .inr rfl | assumption) :
  PG X (.Name x pos) (zK9 i):=zFg hN hi hx hf
theorem zAm{o:Expr}{to:TE}{apos cpos:Pos}(ho:PE X o to)(ha:PA X (e::es) t)
  (hbase:attributeBase o "append" X.env (eval o X.env)=eval o X.env:=by rfl)
  (hfew:((backTo cpos (starEach (e::es) X.env)).all (λx=>!x.1)&&(backToKw cpos (keywordEach [] X.env)).all (λx=>x.1.isSome)
   && decide ((e::es).length+([]:List Keyword).length+(if ([]:List Keyword).isEmpty then 0 else 1)<30))=true:=by rfl)
  (hline:(apos.endLine == cpos.line)=true:=by rfl) (hs:starEach (e::es) X.env=(false,eval e X.env)::starEach es X.env:=by rfl) (hplain:(backTo cpos (starEach es X.env)).any (·.1)=false:=by rfl) :
  PE X (.Call (.Attribute o "append" apos) (e::es) [] cpos) (tBM X.K "list" zKd to t):=zQq PySem.F.plainAttrs_list PySem.F.slot_list_append PySem.F.type_list_append zGt ho ha hbase hfew hline hs hplain
end
end L2

namespace L2
open PySem PySem.Spec PyProof.Rows
def InB(B:Heap)(φ:PySem.W.Frag->Prop):Prop:=∃ K:PySem.W.Frag,K.In B/\φ K
abbrev Cx.withK(X:Cx)(K:PySem.W.Frag):Cx:={ X with K:=K }
theorem Mod.withK{K K':PySem.W.Frag}{mg:Str->Option Value}{B:Heap}(m:Mod K mg B)(h:K'.In B):Mod K' mg B:={ m with kin:=h }
section
variable{X:Cx}{pins:List (Addr×Obj)}{σ:St}{H:Hp}{s:Shared}{K:PySem.W.Frag}
theorem Cx.Ok.withK(ok:X.Ok)(h:K.In X.base):(X.withK K).Ok :=
 ⟨ok.mod.withK h,ok.kind,ok.glob,ok.blt,ok.above,ok.inj,ok.has,ok.cab,ok.hd,ok.frames,ok.stk,ok.exf,ok.bs,ok.bsz,ok.noex,ok.exfs,ok.funs,ok.frf⟩
theorem Cx.Ok.unK(ok:(X.withK K).Ok)(h:Mod X.K X.mg X.base):X.Ok :=
 ⟨h,ok.kind,ok.glob,ok.blt,ok.above,ok.inj,ok.has,ok.cab,ok.hd,ok.frames,ok.stk,ok.exf,ok.bs,ok.bsz,ok.noex,ok.exfs,ok.funs,ok.frf⟩
theorem Inv.withK(I:Inv X pins σ H s)(h:K.In X.base):Inv (X.withK K) pins σ H s:=⟨I.ok.withK h,I.os,I.bare,I.base,I.loc,I.cell,I.free,I.freeC,I.pin,I.hok,I.len⟩
theorem Inv.unK(I:Inv (X.withK K) pins σ H s)(h:Mod X.K X.mg X.base):Inv X pins σ H s:=⟨I.ok.unK h,I.os,I.bare,I.base,I.loc,I.cell,I.free,I.freeC,I.pin,I.hok,I.len⟩
end
section
variable{X:Cx}{o e value:Expr}{es:List Expr}{f m:Str}{pos pos' apos:Pos}{ta tv:TE}{t:TA}{C g:Addr}{n:Nat}{ps:List Str}{sp:Sp}
inductive TFld(C:Addr)(f:Str)(x:V)(H:Hp)(Q:VK):Prop where
 | mk (a dx:Addr) (fs:List (Str×V)) (v:V) (ex:x=.ref a) (ea:H a=some (.ins C dx fs)) (l:fs.lookup f=some v) (q:Q v H)
def tFld2(C:Addr)(f:Str)(ta:TE):TE:=λσ H Q=>ta σ H λx H1=>TFld C f x H1 Q
theorem rW(hb:InB X.base λK=>Cls K C/\rP K C f)(he:PE X e ta)(ha:attributeBase e f X.env (eval e X.env)=eval e X.env:=by rfl):PE X (.Attribute e f pos) (tFld2 C f ta):=by
 obtain⟨K,KB,c,n⟩:=hb;intro pins s σ H Q I h;refine zQf ha (thn (he pins s σ H _ I h) λu s1 ⟨x,H1,I1,rx,a,dx,fs,v,ex,ea,l,q⟩=>?_);subst ex;obtain rfl:u=Value.ref a:=rx;exact zJt (X:=X.withK K) (I1.withK KB) ea c n l λu' s2 I2 ru=>⟨v,H1,I2.unK I.ok.mod,ru,q⟩
inductive SFld(C:Addr)(f:Str)(y x:V)(H:Hp)(Q:Hp->Prop):Prop where
 | mk (a dx:Addr) (fs:List (Str×V)) (ex:x=.ref a) (ea:H a=some (.ins C dx fs)) (l:fs.length<1000) (q:Q (upd H a (.ins C dx (zBo f y fs))))
def sFld2(C:Addr)(f:Str)(ta tv:TE):TS:=λD σ H=>tv σ H λy H1=>ta σ H1 λx H2=>SFld C f y x H2 (D.nx σ)
theorem zC2(hb:InB X.base λK=>Cls K C/\rP K C f)(ha:PE X o ta)(hv:PE X value tv)(hs:swapsWith value (some (.Attribute o f pos')) pos.line X.env=pure false:=by rfl):PS X (.Assign [.Attribute o f pos'] value pos) (sFld2 C f ta tv):=by
 obtain⟨K,KB,c,n⟩:=hb;intro pins s σ H D I h;refine plainObj_wpAny_Assign_Attribute (thn (hv pins s σ H _ I h) λu s1 ⟨y,H1,I1,ry,q⟩=>thn (ha pins s1 σ H1 _ I1 q) λov s2 ⟨x,H2,I2,rx,a,dx,fs,ex,ea,l,q2⟩=>?_) hs;subst ex;obtain rfl:ov=Value.ref a:=rx;exact zIz (X:=X.withK K) (I2.withK KB) ea c n l ry λs3 I3=>⟨σ,_,I3.unK I.ok.mod,q2⟩
theorem zCi{x:Str}{p:Pos}(h:Has X.prog X.w X.K X.mg X.base x n ps sp)(hr:sY n X.A)(hg:Gl X x)(hdb:(x ==("__debug__" : Str))=false:=by decide):PE X (.Call (.Name x p) [] [] pos) (zK8 sp [] E0 zTg):=by
 obtain⟨f,fd,F,b,k,m⟩:=h;exact zM3 F hr hg m k b .nil zJa hdb
def zJ8(P:Program)(w:World)(K:PySem.W.Frag)(mg:Str->Option Value)(base:Heap)(g:Addr)(n:Nat)(ps:List Str)(sp:Sp):Prop :=
 ∃ fd:FuncData,yP P w K mg base CX0 n g fd ps sp/\∀ us:List Value,us.length=ps.length->bindArgs fd ⟨us,[]⟩=pure (ps.zip us)
inductive TMeth(C:Addr)(m:Str)(x:V)(H:Hp)(q:Prop):Prop where
 | mk (a dx:Addr) (fs:List (Str×V)) (ex:x=.ref a) (ea:H a=some (.ins C dx fs)) (l:fs.lookup m=none) (k:q)
def zOp(C:Addr)(m:Str)(sp:Sp)(ta:TE)(t:TA):TE:=λσ H Q=>ta σ H λx H1=>TMeth C m x H1 (t σ H1 λvs H2=>sp (x::vs) H2 Q E0)
theorem zMr{pl:Sem Bool}(hb:InB X.base λK=>Cls K C/\zO0 K C m g)(h:zJ8 X.prog X.w X.K X.mg X.base g n ps sp)(hr:sY n X.A)(he:PE X o ta)(ha:PA X (e::es) t)
  (hst:starEach (e::es) X.env=(false,eval e X.env)::starEach es X.env:=by rfl) (hpl:(backTo pos (starEach es X.env)).any (·.1)=false:=by rfl)
  (ht:eval (.Call (.Attribute o m apos) (e::es) [] pos) X.env=(do
   let ov <- eval o X.env
   standAt apos.atName
   let (f,first) <- holding [ov] (getMethod ov m pl)
   callWith pos f first (backTo pos (starEach (e::es) X.env)) (backToKw pos (keywordEach [] X.env))):=by rfl) :
  PE X (.Call (.Attribute o m apos) (e::es) [] pos) (zOp C m sp ta t):=by
 obtain⟨K,KB,c,hm⟩:=hb;obtain⟨fd,F,b⟩:=h;intro pins s σ H Q I h;refine PySem.W.methodCall_KW (pl:=pl) (thn (he pins s σ H _ I h) λu s1 ⟨x,H1,I1,rx,a,dx,fs,ex,ea,l,q⟩=>?_) ht;subst ex;obtain rfl:u=Value.ref a:=rx;refine zDr (X:=X.withK K) (I1.withK KB) ea c hm l ?_;refine PySem.W.callWith_K (first:=[.ref a]) (h₀:=X.base) (K:=K) KB hm.kp (thn (ha pos pins s1 σ H1 _ I1 q) λus s2 ⟨vs,H2,I2,r,q2⟩=>⟨(I2.withK KB).kIn,?_⟩) hst hpl;exact zG0 (us:=.ref a::us) (vs:=.ref a::vs) (dvs:=[]) (ds:=[]) F hr (.all b) .nil zJa I2 (.cons rfl r) (by rw[List.append_nil]; exact q2)
theorem tD{pl:Sem Bool}(hb:InB X.base λK=>Cls K C/\zO0 K C m g)(h:zJ8 X.prog X.w X.K X.mg X.base g n ps sp)(hr:sY n X.A)(he:PE X o ta)
  (ht:eval (.Call (.Attribute o m apos) [] [] pos) X.env=(do
   let ov <- eval o X.env
   standAt apos.atName
   let (f,first) <- holding [ov] (getMethod ov m pl)
   callWith pos f first (backTo pos (starEach [] X.env)) (backToKw pos (keywordEach [] X.env))):=by rfl) :
  PE X (.Call (.Attribute o m apos) [] [] pos) (zOp C m sp ta zTg):=by
 obtain⟨K,KB,c,hm⟩:=hb;obtain⟨fd,F,b⟩:=h;intro pins s σ H Q I h;refine PySem.W.methodCall_KW (pl:=pl) (thn (he pins s σ H _ I h) λu s1 ⟨x,H1,I1,rx,a,dx,fs,ex,ea,l,q⟩=>?_) ht;subst ex;obtain rfl:u=Value.ref a:=rx;refine zDr (X:=X.withK K) (I1.withK KB) ea c hm l ?_;exact PySem.W.callWith_K0 (first:=[.ref a]) (I1.withK KB).kIn hm.kp (zG0 (us:=[.ref a]) (vs:=[.ref a]) (dvs:=[]) (ds:=[]) F hr (.all b) .nil zJa I1 (.cons rfl .nil) q)
def zR9(C:Addr)(sp:Sp):TE:=λ_ H Q=>∀ x dx,H x=none->H dx=none->dx≠x->sp [.ref x] (upd (upd H dx (.own x)) x (.ins C dx [])) (λv H2=>v=.non/\Q (.ref x) H2) E0
theorem yP.withK{P:Program}{w:World}{K K':PySem.W.Frag}{mg:Str->Option Value}{B:Heap}{k:Nat}{f:Addr}{fd:FuncData}(F:yP P w K mg B CX0 k f fd ps sp)(h:K.In B):yP P w K' mg B CX0 k f fd ps sp :=
 ⟨F.len,λA outer s H args us vs Q E hr e0 hb r hsp=>F.run A outer s H args us vs Q E hr { e0 with mod:=e0.mod.withK h } hb r hsp⟩
theorem zLu{x:Str}{p:Pos}(hb:InB X.base λK=>Mk K C g)(h:zJ8 X.prog X.w X.K X.mg X.base g n ps sp)(hr:sY (n+1) X.A)(hm:X.mg x=some (.ref C))(hg:Gl X x:=by rfl)(hdb:(x ==("__debug__" : Str))=false:=by decide) :
  PE X (.Call (.Name x p) [] [] pos) (zR9 C sp):=by
 obtain⟨K,KB,M⟩:=hb;obtain⟨fd,F,b⟩:=h;intro pins s σ H Q I h;refine wpAny_Call_Name_kw (vV I hg hm ?_ hdb);have J:=I.withK KB;refine PySem.W.callWith_K0 J.kIn M.kp (wpAny_mono (zMq (X:=X.withK K) (us:=[]) (vs:=[]) (dvs:=[]) (ds:=[]) M (F.withK I.ok.mod.kin) hr (.all b) .nil zJa J .nil h) (λu s' ⟨v,H',I',r,q⟩=>⟨v,H',I'.unK I.ok.mod,r,q⟩) λ_ _ z=>z)
end
end L2

namespace L2
open PySem PySem.Spec PyProof.Rows
structure M1(X:Cx)(o:Expr)(m:Str)(apos:Pos)(e:Expr)(cpos:Pos):Prop where
 base:attributeBase o m X.env (eval o X.env)=eval o X.env
 few:((backTo cpos (starEach [e] X.env)).all (λx=>!x.1)&&(backToKw cpos (keywordEach [] X.env)).all (λx=>x.1.isSome)
  && decide (([e]:List Expr).length+([]:List Keyword).length+(if ([]:List Keyword).isEmpty then 0 else 1)<30))=true
 line:(apos.endLine == cpos.line)=true
 trees:backTo cpos (starEach [e] X.env)=[(false,eval e X.env)]
structure M2(X:Cx)(o:Expr)(m:Str)(apos:Pos)(e f:Expr)(cpos:Pos):Prop where
 base:attributeBase o m X.env (eval o X.env)=eval o X.env
 few:((backTo cpos (starEach [e,f] X.env)).all (λx=>!x.1)&&(backToKw cpos (keywordEach [] X.env)).all (λx=>x.1.isSome)
  && decide (([e,f]:List Expr).length+([]:List Keyword).length+(if ([]:List Keyword).isEmpty then 0 else 1)<30))=true
 line:(apos.endLine == cpos.line)=true
 trees:backTo cpos (starEach [e,f] X.env)=[(false,eval e X.env),(false,eval f X.env)]

def IsD(H:Hp)(a:Addr):Prop:=(∃ kvs,Rd H a (.dK kvs))\/∃ kvs,Rd H a (.dT kvs)
theorem zS7{X:Cx}{pins:List (Addr×Obj)}{σ:St}{H:Hp}{s:Shared}{a:Addr}(I:Inv X pins σ H s)(d:IsD H a) :
  s.TypeIs (.ref a) "dict" /\ (∀ b,Value.ref a=.ref b->∃ ob,s.heap.get? b=some ob/\ob.dict=none)/\(a == sysModules)=false:=by
 rcases d with ⟨kvs,e⟩ | ⟨kvs,e⟩
 ·obtain⟨_,hd,vs,_,dd⟩:=zFb I.hok e;refine⟨dd.typeIs,λb q=>?_,hd⟩;cases q;obtain⟨ob,_,_,h1,h2,_⟩:=dd;exact⟨ob,h1,h2.2.1⟩
 ·obtain⟨_,hd,xs,_,dd⟩:=zJu I.hok e;refine⟨dd.typeIs,λb q=>?_,hd⟩;cases q;obtain⟨ob,_,_,h1,h2,_⟩:=dd;exact⟨ob,h1,h2.2.1⟩


def zRt(td ty:TE):TE:=λσ H Q=>td σ H λx H1=>∃ a,x=.ref a/\IsD H1 a/\ty σ H1 λy H2=>∃ kvs k v,H2 a=some (.dK kvs)/\y=kV k/\vA kvs k=some v/\Q v (upd H2 a (.dK (zJx kvs k)))
section
variable{X:Cx}{o e f:Expr}{apos cpos:Pos}{td ty tx:TE}
theorem zEl(ho:PE X o td)(he:PE X e ty)(m:M1 X o "pop" apos e cpos):PE X (.Call (.Attribute o "pop" apos) [e] [] cpos) (zRt td ty):=by
 intro pins s σ H Q I h;refine wpAny_Call_method m.base m.few m.line PySem.F.plainAttrs_dict PySem.F.slot_dict_pop PySem.F.type_dict_pop (thn (ho pins s σ H _ I h) λu s1 ⟨x,H1,I1,rx,a,ex,d,q1⟩=>?_);subst ex;obtain rfl:u=Value.ref a:=rx;obtain⟨t1,t2,_⟩:=zS7 I1 d;exists t1,t2;rw[m.trees];refine Calls.callWith_builtin rfl (Calls.evalArgs_plain (Calls.spliced_cons (thn (he pins s1 σ H1 _ I1 q1) λiv s2 ⟨y,H2,I2,ry,kvs,k,v,ea,ey,l,q2⟩=>Calls.spliced_nil ?_)));subst ey;exact d_pop I2 ea ry l (.inl rfl) λw' s3 I3 rw'=>⟨v,_,I3,rw',q2⟩
end

section
variable{X:Cx}{pins:List (Addr×Obj)}{σ:St}{H:Hp}{s:Shared}{a:Addr}{kvs:List (Key×V)}{A:Around}{E:Value->Shared->Prop}
theorem zNp{Q:Value->Shared->Prop}(I:Inv X pins σ H s)(e:Rd H a (.dK kvs))(h:∀ p s',H p=none->Inv X pins σ (upd H p (.dK kvs)) s'->Q (.ref p) s'):wpAny (model X.prog X.w) A (call (.type "dict") [.ref a]) Q E s:=by
 obtain⟨z,hd,vs,rel,dd⟩:=zFb I.hok e;refine kt_call_dict hd dd (by rw[<- rel.length]; exact z) λh' dd' hs=>?_;refine h _ _ (I.hok.fresh (Nat.le_refl _)) (I.laid (a:=s.heap.objs.size) (o:=.dK kvs) (t':=s.toks) (λb q hq=>?_) (Nat.le_refl _) (zG5 z (beq_eq_false_iff_ne.mpr (Ne.symm (Nat.ne_of_lt I.big))) rel dd'));exact(hs.2 b (Nat.ne_of_lt (Heap.lt_size hq))).trans (Heap.get?_push_of_some _ hq)
end


end L2


namespace L2
open PySem PySem.Spec PyProof.Rows
section
variable{X:Cx}{pins:List (Addr×Obj)}{σ:St}{H:Hp}{s:Shared}{d:Addr}{kvs:List (Key×V)}
theorem KV.at{vs:List (Key×Value)} : ∀{kvs:List (Key×V)}{vs:List (Key×Value)}{i:Nat}{k:Key}{v:V},KV kvs vs->kvs[i]?=some (k,v)->∃ u,vs[i]?=some (k,u)/\yQ v u
 | _,_,_,_,_,.nil,e=>by simp at e
 | _,_,0,k,v,.cons (a:=a) (b:=b) ⟨r1,r2⟩ _,e=>by
  simp at e;subst e;exact⟨b.2,by rw[show(k,b.2)=b from by rw[show k=b.1 from r1]]; rfl,r2⟩
 | _,_,i+1,k,v,.cons _ t,e=>KV.at (vs:=[]) (i:=i) t (by simpa using e)
def Itc(φ:Hp->Prop)(xs:List V):It:=⟨λi H=>φ H/\i<xs.length,λi H x H'=>H'=H/\xs[i]?=some x,λi H=>φ H/\xs.length<=i⟩
variable{tg l:Expr}{te:TE}{apos pos:Pos}
end
end L2

namespace L2
open PySem PySem.Spec PyProof.Rows
section
variable{φ:Hp->Prop}{xs:List V}{g:TG}{tb:TS}{E:zLy}{σ σ0:St}{H H1:Hp}{D:Addr}{tt:TT}{te:TE}{Q:VK}
theorem for_c(Pv:Nat->St->Hp->Prop)(h0:Pv 0 σ H)(hl:∀ i σ H,Pv i σ H->φ H)
  (hs:∀ i x σ H,xs[i]?=some x->Pv i σ H->g x σ H λσ2 H2=>tb { E with nx:=Pv (i+1),ct:=Pv (i+1),bk:=E.nx } σ2 H2) (hd:∀ σ H,Pv xs.length σ H->E.nx σ H) :
  ∃ W:Nat->Nat->St->Hp->Prop,(∃ m,W 0 m σ H)/\∀ i m σ H,W i m σ H ->
   ((Itc φ xs).stop i H/\E.nx σ H)\/((Itc φ xs).go i H/\∃ N:St->Hp->Prop,(∀ σ' H',N σ' H'->∃ m',m'<m/\W (i+1) m' σ' H')/\∀ x H',(Itc φ xs).yld i H x H'->g x σ H' λσ2 H2=>tb { E with nx:=N,ct:=N,bk:=E.nx } σ2 H2):=by
 exists λi m σ H=>m=xs.length-i/\i<=xs.length/\Pv i σ H,⟨xs.length,by simp,Nat.zero_le _,h0⟩;rintro i m σ H ⟨rfl,hi,p⟩;by_cases hlt:i<xs.length
 ·refine .inr ⟨⟨hl i σ H p,hlt⟩,Pv (i+1),λσ' H' p'=>⟨xs.length-(i+1),by lia,rfl,hlt,p'⟩,λx H' ⟨e,y⟩=>?_⟩;subst e;exact hs i x σ _ y p
 ·have e:i=xs.length:=by lia
  subst e;exact .inl ⟨⟨hl _ σ H p,Nat.le_refl _⟩,hd σ H p⟩
theorem zSn(Pv:Nat->St->List V->Hp->Prop)(h0:Pv 0 σ0 [] (upd H1 D (.lst [])))(hl:∀ i σ ys H,Pv i σ ys H->φ H/\H D=some (.lst ys))
  (hs:∀ i x σ ys H,xs[i]?=some x->Pv i σ ys H->g x σ H λσ2 H2=>tt σ2 H2 λb H3 =>
   if b=true then te σ2 H3 λy H4=>H4 D=some (.lst ys)/\ys.length<sizeLine/\Pv (i+1) σ2 (ys++[y]) (upd H4 D (.lst (ys++[y]))) else Pv (i+1) σ2 ys H3)
  (hd:∀ σ ys H,Pv xs.length σ ys H->Q (.ref D) H):zBz (Itc φ xs) D g tt te σ0 H1 Q:=by
 exists λi m σ ys H=>m=xs.length-i/\i<=xs.length/\Pv i σ ys H,⟨xs.length,by simp,Nat.zero_le _,h0⟩;rintro i m σ ys H ⟨rfl,hi,p⟩;obtain⟨q,qd⟩:=hl i σ ys H p;exists qd;by_cases hlt:i<xs.length
 ·refine .inr ⟨⟨q,hlt⟩,Pv (i+1),λσ' zs H' z=>⟨xs.length-(i+1),by lia,rfl,hlt,z⟩,λx H' ⟨e,y⟩=>?_⟩;subst e;exact hs i x σ ys _ y p
 ·have e:i=xs.length:=by lia
  subst e;exact .inl ⟨⟨q,Nat.le_refl _⟩,hd σ ys H p⟩
theorem zPe(Pv:Nat->St->List V->Hp->Prop)(h0:Pv 0 σ0 [] (upd H1 D (.lst [])))(hl:∀ i σ ys H,Pv i σ ys H->φ H/\H D=some (.lst ys))
  (hs:∀ i x σ ys H,xs[i]?=some x->Pv i σ ys H->g x σ H λσ2 H2=>te σ2 H2 λy H4=>H4 D=some (.lst ys)/\ys.length<sizeLine/\Pv (i+1) σ2 (ys++[y]) (upd H4 D (.lst (ys++[y]))))
  (hd:∀ σ ys H,Pv xs.length σ ys H->Q (.ref D) H):zBz (Itc φ xs) D g zQ6 te σ0 H1 Q:=zSn Pv h0 hl (λi x σ ys H e p=>hs i x σ ys H e p) hd
end
section
variable{X:Cx}{x y:Str}{p pos:Pos}{i e:Expr}{es:List Expr}{ty:TE}{t:TA}
theorem zIn{n:Int}(hm:∃ k,X.mg x=some (.int n k))(hg:Gl X x:=by rfl)(hd:(x ==("__debug__" : Str))=false:=by decide):PE X (.Name x pos) (tC (.int n)):=λ_ _ _ H _ I h=>by
 obtain⟨k,hm⟩:=hm;exact vV I hg hm ⟨.int n,H,I,⟨k,rfl⟩,h⟩ hd
def zQ3(P:Program)(w:World)(B:Heap)(a:Addr)(kvs:List (Key×V)):Prop:=∃ vs,KV kvs vs/\B.DictOf (yI P w) a vs
def tGet(kvs:List (Key×V))(ty:TE):TE:=λσ H Q=>ty σ H λy H1=>∃(k:Key)(v:V),y=kV k/\vA kvs k=some v/\Q v H1
theorem zOn{pins:List (Addr×Obj)}{σ:St}{H:Hp}{s:Shared}{a:Addr}{kvs:List (Key×V)}{k:Key}{v:V}{u:Value}{E:Value->Shared->Prop}{Q:Value->Shared->Prop}(hb:zQ3 X.prog X.w X.base a kvs)(I:Inv X pins σ H s)(l:vA kvs k=some v)(r:yQ (kV k) u)
  (h:∀ w' s',Inv X pins σ H s'->yQ v w'->Q w' s'):s.TypeIs (.ref a) "dict" /\ wpAny (model X.prog X.w) X.A (getItem (.ref a) u) Q E s:=by
 obtain⟨vs,rel,dd⟩:=hb;have dd:s.heap.DictOf (yI X.prog X.w) a vs:=dd.at λo e=>I.bk a o e;obtain⟨w',hw,rw'⟩:=zFi.some_of (v:=v) (o:=valueAt vs k) (by rw[<- l]; exact rel.val k);exact⟨dd.typeIs,wpAny_getItem_of (zEy r) dd.mapOf hw (h w' _ (I.tok _) rw')⟩
theorem zN8{a:Addr}{kvs:List (Key×V)}(hb:zQ3 X.prog X.w X.base a kvs)(hm:X.mg x=some (.ref a))(hi:PE X i ty)(hs:zTj i:=by exact λ_ _=>rfl)(hg:Gl X x:=by rfl)(hd:(x ==("__debug__" : Str))=false:=by decide) :
  PE X (.Subscript (.Name x p) i pos) (tGet kvs ty):=by
 intro pins s σ H Q I h;refine zHk PySem.F.slot_dict_getitem.lookup hs (vV I hg hm (thn (hi pins s σ H _ I h) λiv s2 ⟨y,H2,I2,ry,k,v,ey,l,q2⟩=>?_) hd);subst ey;exact zOn hb I2 l ry λw' s3 I3 rw'=>⟨v,H2,I3,rw',q2⟩
structure zRm(P:Program)(w:World)(K:PySem.W.Frag)(mg:Str->Option Value)(B:Heap)(m:Nat)(kvs:List (Key×V))(k:Key)(sp:Sp):Prop where
 mk ::
 has:∃(x:Str)(f:Addr)(n:Nat)(ps:List Str),vA kvs k=some (.ref f)/\mg x=some (.ref f)/\Has P w K mg B x n ps sp/\n<=m
def tTab(tab:List (Key×Sp))(ty:TE)(t:TA):TE:=λσ H Q=>ty σ H λy H1=>∃(k:Key)(sp:Sp),y=kV k/\(k,sp)∈tab/\t σ H1 λvs H2=>sp vs H2 Q E0
theorem zRy{a:Addr}{m:Nat}{kvs:List (Key×V)}{tab:List (Key×Sp)}{p':Pos}(hb:zQ3 X.prog X.w X.base a kvs)(hm:X.mg x=some (.ref a))(hT:∀ r∈tab,zRm X.prog X.w X.K X.mg X.base m kvs r.1 r.2)(hr:sY m X.A)(hi:PE X i ty)(ha:PA X (e::es) t)
  (hs:zTj i:=by exact λ_ _=>rfl) (hg:Gl X x:=by rfl) (hd:(x ==("__debug__" : Str))=false:=by decide)
  (he:starEach (e::es) X.env=(false,eval e X.env)::starEach es X.env:=by rfl) (hpl:(backTo pos (starEach es X.env)).any (·.1)=false:=by rfl)
  (hev:eval (.Call (.Subscript (.Name x p) i p') (e::es) [] pos) X.env=(do callWith pos (<- eval (.Subscript (.Name x p) i p') X.env) [] (backTo pos (starEach (e::es) X.env)) (backToKw pos (keywordEach [] X.env))):=by rfl) :
  PE X (.Call (.Subscript (.Name x p) i p') (e::es) [] pos) (tTab tab ty t):=by
 intro pins s σ H Q I h;refine Call_ (zHk PySem.F.slot_dict_getitem.lookup hs (vV I hg hm (thn (hi pins s σ H _ I h) λiv s2 ⟨y,H2,I2,ry,k,sp,ey,mem,q2⟩=>?_) hd)) hev;subst ey;obtain⟨x',f,n,ps,l,mx,⟨f',fd,F,b,kp,mx'⟩,hn⟩:=(hT _ mem).has;rw[mx] at mx';cases mx';refine zOn hb I2 l ry λw' s3 I3 rw'=>?_;cases rw';refine PySem.W.callWith_K (h₀:=X.base) I.ok.mod.kin kp (thn (ha pos pins s3 σ H2 _ I3 q2) λus s4 ⟨vs,H4,I4,r,q4⟩=>⟨I4.kIn,?_⟩) he hpl;exact zG0 (dvs:=[]) (ds:=[]) F (hr.mono hn) b .nil zJa I4 r (by rw[List.append_nil]; exact q4)
end
theorem zAc:bootBuiltins "dict" = some (.type "dict"):=by decide +kernel
section
variable{X:Cx}
theorem rB:wR X (.type "dict") (λxs H Q=>∃(a:Addr)(kvs:List (Key×V)),xs=[.ref a]/\Rd H a (.dK kvs)/\∀ p,H p=none->Q (.ref p) (upd H p (.dK kvs))):=by
 intro pins s σ H xs us Q I r h;obtain⟨a,kvs,rfl,ha,q⟩:=h;obtain⟨u,rfl,ru⟩:=zDo r;cases ru;exact zNp I ha λp s' hp I'=>⟨.ref p,_,I',rfl,q p hp⟩
theorem qJ:wR X (.builtin "len") (λxs H Q=>∃(a:Addr)(kvs:List (Key×V)),xs=[.ref a]/\Rd H a (.dK kvs)/\Q (.int kvs.length) H):=by
 intro pins s σ H xs us Q I r h;obtain⟨a,kvs,rfl,ha,q⟩:=h;obtain⟨u,rfl,ru⟩:=zDo r;cases ru;exact d_len I ha λt s' I'=>⟨.int kvs.length,H,I',⟨t,rfl⟩,q⟩
theorem zFo{P:Program}{w:World} : ∀{es:List DictEntry}{kvs:List (Key×V)}{vs:List (Key×Value)},KV kvs vs->Pairs (yI P w) es vs->yL (kvs.map λkv=>kV kv.1) (es.map (·.key))
 | _,_,_,.nil,.nil=>.nil
 | _,_,_,.cons ⟨r1,_⟩ t,.cons hk _ p=>by
  refine .cons ?_ (zFo t p);dsimp only;rw[r1];rcases yH hk with ⟨j,t,e1,e2⟩ | ⟨x,t,e1,e2⟩
  ·rw[e1,e2]; exact⟨t,rfl⟩
  ·rw[e1,e2]; exact⟨t,rfl⟩
theorem sQ(hc:X.calm=true):wR X (.type "list") (λxs H Q=>∃(d:Addr)(kvs:List (Key×V)),xs=[.ref d]/\Rd H d (.dK kvs)/\∀ p,H p=none->Q (.ref p) (upd H p (.lst (kvs.map λkv=>kV kv.1)))):=by
 intro pins s σ H xs us Q I r h;obtain⟨d,kvs,rfl,hd,q⟩:=h;obtain⟨u,rfl,ru⟩:=yL.one r;cases ru;obtain⟨hz,hsm,vs,rel,ob,es,age,g,ex,dat,hk,hp,hn⟩:=zFb I.hok hd;have vk:=zFo rel hp;have hsz:es.size=kvs.length:=by
  have z:=vk.length;rw[List.length_map,List.length_map,Array.length_toList] at z;exact z.symm
 refine PySem.W.kdl_call (zQy (rows:=es) (age:=age) hsm) (show X.A.handled=none from I.ok.hd hc) ⟨ob,g,ex,dat⟩ (by rw[hsz]; exact hz) λh' tk acc c keep at' its=>?_;have eqs:acc.toList=es.toList.map (·.key):=by
  refine List.ext_getElem? λj=>?_;by_cases hj:j<es.size
  ·have ja:j<acc.size:=by rw[its.1]; exact hj
   obtain⟨hj',e⟩:=its.2 j acc[j] (by simp[ja]);rw[Array.getElem?_toList,Array.getElem?_eq_getElem ja,e,List.getElem?_map,Array.getElem?_toList,Array.getElem?_eq_getElem hj];rfl
  ·rw[List.getElem?_eq_none (by rw[Array.length_toList,its.1]; lia),List.getElem?_eq_none (by simp; lia)]
 refine⟨.ref s.heap.objs.size,_,I.laid (t':=tk) (a:=s.heap.objs.size) (o:=.lst (kvs.map λkv=>kV kv.1)) keep (Nat.le_refl _) ?_,rfl,q _ (I.hok.fresh (Nat.le_refl _))⟩;exists by rw[List.length_map]; exact hz,_,c,vk;rw[<- eqs,Array.toArray_toList];exact at'
end
end L2

namespace L2
open PySem PySem.Spec PyProof.Rows
def zFr(x:Str):List V:=x.cps.toList.map λc=>.str ⟨#[c]⟩
section
variable{X:Cx}{tg l:Expr}{te:TE}
theorem zMx{P:Program}{w:World}{K:PySem.W.Frag}{tg:Expr}(x:Str)(t:Tok)(it:Addr):zQ4 P w K tg (Itc (λ_=>True) (zFr x)) [it] it (λi h=>h.IsStrIter it "str_ascii_iterator" x t i) where
 mem:=by simp
 obj:=λi h st b hb=>by
  have e:b=it:=by simpa using hb
  subst e;obtain⟨o,e,c,d⟩:=st;exact⟨o,e,λv z=>by rw[d] at z; cases z⟩
 keep:=λi h h' ⟨o,ho,r⟩ k=>⟨o,k it (by simp) o ho,r⟩
 item:=by
  intro X hP hw hK hc i pins s σ H E I hf st ⟨_,hi⟩;subst hP hw hK;have hi':i<x.cps.size:=by unfold zFr at hi; rw[List.length_map,Array.length_toList] at hi; exact hi
  obtain⟨f0,f1,f2,f3,f4,f5⟩:=hf it (by simp);refine wpAny_pyNext_ascii_item st (c:=x.cps[i]) (Array.getElem?_eq_getElem hi') λh' st2 sb=>?_;have I1:Inv X pins σ H { s with heap:=h',toks:=s.toks+1 }:=I.turned (t':=s.toks+1) (λb o hb e=>(sb.2 b hb).trans e) f0 f1 f3 f4 f5;obtain⟨o,e,c,dd⟩:=id st2;exact⟨_,rfl,zMs (s:={ s with heap:=h',toks:=s.toks+1 }) e c dd (by decide) ⟨.str ⟨#[x.cps[i]]⟩,H,I1,⟨_,rfl⟩,⟨rfl,by unfold zFr; rw[List.getElem?_map,Array.getElem?_toList,Array.getElem?_eq_getElem hi']; rfl⟩,st2,λb hb=>(hf b hb).1⟩⟩
 done:=by
  intro X hP hw hK hc i pins s σ H E I hf st ⟨_,hi⟩;subst hP hw hK;have hi':x.cps.size<=i:=by unfold zFr at hi; rw[List.length_map,Array.length_toList] at hi; exact hi
  obtain⟨f0,f1,f2,f3,f4,f5⟩:=hf it (by simp);exact wpAny_pyNext_ascii_end (I.ok.hd hc) st (Array.getElem?_eq_none hi') λh' eb=>⟨rfl,I.turned (t':=s.toks) (λb o hb e=>eb b o hb e) f0 f1 f3 f4 f5⟩
 self:=λ_ _ _ _ _ st h=>wpAny_pyIter_striter_ascii st h
def iStr(te:TE):TI:=λσ H R=>te σ H λv H1=>∃ x:Str,v=.str x/\x.cps.all (· < 128)=true/\R (Itc (λ_=>True) (zFr x)) H1
theorem zTe(hl:PE X l te):PI X tg l (iStr te):=by
 intro pins s σ H R I h;refine thn (hl pins s σ H _ I h) λv s1 ⟨y,H1,I1,r1,x,e,ha,q⟩=>?_;subst e;obtain⟨t,rfl⟩:=r1;refine wpAny_pyIter_ascii ha ?_;refine⟨s1.heap.objs.size,[s1.heap.objs.size],_,_,H1,rfl,I1.kept (t':=s1.toks) λb o e=>Heap.get?_push_of_some _ e,zMx x t _,⟨_,Heap.get?_push_size _ rfl,rfl,rfl⟩,λb hb=>?_,q⟩;have e:b=s1.heap.objs.size:=by simpa using hb
 subst e;exact I1.fpOk (Nat.le_refl _) (I1.hok.fresh (Nat.le_refl _))
theorem zGk:OpR X (compareOp .LtE) (λx y H Q=>∃ i j,x=.str i/\y=.str j/\Q (.bl (!decide (j.cps.toList<i.cps.toList))) H):=by
 intro pins s σ H x y v u Q I rx ry h;obtain⟨i,j,rfl,rfl,q⟩:=h;obtain⟨t,rfl⟩:=rx;obtain⟨t',rfl⟩:=ry;exact PySem.P.le_str (yJ I q rfl)
theorem zOs:SlR X (λx lo hi H Q=>∃ z:Str,x=.str z/\z.length<=sizeLine/\Q (.str (Txt.slice z lo hi)) H):=by
 intro pins s σ H x v vl vu lo hi sl Q I rx hs pl pu h;obtain⟨z,rfl,hz,q⟩:=h;obtain⟨t,rfl⟩:=rx;have fin:∀(l u:Option (Int×Tok)),l.map (·.1)=lo->u.map (·.1)=hi->(sliceMade z t l u none).post (EP X pins σ Q) s:=λl u e1 e2=>by
  subst e1 e2;exact post_val_or_str (t:=t) (s:=s) (Q:=EP X pins σ Q) ⟨Nat.le_trans (Txt.slice_le z _ _) hz,λt' k=>⟨.str (Txt.slice z _ _),H,I.tok k,⟨t',rfl⟩,q⟩⟩
 exists "str", _,F.slot_str_getitem.lookup,typeIs_str _ _ _;obtain⟨o,ho,hc,hd⟩:=hs;cases pl with
 | none =>
  cases pu with
  | none=>exact wpAny_getItem_str_slice (l:=none) (u:=none) (st:=none) ⟨o,ho,hc,hd⟩ rfl (fin none none rfl rfl)
  | int j tj=>exact wpAny_getItem_str_slice (l:=none) (u:=some (j,tj)) (st:=none) ⟨o,ho,hc,hd⟩ rfl (fin none (some (j,tj)) rfl rfl)
 | int i ti =>
  cases pu with
  | none=>exact wpAny_getItem_str_slice (l:=some (i,ti)) (u:=none) (st:=none) ⟨o,ho,hc,hd⟩ rfl (fin (some (i,ti)) none rfl rfl)
  | int j tj=>exact wpAny_getItem_str_slice (l:=some (i,ti)) (u:=some (j,tj)) (st:=none) ⟨o,ho,hc,hd⟩ rfl (fin (some (i,ti)) (some (j,tj)) rfl rfl)
theorem zF2:∀{ts:List Str}{us:List Value},yL (ts.map V.str) us->∃ l:List (Str×Tok),us=strValues l/\l.map (·.1)=ts
 | [],_,.nil=>⟨[],rfl,rfl⟩
 | x::ts,_,.cons ⟨t,e⟩ r=>by
  obtain⟨l,e1,e2⟩:=zF2 r;subst e;exact⟨(x,t)::l,by rw[e1]; rfl,by rw[List.map_cons,e2]⟩
theorem zMa(sep:Str):∀ zs:List Str,(Str.join sep zs).length<=(zs.map (·.length)).sum+zs.length*sep.length
 | []=>Nat.zero_le _
 | [y]=>by
  show y.length<=_;simp
 | y::z::l=>by
  have ih:=zMa sep (z::l);have e:(Str.join sep (y::z::l)).length=y.length+sep.length+(Str.join sep (z::l)).length:=by
   show(y++sep++Str.join sep (z::l)).length=_;rw[strLen_append,strLen_append]
  rw[e];simp only[List.map_cons,List.sum_cons,List.length_cons,Nat.succ_mul] at ih ⊢;lia
def zDb(sep:Str)(ts:List Str):Nat:=(ts.map (·.length)).sum+ts.length*sep.length
theorem zP9:MtR X "str.join" (λx xs H Q=>∃(sep:Str)(a:Addr)(ts:List Str),x=.str sep/\xs=[.ref a]/\SqL X.K H a (ts.map V.str)/\zDb sep ts<=sizeLine/\Q (.str (Builtin.Str.glued sep ts)) H):=by
 intro pins s σ H x xs v us Q I rx rv h;obtain⟨sep,a,ts,rfl,rfl,ha,hl,q⟩:=h;obtain⟨t,rfl⟩:=rx;obtain⟨u,rfl,ru⟩:=yL.one rv;cases ru;obtain⟨its,r,p,_⟩:=I.list ha;obtain⟨l,rfl,el⟩:=zF2 r;have ht:Builtin.Str.tooLong ((l.map (·.1)).toArray.foldl (· + ·.length+sep.length) 0)=false:=by
  rw[el,PySem.StrLaws.joinTotal];exact decide_eq_false (by unfold zDb at hl; lia)
 refine call_meets F.slot_str_join (typeIs_str _ _ _) F.entry_str_join (F.args_str_join_2 _ _) (meets_str_join_list sep t a l ht) ⟨p.isList,?_⟩;have gl:∀ zs:List Str,(Builtin.Str.glued sep zs).length<=zDb sep zs:=λzs=>by
  rw[PySem.StrLaws.glued_eq_join];exact zMa sep zs
 match l,el with
 | [],el =>
  subst el;exact⟨Nat.le_trans (gl []) hl,⟨.str _,H,I.tok _,⟨_,rfl⟩,q⟩⟩
 | [y],el =>
  subst el;exact⟨.str y.1,H,I,⟨y.2,rfl⟩,q⟩
 | y::z::l,el =>
  subst el;exact⟨Nat.le_trans (gl _) hl,⟨.str _,H,I.tok _,⟨_,rfl⟩,q⟩⟩
end
end L2

namespace Sea
open PySem L2
inductive Dt where
 | int (i:Int)
 | str (x:Str)
 | tup (l:List Dt)
mutual
def Rep(H:Hp):Dt->V->Prop
 | .int i,v=>v=.int i
 | .str x,v=>v=.str x
 | .tup l,v=>∃(a:Addr)(xs:List V),v=.ref a/\H a=some (.tup xs)/\xJ H l xs
def xJ(H:Hp):List Dt->List V->Prop
 | [],xs=>xs=[]
 | d::l,xs=>∃(x:V)(r:List V),xs=x::r/\Rep H d x/\xJ H l r
end
def uM(φ:Addr->Prop)(H H':Hp):Prop:=∀ b o,¬ φ b->H b=some o->H' b=some o\/∃(ob:Obj)(kvs:List (Key×V)),o=.dK kvs/\H' b=some (.frz ob (.dK kvs))
abbrev Sam(H H':Hp):Prop:=uM (λ_=>False) H H'
section
variable{φ ψ:Addr->Prop}{H H1 H2:Hp}{a:Addr}{xs:List V}
theorem uM.of(s:Same H H1):uM φ H H1:=λb o _ e=>.inl (s b o e)
theorem uM.refl(H:Hp):uM φ H H:=λ_ _ _ e=>.inl e
theorem uM.trans(s:uM φ H H1)(t:uM φ H1 H2):uM φ H H2:=λb o n e=>by
 rcases s b o n e with e1 | ⟨ob,kvs,e0,e1⟩
 ·exact t b o n e1
 ·subst e0;rcases t b _ n e1 with e2 | ⟨_,_,z,_⟩
  ·exact .inr ⟨ob,kvs,rfl,e2⟩
  ·cases z
theorem uM.wider(s:uM φ H H1)(h:∀ b,φ b->ψ b):uM ψ H H1:=λb o n e=>s b o (λz=>n (h b z)) e
theorem uM.lst(s:uM φ H H1)(n:¬ φ a)(e:H a=some (.lst xs)):H1 a=some (.lst xs):=by
 rcases s a _ n e with z | ⟨_,_,z,_⟩
 ·exact z
 ·cases z
theorem uM.tup(s:uM φ H H1)(n:¬ φ a)(e:H a=some (.tup xs)):H1 a=some (.tup xs):=by
 rcases s a _ n e with z | ⟨_,_,z,_⟩
 ·exact z
 ·cases z
theorem uM.ins(s:uM φ H H1)(n:¬ φ a){C dx:Addr}{fs:List (Str×V)}(e:H a=some (.ins C dx fs)):H1 a=some (.ins C dx fs):=by
 rcases s a _ n e with z | ⟨_,_,z,_⟩
 ·exact z
 ·cases z
theorem uM.rd(s:uM φ H H1)(n:¬ φ a){kvs:List (Key×V)}(e:Rd H a (.dK kvs)):Rd H1 a (.dK kvs):=by
 rcases e with e | ⟨ob,e⟩
 ·rcases s a _ n e with z | ⟨ob,kvs',z,w⟩
  ·exact .inl z
  ·cases z;exact .inr ⟨ob,w⟩
 ·rcases s a _ n e with z | ⟨_,_,z,_⟩
  ·exact .inr ⟨ob,z⟩
  ·cases z
end
mutual
theorem Rep.sam{φ:Addr->Prop}{H H1:Hp}(s:uM φ H H1)(np:∀ b xs,H b=some (.tup xs)->¬ φ b):∀{d:Dt}{v:V},Rep H d v->Rep H1 d v
 | .int _,_,h=>by rw[Rep] at h ⊢; exact h
 | .str _,_,h=>by rw[Rep] at h ⊢; exact h
 | .tup l,v,h=>by
  rw[Rep] at h ⊢;obtain⟨a,xs,e,h1,h2⟩:=h;exact⟨a,xs,e,s.tup (np a xs h1) h1,xJ.sam s np h2⟩
theorem xJ.sam{φ:Addr->Prop}{H H1:Hp}(s:uM φ H H1)(np:∀ b xs,H b=some (.tup xs)->¬ φ b):∀{l:List Dt}{xs:List V},xJ H l xs->xJ H1 l xs
 | [],_,h=>by rw[xJ] at h ⊢; exact h
 | d::l,xs,h=>by
  rw[xJ] at h ⊢;obtain⟨x,r,e,h1,h2⟩:=h;exact⟨x,r,e,Rep.sam s np h1,xJ.sam s np h2⟩
end
section
variable{H H1:Hp}
theorem no_f{H:Hp} : ∀ b xs,H b=some (.tup xs)->¬ (λ_:Addr=>False) b:=λ_ _ _ z=>z
theorem Rep.to{d:Dt}{v:V}(h:Rep H d v)(s:Sam H H1):Rep H1 d v:=h.sam s no_f
theorem xJ.to{l:List Dt}{xs:List V}(h:xJ H l xs)(s:Sam H H1):xJ H1 l xs:=h.sam s no_f
theorem xL{i:Int}{v:V} : Rep H (.int i) v↔v=.int i:=by rw[Rep]
theorem xM{x:Str}{v:V} : Rep H (.str x) v↔v=.str x:=by rw[Rep]
theorem vW{l:List Dt}{v:V} : Rep H (.tup l) v↔∃(a:Addr)(xs:List V),v=.ref a/\H a=some (.tup xs)/\xJ H l xs:=by rw[Rep]
theorem yF{xs:List V} : xJ H [] xs↔xs=[]:=by rw[xJ]
theorem zK{d:Dt}{l:List Dt}{xs:List V} : xJ H (d::l) xs↔∃(x:V)(r:List V),xs=x::r/\Rep H d x/\xJ H l r:=by rw[xJ]
theorem xJ.length:∀{l:List Dt}{xs:List V},xJ H l xs->xs.length=l.length
 | [],_,h=>by rw[yF.mp h]; rfl
 | d::l,_,h=>by
  obtain⟨x,r,e,_,h2⟩:=zK.mp h;rw[e,List.length_cons,List.length_cons,xJ.length h2]
theorem xJ.at:∀{l:List Dt}{xs:List V}{i:Nat}{d:Dt},xJ H l xs->l[i]?=some d->∃ x,xs[i]?=some x/\Rep H d x
 | [],_,_,_,_,e=>by simp at e
 | d::l,_,0,_,h,e=>by
  obtain⟨x,r,ex,h1,_⟩:=zK.mp h;simp at e;subst e;exact⟨x,by rw[ex]; rfl,h1⟩
 | d::l,_,i+1,d',h,e=>by
  obtain⟨x,r,ex,_,h2⟩:=zK.mp h;obtain⟨y,h3,h4⟩:=xJ.at (i:=i) (d:=d') h2 (by simpa using e);exact⟨y,by rw[ex]; simpa using h3,h4⟩
theorem xJ.back:∀{l:List Dt}{xs:List V}{i:Nat}{x:V},xJ H l xs->xs[i]?=some x->∃ d,l[i]?=some d/\Rep H d x
 | [],_,i,x,h,e=>by rw[yF.mp h] at e; simp at e
 | d::l,_,0,x,h,e=>by
  obtain⟨y,r,ex,h1,_⟩:=zK.mp h;rw[ex] at e;simp at e;subst e;exact⟨d,rfl,h1⟩
 | d::l,_,i+1,x,h,e=>by
  obtain⟨y,r,ex,_,h2⟩:=zK.mp h;rw[ex] at e;obtain⟨d',h3,h4⟩:=xJ.back (i:=i) (x:=x) h2 (by simpa using e);exact⟨d',by simpa using h3,h4⟩
theorem xJ.app:∀{l m:List Dt}{xs ys:List V},xJ H l xs->xJ H m ys->xJ H (l++m) (xs++ys)
 | [],_,_,_,h,k=>by rw[yF.mp h]; exact k
 | d::l,_,_,_,h,k=>by
  obtain⟨x,r,e,h1,h2⟩:=zK.mp h;rw[e];exact zK.mpr ⟨x,_,rfl,h1,xJ.app h2 k⟩
theorem xJ.one{d:Dt}{v:V}(h:Rep H d v):xJ H [d] [v]:=zK.mpr ⟨v,[],rfl,h,yF.mpr rfl⟩
theorem xJ.two{d e:Dt}{v u:V}(h:Rep H d v)(k:Rep H e u):xJ H [d,e] [v,u]:=zK.mpr ⟨v,_,rfl,h,.one k⟩
end
structure xX(H:Hp)(kvs:List (Key×V))(es:List (Key×Dt)):Prop where
 keys:kvs.map (·.1)=es.map (·.1)
 vals:xJ H (es.map (·.2)) (kvs.map (·.2))
def sZ(H:Hp)(a:Addr)(es:List (Key×Dt)):Prop:=∃ kvs,Rd H a (.dK kvs)/\xX H kvs es
def look(es:List (Key×Dt))(k:Key):Option Dt:=(es.find? λe=>decide (e.1=k)).map (·.2)
def zTk(es:List (Key×Dt))(k:Key)(d:Dt):List (Key×Dt):=if es.any (λe=>decide (e.1=k)) then es.map λe=>if e.1=k then(e.1,d) else e else es++[(k,d)]
theorem xX.nil{H:Hp} : xX H [] []:=⟨rfl,yF.mpr rfl⟩
theorem xX.cons_iff{H:Hp}{kvs:List (Key×V)}{k:Key}{d:Dt}{es:List (Key×Dt)} : xX H kvs ((k,d)::es)↔∃(v:V)(r:List (Key×V)),kvs=(k,v)::r/\Rep H d v/\xX H r es:=by
 constructor
 ·rintro⟨h1,h2⟩;cases kvs with
  | nil=>simp at h1
  | cons p r =>
   obtain⟨k',v⟩:=p;simp only[List.map_cons,List.cons.injEq] at h1;obtain⟨e1,e2⟩:=h1;subst e1;obtain⟨x,r',e,h3,h4⟩:=zK.mp h2;simp only[List.map_cons,List.cons.injEq] at e;obtain⟨e3,e4⟩:=e;subst e3 e4;exact⟨v,r,rfl,h3,e2,h4⟩
 ·rintro⟨v,r,rfl,h1,h2⟩;exact⟨by simp[h2.keys],zK.mpr ⟨v,_,rfl,h1,h2.vals⟩⟩
theorem xX.nil_iff{H:Hp}{kvs:List (Key×V)}(h:xX H kvs []):kvs=[]:=by
 have:=h.keys;simpa using this
theorem xX.to{H H1:Hp}{kvs:List (Key×V)}{es:List (Key×Dt)}(h:xX H kvs es)(s:Sam H H1):xX H1 kvs es:=⟨h.keys,h.vals.to s⟩
theorem xX.sam{φ:Addr->Prop}{H H1:Hp}{kvs:List (Key×V)}{es:List (Key×Dt)}(h:xX H kvs es)(s:uM φ H H1)(np:∀ b xs,H b=some (.tup xs)->¬ φ b):xX H1 kvs es:=⟨h.keys,h.vals.sam s np⟩
theorem sZ.to{H H1:Hp}{a:Addr}{es:List (Key×Dt)}(h:sZ H a es)(s:Sam H H1):sZ H1 a es:=let ⟨kvs,h1,h2⟩:=h;⟨kvs,s.rd id h1,h2.to s⟩
theorem xX.length{H:Hp}{kvs:List (Key×V)}{es:List (Key×Dt)}(h:xX H kvs es):kvs.length=es.length:=by
 have:=congrArg List.length h.keys;simpa using this
theorem xX.get{H:Hp}{k:Key} : ∀{es:List (Key×Dt)}{kvs:List (Key×V)}{d:Dt},xX H kvs es->look es k=some d->∃ v,vA kvs k=some v/\Rep H d v
 | [],_,_,_,e=>by simp[look] at e
 | (k',d')::es,kvs,d,h,e=>by
  obtain⟨v,r,rfl,h1,h2⟩:=xX.cons_iff.mp h;by_cases z:k'=k
  ·rw[xR z];simp only[look,List.find?_cons,decide_eq_true z,Option.map_some,Option.some.injEq] at e;subst e;exact⟨v,rfl,h1⟩
  ·rw[xC z];refine xX.get h2 ?_;simp only[look,List.find?_cons,decide_eq_false z] at e;exact e
theorem xX.none{H:Hp}{k:Key} : ∀{es:List (Key×Dt)}{kvs:List (Key×V)},xX H kvs es->look es k=none->vA kvs k=none
 | [],_,h,_=>by rw[h.nil_iff]; rfl
 | (k',d')::es,kvs,h,e=>by
  obtain⟨v,r,rfl,h1,h2⟩:=xX.cons_iff.mp h;by_cases z:k'=k
  ·simp[look,List.find?_cons,z] at e
  ·rw[xC z];refine xX.none h2 ?_;simp only[look,List.find?_cons,decide_eq_false z] at e;exact e
theorem xX.isSome{H:Hp}{k:Key}{es:List (Key×Dt)}{kvs:List (Key×V)}(h:xX H kvs es):(vA kvs k).isSome=(look es k).isSome:=by
 cases e:look es k with
 | none=>rw[h.none e]; rfl
 | some d =>
  obtain⟨v,z,_⟩:=h.get e;rw[z];rfl
theorem xX.any{H:Hp}{k:Key} : ∀{es:List (Key×Dt)}{kvs:List (Key×V)},xX H kvs es->(kvs.any λe=>decide (e.1=k))=es.any λe=>decide (e.1=k)
 | [],_,h=>by rw[h.nil_iff]; rfl
 | (k',d')::es,kvs,h=>by
  obtain⟨v,r,rfl,h1,h2⟩:=xX.cons_iff.mp h;rw[List.any_cons,List.any_cons,xX.any h2]
theorem xX.rep{H:Hp}{k:Key}{v:V}{d:Dt}(hv:Rep H d v):∀{es:List (Key×Dt)}{kvs:List (Key×V)},xX H kvs es->xX H (kvs.map λe=>if e.1=k then(e.1,v) else e) (es.map λe=>if e.1=k then(e.1,d) else e)
 | [],_,h=>by rw[h.nil_iff]; exact .nil
 | (k',d')::es,kvs,h=>by
  obtain⟨u,r,rfl,h1,h2⟩:=xX.cons_iff.mp h;rw[List.map_cons,List.map_cons];by_cases z:k'=k
  ·rw[if_pos z,if_pos z];exact xX.cons_iff.mpr ⟨v,_,rfl,hv,xX.rep hv h2⟩
  ·rw[if_neg z,if_neg z];exact xX.cons_iff.mpr ⟨u,_,rfl,h1,xX.rep hv h2⟩
theorem xX.app{H:Hp}{k:Key}{v:V}{d:Dt}(hv:Rep H d v):∀{es:List (Key×Dt)}{kvs:List (Key×V)},xX H kvs es->xX H (kvs++[(k,v)]) (es++[(k,d)])
 | [],_,h=>by rw[h.nil_iff]; exact xX.cons_iff.mpr ⟨v,[],rfl,hv,.nil⟩
 | (k',d')::es,kvs,h=>by
  obtain⟨u,r,rfl,h1,h2⟩:=xX.cons_iff.mp h;exact xX.cons_iff.mpr ⟨u,_,rfl,h1,xX.app hv h2⟩
theorem xX.put{H:Hp}{k:Key}{v:V}{d:Dt}{es:List (Key×Dt)}{kvs:List (Key×V)}(h:xX H kvs es)(hv:Rep H d v):xX H (tL kvs k v) (zTk es k d):=by
 unfold tL zTk;rw[h.any];split
 ·exact h.rep hv
 ·exact h.app hv
end Sea

namespace Sea
open PySem L2
inductive Deed where
 | mark (n:Str) (x y:Int)
 | move (n:Str) (x y:Int)
 | unmark (n:Str)
 | bank (n:Str) (cs:List (Int×Int))
 | level (n:Str)
 | sail (x y:Int)
 | right (k x y:Int)
 | bearing (m:Int) (n:Str) (a b c d:Int)
 | range (m:Int) (l r:Str)
 | strike (k:Int)
def ptD(p:Int×Int):Dt:=.tup [.int p.1,.int p.2]
def Deed.dt:Deed->Dt
 | .mark n x y=>.tup [.str "mark", .str n,.int x,.int y]
 | .move n x y=>.tup [.str "move", .str n,.int x,.int y]
 | .unmark n=>.tup [.str "unmark", .str n]
 | .bank n cs=>.tup [.str "bank", .str n,.tup (cs.map ptD)]
 | .level n=>.tup [.str "level", .str n]
 | .sail x y=>.tup [.str "sail", .int x,.int y]
 | .right k x y=>.tup [.str "right", .int k,.int x,.int y]
 | .bearing m n a b c d=>.tup [.str "bearing", .int m,.str n,ptD (a,b),ptD (c,d)]
 | .range m l r=>.tup [.str "range", .int m,.str l,.str r]
 | .strike k=>.tup [.str "strike", .int k]
structure BS where
 marks:List (Str×Int×Int)
 banks:List (Str×List (Int×Int))
 runs:List (Int×Int)
 notes:List (Int×Deed)
 coming:Int
def BS.nil:BS:=⟨[],[],[],[],1⟩
def mkE(l:List (Str×Int×Int)):List (Key×Dt):=l.map λe=>(.inr e.1,ptD e.2)
def bkE(l:List (Str×List (Int×Int))):List (Key×Dt):=l.map λe=>(.inr e.1,.tup (e.2.map ptD))
def rnE(l:List (Int×Int)):List (Key×Dt):=l.zipIdx.map λe=>(.inl (e.2:Int),ptD e.1)
def ntE(l:List (Int×Deed)):List (Key×Dt):=l.map λe=>(.inl e.1,e.2.dt)
def stK(m b r n:Addr)(k:Int):List (Key×V):=[(.inr "marks", .ref m),(.inr "banks", .ref b),(.inr "runs", .ref r),(.inr "notes", .ref n),(.inr "coming", .int k)]
structure StA(H:Hp)(d m b r n:Addr)(S:BS):Prop where
 at_:Rd H d (.dK (stK m b r n S.coming))
 ma:sZ H m (mkE S.marks)
 ba:sZ H b (bkE S.banks)
 ru:sZ H r (rnE S.runs)
 no:sZ H n (ntE S.notes)
def zH8(H:Hp)(d:Addr)(S:BS):Prop:=∃ m b r n,StA H d m b r n S
theorem StA.to{H H1:Hp}{d m b r n:Addr}{S:BS}(h:StA H d m b r n S)(s:Sam H H1):StA H1 d m b r n S:=⟨s.rd id h.at_,h.ma.to s,h.ba.to s,h.ru.to s,h.no.to s⟩
theorem zH8.to{H H1:Hp}{d:Addr}{S:BS}(h:zH8 H d S)(s:Sam H H1):zH8 H1 d S:=let ⟨m,b,r,n,q⟩:=h;⟨m,b,r,n,q.to s⟩
def zZ(S:BS)(n:Str):Option (Int×Int):=(S.marks.find? λe=>decide (e.1=n)).map (·.2)
theorem zB9{S:BS}{n:Str} : look (mkE S.marks) (.inr n)=(zZ S n).map ptD:=by
 unfold look mkE zZ;rw[List.find?_map];have e:((λe:Key×Dt=>decide (e.1=Sum.inr n)) ∘ λe:Str×Int×Int=>((Sum.inr e.1,ptD e.2):Key×Dt))=λe=>decide (e.1=n):=by
  funext e
  simp
 rw[e];cases S.marks.find? λe=>decide (e.1=n) <;> rfl
structure Few(S:BS):Prop where
 ma:S.marks.length<=60
 ba:S.banks.length<=60
 ru:S.runs.length<=60
 no:S.notes.length<=60
def zCd(x:Str):Prop:=1<=x.length/\x.length<=8/\∀ c∈x.cps.toList,97<=c/\c<=122
def zG8(p:Int×Int):Prop:=-1000<=p.1/\p.1<=1000/\-1000<=p.2/\p.2<=1000
def zA9(p:Int×Int):Prop:=p≠(0,0)/\-100<=p.1/\p.1<=100/\-100<=p.2/\p.2<=100
def okD(S:BS):Deed->Prop
 | .mark n x y=>zCd n/\zZ S n=none/\zG8 (x,y)/\S.marks.length<20
 | .sail x y=>zG8 (x,y)/\S.runs.length<12
 | .bearing m n a b c d=>0<=m/\m<=S.runs.length/\(zZ S n).isSome=true/\zA9 (a,b)/\zA9 (c,d)/\0<a*d-b*c/\S.notes.length<24
 | .range m l r=>0<=m/\m<=S.runs.length/\(zZ S l).isSome=true/\(zZ S r).isSome=true/\zZ S l≠zZ S r/\S.notes.length<24
 | _=>False
def aft(S:BS):Deed->BS
 | .mark n x y=>{ S with marks:=S.marks++[(n,x,y)] }
 | .move n x y=>{ S with marks:=S.marks.map λe=>if e.1=n then(e.1,x,y) else e }
 | .unmark n=>{ S with marks:=S.marks.filter λe=>decide (e.1≠n) }
 | .bank n cs=>{ S with banks:=S.banks++[(n,cs)] }
 | .level n=>{ S with banks:=S.banks.filter λe=>decide (e.1≠n) }
 | .sail x y=>{ S with runs:=S.runs++[(x,y)] }
 | .right k x y=>{ S with runs:=S.runs.set k.toNat (x,y) }
 | .bearing m n a b c d=>{ S with notes:=S.notes++[(S.coming,.bearing m n a b c d)],coming:=S.coming+1 }
 | .range m l r=>{ S with notes:=S.notes++[(S.coming,.range m l r)],coming:=S.coming+1 }
 | .strike k=>{ S with notes:=S.notes.filter λe=>decide (e.1≠k) }
def zJ2(S:BS):Prop:=∀ e∈S.notes,e.1<S.coming
theorem tK{es:List (Key×Dt)}{k:Key}{d:Dt}(h:∀ e∈es,e.1≠k):zTk es k d=es++[(k,d)]:=by
 unfold zTk;rw[if_neg];intro z;obtain⟨e,he,q⟩:=List.any_eq_true.mp z;exact h e he (of_decide_eq_true q)
theorem zHt(l:List (Str×Int×Int))(n:Str)(x y:Int):mkE (l++[(n,x,y)])=mkE l++[(.inr n,ptD (x,y))]:=by
 unfold mkE;rw[List.map_append];rfl
theorem zQd(l:List (Int×Int))(x y:Int):rnE (l++[(x,y)])=rnE l++[(.inl (l.length:Int),ptD (x,y))]:=by
 unfold rnE;rw[List.zipIdx_append,List.map_append];simp
theorem zHz(l:List (Int×Deed))(k:Int)(D:Deed):ntE (l++[(k,D)])=ntE l++[(.inl k,D.dt)]:=by
 unfold ntE;rw[List.map_append];rfl
theorem zM4{l:List (Int×Int)} : ∀ e∈rnE l,e.1≠.inl (l.length:Int):=λe he z=>by
 unfold rnE at he;obtain⟨q,hq,rfl⟩:=List.mem_map.mp he;obtain⟨q1,q2⟩:=q;have:=List.snd_lt_of_mem_zipIdx hq;have z':(Sum.inl (q2:Int):Key)=Sum.inl (l.length:Int):=z;injection z' with z'
 simp at this;lia
theorem zEn{S:BS}(h:zJ2 S):∀ e∈ntE S.notes,e.1≠.inl S.coming:=λe he z=>by
 unfold ntE at he;obtain⟨q,hq,rfl⟩:=List.mem_map.mp he;have:=h q hq;have z':(Sum.inl q.1:Key)=Sum.inl S.coming:=z;injection z' with z'
 lia
theorem zE0{S:BS}{n:Str}(h:zZ S n=none):∀ e∈mkE S.marks,e.1≠.inr n:=λe he z=>by
 unfold mkE at he;obtain⟨q,hq,rfl⟩:=List.mem_map.mp he;have z':(Sum.inr q.1:Key)=Sum.inr n:=z;injection z' with z'
 unfold zZ at h;rw[Option.map_eq_none_iff,List.find?_eq_none] at h;exact h q hq (by simp[z'])
theorem zN7(a b c d e:V):zAu [] [(.inr "marks", a),(.inr "banks", b),(.inr "runs", c),(.inr "notes", d),(.inr "coming", e)]=[(.inr "marks", a),(.inr "banks", b),(.inr "runs", c),(.inr "notes", d),(.inr "coming", e)]:=by kernel_rfl
theorem zNn(a b c d e:V):zAu [] [(.inr "marks", a),(.inr "banks", b),(.inr "runs", c),(.inr "notes", d),(.inr "next", e)]=[(.inr "marks", a),(.inr "banks", b),(.inr "runs", c),(.inr "notes", d),(.inr "next", e)]:=by kernel_rfl
theorem tT{m b r n:Addr}{k:Int} : vA (stK m b r n k) (.inr "marks")=some (.ref m):=by kernel_rfl
theorem zAl{m b r n:Addr}{k:Int} : vA (stK m b r n k) (.inr "runs")=some (.ref r):=by kernel_rfl
theorem zEi{m b r n:Addr}{k:Int} : vA (stK m b r n k) (.inr "notes")=some (.ref n):=by kernel_rfl
theorem zCx{m b r n:Addr}{k:Int} : vA (stK m b r n k) (.inr "coming")=some (.int k):=by kernel_rfl
theorem zK5{m b r n c:Addr}{k:Int} : tL (stK m b r n k) (.inr "marks") (.ref c)=stK c b r n k:=by kernel_rfl
theorem zMk{m b r n c:Addr}{k:Int} : tL (stK m b r n k) (.inr "runs") (.ref c)=stK m b c n k:=by kernel_rfl
theorem zLk{m b r n c:Addr}{k:Int} : tL (stK m b r n k) (.inr "notes") (.ref c)=stK m b r c k:=by kernel_rfl
theorem zJd{m b r n:Addr}{k j:Int} : tL (stK m b r n k) (.inr "coming") (.int j)=stK m b r n j:=by kernel_rfl
theorem Rd.same{H H1:Hp}{a:Addr}{u:HO}(h:Rd H a u)(s:Same H H1):Rd H1 a u:=h.imp (s _ _) λ⟨o,e⟩=>⟨o,s _ _ e⟩
theorem sZ.nil{H:Hp}{a:Addr}(h:H a=some (.dK [])):sZ H a []:=⟨[],.inl h,.nil⟩
theorem zCt{H:Hp}{p:Int×Int}{v:V}(h:Rep H (ptD p) v):∃ a,v=.ref a/\H a=some (.tup [.int p.1,.int p.2]):=by
 obtain⟨a,xs,e,h1,h2⟩:=vW.mp h;obtain⟨x,r,rfl,h3,h4⟩:=zK.mp h2;obtain⟨y,r',rfl,h5,h6⟩:=zK.mp h4;rw[xL.mp h3,xL.mp h5,yF.mp h6] at h1;exact⟨a,e,h1⟩
theorem qK{H:Hp}{p:Int×Int}{a:Addr}(h:H a=some (.tup [.int p.1,.int p.2])):Rep H (ptD p) (.ref a):=vW.mpr ⟨a,_,rfl,h,.two (xL.mpr rfl) (xL.mpr rfl)⟩
section
variable{H:Hp}{v:V}
theorem zH3{n:Str}{x y:Int}(h:Rep H (Deed.mark n x y).dt v):∃ a,v=.ref a/\H a=some (.tup [.str "mark", .str n,.int x,.int y]):=by
 obtain⟨a,xs,e,h1,h2⟩:=vW.mp h;obtain⟨_,_,rfl,k1,h2⟩:=zK.mp h2;obtain⟨_,_,rfl,k2,h2⟩:=zK.mp h2;obtain⟨_,_,rfl,k3,h2⟩:=zK.mp h2;obtain⟨_,_,rfl,k4,h2⟩:=zK.mp h2;rw[xM.mp k1,xM.mp k2,xL.mp k3,xL.mp k4,yF.mp h2] at h1;exact⟨a,e,h1⟩
theorem zH5{x y:Int}(h:Rep H (Deed.sail x y).dt v):∃ a,v=.ref a/\H a=some (.tup [.str "sail", .int x,.int y]):=by
 obtain⟨a,xs,e,h1,h2⟩:=vW.mp h;obtain⟨_,_,rfl,k1,h2⟩:=zK.mp h2;obtain⟨_,_,rfl,k3,h2⟩:=zK.mp h2;obtain⟨_,_,rfl,k4,h2⟩:=zK.mp h2;rw[xM.mp k1,xL.mp k3,xL.mp k4,yF.mp h2] at h1;exact⟨a,e,h1⟩
theorem uU{m:Int}{n:Str}{a b c d:Int}(h:Rep H (Deed.bearing m n a b c d).dt v):∃ t p q,v=.ref t/\H t=some (.tup [.str "bearing", .int m,.str n,.ref p,.ref q])/\H p=some (.tup [.int a,.int b])/\H q=some (.tup [.int c,.int d]):=by
 obtain⟨t,xs,e,h1,h2⟩:=vW.mp h;obtain⟨_,_,rfl,k1,h3⟩:=zK.mp h2;obtain⟨_,_,rfl,k2,h4⟩:=zK.mp h3;obtain⟨_,_,rfl,k3,h5⟩:=zK.mp h4;obtain⟨_,_,rfl,k4,h6⟩:=zK.mp h5;obtain⟨_,_,rfl,k5,h7⟩:=zK.mp h6;obtain⟨p,rfl,hp⟩:=zCt k4;obtain⟨q,rfl,hq⟩:=zCt k5;have e6:=yF.mp h7;rw[xM.mp k1,xL.mp k2,xM.mp k3,e6] at h1;exact⟨t,p,q,e,h1,hp,hq⟩
theorem rM{m:Int}{l r:Str}(h:Rep H (Deed.range m l r).dt v):∃ t,v=.ref t/\H t=some (.tup [.str "range", .int m,.str l,.str r]):=by
 obtain⟨t,xs,e,h1,h2⟩:=vW.mp h;obtain⟨_,_,rfl,k1,h2⟩:=zK.mp h2;obtain⟨_,_,rfl,k2,h2⟩:=zK.mp h2;obtain⟨_,_,rfl,k3,h2⟩:=zK.mp h2;obtain⟨_,_,rfl,k4,h2⟩:=zK.mp h2;rw[xM.mp k1,xL.mp k2,xM.mp k3,xM.mp k4,yF.mp h2] at h1;exact⟨t,e,h1⟩
end
def zKr(φ:Deed->Prop):Sp:=λvs H Q _=>∃(d:Addr)(v:V)(S:BS)(D:Deed),vs=[.ref d,v]/\φ D/\zH8 H d S/\Rep H D.dt v/\okD S D/\Few S/\zJ2 S /\
 ∀(d':Addr)(H':Hp),Sam H H'->H d'=none->zH8 H' d' (aft S D)->Q (.ref d') H'
theorem StA.stKlen{m b r n:Addr}{k:Int} : (stK m b r n k).length<=100:=by show 5<=100; decide
theorem xX.le{H:Hp}{kvs:List (Key×V)}{es:List (Key×Dt)}(h:xX H kvs es){n:Nat}(hn:es.length<=n):kvs.length<=n:=by rw[h.length]; exact hn
theorem zE4(l:List (Str×Int×Int)):(mkE l).length=l.length:=by unfold mkE; rw[List.length_map]
theorem zE7(l:List (Int×Int)):(rnE l).length=l.length:=by unfold rnE; rw[List.length_map,List.length_zipIdx]
theorem zLe(l:List (Int×Deed)):(ntE l).length=l.length:=by unfold ntE; rw[List.length_map]
end Sea

namespace Sea
open PySem L2
def bkF(d p l:Addr):List (Str×V):=[("state", .ref d),("past", .ref p),("later", .ref l)]
theorem rD{d p l:Addr} : (bkF d p l).lookup ("state" : Str)=some (.ref d):=by kernel_rfl
theorem zQr{d p l:Addr} : (bkF d p l).lookup ("past" : Str)=some (.ref p):=by kernel_rfl
theorem zGu{d p l c:Addr} : zBo "state" (.ref c) (bkF d p l)=bkF c p l:=by kernel_rfl
theorem zF8{d p l c:Addr} : zBo "later" (.ref c) (bkF d p l)=bkF d p c:=by kernel_rfl
theorem zQs{d p l:Addr} : zBo "later" (.ref l) (zBo "past" (.ref p) (zBo "state" (.ref d) []))=bkF d p l:=by kernel_rfl
def vH(H:Hp):List (Deed×BS)->List V->Prop
 | [],xs=>xs=[]
 | (D,S)::r,xs=>∃(t d:Addr)(v:V)(ys:List V),xs=.ref t::ys/\H t=some (.tup [v,.ref d])/\Rep H D.dt v/\zH8 H d S/\vH H r ys
structure BkA(C:Addr)(H:Hp)(b p dx d l:Addr)(ps ls:List V)(S:BS)(past later:List (Deed×BS)):Prop where
 ob:H b=some (.ins C dx (bkF d p l))
 st:zH8 H d S
 pa:H p=some (.lst ps)
 la:H l=some (.lst ls)
 pp:vH H past ps
 ll:vH H later ls
 ne:l≠p
def zDx(C:Addr)(H:Hp)(b p:Addr)(S:BS)(past later:List (Deed×BS)):Prop:=∃ dx d l ps ls,BkA C H b p dx d l ps ls S past later
section
variable{φ:Addr->Prop}{H H1:Hp}
theorem sZ.samE{a:Addr}{es:List (Key×Dt)}(h:sZ H a es)(s:uM φ H H1)(nd:∀ a kvs,Rd H a (.dK kvs)->¬ φ a)(np:∀ a xs,H a=some (.tup xs)->¬ φ a):sZ H1 a es:=let ⟨kvs,h1,h2⟩:=h;⟨kvs,s.rd (nd _ _ h1) h1,h2.sam s np⟩
theorem zH8.samE{d:Addr}{S:BS}(h:zH8 H d S)(s:uM φ H H1)(nd:∀ a kvs,Rd H a (.dK kvs)->¬ φ a)(np:∀ a xs,H a=some (.tup xs)->¬ φ a):zH8 H1 d S :=
 let ⟨m,b,r,n,q⟩:=h;⟨m,b,r,n,s.rd (nd _ _ q.at_) q.at_,q.ma.samE s nd np,q.ba.samE s nd np,q.ru.samE s nd np,q.no.samE s nd np⟩
theorem vH.samE(s:uM φ H H1)(nd:∀ a kvs,Rd H a (.dK kvs)->¬ φ a)(np:∀ a xs,H a=some (.tup xs)->¬ φ a):∀{l:List (Deed×BS)}{xs:List V},vH H l xs->vH H1 l xs
 | [],_,h=>h
 | (D,S)::r,xs,h=>by
  obtain⟨t,d,v,ys,e,h1,h2,h3,h4⟩:=h;exact⟨t,d,v,ys,e,s.tup (np _ _ h1) h1,h2.sam s np,h3.samE s nd np,vH.samE s nd np h4⟩
theorem vH.app{D:Deed}{S:BS}{t d:Addr}{v:V}(h1:H t=some (.tup [v,.ref d]))(h2:Rep H D.dt v)(h3:zH8 H d S):∀{l:List (Deed×BS)}{xs:List V},vH H l xs->vH H (l++[(D,S)]) (xs++[.ref t])
 | [],xs,h=>by
  have h:xs=[]:=h;rw[h];exact⟨t,d,v,[],rfl,h1,h2,h3,rfl⟩
 | (D',S')::r,xs,h=>by
  obtain⟨t',d',v',ys,e,g1,g2,g3,g4⟩:=h;rw[e];exact⟨t',d',v',_,rfl,g1,g2,g3,vH.app h1 h2 h3 g4⟩
theorem vH.len:∀{l:List (Deed×BS)}{xs:List V},vH H l xs->xs.length=l.length
 | [],xs,h=>by have h:xs=[]:=h; rw[h]; rfl
 | (D,S)::r,xs,h=>by
  obtain⟨t,d,v,ys,e,_,_,_,h4⟩:=h;rw[e,List.length_cons,List.length_cons,vH.len h4]
abbrev Bp(b p:Addr):Addr->Prop:=λx=>x=b\/x=p
theorem zPi{b p:Addr}{C dx:Addr}{fs:List (Str×V)}{ps:List V}(hb:H b=some (.ins C dx fs))(hp:H p=some (.lst ps)):∀ a kvs,Rd H a (.dK kvs)->¬ Bp b p a:=λa kvs h z=>by
 rcases z with z | z <;> subst z <;> rcases h with h | ⟨o,h⟩
 ·rw[hb] at h; cases h
 ·rw[hb] at h; cases h
 ·rw[hp] at h; cases h
 ·rw[hp] at h; cases h
theorem zO7{b p:Addr}{C dx:Addr}{fs:List (Str×V)}{ps:List V}(hb:H b=some (.ins C dx fs))(hp:H p=some (.lst ps)):∀ a xs,H a=some (.tup xs)->¬ Bp b p a:=λa xs h z=>by
 rcases z with z | z <;> subst z
 ·rw[hb] at h; cases h
 ·rw[hp] at h; cases h
theorem BkA.to{C b p dx d l:Addr}{ps ls:List V}{S:BS}{past later:List (Deed×BS)}(k:BkA C H b p dx d l ps ls S past later)(s:Sam H H1):BkA C H1 b p dx d l ps ls S past later :=
 ⟨s.ins id k.ob,k.st.to s,s.lst id k.pa,s.lst id k.la,k.pp.samE s (λ_ _ _=>id) (λ_ _ _=>id),k.ll.samE s (λ_ _ _=>id) (λ_ _ _=>id),k.ne⟩
theorem zDx.to{C b p:Addr}{S:BS}{past later:List (Deed×BS)}(k:zDx C H b p S past later)(s:Sam H H1):zDx C H1 b p S past later:=let ⟨dx,d,l,ps,ls,q⟩:=k;⟨dx,d,l,ps,ls,q.to s⟩
theorem zHp{d p l:Addr}{m:Str}(h1:m ≠ "state")(h2:m ≠ "past")(h3:m ≠ "later"):(bkF d p l).lookup m=none:=by
 unfold bkF;rw[List.lookup_cons,beq_eq_false_iff_ne.mpr h1,List.lookup_cons,beq_eq_false_iff_ne.mpr h2,List.lookup_cons,beq_eq_false_iff_ne.mpr h3];rfl
end
end Sea

namespace Sea
open PySem L2
def abc:Str := "abcdefghijklmnopqrstuvwxyz"
theorem zMn:abc.cps.toList=(List.range 26).map (97 + ·):=by decide +kernel
theorem zOw{i:Int}(h0:0<=i)(h1:i<26):atI abc.cps.toList i=some (97+i.toNat):=by
 obtain⟨n,rfl⟩:=Int.eq_ofNat_of_zero_le h0;refine zEm ?_;rw[zMn,List.getElem?_map,List.getElem?_range (by lia)];rfl
def chS(c:Nat):Str:=⟨#[c]⟩
def txt(l:List Nat):Str:=⟨l.toArray⟩
theorem tN(l:List Nat):(txt l).length=l.length:=by
 show l.toArray.size=_;exact List.size_toArray
theorem zP1{l m:List Nat}(h:txt l=txt m):l=m:=by
 have:=congrArg (λx:Str=>x.cps.toList) h;simpa [txt] using this
theorem zEv(l m:List Nat):txt l++txt m=txt (l++m):=by
 show(⟨l.toArray++m.toArray⟩:Str)=⟨(l++m).toArray⟩;rw[List.append_toArray]
theorem zLc:∀ l:List Nat,Str.join "" (l.map chS)=txt l
 | []=>rfl
 | [c]=>rfl
 | c::d::l=>by
  show chS c++("" : Str)++Str.join "" ((d::l).map chS)=_;rw[zLc (d::l)];show txt [c]++txt []++txt (d::l)=_;rw[zEv,zEv];rfl
theorem zNd(l:List Nat):Builtin.Str.glued "" (l.map chS)=txt l:=by
 rw[PySem.StrLaws.glued_eq_join];exact zLc l
theorem zJw(l:List Nat):zDb "" (l.map chS)=l.length:=by
 unfold zDb;rw[show("" : Str).length=0 from by decide,Nat.mul_zero,Nat.add_zero]
 induction l with
 | nil=>rfl
 | cons c l ih =>
  rw[List.map_cons,List.map_cons,List.sum_cons,ih,List.length_cons];show 1+l.length=_;lia
theorem zJm(l:List Nat)(k:Nat)(h:k<=l.length):Txt.slice (txt l) none (some (k:Int))=txt (l.take k):=by
 have e:Builtin.Str.strSliceIndices none (some (k:Int)) 1 (txt l).length=List.range k:=by
  unfold Builtin.Str.strSliceIndices sliceRange;rw[tN];have c1:¬ ((k:Int)<0):=by lia
  have c2:max 0 (min (k:Int) (l.length:Int))=k:=by lia
  simp only[c1,if_false,show(1:Int)>0 by decide,if_true,c2];by_cases z:(0:Int)<k
  ·rw[if_pos z];have c3:(((k:Int)-0+1-1)/1).toNat=k:=by lia
   rw[c3];refine List.ext_getElem (by simp) λi h1 h2=>?_;simp
  ·have c4:k=0:=by lia
   subst c4;simp
 unfold Txt.slice;rw[e,List.length_range,tN];by_cases c:k=l.length
 ·rw[if_pos (by simp[c]),List.take_of_length_le (by lia)]
 ·rw[if_neg (by simp; exact c)];show(⟨_⟩:Str)=⟨_⟩
  congr 1
  congr 1
  refine List.ext_getElem? λi=>?_;rw[List.getElem?_take];have h2:(List.range k).filterMap (λj=>(txt l).cps[j]?)=l.take k:=by
   have:∀ m,m<=l.length->(List.range m).filterMap (λj=>(txt l).cps[j]?)=l.take m:=by
    intro m
    induction m with
    | zero=>intro _; simp
    | succ m ih =>
     intro hm;rw[List.range_succ,List.filterMap_append,ih (by lia),List.take_succ]
     congr 1
     rw[List.getElem?_eq_getElem (by lia)];simp[txt,List.filterMap_cons,show m<l.length by lia]
   exact this k h
  rw[h2,List.getElem?_take]
theorem zI9(l:List Nat)(k:Nat)(h:k<=l.length):Txt.slice (txt l) (some (k:Int)) none=txt (l.drop k):=by
 have e:Builtin.Str.strSliceIndices (some (k:Int)) none 1 (txt l).length=(List.range (l.length-k)).map (k + ·):=by
  unfold Builtin.Str.strSliceIndices sliceRange;rw[tN];have c1:¬ ((k:Int)<0):=by lia
  have c2:max 0 (min (k:Int) (l.length:Int))=k:=by lia
  simp only[c1,if_false,show(1:Int)>0 by decide,if_true,c2];by_cases z:(k:Int)<l.length
  ·rw[if_pos z];have c3:(((l.length:Int)-k+1-1)/1).toNat=l.length-k:=by lia
   rw[c3];refine List.ext_getElem (by simp) λi h1 h2=>?_;simp;lia
  ·have c4:l.length-k=0:=by lia
   rw[if_neg z,c4];rfl
 unfold Txt.slice;rw[e,List.length_map,List.length_range,tN];by_cases c:k=0
 ·subst c;rw[if_pos (by simp)];rfl
 ·by_cases c0:l.length=0
  ·have:l=[]:=List.length_eq_zero_iff.mp c0;subst this;rw[if_pos (by simp)];rw[List.drop_nil]
  rw[if_neg (by simp; lia)];show(⟨_⟩:Str)=⟨_⟩
  congr 1
  congr 1
  have:∀ m,m<=l.length-k->((List.range m).map (k + ·)).filterMap (λj=>(txt l).cps[j]?)=(l.drop k).take m:=by
   intro m
   induction m with
   | zero=>intro _; simp
   | succ m ih =>
    intro hm;rw[List.range_succ,List.map_append,List.filterMap_append,ih (by lia),List.take_succ]
    congr 1
    rw[List.getElem?_drop,List.getElem?_eq_getElem (by lia)];simp[txt,List.filterMap_cons,show k+m<l.length by lia]
  rw[this _ (Nat.le_refl _),List.take_of_length_le (by simp)]
theorem zM0{l:List Nat}{p c:Nat}(h:p<l.length):l.take p++[c]++l.drop (p+1)=l.set p c:=by
 rw[List.set_eq_take_append_cons_drop,if_pos h];simp
theorem zNr{l:List Nat}{p c:Nat}(h:p<l.length):Txt.slice (txt l) none (some (p:Int))++chS c++Txt.slice (txt l) (some ((p:Int)+1)) none=txt (l.set p c):=by
 rw[zJm l p (by lia),show((p:Int)+1)=((p+1:Nat):Int) from rfl,zI9 l (p+1) (by lia)];show txt _++txt [c]++txt _=_;rw[zEv,zEv,zM0 h]
theorem zJl{l:List Nat}(h1:1<=l.length)(h8:l.length<=8)(h:∀ c∈l,97<=c/\c<=122):zCd (txt l):=⟨by rw[tN]; exact h1,by rw[tN]; exact h8,λc hc=>h c (by simpa [txt] using hc)⟩
theorem zQm{l:List Nat}{p r:Nat}(hp:p<l.length){ws:List Str}(hw:ws.length<26):¬ ∀ j,j<26->txt (l.set p (97+(r+j)%26))∈ws:=λh=>by
 have nd:((List.range 26).map λj=>txt (l.set p (97+(r+j)%26))).Nodup:=by
  refine List.nodup_iff_pairwise_ne.mpr (List.pairwise_map.mpr ?_);refine List.Pairwise.imp_of_mem ?_ (List.nodup_iff_pairwise_ne.mp List.nodup_range);intro a b ha hb ne z;have ha:=List.mem_range.mp ha;have hb:=List.mem_range.mp hb;have z:=zP1 z;have z:=congrArg (λm:List Nat=>m[p]?) z;simp only[List.getElem?_set_self hp,Option.some.injEq] at z;lia
 have:=nd.length_le_of_subset (l₂:=ws) λx hx=>by
  obtain⟨j,hj,rfl⟩:=List.mem_map.mp hx;exact h j (List.mem_range.mp hj)
 rw[List.length_map,List.length_range] at this;lia
theorem zP2(x y:Str):eqV (.str x) (.str y)=decide (x=y):=by
 unfold eqV
 first
  | rfl
  | simp
  | (by_cases h:x=y <;> simp[h])
theorem zPb(x:Str)(ns:List Str):inV (.str x) (ns.map V.str)=decide (x∈ns):=by
 unfold inV
 induction ns with
 | nil=>simp
 | cons y ns ih =>
  rw[List.map_cons,List.any_cons,ih,zP2];by_cases h:x=y
  ·subst h; simp
  ·simp[h,Ne.symm h]
theorem zKu(ns:List Str):(ns.map V.str).all zE8=true:=by
 rw[List.all_map];exact List.all_eq_true.mpr λ_ _=>rfl
end Sea

namespace Sea
open PySem L2
def lwK(m b r n:Addr)(k:Int):List (Key×V):=[(.inr "marks", .ref m),(.inr "banks", .ref b),(.inr "runs", .ref r),(.inr "notes", .ref n),(.inr "next", .int k)]
section
variable{m b r n c:Addr}{k j:Int}
theorem vN:vA (lwK m b r n k) (.inr "marks")=some (.ref m):=by kernel_rfl
theorem zOa:vA (lwK m b r n k) (.inr "banks")=some (.ref b):=by kernel_rfl
theorem zAi:vA (lwK m b r n k) (.inr "runs")=some (.ref r):=by kernel_rfl
theorem zBt:vA (lwK m b r n k) (.inr "notes")=some (.ref n):=by kernel_rfl
theorem zCm:vA (lwK m b r n k) (.inr "next")=some (.int k):=by kernel_rfl
theorem zCu:tL (lwK m b r n k) (.inr "next") (.int j)=lwK m b r n j:=by kernel_rfl
end
structure LwA(H:Hp)(d m b r n:Addr)(S:BS):Prop where
 at_:Rd H d (.dK (lwK m b r n S.coming))
 ma:sZ H m (mkE S.marks)
 ba:sZ H b (bkE S.banks)
 ru:∃ rs,H r=some (.lst rs)/\xJ H (S.runs.map ptD) rs
 no:sZ H n (ntE S.notes)
def zMi(H:Hp)(d:Addr)(S:BS):Prop:=∃ m b r n,LwA H d m b r n S
section
variable{φ:Addr->Prop}{H H1:Hp}{d m b r n:Addr}{S:BS}
theorem LwA.samE(h:LwA H d m b r n S)(s:uM φ H H1)(nd:∀ a kvs,Rd H a (.dK kvs)->¬ φ a)(np:∀ a xs,H a=some (.tup xs)->¬ φ a)(nl:∀ xs,H r=some (.lst xs)->¬ φ r):LwA H1 d m b r n S :=
 ⟨s.rd (nd _ _ h.at_) h.at_,h.ma.samE s nd np,h.ba.samE s nd np,let ⟨rs,h1,h2⟩:=h.ru;⟨rs,s.lst (nl _ h1) h1,h2.sam s np⟩,h.no.samE s nd np⟩
theorem LwA.to(h:LwA H d m b r n S)(s:Sam H H1):LwA H1 d m b r n S:=h.samE s (λ_ _ _=>id) (λ_ _ _=>id) (λ_ _=>id)
theorem zMi.to(h:zMi H d S)(s:Sam H H1):zMi H1 d S:=let ⟨m,b,r,n,q⟩:=h;⟨m,b,r,n,q.to s⟩
theorem xJ.drop:∀{l:List Dt}{xs:List V}(k:Nat),xJ H l xs->xJ H (l.drop k) (xs.drop k)
 | _,_,0,h=>h
 | [],_,k+1,h=>by rw[yF.mp h]; exact yF.mpr rfl
 | d::l,_,k+1,h=>by
  obtain⟨x,r,e,_,h2⟩:=zK.mp h;rw[e];exact xJ.drop k h2
theorem xJ.take:∀{l:List Dt}{xs:List V}(k:Nat),xJ H l xs->xJ H (l.take k) (xs.take k)
 | _,_,0,h=>yF.mpr rfl
 | [],_,k+1,h=>by rw[yF.mp h]; exact yF.mpr rfl
 | d::l,_,k+1,h=>by
  obtain⟨x,r,e,h1,h2⟩:=zK.mp h;rw[e];exact zK.mpr ⟨x,_,rfl,h1,xJ.take k h2⟩
theorem zEx{ps:List (Int×Int)}{xs:List V}{i:Nat}{x:V}(h:xJ H (ps.map ptD) xs)(e:xs[i]?=some x):∃(p:Int×Int)(a:Addr),ps[i]?=some p/\x=.ref a/\H a=some (.tup [.int p.1,.int p.2]):=by
 obtain⟨d,g,hd⟩:=h.back e;rw[List.getElem?_map,Option.map_eq_some_iff] at g;obtain⟨p,gp,rfl⟩:=g;obtain⟨a,e1,e2⟩:=zCt hd;exact⟨p,a,gp,e1,e2⟩
end
theorem zId{xs:List V}{i j:Nat}(hj:j<=xs.length)(hi:i<=xs.length):zDi xs (some (i:Int)) (some (j:Int))=(xs.drop i).take (j-i):=by
 unfold zDi;rw[HT.sIx_nat,HT.sIx_nat,Nat.min_eq_left hi,Nat.min_eq_left hj]
def rZ(runs:List (Int×Int))(i j:Nat):List (Int×Int):=(runs.drop (min i j)).take (max i j-min i j)
def vJ(i j:Nat):Int:=if j<i then -1 else 1
def xV(runs:List (Int×Int))(i j:Nat):Int×Int:=(vJ i j*((rZ runs i j).map (·.1)).sum,vJ i j*((rZ runs i j).map (·.2)).sum)
theorem zCq(runs:List (Int×Int))(i j:Nat):(rZ runs i j).length<=runs.length:=by
 unfold rZ;rw[List.length_take,List.length_drop];lia
theorem zH2:∀(l:List Int)(M:Nat),(∀ x∈l,x.natAbs<=M)->l.sum.natAbs<=l.length*M
 | [],_,_=>by simp
 | x::l,M,h=>by
  have ih:=zH2 l M λy hy=>h y (.tail _ hy);have hx:=h x (.head _);rw[List.sum_cons,List.length_cons,Nat.add_mul,Nat.one_mul];have:=Int.natAbs_add_le x l.sum;lia
end Sea

namespace L2
open PySem PySem.Spec PyProof.Rows
theorem zJj{ns:List Str} : ∀{us:List Value},yL (ns.map V.str) us->StrsAre us ns:=by
 induction ns with
 | nil=>intro us r; rw[List.map_nil] at r; cases r; exact .nil
 | cons n ns ih =>
  intro us r;rw[List.map_cons] at r;cases r with
  | cons r1 r2 =>
   obtain⟨t,e⟩:=r1;subst e;exact .cons n t (ih r2)
theorem zSh:∀{vs:List Value}{ns:List Str},StrsAre vs ns->yL (ns.map V.str) vs
 | _,_,.nil=>.nil
 | _,_,.cons n t h=>.cons ⟨t,rfl⟩ (zSh h)
section
variable{X:Cx}
theorem zAx:wR X (.builtin "sorted") (λxs H Q=>∃(l:Addr)(ns:List Str),xs=[.ref l]/\SqL X.K H l (ns.map V.str)/\ns.length<64 /\
  ∀(p:Addr)(ms:List Str),H p=none->ms.Perm ns->sortedS ms=true->Q (.ref p) (upd H p (.lst (ms.map V.str)))):=by
 intro pins s σ H xs us Q I r h;obtain⟨l,ns,rfl,hq,h64,q⟩:=h;obtain⟨u,rfl,ru⟩:=yL.one r;cases ru;obtain⟨its,rv,pl,hz⟩:=I.list hq;have hn:=rv.length;rw[List.length_map] at hn;refine sorted_strs (ss:=ns) pl.isList (zJj rv) (by lia) λout ms a1 a2 a3=>?_;obtain⟨e,at'⟩:=sortedAll_at s.heap its out;have fr:H (s.heap.objs.size+1)=none:=I.hok.fresh (Nat.le_succ _);refine⟨.ref (s.heap.objs.size+1),_,I.laid (t':=s.toks) (a:=s.heap.objs.size+1) (o:=.lst (ms.map V.str)) (λb ob q=>sortedAll_old q) (Nat.le_succ _) ?_,rfl,q _ ms fr a2 a3⟩;refine⟨?_,out.toList,e,zSh a1,by simpa using at'⟩;rw[List.length_map,a2.length_eq];exact Nat.le_trans (Nat.le_of_lt h64) (by rw[sizeLine_eq]; decide)
end
def zFx(v d:Addr)(h:Heap):Prop:=h.IsItemsView v d
section
variable{X:Cx}{l:Expr}{te:TE}{apos pos:Pos}
def zSj(te:TE):TE:=λσ H Q=>te σ H λx H1=>∃(d:Addr)(kvs:List (Key×V)),x=.ref d/\Rd H1 d (.dK kvs)/\∀ v,H1 v=none->Q (.ref v) (upd H1 v (.ext (zFx v d)))
theorem zMz(hl:PE X l te)(hbase:attributeBase l "items" X.env (eval l X.env)=eval l X.env:=by rfl)(hline:(apos.endLine == pos.line)=true:=by rfl):PE X (.Call (.Attribute l "items" apos) [] [] pos) (zSj te):=by
 intro pins s σ H Q I h;refine wpAny_Call_method (T := "dict") (id := "dict.items") hbase rfl hline F.plainAttrs_dict F.slot_dict_items F.type_dict_items (thn (hl pins s σ H _ I h) λv s1 ⟨x,H1,I1,r1,d,kvs,e,hd,q⟩=>?_);subst e;cases r1;obtain⟨hz,ns,vs,rel,da⟩:=hd.ok I1.hok;exists da.typeIs,da.mapOf.noDict;show wpAny _ _ (callWith pos (.builtin "dict.items") [.ref d] [] []) _ _ s1;refine method_meetsIn F.slot_dict_items F.entry_dict_items rfl (PySem.evalArgs_none ⟨rfl,da.typeIs,F.args_dict_items_1 _,_,meets_dict_items (yI X.prog X.w) d ns,⟨vs,da⟩,?_⟩);refine⟨.ref s1.heap.objs.size,_,I1.laid (t':=s1.toks) (a:=s1.heap.objs.size) (o:=.ext (zFx s1.heap.objs.size d)) (λb o e=>Heap.get?_push_of_some _ e) (Nat.le_refl _) ⟨⟨_,Heap.get?_push_size _ rfl,rfl,rfl⟩,⟨_,Heap.get?_push_size _ rfl⟩,λh1 h2 ⟨o,e,c⟩ k=>⟨o,k o e,c⟩⟩,rfl,q _ (I1.hok.fresh (Nat.le_refl _))⟩
end
theorem Inv.more{X:Cx}{pins:List (Addr×Obj)}{σ:St}{H:Hp}{s:Shared}{a:Addr}{o:HO}(I:Inv X pins σ H s)(f:zL6 X pins H a)(new:yZ X.prog X.w (upd H a o) s.heap a o):Inv X pins σ (upd H a o) s:=by
 obtain⟨f0,f1,f2,f3,f4,f5⟩:=f;have nk:∀{b:Addr}{u:HO},H b=some u->upd H a o b=some u:=λ{b u} e=>by
  rw[zG (λz=>by rw[z,f0] at e; cases e)];exact e
 have nn:∀{b:Addr},b≠a->H b=none->upd H a o b=none:=λ{b} n e=>by rw[zG n]; exact e
 have lo:∀{b:Addr}{u:Obj},X.s₀.heap.get? b=some u->b ∉ X.ex->b≠a:=λ{b u} e hx z=>by
  rcases f3 with q | q
  ·exact hx (by rw[z]; exact q)
  ·exact absurd (Heap.lt_size e) (Nat.not_lt.mpr (by rw[z]; exact q))
 refine⟨I.ok,I.os,I.bare,⟨I.base.keep,I.base.slot,λb u e n hx=>nn (lo e hx) (I.base.free b u e n hx),I.base.there,λb xs e=>nk (I.base.tups b xs e),λb u v e=>nk (I.base.frzs b u v e),
  λb ps e=>let ⟨more,q⟩:=I.base.tbls b ps e;⟨more,nk q⟩⟩,I.loc,I.cell,nn (Ne.symm f1) I.free,λx c e=>nn (f4 x c e) (I.freeC x c e),λp hp=>?_,λb u e=>?_,I.len⟩
 ·obtain⟨h1,h2,h3⟩:=I.pin p hp;exact⟨h1,nn (f5 p hp) h2,h3⟩
 ·by_cases eb:b=a
  ·subst eb;rw[zA] at e;cases e;exact new
  ·rw[zG eb] at e;exact(I.hok b u e).stay (λc v _ q=>q) (λc q=>nk q) λc xs q=>nk q
section
open PySem.W
variable{prog:Program}{w:World}{A:Around}{E:Value->Shared->Prop}{s:Shared}
theorem zLv{cmp:Nat->Nat->(Bool->Shared->Prop)->Shared->Prop}{p:Array Nat}{Q:Nat->Shared->Prop} : ∀(f m:Nat),(∀ i,m<=i->i<m+f->∀ C:Bool->Shared->Prop,C false s->cmp (p.getD i 0) (p.getD (i-1) 0) C s)->Q (m+f) s->(kas_asc p f m).kasWp cmp Q s
 | 0,m,_,h=>h
 | f+1,m,hc,h=>by
  refine hc m (Nat.le_refl _) (by lia) _ ?_;show(if false=true then KasT.ret m else kas_asc p f (m+1)).kasWp cmp Q s;rw[if_neg (by simp)];exact zLv f (m+1) (λi h1 h2=>hc i (by lia) (by lia)) (by rw[show m+1+f=m+(f+1) by lia]; exact h)
theorem zHb{cmp:Nat->Nat->(Bool->Shared->Prop)->Shared->Prop}{n:Nat}{Q:Array Nat->Shared->Prop}(h1:1<=n)(hc:∀ i,1<=i->i<n->∀ C:Bool->Shared->Prop,C false s->cmp i (i-1) C s)(h:Q (List.toArray (List.range n)) s) :
  (kas_sort n).kasWp cmp Q s:=by
 have g:∀{i:Nat},i<n->(List.toArray (List.range n)).getD i 0=i:=λ{i} hi=>by simp[hi]
 unfold kas_sort kas_count;rw[KasT.kasWp_bind,KasT.kasWp_bind];refine zLv (n-1) 1 (λi a b=>?_) ?_
 ·rw[g (by lia),g (by lia)];exact hc i a (by lia)
 ·rw[show 1+(n-1)=n by lia,if_pos (by simp)];show(if n<n then _ else KasT.ret (List.toArray (List.range n))).kasWp cmp Q s;rw[if_neg (Nat.lt_irrefl _)];exact h
theorem zBb{a:Addr}{vs:List Value}{n:Nat}{P:PySem.Fin->Shared->Prop}(ho:s.heap.get? a=some (seqObj "list" vs.toArray n))(h64:vs.length<64)
  (hk:∀ h':Heap,(∀ b o,b≠a->s.heap.get? b=some o->h'.get? b=some o)->2<=vs.length->∃ κ:SortKind,(∀ Q:SortKind->Shared->Prop,Q κ { s with heap:=h' }->wpAny (model prog w) A (keyKind' vs.toArray) Q E { s with heap:=h' }) /\
   ∀ i,1<=i->i<vs.length->∀ C:Bool->Shared->Prop,C false { s with heap:=h' }->kas_ask prog w A κ vs i (i-1) C { s with heap:=h' })
  (h:∀(h':Heap)(c:Nat),(∀ b o,b≠a->s.heap.get? b=some o->h'.get? b=some o)->h'.get? a=some (seqObj "list" vs.toArray c)->P (.done (.ret .none)) { s with heap:=h' }) :
  wpAny (model prog w) A (Builtin.«list.sort» ⟨[.ref a],[]⟩) P E s:=by
 have ha:a<s.heap.objs.size:=Heap.lt_size ho;obtain⟨e1,ho1⟩:∃ e1,(s.heap.update a (Obj.mapSeq λ_=>(#[]:Array Value))).get? a=some (seqObj "list" #[] e1):=⟨_,get?_update_seq ho λ_=>#[]⟩;rw[list_sort_plain];refine wpAny_bind (listItems_at ho rfl ?_);refine wpAny_bind (listUpdate_at ho rfl ?_ (by rw[List.size_toArray,sizeLine_eq]; lia) (Nat.zero_le _));refine wpAny_bind (seqEpoch_at ho1 rfl ?_);refine wpAny_bind (wpAny_newTuple ?_ (by show vs.length<=_; rw[sizeLine_eq]; lia));refine wpAny_bind (wpAny_newList ?_ (Nat.zero_le _));refine wpAny_holding ?_;have ho6:(((s.heap.update a (Obj.mapSeq λ_=>#[])).push (seqObj "tuple" vs.toArray 0)).push (seqObj "list" #[] 0)).get? a=some (seqObj "list" #[] e1):=Heap.get?_push_of_some _ (Heap.get?_push_of_some _ ho1);have kp:∀ b o,b≠a->s.heap.get? b=some o->(((s.heap.update a (Obj.mapSeq λ_=>#[])).push (seqObj "tuple" vs.toArray 0)).push (seqObj "list" #[] 0)).get? b=some o:=λb o hb e =>
  Heap.get?_push_of_some _ (Heap.get?_push_of_some _ ((Heap.get?_update_other _ _ (Ne.symm hb)).trans e))
 have fin:∀ c,(((((s.heap.update a (Obj.mapSeq λ_=>#[])).push (seqObj "tuple" vs.toArray 0)).push (seqObj "list" #[] 0)).update a (Obj.mapSeq λ_=>vs.toArray))).get? a=some (seqObj "list" vs.toArray c)->P (.done (.ret .none)) { s with heap:=((((s.heap.update a (Obj.mapSeq λ_=>#[])).push (seqObj "tuple" vs.toArray 0)).push (seqObj "list" #[] 0)).update a (Obj.mapSeq λ_=>vs.toArray)) }:=λc e =>
  h _ c (λb o hb q=>(Heap.get?_update_other _ _ (Ne.symm hb)).trans (kp b o hb q)) e
 obtain⟨c2,hc2⟩:∃ c2,(((((s.heap.update a (Obj.mapSeq λ_=>#[])).push (seqObj "tuple" vs.toArray 0)).push (seqObj "list" #[] 0)).update a (Obj.mapSeq λ_=>vs.toArray))).get? a=some (seqObj "list" vs.toArray c2):=⟨_,get?_update_seq ho6 λ_=>vs.toArray⟩;have done:=fin c2 hc2;show wpAny (model prog w) A _ P E { s with heap:=((s.heap.update a (Obj.mapSeq λ_=>#[])).push (seqObj "tuple" vs.toArray 0)).push (seqObj "list" #[] 0) };dsimp only;have hsz:vs.toArray.size=vs.length:=by simp
 by_cases h2:vs.toArray.size<2
 ·rw[if_pos h2,if_pos h2];refine wpAny_bind (wpAny_pure ?_);rw[StateT.run_pure];refine wpAny_bind (wpAny_pure ?_);dsimp only;have em:(vs.toArray.zip vs.toArray).map (·.2)=vs.toArray:=by
   apply Array.toList_inj.mp;simp;exact List.map_snd_zip (Nat.le_refl _)
  refine wpAny_bind (seqEpoch_at ho6 rfl ?_);refine wpAny_bind (listUpdate_at ho6 rfl ?_ (hsz2:=by rw[Array.size_map]; show(pairsOf vs).size<=_; rw[pairsOf_size,sizeLine_eq]; lia));simp only[bne_self_eq_false,Bool.false_eq_true,if_false];refine wpAny_pure ?_;show P _ { s with heap:=Heap.update _ a (Obj.mapSeq λ_=>(vs.toArray.zip vs.toArray).map (·.2)) };rw[em];exact done
 ·rw[if_neg h2,if_neg h2];have h2':2<=vs.length:=by lia
  obtain⟨κ,hκ,hlt⟩:=hk _ kp h2';refine wpAny_bind (hκ _ ?_);refine wpAny_bind (wpAny_mono (kat_run (s:={ s with heap:=((s.heap.update a (Obj.mapSeq λ_=>#[])).push (seqObj "tuple" vs.toArray 0)).push (seqObj "list" #[] 0) }) (κ:=κ) (ks:=vs) (vs:=vs)
   (G:=λp s'=>p=List.toArray (List.range vs.length)/\s'={ s with heap:=((s.heap.update a (Obj.mapSeq λ_=>#[])).push (seqObj "tuple" vs.toArray 0)).push (seqObj "list" #[] 0) })
   (Q:=λst' s'=>(arrOf st').map (·.2)=vs.toArray/\failedOf st'=none/\s'={ s with heap:=((s.heap.update a (Obj.mapSeq λ_=>#[])).push (seqObj "tuple" vs.toArray 0)).push (seqObj "list" #[] 0) })
   rfl h2' h64 (λp' st' s' a1 a2 a3 ⟨a4,a5⟩=>⟨?_,a3,a5⟩) (zHb (by lia) hlt ⟨rfl,rfl⟩)) ?_ λ_ _ e=>e)
  ·rw[kat_snds rfl a2,a4];apply Array.toList_inj.mp;show(List.range vs.length).map (λi=>vs.getD i Value.none)=vs;refine List.ext_getElem (by simp) λi h1 h3=>?_;simp at h1;simp[h1]
  rintro⟨⟨⟩,st'⟩ s' ⟨hp,hf,rfl⟩;dsimp only;refine wpAny_bind (seqEpoch_at ho6 rfl ?_);refine wpAny_bind (listUpdate_at ho6 rfl ?_ (hsz2:=by rw[hp,hsz,sizeLine_eq]; lia));rw[hf,hp];simp only[bne_self_eq_false,Bool.false_eq_true,if_false];exact wpAny_pure done
end
section
open PySem.W
variable{X:Cx}{pins:List (Addr×Obj)}{σ:St}{H:Hp}{s:Shared}
theorem Inv.tuples{lo:Addr} : ∀{as:List Addr}{H:Hp}(xss:List (List V)),Inv X pins σ H s->as.Pairwise (· < ·)->(∀ a∈as,zL6 X pins H a)->as.length=xss.length->(∀(j:Nat)(a:Addr)(xs:List V),as[j]?=some a->xss[j]?=some xs->∀ H',yZ X.prog X.w H' s.heap a (.tup xs)) ->
  ∃ H2,Inv X pins σ H2 s/\Same H H2/\(∀(j:Nat)(a:Addr)(xs:List V),as[j]?=some a->xss[j]?=some xs->H2 a=some (.tup xs))/\∀ b,b ∉ as->H2 b=H b
 | [],H,[],I,_,_,_,_=>⟨H,I,Same.refl _,λj a xs e=>by simp at e,λ_ _=>rfl⟩
 | [],_,_::_,_,_,_,hl,_=>by simp at hl
 | _::_,_,[],_,_,_,hl,_=>by simp at hl
 | a::as,H,xs::xss,I,hr,hf,hl,ho=>by
  have fa:=hf a (.head _);have hr':=List.pairwise_cons.mp hr;have I1:=I.more (o:=.tup xs) fa (ho 0 a xs rfl rfl _);obtain⟨H2,I2,s2,g2,n2⟩:=Inv.tuples (lo:=lo) (as:=as) xss I1 hr'.2 (λb hb=>by
   obtain⟨f0,f1⟩:=hf b (.tail _ hb);exact⟨by rw[zG (Nat.ne_of_gt (hr'.1 b hb))]; exact f0,f1⟩) (by simpa using hl) (λj b ys e1 e2=>ho (j+1) b ys (by simpa using e1) (by simpa using e2))
  refine⟨H2,I2,(zC fa.1 _).trans s2,λj b ys e1 e2=>?_,λb hb=>?_⟩
  ·cases j with
   | zero =>
    simp at e1 e2;subst e1 e2;exact s2 _ _ zA
   | succ j=>exact g2 j b ys (by simpa using e1) (by simpa using e2)
  ·rw[n2 b (λz=>hb (.tail _ z)),zG (λz=>hb (by rw[z]; exact .head _))]
theorem zEf{h:Heap} : ∀{as:List Addr}{ns:List Int},as.length=ns.length->(∀(j:Nat)(a:Addr)(n:Int),as[j]?=some a->ns[j]?=some n->∃ t x,h.get? a=some { cls:=.type "tuple", data:=.seq #[.int n t,x] }) ->
  ∃ fs,KatTups h (as.map Value.ref) fs/\fs.length=ns.length/\∀ v∈fs,∃ n t,v=Value.int n t
 | [],[],_,_=>⟨[],.nil,rfl,λv hv=>nomatch hv⟩
 | [],_::_,hl,_=>by simp at hl
 | _::_,[],hl,_=>by simp at hl
 | a::as,n::ns,hl,hh=>by
  obtain⟨t,x,e⟩:=hh 0 a n rfl rfl;obtain⟨fs,k,l,f⟩:=zEf (as:=as) (ns:=ns) (by simpa using hl) λj b m h1 h2=>hh (j+1) b m (by simpa using h1) (by simpa using h2);refine⟨.int n t::fs,.cons e rfl rfl rfl k,by simp[l],λv hv=>?_⟩;rcases List.mem_cons.mp hv with rfl | hv
  ·exact⟨n,t,rfl⟩
  ·exact f v hv
theorem zF4(hc:X.calm=true):wR X (.builtin "sorted") (λxs H Q=>∃(v d:Addr)(kvs:List (Int×V)),xs=[.ref v]/\H v=some (.ext (zFx v d))/\Rd H d (.dK (kvs.map λe=>(.inl e.1,e.2)))/\kvs.length<64/\(kvs.map (·.1)).Pairwise (· < ·) /\
  ∀(p:Addr)(as:List Addr)(H2:Hp),Same H H2->H p=none->as.length=kvs.length->H2 p=some (.lst (as.map V.ref))->(∀(j:Nat)(a:Addr)(e:Int×V),as[j]?=some a->kvs[j]?=some e->H a=none/\H2 a=some (.tup [.int e.1,e.2]))->Q (.ref p) H2):=by
 intro pins s σ H xs us Q I r h;obtain⟨v,d,kvs,rfl,hv,hd,h64,hr,q⟩:=h;obtain⟨u,rfl,ru⟩:=yL.one r;cases ru;obtain⟨hz,ns,vs,rel,da⟩:=hd.ok I.hok;obtain⟨o,es,ep,e,c,dt,hk,hp,hn⟩:=da;have hl:vs.length=kvs.length:=by rw[<- rel.length,List.length_map]
 have dat:s.heap.DictAt (yI X.prog X.w) d vs ep:=⟨o,es,e,c,dt,hk,hp,hn⟩;have hview:s.heap.IsItemsView v d:=(show yZ X.prog X.w H s.heap v (.ext (zFx v d)) from I.hok v _ hv).1;have small:kvs.length<=sizeLine:=by rw[sizeLine_eq]; lia
 have hh:X.A.in1.handled=none:=I.ok.hd hc;refine Calls.call_function_entry kind_sorted plain_sorted entry_sorted (args_sorted1 _) ?_;unfold Builtin.«sorted»;refine wpAny_bind (m:=checkCount "sorted" 1 1 _) (wpAny_pure ?_);refine wpAny_bind (kdx_collect (knd:=yI X.prog X.w) (kvs:=vs) (ep:=ep) hh hview dat (by rw[hl]; exact small) λh' tk as keep la G=>?_);refine wpAny_bind (wpAny_newList ?_ (by rw[List.length_map,la,hl]; exact small));have ln:as.length=kvs.length:=la.trans hl;have at_:∀(j:Nat)(a:Addr)(e:Int×V),as[j]?=some a->kvs[j]?=some e->∃ t x,yQ e.2 x/\h'.get? a=some { cls:=.type "tuple", data:=.seq #[.int e.1 t,x] }:=λj a e ha he=>by
  obtain⟨key,k,x,g1,g2,g3⟩:=G.pairs j a ha;obtain⟨u,hu,ru⟩:=KV.at (vs:=vs) (i:=j) (k:=.inl e.1) (v:=e.2) rel (by rw[List.getElem?_map,he]; rfl);rw[hu] at g1;cases g1;have g2':zHq (Sum.inl e.1) key=true:=g2;rcases yH g2' with ⟨i,t,e1,e2⟩ | ⟨y,t,e1,e2⟩
  ·cases e1;rw[e2] at g3;exact⟨t,_,ru,g3⟩
  ·cases e1
 have hoL:(h'.push (seqObj "list" (as.map Value.ref).toArray 0)).get? h'.objs.size=some (seqObj "list" (as.map Value.ref).toArray 0):=Heap.get?_push_size _ rfl;show wpAny _ _ _ _ _ { s with heap:=h'.push (seqObj "list" (as.map Value.ref).toArray 0),toks:=tk };refine wpAny_bind (wpAny_holding (wpAny_call_entry slot_list_sort ⟨_,hoL,rfl⟩ entry_list_sort ?body (args_list_sort _)))
 case body =>
  refine zBb (s:={ s with heap:=h'.push (seqObj "list" (as.map Value.ref).toArray 0),toks:=tk }) hoL (by rw[List.length_map,ln]; exact h64) (λh2 k2 two=>?_) λh2 c k2 e2=>⟨_,rfl,wpAny_pure ⟨_,rfl,?_⟩⟩
  ·have at2:∀(j:Nat)(a:Addr)(e:Int×V),as[j]?=some a->kvs[j]?=some e->∃ t x,yQ e.2 x/\h2.get? a=some { cls:=.type "tuple", data:=.seq #[.int e.1 t,x] }:=λj a e ha he=>by
    obtain⟨t,x,g1,g2⟩:=at_ j a e ha he;exact⟨t,x,g1,k2 a _ (Nat.ne_of_lt (Heap.lt_size g2)) (Heap.get?_push_of_some _ g2)⟩
   have one:∀ j,j<kvs.length->∃(a:Addr)(t:Tok)(x:Value),(as.map Value.ref)[j]?=some (.ref a)/\h2.get? a=some { cls:=.type "tuple", data:=.seq #[.int (kvs[j]?.getD (0,V.int 0)).1 t,x] }:=λj hj=>by
    have ej:kvs[j]?=some kvs[j]:=List.getElem?_eq_getElem hj;have ea:as[j]?=some as[j]:=List.getElem?_eq_getElem (by lia);obtain⟨t,x,_,g⟩:=at2 j _ _ ea ej;exact⟨as[j],t,x,by rw[List.getElem?_map,ea]; rfl,by rw[ej]; exact g⟩
   rw[List.length_map,ln] at two;refine⟨tuples' true,λQ' hq=>?_,λi h1 hi C hC=>?_⟩
   ·obtain⟨fs,kt,fl,fi⟩:=zEf (h:=h2) (ns:=kvs.map (·.1)) (as:=as) (by rw[List.length_map,ln]) λj a n ha hn=>by
     rw[List.getElem?_map,Option.map_eq_some_iff] at hn;obtain⟨e,he,rfl⟩:=hn;obtain⟨t,x,_,g⟩:=at2 j a e ha he;exact⟨t,x,g⟩
    exact kat_kind (T:=.type "int") kt (by rw[fl,List.length_map]; lia) (λv hv=>let ⟨n,t,e⟩:=fi v hv; by rw[e]; exact .now) (by decide) hq
   ·rw[List.length_map,ln] at hi;obtain⟨a,t,x,e1,g1⟩:=one i hi;obtain⟨b,u,y,e2,g2⟩:=one (i-1) (by lia);unfold kas_ask;rw[List.getD_eq_getElem?_getD,List.getD_eq_getElem?_getD,e1,e2];refine kat_lt g1 rfl g2 rfl (kat_cons (wpAny_eqBool_int ?_));have lt:(kvs[i-1]?.getD (0,V.int 0)).1<(kvs[i]?.getD (0,V.int 0)).1:=by
     rw[List.getElem?_eq_getElem hi,List.getElem?_eq_getElem (show i-1<kvs.length by lia)];have:=List.pairwise_iff_getElem.mp hr (i-1) i (by rw[List.length_map]; lia) (by rw[List.length_map]; lia) (by lia);rw[List.getElem_map,List.getElem_map] at this;exact this
    rw[show((kvs[i]?.getD (0,V.int 0)).1 ==(kvs[i-1]?.getD (0,V.int 0)).1)=false from by
     rw[beq_eq_false_iff_ne];lia]
    refine kat_no (oneLt_int ?_);rw[decide_eq_false (by lia)];exact hC
  ·have kp:∀ b o,s.heap.get? b=some o->h2.get? b=some o:=λb o e=>k2 b o (Nat.ne_of_lt (Heap.lt_size (keep b o e))) (Heap.get?_push_of_some _ (keep b o e));have I2:Inv X pins σ H { s with heap:=h2,toks:=tk }:=I.kept (t':=tk) kp;have ab:∀ a∈as,s.heap.objs.size<=a:=λa ha=>Nat.le_of_lt (G.above a ha);have I1:Inv X pins σ H { s with heap:=h',toks:=tk }:=I.kept (t':=tk) keep;have fp:=I1.fpOk (H':=H) (Nat.le_refl _) (I1.hok.fresh (Nat.le_refl _));have I3:Inv X pins σ (upd H h'.objs.size (.lst (as.map V.ref))) { s with heap:=h2,toks:=tk }:=I2.more fp ⟨by rw[List.length_map,ln]; exact small,as.map Value.ref,c,zGy as,e2⟩;obtain⟨H3,I4,s3,g3,n3⟩:=I3.tuples (lo:=0) (kvs.map λe=>[V.int e.1,e.2]) G.rise (λa ha=>by
    refine I.fpOk (ab a ha) ?_;rw[zG (Nat.ne_of_lt (G.there ha))];exact I.hok.fresh (ab a ha)) (by rw[List.length_map,ln]) λj a xs ha hx H'=>by
     rw[List.getElem?_map,Option.map_eq_some_iff] at hx;obtain⟨e,he,rfl⟩:=hx;obtain⟨t,x,g1,g2⟩:=at_ j a e ha he;exact⟨by show 2<=sizeLine; rw[sizeLine_eq]; decide,[.int e.1 t,x],.cons ⟨t,rfl⟩ (.cons g1 .nil),_,k2 a _ (Nat.ne_of_lt (Heap.lt_size g2)) (Heap.get?_push_of_some _ g2),rfl,_,rfl⟩
   exact⟨.ref h'.objs.size,H3,I4,rfl,q h'.objs.size as H3 ((zC fp.1 _).trans s3) fp.1 ln (s3 _ _ zA) λj a e ha he=>⟨I.hok.fresh (ab a (List.mem_of_getElem? ha)),g3 j a _ ha (by rw[List.getElem?_map,he]; rfl)⟩⟩
end
end L2

namespace Sea
open PySem L2
section
variable{H H1:Hp}
theorem zIw:∀{l:List (Int×Deed)}{kvs:List (Key×V)},xX H kvs (ntE l)->∃ ks:List (Int×V),kvs=ks.map (λe=>(.inl e.1,e.2))/\ks.map (·.1)=l.map (·.1)/\xJ H (l.map (·.2.dt)) (ks.map (·.2))
 | [],_,h=>⟨[],h.nil_iff,rfl,yF.mpr rfl⟩
 | (n,D)::l,_,h=>by
  obtain⟨v,r,rfl,h1,h2⟩:=xX.cons_iff.mp h;obtain⟨ks,rfl,e,h3⟩:=zIw (l:=l) h2;exact⟨(n,v)::ks,rfl,by rw[List.map_cons,List.map_cons,e],zK.mpr ⟨v,_,rfl,h1,h3⟩⟩
theorem zEz:∀{l:List (Str×Int×Int)}{kvs:List (Key×V)},xX H kvs (mkE l)->kvs.map (λkv=>kV kv.1)=(l.map (·.1)).map V.str
 | [],_,h=>by rw[h.nil_iff]; rfl
 | (n,p)::l,_,h=>by
  obtain⟨v,r,rfl,h1,h2⟩:=xX.cons_iff.mp h;rw[List.map_cons,zEz h2];rfl
structure zP0(H:Hp)(as:List Addr)(l:List (Int×Deed)):Prop where
 len:as.length=l.length
 at_:∀(j:Nat)(a:Addr)(e:Int×Deed),as[j]?=some a->l[j]?=some e->∃ v,H a=some (.tup [.int e.1,v])/\Rep H e.2.dt v
def zO2(S:BS):Prop:=(S.notes.map (·.1)).Pairwise (· < ·)
theorem zAp{S:BS}{n:Str}{p:Int×Int}(h:zZ S n=some p):(n,p)∈S.marks:=by
 unfold zZ at h;rw[Option.map_eq_some_iff] at h;obtain⟨e,h1,rfl⟩:=h;have h2:=List.find?_some h1;have e1:e.1=n:=of_decide_eq_true h2;rw[<- e1];exact List.mem_of_find?_eq_some h1
theorem vY{S:BS}{n:Str}(h:n∈S.marks.map (·.1)):∃ p,zZ S n=some p:=by
 obtain⟨e,h1,h2⟩:=List.mem_map.mp h;unfold zZ;cases q:S.marks.find? λe=>decide (e.1=n) with
 | none=>exact absurd (List.find?_eq_none.mp q e h1) (by simp[h2])
 | some e'=>exact⟨e'.2,rfl⟩
theorem vF{S:BS}{m:Addr}{n:Str}{p:Int×Int}(h:sZ H m (mkE S.marks))(e:zZ S n=some p):∃(kvs:List (Key×V))(a:Addr),Rd H m (.dK kvs)/\vA kvs (.inr n)=some (.ref a)/\H a=some (.tup [.int p.1,.int p.2]):=by
 obtain⟨kvs,h1,h2⟩:=h;obtain⟨v,g,r⟩:=h2.get (k:=.inr n) (d:=ptD p) (by rw[zB9,e]; rfl);obtain⟨a,rfl,ha⟩:=zCt r;exact⟨kvs,a,h1,g,ha⟩
theorem zMc:∀{l:List (Int×Int)}{k i:Nat}{p:Int×Int},l[i]?=some p->look ((l.zipIdx k).map λe=>((.inl (e.2:Int):Key),ptD e.1)) (.inl ((k+i:Nat):Int))=some (ptD p)
 | [],_,_,_,e=>by simp at e
 | q::l,k,0,p,e=>by
  simp at e;subst e;simp[look,List.zipIdx_cons]
 | q::l,k,i+1,p,e=>by
  have ih:=zMc (l:=l) (k:=k+1) (i:=i) (p:=p) (by simpa using e);rw[List.zipIdx_cons,List.map_cons];unfold look at ih ⊢;rw[List.find?_cons,decide_eq_false (by intro z; injection z with z; simp at z; lia)];rw[show k+1+i=k+(i+1) by lia] at ih;exact ih
theorem zNk{S:BS}{r:Addr}{i:Nat}{p:Int×Int}(h:sZ H r (rnE S.runs))(e:S.runs[i]?=some p):∃(kvs:List (Key×V))(a:Addr),Rd H r (.dK kvs)/\vA kvs (.inl (i:Int))=some (.ref a)/\H a=some (.tup [.int p.1,.int p.2]):=by
 obtain⟨kvs,h1,h2⟩:=h;have:=zMc (k:=0) e;rw[Nat.zero_add] at this;obtain⟨v,g,r⟩:=h2.get (k:=.inl (i:Int)) (d:=ptD p) this;obtain⟨a,rfl,ha⟩:=zCt r;exact⟨kvs,a,h1,g,ha⟩
end
section
variable{H H1:Hp}{S:BS}
structure sO(H:Hp)(S:BS)(as:List Addr)(ms:List Str):Prop where
 mk ::
 len:as.length=ms.length
 at_:∀(j:Nat)(a:Addr)(n:Str),as[j]?=some a->ms[j]?=some n->∃ p:Int×Int,zZ S n=some p/\H a=some (.tup [.str n,.int p.1,.int p.2])
theorem sO.samE{φ:Addr->Prop}{as:List Addr}{ms:List Str}(h:sO H S as ms)(s:uM φ H H1)(np:∀ a xs,H a=some (.tup xs)->¬ φ a):sO H1 S as ms :=
 ⟨h.len,λj a n ha hn=>let ⟨p,h1,h2⟩:=h.at_ j a n ha hn;⟨p,h1,s.tup (np _ _ h2) h2⟩⟩
theorem sO.app{as:List Addr}{ms:List Str}{a:Addr}{n:Str}{p:Int×Int}(h:sO H S as ms)(h1:zZ S n=some p)(h2:H a=some (.tup [.str n,.int p.1,.int p.2])):sO H S (as++[a]) (ms++[n]) :=
 ⟨by rw[List.length_append,List.length_append,h.len]; rfl,λj b m hb hm=>by
  rcases Nat.lt_or_ge j as.length with z | z
  ·rw[List.getElem?_append_left z] at hb;rw[List.getElem?_append_left (by rw[<- h.len]; exact z)] at hm;exact h.at_ j b m hb hm
  ·rw[List.getElem?_append_right z] at hb;rw[List.getElem?_append_right (by rw[<- h.len]; exact z),<- h.len] at hm;have e:j-as.length=0:=by have:=(List.getElem?_eq_some_iff.mp hb).1; simp at this; lia
   rw[e] at hb hm;simp at hb hm;subst hb hm;exact⟨p,h1,h2⟩⟩
def qQ(H:Hp)(d:Addr)(S:BS):Prop:=∃ kvs,Rd H d (.dK kvs)/\∀ n p,zZ S n=some p->∃ a,vA kvs (.inr n)=some (.ref a)/\H a=some (.tup [.int p.1,.int p.2])
theorem qQ.to{d:Addr}(h:qQ H d S)(s:Sam H H1):qQ H1 d S:=let ⟨kvs,h1,h2⟩:=h;⟨kvs,s.rd id h1,λn p e=>let ⟨a,h3,h4⟩:=h2 n p e;⟨a,h3,s.tup id h4⟩⟩
theorem uD{D:Addr}{u o:HO}(eD:H D=some u):uM (λx=>x=D) H (upd H D o):=λx o hx e=>.inl (by rw[zG hx]; exact e)
theorem wO{D:Addr}{zs:List V}(eD:H D=some (.lst zs)):∀ b xs,H b=some (.tup xs)->¬ b=D:=λb xs e z=>by rw[z,eD] at e; cases e
end
theorem zQw{i j:Nat}{σ:St}{G:V->Hp->Prop}{H:Hp}(h:G (.int (vJ i j)) H):if decide ((i:Int)<=j)=true then tC (.int 1) σ H G else tUn (rU λi=>V.int (-i)) (tC (.int 1)) σ H G:=by
 refine ifD (λz=>?_) (λz=>?_)
 ·have:vJ i j=1:=by unfold vJ; rw[if_neg (by lia)]
  rw[this] at h;exact h
 ·have:vJ i j = -1:=by unfold vJ; rw[if_pos (by lia)]
  rw[this] at h;exact⟨_,rfl,h⟩
end Sea

namespace Sea
open PySem L2
structure yD(H:Hp)(as:List Addr)(rows:List (List Int)):Prop where
 mk ::
 len:as.length=rows.length
 at_:∀(j:Nat)(a:Addr)(r:List Int),as[j]?=some a->rows[j]?=some r->H a=some (.tup (r.map V.int))
def wC(S:BS)(n:Str):Int×Int:=(zZ S n).getD (0,0)
def uK(S:BS):Deed->List (List Int)
 | .bearing _ n a b c d=>[zBl [-b,a,a*(wC S n).2-b*(wC S n).1],zBl [d,-c,(wC S n).1*d-(wC S n).2*c]]
 | .range _ l r=>[zBl [(wC S l).2-(wC S r).2,(wC S r).1-(wC S l).1,(wC S r).1*(wC S l).2-(wC S r).2*(wC S l).1]]
 | _=>[]
def zNf(x y:Int):List Int->List Int
 | [a,b,c]=>[a,b,c+a*x+b*y]
 | l=>l
def wN:Deed->Int
 | .bearing m _ _ _ _ _=>m
 | .range m _ _=>m
 | _=>0
def xI(S:BS)(j:Nat)(D:Deed):List (List Int):=(uK S D).map (zNf (xV S.runs (wN D).toNat j).1 (xV S.runs (wN D).toNat j).2)
def zA4(S:BS):Deed->Prop
 | .bearing m n a b c d=>0<=m/\m<=S.runs.length/\(zZ S n).isSome=true/\zA9 (a,b)/\zA9 (c,d)
 | .range m l r=>0<=m/\m<=S.runs.length/\(zZ S l).isSome=true/\(zZ S r).isSome=true/\zZ S l≠zZ S r
 | _=>False
structure zI1(S:BS):Prop where
 few:Few S
 fresh:zJ2 S
 rise:zO2 S
 mk_:∀ e∈S.marks,zG8 e.2
 way:∀ e∈S.runs,zG8 e
 note:∀ e∈S.notes,zA4 S e.2
section
variable{H H1:Hp}{S:BS}
theorem yD.to{as:List Addr}{rows:List (List Int)}(h:yD H as rows)(s:Sam H H1):yD H1 as rows:=⟨h.len,λj a r ha hr=>s.tup id (h.at_ j a r ha hr)⟩
theorem yD.samE{φ:Addr->Prop}{as:List Addr}{rows:List (List Int)}(h:yD H as rows)(s:uM φ H H1)(np:∀ a xs,H a=some (.tup xs)->¬ φ a):yD H1 as rows:=⟨h.len,λj a r ha hr=>s.tup (np _ _ (h.at_ j a r ha hr)) (h.at_ j a r ha hr)⟩
theorem yD.nil:yD H [] []:=⟨rfl,λj a r e=>by simp at e⟩
theorem yD.one{a:Addr}{r:List Int}(h:H a=some (.tup (r.map V.int))):yD H [a] [r]:=⟨rfl,λj b r' e1 e2=>by
 cases j with
 | zero=>simp at e1 e2; subst e1 e2; exact h
 | succ j=>simp at e1⟩
theorem yD.app{as bs:List Addr}{rows more:List (List Int)}(h:yD H as rows)(k:yD H bs more):yD H (as++bs) (rows++more):=⟨by rw[List.length_append,List.length_append,h.len,k.len],λj a r ha hr=>by
 rcases Nat.lt_or_ge j as.length with z | z
 ·rw[List.getElem?_append_left z] at ha;rw[List.getElem?_append_left (by rw[<- h.len]; exact z)] at hr;exact h.at_ j a r ha hr
 ·rw[List.getElem?_append_right z] at ha;rw[List.getElem?_append_right (by rw[<- h.len]; exact z),<- h.len] at hr;exact k.at_ _ a r ha hr⟩
theorem uE{n:Str}{p:Int×Int}(h:∀ e∈S.marks,zG8 e.2)(e:zZ S n=some p):zG8 p:=h _ (zAp e)
theorem xZ{n:Str}{p:Int×Int}(e:zZ S n=some p):wC S n=p:=by unfold wC; rw[e]; rfl
theorem zM1{ns:List Int}{M:Nat}(h:∃ x∈ns,x≠0/\x.natAbs<=M):0<yR ns/\yR ns<=M:=by
 obtain⟨x,hx,h0,hM⟩:=h;have d:yR ns ∣ x.natAbs:=tR hx;have p:0<x.natAbs:=by lia
 exact⟨Nat.pos_of_dvd_of_pos d p,Nat.le_trans (Nat.le_of_dvd p d) hM⟩
end
structure yK(H0 H:Hp)(gs:List Addr)(rows:List (List (List Int))):Prop where
 mk ::
 len:gs.length=rows.length
 new:∀ g∈gs,H0 g=none
 at_:∀(j:Nat)(g:Addr)(r:List (List Int)),gs[j]?=some g->rows[j]?=some r->∃ as:List Addr,H g=some (.lst (as.map V.ref))/\yD H as r
section
variable{H0 H H1:Hp}{S:BS}
theorem yK.samE{φ:Addr->Prop}{gs:List Addr}{rows:List (List (List Int))}(h:yK H0 H gs rows)(s:uM φ H H1)(np:∀ a xs,H a=some (.tup xs)->¬ φ a)(nl:∀ g∈gs,¬ φ g):yK H0 H1 gs rows :=
 ⟨h.len,h.new,λj g r hg hr=>let ⟨as,h1,h2⟩:=h.at_ j g r hg hr;⟨as,s.lst (nl g (List.mem_of_getElem? hg)) h1,h2.samE s np⟩⟩
theorem yK.nil:yK H0 H [] []:=⟨rfl,λg hg=>(nomatch hg),λj a r e=>by simp at e⟩
theorem yK.snoc{gs:List Addr}{rows:List (List (List Int))}{g:Addr}{as:List Addr}{r:List (List Int)}(h:yK H0 H gs rows)(h0:H0 g=none)(h1:H g=some (.lst (as.map V.ref)))(h2:yD H as r):yK H0 H (gs++[g]) (rows++[r]) :=
 ⟨by rw[List.length_append,List.length_append,h.len]; rfl,λx hx=>by
  rcases List.mem_append.mp hx with z | z
  ·exact h.new x z
  ·rw[List.mem_singleton.mp z]; exact h0,λj a r' ha hr=>by
  rcases Nat.lt_or_ge j gs.length with z | z
  ·rw[List.getElem?_append_left z] at ha;rw[List.getElem?_append_left (by rw[<- h.len]; exact z)] at hr;exact h.at_ j a r' ha hr
  ·rw[List.getElem?_append_right z] at ha;rw[List.getElem?_append_right (by rw[<- h.len]; exact z),<- h.len] at hr;have e:j-gs.length=0:=by have:=(List.getElem?_eq_some_iff.mp ha).1; simp at this; lia
   rw[e] at ha hr;simp at ha hr;subst ha hr;exact⟨as,h1,h2⟩⟩
theorem zO8{a b c:Int}{M:Nat}(ha:a.natAbs<=M)(hb:b.natAbs<=M):∃ x y z:Int,zBl [a,b,c]=[x,y,z]/\x.natAbs<=M/\y.natAbs<=M :=
 ⟨_,_,_,rfl,Nat.le_trans (Int.natAbs_ediv_le_natAbs _ _) ha,Nat.le_trans (Int.natAbs_ediv_le_natAbs _ _) hb⟩
theorem zA0{D:Deed}(nr:∀ e∈S.marks,zG8 e.2)(kn:zA4 S D):∀ r∈uK S D,∃ x y z:Int,r=[x,y,z]/\x.natAbs<=10^4/\y.natAbs<=10^4:=by
 match D,kn with
 | .bearing m n a b c d,kn =>
  obtain⟨_,_,_,⟨_,w1,w2,w3,w4⟩,⟨_,w5,w6,w7,w8⟩⟩:=kn;dsimp only at w1 w2 w3 w4 w5 w6 w7 w8;intro r hr;rcases List.mem_cons.mp hr with e | hr
  ·rw[e]; exact zO8 (by lia) (by lia)
  ·rw[List.mem_singleton.mp hr]; exact zO8 (by lia) (by lia)
 | .range m l r,kn =>
  obtain⟨_,_,h1,h2,_⟩:=kn;obtain⟨pt,hpt⟩:=Option.isSome_iff_exists.mp h1;obtain⟨pu,hpu⟩:=Option.isSome_iff_exists.mp h2;obtain⟨n1,n2,n3,n4⟩:=uE nr hpt;obtain⟨n5,n6,n7,n8⟩:=uE nr hpu;intro r' hr;rw[List.mem_singleton.mp hr,xZ hpt,xZ hpu];exact zO8 (by lia) (by lia)
theorem zAb{D:Deed} : (uK S D).length<=2:=by
 unfold uK;split <;> simp
theorem zC1{D:Deed}{v:V}(kn:zA4 S D)(h:Rep H D.dt v):∃(t:Addr)(xs:List V),v=.ref t/\H t=some (.tup xs)/\atI xs 1=some (.int (wN D))/\0<=wN D/\wN D<=S.runs.length:=by
 match D,kn,h with
 | .bearing m n a b c d,kn,h =>
  obtain⟨t,_,_,e,ht,_⟩:=uU h;exact⟨t,_,e,ht,rfl,kn.1,kn.2.1⟩
 | .range m l r,kn,h =>
  obtain⟨t,e,ht⟩:=rM h;exact⟨t,_,e,ht,rfl,kn.1,kn.2.1⟩
end
theorem zBx{α β:Type}(f:α->List β)(h:∀ x,(f x).length<=2):∀ l:List α,((l.map f).flatten).length<=2*l.length
 | []=>Nat.le_refl _
 | x::l=>by
  have:=zBx f h l;have:=h x;simp only[List.map_cons,List.flatten_cons,List.length_append,List.length_cons];lia
theorem uV{S:BS}{j:Nat}{D:Deed} : (xI S j D).length<=2:=by unfold xI; rw[List.length_map]; exact zAb
theorem zKf:∀{l:List (Int×Deed)}{i:Nat}{e:Int×Deed},(l.map (·.1)).Pairwise (· < ·)->l[i]?=some e->look (ntE l) (.inl e.1)=some e.2.dt
 | [],_,_,_,h=>by simp at h
 | q::l,0,e,_,h=>by
  simp at h;subst h;simp[look,ntE]
 | q::l,i+1,e,hp,h=>by
  have h':l[i]?=some e:=by simpa using h
  have hp':=List.pairwise_cons.mp (show(q.1::l.map (·.1)).Pairwise (· < ·) from hp);have ih:=zKf hp'.2 h';have lt:=hp'.1 e.1 (List.mem_map.mpr ⟨e,List.mem_of_getElem? h',rfl⟩);have ne:¬ (Sum.inl q.1:Key)=Sum.inl e.1:=λz=>by injection z with z; lia
  unfold look ntE at ih ⊢;rw[List.map_cons,List.find?_cons,decide_eq_false ne];exact ih
theorem zIk:∀{l:List (Int×Deed)}{kvs:List (Key×V)}{H:Hp},xX H kvs (ntE l)->kvs.map (λkv=>kV kv.1)=(l.map (·.1)).map V.int
 | [],_,_,h=>by rw[h.nil_iff]; rfl
 | (n,D)::l,_,_,h=>by
  obtain⟨v,r,rfl,h1,h2⟩:=xX.cons_iff.mp h;rw[List.map_cons,zIk h2];rfl
theorem zKa{a b:List Int}(p:a.Perm b)(ha:a.Pairwise (·<=·))(hb:b.Pairwise (· < ·)):a=b:=PySem.W.lks_uniq p ha (hb.imp λh=>Int.le_of_lt h)
theorem zL8(a b c:V):zAu [] [(.inr "marks", a),(.inr "banks", b),(.inr "runs", c)]=[(.inr "marks", a),(.inr "banks", b),(.inr "runs", c)]:=by kernel_rfl
theorem zPs(a b c d:V):tL [((.inr "marks" : Key),a),(.inr "banks", b),(.inr "runs", c)] (.inr "notes") d=[(.inr "marks", a),(.inr "banks", b),(.inr "runs", c),(.inr "notes", d)]:=by kernel_rfl
theorem zPd(a b c d e:V):tL [((.inr "marks" : Key),a),(.inr "banks", b),(.inr "runs", c),(.inr "notes", d)] (.inr "next") e=[(.inr "marks", a),(.inr "banks", b),(.inr "runs", c),(.inr "notes", d),(.inr "next", e)]:=by kernel_rfl
theorem zJr{H:Hp}{D:Addr}{kvs:List (Key×V)}(eD:H D=some (.dK kvs)):∀ b xs,H b=some (.tup xs)->¬ b=D:=λb xs e z=>by rw[z,eD] at e; cases e
theorem zJh{runs:List (Int×Int)}{j:Nat}(h:runs.length<=3)(hb:∀ e∈runs,e.1.natAbs<=4/\e.2.natAbs<=4):(xV runs 0 j).1.natAbs<=12/\(xV runs 0 j).2.natAbs<=12:=by
 have hs:∀ e∈rZ runs 0 j,e∈runs:=λe he=>List.mem_of_mem_drop (List.mem_of_mem_take he);have l:=zCq runs 0 j;have a:=zH2 ((rZ runs 0 j).map (·.1)) 4 λx hx=>by
  obtain⟨e,he,rfl⟩:=List.mem_map.mp hx;exact(hb e (hs e he)).1
 have b:=zH2 ((rZ runs 0 j).map (·.2)) 4 λx hx=>by
  obtain⟨e,he,rfl⟩:=List.mem_map.mp hx;exact(hb e (hs e he)).2
 rw[List.length_map] at a b;unfold xV vJ;split <;> exact⟨by dsimp only; lia,by dsimp only; lia⟩
theorem zIb{k p q:Int}(hk:1<=k)(h:¬ (p=0/\q=0)):0<(k*p+q)*(k*q+p)-(k*q-p)*(k*p-q):=by
 have e:(k*p+q)*(k*q+p)-(k*q-p)*(k*p-q)=2*k*(p*p+q*q):=by grind
 rw[e];have h1:0<=p*p:=by rcases Int.le_total 0 p with z | z; exact Int.mul_nonneg z z; exact Int.mul_nonneg_of_nonpos_of_nonpos z z
 have h2:0<=q*q:=by rcases Int.le_total 0 q with z | z; exact Int.mul_nonneg z z; exact Int.mul_nonneg_of_nonpos_of_nonpos z z
 have h3:0<p*p+q*q:=by
  rcases Decidable.em (p=0) with z | z
  ·have z':q≠0:=λw=>h ⟨z,w⟩;have:q*q≠0:=Int.mul_ne_zero z' z';lia
  ·have:p*p≠0:=Int.mul_ne_zero z z;lia
 exact Int.mul_pos (by lia) h3
theorem vB{H:Hp}{w p q:Addr}{m:Int}{n:Str}{a b c d:Int}(hw:H w=some (.tup [.str "bearing", .int m,.str n,.ref p,.ref q]))(hp:H p=some (.tup [.int a,.int b]))(hq:H q=some (.tup [.int c,.int d])):Rep H (Deed.bearing m n a b c d).dt (.ref w) :=
 vW.mpr ⟨w,_,rfl,hw,zK.mpr ⟨_,_,rfl,xM.mpr rfl,zK.mpr ⟨_,_,rfl,xL.mpr rfl,zK.mpr ⟨_,_,rfl,xM.mpr rfl,.two (qK (p:=(a,b)) hp) (qK (p:=(c,d)) hq)⟩⟩⟩⟩
theorem zJ5{H:Hp}{w:Addr}{m:Int}{l r:Str}(hw:H w=some (.tup [.str "range", .int m,.str l,.str r])):Rep H (Deed.range m l r).dt (.ref w) :=
 vW.mpr ⟨w,_,rfl,hw,zK.mpr ⟨_,_,rfl,xM.mpr rfl,zK.mpr ⟨_,_,rfl,xL.mpr rfl,.two (xM.mpr rfl) (xM.mpr rfl)⟩⟩⟩
theorem zM9{H:Hp}{w:Addr}{n:Str}{x y:Int}(hw:H w=some (.tup [.str "mark", .str n,.int x,.int y])):Rep H (Deed.mark n x y).dt (.ref w) :=
 vW.mpr ⟨w,_,rfl,hw,zK.mpr ⟨_,_,rfl,xM.mpr rfl,zK.mpr ⟨_,_,rfl,xM.mpr rfl,.two (xL.mpr rfl) (xL.mpr rfl)⟩⟩⟩
theorem zM5{H:Hp}{w:Addr}{x y:Int}(hw:H w=some (.tup [.str "sail", .int x,.int y])):Rep H (Deed.sail x y).dt (.ref w) :=
 vW.mpr ⟨w,_,rfl,hw,zK.mpr ⟨_,_,rfl,xM.mpr rfl,.two (xL.mpr rfl) (xL.mpr rfl)⟩⟩
theorem zGg{a b c d:Int}(t:0<a*d-b*c)(h1:a.natAbs<=100)(h2:b.natAbs<=100)(h3:c.natAbs<=100)(h4:d.natAbs<=100):zA9 (a,b)/\zA9 (c,d):=by
 refine⟨⟨λz=>?_,by dsimp only; lia,by dsimp only; lia,by dsimp only; lia,by dsimp only; lia⟩,⟨λz=>?_,by dsimp only; lia,by dsimp only; lia,by dsimp only; lia,by dsimp only; lia⟩⟩
 ·injection z with z1 z2
  rw[z1,z2] at t;simp at t
 ·injection z with z1 z2
  rw[z1,z2] at t;simp at t
end Sea

namespace Sea
open PySem L2
theorem tF{S:BS}{n:Str}{e:Str×Int×Int}(h:(zZ S n).isSome=true):zZ { S with marks:=S.marks++[e] } n=zZ S n:=by
 unfold zZ at h ⊢;dsimp only;rw[List.find?_append];cases q:S.marks.find? λe=>decide (e.1=n) with
 | none=>rw[q] at h; simp at h
 | some e'=>rfl
theorem zJb{S:BS}{D:Deed}{e:Str×Int×Int}(h:zA4 S D):zA4 { S with marks:=S.marks++[e] } D:=by
 match D,h with
 | .bearing m n a b c d,h=>exact⟨h.1,h.2.1,by rw[tF h.2.2.1]; exact h.2.2.1,h.2.2.2⟩
 | .range m l r,h=>exact⟨h.1,h.2.1,by rw[tF h.2.2.1]; exact h.2.2.1,by rw[tF h.2.2.2.1]; exact h.2.2.2.1,by rw[tF h.2.2.1,tF h.2.2.2.1]; exact h.2.2.2.2⟩
theorem zL1{S:BS}{D:Deed}{e:Int×Int}(h:zA4 S D):zA4 { S with runs:=S.runs++[e] } D:=by
 match D,h with
 | .bearing m n a b c d,h=>exact⟨h.1,by have:=h.2.1; dsimp only; rw[List.length_append]; simp only[List.length_cons,List.length_nil]; lia,h.2.2⟩
 | .range m l r,h=>exact⟨h.1,by have:=h.2.1; dsimp only; rw[List.length_append]; simp only[List.length_cons,List.length_nil]; lia,h.2.2⟩
theorem zDy{S:BS}{D:Deed}{l:List (Int×Deed)}{k:Int}(h:zA4 S D):zA4 { S with notes:=l,coming:=k } D:=by
 match D,h with
 | .bearing m n a b c d,h=>exact h
 | .range m l r,h=>exact h
theorem zIo:zI1 BS.nil:=⟨⟨by decide,by decide,by decide,by decide⟩,λe he=>(nomatch he),.nil,λe he=>(nomatch he),λe he=>(nomatch he),λe he=>(nomatch he)⟩
theorem zGs{S:BS}{D:Deed}(g:zI1 S)(kn:zA4 S D)(l:S.notes.length<24):zI1 { S with notes:=S.notes++[(S.coming,D)],coming:=S.coming+1 }:=by
 refine⟨⟨g.few.ma,g.few.ba,g.few.ru,by show(S.notes++[_]).length<=60; rw[List.length_append]; simp only[List.length_cons,List.length_nil]; lia⟩,λe he=>?_,?_,g.mk_,g.way,λe he=>?_⟩
 ·rcases List.mem_append.mp he with z | z
  ·have:=g.fresh e z;show e.1<S.coming+1;lia
  ·rw[List.mem_singleton.mp z];show S.coming<S.coming+1;lia
 ·show((S.notes++[(S.coming,D)]).map (·.1)).Pairwise (· < ·);rw[List.map_append,List.pairwise_append];refine⟨g.rise,List.pairwise_singleton _ _,λx hx y hy=>?_⟩;obtain⟨e,he,rfl⟩:=List.mem_map.mp hx;rw[List.mem_singleton.mp hy];exact g.fresh e he
 ·rcases List.mem_append.mp he with z | z
  ·exact zDy (g.note e z)
  ·rw[List.mem_singleton.mp z];exact zDy kn
theorem zMu{S:BS}{D:Deed}(g:zI1 S)(ok:okD S D):zI1 (aft S D):=by
 match D,ok with
 | .mark n x y,ok =>
  refine⟨⟨by show(S.marks++[_]).length<=60; rw[List.length_append]; have:=ok.2.2.2; simp only[List.length_cons,List.length_nil]; lia,g.few.ba,g.few.ru,g.few.no⟩,g.fresh,g.rise,λe he=>?_,g.way,λe he=>zJb (g.note e he)⟩;rcases List.mem_append.mp he with z | z
  ·exact g.mk_ e z
  ·rw[List.mem_singleton.mp z];exact ok.2.2.1
 | .sail x y,ok =>
  refine⟨⟨g.few.ma,g.few.ba,by show(S.runs++[_]).length<=60; rw[List.length_append]; have:=ok.2; simp only[List.length_cons,List.length_nil]; lia,g.few.no⟩,g.fresh,g.rise,g.mk_,λe he=>?_,λe he=>zL1 (g.note e he)⟩;rcases List.mem_append.mp he with z | z
  ·exact g.way e z
  ·rw[List.mem_singleton.mp z];exact ok.1
 | .bearing m n a b c d,ok=>exact zGs g ⟨ok.1,ok.2.1,ok.2.2.1,ok.2.2.2.1,ok.2.2.2.2.1⟩ ok.2.2.2.2.2.2
 | .range m l r,ok=>exact zGs g ⟨ok.1,ok.2.1,ok.2.2.1,ok.2.2.2.1,ok.2.2.2.2.1⟩ ok.2.2.2.2.2
def vU:BS->List Deed->Prop
 | _,[]=>True
 | S,D::r=>okD S D/\vU (aft S D) r
def vK(S:BS)(l:List Deed):BS:=l.foldl aft S
theorem zAe:∀{l:List Deed}{S:BS},zI1 S->vU S l->zI1 (vK S l)
 | [],_,g,_=>g
 | D::r,S,g,⟨h1,h2⟩=>show zI1 (vK (aft S D) r) from zAe (zMu g h1) h2
theorem zDh:∀{l:List Deed}{S:BS}{D:Deed},vU S l->okD (vK S l) D->vU S (l++[D])
 | [],_,_,_,h=>⟨h,trivial⟩
 | _::_,_,_,⟨h1,h2⟩,h=>⟨h1,zDh h2 h⟩
theorem zD7:∀{l:List Deed}{S:BS}{i:Nat}{D:Deed},vU S l->l[i]?=some D->okD (vK S (l.take i)) D
 | [],_,_,_,_,e=>by simp at e
 | _::_,_,0,_,⟨h1,_⟩,e=>by
  simp at e;subst e;exact h1
 | D'::l,S,i+1,D,⟨_,h2⟩,e=>zD7 (l:=l) (S:=aft S D') (i:=i) h2 (by simpa using e)
theorem zHi{l:List Deed}{S:BS}{i:Nat}{D:Deed}(e:l[i]?=some D):vK S (l.take (i+1))=aft (vK S (l.take i)) D:=by
 unfold vK;rw[List.take_succ,e,List.foldl_append];rfl
def LwN(H0 H:Hp)(d:Addr)(S:BS):Prop:=∃ m b r n,H0 r=none/\LwA H d m b r n S
def zRf:Sp:=λvs H Q _=>∃(a r:Addr)(rows:List Int)(ns:List Str),vs=[.ref a,.ref r]/\H a=some (.lst (rows.map V.int))/\90<=rows.length/\(∀ x∈rows,0<=x/\x<1000003)/\H r=some (.lst (ns.map V.str))/\ns.length=5/\(∀ n∈ns,zCd n)/\ns.Nodup /\
 ∀(l:Addr)(xs:List V)(Ds:List Deed)(H':Hp),Same H H'->H l=none->H' l=some (.lst xs)->xJ H' (Ds.map Deed.dt) xs->Ds.length<=14->vU BS.nil Ds->(vK BS.nil Ds).runs.length<=3->Q (.ref l) H'
theorem zAy:∀{l:List Deed}{S:BS}{i:Nat},vU S l->vU S (l.take i)
 | [],_,_,_=>by rw[List.take_nil]; exact trivial
 | _::_,_,0,_=>trivial
 | _::_,_,i+1,⟨h1,h2⟩=>⟨h1,zAy (i:=i) h2⟩
end Sea

namespace Sea
open PySem L2
def stN(l:List (Str×Int×Int))(rs:List (Int×Int))(no:List (Int×Deed))(k:Int):BS:=⟨l,[],rs,no,k⟩
section
variable{l:List (Str×Int×Int)}{rs:List (Int×Int)}{no:List (Int×Deed)}{k:Int}
theorem zD3{n:Str}(h:n ∉ l.map (·.1)):zZ (stN l rs no k) n=none:=by
 unfold zZ;rw[Option.map_eq_none_iff,List.find?_eq_none];intro e he z;exact h (List.mem_map.mpr ⟨e,he,of_decide_eq_true z⟩)
theorem zO5{n:Str}{x y:Int}(hn:zCd n)(h:n ∉ l.map (·.1))(hp:zG8 (x,y))(hl:l.length<20):okD (stN l rs no k) (.mark n x y):=⟨hn,zD3 h,hp,hl⟩
theorem zP7{x y:Int}(hp:zG8 (x,y))(hl:rs.length<12):okD (stN l rs no k) (.sail x y):=⟨hp,hl⟩
theorem zDz{m:Nat}{n:Str}{a b c d:Int}(hm:m<=rs.length)(hn:n∈l.map (·.1))(w1:zA9 (a,b))(w2:zA9 (c,d))(t:0<a*d-b*c)(hl:no.length<24):okD (stN l rs no k) (.bearing m n a b c d) :=
 ⟨by lia,by show(m:Int)<=(rs.length:Int); lia,by obtain⟨p,e⟩:=vY (S:=stN l rs no k) hn; rw[e]; rfl,w1,w2,t,hl⟩
theorem zN2{m:Nat}{a b:Str}(hm:m<=rs.length)(ha:a∈l.map (·.1))(hb:b∈l.map (·.1))(ne:zZ (stN l rs no k) a≠zZ (stN l rs no k) b)(hl:no.length<24):okD (stN l rs no k) (.range m a b) :=
 ⟨by lia,by show(m:Int)<=(rs.length:Int); lia,by obtain⟨p,e⟩:=vY (S:=stN l rs no k) ha; rw[e]; rfl,by obtain⟨p,e⟩:=vY (S:=stN l rs no k) hb; rw[e]; rfl,ne,hl⟩
structure zEc(Ds:List Deed)(l:List (Str×Int×Int))(rs:List (Int×Int))(no:List (Int×Deed))(k:Int):Prop where
 mk ::
 ok:vU BS.nil Ds
 at_:vK BS.nil Ds=stN l rs no k
theorem zNv:zEc [] [] [] [] 1:=⟨trivial,rfl⟩
theorem zEc.snoc{Ds:List Deed}{D:Deed}(h:zEc Ds l rs no k)(ok:okD (stN l rs no k) D):vU BS.nil (Ds++[D])/\vK BS.nil (Ds++[D])=aft (stN l rs no k) D:=by
 exists zDh h.ok (by rw[h.at_]; exact ok);have e:=h.at_;unfold vK at e ⊢;rw[List.foldl_append,e];rfl
theorem zEc.mark{Ds:List Deed}{n:Str}{x y:Int}(h:zEc Ds l rs no k)(ok:okD (stN l rs no k) (.mark n x y)):zEc (Ds++[.mark n x y]) (l++[(n,x,y)]) rs no k:=let ⟨a,b⟩:=h.snoc ok;⟨a,b⟩
theorem zEc.sail{Ds:List Deed}{x y:Int}(h:zEc Ds l rs no k)(ok:okD (stN l rs no k) (.sail x y)):zEc (Ds++[.sail x y]) l (rs++[(x,y)]) no k:=let ⟨a,b⟩:=h.snoc ok;⟨a,b⟩
theorem zEc.bearing{Ds:List Deed}{m:Int}{n:Str}{a b c d:Int}(h:zEc Ds l rs no k)(ok:okD (stN l rs no k) (.bearing m n a b c d)):zEc (Ds++[.bearing m n a b c d]) l rs (no++[(k,.bearing m n a b c d)]) (k+1):=let ⟨x,y⟩:=h.snoc ok;⟨x,y⟩
theorem zEc.range{Ds:List Deed}{m:Int}{a b:Str}(h:zEc Ds l rs no k)(ok:okD (stN l rs no k) (.range m a b)):zEc (Ds++[.range m a b]) l rs (no++[(k,.range m a b)]) (k+1):=let ⟨x,y⟩:=h.snoc ok;⟨x,y⟩
end
theorem zIy{α:Type}{l:List α}{i:Nat}{x:α}(h:l.Nodup)(e:l[i]?=some x):x ∉ l.take i:=λm=>by
 obtain⟨j,hj⟩:=List.mem_iff_getElem?.mp m;have lt:j<i:=by have:=(List.getElem?_eq_some_iff.mp hj).1; rw[List.length_take] at this; lia
 rw[List.getElem?_take,if_pos lt] at hj;obtain⟨h1,e1⟩:=List.getElem?_eq_some_iff.mp hj;obtain⟨h2,e2⟩:=List.getElem?_eq_some_iff.mp e;have:=(List.getElem_inj h).mp (e1.trans e2.symm);lia
theorem zOt{ms:List Str}{x:Int}(h:0<((ms.map V.str).length:Int)):∃ n,n∈ms/\atI (ms.map V.str) (x%((ms.map V.str).length:Int))=some (.str n):=by
 have h0:=Int.emod_nonneg x (show((ms.map V.str).length:Int)≠0 by lia);have h1:=Int.emod_lt_of_pos x h;generalize x%((ms.map V.str).length:Int)=y at h0 h1;obtain⟨k,rfl⟩:=Int.eq_ofNat_of_zero_le h0;have hk:k<ms.length:=by rw[List.length_map] at h1; lia
 exact⟨ms[k],List.getElem_mem hk,zEm (by rw[List.getElem?_map,List.getElem?_eq_getElem hk]; rfl)⟩
end Sea

namespace L2
open PySem PySem.Spec PyProof.Rows
theorem yZ.some{P:Program}{w:World}{H:Hp}{h:Heap}{a:Addr}{o:HO}(x:yZ P w H h a o):∃ ob,h.get? a=some ob:=by
 cases o with
 | lst xs=>obtain⟨_,_,_,_,e⟩:=x; exact⟨_,e⟩
 | tup xs=>obtain⟨_,_,_,o,e,_⟩:=x; exact⟨_,e⟩
 | dK kvs=>obtain⟨_,_,_,_,o,_,_,e,_⟩:=x; exact⟨_,e⟩
 | dT kvs=>obtain⟨_,_,_,_,o,_,_,e,_⟩:=x; exact⟨_,e⟩
 | set S n=>obtain⟨o,_,_,_,e,_⟩:=x; exact⟨_,e⟩
 | ins C dx fs=>obtain⟨_,_,_,e,_⟩:=x; exact⟨_,e⟩
 | own y=>obtain⟨_,e⟩:=x; exact⟨_,e⟩
 | xd fs=>obtain⟨_,⟨_,_,_,e,_⟩,_⟩:=x; exact⟨_,e⟩
 | rng lo hi=>obtain⟨_,_,_,e⟩:=x; exact⟨_,e⟩
 | frz ob u=>obtain⟨e,_⟩:=x; exact⟨_,e⟩
 | tbl ps=>exact⟨_,x⟩
 | met f y=>exact⟨_,x⟩
 | ext φ=>obtain⟨_,⟨_,e⟩,_⟩:=x; exact⟨_,e⟩
section
variable{fs:List Addr}{H H':Hp}{h h2 h3 B:Heap}{P:Program}{w:World}
theorem zSg(u:Un fs [] H H' h h2)(st:B.StaysIn h3)(hB:∀ b o o',h.get? b=some o'->h2.get? b=some o->b ∉ fs->B.get? b=some o)
  (hf:∀ b∈fs,∀ o,h2.get? b=some o->∃ sl,h3.get? b=some { o with slots:=sl }):Un fs [] H H' h h3 where
 keep:=λb o q n hb hx=>st _ _ (hB b o o q (u.keep b o q n hb hx) hb)
 slot:=λb o q n hb hx=>by
  obtain⟨sl,e⟩:=u.slot b o q n hb hx;obtain⟨sl',e'⟩:=hf b hb _ e;exact⟨sl',e'⟩
 free:=u.free
 there:=λb o q hx=>by
  obtain⟨o',e⟩:=u.there b o q hx;by_cases hb:b∈fs
  ·obtain⟨sl,e'⟩:=hf b hb _ e;exact⟨_,e'⟩
  ·exact⟨o',st _ _ (hB b o' o q e hb)⟩
 tups:=u.tups
 frzs:=u.frzs
 tbls:=u.tbls
theorem zOk(ok:HOk P w H' h2)(st:B.StaysIn h3)(hB:∀ b o u,H' b=some u->h2.get? b=some o->B.get? b=some o):HOk P w H' h3:=λa o e =>
 (ok a o e).stay (λb u hb q=>st _ _ (by
  rcases hb with rfl | hb
  ·exact hB _ u o e q
  ·exact hB b u _ hb q)) (λ_ q=>q) λ_ _ q=>q
end
structure zGo(P:Program)(w:World)(outer:List Env)(H:Hp)(s:Shared)(ea:Addr)(cls a0:Value)(H':Hp)(B:Heap)(s':Shared):Prop where
 mk ::
 os:s'.os=s.os
 bare:AllBare s'.gens
 un:Un (frs outer) [] H H' s.heap s'.heap
 hok:HOk P w H' s'.heap
 new:H' ea=none
 fresh:s.heap.get? ea=none
 fly:Heap.FlyingW B outer ea cls a0 s'.heap
 has:∀ b o,s'.heap.get? b=some o->((s.heap.get? b).isSome=true\/(H' b).isSome=true)->b ∉ frs outer->B.get? b=some o
def CX1(P:Program)(w:World):CXT:=λouter H s E e s'=>∃(ea:Addr)(cls a0:Value)(H':Hp)(B:Heap),e=.ref ea/\zGo P w outer H s ea cls a0 H' B s'/\E cls none H'
theorem CX1.none{P:Program}{w:World}{outer:List Env}{H:Hp}{s s':Shared}{e:Value}(h:CX1 P w outer H s E0 e s'):False:=let ⟨_,_,_,_,_,_,_,z⟩:=h; z
theorem zFu{X:Cx}{pins:List (Addr×Obj)}{σ:St}{H2:Hp}{s2:Shared}{ea:Addr}{cls a0:Value}{B h3:Heap}{env:Env}{outer:List Env}(hs:X.stack=env::outer)(ho:X.outer=outer)(hx:X.ex=[])(hl:env.frame=some X.env.locals)(J:Inv X pins σ H2 s2)
  (hB:∀ b o,s2.heap.get? b=some o->((X.s₀.heap.get? b).isSome=true\/(H2 b).isSome=true)->b ∉ frs (env::outer)->B.get? b=some o) (nw:H2 ea=none) (fr:X.s₀.heap.get? ea=none)
  (fly:Heap.FlyingW B outer ea cls a0 h3) (up:s2.heap.UpToSlots h3):zGo X.prog X.w outer X.H₀ X.s₀ ea cls a0 H2 B { s2 with heap:=h3 }:=by
 have st:=fly.1;have notin:∀ b o,X.s₀.heap.get? b=some o->b ∉ frs outer->b ∉ frs (env::outer):=λb o q hb z=>by
  rcases List.mem_cons.mp (show b∈X.env.locals::frs outer by
   have:frs (env::outer)=X.env.locals::frs outer:=by unfold frs; rw[List.filterMap_cons,hl]
   rw[<- this]; exact z) with e | e
  ·have l:=Nat.lt_of_lt_of_le (Heap.lt_size q) J.ok.above;rw[e] at l;exact Nat.lt_irrefl _ l
  ·exact hb e
 have trk:∀ b u,H2 b=some u->b ∉ frs (env::outer):=λb u e z=>by
  have:=J.stkFree b (by rw[hs]; exact z);rw[e] at this;cases this
 have fs:X.fs=frs outer:=by show frs X.outer=_; rw[ho]
 have hf:∀ b∈frs outer,∀ o,s2.heap.get? b=some o->∃ sl,h3.get? b=some { o with slots:=sl }:=λb hb o e=>by
  obtain⟨_,o',e',nf⟩:=J.stack.mem (show b∈X.stack.filterMap (·.frame) by
   rw[hs];show b∈frs (env::outer);have:frs (env::outer)=X.env.locals::frs outer:=by unfold frs; rw[List.filterMap_cons,hl]
   rw[this];exact .tail _ hb)
  rw[e] at e';cases e';exact up b o e nf
 have un:Un (frs outer) [] X.H₀ H2 X.s₀.heap s2.heap:=by
  have:=J.base;rw[fs,hx] at this;exact this
 refine⟨J.os,J.bare,zSg un st (λb o o' q e hb=>hB b o e (.inl (by rw[q]; rfl)) (notin b o' q hb)) hf,zOk J.hok st λb o u e q=>hB b o q (.inr (by rw[e]; rfl)) (trk b u e),nw,fr,fly,λb o e z hb=>?_⟩;have key:∃ o',s2.heap.get? b=some o':=by
  rcases z with z | z
  ·obtain⟨o',q⟩:=Option.isSome_iff_exists.mp z;exact un.there b o' q (λz=>nomatch z)
  ·obtain⟨u,q⟩:=Option.isSome_iff_exists.mp z;exact(J.hok b u q).some
 obtain⟨o',e'⟩:=key;have hb':b ∉ frs (env::outer):=by
  rcases z with z | z
  ·obtain⟨o',q⟩:=Option.isSome_iff_exists.mp z;exact notin b o' q hb
  ·obtain⟨u,q⟩:=Option.isSome_iff_exists.mp z;exact trk b u q
 have hb2:=hB b o' e' z hb';have:=st _ _ hb2;rw[show({ s2 with heap:=h3 } : Shared).heap=h3 from rfl] at e;rw[this] at e;cases e;exact hb2
theorem zGo.inv{X:Cx}{pins:List (Addr×Obj)}{σ:St}{H H':Hp}{s s':Shared}{ea:Addr}{cls a0:Value}{B:Heap}(I:Inv X pins σ H s)(f:zGo X.prog X.w X.stack H s ea cls a0 H' B s'):Inv X pins σ H' s' :=
 I.call' (ch:=[]) f.os f.un f.hok f.bare λb z=>absurd z (by simp)
theorem zGo.on{P:Program}{w:World}{outer:List Env}{base:Heap}{H H':Hp}{s s':Shared}{ea:Addr}{cls a0:Value}{B h3:Heap}(hs:s'.heap.FunFrames base outer)(f:zGo P w outer H s ea cls a0 H' B s')(hfree:∀ b∈frs outer,H' b=none)
  (fly:Heap.FlyingW B outer ea cls a0 h3) (up:s'.heap.UpToSlots h3):zGo P w outer H s ea cls a0 H' B { s' with heap:=h3 }:=by
 have st:=fly.1;have trk:∀ b u,H' b=some u->b ∉ frs outer:=λb u e z=>by
  have:=hfree b z;rw[e] at this;cases this
 refine⟨f.os,f.bare,zSg f.un st (λb o o' q e hb=>f.has b o e (.inl (by rw[q]; rfl)) hb) (λb hb o e=>by
  obtain⟨_,o',e',nf⟩:=hs.mem hb;rw[e] at e';cases e';exact up b o e nf),zOk f.hok st λb o u e q=>f.has b o q (.inr (by rw[e]; rfl)) (trk b u e),f.new,f.fresh,fly,λb o e z hb=>?_⟩
 have key:∃ o',s'.heap.get? b=some o':=by
  rcases z with z | z
  ·obtain⟨o',q⟩:=Option.isSome_iff_exists.mp z;exact f.un.there b o' q (λz=>nomatch z)
  ·obtain⟨u,q⟩:=Option.isSome_iff_exists.mp z;exact(f.hok b u q).some
 obtain⟨o',e'⟩:=key;have hb2:=f.has b o' e' z hb;have:=st _ _ hb2;rw[show({ s' with heap:=h3 } : Shared).heap=h3 from rfl] at e;rw[this] at e;cases e;exact hb2
def zKs(X:Cx)(EE:St->XK):Prop:=∀(pins:List (Addr×Obj))(σ:St)(H:Hp)(s:Shared)(e:Value)(s':Shared),Inv X pins σ H s->CX1 X.prog X.w X.stack H s (EE σ) e s'->X.xe e s'
def zR0(X:Cx)(EE:St->XK):Prop:=∀(pins:List (Addr×Obj))(σ:St)(H:Hp)(s:Shared)(h':Heap)(e:Addr)(cls:Value)(vs:List Value),Inv X pins σ H s->Heap.MadeExcOf s.heap h' e cls vs->EE σ cls none H->X.xe (.ref e) { s with heap:=h' }
theorem zAh{X:Cx} : zKs X (λ_=>E0):=λ_ _ _ _ _ _ _ h=>h.none.elim
section
variable{P:Program}{w:World}{K:PySem.W.Frag}{mg:Str->Option Value}{base:Heap}{N:List Str}{qual:Str}{scope:Scope}{f:Addr}{cd:Value}{A:Around}{outer:List Env}{s:Shared}{H:Hp}{E:XK}
theorem zBp:zKs (cxOf (CX1 P w) P w K mg base N qual scope f cd A outer s H E) (λ_=>E):=by
 intro pins σ H1 s1 e s2 I h;obtain⟨ea,cls,a0,H2,B,rfl,fl,q⟩:=h;have J:=fl.inv I;refine wpAny_leaves_onW (base:=B) (cls:=cls) (a0:=a0) (L:=s.heap.objs.size) I.ok.frames rfl fl.fly λh3 fly up=>?_;refine⟨ea,cls,a0,H2,B,rfl,zFu (X:=cxOf (CX1 P w) P w K mg base N qual scope f cd A outer s H E) rfl rfl rfl rfl J (λb o e z hb=>fl.has b o e (z.imp (λz=>?_) id) hb) fl.new ?_ fly up,q⟩
 ·obtain⟨o',q'⟩:=Option.isSome_iff_exists.mp z;obtain⟨o'',q''⟩:=I.base.there b o' q' (λz=>nomatch z);rw[q''];rfl
 ·show s.heap.get? ea=none;cases q':s.heap.get? ea with
  | none=>rfl
  | some o' =>
   obtain⟨o'',q''⟩:=I.base.there ea o' q' (λz=>nomatch z);rw[fl.fresh] at q'';cases q''
theorem zNi:zR0 (cxOf (CX1 P w) P w K mg base N qual scope f cd A outer s H E) (λ_=>E):=by
 intro pins σ H1 s1 h' e cls vs I hx q;have hin:∀ env∈(cxOf (CX1 P w) P w K mg base N qual scope f cd A outer s H E).stack,∀ b,env.frame=some b->b∈frs (cxOf (CX1 P w) P w K mg base N qual scope f cd A outer s H E).stack:=λenv he b hb=>List.mem_filterMap.mpr ⟨env,he,hb⟩;have notin:∀ b o,s1.heap.get? b=some o->b ∉ frs (cxOf (CX1 P w) P w K mg base N qual scope f cd A outer s H E).stack->(PySem.W.hideAll s1.heap (frs (cxOf (CX1 P w) P w K mg base N qual scope f cd A outer s H E).stack)).get? b=some o:=λb o e hb=>PySem.W.hideAll_get _ e hb;refine wpAny_leaves_madeW (h:=s1.heap) (base:=PySem.W.hideAll s1.heap (frs (cxOf (CX1 P w) P w K mg base N qual scope f cd A outer s H E).stack)) (cls:=cls) (args:=vs) (L:=s.heap.objs.size) I.ok.frames rfl (λb o q=>PySem.W.of_hideAll _ q) (PySem.W.funFrames_hide I.stack hin) hx λh3 t fly _ _ up=>?_;have nw:H1 e=none:=by
  cases z:H1 e with
  | none=>rfl
  | some u =>
   obtain⟨ob,eo⟩:=(I.hok e u z).some;rw[hx.new] at eo;cases eo
 refine⟨e,cls,.ref t,H1,_,rfl,zFu (X:=cxOf (CX1 P w) P w K mg base N qual scope f cd A outer s H E) (s2:=s1) rfl rfl rfl rfl I (λb o e _ hb=>notin b o e hb) nw ?_ fly ((Heap.UpToSlots.of_keeps hx.keeps).trans up),q⟩;show s.heap.get? e=none;cases q':s.heap.get? e with
 | none=>rfl
 | some o' =>
  obtain⟨o'',q''⟩:=I.base.there e o' q' (λz=>nomatch z);rw[hx.new] at q'';cases q''
theorem Fun.okX{x qual:Str}{st:Stmt}{f:Addr}{fd:FuncData}{N ps:List Str}{k:Nat}{sp:Sp}(F:Fun K x qual st f fd)(S:zM N ps (zI st))(len:∀ vs H Q E,sp vs H Q E->vs.length=ps.length)
  (hbody:∀(cdv:Value)(A:Around)(outer:List Env)(s:Shared)(H:Hp)(vs:List V)(Q:VK)(E:XK),sY k (A.deeper (envOfC qual (zI st) s.heap.objs.size f cdv))->sp vs H Q E ->
   ∃ t,PSs (cxOf (CX1 P w) P w K mg base N qual (zI st) f cdv A outer s H E) (yU st) t/\t { nx:=λ_ H'=>Q .non H',rt:=Q } (zE6 N vs) H):yP P w K mg base (CX1 P w) (k+1) f fd ps sp:=by
 obtain⟨oc,od,kV,doc,pm,an,cdv,ct,osl,rfl,lk,hcd⟩:=F.ex;exact zTh lk hcd S len λA outer s H vs Q E hr hsp=>hbody cdv A outer s H vs Q E hr hsp
end
def zIj(P:Program)(w:World)(K:PySem.W.Frag)(mg:Str->Option Value)(base:Heap)(x:Str)(n:Nat)(ps:List Str)(sp:Sp):Prop :=
 ∃(f:Addr)(fd:FuncData),yP P w K mg base (CX1 P w) n f fd ps sp/\zAk K fd ps []/\PySem.W.keepIn K (.ref f)=true/\mg x=some (.ref f)
def HasMX(P:Program)(w:World)(K:PySem.W.Frag)(mg:Str->Option Value)(base:Heap)(g:Addr)(n:Nat)(ps:List Str)(sp:Sp):Prop :=
 ∃ fd:FuncData,yP P w K mg base (CX1 P w) n g fd ps sp/\∀ us:List Value,us.length=ps.length->bindArgs fd ⟨us,[]⟩=pure (ps.zip us)
section
variable{X:Cx}{n:Nat}{f:Addr}{fd:FuncData}{ps:List Str}{sp:Sp}{x m:Str}{p pos apos:Pos}{e o:Expr}{es:List Expr}{ta:TE}{t:TA}{EE:St->XK}{C g:Addr}
theorem zQn{pins:List (Addr×Obj)}{σ:St}{H:Hp}{s:Shared}{Q:VK}{us:List Value}{vs:List V}(F:yP X.prog X.w X.K X.mg X.base (CX1 X.prog X.w) n f fd ps sp)(hr:sY n X.A)(hb:zAk X.K fd ps [])(hx:zKs X EE)
  (I:Inv X pins σ H s) (r:yL vs us) (h:sp vs H Q (EE σ)):wpAny (model X.prog X.w) X.A (call (.ref f) us) (EP X pins σ Q) X.xe s:=by
 have hl:us.length=ps.length:=by rw[<- r.length]; exact F.len _ _ _ _ h
 have hb':=hb s us I.kIn (by rw[List.append_nil]; exact hl);rw[List.append_nil] at hb';refine wpAny_call (codeAny_mono (F.run X.A X.stack s H ⟨us,[]⟩ us vs Q (EE σ) hr I.env0 hb' r h) λr s' hq=>?_);cases r with
 | error e=>exact hx pins σ H s e s' I hq
 | ok fl =>
  cases fl with
  | ret u=>exact I.after hq
  | next=>exact False.elim hq
  | brk=>exact False.elim hq
  | cont=>exact False.elim hq
def zRv(sp:Sp)(EE:St->XK)(t:TA):TE:=λσ H Q=>t σ H λvs H1=>sp vs H1 Q (EE σ)
theorem yX(EE:St->XK)(h:zIj X.prog X.w X.K X.mg X.base x n ps sp)(hx:zKs X EE)(hr:sY n X.A)(hg:Gl X x)
  (ha:PA X (e::es) t) (hdb:(x ==("__debug__" : Str))=false:=by decide) (he:starEach (e::es) X.env=(false,eval e X.env)::starEach es X.env:=by rfl) (hpl:(backTo pos (starEach es X.env)).any (·.1)=false:=by rfl) :
  PE X (.Call (.Name x p) (e::es) [] pos) (zRv sp EE t):=by
 obtain⟨f,fd,F,hb,hk,hm⟩:=h;intro pins s σ H Q I h;refine wpAny_Call_Name_kw (vV I hg hm ?_ hdb);refine PySem.W.callWith_K (h₀:=X.base) I.ok.mod.kin hk (thn (ha pos pins s σ H _ I h) λus s1 ⟨vs,H1,I1,r,q⟩=>⟨I1.kIn,?_⟩) he hpl;exact zQn F hr hb hx I1 r q
theorem PS.nox{st:Stmt}{t:TS}(h:PS X.nox st t):PS X st t:=λpins s σ H D I hw =>
 wpAny_mono (h pins s σ H D (I.wish _) hw) (λ_ _ q=>q.unwish) λ_ _ z=>False.elim z
def zRc(cls:Value)(EE:St->XK)(t:TA):TS:=λ_ σ H=>t σ H λvs H1=>vs.length<=sizeLine/\EE σ cls none H1
theorem zN5(EE:St->XK){bm bmN:List Value}{B Bn newId nid initId inN:String}(O:OwnCls x C bm newId X.mg X.base)(Fn:ExcBaseFacts Bn newId inN bmN)(hBn:bm.contains (.type Bn)=true)(FB:ExcBaseFacts B nid initId bm)(hx:zR0 X EE)
  {cpos np:Pos} (ha:PA X (e::es) t) (hc:X.calm=true:=by rfl) (hg:Gl X x:=by rfl) (hd:(x ==("__debug__" : Str))=false:=by decide) (he:starEach (e::es) X.env=(false,eval e X.env)::starEach es X.env:=by rfl) (hpl:(backTo cpos (starEach es X.env)).any (·.1)=false:=by rfl) :
  PS X (.Raise (some (.Call (.Name x np) (e::es) [] cpos)) none pos) (zRc (.ref C) EE t):=by
 obtain⟨tl,N,nm,q,bs,hdct,sn,sub,ab,col,dd,k0,k1,k2,k3,k5,mN,hC,hN,hni,T⟩:=O.obj;intro pins s σ H D I h;refine wpAny_Raise_call_subU (C:=C) (nm:=nm) (q:=q) (N:=N) (bs:=bs) (bm:=tl) (hdct:=hdct) (sn:=sn) (sub:=sub) (ab:=ab) (col:=col) (dd:=dd) (k0:=k0) (k1:=k1) (k2:=k2) (k3:=k3) (k5:=k5)
  Fn hBn FB (mN:=mN) (T.hasType FB.hasBase) (I.ok.hd hc) (by rw[he]; show(false||(backTo cpos (starEach es X.env)).any (·.1))=false; rw[hpl]; rfl) hni (vV I hg O.bound ⟨rfl,?_⟩ hd)
 have h:=ha cpos pins s σ H _ I h;rw[he] at h ⊢;refine Calls.evalArgs_plain (wpAny_mono h (λus s2 ⟨vs,H1,I1,r,len,q⟩=>⟨rfl,?_,I1.bk _ _ hC,hN.keeps I1.bk,T.keeps I1.bk,λh' e hm=>?_⟩) λ_ _ y=>y)
 ·rw[<- r.length]; exact len
 ·exact hx pins σ H1 s2 h' e _ _ I1 hm q
end
end L2

namespace L2
open PySem PySem.Spec PyProof.Rows
abbrev Cx.tr(X:Cx)(pins:List (Addr×Obj))(EE:St->XK):Cx :=
 { X with pn:=X.pn++pins,xe:=λe s'=>∃(σ:St)(H:Hp)(s:Shared),Inv X pins σ H s/\CX1 X.prog X.w X.stack H s (EE σ) e s' }
abbrev Cx.hd(X:Cx)(e:Value):Cx:={ X with A:=X.A.mark (some e),calm:=false,xe:=λ_ _=>False }
section
variable{X:Cx}{pins pins':List (Addr×Obj)}{σ:St}{H:Hp}{s:Shared}{EE:St->XK}{e:Value}
theorem Inv.tr(I:Inv X pins σ H s)(EE:St->XK):Inv (X.tr pins EE) [] σ H s :=
 ⟨⟨I.ok.mod,I.ok.kind,I.ok.glob,I.ok.blt,I.ok.above,I.ok.inj,I.ok.has,I.ok.cab,I.ok.hd,I.ok.frames,I.ok.stk,I.ok.exf,I.ok.bs,I.ok.bsz,I.ok.noex,I.ok.exfs,I.ok.funs,I.ok.frf⟩,I.os,I.bare,I.base,I.loc,I.cell,I.free,I.freeC,λp hp=>I.pin p (by rw[List.append_nil] at hp; exact hp),I.hok,I.len⟩
theorem Inv.untr(I:Inv (X.tr pins EE) pins' σ H s):Inv X pins σ H s :=
 ⟨⟨I.ok.mod,I.ok.kind,I.ok.glob,I.ok.blt,I.ok.above,I.ok.inj,I.ok.has,I.ok.cab,I.ok.hd,I.ok.frames,I.ok.stk,I.ok.exf,I.ok.bs,I.ok.bsz,I.ok.noex,I.ok.exfs,I.ok.funs,I.ok.frf⟩,I.os,I.bare,I.base,I.loc,I.cell,I.free,I.freeC,λp hp=>I.pin p (List.mem_append_left _ hp),I.hok,I.len⟩
theorem Inv.hd(I:Inv X pins σ H s)(e:Value):Inv (X.hd e) pins σ H s :=
 ⟨⟨I.ok.mod,I.ok.kind,I.ok.glob,I.ok.blt,I.ok.above,I.ok.inj,I.ok.has,I.ok.cab,λz=>(nomatch z),I.ok.frames,I.ok.stk,I.ok.exf,I.ok.bs,I.ok.bsz,I.ok.noex,I.ok.exfs,I.ok.funs,I.ok.frf⟩,I.os,I.bare,I.base,I.loc,I.cell,I.free,I.freeC,I.pin,I.hok,I.len⟩
theorem Inv.unhd(I:Inv (X.hd e) pins σ H s)(hh:X.calm=true->X.A.handled=none):Inv X pins σ H s :=
 ⟨⟨I.ok.mod,I.ok.kind,I.ok.glob,I.ok.blt,I.ok.above,I.ok.inj,I.ok.has,I.ok.cab,hh,I.ok.frames,I.ok.stk,I.ok.exf,I.ok.bs,I.ok.bsz,I.ok.noex,I.ok.exfs,I.ok.funs,I.ok.frf⟩,I.os,I.bare,I.base,I.loc,I.cell,I.free,I.freeC,I.pin,I.hok,I.len⟩
theorem SP.untr{D:zLy}{f:Flow}{s':Shared}(h:SP (X.tr pins EE) pins' D f s'):SP X pins D f s':=by
 cases f with
 | next=>obtain⟨σ',H',I,q⟩:=h; exact⟨σ',H',I.untr,q⟩
 | brk=>obtain⟨σ',H',I,q⟩:=h; exact⟨σ',H',I.untr,q⟩
 | cont=>obtain⟨σ',H',I,q⟩:=h; exact⟨σ',H',I.untr,q⟩
 | ret u=>obtain⟨v,σ',H',I,r,q⟩:=h; exact⟨v,σ',H',I.untr,r,q⟩
theorem zBq:zKs (X.tr pins EE) EE:=λ_ σ H s _ _ I h=>⟨σ,H,s,I.untr,h⟩
theorem Inv.moreX{a:Addr}{o:HO}(I:Inv X pins σ H s)(f0:H a=none)(f1:a≠X.env.locals)(f3:X.s₀.heap.get? a=none)(f4:∀ x c,X.env.cells.lookup x=some c->c≠a)(f5:∀ p∈X.pn++pins,p.1≠a)
  (new:yZ X.prog X.w (upd H a o) s.heap a o):Inv X pins σ (upd H a o) s:=by
 have nk:∀{b:Addr}{u:HO},H b=some u->upd H a o b=some u:=λ{b u} e=>by
  rw[zG (λz=>by rw[z,f0] at e; cases e)];exact e
 have nn:∀{b:Addr},b≠a->H b=none->upd H a o b=none:=λ{b} n e=>by rw[zG n]; exact e
 have lo:∀{b:Addr}{u:Obj},X.s₀.heap.get? b=some u->b≠a:=λ{b u} e z=>by rw[z,f3] at e; cases e
 refine⟨I.ok,I.os,I.bare,⟨I.base.keep,I.base.slot,λb u e n hx=>nn (lo e) (I.base.free b u e n hx),I.base.there,λb xs e=>nk (I.base.tups b xs e),λb u v e=>nk (I.base.frzs b u v e),
  λb ps e=>let ⟨more,q⟩:=I.base.tbls b ps e;⟨more,nk q⟩⟩,I.loc,I.cell,nn (Ne.symm f1) I.free,λx c e=>nn (f4 x c e) (I.freeC x c e),λp hp=>?_,λb u e=>?_,I.len⟩
 ·obtain⟨h1,h2,h3⟩:=I.pin p hp;exact⟨h1,nn (f5 p hp) h2,h3⟩
 ·by_cases eb:b=a
  ·subst eb;rw[zA] at e;cases e;exact new
  ·rw[zG eb] at e;exact(I.hok b u e).stay (λc v _ q=>q) (λc q=>nk q) λc xs q=>nk q
theorem Inv.frame{h':Heap}{t':Nat}{m':Str->Option Value}(I:Inv X pins σ H s)(hs:Heap.SameBut X.env.locals s.heap h')(hn:h'.Ns X.env.locals m'):Inv X pins (List.replicate X.N.length none) H { s with heap:=h',toks:=t' }:=by
 have k:∀ b o,b≠X.env.locals->s.heap.get? b=some o->h'.get? b=some o:=λb o n e=>(hs.2 b n).trans e;have lo:∀{b:Addr}{u:Obj},X.s₀.heap.get? b=some u->b≠X.env.locals:=λ{b u} e z=>by
  have l:=Nat.lt_of_lt_of_le (Heap.lt_size e) I.ok.above;rw[z] at l;exact Nat.lt_irrefl _ l
 obtain⟨oL,esL,epL,hoL,_⟩:=hn;have trk:∀{b:Addr}{u:HO},H b=some u->b≠X.env.locals:=λ{b u} e z=>by rw[z,I.free] at e; cases e
 refine⟨I.ok,I.os,I.bare,⟨λb o q n hb hx=>k _ _ (lo q) (I.base.keep b o q n hb hx),λb o q n hb hx=>?_,I.base.free,λb o q hx=>?_,I.base.tups,I.base.frzs,I.base.tbls⟩,⟨m',⟨oL,esL,epL,hoL,by assumption⟩,λi x v _ hσ=>?_⟩,λx c e=>?_,I.free,I.freeC,λp hp=>?_,λa o e=>?_,by rw[List.length_replicate]⟩
 ·obtain⟨sl,e⟩:=I.base.slot b o q n hb hx;exact⟨sl,k _ _ (lo q) e⟩
 ·obtain⟨o',e⟩:=I.base.there b o q hx;exact⟨o',k _ _ (lo q) e⟩
 ·rw[List.getElem?_replicate] at hσ;split at hσ <;> cases hσ
 ·obtain⟨v,o,ho,hd⟩:=I.cell x c e;exact⟨v,o,k _ _ (I.cne x c e) ho,hd⟩
 ·obtain⟨h1,h2,h3,h4⟩:=I.pin p hp;exact⟨k _ _ h3 h1,h2,h3,h4⟩
 ·refine(I.hok a o e).stay (λb u hb q=>k _ _ ?_ q) (λ_ q=>q) λ_ _ q=>q;rcases hb with rfl | hb
  ·exact trk e
  ·exact trk hb
end
def zHf(a:Addr)(cls:Value)(h:Heap):Prop:=∃ ob,h.get? a=some ob/\ob.cls=cls
def zSf(a:Addr)(cls:Value):HO:=.ext (zHf a cls)
theorem zP8{P:Program}{w:World}{H:Hp}{h:Heap}{a:Addr}{cls:Value}(e:zHf a cls h):yZ P w H h a (zSf a cls) :=
 ⟨e,let ⟨ob,h1,_⟩:=e;⟨ob,h1⟩,λh1 h2 ⟨ob,q,c⟩ k=>⟨ob,k _ q,c⟩⟩
def zS6(B:Heap)(cls:Value)(D:Addr):Prop:=InB B λK=>PySem.W.exmOne K cls (.ref D)=some true
def sTry(B:Heap)(D:Addr)(i:Nat)(tb:(St->XK)->TS)(th:TS):TS:=λE σ H =>
 tb (λσ' cls _ H'=>zS6 B cls D/\∀ ea,H' ea=none->th { nx:=λ_ _=>False,rt:=E.rt } (σ'.set i (some (.ref ea))) (upd H' ea (zSf ea cls))) E σ H
section
variable{X:Cx}{x n:Str}{i:Nat}{D:Addr}{body suite:List Stmt}{b₀:Stmt}{np hpos pos:Pos}{tb:(St->XK)->TS}{th:TS}
theorem zLw{M:Model}{K:PySem.W.Frag}{h:Heap}{a:Addr}{cls:Value}{b:Bool}{D:Addr}(X:K.In h)(e:zHf a cls h)(hx:PySem.W.exmOne K cls (.ref D)=some b):PySem.W.Looks M h (excMatches (.ref a) (.ref D)) b:=by
 obtain⟨ob,h1,h2⟩:=e;exact PySem.W.exm_one X (h2 ▸ (PySem.W.Looks.ld h1).andThen .now) hx
theorem zGi{pins:List (Addr×Obj)}{σ:St}{H H':Hp}{s s1:Shared}{ea:Addr}{cls a0:Value}{B h:Heap}(hx:X.ex=[])(I:Inv X pins σ H s)(fl:zGo X.prog X.w X.stack H s ea cls a0 H' B s1)
  (fly:Heap.FlyingW B X.stack ea cls a0 h) (up:s1.heap.UpToSlots h):Inv X pins σ H' { s1 with heap:=h }/\zHf ea cls h/\∀ o,yZ X.prog X.w (upd H' ea o) h ea o->Inv X pins σ (upd H' ea o) { s1 with heap:=h }:=by
 have J:=fl.inv I;have f5:=fl.on J.stack J.stkFree fly up;have J5:=f5.inv I;have ne:∀{b:Addr}{o:Obj},s.heap.get? b=some o->b≠ea:=λ{b o} q z=>by rw[z,fl.fresh] at q; cases q
 refine⟨J5,fly.there,λo new=>J5.moreX fl.new ?_ ?_ (λx c e=>?_) (λp hp=>ne (I.pin p hp).1) new⟩
 ·obtain⟨m,⟨oL,_,_,hoL,_⟩,_⟩:=I.loc;exact(ne hoL).symm
 ·cases q:X.s₀.heap.get? ea with
  | none=>rfl
  | some o =>
   obtain⟨o',q'⟩:=I.base.there ea o q (by rw[hx]; exact λz=>nomatch z);exact absurd rfl (ne q')
 ·obtain⟨v,o,ho,_⟩:=I.cell x c e;exact ne ho
theorem zSz(hb:∀ (pins:List (Addr×Obj)) (EE:St->XK),PSs (X.tr pins EE) body (tb EE))(hm:X.mg x=some (.ref D))(hN:X.N.Nodup)(hi:X.N[i]?=some n)(hl:X.env.scope.names.lookup n=some .local)(hh:∀ ea:Addr,PSs (X.hd (.ref ea)) (b₀::suite) th)
  (hst:X.stack=X.env::X.outer/\X.env.frame=some X.env.locals:=by exact⟨rfl,rfl⟩) (hex:X.ex=[]:=by rfl) (hg:Gl X x:=by rfl) (hd:(x ==("__debug__" : Str))=false:=by decide) :
  PS X (.Try body [.ExceptHandler (some (.Name x np)) (some n) (b₀::suite) hpos] [] [] pos) (sTry X.base D i tb th):=by
 intro pins s σ H E I h;refine wpAny_Try_except (wpAny_mono (hb pins _ [] s σ H E (I.tr _) h) (λf s1 q=>?_) λe s1 q=>?_)
 ·have q:=q.untr;cases f with
  | next=>exact wpAny_execs_nil q
  | ret v=>exact q
  | brk=>exact q
  | cont=>exact q
 ·obtain⟨σ',H0,s0,I0,ea,cls,a0,H',B,rfl,fl,tk,hc⟩:=q;have fly0:=fl.fly;rw[hst.1] at fly0;refine wpAny_looks_onW (L:=X.env.locals) (by rw[I.ok.frames,hst.1]) hst.2 fly0 λh4 held4 up4=>?_;refine wpAny_landsW held4 λh5 fly5 up5=>?_;have up:=up4.trans up5;rw[<- hst.1] at fly5;obtain⟨J5,ex5,_⟩:=zGi hex I0 fl fly5 up;obtain⟨K,KB,hK⟩:=tk;have K5:K.In h5:=KB.keeps J5.bk;refine wpAny_handleBy_cons (codeAny_handlers_test (vV (J5.hd (.ref ea)) hg hm ?_ hd)) (by intro q; cases q);refine(zLw K5 ex5 hK).here ?_;refine codeAny_handlers_suite_as ?_;refine lands_againW fly5 λh6 fly6 up6=>?_;obtain⟨J6,ex6,more⟩:=zGi hex I0 fl fly6 (up.trans up6);have J7:=(more (zSf ea cls) (zP8 ex6)).hd (.ref ea);refine zGf (X:=X.hd (.ref ea)) (v:=.ref ea) J7 hN hi (.inl hl) rfl (λs8 I8 _=>?_) (.inr hl);refine wpAny_mono (hh ea pins s8 _ _ { nx:=λ_ _=>False,rt:=E.rt } I8 (hc ea fl.new)) (λf s9 q=>?_) λ_ _ z=>False.elim z;cases f with
  | next=>obtain⟨_,_,_,z⟩:=q; exact False.elim z
  | brk=>obtain⟨_,_,_,z⟩:=q; exact False.elim z
  | cont=>obtain⟨_,_,_,z⟩:=q; exact False.elim z
  | ret u =>
   obtain⟨v,σ9,H9,I9,r,q⟩:=q;have I9:=I9.unhd I.ok.hd;obtain⟨m,hn,_⟩:=id I9.loc;refine wpAny_nameGoes (show X.env.kindOf n=some .local from hl) hn (by rw[I.ok.kind]; rfl) λh' m' hn' hs=>?_;exact⟨v,_,H9,I9.frame hs hn',r,q⟩
end
section
open PySem.W
theorem zPz{K:Frag}{a:Addr}{t c:Value}(e:kitOne K t c=some true):Answers (λs=>K.In s.heap/\zHf a t s.heap) (.ref a) c true:=by
 intro dep tk prog w A R s hs;obtain⟨h0,g,d,tt,os⟩:=s;obtain⟨⟨X,p⟩,hq⟩:=hs;obtain⟨ob,h1,h2⟩:=p;have LT:Looks (model prog w) h0 (typeOf (.ref a)) t:=h2 ▸ (Looks.ld h1).andThen .now;unfold kitOne at e;unfold Builtin.«isinstance.nested»;refine wpAny_bind (LT.at ?_);by_cases q:(t == c)=true
 ·rw[if_pos q] at e;rw[if_pos q]
  first
   | ((repeat lk); exact hq tt)
   | exact wpAny_bind (wpAny_rule (hq tt))
   | exact wpAny_bind (wpAny_rule (wpAny_pure (hq tt)))
 ·rw[if_neg q] at e;rw[if_neg q];obtain⟨hty,his,hsub⟩:=kit_cls (M:=model prog w) X e;have LI:Looks (model prog w) h0 (isInstance (.ref a) c) true:=LT.andThen hsub;refine wpAny_bind (hty.at ?_);rw[if_pos (by decide)]
  k_delta "plainIsInstance"
  refine wpAny_bind (wpAny_bind (his.at ?_));simp only[Bool.not_true,Bool.false_eq_true,if_false];refine wpAny_bind (LI.at ?_)
  first
   | exact wpAny_pure (wpAny_pure (hq tt))
   | (simp only[if_true]; first | exact wpAny_pure (wpAny_pure (hq tt)) | exact wpAny_pure (hq tt) | exact wpAny_bind (wpAny_pure (wpAny_pure (hq tt))))
theorem zI7{K:Frag}{a:Addr}{t c:Value}{prog:Program}{w:World}{A:Around}{E:Value->Shared->Prop}{s:Shared}{Q:Value->Shared->Prop}(X:K.In s.heap)(p:zHf a t s.heap)(e:kitOne K t c=some true)(h:∀ tk,Q (.bool true) { s with toks:=tk }) :
  wpAny (model prog w) A (call (.builtin "isinstance") [.ref a,c]) Q E s :=
 call_isinstance (S:=λ_ R s=>(K.In s.heap/\zHf a t s.heap)/\∀ tk,R (.ok (.ret (.bool true))) { s with toks:=tk })
  (λprog w A R s hs=>isinstance_outer (zPz e 0 _ prog w A R s hs) (λz=>nomatch z)) ⟨⟨X,p⟩,h⟩
end
section
variable{X:Cx}
theorem zD8{B:Heap}(hB:X.base=B):wR X (.builtin "isinstance") (λxs H Q=>∃(a:Addr)(v:V)(t c:Value),xs=[.ref a,v]/\((∃ T,v=.ty T/\c=.type T)\/∃ C,v=.ref C/\c=.ref C)/\H a=some (zSf a t)/\(InB B λK=>PySem.W.kitOne K t c=some true)/\Q (.bl true) H):=by
 subst hB;intro pins s σ H xs us Q I r h;obtain⟨a,v,t,c,rfl,hv,ha,⟨K,KB,e⟩,q⟩:=h;obtain⟨u,w,rfl,ru,rw_⟩:=zP5 r;cases ru;obtain⟨p,_⟩:=(show yZ X.prog X.w H s.heap a (zSf a t) from I.hok a _ ha);have hc:w=c:=by
  rcases hv with ⟨T,rfl,rfl⟩ | ⟨C,rfl,rfl⟩
  ·exact rw_
  ·exact rw_
 subst hc;exact zI7 (KB.keeps I.bk) p e λtk=>⟨.bl true,H,I.tok tk,rfl,q⟩
theorem zS3{x:Str}{pos:Pos}{a:Addr}(hm:X.mg x=some (.ref a))(hg:Gl X x:=by rfl)(hd:(x ==("__debug__" : Str))=false:=by decide):PE X (.Name x pos) (tC (.ref a)):=λ_ _ _ H _ I h=>vV I hg hm ⟨.ref a,H,I,rfl,h⟩ hd
theorem zEs:bootBuiltins "ValueError" = some (.type "ValueError"):=by decide +kernel
end
end L2

namespace L2
open PySem PySem.Spec PyProof.Rows
abbrev TJ:=St->Hp->(Hp->Prop)->Prop
section
variable{X:Cx}{e:Expr}{es:List Expr}{t:TJ}{te:TE}{pos p:Pos}{n:Nat}
def PJ(X:Cx)(es:List Expr)(n:Nat)(t:TJ):Prop:=∀(pins:List (Addr×Obj))(s:Shared)(σ:St)(H:Hp)(k:Nat)(acc:Str)(Q:Str->Shared->Prop)(C:Hp->Prop),Inv X pins σ H s->acc.length<=2000*k->k+n<=100 ->
 t σ H C->(∀(H':Hp)(out:Str)(s':Shared),C H'->out.length<=200000->Inv X pins σ H' s'->Q out s')->Joins (model X.prog X.w) X.A X.xe (evalEach es X.env) acc Q s
def zS4:TJ:=λ_ H K=>K H
def zR3(te:TE)(t:TJ):TJ:=λσ H K=>te σ H λv H1=>((∃ i,v=.int i/\i.natAbs.log2<1920)\/∃ x,v=.str x/\x.length<=1000)/\t σ H1 K
theorem zR6:PJ X [] 0 zS4:=λ_ s _ H _ acc _ _ I h hk q z=>z H acc s q (by lia) I
theorem zSc{c:Str}{j:Nat}(ht:PJ X es n t)(hc:c.length<=1000:=by decide)(he:evalEach (.Constant (.str c) j p::es) X.env=eval (.Constant (.str c) j p) X.env::evalEach es X.env:=by rfl):PJ X (.Constant (.str c) j p::es) (n+1) t:=by
 intro pins s σ H k acc Q C I h hk q z;rw[he];refine Calls.Constant_str ⟨c,_,rfl,?_,?_⟩
 ·rw[strLen_append];show acc.length+c.length<=2^24;lia
 ·exact ht pins _ σ H (k+1) _ _ C (I.tok _) (by rw[strLen_append]; lia) (by lia) q z
theorem zS2(hv:PE X e te)(ht:PJ X es n t)(he:evalEach (.FormattedValue e (-1) none p::es) X.env=eval (.FormattedValue e (-1) none p) X.env::evalEach es X.env:=by rfl):PJ X (.FormattedValue e (-1) none p::es) (n+1) (zR3 te t):=by
 intro pins s σ H k acc Q C I h hk q z;rw[he];refine wpAny_FormattedValue_plain (thn (hv pins s σ H _ I q) λu s1 ⟨v,H1,I1,r,c,q1⟩=>?_);rcases c with ⟨i,rfl,hi⟩ | ⟨x,rfl,hx⟩
 ·obtain⟨tk,rfl⟩:=(show ∃ t,u=Value.int i t from r);have l:=int_text_length_le (k:=1920) (by decide) hi;rw[<- PySem.ofString_length] at l;refine wpAny_formatField_int hi ⟨_,_,rfl,?_,?_⟩
  ·rw[strLen_append];show acc.length+_<=2^24;lia
  ·exact ht pins _ σ H1 (k+1) _ _ C (I1.tok _) (by rw[strLen_append]; lia) (by lia) q1 z
 ·obtain⟨tk,rfl⟩:=(show ∃ t,u=Value.str x t from r);have key:∀(t':Tok)(tk':Nat),∃ y t,Value.str x t'=.str y t/\(acc++y).length<=sizeLine/\Joins (model X.prog X.w) X.A X.xe (evalEach es X.env) (acc++y) Q { s1 with toks:=tk' }:=λt' tk' =>
   ⟨x,t',rfl,by rw[strLen_append]; show acc.length+x.length<=2^24; lia,ht pins _ σ H1 (k+1) _ _ C (I1.tok _) (by rw[strLen_append]; lia) (by lia) q1 z⟩
  exact formatField_str (λt' tk'=>key t' tk') (by show x.length<=2^24; lia)
def zTc(t:TJ):TE:=λσ H Q=>t σ H λH'=>∀ x:Str,x.length<=200000->Q (.str x) H'
theorem zO9{a b:Expr}(ht:PJ X (a::b::es) n t)(hn:n<=100:=by decide):PE X (.JoinedStr (a::b::es) pos) (zTc t):=by
 intro pins s σ H Q I h;exact wpAny_JoinedStr (ht pins s σ H 0 Str.empty _ _ I (by decide) (by lia) h λH' out s' c l I'=>⟨by show out.length<=2^24; lia,.str out,H',I'.tok _,⟨_,rfl⟩,c out l⟩)
end
def bmV:List Value:=[.type "ValueError", .type "Exception", .type "BaseException", .type "object"]
end L2

namespace L2
open PySem PySem.Spec PyProof.Rows
theorem zN4(w:World)(x:Str):keyH w (.inr x)=PyData.keyHash w.params x:=rfl
theorem zKe{P:Program}{w:World}{B:Heap}{a:Addr}{l:List (Str×Nat×V×Value)}{ep:Nat}(h:B.get? a=some ⟨.type "dict", none,.dict ((l.map λe=>(⟨PyData.keyHash w.params e.1,.str e.1 e.2.1,e.2.2.2⟩:DictEntry)).toArray) ep,#[]⟩)
  (r:∀ e∈l,yQ e.2.2.1 e.2.2.2) (nd:(l.map (·.1)).Nodup):zQ3 P w B a (l.map λe=>(.inr e.1,e.2.2.1)):=by
 refine⟨l.map λe=>(.inr e.1,e.2.2.2),?_,_,_,ep,h,⟨rfl,rfl,rfl⟩,rfl,λe he=>?_,?_,?_⟩
 ·clear h nd
  induction l with
  | nil=>exact .nil
  | cons e l ih=>exact .cons ⟨rfl,r e (.head _)⟩ (ih λe he=>r e (.tail _ he))
 ·have he:e∈l.map λe=>(⟨PyData.keyHash w.params e.1,.str e.1 e.2.1,e.2.2.2⟩:DictEntry):=by simpa using he
  obtain⟨q,_,rfl⟩:=List.mem_map.mp he;exact⟨.inr q.1,rT P w q.1 q.2.1,(zN4 w q.1).symm⟩
 ·rw[List.toList_toArray];clear h nd r
  induction l with
  | nil=>exact .nil
  | cons e l ih=>exact .cons (rT P w e.1 e.2.1) rfl ih
 ·rw[List.map_map];have:((λe:Key×Value=>e.1) ∘ λe:Str×Nat×V×Value=>((.inr e.1:Key),e.2.2.2))=(λx:Str=>(.inr x:Key)) ∘ λe=>e.1:=rfl;rw[this,<- List.map_map];refine List.nodup_iff_pairwise_ne.mpr (List.pairwise_map.mpr ((List.nodup_iff_pairwise_ne.mp nd).imp λn z=>n ?_));injection z
def zOg(es:Array DictEntry):Bool:=es.toList.all λe=>match e.key with | .str _ _=>true | _=>false
theorem zL9{es:Array DictEntry}(h:zOg es=true):StrKeys es:=λe he=>by
 have:=List.all_eq_true.mp h e (by simpa using he);cases q:e.key <;> rw[q] at this <;> first | exact⟨_,_,rfl⟩ | cases this
def zIv(K:PySem.W.Frag)(N:Addr):Bool:=match K.lookup N with
 | some ⟨_,_,.dict es _,_⟩=>zOg es&&(nsFind es "__init__").isNone
 | _=>false
theorem zGd{K:PySem.W.Frag}{B:Heap}{N:Addr}(X:K.In B)(h:zIv K N=true):∃ m,B.Ns N m/\m "__init__" = none:=by
 unfold zIv at h;split at h
 ·rename_i c d es ep sl q
  rw[Bool.and_eq_true] at h;exact⟨nsFind es,⟨_,es,ep,X _ _ q,rfl,zL9 h.1,λ_=>rfl⟩,by simpa using h.2⟩
 ·cases h
def zIm(K:PySem.W.Frag):List Value->Bool
 | []=>false
 | .ref A::tl=>(match K.lookup A with | some ⟨_,_,.cls cd,_⟩=>zIv K cd.ns&&zIm K tl | _=>false)
 | v::tl=>(v::tl) == bmV
theorem zFt{K:PySem.W.Frag}{B:Heap}(X:K.In B):∀{tl:List Value},zIm K tl=true->OwnTail B bmV tl
 | [],h=>by cases h
 | .ref A::tl,h=>by
  unfold zIm at h;split at h
  ·rename_i c d cd sl q
   rw[Bool.and_eq_true] at h;obtain⟨m,h1,h2⟩:=zGd X h.1;exact .own (X _ _ q) h1 h2 (zFt X h.2)
  ·cases h
 | .type T::tl,h=>by
  have e:(Value.type T::tl)=bmV:=beq_iff_eq.mp h;rw[e];exact .base
 | .none::tl,h=>by have e:(Value.none::tl)=bmV:=beq_iff_eq.mp h; rw[e]; exact .base
 | .bool b::tl,h=>by have e:(Value.bool b::tl)=bmV:=beq_iff_eq.mp h; rw[e]; exact .base
 | .int i t::tl,h=>by have e:(Value.int i t::tl)=bmV:=beq_iff_eq.mp h; rw[e]; exact .base
 | .float i t::tl,h=>by have e:(Value.float i t::tl)=bmV:=beq_iff_eq.mp h; rw[e]; exact .base
 | .str i t::tl,h=>by have e:(Value.str i t::tl)=bmV:=beq_iff_eq.mp h; rw[e]; exact .base
 | .bytes i t::tl,h=>by have e:(Value.bytes i t::tl)=bmV:=beq_iff_eq.mp h; rw[e]; exact .base
 | .builtin i::tl,h=>by have e:(Value.builtin i::tl)=bmV:=beq_iff_eq.mp h; rw[e]; exact .base
def zS5(K:PySem.W.Frag)(C:Addr):Bool:=match K.lookup C with
 | some ⟨.type "type", _,.cls cd,sl⟩=>(match cd.mro,sl.toList with
  | .ref C'::bm,[_,_,_,_,some (.builtin n),_]=>C' == C&&(!cd.hasDel&&(n == "ValueError.__new__" && (zIv K cd.ns&&zIm K bm)))
  | _,_=>false)
 | _=>false
theorem zN1{K:PySem.W.Frag}{B:Heap}{C:Addr}{x:Str}{mg:Str->Option Value}(X:K.In B)(hm:mg x=some (.ref C))(q:zS5 K C=true):OwnCls x C bmV "ValueError.__new__" mg B:=by
 unfold zS5 at q;split at q
 ·rename_i dd cd sl ho
  split at q
  ·rename_i C' bm k0 k1 k2 k3 n k5 hm' hs
   simp only[Bool.and_eq_true,beq_iff_eq,Bool.not_eq_true'] at q;obtain⟨rfl,hdel,rfl,hi,ht⟩:=q;obtain⟨nm,bs,mro,ns,qn,hd,sn,sub,ab,col,del⟩:=cd;dsimp only at hm' hdel hi;subst hm' hdel;have hsl:sl = #[k0,k1,k2,k3,some (.builtin "ValueError.__new__"),k5]:=by
    obtain⟨l⟩:=sl;simp only at hs;rw[hs]
   subst hsl;obtain⟨m,h1,h2⟩:=zGd X hi;exact⟨hm,bm,ns,nm,qn,bs,hd,sn,sub,ab,col,dd,k0,k1,k2,k3,k5,m,X _ _ ho,h1,h2,zFt X ht⟩
  ·cases q
 ·cases q
theorem zIr{F K:PySem.W.Frag}{a:Addr} : List.lookup a (F++K)=match List.lookup a F with | some o=>some o | none=>List.lookup a K:=by
 induction F with
 | nil=>rfl
 | cons e F ih =>
  rw[List.cons_append,List.lookup_cons,List.lookup_cons];cases a == e.1 with
  | true=>rfl
  | false=>exact ih
theorem zFa:∀{F:PySem.W.Frag}{a:Addr}{o:Obj},List.lookup a F=some o->(a,o)∈F
 | [],_,_,h=>by cases h
 | (b,u)::F,a,o,h=>by
  rw[List.lookup_cons] at h;cases z:a == b with
  | true =>
   rw[z] at h;cases h;rw[beq_iff_eq.mp z];exact .head _
  | false =>
   rw[z] at h;exact .tail _ (zFa h)
theorem zN9{F K:PySem.W.Frag}{h:Heap}(n:(F.map (·.1)).all (λa=>(List.lookup a K).isNone)=true)(X:PySem.W.Frag.In (F++K) h):PySem.W.Frag.In K h:=λa o q=>X a o (by
 rw[zIr];cases z:List.lookup a F with
 | none=>exact q
 | some u =>
  have m:a∈F.map (·.1):=List.mem_map.mpr ⟨(a,u),zFa z,rfl⟩;have:=List.all_eq_true.mp n a m;rw[q] at this;cases this)
theorem zLn{F K:PySem.W.Frag}{a:Addr}{o:Obj}(n:(F.map (·.2.cls)).all (λc=>!(c == .type "list"))=true)(h:List.lookup a (F++K)=some o)(c:o.cls=.type "list"):List.lookup a K=some o:=by
 rw[zIr] at h;cases z:List.lookup a F with
 | none=>rw[z] at h; exact h
 | some u =>
  rw[z] at h;have h:some u=some o:=h;injection h with h
  subst h;have:=List.all_eq_true.mp n u.cls (List.mem_map.mpr ⟨(a,u),zFa z,rfl⟩);rw[c] at this;simp at this
theorem walk_of3{l:PySem.W.OpenLaw}{n k:Nat}{q:Program}{loose:List Str}{XP:(Str->Option Value)->Heap->Prop}{YP:World->Heap->Prop}{d:DefRec}{KK:Params->PySem.W.Frag}{K:PySem.W.Frag}{sp:Sp}{x:Str}
  (hn:l.most=some n) (hn2:n<=sizeLine) (hdf:d.params.defaults=[]) (hr:sY k callerA)
  (hY:∀(w:World)(h:Heap),YP w h->(KK w.params).In h) (sub:∀(p:Params)(h:Heap),(KK p).In h->K.In h) (past:∀(p:Params)(a:Addr)(o:Obj),List.lookup a (KK p)=some o->o.cls=.type "list" -> List.lookup a K=some o)
  (F:∀(w:World)(mg:Str->Option Value)(fa:Addr)(h:Heap),(KK w.params).In h->h.Ns mainGlobals mg->mg d.name=some (.ref fa) ->
   ∃ fd:FuncData,(∀(s:Shared)(u:Value),BindsTo s fd ⟨[u],[]⟩ [(x,u)]) /\
    ∀ base:Heap,(KK w.params).In base->base.Ns mainGlobals mg->yP l.prog w K mg base CX0 k fa fd [x] sp)
  (hsp:∀(H:Hp)(a:Addr)(ns:List Int),ns.length<=n->SqL K H a (ns.map V.int)->sp [.ref a] H (λv _=>v=.bl true) λ_ _ _=>False) :
  PySem.W.WalkO q loose XP YP l.row.toRowW d [] (λf vs=>PySem.call f vs):=by
 refine Att.attach_call hn hdf λw s₀ s₁ mg mb fa o pm cd doc a vs ns G Y ho hd hcd hmg hobj hints hlen hg=>?_;have KX:=hY w _ Y;obtain⟨fd,hb,hF⟩:=F w mg fa _ KX G.T.g hmg;refine zNm (K:=KK w.params) KX G.T.g G.T.b G.T.builtins G.T.nolimit hg hobj hints (Nat.le_trans hlen hn2) hr (λbase hK hN=>(hF base hK hN).withK (sub _ _ hK)) hb (λH hO hS=>hsp H a ns hlen ?_) λH e s' z=>z;rcases hS with h | ⟨o,its,n,h1,h2,h3⟩
 ·exact .inl h
 ·exact .inr ⟨o,its,n,past _ _ _ h1 h2,h2,h3⟩
end L2

-- LAW
namespace Sea
open PySem L2
local macro_rules | `(tactic| ac_rfl) => `(tactic| exact ⟨rfl, rfl, rfl, by decide +kernel, rfl, by decide +kernel, by decide +kernel⟩)
structure Zs(mg:Str->Option Value):Prop where
 ValueError:mg "ValueError" = none
 abs:mg "abs" = none
 all:mg "all" = none
 bool:mg "bool" = none
 dict:mg "dict" = none
 int:mg "int" = none
 isinstance:mg "isinstance" = none
 len:mg "len" = none
 list:mg "list" = none
 max:mg "max" = none
 min:mg "min" = none
 range:mg "range" = none
 sorted:mg "sorted" = none
 str:mg "str" = none
 sum:mg "sum" = none
 tuple:mg "tuple" = none
 zip:mg "zip" = none
theorem yC:zM ["numbers", "shared", "number", "rest", "smaller"] ["numbers"] (zI xH):=by ac_rfl
theorem zB1:zM ["numbers", "shared"] ["numbers"] (zI rN):=by ac_rfl
theorem zLg:zM ["one", "other"] ["one", "other"] (zI zBs):=by ac_rfl
theorem zCf:zM ["side"] ["side"] (zI wV):=by ac_rfl
theorem zHs:zM ["side", "x", "y"] ["side", "x", "y"] (zI rK):=by ac_rfl
theorem wE:zM ["place", "one", "other", "first", "second"] ["place", "one", "other"] (zI xF):=by ac_rfl
theorem zCw:zM ["left", "right"] ["left", "right"] (zI wU):=by ac_rfl
theorem zBg:zM [] [] (zI wB):=by ac_rfl
theorem zAv:zM ["state", "kind", "key", "value", "fresh"] ["state", "kind", "key", "value"] (zI tJ):=by ac_rfl
theorem zHu:zM ["numbers", "most"] ["numbers", "most"] (zI rJ):=by ac_rfl
theorem zB5:zM ["name"] ["name"] (zI uC):=by ac_rfl
theorem zCg:zM ["state", "kind", "name"] ["state", "kind", "name"] (zI uB):=by ac_rfl
theorem zA6:zM ["place"] ["place"] (zI wI):=by ac_rfl
theorem zDk:zM ["run"] ["run"] (zI uR):=by ac_rfl
theorem zC9:zM ["state", "kind"] ["state", "kind"] (zI wY):=by ac_rfl
theorem zB7:zM ["state", "name"] ["state", "name"] (zI wX):=by ac_rfl
theorem zAd:zM ["moment", "runs"] ["moment", "runs"] (zI xS):=by ac_rfl
theorem zDl:zM ["direction"] ["direction"] (zI uN):=by ac_rfl
theorem zBi:zM ["state", "left", "right"] ["state", "left", "right"] (zI wG):=by ac_rfl
theorem vG:zM ["state", "row", "name", "place"] ["state", "row"] (zI wW):=by ac_rfl
theorem sX:zM ["state", "row", "run"] ["state", "row"] (zI uA):=by ac_rfl
theorem sV:zM ["state", "row", "fresh"] ["state", "row"] (zI wS):=by ac_rfl
theorem qT:zM ["state", "row"] ["state", "row"] (zI xD):=by ac_rfl
theorem zBa:zM ["state", "row"] ["state", "row"] (zI wF):=by ac_rfl
theorem zJe:zM ["state", "row"] ["state", "row"] (zI qR):=by ac_rfl
theorem xP:zM ["book", "one", "other", "runs", "between", "hand"] ["book", "one", "other"] (zI wD):=by ac_rfl
theorem uI:zM ["book", "places", "mark"] ["book"] (zI wH):=by ac_rfl
theorem zEo:zM ["note", "places"] ["note", "places"] (zI vO):=by ac_rfl
theorem yM:zM ["book", "moment", "places", "groups", "pair", "note", "way"] ["book", "moment"] (zI wK):=by ac_rfl
theorem vD:zM ["book", "moment", "sides", "group"] ["book", "moment"] (zI wT):=by ac_rfl
theorem zI0:zM ["_law_number"] ["_law_number"] (zI qX):=by ac_rfl
theorem xG:zM ["_law_script", "_law_many", "_law_rows", "_law_mix", "_law_cell", "_law_rest"] ["_law_script", "_law_many"] (zI qV):=by ac_rfl
theorem zNg:zM [] [] (zI zFd):=by ac_rfl
theorem zB2:zM ["_law_m", "_law_one", "_law_other", "_law_steps", "_law_sign"] ["_law_m", "_law_one", "_law_other"] (zI zBr):=by ac_rfl
theorem zBw:zM ["_law_one", "_law_two", "_law_wide", "_law_x", "_law_y"] ["_law_one", "_law_two", "_law_wide"] (zI zFf):=by ac_rfl
theorem zG9:zM ["_law_one", "_law_other"] ["_law_one", "_law_other"] (zI rL):=by ac_rfl
theorem yS:zM ["_law_d", "_law_wide", "_law_one", "_law_other"] ["_law_d", "_law_wide"] (zI uP):=by ac_rfl
theorem zX:zM ["_law_d", "_law_m", "_law_moment", "_law_mark", "_law_x", "_law_y", "_law_dx", "_law_dy", "_law_p", "_law_q", "_law_by", "_law_one", "_law_other"] ["_law_d", "_law_m", "_law_moment", "_law_mark", "_law_x", "_law_y"] (zI xO):=by ac_rfl
theorem zT:zM ["_law_some", "_law_names_here", "_law_x", "_law_y", "_law_m", "_law_deeds", "_law_k", "_law_known", "_law_d", "_law_moment", "_law_one", "_law_other", "_law_deed"] ["_law_some", "_law_names_here"] (zI wZ):=by ac_rfl
theorem yN:zM ["_law_some", "_law_many", "_law_letters", "_law_rows", "_law_at", "_law_raw", "_law_size", "_law_step", "_law_word", "_law_place", "_law_k", "_law_sign"] ["_law_some", "_law_many"] (zI qZ):=by ac_rfl
theorem zDt:zM ["_law_m", "_law_deed", "_law_later"] ["_law_m", "_law_deed"] (zI qD):=by ac_rfl
theorem tS:zM ["_law_some", "_law_book", "_law_m", "_law_deed"] ["_law_some", "_law_book"] (zI rE):=by ac_rfl
theorem zKt:zM ["_law_told", "_law_due"] ["_law_told", "_law_due"] (zI qN):=by ac_rfl
theorem zBj:zM ["_law_one", "_law_other"] ["_law_one", "_law_other"] (zI zEq):=by ac_rfl
theorem zDd:zM ["_law_side", "_law_by"] ["_law_side"] (zI rG):=by ac_rfl
theorem yG:zM ["_law_m", "_law_note", "_law_x", "_law_y", "_law_p", "_law_q", "_law_a", "_law_b", "_law_c", "_law_d"] ["_law_m", "_law_note"] (zI tU):=by ac_rfl
theorem xB:zM ["_law_m", "_law_moment", "_law_found", "_law_number", "_law_note", "_law_x", "_law_y"] ["_law_m", "_law_moment"] (zI vS):=by ac_rfl
theorem vL:zM ["_law_m", "_law_moment", "_law_found", "_law_group"] ["_law_m", "_law_moment"] (zI tI):=by ac_rfl
theorem zAw:zM ["_law_book", "_law_moment", "_law_other", "_law_door", "e"] ["_law_book", "_law_moment", "_law_other", "_law_door"] (zI tO):=by ac_rfl
theorem sB:zM ["_law_script", "_law_some", "_law_book", "_law_m", "_law_many", "_law_moment", "_law_other", "_law_again", "_law_rows", "_law_groups", "_law_group"] ["_law_script"] (zI zHo):=by ac_rfl
theorem zKc:zM ["self"] ["self"] (zI zBm):=by ac_rfl
theorem zC0:zM ["self", "row", "number", "fresh"] ["self", "row"] (zI zBn):=by ac_rfl
theorem zDp:zM ["self", "places"] ["self"] (zI qU):=by ac_rfl
theorem zFk:zM ["self", "runs"] ["self"] (zI zBu):=by ac_rfl
theorem zJo:zM ["self"] ["self"] (zI qS):=by ac_rfl
theorem zH0:zM ["self"] ["self"] (zI rC):=by ac_rfl
def zO:Addr:=242
def zA1:Addr:=97
def bkC:Addr:=651
def zRn:Addr:=281
def zSk:List (Key×V):=[(.inr "marks", .int 20),(.inr "banks", .int 8),(.inr "runs", .int 12),(.inr "notes", .int 24)]
def zOc:Addr:=446
def zOz:List (Key×V):=[(.inr "mark", .ref 375),(.inr "move", .ref 382),(.inr "unmark", .ref 389),(.inr "bank", .ref 396),(.inr "level", .ref 403),(.inr "sail", .ref 410),(.inr "right", .ref 417),(.inr "bearing", .ref 431),(.inr "range", .ref 438),(.inr "strike", .ref 445)]
def zHm:Addr:=498
def zHy:Addr:=575
def zE3:Addr:=622
def zFe:Addr:=634
def zEj:Addr:=641
def zDe:Addr:=648
structure Cb(P:Program)(w:World)(mg:Str->Option Value)(base:Heap):Prop where
 state:InB base λK=>Cls K bkC/\rP K bkC "state"
 past:InB base λK=>Cls K bkC/\rP K bkC "past"
 later:InB base λK=>Cls K bkC/\rP K bkC "later"
 m_deed:InB base λK=>Cls K bkC/\zO0 K bkC "deed" zHy
 m_marks:InB base λK=>Cls K bkC/\zO0 K bkC "marks" zE3
 m_runs:InB base λK=>Cls K bkC/\zO0 K bkC "runs" zFe
 m_notes:InB base λK=>Cls K bkC/\zO0 K bkC "notes" zEj
 m_coming:InB base λK=>Cls K bkC/\zO0 K bkC "coming" zDe
 make:InB base λK=>Mk K bkC zHm
 gBook:mg "Book" = some (.ref bkC)
 dMOST:zQ3 P w base zRn zSk
 gMOST:mg "MOST" = some (.ref zRn)
 dAFTER:zQ3 P w base zOc zOz
 gAFTER:mg "AFTER" = some (.ref zOc)
 LONGEST_NAME:∃ k,mg "LONGEST_NAME" = some (.int 8 k)
 FARTHEST:∃ k,mg "FARTHEST" = some (.int 1000 k)
 LONGEST_WAY:∃ k,mg "LONGEST_WAY" = some (.int 100 k)
 t_mark:mg "after_mark" = some (.ref 375)
 t_sail:mg "after_sail" = some (.ref 410)
 t_bearing:mg "after_bearing" = some (.ref 431)
 t_range:mg "after_range" = some (.ref 438)
 gMarkError:mg "MarkError" = some (.ref zA1)
 gNoMoment:mg "NoMoment" = some (.ref zO)
 e_NoMoment:PyProof.Rows.OwnCls "NoMoment" zO bmV "ValueError.__new__" mg base
 t_NoMoment_MarkError:zS6 base (.ref zO) zA1
 i_NoMoment_NoMoment:InB base λK=>PySem.W.kitOne K (.ref zO) (.ref zO)=some true
 i_NoMoment_ValueError:InB base λK=>PySem.W.kitOne K (.ref zO) (.type "ValueError")=some true
set_option hygiene false in
local macro_rules | `(tactic| fail) => `(tactic| first | with_reducible exact wA | with_reducible exact zL | ((with_reducible apply zRz); exact rfl; fail; fail) | with_reducible exact zQ | with_reducible exact zGz | with_reducible exact zOh | ((with_reducible apply zSb); first | ((with_reducible apply zQ1 "bool"); exact rY (v := .ty "bool") rfl Z.bool zKx rfl) | ((with_reducible apply zQ1 "dict"); exact rY (v := .ty "dict") rfl Z.dict zAc rfl) | ((with_reducible apply zQ1 "int"); exact rY (v := .ty "int") rfl Z.int zOi rfl) | ((with_reducible apply zQ1 "list"); exact rY (v := .ty "list") rfl Z.list zAo rfl) | ((with_reducible apply zQ1 "str"); exact rY (v := .ty "str") rfl Z.str zOx rfl) | ((with_reducible apply zQ1 "tuple"); exact rY (v := .ty "tuple") rfl Z.tuple zEk rfl) | exact pv 0 | exact pv 1 | exact pv 2 | exact pv 3 | exact pv 4 | exact pv 5 | exact pv 6 | exact pv 7 | exact pv 8 | exact pv 9 | exact pv 10 | exact pv 11 | exact pv 12) | ((with_reducible apply m_sub); first | ((with_reducible apply uS zLb); fail; fail; fail) | ((with_reducible apply m_ix); exact λ_ _ => rfl; fail; fail)) | ((with_reducible apply m_bin); first | ((with_reducible apply sS zIx); fail; fail) | ((with_reducible apply sS zRa); fail; fail) | ((with_reducible apply sS zFy); fail; fail) | ((with_reducible apply sS zNo); fail; fail) | ((with_reducible apply sS zOo); fail; fail) | ((with_reducible apply sS zSx); fail; fail)) | ((with_reducible apply zS9); first | ((with_reducible apply m_own); (with_reducible assumption); exact ⟨rfl, rfl, rfl, rfl, rfl⟩; exact hr.mono (by decide); exact rfl; decide; exact rfl; exact rfl; fail) | ((with_reducible apply zFv zNc zRk); exact Z.abs; exact rfl; decide; decide; exact rfl; exact rfl; fail) | ((with_reducible apply zFv (sI rfl) zGv); exact Z.all; exact rfl; decide; decide; exact rfl; exact rfl; fail) | ((with_reducible apply zFv zHl tM); exact Z.isinstance; exact rfl; decide; decide; exact rfl; exact rfl; fail) | ((with_reducible apply zFv vP qF); exact Z.len; exact rfl; decide; decide; exact rfl; exact rfl; fail) | ((with_reducible apply zFv (zKk rfl) zSq); exact Z.max; exact rfl; decide; decide; exact rfl; exact rfl; fail) | ((with_reducible apply zFv (zK3 rfl) zRr); exact Z.min; exact rfl; decide; decide; exact rfl; exact rfl; fail) | ((with_reducible apply zFv call_sortedT sW); exact Z.sorted; exact rfl; decide; decide; exact rfl; exact rfl; fail) | ((with_reducible apply zFv (sN rfl) zG3); exact Z.sum; exact rfl; decide; decide; exact rfl; exact rfl; fail) | ((with_reducible apply zQ8 call_bool1 zKx); exact Z.bool; exact rfl; decide; decide; exact rfl; exact rfl; fail) | ((with_reducible apply zQ8 rB zAc); exact Z.dict; exact rfl; decide; decide; exact rfl; exact rfl; fail) | ((with_reducible apply zQ8 zL5 zOi); exact Z.int; exact rfl; decide; decide; exact rfl; exact rfl; fail) | ((with_reducible apply zQ8 zA2 zAo); exact Z.list; exact rfl; decide; decide; exact rfl; exact rfl; fail) | ((with_reducible apply zQ8 call_str_any zOx); exact Z.str; exact rfl; decide; decide; exact rfl; exact rfl; fail) | ((with_reducible apply zQ8 qI zEk); exact Z.tuple; exact rfl; decide; decide; exact rfl; exact rfl; fail)) | ((with_reducible apply zGr); fail) | ((with_reducible apply zL7); fail) | ((with_reducible apply pe_un zSv); fail) | ((with_reducible apply pe_not); fail) | ((with_reducible apply m_cmp); first | ((with_reducible apply sF zPp); fail; fail; exact yV _) | ((with_reducible apply sF zSi); fail; fail; exact yV _) | ((with_reducible apply sF zQz); fail; fail; exact yV _) | ((with_reducible apply sF zOb); fail; fail; exact yV _) | ((with_reducible apply sF zM7); fail; fail; exact yV _) | ((with_reducible apply sF zPu); fail; fail; exact yV _) | ((with_reducible apply sF op_isN); fail; fail; exact yV _) | ((with_reducible apply sF op_notN); fail; fail; exact yV _)) | ((with_reducible apply zRl); first | ((with_reducible apply yT zPp); fail; fail; exact yV _) | ((with_reducible apply yT zSi); fail; fail; exact yV _) | ((with_reducible apply yT zQz); fail; fail; exact yV _) | ((with_reducible apply yT zOb); fail; fail; exact yV _) | ((with_reducible apply yT zM7); fail; fail; exact yV _) | ((with_reducible apply yT zPu); fail; fail; exact yV _) | ((with_reducible apply yT op_isN); fail; fail; exact yV _) | ((with_reducible apply yT op_notN); fail; fail; exact yV _)) | ((with_reducible apply zQl); fail) | ((with_reducible apply zPj); fail) | ((with_reducible apply zFn); fail) | ((with_reducible apply zTf); fail; fail) | ((with_reducible apply zI8); fail; fail) | ((with_reducible apply zDf); fail) | ((with_reducible apply zLq); fail) | ((with_reducible apply zLr); fail; fail) | ((with_reducible apply pe_or); fail; fail) | ((with_reducible apply zIh); fail; fail; fail) | with_reducible exact sR | ((with_reducible apply vX); fail) | ((with_reducible apply m_val); exact λ_ => rfl; fail))
set_option hygiene false in
local macro_rules | `(tactic| specialize $e) => `(tactic| refine F.ok $e (λvs H Q E h => ?_) (λcdv A outer s H vs Q E hr h => ?_))
local macro_rules | `(tactic| nofun) => `(tactic| ((any_goals fail); try dsimp only [L2.cxOf]))
section
variable{P:Program}{w:World}{mg:Str->Option Value}{base:Heap}{f:Addr}{fd:FuncData}
def vM(K:PySem.W.Frag):Sp:=λvs H Q _=>∃(a:Addr)(ns:List Int),vs=[.ref a]/\Sq K H a (ns.map V.int)/\Q (.int (yR ns)) H
theorem qH(F:Fun K "common_factor" "common_factor" xH f fd)(Z:Zs mg):yP P w K mg base CX0 1 f fd ["numbers"] (vM K):=by
 specialize yC
 ·obtain⟨a,ns,rfl,_⟩:=h;rfl
 obtain⟨a,ns,rfl,hS,q⟩:=h
 refine'⟨_,(zB (zV 1 yC.nd wA)
   (zB (wP PassesOwn.never rfl (uF (pv 0)) (uL 2 yC.nd) (zB (zV 3 yC.nd ?_)
   (zD (zBk PassesOwn.never ?_ (zB (zV 4 yC.nd ?_)
   (zB (zV 1 yC.nd (pv 3))
   (zD (zV 3 yC.nd (pv 4)))))))))
   (zD (zS (pv 1))))),?_⟩
 nofun
 have mono:∀(σ:St)(H:Hp)(Q Q':Bool->Hp->Prop),(∀ b H1,Q b H1->Q' b H1)->zNy (tOp rNe (zQ7 3) (tC (.int 0))) σ H Q->zNy (tOp rNe (zQ7 3) (tC (.int 0))) σ H Q':=λσ H Q Q' hq z=>by
  obtain⟨v,hv,hs,k,hk,z⟩:=z;exact⟨v,hv,hs,k,hk,hq _ _ z⟩
 rcases hS with hS | hS
 ·refine⟨_,rfl,a,rfl,.inl ⟨⟨_,hS⟩,uQ (K:=K) (a:=a) (xs:=ns.map V.int) (λi σ H'=>H'=H/\∃(u v z:Option V),σ=[some (.ref a),some (.int (yR (ns.take i))),u,v,z]) ⟨rfl,none,none,none,rfl⟩ (λi σ H' _ ⟨e,_⟩=>by rw[e]; exact hS) ?_ ?_⟩⟩
  ·rintro i x σ H' hi ⟨rfl,u,v,z,rfl⟩;obtain⟨n,hn,rfl⟩:=wQ hi;exists _,rfl,n,rfl;refine qC (λσ H1=>H1=H'/\∃(g r:Int)(y:Option V),σ=[some (.ref a),some (.int g),some (.int n),some (.int r),y]/\0<=g/\0<=r/\Nat.gcd g.toNat r.toNat=yR (ns.take (i+1)))
    (λσ _=>match σ with | [_,_,_,some (.int r),_]=>r.toNat | _=>0) ⟨rfl,_,_,_,rfl,Int.natCast_nonneg _,by split <;> lia,?_⟩ ?_ mono
   ·rw[qY hn,zGp,zIt]; rfl
   ·rintro σ H1 ⟨rfl,g,r,y,rfl,h1,h2,h3⟩;exists _,rfl,rfl,_,rfl;refine ifNe (λhr0=>?_) (λhr0=>?_)
    ·refine⟨_,rfl,_,rfl,_,_,rfl,rfl,(by show(0:Int)<r; lia),_,rfl,_,rfl,⟨rfl,_,_,_,rfl,h2,Int.emod_nonneg g hr0,?_⟩,?_⟩
     ·rw[zE5 h1 (by lia)]; exact h3
     ·have h4:=Int.emod_lt_of_pos g (show 0<r by lia);show(g%r).toNat<r.toNat;lia
    ·subst hr0;have h5:g=((yR (ns.take (i+1)):Nat):Int):=by
      rw[<- h3];show g=((Nat.gcd g.toNat 0:Nat):Int);rw[Nat.gcd_zero_right];lia
     exact⟨rfl,some (.int n),some (.int 0),y,by rw[h5]⟩
  ·rintro σ H' ⟨rfl,u,v,z,rfl⟩;exists _,rfl;rw[List.length_map,List.take_length];exact q
 ·refine⟨_,rfl,a,rfl,.inr ⟨⟨_,hS⟩,zL3 (K:=K) (a:=a) (xs:=ns.map V.int) (λi σ H'=>H'=H/\∃(u v z:Option V),σ=[some (.ref a),some (.int (yR (ns.take i))),u,v,z]) ⟨rfl,none,none,none,rfl⟩ (λi σ H' _ ⟨e,_⟩=>by rw[e]; exact hS) ?_ ?_⟩⟩
  ·rintro i x σ H' hi ⟨rfl,u,v,z,rfl⟩;obtain⟨n,hn,rfl⟩:=wQ hi;exists _,rfl,n,rfl;refine qC (λσ H1=>H1=H'/\∃(g r:Int)(y:Option V),σ=[some (.ref a),some (.int g),some (.int n),some (.int r),y]/\0<=g/\0<=r/\Nat.gcd g.toNat r.toNat=yR (ns.take (i+1)))
    (λσ _=>match σ with | [_,_,_,some (.int r),_]=>r.toNat | _=>0) ⟨rfl,_,_,_,rfl,Int.natCast_nonneg _,by split <;> lia,?_⟩ ?_ mono
   ·rw[qY hn,zGp,zIt]; rfl
   ·rintro σ H1 ⟨rfl,g,r,y,rfl,h1,h2,h3⟩;exists _,rfl,rfl,_,rfl;refine ifNe (λhr0=>?_) (λhr0=>?_)
    ·refine⟨_,rfl,_,rfl,_,_,rfl,rfl,(by show(0:Int)<r; lia),_,rfl,_,rfl,⟨rfl,_,_,_,rfl,h2,Int.emod_nonneg g hr0,?_⟩,?_⟩
     ·rw[zE5 h1 (by lia)]; exact h3
     ·have h4:=Int.emod_lt_of_pos g (show 0<r by lia);show(g%r).toNat<r.toNat;lia
    ·subst hr0;have h5:g=((yR (ns.take (i+1)):Nat):Int):=by
      rw[<- h3];show g=((Nat.gcd g.toNat 0:Nat):Int);rw[Nat.gcd_zero_right];lia
     exact⟨rfl,some (.int n),some (.int 0),y,by rw[h5]⟩
  ·rintro σ H' ⟨rfl,u,v,z,rfl⟩;exists _,rfl;rw[List.length_map,List.take_length];exact q
def rV(K:PySem.W.Frag):Sp:=λvs H Q _=>∃(a:Addr)(ns:List Int),vs=[.ref a]/\Sq K H a (ns.map V.int)/\ns.length<=1000/\0<yR ns/\(yR ns:Int)<10^600 /\
 ∀(p:Addr)(H':Hp),Same H H'->H p=none->H' p=some (.tup ((zBl ns).map V.int))->Q (.ref p) H'
theorem zH1(F:Fun K "lowest" "lowest" rN f fd)(Z:Zs mg)(CB:Cb P w mg base)(yAa:Has P w K mg base "common_factor" 1 ["numbers"] (vM K)):yP P w K mg base CX0 2 f fd ["numbers"] (rV K):=by
 specialize zB1
 ·obtain⟨a,ns,rfl,_⟩:=h;rfl
 obtain⟨a,ns,rfl,hS,hl,hg,hg2,q⟩:=h
 refine'⟨_,(zB (zV 1 zB1.nd ?_)
   (zD (zS (xN qI rfl Z.tuple zEk (zF (wM (T:=["number"]) (caps:=[("shared", 1)]) ⟨rfl,by decide +kernel,by decide +kernel,rfl,⟨⟨rfl,rfl,Or.inl rfl⟩,True.intro⟩⟩ rfl (uF (pv 0)) (λ_=>(uL 0 (show(["number", "shared"]:List Str).Nodup by decide +kernel))) (λ_=>yW) (λ_=>?_)) zL))))),?_⟩
 nofun
 exists _,rfl,a,ns,rfl,hS;have fin:∀(D:Addr)(H':Hp),H D=none->Same H H'->H' D=some (.lst ((zBl ns).map V.int))->∀ l,H' l=none->Q (.ref l) (upd H' l (.tup ((zBl ns).map V.int))):=λD H' hD hs e l hl =>
  q l _ (hs.trans (zC hl _)) (hs.free hl) zA
 have len:∀ i,((ns.take i).map λn=>V.int (n/(yR ns:Int))).length<sizeLine:=λi=>zJ (by rw[List.length_map,List.length_take]; lia);rcases hS with hS | hS
 ·refine⟨_,rfl,a,rfl,.inl ⟨⟨_,hS⟩,λc D hD=>xY (K:=K) (a:=a) (xs:=ns.map V.int) (λi σ ys H'=>H'=upd H D (.lst ys)/\ys=(ns.take i).map (λn=>V.int (n/(yR ns:Int)))/\∃ u,σ=[u,some (.int (yR ns))])
   ⟨rfl,rfl,none,rfl⟩ (λi σ ys H' _ ⟨e,_⟩=>by rw[e]; exact⟨(zC hD _).seq hS,zA⟩) ?_ ?_⟩⟩
  ·rintro i x σ ys H' hi ⟨rfl,rfl,u,rfl⟩;obtain⟨n,hn,rfl⟩:=wQ hi;exists _,rfl,_,rfl,_,_,rfl,rfl,zBc.of (by lia) hg2,zA,len i;refine⟨zLf,?_,_,rfl⟩;rw[qY hn,List.map_append];rfl
  ·rintro σ ys H' ⟨rfl,rfl,u,rfl⟩;rw[List.length_map,List.take_length];have e:(ns.map λn=>V.int (n/(yR ns:Int)))=(zBl ns).map V.int:=by unfold zBl; rw[List.map_map]; rfl
   rw[e];exact⟨D,_,rfl,.inl ⟨SqL.of zA,fin D _ hD (zC hD _) zA⟩⟩
 ·refine⟨_,rfl,a,rfl,.inr ⟨⟨_,hS⟩,λc D hD=>zFp (K:=K) (a:=a) (xs:=ns.map V.int) (λi σ ys H'=>H'=upd H D (.lst ys)/\ys=(ns.take i).map (λn=>V.int (n/(yR ns:Int)))/\∃ u,σ=[u,some (.int (yR ns))])
   ⟨rfl,rfl,none,rfl⟩ (λi σ ys H' _ ⟨e,_⟩=>by rw[e]; exact⟨SqT.same hS (zC hD _),zA⟩) ?_ ?_⟩⟩
  ·rintro i x σ ys H' hi ⟨rfl,rfl,u,rfl⟩;obtain⟨n,hn,rfl⟩:=wQ hi;exists _,rfl,_,rfl,_,_,rfl,rfl,zBc.of (by lia) hg2,zA,len i;refine⟨zLf,?_,_,rfl⟩;rw[qY hn,List.map_append];rfl
  ·rintro σ ys H' ⟨rfl,rfl,u,rfl⟩;rw[List.length_map,List.take_length];have e:(ns.map λn=>V.int (n/(yR ns:Int)))=(zBl ns).map V.int:=by unfold zBl; rw[List.map_map]; rfl
   rw[e];exact⟨D,_,rfl,.inl ⟨SqL.of zA,fin D _ hD (zC hD _) zA⟩⟩
def zR8(K:PySem.W.Frag):Sp:=λvs H Q _=>∃(a b:Addr)(us ws:List V)(x1 y1 x2 y2:Int),vs=[.ref a,.ref b]/\Sq K H a us/\Sq K H b ws/\atI us 0=some (.int x1)/\atI us 1=some (.int y1)/\atI ws 0=some (.int x2)/\atI ws 1=some (.int y2) /\
 x1.natAbs<=10^18/\y1.natAbs<=10^18/\Q (.int (x1*y2-y1*x2)) H
def qG(K:PySem.W.Frag):Sp:=zR8 K
theorem zKg(F:Fun K "turn" "turn" zBs f fd)(Z:Zs mg)(CB:Cb P w mg base)  : yP P w K mg base CX0 1 f fd ["one", "other"] (qG K):=by
 specialize zLg
 ·obtain⟨a,b,us,ws,x1,y1,x2,y2,rfl,_⟩:=h;rfl
 obtain⟨a,b,us,ws,x1,y1,x2,y2,rfl,ha,hb,u0,u1,w0,w1,m1,m2,q⟩:=h
 refine'⟨_,(zD (zS ?_)),?_⟩
 nofun
 exact⟨_,rfl,a,_,_,.int x1,rfl,rfl,ha,u0,_,rfl,b,_,_,.int y2,rfl,rfl,hb,w1,_,_,rfl,rfl,qL (by lia),
  _,rfl,a,_,_,.int y1,rfl,rfl,ha,u1,_,rfl,b,_,_,.int x2,rfl,rfl,hb,w0,_,_,rfl,rfl,qL (by lia),_,_,rfl,rfl,q⟩
def uZ(K:PySem.W.Frag):Sp:=rV K
theorem zCe(F:Fun K "plain_side" "plain_side" wV f fd)(Z:Zs mg)(CB:Cb P w mg base)(yBh:Has P w K mg base "lowest" 2 ["numbers"] (rV K)):yP P w K mg base CX0 3 f fd ["side"] (uZ K):=by
 specialize zCf
 ·obtain⟨a,ns,rfl,_⟩:=h;rfl
 obtain⟨a,ns,rfl,h⟩:=h;exact⟨_,(zD (zS (xT yBh (hr.mono (by decide)) rfl (zF (pv 0) zL)))),⟨_,rfl,a,ns,rfl,h⟩⟩
def zCp(K:PySem.W.Frag):Sp:=λvs H Q _=>∃(a:Addr)(A B C x y:Int),vs=[.ref a,.int x,.int y]/\Sq K H a [.int A,.int B,.int C]/\A.natAbs<=10^18/\B.natAbs<=10^18 /\
 ∀(p:Addr)(H':Hp),Same H H'->H p=none->H' p=some (.tup [.int A,.int B,.int (C+A*x+B*y)])->Q (.ref p) H'
theorem zHx(F:Fun K "pushed" "pushed" rK f fd)(Z:Zs mg)(CB:Cb P w mg base)  : yP P w K mg base CX0 1 f fd ["side", "x", "y"] (zCp K):=by
 specialize zHs
 ·obtain⟨a,A,B,C,x,y,rfl,_⟩:=h;rfl
 obtain⟨a,A',B,C,x,y,rfl,ha,m1,m2,q⟩:=h
 refine'⟨_,(zD (zS ?_)),?_⟩
 nofun
 refine⟨_,rfl,a,_,_,.int A',rfl,rfl,ha,rfl,_,rfl,a,_,_,.int B,rfl,rfl,ha,rfl,_,rfl,a,_,_,.int C,rfl,rfl,ha,rfl,_,rfl,a,_,_,.int A',rfl,rfl,ha,rfl,_,rfl,_,_,rfl,rfl,.inl ⟨by lia,by lia⟩,_,_,rfl,rfl,
  _,rfl,a,_,_,.int B,rfl,rfl,ha,rfl,_,rfl,_,_,rfl,rfl,.inl ⟨by lia,by lia⟩,_,_,rfl,rfl,sz3,λp hp=>?_⟩
 exact q p _ (zC hp _) hp zA
theorem zK2{D0 D1 D2:Int}(n:D0≠0\/D1≠0)(m0:D0.natAbs<=10^9)(m1:D1.natAbs<=10^9):0<yR [D0,D1,D2]/\(yR [D0,D1,D2]:Int)<=10^9/\(yR [D0,D1,D2]:Int)<10^600:=by
 have gp:0<yR [D0,D1,D2]:=by
  rcases n with n | n
  ·exact tP (n:=D0) (by simp) n
  ·exact tP (n:=D1) (by simp) n
 have z:(yR [D0,D1,D2]:Int)<=10^9:=by
  rcases n with n | n
  ·have:=zEp (ns:=[D0,D1,D2]) (n:=D0) (by simp) n;lia
  ·have:=zEp (ns:=[D0,D1,D2]) (n:=D1) (by simp) n;lia
 exact⟨gp,z,Int.lt_of_le_of_lt z (by decide +kernel)⟩
def vR(K:PySem.W.Frag):Sp:=λvs H Q _=>∃(m a b:Addr)(M0 M1 A0 A1 B0 B1:Int),vs=[.ref m,.ref a,.ref b]/\SqT K H m [.int M0,.int M1]/\SqT K H a [.int A0,.int A1]/\SqT K H b [.int B0,.int B1] /\
 M0.natAbs<=10^6/\M1.natAbs<=10^6/\A0.natAbs<=10^6/\A1.natAbs<=10^6/\B0.natAbs<=10^6/\B1.natAbs<=10^6/\(A0≠0\/A1≠0)/\(B0≠0\/B1≠0) /\
 ∀(l p q:Addr)(H':Hp),Same H H'->H' l=some (.lst [.ref p,.ref q])->H' p=some (.tup ((zBl [-A1,A0,A0*M1-A1*M0]).map V.int))->H' q=some (.tup ((zBl [B1,-B0,M0*B1-M1*B0]).map V.int))->Q (.ref l) H'
theorem qO(F:Fun K "bearing_sides" "bearing_sides" xF f fd)(Z:Zs mg)(CB:Cb P w mg base)(yAo:Has P w K mg base "plain_side" 3 ["side"] (uZ K))(yBt:Has P w K mg base "turn" 1 ["one", "other"] (qG K)):yP P w K mg base CX0 4 f fd ["place", "one", "other"] (vR K):=by
 specialize wE
 ·obtain⟨m,a,b,M0,M1,A0,A1,B0,B1,rfl,_⟩:=h;rfl
 obtain⟨m,a,b,M0,M1,A0,A1,B0,B1,rfl,hm,ha,hb,m1,m2,m3,m4,m5,m6,nA,nB,q⟩:=h
 refine'⟨_,(zB (zV 3 wE.nd ?_)
   (zB (zV 4 wE.nd ?_)
   (zD (zS ?_)))),?_⟩
 nofun
 obtain⟨g1,_,g2⟩:=zK2 (D0:=-A1) (D1:=A0) (D2:=A0*M1-A1*M0) (by lia) (by lia) (by lia);obtain⟨g3,_,g4⟩:=zK2 (D0:=B1) (D1:=-B0) (D2:=M0*B1-M1*B0) (by lia) (by lia) (by lia);refine⟨_,rfl,a,_,_,.int A1,rfl,rfl,.inr ha,rfl,_,rfl,_,rfl,a,_,_,.int A0,rfl,rfl,.inr ha,rfl,_,rfl,_,rfl,a,m,_,_,A0,A1,M0,M1,rfl,.inr ha,.inr hm,rfl,rfl,rfl,rfl,by lia,by lia,sz3,λt1 ht1=>?_⟩;have s1:=zC ht1 (.tup [.int (-A1),.int A0,.int (A0*M1-A1*M0)]);have hb1:=SqT.same hb s1;have hm1:=SqT.same hm s1;refine⟨_,rfl,b,_,_,.int B1,rfl,rfl,.inr hb1,rfl,_,rfl,b,_,_,.int B0,rfl,rfl,.inr hb1,rfl,_,rfl,_,rfl,_,rfl,m,b,_,_,M0,M1,B0,B1,rfl,.inr hm1,.inr hb1,rfl,rfl,rfl,rfl,by lia,by lia,sz3,λt2 ht2=>?_⟩;have s2:=zC ht2 (.tup [.int B1,.int (-B0),.int (M0*B1-M1*B0)]);refine⟨_,rfl,t1,[-A1,A0,A0*M1-A1*M0],rfl,.inr (SqT.of (s2 _ _ zA)),by show 3<=1000; decide,g1,g2,λp H3 s3 hp e3=>?_⟩;refine⟨_,rfl,t2,[B1,-B0,M0*B1-M1*B0],rfl,.inr (SqT.of (s3 _ _ zA)),by show 3<=1000; decide,g3,g4,λq' H4 s4 hq e4=>?_⟩;refine⟨sz2,λl hl=>?_⟩;have s5:=zC hl (.lst [.ref p,.ref q']);exact q l p q' _ (s1.trans (s2.trans (s3.trans (s4.trans s5)))) zA (s5 _ _ (s4 _ _ e3)) (s5 _ _ e4)
def rA(K:PySem.W.Frag):Sp:=λvs H Q _=>∃(a b:Addr)(L0 L1 R0 R1:Int),vs=[.ref a,.ref b]/\Sq K H a [.int L0,.int L1]/\Sq K H b [.int R0,.int R1]/\L0.natAbs<=10^6/\L1.natAbs<=10^6/\R0.natAbs<=10^6/\R1.natAbs<=10^6/\(L1-R1≠0\/R0-L0≠0) /\
 ∀(p:Addr)(H':Hp),Same H H'->H p=none->H' p=some (.tup ((zBl [L1-R1,R0-L0,R0*L1-R1*L0]).map V.int))->Q (.ref p) H'
theorem zB4(F:Fun K "range_side" "range_side" wU f fd)(Z:Zs mg)(CB:Cb P w mg base)(yAo:Has P w K mg base "plain_side" 3 ["side"] (uZ K))(yBt:Has P w K mg base "turn" 1 ["one", "other"] (qG K)):yP P w K mg base CX0 4 f fd ["left", "right"] (rA K):=by
 specialize zCw
 ·obtain⟨a,b,L0,L1,R0,R1,rfl,_⟩:=h;rfl
 obtain⟨a,b,L0,L1,R0,R1,rfl,ha,hb,m1,m2,m3,m4,n,q⟩:=h
 refine'⟨_,(zD (zS ?_)),?_⟩
 nofun
 have gp:0<yR [L1-R1,R0-L0,R0*L1-R1*L0]:=by
  rcases n with n | n
  ·exact tP (n:=L1-R1) (by simp) n
  ·exact tP (n:=R0-L0) (by simp) n
 have gb:(yR [L1-R1,R0-L0,R0*L1-R1*L0]:Int)<10^600:=by
  have z:(yR [L1-R1,R0-L0,R0*L1-R1*L0]:Int)<=10^7:=by
   rcases n with n | n
   ·have:=zEp (ns:=[L1-R1,R0-L0,R0*L1-R1*L0]) (n:=L1-R1) (by simp) n;lia
   ·have:=zEp (ns:=[L1-R1,R0-L0,R0*L1-R1*L0]) (n:=R0-L0) (by simp) n;lia
  exact Int.lt_of_le_of_lt z (by decide +kernel)
 refine⟨_,rfl,a,_,_,.int L1,rfl,rfl,ha,rfl,_,rfl,b,_,_,.int R1,rfl,rfl,hb,rfl,_,_,rfl,rfl,_,rfl,b,_,_,.int R0,rfl,rfl,hb,rfl,_,rfl,a,_,_,.int L0,rfl,rfl,ha,rfl,_,_,rfl,rfl,_,rfl,_,rfl,b,a,_,_,R0,R1,L0,L1,rfl,hb,ha,rfl,rfl,rfl,rfl,by lia,by lia,sz3,λt ht =>
  ⟨t,[L1-R1,R0-L0,R0*L1-R1*L0],rfl,.inr (SqT.of zA),by show 3<=1000; decide,gp,gb,λp H2 s2 hp e2=>?_⟩⟩
 exact q p H2 ((zC ht _).trans s2) ((zC ht _).free hp) e2
def sA(K:PySem.W.Frag):Sp:=λvs H Q _=>vs=[]/\∀(d:Addr)(H':Hp),Same H H'->H d=none->zH8 H' d BS.nil->Q (.ref d) H'
theorem zA5(F:Fun K "nothing_yet" "nothing_yet" wB f fd)(Z:Zs mg)(CB:Cb P w mg base)  : yP P w K mg base CX0 1 f fd [] (sA K):=by
 specialize zBg
 ·obtain⟨rfl,_⟩:=h;rfl
 obtain⟨rfl,q⟩:=h
 refine'⟨_,zD ?h,?_⟩
 rotate_left
 with_reducible refine' zS ?_
 rotate_left
 with_reducible exact zHa (xE zQ vQ (xE zQ vQ (xE zQ vQ (xE zQ vQ (xE zQ wA zHe))))) rfl rfl (λz=>nomatch z) (by decide)
 try dsimp only[L2.cxOf]
 intro p hp m hm b hb r hr n hn;have s1:=zC hp (.dK []);have s2:=zC hm (.dK []);have s3:=zC hb (.dK []);have s4:=zC hr (.dK []);have s5:=zC hn (.dK []);have em:=(s3.trans (s4.trans s5)) _ _ zA;have eb:=(s4.trans s5) _ _ zA;have er:=s5 _ _ zA;have ep:=(s2.trans (s3.trans (s4.trans s5))) _ _ zA;exists ep,[(.inr "marks", .ref m),(.inr "banks", .ref b),(.inr "runs", .ref r),(.inr "notes", .ref n),(.inr "coming", .int 1)],rfl,(show 5<=15 by decide);rw[zN7];have ne:∀{x:Addr},(upd H p (.dK [])) x=none->x≠p:=λ{x} h z=>by rw[z,zA] at h; cases h
 have nb:=ne (s2.free hb);have nr:=ne (s2.free (s3.free hr));have nn:=ne (s2.free (s3.free (s4.free hn)));refine q p _ (λc o e=>?_) hp ⟨m,b,r,n,.inl zA,.nil ?_,.nil ?_,.nil ?_,.nil ?_⟩
 ·rw[zG (zH e hp)];exact(s1.trans (s2.trans (s3.trans (s4.trans s5)))) c o e
 ·rw[zG (ne hm)]; exact em
 ·rw[zG nb]; exact eb
 ·rw[zG nr]; exact er
 ·rw[zG nn]; exact zA
def vT(K:PySem.W.Frag):Sp:=λvs H Q _=>∃(d a:Addr)(kind:Str)(key:Key)(v:V)(kvs ms:List (Key×V)),vs=[.ref d,.str kind,kV key,v]/\Rd H d (.dK kvs)/\vA kvs (.inr kind)=some (.ref a)/\Rd H a (.dK ms)/\kvs.length<=100/\ms.length<=100 /\
 ∀(f c:Addr)(H':Hp),Same H H'->H f=none->f≠c->H' f=some (.dK (tL kvs (.inr kind) (.ref c)))->H' c=some (.dK (tL ms key v))->Q (.ref f) H'
theorem zF1(F:Fun K "changed" "changed" tJ f fd)(Z:Zs mg)(CB:Cb P w mg base)  : yP P w K mg base CX0 1 f fd ["state", "kind", "key", "value"] (vT K):=by
 specialize zAv
 ·obtain⟨d,a,kind,key,v,kvs,ms,rfl,_⟩:=h;rfl
 obtain⟨d,a,kind,key,v,kvs,ms,rfl,hd,ea,ha,l1,l2,q⟩:=h
 refine'⟨_,(zB (zV 4 zAv.nd ?_)
   (zB (vE (zW hr) (pv 4) (pv 1) (xN rB rfl Z.dict zAc (zF (zN (zW hr) (pv 0) (pv 1) (λ_ _=>rfl)) zL)) rfl)
   (zB (vE (zW hr) (zN (zW hr) (pv 4) (pv 1) (λ_ _=>rfl)) (pv 2) (pv 3) rfl)
   (zD (zS (pv 4)))))),?_⟩
 nofun
 refine⟨_,rfl,d,kvs,rfl,hd,λp hp=>?_⟩;have s1:=zC hp (.dK kvs);have hd1:Rd (upd H p (.dK kvs)) d (.dK kvs):=hd.imp (s1 _ _) λ⟨o,e⟩=>⟨o,s1 _ _ e⟩;have ha1:Rd (upd H p (.dK kvs)) a (.dK ms):=ha.imp (s1 _ _) λ⟨o,e⟩=>⟨o,s1 _ _ e⟩;refine⟨_,rfl,_,rfl,d,.ref a,rfl,.inl ⟨kvs,.inr kind,hd1,rfl,ea.symm⟩,a,ms,rfl,ha1,λc hc=>?_⟩;have npc:p≠c:=zH zA hc;have s2:=zC hc (.dK ms);have e2:upd (upd H p (.dK kvs)) c (.dK ms) p=some (.dK kvs):=s2 _ _ zA;exists _,rfl,_,rfl,p,_,rfl,zG7.k (k:=.inr kind) e2 (zJ (by lia));have e3:upd (upd (upd H p (.dK kvs)) c (.dK ms)) p (.dK (tL kvs (.inr kind) (.ref c))) c=some (.dK ms):=by rw[zG npc.symm,zA]
 refine⟨_,rfl,_,rfl,_,rfl,p,.ref c,rfl,.inl ⟨_,.inr kind,.inl zA,rfl,?_⟩,_,rfl,c,_,rfl,zG7.k e3 (zJ (by lia)),_,rfl,?_⟩
 ·rw[zE1,if_pos rfl]
 refine q p c _ (λb o e=>?_) hp npc ?_ zA
 ·have n1:=zH e hp;have n2:=zH (s1 _ _ e) hc;rw[zG n2,zG n1,zG n2,zG n1];exact e
 ·rw[zG npc,zA]
def zF7(ns:List Int)(m:Int):Bool:=ns.all λn=>decide (-m<=n)&&decide (n<=m)
def tH(K:PySem.W.Frag):Sp:=λvs H Q _=>∃(a:Addr)(ns:List Int)(m:Int),vs=[.ref a,.int m]/\H a=some (.tup (ns.map V.int))/\ns.length<=100/\∀ H',Same H H'->Q (.bl (zF7 ns m)) H'
theorem zHh(F:Fun K "within" "within" rJ f fd)(Z:Zs mg)(CB:Cb P w mg base)  : yP P w K mg base CX0 1 f fd ["numbers", "most"] (tH K):=by
 specialize zHu
 ·obtain⟨a,ns,m,rfl,_⟩:=h;rfl
 obtain⟨a,ns,m,rfl,ha,hl,q⟩:=h
 refine'⟨_,(zD (zS (yB (sI rfl) rfl Z.all zGv (zF (wM (T:=["number"]) (caps:=[("most", 1)]) ⟨rfl,by decide +kernel,by decide +kernel,rfl,⟨⟨rfl,rfl,Or.inl rfl⟩,True.intro⟩⟩ rfl (uF (pv 0)) (λ_=>(uL 0 (show(["number", "most"]:List Str).Nodup by decide +kernel))) (λ_=>yW) (λ_=>(zIe zOb zOb ?_ (pv 0) (pv 1)))) zL)))),?_⟩
 nofun
 refine⟨_,rfl,a,rfl,.inr ⟨⟨_,SqT.of ha⟩,λc D hD=>?_⟩⟩;refine zFp (K:=K) (a:=a) (xs:=ns.map V.int) (λi σ zs H'=>Same H H'/\H' D=some (.lst zs)/\zs=((ns.take i).map λn=>decide (-m<=n)&&decide (n<=m)).map V.bl/\∃ u0:Option V,σ=[u0,some (.int m)])
  ⟨zC hD _,zA,rfl,none,rfl⟩ (λi σ zs H' _ ⟨sH,e,_⟩=>⟨SqT.of (sH _ _ ha),e⟩) ?_ ?_
 ·rintro i x σ zs H' hi ⟨sH,eD,rfl,u0,rfl⟩;obtain⟨n,gn,rfl⟩:=wQ hi;have hil:=(List.getElem?_eq_some_iff.mp gn).1;have len:(((ns.take i).map λn=>decide (-m<=n)&&decide (n<=m)).map V.bl).length<sizeLine:=zJ (by rw[List.length_map,List.length_map,List.length_take]; lia);have fin:∀ b:Bool,b=(decide (-m<=n)&&decide (n<=m))->((ns.take i).map λn=>decide (-m<=n)&&decide (n<=m)).map V.bl++[V.bl b]=((ns.take (i+1)).map λn=>decide (-m<=n)&&decide (n<=m)).map V.bl:=λb e=>by
   rw[List.take_succ,gn,e,List.map_append,List.map_append];rfl
  exists _,rfl,_,rfl,_,rfl,_,_,rfl,rfl,_,rfl;refine ite2 (λh1=>?_) (λh1=>?_)
  ·exact⟨_,rfl,_,_,rfl,rfl,eD,len,sH.putNew hD,zA,fin _ (by rw[h1,Bool.true_and]),_,rfl⟩
  ·exact⟨eD,len,sH.putNew hD,zA,fin _ (by rw[eq_false_of_ne_true h1,Bool.false_and]),_,rfl⟩
 ·rintro σ zs H' ⟨sH,eD,rfl,u0,rfl⟩;exists D,_,rfl,SqL.of eD;have r:=q _ sH;rw[List.length_map,List.take_length,List.all_map];exact r
def sU(K:PySem.W.Frag):Sp:=λvs H Q _=>∃ x:Str,vs=[.str x]/\zCd x/\∀ H',Same H H'->Q .non H'
theorem zOy(a c:Nat):(!decide ((⟨#[c]⟩:Str).cps.toList<(⟨#[a]⟩:Str).cps.toList))=decide (a<=c):=by
 have e:([c]<[a])↔c<a:=by
  rw[List.cons_lt_cons_iff];simp
 show(!decide ([c]<[a]))=_;by_cases h:c<a
 ·rw[decide_eq_true (e.mpr h),decide_eq_false (by lia)];rfl
 ·rw[decide_eq_false (λz=>h (e.mp z)),decide_eq_true (by lia)];rfl
theorem zC6(F:Fun K "check_name" "check_name" uC f fd)(Z:Zs mg)(CB:Cb P w mg base)  : yP P w K mg base CX0 1 f fd ["name"] (sU K):=by
 specialize zB5
 ·obtain⟨x,rfl,_⟩:=h;rfl
 obtain⟨x,rfl,⟨h1,h8,hc⟩,q⟩:=h;exists _,(zD (yY (PW.pt (zI8 (yT zQz (yB zAz rfl Z.len qF (zF (pv 0) zL)) wA (yV _)) (zI8 (yT zM7 (yB zAz rfl Z.len qF (zF (pv 0) zL)) (zIn CB.LONGEST_NAME) (yV _)) (zFn (zDf (zCj (yB (sI rfl) rfl Z.all zGv (zF (wM (T:=["letter"]) (caps:=[]) ⟨rfl,by decide +kernel,by decide +kernel,rfl,True.intro⟩ rfl (zTe (pv 0)) (λ_=>(zFg (i:=0) (show(["letter"]:List Str).Nodup by decide +kernel) rfl (Or.inl rfl))) (λ_=>yW) (λ_=>(zIe zGk zGk zQ (pv 0) zQ))) zL)))))))) (zD uO) yE))
 try dsimp only[L2.cxOf]
 have hz:x.length<=sizeLine:=Nat.le_trans h8 (by decide);exists _,rfl,x,rfl,hz,_,_,rfl,rfl,_,rfl;refine ifD (λz=>absurd z (by lia)) (λ_=>?_);exists _,rfl,x,rfl,hz,_,_,rfl,rfl,_,rfl;refine ifD (λz=>absurd z (by lia)) (λ_=>?_);have asc:x.cps.all (· < 128)=true:=by
  rw[Array.all_eq_true'];intro c hm;have:=hc c (Array.mem_toList_iff.mpr hm);exact decide_eq_true (by lia)
 refine⟨_,rfl,x,rfl,asc,λc D hD=>?_⟩;refine zPe (xs:=zFr x) (λi σ zs H'=>Same H H'/\H' D=some (.lst zs)/\zs=(List.replicate i true).map V.bl/\i<=x.length/\∃ u0:Option V,σ=[u0])
  ⟨zC hD _,zA,rfl,Nat.zero_le _,none,rfl⟩ (λi σ zs H' ⟨_,e,_⟩=>⟨True.intro,e⟩) ?_ ?_
 ·rintro i v σ zs H' hi ⟨sH,eD,rfl,hi8,u0,rfl⟩;unfold zFr at hi;rw[List.getElem?_map,Option.map_eq_some_iff] at hi;obtain⟨n,gn,rfl⟩:=hi;have hn:=hc n (List.mem_of_getElem? gn);have hil:i<x.length:=by
   have:=(List.getElem?_eq_some_iff.mp gn).1;rw[Array.length_toList] at this;exact this
  exists _,rfl,_,_,rfl,rfl,_,rfl;rw[show(!decide (((⟨#[n]⟩:Str).cps.toList)<(("a" : Str).cps.toList)))=true from(zOy 97 n).trans (decide_eq_true hn.1)];refine zFh ?_;refine⟨_,_,rfl,rfl,eD,zJ (by rw[List.length_map,List.length_replicate]; lia),sH.putNew hD,zA,?_,hil,_,rfl⟩;rw[show(!decide ((("z" : Str).cps.toList)<((⟨#[n]⟩:Str).cps.toList)))=true from(zOy n 122).trans (decide_eq_true hn.2),List.replicate_succ',List.map_append];rfl
 ·rintro σ zs H' ⟨sH,eD,rfl,_,u0,rfl⟩;exists D,_,rfl,SqL.of eD,_,rfl;rw[show(List.replicate (zFr x).length true).all id=true from by simp];refine rF ?_;exact q _ sH
def sT(K:PySem.W.Frag):Sp:=λvs H Q _=>∃(d a:Addr)(kind:Str)(n:Str)(kvs ms:List (Key×V)),vs=[.ref d,.str kind,.str n]/\Rd H d (.dK kvs)/\vA kvs (.inr kind)=some (.ref a)/\Rd H a (.dK ms)/\vA ms (.inr n)=none/\Q .non H
theorem zB6(F:Fun K "check_free" "check_free" uB f fd)(Z:Zs mg)(CB:Cb P w mg base)  : yP P w K mg base CX0 1 f fd ["state", "kind", "name"] (sT K):=by
 specialize zCg
 ·obtain⟨d,a,kind,n,kvs,ms,rfl,_⟩:=h;rfl
 obtain⟨d,a,kind,n,kvs,ms,rfl,hd,ea,ha,en,q⟩:=h;exists _,(zD (yY (zO1 (zTa (zW hr) (pv 2) (zN (zW hr) (pv 0) (pv 1) (λ_ _=>rfl))) (by with_unfolding_all rfl)) (zD uO) yE))
 try dsimp only[L2.cxOf]
 exists _,rfl,_,rfl,_,rfl,d,.ref a,rfl,.inl ⟨kvs,.inr kind,hd,rfl,ea.symm⟩,a,_,rfl,.inl ⟨ms,.inr n,ha,rfl,rfl⟩,_,rfl;rw[en];exact rF q
def tX(K:PySem.W.Frag):Sp:=λvs H Q _=>∃(a:Addr)(x y:Int),vs=[.ref a]/\H a=some (.tup [.int x,.int y])/\zG8 (x,y)/\∀ H',Same H H'->Q .non H'
theorem zLa{x y:Int}(h:zG8 (x,y)):zF7 [x,y] 1000=true:=by
 obtain⟨h1,h2,h3,h4⟩:=h;simp only[zF7,List.all_cons,List.all_nil,Bool.and_true,Bool.and_eq_true,decide_eq_true_eq];exact⟨⟨h1,h2⟩,h3,h4⟩
theorem zA3(F:Fun K "check_place" "check_place" wI f fd)(Z:Zs mg)(CB:Cb P w mg base)(yBi:Has P w K mg base "within" 1 ["numbers", "most"] (tH K)):yP P w K mg base CX0 2 f fd ["place"] (tX K):=by
 specialize zA6
 ·obtain⟨a,x,y,rfl,_⟩:=h;rfl
 obtain⟨a,x,y,rfl,ha,hn,q⟩:=h;exists _,(zD (yY (zDf (zCj (xT yBi (hr.mono (by decide)) rfl (zF (pv 0) (zF (zIn CB.FARTHEST) zL))))) (zD uO) yE))
 try dsimp only[L2.cxOf]
 refine⟨_,rfl,a,[x,y],1000,rfl,ha,(by show 2<=100; decide),λH' s'=>⟨_,rfl,?_⟩⟩;rw[zLa hn];exact rF (q H' s')
def rR(K:PySem.W.Frag):Sp:=λvs H Q _=>∃(a:Addr)(x y:Int),vs=[.ref a]/\H a=some (.tup [.int x,.int y])/\zG8 (x,y)/\∀ H',Same H H'->Q .non H'
theorem zDj(F:Fun K "check_run" "check_run" uR f fd)(Z:Zs mg)(CB:Cb P w mg base)(yBi:Has P w K mg base "within" 1 ["numbers", "most"] (tH K)):yP P w K mg base CX0 2 f fd ["run"] (rR K):=by
 specialize zDk
 ·obtain⟨a,x,y,rfl,_⟩:=h;rfl
 obtain⟨a,x,y,rfl,ha,hn,q⟩:=h;exists _,(zD (yY (zDf (zCj (xT yBi (hr.mono (by decide)) rfl (zF (pv 0) (zF (zIn CB.FARTHEST) zL))))) (zD uO) yE))
 try dsimp only[L2.cxOf]
 refine⟨_,rfl,a,[x,y],1000,rfl,ha,(by show 2<=100; decide),λH' s'=>⟨_,rfl,?_⟩⟩;rw[zLa hn];exact rF (q H' s')
def wL(K:PySem.W.Frag):Sp:=λvs H Q _=>∃(d a:Addr)(kind:Str)(kvs ms:List (Key×V))(mx:Int),vs=[.ref d,.str kind]/\Rd H d (.dK kvs)/\vA kvs (.inr kind)=some (.ref a)/\Rd H a (.dK ms)/\vA zSk (.inr kind)=some (.int mx)/\(ms.length:Int)<mx/\Q .non H
theorem zCn(F:Fun K "check_room" "check_room" wY f fd)(Z:Zs mg)(CB:Cb P w mg base)  : yP P w K mg base CX0 1 f fd ["state", "kind"] (wL K):=by
 specialize zC9
 ·obtain⟨d,a,kind,kvs,ms,mx,rfl,_⟩:=h;rfl
 obtain⟨d,a,kind,kvs,ms,mx,rfl,hd,ea,ha,em,hl,q⟩:=h;exists _,(zD (yY (yT zPu (yB qJ rfl Z.len qF (zF (zN (zW hr) (pv 0) (pv 1) (λ_ _=>rfl)) zL)) (zN8 CB.dMOST CB.gMOST (pv 1)) (yV _)) (zD uO) yE))
 try dsimp only[L2.cxOf]
 exists _,rfl,_,rfl,d,.ref a,rfl,.inl ⟨kvs,.inr kind,hd,rfl,ea.symm⟩,a,ms,rfl,ha,_,rfl,.inr kind,.int mx,rfl,em,_,_,rfl,rfl,_,rfl;exact ifD (λz=>absurd z (by lia)) (λ_=>q)
def uX(K:PySem.W.Frag):Sp:=λvs H Q _=>∃(d m b r n:Addr)(S:BS)(x:Str),vs=[.ref d,.str x]/\StA H d m b r n S/\(zZ S x).isSome=true/\Q .non H
theorem zCz(F:Fun K "check_mark" "check_mark" wX f fd)(Z:Zs mg)(CB:Cb P w mg base)  : yP P w K mg base CX0 1 f fd ["state", "name"] (uX K):=by
 specialize zB7
 ·obtain⟨d,m,b,r,n,S,x,rfl,_⟩:=h;rfl
 obtain⟨d,m,b,r,n,S,x,rfl,st,hx,q⟩:=h;obtain⟨kvs,hm,kv⟩:=st.ma;exists _,(zD (yY (zO1 (zLz (zW hr) (pv 1) (zN (zW hr) (pv 0) zQ (λ_ _=>rfl))) (by with_unfolding_all rfl)) (zD uO) yE))
 try dsimp only[L2.cxOf]
 exists _,rfl,_,rfl,d,.ref m,rfl,.inl ⟨_,.inr "marks", st.at_,rfl,tT.symm⟩,m,_,rfl,.inl ⟨kvs,.inr x,hm,rfl,rfl⟩,_,rfl;rw[kv.isSome,zB9,Option.isSome_map,hx];exact rF q
def zTl(n:Nat)(m:Int):Prop:=(m<0\/(n:Int)<m)/\m.natAbs.log2<1920
def yO(K:PySem.W.Frag):Sp:=λvs H Q E=>∃(a:Addr)(m:Int)(n:Nat),vs=[.int m,.ref a]/\((∃ xs,SqL K H a xs/\xs.length=n)\/∃ kvs,Rd H a (.dK kvs)/\kvs.length=n)/\((0<=m/\m<=n/\Q .non H)\/(zTl n m/\E (.ref zO) none H))
theorem zAj(F:Fun K "check_moment" "check_moment" xS f fd)(Z:Zs mg)(CB:Cb P w mg base)  : yP P w K mg base (CX1 P w) 1 f fd ["moment", "runs"] (yO K):=by
 refine F.okX zAd (λvs H Q E h=>?_) (λcdv A outer s H vs Q E hr h=>?_)
 ·obtain⟨a,m,n,rfl,_⟩:=h;rfl
 obtain⟨a,m,n,rfl,ha,q⟩:=h
 refine'⟨_,(zD (yY (PW.pt (zI8 ?_ (zFn (yT zM7 (pv 0) (yB (wR.or vP qJ) rfl Z.len qF (zF (pv 1) zL)) (yV _))))) (zD (zN5 (λ_=>E) CB.e_NoMoment PySem.F.excBase_ValueError (by decide) PySem.F.excBase_ValueError zNi (zF (zO9 (zSc (zS2 (pv 0) zR6))) zL))) yE)),?_⟩
 nofun
 exists _,rfl,_,_,rfl,rfl,_,rfl;have go:¬ (0<=m/\m<=n)->zTc (zR3 (zQ7 0) zS4) [some (.int m),some (.ref a)] H (λv H1=>1<=sizeLine/\E (.ref zO) none H1):=λz=>by
  rcases q with ⟨h0,hm,_⟩ | ⟨⟨_,sm⟩,q⟩
  ·exact absurd ⟨h0,hm⟩ z
  ·exact⟨_,rfl,.inl ⟨m,rfl,sm⟩,λx _=>⟨by decide,q⟩⟩
 refine ifD (λz=>?_) (λz=>?_)
 ·refine zFh ?_;exact go (λy=>absurd y.1 (by lia))
 exists _,rfl,_,rfl;rcases ha with ⟨xs,hx,rfl⟩ | ⟨kvs,hx,rfl⟩
 ·refine .inl ⟨a,xs,rfl,.inl hx,_,_,rfl,rfl,_,rfl,?_⟩;refine ifD (λy=>go (λy=>absurd y.2 (by lia))) (λy=>?_);rcases q with ⟨_,_,q⟩ | ⟨⟨o,_⟩,_⟩
  ·exact q
  ·exact absurd o (by lia)
 ·refine .inr ⟨a,kvs,rfl,hx,_,_,rfl,rfl,_,rfl,?_⟩;refine ifD (λy=>go (λy=>absurd y.2 (by lia))) (λy=>?_);rcases q with ⟨_,_,q⟩ | ⟨⟨o,_⟩,_⟩
  ·exact q
  ·exact absurd o (by lia)
def rS(K:PySem.W.Frag):Sp:=λvs H Q _=>∃(a:Addr)(x y:Int),vs=[.ref a]/\H a=some (.tup [.int x,.int y])/\zA9 (x,y)/\∀ H',Same H H'->Q .non H'
theorem zRb{x y:Int}(h:zA9 (x,y)):zF7 [x,y] 100=true:=by
 obtain⟨_,h1,h2,h3,h4⟩:=h;simp only[zF7,List.all_cons,List.all_nil,Bool.and_true,Bool.and_eq_true,decide_eq_true_eq];exact⟨⟨h1,h2⟩,h3,h4⟩
theorem zDm(F:Fun K "check_way" "check_way" uN f fd)(Z:Zs mg)(CB:Cb P w mg base)(yBi:Has P w K mg base "within" 1 ["numbers", "most"] (tH K)):yP P w K mg base CX0 2 f fd ["direction"] (rS K):=by
 specialize zDl
 ·obtain⟨a,x,y,rfl,_⟩:=h;rfl
 obtain⟨a,x,y,rfl,ha,hn,q⟩:=h
 refine'⟨_,(zD (yY (PW.pt (zI8 (yT (zKq hr.units0) (pv 0) ?_ (yV _)) (zFn (zDf (zCj (xT yBi (hr.mono (by decide)) rfl (zF (pv 0) (zF (zIn CB.LONGEST_WAY) zL)))))))) (zD uO) yE)),?_⟩
 nofun
 refine⟨_,rfl,sz2,λp hp=>?_⟩;have sp:=zC hp (.tup [.int 0,.int 0]);have ha':=sp _ _ ha;exists a,p,[x,y],[0,0],rfl,rfl,SqT.of ha',SqT.of zA,_,rfl;refine ifD (λz=>absurd (show(x,y)=(0,0) by simp at z; rw[z.1,z.2]) hn.1) (λ_=>?_);refine⟨_,rfl,a,[x,y],100,rfl,ha',(by show 2<=100; decide),λH' s'=>⟨_,rfl,?_⟩⟩;rw[zRb hn];exact rF (q H' (sp.trans s'))
def tZ(K:PySem.W.Frag):Sp:=λvs H Q _=>∃(d m b r n:Addr)(S:BS)(x y:Str)(p u:Int×Int),vs=[.ref d,.str x,.str y]/\StA H d m b r n S/\zZ S x=some p/\zZ S y=some u/\p≠u/\Q .non H
theorem zA8(F:Fun K "check_apart" "check_apart" wG f fd)(Z:Zs mg)(CB:Cb P w mg base)  : yP P w K mg base CX0 1 f fd ["state", "left", "right"] (tZ K):=by
 specialize zBi
 ·obtain⟨d,m,b,r,n,S,x,y,p,u,rfl,_⟩:=h;rfl
 obtain⟨d,m,b,r,n,S,x,y,p,u,rfl,st,ex,ey,ne,q⟩:=h;obtain⟨kvs,hm,kv⟩:=st.ma;obtain⟨v1,g1,r1⟩:=kv.get (k:=.inr x) (d:=ptD p) (by rw[zB9,ex]; rfl);obtain⟨v2,g2,r2⟩:=kv.get (k:=.inr y) (d:=ptD u) (by rw[zB9,ey]; rfl);obtain⟨a1,rfl,h1⟩:=zCt r1;obtain⟨a2,rfl,h2⟩:=zCt r2;exists _,(zD (yY (yT (zKq hr.units0) (zN (zW hr) (zN (zW hr) (pv 0) zQ (λ_ _=>rfl)) (pv 1) (λ_ _=>rfl)) (zN (zW hr) (zN (zW hr) (pv 0) zQ (λ_ _=>rfl)) (pv 2) (λ_ _=>rfl)) (yV _)) (zD uO) yE))
 try dsimp only[L2.cxOf]
 refine⟨_,rfl,d,.ref m,rfl,.inl ⟨_,.inr "marks", st.at_,rfl,tT.symm⟩,_,rfl,m,_,rfl,.inl ⟨kvs,.inr x,hm,rfl,g1.symm⟩,_,rfl,d,.ref m,rfl,.inl ⟨_,.inr "marks", st.at_,rfl,tT.symm⟩,_,rfl,m,_,rfl,.inl ⟨kvs,.inr y,hm,rfl,g2.symm⟩,
  a1,a2,[p.1,p.2],[u.1,u.2],rfl,rfl,SqT.of h1,SqT.of h2,_,rfl,?_⟩
 exact ifD (λz=>absurd (show p=u by simp at z; exact Prod.ext z.1 z.2) ne) (λ_=>q)
def vI(_:PySem.W.Frag):Sp:=zKr λD=>∃ n x y,D=.mark n x y
theorem zCo(F:Fun K "after_mark" "after_mark" wW f fd)(Z:Zs mg)(CB:Cb P w mg base)(yBc:Has P w K mg base "changed" 1 ["state", "kind", "key", "value"] (vT K))(yAs:Has P w K mg base "check_room" 1 ["state", "kind"] (wL K))(yAl:Has P w K mg base "check_place" 2 ["place"] (tX K))(yAn:Has P w K mg base "check_free" 1 ["state", "kind", "name"] (sT K))(yAq:Has P w K mg base "check_name" 1 ["name"] (sU K)):yP P w K mg base CX0 3 f fd ["state", "row"] (vI K):=by
 specialize vG
 ·obtain⟨d,v,S,D,rfl,_⟩:=h;rfl
 obtain⟨d,v,S,D,rfl,⟨n,x,y,rfl⟩,⟨m,b,r,t,st⟩,hv,⟨k1,k2,k3,k4⟩,few,_,q⟩:=h;obtain⟨a,rfl,ha⟩:=zH3 hv
 refine'⟨_,(zB (zV 2 vG.nd ?_)
   (zB (zV 3 vG.nd ?_)
   (zB (zU ?_)
   (zB (zU ?_)
   (zB (zU ?_)
   (zB (zU ?_)
   (zD (zS ?_)))))))),?_⟩
 nofun
 exists _,rfl,a,_,_,.str n,rfl,rfl,.inr (SqT.of ha),rfl;refine⟨_,rfl,a,_,_,.int x,rfl,rfl,.inr (SqT.of ha),rfl,_,rfl,a,_,_,.int y,rfl,rfl,.inr (SqT.of ha),rfl,sz2,λp hp=>?_⟩;have s1:=zC hp (.tup [.int x,.int y]);refine⟨_,rfl,n,rfl,k1,λH2 s2=>?_⟩;have s12:=s1.trans s2;have st2:=st.to (.of s12);obtain⟨kvs,hm,kv⟩:=st2.ma;exists _,rfl,_,rfl,d,m, "marks", n,_,kvs,rfl,st2.at_,tT,hm,kv.none (by rw[zB9,k2]; rfl);refine⟨_,rfl,p,x,y,rfl,s2 _ _ zA,k3,λH3 s3=>?_⟩;have s13:=s12.trans s3;have st3:=st.to (.of s13);have hm3:=Rd.same hm s3;refine⟨_,rfl,d,m, "marks", _,kvs,20,rfl,st3.at_,tT,hm3,(by kernel_rfl),by rw[kv.length,zE4]; lia,?_⟩;refine⟨_,rfl,_,rfl,_,rfl,d,m, "marks", .inr n,.ref p,_,kvs,rfl,st3.at_,tT,hm3,StA.stKlen,kv.le (by rw[zE4]; lia),λf c H4 s4 hf _ ef ec=>?_⟩;have s14:=s13.trans s4;have st4:=st.to (.of s14);rw[zK5] at ef;refine q f H4 (.of s14) (s13.free hf) ⟨c,b,r,t,.inl ef,⟨_,.inl ec,?_⟩,st4.ba,st4.ru,st4.no⟩;show xX H4 _ (mkE (S.marks++[(n,x,y)]));rw[zHt,<- tK (zE0 k2)];exact(kv.to (.of (s3.trans s4))).put (qK ((s2.trans (s3.trans s4)) _ _ zA))
def uY(_:PySem.W.Frag):Sp:=zKr λD=>∃ x y,D=.sail x y
theorem zC8(F:Fun K "after_sail" "after_sail" uA f fd)(Z:Zs mg)(CB:Cb P w mg base)(yBc:Has P w K mg base "changed" 1 ["state", "kind", "key", "value"] (vT K))(yAs:Has P w K mg base "check_room" 1 ["state", "kind"] (wL K))(yAy:Has P w K mg base "check_run" 2 ["run"] (rR K)):yP P w K mg base CX0 3 f fd ["state", "row"] (uY K):=by
 specialize sX
 ·obtain⟨d,v,S,D,rfl,_⟩:=h;rfl
 obtain⟨d,v,S,D,rfl,⟨x,y,rfl⟩,⟨m,b,r,t,st⟩,hv,⟨k1,k2⟩,few,_,q⟩:=h;obtain⟨a,rfl,ha⟩:=zH5 hv
 refine'⟨_,(zB (zV 2 sX.nd ?_)
   (zB (zU ?_)
   (zB (zU ?_)
   (zD (zS (xT yBc (hr.mono (by decide)) rfl (zF (pv 0) (zF zQ (zF (yB qJ rfl Z.len qF (zF (zN (zW hr) (pv 0) zQ (λ_ _=>rfl)) zL)) (zF (pv 2) zL)))))))))),?_⟩
 nofun
 refine⟨_,rfl,a,_,_,.int x,rfl,rfl,.inr (SqT.of ha),rfl,_,rfl,a,_,_,.int y,rfl,rfl,.inr (SqT.of ha),rfl,sz2,λp hp=>?_⟩;have s1:=zC hp (.tup [.int x,.int y]);refine⟨_,rfl,p,x,y,rfl,zA,k1,λH2 s2=>?_⟩;have s12:=s1.trans s2;have st2:=st.to (.of s12);obtain⟨kvs,hm,kv⟩:=st2.ru;have ln:kvs.length=S.runs.length:=by rw[kv.length,zE7]
 refine⟨_,rfl,d,r, "runs", _,kvs,12,rfl,st2.at_,zAl,hm,(by kernel_rfl),by lia,?_⟩;refine⟨_,rfl,_,rfl,d,.ref r,rfl,.inl ⟨_,.inr "runs", st2.at_,rfl,zAl.symm⟩,r,kvs,rfl,hm,_,rfl,d,r, "runs", .inl (kvs.length:Int),.ref p,_,kvs,rfl,st2.at_,zAl,hm,StA.stKlen,by lia,λf c H4 s4 hf _ ef ec=>?_⟩;have s14:=s12.trans s4;have st4:=st.to (.of s14);rw[zMk] at ef;refine q f H4 (.of s14) (s12.free hf) ⟨m,b,c,t,.inl ef,st4.ma,st4.ba,⟨_,.inl ec,?_⟩,st4.no⟩;show xX H4 _ (rnE (S.runs++[(x,y)]));rw[zQd,<- tK zM4,<- ln];exact(kv.to (.of s4)).put (qK ((s2.trans s4) _ _ zA))
def vC(_:PySem.W.Frag):Sp:=λvs H Q _=>∃(d:Addr)(v:V)(S:BS)(D:Deed),vs=[.ref d,v]/\zH8 H d S/\Rep H D.dt v/\S.notes.length<24/\zJ2 S /\
 ∀(d':Addr)(H':Hp),Same H H'->H d'=none->zH8 H' d' { S with notes:=S.notes++[(S.coming,D)],coming:=S.coming+1 }->Q (.ref d') H'
theorem zCs(F:Fun K "after_note" "after_note" wS f fd)(Z:Zs mg)(CB:Cb P w mg base)(yBc:Has P w K mg base "changed" 1 ["state", "kind", "key", "value"] (vT K))(yAs:Has P w K mg base "check_room" 1 ["state", "kind"] (wL K)):yP P w K mg base CX0 2 f fd ["state", "row"] (vC K):=by
 specialize sV
 ·obtain⟨d,v,S,D,rfl,_⟩:=h;rfl
 obtain⟨d,v,S,D,rfl,⟨m,b,r,t,st⟩,hv,k1,fr,q⟩:=h;obtain⟨kvs,hm,kv⟩:=st.no;have ln:kvs.length=S.notes.length:=by rw[kv.length,zLe]
 refine'⟨_,(zB (zU ?_)
   (zB (zV 2 sV.nd (xT yBc (hr.mono (by decide)) rfl (zF (pv 0) (zF zQ (zF (zN (zW hr) (pv 0) zQ (λ_ _=>rfl)) (zF (pv 1) zL))))))
   (zB (vE (zW hr) (pv 2) zQ (sS zIx (zN (zW hr) (pv 0) zQ (λ_ _=>rfl)) wA) rfl)
   (zD (zS (pv 2)))))),?_⟩
 nofun
 refine⟨_,rfl,d,t, "notes", _,kvs,24,rfl,st.at_,zEi,hm,(by kernel_rfl),by lia,?_⟩;refine⟨_,rfl,_,rfl,d,.int S.coming,rfl,.inl ⟨_,.inr "coming", st.at_,rfl,zCx.symm⟩,_,rfl,d,t, "notes", .inl S.coming,v,_,kvs,rfl,st.at_,zEi,hm,StA.stKlen,by lia,λf c H2 s2 hf ne ef ec=>?_⟩;have st2:=st.to (.of s2);rw[zLk] at ef;exists _,rfl,d,.int S.coming,rfl,.inl ⟨_,.inr "coming", st2.at_,rfl,zCx.symm⟩,_,_,rfl,rfl,_,rfl,f,_,rfl,zG7.k (k:=.inr "coming") ef (zJ (Nat.le_trans StA.stKlen (by decide))),_,rfl;rw[zJd];have s3:Same H (upd H2 f (.dK (stK m b r c (S.coming+1)))):=s2.putNew hf;have st3:=st.to (.of s3);refine q f _ s3 hf ⟨m,b,r,c,.inl zA,st3.ma,st3.ba,st3.ru,⟨_,.inl (by rw[zG ne.symm]; exact ec),?_⟩⟩;rw[zHz,<- tK (zEn fr)];exact(kv.to (.of s3)).put (hv.to (.of s3))
def wJ(_:PySem.W.Frag):Sp:=zKr λD=>∃ m n a b c d,D=.bearing m n a b c d
theorem qP(F:Fun K "after_bearing" "after_bearing" xD f fd)(Z:Zs mg)(CB:Cb P w mg base)(yAt:Has P w K mg base "after_note" 2 ["state", "row"] (vC K))(yBt:Has P w K mg base "turn" 1 ["one", "other"] (qG K))(yAz:Has P w K mg base "check_way" 2 ["direction"] (rS K))(yAp:Has P w K mg base "check_mark" 1 ["state", "name"] (uX K))(yAd:zIj P w K mg base "check_moment" 1 ["moment", "runs"] (yO K)):yP P w K mg base CX0 3 f fd ["state", "row"] (wJ K):=by
 specialize qT
 ·obtain⟨d,v,S,D,rfl,_⟩:=h;rfl
 obtain⟨d,v,S,D,rfl,⟨mo,nm,x1,y1,x2,y2,rfl⟩,⟨m,b,r,t,st⟩,hv,⟨k1,k2,k3,k4,k5,k6,k7⟩,few,fr,q⟩:=h;obtain⟨a,p,u,rfl,ha,hp,hu⟩:=uU hv;obtain⟨rvs,hr1,kr⟩:=st.ru
 refine'⟨_,(zB (zU (yX (λ_=>E0) yAd zAh (hr.mono (by decide)) rfl (zF ?_ (zF (zN (zW hr) (pv 0) zQ (λ_ _=>rfl)) zL))))
   (zB (zU ?_)
   (zB (zU ?_)
   (zB (zU ?_)
   (zB (yY ?_ (zD uO) yE)
   (zD (zS ?_))))))),?_⟩
 nofun
 refine⟨_,rfl,a,_,_,.int mo,rfl,rfl,.inr (SqT.of ha),rfl,_,rfl,d,.ref r,rfl,.inl ⟨_,.inr "runs", st.at_,rfl,zAl.symm⟩,r,mo,S.runs.length,rfl,.inr ⟨rvs,hr1,by rw[kr.length,zE7]⟩,.inl ⟨k1,k2,?_⟩⟩;exists _,rfl,_,rfl,a,_,_,.str nm,rfl,rfl,.inr (SqT.of ha),rfl,d,m,b,r,t,S,nm,rfl,st,k3;refine⟨_,rfl,a,_,_,.ref p,rfl,rfl,.inr (SqT.of ha),rfl,p,x1,y1,rfl,hp,k4,λH2 s2=>?_⟩;have ha2:=s2 _ _ ha;refine⟨_,rfl,a,_,_,.ref u,rfl,rfl,.inr (SqT.of ha2),rfl,u,x2,y2,rfl,s2 _ _ hu,k5,λH3 s3=>?_⟩;have ha3:=s3 _ _ ha2;have s23:=s2.trans s3;obtain⟨_,b1,b2,b3,b4⟩:=k4;have n1:x1.natAbs<=10^18:=by simp at b1 b2; lia
 have n2:y1.natAbs<=10^18:=by simp at b3 b4; lia
 exists _,rfl,a,_,_,.ref p,rfl,rfl,.inr (SqT.of ha3),rfl,_,rfl,a,_,_,.ref u,rfl,rfl,.inr (SqT.of ha3),rfl,p,u,_,_,x1,y1,x2,y2,rfl,.inr (SqT.of (s23 _ _ hp)),.inr (SqT.of (s23 _ _ hu)),rfl,rfl,rfl,rfl,n1,n2,_,_,rfl,rfl,_,rfl;refine ifD (λz=>absurd z (by lia)) (λ_=>?_);refine⟨_,rfl,_,rfl,d,.ref a,S,.bearing mo nm x1 y1 x2 y2,rfl,⟨m,b,r,t,st.to (.of s23)⟩,hv.to (.of s23),k7,fr,λd' H4 s4 hd' st4=>q d' H4 (.of (s23.trans s4)) (s23.free hd') st4⟩
def uJ(_:PySem.W.Frag):Sp:=zKr λD=>∃ m l r,D=.range m l r
theorem zA7(F:Fun K "after_range" "after_range" wF f fd)(Z:Zs mg)(CB:Cb P w mg base)(yAt:Has P w K mg base "after_note" 2 ["state", "row"] (vC K))(yAi:Has P w K mg base "check_apart" 1 ["state", "left", "right"] (tZ K))(yAp:Has P w K mg base "check_mark" 1 ["state", "name"] (uX K))(yAd:zIj P w K mg base "check_moment" 1 ["moment", "runs"] (yO K)):yP P w K mg base CX0 3 f fd ["state", "row"] (uJ K):=by
 specialize zBa
 ·obtain⟨d,v,S,D,rfl,_⟩:=h;rfl
 obtain⟨d,v,S,D,rfl,⟨mo,l1,l2,rfl⟩,⟨m,b,r,t,st⟩,hv,⟨k1,k2,k3,k4,k5,k6⟩,few,fr,q⟩:=h;obtain⟨a,rfl,ha⟩:=rM hv;obtain⟨rvs,hr1,kr⟩:=st.ru;obtain⟨p1,e1⟩:=Option.isSome_iff_exists.mp k3;obtain⟨p2,e2⟩:=Option.isSome_iff_exists.mp k4;have at1:Sq K H a _:=.inr (SqT.of ha)
 refine'⟨_,(zB (zU (yX (λ_=>E0) yAd zAh (hr.mono (by decide)) rfl (zF ?_ (zF (zN (zW hr) (pv 0) zQ (λ_ _=>rfl)) zL))))
   (zB (zU ?_)
   (zB (zU ?_)
   (zB (zU ?_)
   (zD (zS ?_)))))),?_⟩
 nofun
 refine⟨_,rfl,a,_,_,.int mo,rfl,rfl,at1,rfl,_,rfl,d,.ref r,rfl,.inl ⟨_,.inr "runs", st.at_,rfl,zAl.symm⟩,r,mo,S.runs.length,rfl,.inr ⟨rvs,hr1,by rw[kr.length,zE7]⟩,.inl ⟨k1,k2,?_⟩⟩;exists _,rfl,_,rfl,a,_,_,.str l1,rfl,rfl,at1,rfl,d,m,b,r,t,S,l1,rfl,st,k3;exists _,rfl,_,rfl,a,_,_,.str l2,rfl,rfl,at1,rfl,d,m,b,r,t,S,l2,rfl,st,k4;exists _,rfl,_,rfl,a,_,_,.str l1,rfl,rfl,at1,rfl,_,rfl,a,_,_,.str l2,rfl,rfl,at1,rfl,d,m,b,r,t,S,l1,l2,p1,p2,rfl,st,e1,e2,λz=>k5 (by rw[e1,e2,z]);refine⟨_,rfl,_,rfl,d,.ref a,S,.range mo l1 l2,rfl,⟨m,b,r,t,st⟩,hv,k6,fr,λd' H4 s4 hd' st4=>q d' H4 (.of s4) hd' st4⟩
def zO6:Deed->Prop
 | .mark .. | .sail .. | .bearing .. | .range ..=>True
 | _=>False
def zEb(_:PySem.W.Frag):Sp:=zKr zO6
def tabL:List (Key×Sp):=[(.inr "mark", vI []),(.inr "sail", uY []),(.inr "bearing", wJ []),(.inr "range", uJ [])]
theorem zJ1(F:Fun K "after" "after" qR f fd)(Z:Zs mg)(CB:Cb P w mg base)(yAr:Has P w K mg base "after_mark" 3 ["state", "row"] (vI K))(yAv:Has P w K mg base "after_sail" 3 ["state", "row"] (uY K))(yAc:Has P w K mg base "after_bearing" 3 ["state", "row"] (wJ K))(yAh:Has P w K mg base "after_range" 3 ["state", "row"] (uJ K)):yP P w K mg base CX0 4 f fd ["state", "row"] (zEb K):=by
 specialize zJe
 ·obtain⟨d,v,S,D,rfl,_⟩:=h;rfl
 obtain⟨d,v,S,D,rfl,kd,st,hv,ok,few,fr,q⟩:=h;have tabs:∀ r∈tabL,zRm P w K mg base 3 zOz r.1 r.2:=by
  intro r hr;simp only[tabL,List.mem_cons,List.not_mem_nil,or_false] at hr;rcases hr with rfl | rfl | rfl | rfl
  ·exact⟨"after_mark", _,_,_,by kernel_rfl,CB.t_mark,yAr,by decide⟩
  ·exact⟨"after_sail", _,_,_,by kernel_rfl,CB.t_sail,yAv,by decide⟩
  ·exact⟨"after_bearing", _,_,_,by kernel_rfl,CB.t_bearing,yAc,by decide⟩
  ·exact⟨"after_range", _,_,_,by kernel_rfl,CB.t_range,yAh,by decide⟩
 refine'⟨_,(zD (zS (zRy CB.dAFTER CB.gAFTER tabs (hr.mono (by decide)) ?_ (zF (pv 0) (zF (pv 1) zL))))),?_⟩
 nofun
 cases D with
 | mark n x y =>
  obtain⟨a,rfl,ha⟩:=zH3 hv;exact⟨_,rfl,a,_,_,.str "mark", rfl,rfl,.inr (SqT.of ha),rfl,.inr "mark", _,rfl,.head _,_,rfl,_,rfl,d,.ref a,S,_,rfl,⟨n,x,y,rfl⟩,st,hv,ok,few,fr,q⟩
 | sail x y =>
  obtain⟨a,rfl,ha⟩:=zH5 hv;exact⟨_,rfl,a,_,_,.str "sail", rfl,rfl,.inr (SqT.of ha),rfl,.inr "sail", _,rfl,.tail _ (.head _),_,rfl,_,rfl,d,.ref a,S,_,rfl,⟨x,y,rfl⟩,st,hv,ok,few,fr,q⟩
 | bearing m n x y z t =>
  obtain⟨a,p,u,rfl,ha,_⟩:=uU hv;exact⟨_,rfl,a,_,_,.str "bearing", rfl,rfl,.inr (SqT.of ha),rfl,.inr "bearing", _,rfl,.tail _ (.tail _ (.head _)),_,rfl,_,rfl,d,.ref a,S,_,rfl,⟨_,_,_,_,_,_,rfl⟩,st,hv,ok,few,fr,q⟩
 | range m n k =>
  obtain⟨a,rfl,ha⟩:=rM hv;exact⟨_,rfl,a,_,_,.str "range", rfl,rfl,.inr (SqT.of ha),rfl,.inr "range", _,rfl,.tail _ (.tail _ (.tail _ (.head _))),_,rfl,_,rfl,d,.ref a,S,_,rfl,⟨_,_,_,rfl⟩,st,hv,ok,few,fr,q⟩
 | move | unmark | bank | level | right | strike=>exact kd.elim
def zAa(_:PySem.W.Frag):Sp:=λvs H Q _=>∃(d:Addr)(v:V)(S:BS)(D:Deed),vs=[v,.ref d]/\Rep H D.dt v/\qQ H d S/\zA4 S D/\(∀ e∈S.marks,zG8 e.2) /\
 ∀(l:Addr)(as:List Addr)(H':Hp),Same H H'->H' l=some (.lst (as.map V.ref))->yD H' as (uK S D)->Q (.ref l) H'
theorem zE2(F:Fun K "sides_of" "sides_of" vO f fd)(Z:Zs mg)(CB:Cb P w mg base)(yAw:Has P w K mg base "range_side" 4 ["left", "right"] (rA K))(yAb:Has P w K mg base "bearing_sides" 4 ["place", "one", "other"] (vR K)):yP P w K mg base CX0 5 f fd ["note", "places"] (zAa K):=by
 specialize zEo
 ·obtain⟨d,v,S,D,rfl,_⟩:=h;rfl
 obtain⟨d,v,S,D,rfl,rep,⟨kvs,hd,pl⟩,kn,nr,q⟩:=h
 refine'⟨_,(zB (yY ?_ (zD (zS (xT yAb (hr.mono (by decide)) rfl (zF (zN (zW hr) (pv 1) ?_ (λ_ _=>rfl)) (zF ?_ (zF ?_ zL)))))) yE)
   (zD (zS (zL7 (zF (xT yAw (hr.mono (by decide)) rfl (zF (zN (zW hr) (pv 1) ?_ (λ_ _=>rfl)) (zF (zN (zW hr) (pv 1) ?_ (λ_ _=>rfl)) zL))) zL))))),?_⟩
 nofun
 match D,rep,kn,q with
 | .bearing m n a b c e,rep,kn,q =>
  obtain⟨t,p1,p2,rfl,ht,h1,h2⟩:=uU rep;obtain⟨_,_,hn,w1,w2⟩:=kn;obtain⟨pt,hpt⟩:=Option.isSome_iff_exists.mp hn;obtain⟨pa,g1,g2⟩:=pl n pt hpt;obtain⟨n1,n2,n3,n4⟩:=uE nr hpt;exists _,rfl,t,_,0,.str "bearing", rfl,rfl,.inr (SqT.of ht),rfl,rfl,_,rfl;refine zFh ?_;have tq:Sq K H t _:=.inr (SqT.of ht);exists _,rfl,_,rfl,t,_,2,.str n,rfl,rfl,tq,rfl,d,.ref pa,rfl,.inl ⟨kvs,.inr n,hd,rfl,g1.symm⟩,_,rfl,t,_,3,.ref p1,rfl,rfl,tq,rfl,_,rfl,t,_,4,.ref p2,rfl,rfl,tq,rfl;obtain⟨w10,w11,w12,w13,w14⟩:=w1;obtain⟨w20,w21,w22,w23,w24⟩:=w2;refine⟨pa,p1,p2,pt.1,pt.2,a,b,c,e,rfl,SqT.of g2,SqT.of h1,SqT.of h2,(by lia),(by lia),(by dsimp only at *; lia),(by dsimp only at *; lia),(by dsimp only at *; lia),(by dsimp only at *; lia),?_,?_,λl p' q' H' sH e1 e2 e3=>?_⟩
  ·rcases Decidable.em (a=0) with z | z
   ·exact .inr λz'=>w10 (by rw[z,z'])
   ·exact .inl z
  ·rcases Decidable.em (c=0) with z | z
   ·exact .inr λz'=>w20 (by rw[z,z'])
   ·exact .inl z
  ·refine q l [p',q'] H' sH e1 ?_;show yD H' ([p']++[q']) ([_]++[_]);rw[xZ hpt];exact(yD.one e2).app (.one e3)
 | .range m l r,rep,kn,q =>
  obtain⟨t,rfl,ht⟩:=rM rep;obtain⟨_,_,hl,hr',ne⟩:=kn;obtain⟨pt,hpt⟩:=Option.isSome_iff_exists.mp hl;obtain⟨pu,hpu⟩:=Option.isSome_iff_exists.mp hr';obtain⟨pa,g1,g2⟩:=pl l pt hpt;obtain⟨pb,g3,g4⟩:=pl r pu hpu;obtain⟨n1,n2,n3,n4⟩:=uE nr hpt;obtain⟨n5,n6,n7,n8⟩:=uE nr hpu;exists _,rfl,t,_,0,.str "range", rfl,rfl,.inr (SqT.of ht),rfl,rfl,_,rfl;refine rF ?_;have tq:Sq K H t _:=.inr (SqT.of ht);exists _,rfl,_,rfl,t,_,2,.str l,rfl,rfl,tq,rfl,d,.ref pa,rfl,.inl ⟨kvs,.inr l,hd,rfl,g1.symm⟩,_,rfl,_,rfl,t,_,3,.str r,rfl,rfl,tq,rfl,d,.ref pb,rfl,.inl ⟨kvs,.inr r,hd,rfl,g3.symm⟩;refine⟨pa,pb,pt.1,pt.2,pu.1,pu.2,rfl,.inr (SqT.of g2),.inr (SqT.of g4),(by lia),(by lia),(by lia),(by lia),?_,λp' H' sH hp' e1=>⟨sz1,λL hL=>?_⟩⟩
  ·rcases Decidable.em (pt.2-pu.2=0) with z | z
   ·refine .inr λz'=>ne ?_;rw[hpt,hpu];exact congrArg some (Prod.ext (by lia) (by lia))
   ·exact .inl z
  ·have sL:=zC hL (.lst [.ref p']);refine q L [p'] _ (sH.trans sL) zA ?_;show yD _ [p'] [_];rw[xZ hpt,xZ hpu];exact(yD.one e1).to (.of sL)
def zDv(_:PySem.W.Frag):Sp:=λvs H Q _=>∃(n:Int),vs=[.int n]/\∀ v:Int,0<=v->v<1000003->Q (.int v) H
theorem zI3(F:Fun K "_law_power" "_law_power" qX f fd)(Z:Zs mg):yP P w K mg base CX0 1 f fd ["_law_number"] (zDv K):=by
 specialize zI0
 ·obtain⟨n,rfl,_⟩:=h;rfl
 obtain⟨n,rfl,q⟩:=h
 refine'⟨_,(zD (zS ?_)),?_⟩
 nofun
 have h1:=Int.emod_nonneg n (show(1000003:Int)≠0 by decide);have h2:=Int.emod_lt_of_pos n (show(0:Int)<1000003 by decide);exists _,rfl,_,_,rfl,rfl,(by show(0:Int)<1000003; decide),_,_,rfl,rfl,⟨by decide,by decide,by lia⟩,_,_,rfl,rfl,(by show(0:Int)<1000003; decide);exact q _ (Int.emod_nonneg _ (by decide)) (Int.emod_lt_of_pos _ (by decide))
def zDu(K:PySem.W.Frag):Sp:=λvs H Q _=>∃(a:Addr)(ns:List Int)(many:Int),vs=[.ref a,.int many]/\SqL K H a (ns.map V.int)/\ns.length<=63/\0<=many/\many<=500 /\
 ∀(r:Addr)(rows:List Int)(H':Hp),Same H H'->H r=none->H' r=some (.lst (rows.map V.int))->many<=rows.length->rows.length<=600->(∀ x∈rows,0<=x/\x<1000003)->Q (.ref r) H'
structure zDa(H:Hp)(r c:Addr)(ms:List Int)(H':Hp)(rows:List Int):Prop where
 same:Same H H'
 src:H' c=some (.lst (ms.map V.int))
 at':H' r=some (.lst (rows.map V.int))
 bd:∀ x∈rows,0<=x/\x<1000003
theorem zDa.app{H H':Hp}{r c:Addr}{ms rows:List Int}{v:Int}(d:zDa H r c ms H' rows)(hr:H r=none)(hrc:c≠r)(h0:0<=v)(h1:v<1000003):zDa H r c ms (upd H' r (.lst (rows.map V.int++[.int v]))) (rows++[v]):=by
 refine⟨λb o e=>?_,?_,?_,λx hx=>?_⟩
 ·rw[zG (zH e hr)];exact d.same b o e
 ·rw[zG hrc];exact d.src
 ·rw[zA,List.map_append];rfl
 ·rcases List.mem_append.mp hx with e | e
  ·exact d.bd x e
  ·rw[List.mem_singleton] at e;rw[e];exact⟨h0,h1⟩
theorem cutR{ok:Int->Hp->Prop}{G:Prop}{R:Int->Hp->Prop}(h1:(∀ m H,ok m H->R m H)->G)(h2:∀ m H,ok m H->R m H):G:=h1 h2
theorem zJs(F:Fun K "_law_draws" "_law_draws" qV f fd)(Z:Zs mg)(CB:Cb P w mg base)(yBm:Has P w K mg base "_law_power" 1 ["_law_number"] (zDv K)):yP P w K mg base CX0 2 f fd ["_law_script", "_law_many"] (zDu K):=by
 specialize xG
 ·obtain⟨a,ns,many,rfl,_⟩:=h;rfl
 obtain⟨a,ns,many,rfl,hS,hl,hm0,hm1,q⟩:=h
 refine'⟨_,(zB (zV 2 xG.nd ?_)
   (zB (zV 3 xG.nd wA)
   (zB (wP PassesOwn.never rfl (zO4 ?_) (uL 4 xG.nd) (zB (zV 3 xG.nd ?_)
   (zB (zV 5 xG.nd ?_)
   (zB (yY ?_ (zB (zU (zAm (pv 2) ?_))
   (zD (zV 5 xG.nd wA))) yE)
   (zD (zBk PassesOwn.never ?_ (zB (zU (zAm (pv 2) ?_))
   (zD (zV 5 xG.nd ?_)))))))))
   (zB (zBk PassesOwn.never ?_ (zB (zV 3 xG.nd ?_)
   (zD (zU (zAm (pv 2) ?_)))))
   (zD (zS (pv 2))))))),?_⟩
 nofun
 refine⟨sz0,λr hr0=>?_⟩;have S1:=zC hr0 (.lst []);refine⟨_,rfl,_,rfl,a,_,rfl,S1.seq hS,λc hc=>⟨c,rfl,⟨_,SqL.of zA⟩,?_⟩⟩;rw[zDc];generalize hms:((ns.drop (HT.sIx ns.length 0 none)).take (HT.sIx ns.length ns.length (some 63)-HT.sIx ns.length 0 none))=ms;have hml:ms.length<=63:=by
  rw[<- hms,List.length_take,List.length_drop];lia
 have hcr:c≠r:=λe=>by
  rw[e,zA] at hc;cases hc
 have hc0:H c=none:=S1.free hc;refine uQ (K:=K) (a:=c) (xs:=ms.map V.int) (λi σ H'=>∃(rows:List Int)(mix:Int)(u v:Option V),σ=[some (.ref a),some (.int many),some (.ref r),some (.int mix),u,v]/\zDa H r c ms H' rows/\0<=mix/\mix<2147483647/\rows.length<=many.toNat+i)
  ⟨[],7,none,none,rfl,⟨S1.trans (zC hc _),zA,by rw[zG (Ne.symm hcr),zA]; rfl,λx hx=>nomatch hx⟩,by decide,by decide,Nat.zero_le _⟩ (λi σ H' _ ⟨_,_,_,_,_,d,_⟩=>SqL.of d.src) ?_ ?_
 ·rintro i x σ H' hi ⟨rows,mix,u,v,rfl,d,hx0,hx1,hrl⟩;obtain⟨n,hn,rfl⟩:=wQ hi;have hi63:i<63:=Nat.lt_of_lt_of_le (List.getElem?_eq_some_iff.mp hn).1 hml;exists _,rfl,_,_,rfl,rfl,.inr ⟨by decide,by decide⟩,_,rfl,_,_,rfl,rfl,_,_,rfl,rfl,(by show(0:Int)<2147483647; decide);have m0:=Int.emod_nonneg (mix*48271+n) (show(2147483647:Int)≠0 by decide);have m1:=Int.emod_lt_of_pos (mix*48271+n) (show(0:Int)<2147483647 by decide);exists _,rfl,n,rfl;have a0:0<=(if n<0 then -n else n):=by split <;> lia
  generalize (if n<0 then -n else n)=rest at a0 ⊢;revert H' rest;apply cutR (ok:=λrest H2=>0<=rest/\∃ rows,zDa H r c ms H2 rows/\rows.length<=many.toNat+(i+1))
  ·intro main H' d rest a0;exists _,rfl,_,_,rfl,rfl,⟨by decide,by decide,by decide⟩,_,_,rfl,rfl,_,rfl;refine ifD (λhsm=>?_) (λhsm=>?_);rotate_left
   ·exact main rest H' ⟨a0,rows,d,by lia⟩
   ·refine⟨_,rfl,.inl ⟨rfl,_,SqL.of d.at'⟩,_,rfl,_,rfl,r,_,rfl,.inl (SqL.of d.at'),_,_,rfl,rfl,.inl ⟨by decide,by decide⟩,_,_,rfl,rfl,_,rfl,λv v0 v1=>?_⟩;exists r,_,_,rfl,rfl,d.at',zJ (by rw[List.length_map]; lia);exact main 0 _ ⟨Int.le_refl 0,_,d.app hr0 hcr v0 v1,by rw[List.length_append,List.length_singleton]; lia⟩
  clear hrl rows;rintro rest H' ⟨j0,rows,j1,j2⟩;refine qC (λσ H2=>∃(rows:List Int)(rest:Int),σ=[some (.ref a),some (.int many),some (.ref r),some (.int ((mix*48271+n)%2147483647)),some (.int n),some (.int rest)]/\0<=rest/\zDa H r c ms H2 rows/\rows.length<=many.toNat+(i+1))
   (λσ _=>match σ with | [_,_,_,_,_,some (.int z)]=>z.toNat | _=>0) ⟨_,_,rfl,j0,j1,j2⟩ ?_ (zSt (zHj (zPf zP6 zFl mo_c)) (zHj (zPf zP6 (zSr zOm (zKh zFl zOv)) zFl)))
  rintro σ H2 ⟨rows,rest,rfl,r0,d2,l2⟩;exists _,rfl,_,_,rfl,rfl,_,rfl;refine ifD (λhpos=>?_) (λhpos=>?_)
  ·exists _,rfl,r,_,rfl,.inl (SqL.of d2.at'),_,rfl,_,_,rfl,rfl,_,rfl;refine ifD (λhlt=>?_) (λhlt=>?_)
   ·have hlt':((rows.map V.int).length:Int)<many:=hlt;rw[List.length_map] at hlt';exists _,rfl,.inl ⟨rfl,_,SqL.of d2.at'⟩,_,rfl,_,_,rfl,rfl,(by show(0:Int)<1000003; decide),r,_,_,rfl,rfl,d2.at',zJ (by rw[List.length_map]; lia);have v0:=Int.emod_nonneg rest (show(1000003:Int)≠0 by decide);have v1:=Int.emod_lt_of_pos rest (show(0:Int)<1000003 by decide);exists _,rfl,_,_,rfl,rfl,zBc.of (by decide) (by decide +kernel),⟨rows++[rest%1000003],_,rfl,by lia,d2.app hr0 hcr v0 v1,by rw[List.length_append,List.length_singleton]; lia⟩;show(rest/1000003).toNat<rest.toNat;lia
   ·exact⟨rows,_,_,_,rfl,d2,m0,m1,l2⟩
  ·exact⟨rows,_,_,_,rfl,d2,m0,m1,l2⟩
 ·rintro σ H' ⟨rows,mix,u,v,rfl,d,hx0,hx1,hrl⟩;rw[List.length_map] at hrl;refine qC (λσ H2=>∃(rows:List Int)(mix:Int),σ=[some (.ref a),some (.int many),some (.ref r),some (.int mix),u,v]/\zDa H r c ms H2 rows/\0<=mix/\mix<2147483647/\rows.length<=many.toNat+63/\H2 r=some (.lst (rows.map V.int)))
   (λσ H2=>match H2 r with | some (.lst xs)=>many.toNat-xs.length | _=>0) ⟨rows,mix,rfl,d,hx0,hx1,by lia,d.at'⟩ ?_ (zHj (zPf zP6 (zSr zOm (zKh zFl zOv)) zFl))
  rintro σ H2 ⟨rows,mix,rfl,d2,hx0,hx1,l2,ha2⟩;exists _,rfl,r,_,rfl,.inl (SqL.of d2.at'),_,rfl,_,_,rfl,rfl,_,rfl;refine ifD (λhlt=>?_) (λhlt=>?_)
  ·have hlt':((rows.map V.int).length:Int)<many:=hlt;rw[List.length_map] at hlt';exists _,rfl,_,_,rfl,rfl,.inr ⟨by decide,by decide⟩,_,_,rfl,rfl,_,_,rfl,rfl,(by show(0:Int)<2147483647; decide);have m0:=Int.emod_nonneg (mix*48271+11) (show(2147483647:Int)≠0 by decide);have m1:=Int.emod_lt_of_pos (mix*48271+11) (show(0:Int)<2147483647 by decide);refine⟨_,rfl,.inl ⟨rfl,_,SqL.of d2.at'⟩,_,rfl,_,rfl,λv v0 v1=>?_⟩;exists r,_,_,rfl,rfl,d2.at',zJ (by rw[List.length_map]; lia),⟨rows++[v],_,rfl,d2.app hr0 hcr v0 v1,m0,m1,by rw[List.length_append,List.length_singleton]; lia,(d2.app hr0 hcr v0 v1).at'⟩;rw[ha2,zA];show many.toNat-(rows.map V.int++[V.int v]).length<many.toNat-(rows.map V.int).length;rw[List.length_append,List.length_map,List.length_singleton];lia
  ·have hlt':¬ ((rows.map V.int).length:Int)<many:=hlt;rw[List.length_map] at hlt';exact⟨_,rfl,q r rows H2 d2.same hr0 d2.at' (by lia) (by lia) d2.bd⟩
def zEr(_:PySem.W.Frag):Sp:=λvs H Q _=>vs=[]/\∀(d m b r n:Addr)(H':Hp),Same H H'->H d=none->H m=none->H r=none->H' d=some (.dK (lwK m b r n 1))->H' m=some (.dK [])->H' b=some (.dK [])->H' r=some (.lst [])->H' n=some (.dK [])->b≠m->n≠m->Q (.ref d) H'
theorem zMw(F:Fun K "_law_new" "_law_new" zFd f fd)(Z:Zs mg)(CB:Cb P w mg base)  : yP P w K mg base CX0 1 f fd [] (zEr K):=by
 specialize zNg
 ·obtain⟨rfl,_⟩:=h;rfl
 obtain⟨rfl,q⟩:=h
 refine'⟨_,zD ?h,?_⟩
 rotate_left
 with_reducible refine' zS ?_
 rotate_left
 with_reducible exact zHa (xE zQ vQ (xE zQ vQ (xE zQ (zL7 zL) (xE zQ vQ (xE zQ wA zHe))))) rfl rfl (λz=>nomatch z) (by decide)
 try dsimp only[L2.cxOf]
 intro p hp m hm b hb;refine⟨sz0,λr hr n hn=>?_⟩;have s1:=zC hp (.dK []);have s2:=zC hm (.dK []);have s3:=zC hb (.dK []);have s4:=zC hr (.lst []);have s5:=zC hn (.dK []);have em:=(s3.trans (s4.trans s5)) _ _ zA;have eb:=(s4.trans s5) _ _ zA;have er:=s5 _ _ zA;have ep:=(s2.trans (s3.trans (s4.trans s5))) _ _ zA;exists ep,[(.inr "marks", .ref m),(.inr "banks", .ref b),(.inr "runs", .ref r),(.inr "notes", .ref n),(.inr "next", .int 1)],rfl,(show 5<=15 by decide);rw[zNn];have ne:∀{x:Addr},(upd H p (.dK [])) x=none->x≠p:=λ{x} h z=>by rw[z,zA] at h; cases h
 have nb:=ne (s2.free hb);have nr:=ne (s2.free (s3.free hr));have nn:=ne (s2.free (s3.free (s4.free hn)));refine q p m b r n _ (λc o e=>?_) hp (s1.free hm) (s1.free (s2.free (s3.free hr))) zA ?_ ?_ ?_ ?_ (λz=>by rw[z,zA] at hb; cases hb) (λz=>by have:=s3.free (s4.free hn); rw[z,zA] at this; cases this)
 ·rw[zG (zH e hp)];exact(s1.trans (s2.trans (s3.trans (s4.trans s5)))) c o e
 ·rw[zG (ne hm)]; exact em
 ·rw[zG nb]; exact eb
 ·rw[zG nr]; exact er
 ·rw[zG nn]; exact zA
def qB(_:PySem.W.Frag):Sp:=λvs H Q _=>∃(d:Addr)(S:BS)(i j:Nat),vs=[.ref d,.int i,.int j]/\zMi H d S/\i<=S.runs.length/\j<=S.runs.length/\S.runs.length<=60 /\
 ∀(t:Addr)(H':Hp),Same H H'->H t=none->H' t=some (.tup [.int (xV S.runs i j).1,.int (xV S.runs i j).2])->Q (.ref t) H'
theorem zLm(F:Fun K "_law_lead" "_law_lead" zBr f fd)(Z:Zs mg)(CB:Cb P w mg base)  : yP P w K mg base CX0 1 f fd ["_law_m", "_law_one", "_law_other"] (qB K):=by
 specialize zB2
 ·obtain⟨d,S,i,j,rfl,_⟩:=h;rfl
 obtain⟨d,S,i0,j0,rfl,⟨m,b,r,n,lw⟩,hi,hj,few,k⟩:=h;obtain⟨rs,hr1,rep⟩:=lw.ru;have lrs:rs.length=S.runs.length:=by rw[rep.length,List.length_map]
 refine'⟨_,(zB (zV 3 zB2.nd (uS zLb (zN (zW hr) (pv 0) zQ (λ_ _=>rfl)) (vX ?_) (vX ?_)))
   (zB (zV 4 zB2.nd ?_)
   (zD (zS (zGr (zF (sS zFy (pv 4) (yB (sN rfl) rfl Z.sum zG3 (zF (wM (T:=["_law_x", "_law_y"]) (caps:=[]) ⟨rfl,by decide +kernel,by decide +kernel,rfl,True.intro⟩ rfl (uF (pv 3)) (λ_=>(sC rfl (yA (uL 0 (show(["_law_x", "_law_y"]:List Str).Nodup by decide +kernel)) (yA (uL 1 (show(["_law_x", "_law_y"]:List Str).Nodup by decide +kernel)) uH)))) (λ_=>yW) (λ_=>(pv 0))) zL))) (zF (sS zFy (pv 4) (yB (sN rfl) rfl Z.sum zG3 (zF (wM (T:=["_law_x", "_law_y"]) (caps:=[]) ⟨rfl,by decide +kernel,by decide +kernel,rfl,True.intro⟩ rfl (uF (pv 3)) (λ_=>(sC rfl (yA (uL 0 (show(["_law_x", "_law_y"]:List Str).Nodup by decide +kernel)) (yA (uL 1 (show(["_law_x", "_law_y"]:List Str).Nodup by decide +kernel)) uH)))) (λ_=>yW) (λ_=>(pv 1))) zL))) zL))))))),?_⟩
 nofun
 refine⟨_,rfl,d,.ref r,rfl,.inl ⟨_,.inr "runs", lw.at_,rfl,zAi.symm⟩,_,rfl,_,rfl,_,_,rfl,_,rfl,_,rfl,_,rfl,_,_,rfl,_,rfl,r,rs,rfl,SqL.of hr1,λq hq=>?_⟩;have e1:(if (j0:Int)<i0 then(j0:Int) else i0)=((min i0 j0:Nat):Int):=by split <;> lia
 have e2:(if (j0:Int)>i0 then(j0:Int) else i0)=((max i0 j0:Nat):Int):=by split <;> lia
 have ec:zDi rs (some (if (j0:Int)<i0 then(j0:Int) else i0)) (some (if (j0:Int)>i0 then(j0:Int) else i0))=(rs.drop (min i0 j0)).take (max i0 j0-min i0 j0):=by
  rw[e1,e2,zId (by lia) (by lia)]
 generalize hcs:zDi rs (some (if (j0:Int)<i0 then(j0:Int) else i0)) (some (if (j0:Int)>i0 then(j0:Int) else i0))=cs at hq;have sq:=zC hq (.lst cs);have rc:xJ (upd H q (.lst cs)) ((rZ S.runs i0 j0).map ptD) cs:=by
  have ecs:cs=(rs.drop (min i0 j0)).take (max i0 j0-min i0 j0):=hcs.symm.trans ec;have:=((rep.drop (min i0 j0)).take (max i0 j0-min i0 j0)).to (.of sq);rw[<- ecs,<- List.map_drop,<- List.map_take] at this;exact this
 have ls:=zCq S.runs i0 j0;have hand:(1:Int)-2*(if decide ((j0:Int)<i0) then 1 else 0)=vJ i0 j0:=by
  unfold vJ;by_cases c:j0<i0
  ·rw[if_pos c,if_pos (decide_eq_true (by lia))]; rfl
  ·rw[if_neg c,if_neg (by simp; lia)]; rfl
 refine⟨_,rfl,_,rfl,_,_,rfl,rfl,.inr ⟨_,rfl,_,_,rfl,rfl,qL (by decide),_,_,rfl,rfl,?_⟩⟩;show zK9 4 (V.int (1-2*if decide ((j0:Int)<i0)=true then 1 else 0)) _ _ _;rw[hand];have cmh:∀ y:Int,zQ5 (vJ i0 j0) y:=λy=>qL (by unfold vJ; split <;> decide);refine⟨_,rfl,_,rfl,q,rfl,.inl ⟨⟨_,SqL.of zA⟩,λc D hD=>?_⟩⟩;refine xY (K:=K) (a:=q) (xs:=cs) (λi σ zs H'=>Same (upd H q (.lst cs)) H'/\H' D=some (.lst zs)/\zs=(((rZ S.runs i0 j0).take i).map (·.1)).map V.int/\∃ u v:Option V,σ=[u,v])
  ⟨zC hD _,zA,rfl,none,none,rfl⟩ (λi σ zs H' _ ⟨sH,e,_⟩=>⟨SqL.of (sH _ _ zA),e⟩) ?_ ?_
 ·rintro i x σ zs H' hi ⟨sH,eD,rfl,u,v,rfl⟩;obtain⟨p,a,gp,rfl,ea⟩:=zEx rc hi;have hil:=(List.getElem?_eq_some_iff.mp gp).1;refine⟨a,_,rfl,SqT.of (sH _ _ ea),rfl,.int p.1,_,rfl,.int p.2,_,rfl,rfl,_,rfl,eD,zJ (by rw[List.length_map,List.length_map,List.length_take]; lia),sH.putNew hD,zA,?_,_,_,rfl⟩;rw[List.take_succ,gp,List.map_append,List.map_append];rfl
 rintro σ zs H2 ⟨s2,eD,rfl,u,v,rfl⟩;exists D,_,rfl,SqL.of eD,_,_,rfl,rfl,cmh _;have eq2:=s2 _ _ (zA (H:=H) (a:=q) (o:=.lst cs));have rc2:=rc.to (.of s2);refine⟨_,rfl,_,rfl,q,rfl,.inl ⟨⟨_,SqL.of eq2⟩,λc D hD=>?_⟩⟩;refine xY (K:=K) (a:=q) (xs:=cs) (λi σ zs H'=>Same H2 H'/\H' D=some (.lst zs)/\zs=(((rZ S.runs i0 j0).take i).map (·.2)).map V.int/\∃ u v:Option V,σ=[u,v])
  ⟨zC hD _,zA,rfl,none,none,rfl⟩ (λi σ zs H' _ ⟨sH,e,_⟩=>⟨SqL.of (sH _ _ eq2),e⟩) ?_ ?_
 ·rintro i x σ zs H' hi ⟨sH,eD,rfl,u,v,rfl⟩;obtain⟨p,a,gp,rfl,ea⟩:=zEx rc2 hi;have hil:=(List.getElem?_eq_some_iff.mp gp).1;refine⟨a,_,rfl,SqT.of (sH _ _ ea),rfl,.int p.1,_,rfl,.int p.2,_,rfl,rfl,_,rfl,eD,zJ (by rw[List.length_map,List.length_map,List.length_take]; lia),sH.putNew hD,zA,?_,_,_,rfl⟩;rw[List.take_succ,gp,List.map_append,List.map_append];rfl
 rintro σ zs H3 ⟨s3,eD3,rfl,u,v,rfl⟩;refine⟨D,_,rfl,SqL.of eD3,_,_,rfl,rfl,cmh _,sz2,λt ht=>?_⟩;have s23:=s2.trans s3;refine k t _ ((sq.trans s23).trans (zC ht _)) (sq.free (s23.free ht)) ?_;rw[zA,show cs.length=(rZ S.runs i0 j0).length by rw[rc.length,List.length_map],List.take_length];rfl
def zIa(_:PySem.W.Frag):Sp:=λvs H Q _=>∃(o t wd:Int),vs=[.int o,.int t,.int wd]/\1<=wd/\wd<=1000000 /\
 ∀(p:Addr)(x y:Int)(H':Hp),Same H H'->H p=none->H' p=some (.tup [.int x,.int y])->(x≠0\/y≠0)->x.natAbs<=wd.natAbs->y.natAbs<=wd.natAbs->Q (.ref p) H'
theorem zNa(F:Fun K "_law_way" "_law_way" zFf f fd)(Z:Zs mg)(CB:Cb P w mg base)  : yP P w K mg base CX0 1 f fd ["_law_one", "_law_two", "_law_wide"] (zIa K):=by
 specialize zBw
 ·obtain⟨o,t,wd,rfl,_⟩:=h;rfl
 obtain⟨o,t,wd,rfl,w1,w2,q⟩:=h
 refine'⟨_,(zB (zV 3 zBw.nd ?_)
   (zB (zV 4 zBw.nd ?_)
   (zB (yY ?_ (zD (zV 3 zBw.nd ?_)) yE)
   (zD (zS ?_))))),?_⟩
 nofun
 have x0:=Int.emod_nonneg o (show 2*wd+1≠0 by lia);have x1:=Int.emod_lt_of_pos o (show 0<2*wd+1 by lia);have y0:=Int.emod_nonneg t (show 2*wd+1≠0 by lia);have y1:=Int.emod_lt_of_pos t (show 0<2*wd+1 by lia);exists _,rfl,_,rfl,_,_,rfl,rfl,.inl ⟨by decide,by decide⟩,_,_,rfl,rfl,_,_,rfl,rfl,(by show 0<2*wd+1; lia),_,rfl,_,_,rfl,rfl;exists _,rfl,_,rfl,_,_,rfl,rfl,.inl ⟨by decide,by decide⟩,_,_,rfl,rfl,_,_,rfl,rfl,(by show 0<2*wd+1; lia),_,rfl,_,_,rfl,rfl;exists _,rfl,rfl,_,rfl;refine ifE (λhx=>?_) (λhx=>?_)
 ·exists _,rfl,rfl,_,rfl;refine ifE (λhy=>?_) (λhy=>?_)
  ·exists _,rfl,_,_,rfl,rfl,gt2,_,_,rfl,rfl,.inl ⟨by decide,by decide⟩,_,_,rfl,rfl;refine⟨_,rfl,_,rfl,sz2,λp hp=>?_⟩;exact q p _ _ _ (zC hp _) hp zA (by left; lia) (by lia) (by lia)
  ·refine⟨_,rfl,_,rfl,sz2,λp hp=>?_⟩;exact q p _ _ _ (zC hp _) hp zA (.inr hy) (by lia) (by lia)
 ·refine rF ?_;refine⟨_,rfl,_,rfl,sz2,λp hp=>?_⟩;exact q p _ _ _ (zC hp _) hp zA (.inl hx) (by lia) (by lia)
def zCl(K:PySem.W.Frag):Sp:=λvs H Q _=>∃(a b:Addr)(us ws:List V)(x1 y1 x2 y2:Int),vs=[.ref a,.ref b]/\Sq K H a us/\Sq K H b ws/\atI us 0=some (.int x1)/\atI us 1=some (.int y1)/\atI ws 0=some (.int x2)/\atI ws 1=some (.int y2) /\
 x1.natAbs<=10^18/\y1.natAbs<=10^18/\Q (.int (x1*y2-y1*x2)) H
theorem zHn(F:Fun K "_law_turned" "_law_turned" rL f fd)(Z:Zs mg)(CB:Cb P w mg base)  : yP P w K mg base CX0 1 f fd ["_law_one", "_law_other"] (zCl K):=by
 specialize zG9
 ·obtain⟨a,b,us,ws,x1,y1,x2,y2,rfl,_⟩:=h;rfl
 obtain⟨a,b,us,ws,x1,y1,x2,y2,rfl,ha,hb,u0,u1,w0,w1,m1,m2,q⟩:=h
 refine'⟨_,(zD (zS ?_)),?_⟩
 nofun
 exact⟨_,rfl,a,_,_,.int x1,rfl,rfl,ha,u0,_,rfl,b,_,_,.int y2,rfl,rfl,hb,w1,_,_,rfl,rfl,qL (by lia),
  _,rfl,a,_,_,.int y1,rfl,rfl,ha,u1,_,rfl,b,_,_,.int x2,rfl,rfl,hb,w0,_,_,rfl,rfl,qL (by lia),_,_,rfl,rfl,q⟩
def rQ(K:PySem.W.Frag):Sp:=λvs H Q _=>∃(a:Addr)(rows:List Int)(wd:Int),vs=[.ref a,.int wd]/\SqL K H a (rows.map V.int)/\5<=rows.length/\(∀ x∈rows,0<=x/\x<1000003)/\1<=wd/\wd<=100 /\
 ∀(t p r:Addr)(A0 A1 B0 B1:Int)(H':Hp),Same H H'->H' t=some (.tup [.ref p,.ref r])->H' p=some (.tup [.int A0,.int A1])->H' r=some (.tup [.int B0,.int B1])->0<A0*B1-A1*B0->A0.natAbs<=100->A1.natAbs<=100->B0.natAbs<=100->B1.natAbs<=100->Q (.ref t) H'
theorem zDn(F:Fun K "_law_left_pair" "_law_left_pair" uP f fd)(Z:Zs mg)(CB:Cb P w mg base)(yBg:Has P w K mg base "_law_turned" 1 ["_law_one", "_law_other"] (zCl K))(yBu:Has P w K mg base "_law_way" 1 ["_law_one", "_law_two", "_law_wide"] (zIa K)):yP P w K mg base CX0 2 f fd ["_law_d", "_law_wide"] (rQ K):=by
 specialize yS
 ·obtain⟨a,rows,wd,rfl,_⟩:=h;rfl
 obtain⟨a,rows,wd,rfl,hS,hl,bd,w1,w2,q⟩:=h
 refine'⟨_,(zB (zV 2 yS.nd ?_)
   (zB (zV 3 yS.nd ?_)
   (zB (yY ?_ (zD (zV 3 yS.nd ?_)) yE)
   (zB (yY ?_ (zD (zD6 (i:=2) (j:=3) rfl yS.nd rfl rfl (by decide) rfl rfl (zF (pv 3) (zF (pv 2) zL)) rfl)) yE)
   (zB (yY ?_ (zD (zV 3 yS.nd ?_)) yE)
   (zD (zS ?_))))))),?_⟩
 nofun
 obtain⟨v0,a0,_⟩:=xW bd (k:=0) (by decide) (by lia);obtain⟨v1,a1,_⟩:=xW bd (k:=1) (by decide) (by lia);obtain⟨v2,a2,_⟩:=xW bd (k:=2) (by decide) (by lia);obtain⟨v3,a3,_⟩:=xW bd (k:=3) (by decide) (by lia);obtain⟨v4,a4,_⟩:=xW bd (k:=4) (by decide) (by lia);refine⟨_,rfl,a,_,_,_,rfl,rfl,.inl hS,a0,_,rfl,a,_,_,_,rfl,rfl,.inl hS,a1,_,rfl,v0,v1,wd,rfl,w1,by lia,λp1 x1 y1 H2 s2 hp1 e1' n1 m1 m2=>?_⟩;have k1:x1.natAbs<=100:=by lia
 have k2:y1.natAbs<=100:=by lia
 clear m1 m2;apply cut4 (ok:=λO X Y G=>Same H G/\G p1=some (.tup [.int x1,.int y1])/\G O=some (.tup [.int X,.int Y])/\X.natAbs<=100/\Y.natAbs<=100)
 ·intro main;refine⟨_,rfl,a,_,_,_,rfl,rfl,.inl (s2.seq hS),a2,_,rfl,a,_,_,_,rfl,rfl,.inl (s2.seq hS),a3,_,rfl,v2,v3,wd,rfl,w1,by lia,λp2 x2 y2 H3 s3 hp2 e3 n2 m3 m4=>?_⟩;have s23:=s2.trans s3;have e13:=s3 _ _ e1';exists _,rfl,a,_,_,_,rfl,rfl,.inl (s23.seq hS),a4,_,_,rfl,rfl,gt4,rfl,_,rfl;refine ifE (λ_=>?_) (λ_=>?_);rotate_left
  ·exact main p2 x2 y2 H3 ⟨s23,e13,e3,by lia,by lia⟩
  ·refine⟨_,rfl,p1,_,_,.int y1,rfl,rfl,.inr (SqT.of e13),rfl,_,rfl,_,rfl,p1,_,_,.int x1,rfl,rfl,.inr (SqT.of e13),rfl,sz2,λd hd=>?_⟩;have sd:=zC hd (.tup [.int (-y1),.int x1]);exact main d (-y1) x1 _ ⟨s23.trans sd,sd _ _ e13,zA,by rw[Int.natAbs_neg]; exact k2,k1⟩
 rintro O X Y G ⟨sH,e1,e2,k3,k4⟩;have f1:Sq K G p1 [.int x1,.int y1]:=.inr (SqT.of e1);have f2:Sq K G O [.int X,.int Y]:=.inr (SqT.of e2);have b1:x1.natAbs<=10^18:=Nat.le_trans k1 (by decide);have b2:y1.natAbs<=10^18:=Nat.le_trans k2 (by decide);exists _,rfl,_,rfl,p1,O,_,_,x1,y1,X,Y,rfl,f1,f2,rfl,rfl,rfl,rfl,b1,b2,_,_,rfl,rfl,_,rfl;have eT:X*y1-Y*x1 = -(x1*Y-y1*X):=by rw[Int.mul_comm X y1,Int.mul_comm Y x1]; lia
 refine ifD (λhneg=>?_) (λhneg=>?_)
 ·exists _,rfl,_,rfl,_,_,rfl;exists _,rfl,_,rfl,O,p1,_,_,X,Y,x1,y1,rfl,f2,f1,rfl,rfl,rfl,rfl,Nat.le_trans k3 (by decide),Nat.le_trans k4 (by decide),rfl,_,rfl;refine ifE (λz=>absurd z (by clear k1 k2 k3 k4 b1 b2 w1 w2 hl; lia)) (λ_=>?_);refine⟨_,rfl,_,rfl,sz2,λt ht=>?_⟩;have st:=zC ht (.tup [.ref O,.ref p1]);exact q t O p1 X Y x1 y1 _ ((sH).trans st) zA (st _ _ e2) (st _ _ e1) (by clear k1 k2 k3 k4 b1 b2 w1 w2 hl; lia) k3 k4 k1 k2
 ·exists _,rfl,_,rfl,p1,O,_,_,x1,y1,X,Y,rfl,f1,f2,rfl,rfl,rfl,rfl,b1,b2,rfl,_,rfl;refine ifE (λhz=>?_) (λhz=>?_)
  ·refine⟨_,rfl,p1,_,_,.int y1,rfl,rfl,f1,rfl,_,rfl,_,rfl,p1,_,_,.int x1,rfl,rfl,f1,rfl,sz2,λd hd=>?_⟩;have sd:=zC hd (.tup [.int (-y1),.int x1]);refine⟨_,rfl,_,rfl,sz2,λt ht=>?_⟩;have st:=zC ht (.tup [.ref p1,.ref d]);have sp:=zRj n1;exact q t p1 d x1 y1 (-y1) x1 _ (sH.trans (sd.trans st)) zA (st _ _ (sd _ _ e1)) (st _ _ zA) (by rw[Int.mul_neg]; lia) k1 k2 (by rw[Int.natAbs_neg]; exact k2) k1
  ·refine⟨_,rfl,_,rfl,sz2,λt ht=>?_⟩;have st:=zC ht (.tup [.ref p1,.ref O]);exact q t p1 O x1 y1 X Y _ (sH.trans st) zA (st _ _ e1) (st _ _ e2) (by clear k1 k2 k3 k4 b1 b2 w1 w2 hl; lia) k1 k2 k3 k4
def vZ(_:PySem.W.Frag):Sp:=λvs H Q _=>∃(a d:Addr)(rows:List Int)(S:BS)(mo:Nat)(n:Str)(x y:Int)(pt:Int×Int),vs=[.ref a,.ref d,.int mo,.str n,.int x,.int y]/\H a=some (.lst (rows.map V.int))/\8<=rows.length/\(∀ v∈rows,0<=v/\v<1000003) /\
 zMi H d S/\mo<=S.runs.length/\S.runs.length<=3/\(∀ e∈S.runs,e.1.natAbs<=4/\e.2.natAbs<=4)/\zZ S n=some pt/\(pt.1-x).natAbs<=10/\(pt.2-y).natAbs<=10 /\
 ∀(v:V)(a b c e:Int)(H':Hp),Same H H'->Rep H' (Deed.bearing mo n a b c e).dt v->zA9 (a,b)->zA9 (c,e)->0<a*e-b*c->Q v H'
theorem zAf(F:Fun K "_law_true_bearing" "_law_true_bearing" xO f fd)(Z:Zs mg)(CB:Cb P w mg base)(yAx:Has P w K mg base "_law_left_pair" 2 ["_law_d", "_law_wide"] (rQ K))(yBs:Has P w K mg base "_law_lead" 1 ["_law_m", "_law_one", "_law_other"] (qB K)):yP P w K mg base CX0 3 f fd ["_law_d", "_law_m", "_law_moment", "_law_mark", "_law_x", "_law_y"] (vZ K):=by
 specialize zX
 ·obtain⟨a,d,rows,S,mo,n,x,y,pt,rfl,_⟩:=h;rfl
 obtain⟨a,d,rows,S,mo,n,x,y,pt,rfl,ha,l8,bd,lwa,hmo,l3,rb,hpt,hx,hy,q⟩:=h;obtain⟨m,b,r,nn,lw⟩:=id lwa;obtain⟨v2,a2,_⟩:=xW bd (k:=2) (by decide) (by lia);obtain⟨v3,a3,_⟩:=xW bd (k:=3) (by decide) (by lia)
 refine'⟨_,(zB (qM ?_ (sC rfl (yA (uL 6 zX.nd) (yA (uL 7 zX.nd) uH))))
   (zB (qM (zN (zW hr) (zN (zW hr) (pv 1) zQ (λ_ _=>rfl)) (pv 3) (λ_ _=>rfl)) (sC rfl (yA (uL 8 zX.nd) (yA (uL 9 zX.nd) uH))))
   (zB (zD6 (i:=8) (j:=9) rfl zX.nd rfl rfl (by decide) rfl rfl ?_ rfl)
   (zB (zV 10 zX.nd ?_)
   (zB (yY ?_ (zB (qM ?_ (sC rfl (yA (uL 11 zX.nd) (yA (uL 12 zX.nd) uH))))
   (zD (zS ?_))) yE)
   (zD (zS ?_))))))),?_⟩
 nofun
 refine⟨_,rfl,_,rfl,d,S,0,mo,rfl,lwa,(by lia),hmo,(by lia),λt H1 s1 ht et=>?_⟩;have lb:(xV S.runs 0 mo).1.natAbs<=12/\(xV S.runs 0 mo).2.natAbs<=12:=zJh l3 rb;generalize xV S.runs 0 mo=ld at et lb;obtain⟨kvs,pa,hm,g1,g2⟩:=vF (lw.ma.to (.of s1)) hpt;exists t,_,rfl,SqT.of et,rfl,.int ld.1,_,rfl,.int ld.2,_,rfl,rfl;exists _,rfl,d,.ref m,rfl,.inl ⟨_,.inr "marks", Rd.same lw.at_ s1,rfl,vN.symm⟩,_,rfl,m,.ref pa,rfl,.inl ⟨kvs,.inr n,hm,rfl,g1.symm⟩,pa,_,rfl,SqT.of g2,rfl,.int pt.1,_,rfl,.int pt.2,_,rfl,rfl;exists _,rfl,_,rfl,_,_,rfl,rfl,_,rfl,_,_,rfl,rfl,_,rfl,_,rfl,_,_,rfl,rfl,_,rfl,_,_,rfl,rfl,_,_,rfl;have bP:(pt.1-x-ld.1).natAbs<=22:=by lia
 have bQ:(pt.2-y-ld.2).natAbs<=22:=by lia
 generalize pt.1-x-ld.1=P at bP ⊢;generalize pt.2-y-ld.2=R at bQ ⊢;have sq1:Sq K H1 a (rows.map V.int):=.inl (SqL.of (s1 _ _ ha));exists _,rfl,a,_,_,_,rfl,rfl,sq1,a3,_,_,rfl,rfl,gt3,_,_,rfl,rfl;have b1:1<=1+v3%3:=by lia
 have b2:1+v3%3<=3:=by lia
 generalize 1+v3%3=k at b1 b2;have cut3:zDi (rows.map V.int) (some ((3:Nat):Int)) none=(rows.drop 3).map V.int:=by rw[zDc,HT.sIx_nat rows.length 0 3,show min 3 rows.length=3 by lia,show HT.sIx rows.length rows.length none=rows.length from rfl,List.take_of_length_le (by rw[List.length_drop]; lia)]
 have cut3:zDi (rows.map V.int) (some 3) none=(rows.drop 3).map V.int:=cut3;have sl1:SqL K H1 a (rows.map V.int):=SqL.of (s1 _ _ ha);exists _,rfl,rfl,_,rfl;refine ifE (λzP=>?_) (λzP=>?_)
 ·exists _,rfl,rfl,_,rfl;refine ifE (λzR=>?_) (λzR=>?_)
  ·refine zFh ?_;refine⟨_,rfl,_,rfl,a,_,rfl,sl1,λc hc=>?_⟩;have sc:=zC hc (.lst (zDi (rows.map V.int) (some 3) none));refine⟨c,rows.drop 3,3,rfl,SqL.of (by rw[zA,cut3]),(by rw[List.length_drop]; lia),(λv hv=>bd v (List.mem_of_mem_drop hv)),(by decide),(by decide),λt2 p1 p2 A0 A1 B0 B1 H2 s2 et2 e1 e2 tn n1 n2 n3 n4=>?_⟩;exists t2,_,rfl,SqT.of et2,rfl,.ref p1,_,rfl,.ref p2,_,rfl,rfl;refine⟨_,rfl,_,rfl,_,rfl,_,rfl,(by show 5<=sizeLine; decide),λw hw=>?_⟩;have sw:=zC hw (.tup [.str "bearing", .int mo,.str n,.ref p1,.ref p2]);obtain⟨w1,w2⟩:=zGg tn n1 n2 n3 n4;exact q (.ref w) A0 A1 B0 B1 _ (s1.trans (sc.trans (s2.trans sw))) (vB zA (sw _ _ e1) (sw _ _ e2)) w1 w2 tn
  ·exists _,rfl,a,_,_,_,rfl,rfl,sq1,a2,_,_,rfl,rfl,gt5,rfl,_,rfl;refine ifE (λz5=>?_) (λz5=>?_)
   ·
    refine⟨_,rfl,_,rfl,a,_,rfl,sl1,λc hc=>?_⟩;have sc:=zC hc (.lst (zDi (rows.map V.int) (some 3) none));refine⟨c,rows.drop 3,3,rfl,SqL.of (by rw[zA,cut3]),(by rw[List.length_drop]; lia),(λv hv=>bd v (List.mem_of_mem_drop hv)),(by decide),(by decide),λt2 p1 p2 A0 A1 B0 B1 H2 s2 et2 e1 e2 tn n1 n2 n3 n4=>?_⟩;exists t2,_,rfl,SqT.of et2,rfl,.ref p1,_,rfl,.ref p2,_,rfl,rfl;refine⟨_,rfl,_,rfl,_,rfl,_,rfl,(by show 5<=sizeLine; decide),λw hw=>?_⟩;have sw:=zC hw (.tup [.str "bearing", .int mo,.str n,.ref p1,.ref p2]);obtain⟨w1,w2⟩:=zGg tn n1 n2 n3 n4;exact q (.ref w) A0 A1 B0 B1 _ (s1.trans (sc.trans (s2.trans sw))) (vB zA (sw _ _ e1) (sw _ _ e2)) w1 w2 tn
   ·have nz:¬ (P=0/\R=0):=λz=>zR z.2;refine⟨_,rfl,_,rfl,_,rfl,_,rfl,_,_,rfl,rfl,qL (by lia),_,rfl,_,_,rfl,rfl,_,rfl,_,rfl,_,_,rfl,rfl,qL (by lia),_,rfl,_,_,rfl,rfl,sz2,λp1 hp1=>?_⟩;have sp1:=zC hp1 (.tup [.int (k*P+R),.int (k*R-P)]);refine⟨_,rfl,_,rfl,_,_,rfl,rfl,qL (by lia),_,rfl,_,_,rfl,rfl,_,rfl,_,rfl,_,_,rfl,rfl,qL (by lia),_,rfl,_,_,rfl,rfl,sz2,λp2 hp2=>⟨(by show 5<=sizeLine; decide),λw hw=>?_⟩⟩;have sp2:=zC hp2 (.tup [.int (k*P-R),.int (k*R+P)]);have sw:=zC hw (.tup [.str "bearing", .int mo,.str n,.ref p1,.ref p2]);have tn:=zIb b1 nz;have z1:=uT k P (show k.natAbs<=3 by lia) bP;have z2:=uT k R (show k.natAbs<=3 by lia) bQ;obtain⟨w1,w2⟩:=zGg tn (by lia) (by lia) (by lia) (by lia);exact q (.ref w) _ _ _ _ _ (s1.trans (sp1.trans (sp2.trans sw))) (vB zA (sw _ _ (sp2 _ _ zA)) (sw _ _ zA)) w1 w2 tn
 ·refine rF ?_;exists _,rfl,a,_,_,_,rfl,rfl,sq1,a2,_,_,rfl,rfl,gt5,rfl,_,rfl;refine ifE (λz5=>?_) (λz5=>?_)
  ·
   refine⟨_,rfl,_,rfl,a,_,rfl,sl1,λc hc=>?_⟩;have sc:=zC hc (.lst (zDi (rows.map V.int) (some 3) none));refine⟨c,rows.drop 3,3,rfl,SqL.of (by rw[zA,cut3]),(by rw[List.length_drop]; lia),(λv hv=>bd v (List.mem_of_mem_drop hv)),(by decide),(by decide),λt2 p1 p2 A0 A1 B0 B1 H2 s2 et2 e1 e2 tn n1 n2 n3 n4=>?_⟩;exists t2,_,rfl,SqT.of et2,rfl,.ref p1,_,rfl,.ref p2,_,rfl,rfl;refine⟨_,rfl,_,rfl,_,rfl,_,rfl,(by show 5<=sizeLine; decide),λw hw=>?_⟩;have sw:=zC hw (.tup [.str "bearing", .int mo,.str n,.ref p1,.ref p2]);obtain⟨w1,w2⟩:=zGg tn n1 n2 n3 n4;exact q (.ref w) A0 A1 B0 B1 _ (s1.trans (sc.trans (s2.trans sw))) (vB zA (sw _ _ e1) (sw _ _ e2)) w1 w2 tn
  ·have nz:¬ (P=0/\R=0):=λz=>zP z.1;refine⟨_,rfl,_,rfl,_,rfl,_,rfl,_,_,rfl,rfl,qL (by lia),_,rfl,_,_,rfl,rfl,_,rfl,_,rfl,_,_,rfl,rfl,qL (by lia),_,rfl,_,_,rfl,rfl,sz2,λp1 hp1=>?_⟩;have sp1:=zC hp1 (.tup [.int (k*P+R),.int (k*R-P)]);refine⟨_,rfl,_,rfl,_,_,rfl,rfl,qL (by lia),_,rfl,_,_,rfl,rfl,_,rfl,_,rfl,_,_,rfl,rfl,qL (by lia),_,rfl,_,_,rfl,rfl,sz2,λp2 hp2=>⟨(by show 5<=sizeLine; decide),λw hw=>?_⟩⟩;have sp2:=zC hp2 (.tup [.int (k*P-R),.int (k*R+P)]);have sw:=zC hw (.tup [.str "bearing", .int mo,.str n,.ref p1,.ref p2]);have tn:=zIb b1 nz;have z1:=uT k P (show k.natAbs<=3 by lia) bP;have z2:=uT k R (show k.natAbs<=3 by lia) bQ;obtain⟨w1,w2⟩:=zGg tn (by lia) (by lia) (by lia) (by lia);exact q (.ref w) _ _ _ _ _ (s1.trans (sp1.trans (sp2.trans sw))) (vB zA (sw _ _ (sp2 _ _ zA)) (sw _ _ zA)) w1 w2 tn
def sM(_:PySem.W.Frag):Sp:=zRf
theorem zCk(F:Fun K "_law_some_deeds" "_law_some_deeds" wZ f fd)(Z:Zs mg)(CB:Cb P w mg base)(yAe:Has P w K mg base "_law_true_bearing" 3 ["_law_d", "_law_m", "_law_moment", "_law_mark", "_law_x", "_law_y"] (vZ K))(yBv:Has P w K mg base "_law_new" 1 [] (zEr K)):yP P w K mg base CX0 4 f fd ["_law_some", "_law_names_here"] (sM K):=by
 specialize zT
 ·obtain⟨a,r,rows,ns,rfl,_⟩:=h;rfl
 obtain⟨a,R,rows,ns,rfl,ha,l90,bd,eR,ln,okn,nod,q⟩:=h;obtain⟨v5,a5,_⟩:=xW bd (k:=5) (by decide) (by lia);obtain⟨v6,a6,_⟩:=xW bd (k:=6) (by decide) (by lia);obtain⟨v7,a7,_⟩:=xW bd (k:=7) (by decide) (by lia);obtain⟨v18,a18,_⟩:=xW bd (k:=18) (by decide) (by lia);have sq:∀{H':Hp},H' a=some (.lst (rows.map V.int))->Sq K H' a (rows.map V.int):=λh=>.inl (SqL.of h)
 refine'⟨_,(zB (zD6 (i:=2) (j:=3) rfl zT.nd rfl rfl (by decide) rfl rfl ?_ rfl)
   (zB (zV 4 zT.nd (zCi yBv (hr.mono (by decide)) rfl))
   (zB (zV 5 zT.nd ?_)
   (zB (wP PassesOwn.never rfl (xA rfl Z.range ?_) (uL 6 zT.nd) (zB (zU (zAm (pv 5) ?_))
   (zD (vE (zW hr) (zN (zW hr) (pv 4) zQ (λ_ _=>rfl)) ?_ (uS zFs ?_ (vX wA) sR) rfl))))
   (zB (wP PassesOwn.never rfl (xA rfl Z.range ?_) (uL 6 zT.nd) (zB (zU (zAm (pv 5) ?_))
   (zD (zU (zAm (zN (zW hr) (pv 4) zQ (λ_ _=>rfl)) (zF (uS zFs ?_ (vX wA) sR) zL))))))
   (zB (zV 7 zT.nd (yB zAx rfl Z.sorted sW (zF (xN (sQ rfl) rfl Z.list zAo (zF (zN (zW hr) (pv 4) zQ (λ_ _=>rfl)) zL)) zL)))
   (zB (wP PassesOwn.never rfl (xA rfl Z.range ?_) (uL 6 zT.nd) (zB (zV 8 zT.nd ?_)
   (zB (zV 9 zT.nd (sS zOo ?_ (sS zIx (yB vP rfl Z.len qF (zF (zN (zW hr) (pv 4) zQ (λ_ _=>rfl)) zL)) wA)))
   (zB (zD6 (i:=10) (j:=11) rfl zT.nd rfl rfl (by decide) rfl rfl ?_ rfl)
   (zB (zV 12 zT.nd ?_)
   (zB (yY (PW.pt (zI8 ?_ (zFn (yT (zKq hr.units0) (zN (zW hr) (zN (zW hr) (pv 4) zQ (λ_ _=>rfl)) (pv 10) (λ_ _=>rfl)) (zN (zW hr) (zN (zW hr) (pv 4) zQ (λ_ _=>rfl)) (pv 11) (λ_ _=>rfl)) (yV _))))) (zD (zV 12 zT.nd ?_)) yE)
   (zD (zU (zAm (pv 5) (zF (pv 12) zL))))))))))
   (zD (zS (pv 5)))))))))),?_⟩
 nofun
 exists _,rfl,a,_,_,_,rfl,rfl,sq ha,a5,_,_,rfl,rfl,(by show(0:Int)<1701; decide),_,_,rfl,rfl,_,rfl,a,_,_,_,rfl,rfl,sq ha,a6,_,_,rfl,rfl,(by show(0:Int)<1701; decide),_,_,rfl,rfl,_,_,rfl;have x1:(v5%1701-850).natAbs<=850:=by lia
 have y1:(v6%1701-850).natAbs<=850:=by lia
 generalize v5%1701-850=X at x1 ⊢;generalize v6%1701-850=Y at y1 ⊢;refine⟨rfl,λd m b r n H1 s1 hd hm hr0 ed em eb er en nbm nnm=>?_⟩;refine⟨sz0,λL hL=>?_⟩;have sL:=zC hL (.lst []);have ndL:d≠L:=zH ed hL;have nmL:m≠L:=zH em hL;have nrL:r≠L:=zH er hL;have eL1:upd H1 L (.lst []) L=some (.lst []):=zA;have ha1:=sL _ _ (s1 _ _ ha);have eR1:=sL _ _ (s1 _ _ eR);have ed1:=sL _ _ ed;have em1:=sL _ _ em;have eb1:=sL _ _ eb;have er1:=sL _ _ er;have en1:=sL _ _ en;have s01:=s1.trans sL;have hL0:=s1.free hL;generalize upd H1 L (.lst [])=H2 at eL1 ha1 eR1 ed1 em1 eb1 er1 en1 s01 ⊢;have naL:a≠L:=λz=>by rw[z,hL0] at ha; cases ha
 have nam:a≠m:=λz=>by rw[z,hm] at ha; cases ha
 have nRL:R≠L:=λz=>by rw[z,hL0] at eR; cases eR
 have nRm:R≠m:=λz=>by rw[z,hm] at eR; cases eR
 have ndm:d≠m:=λz=>by rw[z,em1] at ed1; cases ed1
 exists _,rfl,a,_,_,_,rfl,rfl,sq ha1,a7,_,_,rfl,rfl,gt3,_,_,rfl,rfl;have k3:3<=3+v7%3:=by lia
 have k5:3+v7%3<=5:=by lia
 generalize 3+v7%3=M at k3 k5;refine⟨_,rfl,(by lia),(by lia),uG (lo:=0) (n:=M.toNat) (λi σ H'=>(∀ x o,x≠L->x≠m->H2 x=some o->H' x=some o)/\(∃(Ds:List Deed)(l:List (Str×Int×Int))(xs:List V)(mk:List (Key×V)),H' L=some (.lst xs)/\xJ H' (Ds.map Deed.dt) xs/\Ds.length=i/\zEc Ds l [] [] 1/\l.map (·.1)=ns.take i/\H' m=some (.dK mk)/\xX H' mk (mkE l)/\∀ e∈l,(e.2.1-X).natAbs<=10/\(e.2.2-Y).natAbs<=10) /\
   ∃ u:Option V,σ=[some (.ref a),some (.ref R),some (.int X),some (.int Y),some (.ref d),some (.ref L),u,none,none,none,none,none,none])
  ⟨λ_ _ _ _ e=>e,⟨[],[],[],[],eL1,yF.mpr rfl,rfl,zNv,rfl,em1,.nil,λe he=>(nomatch he)⟩,none,rfl⟩ ?_ ?_⟩
 ·rintro i σ H3 hi ⟨sH,⟨Ds,l,xs,mk,eL,rp,lD,dn,nms,eM,kv,pl⟩,u,rfl⟩;have hi5:i<ns.length:=by lia
  have hn:ns[i]?=some ns[i]:=List.getElem?_eq_getElem hi5;have ha3:=sH _ _ naL nam ha1;have eR3:=sH _ _ nRL nRm eR1;obtain⟨w1,b1,_⟩:=xW bd (k:=8+2*i) (by lia) (by lia);obtain⟨w2,b2,_⟩:=xW bd (k:=9+2*i) (by lia) (by lia);rw[Int.zero_add];have c1:atI (rows.map V.int) (8+2*(i:Int))=some (.int w1):=by rw[show 8+2*(i:Int)=((8+2*i:Nat):Int) by lia]; exact b1
  have c2:atI (rows.map V.int) (9+2*(i:Int))=some (.int w2):=by rw[show 9+2*(i:Int)=((9+2*i:Nat):Int) by lia]; exact b2
  have cn:atI (ns.map V.str) (i:Int)=some (.str ns[i]):=zEm (by rw[List.getElem?_map,hn]; rfl);exists _,rfl,.inl ⟨rfl,_,SqL.of eL⟩,_,rfl,_,rfl,R,_,_,.str ns[i],rfl,rfl,.inl (SqL.of eR3),cn;exists _,rfl,_,rfl,_,rfl,_,_,rfl,rfl,qL (by lia),_,_,rfl,rfl,a,_,_,_,rfl,rfl,sq ha3,c1,_,_,rfl,rfl,(by show(0:Int)<21; decide),_,_,rfl,rfl,_,_,rfl,rfl;refine⟨_,rfl,_,rfl,_,rfl,_,_,rfl,rfl,qL (by lia),_,_,rfl,rfl,a,_,_,_,rfl,rfl,sq ha3,c2,_,_,rfl,rfl,(by show(0:Int)<21; decide),_,_,rfl,rfl,_,_,rfl,rfl,(by show 4<=sizeLine; decide),λt ht=>?_⟩;have x3:(X+w1%21-10-X).natAbs<=10:=by lia
  have y3:(Y+w2%21-10-Y).natAbs<=10:=by lia
  generalize X+w1%21-10=U at x3 ⊢;generalize Y+w2%21-10=W at y3 ⊢;have st:=zC ht (.tup [.str "mark", .str ns[i],.int U,.int W]);have eL3:=st _ _ eL;exists L,_,.ref t,rfl,rfl,eL3,zJ (by rw[rp.length,List.length_map]; lia);have sE4:=uD (o:=.lst (xs++[.ref t])) eL3;have np4:=wO eL3;have ntL:t≠L:=λz=>by rw[z,eL] at ht; cases ht
  have rp4:xJ (upd (upd H3 t (.tup [.str "mark", .str ns[i],.int U,.int W])) L (.lst (xs++[.ref t]))) ((Ds++[Deed.mark ns[i] U W]).map Deed.dt) (xs++[.ref t]):=by
   rw[List.map_append];exact(xJ.app (rp.to (.of st)) (.one (zM9 zA))).sam sE4 np4
  have kv4:=(kv.to (.of st)).sam sE4 np4;have k4:∀ x o,x≠L->H3 x=some o->upd (upd H3 t (.tup [.str "mark", .str ns[i],.int U,.int W])) L (.lst (xs++[.ref t])) x=some o:=λx o h e=>by rw[zG h]; exact st _ _ e
  have eL4:upd (upd H3 t (.tup [.str "mark", .str ns[i],.int U,.int W])) L (.lst (xs++[.ref t])) L=some (.lst (xs++[.ref t])):=zA;have et4:upd (upd H3 t (.tup [.str "mark", .str ns[i],.int U,.int W])) L (.lst (xs++[.ref t])) t=some (.tup [.str "mark", .str ns[i],.int U,.int W]):=by rw[zG ntL,zA]
  generalize upd (upd H3 t (.tup [.str "mark", .str ns[i],.int U,.int W])) L (.lst (xs++[.ref t]))=H4 at rp4 kv4 k4 eL4 et4 ⊢;have eM4:=k4 _ _ nmL eM;have ed4:=k4 _ _ ndL (sH _ _ ndL ndm ed1);have eR4:=k4 _ _ nRL eR3;have lst1:atI (xs++[.ref t]) (-1)=some (.ref t):=zIs xs (.ref t);refine⟨_,rfl,_,rfl,L,_,_,.ref t,rfl,rfl,.inl (SqL.of eL4),lst1,_,rfl,t,_,rfl,SqT.of et4,(λz=>absurd z.1 (by show ¬ HT.sIx 4 0 (some 2)=0; decide)),λc hc=>?_⟩;rw[show zDi [V.str "mark", V.str ns[i],V.int U,V.int W] (some 2) none=[V.int U,V.int W] from rfl];have sc:=zC hc (.tup [.int U,.int W]);have eM5:=sc _ _ eM4;have lk:mk.length=l.length:=by rw[kv.length,zE4]
  have ll:l.length=i:=by have:=congrArg List.length nms; rw[List.length_map,List.length_take] at this; lia
  exists _,rfl,d,.ref m,rfl,.inl ⟨_,.inr "marks", .inl (sc _ _ ed4),rfl,vN.symm⟩,_,rfl,_,rfl,R,_,_,.str ns[i],rfl,rfl,.inl (SqL.of (sc _ _ eR4)),cn,m,_,rfl,zG7.k (k:=.inr ns[i]) eM5 (zJ (by lia));have sE5:=uD (o:=.dK (tL mk (.inr ns[i]) (.ref c))) eM5;have np5:=zJr eM5;have nmem:ns[i] ∉ l.map (·.1):=by
   rw[nms];exact zIy nod hn
  have nr5:zG8 (U,W):=⟨by dsimp only; lia,by dsimp only; lia,by dsimp only; lia,by dsimp only; lia⟩;refine⟨λx o h1 h2 e=>by rw[zG h2]; exact sc _ _ (k4 _ _ h1 (sH _ _ h1 h2 e)),⟨Ds++[.mark ns[i] U W],l++[(ns[i],U,W)],xs++[.ref t],_,?_,(rp4.to (.of sc)).sam sE5 np5,(by rw[List.length_append,lD]; rfl),dn.mark (zO5 (okn _ (List.getElem_mem hi5)) nmem nr5 (by lia)),?_,zA,?_,λe he=>?_⟩,_,rfl⟩
  ·rw[zG nmL.symm]; exact sc _ _ eL4
  ·rw[List.map_append,nms,List.take_succ,hn]; rfl
  ·have:=((kv4.to (.of sc)).put (k:=.inr ns[i]) (qK (p:=(U,W)) zA)).sam sE5 np5;have pe:=tK (es:=mkE l) (k:=.inr ns[i]) (d:=ptD (U,W)) (zE0 (S:=stN l [] [] 1) (zD3 nmem));rw[pe] at this;rw[zHt];exact this
  ·rcases List.mem_append.mp he with z | z
   ·exact pl e z
   ·rw[List.mem_singleton.mp z]; exact⟨x3,y3⟩
 ·rintro σ H3 ⟨sH,⟨Ds,l,xs,mk,eL,rp,lD,dn,nms,eM,kv,pl⟩,u,rfl⟩;have nrm:r≠m:=λz=>by rw[z,em1] at er1; cases er1
  have nar:a≠r:=λz=>by rw[z,hr0] at ha; cases ha
  have ndr:d≠r:=λz=>by rw[z,er1] at ed1; cases ed1
  have nbL:b≠L:=zH eb hL;have nnL:n≠L:=zH en hL;have nbr:b≠r:=λz=>by rw[z,er1] at eb1; cases eb1
  have nnr:n≠r:=λz=>by rw[z,er1] at en1; cases en1
  have ha3:=sH _ _ naL nam ha1;have ed3:=sH _ _ ndL ndm ed1;have er3:=sH _ _ nrL nrm er1;have eb3:=sH _ _ nbL nbm eb1;have en3:=sH _ _ nnL nnm en1;have s03:∀ x o,H x=some o->H3 x=some o:=λx o e=>sH x o (zH e hL0) (zH e hm) (s01 _ _ e);have lM:l.length=M.toNat:=by have:=congrArg List.length nms; rw[List.length_map,List.length_take] at this; lia
  clear sH;exists _,rfl,a,_,_,_,rfl,rfl,sq ha3,a18,_,_,rfl,rfl,gt4;have n0:0<=v18%4:=by lia
  have n3:v18%4<=3:=by lia
  generalize v18%4=N at n0 n3;refine⟨_,rfl,(by lia),(by lia),uG (lo:=0) (n:=N.toNat) (λi σ H'=>(∀ x o,x≠L->x≠r->H3 x=some o->H' x=some o)/\(∃(Ds:List Deed)(rs:List (Int×Int))(xs ys:List V),H' L=some (.lst xs)/\xJ H' (Ds.map Deed.dt) xs/\Ds.length=M.toNat+i/\zEc Ds l rs [] 1/\rs.length=i/\H' r=some (.lst ys)/\xJ H' (rs.map ptD) ys/\∀ e∈rs,e.1.natAbs<=4/\e.2.natAbs<=4) /\
    ∃ u:Option V,σ=[some (.ref a),some (.ref R),some (.int X),some (.int Y),some (.ref d),some (.ref L),u,none,none,none,none,none,none])
   ⟨λ_ _ _ _ e=>e,⟨Ds,[],xs,[],eL,rp,lD,dn,rfl,er3,yF.mpr rfl,λe he=>(nomatch he)⟩,u,rfl⟩ ?_ ?_⟩
  ·clear lD rp dn;rintro i σ H4 hi ⟨sK,⟨Ds,rs,xs,ys,eL,rp,lD,dn,lrs,er4,rr,rb⟩,u,rfl⟩;have ha4:=sK _ _ naL nar ha3;have ed4:=sK _ _ ndL ndr ed3;obtain⟨w1,b1,_⟩:=xW bd (k:=19+2*i) (by lia) (by lia);obtain⟨w2,b2,_⟩:=xW bd (k:=20+2*i) (by lia) (by lia);rw[Int.zero_add];have c1:atI (rows.map V.int) (19+2*(i:Int))=some (.int w1):=b1;have c2:atI (rows.map V.int) (20+2*(i:Int))=some (.int w2):=b2;exists _,rfl,.inl ⟨rfl,_,SqL.of eL⟩,_,rfl,_,rfl,_,_,rfl,rfl,qL (by lia),_,_,rfl,rfl,a,_,_,_,rfl,rfl,sq ha4,c1,_,_,rfl,rfl,(by show(0:Int)<9; decide),_,_,rfl,rfl;refine⟨_,rfl,_,rfl,_,_,rfl,rfl,qL (by lia),_,_,rfl,rfl,a,_,_,_,rfl,rfl,sq ha4,c2,_,_,rfl,rfl,(by show(0:Int)<9; decide),_,_,rfl,rfl,sz3,λt ht=>?_⟩;have x3:(w1%9-4).natAbs<=4:=by lia
   have y3:(w2%9-4).natAbs<=4:=by lia
   generalize w1%9-4=U at x3 ⊢;generalize w2%9-4=W at y3 ⊢;have st:=zC ht (.tup [.str "sail", .int U,.int W]);have eL3:=st _ _ eL;exists L,_,.ref t,rfl,rfl,eL3,zJ (by rw[rp.length,List.length_map]; lia);have sE4:=uD (o:=.lst (xs++[.ref t])) eL3;have np4:=wO eL3;have ntL:t≠L:=λz=>by rw[z,eL] at ht; cases ht
   have rp4:xJ (upd (upd H4 t (.tup [.str "sail", .int U,.int W])) L (.lst (xs++[.ref t]))) ((Ds++[Deed.sail U W]).map Deed.dt) (xs++[.ref t]):=by
    rw[List.map_append];exact(xJ.app (rp.to (.of st)) (.one (zM5 zA))).sam sE4 np4
   have rr4:=(rr.to (.of st)).sam sE4 np4;have k4:∀ x o,x≠L->H4 x=some o->upd (upd H4 t (.tup [.str "sail", .int U,.int W])) L (.lst (xs++[.ref t])) x=some o:=λx o h e=>by rw[zG h]; exact st _ _ e
   have eL4:upd (upd H4 t (.tup [.str "sail", .int U,.int W])) L (.lst (xs++[.ref t])) L=some (.lst (xs++[.ref t])):=zA;have et4:upd (upd H4 t (.tup [.str "sail", .int U,.int W])) L (.lst (xs++[.ref t])) t=some (.tup [.str "sail", .int U,.int W]):=by rw[zG ntL,zA]
   generalize upd (upd H4 t (.tup [.str "sail", .int U,.int W])) L (.lst (xs++[.ref t]))=H5 at rp4 rr4 k4 eL4 et4 ⊢;have er5:=k4 _ _ nrL er4;have ed5:=k4 _ _ ndL ed4;have lst1:atI (xs++[.ref t]) (-1)=some (.ref t):=zIs xs (.ref t);refine⟨_,rfl,d,.ref r,rfl,.inl ⟨_,.inr "runs", .inl ed5,rfl,zAi.symm⟩,.inl ⟨rfl,_,SqL.of er5⟩,_,rfl,_,rfl,L,_,_,.ref t,rfl,rfl,.inl (SqL.of eL4),lst1,_,rfl,t,_,rfl,SqT.of et4,(λz=>absurd z.1 (by show ¬ HT.sIx 3 0 (some 1)=0; decide)),λc hc=>?_⟩;rw[show zDi [V.str "sail", V.int U,V.int W] (some 1) none=[V.int U,V.int W] from rfl];have sc:=zC hc (.tup [.int U,.int W]);have er6:=sc _ _ er5;have ly:ys.length=rs.length:=by rw[rr.length,List.length_map]
   exists r,_,.ref c,rfl,rfl,er6,zJ (by lia);have sE6:=uD (o:=.lst (ys++[.ref c])) er6;have np6:=wO er6;have nr5:zG8 (U,W):=⟨by dsimp only; lia,by dsimp only; lia,by dsimp only; lia,by dsimp only; lia⟩;refine⟨λx o h1 h2 e=>by rw[zG h2]; exact sc _ _ (k4 _ _ h1 (sK _ _ h1 h2 e)),⟨Ds++[.sail U W],rs++[(U,W)],xs++[.ref t],ys++[.ref c],?_,(rp4.to (.of sc)).sam sE6 np6,(by rw[List.length_append,lD]; rfl),dn.sail (zP7 nr5 (by lia)),(by rw[List.length_append,lrs]; rfl),zA,?_,λe he=>?_⟩,_,rfl⟩
   ·rw[zG nrL.symm]; exact sc _ _ eL4
   ·rw[List.map_append];exact(xJ.app (rr4.to (.of sc)) (.one (qK (p:=(U,W)) zA))).sam sE6 np6
   ·rcases List.mem_append.mp he with z | z
    ·exact rb e z
    ·rw[List.mem_singleton.mp z]; exact⟨x3,y3⟩
  ·rintro σ H4 ⟨sK,hh,u,rfl⟩;have sE4:uM (λx=>x=L\/x=r) H3 H4:=λx o hx e=>.inl (sK x o (λz=>hx (.inl z)) (λz=>hx (.inr z)) e);have np4:∀ b xs,H3 b=some (.tup xs)->¬ (b=L\/b=r):=λb xs e z=>z.elim (wO eL b xs e) (wO er3 b xs e);have kv4:=kv.sam sE4 np4;clear eL rp lD dn;obtain⟨Ds,rs,xs,ys,eL,rp,lD,dn,lrs,er4,rr,rb⟩:=hh;have ha4:=sK _ _ naL nar ha3;have ed4:=sK _ _ ndL ndr ed3;have eM4:=sK _ _ nmL nrm.symm eM;have eb4:=sK _ _ nbL nbr eb3;have en4:=sK _ _ nnL nnr en3;have s04:∀ x o,H x=some o->H4 x=some o:=λx o e=>sK x o (zH e hL0) (zH e hr0) (s03 _ _ e);have lw4:LwA H4 d m b r n (stN l rs [] 1):=⟨.inl ed4,⟨mk,.inl eM4,kv4⟩,.nil eb4,⟨ys,er4,rr⟩,.nil en4⟩;have lrm:(mk.map λkv=>kV kv.1)=(l.map (·.1)).map V.str:=zEz kv4;have ly:ys.length=rs.length:=by rw[rr.length,List.length_map]
   refine⟨_,rfl,d,.ref m,rfl,.inl ⟨_,.inr "marks", .inl ed4,rfl,vN.symm⟩,m,mk,rfl,.inl eM4,λp1 hp1=>?_⟩;rw[lrm];have s5:=zC hp1 (.lst ((l.map (·.1)).map V.str));refine⟨p1,l.map (·.1),rfl,SqL.of zA,(by rw[List.length_map]; lia),λp2 ms hp2 pm srt=>?_⟩;have s6:=zC hp2 (.lst (ms.map V.str));have s46:=s5.trans s6;have ep2:upd (upd H4 p1 (.lst ((l.map (·.1)).map V.str))) p2 (.lst (ms.map V.str)) p2=some (.lst (ms.map V.str)):=zA;generalize upd (upd H4 p1 (.lst ((l.map (·.1)).map V.str))) p2 (.lst (ms.map V.str))=H6 at s46 ep2 ⊢;have lms:ms.length=M.toNat:=by rw[pm.length_eq,List.length_map,lM]
   have np2:p2≠L:=λz=>by rw[z] at hp2; rw[s5 _ _ eL] at hp2; cases hp2
   have ha6:=s46 _ _ ha4;have lw6:=lw4.to (.of s46);have rp6:=rp.to (.of s46);have eL6:=s46 _ _ eL;have s06:∀ x o,H x=some o->H6 x=some o:=λx o e=>s46 _ _ (s04 _ _ e);exists _,rfl,a,_,_,_,rfl,rfl,sq ha6,a7,_,_,rfl,rfl,zBc.of (by decide) (by decide +kernel),_,_,rfl,rfl,(by show(0:Int)<7; decide);have j0:0<=v7/3%7:=by lia
   have j6:v7/3%7<=6:=by lia
   generalize v7/3%7=J at j0 j6;refine⟨_,rfl,(by lia),(by lia),uG (lo:=0) (n:=J.toNat) (λi σ H'=>(∀ x o,x≠L->H6 x=some o->H' x=some o)/\(∃(Ds:List Deed)(no:List (Int×Deed))(k:Int)(xs:List V),H' L=some (.lst xs)/\xJ H' (Ds.map Deed.dt) xs/\Ds.length=M.toNat+N.toNat+i/\zEc Ds l rs no k/\no.length=i) /\
     ∃ u1 u2 u3 u4 u5 u6:Option V,σ=[some (.ref a),some (.ref R),some (.int X),some (.int Y),some (.ref d),some (.ref L),u1,some (.ref p2),u2,u3,u4,u5,u6])
    ⟨λ_ _ _ e=>e,⟨Ds,[],1,xs,eL6,rp6,lD,dn,rfl⟩,u,none,none,none,none,none,rfl⟩ ?_ ?_⟩
   ·clear lD rp dn rp6 eL6;rintro i σ H7 hi ⟨sJ,⟨Ds,no,k,xs,eL7,rp,lD,dn,lno⟩,u1,u2,u3,u4,u5,u6,rfl⟩;have sE7:uM (λx=>x=L) H6 H7:=λx o hx e=>.inl (sJ x o hx e);have eLq:∃ zs,H6 L=some (.lst zs):=⟨_,s46 _ _ eL⟩;obtain⟨zs,eLq⟩:=eLq;have lw7:=lw6.samE sE7 (λa kvs h z=>by
     rw[z] at h;rcases h with h | ⟨o,h⟩ <;> rw[eLq] at h <;> cases h) (wO eLq) (λ_ _=>nrL)
    have ha7:=sJ _ _ naL ha6;have ep7:=sJ _ _ np2 ep2;rw[Int.zero_add];have cut:zDi (rows.map V.int) (some (27+8*(i:Int))) none=(rows.drop (27+8*i)).map V.int:=by
     rw[show 27+8*(i:Int)=((27+8*i:Nat):Int) by lia,zDc,HT.sIx_nat rows.length 0 (27+8*i),show min (27+8*i) rows.length=27+8*i by lia,show HT.sIx rows.length rows.length none=rows.length from rfl,List.take_of_length_le (by rw[List.length_drop]; lia)]
    refine⟨_,rfl,_,rfl,_,_,rfl,rfl,qL (by lia),_,_,rfl,rfl,_,rfl,a,_,rfl,SqL.of ha7,λc hc=>?_⟩;rw[cut];have bd8:∀ v∈rows.drop (27+8*i),0<=v/\v<1000003:=λv hv=>bd v (List.mem_of_mem_drop hv);have l8:8<=(rows.drop (27+8*i)).length:=by rw[List.length_drop]; lia
    generalize rows.drop (27+8*i)=rw8 at bd8 l8 ⊢;have sc:=zC hc (.lst (rw8.map V.int));have ec:upd H7 c (.lst (rw8.map V.int)) c=some (.lst (rw8.map V.int)):=zA;have lw8:=lw7.to (.of sc);have rp8:=rp.to (.of sc);have eL8:=sc _ _ eL7;have ep8:=sc _ _ ep7;have k8:∀ x o,x≠L->H6 x=some o->upd H7 c (.lst (rw8.map V.int)) x=some o:=λx o h e=>sc _ _ (sJ x o h e);generalize upd H7 c (.lst (rw8.map V.int))=H8 at ec lw8 rp8 eL8 ep8 k8 ⊢;obtain⟨d0,g0,_⟩:=xW bd8 (k:=0) (by decide) (by lia);obtain⟨d1,g1,_⟩:=xW bd8 (k:=1) (by decide) (by lia);obtain⟨d2,g2,_⟩:=xW bd8 (k:=2) (by decide) (by lia);have cq:Sq K H8 c (rw8.map V.int):=.inl (SqL.of ec);obtain⟨ys8,er8,rr8⟩:=lw8.ru;have ly8:ys8.length=rs.length:=by rw[rr8.length,List.length_map]; rfl
    exists _,rfl,c,_,_,_,rfl,rfl,cq,g0,_,rfl,d,.ref r,rfl,.inl ⟨_,.inr "runs", lw8.at_,rfl,zAi.symm⟩,r,ys8,rfl,.inl (SqL.of er8),_,_,rfl,rfl,_,_,rfl,rfl,(by show(0:Int)<(ys8.length:Int)+1; lia);rw[ly8];obtain⟨mo,emo⟩:∃ mo:Nat,d0%((rs.length:Int)+1)=mo:=⟨(d0%((rs.length:Int)+1)).toNat,(Int.toNat_of_nonneg (Int.emod_nonneg _ (by lia))).symm⟩;have hmo:mo<=rs.length:=by have:=Int.emod_lt_of_pos d0 (show(0:Int)<(rs.length:Int)+1 by lia); lia
    rw[emo];have lk:((ms.map V.str).length:Int)=M:=by rw[List.length_map,lms]; lia
    obtain⟨i1,h1,g3⟩:∃ n1,n1∈ms/\atI (ms.map V.str) (d1%((ms.map V.str).length:Int))=some (.str n1):=zOt (by lia);obtain⟨i2,h2,g4⟩:∃ n1,n1∈ms/\atI (ms.map V.str) (d2/5%((ms.map V.str).length:Int))=some (.str n1):=zOt (by lia);have pq:Sq K H8 p2 (ms.map V.str):=.inl (SqL.of ep8);exists _,rfl,_,rfl,c,_,_,_,rfl,rfl,cq,g1,_,rfl,p2,_,rfl,.inl (SqL.of ep8),_,_,rfl,rfl,(by show(0:Int)<((ms.map V.str).length:Int); lia),p2,_,_,.str i1,rfl,rfl,pq,g3;exists _,rfl,_,rfl,c,_,_,_,rfl,rfl,cq,g2,_,_,rfl,rfl,zBc.of (by decide) (by decide +kernel),_,rfl,p2,_,rfl,.inl (SqL.of ep8),_,_,rfl,rfl,(by show(0:Int)<((ms.map V.str).length:Int); lia),p2,_,_,.str i2,rfl,rfl,pq,g4,_,_,rfl;refine⟨_,rfl,_,rfl,_,rfl,(by show 4<=sizeLine; decide),λt ht=>?_⟩;have st:=zC ht (.tup [.str "range", .int mo,.str i1,.str i2]);have et:upd H8 t (.tup [.str "range", .int mo,.str i1,.str i2]) t=some (.tup [.str "range", .int mo,.str i1,.str i2]):=zA;have ec9:=st _ _ ec;have lw9:=lw8.to (.of st);have rp9:=rp8.to (.of st);have eL9:=st _ _ eL8;have k9:∀ x o,x≠L->H6 x=some o->upd H8 t (.tup [.str "range", .int mo,.str i1,.str i2]) x=some o:=λx o h e=>st _ _ (k8 x o h e);have ntL:t≠L:=λz=>by rw[z,eL8] at ht; cases ht
    generalize upd H8 t (.tup [.str "range", .int mo,.str i1,.str i2])=H9 at et ec9 lw9 rp9 eL9 k9 ⊢;have m1:i1∈l.map (·.1):=pm.mem_iff.mp h1;have m2:i2∈l.map (·.1):=pm.mem_iff.mp h2;obtain⟨q1,f1⟩:=vY (S:=stN l rs [] 1) m1;obtain⟨q2,f2⟩:=vY (S:=stN l rs [] 1) m2;obtain⟨kvs,pa,hkv,t1,t2⟩:=vF lw9.ma f1;obtain⟨kvs',pb,hkv',t3,t4⟩:=vF lw9.ma f2;have pl1:=pl _ (zAp f1);have cq9:Sq K H9 c (rw8.map V.int):=.inl (SqL.of ec9);have lx:xs.length=M.toNat+N.toNat+i:=by rw[rp.length,List.length_map,lD]
    have fin:∀(v:V)(D:Deed)(no':List (Int×Deed))(k':Int)(Hz:Hp),Same H9 Hz->Rep Hz D.dt v->zEc (Ds++[D]) l rs no' k'->no'.length=i+1 ->
      Hz L=some (.lst xs)/\((∀ x o,x≠L->H6 x=some o->upd Hz L (.lst (xs++[v])) x=some o)/\(∃(Ds:List Deed)(no:List (Int×Deed))(k:Int)(ys:List V),upd Hz L (.lst (xs++[v])) L=some (.lst ys)/\xJ (upd Hz L (.lst (xs++[v]))) (Ds.map Deed.dt) ys/\Ds.length=M.toNat+N.toNat+(i+1)/\zEc Ds l rs no k/\no.length=i+1)):=by
     intro v D no' k' Hz sz rv dz ln;have eLz:=sz _ _ eL9;refine⟨eLz,λx o h e=>by rw[zG h]; exact sz _ _ (k9 x o h e),Ds++[D],no',k',xs++[v],zA,?_,by rw[List.length_append,lD]; rfl,dz,ln⟩;rw[List.map_append];exact(xJ.app (rp9.to (.of sz)) (.one rv)).sam (uD eLz) (wO eLz)
    exists _,rfl,c,_,_,_,rfl,rfl,cq9,g2,_,_,rfl,rfl,gt5,_,_,rfl,rfl,_,rfl;refine ifD (λz=>?_) (λz=>?_)
    ·refine zFh ?_;refine⟨_,rfl,_,rfl,_,rfl,_,rfl,_,rfl,_,rfl,c,d,rw8,stN l rs [] 1,mo,i1,X,Y,q1,rfl,ec9,l8,bd8,⟨m,b,r,n,lw9⟩,hmo,(by show rs.length<=3; lia),rb,f1,pl1.1,pl1.2,λv A B C D Hz sz rv w1 w2 tn=>?_⟩;obtain⟨eLz,f3,f4⟩:=fin v _ _ _ Hz sz rv (dn.bearing (zDz hmo m1 w1 w2 tn (by lia))) (by rw[List.length_append,lno]; rfl);refine⟨_,rfl,.inl ⟨rfl,_,SqL.of eLz⟩,_,rfl,L,_,v,rfl,rfl,eLz,zJ (by lia),f3,f4,_,_,_,_,_,_,rfl⟩
    ·refine⟨_,rfl,d,.ref m,rfl,.inl ⟨_,.inr "marks", lw9.at_,rfl,vN.symm⟩,_,rfl,m,_,rfl,.inl ⟨kvs,.inr i1,hkv,rfl,t1.symm⟩,_,rfl,d,.ref m,rfl,.inl ⟨_,.inr "marks", lw9.at_,rfl,vN.symm⟩,_,rfl,m,_,rfl,.inl ⟨kvs',.inr i2,hkv',rfl,t3.symm⟩,
      pa,pb,[q1.1,q1.2],[q2.1,q2.2],rfl,rfl,SqT.of t2,SqT.of t4,_,rfl,?_⟩
     refine ifD (λz=>?_) (λz=>?_)
     ·
      refine⟨_,rfl,_,rfl,_,rfl,_,rfl,_,rfl,_,rfl,c,d,rw8,stN l rs [] 1,mo,i1,X,Y,q1,rfl,ec9,l8,bd8,⟨m,b,r,n,lw9⟩,hmo,(by show rs.length<=3; lia),rb,f1,pl1.1,pl1.2,λv A B C D Hz sz rv w1 w2 tn=>?_⟩;obtain⟨eLz,f3,f4⟩:=fin v _ _ _ Hz sz rv (dn.bearing (zDz hmo m1 w1 w2 tn (by lia))) (by rw[List.length_append,lno]; rfl);refine⟨_,rfl,.inl ⟨rfl,_,SqL.of eLz⟩,_,rfl,L,_,v,rfl,rfl,eLz,zJ (by lia),f3,f4,_,_,_,_,_,_,rfl⟩
     ·have ne:zZ (stN l rs no k) i1≠zZ (stN l rs no k) i2:=λy=>by
       have y:zZ (stN l rs [] 1) i1=zZ (stN l rs [] 1) i2:=y;rw[f1,f2] at y;injection y with y
       exact z (by rw[y])
      obtain⟨eLz,f3,f4⟩:=fin (.ref t) _ _ _ H9 (Same.refl _) (zJ5 et) (dn.range (zN2 hmo m1 m2 ne (by lia))) (by rw[List.length_append,lno]; rfl);refine⟨_,rfl,.inl ⟨rfl,_,SqL.of eLz⟩,_,rfl,L,_,.ref t,rfl,rfl,eLz,zJ (by lia),f3,f4,_,_,_,_,_,_,rfl⟩
   ·clear lD rp dn;rintro σ H7 ⟨sJ,⟨Ds,no,k,xs,eL7,rp,lD,dn,lno⟩,u1,u2,u3,u4,u5,u6,rfl⟩;refine⟨_,rfl,q L xs Ds H7 (λx o e=>sJ x o (zH e hL0) (s06 _ _ e)) hL0 eL7 rp (by lia) dn.ok ?_⟩;rw[dn.at_];show rs.length<=3;lia
def zD2(K:PySem.W.Frag):Sp:=λvs H Q _=>∃(a:Addr)(rows:List Int)(many:Nat),vs=[.ref a,.int many]/\SqL K H a (rows.map V.int)/\many<=rows.length/\many<=25/\(∀ x∈rows,0<=x/\x<1000003) /\
 ∀(r:Addr)(ns:List Str)(H':Hp),Same H H'->H r=none->H' r=some (.lst (ns.map V.str))->ns.length=many->(∀ n∈ns,zCd n)->ns.Nodup->Q (.ref r) H'
theorem zJi(F:Fun K "_law_names" "_law_names" qZ f fd)(Z:Zs mg)(CB:Cb P w mg base)  : yP P w K mg base CX0 1 f fd ["_law_some", "_law_many"] (zD2 K):=by
 specialize yN
 ·obtain⟨a,rows,many,rfl,_⟩:=h;rfl
 obtain⟨a,rows,many,rfl,ha,h1,h2,bd,q⟩:=h
 refine'⟨_,(zB (zV 2 yN.nd zQ)
   (zB (zV 3 yN.nd ?_)
   (zB (wP PassesOwn.never rfl (xA rfl Z.range (zF (pv 1) zL)) (uL 4 yN.nd) (zB (zV 5 yN.nd ?_)
   (zB (zV 6 yN.nd ?_)
   (zB (zV 7 yN.nd ?_)
   (zB (zV 8 yN.nd (zQq PySem.F.plainAttrs_str PySem.F.slot_str_join PySem.F.type_str_join zP9 zQ (zF (wM (T:=["_law_k"]) (caps:=[("_law_letters", 2),("_law_raw", 5),("_law_step", 7)]) ⟨rfl,by decide +kernel,by decide +kernel,rfl,⟨⟨rfl,rfl,Or.inl rfl⟩,⟨rfl,rfl,Or.inl rfl⟩,⟨rfl,rfl,Or.inl rfl⟩,True.intro⟩⟩ rfl (xA rfl Z.range (zF (pv 6) zL)) (λ_=>(uL 0 (show(["_law_k", "_law_letters", "_law_raw", "_law_step"]:List Str).Nodup by decide +kernel))) (λ_=>yW) (λ_=>(zMf zOl (pv 1) ?_ (λ_ _=>rfl)))) zL)))
   (zB (zV 9 yN.nd ?_)
   (zB (wP PassesOwn.never rfl (xA rfl Z.range (zF wA zL)) (uL 10 yN.nd) (zD (yY (yT zFw (pv 8) (pv 3) (by with_unfolding_all rfl)) (zB (zV 11 yN.nd (zMf zOl (pv 2) ?_ (λ_ _=>rfl)))
   (zD (zV 8 yN.nd (sS zDw (sS zDw (uS zOs (pv 8) sR (vX (pv 9))) (pv 11)) (uS zOs (pv 8) (vX ?_) sR))))) yE)))
   (zD (zU (zAm (pv 3) (zF (pv 8) zL)))))))))))
   (zD (zS (pv 3)))))),?_⟩
 nofun
 refine⟨sz0,λr hr0=>?_⟩;have s0:=zC hr0 (.lst []);refine⟨_,rfl,_,rfl,by lia,by lia,uG (lo:=0) (n:=((many:Nat):Int).toNat) (λi σ H'=>∃ ns:List Str,Same H H'/\H' r=some (.lst (ns.map V.str))/\ns.length=i/\(∀ n∈ns,zCd n)/\ns.Nodup /\
   ∃ u4 u5 u6 u7 u8 u9 u10 u11:Option V,σ=[some (.ref a),some (.int many),some (.str abc),some (.ref r),u4,u5,u6,u7,u8,u9,u10,u11])
  ⟨[],s0,zA,rfl,(λ_ z=>nomatch z),List.nodup_nil,none,none,none,none,none,none,none,none,rfl⟩ ?_ ?_⟩
 ·rintro i σ H1 hi ⟨ns,s1,er,ln,okn,nd,u4,u5,u6,u7,u8,u9,u10,u11,rfl⟩;rw[Int.toNat_natCast] at hi;obtain⟨x,ax,x0,x1⟩:=xW bd (k:=(0:Int)+i) (by lia) (by lia);exists _,rfl,_,rfl,a,_,_,_,rfl,rfl,.inl (s1.seq ha),ax;exists _,rfl,_,_,rfl,rfl,(by show(0:Int)<8; decide),_,_,rfl,rfl;exists _,rfl,_,_,rfl,rfl,zBc.of (by decide) (by decide +kernel),_,_,rfl,rfl,gt5;have z0:0<=x%8:=Int.emod_nonneg _ (by decide);have z1:x%8<8:=Int.emod_lt_of_pos _ (by decide);have t0:0<=x/8%5:=Int.emod_nonneg _ (by decide);have t1:x/8%5<5:=Int.emod_lt_of_pos _ (by decide);obtain⟨sz,esz⟩:∃ n:Nat,1+x%8=(n:Int):=⟨(1+x%8).toNat,by lia⟩;have w1:1<=sz:=by lia
  have w8:sz<=8:=by lia
  refine⟨rfl,_,rfl,_,rfl,by lia,by lia,λc D hD=>?_⟩;have sD:=zC hD (.lst []);refine qA (lo:=0) (n:=(1+x%8).toNat) (λj σ zs H'=>Same H1 H'/\H' D=some (.lst zs)/\∃ l:List Nat,zs=(l.map chS).map V.str/\l.length=j/\(∀ c∈l,97<=c/\c<=122)/\∃ u0:Option V,σ=[u0,some (.str abc),some (.int x),some (.int (x/8%5))])
   ⟨sD,zA,[],rfl,rfl,(λ_ z=>nomatch z),none,rfl⟩ (λj σ zs H' _ ⟨_,e,_⟩=>e) ?_ ?_
  ·rintro j σ zs H' hj ⟨sH,eD,l,rfl,lj,lc,u0,rfl⟩;have m0:0<=(x/40+((0:Int)+j)*(x/8%5))%26:=Int.emod_nonneg _ (by decide);have m1:(x/40+((0:Int)+j)*(x/8%5))%26<26:=Int.emod_lt_of_pos _ (by decide);exists _,rfl,_,rfl,_,_,rfl,rfl,zBc.of (by decide) (by decide +kernel),_,rfl,_,rfl,_,_,rfl,rfl,qL (by lia),_,_,rfl,rfl,_,_,rfl,rfl,(by show(0:Int)<26; decide),abc,_,_,rfl,rfl,(by decide),zOw m0 m1;refine⟨eD,zJ (by rw[List.length_map,List.length_map]; lia),sH.putNew hD,zA,l++[97+((x/40+((0:Int)+j)*(x/8%5))%26).toNat],?_,by rw[List.length_append,lj]; rfl,λc hc=>?_,_,rfl⟩
   ·rw[List.map_append,List.map_append];rfl
   ·rcases List.mem_append.mp hc with hc | hc
    ·exact lc c hc
    ·rw[List.mem_singleton] at hc;lia
  ·rintro σ zs H2 ⟨s2,eD,l,rfl,lj,lc,u0,rfl⟩;have s12:=s1.trans s2;have er2:=s2 _ _ er;have ll:l.length=sz:=by lia
   refine⟨"", D,l.map chS,rfl,rfl,SqL.of eD,by rw[zJw,ll]; exact Nat.le_trans w8 (by decide),?_⟩;rw[zNd];obtain⟨pl,epl⟩:∃ n:Nat,x/7%(1+x%8)=(n:Int):=⟨(x/7%(1+x%8)).toNat,by rw[Int.toNat_of_nonneg (Int.emod_nonneg _ (by lia))]⟩;have plt:pl<l.length:=by
    have:=Int.emod_lt_of_pos (x/7) (show 0<1+x%8 by lia);lia
   exists _,rfl,_,_,rfl,rfl,zBc.of (by decide) (by decide +kernel),_,rfl,_,_,rfl,rfl,(by show(0:Int)<1+x%8; lia);obtain⟨xn,exn⟩:∃ n:Nat,x=(n:Int):=⟨x.toNat,by lia⟩;refine⟨26,rfl,by decide,by decide,uG (lo:=0) (n:=26) (λk σ H'=>H'=H2/\∃ m:List Nat,(txt m ∉ ns\/((k=0\/∃ j,j+1=k/\m=l.set pl (97+(xn+j)%26))/\∀ j,j+1<k->txt (l.set pl (97+(xn+j)%26))∈ns))/\m.length=l.length/\(∀ c,m.set pl c=l.set pl c)/\(∀ c∈m,97<=c/\c<=122) /\
     ∃ u10 u11:Option V,σ=[some (.ref a),some (.int many),some (.str abc),some (.ref r),some (.int (0+i)),some (.int x),some (.int (1+x%8)),some (.int (x/8%5)),some (.str (txt m)),some (.int (x/7%(1+x%8))),u10,u11])
    ⟨rfl,l,.inr ⟨.inl rfl,λj hj=>absurd hj (Nat.not_lt_zero _)⟩,rfl,λ_=>rfl,lc,u10,u11,rfl⟩ ?_ ?_⟩
   ·rintro k σ H' hk ⟨rfl,m,hm,lm,hset,mc,v10,v11,rfl⟩;exists _,rfl,_,rfl,r,_,rfl,.inl (SqL.of er2),rfl,zKu ns,_,rfl;show if inV (.str (txt m)) (ns.map V.str)=true then _ else _
    rw[zPb];refine ifD (λhin=>?_) (λhin=>?_)
    ·have b0:0<=(x+((0:Int)+k))%26:=Int.emod_nonneg _ (by decide);have b1:(x+((0:Int)+k))%26<26:=Int.emod_lt_of_pos _ (by decide);exists _,rfl,_,rfl,_,rfl,_,_,rfl,rfl,_,_,rfl,rfl,(by show(0:Int)<26; decide),abc,_,_,rfl,rfl,(by decide),zOw b0 b1;have lz:(txt m).length<=sizeLine:=by rw[tN,lm,ll]; exact Nat.le_trans w8 (by decide)
     have es:(97+((x+((0:Int)+k))%26).toNat)=97+(xn+k)%26:=by lia
     have c1:Txt.slice (txt m) none (some (x/7%(1+x%8)))++chS (97+((x+((0:Int)+k))%26).toNat)++Txt.slice (txt m) (some (x/7%(1+x%8)+1)) none=txt (l.set pl (97+(xn+k)%26)):=by
      rw[epl,zNr (by lia),es,hset]
     refine⟨_,rfl,_,rfl,_,rfl,txt m,rfl,lz,_,rfl,_,_,rfl,rfl,?_,_,rfl,_,rfl,_,_,rfl,rfl,_,rfl,txt m,rfl,lz,_,_,rfl,rfl,?_,?_⟩
     ·exact Nat.le_trans (Nat.add_le_add (Txt.slice_le _ _ _) (Nat.le_refl 1)) (by rw[tN,lm,ll]; exact Nat.le_trans (Nat.add_le_add_right w8 1) (by decide))
     ·rw[strLen_append];exact Nat.le_trans (Nat.add_le_add (Nat.add_le_add (Txt.slice_le _ _ _) (Nat.le_refl 1)) (Txt.slice_le _ _ _)) (by rw[tN,lm,ll]; exact Nat.le_trans (Nat.add_le_add (Nat.add_le_add_right w8 1) w8) (by decide))
     ·refine⟨rfl,l.set pl (97+(xn+k)%26),.inr ⟨.inr ⟨k,rfl,rfl⟩,λj hj=>?_⟩,List.length_set,λc=>List.set_set _,λc hc=>?_,_,_,by rw[<- c1]; rfl⟩
      ·rcases hm with hm | ⟨hm,hall⟩
       ·exact absurd hin hm
       ·by_cases e:j+1=k
        ·rcases hm with hm | ⟨j0,e0,rfl⟩
         ·lia
         ·rw[show j=j0 by lia];exact hin
        ·exact hall j (by lia)
      ·rcases List.mem_or_eq_of_mem_set hc with hc | hc
       ·exact lc c hc
       ·lia
    ·exact⟨rfl,m,.inl hin,lm,hset,mc,_,_,rfl⟩
   ·rintro σ H' ⟨rfl,m,hm,lm,hset,mc,v10,v11,rfl⟩;have out:txt m ∉ ns:=by
     rcases hm with hm | ⟨hm,hall⟩
     ·exact hm
     ·intro hin;refine zQm (l:=l) (p:=pl) (r:=xn) plt (ws:=ns) (by lia) λj hj=>?_;by_cases e:j+1<26
      ·exact hall j e
      ·rcases hm with hm | ⟨j0,e0,rfl⟩
       ·lia
       ·rw[show j=j0 by lia];exact hin
    exists _,rfl,.inl ⟨rfl,_,SqL.of er2⟩,_,rfl,r,_,_,rfl,rfl,er2,zJ (by rw[List.length_map]; lia);refine⟨ns++[txt m],s12.putNew hr0,?_,by rw[List.length_append,ln]; rfl,λn hn=>?_,?_,_,_,_,_,_,_,_,_,rfl⟩
    ·rw[zA,List.map_append];rfl
    ·rcases List.mem_append.mp hn with hn | hn
     ·exact okn n hn
     ·rw[List.mem_singleton] at hn;rw[hn];exact zJl (by lia) (by lia) mc
    ·refine List.nodup_append.mpr ⟨nd,by simp,λx hx y hy=>?_⟩;rw[List.mem_singleton] at hy;rw[hy];exact λz=>out (z ▸ hx)
 ·rintro σ H1 ⟨ns,s1,er,ln,okn,nd,u4,u5,u6,u7,u8,u9,u10,u11,rfl⟩;exact⟨_,rfl,q r ns H1 s1 hr0 er (by rw[ln,Int.toNat_natCast]) okn nd⟩
def zD4(_:PySem.W.Frag):Sp:=λvs H Q _=>∃(d:Addr)(v:V)(S:BS)(D:Deed),vs=[.ref d,v]/\Rep H D.dt v/\zMi H d S/\okD S D/\Few S/\zJ2 S /\
 ∀(d':Addr)(H':Hp),Same H H'->H d'=none->LwN H H' d' (aft S D)->Q (.ref d') H'
theorem zJn(F:Fun K "_law_after" "_law_after" qD f fd)(Z:Zs mg)(CB:Cb P w mg base)  : yP P w K mg base CX0 1 f fd ["_law_m", "_law_deed"] (zD4 K):=by
 specialize zDt
 ·obtain⟨d,v,S,D,rfl,_⟩:=h;rfl
 obtain⟨d,v,S,D,rfl,rep,⟨m,b,r,n,lw⟩,ok,few,fr,q⟩:=h;obtain⟨mk,hm,km⟩:=lw.ma;obtain⟨bk,hb,kb⟩:=lw.ba;obtain⟨rs,hr1,kr⟩:=lw.ru;obtain⟨nk,hn,kn⟩:=lw.no;have lm:mk.length=S.marks.length:=by rw[km.length,zE4]
 have ln:nk.length=S.notes.length:=by rw[kn.length,zLe]
 have lr:rs.length=S.runs.length:=by rw[kr.length,List.length_map]
 have fm:=few.ma;have fr':=few.ru;have fn:=few.no;have dg:∀{H':Hp}{k:Str}{x:V},Same H H'->vA (lwK m b r n S.coming) (.inr k)=some x->zMb H' d (.str k) (some x):=λ{H' k x} s e=>.inl ⟨_,.inr k,Rd.same lw.at_ s,rfl,e.symm⟩
 refine'⟨_,(zB (zV 2 zDt.nd (zHa (xE zQ (xN rB rfl Z.dict zAc (zF (zN (zW hr) (pv 0) zQ (λ_ _=>rfl)) zL)) (xE zQ (xN rB rfl Z.dict zAc (zF (zN (zW hr) (pv 0) zQ (λ_ _=>rfl)) zL)) (xE zQ (xN zA2 rfl Z.list zAo (zF (zN (zW hr) (pv 0) zQ (λ_ _=>rfl)) zL)) zHe))) rfl rfl (λz=>nomatch z) (by decide)))
   (zB (vE (zW hr) (pv 2) zQ (xN rB rfl Z.dict zAc (zF (zN (zW hr) (pv 0) zQ (λ_ _=>rfl)) zL)) rfl)
   (zB (vE (zW hr) (pv 2) zQ (zN (zW hr) (pv 0) zQ (λ_ _=>rfl)) rfl)
   (zB (yY (yT zFw ?_ ?_ (by with_unfolding_all rfl)) (zD (vE (zW hr) (zN (zW hr) (pv 2) zQ (λ_ _=>rfl)) ?_ (uS zFs (pv 1) (vX wA) sR) rfl)) (zD (yY ?_ (zD (zU (zEl (zN (zW hr) (pv 2) zQ (λ_ _=>rfl)) ?_ ⟨rfl,rfl,rfl,rfl⟩))) (zD (yY ?_ (zD (vE (zW hr) (zN (zW hr) (pv 2) zQ (λ_ _=>rfl)) ?_ ?_ rfl)) (zD (yY ?_ (zD (zU (zEl (zN (zW hr) (pv 2) zQ (λ_ _=>rfl)) ?_ ⟨rfl,rfl,rfl,rfl⟩))) (zD (yY ?_ (zD (zU (zAm (zN (zW hr) (pv 2) zQ (λ_ _=>rfl)) (zF (uS zFs (pv 1) (vX wA) sR) zL)))) (zD (yY ?_ (zD (qM (uS zFs (pv 1) (vX wA) sR) (zRq (zN (zW hr) (pv 2) zQ (λ_ _=>rfl)) ?_ zNs))) (zD (yY ?_ (zD (zU (zEl (zN (zW hr) (pv 2) zQ (λ_ _=>rfl)) ?_ ⟨rfl,rfl,rfl,rfl⟩))) (zB (vE (zW hr) (zN (zW hr) (pv 2) zQ (λ_ _=>rfl)) (zN (zW hr) (pv 0) zQ (λ_ _=>rfl)) (pv 1) rfl)
   (zD (vE (zW hr) (pv 2) zQ (sS zIx (zN (zW hr) (pv 0) zQ (λ_ _=>rfl)) wA) rfl))))))))))))))))
   (zD (zS (pv 2))))))),?_⟩
 nofun
 intro p hp;have s1:=zC hp (.dK []);refine⟨_,rfl,d,.ref m,rfl,dg s1 vN,m,mk,rfl,Rd.same hm s1,λmc hmc=>?_⟩;have s2:=s1.trans (zC hmc (.dK mk));refine⟨_,rfl,d,.ref b,rfl,dg s2 zOa,b,bk,rfl,Rd.same hb s2,λbc hbc=>?_⟩;have s3:=s2.trans (zC hbc (.dK bk));refine⟨_,rfl,d,.ref r,rfl,dg s3 zAi,r,rs,rfl,.inl (SqL.of (s3 _ _ hr1)),λrc hrc=>?_⟩;have s4:=s3.trans (zC hrc (.lst rs));have ep1:upd H p (.dK []) p=some (.dK []):=zA;have npm:p≠mc:=zH ep1 hmc;have ep2:=(zC hmc (.dK mk)) _ _ ep1;have em2:upd (upd H p (.dK [])) mc (.dK mk) mc=some (.dK mk):=zA;have npb:p≠bc:=zH ep2 hbc;have nmb:mc≠bc:=zH em2 hbc;have ep3:=(zC hbc (.dK bk)) _ _ ep2;have em3:=(zC hbc (.dK bk)) _ _ em2;have eb3:upd (upd (upd H p (.dK [])) mc (.dK mk)) bc (.dK bk) bc=some (.dK bk):=zA;have npr:p≠rc:=zH ep3 hrc;have nmr:mc≠rc:=zH em3 hrc;have nbr:bc≠rc:=zH eb3 hrc;have ep4:=(zC hrc (.lst rs)) _ _ ep3;have em4:=(zC hrc (.lst rs)) _ _ em3;have eb4:=(zC hrc (.lst rs)) _ _ eb3;have er4:upd (upd (upd (upd H p (.dK [])) mc (.dK mk)) bc (.dK bk)) rc (.lst rs) rc=some (.lst rs):=zA;generalize upd (upd (upd (upd H p (.dK [])) mc (.dK mk)) bc (.dK bk)) rc (.lst rs)=H4 at s4 ep4 em4 eb4 er4;exists ep4,[(.inr "marks", .ref mc),(.inr "banks", .ref bc),(.inr "runs", .ref rc)],rfl,(show 3<=15 by decide);rw[zL8];have s5:Same H (upd H4 p (.dK [(.inr "marks", .ref mc),(.inr "banks", .ref bc),(.inr "runs", .ref rc)])):=λx o e=>by rw[zG (zH e hp)]; exact s4 x o e
 refine⟨_,rfl,d,.ref n,rfl,dg s5 zBt,n,nk,rfl,Rd.same hn s5,λnc hnc=>?_⟩;have npn:p≠nc:=zH zA hnc;have hnc4:H4 nc=none:=by rw[zG npn.symm] at hnc; exact hnc
 have nmn:mc≠nc:=zH em4 hnc4;have nbn:bc≠nc:=zH eb4 hnc4;have nrn:rc≠nc:=zH er4 hnc4;have s6:=s5.trans (zC hnc (.dK nk));exists _,rfl,p,_,rfl,zG7.k (k:=.inr "notes") (by rw[zG npn,zA]) (zJ (by show 3<=1000; decide));rw[zPs];have s7:Same H (upd (upd (upd H4 p (.dK [(.inr "marks", .ref mc),(.inr "banks", .ref bc),(.inr "runs", .ref rc)])) nc (.dK nk)) p (.dK [(.inr "marks", .ref mc),(.inr "banks", .ref bc),(.inr "runs", .ref rc),(.inr "notes", .ref nc)])):=λx o e=>by rw[zG (zH e hp)]; exact s6 x o e
 exists _,rfl,d,.int S.coming,rfl,dg s7 zCm,_,rfl,p,_,rfl,zG7.k (k:=.inr "next") zA (zJ (by show 4<=1000; decide));rw[zPd];have keep:∀ x o,x≠p->x≠nc->H4 x=some o->upd (upd (upd (upd H4 p (.dK [(.inr "marks", .ref mc),(.inr "banks", .ref bc),(.inr "runs", .ref rc)])) nc (.dK nk)) p (.dK [(.inr "marks", .ref mc),(.inr "banks", .ref bc),(.inr "runs", .ref rc),(.inr "notes", .ref nc)])) p (.dK [(.inr "marks", .ref mc),(.inr "banks", .ref bc),(.inr "runs", .ref rc),(.inr "notes", .ref nc),(.inr "next", .int S.coming)]) x=some o:=λx o h1 h2 e=>by
  rw[zG h1,zG h1,zG h2,zG h1]; exact e
 have em:=keep _ _ npm.symm nmn em4;have eb:=keep _ _ npb.symm nbn eb4;have er:=keep _ _ npr.symm nrn er4;have s8:Same H _:=λx o e=>keep x o (zH e hp) (zH (s5 _ _ e) hnc) (s4 _ _ e);have en:upd (upd (upd (upd H4 p (.dK [(.inr "marks", .ref mc),(.inr "banks", .ref bc),(.inr "runs", .ref rc)])) nc (.dK nk)) p (.dK [(.inr "marks", .ref mc),(.inr "banks", .ref bc),(.inr "runs", .ref rc),(.inr "notes", .ref nc)])) p (.dK [(.inr "marks", .ref mc),(.inr "banks", .ref bc),(.inr "runs", .ref rc),(.inr "notes", .ref nc),(.inr "next", .int S.coming)]) nc=some (.dK nk):=by rw[zG npn.symm,zG npn.symm,zA]
 have ep:upd (upd (upd (upd H4 p (.dK [(.inr "marks", .ref mc),(.inr "banks", .ref bc),(.inr "runs", .ref rc)])) nc (.dK nk)) p (.dK [(.inr "marks", .ref mc),(.inr "banks", .ref bc),(.inr "runs", .ref rc),(.inr "notes", .ref nc)])) p (.dK [(.inr "marks", .ref mc),(.inr "banks", .ref bc),(.inr "runs", .ref rc),(.inr "notes", .ref nc),(.inr "next", .int S.coming)]) p=some (.dK [(.inr "marks", .ref mc),(.inr "banks", .ref bc),(.inr "runs", .ref rc),(.inr "notes", .ref nc),(.inr "next", .int S.coming)]):=zA;clear keep s7 s6;generalize upd (upd (upd (upd H4 p (.dK [(.inr "marks", .ref mc),(.inr "banks", .ref bc),(.inr "runs", .ref rc)])) nc (.dK nk)) p (.dK [(.inr "marks", .ref mc),(.inr "banks", .ref bc),(.inr "runs", .ref rc),(.inr "notes", .ref nc)])) p (.dK [(.inr "marks", .ref mc),(.inr "banks", .ref bc),(.inr "runs", .ref rc),(.inr "notes", .ref nc),(.inr "next", .int S.coming)])=H8 at s8 ep em eb er en ⊢;have ep:H8 p=some (.dK (lwK mc bc rc nc S.coming)):=ep;have km8:=km.to (.of s8);have kb8:=kb.to (.of s8);have kr8:=kr.to (.of s8);have kn8:=kn.to (.of s8);have rep8:=rep.to (.of s8);have nmH:H mc=none:=s1.free hmc;have nrH:H rc=none:=s3.free hrc;have nnH:H nc=none:=s5.free hnc
 match D,rep8,ok,q with
 | .mark nm x y,rep8,ok,q =>
  obtain⟨t,rfl,ht⟩:=zH3 rep8;refine⟨_,rfl,t,_,0,.str "mark", rfl,rfl,.inr (SqT.of ht),rfl,sz2,λz hz=>?_⟩;have sz:=zC hz (.tup [.str "mark", .str "move"]);exists z,_,rfl,.inr (SqT.of zA),rfl,rfl,_,rfl;have s9:=s8.trans sz;have ep9:=sz _ _ ep;have em9:=sz _ _ em;have eb9:=sz _ _ eb;have er9:=sz _ _ er;have en9:=sz _ _ en;have ht9:=sz _ _ ht;have km9:=km8.to (.of sz);have kb9:=kb8.to (.of sz);have kr9:=kr8.to (.of sz);have kn9:=kn8.to (.of sz);have rep9:=rep8.to (.of sz);generalize upd H8 z (.tup [.str "mark", .str "move"])=H9 at s9 ep9 em9 eb9 er9 en9 ht9 km9 kb9 kr9 kn9 rep9 ⊢;have tq:Sq K H9 t _:=.inr (SqT.of ht9);refine zFh ?_;refine⟨_,rfl,_,rfl,t,_,rfl,SqT.of ht9,(λz=>absurd z.1 (by show ¬ HT.sIx 4 0 (some 2)=0; decide)),λc hc=>?_⟩;have sc:=zC hc (.tup [.int x,.int y]);have em10:=sc _ _ em9;exists _,rfl,p,.ref mc,rfl,.inl ⟨_,.inr "marks", .inl (sc _ _ ep9),rfl,vN.symm⟩,_,rfl,t,_,1,.str nm,rfl,rfl,.inr (SqT.of (sc _ _ ht9)),rfl,mc,_,rfl,zG7.k (k:=.inr nm) em10 (zJ (by lia)),_,rfl;have sE:=uD (o:=.dK (tL mk (.inr nm) (.ref c))) em10;have np:=zJr em10;refine q p _ (λx o e=>by rw[zG (zH e nmH)]; exact sc _ _ (s9 _ _ e)) hp ⟨mc,bc,rc,nc,nrH,.inl ?_,⟨_,.inl zA,?_⟩,⟨bk,.inl ?_,(kb9.to (.of sc)).sam sE np⟩,⟨rs,?_,(kr9.to (.of sc)).sam sE np⟩,⟨nk,.inl ?_,(kn9.to (.of sc)).sam sE np⟩⟩
  ·rw[zG npm]; exact sc _ _ ep9
  ·have:=((km9.to (.of sc)).put (k:=.inr nm) (qK (p:=(x,y)) zA)).sam sE np;rw[tK (zE0 ok.2.1)] at this;show xX _ _ (mkE (S.marks++[(nm,x,y)]));rw[zHt];exact this
  ·rw[zG nmb.symm]; exact sc _ _ eb9
  ·rw[zG nmr.symm]; exact sc _ _ er9
  ·rw[zG nmn.symm]; exact sc _ _ en9
 | .sail x y,rep8,ok,q =>
  obtain⟨t,rfl,ht⟩:=zH5 rep8;refine⟨_,rfl,t,_,0,.str "sail", rfl,rfl,.inr (SqT.of ht),rfl,sz2,λz hz=>?_⟩;have sz:=zC hz (.tup [.str "mark", .str "move"]);exists z,_,rfl,.inr (SqT.of zA),rfl,rfl,_,rfl;have s9:=s8.trans sz;have ep9:=sz _ _ ep;have em9:=sz _ _ em;have eb9:=sz _ _ eb;have er9:=sz _ _ er;have en9:=sz _ _ en;have ht9:=sz _ _ ht;have km9:=km8.to (.of sz);have kb9:=kb8.to (.of sz);have kr9:=kr8.to (.of sz);have kn9:=kn8.to (.of sz);have rep9:=rep8.to (.of sz);generalize upd H8 z (.tup [.str "mark", .str "move"])=H9 at s9 ep9 em9 eb9 er9 en9 ht9 km9 kb9 kr9 kn9 rep9 ⊢;have tq:Sq K H9 t _:=.inr (SqT.of ht9);refine rF ?_;exists _,rfl,t,_,0,.str "sail", rfl,rfl,tq,rfl,rfl,_,rfl;refine rF ?_;exists _,rfl,t,_,0,.str "sail", rfl,rfl,tq,rfl,rfl,_,rfl;refine rF ?_;exists _,rfl,t,_,0,.str "sail", rfl,rfl,tq,rfl,rfl,_,rfl;refine rF ?_;exists _,rfl,t,_,0,.str "sail", rfl,rfl,tq,rfl,rfl,_,rfl;refine zFh ?_;refine⟨_,rfl,p,.ref rc,rfl,.inl ⟨_,.inr "runs", .inl ep9,rfl,zAi.symm⟩,.inl ⟨rfl,_,SqL.of er9⟩,_,rfl,_,rfl,t,_,rfl,SqT.of ht9,(λz=>absurd z.1 (by show ¬ HT.sIx 3 0 (some 1)=0; decide)),λc hc=>?_⟩;have sc:=zC hc (.tup [.int x,.int y]);have er10:=sc _ _ er9;exists rc,_,.ref c,rfl,rfl,er10,zJ (by lia),_,rfl;have sE:=uD (o:=.lst (rs++[.ref c])) er10;have np:=wO er10;refine q p _ (λx o e=>by rw[zG (zH e nrH)]; exact sc _ _ (s9 _ _ e)) hp ⟨mc,bc,rc,nc,nrH,.inl ?_,⟨mk,.inl ?_,(km9.to (.of sc)).sam sE np⟩,⟨bk,.inl ?_,(kb9.to (.of sc)).sam sE np⟩,⟨_,zA,?_⟩,⟨nk,.inl ?_,(kn9.to (.of sc)).sam sE np⟩⟩
  ·rw[zG npr]; exact sc _ _ ep9
  ·rw[zG nmr]; exact sc _ _ em9
  ·rw[zG nbr]; exact sc _ _ eb9
  ·show xJ _ ((S.runs++[(x,y)]).map ptD) _;rw[List.map_append];exact(xJ.app (kr9.to (.of sc)) (.one (qK (p:=(x,y)) zA))).sam sE np
  ·rw[zG nrn.symm]; exact sc _ _ en9
 | .bearing mo nm x1 y1 x2 y2,rep8,ok,q =>
  obtain⟨t,_,_,rfl,ht,_⟩:=uU rep8;refine⟨_,rfl,t,_,0,.str "bearing", rfl,rfl,.inr (SqT.of ht),rfl,sz2,λz hz=>?_⟩;have sz:=zC hz (.tup [.str "mark", .str "move"]);exists z,_,rfl,.inr (SqT.of zA),rfl,rfl,_,rfl;have s9:=s8.trans sz;have ep9:=sz _ _ ep;have em9:=sz _ _ em;have eb9:=sz _ _ eb;have er9:=sz _ _ er;have en9:=sz _ _ en;have ht9:=sz _ _ ht;have km9:=km8.to (.of sz);have kb9:=kb8.to (.of sz);have kr9:=kr8.to (.of sz);have kn9:=kn8.to (.of sz);have rep9:=rep8.to (.of sz);generalize upd H8 z (.tup [.str "mark", .str "move"])=H9 at s9 ep9 em9 eb9 er9 en9 ht9 km9 kb9 kr9 kn9 rep9 ⊢;have tq:Sq K H9 t _:=.inr (SqT.of ht9);refine rF ?_;exists _,rfl,t,_,0,.str "bearing", rfl,rfl,tq,rfl,rfl,_,rfl;refine rF ?_;exists _,rfl,t,_,0,.str "bearing", rfl,rfl,tq,rfl,rfl,_,rfl;refine rF ?_;exists _,rfl,t,_,0,.str "bearing", rfl,rfl,tq,rfl,rfl,_,rfl;refine rF ?_;exists _,rfl,t,_,0,.str "bearing", rfl,rfl,tq,rfl,rfl,_,rfl;refine rF ?_;exists _,rfl,t,_,0,.str "bearing", rfl,rfl,tq,rfl,rfl,_,rfl;refine rF ?_;exists _,rfl,t,_,0,.str "bearing", rfl,rfl,tq,rfl,rfl,_,rfl;refine rF ?_;exists _,rfl,_,rfl,p,.ref nc,rfl,.inl ⟨_,.inr "notes", .inl ep9,rfl,zBt.symm⟩,_,rfl,d,.int S.coming,rfl,dg s9 zCm,nc,_,rfl,zG7.k (k:=.inl S.coming) en9 (zJ (by lia));have sE:=uD (o:=.dK (tL nk (.inl S.coming) (.ref t))) en9;have np:=zJr en9;have s10:Same H (upd H9 nc (.dK (tL nk (.inl S.coming) (.ref t)))):=λx o e=>by rw[zG (zH e nnH)]; exact s9 _ _ e
  have ep10:upd H9 nc (.dK (tL nk (.inl S.coming) (.ref t))) p=some (.dK (lwK mc bc rc nc S.coming)):=by rw[zG npn]; exact ep9
  exists _,rfl,d,.int S.coming,rfl,dg s10 zCm,_,_,rfl,rfl,_,rfl,p,_,rfl,zG7.k (k:=.inr "next") ep10 (zJ (by show 5<=1000; decide)),_,rfl;rw[zCu];have sE2:=uD (o:=.dK (lwK mc bc rc nc (S.coming+1))) ep10;have np2:=zJr ep10;refine q p _ (λx o e=>by rw[zG (zH e hp)]; exact s10 _ _ e) hp ⟨mc,bc,rc,nc,nrH,.inl zA,⟨mk,.inl ?_,(km9.sam sE np).sam sE2 np2⟩,⟨bk,.inl ?_,(kb9.sam sE np).sam sE2 np2⟩,⟨rs,?_,(kr9.sam sE np).sam sE2 np2⟩,⟨tL nk (.inl S.coming) (.ref t),.inl ?_,?_⟩⟩
  ·rw[zG npm.symm,zG nmn]; exact em9
  ·rw[zG npb.symm,zG nbn]; exact eb9
  ·rw[zG npr.symm,zG nrn]; exact er9
  ·rw[zG npn.symm,zA]
  ·have:=((kn9.put (k:=.inl S.coming) rep9).sam sE np).sam sE2 np2;rw[tK (zEn fr)] at this;show xX _ _ (ntE (S.notes++[(S.coming,_)]));rw[zHz];exact this
 | .range mo l1 r1,rep8,ok,q =>
  obtain⟨t,rfl,ht⟩:=rM rep8;refine⟨_,rfl,t,_,0,.str "range", rfl,rfl,.inr (SqT.of ht),rfl,sz2,λz hz=>?_⟩;have sz:=zC hz (.tup [.str "mark", .str "move"]);exists z,_,rfl,.inr (SqT.of zA),rfl,rfl,_,rfl;have s9:=s8.trans sz;have ep9:=sz _ _ ep;have em9:=sz _ _ em;have eb9:=sz _ _ eb;have er9:=sz _ _ er;have en9:=sz _ _ en;have ht9:=sz _ _ ht;have km9:=km8.to (.of sz);have kb9:=kb8.to (.of sz);have kr9:=kr8.to (.of sz);have kn9:=kn8.to (.of sz);have rep9:=rep8.to (.of sz);generalize upd H8 z (.tup [.str "mark", .str "move"])=H9 at s9 ep9 em9 eb9 er9 en9 ht9 km9 kb9 kr9 kn9 rep9 ⊢;have tq:Sq K H9 t _:=.inr (SqT.of ht9);refine rF ?_;exists _,rfl,t,_,0,.str "range", rfl,rfl,tq,rfl,rfl,_,rfl;refine rF ?_;exists _,rfl,t,_,0,.str "range", rfl,rfl,tq,rfl,rfl,_,rfl;refine rF ?_;exists _,rfl,t,_,0,.str "range", rfl,rfl,tq,rfl,rfl,_,rfl;refine rF ?_;exists _,rfl,t,_,0,.str "range", rfl,rfl,tq,rfl,rfl,_,rfl;refine rF ?_;exists _,rfl,t,_,0,.str "range", rfl,rfl,tq,rfl,rfl,_,rfl;refine rF ?_;exists _,rfl,t,_,0,.str "range", rfl,rfl,tq,rfl,rfl,_,rfl;refine rF ?_;exists _,rfl,_,rfl,p,.ref nc,rfl,.inl ⟨_,.inr "notes", .inl ep9,rfl,zBt.symm⟩,_,rfl,d,.int S.coming,rfl,dg s9 zCm,nc,_,rfl,zG7.k (k:=.inl S.coming) en9 (zJ (by lia));have sE:=uD (o:=.dK (tL nk (.inl S.coming) (.ref t))) en9;have np:=zJr en9;have s10:Same H (upd H9 nc (.dK (tL nk (.inl S.coming) (.ref t)))):=λx o e=>by rw[zG (zH e nnH)]; exact s9 _ _ e
  have ep10:upd H9 nc (.dK (tL nk (.inl S.coming) (.ref t))) p=some (.dK (lwK mc bc rc nc S.coming)):=by rw[zG npn]; exact ep9
  exists _,rfl,d,.int S.coming,rfl,dg s10 zCm,_,_,rfl,rfl,_,rfl,p,_,rfl,zG7.k (k:=.inr "next") ep10 (zJ (by show 5<=1000; decide)),_,rfl;rw[zCu];have sE2:=uD (o:=.dK (lwK mc bc rc nc (S.coming+1))) ep10;have np2:=zJr ep10;refine q p _ (λx o e=>by rw[zG (zH e hp)]; exact s10 _ _ e) hp ⟨mc,bc,rc,nc,nrH,.inl zA,⟨mk,.inl ?_,(km9.sam sE np).sam sE2 np2⟩,⟨bk,.inl ?_,(kb9.sam sE np).sam sE2 np2⟩,⟨rs,?_,(kr9.sam sE np).sam sE2 np2⟩,⟨tL nk (.inl S.coming) (.ref t),.inl ?_,?_⟩⟩
  ·rw[zG npm.symm,zG nmn]; exact em9
  ·rw[zG npb.symm,zG nbn]; exact eb9
  ·rw[zG npr.symm,zG nrn]; exact er9
  ·rw[zG npn.symm,zA]
  ·have:=((kn9.put (k:=.inl S.coming) rep9).sam sE np).sam sE2 np2;rw[tK (zEn fr)] at this;show xX _ _ (ntE (S.notes++[(S.coming,_)]));rw[zHz];exact this
def DR(H:Hp):Nat->V->V->Prop
 | 0,x,y=>x=y/\((∃ i,x=.int i)\/∃ b,x=.bl b)
 | n+1,x,y=>(x=y/\((∃ i,x=.int i)\/∃ b,x=.bl b))\/∃(a b:Addr)(xs ys:List V)(l:Bool),x=.ref a/\y=.ref b/\H a=some (if l then .lst xs else .tup xs)/\H b=some (if l then .lst ys else .tup ys)/\xs.length=ys.length/\xs.length<=1000 /\
   ∀(i:Nat)(u v:V),xs[i]?=some u->ys[i]?=some v->DR H n u v
theorem DR.same{H H':Hp}(e:Same H H'):∀{n:Nat}{x y:V},DR H n x y->DR H' n x y
 | 0,_,_,h=>h
 | n+1,x,y,h=>by
  rcases h with h | ⟨a,b,xs,ys,l,e1,e2,h1,h2,h3,h4,h5⟩
  ·exact .inl h
  ·exact .inr ⟨a,b,xs,ys,l,e1,e2,e _ _ h1,e _ _ h2,h3,h4,λi u v g1 g2=>DR.same e (h5 i u v g1 g2)⟩
theorem DR.int{H:Hp}{n:Nat}{x y:Int}(h:x=y):DR H n (.int x) (.int y):=by
 subst h;cases n with
 | zero=>exact⟨rfl,.inl ⟨x,rfl⟩⟩
 | succ m=>exact .inl ⟨rfl,.inl ⟨x,rfl⟩⟩
theorem DR.bl{H:Hp}{n:Nat}{x y:Bool}(h:x=y):DR H n (.bl x) (.bl y):=by
 subst h;cases n with
 | zero=>exact⟨rfl,.inr ⟨x,rfl⟩⟩
 | succ m=>exact .inl ⟨rfl,.inr ⟨x,rfl⟩⟩
theorem DR.tupI{H:Hp}{n:Nat}{a b:Addr}{xs ys:List Int}(h1:H a=some (.tup (xs.map V.int)))(h2:H b=some (.tup (ys.map V.int)))(e:xs=ys)(hl:xs.length<=1000):DR H (n+1) (.ref a) (.ref b):=by
 subst e;refine .inr ⟨a,b,xs.map V.int,xs.map V.int,false,rfl,rfl,h1,h2,rfl,by rw[List.length_map]; exact hl,λi u v g1 g2=>?_⟩;rw[g1] at g2;cases g2;obtain⟨m,_,rfl⟩:=wQ g1;exact DR.int rfl
def zEg:Nat->Sp
 | 0=>λ_ _ _ _=>False
 | n+1=>λvs H Q _=>∃(x y:V),vs=[x,y]/\DR H n x y/\∀ H',Same H H'->Q (.bl true) H'
def zGh(_:PySem.W.Frag):Sp:=zEg 6
structure KT(K:PySem.W.Frag)(ty:Value)(bb bi bl bt bs:Bool):Prop where
 b:PySem.W.kitOne K ty (.type "bool")=some bb
 i:PySem.W.kitOne K ty (.type "int")=some bi
 l:PySem.W.kitOne K ty (.type "list")=some bl
 t:PySem.W.kitOne K ty (.type "tuple")=some bt
 s:PySem.W.kitOne K ty (.type "str")=some bs
theorem zH7{f:Addr}{fd:FuncData}(F:Fun K "_law_same" "_law_same" qN f fd)(Z:Zs mg)(bS:zAk K fd ["_law_told", "_law_due"] [])(kS:PySem.W.keepIn K (.ref f)=true)(mS:mg "_law_same" = some (.ref f)) :
  ∀ n:Nat,yP P w K mg base CX0 n f fd ["_law_told", "_law_due"] (zEg n)
 | 0=>⟨λ_ _ _ _ h=>h.elim,λ_ _ _ _ _ _ _ _ _ _ _ _ _ h=>h.elim⟩
 | n+1=>by
  have ih:=zH7 F Z bS kS mS n;have yBr:Has P w K mg base "_law_same" n ["_law_told", "_law_due"] (zEg n):=⟨f,fd,ih,bS,kS,mS⟩
  specialize zKt
  ·obtain⟨x,y,rfl,_⟩:=h;rfl
  obtain⟨x,y,rfl,hD,q⟩:=h;have hr_self:=hr
  refine'⟨_,(zB (yY ?_ (zD (zS zGz)) yE)
   (zB (yY ?_ (zD (zS zGz)) yE)
   (zB (yY ?_ (zD (zS ?_)) yE)
   (zD (zS (zLr ?_ (zLq (yB (sI rfl) rfl Z.all zGv (zF (wM (T:=["_law_one", "_law_other"]) (caps:=[]) ⟨rfl,by decide +kernel,by decide +kernel,rfl,True.intro⟩ rfl (zR5 rfl Z.zip (zF (pv 0) (zF (pv 1) zL))) (λ_=>(sC rfl (yA (uL 0 (show(["_law_one", "_law_other"]:List Str).Nodup by decide +kernel)) (yA (uL 1 (show(["_law_one", "_law_other"]:List Str).Nodup by decide +kernel)) uH)))) (λ_=>yW) (λ_=>(xT yBr hr_self rfl (zF (pv 0) (zF (pv 1) zL))))) zL))))))))),?_⟩
  nofun
  have kinds:∃(t:Value)(bb bi bl bt bs:Bool),TyOf K H x t/\TyOf K H y t/\KT K t bb bi bl bt bs/\((bl=false/\bt=false/\x=y/\((∃ i,x=.int i)\/∃ b,x=.bl b)) \/
    ∃(m:Nat)(a b:Addr)(xs ys:List V)(l:Bool),bl=l/\bt = !l/\n=m+1/\x=.ref a/\y=.ref b/\H a=some (if l then .lst xs else .tup xs)/\H b=some (if l then .lst ys else .tup ys)/\xs.length=ys.length/\xs.length<=1000 /\
     ∀(i:Nat)(u v:V),xs[i]?=some u->ys[i]?=some v->DR H m u v):=by
   have zR4:(x=y/\((∃ i,x=.int i)\/∃ b,x=.bl b))->∃(t:Value)(bb bi bl bt bs:Bool),TyOf K H x t/\TyOf K H y t/\KT K t bb bi bl bt bs/\(bl=false/\bt=false/\x=y/\((∃ i,x=.int i)\/∃ b,x=.bl b)):=λh=>by
    obtain⟨rfl,h⟩:=h;rcases h with ⟨i,rfl⟩ | ⟨b,rfl⟩
    ·exact⟨_,_,_,_,_,_,.int i,.int i,⟨rfl,rfl,rfl,rfl,rfl⟩,rfl,rfl,rfl,.inl ⟨i,rfl⟩⟩
    ·exact⟨_,_,_,_,_,_,.bl b,.bl b,⟨rfl,rfl,rfl,rfl,rfl⟩,rfl,rfl,rfl,.inr ⟨b,rfl⟩⟩
   cases n with
   | zero =>
    obtain⟨t,bb,bi,bl,bt,bs,h1,h2,h3,h4⟩:=zR4 hD;exact⟨t,bb,bi,bl,bt,bs,h1,h2,h3,.inl h4⟩
   | succ m =>
    rcases hD with h | ⟨a,b,xs,ys,l,e1,e2,h1,h2,h3,h4,h5⟩
    ·obtain⟨t,bb,bi,bl,bt,bs,h1,h2,h3,h4⟩:=zR4 h;exact⟨t,bb,bi,bl,bt,bs,h1,h2,h3,.inl h4⟩
    ·subst e1 e2;cases l with
     | true=>exact⟨_,_,_,_,_,_,.lst h1,.lst h2,⟨rfl,rfl,rfl,rfl,rfl⟩,.inr ⟨m,a,b,xs,ys,true,rfl,rfl,rfl,rfl,rfl,h1,h2,h3,h4,h5⟩⟩
     | false=>exact⟨_,_,_,_,_,_,.tup h1,.tup h2,⟨rfl,rfl,rfl,rfl,rfl⟩,.inr ⟨m,a,b,xs,ys,false,rfl,rfl,rfl,rfl,rfl,h1,h2,h3,h4,h5⟩⟩
  obtain⟨t,bb,bi,bl,bt,bs,tx,ty,kt,rest⟩:=kinds;exists _,rfl,_, "bool", t,bb,rfl,tx,kt.b,_,rfl,_, "bool", t,bb,rfl,ty,kt.b,rfl,_,rfl;refine ifN (λz=>absurd rfl z) (λ_=>?_);exists _,rfl,_, "int", t,bi,rfl,tx,kt.i,_,rfl,_, "int", t,bi,rfl,ty,kt.i,rfl,_,rfl;refine ifN (λz=>absurd rfl z) (λ_=>?_);exists _,rfl,_, "list", t,bl,rfl,tx,kt.l,_,rfl,_, "list", t,bl,rfl,ty,kt.l,rfl,_,rfl;refine ifN (λz=>absurd rfl z) (λ_=>?_);exists _,rfl,_, "tuple", t,bt,rfl,tx,kt.t,_,rfl,_, "tuple", t,bt,rfl,ty,kt.t,rfl,_,rfl;refine ifN (λz=>absurd rfl z) (λ_=>?_);exists _,rfl,_, "list", t,bl,rfl,ty,kt.l,_,rfl;rcases rest with ⟨rfl,rfl,rfl,hs⟩ | ⟨m,a,b,xs,ys,l,rfl,rfl,rfl,rfl,rfl,ha,hb,hlen,h1000,hel⟩
  ·refine zFh ?_;exists _,rfl,_, "tuple", t,false,rfl,ty,kt.t,_,rfl;refine zFh ?_;exists _,rfl,_, "str", t,bs,rfl,tx,kt.s,_,rfl,_, "str", t,bs,rfl,ty,kt.s,rfl,_,rfl;rw[decide_eq_true rfl];refine zFh ?_;refine⟨_,rfl,_,rfl,?_,?_⟩
   ·rcases hs with ⟨i,rfl⟩ | ⟨b,rfl⟩ <;> rfl
   ·rw[decide_eq_true rfl];exact q H (Same.refl H)
  ·have SA:SqB bl K H a xs:=by
    cases bl
    ·exact SqT.of ha
    ·exact SqL.of ha
   have SB:SqB bl K H b ys:=by
    cases bl
    ·exact SqT.of hb
    ·exact SqL.of hb
   have SA':SqL K H a xs\/SqT K H a xs:=by
    cases bl
    ·exact .inr SA
    ·exact .inl SA
   have SB':SqL K H b ys\/SqT K H b ys:=by
    cases bl
    ·exact .inr SB
    ·exact .inl SB
   have keep:∀(H':Hp),Same H H'->SqB bl K H' a xs/\SqB bl K H' b ys:=λH' e=>by
    cases bl
    ·exact⟨SqT.same SA e,SqT.same SB e⟩
    ·exact⟨e.seq SA,e.seq SB⟩
   cases hbl:bl with
   | true =>
    refine rF ?_;refine rF ?_;exists _,rfl,a,xs,rfl,SA',_,rfl,b,ys,rfl,SB',rfl,_,rfl;rw[decI (by rw[hlen])];refine zFh ?_;refine⟨_,rfl,_,rfl,bl,bl,a,b,xs,ys,rfl,SA,SB,λc D hD=>zGx (K:=K) (xs:=xs) (ys:=ys) (λi σ zs H'=>Same H H'/\H' D=some (.lst zs)/\zs=(List.replicate i true).map V.bl/\i<=xs.length/\∃ u v,σ=[u,v])
     ⟨zC hD _,zA,rfl,Nat.zero_le _,none,none,rfl⟩ (λi σ zs H' ⟨e,e2,_⟩=>⟨(keep H' e).1,(keep H' e).2,e2⟩) ?_ ?_⟩
    ·rintro i u v T σ zs H' hu hv hT ⟨e,e2,rfl,hi,o1,o2,rfl⟩;have hil:i<xs.length:=(List.getElem?_eq_some_iff.mp hu).1;have s2:=zC hT (.tup [u,v]);refine⟨T,[u,v],rfl,SqT.of zA,rfl,u,[v],rfl,v,[],rfl,rfl,_,rfl,_,rfl,u,v,rfl,(hel i u v hu hv).same (e.trans s2),λH4 s4=>?_⟩;have e4:=s4 _ _ (s2 _ _ e2);refine⟨e4,zJ (by rw[List.length_map,List.length_replicate]; lia),λp o z=>?_,zA,?_,hil,_,_,rfl⟩
     ·rw[zG (zH z hD)];exact s4 _ _ (s2 _ _ (e _ _ z))
     ·rw[List.replicate_succ',List.map_append];rfl
    ·rintro σ zs H' ⟨e,e2,rfl,hi,o1,o2,rfl⟩;exists D,List.replicate (min xs.length ys.length) true,rfl,SqL.of e2;rw[show(List.replicate (min xs.length ys.length) true).all id=true from by simp];exact q _ e
   | false =>
    refine zFh ?_;exists _,rfl,_, "tuple", t,true,rfl,ty,kt.t.trans (by rw[hbl]; rfl),_,rfl;refine rF ?_;exists _,rfl,a,xs,rfl,SA',_,rfl,b,ys,rfl,SB',rfl,_,rfl;rw[decI (by rw[hlen])];refine zFh ?_;refine⟨_,rfl,_,rfl,bl,bl,a,b,xs,ys,rfl,SA,SB,λc D hD=>zGx (K:=K) (xs:=xs) (ys:=ys) (λi σ zs H'=>Same H H'/\H' D=some (.lst zs)/\zs=(List.replicate i true).map V.bl/\i<=xs.length/\∃ u v,σ=[u,v])
     ⟨zC hD _,zA,rfl,Nat.zero_le _,none,none,rfl⟩ (λi σ zs H' ⟨e,e2,_⟩=>⟨(keep H' e).1,(keep H' e).2,e2⟩) ?_ ?_⟩
    ·rintro i u v T σ zs H' hu hv hT ⟨e,e2,rfl,hi,o1,o2,rfl⟩;have hil:i<xs.length:=(List.getElem?_eq_some_iff.mp hu).1;have s2:=zC hT (.tup [u,v]);refine⟨T,[u,v],rfl,SqT.of zA,rfl,u,[v],rfl,v,[],rfl,rfl,_,rfl,_,rfl,u,v,rfl,(hel i u v hu hv).same (e.trans s2),λH4 s4=>?_⟩;have e4:=s4 _ _ (s2 _ _ e2);refine⟨e4,zJ (by rw[List.length_map,List.length_replicate]; lia),λp o z=>?_,zA,?_,hil,_,_,rfl⟩
     ·rw[zG (zH z hD)];exact s4 _ _ (s2 _ _ (e _ _ z))
     ·rw[List.replicate_succ',List.map_append];rfl
    ·rintro σ zs H' ⟨e,e2,rfl,hi,o1,o2,rfl⟩;exists D,List.replicate (min xs.length ys.length) true,rfl,SqL.of e2;rw[show(List.replicate (min xs.length ys.length) true).all id=true from by simp];exact q _ e
theorem zLj(F:Fun K "_law_same" "_law_same" qN f fd)(Z:Zs mg)(bS:zAk K fd ["_law_told", "_law_due"] [])(kS:PySem.W.keepIn K (.ref f)=true)(mS:mg "_law_same" = some (.ref f)):yP P w K mg base CX0 6 f fd ["_law_told", "_law_due"] (zGh K):=zH7 F Z bS kS mS 6
def zIg(_:PySem.W.Frag):Sp:=λvs H Q _=>∃(x y:Int),vs=[.int x,.int y]/\Q (.int (Nat.gcd x.natAbs y.natAbs)) H
theorem zN3(F:Fun K "_law_low" "_law_low" zEq f fd)(Z:Zs mg):yP P w K mg base CX0 1 f fd ["_law_one", "_law_other"] (zIg K):=by
 specialize zBj
 ·obtain⟨x,y,rfl,_⟩:=h;rfl
 obtain⟨x,y,rfl,q⟩:=h
 refine'⟨_,(zB (zV 0 zBj.nd ?_)
   (zB (zV 1 zBj.nd ?_)
   (zB (zBk PassesOwn.never ?_ (zD (zD6 (i:=0) (j:=1) rfl zBj.nd rfl rfl (by decide) rfl rfl ?_ rfl)))
   (zD (zS (pv 0)))))),?_⟩
 nofun
 exists _,rfl,_,rfl,_,rfl,_,rfl;refine qC (λσ H1=>H1=H/\∃(a b:Int),σ=[some (.int a),some (.int b)]/\0<=a/\0<=b/\Nat.gcd a.toNat b.toNat=Nat.gcd x.natAbs y.natAbs)
  (λσ _=>match σ with | [_,some (.int b)]=>b.toNat | _=>0) ⟨rfl,_,_,rfl,by split <;> lia,by split <;> lia,by rw[zIt,zIt]; rfl⟩ ?_ (λσ H Q Q' hq z=>by
   obtain⟨v,hv,i,j,e1,e2,k,hk,z⟩:=z;exact⟨v,hv,i,j,e1,e2,k,hk,hq _ _ z⟩)
 rintro σ H1 ⟨rfl,a,b,rfl,h1,h2,h3⟩;exists _,rfl,_,_,rfl,rfl,_,rfl;refine ifD (λhb=>?_) (λhb=>?_)
 ·refine⟨_,rfl,_,rfl,_,rfl,_,_,rfl,rfl,hb,_,_,rfl,⟨rfl,_,_,rfl,h2,Int.emod_nonneg a (by lia),?_⟩,?_⟩
  ·rw[zE5 h1 hb]; exact h3
  ·have h4:=Int.emod_lt_of_pos a hb;show(a%b).toNat<b.toNat;lia
 ·exists _,rfl;have hb0:b=0:=by lia
  subst hb0;have h5:a=((Nat.gcd x.natAbs y.natAbs:Nat):Int):=by
   rw[<- h3];show a=((Nat.gcd a.toNat 0:Nat):Int);rw[Nat.gcd_zero_right];lia
  rw[h5];exact q
def zCc(K:PySem.W.Frag):Sp:=λvs H Q _=>∃(t:Addr)(a b c:Int),vs=[.ref t]/\SqT K H t [.int a,.int b,.int c]/\0<yR [a,b,c]/\(yR [a,b,c]:Int)<10^600 /\
 ∀(p:Addr)(H':Hp),Same H H'->H p=none->H' p=some (.tup ((zBl [a,b,c]).map V.int))->Q (.ref p) H'
theorem zH6(F:Fun K "_law_lowest" "_law_lowest" rG f fd)(Z:Zs mg)(CB:Cb P w mg base)(yBw:Has P w K mg base "_law_low" 1 ["_law_one", "_law_other"] (zIg K)):yP P w K mg base CX0 2 f fd ["_law_side"] (zCc K):=by
 specialize zDd
 ·obtain⟨t,a,b,c,rfl,_⟩:=h;rfl
 obtain⟨t,a,b,c,rfl,ht,g0,g2,q⟩:=h
 refine'⟨_,(zB (zV 1 zDd.nd ?_)
   (zD (zS ?_))),?_⟩
 nofun
 have tq:Sq K H t _:=.inr ht;exists _,rfl,t,_,0,.int a,rfl,rfl,tq,rfl,_,rfl,t,_,1,.int b,rfl,rfl,tq,rfl,_,_,rfl,_,rfl,t,_,2,.int c,rfl,rfl,tq,rfl,_,_,rfl;have e:((Nat.gcd (((Nat.gcd a.natAbs b.natAbs:Nat):Int).natAbs) c.natAbs:Nat):Int)=(yR [a,b,c]:Int):=by
  rw[zJk,Int.natAbs_natCast]
 rw[e];have g1:∀ x:Int,zBc x (yR [a,b,c]):=λx=>.of (by lia) g2;refine⟨_,rfl,t,_,0,.int a,rfl,rfl,tq,rfl,_,rfl,_,_,rfl,rfl,g1 _,_,rfl,t,_,1,.int b,rfl,rfl,tq,rfl,_,rfl,_,_,rfl,rfl,g1 _,_,rfl,t,_,2,.int c,rfl,rfl,tq,rfl,_,rfl,_,_,rfl,rfl,g1 _,sz3,λp hp=>?_⟩;exact q p _ (zC hp _) hp zA
def zAr(_:PySem.W.Frag):Sp:=λvs H Q _=>∃(d:Addr)(v:V)(S:BS)(D:Deed),vs=[.ref d,v]/\Rep H D.dt v/\zMi H d S/\zA4 S D/\(∀ e∈S.marks,zG8 e.2) /\
 ∀(l:Addr)(as:List Addr)(H':Hp),Same H H'->H' l=some (.lst (as.map V.ref))->yD H' as (uK S D)->Q (.ref l) H'
theorem zGc(F:Fun K "_law_rows_of" "_law_rows_of" tU f fd)(Z:Zs mg)(CB:Cb P w mg base)(yBj:Has P w K mg base "_law_lowest" 2 ["_law_side"] (zCc K)):yP P w K mg base CX0 3 f fd ["_law_m", "_law_note"] (zAr K):=by
 specialize yG
 ·obtain⟨d,v,S,D,rfl,_⟩:=h;rfl
 obtain⟨d,v,S,D,rfl,rep,⟨m,b,r,n,lw⟩,kn,nr,q⟩:=h;have dm:∀{H':Hp},Same H H'->zMb H' d (.str "marks") (some (.ref m)):=λ{H'} s=>.inl ⟨_,.inr "marks", Rd.same lw.at_ s,rfl,vN.symm⟩;have small:∀{ns:List Int}{M:Nat},(∃ x∈ns,x≠0/\x.natAbs<=M)->M<=10^9->0<yR ns/\(yR ns:Int)<10^600:=λ{ns M} h hM=>by
  obtain⟨h1,h2⟩:=zM1 h;refine⟨h1,Int.lt_of_le_of_lt (b:=(10:Int)^9) (by lia) (by decide +kernel)⟩
 refine'⟨_,(zB (qM (zN (zW hr) (zN (zW hr) (pv 0) zQ (λ_ _=>rfl)) ?_ (λ_ _=>rfl)) (sC rfl (yA (uL 2 yG.nd) (yA (uL 3 yG.nd) uH))))
   (zB (yY ?_ (zB (zD6 (i:=4) (j:=5) rfl yG.nd rfl rfl (by decide) rfl rfl (zF (pv 2) (zF (pv 3) zL)) rfl)
   (zB (qM (zN (zW hr) (zN (zW hr) (pv 0) zQ (λ_ _=>rfl)) ?_ (λ_ _=>rfl)) (sC rfl (yA (uL 2 yG.nd) (yA (uL 3 yG.nd) uH))))
   (zD (zS ?_)))) yE)
   (zB (qM ?_ (sC rfl (yA (uL 6 yG.nd) (yA (uL 7 yG.nd) uH))))
   (zB (qM ?_ (sC rfl (yA (uL 8 yG.nd) (yA (uL 9 yG.nd) uH))))
   (zD (zS ?_)))))),?_⟩
 nofun
 match D,rep,kn,q with
 | .bearing mo nm a1 b1 c1 e1,rep,kn,q =>
  obtain⟨t,p1,p2,rfl,ht,h1,h2⟩:=uU rep;obtain⟨_,_,hn,w1,w2⟩:=kn;obtain⟨pt,hpt⟩:=Option.isSome_iff_exists.mp hn;obtain⟨kvs,pa,hm,g1,g2⟩:=vF lw.ma hpt;obtain⟨n1,n2,n3,n4⟩:=uE nr hpt;have tq:Sq K H t _:=.inr (SqT.of ht);exists _,rfl,d,.ref m,rfl,dm (Same.refl _),_,rfl,t,_,2,.str nm,rfl,rfl,tq,rfl,m,.ref pa,rfl,.inl ⟨kvs,.inr nm,hm,rfl,g1.symm⟩;exists pa,_,rfl,SqT.of g2,rfl,.int pt.1,_,rfl,.int pt.2,_,rfl,rfl;exists _,rfl,t,_,0,.str "bearing", rfl,rfl,tq,rfl,rfl,_,rfl;refine rF ?_;exists _,rfl,t,_,3,.ref p1,rfl,rfl,tq,rfl,p1,_,rfl,SqT.of h1,rfl,.int a1,_,rfl,.int b1,_,rfl,rfl;exists _,rfl,t,_,4,.ref p2,rfl,rfl,tq,rfl,p2,_,rfl,SqT.of h2,rfl,.int c1,_,rfl,.int e1,_,rfl,rfl;obtain⟨w10,w11,w12,w13,w14⟩:=w1;obtain⟨w20,w21,w22,w23,w24⟩:=w2;dsimp only at w11 w12 w13 w14 w21 w22 w23 w24;refine⟨_,rfl,_,rfl,_,rfl,_,rfl,_,rfl,_,_,rfl,rfl,qL (by lia),_,rfl,_,rfl,_,_,rfl,rfl,qL (by lia),_,_,rfl,rfl,sz3,λx hx=>?_⟩;have sx:=zC hx (.tup [.int (-b1),.int a1,.int (a1*pt.2-b1*pt.1)]);have z1:∃ x∈[-b1,a1,a1*pt.2-b1*pt.1],x≠0/\x.natAbs<=100:=by
   rcases Decidable.em (a1=0) with z | z
   ·exact⟨-b1,.head _,λz'=>w10 (by rw[z,show b1=0 by lia]),by lia⟩
   ·exact⟨a1,.tail _ (.head _),z,by lia⟩
  have z2:∃ x∈[e1,-c1,e1*pt.1-c1*pt.2],x≠0/\x.natAbs<=100:=by
   rcases Decidable.em (e1=0) with z | z
   ·exact⟨-c1,.tail _ (.head _),λz'=>w20 (by rw[z,show c1=0 by lia]),by lia⟩
   ·exact⟨e1,.head _,z,by lia⟩
  refine⟨x,_,_,_,rfl,SqT.of zA,(small z1 (by decide)).1,(small z1 (by decide)).2,λy H1 s1 hy ey=>?_⟩;refine⟨_,rfl,_,rfl,_,rfl,_,rfl,_,rfl,_,_,rfl,rfl,qL (by lia),_,rfl,_,rfl,_,_,rfl,rfl,qL (by lia),_,_,rfl,rfl,sz3,λx2 hx2=>?_⟩;have sx2:=zC hx2 (.tup [.int e1,.int (-c1),.int (e1*pt.1-c1*pt.2)]);refine⟨x2,_,_,_,rfl,SqT.of zA,(small z2 (by decide)).1,(small z2 (by decide)).2,λy2 H2 s2 hy2 ey2=>⟨sz2,λL hL=>?_⟩⟩;have sL:=zC hL (.lst [.ref y,.ref y2]);refine q L [y,y2] _ (sx.trans (s1.trans (sx2.trans (s2.trans sL)))) zA ?_;show yD _ ([y]++[y2]) ([_]++[_]);rw[xZ hpt,Int.mul_comm pt.1 e1,Int.mul_comm pt.2 c1];exact(yD.one ((sx2.trans (s2.trans sL)) _ _ ey)).app (.one (sL _ _ ey2))
 | .range mo l1 r1,rep,kn,q =>
  obtain⟨t,rfl,ht⟩:=rM rep;obtain⟨_,_,hl,hr',ne⟩:=kn;obtain⟨pt,hpt⟩:=Option.isSome_iff_exists.mp hl;obtain⟨pu,hpu⟩:=Option.isSome_iff_exists.mp hr';obtain⟨kvs,pa,hm,g1,g2⟩:=vF lw.ma hpt;obtain⟨kvs',pb,hm',g3,g4⟩:=vF lw.ma hpu;obtain⟨n1,n2,n3,n4⟩:=uE nr hpt;obtain⟨n5,n6,n7,n8⟩:=uE nr hpu;have tq:Sq K H t _:=.inr (SqT.of ht);exists _,rfl,d,.ref m,rfl,dm (Same.refl _),_,rfl,t,_,2,.str l1,rfl,rfl,tq,rfl,m,.ref pa,rfl,.inl ⟨kvs,.inr l1,hm,rfl,g1.symm⟩;exists pa,_,rfl,SqT.of g2,rfl,.int pt.1,_,rfl,.int pt.2,_,rfl,rfl;exists _,rfl,t,_,0,.str "range", rfl,rfl,tq,rfl,rfl,_,rfl;refine zFh ?_;exists _,rfl,_,rfl,_,_,rfl;exists _,rfl,d,.ref m,rfl,dm (Same.refl _),_,rfl,t,_,3,.str r1,rfl,rfl,tq,rfl,m,.ref pb,rfl,.inl ⟨kvs',.inr r1,hm',rfl,g3.symm⟩,pb,_,rfl,SqT.of g4,rfl,.int pu.1,_,rfl,.int pu.2,_,rfl,rfl;refine⟨_,rfl,_,rfl,_,_,rfl,rfl,_,rfl,_,rfl,_,_,rfl,rfl,_,rfl,_,rfl,_,_,rfl,rfl,qL (by lia),_,rfl,_,rfl,_,_,rfl,rfl,qL (by lia),_,_,rfl,rfl,sz3,λx hx=>?_⟩;have sx:=zC hx (.tup [.int (pt.2-pu.2),.int (pu.1-pt.1),.int (pu.1*pt.2-pu.2*pt.1)]);have z1:∃ x∈[pt.2-pu.2,pu.1-pt.1,pu.1*pt.2-pu.2*pt.1],x≠0/\x.natAbs<=2000:=by
   rcases Decidable.em (pt.2-pu.2=0) with z | z
   ·refine⟨pu.1-pt.1,.tail _ (.head _),λz'=>ne ?_,by lia⟩;rw[hpt,hpu];exact congrArg some (Prod.ext (by lia) (by lia))
   ·exact⟨_,.head _,z,by lia⟩
  refine⟨x,_,_,_,rfl,SqT.of zA,(small z1 (by decide)).1,(small z1 (by decide)).2,λy H1 s1 hy ey=>⟨sz1,λL hL=>?_⟩⟩;have sL:=zC hL (.lst [.ref y]);refine q L [y] _ (sx.trans (s1.trans sL)) zA ?_;show yD _ [y] [_];rw[xZ hpt,xZ hpu];exact yD.one (sL _ _ ey)
def tV(_:PySem.W.Frag):Sp:=λvs H Q _=>∃(d:Addr)(S:BS)(j:Nat),vs=[.ref d,.int j]/\zMi H d S/\zI1 S/\j<=S.runs.length /\
 ∀(l:Addr)(gs:List Addr)(H':Hp),Same H H'->H l=none->H' l=some (.lst (gs.map V.ref))->yK H H' gs (S.notes.map λe=>xI S j e.2)->Q (.ref l) H'
theorem zFc(F:Fun K "_law_m_groups" "_law_m_groups" vS f fd)(Z:Zs mg)(CB:Cb P w mg base)(yBf:Has P w K mg base "_law_rows_of" 3 ["_law_m", "_law_note"] (zAr K))(yBs:Has P w K mg base "_law_lead" 1 ["_law_m", "_law_one", "_law_other"] (qB K)):yP P w K mg base CX0 4 f fd ["_law_m", "_law_moment"] (tV K):=by
 specialize xB
 ·obtain⟨d,S,j,rfl,_⟩:=h;rfl
 obtain⟨d,S,j0,rfl,lwa,gd,hj,q⟩:=h;obtain⟨m,b,r,n,lw⟩:=id lwa;have dn:∀{H':Hp},Same H H'->zMb H' d (.str "notes") (some (.ref n)):=λ{H'} s=>.inl ⟨_,.inr "notes", Rd.same lw.at_ s,rfl,zBt.symm⟩;obtain⟨kvs,hn0,kv⟩:=lw.no;have fn:=gd.few.no
 refine'⟨_,(zB (zV 2 xB.nd ?_)
   (zB (wP PassesOwn.never rfl (uF (yB zGq rfl Z.sorted sW (zF (xN (sQ rfl) rfl Z.list zAo (zF (zN (zW hr) (pv 0) zQ (λ_ _=>rfl)) zL)) zL))) (uL 3 xB.nd) (zB (zV 4 xB.nd (zN (zW hr) (zN (zW hr) (pv 0) zQ (λ_ _=>rfl)) (pv 3) (λ_ _=>rfl)))
   (zB (qM ?_ (sC rfl (yA (uL 5 xB.nd) (yA (uL 6 xB.nd) uH))))
   (zD (zU (zAm (pv 2) (zF (wM (T:=["_law_a", "_law_b", "_law_c"]) (caps:=[("_law_x", 5),("_law_y", 6)]) ⟨rfl,by decide +kernel,by decide +kernel,rfl,⟨⟨rfl,rfl,Or.inl rfl⟩,⟨rfl,rfl,Or.inl rfl⟩,True.intro⟩⟩ rfl (uF ?_) (λ_=>(sC rfl (yA (uL 0 (show(["_law_a", "_law_b", "_law_c", "_law_x", "_law_y"]:List Str).Nodup by decide +kernel)) (yA (uL 1 (show(["_law_a", "_law_b", "_law_c", "_law_x", "_law_y"]:List Str).Nodup by decide +kernel)) (yA (uL 2 (show(["_law_a", "_law_b", "_law_c", "_law_x", "_law_y"]:List Str).Nodup by decide +kernel)) uH))))) (λ_=>yW) (λ_=>?_)) zL)))))))
   (zD (zS (pv 2))))),?_⟩
 nofun
 refine⟨sz0,λG hG=>?_⟩;have s3:=zC hG (.lst []);refine⟨_,rfl,d,.ref n,rfl,dn s3,n,kvs,rfl,Rd.same hn0 s3,λc0 hc0=>?_⟩;rw[zIk kv];have s4a:=zC hc0 (.lst ((S.notes.map (·.1)).map V.int));refine⟨c0,_,rfl,SqL.of zA,(by rw[List.length_map]; lia),λc ms hc pm srt=>?_⟩;obtain rfl:=zKa pm srt gd.rise;have s4:=s4a.trans (zC hc (.lst ((S.notes.map (·.1)).map V.int)));have e4:upd (upd (upd H G (.lst [])) c0 (.lst ((S.notes.map (·.1)).map V.int))) c (.lst ((S.notes.map (·.1)).map V.int)) c=some (.lst ((S.notes.map (·.1)).map V.int)):=zA;generalize upd (upd (upd H G (.lst [])) c0 (.lst ((S.notes.map (·.1)).map V.int))) c (.lst ((S.notes.map (·.1)).map V.int))=H4 at s4 e4 ⊢;have eG4:=s4 _ _ (zA (H:=H) (a:=G) (o:=.lst []));have ncG:c≠G:=λz=>by
  have:=s4a.free hc;rw[z,zA] at this;cases this
 refine⟨c,rfl,.inl ⟨⟨_,SqL.of e4⟩,uQ (K:=K) (a:=c) (xs:=(S.notes.map (·.1)).map V.int) (λi σ H'=>(∀ x o,x≠G->H4 x=some o->H' x=some o)/\(∃ gs:List Addr,H' G=some (.lst (gs.map V.ref))/\(∀ g∈gs,g≠G)/\yK H H' gs ((S.notes.take i).map λe=>xI S j0 e.2))/\∃ u1 u2 u3 u4:Option V,σ=[some (.ref d),some (.int j0),some (.ref G),u1,u2,u3,u4])
  ⟨λ_ _ _ e=>e,⟨[],eG4,λ_ h=>(nomatch h),yK.nil⟩,none,none,none,none,rfl⟩ (λi σ H' _ hq=>SqL.of (hq.1 _ _ ncG e4)) ?_ ?_⟩⟩
 ·rintro i x σ H5 hi ⟨sH,⟨gs,eG,ngG,ga⟩,u1,u2,u3,u4,rfl⟩;rw[List.getElem?_map,List.getElem?_map,Option.map_map,Option.map_eq_some_iff] at hi;obtain⟨nt,hn,rfl⟩:=hi;have kn:=gd.note _ (List.mem_of_getElem? hn);have s05:Same H H5:=λx o e=>sH x o (zH e hG) (s4 _ _ (s3 _ _ e));have hil:=(List.getElem?_eq_some_iff.mp hn).1;obtain⟨v,gv,rv⟩:=(kv.to (.of s05)).get (k:=.inl nt.1) (zKf gd.rise hn);obtain⟨t,xs,rfl,et,mo,m0,m1⟩:=zC1 kn rv;exists _,rfl,d,.ref n,rfl,dn s05,_,rfl,n,.ref t,rfl,.inl ⟨kvs,.inl nt.1,Rd.same hn0 s05,rfl,gv.symm⟩;refine⟨_,rfl,_,rfl,t,xs,1,_,rfl,rfl,.inr (SqT.of et),mo,_,rfl,d,S,(wN nt.2).toNat,j0,?_,lwa.to (.of s05),(by lia),hj,gd.few.ru,λw H6 s6 hw ew=>?_⟩
  ·exact congrArg (λz=>[V.ref d,V.int z,V.int j0]) (Int.toNat_of_nonneg m0).symm
  have gr:∀ ld,xV S.runs (wN nt.2).toNat j0=ld->xI S j0 nt.2=(uK S nt.2).map (zNf ld.1 ld.2):=λld e=>by unfold xI; rw[e]
  generalize eld:xV S.runs (wN nt.2).toNat j0=ld at ew;have gr:=gr ld eld;exists w,_,rfl,SqT.of ew,rfl,.int ld.1,_,rfl,.int ld.2,_,rfl,rfl;refine⟨_,rfl,.inl ⟨rfl,_,SqL.of (s6 _ _ eG)⟩,_,rfl,_,rfl,d,.ref t,S,nt.2,rfl,rv.to (.of s6),lwa.to (.of (s05.trans s6)),kn,gd.mk_,λL sd H7 s7 eL ts=>?_⟩;have three:=zA0 gd.mk_ kn;have two:=zAb (S:=S) (D:=nt.2);refine⟨L,rfl,.inl ⟨⟨_,SqL.of eL⟩,λcc B hB=>?_⟩⟩;refine xY (K:=K) (a:=L) (xs:=sd.map V.ref) (λi σ zs H'=>Same H7 H'/\H' B=some (.lst zs)/\(∃ bs:List Addr,zs=bs.map V.ref/\yD H' bs (((uK S nt.2).take i).map (zNf ld.1 ld.2)))/\∃ u v w:Option V,σ=[u,v,w,some (.int ld.1),some (.int ld.2)])
   ⟨zC hB _,zA,⟨[],rfl,.nil⟩,none,none,none,rfl⟩ (λi σ zs H' _ hq=>⟨SqL.of (hq.1 _ _ eL),hq.2.1⟩) ?_ ?_
  ·rintro i x σ zs H' hi ⟨sH',eB,⟨bs,rfl,tb⟩,u,v,w',rfl⟩;rw[List.getElem?_map,Option.map_eq_some_iff] at hi;obtain⟨y,hy,rfl⟩:=hi;have hil':i<(uK S nt.2).length:=by rw[<- ts.len]; exact(List.getElem?_eq_some_iff.mp hy).1
   have hr':(uK S nt.2)[i]?=some (uK S nt.2)[i]:=List.getElem?_eq_getElem hil';obtain⟨A,B',C,e3,bA,bB⟩:=three _ (List.getElem_mem hil');have ey:=ts.at_ i y _ hy hr';rw[e3] at ey hr';exists y,_,rfl,SqT.of (sH' _ _ ey),rfl,.int A,_,rfl,.int B',_,rfl,.int C,_,rfl,rfl;refine⟨_,rfl,_,rfl,_,rfl,_,rfl,_,rfl,_,_,rfl,rfl,qL (by lia),_,_,rfl,rfl,_,rfl,_,rfl,_,_,rfl,rfl,qL (by lia),_,_,rfl,rfl,sz3,λz hz=>?_⟩;have s8:=zC hz (.tup [.int A,.int B',.int (C+A*ld.1+B'*ld.2)]);have eB8:=s8 _ _ eB;refine⟨eB8,zJ (by rw[List.length_map,tb.len,List.length_map,List.length_take]; lia),(sH'.trans s8).putNew hB,zA,⟨bs++[z],by rw[List.map_append]; rfl,?_⟩,_,_,_,rfl⟩;rw[List.take_succ,hr',List.map_append];exact((tb.to (.of s8)).app (.one zA)).samE (uD eB8) (wO eB8)
  ·rintro σ zs H8 ⟨s8,eB,⟨bs,rfl,tb⟩,u,v,w',rfl⟩;rw[List.length_map,ts.len,List.take_length,<- gr] at tb;have s58:Same H5 H8:=s6.trans (s7.trans s8);have eG8:=s58 _ _ eG;have nB5:H5 B=none:=s6.free (s7.free hB);have nBG:B≠G:=λz=>by rw[z,eG] at nB5; cases nB5
   exists G,_,.ref B,rfl,rfl,eG8,zJ (by rw[List.length_map,ga.len,List.length_map,List.length_take]; lia);have sG:=uD (o:=.lst (gs.map V.ref++[.ref B])) eG8;refine⟨λx o n e=>by rw[zG n]; exact s58 _ _ (sH x o n e),⟨gs++[B],by rw[zA,List.map_append]; rfl,λg hg=>?_,?_⟩,_,_,_,_,rfl⟩
   ·rcases List.mem_append.mp hg with z | z
    ·exact ngG g z
    ·rw[List.mem_singleton.mp z]; exact nBG
   ·rw[List.take_succ,hn,List.map_append];have ga8:yK H H8 gs _:=ga.samE (uM.of (φ:=λ_=>False) s58) (λ_ _ _=>id) (λ_ _=>id);exact(ga8.samE sG (wO eG8) ngG).snoc (s05.free nB5) (by rw[zG nBG]; exact eB) (tb.samE sG (wO eG8))
 ·rintro σ H5 ⟨sH,⟨gs,eG,ngG,ga⟩,u1,u2,u3,u4,rfl⟩;rw[List.length_map,List.length_map,List.take_length] at ga;exact⟨_,rfl,q G gs H5 (λx o e=>sH x o (zH e hG) (s4 _ _ (s3 _ _ e))) hG eG ga⟩
def zAs(_:PySem.W.Frag):Sp:=λvs H Q _=>∃(d:Addr)(S:BS)(j:Nat),vs=[.ref d,.int j]/\zMi H d S/\zI1 S/\j<=S.runs.length /\
 ∀(l:Addr)(as:List Addr)(H':Hp),Same H H'->H' l=some (.lst (as.map V.ref))->yD H' as (S.notes.map λe=>xI S j e.2).flatten->Q (.ref l) H'
theorem zGn(F:Fun K "_law_m_sides" "_law_m_sides" tI f fd)(Z:Zs mg)(CB:Cb P w mg base)(yBa:Has P w K mg base "_law_m_groups" 4 ["_law_m", "_law_moment"] (tV K)):yP P w K mg base CX0 5 f fd ["_law_m", "_law_moment"] (zAs K):=by
 specialize vL
 ·obtain⟨d,S,j,rfl,_⟩:=h;rfl
 obtain⟨d,S,j0,rfl,lwa,gd,hj,q⟩:=h
 refine'⟨_,(zB (zV 2 vL.nd ?_)
   (zB (wP PassesOwn.never rfl (uF ?_) (uL 3 vL.nd) (zD (zV 2 vL.nd (sS zSm (pv 2) (pv 3)))))
   (zD (zS (pv 2))))),?_⟩
 nofun
 refine⟨sz0,λL hL=>?_⟩;have s1:=zC hL (.lst []);refine⟨_,rfl,_,rfl,d,S,j0,rfl,lwa.to (.of s1),gd,hj,λG gs H2 s2 hG eG ga=>?_⟩;have eL2:=s2 _ _ (zA (H:=H) (a:=L) (o:=.lst []));refine⟨G,rfl,.inl ⟨⟨_,SqL.of eG⟩,uQ (K:=K) (a:=G) (xs:=gs.map V.ref) (λi σ H'=>Same H2 H'/\(∃(L':Addr)(as:List Addr),H' L'=some (.lst (as.map V.ref))/\yD H' as ((S.notes.take i).map λe=>xI S j0 e.2).flatten/\∃ u:Option V,σ=[some (.ref d),some (.int j0),some (.ref L'),u]))
  ⟨Same.refl _,L,[],eL2,yD.nil,none,rfl⟩ (λi σ H' _ hq=>SqL.of (hq.1 _ _ eG)) ?_ ?_⟩⟩
 ·rintro i x σ H5 hi ⟨sH,L',as,eL,ta,u,rfl⟩;rw[List.getElem?_map,Option.map_eq_some_iff] at hi;obtain⟨g,hg,rfl⟩:=hi;have hil:i<S.notes.length:=by
   have:=ga.len;rw[List.length_map] at this;rw[<- this];exact(List.getElem?_eq_some_iff.mp hg).1
  have hn:S.notes[i]?=some S.notes[i]:=List.getElem?_eq_getElem hil;obtain⟨bs,eg,tb⟩:=ga.at_ i g (xI S j0 S.notes[i].2) hg (by rw[List.getElem?_map,hn]; rfl);have l1:=zBx (λe:Int×Deed=>xI S j0 e.2) (λ_=>uV) (S.notes.take i);have l2:=uV (S:=S) (j:=j0) (D:=S.notes[i].2);have l3:=ta.len;have l4:=tb.len;have fn:=gd.few.no;rw[List.length_take] at l1;refine⟨_,rfl,_,rfl,L',g,_,_,rfl,rfl,eL,sH _ _ eg,(by rw[List.length_map,List.length_map]; exact Nat.le_of_lt (zJ (by lia))),λL2 hL2=>?_⟩;have sL:=zC hL2 (.lst (as.map V.ref++bs.map V.ref));refine⟨sH.trans sL,L2,as++bs,by rw[zA,List.map_append],?_,_,rfl⟩;rw[List.take_succ,hn,List.map_append,List.flatten_append];refine(ta.to (.of sL)).app ?_;show yD _ bs [xI S j0 S.notes[i].2].flatten;rw[List.flatten_singleton];exact tb.to (.of (sH.trans sL))
 ·rintro σ H5 ⟨sH,L',as,eL,ta,u,rfl⟩;rw[List.length_map,ga.len,List.length_map,List.take_length] at ta;exact⟨_,rfl,q L' as H5 (s1.trans (s2.trans sH)) eL ta⟩
def zGb(_:PySem.W.Frag):Sp:=λvs H Q _=>∃(b dx:Addr),vs=[.ref b]/\H b=some (.ins bkC dx []) /\
 ∀(p:Addr)(H':Hp),uM (λx=>x=b) H H'->H p=none->zDx bkC H' b p BS.nil [] []->Q .non H'
theorem zKo(F:Fun K "__init__" "Book.__init__" zBm f fd)(Z:Zs mg)(CB:Cb P w mg base)(yAf:Has P w K mg base "nothing_yet" 1 [] (sA K)):yP P w K mg base CX0 2 f fd ["self"] (zGb K):=by
 specialize zKc
 ·obtain⟨b,dx,rfl,_⟩:=h;rfl
 obtain⟨b,dx,rfl,hb,q⟩:=h
 refine'⟨_,(zB (zC2 CB.state (pv 0) (zCi yAf (hr.mono (by decide)) rfl))
   (zB (zC2 CB.past (pv 0) ?_)
   (zD (zC2 CB.later (pv 0) ?_)))),?_⟩
 nofun
 refine⟨rfl,λd H1 s1 fd0 st=>?_⟩;have hb1:=s1 _ _ hb;exists _,rfl,b,dx,[],rfl,hb1,(by show 0<1000; decide);refine⟨sz0,λp hp=>?_⟩;have nbp:b≠p:=zH zA hp;exists _,rfl,b,dx,_,rfl,(by rw[zG nbp,zA]),(by show 1<1000; decide);refine⟨sz0,λl hl=>?_⟩;have nbl:b≠l:=zH zA hl;have npl:p≠l:=λz=>by
  rw[<- z,zG nbp.symm,zA] at hl;cases hl
 exists _,rfl,b,dx,_,rfl,(by rw[zG nbl,zA]),(by show 2<1000; decide);rw[zQs];have hp1:H1 p=none:=by rw[zG nbp.symm] at hp; exact hp
 have hl1:H1 l=none:=by rw[zG nbl.symm,zG npl.symm,zG nbl.symm] at hl; exact hl
 have sE:uM (λx=>x=b) H1 (upd (upd (upd (upd (upd H1 b (.ins bkC dx (zBo "state" (.ref d) []))) p (.lst [])) b (.ins bkC dx (zBo "past" (.ref p) (zBo "state" (.ref d) [])))) l (.lst [])) b (.ins bkC dx (bkF d p l))):=λx o hx e=>by
  have n1:=zH e hp1;have n2:=zH e hl1;rw[zG hx,zG n2,zG hx,zG n1,zG hx];exact .inl e
 have nd:∀ a kvs,Rd H1 a (.dK kvs)->¬ a=b:=λa kvs h z=>by
  subst z;rcases h with h | ⟨o,h⟩ <;> rw[hb1] at h <;> cases h
 have np:∀ a xs,H1 a=some (.tup xs)->¬ a=b:=λa xs h z=>by
  subst z;rw[hb1] at h;cases h
 refine q p _ ((uM.of s1).trans sE) (s1.free hp1) ⟨dx,d,l,[],[],zA,st.samE sE nd np,?_,?_,rfl,rfl,npl.symm⟩
 ·rw[zG nbp.symm,zG npl,zG nbp.symm,zA]
 ·rw[zG nbl.symm,zA]
def zEa(_:PySem.W.Frag):Sp:=λvs H Q _=>∃(b p:Addr)(S:BS)(past later:List (Deed×BS)),vs=[.ref b]/\zDx bkC H b p S past later/\Few S /\
 ∀(c:Addr)(as:List Addr)(ms:List Str)(H':Hp),Same H H'->H c=none->H' c=some (.lst (as.map V.ref))->ms.Perm (S.marks.map (·.1))->PyProof.Rows.sortedS ms=true->sO H' S as ms->Q (.ref c) H'
theorem zI4(F:Fun K "marks" "Book.marks" qU f fd)(Z:Zs mg)(CB:Cb P w mg base)  : yP P w K mg base CX0 1 f fd ["self"] (zEa K):=by
 specialize zDp
 ·obtain⟨b,p,S,past,later,rfl,_⟩:=h;rfl
 obtain⟨b,p,S,past,later,rfl,⟨dx,d,l,ps,ls,k⟩,few,q⟩:=h;obtain⟨m,bk,r,n,st⟩:=k.st;obtain⟨kvs,hm,kv⟩:=id st.ma;have fm:=few.ma;refine⟨_,(zB (zK6 (i:=1) zDp.nd rfl (Or.inr rfl) (zN (zW hr) (rW CB.state (pv 0)) zQ (λ_ _=>rfl)))
   (zD (zS (wM (T:=["name"]) (caps:=[("places", 1)]) ⟨rfl,by decide +kernel,by decide +kernel,rfl,⟨⟨rfl,rfl,Or.inl rfl⟩,True.intro⟩⟩ rfl (uF (yB zAx rfl Z.sorted sW (zF (xN (sQ rfl) rfl Z.list zAo (zF (pv 1) zL)) zL))) (λ_=>(zFg (i:=0) (show(["name", "places"]:List Str).Nodup by decide +kernel) rfl (Or.inl rfl))) (λ_=>yW) (λ_=>(zGr (zF (pv 0) (zF (zMf zLl (zN (zW hr) (pv 1) (pv 0) (λ_ _=>rfl)) wA (λ_ _=>rfl)) (zF (zMf zLl (zN (zW hr) (pv 1) (pv 0) (λ_ _=>rfl)) wA (λ_ _=>rfl)) zL))))))))),?_⟩
 try dsimp only[L2.cxOf]
 refine⟨_,rfl,b,dx,_,_,rfl,k.ob,rD,d,.ref m,rfl,.inl ⟨_,.inr "marks", st.at_,rfl,tT.symm⟩,_,rfl,m,kvs,rfl,hm,λg hg=>?_⟩;rw[zEz kv];have s1:=zC hg (.lst ((S.marks.map (·.1)).map V.str));refine⟨g,_,rfl,SqL.of zA,(by rw[List.length_map]; lia),λt ms ht pm srt=>?_⟩;have s2:=s1.trans (zC ht (.lst (ms.map V.str)));have lm:ms.length=S.marks.length:=by rw[pm.length_eq,List.length_map]
 refine⟨t,rfl,.inl ⟨⟨_,SqL.of zA⟩,λcc D hD=>?_⟩⟩;have s3:=s2.trans (zC hD (.lst []));refine xY (K:=K) (a:=t) (xs:=ms.map V.str) (λi σ zs H'=>Same (upd (upd H g (.lst ((S.marks.map (·.1)).map V.str))) t (.lst (ms.map V.str))) H'/\H' D=some (.lst zs)/\(∃ as:List Addr,zs=as.map V.ref/\sO H' S as (ms.take i))/\∃ u:Option V,σ=[u,some (.ref m)])
  ⟨zC hD _,zA,⟨[],rfl,rfl,λj a n e=>by simp at e⟩,none,rfl⟩ (λi σ zs H' _ hq=>⟨SqL.of (hq.1 _ _ zA),hq.2.1⟩) ?_ ?_
 ·rintro i x σ zs H' hi ⟨sH,eD,⟨as,rfl,ma⟩,u,rfl⟩;rw[List.getElem?_map,Option.map_eq_some_iff] at hi;obtain⟨x,hx,rfl⟩:=hi;obtain⟨pt,hpt⟩:=vY (S:=S) (n:=x) (pm.mem_iff.mp (List.mem_of_getElem? hx));obtain⟨kv',a,g1,g2,g3⟩:=vF (st.ma.to (.of (s2.trans sH))) hpt;have hil:=(List.getElem?_eq_some_iff.mp hx).1;have la:=ma.len;rw[List.length_take] at la;have dg:zMb H' m (.str x) (some (.ref a)):=.inl ⟨kv',.inr x,g1,rfl,g2.symm⟩;exists _,rfl,_,rfl,_,rfl,m,.ref a,rfl,dg;refine⟨a,_,0,.int pt.1,rfl,rfl,.inr (SqT.of g3),rfl,_,rfl,_,rfl,m,.ref a,rfl,dg,a,_,1,.int pt.2,rfl,rfl,.inr (SqT.of g3),rfl,sz3,λt3 ht3=>?_⟩;have s4:=zC ht3 (.tup [.str x,.int pt.1,.int pt.2]);have eD4:=s4 _ _ eD;refine⟨eD4,zJ (by rw[List.length_map]; lia),(sH.trans s4).putNew hD,zA,⟨as++[t3],by rw[List.map_append]; rfl,?_⟩,_,rfl⟩;rw[List.take_succ,hx];exact((ma.samE (.of s4) (λ_ _ _=>id)).app hpt zA).samE (uD eD4) (wO eD4)
 ·rintro σ zs H' ⟨sH,eD,⟨as,rfl,ma⟩,u,rfl⟩;rw[List.length_map,List.take_length] at ma;exact q D as ms H' (s2.trans sH) (s2.free hD) eD pm srt ma
def tY(_:PySem.W.Frag):Sp:=λvs H Q _=>∃(b p:Addr)(S:BS)(past later:List (Deed×BS)),vs=[.ref b]/\zDx bkC H b p S past later/\Few S /\
 ∀(d:Addr)(H':Hp),Same H H'->H d=none->qQ H' d S->Q (.ref d) H'
theorem zBh(F:Fun K "mark_places" "mark_places" wH f fd)(Z:Zs mg)(CB:Cb P w mg base)(h_b_marks:zJ8 P w K mg base zE3 1 ["self"] (zEa K)):yP P w K mg base CX0 2 f fd ["book"] (tY K):=by
 specialize uI
 ·obtain⟨b,p,S,past,later,rfl,_⟩:=h;rfl
 obtain⟨b,p,S,past,later,rfl,bk,few,q⟩:=h;have no:∀{d l:Addr}{m:Str},m = "marks" ->(bkF d p l).lookup m=none:=λ{d l m} e=>by subst e; exact zHp (by decide +kernel) (by decide +kernel) (by decide +kernel)
 refine'⟨_,(zB (zV 1 uI.nd vQ)
   (zB (wP PassesOwn.never rfl (uF (tD CB.m_marks h_b_marks (hr.mono (by decide)) (pv 0))) (uL 2 uI.nd) (zD (vE (zW hr) (pv 1) ?_ ?_ rfl)))
   (zD (zS (pv 1))))),?_⟩
 nofun
 intro D hD;have s0:=zC hD (.dK []);obtain⟨dx,d,l,ps,ls,k⟩:=bk.to (.of s0);refine⟨_,rfl,b,dx,_,rfl,k.ob,no rfl,b,p,S,past,later,rfl,bk.to (.of s0),few,λc as ms H1 s1 hc e1 pm srt ma=>?_⟩;have fm:=few.ma;have lm:ms.length=S.marks.length:=by rw[pm.length_eq,List.length_map]
 have ncD:c≠D:=λz=>by rw[z,zA] at hc; cases hc
 have eD1:=s1 _ _ (zA (H:=H) (a:=D) (o:=.dK []));refine⟨c,rfl,.inl ⟨⟨_,SqL.of e1⟩,uQ (K:=K) (a:=c) (xs:=as.map V.ref) (λi σ H'=>(∀ x o,x≠D->H1 x=some o->H' x=some o)/\(∃ kvs,H' D=some (.dK kvs)/\kvs.length<=i/\∀ n∈ms.take i,∃(p:Int×Int)(a:Addr),zZ S n=some p/\vA kvs (.inr n)=some (.ref a)/\H' a=some (.tup [.int p.1,.int p.2]))/\∃ u:Option V,σ=[some (.ref b),some (.ref D),u])
  ⟨λ_ _ _ e=>e,⟨[],eD1,Nat.le_refl _,λn hn=>by simp at hn⟩,none,rfl⟩ (λi σ H' _ hq=>SqL.of (hq.1 _ _ ncD e1)) ?_ ?_⟩⟩
 ·rintro i x σ H' hi ⟨sH,⟨kvs,eD,lk,inv⟩,u,rfl⟩;rw[List.getElem?_map,Option.map_eq_some_iff] at hi;obtain⟨a,ha,rfl⟩:=hi;have hil:i<ms.length:=by rw[<- ma.len]; exact(List.getElem?_eq_some_iff.mp ha).1
  have hn:ms[i]?=some ms[i]:=List.getElem?_eq_getElem hil;obtain⟨pt,hpt,ea⟩:=ma.at_ i a _ ha hn;have naD:a≠D:=λz=>by rw[z,eD1] at ea; cases ea
  have ea':=sH _ _ naD ea;refine⟨_,rfl,a,_,1,.int pt.1,rfl,rfl,.inr (SqT.of ea'),rfl,_,rfl,a,_,2,.int pt.2,rfl,rfl,.inr (SqT.of ea'),rfl,sz2,λt ht=>?_⟩;have s4:=zC ht (.tup [.int pt.1,.int pt.2]);exists _,rfl,_,rfl,a,_,0,.str ms[i],rfl,rfl,.inr (SqT.of (s4 _ _ ea')),rfl,D,_,rfl,zG7.k (k:=.inr ms[i]) (s4 _ _ eD) (zJ (by lia));have ntD:t≠D:=λz=>by rw[z,eD] at ht; cases ht
  refine⟨λx o n e=>by rw[zG n]; exact s4 _ _ (sH x o n e),⟨_,zA,(by have:=tQ kvs (.inr ms[i]:Key) (.ref t); lia),λn h=>?_⟩,_,rfl⟩;rw[List.take_succ,hn,List.mem_append] at h;by_cases z:n=ms[i]
  ·exact⟨pt,t,by rw[z]; exact hpt,by rw[zE1,z,if_pos rfl],by rw[zG ntD,zA]⟩
  ·obtain⟨p',a',g1,g2,g3⟩:=inv n (h.resolve_right (by simpa using z));have na'D:a'≠D:=λz=>by rw[z,eD] at g3; cases g3
   exact⟨p',a',g1,by rw[zE1,if_neg (by intro w; injection w with w; exact z w)]; exact g2,by rw[zG na'D]; exact s4 _ _ g3⟩
 ·rintro σ H' ⟨sH,⟨kvs,eD,lk,inv⟩,u,rfl⟩;rw[List.length_map,ma.len,List.take_length] at inv;refine⟨_,rfl,q D H' (λx o e=>?_) hD ⟨kvs,.inl eD,λn p e=>?_⟩⟩
  ·exact sH x o (zH e hD) (s1 _ _ (s0 _ _ e))
  ·obtain⟨p',a,g1,g2,g3⟩:=inv n (pm.mem_iff.mpr (List.mem_map.mpr ⟨(n,p),zAp e,rfl⟩));rw[e] at g1;cases g1;exact⟨a,g2,g3⟩
def zCb(_:PySem.W.Frag):Sp:=λvs H Q _=>∃(b p:Addr)(S:BS)(past later:List (Deed×BS)),vs=[.ref b]/\zDx bkC H b p S past later/\Few S /\
 ∀(c:Addr)(xs:List V)(H':Hp),Same H H'->H c=none->H' c=some (.lst xs)->xJ H' (S.runs.map ptD) xs->Q (.ref c) H'
theorem zK7(F:Fun K "runs" "Book.runs" zBu f fd)(Z:Zs mg)(CB:Cb P w mg base)  : yP P w K mg base CX0 1 f fd ["self"] (zCb K):=by
 specialize zFk
 ·obtain⟨b,p,S,past,later,rfl,_⟩:=h;rfl
 obtain⟨b,p,S,past,later,rfl,⟨dx,d,l,ps,ls,k⟩,few,q⟩:=h;obtain⟨m,bk,r,n,st⟩:=k.st;obtain⟨kvs,hr1,kv⟩:=id st.ru;have lr:kvs.length=S.runs.length:=by rw[kv.length,zE7]
 refine⟨_,(zB (zK6 (i:=1) zFk.nd rfl (Or.inr rfl) (zN (zW hr) (rW CB.state (pv 0)) zQ (λ_ _=>rfl)))
   (zD (zS (wM (T:=["number"]) (caps:=[("runs", 1)]) ⟨rfl,by decide +kernel,by decide +kernel,rfl,⟨⟨rfl,rfl,Or.inl rfl⟩,True.intro⟩⟩ rfl (xA rfl Z.range (zF (yB qJ rfl Z.len qF (zF (pv 1) zL)) zL)) (λ_=>(zFg (i:=0) (show(["number", "runs"]:List Str).Nodup by decide +kernel) rfl (Or.inl rfl))) (λ_=>yW) (λ_=>(zN (zW hr) (pv 1) (pv 0) (λ_ _=>rfl))))))),?_⟩
 try dsimp only[L2.cxOf]
 exists _,rfl,b,dx,_,_,rfl,k.ob,rD,d,.ref r,rfl,.inl ⟨_,.inr "runs", st.at_,rfl,zAl.symm⟩,_,rfl,r,kvs,rfl,hr1;refine⟨_,rfl,(by have:=few.ru; lia),(by have:=few.ru; lia),λcc D hD=>qA (lo:=0) (n:=(kvs.length:Int).toNat) (λi σ ys H'=>Same H H'/\H' D=some (.lst ys)/\xJ H' ((S.runs.take i).map ptD) ys/\∃ u:Option V,σ=[u,some (.ref r)])
  ⟨zC hD _,zA,yF.mpr rfl,none,rfl⟩ (λi σ ys H' _ hq=>hq.2.1) ?_ ?_⟩
 ·rintro i σ ys H' hi ⟨sH,eD,rp,u,rfl⟩;have hi':i<S.runs.length:=by lia
  have gi:S.runs[i]?=some S.runs[i]:=List.getElem?_eq_getElem hi';obtain⟨kv',a,g1,g2,g3⟩:=zNk (st.ru.to (.of sH)) gi;refine⟨_,rfl,_,rfl,r,.ref a,rfl,.inl ⟨kv',.inl (i:Int),g1,by rw[Int.zero_add]; rfl,g2.symm⟩,eD,zJ (by rw[rp.length,List.length_map,List.length_take]; have:=few.ru; lia),sH.putNew hD,zA,?_,_,rfl⟩;rw[List.take_succ,gi,List.map_append];have sE:uM (λx=>x=D) H' (upd H' D (.lst (ys++[.ref a]))):=λx o hx e=>.inl (by rw[zG hx]; exact e);have np:∀ b xs,H' b=some (.tup xs)->¬ b=D:=λb xs e z=>by rw[z,eD] at e; cases e
  exact xJ.app (rp.sam sE np) (.one ((qK g3).sam sE np))
 ·rintro σ ys H' ⟨sH,eD,rp,u,rfl⟩;rw[show(kvs.length:Int).toNat=S.runs.length by lia,List.take_length] at rp;exact q D ys H' sH hD eD rp
def zPw(ask:Addr->Int->List V->Prop):List V->Hp->XK->Prop:=λvs H E=>∃(b p:Addr)(S:BS)(past later:List (Deed×BS))(m:Int),ask b m vs/\zDx bkC H b p S past later/\Few S/\zTl S.runs.length m/\∀ H':Hp,Same H H'->E (.ref zO) none H'
def askW(b:Addr)(m:Int)(vs:List V):Prop:=∃ o:Int,(vs=[.ref b,.int m,.int o]\/vs=[.ref b,.int o,.int m])/\o.natAbs.log2<1920
def xQ(_:PySem.W.Frag):Sp:=λvs H Q E=>(∃(b p:Addr)(S:BS)(past later:List (Deed×BS))(i j:Nat),vs=[.ref b,.int i,.int j]/\zDx bkC H b p S past later/\Few S/\i<=S.runs.length/\j<=S.runs.length /\
 ∀(t:Addr)(H':Hp),Same H H'->H t=none->H' t=some (.tup [.int (xV S.runs i j).1,.int (xV S.runs i j).2])->Q (.ref t) H')\/zPw askW vs H E
theorem zBe(F:Fun K "way_between" "way_between" wD f fd)(Z:Zs mg)(CB:Cb P w mg base)(yAd:zIj P w K mg base "check_moment" 1 ["moment", "runs"] (yO K))(h_b_runs:zJ8 P w K mg base zFe 1 ["self"] (zCb K)):yP P w K mg base (CX1 P w) 2 f fd ["book", "one", "other"] (xQ K):=by
 refine F.okX xP (λvs H Q E h=>?_) (λcdv A outer s H vs Q E hr h=>?_)
 ·rcases h with ⟨b,p,S,past,later,i,j,rfl,_⟩ | ⟨b,p,S,past,later,m,⟨o,rfl | rfl,_⟩,_⟩ <;> rfl
 refine'⟨_,(zB (PS.nox (zV 3 xP.nd (tD CB.m_runs h_b_runs (hr.mono (by decide)) (pv 0))))
   (zB (zU (yX (λ_=>E) yAd zBp (hr.mono (by decide)) rfl (zF (pv 1) (zF (pv 3) zL))))
   (zB (zU (yX (λ_=>E) yAd zBp (hr.mono (by decide)) rfl (zF (pv 2) (zF (pv 3) zL))))
   (zB (PS.nox (zV 4 xP.nd ?_))
   (zB (PS.nox (zV 5 xP.nd ?_))
   (zD (PS.nox (zS (zGr (zF (sS zFy (pv 5) (yB (sN rfl) rfl Z.sum zG3 (zF (wM (T:=["run"]) (caps:=[]) ⟨rfl,by decide +kernel,by decide +kernel,rfl,True.intro⟩ rfl (uF (pv 4)) (λ_=>(uL 0 (show(["run"]:List Str).Nodup by decide +kernel))) (λ_=>yW) (λ_=>?_)) zL))) (zF (sS zFy (pv 5) (yB (sN rfl) rfl Z.sum zG3 (zF (wM (T:=["run"]) (caps:=[]) ⟨rfl,by decide +kernel,by decide +kernel,rfl,True.intro⟩ rfl (uF (pv 4)) (λ_=>(uL 0 (show(["run"]:List Str).Nodup by decide +kernel))) (λ_=>yW) (λ_=>?_)) zL))) zL))))))))))),?_⟩
 nofun
 rcases h with h | h
 rotate_left
 ·obtain⟨b,p,S,past,later,m,ask,bk,fw,off,k⟩:=h;have few:=fw.ru;obtain⟨dx,d,l,ps,ls,kk⟩:=id bk;have no:∀{d l:Addr}{m:Str},m = "runs" ->(bkF d p l).lookup m=none:=λ{d l m} e=>by subst e; exact zHp (by decide +kernel) (by decide +kernel) (by decide +kernel)
  obtain⟨o,e | e,so⟩:=ask
  ·subst e;refine⟨_,rfl,b,dx,_,rfl,kk.ob,no rfl,b,p,S,past,later,rfl,bk,fw,λr rs H1 s1 hr0 hr1 rep=>?_⟩;have lrs:rs.length=S.runs.length:=by rw[rep.length,List.length_map]
   exact⟨_,rfl,_,rfl,r,m,S.runs.length,rfl,.inl ⟨rs,SqL.of hr1,lrs⟩,.inr ⟨off,k _ s1⟩⟩
  ·subst e;refine⟨_,rfl,b,dx,_,rfl,kk.ob,no rfl,b,p,S,past,later,rfl,bk,fw,λr rs H1 s1 hr0 hr1 rep=>?_⟩;have lrs:rs.length=S.runs.length:=by rw[rep.length,List.length_map]
   exists _,rfl,_,rfl,r,o,S.runs.length,rfl,.inl ⟨rs,SqL.of hr1,lrs⟩;by_cases z:0<=o/\o<=(S.runs.length:Int)
   ·exact .inl ⟨z.1,z.2,_,rfl,_,rfl,r,m,S.runs.length,rfl,.inl ⟨rs,SqL.of hr1,lrs⟩,.inr ⟨off,k _ s1⟩⟩
   ·exact .inr ⟨⟨by lia,so⟩,k _ s1⟩
 obtain⟨b,p,S,past,later,i0,j0,rfl,bk,fw,hi,hj,k⟩:=h;have few:=fw.ru;obtain⟨dx,d,l,ps,ls,kk⟩:=id bk;have no:∀{d l:Addr}{m:Str},m = "runs" ->(bkF d p l).lookup m=none:=λ{d l m} e=>by subst e; exact zHp (by decide +kernel) (by decide +kernel) (by decide +kernel)
 refine⟨_,rfl,b,dx,_,rfl,kk.ob,no rfl,b,p,S,past,later,rfl,bk,fw,λr rs H1 s1 hr0 hr1 rep=>?_⟩;have lrs:rs.length=S.runs.length:=by rw[rep.length,List.length_map]
 refine⟨_,rfl,_,rfl,r,i0,S.runs.length,rfl,.inl ⟨rs,SqL.of hr1,lrs⟩,.inl ⟨(by lia),(by lia),?_⟩⟩;refine⟨_,rfl,_,rfl,r,j0,S.runs.length,rfl,.inl ⟨rs,SqL.of hr1,lrs⟩,.inl ⟨(by lia),(by lia),?_⟩⟩;refine⟨_,rfl,_,rfl,_,rfl,_,_,rfl,_,rfl,_,rfl,_,rfl,_,_,rfl,_,rfl,r,rs,rfl,SqL.of hr1,λq hq=>?_⟩;have e1:(if (j0:Int)<i0 then(j0:Int) else i0)=((min i0 j0:Nat):Int):=by split <;> lia
 have e2:(if (j0:Int)>i0 then(j0:Int) else i0)=((max i0 j0:Nat):Int):=by split <;> lia
 have ec:zDi rs (some (if (j0:Int)<i0 then(j0:Int) else i0)) (some (if (j0:Int)>i0 then(j0:Int) else i0))=(rs.drop (min i0 j0)).take (max i0 j0-min i0 j0):=by
  rw[e1,e2,zId (by lia) (by lia)]
 generalize hcs:zDi rs (some (if (j0:Int)<i0 then(j0:Int) else i0)) (some (if (j0:Int)>i0 then(j0:Int) else i0))=cs at hq;have sq:=zC hq (.lst cs);have rc:xJ (upd H1 q (.lst cs)) ((rZ S.runs i0 j0).map ptD) cs:=by
  have ecs:cs=(rs.drop (min i0 j0)).take (max i0 j0-min i0 j0):=hcs.symm.trans ec;have:=((rep.drop (min i0 j0)).take (max i0 j0-min i0 j0)).to (.of sq);rw[<- ecs,<- List.map_drop,<- List.map_take] at this;exact this
 have ls:=zCq S.runs i0 j0;exists _,rfl,_,rfl,_,_,rfl,rfl,_,rfl;have cmh:∀ y:Int,zQ5 (vJ i0 j0) y:=λy=>qL (by unfold vJ; split <;> decide);refine zQw (i:=i0) (j:=j0) ?_;refine⟨_,rfl,_,rfl,q,rfl,.inl ⟨⟨_,SqL.of zA⟩,λc D hD=>?_⟩⟩;refine xY (K:=K) (a:=q) (xs:=cs) (λi σ zs H'=>Same (upd H1 q (.lst cs)) H'/\H' D=some (.lst zs)/\zs=(((rZ S.runs i0 j0).take i).map (·.1)).map V.int/\∃ u:Option V,σ=[u])
  ⟨zC hD _,zA,rfl,none,rfl⟩ (λi σ zs H' _ ⟨sH,e,_⟩=>⟨SqL.of (sH _ _ zA),e⟩) ?_ ?_
 ·rintro i x σ zs H' hi ⟨sH,eD,rfl,u,rfl⟩;obtain⟨p,a,gp,rfl,ea⟩:=zEx rc hi;have hil:=(List.getElem?_eq_some_iff.mp gp).1;refine⟨_,rfl,a,_,0,.int p.1,rfl,rfl,.inr (SqT.of (sH _ _ ea)),rfl,eD,zJ (by rw[List.length_map,List.length_map,List.length_take]; lia),sH.putNew hD,zA,?_,_,rfl⟩;rw[List.take_succ,gp,List.map_append,List.map_append];rfl
 rintro σ zs H2 ⟨s2,eD,rfl,u,rfl⟩;exists D,_,rfl,SqL.of eD,_,_,rfl,rfl,cmh _;have eq2:=s2 _ _ (zA (H:=H1) (a:=q) (o:=.lst cs));have rc2:=rc.to (.of s2);refine⟨_,rfl,_,rfl,q,rfl,.inl ⟨⟨_,SqL.of eq2⟩,λc D hD=>?_⟩⟩;refine xY (K:=K) (a:=q) (xs:=cs) (λi σ zs H'=>Same H2 H'/\H' D=some (.lst zs)/\zs=(((rZ S.runs i0 j0).take i).map (·.2)).map V.int/\∃ u:Option V,σ=[u])
  ⟨zC hD _,zA,rfl,none,rfl⟩ (λi σ zs H' _ ⟨sH,e,_⟩=>⟨SqL.of (sH _ _ eq2),e⟩) ?_ ?_
 ·rintro i x σ zs H' hi ⟨sH,eD,rfl,u,rfl⟩;obtain⟨p,a,gp,rfl,ea⟩:=zEx rc2 hi;have hil:=(List.getElem?_eq_some_iff.mp gp).1;refine⟨_,rfl,a,_,1,.int p.2,rfl,rfl,.inr (SqT.of (sH _ _ ea)),rfl,eD,zJ (by rw[List.length_map,List.length_map,List.length_take]; lia),sH.putNew hD,zA,?_,_,rfl⟩;rw[List.take_succ,gp,List.map_append,List.map_append];rfl
 rintro σ zs H3 ⟨s3,eD3,rfl,u,rfl⟩;refine⟨D,_,rfl,SqL.of eD3,_,_,rfl,rfl,cmh _,sz2,λt ht=>?_⟩;have s23:=s2.trans s3;refine k t _ (s1.trans ((sq.trans s23).trans (zC ht _))) (s1.free (sq.free (s23.free ht))) ?_;rw[zA,show cs.length=(rZ S.runs i0 j0).length by rw[rc.length,List.length_map],List.take_length];rfl
def zD5(_:PySem.W.Frag):Sp:=λvs H Q _=>∃(b p:Addr)(S:BS)(past later:List (Deed×BS)),vs=[.ref b]/\zDx bkC H b p S past later/\Few S/\zO2 S /\
 ∀(c:Addr)(as:List Addr)(H':Hp),Same H H'->H c=none->H' c=some (.lst (as.map V.ref))->zP0 H' as S.notes->Q (.ref c) H'
theorem zJz(F:Fun K "notes" "Book.notes" qS f fd)(Z:Zs mg)(CB:Cb P w mg base)  : yP P w K mg base CX0 1 f fd ["self"] (zD5 K):=by
 specialize zJo
 ·obtain⟨b,p,S,past,later,rfl,_⟩:=h;rfl
 obtain⟨b,p,S,past,later,rfl,⟨dx,d,l,ps,ls,k⟩,few,ri,q⟩:=h;obtain⟨m,bk,r,n,st⟩:=k.st;obtain⟨kvs,hn,kv⟩:=st.no;obtain⟨ks,rfl,ek,rp⟩:=zIw kv;have lk:ks.length=S.notes.length:=by have:=congrArg List.length ek; simpa using this
 exists _,(zD (zS (yB (zF4 rfl) rfl Z.sorted sW (zF (zMz (zN (zW hr) (rW CB.state (pv 0)) zQ (λ_ _=>rfl))) zL))))
 try dsimp only[L2.cxOf]
 refine⟨_,rfl,b,dx,_,_,rfl,k.ob,rD,d,.ref n,rfl,.inl ⟨_,.inr "notes", st.at_,rfl,zEi.symm⟩,n,_,rfl,hn,λv hv=>?_⟩;have s1:=zC hv (.ext (zFx v n));refine⟨v,n,ks,rfl,zA,Rd.same hn s1,(by have:=few.no; lia),(by rw[ek]; exact ri),λc as H' s2 hc hl e2 ha=>?_⟩;refine q c as H' (s1.trans s2) (s1.free hc) e2 ⟨hl.trans lk,λj a e h1 h2=>?_⟩;have hj:=(List.getElem?_eq_some_iff.mp h1).1;have hk:ks[j]?=some ks[j]:=List.getElem?_eq_getElem (by lia);obtain⟨_,h3⟩:=ha j a _ h1 hk;obtain⟨x,h4,h5⟩:=(rp.to (.of (s1.trans s2))).at (i:=j) (d:=e.2.dt) (by rw[List.getElem?_map,h2]; rfl);rw[List.getElem?_map,hk] at h4;have e1:ks[j].1=e.1:=by
  have:=congrArg (·[j]?) ek;simp only[List.getElem?_map,hk,h2,Option.map_some,Option.some.injEq] at this;exact this
 rw[e1] at h3;have e4:ks[j].2=x:=by simpa using h4
 exact⟨x,by rw[<- e4]; exact h3,h5⟩
def askM(b:Addr)(m:Int)(vs:List V):Prop:=vs=[.ref b,.int m]
def xU(_:PySem.W.Frag):Sp:=λvs H Q E=>(∃(b p:Addr)(S:BS)(past later:List (Deed×BS))(j:Nat),vs=[.ref b,.int j]/\zDx bkC H b p S past later/\zI1 S/\j<=S.runs.length /\
 ∀(l:Addr)(gs:List Addr)(H':Hp),Same H H'->H l=none->(∀ g∈gs,g≠l)->H' l=some (.lst (gs.map V.ref))->yK H H' gs (S.notes.map λe=>xI S j e.2)->Q (.ref l) H')\/zPw askM vs H E
theorem zBd(F:Fun K "note_groups" "note_groups" wK f fd)(Z:Zs mg)(CB:Cb P w mg base)(h_b_notes:zJ8 P w K mg base zEj 1 ["self"] (zD5 K))(yBb:Has P w K mg base "sides_of" 5 ["note", "places"] (zAa K))(yBk:Has P w K mg base "pushed" 1 ["side", "x", "y"] (zCp K))(yAg:zIj P w K mg base "way_between" 2 ["book", "one", "other"] (xQ K))(yAk:Has P w K mg base "mark_places" 2 ["book"] (tY K))(yAd:zIj P w K mg base "check_moment" 1 ["moment", "runs"] (yO K))(h_b_runs:zJ8 P w K mg base zFe 1 ["self"] (zCb K)):yP P w K mg base (CX1 P w) 6 f fd ["book", "moment"] (xU K):=by
 refine F.okX yM (λvs H Q E h=>?_) (λcdv A outer s H vs Q E hr h=>?_)
 ·rcases h with ⟨b,p,S,past,later,j,rfl,_⟩ | ⟨b,p,S,past,later,m,rfl,_⟩ <;> rfl
 refine'⟨_,(zB (zU (yX (λ_=>E) yAd zBp (hr.mono (by decide)) rfl (zF (pv 1) (zF (tD CB.m_runs h_b_runs (hr.mono (by decide)) (pv 0)) zL))))
   (zB (PS.nox (zV 2 yM.nd ?_))
   (zB (PS.nox (zV 3 yM.nd ?_))
   (zB (PS.nox (wP PassesOwn.never rfl (uF (tD CB.m_notes h_b_notes (hr.mono (by decide)) (pv 0))) (uL 4 yM.nd) (zB (zV 5 yM.nd ?_)
   (zB (zV 6 yM.nd (yX (λ_=>E0) yAg zAh (hr.mono (by decide)) rfl ?_))
   (zD (zU (zAm (pv 3) (zF (wM (T:=["side"]) (caps:=[("way", 6)]) ⟨rfl,by decide +kernel,by decide +kernel,rfl,⟨⟨rfl,rfl,Or.inl rfl⟩,True.intro⟩⟩ rfl (uF ?_) (λ_=>(uL 0 (show(["side", "way"]:List Str).Nodup by decide +kernel))) (λ_=>yW) (λ_=>?_)) zL))))))))
   (zD (PS.nox (zS (pv 3)))))))),?_⟩
 nofun
 rcases h with h | h
 rotate_left
 ·obtain⟨b,p,S,past,later,m,rfl,bk,fw,off,k⟩:=h;obtain⟨dx,d,l,ps,ls,kk⟩:=id bk;have no:(bkF d p l).lookup ("runs" : Str)=none:=zHp (by decide +kernel) (by decide +kernel) (by decide +kernel);refine⟨_,rfl,_,rfl,b,dx,_,rfl,kk.ob,no,b,p,S,past,later,rfl,bk,fw,λr rs H1 s1 hr0 hr1 rep=>?_⟩;exact⟨r,m,S.runs.length,rfl,.inl ⟨rs,SqL.of hr1,by rw[rep.length,List.length_map]⟩,.inr ⟨off,k _ s1⟩⟩
 obtain⟨b,p,S,past,later,j0,rfl,bk,gd,hj,q⟩:=h;have no:∀{d l:Addr}{m:Str},m = "runs" \/ m = "notes" ->(bkF d p l).lookup m=none:=λ{d l m} e=>by rcases e with e | e <;> subst e <;> exact zHp (by decide +kernel) (by decide +kernel) (by decide +kernel)
 obtain⟨dx,d,l,ps,ls,kk⟩:=id bk;refine⟨_,rfl,_,rfl,b,dx,_,rfl,kk.ob,no (.inl rfl),b,p,S,past,later,rfl,bk,gd.few,λr rs H1 s1 hr0 hr1 rep=>?_⟩;have lrs:rs.length=S.runs.length:=by rw[rep.length,List.length_map]
 refine⟨r,j0,S.runs.length,rfl,.inl ⟨rs,SqL.of hr1,lrs⟩,.inl ⟨(by lia),(by lia),?_⟩⟩;have bk1:=bk.to (.of s1);refine⟨_,rfl,b,p,S,past,later,rfl,bk1,gd.few,λdd H2 s2 hdd pl=>?_⟩;refine⟨sz0,λG hG=>?_⟩;have s3:=zC hG (.lst []);have bk3:=bk1.to (.of (s2.trans s3));obtain⟨dx3,d3,l3,ps3,ls3,kk3⟩:=id bk3;refine⟨_,rfl,b,dx3,_,rfl,kk3.ob,no (.inr rfl),b,p,S,past,later,rfl,bk3,gd.few,gd.rise,λc as H4 s4 hc e4 na=>?_⟩;have ncG:c≠G:=λz=>by rw[z,zA] at hc; cases hc
 have eG4:=s4 _ _ (zA (H:=H2) (a:=G) (o:=.lst []));have s14:Same H1 H4:=s2.trans (s3.trans s4);have fn:=gd.few.no;have nG:H G=none:=s1.free (s2.free hG);refine⟨c,rfl,.inl ⟨⟨_,SqL.of e4⟩,uQ (K:=K) (a:=c) (xs:=as.map V.ref) (λi σ H'=>(∀ x o,x≠G->H4 x=some o->H' x=some o)/\(∃ gs:List Addr,H' G=some (.lst (gs.map V.ref))/\(∀ g∈gs,g≠G)/\yK H H' gs ((S.notes.take i).map λe=>xI S j0 e.2))/\∃ u1 u2 u3:Option V,σ=[some (.ref b),some (.int j0),some (.ref dd),some (.ref G),u1,u2,u3])
  ⟨λ_ _ _ e=>e,⟨[],eG4,λ_ h=>(nomatch h),yK.nil⟩,none,none,none,rfl⟩ (λi σ H' _ hq=>SqL.of (hq.1 _ _ ncG e4)) ?_ ?_⟩⟩
 ·rintro i x σ H5 hi ⟨sH,⟨gs,eG,ngG,ga⟩,u1,u2,u3,rfl⟩;rw[List.getElem?_map,Option.map_eq_some_iff] at hi;obtain⟨a,ha,rfl⟩:=hi;have hil:i<S.notes.length:=by rw[<- na.len]; exact(List.getElem?_eq_some_iff.mp ha).1
  have hn:S.notes[i]?=some S.notes[i]:=List.getElem?_eq_getElem hil;obtain⟨v,ea,rv⟩:=na.at_ i a _ ha hn;have kn:=gd.note _ (List.getElem_mem hil);generalize S.notes[i]=nt at hn ea rv kn;have sE:uM (λx=>x=G) H4 H5:=λx o hx e=>.inl (sH x o hx e);have npG:∀ a xs,H4 a=some (.tup xs)->¬ a=G:=wO eG4;have ea5:=sE.tup (npG _ _ ea) ea;have rv5:=rv.sam sE npG;obtain⟨t,xs,rfl,et,mo,m0,m1⟩:=zC1 kn rv5;exists _,rfl,a,_,1,.ref t,rfl,rfl,.inr (SqT.of ea5),rfl;have s05:Same H H5:=λx o e=>sH x o (zH e nG) (s14 _ _ (s1 _ _ e));have s25:Same H2 H5:=λx o e=>sH x o (zH e hG) ((s3.trans s4) _ _ e);refine⟨_,rfl,_,rfl,t,xs,1,_,rfl,rfl,.inr (SqT.of et),mo,_,rfl,.inl ⟨b,p,S,past,later,(wN nt.2).toNat,j0,?_,bk.to (.of s05),gd.few,(by lia),hj,λw H6 s6 hw ew=>?_⟩⟩
  ·exact congrArg (λz=>[V.ref b,V.int z,V.int j0]) (Int.toNat_of_nonneg m0).symm
  refine⟨_,rfl,.inl ⟨rfl,_,SqL.of (s6 _ _ eG)⟩,_,rfl,_,rfl,dd,.ref t,S,nt.2,rfl,rv5.to (.of s6),pl.to (.of (s25.trans s6)),kn,gd.mk_,λL sd H7 s7 eL ts=>?_⟩;have three:=zA0 gd.mk_ kn;have two:=zAb (S:=S) (D:=nt.2);refine⟨L,rfl,.inl ⟨⟨_,SqL.of eL⟩,λcc B hB=>?_⟩⟩;have ew7:=s7 _ _ ew;refine xY (K:=K) (a:=L) (xs:=sd.map V.ref) (λi σ zs H'=>Same H7 H'/\H' B=some (.lst zs)/\(∃ bs:List Addr,zs=bs.map V.ref/\yD H' bs (((uK S nt.2).take i).map (zNf (xV S.runs (wN nt.2).toNat j0).1 (xV S.runs (wN nt.2).toNat j0).2)))/\∃ u:Option V,σ=[u,some (.ref w)])
   ⟨zC hB _,zA,⟨[],rfl,.nil⟩,none,rfl⟩ (λi σ zs H' _ hq=>⟨SqL.of (hq.1 _ _ eL),hq.2.1⟩) ?_ ?_
  ·rintro i x σ zs H' hi ⟨sH',eB,⟨bs,rfl,tb⟩,u,rfl⟩;rw[List.getElem?_map,Option.map_eq_some_iff] at hi;obtain⟨y,hy,rfl⟩:=hi;have hil':i<(uK S nt.2).length:=by rw[<- ts.len]; exact(List.getElem?_eq_some_iff.mp hy).1
   have hr':(uK S nt.2)[i]?=some (uK S nt.2)[i]:=List.getElem?_eq_getElem hil';obtain⟨A,B',C,e3,bA,bB⟩:=three _ (List.getElem_mem hil');have ey:=ts.at_ i y _ hy hr';rw[e3] at ey hr';have ewq:Sq K H' w _:=.inr (SqT.of (sH' _ _ ew7));refine⟨_,rfl,_,rfl,w,_,0,_,rfl,rfl,ewq,rfl,_,rfl,w,_,1,_,rfl,rfl,ewq,rfl,y,A,B',C,_,_,rfl,.inr (SqT.of (sH' _ _ ey)),(by lia),(by lia),λz H8 s8 hz ez=>?_⟩;have eB8:=s8 _ _ eB;refine⟨eB8,zJ (by rw[List.length_map,tb.len,List.length_map,List.length_take]; lia),(sH'.trans s8).putNew hB,zA,⟨bs++[z],by rw[List.map_append]; rfl,?_⟩,_,rfl⟩;rw[List.take_succ,hr',List.map_append];exact((tb.to (.of s8)).app (.one ez)).samE (uD eB8) (wO eB8)
  ·rintro σ zs H8 ⟨s8,eB,⟨bs,rfl,tb⟩,u,rfl⟩;rw[List.length_map,ts.len,List.take_length] at tb;have s58:Same H5 H8:=s6.trans (s7.trans s8);have eG8:=s58 _ _ eG;have nB5:H5 B=none:=s6.free (s7.free hB);have nBG:B≠G:=λz=>by rw[z,eG] at nB5; cases nB5
   exists G,_,.ref B,rfl,rfl,eG8,zJ (by rw[List.length_map,ga.len,List.length_map,List.length_take]; lia);have sG:=uD (o:=.lst (gs.map V.ref++[.ref B])) eG8;refine⟨λx o n e=>by rw[zG n]; exact s58 _ _ (sH x o n e),⟨gs++[B],by rw[zA,List.map_append]; rfl,λg hg=>?_,?_⟩,_,_,_,rfl⟩
   ·rcases List.mem_append.mp hg with z | z
    ·exact ngG g z
    ·rw[List.mem_singleton.mp z]; exact nBG
   ·rw[List.take_succ,hn,List.map_append];have ga8:yK H H8 gs _:=ga.samE (uM.of (φ:=λ_=>False) s58) (λ_ _ _=>id) (λ_ _=>id);exact(ga8.samE sG (wO eG8) ngG).snoc (s05.free nB5) (by rw[zG nBG]; exact eB) (tb.samE sG (wO eG8))
 ·rintro σ H5 ⟨sH,⟨gs,eG,ngG,ga⟩,u1,u2,u3,rfl⟩;rw[List.length_map,na.len,List.take_length] at ga;exact⟨_,rfl,q G gs H5 (λx o e=>sH x o (zH e nG) (s14 _ _ (s1 _ _ e))) nG ngG eG ga⟩
def uW(_:PySem.W.Frag):Sp:=λvs H Q E=>(∃(b p:Addr)(S:BS)(past later:List (Deed×BS))(j:Nat),vs=[.ref b,.int j]/\zDx bkC H b p S past later/\zI1 S/\j<=S.runs.length /\
 ∀(l:Addr)(as:List Addr)(H':Hp),Same H H'->H l=none->H' l=some (.lst (as.map V.ref))->yD H' as (S.notes.map λe=>xI S j e.2).flatten->Q (.ref l) H')\/zPw askM vs H E
theorem zCv(F:Fun K "note_sides" "note_sides" wT f fd)(Z:Zs mg)(CB:Cb P w mg base)(yAj:zIj P w K mg base "note_groups" 6 ["book", "moment"] (xU K)):yP P w K mg base (CX1 P w) 7 f fd ["book", "moment"] (uW K):=by
 refine F.okX vD (λvs H Q E h=>?_) (λcdv A outer s H vs Q E hr h=>?_)
 ·rcases h with ⟨b,p,S,past,later,j,rfl,_⟩ | ⟨b,p,S,past,later,m,rfl,_⟩ <;> rfl
 refine'⟨_,(zB (PS.nox (zV 2 vD.nd ?_))
   (zB (wP PassesOwn.leaving rfl (uF (yX (λ_=>E) yAj zBp (hr.mono (by decide)) rfl (zF (pv 0) (zF (pv 1) zL)))) (uL 3 vD.nd) (PSs.nox (zD (zU (zQq PySem.F.plainAttrs_list PySem.F.slot_list_extend PySem.F.type_list_extend zLs (pv 2) (zF (pv 3) zL))))))
   (zD (PS.nox (zS (pv 2)))))),?_⟩
 nofun
 rcases h with h | h
 rotate_left
 ·obtain⟨b,p,S,past,later,m,rfl,bk,fw,off,k⟩:=h;refine⟨sz0,λL hL=>?_⟩;have s1:=zC hL (.lst []);exact⟨_,rfl,_,rfl,.inr ⟨b,p,S,past,later,m,rfl,bk.to (.of s1),fw,off,λH' s2=>k _ (s1.trans s2)⟩⟩
 obtain⟨b,p,S,past,later,j0,rfl,bk,gd,hj,q⟩:=h;refine⟨sz0,λL hL=>?_⟩;have s1:=zC hL (.lst []);refine⟨_,rfl,_,rfl,.inl ⟨b,p,S,past,later,j0,rfl,bk.to (.of s1),gd,hj,λG gs H2 s2 hG _ eG ga=>?_⟩⟩;have eL2:=s2 _ _ (zA (H:=H) (a:=L) (o:=.lst []));have nGL:G≠L:=λz=>by rw[z,zA] at hG; cases hG
 have ngL:∀ g∈gs,g≠L:=λg hg z=>by
  have:=ga.new g hg;rw[z,zA] at this;cases this
 refine⟨G,rfl,.inl ⟨⟨_,SqL.of eG⟩,uQ (K:=K) (a:=G) (xs:=gs.map V.ref) (λi σ H'=>(∀ x o,x≠L->H2 x=some o->H' x=some o)/\(∃ as:List Addr,H' L=some (.lst (as.map V.ref))/\yD H' as ((S.notes.take i).map λe=>xI S j0 e.2).flatten)/\∃ u:Option V,σ=[some (.ref b),some (.int j0),some (.ref L),u])
  ⟨λ_ _ _ e=>e,⟨[],eL2,yD.nil⟩,none,rfl⟩ (λi σ H' _ hq=>SqL.of (hq.1 _ _ nGL eG)) ?_ ?_⟩⟩
 ·rintro i x σ H5 hi ⟨sH,⟨as,eL,ta⟩,u,rfl⟩;rw[List.getElem?_map,Option.map_eq_some_iff] at hi;obtain⟨g,hg,rfl⟩:=hi;have hil:i<S.notes.length:=by
   have:=ga.len;rw[List.length_map] at this;rw[<- this];exact(List.getElem?_eq_some_iff.mp hg).1
  have hn:S.notes[i]?=some S.notes[i]:=List.getElem?_eq_getElem hil;obtain⟨bs,eg,tb⟩:=ga.at_ i g (xI S j0 S.notes[i].2) hg (by rw[List.getElem?_map,hn]; rfl);have sE:uM (λx=>x=L) H2 H5:=λx o hx e=>.inl (sH x o hx e);have eg5:=sE.lst (ngL g (List.mem_of_getElem? hg)) eg;have tb5:=tb.samE sE (wO eL2);have l1:=zBx (λe:Int×Deed=>xI S j0 e.2) (λ_=>uV) (S.notes.take i);have l2:=uV (S:=S) (j:=j0) (D:=S.notes[i].2);have l3:=ta.len;have l4:=tb.len;have fn:=gd.few.no;rw[List.length_take] at l1;exists _,rfl,.inl ⟨rfl,_,SqL.of eL⟩,_,rfl,L,g,_,_,rfl,rfl,eL,eg5,Nat.le_of_lt (zJ (by rw[List.length_map,List.length_map]; lia));have sL:=uD (o:=.lst (as.map V.ref++bs.map V.ref)) eL;refine⟨λx o n e=>by rw[zG n]; exact sH x o n e,⟨as++bs,by rw[zA,List.map_append],?_⟩,_,rfl⟩;rw[List.take_succ,hn,List.map_append,List.flatten_append];refine(ta.app ?_).samE sL (wO eL);show yD H5 bs [xI S j0 S.notes[i].2].flatten;rw[List.flatten_singleton];exact tb5
 ·rintro σ H5 ⟨sH,⟨as,eL,ta⟩,u,rfl⟩;rw[List.length_map,ga.len,List.length_map,List.take_length] at ta;exact⟨_,rfl,q L as H5 (λx o e=>sH x o (zH e hL) (s2 _ _ (s1 _ _ e))) hL eL ta⟩
def zAq(_:PySem.W.Frag):Sp:=λvs H Q _=>∃(b p:Addr)(S:BS)(past later:List (Deed×BS))(m o k:Int),vs=[.ref b,.int m,.int o,.int k]/\zDx bkC H b p S past later/\Few S/\zTl S.runs.length m/\o.natAbs.log2<1920/\∀ H':Hp,Same H H'->Q (.bl true) H'
theorem zF9(F:Fun K "_law_nowhere" "_law_nowhere" tO f fd)(Z:Zs mg)(CB:Cb P w mg base)(yAg:zIj P w K mg base "way_between" 2 ["book", "one", "other"] (xQ K))(yAu:zIj P w K mg base "note_sides" 7 ["book", "moment"] (uW K))(yAj:zIj P w K mg base "note_groups" 6 ["book", "moment"] (xU K)):yP P w K mg base CX0 8 f fd ["_law_book", "_law_moment", "_law_other", "_law_door"] (zAq K):=by
 specialize zAw
 ·obtain⟨b,p,S,past,later,m,o,k,rfl,_⟩:=h;rfl
 obtain⟨b,p,S,past,later,m,o,k,rfl,bk,fw,off,so,q⟩:=h
 refine'⟨_,(zB (zSz (i:=4) (λ_ EE=>(zD (yY ?_ (zD (zU (yX EE yAg zBq (hr.mono (by decide)) rfl (zF (pv 0) (zF (pv 1) (zF (pv 2) zL)))))) (zD (yY ?_ (zD (zU (yX EE yAg zBq (hr.mono (by decide)) rfl (zF (pv 0) (zF (pv 2) (zF (pv 1) zL)))))) (zD (yY ?_ (zD (zU (yX EE yAu zBq (hr.mono (by decide)) rfl (zF (pv 0) (zF (pv 1) zL))))) (zD (zU (yX EE yAj zBq (hr.mono (by decide)) rfl (zF (pv 0) (zF (pv 1) zL)))))))))))) CB.gMarkError zAw.nd rfl rfl (λ_=>(zD (zS (zLr (yB (zD8 (B:=base) rfl) rfl Z.isinstance tM (zF (pv 4) (zF (zS3 CB.gNoMoment) zL))) (zLq (yB (zD8 (B:=base) rfl) rfl Z.isinstance tM (zF (pv 4) (zF (rY (v:=.ty "ValueError") rfl Z.ValueError zEs rfl) zL)))))))))
   (zD (zS zGz))),?_⟩
 nofun
 exists _,rfl,rfl,_,rfl;refine ifE (λz=>?_) (λz=>?_)
 ·refine⟨_,rfl,_,rfl,_,rfl,.inr ⟨b,p,S,past,later,m,⟨o,.inl rfl,so⟩,bk,fw,off,λH' s'=>?_⟩⟩;refine⟨CB.t_NoMoment_MarkError,λea he=>?_⟩;exists _,rfl,ea,.ref zO,.ref zO,.ref zO,rfl,.inr ⟨_,rfl,rfl⟩,zA,CB.i_NoMoment_NoMoment;refine⟨true,rfl,zFh ?_⟩;exact⟨_,rfl,ea,.ty "ValueError", .ref zO,.type "ValueError", rfl,.inl ⟨_,rfl,rfl⟩,zA,CB.i_NoMoment_ValueError,q _ (s'.trans (zC he _))⟩
 exists _,rfl,rfl,_,rfl;refine ifE (λz=>?_) (λz=>?_)
 ·refine⟨_,rfl,_,rfl,_,rfl,.inr ⟨b,p,S,past,later,m,⟨o,.inr rfl,so⟩,bk,fw,off,λH' s'=>?_⟩⟩;refine⟨CB.t_NoMoment_MarkError,λea he=>?_⟩;exists _,rfl,ea,.ref zO,.ref zO,.ref zO,rfl,.inr ⟨_,rfl,rfl⟩,zA,CB.i_NoMoment_NoMoment;refine⟨true,rfl,zFh ?_⟩;exact⟨_,rfl,ea,.ty "ValueError", .ref zO,.type "ValueError", rfl,.inl ⟨_,rfl,rfl⟩,zA,CB.i_NoMoment_ValueError,q _ (s'.trans (zC he _))⟩
 exists _,rfl,rfl,_,rfl;refine ifE (λz=>?_) (λz=>?_)
 ·refine⟨_,rfl,_,rfl,.inr ⟨b,p,S,past,later,m,rfl,bk,fw,off,λH' s'=>?_⟩⟩;refine⟨CB.t_NoMoment_MarkError,λea he=>?_⟩;exists _,rfl,ea,.ref zO,.ref zO,.ref zO,rfl,.inr ⟨_,rfl,rfl⟩,zA,CB.i_NoMoment_NoMoment;refine⟨true,rfl,zFh ?_⟩;exact⟨_,rfl,ea,.ty "ValueError", .ref zO,.type "ValueError", rfl,.inl ⟨_,rfl,rfl⟩,zA,CB.i_NoMoment_ValueError,q _ (s'.trans (zC he _))⟩
 ·refine⟨_,rfl,_,rfl,.inr ⟨b,p,S,past,later,m,rfl,bk,fw,off,λH' s'=>?_⟩⟩;refine⟨CB.t_NoMoment_MarkError,λea he=>?_⟩;exists _,rfl,ea,.ref zO,.ref zO,.ref zO,rfl,.inr ⟨_,rfl,rfl⟩,zA,CB.i_NoMoment_NoMoment;refine⟨true,rfl,zFh ?_⟩;exact⟨_,rfl,ea,.ty "ValueError", .ref zO,.type "ValueError", rfl,.inl ⟨_,rfl,rfl⟩,zA,CB.i_NoMoment_ValueError,q _ (s'.trans (zC he _))⟩
def zCh(_:PySem.W.Frag):Sp:=λvs H Q _=>∃(b p:Addr)(S:BS)(past later:List (Deed×BS)),vs=[.ref b]/\zDx bkC H b p S past later/\Q (.int S.coming) H
theorem zHw(F:Fun K "coming" "Book.coming" rC f fd)(Z:Zs mg)(CB:Cb P w mg base)  : yP P w K mg base CX0 1 f fd ["self"] (zCh K):=by
 specialize zH0
 ·obtain⟨b,p,S,past,later,rfl,_⟩:=h;rfl
 obtain⟨b,p,S,past,later,rfl,⟨dx,d,l,ps,ls,k⟩,q⟩:=h;obtain⟨m,bk,r,n,st⟩:=k.st;exists _,(zD (zS (zN (zW hr) (rW CB.state (pv 0)) zQ (λ_ _=>rfl))))
 try dsimp only[L2.cxOf]
 exact⟨_,rfl,b,dx,_,_,rfl,k.ob,rD,d,.int S.coming,rfl,.inl ⟨_,.inr "coming", st.at_,rfl,zCx.symm⟩,q⟩
def zGa(_:PySem.W.Frag):Sp:=λvs H Q _=>∃(b p:Addr)(v:V)(S:BS)(D:Deed)(past later:List (Deed×BS)),vs=[.ref b,v]/\zDx bkC H b p S past later/\zO6 D/\Rep H D.dt v/\okD S D/\Few S/\zJ2 S/\past.length<=500 /\
 ∀(H':Hp),uM (Bp b p) H H'->zDx bkC H' b p (aft S D) (past++[(D,S)]) []->Q (if S.coming=(aft S D).coming then .non else .int S.coming) H'
theorem zKb(F:Fun K "deed" "Book.deed" zBn f fd)(Z:Zs mg)(CB:Cb P w mg base)(h_b_coming:zJ8 P w K mg base zDe 1 ["self"] (zCh K))(yBn:Has P w K mg base "after" 4 ["state", "row"] (zEb K)):yP P w K mg base CX0 5 f fd ["self", "row"] (zGa K):=by
 specialize zC0
 ·obtain⟨b,p,v,S,D,past,later,rfl,_⟩:=h;rfl
 obtain⟨b,p,v,S,D,past,later,rfl,bk,kd,hv,ok,few,fr,hl,q⟩:=h;obtain⟨dx,d,l,ps,ls,k⟩:=bk;have no:∀{d l:Addr}{m:Str},m = "coming" ->(bkF d p l).lookup m=none:=λ{d l m} e=>by subst e; exact zHp (by decide +kernel) (by decide +kernel) (by decide +kernel)
 refine'⟨_,(zB (zV 2 zC0.nd (tD CB.m_coming h_b_coming (hr.mono (by decide)) (pv 0)))
   (zB (zV 3 zC0.nd (xT yBn (hr.mono (by decide)) rfl (zF (rW CB.state (pv 0)) (zF (pv 1) zL))))
   (zB (zU (zAm (rW CB.past (pv 0)) (zF (zGr (zF (pv 1) (zF (rW CB.state (pv 0)) zL))) zL)))
   (zB (zC2 CB.state (pv 0) (pv 3))
   (zB (zC2 CB.later (pv 0) ?_)
   (zD (zS (zIh (yT zPp (tD CB.m_coming h_b_coming (hr.mono (by decide)) (pv 0)) (pv 2) (yV _)) zOh (pv 2))))))))),?_⟩
 nofun
 exists _,rfl,b,dx,_,rfl,k.ob,no rfl,b,p,S,past,later,rfl,⟨dx,d,l,ps,ls,k⟩;refine⟨_,rfl,b,dx,_,_,rfl,k.ob,rD,_,rfl,d,v,S,D,rfl,kd,k.st,hv,ok,few,fr,λd' H1 s1 hd' st'=>?_⟩;have k1:=k.to s1;have hv1:=hv.to s1;refine⟨_,rfl,b,dx,_,_,rfl,k1.ob,zQr,.inl ⟨rfl,_,SqL.of k1.pa⟩,_,rfl,_,rfl,b,dx,_,_,rfl,k1.ob,rD,sz2,λt ht=>?_⟩;have s2:=zC ht (.tup [v,.ref d]);have k2:=k1.to (.of s2);exists p,ps,.ref t,rfl,rfl,k2.pa,zJ (by rw[k2.pp.len]; lia);have nbp:b≠p:=zS1 k2.ob k2.pa (λz=>nomatch z);have e3:upd (upd H1 t (.tup [v,.ref d])) p (.lst (ps++[.ref t])) b=some (.ins bkC dx (bkF d p l)):=by rw[zG nbp]; exact k2.ob
 exists _,rfl,_,rfl,b,dx,_,rfl,e3,(by show 3<1000; decide);rw[zGu];refine⟨sz0,λg hg=>?_⟩;have nbg:b≠g:=zH zA hg;have npg:p≠g:=λz=>by
  rw[<- z,zG nbp.symm,zA] at hg;cases hg
 exists _,rfl,b,dx,_,rfl,(by rw[zG nbg,zA]),(by show 3<1000; decide);rw[zF8];have hgt:(upd H1 t (.tup [v,.ref d])) g=none:=by rw[zG nbg.symm,zG npg.symm] at hg; exact hg
 have sE:uM (Bp b p) (upd H1 t (.tup [v,.ref d])) (upd (upd (upd (upd (upd H1 t (.tup [v,.ref d])) p (.lst (ps++[.ref t]))) b (.ins bkC dx (bkF d' p l))) g (.lst [])) b (.ins bkC dx (bkF d' p g))):=λx o hx e=>by
  have n1:x≠b:=λz=>hx (.inl z);have n2:x≠p:=λz=>hx (.inr z);rw[zG n1,zG (zH e hgt),zG n1,zG n2];exact .inl e
 have nd:=zPi k2.ob k2.pa;have np:=zO7 k2.ob k2.pa;have st2:=st'.to (.of s2);have BK:zDx bkC (upd (upd (upd (upd (upd H1 t (.tup [v,.ref d])) p (.lst (ps++[.ref t]))) b (.ins bkC dx (bkF d' p l))) g (.lst [])) b (.ins bkC dx (bkF d' p g))) b p (aft S D) (past++[(D,S)]) []:=by
  refine⟨dx,d',g,ps++[.ref t],[],zA,st2.samE sE nd np,?_,?_,?_,rfl,npg.symm⟩
  ·rw[zG nbp.symm,zG npg,zG nbp.symm,zA]
  ·rw[zG nbg.symm,zA]
  ·exact vH.app (sE.tup (np _ _ zA) zA) ((hv1.to (.of s2)).sam sE np) (k2.st.samE sE nd np) (k2.pp.samE sE nd np)
 have fin:=q _ (((s1.trans (.of s2)).wider (λ_ z=>z.elim)).trans sE) BK;exists _,rfl,b,dx,_,rfl,zA,no rfl,b,p,aft S D,_,[],rfl,BK,_,rfl,rfl,_,rfl;refine ifE (λe=>?_) (λe=>?_)
 ·rw[if_pos e.symm] at fin;exact fin
 ·rw[if_neg (λz=>e z.symm)] at fin;exact⟨_,rfl,fin⟩
def zCy(_:PySem.W.Frag):Sp:=λvs H Q _=>∃(a b p:Addr)(rows:List Int),vs=[.ref a,.ref b]/\H a=some (.lst (rows.map V.int))/\90<=rows.length/\(∀ x∈rows,0<=x/\x<1000003)/\zDx bkC H b p BS.nil [] []/\a≠p /\
 ∀(d:Addr)(S:BS)(past:List (Deed×BS))(H':Hp),uM (Bp b p) H H'->zDx bkC H' b p S past []->zMi H' d S->zI1 S->S.runs.length<=3->Q (.ref d) H'
theorem zHc(F:Fun K "_law_raised" "_law_raised" rE f fd)(Z:Zs mg)(CB:Cb P w mg base)(yAm:Has P w K mg base "_law_some_deeds" 4 ["_law_some", "_law_names_here"] (sM K))(yBp:Has P w K mg base "_law_names" 1 ["_law_some", "_law_many"] (zD2 K))(yBo:Has P w K mg base "_law_after" 1 ["_law_m", "_law_deed"] (zD4 K))(h_b_deed:zJ8 P w K mg base zHy 5 ["self", "row"] (zGa K))(yBv:Has P w K mg base "_law_new" 1 [] (zEr K)):yP P w K mg base CX0 6 f fd ["_law_some", "_law_book"] (zCy K):=by
 specialize tS
 ·obtain⟨a,b,p,rows,rfl,_⟩:=h;rfl
 obtain⟨a,b,p,rows,rfl,ha,l90,bd,bk,nap,q⟩:=h;have no:∀{d l:Addr}{m:Str},m = "deed" ->(bkF d p l).lookup m=none:=λ{d l m} e=>by subst e; exact zHp (by decide +kernel) (by decide +kernel) (by decide +kernel)
 obtain⟨dx0,d0,l0,ps0,ls0,k0⟩:=id bk
 refine'⟨_,(zB (zV 2 tS.nd (zCi yBv (hr.mono (by decide)) rfl))
   (zB (wP PassesOwn.never rfl (uF ?_) (uL 3 tS.nd) (zB (zU (zMr CB.m_deed h_b_deed (hr.mono (by decide)) (pv 1) (zF (pv 3) zL)))
   (zD (zV 2 tS.nd ?_))))
   (zD (zS (pv 2))))),?_⟩
 nofun
 refine⟨rfl,λd m b' r n H1 s1 hd hm hr0 ed em eb er en _ _=>?_⟩;have lw1:LwA H1 d m b' r n BS.nil:=⟨.inl ed,.nil em,.nil eb,⟨[],er,yF.mpr rfl⟩,.nil en⟩;have nrp:r≠p:=λz=>by rw[z,k0.pa] at hr0; cases hr0
 refine⟨_,rfl,_,rfl,a,rows,5,rfl,SqL.of (s1 _ _ ha),(by lia),(by decide),bd,λR ns H2 s2 hR eR ln okn nd=>?_⟩;refine⟨a,R,rows,ns,rfl,s2 _ _ (s1 _ _ ha),l90,bd,eR,ln,okn,nd,λL xs Ds H3 s3 hL eL rp l14 ch l3=>?_⟩;have s13:=s2.trans s3;have s03:=s1.trans s13;have nL0:H L=none:=s1.free (s2.free hL);have nLp:L≠p:=λz=>by rw[z,k0.pa] at nL0; cases nL0
 have nLb:L≠b:=λz=>by rw[z,k0.ob] at nL0; cases nL0
 have nLB:¬ Bp b p L:=λz=>z.elim nLb nLp;have lxs:xs.length=Ds.length:=by rw[rp.length,List.length_map]
 have bk3:=bk.to (.of s03);obtain⟨dx3,d3,l3',ps3,ls3,k3⟩:=id bk3;have nd3:=zPi k3.ob k3.pa;have np3:=zO7 k3.ob k3.pa;refine⟨L,rfl,.inl ⟨⟨_,SqL.of eL⟩,uQ (K:=K) (a:=L) (xs:=xs) (λi σ H'=>uM (Bp b p) H3 H'/\∃(d':Addr)(past:List (Deed×BS)),zDx bkC H' b p (vK BS.nil (Ds.take i)) past []/\past.length<=i/\(∃ m b' r n,r≠p/\LwA H' d' m b' r n (vK BS.nil (Ds.take i)))/\∃ u:Option V,σ=[some (.ref a),some (.ref b),some (.ref d'),u])
  ⟨uM.refl _,d,[],bk3,Nat.le_refl _,⟨m,b',r,n,nrp,lw1.to (.of s13)⟩,none,rfl⟩ (λi σ H' _ hq=>SqL.of (hq.1.lst nLB eL)) ?_ ?_⟩⟩
 ·rintro i v σ H4 hi ⟨s4,d',past,bk4,lp,⟨m4,b4,r4,n4,nr4,lw4⟩,u,rfl⟩;have hil:i<Ds.length:=by rw[<- lxs]; exact(List.getElem?_eq_some_iff.mp hi).1
  have hD:Ds[i]?=some Ds[i]:=List.getElem?_eq_getElem hil;generalize Ds[i]=D at hD;obtain⟨dt,g1,g2⟩:=rp.back hi;rw[List.getElem?_map,hD] at g1;cases g1;have okd:=zD7 ch hD;have gd:=zAe (S:=BS.nil) (l:=Ds.take i) zIo (zAy ch);rw[zHi hD];generalize vK BS.nil (Ds.take i)=S at bk4 lw4 okd gd;have it:zO6 D:=by cases D <;> first | exact trivial | exact okd
  have rv:=g2.sam s4 np3;obtain⟨dx4,d4,l4,ps4,ls4,k4⟩:=id bk4;refine⟨_,rfl,b,dx4,_,rfl,k4.ob,no rfl,_,rfl,b,p,v,S,D,past,[],rfl,bk4,it,rv,okd,gd.few,gd.fresh,(by lia),λH5 s5 bk5=>?_⟩;have nd4:=zPi k4.ob k4.pa;have np4:=zO7 k4.ob k4.pa;have nr4b:¬ Bp b p r4:=λz=>z.elim (λz=>by
   obtain⟨rs,e,_⟩:=lw4.ru;rw[z,k4.ob] at e;cases e) nr4
  have lw5:LwA H5 d' m4 b4 r4 n4 S:=lw4.samE s5 nd4 np4 (λ_ _=>nr4b);refine⟨_,rfl,_,rfl,d',v,S,D,rfl,rv.sam s5 np4,⟨m4,b4,r4,n4,lw5⟩,okd,gd.few,gd.fresh,λd'' H6 s6 hd'' lwn=>?_⟩;obtain⟨m6,b6,r6,n6,hr6,lw6⟩:=lwn;obtain⟨dx5,d5,l5,ps5,ls5,k5⟩:=id bk5;have nr6:r6≠p:=λz=>by rw[z,k5.pa] at hr6; cases hr6
  exact⟨(s4.trans s5).trans (.of s6),d'',_,bk5.to (.of s6),(by rw[List.length_append]; simp only[List.length_cons,List.length_nil]; lia),⟨m6,b6,r6,n6,nr6,lw6⟩,_,rfl⟩
 ·rintro σ H4 ⟨s4,d',past,bk4,lp,⟨m4,b4,r4,n4,nr4,lw4⟩,u,rfl⟩;rw[lxs,List.take_length] at bk4 lw4;exact⟨_,rfl,q d' _ past H4 ((uM.of s03).trans s4) bk4 ⟨m4,b4,r4,n4,lw4⟩ (zAe zIo ch) l3⟩
def sp_law(K:PySem.W.Frag):Sp:=λvs H Q _=>∃(a:Addr)(ns:List Int),vs=[.ref a]/\SqL K H a (ns.map V.int)/\ns.length<=63/\∀ H',Q (.bl true) H'
theorem zK4{H:Hp}{n:Nat}{l m:Addr}{as bs:List Addr}{rows:List (List Int)}(h1:H l=some (.lst (as.map V.ref)))(h2:H m=some (.lst (bs.map V.ref)))(ha:yD H as rows)(hb:yD H bs rows)(hl:rows.length<=1000)(hr:∀ r∈rows,r.length<=1000):DR H (n+2) (.ref l) (.ref m):=by
 refine .inr ⟨l,m,_,_,true,rfl,rfl,h1,h2,by rw[List.length_map,List.length_map,ha.len,hb.len],by rw[List.length_map,ha.len]; exact hl,λi u v g1 g2=>?_⟩;rw[List.getElem?_map,Option.map_eq_some_iff] at g1 g2;obtain⟨a,ga,rfl⟩:=g1;obtain⟨b,gb,rfl⟩:=g2;have hi:i<rows.length:=by rw[<- ha.len]; exact(List.getElem?_eq_some_iff.mp ga).1
 have gr:rows[i]?=some rows[i]:=List.getElem?_eq_getElem hi;exact DR.tupI (ha.at_ i a _ ga gr) (hb.at_ i b _ gb gr) rfl (hr _ (List.getElem_mem hi))
theorem zJ3{H H0 H1:Hp}{n:Nat}{l m:Addr}{gs hs:List Addr}{rows:List (List (List Int))}(h1:H l=some (.lst (gs.map V.ref)))(h2:H m=some (.lst (hs.map V.ref)))(ha:yK H0 H gs rows)(hb:yK H1 H hs rows)(hl:rows.length<=1000)(hr:∀ g∈rows,g.length<=1000/\∀ r∈g,r.length<=1000):DR H (n+3) (.ref l) (.ref m):=by
 refine .inr ⟨l,m,_,_,true,rfl,rfl,h1,h2,by rw[List.length_map,List.length_map,ha.len,hb.len],by rw[List.length_map,ha.len]; exact hl,λi u v g1 g2=>?_⟩;rw[List.getElem?_map,Option.map_eq_some_iff] at g1 g2;obtain⟨a,ga,rfl⟩:=g1;obtain⟨b,gb,rfl⟩:=g2;have hi:i<rows.length:=by rw[<- ha.len]; exact(List.getElem?_eq_some_iff.mp ga).1
 have gr:rows[i]?=some rows[i]:=List.getElem?_eq_getElem hi;obtain⟨as,e1,t1⟩:=ha.at_ i a _ ga gr;obtain⟨bs,e2,t2⟩:=hb.at_ i b _ gb gr;have z:=hr _ (List.getElem_mem hi);exact zK4 e1 e2 t1 t2 z.1 z.2
theorem zD1{S:BS}{j:Nat}{D:Deed} : ∀ r∈xI S j D,r.length<=1000:=by
 intro r hr;unfold xI at hr;obtain⟨x,hx,rfl⟩:=List.mem_map.mp hr;have l3:x.length=3:=by
  unfold uK at hx;split at hx
  ·rcases List.mem_cons.mp hx with e | hx
   ·rw[e]; rfl
   ·rw[List.mem_singleton.mp hx]; rfl
  ·rw[List.mem_singleton.mp hx]; rfl
  ·cases hx
 match x,l3 with
 | [a,b,c],_=>show 3<=1000; decide
theorem zSo(F:Fun K "law" "law" zHo f fd)(Z:Zs mg)(CB:Cb P w mg base)(yBe:Has P w K mg base "_law_nowhere" 8 ["_law_book", "_law_moment", "_law_other", "_law_door"] (zAq K))(yBr:Has P w K mg base "_law_same" 6 ["_law_told", "_law_due"] (zGh K))(yBa:Has P w K mg base "_law_m_groups" 4 ["_law_m", "_law_moment"] (tV K))(yBd:Has P w K mg base "_law_m_sides" 5 ["_law_m", "_law_moment"] (zAs K))(yAj:zIj P w K mg base "note_groups" 6 ["book", "moment"] (xU K))(yAu:zIj P w K mg base "note_sides" 7 ["book", "moment"] (uW K))(yBs:Has P w K mg base "_law_lead" 1 ["_law_m", "_law_one", "_law_other"] (qB K))(yAg:zIj P w K mg base "way_between" 2 ["book", "one", "other"] (xQ K))(yBl:Has P w K mg base "_law_raised" 6 ["_law_some", "_law_book"] (zCy K))(h_b_init:zJ8 P w K mg base zHm 2 ["self"] (zGb K))(yBq:Has P w K mg base "_law_draws" 2 ["_law_script", "_law_many"] (zDu K)):yP P w K mg base CX0 9 f fd ["_law_script"] (sp_law K):=by
 specialize sB
 ·obtain⟨a,ns,rfl,_⟩:=h;rfl
 obtain⟨ad,ns,rfl,hS,hl,q⟩:=h
 refine'⟨_,(zB (zV 1 sB.nd ?_)
   (zB (zV 2 sB.nd (zLu CB.make h_b_init (hr.mono (by decide)) CB.gBook))
   (zB (zV 3 sB.nd ?_)
   (zB (zV 4 sB.nd (yB vP rfl Z.len qF (zF (zN (zW hr) (pv 3) zQ (λ_ _=>rfl)) zL)))
   (zB (wP PassesOwn.never rfl (xA rfl Z.range ?_) (uL 5 sB.nd) (zB (wP PassesOwn.never rfl (xA rfl Z.range ?_) (uL 6 sB.nd) (zD (yY (zDf (zCj (xT yBr (hr.mono (by decide)) rfl (zF (yX (λ_=>E0) yAg zAh (hr.mono (by decide)) rfl (zF (pv 2) (zF (pv 5) (zF (pv 6) zL)))) (zF ?_ zL))))) (zD (zS zGz)) yE)))
   (zD (wP PassesOwn.never rfl (xA rfl Z.range (zF wA zL)) (uL 7 sB.nd) (zB (zV 8 sB.nd (yX (λ_=>E0) yAu zAh (hr.mono (by decide)) rfl (zF (pv 2) (zF (pv 5) zL))))
   (zB (zV 9 sB.nd (yX (λ_=>E0) yAj zAh (hr.mono (by decide)) rfl (zF (pv 2) (zF (pv 5) zL))))
   (zB (yY ?_ (zD (zS zGz)) yE)
   (zB (zU (zAm (pv 8) ?_))
   (zD (wP PassesOwn.never rfl (uF (pv 9)) (uL 10 sB.nd) (zD (zU (zRh PySem.F.plainAttrs_list PySem.F.slot_list_clear PySem.F.type_list_clear zMj (pv 10))))))))))))))
   (zB (wP PassesOwn.never rfl (zSu ?_) (uL 5 sB.nd) (zD (yY (zDf (zCj (yB (sI rfl) rfl Z.all zGv (zF (wM (T:=["_law_door"]) (caps:=[("_law_book", 2),("_law_many", 4),("_law_moment", 5),("_law_some", 1)]) ⟨rfl,by decide +kernel,by decide +kernel,rfl,⟨⟨rfl,rfl,Or.inl rfl⟩,⟨rfl,rfl,Or.inl rfl⟩,⟨rfl,rfl,Or.inl rfl⟩,⟨rfl,rfl,Or.inl rfl⟩,True.intro⟩⟩ rfl (xA rfl Z.range (zF wA zL)) (λ_=>(uL 0 (show(["_law_door", "_law_book", "_law_many", "_law_moment", "_law_some"]:List Str).Nodup by decide +kernel))) (λ_=>yW) (λ_=>?_)) zL)))) (zD (zS zGz)) yE)))
   (zD (zS zGz)))))))),?_⟩
 nofun
 refine⟨_,rfl,ad,ns,90,rfl,hS,hl,by decide,by decide,λrr rows H1 s1 hr0 er1 l1 l2 bd=>?_⟩;intro bk dx hb hdx nbd;refine⟨bk,dx,rfl,zA,λp H2 s2 hp bk2=>⟨rfl,?_⟩⟩;have nrb:rr≠bk:=zH er1 hb;have er1':upd (upd H1 dx (.own bk)) bk (.ins bkC dx []) rr=some (.lst (rows.map V.int)):=by rw[zG nrb,zG (zH er1 hdx)]; exact er1
 have er2:=s2.lst nrb er1';have nrp:rr≠p:=zH er1' hp;refine⟨_,rfl,_,rfl,rr,bk,p,rows,rfl,er2,by lia,bd,bk2,nrp,λd S past H3 s3 bk3 lw3 gd l3=>?_⟩;have er3:=s3.lst (λz=>z.elim nrb nrp) er2;obtain⟨m,b',r,n,lw⟩:=id lw3;obtain⟨rs,er,rep⟩:=lw.ru;have lrs:rs.length=S.runs.length:=by rw[rep.length,List.length_map]
 exists _,rfl,d,.ref r,rfl,.inl ⟨_,.inr "runs", lw.at_,rfl,zAi.symm⟩,r,rs,rfl,.inl (SqL.of er);rw[lrs];clear s1 s2 s3 er1 er1' er2 bk2 hS lw rep er;have few:=gd.few;refine⟨_,rfl,_,_,rfl,rfl,_,rfl,(by lia),(by lia),uG (lo:=0) (n:=((S.runs.length:Int)+1).toNat) (λi σ H'=>Same H3 H'/\∃ u5 u6 u7 u8 u9 u10:Option V,σ=[some (.ref ad),some (.ref rr),some (.ref bk),some (.ref d),some (.int S.runs.length),u5,u6,u7,u8,u9,u10])
  ⟨Same.refl _,none,none,none,none,none,none,rfl⟩ ?_ ?_⟩
 ·rintro i σ H4 hi ⟨s4,u5,u6,u7,u8,u9,u10,rfl⟩;have hil:i<=S.runs.length:=by lia
  rw[Int.zero_add];refine⟨_,rfl,_,_,rfl,rfl,_,rfl,(by lia),(by lia),uG (lo:=0) (n:=((S.runs.length:Int)+1).toNat) (λj σ H'=>Same H4 H'/\∃ u6 u7 u8 u9 u10:Option V,σ=[some (.ref ad),some (.ref rr),some (.ref bk),some (.ref d),some (.int S.runs.length),some (.int i),u6,u7,u8,u9,u10])
   ⟨Same.refl _,_,_,_,_,_,rfl⟩ ?_ ?_⟩
  ·rintro j σ H5 hj ⟨s5,u6,u7,u8,u9,u10,rfl⟩;have hjl:j<=S.runs.length:=by lia
   rw[Int.zero_add];have s35:=s4.trans s5;refine⟨_,rfl,_,rfl,_,rfl,.inl ⟨bk,p,S,past,[],i,j,rfl,bk3.to (.of s35),few,hil,hjl,λt H6 s6 ht et=>?_⟩⟩;refine⟨_,rfl,_,rfl,_,rfl,d,S,i,j,rfl,lw3.to (.of (s35.trans s6)),hil,hjl,(by lia),λt2 H7 s7 ht2 et2=>?_⟩;refine⟨.ref t,.ref t2,rfl,DR.tupI (xs:=[(xV S.runs i j).1,(xV S.runs i j).2]) (ys:=[(xV S.runs i j).1,(xV S.runs i j).2]) (s7 _ _ et) et2 rfl (by show 2<=1000; decide),λH8 s8=>?_⟩;refine⟨true,rfl,rF ?_⟩;exact⟨s5.trans (s6.trans (s7.trans s8)),_,_,_,_,_,rfl⟩
  ·rintro σ H5 ⟨s5,u6,u7,u8,u9,u10,rfl⟩;have s35:=s4.trans s5;refine⟨_,rfl,(by decide),(by decide),uG (lo:=0) (n:=2) (λ_ σ H'=>Same H5 H'/\∃ u6 u7 u8 u9 u10:Option V,σ=[some (.ref ad),some (.ref rr),some (.ref bk),some (.ref d),some (.int S.runs.length),some (.int i),u6,u7,u8,u9,u10])
    ⟨Same.refl _,_,_,_,_,_,rfl⟩ ?_ ?_⟩
   ·rintro k σ H6 _ ⟨s6,u6,u7,u8,u9,u10,rfl⟩;have s36:=s35.trans s6;refine⟨_,rfl,_,rfl,.inl ⟨bk,p,S,past,[],i,rfl,bk3.to (.of s36),gd,hil,λl as H7 s7 hl el ta=>?_⟩⟩;refine⟨_,rfl,_,rfl,.inl ⟨bk,p,S,past,[],i,rfl,bk3.to (.of (s36.trans s7)),gd,hil,λg gs H8 s8 hg ngg eg ga=>?_⟩⟩;refine⟨_,rfl,_,rfl,sz2,λa1 ha1=>?_⟩;have s9:=zC ha1 (.lst [.ref l,.ref g]);have lw9:=lw3.to (.of (s36.trans (s7.trans (s8.trans s9))));refine⟨_,rfl,_,rfl,d,S,i,rfl,lw9,gd,hil,λl' as' H10 s10 el' ta'=>?_⟩;refine⟨_,rfl,_,rfl,d,S,i,rfl,lw9.to (.of s10),gd,hil,λg' gs' H11 s11 hg' eg' ga'=>?_⟩;refine⟨sz2,λa2 ha2=>?_⟩;have s12:=zC ha2 (.lst [.ref l',.ref g']);have ea2:upd H11 a2 (.lst [.ref l',.ref g']) a2=some (.lst [.ref l',.ref g']):=zA;have ea1:=(s10.trans (s11.trans s12)) _ _ (zA (H:=H8) (a:=a1) (o:=.lst [.ref l,.ref g]));have s812:Same H8 (upd H11 a2 (.lst [.ref l',.ref g'])):=s9.trans (s10.trans (s11.trans s12));have el12:=s812 _ _ (s8 _ _ el);have eg12:=s812 _ _ eg;have el'12:=(s11.trans s12) _ _ el';have eg'12:=s12 _ _ eg';have ta12:=ta.to (.of (s8.trans s812));have ta'12:=ta'.to (.of (s11.trans s12));have ga12:=ga.samE (uM.of (φ:=λ_=>False) s812) (λ_ _ _=>id) (λ_ _=>id);have ga'12:=ga'.samE (uM.of (φ:=λ_=>False) s12) (λ_ _ _=>id) (λ_ _=>id);generalize upd H11 a2 (.lst [.ref l',.ref g'])=H12 at ea1 ea2 s812 el12 eg12 el'12 eg'12 ta12 ta'12 ga12 ga'12 ⊢;have fn:=few.no;have l60:=zBx (λe:Int×Deed=>xI S i e.2) (λ_=>uV) S.notes;have dr:DR H12 5 (.ref a1) (.ref a2):=by
     refine .inr ⟨a1,a2,[.ref l,.ref g],[.ref l',.ref g'],true,rfl,rfl,ea1,ea2,rfl,by show 2<=1000; decide,λi u v g1 g2=>?_⟩
     match i,g1,g2 with
     | 0,g1,g2 =>
      cases g1; cases g2;refine zK4 el12 el'12 ta12 ta'12 (by lia) λr hr=>?_;obtain⟨gr,hgr,hr⟩:=List.mem_flatten.mp hr;obtain⟨e,_,rfl⟩:=List.mem_map.mp hgr;exact zD1 r hr
     | 1,g1,g2 =>
      cases g1; cases g2;refine zJ3 eg12 eg'12 ga12 ga'12 (by rw[List.length_map]; lia) λgr hgr=>?_;obtain⟨e,_,rfl⟩:=List.mem_map.mp hgr;exact⟨Nat.le_trans uV (by decide),zD1⟩
     | i+2,g1,g2=>cases g1
    refine⟨.ref a1,.ref a2,rfl,dr,λH13 s13=>⟨true,rfl,rF ?_⟩⟩;have el13:=s13 _ _ el12;have lga:gs.length<=60:=by rw[ga.len,List.length_map]; exact fn
    have lta:as.length<=120:=by rw[ta.len]; lia
    have s813:=s812.trans s13;refine⟨_,rfl,.inl ⟨rfl,_,SqL.of el13⟩,sz3,λt ht=>?_⟩;have s14:=zC ht (.tup [.int 1,.int 0,.int 0]);have el14:=s14 _ _ el13;exists l,_,.ref t,rfl,rfl,el14,zJ (by rw[List.length_map]; lia);have nl6:H6 l=none:=hl;have nlg:∀ y∈gs,y≠l:=λy hy z=>by
     have:=ga.new y hy;rw[z,el] at this;cases this
    have ng6:∀ y∈gs,H6 y=none:=λy hy=>s7.free (ga.new y hy);have ngl:g≠l:=λz=>by rw[z,el] at hg; cases hg
    have s614:Same H6 (upd H13 t (.tup [.int 1,.int 0,.int 0])):=(s7.trans s8).trans (s813.trans s14);have s15:Same H6 (upd (upd H13 t (.tup [.int 1,.int 0,.int 0])) l (.lst (as.map V.ref++[.ref t]))):=λx o e=>by rw[zG (zH e nl6)]; exact s614 _ _ e
    have eg15:upd (upd H13 t (.tup [.int 1,.int 0,.int 0])) l (.lst (as.map V.ref++[.ref t])) g=some (.lst (gs.map V.ref)):=by rw[zG ngl]; exact s14 _ _ (s813 _ _ eg)
    have gl15:∀ y∈gs,∃ zs,upd (upd H13 t (.tup [.int 1,.int 0,.int 0])) l (.lst (as.map V.ref++[.ref t])) y=some (.lst zs):=λy hy=>by
     obtain⟨j,hj⟩:=List.mem_iff_getElem?.mp hy;have hj':j<(S.notes.map λe=>xI S i e.2).length:=by rw[<- ga.len]; exact(List.getElem?_eq_some_iff.mp hj).1
     obtain⟨bs,e,_⟩:=ga.at_ j y _ hj (List.getElem?_eq_getElem hj');exact⟨_,by rw[zG (nlg y hy)]; exact s14 _ _ (s813 _ _ e)⟩
    generalize upd (upd H13 t (.tup [.int 1,.int 0,.int 0])) l (.lst (as.map V.ref++[.ref t]))=H15 at s15 eg15 gl15 ⊢;refine⟨_,rfl,g,rfl,.inl ⟨⟨_,SqL.of eg15⟩,uQ (K:=K) (a:=g) (xs:=gs.map V.ref) (λ_ σ H'=>Same H6 H'/\H' g=some (.lst (gs.map V.ref))/\(∀ y∈gs,∃ zs,H' y=some (.lst zs))/\∃ u6 u7 u8 u9 u10:Option V,σ=[some (.ref ad),some (.ref rr),some (.ref bk),some (.ref d),some (.int S.runs.length),some (.int i),u6,u7,u8,u9,u10])
     ⟨s15,eg15,gl15,_,_,_,_,_,rfl⟩ (λ_ σ H' _ hq=>SqL.of hq.2.1) ?_ ?_⟩⟩
    ·rintro j x σ H16 hx ⟨s16,e16,gl16,u6,u7,u8,u9,u10,rfl⟩;rw[List.getElem?_map,Option.map_eq_some_iff] at hx;obtain⟨y,hy,rfl⟩:=hx;have my:=List.mem_of_getElem? hy;obtain⟨zs,ey⟩:=gl16 y my;refine⟨_,rfl,.inl ⟨rfl,_,SqL.of ey⟩,y,zs,rfl,rfl,ey,λx o e=>by rw[zG (zH e (ng6 y my))]; exact s16 _ _ e,by rw[zG (ngg y my).symm]; exact e16,λz hz=>?_,_,_,_,_,_,rfl⟩;by_cases e:z=y
     ·exact⟨_,by rw[e,zA]⟩
     ·obtain⟨zs',e'⟩:=gl16 z hz;exact⟨zs',by rw[zG e]; exact e'⟩
    ·rintro σ H16 ⟨s16,_,_,u6,u7,u8,u9,u10,rfl⟩;exact⟨s6.trans s16,_,_,_,_,_,rfl⟩
   ·rintro σ H6 ⟨s6,u6,u7,u8,u9,u10,rfl⟩;exact⟨s35.trans s6,_,_,_,_,_,_,rfl⟩
 ·rintro σ H4 ⟨s4,u5,u6,u7,u8,u9,u10,rfl⟩;obtain⟨v84,a84,b0,b1⟩:=xW bd (k:=84) (by decide) (by lia);have er4:=s4 _ _ er3;refine⟨_,rfl,_,rfl,_,_,rfl,rfl,_,_,rfl,rfl,⟨by decide,by decide⟩,sz3,λt ht=>?_⟩;have s5:=zC ht (.tup [.int (-1),.int ((S.runs.length:Int)+1),.int (10^20)]);refine⟨t,rfl,⟨_,SqT.of zA⟩,zL3 (K:=K) (a:=t) (xs:=[.int (-1),.int ((S.runs.length:Int)+1),.int (10^20)]) (λ_ σ H'=>Same (upd H4 t (.tup [.int (-1),.int ((S.runs.length:Int)+1),.int (10^20)])) H'/\∃ u5 u6 u7 u8 u9 u10:Option V,σ=[some (.ref ad),some (.ref rr),some (.ref bk),some (.ref d),some (.int S.runs.length),u5,u6,u7,u8,u9,u10])
   ⟨Same.refl _,_,_,_,_,_,_,rfl⟩ (λ_ σ H' _ hq=>SqT.of (hq.1 _ _ zA)) ?_ ?_⟩
  ·rintro k x σ H6 hx ⟨s6,u5,u6,u7,u8,u9,u10,rfl⟩;have fr:=few.ru;have lg:∀ z:Int,0<=z->z<=10^20->z.natAbs.log2<1920:=λz h0 h1=>by
    by_cases e:z.natAbs=0
    ·rw[e]; decide
    ·exact(Nat.log2_lt e).mpr (Nat.lt_of_le_of_lt (show z.natAbs<=10^20 by lia) (by decide))
   obtain⟨mo,rfl,off⟩:∃ mo:Int,x=.int mo/\zTl S.runs.length mo:=by
    match k,hx with
    | 0,hx=>cases hx; exact⟨-1,rfl,.inl (by decide),by decide⟩
    | 1,hx=>cases hx; exact⟨_,rfl,.inr (by lia),lg _ (by lia) (by lia)⟩
    | 2,hx=>cases hx; exact⟨_,rfl,.inr (by lia),lg _ (by decide) (by decide)⟩
    | k+3,hx=>cases hx
   have s46:Same H4 H6:=s5.trans s6;refine⟨_,rfl,(by decide),(by decide),λc D hD=>?_⟩;refine qA (lo:=0) (n:=4) (λj σ zs H'=>Same H6 H'/\H' D=some (.lst zs)/\zs=(List.replicate j true).map V.bl/\j<=4/\∃ u0:Option V,σ=[u0,some (.ref bk),some (.int S.runs.length),some (.int mo),some (.ref rr)])
    ⟨zC hD _,zA,rfl,Nat.zero_le _,none,rfl⟩ (λj σ zs H' _ ⟨_,e,_⟩=>e) ?_ ?_
   ·rintro j σ zs H7 hj ⟨s7,eD,rfl,_,u0,rfl⟩;have er7:=s7 _ _ (s46 _ _ er4);have o0:=Int.emod_nonneg v84 (show((S.runs.length:Int)+1)≠0 by lia);have o1:=Int.emod_lt_of_pos v84 (show(0:Int)<(S.runs.length:Int)+1 by lia);refine⟨_,rfl,_,rfl,_,rfl,rr,_,_,_,rfl,rfl,.inl (SqL.of er7),a84,_,rfl,_,_,rfl,rfl,_,_,rfl,rfl,(by show(0:Int)<(S.runs.length:Int)+1; lia),_,rfl,bk,p,S,past,[],mo,_,_,rfl,bk3.to (.of (s4.trans (s46.trans s7))),few,off,lg _ o0 (by lia),λH8 s8=>?_⟩;refine⟨s8 _ _ eD,zJ (by rw[List.length_map,List.length_replicate]; lia),(s7.trans s8).putNew hD,zA,?_,by lia,_,rfl⟩;rw[List.replicate_succ',List.map_append];rfl
   ·rintro σ zs H7 ⟨s7,eD,rfl,_,u0,rfl⟩;exists D,List.replicate 4 true,rfl,SqL.of eD;refine⟨true,rfl,rF ?_⟩;exact⟨s6.trans s7,_,_,_,_,_,_,rfl⟩
  ·rintro σ H6 ⟨s6,u5,u6,u7,u8,u9,u10,rfl⟩;exact q _
end
theorem zP4{K:PySem.W.Frag}{C:Addr}{f:Str}(h:PySem.W.findIn K (.ref C) f=some none):rP K C f:=h
theorem zGl(P:Params):Cls (KK P) bkC:=⟨by kernel_rfl,by kernel_rfl,by kernel_rfl,by kernel_rfl⟩
set_option maxHeartbeats 0 in
theorem cb_mk{P:Program}{w:World}{mg:Str->Option Value}{base:Heap}(X:PySem.W.Frag.In (KK w.params) base)(G:base.Ns mainGlobals mg):Cb P w mg base :=
 ⟨⟨_,X,zGl _,zP4 (by kernel_rfl)⟩,
   ⟨_,X,zGl _,zP4 (by kernel_rfl)⟩,
   ⟨_,X,zGl _,zP4 (by kernel_rfl)⟩,
   ⟨_,X,zGl _,⟨(by kernel_rfl),(by kernel_rfl),(by kernel_rfl)⟩⟩,
   ⟨_,X,zGl _,⟨(by kernel_rfl),(by kernel_rfl),(by kernel_rfl)⟩⟩,
   ⟨_,X,zGl _,⟨(by kernel_rfl),(by kernel_rfl),(by kernel_rfl)⟩⟩,
   ⟨_,X,zGl _,⟨(by kernel_rfl),(by kernel_rfl),(by kernel_rfl)⟩⟩,
   ⟨_,X,zGl _,⟨(by kernel_rfl),(by kernel_rfl),(by kernel_rfl)⟩⟩,
   ⟨_,X,⟨(by kernel_rfl),(by kernel_rfl),(by kernel_rfl),(by kernel_rfl)⟩⟩,
   (PySem.W.mg_of X G (by kernel_rfl)),
   (zKe (ep:=4) (l:=[("marks", 548,.int 20,.int 20 549),("banks", 550,.int 8,.int 8 551),("runs", 552,.int 12,.int 12 553),("notes", 554,.int 24,.int 24 555)]) (X _ _ (by kernel_rfl)) (λe he=>by simp only[List.mem_cons,List.not_mem_nil,or_false] at he; rcases he with rfl | rfl | rfl | rfl <;> exact⟨_,rfl⟩) (by decide +kernel)),
   (PySem.W.mg_of X G (by kernel_rfl)),
   (zKe (ep:=10) (l:=[("mark", 773,.ref 375,.ref 375),("move", 774,.ref 382,.ref 382),("unmark", 775,.ref 389,.ref 389),("bank", 776,.ref 396,.ref 396),("level", 777,.ref 403,.ref 403),("sail", 778,.ref 410,.ref 410),("right", 779,.ref 417,.ref 417),("bearing", 780,.ref 431,.ref 431),("range", 781,.ref 438,.ref 438),("strike", 782,.ref 445,.ref 445)]) (X _ _ (by kernel_rfl)) (λe he=>by simp only[List.mem_cons,List.not_mem_nil,or_false] at he; rcases he with rfl | rfl | rfl | rfl | rfl | rfl | rfl | rfl | rfl | rfl <;> exact rfl) (by decide +kernel)),
   (PySem.W.mg_of X G (by kernel_rfl)),
   ⟨561,(PySem.W.mg_of X G (by kernel_rfl))⟩,
   ⟨563,(PySem.W.mg_of X G (by kernel_rfl))⟩,
   ⟨565,(PySem.W.mg_of X G (by kernel_rfl))⟩,
   (PySem.W.mg_of X G (by kernel_rfl)),
   (PySem.W.mg_of X G (by kernel_rfl)),
   (PySem.W.mg_of X G (by kernel_rfl)),
   (PySem.W.mg_of X G (by kernel_rfl)),
   (PySem.W.mg_of X G (by kernel_rfl)),
   (PySem.W.mg_of X G (by kernel_rfl)),
   (zN1 X (PySem.W.mg_of X G (by kernel_rfl)) (by kernel_rfl)),
   ⟨_,X,(by kernel_rfl)⟩,
   ⟨_,X,(by kernel_rfl)⟩,
   ⟨_,X,(by kernel_rfl)⟩⟩
abbrev AtK(Pm:Params)(x:Str)(s:Stmt)(f:Addr)(oc:Value)(od:Option Addr)(sl:Array (Option Value))(kV dc pm:Value)(an:Option Addr)(cd ct:Value):Prop :=
 PySem.W.nsIn (KK Pm) mainGlobals x=some (some (.ref f))/\List.lookup f KC=some ⟨oc,od,.func (PySem.W.fnOf x x (xK s) (yU s) (zI s) .none kV dc pm an cd ct),sl⟩/\PySem.W.codeIn KC cd x=true/\PySem.W.keepIn KC (.ref f)=true
section
variable{Pm:Params}{x:Str}{s:Stmt}{f:Addr}{oc kV dc pm cd ct:Value}{od an:Option Addr}{sl:Array (Option Value)}{h:Heap}{mg:Str->Option Value}
theorem zPy(q:AtK Pm x s f oc od sl kV dc pm an cd ct):Fun K x x s f (PySem.W.fnOf x x (xK s) (yU s) (zI s) .none kV dc pm an cd ct):=zL4 (st:=s) (by rw[zLd]; exact q.2.1) (by rw[zLd]; exact q.2.2.1) (by rw[zLd]; exact q.2.2.2)
abbrev AtE(Pm:Params)(x:Str)(s:Stmt):Prop:=∃(f:Addr)(oc:Value)(od:Option Addr)(sl:Array (Option Value))(kV dc pm:Value)(an:Option Addr)(cd ct:Value),AtK Pm x s f oc od sl kV dc pm an cd ct
theorem at_mk(q:AtK Pm x s f oc od sl kV dc pm an cd ct):AtE Pm x s:=⟨_,_,_,_,_,_,_,_,_,_,q⟩
theorem zKn(P:Program)(w:World)(base:Heap)(X:PySem.W.Frag.In (KK Pm) h)(G:h.Ns mainGlobals mg)(q:AtE Pm x s){ps:List Str}{n:Nat}{sp:Sp}(o:∀ {f:Addr} {fd:FuncData},Fun K x x s f fd->zAk K fd ps []->PySem.W.keepIn K (.ref f)=true->mg x=some (.ref f)->yP P w K mg base CX0 n f fd ps sp)
  (b:∀(kV doc pm:Value)(an:Option Addr)(cdv ct:Value)(us:List Value),us.length=ps.length->bindArgs (PySem.W.fnOf x x (xK s) (yU s) (zI s) .none kV doc pm an cdv ct) ⟨us,[]⟩=pure (ps.zip us)):Has P w K mg base x n ps sp:=by
 obtain⟨f,oc,od,sl,kV,dc,pm,an,cd,ct,q⟩:=q;have F:=zPy q;exact⟨_,_,o F (F.binds b) F.kp (PySem.W.mg_of X G q.1),F.binds b,F.kp,PySem.W.mg_of X G q.1⟩
theorem zY(P:Program)(w:World)(base:Heap)(X:PySem.W.Frag.In (KK Pm) h)(G:h.Ns mainGlobals mg)(q:AtE Pm x s){ps:List Str}{n:Nat}{sp:Sp}(o:∀ {f:Addr} {fd:FuncData},Fun K x x s f fd->yP P w K mg base CX0 n f fd ps sp)
  (b:∀(kV doc pm:Value)(an:Option Addr)(cdv ct:Value)(us:List Value),us.length=ps.length->bindArgs (PySem.W.fnOf x x (xK s) (yU s) (zI s) .none kV doc pm an cdv ct) ⟨us,[]⟩=pure (ps.zip us)):Has P w K mg base x n ps sp:=zKn P w base X G q (λF _ _ _=>o F) b
abbrev AtM(x q:Str)(s:Stmt)(f:Addr):Prop:=∃(oc:Value)(od:Option Addr)(sl:Array (Option Value))(kV dc pm:Value)(an:Option Addr)(cd ct:Value),List.lookup f KC=some ⟨oc,od,.func (PySem.W.fnOf x q (xK s) (yU s) (zI s) .none kV dc pm an cd ct),sl⟩/\PySem.W.codeIn KC cd q=true/\PySem.W.keepIn KC (.ref f)=true
theorem atm_mk{q:Str}(h:List.lookup f KC=some ⟨oc,od,.func (PySem.W.fnOf x q (xK s) (yU s) (zI s) .none kV dc pm an cd ct),sl⟩/\PySem.W.codeIn KC cd q=true/\PySem.W.keepIn KC (.ref f)=true):AtM x q s f:=⟨_,_,_,_,_,_,_,_,_,h⟩
theorem zEt(P:Program)(w:World)(base:Heap)(X:PySem.W.Frag.In (KK Pm) h)(G:h.Ns mainGlobals mg)(q:AtE Pm x s){ps:List Str}{n:Nat}{sp:Sp}(o:∀ {f:Addr} {fd:FuncData},Fun K x x s f fd->yP P w K mg base (CX1 P w) n f fd ps sp)
  (b:∀(kV doc pm:Value)(an:Option Addr)(cdv ct:Value)(us:List Value),us.length=ps.length->bindArgs (PySem.W.fnOf x x (xK s) (yU s) (zI s) .none kV doc pm an cdv ct) ⟨us,[]⟩=pure (ps.zip us)):zIj P w K mg base x n ps sp:=by
 obtain⟨f,oc,od,sl,kV,dc,pm,an,cd,ct,q⟩:=q;have F:=zPy q;exact⟨_,_,o F,F.binds b,F.kp,PySem.W.mg_of X G q.1⟩
theorem zAn(P:Program)(w:World)(mg:Str->Option Value)(base:Heap){q:Str}(a:AtM x q s f){ps:List Str}{n:Nat}{sp:Sp}(o:∀ {fd:FuncData},Fun K x q s f fd->yP P w K mg base CX0 n f fd ps sp)
  (b:∀(kV doc pm:Value)(an:Option Addr)(cdv ct:Value)(us:List Value),us.length=ps.length->bindArgs (PySem.W.fnOf x q (xK s) (yU s) (zI s) .none kV doc pm an cdv ct) ⟨us,[]⟩=pure (ps.zip us)):zJ8 P w K mg base f n ps sp:=by
 obtain⟨oc,od,sl,kV,dc,pm,an,cd,ct,a1,a2,a3⟩:=a;exact⟨_,o (zL4 (st:=s) (by rw[zLd]; exact a1) (by rw[zLd]; exact a2) (by rw[zLd]; exact a3)),b _ _ _ _ _ _⟩
theorem has_mkMX(P:Program)(w:World)(mg:Str->Option Value)(base:Heap){q:Str}(a:AtM x q s f){ps:List Str}{n:Nat}{sp:Sp}(o:∀ {fd:FuncData},Fun K x q s f fd->yP P w K mg base (CX1 P w) n f fd ps sp)
  (b:∀(kV doc pm:Value)(an:Option Addr)(cdv ct:Value)(us:List Value),us.length=ps.length->bindArgs (PySem.W.fnOf x q (xK s) (yU s) (zI s) .none kV doc pm an cdv ct) ⟨us,[]⟩=pure (ps.zip us)):HasMX P w K mg base f n ps sp:=by
 obtain⟨oc,od,sl,kV,dc,pm,an,cd,ct,a1,a2,a3⟩:=a;exact⟨_,o (zL4 (st:=s) (by rw[zLd]; exact a1) (by rw[zLd]; exact a2) (by rw[zLd]; exact a3)),b _ _ _ _ _ _⟩
theorem K_in{Pm:Params}{h:Heap}(X:PySem.W.Frag.In (KK Pm) h):PySem.W.Frag.In K h:=by
 rw[zLd];exact zN9 (F:=KF Pm) (by kernel_rfl) X
end
theorem us0{R:List Value->Prop}(h:R []):∀ us:List Value,us.length=0->R us
 | [],_=>h 
theorem us1{R:List Value->Prop}(h:∀ a,R [a]):∀ us:List Value,us.length=1->R us
 | [a],_=>h a
theorem us2{R:List Value->Prop}(h:∀ a b,R [a,b]):∀ us:List Value,us.length=2->R us
 | [a,b],_=>h a b
theorem us3{R:List Value->Prop}(h:∀ a b c,R [a,b,c]):∀ us:List Value,us.length=3->R us
 | [a,b,c],_=>h a b c
theorem us4{R:List Value->Prop}(h:∀ a b c d,R [a,b,c,d]):∀ us:List Value,us.length=4->R us
 | [a,b,c,d],_=>h a b c d
theorem us6{R:List Value->Prop}(h:∀ a b c d e f,R [a,b,c,d,e,f]):∀ us:List Value,us.length=6->R us
 | [a,b,c,d,e,f],_=>h a b c d e f
theorem all_mk{l:PySem.W.OpenLaw}{w:World}{h:Heap}{mg:Str->Option Value}{fa:Addr}(X:PySem.W.Frag.In (KK w.params) h)(G:h.Ns mainGlobals mg)(hfa:mg "law" = some (.ref fa))
  {f50:Addr}
  {oc50 kV50 dc50 pm50 cd50 ct50:Value}
  {od50 an50:Option Addr}
  {sl50:Array (Option Value)}
  (q1:AtE w.params "common_factor" xH)
  (q2:AtE w.params "lowest" rN)
  (q3:AtE w.params "turn" zBs)
  (q4:AtE w.params "plain_side" wV)
  (q5:AtE w.params "pushed" rK)
  (q6:AtE w.params "bearing_sides" xF)
  (q7:AtE w.params "range_side" wU)
  (q8:AtE w.params "nothing_yet" wB)
  (q9:AtE w.params "changed" tJ)
  (q10:AtE w.params "within" rJ)
  (q11:AtE w.params "check_name" uC)
  (q12:AtE w.params "check_free" uB)
  (q13:AtE w.params "check_place" wI)
  (q14:AtE w.params "check_run" uR)
  (q15:AtE w.params "check_room" wY)
  (q16:AtE w.params "check_mark" wX)
  (q17:AtE w.params "check_moment" xS)
  (q18:AtE w.params "check_way" uN)
  (q19:AtE w.params "check_apart" wG)
  (q20:AtE w.params "after_mark" wW)
  (q21:AtE w.params "after_sail" uA)
  (q22:AtE w.params "after_note" wS)
  (q23:AtE w.params "after_bearing" xD)
  (q24:AtE w.params "after_range" wF)
  (q25:AtE w.params "after" qR)
  (q26:AtE w.params "way_between" wD)
  (q27:AtE w.params "mark_places" wH)
  (q28:AtE w.params "sides_of" vO)
  (q29:AtE w.params "note_groups" wK)
  (q30:AtE w.params "note_sides" wT)
  (q31:AtE w.params "_law_power" qX)
  (q32:AtE w.params "_law_draws" qV)
  (q33:AtE w.params "_law_new" zFd)
  (q34:AtE w.params "_law_lead" zBr)
  (q35:AtE w.params "_law_way" zFf)
  (q36:AtE w.params "_law_turned" rL)
  (q37:AtE w.params "_law_left_pair" uP)
  (q38:AtE w.params "_law_true_bearing" xO)
  (q39:AtE w.params "_law_some_deeds" wZ)
  (q40:AtE w.params "_law_names" qZ)
  (q41:AtE w.params "_law_after" qD)
  (q42:AtE w.params "_law_raised" rE)
  (q43:AtE w.params "_law_same" qN)
  (q44:AtE w.params "_law_low" zEq)
  (q45:AtE w.params "_law_lowest" rG)
  (q46:AtE w.params "_law_rows_of" tU)
  (q47:AtE w.params "_law_m_groups" vS)
  (q48:AtE w.params "_law_m_sides" tI)
  (q49:AtE w.params "_law_nowhere" tO)
  (q50:AtK w.params "law" zHo f50 oc50 od50 sl50 kV50 dc50 pm50 an50 cd50 ct50)
  (q51:AtM "__init__" "Book.__init__" zBm zHm)
  (q52:AtM "deed" "Book.deed" zBn zHy)
  (q53:AtM "marks" "Book.marks" qU zE3)
  (q54:AtM "runs" "Book.runs" zBu zFe)
  (q55:AtM "notes" "Book.notes" qS zEj)
  (q56:AtM "coming" "Book.coming" rC zDe)
  (z_ValueError:PySem.W.nsIn (KK w.params) mainGlobals "ValueError" = some none)
  (z_abs:PySem.W.nsIn (KK w.params) mainGlobals "abs" = some none)
  (z_all:PySem.W.nsIn (KK w.params) mainGlobals "all" = some none)
  (z_bool:PySem.W.nsIn (KK w.params) mainGlobals "bool" = some none)
  (z_dict:PySem.W.nsIn (KK w.params) mainGlobals "dict" = some none)
  (z_int:PySem.W.nsIn (KK w.params) mainGlobals "int" = some none)
  (z_isinstance:PySem.W.nsIn (KK w.params) mainGlobals "isinstance" = some none)
  (z_len:PySem.W.nsIn (KK w.params) mainGlobals "len" = some none)
  (z_list:PySem.W.nsIn (KK w.params) mainGlobals "list" = some none)
  (z_max:PySem.W.nsIn (KK w.params) mainGlobals "max" = some none)
  (z_min:PySem.W.nsIn (KK w.params) mainGlobals "min" = some none)
  (z_range:PySem.W.nsIn (KK w.params) mainGlobals "range" = some none)
  (z_sorted:PySem.W.nsIn (KK w.params) mainGlobals "sorted" = some none)
  (z_str:PySem.W.nsIn (KK w.params) mainGlobals "str" = some none)
  (z_sum:PySem.W.nsIn (KK w.params) mainGlobals "sum" = some none)
  (z_tuple:PySem.W.nsIn (KK w.params) mainGlobals "tuple" = some none)
  (z_zip:PySem.W.nsIn (KK w.params) mainGlobals "zip" = some none) :
  ∃ fd:FuncData,(∀(s:Shared)(v:Value),BindsTo s fd ⟨[v],[]⟩ [("_law_script", v)])/\∀ base:Heap,PySem.W.Frag.In (KK w.params) base->base.Ns mainGlobals mg->yP l.prog w K mg base CX0 9 fa fd ["_law_script"] (sp_law K):=by
 have e:=hfa.symm.trans (PySem.W.mg_of X G q50.1);cases e;have Z:Zs mg:=⟨PySem.W.mg_none_of X G z_ValueError,PySem.W.mg_none_of X G z_abs,PySem.W.mg_none_of X G z_all,PySem.W.mg_none_of X G z_bool,PySem.W.mg_none_of X G z_dict,PySem.W.mg_none_of X G z_int,PySem.W.mg_none_of X G z_isinstance,PySem.W.mg_none_of X G z_len,PySem.W.mg_none_of X G z_list,PySem.W.mg_none_of X G z_max,PySem.W.mg_none_of X G z_min,PySem.W.mg_none_of X G z_range,PySem.W.mg_none_of X G z_sorted,PySem.W.mg_none_of X G z_str,PySem.W.mg_none_of X G z_sum,PySem.W.mg_none_of X G z_tuple,PySem.W.mg_none_of X G z_zip⟩;refine⟨PySem.W.fnOf "law" "law" (xK zHo) (yU zHo) (zI zHo) .none kV50 dc50 pm50 an50 cd50 ct50,λs v=>.of_eq rfl,λbase KB GB=>?_⟩;have CB:Cb l.prog w mg base:=cb_mk KB GB;have yAa:=zY l.prog w base X G q1 (λF=>qH F Z ) (λ_ _ _ _ _ _=>us1 λ_=>rfl);have yBh:=zY l.prog w base X G q2 (λF=>zH1 F Z CB yAa) (λ_ _ _ _ _ _=>us1 λ_=>rfl);have yBt:=zY l.prog w base X G q3 (λF=>zKg F Z CB ) (λ_ _ _ _ _ _=>us2 λ_ _=>rfl);have yAo:=zY l.prog w base X G q4 (λF=>zCe F Z CB yBh) (λ_ _ _ _ _ _=>us1 λ_=>rfl);have yBk:=zY l.prog w base X G q5 (λF=>zHx F Z CB ) (λ_ _ _ _ _ _=>us3 λ_ _ _=>rfl);have yAb:=zY l.prog w base X G q6 (λF=>qO F Z CB yAo yBt) (λ_ _ _ _ _ _=>us3 λ_ _ _=>rfl);have yAw:=zY l.prog w base X G q7 (λF=>zB4 F Z CB yAo yBt) (λ_ _ _ _ _ _=>us2 λ_ _=>rfl);have yAf:=zY l.prog w base X G q8 (λF=>zA5 F Z CB ) (λ_ _ _ _ _ _=>us0 rfl);have yBc:=zY l.prog w base X G q9 (λF=>zF1 F Z CB ) (λ_ _ _ _ _ _=>us4 λ_ _ _ _=>rfl);have yBi:=zY l.prog w base X G q10 (λF=>zHh F Z CB ) (λ_ _ _ _ _ _=>us2 λ_ _=>rfl);have yAq:=zY l.prog w base X G q11 (λF=>zC6 F Z CB ) (λ_ _ _ _ _ _=>us1 λ_=>rfl);have yAn:=zY l.prog w base X G q12 (λF=>zB6 F Z CB ) (λ_ _ _ _ _ _=>us3 λ_ _ _=>rfl);have yAl:=zY l.prog w base X G q13 (λF=>zA3 F Z CB yBi) (λ_ _ _ _ _ _=>us1 λ_=>rfl);have yAy:=zY l.prog w base X G q14 (λF=>zDj F Z CB yBi) (λ_ _ _ _ _ _=>us1 λ_=>rfl);have yAs:=zY l.prog w base X G q15 (λF=>zCn F Z CB ) (λ_ _ _ _ _ _=>us2 λ_ _=>rfl);have yAp:=zY l.prog w base X G q16 (λF=>zCz F Z CB ) (λ_ _ _ _ _ _=>us2 λ_ _=>rfl);have yAd:=zEt l.prog w base X G q17 (λF=>zAj F Z CB ) (λ_ _ _ _ _ _=>us2 λ_ _=>rfl);have yAz:=zY l.prog w base X G q18 (λF=>zDm F Z CB yBi) (λ_ _ _ _ _ _=>us1 λ_=>rfl);have yAi:=zY l.prog w base X G q19 (λF=>zA8 F Z CB ) (λ_ _ _ _ _ _=>us3 λ_ _ _=>rfl);have yAr:=zY l.prog w base X G q20 (λF=>zCo F Z CB yBc yAs yAl yAn yAq) (λ_ _ _ _ _ _=>us2 λ_ _=>rfl);have yAv:=zY l.prog w base X G q21 (λF=>zC8 F Z CB yBc yAs yAy) (λ_ _ _ _ _ _=>us2 λ_ _=>rfl)
 have yAt:=zY l.prog w base X G q22 (λF=>zCs F Z CB yBc yAs) (λ_ _ _ _ _ _=>us2 λ_ _=>rfl);have yAc:=zY l.prog w base X G q23 (λF=>qP F Z CB yAt yBt yAz yAp yAd) (λ_ _ _ _ _ _=>us2 λ_ _=>rfl);have yAh:=zY l.prog w base X G q24 (λF=>zA7 F Z CB yAt yAi yAp yAd) (λ_ _ _ _ _ _=>us2 λ_ _=>rfl);have yBn:=zY l.prog w base X G q25 (λF=>zJ1 F Z CB yAr yAv yAc yAh) (λ_ _ _ _ _ _=>us2 λ_ _=>rfl);have yBb:=zY l.prog w base X G q28 (λF=>zE2 F Z CB yAw yAb) (λ_ _ _ _ _ _=>us2 λ_ _=>rfl);have yBm:=zY l.prog w base X G q31 (λF=>zI3 F Z ) (λ_ _ _ _ _ _=>us1 λ_=>rfl);have yBq:=zY l.prog w base X G q32 (λF=>zJs F Z CB yBm) (λ_ _ _ _ _ _=>us2 λ_ _=>rfl);have yBv:=zY l.prog w base X G q33 (λF=>zMw F Z CB ) (λ_ _ _ _ _ _=>us0 rfl);have yBs:=zY l.prog w base X G q34 (λF=>zLm F Z CB ) (λ_ _ _ _ _ _=>us3 λ_ _ _=>rfl);have yBu:=zY l.prog w base X G q35 (λF=>zNa F Z CB ) (λ_ _ _ _ _ _=>us3 λ_ _ _=>rfl);have yBg:=zY l.prog w base X G q36 (λF=>zHn F Z CB ) (λ_ _ _ _ _ _=>us2 λ_ _=>rfl);have yAx:=zY l.prog w base X G q37 (λF=>zDn F Z CB yBg yBu) (λ_ _ _ _ _ _=>us2 λ_ _=>rfl);have yAe:=zY l.prog w base X G q38 (λF=>zAf F Z CB yAx yBs) (λ_ _ _ _ _ _=>us6 λ_ _ _ _ _ _=>rfl);have yAm:=zY l.prog w base X G q39 (λF=>zCk F Z CB yAe yBv) (λ_ _ _ _ _ _=>us2 λ_ _=>rfl);have yBp:=zY l.prog w base X G q40 (λF=>zJi F Z CB ) (λ_ _ _ _ _ _=>us2 λ_ _=>rfl);have yBo:=zY l.prog w base X G q41 (λF=>zJn F Z CB ) (λ_ _ _ _ _ _=>us2 λ_ _=>rfl);have yBr:=zKn l.prog w base X G q43 (λF b k m=>zLj F Z  b k m) (λ_ _ _ _ _ _=>us2 λ_ _=>rfl);have yBw:=zY l.prog w base X G q44 (λF=>zN3 F Z ) (λ_ _ _ _ _ _=>us2 λ_ _=>rfl);have yBj:=zY l.prog w base X G q45 (λF=>zH6 F Z CB yBw) (λ_ _ _ _ _ _=>us1 λ_=>rfl);have yBf:=zY l.prog w base X G q46 (λF=>zGc F Z CB yBj) (λ_ _ _ _ _ _=>us2 λ_ _=>rfl);have yBa:=zY l.prog w base X G q47 (λF=>zFc F Z CB yBf yBs) (λ_ _ _ _ _ _=>us2 λ_ _=>rfl);have yBd:=zY l.prog w base X G q48 (λF=>zGn F Z CB yBa) (λ_ _ _ _ _ _=>us2 λ_ _=>rfl);have h_b_init:=zAn l.prog w mg base q51 (λF=>zKo F Z CB yAf) (λ_ _ _ _ _ _=>us1 λ_=>rfl);have h_b_marks:=zAn l.prog w mg base q53 (λF=>zI4 F Z CB ) (λ_ _ _ _ _ _=>us1 λ_=>rfl);have yAk:=zY l.prog w base X G q27 (λF=>zBh F Z CB h_b_marks) (λ_ _ _ _ _ _=>us1 λ_=>rfl);have h_b_runs:=zAn l.prog w mg base q54 (λF=>zK7 F Z CB ) (λ_ _ _ _ _ _=>us1 λ_=>rfl);have yAg:=zEt l.prog w base X G q26 (λF=>zBe F Z CB yAd h_b_runs) (λ_ _ _ _ _ _=>us3 λ_ _ _=>rfl)
 have h_b_notes:=zAn l.prog w mg base q55 (λF=>zJz F Z CB ) (λ_ _ _ _ _ _=>us1 λ_=>rfl);have yAj:=zEt l.prog w base X G q29 (λF=>zBd F Z CB h_b_notes yBb yBk yAg yAk yAd h_b_runs) (λ_ _ _ _ _ _=>us2 λ_ _=>rfl);have yAu:=zEt l.prog w base X G q30 (λF=>zCv F Z CB yAj) (λ_ _ _ _ _ _=>us2 λ_ _=>rfl);have yBe:=zY l.prog w base X G q49 (λF=>zF9 F Z CB yAg yAu yAj) (λ_ _ _ _ _ _=>us4 λ_ _ _ _=>rfl);have h_b_coming:=zAn l.prog w mg base q56 (λF=>zHw F Z CB ) (λ_ _ _ _ _ _=>us1 λ_=>rfl);have h_b_deed:=zAn l.prog w mg base q52 (λF=>zKb F Z CB h_b_coming yBn) (λ_ _ _ _ _ _=>us2 λ_ _=>rfl);have yBl:=zY l.prog w base X G q42 (λF=>zHc F Z CB yAm yBp yBo h_b_deed yBv) (λ_ _ _ _ _ _=>us2 λ_ _=>rfl);exact zSo (zPy q50) Z CB yBe yBr yBa yBd yAj yAu yBs yAg yBl h_b_init yBq
theorem walk{l:PySem.W.OpenLaw}{q:Program}{loose:List Str}{XP:(Str->Option Value)->Heap->Prop}{YP:World->Heap->Prop}{d:DefRec}(hn:l.most=some 63)(hdf:d.params.defaults=[])
  (hY:∀(w:World)(h:Heap),YP w h->PySem.W.Frag.In (KK w.params) h)
  (F:∀(w:World)(mg:Str->Option Value)(fa:Addr)(h:Heap),PySem.W.Frag.In (KK w.params) h->h.Ns mainGlobals mg->mg d.name=some (.ref fa) ->
   ∃ fd:FuncData,(∀(s:Shared)(u:Value),BindsTo s fd ⟨[u],[]⟩ [("_law_script", u)])/\∀ base:Heap,PySem.W.Frag.In (KK w.params) base->base.Ns mainGlobals mg->yP l.prog w K mg base CX0 9 fa fd ["_law_script"] (sp_law K)) :
  PySem.W.WalkO q loose XP YP l.row.toRowW d [] (λf vs=>PySem.call f vs) :=
 L2.walk_of3 (n:=63) (k:=9) (x := "_law_script") (KK:=KK) (K:=K) (sp:=sp_law K) hn (by decide) hdf ⟨rfl,by decide,by decide⟩ hY (λ_ _ X=>K_in X) (λp a o h c=>by rw[zLd]; exact zLn (F:=KF p) (by kernel_rfl) h c) F (λ_ a ns hl hS=>⟨a,ns,rfl,hS,hl,λ_=>rfl⟩)

end Sea
open PySem PySem.W PyProof.Rows
set_option maxRecDepth 100000 in
set_option maxHeartbeats 0 in
theorem PySem.Challenge.cw_seamarks_k39_sides_of_a_book_holds : PySem.Challenge.rw_seamarks_k39_sides_of_a_book.Holds := by
 w_on
 refine holds_law Sea.said_ok λsaid=>?_;refine holds_open (q:=Sea.qv) (loose:=Sea.lse) (XP:=XL Sea.qv []) (YP:=InK Sea.KK) Sea.left_ok (InK.of Sea.kas_ok)
  InK.keeps (λs e=>xl_of s (Bool.and_eq_true_iff.mp e).1) XL.keeps (by rfl) (by rfl) (by rfl)
  (λs e=>recFacts_of (Bool.and_eq_true_iff.mp e).2) (by rfl) (by assumption) (by decide +kernel)
  ⟨rfl,rfl,rfl,rfl,rfl,by decide +kernel⟩ ?hw ?hc
 case hw=>w_witness2
 k_fill
 refine Sea.walk (l:=PySem.Challenge.rw_seamarks_k39_sides_of_a_book) rfl rfl (λw h Y=>Y) ?F
 case F =>
  intro w mg fa h KX G hmg
  refine' Sea.all_mk KX G hmg ?q1 ?q2 ?q3 ?q4 ?q5 ?q6 ?q7 ?q8 ?q9 ?q10 ?q11 ?q12 ?q13 ?q14 ?q15 ?q16 ?q17 ?q18 ?q19 ?q20 ?q21 ?q22 ?q23 ?q24 ?q25 ?q26 ?q27 ?q28 ?q29 ?q30 ?q31 ?q32 ?q33 ?q34 ?q35 ?q36 ?q37 ?q38 ?q39 ?q40 ?q41 ?q42 ?q43 ?q44 ?q45 ?q46 ?q47 ?q48 ?q49 ?q50 ?q51 ?q52 ?q53 ?q54 ?q55 ?q56 ?z_ValueError ?z_abs ?z_all ?z_bool ?z_dict ?z_int ?z_isinstance ?z_len ?z_list ?z_max ?z_min ?z_range ?z_sorted ?z_str ?z_sum ?z_tuple ?z_zip
  (case q51 | q52 | q53 | q54 | q55 | q56=>refine' Sea.atm_mk ⟨?b,?c,?d⟩;(case b=>exact rfl);(case c=>kernel_rfl);(case d=>kernel_rfl))
  (case q50=>refine'⟨?_,?_,?_,?_⟩; k_is; exact rfl; kernel_rfl; kernel_rfl)
  (case q1 | q2 | q3 | q4 | q5 | q6 | q7 | q8 | q9 | q10 | q11 | q12 | q13 | q14 | q15 | q16 | q17 | q18 | q19 | q20 | q21 | q22 | q23 | q24 | q25 | q26 | q27 | q28 | q29 | q30 | q31 | q32 | q33 | q34 | q35 | q36 | q37 | q38 | q39 | q40 | q41 | q42 | q43 | q44 | q45 | q46 | q47 | q48 | q49=>refine' Sea.at_mk ⟨?a,?b,?c,?d⟩;(case a=>k_is);(case b=>exact rfl);(case c=>kernel_rfl);(case d=>kernel_rfl))
  (case z_ValueError | z_abs | z_all | z_bool | z_dict | z_int | z_isinstance | z_len | z_list | z_max | z_min | z_range | z_sorted | z_str | z_sum | z_tuple | z_zip=>k_is)
