import PyProof.Rows.All
import KE.KDictOf
import KE.KIntText
import KE.KTryMore
import PySem.Challenge.RW_seamarks_k54_refusals_apart
set_option compiler.extract_closed false
set_option Elab.async false
set_option linter.all false
set_option maxRecDepth 100000
set_option maxHeartbeats 4000000
theorem nabs{a:Int}{n:Nat} : a.natAbs<=n↔-(n:Int)<=a/\a<=n:=by omega
local macro_rules | `(tactic| lia) => `(tactic| first | (simp only [nabs] at *; lia (config := {})) | lia (config := {}) | omega)
local macro_rules | `(tactic| exists $es,*) => `(tactic| refine ⟨$es,*, ?_⟩)
open PySem.W renaming Frag->ac,mg_of->c6,findIn->o7,mg_none_of->t9,keepIn->u9,fnOf->v7,kia_one->x8,nsIn->Af,emptyDict->Ah,kitOne->Ar,callWith_K->Ay,instObj->AH,methodCall_KW->AY,codeIn->BJ,callWith_K0->BU,hasDictIn->Cc,cellsFrom_some->Cd,plainGet->Ck,hideAll->Cs,hideAll_get->Cz,plainGet_of->CA,isFn->CI,of_hideAll->CM,lookIn->CP,methodObj->C5,specialIn->C6,funFrames_hide->DK,takerIn->DM,takesIn->DN,OpenLaw->DQ,findObj->DU,hideAll_none->D5,findObj_own->Ek,codeRec_of->Ez,plainOver->EM,kitx_list->EQ,kitx_dict->ER,handedIn->Fe,any_some->Ff,makesIn->Fw,InstAt->FO,exmOne->FV,notCls->FW,WalkO->Gr,clsIn->Gs,SharedT->GC
open PySem renaming wpAny_bind->b0,Addr->b6,Value->b7,Shared->b9,Str->c7,wpAny_pure->c9,Program->e9,World->i5,Heap->j3,Expr->o6,wpAny_field->t6,Around->u8,Stmt->v4,wpAny_newObj_type->v5,FuncData->w4,wpAny_callSpecial?_slot->z9,wpAny_Call_Name_kw->Ac,Obj->Ad,wpAny_holding->Aj,wpAny_mono->An,wpAny_truthy_bool->Aq,wpAny_seqItems->As,mem_of_lookup->AJ,wpAny_call_entry->AQ,wpAny_setField->AT,wpAny_setField_rec->AU,wpAny_passesOwn->A0,wpAny_getItem_str_slice->Bm,Params->Bq,wpAny_call->Br,wpAny_attempt->Bx,ofString_length->Bz,OsState->BA,wpAny_pyIter_list->BC,wpAny_loadPart_at->BE,NameKind->BI,IsPair->BL,Pos->BM,ExcBaseFacts->BP,Scope->BW,wpAny_execs_nil->BY,DictEntry->B7,wpAny_of_eq->B8,Env->Cj,Builtin->Cn,wpAny_standAt->Co,wpAny_updateSeq_pair->Cr,wpAny_newFunctionEnv_cells->CS,wpAny_FormattedValue_plain->CW,Keyword->C8,wpAny_Call_method->Db,wpAny_comprehension_free->Dg,wpAny_onRaise->Dh,slot_listiter_next->Dj,IsZip->Dn,wpAny_isInstance->Do,wpAny_pyNext_list_item->DA,BindsTo->DC,wpAny_rule->DF,wpAny_isTrue_Compare1->DV,wpAny_pyIter_listiter->DW,wpAny_formatField_int->D0,wpAny_loadPart->D8,wpAny_newFunctionEnv->Eb,evalArgs_none->El,wpAny_isSubtype_exc->Er,IsPart->EA,wpAny_pyIter_tuple->ED,Within->EJ,Paired->Fc,wpAny_execs_cons->Fd,wpAny_lookBehind->Fg,wpAny_pyIter_zip->Fl,wpAny_getItem_of->Fo,wpAny_letGo->Fv,wpAny_specialOf->FC,Sem->FG,OwnTail->FJ,Model->FL,wpAny_Name->FM,CmpOp->FN,call->FR,ClassData->GA,Tok->GU
open PySem.Heap renaming get?_push_of_some->b8,get?_push_size->d6,lt_size->d7,get?_update_other->o8,get?_update_self->Ai,SameBut->AC,get?_none_of_le->AF,size_push->AG,ExtBut->Cq,get?_update_ne->CF,MadeExcOf->CV,get?_push_at->E1
open PySem.F renaming excBase_ValueError->c0,plainAttrs_str->AL,slot_tuple_iterator_next->AS,slot_dict_getitem->BR,plainAttrs_list->B9,args_tuple_iterator_next_1->Cv,slot_zip_next->Cw,entry_tuple_iterator_next->CJ,args_str_split_2->C0,slot_dict_delitem->C2,entry_str_split->De,plainAttrs_dict->Dq,slot_str_split->Dw,type_str_split->DL,slot_dict_pop->DZ,slot_dict_get->D1,slot_str_join->D2,type_str_join->D3,slot_dict_values->EH,args_zip_next_1->EU,attr_ValueError->EW,entry_zip_next->Fk
open List renaming length_map->c5,length_append->d5,size_toArray->d9,getElem?_eq_getElem->e7,mem_singleton->f7,getElem?_eq_some_iff->f8,mem_cons->f9,getElem?_map->i3,length_cons->i6,map_cons->i7,replicate->i9,map_append->j6,mem_map->j9,mem_append_right->k9,lookup_cons->l6,toArray->l8,lookup->o9,mem_cons_of_mem->t5,all_eq_true->t7,getElem?_append_right->v6,length_replicate->v8,mem_append->w6,find?_cons->w9,getElem?_append_left->x0,not_mem_nil->x9,mem_cons_self->Ab,append_nil->Al,range->Am,mem_of_getElem?->Ao,length_nil->Au,length_singleton->Aw,length_filter_le->Ax,length_take->Az,zipIdx_cons->AB,any_cons->AN,take_length->AR,take_succ->AV,filterMap_cons->Bh,getElem?_replicate->Bk,map_map->Bt,mem_filter->Bu,mem_range->BH,mem_filterMap->B1,find?_eq_none->B4,filter_append->B6,getElem?_eq_none->Ci,mem_append_left->Cp,nodup_cons->Ct,of_mem_zip->Cu,replicate_succ->CD,nodup_iff_pairwise_ne->CY,snd_lt_of_mem_zipIdx->C4,length->C9,filter_congr->Dc,length_drop->Dl,getElem_mem->Dm,cons_append->Dp,filter_cons_of_neg->Dr,filter_cons_of_pos->Du,getElem?_set_self->Dz,map_nil->DD,take_of_length_le->DJ,forIn_cons->DO,filter_map->DP,getElem?_set_ne->D6,getElem_toArray->Ec,replicate_succ'->Eg,map_congr_left->Ep,getElem?_range->Et,all_cons->Ew,any_eq_false->EL,flatten_cons->ET,length_range->E9,all_nil->Fa,filter_cons->Fm,any_eq_true->Fq,zipIdx_nil->FA,length_set->FE,range_succ->FF,forIn_nil->FT,all_map->GJ
open Nat renaming le_of_ble_eq_true->c8,le_refl->d8,lt_of_lt_of_le->g6,le_trans->g9,ne_of_lt->j4,zero_le->j8,lt_trans->AD,lt_irrefl->AM,gcd->BO,lt_of_le_of_lt->B2,ne_of_gt->CH,lt_one_iff->C1,lt_succ_self->Dk,le_of_lt->Dy,zero_add->DI,le_succ->D9,le_of_eq->EN,lt_or_ge->Fb,le_of_not_lt->Fi,succ_ne_self->Fj,log2_lt->Fu,mod_lt->FX,dvd_trans->Go,mul_assoc->Gp,le_of_dvd->Gq,succ_mul->GF,mul_comm->GG
open Classical renaming not_not->d3
open PySem.Str renaming ofString->d4,empty->Ei,join->EV
open PySem.Value renaming ref->e8,none->v3,builtin->Ap,str->AO,int->BN,bool->Dx,float->D4,bytes->Ft,type->FK,isStrOf->F9,isInt->GL
open Bool renaming false_ne_true->g7,and_eq_true->i8,eq_iff_iff->BZ,false_eq_true->B5,false_and->CO,and_false->CU,eq_false_iff->Da,and_eq_true_iff->Eh,true_and->Ev,and_true->Ex,not_eq_true'->EX,or_eq_true->Fz,or_false->Gn
open Option renaming isSome_iff_exists->g8,map_eq_some_iff->j5,bind_eq_some_iff->Aa,isSome_map->A9,bind_some->Bo,map_some->B0,map_eq_none_iff->DG,getD_none->Fh,none->GN
open PyProof.Rows renaming OwnCls->j7,callWith_type1->AK,slot_tuple_getitem->Be,plainGoodE->Bi,plainGoodD->Bj,drecsOf->BF,callWith_builtin1->Cm,AllBare->CG,IntsAre->FH,Subscript_->FQ,expectedOf->Gu,IsTup->Gv
open False renaming elim->l9
open Option.some renaming inj->o0
open True renaming intro->q0
open PySem.Builtin.SmallTypes renaming nextOf->r6,ownedTupleIsFree->Ak,ownedTupleHandOut->BV
open PySem.NameKind renaming free->r9,cell->Bw
open Int.ofNat renaming inj->v9
open PySem.W.Frag renaming In->w8
open Or renaming inl->Ae,inr->Df
open Array renaming length_toList->Ag,getElem?_eq_some_iff->At,getElem?_eq_none->Cf,getElem?_eq_getElem->C3,getElem?_toList->DY,mem_toList_iff->D7,toList->GD
open Ne renaming symm->Av
open PySem.Obj renaming data_mapFields->AA,mapFields->AE,isFreed_of_fields->AX,cls_mapFields->Ce
open ForInStep renaming yield->AI
open Int renaming emod_lt_of_pos->AW,mul_assoc->Bc,emod_nonneg->Bv,toNat_natCast->BD,zero_add->Ch,eq_ofNat_of_zero_le->Dv,le_of_lt->DE,mul_nonneg->Ea,natAbs_mul_self->Em,natAbs_natCast->EB,natCast_nonneg->EC,mul_ne_zero->Fy,natAbs_mul->FS,mul_comm->GH,zero_mul->GI,mul_neg->GO
open PySem.Builtin.Slice renaming slicePlaces->AZ,sliceAdjust->BQ,sliceApplied->CT,slicePartIndex->Fx,sliceFields->F8
open PySem.PassesOwn renaming never->A1,leaving->Ba
open PySem.Calls renaming evalArgs_plain->A2,callWith_builtin->Bs,Name_function_global->CN,spliced_cons->CQ,spliced_nil->C7,Constant_str->Ey
open PySem.Builtin.Tuple renaming tupleExact->Bb,tupleItemsOf->FP
open Sum renaming inl->Bf,inr->Bg
open PySem.World renaming withFollow_self->By
open PySem.W.Fast renaming te14364793385576792824->BB,te2368527892694137696->BG,te5923862056798008813->CL
open PySem.Builtin.List renaming listTooLong->BX
open PySem.SeqAt.EqAt renaming of_refs->B3,int_int->EF,str_str->EG
open PySem.Builtin.Str renaming occurrences->Ca,glued->Cg,strKind->Es
open PySem.PyData renaming shownAll->Cy,keyHash->CK,showableAll->CZ,hasDictAll->Dd,showable->DS,depthAll->DT,hasDict->Ee,shown->EY,depth->EZ
open PySem.SeqAt.RcAt renaming lists_lengths->Di,lists->Fp
open PySem.Around renaming under->DB
open PySem.StrLaws renaming reprText_len->Ed,glued_eq_join->FI,joinTotal->Gy
open PySem.Txt renaming startswith->Ef,split->Ej,slice->Gx
open PySem.Heap.SameBut renaming update->En
open PySem.EntryCells renaming newEntry->Eo
open PySem.Paired renaming length->Eu,snoc->GQ
open PySem.Code renaming quiet_builtin->EI,isFrame->ES,isGuard->GE,frames->GM
open PySem.Heap.Ns1 renaming of_empty->EO
open Sum.inr renaming inj->Fs
open List.cons renaming injEq->FD
open PySem.SeqAt renaming EqAt->FU
open PySem.EqNone renaming eq_none_none->FY,eq_none_bool->FZ,eq_bool_none->F0,ne_none_none->F3,ne_none_bool->F4,ne_bool_none->F5,eq_none_int->Ga,eq_none_str->Gb,eq_int_none->Gc,eq_str_none->Ge,ne_none_int->Gg,ne_none_str->Gh,ne_int_none->Gi,ne_str_none->Gk
open PySem.EqMixed renaming eq_bool_str->F1,eq_str_bool->F2,ne_bool_str->F6,ne_str_bool->F7,eq_int_str->Gd,eq_str_int->Gf,ne_int_str->Gj,ne_str_int->Gm
open PySem.Builtin.Range renaming rangeSize->Gw
open PySem.Heap.UpToSlots renaming of_keeps->Gz
open PySem.W.SharedT renaming abs->GK
open PySem.Shared renaming heap->GP
open PySem.W.Looks renaming here->GR,ld->GZ
open PySem.Heap.IsSliceOf renaming new->GS
open PySem.W.WShape renaming has->GT
open PySem.Within renaming cons->GV
open List.Pairwise renaming nil->GW
open PyProof.Rows.IsTup renaming new->GX
open PySem.W.WData renaming int->GY
theorem U{b:Sort _}{a:b}:a=a:=rfl
open Option renaming some->G0,none->G2
open Bool renaming true->G3,false->G4
local macro_rules | `(tactic| rwa [$e:term]) => `(tactic| exact $e)
local macro_rules | `(tactic| rwa [$e:term, $[$es:term],*]) => `(tactic| exact ⟨$e, $es,*⟩)
local macro_rules | `(tactic| erw [$e:term]) => `(tactic| refine $e)
local macro_rules | `(tactic| erw [$e:term, $[$es:term],*]) => `(tactic| refine ⟨$e, $es,*⟩)
namespace L2
open PySem
def xV(s:v4):Arguments:=match s with
 | .FunctionDef _ a _ _ _ _ _ _ _ _=>a
 | _=>{ posonlyargs:=[],args:=[],vararg:=G2,kwonlyargs:=[],kw_defaults:=[],kwarg:=G2,defaults:=[] }
def xB(s:v4):List v4:=match s with
 | .FunctionDef _ _ b _ _ _ _ _ _ _=>b
 | _=>[]
def zH(s:v4):BW:=match s with
 | .FunctionDef _ _ _ _ _ _ a _ _ _=>a
 | _=>{ kind:=.function,names:=[],isGenerator:=G4,isCoroutine:=G4 }
def xS(s:v4)(j:Nat):v4:=match s with
 | .ClassDef _ _ _ body _ _ _ _ _ _ _=>body.getD j (.Pass ⟨0,0,0,0⟩)
 | _=>.Pass ⟨0,0,0,0⟩
end L2
namespace PySem.W
open PySem
noncomputable def oz(c:String->Option Cn)(p:e9)(w:i5)(a:Nat)(b:Option b7):Nat->GC->Thread->Option GC
 | 0,_,_=>G2
 | n+1,s,t=>match through t with
  | true=>G0 s
  | false=>match Fast.tw6613529449190102663 a b t with
   | false=>G2
   | true=>match Fast.tw10156331382660048174 (Fast.tw11892475500146522536 c) p w s t with
    | some (e,d)=>oz c p w a b n e d
    | none=>G2
def lK{c:String->Option Cn}{a:Nat} : ∀{n:Nat}{s d:GC}{t:Thread},oz c p w a b n s t=G0 d->topRun c p w a b n s.abs t=G0 d.abs
 | 0,_,_,_,h=>by cases h
 | n+1,s,d,t,h=>by
  unfold oz at h;rw[<- Fast.te6613529449190102663,<- Fast.te10156331382660048174,<- Fast.te11892475500146522536] at h;unfold topRun;cases i:through t with
  | true=>rw[i] at h; cases h; rfl
  | false =>
   rw[i] at h;cases hk:stepOk a b t with
   | false=>rw[hk] at h; cases h
   | true =>
    rw[hk] at h;cases e:stepT (denote c) p w s t with
    | none=>rw[e] at h; cases h
    | some r=>obtain⟨g,f⟩:=r; rw[e] at h; rw[stepT_spec e]; rwa[lK h]
noncomputable def Zm(P:Bq):BT:=((boot_heap P).objs.toList.zipIdx).foldl (λt x=>t.ins x.2 x.1) .nil
def cR(P:Bq):absHeap (Zm P) 11 (boot_heap P).life=boot_heap P:=by kernel_rfl
def gL(P:Bq):((boot_heap P).isNs mainGlobals,(boot_heap P).objs.size,(boot_heap P).nsMap mainGlobals "__annotations__")=(G3,11,G0 (.ref 6)):=by kernel_rfl
noncomputable abbrev XN(a:String->Option Cn)(p:e9)(N:Nat)(w:i5)(os:BA):Option GC:=oz a p w 11 (G0 (.ref 6)) N ⟨Zm w.params,11,(boot_heap w.params).life,#[],boot_drawn,boot_toks,os⟩ (topStub p)
def oF{e d c:Type}{x:Option e}{f:e->d×c}{a:d}{b:c}(h1:x.map (λs=>(f s).1)=G0 a)(h2:x.map (λs=>(f s).2)=G0 b):x.map f=G0 (a,b):=by
 cases x with
 | none=>cases h1
 | some s =>
  injection h1 with h1
  injection h2 with h2
  subst h1 h2;rfl
def cQ{e A B C D:Type}{x:Option e}{f:e->A×B×C×D}{a:A}{b:B}{c:C}{d:D}(h1:x.map (λs=>((f s).1,(f s).2.1,(f s).2.2.1))=G0 (a,b,c))(h2:x.map (λs=>(f s).2.2.2)=G0 d):x.map f=G0 (a,b,c,d):=by
 cases x with
 | none=>cases h1
 | some s =>
  cases h1;cases h2;rfl
def ui{c a d:Type}{x:Option c}{f:c->a}{b:a}(h:x.map f=G0 b)(g:a->d):x.map (λs=>g (f s))=G0 (g b):=by
 cases x with
 | none=>cases h
 | some s =>
  cases h;rfl
def eB{p q:e9}{a:List c7}{m:b9->Bool}{c:Type}{j:b9->c}{l:i5->c}{N:Nat}
  (b:∀ w:i5,(fencedOpening treeTable p w N).map (λs=>(s.heap,s.gens,s.drawn,s.toks))=G0 (boot_heap w.params,Array.mk [],boot_drawn,boot_toks))
  (h1:∀ w os,(XN treeTable p N w os).map (λs=>(staticsOk (importedModules p.main.body) (boot_heap w.params) s.abs.heap&&namesBound p s.abs.heap&&gensDone s.abs&&laidKept (boot_heap w.params) s.abs.heap))=G0 G3)
  (h2:∀ w os,(XN treeTable p N w os).map (λs=>openSeen q a (importedModules p.main.body) m G3 s.abs)=G0 (openGood q a))
  (h3:∀ w os,(XN treeTable p N w os).map (λs=>j s.abs)=G0 (l w)):LeftO p q a m j l N:=λw=>by
 obtain⟨⟨h,A,d,k,os⟩,e,B⟩:=j5.mp (b w);obtain⟨rfl,rfl,rfl,rfl⟩:h=boot_heap w.params/\A = #[]/\d=boot_drawn/\k=boot_toks:=by simpa using B
 obtain⟨u,o,n⟩ : _/\_/\_:=by simpa only[Prod.mk.injEq] using gL w.params
 obtain⟨s,i,z⟩:=j5.mp (h1 w os);obtain⟨C,g,y⟩:=j5.mp (h2 w os);obtain⟨v,f,x⟩:=j5.mp (h3 w os);rw[i] at g f;cases g;cases f;have r:=lK i;rw[show GK ⟨Zm w.params,11,(boot_heap w.params).life,#[],boot_drawn,boot_toks,os⟩=⟨boot_heap w.params,#[],boot_drawn,boot_toks,os⟩ from by unfold GK; rw[cR]] at r;have t:topFrom treeTable p w N ⟨boot_heap w.params,#[],boot_drawn,boot_toks,os⟩=G0 s.abs:=by
  unfold topFrom;dsimp only;rw[u,o,n,r];show(match staticsOk (importedModules p.main.body) (boot_heap w.params) s.abs.heap&&namesBound p s.abs.heap&&gensDone s.abs&&laidKept (boot_heap w.params) s.abs.heap with | true=>_ | false=>_)=_;rw[z]
 unfold openEnds;rw[e];show(topFrom treeTable p w N _).map _=_;rw[t];show G0 (_,_)=_;rw[y,x]
end PySem.W
namespace Sea
open PySem L2
def top(i:Nat):Stmt:=PySem.Challenge.pw_seamarks_k54_refusals_apart.main.body.getD i (.Pass ⟨0,0,0,0⟩)
abbrev uz:v4:=top 12
abbrev vh:v4:=top 37
abbrev wY:v4:=top 39
abbrev wT:v4:=top 40
abbrev sP:v4:=top 41
abbrev uH:v4:=top 66
abbrev sI:v4:=top 67
abbrev sG:v4:=top 68
abbrev qC:v4:=top 69
abbrev uU:v4:=top 70
abbrev uV:v4:=top 71
abbrev uB:v4:=top 72
abbrev vR:v4:=top 73
abbrev uO:v4:=top 74
abbrev uZ:v4:=top 75
abbrev wN:v4:=top 76
abbrev vV:v4:=top 77
abbrev uA:v4:=top 78
abbrev uT:v4:=top 79
abbrev uX:v4:=top 80
abbrev wM:v4:=top 81
abbrev uW:v4:=top 82
abbrev wX:v4:=top 83
abbrev vA:v4:=top 84
abbrev wQ:v4:=top 85
abbrev uR:v4:=top 86
abbrev xX:v4:=top 87
abbrev uC:v4:=top 88
abbrev wI:v4:=top 89
abbrev yp:v4:=top 91
abbrev vU:v4:=top 98
abbrev sL:v4:=top 99
abbrev wW:v4:=top 100
abbrev sJ:v4:=top 102
abbrev qG:v4:=top 103
abbrev va:v4:=top 104
abbrev wV:v4:=top 109
abbrev uS:v4:=top 110
abbrev vT:v4:=top 111
abbrev tG:v4:=top 113
abbrev yl:v4:=top 114
abbrev yx:v4:=top 115
abbrev yi:v4:=top 116
abbrev yz:v4:=top 117
abbrev qE:v4:=top 118
abbrev vS:v4:=top 119
abbrev ke:v4:=top 120
abbrev ve:v4:=xS (top 93) 0
abbrev vo:v4:=xS (top 93) 1
abbrev vw:v4:=xS (top 93) 2
abbrev qK:v4:=xS (top 93) 3
abbrev vg:v4:=xS (top 93) 4
abbrev yj:v4:=xS (top 93) 5
abbrev vn:v4:=xS (top 93) 6
abbrev yq:v4:=xS (top 93) 7
abbrev sM:v4:=xS (top 93) 8
abbrev uY:v4:=xS (top 93) 9
abbrev qI:v4:=xS (top 93) 10
abbrev uy:v4:=xS (top 93) 11
abbrev uw:v4:=xS (top 93) 12
abbrev vv:v4:=xS (top 93) 14
abbrev ux:v4:=xS (top 93) 20
abbrev qL:v4:=xS (top 93) 22
abbrev qB:v4:=xS (top 60) 0
noncomputable def qv:Program:={ PySem.Challenge.pw_seamarks_k54_refusals_apart with main:={ PySem.Challenge.pw_seamarks_k54_refusals_apart.main with body:=[top 12,top 37,top 39,top 40,top 41,top 66,top 67,top 68,top 69,top 70,top 71,top 72,top 73,top 74,top 75,top 76,top 77,top 78,top 79,top 80,top 81,top 82,top 83,top 84,top 85,top 86,top 87,top 88,top 89,top 91,top 98,top 99,top 100,top 102,top 103,top 104,top 109,top 110,top 111,top 113,top 114,top 115,top 116,top 117,top 118,top 119,top 120] } }
def lse:List c7:=("_wall" : c7)::("common_factor" : c7)::("lowest" : c7)::("upright" : c7)::("part" : c7)::("plus" : c7)::("spot" : c7)::("ahead" : c7)::("merged" : c7)::("in_order" : c7)::("along" : c7)::("plain" : c7)::("plain_side" : c7)::("beyond" : c7)::("holds" : c7)::("crossing" : c7)::("pushed" : c7)::("bearing_sides" : c7)::("range_side" : c7)::("in_water" : c7)::("foot" : c7)::("edge_end" : c7)::("edge_ends" : c7)::("spot_on_edge" : c7)::("sought" : c7)::("some_spot" : c7)::("corners" : c7)::("way_to" : c7)::("ring" : c7)::("is_way" : c7)::("ways" : c7)::("has_no_way" : c7)::("triangle" : c7)::("MarkError" : c7)::("BadName" : c7)::("Taken" : c7)::("BadPlace" : c7)::("Full" : c7)::("NoMark" : c7)::("Same" : c7)::("Needed" : c7)::("BadBank" : c7)::("NoBank" : c7)::("BadRun" : c7)::("NoRun" : c7)::("NoMoment" : c7)::("BadWay" : c7)::("BadTurn" : c7)::("NoNote" : c7)::("NothingLeft" : c7)::("BadRow" : c7)::("MOST" : c7)::("LONGEST_NAME" : c7)::("FARTHEST" : c7)::("LONGEST_WAY" : c7)::("AFTER" : c7)::("Book" : c7)::("FIGURES" : c7)::("MOST_FIGURES" : c7)::("FORMS" : c7)::("pairs_of" : c7)::("way_between" : c7)::("mark_places" : c7)::("sides_of" : c7)::[]
noncomputable def kd(P:Bq)(x:c7)(t:Nat)(v:b7):B7:=⟨CK P x,.str x t,v⟩
noncomputable def kc(l:List b7):Ad:=⟨.type "code",G2,.fields (l8 l),l8 []⟩
noncomputable def kq(x:c7)(a:Nat)(l g:Int)(r:Nat)(u v w y z:b7)(h:Int)(b:Nat):Ad:=kc [.str x a,.str x (a+1),.str "/claim/cut.py" (a+2),.int l 0,.int g 0,.int 0 0,.int 0 0,.int 3 0,.ref r,.bool G3,.int 181 0,u,v,w,y,z,.int h 0,.int l 0,.str "/claim/cut.py" b]
noncomputable abbrev kf(x:c7)(s:v4)(kV a b c ct:b7):Ad:=⟨.type "function",G2,.func (v7 x x (xV s) (xB s) (zH s) .none kV a b G2 c ct),l8 []⟩
noncomputable abbrev kg(x:c7)(s:v4)(m:c7)(t c:Nat):Ad:=kf x s .none .none (.str m t) (.ref c) .none
noncomputable abbrev kf2(x q:c7)(s:v4)(kV a b c ct:b7):Ad:=⟨.type "function",G2,.func (v7 x q (xV s) (xB s) (zH s) .none kV a b G2 c ct),l8 []⟩
noncomputable def kn(n:Nat)(o:Ad)(T:ac):ac:=(n,o)::T
noncomputable def kp(r a:Nat)(l g:Int)(h:Nat)(x:c7)(s:v4)(m:b7)(T:ac):ac:=(r+5,kq x a l g r (.ref (r+1)) .none (.ref (r+2)) (.ref (r+3)) (.ref (r+4)) h (h+1))::(r+6,kf x s .none .none m (.ref (r+5)) .none)::T
noncomputable def km(r a:Nat)(l g:Int)(h:Nat)(x q:c7)(s:v4)(m:b7)(T:ac):ac:=(r+5,kc [.str x a,.str q (a+1),.str "/claim/cut.py" (a+2),.int l 0,.int g 0,.int 0 0,.int 0 0,.int 3 0,.ref r,.bool G3,.int 181 0,.ref (r+1),.none,.ref (r+2),.ref (r+3),.ref (r+4),.int h 0,.int l 0,.str "/claim/cut.py" (h+1)])::(r+6,kf2 x q s .none .none m (.ref (r+5)) .none)::T
noncomputable def kx(n:Nat)(x:c7)(e a p:Nat)(T:ac):ac:=(n+1,⟨.type "type",G2,.cls ⟨x,[.ref p],[.ref (n+1),.ref p,.type "ValueError",.type "Exception",.type "BaseException",.type "object"],n,x,G3,[],[],G4,G2,G4⟩,l8 [G0 (.ref e),G2,G0 (.str x a),G0 (.str x (a+8)),G0 (.builtin "ValueError.__new__"),G0 (.bool G3)]⟩)::T
noncomputable def ky(P:Bq)(n a:Nat)(l:Int)(m:b7)(T:ac):ac:=(n+1,⟨.type "dict",G2,.dict (l8 [kd P "__module__" a m,kd P "__firstlineno__" (a+4) (.int l (a+3)),kd P "__static_attributes__" (a+5) (.ref n),kd P "__doc__" (a+6) .none]) 2,l8 []⟩)::T
noncomputable def kNs(P:Bq):Ad:=⟨.type "dict",G2,.dict (l8 (kd P "__name__" 165 (.str "law_seamarks_k54_refusals_apart" 1436)::kd P "__doc__" 166 .none::kd P "__package__" 167 .none::kd P "__loader__" 168 (.builtin "__main__.__loader__#opaque")::kd P "__spec__" 169 .none::kd P "__annotations__" 170 (.ref 6)::kd P "__builtins__" 171 (.ref 4)::kd P "__file__" 173 (.str "/claim/cut.py" 172)::kd P "__cached__" 174 .none::kd P "_wall" 193 (.ref 21)::kd P "common_factor" 206 (.ref 28)::kd P "lowest" 212 (.ref 33)::kd P "upright" 218 (.ref 38)::kd P "part" 226 (.ref 45)::kd P "plus" 234 (.ref 52)::kd P "spot" 243 (.ref 59)::kd P "ahead" 252 (.ref 66)::kd P "merged" 263 (.ref 73)::kd P "in_order" 271 (.ref 80)::kd P "turn" 281 (.ref 87)::kd P "along" 289 (.ref 94)::kd P "plain" 296 (.ref 101)::kd P "plain_side" 303 (.ref 108)::kd P "beyond" 311 (.ref 115)::kd P "holds" 319 (.ref 122)::kd P "crossing" 330 (.ref 129)::kd P "pushed" 339 (.ref 136)::kd P "bearing_sides" 350 (.ref 143)::kd P "range_side" 358 (.ref 150)::kd P "in_water" 369 (.ref 157)::kd P "foot" 376 (.ref 164)::kd P "edge_end" 389 (.ref 171)::kd P "edge_ends" 395 (.ref 176)::kd P "spot_on_edge" 404 (.ref 183)::kd P "sought" 413 (.ref 190)::kd P "some_spot" 420 (.ref 197)::kd P "corners" 430 (.ref 204)::kd P "way_to" 438 (.ref 211)::kd P "ring" 447 (.ref 218)::kd P "is_way" 456 (.ref 225)::kd P "ways" 466 (.ref 232)::kd P "has_no_way" 473 (.ref 239)::kd P "triangle" 483 (.ref 246)::kd P "area" 493 (.ref 253)::kd P "stretch_way" 503 (.ref 260)::kd P "all_left_of" 515 (.ref 267)::kd P "is_bank" 521 (.ref 272)::kd P "MarkError" 541 (.ref 282)::kd P "BadName" 557 (.ref 295)::kd P "Taken" 573 (.ref 307)::kd P "BadPlace" 589 (.ref 319)::kd P "Full" 605 (.ref 331)::kd P "NoMark" 621 (.ref 343)::kd P "Same" 637 (.ref 355)::kd P "Needed" 653 (.ref 367)::kd P "BadBank" 669 (.ref 379)::kd P "NoBank" 685 (.ref 391)::kd P "BadRun" 701 (.ref 403)::kd P "NoRun" 717 (.ref 415)::kd P "NoMoment" 733 (.ref 427)::kd P "BadWay" 749 (.ref 439)::kd P "BadTurn" 765 (.ref 451)::kd P "NoNote" 781 (.ref 463)::kd P "NothingLeft" 797 (.ref 475)::kd P "BadRow" 822 (.ref 494)::kd P "MOST" 837 (.ref 497)::kd P "LONGEST_NAME" 839 (.int 8 838)::kd P "FARTHEST" 841 (.int 1000 840)::kd P "LONGEST_WAY" 843 (.int 100 842)::kd P "nothing_yet" 849 (.ref 504)::kd P "changed" 860 (.ref 511)::kd P "without" 870 (.ref 518)::kd P "within" 876 (.ref 523)::kd P "check_name" 882 (.ref 528)::kd P "check_free" 891 (.ref 535)::kd P "check_place" 898 (.ref 542)::kd P "check_run" 905 (.ref 549)::kd P "check_room" 913 (.ref 556)::kd P "check_mark" 921 (.ref 563)::kd P "check_moment" 929 (.ref 570)::kd P "check_way" 936 (.ref 577)::kd P "check_apart" 945 (.ref 584)::kd P "after_mark" 955 (.ref 591)::kd P "after_move" 966 (.ref 598)::kd P "after_unmark" 976 (.ref 605)::kd P "after_bank" 987 (.ref 612)::kd P "after_level" 996 (.ref 619)::kd P "after_sail" 1005 (.ref 626)::kd P "after_right" 1015 (.ref 633)::kd P "after_note" 1024 (.ref 640)::kd P "after_bearing" 1032 (.ref 647)::kd P "after_range" 1040 (.ref 654)::kd P "after_strike" 1049 (.ref 661)::kd P "AFTER" 1070 (.ref 662)::kd P "after" 1078 (.ref 669)::kd P "Book" 1291 (.ref 836)::kd P "FIGURES" 1295 (.str "0123456789" 1294)::kd P "MOST_FIGURES" 1297 (.int 9 1296)::kd P "FORMS" 1325 (.ref 841)::kd P "is_number" 1331 (.ref 846)::kd P "form_of" 1338 (.ref 853)::kd P "read_values" 1348 (.ref 860)::kd P "pairs_of" 1354 (.ref 865)::kd P "deed_of" 1364 (.ref 872)::kd P "do_row" 1375 (.ref 879)::kd P "read" 1386 (.ref 886)::kd P "way_between" 1394 (.ref 891)::kd P "mark_places" 1403 (.ref 898)::kd P "sides_of" 1411 (.ref 905)::kd P "note_groups" 1417 (.ref 910)::kd P "note_sides" 1427 (.ref 917)::kd P "book_area" 1435 (.ref 924)::kd P "_law_refused" 1443 (.ref 929)::kd P "_law_power" 1450 (.ref 936)::kd P "_law_draws" 1462 (.ref 943)::kd P "_law_same" 1468 (.ref 948)::kd P "_law_first" 1478 (.ref 955)::kd P "_law_second" 1487 (.ref 962)::kd P "_law_raised_by" 1498 (.ref 969)::kd P "law" 1504 (.ref 974)::[])) 120,l8 []⟩
noncomputable abbrev mo1:b7:=.str "seamarks.sides" 272
noncomputable abbrev mo2:b7:=.str "seamarks.water" 359
noncomputable abbrev mo3:b7:=.str "seamarks.banks" 494
noncomputable abbrev mo4:b7:=.str "seamarks.errors" 522
noncomputable abbrev mo5:b7:=.str "seamarks.deeds" 823
noncomputable abbrev mo6:b7:=.str "seamarks.book" 1079
noncomputable abbrev mo7:b7:=.str "seamarks.rows" 1292
noncomputable abbrev mo8:b7:=.str "seamarks.asks" 1387
noncomputable abbrev mo9:b7:=.str "law_seamarks_k54_refusals_apart" 1436
noncomputable def KG(P:Bq):ac :=
 kn (nat_lit 281) ⟨.type "dict",G2,.dict (l8 (kd P "__module__" 531 (.str "seamarks.errors" 522)::kd P "__firstlineno__" 535 (.int 168 534)::kd P "__static_attributes__" 536 (.ref 280)::kd P "__weakref__" 538 (.ref 283)::kd P "__doc__" 539 .none::[])) 3,l8 []⟩ <|
 ky P 293 549 170 mo4 <|
 ky P 305 565 172 mo4 <|
 ky P 317 581 174 mo4 <|
 ky P 329 597 176 mo4 <|
 ky P 341 613 178 mo4 <|
 ky P 353 629 180 mo4 <|
 ky P 365 645 182 mo4 <|
 ky P 377 661 184 mo4 <|
 ky P 389 677 186 mo4 <|
 ky P 401 693 188 mo4 <|
 ky P 413 709 190 mo4 <|
 ky P 425 725 192 mo4 <|
 ky P 437 741 194 mo4 <|
 ky P 449 757 196 mo4 <|
 ky P 461 773 198 mo4 <|
 ky P 473 789 200 mo4 <|
 kn (nat_lit 493) ⟨.type "dict",G2,.dict (l8 (kd P "__module__" 805 (.str "seamarks.errors" 522)::kd P "__firstlineno__" 809 (.int 202 808)::kd P "__init__" 817 (.ref 491)::kd P "__static_attributes__" 819 (.ref 492)::kd P "__doc__" 820 .none::[])) 2,l8 []⟩ <|
 kn (nat_lit 497) ⟨.type "dict",G2,.dict (l8 (kd P "marks" 825 (.int 20 826)::kd P "banks" 827 (.int 8 828)::kd P "runs" 829 (.int 12 830)::kd P "notes" 831 (.int 24 832)::[])) 4,l8 []⟩ <|
 kn (nat_lit 662) ⟨.type "dict",G2,.dict (l8 (kd P "mark" 1050 (.ref 591)::kd P "move" 1051 (.ref 598)::kd P "unmark" 1052 (.ref 605)::kd P "bank" 1053 (.ref 612)::kd P "level" 1054 (.ref 619)::kd P "sail" 1055 (.ref 626)::kd P "right" 1056 (.ref 633)::kd P "bearing" 1057 (.ref 647)::kd P "range" 1058 (.ref 654)::kd P "strike" 1059 (.ref 661)::[])) 10,l8 []⟩ <|
 kn (nat_lit 835) ⟨.type "dict",G2,.dict (l8 (kd P "__module__" 1088 (.str "seamarks.book" 1079)::kd P "__firstlineno__" 1092 (.int 333 1091)::kd P "__init__" 1099 (.ref 683)::kd P "mark" 1109 (.ref 690)::kd P "move" 1119 (.ref 697)::kd P "unmark" 1127 (.ref 704)::kd P "bank" 1136 (.ref 711)::kd P "level" 1144 (.ref 718)::kd P "sail" 1153 (.ref 725)::kd P "right" 1163 (.ref 732)::kd P "bearing" 1174 (.ref 739)::kd P "range_note" 1184 (.ref 746)::kd P "strike" 1192 (.ref 753)::kd P "deed" 1202 (.ref 760)::kd P "step" 1212 (.ref 767)::kd P "undo" 1219 (.ref 774)::kd P "redo" 1226 (.ref 781)::kd P "deeds" 1233 (.ref 788)::kd P "undone" 1240 (.ref 795)::kd P "twin" 1247 (.ref 802)::kd P "marks" 1253 (.ref 807)::kd P "banks" 1260 (.ref 814)::kd P "runs" 1266 (.ref 819)::kd P "notes" 1273 (.ref 826)::kd P "coming" 1280 (.ref 833)::kd P "__static_attributes__" 1284 (.ref 834)::kd P "__dict__" 1286 (.ref 837)::kd P "__weakref__" 1288 (.ref 838)::kd P "__doc__" 1289 .none::[])) 4,l8 []⟩ <|
 kn (nat_lit 841) ⟨.type "dict",G2,.dict (l8 (kd P "mark" 1298 (.str "ann" 1299)::kd P "move" 1300 (.str "ann" 1301)::kd P "unmark" 1302 (.str "a" 1303)::kd P "level" 1304 (.str "a" 1305)::kd P "sail" 1306 (.str "nn" 1307)::kd P "right" 1308 (.str "nnn" 1309)::kd P "bearing" 1310 (.str "nannnn" 1311)::kd P "range" 1312 (.str "naa" 1313)::kd P "strike" 1314 (.str "n" 1315)::[])) 9,l8 []⟩ <| []
noncomputable abbrev KF(P:Bq):ac:=(nat_lit 3,kNs P)::KG P
noncomputable def KC:ac :=
 kp 81 274 47 2 279 "turn" uz mo1 <|
 kp 247 484 142 1 491 "area" vh mo2 <|
 kp 254 496 153 2 501 "stretch_way" wY mo3 <|
 kp 261 504 155 2 513 "all_left_of" wT mo3 <|
 kn (nat_lit 271) (kq "is_bank" 516 163 1 268 (.ref 269) .none .none .none (.ref 270) 519 520) <|
 kn (nat_lit 272) (kg "is_bank" sP "seamarks.banks" 494 271) <|
 kn (nat_lit 282) (@PySem.Obj.mk (.type "type") G2 (@PySem.Data.cls (@PySem.ClassData.mk "MarkError" ((.type "ValueError")::[]) ((.ref 282)::((.type "ValueError")::((.type "Exception")::((.type "BaseException")::((.type "object")::[]))))) 281 "MarkError" G3 [] ((.ref 295)::((.ref 307)::((.ref 319)::((.ref 331)::((.ref 343)::((.ref 355)::((.ref 367)::((.ref 379)::((.ref 391)::((.ref 403)::((.ref 415)::((.ref 427)::((.ref 439)::((.ref 451)::((.ref 463)::((.ref 475)::((.ref 494)::[]))))))))))))))))) G4 G2 G4)) (l8 ((G0 (.ref 273))::(G2::((G0 (.str "MarkError" 524))::((G0 (.str "MarkError" 532))::((G0 (.builtin "ValueError.__new__"))::((G0 (.bool G3))::[])))))))) <|
 kx 294 "BadName" 286 542 282 <|
 kx 306 "Taken" 298 558 282 <|
 kx 318 "BadPlace" 310 574 282 <|
 kx 330 "Full" 322 590 282 <|
 kx 342 "NoMark" 334 606 282 <|
 kx 354 "Same" 346 622 282 <|
 kx 366 "Needed" 358 638 282 <|
 kx 378 "BadBank" 370 654 282 <|
 kx 390 "NoBank" 382 670 282 <|
 kx 402 "BadRun" 394 686 282 <|
 kx 414 "NoRun" 406 702 282 <|
 kx 426 "NoMoment" 418 718 282 <|
 kx 438 "BadWay" 430 734 282 <|
 kx 450 "BadTurn" 442 750 282 <|
 kx 462 "NoNote" 454 766 282 <|
 kx 474 "NothingLeft" 466 782 282 <|
 km 485 810 204 2 815 "__init__" "BadRow.__init__" qB mo4 <|
 kx 493 "BadRow" 478 798 282 <|
 kp 498 844 212 0 847 "nothing_yet" uH mo5 <|
 kp 505 850 214 4 858 "changed" sI mo5 <|
 kp 512 861 219 3 868 "without" sG mo5 <|
 kn (nat_lit 522) (kq "within" 871 224 2 519 (.ref 520) .none .none .none (.ref 521) 874 875) <|
 kn (nat_lit 523) (kg "within" qC "seamarks.deeds" 823 522) <|
 kn (nat_lit 527) (kq "check_name" 877 226 1 524 (.ref 525) .none .none .none (.ref 526) 880 881) <|
 kn (nat_lit 528) (kg "check_name" uU "seamarks.deeds" 823 527) <|
 kp 529 883 229 3 889 "check_free" uV mo5 <|
 kp 536 892 232 1 896 "check_place" uB mo5 <|
 kp 543 899 235 1 903 "check_run" vR mo5 <|
 kp 550 906 238 2 911 "check_room" uO mo5 <|
 kp 557 914 241 2 919 "check_mark" uZ mo5 <|
 kp 564 922 244 2 927 "check_moment" wN mo5 <|
 kp 571 930 247 1 934 "check_way" vV mo5 <|
 kp 578 937 250 3 943 "check_apart" uA mo5 <|
 kp 585 946 253 2 953 "after_mark" uT mo5 <|
 kp 592 956 261 2 964 "after_move" uX mo5 <|
 kp 599 967 270 2 974 "after_unmark" wM mo5 <|
 kp 606 977 277 2 985 "after_bank" uW mo5 <|
 kp 613 988 288 2 994 "after_level" wX mo5 <|
 kp 620 997 293 2 1003 "after_sail" vA mo5 <|
 kp 627 1006 298 2 1013 "after_right" wQ mo5 <|
 kp 634 1016 305 2 1022 "after_note" uR mo5 <|
 kp 641 1025 310 2 1030 "after_bearing" xX mo5 <|
 kp 648 1033 318 2 1038 "after_range" uC mo5 <|
 kp 655 1041 324 2 1047 "after_strike" wI mo5 <|
 kp 663 1071 330 2 1076 "after" yp mo5 <|
 km 677 1093 335 1 1097 "__init__" "Book.__init__" ve mo6 <|
 km 684 1100 340 4 1107 "mark" "Book.mark" vo mo6 <|
 km 691 1110 343 4 1117 "move" "Book.move" vw mo6 <|
 km 698 1120 346 2 1125 "unmark" "Book.unmark" qK mo6 <|
 km 705 1128 349 3 1134 "bank" "Book.bank" vg mo6 <|
 km 712 1137 352 2 1142 "level" "Book.level" yj mo6 <|
 km 719 1145 355 3 1151 "sail" "Book.sail" vn mo6 <|
 km 726 1154 358 4 1161 "right" "Book.right" yq mo6 <|
 km 733 1164 361 5 1172 "bearing" "Book.bearing" sM mo6 <|
 km 740 1175 364 4 1182 "range_note" "Book.range_note" uY mo6 <|
 km 747 1185 367 2 1190 "strike" "Book.strike" qI mo6 <|
 km 754 1193 370 2 1200 "deed" "Book.deed" uy mo6 <|
 km 761 1203 378 3 1210 "step" "Book.step" uw mo6 <|
 km 775 1220 387 1 1224 "redo" "Book.redo" vv mo6 <|
 kn (nat_lit 818) (kc ((.str "runs" 1261)::((.str "Book.runs" 1262)::((.str "/claim/cut.py" 1263)::((.int 408 0)::((.int 1 0)::((.int 0 0)::((.int 0 0)::((.int 3 0)::((.ref 815)::((.bool G3)::((.int 181 0)::((.ref 816)::(.none::(.none::(.none::((.ref 817)::((.int 1264 0)::((.int 408 0)::((.str "/claim/cut.py" 1265)::[])))))))))))))))))))) <|
 kn (nat_lit 819) (kf2 "runs" "Book.runs" ux .none .none (.str "seamarks.book" 1079) (.ref 818) .none) <|
 km 827 1274 415 1 1278 "coming" "Book.coming" qL mo6 <|
 kn (nat_lit 836) (@PySem.Obj.mk (.type "type") G2 (@PySem.Data.cls (@PySem.ClassData.mk "Book" ((.type "object")::[]) ((.ref 836)::((.type "object")::[])) 835 "Book" G3 [] [] G4 G2 G4)) (l8 (G2::(G2::((G0 (.str "Book" 1081))::((G0 (.str "Book" 1089))::((G0 (.builtin "object.__new__"))::((G0 (.bool G3))::[])))))))) <|
 kn (nat_lit 845) (kq "is_number" 1326 421 1 842 (.ref 843) .none .none .none (.ref 844) 1329 1330) <|
 kn (nat_lit 846) (kg "is_number" vU "seamarks.rows" 1292 845) <|
 kp 847 1332 428 1 1336 "form_of" sL mo7 <|
 kp 854 1339 432 2 1346 "read_values" wW mo7 <|
 kp 866 1355 446 1 1362 "deed_of" sJ mo7 <|
 kp 873 1365 459 3 1373 "do_row" qG mo7 <|
 kp 880 1376 467 1 1384 "read" va mo7 <|
 kn (nat_lit 909) (kq "note_groups" 1412 493 2 906 (.ref 907) .none .none .none (.ref 908) 1415 1416) <|
 kn (nat_lit 910) (kg "note_groups" wV "seamarks.asks" 1387 909) <|
 kp 911 1418 502 2 1425 "note_sides" uS mo8 <|
 kp 918 1428 507 2 1433 "book_area" vT mo8 <|
 kn (nat_lit 928) (kq "_law_refused" 1438 510 1 925 (.ref 926) .none .none .none (.ref 927) 1441 1442) <|
 kn (nat_lit 929) (kg "_law_refused" tG "law_seamarks_k54_refusals_apart" 1436 928) <|
 kp 930 1444 520 1 1448 "_law_power" yl mo9 <|
 kp 937 1451 522 2 1460 "_law_draws" yx mo9 <|
 kn (nat_lit 947) (kq "_law_same" 1463 538 2 944 (.ref 945) .none .none .none (.ref 946) 1466 1467) <|
 kn (nat_lit 948) (kg "_law_same" yi "law_seamarks_k54_refusals_apart" 1436 947) <|
 kp 949 1469 546 3 1476 "_law_first" yz mo9 <|
 kp 956 1479 566 3 1485 "_law_second" qE mo9 <|
 kp 963 1488 583 2 1496 "_law_raised_by" vS mo9 <|
 kn (nat_lit 973) (kq "law" 1499 594 1 970 (.ref 971) .none .none .none (.ref 972) 1502 1503) <|
 kn (nat_lit 974) (kg "law" ke "law_seamarks_k54_refusals_apart" 1436 973) <|
 kn (nat_lit 2) (@PySem.Obj.mk .none G2 (@PySem.Data.dict (l8 []) 0) (l8 [])) <| []
noncomputable def KK(P:Bq):ac:=(nat_lit 3,kNs P)::(KG P++KC)
noncomputable def K:ac:=Classical.choose (⟨KC,rfl⟩:∃ k,k=KC)
def fh:K=KC:=Classical.choose_spec (⟨KC,rfl⟩:∃ k,k=KC)
noncomputable def kas:List Nat:=nat_lit 3::nat_lit 281::nat_lit 294::nat_lit 306::nat_lit 318::nat_lit 330::nat_lit 342::nat_lit 354::nat_lit 366::nat_lit 378::nat_lit 390::nat_lit 402::nat_lit 414::nat_lit 426::nat_lit 438::nat_lit 450::nat_lit 462::nat_lit 474::nat_lit 493::nat_lit 497::nat_lit 662::nat_lit 835::nat_lit 841::KC.map (·.1)
def kas_ok:∀ P:Bq,kas=(KK P).map (·.1):=λ_=>by kernel_rfl
def ZJ{a b:Bool}(h:a=G3)(k:b=G3):(a&&b)=true:=by rw[h,k]; rfl
set_option maxHeartbeats 0 in
open PySem.W in
def said_ok:PySem.Challenge.rw_seamarks_k54_refusals_apart.wellSaid=true:=by
 unfold OpenLaw.wellSaid
 repeat' first | with_reducible apply ZJ | unfold OpenRow.wellSaid | unfold OpenRow.partSaid | unfold looksOpen
 all_goals decide +kernel
open PySem.W in
noncomputable abbrev lkM:=Fast.tw5923862056798008813 (Fast.tw2368527892694137696 PySem.Challenge.rw_seamarks_k54_refusals_apart).prog.main.body
open PySem.W in
noncomputable abbrev lkT(w:World)(os:OsState):=XN Fast.tw14364793385576792824 (Fast.tw2368527892694137696 PySem.Challenge.rw_seamarks_k54_refusals_apart).prog 90000 w os
open PySem.W in
noncomputable abbrev lkS(s:SharedT):=Fast.tw4187177175401517315 qv lse lkM (λs=>xlAt qv [] s&&recOk (Fast.tw2368527892694137696 PySem.Challenge.rw_seamarks_k54_refusals_apart).records s) G3 s.abs
set_option maxHeartbeats 0 in
open PySem.W in
def Zg(u:World)(os:OsState):(lkT (u.withFollow "special-get-raises" G3) os).map (λs=>((lkS s).1,(staticsOk lkM (boot_heap (u.withFollow "special-get-raises" G3).params) s.abs.heap&&namesBound (Fast.tw2368527892694137696 PySem.Challenge.rw_seamarks_k54_refusals_apart).prog s.abs.heap&&gensDone s.abs&&laidKept (boot_heap (u.withFollow "special-get-raises" G3).params) s.abs.heap),(lkS s).2.1))=G0 (((PyProof.Rows.expectedOf qv)),(G3),(bltViewBooted)):=by kernel_rfl
set_option maxHeartbeats 0 in
open PySem.W in
def Zj(u:World)(os:OsState):(lkT (u.withFollow "special-get-raises" G4) os).map (λs=>((lkS s).1,(staticsOk lkM (boot_heap (u.withFollow "special-get-raises" G4).params) s.abs.heap&&namesBound (Fast.tw2368527892694137696 PySem.Challenge.rw_seamarks_k54_refusals_apart).prog s.abs.heap&&gensDone s.abs&&laidKept (boot_heap (u.withFollow "special-get-raises" G4).params) s.abs.heap),(lkS s).2.1))=G0 (((PyProof.Rows.expectedOf qv)),(G3),(bltViewBooted)):=by kernel_rfl
set_option maxHeartbeats 0 in
open PySem.W in
def eJ(w:World)(os:OsState):(lkT w os).map (λs=>((lkS s).1,(staticsOk lkM (boot_heap w.params) s.abs.heap&&namesBound (Fast.tw2368527892694137696 PySem.Challenge.rw_seamarks_k54_refusals_apart).prog s.abs.heap&&gensDone s.abs&&laidKept (boot_heap w.params) s.abs.heap),(lkS s).2.1))=G0 (((PyProof.Rows.expectedOf qv)),(G3),(bltViewBooted)):=by
 have h:∀(b:Bool)(u:World),(λw:World=>(lkT w os).map (λs=>((lkS s).1,(staticsOk lkM (boot_heap w.params) s.abs.heap&&namesBound (Fast.tw2368527892694137696 PySem.Challenge.rw_seamarks_k54_refusals_apart).prog s.abs.heap&&gensDone s.abs&&laidKept (boot_heap w.params) s.abs.heap),(lkS s).2.1))=G0 (((PyProof.Rows.expectedOf qv)),(G3),(bltViewBooted))) (u.withFollow "special-get-raises" b):=λb u=>by cases b; rwa[Zj u os]; rwa[Zg u os]
 have:=h (w.params.followText "special-get-raises") w;(rw[By] at this;assumption)
set_option maxHeartbeats 0 in
open PySem.W in
def ay(u:i5)(os:BA):(lkT (u.withFollow "special-get-raises" G3) os).map (λs=>(kas.map s.abs.heap.get?,(lkS s).2.2.1))=G0 ((((KK (u.withFollow "special-get-raises" G3).params).map λp=>G0 p.2)),(G3)):=by kernel_rfl
set_option maxHeartbeats 0 in
open PySem.W in
def aK(u:i5)(os:BA):(lkT (u.withFollow "special-get-raises" G4) os).map (λs=>(kas.map s.abs.heap.get?,(lkS s).2.2.1))=G0 ((((KK (u.withFollow "special-get-raises" G4).params).map λp=>G0 p.2)),(G3)):=by kernel_rfl
set_option maxHeartbeats 0 in
open PySem.W in
def bF(w:i5)(os:BA):(lkT w os).map (λs=>(kas.map s.abs.heap.get?,(lkS s).2.2.1))=G0 ((((KK w.params).map λp=>G0 p.2)),(G3)):=by
 have h:∀(b:Bool)(u:i5),(λw:i5=>(lkT w os).map (λs=>(kas.map s.abs.heap.get?,(lkS s).2.2.1))=G0 ((((KK w.params).map λp=>G0 p.2)),(G3))) (u.withFollow "special-get-raises" b):=λb u=>by cases b; rwa[aK u os]; rwa[ay u os]
 have:=h (w.params.followText "special-get-raises") w;(rw[By] at this;assumption)
set_option maxHeartbeats 0 in
open PySem.W in
def Zd(u:i5)(os:BA):(lkT (u.withFollow "special-get-raises" G3) os).map (λs=>((lkS s).2.2.2.1,(lkS s).2.2.2.2.1,(lkS s).2.2.2.2.2.1))=G0 (G3,pinGoodD (BF qv),Bi qv (looseW qv lse)):=by kernel_rfl
set_option maxHeartbeats 0 in
open PySem.W in
def Zh(u:i5)(os:BA):(lkT (u.withFollow "special-get-raises" G4) os).map (λs=>((lkS s).2.2.2.1,(lkS s).2.2.2.2.1,(lkS s).2.2.2.2.2.1))=G0 (G3,pinGoodD (BF qv),Bi qv (looseW qv lse)):=by kernel_rfl
set_option maxHeartbeats 0 in
open PySem.W in
def ZS(w:i5)(os:BA):(lkT w os).map (λs=>((lkS s).2.2.2.1,(lkS s).2.2.2.2.1,(lkS s).2.2.2.2.2.1))=G0 (G3,pinGoodD (BF qv),Bi qv (looseW qv lse)):=by
 have h:∀(b:Bool)(u:i5),(λw:i5=>(lkT w os).map (λs=>((lkS s).2.2.2.1,(lkS s).2.2.2.2.1,(lkS s).2.2.2.2.2.1))=G0 (G3,pinGoodD (BF qv),Bi qv (looseW qv lse))) (u.withFollow "special-get-raises" b):=λb u=>by cases b; rwa[Zh u os]; rwa[Zd u os]
 have:=h (w.params.followText "special-get-raises") w;(rw[By] at this;assumption)
set_option maxHeartbeats 0 in
open PySem.W in
def aA(u:i5)(os:BA):(lkT (u.withFollow "special-get-raises" G3) os).map (λs=>(lkS s).2.2.2.2.2.2)=G0 (Bj qv lse,wideGood qv,clsGoodW qv lse):=by kernel_rfl
set_option maxHeartbeats 0 in
open PySem.W in
def Zp(u:i5)(os:BA):(lkT (u.withFollow "special-get-raises" G4) os).map (λs=>(lkS s).2.2.2.2.2.2)=G0 (Bj qv lse,wideGood qv,clsGoodW qv lse):=by kernel_rfl
set_option maxHeartbeats 0 in
open PySem.W in
def YF(w:i5)(os:BA):(lkT w os).map (λs=>(lkS s).2.2.2.2.2.2)=G0 (Bj qv lse,wideGood qv,clsGoodW qv lse):=by
 have h:∀(b:Bool)(u:i5),(λw:i5=>(lkT w os).map (λs=>(lkS s).2.2.2.2.2.2)=G0 (Bj qv lse,wideGood qv,clsGoodW qv lse)) (u.withFollow "special-get-raises" b):=λb u=>by cases b; rwa[Zp u os]; rwa[aA u os]
 have:=h (w.params.followText "special-get-raises") w;(rw[By] at this;assumption)
set_option maxHeartbeats 0 in
open PySem.W in
def ZR(w:i5)(os:BA):(lkT w os).map (λs=>(lkS s).1)=G0 (Gu qv):=ui (eJ w os) (λp=>p.1)
set_option maxHeartbeats 0 in
open PySem.W in
def Xv(w:World)(os:OsState):(lkT w os).map (λs=>(staticsOk lkM (boot_heap w.params) s.abs.heap&&namesBound (Fast.tw2368527892694137696 PySem.Challenge.rw_seamarks_k54_refusals_apart).prog s.abs.heap&&gensDone s.abs&&laidKept (boot_heap w.params) s.abs.heap))=G0 true:=ui (eJ w os) (λp=>p.2.1)
set_option maxHeartbeats 0 in
open PySem.W in
def Xj(w:i5)(os:BA):(lkT w os).map (λs=>(lkS s).2.1)=G0 bltViewBooted:=ui (eJ w os) (λp=>p.2.2)
set_option maxHeartbeats 0 in
open PySem.W in
def YA(w:i5)(os:BA):(lkT w os).map (λs=>kas.map s.abs.heap.get?)=G0 ((KK w.params).map λp=>G0 p.2):=ui (bF w os) (λp=>p.1)
set_option maxHeartbeats 0 in
open PySem.W in
def YM(w:i5)(os:BA):(lkT w os).map (λs=>(lkS s).2.2.1)=G0 true:=ui (bF w os) (λp=>p.2)
set_option maxHeartbeats 0 in
open PySem.W in
def left_ok:LeftO PySem.Challenge.rw_seamarks_k54_refusals_apart.row.prog qv lse (λs=>xlAt qv [] s&&recOk (RowW.records (OpenRow.toRowW PySem.Challenge.rw_seamarks_k54_refusals_apart.row)) s)
  (λs=>kas.map s.heap.get?) (λw=>(KK w.params).map λp=>G0 p.2) 90000:=by
 erw[eB (boot_open (by kernel_rfl) (by decide) (λs=>by kernel_rfl)) ?a ?b ?c]
 case a =>
  rw[CL,BG,BB];rwa[Xv]
 case b =>
  rw[Fast.te4187177175401517315,CL,BG,BB];rwa[λw os=>oF (f:=lkS) (ZR w os) (oF (f:=λs=>(lkS s).2) (Xj w os) (oF (f:=λs=>(lkS s).2.2) (YM w os) (cQ (f:=λs=>(lkS s).2.2.2) (ZS w os) (YF w os))))]
 case c =>
  rw[BG,BB];rwa[YA]
end Sea
-- BASE
open PySem PySem.Spec L2
open PyProof.Rows hiding St
local macro_rules | `(tactic| symm) => `(tactic| kernel_rfl)
local macro_rules | `(tactic| ac_nf) => `(tactic| decide +kernel)
def y3{c:Prop}{d:Decidable c}(h:¬c){e:Sort _}{a b:e}:ite c a b=b:=if_neg h
def y4{c:Prop}{d:Decidable c}(h:c){e:Sort _}{a b:e}:ite c a b=a:=if_pos h
def y6{p:Prop}[Decidable p](h:p):decide p=true:=decide_eq_true h
def y7{p:Prop}[Decidable p](h:¬p):decide p=false:=decide_eq_false h
def y8{a b:Prop}(h:a)(n:¬a):b:=absurd h n
def y9{c:Type _}[BEq c][LawfulBEq c]{a b:c}:(a==b)=G4↔a≠b:=beq_eq_false_iff_ne
namespace L2
inductive E2{α0 α1:Type}(P:α0->α1->Prop):Prop where
 | mk (a0:α0) (a1:α1) (h:P a0 a1):E2 P
inductive E3{α0 α1 α2:Type}(P:α0->α1->α2->Prop):Prop where
 | mk (a0:α0) (a1:α1) (a2:α2) (h:P a0 a1 a2):E3 P
inductive E4{α0 α1 α2 α3:Type}(P:α0->α1->α2->α3->Prop):Prop where
 | mk (a0:α0) (a1:α1) (a2:α2) (a3:α3) (h:P a0 a1 a2 a3):E4 P
inductive E5{α0 α1 α2 α3 α4:Type}(P:α0->α1->α2->α3->α4->Prop):Prop where
 | mk (a0:α0) (a1:α1) (a2:α2) (a3:α3) (a4:α4) (h:P a0 a1 a2 a3 a4):E5 P
inductive E6{α0 α1 α2 α3 α4 α5:Type}(P:α0->α1->α2->α3->α4->α5->Prop):Prop where
 | mk (a0:α0) (a1:α1) (a2:α2) (a3:α3) (a4:α4) (a5:α5) (h:P a0 a1 a2 a3 a4 a5):E6 P
inductive E7{α0 α1 α2 α3 α4 α5 α6:Type}(P:α0->α1->α2->α3->α4->α5->α6->Prop):Prop where
 | mk (a0:α0) (a1:α1) (a2:α2) (a3:α3) (a4:α4) (a5:α5) (a6:α6) (h:P a0 a1 a2 a3 a4 a5 a6):E7 P
inductive E8{α0 α1 α2 α3 α4 α5 α6 α7:Type}(P:α0->α1->α2->α3->α4->α5->α6->α7->Prop):Prop where
 | mk (a0:α0) (a1:α1) (a2:α2) (a3:α3) (a4:α4) (a5:α5) (a6:α6) (a7:α7) (h:P a0 a1 a2 a3 a4 a5 a6 a7):E8 P
inductive E10{α0 α1 α2 α3 α4 α5 α6 α7 α8 α9:Type}(P:α0->α1->α2->α3->α4->α5->α6->α7->α8->α9->Prop):Prop where
 | mk (a0:α0) (a1:α1) (a2:α2) (a3:α3) (a4:α4) (a5:α5) (a6:α6) (a7:α7) (a8:α8) (a9:α9) (h:P a0 a1 a2 a3 a4 a5 a6 a7 a8 a9):E10 P
inductive E12{α0 α1 α2 α3 α4 α5 α6 α7 α8 α9 α10 α11:Type}(P:α0->α1->α2->α3->α4->α5->α6->α7->α8->α9->α10->α11->Prop):Prop where
 | mk (a0:α0) (a1:α1) (a2:α2) (a3:α3) (a4:α4) (a5:α5) (a6:α6) (a7:α7) (a8:α8) (a9:α9) (a10:α10) (a11:α11) (h:P a0 a1 a2 a3 a4 a5 a6 a7 a8 a9 a10 a11):E12 P
structure A3(p0 p1 p2:Prop):Prop where
 mk ::
 h0:p0
 h1:p1
 h2:p2
structure A4(p0 p1 p2 p3:Prop):Prop where
 mk ::
 h0:p0
 h1:p1
 h2:p2
 h3:p3
structure A5(p0 p1 p2 p3 p4:Prop):Prop where
 mk ::
 h0:p0
 h1:p1
 h2:p2
 h3:p3
 h4:p4
structure A6(p0 p1 p2 p3 p4 p5:Prop):Prop where
 mk ::
 h0:p0
 h1:p1
 h2:p2
 h3:p3
 h4:p4
 h5:p5
structure A7(p0 p1 p2 p3 p4 p5 p6:Prop):Prop where
 mk ::
 h0:p0
 h1:p1
 h2:p2
 h3:p3
 h4:p4
 h5:p5
 h6:p6
structure A8(p0 p1 p2 p3 p4 p5 p6 p7:Prop):Prop where
 mk ::
 h0:p0
 h1:p1
 h2:p2
 h3:p3
 h4:p4
 h5:p5
 h6:p6
 h7:p7
structure A10(p0 p1 p2 p3 p4 p5 p6 p7 p8 p9:Prop):Prop where
 mk ::
 h0:p0
 h1:p1
 h2:p2
 h3:p3
 h4:p4
 h5:p5
 h6:p6
 h7:p7
 h8:p8
 h9:p9

abbrev Key:=Sum Int c7
def ik:Key->b7->Bool
 | .inl k,v=>GL k v
 | .inr x,v=>F9 x v
def keyH(w:i5):Key->Int
 | .inl k=>hashInt k
 | .inr x=>hashStr w x
def xI:∀{k:Key}{v:b7},ik k v=G3->(∃ i t,k=Bf i/\v=BN i t)\/(∃ x t,k=Bg x/\v=AO x t)
 | .inl i,v,h=>by
  obtain⟨t,e⟩:=Value.isInt_shape (k:=i) (v:=v) h;rwa[.inl ⟨i,t,rfl,e⟩]
 | .inr x,v,h=>by
  obtain⟨t,e⟩:=Value.isStrOf_shape (x:=x) (v:=v) h;rwa[.inr ⟨x,t,rfl,e⟩]
def ff(i:Int)(t:GU):ik (.inl i) (.int i t)=true:=by simp[ik,GL]
def gA(x:c7)(t:GU):ik (.inr x) (.str x t)=true:=by simp[ik,F9]
def Xg(a b:Int):decide ((Bf a:Key)=Bf b)=(a == b):=by
 by_cases e:a=b
 ·subst e; simp
 ·have h:¬ (Bf a:Key)=Bf b:=λq=>e (Sum.inl.inj q);rw[y7 h];exact(y9.mpr e).symm
def Yl(a b:c7):decide ((Bg a:Key)=Bg b)=decide (a=b):=by
 by_cases e:a=b
 ·subst e; simp
 ·have h:¬ (Bg a:Key)=Bg b:=λq=>e (Fs q);rw[y7 h,y7 e]
def Yn(a:Int)(b:c7):decide ((Bf a:Key)=Bg b)=false:=y7 (λq=>nomatch q)
def Yv(a:c7)(b:Int):decide ((Bg a:Key)=Bf b)=false:=y7 (λq=>nomatch q)

def yN(prog:e9)(w:i5):PySem.KeyKind prog w Key where
 is:=ik
 hash:=keyH w
 inj:=λv a b g d=>by
  rcases xI g with ⟨i,t,rfl,rfl⟩ | ⟨x,t,rfl,rfl⟩
  ·rcases xI d with ⟨j,u,rfl,e⟩ | ⟨y,u,rfl,e⟩
   ·injection e with e1 _; rw[e1]
   ·exact nomatch e
  ·rcases xI d with ⟨j,u,rfl,e⟩ | ⟨y,u,rfl,e⟩
   ·exact nomatch e
   ·injection e with e1 _; rw[e1]
 byValue:=λk v h=>by
  rcases xI h with ⟨i,t,rfl,rfl⟩ | ⟨x,t,rfl,rfl⟩ <;> rfl
 pyHash:=λc h=>by
  rcases xI c with ⟨i,t,rfl,rfl⟩ | ⟨x,t,rfl,rfl⟩
  ·rwa[wpAny_pyHash_int h]
  ·rwa[wpAny_pyHash_str h]
 eqBool:=λf c h=>by
  rcases xI f with ⟨i,t,rfl,rfl⟩ | ⟨x,t,rfl,rfl⟩
  ·rcases xI c with ⟨j,u,rfl,rfl⟩ | ⟨y,u,rfl,rfl⟩
   ·rw[Xg] at h; rwa[wpAny_eqBool_int h]
   ·rw[Yn] at h; rwa[SeqAt.EqAt.int_str i t y u _ _ _ _ h]
  ·rcases xI c with ⟨j,u,rfl,rfl⟩ | ⟨y,u,rfl,rfl⟩
   ·rw[Yv] at h; rwa[SeqAt.EqAt.str_int x t j u _ _ _ _ h]
   ·rw[Yl] at h; rwa[wpAny_eqBool_str h]
 «strs»:=λk x t v h=>by
  rcases xI h with ⟨i,u,rfl,e⟩ | ⟨y,u,rfl,e⟩
  ·exact nomatch e
  ·injection e with e1 _
   subst e1;cases v <;> rfl

def kA(prog:e9)(w:i5)(i:Int)(t:GU):(yN prog w).is (.inl i) (.int i t)=true:=ff i t
def zz(prog:e9)(w:i5)(x:c7)(t:GU):(yN prog w).is (.inr x) (.str x t)=true:=gA x t
end L2

namespace L2

inductive V where
 | non | bl (b:Bool) | int (i:Int) | str (x:c7) | byt (b:Array UInt8) | flt (b:UInt64) | ref (a:b6) | ty (n:String)
 deriving DecidableEq

def xN:V->b7->Prop
 | .non,u=>u=v3
 | .bl b,u=>u=Dx b
 | .int i,u=>∃ t,u=BN i t
 | .str x,u=>∃ t,u=AO x t
 | .byt b,u=>∃ t,u=Ft b t
 | .flt b,u=>∃ t,u=D4 b t
 | .ref a,u=>u=e8 a
 | .ty n,u=>u=FK n

abbrev xD:List V->List b7->Prop:=Fc xN
def xD.length(r:xD a b):a.length=b.length:=Eu r
def xD.get:∀{a:List V}{b:List b7}{i:Nat}{x:V},xD a b->a[i]?=G0 x->∃ u,b[i]?=G0 u/\xN x u
 | _,_,_,_,.nil,e=>by simp at e
 | _,_,0,_,.cons r _,e=>by simp at e; subst e; rwa[_,U,r]
 | _,_,i+1,x,.cons _ t,e=>by
  obtain⟨u,h1,h2⟩:=xD.get (i:=i) (x:=x) t (by simpa using e);exact⟨u,by simpa using h1,h2⟩
def xD.append:∀{b a:List V}{d c:List b7},xD b d->xD a c->xD (b++a) (d++c)
 | _,_,_,_,.nil,s=>s
 | _,_,_,_,.cons r t,s=>.cons r (xD.append t s)
def xD.take:∀{a:List V}{b:List b7}(n:Nat),xD a b->xD (a.take n) (b.take n)
 | _,_,0,_=>.nil
 | _,_,_+1,.nil=>.nil
 | _,_,n+1,.cons r t=>.cons r (xD.take n t)
def xD.drop:∀{a:List V}{b:List b7}(n:Nat),xD a b->xD (a.drop n) (b.drop n)
 | _,_,0,r=>r
 | _,_,_+1,.nil=>.nil
 | _,_,n+1,.cons _ t=>xD.drop n t
def uu:Option V->Option b7->Prop
 | some v,G0 u=>xN v u
 | none,G2=>True
 | _,_=>False
def KV{a:Type} : List (a×V)->List (a×b7)->Prop:=Fc λ(p:a×V) (q:a×b7)=>p.1=q.1/\xN p.2 q.2

def kV:Key->V
 | .inl i=>.int i
 | .inr x=>.str x

inductive HO where
 | lst (xs:List V)
 | tup (xs:List V)
 | dK (kvs:List (Key×V)) | dT (kvs:List (List Key×V))
 | set (S:Int->Bool) (n:Nat)
 | ins (C dx:b6) (fs:List (c7×V))
 | own (x:b6)
 | xd (fs:List (c7×V))
 | met (f x:b6)
 | rng (lo hi:Int)
 | frz (o:Ad) (u:HO)
 | tbl (ps:Array b7)
 | ext (φ:j3->Prop)

abbrev Hp:=b6->Option HO
def upd(H:Hp)(a:b6)(o:HO):Hp:=λb=>if b=a then G0 o else H b
def zB{H:Hp}{a:b6}{o:HO} : upd H a o a=G0 o:=by unfold upd; rw[y4 rfl]
def zL{H:Hp}{a b:b6}{o:HO}(h:b≠a):upd H a o b=H b:=by unfold upd; rw[y3 h]
def ow{H:Hp}(h:H a=G0 o)(c:H b=G0 u)(d:o≠u):a≠b:=by
 intro e; subst e; rw[h] at c; rwa[d (o0 c)]
def zM{H:Hp}(h:H a=G0 o)(c:H b=G2):a≠b:=by
 intro e; subst e; rw[h] at c; cases c

section
variable(P:e9)(w:i5)
def yU(H:Hp)(h:j3)(a:b6):HO->Prop
 | .lst d=>d.length<=sizeLine/\∃(c:List b7)(n:Nat),xD d c/\h.get? a=G0 { cls:=.type "list",data:=.seq c.toArray n }
 | .tup d=>d.length<=sizeLine/\∃ c:List b7,xD d c/\Gv h a c.toArray
 | .dK b=>b.length<=sizeLine/\(a == sysModules)=G4/\∃ j,KV b j/\h.DictOf (yN P w) a j
 | .dT b=>b.length<=sizeLine/\(a == sysModules)=G4/\∃ d:List (List Key×b6×b7),
   Fc (λ(p:List Key×V) (q:List Key×b6×b7)=>p.1=q.1/\H q.2.1=G0 (.tup (p.1.map kV))/\xN p.2 q.2.2) b d /\
   ∃ o l r,h.get? a=G0 o/\o.ExactDict/\o.data=.dict l r/\l.toList=d.map (entryOfKey (tupleKind (yN P w)))/\(d.map (·.1)).Nodup
 | .set S n=>h.SetOf (intKind P w) a S n
 | .ins C g fs=>H g=G0 (.own a)/\fs.length<=1000/\g≠a/\h.get? a=G0 (AH C g) /\
   ∃ e,h.Ns1 g e/\(∀ f,uu (fs.lookup f) (e f))/\EJ e (fs.map (·.1))
 | .own _=>∃ o,h.get? a=G0 o
 | .xd fs=>∃ e,h.Ns1 a e/\∀ f,uu (fs.lookup f) (e f)
 | .rng lo hi=>∃ t u v,h.get? a=G0 { cls:=.type "range",data:=.fields #[.int lo t,.int hi u,.int 1 v] }
 | .frz o u=>h.get? a=G0 o/\yU H h a u
 | .tbl m=>h.get? a=G0 { cls:=.none,data:=.fields m }
 | .met f x=>h.get? a=G0 (C5 (.ref f) (.ref x))
 | .ext i=>i h/\(∃ o,h.get? a=G0 o)/\∀ h1 h2:j3,i h1->(∀ o,h1.get? a=G0 o->h2.get? a=G0 o)->i h2
def HOk(H:Hp)(h:j3):Prop:=∀ a o,H a=G0 o->yU P w H h a o
end

section
variable{P:e9}{w:i5}{H H':Hp}{h h':j3}{a:b6}{o:HO}
def yU.lt(x:yU P w H h a o):a<h.objs.size:=by
 cases o with
 | lst c=>obtain⟨_,_,_,_,e⟩:=x; rwa[d7 e]
 | tup c=>obtain⟨_,_,_,p⟩:=x; rwa[p.lt]
 | dK b=>obtain⟨_,_,_,_,o,_,_,e,_⟩:=x; rwa[d7 e]
 | dT b=>obtain⟨_,_,_,_,o,_,_,e,_⟩:=x; rwa[d7 e]
 | set S n=>obtain⟨o,_,_,_,e,_⟩:=x; rwa[d7 e]
 | ins C i fs=>obtain⟨_,_,_,e,_⟩:=x; rwa[d7 e]
 | own y=>obtain⟨_,e⟩:=x; rwa[d7 e]
 | xd fs=>obtain⟨_,⟨_,_,_,e,_⟩,_⟩:=x; rwa[d7 e]
 | rng lo hi=>obtain⟨_,_,_,e⟩:=x; rwa[d7 e]
 | frz ob u=>obtain⟨e,_⟩:=x; rwa[d7 e]
 | tbl g=>exact d7 (show h.get? a=G0 _ from x)
 | met f y=>exact d7 (show h.get? a=G0 _ from x)
 | ext d=>obtain⟨_,⟨_,e⟩,_⟩:=x; rwa[d7 e]
def Paired.mapP{g e:Type}{F G:g->e->Prop} : ∀{d:List g}{c:List e},Fc F d c->(∀ a b,F a b->G a b)->Fc G d c
 | _,_,.nil,_=>.nil
 | _,_,.cons r t,f=>.cons (f _ _ r) (Paired.mapP t f)
def yU.stay(x:yU P w H h a o)(k:∀ b u,(b=a\/H b=G0 (.own a))->h.get? b=G0 u->h'.get? b=G0 u)
  (I:∀ b,H b=G0 (.own a)->H' b=G0 (.own a)) (G:∀ b l,H b=G0 (.tup l)->H' b=G0 (.tup l)):yU P w H' h' a o:=by
 induction o with
 | lst l=>obtain⟨z,j,n,r,e⟩:=x; rwa[z,j,n,r,k _ _ (.inl rfl) e]
 | tup l=>obtain⟨z,j,r,ob,e,c⟩:=x; rwa[z,j,r,ob,k _ _ (.inl rfl) e,c]
 | dK A=>obtain⟨z,y,D,r,ob,g,i,e,c⟩:=x; rwa[z,y,D,r,ob,g,i,k _ _ (.inl rfl) e,c]
 | dT A =>
  obtain⟨z,y,l,r,ob,g,i,e,c⟩:=x;rwa[z,y,l,Paired.mapP r λp q z=>⟨z.1,G _ _ z.2.1,z.2.2⟩,ob,g,i,k _ _ (.inl rfl) e,c]
 | set S n=>obtain⟨ob,g,i,t,e,c⟩:=x; rwa[ob,g,i,t,k _ _ (.inl rfl) e,c]
 | ins C M fs =>
  obtain⟨d,z,ne,e,s,⟨m,g,i,J,c⟩,r⟩:=x;rwa[I _ d,z,ne,k _ _ (.inl rfl) e,s,⟨m,g,i,k _ _ (.inr d) J,c⟩,r]
 | own y=>obtain⟨ob,e⟩:=x; rwa[ob,k _ _ (.inl rfl) e]
 | xd fs=>obtain⟨s,⟨m,g,i,e,c⟩,r⟩:=x; rwa[s,⟨m,g,i,k _ _ (.inl rfl) e,c⟩,r]
 | rng lo hi=>obtain⟨t,u,v,e⟩:=x; rwa[t,u,v,k _ _ (.inl rfl) e]
 | frz ob u E=>obtain⟨e,q⟩:=x; rwa[k _ _ (.inl rfl) e,E q]
 | tbl B =>
  have e:h.get? a=G0 { cls:=.none,data:=.fields B }:=x;show h'.get? a=G0 { cls:=.none,data:=.fields B };rwa[k a _ (.inl rfl) e]
 | met f y =>
  have e:h.get? a=G0 (C5 (.ref f) (.ref y)):=x;show h'.get? a=G0 (C5 (.ref f) (.ref y));rwa[k a _ (.inl rfl) e]
 | ext L=>obtain⟨p,⟨o,e⟩,st⟩:=x; rwa[st _ _ p λo q=>k _ _ (.inl rfl) q,⟨o,k _ _ (.inl rfl) e⟩,st]
def HOk.lt(x:HOk P w H h)(e:H a=G0 o):a<h.objs.size:=(x a o e).lt
def HOk.fresh(x:HOk P w H h)(e:h.objs.size<=a):H a=none:=by
 cases q:H a with
 | none=>rfl
 | some u=>rwa[y8 (g6 (x.lt q) e) (AM _)]
def HOk.kept(x:HOk P w H h)(k:∀ b u,h.get? b=G0 u->h'.get? b=G0 u):HOk P w H h':=λa o e =>
 (x a o e).stay (λb u _ q=>k b u q) (λ_ q=>q) λ_ _ q=>q
def HOk.laid(x:HOk P w H h)(k:∀ b u,h.get? b=G0 u->h'.get? b=G0 u)(g:h.objs.size<=a)(new:yU P w (upd H a o) h' a o):HOk P w (upd H a o) h':=λb u e=>by
 have d:=x.fresh g;by_cases f:b=a
 ·subst f; rw[zB] at e; cases e; rwa[new]
 ·rw[zL f] at e;exact(x b u e).stay (λc v _ q=>k c v q) (λc q=>by rw[zL (zM q d)]; rwa[q]) λc i q=>by rw[zL (zM q d)]; rwa[q]
end

def Rd(H:Hp)(a:b6)(u:HO):Prop:=H a=G0 u\/∃ o,H a=G0 (.frz o u)
def Rd.ok{H:Hp}(r:Rd H a u)(x:HOk P w H h):yU P w H h a u:=by
 rcases r with r | ⟨o,r⟩
 ·rwa[x a u r]
 ·obtain⟨_,q⟩:=x a _ r;rwa[q]
def Mut:Option HO->Prop
 | some (.lst _)=>True
 | some (.dK _)=>True
 | some (.dT _)=>True
 | some (.set _ _)=>True
 | some (.ins _ _ _)=>True
 | some (.ext _)=>True
 | _=>False
section
variable{P:e9}{w:i5}{H:Hp}{h h':j3}{x e:b6}{o':HO}
def HOk.write(ok:HOk P w H h)(i:Mut (H x))(o:e=x\/H e=G0 (.own x))(k:∀ b u,b≠e->h.get? b=G0 u->h'.get? b=G0 u)(m:∃ u,h'.get? e=G0 u)
  (new:yU P w (upd H x o') h' x o'):HOk P w (upd H x o') h':=λb u q=>by
 have d:∀ c y,H c=G0 (.own y)->c≠x:=λc y r z=>by subst z; rw[r] at i; rwa[i]
 have f:∀ c g,H c=G0 (.tup g)->c≠x:=λc g r z=>by subst z; rw[r] at i; rwa[i]
 by_cases l:b=x
 ·subst l; rw[zB] at q; cases q; rwa[new]
 ·rw[zL l] at q;by_cases a:b=e
  ·have n:H b=G0 (.own x):=by
    rcases o with z | z
    ·rwa[y8 (a.trans z) l]
    ·rw[a]; rwa[z]
   rw[q] at n; cases n;obtain⟨v,p⟩:=m;rwa[v,by rw[a]; exact p]
  ·refine(ok b u q).stay (λc v j r=>k c v ?_ r) (λc r=>by rw[zL (d c b r)]; rwa[r]) λc g r=>by rw[zL (f c g r)]; rwa[r]
   rcases j with rfl | j
   ·rwa[a]
   ·rintro rfl;rcases o with z | z
    ·rwa[d c b j z]
    ·rw[j] at z; cases z; rwa[l rfl]
end

structure Un(fs ex:List b6)(H H':Hp)(h h':j3):Prop where
 keep:∀ b o,h.get? b=G0 o->H b=G2->b ∉ fs->b ∉ ex->h'.get? b=G0 o
 slot:∀ b o,h.get? b=G0 o->H b=G2->b∈fs->b ∉ ex->∃ sl,h'.get? b=G0 { o with slots:=sl }
 free:∀ b o,h.get? b=G0 o->H b=G2->b ∉ ex->H' b=G2
 there:∀ b o,h.get? b=G0 o->b ∉ ex->∃ o',h'.get? b=G0 o'
 tups:∀ b xs,H b=G0 (.tup xs)->H' b=G0 (.tup xs)
 frzs:∀ b o u,H b=G0 (.frz o u)->H' b=G0 (.frz o u)
 tbls:∀ b ps,H b=G0 (.tbl ps)->∃ more,H' b=G0 (.tbl (ps++more))
section
variable{fs fs' ex ex':List b6}{H H1 H2:Hp}{h h1 h2 h':j3}{a x e:b6}{o:HO}
def Un.any(u:Un fs ex H H1 h h1)(q:h.get? b=G0 ob)(n:H b=G2)(c:b ∉ ex):∃ f,h1.get? b=G0 { ob with slots:=f }:=by
 by_cases d:b∈fs
 ·rwa[u.slot b ob q n d c]
 ·rwa[ob.slots,u.keep b ob q n d c]
def Un.kept(k:∀ b u,h.get? b=G0 u->h'.get? b=G0 u):Un fs ex H H h h' :=
 ⟨λb ob q _ _ _=>k b ob q,λb ob q _ _ _=>⟨ob.slots,k b ob q⟩,λ_ _ _ n _=>n,λb ob q _=>⟨ob,k b ob q⟩,λ_ _ q=>q,λ_ _ _ q=>q,λ_ c q=>⟨#[],by rw[q]; simp⟩⟩
def Un.refl:Un fs ex H H h h:=Un.kept λ_ _ q=>q
def Un.laid(k:∀ b u,h.get? b=G0 u->h'.get? b=G0 u)(f:h.objs.size<=a)(c:H a=G2):Un fs ex H (upd H a o) h h' where
 keep:=λb u q _ _ _=>k b u q
 slot:=λb u q _ _ _=>⟨u.slots,k b u q⟩
 free:=λb u q n _=>by rw[zL (j4 (g6 (d7 q) f))]; rwa[n]
 there:=λb u q _=>⟨u,k b u q⟩
 tups:=λb d q=>by rw[zL (zM q c)]; rwa[q]
 frzs:=λb u d q=>by rw[zL (zM q c)]; rwa[q]
 tbls:=λb g q=>⟨#[],by rw[zL (zM q c),q]; simp⟩
def Un.write(d:Mut (H x))(m:e=x\/H e=G0 (.own x))(k:∀ b u,b≠e->h.get? b=G0 u->h'.get? b=G0 u)(g:∃ u,h'.get? e=G0 u):Un fs ex H (upd H x o) h h':=by
 have i:∀ b,H b=G2->b≠x:=λb n z=>by subst z; rw[n] at d; rwa[d]
 have j:∀ b,H b=G2->b≠e:=λb n z=>by
  subst z;rcases m with r | r
  ·rwa[i b n r]
  ·rw[n] at r; cases r
 have f:∀ b u,H b=G0 u->¬ Mut (G0 u)->b≠x:=λb u q nm z=>by subst z; rw[q] at d; rwa[nm d]
 refine⟨λb u q n _ _=>k b u (j b n) q,λb u q n _ _=>⟨u.slots,k b u (j b n) q⟩,λb u q n _=>by rw[zL (i b n)]; exact n,λb u q _=>?_,
  λb l q=>by rw[zL (f b _ q λz=>z)]; exact q,λb u l q=>by rw[zL (f b _ q λz=>z)]; exact q,λb p q=>⟨#[],by rw[zL (f b _ q λz=>z),q]; simp⟩⟩
 by_cases c:b=e
 ·subst c; rwa[g]
 ·rwa[u,k b u c q]
end

def trk(h:j3)(H:Hp):List b6:=(Am h.objs.size).filter λa=>(H a).isSome
def dJ(h:j3)(H:Hp):j3:=Cs h (trk h H)
def gN(h:j3)(H:Hp):(dJ h H).objs.size=h.objs.size:=PySem.W.hideAll_size _ _
def cv{h:j3}{H:Hp}(e:h.get? b=G0 o)(n:H b=G2):(dJ h H).get? b=G0 o :=
 Cz _ e λa=>by
  have q:(H b).isSome=true:=(Bu.mp a).2;rw[n] at q; simp at q
def aO{H:Hp}(e:(dJ h H).get? b=G0 o):h.get? b=G0 o/\H b=none:=by
 have a:h.get? b=G0 o:=CM (trk h H) e;exists a;cases q:H b with
 | none=>rfl
 | some x =>
  have c:b∈trk h H:=Bu.mpr ⟨BH.mpr (d7 a),by simp[q]⟩;have z:(dJ h H).get? b=none:=D5 (trk h H) c;rw[z] at e; cases e

end L2

namespace L2

structure Mod(K:ac)(mg:c7->Option b7)(base:j3):Prop where
 kin:K.In base
 glob:base.Ns mainGlobals mg
 blt:∃ mb,base.Ns builtinsNs mb/\∀ x:c7,x ≠ "__name__" -> mb x=bootBuiltins x
 nolimit:base.NoLimit

structure Cx where
 prog:e9
 w:i5
 K:ac
 mg:c7->Option b7
 base:j3
 A:u8
 N:List c7
 s₀:b9
 H₀:Hp
 env:Cj
 outer:List Cj
 stack:List Cj
 ex:List b6
 fn:c7->Bool
 calm:Bool
 pn:List (b6×Ad)
 xe:b7->b9->Prop
def frs(l:List Cj):List b6:=l.filterMap (·.frame)
abbrev Cx.fs(X:Cx):List b6:=frs X.outer

def Vis(a:BW)(x:c7):Prop:=a.names.lookup x=G0 .local\/a.names.lookup x=G0 .cell\/a.names.lookup x=G0 .free
def Loc(a:BW)(x:c7):Prop:=a.names.lookup x=G0 .local\/a.names.lookup x=G0 .cell
def Look(env:Cj)(h:j3)(m:c7->Option b7)(x:c7)(u:b7):Prop :=
 (env.kindOf x=G0 .local/\m x=G0 u)\/((env.kindOf x=G0 .cell\/env.kindOf x=G0 .free)/\∃ c,env.cells.lookup x=G0 c/\h.IsCell c (G0 u))

structure Cx.Ok(X:Cx):Prop where
 mod:Mod X.K X.mg X.base
 kind:X.env.scope.kind=.function
 glob:X.env.globals=mainGlobals
 blt:X.env.builtins=builtinsNs
 above:X.s₀.heap.objs.size<=X.env.locals
 inj:∀ x y c,X.env.cells.lookup x=G0 c->X.env.cells.lookup y=G0 c->x=y
 has:∀ x,(X.env.kindOf x=G0 .cell\/X.env.kindOf x=G0 .free)->∃ c,X.env.cells.lookup x=G0 c
 cab:∀ x c,X.fn x=G3->X.env.cells.lookup x=G0 c->X.s₀.heap.objs.size<=c
 hd:X.calm=G3->X.A.handled=G2
 frames:X.A.frames=G0 X.stack
 stk:X.stack=X.outer\/(X.stack=X.env::X.outer/\X.env.frame=G0 X.env.locals)
 exf:∀ b∈X.ex,b≠X.env.locals/\∀ x c,X.env.cells.lookup x=G0 c->c≠b
 bs:∀ b o,X.base.get? b=G0 o->X.s₀.heap.get? b=G0 o/\X.H₀ b=G2
 bsz:X.base.objs.size<=X.s₀.heap.objs.size
 noex:∀ b o,X.base.get? b=G0 o->b ∉ X.ex
 exfs:∀ b∈X.ex,b ∉ X.fs
 funs:X.s₀.heap.FunFrames X.base X.outer
 frf:∀ b∈X.fs,X.H₀ b=G2

structure Inv(X:Cx)(G5:List (b6×Ad))(σ:List (Option V))(H:Hp)(s:b9):Prop where
 ok:X.Ok
 os:s.os=X.s₀.os
 bare:CG s.gens
 base:Un X.fs X.ex X.H₀ H X.s₀.heap s.heap
 loc:∃ m,s.heap.Ns X.env.locals m/\∀(i:Nat)(x:c7)(v:V),X.N[i]?=G0 x->σ[i]?=G0 (G0 v)->Vis X.env.scope x->∃ u,xN v u/\Look X.env s.heap m x u
 cell:∀ x c,X.env.cells.lookup x=G0 c->∃ v,s.heap.IsCell c v
 free:H X.env.locals=G2
 freeC:∀ x c,X.env.cells.lookup x=G0 c->H c=G2
 pin:∀ p∈X.pn++G5,s.heap.get? p.1=G0 p.2/\H p.1=G2/\p.1≠X.env.locals/\p.1 ∉ X.fs/\∀ v,p.2.data≠.cell v
 hok:HOk X.prog X.w H s.heap
 len:σ.length=X.N.length

section
variable{X:Cx}{G5:List (b6×Ad)}{σ:List (Option V)}{H H':Hp}{s:b9}{h':j3}

def Cx.Ok.nofr(ok:X.Ok)(e:X.base.get? b=G0 o):b ∉ X.fs:=λa=>by
 have:=(ok.funs.mem a).1;rw[e] at this; cases this
def Inv.bs(I:Inv X G5 σ H s):∀ b o,X.base.get? b=G0 o->s.heap.get? b=G0 o/\H b=none:=λb o e =>
 ⟨I.base.keep b o (I.ok.bs b o e).1 (I.ok.bs b o e).2 (I.ok.nofr e) (I.ok.noex b o e),I.base.free b o (I.ok.bs b o e).1 (I.ok.bs b o e).2 (I.ok.noex b o e)⟩
def Inv.bk(I:Inv X G5 σ H s):∀ b o,X.base.get? b=G0 o->s.heap.get? b=G0 o:=λb o e=>(I.bs b o e).1
def Inv.mod(I:Inv X G5 σ H s):Mod X.K X.mg X.base:=I.ok.mod
def Inv.kIn(I:Inv X G5 σ H s):X.K.In s.heap:=I.ok.mod.kin.keeps I.bk
def Inv.lt(I:Inv X G5 σ H s):X.env.locals<s.heap.objs.size:=let ⟨_,hn,_⟩:=I.loc; hn.lt
def Inv.sz(I:Inv X G5 σ H s):X.s₀.heap.objs.size<=s.heap.objs.size:=g9 I.ok.above (Dy I.lt)
def Inv.nofs(I:Inv X G5 σ H s){a:b6}(h:s.heap.objs.size<=a):a ∉ X.fs:=λc=>by
 obtain⟨_,o,b,_⟩:=I.ok.funs.mem c;rwa[y8 (g6 (d7 b) (g9 I.sz h)) (AM _)]
def Inv.cne(I:Inv X G5 σ H s):∀ x c,X.env.cells.lookup x=G0 c->c≠X.env.locals:=λx c e z=>by
 obtain⟨v,o,d,hd⟩:=I.cell x c e;obtain⟨m,⟨f,g,h,a,b,_⟩,_⟩:=I.loc;rw[z,a] at d; cases d; rw[b] at hd; cases hd
def Inv.funs(I:Inv X G5 σ H s):s.heap.FunFrames X.base X.outer:=by
 have all:∀(l:List Cj),(∀ b∈frs l,b∈X.fs)->X.s₀.heap.FunFrames X.base l->s.heap.FunFrames X.base l:=by
  intro l
  induction l with
  | nil=>intro _ _; trivial
  | cons env r g =>
   intro f m;obtain⟨hk,⟨L,o,a,j,i,hd⟩,h⟩:=m;have d:L∈X.fs:=f L (by unfold frs; rw[Bh,a]; rwa[Ab]);obtain⟨n,e⟩:=I.base.slot L o i (I.ok.frf L d) d λz=>I.ok.exfs L z d;rwa[hk,⟨L,_,a,j,e,hd⟩,g (λb c=>f b (by unfold frs; rw[Bh,a]; exact t5 _ c)) h]
 rwa[all X.outer (λ_ c=>c) I.ok.funs]

def Inv.stack(I:Inv X G5 σ H s):s.heap.FunFrames X.base X.stack:=by
 rcases I.ok.stk with e | ⟨e,b⟩
 ·rw[e]; rwa[I.funs]
 ·rw[e];obtain⟨m,a,_⟩:=I.loc;erw[.cons (by rw[I.ok.kind]; decide) b a ?_ I.funs];rwa[AF (g9 I.ok.bsz I.ok.above)]
def Inv.stkSub(I:Inv X G5 σ H s):∀ b∈frs X.stack,b∈X.env.locals::X.fs:=λb a=>by
 rcases I.ok.stk with e | ⟨e,c⟩
 ·rw[e] at a; rwa[t5 _ a]
 ·rw[e] at a;unfold frs at a;rw[Bh,c] at a;rwa[a]
def Inv.stkFree(I:Inv X G5 σ H s):∀ b∈frs X.stack,H b=none:=λb a=>by
 rcases f9.mp (I.stkSub b a) with e | a
 ·rw[e]; rwa[I.free]
 ·obtain⟨_,o,c,_⟩:=I.ok.funs.mem a;rwa[I.base.free b o c (I.ok.frf b a) λz=>I.ok.exfs b z a]

def Inv.step{g':Array GenState}{t':Nat}{d':Drawn}{ch:List b6}(I:Inv X G5 σ H s)
  (g:∀ b∈ch,(b∈X.ex\/X.s₀.heap.objs.size<=b)/\b≠X.env.locals/\(∀ x c,X.env.cells.lookup x=G0 c->c≠b)/\∀ p∈X.pn++G5,p.1≠b)
  (keep:∀ b o,b≠X.env.locals->b ∉ X.fs->b ∉ ch->s.heap.get? b=G0 o->H b=G2->h'.get? b=G0 o)
  (slot:∀ b o,b≠X.env.locals->b∈X.fs->b ∉ ch->s.heap.get? b=G0 o->H b=G2->∃ M,h'.get? b=G0 { o with slots:=M }) (free:∀ b o,b ∉ ch->s.heap.get? b=G0 o->H b=G2->H' b=G2)
  (there:∀ b o,b ∉ ch->s.heap.get? b=G0 o->∃ C,h'.get? b=G0 C)
  (tups:∀ b y,H b=G0 (.tup y)->H' b=G0 (.tup y)) (frzs:∀ b o u,H b=G0 (.frz o u)->H' b=G0 (.frz o u)) (tbls:∀ b J,H b=G0 (.tbl J)->∃ E,H' b=G0 (.tbl (J++E)))
  (ns:∀ m,s.heap.Ns X.env.locals m->h'.Ns X.env.locals m) (hok:HOk X.prog X.w H' h') (Y:CG g') :
  Inv X G5 σ H' { s with heap:=h',gens:=g',drawn:=d',toks:=t' }:=by
 have D:∀ b o,X.s₀.heap.get? b=G0 o->b≠X.env.locals:=λb o e=>j4 (g6 (d7 e) I.ok.above);have j:∀ b o,X.s₀.heap.get? b=G0 o->b ∉ X.ex->b ∉ ch:=λb o e a A=>by
  rcases (g b A).1 with z | z
  ·rwa[a z]
  ·rwa[y8 (g6 (d7 e) z) (AM _)]
 have h:∀ x c,X.env.cells.lookup x=G0 c->∀ v,s.heap.IsCell c v->h'.IsCell c v:=λx c e v ⟨o,B,hd⟩=>by
  have f:c ∉ ch:=λz=>(g c z).2.2.1 x c e rfl;by_cases P:c∈X.fs
  ·obtain⟨M,q⟩:=slot c o (I.cne x c e) P f B (I.freeC x c e);rwa[_,q,hd]
  ·rwa[o,keep c o (I.cne x c e) P f B (I.freeC x c e),hd]
 erw[I.ok,I.os,Y,⟨λb o e n A a=>?_,λb o e n A a=>?_,λb o e n a=>?_,λb o e a=>?_,λb y e=>tups b y (I.base.tups b y e),λb o y e=>frzs b o y (I.base.frzs b o y e),λb J e=>?_⟩,?_,λx c e=>?_,?_,λx c e=>?_,λp O=>?_,hok,I.len]
 ·rwa[keep b o (D b o e) A (j b o e a) (I.base.keep b o e n A a) (I.base.free b o e n a)]
 ·obtain⟨M,t⟩:=I.base.slot b o e n A a;obtain⟨L,G⟩:=slot b _ (D b o e) A (j b o e a) t (I.base.free b o e n a);rwa[L,G]
 ·obtain⟨C,t⟩:=I.base.there b o e a;rwa[free b C (j b o e a) t (I.base.free b o e n a)]
 ·obtain⟨C,t⟩:=I.base.there b o e a;rwa[there b C (j b o e a) t]
 ·obtain⟨R,t⟩:=I.base.tbls b J e;obtain⟨Q,G⟩:=tbls b _ t;rwa[R++Q,by rw[G,Array.append_assoc]]
 ·obtain⟨m,S,T⟩:=I.loc;erw[m,ns m S,λi x v t G Z=>?_];obtain⟨u,r,l⟩:=T i x v t G Z;exists u,r;rcases l with l | ⟨k,c,e,z⟩
  ·rwa[.inl l]
  ·rwa[.inr ⟨k,c,e,h x c e _ z⟩]
 ·obtain⟨v,z⟩:=I.cell x c e;rwa[v,h x c e v z]
 ·obtain⟨m,⟨o,_,_,B,_⟩,_⟩:=I.loc;rwa[free _ o (λz=>(g _ z).2.1 rfl) B I.free]
 ·obtain⟨v,o,B,hd⟩:=I.cell x c e;rwa[free c o (λz=>(g c z).2.2.1 x c e rfl) B (I.freeC x c e)]
 ·obtain⟨e,n,ne,N,d⟩:=I.pin p O;have f:p.1 ∉ ch:=λz=>(g p.1 z).2.2.2 p O rfl;rwa[keep p.1 p.2 ne N f e n,free p.1 p.2 f e n,ne,N,d]
def Inv.un{t':Nat}(I:Inv X G5 σ H s)(u:Un X.fs [] H H' s.heap h')(hok:HOk X.prog X.w H' h'):Inv X G5 σ H' { s with heap:=h',toks:=t' }:=by
 obtain⟨m,⟨o,t,v,g,r⟩,_⟩:=id I.loc;obtain⟨l,j⟩:=u.any g I.free (by simp);exact I.step (g':=s.gens) (d':=s.drawn) (ch:=[]) (λ_ z=>nomatch z) (λb o _ c _ e n=>u.keep b o e n c (by simp)) (λb o _ c _ e n=>u.slot b o e n c (by simp)) (λb o _ e n=>u.free b o e n (by simp)) (λb o _ e=>u.there b o e (by simp)) u.tups u.frzs u.tbls (λq i=>by
  obtain⟨p,d,f,a,h⟩:=i;rw[g] at a; cases a;rwa[_,d,f,j,h]) hok I.bare
def Inv.call{g':Array GenState}{t':Nat}{d':Drawn}{ch:List b6}(I:Inv X G5 σ H s)(u:Un (frs X.stack) ch H H' s.heap h')(hok:HOk X.prog X.w H' h')(t:CG g')
  (f:∀ b∈ch,(b∈X.ex\/X.s₀.heap.objs.size<=b)/\b≠X.env.locals/\(∀ x c,X.env.cells.lookup x=G0 c->c≠b)/\∀ p∈X.pn++G5,p.1≠b) :
  Inv X G5 σ H' { s with heap:=h',gens:=g',drawn:=d',toks:=t' }:=by
 obtain⟨m,⟨o,C,D,j,r⟩,_⟩:=id I.loc;obtain⟨y,g⟩:=u.any j I.free λz=>(f _ z).2.1 rfl;exact I.step (ch:=ch) f (λb o g v a e n=>u.keep b o e n (λz=>(f9.mp (I.stkSub b z)).elim g v) a) (λb o _ _ a e n=>u.any e n a) (λb o a e n=>u.free b o e n a) (λb o a e=>u.there b o e a) u.tups u.frzs u.tbls (λB q=>by
  obtain⟨A,h,i,d,l⟩:=q;rw[j] at d; cases d;rwa[_,h,i,g,l]) hok t
def Inv.turned{t':Nat}{a:b6}(I:Inv X G5 σ H s)(k:∀ b o,b≠a->s.heap.get? b=G0 o->h'.get? b=G0 o)(i:H a=G2)(g:a≠X.env.locals)
  (h1:a∈X.ex\/X.s₀.heap.objs.size<=a) (h2:∀ x c,X.env.cells.lookup x=G0 c->c≠a) (h3:∀ p∈X.pn++G5,p.1≠a):Inv X G5 σ H { s with heap:=h',toks:=t' }:=by
 have f:∀ b u,H b=G0 u->b≠a:=λb u e z=>by rw[z,i] at e; cases e
 refine I.step (g':=s.gens) (d':=s.drawn) (ch:=[a]) (λb l=>?_) (λb o _ _ d e _=>k b o (λz=>d (by simp[z])) e) (λb o _ _ d e _=>⟨o.slots,k b o (λz=>d (by simp[z])) e⟩) (λ_ _ _ _ n=>n)
  (λb o d e=>⟨o,k b o (λz=>d (by simp[z])) e⟩) (λ_ _ e=>e) (λ_ _ _ e=>e) (λb y e=>⟨#[],by rw[e]; simp⟩) (λm j=>?_) (λb u e=>?_) I.bare
 ·have e:b=a:=by simpa using l
  subst e;rwa[h1,g,h2,h3]
 ·obtain⟨o,t,w,h,r⟩:=j;rwa[o,t,w,k _ o (Av g) h,r]
 ·refine(I.hok b u e).stay (λc v d q=>k c v ?_ q) (λ_ q=>q) λ_ _ q=>q;rcases d with z | z
  ·rw[z]; rwa[f b u e]
  ·rwa[f c _ z]
def Inv.tok(I:Inv X G5 σ H s)(t:Nat):Inv X G5 σ H { s with toks:=t }:=I.un (h':=s.heap) (t':=t) Un.refl I.hok
def Inv.kept{t':Nat}(I:Inv X G5 σ H s)(k:∀ b u,s.heap.get? b=G0 u->h'.get? b=G0 u):Inv X G5 σ H { s with heap:=h',toks:=t' }:=I.un (Un.kept k) (I.hok.kept k)
def Inv.laid{a:b6}{t':Nat}(I:Inv X G5 σ H s)(k:∀ b u,s.heap.get? b=G0 u->h'.get? b=G0 u)(c:s.heap.objs.size<=a)(new:yU X.prog X.w (upd H a o) h' a o) :
  Inv X G5 σ (upd H a o) { s with heap:=h',toks:=t' }:=I.un (Un.laid k c (I.hok.fresh c)) (I.hok.laid k c new)
def Inv.write{x e:b6}{t':Nat}(I:Inv X G5 σ H s)(c:Mut (H x))(d:e=x\/H e=G0 (.own x))(k:∀ b u,b≠e->s.heap.get? b=G0 u->h'.get? b=G0 u)(a:∃ u,h'.get? e=G0 u)
  (new:yU X.prog X.w (upd H x o) h' x o):Inv X G5 σ (upd H x o) { s with heap:=h',toks:=t' }:=I.un (Un.write c d k a) (I.hok.write c d k a new)
def Inv.pins_of{a:List (b6×Ad)}(I:Inv X G5 σ H s)(h:∀ p∈a,s.heap.get? p.1=G0 p.2/\H p.1=G2/\p.1≠X.env.locals/\p.1 ∉ X.fs/\∀ v,p.2.data≠.cell v):Inv X a σ H s :=
 ⟨I.ok,I.os,I.bare,I.base,I.loc,I.cell,I.free,I.freeC,λp b=>(w6.mp b).elim (λz=>I.pin p (Cp _ z)) (h p),I.hok,I.len⟩

def jg{N:List c7}(c:N.Nodup){i j:Nat}(a:N[i]?=G0 x)(b:N[j]?=G0 x):i=j:=by
 obtain⟨h1,e⟩:=f8.mp a;obtain⟨h2,d⟩:=f8.mp b;exact(List.getElem_inj c).mp (e.trans d.symm)

def mR{E:b7->b9->Prop}{i:Nat}{Q:Unit->b9->Prop}(I:Inv X G5 σ H s)(hN:X.N.Nodup)(hi:X.N[i]?=G0 x)(B:Loc X.env.scope x)(r:xN v u)
  (h:∀ s',Inv X G5 (σ.set i (G0 v)) H s'->(∃ a,AC a s.heap s'.heap/\(a=X.env.locals\/X.env.cells.lookup x=G0 a))->Q () s') (hf:X.fn x=G3\/X.env.scope.names.lookup x=G0 .local:=by first | exact .inl rfl | exact .inr rfl | assumption):wpAny M A (storeName X.env x u) Q E s:=by
 obtain⟨m,hn,hl⟩:=id I.loc;have S:(X.env.scope.kind == .class||(X.env.scope.kind == .module&&X.env.locals != X.env.globals))=false:=by rw[I.ok.kind]; rfl
 have G:i<σ.length:=by rw[I.len]; exact(f8.mp hi).1
 have cne:=I.cne;have g:∀{a:b6}{h':j3},(∃ o,s.heap.get? a=G0 o/\H a=G2)->AC a s.heap h'->HOk X.prog X.w H h':=λ{a h'} ha f b ob e=>by
  obtain⟨_,_,C⟩:=ha;refine(I.hok b ob e).stay (λc Z t q=>(f.2 c ?_).trans q) (λ_ q=>q) λ_ _ q=>q;rintro rfl;rcases t with rfl | t
  ·rw[C] at e; cases e
  ·rw[C] at t; cases t
 rcases B with hk | hk
 ·erw[wpAny_storeName_local hk hn (λh' hn' f=>?_) S];obtain⟨oL,_,_,hoL,_⟩:=id hn;refine h _ ⟨I.ok,I.os,I.bare,⟨λb o e n O B=>?_,λb o e n O B=>?_,I.base.free,λb o e B=>?_,I.base.tups,I.base.frzs,I.base.tbls⟩,⟨_,hn',λj y v' l D e3=>?_⟩,λy c e=>?_,I.free,I.freeC,λp hp=>?_,g ⟨oL,hoL,I.free⟩ f,by simpa using I.len⟩ ⟨_,f,.inl rfl⟩
  ·exact(f.2 b (j4 (g6 (d7 e) I.ok.above))).trans (I.base.keep b o e n O B)
  ·obtain⟨sl,l⟩:=I.base.slot b o e n O B;rwa[sl,(f.2 b (j4 (g6 (d7 e) I.ok.above))).trans l]
  ·obtain⟨o',l⟩:=I.base.there b o e B;rwa[o',(f.2 b (j4 (g6 (d7 e) I.ok.above))).trans l]
  ·by_cases J:j=i
   ·subst J;rw[hi] at l; cases l;rw[Dz G] at D;cases D;rwa[u,r,.inl ⟨hk,by simp⟩]
   ·rw[D6 (Av J)] at D;obtain⟨u',r',q⟩:=hl j y v' l D e3;exists u',r';rcases q with ⟨k,e⟩ | ⟨k,c,e,z⟩
    ·erw[.inl ⟨k,?_⟩];have:y≠x:=λe=>J (jg hN l (e ▸ hi));simp[this,e]
    ·rwa[.inr ⟨k,c,e,z.sameBut f (cne y c e)⟩]
  ·obtain⟨Z,z⟩:=I.cell y c e;rwa[Z,z.sameBut f (cne y c e)]
  ·obtain⟨e,n,ne,nf,d⟩:=I.pin p hp;rwa[(f.2 p.1 ne).trans e,n,ne,nf,d]
 ·have L:X.fn x=true:=by
   rcases hf with z | z
   ·rwa[z]
   ·rw[z] at hk; cases hk
  obtain⟨c,t⟩:=I.ok.has x (.inl hk);obtain⟨Z,z⟩:=I.cell x c t;erw[wpAny_storeName_cell I.ok.kind hk t z (λh' Y f=>?_)];obtain⟨oc,R,P⟩:=id z;refine h { s with heap:=h' } ⟨I.ok,I.os,I.bare,⟨λb o e n O B=>?_,λb o e n O B=>?_,I.base.free,λb o e B=>?_,I.base.tups,I.base.frzs,I.base.tbls⟩,⟨m,hn.sameBut f (Av (cne x c t)),λj y v' l D e3=>?_⟩,λy c' e=>?_,I.free,I.freeC,λp hp=>?_,g ⟨oc,R,I.freeC x c t⟩ f,by simpa using I.len⟩ ⟨c,f,.inr t⟩
  ·exact(f.2 b (j4 (g6 (d7 e) (I.ok.cab x c L t)))).trans (I.base.keep b o e n O B)
  ·obtain⟨sl,l⟩:=I.base.slot b o e n O B;rwa[sl,(f.2 b (j4 (g6 (d7 e) (I.ok.cab x c L t)))).trans l]
  ·obtain⟨o',l⟩:=I.base.there b o e B;rwa[o',(f.2 b (j4 (g6 (d7 e) (I.ok.cab x c L t)))).trans l]
  ·by_cases J:j=i
   ·subst J;rw[hi] at l; cases l;rw[Dz G] at D;cases D;rwa[u,r,.inr ⟨.inl hk,c,t,Y⟩]
   ·rw[D6 (Av J)] at D;obtain⟨u',r',q⟩:=hl j y v' l D e3;exists u',r';rcases q with q | ⟨k,c',e,z'⟩
    ·rwa[.inl q]
    ·erw[.inr ⟨k,c',e,z'.sameBut f ?_⟩];rintro rfl;rwa[J (jg hN l (I.ok.inj _ _ _ e t ▸ hi))]
  ·by_cases T:c'=c
   ·subst T; rwa[_,Y]
   ·obtain⟨w2,z2⟩:=I.cell y c' e;rwa[w2,z2.sameBut f T]
  ·obtain⟨e,n,ne,nf,d⟩:=I.pin p hp;erw[(f.2 p.1 ?_).trans e,n,ne,nf,d];intro q;rw[q,R] at e;have q':oc=p.2:=o0 e;rwa[d Z (by rw[<- q']; exact P)]
def ji{E:b7->b9->Prop}{i:Nat}{Q:Unit->b9->Prop}(I:Inv X G5 σ H s)(d:X.N.Nodup)(hi:X.N[i]?=G0 x)(b:Loc X.env.scope x)(r:xN v u)
  (h:∀ a,Inv X G5 (σ.set i (G0 v)) H a->Q () a) (c:X.fn x=G3\/X.env.scope.names.lookup x=G0 .local:=by first | exact .inl rfl | exact .inr rfl | assumption):wpAny M A (storeName X.env x u) Q E s :=
 mR I d hi b r (λa e _=>h a e) c
def Inv.call'{s':b9}(I:Inv X G5 σ H s)(f:s'.os=s.os)(u:Un (frs X.stack) ch H H' s.heap s'.heap)(hok:HOk X.prog X.w H' s'.heap)(g:CG s'.gens)
  (a:∀ b∈ch,(b∈X.ex\/X.s₀.heap.objs.size<=b)/\b≠X.env.locals/\(∀ x c,X.env.cells.lookup x=G0 c->c≠b)/\∀ p∈X.pn++G5,p.1≠b):Inv X G5 σ H' s':=by
 obtain⟨h',g',d',t',d⟩:=s';have e:d=s.os:=f;subst e;rwa[I.call (g':=g') (t':=t') (d':=d') u hok g a]
end

abbrev XK:=b7->Option b6->Hp->Prop
abbrev St:=List (Option V)
abbrev VK:=V->Hp->Prop
abbrev TE:=St->Hp->VK->Prop
abbrev TT:=St->Hp->(Bool->Hp->Prop)->Prop
abbrev TA:=St->Hp->(List V->Hp->Prop)->Prop
structure jY where
 nx:St->Hp->Prop
 rt:VK
 bk:St->Hp->Prop:=λ_ _=>False
 ct:St->Hp->Prop:=λ_ _=>False
abbrev TS:=jY->St->Hp->Prop

def EP(X:Cx)(d:List (b6×Ad))(b:St)(Q:VK)(u:b7)(c:b9):Prop:=∃ v a,Inv X d b a c/\xN v u/\Q v a
def TP(X:Cx)(e:List (b6×Ad))(c:St)(Q:Bool->Hp->Prop)(b:Bool)(d:b9):Prop:=∃ a,Inv X e c a d/\Q b a
def AP(X:Cx)(f:List (b6×Ad))(c:St)(Q:List V->Hp->Prop)(d:List b7)(e:b9):Prop:=∃ a b,Inv X f c b e/\xD a d/\Q a b
def SP(X:Cx)(d:List (b6×Ad))(D:jY)(f:Flow)(c:b9):Prop :=
 match f with
 | .next=>∃ a b,Inv X d a b c/\D.nx a b
 | .brk=>∃ a b,Inv X d a b c/\D.bk a b
 | .cont=>∃ a b,Inv X d a b c/\D.ct a b
 | .ret u=>∃ v a b,Inv X d a b c/\xN v u/\D.rt v b

def PE(X:Cx)(e:o6)(t:TE):Prop :=
 ∀(b:List (b6×Ad))(s:b9)(a:St)(H:Hp)(Q:VK),Inv X b a H s->t a H Q->wpAny (model X.prog X.w) X.A (eval e X.env) (EP X b a Q) X.xe s
def PT(X:Cx)(e:o6)(t:TT):Prop :=
 ∀(b:List (b6×Ad))(s:b9)(a:St)(H:Hp)(Q:Bool->Hp->Prop),Inv X b a H s->t a H Q->wpAny (model X.prog X.w) X.A (isTrue e X.env (eval e X.env)) (TP X b a Q) X.xe s
def PW(X:Cx)(e:o6)(t:TT):Prop :=
 ∀(a:FG b7)(c:List (b6×Ad))(s:b9)(b:St)(H:Hp)(Q:Bool->Hp->Prop),Inv X c b H s->t b H Q->wpAny (model X.prog X.w) X.A (isTrue e X.env a) (TP X c b Q) X.xe s
def PW.pt(h:PW X e t):PT X e t:=h _
def PA(X:Cx)(c:List o6)(t:TA):Prop :=
 ∀(pos:BM)(b:List (b6×Ad))(s:b9)(a:St)(H:Hp)(Q:List V->Hp->Prop),Inv X b a H s->t a H Q->wpAny (model X.prog X.w) X.A (spliced (backTo pos (starEach c X.env))) (AP X b a Q) X.xe s
def PS(X:Cx)(st:v4)(t:TS):Prop :=
 ∀(b:List (b6×Ad))(s:b9)(a:St)(H:Hp)(D:jY),Inv X b a H s->t D a H->wpAny (model X.prog X.w) X.A (exec st X.env) (SP X b D) X.xe s
def PSs(X:Cx)(st:List v4)(t:TS):Prop :=
 ∀(b:List (b6×Ad))(s:b9)(a:St)(H:Hp)(D:jY),Inv X b a H s->t D a H->wpAny (model X.prog X.w) X.A (execs st X.env) (SP X b D) X.xe s
def thn{b:Type}{t:FG b}{Q c:b->b9->Prop}{M:FL}{A:u8}{E:b7->b9->Prop}{s:b9}(h:wpAny M A t Q E s)(d:∀ a s,Q a s->c a s):wpAny M A t c E s:=An h d λ_ _ x=>x
end L2

namespace L2
section
variable{X:Cx}

def bin{a b:o6}{o n:TE}(D:PE X a o)(C:PE X b n){j:List (b6×Ad)}{s:b9}{c:St}{H:Hp}{R:V->V->Hp->Prop}(I:Inv X j c H s)(h:o c H λx l=>n c l λy d=>R x y d)
  {m:Type} {Q:m->b9->Prop} {f:b7->b7->FG m}
  (B:∀ v u i x y d,Inv X j c d i->xN x v->xN y u->R x y d->wpAny (model X.prog X.w) X.A (f v u) Q X.xe i) :
  wpAny (model X.prog X.w) X.A (eval a X.env) (λv g=>wpAny (model X.prog X.w) X.A (eval b X.env) (λu e=>wpAny (model X.prog X.w) X.A (f v u) Q X.xe e) X.xe g) X.xe s:=by
 erw[thn (D j s c H _ I h) λv p ⟨x,l,G,r,z⟩=>?_];erw[thn (C j p c l _ G z) λu i ⟨y,d,E,q,t⟩=>?_];rwa[B v u i x y d E r q t]

inductive TVar(i:Nat)(σ:St)(H:Hp)(Q:VK):Prop where
 | mk (v:V) (e:σ[i]?=G0 (G0 v)) (q:Q v H)
def eV(i:Nat):TE:=λa H Q=>TVar i a H Q
def tC(v:V):TE:=λ_ H Q=>Q v H
def ZX{i:Nat}(q:X.N[i]?=G0 x)(j:Vis X.env.scope x)(hd:(x ==("__debug__" : c7))=false:=by decide)(d:(x ==("__classdict__" : c7))=false:=by decide):PE X (.Name x pos) (eV i):=by
 intro t s g H Q I h;obtain⟨v,e,h⟩:=h;obtain⟨m,n,p⟩:=I.loc;obtain⟨u,r,l⟩:=p i x v q e j;have b:EP X t g Q u s:=⟨v,H,I,r,h⟩;rcases l with ⟨hk,o⟩ | ⟨hk,c,f,a⟩
 ·rwa[FM (wpAny_loadName_local I.ok.kind hk n o b) hd]
 ·rcases hk with hk | hk
  ·rwa[FM (wpAny_loadName_cell I.ok.kind hk f a b) hd]
  ·rwa[FM (wpAny_loadName_free I.ok.kind hk f a b d) hd]
def yR{i j pos} : PE X (.Constant (.int i) j pos) (tC (.int i)):=λ_ _ _ H _ I h=>wpAny_Constant_int ⟨.int i,H,I.tok _,⟨_,rfl⟩,h⟩
def oP{b j pos} : PE X (.Constant (.bool b) j pos) (tC (.bl b)):=λ_ _ _ H _ I h=>Constant_bool ⟨.bl b,H,I,rfl,h⟩
def pS{j pos} : PE X (.Constant .none j pos) (tC .non):=λ_ _ _ H _ I h=>Constant_none ⟨.non,H,I,rfl,h⟩
def zJ{x j pos} : PE X (.Constant (.str x) j pos) (tC (.str x)):=λ_ _ _ H _ I h=>Ey ⟨.str x,H,I.tok _,⟨_,rfl⟩,h⟩

def Gl(X:Cx)(x:c7):Prop:=X.env.kindOf x=G0 .globalImplicit
def wF{E:b7->b9->Prop}{a:St}{H:Hp}{Q:b7->b9->Prop}(I:Inv X d a H s)(c:Gl X x)(b:X.mg x=G0 u)(h:Q u s)
  (hd:(x ==("__debug__" : c7))=false:=by decide):wpAny (model X.prog X.w) X.A (eval (.Name x pos) X.env) Q E s :=
 CN I.ok.kind c (Calls.loadGlobal_global (by rw[I.ok.glob]; rwa[I.mod.glob.keeps I.bk]) b h) hd
def ph{E:b7->b9->Prop}{a:St}{H:Hp}{Q:b7->b9->Prop}(I:Inv X f a H s)(e:Gl X x)(d:X.mg x=G2)(b:bootBuiltins x=G0 u)(h:Q u s)
  (c:x ≠ "__name__" := by decide) (hd:(x ==("__debug__" : c7))=false:=by decide):wpAny (model X.prog X.w) X.A (eval (.Name x pos) X.env) Q E s:=by
 obtain⟨g,h1,h2⟩:=I.mod.blt;rwa[CN I.ok.kind e (Calls.loadGlobal_builtin (by rw[I.ok.glob]; exact I.mod.glob.keeps I.bk) d (by rw[I.ok.blt]; exact h1.keeps I.bk) ((h2 x c).trans b) h) hd]
def rH(d:Gl X x)(c:X.mg x=G2)(a:bootBuiltins x=G0 u)(r:xN v u)(b:x ≠ "__name__" := by decide)(hd:(x ==("__debug__" : c7))=false:=by decide):PE X (.Name x pos) (tC v) :=
 λ_ _ _ H _ I h=>ph I d c a ⟨v,H,I,r,h⟩ b hd

variable{a b:o6}{ta tb:TE}{pos:BM}
def PC(X:Cx)(g:FN)(a b:o6)(t:TE):Prop :=
 ∀(f:List (b6×Ad))(s:b9)(e:St)(H:Hp)(Q:VK),Inv X f e H s->t e H Q ->
  wpAny (model X.prog X.w) X.A (eval a X.env) (λv d=>wpAny (model X.prog X.w) X.A (eval b X.env) (λu c=>wpAny (model X.prog X.w) X.A (compareOp g v u) (EP X f e Q) X.xe c) X.xe d) X.xe s
def tB(t:TE):TT:=λd H Q=>t d H λx e=>∃ c,x=.bl c/\Q c e
def ni{t:TE}(h:PC X e a b t)(h1:behindInMarks e b=false:=by first | exact nobehind _ (by decide) (by decide) | rfl):PT X (.Compare a [e] [b] pos) (tB t):=by
 intro n s f H Q I j;erw[DV (thn (h n s f H _ I j) λv r h1=>thn h1 λu p h2=>thn h2 λc o ⟨x,m,l,g,i⟩=>?_) h1];obtain⟨d,rfl,q⟩:=i;cases g;rwa[Aq ⟨m,l,q⟩]
def qP{t:TE}(h:PE X e t)(l:∀ c,isTrue e X.env c=(do let v <- c; standAt e.pos; holding [v] (truthy v)):=by intro _; rfl):PT X e (tB t):=by
 intro o s f H Q I j;erw[isTrue_plain (thn (h o s f H _ I j) λv p ⟨x,n,m,g,i⟩=>?_) (l _)];obtain⟨d,rfl,q⟩:=i;cases g;rwa[Aq ⟨n,m,q⟩]

variable{tA tB':TT}{rest:List o6}
def tAnd(t u:TT):TT:=λd H Q=>t d H λc e=>if c=G3 then u d e Q else Q G4 e
def tOr(t u:TT):TT:=λd H Q=>t d H λc e=>if c=G3 then Q G3 e else u d e Q
def tNot(t:TT):TT:=λd H Q=>t d H λc e=>Q (!c) e
def aL(f:PT X a tA):PW X (.BoolOp .And [a] pos) tA:=by
 intro i g s d H Q I h;erw[isTrue_and (thn (f g s d H Q I h) λc j e=>?_)];cases c with
 | true=>rwa[isTrue_and_nil e]
 | false=>rwa[e]
def nv(f:PT X a tA):PW X (.BoolOp .Or [a] pos) tA:=by
 intro i g s d H Q I h;erw[isTrue_or (thn (f g s d H Q I h) λc j e=>?_)];cases c with
 | false=>rwa[isTrue_or_nil e]
 | true=>rwa[e]
def Xk(n:PT X a tA)(m:PW X (.BoolOp .And (b::rest) pos) tB'):PW X (.BoolOp .And (a::b::rest) pos) (tAnd tA tB'):=by
 intro j i s d H Q I h;erw[isTrue_and (thn (n i s d H _ I h) λc l ⟨g,f,e⟩=>?_)];cases c with
 | true=>rwa[m j i l d g Q f e]
 | false=>rwa[g,f,e]
def iH(n:PT X a tA)(m:PW X (.BoolOp .Or (b::rest) pos) tB'):PW X (.BoolOp .Or (a::b::rest) pos) (tOr tA tB'):=by
 intro j i s d H Q I h;erw[isTrue_or (thn (n i s d H _ I h) λc l ⟨g,f,e⟩=>?_)];cases c with
 | true=>rwa[g,f,e]
 | false=>rwa[m j i l d g Q f e]
def pG(e:PT X a tA):PT X (.UnaryOp .Not a pos) (tNot tA):=by
 intro g s d H Q I h;rwa[isTrue_not (e g s d H (λc f=>Q (!c) f) I h)]
def tAndV(ta tb:TE):TE:=λd H Q=>ta d H λx e=>∃ c,x=.bl c/\if c=G3 then tb d e Q else Q (.bl G4) e
def tOrV(ta tb:TE):TE:=λd H Q=>ta d H λx e=>∃ c,x=.bl c/\if c=G3 then Q (.bl G3) e else tb d e Q
def tNotV(ta:TE):TE:=λd H Q=>ta d H λx e=>∃ c,x=.bl c/\Q (.bl (!c)) e
def jo{op}{t:TE}(h:PE X a t):PE X (.BoolOp op [a] pos) t:=λe s c H Q I d=>BoolOp_one (h e s c H Q I d)
def ej(n:PE X a ta)(m:PE X (.BoolOp .And (b::rest) pos) tb):PE X (.BoolOp .And (a::b::rest) pos) (tAndV ta tb):=by
 intro i s e H Q I h;erw[BoolOp_and (thn (n i s e H _ I h) λv j ⟨x,g,f,l,d⟩=>?_)];obtain⟨c,rfl,d⟩:=d;cases l;erw[Aq ?_];cases c with
 | true=>rwa[m i j e g Q f d]
 | false=>rwa[.bl G4,g,f,U,d]
def YI(n:PE X a ta)(m:PE X (.BoolOp .Or (b::rest) pos) tb):PE X (.BoolOp .Or (a::b::rest) pos) (tOrV ta tb):=by
 intro i s e H Q I h;erw[BoolOp_or (thn (n i s e H _ I h) λv j ⟨x,g,f,l,d⟩=>?_)];obtain⟨c,rfl,d⟩:=d;cases l;erw[Aq ?_];cases c with
 | false=>rwa[m i j e g Q f d]
 | true=>rwa[.bl G3,g,f,U,d]
def fY(g:PE X a ta):PE X (.UnaryOp .Not a pos) (tNotV ta):=by
 intro l s e H Q I h;erw[UnaryOp_ (thn (g l s e H _ I h) λv m ⟨x,j,i,f,d⟩=>?_)];obtain⟨c,rfl,d⟩:=d;cases f;rwa[not_of (Aq ⟨.bl (!c),j,i,rfl,d⟩)]
def tIf(t:TT)(ta tb:TE):TE:=λd H Q=>t d H λc e=>if c=G3 then ta d e Q else tb d e Q
def vm(m:PT X c tA)(o:PE X a ta)(n:PE X b tb):PE X (.IfExp c a b pos) (tIf tA ta tb):=by
 intro f s e H Q I h;erw[wpAny_IfExp (thn (m f s e H _ I h) λd g ⟨l,j,i⟩=>?_)];cases d with
 | true=>rwa[o f g e l Q j i]
 | false=>rwa[n f g e l Q j i]
end
end L2

namespace L2

def SqL(K:ac)(H:Hp)(a:b6)(c:List V):Prop :=
 Rd H a (.lst c) \/
  ∃(o:Ad)(b:Array b7)(n:Nat),K.lookup a=G0 o/\o.cls=.type "list" /\ o.dict=G2/\o.data=.seq b n/\b.size<=sizeLine/\xD c b.toList
def SqT(K:ac)(H:Hp)(a:b6)(c:List V):Prop :=
 Rd H a (.tup c) \/
  ∃(o:Ad)(b:Array b7)(n:Nat),K.lookup a=G0 o/\o.cls=.type "tuple" /\ o.data=.seq b n/\b.size<=sizeLine/\xD c b.toList
def absV:b7->Option V
 | .none=>G0 .non
 | .bool b=>G0 (.bl b)
 | .int i _=>G0 (.int i)
 | .str x _=>G0 (.str x)
 | .bytes b _=>G0 (.byt b)
 | .float b _=>G0 (.flt b)
 | .ref a=>G0 (.ref a)
 | .type n=>G0 (.ty n)
 | _=>G2
def xN.abs(r:xN x u):absV u=G0 x:=by
 cases x with
 | non=>cases r; rfl
 | bl _=>cases r; rfl
 | int _=>obtain⟨t,rfl⟩:=r; rfl
 | str _=>obtain⟨t,rfl⟩:=r; rfl
 | byt _=>obtain⟨t,rfl⟩:=r; rfl
 | flt _=>obtain⟨t,rfl⟩:=r; rfl
 | ref _=>cases r; rfl
 | ty _=>cases r; rfl
def xN.inj(r:xN x u)(q:xN y u):x=y:=o0 (r.abs.symm.trans q.abs)
def xD.inj:∀{b a:List V}{c:List b7},xD b c->xD a c->b=a
 | _,_,_,.nil,.nil=>rfl
 | _,_,_,.cons r t,.cons e d=>by rw[r.inj e,xD.inj t d]
section
variable{X:Cx}{G5:List (b6×Ad)}{σ:St}{H:Hp}{s:b9}{a:b6}{xs ys:List V}
def SqL.of{K:ac}(h:H a=G0 (.lst xs)):SqL K H a xs:=.inl (.inl h)
def SqT.of{K:ac}(h:H a=G0 (.tup xs)):SqT K H a xs:=.inl (.inl h)
def Inv.list(I:Inv X G5 σ H s)(h:SqL X.K H a xs):∃ b:List b7,xD xs b/\PlainL s.heap a b.toArray/\xs.length<=sizeLine:=by
 rcases h with h | ⟨o,b,n,hk,d,hd,c,f,r⟩
 ·obtain⟨z,b,n,r,e⟩:=h.ok I.hok;rwa[b,r,⟨_,n,e,U,U,U⟩,z]
 ·exists b.toList,r,⟨o,n,I.kIn a o hk,d,hd,by simpa using c⟩;have e:=r.length;simp only[Ag] at e;lia
def Inv.tuple(I:Inv X G5 σ H s)(h:SqT X.K H a xs):∃ b:List b7,xD xs b/\Gv s.heap a b.toArray/\xs.length<=sizeLine:=by
 rcases h with h | ⟨o,b,n,hk,d,c,f,r⟩
 ·obtain⟨z,b,r,p⟩:=h.ok I.hok;rwa[b,r,p,z]
 ·exists b.toList,r,⟨o,I.kIn a o hk,d,n,by simpa using c⟩;have e:=r.length;simp only[Ag] at e;lia
def Inv.list_inj(I:Inv X G5 σ H s)(h:SqL X.K H a xs)(h':SqL X.K H a ys):xs=ys:=by
 obtain⟨c,r,⟨o,n,e,_,_,d⟩,_⟩:=I.list h;obtain⟨b,g,⟨i,j,f,_,_,d'⟩,_⟩:=I.list h';rw[e] at f; cases f;rw[d] at d';injection d' with d1 _
 have:c=b:=by simpa using congrArg GD d1
 subst this;rwa[r.inj g]
def Inv.tuple_inj(I:Inv X G5 σ H s)(h:SqT X.K H a xs)(h':SqT X.K H a ys):xs=ys:=by
 obtain⟨c,r,⟨o,e,_,n,d⟩,_⟩:=I.tuple h;obtain⟨b,g,⟨i,f,_,j,d'⟩,_⟩:=I.tuple h';rw[e] at f; cases f;rw[d] at d';injection d' with d1 _
 have:c=b:=by simpa using congrArg GD d1
 subst this;rwa[r.inj g]
end

abbrev Cx.wish(X:Cx)(E:b7->b9->Prop):Cx:={ X with xe:=E }
abbrev Cx.nox(X:Cx):Cx:=X.wish λ_ _=>False
def Cx.Ok.wish{X:Cx}(ok:X.Ok)(E:b7->b9->Prop):(X.wish E).Ok :=
 ⟨ok.mod,ok.kind,ok.glob,ok.blt,ok.above,ok.inj,ok.has,ok.cab,ok.hd,ok.frames,ok.stk,ok.exf,ok.bs,ok.bsz,ok.noex,ok.exfs,ok.funs,ok.frf⟩
def Cx.Ok.unwish{X:Cx}{E:b7->b9->Prop}(ok:(X.wish E).Ok):X.Ok :=
 ⟨ok.mod,ok.kind,ok.glob,ok.blt,ok.above,ok.inj,ok.has,ok.cab,ok.hd,ok.frames,ok.stk,ok.exf,ok.bs,ok.bsz,ok.noex,ok.exfs,ok.funs,ok.frf⟩
section
variable{X:Cx}{G5:List (b6×Ad)}{σ:St}{H:Hp}{s:b9}{E:b7->b9->Prop}
def Inv.wish(I:Inv X G5 σ H s)(E:b7->b9->Prop):Inv (X.wish E) G5 σ H s:=⟨I.ok.wish E,I.os,I.bare,I.base,I.loc,I.cell,I.free,I.freeC,I.pin,I.hok,I.len⟩
def Inv.unwish(I:Inv (X.wish E) G5 σ H s):Inv X G5 σ H s:=⟨I.ok.unwish,I.os,I.bare,I.base,I.loc,I.cell,I.free,I.freeC,I.pin,I.hok,I.len⟩
def SP.unwish(h:SP (X.wish E) G5 D f c):SP X G5 D f c:=by
 cases f with
 | next=>obtain⟨a,b,I,q⟩:=h; rwa[a,b,I.unwish,q]
 | brk=>obtain⟨a,b,I,q⟩:=h; rwa[a,b,I.unwish,q]
 | cont=>obtain⟨a,b,I,q⟩:=h; rwa[a,b,I.unwish,q]
 | ret u=>obtain⟨v,a,b,I,r,q⟩:=h; rwa[v,a,b,I.unwish,r,q]
def PSs.nox{st:List v4}(h:PSs X.nox st t):PSs X st t:=λG5 s σ H D I a =>
 An (h G5 s σ H D (I.wish _) a) (λ_ _ q=>q.unwish) λ_ _ z=>l9 z
end

section
variable{X:Cx}{st:v4}{rest:List v4}{t u:TS}{e:o6}{te:TE}{pos:BM}
def tNext:TS:=λD a H=>D.nx a H
def XO(t u:TS):TS:=λD a H=>t { D with nx:=u D } a H
def zU:PSs X [] tNext:=λ_ _ a H _ I h=>BY ⟨a,H,I,h⟩
def zC(h1:PS X st t)(h2:PSs X rest u):PSs X (st::rest) (XO t u):=by
 intro b s c H D I h;refine Fd (thn (h1 b s c H { D with nx:=u D } I h) λf d q=>?_);cases f with
 | next =>
  obtain⟨a,i,g,q⟩:=q;rwa[h2 b d a i D g q]
 | ret v=>rwa[q]
 | brk=>rwa[q]
 | cont=>rwa[q]
def zG(h1:PS X st t):PSs X [st] t:=by
 intro b s a H D I h;erw[Fd (thn (h1 b s a H D I h) λf c q=>?_)];cases f with
 | next=>rwa[BY q]
 | ret v=>rwa[q]
 | brk=>rwa[q]
 | cont=>rwa[q]
def Inv.quiet{a:St}{H:Hp}(I:Inv X b a H s):interactive X.env=false:=by simp[interactive,I.ok.kind]
def tDrop(te:TE):TS:=λD a H=>te a H λ_ b=>D.nx a b
def zQ(d:PE X e te)(c:swapsWith e G2 pos.line X.env=pure false:=by rfl):PS X (.Expr e pos) (tDrop te):=by
 intro i s a H D I h;rwa[wpAny_Expr_any (thn (d i s a H _ I h) λv j ⟨x,g,f,l,b⟩=>⟨a,g,f,b⟩) I.quiet c]
def tRet(te:TE):TS:=λD a H=>te a H D.rt
def zY(d:PE X e te):PS X (.Return (G0 e) pos) (tRet te):=by
 intro i s a H D I h;rwa[wpAny_Return_some (thn (d i s a H _ I h) λv j ⟨x,g,f,b,c⟩=>⟨x,a,g,f,b,c⟩)]
def tIfS(c:TT)(t u:TS):TS:=λD a H=>c a H λb d=>if b=G3 then t D a d else u D a d
def yJ(o:PT X c i)(q:PSs X a t)(p:PSs X b u):PS X (.If c a b pos) (tIfS i t u):=by
 intro g s f H D I h;erw[wpAny_If (thn (o g s f H _ I h) λd j ⟨n,m,l⟩=>?_)];cases d with
 | true=>rwa[q g j f n D m l]
 | false=>rwa[p g j f n D m l]
def ZZ:TS:=λ_ _ _=>False
def qD:PS X st ZZ:=λ_ _ _ _ _ _ h=>h.elim
end

abbrev TG:=V->St->Hp->(St->Hp->Prop)->Prop
abbrev TGs:=List V->St->Hp->(St->Hp->Prop)->Prop
def PG(X:Cx)(a:o6)(t:TG):Prop :=
 ∀(e:List (b6×Ad))(s:b9)(c:St)(H:Hp)(v:V)(u:b7)(Q:St->Hp->Prop),Inv X e c H s->xN v u->t v c H Q ->
  wpAny (model X.prog X.w) X.A (assign a X.env u) (λ_ f=>∃ b d,Inv X e b d f/\Q b d) X.xe s
def PGs(X:Cx)(g:List o6)(t:TGs):Prop :=
 ∀(f:List (b6×Ad))(s:b9)(b:St)(H:Hp)(c:List V)(d:List b7)(Q:St->Hp->Prop),Inv X f b H s->xD c d->t c b H Q ->
  wpAny (model X.prog X.w) X.A (assignInOrder ((assignEach g X.env).map (·.2)) d) (λ_ h=>∃ a e,Inv X f a e h/\Q a e) X.xe s
section
variable{X:Cx}{pos:BM}
def nR(i:Nat):TG:=λv a H Q=>Q (a.set i (G0 v)) H
def zx{i:Nat}(c:X.N.Nodup)(hi:X.N[i]?=G0 x)(a:Loc X.env.scope x)(b:X.fn x=G3\/X.env.scope.names.lookup x=G0 .local:=by first | exact .inl rfl | exact .inr rfl | assumption):PG X (.Name x pos) (nR i):=by
 intro g s e H v u Q I r h;rwa[wpAny_assign_Name (ji I c hi a r (λf d=>⟨_,H,d,h⟩) b)]
def gNil:TGs:=λb a H Q=>b=[]/\Q a H
def gCons(t:TG)(u:TGs):TGs:=λc b H Q=>E2 λv r=>c=v::r/\t v b H λa d=>u r a d Q
def kz:PGs X [] gNil:=by
 intro d s a H b c Q I r h;obtain⟨e,h⟩:=h;subst e;cases r;rwa[assignInOrder_nil ⟨a,H,I,h⟩]
def qF(h1:PG X e t)(h2:PGs X a u)
  (j:(assignEach (e::a) X.env).map (·.2)=assign e X.env::(assignEach a X.env).map (·.2):=by rfl):PGs X (e::a) (gCons t u):=by
 intro c s d H o q Q I r h;obtain⟨v,p,l,h⟩:=h;subst l;cases r with
 | cons r g =>
  rw[j];erw[assignInOrder_cons (thn (h1 c s d H _ _ _ I r h) λ_ f ⟨b,n,m,i⟩=>?_)];rwa[h2 c f b n _ _ Q m g i]
def gTup(K:ac)(n:Nat)(t:TGs):TG:=λv c H Q=>E2 λa b=>A4 (v=.ref a) (SqT K H a b) (b.length=n) (t b c H Q)
def bM{k:Nat}{n:Nat}(z:X.calm=G3)(h:PGs X c t)
  (x:(assignEach c X.env).length=n:=by rfl) (f:(assignEach c X.env).findIdx? (·.1)=none:=by rfl):PG X (.Tuple c k pos) (gTup X.K n t):=by
 intro j s g H v u Q I r d;obtain⟨a,l,B,w,y,d⟩:=d;subst B;cases r;obtain⟨m,i,q,D⟩:=I.tuple w;erw[assign_Tuple_tuple (I.ok.hd z) q (by simp[x,<- y,i.length]) f λA p=>?_];have C:Inv X j g H { s with heap:=A }:=I.kept (t':=s.toks) λb o e=>p b o (j4 (d7 e)) e;exact h j _ g H l _ Q C (by simpa using i) d
def XJ(b:TE)(g:TG):TS:=λD a H=>b a H λx c=>g x a c D.nx
def wP{i:Nat}{b:TE}(n:X.N.Nodup)(hi:X.N[i]?=G0 x)(g:Loc X.env.scope x)(m:PE X e b)(j:swapsWith e (G0 (.Name x a)) pos.line X.env=pure false:=by rfl)(l:X.fn x=G3\/X.env.scope.names.lookup x=G0 .local:=by first | exact .inl rfl | exact .inr rfl | assumption) :
  PS X (.Assign [.Name x a] e pos) (XJ b (nR i)):=by
 intro r s c H D I h;erw[wpAny_Assign_Name (thn (m r s c H _ I h) λv u ⟨y,q,p,d,f⟩=>?_) j];rwa[ji p n hi g d (λt o=>⟨_,q,o,f⟩) l]
end

section
variable{X:Cx}{pos:BM}
def bK(c:TT)(h:TS):TS:=λD a H=>∃ W:Nat->St->Hp->Prop,(∃ m,W m a H)/\∀ m a H,W m a H->c a H λb f=>if b=G3 then ∃ N:St->Hp->Prop,(∀ d g,N d g->∃ e,e<m/\W e d g)/\h { D with nx:=N,ct:=N,bk:=D.nx } a f else D.nx a f
def ja(x:PassesOwn (model X.prog X.w) X.A X.env X.xe)(Q:PT X c t)(R:PSs X body u):PS X (.While c body [] pos) (bK t u):=by
 intro r s G H D I h;obtain⟨W,⟨P,J⟩,g⟩:=h;erw[wpAny_While (codeAny_whileLoop (λn O=>∃ e E,Inv X r e E O/\W n e E) ?_ P ⟨G,H,I,J⟩)];rintro n M ⟨d,C,S,w1⟩;erw[A0 x (thn (Q r M d C _ S (g n d C w1)) λb L ⟨B,z,l⟩=>?_)];cases b with
 | true =>
  obtain⟨N,y,l⟩:=l;rw[y4 rfl];erw[A0 x (thn (R r L d B _ z l) λf T j=>?_)];cases f with
  | next =>
   obtain⟨a,i,q,n3⟩:=j;obtain⟨o,p,m⟩:=y a i n3;rwa[o,p,a,i,q,m]
  | cont =>
   obtain⟨a,i,q,n3⟩:=j;obtain⟨o,p,m⟩:=y a i n3;rwa[o,p,a,i,q,m]
  | brk=>rwa[j]
  | ret v=>rwa[j]
 | false =>
  rw[y3 g7];rwa[BY ⟨d,B,z,l⟩]
end

structure It where
 go:Nat->Hp->Prop
 yld:Nat->Hp->V->Hp->Prop
 stop:Nat->Hp->Prop
def iT(X:Cx)(a:List (b6×Ad))(H:Hp)(b:b6):Prop :=
 H b=G2/\b≠X.env.locals/\b ∉ X.fs/\(b∈X.ex\/X.s₀.heap.objs.size<=b)/\(∀ x c,X.env.cells.lookup x=G0 c->c≠b)/\∀ p∈X.pn++a,p.1≠b
def Inv.fpOk{g:St}{H d:Hp}{b:b6}(I:Inv X f g H s)(a:s.heap.objs.size<=b)(i:d b=G2):iT X f d b:=by
 erw[i,CH (g6 I.lt a),I.nofs a,.inr (g9 I.sz a),λx c e z=>?_,λp h z=>?_]
 ·obtain⟨v,q⟩:=I.cell x c e;rwa[y8 (g6 q.lt (by rw[z]; exact a)) (AM _)]
 ·rwa[y8 (g6 (d7 (I.pin p h).1) (by rw[z]; exact a)) (AM _)]
structure bZ(P:e9)(w:i5)(K:ac)(tg:o6)(J:It)(fp:List b6)(it:b6)(tn:Nat->j3->Prop):Prop where
 mem:it∈fp
 obj:∀ i h,tn i h->∀ b∈fp,∃ o,h.get? b=G0 o/\∀ v,o.data≠.cell v
 keep:∀ i h h',tn i h->(∀ b∈fp,∀ o,h.get? b=G0 o->h'.get? b=G0 o)->tn i h'
 item:∀(X:Cx),X.prog=P->X.w=w->X.K=K->X.calm=G3->∀(i:Nat)(G5:List (b6×Ad))(s:b9)(σ:St)(H:Hp)(E:b7->b9->Prop),Inv X G5 σ H s->(∀ b∈fp,iT X G5 H b)->tn i s.heap->J.go i H ->
  wpAny (model P w) X.A (pyNext (.ref it)) (λr s1=>∃ u,r=G0 u /\
   wpAny (model P w) X.A (letOwnedTupleGo tg (.ref it) u) (λ_ s2=>∃ x H',Inv X G5 σ H' s2/\xN x u/\J.yld i H x H'/\tn (i+1) s2.heap/\∀ b∈fp,H' b=G2) E s1) E s
 done:∀(X:Cx),X.prog=P->X.w=w->X.K=K->X.calm=G3->∀(i:Nat)(G5:List (b6×Ad))(s:b9)(σ:St)(H:Hp)(E:b7->b9->Prop),Inv X G5 σ H s->(∀ b∈fp,iT X G5 H b)->tn i s.heap->J.stop i H ->
  wpAny (model P w) X.A (pyNext (.ref it)) (λr s1=>r=G2/\Inv X G5 σ H s1) E s
 self:∀(A:u8)(i:Nat)(s:b9)(Q:b7->b9->Prop)(E:b7->b9->Prop),tn i s.heap->Q (.ref it) s->wpAny (model P w) A (pyIter (.ref it)) Q E s
abbrev TI:=St->Hp->(It->Hp->Prop)->Prop
def PIE(X:Cx)(f:List (b6×Ad))(g:St)(h:o6)(R:It->Hp->Prop)(a:b7)(d:b9):Prop :=
 ∃(e:b6)(fp:List b6)(tn:Nat->j3->Prop)(J:It)(c:Hp),a=.ref e/\Inv X f g c d/\bZ X.prog X.w X.K h J fp e tn/\tn 0 d.heap/\(∀ b∈fp,iT X f c b)/\R J c
def PI(X:Cx)(d iter:o6)(c:TI):Prop :=
 ∀(b:List (b6×Ad))(s:b9)(a:St)(H:Hp)(R:It->Hp->Prop),Inv X b a H s->c a H R ->
  wpAny (model X.prog X.w) X.A (eval iter X.env) (λv e=>wpAny (model X.prog X.w) X.A (pyIter v) (PIE X b a d R) X.xe e) X.xe s

def iN{E:b7->b9->Prop}{s:b9}{Q:Unit->b9->Prop}(e:s.heap.get? d=G0 o)(g:o.cls=.type n)(hd:o.data=.fields b)
  (f:["enumerate","zip","dict_itemiterator","dict_reverseitemiterator","odict_iterator","itertools.zip_longest","itertools.pairwise"].contains n=G4) (a:Q () s):wpAny M A (letOwnedTupleGo c (.ref d) u) Q E s:=by
 unfold letOwnedTupleGo;cases c <;> first
  | exact c9 a
  | (cases u <;> first
    | exact c9 a
    | (refine b0 (wpAny_load e ?_)
       rw[g,hd];show wpAny M A (if (["enumerate","zip","dict_itemiterator","dict_reverseitemiterator","odict_iterator","itertools.zip_longest","itertools.pairwise"].contains n&&b[0]? == G0 (rawInt _))=G3 then _ else _) Q E s;rw[y3 (by intro h; rw[f,CO] at h; cases h)];rwa[c9 a]))

def Itl(K:ac)(a:b6):It :=
 ⟨λi H=>∃ b x,SqL K H a b/\b[i]?=G0 x,λi H x c=>c=H/\∀ b,SqL K H a b->b[i]?=G0 x,λi H=>∃ b,SqL K H a b/\b.length<=i⟩
def Itt(K:ac)(a:b6):It :=
 ⟨λi H=>∃ b x,SqT K H a b/\b[i]?=G0 x,λi H x c=>c=H/\∀ b,SqT K H a b->b[i]?=G0 x,λi H=>∃ b,SqT K H a b/\b.length<=i⟩
def Itr(lo:Int)(n:Nat):It:=⟨λi _=>i<n,λi H x a=>a=H/\x=.int (lo+i),λi _=>n<=i⟩
def lI{K:ac}(a f:b6):bZ P w K S (Itl K a) [f] f (λi h=>h.IsListIter f a i) where
 mem:=by simp
 obj:=λi h st b g=>by
  have e:b=f:=by simpa using g
  subst e;obtain⟨o,e,c,d⟩:=st;exact⟨o,e,λv z=>by rw[d] at z; cases z⟩
 keep:=λi h n st k=>st.at λo e=>k f (by simp) o e
 item:=by
  intro X B y C O i Q s N H E I m st A;subst B y C;obtain⟨R,x,l,t⟩:=A;obtain⟨r,q,p,Y⟩:=I.list l;obtain⟨u,hu,ru⟩:=q.get t;obtain⟨M,L,f2,J,G,D⟩:=m f (by simp);refine DA st p.isList (x:=u) (by simpa using hu) λn j T=>?_;have I1:Inv X Q N H { s with heap:=n }:=I.turned (t':=s.toks) (λb o g e=>(T.2 b g).trans e) M L J G D;obtain⟨o,e,c,d⟩:=id j;exact⟨u,U,iN (s:={ s with heap:=n }) e c d (by decide) ⟨x,H,I1,ru,⟨U,λys Z=>by rw[I.list_inj Z l]; rwa[t]⟩,j,λb g=>(m b g).1⟩⟩
 done:=by
  intro X B y C O i Q s N H E I m st A;subst B y C;obtain⟨R,l,t⟩:=A;obtain⟨r,q,p,Y⟩:=I.list l;obtain⟨M,L,f2,J,G,D⟩:=m f (by simp);have hl:=q.length;rwa[wpAny_pyNext_list_end (I.ok.hd O) st p.isList (by simp; lia) λn eb=>⟨rfl,I.turned (t':=s.toks) (λb o g e=>eb b o g e) M L J G D⟩]
 self:=λ_ _ _ _ _ st h=>DW st h
def iK{K:ac}(a g:b6):bZ P w K S (Itt K a) [g] g (λi h=>h.IsTupleIter g a i) where
 mem:=by simp
 obj:=λi h st b j=>by
  have e:b=g:=by simpa using j
  subst e;obtain⟨o,e,c,d⟩:=st;exact⟨o,e,λv z=>by rw[d] at z; cases z⟩
 keep:=λi h q st k=>st.at λo e=>k g (by simp) o e
 item:=by
  intro X B y C O i Q s N H E I n st A;subst B y C;obtain⟨R,x,m,t⟩:=A;obtain⟨f,r,p,Y⟩:=I.tuple m;obtain⟨u,hu,ru⟩:=r.get t;obtain⟨M,L,f2,J,G,D⟩:=n g (by simp);refine wpAny_pyNext_tuple_item st (show s.heap.IsTuple a f.toArray from p) (x:=u) (by simpa using hu) λq l T=>?_;have I1:Inv X Q N H { s with heap:=q }:=I.turned (t':=s.toks) (λb o j e=>(T.2 b j).trans e) M L J G D;obtain⟨o,e,c,d⟩:=id l;exact⟨u,U,iN (s:={ s with heap:=q }) e c d (by decide) ⟨x,H,I1,ru,⟨U,λys Z=>by rw[I.tuple_inj Z m]; rwa[t]⟩,l,λb j=>(n b j).1⟩⟩
 done:=by
  intro X B y C O i Q s N H E I n st A;subst B y C;obtain⟨R,m,t⟩:=A;obtain⟨f,r,p,Y⟩:=I.tuple m;obtain⟨M,L,f2,J,G,D⟩:=n g (by simp);have hl:=r.length;exact wpAny_pyNext_tuple_end (I.ok.hd O) st (show s.heap.IsTuple a f.toArray from p) (by simp; lia) λq eb=>⟨rfl,I.turned (t':=s.toks) (λb o j e=>eb b o j e) M L J G D⟩
 self:=λ_ _ _ _ _ st h=>wpAny_pyIter_tupleiter st h
def iB{K:ac}(a:b6)(lo:Int)(n:Nat):bZ P w K J (Itr lo n) [a] a (λi h=>IsRangeIter h a (lo+(i:Nat)*1) ((n:Int)-(i:Nat)) 1) where
 mem:=by simp
 obj:=λi h st b c=>by
  have e:b=a:=by simpa using c
  subst e;exact⟨_,st,λv z=>by
   have G:Data.fields _=Data.cell v:=z;cases G⟩
 keep:=λi h g st k=>k a (by simp) _ st
 item:=by
  intro X p j q m i D s B H E I f st l;subst p j q;obtain⟨A,y,N,x,u,r⟩:=f a (by simp);have W:=Walks.range (prog:=X.prog) (w:=X.w) (I.ok.hd m) a lo 1 n;erw[W.item i s _ _ l st λv g C M d L=>?_];obtain⟨t,rfl⟩:=M;have Q:Inv X D B H { s with heap:=g,toks:=C }:=I.turned (λb o c e=>L b o (by simpa using c) e) A y x u r;refine⟨_,U,iN (s:={ s with heap:=g,toks:=C }) (n := "range_iterator") d rfl rfl (by decide) ⟨.int (lo+i),H,Q,⟨t,?_⟩,⟨U,U⟩,d,λb c=>(f b c).1⟩⟩;rw[Int.mul_one]
 done:=by
  intro X p j q m i D s B H E I f st l;subst p j q;obtain⟨A,y,N,x,u,r⟩:=f a (by simp);exact wpAny_pyNext_range_end (I.ok.hd m) st (by have:n<=i:=l; lia) λg O=>⟨rfl,I.turned (t':=s.toks) (λb o c e=>O b o c e) A y x u r⟩
 self:=λ_ _ _ _ _ st h=>wpAny_pyIter_rangeiter st h
end L2

namespace L2
section
variable{X:Cx}{tg:o6}
def iList(K:ac)(tl:TE):TI:=λc H R=>tl c H λx b=>∃ a,A3 (x=.ref a) (∃ d,SqL K b a d) (R (Itl K a) b)
def gP{tl:TE}(n:PE X l tl):PI X tg l (iList X.K tl):=by
 intro u s f H R I h;erw[thn (n u s f H _ I h) λv c ⟨x,t,d,g,i⟩=>?_];obtain⟨a,e,⟨w,m⟩,q⟩:=i;subst e;cases g;obtain⟨j,y,p,z⟩:=d.list m;erw[BC p.isList ?_];erw[c.heap.objs.size,[c.heap.objs.size],_,_,t,U,d.kept (t':=c.toks) λb o e=>b8 _ e,lI a _,⟨_,d6 _ rfl,U,U⟩,λb r=>?_,q];have e:b=c.heap.objs.size:=by simpa using r
 subst e;rwa[d.fpOk (d8 _) (d.hok.fresh (d8 _))]
def jF{a:St}{H:Hp}{R:It->Hp->Prop}{E:b7->b9->Prop}{lo hi:Int}{c:Nat}(I:Inv X f a H s)(h1 : -(2^62)<=lo)(h2:lo<2^62)(h3 : -(2^62)<=hi)(h4:hi<2^62)
  (q:R (Itr lo (hi-lo).toNat) H):wpAny (model X.prog X.w) X.A (pyIter (.ref s.heap.objs.size)) (PIE X f a tg R) E { s with heap:=s.heap.push { cls:=.type "range",data:=.fields #[.int lo t,.int hi u,.int 1 v] },toks:=c }:=by
 refine wpAny_pyIter_range (IsRange.new ..) (small_one h1 h2 h3 h4) ?_;have d:Inv X f a H { s with heap:=s.heap.push { cls:=.type "range",data:=.fields #[.int lo t,.int hi u,.int 1 v] },toks:=c }:=I.kept λb o e=>b8 _ e;refine⟨(s.heap.push { cls:=.type "range",data:=.fields #[.int lo t,.int hi u,.int 1 v] }).objs.size,[(s.heap.push { cls:=.type "range",data:=.fields #[.int lo t,.int hi u,.int 1 v] }).objs.size],_,_,H,U,
  d.kept (t':=c) λb o e=>b8 _ e,iB _ lo (hi-lo).toNat,?_,λb g=>?_,q⟩
 ·have i:lo+((0:Nat):Int)*1=lo:=by simp
  have h:(((hi-lo).toNat:Nat):Int)-((0:Nat):Int)=Gw lo hi 1:=by rw[rangeSize_one]; split <;> lia
  show IsRangeIter _ _ (lo+((0:Nat):Int)*1) ((((hi-lo).toNat:Nat):Int)-((0:Nat):Int)) 1;rw[i,h];rwa[d6 _ rfl]
 ·have e:b=(s.heap.push { cls:=.type "range",data:=.fields #[.int lo t,.int hi u,.int 1 v] }).objs.size:=by simpa using g
  subst e;rwa[d.fpOk (d8 _) (d.hok.fresh (d8 _))]
def iRng1(c:TA):TI:=λa H R=>c a H λb d=>∃ j:Int,A4 (b=[.int j]) (-(2^62)<=j) (j<2^62) (R (Itr 0 j.toNat) d)
def iRng2(c:TA):TI:=λa H R=>c a H λb d=>E2 λ(i j:Int)=>A3 (b=[.int i,.int j]) (A4 (-(2^62)<=i) (i<2^62) (-(2^62)<=j) (j<2^62)) (R (Itr i (j-i).toNat) d)
def sC{a:o6}(n:Gl X "range")(m:X.mg "range" = G2)(o:PA X [a] c)(l:starEach [a] X.env=[(G4,eval a X.env)]:=by rfl):PI X tg (.Call (.Name "range" p) [a] [] pos) (iRng1 c):=by
 intro v s d H R I h;erw[Call_ (ph I n m boot_range (AK (thn (o pos v s d H _ I h) λx y ⟨w,z,u,g,b⟩=>?_) l rfl))];obtain⟨j,e,b,i,q⟩:=b;subst e;cases g with
 | cons r f =>
  cases f;obtain⟨t,rfl⟩:=r;exact call_range_1 (jF u (by lia) (by lia) b i (by simpa using q))
def iW{a b:o6}(y:Gl X "range")(x:X.mg "range" = G2)(z:PA X [a,b] g)(w:starEach [a,b] X.env=[(G4,eval a X.env),(G4,eval b X.env)]:=by rfl)(c:starEach [b] X.env=[(G4,eval b X.env)]:=by rfl) :
  PI X tg (.Call (.Name "range" p) [a,b] [] pos) (iRng2 g):=by
 intro B s l H R I h;erw[Call_ (ph I y x boot_range (AK (thn (z pos B s l H _ I h) λD G ⟨C,J,A,m,f⟩=>?_) (by rw[w,c]) (by rw[c]; rfl)))];obtain⟨i,j,e,⟨f,v,u,o⟩,q⟩:=f;subst e;cases m with
 | cons r d =>
  cases d with
  | cons n d =>
   cases d;obtain⟨t,rfl⟩:=r;obtain⟨E,rfl⟩:=n;rwa[call_range_2 (jF A f v u o q)]

def tFor(f:TI)(g:TG)(h:TS):TS:=λD a H=>f a H λJ l=>∃ W:Nat->Nat->St->Hp->Prop,(∃ m,W 0 m a l)/\∀ i m a H,W i m a H->(J.stop i H/\D.nx a H)\/(J.go i H/\∃ N:St->Hp->Prop,(∀ b c,N b c->∃ e,e<m/\W (i+1) e b c)/\∀ x c,J.yld i H x c->g x a c λd j=>h { D with nx:=N,ct:=N,bk:=D.nx } d j)
def pK(fp:List b6)(h:j3):List (b6×Ad):=fp.filterMap λb=>(h.get? b).map λo=>(b,o)
def vW{fp:List b6}{h:j3}{b:b6}(a:b∈fp)(e:h.get? b=G0 o):(b,o)∈pK fp h:=B1.mpr ⟨b,a,by rw[e]; rfl⟩
def eU{p:b6×Ad}(a:p∈pK fp h):p.1∈fp/\h.get? p.1=G0 p.2:=by
 obtain⟨b,c,e⟩:=B1.mp a;cases q:h.get? b with
 | none=>rw[q] at e; cases e
 | some o =>
  rw[q] at e;have d:(b,o)=p:=o0 e;subst d;rwa[c,q]
def Inv.pinned{c:St}{H:Hp}{fp:List b6}(I:Inv X a c H s)(j:∀ b∈fp,iT X a H b)(i:∀ b∈fp,∃ o,s.heap.get? b=G0 o/\∀ v,o.data≠.cell v):Inv X (a++pK fp s.heap) c H s :=
 I.pins_of λp h=>(w6.mp h).elim (λz=>I.pin p (k9 _ z)) λz=>by
  obtain⟨f,e⟩:=eU z;obtain⟨n,m,l,_⟩:=j p.1 f;obtain⟨o,g,d⟩:=i p.1 f;rw[e] at g; cases g;rwa[e,n,m,l,d]
def Inv.unpinned{b c:List (b6×Ad)}{a:St}{H:Hp}(I:Inv X (b++c) a H s):Inv X b a H s:=I.pins_of λp d=>I.pin p (k9 _ (Cp _ d))
def rP{iter:o6}(L:PassesOwn (model X.prog X.w) X.A X.env X.xe)(hc:X.calm=G3)(hi:PI X tg iter wi)(hg:PG X tg g)(p:PSs X body tb)
  (hs:∀ x,foldedSetIterable iter X.env x=pure x:=by intro _; rfl):PS X (.For tg iter body [] pos) (tFor wi g tb):=by
 intro B s σ H D I h;erw[wpAny_For (thn (hi B s σ H _ I h) λv s1 h1=>thn h1 λitv s2 h2=>?_) hs];obtain⟨it,fp,tn,J,H2,e,I2,T,Q,f2,W,⟨m0,w0⟩,C⟩:=h2;subst e;have l:∀{y:Hp},(∀ b∈fp,y b=G2)->∀ b∈fp,iT X B y b:=λhn b p=>⟨hn b p,(f2 b p).2⟩;erw[codeAny_forLoop_any (λn s'=>∃ i j y,Inv X B j y s'/\tn i s'.heap/\(∀ b∈fp,y b=G2)/\W i n j y) ?_ m0 ⟨0,σ,H2,I2,Q,λb p=>(f2 b p).1,w0⟩];rintro n s3 ⟨i,c,O,I3,E,M,w3⟩;rcases C i n c O w3 with ⟨stop,qn⟩ | ⟨go,N,hN,step⟩
 ·erw[A0 L (thn (T.done X rfl rfl rfl hc i B s3 c O X.xe I3 (l M) E stop) λr s4 ⟨S,I4⟩=>?_)];subst S;rwa[BY ⟨c,O,I4,qn⟩]
 ·refine A0 L (thn (T.item X rfl rfl rfl hc i B s3 c O X.xe I3 (l M) E go) λr s4 ⟨u,S,h4⟩=>?_);subst S;refine A0 L (thn h4 λ_ s5 ⟨x,H5,I5,r5,y5,st5,Y⟩=>?_);have Z:=I5.pinned (l Y) (T.obj _ _ st5);refine A0 L (thn (hg _ s5 c H5 x u _ Z r5 (step x H5 y5)) λ_ s6 ⟨P,H6,I6,q6⟩=>?_);refine A0 L (thn (p _ s6 P H6 _ I6 q6) λf R z=>?_);have again:∀{a:St}{t:Hp},Inv X (B++pK fp s5.heap) a t R->N a t->∃ m,m<n/\∃ i j y,Inv X B j y R/\tn i R.heap/\(∀ b∈fp,y b=G2)/\W i m j y:=λ{a t} q G=>by
   obtain⟨m',hm,w7⟩:=hN a t G;erw[m',hm,i+1,a,t,q.unpinned,T.keep _ _ _ st5 λb p o e=>(q.pin (b,o) (k9 _ (k9 _ (vW p e)))).1,λb p=>?_,w7];obtain⟨o,e,d⟩:=T.obj _ _ st5 b p;exact(q.pin (b,o) (k9 _ (k9 _ (vW p e)))).2.1
  cases f with
  | next=>obtain⟨a,t,q,G⟩:=z; rwa[again q G]
  | cont=>obtain⟨a,t,q,G⟩:=z; rwa[again q G]
  | brk=>obtain⟨a,t,q,z⟩:=z; rwa[a,t,q.unpinned,z]
  | ret v=>obtain⟨x7,a,t,q,r7,z⟩:=z; rwa[x7,a,t,q.unpinned,r7,z]
end

def jT{K:ac}{xs:List V}{g:TG}{n:TS}{D:jY}{b:St}{H:Hp}(c:Nat->St->Hp->Prop)(h0:c 0 b H)(t:∀ i b H,i<=xs.length->c i b H->SqL K H a xs)
  (s:∀ i x b H,xs[i]?=G0 x->c i b H->g x b H λd l=>n { D with nx:=c (i+1),ct:=c (i+1),bk:=D.nx } d l) (hd:∀ b H,c xs.length b H->D.nx b H) :
  ∃ W:Nat->Nat->St->Hp->Prop,(∃ m,W 0 m b H)/\∀ i m b H,W i m b H ->
   ((Itl K a).stop i H/\D.nx b H)\/((Itl K a).go i H/\∃ N:St->Hp->Prop,(∀ f h,N f h->∃ o,o<m/\W (i+1) o f h)/\∀ x h,(Itl K a).yld i H x h->g x b h λd l=>n { D with nx:=N,ct:=N,bk:=D.nx } d l):=by
 exists λi m b H=>m=xs.length-i/\i<=xs.length/\c i b H,⟨xs.length,by simp,j8 _,h0⟩;rintro i m b H ⟨rfl,hi,p⟩;have q:=t i b H hi p;by_cases j:i<xs.length
 ·erw[.inr ⟨⟨xs,xs[i],q,by simp[j]⟩,c (i+1),λf h r=>⟨xs.length-(i+1),by lia,rfl,j,r⟩,λx h y=>?_⟩];obtain⟨e,y⟩:=y;subst e;rwa[s i x b _ (y xs q) p]
 ·have e:i=xs.length:=by lia
  subst e;rwa[.inl ⟨⟨xs,q,d8 _⟩,hd b H p⟩]
def aq{K:ac}{xs:List V}{g:TG}{n:TS}{D:jY}{b:St}{H:Hp}(c:Nat->St->Hp->Prop)(h0:c 0 b H)(t:∀ i b H,i<=xs.length->c i b H->SqT K H a xs)
  (s:∀ i x b H,xs[i]?=G0 x->c i b H->g x b H λd l=>n { D with nx:=c (i+1),ct:=c (i+1),bk:=D.nx } d l) (hd:∀ b H,c xs.length b H->D.nx b H) :
  ∃ W:Nat->Nat->St->Hp->Prop,(∃ m,W 0 m b H)/\∀ i m b H,W i m b H ->
   ((Itt K a).stop i H/\D.nx b H)\/((Itt K a).go i H/\∃ N:St->Hp->Prop,(∀ f h,N f h->∃ o,o<m/\W (i+1) o f h)/\∀ x h,(Itt K a).yld i H x h->g x b h λd l=>n { D with nx:=N,ct:=N,bk:=D.nx } d l):=by
 exists λi m b H=>m=xs.length-i/\i<=xs.length/\c i b H,⟨xs.length,by simp,j8 _,h0⟩;rintro i m b H ⟨rfl,hi,p⟩;have q:=t i b H hi p;by_cases j:i<xs.length
 ·erw[.inr ⟨⟨xs,xs[i],q,by simp[j]⟩,c (i+1),λf h r=>⟨xs.length-(i+1),by lia,rfl,j,r⟩,λx h y=>?_⟩];obtain⟨e,y⟩:=y;subst e;rwa[s i x b _ (y xs q) p]
 ·have e:i=xs.length:=by lia
  subst e;rwa[.inl ⟨⟨xs,q,d8 _⟩,hd b H p⟩]
def rS{lo:Int}{n:Nat}{g:TG}{l:TS}{D:jY}{a:St}{H:Hp}(f:Nat->St->Hp->Prop)(h0:f 0 a H)
  (r:∀ i a H,i<n->f i a H->g (.int (lo+i)) a H λb j=>l { D with nx:=f (i+1),ct:=f (i+1),bk:=D.nx } b j) (hd:∀ a H,f n a H->D.nx a H) :
  ∃ W:Nat->Nat->St->Hp->Prop,(∃ m,W 0 m a H)/\∀ i m a H,W i m a H ->
   ((Itr lo n).stop i H/\D.nx a H)\/((Itr lo n).go i H/\∃ N:St->Hp->Prop,(∀ c h,N c h->∃ o,o<m/\W (i+1) o c h)/\∀ x h,(Itr lo n).yld i H x h->g x a h λb j=>l { D with nx:=N,ct:=N,bk:=D.nx } b j):=by
 exists λi m a H=>m=n-i/\i<=n/\f i a H,⟨n,by simp,j8 _,h0⟩;rintro i m a H ⟨rfl,hi,p⟩;by_cases d:i<n
 ·erw[.inr ⟨d,f (i+1),λc h q=>⟨n-(i+1),by lia,rfl,d,q⟩,λx h y=>?_⟩];obtain⟨e,y⟩:=y;subst e y;rwa[r i a _ d p]
 ·have e:i=n:=by lia
  subst e;rwa[.inl ⟨d8 _,hd a H p⟩]
def jM{c:TT}{i:TS}{D:jY}{a:St}{H:Hp}(h:St->Hp->Prop)(g:St->Hp->Nat)(h0:h a H)
  (o:∀ a H,h a H->c a H λb e=>if b=G3 then i { D with nx:=λd f=>h d f/\g d f<g a H,ct:=λd f=>h d f/\g d f<g a H,bk:=D.nx } a e else D.nx a e)
  (mono:∀ a H Q j,(∀ b e,Q b e->j b e)->c a H Q->c a H j):bK c i D a H:=by
 exists λm a H=>m=g a H/\h a H,⟨_,U,h0⟩;rintro m a H ⟨rfl,p⟩;erw[mono a H _ _ (λb e q=>?_) (o a H p)];cases b with
 | true=>rwa[_,λd f ⟨n,l⟩=>⟨_,l,U,n⟩,q]
 | false=>rwa[q]
end L2

namespace L2

abbrev R2:=V->V->Hp->VK->Prop
def OpR(X:Cx)(f:b7->b7->FG b7)(r:R2):Prop :=
 ∀(b:List (b6×Ad))(s:b9)(a:St)(H:Hp)(x y:V)(v u:b7)(Q:VK),Inv X b a H s->xN x v->xN y u->r x y H Q ->
  wpAny (model X.prog X.w) X.A (f v u) (EP X b a Q) X.xe s
def UnR(X:Cx)(f:b7->FG b7)(r:V->Hp->VK->Prop):Prop :=
 ∀(b:List (b6×Ad))(s:b9)(a:St)(H:Hp)(x:V)(v:b7)(Q:VK),Inv X b a H s->xN x v->r x H Q ->
  wpAny (model X.prog X.w) X.A (f v) (EP X b a Q) X.xe s
def sV(X:Cx)(f:b7)(r:List V->Hp->VK->Prop):Prop :=
 ∀(d:List (b6×Ad))(s:b9)(a:St)(H:Hp)(b:List V)(c:List b7)(Q:VK),Inv X d a H s->xD b c->r b H Q ->
  wpAny (model X.prog X.w) X.A (call f c) (EP X d a Q) X.xe s
def tOp(r:R2)(c b:TE):TE:=λa H Q=>c a H λx e=>b a e λy d=>r x y d Q
def tUn(r:V->Hp->VK->Prop)(b:TE):TE:=λa H Q=>b a H λx c=>r x c Q
inductive RI(C:Int->Int->Prop)(g:Int->Int->V)(x y:V)(H:Hp)(Q:VK):Prop where
 | mk (i j:Int) (ex:x=.int i) (ey:y=.int j) (c:C i j) (q:Q (g i j) H)
def rI(C:Int->Int->Prop)(g:Int->Int->V):R2:=λx y H Q=>RI C g x y H Q
inductive RI0(g:Int->Int->V)(x y:V)(H:Hp)(Q:VK):Prop where
 | mk (i j:Int) (ex:x=.int i) (ey:y=.int j) (q:Q (g i j) H)
def rI0(g:Int->Int->V):R2:=λx y H Q=>RI0 g x y H Q
inductive RU(g:Int->V)(x:V)(H:Hp)(Q:VK):Prop where
 | mk (i:Int) (ex:x=.int i) (q:Q (g i) H)
def rU(g:Int->V):V->Hp->VK->Prop:=λx H Q=>RU g x H Q

section
variable{X:Cx}{a b c:o6}{ta tb tc:TE}{pos:BM}

def XS(B:PE X a ta)(z:PE X b tb){d:St}{H:Hp}{R:V->V->Hp->Prop}(I:Inv X l d H s)
  (h:ta d H λx m=>tb d m λy e=>R x y e) {Q:b7->b9->Prop} {f:b7->b7->FG b7}
  (t:∀ v u j x y e,Inv X l d e j->xN x v->xN y u->R x y e->wpAny (model X.prog X.w) X.A (f v u) Q X.xe j) :
  wpAny (model X.prog X.w) X.A (eval a X.env) (λv i=>wpAny (model X.prog X.w) X.A (eval b X.env) (λu g=>wpAny (model X.prog X.w) X.A (f v u) Q X.xe g) X.xe i) X.xe s:=by
 erw[thn (B l s d H _ I h) λv n ⟨x,m,D,p,r⟩=>?_];erw[thn (z l n d m _ D r) λu j ⟨y,e,C,o,q⟩=>?_];rwa[t v u j x y e C p o q]

def wO(j:OpR X (binaryOp d) r)(m:PE X a ta)(l:PE X b tb):PE X (.BinOp a d b pos) (tOp r ta tb):=by
 intro p s e H Q I h;rwa[wpAny_BinOp (XS m l I h λv u f x y o n i g q=>j p f e o x y v u Q n i g q)]
def pe_un{r:V->Hp->VK->Prop}(l:UnR X (unaryOp e) r)(m:PE X a ta):PE X (.UnaryOp e a pos) (tUn r ta):=by
 intro f s d H Q I h;rwa[UnaryOp_ (thn (m f s d H _ I h) λv g ⟨x,o,n,i,j⟩=>l f g d o x v Q n i j)]
def opI{f:b7->b7->FG b7}{C:Int->Int->Prop}{g:Int->Int->Int}
  (rule:∀(i j:Int)(t u:GU)(s:b9)(Q:b7->b9->Prop)(E:b7->b9->Prop),C i j->Q (.int (g i j) s.toks) { s with toks:=s.toks+1 }->wpAny (model X.prog X.w) X.A (f (.int i t) (.int j u)) Q E s) :
  OpR X f (rI C λi j=>.int (g i j)):=by
 intro o s n H x y v u Q I l e h;obtain⟨i,j,rfl,rfl,m,q⟩:=h;obtain⟨t,rfl⟩:=l;obtain⟨d,rfl⟩:=e;rwa[rule i j t d s _ _ m ⟨.int (g i j),H,I.tok _,⟨_,rfl⟩,q⟩]
def opI0{f:b7->b7->FG b7}{g:Int->Int->Int}
  (rule:∀(i j:Int)(t u:GU)(s:b9)(Q:b7->b9->Prop)(E:b7->b9->Prop),Q (.int (g i j) s.toks) { s with toks:=s.toks+1 }->wpAny (model X.prog X.w) X.A (f (.int i t) (.int j u)) Q E s) :
  OpR X f (rI0 λi j=>.int (g i j)):=by
 intro n s m H x y v u Q I l e h;obtain⟨i,j,rfl,rfl,q⟩:=h;obtain⟨t,rfl⟩:=l;obtain⟨d,rfl⟩:=e;rwa[rule i j t d s _ _ ⟨.int (g i j),H,I.tok _,⟨_,rfl⟩,q⟩]
def XG{f:b7->b7->FG b7}{g:Int->Int->Bool}
  (rule:∀(i j:Int)(t u:GU)(s:b9)(Q:b7->b9->Prop)(E:b7->b9->Prop),Q (.bool (g i j)) s->wpAny (model X.prog X.w) X.A (f (.int i t) (.int j u)) Q E s) :
  OpR X f (rI0 λi j=>.bl (g i j)):=by
 intro n s m H x y v u Q I l e h;obtain⟨i,j,rfl,rfl,q⟩:=h;obtain⟨t,rfl⟩:=l;obtain⟨d,rfl⟩:=e;rwa[rule i j t d s _ _ ⟨.bl (g i j),H,I,rfl,q⟩]

def CPow(i j:Int):Prop:=0<=j/\j<=1000000/\i.natAbs<2^64
def XM(i j:Int):Prop:=(-(2^64)<i/\i<2^64)\/(-(2^64)<j/\j<2^64)
def XM.ok{i j:Int}(h:XM i j):IntMulOk i j:=by
 rcases h with ⟨h1,h2⟩ | ⟨h1,h2⟩
 ·rwa[.of_left (intBits_le_64 h1 h2)]
 ·rwa[.of_right (intBits_le_64 h1 h2)]
def bc:OpR X (binaryOp .Add) (rI0 λi j=>.int (i+j)):=opI0 λ_ _ _ _ _ _ _ q=>add_int q
def Xo:OpR X (binaryOp .Sub) (rI0 λi j=>.int (i-j)):=opI0 λ_ _ _ _ _ _ _ q=>sub_int q
def XC:OpR X (binaryOp .Mult) (rI XM λi j=>.int (i*j)):=opI λ_ _ _ _ _ _ _ d q=>mul_int q d.ok
def YH:OpR X (binaryOp .Mod) (rI (λ_ j=>0<j) λi j=>.int (i%j)):=opI λi j _ _ _ _ _ d q=>by
 have h1:(0:Int)<j:=d;rwa[mod_int' (by lia) (by rw[Int.fmod_eq_emod_of_nonneg i (by lia)]; exact q)]
def XD:OpR X (binaryOp .Pow) (rI CPow λi j=>.int (i^j.toNat)):=opI λ_ _ _ _ _ _ _ d q=>pow_int_small d.1 d.2.1 d.2.2 q
def unI{f:b7->FG b7}{g:Int->Int}
  (rule:∀(i:Int)(t:GU)(s:b9)(Q:b7->b9->Prop)(E:b7->b9->Prop),Q (.int (g i) s.toks) { s with toks:=s.toks+1 }->wpAny (model X.prog X.w) X.A (f (.int i t)) Q E s) :
  UnR X f (rU λi=>.int (g i)):=by
 intro j s e H x v Q I d h;obtain⟨i,rfl,q⟩:=h;obtain⟨t,rfl⟩:=d;rwa[rule i t s _ _ ⟨.int (g i),H,I.tok _,⟨_,rfl⟩,q⟩]
def ZT:UnR X (unaryOp .USub) (rU λi=>.int (-i)):=unI λ_ _ _ _ _ q=>neg_int q
end

def Yd:V->V->Bool
 | .non,.non=>G3 | .non,.int _=>G3 | .int _,.non=>G3 | .non,.bl _=>G3 | .bl _,.non=>G3 | .non,.str _=>G3 | .str _,.non=>G3
 | .int _,.int _=>G3 | .bl _,.bl _=>G3 | .str _,.str _=>G3 | .byt _,.byt _=>G3
 | .int _,.str _=>G3 | .str _,.int _=>G3 | .bl _,.str _=>G3 | .str _,.bl _=>G3
 | _,_=>G4
def rEq:R2:=λx y H Q=>Yd x y=G3/\Q (.bl (decide (x=y))) H
def rNe:R2:=λx y H Q=>Yd x y=G3/\Q (.bl (!decide (x=y))) H

def fi{i j:Int} : decide (V.int i=V.int j)=(i == j):=by
 rw[BZ];simp
def bq : decide (V.bl i=V.bl j)=(i == j):=by
 rw[BZ];simp
def fo : decide (V.str i=V.str j)=(i == j):=by
 rw[BZ];simp
def fP : decide (V.byt i=V.byt j)=(i.toList == j.toList):=by
 rw[BZ];cases i;cases j;simp

section
variable{X:Cx}{a b c:o6}{ta tb tc:TE}{pos:BM}
def yP{d:St}{H:Hp}{Q:VK}{k f:Bool}(I:Inv X g d H s)(q:Q (.bl k) H)(e:k=f):EP X g d Q (.bool f) s:=by
 subst e;rwa[.bl k,H,I,U,q]
def dC:OpR X (compareOp .Eq) rEq:=by
 intro m s l H x y v u Q I g d h;obtain⟨f,q⟩:=h;cases x with
 | non =>
  cases g;cases y with
  | non=>cases d; rwa[FY (yP I q (by simp))]
  | bl j=>cases d; rwa[FZ (yP I q (by simp))]
  | int j=>obtain⟨e,rfl⟩:=d; rwa[Ga (yP I q (by simp))]
  | str j=>obtain⟨e,rfl⟩:=d; rwa[Gb (yP I q (by simp))]
  | _=>exact y8 (show G4=G3 from f) g7
 | bl i =>
  cases g;cases y with
  | non=>cases d; rwa[F0 (yP I q (by simp))]
  | bl j=>cases d; rwa[eq_bool (yP I q bq)]
  | str j=>obtain⟨e,rfl⟩:=d; rwa[F1 (yP I q (by simp))]
  | _=>exact y8 (show G4=G3 from f) g7
 | int i =>
  obtain⟨t,rfl⟩:=g;cases y with
  | non=>cases d; rwa[Gc (yP I q (by simp))]
  | int j=>obtain⟨e,rfl⟩:=d; rwa[eq_int (yP I q fi)]
  | str j=>obtain⟨e,rfl⟩:=d; rwa[Gd (yP I q (by simp))]
  | _=>exact y8 (show G4=G3 from f) g7
 | str i =>
  obtain⟨t,rfl⟩:=g;cases y with
  | non=>cases d; rwa[Ge (yP I q (by simp))]
  | bl j=>cases d; rwa[F2 (yP I q (by simp))]
  | int j=>obtain⟨e,rfl⟩:=d; rwa[Gf (yP I q (by simp))]
  | str j=>obtain⟨e,rfl⟩:=d; rwa[eq_str (yP I q fo)]
  | _=>exact y8 (show G4=G3 from f) g7
 | byt i =>
  obtain⟨t,rfl⟩:=g;cases y with
  | byt j=>obtain⟨e,rfl⟩:=d; rwa[PySem.W.eq_bytes (yP I q fP)]
  | _=>exact y8 (show G4=G3 from f) g7
 | _=>cases y <;> exact y8 (show G4=G3 from f) g7
def du:OpR X (compareOp .NotEq) rNe:=by
 intro m s l H x y v u Q I g d h;obtain⟨f,q⟩:=h;cases x with
 | non =>
  cases g;cases y with
  | non=>cases d; rwa[F3 (yP I q (by simp))]
  | bl j=>cases d; rwa[F4 (yP I q (by simp))]
  | int j=>obtain⟨e,rfl⟩:=d; rwa[Gg (yP I q (by simp))]
  | str j=>obtain⟨e,rfl⟩:=d; rwa[Gh (yP I q (by simp))]
  | _=>exact y8 (show G4=G3 from f) g7
 | bl i =>
  cases g;cases y with
  | non=>cases d; rwa[F5 (yP I q (by simp))]
  | bl j=>cases d; rwa[ne_bool (yP I q (congrArg not bq))]
  | str j=>obtain⟨e,rfl⟩:=d; rwa[F6 (yP I q (by simp))]
  | _=>exact y8 (show G4=G3 from f) g7
 | int i =>
  obtain⟨t,rfl⟩:=g;cases y with
  | non=>cases d; rwa[Gi (yP I q (by simp))]
  | int j=>obtain⟨e,rfl⟩:=d; rwa[ne_int (yP I q (congrArg not fi))]
  | str j=>obtain⟨e,rfl⟩:=d; rwa[Gj (yP I q (by simp))]
  | _=>exact y8 (show G4=G3 from f) g7
 | str i =>
  obtain⟨t,rfl⟩:=g;cases y with
  | non=>cases d; rwa[Gk (yP I q (by simp))]
  | bl j=>cases d; rwa[F7 (yP I q (by simp))]
  | int j=>obtain⟨e,rfl⟩:=d; rwa[Gm (yP I q (by simp))]
  | str j=>obtain⟨e,rfl⟩:=d; rwa[ne_str (yP I q (congrArg not fo))]
  | _=>exact y8 (show G4=G3 from f) g7
 | byt i =>
  obtain⟨t,rfl⟩:=g;cases y with
  | byt j=>obtain⟨e,rfl⟩:=d; rwa[PySem.W.ne_bytes (yP I q (congrArg not fP))]
  | _=>exact y8 (show G4=G3 from f) g7
 | _=>cases y <;> exact y8 (show G4=G3 from f) g7

def cK:OpR X (compareOp .Lt) (rI0 λi j=>.bl (decide (i<j))):=XG λ_ _ _ _ _ _ _ q=>lt_int q
def dH:OpR X (compareOp .LtE) (rI0 λi j=>.bl (decide (i<=j))):=XG λ_ _ _ _ _ _ _ q=>le_int q
def gK:OpR X (compareOp .Gt) (rI0 λi j=>.bl (decide (j<i))):=XG λ_ _ _ _ _ _ _ q=>gt_int q
def aJ:OpR X (compareOp .GtE) (rI0 λi j=>.bl (decide (j<=i))):=XG λ_ _ _ _ _ _ _ q=>ge_int q
def cZ:OpR X (compareOp .Is) (λx y H Q=>y=.non/\Q (.bl (decide (x=.non))) H):=by
 intro g s f H x y v u Q I d e h;obtain⟨rfl,q⟩:=h;cases e;refine is_none_gen (yP I q ?_);cases x <;> first
  | (cases d; rfl)
  | (obtain⟨t,rfl⟩:=d; rfl)
def vP(b:o6){d:FN}(h:d≠.In:=by decide)(h2:d≠.NotIn:=by decide):behindInMarks d b=false:=by
 have f:(d == CmpOp.In)=false:=by cases d <;> first | rfl | exact y8 rfl h
 have e:(d == CmpOp.NotIn)=false:=by cases d <;> first | rfl | exact y8 rfl h2
 cases b <;> simp[behindInMarks,f,e]
def vZ(j:OpR X (compareOp d) r)(n:PE X a ta)(m:PE X b tb)(l:behindInMarks d b=G4):PE X (.Compare a [d] [b] pos) (tOp r ta tb):=by
 intro t s e H Q I h;rwa[wpAny_Compare1 (XS n m I h λv u f x y p o i g q=>j t f e p x y v u Q o i g q) l]
def ZV(t:TE):TT:=λd H Q=>t d H λx e=>∃ k,x=.bl k/\Q k e
def yW(t:OpR X (compareOp f) r)(B:PE X a ta)(A:PE X b tb)(w:behindInMarks f b=G4):PT X (.Compare a [f] [b] pos) (ZV (tOp r ta tb)):=by
 intro g s d H Q I h;refine DV (thn (B g s d H _ I h) λv j ⟨x,L,E,n,q⟩=>thn (A g j d L _ E q) λu i ⟨y,J,D,m,p⟩ =>
  thn (t g i d J x y v u _ D n m p) λc M ⟨z,G,C,l,k,e,o⟩=>?_) w
 subst e;cases l;rwa[Aq ⟨G,C,o⟩]
def ZU(r g:R2)(ta tb tc:TE):TE:=λd H Q=>ta d H λx j=>tb d j λy i=>r x y i λz e=>∃ k,z=.bl k/\(if k=G3 then tc d e λf h=>g y f h Q else Q (.bl G4) e)
def jH(O:OpR X (compareOp j) r)(l:OpR X (compareOp f) n)(T:PE X a ta)(S:PE X b tb)(R:PE X c tc)
  (P:lastMarks [j,f] [b,c]=false:=by with_unfolding_all rfl):PE X (.Compare a [j,f] [b,c] pos) (ZU r n ta tb tc):=by
 intro i s g H Q I h;refine Compare_chain (thn (T i s g H _ I h) λv D ⟨x,H1,I1,J,N⟩=>chain_link (thn (S i D g H1 _ I1 N) λu C ⟨y,H2,Z,m,M⟩ =>
  thn (O i C g H2 x y v u _ Z J m M) λd B ⟨z,q,p,G,k,e,o⟩=>?_)) P
 subst e;cases G;erw[Aq ?_];cases k with
 | false=>rwa[ite_ff ⟨.bl G4,q,p,rfl,o⟩]
 | true=>rwa[ite_tt (chain_last (thn (R i B g q _ p o) λw A ⟨t,H4,Y,E,L⟩=>l i A g H4 y t u w Q Y m E L))]
def mX:(sizeLine:Nat)<2^63:=by rw[sizeLine_eq]; decide
def pC:OpR X (binaryOp .Add) (λx y H Q=>E2 λi j=>A4 (x=.str i) (y=.str j) (i.length+j.length<=sizeLine) (Q (.str (i++j)) H)):=by
 intro n s l H x y v u Q I f e h;obtain⟨i,j,rfl,rfl,g,q⟩:=h;obtain⟨t,rfl⟩:=f;obtain⟨d,rfl⟩:=e;rwa[add_str (λd m=>⟨.str (i++j),H,I.tok _,⟨_,rfl⟩,q⟩) g]
def kQ{x:V}(r:xD [x] d):∃ u,d=[u]/\xN x u:=by
 cases r with
 | cons f e=>cases e; rwa[_,U,f]
def Yc{x y:V}(r:xD [x,y] e):∃ u d,e=[u,d]/\xN x u/\xN y d:=by
 cases r with
 | cons i h =>
  cases h with
  | cons g f=>cases f; rwa[_,_,U,i,g]
def cJ:sV X (.builtin "abs") (λd H Q=>∃ i,d=[.int i]/\Q (.int (if i<0 then -i else i)) H):=by
 intro j s e H d f Q I r h;obtain⟨i,rfl,q⟩:=h;obtain⟨u,rfl,t,rfl⟩:=kQ r;exact call_abs_int λu g=>⟨.int (if i<0 then -i else i),H,I.tok _,⟨_,rfl⟩,q⟩
end
end L2

namespace L2

structure az(h:j3)(x dx C:b6)(mA:c7->Option b7):Prop where
 obj:h.get? x=G0 (AH C dx)
 ns:h.Ns1 dx mA
 ne:dx≠x

def mf{h:j3}{f:c7->Option b7}(n:h.Ns1 i f):∃ d,h.get? i=G0 d/\∀ b,CP b d=G0 (f b):=by
 obtain⟨o,g,r,l,hd,hk,_,m⟩:=n;erw[o,l,λb=>?_];have e:=m b;unfold nsFind findBy at e;rw[<- Array.find?_toList] at e;unfold CP;rw[hd];dsimp only;split
 ·rename_i y q
  rw[q] at e;rwa[congrArg G0 e]
 ·rename_i q
  rw[q] at e;have a:g.toList.any (·.refKey)=false:=by
   rw[EL];intro y j;obtain⟨z,t,c⟩:=hk y (D7.mp j);simp[DictEntry.refKey,c]
  have p:¬ g.toList.any (·.refKey)=true:=by rw[a]; rwa[g7]
  rw[y3 p];rwa[congrArg G0 e]

def az.look{c:c7->Option b7}(I:az h x d C c):∃ b,FO h x (AH C d) C (G0 b)/\∀ a,CP a b=G0 (c a) :=
 let ⟨b,ho,hl⟩:=mf I.ns
 ⟨b,⟨I.obj,rfl,rfl,ho⟩,hl⟩

section
variable{prog:e9}{w:i5}{A:u8}{E:b7->b9->Prop}{s:b9}{K:ac}{x dx C f:b6}{mA:c7->Option b7}{name:c7}{v:b7}

def Zz{Q:b7->b9->Prop}(X:K.In s.heap)(I:az s.heap x dx C mA)(e:Ck K C name=G3)(d:Cc K C=G3)
  (g:o7 K (.ref C) name=G0 G2) (b:mA name=G0 v) (a:Fe v=G3) (h:Q v { s with toks:=s.toks+1 }) :
  wpAny (model prog w) A (getAttr (.ref x) name expr) Q E s:=by
 obtain⟨i,J,c⟩:=I.look;rwa[PySem.W.get_value X J (CA e).1 (Ek d g rfl (by rw[c,b])) a h]

def dR{Q:b7×List b7->b9->Prop}(X:K.In s.heap)(I:az s.heap x dx C mA)(a:Ck K C name=G3)
  (i:o7 K (.ref C) name=G0 (G0 (.ref f))) (e:CI K (.ref f)=G3) (d:mA name=G2) (h:Q (.ref f,[.ref x]) s) :
  wpAny (model prog w) A (getMethod (.ref x) name b) Q E s:=by
 obtain⟨c,J,g⟩:=I.look;exact PySem.W.method_fn X J (CA a).1 (CA a).2 i (beq_iff_eq.mp e) (by show(CP name c).map (·.isSome)=G0 G4; rw[g,d]; rfl) h

def av{Q:Unit->b9->Prop}(X:K.In s.heap)(I:az s.heap x dx C mA)
  (q:o7 K (.ref C) "__setattr__" = G0 (G0 (.builtin "object.__setattr__"))) (t:EM K C=G3) (o:DM K C name=G0 G2) (u:Cc K C=G3)
  (n:EJ mA ns) (p:ns.length<=sizeLine)
  (h:∀ e,az e x dx C (λy=>if y=name then G0 v else mA y)->AC dx s.heap e->Q () { s with heap:=e,toks:=s.toks+2 }) :
  wpAny (model prog w) A (setAttr (.ref x) name v) Q E s:=by
 obtain⟨G,J,L⟩:=I.look;refine PySem.W.set_plain X J q (PySem.W.osa_open (s:={ s with toks:=s.toks+1 }) (r:=G2) X J t o λb=>?_);obtain⟨M,z,j⟩:=Ff u;have m:s.heap.get? x=G0 ⟨.ref C,G0 dx,.plain,#[]⟩:=I.obj;refine b0 (c9 (b0 (b0 (D8 m (b0 (GR (s:={ s with toks:=s.toks+1 }) (PySem.W.looks_clsIn X z) ?_))))));rw[j];erw[c9 (a:=G0 dx) (b0 (c9 (b0 ?_)))];refine wpAny_nsSet1 (s:={ s with toks:=s.toks+1 }) I.ns λe d c=>?_;obtain⟨H,B,D,g,i,l⟩:=d.count (GV name v n);erw[b0 (Fg g (by rw[i]; rwa[pastItsLine_dict (g9 l (by rw[i6]; lia))]) ?_)];rwa[c9 (h _ ⟨(c.2 _ (Av I.ne)).trans I.obj,d,I.ne⟩ c)]

def cU{R:Result->b9->Prop}{a:List b7}{b:List (c7×b7)}(X:K.In s.heap)(c:Fw K C=G3)
  (hi:o7 K (.ref C) "__init__" = G0 (G0 (.ref f))) (e:PySem.W.typeIn K (.ref f)=G0 (.type "function"))
  (h:codeAny (model prog w) (A.under (.builtin "type.__call__" ⟨.ref C::a,b⟩)) (.call (.ref f) ⟨.ref (s.heap.objs.size+1)::a,b⟩) (PySem.W.InitBack (s.heap.objs.size+1) R)
   { s with heap:=(s.heap.push Ah).push (AH C s.heap.objs.size) }) :
  codeAny (model prog w) A (.call (.ref C) ⟨a,b⟩) R s:=by
 obtain⟨i,g,d,t,os⟩:=s;rwa[PySem.W.make_core (PySem.W.makes_of X c) (PySem.W.looks_findIn X hi) (λself=>PySem.W.bind_fn X self e) (.inl rfl) h]
end

def vf(f:c7)(v:V):List (c7×V)->List (c7×V)
 | []=>[(f,v)]
 | (g,x)::r=>if g=f then(g,v)::r else(g,x)::vf f v r
def uv(f g:c7)(v:V):∀ fs:List (c7×V),(vf f v fs).lookup g=if g=f then G0 v else fs.lookup g
 | []=>by
  show o9 g [(f,v)]=_;by_cases h:g=f
  ·have a:(g == f)=true:=beq_iff_eq.mpr h;simp only[o9,a,y4 h]
  ·have a:(g == f)=false:=y9.mpr h;simp only[o9,a,y3 h]
 | (k,x)::r=>by
  have b:=uv f g v r;rw[show vf f v ((k,x)::r)=(if k=f then(k,v)::r else(k,x)::vf f v r) from rfl];by_cases hk:k=f
  ·rw[y4 hk];by_cases h:g=k
   ·have a:(g == k)=true:=beq_iff_eq.mpr h;simp only[o9,a,y4 (h.trans hk)]
   ·have a:(g == k)=false:=y9.mpr h;simp only[o9,a,y3 (λe:g=f=>h (e.trans hk.symm))]
  ·rw[y3 hk];by_cases h:g=k
   ·have a:(g == k)=true:=beq_iff_eq.mpr h;simp only[o9,a,y3 (λe:g=f=>hk (h.symm.trans e))]
   ·have a:(g == k)=false:=y9.mpr h;simp only[o9,a];rwa[b]
def ug(f:c7)(v:V):∀ fs:List (c7×V),f∈(vf f v fs).map (·.1)/\∀ g,g∈fs.map (·.1)->g∈(vf f v fs).map (·.1)
 | []=>⟨by simp[vf],λg h=>by simp at h⟩
 | (k,x)::r=>by
  obtain⟨b,a⟩:=ug f v r;rw[show vf f v ((k,x)::r)=(if k=f then(k,v)::r else(k,x)::vf f v r) from rfl];by_cases hk:k=f
  ·rw[y4 hk];subst hk;exact⟨by simp,λg h=>by simpa using h⟩
  ·rw[y3 hk];erw[?_,λg h=>?_]
   ·rw[i7];rwa[t5 _ b]
   ·rw[i7] at h ⊢;rcases f9.mp h with e | e
    ·rwa[f9.mpr (.inl e)]
    ·rwa[t5 _ (a g e)]
def uh(f:c7)(v:V):∀ fs:List (c7×V),(vf f v fs).length<=fs.length+1
 | []=>by simp[vf]
 | (k,x)::r=>by
  have a:=uh f v r;rw[show vf f v ((k,x)::r)=(if k=f then(k,v)::r else(k,x)::vf f v r) from rfl];by_cases hk:k=f
  ·rw[y4 hk,i6,i6]; lia
  ·rw[y3 hk,i6,i6]; lia

def uu.some_of(r:uu (G0 v) o):∃ u,o=G0 u/\xN v u:=by
 cases o with
 | none=>exact(show False from r).elim
 | some u=>rwa[u,U,r]
def uu.none_of(r:uu G2 o):o=none:=by
 cases o with
 | none=>rfl
 | some u=>exact(show False from r).elim
def nU(r:xN v u):Fe u=true:=by
 cases v with
 | non=>cases (show u=v3 from r); rfl
 | bl b=>cases (show u=Dx b from r); rfl
 | int i=>obtain⟨t,e⟩:=(show ∃ t,u=BN i t from r); cases e; rfl
 | str x=>obtain⟨t,e⟩:=(show ∃ t,u=AO x t from r); cases e; rfl
 | byt b=>obtain⟨t,e⟩:=(show ∃ t,u=Ft b t from r); cases e; rfl
 | flt b=>obtain⟨t,e⟩:=(show ∃ t,u=D4 b t from r); cases e; rfl
 | ref a=>cases (show u=e8 a from r); rfl
 | ty n=>cases (show u=FK n from r); rfl

section
variable{P:e9}{w:i5}{H H':Hp}{h h':j3}{a C dx:b6}{fs fs':List (c7×V)}
def pU(hok:HOk P w H h)(e:H a=G0 (.ins C dx fs)):∃ b,az h a dx C b/\(∀ f,uu (fs.lookup f) (b f))/\EJ b (fs.map (·.1))/\fs.length<=1000/\H dx=G0 (.own a):=by
 obtain⟨d,z,ne,ob,b,n,r,q⟩:=(show yU P w H h a (.ins C dx fs) from hok a _ e);rwa[b,⟨ob,n,ne⟩,r,q,z,d]
end

structure Cls(K:ac)(C:b6):Prop where
 pg:Ck K C Ei=G3
 hd:Cc K C=G3
 po:EM K C=G3
 sa:o7 K (.ref C) "__setattr__" = G0 (G0 (.builtin "object.__setattr__"))
def Cls.get{K:ac}(c:Cls K C)(f:c7):Ck K C f=true:=c.pg
def qX(K:ac)(C:b6)(f:c7):Prop:=o7 K (.ref C) f=G0 G2
def qX.taker{K:ac}(n:qX K C f):DM K C f=G0 none:=by
 unfold DM;rw[show o7 K (.ref C) f=G0 G2 from n];rfl
structure Con(K:ac)(C:b6)(f:c7)(v:V)(u:b7):Prop where
 at_:o7 K (.ref C) f=G0 (G0 u)
 rel:xN v u
 get:C6 K u "__get__" = G0 G2
 cp:PySem.W.copiedNames.contains f=G4
structure pe(K:ac)(C:b6)(m:c7)(f:b6):Prop where
 at_:o7 K (.ref C) m=G0 (G0 (.ref f))
 fn:CI K (.ref f)=G3
 kp:u9 K (.ref f)=G3

section
variable{X:Cx}{G5:List (b6×Ad)}{σ:St}{H:Hp}{s:b9}{a C dx:b6}{fs:List (c7×V)}{f:c7}{v:V}{A:u8}{E:b7->b9->Prop}

def io{Q:b7->b9->Prop}(I:Inv X G5 σ H s)(e:H a=G0 (.ins C dx fs))(c:Cls X.K C)(n:qX X.K C f)(l:fs.lookup f=G0 v)
  (h:∀ u d,Inv X G5 σ H d->xN v u->Q u d):wpAny (model X.prog X.w) A (getAttr (.ref a) f b) Q E s:=by
 obtain⟨g,O,r,_,_,_⟩:=pU I.hok e;obtain⟨u,i,ru⟩:=uu.some_of (v:=v) (o:=g f) (by rw[<- l]; rwa[r f]);rwa[Zz I.kIn O (c.get f) c.hd n i (nU ru) (h u _ (I.tok _) ru)]

def qM{Q:b7×List b7->b9->Prop}(I:Inv X G5 σ H s)(e:H a=G0 (.ins C dx fs))(c:Cls X.K C)(k:pe X.K C m g)(l:fs.lookup m=G2)
  (h:Q (.ref g,[.ref a]) s):wpAny (model X.prog X.w) A (getMethod (.ref a) m b) Q E s:=by
 obtain⟨d,O,r,_,_,_⟩:=pU I.hok e;have i:d m=none:=uu.none_of (by rw[<- l]; rwa[r m]);rwa[dR I.kIn O (c.get m) k.at_ k.fn i h]

def iL{Q:Unit->b9->Prop}(I:Inv X G5 σ H s)(e:H a=G0 (.ins C dx fs))(c:Cls X.K C)(n:qX X.K C f)(L:fs.length<1000)(t:xN y u)
  (h:∀ j,Inv X G5 σ (upd H a (.ins C dx (vf f y fs))) j->Q () j):wpAny (model X.prog X.w) A (setAttr (.ref a) f u) Q E s:=by
 obtain⟨l,O,r,i,_,m⟩:=pU I.hok e;have B:(fs.map (·.1)).length<=sizeLine:=by rw[c5,sizeLine_eq]; lia
 erw[av I.kIn O c.sa c.po n.taker c.hd i B λJ d p=>h _ ?_];have hd:∃ o,J.get? dx=G0 o:=let ⟨o,_,_,e',_⟩:=d.ns;⟨o,e'⟩;erw[I.write (x:=a) (e:=dx) (by rw[e]; rwa[q0]) (.inr m) (λb q G z=>(p.2 b G).trans z) hd ?_];erw[by rw[zL O.ne]; exact m,?_,O.ne,d.obj,_,d.ns,λg=>?_,λg D=>?_]
 ·have:=uh f y fs; lia
 ·show uu ((vf f y fs).lookup g) (if g=f then G0 u else l g);rw[uv];by_cases q:g=f
  ·rw[y4 q,y4 q]; rwa[t]
  ·rw[y3 q,y3 q]; rwa[r g]
 ·by_cases q:g=f
  ·rw[q]; exact(ug f y fs).1
  ·refine(ug f y fs).2 g (i g λz=>D ?_);show(if g=f then G0 u else l g)=G2;rw[y3 q]; rwa[z]

def Inv.made(I:Inv X G5 σ H s):Inv X G5 σ (upd (upd H s.heap.objs.size (.own (s.heap.objs.size+1))) (s.heap.objs.size+1) (.ins C s.heap.objs.size []))
  { s with heap:=(s.heap.push Ah).push (AH C s.heap.objs.size) }:=by
 have c:(s.heap.push Ah).get? s.heap.objs.size=G0 Ah:=d6 s.heap rfl;have i:((s.heap.push Ah).push (AH C s.heap.objs.size)).get? (s.heap.objs.size+1)=G0 (AH C s.heap.objs.size):=by
  have:=d6 (s.heap.push Ah) (o:=AH C s.heap.objs.size) rfl;(rw[AG] at this;assumption)
 have h:(s.heap.push Ah).Ns s.heap.objs.size (λ_=>G2):=⟨Ah,#[],_,c,rfl,(λe g=>y8 g (by simp)),λ_=>rfl⟩;have j:=I.laid (a:=s.heap.objs.size) (o:=.own (s.heap.objs.size+1)) (h':=s.heap.push Ah) (t':=s.toks) (λb u q=>b8 _ q) (d8 _) ⟨_,c⟩;erw[j.laid (a:=s.heap.objs.size+1) (o:=.ins C s.heap.objs.size []) (t':=s.toks) (λb u q=>b8 _ q) (EN (AG _ _)) ?_];have ne:s.heap.objs.size≠s.heap.objs.size+1:=j4 (Dk _);erw[by rw[zL ne,zB],j8 _,ne,i,λ_=>G2,(EO h).at λo q=>b8 _ q,λ_=>q0,λy d=>y8 rfl d]

def gr{f:c7}{s:b9}{Q:b7->b9->Prop}(c:attributeBase e f env (eval e env)=eval e env)
  (h:wpAny (model prog w) A (eval e env) (λo b=>wpAny (model prog w) A (getAttr o f G3) Q E b) E s):wpAny (model prog w) A (eval (.Attribute e f pos) env) Q E s :=
 Attribute_any_ h (by rw[arm_eval_Attribute,c])
end


section
variable{X:Cx}{G5:List (b6×Ad)}{σ:St}{H:Hp}{s:b9}{A:u8}{E:b7->b9->Prop}{Q:b7->b9->Prop}{c:b7}{b:Bool}
inductive TyOf(K:ac)(H:Hp):V->b7->Prop where
 | non:TyOf K H .non (.type "NoneType")
 | bl (x:Bool):TyOf K H (.bl x) (.type "bool")
 | int (i:Int):TyOf K H (.int i) (.type "int")
 | str (x:c7):TyOf K H (.str x) (.type "str")
 | flt (x:UInt64):TyOf K H (.flt x) (.type "float")
 | lst {a:b6} {xs:List V} (e:H a=G0 (.lst xs)):TyOf K H (.ref a) (.type "list")
 | frz {a:b6} {o:Ad} {xs:List V} (e:H a=G0 (.frz o (.lst xs))):TyOf K H (.ref a) (.type "list")
 | tup {a:b6} {xs:List V} (e:H a=G0 (.tup xs)):TyOf K H (.ref a) (.type "tuple")
 | dK {a:b6} {kvs:List (Key×V)} (e:H a=G0 (.dK kvs)):TyOf K H (.ref a) (.type "dict")
 | dT {a:b6} {kvs:List (List Key×V)} (e:H a=G0 (.dT kvs)):TyOf K H (.ref a) (.type "dict")
 | ins {a C dx:b6} {fs:List (c7×V)} (e:H a=G0 (.ins C dx fs)) (cl:Cls K C) (ha:o7 K (.ref C) "__class__" = G0 (G0 (.builtin "object.__class__")))
   (hn:C6 K (.builtin "object.__class__") "__get__" = G0 (G0 (.builtin "getset_descriptor.__get__"))) (htk:DN K (.builtin "object.__class__")=G0 G3)
   (hm:PySem.W.mroIn K C (.type "object")=G0 G3):TyOf K H (.ref a) (.ref C)
def fE(I:Inv X G5 σ H s)(d:xN x u)(ty:TyOf X.K H x t)(e:Ar X.K t c=G0 b)(h:∀ r,Q (.bool b) { s with toks:=r }) :
  wpAny (model X.prog X.w) A (call (.builtin "isinstance") [u,c]) Q E s:=by
 cases ty with
 | non=>cases (show u=v3 from d); exact x8 PySem.W.kitx_none I.kIn q0 e (λz=>nomatch z) h
 | bl y=>cases (show u=Dx y from d); exact x8 PySem.W.kitx_bool I.kIn q0 e (λz=>nomatch z) h
 | int i=>obtain⟨t,q⟩:=(show ∃ t,u=BN i t from d); cases q; exact x8 PySem.W.kitx_int I.kIn q0 e (λz=>nomatch z) h
 | str y=>obtain⟨t,q⟩:=(show ∃ t,u=AO y t from d); cases q; exact x8 PySem.W.kitx_str I.kIn q0 e (λz=>nomatch z) h
 | flt y=>obtain⟨t,q⟩:=(show ∃ t,u=D4 y t from d); cases q; exact x8 PySem.W.kitx_float I.kIn q0 e (λz=>nomatch z) h
 | @lst a j f =>
  cases (show u=e8 a from d);obtain⟨_,_,n,_,h1⟩:=(show yU X.prog X.w H s.heap a (.lst j) from I.hok a _ f);exact x8 EQ I.kIn ⟨_,h1,rfl⟩ e (λz=>nomatch z) h
 | @frz a ob j f =>
  cases (show u=e8 a from d);obtain⟨_,_,_,n,_,h1⟩:=(show yU X.prog X.w H s.heap a (.frz ob (.lst j)) from I.hok a _ f);exact x8 EQ I.kIn ⟨_,h1,rfl⟩ e (λz=>nomatch z) h
 | @tup a j f =>
  cases (show u=e8 a from d);obtain⟨_,_,_,p⟩:=(show yU X.prog X.w H s.heap a (.tup j) from I.hok a _ f);obtain⟨o,h1,h2,_⟩:=p;exact x8 PySem.W.kitx_tuple I.kIn ⟨o,h1,h2⟩ e (λz=>nomatch z) h
 | @dK a g f =>
  cases (show u=e8 a from d);obtain⟨_,_,M,_,p⟩:=(show yU X.prog X.w H s.heap a (.dK g) from I.hok a _ f);obtain⟨o,G,L,h1,h2,_⟩:=p;exact x8 ER I.kIn ⟨o,h1,h2.1⟩ e (λz=>nomatch z) h
 | @dT a g f =>
  cases (show u=e8 a from d);obtain⟨_,_,j,_,o,G,L,h1,h2,_⟩:=(show yU X.prog X.w H s.heap a (.dT g) from I.hok a _ f);exact x8 ER I.kIn ⟨o,h1,h2.1⟩ e (λz=>nomatch z) h
 | @ins a C R fs f m D v l B =>
  cases (show u=e8 a from d);obtain⟨P,O,_⟩:=pU I.hok f;obtain⟨N,J,_⟩:=O.look;exact x8 (PySem.W.kitx_own (m.get _) m.hd D v l B) I.kIn J e (λz=>nomatch z) h
end
end L2

namespace L2

structure tS(k:Nat)(A:u8):Prop where
 hd:A.handled=G2
 dp:A.depth+3*k+5<recursionLimit
 un:A.units+16*k+200<cLine
 gd:A.guards=G0 []
def tS.mono{j k:Nat}(r:tS k A)(h:j<=k):tS j A:=⟨r.hd,by have:=r.dp; lia,by have:=r.un; lia,r.gd⟩
def tS.deeper{k:Nat}(r:tS (k+1) A)(env:Cj):tS k (A.deeper env) :=
 ⟨r.hd,by have:=r.dp; show A.depth+1+3*k+5<_; lia,by have:=r.un; show A.units+3+16*k+200<_; lia,r.gd⟩
def iQ{A:u8}{a:List b7}{b:List (c7×b7)} : (A.under (.builtin "type.__call__" ⟨.ref C::a,b⟩)).depth=A.depth+1:=by
 first | rfl | simp[DB,Code.weight,Code.isCreation,GE,Code.isCaller,GM,ES,guardIds]
def iS{A:u8}{a:List b7}{b:List (c7×b7)} : (A.under (.builtin "type.__call__" ⟨.ref C::a,b⟩)).units=A.units+1:=by
 first | rfl | simp[DB,Code.cUnits,GM,ES]
def tS.make{k:Nat}(r:tS (k+1) A)(C:b6)(a:List b7)(b:List (c7×b7)):tS k (A.under (.builtin "type.__call__" ⟨.ref C::a,b⟩)) :=
 ⟨r.hd,by have:=r.dp; rw[iQ]; lia,by have:=r.un; rw[iS]; lia,by first | exact r.gd | (rw[DB]; simpa [pushGuards,Code.guards,GE,guardIds] using r.gd)⟩
def tS.depth{k:Nat}(r:tS k A):A.depth<recursionLimit:=by have:=r.dp; lia
def tS.units{k:Nat}(r:tS k A):A.units+64<cLine:=by have:=r.un; lia
def tS.units0{k:Nat}(r:tS k A):A.units<cLine:=by have:=r.un; lia

def dM:TA:=λ_ H Q=>Q [] H
def lG(c:TE)(tr:TA):TA:=λa H Q=>c a H λx e=>tr a e λb d=>Q (x::b) d
section
variable{X:Cx}{e:o6}{es:List o6}{te:TE}{t:TA}{pos:BM}
def zD:PA X [] dM:=λ_ _ _ _ H Q I h=>C7 ⟨[],H,I,.nil,h⟩
def zA(n:PE X e te)(m:PA X es t)(l:starEach (e::es) X.env=(G4,eval e X.env)::starEach es X.env:=by rfl):PA X (e::es) (lG te t):=by
 intro pos b s a H Q I h;rw[l];show wpAny _ _ (spliced ((G4,eval e X.env)::backTo pos (starEach es X.env))) _ _ s;erw[CQ (thn (n b s a H _ I h) λu d ⟨x,r,p,g,j⟩=>?_)];rwa[thn (m pos b d a r _ p j) λv w ⟨c,q,o,f,i⟩=>⟨x::c,q,o,.cons g f,i⟩]

def tTup(t:TA):TE:=λc H Q=>t c H λa b=>a.length<=sizeLine/\∀ p,b p=G2->Q (.ref p) (upd b p (.tup a))
def ZM(t:TA):TE:=λc H Q=>t c H λa b=>a.length<=sizeLine/\∀ p,b p=G2->Q (.ref p) (upd b p (.lst a))
def yD{x1}(h:PA X es t):PE X (.Tuple es x1 pos) (tTup t):=by
 intro m s f H Q I j;erw[wpAny_Tuple_spliced (thn (h pos m s f H _ I j) λi a ⟨g,d,c,r,z,q⟩=>⟨by rw[<- r.length]; exact z,?_⟩)];have l:d a.heap.objs.size=none:=c.hok.fresh (d8 _);erw[.ref a.heap.objs.size,upd d a.heap.objs.size (.tup g),c.laid (t':=a.toks) (λb u e=>b8 _ e) (d8 _) ?_,U,q _ l];rwa[z,i,r,⟨_,d6 _ rfl,U,_,U⟩]
def xT(h:PA X es t):PE X (.List es pos) (ZM t):=by
 intro m s f H Q I j;erw[wpAny_List_spliced (thn (h pos m s f H _ I j) λi a ⟨g,d,c,r,z,q⟩=>⟨by rw[<- r.length]; exact z,?_⟩)];have l:d a.heap.objs.size=none:=c.hok.fresh (d8 _);erw[.ref a.heap.objs.size,upd d a.heap.objs.size (.lst g),c.laid (t':=a.toks) (λb u e=>b8 _ e) (d8 _) ?_,U,q _ l];rwa[z,i,0,r,d6 _ rfl]
end

abbrev Sp:=List V->Hp->VK->XK->Prop
abbrev CXT:=List Cj->Hp->b9->XK->b7->b9->Prop

structure dZ(P:e9)(w:i5)(K:ac)(mg:c7->Option b7)(base:j3)(A:u8)(outer:List Cj)(s:b9)(H:Hp):Prop where
 frames:A.frames=G0 outer
 mod:Mod K mg base
 bs:∀ b o,base.get? b=G0 o->s.heap.get? b=G0 o/\H b=G2
 bsz:base.objs.size<=s.heap.objs.size
 funs:s.heap.FunFrames base outer
 frf:∀ b∈frs outer,H b=G2
 hok:HOk P w H s.heap
 bare:CG s.gens
def CE(outer:List Cj)(P:e9)(w:i5)(H:Hp)(s:b9)(Q:VK)(u:b7)(a:b9):Prop :=
 ∃ v b,a.os=s.os/\CG a.gens/\Un (frs outer) [] H b s.heap a.heap/\HOk P w b a.heap/\xN v u/\Q v b
def CR(b:CXT)(outer:List Cj)(P:e9)(w:i5)(H:Hp)(s:b9)(Q:VK)(E:XK)(r:Result)(a:b9):Prop :=
 match r with
 | .ok (.ret u)=>CE outer P w H s Q u a
 | .ok _=>False
 | .error e=>b outer H s E e a
structure yV(P:e9)(w:i5)(K:ac)(mg:c7->Option b7)(base:j3)(CX:CXT)(k:Nat)(f:b6)(fd:w4)(ps:List c7)(sp:Sp):Prop where
 len:∀ vs H Q E,sp vs H Q E->vs.length=ps.length
 run:∀(A:u8)(outer:List Cj)(s:b9)(H:Hp)(args:Args)(us:List b7)(vs:List V)(Q:VK)(E:XK),tS k A->dZ P w K mg base A outer s H->DC s fd args (ps.zip us)->xD vs us->sp vs H Q E ->
  codeAny (model P w) A (.call (.ref f) args) (CR CX outer P w H s Q E) s
def dZ.make{K:ac}{mg:c7->Option b7}{H:Hp}(e:dZ P w K mg base A outer s H)(C:b6)(a:List b7)(b:List (c7×b7)) :
  dZ P w K mg base (A.under (.builtin "type.__call__" ⟨.ref C::a,b⟩)) outer s H:=⟨by first | exact e.frames | (simpa [DB,Code.envs,ES,pushEnvs] using e.frames),e.mod,e.bs,e.bsz,e.funs,e.frf,e.hok,e.bare⟩
section
variable{X:Cx}{G5:List (b6×Ad)}{σ:St}{H:Hp}{s s':b9}
def Inv.env0(I:Inv X G5 σ H s):dZ X.prog X.w X.K X.mg X.base X.A X.stack s H :=
 ⟨I.ok.frames,I.ok.mod,I.bs,g9 I.ok.bsz I.sz,I.stack,I.stkFree,I.hok,I.bare⟩
def Inv.after{Q:VK}(I:Inv X G5 σ H s)(h:CE X.stack X.prog X.w H s Q u s'):EP X G5 σ Q u s':=by
 obtain⟨v,e,os,bare,un,hok,r,q⟩:=h;obtain⟨c,g,d,t,a⟩:=s';obtain rfl:a=s.os:=os;rwa[v,e,I.call (h':=c) (g':=g) (d':=d) (t':=t) (ch:=[]) un hok bare (λb z=>y8 z (by simp)),r,q]
end

def iM(d:Sp)(a:List V)(E:XK)(t:TA):TE:=λb H Q=>t b H λc e=>d (c++a) e Q E
def zt(K:ac)(fd:w4)(b:List c7)(c:List b7):Prop :=
 ∀(s:b9)(a:List b7),K.In s.heap->(a++c).length=b.length->DC s fd ⟨a,[]⟩ (b.zip (a++c))
def zt.all{K:ac}{b:List c7}(h:∀ a:List b7,a.length=b.length->bindArgs fd ⟨a,[]⟩=pure (b.zip a)):zt K fd b []:=λs a _ c=>by
 rw[Al] at c ⊢;rwa[.of_eq (h a c)]

def oX(d:CXT)(X:Cx)(E:XK):Prop:=∀(c:List (b6×Ad))(b:St)(H:Hp)(s:b9)(e:b7)(a:b9),Inv X c b H s->d X.stack H s E e a->X.xe e a

section
variable{X:Cx}{CX:CXT}{k:Nat}{f C:b6}{fd:w4}{ps:List c7}{sp:Sp}{dvs:List V}{ds:List b7}{E:XK}{x m:c7}{p pos apos:BM}{e o:o6}{es:List o6}{ta:TE}{t:TA}

def jG{b:St}{H:Hp}{Q:VK}(F:yV X.prog X.w X.K X.mg X.base CX k f fd ps sp)(j:tS k X.A)(n:zt X.K fd ps ds)(hd:xD dvs ds)(i:oX CX X E)
  (I:Inv X c b H s) (r:xD vs us) (h:sp (vs++dvs) H Q E):wpAny (model X.prog X.w) X.A (call (.ref f) us) (EP X c b Q) X.xe s:=by
 have d:xD (vs++dvs) (us++ds):=r.append hd;have l:(us++ds).length=ps.length:=by rw[<- d.length]; rwa[F.len _ _ _ _ h]
 erw[Br (codeAny_mono (F.run X.A X.stack s H ⟨us,[]⟩ (us++ds) (vs++dvs) Q E j I.env0 (n s us I.kIn l) d h) λr g a=>?_)];cases r with
 | error e=>rwa[i c b H s e g I a]
 | ok q =>
  cases q with
  | ret u=>rwa[I.after a]
  | next=>rwa[l9 a]
  | brk=>rwa[l9 a]
  | cont=>rwa[l9 a]

def Zt(F:yV X.prog X.w X.K X.mg X.base CX k f fd ps sp)(i:tS k X.A)(l:Gl X x)(j:X.mg x=G0 (.ref f))(hk:u9 X.K (.ref f)=G3)(u:zt X.K fd ps ds)(hd:xD dvs ds)(g:oX CX X E)
  (v:PA X (e::es) t) (b:(x ==("__debug__" : c7))=false:=by decide) (n:starEach (e::es) X.env=(G4,eval e X.env)::starEach es X.env:=by rfl) (a:(backTo pos (starEach es X.env)).any (·.1)=false:=by rfl) :
  PE X (.Call (.Name x p) (e::es) [] pos) (iM sp dvs E t):=by
 intro y s d H Q I h;erw[Ac (wF I l j ?_ b)];erw[Ay (h₀:=X.base) I.ok.mod.kin hk (thn (v pos y s d H _ I h) λB D ⟨z,G,c,r,q⟩=>⟨c.kIn,?_⟩) n a];rwa[jG F i u hd g c r q]
def dU(F:yV X.prog X.w X.K X.mg X.base CX k f fd ps sp)(c:tS k X.A)(g:Gl X x)(d:X.mg x=G0 (.ref f))(hk:u9 X.K (.ref f)=G3)(i:zt X.K fd ps ds)(hd:xD dvs ds)(b:oX CX X E)
  (a:(x ==("__debug__" : c7))=false:=by decide):PE X (.Call (.Name x p) [] [] pos) (iM sp dvs E dM):=by
 intro l s j H Q I h;erw[Ac (wF I g d ?_ a)];rwa[BU I.kIn hk (jG (us:=[]) F c i hd b I .nil h)]

structure Mk(K:ac)(C f:b6):Prop where
 makes:Fw K C=G3
 init:o7 K (.ref C) "__init__" = G0 (G0 (.ref f))
 fn:CI K (.ref f)=G3
 kp:u9 K (.ref C)=G3

def dA{d:St}{H:Hp}{Q:VK}(M:Mk X.K C f)(F:yV X.prog X.w X.K X.mg X.base CX k f fd ps sp)(z:tS (k+1) X.A)(D:zt X.K fd ps ds)(hd:xD dvs ds)
  (y:oX CX X E) (I:Inv X g d H s) (r:xD vs us)
  (h:∀ x b,H x=G2->H b=G2->b≠x->sp (.ref x::(vs++dvs)) (upd (upd H b (.own x)) x (.ins C b [])) (λv N=>v=.non/\Q (.ref x) N) E) :
  wpAny (model X.prog X.w) X.A (call (.ref C) us) (EP X g d Q) X.xe s:=by
 have j:=h (s.heap.objs.size+1) s.heap.objs.size (I.hok.fresh (D9 _)) (I.hok.fresh (d8 _)) (j4 (Dk _));have c:=Inv.made (C:=C) I;have i:xD (V.ref (s.heap.objs.size+1)::(vs++dvs)) (e8 (s.heap.objs.size+1)::(us++ds)):=.cons rfl (r.append hd);have B:(e8 (s.heap.objs.size+1)::us++ds).length=ps.length:=by
  have e:=i.length;rw[F.len _ _ _ _ j] at e;rwa[e.symm]
 refine Br (cU (f:=f) I.kIn M.makes M.init (beq_iff_eq.mp M.fn) (codeAny_mono (F.run _ X.stack _ _ ⟨e8 (s.heap.objs.size+1)::us,[]⟩ (e8 (s.heap.objs.size+1)::(us++ds)) _ _ E (z.make C us [])
  (c.env0.make C us []) (D _ (e8 (s.heap.objs.size+1)::us) c.kIn B) i j) λr l a=>?_))
 cases r with
 | error e=>rwa[y g d _ _ e l c a]
 | ok G =>
  cases G with
  | ret u =>
   obtain⟨v,O,L,n,J,q⟩:=c.after a;subst J;rwa[n,⟨V.ref (s.heap.objs.size+1),O,L,U,q⟩]
  | next=>rwa[l9 a]
  | brk=>rwa[l9 a]
  | cont=>rwa[l9 a]
end

section
variable{X:Cx}{CX:CXT}{k:Nat}{f C:b6}{fd:w4}{ps ks:List c7}{sp:Sp}{E:XK}{x m:c7}{p pos apos kpos:BM}{e o:o6}{es:List o6}{kws:List C8}{te ta:TE}{t tk:TA}{nm:Option c7}
structure KBinds(K:ac)(fd:w4)(ps ks:List c7)(g:List b7->List b7->List b7)(gV:List V->List V->List V):Prop where
 to:∀(s:b9)(us ws:List b7),K.In s.heap->(g us ws).length=ps.length->DC s fd ⟨us,ks.zip ws⟩ (ps.zip (g us ws))
 rel:∀{vs:List V}{us:List b7}{zs:List V}{ws:List b7},xD vs us->xD zs ws->xD (gV vs zs) (g us ws)
variable{g:List b7->List b7->List b7}{gV:List V->List V->List V}
end

structure zP(N P:List c7)(sc:BW):Prop where
 kind:sc.kind=.function
 co:sc.isCoroutine=G4
 gen:sc.isGenerator=G4
 nd:N.Nodup
 pre:N.take P.length=P
 par:∀ x∈P,sc.names.lookup x=G0 .local\/sc.names.lookup x=G0 .cell
 nofree:∀ y∈sc.names,y.2≠.free

def oW{kindOf:c7->Option BI}{x:c7} : ∀{binds:List (c7×b7)}{m:c7->Option b7},(∀ v,(x,v) ∉ binds)->bindL kindOf binds m x=m x
 | [],_,_=>rfl
 | (n,v)::r,m,h=>by
  unfold bindL;rw[oW λw a=>h w (t5 _ a)];split
  ·have:x≠n:=by rintro rfl; rwa[h v Ab]
   simp[this]
  ·rfl
def mH{kindOf:c7->Option BI}{x:c7} : ∀{binds:List (c7×b7)}{m:c7->Option b7},(∀ v,(x,v) ∉ binds)->bindC kindOf binds m x=m x
 | [],_,_=>rfl
 | (n,v)::r,m,h=>by
  unfold bindC;rw[mH λw a=>h w (t5 _ a)];split
  ·rfl
  ·have:x≠n:=by rintro rfl; rwa[h v Ab]
   simp[this]
def oZ{kindOf:c7->Option BI} : ∀{P:List c7}{a:List b7}{i:Nat}{m:c7->Option b7},P.Nodup->P[i]?=G0 x->a[i]?=G0 v->kindOf x=G0 .local ->
  bindL kindOf (P.zip a) m x=G0 v
 | [],_,_,_,_,h,_,_=>by simp at h
 | _::_,[],_,_,_,_,h,_=>by simp at h
 | p::P,w::a,0,m,nd,h1,h2,hk=>by
  simp at h1 h2; subst h1; subst h2;show bindL kindOf ((p,w)::P.zip a) m p=_;unfold bindL;rw[oW λv b=>(Ct.mp nd).1 (Cu b).1,y4 hk];simp
 | p::P,w::a,i+1,m,nd,h1,h2,hk=>by
  show bindL kindOf ((p,w)::P.zip a) m x=_;unfold bindL;exact oZ (i:=i) (Ct.mp nd).2 (by simpa using h1) (by simpa using h2) hk
def nJ{kindOf:c7->Option BI} : ∀{P:List c7}{a:List b7}{i:Nat}{m:c7->Option b7},P.Nodup->P[i]?=G0 x->a[i]?=G0 v->kindOf x≠G0 .local ->
  bindC kindOf (P.zip a) m x=G0 v
 | [],_,_,_,_,h,_,_=>by simp at h
 | _::_,[],_,_,_,_,h,_=>by simp at h
 | p::P,w::a,0,m,nd,h1,h2,hk=>by
  simp at h1 h2; subst h1; subst h2;show bindC kindOf ((p,w)::P.zip a) m p=_;unfold bindC;rw[mH λv b=>(Ct.mp nd).1 (Cu b).1,y3 hk];simp
 | p::P,w::a,i+1,m,nd,h1,h2,hk=>by
  show bindC kindOf ((p,w)::P.zip a) m x=_;unfold bindC;exact nJ (i:=i) (Ct.mp nd).2 (by simpa using h1) (by simpa using h2) hk

def start(N:List c7)(a:List V):St:=a.map G0++i9 (N.length-a.length) G2

def cxOf(g:CXT)(P:e9)(w:i5)(K:ac)(mg:c7->Option b7)(base:j3)(N:List c7)(b:c7)(a:BW)(f:b6)(d:b7)(A:u8)(outer:List Cj)(s:b9)(H:Hp)(E:XK):Cx where
 prog:=P
 w:=w
 K:=K
 mg:=mg
 base:=base
 A:=A.deeper (envOfC b a s.heap.objs.size f d)
 N:=N
 s₀:=s
 H₀:=H
 env:=envOfC b a s.heap.objs.size f d
 outer:=outer
 stack:=envOfC b a s.heap.objs.size f d::outer
 ex:=[]
 calm:=G3
 fn:=λ_=>G3
 pn:=[]
 xe:=λe h=>wpAny (model P w) (A.deeper (envOfC b a s.heap.objs.size f d)) (leaving (envOfC b a s.heap.objs.size f d) e) (λ_ c=>g outer H s E e c) (λi c=>g outer H s E i c) h

def jC{a:BW}{n:Nat}(h:a.names.lookup x=G0 .cell):∃ c,(cellsFrom n a.names []).lookup x=G0 c:=by
 have q:=Cd a.names n [] (.inl h);rwa[g8.mp q]

def ny{L:CXT}{K:ac}{mg:c7->Option b7}{A:u8}{H:Hp}{E:XK}{l:List V}
  (S:zP N m d) (hd:A.handled=G2) (j:dZ P w K mg base A outer s H) (T:l.length=m.length) (r:xD l G)
  (x:InCallC s s.heap.objs.size (bindL (envOfC g d s.heap.objs.size f D).kindOf (m.zip G) λ_=>G2) (cellsFrom (s.heap.objs.size+1) d.names []) (bindC (envOfC g d s.heap.objs.size f D).kindOf (m.zip G) λ_=>G2) I) :
  Inv (cxOf L P w K mg base N g d f D A outer s H E) [] (start N l) H I:=by
 have O:m.length<=N.length:=by have:=congrArg C9 S.pre; rw[Az] at this; lia
 obtain⟨h1,R,rfl,hk⟩:=x.done;have o:∀ b:b6,b ∉ (cxOf L P w K mg base N g d f D A outer s H E).ex:=λb z=>y8 (show b∈([]:List b6) from z) (by simp);refine⟨⟨j.mod,S.kind,U,U,d8 _,λy z c h1 h2=>?_,λy t=>?_,λy c _ h=>?_,λ_=>hd,Around.frames_deeper j.frames,.inr ⟨U,U⟩,λb z=>y8 z (o b),j.bs,j.bsz,λb _ _=>o b,λb z=>y8 z (o b),j.funs,j.frf⟩,
  rfl,j.bare,Un.kept hk,⟨_,x.toInCall.ns,λi y v h1 h2 h3=>?_⟩,λy c h=>⟨_,x.cell y c h⟩,j.hok.fresh (d8 _),λy c h=>?_,λp C=>y8 (show p∈([]:List (b6×Ad)) from C) (by simp),j.hok.kept hk,?_⟩
 ·rwa[name_of_addr x.apart (AJ h1) (AJ h2)]
 ·have t:d.names.lookup y=G0 .cell\/d.names.lookup y=G0 .free:=t;rcases t with t | t
  ·rwa[jC t]
  ·rwa[y8 rfl (S.nofree _ (AJ t))]
 ·rwa[Dy (x.above y c (AJ h))]
 ·have hi:i<l.length:=by
   unfold start at h2;by_cases hi:i<l.length
   ·rwa[hi]
   ·rw[v6 (by simpa using hi)] at h2;rw[Bk] at h2;split at h2 <;> cases h2
  have Q:l[i]?=G0 v:=by
   unfold start at h2;rw[x0 (by simpa using hi),i3] at h2;cases e:l[i]? with
   | none=>rw[e] at h2; cases h2
   | some a=>rw[e] at h2; cases h2; rfl
  obtain⟨u,J,M⟩:=r.get Q;have C:m[i]?=G0 y:=by
   rw[<- S.pre,List.getElem?_take_of_lt (by lia)]; rwa[h1]
  have B:m.Nodup:=by rw[<- S.pre]; rwa[S.nd.sublist (List.take_sublist _ _)]
  exists u,M;rcases S.par y (Ao C) with k | k
  ·rwa[.inl ⟨k,oZ B C J k⟩]
  ·obtain⟨c,e⟩:=jC (n:=s.heap.objs.size+1) k;erw[.inr ⟨.inl k,c,e,?_⟩];have q:=x.cell y c e;rw[nJ B C J (by show d.names.lookup y≠_; rw[k]; decide)] at q;rwa[q]
 ·rwa[j.hok.fresh (Dy (x.above y c (AJ h)))]
 ·unfold start;show _=N.length;rw[d5,c5,v8];lia

def Ye{L:CXT}{K:ac}{mg:c7->Option b7}{k:Nat}{dV kV D pm d ct oc:b7}{an od:Option b6}
  {T:Array (Option b7)}  {M:Sp} (lk:K.lookup f=G0 ⟨oc,od,.func (v7 i c params body a dV kV D pm an d ct),T⟩) (Z:BJ K d c=G3) (S:zP N G a)
  (len:∀ h H Q E,M h H Q E->h.length=G.length)
  (m:∀(A:u8)(outer:List Cj)(s:b9)(H:Hp)(h:List V)(Q:VK)(E:XK),tS k (A.deeper (envOfC c a s.heap.objs.size f d))->M h H Q E ->
   ∃ t,PSs (cxOf L P w K mg base N c a f d A outer s H E) body t/\t { nx:=λ_ j=>Q .non j,rt:=Q } (start N h) H) :
  yV P w K mg base L (k+1) f (v7 i c params body a dV kV D pm an d ct) G M:=by
 refine⟨len,λA outer s H args us h Q E Y C hb r z=>?_⟩;have hl:=len _ _ _ _ z;have KX:K.In s.heap:=C.mod.kin.keeps λb o e=>(C.bs b o e).1;have X:s.heap.NoLimit:=C.mod.nolimit.keeps λb o e=>(C.bs b o e).1;have l:∀ y∈G.zip us,a.names.lookup y.1=G0 .local\/(a.names.lookup y.1=G0 .cell/\((cellsFrom (s.heap.objs.size+1) a.names []).lookup y.1).isSome=G3):=λ⟨n,v⟩ hy=>by
  rcases S.par n (Cu hy).1 with q | q
  ·rwa[.inl q]
  ·rwa[.inr ⟨q,Cd _ _ _ (.inl q)⟩]
 refine codeAny_call_function Y.depth (KX _ _ lk) rfl S.co S.gen rfl (Ez KX Z) (hb _ _ _ _ ?_);refine CS S.kind l λenv he s1 x=>?_;subst he;refine⟨X.keeps x.toInCall.keep,codeAny_func ?_⟩;obtain⟨t,ht,hq⟩:=m A outer s H h Q E (Y.deeper _) z;have I:Inv (cxOf L P w K mg base N c a f d A outer s H E) [] (start N h) H s1:=ny S Y.hd C hl r x;refine An (ht [] s1 (start N h) H _ I hq) (λfl O p=>?_) λe O p=>p;have B:∀{g:St}{j:Hp}{v:V}{u:b7},Inv (cxOf L P w K mg base N c a f d A outer s H E) [] g j O->xN v u->Q v j->CE outer P w H s Q u O :=
  λ{g j v u} J R q=>⟨v,j,J.os,J.bare,J.base,J.hok,R,q⟩
 cases fl with
 | ret u =>
  obtain⟨v,g,j,J,R,q⟩:=p;rwa[B J R q]
 | next =>
  obtain⟨g,j,J,q⟩:=p;rwa[B (v:=V.non) (u:=v3) J rfl q]
 | brk =>
  obtain⟨_,_,_,q⟩:=p;rwa[l9 q]
 | cont =>
  obtain⟨_,_,_,q⟩:=p;rwa[l9 q]
end L2

namespace L2
section
variable{X:Cx}{x:c7}{p pos:BM}{e:o6}{es:List o6}{t:TA}{id T:String}{r:List V->Hp->VK->Prop}

def tCB(r:List V->Hp->VK->Prop)(t:TA):TE:=λa H Q=>t a H λb c=>r b c Q
def zR(v:sV X (.builtin id) r)(q:Gl X x)(o:X.mg x=G2)(m:bootBuiltins x=G0 (.builtin id))(w:PA X (e::es) t)(n:x ≠ "__name__" := by decide)(b:(x ==("__debug__" : c7))=false:=by decide)
  (u:starEach (e::es) X.env=(G4,eval e X.env)::starEach es X.env:=by rfl) (a:(backTo pos (starEach es X.env)).any (·.1)=false:=by rfl):PE X (.Call (.Name x p) (e::es) [] pos) (tCB r t):=by
 intro d s c H Q I h;erw[Ac (ph I q o m ?_ n b)];rwa[Cm (thn (w pos d s c H _ I h) λg i ⟨f,z,y,j,l⟩=>v d i c z f g Q y j l) u a]
def tW(v:sV X (.type T) r)(q:Gl X x)(o:X.mg x=G2)(m:bootBuiltins x=G0 (.type T))(w:PA X (e::es) t)(n:x ≠ "__name__" := by decide)(b:(x ==("__debug__" : c7))=false:=by decide)
  (u:starEach (e::es) X.env=(G4,eval e X.env)::starEach es X.env:=by rfl) (a:(backTo pos (starEach es X.env)).any (·.1)=false:=by rfl):PE X (.Call (.Name x p) (e::es) [] pos) (tCB r t):=by
 intro d s c H Q I h;erw[Ac (ph I q o m ?_ n b)];rwa[AK (thn (w pos d s c H _ I h) λg i ⟨f,z,y,j,l⟩=>v d i c z f g Q y j l) u a]
end
end L2

namespace HT
open PySem PyProof.Rows

def lexLt:List Int->List Int->Bool
 | [],[]=>G4
 | [],_::_=>G3
 | _::_,[]=>G4
 | x::b,y::a=>if x=y then lexLt b a else decide (x<y)
section
open PySem.SeqAt
open PySem.AutoSeq1 (wpAny_loadPart')
open PySem.MeetsSeq PySem.MeetsSeq2 PySem.MeetsSeq3

end

section
variable{prog:e9}{w:i5}{A:u8}{E:b7->b9->Prop}{s:b9}

def sIx(n d:Nat):Option Int->Nat
 | none=>d
 | some v=>if v<0 then(v+(n:Int)).toNat else min v.toNat n
def YJ(n d:Nat)(hd:d<=n)(o:Option Int):sIx n d o<=n:=by
 cases o with
 | none=>rwa[hd]
 | some v =>
  show(if v<0 then(v+(n:Int)).toNat else min v.toNat n)<=n;by_cases a:v<0
  ·rw[y4 a]; lia
  ·rw[y3 a]; rwa[Nat.min_le_right _ _]
def fg(v:Int)(n d:Nat):(if v<0 then max (v+(n:Int)) 0 else min v (n:Int))=((sIx n d (G0 v):Nat):Int):=by
 show(if v<0 then max (v+(n:Int)) 0 else min v (n:Int))=(((if v<0 then(v+(n:Int)).toNat else min v.toNat n):Nat):Int);by_cases a:v<0
 ·simp only[y4 a]; lia
 ·simp only[y3 a]; lia
def jW(lo hi:Option Int)(n:Nat):BQ lo hi 1 (n:Int)=(((sIx n 0 lo:Nat):Int),((sIx n n hi:Nat):Int)):=by
 have h1:¬ ((1:Int)<0):=by lia
 unfold BQ;simp only[h1,if_false];erw[Prod.ext ?_ ?_]
 ·cases lo with
  | none=>rfl
  | some v=>rwa[fg v n 0]
 ·cases hi with
  | none=>rfl
  | some v=>rwa[fg v n n]
def il(i j:Nat):AZ (i:Int) (j:Int) 1=j-i:=by
 unfold AZ;have h1:(1:Int)>0:=by lia
 simp only[h1,if_true,Int.ediv_one];split <;> lia
def pQ{Q:Option Int->b9->Prop}(p:EA v o)(h:Q o s):wpAny (model prog w) A (Fx v) Q E s:=by
 cases p with
 | none=>rwa[slicePart_none h]
 | int i t=>rwa[slicePart_int h]
def wg{lo hi:Option Int}{n:Nat}{Q:Int×Int×Nat->b9->Prop}(i:s.heap.IsSliceOf e d c .none)(g:EA d lo)(f:EA c hi)
  (h:Q (((sIx n 0 lo:Nat):Int),1,sIx n n hi-sIx n 0 lo) s):wpAny (model prog w) A (CT (.ref e) (pure (n:Int))) Q E s:=by
 obtain⟨os,a,j,b⟩:=id i;unfold CT F8;erw[b0 (b0 (t6 a b (x:=d) rfl (b0 (t6 a b (x:=c) rfl (b0 (t6 a b (x:=.none) rfl (c9 ?_)))))))];erw[b0 (slicePart_none ?_)];show wpAny _ _ (if ((1:Int) == 0)=G3 then _ else _) _ _ s;rw[y3 (by decide)];erw[b0 (pQ g (b0 (pQ f (b0 (c9 ?_)))))];show wpAny _ _ (match BQ lo hi 1 (n:Int) with | (lo,hi)=>pure (lo,(1:Int),AZ lo hi 1)) _ _ s;rw[jW lo hi n];show wpAny _ _ (pure (((sIx n 0 lo:Nat):Int),(1:Int),AZ ((sIx n 0 lo:Nat):Int) ((sIx n n hi:Nat):Int) 1)) _ _ s;rw[il];rwa[c9 h]
def dm(a:Array b7)(i k:Nat):((Am k).filterMap λ(m:Nat)=>a[((i:Int)+(m:Int)*1).toNat]?).toArray=((a.toList.drop i).take k).toArray:=by
 have e:(λ(m:Nat)=>a[((i:Int)+(m:Int)*1).toNat]?)=λm=>a[i+m]?:=by
  funext m
  have:((i:Int)+(m:Int)*1).toNat=i+m:=by lia
  rw[this]
 rw[e];have:=pick_run a i k;rw[List.filterMap_map] at this;have b:((λx=>a[x]?) ∘ λx=>i+x)=λm=>a[i+m]?:=rfl;rw[b] at this;rw[this]

def getItem_tuple_cut{lo hi:Option Int}{Q:b7->b9->Prop}(c:Gv s.heap t a)(n:s.heap.IsSliceOf d l j .none)(p:EA l lo)(o:EA j hi)
  (r:¬ (sIx a.size 0 lo=0/\sIx a.size a.size hi=a.size))
  (h:Q (.ref s.heap.objs.size) { s with heap:=s.heap.push { cls:=.type "tuple",data:=.seq ((a.toList.drop (sIx a.size 0 lo)).take (sIx a.size a.size hi-sIx a.size 0 lo)).toArray } })
  (u:a.size<=sizeLine):wpAny (model prog w) A (getItem (.ref t) (.ref d)) Q E s:=by
 have b:sizeOk (.seq ((a.toList.drop (sIx a.size 0 lo)).take (sIx a.size a.size hi-sIx a.size 0 lo)).toArray):=by
  show((a.toList.drop (sIx a.size 0 lo)).take (sIx a.size a.size hi-sIx a.size 0 lo)).toArray.size<=sizeLine;rw[d9,Az,Dl,Ag];lia
 have z:sIx a.size a.size hi<=a.size:=YJ _ _ (d8 _) hi;obtain⟨os,e,g,v⟩:=id n;have i:s.TypeIs (.ref d) "slice" :=⟨os,e,g⟩;unfold getItem
 try with_reducible refine Aj ?_
 first | refine b0 (c9 ?_) | skip
 refine b0 (wpAny_sequenceKey c.typeIs (by decide) ?_);refine b0 (z9 (name:=d4 "__getitem__") c.typeIs Be
  (AQ Be c.typeIs entry_tuple_getitem ?_ (args_tuple_getitem _ _)))
 show wpAny _ _ (FP (.ref t) >>= _) _ _ s;refine b0 (tupleItemsOf_ c ?_);refine b0 (wpAny_typeOf i ?_);rw[y4 (by decide)];refine b0 (wg n p o ?_);have f:¬ ((((sIx a.size 0 lo:Nat):Int) == 0&&(1:Int) == 1&&(sIx a.size a.size hi-sIx a.size 0 lo) == a.size)=G3):=by
  intro q;rw[i8,i8] at q;have y:((sIx a.size 0 lo:Nat):Int)=0:=eq_of_beq q.1.1;have x:sIx a.size a.size hi-sIx a.size 0 lo=a.size:=eq_of_beq q.2;rwa[r ⟨by lia,by lia⟩]
 show wpAny _ _ (if (((sIx a.size 0 lo:Nat):Int) == 0&&(1:Int) == 1&&(sIx a.size a.size hi-sIx a.size 0 lo) == a.size)=G3 then _ else _) _ _ s;rw[y3 f,dm]
 first
  | exact b0 (m:=Bb _) (v5 (c9 ⟨_,rfl,c9 h⟩) b)
  | exact b0 (m:=Bb _) (v5 (b0 (c9 (c9 ⟨_,rfl,c9 h⟩))) b)
  | exact b0 (b0 (m:=Bb _) (v5 (c9 (c9 ⟨_,rfl,c9 h⟩)) b))
  | exact b0 (b0 (m:=Bb _) (v5 (c9 ⟨_,rfl,c9 h⟩) b))
end
end HT

namespace L2

abbrev TO:=St->Hp->(Option Int->Hp->Prop)->Prop
def PO(X:Cx)(e:Option o6)(t:TO):Prop :=
 ∀(c:List (b6×Ad))(s:b9)(a:St)(H:Hp)(Q:Option Int->Hp->Prop),Inv X c a H s->t a H Q ->
  wpAny (model X.prog X.w) X.A (evalPart e X.env) (λu d=>∃ o b,Inv X c a b d/\EA u o/\Q o b) X.xe s
def aV:TO:=λ_ H Q=>Q G2 H
def tPart(t:TE):TO:=λa H Q=>t a H λx b=>∃ i,x=.int i/\Q (G0 i) b

section
variable{X:Cx}{e:o6}{te:TE}{lo hi:Option o6}{tl th:TO}{pos p2:BM}

def ka:PO X G2 aV:=by
 intro b s a H Q I h;rw[evalPart_none];rwa[c9 ⟨G2,H,I,.none,h⟩]
def kU(h:PE X e te):PO X (G0 e) (tPart te):=by
 intro j s a H Q I d;rw[evalPart_some];erw[thn (h j s a H _ I d) λu l ⟨x,g,f,b,c⟩=>?_];obtain⟨i,rfl,q⟩:=c;obtain⟨t,rfl⟩:=b;rwa[G0 i,g,f,.int i t,q]

def SlR(X:Cx)(r:V->Option Int->Option Int->Hp->VK->Prop):Prop :=
 ∀(f:List (b6×Ad))(s:b9)(a:St)(H:Hp)(x:V)(v c b:b7)(lo hi:Option Int)(d:b6)(Q:VK),Inv X f a H s->xN x v->s.heap.IsSliceOf d c b .none->EA c lo->EA b hi->r x lo hi H Q ->
  ∃ T id,typeLookup (.type T) "__getitem__" = pure (G0 (.builtin id))/\s.TypeIs v T/\wpAny (model X.prog X.w) X.A (getItem v (.ref d)) (EP X f a Q) X.xe s
def tSl(r:V->Option Int->Option Int->Hp->VK->Prop)(te:TE)(tl th:TO):TE:=λa H Q=>te a H λx d=>tl a d λl c=>th a c λu b=>r x l u b Q
def oG{r:V->Option Int->Option Int->Hp->VK->Prop}(D:SlR X r)(J:PE X e te)(E:PO X lo tl)(B:PO X hi th):PE X (.Subscript e (.Slice lo hi G2 p2) pos) (tSl r te tl th):=by
 intro d s c H Q I h;erw[FQ (thn (J d s c H _ I h) λv m ⟨x,S,P,n,t⟩=>?_)];erw[wpAny_Slice (thn (E d m c S _ P t) λg j ⟨l,R,O,z,p⟩=>thn (B d j c R _ O p) λf a ⟨u,i,N,y,o⟩=>?_)];rw[evalPart_none];erw[c9 ?_];have M:Inv X d c i { a with heap:=a.heap.push { cls:=.type "slice",data:=.fields #[g,f,.none] } }:=N.kept (t':=a.toks) λb ob q=>b8 _ q;obtain⟨T,id,L,C,G⟩:=D d { a with heap:=a.heap.push { cls:=.type "slice",data:=.fields #[g,f,.none] } } c i x v g f l u a.heap.objs.size Q M n (GS ..) z y o;show wpAny (model X.prog X.w) X.A (subscriptTail e (.Slice lo hi G2 p2) v (.ref a.heap.objs.size)) (EP X d c Q) X.xe { a with heap:=a.heap.push { cls:=.type "slice",data:=.fields #[g,f,.none] } };rwa[tail_any (ops:=[.ref a.heap.objs.size,v]) C L G (by with_unfolding_all rfl)]

def eY(a:List V)(lo hi:Option Int):List V:=(a.drop (HT.sIx a.length 0 lo)).take (HT.sIx a.length a.length hi-HT.sIx a.length 0 lo)
def uc(a:List V)(lo hi:Option Int):(eY a lo hi).length<=a.length:=by
 unfold eY;rw[Az,Dl];lia
def rSlT(K:ac):V->Option Int->Option Int->Hp->VK->Prop:=λx lo hi H Q=>E2 λa b=>A4 (x=.ref a) (SqT K H a b) (¬ (HT.sIx b.length 0 lo=0/\HT.sIx b.length b.length hi=b.length)) (∀ p,H p=G2->Q (.ref p) (upd H p (.tup (eY b lo hi))))
def Yx:SlR X (rSlT X.K):=by
 intro A s u H x v y w lo hi z Q I j t m l h;obtain⟨a,d,rfl,n,p,q⟩:=h;cases j;obtain⟨f,r,i,g⟩:=I.tuple n;have c:f.toArray.size=d.length:=by rw[d9]; rwa[r.length.symm]
 exists "tuple",_,Be.lookup,i.typeIs;erw[HT.getItem_tuple_cut i t m l (by rw[c]; rwa[p]) ?_ (by rw[c]; rwa[g])];rw[c];erw[.ref s.heap.objs.size,_,I.laid (t':=s.toks) (o:=.tup (eY d lo hi)) (λb ob q=>b8 _ q) (d8 _) ?_,U,q _ (I.hok.fresh (d8 _))];rwa[g9 (uc d lo hi) g,_,(r.drop (HT.sIx d.length 0 lo)).take (HT.sIx d.length d.length hi-HT.sIx d.length 0 lo),GX _ _]

end
end L2

namespace L2

def ixN(n:Nat)(i:Int):Option Nat:=if 0<=i then(if i<n then G0 i.toNat else G2) else if -(n:Int)<=i then G0 (i+n).toNat else G2
def atI{a:Type}(b:List a)(i:Int):Option a:=(ixN b.length i).bind λj=>b[j]?
def ai{n:Nat}{i:Int}{j:Nat}(h:ixN n i=G0 j):seqIndex? i n=G0 j/\j<n/\-(n:Int)<=i/\i<n:=by
 unfold ixN at h;by_cases h0:0<=i
 ·rw[y4 h0] at h;by_cases h1:i<n
  ·rw[y4 h1] at h;have e:i.toNat=j:=o0 h;rwa[by rw[seqIndex_of h0 h1,e],by lia,by lia,h1]
  ·rw[y3 h1] at h; cases h
 ·rw[y3 h0] at h;by_cases h1 : -(n:Int)<=i
  ·rw[y4 h1] at h;have e:(i+n).toNat=j:=o0 h;rwa[by rw[seqIndex_neg (by lia) h1,e],by lia,h1,by lia]
  ·rw[y3 h1] at h; cases h
def ku{b:Type}{a:List b}{i:Int}{v:b}(h:atI a i=G0 v):∃ j,seqIndex? i a.length=G0 j/\a[j]?=G0 v/\j<a.length/\-(a.length:Int)<=i/\i<a.length:=by
 unfold atI at h;cases e:ixN a.length i with
 | none=>rw[e] at h; cases h
 | some j =>
  rw[e] at h;obtain⟨h1,h2,h3,h4⟩:=ai e;rwa[j,h1,h,h2,h3,h4]
def pW{b:Type}{a:List b}{j:Nat}{v:b}(h:a[j]?=G0 v):atI a (j:Int)=G0 v:=by
 have c:j<a.length:=(f8.mp h).1;have e:ixN a.length (j:Int)=G0 j:=by
  unfold ixN;rw[y4 (by lia),y4 (by lia)]; simp
 unfold atI; rw[e]; rwa[h]
def cT{b:Type}(a:List b)(v:b):atI (a++[v]) (-1)=G0 v:=by
 have c:(a++[v]).length=a.length+1:=by simp
 have e:ixN (a++[v]).length (-1)=G0 a.length:=by
  unfold ixN;rw[c,y3 (by decide),y4 (by lia)]
  congr 1
  lia
 unfold atI;rw[e];show(a++[v])[a.length]?=G0 v;simp

def gC(b:o6):Prop:=∀ o i,subscripted b G4 o i=operate [o,i] (getItem o i)
def IxR(X:Cx)(r:R2):Prop :=
 ∀(value slice:o6)(b:List (b6×Ad))(s:b9)(a:St)(H:Hp)(x y:V)(v u:b7)(Q:VK),Inv X b a H s->xN x v->xN y u->r x y H Q ->
  subscripted slice G4 v u=operate [v,u] (getItem v u)->wpAny (model X.prog X.w) X.A (subscriptTail value slice v u) (EP X b a Q) X.xe s
def MtR(X:Cx)(id:String)(r:V->List V->Hp->VK->Prop):Prop :=
 ∀(d:List (b6×Ad))(s:b9)(a:St)(H:Hp)(x:V)(b:List V)(v:b7)(c:List b7)(Q:VK),Inv X d a H s->xN x v->xD b c->r x b H Q ->
  wpAny (model X.prog X.w) X.A (call (.builtin id) (v::c)) (EP X d a Q) X.xe s
section
variable{X:Cx}{a b:o6}{ta tb:TE}{pos:BM}
def cI(i:IxR X r)(l:PE X a ta)(j:PE X b tb)(g:gC b):PE X (.Subscript a b pos) (tOp r ta tb):=by
 intro o s c H Q I h;rwa[FQ (XS l j I h λv u d x y n m f e q=>i a b o d c n x y v u Q m f e q (g _ _))]

def rIxL(K:ac):R2:=λx y H Q=>E4 λp c i v=>A5 (x=.ref p) (y=.int i) (SqL K H p c) (atI c i=G0 v) (Q v H)
def rIxT(K:ac):R2:=λx y H Q=>E4 λp c i v=>A5 (x=.ref p) (y=.int i) (SqT K H p c) (atI c i=G0 v) (Q v H)
def rIxS:R2:=λx y H Q=>E3 λz i c=>A5 (x=.str z) (y=.int i) (z.length<=sizeLine) (atI z.cps.toList i=G0 c) (Q (.str ⟨#[c]⟩) H)
def aD:IxR X (rIxL X.K):=by
 intro value slice o s l H x y v u Q I C B h m;obtain⟨p,J,i,z,rfl,rfl,D,G,q⟩:=h;cases C;obtain⟨t,rfl⟩:=B;obtain⟨f,r,e,L⟩:=I.list D;obtain⟨j,h1,h2,h3,h4,h5⟩:=ku G;obtain⟨w,n,d⟩:=r.get h2;have E:=r.length;have M:=mX;have c:EP X o l Q w s:=⟨z,H,I,d,q⟩;by_cases h0:0<=i
 ·have g:i.toNat=j:=by
   rw[seqIndex_of h0 h5] at h1;rwa[o0 h1]
  exact item_listR e.isList h0 (by lia) (by rw[g]; simpa using n) c m
 ·have g:(i+(f.toArray.size:Int)).toNat=j:=by
   rw[seqIndex_neg (by lia) h4] at h1;rw[d9,<- E];rwa[o0 h1]
  exact subscriptTail_builtinR (x:=w) e.isList.typeIs slot_list_getitem.lookup
   (wpAny_getItem_list_neg (Q:=λr A=>r=w/\EP X o l Q r A) e.isList (by lia) (by rw[d9] <;> lia) (by lia) (by rw[g]; simpa using n) ⟨rfl,c⟩) m
def Yu:IxR X (rIxT X.K):=by
 intro value slice g s e H x y v u Q I n m h A;obtain⟨p,G,i,z,rfl,rfl,B,D,q⟩:=h;cases n;obtain⟨t,rfl⟩:=m;obtain⟨o,r,f,J⟩:=I.tuple B;obtain⟨j,h1,h2,h3,h4,h5⟩:=ku D;obtain⟨w,E,c⟩:=r.get h2;have C:=r.length;have L:=mX;have d:EP X g e Q w s:=⟨z,H,I,c,q⟩;exact subscriptTail_builtinR (x:=w) f.typeIs slot_tuple_getitem.lookup
  (getItem_tuple (j:=j) (Q:=λr l=>r=w/\EP X g e Q r l) f (by lia) (by lia) (by rw[d9,<- C]; rwa[h1]) (by simpa using E) ⟨rfl,d⟩) A
def bO:IxR X rIxS:=by
 intro value slice A s o H x y v u Q I e d h f;obtain⟨z,i,c,rfl,rfl,r,l,q⟩:=h;obtain⟨t,rfl⟩:=e;obtain⟨p,rfl⟩:=d;obtain⟨j,h1,h2,h3,h4,h5⟩:=ku l;have g:z.cps.toList.length=z.length:=by simp[Str.length]
 rw[g] at h1 h4 h5;have w:=mX;exact tail_any (typeIs_str s z t) slot_str_getitem.lookup (getItem_str (c:=c) (by
  have n:decide (i < -(2^63:Int))=false:=y7 (by lia);have m:decide (i >= 2^63)=false:=y7 (by lia);rw[n,m,Gn]) (by rw[h1]; simpa using h2) ⟨.str ⟨#[c]⟩,H,I.tok _,⟨_,rfl⟩,q⟩) f
def nX(lo hi:Option Int)(n:Nat):(sliceBounds lo hi G2 n).1=((HT.sIx n 0 lo:Nat):Int)/\(sliceBounds lo hi G2 n).2.1=((HT.sIx n n hi:Nat):Int)/\(sliceBounds lo hi G2 n).2.2=1:=by
 erw[?_,?_,U]
 ·cases lo with
  | none=>simp[sliceBounds,HT.sIx]
  | some i =>
   simp only[sliceBounds,HT.sIx,Fh,show(1:Int)>0 by decide,if_true];by_cases h:i<0
   ·simp only[h,if_true] <;> lia
   ·simp only[h,if_false] <;> lia
 ·cases hi with
  | none=>simp[sliceBounds,HT.sIx]
  | some i =>
   simp only[sliceBounds,HT.sIx,Fh,show(1:Int)>0 by decide,if_true];by_cases h:i<0
   ·simp only[h,if_true] <;> lia
   ·simp only[h,if_false] <;> lia
def oa(c:List b7)(lo hi:Option Int):slicePick c.toArray lo hi G2=((c.drop (HT.sIx c.length 0 lo)).take (HT.sIx c.length c.length hi-HT.sIx c.length 0 lo)).toArray:=by
 obtain⟨h1,h2,h3⟩:=nX lo hi c.toArray.size;unfold slicePick;rw[h1,h2,h3];simp only[sliceRange_one,pick_run,d9] <;> rfl
def rSlL(K:ac):V->Option Int->Option Int->Hp->VK->Prop:=λx lo hi H Q=>E2 λa c=>A3 (x=.ref a) (SqL K H a c) (∀ p,H p=G2->Q (.ref p) (upd H p (.lst (eY c lo hi))))
def aa:SlR X (rSlL X.K):=by
 intro y s p H x v u t lo hi w Q I f n i g h;obtain⟨a,c,rfl,m,q⟩:=h;cases f;obtain⟨j,r,e,l⟩:=I.list m;have d:=r.length;exists "list",_,slot_list_getitem.lookup,e.isList.typeIs;erw[wpAny_getItem_list_slice e.isList n i g .none (by simp) ?_ (by rw[d9] <;> lia)];rw[oa,<- d];erw[.ref s.heap.objs.size,_,I.laid (t':=s.toks) (o:=.lst (eY c lo hi)) (λb ob q=>b8 _ q) (d8 _) ?_,U,q _ (I.hok.fresh (d8 _))];rwa[g9 (uc c lo hi) l,_,0,(r.drop (HT.sIx c.length 0 lo)).take (HT.sIx c.length c.length hi-HT.sIx c.length 0 lo),d6 _ rfl]

def flatV:V->Bool
 | .non=>G3
 | .bl _=>G3
 | .int _=>G3
 | .str _=>G3
 | _=>G4
def eqV:V->V->Bool
 | .non,.non=>G3
 | .bl a,.bl b=>a == b
 | .bl a,.int b=>(if a then 1 else 0) == b
 | .int a,.bl b=>a ==(if b then 1 else 0)
 | .int a,.int b=>a == b
 | .str a,.str b=>a == b
 | _,_=>G4
def eqU(x:V)(u:b7):Bool:=match u with
 | .none=>eqV .non x
 | .bool b=>eqV (.bl b) x
 | .int i _=>eqV (.int i) x
 | .str z _=>eqV (.str z) x
 | _=>G4
def wz:sV X (.builtin "len") (λj H Q=>E2 λp d=>A3 (j=[.ref p]) (SqL X.K H p d\/SqT X.K H p d) (Q (.int d.length) H)):=by
 intro v s n H j o Q I r h;obtain⟨p,d,rfl,e,q⟩:=h;obtain⟨u,rfl,l⟩:=kQ r;cases l;have t:=mX;rcases e with e | e
 ·obtain⟨i,f,g,m⟩:=I.list e;have c:=f.length;rwa[Calls.call_len_list g.isList (by simp only[d9] <;> lia) ⟨.int d.length,H,I.tok _,⟨s.toks+1,by rw[d9,c]⟩,q⟩]
 ·obtain⟨i,f,g,m⟩:=I.tuple e;have c:=f.length;rwa[len_tuple g (by simp only[d9] <;> lia) ⟨.int d.length,H,I.tok _,⟨s.toks+1,by rw[d9,c]⟩,q⟩]
def vC:sV X (.builtin "len") (λc H Q=>∃ z,A3 (c=[.str z]) (z.length<=sizeLine) (Q (.int z.length) H)):=by
 intro i s d H c e Q I r h;obtain⟨z,rfl,f,q⟩:=h;obtain⟨u,rfl,t,rfl⟩:=kQ r;have g:=mX;rwa[len_str (by lia) ⟨.int z.length,H,I.tok _,⟨_,rfl⟩,q⟩]
def sV.or{r i:List V->Hp->VK->Prop}(h:sV X f r)(l:sV X f i):sV X f (λc H Q=>r c H Q\/i c H Q):=by
 intro j s d H c e Q I g q;rcases q with q | q
 ·rwa[h j s d H c e Q I g q]
 ·rwa[l j s d H c e Q I g q]
def sX:sV X (.type "tuple") (λn H Q=>E2 λp d=>n=[.ref p]/\((SqL X.K H p d/\∀ l,H l=G2->Q (.ref l) (upd H l (.tup d)))\/(SqT X.K H p d/\Q (.ref p) H))):=by
 intro y s m H n B Q I r h;obtain⟨p,d,rfl,h⟩:=h;obtain⟨u,rfl,z⟩:=kQ r;cases z;rcases h with ⟨j,q⟩ | ⟨j,q⟩
 ·obtain⟨c,g,i,t⟩:=I.list j;have v:=g.length;refine call_tuple_list i.isList (λf kp=>?_) (by simp only[d9] <;> lia);have x:Inv X y m H { s with heap:=f }:=I.kept (t':=s.toks) kp;have A:Inv X y m (upd H f.objs.size (.tup d)) { s with heap:=f.push { cls:=.type "tuple",data:=.seq c.toArray } } :=
   x.laid (t':=s.toks) (λb o e=>b8 _ e) (d8 _) (show yU X.prog X.w _ _ _ (.tup d) from⟨t,c,g,GX _ _⟩)
  rwa[.ref f.objs.size,_,A,U,q _ (x.hok.fresh (d8 _))]
 ·obtain⟨c,g,i,t⟩:=I.tuple j;rwa[call_tuple_same i ⟨.ref p,H,I,rfl,q⟩]

def tyV(K:ac)(T:String)(x:V)(H:Hp):Prop:=match x with
 | .str _=>T = "str"
 | .int _=>T = "int"
 | .ref p=>(T = "list" /\ ∃ d,SqL K H p d)\/(T = "tuple" /\ ∃ o,K.lookup p=G0 o/\o.cls=.type "tuple" /\ o.dict=G2) \/
   (T = "dict" /\ ((∃ c,H p=G0 (.dK c))\/∃ c,H p=G0 (.dT c)))\/(T = "set" /\ ∃ S n,H p=G0 (.set S n))
 | _=>False
def bh{h:St}{H:Hp}(I:Inv X q h H s)(r:xN x v)(ty:tyV X.K T x H) :
  s.TypeIs v T/\∀ a,v=.ref a->∃ ob,s.heap.get? a=G0 ob/\ob.dict=none:=by
 cases x with
 | str z =>
  obtain⟨t,rfl⟩:=r;cases (show T = "str" from ty);exact⟨typeIs_str s z t,λ_ e=>nomatch e⟩
 | int i =>
  obtain⟨t,rfl⟩:=r;cases (show T = "int" from ty);exact⟨typeIs_int s i t,λ_ e=>nomatch e⟩
 | ref p =>
  cases r;rcases ty with ⟨rfl,u,l⟩ | ⟨rfl,o,hk,m,hd⟩ | ⟨rfl,hk⟩ | ⟨rfl,S,n,hk⟩
  ·obtain⟨j,_,g,_⟩:=I.list l;erw[g.isList.typeIs,λa e=>?_];cases e;obtain⟨o,n,e,c,hd,_⟩:=g;rwa[o,e,hd]
  ·erw[⟨o,I.kIn p o hk,m⟩,λa e=>?_];cases e;rwa[o,I.kIn _ o hk,hd]
  ·have z:∃ o,s.heap.get? p=G0 o/\o.ExactDict:=by
    rcases hk with ⟨d,hk⟩ | ⟨d,hk⟩
    ·obtain⟨_,_,_,_,o,_,_,e,ex,_⟩:=I.hok p _ hk;rwa[o,e,ex]
    ·obtain⟨_,_,_,_,o,_,_,e,ex,_⟩:=I.hok p _ hk;rwa[o,e,ex]
   obtain⟨o,e,ex⟩:=z;erw[⟨o,e,ex.1⟩,λa f=>?_];cases f;rwa[o,e,ex.2.1]
  ·obtain⟨o,_,_,_,e,ex,_⟩:=I.hok p _ hk;erw[⟨o,e,ex.1⟩,λa f=>?_];cases f;rwa[o,e,ex.2.1]
 | _=>rwa[l9 ty]
def tBM0(K:ac)(T:String)(r:V->List V->Hp->VK->Prop)(to:TE):TE:=λd H Q=>to d H λx c=>tyV K T x c/\r x [] c Q
def tBM(K:ac)(T:String)(r:V->List V->Hp->VK->Prop)(to:TE)(t:TA):TE:=λc H Q=>to c H λx d=>tyV K T x d/\t c d λe f=>r x e f Q
variable{o e:o6}{es:List o6}{to:TE}{t:TA}{name:c7}{apos cpos:BM}{T id:String}{r:V->List V->Hp->VK->Prop}
def YB(pa:PlainAttrs T)(slot:Slot T name id)(f:typeOf (.builtin id)=pure (.type "method_descriptor"))(q:MtR X id r)(p:PE X o to)
  (d:attributeBase o name X.env (eval o X.env)=eval o X.env:=by rfl) (c:(apos.endLine == cpos.line)=true:=by rfl):PE X (.Call (.Attribute o name apos) [] [] cpos) (tBM0 X.K T r to):=by
 intro l s g H Q I h;erw[wpAny_Call_method0_late d c (thn (p l s g H _ I h) λv m ⟨x,u,j,i,ty,n⟩=>?_)];obtain⟨h1,h2⟩:=bh j i ty;rwa[T,id,pa,slot,f,h1,h2,Bs rfl (El (q l m g u x [] v [] Q j i .nil n))]
def kO(pa:PlainAttrs T)(slot:Slot T name id)(j:typeOf (.builtin id)=pure (.type "method_descriptor"))(E:MtR X id r)(D:PE X o to)(G:PA X (e::es) t)
  (f:attributeBase o name X.env (eval o X.env)=eval o X.env:=by rfl)
  (g:((backTo cpos (starEach (e::es) X.env)).all (λx=>!x.1)&&(backToKw cpos (keywordEach [] X.env)).all (λx=>x.1.isSome)
   && decide ((e::es).length+([]:List C8).length+(if ([]:List C8).isEmpty then 0 else 1)<30))=true:=by rfl)
  (d:(apos.endLine == cpos.line)=true:=by rfl) (C:starEach (e::es) X.env=(G4,eval e X.env)::starEach es X.env:=by rfl) (c:(backTo cpos (starEach es X.env)).any (·.1)=false:=by rfl) :
  PE X (.Call (.Attribute o name apos) (e::es) [] cpos) (tBM X.K T r to t):=by
 intro l s i H Q I h;erw[wpAny_Call_method_late f g d rfl (thn (D l s i H _ I h) λv y ⟨x,M,p,m,ty,B⟩=>?_)];obtain⟨h1,h2⟩:=bh p m ty;exists T,id,pa,slot,j,h1,h2;have n:=G cpos l y i M _ p B;rw[C] at n ⊢;refine Bs (by show(G4||(backTo cpos (starEach es X.env)).any (·.1))=G4; rw[c] <;> rfl) (A2 ?_);rwa[thn n λu w ⟨q,L,J,z,A⟩=>E l w i L x q v u Q J m z A]
end
end L2

namespace L2

def MtM(X:Cx)(id:String)(r:V->List V->Hp->VK->Prop):Prop :=
 ∀(d:List (b6×Ad))(s:b9)(a:St)(H:Hp)(x:V)(b:List V)(v:b7)(c:List b7)(Q:VK),Inv X d a H s->xN x v->xD b c->r x b H Q ->
  wpAny (model X.prog X.w) X.A (call (.builtin id) (v::c)) (EP X d a Q) X.xe s

def xD.one:∀{x:V}{a:List b7},xD [x] a->∃ u,a=[u]/\xN x u
 | _,_,.cons r .nil=>⟨_,rfl,r⟩
def xD.two:∀{x y:V}{a:List b7},xD [x,y] a->∃ u v,a=[u,v]/\xN x u/\xN y v
 | _,_,_,.cons r (.cons q .nil)=>⟨_,_,rfl,r,q⟩
def xD.zero:∀{a:List b7},xD [] a->a=[]
 | _,.nil=>rfl
def xD.dropLast(h:xD a b):xD a.dropLast b.dropLast:=by
 induction h with
 | nil=>rwa[.nil]
 | cons r t c =>
  cases t with
  | nil=>rwa[.nil]
  | cons q d=>rwa[.cons r c]
def iy{c:Type}(l:List c):l.eraseIdx (l.length-1)=l.dropLast:=by
 induction l with
 | nil=>rfl
 | cons a r d =>
  cases r with
  | nil=>rfl
  | cons b r =>
   have e:(a::b::r).length-1=((b::r).length-1)+1:=by
    have h1:(a::b::r).length=r.length+2:=rfl;have h2:(b::r).length=r.length+1:=rfl;lia
   rw[e,List.eraseIdx_cons_succ,d]
   all_goals rfl
section
variable{X:Cx}{G5:List (b6×Ad)}{σ:St}{H:Hp}{s:b9}{l b:b6}{xs ys zs:List V}

def Inv.lset{a its':List b7}{n:Nat}{f:Array b7->Array b7}{t':Nat}(I:Inv X G5 σ H s)(j:H l=G0 (.lst xs))
  (e:s.heap.get? l=G0 { cls:=.type "list",data:=.seq a.toArray n }) (h:f a.toArray=its'.toArray) (d:xD ys its') (c:ys.length<=sizeLine) :
  Inv X G5 σ (upd H l (.lst ys)) { s with heap:=s.heap.update l (Obj.mapSeq f),toks:=t' }:=by
 have q:=PySem.IsL.update e f;rw[h] at q;erw[I.write (x:=l) (e:=l) (by rw[j]; rwa[trivial]) (.inl rfl) (λm u i g=>(o8 s.heap (Obj.mapSeq f) (Av i)).trans g) ⟨_,q⟩ ?_];rwa[c,its',_,d,q]
def Inv.lnew{t':Nat}(I:Inv X G5 σ H s)(d:xD ys a)(c:ys.length<=sizeLine) :
  Inv X G5 σ (upd H s.heap.objs.size (.lst ys)) { s with heap:=s.heap.push { cls:=.type "list",data:=.seq a.toArray },toks:=t' } :=
 I.laid (λ_ _ q=>b8 _ q) (d8 _) ⟨c,a,0,d,d6 _ rfl⟩
def Inv.fresh(I:Inv X G5 σ H s):H s.heap.objs.size=none:=I.hok.fresh (d8 _)
def Inv.lstM(I:Inv X G5 σ H s)(c:H l=G0 (.lst xs)):xs.length<=sizeLine/\∃(a:List b7)(n:Nat),xD xs a/\xs.length=a.length/\s.heap.get? l=G0 { cls:=.type "list",data:=.seq a.toArray n }:=by
 obtain⟨z,a,n,r,e⟩:=I.hok l _ c;rwa[z,a,n,r,r.length,e]

def dO{n:Nat}(h:n<=sizeLine):BX n=false:=by
 unfold BX;rwa[y7 (by lia)]
end

section
variable{X:Cx}

def hU:V->List V->Hp->VK->Prop:=λx b H Q=>E3 λl a y=>A5 (x=.ref l) (b=[y]) (H l=G0 (.lst a)) (a.length<sizeLine) (Q .non (upd H l (.lst (a++[y]))))
def uo:MtM X "list.append" hU:=by
 intro p s f H x i v j Q I c d h;obtain⟨l,g,y,rfl,rfl,b,m,q⟩:=h;cases c;obtain⟨u,rfl,ru⟩:=d.one;obtain⟨z,a,n,r,o,e⟩:=I.lstM b;erw[call_meets F.slot_list_append ⟨_,e,rfl⟩ F.entry_list_append (F.args_list_append_2 _ _) (PySem.list_append l a.toArray n u (by rw[d9]; lia)) ⟨e,?_⟩];erw[.non,_,I.lset (its':=a++[u]) b e (by simp) (r.append (.cons ru .nil)) ?_,U,q];rw[d5,Aw];lia

def aI:V->List V->Hp->VK->Prop:=λx d H Q=>E4 λl b c a=>A6 (x=.ref l) (d=[.ref b]) (H l=G0 (.lst c)) (H b=G0 (.lst a)) (c.length+a.length<=sizeLine) (Q .non (upd H l (.lst (c++a))))
def fC:MtM X "list.extend" aI:=by
 intro J s w H x C v D Q I i j h;obtain⟨l,b,B,y,rfl,rfl,g,p,E,q⟩:=h;cases i;obtain⟨u,rfl,ru⟩:=j.one;cases ru;obtain⟨z,c,n,r,G,e⟩:=I.lstM g;obtain⟨A,a,n2,m,o,t⟩:=I.lstM p;have f:c.toArray.size+a.toArray.size<=sizeLine:=by rw[d9,d9]; lia
 have d:¬ (!c.toArray.isEmpty&&BX (c.toArray.size+a.toArray.size))=true:=by
  rw[dO f,CU];rwa[g7]
 refine call_meets F.slot_list_extend ⟨_,e,rfl⟩ F.entry_list_extend (F.args_list_extend_2 _ _)
  (AutoSeq1.list_extend_list_list_0 l c.toArray n b a.toArray n2 d (by rw[d9]; lia) (by lia)) ⟨e,t,?_⟩
 erw[.non,_,I.lset (its':=c++a) g e (by simp) (r.append m) ?_,U,q];rw[d5];lia

def rPop:V->List V->Hp->VK->Prop:=λx b H Q=>E3 λl a y=>A5 (x=.ref l) (b=[]) (H l=G0 (.lst a)) (a[a.length-1]?=G0 y) (Q y (upd H l (.lst a.dropLast)))
def Yg:MtM X "list.pop" rPop:=by
 intro A s o H x t v w Q I f g h;obtain⟨l,p,y,rfl,rfl,d,i,q⟩:=h;cases f;have c:=g.zero;subst c;obtain⟨z,a,n,r,m,e⟩:=I.lstM d;obtain⟨u,j,ru⟩:=r.get i;have b:a.toArray[a.toArray.size-1]?=G0 u:=by
  show a.toArray[a.length-1]?=G0 u;rw[<- DY,<- m];rwa[j]
 erw[call_meets F.slot_list_pop ⟨_,e,rfl⟩ F.entry_list_pop (F.args_list_pop_1 _) (MeetsSeq.list_pop_last l a.toArray n u b (by rw[d9]; lia)) ⟨e,?_⟩];erw[y,_,I.lset (its':=a.dropLast) d e ?_ r.dropLast ?_,ru,q]
 ·show a.toArray.eraseIdxIfInBounds (a.toArray.size-1)=a.dropLast.toArray;rw[d9,List.eraseIdxIfInBounds_toArray,iy]
 ·rw[List.length_dropLast];lia

def XR:R2:=λx y H Q=>E4 λl b c a=>A6 (x=.ref l) (y=.ref b) (H l=G0 (.lst c)) (H b=G0 (.lst a)) (c.length+a.length<=sizeLine) (∀ p,H p=G2->Q (.ref p) (upd H p (.lst (c++a))))
def uJ:OpR X (binaryOp .Add) XR:=by
 intro E s t H x y v u Q I f d h;obtain⟨l,b,B,w,rfl,rfl,j,m,C,q⟩:=h;cases f;cases d;obtain⟨z,c,n,r,D,e⟩:=I.lstM j;obtain⟨A,a,n2,g,i,p⟩:=I.lstM m;erw[PySem.P.add_list e p ?_ (by rw[d9,d9]; lia)];have o:c.toArray++a.toArray=(c++a).toArray:=by simp
 rw[o];rwa[.ref _,_,I.lnew (t':=s.toks) (r.append g) (by rw[d5]; lia),rfl,q _ I.fresh]
def aB{b:Type}(a:List b)(k:Nat):(i9 k a).flatten.length=k*a.length:=by
 induction k with
 | zero=>simp
 | succ k c=>rw[CD,ET,d5,c,GF,Nat.add_comm]
end


end L2

namespace Att
open PySem PySem.W PySem.Calls PyProof.Rows

def ur : ∀(ns:List Int)(c:List b7),WellAll P h c (ns.map GY)->FH c ns:=by
 intro ns
 induction ns with
 | nil =>
  intro c w;rw[DD] at w;cases w;rwa[.nil]
 | cons n ns d =>
  intro c w;rw[i7] at w;cases w with
  | cons a b =>
   cases a;rwa[.cons _ _ (d _ b)]

def eE{l:DQ}{n:Nat}(t:l.most=G0 n)
  (c:l.row.toRowW.claim.pre b=G3) (g:WellAll P h vals b) :
  ∃ a j ns,vals=[e8 a]/\b=[WData.list (ns.map GY)]/\h.get? a=G0 { cls:=.type "list",data:=.seq j.toArray }/\FH j ns/\ns.length<=n:=by
 have i:WShape.hasAll [] b [.list .int]=true:=(pre_splitW c).1;have m:l.pre.holds [] { args:=b }=true:=(pre_splitW c).2;obtain⟨d,r,rfl,h1,h2⟩:=hasAllW_cons i;obtain rfl:=hasAllW_nil h2;obtain⟨u,rfl,h3⟩:=hasW_list h1;obtain⟨ns,rfl⟩:=items_int h3;have e:ns.length<=n:=by
  unfold OpenLaw.pre at m;have h4:(WTm.not (.lt (.lit (.int (n:Int))) (.len (.arg 0)))).holds [] { args:=[.list (ns.map .int)] }=true:=by
   have h4:=(holds_andW m).1;rw[t] at h4;rwa[h4]
  have h5:=condW_of h4 (w_not (w_lt w_lit (w_len_list (w_arg rfl))));rw[c5] at h5;erw[Fi λq=>?_];have p:(n:Int)<((ns.length:Nat):Int):=by lia
  first
   | (rw[y6 p] at h5; rwa[y8 h5 (by decide)])
   | (simp at h5; lia)
 cases g with
 | cons w1 o =>
  cases o;cases w1 with
  | list s f=>rwa[_,_,ns,U,U,s,ur ns _ f,e]

def hZ(l:DQ)(a:List WData):l.row.toRowW.claim.post a (.bool G3) a=true :=
 postW_of (r:=l.row.toRowW) (X:=(G3 == G3))
  (show GT [] (.bool G3) .bool=G3 by first | rfl | decide | simp[GT,WShape.arms,WShape.armsAll])
  (show(WTm.eq .res (.lit (.bool G3))).value [] { args:=a,res:=G0 (.bool G3),after:=a }=G0 (.bool (G3 == G3)) from w_eq_bool (w_res rfl) w_lit) rfl

def attach_call{l:DQ}{n:Nat}{H:(c7->Option b7)->j3->Prop}{E:i5->j3->Prop}{d:DefRec}
  (M:l.most=G0 n) (z:d.params.defaults=[])
  (call:∀(w:i5)(s₀ b:b9)(mg v:c7->Option b7)(p:b6)(o:Ad)(u t g:b7)(a:b6)(h:List b7)(ns:List Int),
   Ground q c [] H w s₀ mg v b.heap->E w b.heap ->
   b.heap.get? p=G0 o->o.data=.func (docDef d.name d.params d.body d.scope u t g)->b.heap.CodeRec t d.name->mg d.name=G0 (.ref p) ->
   b.heap.get? a=G0 { cls:=.type "list",data:=.seq h.toArray }->FH h ns->ns.length<=n->b.gens = #[] ->
   codeAny (model l.prog w) callerA (.call (.ref p) ⟨[.ref a],[]⟩) (λr s=>r=.ok (.ret (.bool G3))/\OldK b.heap s.heap/\s.os=b.os/\CG s.gens) b) :
  Gr q c H E l.row.toRowW d [] (λf h=>FR f h):=by
 intro w s₀ b mg v G Y p o u t g Q kV L hd A C y P D vals R i B I x O;obtain rfl:Q=.none:=Dflts.none C z;obtain rfl:kV=.none:=Dflts.noKw C;obtain⟨a,h,ns,rfl,rfl,j,e,m⟩:=eE M i x;erw[enter_call (codeAny_mono (call w s₀ b mg v p o u t g a h ns G Y L (fd_plain hd) A y j e m P) λr s J=>?_)];obtain⟨rfl,h2,h3,h4⟩:=J;exact⟨.inl ⟨.bool G3,.bool G3,[],rfl,λ_=>rfl,.bool G3,hZ l _,λ_=>⟨GW,λ_ N=>(nomatch N)⟩⟩,h2,h3,h4⟩

section
variable{prog:e9}{w:i5}{A:u8}{E:b7->b9->Prop}{s:b9}{K:ac}

end
end Att

namespace L2

def mn:∀{a:List b7}{ns:List Int},FH a ns->xD (ns.map V.int) a
 | _,_,.nil=>.nil
 | _,_,.cons n t h=>.cons ⟨t,rfl⟩ (mn h)

def Only(H:Hp):Prop:=∀ b,H b=G2\/∃ o a,H b=G0 (.frz o (.lst a))

def dD{K:ac}{mg M:c7->Option b7}{CX:CXT}{k:Nat}{x:c7}{T:Sp}{c:b9}{p:List b7}
  (KX:K.In c.heap) (C:c.heap.Ns mainGlobals mg) (g:c.heap.Ns builtinsNs M) (O:∀ x:c7,x ≠ "__name__" -> M x=bootBuiltins x) (D:c.heap.NoLimit) (hg:c.gens = #[])
  (J:c.heap.get? a=G0 { cls:=.type "list",data:=.seq p.toArray }) (hi:FH p ns) (Y:ns.length<=sizeLine) (hr:tS k callerA)
  (F:∀ base:j3,K.In base->base.Ns mainGlobals mg->yV P w K mg base CX k R fd [x] T) (t:∀(s:b9)(u:b7),DC s fd ⟨[u],[]⟩ [(x,u)])
  (N:∀ H:Hp,Only H->SqL K H a (ns.map V.int)->T [.ref a] H (λv _=>v=.bl G3) λ_ _ _=>False)
  (Q:∀ H e i,CX [] H c (λ_ _ _=>False) e i->False) :
  codeAny (model P w) callerA (.call (.ref R) ⟨[.ref a],[]⟩) (λr i=>r=.ok (.ret (.bool G3))/\OldK c.heap i.heap/\i.os=c.os/\CG i.gens) c:=by
 have X:=mn hi;have A:=hi.length;have l:∀ H:Hp,Only H->SqL K H a (ns.map V.int)->HOk P w H c.heap->(∀ b,H b≠G2->b=a)->(H a≠G2->K.lookup a=G2) ->
   codeAny (model P w) callerA (.call (.ref R) ⟨[.ref a],[]⟩) (λr i=>r=.ok (.ret (.bool G3))/\OldK c.heap i.heap/\i.os=c.os/\CG i.gens) c:=by
  intro H Z hS hok hA hK;have f:∀{b:b6}{o:Ad},c.heap.get? b=G0 o->H b=G2->(dJ c.heap H).get? b=G0 o:=λe n=>cv e n;have L:∀{b:b6}{o:Ad}{G:Array B7}{I:Nat},c.heap.get? b=G0 o->o.data=.dict G I->H b=none:=λ{b o G I} e d=>by
   cases q:H b with
   | none=>rfl
   | some u =>
    have S:b=a:=hA b (by rw[q]; simp);subst S;rw[J] at e; cases e;have d':Data.seq p.toArray _=Data.dict G I:=d;cases d'
  have j:∀{b:b6}{m:c7->Option b7},c.heap.Ns b m->(dJ c.heap H).Ns b m:=λ{b m} ⟨o,G,I,e,d,r⟩=>⟨o,G,I,f e (L e d),d,r⟩;have E:K.In (dJ c.heap H):=λb o e=>f (KX b o e) (by
   cases q:H b with
   | none=>rfl
   | some u =>
    have S:b=a:=hA b (by rw[q]; simp);subst S;rw[hK (by rw[q]; simp)] at e; cases e)
  have hM:Mod K mg (dJ c.heap H):=⟨E,j C,⟨M,j g,O⟩,let ⟨mc,h1,h2⟩:=D;⟨mc,j h1,h2⟩⟩;have e0:dZ P w K mg (dJ c.heap H) callerA [] c H:=⟨rfl,hM,λb o e=>aO e,EN (gN _ _),trivial,λb g=>y8 (show b∈([]:List b6) from g) (by simp),hok,.of_eq hg⟩;erw[codeAny_mono ((F _ E (j C)).run callerA [] c H ⟨[.ref a],[]⟩ [.ref a] [.ref a] _ _ hr e0 (t c (.ref a)) (.cons rfl .nil) (N H Z hS)) λr i h=>?_];cases r with
  | error e=>exact(Q H e i h).elim
  | ok fl =>
   cases fl with
   | next=>rwa[l9 h]
   | brk=>rwa[l9 h]
   | cont=>rwa[l9 h]
   | ret u =>
    obtain⟨v,H',os,bare,un,B,r',q⟩:=h;have q':v=.bl true:=q;subst q';obtain rfl:u=Dx true:=r';erw[U,OldK.of_keep λb o e=>?_,os,bare];cases q:H b with
    | none=>exact un.keep b o e q (by intro z; exact y8 (show b∈([]:List b6) from z) (by simp)) (by simp)
    | some u =>
     rcases Z b with z | ⟨ob,xs,z⟩
     ·rw[q] at z; cases z
     ·have z2:=un.frzs b ob _ z;obtain⟨e1,_⟩:=hok b _ z;obtain⟨e2,_⟩:=B b _ z2;rw[e] at e1; cases e1;rwa[e2]
 cases hk:K.lookup a with
 | some o =>
  have e:=KX a o hk;rw[J] at e;cases e;refine l (λ_=>G2) (λ_=>.inl rfl) (.inr ⟨_,p.toArray,_,hk,rfl,rfl,rfl,by rw[d9,A]; exact Y,by simpa using X⟩) (λb u z=>by have y:(G2:Option HO)=G0 u:=z; cases y) (λb z=>y8 rfl z) λz=>y8 rfl z
 | none =>
  refine l (λb=>if b=a then G0 (.frz { cls:=.type "list",data:=.seq p.toArray } (.lst (ns.map V.int))) else G2) (λb=>?_) (.inl (.inr ⟨{ cls:=.type "list",data:=.seq p.toArray },y4 rfl⟩)) (λb u z=>?_) (λb z=>?_) λ_=>hk
  ·by_cases g:b=a
   ·rwa[.inr ⟨_,_,y4 g⟩]
   ·rwa[.inl (y3 g)]
  ·by_cases g:b=a
   ·have y:=(y4 g).symm.trans z;cases y;subst g;rwa[J,by rw[c5]; exact Y,p,_,X,J]
   ·have y:=(y3 g).symm.trans z;cases y
  ·by_cases g:b=a
   ·rwa[g]
   ·rwa[y8 (y3 g) z]
end L2

namespace L2

end L2

namespace L2


abbrev CX0:CXT:=λ_ _ _ _ _ _=>False
abbrev E0:XK:=λ_ _ _=>False
def eh : oX CX0 X E0:=λ_ _ _ _ _ _ _ h=>h.elim

structure Fun(K:ac)(x qual:c7)(st:v4)(f:b6)(fd:w4):Prop where
 ex:∃(oc:b7)(od:Option b6)(kV doc pm:b7)(an:Option b6)(cdv ct:b7)(osl:Array (Option b7)),
  fd=v7 x qual (xV st) (xB st) (zH st) .none kV doc pm an cdv ct/\K.lookup f=G0 ⟨oc,od,.func fd,osl⟩/\BJ K cdv qual=G3
 kp:u9 K (.ref f)=G3
section
variable{P:e9}{w:i5}{K:ac}{mg:c7->Option b7}{base:j3}
def Fun.ok{st:v4}{fd:w4}{k:Nat}{e:Sp}(F:Fun K x a st f fd)(S:zP N g (zH st))(len:∀ c H Q E,e c H Q E->c.length=g.length)
  (d:∀(b:b7)(A:u8)(outer:List Cj)(s:b9)(H:Hp)(c:List V)(Q:VK)(E:XK),tS k (A.deeper (envOfC a (zH st) s.heap.objs.size f b))->e c H Q E ->
   ∃ t,PSs (cxOf CX0 P w K mg base N a (zH st) f b A outer s H E).nox (xB st) t/\t { nx:=λ_ o=>Q .non o,rt:=Q } (start N c) H):yV P w K mg base CX0 (k+1) f fd g e:=by
 obtain⟨u,r,kV,n,p,v,b,ct,l,rfl,lk,j⟩:=F.ex;erw[Ye lk j S len λA outer s H c Q E m i=>?_];obtain⟨t,h,q⟩:=d b A outer s H c Q E m i;rwa[t,h.nox,q]
def Fun.binds{st:v4}{fd:w4}{e:List c7}(F:Fun K x a st f fd)
  (h:∀(kV b g:b7)(i:Option b6)(c ct:b7)(d:List b7),d.length=e.length->bindArgs (v7 x a (xV st) (xB st) (zH st) .none kV b g i c ct) ⟨d,[]⟩=pure (e.zip d)):zt K fd e []:=by
 obtain⟨n,m,kV,b,g,i,c,ct,j,rfl,lk,l⟩:=F.ex;rwa[.all (h kV b g i c ct)]
def gg{st:v4}{j:b7}{i h:Option b6}{e:Array (Option b7)}{kV d g b ct:b7}(l:K.lookup f=G0 ⟨j,i,.func (v7 x a (xV st) (xB st) (zH st) .none kV d g h b ct),e⟩)
  (c:BJ K b a=G3) (k:u9 K (.ref f)=G3):Fun K x a st f (v7 x a (xV st) (xB st) (zH st) .none kV d g h b ct):=⟨⟨j,i,kV,d,g,h,b,ct,e,rfl,l,c⟩,k⟩
end
def wC{k:Nat}(a:tS k A):A.units+1<cLine:=B2 (Nat.add_le_add_left (by decide:1<=64) _) a.units
def yH{n:Nat}(h:n<=1000):n<sizeLine:=B2 h (by decide)

section
variable{X:Cx}
def pv(i:Nat)(c:X.N[i]?=G0 x:=by rfl)(b:Vis X.env.scope x:=by first | exact Ae rfl | exact Df (Ae rfl) | exact Df (Df rfl))(hd:(x ==("__debug__" : c7))=false:=by decide)
  (a:(x ==("__classdict__" : c7))=false:=by decide):PE X (.Name x pos) (eV i):=ZX c b hd a
end

def rG{A B:Prop}(h:B):if G4=G3 then A else B:=by
 rw[y3 g7];rwa[h]
def qN{A B:Prop}(h:A):if G3=G3 then A else B:=by
 rw[y4 rfl];rwa[h]
def ite2{c A B:Prop}[Decidable c](h1:c->A)(h2:¬ c->B):if c then A else B:=by
 by_cases h:c
 ·rw[y4 h];rwa[h1 h]
 ·rw[y3 h];rwa[h2 h]
def Same(H a:Hp):Prop:=∀ b o,H b=G0 o->a b=G0 o
def Same.refl(H:Hp):Same H H:=λ_ _ h=>h
def Same.trans{H e d:Hp}(a:Same H e)(b:Same e d):Same H d:=λc o h=>b c o (a c o h)
def Same.free{H a:Hp}(e:Same H a)(h:a l=GN):H l=GN:=by
 cases q:H l with
 | none=>rfl
 | some o =>
  rw[e l o q] at h;cases h
def Same.seq{K:ac}{H c:Hp}(e:Same H c)(h:SqL K H a b):SqL K c a b:=by
 rcases h with (h | ⟨o,h⟩) | h
 ·rwa[.inl (.inl (e _ _ h))]
 ·rwa[.inl (.inr ⟨o,e _ _ h⟩)]
 ·rwa[.inr h]

end L2

namespace Sea
def sS(ns:List Int):Nat:=ns.foldl (λg n=>BO g n.natAbs) 0
def jl:∀(ns:List Int)(g:Nat),ns.foldl (λg n=>BO g n.natAbs) g ∣ g/\∀ n∈ns,ns.foldl (λg n=>BO g n.natAbs) g ∣ n.natAbs
 | [],g=>⟨Nat.dvd_refl g,λ_ h=>nomatch h⟩
 | x::r,g=>by
  obtain⟨h1,h2⟩:=jl r (BO g x.natAbs);erw[Go h1 (Nat.gcd_dvd_left _ _),λn a=>?_];rcases f9.mp a with e | e
  ·rw[e];rwa[Go h1 (Nat.gcd_dvd_right _ _)]
  ·rwa[h2 n e]
def ym{ns:List Int}{n:Int}(h:n∈ns):sS ns ∣ n.natAbs:=(jl ns 0).2 n h
def sD{ns:List Int}{n:Int}(h:n∈ns):(sS ns:Int) ∣ n:=Int.ofNat_dvd_left.mpr (ym h)
def jt{d:Nat} : ∀(ns:List Int)(g:Nat),d ∣ g->(∀ n∈ns,d ∣ n.natAbs)->d ∣ ns.foldl (λg n=>BO g n.natAbs) g
 | [],_,h,_=>h
 | x::r,g,h,a=>jt r _ (Nat.dvd_gcd h (a x Ab)) λn b=>a n (t5 _ b)
def cz{d:Nat}{ns:List Int}(h:∀ n∈ns,d ∣ n.natAbs):d ∣ sS ns:=jt ns 0 (Nat.dvd_zero d) h
def oj{ns:List Int}{n:Int}(h:n∈ns)(h0:n≠0):0<sS ns:=by
 rcases Nat.eq_zero_or_pos (sS ns) with e | e
 ·have q:=ym h;rw[e,Nat.zero_dvd] at q;lia
 ·rwa[e]
def iU(ns:List Int):List Int:=ns.map λn=>n/(sS ns:Int)
def sK{ns:List Int}{n:Int}(h:n∈ns):n/(sS ns:Int)*(sS ns:Int)=n:=Int.ediv_mul_cancel (sD h)
def lM(h:0<sS ns):sS (iU ns)=1:=by
 have a:sS ns*sS (iU ns) ∣ sS ns:=by
  erw[cz λn d=>?_];have h1:sS (iU ns) ∣ (n/(sS ns:Int)).natAbs:=ym (j9.mpr ⟨n,d,rfl⟩);obtain⟨c,b⟩:=h1;have h2:=congrArg Int.natAbs (sK d);rw[FS,EB,b] at h2;rw[<- h2];rwa[c,by rw[GG,Gp]]
 obtain⟨c,b⟩:=a;have h3:sS ns*(sS (iU ns)*c)=sS ns*1:=by
  rw[<- Gp,<- b,Nat.mul_one]
 have h4:=Nat.eq_of_mul_eq_mul_left h h3;rwa[Nat.dvd_one.mp ⟨c,h4.symm⟩]
def jK(x y:Int):sS [x,y]=BO x.natAbs y.natAbs:=by
 show BO (BO 0 x.natAbs) y.natAbs=_;rw[Nat.gcd_zero_left]
structure bB(t b x y:Int):Prop where
 pos:1<=y
 low:BO x.natAbs y.natAbs=1
 eq:x*b=y*t
 xle:x.natAbs<=t.natAbs
 yle:y.natAbs<=b.natAbs
def sQ(n:Int){g:Int}(b:0<g)(h:g ∣ n):(n/g).natAbs<=n.natAbs:=by
 obtain⟨c,a⟩:=h;subst a;rw[Int.mul_ediv_cancel_left c (by lia),FS];rwa[Nat.le_mul_of_pos_left _ (by lia)]
def ZD(t:Int){b:Int}(d:b≠0):∃ x y:Int,(iU (if b<0 then [t,b].map (λn=>-n) else [t,b]))=[x,y]/\bB t b x y:=by
 have a:∀(t b:Int),0<b->∃ x y:Int,iU [t,b]=[x,y]/\bB t b x y:=λt b d=>by
  have j:0<sS [t,b]:=oj (n:=b) (by simp) (by lia);have i:=sK (ns:=[t,b]) (n:=t) (by simp);have f:=sK (ns:=[t,b]) (n:=b) (by simp);have c:(0:Int)<(sS [t,b]:Int):=by lia
  erw[t/(sS [t,b]:Int),b/(sS [t,b]:Int),U,?_,?_,?_,sQ t c (sD (by simp)),sQ b c (sD (by simp))]
  ·rwa[Int.ediv_pos_of_pos_of_dvd d (DE c) (sD (by simp))]
  ·have h3:=lM j;rw[<- jK];rwa[h3]
  ·generalize (sS [t,b]:Int)=g at i f
   calc t/g*b=t/g*(b/g*g):=by rw[f]
    _=b/g*(t/g*g):=by rw[<- Bc,<- Bc,GH (t/g)]
    _=b/g*t:=by rw[i]
 by_cases h:b<0
 ·rw[y4 h];obtain⟨x,y,e,p⟩:=a (-t) (-b) (by lia);refine⟨x,y,e,p.pos,p.low,?_,by have:=p.xle; lia,by have:=p.yle; lia⟩;have q:=p.eq;rw[GO,GO] at q;lia
 ·rw[y3 h];rwa[a t b (by lia)]
def dir_low{X Y:Int}(h:X≠0\/Y≠0):∃ x y:Int,iU [X,Y]=[x,y]/\0<sS [X,Y]/\(sS [X,Y]<=X.natAbs\/sS [X,Y]<=Y.natAbs)/\BO x.natAbs y.natAbs=1/\x*Y-y*X=0/\0<x*X+y*Y/\x.natAbs<=X.natAbs/\y.natAbs<=Y.natAbs:=by
 have d:0<sS [X,Y]:=by
  rcases h with h | h
  ·rwa[oj (n:=X) (by simp) h]
  ·rwa[oj (n:=Y) (by simp) h]
 have c:(0:Int)<(sS [X,Y]:Int):=by lia
 have b:=sK (ns:=[X,Y]) (n:=X) (by simp);have a:=sK (ns:=[X,Y]) (n:=Y) (by simp);erw[X/(sS [X,Y]:Int),Y/(sS [X,Y]:Int),U,d,?_,?_,?_,?_,sQ X c (sD (by simp)),sQ Y c (sD (by simp))]
 ·rcases h with h | h
  ·rwa[.inl (Gq (by lia) (ym (by simp)))]
  ·rwa[.inr (Gq (by lia) (ym (by simp)))]
 ·rw[<- jK];rwa[lM d]
 ·generalize (sS [X,Y]:Int)=g at b a;generalize X/g=x at b;generalize Y/g=y at a;rw[<- b,<- a,<- Bc,<- Bc,GH x y];lia
 ·generalize (sS [X,Y]:Int)=g at b a c;have f:0<=X/g*X:=by
   have:X/g*X=X/g*(X/g)*g:=by rw[Bc,b]
   rw[this];rwa[Ea (by rw[<- Em]; exact EC _) (DE c)]
  have e:0<=Y/g*Y:=by
   have:Y/g*Y=Y/g*(Y/g)*g:=by rw[Bc,a]
   rw[this];rwa[Ea (by rw[<- Em]; exact EC _) (DE c)]
  rcases h with h | h
  ·have:X/g*X≠0:=Fy (λz=>h (by rw[<- b,z,GI])) h;lia
  ·have:Y/g*Y≠0:=Fy (λz=>h (by rw[<- a,z,GI])) h;lia
structure SpotOf(X Y W x y w:Int):Prop where
 pos:1<=w
 low:BO (BO x.natAbs y.natAbs) w.natAbs=1
 ex:x*W=X*w
 ey:y*W=Y*w
 xle:x.natAbs<=X.natAbs
 yle:y.natAbs<=Y.natAbs
 wle:w.natAbs<=W.natAbs
end Sea

namespace Sea
end Sea

namespace Sea
end Sea

namespace L2

structure CC where
 C:b6
 s:b9
 H:Hp
 fp:List b6

def yu(env:Cj):List (c7×BI)->List (c7×b6)->List (c7×b6)
 | [],a=>a
 | (n,k)::r,a=>yu env r (if (k == r9)=G3 then(n,(env.cells.lookup n).getD 0)::a else a)
def fJ{b:BW}{env:Cj}(h:∀ x∈b.names,x.2=.free->∃ c,env.cells.lookup x.1=G0 c):closureFor b env=pure (yu env b.names []):=by
 simp only[closureFor];have j:∀(names:List (c7×BI))(d:List (c7×b6)),(∀ x∈names,x.2=.free->∃ c,env.cells.lookup x.1=G0 c) ->
  (forIn names d (λ(x:c7×BI) (r:List (c7×b6))=>match x with | (f,kind)=>if (kind == r9)=G3 then(do let a <- cellOf env f; pure (AI ((f,a)::r))) else pure (AI r)):FG (List (c7×b6)))=pure (yu env names d):=by
  intro names
  induction names with
  | nil=>intro d _; rfl
  | cons x r o =>
   intro d l;obtain⟨n,k⟩:=x;rw[DO];have g:=o (if (k == r9)=G3 then(n,(env.cells.lookup n).getD 0)::d else d) λy p=>l y (t5 _ p);by_cases hk:(k == r9)=G3
   ·obtain⟨c,m⟩:=l (n,k) Ab (by simpa using hk);have e:cellOf env n=pure c:=by unfold cellOf; rw[m]
    rw[y4 hk] at g;have i:env.cells.lookup n=G0 c:=m;rw[i] at g;show(((if (k == r9)=G3 then(do let a <- cellOf env n; pure (AI ((n,a)::d))) else pure (AI d)):FG _) >>= _)=_;rw[y4 hk,e];erw[Eq.trans ?_ (g.trans ?_)]
    ·rfl
    ·rw[yu,y4 hk,i]
   ·rw[y3 hk] at g;show(((if (k == r9)=G3 then(do let a <- cellOf env n; pure (AI ((n,a)::d))) else pure (AI d)):FG _) >>= _)=_;rw[y3 hk];erw[Eq.trans ?_ (g.trans ?_)]
    ·rfl
    ·rw[yu,y3 hk]
 rwa[congrArg (λ(z:FG (List (c7×b6)))=>z >>= λd=>pure d) (j b.names [] h)]
def sR{env:Cj} : ∀(names:List (c7×BI))(g:List (c7×b6)),(∀ x∈names,x.2=.free->∃ c,env.cells.lookup x.1=G0 c) ->
  (∀ x c,g.lookup x=G0 c->env.cells.lookup x=G0 c)->∀ x c,(yu env names g).lookup x=G0 c->env.cells.lookup x=G0 c
 | [],_,_,b=>b
 | (n,k)::r,g,h,b=>by
  erw[sR r _ (λy i=>h y (t5 _ i)) λx c=>?_];by_cases hk:(k == r9)=G3
  ·rw[y4 hk];obtain⟨d,hd⟩:=h (n,k) Ab (by simpa using hk);have a:env.cells.lookup n=G0 d:=hd;intro e;rw[l6] at e;cases f:x == n with
   | true =>
    rw[f,a] at e;have ex:x=n:=by simpa using f
    rw[ex,a];rwa[e]
   | false =>
    rw[f] at e;rwa[b x c e]
  ·rw[y3 hk];rwa[b x c]
def sr : ∀(names:List (c7×BI))(b:List (c7×b6))(x:c7),((x,r9)∈names\/∃ c,b.lookup x=G0 c)->∃ c,(yu env names b).lookup x=G0 c
 | [],_,_,h=>h.elim (λz=>nomatch z) id
 | (n,k)::r,b,x,h=>by
  erw[sr r _ x ?_];by_cases hk:(k == r9)=G3
  ·rw[y4 hk];cases a:x == n with
   | true=>rwa[.inr ⟨_,by rw[l6,a]⟩]
   | false =>
    rcases h with h | ⟨c,h⟩
    ·rcases f9.mp h with e | e
     ·injection e with e1 _
      subst e1;simp at a
     ·rwa[.inl e]
    ·rwa[.inr ⟨c,by rw[l6,a]; exact h⟩]
  ·rw[y3 hk];rcases h with h | h
   ·rcases f9.mp h with e | e
    ·injection e with _ e2
     subst e2;rwa[y8 rfl hk]
    ·rwa[.inl e]
   ·rwa[.inr h]
def xi{env:Cj} : ∀{names:List (c7×BI)}{x:c7},names.lookup x=G0 .free ->
  (names.map λ(n,k)=>if (k == r9&&env.scope.kind == .function&&env.kindOf n == G0 .cell) then(n,Bw) else(n,k)).lookup x=G0 .cell \/
  (names.map λ(n,k)=>if (k == r9&&env.scope.kind == .function&&env.kindOf n == G0 .cell) then(n,Bw) else(n,k)).lookup x=G0 .free
 | [],_,h=>by simp at h
 | (n,k)::r,x,h=>by
  have b:=@xi env r x;show o9 x ((if (k == r9&&env.scope.kind == .function&&env.kindOf n == G0 .cell)=G3 then(n,Bw) else(n,k))::_)=_\/o9 x ((if (k == r9&&env.scope.kind == .function&&env.kindOf n == G0 .cell)=G3 then(n,Bw) else(n,k))::_)=_;by_cases c:(k == r9&&env.scope.kind == .function&&env.kindOf n == G0 .cell)=G3
  ·rw[y4 c];cases a:x == n with
   | true=>rwa[.inl (by rw[l6,a])]
   | false =>
    rw[l6,a] at h;rw[l6,a];rwa[b h]
  ·rw[y3 c];cases a:x == n with
   | true =>
    rw[l6,a] at h;rwa[.inr (by rw[l6,a]; exact h)]
   | false =>
    rw[l6,a] at h;rw[l6,a];rwa[b h]
def rX{env:Cj} : ∀{names:List (c7×BI)}{x:c7}{j:BI},(∀ y∈names,y.2≠.cell)->(j=.cell\/j=.free) ->
  (names.map λ(n,k)=>if (k == r9&&env.scope.kind == .function&&env.kindOf n == G0 .cell) then(n,Bw) else(n,k)).lookup x=G0 j->(x,r9)∈names
 | [],_,_,_,_,h=>by simp at h
 | (n,k)::r,x,j,f,b,h=>by
  have e:=@rX env r x j (λy i=>f y (t5 _ i)) b;have d:k≠.cell:=f (n,k) Ab
  replace h:o9 x ((if (k == r9&&env.scope.kind == .function&&env.kindOf n == G0 .cell)=G3 then(n,Bw) else(n,k))::(r.map λ(n,k)=>if (k == r9&&env.scope.kind == .function&&env.kindOf n == G0 .cell) then(n,Bw) else(n,k)))=G0 j:=h
  by_cases c:(k == r9&&env.scope.kind == .function&&env.kindOf n == G0 .cell)=G3
  ·rw[y4 c] at h;have l:k=.free:=by
    simp only[i8] at c;simpa using c.1.1
   cases a:x == n with
   | true =>
    have ex:x=n:=by simpa using a
    subst ex;rw[<- l];rwa[Ab]
   | false =>
    rw[l6,a] at h;rwa[t5 _ (e h)]
  ·rw[y3 c] at h;cases a:x == n with
   | true =>
    rw[l6,a] at h;have ex:x=n:=by simpa using a
    have g:k=j:=o0 h;subst ex;rcases b with b | b
    ·rwa[y8 (g.trans b) d]
    ·rw[<- b,<- g];rwa[Ab]
   | false =>
    rw[l6,a] at h;rwa[t5 _ (e h)]

def cxComp(X:Cx)(N:List c7)(a:BW)(c:CC):Cx where
 prog:=X.prog
 w:=X.w
 K:=X.K
 mg:=X.mg
 base:=X.base
 A:=X.A
 N:=N
 s₀:=c.s
 H₀:=c.H
 env:=compEnvC a (yu X.env a.names []) c.C X.env
 outer:=X.stack
 stack:=X.stack
 ex:=c.fp
 fn:=λ_=>G4
 calm:=X.calm
 pn:=[]
 xe:=λ_ _=>False

def pR(X:Cx)(a:BW):List (c7×Nat)->Prop
 | []=>True
 | p::r=>(X.N[p.2]?=G0 p.1/\a.names.lookup p.1=G0 .free/\(X.env.kindOf p.1=G0 .cell\/X.env.kindOf p.1=G0 .free))/\pR X a r
def pR.mem : ∀{b:List (c7×Nat)},pR X a b->∀ p∈b,X.N[p.2]?=G0 p.1/\a.names.lookup p.1=G0 .free/\(X.env.kindOf p.1=G0 .cell\/X.env.kindOf p.1=G0 .free)
 | [],_,_,h=>nomatch h
 | q::r,h,p,c=>by
  rcases f9.mp c with e | e
  ·rw[e]; rwa[h.1]
  ·rwa[pR.mem h.2 p e]
structure rR(X:Cx)(caps:List (c7×Nat))(scope:BW):Prop where
 kind:scope.kind=.function
 nocell:∀ y∈scope.names,y.2≠.cell
 loc:∀ y∈scope.names,y.2=.local->scope.names.lookup y.1=G0 .local
 clos:(scope.names.all λx=>!(x.2 == .free)||(X.env.cells.lookup x.1).isSome)=G3
 cap:pR X scope caps
def rR.cells(S:rR X b a):∀ x∈a.names,x.2=.free->∃ c,X.env.cells.lookup x.1=G0 c:=λx d e=>by
 have h:=t7.mp S.clos x d;rw[e] at h;simp only[Fz] at h;rcases h with h | h
 ·rwa[y8 h (by decide)]
 ·rwa[g8.mp h]

def iR(a:List (c7×Nat))(c:Nat)(b:St):St:=i9 c G2++a.map λp=>(b[p.2]?).join

def XF(Y:Cx)(b:List o6)(t:TT):Prop :=
 ∀(d:List (b6×Ad))(s:b9)(a:St)(H:Hp)(Q:Bool->Hp->Prop),Inv Y d a H s->t a H Q ->
  wpAny (model Y.prog Y.w) Y.A (forIn b G3 λc r=>if r=G3 then do let ok <- isTrue c Y.env (eval c Y.env); pure (AI ok) else pure (AI r)) (TP Y d a Q) Y.xe s
def ZF:TT:=λ_ H Q=>Q G3 H
def sN : XF Y [] ZF:=λ_ _ _ H _ I h=>wpAny_tests_nil ⟨H,I,h⟩
def jL(h:PT Y c t):XF Y [c] t:=λb s a H Q I q=>wpAny_tests_one (h b s a H Q I q)

def wf(J:It)(D:b6)(g:TG)(p:TT)(q:TE)(f:St)(s:Hp)(Q:VK):Prop :=
 ∃ W:Nat->Nat->St->List V->Hp->Prop,(∃ m,W 0 m f [] (upd s D (.lst [])))/\∀ i m h c H,W i m h c H->H D=G0 (.lst c) /\
  ((J.stop i H/\Q (.ref D) H)\/(J.go i H/\∃ N:St->List V->Hp->Prop,(∀ d j e,N d j e->∃ l,l<m/\W (i+1) l d j e)/\∀ x e,J.yld i H x e->g x h e λa r=>p a r λb o =>
   if b=G3 then q a o λy n=>n D=G0 (.lst c)/\c.length<sizeLine/\N a (c++[y]) (upd n D (.lst (c++[y]))) else N a c o))
def ZW(i:Nat)(a:List (c7×Nat))(e:TI)(g:CC->TG)(f:CC->TT)(h:CC->TE):TE:=λb H Q =>
 e b H λJ d=>∀(c:CC)(D:b6),d D=G2->wf J D (g c) (f c) (h c) (iR a i b) d Q

def jv{b:Type}{t:FG b}{Q c:b->b9->Prop}{M:FL}{A:u8}{E:b7->b9->Prop}{s:b9}(h:wpAny M A t Q (λ_ _=>False) s)(d:∀ a s,Q a s->c a s):wpAny M A t c E s:=An h d λ_ _ x=>x.elim
def Un.same{H f:Hp}(u:Un fs ex H f h h1)(c:AC C h1 h2)(j:h.get? C=G2):Un fs ex H f h h2:=by
 have ne:∀ b o,h.get? b=G0 o->b≠C:=λb o e z=>by rw[z,j] at e; cases e
 erw[λb o e n d a=>(c.2 b (ne b o e)).trans (u.keep b o e n d a),λb o e n d a=>?_,u.free,λb o e a=>?_,u.tups,u.frzs,u.tbls]
 ·obtain⟨g,q⟩:=u.slot b o e n d a;rwa[g,(c.2 b (ne b o e)).trans q]
 ·obtain⟨i,q⟩:=u.there b o e a;rwa[i,(c.2 b (ne b o e)).trans q]
def HOk.same{H:Hp}(k:HOk P w H h)(f:AC C h d)(a:H C=G2):HOk P w H d:=λb o e=>by
 refine(k b o e).stay (λc v g q=>(f.2 c ?_).trans q) (λ_ q=>q) λ_ _ q=>q;rintro rfl;rcases g with z | z
 ·rw[z,e] at a; cases a
 ·rw[a] at z; cases z

section
variable{X:Cx}{T:List c7}{caps:List (c7×Nat)}{scope:BW}{elt target iter:o6}{ifs:List o6}{pos:BM}{wi:TI}{g:CC->TG}{tt:CC->TT}{te:CC->TE}

def pJ{G:St}{E:Hp}{fp:List b6}{C D:b6}{h1:j3}{tk:Nat}{m:c7->Option b7}(S:rR X caps scope)(a:Inv X G5 G E s)(M:∀ b∈fp,iT X G5 E b)
  (Z:∀ b∈fp,b<s.heap.objs.size) (L:s.heap.objs.size<=D) (hC:s.heap.objs.size<=C) (hDC:C≠D) (j:∀ b o,s.heap.get? b=G0 o->h1.get? b=G0 o)
  (acc:∃ n,h1.get? D=G0 { cls:=.type "list",data:=.seq ([]:List b7).toArray n }) (hn:h1.Ns C m) :
  Inv (cxComp X (T++caps.map (·.1)) scope ⟨C,s,E,fp⟩) [] (iR caps T.length G) (upd E D (.lst [])) { s with heap:=h1,toks:=tk }:=by
 have B:=sR (env:=X.env) scope.names [] S.cells (λ_ _ z=>by cases z);have h:∀ x c,X.env.cells.lookup x=G0 c->c<s.heap.objs.size:=λx c e=>by
  obtain⟨v,q⟩:=a.cell x c e;rwa[q.lt]
 have t:∀ b∈fp,b ∉ frs X.stack:=λb A z=>by
  rcases f9.mp (a.stkSub b z) with e | e
  ·exact(M b A).2.1 e
  ·exact(M b A).2.2.1 e
 have fr:E D=none:=a.hok.fresh L;refine⟨⟨a.ok.mod,S.kind,a.ok.glob,a.ok.blt,hC,λx y c e1 r=>a.ok.inj x y c (B x c e1) (B y c r),λx hx=>?_,λ_ _ z=>y8 (show G4=G3 from z) g7,a.ok.hd,a.ok.frames,.inl rfl,λb A=>⟨?_,λx c e=>(M b A).2.2.2.2.1 x c (B x c e)⟩,
  λb o e=>a.bs b o e,g9 a.ok.bsz a.sz,λb o e A=>?_,t,a.stack,a.stkFree⟩,rfl,a.bare,?_,⟨m,hn,λi x v e1 r e3=>?_⟩,λx c e=>?_,?_,λx c e=>?_,λp H=>y8 (show p∈([]:List (b6×Ad)) from H) (by simp),?_,?_⟩
 ·have O:(x,r9)∈scope.names:=by
   rcases hx with z | z
   ·rwa[rX S.nocell (.inl rfl) z]
   ·rwa[rX S.nocell (.inr rfl) z]
  rwa[sr scope.names [] x (.inl O)]
 ·rwa[j4 (g6 (Z b A) hC)]
 ·rcases (M b A).2.2.2.1 with z | z
  ·rwa[a.ok.noex b o e z]
  ·exact y8 (g6 (d7 (show X.base.get? b=G0 o from e)) (g9 a.ok.bsz z)) (AM _)
 ·rwa[Un.laid j L fr]
 ·have R:¬ i<T.length:=λhi=>by
   unfold iR at r;rw[x0 (by simpa using hi),Bk,y4 hi] at r;cases r
  have I:T.length<=i:=Fi R;have f:(T++caps.map (·.1))[i]?=G0 x:=e1;rw[v6 I,i3] at f;unfold iR at r;rw[v6 (by simpa using I),v8,i3] at r;cases H:caps[i-T.length]? with
  | none=>rw[H] at f; cases f
  | some p =>
   rw[H] at f r;have ex:p.1=x:=o0 f;have N:(G[p.2]?).join=G0 v:=o0 r;obtain⟨hN,hf,hk⟩:=S.cap.mem p (Ao H);have ev':G[p.2]?=G0 (G0 v):=by
    cases hq:G[p.2]? with
    | none=>rw[hq] at N; cases N
    | some o =>
     rw[hq] at N;rwa[congrArg G0 N]
   obtain⟨m2,_,Y⟩:=a.loc;obtain⟨u,ru,l⟩:=Y p.2 p.1 v hN ev' (hk.elim (λz=>.inr (.inl z)) λz=>.inr (.inr z));erw[u,ru,.inr ⟨?_,?_⟩]
   ·rw[<- ex];rwa[xi (env:=X.env) hf]
   ·rcases l with ⟨kl,_⟩ | ⟨_,c,ec,w⟩
    ·rcases hk with z | z <;>(rw[kl] at z; cases z)
    ·obtain⟨d,hd⟩:=sr (env:=X.env) scope.names [] p.1 (.inl (AJ hf));have J:=B p.1 d hd;rw[ec] at J;cases J;obtain⟨o,Q,P⟩:=w;rwa[c,by rw[<- ex]; exact hd,o,j c o Q,P]
 ·obtain⟨v,o,Q,hd⟩:=a.cell x c (B x c e);rwa[v,o,j c o Q,hd]
 ·show upd E D (.lst []) C=G2;rw[zL hDC];rwa[a.hok.fresh hC]
 ·show upd E D (.lst []) c=G2;rw[zL (j4 (g6 (h x c (B x c e)) L))];rwa[a.freeC x c (B x c e)]
 ·obtain⟨n,e⟩:=acc;rwa[a.hok.laid j L ⟨j8 _,[],n,.nil,e⟩]
 ·show(iR caps T.length G).length=(T++caps.map (·.1)).length;unfold iR;rw[d5,d5,c5,c5,v8]

def rW(S:rR X caps scope)(hc:X.calm=G3)(hi:PI X target iter wi)(hg:∀ c,PG (cxComp X (T++caps.map (·.1)) scope c) target (g c))(ht:∀ c,XF (cxComp X (T++caps.map (·.1)) scope c) ifs (tt c))(he:∀ c,PE (cxComp X (T++caps.map (·.1)) scope c) elt (te c))
  (hs:∀ x,foldedSetIterable iter X.env x=pure x:=by intro _; rfl):PE X (.ListComp elt [⟨target,iter,ifs,0⟩] scope pos) (ZW T.length caps wi g tt te):=by
 intro G5 s σ H Q I h;rw[eval_ListComp];erw[Dg (use:=G2) rfl hs (fJ S.cells) S.kind S.loc (thn (hi G5 s σ H _ I h) λv s1 h1=>thn h1 λitv a h2=>?_)];obtain⟨it,fp,tn,J,M,e,I2,TT,st2,f2,q2⟩:=h2;subst e;refine v5 (Eb S.nocell (by intro y hy; simp at hy) (λh1 hn E=>?_) S.kind);dsimp only at hn E ⊢;generalize R:a.heap.push { cls:=.type "list",dict:=G2,data:=.seq ([]:List b7).toArray }=G at hn E ⊢;have hCv:G.objs.size=a.heap.objs.size+1:=by rw[<- R,AG]
 have hDC:G.objs.size≠a.heap.objs.size:=by rw[hCv]; rwa[Fj _]
 have j:a.heap.objs.size<=G.objs.size:=by rw[hCv]; rwa[D9 _]
 have old:∀ b o,a.heap.get? b=G0 o->h1.get? b=G0 o:=λb o e=>E.extBut b o (j4 (g6 (d7 e) j)) (b8 _ (R ▸ b8 _ e));have hacc:∃ n,h1.get? a.heap.objs.size=G0 { cls:=.type "list",data:=.seq ([]:List b7).toArray n }:=⟨_,E.extBut _ _ (Av hDC) (b8 _ (R ▸ d6 _ rfl))⟩;have Y:∀ b∈fp,b<a.heap.objs.size:=λb f=>by
  obtain⟨o,e,_⟩:=TT.obj _ _ st2 b f;rwa[d7 e]
 have cs:=sR (env:=X.env) scope.names [] S.cells (λ_ _ z=>by cases z);have I0:=pJ (T:=T) (tk:=a.toks+([]:List (c7×b7)).length) S I2 f2 Y (d8 _) j hDC old hacc hn;have st0:tn 0 h1:=TT.keep _ _ _ st2 λb _ o e=>old b o e;obtain⟨W,⟨m0,w0⟩,turn⟩:=q2 ⟨G.objs.size,a,M,fp⟩ a.heap.objs.size (I2.hok.fresh (d8 _));have fr0:∀ b∈fp,upd M a.heap.objs.size (.lst []) b=none:=λb f=>by
  rw[zL (j4 (Y b f))];exact(f2 b f).1
 have t:∀{B:Hp},(∀ b∈fp,B b=G2)->∀ b∈fp,iT (cxComp X (T++caps.map (·.1)) scope ⟨G.objs.size,a,M,fp⟩) [] B b:=λ{B} hn' b f =>
  ⟨hn' b f,j4 (g6 (Y b f) j),I0.ok.exfs b f,.inl f,λx c e=>(f2 b f).2.2.2.2.1 x c (cs x c e),λp hp=>y8 (show p∈([]:List (b6×Ad)) from hp) (by simp)⟩
 have L:codeAny (model X.prog X.w) X.A (.compLoop (.ListComp elt [⟨target,iter,ifs,0⟩] scope pos) 0 (.ref it) (.ref a.heap.objs.size) (compEnvC scope (yu X.env scope.names []) G.objs.size X.env))
   (compPost (model X.prog X.w) X.A X.xe G2 (EP X G5 σ Q) (.ref a.heap.objs.size) G.objs.size) { a with heap:=h1,toks:=a.toks+([]:List (c7×b7)).length }:=by
  erw[codeAny_loop rfl (λn s'=>∃ i q O B,Inv (cxComp X (T++caps.map (·.1)) scope ⟨G.objs.size,a,M,fp⟩) [] q B s'/\tn i s'.heap/\(∀ b∈fp,B b=G2)/\W i n q O B) (λn s3 hI=>?_) m0 ⟨0,_,[],_,I0,st0,fr0,w0⟩];obtain⟨i,D,O,H3,I3,st3,fr3,w3⟩:=hI;show wpAny _ X.A ((compTurn (.ListComp elt [⟨target,iter,ifs,0⟩] scope pos) 0 (.ref it) (.ref a.heap.objs.size) (compEnvC scope (yu X.env scope.names []) G.objs.size X.env)).onRaise (λx=>do noteFrame x (compEnvC scope (yu X.env scope.names []) G.objs.size X.env); theTreesLotGoes x)) _ _ s3;erw[wpAny_noted ?_];rw[compTurn_list];erw[b0 (Co (b0 ?_))];obtain⟨hD3,P⟩:=turn i n D O H3 w3;rcases P with ⟨stop,qn⟩ | ⟨go,N,hN,step⟩
  ·erw[jv (TT.done (cxComp X (T++caps.map (·.1)) scope ⟨G.objs.size,a,M,fp⟩) rfl rfl rfl hc i [] s3 D H3 _ I3 (t fr3) st3 stop) λr s4 ⟨hr,I4⟩=>?_];subst hr;erw[c9 ?_];show ∃ m,s4.heap.Ns G.objs.size m/\∀ h',AC G.objs.size s4.heap h'->EP X G5 σ Q (.ref a.heap.objs.size) { s4 with heap:=h' };obtain⟨m4,hn4,_⟩:=I4.loc;erw[m4,hn4,λh' sb=>⟨.ref a.heap.objs.size,H3,?_,U,qn⟩];refine I2.call' (s':={ s4 with heap:=h' }) (ch:=fp) I4.os (Un.same I4.base sb (AF j)) (HOk.same I4.hok sb I4.free) I4.bare λb f=>?_;obtain⟨_,f1,_,f3,f4,f5⟩:=f2 b f;rwa[f3,f1,f4,f5]
  ·refine jv (TT.item (cxComp X (T++caps.map (·.1)) scope ⟨G.objs.size,a,M,fp⟩) rfl rfl rfl hc i [] s3 D H3 _ I3 (t fr3) st3 go) λr s4 ⟨u,hr,h4⟩=>?_;subst hr;refine b0 (jv h4 λ_ s5 ⟨x,H5,I5,r5,y5,st5,fr5⟩=>?_);have I5':=I5.pinned (t fr5) (TT.obj _ _ st5);refine b0 (jv (hg _ _ s5 D H5 x u _ I5' r5 (step x H5 y5)) λ_ s6 ⟨C,H6,I6,q6⟩=>?_);have again:∀{s7:b9}{l:St}{zs:List V}{Z:Hp},Inv (cxComp X (T++caps.map (·.1)) scope ⟨G.objs.size,a,M,fp⟩) ([]++pK fp s5.heap) l Z s7->N l zs Z ->
     ∃ m,m<n/\∃ i q O B,Inv (cxComp X (T++caps.map (·.1)) scope ⟨G.objs.size,a,M,fp⟩) [] q B s7/\tn i s7.heap/\(∀ b∈fp,B b=G2)/\W i m q O B:=λ{s7 l zs Z} I7 n7=>by
    obtain⟨m',hm,w7⟩:=hN l zs Z n7;erw[m',hm,i+1,l,zs,Z,I7.unpinned,TT.keep _ _ _ st5 λb f o e=>(I7.pin (b,o) (k9 _ (k9 _ (vW f e)))).1,λb f=>?_,w7];obtain⟨o,e,d⟩:=TT.obj _ _ st5 b f;exact(I7.pin (b,o) (k9 _ (k9 _ (vW f e)))).2.1
   erw[b0 (jv (ht _ _ s6 C H6 _ I6 q6) λok s7 ⟨Z,I7,q7⟩=>?_)];cases ok with
   | false=>rwa[c9 ⟨rfl,again I7 q7⟩]
   | true =>
    erw[b0 (b0 (jv (he _ _ s7 C Z _ I7 q7) λy s8 ⟨yv,H8,I8,r8,hD8,hl8,q8⟩=>?_))];erw[b0 (jv (uo _ s8 C H8 (.ref a.heap.objs.size) [yv] (.ref a.heap.objs.size) [y] (λ_ H9=>N C (O++[yv]) H9) I8 rfl (.cons r8 .nil) ⟨_,O,yv,rfl,rfl,hD8,hl8,q8⟩) λ_ s9 ⟨_,H9,I9,_,q9⟩=>?_)];rwa[c9 (c9 ⟨rfl,again I9 q9⟩)]
 rwa[codeAny_compStart_list L (TT.self _ 0 _ _ _ st0 L)]
end
end L2

namespace L2

def qY:bootBuiltins "len" = G0 (.builtin "len"):=by ac_nf
def XE:bootBuiltins "abs" = G0 (.builtin "abs"):=by ac_nf
def pc:bootBuiltins "all" = G0 (.builtin "all"):=by ac_nf
def zK:bootBuiltins "isinstance" = G0 (.builtin "isinstance"):=by ac_nf
def en:bootBuiltins "int" = G0 (.type "int"):=by ac_nf
def fK:bootBuiltins "bool" = G0 (.type "bool"):=by ac_nf
def be:bootBuiltins "str" = G0 (.type "str"):=by ac_nf
def fG:bootBuiltins "list" = G0 (.type "list"):=by ac_nf
def vt:bootBuiltins "tuple" = G0 (.type "tuple"):=by ac_nf
def Xp:bootBuiltins "zip" = G0 (.type "zip"):=by ac_nf

def Has(P:e9)(w:i5)(K:ac)(mg:c7->Option b7)(base:j3)(x:c7)(n:Nat)(a:List c7)(b:Sp):Prop :=
 ∃(f:b6)(fd:w4),yV P w K mg base CX0 n f fd a b/\zt K fd a []/\u9 K (.ref f)=G3/\mg x=G0 (.ref f)
section
variable{X:Cx}{x:c7}{p pos:BM}{e:o6}{es:List o6}{t:TA}{n:Nat}{ps:List c7}{sp:Sp}
def uQ(h:Has X.prog X.w X.K X.mg X.base x n ps sp)(d:tS n X.A)(g:Gl X x)(j:PA X (e::es) t)(c:(x ==("__debug__" : c7))=false:=by decide)
  (i:starEach (e::es) X.env=(G4,eval e X.env)::starEach es X.env:=by rfl) (a:(backTo pos (starEach es X.env)).any (·.1)=false:=by rfl):PE X (.Call (.Name x p) (e::es) [] pos) (iM sp [] E0 t):=by
 obtain⟨f,fd,F,b,k,m⟩:=h;rwa[Zt F d g m k b .nil eh j c i a]
end

section
variable{X:Cx}
def cW(i j:Int):Prop:=0<j/\j.natAbs<2^4096
def dQ:OpR X (binaryOp .FloorDiv) (rI cW λi j=>.int (i/j)):=opI λi j _ _ _ _ _ a q=>by
 have h1:(0:Int)<j:=a.1;have h3:j.natAbs.log2<9000:=AD ((Fu (by lia)).mpr a.2) (by decide);rwa[floordiv_int (by lia) (by rw[Int.fdiv_eq_ediv_of_nonneg i (by lia)]; exact q) (.inl (PyProof.noPylong_of_log2 h3))]
def cW.of{i j:Int}(h:0<j)(h2:j<10^600):cW i j:=by
 exists h;have e:(10:Nat)^600<2^4096:=by ac_nf
 lia
def kY:sV X (.builtin "isinstance") (λa H Q=>E4 λx T t b=>A4 (a=[x,.ty T]) (TyOf X.K H x t) (Ar X.K t (.type T)=G0 b) (Q (.bl b) H)):=by
 intro i s f H a g Q I r h;obtain⟨x,T,t,b,rfl,ty,e,q⟩:=h;obtain⟨u,v,rfl,ru,d⟩:=xD.two r;cases d;rwa[fE I ru ty e λc=>⟨.bl b,H,I.tok c,rfl,q⟩]

def Sq(K:ac)(H:Hp)(p:b6)(a:List V):Prop:=SqL K H p a\/SqT K H p a
inductive RIx(K:ac)(x y:V)(H:Hp)(Q:VK):Prop where
 | mk (p:b6) (xs:List V) (i:Int) (v:V) (ex:x=.ref p) (ey:y=.int i) (sq:Sq K H p xs) (at':atI xs i=G0 v) (q:Q v H)
def rIxA(K:ac):R2:=λx y H Q=>RIx K x y H Q
def bL:IxR X (rIxA X.K):=by
 intro value slice l s b H x y v u Q I e d q f;obtain⟨p,c,i,z,j,h,a,g,q⟩:=q;rcases a with a | a
 ·rwa[aD value slice l s b H x y v u Q I e d ⟨p,c,i,z,j,h,a,g,q⟩ f]
 ·rwa[Yu value slice l s b H x y v u Q I e d ⟨p,c,i,z,j,h,a,g,q⟩ f]
def iSeq(K:ac)(tl:TE):TI:=λd H R=>tl d H λx b=>∃ a,x=.ref a/\(((∃ c,SqL K b a c)/\R (Itl K a) b)\/((∃ c,SqT K b a c)/\R (Itt K a) b))
def lh{tl:TE}(A:PE X l tl):PI X t l (iSeq X.K tl):=by
 intro m s n H R I h;refine thn (A m s n H _ I h) λv c ⟨x,i,d,w,y⟩=>?_;obtain⟨a,e,q⟩:=y;subst e;cases w;have own:∀ b,b∈[c.heap.objs.size]->iT X m i b:=λb j=>by
  rw[f7] at j;subst j;rwa[d.fpOk (d8 _) (d.hok.fresh (d8 _))]
 rcases q with ⟨⟨r,g⟩,q⟩ | ⟨⟨r,g⟩,q⟩
 ·obtain⟨f,u,p,z⟩:=d.list g;rwa[BC p.isList ⟨c.heap.objs.size,[c.heap.objs.size],_,_,i,rfl,d.kept (t':=c.toks) λb o e=>b8 _ e,lI a _,⟨_,d6 _ rfl,rfl,rfl⟩,own,q⟩]
 ·obtain⟨f,u,p,z⟩:=d.tuple g;exact ED (show c.heap.IsTuple a f.toArray from p) ⟨c.heap.objs.size,[c.heap.objs.size],_,_,i,rfl,d.kept (t':=c.toks) λb o e=>b8 _ e,iK a _,⟨_,d6 _ rfl,rfl,rfl⟩,own,q⟩
end

section
variable{K:ac}{a D:b6}{xs:List V}{g:TG}{tt:TT}{te:TE}{σ0:St}{H1:Hp}{Q:VK}
def nY(h:Nat->St->List V->Hp->Prop)(h0:h 0 σ0 [] (upd H1 D (.lst [])))(t:∀ i d c H,i<=xs.length->h i d c H->SqL K H a xs/\H D=G0 (.lst c))
  (s:∀ i x d c H,xs[i]?=G0 x->h i d c H->g x d H λf u=>tt f u λb n =>
   if b=G3 then te f n λy l=>l D=G0 (.lst c)/\c.length<sizeLine/\h (i+1) f (c++[y]) (upd l D (.lst (c++[y]))) else h (i+1) f c n)
  (hd:∀ d c H,h xs.length d c H->Q (.ref D) H):wf (Itl K a) D g tt te σ0 H1 Q:=by
 exists λi m d c H=>m=xs.length-i/\i<=xs.length/\h i d c H,⟨xs.length,by simp,j8 _,h0⟩;rintro i m d c H ⟨rfl,hi,p⟩;obtain⟨q,r⟩:=t i d c H hi p;exists r;by_cases j:i<xs.length
 ·erw[.inr ⟨⟨xs,xs[i],q,by simp[j]⟩,h (i+1),λo w v z=>⟨xs.length-(i+1),by lia,rfl,j,z⟩,λx v y=>?_⟩];obtain⟨e,y⟩:=y;subst e;rwa[s i x d c _ (y xs q) p]
 ·have e:i=xs.length:=by lia
  subst e;rwa[.inl ⟨⟨xs,q,d8 _⟩,hd d c H p⟩]
def cq(h:Nat->St->List V->Hp->Prop)(h0:h 0 σ0 [] (upd H1 D (.lst [])))(t:∀ i d c H,i<=xs.length->h i d c H->SqT K H a xs/\H D=G0 (.lst c))
  (s:∀ i x d c H,xs[i]?=G0 x->h i d c H->g x d H λf u=>tt f u λb n =>
   if b=G3 then te f n λy l=>l D=G0 (.lst c)/\c.length<sizeLine/\h (i+1) f (c++[y]) (upd l D (.lst (c++[y]))) else h (i+1) f c n)
  (hd:∀ d c H,h xs.length d c H->Q (.ref D) H):wf (Itt K a) D g tt te σ0 H1 Q:=by
 exists λi m d c H=>m=xs.length-i/\i<=xs.length/\h i d c H,⟨xs.length,by simp,j8 _,h0⟩;rintro i m d c H ⟨rfl,hi,p⟩;obtain⟨q,r⟩:=t i d c H hi p;exists r;by_cases j:i<xs.length
 ·erw[.inr ⟨⟨xs,xs[i],q,by simp[j]⟩,h (i+1),λo w v z=>⟨xs.length-(i+1),by lia,rfl,j,z⟩,λx v y=>?_⟩];obtain⟨e,y⟩:=y;subst e;rwa[s i x d c _ (y xs q) p]
 ·have e:i=xs.length:=by lia
  subst e;rwa[.inl ⟨⟨xs,q,d8 _⟩,hd d c H p⟩]
def iG{lo:Int}{n:Nat}(h:Nat->St->List V->Hp->Prop)(h0:h 0 σ0 [] (upd H1 D (.lst [])))(t:∀ i d c H,i<=n->h i d c H->H D=G0 (.lst c))
  (s:∀ i d c H,i<n->h i d c H->g (.int (lo+i)) d H λf u=>tt f u λb o =>
   if b=G3 then te f o λy l=>l D=G0 (.lst c)/\c.length<sizeLine/\h (i+1) f (c++[y]) (upd l D (.lst (c++[y]))) else h (i+1) f c o)
  (hd:∀ d c H,h n d c H->Q (.ref D) H):wf (Itr lo n) D g tt te σ0 H1 Q:=by
 exists λi m d c H=>m=n-i/\i<=n/\h i d c H,⟨n,by simp,j8 _,h0⟩;rintro i m d c H ⟨rfl,hi,p⟩;have r:=t i d c H hi p;exists r;by_cases j:i<n
 ·erw[.inr ⟨j,h (i+1),λq w v z=>⟨n-(i+1),by lia,rfl,j,z⟩,λx v y=>?_⟩];obtain⟨e,y⟩:=y;subst e y;rwa[s i d c _ j p]
 ·have e:i=n:=by lia
  subst e;rwa[.inl ⟨d8 _,hd d c H p⟩]
end
section
variable{K:ac}{a D:b6}{xs:List V}{g:TG}{te:TE}{σ0:St}{H1:Hp}{Q:VK}
def jX(d:Nat->St->List V->Hp->Prop)(h0:d 0 σ0 [] (upd H1 D (.lst [])))(l:∀ i c b H,i<=xs.length->d i c b H->SqL K H a xs/\H D=G0 (.lst b))
  (j:∀ i x c b H,xs[i]?=G0 x->d i c b H->g x c H λf m=>te f m λy h=>h D=G0 (.lst b)/\b.length<sizeLine/\d (i+1) f (b++[y]) (upd h D (.lst (b++[y]))))
  (hd:∀ c b H,d xs.length c b H->Q (.ref D) H):wf (Itl K a) D g ZF te σ0 H1 Q:=nY d h0 l (λi x c b H e p=>j i x c b H e p) hd
def gM(d:Nat->St->List V->Hp->Prop)(h0:d 0 σ0 [] (upd H1 D (.lst [])))(l:∀ i c b H,i<=xs.length->d i c b H->SqT K H a xs/\H D=G0 (.lst b))
  (j:∀ i x c b H,xs[i]?=G0 x->d i c b H->g x c H λf m=>te f m λy h=>h D=G0 (.lst b)/\b.length<sizeLine/\d (i+1) f (b++[y]) (upd h D (.lst (b++[y]))))
  (hd:∀ c b H,d xs.length c b H->Q (.ref D) H):wf (Itt K a) D g ZF te σ0 H1 Q:=cq d h0 l (λi x c b H e p=>j i x c b H e p) hd
def tw{lo:Int}{n:Nat}(d:Nat->St->List V->Hp->Prop)(h0:d 0 σ0 [] (upd H1 D (.lst [])))(l:∀ i c b H,i<=n->d i c b H->H D=G0 (.lst b))
  (j:∀ i c b H,i<n->d i c b H->g (.int (lo+i)) c H λf m=>te f m λy h=>h D=G0 (.lst b)/\b.length<sizeLine/\d (i+1) f (b++[y]) (upd h D (.lst (b++[y]))))
  (hd:∀ c b H,d n c b H->Q (.ref D) H):wf (Itr lo n) D g ZF te σ0 H1 Q:=iG d h0 l (λi c b H e p=>j i c b H e p) hd
end
end L2

namespace L2
def eF:∀ bs:List Bool,(Am bs.length).all (λi=>(bs[i]?).getD G3)=bs.all id:=by
 intro bs;rw[BZ,t7,t7];constructor
 ·intro h b c;obtain⟨i,hi,e⟩:=List.getElem_of_mem c;have q:=h i (BH.mpr hi);rw[e7 hi,e] at q;rwa[q]
 ·intro h i hi;have a:=BH.mp hi;rw[e7 a];rwa[h _ (Dm a)]
def dF{bs:List Bool}(r:xD (bs.map V.bl) a){i:Nat}(h:a[i]?=G0 v):v=.bool ((bs[i]?).getD G3):=by
 have d:=r.length;rw[c5] at d;have hi:i<a.length:=(f8.mp h).1;have b:i<bs.length:=by lia
 obtain⟨u,c,ru⟩:=r.get (i:=i) (x:=.bl bs[i]) (by rw[i3,e7 b]; rfl);rw[c] at h;cases h;rw[e7 b];rwa[ru]
section
variable{X:Cx}
def tX(n:X.calm=G3):sV X (.builtin "all") (λf H Q=>E2 λ(p:b6) (bs:List Bool)=>A3 (f=[.ref p]) (SqL X.K H p (bs.map V.bl)) (Q (.bl (bs.all id)) H)):=by
 intro G s y H f B Q I r h;obtain⟨p,bs,rfl,m,q⟩:=h;obtain⟨u,rfl,ru⟩:=xD.one r;cases ru;obtain⟨a,g,d,C⟩:=I.list m;have c:p<s.heap.objs.size:=by
  obtain⟨_,e,_⟩:=d.isList;rwa[d7 e]
 erw[call_all_walk (BC d.isList ?_)];refine⟨s.heap.objs.size,_,_,_,_,_,λi=>(bs[i]?).getD G3,U,Walks.list (A:=X.A.in1) (show X.A.in1.handled=G2 from I.ok.hd n) _ p (j4 c) a.toArray,⟨⟨_,d6 _ rfl,U,U⟩,Heap.IsList.push d.isList _⟩,λi v s Q E x t=>?_,λD l k=>?_⟩
 ·have e:=dF g (by simpa using x);subst e;rwa[Aq t]
 ·have e:(Am a.toArray.size).all (λi=>(bs[i]?).getD G3)=bs.all id:=by
   have j:=g.length;rw[c5] at j;rw[d9,<- j];rwa[eF bs]
  rw[e];exact⟨.bl (bs.all id),H,I.kept (t':=l) λb o z=>k b o (λw=>by rw[f7] at w; rwa[AM _ (w ▸ d7 z)]) (b8 _ z),rfl,q⟩
end
end L2

namespace L2

def SI(b:Bool)(h:j3)(i l:b6)(k:Nat):Prop:=match b with | true=>h.IsListIter i l k | false=>h.IsTupleIter i l k
def SS(b:Bool)(h:j3)(l:b6)(a:Array b7):Prop:=match b with | true=>h.IsList l a | false=>h.IsTuple l a
def nE(b:Bool):String:=match b with | true => "list_iterator" | false => "tuple_iterator"
def SI.obj{k:Nat}(x:SI b h i l k):∃ o,h.get? i=G0 o/\o.cls=.type (nE b)/\o.data=.fields #[.ref l,.int k 0]:=by
 cases b <;> rwa[x]
def SI.of{h:j3}{k:Nat}(x:∃ o,h.get? i=G0 o/\o.cls=.type (nE b)/\o.data=.fields #[.ref l,.int k 0]):SI b h i l k:=by
 cases b <;> rwa[x]
def SI.at{h a:j3}{k:Nat}(x:SI b h i l k)(e:∀ o,h.get? i=G0 o->a.get? i=G0 o):SI b a i l k:=by
 obtain⟨o,c,r⟩:=x.obj;rwa[SI.of ⟨o,e o c,r⟩]
def SS.at{h c:j3}(x:SS b h l a)(e:∀ o,h.get? l=G0 o->c.get? l=G0 o):SS b c l a:=by
 cases b <;>(obtain⟨o,d,r⟩:=x; rwa[o,e o d,r])
def SS.obj(x:SS b h l a):∃ o,h.get? l=G0 o/\o.cls=.type (match b with | true => "list" | false => "tuple"):=by
 cases b <;>(obtain⟨o,c,d,_⟩:=x; rwa[o,c,d])
section
variable{prog:e9}{w:i5}{A:u8}{E:b7->b9->Prop}{s:b9}
def dL{k:Nat}{Q:b7->b9->Prop}(e:s.heap.IsTupleIter i l k)(m:s.heap.IsTuple l b)(h:b[k]?=G0 y)
  (j:∀ g,g.IsTupleIter i l (k+1)->AC i s.heap g->Q y { s with heap:=g }):wpAny (model prog w) A (r6 (.ref i)) Q E s:=by
 obtain⟨ob,c,n,a⟩:=id e;obtain⟨o,d,_,p,f⟩:=m;unfold r6;erw[b0 (z9 (name:=d4 "__next__") e.typeIs AS (AQ AS e.typeIs CJ ?_ (Cv _)))];show wpAny _ _ (field (.ref i) 0 >>= _) _ _ s;erw[b0 (t6 c a (x:=.ref l) rfl ?_)];show wpAny _ _ (if (e8 l == v3)=G3 then _ else _) _ _ s; rw[y3 (show ¬ ((e8 l == v3)=G3) from g7)];show wpAny _ _ (field (.ref i) 1 >>= _) _ _ s;erw[b0 (t6 c a (x:=.int k 0) rfl ?_)];show wpAny _ _ (seqItems? (.ref l) >>= _) _ _ s; erw[b0 (As d f ?_)];simp only[BD,h];erw[b0 (AT c a (by simp) (c9 ⟨y,rfl,c9 (j _ ?_ (En ..))⟩))];rwa[_,Ai _ c (AX (AA a _)),(Ce ..).trans n,by rw[AA a]; simp[rawInt]]
def ar{k:Nat}{Q:b7->b9->Prop}(n:A.handled=G2)(f:s.heap.IsTupleIter i l k)(q:s.heap.IsTuple l b)(p:b[k]?=G2)
  (r:∀ j e,Cq i s.heap j->(∃ o,j.get? e=G0 o/\o.cls=.type "StopIteration")->E (.ref e) { s with heap:=j }):wpAny (model prog w) A (r6 (.ref i)) Q E s:=by
 obtain⟨ob,d,t,h⟩:=id f;obtain⟨u,c,_,v,g⟩:=q;unfold r6;erw[b0 (z9 (name:=d4 "__next__") f.typeIs AS (AQ AS f.typeIs CJ ?_ (Cv _)))];show wpAny _ _ (field (.ref i) 0 >>= _) _ _ s;erw[b0 (t6 d h (x:=.ref l) rfl ?_)];show wpAny _ _ (if (e8 l == v3)=G3 then _ else _) _ _ s; rw[y3 (show ¬ ((e8 l == v3)=G3) from g7)];show wpAny _ _ (field (.ref i) 1 >>= _) _ _ s;erw[b0 (t6 d h (x:=.int k 0) rfl ?_)];show wpAny _ _ (seqItems? (.ref l) >>= _) _ _ s; erw[b0 (As c g ?_)];simp only[BD,p];erw[b0 (DF (b0 (AT d h (by simp) ?_)))];show wpAny _ _ (newExc (.type "StopIteration") [] >>= _) _ _ _; erw[b0 ?_]; simp only[newExc,newTuple];erw[b0 (v5 ?_ (by size_fits))]; refine b0 (m:=firstArgMember _ _) (B8 (a:=v3) (by first | rfl | (simp only[firstArgMember]; rfl)) ?_);erw[v5 ?_ (by size_fits)]; simp only[raiseNew]; erw[b0 (wpAny_handled ?_)]
 first | rw[show A.in1.handled=G2 from n] | rw[n]
 erw[b0 (c9 (wpAny_throw ?_))]; rwa[r _ _ (((En ..).extBut.push _).push _) ⟨_,d6 _ rfl,rfl⟩]
def kG{k:Nat}{Q:b7->b9->Prop}(g:SI b s.heap i l k)(f:SS b s.heap l a)(d:a[k]?=G0 y)
  (e:∀ c,SI b c i l (k+1)->AC i s.heap c->Q y { s with heap:=c }):wpAny (model prog w) A (r6 (.ref i)) Q E s:=by
 cases b
 ·rwa[dL g f d e]
 ·rwa[wpAny_nextOf_list_item g f d e]
def bD{k:Nat}{Q:b7->b9->Prop}(j:A.handled=G2)(g:SI b s.heap i l k)(f:SS b s.heap l a)(d:a[k]?=G2)
  (h:∀ c e,Cq i s.heap c->(∃ o,c.get? e=G0 o/\o.cls=.type "StopIteration")->E (.ref e) { s with heap:=c }):wpAny (model prog w) A (r6 (.ref i)) Q E s:=by
 cases b
 ·rwa[ar j g f d h]
 ·rwa[wpAny_nextOf_list_end j g f d h]
def bN{Q:b7->b9->Prop}(c:SS b s.heap l a)(h:Q (.ref s.heap.objs.size) { s with heap:=s.heap.push { cls:=.type (nE b),data:=.fields #[.ref l,.int 0 0] } }) :
  wpAny (model prog w) A (pyIter (.ref l)) Q E s:=by
 cases b
 ·rwa[ED c h]
 ·rwa[BC c h]

def eN{z TI TO g f t r:b6}{k:Nat}{Q:b7->b9->Prop}(D:ZipApart z TI TO g f t r)
  (u:Dn s.heap z TI TO .none) (hI:BL s.heap TI (.ref g) (.ref f)) (hO:BL s.heap TO a b) (h1:SI L s.heap g t k) (h2:SI J s.heap f r k) (g1:SS L s.heap t Y) (g2:SS J s.heap r X)
  (hx:Y[k]?=G0 x) (hy:X[k]?=G0 y)
  (hQ:∀ i,Dn i z TI TO (rawInt s.heap.objs.size)->BL i TO x y->SI L i g t (k+1)->SI J i f r (k+1)->BL i s.heap.objs.size x y ->
   (∀ c o,c≠z->c≠TO->c≠g->c≠f->s.heap.get? c=G0 o->i.get? c=G0 o)->Q (.ref s.heap.objs.size) { s with heap:=i }) :
  wpAny (model prog w) A (Cn.«zip.__next__» ⟨[.ref z],[]⟩) (λP s'=>∃ v,P=.done (.ret v)/\Q v s') E s:=by
 show wpAny _ _ (field (.ref z) 2 >>= _) _ _ _; erw[b0 (t6 u rfl (x:=.bool G4) rfl ?_)];show wpAny _ _ (field (.ref z) 3 >>= _) _ _ _; erw[b0 (t6 u rfl (x:=.ref TI) rfl ?_)];erw[b0 (As hI rfl ?_)];show wpAny _ _ (Ak (.ref z) >>= _) _ _ _; erw[b0 ?_]; unfold Ak;erw[b0 (t6 u rfl (x:=.none) rfl (c9 ?_))]; simp only[if_true];erw[b0 (DF ?_)]; erw[b0 (t6 u rfl (x:=.ref TO) rfl ?_)];erw[b0 (AU u (by simp) λk1 N h=>?_)]; replace N:Dn k1 z TI TO .ellipsis:=N;erw[b0 ?_]; simp only[AB,FA,DO,FT];erw[b0 (b0 (Dh ?_))]; show wpAny _ _ (r6 (.ref g) >>= _) _ _ _
 erw[b0 (kG (h1.at λo e=>h.extBut _ o D.i1z e) (g1.at λo e=>h.extBut _ o D.l1z e) hx λk2 q2 m=>c9 ?_)];have o2:BL k2 TO a b:=m.extBut _ _ D.TOi1 (h.extBut _ _ D.TOz hO);erw[b0 (As o2 rfl ?_)];erw[b0 (Cr o2 λk3 O l=>?_)]; replace O:BL k3 TO x b:=O;erw[b0 (Fv (c9 ?_))]; erw[b0 (b0 (Dh ?_))]; show wpAny _ _ (r6 (.ref f) >>= _) _ _ _
 erw[b0 (kG (h2.at λo e=>l.extBut _ o D.TOi2.symm (m.extBut _ o D.i12.symm (h.extBut _ o D.i2z e))) (g2.at λo e=>l.extBut _ o D.l2TO (m.extBut _ o D.l2i1 (h.extBut _ o D.l2z e))) hy λk4 q4 q=>c9 ?_)];have o4:BL k4 TO x b:=q.extBut _ _ D.TOi2 O;erw[b0 (As o4 rfl ?_)];erw[b0 (Cr o4 λd H p=>?_)]; replace H:BL d TO x y:=H;erw[b0 (Fv (c9 (c9 ?_)))];erw[b0 (As H rfl ?_)]; erw[b0 (wpAny_newTuple ?_)];have B:d.objs.size=s.heap.objs.size:=by rw[p.1,q.1,l.1,m.1,h.1]
 have T:Dn d z TI TO .ellipsis:=p.extBut _ _ D.TOz.symm (q.extBut _ _ D.i2z.symm (l.extBut _ _ D.TOz.symm (m.extBut _ _ D.i1z.symm N)));have kp:∀ c o,c≠z->c≠TO->c≠g->c≠f->s.heap.get? c=G0 o->d.get? c=G0 o:=λc o j c2 S R e=>p.extBut _ _ c2 (q.extBut _ _ R (l.extBut _ _ c2 (m.extBut _ _ S (h.extBut _ _ j e))));have a5:SI L d g t (k+1):=q2.at λo e=>p.extBut _ o D.TOi1.symm (q.extBut _ o D.i12 (l.extBut _ o D.TOi1.symm e));have b5:SI J d f r (k+1):=q4.at λo e=>p.extBut _ o D.TOi2.symm e;have n:z<d.objs.size:=d7 T;show wpAny _ _ (BV (.ref z) (.ref d.objs.size) >>= _) _ _ _; erw[b0 ?_]; unfold BV;have z6:Dn (d.push { cls:=.type "tuple",data:=.seq #[x,y] }) z TI TO .ellipsis:=b8 _ T;erw[b0 (AU z6 (by simp) λk7 M s7=>?_)]; replace M:Dn k7 z TI TO (rawInt d.objs.size):=M;erw[AU M (by simp) λI C s8=>?_]; replace C:Dn I z TI TO (rawInt d.objs.size):=C;have G:∀ c o,c≠z->d.get? c=G0 o->I.get? c=G0 o:=λc o j e=>s8.extBut _ _ j (s7.extBut _ _ j (b8 _ e));have Z:BL I d.objs.size x y:=s8.extBut _ _ (CH n) (s7.extBut _ _ (CH n) (d6 _ rfl));rw[B] at C Z;erw[c9 ⟨_,rfl,?_⟩]; show Q (.ref d.objs.size) _
 rw[B];rwa[hQ I C (G _ _ D.TOz H) (a5.at λo e=>G _ o D.i1z e) (b5.at λo e=>G _ o D.i2z e) Z λc o j c2 S R e=>G c o j (kp c o j c2 S R e)]
def dW{z TI TO n m C B:b6}{k:Nat}{Q:Fin->b9->Prop}(T:A.handled=G2)(D:ZipApart z TI TO n m C B)
  (p:Dn s.heap z TI TO .none) (hI:BL s.heap TI (.ref n) (.ref m)) (hO:BL s.heap TO a b) (h1:SI b1 s.heap n C k) (h2:SI Z s.heap m B k) (Y:SS b1 s.heap C v) (g2:SS Z s.heap B u)
  (q:v[k]?=G2\/u[k]?=G2)
  (X:∀ J e,(∀ c o,c≠z->c≠TO->c≠n->c≠m->s.heap.get? c=G0 o->J.get? c=G0 o)->(∃ o,J.get? e=G0 o/\o.cls=.type "StopIteration")->E (.ref e) { s with heap:=J }) :
  wpAny (model prog w) A (Cn.«zip.__next__» ⟨[.ref z],[]⟩) Q E s:=by
 show wpAny _ _ (field (.ref z) 2 >>= _) _ _ _; erw[b0 (t6 p rfl (x:=.bool G4) rfl ?_)];show wpAny _ _ (field (.ref z) 3 >>= _) _ _ _; erw[b0 (t6 p rfl (x:=.ref TI) rfl ?_)];erw[b0 (As hI rfl ?_)];show wpAny _ _ (Ak (.ref z) >>= _) _ _ _; erw[b0 ?_]; unfold Ak;erw[b0 (t6 p rfl (x:=.none) rfl (c9 ?_))]; simp only[if_true];erw[b0 (DF ?_)]; erw[b0 (t6 p rfl (x:=.ref TO) rfl ?_)];erw[b0 (AU p (by simp) λk1 t g=>?_)]; replace t:Dn k1 z TI TO .ellipsis:=t;erw[b0 ?_]; simp only[AB,FA,DO,FT];erw[b0 (b0 (Dh ?_))]; show wpAny _ _ (r6 (.ref n) >>= _) _ _ _
 cases H:v[k]? with
 | none =>
  erw[b0 (bD T (h1.at λo e=>g.extBut _ o D.i1z e) (Y.at λo e=>g.extBut _ o D.l1z e) H λG e i I=>?_)];obtain⟨y,d,f⟩:=I;have N:Dn G z TI TO .ellipsis:=i _ _ D.i1z.symm t;have l:e≠z:=λx=>by subst x; rw[N] at d; cases d; simp at f
  erw[AU N (by simp) λS _ j=>X S e (λc o r _ L _ x=>j.extBut _ _ r (i _ _ L (g.extBut _ _ r x))) ⟨y,j.extBut _ _ l d,f⟩]
 | some x =>
  have hy:u[k]?=none:=by
   rcases q with h | h
   ·rw[H] at h; cases h
   ·rwa[h]
  erw[b0 (kG (h1.at λo e=>g.extBut _ o D.i1z e) (Y.at λo e=>g.extBut _ o D.l1z e) H λG q2 i=>c9 ?_)];have R:BL G TO a b:=i.extBut _ _ D.TOi1 (g.extBut _ _ D.TOz hO);erw[b0 (As R rfl ?_)]; erw[b0 (Cr R λS o3 j=>?_)];erw[b0 (Fv (c9 ?_))]; erw[b0 (b0 (Dh ?_))]; show wpAny _ _ (r6 (.ref m) >>= _) _ _ _
  erw[b0 (bD T (h2.at λo e=>j.extBut _ o D.TOi2.symm (i.extBut _ o D.i12.symm (g.extBut _ o D.i2z e))) (g2.at λo e=>j.extBut _ o D.l2TO (i.extBut _ o D.l2i1 (g.extBut _ o D.l2z e))) hy λk4 e P I=>?_)];obtain⟨y,d,f⟩:=I;have M:Dn k4 z TI TO .ellipsis:=P _ _ D.i2z.symm (j.extBut _ _ D.TOz.symm (i.extBut _ _ D.i1z.symm t));have l:e≠z:=λx=>by subst x; rw[M] at d; cases d; simp at f
  erw[AU M (by simp) λk5 _ O=>X k5 e (λc o r c2 L c4 x=>O.extBut _ _ r (P _ _ c4 (j.extBut _ _ c2 (i.extBut _ _ L (g.extBut _ _ r x))))) ⟨y,O.extBut _ _ l d,f⟩]
def Zk(d c:Bool)(b a:b6)(h:j3):j3 :=
 ((((h.push { cls:=.type (nE d),data:=.fields #[.ref b,.int 0 0] }).push { cls:=.type (nE c),data:=.fields #[.ref a,.int 0 0] }).push { cls:=.type "tuple",data:=.seq #[.ref h.objs.size,.ref (h.objs.size+1)] }).push { cls:=.type "tuple",data:=.seq #[.none,.none] }).push { cls:=.type "zip",data:=.fields #[.none,.bool G4,.bool G4,.ref (h.objs.size+2),.ref (h.objs.size+3)] }
def cN(c m:Bool)(a b:b6)(p n:Array b7) :
  Meets (Cn.«zip.__new__» ⟨[.type "zip",.ref a,.ref b],[]⟩) (λ_ R s=>SS c s.heap a p/\SS m s.heap b n /\
   R (.ok (.ret (.ref (s.heap.objs.size+4)))) { s with heap:=Zk c m a b s.heap }) :=
 .of_wp λprog w A R s h=>by
  obtain⟨t,g,d,q,os⟩:=s;obtain⟨i,f,h⟩:=h;have r:=sub_zip;have l:SS c (GP ⟨t,g,d,q,os⟩) a p:=i;have j:SS m (GP ⟨t.push { cls:=.type (nE c),data:=.fields #[.ref a,.int 0 0] },g,d,q,os⟩) b n:=SS.at f λo e=>b8 _ e
  wp_walk using bN l,bN j
  exists _,rfl;simp only[Zk,AG] at h ⊢;rwa[h]
def gS{Q:b7->b9->Prop}(p:SS g s.heap e y)(n:SS f s.heap d x)
  (h:∀ b,Dn b (s.heap.objs.size+4) (s.heap.objs.size+2) (s.heap.objs.size+3) .none->BL b (s.heap.objs.size+2) (.ref s.heap.objs.size) (.ref (s.heap.objs.size+1))->BL b (s.heap.objs.size+3) .none .none ->
   SI g b s.heap.objs.size e 0->SI f b (s.heap.objs.size+1) d 0->(∀ c o,s.heap.get? c=G0 o->b.get? c=G0 o)->Q (.ref (s.heap.objs.size+4)) { s with heap:=b }) :
  wpAny (model prog w) A (call (.type "zip") [.ref e,.ref d]) Q E s:=by
 erw[callType_new F.called_zip (by decide) (F.typeCall_zip_2 _ _) (F.newCall_zip_2 _ _) (λobj=>F.args_object_init_3 obj _ _) F.entry_zip_new (cN g f e d y x) ⟨p,n,?_⟩];unfold Zk;generalize v:s.heap.push { cls:=.type (nE g),data:=.fields #[.ref e,.int 0 0] }=m;have n1:m.objs.size=s.heap.objs.size+1:=by rw[<- v,AG]
 generalize u:m.push { cls:=.type (nE f),data:=.fields #[.ref d,.int 0 0] }=i;have n2:i.objs.size=s.heap.objs.size+2:=by rw[<- u,AG,n1]
 generalize t:i.push { cls:=.type "tuple",data:=.seq #[.ref s.heap.objs.size,.ref (s.heap.objs.size+1)] }=l;have n3:l.objs.size=s.heap.objs.size+3:=by rw[<- t,AG,n2]
 generalize r:l.push { cls:=.type "tuple",data:=.seq #[.none,.none] }=j;have n4:j.objs.size=s.heap.objs.size+4:=by rw[<- r,AG,n3]
 generalize H:j.push { cls:=.type "zip",data:=.fields #[.none,.bool G4,.bool G4,.ref (s.heap.objs.size+2),.ref (s.heap.objs.size+3)] }=a;have z:∀ c o,j.get? c=G0 o->a.get? c=G0 o:=λc o q=>H ▸ b8 _ q;have B:∀ c o,l.get? c=G0 o->a.get? c=G0 o:=λc o q=>z c o (r ▸ b8 _ q);have C:∀ c o,i.get? c=G0 o->a.get? c=G0 o:=λc o q=>B c o (t ▸ b8 _ q);have D:∀ c o,m.get? c=G0 o->a.get? c=G0 o:=λc o q=>C c o (u ▸ b8 _ q);have I:∀ c o,s.heap.get? c=G0 o->a.get? c=G0 o:=λc o q=>D c o (v ▸ b8 _ q);have G:Dn a (s.heap.objs.size+4) (s.heap.objs.size+2) (s.heap.objs.size+3) .none:=by
  rw[<- n4,<- H];rwa[d6 _ rfl]
 have J:BL a (s.heap.objs.size+3) .none .none:=by
  rw[<- n3];rwa[z _ _ (by rw[<- r]; exact d6 _ rfl)]
 have L:BL a (s.heap.objs.size+2) (.ref s.heap.objs.size) (.ref (s.heap.objs.size+1)):=by
  have q:=B i.objs.size _ (by rw[<- t]; rwa[d6 _ rfl]);rw[n2] at q;rwa[q]
 have M:SI f a (s.heap.objs.size+1) d 0:=by
  rw[<- n1];rwa[SI.of ⟨_,C _ _ (by rw[<- u]; exact d6 _ rfl),rfl,rfl⟩]
 have N:SI g a s.heap.objs.size e 0:=SI.of ⟨_,D _ _ (by rw[<- v]; rwa[d6 _ rfl]),rfl,rfl⟩;rwa[⟨_,G,U⟩,h a G L J N M I]
end
end L2

namespace L2
def SqB(b:Bool)(K:ac)(H:Hp)(l:b6)(a:List V):Prop:=match b with | true=>SqL K H l a | false=>SqT K H l a
def Inv.sqB{d:St}{H:Hp}(I:Inv X e d H s)(h:SqB b X.K H l c):∃ a:List b7,xD c a/\SS b s.heap l a.toArray/\c.length<=sizeLine:=by
 cases b with
 | true =>
  obtain⟨a,r,p,z⟩:=I.list h;rwa[a,r,p.isList,z]
 | false =>
  obtain⟨a,r,p,z⟩:=I.tuple h;rwa[a,r,p,z]
def Inv.sqB_inj{d:St}{H:Hp}(I:Inv X e d H s)(h:SqB b X.K H l c)(h':SqB b X.K H l a):c=a:=by
 cases b with
 | true=>rwa[I.list_inj h h']
 | false=>rwa[I.tuple_inj h h']
def Itz(K:ac)(f e:Bool)(d c:b6):It :=
 ⟨λk H=>∃ b a x y,SqB f K H d b/\SqB e K H c a/\b[k]?=G0 x/\a[k]?=G0 y,
   λk H v g=>∃ T x y,v=.ref T/\H T=G2/\g=upd H T (.tup [x,y])/\(∀ b,SqB f K H d b->b[k]?=G0 x)/\(∀ a,SqB e K H c a->a[k]?=G0 y),
   λk H=>∃ b a,SqB f K H d b/\SqB e K H c a/\(b.length<=k\/a.length<=k)⟩
def dB{P:e9}{w:i5}{K:ac}{Z:List o6}{kt:Nat}{pt:BM}{b1 b2:Bool}{z TI TO j i l1 l2:b6}(D:ZipApart z TI TO j i l1 l2) :
  bZ P w K (.Tuple Z kt pt) (Itz K b1 b2 l1 l2) [z,TI,TO,j,i] z (λk h=>Dn h z TI TO .none/\BL h TI (.ref j) (.ref i)/\(∃ a b,BL h TO a b)/\SI b1 h j l1 k/\SI b2 h i l2 k) where
 mem:=by simp
 obj:=λk h st b g=>by
  obtain⟨t,A,⟨a',b',J⟩,h1,h2⟩:=st;obtain⟨o1,g1,_,d1⟩:=h1.obj;obtain⟨o2,g2,_,d2⟩:=h2.obj;simp only[f9,x9,or_false] at g;rcases g with rfl | rfl | rfl | rfl | rfl
  ·rwa[_,t,λv e=>by cases e]
  ·rwa[_,A,λv e=>by cases e]
  ·rwa[_,J,λv e=>by cases e]
  ·exact⟨_,g1,λv e=>by rw[d1] at e; cases e⟩
  ·exact⟨_,g2,λv e=>by rw[d2] at e; cases e⟩
 keep:=λk h h' st kp=>by
  obtain⟨t,A,⟨a',b',J⟩,h1,h2⟩:=st;rwa[kp z (by simp) _ t,kp TI (by simp) _ A,⟨a',b',kp TO (by simp) _ J⟩,h1.at λo e=>kp j (by simp) o e,h2.at λo e=>kp i (by simp) o e]
 item:=by
  intro X hP hw hK d k G5 s σ H E I G st hg;subst hP hw hK;obtain⟨t,A,⟨a',b',J⟩,h1,h2⟩:=st;obtain⟨xs,ys,x,y,q1,q2,hx,hy⟩:=hg;obtain⟨C,r1,p1,_⟩:=I.sqB q1;obtain⟨B,r2,p2,_⟩:=I.sqB q2;obtain⟨u1,e1,v1⟩:=r1.get hx;obtain⟨u2,e2,v2⟩:=r2.get hy;have S:s.TypeIs (.ref z) "zip" :=⟨_,t,rfl⟩;have fresh:H s.heap.objs.size=none:=I.hok.fresh (d8 _);unfold pyNext;refine b0 (Bx (z9 (name:=d4 "__next__") S Cw (AQ Cw S Fk (eN D t A J h1 h2 p1 p2 (by simpa using e1) (by simpa using e2) λh' z1 o1 j1 j2 t1 kp=>c9 ?_) (EU _))));refine⟨_,rfl,wpAny_letOwnedTupleGo_zip z1 λY z2 Q=>?_⟩;have f:∀ c o,c ∉ [z,TO,j,i]->s.heap.get? c=G0 o->Y.get? c=G0 o:=λc o d e=>by
   simp only[f9,x9,or_false,not_or] at d;rwa[Q.extBut c o d.1 (kp c o d.1 d.2.1 d.2.2.1 d.2.2.2 e)]
  have M:∀ c∈[z,TO,j,i],c∈[z,TI,TO,j,i]:=λc d=>by
   simp only[f9,x9,or_false] at d ⊢;rcases d with e | e | e | e <;> simp[e]
  have neT:∀ b o,s.heap.get? b=G0 o->b≠s.heap.objs.size:=λb o e=>j4 (d7 e);have p:∀ b o,H b=G0 o->b ∉ [z,TO,j,i]:=λb o e g=>by
   rw[(G b (M b g)).1] at e;cases e
  have l:∀ b o,H b=G0 o->upd H s.heap.objs.size (.tup [x,y]) b=G0 o:=λb o e=>by
   rw[zL (zM e fresh)];rwa[e]
  erw[.ref s.heap.objs.size,upd H s.heap.objs.size (.tup [x,y]),?_,U,⟨_,x,y,U,fresh,U,λL N=>by rw[I.sqB_inj N q1]; exact hx,λL N=>by rw[I.sqB_inj N q2]; rwa[hy]⟩,?_,λb g=>?_]
  ·refine Inv.step (s:=s) (h':=Y) (g':=s.gens) (d':=s.drawn) (t':=s.toks) (ch:=[z,TO,j,i]) I (λb g=>?_) (λb o _ _ d e _=>f b o d e) (λb o _ _ d e _=>⟨o.slots,f b o d e⟩) (λb o _ e n=>?_) (λb o d e=>⟨o,f b o d e⟩)
    (λb L e=>l b _ e) (λb o L e=>l b _ e) (λb ps e=>⟨#[],by rw[l b _ e]; simp⟩) (λm hm=>?_) (λb o e=>?_) I.bare
   ·obtain⟨_,f1,_,f3,f4,f5⟩:=G b (M b g);rwa[f3,f1,f4,f5]
   ·rw[zL (neT b o e)];rwa[n]
   ·obtain⟨o,es,ep,ho,r⟩:=hm;erw[o,es,ep,f _ o (λg=>?_) ho,r];exact(G _ (M _ g)).2.1 rfl
   ·by_cases g:b=s.heap.objs.size
    ·subst g;rw[zB] at e;cases e;exact⟨by show 2<=sizeLine; decide,[u1,u2],.cons v1 (.cons v2 .nil),_,Q.extBut _ _ (CH (d7 t)) t1,rfl,_,rfl⟩
    ·rw[zL g] at e;refine(I.hok b o e).stay (λc u d q=>f c u ?_ q) (λc q=>l c _ q) λc L q=>l c _ q;rcases d with d | d
     ·rw[d]; rwa[p b o e]
     ·rwa[p c _ d]
  ·rwa[z2,Q.extBut _ _ D.TIz (kp _ _ D.TIz D.TITO D.TIi1 D.TIi2 A),⟨_,_,Q.extBut _ _ D.TOz o1⟩,j1.at λo e=>Q.extBut _ o D.i1z e,j2.at λo e=>Q.extBut _ o D.i2z e]
  ·obtain⟨o,e,_⟩:∃ o,s.heap.get? b=G0 o/\True:=by
    obtain⟨o1,g1,_⟩:=h1.obj;obtain⟨o2,g2,_⟩:=h2.obj;simp only[f9,x9,or_false] at g;rcases g with rfl | rfl | rfl | rfl | rfl
    ·rwa[_,t,trivial]
    ·rwa[_,A,trivial]
    ·rwa[_,J,trivial]
    ·rwa[_,g1,trivial]
    ·rwa[_,g2,trivial]
   rw[zL (neT b o e)];exact(G b g).1
 done:=by
  intro X hP hw hK d k G5 s σ H E I G st hg;subst hP hw hK;obtain⟨t,A,⟨a',b',J⟩,h1,h2⟩:=st;obtain⟨xs,ys,q1,q2,R⟩:=hg;obtain⟨C,r1,p1,_⟩:=I.sqB q1;obtain⟨B,r2,p2,_⟩:=I.sqB q2;have S:s.TypeIs (.ref z) "zip" :=⟨_,t,rfl⟩;have O:C.toArray[k]?=G2\/B.toArray[k]?=none:=by
   have l1':=r1.length;have l2':=r2.length;rcases R with h | h
   ·rwa[.inl (Cf (by rw[d9]; lia))]
   ·rwa[.inr (Cf (by rw[d9]; lia))]
  have M:∀ c∈[z,TO,j,i],c∈[z,TI,TO,j,i]:=λc d=>by
   simp only[f9,x9,or_false] at d ⊢;rcases d with e | e | e | e <;> simp[e]
  have p:∀ b o,H b=G0 o->b ∉ [z,TO,j,i]:=λb o e g=>by
   rw[(G b (M b g)).1] at e;cases e
  unfold pyNext;refine b0 (Bx (z9 (name:=d4 "__next__") S Cw (AQ Cw S Fk (dW (I.ok.hd d) D t A J h1 h2 p1 p2 O λh' e kp he=>?_) (EU _))));obtain⟨oe,hoe,hce⟩:=he;refine b0 (Do (T := "StopIteration") (b:=G3) ⟨oe,hoe,hce⟩ isSubtype_stop (c9 ⟨rfl,?_⟩));have f:∀ c o,c ∉ [z,TO,j,i]->s.heap.get? c=G0 o->h'.get? c=G0 o:=λc o d e=>by
   simp only[f9,x9,or_false,not_or] at d;rwa[kp c o d.1 d.2.1 d.2.2.1 d.2.2.2 e]
  refine I.step (g':=s.gens) (d':=s.drawn) (t':=s.toks) (ch:=[z,TO,j,i]) (λb g=>?_) (λb o _ _ d e _=>f b o d e) (λb o _ _ d e _=>⟨o.slots,f b o d e⟩) (λb o _ e n=>n) (λb o d e=>⟨o,f b o d e⟩)
   (λb L e=>e) (λb o L e=>e) (λb ps e=>⟨#[],by rw[e]; simp⟩) (λm hm=>?_) (λb o e=>?_) I.bare
  ·obtain⟨_,f1,_,f3,f4,f5⟩:=G b (M b g);rwa[f3,f1,f4,f5]
  ·obtain⟨o,es,ep,ho,r⟩:=hm;erw[o,es,ep,f _ o (λg=>?_) ho,r];exact(G _ (M _ g)).2.1 rfl
  ·refine(I.hok b o e).stay (λc u d q=>f c u ?_ q) (λc q=>q) λc L q=>q;rcases d with d | d
   ·rw[d]; rwa[p b o e]
   ·rwa[p c _ d]
 self:=λ_ _ _ _ _ st h=>Fl st.1 h
section
variable{X:Cx}
def iZip(K:ac)(j:TA):TI:=λf H R=>j f H λi c=>E6 λ(e d:Bool) (b a:b6) (h g:List V)=>A4 (i=[.ref b,.ref a]) (SqB e K c b h) (SqB d K c a g) (R (Itz K e d b a) c)
def Xn{A:Nat}{a b:o6}(G:Gl X "zip")(E:X.mg "zip" = G2)(J:PA X [a,b] j)(D:starEach [a,b] X.env=[(G4,eval a X.env),(G4,eval b X.env)]:=by rfl)(c:starEach [b] X.env=[(G4,eval b X.env)]:=by rfl) :
  PI X (.Tuple f A pt) (.Call (.Name "zip" p) [a,b] [] pos) (iZip X.K j):=by
 intro T s t H R I h;refine Call_ (ph I G E Xp (AK (thn (J pos T s t H _ I h) λus i ⟨vs,S,g,w,x⟩=>?_) (by rw[D,c]) (by rw[c]; rfl)));obtain⟨b1,b2,z,y,Z,Y,e,O,N,q⟩:=x;subst e;obtain⟨u1,u2,rfl,v,u⟩:=xD.two w;cases v;cases u;obtain⟨m,_,p1,_⟩:=g.sqB O;obtain⟨l,_,p2,_⟩:=g.sqB N;have Q:z<i.heap.objs.size:=by
  obtain⟨o,e,_⟩:=p1.obj;rwa[d7 e]
 have P:y<i.heap.objs.size:=by
  obtain⟨o,e,_⟩:=p2.obj;rwa[d7 e]
 refine gS p1 p2 λh' n M L C B kp=>?_;refine Fl n ?_;refine⟨_,_,_,_,S,U,g.kept (t':=i.toks) kp,dB (zipApart_new Q P),⟨n,M,⟨_,_,L⟩,C,B⟩,λb r=>?_,q⟩;have d:i.heap.objs.size<=b:=by
  simp only[f9,x9,or_false] at r;rcases r with rfl | rfl | rfl | rfl | rfl <;> lia
 rwa[g.fpOk d (g.hok.fresh d)]
end
section
variable{K:ac}{b1 b2:Bool}{l1 l2 D:b6}{xs ys:List V}{g:TG}{tt:TT}{te:TE}{σ0:St}{H1:Hp}{Q:VK}
def cE(f:Nat->St->List V->Hp->Prop)(h0:f 0 σ0 [] (upd H1 D (.lst [])))(A:∀ i c a H,f i c a H->SqB b1 K H l1 xs/\SqB b2 K H l2 ys/\H D=G0 (.lst a))
  (w:∀ i x y T c a H,xs[i]?=G0 x->ys[i]?=G0 y->H T=G2->f i c a H->g (.ref T) c (upd H T (.tup [x,y])) λd E=>tt d E λb o =>
   if b=G3 then te d o λz n=>n D=G0 (.lst a)/\a.length<sizeLine/\f (i+1) d (a++[z]) (upd n D (.lst (a++[z]))) else f (i+1) d a o)
  (hd:∀ c a H,f (min xs.length ys.length) c a H->Q (.ref D) H):wf (Itz K b1 b2 l1 l2) D g tt te σ0 H1 Q:=by
 exists λi m c a H=>m=min xs.length ys.length-i/\i<=min xs.length ys.length/\f i c a H,⟨_,U,j8 _,h0⟩;rintro i m c a H ⟨rfl,hi,p⟩;obtain⟨j,h,u⟩:=A i c a H p;exists u;by_cases l:i<min xs.length ys.length
 ·have C:i<xs.length:=by lia
  have c2:i<ys.length:=by lia
  erw[.inr ⟨⟨xs,ys,xs[i],ys[i],j,h,by simp[C],by simp[c2]⟩,f (i+1),λq r G z=>⟨min xs.length ys.length-(i+1),by lia,rfl,l,z⟩,λv G y=>?_⟩];obtain⟨T,x,y,rfl,B,rfl,t,s⟩:=y;rwa[w i x y T c a H (t xs j) (s ys h) B p]
 ·have e:i=min xs.length ys.length:=by lia
  subst e;rwa[.inl ⟨⟨xs,ys,j,h,by lia⟩,hd c a H p⟩]
def lq(c:Nat->St->List V->Hp->Prop)(h0:c 0 σ0 [] (upd H1 D (.lst [])))(h:∀ i b a H,c i b a H->SqB b1 K H l1 xs/\SqB b2 K H l2 ys/\H D=G0 (.lst a))
  (f:∀ i x y T b a H,xs[i]?=G0 x->ys[i]?=G0 y->H T=G2->c i b a H->g (.ref T) b (upd H T (.tup [x,y])) λd n=>te d n λz e=>e D=G0 (.lst a)/\a.length<sizeLine/\c (i+1) d (a++[z]) (upd e D (.lst (a++[z]))))
  (hd:∀ b a H,c (min xs.length ys.length) b a H->Q (.ref D) H):wf (Itz K b1 b2 l1 l2) D g ZF te σ0 H1 Q:=cE c h0 h (λi x y T b a H m l j p=>f i x y T b a H m l j p) hd
end
end L2

namespace L2
def ifD{p A B:Prop}[Decidable p](h1:p->A)(h2:¬ p->B):if decide p=G3 then A else B:=by
 by_cases h:p
 ·rw[y4 (y6 h)]; rwa[h1 h]
 ·rw[y3 (by rw[y7 h]; rwa[g7])]; rwa[h2 h]
def ifN{p A B:Prop}[Decidable p](h1:¬ p->A)(h2:p->B):if (!decide p)=G3 then A else B:=by
 by_cases h:p
 ·rw[y3 (by rw[y6 h]; rwa[g7])]; rwa[h2 h]
 ·rw[y4 (by rw[y7 h]; rfl)]; rwa[h1 h]
def ifE{x y:Int}{A B:Prop}(h1:x=y->A)(h2:x≠y->B):if decide (V.int x=V.int y)=G3 then A else B :=
 ifD (λh=>h1 (V.int.inj h)) λh=>h2 λe=>h (congrArg V.int e)
def decI{x y:Int}(h:x=y):decide (V.int x=V.int y)=true:=y6 (congrArg V.int h)
def zF{H:Hp}(h:H p=G2)(o:HO):Same H (upd H p o):=λb u q=>by rw[zL (zM q h)]; rwa[q]
def xn{ns:List Int}{i:Nat}(h:(ns.map V.int)[i]?=G0 x):∃ n,ns[i]?=G0 n/\x=.int n:=by
 rw[i3] at h;cases e:ns[i]? with
 | none=>rw[e] at h; cases h
 | some n=>rw[e] at h; rwa[n,U,(o0 h).symm]
def Xc{n:Nat}(h:n<=1000):n<=sizeLine:=Dy (yH h)
def SqT.same{K:ac}{H c:Hp}(h:SqT K H a b)(e:Same H c):SqT K c a b:=by
 rcases h with h | h
 ·rcases h with h | ⟨o,h⟩
  ·rwa[.inl (.inl (e _ _ h))]
  ·rwa[.inl (.inr ⟨o,e _ _ h⟩)]
 ·rwa[.inr h]
def cw(t:TT):Prop:=∀(a:St)(H:Hp)(Q c:Bool->Hp->Prop),(∀ b d,Q b d->c b d)->t a H Q->t a H c
def nD(t:TE):Prop:=∀(a:St)(H:Hp)(Q c:VK),(∀ b d,Q b d->c b d)->t a H Q->t a H c
def dI(t:TA):Prop:=∀(a:St)(H:Hp)(Q c:List V->Hp->Prop),(∀ b d,Q b d->c b d)->t a H Q->t a H c
def Xs(r:R2):Prop:=∀(x y:V)(H:Hp)(Q a:VK),(∀ b c,Q b c->a b c)->r x y H Q->r x y H a
def Yr(r:List V->Hp->VK->Prop):Prop:=∀(a:List V)(H:Hp)(Q c:VK),(∀ b d,Q b d->c b d)->r a H Q->r a H c
def lu{i:Nat} : nD (eV i):=λ_ _ _ _ a ⟨v,e,z⟩=>⟨v,e,a _ _ z⟩
def mo_c : nD (tC v):=λ_ _ _ _ a z=>a _ _ z
def aY{c b:TE}(d:Xs r)(g:nD c)(f:nD b):nD (tOp r c b):=λa _ _ _ e z=>g a _ _ _ (λ_ _ z=>f a _ _ _ (λ_ _ z=>d _ _ _ _ _ e z) z) z
def Zo{g:Int->Int->V} : Xs (rI0 g):=λ_ _ _ _ _ a ⟨i,j,c,b,z⟩=>⟨i,j,c,b,a _ _ z⟩
def kZ{t:TE}(h:nD t):cw (ZV t):=λa _ _ _ b z=>h a _ _ _ (λ_ _ ⟨k,e,z⟩=>⟨k,e,b _ _ z⟩) z
def Ys(h:cw t)(d:cw u):cw (tAnd t u):=λa _ _ _ c z=>h a _ _ _ (λb _ z=>by
 cases b with
 | true=>rwa[d a _ _ _ c z]
 | false=>rwa[c _ _ z]) z
def bu:dI dM:=λ_ _ _ _ a z=>a _ _ z
def gW{b:TE}(h:nD b)(e:dI c):dI (lG b c):=λa _ _ _ d z=>h a _ _ _ (λ_ _ z=>e a _ _ _ (λ_ _ z=>d _ _ z) z) z
def Xx{r:List V->Hp->VK->Prop}(b:Yr r)(h:dI t):nD (tCB r t):=λa _ _ _ c z=>h a _ _ _ (λ_ _ z=>b _ _ _ _ c z) z
def bA{K:ac} : Yr (λb H Q=>E2 λp a=>A3 (b=[.ref p]) (SqL K H p a\/SqT K H p a) (Q (.int a.length) H)):=λ_ _ _ _ c ⟨p,a,e,s,z⟩=>⟨p,a,e,s,c _ _ z⟩
def fj(ns:List Int)(lo hi:Option Int):eY (ns.map V.int) lo hi=((ns.drop (HT.sIx ns.length 0 lo)).take (HT.sIx ns.length ns.length hi-HT.sIx ns.length 0 lo)).map V.int:=by
 unfold eY;rw[c5,List.map_take,List.map_drop]
end L2

namespace L2
def Xw{b a:List Int}(g:xD (b.map V.int) d)(f:xD (a.map V.int) c):∀ j (h1:j<d.toArray.size) (h2:j<c.toArray.size),
  FU A s d.toArray[j] c.toArray[j] (decide (b[j]?=a[j]?)):=λj h1 h2=>by
 have p:=g.length;have o:=f.length;rw[c5] at p o;have y:j<d.length:=by simpa using h1
 have v:j<c.length:=by simpa using h2
 have m:j<b.length:=by lia
 have l:j<a.length:=by lia
 obtain⟨u,r,t,ru⟩:=g.get (i:=j) (x:=.int b[j]) (by rw[i3,e7 m]; rfl);obtain⟨w,q,n,e⟩:=f.get (i:=j) (x:=.int a[j]) (by rw[i3,e7 l]; rfl);have D:d.toArray[j]=.int b[j] t:=by
  have z:=e7 y;rw[r] at z;rw[Ec,<- o0 z,ru]
 have C:c.toArray[j]=.int a[j] n:=by
  have z:=e7 v;rw[q] at z;rw[Ec,<- o0 z,e]
 rw[D,C];have B:decide (b[j]?=a[j]?)=(b[j] == a[j]):=by
  rw[e7 m,e7 l];by_cases h:b[j]=a[j]
  ·rw[h]; simp
  ·rw[y7 (λz=>h (o0 z))];exact(y9.mpr h).symm
 rw[B];rwa[EF _ _ _ _]
def aF{a b:List Int} : ((Am (min a.length b.length)).all (λj=>decide (a[j]?=b[j]?))&&a.length == b.length)=decide (a=b):=by
 by_cases h:a=b
 ·subst h;rw[y6 rfl,i8];rwa[t7.mpr λj _=>y6 rfl,by simp]
 ·rw[y7 h,Bool.and_eq_false_iff];by_cases c:a.length=b.length
  ·left;rw[Da];intro z;apply h;rw[t7] at z;erw[List.ext_getElem? λj=>?_];by_cases d:j<a.length
   ·rwa[of_decide_eq_true (z j (BH.mpr (by lia)))]
   ·rw[Ci (by lia),Ci (by lia)]
  ·right;rwa[y9.mpr c]
section
variable{X:Cx}
def rEqT(K:ac)(neg:Bool):R2:=λx y H Q=>E4 λ(a b:b6) (d c:List Int)=>A5 (x=.ref a) (y=.ref b) (SqT K H a (d.map V.int)) (SqT K H b (c.map V.int)) (Q (.bl (if neg then !decide (d=c) else decide (d=c))) H)
def bg(r:X.A.units<cLine):OpR X (compareOp .Eq) (rEqT X.K G4):=by
 intro w s t H x y v u Q I p o h;obtain⟨a,b,d,c,rfl,rfl,h1,h2,q⟩:=h;cases p;cases o;obtain⟨n,g,p1,_⟩:=I.tuple h1;obtain⟨m,f,p2,_⟩:=I.tuple h2;refine SeqAt.eq_tupleAt (e:=λj=>decide (d[j]?=c[j]?)) (show s.heap.IsTuple a n.toArray from p1) (show s.heap.IsTuple b m.toArray from p2) r (Xw g f) ?_;have l:=g.length;have i:=f.length;rw[c5] at l i;rw[d9,d9,<- l,<- i,aF];rwa[.bl (decide (d=c)),H,I,U,q]
end
def ee{rows:List Int}{P:Int->Prop}(bd:∀ x∈rows,P x){k:Int}(b:0<=k)(a:k<rows.length):∃ v:Int,atI (rows.map V.int) k=G0 (.int v)/\P v:=by
 have hk:k.toNat<rows.length:=by lia
 erw[rows[k.toNat],?_,bd _ (Dm hk)];have q:atI (rows.map V.int) ((k.toNat:Nat):Int)=G0 (.int rows[k.toNat]):=pW (by rw[i3,e7 hk] <;> rfl);rw[show((k.toNat:Nat):Int)=k from by lia] at q;rwa[q]
end L2

namespace L2
end L2

namespace L2
end L2

namespace L2
def gG:∀{b:List b6}{c:List b7},xD (b.map V.ref) c->c=b.map e8
 | [],_,r=>by cases r; rfl
 | a::b,_,r=>by
  cases r with
  | cons e d =>
   cases e;rw[gG d];rfl
section
variable{X:Cx}
def ly(n:Nat):(Am n).all (λ_=>G3)=true:=t7.mpr λ_ _=>rfl
end
def Same.putNew{H a:Hp}(s:Same H a)(h:H D=G2):Same H (upd a D o):=λb u q=>by
 rw[zL (zM q h)];rwa[s _ _ q]
abbrev Pr:=b6×Int×Int
abbrev vN(a:List Pr):List V:=(a.map (·.1)).map V.ref
def Zb(H:Hp)(M:Nat)(a:List Pr):Prop:=∀ t∈a,H t.1=G0 (.tup [.int t.2.1,.int t.2.2])/\t.2.1.natAbs<=M/\t.2.2.natAbs<=M
def Zb.same{H c:Hp}{M:Nat}(h:Zb H M a)(s:Same H c):Zb c M a:=λt b=>⟨s _ _ (h t b).1,(h t b).2⟩
def xY(a:List Pr):(vN a).length=a.length:=by simp[vN]
def uf{ps:List Pr}{i:Nat}{k:Int}(e:k=i)(h:i<ps.length):∃ t,t∈ps/\ps[i]?=G0 t/\atI (vN ps) k=G0 (.ref t.1):=by
 erw[ps[i],Dm h,e7 h,?_];rw[e];rwa[pW (by rw[i3,i3,e7 h] <;> rfl)]
end L2

namespace L2
def crs(p q r:Int×Int):Int:=(q.1-p.1)*(r.2-p.2)-(q.2-p.2)*(r.1-p.1)
def ptA(a:List (b6×Int×Int))(i:Nat):Int×Int:=((a[i]?).map (·.2)).getD (0,0)
def hR{a:List (b6×Int×Int)}{i:Nat}(h:a[i]?=G0 t):ptA a i=t.2:=by
 unfold ptA;rw[h];rfl
def eK(a:List (b6×Int×Int))(i k:Nat):Bool:=decide (0<crs (ptA a i) (ptA a ((i+1)%a.length)) (ptA a k))
def tK(a:List (b6×Int×Int))(i:Nat):Bool:=(Am (a.length-2)).all λj=>eK a i ((i+(2+j))%a.length)
def isB(a:List (b6×Int×Int)):Bool:=decide (3<=a.length)&&(decide (a.length<=8)&&(Am a.length).all (tK a))
end L2

namespace L2
section
variable{κ:Type}[DecidableEq κ]
def vB(a:List (κ×V))(k:κ):Option V:=(a.find? λb=>decide (b.1=k)).map (·.2)
def yt(a:List (κ×V))(k:κ)(v:V):List (κ×V) :=
 if (a.any λb=>decide (b.1=k))=G3 then a.map (λb=>if b.1=k then(b.1,v) else b) else a++[(k,v)]
def oO(a:List (κ×V))(k:κ):List (κ×V):=a.filter λb=>decide (b.1≠k)

def wH{p:κ×V}{r:List (κ×V)}{k:κ}(e:p.1=k):vB (p::r) k=G0 p.2:=by simp[vB,w9,e]
def xZ{p:κ×V}{r:List (κ×V)}{k:κ}(e:¬ p.1=k):vB (p::r) k=vB r k:=by simp[vB,w9,e]
def vj(k:κ):∀ a:List (κ×V),(a.any λb=>decide (b.1=k))=(vB a k).isSome
 | []=>rfl
 | p::r=>by
  rw[AN];by_cases e:p.1=k
  ·simp only[wH e,y6 e,Bool.true_or,Option.isSome_some]
  ·rw[xZ e,y7 e,Bool.false_or]; rwa[vj k r]
def jD(k j:κ)(y:V):∀ a:List (κ×V),vB (a.map λb=>if b.1=k then(b.1,y) else b) j=(vB a j).map λx=>if j=k then y else x
 | []=>rfl
 | p::r=>by
  have c:=jD k j y r;rw[i7];by_cases h:p.1=k
  ·rw[y4 h];by_cases e:p.1=j
   ·rw[wH (p:=(p.1,y)) e,wH e,B0,y4 (e.symm.trans h)]
   ·rw[xZ (p:=(p.1,y)) e,xZ e,c]
  ·rw[y3 h];by_cases e:p.1=j
   ·rw[wH (p:=p) e,wH e,B0,y3 (λz=>h (e.trans z))]
   ·rw[xZ (p:=p) e,xZ e,c]
def mh(k j:κ)(y:V):∀ a:List (κ×V),vB a k=G2->vB (a++[(k,y)]) j=if j=k then G0 y else vB a j
 | [],_=>by
  by_cases e:k=j
  ·rw[y4 e.symm]; rwa[wH (p:=(k,y)) e]
  ·rw[y3 (λz=>e z.symm)]; rwa[xZ (p:=(k,y)) e]
 | p::r,b=>by
  rw[Dp];have hk:¬ p.1=k:=λz=>by rw[wH z] at b; cases b
  rw[xZ hk] at b;have c:=mh k j y r b;by_cases e:p.1=j
  ·rw[wH e,wH e,y3 (λz=>hk (e.trans z))]
  ·rw[xZ e,xZ e,c]
def jm(b:List (κ×V))(k j:κ)(y:V):vB (yt b k y) j=if j=k then G0 y else vB b j:=by
 unfold yt;by_cases a:(b.any λc=>decide (c.1=k))=G3
 ·rw[y4 a,jD];rw[vj] at a;by_cases e:j=k
  ·obtain⟨x,d⟩:=g8.mp a;rw[y4 e,e,d,B0,y4 rfl]
  ·rw[y3 e];cases vB b j with
   | none=>rfl
   | some x=>rw[B0,y3 e]
 ·rw[y3 a];erw[mh k j y b ?_];rw[vj] at a;cases q:vB b k with
  | none=>rfl
  | some x=>rw[q] at a; exact(a rfl).elim
def zw(a:List (κ×V))(k:κ)(v:V):(yt a k v).length<=a.length+1:=by
 unfold yt;split
 ·rw[c5]; lia
 ·rw[d5,i6,Au]; lia
def uu.isSome_eq(r:uu o u):o.isSome=u.isSome:=by
 cases o with
 | none=>cases u with
  | none=>rfl
  | some _=>exact(show False from r).elim
 | some _=>cases u with
  | none=>exact(show False from r).elim
  | some _=>rfl
def uu.getD(r:uu o u)(rd:xN d a):xN (o.getD d) (u.getD a):=by
 cases o with
 | none=>cases u with
  | none=>rwa[rd]
  | some _=>exact(show False from r).elim
 | some _=>cases u with
  | none=>exact(show False from r).elim
  | some _=>rwa[r]

def KV.val(r:KV a vs)(k:κ):uu (vB a k) (valueAt vs k):=by
 unfold KV at r
 induction r with
 | nil=>rwa[q0]
 | @cons p q g c h t f =>
  obtain⟨h1,h2⟩:=h;by_cases e:p.1=k
  ·have d:q.1=k:=h1.symm.trans e;have b:valueAt (q::c) k=G0 q.2:=by simp[valueAt,w9,d]
   rw[wH e,b]; rwa[h2]
  ·have d:¬ q.1=k:=λz=>e (h1.trans z);have b:valueAt (q::c) k=valueAt c k:=by simp[valueAt,w9,d]
   rw[xZ e,b]; rwa[f]
def KV.any(r:KV a vs)(k:κ):(a.any λb=>decide (b.1=k))=vs.any λb=>decide (b.1=k):=by
 unfold KV at r
 induction r with
 | nil=>rfl
 | cons h t c=>rw[AN,AN,c,h.1]
def KV.repl(r:KV b vs)(k:κ)(c:xN y u) :
  KV (b.map λa=>if a.1=k then(a.1,y) else a) (vs.map λa=>if a.1=k then(a.1,u) else a):=by
 unfold KV at r ⊢
 induction r with
 | nil=>rwa[.nil]
 | @cons p q g f h t d =>
  rw[i7,i7];erw[.cons ?_ d];obtain⟨h1,h2⟩:=h;by_cases e:p.1=k
  ·rw[y4 e,y4 (h1.symm.trans e)]; rwa[h1,c]
  ·rw[y3 e,y3 (λz=>e (h1.trans z))]; rwa[h1,h2]
def KV.put(r:KV a vs)(k:κ)(b:xN y u):KV (yt a k y) (stored vs k u):=by
 unfold yt stored;rw[r.any k];by_cases e:(vs.any λc=>decide (c.1=k))=G3
 ·rw[y4 e,y4 e]; rwa[r.repl k b]
 ·rw[y3 e,y3 e]; rwa[GQ r ⟨rfl,b⟩]
def KV.drop(r:KV c vs)(k:κ):KV (oO c k) (without vs k):=by
 unfold KV at r ⊢;unfold oO without
 induction r with
 | nil=>rwa[.nil]
 | @cons p q i g h t d =>
  obtain⟨h1,h2⟩:=h;rw[Fm,Fm];by_cases e:p.1=k
  ·have a:¬ decide (p.1≠k)=true:=by simp[e]
   have b:¬ decide (q.1≠k)=true:=by simp[h1.symm.trans e]
   rw[y3 a,y3 b]; rwa[d]
  ·have f:¬ q.1=k:=λz=>e (h1.trans z);have a:decide (p.1≠k)=true:=by simp[e]
   have b:decide (q.1≠k)=true:=by simp[f]
   rw[y4 a,y4 b]; rwa[.cons ⟨h1,h2⟩ d]
def KV.length(r:KV a vs):a.length=vs.length:=Eu r
def jV(a:List (κ×V))(k:κ):(oO a k).length<=a.length:=Ax _ _
end


def pr(r:xN (kV k) u):(yN P w).is k u=true:=by
 cases k with
 | inl i=>obtain⟨t,e⟩:=(show ∃ t,u=BN i t from r); subst e; rwa[kA P w i t]
 | inr x=>obtain⟨t,e⟩:=(show ∃ t,u=AO x t from r); subst e; rwa[zz P w x t]
def nq : ∀{a:List Key}{b:List b7},xD (a.map kV) b->ItemsAre (yN P w) a b
 | [],_,r=>by rw[DD] at r; cases r; rwa[.nil]
 | k::a,_,r=>by
  rw[i7] at r;cases r with
  | cons h t=>rwa[.cons (pr h) (nq t)]

abbrev KT(H:Hp):List (List Key×V)->List (List Key×b6×b7)->Prop:=Fc λp q=>p.1=q.1/\H q.2.1=G0 (.tup (p.1.map kV))/\xN p.2 q.2.2
def KT.val{H:Hp}(r:KT H a f)(k:List Key):uu (vB a k) ((atKey f k).map (·.2)):=by
 induction r with
 | nil=>rwa[q0]
 | @cons p q i c h t g =>
  obtain⟨h1,_,h2⟩:=h;by_cases e:p.1=k
  ·have d:q.1=k:=h1.symm.trans e;have b:atKey (q::c) k=G0 q.2:=by simp[atKey,w9,d]
   rw[wH e,b]; rwa[h2]
  ·have d:¬ q.1=k:=λz=>e (h1.trans z);have b:atKey (q::c) k=atKey c k:=by simp[atKey,w9,d]
   rw[xZ e,b]; rwa[g]
def KT.repl{H:Hp}(r:KT H a c)(k:List Key)(d:xN y u) :
  KT H (a.map λb=>if b.1=k then(b.1,y) else b) (c.map (putAt k u)):=by
 induction r with
 | nil=>rwa[.nil]
 | @cons p q i g h t f =>
  rw[i7,i7];erw[.cons ?_ f];obtain⟨h1,h2,h3⟩:=h;unfold putAt;by_cases e:p.1=k
  ·rw[y4 e,y4 (h1.symm.trans e)]; rwa[h1,h2,d]
  ·rw[y3 e,y3 (λz=>e (h1.trans z))]; rwa[h1,h2,h3]
def KT.put{H:Hp}(r:KT H a c)(k:List Key){b:b6}(g:H b=G0 (.tup (k.map kV)))(d:xN y u) :
  KT H (yt a k y) (storedH c k b u):=by
 have e:(a.any λf=>decide (f.1=k))=(atKey c k).isSome:=by
  rw[vj,(r.val k).isSome_eq,A9]
 unfold yt storedH;rw[e];by_cases q:(atKey c k).isSome=G3
 ·rw[y4 q,y4 q]; rwa[r.repl k d]
 ·rw[y3 q,y3 q]; rwa[GQ r ⟨rfl,g,d⟩]
def KT.keeps{H e:Hp}(r:KT H a d)(f:∀ b c,H b=G0 (.tup c)->e b=G0 (.tup c)):KT e a d :=
 Paired.mapP r λ_ _ z=>⟨z.1,f _ _ z.2.1,z.2.2⟩

section
variable{P:e9}{w:i5}{H:Hp}{h:j3}{a:b6}
def Ym(ok:HOk P w H h)(e:Rd H a u):yU P w H h a u:=e.ok ok
def lA(ok:HOk P w H h)(e:Rd H a (.dK b)):b.length<=sizeLine/\(a == sysModules)=G4/\∃ c,KV b c/\h.DictOf (yN P w) a c :=
 show yU P w H h a (.dK b) from Ym ok e
def dE(ok:HOk P w H h)(e:H a=G0 (.dK b)):b.length<=sizeLine/\(a == sysModules)=G4/\∃ c,KV b c/\h.DictOf (yN P w) a c:=lA ok (.inl e)
def mP{b:List Key}(ok:HOk P w H h)(e:H a=G0 (.tup (b.map kV))):(tupleKind (yN P w)).is h b a:=by
 obtain⟨_,c,r,o,h1,h2,n,h3⟩:=(show yU P w H h a (.tup (b.map kV)) from ok a _ e);exact⟨o,c.toArray,n,h1,h2,h3,by simpa using nq r⟩
def iu(ok:HOk P w H h)(e:Rd H a (.dT b)):b.length<=sizeLine/\(a == sysModules)=G4 /\
  ∃ d,KT H b d/\h.DictOfH (tupleKind (yN P w)) a d:=by
 obtain⟨z,y,d,r,o,i,j,h1,h2,h3,h4,h5⟩:=(show yU P w H h a (.dT b) from Ym ok e);refine⟨z,y,d,r,o,i,j,h1,h2,h3,h4,λx c=>?_,h5⟩;have all:∀{l:List (List Key×V)}{m:List (List Key×b6×b7)},KT H l m->∀ x∈m,(tupleKind (yN P w)).is h x.1 x.2.1:=by
  intro l m q
  induction q with
  | nil=>intro x c; exact nomatch c
  | @cons p q s n f t g =>
   intro x c;rcases f9.mp c with e | c
   ·subst e;rwa[mP ok (by rw[<- f.1]; exact f.2.1)]
   ·rwa[g x c]
 rwa[all r x c]
def dt_of(ok:HOk P w H h)(e:H a=G0 (.dT b)):b.length<=sizeLine/\(a == sysModules)=G4 /\
  ∃ c,KT H b c/\h.DictOfH (tupleKind (yN P w)) a c:=iu ok (.inl e)
end

def aZ(H:Hp)(a:b6)(y:V)(r:Option V):Prop :=
 (∃ c k,Rd H a (.dK c)/\y=kV k/\r=vB c k)\/∃ c k b,Rd H a (.dT c)/\y=.ref b/\H b=G0 (.tup (k.map kV))/\r=vB c k
def bQ(H:Hp)(a:b6)(y v:V)(d:Hp):Prop :=
 (∃ c k,H a=G0 (.dK c)/\y=kV k/\c.length<sizeLine/\d=upd H a (.dK (yt c k v))) \/
 ∃ c k b,H a=G0 (.dT c)/\y=.ref b/\H b=G0 (.tup (k.map kV))/\c.length<sizeLine/\d=upd H a (.dT (yt c k v))
def bQ.k{H:Hp}{k:Key}(e:H a=G0 (.dK b))(c:b.length<sizeLine):bQ H a (kV k) v (upd H a (.dK (yt b k v))):=.inl ⟨b,k,e,rfl,c,rfl⟩
section
variable{X:Cx}{G5:List (b6×Ad)}{σ:St}{H:Hp}{s:b9}{a:b6}{y v:V}{u r:b7}{o:Option V}{A:u8}{E:b7->b9->Prop}

def Inv.big(I:Inv X G5 σ H s):sysModules<s.heap.objs.size:=by
 have h:mainGlobals<s.heap.objs.size:=(I.mod.glob.keeps I.bk).lt;rwa[AD (by decide) h]

def gc{Q:b7->b9->Prop}(B:A.units+1<cLine)(I:Inv X G5 σ H s)(g:aZ H a y (G0 v))(q:xN y u)(h:∀ d n,Inv X G5 σ H n->xN v d->Q d n) :
  wpAny (model X.prog X.w) A (getItem (.ref a) u) Q E s:=by
 rcases g with ⟨f,k,e,ey,l⟩ | ⟨f,k,b,e,ey,D,l⟩
 ·subst ey;obtain⟨z,hd,x,rel,m⟩:=lA I.hok e;obtain⟨d,i,c⟩:=uu.some_of (v:=v) (o:=valueAt x k) (by rw[l]; rwa[rel.val k]);rwa[Fo (pr q) m.mapOf i (h d _ (I.tok _) c)]
 ·subst ey;cases (show u=e8 b from q);obtain⟨z,hd,t,rel,m⟩:=iu I.hok e;obtain⟨d,i,c⟩:=uu.some_of (v:=v) (o:=(atKey t k).map (·.2)) (by rw[l]; rwa[rel.val k]);obtain⟨p,C,j⟩:=j5.mp i;erw[wpAny_getItem_heap (tupleKind_room_in1 B) (mP I.hok D) m C ?_];rw[j];rwa[h d _ (I.tok _) c]
def d_in{Q:b7->b9->Prop}(j:A.units+1<cLine)(I:Inv X G5 σ H s)(g:aZ H a y o)(i:xN y u)(h:∀ f,Inv X G5 σ H f->Q (.bool o.isSome) f) :
  wpAny (model X.prog X.w) A (compareOp .In u (.ref a)) Q E s:=by
 rcases g with ⟨c,k,e,ey,l⟩ | ⟨c,k,b,e,ey,m,l⟩
 ·subst ey;obtain⟨z,hd,p,rel,d⟩:=lA I.hok e;erw[wpAny_in_of (pr i) hd d.mapOf ?_];rw[<- (rel.val k).isSome_eq,<- l];rwa[h _ (I.tok _)]
 ·subst ey;cases (show u=e8 b from i);obtain⟨z,hd,n,rel,d⟩:=iu I.hok e;erw[wpAny_in_heap (tupleKind_room_in1 j) (mP I.hok m) hd d ?_];have q:=(rel.val k).isSome_eq;rw[A9] at q;rw[<- q,<- l];rwa[h _ (I.tok _)]
def Zr{Q:b7->b9->Prop}(j:A.units+1<cLine)(I:Inv X G5 σ H s)(g:aZ H a y o)(i:xN y u)(h:∀ f,Inv X G5 σ H f->Q (.bool (!o.isSome)) f) :
  wpAny (model X.prog X.w) A (compareOp .NotIn u (.ref a)) Q E s:=by
 rcases g with ⟨c,k,e,ey,l⟩ | ⟨c,k,b,e,ey,m,l⟩
 ·subst ey;obtain⟨z,hd,p,rel,d⟩:=lA I.hok e;erw[wpAny_notIn_of (pr i) hd d.mapOf ?_];rw[<- (rel.val k).isSome_eq,<- l];rwa[h _ (I.tok _)]
 ·subst ey;cases (show u=e8 b from i);obtain⟨z,hd,n,rel,d⟩:=iu I.hok e;erw[wpAny_notIn_heap (tupleKind_room_in1 j) (mP I.hok m) hd d ?_];have q:=(rel.val k).isSome_eq;rw[A9] at q;rw[<- q,<- l];rwa[h _ (I.tok _)]
def su{d:Nat}(I:Inv X G5 σ H s)(f:Mut (H a))(g:AC a s.heap c)(h:∃ q,c.get? a=G0 q)(new:yU X.prog X.w (upd H a ob) c a ob) :
  Inv X G5 σ (upd H a ob) { s with heap:=c,toks:=d } :=
 I.write (x:=a) (e:=a) f (.inl rfl) (λb q i z=>(g.2 b i).trans z) h new
def nZ{f:Hp}{d:j3}{b:List (Key×V)}(z:b.length<=sizeLine)(hd:(a == sysModules)=G4)(rel:KV b c)(e:d.DictOf (yN P w) a c) :
  yU P w f d a (.dK b):=⟨z,hd,c,rel,e⟩
def gQ{L:Hp}{Q:Unit->b9->Prop}(O:A.units+1<cLine)(I:Inv X G5 σ H s)(g:bQ H a y v L)(B:xN y u)(C:xN v r)(h:∀ x,Inv X G5 σ L x->Q () x) :
  wpAny (model X.prog X.w) A (setItem (.ref a) u r) Q E s:=by
 rcases g with ⟨d,k,e,ey,l,p⟩ | ⟨d,k,b,e,ey,J,l,p⟩
 ·subst ey p;obtain⟨z,hd,N,rel,t⟩:=dE I.hok e;have j:N.length<=sizeLine:=by rw[<- rel.length]; rwa[z]
  have n:(yt d k v).length<=sizeLine:=by have:=zw d k v; lia
  erw[wpAny_setItem_pairs (hsz:=j) (pr B) t λD f m=>h _ ?_];have P:∃ q,D.get? a=G0 q:=let ⟨q,_,_,i,_⟩:=f;⟨q,i⟩;rwa[su I (by rw[e]; exact q0) m P (nZ n hd (rel.put k C) f)]
 ·subst ey p;cases (show u=e8 b from B);obtain⟨z,hd,M,rel,t⟩:=dt_of I.hok e;have j:M.length<=sizeLine:=by rw[<- Eu rel]; rwa[z]
  have n:(yt d k v).length<=sizeLine:=by have:=zw d k v; lia
  erw[wpAny_setItem_heap (hsz:=j) (tupleKind_room_in1 O) (mP I.hok J) t λD f m=>h _ ?_];obtain⟨q,R,S,i,h2,h3,h4,_,h5⟩:=f;erw[su I (by rw[e]; rwa[q0]) m ⟨q,i⟩ ⟨n,hd,_,(rel.put k J C).keeps λc T G=>?_,q,R,S,i,h2,h3,h4,h5⟩];rw[zL (ow G e (λz=>nomatch z))];rwa[G]
end

section
variable{X:Cx}{G5:List (b6×Ad)}{σ:St}{H:Hp}{s:b9}{a:b6}{kvs:List (Key×V)}{k:Key}{u:b7}{A:u8}{E:b7->b9->Prop}
def YD{Q:Unit->b9->Prop}(I:Inv X G5 σ H s)(e:H a=G0 (.dK kvs))(g:xN (kV k) u)(l:(vB kvs k).isSome=G3)(h:∀ d,Inv X G5 σ (upd H a (.dK (oO kvs k))) d->Q () d) :
  wpAny (model X.prog X.w) A (delItem (.ref a) u) Q E s:=by
 obtain⟨z,hd,f,rel,c⟩:=dE I.hok e;refine wpAny_delItem_slot c.typeIs (by decide) C2
  (call_meetsIn C2 c.typeIs PySem.F.entry_dict_delitem (PySem.F.args_dict_delitem_2 _ _) (meets_dict_delitem_pairs (yN X.prog X.w) a (pr g)) ⟨f,c,by rw[<- rel.length]; exact z,by rw[<- (rel.val k).isSome_eq]; exact l,λm b i=>h _ ?_⟩)
 have j:∃ q,m.get? a=G0 q:=let ⟨q,_,_,hq,_⟩:=b;⟨q,hq⟩;rwa[su I (by rw[e]; exact q0) i j (nZ (g9 (jV kvs k) z) hd (rel.drop k) b)]
def d_pop{b:List b7}{Q:b7->b9->Prop}(I:Inv X G5 σ H s)(e:H a=G0 (.dK kvs))(f:xN (kV k) u)(l:vB kvs k=G0 v)(n:b=[]\/∃ x,b=[x])
  (h:∀ c m,Inv X G5 σ (upd H a (.dK (oO kvs k))) m->xN v c->Q c m):wpAny (model X.prog X.w) A (call (.builtin "dict.pop") (.ref a::u::b)) Q E s:=by
 obtain⟨z,hd,j,rel,p⟩:=dE I.hok e;obtain⟨c,r,g⟩:=uu.some_of (v:=v) (o:=valueAt j k) (by rw[<- l]; exact rel.val k);have B:(keyPart u).isSome=true:=by
  cases k with
  | inl i=>obtain⟨t,q⟩:=(show ∃ t,u=BN i t from f); subst q; rfl
  | inr x=>obtain⟨t,q⟩:=(show ∃ t,u=AO x t from f); subst q; rfl
 have D:argsOk "dict.pop" ⟨.ref a::u::b,[]⟩:=by
  rcases n with q | ⟨x,q⟩
  ·subst q; rwa[PySem.F.args_dict_pop_2 _ _]
  ·subst q; rwa[PySem.F.args_dict_pop_3 _ _ _]
 refine call_meetsIn DZ p.typeIs PySem.F.entry_dict_pop D (meets_dict_pop_there (yN X.prog X.w) a (pr f) b n B)
  ⟨j,c,p,by rw[<- rel.length]; exact z,r,λG d y=>h c _ ?_ g⟩
 have C:∃ q,G.get? a=G0 q:=let ⟨q,_,_,hq,_⟩:=d;⟨q,hq⟩;rwa[su I (by rw[e]; exact q0) y C (nZ (g9 (jV kvs k) z) hd (rel.drop k) d)]
def d_len{Q:b7->b9->Prop}(I:Inv X G5 σ H s)(e:Rd H a (.dK kvs))(h:∀ t b,Inv X G5 σ H b->Q (.int kvs.length t) b):wpAny (model X.prog X.w) A (call (.builtin "len") [.ref a]) Q E s:=by
 obtain⟨z,hd,d,rel,c⟩:=lA I.hok e;refine call_len_dict hd c (by rw[<- rel.length]; rw[sizeLine_eq] at z; lia) ?_;rw[<- rel.length];rwa[h _ _ (I.tok _)]
end


def XI(i:o6):Prop:=∀ a b,subscripted i G4 a b=operate [a,b] (getItem a b)
def ki{E:b7->b9->Prop}{T id:String}{Q:b7->b9->Prop}
  (m:typeLookup (.type T) "__getitem__" = pure (G0 (.builtin id))) (l:XI slice)
  (h:wpAny (model prog w) A (eval value env) (λo d=>wpAny (model prog w) A (eval slice env) (λi a=>a.TypeIs o T/\wpAny (model prog w) A (getItem o i) Q E a) E d) E s) :
  wpAny (model prog w) A (eval (.Subscript value slice pos) env) Q E s:=by
 refine FQ (An h (λo d g=>An g (λi a b=>?_) λ_ _ x=>x) λ_ _ x=>x);obtain⟨j,b⟩:=b;unfold subscriptTail;refine b0 ?_;rw[getitemInPython_of_ne j.not_modules];refine b0 (FC j m ?_);have e:wpAny (model prog w) A (subscripted slice G4 o i) (λr c=>wpAny (model prog w) A (letTemporaryGo value o r >>= λ_=>pure r) Q E c) E a:=by
  rw[l o i];rwa[wpAny_operating (An b (λr c f=>b0 (wpAny_letTemporaryGo (c9 f))) λ_ _ x=>x)]
 first
  | exact c9 (b0 e)
  | exact b0 (c9 (b0 e))
  | exact b0 e

def kM{f:St}{H:Hp}(I:Inv X h f H s)(g:aZ H a y o):s.TypeIs (.ref a) "dict" := by
 rcases g with ⟨c,k,e,_,_⟩ | ⟨c,k,b,e,_,_,_⟩
 ·obtain⟨_,_,j,_,d⟩:=lA I.hok e;rwa[d.typeIs]
 ·obtain⟨_,_,i,_,d⟩:=iu I.hok e;rwa[d.typeIs]
def tDGet(d ty:TE):TE:=λb H Q=>d b H λx e=>ty b e λy c=>E2 λa v=>A3 (x=.ref a) (aZ c a y (G0 v)) (Q v c)
def tDIn(ty d:TE):TE:=λb H Q=>ty b H λy e=>d b e λx c=>E2 λa o=>A3 (x=.ref a) (aZ c a y o) (Q (.bl o.isSome) c)
def aj(ty d:TE):TE:=λb H Q=>ty b H λy e=>d b e λx c=>E2 λa o=>A3 (x=.ref a) (aZ c a y o) (Q (.bl (!o.isSome)) c)
def sDPut(e ty d:TE):TS:=λD b H=>d b H λv h=>e b h λx g=>ty b g λy f=>E2 λa c=>A3 (x=.ref a) (bQ f a y v c) (D.nx b c)
section
variable{X:Cx}{o i e value:o6}{pos pos' tpos:BM}{td ty tv:TE}
def yQ(q:X.A.units+1<cLine)(t:PE X o td)(hi:PE X i ty)(r:XI i):PE X (.Subscript o i pos) (tDGet td ty):=by
 intro f s c H Q I h;erw[ki BR.lookup r (thn (t f s c H _ I h) λu j ⟨x,C,z,m,p⟩=>thn (hi f j c C _ z p) λJ G ⟨y,B,d,l,a,v,ex,g,n⟩=>?_)];subst ex;obtain rfl:u=e8 a:=m;rwa[kM d g,gc q d g l λD E w b=>⟨v,B,w,b,n⟩]
def Yy(p:X.A.units+1<cLine)(hi:PE X i ty)(q:PE X o td):PC X .In i o (tDIn ty td):=by
 intro c s b H Q I h;erw[thn (hi c s b H _ I h) λD d ⟨y,z,v,f,m⟩=>thn (q c d b z _ v m) λu C ⟨x,w,t,j,a,n,ex,g,l⟩=>?_];subst ex;obtain rfl:u=e8 a:=j;rwa[d_in p t g f λB r=>⟨.bl n.isSome,w,r,rfl,l⟩]
def yh(p:X.A.units+1<cLine)(hi:PE X i ty)(q:PE X o td):PC X .NotIn i o (aj ty td):=by
 intro c s b H Q I h;erw[thn (hi c s b H _ I h) λD d ⟨y,z,v,f,m⟩=>thn (q c d b z _ v m) λu C ⟨x,w,t,j,a,n,ex,g,l⟩=>?_];subst ex;obtain rfl:u=e8 a:=j;rwa[Zr p t g f λB r=>⟨.bl (!n.isSome),w,r,rfl,l⟩]
def oJ(w:X.A.units+1<cLine)(B:PE X o td)(hi:PE X i ty)(t:PE X value tv)(z:swapsWith value (G0 (.Subscript o i pos')) pos.line X.env=pure G4) :
  PS X (.Assign [.Subscript o i pos'] value pos) (sDPut td ty tv):=by
 intro c s b H D I h;erw[wpAny_Assign_Subscript (thn (t c s b H _ I h) λr f ⟨v,N,J,m,q⟩=>thn (B c f b N _ J q) λu d ⟨x,M,G,l,p⟩=>thn (hi c d b M _ G p) λQ P ⟨y,R,E,j,a,L,ex,g,n⟩=>?_) z];subst ex;obtain rfl:u=e8 a:=l;rwa[gQ w E g j m λO C=>⟨b,L,C,n⟩]
end


def jQ{H:Hp}(h:j3)(a:sysModules<h.objs.size):yU P w H (h.push { cls:=.type "dict",data:=.dict #[] }) h.objs.size (.dK []) :=
 ⟨j8 _,y9.mpr (Av (j4 a)),[],.nil,Heap.DictOf.new h⟩
def Xy:TE:=λ_ H Q=>∀ p,H p=G2->Q (.ref p) (upd H p (.dK []))
section
variable{X:Cx}{pos:BM}
def vb:PE X (.Dict [] [] pos) Xy:=λc s b H Q I h =>
 wpAny_Dict_empty ⟨.ref s.heap.objs.size,_,I.laid (a:=s.heap.objs.size) (o:=.dK []) (t':=s.toks) (λ_ _ q=>b8 _ q) (d8 _) (jQ s.heap I.big),rfl,h _ (I.hok.fresh (d8 _))⟩
end

def gj:List (TE×TE)->St->Hp->(List (V×V)->Hp->Prop)->Prop
 | [],_,H,Q=>Q [] H
 | (c,b)::r,a,H,Q=>c a H λx g=>b a g λy f=>gj r a f λd e=>Q ((x,y)::d) e
abbrev VV:List (V×V)->List (b7×b7)->Prop:=Fc λp q=>xN p.1 q.1/\xN p.2 q.2
def PPs(X:Cx)(pos:BM)(keys:List (Option o6))(a:List o6)(c:List (TE×TE)):Prop :=
 ∀(f:List (b6×Ad))(s:b9)(b:St)(H:Hp)(Q:List (V×V)->Hp->Prop),Inv X f b H s->gj c b H Q ->
  wpAny (model X.prog X.w) X.A (evalPairs (pairTrees keys a X.env pos)) (λg h=>∃ d e,Inv X f b e h/\VV d g/\Q d e) X.xe s
def ao : PPs X pos [] [] []:=λb s a H Q I h=>pairTrees_nil_walk ⟨[],H,I,.nil,h⟩
def xy{f e:TE}(hk:PE X k f)(r:PE X v e)(t:PPs X pos g d a) :
  PPs X pos (G0 k::g) (v::d) ((f,e)::a):=λc s b H Q I h =>
 pairTrees_cons_walk (thn (hk c s b H _ I h) λu j ⟨x,D,A,m,p⟩=>thn (r c j b D _ A p) λG i ⟨y,C,z,l,o⟩ =>
  thn (t c i b C _ z o) λE J ⟨q,B,w,rel,n⟩=>⟨(x,y)::q,B,w,.cons ⟨m,l⟩ rel,n⟩)

def pA(b a:List (Key×V)):List (Key×V):=a.foldl (λc d=>yt c d.1 d.2) b
def KV.merge:∀{a:List (Key×V)}{c:List (Key×b7)}{b:List (Key×V)}{vs:List (Key×b7)},KV a c->KV b vs->KV (pA b a) (merged vs c):=by
 intro a c b vs r;unfold KV at r
 induction r generalizing b vs with
 | nil=>intro q; rwa[q]
 | @cons p q i g h t f =>
  intro d;have e:KV (yt b p.1 p.2) (stored vs q.1 q.2):=by
   have:=d.put p.1 h.2;rw[<- h.1]; rwa[this]
  rwa[f e]
def yo:∀(b a:List (Key×V)),(pA a b).length<=a.length+b.length
 | [],a=>by show a.length<=a.length+0; lia
 | p::r,a=>by
  have h1:=yo r (yt a p.1 p.2);have h2:=zw a p.1 p.2;show(pA (yt a p.1 p.2) r).length<=_;rw[i6]; lia
def pL : ∀{d:List (Key×V)}{f:List (b7×b7)},VV (d.map λg=>(kV g.1,g.2)) f->∃ e,Carries (yN P w) f e/\KV d e
 | [],_,r=>by rw[DD] at r; cases r; rwa[[],q0,.nil]
 | p::d,_,r=>by
  rw[i7] at r;cases r with
  | @cons a b l bs h t =>
   obtain⟨e,c,q⟩:=pL (P:=P) (w:=w) t;obtain⟨j,i⟩:=b;rwa[(p.1,i)::e,⟨pr h.1,U,c⟩,.cons ⟨U,h.2⟩ q]
def tDisp(b:List (TE×TE)):TE:=λe H Q=>∀ p,H p=G2->gj b e (upd H p (.dK [])) λf d=>d p=G0 (.dK [])/\∃ a:List (Key×V),A3 (f=a.map (λc=>(kV c.1,c.2))) (a.length<=15) (Q (.ref p) (upd d p (.dK (pA [] a))))
def Zq(h:PPs X pos keys b d)(g:keys.all (·.isSome)=G3)(B:keys.length=b.length)(h0:keys≠[])
  (j:keys.length<=15):PE X (.Dict keys b pos) (tDisp d):=by
 intro J s n H Q I q;have A:=I.hok.fresh (d8 s.heap.objs.size);have G:=I.laid (a:=s.heap.objs.size) (o:=.dK []) (h':=s.heap.push { cls:=.type "dict",data:=.dict #[] }) (t':=s.toks) (λ_ _ q=>b8 _ q) (d8 _) (jQ s.heap I.big);refine wpAny_Dict_walk (knd:=yN X.prog X.w) g B h0 j (thn (h J _ n _ _ G (q _ A)) λL M ⟨N,O,m,rel,e,f,D,lk,v⟩=>?_);subst D;obtain⟨r,c,t⟩:=pL (P:=X.prog) (w:=X.w) rel;obtain⟨z,hd,p,u,E⟩:=dE m.hok e;cases u;refine⟨r,c,E,λl i y=>⟨.ref s.heap.objs.size,_,?_,U,v⟩⟩;have x:(pA [] f).length<=sizeLine:=by
  have h1:=yo f [];rw[Au] at h1;rw[sizeLine_eq]; lia
 have C:∃ q,l.get? s.heap.objs.size=G0 q:=let ⟨q,_,_,hq,_⟩:=i;⟨q,hq⟩;rwa[su m (by rw[e]; exact q0) y C (nZ x hd (t.merge .nil) i)]



end L2

namespace Sea
abbrev Sd:=b6×Int×Int×Int
abbrev bX(a:List Sd):List V:=(a.map (·.1)).map V.ref
def SdOk(H:Hp)(a:List Sd):Prop:=∀ t∈a,H t.1=G0 (.tup [.int t.2.1,.int t.2.2.1,.int t.2.2.2])/\(t.2.1≠0\/t.2.2.1≠0)/\t.2.1.natAbs<=10^9/\t.2.2.1.natAbs<=10^9/\t.2.2.2.natAbs<=10^13
def am(a:List Sd)(x y:Int):Bool:=a.all λt=>decide (t.2.1*x+t.2.2.1*y<=0)
def WK(a:List Sd)(n:Nat)(k:List Int):Prop:=∃ j t,j<n/\a[j]?=G0 t/\((k=iU [-t.2.2.1,t.2.1]/\am a (-t.2.2.1) t.2.1=G3)\/(k=iU [t.2.2.1,-t.2.1]/\am a t.2.2.1 (-t.2.1)=G3))
def cL{x y g:Int}(a:0<g):am ss (x*g) (y*g)=am ss x y:=by
 unfold am
 congr 1
 funext t
 erw[decide_eq_decide.mpr ?_];have e:t.2.1*(x*g)+t.2.2.1*(y*g)=(t.2.1*x+t.2.2.1*y)*g:=by rw[Int.add_mul,Bc,Bc]
 rw[e];constructor
 ·intro h;by_cases c:t.2.1*x+t.2.2.1*y<=0
  ·rwa[c]
  ·have:=Int.mul_pos (show 0<t.2.1*x+t.2.2.1*y by lia) a;lia
 ·intro h;have:=Ea (show 0<=-(t.2.1*x+t.2.2.1*y) by lia) (DE a);rw[Int.neg_mul] at this;lia
def way_low{x y:Int}(e:0<sS [x,y]):am a (x/(sS [x,y]:Int)) (y/(sS [x,y]:Int))=am a x y:=by
 have b:(0:Int)<(sS [x,y]:Int):=by lia
 have d:=sK (ns:=[x,y]) (n:=x) (by simp);have c:=sK (ns:=[x,y]) (n:=y) (by simp);have z:=cL (ss:=a) (x:=x/(sS [x,y]:Int)) (y:=y/(sS [x,y]:Int)) b;rw[d,c] at z;rwa[z.symm]
def keyI(ns:List Int):List Key:=ns.map Bf
structure TabK(kvs:List (List Key×V))(ks:List (List Int)):Prop where
 keys:kvs.map (·.1)=ks.map keyI
 nodup:ks.Nodup
structure WaysAt(H:Hp)(l:b6)(ss:List Sd)(us:List (b6×List Int)):Prop where
 at':H l=G0 (.lst ((us.map (·.1)).map V.ref))
 all:∀ u∈us,H u.1=G0 (.tup (u.2.map V.int))
 rises:(us.map (·.2)).Pairwise (λa b=>HT.lexLt b a=G4)
 nodup:(us.map (·.2)).Nodup
 mem:∀ k,k∈us.map (·.2)↔WK ss ss.length k
 few:us.length<=80
structure SdSt(H0:Hp)(D:b6)(ss:List Sd)(H:Hp):Prop where
 same:Same H0 H
 new:H0 D=G2
 at':H D=G0 (.lst (bX ss))
 all:SdOk H ss
end Sea

namespace Sea
def cm_l{i j:Int}(h:i.natAbs<=10^18):XM i j:=.inl ⟨by lia,by lia⟩
abbrev P3:=Int×Int×Int
def sv(t p:P3):Int:=t.1*p.1+t.2.1*p.2.1-t.2.2*p.2.2
def tn(e s:P3):Int:=e.1*s.2.1-e.2.1*s.1
structure IsSpot(l:List Int)(p:P3):Prop where
 list:l=[p.1,p.2.1,p.2.2]
 pos:0<p.2.2
 low:BO (BO p.1.natAbs p.2.1.natAbs) p.2.2.natAbs=1
def inW(a:List Sd)(p:P3):Prop:=∀ t∈a,sv t.2 p<=0
end Sea

namespace Sea
end Sea

namespace L2
open PySem PySem.Spec PyProof.Rows PySem.W
def PrAt(H:Hp)(a:List Pr):Prop:=∀ t∈a,H t.1=G0 (.tup [.int t.2.1,.int t.2.2])
end L2

namespace Sea
def dt(s g:P3):Int:=s.1*g.1+s.2.1*g.2.1
structure Bound(ss:List Sd)(g:P3):Prop where
 nz:∀ t∈ss,t.2.1≠0\/t.2.2.1≠0
 gz:g.1≠0\/g.2.1≠0
 ways:∀ t∈ss,∀ h:Int,(h=1\/h = -1)->(∀ s∈ss,tn t.2 s.2*h<=0)->tn t.2 g*h<=0
 lead:¬ ∀ s∈ss,dt s.2 g<=0
 one:∀ t∈ss,tn t.2 g=0->0<dt t.2 g->∀ P:P3,0<P.2.2->sv t.2 P=0->¬ inW ss P
end Sea

namespace L2

def Ze(a:BW)(x:c7):Bool:=a.names.any λy=>y.1 == x&&y.2 == .cell
structure OwnScope(X:Cx)(caps:List (c7×Nat))(scope:BW):Prop where
 kind:scope.kind=.function
 dis:(scope.names.all λx=>!(x.2 == .free) || !Ze scope x.1)=G3
 loc:∀ y∈scope.names,y.2=.local->scope.names.lookup y.1=G0 .local
 clos:(scope.names.all λx=>!(x.2 == .free)||(X.env.cells.lookup x.1).isSome)=G3
 cap:pR X scope caps
section
variable{X:Cx}{T:List c7}{caps:List (c7×Nat)}{scope:BW}{elt target iter:o6}{ifs:List o6}{pos cpos:BM}{wi:TI}{g:CC->TG}{tt:CC->TT}{te:CC->TE}

def rEqE(K:ac):R2:=λx y H Q=>E3 λ(a b:b6) (c:List b6)=>A5 (x=.ref a) (y=.ref b) (SqL K H a (c.map V.ref)) (SqL K H b []) (Q (.bl c.isEmpty) H)
def YN(d:X.A.units<cLine):OpR X (compareOp .Eq) (rEqE X.K):=by
 intro B s p H x y v u Q I i f h;obtain⟨a,b,c,rfl,rfl,h1,h2,q⟩:=h;cases i;cases f;obtain⟨z,m,p1,_⟩:=I.list h1;obtain⟨t,l,p2,_⟩:=I.list h2;have o:=gG m;have n:=xD.zero l;subst o n;cases c with
 | nil =>
  erw[Fp (e:=λ_=>G3) p1.isList p2.isList rfl d (λj g _=>y8 g (by simp)) X.prog X.w _ _ ?_];rwa[.bl G3,H,I,U,q]
 | cons r c =>
  erw[Di p1.isList p2.isList (by simp) d X.prog X.w _ _ ?_];rwa[.bl G4,H,I,U,q]
end
end L2

namespace Sea
def awB(N:Nat):List (Int×Int)->Int->Bool
 | [],_=>G3
 | c::b,a=>if a<=c.1/\c.1<N/\1<=c.2 then awB N b (c.1+1) else G4
def YK(a:List Sd)(f:Sd->Int)(n:Int):Int:=match a[n.toNat]? with
 | some t=>f t
 | none=>0
def aC(a:List Sd)(f:Sd->Int):List (Int×Int)->Int->Int
 | [],T=>T
 | c::b,T=>aC a f b (T+c.2*YK a f c.1)
def fAt(k:Int)(t:Sd):Int:=if k=0 then t.2.1 else if k=1 then t.2.2.1 else t.2.2.2
structure PrSt(H0:Hp)(D:b6)(cs:List Pr)(H:Hp):Prop where
 same:Same H0 H
 new:H0 D=G2
 at':H D=G0 (.lst (vN cs))
 all:PrAt H cs
end Sea

namespace Sea
def Zf(n:Nat)(a:List (Int×Int)):List (Int×Int):=a.filter λc=>decide (c.1<(n:Int))
structure Apart(ss es:List Sd)(cs:List (Int×Int)):Prop where
 out:∀ v:P3,0<v.2.2->inW es v->aC ss (fAt 2) (Zf ss.length cs) 0*v.2.2<aC ss (fAt 0) (Zf ss.length cs) 0*v.1+aC ss (fAt 1) (Zf ss.length cs) 0*v.2.1
 ins:∀ v:P3,inW ss v->aC ss (fAt 0) (Zf ss.length cs) 0*v.1+aC ss (fAt 1) (Zf ss.length cs) 0*v.2.1<=aC ss (fAt 2) (Zf ss.length cs) 0*v.2.2
 few:(∃ z:P3,0<z.2.2/\inW ss z)->(Zf ss.length cs).length<=2
end Sea

namespace Sea
structure PIb(t:TE)(σ:St)(i:Int)(n:Nat):Prop where
 rd:∀(H:Hp)(Q:VK),Q (.int i) H->t σ H Q
 le:i.natAbs<=n
abbrev ZP(a:List (b6×List Pr)):List V:=(a.map (·.1)).map V.ref
structure Leads(G:Hp)(lo:b6)(M:Nat)(xs:List (b6×List Pr)):Prop where
 at':G lo=G0 (.lst (ZP xs))
 all:∀ u∈xs,u.1≠lo/\G u.1=G0 (.lst (vN u.2))/\Zb G M u.2
end Sea

namespace Sea
end Sea

namespace L2
inductive Deep(K:ac)(H:Hp):Nat->V->V->Bool->Prop where
 | same (n:Nat) (a:b6):Deep K H n (.ref a) (.ref a) G3
 | int (n:Nat) (i j:Int):Deep K H n (.int i) (.int j) (i == j)
 | str (n:Nat) (i j:c7):Deep K H n (.str i) (.str j) (i == j)
 | lst {n:Nat} {a b:b6} {xs ys:List V} {e:Nat->Bool} (ne:a≠b) (ha:SqL K H a xs) (hb:SqL K H b ys) (hl:xs.length=ys.length) (he:∀(j:Nat)(h1:j<xs.length)(h2:j<ys.length),Deep K H n xs[j] ys[j] (e j)):Deep K H (n+1) (.ref a) (.ref b) ((Am xs.length).all e)
 | lstN {n:Nat} {a b:b6} {xs ys:List V} (ne:a≠b) (ha:SqL K H a xs) (hb:SqL K H b ys) (hl:xs.length≠ys.length):Deep K H (n+1) (.ref a) (.ref b) G4
 | tup {n:Nat} {a b:b6} {xs ys:List V} {e:Nat->Bool} (ne:a≠b) (ha:SqT K H a xs) (hb:SqT K H b ys) (he:∀(j:Nat)(h1:j<xs.length)(h2:j<ys.length),Deep K H n xs[j] ys[j] (e j)):Deep K H (n+1) (.ref a) (.ref b) ((Am (min xs.length ys.length)).all e&&xs.length == ys.length)
 | tl {n:Nat} {a b:b6} {xs ys:List V} (ne:a≠b) (ha:SqT K H a xs) (hb:SqL K H b ys):Deep K H (n+1) (.ref a) (.ref b) G4
section
variable{X:Cx}{G5:List (b6×Ad)}{σ:St}{H:Hp}{s:b9}
def xD.at(r:xD a b){j:Nat}(h1:j<a.length)(h2:j<b.length):xN a[j] b[j]:=by
 obtain⟨u,e,ru⟩:=r.get (e7 h1);rw[e7 h2] at e;cases e;rwa[ru]
def Deep.at(I:Inv X G5 σ H s){n:Nat}(d:Deep X.K H n x y r):∀{A:u8}{u v:b7},A.units+n<cLine->xN x u->xN y v->FU A s u v r/\(u≠v->(∃ a,x=.ref a)->SeqAt.RcAt A s u v r):=by
 induction d with
 | same n a =>
  intro A u v w c b;cases c;cases b;rwa[SeqAt.EqAt.same _,λh=>y8 rfl h]
 | int n i j =>
  intro A u v w c b;obtain⟨t,rfl⟩:=c;obtain⟨G,rfl⟩:=b;exact⟨EF _ _ _ _,λ_ ⟨a,e⟩=>nomatch e⟩
 | str n i j =>
  intro A u v w c b;obtain⟨t,rfl⟩:=c;obtain⟨G,rfl⟩:=b;exact⟨EG _ _ _ _,λ_ ⟨a,e⟩=>nomatch e⟩
 | lst ne p o J L E =>
  intro A u v w c b;cases c;cases b;obtain⟨B,g,m,_⟩:=I.list p;obtain⟨D,f,l,_⟩:=I.list o;have q:=g.length;have C:=f.length;have z:=Fp (A:=A) (s:=s) m.isList l.isList (by rw[d9,d9]; lia) (by lia) (λj h1 h2=>(E j (by simpa [q] using h1) (by simpa [C] using h2) (A:=A.in1) (show A.units+1+_<cLine by lia) (g.at _ (by simpa using h1)) (f.at _ (by simpa using h2))).1);rw[d9,<- q] at z;rwa[B3 ne z,λ_ _=>z]
 | lstN ne p o J =>
  intro A u v w c b;cases c;cases b;obtain⟨B,g,m,_⟩:=I.list p;obtain⟨D,f,l,_⟩:=I.list o;have q:=g.length;have C:=f.length;have z:=Di (A:=A) (s:=s) m.isList l.isList (by rw[d9,d9,bne_iff_ne]; lia) (by lia);rwa[B3 ne z,λ_ _=>z]
 | tup ne p o L E =>
  intro A u v w c b;cases c;cases b;obtain⟨B,g,m,_⟩:=I.tuple p;obtain⟨D,f,l,_⟩:=I.tuple o;have q:=g.length;have C:=f.length;have z:=SeqAt.RcAt.tuples (A:=A) (s:=s) (show s.heap.IsTuple _ B.toArray from m) (show s.heap.IsTuple _ D.toArray from l) (by lia) (λj h1 h2=>(E j (by simpa [q] using h1) (by simpa [C] using h2) (A:=A.in1) (show A.units+1+_<cLine by lia) (g.at _ (by simpa using h1)) (f.at _ (by simpa using h2))).1);rw[d9,d9,<- q,<- C] at z;rwa[B3 ne z,λ_ _=>z]
 | tl ne p o =>
  intro A u v w c b;cases c;cases b;obtain⟨B,g,m,_⟩:=I.tuple p;obtain⟨D,f,l,_⟩:=I.list o;have z:=SeqAt.RcAt.tuple_list (A:=A) (s:=s) (show s.heap.IsTuple _ B.toArray from m) l.isList (by lia);rwa[B3 ne z,λ_ _=>z]
def rEqD(K:ac):R2:=λx y H Q=>E3 λ(a b:b6) (r:Bool)=>A5 (x=.ref a) (y=.ref b) (a≠b) (Deep K H 8 (.ref a) (.ref b) r) (Q (.bl r) H)
def ZG(g:X.A.units+64<cLine):OpR X (compareOp .Eq) (rEqD X.K):=by
 intro G5 s σ H x y v u Q I f c h;obtain⟨a,b,r,rfl,rfl,ne,d,q⟩:=h;cases f;cases c;refine(Deep.at I d (A:=X.A) (by lia) rfl rfl).2 (λe=>ne (by injection e)) ⟨a,rfl⟩ X.prog X.w _ _ ?_;rwa[.bl r,H,I,U,q]
end
end L2

namespace L2
def sz0:0<=sizeLine:=by decide
def sz1:1<=sizeLine:=by decide
def sz2:2<=sizeLine:=by decide
def sz3:3<=sizeLine:=by decide
section
variable{X:Cx}{x:c7}{p pos:BM}{a b e c:o6}{es:List o6}{t:TA}{te ta tb:TE}{id T:String}{r:List V->Hp->VK->Prop}{n:Nat}{ps:List c7}{sp:Sp}
def Xr(h:starEach (e::es) X.env=(G4,eval e X.env)::starEach es X.env)(f:PE X e te)(d:PA X es t):PA X (e::es) (lG te t):=zA f d h
def ZK(h:PE X (.Name x pos) te):PE X (.Name x pos) te:=h
def m_sub(h:PE X (.Subscript a b pos) te):PE X (.Subscript a b pos) te:=h
def Yw(h:PE X (.Call (.Name x p) (e::es) [] pos) te):PE X (.Call (.Name x p) (e::es) [] pos) te:=h
def m_bin(h:PE X (.BinOp a d b pos) te):PE X (.BinOp a d b pos) te:=h
def m_cmp{d:FN}(h:PE X (.Compare a [d] [b] pos) te):PE X (.Compare a [d] [b] pos) te:=h
def Yz{f:FN}(h:PT X (.Compare a [f] [b] pos) d):PT X (.Compare a [f] [b] pos) d:=h
def aw(h:PW X (.BoolOp f es pos) d):PT X (.BoolOp f es pos) d:=h.pt
def m_val{f:TE}(g:∀ d,isTrue e X.env d=(do let v <- d; standAt e.pos; holding [v] (truthy v)))(h:PE X e f):PT X e (tB f):=qP h g
def m_ix(d:gC b)(g:PE X a ta)(f:PE X b tb):PE X (.Subscript a b pos) (tOp (rIxA X.K) ta tb):=cI bL g f d
def ZE(x:c7)(h:PE X (.Name x pos) te):PE X (.Name x pos) te:=h
def cA(m:sV X (.builtin id) r)(g:bootBuiltins x=G0 (.builtin id))(i:X.mg x=G2)(j:Gl X x)(h:x ≠ "__name__")(f:(x ==("__debug__" : c7))=G4)
  (l:starEach (e::es) X.env=(G4,eval e X.env)::starEach es X.env) (d:(backTo pos (starEach es X.env)).any (·.1)=G4) (o:PA X (e::es) t):PE X (.Call (.Name x p) (e::es) [] pos) (tCB r t):=zR m j i g o h f l d
def ZC(m:sV X (.type T) r)(g:bootBuiltins x=G0 (.type T))(i:X.mg x=G2)(j:Gl X x)(h:x ≠ "__name__")(f:(x ==("__debug__" : c7))=G4)
  (l:starEach (e::es) X.env=(G4,eval e X.env)::starEach es X.env) (d:(backTo pos (starEach es X.env)).any (·.1)=G4) (o:PA X (e::es) t):PE X (.Call (.Name x p) (e::es) [] pos) (tCB r t):=tW m j i g o h f l d
def m_own{K:ac}{mg:c7->Option b7}(h:Has P w K mg B x n ps sp)(m:X.prog=P/\X.w=w/\X.K=K/\X.mg=mg/\X.base=B)(g:tS n X.A)(i:Gl X x)(f:(x ==("__debug__" : c7))=G4)
  (j:starEach (e::es) X.env=(G4,eval e X.env)::starEach es X.env) (d:(backTo pos (starEach es X.env)).any (·.1)=G4) (l:PA X (e::es) t):PE X (.Call (.Name x p) (e::es) [] pos) (iM sp [] E0 t):=by
 obtain⟨rfl,rfl,rfl,rfl,rfl⟩:=m;rwa[uQ h g i l f j d]
def yT(i:Nat){te:TE}(l:X.N.Nodup)(j:PE X e te)(hi:X.N[i]?=G0 x:=by rfl)(f:Loc X.env.scope x:=by first | exact Ae rfl | exact Df rfl)(g:swapsWith e (G0 (.Name x d)) pos.line X.env=pure false:=by rfl)
  (h:X.fn x=G3\/X.env.scope.names.lookup x=G0 .local:=by first | exact .inl rfl | exact .inr rfl | assumption):PS X (.Assign [.Name x d] e pos) (XJ te (nR i)):=wP l hi f j g h
def lm(i:Nat)(g:X.N.Nodup)(hi:X.N[i]?=G0 x:=by rfl)(d:Loc X.env.scope x:=by first | exact Ae rfl | exact Df rfl)(f:X.fn x=G3\/X.env.scope.names.lookup x=G0 .local:=by first | exact .inl rfl | exact .inr rfl | assumption) :
  PG X (.Name x pos) (nR i):=zx g hi d f
def lV{to:TE}{g d:BM}(m:PE X o to)(q:PA X (e::es) t)
  (i:attributeBase o "append" X.env (eval o X.env)=eval o X.env:=by rfl)
  (j:((backTo d (starEach (e::es) X.env)).all (λx=>!x.1)&&(backToKw d (keywordEach [] X.env)).all (λx=>x.1.isSome)
   && decide ((e::es).length+([]:List C8).length+(if ([]:List C8).isEmpty then 0 else 1)<30))=true:=by rfl)
  (h:(g.endLine == d.line)=true:=by rfl) (l:starEach (e::es) X.env=(G4,eval e X.env)::starEach es X.env:=by rfl) (f:(backTo d (starEach es X.env)).any (·.1)=false:=by rfl) :
  PE X (.Call (.Attribute o "append" g) (e::es) [] d) (tBM X.K "list" hU to t):=kO B9 PySem.F.slot_list_append PySem.F.type_list_append uo m q i j h l f
end
end L2

namespace L2
def InB(B:j3)(a:ac->Prop):Prop:=∃ K:ac,K.In B/\a K
abbrev Cx.withK(X:Cx)(K:ac):Cx:={ X with K:=K }
def Mod.withK{K a:ac}{mg:c7->Option b7}(m:Mod K mg B)(h:a.In B):Mod a mg B:={ m with kin:=h }
section
variable{X:Cx}{G5:List (b6×Ad)}{σ:St}{H:Hp}{s:b9}{K:ac}
def Cx.Ok.withK(ok:X.Ok)(h:K.In X.base):(X.withK K).Ok :=
 ⟨ok.mod.withK h,ok.kind,ok.glob,ok.blt,ok.above,ok.inj,ok.has,ok.cab,ok.hd,ok.frames,ok.stk,ok.exf,ok.bs,ok.bsz,ok.noex,ok.exfs,ok.funs,ok.frf⟩
def Cx.Ok.unK(ok:(X.withK K).Ok)(h:Mod X.K X.mg X.base):X.Ok :=
 ⟨h,ok.kind,ok.glob,ok.blt,ok.above,ok.inj,ok.has,ok.cab,ok.hd,ok.frames,ok.stk,ok.exf,ok.bs,ok.bsz,ok.noex,ok.exfs,ok.funs,ok.frf⟩
def Inv.withK(I:Inv X G5 σ H s)(h:K.In X.base):Inv (X.withK K) G5 σ H s:=⟨I.ok.withK h,I.os,I.bare,I.base,I.loc,I.cell,I.free,I.freeC,I.pin,I.hok,I.len⟩
def Inv.unK(I:Inv (X.withK K) G5 σ H s)(h:Mod X.K X.mg X.base):Inv X G5 σ H s:=⟨I.ok.unK h,I.os,I.bare,I.base,I.loc,I.cell,I.free,I.freeC,I.pin,I.hok,I.len⟩
end
section
variable{X:Cx}{o e value:o6}{es:List o6}{f m:c7}{pos pos' apos:BM}{ta tv:TE}{t:TA}{C g:b6}{n:Nat}{ps:List c7}{sp:Sp}
inductive TFld(C:b6)(f:c7)(x:V)(H:Hp)(Q:VK):Prop where
 | mk (a dx:b6) (fs:List (c7×V)) (v:V) (ex:x=.ref a) (ea:H a=G0 (.ins C dx fs)) (l:fs.lookup f=G0 v) (q:Q v H)
def tFld2(C:b6)(f:c7)(ta:TE):TE:=λa H Q=>ta a H λx b=>TFld C f x b Q
def sY(j:InB X.base λK=>Cls K C/\qX K C f)(i:PE X e ta)(p:attributeBase e f X.env (eval e X.env)=eval e X.env:=by rfl):PE X (.Attribute e f pos) (tFld2 C f ta):=by
 obtain⟨K,w,c,n⟩:=j;intro B s b H Q I h;erw[gr p (thn (i B s b H _ I h) λu G ⟨x,A,z,d,a,J,fs,v,ex,r,l,q⟩=>?_)];subst ex;obtain rfl:u=e8 a:=d;rwa[io (X:=X.withK K) (z.withK w) r c n l λD E y ru=>⟨v,A,y.unK I.ok.mod,ru,q⟩]
inductive SFld(C:b6)(f:c7)(y x:V)(H:Hp)(Q:Hp->Prop):Prop where
 | mk (a dx:b6) (fs:List (c7×V)) (ex:x=.ref a) (ea:H a=G0 (.ins C dx fs)) (l:fs.length<1000) (q:Q (upd H a (.ins C dx (vf f y fs))))
def sFld2(C:b6)(f:c7)(ta tv:TE):TS:=λD a H=>tv a H λy c=>ta a c λx b=>SFld C f y x b (D.nx a)
def xv(A:InB X.base λK=>Cls K C/\qX K C f)(B:PE X o ta)(w:PE X value tv)(z:swapsWith value (G0 (.Attribute o f pos')) pos.line X.env=pure false:=by rfl):PS X (.Assign [.Attribute o f pos'] value pos) (sFld2 C f ta tv):=by
 obtain⟨K,G,c,n⟩:=A;intro d s b H D I h;erw[plainObj_wpAny_Assign_Attribute (thn (w d s b H _ I h) λu i ⟨y,N,M,j,q⟩=>thn (B d i b N _ M q) λv P ⟨x,R,L,p,a,Q,fs,ex,E,l,r⟩=>?_) z];subst ex;obtain rfl:v=e8 a:=p;rwa[iL (X:=X.withK K) (L.withK G) E c n l j λO J=>⟨b,_,J.unK I.ok.mod,r⟩]
def gZ(h:Has X.prog X.w X.K X.mg X.base x n ps sp)(c:tS n X.A)(d:Gl X x)(a:(x ==("__debug__" : c7))=false:=by decide):PE X (.Call (.Name x p) [] [] pos) (iM sp [] E0 dM):=by
 obtain⟨f,fd,F,b,k,m⟩:=h;rwa[dU F c d m k b .nil eh a]
def lO(P:e9)(w:i5)(K:ac)(mg:c7->Option b7)(base:j3)(g:b6)(n:Nat)(ps:List c7)(sp:Sp):Prop :=
 ∃ fd:w4,yV P w K mg base CX0 n g fd ps sp/\∀ a:List b7,a.length=ps.length->bindArgs fd ⟨a,[]⟩=pure (ps.zip a)
inductive TMeth(C:b6)(m:c7)(x:V)(H:Hp)(q:Prop):Prop where
 | mk (a dx:b6) (fs:List (c7×V)) (ex:x=.ref a) (ea:H a=G0 (.ins C dx fs)) (l:fs.lookup m=G2) (k:q)
def bv(C:b6)(m:c7)(sp:Sp)(ta:TE)(t:TA):TE:=λa H Q=>ta a H λx b=>TMeth C m x b (t a b λc d=>sp (x::c) d Q E0)
def dy(S:InB X.base λK=>Cls K C/\pe K C m g)(h:lO X.prog X.w X.K X.mg X.base g n ps sp)(P:tS n X.A)(R:PE X o ta)(T:PA X (e::es) t)
  (i:starEach (e::es) X.env=(G4,eval e X.env)::starEach es X.env:=by rfl) (j:(backTo pos (starEach es X.env)).any (·.1)=false:=by rfl)
  (O:eval (.Call (.Attribute o m apos) (e::es) [] pos) X.env=(do
   let B <- eval o X.env
   standAt apos.atName
   let (f,first) <- holding [B] (getMethod B m d)
   callWith pos f first (backTo pos (starEach (e::es) X.env)) (backToKw pos (keywordEach [] X.env))):=by rfl) :
  PE X (.Call (.Attribute o m apos) (e::es) [] pos) (bv C m sp ta t):=by
 obtain⟨K,p,c,D⟩:=S;obtain⟨fd,F,b⟩:=h;intro J s v H Q I h;erw[AY (pl:=d) (thn (R J s v H _ I h) λu L ⟨x,Z,G,M,a,dx,fs,ex,Y,l,q⟩=>?_) O];subst ex;obtain rfl:u=e8 a:=M;erw[qM (X:=X.withK K) (G.withK p) Y c D l ?_];erw[Ay (first:=[.ref a]) (h₀:=X.base) (K:=K) p D.kp (thn (T pos J L v Z _ G q) λz s2 ⟨y,H2,E,r,N⟩=>⟨(E.withK p).kIn,?_⟩) i j];rwa[jG (us:=.ref a::z) (vs:=.ref a::y) (dvs:=[]) (ds:=[]) F P (.all b) .nil eh E (.cons rfl r) (by rw[Al]; exact N)]
def rg(E:InB X.base λK=>Cls K C/\pe K C m g)(h:lO X.prog X.w X.K X.mg X.base g n ps sp)(B:tS n X.A)(D:PE X o ta)
  (z:eval (.Call (.Attribute o m apos) [] [] pos) X.env=(do
   let j <- eval o X.env
   standAt apos.atName
   let (f,first) <- holding [j] (getMethod j m d)
   callWith pos f first (backTo pos (starEach [] X.env)) (backToKw pos (keywordEach [] X.env))):=by rfl) :
  PE X (.Call (.Attribute o m apos) [] [] pos) (bv C m sp ta dM):=by
 obtain⟨K,r,c,p⟩:=E;obtain⟨fd,F,b⟩:=h;intro J s v H Q I h;erw[AY (pl:=d) (thn (D J s v H _ I h) λu L ⟨x,N,i,y,a,M,fs,ex,G,l,q⟩=>?_) z];subst ex;obtain rfl:u=e8 a:=y;erw[qM (X:=X.withK K) (i.withK r) G c p l ?_];rwa[BU (first:=[.ref a]) (i.withK r).kIn p.kp (jG (us:=[.ref a]) (vs:=[.ref a]) (dvs:=[]) (ds:=[]) F B (.all b) .nil eh i (.cons rfl .nil) q)]
def Yq(C:b6)(sp:Sp):TE:=λ_ H Q=>∀ x a,H x=G2->H a=G2->a≠x->sp [.ref x] (upd (upd H a (.own x)) x (.ins C a [])) (λv b=>v=.non/\Q (.ref x) b) E0
def yV.withK{K p:ac}{mg:c7->Option b7}{k:Nat}{f:b6}(F:yV P w K mg B CX0 k f fd ps sp)(h:K.In B):yV P w p mg B CX0 k f fd ps sp :=
 ⟨F.len,λA outer s H a i d Q E j c l r b=>F.run A outer s H a i d Q E j { c with mod:=c.mod.withK h } l r b⟩
def lJ(j:InB X.base λK=>Mk K C g)(h:lO X.prog X.w X.K X.mg X.base g n ps sp)(c:tS (n+1) X.A)(d:X.mg x=G0 (.ref C))(i:Gl X x:=by rfl)(a:(x ==("__debug__" : c7))=false:=by decide) :
  PE X (.Call (.Name x p) [] [] pos) (Yq C sp):=by
 obtain⟨K,l,M⟩:=j;obtain⟨fd,F,b⟩:=h;intro G s D H Q I h;erw[Ac (wF I i d ?_ a)];have J:=I.withK l;erw[BU J.kIn M.kp (An (dA (X:=X.withK K) (us:=[]) (vs:=[]) (dvs:=[]) (ds:=[]) M (F.withK I.ok.mod.kin) c (.all b) .nil eh J .nil h) (λu E ⟨v,B,y,r,q⟩=>⟨v,B,y.unK I.ok.mod,r,q⟩) λ_ _ z=>z)]
end
end L2

namespace L2
structure M1(X:Cx)(o:o6)(m:c7)(apos:BM)(e:o6)(cpos:BM):Prop where
 base:attributeBase o m X.env (eval o X.env)=eval o X.env
 few:((backTo cpos (starEach [e] X.env)).all (λx=>!x.1)&&(backToKw cpos (keywordEach [] X.env)).all (λx=>x.1.isSome)
  && decide (([e]:List o6).length+([]:List C8).length+(if ([]:List C8).isEmpty then 0 else 1)<30))=G3
 line:(apos.endLine == cpos.line)=G3
 trees:backTo cpos (starEach [e] X.env)=[(G4,eval e X.env)]
structure M2(X:Cx)(o:o6)(m:c7)(apos:BM)(e f:o6)(cpos:BM):Prop where
 base:attributeBase o m X.env (eval o X.env)=eval o X.env
 few:((backTo cpos (starEach [e,f] X.env)).all (λx=>!x.1)&&(backToKw cpos (keywordEach [] X.env)).all (λx=>x.1.isSome)
  && decide (([e,f]:List o6).length+([]:List C8).length+(if ([]:List C8).isEmpty then 0 else 1)<30))=G3
 line:(apos.endLine == cpos.line)=G3
 trees:backTo cpos (starEach [e,f] X.env)=[(G4,eval e X.env),(G4,eval f X.env)]

def IsD(H:Hp)(a:b6):Prop:=(∃ b,Rd H a (.dK b))\/∃ b,Rd H a (.dT b)
def Yt{g:St}{H:Hp}(I:Inv X h g H s)(d:IsD H a) :
  s.TypeIs (.ref a) "dict" /\ (∀ b,e8 a=.ref b->∃ ob,s.heap.get? b=G0 ob/\ob.dict=G2)/\(a == sysModules)=false:=by
 rcases d with ⟨f,e⟩ | ⟨f,e⟩
 ·obtain⟨_,hd,j,_,c⟩:=lA I.hok e;erw[c.typeIs,λb q=>?_,hd];cases q;obtain⟨ob,_,_,h1,h2,_⟩:=c;rwa[ob,h1,h2.2.1]
 ·obtain⟨_,hd,i,_,c⟩:=iu I.hok e;erw[c.typeIs,λb q=>?_,hd];cases q;obtain⟨ob,_,_,h1,h2,_⟩:=c;rwa[ob,h1,h2.2.1]


def Yi(f ty:TE):TE:=λc H Q=>f c H λx e=>∃ a,A3 (x=.ref a) (IsD e a) (ty c e λy d=>E3 λb k v=>A4 (d a=G0 (.dK b)) (y=kV k) (vB b k=G0 v) (Q v (upd d a (.dK (oO b k)))))
section
variable{X:Cx}{o e f:o6}{apos cpos:BM}{td ty tx:TE}
def cF(A:PE X o td)(B:PE X e ty)(m:M1 X o "pop" apos e cpos):PE X (.Call (.Attribute o "pop" apos) [e] [] cpos) (Yi td ty):=by
 intro i s c H Q I h;erw[Db m.base m.few m.line Dq DZ PySem.F.type_dict_pop (thn (A i s c H _ I h) λu p ⟨x,G,g,r,a,ex,d,w⟩=>?_)];subst ex;obtain rfl:u=e8 a:=r;obtain⟨n,j,_⟩:=Yt g d;exists n,j;rw[m.trees];erw[Bs rfl (A2 (CQ (thn (B i p c G _ g w) λN M ⟨y,O,E,q,z,k,v,C,ey,l,t⟩=>C7 ?_)))];subst ey;rwa[d_pop E C q l (.inl rfl) λJ L D b=>⟨v,_,D,b,t⟩]
end

section
variable{X:Cx}{G5:List (b6×Ad)}{σ:St}{H:Hp}{s:b9}{a:b6}{kvs:List (Key×V)}{A:u8}{E:b7->b9->Prop}
def cG{Q:b7->b9->Prop}(I:Inv X G5 σ H s)(e:Rd H a (.dK kvs))(h:∀ p d,H p=G2->Inv X G5 σ (upd H p (.dK kvs)) d->Q (.ref p) d):wpAny (model X.prog X.w) A (call (.type "dict") [.ref a]) Q E s:=by
 obtain⟨z,hd,j,rel,i⟩:=lA I.hok e;erw[kt_call_dict hd i (by rw[<- rel.length]; rwa[z]) λl c g=>?_];erw[h _ _ (I.hok.fresh (d8 _)) (I.laid (a:=s.heap.objs.size) (o:=.dK kvs) (t':=s.toks) (λb q f=>?_) (d8 _) (nZ z (y9.mpr (Av (j4 I.big))) rel c))];exact(g.2 b (j4 (d7 f))).trans (b8 _ f)
end


end L2


namespace L2
section
variable{X:Cx}{G5:List (b6×Ad)}{σ:St}{H:Hp}{s:b9}{d:b6}{kvs:List (Key×V)}
def Inv.freeze(I:Inv X G5 σ H s)(hd:H d=G0 (.dK kvs))(m:s.heap.get? d=G0 o):Inv X G5 σ (upd H d (.frz o (.dK kvs))) s:=by
 have ne:∀{b:b6},H b=G2->b≠d:=λ{b} n e=>by rw[e,hd] at n; cases n
 have a:∀{b:b6}{u:HO},H b=G0 u->u≠.dK kvs->upd H d (.frz o (.dK kvs)) b=G0 u:=λ{b u} e z=>by
  rw[zL (λq=>z (by rw[q,hd] at e; exact(o0 e).symm))];rwa[e]
 have f:∀{b:b6},H b=G2->upd H d (.frz o (.dK kvs)) b=none:=λ{b} n=>by rw[zL (ne n)]; rwa[n]
 have st:∀(b:b6)(u:HO),yU X.prog X.w H s.heap b u->yU X.prog X.w (upd H d (.frz o (.dK kvs))) s.heap b u:=λb u k =>
  k.stay (λc v _ q=>q) (λc q=>a q (λz=>nomatch z)) λc g q=>a q (λz=>nomatch z)
 refine⟨I.ok,I.os,I.bare,⟨I.base.keep,I.base.slot,λb u e n j=>f (I.base.free b u e n j),I.base.there,λb g e=>a (I.base.tups b g e) (λz=>nomatch z),λb u v e=>a (I.base.frzs b u v e) (λz=>nomatch z),
  λb i e=>let ⟨more,q⟩:=I.base.tbls b i e;⟨more,a q (λz=>nomatch z)⟩⟩,I.loc,I.cell,f I.free,λx c e=>f (I.freeC x c e),λp l=>?_,λb u e=>?_,I.len⟩
 ·obtain⟨h1,h2,h3⟩:=I.pin p l;rwa[h1,f h2,h3]
 ·by_cases h:b=d
  ·subst h;rw[zB] at e;cases e;rwa[m,st b _ (I.hok b _ hd)]
  ·rw[zL h] at e;rwa[st b u (I.hok b u e)]
def Inv.frzAt(I:Inv X G5 σ H s){g:Nat}(hd:H d=G0 (.frz o (.dK kvs)))(b:o.data=.dict f g) :
  ∃ a,KV kvs a/\s.heap.DictAt (yN X.prog X.w) d a g/\kvs.length<=sizeLine/\(d == sysModules)=false:=by
 obtain⟨e,z,y,a,r,l,i,j,h,c,dt,k,p,n⟩:=(show yU X.prog X.w H s.heap d (.frz o (.dK kvs)) from I.hok d _ hd);rw[e] at h;cases h;rw[b] at dt;injection dt with d1 d2
 subst d1 d2;rwa[a,r,⟨o,f,e,c,b,k,p,n⟩,z,y]
def KV.at{vs:List (Key×b7)} : ∀{kvs:List (Key×V)}{vs:List (Key×b7)}{i:Nat}{k:Key}{v:V},KV kvs vs->kvs[i]?=G0 (k,v)->∃ u,vs[i]?=G0 (k,u)/\xN v u
 | _,_,_,_,_,.nil,e=>by simp at e
 | _,_,0,k,v,.cons (a:=a) (b:=b) ⟨f,c⟩ _,e=>by
  simp at e;subst e;exact⟨b.2,by rw[show(k,b.2)=b from by rw[show k=b.1 from f]]; rfl,c⟩
 | _,_,i+1,k,v,.cons _ t,e=>KV.at (vs:=[]) (i:=i) t (by simpa using e)
def Itc(b:Hp->Prop)(a:List V):It:=⟨λi H=>b H/\i<a.length,λi H x c=>c=H/\a[i]?=G0 x,λi H=>b H/\a.length<=i⟩
abbrev cb(d:b6)(o:Ad)(kvs:List (Key×V))(H:Hp):Prop:=H d=G0 (.frz o (.dK kvs))
def hV{K:ac}{o:Ad}{p:Nat}(J:o.data=.dict R p)(a:b6) :
  bZ P w K M (Itc (cb d o kvs) (kvs.map (·.2))) [a] a (λi h=>h.IsValIter a d i kvs.length p) where
 mem:=by simp
 obj:=λi h st b j=>by
  have e:b=a:=by simpa using j
  subst e;obtain⟨o,e,c,d⟩:=st;exact⟨o,e,λv z=>by rw[d] at z; cases z⟩
 keep:=λi h n st k=>st.at λo e=>k a (by simp) o e
 item:=by
  intro X t q x L i G5 s σ H E I m st ⟨fz,hi⟩;subst t q x;obtain⟨l,r,G,_,_⟩:=I.frzAt fz J;rw[c5] at hi;obtain⟨u,O,ru⟩:=KV.at (vs:=l) (k:=kvs[i].1) (v:=kvs[i].2) r (e7 hi);obtain⟨D,C,Q,B,A,y⟩:=m a (by simp);have g:s.heap.IsValIter a d i l.length p:=by rw[<- r.length]; rwa[st]
  erw[wpAny_pyNext_values_item g G O λn f N=>?_];have Y:Inv X G5 σ H { s with heap:=n }:=I.turned (t':=s.toks) (λb o j e=>(N.2 b j).trans e) D C B A y;obtain⟨o,e,c,T⟩:=id f;rw[<- r.length] at f;exact⟨u,U,iN (s:={ s with heap:=n }) e c T (by decide) ⟨kvs[i].2,H,Y,ru,⟨U,by rw[i3,e7 hi]; rfl⟩,f,λb j=>(m b j).1⟩⟩
 done:=by
  intro X t q x L i G5 s σ H E I m st ⟨fz,hi⟩;subst t q x;obtain⟨l,r,G,_,_⟩:=I.frzAt fz J;rw[c5] at hi;obtain⟨D,C,Q,B,A,y⟩:=m a (by simp);have g:s.heap.IsValIter a d i l.length p:=by rw[<- r.length]; rwa[st]
  rwa[wpAny_pyNext_values_end (I.ok.hd L) g G (Ci (by rw[<- r.length]; exact hi)) λn S=>⟨rfl,I.turned (t':=s.toks) (λb o j e=>S b o j e) D C B A y⟩]
 self:=λ_ _ _ _ _ st h=>wpAny_pyIter_valiter st h
def ag(d:b6)(o:Ad)(kvs:List (Key×V))(H c:Hp):Prop:=c d=G0 (.frz o (.dK kvs))/\(∀ b,b≠d->c b=H b)/\∀ a,H d=G0 (.frz a (.dK kvs))->a=o
def Inv.frozen(I:Inv X G5 σ H s)(hd:Rd H d (.dK kvs)):∃(o:Ad)(f:Array B7)(g:Nat)(i:Hp),o.data=.dict f g/\ag d o kvs H i/\Inv X G5 σ i s:=by
 obtain⟨z,y,l,r,o,f,g,e,c,dt,_⟩:=hd.ok I.hok;rcases hd with hd | ⟨h,hd⟩
 ·exact⟨o,f,g,_,dt,⟨zB,λb j=>zL j,λh a=>by rw[hd] at a; cases a⟩,I.freeze hd e⟩
 ·obtain⟨a,_⟩:=(show yU X.prog X.w H s.heap d (.frz h (.dK kvs)) from I.hok d _ hd);rw[e] at a;cases a;exact⟨o,f,g,H,dt,⟨hd,λ_ _=>rfl,λh a=>by rw[hd] at a; cases a; rfl⟩,I⟩
def iVals(c:TE):TI:=λσ H R=>c σ H λx b=>E2 λ(d:b6) (kvs:List (Key×V))=>A3 (x=.ref d) (Rd b d (.dK kvs)) (∀(o:Ad)(a:Hp),ag d o kvs b a->R (Itc (cb d o kvs) (kvs.map (·.2))) a)
variable{tg l:o6}{te:TE}{apos pos:BM}
def fB(z:PE X l te)(c:attributeBase l "values" X.env (eval l X.env)=eval l X.env:=by rfl)(a:(apos.endLine == pos.line)=true:=by rfl):PI X tg (.Call (.Attribute l "values" apos) [] [] pos) (iVals te):=by
 intro G5 s σ H R I h;erw[Db (T := "dict") (id := "dict.values") c rfl a Dq EH F.type_dict_values (thn (z G5 s σ H _ I h) λv f ⟨x,E,C,y,d,kvs,e,hd,q⟩=>?_)];subst e;cases y;obtain⟨o,D,j,u,n,p,t⟩:=C.frozen hd;obtain⟨i,r,g,_,ns⟩:=t.frzAt p.1 n;exists g.dictOf.typeIs,g.dictOf.mapOf.noDict;show wpAny _ _ (callWith pos (.builtin "dict.values") [.ref d] [] []) _ _ f;erw[method_meetsIn EH F.entry_dict_values rfl (El ⟨rfl,g.dictOf.typeIs,F.args_dict_values_1 _,_,meets_dict_values (yN X.prog X.w) d ns,⟨i,g.dictOf⟩,?_⟩)];erw[wpAny_pyIter_values (knd:=yN X.prog X.w) (d:=d) (kvs:=i) (ep:=j) ⟨_,d6 _ rfl,rfl,rfl⟩ (g.push _) ?_];have m:=t.kept (t':=f.toks) (h':=f.heap.push { cls:=.type "dict_values",data:=.fields #[.ref d] }) λb o e=>b8 _ e;have B:=m.kept (t':=f.toks) (h':=(f.heap.push { cls:=.type "dict_values",data:=.fields #[.ref d] }).push { cls:=.type "dict_valueiterator",data:=.fields #[.ref d,.int 0 0,.int i.length 0,.int j 0] }) λb o e=>b8 _ e;erw[_,[_],_,_,u,U,B,hV n _,⟨_,d6 _ rfl,U,by rw[r.length]; rfl⟩,λb A=>?_,q o u p];have e:=f7.mp A;subst e;rwa[m.fpOk (d8 _) (m.hok.fresh (d8 _))]
end
end L2

namespace L2
section
variable{φ:Hp->Prop}{xs:List V}{g:TG}{tb:TS}{E:jY}{σ σ0:St}{H H1:Hp}{D:b6}{tt:TT}{te:TE}{Q:VK}
def YS(a:Nat->St->Hp->Prop)(h0:a 0 σ H)(l:∀ i σ H,a i σ H->φ H)
  (o:∀ i x σ H,xs[i]?=G0 x->a i σ H->g x σ H λb h=>tb { E with nx:=a (i+1),ct:=a (i+1),bk:=E.nx } b h) (hd:∀ σ H,a xs.length σ H->E.nx σ H) :
  ∃ W:Nat->Nat->St->Hp->Prop,(∃ m,W 0 m σ H)/\∀ i m σ H,W i m σ H ->
   ((Itc φ xs).stop i H/\E.nx σ H)\/((Itc φ xs).go i H/\∃ N:St->Hp->Prop,(∀ c d,N c d->∃ j,j<m/\W (i+1) j c d)/\∀ x d,(Itc φ xs).yld i H x d->g x σ d λb h=>tb { E with nx:=N,ct:=N,bk:=E.nx } b h):=by
 exists λi m σ H=>m=xs.length-i/\i<=xs.length/\a i σ H,⟨xs.length,by simp,j8 _,h0⟩;rintro i m σ H ⟨rfl,hi,p⟩;by_cases f:i<xs.length
 ·erw[.inr ⟨⟨l i σ H p,f⟩,a (i+1),λc d n=>⟨xs.length-(i+1),by lia,rfl,f,n⟩,λx d ⟨e,y⟩=>?_⟩];subst e;rwa[o i x σ _ y p]
 ·have e:i=xs.length:=by lia
  subst e;rwa[.inl ⟨⟨l _ σ H p,d8 _⟩,hd σ H p⟩]
def Xf(d:Nat->St->List V->Hp->Prop)(h0:d 0 σ0 [] (upd H1 D (.lst [])))(r:∀ i σ a H,d i σ a H->φ H/\H D=G0 (.lst a))
  (o:∀ i x σ a H,xs[i]?=G0 x->d i σ a H->g x σ H λc s=>tt c s λb j =>
   if b=G3 then te c j λy h=>h D=G0 (.lst a)/\a.length<sizeLine/\d (i+1) c (a++[y]) (upd h D (.lst (a++[y]))) else d (i+1) c a j)
  (hd:∀ σ a H,d xs.length σ a H->Q (.ref D) H):wf (Itc φ xs) D g tt te σ0 H1 Q:=by
 exists λi m σ a H=>m=xs.length-i/\i<=xs.length/\d i σ a H,⟨xs.length,by simp,j8 _,h0⟩;rintro i m σ a H ⟨rfl,hi,p⟩;obtain⟨q,n⟩:=r i σ a H p;exists n;by_cases f:i<xs.length
 ·erw[.inr ⟨⟨q,f⟩,d (i+1),λl u t z=>⟨xs.length-(i+1),by lia,rfl,f,z⟩,λx t ⟨e,y⟩=>?_⟩];subst e;rwa[o i x σ a _ y p]
 ·have e:i=xs.length:=by lia
  subst e;rwa[.inl ⟨⟨q,d8 _⟩,hd σ a H p⟩]
def kR(b:Nat->St->List V->Hp->Prop)(h0:b 0 σ0 [] (upd H1 D (.lst [])))(h:∀ i σ a H,b i σ a H->φ H/\H D=G0 (.lst a))
  (f:∀ i x σ a H,xs[i]?=G0 x->b i σ a H->g x σ H λc j=>te c j λy d=>d D=G0 (.lst a)/\a.length<sizeLine/\b (i+1) c (a++[y]) (upd d D (.lst (a++[y]))))
  (hd:∀ σ a H,b xs.length σ a H->Q (.ref D) H):wf (Itc φ xs) D g ZF te σ0 H1 Q:=Xf b h0 h (λi x σ a H e p=>f i x σ a H e p) hd
end
section
variable{X:Cx}{x y:c7}{p pos:BM}{i e:o6}{es:List o6}{ty:TE}{t:TA}
def nG{n:Int}(a:∃ k,X.mg x=G0 (.int n k))(b:Gl X x:=by rfl)(hd:(x ==("__debug__" : c7))=false:=by decide):PE X (.Name x pos) (tC (.int n)):=λ_ _ _ H _ I h=>by
 obtain⟨k,a⟩:=a;rwa[wF I b a ⟨.int n,H,I,⟨k,rfl⟩,h⟩ hd]
def br(P:e9)(w:i5)(B:j3)(a:b6)(b:List (Key×V)):Prop:=∃ c,KV b c/\B.DictOf (yN P w) a c
def tGet(a:List (Key×V))(ty:TE):TE:=λb H Q=>ty b H λy c=>E2 λ(k:Key) (v:V)=>A3 (y=kV k) (vB a k=G0 v) (Q v c)
def bz{g:St}{H:Hp}{E:b7->b9->Prop}{Q:b7->b9->Prop}(z:br X.prog X.w X.base a b)(I:Inv X n g H s)(l:vB b k=G0 v)(r:xN (kV k) u)
  (h:∀ c m,Inv X n g H m->xN v c->Q c m):s.TypeIs (.ref a) "dict" /\ wpAny (model X.prog X.w) X.A (getItem (.ref a) u) Q E s:=by
 obtain⟨j,rel,d⟩:=z;have d:s.heap.DictOf (yN X.prog X.w) a j:=d.at λo e=>I.bk a o e;obtain⟨c,q,f⟩:=uu.some_of (v:=v) (o:=valueAt j k) (by rw[<- l]; rwa[rel.val k]);rwa[d.typeIs,Fo (pr r) d.mapOf q (h c _ (I.tok _) f)]
def cP(o:br X.prog X.w X.base a b)(m:X.mg x=G0 (.ref a))(hi:PE X i ty)(j:XI i:=by exact λ_ _=>rfl)(n:Gl X x:=by rfl)(hd:(x ==("__debug__" : c7))=false:=by decide) :
  PE X (.Subscript (.Name x p) i pos) (tGet b ty):=by
 intro z s d H Q I h;erw[ki BR.lookup j (wF I n m (thn (hi z s d H _ I h) λD C ⟨y,u,r,f,k,v,ey,l,g⟩=>?_) hd)];subst ey;rwa[bz o r l f λA B q c=>⟨v,u,q,c,g⟩]
structure TabAt(P:e9)(w:i5)(K:ac)(mg:c7->Option b7)(B:j3)(m:Nat)(kvs:List (Key×V))(k:Key)(sp:Sp):Prop where
 mk ::
 has:∃(x:c7)(f:b6)(n:Nat)(ps:List c7),vB kvs k=G0 (.ref f)/\mg x=G0 (.ref f)/\Has P w K mg B x n ps sp/\n<=m
end
def oK:bootBuiltins "dict" = G0 (.type "dict"):=by ac_nf
section
variable{X:Cx}
def qm:sV X (.type "dict") (λc H Q=>E2 λ(a:b6) (b:List (Key×V))=>A3 (c=[.ref a]) (Rd H a (.dK b)) (∀ p,H p=G2->Q (.ref p) (upd H p (.dK b)))):=by
 intro l s g H c i Q I r h;obtain⟨a,b,rfl,e,q⟩:=h;obtain⟨u,rfl,ru⟩:=kQ r;cases ru;rwa[cG I e λp j d f=>⟨.ref p,_,f,rfl,q p d⟩]
def yc:sV X (.builtin "len") (λc H Q=>E2 λ(a:b6) (b:List (Key×V))=>A3 (c=[.ref a]) (Rd H a (.dK b)) (Q (.int b.length) H)):=by
 intro j s f H c g Q I r h;obtain⟨a,b,rfl,d,q⟩:=h;obtain⟨u,rfl,ru⟩:=kQ r;cases ru;rwa[d_len I d λt i e=>⟨.int b.length,H,e,⟨t,rfl⟩,q⟩]
end
end L2

namespace L2
def mO(x:c7):List V:=x.cps.toList.map λc=>.str ⟨#[c]⟩
section
variable{X:Cx}{tg l:o6}{te:TE}
def dz{K:ac}{tg:o6}(x:c7)(t:GU)(f:b6):bZ P w K tg (Itc (λ_=>True) (mO x)) [f] f (λi h=>h.IsStrIter f "str_ascii_iterator" x t i) where
 mem:=by simp
 obj:=λi h st b g=>by
  have e:b=f:=by simpa using g
  subst e;obtain⟨o,e,c,d⟩:=st;exact⟨o,e,λv z=>by rw[d] at z; cases z⟩
 keep:=λi h n ⟨o,N,r⟩ k=>⟨o,k f (by simp) o N,r⟩
 item:=by
  intro X q p u J i L s G H E I m st ⟨_,hi⟩;subst q p u;have a:i<x.cps.size:=by unfold mO at hi; rw[c5,Ag] at hi; rwa[hi]
  obtain⟨D,C,O,B,A,y⟩:=m f (by simp);erw[wpAny_pyNext_ascii_item st (c:=x.cps[i]) (C3 a) λn j M=>?_];have S:Inv X L G H { s with heap:=n,toks:=s.toks+1 }:=I.turned (t':=s.toks+1) (λb o g e=>(M.2 b g).trans e) D C B A y;obtain⟨o,e,c,R⟩:=id j;exact⟨_,U,iN (s:={ s with heap:=n,toks:=s.toks+1 }) e c R (by decide) ⟨.str ⟨#[x.cps[i]]⟩,H,S,⟨_,U⟩,⟨U,by unfold mO; rw[i3,DY,C3 a]; rfl⟩,j,λb g=>(m b g).1⟩⟩
 done:=by
  intro X q p u J i L s G H E I m st ⟨_,hi⟩;subst q p u;have a:x.cps.size<=i:=by unfold mO at hi; rw[c5,Ag] at hi; rwa[hi]
  obtain⟨D,C,O,B,A,y⟩:=m f (by simp);rwa[wpAny_pyNext_ascii_end (I.ok.hd J) st (Cf a) λn Q=>⟨rfl,I.turned (t':=s.toks) (λb o g e=>Q b o g e) D C B A y⟩]
 self:=λ_ _ _ _ _ st h=>wpAny_pyIter_striter_ascii st h
def iStr(te:TE):TI:=λa H R=>te a H λv b=>∃ x:c7,A3 (v=.str x) (x.cps.all (· < 128)=G3) (R (Itc (λ_=>True) (mO x)) b)
def bI(g:PE X l te):PI X tg l (iStr te):=by
 intro n s d H R I h;erw[thn (g n s d H _ I h) λv a ⟨y,m,c,f,x,e,j,q⟩=>?_];subst e;obtain⟨t,rfl⟩:=f;erw[wpAny_pyIter_ascii j ?_];erw[a.heap.objs.size,[a.heap.objs.size],_,_,m,U,c.kept (t':=a.toks) λb o e=>b8 _ e,dz x t _,⟨_,d6 _ rfl,U,U⟩,λb i=>?_,q];have e:b=a.heap.objs.size:=by simpa using i
 subst e;rwa[c.fpOk (d8 _) (c.hok.fresh (d8 _))]
def mZ:OpR X (compareOp .LtE) (λx y H Q=>E2 λi j=>A3 (x=.str i) (y=.str j) (Q (.bl (!decide (j.cps.toList<i.cps.toList))) H)):=by
 intro e s c H x y v u Q I b a h;obtain⟨i,j,rfl,rfl,q⟩:=h;obtain⟨t,rfl⟩:=b;obtain⟨d,rfl⟩:=a;rwa[PySem.P.le_str (yP I q rfl)]
def YX:SlR X (λx lo hi H Q=>∃ z:c7,x=.str z/\z.length<=sizeLine/\Q (.str (Gx z lo hi)) H):=by
 intro m s f H x v D C lo hi E Q I p y r g h;obtain⟨z,rfl,w,q⟩:=h;obtain⟨t,rfl⟩:=p;have a:∀(l u:Option (Int×GU)),l.map (·.1)=lo->u.map (·.1)=hi->(sliceMade z t l u G2).post (EP X m f Q) s:=λl u B A=>by
  subst B A;rwa[post_val_or_str (t:=t) (s:=s) (Q:=EP X m f Q) ⟨g9 (Txt.slice_le z _ _) w,λn k=>⟨.str (Gx z _ _),H,I.tok k,⟨n,rfl⟩,q⟩⟩]
 exists "str",_,F.slot_str_getitem.lookup,typeIs_str _ _ _;obtain⟨o,d,e,hd⟩:=y;cases r with
 | none =>
  cases g with
  | none=>rwa[Bm (l:=G2) (u:=G2) (st:=G2) ⟨o,d,e,hd⟩ rfl (a G2 G2 rfl rfl)]
  | int j b=>rwa[Bm (l:=G2) (u:=G0 (j,b)) (st:=G2) ⟨o,d,e,hd⟩ rfl (a G2 (G0 (j,b)) rfl rfl)]
 | int i c =>
  cases g with
  | none=>rwa[Bm (l:=G0 (i,c)) (u:=G2) (st:=G2) ⟨o,d,e,hd⟩ rfl (a (G0 (i,c)) G2 rfl rfl)]
  | int j b=>rwa[Bm (l:=G0 (i,c)) (u:=G0 (j,b)) (st:=G2) ⟨o,d,e,hd⟩ rfl (a (G0 (i,c)) (G0 (j,b)) rfl rfl)]
def lC:∀{a:List c7}{b:List b7},xD (a.map V.str) b->∃ l:List (c7×GU),b=strValues l/\l.map (·.1)=a
 | [],_,.nil=>⟨[],rfl,rfl⟩
 | x::a,_,.cons ⟨t,e⟩ r=>by
  obtain⟨l,d,c⟩:=lC r;subst e;rwa[(x,t)::l,by rw[d]; rfl,by rw[i7,c]]
def fe(a:c7):∀ b:List c7,(EV a b).length<=(b.map (·.length)).sum+b.length*a.length
 | []=>j8 _
 | [y]=>by
  show y.length<=_;simp
 | y::z::l=>by
  have c:=fe a (z::l);have e:(EV a (y::z::l)).length=y.length+a.length+(EV a (z::l)).length:=by
   show(y++a++EV a (z::l)).length=_;rw[strLen_append,strLen_append]
  rw[e];simp only[i7,List.sum_cons,i6,GF] at c ⊢;lia
def qz(a:c7)(b:List c7):Nat:=(b.map (·.length)).sum+b.length*a.length
def gU:MtR X "str.join" (λx g H Q=>∃(b:c7)(a:b6)(e:List c7),x=.str b/\g=[.ref a]/\SqL X.K H a (e.map V.str)/\qz b e<=sizeLine/\Q (.str (Cg b e)) H):=by
 intro C s A H x g v B Q I j m h;obtain⟨b,a,e,rfl,rfl,w,f,q⟩:=h;obtain⟨t,rfl⟩:=j;obtain⟨u,rfl,ru⟩:=xD.one m;cases ru;obtain⟨n,r,p,_⟩:=I.list w;obtain⟨l,rfl,c⟩:=lC r;have o:Builtin.Str.tooLong ((l.map (·.1)).toArray.foldl (· + ·.length+b.length) 0)=false:=by
  rw[c,Gy];exact y7 (by unfold qz at f; lia)
 refine call_meets D2 (typeIs_str _ _ _) F.entry_str_join (F.args_str_join_2 _ _) (meets_str_join_list b t a l o) ⟨p.isList,?_⟩;have i:∀ d:List c7,(Cg b d).length<=qz b d:=λd=>by
  rw[FI];rwa[fe b d]
 match l,c with
 | [],c =>
  subst c;rwa[g9 (i []) f,⟨.str _,H,I.tok _,⟨_,U⟩,q⟩]
 | [y],c =>
  subst c;rwa[.str y.1,H,I,⟨y.2,U⟩,q]
 | y::z::l,c =>
  subst c;rwa[g9 (i _) f,⟨.str _,H,I.tok _,⟨_,U⟩,q⟩]
end
end L2

namespace Sea
inductive Dt where
 | int (i:Int)
 | str (x:c7)
 | tup (l:List Dt)
mutual
def Rep(H:Hp):Dt->V->Prop
 | .int i,v=>v=.int i
 | .str x,v=>v=.str x
 | .tup l,v=>∃(a:b6)(b:List V),v=.ref a/\H a=G0 (.tup b)/\tO H l b
def tO(H:Hp):List Dt->List V->Prop
 | [],a=>a=[]
 | d::l,a=>∃(x:V)(r:List V),a=x::r/\Rep H d x/\tO H l r
end
def xF(d:b6->Prop)(H c:Hp):Prop:=∀ b o,¬ d b->H b=G0 o->c b=G0 o\/∃(ob:Ad)(a:List (Key×V)),o=.dK a/\c b=G0 (.frz ob (.dK a))
abbrev Sam(H a:Hp):Prop:=xF (λ_=>False) H a
section
variable{φ ψ:b6->Prop}{H H1 H2:Hp}{a:b6}{xs:List V}
def xF.of(s:Same H H1):xF φ H H1:=λb o _ e=>.inl (s b o e)
def xF.refl(H:Hp):xF φ H H:=λ_ _ _ e=>.inl e
def xF.trans(s:xF φ H H1)(t:xF φ H1 H2):xF φ H H2:=λb o n e=>by
 rcases s b o n e with d | ⟨ob,c,g,d⟩
 ·rwa[t b o n d]
 ·subst g;rcases t b _ n d with f | ⟨_,_,z,_⟩
  ·rwa[.inr ⟨ob,c,rfl,f⟩]
  ·cases z
def xF.wider(s:xF φ H H1)(h:∀ b,φ b->ψ b):xF ψ H H1:=λb o n e=>s b o (λz=>n (h b z)) e
def xF.lst(s:xF φ H H1)(n:¬ φ a)(e:H a=G0 (.lst xs)):H1 a=G0 (.lst xs):=by
 rcases s a _ n e with z | ⟨_,_,z,_⟩
 ·rwa[z]
 ·cases z
def xF.tup(s:xF φ H H1)(n:¬ φ a)(e:H a=G0 (.tup xs)):H1 a=G0 (.tup xs):=by
 rcases s a _ n e with z | ⟨_,_,z,_⟩
 ·rwa[z]
 ·cases z
def xF.ins(s:xF φ H H1)(n:¬ φ a){C b:b6}{fs:List (c7×V)}(e:H a=G0 (.ins C b fs)):H1 a=G0 (.ins C b fs):=by
 rcases s a _ n e with z | ⟨_,_,z,_⟩
 ·rwa[z]
 ·cases z
def xF.rd(s:xF φ H H1)(n:¬ φ a)(e:Rd H a (.dK b)):Rd H1 a (.dK b):=by
 rcases e with e | ⟨ob,e⟩
 ·rcases s a _ n e with z | ⟨ob,c,z,w⟩
  ·rwa[.inl z]
  ·cases z;rwa[.inr ⟨ob,w⟩]
 ·rcases s a _ n e with z | ⟨_,_,z,_⟩
  ·rwa[.inr ⟨ob,z⟩]
  ·cases z
def xF.some(s:xF φ H H1)(n:¬ φ a)(e:H a=G0 o):∃ b,H1 a=G0 b:=by
 rcases s a _ n e with z | ⟨_,_,_,w⟩
 ·rwa[_,z]
 ·rwa[_,w]
def xF.free(s:xF φ H H1)(n:¬ φ a)(e:H1 a=G2):H a=none:=by
 cases q:H a with
 | none=>rfl
 | some o =>
  obtain⟨b,z⟩:=s.some n q;rw[e] at z;cases z
def gh(hd:Rd H d (.dK c))(f:ag d o c H H1):xF φ H H1:=λb u _ e=>by
 by_cases z:b=d
 ·subst z;rcases hd with hd | ⟨g,hd⟩
  ·rw[hd] at e;cases e;rwa[.inr ⟨o,c,rfl,f.1⟩]
  ·rw[hd] at e;cases e;rw[<- f.2.2 g hd] at f;rwa[.inl f.1]
 ·rwa[.inl (by rw[f.2.1 b z]; exact e)]
end
mutual
def Rep.sam{f:b6->Prop}{H i:Hp}(s:xF f H i)(g:∀ b c,H b=G0 (.tup c)->¬ f b):∀{d:Dt}{v:V},Rep H d v->Rep i d v
 | .int _,_,h=>by rw[Rep] at h ⊢; rwa[h]
 | .str _,_,h=>by rw[Rep] at h ⊢; rwa[h]
 | .tup l,v,h=>by
  rw[Rep] at h ⊢;obtain⟨a,c,e,h1,h2⟩:=h;rwa[a,c,e,s.tup (g a c h1) h1,tO.sam s g h2]
def tO.sam{c:b6->Prop}{H g:Hp}(s:xF c H g)(f:∀ b a,H b=G0 (.tup a)->¬ c b):∀{l:List Dt}{a:List V},tO H l a->tO g l a
 | [],_,h=>by rw[tO] at h ⊢; rwa[h]
 | d::l,a,h=>by
  rw[tO] at h ⊢;obtain⟨x,r,e,h1,h2⟩:=h;rwa[x,r,e,Rep.sam s f h1,tO.sam s f h2]
end
section
variable{H H1:Hp}
def no_f{H:Hp} : ∀ b a,H b=G0 (.tup a)->¬ (λ_:b6=>False) b:=λ_ _ _ z=>z
def Rep.to(h:Rep H d v)(s:Sam H H1):Rep H1 d v:=h.sam s no_f
def tO.to(h:tO H l a)(s:Sam H H1):tO H1 l a:=h.sam s no_f
def yB{i:Int} : Rep H (.int i) v↔v=.int i:=by rw[Rep]
def zV : Rep H (.str x) v↔v=.str x:=by rw[Rep]
def yG : Rep H (.tup l) v↔∃(a:b6)(b:List V),v=.ref a/\H a=G0 (.tup b)/\tO H l b:=by rw[Rep]
def yM : tO H [] a↔a=[]:=by rw[tO]
def zI{d:Dt}{l:List Dt} : tO H (d::l) a↔∃(x:V)(r:List V),a=x::r/\Rep H d x/\tO H l r:=by rw[tO]
def tO.length:∀{l:List Dt}{a:List V},tO H l a->a.length=l.length
 | [],_,h=>by rw[yM.mp h]; rfl
 | d::l,_,h=>by
  obtain⟨x,r,e,_,h2⟩:=zI.mp h;rw[e,i6,i6,tO.length h2]
def tO.back:∀{l:List Dt}{a:List V}{i:Nat}{x:V},tO H l a->a[i]?=G0 x->∃ d,l[i]?=G0 d/\Rep H d x
 | [],_,i,x,h,e=>by rw[yM.mp h] at e; simp at e
 | d::l,_,0,x,h,e=>by
  obtain⟨y,r,ex,h1,_⟩:=zI.mp h;rw[ex] at e;simp at e;subst e;rwa[d,U,h1]
 | d::l,_,i+1,x,h,e=>by
  obtain⟨y,r,ex,_,h2⟩:=zI.mp h;rw[ex] at e;obtain⟨b,h3,h4⟩:=tO.back (i:=i) (x:=x) h2 (by simpa using e);exact⟨b,by simpa using h3,h4⟩
def tO.app:∀{l m:List Dt}{b a:List V},tO H l b->tO H m a->tO H (l++m) (b++a)
 | [],_,_,_,h,k=>by rw[yM.mp h]; rwa[k]
 | d::l,_,_,_,h,k=>by
  obtain⟨x,r,e,h1,h2⟩:=zI.mp h;rw[e];rwa[zI.mpr ⟨x,_,rfl,h1,tO.app h2 k⟩]
def tO.one(h:Rep H d v):tO H [d] [v]:=zI.mpr ⟨v,[],rfl,h,yM.mpr rfl⟩
def tO.two(h:Rep H d v)(k:Rep H e u):tO H [d,e] [v,u]:=zI.mpr ⟨v,_,rfl,h,.one k⟩
end
structure wG(H:Hp)(kvs:List (Key×V))(es:List (Key×Dt)):Prop where
 keys:kvs.map (·.1)=es.map (·.1)
 vals:tO H (es.map (·.2)) (kvs.map (·.2))
def qO(H:Hp)(a:b6)(c:List (Key×Dt)):Prop:=∃ b,Rd H a (.dK b)/\wG H b c
def look(a:List (Key×Dt))(k:Key):Option Dt:=(a.find? λe=>decide (e.1=k)).map (·.2)
def bx(a:List (Key×Dt))(k:Key)(d:Dt):List (Key×Dt):=if a.any (λe=>decide (e.1=k)) then a.map λe=>if e.1=k then(e.1,d) else e else a++[(k,d)]
def mr(a:List (Key×Dt))(k:Key):List (Key×Dt):=a.filter λe=>decide (e.1≠k)
def wG.nil{H:Hp} : wG H [] []:=⟨rfl,yM.mpr rfl⟩
def wG.cons_iff{H:Hp}{k:Key}{d:Dt}{b:List (Key×Dt)} : wG H a ((k,d)::b)↔∃(v:V)(r:List (Key×V)),a=(k,v)::r/\Rep H d v/\wG H r b:=by
 constructor
 ·rintro⟨h1,h2⟩;cases a with
  | nil=>simp at h1
  | cons p r =>
   obtain⟨j,v⟩:=p;simp only[i7,FD] at h1;obtain⟨h,g⟩:=h1;subst h;obtain⟨x,i,e,h3,h4⟩:=zI.mp h2;simp only[i7,FD] at e;obtain⟨f,c⟩:=e;subst f c;rwa[v,r,U,h3,g,h4]
 ·rintro⟨v,r,rfl,h1,h2⟩;rwa[by simp[h2.keys],zI.mpr ⟨v,_,U,h1,h2.vals⟩]
def wG.nil_iff{H:Hp}(h:wG H a []):a=[]:=by
 have:=h.keys;simpa using this
def wG.to{H c:Hp}(h:wG H a b)(s:Sam H c):wG c a b:=⟨h.keys,h.vals.to s⟩
def wG.sam{c:b6->Prop}{H e:Hp}(h:wG H a d)(s:xF c H e)(g:∀ b f,H b=G0 (.tup f)->¬ c b):wG e a d:=⟨h.keys,h.vals.sam s g⟩
def qO.to{H c:Hp}(h:qO H a b)(s:Sam H c):qO c a b:=let ⟨kvs,h1,h2⟩:=h;⟨kvs,s.rd id h1,h2.to s⟩
def wG.length{H:Hp}(h:wG H a b):a.length=b.length:=by
 have:=congrArg C9 h.keys;simpa using this
def wG.get{H:Hp} : ∀{b:List (Key×Dt)}{a:List (Key×V)}{d:Dt},wG H a b->look b k=G0 d->∃ v,vB a k=G0 v/\Rep H d v
 | [],_,_,_,e=>by simp[look] at e
 | (c,f)::b,a,d,h,e=>by
  obtain⟨v,r,rfl,h1,h2⟩:=wG.cons_iff.mp h;by_cases z:c=k
  ·rw[wH z];simp only[look,w9,y6 z,B0,Option.some.injEq] at e;subst e;rwa[v,U,h1]
  ·rw[xZ z];erw[wG.get h2 ?_];simp only[look,w9,y7 z] at e;rwa[e]
def wG.none{H:Hp} : ∀{b:List (Key×Dt)}{a:List (Key×V)},wG H a b->look b k=G2->vB a k=G2
 | [],_,h,_=>by rw[h.nil_iff]; rfl
 | (c,d)::b,a,h,e=>by
  obtain⟨v,r,rfl,h1,h2⟩:=wG.cons_iff.mp h;by_cases z:c=k
  ·simp[look,w9,z] at e
  ·rw[xZ z];erw[wG.none h2 ?_];simp only[look,w9,y7 z] at e;rwa[e]
def wG.isSome{H:Hp}(h:wG H a b):(vB a k).isSome=(look b k).isSome:=by
 cases e:look b k with
 | none=>rw[h.none e]; rfl
 | some d =>
  obtain⟨v,z,_⟩:=h.get e;rw[z];rfl
def wG.any{H:Hp}{k:Key} : ∀{b:List (Key×Dt)}{a:List (Key×V)},wG H a b->(a.any λe=>decide (e.1=k))=b.any λe=>decide (e.1=k)
 | [],_,h=>by rw[h.nil_iff]; rfl
 | (c,d)::b,a,h=>by
  obtain⟨v,r,rfl,h1,h2⟩:=wG.cons_iff.mp h;rw[AN,AN,wG.any h2]
def wG.rep{H:Hp}{k:Key}(b:Rep H d v):∀{c:List (Key×Dt)}{a:List (Key×V)},wG H a c->wG H (a.map λe=>if e.1=k then(e.1,v) else e) (c.map λe=>if e.1=k then(e.1,d) else e)
 | [],_,h=>by rw[h.nil_iff]; rwa[.nil]
 | (f,g)::c,a,h=>by
  obtain⟨u,r,rfl,h1,h2⟩:=wG.cons_iff.mp h;rw[i7,i7];by_cases z:f=k
  ·rw[y4 z,y4 z];rwa[wG.cons_iff.mpr ⟨v,_,rfl,b,wG.rep b h2⟩]
  ·rw[y3 z,y3 z];rwa[wG.cons_iff.mpr ⟨u,_,rfl,h1,wG.rep b h2⟩]
def wG.app{H:Hp}{k:Key}(c:Rep H d v):∀{b:List (Key×Dt)}{a:List (Key×V)},wG H a b->wG H (a++[(k,v)]) (b++[(k,d)])
 | [],_,h=>by rw[h.nil_iff]; rwa[wG.cons_iff.mpr ⟨v,[],rfl,c,.nil⟩]
 | (e,f)::b,a,h=>by
  obtain⟨u,r,rfl,h1,h2⟩:=wG.cons_iff.mp h;rwa[wG.cons_iff.mpr ⟨u,_,rfl,h1,wG.app c h2⟩]
def wG.put{H:Hp}(h:wG H a c)(b:Rep H d v):wG H (yt a k v) (bx c k d):=by
 unfold yt bx;rw[h.any];split
 ·rwa[h.rep b]
 ·rwa[h.app b]
def wG.drop{H:Hp} : ∀{b:List (Key×Dt)}{a:List (Key×V)},wG H a b->wG H (oO a k) (mr b k)
 | [],_,h=>by rw[h.nil_iff]; rwa[.nil]
 | (c,d)::b,a,h=>by
  obtain⟨u,r,rfl,h1,h2⟩:=wG.cons_iff.mp h;unfold oO mr;by_cases z:c=k
  ·rw[Dr (by simp[z]),Dr (by simp[z])];rwa[wG.drop h2]
  ·rw[Du (by simp[z]),Du (by simp[z])];rwa[wG.cons_iff.mpr ⟨u,_,rfl,h1,wG.drop h2⟩]
end Sea

namespace Sea
inductive Deed where
 | mark (n:c7) (x y:Int)
 | move (n:c7) (x y:Int)
 | unmark (n:c7)
 | bank (n:c7) (cs:List (Int×Int))
 | level (n:c7)
 | sail (x y:Int)
 | right (k x y:Int)
 | bearing (m:Int) (n:c7) (a b c d:Int)
 | range (m:Int) (l r:c7)
 | strike (k:Int)
def ptD(p:Int×Int):Dt:=.tup [.int p.1,.int p.2]
def Deed.dt:Deed->Dt
 | .mark n x y=>.tup [.str "mark",.str n,.int x,.int y]
 | .move n x y=>.tup [.str "move",.str n,.int x,.int y]
 | .unmark n=>.tup [.str "unmark",.str n]
 | .bank n e=>.tup [.str "bank",.str n,.tup (e.map ptD)]
 | .level n=>.tup [.str "level",.str n]
 | .sail x y=>.tup [.str "sail",.int x,.int y]
 | .right k x y=>.tup [.str "right",.int k,.int x,.int y]
 | .bearing m n a b c d=>.tup [.str "bearing",.int m,.str n,ptD (a,b),ptD (c,d)]
 | .range m l r=>.tup [.str "range",.int m,.str l,.str r]
 | .strike k=>.tup [.str "strike",.int k]
structure BS where
 marks:List (c7×Int×Int)
 banks:List (c7×List (Int×Int))
 runs:List (Int×Int)
 notes:List (Int×Deed)
 coming:Int
def BS.nil:BS:=⟨[],[],[],[],1⟩
def mkE(l:List (c7×Int×Int)):List (Key×Dt):=l.map λe=>(.inr e.1,ptD e.2)
def bkE(l:List (c7×List (Int×Int))):List (Key×Dt):=l.map λe=>(.inr e.1,.tup (e.2.map ptD))
def rnE(l:List (Int×Int)):List (Key×Dt):=l.zipIdx.map λe=>(.inl (e.2:Int),ptD e.1)
def ntE(l:List (Int×Deed)):List (Key×Dt):=l.map λe=>(.inl e.1,e.2.dt)
def stK(m b r n:b6)(k:Int):List (Key×V):=[(.inr "marks",.ref m),(.inr "banks",.ref b),(.inr "runs",.ref r),(.inr "notes",.ref n),(.inr "coming",.int k)]
structure StA(H:Hp)(d m b r n:b6)(S:BS):Prop where
 at_:Rd H d (.dK (stK m b r n S.coming))
 ma:qO H m (mkE S.marks)
 ba:qO H b (bkE S.banks)
 ru:qO H r (rnE S.runs)
 no:qO H n (ntE S.notes)
def jy(H:Hp)(d:b6)(S:BS):Prop:=∃ m b r n,StA H d m b r n S
def StA.to{H a:Hp}(h:StA H d m b r n S)(s:Sam H a):StA a d m b r n S:=⟨s.rd id h.at_,h.ma.to s,h.ba.to s,h.ru.to s,h.no.to s⟩
def jy.to{H a:Hp}(h:jy H d S)(s:Sam H a):jy a d S:=let ⟨m,b,r,n,q⟩:=h;⟨m,b,r,n,q.to s⟩
def zS(S:BS)(n:c7):Option (Int×Int):=(S.marks.find? λe=>decide (e.1=n)).map (·.2)
def uk{S:BS} : look (mkE S.marks) (.inr n)=(zS S n).map ptD:=by
 unfold look mkE zS;rw[List.find?_map];have e:((λe:Key×Dt=>decide (e.1=Bg n)) ∘ λe:c7×Int×Int=>((Bg e.1,ptD e.2):Key×Dt))=λe=>decide (e.1=n):=by
  funext e
  simp
 rw[e];cases S.marks.find? λe=>decide (e.1=n) <;> rfl
structure Few(S:BS):Prop where
 ma:S.marks.length<=60
 ba:S.banks.length<=60
 ru:S.runs.length<=60
 no:S.notes.length<=60
def uG(x:c7):Prop:=1<=x.length/\x.length<=8/\∀ c∈x.cps.toList,97<=c/\c<=122
def rT(p:Int×Int):Prop:=-1000<=p.1/\p.1<=1000/\-1000<=p.2/\p.2<=1000
def wk(p:Int×Int):Prop:=p≠(0,0)/\-100<=p.1/\p.1<=100/\-100<=p.2/\p.2<=100
def aft(S:BS):Deed->BS
 | .mark n x y=>{ S with marks:=S.marks++[(n,x,y)] }
 | .move n x y=>{ S with marks:=S.marks.map λe=>if e.1=n then(e.1,x,y) else e }
 | .unmark n=>{ S with marks:=S.marks.filter λe=>decide (e.1≠n) }
 | .bank n f=>{ S with banks:=S.banks++[(n,f)] }
 | .level n=>{ S with banks:=S.banks.filter λe=>decide (e.1≠n) }
 | .sail x y=>{ S with runs:=S.runs++[(x,y)] }
 | .right k x y=>{ S with runs:=S.runs.set k.toNat (x,y) }
 | .bearing m n a b c d=>{ S with notes:=S.notes++[(S.coming,.bearing m n a b c d)],coming:=S.coming+1 }
 | .range m l r=>{ S with notes:=S.notes++[(S.coming,.range m l r)],coming:=S.coming+1 }
 | .strike k=>{ S with notes:=S.notes.filter λe=>decide (e.1≠k) }
def nS(S:BS):Deed->Prop
 | .bearing _ _ _ _ _ _=>True
 | .range _ l r=>∃ p u,zS S l=G0 p/\zS S r=G0 u/\p≠u
 | _=>False
def qT(n:c7):Deed->Prop
 | .bearing _ k _ _ _ _=>k≠n
 | .range _ l r=>l≠n/\r≠n
 | _=>False
def dg(a:List (Int×Int)):Bool:=isB (a.map λc=>(0,c))
def okD(S:BS):Deed->Prop
 | .mark n x y=>uG n/\zS S n=G2/\rT (x,y)/\S.marks.length<20
 | .move n x y=>(zS S n).isSome=G3/\rT (x,y)/\∀ e∈S.notes,nS (aft S (.move n x y)) e.2
 | .unmark n=>(zS S n).isSome=G3/\∀ e∈S.notes,qT n e.2
 | .bank n f=>uG n/\n ∉ S.banks.map (·.1)/\(∀ c∈f,rT c)/\dg f=G3/\S.banks.length<8
 | .level n=>n∈S.banks.map (·.1)
 | .sail x y=>rT (x,y)/\S.runs.length<12
 | .right k x y=>0<=k/\k<S.runs.length/\rT (x,y)
 | .bearing m n a b c d=>0<=m/\m<=S.runs.length/\(zS S n).isSome=G3/\wk (a,b)/\wk (c,d)/\0<a*d-b*c/\S.notes.length<24
 | .range m l r=>0<=m/\m<=S.runs.length/\(zS S l).isSome=G3/\(zS S r).isSome=G3/\zS S l≠zS S r/\S.notes.length<24
 | .strike k=>k∈S.notes.map (·.1)
def Zw(S:BS):Prop:=∀ e∈S.notes,e.1<S.coming
def vi{a:List (Key×Dt)}{k:Key}(h:∀ e∈a,e.1≠k):bx a k d=a++[(k,d)]:=by
 unfold bx;rw[y3];intro z;obtain⟨e,b,q⟩:=Fq.mp z;rwa[h e b (of_decide_eq_true q)]
def aP(l:List (c7×Int×Int))(n:c7)(x y:Int):mkE (l++[(n,x,y)])=mkE l++[(.inr n,ptD (x,y))]:=by
 unfold mkE;rw[j6];rfl
def Zu(l:List (Int×Int))(x y:Int):rnE (l++[(x,y)])=rnE l++[(.inl (l.length:Int),ptD (x,y))]:=by
 unfold rnE;rw[List.zipIdx_append,j6];simp
def ap(l:List (Int×Deed))(k:Int)(D:Deed):ntE (l++[(k,D)])=ntE l++[(.inl k,D.dt)]:=by
 unfold ntE;rw[j6];rfl
def dX : ∀ e∈rnE l,e.1≠.inl (l.length:Int):=λe b z=>by
 unfold rnE at b;obtain⟨q,d,rfl⟩:=j9.mp b;obtain⟨f,c⟩:=q;have:=C4 d;have a:(Bf (c:Int):Key)=Bf (l.length:Int):=z;injection a with a
 simp at this;lia
def eZ(h:Zw S):∀ e∈ntE S.notes,e.1≠.inl S.coming:=λe b z=>by
 unfold ntE at b;obtain⟨q,c,rfl⟩:=j9.mp b;have:=h q c;have a:(Bf q.1:Key)=Bf S.coming:=z;injection a with a
 lia
def cV(h:zS S n=G2):∀ e∈mkE S.marks,e.1≠.inr n:=λe b z=>by
 unfold mkE at b;obtain⟨q,c,rfl⟩:=j9.mp b;have a:(Bg q.1:Key)=Bg n:=z;injection a with a
 unfold zS at h;rw[DG,B4] at h;rwa[h q c (by simp[a])]
def dG(a b c d e:V):pA [] [(.inr "marks",a),(.inr "banks",b),(.inr "runs",c),(.inr "notes",d),(.inr "coming",e)]=[(.inr "marks",a),(.inr "banks",b),(.inr "runs",c),(.inr "notes",d),(.inr "coming",e)]:=by symm
def tP{k:Int} : vB (stK m b r n k) (.inr "marks")=G0 (.ref m):=by symm
def yg{k:Int} : vB (stK m b r n k) (.inr "banks")=G0 (.ref b):=by symm
def tV{k:Int} : vB (stK m b r n k) (.inr "runs")=G0 (.ref r):=by symm
def qA{k:Int} : vB (stK m b r n k) (.inr "notes")=G0 (.ref n):=by symm
def sf{k:Int} : vB (stK m b r n k) (.inr "coming")=G0 (.int k):=by symm
def sk{k:Int} : yt (stK m b r n k) (.inr "marks") (.ref c)=stK c b r n k:=by symm
def lL{k:Int} : yt (stK m b r n k) (.inr "banks") (.ref c)=stK m c r n k:=by symm
def jf{k:Int} : yt (stK m b r n k) (.inr "runs") (.ref c)=stK m b c n k:=by symm
def mz{k:Int} : yt (stK m b r n k) (.inr "notes") (.ref c)=stK m b r c k:=by symm
def iO{k j:Int} : yt (stK m b r n k) (.inr "coming") (.int j)=stK m b r n j:=by symm
def Rd.same{H b:Hp}(h:Rd H a u)(s:Same H b):Rd b a u:=h.imp (s _ _) λ⟨o,e⟩=>⟨o,s _ _ e⟩
def qO.nil{H:Hp}(h:H a=G0 (.dK [])):qO H a []:=⟨[],.inl h,.nil⟩
def pq{H:Hp}(h:Rep H (ptD p) v):∃ a,v=.ref a/\H a=G0 (.tup [.int p.1,.int p.2]):=by
 obtain⟨a,b,e,h1,h2⟩:=yG.mp h;obtain⟨x,r,rfl,h3,h4⟩:=zI.mp h2;obtain⟨y,c,rfl,h5,h6⟩:=zI.mp h4;rw[yB.mp h3,yB.mp h5,yM.mp h6] at h1;rwa[a,e,h1]
def vQ{H:Hp}{p:Int×Int}(h:H a=G0 (.tup [.int p.1,.int p.2])):Rep H (ptD p) (.ref a):=yG.mpr ⟨a,_,rfl,h,.two (yB.mpr rfl) (yB.mpr rfl)⟩
section
variable{H:Hp}{v:V}
def eC{x y:Int}(h:Rep H (Deed.mark n x y).dt v):∃ a,v=.ref a/\H a=G0 (.tup [.str "mark",.str n,.int x,.int y]):=by
 obtain⟨a,g,e,h1,h2⟩:=yG.mp h;obtain⟨_,_,rfl,f,h2⟩:=zI.mp h2;obtain⟨_,_,rfl,d,h2⟩:=zI.mp h2;obtain⟨_,_,rfl,c,h2⟩:=zI.mp h2;obtain⟨_,_,rfl,b,h2⟩:=zI.mp h2;rw[zV.mp f,zV.mp d,yB.mp c,yB.mp b,yM.mp h2] at h1;rwa[a,e,h1]
def eQ{x y:Int}(h:Rep H (Deed.sail x y).dt v):∃ a,v=.ref a/\H a=G0 (.tup [.str "sail",.int x,.int y]):=by
 obtain⟨a,f,e,h1,h2⟩:=yG.mp h;obtain⟨_,_,rfl,d,h2⟩:=zI.mp h2;obtain⟨_,_,rfl,c,h2⟩:=zI.mp h2;obtain⟨_,_,rfl,b,h2⟩:=zI.mp h2;rw[zV.mp d,yB.mp c,yB.mp b,yM.mp h2] at h1;rwa[a,e,h1]
def qH{m:Int}{a b c d:Int}(h:Rep H (Deed.bearing m n a b c d).dt v):∃ t p q,v=.ref t/\H t=G0 (.tup [.str "bearing",.int m,.str n,.ref p,.ref q])/\H p=G0 (.tup [.int a,.int b])/\H q=G0 (.tup [.int c,.int d]):=by
 obtain⟨t,u,e,h1,h2⟩:=yG.mp h;obtain⟨_,_,rfl,l,h3⟩:=zI.mp h2;obtain⟨_,_,rfl,j,h4⟩:=zI.mp h3;obtain⟨_,_,rfl,i,h5⟩:=zI.mp h4;obtain⟨_,_,rfl,g,h6⟩:=zI.mp h5;obtain⟨_,_,rfl,f,h7⟩:=zI.mp h6;obtain⟨p,rfl,r⟩:=pq g;obtain⟨q,rfl,o⟩:=pq f;have s:=yM.mp h7;rw[zV.mp l,yB.mp j,zV.mp i,s] at h1;rwa[t,p,q,e,h1,r,o]
def vc{m:Int}(h:Rep H (Deed.range m l r).dt v):∃ t,v=.ref t/\H t=G0 (.tup [.str "range",.int m,.str l,.str r]):=by
 obtain⟨t,f,e,h1,h2⟩:=yG.mp h;obtain⟨_,_,rfl,d,h2⟩:=zI.mp h2;obtain⟨_,_,rfl,c,h2⟩:=zI.mp h2;obtain⟨_,_,rfl,b,h2⟩:=zI.mp h2;obtain⟨_,_,rfl,a,h2⟩:=zI.mp h2;rw[zV.mp d,yB.mp c,zV.mp b,zV.mp a,yM.mp h2] at h1;rwa[t,e,h1]
end
def mv{H:Hp}{k:Int}(h:Rep H (Deed.strike k).dt v):∃ t,v=.ref t/\H t=G0 (.tup [.str "strike",.int k]):=by
 obtain⟨t,c,e,h1,h2⟩:=yG.mp h;obtain⟨_,_,rfl,b,h2⟩:=zI.mp h2;obtain⟨_,_,rfl,a,h2⟩:=zI.mp h2;rw[zV.mp b,yB.mp a,yM.mp h2] at h1;rwa[t,e,h1]
def cy(l:List (Int×Deed))(k:Int):mr (ntE l) (.inl k)=ntE (l.filter λe=>decide (e.1≠k)):=by
 unfold mr ntE;rw[DP]
 congr 1
 erw[Dc λe _=>?_];simp
def cO{l:List (Int×Deed)}{k:Int}(h:k∈l.map (·.1)):∃ d,look (ntE l) (.inl k)=G0 d:=by
 obtain⟨e,a,rfl⟩:=j9.mp h;unfold look;cases q:(ntE l).find? λx=>decide (x.1=Bf e.1) with
 | none =>
  have:=B4.mp q (.inl e.1,e.2.dt) (j9.mpr ⟨e,a,rfl⟩);simp at this
 | some x=>rwa[x.2,U]
def StA.stKlen{k:Int} : (stK m b r n k).length<=100:=by show 5<=100; decide
def wG.le{H:Hp}(h:wG H a b){n:Nat}(c:b.length<=n):a.length<=n:=by rw[h.length]; rwa[c]
def oy(l:List (c7×Int×Int)):(mkE l).length=l.length:=by unfold mkE; rw[c5]
def zu(l:List (Int×Int)):(rnE l).length=l.length:=by unfold rnE; rw[c5,List.length_zipIdx]
def aT(l:List (Int×Deed)):(ntE l).length=l.length:=by unfold ntE; rw[c5]
end Sea

namespace Sea
def bkF(d p l:b6):List (c7×V):=[("state",.ref d),("past",.ref p),("later",.ref l)]
def yd : (bkF d p l).lookup ("state" : c7)=G0 (.ref d):=by symm
def eG : (bkF d p l).lookup ("past" : c7)=G0 (.ref p):=by symm
def oh : (bkF d p l).lookup ("later" : c7)=G0 (.ref l):=by symm
def xb : vf "state" (.ref c) (bkF d p l)=bkF c p l:=by symm
def nQ : vf "later" (.ref c) (bkF d p l)=bkF d p c:=by symm
def aS : vf "later" (.ref l) (vf "past" (.ref p) (vf "state" (.ref d) []))=bkF d p l:=by symm
def xQ(H:Hp):List (Deed×BS)->List V->Prop
 | [],a=>a=[]
 | (D,S)::r,a=>∃(t d:b6)(v:V)(b:List V),a=.ref t::b/\H t=G0 (.tup [v,.ref d])/\Rep H D.dt v/\jy H d S/\xQ H r b
structure BkA(C:b6)(H:Hp)(b p dx d l:b6)(ps ls:List V)(S:BS)(past later:List (Deed×BS)):Prop where
 ob:H b=G0 (.ins C dx (bkF d p l))
 st:jy H d S
 pa:H p=G0 (.lst ps)
 la:H l=G0 (.lst ls)
 pp:xQ H past ps
 ll:xQ H later ls
 ne:l≠p
def jh(C:b6)(H:Hp)(b p:b6)(S:BS)(past later:List (Deed×BS)):Prop:=∃ e d l a c,BkA C H b p e d l a c S past later
section
variable{φ:b6->Prop}{H H1:Hp}
def qO.samE(h:qO H a c)(s:xF φ H H1)(nd:∀ a b,Rd H a (.dK b)->¬ φ a)(e:∀ a d,H a=G0 (.tup d)->¬ φ a):qO H1 a c:=let ⟨b,h1,h2⟩:=h;⟨b,s.rd (nd _ _ h1) h1,h2.sam s e⟩
def jy.samE(h:jy H d S)(s:xF φ H H1)(nd:∀ a e,Rd H a (.dK e)->¬ φ a)(c:∀ a f,H a=G0 (.tup f)->¬ φ a):jy H1 d S :=
 let ⟨m,b,r,n,q⟩:=h;⟨m,b,r,n,s.rd (nd _ _ q.at_) q.at_,q.ma.samE s nd c,q.ba.samE s nd c,q.ru.samE s nd c,q.no.samE s nd c⟩
def xQ.samE(s:xF φ H H1)(nd:∀ a f,Rd H a (.dK f)->¬ φ a)(c:∀ a b,H a=G0 (.tup b)->¬ φ a):∀{l:List (Deed×BS)}{b:List V},xQ H l b->xQ H1 l b
 | [],_,h=>h
 | (D,S)::r,b,h=>by
  obtain⟨t,d,v,g,e,h1,h2,h3,h4⟩:=h;rwa[t,d,v,g,e,s.tup (c _ _ h1) h1,h2.sam s c,h3.samE s nd c,xQ.samE s nd c h4]
def xQ.app{D:Deed}{v:V}(h1:H t=G0 (.tup [v,.ref d]))(h2:Rep H D.dt v)(h3:jy H d S):∀{l:List (Deed×BS)}{a:List V},xQ H l a->xQ H (l++[(D,S)]) (a++[.ref t])
 | [],a,h=>by
  have h:a=[]:=h;rw[h];rwa[t,d,v,[],U,h1,h2,h3,U]
 | (p,o)::r,a,h=>by
  obtain⟨c,m,b,n,e,j,i,g,f⟩:=h;rw[e];rwa[c,m,b,_,U,j,i,g,xQ.app h1 h2 h3 f]
def xQ.len:∀{l:List (Deed×BS)}{a:List V},xQ H l a->a.length=l.length
 | [],a,h=>by have h:a=[]:=h; rw[h]; rfl
 | (D,S)::r,a,h=>by
  obtain⟨t,d,v,b,e,_,_,_,h4⟩:=h;rw[e,i6,i6,xQ.len h4]
abbrev Bp(b p:b6):b6->Prop:=λx=>x=b\/x=p
def bp_nd(e:H b=G0 (.ins C g fs))(d:H p=G0 (.lst f)):∀ a c,Rd H a (.dK c)->¬ Bp b p a:=λa c h z=>by
 rcases z with z | z <;> subst z <;> rcases h with h | ⟨o,h⟩
 ·rw[e] at h; cases h
 ·rw[e] at h; cases h
 ·rw[d] at h; cases h
 ·rw[d] at h; cases h
def XA(f:H b=G0 (.ins C g fs))(e:H p=G0 (.lst d)):∀ a c,H a=G0 (.tup c)->¬ Bp b p a:=λa c h z=>by
 rcases z with z | z <;> subst z
 ·rw[f] at h; cases h
 ·rw[e] at h; cases h
def BkA.to(k:BkA C H b p e d l a c S past later)(s:Sam H H1):BkA C H1 b p e d l a c S past later :=
 ⟨s.ins id k.ob,k.st.to s,s.lst id k.pa,s.lst id k.la,k.pp.samE s (λ_ _ _=>id) (λ_ _ _=>id),k.ll.samE s (λ_ _ _=>id) (λ_ _ _=>id),k.ne⟩
def jh.to(k:jh C H b p S past later)(s:Sam H H1):jh C H1 b p S past later:=let ⟨dx,d,l,ps,ls,q⟩:=k;⟨dx,d,l,ps,ls,q.to s⟩
def rV{m:c7}(h1:m ≠ "state")(h2:m ≠ "past")(h3:m ≠ "later"):(bkF d p l).lookup m=none:=by
 unfold bkF;rw[l6,y9.mpr h1,l6,y9.mpr h2,l6,y9.mpr h3];rfl
end
end Sea

namespace Sea
def lwK(m b r n:b6)(k:Int):List (Key×V):=[(.inr "marks",.ref m),(.inr "banks",.ref b),(.inr "runs",.ref r),(.inr "notes",.ref n),(.inr "next",.int k)]
structure LwA(H:Hp)(d m b r n:b6)(S:BS):Prop where
 at_:Rd H d (.dK (lwK m b r n S.coming))
 ma:qO H m (mkE S.marks)
 ba:qO H b (bkE S.banks)
 ru:∃ rs,H r=G0 (.lst rs)/\tO H (S.runs.map ptD) rs
 no:qO H n (ntE S.notes)
section
variable{φ:b6->Prop}{H H1:Hp}{d m b r n:b6}{S:BS}
def LwA.samE(h:LwA H d m b r n S)(s:xF φ H H1)(nd:∀ a f,Rd H a (.dK f)->¬ φ a)(c:∀ a e,H a=G0 (.tup e)->¬ φ a)(g:∀ e,H r=G0 (.lst e)->¬ φ r):LwA H1 d m b r n S :=
 ⟨s.rd (nd _ _ h.at_) h.at_,h.ma.samE s nd c,h.ba.samE s nd c,let ⟨rs,h1,h2⟩:=h.ru;⟨rs,s.lst (g _ h1) h1,h2.sam s c⟩,h.no.samE s nd c⟩
end
def ZN(runs:List (Int×Int))(i j:Nat):List (Int×Int):=(runs.drop (min i j)).take (max i j-min i j)
def bC(i j:Nat):Int:=if j<i then -1 else 1
def bG(runs:List (Int×Int))(i j:Nat):Int×Int:=(bC i j*((ZN runs i j).map (·.1)).sum,bC i j*((ZN runs i j).map (·.2)).sum)
end Sea

namespace Sea
section
variable{H H1:Hp}
def oA:∀{l:List (Int×Deed)}{a:List (Key×V)},wG H a (ntE l)->∃ b:List (Int×V),a=b.map (λe=>(.inl e.1,e.2))/\b.map (·.1)=l.map (·.1)/\tO H (l.map (·.2.dt)) (b.map (·.2))
 | [],_,h=>⟨[],h.nil_iff,rfl,yM.mpr rfl⟩
 | (n,D)::l,_,h=>by
  obtain⟨v,r,rfl,h1,h2⟩:=wG.cons_iff.mp h;obtain⟨b,rfl,e,h3⟩:=oA (l:=l) h2;rwa[(n,v)::b,U,by rw[i7,i7,e],zI.mpr ⟨v,_,U,h1,h3⟩]
structure NotesAt(H:Hp)(as:List b6)(l:List (Int×Deed)):Prop where
 len:as.length=l.length
 at_:∀(j:Nat)(a:b6)(e:Int×Deed),as[j]?=G0 a->l[j]?=G0 e->∃ v,H a=G0 (.tup [.int e.1,v])/\Rep H e.2.dt v
def Yh(S:BS):Prop:=(S.notes.map (·.1)).Pairwise (· < ·)
def pF(h:zS S n=G0 p):(n,p)∈S.marks:=by
 unfold zS at h;rw[j5] at h;obtain⟨e,h1,rfl⟩:=h;have h2:=List.find?_some h1;have a:e.1=n:=of_decide_eq_true h2;rw[<- a];rwa[List.mem_of_find?_eq_some h1]
def pT:∀{l:List (Int×Int)}{k i:Nat}{p:Int×Int},l[i]?=G0 p->look ((l.zipIdx k).map λe=>((.inl (e.2:Int):Key),ptD e.1)) (.inl ((k+i:Nat):Int))=G0 (ptD p)
 | [],_,_,_,e=>by simp at e
 | q::l,k,0,p,e=>by
  simp at e;subst e;simp[look,AB]
 | q::l,k,i+1,p,e=>by
  have a:=pT (l:=l) (k:=k+1) (i:=i) (p:=p) (by simpa using e);rw[AB,i7];unfold look at a ⊢;rw[w9,y7 (by intro z; injection z with z; simp at z; lia)];rw[show k+1+i=k+(i+1) by lia] at a;rwa[a]
def cg{S:BS}{i:Nat}(h:qO H r (rnE S.runs))(e:S.runs[i]?=G0 p):∃(b:List (Key×V))(a:b6),Rd H r (.dK b)/\vB b (.inl (i:Int))=G0 (.ref a)/\H a=G0 (.tup [.int p.1,.int p.2]):=by
 obtain⟨b,h1,h2⟩:=h;have:=pT (k:=0) e;rw[DI] at this;obtain⟨v,g,r⟩:=h2.get (k:=.inl (i:Int)) (d:=ptD p) this;obtain⟨a,rfl,c⟩:=pq r;rwa[b,a,h1,g,c]
end
section
variable{H H1:Hp}{S:BS}
structure MarksAt(H:Hp)(S:BS)(as:List b6)(ms:List c7):Prop where
 mk ::
 len:as.length=ms.length
 at_:∀(j:Nat)(a:b6)(n:c7),as[j]?=G0 a->ms[j]?=G0 n->∃ p:Int×Int,zS S n=G0 p/\H a=G0 (.tup [.str n,.int p.1,.int p.2])
end
end Sea

namespace Sea
structure XB(H:Hp)(as:List b6)(rows:List (List Int)):Prop where
 mk ::
 len:as.length=rows.length
 at_:∀(j:Nat)(a:b6)(r:List Int),as[j]?=G0 a->rows[j]?=G0 r->H a=G0 (.tup (r.map V.int))
def vH(S:BS)(n:c7):Int×Int:=(zS S n).getD (0,0)
def YL(S:BS):Deed->List (List Int)
 | .bearing _ n a b c d=>[iU [-b,a,a*(vH S n).2-b*(vH S n).1],iU [d,-c,(vH S n).1*d-(vH S n).2*c]]
 | .range _ l r=>[iU [(vH S l).2-(vH S r).2,(vH S r).1-(vH S l).1,(vH S r).1*(vH S l).2-(vH S r).2*(vH S l).1]]
 | _=>[]
def pushR(x y:Int):List Int->List Int
 | [a,b,c]=>[a,b,c+a*x+b*y]
 | l=>l
def jd:Deed->Int
 | .bearing m _ _ _ _ _=>m
 | .range m _ _=>m
 | _=>0
def ZI(S:BS)(j:Nat)(D:Deed):List (List Int):=(YL S D).map (pushR (bG S.runs (jd D).toNat j).1 (bG S.runs (jd D).toNat j).2)
def yw(S:BS):Deed->Prop
 | .bearing m n a b c d=>0<=m/\m<=S.runs.length/\(zS S n).isSome=G3/\wk (a,b)/\wk (c,d)
 | .range m l r=>0<=m/\m<=S.runs.length/\(zS S l).isSome=G3/\(zS S r).isSome=G3/\zS S l≠zS S r
 | _=>False
structure ZA(S:BS):Prop where
 few:Few S
 fresh:Zw S
 rise:Yh S
 mk_:∀ e∈S.marks,rT e.2
 way:∀ e∈S.runs,rT e
 note:∀ e∈S.notes,yw S e.2
structure GroupsAt(H0 H:Hp)(gs:List b6)(rows:List (List (List Int))):Prop where
 mk ::
 len:gs.length=rows.length
 new:∀ g∈gs,H0 g=G2
 at_:∀(j:Nat)(g:b6)(r:List (List Int)),gs[j]?=G0 g->rows[j]?=G0 r->∃ as:List b6,H g=G0 (.lst (as.map V.ref))/\XB H as r
def lW{H:Hp}{m:Int}{a b c d:Int}(e:H w=G0 (.tup [.str "bearing",.int m,.str n,.ref p,.ref q]))(g:H p=G0 (.tup [.int a,.int b]))(f:H q=G0 (.tup [.int c,.int d])):Rep H (Deed.bearing m n a b c d).dt (.ref w) :=
 yG.mpr ⟨w,_,rfl,e,zI.mpr ⟨_,_,rfl,zV.mpr rfl,zI.mpr ⟨_,_,rfl,yB.mpr rfl,zI.mpr ⟨_,_,rfl,zV.mpr rfl,.two (vQ (p:=(a,b)) g) (vQ (p:=(c,d)) f)⟩⟩⟩⟩
def iZ{H:Hp}{m:Int}(a:H w=G0 (.tup [.str "range",.int m,.str l,.str r])):Rep H (Deed.range m l r).dt (.ref w) :=
 yG.mpr ⟨w,_,rfl,a,zI.mpr ⟨_,_,rfl,zV.mpr rfl,zI.mpr ⟨_,_,rfl,yB.mpr rfl,.two (zV.mpr rfl) (zV.mpr rfl)⟩⟩⟩
def dq{H:Hp}{x y:Int}(a:H w=G0 (.tup [.str "mark",.str n,.int x,.int y])):Rep H (Deed.mark n x y).dt (.ref w) :=
 yG.mpr ⟨w,_,rfl,a,zI.mpr ⟨_,_,rfl,zV.mpr rfl,zI.mpr ⟨_,_,rfl,zV.mpr rfl,.two (yB.mpr rfl) (yB.mpr rfl)⟩⟩⟩
def ij{H:Hp}{k:Int}(a:H w=G0 (.tup [.str "strike",.int k])):Rep H (Deed.strike k).dt (.ref w) :=
 yG.mpr ⟨w,_,rfl,a,.two (zV.mpr rfl) (yB.mpr rfl)⟩
def ce{H:Hp}{x y:Int}(a:H w=G0 (.tup [.str "sail",.int x,.int y])):Rep H (Deed.sail x y).dt (.ref w) :=
 yG.mpr ⟨w,_,rfl,a,zI.mpr ⟨_,_,rfl,zV.mpr rfl,.two (yB.mpr rfl) (yB.mpr rfl)⟩⟩
end Sea

namespace Sea
def tY{e:c7×Int×Int}(h:(zS S n).isSome=G3):zS { S with marks:=S.marks++[e] } n=zS S n:=by
 unfold zS at h ⊢;dsimp only;rw[List.find?_append];cases q:S.marks.find? λe=>decide (e.1=n) with
 | none=>rw[q] at h; simp at h
 | some a=>rfl
def iw{e:c7×Int×Int}(h:yw S D):yw { S with marks:=S.marks++[e] } D:=by
 match D,h with
 | .bearing m n a b c d,h=>rwa[h.1,h.2.1,by rw[tY h.2.2.1]; exact h.2.2.1,h.2.2.2]
 | .range m l r,h=>rwa[h.1,h.2.1,by rw[tY h.2.2.1]; exact h.2.2.1,by rw[tY h.2.2.2.1]; exact h.2.2.2.1,by rw[tY h.2.2.1,tY h.2.2.2.1]; exact h.2.2.2.2]
def fM{e:Int×Int}(h:yw S D):yw { S with runs:=S.runs++[e] } D:=by
 match D,h with
 | .bearing m n a b c d,h=>exact⟨h.1,by have:=h.2.1; dsimp only; rw[d5]; simp only[i6,Au]; lia,h.2.2⟩
 | .range m l r,h=>exact⟨h.1,by have:=h.2.1; dsimp only; rw[d5]; simp only[i6,Au]; lia,h.2.2⟩
def xq{l:List (Int×Deed)}{k:Int}(h:yw S D):yw { S with notes:=l,coming:=k } D:=by
 match D,h with
 | .bearing m n a b c d,h=>rwa[h]
 | .range m l r,h=>rwa[h]
def cj:ZA BS.nil:=⟨⟨by decide,by decide,by decide,by decide⟩,λe a=>(nomatch a),.nil,λe a=>(nomatch a),λe a=>(nomatch a),λe a=>(nomatch a)⟩
def lv(g:ZA S)(kn:yw S D)(l:S.notes.length<24):ZA { S with notes:=S.notes++[(S.coming,D)],coming:=S.coming+1 }:=by
 refine⟨⟨g.few.ma,g.few.ba,g.few.ru,by show(S.notes++[_]).length<=60; rw[d5]; simp only[i6,Au]; lia⟩,λe a=>?_,?_,g.mk_,g.way,λe a=>?_⟩
 ·rcases w6.mp a with z | z
  ·have:=g.fresh e z;show e.1<S.coming+1;lia
  ·rw[f7.mp z];show S.coming<S.coming+1;lia
 ·show((S.notes++[(S.coming,D)]).map (·.1)).Pairwise (· < ·);rw[j6,List.pairwise_append];erw[g.rise,List.pairwise_singleton _ _,λx c y b=>?_];obtain⟨e,a,rfl⟩:=j9.mp c;rw[f7.mp b];rwa[g.fresh e a]
 ·rcases w6.mp a with z | z
  ·rwa[xq (g.note e z)]
  ·rw[f7.mp z];rwa[xq kn]
def xu{n k:c7}{x y:Int} : ∀{l:List (c7×Int×Int)},((l.map λe=>if e.1=n then(e.1,x,y) else e).find? λe=>decide (e.1=k)).map (·.2)=((l.find? λe=>decide (e.1=k)).map (·.2)).map λp=>if k=n then(x,y) else p
 | []=>rfl
 | (m,p)::l=>by
  rw[i7,w9,w9];by_cases b:m=n
  ·rw[y4 b];by_cases a:m=k
   ·subst b a;simp
   ·rw[y7 (show ¬ (m,x,y).1=k from a)];rwa[xu]
  ·rw[y3 b];by_cases a:m=k
   ·subst a;simp[b]
   ·rw[y7 (show ¬ (m,p).1=k from a)];rwa[xu]
def lN{x y:Int} : zS (aft S (.move n x y)) k=(zS S k).map λp=>if k=n then(x,y) else p:=xu
def wS{n k:c7}(h:k≠n):zS (aft S (.unmark n)) k=zS S k:=by
 unfold zS;show(List.find? _ (S.marks.filter _)).map _=_;rw[List.find?_filter]
 congr 2
 funext e
 by_cases z:e.1=k
 ·simp[z,h]
 ·simp[z]
def vD{x y:Int}(h:(zS S k).isSome=G3):(zS (aft S (.move n x y)) k).isSome=true:=by
 rw[lN,A9];rwa[h]
def iI{x y:Int}(h:yw S D)(g:nS (aft S (.move n x y)) D):yw (aft S (.move n x y)) D:=by
 match D,h,g with
 | .bearing m k a b c d,h,_=>rwa[h.1,h.2.1,vD h.2.2.1,h.2.2.2]
 | .range m l r,h,⟨p,u,f,e,ne⟩=>rwa[h.1,h.2.1,vD h.2.2.1,vD h.2.2.2.1,by rw[f,e]; exact λz=>ne (o0 z)]
def mF(h:yw S D)(g:qT n D):yw (aft S (.unmark n)) D:=by
 match D,h,g with
 | .bearing m k a b c d,h,g=>rwa[h.1,h.2.1,by rw[wS g]; exact h.2.2.1,h.2.2.2]
 | .range m l r,h,g=>rwa[h.1,h.2.1,by rw[wS g.1]; exact h.2.2.1,by rw[wS g.2]; exact h.2.2.2.1,by rw[wS g.1,wS g.2]; exact h.2.2.2.2]
def xt{S f:BS}(h:yw S D)(i:f.marks=S.marks)(g:f.runs.length=S.runs.length):yw f D:=by
 have e:∀ n,zS f n=zS S n:=λn=>by unfold zS; rw[i]
 match D,h with
 | .bearing m k a b c d,h=>rwa[h.1,by rw[g]; exact h.2.1,by rw[e]; exact h.2.2.1,h.2.2.2]
 | .range m l r,h=>rwa[h.1,by rw[g]; exact h.2.1,by rw[e]; exact h.2.2.1,by rw[e]; exact h.2.2.2.1,by rw[e,e]; exact h.2.2.2.2]
def cY(g:ZA S)(ok:okD S D):ZA (aft S D):=by
 match D,ok with
 | .mark n x y,ok =>
  refine⟨⟨by show(S.marks++[_]).length<=60; rw[d5]; have:=ok.2.2.2; simp only[i6,Au]; lia,g.few.ba,g.few.ru,g.few.no⟩,g.fresh,g.rise,λe f=>?_,g.way,λe f=>iw (g.note e f)⟩;rcases w6.mp f with z | z
  ·rwa[g.mk_ e z]
  ·rw[f7.mp z];rwa[ok.2.2.1]
 | .sail x y,ok =>
  refine⟨⟨g.few.ma,g.few.ba,by show(S.runs++[_]).length<=60; rw[d5]; have:=ok.2; simp only[i6,Au]; lia,g.few.no⟩,g.fresh,g.rise,g.mk_,λe f=>?_,λe f=>fM (g.note e f)⟩;rcases w6.mp f with z | z
  ·rwa[g.way e z]
  ·rw[f7.mp z];rwa[ok.1]
 | .bearing m n a b c d,ok=>rwa[lv g ⟨ok.1,ok.2.1,ok.2.2.1,ok.2.2.2.1,ok.2.2.2.2.1⟩ ok.2.2.2.2.2.2]
 | .range m l r,ok=>rwa[lv g ⟨ok.1,ok.2.1,ok.2.2.1,ok.2.2.2.1,ok.2.2.2.2.1⟩ ok.2.2.2.2.2]
 | .move n x y,ok =>
  refine⟨⟨by show(S.marks.map _).length<=60; rw[c5]; exact g.few.ma,g.few.ba,g.few.ru,g.few.no⟩,g.fresh,g.rise,λe f=>?_,g.way,λe f=>iI (g.note e f) (ok.2.2 e f)⟩;obtain⟨h,h1,rfl⟩:=j9.mp f;by_cases z:h.1=n
  ·rw[y4 z];rwa[ok.2.1]
  ·rw[y3 z];rwa[g.mk_ h h1]
 | .unmark n,ok =>
  rwa[⟨g9 (Ax _ _) g.few.ma,g.few.ba,g.few.ru,g.few.no⟩,g.fresh,g.rise,λe f=>g.mk_ e (Bu.mp f).1,g.way,λe f=>mF (g.note e f) (ok.2 e f)]
 | .bank n i,ok =>
  exact⟨⟨g.few.ma,by show(S.banks++[_]).length<=60; rw[d5]; have:=ok.2.2.2.2; simp only[i6,Au]; lia,g.few.ru,g.few.no⟩,g.fresh,g.rise,g.mk_,g.way,λe f=>xt (g.note e f) rfl rfl⟩
 | .level n,_ =>
  rwa[⟨g.few.ma,g9 (Ax _ _) g.few.ba,g.few.ru,g.few.no⟩,g.fresh,g.rise,g.mk_,g.way,λe f=>xt (g.note e f) rfl rfl]
 | .right k x y,ok =>
  refine⟨⟨g.few.ma,g.few.ba,by show(S.runs.set _ _).length<=60; rw[FE]; exact g.few.ru,g.few.no⟩,g.fresh,g.rise,g.mk_,λe f=>?_,λe f=>xt (g.note e f) rfl (by show(S.runs.set _ _).length=_; rw[FE])⟩;rcases List.mem_or_eq_of_mem_set f with z | z
  ·rwa[g.way e z]
  ·rw[z];rwa[ok.2.2]
 | .strike k,_ =>
  erw[⟨g.few.ma,g.few.ba,g.few.ru,g9 (Ax _ _) g.few.no⟩,λe f=>g.fresh e (Bu.mp f).1,?_,g.mk_,g.way,λe f=>xq (g.note e (Bu.mp f).1)];rwa[g.rise.sublist (List.filter_sublist.map _)]
def fL:BS->List Deed->Prop
 | _,[]=>True
 | S,D::r=>okD S D/\fL (aft S D) r
def Yb(S:BS)(l:List Deed):BS:=l.foldl aft S
structure SmallN(no:List (Int×Deed))(k:Int)(i:Nat):Prop where
 mk ::
 len:no.length=i
 num:k=1+(i:Int)
 pos:∀ e∈no,1<=e.1
def fourK:Deed->Prop
 | .mark _ _ _ | .sail _ _ | .bearing _ _ _ _ _ _ | .range _ _ _=>True
 | _=>False
structure MarksN(S:BS):Prop where
 mk ::
 lo:3<=S.marks.length
 hi:S.marks.length<=5
 bd:∀ e∈S.marks,e.2.1.natAbs<=860/\e.2.2.natAbs<=860
 bk:S.banks=[]
end Sea

namespace Sea
def stN(l:List (c7×Int×Int))(a:List (Int×Int))(no:List (Int×Deed))(k:Int):BS:=⟨l,[],a,no,k⟩
section
variable{l:List (c7×Int×Int)}{rs:List (Int×Int)}{no:List (Int×Deed)}{k:Int}
structure Done(Ds:List Deed)(l:List (c7×Int×Int))(rs:List (Int×Int))(no:List (Int×Deed))(k:Int):Prop where
 mk ::
 ok:fL BS.nil Ds
 at_:Yb BS.nil Ds=stN l rs no k
 four:∀ D∈Ds,fourK D
end
end Sea

namespace L2
def px(o:Ad)(f:Array b7->Array b7):(AE f o).dict=o.dict:=by unfold AE; split <;> rfl
abbrev EK:=b7×Option b6
def kE(h base:j3)(e:b6)(k:EK)(f:b7):Prop :=
 ∃ a b T d c,h.get? e=G0 a/\(a.cls=k.1/\a.dict=k.2/\b[2]?=G0 .none)/\a.data=.fields b/\b[1]?=G0 (.ref T)/\base.get? T=G2/\T≠e/\h.get? T=G0 d/\d.data=.fields c/\c[3]?=G0 f
def uF(base:j3)(l:List Cj)(e:b6)(k:EK)(h:j3):Prop:=base.StaysIn h/\base.get? e=G2/\h.FunFrames base l/\kE h base e k .none
def dN(base:j3)(l:List Cj)(e:b6)(k:EK)(L:b6)(h:j3):Prop:=base.StaysIn h/\base.get? e=G2/\h.FunFrames base l/\kE h base e k (rawInt L)
def lj(a:b6)(k:EK)(h:j3):Prop:=∃ ob b,h.get? a=G0 ob/\ob.cls=k.1/\ob.dict=k.2/\ob.data=.fields b/\b[2]?=G0 .none
def uF.there{k:EK}(x:uF base l e k h):lj e k h:=by
 obtain⟨_,_,_,c,b,_,_,_,d,a,hd,_⟩:=x;rwa[c,b,d,a.1,a.2.1,hd,a.2.2]
section
variable{M:FL}{A:u8}{E:b7->b9->Prop}{s:b9}
def bf{env:Cj}{outer:List Cj}{head:b7}{Q:Unit->b9->Prop}
  (X:A.frames=G0 (env::outer)) (O:s.heap.FunFrames base (env::outer)) (hf:env.frame=G0 L)
  (P:s.heap.get? e=G0 y) (T:base.StaysIn s.heap) (I:base.get? e=G2) (hd:y.data=.fields t) (z:1<t.size) (h0:t[2]?=G0 .none)
  (h:∀ Y,dN base (env::outer) e (y.cls,y.dict) L Y->s.heap.UpToSlots Y->Q () { s with heap:=Y }) :
  wpAny M A (do let a <- frameOf env; let x <- entryPlaceOf L r; let b <- Eo head a .none (rawInt L) .none x; setField (.ref e) 1 b) Q E s:=by
 have H:e ∉ (env::outer).filterMap (·.frame):=λS=>by
  obtain⟨_,o,N,f⟩:=O.mem S;rw[P] at N; injection N with N; subst N; rwa[f t hd]
 erw[b0 (wpAny_frameOf_fun X O hf λc d=>?_)];erw[b0 (wpAny_entryPlaceOf λx B=>?_)];unfold Eo newFields;erw[b0 (v5 ?_ (B.sizeOk5 _ _ _ _ _))];have n:c.get? e=G0 y:=(d.2.1 e H).trans P;have l:base.StaysIn c:=λb o g=>(d.2.1 b λS=>by rw[(O.mem S).1] at g; cases g).trans (T b o g);generalize G:({ cls:=.type "traceback",dict:=G2,data:=.fields ([head,.ref L,.none,rawInt L,.none]++(if x.isEmpty then i9 6 v3 else x)).toArray } : Ad)=ob;have C:ob.isFreed=false:=by rw[<- G]; rfl
 have D:ob.data=.fields ([head,.ref L,.none,rawInt L,.none]++(if x.isEmpty then i9 6 v3 else x)).toArray:=by rw[<- G]
 have m:=b8 (h:=c) ob n;erw[AT m hd z (h _ ?_ ?_)]
 ·have J:c.objs.size≠e:=CH (d7 n);have p:=AA hd (·.setIfInBounds 1 (e8 c.objs.size));have u:=Ai (AE (·.setIfInBounds 1 (e8 c.objs.size))) m (AX p);have w:=(o8 (c.push ob) (AE (·.setIfInBounds 1 (e8 c.objs.size))) (Av J)).trans (d6 c C);have keep:∀ b o,b≠e->c.get? b=G0 o->((c.push ob).update e (AE (·.setIfInBounds 1 (e8 c.objs.size)))).get? b=G0 o:=λb o v i=>by
   rw[o8 _ _ (Av v)];rwa[b8 _ i]
  have j:∀ b o,s.heap.get? b=G0 o->(∀ t,o.data≠.fields t)->b≠e:=λb o i f q=>by
   rw[q,P] at i; injection i with i; subst i; rwa[f t hd]
  refine⟨λb o g=>keep b o (λq=>by rw[q,I] at g; cases g) (l b o g),I,O.of_keeps λb o i f=>?_,?_⟩
  ·obtain⟨Z,R⟩:=d.2.2 b o i;rwa[_,keep b _ (j b o i f) R,U]
  ·exact⟨_,_,c.objs.size,_,_,u,⟨Ce _ _,px _ _,by rw[Array.getElem?_setIfInBounds_ne (by decide)]; rwa[h0]⟩,p,by simp[z],l.fresh,J,w,D,by first | (simp; done) | (rcases B with rfl | ⟨_,_,_,_,_,_,_,rfl⟩ <;> simp)⟩
 ·intro b o i f;have v:b≠e:=λq=>by rw[q,P] at i; injection i with i; subst i; rwa[f t hd]
  obtain⟨Z,R⟩:=d.2.2 b o i;exists Z;rw[o8 _ _ (Av v)];rwa[b8 _ R]
def qp{env:Cj}{outer:List Cj}{Q:Unit->b9->Prop}
  (d:A.frames=G0 (env::outer)) (l:s.heap.FunFrames base (env::outer)) (i:env.frame=G0 L)
  (j:s.heap.get? e=G0 a) (c:base.StaysIn s.heap) (f:base.get? e=G2) (hd:a.data=.fields b) (h1:b[1]?=G0 .none) (h0:b[2]?=G0 .none)
  (h:∀ g,dN base (env::outer) e (a.cls,a.dict) L g->s.heap.UpToSlots g->Q () { s with heap:=g }):wpAny M A (noteFrame (.ref e) env) Q E s:=by
 unfold noteFrame;simp only[i];erw[b0 (t6 j hd h1 ?_)];rw[y3 (by decide)];rwa[bf d l i j c f hd (At.mp h1).1 h0 h]
def mM{env:Cj}{outer:List Cj}{cls:EK}{Q:Unit->b9->Prop}
  (r:A.frames=G0 (env::outer)) (y:env.frame=G0 L) (t:uF base (env::outer) e cls s.heap)
  (h:∀ m,dN base (env::outer) e cls L m->s.heap.UpToSlots m->Q () { s with heap:=m }):wpAny M A (noteFrame (.ref e) env) Q E s:=by
 obtain⟨p,u,G,H,x,T,I,D,z,⟨g,l,h0⟩,hd,h1,n,v,w,i,h3⟩:=t;obtain⟨kc,kd⟩:=cls;dsimp only at g l;subst g l;unfold noteFrame;simp only[y];refine b0 (t6 z hd h1 ?_);rw[y4 (show(e8 T != v3)=G3 from by simp)];refine b0 (t6 w i h3 ?_);rw[y3 (show ¬ ((v3 == rawInt L)=G3) from by simp[rawInt])];refine b0 (AT w i (At.mp h3).1 ?_);have c:∀ b,b≠T->(s.heap.update T (AE (·.setIfInBounds 3 v3))).get? b=s.heap.get? b:=λb f=>o8 _ _ (Av f);have a:∀ b o,s.heap.get? b=G0 o->(∀ x,o.data≠.fields x)->b≠T:=λb o f d q=>by
  rw[q,w] at f; injection f with f; subst f; rwa[d D i]
 refine bf r (G.of_keeps λb o f d=>⟨o,(c b (a b o f d)).trans f,rfl⟩) y ((c e (Av v)).trans z)
  (λb o j=>(c b λq=>by rw[q,n] at j; cases j).trans (p b o j)) u hd (At.mp h1).1 h0
  λm C B=>h m C λb o f d=>B b o ((c b (a b o f d)).trans f) d
def fy{base:j3}{cls:EK}{Q:Unit->b9->Prop}(D:base.StaysIn s.heap/\base.get? e=G2/\s.heap.FunFrames base l/\kE s.heap base e cls G)
  (h:∀ x,uF base l e cls x->s.heap.UpToSlots x->Q () { s with heap:=x }):wpAny M A (setFlight (.ref e) G2) Q E s:=by
 obtain⟨u,v,C,B,t,T,H,y,z,p,hd,h1,n,r,w,i,h3⟩:=D;have j:3<y.size:=(At.mp h3).1;have c:∀ b,b≠T->(s.heap.update T (AE (·.setIfInBounds 3 ((G2:Option b6).elim v3 λf=>rawInt f)))).get? b=s.heap.get? b :=
  λb d=>o8 _ _ (Av d)
 have a:∀ b o,s.heap.get? b=G0 o->(∀ t,o.data≠.fields t)->b≠T:=λb o d g q=>by
  rw[q,w] at d; injection d with d; subst d; rwa[g y i]
 unfold setFlight;refine b0 (t6 z hd h1 ?_);rw[y4 (show(e8 T != v3)=G3 from by simp)];refine AT w i j (h _ ⟨λb o m=>(c b λq=>by rw[q,n] at m; cases m).trans (u b o m),v,
  C.of_keeps λb o d g=>⟨o,(c b (a b o d g)).trans d,rfl⟩,?_⟩ λb o d g=>⟨o.slots,(c b (a b o d g)).trans d⟩)
 rwa[B,t,T,_,_,(c e (Av r)).trans z,p,hd,h1,n,r,Ai _ w (AX (AA i _)),AA i _,by simp[j]]
def jJ{cls:EK}{Q:Unit->b9->Prop}(b:dN base l e cls L s.heap)
  (h:∀ a,uF base l e cls a->s.heap.UpToSlots a->Q () { s with heap:=a }):wpAny M A (setFlight (.ref e) G2) Q E s:=fy b h
def nh{cls:EK}{Q:Unit->b9->Prop}(b:uF base l e cls s.heap)
  (h:∀ a,uF base l e cls a->s.heap.UpToSlots a->Q () { s with heap:=a }):wpAny M A (setFlight (.ref e) G2) Q E s:=fy b h
def im{env:Cj}{outer:List Cj}{cls:EK}{Q:Unit->b9->Prop}
  (a:A.frames=G0 (env::outer)) (m:env.frame=G0 L) (b:uF base (env::outer) e cls s.heap)
  (n:∀ c,uF base outer e cls c->s.heap.UpToSlots c->Q () { s with heap:=c }):wpAny M A (leaving env (.ref e)) Q E s:=by
 unfold leaving;erw[b0 (mM a m b λh1 d g=>?_)];erw[jJ d λh2 ⟨l,j,⟨_,_,i⟩,h⟩ f=>n h2 ⟨l,j,i,h⟩ (g.trans f)]
def my{base h:j3}{env:Cj}{outer:List Cj}{Q:Unit->b9->Prop}
  (f:A.frames=G0 (env::outer)) (x:env.frame=G0 L) (a:base.StaysIn h) (w:h.FunFrames base (env::outer)) (d:CV h s.heap e cls args)
  (z:∀ g,uF base outer e (cls,G2) g->s.heap.UpToSlots g->Q () { s with heap:=g }):wpAny M A (leaving env (.ref e)) Q E s:=by
 obtain⟨t,y,u,B⟩:=d.there;have fresh:∀ b,h.get? b=G2->base.get? b=none:=λb c=>by
  cases v:base.get? b with
  | none=>rfl
  | some m=>have:=a b m v; rw[c] at this; cases this
 unfold leaving;erw[b0 (qp f (w.of_keeps λb o c _=>⟨o,d.keeps b o c,rfl⟩) x y (λb o c=>d.keeps b o (a b o c)) (fresh e d.new) rfl rfl rfl λh1 i l=>?_)];erw[jJ i λh2 ⟨r,q,⟨_,_,p⟩,n⟩ j=>z h2 ⟨r,q,p,n⟩ (l.trans j)]
end
end L2

namespace L2
def pX:plainId "proto.unchain" = true:=by ac_nf
def oE:entryFor table "proto.unchain" = G0 Cn.«proto.unchain»:=entryFor_of_tree (by symm)
def mC(h:j3)(x:b6):Prop:=∃ ob a,h.get? x=G0 ob/\ob.data=.fields a/\a[2]?=G0 .none
section
variable{prog:e9}{w:i5}{A:u8}{E:b7->b9->Prop}{s:b9}
def xz{c:Type}{x e:b6}{d:Ad}{ws:Array b7}{Q:c->b9->Prop}(j:A.handled=G0 (.ref x))(a:x≠e)(l:mC s.heap x)(f:s.heap.get? e=G0 d)(b:d.data=.fields ws)(g:2<ws.size)
  (h:E (.ref e) { s with heap:=s.heap.update e (AE (·.setIfInBounds 2 (.ref x))) }):wpAny (model prog w) A (raiseNew (.ref e):FG c) Q E s:=by
 obtain⟨n,m,i,hd,h2⟩:=l;unfold raiseNew;erw[b0 (wpAny_handled ?_)];rw[j];dsimp only;rw[y4 (show(e8 x != e8 e)=G3 by simpa using a)];erw[b0 (Aj (wpAny_runValue (codeAny_builtin oE ?_)))];rw[Around.under_plainId pX _];unfold Cn.«proto.unchain»;dsimp only;erw[b0 (t6 i hd h2 ?_)];rw[y4 (by rfl)];erw[b0 (c9 (c9 ?_))];erw[b0 ?_];unfold updateField;erw[b0 (wpAny_load f ?_)];rw[b];dsimp only;rw[y4 g];rwa[wpAny_update f (wpAny_throw h)]
def pz{x f l:b6}{i:Nat}{Q:Option b7->b9->Prop}(t:A.handled=G0 (.ref x))(G:mC s.heap x)(h:x≠f)
  (d:s.heap.IsListIter f l i) (C:s.heap.IsList l c) (B:c[i]?=G2)
  (H:∀ u,Cq f s.heap u->Q G2 { s with heap:=u }):wpAny (model prog w) A (pyNext (.ref f)) Q E s:=by
 obtain⟨o,n,L,hd⟩:=id d;obtain⟨I,j,_,J,q⟩:=C;unfold pyNext;refine b0 (Bx (z9 (name:=d4 "__next__") d.typeIs Dj
  (AQ Dj d.typeIs PySem.entry_listiter_next ?_ (PySem.args_listiter_next _))))
 show wpAny _ _ (field (.ref f) 0 >>= _) _ _ s;erw[b0 (t6 n hd (x:=.ref l) rfl ?_)];show wpAny _ _ (if (e8 l == v3)=G3 then _ else _) _ _ s;rw[y3 (show ¬ ((e8 l == v3)=G3) from g7)];show wpAny _ _ (field (.ref f) 1 >>= _) _ _ s;erw[b0 (t6 n hd (x:=.int i 0) rfl ?_)];show wpAny _ _ (seqItems? (.ref l) >>= _) _ _ s;erw[b0 (As j q ?_)];simp only[BD,B];erw[b0 (DF (b0 (AT n hd (by simp) ?_)))];show wpAny _ _ (newExc (.type "StopIteration") [] >>= _) _ _ _;erw[b0 ?_];simp only[newExc,newTuple];erw[b0 (v5 ?_ (by size_fits))];refine b0 (m:=firstArgMember _ _) (B8 (a:=v3) (by first | rfl | (simp only[firstArgMember]; rfl)) ?_);erw[v5 ?_ (by size_fits)];obtain⟨y,v,g,p,r⟩:=G;refine xz (x:=x) (ws:=_) (by first | exact t | (rw[show A.in1.handled=A.handled from rfl]; rwa[t])) ?_ ⟨y,v,b8 _ (b8 _ ((o8 _ _ (Av h)).trans g)),p,r⟩ (d6 _ rfl) rfl (by simp; lia) ?_
 ·rwa[λz=>y8 (d7 g) (by rw[z]; simp)]
 erw[b0 (Do (T := "StopIteration") (b:=G3) ⟨_,Ai _ (d6 _ rfl) (AX (AA rfl _)),Ce _ _⟩ isSubtype_stop ?_)];erw[c9 (H _ λb o D e=>?_)];rw[o8 _ _ (λz=>y8 (d7 e) (by rw[<- z]; simp))];rwa[b8 _ (b8 _ ((o8 _ _ (Av D)).trans e))]
def qt{x f t:b6}{i:Nat}{Q:Option b7->b9->Prop}(r:A.handled=G0 (.ref x))(G:mC s.heap x)(h:x≠f)
  (d:IsTupIter s.heap f t i) (C:Gv s.heap t c) (B:c[i]?=G2)
  (H:∀ u,Cq f s.heap u->Q G2 { s with heap:=u }):wpAny (model prog w) A (pyNext (.ref f)) Q E s:=by
 obtain⟨o,l,L,hd⟩:=id d;obtain⟨I,j,_,J,p⟩:=C;unfold pyNext;refine b0 (Bx (z9 (name:=d4 "__next__") d.typeIs slot_tupleiter_next
  (AQ slot_tupleiter_next d.typeIs entry_tupleiter_next ?_ (args_tupleiter_next _))))
 show wpAny _ _ (field (.ref f) 0 >>= _) _ _ s;erw[b0 (t6 l hd (x:=.ref t) rfl ?_)];show wpAny _ _ (if (e8 t == v3)=G3 then _ else _) _ _ s;rw[y3 (show ¬ ((e8 t == v3)=G3) from g7)];show wpAny _ _ (field (.ref f) 1 >>= _) _ _ s;erw[b0 (t6 l hd (x:=.int i 0) rfl ?_)];show wpAny _ _ (seqItems? (.ref t) >>= _) _ _ s;erw[b0 (As j p ?_)];simp only[BD,B];erw[b0 (DF (b0 (AT l hd (by simp) ?_)))];show wpAny _ _ (newExc (.type "StopIteration") [] >>= _) _ _ _;erw[b0 ?_];simp only[newExc,newTuple];erw[b0 (v5 ?_ (by size_fits))];refine b0 (m:=firstArgMember _ _) (B8 (a:=v3) (by first | rfl | (simp only[firstArgMember]; rfl)) ?_);erw[v5 ?_ (by size_fits)];obtain⟨y,v,g,n,q⟩:=G;refine xz (x:=x) (ws:=_) (by first | exact r | (rw[show A.in1.handled=A.handled from rfl]; rwa[r])) ?_ ⟨y,v,b8 _ (b8 _ ((o8 _ _ (Av h)).trans g)),n,q⟩ (d6 _ rfl) rfl (by simp; lia) ?_
 ·rwa[λz=>y8 (d7 g) (by rw[z]; simp)]
 erw[b0 (Do (T := "StopIteration") (b:=G3) ⟨_,Ai _ (d6 _ rfl) (AX (AA rfl _)),Ce _ _⟩ isSubtype_stop ?_)];erw[c9 (H _ λb o D e=>?_)];rw[o8 _ _ (λz=>y8 (d7 e) (by rw[<- z]; simp))];rwa[b8 _ (b8 _ ((o8 _ _ (Av D)).trans e))]
def oU{c:List (Bool×(b7->FG Unit))}{Q:Unit->b9->Prop}(G:A.handled=G0 (.ref x))(z:mC s.heap x)(p:Gv s.heap t a)
  (D:c.length=a.size) (j:c.findIdx? (·.1)=G2)
  (h:∀ B,Cq s.heap.objs.size s.heap B->wpAny (model prog w) A (assignInOrder (c.map (·.2)) a.toList) Q E { s with heap:=B }) :
  wpAny (model prog w) A (unpack (.ref t) c) Q E s:=by
 have r:t≠s.heap.objs.size:=by obtain⟨o,v,_⟩:=p; rwa[j4 (d7 v)]
 have q:x≠s.heap.objs.size:=by obtain⟨o,_,v,_⟩:=z; rwa[j4 (d7 v)]
 unfold unpack;rw[D,j];refine b0 (Aj ?_);unfold unpackItems;refine b0 ?_;unfold notIterableAtAll;refine b0 (FC p.typeIs slot_tuple_iter.lookup ?_);refine c9 ?_;simp only[B5,if_false];refine b0 (Aj (iter_tuple p ?_));refine b0 (Aj (draw_tuple r a.size 0 _ _ ⟨_,d6 _ rfl,rfl,rfl⟩ (p.push _) (by lia) λg f d=>?_));have u:List.take a.size (List.drop 0 a.toList)=a.toList:=by
  rw[List.drop_zero]; rwa[DJ (by simp)]
 rw[u];rw[y3 (by simp)];have i:Gv g t a:=(p.push _).extBut d.extBut r;have m:mC g x:=by
  obtain⟨ob,C,J,I,H⟩:=z;rwa[ob,C,d.extBut _ _ q (b8 _ J),I,H]
 erw[b0 (Aj (qt G m q f i (by simp) λn l=>?_))];simp only[Option.isSome_none,B5,if_false];rwa[c9 (h n λb o y e=>l b o y (d.extBut b o y (b8 _ e)))]
def oQ{x1}{Q:Unit->b9->Prop}(g:A.handled=G0 (.ref x))(i:mC s.heap x)(e:Gv s.heap t a)
  (f:(assignEach b env).length=a.size) (c:(assignEach b env).findIdx? (·.1)=G2)
  (h:∀ d,Cq s.heap.objs.size s.heap d->wpAny (model prog w) A (assignInOrder ((assignEach b env).map (·.2)) a.toList) Q E { s with heap:=d }) :
  wpAny (model prog w) A (assign (.Tuple b x1 pos) env (.ref t)) Q E s:=by
 rw[assign_Tuple];rwa[b0 (Co (oU g i e f c h))]
end
end L2

namespace L2
def yU.some{H:Hp}(x:yU P w H h a o):∃ ob,h.get? a=G0 ob:=by
 cases o with
 | lst c=>obtain⟨_,_,_,_,e⟩:=x; rwa[_,e]
 | tup c=>obtain⟨_,_,_,o,e,_⟩:=x; rwa[_,e]
 | dK b=>obtain⟨_,_,_,_,o,_,_,e,_⟩:=x; rwa[_,e]
 | dT b=>obtain⟨_,_,_,_,o,_,_,e,_⟩:=x; rwa[_,e]
 | set S n=>obtain⟨o,_,_,_,e,_⟩:=x; rwa[_,e]
 | ins C i fs=>obtain⟨_,_,_,e,_⟩:=x; rwa[_,e]
 | own y=>obtain⟨_,e⟩:=x; rwa[_,e]
 | xd fs=>obtain⟨_,⟨_,_,_,e,_⟩,_⟩:=x; rwa[_,e]
 | rng lo hi=>obtain⟨_,_,_,e⟩:=x; rwa[_,e]
 | frz ob u=>obtain⟨e,_⟩:=x; rwa[_,e]
 | tbl g=>rwa[_,x]
 | met f y=>rwa[_,x]
 | ext d=>obtain⟨_,⟨_,e⟩,_⟩:=x; rwa[_,e]
section
variable{fs:List b6}{H H':Hp}{h h2 h3 B:j3}{P:e9}{w:i5}
def Yj(u:Un fs [] H H' h h2)(st:B.StaysIn h3)(l:∀ b o d,h.get? b=G0 d->h2.get? b=G0 o->b ∉ fs->B.get? b=G0 o)
  (j:∀ b∈fs,∀ o,h2.get? b=G0 o->∃ g,h3.get? b=G0 { o with slots:=g }):Un fs [] H H' h h3 where
 keep:=λb o q n a c=>st _ _ (l b o o q (u.keep b o q n a c) a)
 slot:=λb o q n a c=>by
  obtain⟨g,e⟩:=u.slot b o q n a c;obtain⟨f,i⟩:=j b a _ e;rwa[f,i]
 free:=u.free
 there:=λb o q c=>by
  obtain⟨d,e⟩:=u.there b o q c;by_cases a:b∈fs
  ·obtain⟨g,i⟩:=j b a _ e;rwa[_,i]
  ·rwa[d,st _ _ (l b d o q e a)]
 tups:=u.tups
 frzs:=u.frzs
 tbls:=u.tbls
def bH(ok:HOk P w H' h2)(st:B.StaysIn h3)(d:∀ b o u,H' b=G0 u->h2.get? b=G0 o->B.get? b=G0 o):HOk P w H' h3:=λa o e =>
 (ok a o e).stay (λb u c q=>st _ _ (by
  rcases c with rfl | c
  ·rwa[d _ u o e q]
  ·rwa[d b u _ c q])) (λ_ q=>q) λ_ _ q=>q
end
structure nN(P:e9)(w:i5)(outer:List Cj)(H:Hp)(s:b9)(ea:b6)(cls:EK)(H':Hp)(B:j3)(s':b9):Prop where
 mk ::
 os:s'.os=s.os
 bare:CG s'.gens
 un:Un (frs outer) [] H H' s.heap s'.heap
 hok:HOk P w H' s'.heap
 new:H' ea=G2
 fresh:s.heap.get? ea=G2
 fly:uF B outer ea cls s'.heap
 has:∀ b o,s'.heap.get? b=G0 o->((s.heap.get? b).isSome=G3\/(H' b).isSome=G3)->b ∉ frs outer->B.get? b=G0 o
def CX1(P:e9)(w:i5):CXT:=λouter H s E e c=>∃(a:b6)(cls:EK)(b:Hp)(B:j3),e=.ref a/\nN P w outer H s a cls b B c/\E cls.1 cls.2 b
def CX1.none{H:Hp}(h:CX1 P w outer H s E0 e a):False:=let ⟨_,_,_,_,_,_,z⟩:=h; z
def rz{X:Cx}{s:St}{f:Hp}{cls:EK}{B h3:j3}{env:Cj}{outer:List Cj}(p:X.stack=env::outer)(C:X.outer=outer)(A:X.ex=[])(r:env.frame=G0 X.env.locals)(J:Inv X G s f s2)
  (n:∀ b o,s2.heap.get? b=G0 o->((X.s₀.heap.get? b).isSome=G3\/(f b).isSome=G3)->b ∉ frs (env::outer)->B.get? b=G0 o) (x:f h=G2) (E:X.s₀.heap.get? h=G2)
  (fly:uF B outer h cls h3) (t:s2.heap.UpToSlots h3):nN X.prog X.w outer X.H₀ X.s₀ h cls f B { s2 with heap:=h3 }:=by
 have st:=fly.1;have a:∀ b o,X.s₀.heap.get? b=G0 o->b ∉ frs outer->b ∉ frs (env::outer):=λb o q d z=>by
  rcases f9.mp (show b∈X.env.locals::frs outer by
   have:frs (env::outer)=X.env.locals::frs outer:=by unfold frs; rw[Bh,r]
   rw[<- this]; rwa[z]) with e | e
  ·have l:=g6 (d7 q) J.ok.above;rw[e] at l;rwa[AM _ l]
  ·rwa[d e]
 have trk:∀ b u,f b=G0 u->b ∉ frs (env::outer):=λb u e z=>by
  have:=J.stkFree b (by rw[p]; rwa[z]);rw[e] at this;cases this
 have fs:X.fs=frs outer:=by show frs X.outer=_; rw[C]
 have D:∀ b∈frs outer,∀ o,s2.heap.get? b=G0 o->∃ v,h3.get? b=G0 { o with slots:=v }:=λb d o e=>by
  obtain⟨_,c,i,y⟩:=J.stack.mem (show b∈X.stack.filterMap (·.frame) by
   rw[p];show b∈frs (env::outer);have:frs (env::outer)=X.env.locals::frs outer:=by unfold frs; rw[Bh,r]
   rw[this];rwa[.tail _ d])
  rw[e] at i;cases i;rwa[t b o e y]
 have un:Un (frs outer) [] X.H₀ f X.s₀.heap s2.heap:=by
  have:=J.base;rw[fs,A] at this;rwa[this]
 refine⟨J.os,J.bare,Yj un st (λb o c q e d=>n b o e (.inl (by rw[q]; rfl)) (a b c q d)) D,bH J.hok st λb o u e q=>n b o q (.inr (by rw[e]; rfl)) (trk b u e),x,E,fly,λb o e z d=>?_⟩;have j:∃ c,s2.heap.get? b=G0 c:=by
  rcases z with z | z
  ·obtain⟨c,q⟩:=g8.mp z;exact un.there b c q (λz=>nomatch z)
  ·obtain⟨u,q⟩:=g8.mp z;exact(J.hok b u q).some
 obtain⟨c,i⟩:=j;have m:b ∉ frs (env::outer):=by
  rcases z with z | z
  ·obtain⟨c,q⟩:=g8.mp z;rwa[a b c q d]
  ·obtain⟨u,q⟩:=g8.mp z;rwa[trk b u q]
 have g:=n b c i z m;have:=st _ _ g;rw[show({ s2 with heap:=h3 } : b9).heap=h3 from rfl] at e;rw[this] at e;cases e;rwa[g]
def nN.inv{a:St}{H d:Hp}{cls:EK}(I:Inv X e a H s)(f:nN X.prog X.w X.stack H s g cls d B c):Inv X e a d c :=
 I.call' (ch:=[]) f.os f.un f.hok f.bare λb z=>y8 z (by simp)
def nN.on{H j:Hp}{s d:b9}{cls:EK}(r:d.heap.FunFrames base outer)(f:nN P w outer H s m cls j B d)(c:∀ b∈frs outer,j b=G2)
  (fly:uF B outer m cls h3) (n:d.heap.UpToSlots h3):nN P w outer H s m cls j B { d with heap:=h3 }:=by
 have st:=fly.1;have trk:∀ b u,j b=G0 u->b ∉ frs outer:=λb u e z=>by
  have:=c b z;rw[e] at this;cases this
 refine⟨f.os,f.bare,Yj f.un st (λb o a q e h=>f.has b o e (.inl (by rw[q]; rfl)) h) (λb h o e=>by
  obtain⟨_,a,i,p⟩:=r.mem h;rw[e] at i;cases i;rwa[n b o e p]),bH f.hok st λb o u e q=>f.has b o q (.inr (by rw[e]; rfl)) (trk b u e),f.new,f.fresh,fly,λb o e z h=>?_⟩
 have l:∃ a,d.heap.get? b=G0 a:=by
  rcases z with z | z
  ·obtain⟨a,q⟩:=g8.mp z;exact f.un.there b a q (λz=>nomatch z)
  ·obtain⟨u,q⟩:=g8.mp z;exact(f.hok b u q).some
 obtain⟨a,i⟩:=l;have g:=f.has b a i z h;have:=st _ _ g;rw[show({ d with heap:=h3 } : b9).heap=h3 from rfl] at e;rw[this] at e;cases e;rwa[g]
def lg(X:Cx)(d:St->XK):Prop:=∀(c:List (b6×Ad))(a:St)(H:Hp)(s:b9)(e:b7)(b:b9),Inv X c a H s->CX1 X.prog X.w X.stack H s (d a) e b->X.xe e b
def Yk(X:Cx)(f:St->XK):Prop:=∀(d:List (b6×Ad))(a:St)(H:Hp)(s:b9)(b:j3)(e:b6)(cls:b7)(c:List b7),Inv X d a H s->CV s.heap b e cls c->f a cls G2 H->X.xe (.ref e) { s with heap:=b }
def fu : lg X (λ_=>E0):=λ_ _ _ _ _ _ _ h=>h.none.elim
section
variable{P:e9}{w:i5}{K:ac}{mg:c7->Option b7}{base:j3}{N:List c7}{qual:c7}{scope:BW}{f:b6}{cd:b7}{A:u8}{outer:List Cj}{s:b9}{H:Hp}{E:XK}
def zO:lg (cxOf (CX1 P w) P w K mg base N qual scope f cd A outer s H E) (λ_=>E):=by
 intro v p u t e r I h;obtain⟨d,cls,n,B,rfl,c,q⟩:=h;have J:=c.inv I;erw[im (base:=B) (cls:=cls) (L:=s.heap.objs.size) I.ok.frames rfl c.fly λh3 fly l=>?_];erw[d,cls,n,B,U,rz (X:=cxOf (CX1 P w) P w K mg base N qual scope f cd A outer s H E) rfl rfl rfl rfl J (λb o e z m=>c.has b o e (z.imp (λz=>?_) id) m) c.new ?_ fly l,q]
 ·obtain⟨j,g⟩:=g8.mp z;obtain⟨i,a⟩:=I.base.there b j g (λz=>nomatch z);rw[a];rfl
 ·show s.heap.get? d=G2;cases g:s.heap.get? d with
  | none=>rfl
  | some j =>
   obtain⟨i,a⟩:=I.base.there d j g (λz=>nomatch z);rw[c.fresh] at a;cases a
def yY:Yk (cxOf (CX1 P w) P w K mg base N qual scope f cd A outer s H E) (λ_=>E):=by
 intro D B l c C e cls n I i q;have j:∀ env∈(cxOf (CX1 P w) P w K mg base N qual scope f cd A outer s H E).stack,∀ b,env.frame=G0 b->b∈frs (cxOf (CX1 P w) P w K mg base N qual scope f cd A outer s H E).stack:=λenv y b g=>B1.mpr ⟨env,y,g⟩;have a:∀ b o,c.heap.get? b=G0 o->b ∉ frs (cxOf (CX1 P w) P w K mg base N qual scope f cd A outer s H E).stack->(Cs c.heap (frs (cxOf (CX1 P w) P w K mg base N qual scope f cd A outer s H E).stack)).get? b=G0 o:=λb o e g=>Cz _ e g;refine my (h:=c.heap) (base:=Cs c.heap (frs (cxOf (CX1 P w) P w K mg base N qual scope f cd A outer s H E).stack)) (cls:=cls) (args:=n) (L:=s.heap.objs.size) I.ok.frames rfl (λb o q=>CM _ q) (DK I.stack j) i λh3 fly p=>?_;have x:l e=none:=by
  cases z:l e with
  | none=>rfl
  | some u =>
   obtain⟨ob,m⟩:=(I.hok e u z).some;rw[i.new] at m;cases m
 erw[e,(cls,G2),l,_,U,rz (X:=cxOf (CX1 P w) P w K mg base N qual scope f cd A outer s H E) (s2:=c) rfl rfl rfl rfl I (λb o e _ g=>a b o e g) x ?_ fly ((Gz i.keeps).trans p),q];show s.heap.get? e=G2;cases r:s.heap.get? e with
 | none=>rfl
 | some v =>
  obtain⟨t,d⟩:=I.base.there e v r (λz=>nomatch z);rw[i.new] at d;cases d
def Fun.okX{x qual:c7}{st:v4}{f:b6}{fd:w4}{N e:List c7}{k:Nat}{d:Sp}(F:Fun K x qual st f fd)(S:zP N e (zH st))(len:∀ b H Q E,d b H Q E->b.length=e.length)
  (c:∀(a:b7)(A:u8)(outer:List Cj)(s:b9)(H:Hp)(b:List V)(Q:VK)(E:XK),tS k (A.deeper (envOfC qual (zH st) s.heap.objs.size f a))->d b H Q E ->
   ∃ t,PSs (cxOf (CX1 P w) P w K mg base N qual (zH st) f a A outer s H E) (xB st) t/\t { nx:=λ_ m=>Q .non m,rt:=Q } (start N b) H):yV P w K mg base (CX1 P w) (k+1) f fd e d:=by
 obtain⟨p,o,kV,l,n,q,a,ct,i,rfl,lk,h⟩:=F.ex;rwa[Ye lk h S len λA outer s H b Q E j g=>c a A outer s H b Q E j g]
end
def tN(P:e9)(w:i5)(K:ac)(mg:c7->Option b7)(base:j3)(x:c7)(n:Nat)(a:List c7)(b:Sp):Prop :=
 ∃(f:b6)(fd:w4),yV P w K mg base (CX1 P w) n f fd a b/\zt K fd a []/\u9 K (.ref f)=G3/\mg x=G0 (.ref f)
def vE(P:e9)(w:i5)(K:ac)(mg:c7->Option b7)(base:j3)(g:b6)(n:Nat)(b:List c7)(c:Sp):Prop :=
 ∃ fd:w4,yV P w K mg base (CX1 P w) n g fd b c/\∀ a:List b7,a.length=b.length->bindArgs fd ⟨a,[]⟩=pure (b.zip a)
section
variable{X:Cx}{n:Nat}{f:b6}{fd:w4}{ps:List c7}{sp:Sp}{x m:c7}{p pos apos:BM}{e o:o6}{es:List o6}{ta:TE}{t:TA}{EE:St->XK}{C g:b6}
def oH{a:St}{H:Hp}{Q:VK}(F:yV X.prog X.w X.K X.mg X.base (CX1 X.prog X.w) n f fd ps sp)(l:tS n X.A)(v:zt X.K fd ps [])(j:lg X EE)
  (I:Inv X d a H s) (r:xD vs us) (h:sp vs H Q (EE a)):wpAny (model X.prog X.w) X.A (call (.ref f) us) (EP X d a Q) X.xe s:=by
 have q:us.length=ps.length:=by rw[<- r.length]; rwa[F.len _ _ _ _ h]
 have c:=v s us I.kIn (by rw[Al]; rwa[q]);rw[Al] at c;erw[Br (codeAny_mono (F.run X.A X.stack s H ⟨us,[]⟩ us vs Q (EE a) l I.env0 c r h) λr i b=>?_)];cases r with
 | error e=>rwa[j d a H s e i I b]
 | ok y =>
  cases y with
  | ret u=>rwa[I.after b]
  | next=>rwa[l9 b]
  | brk=>rwa[l9 b]
  | cont=>rwa[l9 b]
def YW(sp:Sp)(EE:St->XK)(t:TA):TE:=λa H Q=>t a H λb c=>sp b c Q (EE a)
def zX(EE:St->XK)(h:tN X.prog X.w X.K X.mg X.base x n ps sp)(i:lg X EE)(j:tS n X.A)(u:Gl X x)
  (z:PA X (e::es) t) (b:(x ==("__debug__" : c7))=false:=by decide) (v:starEach (e::es) X.env=(G4,eval e X.env)::starEach es X.env:=by rfl) (a:(backTo pos (starEach es X.env)).any (·.1)=false:=by rfl) :
  PE X (.Call (.Name x p) (e::es) [] pos) (YW sp EE t):=by
 obtain⟨f,fd,F,y,hk,l⟩:=h;intro B s d H Q I h;erw[Ac (wF I u l ?_ b)];erw[Ay (h₀:=X.base) I.ok.mod.kin hk (thn (z pos B s d H _ I h) λE G ⟨D,J,c,r,q⟩=>⟨c.kIn,?_⟩) v a];rwa[oH F j y i c r q]
def bY(C:b6)(m:c7)(sp:Sp)(EE:St->XK)(ta:TE)(t:TA):TE:=λa H Q=>ta a H λx b=>TMeth C m x b (t a b λc d=>sp (x::c) d Q (EE a))
def yF(EE:St->XK)(Y:InB X.base λK=>Cls K C/\pe K C m g)(h:vE X.prog X.w X.K X.mg X.base g n ps sp)(P:lg X EE)(S:tS n X.A)(T:PE X o ta)(Z:PA X (e::es) t)
  (i:starEach (e::es) X.env=(G4,eval e X.env)::starEach es X.env:=by rfl) (j:(backTo pos (starEach es X.env)).any (·.1)=false:=by rfl)
  (R:eval (.Call (.Attribute o m apos) (e::es) [] pos) X.env=(do
   let D <- eval o X.env
   standAt apos.atName
   let (f,first) <- holding [D] (getMethod D m d)
   callWith pos f first (backTo pos (starEach (e::es) X.env)) (backToKw pos (keywordEach [] X.env))):=by rfl) :
  PE X (.Call (.Attribute o m apos) (e::es) [] pos) (bY C m sp EE ta t):=by
 obtain⟨K,v,c,E⟩:=Y;obtain⟨fd,F,b⟩:=h;intro L s y H Q I h;erw[AY (pl:=d) (thn (T L s y H _ I h) λu M ⟨x,H1,J,N,a,dx,fs,ex,ea,l,q⟩=>?_) R];subst ex;obtain rfl:u=e8 a:=N;erw[qM (X:=X.withK K) (J.withK v) ea c E l ?_];erw[Ay (first:=[.ref a]) (h₀:=X.base) (K:=K) v E.kp (thn (Z pos L M y H1 _ J q) λB s2 ⟨z,H2,G,r,O⟩=>⟨(G.withK v).kIn,?_⟩) i j];rwa[oH (us:=.ref a::B) (vs:=.ref a::z) F S (.all b) P G (.cons rfl r) O]
def PS.nox{st:v4}{t:TS}(h:PS X.nox st t):PS X st t:=λc s a H D I b =>
 An (h c s a H D (I.wish _) b) (λ_ _ q=>q.unwish) λ_ _ z=>l9 z
def YC(cls:b7)(EE:St->XK)(t:TA):TS:=λ_ a H=>t a H λb c=>b.length<=sizeLine/\EE a cls G2 c
def yX(EE:St->XK)(O:j7 x C j b X.mg X.base)(Fn:BP Bn b v E)(A:j.contains (.type Bn)=G3)(FB:BP B u c j)(hx:Yk X EE)
   (ha:PA X (e::es) t) (hc:X.calm=true:=by rfl) (hg:Gl X x:=by rfl) (hd:(x ==("__debug__" : c7))=false:=by decide) (Y:starEach (e::es) X.env=(G4,eval e X.env)::starEach es X.env:=by rfl) (w:(backTo a (starEach es X.env)).any (·.1)=false:=by rfl) :
  PS X (.Raise (G0 (.Call (.Name x np) (e::es) [] a)) G2 pos) (YC (.ref C) EE t):=by
 obtain⟨tl,N,nm,q,bs,d,J,sub,ab,i,Z,S,R,Q,P,M,L,hC,hN,z,T⟩:=O.obj;intro G5 s G H D I h;refine wpAny_Raise_call_subU (C:=C) (nm:=nm) (q:=q) (N:=N) (bs:=bs) (bm:=tl) (hdct:=d) (sn:=J) (sub:=sub) (ab:=ab) (col:=i) (dd:=Z) (k0:=S) (k1:=R) (k2:=Q) (k3:=P) (k5:=M)
  Fn A FB (mN:=L) (T.hasType FB.hasBase) (I.ok.hd hc) (by rw[Y]; show(G4||(backTo a (starEach es X.env)).any (·.1))=G4; rw[w]; rfl) z (wF I hg O.bound ⟨rfl,?_⟩ hd)
 have h:=ha a G5 s G H _ I h;rw[Y] at h ⊢;erw[A2 (An h (λus s2 ⟨vs,H1,l,r,len,q⟩=>⟨rfl,?_,l.bk _ _ hC,hN.keeps l.bk,T.keeps l.bk,λh' e hm=>?_⟩) λ_ _ y=>y)]
 ·rw[<- r.length]; rwa[len]
 ·rwa[hx G5 G H1 s2 h' e _ _ l hm q]
end
end L2

namespace L2
abbrev Cx.tr(X:Cx)(b:List (b6×Ad))(d:St->XK):Cx :=
 { X with pn:=X.pn++b,xe:=λe c=>∃(a:St)(H:Hp)(s:b9),Inv X b a H s/\CX1 X.prog X.w X.stack H s (d a) e c }
abbrev Cx.hd(X:Cx)(e:b7):Cx:={ X with A:=X.A.mark (G0 e),calm:=G4,xe:=λ_ _=>False }
section
variable{X:Cx}{G5 pins':List (b6×Ad)}{σ:St}{H:Hp}{s:b9}{EE:St->XK}{e:b7}
def Inv.tr(I:Inv X G5 σ H s)(EE:St->XK):Inv (X.tr G5 EE) [] σ H s :=
 ⟨⟨I.ok.mod,I.ok.kind,I.ok.glob,I.ok.blt,I.ok.above,I.ok.inj,I.ok.has,I.ok.cab,I.ok.hd,I.ok.frames,I.ok.stk,I.ok.exf,I.ok.bs,I.ok.bsz,I.ok.noex,I.ok.exfs,I.ok.funs,I.ok.frf⟩,I.os,I.bare,I.base,I.loc,I.cell,I.free,I.freeC,λp a=>I.pin p (by rw[Al] at a; rwa[a]),I.hok,I.len⟩
def Inv.untr(I:Inv (X.tr G5 EE) pins' σ H s):Inv X G5 σ H s :=
 ⟨⟨I.ok.mod,I.ok.kind,I.ok.glob,I.ok.blt,I.ok.above,I.ok.inj,I.ok.has,I.ok.cab,I.ok.hd,I.ok.frames,I.ok.stk,I.ok.exf,I.ok.bs,I.ok.bsz,I.ok.noex,I.ok.exfs,I.ok.funs,I.ok.frf⟩,I.os,I.bare,I.base,I.loc,I.cell,I.free,I.freeC,λp a=>I.pin p (Cp _ a),I.hok,I.len⟩
def Inv.hd(I:Inv X G5 σ H s)(e:b7):Inv (X.hd e) G5 σ H s :=
 ⟨⟨I.ok.mod,I.ok.kind,I.ok.glob,I.ok.blt,I.ok.above,I.ok.inj,I.ok.has,I.ok.cab,λz=>(nomatch z),I.ok.frames,I.ok.stk,I.ok.exf,I.ok.bs,I.ok.bsz,I.ok.noex,I.ok.exfs,I.ok.funs,I.ok.frf⟩,I.os,I.bare,I.base,I.loc,I.cell,I.free,I.freeC,I.pin,I.hok,I.len⟩
def Inv.unhd(I:Inv (X.hd e) G5 σ H s)(a:X.calm=G3->X.A.handled=G2):Inv X G5 σ H s :=
 ⟨⟨I.ok.mod,I.ok.kind,I.ok.glob,I.ok.blt,I.ok.above,I.ok.inj,I.ok.has,I.ok.cab,a,I.ok.frames,I.ok.stk,I.ok.exf,I.ok.bs,I.ok.bsz,I.ok.noex,I.ok.exfs,I.ok.funs,I.ok.frf⟩,I.os,I.bare,I.base,I.loc,I.cell,I.free,I.freeC,I.pin,I.hok,I.len⟩
def SP.untr(h:SP (X.tr G5 EE) pins' D f c):SP X G5 D f c:=by
 cases f with
 | next=>obtain⟨a,b,I,q⟩:=h; rwa[a,b,I.untr,q]
 | brk=>obtain⟨a,b,I,q⟩:=h; rwa[a,b,I.untr,q]
 | cont=>obtain⟨a,b,I,q⟩:=h; rwa[a,b,I.untr,q]
 | ret u=>obtain⟨v,a,b,I,r,q⟩:=h; rwa[v,a,b,I.untr,r,q]
def oS:lg (X.tr G5 EE) EE:=λ_ σ H s _ _ I h=>⟨σ,H,s,I.untr,h⟩
def Inv.moreX(I:Inv X G5 σ H s)(A:H a=G2)(y:a≠X.env.locals)(t:X.s₀.heap.get? a=G2)(r:∀ x c,X.env.cells.lookup x=G0 c->c≠a)(m:∀ p∈X.pn++G5,p.1≠a)
  (new:yU X.prog X.w (upd H a o) s.heap a o):Inv X G5 σ (upd H a o) s:=by
 have d:∀{b:b6}{u:HO},H b=G0 u->upd H a o b=G0 u:=λ{b u} e=>by
  rw[zL (λz=>by rw[z,A] at e; cases e)];rwa[e]
 have f:∀{b:b6},b≠a->H b=G2->upd H a o b=none:=λ{b} n e=>by rw[zL n]; rwa[e]
 have lo:∀{b:b6}{u:Ad},X.s₀.heap.get? b=G0 u->b≠a:=λ{b u} e z=>by rw[z,t] at e; cases e
 refine⟨I.ok,I.os,I.bare,⟨I.base.keep,I.base.slot,λb u e n l=>f (lo e) (I.base.free b u e n l),I.base.there,λb g e=>d (I.base.tups b g e),λb u v e=>d (I.base.frzs b u v e),
  λb j e=>let ⟨more,q⟩:=I.base.tbls b j e;⟨more,d q⟩⟩,I.loc,I.cell,f (Av y) I.free,λx c e=>f (r x c e) (I.freeC x c e),λp h=>?_,λb u e=>?_,I.len⟩
 ·obtain⟨h1,h2,h3⟩:=I.pin p h;rwa[h1,f (m p h) h2,h3]
 ·by_cases i:b=a
  ·subst i;rw[zB] at e;cases e;rwa[new]
  ·rw[zL i] at e;exact(I.hok b u e).stay (λc v _ q=>q) (λc q=>d q) λc g q=>d q
def Inv.frame{t':Nat}{r:c7->Option b7}(I:Inv X G5 σ H s)(A:AC X.env.locals s.heap h')(D:h'.Ns X.env.locals r):Inv X G5 (i9 X.N.length G2) H { s with heap:=h',toks:=t' }:=by
 have k:∀ b o,b≠X.env.locals->s.heap.get? b=G0 o->h'.get? b=G0 o:=λb o n e=>(A.2 b n).trans e;have lo:∀{b:b6}{u:Ad},X.s₀.heap.get? b=G0 u->b≠X.env.locals:=λ{b u} e z=>by
  have l:=g6 (d7 e) I.ok.above;rw[z] at l;rwa[AM _ l]
 obtain⟨w,j,m,h,_⟩:=D;have trk:∀{b:b6}{u:HO},H b=G0 u->b≠X.env.locals:=λ{b u} e z=>by rw[z,I.free] at e; cases e
 erw[I.ok,I.os,I.bare,⟨λb o q n f g=>k _ _ (lo q) (I.base.keep b o q n f g),λb o q n f g=>?_,I.base.free,λb o q g=>?_,I.base.tups,I.base.frzs,I.base.tbls⟩,⟨r,⟨w,j,m,h,by assumption⟩,λi x v _ d=>?_⟩,λx c e=>?_,I.free,I.freeC,λp B=>?_,λa o e=>?_,by rw[v8]]
 ·obtain⟨t,e⟩:=I.base.slot b o q n f g;rwa[t,k _ _ (lo q) e]
 ·obtain⟨y,e⟩:=I.base.there b o q g;rwa[y,k _ _ (lo q) e]
 ·rw[Bk] at d;split at d <;> cases d
 ·obtain⟨v,o,C,hd⟩:=I.cell x c e;rwa[v,o,k _ _ (I.cne x c e) C,hd]
 ·obtain⟨h1,h2,h3,h4⟩:=I.pin p B;rwa[k _ _ h3 h1,h2,h3,h4]
 ·refine(I.hok a o e).stay (λb u f q=>k _ _ ?_ q) (λ_ q=>q) λ_ _ q=>q;rcases f with rfl | f
  ·rwa[trk e]
  ·rwa[trk f]
end
def jP(a:b6)(cls:EK):HO:=.ext (lj a cls)
def au{H:Hp}{cls:EK}(e:lj a cls h):yU P w H h a (jP a cls) :=
 ⟨e,let ⟨ob,_,h1,_⟩:=e;⟨ob,h1⟩,λh1 h2 ⟨ob,b,q,c⟩ k=>⟨ob,b,k _ q,c⟩⟩
def sF(B:j3)(cls:b7)(D:b6):Prop:=InB B λK=>FV K cls (.ref D)=G0 G3
def sTry(B:j3)(D:b6)(i:Nat)(g:(St->XK)->TS)(f:b6->TS):TS:=λE e H=>g (λb cls d c=>sF B cls D/\∀ a,c a=G2->f a { nx:=λ_ _=>False,rt:=E.rt } (b.set i (G0 (.ref a))) (upd c a (jP a (cls,d)))) E e H
section
variable{X:Cx}{x n:c7}{i:Nat}{D:b6}{body suite:List v4}{b₀:v4}{np hpos pos:BM}{tb:(St->XK)->TS}{th:TS}
def fQ{K:ac}{cls:EK}{D:b6}(X:K.In h)(e:lj a cls h)(c:FV K cls.1 (.ref D)=G0 b):PySem.W.Looks M h (excMatches (.ref a) (.ref D)) b:=by
 obtain⟨ob,_,h1,h2,_⟩:=e;rwa[PySem.W.exm_one X (h2 ▸ (GZ h1).andThen .now) c]
def nK{j:St}{H g:Hp}{cls:EK}(A:X.ex=[])(I:Inv X r j H s)(f:nN X.prog X.w X.stack H s a cls g B d)
  (fly:uF B X.stack a cls h) (u:d.heap.UpToSlots h):Inv X r j g { d with heap:=h }/\lj a cls h/\∀ o,yU X.prog X.w (upd g a o) h a o->Inv X r j (upd g a o) { d with heap:=h }:=by
 have J:=f.inv I;have G:=f.on J.stack J.stkFree fly u;have t:=G.inv I;have ne:∀{b:b6}{o:Ad},s.heap.get? b=G0 o->b≠a:=λ{b o} q z=>by rw[z,f.fresh] at q; cases q
 erw[t,fly.there,λo new=>t.moreX f.new ?_ ?_ (λx c e=>?_) (λp C=>ne (I.pin p C).1) new]
 ·obtain⟨m,⟨L,_,_,l,_⟩,_⟩:=I.loc;exact(ne l).symm
 ·cases q:X.s₀.heap.get? a with
  | none=>rfl
  | some o =>
   obtain⟨M,y⟩:=I.base.there a o q (by rw[A]; exact λz=>nomatch z);rwa[y8 rfl (ne y)]
 ·obtain⟨v,o,E,_⟩:=I.cell x c e;rwa[ne E]
def bE{th:b6->TS}(hb:∀ (t:List (b6×Ad)) (R:St->XK),PSs (X.tr t R) body (tb R))(hm:X.mg x=G0 (.ref D))(hN:X.N.Nodup)(hi:X.N[i]?=G0 n)(G:X.env.scope.names.lookup n=G0 .local)(hh:∀ b:b6,PSs (X.hd (.ref b)) (b₀::suite) (th b))
  (c:X.stack=X.env::X.outer/\X.env.frame=G0 X.env.locals:=by rwa[U,U]) (hex:X.ex=[]:=by rfl) (hg:Gl X x:=by rfl) (hd:(x ==("__debug__" : c7))=false:=by decide) :
  PS X (.Try body [.ExceptHandler (G0 (.Name x np)) (G0 n) (b₀::suite) hpos] [] [] pos) (sTry X.base D i tb th):=by
 intro t s Y H E I h;erw[wpAny_Try_except (An (hb t _ [] s Y H E (I.tr _) h) (λf s1 q=>?_) λe s1 q=>?_)]
 ·have q:=q.untr;cases f with
  | next=>rwa[BY q]
  | ret v=>rwa[q]
  | brk=>rwa[q]
  | cont=>rwa[q]
 ·obtain⟨T,H0,s0,Q,b,cls,H',B,rfl,o,Z,hc⟩:=q;have d:=o.fly;rw[c.1] at d;erw[mM (L:=X.env.locals) (by rw[I.ok.frames,c.1]) c.2 d λh4 g A=>?_];erw[jJ g λh5 a y=>?_];have O:=A.trans y;rw[<- c.1] at a;obtain⟨P,M,_⟩:=nK hex Q o a O;obtain⟨K,KB,hK⟩:=Z;have K5:K.In h5:=KB.keeps P.bk;erw[wpAny_handleBy_cons (codeAny_handlers_test (wF (P.hd (.ref b)) hg hm ?_ hd)) (by intro q; cases q)];refine(fQ K5 M hK).here ?_;erw[codeAny_handlers_suite_as ?_];erw[nh a λh6 l w=>?_];obtain⟨J6,J,j⟩:=nK hex Q o l (O.trans w);have J7:=(j (jP b cls) (au J)).hd (.ref b);erw[mR (X:=X.hd (.ref b)) (v:=.ref b) J7 hN hi (.inl G) rfl (λs8 I8 _=>?_) (.inr G)];erw[An (hh b t s8 _ _ { nx:=λ_ _=>False,rt:=E.rt } I8 (hc b o.new)) (λf s9 q=>?_) λ_ _ z=>l9 z];cases f with
  | next=>obtain⟨_,_,_,z⟩:=q; rwa[l9 z]
  | brk=>obtain⟨_,_,_,z⟩:=q; rwa[l9 z]
  | cont=>obtain⟨_,_,_,z⟩:=q; rwa[l9 z]
  | ret u =>
   obtain⟨v,S,H9,p,r,q⟩:=q;have p:=p.unhd I.ok.hd;obtain⟨m,hn,_⟩:=id p.loc;refine wpAny_nameGoes (show X.env.kindOf n=G0 .local from G) hn (by rw[I.ok.kind]; rfl) λh' m' C hs=>?_;rwa[v,_,H9,p.frame hs C,r,q]
end
section
open PySem.W
structure ye(K:ac)(D:b6):Prop where
 mk ::
 ga:findIn K (.ref D) "__getattribute__" = G0 (G0 (.builtin "BaseException.__getattribute__"))
 gx:findIn K (.ref D) "__getattr__" = G0 G2
 fc:findObj K D G2 "__class__" = G0 (.bind (.builtin "getset_descriptor.__get__") (.builtin "object.__class__"))
 mB:mroIn K D (.type "BaseException")=G0 G3
 mo:mroIn K D (.type "object")=G0 G3
def fm{K:ac}{E:b7->b9->Prop}{s:b9}{Q:Option b7->b9->Prop}(X:K.In s.heap)(C:ye K D)(I:InstAt s.heap a j D i)(fc:findObj K D i "__class__" = G0 (.bind (.builtin "getset_descriptor.__get__") (.builtin "object.__class__")))(h:Q (G0 (.ref D)) { s with toks:=s.toks+1 }) :
  wpAny (model prog w) A (getAttr? (.ref a) "__class__") Q E s:=by
 obtain⟨l,g,d,t,os⟩:=s;have f:=I.type (M:=model prog w);have o:=looks_findIn (M:=model prog w) X C.ga;have L2:=looks_findIn (M:=model prog w) X C.gx;have n:=looks_mroIn (M:=model prog w) X C.mB;have m:=looks_find (M:=model prog w) X I fc;have c:(Ap "BaseException.__getattribute__" == Ap "object.__getattribute__")=false:=by ac_nf
 have e:(onTheHeap (e8 D)&&Ap "BaseException.__getattribute__" == Ap "object.__getattribute__")=false:=by rw[c]; rfl
 unfold getAttr? getAttrBy? getAttrBy;erw[b0 (wpAny_mkText (b0 (Bx (Aj (b0 (f.at (b0 (o.at ?_))))))))];dsimp only;rw[e];simp only[B5,if_false];unfold getAttrByItsOwn hookBefore;erw[b0 ?_];rw[y4 (show onTheHeap (e8 D)=G3 from rfl)];erw[L2.at ?_];erw[b0 (Bx (Aj ?_))];unfold callGetattribute;rw[y3 (by decide)];unfold boundAndCalled;erw[b0 (B8 (EW.ga.bind (.ref a)) ?_)];show wpAny _ _ (call (.builtin "BaseException.__getattribute__") [.ref a,_]) _ _ _;erw[Br (codeAny_call_builtin EW.ga.plain F.entry_bexc_ga ?_)];have hk:builtinKind "BaseException.__getattribute__" = G0 .slot:=by ac_nf
 have b:splitId "BaseException.__getattribute__" = G0 ("BaseException","__getattribute__"):=by ac_nf
 simp only[checkBuiltinCall,hk,b];erw[b0 ?_];unfold isInstance;erw[b0 (f.at (n.at ?_))];simp only[Bool.not_true,B5,if_false];erw[B8 (F.args_bexc_ga (.ref a) _) ?_];unfold Cn.«object.__getattribute__»;refine b0 (B8 (a:=(e8 a,[AO (d4 "__class__") t])) (by first | rfl | symm) ?_);dsimp only;refine b0 (B8 (a:=(d4 "__class__")) (by first | rfl | symm) ?_);erw[b0 (f.at (b0 (m.at ?_)))];dsimp only;show wpAny _ _ (holding [Ap "object.__class__"] (call (.builtin "getset_descriptor.__get__") [.builtin "object.__class__",.ref a,.ref D]) >>= ret) _ _ _;erw[b0 (Aj (Br (class_get (s:=⟨l,g,d,t+1,os⟩) X I C.mo ?_)))];erw[c9 ?_];dsimp only;rwa[handed_on rfl (c9 h)]
def Xl{K:ac}(C:ye K D)(M:FL)(h:j3)(X:K.In h):Looks M h (isType (.ref D)) true:=by
 obtain⟨d,a,_⟩:=Aa.mp C.mo;unfold clsIn at a;split at a
 ·rename_i i g e b c
  intro m j l f k q;unfold isType loadHead;rwa[b0 (D8 (k _ _ (X _ _ c)) (c9 q))]
 ·cases a
def Yo{K:ac}(C:ye K D)(h:j3)(b:b6)(j:Option b6)(c:List b7)(n:Nat)(g:Array (Option b7))(X:K.In h)(d:h.get? b=G0 ⟨.type "tuple",j,.seq c.toArray n,g⟩):(e8 D == .ref b)=false:=by
 obtain⟨l,a,_⟩:=Aa.mp C.mo;erw[Da.mpr λq=>?_];have e:D=b:=Value.ref.inj (beq_iff_eq.mp q);subst e;unfold clsIn at a;split at a
 ·rename_i p o m f i
  have z:=(X _ _ i).symm.trans d;cases z
 ·cases a
end
section
variable{X:Cx}
def yL(b:X.mg x=G0 (.ref a))(c:Gl X x:=by rfl)(hd:(x ==("__debug__" : c7))=false:=by decide):PE X (.Name x pos) (tC (.ref a)):=λ_ _ _ H _ I h=>wF I c b ⟨.ref a,H,I,rfl,h⟩ hd
def yr:bootBuiltins "ValueError" = G0 (.type "ValueError"):=by ac_nf
end
end L2

namespace L2
abbrev TJ:=St->Hp->(Hp->Prop)->Prop
section
variable{X:Cx}{e:o6}{es:List o6}{t:TJ}{te:TE}{pos p:BM}{n:Nat}
def PJ(X:Cx)(es:List o6)(n:Nat)(t:TJ):Prop:=∀(f:List (b6×Ad))(s:b9)(b:St)(H:Hp)(k:Nat)(a:c7)(Q:c7->b9->Prop)(C:Hp->Prop),Inv X f b H s->a.length<=2000*k->k+n<=100 ->
 t b H C->(∀(d:Hp)(out:c7)(c:b9),C d->out.length<=200000->Inv X f b d c->Q out c)->Joins (model X.prog X.w) X.A X.xe (evalEach es X.env) a Q s
def ez:TJ:=λ_ H K=>K H
def Zi(te:TE)(t:TJ):TJ:=λa H K=>te a H λv b=>((∃ i,v=.int i/\i.natAbs.log2<1920)\/∃ x,v=.str x/\x.length<=1000)/\t a b K
def vO:PJ X [] 0 ez:=λ_ s _ H _ a _ _ I h hk q z=>z H a s q (by lia) I
def wD{c:c7}{j:Nat}(d:PJ X es n t)(i:c.length<=1000:=by decide)(f:evalEach (.Constant (.str c) j p::es) X.env=eval (.Constant (.str c) j p) X.env::evalEach es X.env:=by rfl):PJ X (.Constant (.str c) j p::es) (n+1) t:=by
 intro g s b H k a Q C I h hk q z;rw[f];erw[Ey ⟨c,_,rfl,?_,?_⟩]
 ·rw[strLen_append];show a.length+c.length<=2^24;lia
 ·rwa[d g _ b H (k+1) _ _ C (I.tok _) (by rw[strLen_append]; lia) (by lia) q z]
def qQ(J:PE X e te)(o:PJ X es n t)(L:evalEach (.FormattedValue e (-1) G2 p::es) X.env=eval (.FormattedValue e (-1) G2 p) X.env::evalEach es X.env:=by rfl):PJ X (.FormattedValue e (-1) G2 p::es) (n+1) (Zi te t):=by
 intro j s f H k b Q C I h hk q z;rw[L];erw[CW (thn (J j s f H _ I q) λu G ⟨v,D,B,r,c,m⟩=>?_)];rcases c with ⟨i,rfl,hi⟩ | ⟨x,rfl,M⟩
 ·obtain⟨E,rfl⟩:=(show ∃ t,u=BN i t from r);have l:=int_text_length_le (k:=1920) (by decide) hi;rw[<- Bz] at l;erw[D0 hi ⟨_,_,rfl,?_,?_⟩]
  ·rw[strLen_append];show b.length+_<=2^24;lia
  ·rwa[o j _ f D (k+1) _ _ C (B.tok _) (by rw[strLen_append]; lia) (by lia) m z]
 ·obtain⟨E,rfl⟩:=(show ∃ t,u=AO x t from r);have g:∀(d:GU)(a:Nat),∃ y t,AO x d=.str y t/\(b++y).length<=sizeLine/\Joins (model X.prog X.w) X.A X.xe (evalEach es X.env) (b++y) Q { G with toks:=a }:=λd a =>
   ⟨x,d,rfl,by rw[strLen_append]; show b.length+x.length<=2^24; lia,o j _ f D (k+1) _ _ C (B.tok _) (by rw[strLen_append]; lia) (by lia) m z⟩
  exact formatField_str (λd a=>g d a) (by show x.length<=2^24; lia)
def gR(t:TJ):TE:=λa H Q=>t a H λb=>∀ x:c7,x.length<=200000->Q (.str x) b
def wE{a b:o6}(f:PJ X (a::b::es) n t)(o:n<=100:=by decide):PE X (.JoinedStr (a::b::es) pos) (gR t):=by
 intro j s d H Q I h;exact wpAny_JoinedStr (f j s d H 0 Ei _ _ I (by decide) (by lia) h λi out m c l g=>⟨by show out.length<=2^24; lia,.str out,i,g.tok _,⟨_,rfl⟩,c out l⟩)
end
def bmV:List b7:=[.type "ValueError",.type "Exception",.type "BaseException",.type "object"]
end L2

namespace L2
def cD(w:i5)(x:c7):keyH w (.inr x)=CK w.params x:=rfl
def lZ{w:i5}{B:j3}{l:List (c7×Nat×V×b7)}{ep:Nat}(h:B.get? a=G0 ⟨.type "dict",G2,.dict ((l.map λe=>(⟨CK w.params e.1,.str e.1 e.2.1,e.2.2.2⟩:B7)).toArray) ep,#[]⟩)
  (r:∀ e∈l,xN e.2.2.1 e.2.2.2) (nd:(l.map (·.1)).Nodup):br P w B a (l.map λe=>(.inr e.1,e.2.2.1)):=by
 erw[l.map λe=>(.inr e.1,e.2.2.2),?_,_,_,ep,h,⟨U,U,U⟩,U,λe b=>?_,?_,?_]
 ·clear h nd
  induction l with
  | nil=>rwa[.nil]
  | cons e l c=>rwa[.cons ⟨rfl,r e (.head _)⟩ (c λe b=>r e (.tail _ b))]
 ·have b:e∈l.map λe=>(⟨CK w.params e.1,.str e.1 e.2.1,e.2.2.2⟩:B7):=by simpa using b
  obtain⟨q,_,rfl⟩:=j9.mp b;rwa[.inr q.1,zz P w q.1 q.2.1,(cD w q.1).symm]
 ·rw[List.toList_toArray];clear h nd r
  induction l with
  | nil=>rwa[.nil]
  | cons e l c=>rwa[.cons (zz P w e.1 e.2.1) rfl c]
 ·rw[Bt];have:((λe:Key×b7=>e.1) ∘ λe:c7×Nat×V×b7=>((.inr e.1:Key),e.2.2.2))=(λx:c7=>(.inr x:Key)) ∘ λe=>e.1:=rfl;rw[this,<- Bt];erw[CY.mpr (List.pairwise_map.mpr ((CY.mp nd).imp λn z=>n ?_))];injection z
def eT(a:Array B7):Bool:=a.toList.all λe=>match e.key with | .str _ _=>G3 | _=>G4
def oY(h:eT a=G3):StrKeys a:=λe b=>by
 have:=t7.mp h e (by simpa using b);cases q:e.key <;> rw[q] at this <;> first | exact⟨_,_,U⟩ | cases this
def jB(K:ac)(N:b6):Bool:=match K.lookup N with
 | some ⟨_,_,.dict a _,_⟩=>eT a&&(nsFind a "__init__").isNone
 | _=>G4
def mT{K:ac}(X:K.In B)(h:jB K N=G3):∃ m,B.Ns N m/\m "__init__" = none:=by
 unfold jB at h;split at h
 ·rename_i c d a b e q
  rw[i8] at h;exact⟨nsFind a,⟨_,a,b,X _ _ q,U,oY h.1,λ_=>rfl⟩,by simpa using h.2⟩
 ·cases h
def md(K:ac):List b7->Bool
 | []=>G4
 | .ref A::tl=>(match K.lookup A with | some ⟨_,_,.cls a,_⟩=>jB K a.ns&&md K tl | _=>G4)
 | v::tl=>(v::tl) == bmV
def rj{K:ac}(X:K.In B):∀{tl:List b7},md K tl=G3->FJ B bmV tl
 | [],h=>by cases h
 | .ref A::tl,h=>by
  unfold md at h;split at h
  ·rename_i c d f a q
   rw[i8] at h;obtain⟨m,h1,h2⟩:=mT X h.1;rwa[.own (X _ _ q) h1 h2 (rj X h.2)]
  ·cases h
 | .type T::tl,h=>by
  have e:(FK T::tl)=bmV:=beq_iff_eq.mp h;rw[e];rwa[.base]
 | .none::tl,h=>by have e:(v3::tl)=bmV:=beq_iff_eq.mp h; rw[e]; rwa[.base]
 | .bool b::tl,h=>by have e:(Dx b::tl)=bmV:=beq_iff_eq.mp h; rw[e]; rwa[.base]
 | .int i t::tl,h=>by have e:(BN i t::tl)=bmV:=beq_iff_eq.mp h; rw[e]; rwa[.base]
 | .float i t::tl,h=>by have e:(D4 i t::tl)=bmV:=beq_iff_eq.mp h; rw[e]; rwa[.base]
 | .str i t::tl,h=>by have e:(AO i t::tl)=bmV:=beq_iff_eq.mp h; rw[e]; rwa[.base]
 | .bytes i t::tl,h=>by have e:(Ft i t::tl)=bmV:=beq_iff_eq.mp h; rw[e]; rwa[.base]
 | .builtin i::tl,h=>by have e:(Ap i::tl)=bmV:=beq_iff_eq.mp h; rw[e]; rwa[.base]
def Xa(K:ac)(C:b6):Bool:=match K.lookup C with
 | some ⟨.type "type",_,.cls a,b⟩=>(match a.mro,b.toList with
  | .ref d::c,[_,_,_,_,G0 (.builtin n),_]=>d == C&&(!a.hasDel&&(n == "ValueError.__new__" && (jB K a.ns&&md K c)))
  | _,_=>G4)
 | _=>G4
def xA{K:ac}{mg:c7->Option b7}(X:K.In B)(u:mg x=G0 (.ref C))(q:Xa K C=G3):j7 x C bmV "ValueError.__new__" mg B:=by
 unfold Xa at q;split at q
 ·rename_i w y e t
  split at q
  ·rename_i D z j i h g n f b o
   simp only[i8,beq_iff_eq,EX] at q;obtain⟨rfl,a,rfl,hi,s⟩:=q;obtain⟨nm,bs,mro,ns,r,hd,p,sub,A,d,v⟩:=y;dsimp only at b a hi;subst b a;have c:e = #[j,i,h,g,G0 (.builtin "ValueError.__new__"),f]:=by
    obtain⟨l⟩:=e;simp only at o;rw[o]
   subst c;obtain⟨m,h1,h2⟩:=mT X hi;rwa[u,z,ns,nm,r,bs,hd,p,sub,A,d,w,j,i,h,g,f,m,X _ _ t,h1,h2,rj X s]
  ·cases q
 ·cases q
def jE{F K:ac} : o9 a (F++K)=match o9 a F with | some o=>G0 o | none=>o9 a K:=by
 induction F with
 | nil=>rfl
 | cons e F b =>
  rw[Dp,l6,l6];cases a == e.1 with
  | true=>rfl
  | false=>rwa[b]
def oM:∀{F:ac}{a:b6}{o:Ad},o9 a F=G0 o->(a,o)∈F
 | [],_,_,h=>by cases h
 | (b,u)::F,a,o,h=>by
  rw[l6] at h;cases z:a == b with
  | true =>
   rw[z] at h;cases h;rw[beq_iff_eq.mp z];rwa[.head _]
  | false =>
   rw[z] at h;rwa[.tail _ (oM h)]
def cX{F K:ac}(n:(F.map (·.1)).all (λa=>(o9 a K).isNone)=G3)(X:w8 (F++K) h):w8 K h:=λa o q=>X a o (by
 rw[jE];cases z:o9 a F with
 | none=>rwa[q]
 | some u =>
  have m:a∈F.map (·.1):=j9.mpr ⟨(a,u),oM z,rfl⟩;have:=t7.mp n a m;rw[q] at this;cases this)
def eR{F K:ac}(n:(F.map (·.2.cls)).all (λc=>!(c == .type "list"))=G3)(h:o9 a (F++K)=G0 o)(c:o.cls=.type "list"):o9 a K=G0 o:=by
 rw[jE] at h;cases z:o9 a F with
 | none=>rw[z] at h; rwa[h]
 | some u =>
  rw[z] at h;have h:G0 u=G0 o:=h;injection h with h
  subst h;have:=t7.mp n u.cls (j9.mpr ⟨(a,u),oM z,rfl⟩);rw[c] at this;simp at this
def walk_of3{l:DQ}{n k:Nat}{XP:(c7->Option b7)->j3->Prop}{J:i5->j3->Prop}{d:DefRec}{KK:Bq->ac}{K:ac}{sp:Sp}{x:c7}
  (N:l.most=G0 n) (A:n<=sizeLine) (C:d.params.defaults=[]) (M:tS k callerA)
  (R:∀(w:i5)(h:j3),J w h->(KK w.params).In h) (sub:∀(p:Bq)(h:j3),(KK p).In h->K.In h) (past:∀(p:Bq)(a:b6)(o:Ad),o9 a (KK p)=G0 o->o.cls=.type "list" -> o9 a K=G0 o)
  (F:∀(w:i5)(mg:c7->Option b7)(r:b6)(h:j3),(KK w.params).In h->h.Ns mainGlobals mg->mg d.name=G0 (.ref r) ->
   ∃ fd:w4,(∀(s:b9)(u:b7),DC s fd ⟨[u],[]⟩ [(x,u)]) /\
    ∀ base:j3,(KK w.params).In base->base.Ns mainGlobals mg->yV l.prog w K mg base CX0 k r fd [x] sp)
  (y:∀(H:Hp)(a:b6)(ns:List Int),ns.length<=n->SqL K H a (ns.map V.int)->sp [.ref a] H (λv _=>v=.bl G3) λ_ _ _=>False) :
  Gr q i XP J l.row.toRowW d [] (λf D=>FR f D):=by
 erw[Att.attach_call N C λw s₀ E mg mb r o pm cd doc a D ns G Y ho hd P B m j c O=>?_];have L:=R w _ Y;obtain⟨fd,Q,Z⟩:=F w mg r _ L G.T.g B;erw[dD (K:=KK w.params) L G.T.g G.T.b G.T.builtins G.T.nolimit O m j (g9 c A) M (λbase I X=>(Z base I X).withK (sub _ _ I)) Q (λH hO S=>y H a ns c ?_) λH e s' z=>z];rcases S with h | ⟨o,t,n,h1,h2,h3⟩
 ·rwa[.inl h]
 ·rwa[.inr ⟨o,t,n,past _ _ _ h1 h2,h2,h3⟩]
end L2

namespace Sea
def p3:List Int->P3
 | [a,b,c]=>(a,b,c)
 | _=>(0,0,0)
end Sea

namespace Sea
section
variable{H:Hp}{v:V}
def fT{x y:Int}(h:Rep H (Deed.move n x y).dt v):∃ a,v=.ref a/\H a=G0 (.tup [.str "move",.str n,.int x,.int y]):=by
 obtain⟨a,g,e,h1,h2⟩:=yG.mp h;obtain⟨_,_,rfl,f,h2⟩:=zI.mp h2;obtain⟨_,_,rfl,d,h2⟩:=zI.mp h2;obtain⟨_,_,rfl,c,h2⟩:=zI.mp h2;obtain⟨_,_,rfl,b,h2⟩:=zI.mp h2;rw[zV.mp f,zV.mp d,yB.mp c,yB.mp b,yM.mp h2] at h1;rwa[a,e,h1]
def nL(h:Rep H (Deed.unmark n).dt v):∃ a,v=.ref a/\H a=G0 (.tup [.str "unmark",.str n]):=by
 obtain⟨a,d,e,h1,h2⟩:=yG.mp h;obtain⟨_,_,rfl,c,h2⟩:=zI.mp h2;obtain⟨_,_,rfl,b,h2⟩:=zI.mp h2;rw[zV.mp c,zV.mp b,yM.mp h2] at h1;rwa[a,e,h1]
def jq(h:Rep H (Deed.level n).dt v):∃ a,v=.ref a/\H a=G0 (.tup [.str "level",.str n]):=by
 obtain⟨a,d,e,h1,h2⟩:=yG.mp h;obtain⟨_,_,rfl,c,h2⟩:=zI.mp h2;obtain⟨_,_,rfl,b,h2⟩:=zI.mp h2;rw[zV.mp c,zV.mp b,yM.mp h2] at h1;rwa[a,e,h1]
def js{k x y:Int}(h:Rep H (Deed.right k x y).dt v):∃ a,v=.ref a/\H a=G0 (.tup [.str "right",.int k,.int x,.int y]):=by
 obtain⟨a,g,e,h1,h2⟩:=yG.mp h;obtain⟨_,_,rfl,f,h2⟩:=zI.mp h2;obtain⟨_,_,rfl,d,h2⟩:=zI.mp h2;obtain⟨_,_,rfl,c,h2⟩:=zI.mp h2;obtain⟨_,_,rfl,b,h2⟩:=zI.mp h2;rw[zV.mp f,yB.mp d,yB.mp c,yB.mp b,yM.mp h2] at h1;rwa[a,e,h1]
structure XT(H:Hp)(cs:List (Int×Int))(ps:List Pr):Prop where
 mk ::
 pt:ps.map (·.2)=cs
 at_:∀ t∈ps,H t.1=G0 (.tup [.int t.2.1,.int t.2.2])
def pN:∀{f:List (Int×Int)}{g:List V},tO H (f.map ptD) g->∃ b:List Pr,g=vN b/\XT H f b
 | [],_,h=>⟨[],yM.mp h,rfl,λt d=>(nomatch d)⟩
 | c::f,_,h=>by
  obtain⟨x,r,rfl,h1,h2⟩:=zI.mp h;obtain⟨a,rfl,i⟩:=pq h1;obtain⟨b,rfl,e,h3⟩:=pN h2;erw[(a,c)::b,U,by rw[i7,e],λt d=>?_];rcases f9.mp d with z | z
  ·rw[z]; rwa[i]
  ·rwa[h3 t z]
def fF(h:Rep H (Deed.bank n d).dt v):∃(a c:b6)(b:List Pr),v=.ref a/\H a=G0 (.tup [.str "bank",.str n,.ref c])/\H c=G0 (.tup (vN b))/\XT H d b/\Rep H (.tup (d.map ptD)) (.ref c):=by
 obtain⟨a,m,e,h1,h2⟩:=yG.mp h;obtain⟨_,_,rfl,i,h2⟩:=zI.mp h2;obtain⟨_,_,rfl,g,h2⟩:=zI.mp h2;obtain⟨_,_,rfl,f,h6⟩:=zI.mp h2;obtain⟨c,l,rfl,h3,h4⟩:=yG.mp f;obtain⟨b,rfl,h5⟩:=pN h4;have j:=yM.mp h6;rw[zV.mp i,zV.mp g,j] at h1;rwa[a,c,b,e,h1,h3,h5,f]
end
def YY : isB a=dg (a.map (·.2)):=by
 have e:∀ i,ptA ((a.map (·.2)).map λc=>((0,c):b6×Int×Int)) i=ptA a i:=λi=>by
  unfold ptA;rw[i3,i3];cases a[i]? <;> rfl
 have l:((a.map (·.2)).map λc=>((0,c):b6×Int×Int)).length=a.length:=by rw[c5,c5]
 unfold dg isB tK eK;simp only[e,l]
def Zl{x y:Int}(h:(zS S n).isSome=G3):bx (mkE S.marks) (.inr n) (ptD (x,y))=mkE (aft S (.move n x y)).marks:=by
 have any:(mkE S.marks).any (λe=>decide (e.1=.inr n))=true:=by
  obtain⟨p,e⟩:=g8.mp h;rwa[Fq.mpr ⟨(.inr n,ptD p),j9.mpr ⟨(n,p),pF e,rfl⟩,by simp⟩]
 unfold bx;rw[y4 any];show _=mkE (S.marks.map _);unfold mkE;rw[Bt,Bt];erw[Ep λe _=>?_];show(if (Bg e.1:Key)=Bg n then((Bg e.1:Key),ptD (x,y)) else(Bg e.1,ptD e.2))=_;by_cases z:e.1=n
 ·rw[y4 (by rw[z])];show _=((Bg (if e.1=n then(e.1,x,y) else e).1:Key),ptD (if e.1=n then(e.1,x,y) else e).2);rw[y4 z]
 ·rw[y3 (λq=>z (Fs q))];show _=((Bg (if e.1=n then(e.1,x,y) else e).1:Key),ptD (if e.1=n then(e.1,x,y) else e).2);rw[y3 z]
def dr(l:List (c7×Int×Int))(n:c7):mr (mkE l) (.inr n)=mkE (l.filter λe=>decide (e.1≠n)):=by
 unfold mr mkE;rw[DP]
 congr 1
 erw[Dc λe _=>?_];simp
def kP(l:List (c7×List (Int×Int))):(bkE l).length=l.length:=by unfold bkE; rw[c5]
def aE(l:List (c7×List (Int×Int)))(n:c7)(a:List (Int×Int)):bkE (l++[(n,a)])=bkE l++[(.inr n,.tup (a.map ptD))]:=by
 unfold bkE;rw[j6];rfl
def cf(l:List (c7×List (Int×Int)))(n:c7):mr (bkE l) (.inr n)=bkE (l.filter λe=>decide (e.1≠n)):=by
 unfold mr bkE;rw[DP]
 congr 1
 erw[Dc λe _=>?_];simp
def jr{l:List (c7×List (Int×Int))}{n:c7}(h:n ∉ l.map (·.1)):∀ e∈bkE l,e.1≠.inr n:=λe a z=>by
 unfold bkE at a;obtain⟨q,b,rfl⟩:=j9.mp a;rwa[h (j9.mpr ⟨q,b,Fs z⟩)]
def vp{es:List (Key×Dt)}{k:Key}(h:∀ e∈es,e.1≠k):look es k=none:=by
 unfold look;rw[DG,B4];rwa[λe a z=>h e a (of_decide_eq_true z)]
def aW{a:List (Key×Dt)}{k:Key}(h:k∈a.map (·.1)):∃ d,look a k=G0 d:=by
 obtain⟨e,b,rfl⟩:=j9.mp h;unfold look;cases q:a.find? λx=>decide (x.1=e.1) with
 | none=>rwa[y8 (B4.mp q e b) (by simp)]
 | some x=>rwa[x.2,U]
def Xd{l:List (c7×List (Int×Int))}{n:c7}(h:n∈l.map (·.1)):∃ d,look (bkE l) (.inr n)=G0 d:=aW (by
 obtain⟨e,a,rfl⟩:=j9.mp h;rwa[j9.mpr ⟨_,j9.mpr ⟨e,a,rfl⟩,rfl⟩])
def bR:∀{l:List (Int×Int)}{k i:Nat}{p:Int×Int},((l.zipIdx k).map λe=>((.inl (e.2:Int):Key),ptD e.1)).map (λe=>if e.1=.inl ((k+i:Nat):Int) then(e.1,ptD p) else e)=((l.set i p).zipIdx k).map λe=>((.inl (e.2:Int):Key),ptD e.1)
 | [],_,_,_=>rfl
 | q::l,k,0,p=>by
  rw[List.set_cons_zero,AB,AB,i7,i7,i7,y4 (by rfl)]
  congr 1
  rw[Ep (g:=id),List.map_id];intro e c;obtain⟨u,b,rfl⟩:=j9.mp c;rw[y3]
  ·rfl
  intro z;injection z with z
  have:=List.le_snd_of_mem_zipIdx b;simp at z;lia
 | q::l,k,i+1,p=>by
  have a:=bR (l:=l) (k:=k+1) (i:=i) (p:=p);rw[show k+1+i=k+(i+1) by lia] at a;rw[List.set_cons_succ,AB,AB,i7,i7,i7,a,y3];intro z;injection z with z
  simp at z;lia
def aX{l:List (Int×Int)}{i:Nat}(h:i<l.length):bx (rnE l) (.inl (i:Int)) (ptD p)=rnE (l.set i p):=by
 have e:=pT (k:=0) (e7 h);rw[DI] at e;have any:(rnE l).any (λe=>decide (e.1=.inl (i:Int)))=true:=by
  cases q:(rnE l).any (λe=>decide (e.1=.inl (i:Int))) with
  | true=>rfl
  | false =>
   have:=vp (es:=rnE l) (k:=.inl (i:Int)) λe a z=>by
    have:=EL.mp q e a;simp[z] at this
   rw[show look (rnE l) (.inl (i:Int))=_ from e] at this;cases this
 unfold bx;rw[y4 any];have:=bR (l:=l) (k:=0) (i:=i) (p:=p);rw[DI] at this;rwa[this]
end Sea

namespace L2
def isS(n:c7):V->Bool
 | .str z=>z == n
 | _=>G4
def rInM(K:ac):R2:=λx y H Q=>∃(p:b6)(b:List V)(n:c7),y=.ref p/\x=.str n/\SqT K H p b/\(∀ v∈b,(∃ z,v=.str z)\/∃ a c,v=.ref a/\SqT K H a c)/\Q (.bl (b.any (isS n))) H
section
variable{X:Cx}
def ZH(i:X.A.units+1<cLine):OpR X (compareOp .In) (rInM X.K):=by
 intro L s G H x y v u Q I o m h;obtain⟨p,c,n,rfl,rfl,D,ok,q⟩:=h;cases m;obtain⟨t,rfl⟩:=o;obtain⟨e,r,B,J⟩:=I.tuple D;have f:∀{c:List V}{d:List b7},xD c d->(∀ v∈c,(∃ z,v=.str z)\/∃ a j,v=.ref a/\SqT X.K H a j)->(∀ u∈d,FU X.A.in1 s u (.str n t) (eqU (.str n) u))/\d.any (eqU (.str n))=c.any (isS n):=by
  intro c d g
  induction g with
  | nil=>exact λ_=>⟨λu i=>(nomatch i),rfl⟩
  | @cons y u c d r _ C =>
   intro ok;obtain⟨h1,h2⟩:=C λv g=>ok v (.tail _ g);rcases ok y (.head _) with ⟨z,rfl⟩ | ⟨a,j,rfl,E⟩
   ·obtain⟨l,rfl⟩:=r;erw[λw b=>?_,by rw[AN,AN,h2]; rfl];rcases f9.mp b with rfl | b
    ·rwa[EG z l n t]
    ·rwa[h1 w b]
   ·cases r;obtain⟨_,_,pa,_⟩:=I.tuple E;erw[λw b=>?_,by rw[AN,AN,h2]; rfl];rcases f9.mp b with rfl | b
    ·rwa[SeqAt.EqAt.tuple_str n t pa i]
    ·rwa[h1 w b]
 obtain⟨h1,h2⟩:=f r ok;refine SeqAt.in_tupleAt (eqU (.str n)) B (λw b=>h1 w (by simpa using b)) ⟨.bl _,H,I,rfl,?_⟩;rw[show e.toArray.any (eqU (.str n))=e.any (eqU (.str n)) by simp,h2];rwa[q]
end
def Same.seqT{K:ac}{H c:Hp}(e:Same H c)(h:SqT K H a b):SqT K c a b:=by
 rcases h with (h | ⟨o,h⟩) | h
 ·rwa[.inl (.inl (e _ _ h))]
 ·rwa[.inl (.inr ⟨o,e _ _ h⟩)]
 ·rwa[.inr h]
def Same.sq{K:ac}{H b:Hp}(s:Same H b)(h:Sq K H l a):Sq K b l a:=by
 rcases h with h | h
 ·rwa[.inl (s.seq h)]
 ·rwa[.inr (s.seqT h)]
end L2

namespace Sea
def BkL(C:b6)(H:Hp)(b p l:b6)(S:BS)(past later:List (Deed×BS)):Prop:=∃ e d a c,BkA C H b p e d l a c S past later
abbrev Bl(b p l:b6):b6->Prop:=λx=>x=b\/x=p\/x=l
section
variable{H H1:Hp}
def BkL.to(k:BkL C H b p l S past later)(s:Sam H H1):BkL C H1 b p l S past later:=let ⟨dx,d,ps,ls,q⟩:=k;⟨dx,d,ps,ls,q.to s⟩
def BkL.at(k:BkL C H b p l S past later):jh C H b p S past later:=let ⟨dx,d,ps,ls,q⟩:=k;⟨dx,d,l,ps,ls,q⟩
def bl_nd(f:H b=G0 (.ins C j fs))(d:H p=G0 (.lst g))(e:H l=G0 (.lst i)):∀ a c,Rd H a (.dK c)->¬ Bl b p l a:=λa c h z=>by
 rcases z with z | z | z <;> subst z <;> rcases h with h | ⟨o,h⟩
 ·rw[f] at h; cases h
 ·rw[f] at h; cases h
 ·rw[d] at h; cases h
 ·rw[d] at h; cases h
 ·rw[e] at h; cases h
 ·rw[e] at h; cases h
def bl_np(i:H b=G0 (.ins C j fs))(f:H p=G0 (.lst d))(g:H l=G0 (.lst e)):∀ a c,H a=G0 (.tup c)->¬ Bl b p l a:=λa c h z=>by
 rcases z with z | z | z <;> subst z
 ·rw[i] at h; cases h
 ·rw[f] at h; cases h
 ·rw[g] at h; cases h
def xQ.split{D:Deed}{S:BS} : ∀{r:List (Deed×BS)}{b:List V},xQ H (r++[(D,S)]) b->∃(a:List V)(t d:b6)(v:V),b=a++[.ref t]/\xQ H r a/\H t=G0 (.tup [v,.ref d])/\Rep H D.dt v/\jy H d S
 | [],b,h=>by
  obtain⟨t,d,v,a,e,h1,h2,h3,h4⟩:=h;have h4:a=[]:=h4;subst h4;rwa[[],t,d,v,e,U,h1,h2,h3]
 | (w,u)::r,b,h=>by
  obtain⟨c,q,f,s,e,p,o,n,m⟩:=h;obtain⟨a,t,d,v,rfl,l,j,i,g⟩:=xQ.split m;rwa[.ref c::a,t,d,v,e,⟨c,q,f,a,U,p,o,n,l⟩,j,i,g]
def xQ.refs:∀{r:List (Deed×BS)}{a:List V},xQ H r a->∃ b:List b6,a=b.map V.ref
 | [],a,h=>⟨[],h⟩
 | (D,S)::r,a,h=>by
  obtain⟨t,d,v,c,rfl,_,_,_,h4⟩:=h;obtain⟨b,rfl⟩:=xQ.refs h4;rwa[t::b,U]
end
end Sea

namespace Sea
mutual
def yb:Dt->List c7
 | .int i=>[d4 (toString i)]
 | .str x=>[x]
 | .tup l=>rK l
def rK:List Dt->List c7
 | []=>[]
 | d::l=>yb d++rK l
end
def oo:Nat->Dt->Prop
 | _,.int i=>i.natAbs.log2<1920
 | _,.str x=>x.length<=1921
 | 0,.tup _=>False
 | n+1,.tup l=>l.length<=900/\∀ d∈l,oo n d
mutual
def fD:∀(n:Nat)(d:Dt),oo n d->∀ w∈yb d,w.length<=1921
 | n,.int i,h,w,a=>by
  have h:i.natAbs.log2<1920:=by cases n <;> rwa[h]
  rw[yb] at a;rw[f7.mp a,Bz];rwa[int_text_length_le (k:=1920) (by decide) h]
 | n,.str x,h,w,a=>by
  have h:x.length<=1921:=by cases n <;> rwa[h]
  rw[yb] at a;rw[f7.mp a];rwa[h]
 | 0,.tup _,h,_,_=>h.elim
 | n+1,.tup l,h,w,a=>by
  rw[yb] at a;rwa[pM n l h.2 w a]
def pM:∀(n:Nat)(l:List Dt),(∀ d∈l,oo n d)->∀ w∈rK l,w.length<=1921
 | _,[],_,w,a=>by rw[rK] at a; exact nomatch a
 | n,d::l,h,w,a=>by
  rw[rK] at a;rcases w6.mp a with z | z
  ·rwa[fD n d (h d (.head _)) w z]
  ·rwa[pM n l (λd hd=>h d (.tail _ hd)) w z]
end
mutual
def sW:Dt->List Dt
 | .int i=>[.int i]
 | .str x=>[.str x]
 | .tup l=>tQ l
def tQ:List Dt->List Dt
 | []=>[]
 | d::l=>sW d++tQ l
end
def w1:Dt->c7
 | .int i=>d4 (toString i)
 | .str x=>x
 | .tup _=>Ei
mutual
def nM:∀ d:Dt,yb d=(sW d).map w1
 | .int i=>by rw[yb,sW]; rfl
 | .str x=>by rw[yb,sW]; rfl
 | .tup l=>by rw[yb,sW]; rwa[yn l]
def yn:∀ l:List Dt,rK l=(tQ l).map w1
 | []=>by rw[rK,tQ]; rfl
 | d::l=>by rw[rK,tQ,j6,nM d,yn l]
end
mutual
def fb:∀(n:Nat)(d:Dt),oo n d->∀ e∈sW d,oo 0 e
 | n,.int i,h,e,a=>by
  rw[sW] at a;rw[f7.mp a];cases n <;> rwa[h]
 | n,.str x,h,e,a=>by
  rw[sW] at a;rw[f7.mp a];cases n <;> rwa[h]
 | 0,.tup _,h,_,_=>h.elim
 | n+1,.tup l,h,e,a=>by
  rw[sW] at a;rwa[pI n l h.2 e a]
def pI:∀(n:Nat)(l:List Dt),(∀ d∈l,oo n d)->∀ e∈tQ l,oo 0 e
 | _,[],_,e,a=>by rw[tQ] at a; exact nomatch a
 | n,d::l,h,e,a=>by
  rw[tQ] at a;rcases w6.mp a with z | z
  ·rwa[fb n d (h d (.head _)) e z]
  ·rwa[pI n l (λd hd=>h d (.tail _ hd)) e z]
end
end Sea

namespace Sea
def dj{n:Nat}{x:c7}(h:x.length<=8):oo n (.str x):=by
 have:x.length<=1921:=by lia
 cases n <;> rwa[this]
def yy{n:Nat}{l:List Dt}(h:l.length<=900)(g:∀ d∈l,oo n d):oo (n+1) (.tup l):=⟨h,g⟩
structure Tame(S:BS)(k:Nat):Prop where
 mk ::
 ma:∀ e∈S.marks,uG e.1
 ba:∀ e∈S.banks,uG e.1
 ru:S.runs.length<=k
 no:∀ e∈S.notes,0<=e.1/\e.1<=S.coming
 co:0<=S.coming/\S.coming<=1+k
def dt2{P:Dt->Prop}(h1:P a)(h2:P b):∀ d∈[a,b],P d:=λd hd=>by
 rcases f9.mp hd with rfl | hd
 ·rwa[h1]
 ·rw[f7.mp hd]; rwa[h2]
def dt3{P:Dt->Prop}(h1:P a)(h2:P b)(h3:P c):∀ d∈[a,b,c],P d:=λd hd=>by
 rcases f9.mp hd with rfl | hd
 ·rwa[h1]
 ·rwa[dt2 h2 h3 d hd]
def dt4{P:Dt->Prop}(h1:P a)(h2:P b)(h3:P c)(h4:P e):∀ d∈[a,b,c,e],P d:=λd hd=>by
 rcases f9.mp hd with rfl | hd
 ·rwa[h1]
 ·rwa[dt3 h2 h3 h4 d hd]
def Bd(S:BS)(B:Nat):Prop:=∀ e∈S.marks,e.2.1.natAbs<=B/\e.2.2.natAbs<=B
structure GrowD(S:BS)(D:Deed)(B:Nat):Prop where
 mk ::
 ok:okD S D
 bd:Bd (aft S D) (B+5)
 lo:S.marks.length<=(aft S D).marks.length
 hi:(aft S D).marks.length<=S.marks.length+1
 bk:(aft S D).banks=S.banks
end Sea

namespace L2
def ia{H:Hp}{cls:EK}(ok:yU P w H h x (jP x cls)):mC h x:=by
 obtain⟨⟨ob,a,h1,_,_,h4,h5⟩,_⟩:=ok;rwa[ob,a,h1,h4,h5]
def Exc(H:Hp)(x:b6):Prop:=∃ cls,H x=G0 (jP x cls)
section
variable{X:Cx}{pos:BM}
def Inv.alone{a:St}{H:Hp}(I:Inv X b a H s)(e:Exc H x):mC s.heap x:=let ⟨_,h⟩:=e; ia (I.hok x _ h)
def gTupH(K:ac)(x:b6)(n:Nat)(t:TGs):TG:=λv a H Q=>Exc H x/\gTup K n t v a H Q
def al{k:Nat}{n:Nat}(B:X.A.handled=G0 (.ref x))(h:PGs X c t)
  (y:(assignEach c X.env).length=n:=by rfl) (f:(assignEach c X.env).findIdx? (·.1)=none:=by rfl):PG X (.Tuple c k pos) (gTupH X.K x n t):=by
 intro j s g H v u Q I r d;obtain⟨ex,a,l,D,w,z,d⟩:=d;subst D;cases r;obtain⟨m,i,q,G⟩:=I.tuple w;erw[oQ B (I.alone ex) q (by simp[y,<- z,i.length]) f λC p=>?_];have E:Inv X j g H { s with heap:=C }:=I.kept (t':=s.toks) λb o e=>p b o (j4 (d7 e)) e;exact h j _ g H l _ Q E (by simpa using i) d
end
def Itx(K:ac)(a x:b6):It:=⟨(Itl K a).go,(Itl K a).yld,λi H=>(Itl K a).stop i H/\Exc H x⟩
section
variable{X:Cx}{G5:List (b6×Ad)}{s:b9}{σ:St}{H:Hp}{a it x:b6}{i:Nat}{tg:o6}{E:b7->b9->Prop}
def eg{h:j3}(st:h.IsListIter it a i):∀ b∈[it],∃ o,h.get? b=G0 o/\∀ v,o.data≠.cell v:=λb f=>by
 rw[f7.mp f];obtain⟨o,e,c,d⟩:=st;exact⟨o,e,λv z=>by rw[d] at z; cases z⟩
def gm{h c:j3}(st:h.IsListIter it a i)(k:∀ b∈[it],∀ o,h.get? b=G0 o->c.get? b=G0 o):c.IsListIter it a i:=st.at λo e=>k it (by simp) o e
def Zn(I:Inv X G5 σ H s)(q:∀ b∈[it],iT X G5 H b)(st:s.heap.IsListIter it a i)(G:(Itx X.K a x).go i H) :
  wpAny (model X.prog X.w) X.A (pyNext (.ref it)) (λr z=>∃ u,r=G0 u /\
   wpAny (model X.prog X.w) X.A (letOwnedTupleGo tg (.ref it) u) (λ_ l=>∃ y j,Inv X G5 σ j l/\xN y u/\(Itx X.K a x).yld i H y j/\l.heap.IsListIter it a (i+1)/\∀ b∈[it],j b=G2) E z) E s:=by
 obtain⟨R,y,n,m⟩:=G;obtain⟨C,B,p,S⟩:=I.list n;obtain⟨u,D,ru⟩:=B.get m;obtain⟨O,N,T,M,L,J⟩:=q it (by simp);refine DA st p.isList (x:=u) (by simpa using D) λt f v=>?_;have P:Inv X G5 σ H { s with heap:=t }:=I.turned (t':=s.toks) (λb o h e=>(v.2 b h).trans e) O N M L J;obtain⟨o,e,c,d⟩:=id f;exact⟨u,U,iN (s:={ s with heap:=t }) e c d (by decide) ⟨y,H,P,ru,⟨U,λQ g=>by rw[I.list_inj g n]; rwa[m]⟩,f,λb h=>(q b h).1⟩⟩
def aN(n:X.A.handled=G0 (.ref x))(I:Inv X G5 σ H s)(m:∀ b∈[it],iT X G5 H b)(st:s.heap.IsListIter it a i)(l:(Itx X.K a x).stop i H) :
  wpAny (model X.prog X.w) X.A (pyNext (.ref it)) (λr f=>r=G2/\Inv X G5 σ H f) E s:=by
 obtain⟨⟨C,j,G⟩,ex⟩:=l;obtain⟨h,g,p,D⟩:=I.list j;obtain⟨d,y,M,v,u,t⟩:=m it (by simp);have J:=g.length;have c:x≠it:=λz=>by
  obtain⟨cls,e⟩:=ex;rw[z,d] at e;cases e
 rwa[pz n (I.alone ex) c st p.isList (by simp; lia) λL B=>⟨rfl,I.turned (t':=s.toks) (λb o q e=>B b o q e) d y v u t⟩]
end
def PIH(X:Cx)(x:b6)(iter:o6)(i:TI):Prop:=∀(g:List (b6×Ad))(s:b9)(c:St)(H:Hp)(R:It->Hp->Prop),Inv X g c H s->i c H R ->
 wpAny (model X.prog X.w) X.A (eval iter X.env) (λv j=>wpAny (model X.prog X.w) X.A (pyIter v) (λd h=>∃(e a:b6)(f:Hp),d=.ref e/\Inv X g c f h/\h.heap.IsListIter e a 0/\(∀ b∈[e],iT X g f b)/\R (Itx X.K a x) f) X.xe j) X.xe s
def YO(K:ac)(x:b6)(tl:TE):TI:=λc H R=>tl c H λv b=>∃ a,A3 (v=.ref a) (∃ d,SqL K b a d) (R (Itx K a x) b)
section
variable{X:Cx}
def dS{tl:TE}(x:b6)(n:PE X l tl):PIH X x l (YO X.K x tl):=by
 intro u s f H R I h;erw[thn (n u s f H _ I h) λv d ⟨y,t,c,g,i⟩=>?_];obtain⟨a,e,⟨w,m⟩,q⟩:=i;subst e;cases g;obtain⟨j,z,p,A⟩:=c.list m;erw[BC p.isList ?_];erw[d.heap.objs.size,a,t,U,c.kept (t':=d.toks) λb o e=>b8 _ e,⟨_,d6 _ rfl,U,U⟩,λb r=>?_,q];rw[f7.mp r];rwa[c.fpOk (d8 _) (c.hok.fresh (d8 _))]
end
section
variable{X:Cx}{T:List c7}{caps:List (c7×Nat)}{scope:BW}{elt target iter:o6}{ifs:List o6}{pos:BM}{wi:TI}{g:CC->TG}{tt:CC->TT}{te:CC->TE}
def cH(S:rR X caps scope)(hc:X.A.handled=G0 (.ref x))(hi:PIH X x iter wi)(hg:∀ c,PG (cxComp X (T++caps.map (·.1)) scope c) target (g c))(ht:∀ c,XF (cxComp X (T++caps.map (·.1)) scope c) ifs (tt c))(he:∀ c,PE (cxComp X (T++caps.map (·.1)) scope c) elt (te c))
  (hs:∀ x,foldedSetIterable iter X.env x=pure x:=by intro _; rfl):PE X (.ListComp elt [⟨target,iter,ifs,0⟩] scope pos) (ZW T.length caps wi g tt te):=by
 intro G5 s σ H Q I h;rw[eval_ListComp];erw[Dg (use:=G2) rfl hs (fJ S.cells) S.kind S.loc (thn (hi G5 s σ H _ I h) λv s1 h1=>thn h1 λitv f h2=>?_)];obtain⟨j,a,M,e,I2,st2,f2,q2⟩:=h2;subst e;refine v5 (Eb S.nocell (by intro y hy; simp at hy) (λh1 hn J=>?_) S.kind);dsimp only at hn J ⊢;generalize R:f.heap.push { cls:=.type "list",dict:=G2,data:=.seq ([]:List b7).toArray }=G at hn J ⊢;have hCv:G.objs.size=f.heap.objs.size+1:=by rw[<- R,AG]
 have hDC:G.objs.size≠f.heap.objs.size:=by rw[hCv]; rwa[Fj _]
 have q:f.heap.objs.size<=G.objs.size:=by rw[hCv]; rwa[D9 _]
 have old:∀ b o,f.heap.get? b=G0 o->h1.get? b=G0 o:=λb o e=>J.extBut b o (j4 (g6 (d7 e) q)) (b8 _ (R ▸ b8 _ e));have hacc:∃ n,h1.get? f.heap.objs.size=G0 { cls:=.type "list",data:=.seq ([]:List b7).toArray n }:=⟨_,J.extBut _ _ (Av hDC) (b8 _ (R ▸ d6 _ rfl))⟩;have Y:∀ b∈[j],b<f.heap.objs.size:=λb l=>by
  obtain⟨o,e,_⟩:=eg st2 b l;rwa[d7 e]
 have cs:=sR (env:=X.env) scope.names [] S.cells (λ_ _ z=>by cases z);have I0:=pJ (T:=T) (tk:=f.toks+([]:List (c7×b7)).length) S I2 f2 Y (d8 _) q hDC old hacc hn;have st0:h1.IsListIter j a 0:=gm st2 λb _ o e=>old b o e;obtain⟨W,⟨m0,w0⟩,turn⟩:=q2 ⟨G.objs.size,f,M,[j]⟩ f.heap.objs.size (I2.hok.fresh (d8 _));have fr0:∀ b∈[j],upd M f.heap.objs.size (.lst []) b=none:=λb l=>by
  rw[zL (j4 (Y b l))];exact(f2 b l).1
 have C:∀{D:Hp},(∀ b∈[j],D b=G2)->∀ b∈[j],iT (cxComp X (T++caps.map (·.1)) scope ⟨G.objs.size,f,M,[j]⟩) [] D b:=λ{D} hn' b l =>
  ⟨hn' b l,j4 (g6 (Y b l) q),I0.ok.exfs b l,.inl l,λx c e=>(f2 b l).2.2.2.2.1 x c (cs x c e),λp hp=>y8 (show p∈([]:List (b6×Ad)) from hp) (by simp)⟩
 have L:codeAny (model X.prog X.w) X.A (.compLoop (.ListComp elt [⟨target,iter,ifs,0⟩] scope pos) 0 (.ref j) (.ref f.heap.objs.size) (compEnvC scope (yu X.env scope.names []) G.objs.size X.env))
   (compPost (model X.prog X.w) X.A X.xe G2 (EP X G5 σ Q) (.ref f.heap.objs.size) G.objs.size) { f with heap:=h1,toks:=f.toks+([]:List (c7×b7)).length }:=by
  erw[codeAny_loop rfl (λn s'=>∃ i B O D,Inv (cxComp X (T++caps.map (·.1)) scope ⟨G.objs.size,f,M,[j]⟩) [] B D s'/\s'.heap.IsListIter j a i/\(∀ b∈[j],D b=G2)/\W i n B O D) (λn s3 hI=>?_) m0 ⟨0,_,[],_,I0,st0,fr0,w0⟩];obtain⟨i,σ3,O,H3,I3,st3,fr3,w3⟩:=hI;show wpAny _ X.A ((compTurn (.ListComp elt [⟨target,iter,ifs,0⟩] scope pos) 0 (.ref j) (.ref f.heap.objs.size) (compEnvC scope (yu X.env scope.names []) G.objs.size X.env)).onRaise (λx=>do noteFrame x (compEnvC scope (yu X.env scope.names []) G.objs.size X.env); theTreesLotGoes x)) _ _ s3;erw[wpAny_noted ?_];rw[compTurn_list];erw[b0 (Co (b0 ?_))];obtain⟨hD3,P⟩:=turn i n σ3 O H3 w3;rcases P with ⟨stop,qn⟩ | ⟨go,N,hN,step⟩
  ·erw[jv (aN (X:=cxComp X (T++caps.map (·.1)) scope ⟨G.objs.size,f,M,[j]⟩) hc I3 (C fr3) st3 stop) λr s4 ⟨hr,I4⟩=>?_];subst hr;erw[c9 ?_];show ∃ m,s4.heap.Ns G.objs.size m/\∀ h',AC G.objs.size s4.heap h'->EP X G5 σ Q (.ref f.heap.objs.size) { s4 with heap:=h' };obtain⟨m4,hn4,_⟩:=I4.loc;erw[m4,hn4,λh' sb=>⟨.ref f.heap.objs.size,H3,?_,U,qn⟩];refine I2.call' (s':={ s4 with heap:=h' }) (ch:=[j]) I4.os (Un.same I4.base sb (AF q)) (HOk.same I4.hok sb I4.free) I4.bare λb l=>?_;obtain⟨_,f1,_,f3,f4,f5⟩:=f2 b l;rwa[f3,f1,f4,f5]
  ·refine jv (Zn (tg:=target) (X:=cxComp X (T++caps.map (·.1)) scope ⟨G.objs.size,f,M,[j]⟩) I3 (C fr3) st3 go) λr s4 ⟨u,hr,h4⟩=>?_;subst hr;refine b0 (jv h4 λ_ s5 ⟨x,H5,I5,r5,y5,st5,fr5⟩=>?_);have I5':=I5.pinned (C fr5) (eg st5);refine b0 (jv (hg _ _ s5 σ3 H5 x u _ I5' r5 (step x H5 y5)) λ_ s6 ⟨E,H6,I6,q6⟩=>?_);have again:∀{s7:b9}{t:St}{zs:List V}{Z:Hp},Inv (cxComp X (T++caps.map (·.1)) scope ⟨G.objs.size,f,M,[j]⟩) ([]++pK [j] s5.heap) t Z s7->N t zs Z ->
     ∃ m,m<n/\∃ i B O D,Inv (cxComp X (T++caps.map (·.1)) scope ⟨G.objs.size,f,M,[j]⟩) [] B D s7/\s7.heap.IsListIter j a i/\(∀ b∈[j],D b=G2)/\W i m B O D:=λ{s7 t zs Z} I7 n7=>by
    obtain⟨m',hm,w7⟩:=hN t zs Z n7;erw[m',hm,i+1,t,zs,Z,I7.unpinned,gm st5 λb l o e=>(I7.pin (b,o) (k9 _ (k9 _ (vW l e)))).1,λb l=>?_,w7];obtain⟨o,e,d⟩:=eg st5 b l;exact(I7.pin (b,o) (k9 _ (k9 _ (vW l e)))).2.1
   erw[b0 (jv (ht _ _ s6 E H6 _ I6 q6) λok s7 ⟨Z,I7,q7⟩=>?_)];cases ok with
   | false=>rwa[c9 ⟨rfl,again I7 q7⟩]
   | true =>
    erw[b0 (b0 (jv (he _ _ s7 E Z _ I7 q7) λy s8 ⟨yv,H8,I8,r8,hD8,hl8,q8⟩=>?_))];erw[b0 (jv (uo _ s8 E H8 (.ref f.heap.objs.size) [yv] (.ref f.heap.objs.size) [y] (λ_ H9=>N E (O++[yv]) H9) I8 rfl (.cons r8 .nil) ⟨_,O,yv,rfl,rfl,hD8,hl8,q8⟩) λ_ s9 ⟨_,H9,I9,_,q9⟩=>?_)];rwa[c9 (c9 ⟨rfl,again I9 q9⟩)]
 rwa[codeAny_compStart_list L (DW st0 L)]
end
section
variable{K:ac}{a x D:b6}{xs:List V}{g:TG}{tt:TT}{te:TE}{σ0:St}{H1:Hp}{Q:VK}
def ib(h:Nat->St->List V->Hp->Prop)(h0:h 0 σ0 [] (upd H1 D (.lst [])))(u:∀ i d c H,i<=xs.length->h i d c H->SqL K H a xs/\H D=G0 (.lst c)/\Exc H x)
  (t:∀ i x d c H,xs[i]?=G0 x->h i d c H->g x d H λf v=>tt f v λb n =>
   if b=G3 then te f n λy l=>l D=G0 (.lst c)/\c.length<sizeLine/\h (i+1) f (c++[y]) (upd l D (.lst (c++[y]))) else h (i+1) f c n)
  (hd:∀ d c H,h xs.length d c H->Q (.ref D) H):wf (Itx K a x) D g tt te σ0 H1 Q:=by
 exists λi m d c H=>m=xs.length-i/\i<=xs.length/\h i d c H,⟨xs.length,by simp,j8 _,h0⟩;rintro i m d c H ⟨rfl,hi,p⟩;obtain⟨q,s,r⟩:=u i d c H hi p;exists s;by_cases j:i<xs.length
 ·erw[.inr ⟨⟨xs,xs[i],q,by simp[j]⟩,h (i+1),λo A w z=>⟨xs.length-(i+1),by lia,rfl,j,z⟩,λx w y=>?_⟩];obtain⟨e,y⟩:=y;subst e;rwa[t i x d c _ (y xs q) p]
 ·have e:i=xs.length:=by lia
  subst e;rwa[.inl ⟨⟨⟨xs,q,d8 _⟩,r⟩,hd d c H p⟩]
end
section
variable{X:Cx}{G5:List (b6×Ad)}{σ:St}{H:Hp}{s:b9}
def Inv.stir(I:Inv X G5 σ H s){A:u8}(a:A.frames=X.A.frames):Inv { X with A:=A,calm:=G4,xe:=λ_ _=>False } G5 σ H s :=
 ⟨⟨I.ok.mod,I.ok.kind,I.ok.glob,I.ok.blt,I.ok.above,I.ok.inj,I.ok.has,I.ok.cab,λz=>(nomatch z),a.trans I.ok.frames,I.ok.stk,I.ok.exf,I.ok.bs,I.ok.bsz,I.ok.noex,I.ok.exfs,I.ok.funs,I.ok.frf⟩,I.os,I.bare,I.base,I.loc,I.cell,I.free,I.freeC,I.pin,I.hok,I.len⟩
end
abbrev dh(A:u8):u8:={ A with handled:=G2 }
abbrev cxH(P:e9)(w:i5)(K:ac)(mg:c7->Option b7)(base:j3)(N:List c7)(b:c7)(a:BW)(f:b6)(c:b7)(A:u8)(outer:List Cj)(s:b9)(H:Hp):Cx :=
 { cxOf CX0 P w K mg base N b a f c A outer s H E0 with calm:=G4,xe:=λ_ _=>False }
structure cS(P:e9)(w:i5)(K:ac)(mg:c7->Option b7)(base:j3)(k:Nat)(f:b6)(fd:w4)(ps:List c7)(sp:b6->Sp):Prop where
 mk ::
 len:∀ x vs H Q E,sp x vs H Q E->vs.length=ps.length
 run:∀(x:b6)(A:u8)(outer:List Cj)(s:b9)(H:Hp)(args:Args)(us:List b7)(vs:List V)(Q:VK),A.handled=G0 (.ref x)->tS k (dh A)->dZ P w K mg base A outer s H->DC s fd args (ps.zip us)->xD vs us->sp x vs H Q E0 ->
  codeAny (model P w) A (.call (.ref f) args) (CR CX0 outer P w H s Q E0) s
section
variable{P:e9}{w:i5}{K:ac}{mg:c7->Option b7}{base:j3}
def Fun.okH{st:v4}{fd:w4}{k:Nat}{D:b6->Sp}(F:Fun K x a st f fd)(S:zP N B (zH st))(len:∀ x g H Q E,D x g H Q E->g.length=B.length)
  (l:∀(x:b6)(c:b7)(A:u8)(outer:List Cj)(s:b9)(H:Hp)(g:List V)(Q:VK),A.handled=G0 (.ref x)->tS k ((dh A).deeper (envOfC a (zH st) s.heap.objs.size f c))->D x g H Q E0 ->
   ∃ t,PSs (cxH P w K mg base N a (zH st) f c A outer s H) (xB st) t/\t { nx:=λ_ i=>Q .non i,rt:=Q } (start N g) H):cS P w K mg base (k+1) f fd B D:=by
 obtain⟨oc,od,kV,doc,pm,an,c,ct,osl,rfl,lk,O⟩:=F.ex;refine⟨len,λx A outer s H Y us g Q hx X d hb r m=>?_⟩;have hl:=len _ _ _ _ _ m;have Z:K.In s.heap:=d.mod.kin.keeps λb o e=>(d.bs b o e).1;have M:s.heap.NoLimit:=d.mod.nolimit.keeps λb o e=>(d.bs b o e).1;have j:∀ y∈B.zip us,(zH st).names.lookup y.1=G0 .local\/((zH st).names.lookup y.1=G0 .cell/\((cellsFrom (s.heap.objs.size+1) (zH st).names []).lookup y.1).isSome=G3):=λ⟨n,v⟩ hy=>by
  rcases S.par n (Cu hy).1 with q | q
  ·rwa[.inl q]
  ·rwa[.inr ⟨q,Cd _ _ _ (.inl q)⟩]
 refine codeAny_call_function (show A.depth<recursionLimit from X.depth) (Z _ _ lk) rfl S.co S.gen rfl (Ez Z O) (hb _ _ _ _ ?_);refine CS S.kind j λenv he G R=>?_;subst he;refine⟨M.keeps R.toInCall.keep,codeAny_func ?_⟩;obtain⟨t,ht,hq⟩:=l x c A outer s H g Q hx (X.deeper _) m;have e1:dZ P w K mg base (dh A) outer s H:=⟨d.frames,d.mod,d.bs,d.bsz,d.funs,d.frf,d.hok,d.bare⟩;have I0:Inv (cxOf CX0 P w K mg base N a (zH st) f c (dh A) outer s H E0) [] (start N g) H G:=ny S rfl e1 hl r R;have I:Inv (cxH P w K mg base N a (zH st) f c A outer s H) [] (start N g) H G:=I0.stir rfl;refine An (ht [] G (start N g) H _ I hq) (λfl T C=>?_) λ_ _ z=>l9 z;have p:∀{h:St}{i:Hp}{v:V}{u:b7},Inv (cxH P w K mg base N a (zH st) f c A outer s H) [] h i T->xN v u->Q v i->CE outer P w H s Q u T :=
  λ{h i v u} J L q=>⟨v,i,J.os,J.bare,J.base,J.hok,L,q⟩
 cases fl with
 | ret u =>
  obtain⟨v,h,i,J,L,q⟩:=C;rwa[p J L q]
 | next =>
  obtain⟨h,i,J,q⟩:=C;rwa[p (v:=V.non) (u:=v3) J rfl q]
 | brk =>
  obtain⟨_,_,_,q⟩:=C;rwa[l9 q]
 | cont =>
  obtain⟨_,_,_,q⟩:=C;rwa[l9 q]
end
def XH(P:e9)(w:i5)(K:ac)(mg:c7->Option b7)(base:j3)(x:c7)(n:Nat)(a:List c7)(b:b6->Sp):Prop :=
 ∃(f:b6)(fd:w4),cS P w K mg base n f fd a b/\zt K fd a []/\u9 K (.ref f)=G3/\mg x=G0 (.ref f)
section
variable{X:Cx}{x:c7}{p pos:BM}{e:o6}{es:List o6}{t:TA}{n:Nat}{ps:List c7}{sp:b6->Sp}
def df(h:XH X.prog X.w X.K X.mg X.base x n ps sp)(i:tS n X.A)(C:Gl X x)(G:PA (X.hd (.ref a)) (e::es) t)(l:(x ==("__debug__" : c7))=false:=by decide)
  (D:starEach (e::es) X.env=(G4,eval e X.env)::starEach es X.env:=by rfl) (j:(backTo pos (starEach es X.env)).any (·.1)=false:=by rfl):PE (X.hd (.ref a)) (.Call (.Name x p) (e::es) [] pos) (iM (sp a) [] E0 t):=by
 obtain⟨f,fd,F,E,hk,z⟩:=h;intro L s y H Q I h;erw[Ac (wF I C z ?_ l)];erw[Ay (h₀:=X.base) I.ok.mod.kin hk (thn (G pos L s y H _ I h) λd o ⟨m,v,g,r,q⟩=>⟨g.kIn,?_⟩) D j];have q:sp a (m++[]) v Q E0:=q;rw[Al] at q;have B:d.length=ps.length:=by rw[<- r.length]; rwa[F.len _ _ _ _ _ q]
 have c:=E o d g.kIn (by rw[Al]; rwa[B]);rw[Al] at c;erw[Br (codeAny_mono (F.run a (X.hd (.ref a)).A X.stack o v ⟨d,[]⟩ d m Q rfl ⟨rfl,i.dp,i.un,i.gd⟩ g.env0 c r q) λr M b=>?_)];cases r with
 | error e=>rwa[l9 b]
 | ok J =>
  cases J with
  | ret u=>rwa[g.after b]
  | next=>rwa[l9 b]
  | brk=>rwa[l9 b]
  | cont=>rwa[l9 b]
end
open PySem PySem.Spec PyProof.Rows PySem.W
def XW(K:ac)(D:b6):Bool :=
 (findIn K (.ref D) "__getattribute__" == G0 (G0 (.builtin "BaseException.__getattribute__")))&&(findIn K (.ref D) "__getattr__" == G0 G2) &&
 (match findObj K D G2 "__class__" with | some (.bind g a)=>g == .builtin "getset_descriptor.__get__" && a == .builtin "object.__class__" | _=>G4) &&
 (mroIn K D (.type "BaseException") == G0 G3)&&(mroIn K D (.type "object") == G0 G3)
def Zc{K:ac}(h:XW K D=G3):ye K D:=by
 unfold XW at h;simp only[i8] at h;obtain⟨⟨⟨⟨h1,h2⟩,h3⟩,h4⟩,h5⟩:=h;erw[eq_of_beq h1,eq_of_beq h2,?_,eq_of_beq h4,eq_of_beq h5];split at h3
 ·rename_i g a e
  rw[i8] at h3;rw[e,eq_of_beq h3.1,eq_of_beq h3.2]
 ·cases h3
def Za(K:ac)(a:List b6):Bool:=a.all λD=>XW K D&&(kitOne K (.ref D) (.type "ValueError") == G0 G3)&&a.all λc=>kitOne K (.ref D) (.ref c) == G0 (D == c)
section
variable{K:ac}{Ds:List b6}{D c:b6}
def jR(h:Za K Ds=G3)(a:D∈Ds):ye K D:=by
 have:=t7.mp h D a;simp only[i8] at this;rwa[Zc this.1.1]
def cu(h:Za K Ds=G3)(a:D∈Ds):kitOne K (.ref D) (.type "ValueError")=G0 true:=by
 have:=t7.mp h D a;simp only[i8] at this;rwa[eq_of_beq this.1.2]
def ci(h:Za K Ds=G3)(b:D∈Ds)(a:c∈Ds):kitOne K (.ref D) (.ref c)=G0 (D == c):=by
 have:=t7.mp h D b;simp only[i8] at this;rwa[eq_of_beq (t7.mp this.2 c a)]
end
end L2

namespace Sea
open PySem L2 PySem.Spec
open PyProof.Rows hiding St
mutual
def pd:Dt->PyData
 | .int i=>.int i
 | .str x=>.str x
 | .tup l=>.tuple (pds l)
def pds:List Dt->List PyData
 | []=>[]
 | d::l=>pd d::pds l
end
mutual
def shB:Dt->Nat
 | .int i=>i.natAbs.log2+3
 | .str x=>10*x.length+2
 | .tup l=>ic l+4
def ic:List Dt->Nat
 | []=>0
 | d::l=>shB d+2+ic l
end
mutual
def okS:Dt->Prop
 | .int i=>i.natAbs.log2<1920
 | .str x=>∀ c∈x.cps.toList,c<16^8
 | .tup l=>qb l
def qb:List Dt->Prop
 | []=>True
 | d::l=>okS d/\qb l
end
def nA(a:List c7):(tupleText a).length<=piled a+4:=by
 unfold tupleText;rw[strLen_append,strLen_append];have h1:("(" : c7).length=1:=rfl;have h2:(d4 (if a.length == 1 then ",)" else ")")).length<=2:=by split <;> decide
 have h3:(EV ", " a).length<=piled a:=by
  by_cases z:a=[]
  ·subst z; decide
  ·have:=join_length_add a z; lia
 lia
mutual
def jI:∀ d:Dt,okS d->(pd d).shown.length<=shB d
 | .int i,h=>by
  rw[okS] at h;rw[pd,shB,EY];have:=int_text_length_le (k:=i.natAbs.log2+1) (by lia) (Dk i.natAbs.log2);rw[<- Bz] at this;lia
 | .str x,h=>by
  rw[okS] at h;rw[pd,shB,EY];rwa[Ed x h]
 | .tup l,h=>by
  rw[okS] at h;rw[pd,shB,EY];have:=nA (Cy (pds l));have:=nB l h;lia
def nB:∀ l:List Dt,qb l->piled (Cy (pds l))<=ic l
 | [],_=>by rw[pds,Cy,ic]; decide
 | d::l,h=>by
  rw[qb] at h;rw[pds,Cy,ic,piled_cons];have:=jI d h.1;have:=nB l h.2;lia
end
mutual
def jw:∀ d:Dt,okS d->(pd d).showable=G3
 | .int i,h=>by rw[okS] at h; rw[pd,DS]; rwa[y6 h]
 | .str x,_=>by rw[pd,DS]
 | .tup l,h=>by rw[okS] at h; rw[pd,DS]; rwa[ng l h]
def ng:∀ l:List Dt,qb l->CZ (pds l)=G3
 | [],_=>by rw[pds,CZ]
 | d::l,h=>by rw[qb] at h; rw[pds,CZ,jw d h.1,ng l h.2]; rfl
end
mutual
def eu:∀ d:Dt,(pd d).hasDict=G4
 | .int i=>by rw[pd,Ee]
 | .str x=>by rw[pd,Ee]
 | .tup l=>by rw[pd,Ee]; rwa[jU l]
def jU:∀ l:List Dt,Dd (pds l)=G4
 | []=>by rw[pds,Dd]
 | d::l=>by rw[pds,Dd,eu d,jU l]; rfl
end
def si{n:Nat} : ∀ l:List Dt,(∀ d∈l,(pd d).depth<=n)->DT (pds l)<=n
 | [],_=>by rw[pds,DT]; rwa[j8 _]
 | d::l,h=>by
  rw[pds,DT];have:=h d (.head _);have:=si l λd hd=>h d (.tail _ hd);lia
def jS:∀(n:Nat)(d:Dt),oo n d->(pd d).depth<=n
 | n,.int i,_=>by rw[pd,EZ]; rwa[j8 _]
 | n,.str x,_=>by rw[pd,EZ]; rwa[j8 _]
 | 0,.tup _,h=>h.elim
 | n+1,.tup l,h=>by
  rw[pd,EZ];have:=si (n:=n) l λd hd=>jS n d (h.2 d hd);lia
section
variable{X:Cx}{G5:List (b6×Ad)}{σ:St}{H:Hp}{s:b9}
mutual
def je(I:Inv X G5 σ H s):∀(d:Dt){v:V}{u:b7},Rep H d v->xN v u->∃ b,Reads s.heap u (pd d) b
 | .int i,v,u,h,r=>by
  rw[yB.mp h] at r;obtain⟨t,rfl⟩:=(show ∃ t,u=BN i t from r);rw[pd];rwa[_,.int i t]
 | .str x,v,u,h,r=>by
  rw[zV.mp h] at r;obtain⟨t,rfl⟩:=(show ∃ t,u=AO x t from r);rw[pd];rwa[_,.str x t]
 | .tup l,v,u,h,r=>by
  obtain⟨a,m,rfl,j,e⟩:=yG.mp h;obtain rfl:u=e8 a:=r;obtain⟨g,c,⟨o,h1,h2,n,h3⟩,p⟩:=I.tuple (SqT.of j);obtain⟨b,f⟩:=nI I l e c;rw[pd];exact⟨_,.tuple h1 h2 h3 (by simpa using f)⟩
def nI(I:Inv X G5 σ H s):∀(l:List Dt){a:List V}{b:List b7},tO H l a->xD a b->∃ c,ReadsAll s.heap b (pds l) c
 | [],a,b,h,r=>by
  rw[yM.mp h] at r;cases r;rw[pds];rwa[_,.nil]
 | d::l,a,b,h,r=>by
  obtain⟨x,j,rfl,h1,h2⟩:=zI.mp h;cases r with
  | cons i g =>
   obtain⟨c,f⟩:=je I d h1 i;obtain⟨bs,e⟩:=nI I l h2 g;rw[pds];rwa[_,.cons f e]
end
end
section
variable{X:Cx}{e:o6}{es:List o6}{t:TJ}{te:TE}{pos p:BM}{n:Nat}
def Xh(te:TE)(t:TJ):TJ:=λa H K=>te a H λv b=>(∃ d,A4 (Rep b d v) (okS d) (oo 4 d) (shB d<=2000))/\t a b K
def lF(R:X.A.guards=G0 [])(hu:X.A.units+64<cLine)(O:PE X e te)(P:PJ X es n t)(S:evalEach (.FormattedValue e (-1) G2 p::es) X.env=eval (.FormattedValue e (-1) G2 p) X.env::evalEach es X.env:=by rfl):PJ X (.FormattedValue e (-1) G2 p::es) (n+1) (Xh te t):=by
 intro E s o H k c Q C I h hk q z;rw[S];refine CW (thn (O E s o H _ I q) λu s1 ⟨v,G,m,r,⟨d,rd,ok,L,T⟩,N⟩=>?_);have j:=jI d ok;have b:∀(y:c7)(g:b9)(f:GU),y.length<=2000->Inv X E o G g->∃ B t,AO y f=.str B t/\(c++B).length<=sizeLine/\Joins (model X.prog X.w) X.A X.xe (evalEach es X.env) (c++B) Q g:=λy g f hy Y =>
  ⟨y,f,rfl,by rw[strLen_append]; show c.length+y.length<=2^24; lia,P E g o G (k+1) _ _ C Y (by rw[strLen_append]; lia) (by lia) N z⟩
 match d,rd,ok,j with
 | .int i,rd,ok,j =>
  rw[yB.mp rd] at r;obtain⟨D,rfl⟩:=(show ∃ t,u=BN i t from r);rw[okS] at ok;have l:=int_text_length_le (k:=1920) (by decide) ok;rw[<- Bz] at l;rwa[D0 ok (b _ _ _ (by lia) (m.tok _))]
 | .str x,rd,ok,j =>
  rw[zV.mp rd] at r;obtain⟨D,rfl⟩:=(show ∃ t,u=AO x t from r);rw[shB] at T;exact formatField_str (λf J=>b x _ f (by lia) (m.tok _)) (by show x.length<=2^24; lia)
 | .tup l,rd,ok,j =>
  obtain⟨as,M⟩:=je m _ rd r;obtain⟨a,Z,rfl,_⟩:=yG.mp rd;obtain rfl:u=e8 a:=r;have dl:=jS 4 _ L;refine formatField_of_reads M (jw _ ok) (λz=>by rw[eu] at z; cases z) R (by lia) (λ_ _ e=>e) (λh' u D hk=>?_) (by show _<=2^24; lia);rwa[b _ _ _ (by lia) (m.kept (t':=D) hk)]
def Xm(te:TE)(t:TJ):TJ:=λa H K=>te a H λv b=>(∃ x:c7,A3 (v=.str x) (∀ c∈x.cps.toList,c<16^8) (x.length<=190))/\t a b K
def kN(i:PE X e te)(j:PJ X es n t)(l:evalEach (.FormattedValue e 114 G2 p::es) X.env=eval (.FormattedValue e 114 G2 p) X.env::evalEach es X.env:=by rfl):PJ X (.FormattedValue e 114 G2 p::es) (n+1) (Xm te t):=by
 intro c s b H k a Q C I h hk q z;rw[l];erw[wpAny_FormattedValue_repr (thn (i c s b H _ I q) λu A ⟨v,w,o,r,⟨x,ex,m,B⟩,g⟩=>?_)];subst ex;obtain⟨y,rfl⟩:=(show ∃ t,u=AO x t from r);have D:=Ed x m;refine wpAny_pyReprObj_str ?_ (by show _<=2^24; lia);refine formatField_str (λf d=>?_) (by show _<=2^24; lia);exact⟨_,f,U,by rw[strLen_append]; show a.length+_<=2^24; lia,j c _ b w (k+1) _ _ C (o.tok _) (by rw[strLen_append]; lia) (by lia) g z⟩
end
end Sea
namespace L2
section
variable{X:Cx}{x y:c7}{p pos:BM}{i e:o6}{es:List o6}{ty:TE}{t:TA}
structure bT(P:e9)(w:i5)(K:ac)(mg:c7->Option b7)(B:j3)(m:Nat)(kvs:List (Key×V))(k:Key)(sp:Sp):Prop where
 mk ::
 has:∃(x:c7)(f:b6)(n:Nat)(ps:List c7),vB kvs k=G0 (.ref f)/\mg x=G0 (.ref f)/\tN P w K mg B x n ps sp/\n<=m
def tTabX(b:List (Key×Sp))(h:St->XK)(ty:TE)(t:TA):TE:=λa H Q=>ty a H λy g=>E2 λ(k:Key) (c:Sp)=>A3 (y=kV k) ((k,c)∈b) (t a g λd f=>c d f Q (h a))
def aQ(C:St->XK){m:Nat}{c:List (Key×Sp)}(Y:br X.prog X.w X.base a g)(R:X.mg x=G0 (.ref a))(hT:∀ r∈c,bT X.prog X.w X.K X.mg X.base m g r.1 r.2)(M:lg X C)(O:tS m X.A)(hi:PE X i ty)(Z:PA X (e::es) t)
  (N:XI i:=by rwa[λ_ _=>rfl]) (S:Gl X x:=by rfl) (hd:(x ==("__debug__" : c7))=false:=by decide)
  (T:starEach (e::es) X.env=(G4,eval e X.env)::starEach es X.env:=by rfl) (q:(backTo pos (starEach es X.env)).any (·.1)=false:=by rfl)
  (u:eval (.Call (.Subscript (.Name x p) i o) (e::es) [] pos) X.env=(do callWith pos (<- eval (.Subscript (.Name x p) i o) X.env) [] (backTo pos (starEach (e::es) X.env)) (backToKw pos (keywordEach [] X.env))):=by rfl) :
  PE X (.Call (.Subscript (.Name x p) i o) (e::es) [] pos) (tTabX c C ty t):=by
 intro B s v H Q I h;erw[Call_ (ki BR.lookup N (wF I S R (thn (hi B s v H _ I h) λiv s2 ⟨y,H2,I2,E,k,sp,ey,mem,J⟩=>?_) hd)) u];subst ey;obtain⟨x',f,n,ps,l,L,⟨f',fd,F,b,kp,d⟩,P⟩:=(hT _ mem).has;rw[L] at d;cases d;erw[bz Y I2 l E λw' D I3 j=>?_];cases j;erw[Ay (h₀:=X.base) I.ok.mod.kin kp (thn (Z pos B D v H2 _ I3 J) λus s4 ⟨vs,H4,z,r,G⟩=>⟨z.kIn,?_⟩) T q];rwa[oH F (O.mono P) b M z r G]
end
section
variable{X:Cx}
def dw:OpR X (compareOp .In) (λx y H Q=>E2 λ(i j:c7)=>A3 (x=.str i) (y=.str j) (Q (.bl !(Ca j i 0 j.length 1).isEmpty) H)):=by
 intro e s c H x y v u Q I b a h;obtain⟨i,j,rfl,rfl,q⟩:=h;obtain⟨t,rfl⟩:=b;obtain⟨d,rfl⟩:=a;rwa[PySem.P.in_str (yP I q rfl)]
end
end L2

namespace Sea
inductive Cl where
 | badName | taken | badPlace | full | noMark | same | needed | badBank | noBank | badRun | noRun | noMoment | badWay | badTurn | noNote
 deriving DecidableEq
open Classical in
noncomputable def zT(S:BS):Deed->Option Cl
 | .mark n x y=>if ¬ uG n then G0 .badName else if (zS S n).isSome=G3 then G0 .taken else if ¬ rT (x,y) then G0 .badPlace else if 20<=S.marks.length then G0 .full else G2
 | .move n x y=>if zS S n=G2 then G0 .noMark else if ¬ rT (x,y) then G0 .badPlace else if ∀ e∈S.notes,nS (aft S (.move n x y)) e.2 then G2 else G0 .same
 | .unmark n=>if zS S n=G2 then G0 .noMark else if ∀ e∈S.notes,qT n e.2 then G2 else G0 .needed
 | .bank n f=>if ¬ uG n then G0 .badName else if n∈S.banks.map (·.1) then G0 .taken else if ¬ ∀ c∈f,rT c then G0 .badPlace else if dg f=G4 then G0 .badBank else if 8<=S.banks.length then G0 .full else G2
 | .level n=>if n∈S.banks.map (·.1) then G2 else G0 .noBank
 | .sail x y=>if ¬ rT (x,y) then G0 .badRun else if 12<=S.runs.length then G0 .full else G2
 | .right k x y=>if 0<=k/\k<S.runs.length then(if rT (x,y) then G2 else G0 .badRun) else G0 .noRun
 | .bearing m n a b c d=>if ¬ (0<=m/\m<=S.runs.length) then G0 .noMoment else if zS S n=G2 then G0 .noMark else if ¬ wk (a,b) then G0 .badWay else if ¬ wk (c,d) then G0 .badWay else if a*d-b*c<=0 then G0 .badTurn else if 24<=S.notes.length then G0 .full else G2
 | .range m l r=>if ¬ (0<=m/\m<=S.runs.length) then G0 .noMoment else if zS S l=G2 then G0 .noMark else if zS S r=G2 then G0 .noMark else if zS S l=zS S r then G0 .same else if 24<=S.notes.length then G0 .full else G2
 | .strike k=>if k∈S.notes.map (·.1) then G2 else G0 .noNote
def qJ{a:Type}{o:Option a}(h:¬ o=G2):o.isSome=true:=by cases o <;> simp at h ⊢
def vd(h:zT S D=G2):okD S D:=by
 cases D with
 | mark n x y =>
  simp only[zT] at h;split at h; · cases h
  split at h; · cases h
  split at h; · cases h
  split at h; · cases h
  rename_i h1 h2 h3 h4
  exact⟨d3.mp h1,by cases e:zS S n <;> simp[e] at h2 ⊢,d3.mp h3,by lia⟩
 | move n x y =>
  simp only[zT] at h;split at h; · cases h
  split at h; · cases h
  split at h
  ·rename_i h1 h2 h3; rwa[qJ h1,d3.mp h2,h3]
  ·cases h
 | unmark n =>
  simp only[zT] at h;split at h; · cases h
  split at h
  ·rename_i h1 h2; rwa[qJ h1,h2]
  ·cases h
 | bank n f =>
  simp only[zT] at h;split at h; · cases h
  split at h; · cases h
  split at h; · cases h
  split at h; · cases h
  split at h; · cases h
  rename_i h1 h2 h3 h4 h5
  exact⟨d3.mp h1,h2,d3.mp h3,by cases e:dg f <;> simp[e] at h4 ⊢,by lia⟩
 | level n =>
  simp only[zT] at h;split at h
  ·rename_i h1; rwa[h1]
  ·cases h
 | sail x y =>
  simp only[zT] at h;split at h; · cases h
  split at h; · cases h
  rename_i h1 h2
  rwa[d3.mp h1,by lia]
 | right k x y =>
  simp only[zT] at h;split at h
  ·split at h
   ·rename_i h1 h2; rwa[h1.1,h1.2,h2]
   ·cases h
  ·cases h
 | bearing m n a b c d =>
  simp only[zT] at h;split at h; · cases h
  split at h; · cases h
  split at h; · cases h
  split at h; · cases h
  split at h; · cases h
  split at h; · cases h
  rename_i h1 h2 h3 h4 h5 h6
  have h1:=d3.mp h1;rwa[h1.1,h1.2,qJ h2,d3.mp h3,d3.mp h4,by lia,by lia]
 | range m l r =>
  simp only[zT] at h;split at h; · cases h
  split at h; · cases h
  split at h; · cases h
  split at h; · cases h
  split at h; · cases h
  rename_i h1 h2 h3 h4 h5
  have h1:=d3.mp h1;rwa[h1.1,h1.2,qJ h2,qJ h3,h4,by lia]
 | strike k =>
  simp only[zT] at h;split at h
  ·rename_i h1; rwa[h1]
  ·cases h
def jA(ok:Prop)(Q:VK)(E:XK)(c:b6)(H:Hp):Prop:=(ok/\∀ a,Same H a->Q .non a)\/(¬ ok/\∀ a,Same H a->E (.ref c) G2 a)
section
variable{ok:Prop}{Q:VK}{E:XK}{c:b6}{H H':Hp}
def jA.yes(h:jA ok Q E c H)(o:ok)(s:Same H H'):Q .non H':=by
 rcases h with ⟨_,h⟩ | ⟨n,_⟩
 ·rwa[h H' s]
 ·rwa[y8 o n]
def jA.no(h:jA ok Q E c H)(o:¬ ok)(s:Same H H'):E (.ref c) G2 H':=by
 rcases h with ⟨y,_⟩ | ⟨_,h⟩
 ·rwa[y8 y o]
 ·rwa[h H' s]
def jA.of(h1:ok->∀ H',Same H H'->Q .non H')(h2:¬ ok->∀ H',Same H H'->E (.ref c) G2 H'):jA ok Q E c H:=by
 by_cases o:ok
 ·rwa[.inl ⟨o,h1 o⟩]
 ·rwa[.inr ⟨o,h2 o⟩]
end
def mJ(x:c7):Prop:=(∀ c∈x.cps.toList,c<128)/\x.length<=50
def mJ.big(h:mJ x):∀ c∈x.cps.toList,c<16^8:=λc a=>AD (h.1 c a) (by decide)
def uG.asc(h:uG x):mJ x:=⟨λc a=>by have:=h.2.2 c a; lia,by have:=h.2.1; lia⟩
def uI(i:Int):Prop:=i.natAbs.log2<200
def tE{p:Int×Int}(h1:uI p.1)(h2:uI p.2):okS (ptD p)/\oo 4 (ptD p)/\shB (ptD p)<=2000:=by
 unfold uI at h1 h2;refine⟨?_,yy (by show 2<=900; decide) (dt2 (by show _<1920; lia) (by show _<1920; lia)),?_⟩
 ·unfold ptD;rw[okS,qb,qb,qb,okS,okS];rwa[by lia,by lia,trivial]
 ·unfold ptD;rw[shB,ic,ic,ic,shB,shB];lia
def iA:Deed->Prop
 | .mark n x y=>mJ n/\uI x/\uI y
 | .move n x y=>mJ n/\uI x/\uI y
 | .unmark n=>mJ n
 | .bank n e=>mJ n/\e.length<=12/\∀ c∈e,c.1.natAbs.log2<20/\c.2.natAbs.log2<20
 | .level n=>mJ n
 | .sail x y=>uI x/\uI y
 | .right k x y=>uI k/\uI x/\uI y
 | .bearing m n a b c d=>uI m/\mJ n/\uI a/\uI b/\uI c/\uI d
 | .range m l r=>uI m/\mJ l/\mJ r
 | .strike k=>uI k
def nF{m:Int}{a b c d:Int}(h:iA (.bearing m n a b c d)):okS (Deed.bearing m n a b c d).dt/\oo 4 (Deed.bearing m n a b c d).dt/\shB (Deed.bearing m n a b c d).dt<=2000:=by
 obtain⟨h1,h2,h3,h4,h5,h6⟩:=h;obtain⟨i,l,_⟩:=tE (p:=(a,b)) h3 h4;obtain⟨g,j,_⟩:=tE (p:=(c,d)) h5 h6;unfold uI at h1 h3 h4 h5 h6;have o:(d4 "bearing").length=7:=rfl;erw[?_,?_,?_]
 ·unfold Deed.dt;rw[okS,qb,qb,qb,qb,qb,qb,okS,okS,okS];rwa[by decide,by lia,h2.big,i,g,trivial]
 ·unfold Deed.dt;erw[yy (c8 rfl) λe f=>?_];rcases f9.mp f with rfl | f
  ·rwa[dj (by decide)]
  ·have p3:∀{p:Int×Int},p.1.natAbs.log2<200->p.2.natAbs.log2<200->oo 3 (ptD p):=λ{p} h1 h2=>yy (n:=2) (by show 2<=900; decide) (dt2 (by show _<1920; lia) (by show _<1920; lia));exact dt4 (P:=oo 3) (by show _<1920; lia) (by show _<=1921; have:=h2.2; lia) (p3 h3 h4) (p3 h5 h6) e f
 ·unfold Deed.dt ptD;simp only[shB,ic];have:=h2.2;lia
def lD{a:List (Int×Int)}(p:a.length<=12)(h:∀ c∈a,c.1.natAbs.log2<20/\c.2.natAbs.log2<20):okS (.tup (a.map ptD))/\oo 4 (.tup (a.map ptD))/\shB (.tup (a.map ptD))<=2000:=by
 have e:∀ l:List (Int×Int),(∀ c∈l,c.1.natAbs.log2<20/\c.2.natAbs.log2<20)->qb (l.map ptD)/\ic (l.map ptD)<=l.length*60:=by
  intro l
  induction l with
  | nil=>intro _; rw[DD,qb,ic]; rwa[trivial,j8 _]
  | cons c l f =>
   intro h;obtain⟨g,o⟩:=f λc b=>h c (.tail _ b);obtain⟨m,c2⟩:=h c (.head _);have j:okS (ptD c):=by
    unfold ptD;rw[okS,qb,qb,qb,okS,okS];rwa[by lia,by lia,trivial]
   have r:shB (ptD c)<=58:=by
    unfold ptD;simp only[shB,ic];lia
   rw[i7,qb,ic,i6];rwa[⟨j,g⟩,by lia]
 obtain⟨i,q⟩:=e a h;erw[by rw[okS]; exact i,yy (by rw[c5]; lia) λd hd=>?_,by rw[shB]; lia];obtain⟨c,b,rfl⟩:=j9.mp hd;obtain⟨m,c2⟩:=h c b;exact yy (n:=2) (by show 2<=900; decide) (dt2 (by show _<1920; lia) (by show _<1920; lia))
structure pb(S:BS):Prop where
 mk ::
 good:ZA S
 names:∀ e∈S.marks,uG e.1
def pb.nil:pb BS.nil:=⟨cj,λe a=>(nomatch a)⟩
def pb.mark(h:pb S)(k:(zS S n).isSome=G3):uG n:=by
 obtain⟨p,e⟩:=g8.mp k;rwa[h.names _ (pF e)]
def pb.aft(h:pb S)(ok:okD S D):pb (aft S D):=by
 exists cY h.good ok
 match D,ok with
 | .mark n x y,ok =>
  intro e f;rcases w6.mp f with z | z
  ·rwa[h.names e z]
  ·rw[f7.mp z]; rwa[ok.1]
 | .move n x y,ok =>
  intro e f;obtain⟨g,h1,rfl⟩:=j9.mp f;have:=h.names g h1;split <;> rwa[this]
 | .unmark n,ok=>rwa[λe f=>h.names e (Bu.mp f).1]
 | .bank n i,ok=>rwa[h.names]
 | .level n,ok=>rwa[h.names]
 | .sail x y,ok=>rwa[h.names]
 | .right j x y,ok=>rwa[h.names]
 | .bearing m n a b c d,ok=>rwa[h.names]
 | .range m l r,ok=>rwa[h.names]
 | .strike j,ok=>rwa[h.names]
def uq(g:Cl->b6)(e:Deed->Prop):Sp:=λf H Q E=>E4 λ(d:b6) (v:V) (S:BS) (D:Deed)=>A8 (f=[.ref d,v]) (e D) (jy H d S) (Rep H D.dt v) (iA D) (pb S) (zT S D=G2->∀(b:b6)(a:Hp),Sam H a->H b=G2->jy a b (aft S D)->Q (.ref b) a) (∀ c,zT S D=G0 c->∀ a,Sam H a->E (.ref (g c)) G2 a)
section
variable{H:Hp}{S:BS}{kvs:List (Key×V)}
def fZ(h:wG H kvs (mkE S.marks)):vB kvs (.inr n)=G2↔zS S n=none:=by
 have e:=h.isSome (k:=.inr n);rw[uk,A9] at e;cases h1:vB kvs (.inr n) <;> cases h2:zS S n <;> simp[h1,h2] at e ⊢
def pY(h:wG H kvs (bkE S.banks)):vB kvs (.inr n)=G2↔n ∉ S.banks.map (·.1):=by
 by_cases z:n∈S.banks.map (·.1)
 ·obtain⟨b,lk⟩:=Xd (l:=S.banks) z;obtain⟨v,a,_⟩:=h.get lk;simp[a,z]
 ·simp[h.none (vp (jr z)),z]
def fV{k:Int}(h:wG H kvs (ntE S.notes)):vB kvs (.inl k)=G2↔k ∉ S.notes.map (·.1):=by
 by_cases z:k∈S.notes.map (·.1)
 ·obtain⟨d,lk⟩:=cO (l:=S.notes) z;obtain⟨v,c,_⟩:=h.get lk;simp[c,z]
 ·erw[λ_=>z,λ_=>h.none (vp λe a y=>z ?_)];unfold ntE at a;obtain⟨q,b,rfl⟩:=j9.mp a;have y:(Bf q.1:Key)=Bf k:=y;injection y with y
  rwa[j9.mpr ⟨q,b,y⟩]
def fU{k:Int}(h:wG H kvs (rnE S.runs)):vB kvs (.inl k)=G2↔¬ (0<=k/\k<S.runs.length):=by
 by_cases z:0<=k/\k<S.runs.length
 ·obtain⟨i,rfl⟩:=Dv z.1;have hi:i<S.runs.length:=by lia
  have lk:=pT (k:=0) (e7 hi);rw[DI] at lk;obtain⟨v,d,_⟩:=h.get lk;exact⟨(λy=>by rw[d] at y; cases y),λy=>y8 z y⟩
 ·erw[λ_=>z,λ_=>h.none (vp λe a y=>z ?_)];unfold rnE at a;obtain⟨⟨f,b⟩,c,rfl⟩:=j9.mp a;have y:(Bf (b:Int):Key)=Bf k:=y;injection y with y
  have:=C4 c;simp at this;lia
end
structure um(H:Hp)(ts:List b6)(ws:List (c7×Bool)):Prop where
 mk ::
 len:ts.length=ws.length
 at_:∀(j:Nat)(t:b6)(w:c7×Bool),ts[j]?=G0 t->ws[j]?=G0 w->H t=G0 (.tup [.str w.1,.bl w.2])
def um.nil{H:Hp} : um H [] []:=⟨rfl,λj t w h=>by simp at h⟩
def um.to{H e:Hp}(h:um H d c)(s:Same H e):um e d c:=⟨h.len,λj t w a b=>s _ _ (h.at_ j t w a b)⟩
def yE{D C:b6}(h:InB B λK=>Za K a=G3)(b:D∈a)(c:C∈a):InB B λK=>Ar K (.ref D) (.ref C)=G0 (D == C)/\ye K D:=by
 obtain⟨K,d,h⟩:=h;rwa[K,d,ci h b c,jR h b]
def hX{D:b6}(h:InB B λK=>Za K b=G3)(a:D∈b):InB B λK=>Ar K (.ref D) (.type "ValueError")=G0 G3/\ye K D:=by
 obtain⟨K,c,h⟩:=h;rwa[K,c,cu h a,jR h a]
def nameC:Cl->c7
 | .badName => "BadName"
 | .taken => "Taken"
 | .badPlace => "BadPlace"
 | .full => "Full"
 | .noMark => "NoMark"
 | .same => "Same"
 | .needed => "Needed"
 | .badBank => "BadBank"
 | .noBank => "NoBank"
 | .badRun => "BadRun"
 | .noRun => "NoRun"
 | .noMoment => "NoMoment"
 | .badWay => "BadWay"
 | .badTurn => "BadTurn"
 | .noNote => "NoNote"
def XU(S:BS)(D:Deed):V:=if S.coming=(aft S D).coming then .non else .int S.coming
end Sea

namespace Sea
structure Neat(S:BS):Prop where
 mk ::
 well:pb S
 nm:(S.marks.map (·.1)).Nodup
 nb:(S.banks.map (·.1)).Nodup
 bk:∀ e∈S.banks,uG e.1/\e.2.length<=8/\∀ c∈e.2,rT c
end Sea

namespace Sea
def mkOf(e:c7×Int×Int):Deed:=.mark e.1 e.2.1 e.2.2
def bkOf(e:c7×List (Int×Int)):Deed:=.bank e.1 e.2
def slOf(e:Int×Int):Deed:=.sail e.1 e.2
def noteF(ns:List c7)(D:Deed):Prop:=(∃(m:Int)(i:Nat)(l r:c7),D=.range m l r/\0<=m/\m<=12/\i<18/\ns[i]?=G0 l/\ns[i+1]?=G0 r)\/∃(m k:Int)(i:Nat)(n:c7),D=.bearing m n 100 k (-k) 100/\0<=m/\m<=12/\0<=k/\k<24/\i<19/\ns[i]?=G0 n
structure FillD(ns:List c7)(Ds:List Deed)(l1:List (c7×Int×Int))(l2:List (c7×List (Int×Int)))(l3:List (Int×Int))(l4:List Deed)(c:Nat):Prop where
 mk ::
 eq:Ds=l1.map mkOf++l2.map bkOf++l3.map slOf++l4
 n1:l1.map (·.1)=ns.take 20
 p1:∀(j:Nat)(e:c7×Int×Int),l1[j]?=G0 e->rT e.2/\e.2.2=j
 c2:c<=2
 n2:l2.map (·.1)=(ns.drop c).take 8
 p2:∀(j:Nat)(e:c7×List (Int×Int)),l2[j]?=G0 e->j<8/\e.2=[((j:Int),0),((j:Int)+3,0),((j:Int),2)]
 n3:l3.length=12
 p3:∀ e∈l3,rT e
 n4:l4.length=24
 p4:∀ D∈l4,noteF ns D
noncomputable def stepD(S:BS)(D:Deed):BS:=match zT S D with
 | none=>aft S D
 | some _=>S
noncomputable def stepAll(S:BS)(l:List Deed):BS:=l.foldl stepD S
section
variable{S:BS}{D:Deed}
structure NotesF(S S':BS)(l:List Deed):Prop where
 mk ::
 m:S'.marks=S.marks
 b:S'.banks=S.banks
 r:S'.runs=S.runs
 c:S'.coming=S.coming+l.length
 n:S'.notes.map (·.2)=S.notes.map (·.2)++l
 k:∀ k:Int,(k∈S.notes.map (·.1)\/(S.coming<=k/\k<S'.coming))->k∈S'.notes.map (·.1)
structure Brim(ns:List c7)(n19:c7)(c:Nat)(S:BS):Prop where
 mk ::
 neat:Neat S
 m:S.marks.map (·.1)=ns.take 20
 c2:c<=2
 b:S.banks.map (·.1)=(ns.drop c).take 8
 r:S.runs.length=12
 n:S.notes.length=24
 all:∀ k:Int,1<=k->k<25->k∈S.notes.map (·.1)
 co:S.coming=25
 un:∀ e∈S.notes,qT n19 e.2
end
end Sea

namespace L2
section
variable{X:Cx}
def ju(c:Array Nat):∀(k:Nat)(a:Array Nat),((i9 k c).foldl (· ++ ·) a).toList=a.toList++(i9 k c.toList).flatten
 | 0,a=>by simp
 | k+1,a=>by
  rw[CD,List.foldl_cons,ju c k,CD,ET,Array.toList_append,List.append_assoc]
def XQ(i:c7)(n:Int):c7:=if (n == 1||i.length == 0)=G3 then i else⟨(i9 n.toNat i.cps).foldl (· ++ ·) #[]⟩
def dP(c:Array Nat)(k:Nat):((i9 k c).foldl (· ++ ·) #[]).size=k*c.size:=by
 rw[<- Ag,ju,d5,aB,Ag];simp
def nO:OpR X (binaryOp .Mult) (λx y H Q=>E2 λ(i:c7) (n:Int)=>A6 (x=.str i) (y=.int n) (1<=n) (n<=1000) (i.length<=1000) (Q (.str (XQ i n)) H)):=by
 intro l s g H x y v u Q I c b h;obtain⟨i,n,rfl,rfl,h1,h2,h3,q⟩:=h;obtain⟨t,rfl⟩:=c;obtain⟨j,rfl⟩:=b;have n1:¬ n<1:=by lia
 have f:i.length*n.toNat<=1000*1000:=Nat.mul_le_mul h3 (by lia);have d:i.length*n.toNat<=sizeLine:=g9 f (by decide);erw[PySem.P.mul_str ?_ ?_ ?_ ?_]
 ·rw[y7 (by lia),y7 (by lia)]; rfl
 ·intro _ _ z;have:(1000:Int)<=(2^63-1)/n:=by
   rw[Int.le_ediv_iff_mul_le (by lia)];lia
  lia
 ·intro _ _;rwa[y7 (by lia)]
 ·rw[y3 n1];have a:=q;unfold XQ at a;split
  ·rename_i e
   rw[y4 e] at a;rwa[.str i,H,I,⟨_,U⟩,a]
  ·rename_i e
   rw[y3 e] at a;erw[?_,.str _,H,I.tok _,⟨_,U⟩,a];show((i9 n.toNat i.cps).foldl (· ++ ·) #[]).size<=sizeLine;rw[dP,GG];rwa[d]
end
end L2

namespace Sea
def MkR(a:St)(H:Hp)(c:TE)(x:c7)(b:Bool):Prop:=∀ G K,Same H G->(∀ t,G t=G2->K (.ref t) (upd G t (.tup [.str x,.bl b])))->c a G K
def MkA(c:St)(H:Hp)(e:TA)(d:List (c7×Bool)):Prop:=∀ G K,Same H G->(∀ b a,Same G a->um a b d->K (b.map V.ref) a)->e c G K
section
variable{σ:St}{H G:Hp}{te:TE}{ta:TA}{x:c7}{b:Bool}{ws vs:List (c7×Bool)}{K:VK}
def MkR.of{r:List V->Hp->VK->Prop}{v:V}(a:σ[0]?=G0 (G0 (.ref y)))(h:∀ G Q,Same H G->Q (.bl b) G->r [.ref y,v] G Q):MkR σ H (tTup (lG (tC (.str n)) (lG (tCB r (lG (eV 0) (lG (tC v) dM))) dM))) n b :=
 λG _ s k=>⟨_,a,h G _ s ⟨(by show 2<=sizeLine; decide),k⟩⟩
def um.cons{a:List b6}{t:b6}(e:G t=G0 (.tup [.str x,.bl b]))(h:um G a ws):um G (t::a) ((x,b)::ws):=by
 erw[by rw[i6,i6,h.len],λj u w d c=>?_];cases j with
 | zero=>cases d; cases c; rwa[e]
 | succ j=>rwa[h.at_ j u w d c]
def um.app(h:um G d ws)(k:um G e vs):um G (d++e) (ws++vs):=by
 erw[by rw[d5,d5,h.len,k.len],λj u w c a=>?_];by_cases z:j<d.length
 ·rw[x0 z] at c;rw[x0 (by rw[<- h.len]; rwa[z])] at a;rwa[h.at_ j u w c a]
 ·rw[v6 (by lia)] at c;rw[v6 (by rw[<- h.len]; lia),<- h.len] at a;rwa[k.at_ _ u w c a]
def MkA.nil:MkA σ H dM []:=λG _ _ k=>k [] G (Same.refl G) um.nil
def MkA.cons(m:MkR σ H te x b)(h:MkA σ H ta ws):MkA σ H (lG te ta) ((x,b)::ws):=λG _ s k =>
 m G _ s λt d =>
  have st:=zF d (.tup [.str x,.bl b])
  h _ _ (s.trans st) λc e a R=>k (t::c) e (st.trans a) (um.cons (a _ _ zB) R)
def MkA.lst(h:MkA σ H ta ws)(g:ws.length<=1000)(s:Same H G)(k:∀ l a c,Same G c->c l=G0 (.lst (a.map V.ref))->um c a ws->K (.ref l) c):ZM ta σ G K :=
 h _ _ s λa c e R=>⟨Xc (by rw[c5,R.len]; exact g),λp f =>
  have d:=zF f (.lst (a.map V.ref))
  k p a _ (e.trans d) zB (R.to d)⟩
def MkA.cat{d:List b6}(h:MkA σ H ta vs)(r:vs.length<=100)(s:Same H G)(m:σ[1]?=G0 (G0 (.ref f)))(e:G f=G0 (.lst (d.map V.ref)))(R:um G d ws)(p:ws.length<=100)(k:∀ q a c,Same H c->c q=G0 (.lst (a.map V.ref))->um c a (ws++vs)->K (.ref q) c):tOp XR (eV 1) (ZM ta) σ G K :=
 ⟨_,m,h.lst (by lia) s λl i c g o j=>⟨f,l,_,_,rfl,rfl,g _ _ e,o,Xc (by rw[c5,c5,R.len,j.len]; lia),λq n =>
  have sq:=zF n (.lst (d.map V.ref++i.map V.ref))
  k q (d++i) _ ((s.trans g).trans sq) (by rw[zB,j6]) (((R.to g).app j).to sq)⟩⟩
def MkA.seqL{u:TS}(h:MkA σ H ta ws)(d:ws.length<=1000)(s:Same H G)(k:∀ l c a,Same G a->a l=G0 (.lst (c.map V.ref))->um a c ws->u D (σ.set 1 (G0 (.ref l))) a):XO (XJ (ZM ta) (nR 1)) u D σ G:=h.lst (K:=λx e=>nR 1 x σ e (u D)) d s k
def MkA.seqC{u:TS}{d:List b6}(h:MkA σ H ta vs)(j:vs.length<=100)(s:Same H G)(i:σ[1]?=G0 (G0 (.ref f)))(e:G f=G0 (.lst (d.map V.ref)))(R:um G d ws)(g:ws.length<=100)(k:∀ q a c,Same H c->c q=G0 (.lst (a.map V.ref))->um c a (ws++vs)->u D (σ.set 1 (G0 (.ref q))) c):XO (XJ (tOp XR (eV 1) (ZM ta)) (nR 1)) u D σ G:=h.cat (K:=λx l=>nR 1 x σ l (u D)) j s i e R g k
end
end Sea

namespace L2
section
variable{X:Cx}{o:o6}{m:c7}{apos pos:BM}{C g:b6}{n:Nat}{ps:List c7}{sp:Sp}{ta:TE}
def gq(r:St->XK)(E:InB X.base λK=>Cls K C/\pe K C m g)(h:vE X.prog X.w X.K X.mg X.base g n ps sp)(y:lg X r)(B:tS n X.A)(D:PE X o ta)
  (z:eval (.Call (.Attribute o m apos) [] [] pos) X.env=(do
   let i <- eval o X.env
   standAt apos.atName
   let (f,first) <- holding [i] (getMethod i m d)
   callWith pos f first (backTo pos (starEach [] X.env)) (backToKw pos (keywordEach [] X.env))):=by rfl) :
  PE X (.Call (.Attribute o m apos) [] [] pos) (bY C m sp r ta dM):=by
 obtain⟨K,p,c,j⟩:=E;obtain⟨fd,F,b⟩:=h;intro J s t H Q I h;erw[AY (pl:=d) (thn (D J s t H _ I h) λu L ⟨x,N,e,v,a,M,fs,ex,G,l,q⟩=>?_) z];subst ex;obtain rfl:u=e8 a:=v;erw[qM (X:=X.withK K) (e.withK p) G c j l ?_];rwa[BU (first:=[.ref a]) (e.withK p).kIn j.kp (oH (us:=[.ref a]) (vs:=[.ref a]) F B (.all b) y e (.cons rfl .nil) q)]
end
end L2

namespace Sea
def LwO(H:Hp)(X:b6->Prop)(d:b6)(S:BS):Prop:=∃ m b r n,¬ X r/\LwA H d m b r n S
structure HL(H:Hp)(X:b6->Prop)(sl rl:b6)(Ss:List BS)(Ds:List Deed):Prop where
 mk ::
 n1:¬ X sl
 n2:¬ X rl
 s:∃ ss:List b6,H sl=G0 (.lst (ss.map V.ref))/\ss.length=Ss.length/\∀(i:Nat)(d:b6)(S:BS),ss[i]?=G0 d->Ss[i]?=G0 S->LwO H X d S
 r:∃ xs,H rl=G0 (.lst xs)/\tO H (Ds.map Deed.dt) xs
section
variable{φ X X':b6->Prop}{H H1:Hp}{C b p l l' sl rl tp:b6}{Ss:List BS}{Ds:List Deed}{j k:Nat}{S S':BS}{D:Deed}
def HL.sam(h:HL H X sl rl Ss Ds)(s:xF φ H H1)(nd:∀ a g,Rd H a (.dK g)->¬ φ a)(q:∀ a c,H a=G0 (.tup c)->¬ φ a)(f:∀ x c,H x=G0 (.lst c)->¬ X x->¬ φ x):HL H1 X sl rl Ss Ds:=by
 obtain⟨v,u,B,A⟩:=h.s;obtain⟨c,t,z⟩:=h.r;erw[h.n1,h.n2,⟨v,s.lst (f _ _ u h.n1) u,B,λi d S y w=>?_⟩,c,s.lst (f _ _ t h.n2) t,z.sam s q];obtain⟨m,b,r,n,o,k⟩:=A i d S y w;rwa[m,b,r,n,o,k.samE s nd q λc e=>f r c e o]
structure HB(C:b6)(H:Hp)(b p l:b6)(X:b6->Prop)(tp:b6)(Ss:List BS)(Ds:List Deed)(j k:Nat):Prop where
 mk ::
 bk:∃ S,Ss[j]?=G0 S/\BkL C H b p l S ((Ds.zip Ss).take j) ((Ds.zip Ss.tail).drop j).reverse
 lp:∃ sl rl,H tp=G0 (.tup [.ref sl,.ref rl,.int j])/\HL H X sl rl Ss Ds
 xp:X p
 xl:X l
 len:Ss.length=Ds.length+1
 le:j<=Ds.length
 lk:Ds.length<=k
 st:∀ S∈Ss,Neat S/\1<=S.coming/\S.coming<=1+k
 tm:∀ D∈Ds,iA D
end
end Sea

namespace Sea
def flatJ(S:BS)(j:Nat):List (List Int):=(S.notes.map λe=>ZI S j e.2).flatten
structure SidesJ(H:Hp)(l:b6)(ss:List Sd)(S:BS)(j:Nat):Prop where
 mk ::
 at_:H l=G0 (.lst (bX ss))
 ok:SdOk H ss
 rows:ss.map (·.2)=(flatJ S j).map p3
 few:ss.length<=2*S.notes.length
end Sea

namespace PySem.W
open PySem PySem.Calls PyProof.Rows Builtin Builtin.ObjectAttr
section
variable{prog:e9}{w:i5}{A:u8}{E:b7->b9->Prop}{s:b9}{K:ac}{x C:b6}{ox:Ad}{od:Option Ad}{name:c7}{v:b7}
def gH:(Ap "BaseException.__getattribute__" == Ap "object.__getattribute__")=false:=by ac_nf
def exc_load{Q:b7->b9->Prop}(X:K.In s.heap)(I:InstAt s.heap x ox C od)
  (m:findIn K (.ref C) "__getattribute__" = G0 (G0 (.builtin "BaseException.__getattribute__"))) (hk:findIn K (.ref C) "__getattr__" = G0 G2)
  (o:clsIn K C=G0 a) (b:a.mro.contains (.type "BaseException")=G3) (n:findObj K C od name=G0 (.value v)) (l:handedIn v=G3) (h:Q v { s with toks:=s.toks+1 }) :
  wpAny (model prog w) A (getAttr (.ref x) name expr) Q E s:=by
 obtain⟨i,g,d,t,os⟩:=s;have j:=EW;have f:=I.type (M:=model prog w);have L2:=looks_find (M:=model prog w) X I n;have ne:a.mro.isEmpty=false:=by cases q:a.mro with | nil=>rw[q] at b; cases b | cons _ _=>rfl
 have sub:Looks (model prog w) i (isInstance (.ref x) (.type "BaseException")) true:=f.andThen (looks_mroIn X (by unfold mroIn; rw[o,Bo,y3 (by rw[ne]; decide),b]));unfold getAttr getAttrBy;erw[b0 (wpAny_mkText (Aj (b0 (f _ _ _ _ (λ_ _ e=>e) (b0 (looks_findIn X m _ _ _ _ (λ_ _ e=>e) ?_))))))];dsimp only;rw[show(onTheHeap (.ref C)&&Ap "BaseException.__getattribute__" == Ap "object.__getattribute__")=G4 from by rw[gH,CU],y3 (by decide)];erw[b0 (looks_hook (mc:=.ref C) (r:=G2) X ((y4 (c:=onTheHeap (.ref C)=G3) rfl).trans hk) _ _ _ _ (λ_ _ e=>e) (b0 (Bx (Aj ?_))))];unfold callGetattribute;rw[show(expr&&onTheHeap (Ap "BaseException.__getattribute__"))=G4 from CU _,y3 (by decide)];unfold boundAndCalled;rw[j.ga.bind];erw[b0 (c9 ?_)];show wpAny _ _ (call (.builtin "BaseException.__getattribute__") [.ref x,.str name t]) _ _ _;erw[Br (codeAny_call_builtin j.ga.plain PySem.F.entry_bexc_ga (@check_slot (model prog w) _ _ { heap:=i,gens:=g,drawn:=d,toks:=t+1,os:=os } "BaseException.__getattribute__" "BaseException" "__getattribute__" (.ref x) [.str name t] [] _ (by ac_nf) (by ac_nf) sub (PySem.F.args_bexc_ga (.ref x) (.str name t)) ?_))];unfold Cn.«object.__getattribute__»;erw[b0 (c9 (b0 (c9 (b0 (f.at (b0 (L2.at ?_)))))))];erw[c9 ?_];show wpAny _ _ (handedOut v) _ _ _;rw[handedOut_of l];rwa[c9 h]
def rm(self:b7)(h:refuseLoop self "__setattr__" l=pure ()):∀ a:List b6,refuseLoop self "__setattr__" (a.map e8++l)=pure ()
 | []=>h
 | c::a=>by rw[i7,Dp,refuseLoop_ref]; rwa[rm self h a]
def exc_store{rs:List b6}{Q:Unit->b9->Prop}(X:K.In s.heap)(l:s.heap.get? x=G0 ox)(d:ox.cls=.ref C)(c:ox.data=.fields L)(hd:ox.dict=G2)
  (m:findIn K (.ref C) "__setattr__" = G0 (G0 (.builtin "object.__setattr__"))) (r:findIn K (.ref C) name=G0 G2)
  (G:clsIn K C=G0 cd) (u:cd.mro=rs.map e8++[.type "ValueError",.type "Exception",.type "BaseException",.type "object"]) (R:cd.hasDict=G3)
  (h:∀ f J,s.heap.get? J=G2->(∀ b o,b≠x->s.heap.get? b=G0 o->f.get? b=G0 o)->f.get? x=G0 { ox with dict:=G0 J }->f.Ns1 J (λy=>if y=name then G0 v else G2)->Q () { s with heap:=f,toks:=s.toks+2 }) :
  wpAny (model prog w) A (setAttr (.ref x) name v) Q E s:=by
 have I:InstAt s.heap x ox C none:=⟨l,d,by unfold notCls; rw[c],by rw[hd]; trivial⟩;have j:=PySem.F.store_object;have ne:cd.mro.isEmpty=false:=by rw[u]; cases rs <;> rfl
 have sub:Looks (model prog w) s.heap (isInstance (.ref x) (.type "object")) true:=I.type.andThen (looks_mroIn X (by unfold mroIn; rw[G,Bo,y3 (by rw[ne]; decide),u]; simp));have t:Looks (model prog w) s.heap (mroOf (.ref C)) cd.mro:=(looks_clsIn X G).andThen .now;refine set_plain X I m (codeAny_call_builtin j.slot.plain j.entry (@check_slot (model prog w) _ _ { s with toks:=s.toks+1 } "object.__setattr__" "object" "__setattr__" (.ref x) [.str name s.toks,v] [] _ j.kind j.split sub (j.args (.ref x) (.str name s.toks) v) ?_));rw[osa_eq,refuse_eq];refine b0 (b0 (I.type.here (s:={ s with toks:=s.toks+1 }) (b0 (t.here (s:={ s with toks:=s.toks+1 }) ?_))));rw[u,rm _ (PySem.F.store_ValueError.passes _)];refine c9 (b0 (I.type.here (s:={ s with toks:=s.toks+1 }) (b0 ((looks_findIn X r).here (s:={ s with toks:=s.toks+1 }) (b0 (c9 ?_))))));obtain⟨Z,N,P,n⟩:=ox;dsimp only at d hd c;subst d hd c;refine b0 (c9 (b0 (b0 (D8 l (b0 (GR (s:={ s with toks:=s.toks+1 }) (looks_clsIn X G) ?_))))));rw[R];generalize hO:({ cls:=.ref C,dict:=G0 s.heap.objs.size,data:=.fields L,slots:=n } : Ad)=O;have a:=b8 (h:=s.heap) { cls:=.type "dict",data:=.dict #[] } l;have g:x≠s.heap.objs.size:=j4 (d7 l);have z:((s.heap.push { cls:=.type "dict",data:=.dict #[] }).update x λo=>{ cls:=o.cls,dict:=G0 s.heap.objs.size,data:=o.data,slots:=o.slots }).get? s.heap.objs.size=G0 { cls:=.type "dict",data:=.dict #[] } :=
  (CF _ _ _ _ g.symm).trans (E1 rfl rfl)
 have q:((s.heap.push { cls:=.type "dict",data:=.dict #[] }).update x λo=>{ cls:=o.cls,dict:=G0 s.heap.objs.size,data:=o.data,slots:=o.slots }).Ns s.heap.objs.size (λ_=>G2) :=
  ⟨_,#[],_,z,rfl,λe S=>y8 S (by simp),λ_=>rfl⟩
 refine b0 (s:={ s with toks:=s.toks+1 }) (wpAny_alloc' (b0 (wpAny_update' a (c9 ?_))));show wpAny _ _ (storeInDict s.heap.objs.size (.str name s.toks) name v) _ _ _;unfold storeInDict newKeyGuard;erw[b0 (c9 (b0 (wpAny_nsSet1 (EO q) λf i m=>?_)))];obtain⟨oD,T,Y,p,B,D⟩:=i.count (GV name v Within.nil);erw[b0 (Fg p (by rw[B]; rwa[pastItsLine_dict (g9 D (by rw[i6,Au,sizeLine_eq]; lia))]) ?_)];erw[c9 (h f s.heap.objs.size (AF (d8 _)) (λb o H M=>?_) ?_ i)]
 ·exact(m.2 b (j4 (d7 M))).trans ((CF _ _ _ _ H).trans (b8 _ M))
 ·exact(m.2 x g).trans (Ai _ a rfl)
end
end PySem.W
namespace PySem
section
variable{prog:e9}{w:i5}{A:u8}{E:b7->b9->Prop}{env:Cj}
variable{nm q:c7}{C N:b6}{bs bm:List b7}{hdct:Bool}{sn:List c7}{sub:List b7}{ab:Bool}{col:Option Bool}{dd:Option b6}{k0 k1 k2 k3 k5:Option b7}{newId:String}
def jZ{Q:Flow->b9->Prop}(c:bm.contains (.type "BaseException")=G3)(m:A.handled=G2)
  (h:wpAny (model prog w) A (eval x env) (λv a=>∃ e t f,v=.ref e/\a.heap.get? C=G0 (excClassObj nm q C N bs bm hdct sn sub ab col dd k0 k1 k2 k3 k5 newId) /\
   a.heap.get? e=G0 { cls:=.ref C,dict:=f,data:=.fields #[.ref t,.none,.none,.none,.bool G4,.none] }/\E (.ref e) a) E s) :
  wpAny (model prog w) A (exec (.Raise (G0 x) G2 pos) env) Q E s:=by
 have j:(e8 C::bm).contains (.type "BaseException")=true:=by rw[List.contains_cons,c,Bool.or_true]
 have i:∀{y:FG b7}{s:b9},wpAny (model prog w) A y (λv a=>∃ e t f,v=.ref e/\a.heap.get? C=G0 (excClassObj nm q C N bs bm hdct sn sub ab col dd k0 k1 k2 k3 k5 newId) /\
   a.heap.get? e=G0 { cls:=.ref C,dict:=f,data:=.fields #[.ref t,.none,.none,.none,.bool G4,.none] }/\E (.ref e) a) E s->wpAny (model prog w) A (raiseStmt env (G0 y) G2) Q E s:=λ{y s} h=>by
  unfold raiseStmt;erw[b0 (An h (λv a b=>?_) λ_ _ x=>x)];obtain⟨e,t,f,rfl,l,n,o⟩:=b;obtain⟨r,g,d,p,os⟩:=a
  repeat (first | with_reducible refine BE n ?_ | with_reducible refine BE l ?_ | (with_reducible refine Er l ?_; rw[j]) | wp_step)
  rwa[wpAny_raiseNew_none m o]
 rw[arm_exec_Raise];have z:=i (y:=do let v <- eval x env; standAt pos; pure v) (s:=s) (b0 (An h (λv a b=>b0 (Co (c9 b))) λ_ _ x=>x));rwa[b0 (Co z)]
end
end PySem

namespace L2
def ZB(a:b6)(k:EK)(h:j3):Prop:=∃ t,h.get? a=G0 { cls:=k.1,dict:=k.2,data:=.fields #[.ref t,.none,.none,.none,.bool G4,.none] }
def yK(a:b6)(k:EK):HO:=.ext (ZB a k)
def pV{H:Hp}{k:EK}(e:ZB a k h):yU P w H h a (yK a k) :=
 ⟨e,let ⟨_,h1⟩:=e;⟨_,h1⟩,λ_ _ ⟨t,q⟩ k=>⟨t,k _ q⟩⟩
def ZB.at_{k:EK}(e:ZB a k h):lj a k h:=let ⟨_,q⟩:=e;⟨_,_,q,rfl,rfl,rfl,rfl⟩
def af:List b7->Bool
 | .ref _::r=>af r
 | l=>l == bmV
def jb:∀{l:List b7},af l=G3->∃ a:List b6,l=a.map e8++bmV
 | .ref c::r,h=>by
  obtain⟨a,e⟩:=jb (l:=r) h;rwa[c::a,by rw[e]; rfl]
 | [],h=>⟨[],beq_iff_eq.mp h⟩
 | .type T::tl,h=>⟨[],beq_iff_eq.mp h⟩
 | .none::tl,h=>⟨[],beq_iff_eq.mp h⟩
 | .bool b::tl,h=>⟨[],beq_iff_eq.mp h⟩
 | .int i t::tl,h=>⟨[],beq_iff_eq.mp h⟩
 | .float i t::tl,h=>⟨[],beq_iff_eq.mp h⟩
 | .str i t::tl,h=>⟨[],beq_iff_eq.mp h⟩
 | .bytes i t::tl,h=>⟨[],beq_iff_eq.mp h⟩
 | .builtin i::tl,h=>⟨[],beq_iff_eq.mp h⟩
def exI(K:ac)(C:b6)(f:c7):Bool :=
 o7 K (.ref C) "__getattribute__" == G0 (G0 (.builtin "BaseException.__getattribute__"))&&(o7 K (.ref C) "__getattr__" == G0 G2 &&
  (o7 K (.ref C) "__setattr__" == G0 (G0 (.builtin "object.__setattr__"))&&(o7 K (.ref C) f == G0 G2&&(Gs K C).any λa=>a.hasDict&&af a.mro)))
structure ExI(K:ac)(C:b6)(f:c7)(cd:GA)(rs:List b6):Prop where
 ga:o7 K (.ref C) "__getattribute__" = G0 (G0 (.builtin "BaseException.__getattribute__"))
 hk:o7 K (.ref C) "__getattr__" = G0 G2
 sa:o7 K (.ref C) "__setattr__" = G0 (G0 (.builtin "object.__setattr__"))
 na:o7 K (.ref C) f=G0 G2
 ck:Gs K C=G0 cd
 hd:cd.hasDict=G3
 mro:cd.mro=rs.map e8++bmV
def bw{K:ac}(h:exI K C f=G3):∃ i g,ExI K C f i g:=by
 simp only[exI,i8,beq_iff_eq] at h;obtain⟨a,b,c,d,e⟩:=h;obtain⟨i,j,e⟩:=Ff e;rw[i8] at e;obtain⟨g,q⟩:=jb e.2;rwa[i,g,a,b,c,d,j,e.1,q]
section
variable{X:Cx}{G5:List (b6×Ad)}{σ:St}{H:Hp}{s:b9}
def Inv.newAt(I:Inv X G5 σ H s)(g:X.ex=[])(j:s.heap.get? a=G2) :
  H a=G2/\a≠X.env.locals/\X.s₀.heap.get? a=G2/\(∀ x c,X.env.cells.lookup x=G0 c->c≠a)/\∀ p∈X.pn++G5,p.1≠a:=by
 have ne:∀{b:b6}{o:Ad},s.heap.get? b=G0 o->b≠a:=λ{b o} q z=>by rw[z,j] at q; cases q
 erw[?_,?_,?_,λx c e=>?_,λp h=>ne (I.pin p h).1]
 ·cases q:H a with
  | none=>rfl
  | some o =>
   obtain⟨ob,e⟩:=(I.hok a o q).some;rwa[y8 rfl (ne e)]
 ·obtain⟨m,⟨l,_,_,d,_⟩,_⟩:=I.loc;exact(ne d).symm
 ·cases q:X.s₀.heap.get? a with
  | none=>rfl
  | some o =>
   obtain⟨n,f⟩:=I.base.there a o q (by rw[g]; exact λz=>nomatch z);rwa[y8 rfl (ne f)]
 ·obtain⟨v,o,i,_⟩:=I.cell x c e;rwa[ne i]
end
section
variable{X:Cx}{o e value:o6}{es:List o6}{f x:c7}{pos pos' apos:BM}{ta tv:TE}{t:TA}{C:b6}
inductive TExA(C:b6)(f:c7)(x:V)(H:Hp)(Q:VK):Prop where
 | mk (a dd:b6) (fs:List (c7×V)) (v:V) (ex:x=.ref a) (ea:H a=G0 (jP a (.ref C,G0 dd))\/H a=G0 (yK a (.ref C,G0 dd))) (ed:H dd=G0 (.xd fs)) (l:fs.lookup f=G0 v) (q:Q v H)
def tExA(C:b6)(f:c7)(ta:TE):TE:=λa H Q=>ta a H λx b=>TExA C f x b Q
def bo(D:InB X.base λK=>exI K C f=G3)(B:PE X e ta)(E:attributeBase e f X.env (eval e X.env)=eval e X.env:=by rfl):PE X (.Attribute e f pos) (tExA C f ta):=by
 obtain⟨K,L,c⟩:=D;obtain⟨R,O,c⟩:=bw c;intro M s j H Q I h;refine gr E (thn (B M s j H _ I h) λu g ⟨x,i,d,m,a,b,fs,v,ex,J,G,l,q⟩=>?_);subst ex;obtain rfl:u=e8 a:=m;have ok:lj a (.ref C,G0 b) g.heap:=by
  rcases J with z | z
  ·exact(show yU X.prog X.w i g.heap a (jP a (.ref C,G0 b)) from d.hok a _ z).1
  ·exact ZB.at_ (show yU X.prog X.w i g.heap a (yK a (.ref C,G0 b)) from d.hok a _ z).1
 obtain⟨ob,N,h1,h2,h3,h4,_⟩:=ok;obtain⟨n,ns,r⟩:=(show yU X.prog X.w i g.heap b (.xd fs) from d.hok b _ G);obtain⟨P,y,A⟩:=mf ns;obtain⟨u,p,ru⟩:=uu.some_of (v:=v) (o:=n f) (by rw[<- l]; rwa[r f]);erw[PySem.W.exc_load (d.withK L).kIn ⟨h1,h2,by unfold FW; rw[h4],by rw[h3]; rwa[y]⟩ c.ga c.hk c.ck (by rw[c.mro]; simp[bmV]) (Ek (by unfold Cc; rw[c.ck]; rwa[c.hd]) c.na rfl (by rw[A,p])) (nU ru) ⟨v,i,d.tok _,ru,q⟩]
inductive SExF(C:b6)(f:c7)(y x:V)(H:Hp)(Q:Hp->Prop):Prop where
 | mk (a:b6) (ex:x=.ref a) (ea:H a=G0 (yK a (.ref C,G2))) (q:∀ dd,H dd=G2->Q (upd (upd H a (yK a (.ref C,G0 dd))) dd (.xd [(f,y)])))
def sExF(C:b6)(f:c7)(ta tv:TE):TS:=λD a H=>tv a H λy c=>ta a c λx b=>SExF C f y x b (D.nx a)
def YR(m:InB X.base λK=>exI K C f=G3)(S:PE X o ta)(Q:PE X value tv)(hex:X.ex=[]:=by rfl)(R:swapsWith value (G0 (.Attribute o f pos')) pos.line X.env=pure false:=by rfl):PS X (.Assign [.Attribute o f pos'] value pos) (sExF C f ta tv):=by
 obtain⟨K,KB,c⟩:=m;obtain⟨E,p,c⟩:=bw c;intro G s j H D I h;erw[plainObj_wpAny_Assign_Attribute (thn (Q G s j H _ I h) λu L ⟨y,H1,I1,M,q⟩=>thn (S G L j H1 _ I1 q) λP n ⟨x,H2,i,N,a,ex,B,O⟩=>?_) R];subst ex;obtain rfl:P=e8 a:=N;obtain⟨J,v⟩:=(show yU X.prog X.w H2 n.heap a (yK a (.ref C,G2)) from i.hok a _ B).1;erw[PySem.W.exc_store (K:=K) (C:=C) (cd:=E) (rs:=p) (i.withK KB).kIn v rfl rfl rfl c.sa c.na c.ck c.mro c.hd (λh' d nd kp r ns=>?_)];obtain⟨A,f1,Z,Y,T⟩:=i.newAt hex nd;have l:d≠a:=λz=>by rw[z,v] at nd; cases nd
 have I3:=i.write (x:=a) (e:=a) (o:=yK a (.ref C,G0 d)) (t':=n.toks+2) (by rw[B]; rwa[q0]) (.inl rfl) (λb u m z=>kp b u m z) ⟨_,r⟩ (pV ⟨J,r⟩);have I4:=I3.moreX (a:=d) (o:=.xd [(f,y)]) (by rw[zL l]; rwa[A]) f1 Z Y T ⟨_,ns,λg=>?_⟩
 ·rwa[j,_,I4,O d A]
 ·by_cases z:g=f
  ·subst z;simpa [o9,uu] using M
  ·have:(g == f)=false:=by simpa using z
   simp[o9,this,z,uu]
end
end L2

namespace PySem
section
variable{prog:e9}{w:i5}{A:u8}{E:b7->b9->Prop}{h:j3}{g:Array GenState}{d:Drawn}{t:Nat}{os:BA}
variable{nm q:c7}{C N:b6}{bs bm bmB:List b7}{hdct:Bool}{sn:List c7}{sub:List b7}{ab:Bool}{col:Option Bool}{dd:Option b6}{k0 k1 k2 k3 k5:Option b7}{B Bn newId nid initId inN:String}{bmN:List b7}
def sg(z:BP Bn newId inN bmN)(l:bmB.contains (.type Bn)=G3)(F:BP B nid initId bmB)(T:FJ h bmB bm){n:c7->Option b7}{Q:Fin->b9->Prop}
  (j:h.get? C=G0 (excClassObj nm q C N bs bm hdct sn sub ab col dd k0 k1 k2 k3 k5 newId)) (J:h.Ns N n) (hi:n "__init__" = G0 (.ref y)) (s:h.get? y=G0 G) (p:G.cls=.type "function")
  (I:∀ v e,CV h v e (.ref C) rest->wpAny (model prog w) A (call (.ref y) (.ref e::rest)) (λr D=>r=.none/\Q (.done (.ret (.ref e))) D) E ⟨v,g,d,t,os⟩) (hrest:rest.length<=sizeLine:=by size_fits) :
  wpAny (model prog w) A (Cn.«type.__call__» ⟨.ref C::rest,[]⟩) Q E ⟨h,g,d,t,os⟩:=by
 repeat (first | with_reducible refine BE j ?_ | with_reducible refine wpAny_madeBy_exc j ?_ | wp_step)
 refine codeAny_call_builtin_code (EI _ z.quiet) (wpAny_check_new_subU z l T j ?_);refine codeAny_exc_new_subU z l F T j ?_ hrest;show wpAny _ _ _ _ _ _;have a:=b8 { cls:=.ref C,data:=.fields #[.ref h.objs.size,.none,.none,.none,.bool G4,.none] }
  (b8 { cls:=.type "tuple",data:=.seq rest.toArray } j)
 have c:=b8 { cls:=.ref C,data:=.fields #[.ref h.objs.size,.none,.none,.none,.bool G4,.none] }
  (b8 { cls:=.type "tuple",data:=.seq rest.toArray } s)
 have i:((h.push { cls:=.type "tuple",data:=.seq rest.toArray }).push { cls:=.ref C,data:=.fields #[.ref h.objs.size,.none,.none,.none,.bool G4,.none] }).Ns N n :=
  let ⟨o,es,ep,e,r⟩:=J;⟨o,es,ep,b8 _ (b8 _ e),r⟩
 have f:((h.push { cls:=.type "tuple",data:=.seq rest.toArray }).push
   { cls:=.ref C,data:=.fields #[.ref h.objs.size,.none,.none,.none,.bool G4,.none] }).get? (h.objs.size+1)=G0
   { cls:=.ref C,data:=.fields #[.ref h.objs.size,.none,.none,.none,.bool G4,.none] }:=by heap_get
 have u:(e8 C::bm).contains (.ref C)=true:=by simp
 have m:=T.keeps (h':=(h.push { cls:=.type "tuple",data:=.seq rest.toArray }).push { cls:=.ref C,data:=.fields #[.ref h.objs.size,.none,.none,.none,.bool G4,.none] })
  λb o e=>b8 _ (b8 _ e)
 unfold isInstance
 repeat (first | with_reducible refine BE f ?_ | (with_reducible refine Er a ?_; rw[u]) | wp_step)
 show wpAny _ _ (typeLookup (.ref C) _) _ _ _;erw[wpAny_typeLookup_tail a i m F.mroIs F.init.lookup ?_];rw[hi];erw[Aj (b0 ?_)];unfold bindSpecial;erw[b0 (wpAny_typeOf (T := "function") ⟨_,c,p⟩ ?_)];rw[y4 (by decide)];erw[c9 (b0 (An (I _ (h.objs.size+1) ⟨λb o L=>b8 _ (b8 _ L),AF (D9 _),h.objs.size,f,AF (d8 _),?_⟩) (λr D H=>?_) λ_ _ x=>x))]
 ·rwa[b8 _ (E1 rfl rfl)]
 ·obtain⟨rfl,M⟩:=H
  wp_walk
  rwa[M]
def iq(v:BP Bn newId inN bmN)(j:bmB.contains (.type Bn)=G3)(F:BP B nid initId bmB)(T:FJ h bmB bm){n:c7->Option b7}{Q:b7->b9->Prop}
  (b:h.get? C=G0 (excClassObj nm q C N bs bm hdct sn sub ab col dd k0 k1 k2 k3 k5 newId)) (s:h.Ns N n) (hi:n "__init__" = G0 (.ref l)) (i:h.get? l=G0 m) (f:m.cls=.type "function")
  (p:∀ c e,CV h c e (.ref C) rest->wpAny (model prog w) (A.under (.builtin "type.__call__" ⟨.ref C::rest,[]⟩)) (call (.ref l) (.ref e::rest)) (λr o=>r=.none/\Q (.ref e) o) E ⟨c,g,d,t,os⟩) (a:rest.length<=sizeLine:=by size_fits) :
  wpAny (model prog w) A (call (.ref C) rest) Q E ⟨h,g,d,t,os⟩:=by
 have z:=tc_lookup;have y:=tc_bind (.ref C);have x:(⟨h,g,d,t,os⟩:b9).TypeIs (.ref C) "type" :=⟨_,b,rfl⟩;erw[Br (codeAny_of_tree ?_)];show wpAny _ _ (callAny (.ref C) _) _ _ _
 repeat (any_goals (first | assumption | with_reducible refine BE b ?_ | wp_step))
 exists rfl;erw[codeAny_call_builtin_at (EI _ (by ac_nf)) entry_typeCall (wpAny_check_type_call_sub b (sg (hrest:=a) v j F T b s hi i f λc e u=>?_))];rwa[p c e u]
def mI(F:BP B nid initId bmB)(T:FJ h bmB bm){rest:List b7}{Q:b7->b9->Prop}
  (m:h.get? C=G0 (excClassObj nm q C N bs bm hdct sn sub ab col dd k0 k1 k2 k3 k5 newId)) (j:h.get? e=G0 b) (a:b.cls=.ref C) (hd:b.data=.fields i)  (h0:i[0]?=G0 (.ref t0))
  (l:Q .none ⟨(h.push { cls:=.type "tuple",data:=.seq rest.toArray }).update e (AE (·.setIfInBounds 0 (.ref h.objs.size))),g,d,t,os⟩) (c:rest.length<=sizeLine:=by size_fits) :
  wpAny (model prog w) A (call (.builtin initId) (.ref e::rest)) Q E ⟨h,g,d,t,os⟩:=by
 erw[Br (codeAny_call_builtin F.init.plain F.initEntry (wpAny_check_init_subU F T m j a ?_))];have f:=b8 (h:=h) { cls:=.type "tuple",data:=.seq rest.toArray } j
 wp_walk
 rw[hd];erw[c9 ?_];rw[h0];erw[c9 (b0 (AT f hd (At.mp h0).1 ?_))]
 wp_walk
 rwa[l]
end
end PySem

namespace L2
def kD(K:ac)(N g:b6):Bool:=match K.lookup N with
 | some ⟨_,_,.dict a _,_⟩=>eT a&&nsFind a "__init__" == G0 (.ref g)
 | _=>G4
def iF{K:ac}(X:K.In B)(h:kD K N g=G3):∃ m,B.Ns N m/\m "__init__" = G0 (.ref g):=by
 unfold kD at h;split at h
 ·rename_i c d a b e q
  rw[i8] at h;rwa[nsFind a,⟨_,a,b,X _ _ q,U,oY h.1,λ_=>rfl⟩,beq_iff_eq.mp h.2]
 ·cases h
def dk(K:ac)(C g:b6):Bool:=(u9 K (.ref C)&&CI K (.ref g))&&match K.lookup C with
 | some ⟨.type "type",_,.cls a,b⟩=>(match a.mro,b.toList with
  | .ref d::c,[_,_,_,_,G0 (.builtin n),_]=>d == C&&(!a.hasDel&&(n == "ValueError.__new__" && (kD K a.ns g&&md K c)))
  | _,_=>G4)
 | _=>G4
def oq{K:ac}(X:K.In B)(q:dk K C g=G3):u9 K (.ref C)=G3/\CI K (.ref g)=G3 /\
  ∃ o N nm q bs d p sub t b s j i h f e v,B.get? C=G0 (excClassObj nm q C N bs o d p sub t b s j i h f e "ValueError.__new__")/\B.Ns N v/\v "__init__" = G0 (.ref g)/\FJ B bmV o:=by
 unfold dk at q;rw[i8,i8] at q;obtain⟨⟨z,y⟩,q⟩:=q;exists z,y;split at q
 ·rename_i s G u D
  split at q
  ·rename_i H o j i h f n e c w
   simp only[i8,beq_iff_eq,EX] at q;obtain⟨rfl,a,rfl,hi,A⟩:=q;obtain⟨nm,bs,mro,ns,x,hd,p,sub,t,b,E⟩:=G;dsimp only at c a hi;subst c a;have r:u = #[j,i,h,f,G0 (.builtin "ValueError.__new__"),e]:=by
    obtain⟨l⟩:=u;simp only at w;rw[w]
   subst r;obtain⟨m,h1,h2⟩:=iF X hi;rwa[o,ns,nm,x,bs,hd,p,sub,t,b,s,j,i,h,f,e,m,X _ _ D,h1,h2,rj X A]
  ·cases q
 ·cases q
def drop(a:b6)(H:Hp):Hp:=λb=>if b=a then G2 else H b
def nT{H:Hp} : drop a H a=none:=by unfold drop; rw[y4 rfl]
def kI{a b:b6}{H:Hp}(h:b≠a):drop a H b=H b:=by unfold drop; rw[y3 h]
def Inv.drop{f:St}{H:Hp}{k:EK}(I:Inv X h f H s)(m:H e=G0 (yK e k)):Inv X h f (L2.drop e H) s:=by
 have d:∀{b:b6},H b=G2->L2.drop e H b=none:=λ{b} q=>by unfold L2.drop; split <;> first | rfl | exact q
 have a:∀{b:b6}{u:HO},H b=G0 u->u≠yK e k->L2.drop e H b=G0 u:=λ{b u} q n=>by
  rw[kI (λz=>n (by rw[z,m] at q; exact(o0 q).symm))];rwa[q]
 refine⟨I.ok,I.os,I.bare,⟨I.base.keep,I.base.slot,λb u q n j=>d (I.base.free b u q n j),I.base.there,λb g q=>a (I.base.tups b g q) (λz=>nomatch z),λb u v q=>a (I.base.frzs b u v q) (λz=>nomatch z),
  λb i q=>let ⟨more,r⟩:=I.base.tbls b i q;⟨more,a r (λz=>nomatch z)⟩⟩,I.loc,I.cell,d I.free,λx c q=>d (I.freeC x c q),λp l=>?_,λb u q=>?_,I.len⟩
 ·obtain⟨h1,h2,h3⟩:=I.pin p l;rwa[h1,d h2,h3]
 ·unfold L2.drop at q;split at q
  ·cases q
  ·exact(I.hok b u q).stay (λc v _ q=>q) (λc q=>a q (λz=>nomatch z)) λc g q=>a q (λz=>nomatch z)
def ZQ(X:Cx)(c:St->XK):Prop:=∀(b:List (b6×Ad))(a:St)(H:Hp)(s:b9)(e:b6)(k:EK),Inv X b a H s->H e=G0 (yK e k)->X.s₀.heap.get? e=G2->c a k.1 k.2 (L2.drop e H)->X.xe (.ref e) s
def jp{K:ac}{mg:c7->Option b7}{H:Hp}{E:XK} :
  ZQ (cxOf (CX1 P w) P w K mg base N c a f d A outer s H E) (λ_=>E):=by
 intro G D n h e k I g l q;obtain⟨t,C⟩:=(show yU P w n h.heap e (yK e k) from I.hok e _ g).1;have J:=I.drop g;have i:∀ env∈(cxOf (CX1 P w) P w K mg base N c a f d A outer s H E).stack,∀ b,env.frame=G0 b->b∈e::frs (cxOf (CX1 P w) P w K mg base N c a f d A outer s H E).stack:=λenv g b j=>.tail _ (B1.mpr ⟨env,g,j⟩);refine b0 (qp (base:=Cs h.heap (e::frs (cxOf (CX1 P w) P w K mg base N c a f d A outer s H E).stack)) (L:=s.heap.objs.size) I.ok.frames (DK I.stack i) rfl C (λb o q=>CM _ q) (D5 _ (.head _)) rfl rfl rfl λh1 p u=>?_);refine jJ p λh2 ⟨B,y,⟨_,_,x⟩,v⟩ r=>?_;exact⟨e,k,L2.drop e n,_,U,rz (X:=cxOf (CX1 P w) P w K mg base N c a f d A outer s H E) (s2:=h) rfl rfl rfl rfl J (λb o q z j=>Cz _ q λm=>by
  rcases f9.mp m with m | m
  ·subst m;rcases z with z | z
   ·rw[l] at z;cases z
   ·rw[nT] at z;cases z
  ·rwa[j m]) nT l ⟨B,y,x,v⟩ (u.trans r),q⟩
section
variable{X:Cx}{o e value:o6}{es:List o6}{f x:c7}{pos pos' apos cpos np:BM}{ta tv:TE}{t:TA}{C D g:b6}{n:Nat}{ps:List c7}{sp:Sp}{EE:St->XK}
def fO{E:St}{H:Hp}{Q:VK}(hb:InB X.base λK=>dk K C g=G3)(F:lO X.prog X.w X.K X.mg X.base g n ps sp)(Z:tS (n+1) X.A)(hex:X.ex=[])
  (I:Inv X R E H s) (r:xD l us) (hl:us.length<=sizeLine) (hp:l.length+1=ps.length) (h:∀ a,H a=G2->sp (.ref a::l) (upd H a (yK a (.ref C,G2))) (λv H2=>v=.non/\Q (.ref a) H2) E0) :
  wpAny (model X.prog X.w) X.A (call (.ref C) us) (λu J=>∃ a m,u=.ref a/\X.s₀.heap.get? a=G2/\Inv X R E m J/\Q (.ref a) m) X.xe s:=by
 obtain⟨K,P,c⟩:=hb;obtain⟨_,p,bm,N,nm,q,bs,L,sn,sub,ab,col,dd,k0,k1,k2,k3,k5,mN,hC,hN,hi,T⟩:=oq P c;obtain⟨fd,F,b⟩:=F;obtain⟨og,ho,hc⟩:=j5.mp (show(K.lookup g).map (·.cls)=G0 (.type "function") from beq_iff_eq.mp p);obtain⟨hp',gs,d,G,os⟩:=s;erw[iq (Bn := "ValueError") (newId := "ValueError.__new__") c0 (by decide) c0 (T.keeps I.bk) (I.bk _ _ hC) (hN.keeps I.bk) hi (I.bk _ _ (P _ _ ho)) hc (λz e y=>?_) hl];obtain⟨O,f1,M,f4,f5⟩:=I.newAt hex y.new;obtain⟨t,he,_,_⟩:=y.there;have hq:=h e O;have B:=(I.kept (h':=z) (t':=G) y.keeps).moreX (a:=e) (o:=yK e (.ref C,G2)) O f1 M f4 f5 (pV ⟨t,he⟩);have j:=zt.all (K:=X.K) b { heap:=z,gens:=gs,drawn:=d,toks:=G,os:=os } (.ref e::us) B.kIn (by rw[Al,i6,<- r.length]; rwa[hp]);rw[Al] at j;erw[Br (codeAny_mono (F.run _ X.stack _ _ ⟨.ref e::us,[]⟩ (.ref e::us) (.ref e::l) _ E0 (Z.make C us []) (B.env0.make C us []) j (.cons rfl r) hq) λr J i=>?_)];cases r with
 | error e=>rwa[i.elim]
 | ok fl =>
  cases fl with
  | ret u =>
   obtain⟨v,m,I3,S,ev,Y⟩:=B.after i;subst ev;rwa[S,e,m,U,M,I3,Y]
  | next=>rwa[l9 i]
  | brk=>rwa[l9 i]
  | cont=>rwa[l9 i]
def eP(C:b6)(ps:List c7)(sp:Sp)(t:TA):TE:=λd H Q=>t d H λb c=>A3 (b.length+1=ps.length) (b.length<=sizeLine) (∀ a,c a=G2->sp (.ref a::b) (upd c a (yK a (.ref C,G2))) (λv h=>v=.non/\Q (.ref a) h) E0)
def bW{b:St}{H:Hp}{Q:VK}(p:InB X.base λK=>dk K C g=G3)(F:lO X.prog X.w X.K X.mg X.base g n ps sp)(B:tS (n+1) X.A)(E:X.mg x=G0 (.ref C))(M:PA X (e::es) t)
  (hex:X.ex=[]) (J:Gl X x) (i:(x ==("__debug__" : c7))=G4)
  (L:starEach (e::es) X.env=(G4,eval e X.env)::starEach es X.env) (d:(backTo pos (starEach es X.env)).any (·.1)=G4) (I:Inv X l b H s) (h:eP C ps sp t b H Q) :
  wpAny (model X.prog X.w) X.A (eval (.Call (.Name x np) (e::es) [] pos) X.env) (λu z=>∃ a y,u=.ref a/\X.s₀.heap.get? a=G2/\Inv X l b y z/\Q (.ref a) y) X.xe s:=by
 obtain⟨K,j,c⟩:=id p;erw[Ac (wF I J E ?_ i)];erw[Ay (h₀:=X.base) j (oq j c).1 (thn (M pos l s b H _ I h) λm O ⟨N,P,v,r,G,sz,q⟩=>⟨(v.withK j).kIn,?_⟩) L d];rwa[fO (us:=m) p F B hex v r (by rw[<- r.length]; exact sz) G q]
def cr(m:InB X.base λK=>dk K C g=G3)(F:lO X.prog X.w X.K X.mg X.base g n ps sp)(d:tS (n+1) X.A)(i:X.mg x=G0 (.ref C))(p:PA X (e::es) t)(hex:X.ex=[]:=by rfl)(j:Gl X x:=by rfl)(c:(x ==("__debug__" : c7))=false:=by decide)
  (l:starEach (e::es) X.env=(G4,eval e X.env)::starEach es X.env:=by rfl) (b:(backTo pos (starEach es X.env)).any (·.1)=false:=by rfl):PE X (.Call (.Name x np) (e::es) [] pos) (eP C ps sp t) :=
 λE s z H Q I h=>thn (bW m F d i p hex j c l b I h) λu B ⟨a,y,r,_,v,q⟩=>⟨.ref a,y,v,r,q⟩
def aR(C:b6)(ps:List c7)(sp:Sp)(EE:St->XK)(t:TA):TS:=λ_ b H=>eP C ps sp t b H λv c=>E2 λa k=>A4 (v=.ref a) (c a=G0 (yK a k)) (k.1=.ref C) (EE b k.1 k.2 (L2.drop a c))
def ml(EE:St->XK)(E:InB X.base λK=>dk K C g=G3)(F:lO X.prog X.w X.K X.mg X.base g n ps sp)(Y:tS (n+1) X.A)(Z:X.mg x=G0 (.ref C))(S:ZQ X EE)(ha:PA X (e::es) t)(hc:X.calm=true:=by rfl)(hex:X.ex=[]:=by rfl)(hg:Gl X x:=by rfl)(j:(x ==("__debug__" : c7))=false:=by decide)
  (he:starEach (e::es) X.env=(G4,eval e X.env)::starEach es X.env:=by rfl) (i:(backTo cpos (starEach es X.env)).any (·.1)=false:=by rfl) :
  PS X (.Raise (G0 (.Call (.Name x np) (e::es) [] cpos)) G2 pos) (aR C ps sp EE t):=by
 intro G5 s Q H D' I h;obtain⟨K,KB,c⟩:=id E;obtain⟨_,_,M,N,nm,q,bs,b,m,sub,O,d,L,B,z,y,v,r,mN,hC,_,_,T⟩:=oq KB c;erw[jZ (C:=C) (nm:=nm) (q:=q) (N:=N) (bs:=bs) (bm:=M) (hdct:=b) (sn:=m) (sub:=sub) (ab:=O) (col:=d) (dd:=L) (k0:=B) (k1:=z) (k2:=y) (k3:=v) (k5:=r) (newId := "ValueError.__new__") (T.hasType (by decide)) (I.ok.hd hc) (thn (bW E F Y Z ha hex hg j he i I h) λu p ⟨a,P,e1,fr,l,a',k,e2,J,e4,q⟩=>?_)];cases e2;obtain⟨R,G⟩:=(show yU X.prog X.w P p.heap a (yK a k) from l.hok a _ J).1;rw[e4] at G;rwa[a,R,k.2,e1,l.bk _ _ hC,G,S G5 Q P p a k l J fr q]
def exB(K:ac)(D:b6):Bool:=C6 K (.ref D) "__getattribute__" == G0 (G0 (.builtin "type.__getattribute__"))&&(PySem.W.readsIn K D (.type "type")&&match PySem.W.findCls K (.ref D) (.type "type") "__init__" with | some (.val v)=>v == .builtin "ValueError.__init__" | _=>G4)
def aM(C:b6)(t:TA):TE:=λc H Q=>t c H λd b=>E2 λa y=>A3 (d=[.ref a,y]) (b a=G0 (yK a (.ref C,G2))) (Q .non b)
def iV(G:InB X.base λK=>exB K D=G3/\dk K C g=G3)(hm:X.mg x=G0 (.ref D))(ha:PA X (e::es) t)(hg:Gl X x:=by rfl)(E:(x ==("__debug__" : c7))=false:=by decide)
  (A:starEach (e::es) X.env=(G4,eval e X.env)::starEach es X.env:=by rfl) (B:(backTo pos (starEach es X.env)).any (·.1)=false:=by rfl)
  (ht:eval (.Call (.Attribute (.Name x np) "__init__" apos) (e::es) [] pos) X.env=(do
   let S <- eval (.Name x np) X.env
   standAt apos.atName
   let (f,first) <- holding [S] (getMethod S "__init__" p)
   callWith pos f first (backTo pos (starEach (e::es) X.env)) (backToKw pos (keywordEach [] X.env))):=by rfl) :
  PE X (.Call (.Attribute (.Name x np) "__init__" apos) (e::es) [] pos) (aM C t):=by
 obtain⟨K,O,c,c2⟩:=G;obtain⟨_,_,bm,N,nm,q,bs,Y,sn,sub,ab,col,dd,k0,k1,k2,k3,k5,mN,hC,_,_,T⟩:=oq O c2;unfold exB at c;simp only[i8,beq_iff_eq] at c;obtain⟨c1,c3,M⟩:=c;intro G5 s σ H Q I h;erw[AY (pl:=p) (wF I hg hm ?_ E) ht];erw[PySem.W.method_cls (I.withK O).kIn c1 ?_];split at M
 ·rename_i v hv
  obtain rfl:=beq_iff_eq.mp M;refine PySem.W.cls_value (I.withK O).kIn c3 hv rfl ?_;refine Cm (thn (ha pos G5 _ σ H _ (I.tok _) h) λus R ⟨vs,m,l,r,a,y,e1,L,q⟩=>?_) A B;subst e1;obtain⟨u,v',rfl,ru,rv⟩:=Yc r;obtain rfl:u=e8 a:=ru;obtain⟨P,Z⟩:=(show yU X.prog X.w m R.heap a (yK a (.ref C,G2)) from l.hok a _ L).1;obtain⟨i,gs,d,tk,os⟩:=R;refine mI (C:=C) c0 (T.keeps l.bk) (l.bk _ _ hC) Z rfl rfl (t0:=P) rfl ?_;have J:=b8 (h:=i) { cls:=.type "tuple",data:=.seq [v'].toArray } Z;have j:=Ai (AE (·.setIfInBounds 0 (.ref i.objs.size))) J rfl;have I2:=l.write (x:=a) (e:=a) (o:=yK a (.ref C,G2)) (t':=tk) (by rw[L]; exact q0) (.inl rfl) (λb u G z=>(CF _ _ _ _ G).trans (b8 _ z)) ⟨_,j⟩ (pV ⟨_,j⟩);have e5:upd m a (yK a (.ref C,G2))=m:=by
   funext b
   unfold upd;split
   ·rename_i z; rw[z,L]
   ·rfl
  rw[e5] at I2;rwa[.non,m,I2,U,q]
 ·cases M
end
end L2

namespace L2
open PySem PySem.Spec PyProof.Rows PySem.Builtin PySem.Builtin.Str
section
variable{X:Cx}
def jk:MtR X "str.split" (λx g H Q=>∃(a b:c7),x=.str a/\g=[.str b]/\(b.length == 0)=G4/\a.length+2<=sizeLine/\∀ l,H l=G2->Q (.ref l) (upd H l (.lst ((Ej a b).map V.str)))):=by
 intro m s f H x g v C Q I n o h;obtain⟨a,b,rfl,rfl,i,z,q⟩:=h;obtain⟨t,rfl⟩:=n;obtain⟨w,rfl,ru⟩:=xD.one o;obtain⟨u,rfl⟩:=ru;have A:(partsBetween a (occurrences a b 0 a.length (a.length+1)) b.length).length<=sizeLine:=by
  have D:=StrLaws.occ_length_le a b 0 a.length (a.length+1);rw[length_partsBetween]; lia
 have go:∀(l:List (c7×GU))(k:Nat),l.map (·.1)=Ej a b->l.length<=sizeLine->EP X m f Q (.ref s.heap.objs.size) { s with heap:=s.heap.push { cls:=.type "list",data:=.seq (strValues l).toArray },toks:=k }:=λl k e j=>by
  have d:xD ((l.map (·.1)).map V.str) (strValues l):=by
   clear e j
   induction l with
   | nil=>rwa[.nil]
   | cons y l p=>rwa[.cons ⟨y.2,rfl⟩ p]
  have r:((l.map (·.1)).map V.str).length<=sizeLine:=by rw[c5,c5]; rwa[j]
  have B:=I.lnew (t':=k) d r;exists .ref s.heap.objs.size,_,B,rfl;rw[e];rwa[q _ I.fresh]
 cases h1:(decide (a.length<b.length)||decide (Es a<Es b))
 ·cases c:(occurrences a b 0 a.length (a.length+1)).isEmpty
  ·erw[call_meets Dw (typeIs_str _ _ _) De (C0 _ _) (meets_str_split_sep a b t u h1 i c (by lia) A) ?_];show wants (EP X m f Q) X.xe _ { s with toks:=_,heap:=s.heap.push { cls:=.type "list",data:=.seq (strsFrom s.toks (partsBetween a (occurrences a b 0 a.length (a.length+1)) b.length)).toArray } };rw[strsFrom_eq];erw[go (numbered s.toks _) _ ((numbered_texts _ _).trans ((y3 (ne_true_of_eq_false h1)).trans (y3 (ne_true_of_eq_false c))).symm) ?_];have:=congrArg C9 (numbered_texts s.toks (partsBetween a (occurrences a b 0 a.length (a.length+1)) b.length));rw[c5] at this;lia
  ·exact call_meets Dw (typeIs_str _ _ _) De (C0 _ _) (meets_str_split_not_found a b t u h1 i c)
    (go [(a,t)] s.toks ((y3 (ne_true_of_eq_false h1)).trans (y4 c)).symm (by show 1<=sizeLine; decide))
 ·exact call_meets Dw (typeIs_str _ _ _) De (C0 _ _) (meets_str_split_cannot_occur a b t u h1)
    (go [(a,t)] s.toks (y4 h1).symm (by show 1<=sizeLine; decide))
def iX:MtR X "str.startswith" (λx c H Q=>∃(a b:c7),x=.str a/\c=[.str b]/\Q (.bl (Ef a b)) H):=by
 intro i s f H x c v g Q I d e h;obtain⟨a,b,rfl,rfl,q⟩:=h;obtain⟨t,rfl⟩:=d;obtain⟨w,rfl,ru⟩:=xD.one e;obtain⟨u,rfl⟩:=ru;rwa[SC.startswith ⟨.bl _,H,I,rfl,q⟩]
def gk:sV X (.type "int") (λa H Q=>E2 λ(x:c7) (n:Int)=>A4 (a=[.str x]) (intText? x=G0 n) (x.length<=640) (Q (.int n) H)):=by
 intro f s c H a d Q I r h;obtain⟨x,n,rfl,e,b,q⟩:=h;obtain⟨u,rfl,t,rfl⟩:=kQ r;rwa[PySem.W.KIN.call_text e b ⟨.int n,H,I.tok _,⟨_,rfl⟩,q⟩]
def tGetN(a:List (Key×V))(ty:TE):TE:=λb H Q=>ty b H λy c=>∃ k:Key,y=kV k/\Q ((vB a k).getD .non) c
def dY{ty:TE}(D:br X.prog X.w X.base a f)(A:X.mg x=G0 (.ref a))(C:PE X e ty)(m:M1 X (.Name x p) "get" d e c)(g:(a == sysModules)=false:=by rfl)(B:Gl X x:=by rfl)(hd:(x ==("__debug__" : c7))=false:=by decide) :
  PE X (.Call (.Attribute (.Name x p) "get" d) [e] [] c) (tGetN f ty):=by
 obtain⟨i,rel,j⟩:=D;intro G s t H Q I h;have n:s.heap.DictOf (yN X.prog X.w) a i:=j.at λo e=>I.bk a o e;erw[Db m.base m.few m.line Dq D1 PySem.F.type_dict_get (wF I B A ?_ hd)];erw[n.typeIs,λb q=>?_,?_]
 ·cases q;obtain⟨ob,_,_,h1,h2,_⟩:=n;rwa[ob,h1,h2.2.1]
 rw[m.trees];erw[Bs rfl (A2 (CQ (thn (C G s t H _ I h) λJ u ⟨y,E,r,v,k,ey,z⟩=>C7 ?_)))];subst ey;have l:u.heap.DictOf (yN X.prog X.w) a i:=j.at λo e=>r.bk a o e;refine call_meetsIn D1 l.typeIs PySem.F.entry_dict_get (PySem.F.args_dict_get_2 _ _) (meets_dict_get (yN X.prog X.w) a (pr v) g) ⟨_,l.mapOf,⟨(vB f k).getD .non,E,r.tok _,(rel.val k).getD (show xN .non v3 from rfl),z⟩⟩
def ZO(a:∃ k,X.mg x=G0 (.str z k))(b:Gl X x:=by rfl)(hd:(x ==("__debug__" : c7))=false:=by decide):PE X (.Name x pos) (tC (.str z)):=λ_ _ _ H _ I h=>by
 obtain⟨k,a⟩:=a;rwa[wF I b a ⟨.str z,H,I,⟨k,rfl⟩,h⟩ hd]
def dn : PE X e (λ_ _ _=>False):=λ_ _ _ _ _ _ h=>h.elim
def ou(i:c7)(n:Int):c7:=if n<1 then Ei else XQ i n
def pO:OpR X (binaryOp .Mult) (λx y H Q=>E2 λ(i:c7) (n:Int)=>A6 (x=.str i) (y=.int n) (0<=n) (n<=1000) (i.length<=1000) (Q (.str (ou i n)) H)):=by
 intro f s e H x y v u Q I b a h;obtain⟨i,n,d,c,h1,h2,h3,q⟩:=h;unfold ou at q;by_cases z:n<1
 ·rw[y4 z] at q;subst d c;obtain⟨t,rfl⟩:=b;obtain⟨g,rfl⟩:=a;rwa[PySem.P.mul_str_none z (by lia) ⟨.str Ei,H,I.tok _,⟨_,rfl⟩,q⟩]
 ·rw[y3 z] at q;rwa[nO f s e H x y v u Q I b a ⟨i,n,d,c,by lia,h2,h3,q⟩]
def YZ(C:b6)(t:TA):TE:=λc H Q=>t c H λd b=>d.length<=sizeLine/\∀ a,b a=G2->Q (.ref a) (upd b a (yK a (.ref C,G2)))
def yZ{e:o6}{b:List o6}(O:j7 x C bmV "ValueError.__new__" X.mg X.base)(ha:PA X (e::b) t)(hex:X.ex=[]:=by rfl)(hg:Gl X x:=by rfl)(m:(x ==("__debug__" : c7))=false:=by decide)
  (p:starEach (e::b) X.env=(G4,eval e X.env)::starEach b X.env:=by rfl) (i:(backTo pos (starEach b X.env)).any (·.1)=false:=by rfl):PE X (.Call (.Name x M) (e::b) [] pos) (YZ C t):=by
 obtain⟨bm,N,nm,q,bs,f,J,sub,ab,n,dd,k0,Z,Y,S,R,mN,u,hN,j,T⟩:=O.obj;intro G5 s y H Q I h;refine Ac (wF I hg O.bound ?_ m);refine PySem.W.callWith_of (P:=λh=>h.get? C=G0 (excClassObj nm q C N bs bm f J sub ab n dd k0 Z Y S R "ValueError.__new__")) (by rw[p]; show((G4||(backTo pos (starEach b X.env)).any (·.1))||false)=G4; rw[i]; rfl)
  (λhp hc=>⟨.machine,.inr (.inl rfl),λA Q E s k z=>by obtain⟨hh,g,d,t,os⟩:=s; rwa[wpAny_keeperOf_exc (k _ _ hc) z]⟩) ?_
 have h:=ha pos G5 s y H _ I h;rw[p] at h ⊢;erw[A2 (thn h λB L ⟨vs,H1,c,r,sz,q⟩=>⟨c.bk _ _ u,?_⟩)];obtain⟨hp,gs,d,D,os⟩:=L;refine wpAny_call_exc_subU (Bn := "ValueError") (newId := "ValueError.__new__") c0 (by decide) c0 (T.keeps c.bk) (c.bk _ _ u) (hN.keeps c.bk) j (λv e l=>?_) (by show([]++B).length<=_; rw[List.nil_append,<- r.length]; rwa[sz]);obtain⟨w,f1,f3,f4,f5⟩:=c.newAt hex l.new;obtain⟨G,ht,_,_⟩:=l.there;rwa[.ref e,_,(c.kept (h':=v) (t':=D) l.keeps).moreX (a:=e) (o:=yK e (.ref C,G2)) w f1 f3 f4 f5 (pV ⟨G,ht⟩),U,q e w]
def kT{K:ac} : DN K (.builtin "object.__class__")=G0 true:=by symm
def de{K:ac}(h:DU K D G2 "__class__" = G0 (.bind (.builtin "getset_descriptor.__get__") (.builtin "object.__class__"))) :
  DU K D a "__class__" = G0 (.bind (.builtin "getset_descriptor.__get__") (.builtin "object.__class__")):=by
 unfold DU at h ⊢;obtain⟨g,c,h⟩:=Aa.mp h;obtain⟨at_,d,h⟩:=Aa.mp h;obtain⟨gt,b,h⟩:=Aa.mp h;obtain⟨f,hd,h⟩:=Aa.mp h;have e:at_=G0 (.builtin "object.__class__")/\gt=G0 (.builtin "getset_descriptor.__get__"):=by
  split at h
  ·cases h; rwa[U,U]
  ·obtain⟨own,_,h⟩:=Aa.mp h;split at h
   ·cases h
   ·split at h
    ·cases h
    ·split at h
     ·cases h; rwa[U,U]
     ·split at h <;> cases h
     ·cases h
 obtain⟨rfl,rfl⟩:=e;rw[c,Bo,d,Bo,b,Bo];show(DN K (.builtin "object.__class__")).bind _=_;rw[kT];rfl
def ExcD(a D:b6)(h:j3):Prop:=∃ b c,FO h a b D c
def cM{K:ac}(C:ye K D):PySem.W.KitX K (.ref a) (.ref D) (ExcD a D) where
 ty:=λM h _ e=>let ⟨_,_,I⟩:=e; I.type
 it:=λM h X _=>Xl C M h X
 ne:=Yo C
 ca:=λX e k=>let ⟨_,_,I⟩:=e; fm X C I (de C.fc) k
def zN{B:j3}(G:X.base=B):sV X (.builtin "isinstance") (λi H Q=>E6 λ(a D:b6) (d:Option b6) (v:V) (c:b7) (b:Bool)=>A6 (i=[.ref a,v]) ((∃ T,v=.ty T/\c=.type T)\/∃ C,v=.ref C/\c=.ref C) (H a=G0 (jP a (.ref D,d))\/H a=G0 (yK a (.ref D,d))) (∀ x,d=G0 x->∃ u,H x=G0 u) (InB B λK=>Ar K (.ref D) c=G0 b/\ye K D) (Q (.bl b) H)):=by
 subst G;intro O s L H i N Q I r h;obtain⟨a,D,d,v,c,b,rfl,t,E,g,⟨K,J,e,C⟩,q⟩:=h;obtain⟨u,w,rfl,ru,f⟩:=Yc r;cases ru;have p:lj a (.ref D,d) s.heap:=by
  rcases E with z | z
  ·exact(show yU X.prog X.w H s.heap a (jP a (.ref D,d)) from I.hok a _ z).1
  ·exact ZB.at_ (show yU X.prog X.w H s.heap a (yK a (.ref D,d)) from I.hok a _ z).1
 obtain⟨ob,M,h1,h2,h3,h4,_⟩:=p;have n:ExcD a D s.heap:=by
  erw[ob,d.bind λx=>s.heap.get? x,h1,h2,by unfold FW; rw[h4],?_];cases d with
  | none=>rw[h3]; trivial
  | some l =>
   obtain⟨u,y⟩:=g l rfl;obtain⟨o,j⟩:=(I.hok l u y).some;rw[h3,Bo,j];rwa[j]
 have A:w=c:=by
  rcases t with ⟨T,rfl,rfl⟩ | ⟨C,rfl,rfl⟩
  ·rwa[f]
  ·rwa[f]
 subst A;exact x8 (cM C) (J.keeps I.bk) n e (λz=>nomatch z) λm=>⟨.bl b,H,I.tok m,rfl,q⟩
end
end L2

-- LAW
namespace Sea
local macro_rules | `(tactic| ac_rfl) => `(tactic| exact ⟨rfl, rfl, rfl, by decide +kernel, rfl, by decide +kernel, by decide +kernel⟩)
structure Zs(mg:c7->Option b7):Prop where
 ValueError:mg "ValueError" = G2
 abs:mg "abs" = G2
 all:mg "all" = G2
 bool:mg "bool" = G2
 dict:mg "dict" = G2
 int:mg "int" = G2
 isinstance:mg "isinstance" = G2
 len:mg "len" = G2
 list:mg "list" = G2
 range:mg "range" = G2
 str:mg "str" = G2
 tuple:mg "tuple" = G2
 zip:mg "zip" = G2
def ei:zP ["one","other"] ["one","other"] (zH uz):=by ac_rfl
def gB:zP ["sides","places","total","number"] ["sides"] (zH vh):=by ac_rfl
def wn:zP ["start","end"] ["start","end"] (zH wY):=by ac_rfl
def xK:zP ["corners","number","start","way","further","other"] ["corners","number"] (zH wT):=by ac_rfl
def mL:zP ["corners"] ["corners"] (zH sP):=by ac_rfl
def wv:zP [] [] (zH uH):=by ac_rfl
def xg:zP ["state","kind","key","value","fresh"] ["state","kind","key","value"] (zH sI):=by ac_rfl
def xf:zP ["state","kind","key","fresh"] ["state","kind","key"] (zH sG):=by ac_rfl
def kB:zP ["numbers","most"] ["numbers","most"] (zH qC):=by ac_rfl
def qu:zP ["name"] ["name"] (zH uU):=by ac_rfl
def ua:zP ["state","kind","name"] ["state","kind","name"] (zH uV):=by ac_rfl
def vz:zP ["place"] ["place"] (zH uB):=by ac_rfl
def qa:zP ["run"] ["run"] (zH vR):=by ac_rfl
def ro:zP ["state","kind"] ["state","kind"] (zH uO):=by ac_rfl
def re:zP ["state","name"] ["state","name"] (zH uZ):=by ac_rfl
def xm:zP ["moment","runs"] ["moment","runs"] (zH wN):=by ac_rfl
def qi:zP ["direction"] ["direction"] (zH vV):=by ac_rfl
def wu:zP ["state","left","right"] ["state","left","right"] (zH uA):=by ac_rfl
def vY:zP ["state","row","name","place"] ["state","row"] (zH uT):=by ac_rfl
def wU:zP ["state","row","place","fresh","note"] ["state","row"] (zH uX):=by ac_rfl
def uK:zP ["state","row","name","note"] ["state","row"] (zH wM):=by ac_rfl
def wR:zP ["state","row","name","corners","corner"] ["state","row"] (zH uW):=by ac_rfl
def rA:zP ["state","row","name"] ["state","row"] (zH wX):=by ac_rfl
def rY:zP ["state","row","run"] ["state","row"] (zH vA):=by ac_rfl
def vG:zP ["state","row","number","run"] ["state","row"] (zH wQ):=by ac_rfl
def rL:zP ["state","row","fresh"] ["state","row"] (zH uR):=by ac_rfl
def yf:zP ["state","row"] ["state","row"] (zH xX):=by ac_rfl
def wt:zP ["state","row"] ["state","row"] (zH uC):=by ac_rfl
def tZ:zP ["state","row","number"] ["state","row"] (zH wI):=by ac_rfl
def iz:zP ["state","row"] ["state","row"] (zH yp):=by ac_rfl
def qW:zP ["word","figures"] ["word"] (zH vU):=by ac_rfl
def mK:zP ["words"] ["words"] (zH sL):=by ac_rfl
def vK:zP ["words","form","values","at"] ["words","form"] (zH wW):=by ac_rfl
def tR:zP ["row","words","form","values"] ["row"] (zH sJ):=by ac_rfl
def zv:zP ["book","row","at","deed","refusal"] ["book","row","at"] (zH qG):=by ac_rfl
def rZ:zP ["text","rows","book","last","at"] ["text"] (zH va):=by ac_rfl
def wm:zP ["book","moment","places","groups","pair","note","way"] ["book","moment"] (zH wV):=by ac_rfl
def tM:zP ["book","moment","sides","group"] ["book","moment"] (zH uS):=by ac_rfl
def qf:zP ["book","moment"] ["book","moment"] (zH vT):=by ac_rfl
def zZ:zP ["_law_e","_law_so"] ["_law_e"] (zH tG):=by ac_rfl
def ii:zP ["_law_number"] ["_law_number"] (zH yl):=by ac_rfl
def wA:zP ["_law_script","_law_many","_law_rows","_law_mix","_law_cell","_law_rest"] ["_law_script","_law_many"] (zH yx):=by ac_rfl
def fq:zP ["_law_told","_law_due"] ["_law_told","_law_due"] (zH yi):=by ac_rfl
def pi:zP ["_law_which","_law_book","_law_d","_law_k"] ["_law_which","_law_book","_law_d"] (zH yz):=by ac_rfl
def lQ:zP ["_law_which","_law_book","_law_d"] ["_law_which","_law_book","_law_d"] (zH qE):=by ac_rfl
def uP:zP ["_law_which","_law_d","_law_book","_law_deed","_law_e"] ["_law_which","_law_d"] (zH vS):=by ac_rfl
def rQ:zP ["_law_script","_law_some","_law_words","_law_k","_law_which","_law_d","_law_due","_law_made"] ["_law_script"] (zH ke):=by ac_rfl
def gf:zP ["self"] ["self"] (zH ve):=by ac_rfl
def eO:zP ["self","name","x","y"] ["self","name","x","y"] (zH vo):=by ac_rfl
def fX:zP ["self","name","x","y"] ["self","name","x","y"] (zH vw):=by ac_rfl
def lX:zP ["self","name"] ["self","name"] (zH qK):=by ac_rfl
def fR:zP ["self","name","corners"] ["self","name","corners"] (zH vg):=by ac_rfl
def ip:zP ["self","name"] ["self","name"] (zH yj):=by ac_rfl
def gy:zP ["self","x","y"] ["self","x","y"] (zH vn):=by ac_rfl
def iE:zP ["self","number","x","y"] ["self","number","x","y"] (zH yq):=by ac_rfl
def mj:zP ["self","moment","mark","one","other"] ["self","moment","mark","one","other"] (zH sM):=by ac_rfl
def uj:zP ["self","moment","left","right"] ["self","moment","left","right"] (zH uY):=by ac_rfl
def kh:zP ["self","number"] ["self","number"] (zH qI):=by ac_rfl
def ql:zP ["self","row","number","fresh"] ["self","row"] (zH uy):=by ac_rfl
def lE:zP ["self","taken","given","pair"] ["self","taken","given"] (zH uw):=by ac_rfl
def gO:zP ["self"] ["self"] (zH vv):=by ac_rfl
def nW:zP ["self","runs"] ["self"] (zH ux):=by ac_rfl
def ko:zP ["self"] ["self"] (zH qL):=by ac_rfl
def kW:zP ["self","at"] ["self","at"] (zH qB):=by ac_rfl
def wL:b6:=307
def vI:b6:=355
def yA:b6:=475
def uD:b6:=415
def xO:b6:=463
def yI:b6:=427
def xL:b6:=343
def xR:b6:=391
def xM:b6:=367
def zW:b6:=282
def uM:b6:=331
def xH:b6:=439
def xG:b6:=451
def xJ:b6:=403
def yC:b6:=494
def yO:b6:=319
def yS:b6:=295
def xC:b6:=379
def YQ:List b6:=[xC,yS,yO,yC,xJ,xG,xH,uM,xM,xR,xL,yI,xO,uD,yA,vI,wL]
def bkC:b6:=836
def YG:b6:=497
def Yp:List (Key×V):=[(.inr "marks",.int 20),(.inr "banks",.int 8),(.inr "runs",.int 12),(.inr "notes",.int 24)]
def bU:b6:=662
def bp:List (Key×V):=[(.inr "mark",.ref 591),(.inr "move",.ref 598),(.inr "unmark",.ref 605),(.inr "bank",.ref 612),(.inr "level",.ref 619),(.inr "sail",.ref 626),(.inr "right",.ref 633),(.inr "bearing",.ref 647),(.inr "range",.ref 654),(.inr "strike",.ref 661)]
def bJ:b6:=841
def Xb:List (Key×V):=[(.inr "mark",.str "ann"),(.inr "move",.str "ann"),(.inr "unmark",.str "a"),(.inr "level",.str "a"),(.inr "sail",.str "nn"),(.inr "right",.str "nnn"),(.inr "bearing",.str "nannnn"),(.inr "range",.str "naa"),(.inr "strike",.str "n")]
def oi:b6:=683
def lR:b6:=690
def lS:b6:=697
def sw:b6:=704
def kJ:b6:=711
def oB:b6:=718
def kj:b6:=725
def oN:b6:=732
def xw:b6:=739
def sU:b6:=746
def tq:b6:=753
def wZ:b6:=760
def lT:b6:=767
def lY:b6:=781
def lU:b6:=819
def rn:b6:=833
def sB:b6:=491
structure Cb(P:e9)(w:i5)(mg:c7->Option b7)(base:j3):Prop where
 state:InB base λK=>Cls K bkC/\qX K bkC "state"
 past:InB base λK=>Cls K bkC/\qX K bkC "past"
 later:InB base λK=>Cls K bkC/\qX K bkC "later"
 m_mark:InB base λK=>Cls K bkC/\pe K bkC "mark" lR
 m_move:InB base λK=>Cls K bkC/\pe K bkC "move" lS
 m_unmark:InB base λK=>Cls K bkC/\pe K bkC "unmark" sw
 m_bank:InB base λK=>Cls K bkC/\pe K bkC "bank" kJ
 m_level:InB base λK=>Cls K bkC/\pe K bkC "level" oB
 m_sail:InB base λK=>Cls K bkC/\pe K bkC "sail" kj
 m_right:InB base λK=>Cls K bkC/\pe K bkC "right" oN
 m_bearing:InB base λK=>Cls K bkC/\pe K bkC "bearing" xw
 m_range_note:InB base λK=>Cls K bkC/\pe K bkC "range_note" sU
 m_strike:InB base λK=>Cls K bkC/\pe K bkC "strike" tq
 m_deed:InB base λK=>Cls K bkC/\pe K bkC "deed" wZ
 m_step:InB base λK=>Cls K bkC/\pe K bkC "step" lT
 m_redo:InB base λK=>Cls K bkC/\pe K bkC "redo" lY
 m_runs:InB base λK=>Cls K bkC/\pe K bkC "runs" lU
 m_coming:InB base λK=>Cls K bkC/\pe K bkC "coming" rn
 make:InB base λK=>Mk K bkC oi
 gBook:mg "Book" = G0 (.ref bkC)
 dMOST:br P w base YG Yp
 gMOST:mg "MOST" = G0 (.ref YG)
 dAFTER:br P w base bU bp
 gAFTER:mg "AFTER" = G0 (.ref bU)
 dFORMS:br P w base bJ Xb
 gFORMS:mg "FORMS" = G0 (.ref bJ)
 LONGEST_NAME:∃ k,mg "LONGEST_NAME" = G0 (.int 8 k)
 FARTHEST:∃ k,mg "FARTHEST" = G0 (.int 1000 k)
 LONGEST_WAY:∃ k,mg "LONGEST_WAY" = G0 (.int 100 k)
 MOST_FIGURES:∃ k,mg "MOST_FIGURES" = G0 (.int 9 k)
 FIGURES:∃ k,mg "FIGURES" = G0 (.str "0123456789" k)
 t_mark:mg "after_mark" = G0 (.ref 591)
 t_move:mg "after_move" = G0 (.ref 598)
 t_unmark:mg "after_unmark" = G0 (.ref 605)
 t_bank:mg "after_bank" = G0 (.ref 612)
 t_level:mg "after_level" = G0 (.ref 619)
 t_sail:mg "after_sail" = G0 (.ref 626)
 t_right:mg "after_right" = G0 (.ref 633)
 t_bearing:mg "after_bearing" = G0 (.ref 647)
 t_range:mg "after_range" = G0 (.ref 654)
 t_strike:mg "after_strike" = G0 (.ref 661)
 gBadBank:mg "BadBank" = G0 (.ref xC)
 gBadName:mg "BadName" = G0 (.ref yS)
 gBadPlace:mg "BadPlace" = G0 (.ref yO)
 gBadRow:mg "BadRow" = G0 (.ref yC)
 gBadRun:mg "BadRun" = G0 (.ref xJ)
 gBadTurn:mg "BadTurn" = G0 (.ref xG)
 gBadWay:mg "BadWay" = G0 (.ref xH)
 gFull:mg "Full" = G0 (.ref uM)
 gMarkError:mg "MarkError" = G0 (.ref zW)
 gNeeded:mg "Needed" = G0 (.ref xM)
 gNoBank:mg "NoBank" = G0 (.ref xR)
 gNoMark:mg "NoMark" = G0 (.ref xL)
 gNoMoment:mg "NoMoment" = G0 (.ref yI)
 gNoNote:mg "NoNote" = G0 (.ref xO)
 gNoRun:mg "NoRun" = G0 (.ref uD)
 gNothingLeft:mg "NothingLeft" = G0 (.ref yA)
 gSame:mg "Same" = G0 (.ref vI)
 gTaken:mg "Taken" = G0 (.ref wL)
 e_BadBank:j7 "BadBank" xC bmV "ValueError.__new__" mg base
 t_BadBank_MarkError:sF base (.ref xC) zW
 e_BadName:j7 "BadName" yS bmV "ValueError.__new__" mg base
 t_BadName_MarkError:sF base (.ref yS) zW
 e_BadPlace:j7 "BadPlace" yO bmV "ValueError.__new__" mg base
 t_BadPlace_MarkError:sF base (.ref yO) zW
 e_BadRun:j7 "BadRun" xJ bmV "ValueError.__new__" mg base
 t_BadRun_MarkError:sF base (.ref xJ) zW
 e_BadTurn:j7 "BadTurn" xG bmV "ValueError.__new__" mg base
 t_BadTurn_MarkError:sF base (.ref xG) zW
 e_BadWay:j7 "BadWay" xH bmV "ValueError.__new__" mg base
 t_BadWay_MarkError:sF base (.ref xH) zW
 e_Full:j7 "Full" uM bmV "ValueError.__new__" mg base
 t_Full_MarkError:sF base (.ref uM) zW
 e_Needed:j7 "Needed" xM bmV "ValueError.__new__" mg base
 t_Needed_MarkError:sF base (.ref xM) zW
 e_NoBank:j7 "NoBank" xR bmV "ValueError.__new__" mg base
 t_NoBank_MarkError:sF base (.ref xR) zW
 e_NoMark:j7 "NoMark" xL bmV "ValueError.__new__" mg base
 t_NoMark_MarkError:sF base (.ref xL) zW
 e_NoMoment:j7 "NoMoment" yI bmV "ValueError.__new__" mg base
 t_NoMoment_MarkError:sF base (.ref yI) zW
 e_NoNote:j7 "NoNote" xO bmV "ValueError.__new__" mg base
 t_NoNote_MarkError:sF base (.ref xO) zW
 e_NoRun:j7 "NoRun" uD bmV "ValueError.__new__" mg base
 t_NoRun_MarkError:sF base (.ref uD) zW
 e_NothingLeft:j7 "NothingLeft" yA bmV "ValueError.__new__" mg base
 t_NothingLeft_MarkError:sF base (.ref yA) zW
 e_Same:j7 "Same" vI bmV "ValueError.__new__" mg base
 t_Same_MarkError:sF base (.ref vI) zW
 e_Taken:j7 "Taken" wL bmV "ValueError.__new__" mg base
 t_Taken_MarkError:sF base (.ref wL) zW
 t_BadRow_MarkError:sF base (.ref yC) zW
 isx:InB base λK=>Za K YQ=G3
 i_BadRow:InB base λK=>dk K yC sB=G3
 i_at:InB base λK=>exI K yC "at" = G3
 i_xb:InB base λK=>exB K zW=G3/\dk K yC sB=G3
set_option hygiene false in
local macro_rules | `(tactic| fail) => `(tactic| first | (with_reducible first | exact yR | exact zD) | ((with_reducible apply Xr); exact rfl; fail; fail) | (with_reducible first | exact zJ | exact oP | exact pS) | ((with_reducible apply ZK); first | ((with_reducible apply ZE "bool"); exact rH (v := .ty "bool") rfl Z.bool fK rfl) | ((with_reducible apply ZE "dict"); exact rH (v := .ty "dict") rfl Z.dict oK rfl) | ((with_reducible apply ZE "int"); exact rH (v := .ty "int") rfl Z.int en rfl) | ((with_reducible apply ZE "list"); exact rH (v := .ty "list") rfl Z.list fG rfl) | ((with_reducible apply ZE "str"); exact rH (v := .ty "str") rfl Z.str be rfl) | ((with_reducible apply ZE "tuple"); exact rH (v := .ty "tuple") rfl Z.tuple vt rfl) | exact pv 0 | exact pv 1 | exact pv 2 | exact pv 3 | exact pv 4 | exact pv 5 | exact pv 6 | exact pv 7) | ((with_reducible apply m_sub); first | ((with_reducible apply oG aa); fail; fail; fail) | ((with_reducible apply m_ix); exact λ_ _ => rfl; fail; fail)) | ((with_reducible apply m_bin); (with_reducible first | apply wO bc | apply wO Xo | apply wO XC | apply wO dQ | apply wO YH | apply wO XD); fail; fail) | ((with_reducible apply Yw); first | ((with_reducible apply m_own); (with_reducible assumption); exact ⟨rfl, rfl, rfl, rfl, rfl⟩; exact hr.mono (by decide); exact rfl; decide; exact rfl; exact rfl; fail) | ((first | ((with_reducible apply cA cJ XE); exact Z.abs) | ((with_reducible apply cA (tX rfl) pc); exact Z.all) | ((with_reducible apply cA kY zK); exact Z.isinstance) | ((with_reducible apply cA wz qY); exact Z.len) | ((with_reducible apply ZC call_bool1 fK); exact Z.bool) | ((with_reducible apply ZC qm oK); exact Z.dict) | ((with_reducible apply ZC call_int1 en); exact Z.int) | ((with_reducible apply ZC call_list_of fG); exact Z.list) | ((with_reducible apply ZC call_str_any be); exact Z.str) | ((with_reducible apply ZC sX vt); exact Z.tuple)); exact rfl; decide; decide; exact rfl; exact rfl; fail)) | ((with_reducible first | apply yD | apply xT | apply pe_un ZT | apply fY); fail) | ((with_reducible apply m_cmp); (with_reducible first | apply vZ dC | apply vZ du | apply vZ cK | apply vZ dH | apply vZ gK | apply vZ aJ | apply vZ cZ | apply vZ op_notN); fail; fail; exact vP _) | ((with_reducible apply Yz); (with_reducible first | apply yW dC | apply yW du | apply yW cK | apply yW dH | apply yW gK | apply yW aJ | apply yW cZ | apply yW op_notN); fail; fail; exact vP _) | ((with_reducible first | apply aw | apply aL | apply nv); fail) | ((with_reducible first | apply Xk | apply iH); fail; fail) | ((with_reducible first | apply pG | apply jo); fail) | ((with_reducible first | apply ej | apply YI); fail; fail) | ((with_reducible apply vm); fail; fail; fail) | with_reducible exact ka | ((with_reducible apply kU); fail) | ((with_reducible apply m_val); exact λ_ => rfl; fail))
set_option hygiene false in
local macro_rules | `(tactic| specialize $e) => `(tactic| refine F.ok $e (λvs H Q E h => ?_) (λcdv A outer s H vs Q E hr h => ?_))
def mi : (assignEach [.Name x p,.Name y q] e).length=2:=rfl
def lz : (assignEach [.Name x p,.Name y q,.Name z r] e).length=3:=rfl
local macro_rules | `(tactic| nofun) => `(tactic| ((any_goals fail); try dsimp only [L2.cxOf, L2.cxComp, L2.Cx.nox, mi, lz]))
section
variable{P:e9}{w:i5}{mg:c7->Option b7}{base:j3}{f:b6}{fd:w4}
def YU(K:ac):Sp:=λj H Q _=>E8 λ(a b:b6) (g e:List V) (d c i h:Int)=>A10 (j=[.ref a,.ref b]) (Sq K H a g) (Sq K H b e) (atI g 0=G0 (.int d)) (atI g 1=G0 (.int c)) (atI e 0=G0 (.int i)) (atI e 1=G0 (.int h)) (d.natAbs<=10^18) (c.natAbs<=10^18) (Q (.int (d*h-c*i)) H)
def tf(K:ac):Sp:=YU K
def gE(F:Fun K "turn" "turn" uz f fd)(Z:Zs mg)(u:Cb P w mg base)  : yV P w K mg base CX0 1 f fd ["one","other"] (tf K):=by
 specialize ei
 ·obtain⟨a,b,n,l,g,d,e,c,rfl,_⟩:=h;rfl
 obtain⟨a,b,n,l,g,d,e,c,rfl,j,i,p,o,m,w1,t,r,q⟩:=h
 refine'⟨_,(zG (zY ?_)),?_⟩
 nofun
 exact⟨_,U,a,_,_,.int g,U,U,j,p,_,U,b,_,_,.int c,U,U,i,w1,_,_,U,U,cm_l (by lia),
  _,rfl,a,_,_,.int d,rfl,rfl,j,o,_,rfl,b,_,_,.int e,rfl,rfl,i,m,_,_,rfl,rfl,cm_l (by lia),_,_,rfl,rfl,q⟩
def mV(_:ac):Sp:=λ_ _ _ _=>False
def gu(F:Fun K "area" "area" vh f fd)(Z:Zs mg)(a:Cb P w mg base)  : yV P w K mg base CX0 1 f fd ["sides"] (mV K) :=
 F.ok gB (λ_ _ _ _ h=>h.elim) (λ_ _ _ _ _ _ _ _ _ h=>h.elim)
def rD(K:ac):Sp:=λh H Q _=>E6 λ(a b:b6) (g d e c:Int)=>A4 (h=[.ref a,.ref b]) (Sq K H a [.int g,.int d]) (Sq K H b [.int e,.int c]) (∀ p,H p=G2->Q (.ref p) (upd H p (.tup [.int (e-g),.int (c-d)])))
def wj(F:Fun K "stretch_way" "stretch_way" wY f fd)(Z:Zs mg)(m:Cb P w mg base)  : yV P w K mg base CX0 1 f fd ["start","end"] (rD K):=by
 specialize wn
 ·obtain⟨a,b,g,d,e,c,rfl,_⟩:=h;rfl
 obtain⟨a,b,g,d,e,c,rfl,j,i,q⟩:=h
 refine'⟨_,(zG (zY ?_)),?_⟩
 nofun
 exact⟨_,U,b,_,_,.int e,U,U,i,U,_,U,a,_,_,.int g,U,U,j,U,_,_,U,U,
  _,rfl,b,_,_,.int c,rfl,rfl,i,rfl,_,rfl,a,_,_,.int d,rfl,rfl,j,rfl,_,_,rfl,rfl,sz2,λp l=>q p l⟩
def PrQ(K:ac)(H:Hp)(l:b6)(a:List Pr):Prop:=Sq K H l (vN a)/\Zb H (10^8) a
def PrQ.same{K:ac}{H b:Hp}(h:PrQ K H l a)(s:Same H b):PrQ K b l a:=⟨s.sq h.1,h.2.same s⟩
def modI{i n:Nat}{k:Int}(e:k=(i:Int)):k%(n:Int)=((i%n:Nat):Int):=by
 rw[e];exact(Int.natCast_emod i n).symm
def rC(K:ac):Sp:=λc H Q _=>E3 λ(l:b6) (a:List Pr) (i:Nat)=>A5 (c=[.ref l,.int (i:Int)]) (PrQ K H l a) (i<a.length) (a.length<=1000) (∀ b,Same H b->Q (.bl (tK a i)) b)
def wo(F:Fun K "all_left_of" "all_left_of" wT f fd)(Z:Zs mg)(CB:Cb P w mg base)(yBr:Has P w K mg base "turn" 1 ["one","other"] (tf K))(yAn:Has P w K mg base "stretch_way" 1 ["start","end"] (rD K)):yV P w K mg base CX0 2 f fd ["corners","number"] (rC K):=by
 specialize xK
 ·obtain⟨l,a,i,rfl,_⟩:=h;rfl
 obtain⟨l,a,i,rfl,o,hi,hn,q⟩:=h
 refine'⟨_,(zC (yT 2 xK.nd ?_)
   (zC (yT 3 xK.nd ?_)
   (zC (rP A1 rfl (iW rfl Z.range ?_) (lm 4 xK.nd) (zC (yT 5 xK.nd ?_)
   (zG (yJ ?_ (zG (zY oP)) zU))))
   (zG (zY oP))))),?_⟩
 nofun
 obtain⟨b,m0,g0,a0⟩:=uf (ps:=a) (i:=i) (k:=(i:Int)) rfl hi;have D:(i+1)%a.length<a.length:=FX _ (by lia);obtain⟨c,m1,g1,Y⟩:=uf (ps:=a) (i:=(i+1)%a.length) (k:=((i:Int)+1)%(a.length:Int)) (modI (by lia)) D;rw[<- xY a] at Y;obtain⟨T,b00,b01⟩:=o.2 b m0;obtain⟨e1,b10,b11⟩:=o.2 c m1;have nl:((vN a).length:Int)=(a.length:Int):=by rw[xY]
 exists _,U,_,U,l,_,_,_,U,U,o.1,a0;refine⟨_,U,_,U,_,U,_,_,U,U,_,U,l,_,U,o.1,_,_,U,U,(by show(0:Int)<((vN a).length:Int); lia),l,_,_,_,rfl,rfl,o.1,Y,
  b.1,c.1,b.2.1,b.2.2,c.2.1,c.2.2,rfl,.inr (SqT.of T),.inr (SqT.of e1),λd hd=>?_⟩
 have x:Same H (upd H d (.tup [.int (c.2.1-b.2.1),.int (c.2.2-b.2.2)])):=zF hd _;have S:upd H d (.tup [.int (c.2.1-b.2.1),.int (c.2.2-b.2.2)]) d=G0 (.tup [.int (c.2.1-b.2.1),.int (c.2.2-b.2.2)]):=zB;generalize upd H d (.tup [.int (c.2.1-b.2.1),.int (c.2.2-b.2.2)])=H1 at x S ⊢;exists _,U,l,_,U,(x.sq o.1),2,_,U,⟨(by lia),(by lia),(by lia),(by lia)⟩;refine rS (lo:=2) (n:=(((vN a).length:Int)-2).toNat) (λj y H'=>A3 (Same H1 H') (∀ u<j,eK a i ((i+(2+u))%a.length)=G3) (E2 λ(N M:Option V)=>y=[G0 (.ref l),G0 (.int (i:Int)),G0 (.ref b.1),G0 (.ref d),N,M]))
  ⟨Same.refl _,λu v=>y8 v (Nat.not_lt_zero _),G2,G2,rfl⟩ ?_ ?_
 ·rintro j y H' R ⟨p,g,N,M,rfl⟩;have t:=x.trans p;have G:j<a.length-2:=by lia
  have C:(i+(2+j))%a.length<a.length:=FX _ (by lia);obtain⟨m,m2,g2,X⟩:=uf (ps:=a) (i:=(i+(2+j))%a.length) (k:=((i:Int)+(2+(j:Int)))%(a.length:Int)) (modI (by lia)) C;rw[<- xY a] at X;obtain⟨e2,b20,b21⟩:=o.2 m m2;have O:eK a i ((i+(2+j))%a.length)=decide (0<(c.2.1-b.2.1)*(m.2.2-b.2.2)-(c.2.2-b.2.2)*(m.2.1-b.2.1)):=by
   unfold eK;rw[hR g0,hR g1,hR g2];rfl
  exists _,U,_,U,_,U,_,_,U,U,_,U,l,_,U,(t.sq o.1),_,_,U,U,(by show(0:Int)<((vN a).length:Int); lia),l,_,_,_,rfl,rfl,(t.sq o.1),X;erw[_,U,_,U,_,U,b.1,m.1,b.2.1,b.2.2,m.2.1,m.2.2,U,.inr (SqT.of (t _ _ T)),.inr (SqT.of (t _ _ e2)),λd2 I=>?_];have B:=zF I (.tup [.int (m.2.1-b.2.1),.int (m.2.2-b.2.2)]);exists d,d2,_,_,c.2.1-b.2.1,c.2.2-b.2.2,m.2.1-b.2.1,m.2.2-b.2.2,U,.inr (SqT.of (B _ _ (p _ _ S))),.inr (SqT.of zB),U,U,U,U,by lia,by lia,_,_,U,U,_,rfl;erw[ifD (λhle=>?_) (λhgt=>?_)]
  ·have J:tK a i=false:=by
    unfold tK;rw[Da];intro z;have L:=t7.mp z j (BH.mpr G);rw[O] at L;have z3:=of_decide_eq_true L;lia
   have r:=q _ (t.trans B);rw[J] at r;rwa[r]
  ·erw[p.trans B,λu v=>?_,_,_,U];by_cases e:u=j
   ·rw[e,O];rwa[y6 (by lia)]
   ·rwa[g u (by lia)]
 ·rintro y H2 ⟨p,g,_,_,rfl⟩;have J:tK a i=true:=by
   unfold tK;rw[t7];intro j R;exact g j (by have:=BH.mp R; lia)
  have r:=q _ (x.trans p);rw[J] at r;rwa[r]
def ww(K:ac):Sp:=λc H Q _=>E2 λ(l:b6) (a:List Pr)=>A4 (c=[.ref l]) (PrQ K H l a) (a.length<=1000) (∀ b,Same H b->Q (.bl (isB a)) b)
def lH(F:Fun K "is_bank" "is_bank" sP f fd)(Z:Zs mg)(M:Cb P w mg base)(B:Has P w K mg base "all_left_of" 2 ["corners","number"] (rC K)):yV P w K mg base CX0 3 f fd ["corners"] (ww K):=by
 specialize mL
 ·obtain⟨l,a,rfl,_⟩:=h;rfl
 obtain⟨l,a,rfl,t,C,q⟩:=h
 refine'⟨_,(zC (yJ ?_ (zG (zY oP)) zU)
   (zG (zY (zR (tX rfl) rfl Z.all pc (zA (rW (T:=["number"]) (caps:=[("corners",0)]) ⟨rfl,by ac_nf,by ac_nf,rfl,⟨⟨rfl,rfl,Ae rfl⟩,q0⟩⟩ rfl (sC rfl Z.range ?_) (λ_=>(lm 0 (show(["number","corners"]:List c7).Nodup by ac_nf))) (λ_=>sN) (λ_=>?_)) zD))))),?_⟩
 nofun
 have I:((vN a).length:Int)=(a.length:Int):=by rw[xY]
 exists _,U,l,_,U,t.1,_,_,U,U,_,rfl;erw[ifD (λh3=>?_) (λh3=>?_)]
 ·have b:isB a=false:=by unfold isB; rw[y7 (by lia),CO]
  have r:=q _ (Same.refl _);rw[b] at r;rwa[r]
 exists _,U,l,_,U,t.1,_,_,U,U,_,rfl;erw[ifD (λh8=>?_) (λh8=>?_)]
 ·have b:isB a=false:=by unfold isB; rw[y7 (p:=a.length<=8) (by lia),CO,CU]
  have r:=q _ (Same.refl _);rw[b] at r;rwa[r]
 have b:isB a=(Am a.length).all (tK a):=by unfold isB; rw[y6 (by lia),y6 (by lia),Ev,Ev]
 refine⟨_,U,l,_,U,t.1,_,U,(by lia),(by lia),λc D z=>?_⟩;refine tw (lo:=0) (n:=(((vN a).length:Nat):Int).toNat) (λj g m d=>A4 (Same H d) (d D=G0 (.lst m)) (m=((Am j).map (tK a)).map V.bl) (∃ u:Option V,g=[u,G0 (.ref l)]))
  ⟨zF z _,zB,rfl,G2,rfl⟩ (λi g G d _ v=>by obtain⟨_,e,_⟩:=v; rwa[e]) ?_ ?_
 ·rintro j g m d J ⟨o,x,rfl,u,rfl⟩;erw[_,U,_,U,l,a,j,(by rw[Ch]; rfl),t.same o,by lia,C,λL y=>⟨y _ _ x,yH (by rw[c5,c5,E9]; lia),(o.trans y).putNew z,zB,?_,_,rfl⟩];rw[FF,j6,j6];rfl
 ·rintro g m d ⟨o,x,rfl,u,rfl⟩;exists D,_,U,SqL.of x;have r:=q _ o;rw[b] at r;have e:((Am (((vN a).length:Nat):Int).toNat).map (tK a)).all id=(Am a.length).all (tK a):=by
   rw[BD,xY,GJ];rfl
  rw[e];rwa[r]
def rB(K:ac):Sp:=λb H Q _=>b=[]/\∀(d:b6)(a:Hp),Same H a->H d=G2->jy a d BS.nil->Q (.ref d) a
def wr(F:Fun K "nothing_yet" "nothing_yet" uH f fd)(Z:Zs mg)(I:Cb P w mg base)  : yV P w K mg base CX0 1 f fd [] (rB K):=by
 specialize wv
 ·obtain⟨rfl,_⟩:=h;rfl
 obtain⟨rfl,q⟩:=h
 refine'⟨_,zG ?h,?_⟩
 rotate_left
 with_reducible refine' zY ?_
 rotate_left
 with_reducible exact Zq (xy zJ vb (xy zJ vb (xy zJ vb (xy zJ vb (xy zJ yR ao))))) rfl rfl (λz=>nomatch z) (by decide)
 try dsimp only[L2.cxOf]
 intro p j m t b u r hr n l;have v:=zF j (.dK []);have i:=zF t (.dK []);have g:=zF u (.dK []);have d:=zF hr (.dK []);have a:=zF l (.dK []);have em:=(g.trans (d.trans a)) _ _ zB;have G:=(d.trans a) _ _ zB;have C:=a _ _ zB;have D:=(i.trans (g.trans (d.trans a))) _ _ zB;exists D,[(.inr "marks",.ref m),(.inr "banks",.ref b),(.inr "runs",.ref r),(.inr "notes",.ref n),(.inr "coming",.int 1)],U,(show 5<=15 by decide);rw[dG];have ne:∀{x:b6},(upd H p (.dK [])) x=G2->x≠p:=λ{x} h z=>by rw[z,zB] at h; cases h
 have nb:=ne (i.free u);have y:=ne (i.free (g.free hr));have B:=ne (i.free (g.free (d.free l)));erw[q p _ (λc o e=>?_) j ⟨m,b,r,n,.inl zB,.nil ?_,.nil ?_,.nil ?_,.nil ?_⟩]
 ·rw[zL (zM e j)];exact(v.trans (i.trans (g.trans (d.trans a)))) c o e
 ·rw[zL (ne t)]; rwa[em]
 ·rw[zL nb]; rwa[G]
 ·rw[zL y]; rwa[C]
 ·rw[zL B]; rwa[zB]
def xW(K:ac):Sp:=λi H Q _=>E7 λ(d a:b6) (kind:c7) (e:Key) (v:V) (b h:List (Key×V))=>A7 (i=[.ref d,.str kind,kV e,v]) (Rd H d (.dK b)) (vB b (.inr kind)=G0 (.ref a)) (Rd H a (.dK h)) (b.length<=100) (h.length<=100) (∀(f c:b6)(g:Hp),Same H g->H f=G2->f≠c->g f=G0 (.dK (yt b (.inr kind) (.ref c)))->g c=G0 (.dK (yt h e v))->Q (.ref f) g)
def me(F:Fun K "changed" "changed" sI f fd)(Z:Zs mg)(I:Cb P w mg base)  : yV P w K mg base CX0 1 f fd ["state","kind","key","value"] (xW K):=by
 specialize xg
 ·obtain⟨d,a,kind,m,v,g,j,rfl,_⟩:=h;rfl
 obtain⟨d,a,kind,m,v,g,j,rfl,hd,z,y,G,D,q⟩:=h
 refine'⟨_,(zC (yT 4 xg.nd ?_)
   (zC (oJ (wC hr) (pv 4) (pv 1) (tW qm rfl Z.dict oK (zA (yQ (wC hr) (pv 0) (pv 1) (λ_ _=>rfl)) zD)) rfl)
   (zC (oJ (wC hr) (yQ (wC hr) (pv 4) (pv 1) (λ_ _=>rfl)) (pv 2) (pv 3) rfl)
   (zG (zY (pv 4)))))),?_⟩
 nofun
 erw[_,U,d,g,U,hd,λp n=>?_];have l:=zF n (.dK g);have r:Rd (upd H p (.dK g)) d (.dK g):=hd.imp (l _ _) λ⟨o,e⟩=>⟨o,l _ _ e⟩;have u:Rd (upd H p (.dK g)) a (.dK j):=y.imp (l _ _) λ⟨o,e⟩=>⟨o,l _ _ e⟩;erw[_,U,_,U,d,.ref a,U,.inl ⟨g,.inr kind,r,U,z.symm⟩,a,j,U,u,λc t=>?_];have i:p≠c:=zM zB t;have x:=zF t (.dK j);have C:upd (upd H p (.dK g)) c (.dK j) p=G0 (.dK g):=x _ _ zB;exists _,U,_,U,p,_,U,bQ.k (k:=.inr kind) C (yH (by lia));have B:upd (upd (upd H p (.dK g)) c (.dK j)) p (.dK (yt g (.inr kind) (.ref c))) c=G0 (.dK j):=by rw[zL i.symm,zB]
 erw[_,U,_,U,_,U,p,.ref c,U,.inl ⟨_,.inr kind,.inl zB,U,?_⟩,_,U,c,_,U,bQ.k B (yH (by lia)),_,U,?_]
 ·rw[jm,y4 rfl]
 erw[q p c _ (λb o e=>?_) n i ?_ zB]
 ·have n1:=zM e n;have n2:=zM (l _ _ e) t;rw[zL n2,zL n1,zL n2,zL n1];rwa[e]
 ·rw[zL i,zB]
def tT(K:ac):Sp:=λi H Q _=>E7 λ(d a:b6) (kind:c7) (e:Key) (v:V) (b h:List (Key×V))=>A7 (i=[.ref d,.str kind,kV e]) (Rd H d (.dK b)) (vB b (.inr kind)=G0 (.ref a)) (Rd H a (.dK h)) (vB h e=G0 v) (b.length<=100) (∀(f c:b6)(g:Hp),Same H g->H f=G2->f≠c->g f=G0 (.dK (yt b (.inr kind) (.ref c)))->g c=G0 (.dK (oO h e))->Q (.ref f) g)
def mw(F:Fun K "without" "without" sG f fd)(Z:Zs mg)(I:Cb P w mg base)  : yV P w K mg base CX0 1 f fd ["state","kind","key"] (tT K):=by
 specialize xf
 ·obtain⟨d,a,kind,m,v,g,i,rfl,_⟩:=h;rfl
 obtain⟨d,a,kind,m,v,g,i,rfl,hd,C,z,B,G,q⟩:=h
 refine'⟨_,(zC (yT 3 xf.nd ?_)
   (zC (oJ (wC hr) (pv 3) (pv 1) (tW qm rfl Z.dict oK (zA (yQ (wC hr) (pv 0) (pv 1) (λ_ _=>rfl)) zD)) rfl)
   (zC (zQ (cF (yQ (wC hr) (pv 3) (pv 1) (λ_ _=>rfl)) (pv 2) ⟨rfl,rfl,rfl,rfl⟩))
   (zG (zY (pv 3)))))),?_⟩
 nofun
 erw[_,U,d,g,U,hd,λp n=>?_];have l:=zF n (.dK g);have r:Rd (upd H p (.dK g)) d (.dK g):=hd.imp (l _ _) λ⟨o,e⟩=>⟨o,l _ _ e⟩;have u:Rd (upd H p (.dK g)) a (.dK i):=z.imp (l _ _) λ⟨o,e⟩=>⟨o,l _ _ e⟩;erw[_,U,_,U,d,.ref a,U,.inl ⟨g,.inr kind,r,U,C.symm⟩,a,i,U,u,λc t=>?_];have j:p≠c:=zM zB t;have y:=zF t (.dK i);have D:upd (upd H p (.dK g)) c (.dK i) p=G0 (.dK g):=y _ _ zB;exists _,U,_,U,p,_,U,bQ.k (k:=.inr kind) D (yH (by lia));have x:upd (upd (upd H p (.dK g)) c (.dK i)) p (.dK (yt g (.inr kind) (.ref c))) c=G0 (.dK i):=by rw[zL j.symm,zB]
 erw[_,U,_,U,p,.ref c,U,.inl ⟨_,.inr kind,.inl zB,U,?_⟩,c,U,.inl ⟨i,.inl x⟩,_,U,i,m,v,x,U,B,_,U,?_]
 ·rw[jm,y4 rfl]
 erw[q p c _ (λb o e=>?_) n j ?_ zB]
 ·have n1:=zM e n;have n2:=zM (l _ _ e) t;rw[zL n2,zL n1,zL n2,zL n1];rwa[e]
 ·rw[zL j,zB]
def xa(ns:List Int)(m:Int):Bool:=ns.all λn=>decide (-m<=n)&&decide (n<=m)
def sO(K:ac):Sp:=λc H Q _=>E3 λ(a:b6) (ns:List Int) (m:Int)=>A4 (c=[.ref a,.int m]) (H a=G0 (.tup (ns.map V.int))) (ns.length<=100) (∀ b,Same H b->Q (.bl (xa ns m)) b)
def kC(F:Fun K "within" "within" qC f fd)(Z:Zs mg)(G:Cb P w mg base)  : yV P w K mg base CX0 1 f fd ["numbers","most"] (sO K):=by
 specialize kB
 ·obtain⟨a,ns,m,rfl,_⟩:=h;rfl
 obtain⟨a,ns,m,rfl,y,C,q⟩:=h
 refine'⟨_,(zG (zY (zR (tX rfl) rfl Z.all pc (zA (rW (T:=["number"]) (caps:=[("most",1)]) ⟨rfl,by ac_nf,by ac_nf,rfl,⟨⟨rfl,rfl,Ae rfl⟩,q0⟩⟩ rfl (lh (pv 0)) (λ_=>(lm 0 (show(["number","most"]:List c7).Nodup by ac_nf))) (λ_=>sN) (λ_=>(jH dH dH ?_ (pv 0) (pv 1)))) zD)))),?_⟩
 nofun
 refine⟨_,U,a,U,.inr ⟨⟨_,SqT.of y⟩,λc D v=>?_⟩⟩;refine gM (K:=K) (a:=a) (xs:=ns.map V.int) (λi o g l=>A4 (Same H l) (l D=G0 (.lst g)) (g=((ns.take i).map λn=>decide (-m<=n)&&decide (n<=m)).map V.bl) (∃ t:Option V,o=[t,G0 (.int m)]))
  ⟨zF v _,zB,rfl,G2,rfl⟩ (λi o g l _ u=>by obtain⟨d,e,_⟩:=u; rwa[SqT.of (d _ _ y),e]) ?_ ?_
 ·rintro i x o g l hi ⟨d,p,rfl,t,rfl⟩;obtain⟨n,z,rfl⟩:=xn hi;have B:=(f8.mp z).1;have len:(((ns.take i).map λn=>decide (-m<=n)&&decide (n<=m)).map V.bl).length<sizeLine:=yH (by rw[c5,c5,Az]; lia);have j:∀ b:Bool,b=(decide (-m<=n)&&decide (n<=m))->((ns.take i).map λn=>decide (-m<=n)&&decide (n<=m)).map V.bl++[V.bl b]=((ns.take (i+1)).map λn=>decide (-m<=n)&&decide (n<=m)).map V.bl:=λb e=>by
   rw[AV,z,e,j6,j6];rfl
  exists _,U,_,U,_,U,_,_,U,U,_,rfl;erw[ite2 (λh1=>?_) (λh1=>?_)]
  ·rwa[_,U,_,_,U,U,p,len,d.putNew v,zB,j _ (by rw[h1,Ev]),_,U]
  ·rwa[p,len,d.putNew v,zB,j _ (by rw[eq_false_of_ne_true h1,CO]),_,U]
 ·rintro o g l ⟨d,p,rfl,t,rfl⟩;exists D,_,U,SqL.of p;have r:=q _ d;rw[c5,AR,GJ];rwa[r]
def axC:Cl->b6
 | .badName=>yS
 | .taken=>wL
 | .badPlace=>yO
 | .full=>uM
 | .noMark=>xL
 | .same=>vI
 | .needed=>xM
 | .badBank=>xC
 | .noBank=>xR
 | .badRun=>xJ
 | .noRun=>uD
 | .noMoment=>yI
 | .badWay=>xH
 | .badTurn=>xG
 | .noNote=>xO
def tJ(_:ac):Sp:=λa H Q E=>∃ x:c7,A3 (a=[.str x]) (mJ x) (jA (uG x) Q E yS H)
def bn(a c:Nat):(!decide ((⟨#[c]⟩:c7).cps.toList<(⟨#[a]⟩:c7).cps.toList))=decide (a<=c):=by
 have e:([c]<[a])↔c<a:=by
  rw[List.cons_lt_cons_iff];simp
 show(!decide ([c]<[a]))=_;by_cases h:c<a
 ·rw[y6 (e.mpr h),y7 (by lia)];rfl
 ·rw[y7 (λz=>h (e.mp z)),y6 (by lia)];rfl
def sj(F:Fun K "check_name" "check_name" uU f fd)(Z:Zs mg)(CB:Cb P w mg base)  : yV P w K mg base (CX1 P w) 1 f fd ["name"] (tJ K):=by
 erw[F.okX qu (λvs H Q E h=>?_) (λcdv A outer s H vs Q E hr h=>?_)]
 ·obtain⟨x,rfl,_⟩:=h;rfl
 obtain⟨x,rfl,l,q⟩:=h;exists _,(zG (yJ (PW.pt (iH (yW cK (zR vC rfl Z.len qY (zA (pv 0) zD)) yR (vP _)) (iH (yW gK (zR vC rfl Z.len qY (zA (pv 0) zD)) (nG CB.LONGEST_NAME) (vP _)) (nv (pG (qP (zR (tX rfl) rfl Z.all pc (zA (rW (T:=["letter"]) (caps:=[]) ⟨rfl,by ac_nf,by ac_nf,rfl,q0⟩ rfl (bI (pv 0)) (λ_=>(zx (i:=0) (show(["letter"]:List c7).Nodup by ac_nf) rfl (Ae rfl))) (λ_=>sN) (λ_=>(jH mZ mZ zJ (pv 0) zJ))) zD)))))))) (zG (yX (λ_=>E) CB.e_BadName c0 (by decide) c0 yY (zA (wE (kN (pv 0) (wD vO))) zD))) zU))
 try dsimp only[L2.cxOf,L2.cxComp,L2.Cx.nox,mi,lz]
 have S:x.length<=sizeLine:=g9 l.2 (by decide);have go:∀ a,Same H a->¬ uG x->gR (Xm (eV 0) ez) [G0 (.str x)] a (λv H1=>1<=sizeLine/\E (.ref yS) G2 H1):=λa s' z=>⟨_,rfl,⟨x,rfl,l.big,g9 l.2 (by decide)⟩,λy _=>⟨by show 1<=sizeLine; decide,q.no z s'⟩⟩;exists _,U,x,U,S,_,_,U,U,_,rfl;refine ifD (λz=>qN (go H (Same.refl _) λo=>y8 o.1 (by lia))) (λz1=>?_);exists _,U,x,U,S,_,_,U,U,_,rfl;refine ifD (λz=>qN (go H (Same.refl _) λo=>y8 o.2.1 (by lia))) (λz2=>?_);have asc:x.cps.all (· < 128)=true:=by
  rw[Array.all_eq_true'];intro c hm;rwa[y6 (l.1 c (D7.mpr hm))]
 refine⟨_,U,x,U,asc,λc D X=>?_⟩;refine kR (xs:=mO x) (λi p d a=>A5 (Same H a) (a D=G0 (.lst d)) (∃ bs:List Bool,A3 (d=bs.map V.bl) (bs.length=i) (bs.all id=G3↔∀ c∈x.cps.toList.take i,97<=c/\c<=122)) (i<=x.length) (∃ t:Option V,p=[t]))
  ⟨zF X _,zB,⟨[],rfl,rfl,by simp⟩,j8 _,G2,rfl⟩ (λi p d a u=>by obtain⟨_,e,_⟩:=u; rwa[q0,e]) ?_ ?_
 ·rintro i v p d a hi ⟨r,N,⟨bs,rfl,R,m⟩,hi8,t,rfl⟩;unfold mO at hi;rw[i3,j5] at hi;obtain⟨n,Y,rfl⟩:=hi;have B:i<x.length:=by
   have:=(f8.mp Y).1;rw[Ag] at this;rwa[this]
  have j:∀ b:Bool,(b=G3↔97<=n/\n<=122)->a D=G0 (.lst (bs.map V.bl))/\(bs.map V.bl).length<sizeLine/\Same H (upd a D (.lst (bs.map V.bl++[.bl b])))/\upd a D (.lst (bs.map V.bl++[.bl b])) D=G0 (.lst (bs.map V.bl++[.bl b]))/\(∃ O:List Bool,A3 (bs.map V.bl++[.bl b]=O.map V.bl) (O.length=i+1) (O.all id=G3↔∀ c∈x.cps.toList.take (i+1),97<=c/\c<=122))/\i+1<=x.length:=λb g=>by
   refine⟨N,yH (by rw[c5]; have:=l.2; lia),r.putNew X,zB,⟨bs++[b],by rw[j6]; rfl,by rw[d5,R]; rfl,?_⟩,B⟩;rw[List.all_append,i8,m,AV,Y];simp only[Ew,Fa,Ex,id,g,w6,Option.toList,f7];constructor
   ·rintro⟨h1,h2⟩ c (h | rfl)
    ·rwa[h1 c h]
    ·rwa[h2]
   ·rwa[λh=>⟨λc hc=>h c (.inl hc),h n (.inr rfl)⟩]
  exists _,U,_,_,U,U,_,rfl;rw[show(!decide (((⟨#[n]⟩:c7).cps.toList)<(("a" : c7).cps.toList)))=decide (97<=n) from bn 97 n];erw[ifD (λh1=>?_) (λh1=>?_)]
  ·exists _,_,U,rfl;rw[show(!decide ((("z" : c7).cps.toList)<((⟨#[n]⟩:c7).cps.toList)))=decide (n<=122) from bn n 122];obtain⟨M,L,J,I,G,C⟩:=j (decide (n<=122)) (by simp[h1]);rwa[M,L,J,I,G,C,_,U]
  ·obtain⟨M,L,J,I,G,C⟩:=j G4 (by simp[h1]);rwa[M,L,J,I,G,C,_,U]
 ·rintro p d a ⟨r,N,⟨bs,rfl,R,m⟩,_,t,rfl⟩;have lc:(mO x).length=x.cps.toList.length:=c5 _;rw[lc,AR] at m;exists D,bs,U,SqL.of N,_,rfl;cases g:bs.all id with
  | true=>rwa[rG (q.yes ⟨by lia,by lia,m.mp g⟩ r)]
  | false=>exact qN (go a r λo=>by rw[m.mpr o.2.2] at g; cases g)
def tF(K:ac):Sp:=λe H Q E=>E6 λ(d a:b6) (kind:c7) (n:c7) (b c:List (Key×V))=>A7 (e=[.ref d,.str kind,.str n]) (Rd H d (.dK b)) (vB b (.inr kind)=G0 (.ref a)) (Rd H a (.dK c)) (kind.length<=1000) (n.length<=1000) (jA (vB c (.inr n)=G2) Q E wL H)
def tz(F:Fun K "check_free" "check_free" uV f fd)(Z:Zs mg)(r:Cb P w mg base)  : yV P w K mg base (CX1 P w) 1 f fd ["state","kind","name"] (tF K):=by
 erw[F.okX ua (λi H Q E h=>?_) (λp A outer s H i Q E g h=>?_)]
 ·obtain⟨d,a,kind,n,b,c,rfl,_⟩:=h;rfl
 obtain⟨d,a,kind,n,b,c,rfl,hd,o,m,l,j,q⟩:=h;exists _,(zG (yJ (ni (Yy (wC g) (pv 2) (yQ (wC g) (pv 0) (pv 1) (λ_ _=>rfl))) (by with_unfolding_all rfl)) (zG (yX (λ_=>E) r.e_Taken c0 (by decide) c0 yY (zA (wE (wD (qQ (pv 1) (wD (qQ (pv 2) (wD vO)))))) zD))) zU))
 try dsimp only[L2.cxOf,L2.cxComp,L2.Cx.nox,mi,lz]
 exists _,U,_,U,_,U,d,.ref a,U,.inl ⟨b,.inr kind,hd,U,o.symm⟩,a,_,U,.inl ⟨c,.inr n,m,U,U⟩,_,rfl;cases e:vB c (.inr n) with
 | none=>rwa[rG (q.yes e (Same.refl _))]
 | some v=>exact qN ⟨_,rfl,.inr ⟨kind,rfl,l⟩,_,rfl,.inr ⟨n,rfl,j⟩,λx _=>⟨by show 1<=sizeLine; decide,q.no (by rw[e]; exact λz=>nomatch z) (Same.refl _)⟩⟩
def wJ(K:ac):Sp:=λb H Q E=>E3 λ(a:b6) (x y:Int)=>A5 (b=[.ref a]) (H a=G0 (.tup [.int x,.int y])) (uI x) (uI y) (jA (rT (x,y)) Q E yO H)
def vq{x y:Int} : xa [x,y] 1000=G3↔rT (x,y):=by
 simp only[xa,rT,Ew,Fa,Ex,i8,decide_eq_true_eq,and_assoc]
def vx(F:Fun K "check_place" "check_place" uB f fd)(Z:Zs mg)(l:Cb P w mg base)(b:Has P w K mg base "within" 1 ["numbers","most"] (sO K)):yV P w K mg base (CX1 P w) 2 f fd ["place"] (wJ K):=by
 erw[F.okX vz (λm H Q E h=>?_) (λn A outer s H m Q E i h=>?_)]
 ·obtain⟨a,x,y,rfl,_⟩:=h;rfl
 obtain⟨a,x,y,rfl,j,d,c,q⟩:=h;exists _,(zG (yJ (pG (qP (uQ b (i.mono (by decide)) rfl (zA (pv 0) (zA (nG l.FARTHEST) zD))))) (zG (yX (λ_=>E) l.e_BadPlace c0 (by decide) c0 yY (zA (wE (lF i.gd i.units (pv 0) (wD vO))) zD))) zU))
 try dsimp only[L2.cxOf,L2.cxComp,L2.Cx.nox,mi,lz]
 refine⟨_,U,a,[x,y],1000,U,j,(by show 2<=100; decide),λo g=>⟨_,rfl,?_⟩⟩;cases e:xa [x,y] 1000 with
 | true=>rwa[rG (q.yes (vq.mp e) g)]
 | false=>exact qN ⟨_,rfl,⟨ptD (x,y),vQ (g _ _ j),(tE d c).1,(tE d c).2.1,(tE d c).2.2⟩,λz _=>⟨by show 1<=sizeLine; decide,q.no (λz=>by rw[vq.mpr z] at e; cases e) g⟩⟩
def tU(K:ac):Sp:=λb H Q E=>E3 λ(a:b6) (x y:Int)=>A5 (b=[.ref a]) (H a=G0 (.tup [.int x,.int y])) (uI x) (uI y) (jA (rT (x,y)) Q E xJ H)
def qe(F:Fun K "check_run" "check_run" vR f fd)(Z:Zs mg)(l:Cb P w mg base)(b:Has P w K mg base "within" 1 ["numbers","most"] (sO K)):yV P w K mg base (CX1 P w) 2 f fd ["run"] (tU K):=by
 erw[F.okX qa (λm H Q E h=>?_) (λn A outer s H m Q E i h=>?_)]
 ·obtain⟨a,x,y,rfl,_⟩:=h;rfl
 obtain⟨a,x,y,rfl,j,d,c,q⟩:=h;exists _,(zG (yJ (pG (qP (uQ b (i.mono (by decide)) rfl (zA (pv 0) (zA (nG l.FARTHEST) zD))))) (zG (yX (λ_=>E) l.e_BadRun c0 (by decide) c0 yY (zA (wE (lF i.gd i.units (pv 0) (wD vO))) zD))) zU))
 try dsimp only[L2.cxOf,L2.cxComp,L2.Cx.nox,mi,lz]
 refine⟨_,U,a,[x,y],1000,U,j,(by show 2<=100; decide),λo g=>⟨_,rfl,?_⟩⟩;cases e:xa [x,y] 1000 with
 | true=>rwa[rG (q.yes (vq.mp e) g)]
 | false=>exact qN ⟨_,rfl,⟨ptD (x,y),vQ (g _ _ j),(tE d c).1,(tE d c).2.1,(tE d c).2.2⟩,λz _=>⟨by show 1<=sizeLine; decide,q.no (λz=>by rw[vq.mpr z] at e; cases e) g⟩⟩
def xP(K:ac):Sp:=λg H Q E=>E6 λ(d a:b6) (kind:c7) (b e:List (Key×V)) (c:Int)=>A7 (g=[.ref d,.str kind]) (Rd H d (.dK b)) (vB b (.inr kind)=G0 (.ref a)) (Rd H a (.dK e)) (vB Yp (.inr kind)=G0 (.int c)) (kind.length<=1000) (jA ((e.length:Int)<c) Q E uM H)
def ub(F:Fun K "check_room" "check_room" uO f fd)(Z:Zs mg)(c:Cb P w mg base)  : yV P w K mg base (CX1 P w) 1 f fd ["state","kind"] (xP K):=by
 erw[F.okX ro (λi H Q E h=>?_) (λo A outer s H i Q E l h=>?_)]
 ·obtain⟨d,a,kind,b,g,e,rfl,_⟩:=h;rfl
 obtain⟨d,a,kind,b,g,e,rfl,hd,n,m,em,j,q⟩:=h;exists _,(zG (yJ (yW aJ (zR yc rfl Z.len qY (zA (yQ (wC l) (pv 0) (pv 1) (λ_ _=>rfl)) zD)) (cP c.dMOST c.gMOST (pv 1)) (vP _)) (zG (yX (λ_=>E) c.e_Full c0 (by decide) c0 yY (zA (wE (wD (qQ (pv 1) (wD vO)))) zD))) zU))
 try dsimp only[L2.cxOf,L2.cxComp,L2.Cx.nox,mi,lz]
 exists _,U,_,U,d,.ref a,U,.inl ⟨b,.inr kind,hd,U,n.symm⟩,a,g,U,m,_,U,.inr kind,.int e,U,em,_,_,U,U,_,rfl;exact ifD (λz=>⟨_,rfl,.inr ⟨kind,rfl,j⟩,λx _=>⟨by show 1<=sizeLine; decide,q.no (by lia) (Same.refl _)⟩⟩) (λz=>q.yes (by lia) (Same.refl _))
def xU(K:ac):Sp:=λa H Q E=>E7 λ(d m b r n:b6) (S:BS) (x:c7)=>A4 (a=[.ref d,.str x]) (StA H d m b r n S) (mJ x) (jA ((zS S x).isSome=G3) Q E xL H)
def qk(F:Fun K "check_mark" "check_mark" uZ f fd)(Z:Zs mg)(p:Cb P w mg base)  : yV P w K mg base (CX1 P w) 1 f fd ["state","name"] (xU K):=by
 erw[F.okX re (λi H Q E h=>?_) (λo A outer s H i Q E c h=>?_)]
 ·obtain⟨d,m,b,r,n,S,x,rfl,_⟩:=h;rfl
 obtain⟨d,m,b,r,n,S,x,rfl,st,g,q⟩:=h;obtain⟨a,l,j⟩:=st.ma;exists _,(zG (yJ (ni (yh (wC c) (pv 1) (yQ (wC c) (pv 0) zJ (λ_ _=>rfl))) (by with_unfolding_all rfl)) (zG (yX (λ_=>E) p.e_NoMark c0 (by decide) c0 yY (zA (wE (wD (kN (pv 1) vO))) zD))) zU))
 try dsimp only[L2.cxOf,L2.cxComp,L2.Cx.nox,mi,lz]
 exists _,U,_,U,d,.ref m,U,.inl ⟨_,.inr "marks",st.at_,U,tP.symm⟩,m,_,U,.inl ⟨a,.inr x,l,U,U⟩,_,rfl;rw[j.isSome,uk,A9];cases e:(zS S x).isSome with
 | true=>rwa[rG (q.yes e (Same.refl _))]
 | false=>exact qN ⟨_,rfl,⟨x,rfl,g.big,g9 g.2 (by decide)⟩,λy _=>⟨by show 1<=sizeLine; decide,q.no (by rw[e]; rwa[g7]) (Same.refl _)⟩⟩
def offM(n:Nat)(m:Int):Prop:=(m<0\/(n:Int)<m)/\m.natAbs.log2<1920
def wB(K:ac):Sp:=λd H Q E=>E3 λ(a:b6) (m:Int) (n:Nat)=>A3 (d=[.int m,.ref a]) ((∃ c,SqL K H a c/\c.length=n)\/∃ b,Rd H a (.dK b)/\b.length=n) ((A3 (0<=m) (m<=n) (Q .non H))\/(offM n m/\E (.ref yI) G2 H))
def xj(F:Fun K "check_moment" "check_moment" wN f fd)(Z:Zs mg)(r:Cb P w mg base)  : yV P w K mg base (CX1 P w) 1 f fd ["moment","runs"] (wB K):=by
 erw[F.okX xm (λe H Q E h=>?_) (λl A outer s H e Q E hr h=>?_)]
 ·obtain⟨a,m,n,rfl,_⟩:=h;rfl
 obtain⟨a,m,n,rfl,j,q⟩:=h
 refine'⟨_,(zG (yJ (PW.pt (iH ?_ (nv (yW gK (pv 0) (zR (sV.or wz yc) rfl Z.len qY (zA (pv 1) zD)) (vP _))))) (zG (yX (λ_=>E) r.e_NoMoment c0 (by decide) c0 yY (zA (wE (wD (qQ (pv 0) vO))) zD))) zU)),?_⟩
 nofun
 exists _,U,_,_,U,U,_,rfl;have go:¬ (0<=m/\m<=n)->gR (Zi (eV 0) ez) [G0 (.int m),G0 (.ref a)] H (λv p=>1<=sizeLine/\E (.ref yI) G2 p):=λz=>by
  rcases q with ⟨h0,i,_⟩ | ⟨⟨_,g⟩,q⟩
  ·rwa[y8 ⟨h0,i⟩ z]
  ·rwa[_,U,.inl ⟨m,U,g⟩,λx _=>⟨by decide,q⟩]
 erw[ifD (λz=>?_) (λz=>?_)]
 ·erw[qN ?_];rwa[go (λy=>y8 y.1 (by lia))]
 exists _,U,_,rfl;rcases j with ⟨d,c,rfl⟩ | ⟨b,c,rfl⟩
 ·erw[.inl ⟨a,d,rfl,.inl c,_,_,rfl,rfl,_,rfl,?_⟩];erw[ifD (λy=>go (λy=>y8 y.2 (by lia))) (λy=>?_)];rcases q with ⟨_,_,q⟩ | ⟨⟨o,_⟩,_⟩
  ·rwa[q]
  ·rwa[y8 o (by lia)]
 ·erw[.inr ⟨a,b,rfl,c,_,_,rfl,rfl,_,rfl,?_⟩];erw[ifD (λy=>go (λy=>y8 y.2 (by lia))) (λy=>?_)];rcases q with ⟨_,_,q⟩ | ⟨⟨o,_⟩,_⟩
  ·rwa[q]
  ·rwa[y8 o (by lia)]
def qV(K:ac):Sp:=λb H Q E=>E3 λ(a:b6) (x y:Int)=>A5 (b=[.ref a]) (H a=G0 (.tup [.int x,.int y])) (uI x) (uI y) (jA (wk (x,y)) Q E xH H)
def fA{x y:Int} : xa [x,y] 100=G3↔(-100<=x/\x<=100/\-100<=y/\y<=100):=by
 simp only[xa,Ew,Fa,Ex,i8,decide_eq_true_eq,and_assoc]
def qh(F:Fun K "check_way" "check_way" vV f fd)(Z:Zs mg)(r:Cb P w mg base)(g:Has P w K mg base "within" 1 ["numbers","most"] (sO K)):yV P w K mg base (CX1 P w) 2 f fd ["direction"] (qV K):=by
 erw[F.okX qi (λt H Q E h=>?_) (λB A outer s H t Q E hr h=>?_)]
 ·obtain⟨a,x,y,rfl,_⟩:=h;rfl
 obtain⟨a,x,y,rfl,n,j,i,q⟩:=h
 refine'⟨_,(zG (yJ (PW.pt (iH (yW (bg hr.units0) (pv 0) ?_ (vP _)) (nv (pG (qP (uQ g (hr.mono (by decide)) rfl (zA (pv 0) (zA (nG r.LONGEST_WAY) zD)))))))) (zG (yX (λ_=>E) r.e_BadWay c0 (by decide) c0 yY (zA (wE (lF hr.gd hr.units (pv 0) (wD vO))) zD))) zU)),?_⟩
 nofun
 erw[_,U,sz2,λp u=>?_];have l:=zF u (.tup [.int 0,.int 0]);have b:=l _ _ n;have go:∀ d,Same H d->¬ wk (x,y)->gR (Xh (eV 0) ez) [G0 (.ref a)] d (λv C=>1<=sizeLine/\E (.ref xH) G2 C):=λd c z=>⟨_,rfl,⟨ptD (x,y),vQ (c _ _ n),(tE j i).1,(tE j i).2.1,(tE j i).2.2⟩,λy _=>⟨by show 1<=sizeLine; decide,q.no z c⟩⟩;exists a,p,[x,y],[0,0],U,U,SqT.of b,SqT.of zB,_,rfl;refine ifD (λz=>qN (go _ l λo=>o.1 (show(x,y)=(0,0) by simp at z; rw[z.1,z.2]))) (λz=>?_);refine⟨_,U,a,[x,y],100,U,b,(by show 2<=100; decide),λd c=>⟨_,rfl,?_⟩⟩;have m:=l.trans c;cases e:xa [x,y] 100 with
 | true=>exact rG (q.yes ⟨λy=>z (by injection y with y1 y2; rw[y1,y2]),fA.mp e⟩ m)
 | false=>exact qN (go _ m λo=>by rw[fA.mpr o.2] at e; cases e)
def vL(K:ac):Sp:=λa H Q E=>E10 λ(d m b r n:b6) (S:BS) (x y:c7) (p u:Int×Int)=>A7 (a=[.ref d,.str x,.str y]) (StA H d m b r n S) (zS S x=G0 p) (zS S y=G0 u) (x.length<=1000) (y.length<=1000) (jA (p≠u) Q E vI H)
def we(F:Fun K "check_apart" "check_apart" uA f fd)(Z:Zs mg)(J:Cb P w mg base)  : yV P w K mg base (CX1 P w) 1 f fd ["state","left","right"] (vL K):=by
 erw[F.okX wu (λj H Q E h=>?_) (λD A outer s H j Q E c h=>?_)]
 ·obtain⟨d,m,b,r,n,S,x,y,p,u,rfl,_⟩:=h;rfl
 obtain⟨d,m,b,r,n,S,x,y,p,u,rfl,st,ex,ey,v,t,q⟩:=h;obtain⟨a,i,g⟩:=st.ma;obtain⟨M,C,o⟩:=g.get (k:=.inr x) (d:=ptD p) (by rw[uk,ex]; rfl);obtain⟨L,B,l⟩:=g.get (k:=.inr y) (d:=ptD u) (by rw[uk,ey]; rfl);obtain⟨I,rfl,h1⟩:=pq o;obtain⟨G,rfl,h2⟩:=pq l;exists _,(zG (yJ (yW (bg c.units0) (yQ (wC c) (yQ (wC c) (pv 0) zJ (λ_ _=>rfl)) (pv 1) (λ_ _=>rfl)) (yQ (wC c) (yQ (wC c) (pv 0) zJ (λ_ _=>rfl)) (pv 2) (λ_ _=>rfl)) (vP _)) (zG (yX (λ_=>E) J.e_Same c0 (by decide) c0 yY (zA (wE (qQ (pv 1) (wD (qQ (pv 2) (wD vO))))) zD))) zU))
 try dsimp only[L2.cxOf,L2.cxComp,L2.Cx.nox,mi,lz]
 refine⟨_,U,d,.ref m,U,.inl ⟨_,.inr "marks",st.at_,U,tP.symm⟩,_,U,m,_,U,.inl ⟨a,.inr x,i,U,C.symm⟩,_,U,d,.ref m,U,.inl ⟨_,.inr "marks",st.at_,U,tP.symm⟩,_,U,m,_,U,.inl ⟨a,.inr y,i,U,B.symm⟩,
  I,G,[p.1,p.2],[u.1,u.2],rfl,rfl,SqT.of h1,SqT.of h2,_,rfl,?_⟩
 exact ifD (λz=>⟨_,rfl,.inr ⟨x,rfl,v⟩,_,rfl,.inr ⟨y,rfl,t⟩,λx _=>⟨by show 1<=sizeLine; decide,q.no (λne=>ne (by simp at z; rwa[Prod.ext z.1 z.2])) (Same.refl _)⟩⟩) (λz=>q.yes (λe=>z (by rw[e])) (Same.refl _))
def vX(_:ac):Sp:=uq axC λD=>E3 λn x y=>D=.mark n x y
def qy(F:Fun K "after_mark" "after_mark" uT f fd)(Z:Zs mg)(CB:Cb P w mg base)(yBg:Has P w K mg base "changed" 1 ["state","kind","key","value"] (xW K))(Y:tN P w K mg base "check_room" 1 ["state","kind"] (xP K))(yAm:tN P w K mg base "check_place" 2 ["place"] (wJ K))(yAt:tN P w K mg base "check_free" 1 ["state","kind","name"] (tF K))(X:tN P w K mg base "check_name" 1 ["name"] (tJ K)):yV P w K mg base (CX1 P w) 3 f fd ["state","row"] (vX K):=by
 erw[F.okX vY (λvs H Q E h=>?_) (λcdv A outer s H vs Q E hr h=>?_)]
 ·obtain⟨d,v,S,D,rfl,_⟩:=h;rfl
 obtain⟨d,v,S,D,rfl,⟨n,x,y,rfl⟩,⟨m,b,r,t,st⟩,hv,tm,wl,q,e⟩:=h;obtain⟨a,rfl,ha⟩:=eC hv;obtain⟨an,tx,ty⟩:=tm
 refine'⟨_,(zC (PS.nox (yT 2 vY.nd ?_))
   (zC (PS.nox (yT 3 vY.nd ?_))
   (zC (zQ (zX (λ_=>E) X zO (hr.mono (by decide)) rfl (zA (pv 2) zD)))
   (zC (zQ (zX (λ_=>E) yAt zO (hr.mono (by decide)) rfl (zA (pv 0) (zA zJ (zA (pv 2) zD)))))
   (zC (zQ (zX (λ_=>E) yAm zO (hr.mono (by decide)) rfl (zA (pv 3) zD)))
   (zC (zQ (zX (λ_=>E) Y zO (hr.mono (by decide)) rfl (zA (pv 0) (zA zJ zD))))
   (zG (PS.nox (zY ?_))))))))),?_⟩
 nofun
 exists _,U,a,_,_,.str n,U,U,.inr (SqT.of ha),rfl;refine⟨_,U,a,_,_,.int x,U,U,.inr (SqT.of ha),U,_,U,a,_,_,.int y,U,U,.inr (SqT.of ha),U,sz2,λp hp=>?_⟩;have s1:=zF hp (.tup [.int x,.int y]);refine⟨_,U,n,U,an,.of (λT H2 R=>?_) (λno H2 R=>e .badName (by simp[zT,no]) _ (.of (s1.trans R)))⟩;have o:=s1.trans R;have G:=st.to (.of o);obtain⟨u,hm,B⟩:=G.ma;have ep:=R _ _ (show upd H p (.tup [.int x,.int y]) p=_ from zB);refine⟨_,U,_,U,d,m, "marks",n,_,u,U,G.at_,tP,hm,(by decide),g9 an.2 (by decide),.of (λC H3 I=>?_) (λno H3 I=>e .taken (by
  have:¬ zS S n=none:=λz=>no ((fZ B).mpr z);simp[zT,T,qJ this]) _ (.of (o.trans I)))⟩
 have C:=(fZ B).mp C;have M:=o.trans I;refine⟨_,U,p,x,y,U,I _ _ ep,tx,ty,.of (λk3 H4 O=>?_) (λno H4 O=>e .badPlace (by simp[zT,T,C,no]) _ (.of (M.trans O)))⟩;have l:=M.trans O;have J:=I.trans O;have st4:=st.to (.of l);have hm4:=Rd.same hm J;refine⟨_,U,d,m, "marks",_,u,20,U,st4.at_,tP,hm4,(by symm),(by decide),.of (λk4 H5 N=>?_) (λno H5 N=>e .full (by
  rw[B.length,oy] at no;simp[zT,T,C,k3,show 20<=S.marks.length by lia]) _ (.of (l.trans N)))⟩
 rw[B.length,oy] at k4;have j:=l.trans N;have i:=J.trans N;have st5:=st.to (.of j);erw[_,U,_,U,_,U,d,m, "marks",.inr n,.ref p,_,u,U,st5.at_,tP,Rd.same hm i,StA.stKlen,B.le (by rw[oy]; lia),λf c H6 s6 hf _ ef ec=>?_];have L:=j.trans s6;have g:=st.to (.of L);rw[sk] at ef;erw[q (by simp[zT,T,C,k3]; lia) f H6 (.of L) (j.free hf) ⟨c,b,r,t,.inl ef,⟨_,.inl ec,?_⟩,g.ba,g.ru,g.no⟩];show wG H6 _ (mkE (S.marks++[(n,x,y)]));rw[aP,<- vi (cV C)];exact(B.to (.of (i.trans s6))).put (vQ ((i.trans s6) _ _ ep))
def tH(_:ac):Sp:=uq axC λD=>E3 λk x y=>D=.move k x y
def ut(F:Fun K "after_move" "after_move" uX f fd)(Z:Zs mg)(CB:Cb P w mg base)(yAj:tN P w K mg base "check_apart" 1 ["state","left","right"] (vL K))(yBg:Has P w K mg base "changed" 1 ["state","kind","key","value"] (xW K))(yAm:tN P w K mg base "check_place" 2 ["place"] (wJ K))(yAo:tN P w K mg base "check_mark" 1 ["state","name"] (xU K)):yV P w K mg base (CX1 P w) 3 f fd ["state","row"] (tH K):=by
 erw[F.okX wU (λvs H Q E h=>?_) (λcdv A outer s H vs Q E hr h=>?_)]
 ·obtain⟨d,v,S,D,rfl,_⟩:=h;rfl
 obtain⟨d,v,S,D,rfl,⟨k,x,y,rfl⟩,⟨m,b,r,t,st⟩,hv,tm,wl,q,J⟩:=h;obtain⟨a,rfl,ha⟩:=fT hv;obtain⟨an,tx,ty⟩:=tm
 refine'⟨_,(zC (PS.nox (yT 2 wU.nd ?_))
   (zC (zQ (zX (λ_=>E) yAo zO (hr.mono (by decide)) rfl ?_))
   (zC (zQ (zX (λ_=>E) yAm zO (hr.mono (by decide)) rfl (zA (pv 2) zD)))
   (zC (PS.nox (yT 3 wU.nd ?_))
   (zC (rP Ba rfl (fB (yQ (wC hr) (pv 3) zJ (λ_ _=>rfl))) (lm 4 wU.nd) (zG (yJ ?_ (zG (zQ (zX (λ_=>E) yAj zO (hr.mono (by decide)) rfl ?_))) zU)))
   (zG (PS.nox (zY (pv 3))))))))),?_⟩
 nofun
 refine⟨_,U,a,_,_,.int x,U,U,.inr (SqT.of ha),U,_,U,a,_,_,.int y,U,U,.inr (SqT.of ha),U,sz2,λp hp=>?_⟩;have O:=zF hp (.tup [.int x,.int y]);have X:upd H p (.tup [.int x,.int y]) p=G0 (.tup [.int x,.int y]):=zB;have st1:=st.to (.of O);refine⟨_,U,_,U,a,_,_,.str k,U,U,.inr (SqT.of (O _ _ ha)),U,d,m,b,r,t,S,k,U,st1,an,.of (λk1 H2 L=>?_) (λno H2 L=>J .noMark (by
  have:zS S k=none:=by cases e:zS S k <;> simp[e] at no ⊢
  simp only[zT,y4 this]) _ (.of (O.trans L)))⟩
 have I:¬ zS S k=none:=λz=>by rw[z] at k1; cases k1
 erw[_,U,p,x,y,U,L _ _ X,tx,ty,.of (λk2 H3 s3=>?_) (λno H3 s3=>J .badPlace (by simp only[zT,y3 I,y4 no]) _ (.of ((O.trans L).trans s3)))];have j:=(O.trans L).trans s3;have ep3:=s3 _ _ (L _ _ X);have N:=st.to (.of j);obtain⟨mvs,hm,km⟩:=N.ma;refine⟨_,U,_,U,a,_,_,.str k,U,U,.inr (SqT.of (j _ _ ha)),U,_,U,d,m, "marks",.inr k,.ref p,_,mvs,U,N.at_,tP,hm,StA.stKlen,km.le (by rw[oy]; have:=wl.good.few.ma; lia),λf c H4 s4 hf _ ef ec=>?_⟩;have G:=j.trans s4;have C:=st.to (.of G);rw[sk] at ef;have l:StA H4 f c b r t (aft S (.move k x y)):=⟨.inl ef,⟨_,.inl ec,by rw[<- Zl k1]; exact(km.to (.of s4)).put (vQ (p:=(x,y)) (s4 _ _ ep3))⟩,C.ba,C.ru,C.no⟩;obtain⟨nk,hn,kn⟩:=l.no;obtain⟨ks,rfl,e1,rk⟩:=oA kn;have lks:ks.length=S.notes.length:=by have:=congrArg C9 e1; rw[c5,c5] at this; rwa[this]
 refine⟨_,U,f,.ref t,U,.inl ⟨_,.inr "notes",l.at_,U,qA.symm⟩,t,_,U,hn,λo H5 fz=>?_⟩;have s5:Sam H4 H5:=gh hn fz;refine YS (λi Y M=>A4 (Sam H4 M) (cb t o (ks.map λe=>(.inl e.1,e.2)) M) (∀ e∈S.notes.take i,nS (aft S (.move k x y)) e.2) (∃ u:Option V,Y=[G0 (.ref d),G0 (.ref a),G0 (.ref p),G0 (.ref f),u]))
  ⟨s5,fz.1,λe he=>(nomatch he),G2,rfl⟩ (λi Y M h=>h.2) ?_ ?_
 ·rintro i x' Y M gx ⟨B,fa,ul,u,rfl⟩;have gx':(ks.map (·.2))[i]?=G0 x':=by rw[Bt] at gx; rwa[gx]
  obtain⟨dt,gd,rd⟩:=rk.back gx';rw[i3,j5] at gd;obtain⟨e,ge,rfl⟩:=gd;have ge:S.notes[i]?=G0 e:=ge;have mem:=Ao ge;have kn:=wl.good.note e mem;have g:=rd.to B;have snoc:nS (aft S (.move k x y)) e.2->∀ e'∈S.notes.take (i+1),nS (aft S (.move k x y)) e'.2:=λh e' R=>by
   rw[AV,ge] at R;rcases w6.mp R with z | z
   ·rwa[ul e' z]
   ·rw[f7.mp z]; rwa[h]
  match hE:e.2,kn,g with
  | .bearing mo n x1 y1 x2 y2,kn,g =>
   obtain⟨c,c1,c2,rfl,T,hc1,hc2⟩:=qH g;exists _,U,c,_,0,.str "bearing",U,U,.inr (SqT.of T),U,U,_,rfl;rwa[rG ⟨B,fa,snoc (by rw[hE]; trivial),_,rfl⟩]
  | .range mo l1 r1,kn,g =>
   obtain⟨c',rfl,T⟩:=vc g;obtain⟨_,_,i1,i2,_⟩:=kn;have o1:=wl.mark i1;have o2:=wl.mark i2;obtain⟨p1,g1⟩:=g8.mp (vD (n:=k) (x:=x) (y:=y) i1);obtain⟨p2,g2⟩:=g8.mp (vD (n:=k) (x:=x) (y:=y) i2);exists _,U,c',_,0,.str "range",U,U,.inr (SqT.of T),U,U,_,rfl;refine qN ?_;refine⟨_,U,_,U,c',_,2,.str l1,U,U,.inr (SqT.of T),U,_,U,c',_,3,.str r1,U,U,.inr (SqT.of T),U,f,_,_,_,_,_,l1,r1,p1,p2,U,l.to B,g1,g2,g9 o1.2.1 (by decide),g9 o2.2.1 (by decide),.of (λne H7 s7=>?_) (λno H7 s7=>J .same (by
    have z:¬ ∀ e∈S.notes,nS (aft S (.move k x y)) e.2:=λz=>by
     have z:=z e mem;rw[hE] at z;obtain⟨u1,u2,h1,h2,h3⟩:=z;rw[g1] at h1;rw[g2] at h2;cases h1;cases h2;rwa[no h3]
    simp only[zT,y3 I,y3 (d3.mpr k2),y3 z]) _ (((xF.of G).trans B).trans (.of s7)))⟩
   rwa[B.trans (.of s7),s7 _ _ fa,snoc (by rw[hE]; exact⟨p1,p2,g1,g2,ne⟩),_,U]
 ·rintro Y M ⟨B,fa,ul,u,rfl⟩;rw[c5,c5,lks,AR] at ul;rwa[_,U,q (by simp only[zT,y3 I,y3 (d3.mpr k2),y4 ul]) f M ((xF.of G).trans B) (j.free hf) ⟨_,_,_,_,l.to B⟩]
def uN(_:ac):Sp:=uq axC λD=>∃ k,D=.unmark k
def xk(F:Fun K "after_unmark" "after_unmark" wM f fd)(Z:Zs mg)(CB:Cb P w mg base)(yBj:Has P w K mg base "without" 1 ["state","kind","key"] (tT K))(yAo:tN P w K mg base "check_mark" 1 ["state","name"] (xU K)):yV P w K mg base (CX1 P w) 2 f fd ["state","row"] (uN K):=by
 erw[F.okX uK (λvs H Q E h=>?_) (λcdv A outer s H vs Q E hr h=>?_)]
 ·obtain⟨d,v,S,D,rfl,_⟩:=h;rfl
 obtain⟨d,v,S,D,rfl,⟨k,rfl⟩,⟨m,b,r,t,st⟩,l,tm,wl,q,bad⟩:=h;obtain⟨a,rfl,ha⟩:=nL l
 refine'⟨_,(zC (PS.nox (yT 2 uK.nd ?_))
   (zC (zQ (zX (λ_=>E) yAo zO (hr.mono (by decide)) rfl (zA (pv 0) (zA (pv 2) zD))))
   (zC (rP Ba rfl (fB (yQ (wC hr) (pv 0) zJ (λ_ _=>rfl))) (lm 3 uK.nd) (zG (yJ (yW (ZH (wC hr)) (pv 2) (oG Yx (pv 3) (kU yR) ka) (by with_unfolding_all rfl)) (zG (yX (λ_=>E) CB.e_Needed c0 (by decide) c0 yY (zA (wE (wD (qQ (pv 2) vO))) zD))) zU)))
   (zG (PS.nox (zY ?_)))))),?_⟩
 nofun
 exists _,U,a,_,_,.str k,U,U,.inr (SqT.of ha),rfl;refine⟨_,U,_,U,d,m,b,r,t,S,k,U,st,tm,.of (λk1 H1 T=>?_) (λno H1 T=>bad .noMark (by
  have:zS S k=none:=by cases e:zS S k <;> simp[e] at no ⊢
  simp only[zT,y4 this]) _ (.of T))⟩
 have Y:¬ zS S k=none:=λz=>by rw[z] at k1; cases k1
 have I:=st.to (.of T);obtain⟨nk,hn,kn⟩:=I.no;obtain⟨ks,rfl,e1,rk⟩:=oA kn;have lks:ks.length=S.notes.length:=by have:=congrArg C9 e1; rw[c5,c5] at this; rwa[this]
 refine⟨_,U,d,.ref t,U,.inl ⟨_,.inr "notes",I.at_,U,qA.symm⟩,t,_,U,hn,λo H2 fz=>?_⟩;have s2:Sam H1 H2:=gh hn fz;refine YS (λi σ O=>A4 (Sam H1 O) (cb t o (ks.map λe=>(.inl e.1,e.2)) O) (∀ e∈S.notes.take i,qT k e.2) (∃ u:Option V,σ=[G0 (.ref d),G0 (.ref a),G0 (.str k),u]))
  ⟨s2,fz.1,λe he=>(nomatch he),G2,rfl⟩ (λi σ O h=>h.2) ?_ ?_
 ·rintro i x σ O gx ⟨J,fa,ul,u,rfl⟩;have gx':(ks.map (·.2))[i]?=G0 x:=by rw[Bt] at gx; rwa[gx]
  obtain⟨dt,gd,rd⟩:=rk.back gx';rw[i3,j5] at gd;obtain⟨e,ge,rfl⟩:=gd;have mem:=Ao ge;have kn:=wl.good.note e mem;have j:=rd.to J;have snoc:qT k e.2->∀ e'∈S.notes.take (i+1),qT k e'.2:=λh e' he'=>by
   rw[AV,ge] at he';rcases w6.mp he' with z | z
   ·rwa[ul e' z]
   ·rw[f7.mp z]; rwa[h]
  have g:¬ qT k e.2->∀ H4,Same O H4->gR (Zi (eV 2) ez) [G0 (.ref d),G0 (.ref a),G0 (.str k),G0 x] H4 (λv H1=>1<=sizeLine/\E (.ref xM) G2 H1):=λno H4 R=>⟨_,rfl,.inr ⟨k,rfl,g9 tm.2 (by decide)⟩,λy _=>⟨by show 1<=sizeLine; decide,bad .needed (by
   simp only[zT,y3 Y,y3 (show ¬ ∀ e∈S.notes,qT k e.2 from λz=>no (z e mem))]) _ (((xF.of T).trans J).trans (.of R))⟩⟩
  match hE:e.2,kn,j with
  | .bearing mo n x1 y1 x2 y2,kn,j =>
   obtain⟨c,c1,c2,rfl,hc,hc1,hc2⟩:=qH j;refine⟨_,U,_,U,_,U,c,_,U,SqT.of hc,(λz=>y8 z.1 (by show ¬ HT.sIx 5 0 (G0 2)=0; decide)),λp hp=>?_⟩;have B:=zF hp (.tup (eY [.str "bearing",.int mo,.str n,.ref c1,.ref c2] (G0 2) G2));erw[p,[.str n,.ref c1,.ref c2],k,U,U,SqT.of zB,λv l=>?_,_,U,?_]
   ·rcases f9.mp l with z | l
    ·rwa[.inl ⟨n,z⟩]
    rcases f9.mp l with z | l
    ·rwa[.inr ⟨c1,_,z,SqT.of (B _ _ hc1)⟩]
    ·rwa[.inr ⟨c2,_,f7.mp l,SqT.of (B _ _ hc2)⟩]
   have nn:([V.str n,.ref c1,.ref c2].any (isS k))=(n == k):=by
    show((n == k)||(G4||(G4||false)))=(n == k);cases n == k <;> rfl
   rw[nn];cases N:n == k with
   | true=>rwa[qN (g (by rw[hE]; exact λz=>z (eq_of_beq N)) _ B)]
   | false=>rwa[rG ⟨J.trans (.of B),B _ _ fa,snoc (by rw[hE]; exact y9.mp N),_,rfl⟩]
  | .range mo M L,kn,j =>
   obtain⟨c,rfl,hc⟩:=vc j;refine⟨_,U,_,U,_,U,c,_,U,SqT.of hc,(λz=>y8 z.1 (by show ¬ HT.sIx 4 0 (G0 2)=0; decide)),λp hp=>?_⟩;have B:=zF hp (.tup (eY [.str "range",.int mo,.str M,.str L] (G0 2) G2));erw[p,[.str M,.str L],k,U,U,SqT.of zB,λv l=>?_,_,U,?_]
   ·rcases f9.mp l with z | l
    ·rwa[.inl ⟨M,z⟩]
    ·rwa[.inl ⟨L,f7.mp l⟩]
   have nn:([V.str M,.str L].any (isS k))=(M == k||L == k):=by
    show((M == k)||((L == k)||false))=_;rw[Gn]
   rw[nn];cases N:(M == k||L == k) with
   | true=>exact qN (g (by
     rw[hE];rintro⟨h1,h2⟩;rcases Fz _ _ |>.mp N with z | z
     ·rwa[h1 (eq_of_beq z)]
     ·rwa[h2 (eq_of_beq z)]) _ B)
   | false =>
    rw[Bool.or_eq_false_iff] at N;rwa[rG ⟨J.trans (.of B),B _ _ fa,snoc (by rw[hE]; exact⟨y9.mp N.1,y9.mp N.2⟩),_,U⟩]
 ·rintro σ O ⟨J,fa,ul,u,rfl⟩;rw[c5,c5,lks,AR] at ul;have G:=I.to J;obtain⟨mvs,hm,km⟩:=G.ma;obtain⟨p,ep⟩:=g8.mp k1;obtain⟨v,ev,_⟩:=km.get (k:=.inr k) (d:=ptD p) (by rw[uk,ep]; rfl);erw[_,U,_,U,d,m, "marks",.inr k,v,_,mvs,U,G.at_,tP,hm,ev,StA.stKlen,λf c H4 R hf ne ef ec=>?_];have C:=G.to (.of R);have X:=(xF.of T).trans J;rw[sk] at ef;erw[q (by simp only[zT,y3 Y,y4 ul]) f H4 (X.trans (.of R)) (X.free id hf) ⟨c,b,r,t,.inl ef,⟨_,.inl ec,?_⟩,C.ba,C.ru,C.no⟩];have:=(km.to (.of R)).drop (k:=.inr k);rw[dr] at this;rwa[this]
def tI(_:ac):Sp:=uq axC λD=>E2 λn a=>D=.bank n a
def cn_ok{H:Hp}(h:XT H d a)(e:∀ c∈d,c.1.natAbs.log2<20/\c.2.natAbs.log2<20):Zb H (10^8) a:=λt b=>by
 obtain⟨h1,h2⟩:=e t.2 (by rw[<- h.pt]; rwa[j9.mpr ⟨t,b,rfl⟩]);have j:=lt_two_pow_of_log2_lt h1;have i:=lt_two_pow_of_log2_lt h2;have g:(2:Nat)^20<=10^8:=by decide
 rwa[h.at_ t b,by lia,by lia]
def rf(F:Fun K "after_bank" "after_bank" uW f fd)(Z:Zs mg)(CB:Cb P w mg base)(yBg:Has P w K mg base "changed" 1 ["state","kind","key","value"] (xW K))(yAu:tN P w K mg base "check_room" 1 ["state","kind"] (xP K))(yBi:Has P w K mg base "is_bank" 3 ["corners"] (ww K))(yAm:tN P w K mg base "check_place" 2 ["place"] (wJ K))(yAt:tN P w K mg base "check_free" 1 ["state","kind","name"] (tF K))(yAw:tN P w K mg base "check_name" 1 ["name"] (tJ K)):yV P w K mg base (CX1 P w) 4 f fd ["state","row"] (tI K):=by
 erw[F.okX wR (λvs H Q E h=>?_) (λcdv A outer s H vs Q E hr h=>?_)]
 ·obtain⟨d,v,S,D,rfl,_⟩:=h;rfl
 obtain⟨d,v,S,D,rfl,⟨n,Y,rfl⟩,⟨m,b,r,t,st⟩,hv,tm,wl,q,j⟩:=h;obtain⟨a,cc,ps,rfl,ha,hc,cn,rc⟩:=fF hv;obtain⟨an,J,tc⟩:=tm;have B:=lD J tc;have lps:ps.length<=12:=by rw[<- cn.pt,c5] at J; rwa[J]
 refine'⟨_,(zC (PS.nox (yT 2 wR.nd ?_))
   (zC (PS.nox (yT 3 wR.nd ?_))
   (zC (zQ (zX (λ_=>E) yAw zO (hr.mono (by decide)) rfl (zA (pv 2) zD)))
   (zC (zQ (zX (λ_=>E) yAt zO (hr.mono (by decide)) rfl (zA (pv 0) (zA zJ (zA (pv 2) zD)))))
   (zC (rP Ba rfl (lh (pv 3)) (lm 4 wR.nd) (zG (zQ (zX (λ_=>E) yAm zO (hr.mono (by decide)) rfl (zA (pv 4) zD)))))
   (zC (yJ ?_ (zG (yX (λ_=>E) CB.e_BadBank c0 (by decide) c0 yY (zA (wE (lF hr.gd hr.units (pv 3) (wD vO))) zD))) zU)
   (zC (zQ (zX (λ_=>E) yAu zO (hr.mono (by decide)) rfl (zA (pv 0) (zA zJ zD))))
   (zG (PS.nox (zY ?_)))))))))),?_⟩
 nofun
 exists _,U,a,_,_,.str n,U,U,.inr (SqT.of ha),rfl;exists _,U,a,_,_,.ref cc,U,U,.inr (SqT.of ha),rfl;refine⟨_,U,n,U,an,.of (λk1 H1 s1=>?_) (λno H1 s1=>j .badName (by simp only[zT,y4 no]) _ (.of s1))⟩;have g:=d3.mpr k1;have st1:=st.to (.of s1);obtain⟨O,hb,T⟩:=st1.ba;refine⟨_,U,_,U,d,b, "banks",n,_,O,U,st1.at_,yg,hb,(by decide),g9 an.2 (by decide),.of (λM H2 s2=>?_) (λno H2 s2=>j .taken (by
  have:n∈S.banks.map (·.1):=d3.mp λz=>no ((pY T).mpr z);simp only[zT,y3 g,y4 this]) _ (.of (s1.trans s2)))⟩
 have M:=(pY T).mp M;have l:=s1.trans s2;have N:=l _ _ hc;refine⟨_,U,cc,U,.inr ⟨⟨_,SqT.of N⟩,?_⟩⟩;refine aq (K:=K) (a:=cc) (xs:=vN ps) (λi σ H'=>A3 (Same H2 H') (∀ u∈ps.take i,rT u.2) (∃ u:Option V,σ=[G0 (.ref d),G0 (.ref a),G0 (.str n),G0 (.ref cc),u]))
  ⟨Same.refl _,λu X=>(nomatch X),G2,rfl⟩ (λi σ H' _ h=>SqT.of (h.1 _ _ N)) ?_ ?_
 ·rintro i x σ H' gx ⟨o,nr,u,rfl⟩;rw[i3,i3,Option.map_map,j5] at gx;obtain⟨R,gt,rfl⟩:=gx;have mt:=Ao gt;have mc:R.2∈Y:=by rw[<- cn.pt]; rwa[j9.mpr ⟨R,mt,rfl⟩]
  obtain⟨c1,c2⟩:=tc _ mc;refine⟨_,U,R.1,R.2.1,R.2.2,U,o _ _ (l _ _ (cn.at_ R mt)),AD c1 (by decide),AD c2 (by decide),.of (λk3 H4 C=>⟨o.trans C,λu X=>?_,_,U⟩) (λno H4 C=>j .badPlace (by
   simp only[zT,y3 g,y3 M,y4 (show ¬ ∀ c∈Y,rT c from λz=>no (z _ mc))]) _ (.of (l.trans (o.trans C))))⟩
  rw[AV,gt] at X;rcases w6.mp X with z | z
  ·rwa[nr u z]
  ·rw[f7.mp z]; rwa[k3]
 ·rintro σ H3 ⟨o,nr,u,rfl⟩;rw[DJ (by rw[xY]; exact d8 _)] at nr;have k3:∀ c∈Y,rT c:=λc hc=>by
   rw[<- cn.pt] at hc;obtain⟨u,X,rfl⟩:=j9.mp hc;rwa[nr u X]
  have L:=d3.mpr k3;have s13:=l.trans o;erw[_,U,cc,ps,U,⟨.inr (SqT.of (o _ _ N)),(cn_ok cn tc).same s13⟩,by lia,λH4 C=>⟨_,U,?_⟩];rw[YY,cn.pt];have e:=s13.trans C;cases k4:dg Y with
  | false=>exact qN ⟨_,rfl,⟨_,rc.to (.of e),B.1,B.2.1,B.2.2⟩,λy _=>⟨by show 1<=sizeLine; decide,j .badBank (by simp only[zT,y3 g,y3 M,y3 L,y4 k4]) _ (.of e)⟩⟩
  | true =>
   have k4':¬ dg Y=false:=by rw[k4]; exact λz=>nomatch z
   refine rG ?_;have st4:=st.to (.of e);have hb4:=Rd.same hb ((s2.trans o).trans C);refine⟨_,U,d,b, "banks",_,O,8,U,st4.at_,yg,hb4,(by symm),(by decide),.of (λk5 H5 s5=>?_) (λno H5 s5=>j .full (by
    rw[T.length,kP] at no;simp only[zT,y3 g,y3 M,y3 L,y3 k4',y4 (show 8<=S.banks.length by lia)]) _ (.of (e.trans s5)))⟩
   rw[T.length,kP] at k5;have I:=e.trans s5;have st5:=st.to (.of I);erw[_,U,_,U,_,U,d,b, "banks",.inr n,.ref cc,_,O,U,st5.at_,yg,Rd.same hb4 s5,StA.stKlen,T.le (by rw[kP]; lia),λf c H6 s6 hf _ ef ec=>?_];have G:=I.trans s6;have p:=st.to (.of G);rw[lL] at ef;refine q (by simp only[zT,y3 g,y3 M,y3 L,y3 k4',y3 (show ¬ 8<=S.banks.length by lia)]) f H6 (.of G) (I.free hf) ⟨m,c,r,t,.inl ef,p.ma,⟨_,.inl ec,?_⟩,p.ru,p.no⟩;show wG H6 _ (bkE (S.banks++[(n,Y)]));rw[aE,<- vi (jr M)];exact(T.to (.of ((((s2.trans o).trans C).trans s5).trans s6))).put (rc.to (.of G))
def vM(_:ac):Sp:=uq axC λD=>∃ k,D=.level k
def wb(F:Fun K "after_level" "after_level" wX f fd)(Z:Zs mg)(L:Cb P w mg base)(p:Has P w K mg base "without" 1 ["state","kind","key"] (tT K)):yV P w K mg base (CX1 P w) 2 f fd ["state","row"] (vM K):=by
 erw[F.okX rA (λu H Q E h=>?_) (λI A outer s H u Q E hr h=>?_)]
 ·obtain⟨d,v,S,D,rfl,_⟩:=h;rfl
 obtain⟨d,v,S,D,rfl,⟨k,rfl⟩,⟨m,b,r,t,st⟩,x,tm,M,q,l⟩:=h;obtain⟨a,rfl,C⟩:=jq x;obtain⟨j,n,kn⟩:=st.ba
 refine'⟨_,(zC (PS.nox (yT 2 rA.nd ?_))
   (zC (yJ (ni (yh (wC hr) (pv 2) (yQ (wC hr) (pv 0) zJ (λ_ _=>rfl))) (by with_unfolding_all rfl)) (zG (yX (λ_=>E) L.e_NoBank c0 (by decide) c0 yY (zA (wE (wD (kN (pv 2) vO))) zD))) zU)
   (zG (PS.nox (zY ?_))))),?_⟩
 nofun
 exists _,U,a,_,_,.str k,U,U,.inr (SqT.of C),U,_,U,_,U,d,.ref b,U,.inl ⟨_,.inr "banks",st.at_,U,yg.symm⟩,b,_,U,.inl ⟨j,.inr k,n,U,U⟩,_,rfl;cases g:vB j (.inr k) with
 | none=>exact qN ⟨_,rfl,⟨k,rfl,mJ.big tm,g9 tm.2 (by decide)⟩,λy _=>⟨by show 1<=sizeLine; decide,l .noBank (by simp only[zT,y3 ((pY kn).mp g)]) H (.refl _)⟩⟩
 | some v =>
  have ok:k∈S.banks.map (·.1):=d3.mp λz=>by rw[(pY kn).mpr z] at g; cases g
  erw[rG ?_];erw[_,U,_,U,d,b, "banks",.inr k,v,_,j,U,st.at_,yg,n,g,StA.stKlen,λf c J i B ne o G=>?_];have e:=st.to (.of i);rw[lL] at o;erw[q (by simp only[zT,y4 ok]) f J (.of i) B ⟨m,c,r,t,.inl o,e.ma,⟨_,.inl G,?_⟩,e.ru,e.no⟩];have:=(kn.to (.of i)).drop (k:=.inr k);rw[cf] at this;rwa[this]
def tL(_:ac):Sp:=uq axC λD=>E2 λx y=>D=.sail x y
def rq(F:Fun K "after_sail" "after_sail" vA f fd)(Z:Zs mg)(CB:Cb P w mg base)(G:Has P w K mg base "changed" 1 ["state","kind","key","value"] (xW K))(J:tN P w K mg base "check_room" 1 ["state","kind"] (xP K))(I:tN P w K mg base "check_run" 2 ["run"] (tU K)):yV P w K mg base (CX1 P w) 3 f fd ["state","row"] (tL K):=by
 erw[F.okX rY (λvs H Q E h=>?_) (λcdv A outer s H vs Q E hr h=>?_)]
 ·obtain⟨d,v,S,D,rfl,_⟩:=h;rfl
 obtain⟨d,v,S,D,rfl,⟨x,y,rfl⟩,⟨m,b,r,t,st⟩,hv,tm,wl,q,B⟩:=h;obtain⟨a,rfl,T⟩:=eQ hv;obtain⟨tx,ty⟩:=tm
 refine'⟨_,(zC (PS.nox (yT 2 rY.nd ?_))
   (zC (zQ (zX (λ_=>E) I zO (hr.mono (by decide)) rfl (zA (pv 2) zD)))
   (zC (zQ (zX (λ_=>E) J zO (hr.mono (by decide)) rfl (zA (pv 0) (zA zJ zD))))
   (zG (PS.nox (zY (uQ G (hr.mono (by decide)) rfl (zA (pv 0) (zA zJ (zA (zR yc rfl Z.len qY (zA (yQ (wC hr) (pv 0) zJ (λ_ _=>rfl)) zD)) (zA (pv 2) zD))))))))))),?_⟩
 nofun
 erw[_,U,a,_,_,.int x,U,U,.inr (SqT.of T),U,_,U,a,_,_,.int y,U,U,.inr (SqT.of T),U,sz2,λp hp=>?_];have M:=zF hp (.tup [.int x,.int y]);erw[_,U,p,x,y,U,zB,tx,ty,.of (λO H2 C=>?_) (λno H2 C=>B .badRun (by simp[zT,no]) _ (.of (M.trans C)))];have j:=M.trans C;have o:=st.to (.of j);obtain⟨e,R,N⟩:=o.ru;have ln:e.length=S.runs.length:=by rw[N.length,zu]
 have ep:=C _ _ (show upd H p (.tup [.int x,.int y]) p=_ from zB);refine⟨_,U,d,r, "runs",_,e,12,U,o.at_,tV,R,(by symm),(by decide),.of (λk2 H3 l=>?_) (λno H3 l=>B .full (by simp[zT,O,show 12<=S.runs.length by lia]) _ (.of (j.trans l)))⟩;have i:=j.trans l;have n:=st.to (.of i);have z:=Rd.same R l;erw[_,U,_,U,d,.ref r,U,.inl ⟨_,.inr "runs",n.at_,U,tV.symm⟩,r,e,U,z,_,U,d,r, "runs",.inl (e.length:Int),.ref p,_,e,U,n.at_,tV,z,StA.stKlen,by lia,λf c Y L hf _ X ec=>?_];have u:=i.trans L;have g:=st.to (.of u);rw[jf] at X;erw[q (by simp[zT,O]; lia) f Y (.of u) (i.free hf) ⟨m,b,c,t,.inl X,g.ma,g.ba,⟨_,.inl ec,?_⟩,g.no⟩];show wG Y _ (rnE (S.runs++[(x,y)]));rw[Zu,<- vi dX,<- ln];exact(N.to (.of (l.trans L))).put (vQ ((l.trans L) _ _ ep))
def vJ(_:ac):Sp:=uq axC λD=>E3 λk x y=>D=.right k x y
def wq(F:Fun K "after_right" "after_right" wQ f fd)(Z:Zs mg)(CB:Cb P w mg base)(T:Has P w K mg base "changed" 1 ["state","kind","key","value"] (xW K))(G:tN P w K mg base "check_run" 2 ["run"] (tU K)):yV P w K mg base (CX1 P w) 3 f fd ["state","row"] (vJ K):=by
 erw[F.okX vG (λY H Q E h=>?_) (λcdv A outer s H Y Q E hr h=>?_)]
 ·obtain⟨d,v,S,D,rfl,_⟩:=h;rfl
 obtain⟨d,v,S,D,rfl,⟨k,x,y,rfl⟩,⟨m,b,r,t,st⟩,hv,tm,X,q,B⟩:=h;obtain⟨a,rfl,M⟩:=js hv;obtain⟨tk,tx,ty⟩:=tm
 refine'⟨_,(zC (PS.nox (yT 2 vG.nd ?_))
   (zC (PS.nox (yT 3 vG.nd ?_))
   (zC (yJ (ni (yh (wC hr) (pv 2) (yQ (wC hr) (pv 0) zJ (λ_ _=>rfl))) (by with_unfolding_all rfl)) (zG (yX (λ_=>E) CB.e_NoRun c0 (by decide) c0 yY (zA (wE (wD (qQ (pv 2) vO))) zD))) zU)
   (zC (zQ (zX (λ_=>E) G zO (hr.mono (by decide)) rfl (zA (pv 3) zD)))
   (zG (PS.nox (zY ?_))))))),?_⟩
 nofun
 exists _,U,a,_,_,.int k,U,U,.inr (SqT.of M),rfl;erw[_,U,a,_,_,.int x,U,U,.inr (SqT.of M),U,_,U,a,_,_,.int y,U,U,.inr (SqT.of M),U,sz2,λp hp=>?_];have o:=zF hp (.tup [.int x,.int y]);have j:=st.to (.of o);obtain⟨l,u,C⟩:=j.ru;exists _,U,_,U,d,.ref r,U,.inl ⟨_,.inr "runs",j.at_,U,tV.symm⟩,r,_,U,.inl ⟨l,.inl k,u,U,U⟩,_,rfl;cases N:vB l (.inl k) with
 | none=>exact qN ⟨_,rfl,.inl ⟨k,rfl,AD (show k.natAbs.log2<200 from tk) (by decide)⟩,λy _=>⟨by show 1<=sizeLine; decide,B .noRun (by simp only[zT,y3 ((fU C).mp N)]) _ (.of o)⟩⟩
 | some v =>
  have ok:0<=k/\k<S.runs.length:=d3.mp λz=>by rw[(fU C).mpr z] at N; cases N
  erw[rG ?_];obtain⟨i,rfl⟩:=Dv ok.1;have hi:i<S.runs.length:=by lia
  erw[_,U,p,x,y,U,zB,tx,ty,.of (λk3 H3 e=>?_) (λno H3 e=>B .badRun (by simp only[zT,y4 ok,y3 no]) _ (.of (o.trans e)))];have I:=j.to (.of e);have L:=Rd.same u e;refine⟨_,U,_,U,_,U,d,r, "runs",.inl (i:Int),.ref p,_,l,U,I.at_,tV,L,StA.stKlen,C.le (by rw[zu]; have:=X.good.few.ru; lia),λf c R J hf _ O ec=>?_⟩;have n:=(o.trans e).trans J;have g:=st.to (.of n);rw[jf] at O;erw[q (by simp only[zT,y4 ok,y4 k3]) f R (.of n) ((o.trans e).free hf) ⟨m,b,c,t,.inl O,g.ma,g.ba,⟨_,.inl ec,?_⟩,g.no⟩];show wG R _ (rnE (S.runs.set i (x,y)));rw[<- aX hi];exact(C.to (.of (e.trans J))).put (vQ (p:=(x,y)) ((e.trans J) _ _ zB))
def tD(_:ac):Sp:=λc H Q E=>E4 λ(d:b6) (v:V) (S:BS) (D:Deed)=>A7 (c=[.ref d,v]) (jy H d S) (Rep H D.dt v) (S.notes.length<=60) (Zw S) (S.notes.length<24->∀(b:b6)(a:Hp),Same H a->H b=G2->jy a b { S with notes:=S.notes++[(S.coming,D)],coming:=S.coming+1 }->Q (.ref b) a) (24<=S.notes.length->∀ a,Same H a->E (.ref uM) G2 a)
def sy(F:Fun K "after_note" "after_note" uR f fd)(Z:Zs mg)(CB:Cb P w mg base)(u:Has P w K mg base "changed" 1 ["state","kind","key","value"] (xW K))(x:tN P w K mg base "check_room" 1 ["state","kind"] (xP K)):yV P w K mg base (CX1 P w) 2 f fd ["state","row"] (tD K):=by
 erw[F.okX rL (λL H Q E h=>?_) (λY A outer s H L Q E n h=>?_)]
 ·obtain⟨d,v,S,D,rfl,_⟩:=h;rfl
 obtain⟨d,v,S,D,rfl,⟨m,b,r,t,st⟩,O,N,T,q,B⟩:=h;obtain⟨e,G,C⟩:=st.no;have ln:e.length=S.notes.length:=by rw[C.length,aT]
 refine⟨_,(zC (zQ (zX (λ_=>E) x zO (n.mono (by decide)) rfl (zA (pv 0) (zA zJ zD))))
   (zC (PS.nox (wP (i:=2) rL.nd rfl (Ae rfl) (uQ u (n.mono (by decide)) rfl (zA (pv 0) (zA zJ (zA (yQ (wC n) (pv 0) zJ (λ_ _=>rfl)) (zA (pv 1) zD)))))))
   (zC (PS.nox (oJ (wC n) (pv 2) zJ (wO bc (yQ (wC n) (pv 0) zJ (λ_ _=>rfl)) yR) rfl))
   (zG (PS.nox (zY (pv 2))))))),?_⟩
 try dsimp only[L2.cxOf,L2.cxComp,L2.Cx.nox,mi,lz]
 erw[_,U,d,t, "notes",_,e,24,U,st.at_,qA,G,(by symm),(by decide),.of (λk1 J g=>?_) (λno J g=>B (by lia) J g)];have j:=st.to (.of g);have z:=Rd.same G g;erw[_,U,_,U,d,.int S.coming,U,.inl ⟨_,.inr "coming",j.at_,U,sf.symm⟩,_,U,d,t, "notes",.inl S.coming,v,_,e,U,j.at_,qA,z,StA.stKlen,by lia,λf c H2 M R ne I X=>?_];have l:=g.trans M;have y:=st.to (.of l);rw[mz] at I;exists _,U,d,.int S.coming,U,.inl ⟨_,.inr "coming",y.at_,U,sf.symm⟩,_,_,U,U,_,U,f,_,U,bQ.k (k:=.inr "coming") I (yH (g9 StA.stKlen (by decide))),_,rfl;rw[iO];have o:=g.free R;have p:Same H (upd H2 f (.dK (stK m b r c (S.coming+1)))):=l.putNew o;have a:=st.to (.of p);erw[q (by lia) f _ p o ⟨m,b,r,c,.inl zB,a.ma,a.ba,a.ru,⟨_,.inl (by rw[zL ne.symm]; rwa[X]),?_⟩⟩];rw[ap,<- vi (eZ T)];exact(C.to (.of p)).put (O.to (.of p))
def uE(_:ac):Sp:=uq axC λD=>E6 λmo nm d b c a=>D=.bearing mo nm d b c a
def ya(F:Fun K "after_bearing" "after_bearing" xX f fd)(Z:Zs mg)(CB:Cb P w mg base)(N:tN P w K mg base "after_note" 2 ["state","row"] (tD K))(yBr:Has P w K mg base "turn" 1 ["one","other"] (tf K))(C:tN P w K mg base "check_way" 2 ["direction"] (qV K))(O:tN P w K mg base "check_mark" 1 ["state","name"] (xU K))(R:tN P w K mg base "check_moment" 1 ["moment","runs"] (wB K)):yV P w K mg base (CX1 P w) 3 f fd ["state","row"] (uE K):=by
 erw[F.okX yf (λvs H Q E h=>?_) (λcdv A outer s H vs Q E hr h=>?_)]
 ·obtain⟨d,v,S,D,rfl,_⟩:=h;rfl
 obtain⟨d,v,S,D,rfl,⟨mo,nm,M,L,X,T,rfl⟩,⟨m,b,r,t,st⟩,hv,tm,wl,q,g⟩:=h;obtain⟨a,p,u,rfl,B,hp,hu⟩:=qH hv;obtain⟨G,I,kr⟩:=st.ru;have o:=nF tm;obtain⟨t1,an,tx1,ty1,tx2,Y⟩:=tm
 refine'⟨_,(zC (zQ (zX (λ_=>E) R zO (hr.mono (by decide)) rfl (zA ?_ (zA (yQ (wC hr) (pv 0) zJ (λ_ _=>rfl)) zD))))
   (zC (zQ (zX (λ_=>E) O zO (hr.mono (by decide)) rfl ?_))
   (zC (zQ (zX (λ_=>E) C zO (hr.mono (by decide)) rfl ?_))
   (zC (zQ (zX (λ_=>E) C zO (hr.mono (by decide)) rfl ?_))
   (zC (yJ ?_ (zG (yX (λ_=>E) CB.e_BadTurn c0 (by decide) c0 yY (zA (wE (wD (lF hr.gd hr.units (pv 1) vO))) zD))) zU)
   (zG (zY (zX (λ_=>E) N zO (hr.mono (by decide)) rfl (zA (pv 0) (zA (pv 1) zD)))))))))),?_⟩
 nofun
 by_cases l:0<=mo/\mo<=S.runs.length
 rotate_left
 ·exact⟨_,U,a,_,_,.int mo,U,U,.inr (SqT.of B),U,_,U,d,.ref r,U,.inl ⟨_,.inr "runs",st.at_,U,tV.symm⟩,r,mo,S.runs.length,U,.inr ⟨G,I,by rw[kr.length,zu]⟩,.inr ⟨⟨by lia,AD (show mo.natAbs.log2<200 from t1) (by decide)⟩,g .noMoment (by simp only[zT,y4 l]) H (.refl _)⟩⟩
 refine⟨_,U,a,_,_,.int mo,U,U,.inr (SqT.of B),U,_,U,d,.ref r,U,.inl ⟨_,.inr "runs",st.at_,U,tV.symm⟩,r,mo,S.runs.length,U,.inr ⟨G,I,by rw[kr.length,zu]⟩,.inl ⟨l.1,l.2,?_⟩⟩;refine⟨_,U,_,U,a,_,_,.str nm,U,U,.inr (SqT.of B),U,d,m,b,r,t,S,nm,U,st,an,.of (λk3 H1 x=>?_) (λno H1 x=>g .noMark (by
  have:zS S nm=none:=by cases e:zS S nm <;> simp[e] at no ⊢
  simp only[zT,y3 (d3.mpr l),y4 this]) _ (.of x))⟩
 have i:¬ zS S nm=none:=λz=>by rw[z] at k3; cases k3
 have ha1:=x _ _ B;erw[_,U,a,_,_,.ref p,U,U,.inr (SqT.of ha1),U,p,M,L,U,x _ _ hp,tx1,ty1,.of (λn H2 s2=>?_) (λno H2 s2=>g .badWay (by simp only[zT,y3 (d3.mpr l),y3 i,y4 no]) _ (.of (x.trans s2)))];have j:=x.trans s2;have ha2:=j _ _ B;erw[_,U,a,_,_,.ref u,U,U,.inr (SqT.of ha2),U,u,X,T,U,j _ _ hu,tx2,Y,.of (λk5 H3 s3=>?_) (λno H3 s3=>g .badWay (by simp only[zT,y3 (d3.mpr l),y3 i,y3 (d3.mpr n),y4 no]) _ (.of (j.trans s3)))];have c:=j.trans s3;have J:=c _ _ B;have b1:=n.2.1;have b2:=n.2.2.1;have b3:=n.2.2.2.1;have b4:=n.2.2.2.2;have n1:M.natAbs<=10^18:=by simp at b1 b2; lia
 have n2:L.natAbs<=10^18:=by simp at b3 b4; lia
 exists _,U,a,_,_,.ref p,U,U,.inr (SqT.of J),U,_,U,a,_,_,.ref u,U,U,.inr (SqT.of J),U,p,u,_,_,M,L,X,T,U,.inr (SqT.of (c _ _ hp)),.inr (SqT.of (c _ _ hu)),U,U,U,U,n1,n2,_,_,U,U,_,rfl;erw[ifD (λz=>?_) (λk6=>?_)]
 ·exact⟨_,U,⟨_,hv.to (.of c),o.1,o.2.1,o.2.2⟩,λy _=>⟨by show 1<=sizeLine; decide,g .badTurn (by simp only[zT,y3 (d3.mpr l),y3 i,y3 (d3.mpr n),y3 (d3.mpr k5),y4 z]) _ (.of c)⟩⟩
 refine⟨_,U,_,U,d,.ref a,S,.bearing mo nm M L X T,U,⟨m,b,r,t,st.to (.of c)⟩,hv.to (.of c),wl.good.few.no,wl.good.fresh,λk7 d' H4 s4 hd' st4=>q (by simp only[zT,y3 (d3.mpr l),y3 i,y3 (d3.mpr n),y3 (d3.mpr k5),y3 k6,y3 (show ¬ 24<=S.notes.length by lia)]) d' H4 (.of (c.trans s4)) (c.free hd') st4,
  λk7 H4 s4=>g .full (by simp only[zT,y3 (d3.mpr l),y3 i,y3 (d3.mpr n),y3 (d3.mpr k5),y3 k6,y4 k7]) _ (.of (c.trans s4))⟩
def vF(_:ac):Sp:=uq axC λD=>E3 λmo b a=>D=.range mo b a
def wc(F:Fun K "after_range" "after_range" uC f fd)(Z:Zs mg)(CB:Cb P w mg base)(J:tN P w K mg base "after_note" 2 ["state","row"] (tD K))(L:tN P w K mg base "check_apart" 1 ["state","left","right"] (vL K))(x:tN P w K mg base "check_mark" 1 ["state","name"] (xU K))(M:tN P w K mg base "check_moment" 1 ["moment","runs"] (wB K)):yV P w K mg base (CX1 P w) 3 f fd ["state","row"] (vF K):=by
 erw[F.okX wt (λvs H Q E h=>?_) (λcdv A outer s H vs Q E hr h=>?_)]
 ·obtain⟨d,v,S,D,rfl,_⟩:=h;rfl
 obtain⟨d,v,S,D,rfl,⟨mo,j,i,rfl⟩,⟨m,b,r,t,st⟩,hv,tm,wl,q,g⟩:=h;obtain⟨a,rfl,G⟩:=vc hv;obtain⟨y,C,kr⟩:=st.ru;obtain⟨t1,a1,a2⟩:=tm
 refine'⟨_,(zC (zQ (zX (λ_=>E) M zO (hr.mono (by decide)) rfl (zA ?_ (zA (yQ (wC hr) (pv 0) zJ (λ_ _=>rfl)) zD))))
   (zC (zQ (zX (λ_=>E) x zO (hr.mono (by decide)) rfl ?_))
   (zC (zQ (zX (λ_=>E) x zO (hr.mono (by decide)) rfl ?_))
   (zC (zQ (zX (λ_=>E) L zO (hr.mono (by decide)) rfl ?_))
   (zG (zY (zX (λ_=>E) J zO (hr.mono (by decide)) rfl (zA (pv 0) (zA (pv 1) zD))))))))),?_⟩
 nofun
 by_cases o:0<=mo/\mo<=S.runs.length
 rotate_left
 ·exact⟨_,U,a,_,_,.int mo,U,U,.inr (SqT.of G),U,_,U,d,.ref r,U,.inl ⟨_,.inr "runs",st.at_,U,tV.symm⟩,r,mo,S.runs.length,U,.inr ⟨y,C,by rw[kr.length,zu]⟩,.inr ⟨⟨by lia,AD (show mo.natAbs.log2<200 from t1) (by decide)⟩,g .noMoment (by simp only[zT,y4 o]) H (.refl _)⟩⟩
 refine⟨_,U,a,_,_,.int mo,U,U,.inr (SqT.of G),U,_,U,d,.ref r,U,.inl ⟨_,.inr "runs",st.at_,U,tV.symm⟩,r,mo,S.runs.length,U,.inr ⟨y,C,by rw[kr.length,zu]⟩,.inl ⟨o.1,o.2,?_⟩⟩;refine⟨_,U,_,U,a,_,_,.str j,U,U,.inr (SqT.of G),U,d,m,b,r,t,S,j,U,st,a1,.of (λY H1 u=>?_) (λno H1 u=>g .noMark (by
  have:zS S j=none:=by cases e:zS S j <;> simp[e] at no ⊢
  simp only[zT,y3 (d3.mpr o),y4 this]) _ (.of u))⟩
 have n:¬ zS S j=none:=λz=>by rw[z] at Y; cases Y
 have ha1:=u _ _ G;refine⟨_,U,_,U,a,_,_,.str i,U,U,.inr (SqT.of ha1),U,d,m,b,r,t,S,i,U,st.to (.of u),a2,.of (λX H2 T=>?_) (λno H2 T=>g .noMark (by
  have:zS S i=none:=by cases e:zS S i <;> simp[e] at no ⊢
  simp only[zT,y3 (d3.mpr o),y3 n,y4 this]) _ (.of (u.trans T)))⟩
 have p:¬ zS S i=none:=λz=>by rw[z] at X; cases X
 obtain⟨p1,e1⟩:=g8.mp Y;obtain⟨p2,e2⟩:=g8.mp X;have l:=u.trans T;have I:Sq K H2 a _:=.inr (SqT.of (l _ _ G));refine⟨_,U,_,U,a,_,_,.str j,U,U,I,U,_,U,a,_,_,.str i,U,U,I,U,d,m,b,r,t,S,j,i,p1,p2,U,st.to (.of l),e1,e2,g9 a1.2 (by decide),g9 a2.2 (by decide),.of (λk5 H3 R=>?_) (λno H3 R=>g .same (by
  have:zS S j=zS S i:=by rw[e1,e2,d3.mp no]
  simp only[zT,y3 (d3.mpr o),y3 n,y3 p,y4 this]) _ (.of (l.trans R)))⟩
 have B:¬ zS S j=zS S i:=λz=>k5 (by rw[e1,e2] at z; exact o0 z);have c:=l.trans R;refine⟨_,U,_,U,d,.ref a,S,.range mo j i,U,⟨m,b,r,t,st.to (.of c)⟩,hv.to (.of c),wl.good.few.no,wl.good.fresh,λk6 d' H4 O hd' N=>q (by simp only[zT,y3 (d3.mpr o),y3 n,y3 p,y3 B,y3 (show ¬ 24<=S.notes.length by lia)]) d' H4 (.of (c.trans O)) (c.free hd') N,
  λk6 H4 O=>g .full (by simp only[zT,y3 (d3.mpr o),y3 n,y3 p,y3 B,y4 k6]) _ (.of (c.trans O))⟩
def uL(_:ac):Sp:=uq axC λD=>∃ k,D=.strike k
def xo(F:Fun K "after_strike" "after_strike" wI f fd)(Z:Zs mg)(L:Cb P w mg base)(p:Has P w K mg base "without" 1 ["state","kind","key"] (tT K)):yV P w K mg base (CX1 P w) 2 f fd ["state","row"] (uL K):=by
 erw[F.okX tZ (λu H Q E h=>?_) (λI A outer s H u Q E hr h=>?_)]
 ·obtain⟨d,v,S,D,rfl,_⟩:=h;rfl
 obtain⟨d,v,S,D,rfl,⟨k,rfl⟩,⟨m,b,r,t,st⟩,x,tm,M,q,l⟩:=h;obtain⟨a,rfl,C⟩:=mv x;obtain⟨j,n,kn⟩:=st.no
 refine'⟨_,(zC (PS.nox (yT 2 tZ.nd ?_))
   (zC (yJ (ni (yh (wC hr) (pv 2) (yQ (wC hr) (pv 0) zJ (λ_ _=>rfl))) (by with_unfolding_all rfl)) (zG (yX (λ_=>E) L.e_NoNote c0 (by decide) c0 yY (zA (wE (wD (qQ (pv 2) (wD vO)))) zD))) zU)
   (zG (PS.nox (zY ?_))))),?_⟩
 nofun
 exists _,U,a,_,_,.int k,U,U,.inr (SqT.of C),U,_,U,_,U,d,.ref t,U,.inl ⟨_,.inr "notes",st.at_,U,qA.symm⟩,t,_,U,.inl ⟨j,.inl k,n,U,U⟩,_,rfl;cases g:vB j (.inl k) with
 | none=>exact qN ⟨_,rfl,.inl ⟨k,rfl,AD (show k.natAbs.log2<200 from tm) (by decide)⟩,λy _=>⟨by show 1<=sizeLine; decide,l .noNote (by simp only[zT,y3 ((fV kn).mp g)]) H (.refl _)⟩⟩
 | some v =>
  have ok:k∈S.notes.map (·.1):=d3.mp λz=>by rw[(fV kn).mpr z] at g; cases g
  erw[rG ?_];erw[_,U,_,U,d,t, "notes",.inl k,v,_,j,U,st.at_,qA,n,g,StA.stKlen,λf c J i B ne o G=>?_];have e:=st.to (.of i);rw[mz] at o;erw[q (by simp only[zT,y4 ok]) f J (.of i) B ⟨m,b,r,c,.inl o,e.ma,e.ba,e.ru,⟨_,.inl G,?_⟩⟩];have:=(kn.to (.of i)).drop (k:=.inl k);rw[cy] at this;rwa[this]
def inTab(_:Deed):Prop:=True
def pE(_:ac):Sp:=uq axC inTab
def tabL:List (Key×Sp):=[(.inr "mark",vX []),(.inr "move",tH []),(.inr "unmark",uN []),(.inr "bank",tI []),(.inr "level",vM []),(.inr "sail",tL []),(.inr "right",vJ []),(.inr "bearing",uE []),(.inr "range",vF []),(.inr "strike",uL [])]
def iC(F:Fun K "after" "after" yp f fd)(Z:Zs mg)(g:Cb P w mg base)(l:tN P w K mg base "after_mark" 3 ["state","row"] (vX K))(C:tN P w K mg base "after_move" 3 ["state","row"] (tH K))(L:tN P w K mg base "after_unmark" 2 ["state","row"] (uN K))(o:tN P w K mg base "after_bank" 4 ["state","row"] (tI K))(G:tN P w K mg base "after_level" 2 ["state","row"] (vM K))(B:tN P w K mg base "after_sail" 3 ["state","row"] (tL K))(J:tN P w K mg base "after_right" 3 ["state","row"] (vJ K))(N:tN P w K mg base "after_bearing" 3 ["state","row"] (uE K))(I:tN P w K mg base "after_range" 3 ["state","row"] (vF K))(M:tN P w K mg base "after_strike" 2 ["state","row"] (uL K)):yV P w K mg base (CX1 P w) 5 f fd ["state","row"] (pE K):=by
 erw[F.okX iz (λO H Q E h=>?_) (λR A outer s H O Q E hr h=>?_)]
 ·obtain⟨d,v,S,D,rfl,_⟩:=h;rfl
 obtain⟨d,v,S,D,rfl,kd,st,c,tm,i,q,b⟩:=h;have j:∀ r∈tabL,bT P w K mg base 4 bp r.1 r.2:=by
  intro r hr;simp only[tabL,f9,x9,or_false] at hr;rcases hr with rfl | rfl | rfl | rfl | rfl | rfl | rfl | rfl | rfl | rfl
  ·rwa["after_mark",_,_,_,by symm,g.t_mark,l,by decide]
  ·rwa["after_move",_,_,_,by symm,g.t_move,C,by decide]
  ·rwa["after_unmark",_,_,_,by symm,g.t_unmark,L,by decide]
  ·rwa["after_bank",_,_,_,by symm,g.t_bank,o,by decide]
  ·rwa["after_level",_,_,_,by symm,g.t_level,G,by decide]
  ·rwa["after_sail",_,_,_,by symm,g.t_sail,B,by decide]
  ·rwa["after_right",_,_,_,by symm,g.t_right,J,by decide]
  ·rwa["after_bearing",_,_,_,by symm,g.t_bearing,N,by decide]
  ·rwa["after_range",_,_,_,by symm,g.t_range,I,by decide]
  ·rwa["after_strike",_,_,_,by symm,g.t_strike,M,by decide]
 refine'⟨_,(zG (zY (aQ (λ_=>E) g.dAFTER g.gAFTER j zO (hr.mono (by decide)) ?_ (zA (pv 0) (zA (pv 1) zD))))),?_⟩
 nofun
 cases D with
 | mark n x y =>
  obtain⟨a,rfl,e⟩:=eC c;rwa[_,U,a,_,_,.str "mark",U,U,.inr (SqT.of e),U,.inr "mark",_,U,.head _,_,U,_,U,d,.ref a,S,_,U,⟨_,_,_,U⟩,st,c,tm,i,q,b]
 | move n x y =>
  obtain⟨a,rfl,e⟩:=fT c;rwa[_,U,a,_,_,.str "move",U,U,.inr (SqT.of e),U,.inr "move",_,U,.tail _ (.head _),_,U,_,U,d,.ref a,S,_,U,⟨_,_,_,U⟩,st,c,tm,i,q,b]
 | unmark n =>
  obtain⟨a,rfl,e⟩:=nL c;rwa[_,U,a,_,_,.str "unmark",U,U,.inr (SqT.of e),U,.inr "unmark",_,U,.tail _ (.tail _ (.head _)),_,U,_,U,d,.ref a,S,_,U,⟨_,U⟩,st,c,tm,i,q,b]
 | bank n T =>
  obtain⟨a,_,_,rfl,e,_⟩:=fF c;rwa[_,U,a,_,_,.str "bank",U,U,.inr (SqT.of e),U,.inr "bank",_,U,.tail _ (.tail _ (.tail _ (.head _))),_,U,_,U,d,.ref a,S,_,U,⟨_,_,U⟩,st,c,tm,i,q,b]
 | level n =>
  obtain⟨a,rfl,e⟩:=jq c;rwa[_,U,a,_,_,.str "level",U,U,.inr (SqT.of e),U,.inr "level",_,U,.tail _ (.tail _ (.tail _ (.tail _ (.head _)))),_,U,_,U,d,.ref a,S,_,U,⟨_,U⟩,st,c,tm,i,q,b]
 | sail x y =>
  obtain⟨a,rfl,e⟩:=eQ c;rwa[_,U,a,_,_,.str "sail",U,U,.inr (SqT.of e),U,.inr "sail",_,U,.tail _ (.tail _ (.tail _ (.tail _ (.tail _ (.head _))))),_,U,_,U,d,.ref a,S,_,U,⟨_,_,U⟩,st,c,tm,i,q,b]
 | right k x y =>
  obtain⟨a,rfl,e⟩:=js c;rwa[_,U,a,_,_,.str "right",U,U,.inr (SqT.of e),U,.inr "right",_,U,.tail _ (.tail _ (.tail _ (.tail _ (.tail _ (.tail _ (.head _)))))),_,U,_,U,d,.ref a,S,_,U,⟨_,_,_,U⟩,st,c,tm,i,q,b]
 | bearing m n x y z t =>
  obtain⟨a,p,u,rfl,e,_⟩:=qH c;rwa[_,U,a,_,_,.str "bearing",U,U,.inr (SqT.of e),U,.inr "bearing",_,U,.tail _ (.tail _ (.tail _ (.tail _ (.tail _ (.tail _ (.tail _ (.head _))))))),_,U,_,U,d,.ref a,S,_,U,⟨_,_,_,_,_,_,U⟩,st,c,tm,i,q,b]
 | range m n k =>
  obtain⟨a,rfl,e⟩:=vc c;rwa[_,U,a,_,_,.str "range",U,U,.inr (SqT.of e),U,.inr "range",_,U,.tail _ (.tail _ (.tail _ (.tail _ (.tail _ (.tail _ (.tail _ (.tail _ (.head _)))))))),_,U,_,U,d,.ref a,S,_,U,⟨_,_,_,U⟩,st,c,tm,i,q,b]
 | strike k =>
  obtain⟨a,rfl,e⟩:=mv c;rwa[_,U,a,_,_,.str "strike",U,U,.inr (SqT.of e),U,.inr "strike",_,U,.tail _ (.tail _ (.tail _ (.tail _ (.tail _ (.tail _ (.tail _ (.tail _ (.tail _ (.head _))))))))),_,U,_,U,d,.ref a,S,_,U,⟨_,U⟩,st,c,tm,i,q,b]
def qZ(_:ac):Sp:=λb H Q _=>(b=[.str "1"]/\∀ a,Same H a->Q (.bl G3) a)\/(b=[.str "-0"]/\∀ a,Same H a->Q (.bl G4) a)
def jx:Ef ("1" : c7) ("-" : c7)=G4/\Ef ("-0" : c7) ("-" : c7)=G3/\Gx ("-0" : c7) (G0 1) G2=("0" : c7):=by ac_nf
def Xe:(!(Ca ("0123456789" : c7) ⟨#[49]⟩ 0 ("0123456789" : c7).length 1).isEmpty)=G3/\(!(Ca ("0123456789" : c7) ⟨#[48]⟩ 0 ("0123456789" : c7).length 1).isEmpty)=true:=by ac_nf
def qj(F:Fun K "is_number" "is_number" vU f fd)(Z:Zs mg)(r:Cb P w mg base)  : yV P w K mg base CX0 1 f fd ["word"] (qZ K):=by
 specialize qW
 ·rcases h with ⟨rfl,_⟩ | ⟨rfl,_⟩ <;> rfl
 refine'⟨_,(zC (yT 1 qW.nd (vm (qP (kO AL PySem.F.slot_str_startswith PySem.F.type_str_startswith iX (pv 0) (zA zJ zD))) (oG YX (pv 0) (kU yR) ka) (pv 0)))
   (zC (yJ (PW.pt (iH (yW cK (zR vC rfl Z.len qY (zA (pv 1) zD)) yR (vP _)) (nv (yW gK (zR vC rfl Z.len qY (zA (pv 1) zD)) (nG r.MOST_FIGURES) (vP _))))) (zG (zY oP)) zU)
   (zC (yJ (pG (qP (zR (tX rfl) rfl Z.all pc (zA (rW (T:=["figure"]) (caps:=[]) ⟨rfl,by ac_nf,by ac_nf,rfl,q0⟩ rfl (bI (pv 1)) (λ_=>(lm 0 (show(["figure"]:List c7).Nodup by ac_nf))) (λ_=>sN) (λ_=>(vZ dw (pv 0) (ZO r.FIGURES) (by with_unfolding_all rfl)))) zD)))) (zG (zY oP)) zU)
   (zG (zY (YI (vZ du (cI bO (pv 1) yR (λ_ _=>rfl)) zJ (vP _)) (jo ?_))))))),?_⟩
 nofun
 rcases h with ⟨rfl,q⟩ | ⟨rfl,q⟩
 ·exists _,U,U,_,_,U,U,_,rfl;rw[jx.1];refine rG ⟨_,rfl,?_⟩;exists _,U,_,U,sz1,_,_,U,U,_,rfl;refine ifD (λz=>y8 z (by decide)) (λ_=>?_);exists _,U,_,U,sz1,_,_,U,U,_,rfl;refine ifD (λz=>y8 z (by decide)) (λ_=>?_);refine⟨_,U,_,U,by ac_nf,λc D n=>?_⟩;refine kR (xs:=[.str ⟨#[49]⟩]) (λi d a b=>A5 (Same H b) (b D=G0 (.lst a)) (a=(i9 i G3).map V.bl) (i<=1) (∃ g:Option V,d=[g]))
   ⟨zF n _,zB,rfl,j8 _,G2,rfl⟩ (λi d a b l=>by obtain⟨_,e,_⟩:=l; rwa[q0,e]) ?_ ?_
  ·rintro i v d a b hi ⟨j,m,rfl,p,g,rfl⟩;have o:i=0:=by have:=(f8.mp hi).1; rwa[C1.mp this]
   subst o;cases hi;exists _,U,_,_,U,rfl;rw[Xe.1];exact⟨m,(by show 0<sizeLine; decide),j.putNew n,zB,rfl,d8 _,_,rfl⟩
  rintro d a b ⟨j,m,rfl,_,g,rfl⟩;erw[D,[G3],U,SqL.of m,G3,U,rG ?_];exists _,U,_,0,49,U,U,sz1,U,U,_,rfl;rwa[qN (q _ j)]
 ·exists _,U,U,_,_,U,U,_,rfl;rw[jx.2.1];refine qN ⟨_,rfl,_,rfl,_,rfl,sz2,?_⟩;rw[jx.2.2];exists _,U,_,U,sz1,_,_,U,U,_,rfl;refine ifD (λz=>y8 z (by decide)) (λ_=>?_);exists _,U,_,U,sz1,_,_,U,U,_,rfl;refine ifD (λz=>y8 z (by decide)) (λ_=>?_);refine⟨_,U,_,U,by ac_nf,λc D n=>?_⟩;refine kR (xs:=[.str ⟨#[48]⟩]) (λi d a b=>A5 (Same H b) (b D=G0 (.lst a)) (a=(i9 i G3).map V.bl) (i<=1) (∃ g:Option V,d=[g]))
   ⟨zF n _,zB,rfl,j8 _,G2,rfl⟩ (λi d a b l=>by obtain⟨_,e,_⟩:=l; rwa[q0,e]) ?_ ?_
  ·rintro i v d a b hi ⟨j,m,rfl,p,g,rfl⟩;have o:i=0:=by have:=(f8.mp hi).1; rwa[C1.mp this]
   subst o;cases hi;exists _,U,_,_,U,rfl;rw[Xe.2];exact⟨m,(by show 0<sizeLine; decide),j.putNew n,zB,rfl,d8 _,_,rfl⟩
  rintro d a b ⟨j,m,rfl,_,g,rfl⟩;erw[D,[G3],U,SqL.of m,G3,U,rG ?_];exists _,U,_,0,48,U,U,sz1,U,U,_,rfl;rwa[rG ⟨_,rfl,rfl,q _ j⟩]
def xc(_:ac):Sp:=λb H Q _=>E3 λ(a:b6) (x z:V)=>A3 (b=[.ref a]) (H a=G0 (.lst [.str "sail",x,z])) (Q (.str "nn") H)
def mW(F:Fun K "form_of" "form_of" sL f fd)(Z:Zs mg)(c:Cb P w mg base)  : yV P w K mg base CX0 1 f fd ["words"] (xc K):=by
 specialize mK
 ·obtain⟨a,x,z,rfl,_⟩:=h;rfl
 obtain⟨a,x,z,rfl,b,q⟩:=h
 refine'⟨_,(zC (yJ ?_ (zG (zY (wO pC zJ (wO nO zJ ?_)))) zU)
   (zG (zY (dY c.dFORMS c.gFORMS ?_ ⟨rfl,rfl,rfl,rfl⟩)))),?_⟩
 nofun
 exists _,U,a,_,0,.str "sail",U,U,.inl (SqL.of b),U,U,_,rfl;erw[rG ?_];rwa[_,U,a,_,0,.str "sail",U,U,.inl (SqL.of b),U,.inr "sail",U,q]
def sZ(_:ac):Sp:=λc H Q _=>E2 λ(a:b6) (z:c7)=>A3 (c=[.ref a,.str "nn"]) (H a=G0 (.lst [.str "1",.str z])) ((z = "1" /\ ∀ l b,Same H b->H l=G2->b l=G0 (.lst [.int 1,.int 1])->Q (.ref l) b)\/(z = "-0" /\ ∀ b,Same H b->Q .non b))
def eI:intText? ("1" : c7)=G0 1:=by ac_nf
def wa(F:Fun K "read_values" "read_values" wW f fd)(Z:Zs mg)(G:Cb P w mg base)(C:Has P w K mg base "is_number" 1 ["word"] (qZ K)):yV P w K mg base CX0 2 f fd ["words","form"] (sZ K):=by
 specialize vK
 ·obtain⟨a,z,rfl,_⟩:=h;rfl
 obtain⟨a,z,rfl,y,q⟩:=h
 refine'⟨_,(zC (yJ (yW du ?_ (zR vC rfl Z.len qY (zA (pv 1) zD)) (vP _)) (zG (zY pS)) zU)
   (zC (yT 2 vK.nd ?_)
   (zC (rP A1 rfl (sC rfl Z.range ?_) (lm 3 vK.nd) (zG (yJ (yW dC (cI bO (pv 1) (pv 3) (λ_ _=>rfl)) zJ (vP _)) (zG (zQ (lV (pv 2) ?_))) (zG (yJ ?_ (zG (zQ (lV (pv 2) (zA (tW gk rfl Z.int en ?_) zD)))) (zG (zY pS)))))))
   (zG (zY (pv 2)))))),?_⟩
 nofun
 refine⟨_,U,a,_,U,.inl (SqL.of y),_,U,_,U,sz2,U,_,U,rG ?_⟩;refine⟨sz0,λl m=>?_⟩;have v:=zF m (.lst []);have sa:∀{g:Hp},Same H g->Sq K g a [.str "1",.str z]:=λs=>.inl (SqL.of (s _ _ y));refine⟨_,U,a,_,U,sa v,_,U,(by show(-2^62:Int)<=2; decide),(by show(2:Int)<2^62; decide),rS (lo:=0) (n:=2) (λi r g=>A4 (Same H g) (g l=G0 (.lst (i9 i (.int 1)))) (i=2->z = "1") (∃ u:Option V,r=[G0 (.ref a),G0 (.str "nn"),G0 (.ref l),u]))
  ⟨v,zB,(λe=>nomatch e),G2,rfl⟩ ?_ ?_⟩
 ·rintro i r g hi ⟨d,p,_,u,rfl⟩;have t:i=0\/i=1:=by lia
  rcases t with rfl | rfl
  ·erw[_,U,_,U,_,_,_,U,U,sz2,U,U,_,U,rG ?_];erw[_,U,_,U,a,_,_,_,U,U,sa d,U,.inl ⟨U,λB j=>?_⟩];erw[_,U,qN ?_];have b:=d.trans j;have c:=j _ _ p;exact⟨_,U,.inl ⟨U,_,SqL.of c⟩,_,U,_,U,a,_,_,_,U,U,sa b,U,_,_,U,eI,(by show 1<=640; decide),l,_,_,rfl,rfl,c,(by show 0<sizeLine; decide),(λx o e=>by rw[zL (zM e m)]; rwa[b _ _ e]),zB,(λe=>nomatch e),_,rfl⟩
  ·erw[_,U,_,U,_,_,_,U,U,sz2,U,U,_,U,rG ?_];rcases q with ⟨rfl,q⟩ | ⟨rfl,q⟩
   ·erw[_,U,_,U,a,_,_,_,U,U,sa d,U,.inl ⟨U,λB j=>?_⟩];erw[_,U,qN ?_];have b:=d.trans j;have c:=j _ _ p;exact⟨_,U,.inl ⟨U,_,SqL.of c⟩,_,U,_,U,a,_,_,_,U,U,sa b,U,_,_,U,eI,(by show 1<=640; decide),l,_,_,rfl,rfl,c,(by show 1<sizeLine; decide),(λx o e=>by rw[zL (zM e m)]; rwa[b _ _ e]),zB,(λ_=>rfl),_,rfl⟩
   ·erw[_,U,_,U,a,_,_,_,U,U,sa d,U,.inr ⟨U,λB j=>?_⟩];rwa[_,U,rG (q _ (d.trans j))]
 ·rintro r g ⟨d,p,D,u,rfl⟩;rcases q with ⟨rfl,q⟩ | ⟨rfl,q⟩
  ·rwa[_,U,q l g d m p]
  ·rwa[y8 (D rfl) (by decide)]
def wy(_:ac):Sp:=λb H Q _=>(b=[.str "sail 1 1"]/\∀ t a,Same H a->H t=G2->a t=G0 (.tup [.str "sail",.int 1,.int 1])->Q (.ref t) a)\/(b=[.str "sail 1 -0"]/\∀ a,Same H a->Q .non a)
def bP:Ej ("sail 1 1" : c7) (" " : c7)=[("sail" : c7), "1","1"]/\Ej ("sail 1 -0" : c7) (" " : c7)=[("sail" : c7), "1","-0"]:=by ac_nf
def nc(F:Fun K "deed_of" "deed_of" sJ f fd)(Z:Zs mg)(I:Cb P w mg base)(x:Has P w K mg base "read_values" 2 ["words","form"] (sZ K))(r:Has P w K mg base "form_of" 1 ["words"] (xc K)):yV P w K mg base CX0 3 f fd ["row"] (wy K):=by
 specialize tR
 ·rcases h with ⟨rfl,_⟩ | ⟨rfl,_⟩ <;> rfl
 refine'⟨_,(zC (yT 1 tR.nd (kO AL Dw DL jk (pv 0) (zA zJ zD)))
   (zC (yT 2 tR.nd ?_)
   (zC (yJ ?_ (zG (zY pS)) zU)
   (zC (yT 3 tR.nd ?_)
   (zC (yJ ?_ (zG (zY pS)) zU)
   (zC (yJ ?_ (zG (zY (yD (zA zJ (zA ?_ (zA dn zD)))))) zU)
   (zC (yJ ?_ (zG (zY ?_)) zU)
   (zG (zY (tW sX rfl Z.tuple vt (zA (wO uJ ?_ (pv 3)) zD))))))))))),?_⟩
 nofun
 rcases h with ⟨rfl,q⟩ | ⟨rfl,q⟩
 ·refine⟨_,U,U,_,_,U,U,U,(by show 10<=sizeLine; decide),λa m=>?_⟩;rw[bP.1];have j:=zF m (.lst [.str "sail",.str "1",.str "1"]);exists _,U,a,_,_,U,zB;erw[_,U,U,_,U,rG ?_];erw[_,U,_,U,a,_,U,SqL.of zB,λc e=>?_];have i:=j.trans (zF e (.lst [.str "1",.str "1"]));erw[_,U,c, "1",U,zB,.inl ⟨U,λl D d G C=>?_⟩];have b:=i.trans d;have n:=d _ _ ((zF e (.lst [.str "1",.str "1"])) _ _ (zB (H:=H) (a:=a)));erw[_,U,U,_,U,rG ?_];erw[_,U,a,_,0,.str "sail",U,U,.inl (SqL.of n),U,U,_,U,rG ?_];erw[_,U,a,_,0,.str "sail",U,U,.inl (SqL.of n),U,U,_,U,rG ?_];erw[_,U,_,U,a,_,U,SqL.of n,λu B=>?_];have g:=zF B (.lst [.str "sail"]);erw[_,U,u,l,_,_,U,U,zB,g _ _ C,sz3,λv z=>?_];have o:=zF z (.lst [.str "sail",.int 1,.int 1]);erw[v,_,U,.inl ⟨SqL.of zB,λt p=>?_⟩];have y:=zF p (.tup [.str "sail",.int 1,.int 1]);rwa[q t _ (b.trans (g.trans (o.trans y))) (b.free (g.free (o.free p))) zB]
 ·refine⟨_,U,U,_,_,U,U,U,(by show 11<=sizeLine; decide),λa m=>?_⟩;rw[bP.2];have j:=zF m (.lst [.str "sail",.str "1",.str "-0"]);exists _,U,a,_,_,U,zB;erw[_,U,U,_,U,rG ?_];erw[_,U,_,U,a,_,U,SqL.of zB,λc e=>?_];have i:=j.trans (zF e (.lst [.str "1",.str "-0"]));erw[_,U,c, "-0",U,zB,.inr ⟨U,λD d=>?_⟩];rwa[_,U,U,_,U,qN (q _ (i.trans d))]
def axW:Option (Option Cl)->b6
 | none=>yC
 | some G2=>yA
 | some (G0 c)=>axC c
def rO:Option (Option Cl)->c7
 | none => "BadRow"
 | some G2 => "NothingLeft"
 | some (G0 c)=>nameC c
def rJ(_:ac)(x:b6):Sp:=λb H Q _=>E2 λ(c:Option (Option Cl)) (d:Option b6)=>A4 (b=[.ref x]) (H x=G0 (jP x (.ref (axW c),d))) (∀ y,d=G0 y->∃ u,H y=G0 u) (∀ a,Same H a->Q (.str (rO c)) a)
def qU(_:ac):Sp:=λb H Q _=>E3 λ(x:b6) (c:Option (Option Cl)) (d:Option b6)=>A4 (b=[.ref x]) (H x=G0 (yK x (.ref (axW c),d))) (∀ y,d=G0 y->∃ u,H y=G0 u) (∀ a,Same H a->Q (.str (rO c)) a)
def mU(F:Fun K "_law_refused" "_law_refused" tG f fd)(Z:Zs mg)(g:Cb P w mg base)  : cS P w K mg base 1 f fd ["_law_e"] (rJ K):=by
 erw[F.okH zZ (λx vs H Q E h=>?_) (λx cdv A outer s H vs Q hx hr h=>?_)]
 ·obtain⟨c,d,rfl,_⟩:=h;rfl
 obtain⟨c,d,rfl,ex,hd,q⟩:=h;have j:∀{G:Hp},Same H G->G x=G0 (jP x (.ref (axW c),d))\/G x=G0 (yK x (.ref (axW c),d)):=λs=>.inl (s _ _ ex);have m:∀{G:Hp},Same H G->∀ y,d=G0 y->∃ u,G y=G0 u:=λs y e=>let ⟨u,q⟩:=hd y e;⟨u,s _ _ q⟩;have l:axW c∈YQ:=by rcases c with _ | _ | c; decide; decide; cases c <;> decide
 refine⟨_,(zC (wP (i:=1) zZ.nd rfl (Ae rfl) (xT (zA (yD (zA zJ (zA (zR (zN (B:=base) rfl) rfl Z.isinstance zK (zA (pv 0) (zA (yL g.gBadName) zD))) zD))) (zA (yD (zA zJ (zA (zR (zN (B:=base) rfl) rfl Z.isinstance zK (zA (pv 0) (zA (yL g.gTaken) zD))) zD))) (zA (yD (zA zJ (zA (zR (zN (B:=base) rfl) rfl Z.isinstance zK (zA (pv 0) (zA (yL g.gBadPlace) zD))) zD))) zD)))))
   (zC (wP (i:=1) zZ.nd rfl (Ae rfl) (wO uJ (pv 1) (xT (zA (yD (zA zJ (zA (zR (zN (B:=base) rfl) rfl Z.isinstance zK (zA (pv 0) (zA (yL g.gFull) zD))) zD))) (zA (yD (zA zJ (zA (zR (zN (B:=base) rfl) rfl Z.isinstance zK (zA (pv 0) (zA (yL g.gNoMark) zD))) zD))) (zA (yD (zA zJ (zA (zR (zN (B:=base) rfl) rfl Z.isinstance zK (zA (pv 0) (zA (yL g.gSame) zD))) zD))) zD))))))
   (zC (wP (i:=1) zZ.nd rfl (Ae rfl) (wO uJ (pv 1) (xT (zA (yD (zA zJ (zA (zR (zN (B:=base) rfl) rfl Z.isinstance zK (zA (pv 0) (zA (yL g.gNeeded) zD))) zD))) (zA (yD (zA zJ (zA (zR (zN (B:=base) rfl) rfl Z.isinstance zK (zA (pv 0) (zA (yL g.gBadBank) zD))) zD))) zD)))))
   (zC (wP (i:=1) zZ.nd rfl (Ae rfl) (wO uJ (pv 1) (xT (zA (yD (zA zJ (zA (zR (zN (B:=base) rfl) rfl Z.isinstance zK (zA (pv 0) (zA (yL g.gNoBank) zD))) zD))) (zA (yD (zA zJ (zA (zR (zN (B:=base) rfl) rfl Z.isinstance zK (zA (pv 0) (zA (yL g.gBadRun) zD))) zD))) (zA (yD (zA zJ (zA (zR (zN (B:=base) rfl) rfl Z.isinstance zK (zA (pv 0) (zA (yL g.gNoRun) zD))) zD))) zD))))))
   (zC (wP (i:=1) zZ.nd rfl (Ae rfl) (wO uJ (pv 1) (xT (zA (yD (zA zJ (zA (zR (zN (B:=base) rfl) rfl Z.isinstance zK (zA (pv 0) (zA (yL g.gNoMoment) zD))) zD))) (zA (yD (zA zJ (zA (zR (zN (B:=base) rfl) rfl Z.isinstance zK (zA (pv 0) (zA (yL g.gBadWay) zD))) zD))) zD)))))
   (zC (wP (i:=1) zZ.nd rfl (Ae rfl) (wO uJ (pv 1) (xT (zA (yD (zA zJ (zA (zR (zN (B:=base) rfl) rfl Z.isinstance zK (zA (pv 0) (zA (yL g.gBadTurn) zD))) zD))) (zA (yD (zA zJ (zA (zR (zN (B:=base) rfl) rfl Z.isinstance zK (zA (pv 0) (zA (yL g.gNoNote) zD))) zD))) zD)))))
   (zC (wP (i:=1) zZ.nd rfl (Ae rfl) (wO uJ (pv 1) (xT (zA (yD (zA zJ (zA (zR (zN (B:=base) rfl) rfl Z.isinstance zK (zA (pv 0) (zA (yL g.gNothingLeft) zD))) zD))) (zA (yD (zA zJ (zA (zR (zN (B:=base) rfl) rfl Z.isinstance zK (zA (pv 0) (zA (yL g.gBadRow) zD))) zD))) zD)))))
   (zC (wP (i:=1) zZ.nd rfl (Ae rfl) (wO uJ (pv 1) (xT (zA (yD (zA zJ (zA (fY (zR (zN (B:=base) rfl) rfl Z.isinstance zK (zA (pv 0) (zA (rH (v:=.ty "ValueError") rfl Z.ValueError yr rfl) zD)))) zD))) zD))))
   (zG (zY (kO AL D2 D3 gU zJ (zA (cH (T:=["_law_word","_law_is_so"]) (caps:=[]) ⟨rfl,by ac_nf,by ac_nf,rfl,q0⟩ hx (dS x (pv 1)) (λ_=>(al hx (qF (zx (i:=0) (show(["_law_word","_law_is_so"]:List c7).Nodup by ac_nf) rfl (Ae rfl)) (qF (zx (i:=1) (show(["_law_word","_law_is_so"]:List c7).Nodup by ac_nf) rfl (Ae rfl)) kz)))) (λ_=>(jL (qP (pv 1)))) (λ_=>(pv 0))) zD)))))))))))),?_⟩
 try dsimp only[L2.cxOf,L2.cxComp,L2.Cx.nox,mi,lz]
 erw[MkA.seqL (H:=H) (.cons (.of rfl λG Q s k=>⟨x,axW c,d,_,_,_,rfl,.inr ⟨_,rfl,rfl⟩,j s,m s,yE g.isx l (by decide),k⟩) (.cons (.of rfl λG Q s k=>⟨x,axW c,d,_,_,_,rfl,.inr ⟨_,rfl,rfl⟩,j s,m s,yE g.isx l (by decide),k⟩) (.cons (.of rfl λG Q s k=>⟨x,axW c,d,_,_,_,rfl,.inr ⟨_,rfl,rfl⟩,j s,m s,yE g.isx l (by decide),k⟩) .nil))) (c8 rfl) (Same.refl _) λz p G S n R=>?_];erw[MkA.seqC (H:=H) (.cons (.of rfl λG Q s k=>⟨x,axW c,d,_,_,_,rfl,.inr ⟨_,rfl,rfl⟩,j s,m s,yE g.isx l (by decide),k⟩) (.cons (.of rfl λG Q s k=>⟨x,axW c,d,_,_,_,rfl,.inr ⟨_,rfl,rfl⟩,j s,m s,yE g.isx l (by decide),k⟩) (.cons (.of rfl λG Q s k=>⟨x,axW c,d,_,_,_,rfl,.inr ⟨_,rfl,rfl⟩,j s,m s,yE g.isx l (by decide),k⟩) .nil))) (c8 rfl) S rfl n R (c8 rfl) λz p G S n R=>?_];erw[MkA.seqC (H:=H) (.cons (.of rfl λG Q s k=>⟨x,axW c,d,_,_,_,rfl,.inr ⟨_,rfl,rfl⟩,j s,m s,yE g.isx l (by decide),k⟩) (.cons (.of rfl λG Q s k=>⟨x,axW c,d,_,_,_,rfl,.inr ⟨_,rfl,rfl⟩,j s,m s,yE g.isx l (by decide),k⟩) .nil)) (c8 rfl) S rfl n R (c8 rfl) λz p G S n R=>?_];erw[MkA.seqC (H:=H) (.cons (.of rfl λG Q s k=>⟨x,axW c,d,_,_,_,rfl,.inr ⟨_,rfl,rfl⟩,j s,m s,yE g.isx l (by decide),k⟩) (.cons (.of rfl λG Q s k=>⟨x,axW c,d,_,_,_,rfl,.inr ⟨_,rfl,rfl⟩,j s,m s,yE g.isx l (by decide),k⟩) (.cons (.of rfl λG Q s k=>⟨x,axW c,d,_,_,_,rfl,.inr ⟨_,rfl,rfl⟩,j s,m s,yE g.isx l (by decide),k⟩) .nil))) (c8 rfl) S rfl n R (c8 rfl) λz p G S n R=>?_];erw[MkA.seqC (H:=H) (.cons (.of rfl λG Q s k=>⟨x,axW c,d,_,_,_,rfl,.inr ⟨_,rfl,rfl⟩,j s,m s,yE g.isx l (by decide),k⟩) (.cons (.of rfl λG Q s k=>⟨x,axW c,d,_,_,_,rfl,.inr ⟨_,rfl,rfl⟩,j s,m s,yE g.isx l (by decide),k⟩) .nil)) (c8 rfl) S rfl n R (c8 rfl) λz p G S n R=>?_];erw[MkA.seqC (H:=H) (.cons (.of rfl λG Q s k=>⟨x,axW c,d,_,_,_,rfl,.inr ⟨_,rfl,rfl⟩,j s,m s,yE g.isx l (by decide),k⟩) (.cons (.of rfl λG Q s k=>⟨x,axW c,d,_,_,_,rfl,.inr ⟨_,rfl,rfl⟩,j s,m s,yE g.isx l (by decide),k⟩) .nil)) (c8 rfl) S rfl n R (c8 rfl) λz p G S n R=>?_];erw[MkA.seqC (H:=H) (.cons (.of rfl λG Q s k=>⟨x,axW c,d,_,_,_,rfl,.inr ⟨_,rfl,rfl⟩,j s,m s,yE g.isx l (by decide),k⟩) (.cons (.of rfl λG Q s k=>⟨x,axW c,d,_,_,_,rfl,.inr ⟨_,rfl,rfl⟩,j s,m s,yE g.isx l (by decide),k⟩) .nil)) (c8 rfl) S rfl n R (c8 rfl) λz p G S n R=>?_];erw[MkA.seqC (H:=H) (.cons (x := "none") (b:=G4) (λG K s k=>⟨_,rfl,x,axW c,d,.ty "ValueError",.type "ValueError",G3,rfl,.inl ⟨_,rfl,rfl⟩,j s,m s,hX g.isx l,_,rfl,sz2,k⟩) .nil) (c8 rfl) S rfl n R (c8 rfl) λz p G S n R=>?_];have lt:p.length<=100:=by rw[R.len]; show 18<=100; decide
 obtain⟨r,o⟩:∃ r,r=([(d4 "BadName",axW c == yS),(d4 "Taken",axW c == wL),(d4 "BadPlace",axW c == yO),(d4 "Full",axW c == uM),(d4 "NoMark",axW c == xL),(d4 "Same",axW c == vI),(d4 "Needed",axW c == xM),(d4 "BadBank",axW c == xC),(d4 "NoBank",axW c == xR),(d4 "BadRun",axW c == xJ),(d4 "NoRun",axW c == uD),(d4 "NoMoment",axW c == yI),(d4 "BadWay",axW c == xH),(d4 "BadTurn",axW c == xG),(d4 "NoNote",axW c == xO),(d4 "NothingLeft",axW c == yA),(d4 "BadRow",axW c == yC),(d4 "none",G4)]:List (c7×Bool)):=⟨_,rfl⟩
 replace R:um G p r:=by rw[o]; rwa[R]
 have Y:Cg (d4 " ") ((r.filter (·.2)).map (·.1))=rO c:=by rw[o]; clear o R; rcases c with _ | _ | c; symm; symm; cases c <;> symm
 have l100:qz (d4 " ") ((r.filter (·.2)).map (·.1))<=1000:=by rw[o]; clear o R Y; rcases c with _ | _ | c; ac_nf; ac_nf; cases c <;> ac_nf
 clear o;have N:=S _ _ ex;refine⟨U,_,U,z,U,⟨_,SqL.of n⟩,λcc D hD=>ib (K:=K) (a:=z) (x:=x) (xs:=p.map V.ref) (λi O M L=>A5 (Same G L) (L D=G0 (.lst M)) (M=((r.take i).filter (·.2)).map (λw=>V.str w.1)) (i<=p.length) (E2 λ(u v:Option V)=>O=[u,v]))
  ⟨zF hD _,zB,rfl,j8 _,G2,G2,rfl⟩ (λi O M L _ X=>⟨SqL.of (X.1 _ _ n),X.2,⟨_,X.1 _ _ N⟩⟩) ?_ ?_⟩
 ·rintro i v O M L gv ⟨I,J,rfl,hi,u1,u2,rfl⟩;rw[i3,j5] at gv;obtain⟨t,gt,rfl⟩:=gv;have C:=(f8.mp gt).1;obtain⟨w,gw⟩:∃ w,r[i]?=G0 w:=⟨_,e7 (by rw[<- R.len]; rwa[C])⟩;have et:=I _ _ (R.at_ i t w gt gw);exists ⟨_,I _ _ N⟩,t,_,U,SqT.of et,U,.str w.1,_,U,.bl w.2,_,U,U,_,U,w.2,rfl;rw[AV,gw];cases hw:w.2 with
  | false=>rwa[rG ⟨I,J,by rw[B6]; simp[hw],C,_,_,rfl⟩]
  | true =>
   erw[qN ⟨_,rfl,J,yH ?_,I.putNew hD,zB,by rw[B6,j6]; simp[hw],C,_,_,rfl⟩];rw[c5];erw[g9 (Ax _ _) ?_];rw[Az];lia
 ·rintro O M L ⟨I,J,rfl,_,u1,u2,rfl⟩;rw[c5,R.len,AR] at J;have e1:(r.filter (·.2)).map (λw=>V.str w.1)=((r.filter (·.2)).map (·.1)).map V.str:=by rw[Bt]; rfl
  rw[e1] at J;refine⟨d4 " ",D,_,U,U,SqL.of J,by show _<=2^24; lia,?_⟩;rw[Y];rwa[q L (S.trans I)]

def pw(F:Fun K "_law_refused" "_law_refused" tG f fd)(Z:Zs mg)(g:Cb P w mg base)  : yV P w K mg base CX0 1 f fd ["_law_e"] (qU K):=by
 specialize zZ
 ·obtain⟨x,c,d,rfl,_⟩:=h;rfl
 obtain⟨x,c,d,rfl,ex,hd,q⟩:=h;have j:∀{G:Hp},Same H G->G x=G0 (jP x (.ref (axW c),d))\/G x=G0 (yK x (.ref (axW c),d)):=λs=>.inr (s _ _ ex);have m:∀{G:Hp},Same H G->∀ y,d=G0 y->∃ u,G y=G0 u:=λs y e=>let ⟨u,q⟩:=hd y e;⟨u,s _ _ q⟩;have l:axW c∈YQ:=by rcases c with _ | _ | c; decide; decide; cases c <;> decide
 refine⟨_,(zC (wP (i:=1) zZ.nd rfl (Ae rfl) (xT (zA (yD (zA zJ (zA (zR (zN (B:=base) rfl) rfl Z.isinstance zK (zA (pv 0) (zA (yL g.gBadName) zD))) zD))) (zA (yD (zA zJ (zA (zR (zN (B:=base) rfl) rfl Z.isinstance zK (zA (pv 0) (zA (yL g.gTaken) zD))) zD))) (zA (yD (zA zJ (zA (zR (zN (B:=base) rfl) rfl Z.isinstance zK (zA (pv 0) (zA (yL g.gBadPlace) zD))) zD))) zD)))))
   (zC (wP (i:=1) zZ.nd rfl (Ae rfl) (wO uJ (pv 1) (xT (zA (yD (zA zJ (zA (zR (zN (B:=base) rfl) rfl Z.isinstance zK (zA (pv 0) (zA (yL g.gFull) zD))) zD))) (zA (yD (zA zJ (zA (zR (zN (B:=base) rfl) rfl Z.isinstance zK (zA (pv 0) (zA (yL g.gNoMark) zD))) zD))) (zA (yD (zA zJ (zA (zR (zN (B:=base) rfl) rfl Z.isinstance zK (zA (pv 0) (zA (yL g.gSame) zD))) zD))) zD))))))
   (zC (wP (i:=1) zZ.nd rfl (Ae rfl) (wO uJ (pv 1) (xT (zA (yD (zA zJ (zA (zR (zN (B:=base) rfl) rfl Z.isinstance zK (zA (pv 0) (zA (yL g.gNeeded) zD))) zD))) (zA (yD (zA zJ (zA (zR (zN (B:=base) rfl) rfl Z.isinstance zK (zA (pv 0) (zA (yL g.gBadBank) zD))) zD))) zD)))))
   (zC (wP (i:=1) zZ.nd rfl (Ae rfl) (wO uJ (pv 1) (xT (zA (yD (zA zJ (zA (zR (zN (B:=base) rfl) rfl Z.isinstance zK (zA (pv 0) (zA (yL g.gNoBank) zD))) zD))) (zA (yD (zA zJ (zA (zR (zN (B:=base) rfl) rfl Z.isinstance zK (zA (pv 0) (zA (yL g.gBadRun) zD))) zD))) (zA (yD (zA zJ (zA (zR (zN (B:=base) rfl) rfl Z.isinstance zK (zA (pv 0) (zA (yL g.gNoRun) zD))) zD))) zD))))))
   (zC (wP (i:=1) zZ.nd rfl (Ae rfl) (wO uJ (pv 1) (xT (zA (yD (zA zJ (zA (zR (zN (B:=base) rfl) rfl Z.isinstance zK (zA (pv 0) (zA (yL g.gNoMoment) zD))) zD))) (zA (yD (zA zJ (zA (zR (zN (B:=base) rfl) rfl Z.isinstance zK (zA (pv 0) (zA (yL g.gBadWay) zD))) zD))) zD)))))
   (zC (wP (i:=1) zZ.nd rfl (Ae rfl) (wO uJ (pv 1) (xT (zA (yD (zA zJ (zA (zR (zN (B:=base) rfl) rfl Z.isinstance zK (zA (pv 0) (zA (yL g.gBadTurn) zD))) zD))) (zA (yD (zA zJ (zA (zR (zN (B:=base) rfl) rfl Z.isinstance zK (zA (pv 0) (zA (yL g.gNoNote) zD))) zD))) zD)))))
   (zC (wP (i:=1) zZ.nd rfl (Ae rfl) (wO uJ (pv 1) (xT (zA (yD (zA zJ (zA (zR (zN (B:=base) rfl) rfl Z.isinstance zK (zA (pv 0) (zA (yL g.gNothingLeft) zD))) zD))) (zA (yD (zA zJ (zA (zR (zN (B:=base) rfl) rfl Z.isinstance zK (zA (pv 0) (zA (yL g.gBadRow) zD))) zD))) zD)))))
   (zC (wP (i:=1) zZ.nd rfl (Ae rfl) (wO uJ (pv 1) (xT (zA (yD (zA zJ (zA (fY (zR (zN (B:=base) rfl) rfl Z.isinstance zK (zA (pv 0) (zA (rH (v:=.ty "ValueError") rfl Z.ValueError yr rfl) zD)))) zD))) zD))))
   (zG (zY (kO AL D2 D3 gU zJ (zA (rW (T:=["_law_word","_law_is_so"]) (caps:=[]) ⟨rfl,by ac_nf,by ac_nf,rfl,q0⟩ rfl (lh (pv 1)) (λ_=>(bM rfl (qF (zx (i:=0) (show(["_law_word","_law_is_so"]:List c7).Nodup by ac_nf) rfl (Ae rfl)) (qF (zx (i:=1) (show(["_law_word","_law_is_so"]:List c7).Nodup by ac_nf) rfl (Ae rfl)) kz)))) (λ_=>(jL (qP (pv 1)))) (λ_=>(pv 0))) zD)))))))))))),?_⟩
 try dsimp only[L2.cxOf,L2.cxComp,L2.Cx.nox,mi,lz]
 erw[MkA.seqL (H:=H) (.cons (.of rfl λG Q s k=>⟨x,axW c,d,_,_,_,rfl,.inr ⟨_,rfl,rfl⟩,j s,m s,yE g.isx l (by decide),k⟩) (.cons (.of rfl λG Q s k=>⟨x,axW c,d,_,_,_,rfl,.inr ⟨_,rfl,rfl⟩,j s,m s,yE g.isx l (by decide),k⟩) (.cons (.of rfl λG Q s k=>⟨x,axW c,d,_,_,_,rfl,.inr ⟨_,rfl,rfl⟩,j s,m s,yE g.isx l (by decide),k⟩) .nil))) (c8 rfl) (Same.refl _) λz p G S n R=>?_];erw[MkA.seqC (H:=H) (.cons (.of rfl λG Q s k=>⟨x,axW c,d,_,_,_,rfl,.inr ⟨_,rfl,rfl⟩,j s,m s,yE g.isx l (by decide),k⟩) (.cons (.of rfl λG Q s k=>⟨x,axW c,d,_,_,_,rfl,.inr ⟨_,rfl,rfl⟩,j s,m s,yE g.isx l (by decide),k⟩) (.cons (.of rfl λG Q s k=>⟨x,axW c,d,_,_,_,rfl,.inr ⟨_,rfl,rfl⟩,j s,m s,yE g.isx l (by decide),k⟩) .nil))) (c8 rfl) S rfl n R (c8 rfl) λz p G S n R=>?_];erw[MkA.seqC (H:=H) (.cons (.of rfl λG Q s k=>⟨x,axW c,d,_,_,_,rfl,.inr ⟨_,rfl,rfl⟩,j s,m s,yE g.isx l (by decide),k⟩) (.cons (.of rfl λG Q s k=>⟨x,axW c,d,_,_,_,rfl,.inr ⟨_,rfl,rfl⟩,j s,m s,yE g.isx l (by decide),k⟩) .nil)) (c8 rfl) S rfl n R (c8 rfl) λz p G S n R=>?_];erw[MkA.seqC (H:=H) (.cons (.of rfl λG Q s k=>⟨x,axW c,d,_,_,_,rfl,.inr ⟨_,rfl,rfl⟩,j s,m s,yE g.isx l (by decide),k⟩) (.cons (.of rfl λG Q s k=>⟨x,axW c,d,_,_,_,rfl,.inr ⟨_,rfl,rfl⟩,j s,m s,yE g.isx l (by decide),k⟩) (.cons (.of rfl λG Q s k=>⟨x,axW c,d,_,_,_,rfl,.inr ⟨_,rfl,rfl⟩,j s,m s,yE g.isx l (by decide),k⟩) .nil))) (c8 rfl) S rfl n R (c8 rfl) λz p G S n R=>?_];erw[MkA.seqC (H:=H) (.cons (.of rfl λG Q s k=>⟨x,axW c,d,_,_,_,rfl,.inr ⟨_,rfl,rfl⟩,j s,m s,yE g.isx l (by decide),k⟩) (.cons (.of rfl λG Q s k=>⟨x,axW c,d,_,_,_,rfl,.inr ⟨_,rfl,rfl⟩,j s,m s,yE g.isx l (by decide),k⟩) .nil)) (c8 rfl) S rfl n R (c8 rfl) λz p G S n R=>?_];erw[MkA.seqC (H:=H) (.cons (.of rfl λG Q s k=>⟨x,axW c,d,_,_,_,rfl,.inr ⟨_,rfl,rfl⟩,j s,m s,yE g.isx l (by decide),k⟩) (.cons (.of rfl λG Q s k=>⟨x,axW c,d,_,_,_,rfl,.inr ⟨_,rfl,rfl⟩,j s,m s,yE g.isx l (by decide),k⟩) .nil)) (c8 rfl) S rfl n R (c8 rfl) λz p G S n R=>?_];erw[MkA.seqC (H:=H) (.cons (.of rfl λG Q s k=>⟨x,axW c,d,_,_,_,rfl,.inr ⟨_,rfl,rfl⟩,j s,m s,yE g.isx l (by decide),k⟩) (.cons (.of rfl λG Q s k=>⟨x,axW c,d,_,_,_,rfl,.inr ⟨_,rfl,rfl⟩,j s,m s,yE g.isx l (by decide),k⟩) .nil)) (c8 rfl) S rfl n R (c8 rfl) λz p G S n R=>?_];erw[MkA.seqC (H:=H) (.cons (x := "none") (b:=G4) (λG K s k=>⟨_,rfl,x,axW c,d,.ty "ValueError",.type "ValueError",G3,rfl,.inl ⟨_,rfl,rfl⟩,j s,m s,hX g.isx l,_,rfl,sz2,k⟩) .nil) (c8 rfl) S rfl n R (c8 rfl) λz p G S n R=>?_];have lt:p.length<=100:=by rw[R.len]; show 18<=100; decide
 obtain⟨r,o⟩:∃ r,r=([(d4 "BadName",axW c == yS),(d4 "Taken",axW c == wL),(d4 "BadPlace",axW c == yO),(d4 "Full",axW c == uM),(d4 "NoMark",axW c == xL),(d4 "Same",axW c == vI),(d4 "Needed",axW c == xM),(d4 "BadBank",axW c == xC),(d4 "NoBank",axW c == xR),(d4 "BadRun",axW c == xJ),(d4 "NoRun",axW c == uD),(d4 "NoMoment",axW c == yI),(d4 "BadWay",axW c == xH),(d4 "BadTurn",axW c == xG),(d4 "NoNote",axW c == xO),(d4 "NothingLeft",axW c == yA),(d4 "BadRow",axW c == yC),(d4 "none",G4)]:List (c7×Bool)):=⟨_,rfl⟩
 replace R:um G p r:=by rw[o]; rwa[R]
 have O:Cg (d4 " ") ((r.filter (·.2)).map (·.1))=rO c:=by rw[o]; clear o R; rcases c with _ | _ | c; symm; symm; cases c <;> symm
 have X:qz (d4 " ") ((r.filter (·.2)).map (·.1))<=1000:=by rw[o]; clear o R O; rcases c with _ | _ | c; ac_nf; ac_nf; cases c <;> ac_nf
 clear o;refine⟨U,_,U,z,U,.inl ⟨⟨_,SqL.of n⟩,λcc D hD=>nY (K:=K) (a:=z) (xs:=p.map V.ref) (λi N L J=>A5 (Same G J) (J D=G0 (.lst L)) (L=((r.take i).filter (·.2)).map (λw=>V.str w.1)) (i<=p.length) (E2 λ(u v:Option V)=>N=[u,v]))
  ⟨zF hD _,zB,rfl,j8 _,G2,G2,rfl⟩ (λi N L J _ hP=>⟨SqL.of (hP.1 _ _ n),hP.2⟩) ?_ ?_⟩⟩
 ·rintro i v N L J gv ⟨M,I,rfl,hi,u1,u2,rfl⟩;rw[i3,j5] at gv;obtain⟨t,gt,rfl⟩:=gv;have C:=(f8.mp gt).1;obtain⟨w,gw⟩:∃ w,r[i]?=G0 w:=⟨_,e7 (by rw[<- R.len]; rwa[C])⟩;have et:=M _ _ (R.at_ i t w gt gw);exists t,_,U,SqT.of et,U,.str w.1,_,U,.bl w.2,_,U,U,_,U,w.2,rfl;rw[AV,gw];cases Y:w.2 with
  | false=>rwa[rG ⟨M,I,by rw[B6]; simp[Y],C,_,_,rfl⟩]
  | true =>
   erw[qN ⟨_,rfl,I,yH ?_,M.putNew hD,zB,by rw[B6,j6]; simp[Y],C,_,_,rfl⟩];rw[c5];erw[g9 (Ax _ _) ?_];rw[Az];lia
 ·rintro N L J ⟨M,I,rfl,_,u1,u2,rfl⟩;rw[c5,R.len,AR] at I;have e1:(r.filter (·.2)).map (λw=>V.str w.1)=((r.filter (·.2)).map (·.1)).map V.str:=by rw[Bt]; rfl
  rw[e1] at I;refine⟨d4 " ",D,_,U,U,SqL.of I,by show _<=2^24; lia,?_⟩;rw[O];rwa[q J (S.trans M)]
def pj(_:ac):Sp:=λa H Q _=>∃(n:Int),a=[.int n]/\∀ v:Int,0<=v->v<1000003->Q (.int v) H
def iD(F:Fun K "_law_power" "_law_power" yl f fd)(Z:Zs mg):yV P w K mg base CX0 1 f fd ["_law_number"] (pj K):=by
 specialize ii
 ·obtain⟨n,rfl,_⟩:=h;rfl
 obtain⟨n,rfl,q⟩:=h
 refine'⟨_,(zG (zY ?_)),?_⟩
 nofun
 have h1:=Bv n (show(1000003:Int)≠0 by decide);have h2:=AW n (show(0:Int)<1000003 by decide);exists _,U,_,_,U,U,(by show(0:Int)<1000003; decide),_,_,rfl,rfl,⟨by decide,by decide,by lia⟩,_,_,rfl,rfl,(by show(0:Int)<1000003; decide);rwa[q _ (Bv _ (by decide)) (AW _ (by decide))]
def pH(K:ac):Sp:=λd H Q _=>E3 λ(a:b6) (ns:List Int) (b:Int)=>A6 (d=[.ref a,.int b]) (SqL K H a (ns.map V.int)) (ns.length<=63) (0<=b) (b<=500) (∀(r:b6)(rows:List Int)(c:Hp),Same H c->H r=G2->c r=G0 (.lst (rows.map V.int))->b<=rows.length->rows.length<=600->(∀ x∈rows,0<=x/\x<1000003)->Q (.ref r) c)
structure ri(H:Hp)(r c:b6)(ms:List Int)(H':Hp)(rows:List Int):Prop where
 same:Same H H'
 src:H' c=G0 (.lst (ms.map V.int))
 at':H' r=G0 (.lst (rows.map V.int))
 bd:∀ x∈rows,0<=x/\x<1000003
def ri.app{H h:Hp}{v:Int}(d:ri H r c g h rows)(j:H r=G2)(a:c≠r)(h0:0<=v)(h1:v<1000003):ri H r c g (upd h r (.lst (rows.map V.int++[.int v]))) (rows++[v]):=by
 erw[λb o e=>?_,?_,?_,λx i=>?_]
 ·rw[zL (zM e j)];rwa[d.same b o e]
 ·rw[zL a];rwa[d.src]
 ·rw[zB,j6];rfl
 ·rcases w6.mp i with e | e
  ·rwa[d.bd x e]
  ·rw[f7] at e;rw[e];rwa[h0,h1]
def cutR{ok:Int->Hp->Prop}{G:Prop}{R:Int->Hp->Prop}(h1:(∀ m H,ok m H->R m H)->G)(h2:∀ m H,ok m H->R m H):G:=h1 h2
def iJ(F:Fun K "_law_draws" "_law_draws" yx f fd)(Z:Zs mg)(CB:Cb P w mg base)(yBq:Has P w K mg base "_law_power" 1 ["_law_number"] (pj K)):yV P w K mg base CX0 2 f fd ["_law_script","_law_many"] (pH K):=by
 specialize wA
 ·obtain⟨a,ns,b,rfl,_⟩:=h;rfl
 obtain⟨a,ns,b,rfl,hS,hl,hm0,hm1,q⟩:=h
 refine'⟨_,(zC (yT 2 wA.nd ?_)
   (zC (yT 3 wA.nd yR)
   (zC (rP A1 rfl (gP ?_) (lm 4 wA.nd) (zC (yT 3 wA.nd ?_)
   (zC (yT 5 wA.nd ?_)
   (zC (yJ ?_ (zC (zQ (lV (pv 2) ?_))
   (zG (yT 5 wA.nd yR))) zU)
   (zG (ja A1 ?_ (zC (zQ (lV (pv 2) ?_))
   (zG (yT 5 wA.nd ?_)))))))))
   (zC (ja A1 ?_ (zC (yT 3 wA.nd ?_)
   (zG (zQ (lV (pv 2) ?_)))))
   (zG (zY (pv 2))))))),?_⟩
 nofun
 refine⟨sz0,λr o=>?_⟩;have S1:=zF o (.lst []);refine⟨_,U,_,U,a,_,U,S1.seq hS,λc S=>⟨c,U,⟨_,SqL.of zB⟩,?_⟩⟩;rw[fj];generalize hms:((ns.drop (HT.sIx ns.length 0 G2)).take (HT.sIx ns.length ns.length (G0 63)-HT.sIx ns.length 0 G2))=M;have hml:M.length<=63:=by
  rw[<- hms,Az,Dl];lia
 have t:c≠r:=λe=>by
  rw[e,zB] at S;cases S
 have hc0:H c=none:=S1.free S;refine jT (K:=K) (a:=c) (xs:=M.map V.int) (λi m C=>E4 λ(rows:List Int) (g:Int) (u v:Option V)=>A5 (m=[G0 (.ref a),G0 (.int b),G0 (.ref r),G0 (.int g),u,v]) (ri H r c M C rows) (0<=g) (g<2147483647) (rows.length<=b.toNat+i))
  ⟨[],7,G2,G2,rfl,⟨S1.trans (zF S _),zB,by rw[zL (Av t),zB]; rfl,λx hx=>nomatch hx⟩,by decide,by decide,j8 _⟩ (λi m C _ Y=>by obtain⟨_,_,_,_,_,d,_⟩:=Y; rwa[SqL.of d.src]) ?_ ?_
 ·rintro i x m C hi ⟨rows,g,u,v,rfl,d,G,D,I⟩;obtain⟨n,hn,rfl⟩:=xn hi;have hi63:i<63:=g6 (f8.mp hn).1 hml;exists _,U,_,_,U,U,.inr ⟨by decide,by decide⟩,_,U,_,_,U,U,_,_,U,U,(by show(0:Int)<2147483647; decide);have R:=Bv (g*48271+n) (show(2147483647:Int)≠0 by decide);have O:=AW (g*48271+n) (show(0:Int)<2147483647 by decide);exists _,U,n,rfl;have a0:0<=(if n<0 then -n else n):=by split <;> lia
  generalize (if n<0 then -n else n)=rest at a0 ⊢;revert C rest;apply cutR (ok:=λrest y=>0<=rest/\∃ rows,ri H r c M y rows/\rows.length<=b.toNat+(i+1))
  ·intro B C d rest a0;exists _,U,_,_,U,U,⟨by decide,by decide,by decide⟩,_,_,U,U,_,rfl;erw[ifD (λX=>?_) (λX=>?_)];rotate_left
   ·rwa[B rest C ⟨a0,rows,d,by lia⟩]
   ·erw[_,U,.inl ⟨U,_,SqL.of d.at'⟩,_,U,_,U,r,_,U,.inl (SqL.of d.at'),_,_,U,U,.inl ⟨by decide,by decide⟩,_,_,U,U,_,U,λv L J=>?_];exists r,_,_,U,U,d.at',yH (by rw[c5]; lia);rwa[B 0 _ ⟨Int.le_refl 0,_,d.app o t L J,by rw[d5,Aw]; lia⟩]
  clear I rows;rintro rest C ⟨j0,rows,j1,j2⟩;refine jM (λm y=>E2 λ(rows:List Int) (rest:Int)=>A4 (m=[G0 (.ref a),G0 (.int b),G0 (.ref r),G0 (.int ((g*48271+n)%2147483647)),G0 (.int n),G0 (.int rest)]) (0<=rest) (ri H r c M y rows) (rows.length<=b.toNat+(i+1)))
   (λm _=>match m with | [_,_,_,_,_,G0 (.int z)]=>z.toNat | _=>0) ⟨_,_,rfl,j0,j1,j2⟩ ?_ (Ys (kZ (aY Zo lu mo_c)) (kZ (aY Zo (Xx bA (gW lu bu)) lu)))
  rintro m y ⟨rows,rest,rfl,r0,l,T⟩;exists _,U,_,_,U,U,_,rfl;erw[ifD (λN=>?_) (λN=>?_)]
  ·exists _,U,r,_,U,.inl (SqL.of l.at'),_,U,_,_,U,U,_,rfl;erw[ifD (λp=>?_) (λp=>?_)]
   ·have j:((rows.map V.int).length:Int)<b:=p;rw[c5] at j;exists _,U,.inl ⟨U,_,SqL.of l.at'⟩,_,U,_,_,U,U,(by show(0:Int)<1000003; decide),r,_,_,rfl,rfl,l.at',yH (by rw[c5]; lia);have L:=Bv rest (show(1000003:Int)≠0 by decide);have J:=AW rest (show(0:Int)<1000003 by decide);exists _,U,_,_,U,U,cW.of (by decide) (by ac_nf),⟨rows++[rest%1000003],_,U,by lia,l.app o t L J,by rw[d5,Aw]; lia⟩;show(rest/1000003).toNat<rest.toNat;lia
   ·rwa[rows,_,_,_,U,l,R,O,T]
  ·rwa[rows,_,_,_,U,l,R,O,T]
 ·rintro m C ⟨rows,g,u,v,rfl,d,G,D,I⟩;rw[c5] at I;refine jM (λm y=>E2 λ(rows:List Int) (g:Int)=>A6 (m=[G0 (.ref a),G0 (.int b),G0 (.ref r),G0 (.int g),u,v]) (ri H r c M y rows) (0<=g) (g<2147483647) (rows.length<=b.toNat+63) (y r=G0 (.lst (rows.map V.int))))
   (λm y=>match y r with | some (.lst xs)=>b.toNat-xs.length | _=>0) ⟨rows,g,rfl,d,G,D,by lia,d.at'⟩ ?_ (kZ (aY Zo (Xx bA (gW lu bu)) lu))
  rintro m y ⟨rows,g,rfl,l,G,D,T,ha2⟩;exists _,U,r,_,U,.inl (SqL.of l.at'),_,U,_,_,U,U,_,rfl;erw[ifD (λp=>?_) (λp=>?_)]
  ·have j:((rows.map V.int).length:Int)<b:=p;rw[c5] at j;exists _,U,_,_,U,U,.inr ⟨by decide,by decide⟩,_,_,U,U,_,_,U,U,(by show(0:Int)<2147483647; decide);have R:=Bv (g*48271+11) (show(2147483647:Int)≠0 by decide);have O:=AW (g*48271+11) (show(0:Int)<2147483647 by decide);erw[_,U,.inl ⟨U,_,SqL.of l.at'⟩,_,U,_,U,λv L J=>?_];exists r,_,_,U,U,l.at',yH (by rw[c5]; lia),⟨rows++[v],_,rfl,l.app o t L J,R,O,by rw[d5,Aw]; lia,(l.app o t L J).at'⟩;rw[ha2,zB];show b.toNat-(rows.map V.int++[V.int v]).length<b.toNat-(rows.map V.int).length;rw[d5,c5,Aw];lia
  ·have j:¬ ((rows.map V.int).length:Int)<b:=p;rw[c5] at j;rwa[_,U,q r rows y l.same o l.at' (by lia) (by lia) l.bd]
def DR(H:Hp):Nat->V->V->Prop
 | 0,x,y=>x=y/\((∃ i,x=.int i)\/(∃ b,x=.bl b)\/(∃ z,x=.str z)\/x=.non)
 | n+1,x,y=>(x=y/\((∃ i,x=.int i)\/(∃ b,x=.bl b)\/(∃ z,x=.str z)\/x=.non))\/∃(a b:b6)(c d:List V)(l:Bool),x=.ref a/\y=.ref b/\H a=G0 (if l then .lst c else .tup c)/\H b=G0 (if l then .lst d else .tup d)/\c.length=d.length/\c.length<=1000 /\
   ∀(i:Nat)(u v:V),c[i]?=G0 u->d[i]?=G0 v->DR H n u v
def DR.same{H c:Hp}(e:Same H c):∀{n:Nat}{x y:V},DR H n x y->DR c n x y
 | 0,_,_,h=>h
 | n+1,x,y,h=>by
  rcases h with h | ⟨a,b,g,d,l,p,o,h1,h2,h3,h4,h5⟩
  ·rwa[.inl h]
  ·rwa[.inr ⟨a,b,g,d,l,p,o,e _ _ h1,e _ _ h2,h3,h4,λi u v m j=>DR.same e (h5 i u v m j)⟩]
def DR.int{H:Hp}{n:Nat}{x y:Int}(h:x=y):DR H n (.int x) (.int y):=by
 subst h;cases n with
 | zero=>rwa[U,.inl ⟨x,U⟩]
 | succ m=>rwa[.inl ⟨rfl,.inl ⟨x,rfl⟩⟩]
def DR.bl{H:Hp}{n:Nat}{x y:Bool}(h:x=y):DR H n (.bl x) (.bl y):=by
 subst h;cases n with
 | zero=>rwa[U,.inr (.inl ⟨x,U⟩)]
 | succ m=>rwa[.inl ⟨rfl,.inr (.inl ⟨x,rfl⟩)⟩]
def DR.tupI{H:Hp}{n:Nat}{c d:List Int}(h1:H a=G0 (.tup (c.map V.int)))(h2:H b=G0 (.tup (d.map V.int)))(e:c=d)(j:c.length<=1000):DR H (n+1) (.ref a) (.ref b):=by
 subst e;erw[.inr ⟨a,b,c.map V.int,c.map V.int,G4,rfl,rfl,h1,h2,rfl,by rw[c5]; exact j,λi u v h g=>?_⟩];rw[h] at g;cases g;obtain⟨m,_,rfl⟩:=xn h;rwa[DR.int rfl]
def DR.str{H:Hp}{n:Nat}{x y:c7}(h:x=y):DR H n (.str x) (.str y):=by
 subst h;cases n with
 | zero=>rwa[U,.inr (.inr (.inl ⟨x,U⟩))]
 | succ m=>rwa[.inl ⟨rfl,.inr (.inr (.inl ⟨x,rfl⟩))⟩]
def DR.non{H:Hp}{n:Nat} : DR H n .non .non:=by
 cases n with
 | zero=>rwa[U,.inr (.inr (.inr rfl))]
 | succ m=>rwa[.inl ⟨rfl,.inr (.inr (.inr rfl))⟩]
def bV{H:Hp} : ∀(n:Nat)(d:Dt){x y:V},oo n d->Rep H d x->Rep H d y->DR H n x y
 | n,.int i,x,y,_,h1,h2=>by rw[yB.mp h1,yB.mp h2]; rwa[DR.int rfl]
 | n,.str z,x,y,_,h1,h2=>by rw[zV.mp h1,zV.mp h2]; rwa[DR.str rfl]
 | 0,.tup _,_,_,h,_,_=>h.elim
 | n+1,.tup l,x,y,h,h1,h2=>by
  obtain⟨a,o,rfl,s,c⟩:=yG.mp h1;obtain⟨b,m,rfl,r,e⟩:=yG.mp h2;have B:l.length<=900:=h.1;erw[.inr ⟨a,b,o,m,G4,rfl,rfl,s,r,by rw[c.length,e.length],by rw[c.length]; lia,λi u v A t=>?_⟩];obtain⟨d,j,q⟩:=c.back A;obtain⟨C,g,p⟩:=e.back t;rw[j] at g;cases g;rwa[bV n d (h.2 d (Ao j)) q p]
def reps_dr{H:Hp}{n:Nat}{l:List Dt}(h:∀ d∈l,oo n d)(y:l.length<=900)(s:H a=G0 (.lst e))(r:H b=G0 (.lst c))(g:tO H l e)(j:tO H l c):DR H (n+1) (.ref a) (.ref b):=by
 erw[.inr ⟨a,b,e,c,G3,rfl,rfl,s,r,by rw[g.length,j.length],by rw[g.length]; lia,λi u v x t=>?_⟩];obtain⟨d,o,q⟩:=g.back x;obtain⟨z,m,p⟩:=j.back t;rw[o] at m;cases m;rwa[bV n d (h d (Ao o)) q p]
def oV:Nat->Sp
 | 0=>λ_ _ _ _=>False
 | n+1=>λb H Q _=>∃(x y:V),b=[x,y]/\DR H n x y/\∀ a,Same H a->Q (.bl G3) a
def lB(_:ac):Sp:=oV 6
structure KT(K:ac)(ty:b7)(bb bi bl bt bs:Bool):Prop where
 b:Ar K ty (.type "bool")=G0 bb
 i:Ar K ty (.type "int")=G0 bi
 l:Ar K ty (.type "list")=G0 bl
 t:Ar K ty (.type "tuple")=G0 bt
 s:Ar K ty (.type "str")=G0 bs
def jO{f:b6}{fd:w4}(F:Fun K "_law_same" "_law_same" yi f fd)(Z:Zs mg)(bS:zt K fd ["_law_told","_law_due"] [])(kS:u9 K (.ref f)=G3)(mS:mg "_law_same" = G0 (.ref f)) :
  ∀ n:Nat,yV P w K mg base CX0 n f fd ["_law_told","_law_due"] (oV n)
 | 0=>⟨λ_ _ _ _ h=>h.elim,λ_ _ _ _ _ _ _ _ _ _ _ _ _ h=>h.elim⟩
 | n+1=>by
  have ih:=jO F Z bS kS mS n;have yBt:Has P w K mg base "_law_same" n ["_law_told","_law_due"] (oV n):=⟨f,fd,ih,bS,kS,mS⟩
  specialize fq
  ·obtain⟨x,y,rfl,_⟩:=h;rfl
  obtain⟨x,y,rfl,O,q⟩:=h;have I:=hr
  refine'⟨_,(zC (yJ ?_ (zG (zY oP)) zU)
   (zC (yJ ?_ (zG (zY oP)) zU)
   (zC (yJ ?_ (zG (zY ?_)) zU)
   (zG (zY (ej ?_ (jo (zR (tX rfl) rfl Z.all pc (zA (rW (T:=["_law_one","_law_other"]) (caps:=[]) ⟨rfl,by ac_nf,by ac_nf,rfl,q0⟩ rfl (Xn rfl Z.zip (zA (pv 0) (zA (pv 1) zD))) (λ_=>(bM rfl (qF (lm 0 (show(["_law_one","_law_other"]:List c7).Nodup by ac_nf)) (qF (lm 1 (show(["_law_one","_law_other"]:List c7).Nodup by ac_nf)) kz)))) (λ_=>sN) (λ_=>(uQ yBt I rfl (zA (pv 0) (zA (pv 1) zD))))) zD))))))))),?_⟩
  nofun
  have S:∃(t:b7)(L J bl C bs:Bool),TyOf K H x t/\TyOf K H y t/\KT K t L J bl C bs/\((bl=G4/\C=G4/\x=y/\((∃ i,x=.int i)\/(∃ b,x=.bl b)\/(∃ z,x=.str z)\/x=.non)) \/
    ∃(m:Nat)(a b:b6)(d g:List V)(l:Bool),bl=l/\C = !l/\n=m+1/\x=.ref a/\y=.ref b/\H a=G0 (if l then .lst d else .tup d)/\H b=G0 (if l then .lst g else .tup g)/\d.length=g.length/\d.length<=1000 /\
     ∀(i:Nat)(u v:V),d[i]?=G0 u->g[i]?=G0 v->DR H m u v):=by
   have Yd:(x=y/\((∃ i,x=.int i)\/(∃ b,x=.bl b)\/(∃ z,x=.str z)\/x=.non))->∃(t:b7)(L J bl C bs:Bool),TyOf K H x t/\TyOf K H y t/\KT K t L J bl C bs/\(bl=G4/\C=G4/\x=y/\((∃ i,x=.int i)\/(∃ b,x=.bl b)\/(∃ z,x=.str z)\/x=.non)):=λh=>by
    obtain⟨rfl,h⟩:=h;rcases h with ⟨i,rfl⟩ | ⟨b,rfl⟩ | ⟨z,rfl⟩ | rfl
    ·rwa[_,_,_,_,_,_,.int i,.int i,⟨U,U,U,U,U⟩,U,U,U,.inl ⟨i,U⟩]
    ·rwa[_,_,_,_,_,_,.bl b,.bl b,⟨U,U,U,U,U⟩,U,U,U,.inr (.inl ⟨b,U⟩)]
    ·rwa[_,_,_,_,_,_,.str z,.str z,⟨U,U,U,U,U⟩,U,U,U,.inr (.inr (.inl ⟨z,U⟩))]
    ·rwa[_,_,_,_,_,_,.non,.non,⟨U,U,U,U,U⟩,U,U,U,.inr (.inr (.inr rfl))]
   cases n with
   | zero =>
    obtain⟨t,L,J,bl,C,bs,h1,h2,h3,h4⟩:=Yd O;rwa[t,L,J,bl,C,bs,h1,h2,h3,.inl h4]
   | succ m =>
    rcases O with h | ⟨a,b,d,g,l,e1,B,h1,h2,h3,h4,h5⟩
    ·obtain⟨t,L,J,bl,C,bs,h1,h2,h3,h4⟩:=Yd h;rwa[t,L,J,bl,C,bs,h1,h2,h3,.inl h4]
    ·subst e1 B;cases l with
     | true=>rwa[_,_,_,_,_,_,.lst h1,.lst h2,⟨U,U,U,U,U⟩,.inr ⟨m,a,b,d,g,G3,U,U,U,U,U,h1,h2,h3,h4,h5⟩]
     | false=>rwa[_,_,_,_,_,_,.tup h1,.tup h2,⟨U,U,U,U,U⟩,.inr ⟨m,a,b,d,g,G4,U,U,U,U,U,h1,h2,h3,h4,h5⟩]
  obtain⟨t,L,J,bl,C,bs,tx,ty,r,rest⟩:=S;exists _,U,_, "bool",t,L,U,tx,r.b,_,U,_, "bool",t,L,U,ty,r.b,U,_,rfl;erw[ifN (λz=>y8 rfl z) (λ_=>?_)];exists _,U,_, "int",t,J,U,tx,r.i,_,U,_, "int",t,J,U,ty,r.i,U,_,rfl;erw[ifN (λz=>y8 rfl z) (λ_=>?_)];exists _,U,_, "list",t,bl,U,tx,r.l,_,U,_, "list",t,bl,U,ty,r.l,U,_,rfl;erw[ifN (λz=>y8 rfl z) (λ_=>?_)];exists _,U,_, "tuple",t,C,U,tx,r.t,_,U,_, "tuple",t,C,U,ty,r.t,U,_,rfl;erw[ifN (λz=>y8 rfl z) (λ_=>?_)];exists _,U,_, "list",t,bl,U,ty,r.l,_,rfl;rcases rest with ⟨rfl,rfl,rfl,hs⟩ | ⟨m,a,b,d,g,l,rfl,rfl,rfl,rfl,rfl,ha,hb,N,h1000,hel⟩
  ·erw[qN ?_];exists _,U,_, "tuple",t,G4,U,ty,r.t,_,rfl;erw[qN ?_];exists _,U,_, "str",t,bs,U,tx,r.s,_,U,_, "str",t,bs,U,ty,r.s,U,_,rfl;rw[y6 rfl];erw[qN ?_];erw[_,U,_,U,?_,?_]
   ·rcases hs with ⟨i,rfl⟩ | ⟨b,rfl⟩ | ⟨z,rfl⟩ | rfl <;> rfl
   ·rw[y6 rfl];rwa[q H (Same.refl H)]
  ·have SA:SqB bl K H a d:=by
    cases bl
    ·rwa[SqT.of ha]
    ·rwa[SqL.of ha]
   have SB:SqB bl K H b g:=by
    cases bl
    ·rwa[SqT.of hb]
    ·rwa[SqL.of hb]
   have SA':SqL K H a d\/SqT K H a d:=by
    cases bl
    ·rwa[.inr SA]
    ·rwa[.inl SA]
   have SB':SqL K H b g\/SqT K H b g:=by
    cases bl
    ·rwa[.inr SB]
    ·rwa[.inl SB]
   have keep:∀(j:Hp),Same H j->SqB bl K j a d/\SqB bl K j b g:=λj e=>by
    cases bl
    ·rwa[SqT.same SA e,SqT.same SB e]
    ·rwa[e.seq SA,e.seq SB]
   cases hbl:bl with
   | true =>
    refine rG ?_;refine rG ?_;exists _,U,a,d,U,SA',_,U,b,g,U,SB',U,_,rfl;rw[decI (by rw[N])];refine qN ?_;refine⟨_,U,_,U,bl,bl,a,b,d,g,U,SA,SB,λc D O=>lq (K:=K) (xs:=d) (ys:=g) (λi M G j=>A5 (Same H j) (j D=G0 (.lst G)) (G=(i9 i G3).map V.bl) (i<=d.length) (E2 λu v=>M=[u,v]))
     ⟨zF O _,zB,rfl,j8 _,G2,G2,rfl⟩ (λi M G j X=>by obtain⟨e,B,_⟩:=X; rwa[(keep j e).1,(keep j e).2,B]) ?_ ?_⟩
    ·rintro i u v T M G j hu hv hT ⟨e,B,rfl,hi,o1,o2,rfl⟩;have Y:i<d.length:=(f8.mp hu).1;have R:=zF hT (.tup [u,v]);erw[T,[u,v],U,SqT.of zB,U,u,[v],U,v,[],U,U,_,U,_,U,u,v,U,(hel i u v hu hv).same (e.trans R),λH4 s4=>?_];have e4:=s4 _ _ (R _ _ B);erw[e4,yH (by rw[c5,v8]; lia),λp o z=>?_,zB,?_,Y,_,_,rfl]
     ·rw[zL (zM z O)];rwa[s4 _ _ (R _ _ (e _ _ z))]
     ·rw[Eg,j6];rfl
    ·rintro M G j ⟨e,B,rfl,hi,o1,o2,rfl⟩;exists D,i9 (min d.length g.length) G3,U,SqL.of B;rw[show(i9 (min d.length g.length) G3).all id=G3 from by simp];rwa[q _ e]
   | false =>
    refine qN ?_;exists _,U,_, "tuple",t,G3,U,ty,r.t.trans (by rw[hbl]; rfl),_,rfl;refine rG ?_;exists _,U,a,d,U,SA',_,U,b,g,U,SB',U,_,rfl;rw[decI (by rw[N])];refine qN ?_;refine⟨_,U,_,U,bl,bl,a,b,d,g,U,SA,SB,λc D O=>lq (K:=K) (xs:=d) (ys:=g) (λi M G j=>A5 (Same H j) (j D=G0 (.lst G)) (G=(i9 i G3).map V.bl) (i<=d.length) (E2 λu v=>M=[u,v]))
     ⟨zF O _,zB,rfl,j8 _,G2,G2,rfl⟩ (λi M G j X=>by obtain⟨e,B,_⟩:=X; rwa[(keep j e).1,(keep j e).2,B]) ?_ ?_⟩
    ·rintro i u v T M G j hu hv hT ⟨e,B,rfl,hi,o1,o2,rfl⟩;have Y:i<d.length:=(f8.mp hu).1;have R:=zF hT (.tup [u,v]);erw[T,[u,v],U,SqT.of zB,U,u,[v],U,v,[],U,U,_,U,_,U,u,v,U,(hel i u v hu hv).same (e.trans R),λH4 s4=>?_];have e4:=s4 _ _ (R _ _ B);erw[e4,yH (by rw[c5,v8]; lia),λp o z=>?_,zB,?_,Y,_,_,rfl]
     ·rw[zL (zM z O)];rwa[s4 _ _ (R _ _ (e _ _ z))]
     ·rw[Eg,j6];rfl
    ·rintro M G j ⟨e,B,rfl,hi,o1,o2,rfl⟩;exists D,i9 (min d.length g.length) G3,U,SqL.of B;rw[show(i9 (min d.length g.length) G3).all id=G3 from by simp];rwa[q _ e]
def hJ(F:Fun K "_law_same" "_law_same" yi f fd)(Z:Zs mg)(c:zt K fd ["_law_told","_law_due"] [])(b:u9 K (.ref f)=G3)(a:mg "_law_same" = G0 (.ref f)):yV P w K mg base CX0 6 f fd ["_law_told","_law_due"] (lB K):=jO F Z c b a 6
def qq(_:ac):Sp:=λc H Q _=>E2 λ(b d:b6)=>A3 (c=[.ref b]) (H b=G0 (.ins bkC d [])) (∀(p l:b6)(a:Hp),xF (λx=>x=b) H a->H p=G2->H l=G2->BkL bkC a b p l BS.nil [] []->Q .non a)
def eA(F:Fun K "__init__" "Book.__init__" ve f fd)(Z:Zs mg)(G:Cb P w mg base)(B:Has P w K mg base "nothing_yet" 1 [] (rB K)):yV P w K mg base CX0 2 f fd ["self"] (qq K):=by
 specialize gf
 ·obtain⟨b,i,rfl,_⟩:=h;rfl
 obtain⟨b,i,rfl,M,q⟩:=h
 refine'⟨_,(zC (xv G.state (pv 0) (gZ B (hr.mono (by decide)) rfl))
   (zC (xv G.past (pv 0) ?_)
   (zG (xv G.later (pv 0) ?_)))),?_⟩
 nofun
 refine⟨U,λd n y N st=>?_⟩;have m:=y _ _ M;exists _,U,b,i,[],U,m,(by show 0<1000; decide);refine⟨sz0,λp D=>?_⟩;have c:b≠p:=zM zB D;exists _,U,b,i,_,U,(by rw[zL c,zB]),(by show 1<1000; decide);refine⟨sz0,λl v=>?_⟩;have g:b≠l:=zM zB v;have j:p≠l:=λz=>by
  rw[<- z,zL c.symm,zB] at v;cases v
 exists _,U,b,i,_,U,(by rw[zL g,zB]),(by show 2<1000; decide);rw[aS];have t:n p=none:=by rw[zL c.symm] at D; rwa[D]
 have u:n l=none:=by rw[zL g.symm,zL j.symm,zL g.symm] at v; rwa[v]
 have J:xF (λx=>x=b) n (upd (upd (upd (upd (upd n b (.ins bkC i (vf "state" (.ref d) []))) p (.lst [])) b (.ins bkC i (vf "past" (.ref p) (vf "state" (.ref d) [])))) l (.lst [])) b (.ins bkC i (bkF d p l))):=λx o C e=>by
  have n1:=zM e t;have n2:=zM e u;rw[zL C,zL n2,zL C,zL n1,zL C];rwa[.inl e]
 have nd:∀ a r,Rd n a (.dK r)->¬ a=b:=λa r h z=>by
  subst z;rcases h with h | ⟨o,h⟩ <;> rw[m] at h <;> cases h
 have L:∀ a I,n a=G0 (.tup I)->¬ a=b:=λa I h z=>by
  subst z;rw[m] at h;cases h
 erw[q p l _ ((xF.of y).trans J) (y.free t) (y.free u) ⟨i,d,[],[],zB,st.samE J nd L,?_,?_,rfl,rfl,j.symm⟩]
 ·rw[zL c.symm,zL j,zL c.symm,zB]
 ·rw[zL g.symm,zB]
def nP(_:ac):Sp:=λi H Q _=>E12 λ(b x y t g d h p l:b6) (v:V) (e a:List V)=>A8 (i=[.ref b,.ref x,.ref y]) (H b=G0 (.ins bkC g (bkF d p l))) (H x=G0 (.lst (e++[.ref t]))) (H y=G0 (.lst a)) (x≠y) (H t=G0 (.tup [v,.ref h])) (a.length<=500) (∀ c,H c=G2->Q v (upd (upd (upd (upd H x (.lst e)) c (.tup [v,.ref d])) y (.lst (a++[.ref c]))) b (.ins bkC g (bkF h p l))))
def eS(F:Fun K "step" "Book.step" uw f fd)(Z:Zs mg)(X:Cb P w mg base)  : yV P w K mg base CX0 1 f fd ["self","taken","given"] (nP K):=by
 specialize lE
 ·obtain⟨b,x,y,t,i,d,j,p,l,v,e,g,rfl,_⟩:=h;rfl
 obtain⟨b,x,y,t,i,d,j,p,l,v,e,g,rfl,o,u,r,D,n,hl,q⟩:=h
 refine'⟨_,(zC (yT 3 lE.nd (YB B9 PySem.F.slot_list_pop PySem.F.type_list_pop Yg (pv 1)))
   (zC (zQ (lV (pv 2) (zA (yD (zA ?_ (zA (sY X.state (pv 0)) zD))) zD)))
   (zC (xv X.state (pv 0) ?_)
   (zG (zY ?_))))),?_⟩
 nofun
 have L:b≠x:=ow o u (λz=>nomatch z);have J:b≠y:=ow o r (λz=>nomatch z);have I:t≠x:=ow n u (λz=>nomatch z);have G:t≠y:=ow n r (λz=>nomatch z);have M:b≠t:=ow o n (λz=>nomatch z);erw[_,U,.inl ⟨U,_,SqL.of u⟩,x,e++[.ref t],.ref t,U,U,u,by simp,?_];rw[List.dropLast_concat];have T:upd H x (.lst e) b=G0 (.ins bkC i (bkF d p l)):=by rw[zL L]; rwa[o]
 have N:upd H x (.lst e) y=G0 (.lst g):=by rw[zL D.symm]; rwa[r]
 have R:upd H x (.lst e) t=G0 (.tup [v,.ref j]):=by rw[zL I]; rwa[n]
 erw[_,U,.inl ⟨U,_,SqL.of N⟩,_,U,t,_,0,v,U,U,.inr (SqT.of R),U,_,U,b,i,_,_,U,T,yd,sz2,λa c=>?_];have m:a≠x:=λz=>by rw[z,zB] at c; cases c
 have B:H a=none:=by rw[zL m] at c; rwa[c]
 have C:=zF c (.tup [v,.ref d]);have nyt:y≠a:=zM r B;have S:b≠a:=zM o B;have ntt:t≠a:=zM n B;exists y,g,.ref a,U,U,C _ _ N,yH (by lia);have O:upd (upd (upd H x (.lst e)) a (.tup [v,.ref d])) y (.lst (g++[.ref a])) t=G0 (.tup [v,.ref j]):=by rw[zL G]; rwa[C _ _ R]
 have b3:upd (upd (upd H x (.lst e)) a (.tup [v,.ref d])) y (.lst (g++[.ref a])) b=G0 (.ins bkC i (bkF d p l)):=by rw[zL J]; rwa[C _ _ T]
 exists _,U,t,_,1,.ref j,U,U,.inr (SqT.of O),U,_,U,b,i,_,U,b3,(by show 3<1000; decide);rw[xb];have Y:upd (upd (upd (upd H x (.lst e)) a (.tup [v,.ref d])) y (.lst (g++[.ref a]))) b (.ins bkC i (bkF j p l)) t=G0 (.tup [v,.ref j]):=by rw[zL M.symm]; rwa[O]
 rwa[_,U,t,_,0,v,U,U,.inr (SqT.of Y),U,q a B]
def mm(_:ac):Sp:=λd H Q E=>E6 λ(b p l:b6) (S:BS) (past later:List (Deed×BS))=>A6 (d=[.ref b]) (BkL bkC H b p l S past later) (later.length<=400) (past.length<=400) (∀(pre:List (Deed×BS))(D:Deed)(c:BS),later=pre++[(D,c)]->∀(v:V)(a:Hp),xF (Bl b p l) H a->BkL bkC a b p l c (past++[(D,S)]) pre->Rep a D.dt v->Q v a) (later=[]->∀ a,Sam H a->E (.ref yA) G2 a)
def fv(F:Fun K "redo" "Book.redo" vv f fd)(Z:Zs mg)(I:Cb P w mg base)(c:lO P w K mg base lT 1 ["self","taken","given"] (nP K)):yV P w K mg base (CX1 P w) 2 f fd ["self"] (mm K):=by
 erw[F.okX gO (λvs H Q E h=>?_) (λcdv A outer s H vs Q E hr h=>?_)]
 ·obtain⟨b,p,l,S,past,later,rfl,_⟩:=h;rfl
 obtain⟨b,p,l,S,past,n,rfl,⟨r,d,M,ls,k⟩,hl,hpl,q,bad⟩:=h;have no:∀{d l:b6}{m:c7},m = "step" ->(bkF d p l).lookup m=none:=λ{d l m} e=>by subst e; rwa[rV (by ac_nf) (by ac_nf) (by ac_nf)]
 refine'⟨_,(zC (yJ (yW (YN hr.units0) (sY I.later (pv 0)) ?_ (vP _)) (zG (yX (λ_=>E) I.e_NothingLeft c0 (by decide) c0 yY (zA zJ zD))) zU)
   (zG (PS.nox (zY (dy I.m_step c (hr.mono (by decide)) (pv 0) (zA (sY I.later (pv 0)) (zA (sY I.past (pv 0)) zD))))))),?_⟩
 nofun
 rcases List.eq_nil_or_concat n with rfl | ⟨later,⟨D,S0⟩,rfl⟩
 ·erw[_,U,b,r,_,_,U,k.ob,oh,sz0,λe he=>?_];have j:=zF he (.lst []);have a:=k.to (.of j);have z:ls=[]:=a.ll;have g:=a.la;rw[z] at g;rwa[l,e,[],U,U,SqL.of g,SqL.of zB,_,U,qN ⟨sz1,bad rfl _ (.of j)⟩]
 rw[List.concat_eq_append] at k hl q
 replace q:=q later D S0 rfl
 replace hl:later.length<=400:=by rw[d5] at hl; lia
 obtain⟨L,t,d0,v,rfl,k1,k2,k3,k4⟩:=k.ll.split;have y:=k.ne;have X:b≠p:=ow k.ob k.pa (λz=>nomatch z);have Y:b≠l:=ow k.ob k.la (λz=>nomatch z);erw[_,U,b,r,_,_,U,k.ob,oh,sz0,λe he=>?_];have j:=zF he (.lst []);have a:=k.to (.of j);obtain⟨J,B⟩:=a.ll.refs;have g:=a.la;rw[B] at g;exists l,e,J,U,U,SqL.of g,SqL.of zB,_,rfl;have T:J≠[]:=λz=>by rw[z] at B; simp at B
 have em:J.isEmpty=false:=by
  cases J with
  | nil=>rwa[y8 rfl T]
  | cons=>rfl
 rw[em];erw[rG ?_];erw[_,U,b,r,_,U,a.ob,no rfl,_,U,b,r,_,_,U,a.ob,oh,_,U,b,r,_,_,U,a.ob,eG,b,l,p,t,r,d,d0,p,l,v,L,M,U,a.ob,a.la,a.pa,y,j _ _ k2,by rw[k.pp.len]; lia,λC i=>?_];have O:C≠l:=λz=>by rw[z,a.la] at i; cases i
 have N:p≠C:=zM a.pa i;have R:b≠C:=zM a.ob i;have u:xF (Bl b p l) (upd H e (.lst [])) (upd (upd (upd (upd (upd H e (.lst [])) l (.lst L)) C (.tup [v,.ref d])) p (.lst (M++[.ref C]))) b (.ins bkC r (bkF d0 p l))):=λx o hx h=>by
  have n1:x≠b:=λz=>hx (.inl z);have n2:x≠p:=λz=>hx (.inr (.inl z));have n3:x≠l:=λz=>hx (.inr (.inr z));rw[zL n1,zL n2,zL (zM h i),zL n3];rwa[.inl h]
 have nd:=bl_nd a.ob a.pa a.la;have G:=bl_np a.ob a.pa a.la;erw[q v _ ((xF.of j).trans u) ⟨r,d0,M++[.ref C],L,zB,(k4.to (.of j)).samE u nd G,?_,?_,xQ.app ?_ ((k3.to (.of j)).sam u G) (a.st.samE u nd G) (a.pp.samE u nd G),(k1.samE (.of j) (λ_ _ _=>id) (λ_ _ _=>id)).samE u nd G,y⟩ ((k3.to (.of j)).sam u G)]
 ·rw[zL X.symm,zB]
 ·rw[zL Y.symm,zL y,zL O.symm,zB]
 ·rw[zL R.symm,zL N.symm,zB]
def mq(_:ac):Sp:=λe H Q _=>E5 λ(b p:b6) (S:BS) (past later:List (Deed×BS))=>A4 (e=[.ref b]) (jh bkC H b p S past later) (Few S) (∀(c:b6)(d:List V)(a:Hp),Same H a->H c=G2->a c=G0 (.lst d)->tO a (S.runs.map ptD) d->Q (.ref c) a)
def fS(F:Fun K "runs" "Book.runs" ux f fd)(Z:Zs mg)(CB:Cb P w mg base)  : yV P w K mg base CX0 1 f fd ["self"] (mq K):=by
 specialize nW
 ·obtain⟨b,p,S,past,later,rfl,_⟩:=h;rfl
 obtain⟨b,p,S,past,later,rfl,⟨dx,d,l,ps,ls,k⟩,few,q⟩:=h;obtain⟨m,bk,r,n,st⟩:=k.st;obtain⟨g,G,R⟩:=id st.ru;have lr:g.length=S.runs.length:=by rw[R.length,zu]
 refine⟨_,(zC (wP (i:=1) nW.nd rfl (Df rfl) (yQ (wC hr) (sY CB.state (pv 0)) zJ (λ_ _=>rfl)))
   (zG (zY (rW (T:=["number"]) (caps:=[("runs",1)]) ⟨rfl,by ac_nf,by ac_nf,rfl,⟨⟨rfl,rfl,Ae rfl⟩,q0⟩⟩ rfl (sC rfl Z.range (zA (zR yc rfl Z.len qY (zA (pv 1) zD)) zD)) (λ_=>(zx (i:=0) (show(["number","runs"]:List c7).Nodup by ac_nf) rfl (Ae rfl))) (λ_=>sN) (λ_=>(yQ (wC hr) (pv 1) (pv 0) (λ_ _=>rfl))))))),?_⟩
 try dsimp only[L2.cxOf,L2.cxComp,L2.Cx.nox,mi,lz]
 exists _,U,b,dx,_,_,U,k.ob,yd,d,.ref r,U,.inl ⟨_,.inr "runs",st.at_,U,tV.symm⟩,_,U,r,g,U,G;refine⟨_,U,(by have:=few.ru; lia),(by have:=few.ru; lia),λcc D J=>tw (lo:=0) (n:=(g.length:Int).toNat) (λi v j c=>A4 (Same H c) (c D=G0 (.lst j)) (tO c ((S.runs.take i).map ptD) j) (∃ u:Option V,v=[u,G0 (.ref r)]))
  ⟨zF J _,zB,yM.mpr rfl,G2,rfl⟩ (λi v j c _ Y=>Y.2) ?_ ?_⟩
 ·rintro i v j c hi ⟨y,B,t,u,rfl⟩;have I:i<S.runs.length:=by lia
  have O:S.runs[i]?=G0 S.runs[i]:=e7 I;obtain⟨C,a,g1,g2,g3⟩:=cg (st.ru.to (.of y)) O;refine⟨_,U,_,U,r,.ref a,U,.inl ⟨C,.inl (i:Int),g1,by rw[Ch]; rfl,g2.symm⟩,B,yH (by rw[t.length,c5,Az]; have:=few.ru; lia),y.putNew J,zB,?_,_,rfl⟩;rw[AV,O,j6];have M:xF (λx=>x=D) c (upd c D (.lst (j++[.ref a]))):=λx o X e=>.inl (by rw[zL X]; rwa[e]);have N:∀ b L,c b=G0 (.tup L)->¬ b=D:=λb L e z=>by rw[z,B] at e; cases e
  rwa[tO.app (t.sam M N) (.one ((vQ g3).sam M N))]
 ·rintro v j c ⟨y,B,t,u,rfl⟩;rw[show(g.length:Int).toNat=S.runs.length by lia,AR] at t;rwa[q D j c y J B t]
def XV(b:b6)(m:Int)(a:List V):Prop:=a=[.ref b,.int m]
def Zy(ask:b6->Int->List V->Prop):List V->Hp->XK->Prop:=λc H E=>∃(b p:b6)(S:BS)(past later:List (Deed×BS))(m:Int),ask b m c/\jh bkC H b p S past later/\Few S/\offM S.runs.length m/\∀ a:Hp,Same H a->E (.ref yI) G2 a
def rE(_:ac):Sp:=λa H Q E=>Zy XV a H E
def vy(F:Fun K "note_groups" "note_groups" wV f fd)(Z:Zs mg)(y:Cb P w mg base)(c:tN P w K mg base "check_moment" 1 ["moment","runs"] (wB K))(a:lO P w K mg base lU 1 ["self"] (mq K)):yV P w K mg base (CX1 P w) 2 f fd ["book","moment"] (rE K):=by
 erw[F.okX wm (λj H Q E h=>?_) (λx A outer s H j Q E i h=>?_)]
 ·obtain⟨b,p,S,past,later,m,rfl,_⟩:=h;rfl
 obtain⟨b,p,S,past,later,m,rfl,bk,u,e,k⟩:=h;obtain⟨v,d,l,z,B,q⟩:=id bk;have no:(bkF d p l).lookup ("runs" : c7)=none:=rV (by ac_nf) (by ac_nf) (by ac_nf);refine⟨_,(zC (zQ (zX (λ_=>E) c zO (i.mono (by decide)) rfl (zA (pv 1) (zA (rg y.m_runs a (i.mono (by decide)) (pv 0)) zD))))
   (zC qD
   (zC qD
   (zC qD
   (zG qD))))),?_⟩
 try dsimp only[L2.cxOf,L2.cxComp,L2.Cx.nox,mi,lz]
 erw[_,U,_,U,b,v,_,U,q.ob,no,b,p,S,past,later,U,bk,u,λr o C n t g rep=>?_];rwa[r,m,S.runs.length,U,.inl ⟨o,SqL.of g,by rw[rep.length,c5]⟩,.inr ⟨e,k _ n⟩]
def rM(_:ac):Sp:=λa H Q E=>Zy XV a H E
def qw(F:Fun K "note_sides" "note_sides" uS f fd)(Z:Zs mg)(o:Cb P w mg base)(a:tN P w K mg base "note_groups" 2 ["book","moment"] (rE K)):yV P w K mg base (CX1 P w) 3 f fd ["book","moment"] (rM K):=by
 erw[F.okX tM (λe H Q E h=>?_) (λl A outer s H e Q E hr h=>?_)]
 ·obtain⟨b,p,S,past,later,m,rfl,_⟩:=h;rfl
 refine'⟨_,(zC (PS.nox (yT 2 tM.nd ?_))
   (zC (rP Ba rfl (lh (zX (λ_=>E) a zO (hr.mono (by decide)) rfl (zA (pv 0) (zA (pv 1) zD)))) (lm 3 tM.nd) (PSs.nox (zG (zQ (kO B9 PySem.F.slot_list_extend PySem.F.type_list_extend fC (pv 2) (zA (pv 3) zD))))))
   (zG qD))),?_⟩
 nofun
 obtain⟨b,p,S,past,later,m,rfl,bk,j,c,k⟩:=h;erw[sz0,λL i=>?_];have d:=zF i (.lst []);rwa[_,U,_,U,b,p,S,past,later,m,U,bk.to (.of d),j,c,λn g=>k _ (d.trans g)]
def qR(_:ac):Sp:=λa H Q E=>Zy XV a H E
def qc(F:Fun K "book_area" "book_area" vT f fd)(Z:Zs mg)(l:Cb P w mg base)(a:Has P w K mg base "area" 1 ["sides"] (mV K))(c:tN P w K mg base "note_sides" 3 ["book","moment"] (rM K)):yV P w K mg base (CX1 P w) 4 f fd ["book","moment"] (qR K):=by
 erw[F.okX qf (λg H Q E h=>?_) (λj A outer s H g Q E e h=>?_)]
 ·obtain⟨b,p,S,past,later,m,rfl,_⟩:=h;rfl
 exists _,(zG (zY (uQ a (e.mono (by decide)) rfl (zA (zX (λ_=>E) c zO (e.mono (by decide)) rfl (zA (pv 0) (zA (pv 1) zD))) zD))))
 try dsimp only[L2.cxOf,L2.cxComp,L2.Cx.nox,mi,lz]
 obtain⟨b,p,S,past,later,m,rfl,bk,i,d,k⟩:=h;rwa[_,U,_,U,b,p,S,past,later,m,U,bk,i,d,k]
def ue(_:ac):Sp:=λa H Q _=>E5 λ(b p:b6) (S:BS) (past later:List (Deed×BS))=>A3 (a=[.ref b]) (jh bkC H b p S past later) (Q (.int S.coming) H)
def kH(F:Fun K "coming" "Book.coming" qL f fd)(Z:Zs mg)(c:Cb P w mg base)  : yV P w K mg base CX0 1 f fd ["self"] (ue K):=by
 specialize ko
 ·obtain⟨b,p,S,past,later,rfl,_⟩:=h;rfl
 obtain⟨b,p,S,past,later,rfl,⟨a,d,l,e,g,k⟩,q⟩:=h;obtain⟨m,bk,r,n,st⟩:=k.st;exists _,(zG (zY (yQ (wC hr) (sY c.state (pv 0)) zJ (λ_ _=>rfl))))
 try dsimp only[L2.cxOf,L2.cxComp,L2.Cx.nox,mi,lz]
 rwa[_,U,b,a,_,_,U,k.ob,yd,d,.int S.coming,U,.inl ⟨_,.inr "coming",st.at_,U,sf.symm⟩,q]
def BkF(a H:Hp)(b p:b6)(S:BS)(past:List (Deed×BS)):Prop:=∃ l,a l=G2/\BkL bkC H b p l S past []
def BkF.at{a H:Hp}(h:BkF a H b p S past):jh bkC H b p S past []:=let ⟨_,_,k⟩:=h; k.at
def BkF.to{c H a:Hp}(h:BkF c H b p S past)(s:Sam H a):BkF c a b p S past:=let ⟨l,e,k⟩:=h;⟨l,e,k.to s⟩
def BkF.from{c a H:Hp}(h:BkF a H b p S past)(s:Sam c a):BkF c H b p S past:=let ⟨l,e,k⟩:=h;⟨l,s.free id e,k⟩
def eX(e:List V->Hp->Deed->Prop):Sp:=λg H Q E=>E7 λ(b p:b6) (d:List V) (S:BS) (D:Deed) (past later:List (Deed×BS))=>A8 (g=.ref b::d) (jh bkC H b p S past later) (e d H D) (iA D) (pb S) (past.length<=500) (zT S D=G2->∀(a:Hp),xF (Bp b p) H a->BkF H a b p (aft S D) (past++[(D,S)])->Q (XU S D) a) (∀ c,zT S D=G0 c->∀ a,Sam H a->E (.ref (axC c)) G2 a)
def wx{Q:VK}{H:Hp}(h:(aft S D).coming=S.coming)(q:Q (XU S D) H):Q .non H:=by
 rw[XU,y4 h.symm] at q;rwa[q]
def xE(_:ac):Sp:=λd H Q E=>E7 λ(b p:b6) (v:V) (S:BS) (D:Deed) (past later:List (Deed×BS))=>A8 (d=[.ref b,v]) (jh bkC H b p S past later) (Rep H D.dt v) (iA D) (pb S) (past.length<=500) (zT S D=G2->∀(a:Hp),xF (Bp b p) H a->BkF H a b p (aft S D) (past++[(D,S)])->Q (if S.coming=(aft S D).coming then .non else .int S.coming) a) (∀ c,zT S D=G0 c->∀ a,Sam H a->E (.ref (axC c)) G2 a)
def hW(F:Fun K "deed" "Book.deed" uy f fd)(Z:Zs mg)(y:Cb P w mg base)(a:lO P w K mg base rn 1 ["self"] (ue K))(T:tN P w K mg base "after" 5 ["state","row"] (pE K)):yV P w K mg base (CX1 P w) 6 f fd ["self","row"] (xE K):=by
 erw[F.okX ql (λvs H Q E h=>?_) (λcdv A outer s H vs Q E hr h=>?_)]
 ·obtain⟨b,p,v,S,D,past,later,rfl,_⟩:=h;rfl
 obtain⟨b,p,v,S,D,past,later,rfl,bk,hv,tm,wl,hl,q,bad⟩:=h;obtain⟨c,d,l,C,ls,k⟩:=bk;have no:∀{d l:b6}{m:c7},m = "coming" ->(bkF d p l).lookup m=none:=λ{d l m} e=>by subst e; rwa[rV (by ac_nf) (by ac_nf) (by ac_nf)]
 refine'⟨_,(zC (PS.nox (yT 2 ql.nd (rg y.m_coming a (hr.mono (by decide)) (pv 0))))
   (zC (yT 3 ql.nd (zX (λ_=>E) T zO (hr.mono (by decide)) rfl (zA (sY y.state (pv 0)) (zA (pv 1) zD))))
   (zC (PS.nox (zQ (lV (sY y.past (pv 0)) (zA (yD (zA (pv 1) (zA (sY y.state (pv 0)) zD))) zD))))
   (zC (PS.nox (xv y.state (pv 0) (pv 3)))
   (zC (PS.nox (xv y.later (pv 0) ?_))
   (zG (PS.nox (zY (vm (yW dC (rg y.m_coming a (hr.mono (by decide)) (pv 0)) (pv 2) (vP _)) pS (pv 2)))))))))),?_⟩
 nofun
 exists _,U,b,c,_,U,k.ob,no rfl,b,p,S,past,later,U,⟨c,d,l,C,ls,k⟩;erw[_,U,b,c,_,_,U,k.ob,yd,_,U,d,v,S,D,U,trivial,k.st,hv,tm,wl,λjn M N O hd' Y=>?_,bad];have R:=k.to O;have hv1:=hv.to O;erw[_,U,b,c,_,_,U,R.ob,eG,.inl ⟨U,_,SqL.of R.pa⟩,_,U,_,U,b,c,_,_,U,R.ob,yd,sz2,λt ht=>?_];have G:=zF ht (.tup [v,.ref d]);have i:=R.to (.of G);exists p,C,.ref t,U,U,i.pa,yH (by rw[i.pp.len]; lia);have j:b≠p:=ow i.ob i.pa (λz=>nomatch z);have e3:upd (upd N t (.tup [v,.ref d])) p (.lst (C++[.ref t])) b=G0 (.ins bkC c (bkF d p l)):=by rw[zL j]; rwa[i.ob]
 exists _,U,_,U,b,c,_,U,e3,(by show 3<1000; decide);rw[xb];refine⟨sz0,λg L=>?_⟩;have u:b≠g:=zM zB L;have r:p≠g:=λz=>by
  rw[<- z,zL j.symm,zB] at L;cases L
 exists _,U,b,c,_,U,(by rw[zL u,zB]),(by show 3<1000; decide);rw[nQ];have J:(upd N t (.tup [v,.ref d])) g=none:=by rw[zL u.symm,zL r.symm] at L; rwa[L]
 have B:xF (Bp b p) (upd N t (.tup [v,.ref d])) (upd (upd (upd (upd (upd N t (.tup [v,.ref d])) p (.lst (C++[.ref t]))) b (.ins bkC c (bkF M p l))) g (.lst [])) b (.ins bkC c (bkF M p g))):=λx o hx e=>by
  have n1:x≠b:=λz=>hx (.inl z);have n2:x≠p:=λz=>hx (.inr z);rw[zL n1,zL (zM e J),zL n1,zL n2];rwa[.inl e]
 have nd:=bp_nd i.ob i.pa;have I:=XA i.ob i.pa;have X:=Y.to (.of G);have BK:BkL bkC (upd (upd (upd (upd (upd N t (.tup [v,.ref d])) p (.lst (C++[.ref t]))) b (.ins bkC c (bkF M p l))) g (.lst [])) b (.ins bkC c (bkF M p g))) b p g (aft S D) (past++[(D,S)]) []:=by
  erw[c,M,C++[.ref t],[],zB,X.samE B nd I,?_,?_,?_,U,r.symm]
  ·rw[zL j.symm,zL r,zL j.symm,zB]
  ·rw[zL u.symm,zB]
  ·rwa[xQ.app (B.tup (I _ _ zB) zB) ((hv1.to (.of G)).sam B I) (i.st.samE B nd I) (i.pp.samE B nd I)]
 have n:=q jn _ (((O.trans (.of G)).wider (λ_ z=>z.elim)).trans B) ⟨g,(O.trans (.of G)).free id J,BK⟩;exists _,U,b,c,_,U,zB,no rfl,b,p,aft S D,_,[],U,BK.at,_,U,U,_,rfl;erw[ifE (λe=>?_) (λe=>?_)]
 ·rw[y4 e.symm] at n;rwa[n]
 ·rw[y3 (λz=>e z.symm)] at n;rwa[_,U,n]
def Zx:List V->Hp->Deed->Prop:=λa H D=>∃(n:c7)(x y:Int),a=[.str n,.int x,.int y]/\D=.mark n x y
def nC(_:ac):Sp:=eX Zx
def gF(F:Fun K "mark" "Book.mark" vo f fd)(Z:Zs mg)(N:Cb P w mg base)(a:vE P w K mg base wZ 6 ["self","row"] (xE K)):yV P w K mg base (CX1 P w) 7 f fd ["self","name","x","y"] (nC K):=by
 erw[F.okX eO (λz H Q E h=>?_) (λM A outer s H z Q E hr h=>?_)]
 ·obtain⟨b,p,u,S,D,past,later,rfl,bk,⟨n,x,y,rfl,rfl⟩,_⟩:=h;rfl
 obtain⟨b,p,u,S,D,past,later,rfl,bk,⟨n,x,y,rfl,rfl⟩,tm,v,J,q,o⟩:=h;have no:∀{d l:b6}{m:c7},m = "deed" ->(bkF d p l).lookup m=none:=λ{d l m} e=>by subst e; rwa[rV (by ac_nf) (by ac_nf) (by ac_nf)]
 obtain⟨L,d,l,O,R,B⟩:=id bk
 refine'⟨_,(zG (zQ (yF (λ_=>E) N.m_deed a zO (hr.mono (by decide)) (pv 0) ?_))),?_⟩
 nofun
 refine⟨_,U,b,L,_,U,B.ob,no rfl,_,U,_,U,_,U,(by show 4<=sizeLine; decide),λt I=>?_⟩;have g:=zF I (.tup [.str "mark",.str n,.int x,.int y]);erw[b,p,.ref t,S,.mark n x y,past,later,U,bk.to (.of g),dq zB,tm,v,J,λC r i j=>?_,λc G r i=>o c G _ ((xF.of g).trans i)];rwa[wx rfl (q C r ((xF.of g).trans i) (j.from (.of g)))]
def YT{H:Hp}{w:b6}{x y:Int}(a:H w=G0 (.tup [.str "move",.str n,.int x,.int y])):Rep H (Deed.move n x y).dt (.ref w) :=
 yG.mpr ⟨w,_,rfl,a,zI.mpr ⟨_,_,rfl,zV.mpr rfl,zI.mpr ⟨_,_,rfl,zV.mpr rfl,.two (yB.mpr rfl) (yB.mpr rfl)⟩⟩⟩
def ae:List V->Hp->Deed->Prop:=λa H D=>∃(n:c7)(x y:Int),a=[.str n,.int x,.int y]/\D=.move n x y
def mE(_:ac):Sp:=eX ae
def gY(F:Fun K "move" "Book.move" vw f fd)(Z:Zs mg)(N:Cb P w mg base)(a:vE P w K mg base wZ 6 ["self","row"] (xE K)):yV P w K mg base (CX1 P w) 7 f fd ["self","name","x","y"] (mE K):=by
 erw[F.okX fX (λz H Q E h=>?_) (λM A outer s H z Q E hr h=>?_)]
 ·obtain⟨b,p,u,S,D,past,later,rfl,bk,⟨n,x,y,rfl,rfl⟩,_⟩:=h;rfl
 obtain⟨b,p,u,S,D,past,later,rfl,bk,⟨n,x,y,rfl,rfl⟩,tm,v,J,q,o⟩:=h;have no:∀{d l:b6}{m:c7},m = "deed" ->(bkF d p l).lookup m=none:=λ{d l m} e=>by subst e; rwa[rV (by ac_nf) (by ac_nf) (by ac_nf)]
 obtain⟨L,d,l,O,R,B⟩:=id bk
 refine'⟨_,(zG (zQ (yF (λ_=>E) N.m_deed a zO (hr.mono (by decide)) (pv 0) ?_))),?_⟩
 nofun
 refine⟨_,U,b,L,_,U,B.ob,no rfl,_,U,_,U,_,U,(by show 4<=sizeLine; decide),λt I=>?_⟩;have g:=zF I (.tup [.str "move",.str n,.int x,.int y]);erw[b,p,.ref t,S,.move n x y,past,later,U,bk.to (.of g),YT zB,tm,v,J,λC r i j=>?_,λc G r i=>o c G _ ((xF.of g).trans i)];rwa[wx rfl (q C r ((xF.of g).trans i) (j.from (.of g)))]
def Xu{H:Hp}{w:b6}(a:H w=G0 (.tup [.str "unmark",.str n])):Rep H (Deed.unmark n).dt (.ref w) :=
 yG.mpr ⟨w,_,rfl,a,.two (zV.mpr rfl) (zV.mpr rfl)⟩
def fN:List V->Hp->Deed->Prop:=λa H D=>∃(n:c7),a=[.str n]/\D=.unmark n
def tu(_:ac):Sp:=eX fN
def kK(F:Fun K "unmark" "Book.unmark" qK f fd)(Z:Zs mg)(L:Cb P w mg base)(a:vE P w K mg base wZ 6 ["self","row"] (xE K)):yV P w K mg base (CX1 P w) 7 f fd ["self","name"] (tu K):=by
 erw[F.okX lX (λx H Q E h=>?_) (λJ A outer s H x Q E hr h=>?_)]
 ·obtain⟨b,p,u,S,D,past,later,rfl,bk,⟨n,rfl,rfl⟩,_⟩:=h;rfl
 obtain⟨b,p,u,S,D,past,later,rfl,bk,⟨n,rfl,rfl⟩,tm,v,G,q,o⟩:=h;have no:∀{d l:b6}{m:c7},m = "deed" ->(bkF d p l).lookup m=none:=λ{d l m} e=>by subst e; rwa[rV (by ac_nf) (by ac_nf) (by ac_nf)]
 obtain⟨I,d,l,M,N,y⟩:=id bk
 refine'⟨_,(zG (zQ (yF (λ_=>E) L.m_deed a zO (hr.mono (by decide)) (pv 0) ?_))),?_⟩
 nofun
 erw[_,U,b,I,_,U,y.ob,no rfl,_,U,sz2,λt C=>?_];have g:=zF C (.tup [.str "unmark",.str n]);erw[b,p,.ref t,S,.unmark n,past,later,U,bk.to (.of g),Xu zB,tm,v,G,λz r i j=>?_,λc B r i=>o c B _ ((xF.of g).trans i)];rwa[wx rfl (q z r ((xF.of g).trans i) (j.from (.of g)))]
def ah:List V->Hp->Deed->Prop:=λd H D=>∃(n:c7)(b:b6)(a:List V)(c:List (Int×Int)),d=[.str n,.ref b]/\H b=G0 (.lst a)/\tO H (c.map ptD) a/\D=.bank n c
def nu(_:ac):Sp:=eX ah
def fH(F:Fun K "bank" "Book.bank" vg f fd)(Z:Zs mg)(CB:Cb P w mg base)(a:vE P w K mg base wZ 6 ["self","row"] (xE K)):yV P w K mg base (CX1 P w) 7 f fd ["self","name","corners"] (nu K):=by
 erw[F.okX fR (λL H Q E h=>?_) (λcdv A outer s H L Q E X h=>?_)]
 ·obtain⟨b,p,I,S,D,past,later,rfl,bk,⟨n,y,i,C,rfl,B,z,rfl⟩,_⟩:=h;rfl
 obtain⟨b,p,I,S,D,past,later,rfl,bk,⟨n,y,i,C,rfl,B,z,rfl⟩,tm,J,Y,q,u⟩:=h;have no:∀{d l:b6}{m:c7},m = "deed" ->(bkF d p l).lookup m=none:=λ{d l m} e=>by subst e; rwa[rV (by ac_nf) (by ac_nf) (by ac_nf)]
 obtain⟨dx,d,l,ps,ls,N⟩:=id bk;exists _,(zG (zQ (yF (λ_=>E) CB.m_deed a zO (X.mono (by decide)) (pv 0) (zA (yD (zA zJ (zA (pv 1) (zA (tW sX rfl Z.tuple vt (zA (pv 2) zD)) zD)))) zD))))
 try dsimp only[L2.cxOf,L2.cxComp,L2.Cx.nox,mi,lz]
 erw[_,U,b,dx,_,U,N.ob,no rfl,_,U,_,U,y,i,U,.inl ⟨SqL.of B,λv o=>?_⟩];have M:=zF o (.tup i);erw[sz3,λt T=>?_];have x:=zF T (.tup [.str "bank",.str n,.ref v]);have g:=M.trans x;erw[b,p,.ref t,S,.bank n C,past,later,U,bk.to (.of g),?_,tm,J,Y,λO G j r=>?_,λc R G j=>u c R _ ((xF.of g).trans j)]
 ·rwa[yG.mpr ⟨t,_,rfl,zB,zI.mpr ⟨_,_,rfl,zV.mpr rfl,.two (zV.mpr rfl) (yG.mpr ⟨v,_,rfl,x _ _ zB,z.to (.of g)⟩)⟩⟩]
 rwa[wx rfl (q O G ((xF.of g).trans j) (r.from (.of g)))]
def ZL{H:Hp}{w:b6}(a:H w=G0 (.tup [.str "level",.str n])):Rep H (Deed.level n).dt (.ref w) :=
 yG.mpr ⟨w,_,rfl,a,.two (zV.mpr rfl) (zV.mpr rfl)⟩
def cB:List V->Hp->Deed->Prop:=λa H D=>∃(n:c7),a=[.str n]/\D=.level n
def pB(_:ac):Sp:=eX cB
def ie(F:Fun K "level" "Book.level" yj f fd)(Z:Zs mg)(L:Cb P w mg base)(a:vE P w K mg base wZ 6 ["self","row"] (xE K)):yV P w K mg base (CX1 P w) 7 f fd ["self","name"] (pB K):=by
 erw[F.okX ip (λx H Q E h=>?_) (λJ A outer s H x Q E hr h=>?_)]
 ·obtain⟨b,p,u,S,D,past,later,rfl,bk,⟨n,rfl,rfl⟩,_⟩:=h;rfl
 obtain⟨b,p,u,S,D,past,later,rfl,bk,⟨n,rfl,rfl⟩,tm,v,G,q,o⟩:=h;have no:∀{d l:b6}{m:c7},m = "deed" ->(bkF d p l).lookup m=none:=λ{d l m} e=>by subst e; rwa[rV (by ac_nf) (by ac_nf) (by ac_nf)]
 obtain⟨I,d,l,M,N,y⟩:=id bk
 refine'⟨_,(zG (zQ (yF (λ_=>E) L.m_deed a zO (hr.mono (by decide)) (pv 0) ?_))),?_⟩
 nofun
 erw[_,U,b,I,_,U,y.ob,no rfl,_,U,sz2,λt C=>?_];have g:=zF C (.tup [.str "level",.str n]);erw[b,p,.ref t,S,.level n,past,later,U,bk.to (.of g),ZL zB,tm,v,G,λz r i j=>?_,λc B r i=>o c B _ ((xF.of g).trans i)];rwa[wx rfl (q z r ((xF.of g).trans i) (j.from (.of g)))]
def aH:List V->Hp->Deed->Prop:=λa H D=>∃(x y:Int),a=[.int x,.int y]/\D=.sail x y
def mG(_:ac):Sp:=eX aH
def gX(F:Fun K "sail" "Book.sail" vn f fd)(Z:Zs mg)(M:Cb P w mg base)(a:vE P w K mg base wZ 6 ["self","row"] (xE K)):yV P w K mg base (CX1 P w) 7 f fd ["self","x","y"] (mG K):=by
 erw[F.okX gy (λv H Q E h=>?_) (λL A outer s H v Q E hr h=>?_)]
 ·obtain⟨b,p,r,S,D,past,later,rfl,bk,⟨x,y,rfl,rfl⟩,_⟩:=h;rfl
 obtain⟨b,p,r,S,D,past,later,rfl,bk,⟨x,y,rfl,rfl⟩,tm,u,I,q,n⟩:=h;have no:∀{d l:b6}{m:c7},m = "deed" ->(bkF d p l).lookup m=none:=λ{d l m} e=>by subst e; rwa[rV (by ac_nf) (by ac_nf) (by ac_nf)]
 obtain⟨J,d,l,N,O,z⟩:=id bk
 refine'⟨_,(zG (zQ (yF (λ_=>E) M.m_deed a zO (hr.mono (by decide)) (pv 0) ?_))),?_⟩
 nofun
 erw[_,U,b,J,_,U,z.ob,no rfl,_,U,_,U,sz3,λt G=>?_];have g:=zF G (.tup [.str "sail",.int x,.int y]);erw[b,p,.ref t,S,.sail x y,past,later,U,bk.to (.of g),ce zB,tm,u,I,λB o i j=>?_,λc C o i=>n c C _ ((xF.of g).trans i)];rwa[wx rfl (q B o ((xF.of g).trans i) (j.from (.of g)))]
def bs5:BS:=⟨[("a",0,0),("b",3,4)],[("sand",[(0,0),(4,0),(0,4)])],[(1,2)],[(1,.range 0 "a" "b")],2⟩
def fW:List Deed:=[.mark "a" 0 0,.mark "b" 3 4,.bank "sand" [(0,0),(4,0),(0,4)],.sail 1 2,.range 0 "a" "b"]
def ixW:Nat->Option (Option Cl)
 | 0=>G0 (G0 .badName) | 1=>G0 (G0 .taken) | 2=>G0 (G0 .badPlace) | 3=>G0 (G0 .full) | 4=>G0 (G0 .noMark) | 5=>G0 (G0 .same) | 6=>G0 (G0 .needed) | 7=>G0 (G0 .badBank) | 8=>G0 (G0 .noBank)
 | 9=>G0 (G0 .badRun) | 10=>G0 (G0 .noRun) | 11=>G0 (G0 .noMoment) | 12=>G0 (G0 .badWay) | 13=>G0 (G0 .badTurn) | 14=>G0 (G0 .noNote) | 15=>G0 G2 | _=>G2
def pZ:uG "a" /\ uG "b" /\ uG "sand" /\ uG "reef" /\ ∀ k<3,¬ uG (ou ("A" : c7) ((k:Nat):Int)):=by unfold uG; ac_nf
def ma5:zS bs5 "a" = G0 (0,0)/\zS bs5 "b" = G0 (3,4)/\zS bs5 "c" = none:=by ac_nf
def bk5:∀ d<12,dg [(0,0),(0,1+((d:Nat):Int)),(1,0)]=false:=by ac_nf
def ba5:("reef" : c7) ∉ bs5.banks.map (·.1):=by ac_nf
def nr5:rT (0,0)/\rT (0,4)/\rT (1,0):=by unfold rT; decide
def nr9{d:Int}(h0:0<=d)(h1:d<9):rT (d,1):=⟨by show -1000<=d; lia,by show d<=1000; lia,by show(-1000:Int)<=1; decide,by show(1:Int)<=1000; decide⟩
def far5{x y:Int}(h:1000<x\/x < -1000\/1000<y):¬ rT (x,y):=λ⟨h1,h2,_,h4⟩=>by
 have h1 : -1000<=x:=h1;have h2:x<=1000:=h2;have h4:y<=1000:=h4;lia
def mom5:(0:Int)<=0/\(0:Int)<=bs5.runs.length:=by decide
def mom6:(0:Int)<=1/\(1:Int)<=bs5.runs.length:=by decide
def an5:¬ zS bs5 "a" = none:=by rw[ma5.1]; exact λz=>nomatch z
def bn5:¬ zS bs5 "b" = none:=by rw[ma5.2.1]; exact λz=>nomatch z
def jd0{k:Nat}(h:k<3):zT bs5 (.mark (ou ("A" : c7) (k:Int)) 0 0)=G0 .badName:=by rw[zT,y4 (pZ.2.2.2.2 k h)]
def jd1:zT bs5 (.mark "b" 1 1)=G0 .taken:=by rw[zT,y3 (λz=>z pZ.2.1),y4 (by rw[ma5.2.1]; rfl)]
def jd2{d:Nat} : zT bs5 (.move "b" (1001+(d:Int)) 0)=G0 .badPlace:=by rw[zT,y3 bn5,y4 (far5 (.inl (by lia)))]
def jd3{S:BS}(h:S.runs.length=12){d:Int}(h0:0<=d)(h1:d<9):zT S (.sail d 1)=G0 .full:=by rw[zT,y3 (λz=>z (nr9 h0 h1)),y4 (EN h.symm)]
def jd3n{S:BS}(h:S.runs.length<12){d:Int}(h0:0<=d)(h1:d<9):zT S (.sail d 1)=none:=by rw[zT,y3 (λz=>z (nr9 h0 h1)),y3 (Nat.not_le.mpr h)]
def jd4:zT bs5 (.unmark "c")=G0 .noMark:=by rw[zT,y4 ma5.2.2]
def jd5:zT bs5 (.move "b" 0 0)=G0 .same:=by
 have h:¬ ∀ e∈bs5.notes,nS (aft bs5 (.move "b" 0 0)) e.2:=λz=>by
  obtain⟨p,u,h1,h2,h3⟩:=z (1,.range 0 "a" "b") (.head _);rw[show zS (aft bs5 (.move "b" 0 0)) "a" = G0 (0,0) by ac_nf] at h1;rw[show zS (aft bs5 (.move "b" 0 0)) "b" = G0 (0,0) by ac_nf] at h2;cases h1; cases h2;rwa[h3 rfl]
 rw[zT,y3 bn5,y3 (λz=>z nr5.1),y3 h]
def jd6:zT bs5 (.unmark "a")=G0 .needed:=by
 have h:¬ ∀ e∈bs5.notes,qT "a" e.2:=λz=>(z (1,.range 0 "a" "b") (.head _)).1 rfl;rw[zT,y3 an5,y3 h]
def jd7{d:Nat}(h:d<12):zT bs5 (.bank "reef" [(0,0),(0,1+(d:Int)),(1,0)])=G0 .badBank:=by
 have b:∀ c∈[((0:Int),(0:Int)),(0,1+(d:Int)),(1,0)],rT c:=λc a=>by
  rcases f9.mp a with rfl | a
  ·rwa[nr5.1]
  rcases f9.mp a with rfl | a
  ·exact⟨by show(-1000:Int)<=0; decide,by show(0:Int)<=1000; decide,by show -1000<=1+(d:Int); lia,by show 1+(d:Int)<=1000; lia⟩
  rw[f7.mp a];rwa[nr5.2.2]
 rw[zT,y3 (λz=>z pZ.2.2.2.1),y3 ba5,y3 (λz=>z b),y4 (bk5 d h)]
def jd8:zT bs5 (.level "reef")=G0 .noBank:=by rw[zT,y3 ba5]
def jd9{d:Nat} : zT bs5 (.right 0 (-1001-(d:Int)) 0)=G0 .badRun:=by rw[zT,y4 (by decide),y3 (far5 (.inr (.inl (by lia))))]
def jd10{d:Nat} : zT bs5 (.right (1+(d:Int)) 0 0)=G0 .noRun:=by rw[zT,y3 (λz=>by have:=z.2; rw[show bs5.runs.length=1 from rfl] at this; lia)]
def ow5:wk (1,0):=by unfold wk; decide
def jd12{d:Nat} : zT bs5 (.bearing 0 "a" 0 (101+(d:Int)) 1 0)=G0 .badWay:=by
 have h:¬ wk (0,101+(d:Int)):=λz=>by
  have h4:101+(d:Int)<=100:=z.2.2.2.2;lia
 rw[zT,y3 (λz=>z mom5),y3 an5,y4 h]
def jd13{d:Nat}(h:d<12):zT bs5 (.bearing 1 "a" (1+(d:Int)) 0 1 0)=G0 .badTurn:=by
 have a:wk (1+(d:Int),0):=⟨λe=>by have:1+(d:Int)=0:=congrArg Prod.fst e; lia,by show -100<=1+(d:Int); lia,by show 1+(d:Int)<=100; lia,by show(-100:Int)<=0; decide,by show(0:Int)<=100; decide⟩;rw[zT,y3 (λz=>z mom6),y3 an5,y3 (λz=>z a),y3 (λz=>z ow5),y4 (by lia)]
def jd14{d:Nat} : zT bs5 (.strike (2+(d:Int)))=G0 .noNote:=by
 have h:¬ 2+(d:Int)∈bs5.notes.map (·.1):=λz=>by
  have:=f7.mp (show 2+(d:Int)∈[1] from z);lia
 rw[zT,y3 h]
def as5:mJ "c" /\ ∀ k<3,mJ (ou ("A" : c7) ((k:Nat):Int)):=by unfold mJ; ac_nf
def mQ{i:Int}(h : -5000<=i/\i<=5000):uI i:=by
 have h2:i.natAbs<=5000:=by lia
 by_cases z:i.natAbs=0
 ·unfold uI; rw[z]; decide
 ·exact(Fu z).mpr (B2 h2 (by decide))
def bank5{d:Nat}(h:d<12):∀ c∈[((0:Int),(0:Int)),(0,1+(d:Int)),(1,0)],c.1.natAbs.log2<20/\c.2.natAbs.log2<20:=by
 have:∀ d<12,∀ c∈[((0:Int),(0:Int)),(0,1+((d:Nat):Int)),(1,0)],c.1.natAbs.log2<20/\c.2.natAbs.log2<20:=by ac_nf
 rwa[this d h]
def pk(_:ac):Sp:=λc H Q E=>E6 λ(b p:b6) (w d:Nat) (past later:List (Deed×BS))=>A8 (c=[.int w,.ref b,.int d]) (jh bkC H b p bs5 past later) (pb bs5) (past.length<=10) (w<17) (d<12) (9<=w->Q .non H) (w<9->∀ a,xF (Bp b p) H a->E (.ref (axW (ixW w))) G2 a)
def ig(F:Fun K "_law_first" "_law_first" yz f fd)(Z:Zs mg)(I:Cb P w mg base)(t:vE P w K mg base oB 7 ["self","name"] (pB K))(x:vE P w K mg base kJ 7 ["self","name","corners"] (nu K))(g:vE P w K mg base sw 7 ["self","name"] (tu K))(j:vE P w K mg base lS 7 ["self","name","x","y"] (mE K))(v:vE P w K mg base kj 7 ["self","x","y"] (mG K))(o:vE P w K mg base lR 7 ["self","name","x","y"] (nC K)):yV P w K mg base (CX1 P w) 8 f fd ["_law_which","_law_book","_law_d"] (pk K):=by
 erw[F.okX pi (λvs H Q E h=>?_) (λcdv A outer s H vs Q E hr h=>?_)]
 ·obtain⟨b,p,w,d,past,later,rfl,_⟩:=h;rfl
 obtain⟨b,p,w,d,past,later,rfl,bk,y,hl,hw,hd,q,N⟩:=h;obtain⟨C,d0,l0,ps0,ls,B⟩:=id bk;have no:∀{d l:b6}{m:c7},m ≠ "state" -> m ≠ "past" -> m ≠ "later" ->(bkF d p l).lookup m=none:=λh1 h2 h3=>rV h1 h2 h3
 refine'⟨_,(zC (yJ ?_ (zG (zQ (yF (λ_=>E) I.m_mark o zO (hr.mono (by decide)) (pv 1) (zA (wO pO zJ ?_) (zA yR (zA yR zD)))))) zU)
   (zC (yJ ?_ (zG (zQ (yF (λ_=>E) I.m_mark o zO (hr.mono (by decide)) (pv 1) (zA zJ (zA yR (zA yR zD)))))) zU)
   (zC (yJ ?_ (zG (zQ (yF (λ_=>E) I.m_move j zO (hr.mono (by decide)) (pv 1) ?_))) zU)
   (zC (yJ ?_ (zG (rP Ba rfl (sC rfl Z.range (zA yR zD)) (lm 3 pi.nd) (zG (zQ (yF (λ_=>E) I.m_sail v zO (hr.mono (by decide)) (pv 1) ?_))))) zU)
   (zC (yJ ?_ (zG (zQ (yF (λ_=>E) I.m_unmark g zO (hr.mono (by decide)) (pv 1) (zA zJ zD)))) zU)
   (zC (yJ ?_ (zG (zQ (yF (λ_=>E) I.m_move j zO (hr.mono (by decide)) (pv 1) (zA zJ (zA yR (zA yR zD)))))) zU)
   (zC (yJ ?_ (zG (zQ (yF (λ_=>E) I.m_unmark g zO (hr.mono (by decide)) (pv 1) (zA zJ zD)))) zU)
   (zC (yJ ?_ (zG (zQ (yF (λ_=>E) I.m_bank x zO (hr.mono (by decide)) (pv 1) ?_))) zU)
   (zG (yJ ?_ (zG (zQ (yF (λ_=>E) I.m_level t zO (hr.mono (by decide)) (pv 1) (zA zJ zD)))) zU)))))))))),?_⟩
 nofun
 have J:∀{D:Deed}{c:Cl}{R:Prop},zT bs5 D=G0 c->zT bs5 D=G2->R:=λh1 h2=>by rw[h1] at h2; cases h2
 have L:∀{D:Deed}{c:Cl},zT bs5 D=G0 c->w<9->axW (ixW w)=axC c->∀(H1:Hp),xF (Bp b p) H H1->∀ k,zT bs5 D=G0 k->∀ G,Sam H1 G->E (.ref (axC k)) G2 G:=λh1 h2 h3 H1 s k h4 G s'=>by
  rw[h1] at h4;cases h4;rw[<- h3];rwa[N h2 G (s.trans (s'.wider λ_ z=>z.elim))]
 have r:past.length<=500:=by lia
 exists _,U,U,_,rfl;erw[ifE (λe=>?_) (λn0=>?_)];rotate_left;exists _,U,U,_,rfl;erw[ifE (λe=>?_) (λn1=>?_)];rotate_left;exists _,U,U,_,rfl;erw[ifE (λe=>?_) (λn2=>?_)];rotate_left;exists _,U,U,_,rfl;erw[ifE (λe=>?_) (λn3=>?_)];rotate_left;exists _,U,U,_,rfl;erw[ifE (λe=>?_) (λn4=>?_)];rotate_left;exists _,U,U,_,rfl;erw[ifE (λe=>?_) (λn5=>?_)];rotate_left;exists _,U,U,_,rfl;erw[ifE (λe=>?_) (λn6=>?_)];rotate_left;exists _,U,U,_,rfl;erw[ifE (λe=>?_) (λn7=>?_)];rotate_left;exists _,U,U,_,rfl;erw[ifE (λe=>?_) (λn8=>?_)];rotate_left
 ·rwa[q (by lia)]
 ·obtain rfl:w=0:=v9 e;have ek:(d:Int)%3=((d%3:Nat):Int):=by lia
  have l3:d%3<3:=FX _ (by decide);have jj:zT bs5 (.mark (ou ("A" : c7) ((d:Int)%3)) 0 0)=G0 .badName:=by rw[ek]; rwa[jd0 l3]
  rwa[_,U,b,C,_,U,B.ob,no (by ac_nf) (by ac_nf) (by ac_nf),_,U,_,_,U,U,(by decide),_,_,U,U,(by lia),(by lia),(by decide),b,p,_,bs5,.mark (ou ("A" : c7) ((d:Int)%3)) 0 0,past,later,U,bk,⟨_,0,0,U,U⟩,⟨by rw[ek]; exact as5.2 _ l3,(by unfold uI; decide),(by unfold uI; decide)⟩,y,r,J jj,L jj (by decide) rfl H (.refl _)]
 ·obtain rfl:w=1:=v9 e;rwa[_,U,b,C,_,U,B.ob,no (by ac_nf) (by ac_nf) (by ac_nf),b,p,_,bs5,.mark "b" 1 1,past,later,U,bk,⟨_,1,1,U,U⟩,⟨pZ.2.1.asc,(by unfold uI; decide),(by unfold uI; decide)⟩,y,r,J jd1,L jd1 (by decide) rfl H (.refl _)]
 ·obtain rfl:w=2:=v9 e;rwa[_,U,b,C,_,U,B.ob,no (by ac_nf) (by ac_nf) (by ac_nf),_,U,_,_,U,U,b,p,_,bs5,.move "b" (1001+(d:Int)) 0,past,later,U,bk,⟨_,_,0,U,U⟩,⟨pZ.2.1.asc,mQ (by lia),(by unfold uI; decide)⟩,y,r,J jd2,L jd2 (by decide) rfl H (.refl _)]
 ·obtain rfl:w=3:=v9 e;have m0:0<=(d:Int)%9:=Bv _ (by decide);have m9:(d:Int)%9<9:=AW _ (by decide);refine⟨_,U,(by decide),(by decide),rS (lo:=0) (n:=12) (λi X G=>A4 (E3 λ(S:BS) (past later:List (Deed×BS))=>A4 (jh bkC G b p S past later) (pb S) (S.runs.length=i+1) (past.length<=10+i)) (xF (Bp b p) H G) (i<=11) (∃ u:Option V,X=[G0 (.int ((3:Nat):Int)),G0 (.ref b),G0 (.int (d:Int)),u]))
   ⟨⟨bs5,past,later,bk,y,rfl,hl⟩,.refl _,j8 _,G2,rfl⟩ ?_ ?_⟩
  ·rintro i X G hi ⟨⟨S,past,later,bk,y,lr,lp⟩,sE,hi11,u,rfl⟩;obtain⟨C,d0,l0,ps0,ls,B⟩:=id bk;erw[_,U,b,C,_,U,B.ob,no (by ac_nf) (by ac_nf) (by ac_nf),_,U,_,_,U,U,(by decide),b,p,_,S,.sail ((d:Int)%9) 1,past,later,U,bk,⟨_,1,U,U⟩,⟨mQ (by lia),(by unfold uI; decide)⟩,y,by lia,λjn H2 M bk2=>?_,λc T H2 M=>?_]
   ·have li:S.runs.length<12:=by
     erw[Nat.lt_of_not_le λz=>?_];rw[jd3 (by lia) m0 m9] at jn;cases jn
    exact⟨⟨_,_,[],bk2.at,y.aft (vd jn),by show(S.runs++[_]).length=_; rw[d5,lr]; rfl,by rw[d5,Aw]; lia⟩,sE.trans M,by lia,_,rfl⟩
   ·have li:S.runs.length=12:=by
     erw[Decidable.byContradiction λz=>?_];rw[jd3n (by lia) m0 m9] at T;cases T
    rw[jd3 li m0 m9] at T;cases T;rwa[N (by decide) H2 (sE.trans (M.wider λ_ z=>z.elim))]
  ·rintro X G ⟨_,_,z,_⟩;lia
 ·obtain rfl:w=4:=v9 e;rwa[_,U,b,C,_,U,B.ob,no (by ac_nf) (by ac_nf) (by ac_nf),b,p,_,bs5,.unmark "c",past,later,U,bk,⟨_,U,U⟩,as5.1,y,r,J jd4,L jd4 (by decide) rfl H (.refl _)]
 ·obtain rfl:w=5:=v9 e;rwa[_,U,b,C,_,U,B.ob,no (by ac_nf) (by ac_nf) (by ac_nf),b,p,_,bs5,.move "b" 0 0,past,later,U,bk,⟨_,0,0,U,U⟩,⟨pZ.2.1.asc,(by unfold uI; decide),(by unfold uI; decide)⟩,y,r,J jd5,L jd5 (by decide) rfl H (.refl _)]
 ·obtain rfl:w=6:=v9 e;rwa[_,U,b,C,_,U,B.ob,no (by ac_nf) (by ac_nf) (by ac_nf),b,p,_,bs5,.unmark "a",past,later,U,bk,⟨_,U,U⟩,pZ.1.asc,y,r,J jd6,L jd6 (by decide) rfl H (.refl _)]
 ·obtain rfl:w=7:=v9 e;erw[_,U,b,C,_,U,B.ob,no (by ac_nf) (by ac_nf) (by ac_nf),sz2,λt1 h1=>?_];have s1:=zF h1 (.tup [.int 0,.int 0]);erw[_,U,_,_,U,U,sz2,λt2 h2=>?_];have M:=zF h2 (.tup [.int 0,.int (1+(d:Int))]);erw[sz2,λt3 h3=>?_];have Y:=zF h3 (.tup [.int 1,.int 0]);erw[sz3,λl hl'=>?_];have O:=zF hl' (.lst [.ref t1,.ref t2,.ref t3]);have sA:=s1.trans (M.trans (Y.trans O));have r1:=vQ (p:=(0,0)) (O _ _ (Y _ _ (M _ _ (zB (H:=H) (a:=t1)))));have r2:=vQ (p:=(0,1+(d:Int))) (O _ _ (Y _ _ (zB (a:=t2))));have r3:=vQ (p:=(1,0)) (O _ _ (zB (a:=t3)));exact⟨b,p,_,bs5,.bank "reef" [(0,0),(0,1+(d:Int)),(1,0)],past,later,U,bk.to (.of sA),⟨_,l,_,[(0,0),(0,1+(d:Int)),(1,0)],U,zB,zI.mpr ⟨_,_,U,r1,.two r2 r3⟩,U⟩,⟨pZ.2.2.2.1.asc,by show 3<=12; decide,bank5 hd⟩,y,r,J (jd7 hd),L (jd7 hd) (by decide) rfl _ (.of sA)⟩
 ·obtain rfl:w=8:=v9 e;rwa[_,U,b,C,_,U,B.ob,no (by ac_nf) (by ac_nf) (by ac_nf),b,p,_,bs5,.level "reef",past,later,U,bk,⟨_,U,U⟩,pZ.2.2.2.1.asc,y,r,J jd8,L jd8 (by decide) rfl H (.refl _)]
def Xz{H:Hp}{w:b6}{k x y:Int}(a:H w=G0 (.tup [.str "right",.int k,.int x,.int y])):Rep H (Deed.right k x y).dt (.ref w) :=
 yG.mpr ⟨w,_,rfl,a,zI.mpr ⟨_,_,rfl,zV.mpr rfl,zI.mpr ⟨_,_,rfl,yB.mpr rfl,.two (yB.mpr rfl) (yB.mpr rfl)⟩⟩⟩
def db:List V->Hp->Deed->Prop:=λa H D=>∃(k x y:Int),a=[.int k,.int x,.int y]/\D=.right k x y
def pP(_:ac):Sp:=eX db
def ir(F:Fun K "right" "Book.right" yq f fd)(Z:Zs mg)(M:Cb P w mg base)(a:vE P w K mg base wZ 6 ["self","row"] (xE K)):yV P w K mg base (CX1 P w) 7 f fd ["self","number","x","y"] (pP K):=by
 erw[F.okX iE (λv H Q E h=>?_) (λL A outer s H v Q E hr h=>?_)]
 ·obtain⟨b,p,r,S,D,past,later,rfl,bk,⟨k,x,y,rfl,rfl⟩,_⟩:=h;rfl
 obtain⟨b,p,r,S,D,past,later,rfl,bk,⟨k,x,y,rfl,rfl⟩,tm,u,I,q,n⟩:=h;have no:∀{d l:b6}{m:c7},m = "deed" ->(bkF d p l).lookup m=none:=λ{d l m} e=>by subst e; rwa[rV (by ac_nf) (by ac_nf) (by ac_nf)]
 obtain⟨J,d,l,N,O,z⟩:=id bk
 refine'⟨_,(zG (zQ (yF (λ_=>E) M.m_deed a zO (hr.mono (by decide)) (pv 0) ?_))),?_⟩
 nofun
 refine⟨_,U,b,J,_,U,z.ob,no rfl,_,U,_,U,_,U,(by show 4<=sizeLine; decide),λt G=>?_⟩;have g:=zF G (.tup [.str "right",.int k,.int x,.int y]);erw[b,p,.ref t,S,.right k x y,past,later,U,bk.to (.of g),Xz zB,tm,u,I,λB o i j=>?_,λc C o i=>n c C _ ((xF.of g).trans i)];rwa[wx rfl (q B o ((xF.of g).trans i) (j.from (.of g)))]
def iP:List V->Hp->Deed->Prop:=λe H D=>∃(m:Int)(n:c7)(o u:b6)(a b c d:Int),e=[.int m,.str n,.ref o,.ref u]/\H o=G0 (.tup [.int a,.int b])/\H u=G0 (.tup [.int c,.int d])/\D=.bearing m n a b c d
def xh(_:ac):Sp:=eX iP
def mY(F:Fun K "bearing" "Book.bearing" sM f fd)(Z:Zs mg)(Y:Cb P w mg base)(g:vE P w K mg base wZ 6 ["self","row"] (xE K)):yV P w K mg base (CX1 P w) 7 f fd ["self","moment","mark","one","other"] (xh K):=by
 erw[F.okX mj (λJ H Q E h=>?_) (λX A outer s H J Q E hr h=>?_)]
 ·obtain⟨b,p,G,S,D,past,later,rfl,bk,⟨m,n,o,u,a,B,c,z,rfl,y,x,rfl⟩,_⟩:=h;rfl
 obtain⟨b,p,G,S,D,past,later,rfl,bk,⟨m,n,o,u,a,B,c,z,rfl,y,x,rfl⟩,tm,I,R,q,v⟩:=h;have no:∀{d l:b6}{m:c7},m = "deed" ->(bkF d p l).lookup m=none:=λ{d l m} e=>by subst e; rwa[rV (by ac_nf) (by ac_nf) (by ac_nf)]
 obtain⟨T,dd,l,ps,ls,L⟩:=id bk
 refine'⟨_,(zG (zY (yF (λ_=>E) Y.m_deed g zO (hr.mono (by decide)) (pv 0) ?_))),?_⟩
 nofun
 refine⟨_,U,b,T,_,U,L.ob,no rfl,_,U,_,U,_,U,_,U,(by show 5<=sizeLine; decide),λt O=>?_⟩;have i:=zF O (.tup [.str "bearing",.int m,.str n,.ref o,.ref u]);erw[b,p,.ref t,S,.bearing m n a B c z,past,later,U,bk.to (.of i),lW zB (i _ _ y) (i _ _ x),tm,I,R,λM C j r=>?_,λc N C j=>v c N _ ((xF.of i).trans j)];rwa[q M C ((xF.of i).trans j) (r.from (.of i))]
def oC:List V->Hp->Deed->Prop:=λa H D=>∃(m:Int)(l r:c7),a=[.int m,.str l,.str r]/\D=.range m l r
def rN(_:ac):Sp:=eX oC
def qr(F:Fun K "range_note" "Book.range_note" uY f fd)(Z:Zs mg)(L:Cb P w mg base)(a:vE P w K mg base wZ 6 ["self","row"] (xE K)):yV P w K mg base (CX1 P w) 7 f fd ["self","moment","left","right"] (rN K):=by
 erw[F.okX uj (λx H Q E h=>?_) (λJ A outer s H x Q E hr h=>?_)]
 ·obtain⟨b,p,u,S,D,past,later,rfl,bk,⟨m,l,r,rfl,rfl⟩,_⟩:=h;rfl
 obtain⟨b,p,u,S,D,past,later,rfl,bk,⟨m,l,r,rfl,rfl⟩,tm,v,G,q,n⟩:=h;have no:∀{d l:b6}{m:c7},m = "deed" ->(bkF d p l).lookup m=none:=λ{d l m} e=>by subst e; rwa[rV (by ac_nf) (by ac_nf) (by ac_nf)]
 obtain⟨I,d,O,M,N,y⟩:=id bk
 refine'⟨_,(zG (zY (yF (λ_=>E) L.m_deed a zO (hr.mono (by decide)) (pv 0) ?_))),?_⟩
 nofun
 refine⟨_,U,b,I,_,U,y.ob,no rfl,_,U,_,U,_,U,(by show 4<=sizeLine; decide),λt C=>?_⟩;have g:=zF C (.tup [.str "range",.int m,.str l,.str r]);erw[b,p,.ref t,S,.range m l r,past,later,U,bk.to (.of g),iZ zB,tm,v,G,λz o i j=>?_,λc B o i=>n c B _ ((xF.of g).trans i)];rwa[q z o ((xF.of g).trans i) (j.from (.of g))]
def fk:List V->Hp->Deed->Prop:=λa H D=>∃(k:Int),a=[.int k]/\D=.strike k
def sx(_:ac):Sp:=eX fk
def jz(F:Fun K "strike" "Book.strike" qI f fd)(Z:Zs mg)(J:Cb P w mg base)(a:vE P w K mg base wZ 6 ["self","row"] (xE K)):yV P w K mg base (CX1 P w) 7 f fd ["self","number"] (sx K):=by
 erw[F.okX kh (λv H Q E h=>?_) (λI A outer s H v Q E hr h=>?_)]
 ·obtain⟨b,p,r,S,D,past,later,rfl,bk,⟨k,rfl,rfl⟩,_⟩:=h;rfl
 obtain⟨b,p,r,S,D,past,later,rfl,bk,⟨k,rfl,rfl⟩,tm,u,C,q,n⟩:=h;have no:∀{d l:b6}{m:c7},m = "deed" ->(bkF d p l).lookup m=none:=λ{d l m} e=>by subst e; rwa[rV (by ac_nf) (by ac_nf) (by ac_nf)]
 obtain⟨G,d,l,L,M,x⟩:=id bk
 refine'⟨_,(zG (zQ (yF (λ_=>E) J.m_deed a zO (hr.mono (by decide)) (pv 0) ?_))),?_⟩
 nofun
 erw[_,U,b,G,_,U,x.ob,no rfl,_,U,sz2,λt B=>?_];have g:=zF B (.tup [.str "strike",.int k]);erw[b,p,.ref t,S,.strike k,past,later,U,bk.to (.of g),ij zB,tm,u,C,λy o i j=>?_,λc z o i=>n c z _ ((xF.of g).trans i)];rwa[wx rfl (q y o ((xF.of g).trans i) (j.from (.of g)))]
def sT(_:ac):Sp:=λb H Q _=>E2 λ(e:b6) (n:Int)=>A4 (b=[.ref e,.int n]) (H e=G0 (yK e (.ref yC,G2))) (n.natAbs.log2<1920) (∀ a,H a=G2->Q .non (upd (upd H e (yK e (.ref yC,G0 a))) a (.xd [("at",.int n)])))
def lP(F:Fun K "__init__" "BadRow.__init__" qB f fd)(Z:Zs mg)(b:Cb P w mg base)  : yV P w K mg base CX0 1 f fd ["self","at"] (sT K):=by
 specialize kW
 ·obtain⟨e,n,rfl,_⟩:=h;rfl
 obtain⟨e,n,rfl,c,d,q⟩:=h;refine⟨_,(zC (zQ (iV b.i_xb b.gMarkError (zA (pv 0) (zA (wE (wD (qQ (pv 1) (wD vO)))) zD))))
   (zG (YR b.i_at (pv 0) (pv 1)))),?_⟩
 try dsimp only[L2.cxOf,L2.cxComp,L2.Cx.nox,mi,lz]
 erw[_,U,_,U,.inl ⟨n,U,d⟩,λx _=>⟨e,_,U,c,?_⟩];rwa[_,U,_,U,e,U,c,λg a=>q g a]
def ud(_:ac):Sp:=λd H Q E=>E7 λ(b p:b6) (z:c7) (n:Int) (S:BS) (past later:List (Deed×BS))=>A4 (d=[.ref b,.str z,.int n]) (n.natAbs.log2<1920) (jh bkC H b p S past later) ((A5 (z = "sail 1 1") (pb S) (past.length<=500) (zT S (.sail 1 1)=G2) (∀ a,xF (Bp b p) H a->BkF H a b p (aft S (.sail 1 1)) (past++[(.sail 1 1,S)])->Q .non a))\/(z = "sail 1 -0" /\ ∀(a:Hp)(c:b6),Same H a->a c=G0 (.xd [("at",.int n)])->E (.ref yC) (G0 c) a))
def kL(F:Fun K "do_row" "do_row" qG f fd)(Z:Zs mg)(y:Cb P w mg base)(g:vE P w K mg base wZ 6 ["self","row"] (xE K))(a:lO P w K mg base sB 1 ["self","at"] (sT K))(I:Has P w K mg base "deed_of" 3 ["row"] (wy K)):yV P w K mg base (CX1 P w) 7 f fd ["book","row","at"] (ud K):=by
 erw[F.okX zv (λL H Q E h=>?_) (λY A outer s H L Q E hr h=>?_)]
 ·obtain⟨b,p,z,n,S,past,later,rfl,_⟩:=h;rfl
 obtain⟨b,p,z,n,S,past,later,rfl,O,bk,h⟩:=h
 refine'⟨_,(zC (PS.nox (yT 3 zv.nd ?_))
   (zC (yJ ?_ (zG (ml (λ_=>E) y.i_BadRow a (hr.mono (by decide)) y.gBadRow jp (zA (pv 2) zD))) zU)
   (zG (bE (i:=4) (λ_ EE=>(zG (zQ (yF EE y.m_deed g oS (hr.mono (by decide)) (pv 0) (zA (pv 3) zD))))) y.gMarkError zv.nd rfl rfl (λ_=>(zG qD)))))),?_⟩
 nofun
 rcases h with ⟨rfl,J,R,N,q⟩ | ⟨rfl,q⟩
 ·erw[_,U,.inl ⟨U,λt H1 j ht T=>?_⟩];erw[_,U,U,_,U,rG ?_];obtain⟨X,d,l,ps,ls,k⟩:=id bk;have no:∀{d l:b6}{m:c7},m = "deed" ->(bkF d p l).lookup m=none:=λ{d l m} e=>by subst e; rwa[rV (by ac_nf) (by ac_nf) (by ac_nf)]
  have D:=bk.to (.of j);refine⟨_,U,b,X,_,U,j _ _ k.ob,no rfl,_,U,b,p,.ref t,S,.sail 1 1,past,later,U,D,?_,⟨by unfold uI; decide,by unfold uI; decide⟩,J,R,λ_ H2 M C=>?_,λc G=>by rw[N] at G; cases G⟩
  ·rwa[yG.mpr ⟨t,_,rfl,T,zI.mpr ⟨_,_,rfl,zV.mpr rfl,.two (yB.mpr rfl) (yB.mpr rfl)⟩⟩]
  ·rwa[q H2 ((xF.of j).trans M) (C.from (.of j))]
 ·erw[_,U,.inr ⟨U,λH1 j=>?_⟩];erw[_,U,U,_,U,qN ?_];erw[_,U,U,sz1,λe v=>?_];erw[e,n,U,zB,O,λB r=>?_];have u:B≠e:=λz=>by rw[z,zB] at r; cases r
  erw[U,e,(.ref yC,G0 B),U,by rw[zL u.symm,zB],U,q _ B (λx o ex=>?_) (by rw[kI u,zB])];rw[kI (zM (j _ _ ex) v),zL (zM (by rw[zL (zM (j _ _ ex) v)]; rwa[j _ _ ex]) r),zL (zM (j _ _ ex) v),zL (zM (j _ _ ex) v)];rwa[j _ _ ex]
def di(d:Nat):c7:=ou ("sail 1 1\n" : c7) (d:Int)++("sail 1 -0\n" : c7)
def kF:∀ d<12,Ej (di d) ("\n" : c7)=i9 d ("sail 1 1" : c7)++[("sail 1 -0" : c7), ""]/\(di d).length<=200:=by ac_nf
def YE:rT (1,1):=by unfold rT; decide
def pf{S:BS}(h:S.runs.length<12):zT S (.sail 1 1)=none:=by
 exact(y3 (λz=>z YE)).trans (y3 (Nat.not_le.mpr h))
def jN{H d:Hp}{b c:b6}(s:xF (λx=>x=b) (upd (upd H c o) b g) d)(h:H b=G2)(a:H c=G2):Sam H d:=λx v _ e=>by
 have n:x≠b:=zM e h;rwa[s x v n (by rw[zL n,zL (zM e a)]; exact e)]
def om{H c a:Hp}(d:Sam H c)(s:xF (Bp b p) c a)(h:H b=G2)(g:H p=G2):Sam H a:=λx o _ e=>by
 have n:¬ Bp b p x:=λz=>z.elim (λz=>by rw[z,h] at e; cases e) λz=>by rw[z,g] at e; cases e
 exact(d.wider (λ_ z=>z.elim) |>.trans s) x o n e
def nV(_:ac):Sp:=λc H Q E=>∃ d:Nat,A3 (c=[.str (di d)]) (d<12) (∀(a:Hp)(b:b6),Sam H a->a b=G0 (.xd [("at",.int d)])->E (.ref yC) (G0 b) a)
def gJ(F:Fun K "read" "read" va f fd)(Z:Zs mg)(J:Cb P w mg base)(a:lO P w K mg base sB 1 ["self","at"] (sT K))(M:tN P w K mg base "do_row" 7 ["book","row","at"] (ud K))(c:lO P w K mg base oi 2 ["self"] (qq K)):yV P w K mg base (CX1 P w) 8 f fd ["text"] (nV K):=by
 erw[F.okX rZ (λvs H Q E h=>?_) (λcdv A outer s H vs Q E hr h=>?_)]
 ·obtain⟨d,rfl,_⟩:=h;rfl
 obtain⟨d,rfl,hd,q⟩:=h;obtain⟨ep,el⟩:=kF d hd
 refine'⟨_,(zC (PS.nox (yT 1 rZ.nd (kO AL Dw DL jk (pv 0) (zA zJ zD))))
   (zC (PS.nox (yT 2 rZ.nd (lJ J.make c (hr.mono (by decide)) J.gBook)))
   (zC (PS.nox (yT 3 rZ.nd ?_))
   (zC (rP Ba rfl (sC rfl Z.range (zA (pv 3) zD)) (lm 4 rZ.nd) (zG (zQ (zX (λ_=>E) M zO (hr.mono (by decide)) rfl ?_))))
   (zC (yJ ?_ (zG (ml (λ_=>E) J.i_BadRow a (hr.mono (by decide)) J.gBadRow jp (zA (pv 3) zD))) zU)
   (zG (PS.nox (zY (pv 2))))))))),?_⟩
 nofun
 erw[_,U,U,_,_,U,U,U,g9 (Nat.add_le_add_right el 2) (by decide),λr X=>?_];rw[ep];have B:=zF X (.lst ((i9 d ("sail 1 1" : c7)++[("sail 1 -0" : c7), ""]).map V.str));have lw:(i9 d ("sail 1 1" : c7)++[("sail 1 -0" : c7), ""]).map V.str=i9 d (.str "sail 1 1")++[.str "sail 1 -0",.str ""]:=by rw[j6,List.map_replicate]; rfl
 rw[lw] at B ⊢;generalize m:(i9 d (V.str "sail 1 1")++[V.str "sail 1 -0",V.str ""])=g at B ⊢;have T:g.length=d+2:=by rw[<- m,d5,v8]; rfl
 have w1:∀ i,i<d->g[i]?=G0 (.str "sail 1 1"):=λi hi=>by
  rw[<- m,x0 (by rw[v8]; rwa[hi]),Bk,y4 hi]
 have w2:g[d]?=G0 (.str "sail 1 -0"):=by
  rw[<- m,v6 (by rw[v8]; rwa[d8 _]),v8,Nat.sub_self];rfl
 intro b I x t nbd;refine⟨b,I,U,zB,λp l H2 s2 o hl k=>⟨U,?_⟩⟩;have D:H b=none:=B.free x;have sm:Sam H H2:=(xF.of B).trans (jN s2 x t);have Y:H p=none:=by
  by_cases z:p=b
  ·rw[z]; rwa[D]
  ·rw[zL z] at o;by_cases z2:p=I
   ·rw[z2,zB] at o; cases o
   ·rw[zL z2] at o; rwa[B.free o]
 have G:H2 r=G0 (.lst g):=by
  have e0:upd (upd (upd H r (.lst g)) I (.own b)) b (.ins bkC I []) r=G0 (.lst g):=by rw[zL (zM zB x),zL (zM zB t),zB]
  exact s2.lst (λz=>by rw[z,zB] at x; cases x) e0
 have C:r≠b:=λz=>by rw[<- z,zB] at x; cases x
 have R:r≠p:=λz=>by
  rw[<- z,zL C,zL (zM zB t),zB] at o;cases o
 exists _,U,r,_,U,.inl (SqL.of G),_,_,U,rfl;rw[show V.int ((g.length:Int)-1)=V.int ((d:Int)+1) by rw[T]; congr 1; lia];refine⟨_,U,_,U,(by lia),(by lia),rS (lo:=0) (n:=d+1) (λi L y=>A4 (E2 λ(S:BS) (past:List (Deed×BS))=>A4 (jh bkC y b p S past []) (pb S) (S.runs.length=i) (past.length=i)) (xF (Bp b p) H2 y) (i<=d) (∃ u:Option V,L=[G0 (.str (di d)),G0 (.ref r),G0 (.ref b),G0 (.int ((d:Int)+1)),u]))
  ⟨⟨BS.nil,[],k.at,pb.nil,rfl,rfl⟩,.refl _,j8 _,G2,rfl⟩ ?_ ?_⟩
 ·rintro i L y hi ⟨⟨S,past,bk,wl,lr,lp⟩,N,hid,u,rfl⟩;have er:y r=G0 (.lst g):=N.lst (λz=>z.elim C R) G;have ix:∀ v,g[i]?=G0 v->atI g (0+(i:Int))=G0 v:=λv e=>by rw[Ch]; rwa[pW e]
  have j:((0:Int)+(i:Int)).natAbs.log2<1920:=by
   rw[Ch,EB];rwa[B2 (Nat.log2_le_self i) (by lia)]
  rcases Fb i d with id | id
  ·erw[_,U,_,U,_,U,r,_,_,_,U,U,.inl (SqL.of er),ix _ (w1 i id),_,U,b,p,_,_,S,past,[],U,j,bk,.inl ⟨U,wl,by lia,pf (by lia),λH3 O bk3=>?_⟩];exact⟨⟨_,_,bk3.at,wl.aft (vd (pf (by lia))),by show(S.runs++[_]).length=_; rw[d5,lr]; rfl,by rw[d5,lp]; rfl⟩,N.trans O,id,_,rfl⟩
  ·obtain rfl:i=d:=by lia
   erw[_,U,_,U,_,U,r,_,_,_,U,U,.inl (SqL.of er),ix _ w2,_,U,b,p,_,_,S,past,[],U,j,bk,.inr ⟨U,λH3 dd O e3=>?_⟩];refine q H3 dd (om sm (N.trans ((show Sam y H3 from .of O).wider λ_ z=>z.elim)) D Y) ?_;rw[Ch] at e3;rwa[e3]
 ·rintro L y ⟨_,_,hid,_⟩;lia
def len16:∀ d<12,(ou ("sail 1 1\n" : c7) ((d:Nat):Int)).length+("sail 1 -0\n" : c7).length<=sizeLine:=by ac_nf
def cm(w d:Nat)(x:Option b6)(H:Hp):Prop:=if w=16 then ∃ a,x=G0 a/\H a=G0 (.xd [("at",.int d)]) else x=G2
def rh(_:ac):Sp:=λc H Q E=>E6 λ(b p l:b6) (w d:Nat) (past:List (Deed×BS))=>A8 (c=[.int w,.ref b,.int d]) (BkL bkC H b p l bs5 past []) (pb bs5) (past.length<=10) (w<17) (d<12) (w<9->Q .non H) (9<=w->∀(a:Hp)(x:Option b6),xF (Bp b p) H a->cm w d x a->E (.ref (axW (ixW w))) x a)
def kX(F:Fun K "_law_second" "_law_second" qE f fd)(Z:Zs mg)(G:Cb P w mg base)(O:tN P w K mg base "read" 8 ["text"] (nV K))(n:vE P w K mg base lY 2 ["self"] (mm K))(i:vE P w K mg base tq 7 ["self","number"] (sx K))(a:vE P w K mg base xw 7 ["self","moment","mark","one","other"] (xh K))(S:tN P w K mg base "book_area" 4 ["book","moment"] (qR K))(g:vE P w K mg base oN 7 ["self","number","x","y"] (pP K)):yV P w K mg base (CX1 P w) 9 f fd ["_law_which","_law_book","_law_d"] (rh K):=by
 erw[F.okX lQ (λvs H Q E h=>?_) (λcdv A outer s H vs Q E hr h=>?_)]
 ·obtain⟨b,p,l,w,d,past,rfl,_⟩:=h;rfl
 obtain⟨b,p,l,w,d,past,rfl,bl,y,hl,hw,hd,q,N⟩:=h;have bk:=bl.at;have r:past.length<=500:=by lia
 obtain⟨C,d0,l0,ps0,ls,B⟩:=id bk;have no:∀{d l:b6}{m:c7},m ≠ "state" -> m ≠ "past" -> m ≠ "later" ->(bkF d p l).lookup m=none:=λh1 h2 h3=>rV h1 h2 h3;have t:9<=w->w<17->∀(j:Hp)(x:Option b6),xF (Bp b p) H j->cm w d x j->E (.ref (axW (ixW w))) x j:=λh _=>N h;have L:∀{D:Deed}{c:Cl}{R:Prop},zT bs5 D=G0 c->zT bs5 D=G2->R:=λh1 h2=>by rw[h1] at h2; cases h2
 have M:∀{D:Deed}{c:Cl},zT bs5 D=G0 c->9<=w/\w≠16->axW (ixW w)=axC c->∀(H1:Hp),xF (Bp b p) H H1->∀ k,zT bs5 D=G0 k->∀ j,Sam H1 j->E (.ref (axC k)) G2 j:=λh1 h2 h3 H1 s k h4 j v=>by
  rw[h1] at h4;cases h4;rw[<- h3];rwa[t h2.1 hw j G2 (s.trans (v.wider λ_ z=>z.elim)) (by unfold cm; rw[y3 h2.2])]
 refine'⟨_,(zC (yJ ?_ (zG (zQ (yF (λ_=>E) G.m_right g zO (hr.mono (by decide)) (pv 1) ?_))) zU)
   (zC (yJ ?_ (zG (zQ (yF (λ_=>E) G.m_right g zO (hr.mono (by decide)) (pv 1) ?_))) zU)
   (zC (yJ ?_ (zG (zQ (zX (λ_=>E) S zO (hr.mono (by decide)) rfl ?_))) zU)
   (zC (yJ ?_ (zG (zQ (yF (λ_=>E) G.m_bearing a zO (hr.mono (by decide)) (pv 1) ?_))) zU)
   (zC (yJ ?_ (zG (zQ (yF (λ_=>E) G.m_bearing a zO (hr.mono (by decide)) (pv 1) ?_))) zU)
   (zC (yJ ?_ (zG (zQ (yF (λ_=>E) G.m_strike i zO (hr.mono (by decide)) (pv 1) ?_))) zU)
   (zC (yJ ?_ (zG (zQ (gq (λ_=>E) G.m_redo n zO (hr.mono (by decide)) (pv 1)))) zU)
   (zG (yJ ?_ (zG (zQ (zX (λ_=>E) O zO (hr.mono (by decide)) rfl (zA (wO pC (wO pO zJ (pv 2)) zJ) zD)))) zU))))))))),?_⟩
 nofun
 exists _,U,U,_,rfl;erw[ifE (λe=>?_) (λn9=>?_)];rotate_left;exists _,U,U,_,rfl;erw[ifE (λe=>?_) (λn10=>?_)];rotate_left;exists _,U,U,_,rfl;erw[ifE (λe=>?_) (λn11=>?_)];rotate_left;exists _,U,U,_,rfl;erw[ifE (λe=>?_) (λn12=>?_)];rotate_left;exists _,U,U,_,rfl;erw[ifE (λe=>?_) (λn13=>?_)];rotate_left;exists _,U,U,_,rfl;erw[ifE (λe=>?_) (λn14=>?_)];rotate_left;exists _,U,U,_,rfl;erw[ifE (λe=>?_) (λn15=>?_)];rotate_left;exists _,U,U,_,rfl;erw[ifE (λe=>?_) (λn16=>?_)];rotate_left
 ·rwa[q (by lia)]
 ·obtain rfl:w=9:=v9 e;rwa[_,U,b,C,_,U,B.ob,no (by ac_nf) (by ac_nf) (by ac_nf),_,U,_,U,_,_,U,U,b,p,_,bs5,.right 0 (-1001-(d:Int)) 0,past,[],U,bk,⟨0,_,0,U,U⟩,⟨(by unfold uI; decide),mQ (by lia),(by unfold uI; decide)⟩,y,r,L jd9,M jd9 (by decide) rfl H (.refl _)]
 ·obtain rfl:w=10:=v9 e;rwa[_,U,b,C,_,U,B.ob,no (by ac_nf) (by ac_nf) (by ac_nf),_,U,_,_,U,U,b,p,_,bs5,.right (1+(d:Int)) 0 0,past,[],U,bk,⟨_,0,0,U,U⟩,⟨mQ (by lia),(by unfold uI; decide),(by unfold uI; decide)⟩,y,r,L jd10,M jd10 (by decide) rfl H (.refl _)]
 ·obtain rfl:w=11:=v9 e;exact⟨_,U,_,U,_,_,U,U,b,p,bs5,past,[],_,U,bk,y.good.few,⟨.inr (by show(1:Int)<2+d; lia),AD (show uI (2+(d:Int)) from mQ (by lia)) (by decide)⟩,λj v=>t (by decide) (by decide) j G2 (.of v) rfl⟩
 ·obtain rfl:w=12:=v9 e;erw[_,U,b,C,_,U,B.ob,no (by ac_nf) (by ac_nf) (by ac_nf),_,U,_,_,U,U,sz2,λo Y=>?_];have T:=zF Y (.tup [.int 0,.int (101+(d:Int))]);erw[sz2,λu X=>?_];have J:=zF X (.tup [.int 1,.int 0]);have I:=T.trans J;rwa[b,p,_,bs5,.bearing 0 "a" 0 (101+(d:Int)) 1 0,past,[],U,bk.to (.of I),⟨0, "a",o,u,_,_,1,0,U,J _ _ zB,zB,U⟩,⟨(by unfold uI; decide),pZ.1.asc,(by unfold uI; decide),(mQ (by lia)),(by unfold uI; decide),(by unfold uI; decide)⟩,y,r,L jd12,M jd12 (by decide) rfl _ (.of I)]
 ·obtain rfl:w=13:=v9 e;erw[_,U,b,C,_,U,B.ob,no (by ac_nf) (by ac_nf) (by ac_nf),_,U,_,_,U,U,sz2,λo Y=>?_];have T:=zF Y (.tup [.int (1+(d:Int)),.int 0]);erw[sz2,λu X=>?_];have J:=zF X (.tup [.int 1,.int 0]);have I:=T.trans J;rwa[b,p,_,bs5,.bearing 1 "a" (1+(d:Int)) 0 1 0,past,[],U,bk.to (.of I),⟨1, "a",o,u,_,_,1,0,U,J _ _ zB,zB,U⟩,⟨(by unfold uI; decide),pZ.1.asc,(mQ (by lia)),(by unfold uI; decide),(by unfold uI; decide),(by unfold uI; decide)⟩,y,r,L (jd13 hd),M (jd13 hd) (by decide) rfl _ (.of I)]
 ·obtain rfl:w=14:=v9 e;rwa[_,U,b,C,_,U,B.ob,no (by ac_nf) (by ac_nf) (by ac_nf),_,U,_,_,U,U,b,p,_,bs5,.strike (2+(d:Int)),past,[],U,bk,⟨_,U,U⟩,(mQ (by lia)),y,r,L jd14,M jd14 (by decide) rfl H (.refl _)]
 ·obtain rfl:w=15:=v9 e;rwa[_,U,b,C,_,U,B.ob,no (by ac_nf) (by ac_nf) (by ac_nf),b,p,l,bs5,past,[],U,bl,j8 _,(by lia),(λpre D S0 e=>by cases pre <;> cases e),λ_ j v=>t (by decide) (by decide) j G2 (v.wider λ_ z=>z.elim) rfl]
 ·obtain rfl:w=16:=v9 e;rwa[_,U,_,_,U,U,(by lia),(by lia),(by decide),_,_,U,U,len16 d hd,d,U,hd,λj dd v e=>t (by decide) (by decide) j (G0 dd) (v.wider λ_ z=>z.elim) ⟨dd,U,e⟩]
def st5(i:Nat):BS:=(fW.take i).foldl aft BS.nil
def Xi:aft (st5 4) (.range 0 "a" "b")=bs5:=rfl
def ok5:∀ i D,fW[i]?=G0 D->zT (st5 i) D=G2/\aft (st5 i) D=st5 (i+1)/\iA D:=by
 intro i D h
 match i,h with
 | 0,h =>
  cases h;rwa[by rw[zT,y3 (λz=>z pZ.1),y3 (by ac_nf),y3 (λz=>z nr5.1),y3 (by decide)],U,pZ.1.asc,by unfold uI; decide,by unfold uI; decide]
 | 1,h =>
  cases h;rwa[by rw[zT,y3 (λz=>z pZ.2.1),y3 (by ac_nf),y3 (λz=>z (by unfold rT; decide)),y3 (by decide)],rfl,pZ.2.1.asc,by unfold uI; decide,by unfold uI; decide]
 | 2,h =>
  cases h;have d:∀ c∈[((0:Int),(0:Int)),(4,0),(0,4)],rT c:=by unfold rT; decide
  exact⟨by rw[zT,y3 (λz=>z pZ.2.2.1),y3 (by ac_nf),y3 (λz=>z d),y3 (by rw[show dg [((0:Int),(0:Int)),(4,0),(0,4)]=G3 by ac_nf]; decide),y3 (by decide)],rfl,pZ.2.2.1.asc,by decide,by ac_nf⟩
 | 3,h =>
  cases h;rwa[by rw[zT,y3 (λz=>z (by unfold rT; decide)),y3 (by decide)],rfl,by unfold uI; decide,by unfold uI; decide]
 | 4,h =>
  cases h;have b:zS (st5 4) "a" = G0 (0,0):=by ac_nf
  have a:zS (st5 4) "b" = G0 (3,4):=by ac_nf
  exact⟨by rw[zT,y3 (λz=>z ⟨by decide,by decide⟩),y3 (by rw[b]; exact λz=>nomatch z),y3 (by rw[a]; exact λz=>nomatch z),y3 (by rw[b,a]; decide),y3 (by decide)],rfl,by unfold uI; decide,pZ.1.asc,pZ.2.1.asc⟩
 | i+5,h=>cases h
def oR:∀ w<17,(axW (ixW w) == yC)=decide (w=16)/\axW (ixW w)∈YQ:=by decide
def gT:yC∈YQ:=by decide
def fx{w d:Nat}{H:Hp}(h:cm w d x H):∀ y,x=G0 y->∃ u,H y=G0 u:=λy e=>by
 unfold cm at h;split at h
 ·obtain⟨a,h1,h2⟩:=h;rw[e] at h1;cases h1;rwa[_,h2]
 ·rw[e] at h; cases h
def qS(_:ac):Sp:=λb H Q _=>E2 λ(w d:Nat)=>A4 (b=[.int w,.int d]) (w<17) (d<12) (∀(t:b6)(a:Hp),Sam H a->a t=G0 (.tup [.str (rO (ixW w)),.int (if w=16 then(d:Int) else -1)])->Q (.ref t) a)
def qg(F:Fun K "_law_raised_by" "_law_raised_by" vS f fd)(Z:Zs mg)(g:Cb P w mg base)(yBm:tN P w K mg base "_law_second" 9 ["_law_which","_law_book","_law_d"] (rh K))(yBn:tN P w K mg base "_law_first" 8 ["_law_which","_law_book","_law_d"] (pk K))(yBe:XH P w K mg base "_law_refused" 1 ["_law_e"] (rJ K))(j:vE P w K mg base sU 7 ["self","moment","left","right"] (rN K))(C:vE P w K mg base wZ 6 ["self","row"] (xE K))(r:lO P w K mg base oi 2 ["self"] (qq K)):yV P w K mg base CX0 10 f fd ["_law_which","_law_d"] (qS K):=by
 specialize uP
 ·obtain⟨w,d,rfl,_⟩:=h;rfl
 obtain⟨w,d,rfl,hw,hd,q⟩:=h;have tk:∀ w<17,sF base (.ref (axW (ixW w))) zW:=λw h=>by
  match w,h with
  | 0,_=>rwa[g.t_BadName_MarkError]
  | 1,_=>rwa[g.t_Taken_MarkError]
  | 2,_=>rwa[g.t_BadPlace_MarkError]
  | 3,_=>rwa[g.t_Full_MarkError]
  | 4,_=>rwa[g.t_NoMark_MarkError]
  | 5,_=>rwa[g.t_Same_MarkError]
  | 6,_=>rwa[g.t_Needed_MarkError]
  | 7,_=>rwa[g.t_BadBank_MarkError]
  | 8,_=>rwa[g.t_NoBank_MarkError]
  | 9,_=>rwa[g.t_BadRun_MarkError]
  | 10,_=>rwa[g.t_NoRun_MarkError]
  | 11,_=>rwa[g.t_NoMoment_MarkError]
  | 12,_=>rwa[g.t_BadWay_MarkError]
  | 13,_=>rwa[g.t_BadTurn_MarkError]
  | 14,_=>rwa[g.t_NoNote_MarkError]
  | 15,_=>rwa[g.t_NothingLeft_MarkError]
  | 16,_=>rwa[g.t_BadRow_MarkError]
  | w+17,h=>lia
 refine'⟨_,zC ?za ?zb,?zc⟩
 case' zb=>with_reducible refine' zC ?zd ?ze
 case' ze=>refine'(zC (zQ (yF (λ_=>E0) g.m_range_note j fu (hr.mono (by decide)) (pv 2) (zA yR (zA zJ (zA zJ zD)))))
   (zC (bE (i:=4) (λ_ EE=>(zC (zQ (zX EE yBn oS (hr.mono (by decide)) rfl (zA (pv 0) (zA (pv 2) (zA (pv 1) zD)))))
   (zG (zQ (zX EE yBm oS (hr.mono (by decide)) rfl (zA (pv 0) (zA (pv 2) (zA (pv 1) zD)))))))) g.gMarkError uP.nd rfl rfl (λ_=>(zG (zY (yD (zA (df yBe (hr.mono (by decide)) rfl (zA (pv 4) zD)) (zA (vm (qP (zR (zN (B:=base) rfl) rfl Z.isinstance zK (zA (pv 4) (zA (yL g.gBadRow) zD)))) (bo g.i_at (pv 4)) ?_) zD)))))))
   (zG (zY ?_))))
 case' za=>exact(yT 2 uP.nd (lJ g.make r (hr.mono (by decide)) g.gBook))
 case' zd=>with_reducible refine' rP ?zf ?zg (gP ?zh) ?zi ?zj ?zk
 case zk=>intro _; rfl
 case zf=>rwa[A1]
 case zg=>rwa[rfl]
 case zi=>exact(lm 3 uP.nd)
 case zj=>exact(zG (zQ (yF (λ_=>E0) g.m_deed C fu (hr.mono (by decide)) (pv 2) (zA (pv 3) zD))))
 case' zh=>with_reducible refine' xT (zA ?zl (zA ?zm (zA ?zn (zA ?zo zD ?zp) ?zq) ?zr) ?zs)
 case zp=>rwa[rfl]
 case zq=>rwa[rfl]
 case zr=>rwa[rfl]
 case zs=>rwa[rfl]
 case zl=>rwa[yD (zA zJ (zA zJ (zA yR (zA yR zD))))]
 case zm=>rwa[yD (zA zJ (zA zJ (zA yR (zA yR zD))))]
 case zn=>rwa[yD (zA zJ (zA zJ (zA (yD (zA (yD (zA yR (zA yR zD))) (zA (yD (zA yR (zA yR zD))) (zA (yD (zA yR (zA yR zD))) zD)))) zD)))]
 case zo=>rwa[yD (zA zJ (zA yR (zA yR zD)))]
 nofun
 intro b dx hb hdx nbd;refine⟨b,dx,U,zB,λp l H2 s2 hp hl k=>⟨U,?_⟩⟩;have sm:Sam H H2:=jN s2 hb hdx;have hpH:H p=none:=by
  by_cases z:p=b
  ·rw[z]; rwa[hb]
  ·rw[zL z] at hp;by_cases z2:p=dx
   ·rw[z2,zB] at hp; cases hp
   ·rw[zL z2] at hp; rwa[hp]
 refine⟨(by show 4<=sizeLine; decide),λR h1=>?_⟩;have s3:=zF h1 (.tup [.str "mark",.str "a",.int 0,.int 0]);refine⟨(by show 4<=sizeLine; decide),λO h2=>?_⟩;have s4:=zF h2 (.tup [.str "mark",.str "b",.int 3,.int 4]);refine⟨sz2,λu1 g1=>?_⟩;have s5:=zF g1 (.tup [.int 0,.int 0]);refine⟨sz2,λu2 g2=>?_⟩;have s6:=zF g2 (.tup [.int 4,.int 0]);refine⟨sz2,λu3 g3=>?_⟩;have o:=zF g3 (.tup [.int 0,.int 4]);refine⟨sz3,λu4 g4=>?_⟩;have s8:=zF g4 (.tup [.ref u1,.ref u2,.ref u3]);refine⟨sz3,λN h3=>?_⟩;have s9:=zF h3 (.tup [.str "bank",.str "sand",.ref u4]);refine⟨sz3,λM h4=>?_⟩;have s10:=zF h4 (.tup [.str "sail",.int 1,.int 2]);refine⟨(by show 4<=sizeLine; decide),λlr hlr=>?_⟩;have s11:=zF hlr (.lst [.ref R,.ref O,.ref N,.ref M]);have x7:=s10.trans s11;have x6:=s9.trans x7;have x5:=s8.trans x6;have x4:=o.trans x5;have x3:=s6.trans x4;have x2:=s5.trans x3;have x1:=s4.trans x2;have sA:=s3.trans x1;have e1:=x1 _ _ (zB (H:=H2) (a:=R));have e2:=x2 _ _ (zB (a:=O));have ev1:=x3 _ _ (zB (a:=u1));have ev2:=x4 _ _ (zB (a:=u2));have Y:=x5 _ _ (zB (a:=u3));have X:=x6 _ _ (zB (a:=u4));have e3:=x7 _ _ (zB (a:=N));have e4:=s11 _ _ (zB (a:=M));have k4:=k.to (.of sA);have S:=sm.trans (.of sA);have eL:upd (upd (upd (upd (upd (upd (upd (upd (upd H2 R (.tup [.str "mark",.str "a",.int 0,.int 0])) O (.tup [.str "mark",.str "b",.int 3,.int 4])) u1 (.tup [.int 0,.int 0])) u2 (.tup [.int 4,.int 0])) u3 (.tup [.int 0,.int 4])) u4 (.tup [.ref u1,.ref u2,.ref u3])) N (.tup [.str "bank",.str "sand",.ref u4])) M (.tup [.str "sail",.int 1,.int 2])) lr (.lst [.ref R,.ref O,.ref N,.ref M]) lr=G0 (.lst [.ref R,.ref O,.ref N,.ref M]):=zB;clear x7 x6 x5 x4 x3 x2 x1 s11;revert eL e1 e2 ev1 ev2 Y X e3 e4 k4 S sA;generalize upd (upd (upd (upd (upd (upd (upd (upd (upd H2 R (.tup [.str "mark",.str "a",.int 0,.int 0])) O (.tup [.str "mark",.str "b",.int 3,.int 4])) u1 (.tup [.int 0,.int 0])) u2 (.tup [.int 4,.int 0])) u3 (.tup [.int 0,.int 4])) u4 (.tup [.ref u1,.ref u2,.ref u3])) N (.tup [.str "bank",.str "sand",.ref u4])) M (.tup [.str "sail",.int 1,.int 2])) lr (.lst [.ref R,.ref O,.ref N,.ref M])=H4;intro sA e1 e2 ev1 ev2 Y X e3 e4 k4 S eL;clear h1 h2 g1 g2 g3 g4 h3 h4 hlr s3 s4 s5 s6 o s8 s9 s10 s2 sm k;have row:∀ i x,([.ref R,.ref O,.ref N,.ref M]:List V)[i]?=G0 x->i<4/\∃ D,fW[i]?=G0 D/\Rep H4 D.dt x:=by
  intro i x h
  match i,h with
  | 0,h=>cases h; rwa[by decide,_,U,yG.mpr ⟨R,_,U,e1,zI.mpr ⟨_,_,U,zV.mpr rfl,zI.mpr ⟨_,_,U,zV.mpr rfl,.two (yB.mpr rfl) (yB.mpr rfl)⟩⟩⟩]
  | 1,h=>cases h; rwa[by decide,_,U,yG.mpr ⟨O,_,U,e2,zI.mpr ⟨_,_,U,zV.mpr rfl,zI.mpr ⟨_,_,U,zV.mpr rfl,.two (yB.mpr rfl) (yB.mpr rfl)⟩⟩⟩]
  | 2,h=>cases h; rwa[by decide,_,U,yG.mpr ⟨N,_,U,e3,zI.mpr ⟨_,_,U,zV.mpr rfl,.two (zV.mpr rfl) (yG.mpr ⟨u4,_,U,X,zI.mpr ⟨_,_,U,vQ (p:=(0,0)) ev1,.two (vQ (p:=(4,0)) ev2) (vQ (p:=(0,4)) Y)⟩⟩)⟩⟩]
  | 3,h=>cases h; rwa[by decide,_,U,yG.mpr ⟨M,_,U,e4,zI.mpr ⟨_,_,U,zV.mpr rfl,.two (yB.mpr rfl) (yB.mpr rfl)⟩⟩]
  | i+4,h=>cases h
 clear e1 e2 e3 e4 ev1 ev2 Y X;have no:∀{d l:b6}{m:c7},m ≠ "state" -> m ≠ "past" -> m ≠ "later" ->(bkF d p l).lookup m=none:=λh1 h2 h3=>rV h1 h2 h3;obtain⟨dx0,d0,ps0,ls0,z0⟩:=id k4;have nlb:lr≠b/\lr≠p:=⟨λe=>(by have:=z0.ob; rw[<- e,eL] at this; cases this),λe=>by
  have h1:=z0.pa;rw[<- e,eL] at h1;cases h1;exact nomatch (show 4=0 from z0.pp.len)⟩
 have np:=XA z0.ob z0.pa;refine⟨lr,U,⟨_,SqL.of eL⟩,jT (K:=K) (a:=lr) (xs:=[.ref R,.ref O,.ref N,.ref M]) (λi σ H'=>A3 (E2 λ(l:b6) (past:List (Deed×BS))=>A3 (BkL bkC H' b p l (st5 i) past []) (pb (st5 i)) (past.length=i)) (xF (Bp b p) H4 H') (E2 λ(u v:Option V)=>σ=[G0 (.int w),G0 (.int d),G0 (.ref b),u,v]))
  ⟨⟨l,[],k4,pb.nil,rfl⟩,.refl _,G2,G2,rfl⟩ (λi σ H' _ hq=>SqL.of (hq.2.lst (λz=>z.elim nlb.1 nlb.2) eL)) ?_ ?_⟩
 ·rintro i x σ H' hi ⟨⟨l,past,bl,wl,lp⟩,sE,u,v,rfl⟩;obtain⟨i4,D,gD,rep⟩:=row i x hi;obtain⟨jn,L,tm⟩:=ok5 i D gD;obtain⟨dx,d0,ps,ls,_,kk⟩:=id bl.at;refine⟨_,U,b,dx,_,U,kk.ob,no (by ac_nf) (by ac_nf) (by ac_nf),_,U,b,p,x,st5 i,D,past,[],U,bl.at,rep.sam sE np,tm,wl,(by lia),λ_ H5 s5 bk5=>?_,λc jc=>by rw[jn] at jc; cases jc⟩;obtain⟨l5,_,b5⟩:=bk5;rw[L] at b5;rwa[⟨l5,_,b5,L ▸ wl.aft (vd jn),by rw[d5,lp]; rfl⟩,sE.trans s5,_,_,rfl]
 ·rintro σ H' ⟨⟨l,past,bl,wl,lp⟩,sE,u,v,rfl⟩
  replace lp:past.length=4:=lp
  replace bl:BkL bkC H' b p l (st5 4) past []:=bl
  replace wl:pb (st5 4):=wl
  obtain⟨jn,L,tm⟩:=ok5 4 _ rfl;obtain⟨dx,d1,ps,ls,_,kk⟩:=id bl.at;refine⟨_,U,b,dx,_,U,kk.ob,no (by ac_nf) (by ac_nf) (by ac_nf),b,p,_,st5 4,.range 0 "a" "b",past,[],U,bl.at,⟨0, "a","b",U,U⟩,tm,wl,(by lia),λ_ H5 s5 bk5=>?_,λc jc=>by rw[jn] at jc; cases jc⟩;obtain⟨l5,_,b5⟩:=bk5;have w5:=wl.aft (vd jn);rw[Xi] at b5 w5;have hb4:xF (Bp b p) H4 H5:=sE.trans s5;erw[_,U,_,U,_,U,b,p,w,d,_,[],U,b5.at,w5,(by rw[d5,lp]; decide),hw,hd,λh9=>?_,λh9 H6 s6=>?_]
  ·erw[_,U,_,U,_,U,b,p,l5,w,d,_,U,b5,w5,(by rw[d5,lp]; decide),hw,hd,λh=>y8 h (Nat.not_lt.mpr h9),λ_ H6 x s6 rd=>?_];have sm6:=om S (hb4.trans s6) hb hpH;erw[tk w hw,λL hea=>?_];have T:=zF hea (jP L (.ref (axW (ixW w)),x));have nd:∀{G:Hp},Same H6 G->∀ y,x=G0 y->∃ u,G y=G0 u:=λs y e=>let ⟨u,z⟩:=fx rd y e;⟨u,s _ _ z⟩;erw[_,U,ixW w,x,U,zB,nd T,λH7 o=>?_];exists _,U,L,axW (ixW w),x,_,_,_,U,.inr ⟨_,U,U⟩,.inl (o _ _ zB),nd (T.trans o),yE g.isx (oR w hw).2 gT,_,rfl;rw[(oR w hw).1];have J:∀ i:Int,i=(if w=16 then(d:Int) else -1)->∀ t,H7 t=G2->Q (.ref t) (upd H7 t (.tup [.str (rO (ixW w)),.int i])):=λi e t I=>q t _ (sm6.trans (.of (T.trans (o.trans (zF I _))))) (by rw[zB,e]);erw[ifD (λn=>?_) (λn16=>?_)]
   ·have z:=rd;unfold cm at z;rw[y4 n] at z;obtain⟨dd,ex,ed⟩:=z;rwa[_,U,L,dd,_,_,U,.inl (by rw[o _ _ zB,ex,n]; rfl),o _ _ (T _ _ ed),rfl,sz2,λt I=>J _ (y4 n).symm t I]
   ·rwa[1,U,sz2,λt I=>J _ (y3 n16).symm t I]
  ·have sm6:=om S (hb4.trans s6) hb hpH;have rd:cm w d G2 H6:=by unfold cm; rw[y3 (by lia)]
   erw[tk w hw,λL hea=>?_];have T:=zF hea (jP L (.ref (axW (ixW w)),G2));have nd:∀{G:Hp},Same H6 G->∀ y,G2=G0 y->∃ u,G y=G0 u:=λs y e=>let ⟨u,z⟩:=fx rd y e;⟨u,s _ _ z⟩;erw[_,U,ixW w,G2,U,zB,nd T,λH7 o=>?_];exists _,U,L,axW (ixW w),G2,_,_,_,U,.inr ⟨_,U,U⟩,.inl (o _ _ zB),nd (T.trans o),yE g.isx (oR w hw).2 gT,_,rfl;rw[(oR w hw).1];have J:∀ i:Int,i=(if w=16 then(d:Int) else -1)->∀ t,H7 t=G2->Q (.ref t) (upd H7 t (.tup [.str (rO (ixW w)),.int i])):=λi e t I=>q t _ (sm6.trans (.of (T.trans (o.trans (zF I _))))) (by rw[zB,e]);erw[ifD (λn=>?_) (λn16=>?_)]
   ·have z:=rd;unfold cm at z;rw[y4 n] at z;obtain⟨dd,ex,ed⟩:=z;rwa[_,U,L,dd,_,_,U,.inl (by rw[o _ _ zB,ex,n]; rfl),o _ _ (T _ _ ed),rfl,sz2,λt I=>J _ (y4 n).symm t I]
   ·rwa[1,U,sz2,λt I=>J _ (y3 n16).symm t I]
def sp_law(K:ac):Sp:=λb H Q _=>E2 λ(a:b6) (ns:List Int)=>A4 (b=[.ref a]) (SqL K H a (ns.map V.int)) (ns.length<=63) (∀ c,Q (.bl G3) c)
def iY{H:Hp}{n:Nat}{i:Int}(g:H a=G0 (.tup [.str x,.int i]))(e:H b=G0 (.tup [.str x,.int i])):DR H (n+1) (.ref a) (.ref b):=by
 refine .inr ⟨a,b,[.str x,.int i],[.str x,.int i],G4,rfl,rfl,g,e,rfl,(by show 2<=1000; decide),λi u v d c=>?_⟩
 match i,d,c with
 | 0,d,c=>cases d; cases c; rwa[DR.str rfl]
 | 1,d,c=>cases d; cases c; rwa[DR.int rfl]
def W17:List V:=(Am 17).map λi=>.str (rO (ixW i))
def YV{w:Nat}(h:w<17):atI W17 (w:Int)=G0 (.str (rO (ixW w))):=pW (by unfold W17; rw[i3,Et h]; rfl)
structure Mde(G:Hp)(as:List b6)(n:Nat):Prop where
 mk ::
 len:as.length=n
 at_:∀ i a,as[i]?=G0 a->G a=G0 (yK a (.ref (axW (ixW i)),G2))
def Mde.push{G d:Hp}{n:Nat}(m:Mde G c n)(s:Same G d)(e:d a=G0 (yK a (.ref (axW (ixW n)),G2))):Mde d (c++[a]) (n+1) :=
 ⟨by rw[d5,m.len]; rfl,λi b h=>by
  rcases Fb i c.length with z | z
  ·rw[x0 z] at h;rwa[s _ _ (m.at_ i b h)]
  ·rw[v6 z] at h;have g:i-c.length=0:=by
    have:=(f8.mp h).1;rwa[C1.mp this]
   rw[g] at h;cases h;rw[show i=n by have:=m.len; lia];rwa[e]⟩
def Mde.to{G c:Hp}{n:Nat}(m:Mde G b n)(s:Same G c):Mde c b n:=⟨m.len,λi a h=>s _ _ (m.at_ i a h)⟩
def log20{v:Int}(h:0<=v/\v<1000003):v.natAbs.log2<1920:=by
 by_cases z:v.natAbs=0
 ·rw[z]; decide
 ·exact(Fu z).mpr (AD (show v.natAbs<2^20 by lia) (by decide))
def deepW{H:Hp}{a b:b6}(ne:a≠b)(d:H a=G0 (.lst W17))(c:H b=G0 (.lst W17)):Deep K H 8 (.ref a) (.ref b) true:=by
 have:=Deep.lst (K:=K) (n:=7) (e:=λ_=>G3) ne (SqL.of d) (SqL.of c) rfl (λj h1 h2=>by
  have g:W17[j]?=G0 (.str (rO (ixW j))):=by
   have:j<17:=h1;unfold W17;rw[i3,Et this];rfl
  rw[(f8.mp g).2];have h:=Deep.str (K:=K) (H:=H) 7 (rO (ixW j)) (rO (ixW j));rw[beq_self_eq_true] at h;rwa[h])
 rw[ly] at this;rwa[this]
def ZY(F:Fun K "law" "law" ke f fd)(Z:Zs mg)(CB:Cb P w mg base)(yBe:XH P w K mg base "_law_refused" 1 ["_law_e"] (rJ K))(yBt:Has P w K mg base "_law_same" 6 ["_law_told","_law_due"] (lB K))(h_b_badrow:lO P w K mg base sB 1 ["self","at"] (sT K))(yBa:Has P w K mg base "_law_raised_by" 10 ["_law_which","_law_d"] (qS K))(yBp:Has P w K mg base "_law_draws" 2 ["_law_script","_law_many"] (pH K))(yBc:Has P w K mg base "_law_refused" 1 ["_law_e"] (qU K)):yV P w K mg base CX0 11 f fd ["_law_script"] (sp_law K):=by
 specialize rQ
 ·obtain⟨a,ns,rfl,_⟩:=h;rfl
 obtain⟨ad,ns,rfl,hS,hl,q⟩:=h;have hu64:=hr.units
 refine'⟨_,zC ?za ?zb,?zc⟩
 case' zb=>with_reducible refine' zC ?zd (zC ?ze (zC ?zf (zC ?zg (zC ?zh (zC ?zi ?zj)))))
 case' zj=>refine'(zG (zY (ej (vZ (ZG hu64) (rW (T:=["_law_e"]) (caps:=[]) ⟨rfl,by ac_nf,by ac_nf,rfl,q0⟩ rfl (lh (pv 7)) (λ_=>(lm 0 (show(["_law_e"]:List c7).Nodup by ac_nf))) (λ_=>sN) (λ_=>(uQ yBc (hr.mono (by decide)) rfl (zA (pv 0) zD)))) (pv 2) (vP _)) (jo (uQ yBt (hr.mono (by decide)) rfl (zA (bo CB.i_at ?_) (zA ?_ zD)))))))
 case' za=>refine'(yT 1 rQ.nd ?_)
 case' zf=>refine'(rP A1 rfl (sC rfl Z.range (zA yR zD)) (lm 3 rQ.nd) (zC (yT 4 rQ.nd ?_)
   (zC (yT 5 rQ.nd ?_)
   (zC (yT 6 rQ.nd ?_)
   (zG (yJ ?_ (zG (zY oP)) zU))))))
 case' zd=>with_reducible refine' yT 2 ?zda (xT (zA zJ (zA zJ (zA zJ (zA zJ (zA zJ (zA zJ (zA zJ (zA zJ (zA zJ (zA zJ zD ?zdk1) ?zdk2) ?zdk3) ?zdk4) ?zdk5) ?zdk6) ?zdk7) ?zdk8) ?zdk9) ?zdk10)) ?zdb ?zdc ?zdd ?zde
 case zdk1 | zdk2 | zdk3 | zdk4 | zdk5 | zdk6 | zdk7 | zdk8 | zdk9 | zdk10=>rwa[rfl]
 case zda=>rwa[rQ.nd]
 case zdb=>rfl
 case zdc=>first | exact Ae rfl | exact Df rfl
 case zdd=>rfl
 case zde=>first | exact .inl rfl | exact .inr rfl | assumption
 case' ze=>with_reducible refine' yT 2 ?zeb (wO uJ ?zea (xT (zA zJ (zA zJ (zA zJ (zA zJ (zA zJ (zA zJ (zA zJ zD ?zek1) ?zek2) ?zek3) ?zek4) ?zek5) ?zek6) ?zek7))) ?zec ?zed ?zee ?zef
 case zek1 | zek2 | zek3 | zek4 | zek5 | zek6 | zek7=>rwa[rfl]
 case zea=>exact(pv 2)
 case zeb=>rwa[rQ.nd]
 case zec=>rfl
 case zed=>first | exact Ae rfl | exact Df rfl
 case zee=>rfl
 case zef=>first | exact .inl rfl | exact .inr rfl | assumption
 case' zg=>with_reducible refine' yT 7 ?zgi (xT (zA ?zga (zA ?zgb (zA ?zgc (zA ?zgd (zA ?zge (zA ?zgf (zA ?zgg (zA ?zgh zD ?zgk1) ?zgk2) ?zgk3) ?zgk4) ?zgk5) ?zgk6) ?zgk7) ?zgk8)) ?zgj ?zgk ?zgl ?zgm
 case zgk1 | zgk2 | zgk3 | zgk4 | zgk5 | zgk6 | zgk7 | zgk8=>rwa[rfl]
 case zga=>exact(yZ CB.e_BadName (zA zJ zD))
 case zgb=>exact(yZ CB.e_Taken (zA zJ zD))
 case zgc=>exact(yZ CB.e_BadPlace (zA zJ zD))
 case zgd=>exact(yZ CB.e_Full (zA zJ zD))
 case zge=>exact(yZ CB.e_NoMark (zA zJ zD))
 case zgf=>exact(yZ CB.e_Same (zA zJ zD))
 case zgg=>exact(yZ CB.e_Needed (zA zJ zD))
 case zgh=>exact(yZ CB.e_BadBank (zA zJ zD))
 case zgi=>rwa[rQ.nd]
 case zgj=>rfl
 case zgk=>first | exact Ae rfl | exact Df rfl
 case zgl=>rfl
 case zgm=>first | exact .inl rfl | exact .inr rfl | assumption
 case' zh=>with_reducible refine' yT 7 ?zhi (wO uJ ?zha (xT (zA ?zhb (zA ?zhc (zA ?zhd (zA ?zhe (zA ?zhf (zA ?zhg (zA ?zhh zD ?zhk1) ?zhk2) ?zhk3) ?zhk4) ?zhk5) ?zhk6) ?zhk7))) ?zhj ?zhk ?zhl ?zhm
 case zhk1 | zhk2 | zhk3 | zhk4 | zhk5 | zhk6 | zhk7=>rwa[rfl]
 case zha=>exact(pv 7)
 case zhb=>exact(yZ CB.e_NoBank (zA zJ zD))
 case zhc=>exact(yZ CB.e_BadRun (zA zJ zD))
 case zhd=>exact(yZ CB.e_NoRun (zA zJ zD))
 case zhe=>exact(yZ CB.e_NoMoment (zA zJ zD))
 case zhf=>exact(yZ CB.e_BadWay (zA zJ zD))
 case zhg=>exact(yZ CB.e_BadTurn (zA zJ zD))
 case zhh=>exact(yZ CB.e_NoNote (zA zJ zD))
 case zhi=>rwa[rQ.nd]
 case zhj=>rfl
 case zhk=>first | exact Ae rfl | exact Df rfl
 case zhl=>rfl
 case zhm=>first | exact .inl rfl | exact .inr rfl | assumption
 case' zi=>with_reducible refine' yT 7 ?zid (wO uJ ?zia (xT (zA ?zib (zA ?zic zD ?zik1) ?zik2))) ?zie ?zif ?zig ?zih
 case zik1 | zik2=>rwa[rfl]
 case zia=>exact(pv 7)
 case zib=>exact(yZ CB.e_NothingLeft (zA zJ zD))
 case zic=>exact(cr CB.i_BadRow h_b_badrow (hr.mono (by decide)) CB.gBadRow (zA (cI bL (pv 1) yR (λ_ _=>rfl)) zD))
 case zid=>rwa[rQ.nd]
 case zie=>rfl
 case zif=>first | exact Ae rfl | exact Df rfl
 case zig=>rfl
 case zih=>first | exact .inl rfl | exact .inr rfl | assumption
 nofun
 erw[_,U,ad,ns,20,U,hS,hl,by decide,by decide,λrr rows H1 s1 hr0 er1 l1 l2 bd=>?_];obtain⟨v0,C,y0⟩:=ee bd (k:=0) (by decide) (by lia);obtain⟨v18,a18,y18⟩:=ee bd (k:=18) (by decide) (by lia);have sq:∀{H':Hp},H' rr=G0 (.lst (rows.map V.int))->Sq K H' rr (rows.map V.int):=λh=>.inl (SqL.of h);refine⟨(by show 10<=sizeLine; decide),λw1 h1=>?_⟩;have s2:=zF h1 (.lst [.str "BadName",.str "Taken",.str "BadPlace",.str "Full",.str "NoMark",.str "Same",.str "Needed",.str "BadBank",.str "NoBank",.str "BadRun"]);refine⟨_,U,(by show 7<=sizeLine; decide),λw2 h2=>?_⟩;have s3:=zF h2 (.lst [.str "NoRun",.str "NoMoment",.str "BadWay",.str "BadTurn",.str "NoNote",.str "NothingLeft",.str "BadRow"]);refine⟨w1,w2,_,_,U,U,s3 _ _ zB,zB,(by show 17<=sizeLine; decide),λwl hwl=>?_⟩;have s4:=zF hwl (.lst ([.str "BadName",.str "Taken",.str "BadPlace",.str "Full",.str "NoMark",.str "Same",.str "Needed",.str "BadBank",.str "NoBank",.str "BadRun"]++[.str "NoRun",.str "NoMoment",.str "BadWay",.str "BadTurn",.str "NoNote",.str "NothingLeft",.str "BadRow"]));have sA:=s2.trans (s3.trans s4);have eW:upd (upd (upd H1 w1 (.lst [.str "BadName",.str "Taken",.str "BadPlace",.str "Full",.str "NoMark",.str "Same",.str "Needed",.str "BadBank",.str "NoBank",.str "BadRun"])) w2 (.lst [.str "NoRun",.str "NoMoment",.str "BadWay",.str "BadTurn",.str "NoNote",.str "NothingLeft",.str "BadRow"])) wl (.lst ([.str "BadName",.str "Taken",.str "BadPlace",.str "Full",.str "NoMark",.str "Same",.str "Needed",.str "BadBank",.str "NoBank",.str "BadRun"]++[.str "NoRun",.str "NoMoment",.str "BadWay",.str "BadTurn",.str "NoNote",.str "NothingLeft",.str "BadRow"])) wl=G0 (.lst W17):=by rw[zB]; rfl
 have er:=sA _ _ er1;revert er eW;generalize upd (upd (upd H1 w1 (.lst [.str "BadName",.str "Taken",.str "BadPlace",.str "Full",.str "NoMark",.str "Same",.str "Needed",.str "BadBank",.str "NoBank",.str "BadRun"])) w2 (.lst [.str "NoRun",.str "NoMoment",.str "BadWay",.str "BadTurn",.str "NoNote",.str "NothingLeft",.str "BadRow"])) wl (.lst ([.str "BadName",.str "Taken",.str "BadPlace",.str "Full",.str "NoMark",.str "Same",.str "Needed",.str "BadBank",.str "NoBank",.str "BadRun"]++[.str "NoRun",.str "NoMoment",.str "BadWay",.str "BadTurn",.str "NoNote",.str "NothingLeft",.str "BadRow"]))=H2;intro eW er;refine⟨_,U,(by decide),(by decide),rS (lo:=0) (n:=17) (λi σ H'=>Sam H2 H'/\E5 λ(u3 u4 u5 u6 u7:Option V)=>σ=[G0 (.ref ad),G0 (.ref rr),G0 (.ref wl),u3,u4,u5,u6,u7])
  ⟨.refl _,G2,G2,G2,G2,G2,rfl⟩ ?_ ?_⟩
 ·rintro i σ H' hi ⟨sH,u3,u4,u5,u6,u7,rfl⟩;have er':=sH.lst id er;have eW':=sH.lst id eW;obtain⟨vk,ak,yk⟩:=ee bd (k:=1+i) (by lia) (by lia);obtain⟨w,hw,ew⟩:∃ w:Nat,w<17/\(0+(i:Int)+v0)%17=w:=⟨((0+(i:Int)+v0)%17).toNat,by lia,by lia⟩;obtain⟨d,hd,ed⟩:∃ d:Nat,d<12/\vk%12=d:=⟨(vk%12).toNat,by lia,by lia⟩;exists _,U,_,U,rr,_,0,_,U,U,sq er',C,_,_,U,U,_,_,U,U,(by decide);rw[ew];exists _,U,_,U,_,_,U,U,rr,_,_,_,U,U,sq er',(by rw[Ch]; rwa[ak]),_,_,rfl,rfl,(by decide);rw[ed];exists _,U,_,U,wl,_,w,_,U,U,.inl (SqL.of eW'),YV hw,_,U,U,_,rfl;erw[ifE (λe16=>?_) (λn16=>?_)]
  ·have e16:w=16:=by lia
   exists _,rfl;erw[sz2,λp hp=>?_];have sp:=zF hp (.tup [.str (rO (ixW w)),.int ((d:Int))]);erw[_,U,_,U,w,d,U,hw,hd,λt H5 s5 et=>?_];erw[_,U,_,_,U,iY (x:=rO (ixW w)) (i:=(d:Int)) (by rw[et,y4 e16]) (s5.tup id zB),λH6 s6=>?_];rwa[_,U,rG ⟨sH.trans ((xF.of sp).trans (s5.trans (.of s6))),_,_,_,_,_,U⟩]
  ·have n16:w≠16:=by lia
   exists 1,rfl;erw[sz2,λp hp=>?_];have sp:=zF hp (.tup [.str (rO (ixW w)),.int (-1)]);erw[_,U,_,U,w,d,U,hw,hd,λt H5 s5 et=>?_];erw[_,U,_,_,U,iY (x:=rO (ixW w)) (i:=-1) (by rw[et,y3 n16]) (s5.tup id zB),λH6 s6=>?_];rwa[_,U,rG ⟨sH.trans ((xF.of sp).trans (s5.trans (.of s6))),_,_,_,_,_,U⟩]
 rintro σ H3 ⟨sH,u3,u4,u5,u6,u7,rfl⟩;have er3:=sH.lst id er;have eW3:=sH.lst id eW;have hlog:v18.natAbs.log2<1920:=log20 y18;clear er eW sH;have m0:Mde H3 [] 0:=⟨rfl,λi a h=>nomatch h⟩;erw[sz1,λC h0=>?_];have s0:=zF h0 (yK C (.ref yS,G2));have m1:=m0.push s0 zB;erw[sz1,λS h1=>?_];have s1:=zF h1 (yK S (.ref wL,G2));have m2:=m1.push s1 zB;erw[sz1,λR h2=>?_];have s2:=zF h2 (yK R (.ref yO,G2));have m3:=m2.push s2 zB;erw[sz1,λO h3=>?_];have s3:=zF h3 (yK O (.ref uM,G2));have m4:=m3.push s3 zB;erw[sz1,λN h4=>?_];have s4:=zF h4 (yK N (.ref xL,G2));have m5:=m4.push s4 zB;erw[sz1,λM h5=>?_];have s5:=zF h5 (yK M (.ref vI,G2));have m6:=m5.push s5 zB;erw[sz1,λL h6=>?_];have s6:=zF h6 (yK L (.ref xM,G2));have m7:=m6.push s6 zB;erw[sz1,λJ h7=>?_];have s7:=zF h7 (yK J (.ref xC,G2));have m8:=m7.push s7 zB;refine⟨(by show 8<=sizeLine; decide),λla hla=>?_⟩;have sl:=zF hla (.lst [.ref C,.ref S,.ref R,.ref O,.ref N,.ref M,.ref L,.ref J]);have m8:Mde (upd (upd (upd (upd (upd (upd (upd (upd (upd (H3) C (yK C (.ref yS,G2))) S (yK S (.ref wL,G2))) R (yK R (.ref yO,G2))) O (yK O (.ref uM,G2))) N (yK N (.ref xL,G2))) M (yK M (.ref vI,G2))) L (yK L (.ref xM,G2))) J (yK J (.ref xC,G2))) la (.lst [.ref C,.ref S,.ref R,.ref O,.ref N,.ref M,.ref L,.ref J])) [C,S,R,O,N,M,L,J] 8:=m8.to sl;have er4:=sl _ _ (s7 _ _ (s6 _ _ (s5 _ _ (s4 _ _ (s3 _ _ (s2 _ _ (s1 _ _ (s0 _ _ (er3)))))))));have eW4:=sl _ _ (s7 _ _ (s6 _ _ (s5 _ _ (s4 _ _ (s3 _ _ (s2 _ _ (s1 _ _ (s0 _ _ (eW3)))))))));have eL:(upd (upd (upd (upd (upd (upd (upd (upd (upd (H3) C (yK C (.ref yS,G2))) S (yK S (.ref wL,G2))) R (yK R (.ref yO,G2))) O (yK O (.ref uM,G2))) N (yK N (.ref xL,G2))) M (yK M (.ref vI,G2))) L (yK L (.ref xM,G2))) J (yK J (.ref xC,G2))) la (.lst [.ref C,.ref S,.ref R,.ref O,.ref N,.ref M,.ref L,.ref J])) la=G0 (.lst [.ref C,.ref S,.ref R,.ref O,.ref N,.ref M,.ref L,.ref J]):=zB;clear m0 m1 m2 m3 m4 m5 m6 m7 s0 s1 s2 s3 s4 s5 s6 s7 sl;revert m8 er4 eW4 eL;generalize upd (upd (upd (upd (upd (upd (upd (upd (upd (H3) C (yK C (.ref yS,G2))) S (yK S (.ref wL,G2))) R (yK R (.ref yO,G2))) O (yK O (.ref uM,G2))) N (yK N (.ref xL,G2))) M (yK M (.ref vI,G2))) L (yK L (.ref xM,G2))) J (yK J (.ref xC,G2))) la (.lst [.ref C,.ref S,.ref R,.ref O,.ref N,.ref M,.ref L,.ref J])=H4;intro m8 er4 eW4 eL;clear h0 h1 h2 h3 h4 h5 h6 h7 hla er3 eW3;exists _,rfl;erw[sz1,λY h8=>?_];have s8:=zF h8 (yK Y (.ref xR,G2));have m9:=m8.push s8 zB;erw[sz1,λX h9=>?_];have s9:=zF h9 (yK X (.ref xJ,G2));have m10:=m9.push s9 zB;erw[sz1,λv h10=>?_];have s10:=zF h10 (yK v (.ref uD,G2));have m11:=m10.push s10 zB;erw[sz1,λr h11=>?_];have s11:=zF h11 (yK r (.ref yI,G2));have m12:=m11.push s11 zB;erw[sz1,λm h12=>?_];have s12:=zF h12 (yK m (.ref xH,G2))
 have m13:=m12.push s12 zB;erw[sz1,λl h13=>?_];have s13:=zF h13 (yK l (.ref xG,G2));have m14:=m13.push s13 zB;erw[sz1,λg h14=>?_];have s14:=zF h14 (yK g (.ref xO,G2));have m15:=m14.push s14 zB;refine⟨(by show 7<=sizeLine; decide),λlb hlb=>?_⟩;have sl:=zF hlb (.lst [.ref Y,.ref X,.ref v,.ref r,.ref m,.ref l,.ref g]);have eL2:=sl _ _ (s14 _ _ (s13 _ _ (s12 _ _ (s11 _ _ (s10 _ _ (s9 _ _ (s8 _ _ (eL))))))));refine⟨la,lb,_,_,U,U,eL2,zB,(by show 15<=sizeLine; decide),λlc hlc=>?_⟩;have sm:=sl.trans (zF hlc (.lst ([.ref C,.ref S,.ref R,.ref O,.ref N,.ref M,.ref L,.ref J]++[.ref Y,.ref X,.ref v,.ref r,.ref m,.ref l,.ref g])));have m15:Mde (upd (upd (upd (upd (upd (upd (upd (upd (upd (H4) Y (yK Y (.ref xR,G2))) X (yK X (.ref xJ,G2))) v (yK v (.ref uD,G2))) r (yK r (.ref yI,G2))) m (yK m (.ref xH,G2))) l (yK l (.ref xG,G2))) g (yK g (.ref xO,G2))) lb (.lst [.ref Y,.ref X,.ref v,.ref r,.ref m,.ref l,.ref g])) lc (.lst ([.ref C,.ref S,.ref R,.ref O,.ref N,.ref M,.ref L,.ref J]++[.ref Y,.ref X,.ref v,.ref r,.ref m,.ref l,.ref g]))) [C,S,R,O,N,M,L,J,Y,X,v,r,m,l,g] 15:=m15.to sm;have er5:=sm _ _ (s14 _ _ (s13 _ _ (s12 _ _ (s11 _ _ (s10 _ _ (s9 _ _ (s8 _ _ (er4))))))));have eW5:=sm _ _ (s14 _ _ (s13 _ _ (s12 _ _ (s11 _ _ (s10 _ _ (s9 _ _ (s8 _ _ (eW4))))))));have eL5:(upd (upd (upd (upd (upd (upd (upd (upd (upd (H4) Y (yK Y (.ref xR,G2))) X (yK X (.ref xJ,G2))) v (yK v (.ref uD,G2))) r (yK r (.ref yI,G2))) m (yK m (.ref xH,G2))) l (yK l (.ref xG,G2))) g (yK g (.ref xO,G2))) lb (.lst [.ref Y,.ref X,.ref v,.ref r,.ref m,.ref l,.ref g])) lc (.lst ([.ref C,.ref S,.ref R,.ref O,.ref N,.ref M,.ref L,.ref J]++[.ref Y,.ref X,.ref v,.ref r,.ref m,.ref l,.ref g]))) lc=G0 (.lst [.ref C,.ref S,.ref R,.ref O,.ref N,.ref M,.ref L,.ref J,.ref Y,.ref X,.ref v,.ref r,.ref m,.ref l,.ref g]):=zB;clear m8 m9 m10 m11 m12 m13 m14 s8 s9 s10 s11 s12 s13 s14 sl sm eL2;revert m15 er5 eW5 eL5;generalize upd (upd (upd (upd (upd (upd (upd (upd (upd (H4) Y (yK Y (.ref xR,G2))) X (yK X (.ref xJ,G2))) v (yK v (.ref uD,G2))) r (yK r (.ref yI,G2))) m (yK m (.ref xH,G2))) l (yK l (.ref xG,G2))) g (yK g (.ref xO,G2))) lb (.lst [.ref Y,.ref X,.ref v,.ref r,.ref m,.ref l,.ref g])) lc (.lst ([.ref C,.ref S,.ref R,.ref O,.ref N,.ref M,.ref L,.ref J]++[.ref Y,.ref X,.ref v,.ref r,.ref m,.ref l,.ref g]))=H5;intro m15 er5 eW5 eL5;clear h8 h9 h10 h11 h12 h13 h14 hlb hlc er4 eW4 eL;exists _,rfl;erw[sz1,λB h15=>?_];have s15:=zF h15 (yK B (.ref yA,G2));have G:=m15.push s15 zB;erw[_,U,rr,_,18,_,U,U,sq (s15 _ _ er5),a18,U,sz1,λb h16=>?_];erw[b,v18,U,zB,hlog,λdd hdd=>⟨U,?_⟩];have nd:dd≠b:=λz=>by rw[z,zB] at hdd; cases hdd
 have s16:Same (upd H5 B (yK B (.ref yA,G2))) (upd (upd (upd (upd H5 B (yK B (.ref yA,G2))) b (yK b (.ref yC,G2))) b (yK b (.ref yC,G0 dd))) dd (.xd [("at",.int v18)])):=λx o e=>by
  have n1:=zM e h16;rw[zL (zM (by rw[zL n1]; rwa[e]) hdd),zL n1,zL n1];rwa[e]
 have I:(upd (upd (upd (upd H5 B (yK B (.ref yA,G2))) b (yK b (.ref yC,G2))) b (yK b (.ref yC,G0 dd))) dd (.xd [("at",.int v18)])) b=G0 (yK b (.ref yC,G0 dd)):=by rw[zL nd.symm,zB]
 have exd:(upd (upd (upd (upd H5 B (yK B (.ref yA,G2))) b (yK b (.ref yC,G2))) b (yK b (.ref yC,G0 dd))) dd (.xd [("at",.int v18)])) dd=G0 (.xd [("at",.int v18)]):=zB;have G:=G.to s16;have er6:=s16 _ _ (s15 _ _ er5);have eW6:=s16 _ _ (s15 _ _ eW5);have eL6:=s16 _ _ (s15 _ _ eL5);clear m15 er5 eW5 eL5;revert I exd G er6 eW6 eL6;generalize (upd (upd (upd (upd H5 B (yK B (.ref yA,G2))) b (yK b (.ref yC,G2))) b (yK b (.ref yC,G0 dd))) dd (.xd [("at",.int v18)]))=H6;intro I exd G er6 eW6 eL6;refine⟨sz2,λld hld=>?_⟩;have s17:=zF hld (.lst [.ref B,.ref b]);refine⟨lc,ld,_,_,U,U,s17 _ _ eL6,zB,(by show 17<=sizeLine; decide),λle hle=>?_⟩;have s18:=s17.trans (zF hle (.lst ([.ref C,.ref S,.ref R,.ref O,.ref N,.ref M,.ref L,.ref J,.ref Y,.ref X,.ref v,.ref r,.ref m,.ref l,.ref g]++[.ref B,.ref b])));have eM:(upd (upd H6 ld (.lst [.ref B,.ref b])) le (.lst ([.ref C,.ref S,.ref R,.ref O,.ref N,.ref M,.ref L,.ref J,.ref Y,.ref X,.ref v,.ref r,.ref m,.ref l,.ref g]++[.ref B,.ref b]))) le=G0 (.lst (([C,S,R,O,N,M,L,J,Y,X,v,r,m,l,g,B]++[b]).map V.ref)):=zB;have G:Mde (upd (upd H6 ld (.lst [.ref B,.ref b])) le (.lst ([.ref C,.ref S,.ref R,.ref O,.ref N,.ref M,.ref L,.ref J,.ref Y,.ref X,.ref v,.ref r,.ref m,.ref l,.ref g]++[.ref B,.ref b]))) [C,S,R,O,N,M,L,J,Y,X,v,r,m,l,g,B] 16:=G.to s18;have I:=s18 _ _ I;have exd:=s18 _ _ exd;have er6:=s18 _ _ er6;have eW6:=s18 _ _ eW6;revert eM I exd G er6 eW6;generalize (upd (upd H6 ld (.lst [.ref B,.ref b])) le (.lst ([.ref C,.ref S,.ref R,.ref O,.ref N,.ref M,.ref L,.ref J,.ref Y,.ref X,.ref v,.ref r,.ref m,.ref l,.ref g]++[.ref B,.ref b])))=H7;intro eM G I exd er6 eW6;generalize [C,S,R,O,N,M,L,J,Y,X,v,r,m,l,g,B]=as16 at G eM;have row:∀ i x,((as16++[b]).map V.ref)[i]?=G0 x->i<17/\∃ a d,x=.ref a/\H7 a=G0 (yK a (.ref (axW (ixW i)),d))/\∀ y,d=G0 y->∃ u,H7 y=G0 u:=λi x h=>by
  rw[i3,j5] at h;obtain⟨a,h,rfl⟩:=h;rcases Fb i as16.length with z | z
  ·rw[x0 z] at h;exact⟨by have:=G.len; lia,a,G2,rfl,G.at_ i a h,λy e=>nomatch e⟩
  ·rw[v6 z] at h;have i0:i-as16.length=0:=by
    have:=(f8.mp h).1;rwa[C1.mp this]
   rw[i0] at h;cases h;obtain rfl:i=16:=by have:=G.len; lia
   rwa[by decide,b,G0 dd,U,I,λy e=>by cases e; exact⟨_,exd⟩]
 refine⟨_,U,le,U,.inl ⟨⟨_,SqL.of eM⟩,λc D hD=>jX (K:=K) (a:=le) (xs:=(as16++[b]).map V.ref) (λi σ zs H'=>A5 (Same H7 H') (H' D=G0 (.lst zs)) (zs=(Am i).map (λj=>.str (rO (ixW j)))) (i<=17) (∃ u:Option V,σ=[u]))
  ⟨zF hD _,zB,rfl,j8 _,G2,rfl⟩ (λi σ zs H' _ hP=>⟨SqL.of (hP.1 _ _ eM),hP.2⟩) ?_ ?_⟩⟩
 ·rintro i x σ zs H' hi ⟨sH,eD,rfl,hi17,u,rfl⟩;obtain⟨i17,a,d,rfl,ex,hdx⟩:=row i x hi;refine⟨_,rfl,a,ixW i,d,rfl,sH _ _ ex,(λy e=>let ⟨u,z⟩:=hdx y e;⟨u,sH _ _ z⟩),λH8 s8=>?_⟩;rwa[s8 _ _ eD,yH (by rw[c5,E9]; lia),(sH.trans s8).putNew hD,zB,by rw[FF,j6]; rfl,i17,_,rfl]
 ·rintro σ zs H' ⟨sH,eD,rfl,_,u,rfl⟩;rw[show((as16++[b]).map V.ref).length=17 by rw[c5,d5,G.len]; rfl] at eD;have nDw:D≠wl:=(zM eW6 hD).symm;erw[_,U,D,wl,G3,U,U,nDw,deepW nDw eD (sH _ _ eW6),_,U,qN ?_];erw[_,U,1,U,le,_,-1,.ref b,U,U,.inl (SqL.of (sH _ _ eM)),by rw[j6]; exact cT _ _,b,dd,_,_,rfl,.inr (sH _ _ I),sH _ _ exd,rfl,_,rfl,rr,_,18,_,rfl,rfl,sq (sH _ _ er6),a18,_,_,rfl,DR.int rfl,λH8 s8=>q _]
end
def Zv{K:ac}(h:o7 K (.ref C) f=G0 G2):qX K C f:=h
def rF(P:Bq):Cls (KK P) bkC:=⟨by symm,by symm,by symm,by symm⟩
set_option maxHeartbeats 0 in
def cb_mk{w:i5}{mg:c7->Option b7}(X:w8 (KK w.params) base)(G:base.Ns mainGlobals mg):Cb P w mg base :=
 ⟨⟨_,X,rF _,Zv (by symm)⟩,
   ⟨_,X,rF _,Zv (by symm)⟩,
   ⟨_,X,rF _,Zv (by symm)⟩,
   ⟨_,X,rF _,⟨(by symm),(by symm),(by symm)⟩⟩,
   ⟨_,X,rF _,⟨(by symm),(by symm),(by symm)⟩⟩,
   ⟨_,X,rF _,⟨(by symm),(by symm),(by symm)⟩⟩,
   ⟨_,X,rF _,⟨(by symm),(by symm),(by symm)⟩⟩,
   ⟨_,X,rF _,⟨(by symm),(by symm),(by symm)⟩⟩,
   ⟨_,X,rF _,⟨(by symm),(by symm),(by symm)⟩⟩,
   ⟨_,X,rF _,⟨(by symm),(by symm),(by symm)⟩⟩,
   ⟨_,X,rF _,⟨(by symm),(by symm),(by symm)⟩⟩,
   ⟨_,X,rF _,⟨(by symm),(by symm),(by symm)⟩⟩,
   ⟨_,X,rF _,⟨(by symm),(by symm),(by symm)⟩⟩,
   ⟨_,X,rF _,⟨(by symm),(by symm),(by symm)⟩⟩,
   ⟨_,X,rF _,⟨(by symm),(by symm),(by symm)⟩⟩,
   ⟨_,X,rF _,⟨(by symm),(by symm),(by symm)⟩⟩,
   ⟨_,X,rF _,⟨(by symm),(by symm),(by symm)⟩⟩,
   ⟨_,X,rF _,⟨(by symm),(by symm),(by symm)⟩⟩,
   ⟨_,X,⟨(by symm),(by symm),(by symm),(by symm)⟩⟩,
   (c6 X G (by symm)),
   (lZ (ep:=4) (l:=[("marks",825,.int 20,.int 20 826),("banks",827,.int 8,.int 8 828),("runs",829,.int 12,.int 12 830),("notes",831,.int 24,.int 24 832)]) (X _ _ (by symm)) (λe a=>by simp only[f9,x9,or_false] at a; rcases a with rfl | rfl | rfl | rfl <;> rwa[_,U]) (by ac_nf)),
   (c6 X G (by symm)),
   (lZ (ep:=10) (l:=[("mark",1050,.ref 591,.ref 591),("move",1051,.ref 598,.ref 598),("unmark",1052,.ref 605,.ref 605),("bank",1053,.ref 612,.ref 612),("level",1054,.ref 619,.ref 619),("sail",1055,.ref 626,.ref 626),("right",1056,.ref 633,.ref 633),("bearing",1057,.ref 647,.ref 647),("range",1058,.ref 654,.ref 654),("strike",1059,.ref 661,.ref 661)]) (X _ _ (by symm)) (λe a=>by simp only[f9,x9,or_false] at a; rcases a with rfl | rfl | rfl | rfl | rfl | rfl | rfl | rfl | rfl | rfl <;> rwa[rfl]) (by ac_nf)),
   (c6 X G (by symm)),
   (lZ (ep:=9) (l:=[("mark",1298,.str "ann",.str "ann" 1299),("move",1300,.str "ann",.str "ann" 1301),("unmark",1302,.str "a",.str "a" 1303),("level",1304,.str "a",.str "a" 1305),("sail",1306,.str "nn",.str "nn" 1307),("right",1308,.str "nnn",.str "nnn" 1309),("bearing",1310,.str "nannnn",.str "nannnn" 1311),("range",1312,.str "naa",.str "naa" 1313),("strike",1314,.str "n",.str "n" 1315)]) (X _ _ (by symm)) (λe a=>by simp only[f9,x9,or_false] at a; rcases a with rfl | rfl | rfl | rfl | rfl | rfl | rfl | rfl | rfl <;> rwa[_,U]) (by ac_nf)),
   (c6 X G (by symm)),
   ⟨838,(c6 X G (by symm))⟩,
   ⟨840,(c6 X G (by symm))⟩,
   ⟨842,(c6 X G (by symm))⟩,
   ⟨1296,(c6 X G (by symm))⟩,
   ⟨1294,(c6 X G (by symm))⟩,
   (c6 X G (by symm)),
   (c6 X G (by symm)),
   (c6 X G (by symm)),
   (c6 X G (by symm)),
   (c6 X G (by symm)),
   (c6 X G (by symm)),
   (c6 X G (by symm)),
   (c6 X G (by symm)),
   (c6 X G (by symm)),
   (c6 X G (by symm)),
   (c6 X G (by symm)),
   (c6 X G (by symm)),
   (c6 X G (by symm)),
   (c6 X G (by symm)),
   (c6 X G (by symm)),
   (c6 X G (by symm)),
   (c6 X G (by symm)),
   (c6 X G (by symm)),
   (c6 X G (by symm)),
   (c6 X G (by symm)),
   (c6 X G (by symm)),
   (c6 X G (by symm)),
   (c6 X G (by symm)),
   (c6 X G (by symm)),
   (c6 X G (by symm)),
   (c6 X G (by symm)),
   (c6 X G (by symm)),
   (c6 X G (by symm)),
   (xA X (c6 X G (by symm)) (by symm)),
   ⟨_,X,(by symm)⟩,
   (xA X (c6 X G (by symm)) (by symm)),
   ⟨_,X,(by symm)⟩,
   (xA X (c6 X G (by symm)) (by symm)),
   ⟨_,X,(by symm)⟩,
   (xA X (c6 X G (by symm)) (by symm)),
   ⟨_,X,(by symm)⟩,
   (xA X (c6 X G (by symm)) (by symm)),
   ⟨_,X,(by symm)⟩,
   (xA X (c6 X G (by symm)) (by symm)),
   ⟨_,X,(by symm)⟩,
   (xA X (c6 X G (by symm)) (by symm)),
   ⟨_,X,(by symm)⟩,
   (xA X (c6 X G (by symm)) (by symm)),
   ⟨_,X,(by symm)⟩,
   (xA X (c6 X G (by symm)) (by symm)),
   ⟨_,X,(by symm)⟩,
   (xA X (c6 X G (by symm)) (by symm)),
   ⟨_,X,(by symm)⟩,
   (xA X (c6 X G (by symm)) (by symm)),
   ⟨_,X,(by symm)⟩,
   (xA X (c6 X G (by symm)) (by symm)),
   ⟨_,X,(by symm)⟩,
   (xA X (c6 X G (by symm)) (by symm)),
   ⟨_,X,(by symm)⟩,
   (xA X (c6 X G (by symm)) (by symm)),
   ⟨_,X,(by symm)⟩,
   (xA X (c6 X G (by symm)) (by symm)),
   ⟨_,X,(by symm)⟩,
   (xA X (c6 X G (by symm)) (by symm)),
   ⟨_,X,(by symm)⟩,
   ⟨_,X,(by symm)⟩,
   ⟨_,X,(by symm)⟩,
   ⟨_,X,(by symm)⟩,
   ⟨_,X,(by symm)⟩,
   ⟨_,X,(by symm),(by symm)⟩⟩
def us0{R:List b7->Prop}(h:R []):∀ a:List b7,a.length=0->R a
 | [],_=>h
 | _::_,e=>nomatch e
def usS{R:List b7->Prop}{n:Nat}(h:∀ a (b:List b7),b.length=n->R (a::b)):∀ b:List b7,b.length=n+1->R b
 | [],e=>nomatch e
 | a::l,e=>h a l (Nat.succ.inj e)
def us1{R:List b7->Prop}(h:∀ a,R [a]):∀ b:List b7,b.length=1->R b:=usS λa=>us0 (R:=λl=>R (a::l)) (h a)
def us2{R:List b7->Prop}(h:∀ a b,R [a,b]):∀ c:List b7,c.length=2->R c:=usS λa=>us1 (R:=λl=>R (a::l)) (h a)
def us3{R:List b7->Prop}(h:∀ a b c,R [a,b,c]):∀ d:List b7,d.length=3->R d:=usS λa=>us2 (R:=λl=>R (a::l)) (h a)
def us4{R:List b7->Prop}(h:∀ a b c d,R [a,b,c,d]):∀ e:List b7,e.length=4->R e:=usS λa=>us3 (R:=λl=>R (a::l)) (h a)
def us5{R:List b7->Prop}(h:∀ a b c d e,R [a,b,c,d,e]):∀ f:List b7,f.length=5->R f:=usS λa=>us4 (R:=λl=>R (a::l)) (h a)
abbrev AtK(i:Bq)(x:c7)(s:v4)(f:b6)(e:b7)(d:Option b6)(b:Array (Option b7))(kV g c:b7)(h:Option b6)(a ct:b7):Prop :=
 Af (KK i) mainGlobals x=G0 (G0 (.ref f))/\o9 f KC=G0 ⟨e,d,.func (v7 x x (xV s) (xB s) (zH s) .none kV g c h a ct),b⟩/\BJ KC a x=G3/\u9 KC (.ref f)=G3
section
variable{Pm:Bq}{x:c7}{s:v4}{f:b6}{oc kV dc pm cd ct:b7}{od an:Option b6}{sl:Array (Option b7)}{h:j3}{mg:c7->Option b7}
def cC(q:AtK Pm x s f oc od sl kV dc pm an cd ct):Fun K x x s f (v7 x x (xV s) (xB s) (zH s) .none kV dc pm an cd ct):=gg (st:=s) (by rw[fh]; rwa[q.2.1]) (by rw[fh]; rwa[q.2.2.1]) (by rw[fh]; rwa[q.2.2.2])
abbrev AtE(Pm:Bq)(x:c7)(s:v4):Prop:=∃(f:b6)(oc:b7)(od:Option b6)(sl:Array (Option b7))(kV dc pm:b7)(an:Option b6)(cd ct:b7),AtK Pm x s f oc od sl kV dc pm an cd ct
def at_mk(q:AtK Pm x s f oc od sl kV dc pm an cd ct):AtE Pm x s:=⟨_,_,_,_,_,_,_,_,_,_,q⟩
def gb(P:e9)(w:i5)(base:j3)(X:w8 (KK Pm) h)(G:h.Ns mainGlobals mg)(q:AtE Pm x s){n:Nat}{g:Sp}(o:∀ {f:b6} {fd:w4},Fun K x x s f fd->zt K fd a []->u9 K (.ref f)=G3->mg x=G0 (.ref f)->yV P w K mg base CX0 n f fd a g)
  (b:∀(kV d pm:b7)(an:Option b6)(e ct:b7)(c:List b7),c.length=a.length->bindArgs (v7 x x (xV s) (xB s) (zH s) .none kV d pm an e ct) ⟨c,[]⟩=pure (a.zip c)):Has P w K mg base x n a g:=by
 obtain⟨f,oc,od,sl,kV,dc,pm,an,cd,ct,q⟩:=q;have F:=cC q;rwa[_,_,o F (F.binds b) F.kp (c6 X G q.1),F.binds b,F.kp,c6 X G q.1]
def Xq(P:e9)(w:i5)(base:j3)(X:w8 (KK Pm) h)(G:h.Ns mainGlobals mg){x:c7}{s:v4}(q:AtE Pm x s){a:List c7}{n:Nat}{g:Sp}(o:∀ {f:b6} {fd:w4},Fun K x x s f fd->yV P w K mg base CX0 n f fd a g)
  (b:∀(kV d pm:b7)(an:Option b6)(e ct:b7)(c:List b7),c.length=a.length->bindArgs (v7 x x (xV s) (xB s) (zH s) .none kV d pm an e ct) ⟨c,[]⟩=pure (a.zip c):=by first | exact λ_ _ _ _ _ _=>us0 rfl | exact λ_ _ _ _ _ _=>us1 λ_=>rfl | exact λ_ _ _ _ _ _=>us2 λ_ _=>rfl | exact λ_ _ _ _ _ _=>us3 λ_ _ _=>rfl | exact λ_ _ _ _ _ _=>us4 λ_ _ _ _=>rfl | exact λ_ _ _ _ _ _=>us5 λ_ _ _ _ _=>rfl):Has P w K mg base x n a g:=gb P w base X G q (λF _ _ _=>o F) b
abbrev AtM(x q:c7)(s:v4)(f:b6):Prop:=∃(oc:b7)(od:Option b6)(sl:Array (Option b7))(kV dc pm:b7)(an:Option b6)(cd ct:b7),o9 f KC=G0 ⟨oc,od,.func (v7 x q (xV s) (xB s) (zH s) .none kV dc pm an cd ct),sl⟩/\BJ KC cd q=G3/\u9 KC (.ref f)=G3
def atm_mk(h:o9 f KC=G0 ⟨oc,od,.func (v7 x q (xV s) (xB s) (zH s) .none kV dc pm an cd ct),sl⟩/\BJ KC cd q=G3/\u9 KC (.ref f)=G3):AtM x q s f:=⟨_,_,_,_,_,_,_,_,_,h⟩
def aU(P:e9)(w:i5)(base:j3)(X:w8 (KK Pm) h)(G:h.Ns mainGlobals mg){x:c7}{s:v4}(q:AtE Pm x s){a:List c7}{n:Nat}{g:Sp}(o:∀ {f:b6} {fd:w4},Fun K x x s f fd->yV P w K mg base (CX1 P w) n f fd a g)
  (b:∀(kV d pm:b7)(an:Option b6)(e ct:b7)(c:List b7),c.length=a.length->bindArgs (v7 x x (xV s) (xB s) (zH s) .none kV d pm an e ct) ⟨c,[]⟩=pure (a.zip c):=by first | exact λ_ _ _ _ _ _=>us0 rfl | exact λ_ _ _ _ _ _=>us1 λ_=>rfl | exact λ_ _ _ _ _ _=>us2 λ_ _=>rfl | exact λ_ _ _ _ _ _=>us3 λ_ _ _=>rfl | exact λ_ _ _ _ _ _=>us4 λ_ _ _ _=>rfl | exact λ_ _ _ _ _ _=>us5 λ_ _ _ _ _=>rfl):tN P w K mg base x n a g:=by
 obtain⟨f,oc,od,sl,kV,dc,pm,an,cd,ct,q⟩:=q;have F:=cC q;rwa[_,_,o F,F.binds b,F.kp,c6 X G q.1]
def aG(P:e9)(w:i5)(base:j3)(X:w8 (KK Pm) h)(G:h.Ns mainGlobals mg)(q:AtE Pm x s){n:Nat}{g:b6->Sp}(o:∀ {f:b6} {fd:w4},Fun K x x s f fd->cS P w K mg base n f fd a g)
  (b:∀(kV d pm:b7)(an:Option b6)(e ct:b7)(c:List b7),c.length=a.length->bindArgs (v7 x x (xV s) (xB s) (zH s) .none kV d pm an e ct) ⟨c,[]⟩=pure (a.zip c)):XH P w K mg base x n a g:=by
 obtain⟨f,oc,od,sl,kV,dc,pm,an,cd,ct,q⟩:=q;have F:=cC q;rwa[_,_,o F,F.binds b,F.kp,c6 X G q.1]
def qo(P:e9)(w:i5)(mg:c7->Option b7)(base:j3)(a:AtM x q s f){n:Nat}{i:Sp}(o:∀ {fd:w4},Fun K x q s f fd->yV P w K mg base CX0 n f fd c i)
  (b:∀(kV e pm:b7)(an:Option b6)(g ct:b7)(d:List b7),d.length=c.length->bindArgs (v7 x q (xV s) (xB s) (zH s) .none kV e pm an g ct) ⟨d,[]⟩=pure (c.zip d)):lO P w K mg base f n c i:=by
 obtain⟨oc,od,sl,kV,dc,pm,an,cd,ct,m,l,j⟩:=a;rwa[_,o (gg (st:=s) (by rw[fh]; exact m) (by rw[fh]; exact l) (by rw[fh]; exact j)),b _ _ _ _ _ _]
def wK(P:e9)(w:i5)(mg:c7->Option b7)(base:j3)(a:AtM x q s f){n:Nat}{i:Sp}(o:∀ {fd:w4},Fun K x q s f fd->yV P w K mg base (CX1 P w) n f fd c i)
  (b:∀(kV e pm:b7)(an:Option b6)(g ct:b7)(d:List b7),d.length=c.length->bindArgs (v7 x q (xV s) (xB s) (zH s) .none kV e pm an g ct) ⟨d,[]⟩=pure (c.zip d)):vE P w K mg base f n c i:=by
 obtain⟨oc,od,sl,kV,dc,pm,an,cd,ct,m,l,j⟩:=a;rwa[_,o (gg (st:=s) (by rw[fh]; exact m) (by rw[fh]; exact l) (by rw[fh]; exact j)),b _ _ _ _ _ _]
def K_in{Pm:Bq}{h:j3}(X:w8 (KK Pm) h):w8 K h:=by
 rw[fh];rwa[cX (F:=KF Pm) (by symm) X]
end
def all_mk{l:DQ}{w:i5}{mg:c7->Option b7}(X:w8 (KK w.params) h)(G:h.Ns mainGlobals mg)(hfa:mg "law" = G0 (.ref fa))
  
  
  
  
  (q1:AtE w.params "turn" uz)
  (q2:AtE w.params "area" vh)
  (q3:AtE w.params "stretch_way" wY)
  (q4:AtE w.params "all_left_of" wT)
  (q5:AtE w.params "is_bank" sP)
  (q6:AtE w.params "nothing_yet" uH)
  (q7:AtE w.params "changed" sI)
  (q8:AtE w.params "without" sG)
  (q9:AtE w.params "within" qC)
  (q10:AtE w.params "check_name" uU)
  (q11:AtE w.params "check_free" uV)
  (q12:AtE w.params "check_place" uB)
  (q13:AtE w.params "check_run" vR)
  (q14:AtE w.params "check_room" uO)
  (q15:AtE w.params "check_mark" uZ)
  (q16:AtE w.params "check_moment" wN)
  (q17:AtE w.params "check_way" vV)
  (q18:AtE w.params "check_apart" uA)
  (q19:AtE w.params "after_mark" uT)
  (q20:AtE w.params "after_move" uX)
  (q21:AtE w.params "after_unmark" wM)
  (q22:AtE w.params "after_bank" uW)
  (q23:AtE w.params "after_level" wX)
  (q24:AtE w.params "after_sail" vA)
  (q25:AtE w.params "after_right" wQ)
  (q26:AtE w.params "after_note" uR)
  (q27:AtE w.params "after_bearing" xX)
  (q28:AtE w.params "after_range" uC)
  (q29:AtE w.params "after_strike" wI)
  (q30:AtE w.params "after" yp)
  (q31:AtE w.params "is_number" vU)
  (q32:AtE w.params "form_of" sL)
  (q33:AtE w.params "read_values" wW)
  (q34:AtE w.params "deed_of" sJ)
  (q35:AtE w.params "do_row" qG)
  (q36:AtE w.params "read" va)
  (q37:AtE w.params "note_groups" wV)
  (q38:AtE w.params "note_sides" uS)
  (q39:AtE w.params "book_area" vT)
  (q40:AtE w.params "_law_refused" tG)
  (q41:AtE w.params "_law_power" yl)
  (q42:AtE w.params "_law_draws" yx)
  (q43:AtE w.params "_law_same" yi)
  (q44:AtE w.params "_law_first" yz)
  (q45:AtE w.params "_law_second" qE)
  (q46:AtE w.params "_law_raised_by" vS)
  (q47:AtK w.params "law" ke f47 oc47 od47 sl47 R S Q an47 Y T)
  (q48:AtM "__init__" "Book.__init__" ve oi)
  (q49:AtM "mark" "Book.mark" vo lR)
  (q50:AtM "move" "Book.move" vw lS)
  (q51:AtM "unmark" "Book.unmark" qK sw)
  (q52:AtM "bank" "Book.bank" vg kJ)
  (q53:AtM "level" "Book.level" yj oB)
  (q54:AtM "sail" "Book.sail" vn kj)
  (q55:AtM "right" "Book.right" yq oN)
  (q56:AtM "bearing" "Book.bearing" sM xw)
  (q57:AtM "range_note" "Book.range_note" uY sU)
  (q58:AtM "strike" "Book.strike" qI tq)
  (q59:AtM "deed" "Book.deed" uy wZ)
  (q60:AtM "step" "Book.step" uw lT)
  (q61:AtM "redo" "Book.redo" vv lY)
  (q62:AtM "runs" "Book.runs" ux lU)
  (q63:AtM "coming" "Book.coming" qL rn)
  (q64:AtM "__init__" "BadRow.__init__" qB sB)
  (j:Af (KK w.params) mainGlobals "ValueError" = G0 G2)
  (z_abs:Af (KK w.params) mainGlobals "abs" = G0 G2)
  (z_all:Af (KK w.params) mainGlobals "all" = G0 G2)
  (N:Af (KK w.params) mainGlobals "bool" = G0 G2)
  (M:Af (KK w.params) mainGlobals "dict" = G0 G2)
  (z_int:Af (KK w.params) mainGlobals "int" = G0 G2)
  (i:Af (KK w.params) mainGlobals "isinstance" = G0 G2)
  (z_len:Af (KK w.params) mainGlobals "len" = G0 G2)
  (L:Af (KK w.params) mainGlobals "list" = G0 G2)
  (J:Af (KK w.params) mainGlobals "range" = G0 G2)
  (z_str:Af (KK w.params) mainGlobals "str" = G0 G2)
  (I:Af (KK w.params) mainGlobals "tuple" = G0 G2)
  (z_zip:Af (KK w.params) mainGlobals "zip" = G0 G2) :
  ∃ fd:w4,(∀(s:b9)(v:b7),DC s fd ⟨[v],[]⟩ [("_law_script",v)])/\∀ base:j3,w8 (KK w.params) base->base.Ns mainGlobals mg->yV l.prog w K mg base CX0 11 fa fd ["_law_script"] (sp_law K):=by
 have e:=hfa.symm.trans (c6 X G q47.1);cases e;have Z:Zs mg:=⟨t9 X G j,t9 X G z_abs,t9 X G z_all,t9 X G N,t9 X G M,t9 X G z_int,t9 X G i,t9 X G z_len,t9 X G L,t9 X G J,t9 X G z_str,t9 X G I,t9 X G z_zip⟩;erw[v7 "law" "law" (xV ke) (xB ke) (zH ke) .none R S Q an47 Y T,λs v=>.of_eq rfl,λbase KB GB=>?_];have c:Cb l.prog w mg base:=cb_mk KB GB;have t:=@Xq w.params h mg l.prog w base X G;have f:=@aU w.params h mg l.prog w base X G;have yBr:=t q1 λF=>gE F Z c ;have yBu:=t q2 λF=>gu F Z c ;have yAn:=t q3 λF=>wj F Z c ;have yAi:=t q4 λF=>wo F Z c yBr yAn;have yBi:=t q5 λF=>lH F Z c yAi;have yAl:=t q6 λF=>wr F Z c ;have y:=t q7 λF=>me F Z c ;have yBj:=t q8 λF=>mw F Z c ;have yBl:=t q9 λF=>kC F Z c ;have yAw:=f q10 λF=>sj F Z c ;have yAt:=f q11 λF=>tz F Z c ;have yAm:=f q12 λF=>vx F Z c yBl;have yAz:=f q13 λF=>qe F Z c yBl;have O:=f q14 λF=>ub F Z c ;have P:=f q15 λF=>qk F Z c ;have yAc:=f q16 λF=>xj F Z c ;have yAy:=f q17 λF=>qh F Z c yBl;have yAj:=f q18 λF=>we F Z c ;have yAx:=f q19 λF=>qy F Z c y O yAm yAt yAw;have yAp:=f q20 λF=>ut F Z c yAj y yAm P;have yAd:=f q21 λF=>xk F Z c yBj P;have yAs:=f q22 λF=>rf F Z c y O yBi yAm yAt yAw;have yAk:=f q23 λF=>wb F Z c yBj;have yAr:=f q24 λF=>rq F Z c y O yAz;have yAe:=f q25 λF=>wq F Z c y yAz;have yAv:=f q26 λF=>sy F Z c y O;have yAa:=f q27 λF=>ya F Z c yAv yBr yAy P yAc;have yAf:=f q28 λF=>wc F Z c yAv yAj P yAc;have yAb:=f q29 λF=>xo F Z c yBj;have yBo:=f q30 λF=>iC F Z c yAx yAp yAd yAs yAk yAr yAe yAa yAf yAb;have yBb:=t q31 λF=>qj F Z c ;have yBh:=t q32 λF=>mW F Z c ;have yAh:=t q33 λF=>wa F Z c yBb;have yBf:=t q34 λF=>nc F Z c yAh yBh
 have yBe:=aG l.prog w base X G q40 (λF=>mU F Z c ) (λ_ _ _ _ _ _=>us1 λ_=>rfl);have yBc:=t q40 λF=>pw F Z c ;have yBq:=t q41 λF=>iD F Z ;have yBp:=t q42 λF=>iJ F Z c yBq;have yBt:=gb l.prog w base X G q43 (λF b k m=>hJ F Z  b k m) (λ_ _ _ _ _ _=>us2 λ_ _=>rfl);have n:=qo l.prog w mg base q48 (λF=>eA F Z c yAl) (λ_ _ _ _ _ _=>us1 λ_=>rfl);have z:=qo l.prog w mg base q60 (λF=>eS F Z c ) (λ_ _ _ _ _ _=>us3 λ_ _ _=>rfl);have C:=wK l.prog w mg base q61 (λF=>fv F Z c z) (λ_ _ _ _ _ _=>us1 λ_=>rfl);have B:=qo l.prog w mg base q62 (λF=>fS F Z c ) (λ_ _ _ _ _ _=>us1 λ_=>rfl);have yAg:=f q37 λF=>vy F Z c yAc B;have yAq:=f q38 λF=>qw F Z c yAg;have yBd:=f q39 λF=>qc F Z c yBu yAq;have r:=qo l.prog w mg base q63 (λF=>kH F Z c ) (λ_ _ _ _ _ _=>us1 λ_=>rfl);have a:=wK l.prog w mg base q59 (λF=>hW F Z c r yBo) (λ_ _ _ _ _ _=>us2 λ_ _=>rfl);have E:=wK l.prog w mg base q49 (λF=>gF F Z c a) (λ_ _ _ _ _ _=>us4 λ_ _ _ _=>rfl);have D:=wK l.prog w mg base q50 (λF=>gY F Z c a) (λ_ _ _ _ _ _=>us4 λ_ _ _ _=>rfl);have p:=wK l.prog w mg base q51 (λF=>kK F Z c a) (λ_ _ _ _ _ _=>us2 λ_ _=>rfl);have H:=wK l.prog w mg base q52 (λF=>fH F Z c a) (λ_ _ _ _ _ _=>us3 λ_ _ _=>rfl);have x:=wK l.prog w mg base q53 (λF=>ie F Z c a) (λ_ _ _ _ _ _=>us2 λ_ _=>rfl);have A:=wK l.prog w mg base q54 (λF=>gX F Z c a) (λ_ _ _ _ _ _=>us3 λ_ _ _=>rfl);have yBn:=f q44 λF=>ig F Z c x H p D A E;have u:=wK l.prog w mg base q55 (λF=>ir F Z c a) (λ_ _ _ _ _ _=>us4 λ_ _ _ _=>rfl);have o:=wK l.prog w mg base q56 (λF=>mY F Z c a) (λ_ _ _ _ _ _=>us5 λ_ _ _ _ _=>rfl);have g:=wK l.prog w mg base q57 (λF=>qr F Z c a) (λ_ _ _ _ _ _=>us4 λ_ _ _ _=>rfl);have q:=wK l.prog w mg base q58 (λF=>jz F Z c a) (λ_ _ _ _ _ _=>us2 λ_ _=>rfl);have d:=qo l.prog w mg base q64 (λF=>lP F Z c ) (λ_ _ _ _ _ _=>us2 λ_ _=>rfl);have yBk:=f q35 λF=>kL F Z c a d yBf;have yBs:=f q36 λF=>gJ F Z c d yBk n;have yBm:=f q45 λF=>kX F Z c yBs C q o yBd u;have yBa:=t q46 λF=>qg F Z c yBm yBn yBe g a n;rwa[ZY (cC q47) Z c yBe yBt d yBa yBp yBc]
def walk{l:DQ}{y:(c7->Option b7)->j3->Prop}{i:i5->j3->Prop}{d:DefRec}(m:l.most=G0 63)(e:d.params.defaults=[])
  (t:∀(w:i5)(h:j3),i w h->w8 (KK w.params) h)
  (F:∀(w:i5)(mg:c7->Option b7)(g:b6)(h:j3),w8 (KK w.params) h->h.Ns mainGlobals mg->mg d.name=G0 (.ref g) ->
   ∃ fd:w4,(∀(s:b9)(u:b7),DC s fd ⟨[u],[]⟩ [("_law_script",u)])/\∀ base:j3,w8 (KK w.params) base->base.Ns mainGlobals mg->yV l.prog w K mg base CX0 11 g fd ["_law_script"] (sp_law K)) :
  Gr q b y i l.row.toRowW d [] (λf j=>FR f j) :=
 L2.walk_of3 (n:=63) (k:=11) (x := "_law_script") (KK:=KK) (K:=K) (sp:=sp_law K) m (by decide) e ⟨rfl,by decide,by decide,rfl⟩ t (λ_ _ X=>K_in X) (λp a o h c=>by rw[fh]; rwa[eR (F:=KF p) (by symm) h c]) F (λ_ a ns r v=>⟨a,ns,rfl,v,r,λ_=>rfl⟩)

end Sea
open PySem PySem.W PyProof.Rows
set_option maxRecDepth 100000 in
set_option maxHeartbeats 0 in
theorem PySem.Challenge.cw_seamarks_k54_refusals_apart_holds : PySem.Challenge.rw_seamarks_k54_refusals_apart.Holds := by
 w_on
 refine holds_law Sea.said_ok λsaid=>?_;refine holds_open (q:=Sea.qv) (loose:=Sea.lse) (XP:=XL Sea.qv []) (YP:=InK Sea.KK) Sea.left_ok (InK.of Sea.kas_ok)
  InK.keeps (λs e=>xl_of s (Eh.mp e).1) XL.keeps (by rfl) (by rfl) (by rfl)
  (λs e=>recFacts_of (Eh.mp e).2) (by rfl) (by assumption) (by ac_nf)
  ⟨rfl,rfl,rfl,rfl,rfl,by ac_nf⟩ ?hw ?hc
 case hw=>w_witness2
 k_fill
 erw[Sea.walk (l:=PySem.Challenge.rw_seamarks_k54_refusals_apart) rfl rfl (λw h Y=>Y) ?F]
 case F =>
  intro w mg fa h KX G hmg
  refine' Sea.all_mk KX G hmg ?q1 ?q2 ?q3 ?q4 ?q5 ?q6 ?q7 ?q8 ?q9 ?q10 ?q11 ?q12 ?q13 ?q14 ?q15 ?q16 ?q17 ?q18 ?q19 ?q20 ?q21 ?q22 ?q23 ?q24 ?q25 ?q26 ?q27 ?q28 ?q29 ?q30 ?q31 ?q32 ?q33 ?q34 ?q35 ?q36 ?q37 ?q38 ?q39 ?q40 ?q41 ?q42 ?q43 ?q44 ?q45 ?q46 ?q47 ?q48 ?q49 ?q50 ?q51 ?q52 ?q53 ?q54 ?q55 ?q56 ?q57 ?q58 ?q59 ?q60 ?q61 ?q62 ?q63 ?q64 ?z_ValueError ?z_abs ?z_all ?z_bool ?z_dict ?z_int ?z_isinstance ?z_len ?z_list ?z_range ?z_str ?z_tuple ?z_zip
  (case q48 | q49 | q50 | q51 | q52 | q53 | q54 | q55 | q56 | q57 | q58 | q59 | q60 | q61 | q62 | q63 | q64=>refine' Sea.atm_mk ⟨?b,?c,?d⟩;(case b=>rwa[rfl]);(case c=>symm);(case d=>symm))
  (case q47=>refine'⟨?_,?_,?_,?_⟩; k_is; rwa[rfl]; symm; symm)
  (case q1 | q2 | q3 | q4 | q5 | q6 | q7 | q8 | q9 | q10 | q11 | q12 | q13 | q14 | q15 | q16 | q17 | q18 | q19 | q20 | q21 | q22 | q23 | q24 | q25 | q26 | q27 | q28 | q29 | q30 | q31 | q32 | q33 | q34 | q35 | q36 | q37 | q38 | q39 | q40 | q41 | q42 | q43 | q44 | q45 | q46=>refine' Sea.at_mk ⟨?a,?b,?c,?d⟩;(case a=>k_is);(case b=>rwa[rfl]);(case c=>symm);(case d=>symm))
  (case z_ValueError | z_abs | z_all | z_bool | z_dict | z_int | z_isinstance | z_len | z_list | z_range | z_str | z_tuple | z_zip=>k_is)
