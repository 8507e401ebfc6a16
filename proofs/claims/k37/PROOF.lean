import PyProof.Rows.All
import Wide.All
import OpenK.AllK
import Wide.FinOn
import Lean
import PyProof.EqAt
import PyProof.EqKinds
import PyProof.TupleCall
import PyProof.ZipIter
import PyProof.Rows.ZipGen
import PyProof.EnumFor
import PyProof.EnumStmt
import KE.KSortTup
import KE.KDictList
import KE.KItemsList
import KE.KTryMore
import PyProof.Rows.TopTwo
import PyProof.ExcBaseAll.ValueError
import PyProof.ExcAttrAll.ValueError
import KE.KRevIter
import KE.KEqDict
import KE.KRevSl
import PySem.Challenge.RW_seamarks_k37_whole_undone_and_redone
set_option Elab.async false
set_option linter.all false
set_option maxRecDepth 100000
set_option maxHeartbeats 4000000
theorem nabs{a:Int}{n:Nat} : a.natAbs<=n↔-(n:Int)<=a/\a<=n:=by omega
local macro_rules | `(tactic| lia) => `(tactic| first | (simp only [nabs] at *; lia (config := {})) | lia (config := {}) | omega)
local macro_rules | `(tactic| exists $es,*) => `(tactic| refine ⟨$es,*, ?_⟩)
open PySem renaming wpAny_bind->ac,Addr->b9,Value->c7,Shared->d4,wpAny_pure->d7,Str->g8,Program->j9,World->n5,Heap->n9,wpAny_newObj_type->p9,Expr->t6,Around->Ab,wpAny_field->Ae,Stmt->Ah,wpAny_callSpecial?_slot->Ap,FuncData->Aq,wpAny_call_entry->Ar,wpAny_holding->Aw,wpAny_truthy_bool->AD,Obj->AL,wpAny_seqItems->AY,wpAny_mono->A9,wpAny_Call_Name_kw->Ba,wpAny_setField->Bh,wpAny_typeNameOfWhole_keyiter->Bi,DictEntry->Bk,mem_of_lookup->Bs,wpAny_setField_rec->By,wpAny_passesOwn->BG,wpAny_pyIter_list->BJ,wpAny_attempt->BN,wpAny_typeNameOf_keyiter->BO,wpAny_getItem_str_slice->BU,Params->B5,ofString_length->B9,NameKind->Ce,wpAny_of_eq->Cg,IsPair->Ch,Builtin->Cj,Pos->Ck,evalArgs_none->Cu,wpAny_execs_nil->CF,Scope->CJ,wpAny_Call_method->CS,wpAny_isOneOf_keyiter->CV,wpAny_isInstance->C0,wpAny_standAt->C3,wpAny_updateSeq_pair->C8,Env->Dk,OsState->Dn,wpAny_rule->Dw,wpAny_pyIter_tuple->Dy,wpAny_call->DA,wpAny_newFunctionEnv_cells->DB,wpAny_fieldsOf->DD,wpAny_FormattedValue_plain->DF,Keyword->DP,wpAny_dictEntries->DT,wpAny_comprehension_free->DZ,wpAny_onRaise->D0,slot_listiter_next->D1,IsZip->D6,wpAny_pyNext_list_item->Eg,BindsTo->Ej,wpAny_dictEpoch->Ex,wpAny_isTrue_Compare1->EH,wpAny_pyIter_listiter->EI,wpAny_formatField_int->EM,wpAny_newFunctionEnv->EW,wpAny_pyIter_revIter->EZ,wpAny_handled->Fg,wpAny_newList->Fi,IsPart->Fr,Within->Fz,wpAny_pyIter_slot->FN,wpAny_eqBool_int->FZ,wpAny_eqBool_str->F0,Paired->F1,wpAny_execs_cons->F2,wpAny_pyIter_zip->Gc,wpAny_getItem_of->Gf,CmpOp->Gn,wpAny_throw->Gq,wpAny_letGo->Gr,wpAny_specialOf->Gw,wpAny_Name->GA,call->GF,Sem->GP,Model->Hw,Tok->Ia
open List renaming length_map->a7,getElem?_eq_getElem->d3,getElem?_map->d8,mem_singleton->d9,toArray->f7,length_append->f8,getElem?_eq_some_iff->g9,size_toArray->i0,mem_map->i4,mem_cons->i7,mem_of_getElem?->i8,length_take->i9,map_append->j5,map_cons->l9,mem_append->m7,length_cons->m9,mem_append_right->o0,length_drop->p0,lookup_cons->p7,map_map->t5,take_succ->w5,getD_eq_getElem?_getD->w6,replicate->x6,length_reverse->x8,take_of_length_le->Aa,mem_cons_of_mem->Ac,lookup->Ad,all_eq_true->Af,not_mem_nil->Ag,range->Ai,take_length->Al,length_nil->Am,find?_cons->As,getElem?_append_right->Ay,mem_range->Az,filterMap_cons_some->AB,getElem?_eq_none->AC,mem_cons_self->AH,length_zip->AK,any_cons->AQ,filterMap_cons_none->AS,filterMap_cons->AZ,length->A3,getElem?_append_left->A5,length_replicate->A7,zipIdx_cons->Bb,mem_of_mem_drop->Bj,length_range->Bm,append_nil->Bq,drop_eq_nil_of_le->Bu,getElem_mem->Bv,nodup_iff_pairwise_ne->Bz,length_singleton->BB,length_filter_le->BC,mem_filter->BF,mem_append_left->BI,find?_eq_none->BY,nodup_cons->B2,length_tail->Co,getElem?_zip_eq_some->Cr,all_cons->Cz,mem_filterMap->CG,getElem?_replicate->CK,length_eq_zero_iff->CM,getElem?_set_self->CN,map_nil->CQ,getElem?_reverse->CW,any_eq_true->CZ,append_inj'->C2,map_take->C4,mem_of_mem_take->Db,of_mem_zip->Dc,length_set->Dd,replicate_succ->Dm,getElem?_take->DE,getElem?_eq_none_iff->DI,snd_lt_of_mem_zipIdx->DK,mem_or_eq_of_mem_set->DL,ext_getElem?->DS,filter_congr->DW,getElem_inj->D4,filter_cons_of_neg->D9,filter_cons_of_pos->Ea,ext_getElem->Eb,map_fst_zip->Ee,all_nil->Er,forIn_cons->Ev,filter_map->Ez,range_succ->EB,all_append->EG,filterMap_append->EL,mem_iff_getElem?->EN,eq_nil_or_concat->ER,concat_eq_append->ES,getElem?_set_ne->EU,getElem_toArray->EX,replicate_succ'->E6,getElem_of_mem->E9,filter_sublist->Fb,map_congr_left->Fd,map_drop->Fh,filter_append->Fy,any_eq_false->FA,flatten_cons->FK,pairwise_map->FO,all_map->FP,nodup_append->FX,append_assoc->FY,cons_append->Gd,filter_cons->Ge,nodup_range->Gh,map_snd_zip->Gi,zipIdx_nil->Gv,forIn_nil->GH,drop_zero->GK,sum_cons->Hq
open PySem.W renaming Frag->b7,mg_of->g6,mg_none_of->o9,fnOf->An,nsIn->Ao,keepIn->Au,kia_one->AA,findIn->AI,emptyDict->AM,kitOne->AX,instObj->Bo,callWith_K->Bw,methodCall_KW->B8,codeIn->Cf,callWith_K0->Ct,cellsFrom_some->CO,plainGet->CY,plainGet_of->Dl,lookIn->Dz,methodObj->DN,hasDictIn->DO,hideAll->Et,takerIn->Eu,OpenLaw->EC,hideAll_get->E8,of_hideAll->Fm,codeRec_of->Fq,isFn->FC,plainOver->FD,specialIn->FE,kitx_list->FF,kitx_dict->FG,handedIn->F3,makesIn->Gs,exmOne->GL,KasT->GM,WalkO->Hs,SharedT->HE
open PySem.Heap renaming get?_push_of_some->c9,get?_push_size->e7,lt_size->f9,get?_update_other->o7,get?_update_self->AO,SameBut->AW,size_push->Bg,ExtBut->CL,get?_none_of_le->C5,get?_push_ne->FV,MadeExcOf->GJ
open PySem.F renaming excBase_ValueError->d5,slot_dict_keyiterator_next->AT,slot_tuple_iterator_next->Bx,slot_dict_getitem->Cq,slot_dict_items->CU,args_dict_keyiterator_next_1->C1,entry_dict_keyiterator_next->C9,slot_dict_itemiterator_iter->Da,args_tuple_iterator_next_1->Df,slot_zip_next->Dg,entry_tuple_iterator_next->Dp,slot_dict_delitem->DJ,plainAttrs_dict->DU,plainAttrs_list->D7,plainAttrs_str->Es,slot_dict_pop->EJ,slot_str_join->EO,type_str_join->EQ,args_dict_items_1->Fa,slot_dict_values->Fv,entry_dict_items->Fw,args_zip_next_1->FM,type_dict_items->FQ,attr_ValueError->FR,entry_zip_next->Gb,slot_dict_iter->Gg
open Nat renaming le_refl->d6,le_of_ble_eq_true->g7,le_trans->j8,ne_of_lt->l6,lt_of_lt_of_le->m5,zero_le->r9,lt_irrefl->Bc,lt_trans->Be,le_of_lt->BH,le_succ->BV,ne_of_gt->BW,gcd->Cm,lt_of_le_of_lt->CH,not_lt_zero->Di,add_le_add->DH,lt_succ_self->D5,le_of_eq->Eh,zero_add->Eo,lt_of_succ_lt_succ->Ep,add_le_add_right->E5,mul_comm->FL,lt_succ_of_lt->FW,le_of_not_lt->F7,succ_ne_self->F9,min_eq_right->Gj,log2_lt->Gp,min_eq_left->Gx,dvd_trans->Hm,mul_assoc->Hn,le_of_dvd->Ho,succ_mul->HH
open Classical renaming not_not->e9,byContradiction->Cs
open Bool renaming false_ne_true->h9,and_eq_true->o8,false_eq_true->AU,eq_iff_iff->BZ,or_eq_false_iff->Ci,false_and->Dx,eq_false_iff->DQ,and_true->D3,or_eq_true->Ew,and_eq_true_iff->E7,or_false->Ff,true_and->Fj,and_false->GE,true_or->HJ
open PySem.Value renaming ref->j6,none->p8,str->AN,int->BE,builtin->CD,bool->Ef,float->ET,bytes->Gm,type->Gz,isStrOf->G9,isInt->HN
open Option renaming map_eq_some_iff->j7,isSome_iff_exists->k9,isSome_map->Av,map_some->B3,bind_eq_some_iff->Ec,map_eq_none_iff->En,getD_none->F5,toList->Hu,none->HQ
open PySem.Str renaming ofString->l5,join->D8,empty->Hy
open Int renaming emod_lt_of_pos->o6,emod_nonneg->t9,toNat_natCast->AE,eq_ofNat_of_zero_le->AF,mul_assoc->BM,natAbs_mul_self->Cv,natCast_nonneg->CI,mul_ne_zero->De,le_of_lt->Ek,mul_comm->El,mul_nonneg->EV,mul_neg->Go,natAbs_mul->GG,natAbs_neg->GO,zero_mul->HI,zero_add->HK
open Option.some renaming inj->p5,injEq->DV
open PyProof.Rows renaming OwnCls->p6,callWith_type1->AV,slot_tuple_getitem->BP,AllBare->Do,SortKind->FU,callWith_builtin1->F4,IntsAre->Gy,Subscript_->GD,Keyed->GI,IsTup->Hv
open True renaming intro->t7
open False renaming elim->v7
open PySem.Builtin.SmallTypes renaming nextOf->w9,ownedTupleIsFree->AR,ownedTupleHandOut->Cy
open PySem.NameKind renaming free->x9,cell->B4
open Array renaming length_toList->Aj,getElem?_eq_getElem->A6,getElem?_eq_some_iff->BA,getElem?_eq_none->BX,getElem?_toList->B7,mem_toList_iff->C6,toArray_toList->EY,all_eq_true'->Fx,getD->GN,toList->HF
open PySem.Obj renaming mapSeq->Ak,data_mapFields->AJ,isFreed_of_fields->A8,mapFields->Bf,cls_mapFields->Cc
open PySem.W.Frag renaming In->At
open PySem.PassesOwn renaming never->Ax,leaving->DY
open Ne renaming symm->AG
open Or renaming inl->A4,inr->F8
open ForInStep renaming yield->Br
open PySem.Builtin.Str renaming strSliceIndices->Bt,glued->CT,occurrences->Ed
open PySem.Builtin.Slice renaming slicePlaces->BD,sliceAdjust->Cp,sliceApplied->DC,slicePartIndex->Gu,sliceFields->G0
open PySem.Builtin.Tuple renaming tupleExact->BL,tupleItemsOf->GC
open Sum renaming inl->BQ,inr->BR
open PySem.World renaming withFollow_self->B6
open PySem.W.Fast renaming te14364793385576792824->Ca,te2368527892694137696->Cd,te5923862056798008813->Du
open PySem.Txt renaming slice->Cn,slice_le->Em
open PySem.Heap.SameBut renaming update->Cw
open PySem.Builtin.List renaming listTooLong->CA
open PySem.Calls renaming callWith_builtin->CP,evalArgs_plain->C7,Name_function_global->Dv,call_function_entry->DM,Constant_str->Fo,spliced_cons->Fp,spliced_nil->FI
open PySem.Builtin.Dict_items renaming ownsTuple->Dh
open PySem.PyData renaming shownAll->Dj,keyHash->Dr,showableAll->DG,hasDictAll->DX,showable->ED,depthAll->EF,hasDict->E4,shown->FS,depth->FT
open PySem.StrLaws renaming glued_eq_join->Dq,reprText_len->E3,joinTotal->HA
open PySem.Around renaming under->Ei
open List.cons renaming injEq->Ey
open PySem.Builtin.Dict renaming showsAll->EK,dictSlotNone->G8
open PySem.EntryCells renaming newEntry->Fc
open PySem.Paired renaming length->Fe,snoc->HS
open PySem.SeqAt.EqAt renaming int_str->Fk,str_int->Fl,int_int->Ft,str_str->Fu
open PySem.SeqAt renaming EqAt->Fs,in_tupleAt->F6
open PySem.Code renaming isFrame->FH,isGuard->HG,frames->HP
open Prod renaming ext->FJ
open PySem.Heap.IsList renaming push->Ga
open Sum.inr renaming inj->Gk
open PySem.EqNone renaming eq_none_none->GQ,eq_none_bool->GR,eq_bool_none->GS,ne_none_none->GV,ne_none_bool->GW,ne_bool_none->GX,eq_none_int->Ha,eq_none_str->Hb,eq_int_none->Hc,eq_str_none->He,ne_none_int->Hg,ne_none_str->Hh,ne_int_none->Hi,ne_str_none->Hk
open PySem.EqMixed renaming eq_bool_str->GT,eq_str_bool->GU,ne_bool_str->GY,ne_str_bool->GZ,eq_int_str->Hd,eq_str_int->Hf,ne_int_str->Hj,ne_str_int->Hl
open List.Pairwise renaming imp_of_mem->Hr,nil->HZ
open PySem.Builtin.Range renaming rangeSize->Hx
open PySem.Heap.UpToSlots renaming of_keeps->HD
open PySem.W.SharedT renaming abs->HM
open PySem.Shared renaming heap->HR
open PySem.W.Looks renaming here->HU,ld->Ie
open PySem.Heap.IsSliceOf renaming new->HV
open PySem.W.WShape renaming has->HW
open PySem.Walks renaming list->HX
open PySem.Within renaming cons->HY
open PyProof.Rows.IsTup renaming new->Ib
open PySem.W.WData renaming int->Ic
theorem U{α:Sort _}{a:α}:a=a:=rfl
open Option renaming some->Ig,none->Ih
open Bool renaming true->Ii,false->Ij
local macro_rules | `(tactic| rwa [$e:term]) => `(tactic| exact $e)
local macro_rules | `(tactic| rwa [$e:term, $[$es:term],*]) => `(tactic| exact ⟨$e, $es,*⟩)
local macro_rules | `(tactic| erw [$e:term]) => `(tactic| refine $e)
local macro_rules | `(tactic| erw [$e:term, $[$es:term],*]) => `(tactic| refine ⟨$e, $es,*⟩)
namespace L2
open PySem
def wE(s:Ah):Arguments:=match s with
 | .FunctionDef _ a _ _ _ _ _ _ _ _=>a
 | _=>{ posonlyargs:=[],args:=[],vararg:=Ih,kwonlyargs:=[],kw_defaults:=[],kwarg:=Ih,defaults:=[] }
def xH(s:Ah):List Ah:=match s with
 | .FunctionDef _ _ b _ _ _ _ _ _ _=>b
 | _=>[]
def zJ(s:Ah):CJ:=match s with
 | .FunctionDef _ _ _ _ _ _ sc _ _ _=>sc
 | _=>{ kind:=.function,names:=[],isGenerator:=Ij,isCoroutine:=Ij }
def tJ(s:Ah)(j:Nat):Ah:=match s with
 | .ClassDef _ _ _ body _ _ _ _ _ _ _=>body.getD j (.Pass ⟨0,0,0,0⟩)
 | _=>.Pass ⟨0,0,0,0⟩
end L2
namespace PySem.W
open PySem
noncomputable def lB(tb:String->Option Cj)(p:j9)(w:n5)(n₀:Nat)(ann:Option c7):Nat->HE->Thread->Option HE
 | 0,_,_=>Ih
 | n+1,s,t=>match through t with
  | true=>Ig s
  | false=>match Fast.tw6613529449190102663 n₀ ann t with
   | false=>Ih
   | true=>match Fast.tw10156331382660048174 (Fast.tw11892475500146522536 tb) p w s t with
    | some (s',t')=>lB tb p w n₀ ann n s' t'
    | none=>Ih
def iT{tb:String->Option Cj}{p:j9}{w:n5}{n₀:Nat}{ann:Option c7} : ∀{n:Nat}{s s':HE}{t:Thread},lB tb p w n₀ ann n s t=Ig s'->topRun tb p w n₀ ann n s.abs t=Ig s'.abs
 | 0,_,_,_,h=>by cases h
 | n+1,s,s',t,h=>by
  unfold lB at h;rw[<- Fast.te6613529449190102663,<- Fast.te10156331382660048174,<- Fast.te11892475500146522536] at h;unfold topRun;cases he:through t with
  | true=>rw[he] at h; cases h; rfl
  | false =>
   rw[he] at h;cases hk:stepOk n₀ ann t with
   | false=>rw[hk] at h; cases h
   | true =>
    rw[hk] at h;cases hs:stepT (denote tb) p w s t with
    | none=>rw[hs] at h; cases h
    | some r=>obtain⟨s₂,t₂⟩:=r; rw[hs] at h; rw[stepT_spec hs]; rwa[iT h]
noncomputable def WW(P:B5):BT:=((boot_heap P).objs.toList.zipIdx).foldl (λt x=>t.ins x.2 x.1) .nil
def YZ(P:B5):absHeap (WW P) 11 (boot_heap P).life=boot_heap P:=by kernel_rfl
def bK(P:B5):((boot_heap P).isNs mainGlobals,(boot_heap P).objs.size,(boot_heap P).nsMap mainGlobals "__annotations__")=(Ii,11,Ig (.ref 6)):=by kernel_rfl
noncomputable abbrev Tm(tb:String->Option Cj)(p:j9)(N:Nat)(w:n5)(os:Dn):Option HE:=lB tb p w 11 (Ig (.ref 6)) N ⟨WW w.params,11,(boot_heap w.params).life,#[],boot_drawn,boot_toks,os⟩ (topStub p)
def Yz{α β γ:Type}{x:Option α}{f:α->β×γ}{a:β}{b:γ}(h1:x.map (λs=>(f s).1)=Ig a)(h2:x.map (λs=>(f s).2)=Ig b):x.map f=Ig (a,b):=by
 cases x with
 | none=>cases h1
 | some s =>
  injection h1 with h1
  injection h2 with h2
  subst h1 h2;rfl
def ag{p q:j9}{loose:List g8}{Xt:d4->Bool}{α:Type}{Yf:d4->α}{Ya:n5->α}{N:Nat}
  (open_:∀ w:n5,(fencedOpening treeTable p w N).map (λs=>(s.heap,s.gens,s.drawn,s.toks))=Ig (boot_heap w.params,Array.mk [],boot_drawn,boot_toks))
  (h1:∀ w os,(Tm treeTable p N w os).map (λs=>(staticsOk (importedModules p.main.body) (boot_heap w.params) s.abs.heap&&namesBound p s.abs.heap&&gensDone s.abs&&laidKept (boot_heap w.params) s.abs.heap))=Ig Ii)
  (h2:∀ w os,(Tm treeTable p N w os).map (λs=>openSeen q loose (importedModules p.main.body) Xt Ii s.abs)=Ig (openGood q loose))
  (h3:∀ w os,(Tm treeTable p N w os).map (λs=>Yf s.abs)=Ig (Ya w)):LeftO p q loose Xt Yf Ya N:=λw=>by
 obtain⟨⟨h,gs,d,k,os⟩,e,e'⟩:=j7.mp (open_ w);obtain⟨rfl,rfl,rfl,rfl⟩:h=boot_heap w.params/\gs = #[]/\d=boot_drawn/\k=boot_toks:=by simpa using e'
 obtain⟨z1,z2,z3⟩ : _/\_/\_:=by simpa only[Prod.mk.injEq] using bK w.params
 obtain⟨s,r1,l1⟩:=j7.mp (h1 w os);obtain⟨s',r2,l2⟩:=j7.mp (h2 w os);obtain⟨s'',r3,l3⟩:=j7.mp (h3 w os);rw[r1] at r2 r3;cases r2;cases r3;have r:=iT r1;rw[show HM ⟨WW w.params,11,(boot_heap w.params).life,#[],boot_drawn,boot_toks,os⟩=⟨boot_heap w.params,#[],boot_drawn,boot_toks,os⟩ from by unfold HM; rw[YZ]] at r;have t:topFrom treeTable p w N ⟨boot_heap w.params,#[],boot_drawn,boot_toks,os⟩=Ig s.abs:=by
  unfold topFrom;dsimp only;rw[z1,z2,z3,r];show(match staticsOk (importedModules p.main.body) (boot_heap w.params) s.abs.heap&&namesBound p s.abs.heap&&gensDone s.abs&&laidKept (boot_heap w.params) s.abs.heap with | true=>_ | false=>_)=_;rw[l1]
 unfold openEnds;rw[e];show(topFrom treeTable p w N _).map _=_;rw[t];show Ig (_,_)=_;rw[l2,l3]
end PySem.W
namespace Sea
open PySem L2
def top(i:Nat):Stmt:=PySem.Challenge.pw_seamarks_k37_whole_undone_and_redone.main.body.getD i (.Pass ⟨0,0,0,0⟩)
abbrev pM:Ah:=top 2
abbrev uF:Ah:=top 4
abbrev uM:Ah:=top 5
abbrev rZ:Ah:=top 6
abbrev uJ:Ah:=top 31
abbrev qI:Ah:=top 32
abbrev qD:Ah:=top 33
abbrev yi:Ah:=top 34
abbrev vI:Ah:=top 35
abbrev vE:Ah:=top 36
abbrev uT:Ah:=top 37
abbrev tO:Ah:=top 38
abbrev vJ:Ah:=top 39
abbrev vH:Ah:=top 40
abbrev wQ:Ah:=top 41
abbrev tN:Ah:=top 42
abbrev uE:Ah:=top 43
abbrev vC:Ah:=top 44
abbrev vD:Ah:=top 45
abbrev wR:Ah:=top 46
abbrev vK:Ah:=top 47
abbrev uI:Ah:=top 48
abbrev vA:Ah:=top 49
abbrev uQ:Ah:=top 50
abbrev vG:Ah:=top 51
abbrev wF:Ah:=top 52
abbrev uC:Ah:=top 53
abbrev wP:Ah:=top 54
abbrev wx:Ah:=top 56
abbrev wo:Ah:=top 60
abbrev vy:Ah:=top 61
abbrev ww:Ah:=top 62
abbrev lD:Ah:=top 63
abbrev wn:Ah:=top 64
abbrev qM:Ah:=top 65
abbrev ph:Ah:=top 66
abbrev qF:Ah:=top 67
abbrev pw:Ah:=top 68
abbrev vL:Ah:=top 69
abbrev lQ:Ah:=top 70
abbrev yl:Ah:=top 71
abbrev tP:Ah:=top 72
abbrev wO:Ah:=top 73
abbrev pK:Ah:=top 74
abbrev qL:Ah:=top 75
abbrev pG:Ah:=top 76
abbrev tM:Ah:=top 77
abbrev tL:Ah:=top 78
abbrev sW:Ah:=top 79
abbrev tS:Ah:=top 80
abbrev pB:Ah:=top 81
abbrev kF:Ah:=top 82
abbrev pO:Ah:=top 83
abbrev vq:Ah:=top 84
abbrev pk:Ah:=top 85
abbrev rB:Ah:=top 86
abbrev yk:Ah:=top 87
abbrev qA:Ah:=top 88
abbrev vF:Ah:=top 89
abbrev wS:Ah:=top 90
abbrev fk:Ah:=top 91
abbrev pA:Ah:=tJ (top 58) 0
abbrev pJ:Ah:=tJ (top 58) 11
abbrev pf:Ah:=tJ (top 58) 12
abbrev pj:Ah:=tJ (top 58) 13
abbrev pE:Ah:=tJ (top 58) 14
abbrev vc:Ah:=tJ (top 58) 15
abbrev ym:Ah:=tJ (top 58) 16
abbrev wy:Ah:=tJ (top 58) 18
abbrev ve:Ah:=tJ (top 58) 19
abbrev pQ:Ah:=tJ (top 58) 20
abbrev wm:Ah:=tJ (top 58) 21
abbrev yh:Ah:=tJ (top 58) 22
noncomputable def qv:Program:={ PySem.Challenge.pw_seamarks_k37_whole_undone_and_redone with main:={ PySem.Challenge.pw_seamarks_k37_whole_undone_and_redone.main with body:=[top 2,top 4,top 5,top 6,top 31,top 32,top 33,top 34,top 35,top 36,top 37,top 38,top 39,top 40,top 41,top 42,top 43,top 44,top 45,top 46,top 47,top 48,top 49,top 50,top 51,top 52,top 53,top 54,top 56,top 60,top 61,top 62,top 63,top 64,top 65,top 66,top 67,top 68,top 69,top 70,top 71,top 72,top 73,top 74,top 75,top 76,top 77,top 78,top 79,top 80,top 81,top 82,top 83,top 84,top 85,top 86,top 87,top 88,top 89,top 90,top 91] } }
def lse:List g8:=("_wall" : g8)::("MarkError" : g8)::("BadName" : g8)::("Taken" : g8)::("BadPlace" : g8)::("Full" : g8)::("NoMark" : g8)::("Same" : g8)::("Needed" : g8)::("BadBank" : g8)::("NoBank" : g8)::("BadRun" : g8)::("NoRun" : g8)::("NoMoment" : g8)::("BadWay" : g8)::("BadTurn" : g8)::("NoNote" : g8)::("NothingLeft" : g8)::("BadRow" : g8)::("MOST" : g8)::("LONGEST_NAME" : g8)::("FARTHEST" : g8)::("LONGEST_WAY" : g8)::("AFTER" : g8)::("Book" : g8)::[]
noncomputable def kd(P:B5)(x:g8)(t:Nat)(v:c7):Bk:=⟨Dr P x,.str x t,v⟩
noncomputable def kc(l:List c7):AL:=⟨.type "code",Ih,.fields (f7 l),f7 []⟩
noncomputable def kq(x:g8)(a:Nat)(l g:Int)(r:Nat)(u v w y z:c7)(h:Int)(b:Nat):AL:=kc [.str x a,.str x (a+1),.str "/claim/cut.py" (a+2),.int l 0,.int g 0,.int 0 0,.int 0 0,.int 3 0,.ref r,.bool Ii,.int 181 0,u,v,w,y,z,.int h 0,.int l 0,.str "/claim/cut.py" b]
noncomputable abbrev kf(x:g8)(s:Ah)(kV doc pm cd ct:c7):AL:=⟨.type "function",Ih,.func (An x x (wE s) (xH s) (zJ s) .none kV doc pm Ih cd ct),f7 []⟩
noncomputable abbrev kg(x:g8)(s:Ah)(m:g8)(t c:Nat):AL:=kf x s .none .none (.str m t) (.ref c) .none
noncomputable abbrev kf2(x q:g8)(s:Ah)(kV doc pm cd ct:c7):AL:=⟨.type "function",Ih,.func (An x q (wE s) (xH s) (zJ s) .none kV doc pm Ih cd ct),f7 []⟩
noncomputable def kNs(P:B5):AL:=⟨.type "dict",Ih,.dict (f7 (kd P "__name__" 165 (.str "law_seamarks_k37_whole_undone_and_redone" 1000)::kd P "__doc__" 166 .none::kd P "__package__" 167 .none::kd P "__loader__" 168 (.builtin "__main__.__loader__#opaque")::kd P "__spec__" 169 .none::kd P "__annotations__" 170 (.ref 6)::kd P "__builtins__" 171 (.ref 4)::kd P "__file__" 173 (.str "/claim/cut.py" 172)::kd P "__cached__" 174 .none::kd P "_wall" 193 (.ref 21)::kd P "turn" 203 (.ref 28)::kd P "stretch_way" 213 (.ref 35)::kd P "all_left_of" 225 (.ref 42)::kd P "is_bank" 231 (.ref 47)::kd P "MarkError" 251 (.ref 57)::kd P "BadName" 267 (.ref 70)::kd P "Taken" 283 (.ref 82)::kd P "BadPlace" 299 (.ref 94)::kd P "Full" 315 (.ref 106)::kd P "NoMark" 331 (.ref 118)::kd P "Same" 347 (.ref 130)::kd P "Needed" 363 (.ref 142)::kd P "BadBank" 379 (.ref 154)::kd P "NoBank" 395 (.ref 166)::kd P "BadRun" 411 (.ref 178)::kd P "NoRun" 427 (.ref 190)::kd P "NoMoment" 443 (.ref 202)::kd P "BadWay" 459 (.ref 214)::kd P "BadTurn" 475 (.ref 226)::kd P "NoNote" 491 (.ref 238)::kd P "NothingLeft" 507 (.ref 250)::kd P "BadRow" 532 (.ref 269)::kd P "MOST" 547 (.ref 272)::kd P "LONGEST_NAME" 549 (.int 8 548)::kd P "FARTHEST" 551 (.int 1000 550)::kd P "LONGEST_WAY" 553 (.int 100 552)::kd P "nothing_yet" 559 (.ref 279)::kd P "changed" 570 (.ref 286)::kd P "without" 580 (.ref 293)::kd P "within" 586 (.ref 298)::kd P "check_name" 592 (.ref 303)::kd P "check_free" 601 (.ref 310)::kd P "check_place" 608 (.ref 317)::kd P "check_run" 615 (.ref 324)::kd P "check_room" 623 (.ref 331)::kd P "check_mark" 631 (.ref 338)::kd P "check_moment" 639 (.ref 345)::kd P "check_way" 646 (.ref 352)::kd P "check_apart" 655 (.ref 359)::kd P "after_mark" 665 (.ref 366)::kd P "after_move" 676 (.ref 373)::kd P "after_unmark" 686 (.ref 380)::kd P "after_bank" 697 (.ref 387)::kd P "after_level" 706 (.ref 394)::kd P "after_sail" 715 (.ref 401)::kd P "after_right" 725 (.ref 408)::kd P "after_note" 734 (.ref 415)::kd P "after_bearing" 742 (.ref 422)::kd P "after_range" 750 (.ref 429)::kd P "after_strike" 759 (.ref 436)::kd P "AFTER" 780 (.ref 437)::kd P "after" 788 (.ref 444)::kd P "Book" 999 (.ref 607)::kd P "_law_power" 1008 (.ref 618)::kd P "_law_draws" 1020 (.ref 625)::kd P "_law_names" 1026 (.ref 630)::kd P "_law_new" 1032 (.ref 637)::kd P "_law_same" 1038 (.ref 642)::kd P "_law_refused" 1044 (.ref 647)::kd P "_law_went" 1053 (.ref 654)::kd P "_law_strange" 1062 (.ref 661)::kd P "_law_pick" 1070 (.ref 668)::kd P "_law_far_number" 1077 (.ref 675)::kd P "_law_way" 1088 (.ref 682)::kd P "_law_turned" 1096 (.ref 689)::kd P "_law_left_pair" 1106 (.ref 696)::kd P "_law_bearing_deed" 1121 (.ref 703)::kd P "_law_deed" 1134 (.ref 710)::kd P "_law_is_name" 1140 (.ref 715)::kd P "_law_near" 1148 (.ref 722)::kd P "_law_mark_word" 1154 (.ref 727)::kd P "_law_bank_word" 1160 (.ref 732)::kd P "_law_run_word" 1168 (.ref 739)::kd P "_law_note_word" 1178 (.ref 746)::kd P "_law_word" 1186 (.ref 753)::kd P "_law_due" 1195 (.ref 760)::kd P "_law_done" 1204 (.ref 767)::kd P "_law_after" 1213 (.ref 774)::kd P "_law_step" 1231 (.ref 781)::kd P "_law_marks_of" 1237 (.ref 786)::kd P "_law_stands" 1245 (.ref 793)::kd P "_law_told_so" 1256 (.ref 800)::kd P "_law_drawn_bank" 1265 (.ref 807)::kd P "_law_round_enough" 1272 (.ref 814)::kd P "law" 1291 (.ref 821)::[])) 95,f7 []⟩
noncomputable def KG(P:B5):b7 :=
 (nat_lit 56,⟨.type "dict",Ih,.dict (f7 (kd P "__module__" 241 (.str "seamarks.errors" 232)::kd P "__firstlineno__" 245 (.int 23 244)::kd P "__static_attributes__" 246 (.ref 55)::kd P "__weakref__" 248 (.ref 58)::kd P "__doc__" 249 .none::[])) 3,f7 []⟩) ::
 (nat_lit 69,⟨.type "dict",Ih,.dict (f7 (kd P "__module__" 259 (.str "seamarks.errors" 232)::kd P "__firstlineno__" 263 (.int 25 262)::kd P "__static_attributes__" 264 (.ref 68)::kd P "__doc__" 265 .none::[])) 2,f7 []⟩) ::
 (nat_lit 81,⟨.type "dict",Ih,.dict (f7 (kd P "__module__" 275 (.str "seamarks.errors" 232)::kd P "__firstlineno__" 279 (.int 27 278)::kd P "__static_attributes__" 280 (.ref 80)::kd P "__doc__" 281 .none::[])) 2,f7 []⟩) ::
 (nat_lit 93,⟨.type "dict",Ih,.dict (f7 (kd P "__module__" 291 (.str "seamarks.errors" 232)::kd P "__firstlineno__" 295 (.int 29 294)::kd P "__static_attributes__" 296 (.ref 92)::kd P "__doc__" 297 .none::[])) 2,f7 []⟩) ::
 (nat_lit 105,⟨.type "dict",Ih,.dict (f7 (kd P "__module__" 307 (.str "seamarks.errors" 232)::kd P "__firstlineno__" 311 (.int 31 310)::kd P "__static_attributes__" 312 (.ref 104)::kd P "__doc__" 313 .none::[])) 2,f7 []⟩) ::
 (nat_lit 117,⟨.type "dict",Ih,.dict (f7 (kd P "__module__" 323 (.str "seamarks.errors" 232)::kd P "__firstlineno__" 327 (.int 33 326)::kd P "__static_attributes__" 328 (.ref 116)::kd P "__doc__" 329 .none::[])) 2,f7 []⟩) ::
 (nat_lit 129,⟨.type "dict",Ih,.dict (f7 (kd P "__module__" 339 (.str "seamarks.errors" 232)::kd P "__firstlineno__" 343 (.int 35 342)::kd P "__static_attributes__" 344 (.ref 128)::kd P "__doc__" 345 .none::[])) 2,f7 []⟩) ::
 (nat_lit 141,⟨.type "dict",Ih,.dict (f7 (kd P "__module__" 355 (.str "seamarks.errors" 232)::kd P "__firstlineno__" 359 (.int 37 358)::kd P "__static_attributes__" 360 (.ref 140)::kd P "__doc__" 361 .none::[])) 2,f7 []⟩) ::
 (nat_lit 153,⟨.type "dict",Ih,.dict (f7 (kd P "__module__" 371 (.str "seamarks.errors" 232)::kd P "__firstlineno__" 375 (.int 39 374)::kd P "__static_attributes__" 376 (.ref 152)::kd P "__doc__" 377 .none::[])) 2,f7 []⟩) ::
 (nat_lit 165,⟨.type "dict",Ih,.dict (f7 (kd P "__module__" 387 (.str "seamarks.errors" 232)::kd P "__firstlineno__" 391 (.int 41 390)::kd P "__static_attributes__" 392 (.ref 164)::kd P "__doc__" 393 .none::[])) 2,f7 []⟩) ::
 (nat_lit 177,⟨.type "dict",Ih,.dict (f7 (kd P "__module__" 403 (.str "seamarks.errors" 232)::kd P "__firstlineno__" 407 (.int 43 406)::kd P "__static_attributes__" 408 (.ref 176)::kd P "__doc__" 409 .none::[])) 2,f7 []⟩) ::
 (nat_lit 189,⟨.type "dict",Ih,.dict (f7 (kd P "__module__" 419 (.str "seamarks.errors" 232)::kd P "__firstlineno__" 423 (.int 45 422)::kd P "__static_attributes__" 424 (.ref 188)::kd P "__doc__" 425 .none::[])) 2,f7 []⟩) ::
 (nat_lit 201,⟨.type "dict",Ih,.dict (f7 (kd P "__module__" 435 (.str "seamarks.errors" 232)::kd P "__firstlineno__" 439 (.int 47 438)::kd P "__static_attributes__" 440 (.ref 200)::kd P "__doc__" 441 .none::[])) 2,f7 []⟩) ::
 (nat_lit 213,⟨.type "dict",Ih,.dict (f7 (kd P "__module__" 451 (.str "seamarks.errors" 232)::kd P "__firstlineno__" 455 (.int 49 454)::kd P "__static_attributes__" 456 (.ref 212)::kd P "__doc__" 457 .none::[])) 2,f7 []⟩) ::
 (nat_lit 225,⟨.type "dict",Ih,.dict (f7 (kd P "__module__" 467 (.str "seamarks.errors" 232)::kd P "__firstlineno__" 471 (.int 51 470)::kd P "__static_attributes__" 472 (.ref 224)::kd P "__doc__" 473 .none::[])) 2,f7 []⟩) ::
 (nat_lit 237,⟨.type "dict",Ih,.dict (f7 (kd P "__module__" 483 (.str "seamarks.errors" 232)::kd P "__firstlineno__" 487 (.int 53 486)::kd P "__static_attributes__" 488 (.ref 236)::kd P "__doc__" 489 .none::[])) 2,f7 []⟩) ::
 (nat_lit 249,⟨.type "dict",Ih,.dict (f7 (kd P "__module__" 499 (.str "seamarks.errors" 232)::kd P "__firstlineno__" 503 (.int 55 502)::kd P "__static_attributes__" 504 (.ref 248)::kd P "__doc__" 505 .none::[])) 2,f7 []⟩) ::
 (nat_lit 268,⟨.type "dict",Ih,.dict (f7 (kd P "__module__" 515 (.str "seamarks.errors" 232)::kd P "__firstlineno__" 519 (.int 57 518)::kd P "__init__" 527 (.ref 266)::kd P "__static_attributes__" 529 (.ref 267)::kd P "__doc__" 530 .none::[])) 2,f7 []⟩) ::
 (nat_lit 272,⟨.type "dict",Ih,.dict (f7 (kd P "marks" 535 (.int 20 536)::kd P "banks" 537 (.int 8 538)::kd P "runs" 539 (.int 12 540)::kd P "notes" 541 (.int 24 542)::[])) 4,f7 []⟩) ::
 (nat_lit 437,⟨.type "dict",Ih,.dict (f7 (kd P "mark" 760 (.ref 366)::kd P "move" 761 (.ref 373)::kd P "unmark" 762 (.ref 380)::kd P "bank" 763 (.ref 387)::kd P "level" 764 (.ref 394)::kd P "sail" 765 (.ref 401)::kd P "right" 766 (.ref 408)::kd P "bearing" 767 (.ref 422)::kd P "range" 768 (.ref 429)::kd P "strike" 769 (.ref 436)::[])) 10,f7 []⟩) ::
 (nat_lit 606,⟨.type "dict",Ih,.dict (f7 (kd P "__module__" 798 (.str "seamarks.book" 789)::kd P "__firstlineno__" 802 (.int 188 801)::kd P "__init__" 809 (.ref 458)::kd P "mark" 819 (.ref 465)::kd P "move" 829 (.ref 472)::kd P "unmark" 837 (.ref 479)::kd P "bank" 846 (.ref 486)::kd P "level" 854 (.ref 493)::kd P "sail" 863 (.ref 500)::kd P "right" 873 (.ref 507)::kd P "bearing" 884 (.ref 514)::kd P "range_note" 894 (.ref 521)::kd P "strike" 902 (.ref 528)::kd P "deed" 912 (.ref 535)::kd P "step" 922 (.ref 542)::kd P "undo" 929 (.ref 549)::kd P "redo" 936 (.ref 556)::kd P "deeds" 942 (.ref 561)::kd P "undone" 948 (.ref 566)::kd P "twin" 955 (.ref 573)::kd P "marks" 961 (.ref 578)::kd P "banks" 968 (.ref 585)::kd P "runs" 974 (.ref 590)::kd P "notes" 981 (.ref 597)::kd P "coming" 988 (.ref 604)::kd P "__static_attributes__" 992 (.ref 605)::kd P "__dict__" 994 (.ref 608)::kd P "__weakref__" 996 (.ref 609)::kd P "__doc__" 997 .none::[])) 4,f7 []⟩)::[]
noncomputable abbrev KF(P:B5):b7:=(nat_lit 3,kNs P)::KG P
noncomputable def KC:b7 :=
 (nat_lit 27,kq "turn" 196 5 2 22 (.ref 23) .none (.ref 24) (.ref 25) (.ref 26) 201 202) ::
 (nat_lit 28,kg "turn" pM "seamarks.sides" 194 27) ::
 (nat_lit 34,kq "stretch_way" 206 8 2 29 (.ref 30) .none (.ref 31) (.ref 32) (.ref 33) 211 212) ::
 (nat_lit 35,kg "stretch_way" uF "seamarks.banks" 204 34) ::
 (nat_lit 41,kq "all_left_of" 214 10 2 36 (.ref 37) .none (.ref 38) (.ref 39) (.ref 40) 223 224) ::
 (nat_lit 42,kg "all_left_of" uM "seamarks.banks" 204 41) ::
 (nat_lit 46,kq "is_bank" 226 18 1 43 (.ref 44) .none .none .none (.ref 45) 229 230) ::
 (nat_lit 47,kg "is_bank" rZ "seamarks.banks" 204 46) ::
 (nat_lit 57,(@PySem.Obj.mk (.type "type") Ih (@PySem.Data.cls (@PySem.ClassData.mk "MarkError" ((.type "ValueError")::[]) ((.ref 57)::((.type "ValueError")::((.type "Exception")::((.type "BaseException")::((.type "object")::[]))))) 56 "MarkError" Ii [] ((.ref 70)::((.ref 82)::((.ref 94)::((.ref 106)::((.ref 118)::((.ref 130)::((.ref 142)::((.ref 154)::((.ref 166)::((.ref 178)::((.ref 190)::((.ref 202)::((.ref 214)::((.ref 226)::((.ref 238)::((.ref 250)::((.ref 269)::[]))))))))))))))))) Ij Ih Ij)) (f7 ((Ig (.ref 48))::(Ih::((Ig (.str "MarkError" 234))::((Ig (.str "MarkError" 242))::((Ig (.builtin "ValueError.__new__"))::((Ig (.bool Ii))::[]))))))))) ::
 (nat_lit 70,(@PySem.Obj.mk (.type "type") Ih (@PySem.Data.cls (@PySem.ClassData.mk "BadName" ((.ref 57)::[]) ((.ref 70)::((.ref 57)::((.type "ValueError")::((.type "Exception")::((.type "BaseException")::((.type "object")::[])))))) 69 "BadName" Ii [] [] Ij Ih Ij)) (f7 ((Ig (.ref 61))::(Ih::((Ig (.str "BadName" 252))::((Ig (.str "BadName" 260))::((Ig (.builtin "ValueError.__new__"))::((Ig (.bool Ii))::[]))))))))) ::
 (nat_lit 82,(@PySem.Obj.mk (.type "type") Ih (@PySem.Data.cls (@PySem.ClassData.mk "Taken" ((.ref 57)::[]) ((.ref 82)::((.ref 57)::((.type "ValueError")::((.type "Exception")::((.type "BaseException")::((.type "object")::[])))))) 81 "Taken" Ii [] [] Ij Ih Ij)) (f7 ((Ig (.ref 73))::(Ih::((Ig (.str "Taken" 268))::((Ig (.str "Taken" 276))::((Ig (.builtin "ValueError.__new__"))::((Ig (.bool Ii))::[]))))))))) ::
 (nat_lit 94,(@PySem.Obj.mk (.type "type") Ih (@PySem.Data.cls (@PySem.ClassData.mk "BadPlace" ((.ref 57)::[]) ((.ref 94)::((.ref 57)::((.type "ValueError")::((.type "Exception")::((.type "BaseException")::((.type "object")::[])))))) 93 "BadPlace" Ii [] [] Ij Ih Ij)) (f7 ((Ig (.ref 85))::(Ih::((Ig (.str "BadPlace" 284))::((Ig (.str "BadPlace" 292))::((Ig (.builtin "ValueError.__new__"))::((Ig (.bool Ii))::[]))))))))) ::
 (nat_lit 106,(@PySem.Obj.mk (.type "type") Ih (@PySem.Data.cls (@PySem.ClassData.mk "Full" ((.ref 57)::[]) ((.ref 106)::((.ref 57)::((.type "ValueError")::((.type "Exception")::((.type "BaseException")::((.type "object")::[])))))) 105 "Full" Ii [] [] Ij Ih Ij)) (f7 ((Ig (.ref 97))::(Ih::((Ig (.str "Full" 300))::((Ig (.str "Full" 308))::((Ig (.builtin "ValueError.__new__"))::((Ig (.bool Ii))::[]))))))))) ::
 (nat_lit 118,(@PySem.Obj.mk (.type "type") Ih (@PySem.Data.cls (@PySem.ClassData.mk "NoMark" ((.ref 57)::[]) ((.ref 118)::((.ref 57)::((.type "ValueError")::((.type "Exception")::((.type "BaseException")::((.type "object")::[])))))) 117 "NoMark" Ii [] [] Ij Ih Ij)) (f7 ((Ig (.ref 109))::(Ih::((Ig (.str "NoMark" 316))::((Ig (.str "NoMark" 324))::((Ig (.builtin "ValueError.__new__"))::((Ig (.bool Ii))::[]))))))))) ::
 (nat_lit 130,(@PySem.Obj.mk (.type "type") Ih (@PySem.Data.cls (@PySem.ClassData.mk "Same" ((.ref 57)::[]) ((.ref 130)::((.ref 57)::((.type "ValueError")::((.type "Exception")::((.type "BaseException")::((.type "object")::[])))))) 129 "Same" Ii [] [] Ij Ih Ij)) (f7 ((Ig (.ref 121))::(Ih::((Ig (.str "Same" 332))::((Ig (.str "Same" 340))::((Ig (.builtin "ValueError.__new__"))::((Ig (.bool Ii))::[]))))))))) ::
 (nat_lit 142,(@PySem.Obj.mk (.type "type") Ih (@PySem.Data.cls (@PySem.ClassData.mk "Needed" ((.ref 57)::[]) ((.ref 142)::((.ref 57)::((.type "ValueError")::((.type "Exception")::((.type "BaseException")::((.type "object")::[])))))) 141 "Needed" Ii [] [] Ij Ih Ij)) (f7 ((Ig (.ref 133))::(Ih::((Ig (.str "Needed" 348))::((Ig (.str "Needed" 356))::((Ig (.builtin "ValueError.__new__"))::((Ig (.bool Ii))::[]))))))))) ::
 (nat_lit 154,(@PySem.Obj.mk (.type "type") Ih (@PySem.Data.cls (@PySem.ClassData.mk "BadBank" ((.ref 57)::[]) ((.ref 154)::((.ref 57)::((.type "ValueError")::((.type "Exception")::((.type "BaseException")::((.type "object")::[])))))) 153 "BadBank" Ii [] [] Ij Ih Ij)) (f7 ((Ig (.ref 145))::(Ih::((Ig (.str "BadBank" 364))::((Ig (.str "BadBank" 372))::((Ig (.builtin "ValueError.__new__"))::((Ig (.bool Ii))::[]))))))))) ::
 (nat_lit 166,(@PySem.Obj.mk (.type "type") Ih (@PySem.Data.cls (@PySem.ClassData.mk "NoBank" ((.ref 57)::[]) ((.ref 166)::((.ref 57)::((.type "ValueError")::((.type "Exception")::((.type "BaseException")::((.type "object")::[])))))) 165 "NoBank" Ii [] [] Ij Ih Ij)) (f7 ((Ig (.ref 157))::(Ih::((Ig (.str "NoBank" 380))::((Ig (.str "NoBank" 388))::((Ig (.builtin "ValueError.__new__"))::((Ig (.bool Ii))::[]))))))))) ::
 (nat_lit 178,(@PySem.Obj.mk (.type "type") Ih (@PySem.Data.cls (@PySem.ClassData.mk "BadRun" ((.ref 57)::[]) ((.ref 178)::((.ref 57)::((.type "ValueError")::((.type "Exception")::((.type "BaseException")::((.type "object")::[])))))) 177 "BadRun" Ii [] [] Ij Ih Ij)) (f7 ((Ig (.ref 169))::(Ih::((Ig (.str "BadRun" 396))::((Ig (.str "BadRun" 404))::((Ig (.builtin "ValueError.__new__"))::((Ig (.bool Ii))::[]))))))))) ::
 (nat_lit 190,(@PySem.Obj.mk (.type "type") Ih (@PySem.Data.cls (@PySem.ClassData.mk "NoRun" ((.ref 57)::[]) ((.ref 190)::((.ref 57)::((.type "ValueError")::((.type "Exception")::((.type "BaseException")::((.type "object")::[])))))) 189 "NoRun" Ii [] [] Ij Ih Ij)) (f7 ((Ig (.ref 181))::(Ih::((Ig (.str "NoRun" 412))::((Ig (.str "NoRun" 420))::((Ig (.builtin "ValueError.__new__"))::((Ig (.bool Ii))::[]))))))))) ::
 (nat_lit 202,(@PySem.Obj.mk (.type "type") Ih (@PySem.Data.cls (@PySem.ClassData.mk "NoMoment" ((.ref 57)::[]) ((.ref 202)::((.ref 57)::((.type "ValueError")::((.type "Exception")::((.type "BaseException")::((.type "object")::[])))))) 201 "NoMoment" Ii [] [] Ij Ih Ij)) (f7 ((Ig (.ref 193))::(Ih::((Ig (.str "NoMoment" 428))::((Ig (.str "NoMoment" 436))::((Ig (.builtin "ValueError.__new__"))::((Ig (.bool Ii))::[]))))))))) ::
 (nat_lit 214,(@PySem.Obj.mk (.type "type") Ih (@PySem.Data.cls (@PySem.ClassData.mk "BadWay" ((.ref 57)::[]) ((.ref 214)::((.ref 57)::((.type "ValueError")::((.type "Exception")::((.type "BaseException")::((.type "object")::[])))))) 213 "BadWay" Ii [] [] Ij Ih Ij)) (f7 ((Ig (.ref 205))::(Ih::((Ig (.str "BadWay" 444))::((Ig (.str "BadWay" 452))::((Ig (.builtin "ValueError.__new__"))::((Ig (.bool Ii))::[]))))))))) ::
 (nat_lit 226,(@PySem.Obj.mk (.type "type") Ih (@PySem.Data.cls (@PySem.ClassData.mk "BadTurn" ((.ref 57)::[]) ((.ref 226)::((.ref 57)::((.type "ValueError")::((.type "Exception")::((.type "BaseException")::((.type "object")::[])))))) 225 "BadTurn" Ii [] [] Ij Ih Ij)) (f7 ((Ig (.ref 217))::(Ih::((Ig (.str "BadTurn" 460))::((Ig (.str "BadTurn" 468))::((Ig (.builtin "ValueError.__new__"))::((Ig (.bool Ii))::[]))))))))) ::
 (nat_lit 238,(@PySem.Obj.mk (.type "type") Ih (@PySem.Data.cls (@PySem.ClassData.mk "NoNote" ((.ref 57)::[]) ((.ref 238)::((.ref 57)::((.type "ValueError")::((.type "Exception")::((.type "BaseException")::((.type "object")::[])))))) 237 "NoNote" Ii [] [] Ij Ih Ij)) (f7 ((Ig (.ref 229))::(Ih::((Ig (.str "NoNote" 476))::((Ig (.str "NoNote" 484))::((Ig (.builtin "ValueError.__new__"))::((Ig (.bool Ii))::[]))))))))) ::
 (nat_lit 250,(@PySem.Obj.mk (.type "type") Ih (@PySem.Data.cls (@PySem.ClassData.mk "NothingLeft" ((.ref 57)::[]) ((.ref 250)::((.ref 57)::((.type "ValueError")::((.type "Exception")::((.type "BaseException")::((.type "object")::[])))))) 249 "NothingLeft" Ii [] [] Ij Ih Ij)) (f7 ((Ig (.ref 241))::(Ih::((Ig (.str "NothingLeft" 492))::((Ig (.str "NothingLeft" 500))::((Ig (.builtin "ValueError.__new__"))::((Ig (.bool Ii))::[]))))))))) ::
 (nat_lit 269,(@PySem.Obj.mk (.type "type") Ih (@PySem.Data.cls (@PySem.ClassData.mk "BadRow" ((.ref 57)::[]) ((.ref 269)::((.ref 57)::((.type "ValueError")::((.type "Exception")::((.type "BaseException")::((.type "object")::[])))))) 268 "BadRow" Ii [] [] Ij Ih Ij)) (f7 ((Ig (.ref 253))::(Ih::((Ig (.str "BadRow" 508))::((Ig (.str "BadRow" 516))::((Ig (.builtin "ValueError.__new__"))::((Ig (.bool Ii))::[]))))))))) ::
 (nat_lit 278,kq "nothing_yet" 554 67 0 273 (.ref 274) .none (.ref 275) (.ref 276) (.ref 277) 557 558) ::
 (nat_lit 279,kg "nothing_yet" uJ "seamarks.deeds" 533 278) ::
 (nat_lit 285,kq "changed" 560 69 4 280 (.ref 281) .none (.ref 282) (.ref 283) (.ref 284) 568 569) ::
 (nat_lit 286,kg "changed" qI "seamarks.deeds" 533 285) ::
 (nat_lit 292,kq "without" 571 74 3 287 (.ref 288) .none (.ref 289) (.ref 290) (.ref 291) 578 579) ::
 (nat_lit 293,kg "without" qD "seamarks.deeds" 533 292) ::
 (nat_lit 297,kq "within" 581 79 2 294 (.ref 295) .none .none .none (.ref 296) 584 585) ::
 (nat_lit 298,kg "within" yi "seamarks.deeds" 533 297) ::
 (nat_lit 302,kq "check_name" 587 81 1 299 (.ref 300) .none .none .none (.ref 301) 590 591) ::
 (nat_lit 303,kg "check_name" vI "seamarks.deeds" 533 302) ::
 (nat_lit 309,kq "check_free" 593 84 3 304 (.ref 305) .none (.ref 306) (.ref 307) (.ref 308) 599 600) ::
 (nat_lit 310,kg "check_free" vE "seamarks.deeds" 533 309) ::
 (nat_lit 316,kq "check_place" 602 87 1 311 (.ref 312) .none (.ref 313) (.ref 314) (.ref 315) 606 607) ::
 (nat_lit 317,kg "check_place" uT "seamarks.deeds" 533 316) ::
 (nat_lit 323,kq "check_run" 609 90 1 318 (.ref 319) .none (.ref 320) (.ref 321) (.ref 322) 613 614) ::
 (nat_lit 324,kg "check_run" tO "seamarks.deeds" 533 323) ::
 (nat_lit 330,kq "check_room" 616 93 2 325 (.ref 326) .none (.ref 327) (.ref 328) (.ref 329) 621 622) ::
 (nat_lit 331,kg "check_room" vJ "seamarks.deeds" 533 330) ::
 (nat_lit 337,kq "check_mark" 624 96 2 332 (.ref 333) .none (.ref 334) (.ref 335) (.ref 336) 629 630) ::
 (nat_lit 338,kg "check_mark" vH "seamarks.deeds" 533 337) ::
 (nat_lit 344,kq "check_moment" 632 99 2 339 (.ref 340) .none (.ref 341) (.ref 342) (.ref 343) 637 638) ::
 (nat_lit 345,kg "check_moment" wQ "seamarks.deeds" 533 344) ::
 (nat_lit 351,kq "check_way" 640 102 1 346 (.ref 347) .none (.ref 348) (.ref 349) (.ref 350) 644 645) ::
 (nat_lit 352,kg "check_way" tN "seamarks.deeds" 533 351) ::
 (nat_lit 358,kq "check_apart" 647 105 3 353 (.ref 354) .none (.ref 355) (.ref 356) (.ref 357) 653 654) ::
 (nat_lit 359,kg "check_apart" uE "seamarks.deeds" 533 358) ::
 (nat_lit 365,kq "after_mark" 656 108 2 360 (.ref 361) .none (.ref 362) (.ref 363) (.ref 364) 663 664) ::
 (nat_lit 366,kg "after_mark" vC "seamarks.deeds" 533 365) ::
 (nat_lit 372,kq "after_move" 666 116 2 367 (.ref 368) .none (.ref 369) (.ref 370) (.ref 371) 674 675) ::
 (nat_lit 373,kg "after_move" vD "seamarks.deeds" 533 372) ::
 (nat_lit 379,kq "after_unmark" 677 125 2 374 (.ref 375) .none (.ref 376) (.ref 377) (.ref 378) 684 685) ::
 (nat_lit 380,kg "after_unmark" wR "seamarks.deeds" 533 379) ::
 (nat_lit 386,kq "after_bank" 687 132 2 381 (.ref 382) .none (.ref 383) (.ref 384) (.ref 385) 695 696) ::
 (nat_lit 387,kg "after_bank" vK "seamarks.deeds" 533 386) ::
 (nat_lit 393,kq "after_level" 698 143 2 388 (.ref 389) .none (.ref 390) (.ref 391) (.ref 392) 704 705) ::
 (nat_lit 394,kg "after_level" uI "seamarks.deeds" 533 393) ::
 (nat_lit 400,kq "after_sail" 707 148 2 395 (.ref 396) .none (.ref 397) (.ref 398) (.ref 399) 713 714) ::
 (nat_lit 401,kg "after_sail" vA "seamarks.deeds" 533 400) ::
 (nat_lit 407,kq "after_right" 716 153 2 402 (.ref 403) .none (.ref 404) (.ref 405) (.ref 406) 723 724) ::
 (nat_lit 408,kg "after_right" uQ "seamarks.deeds" 533 407) ::
 (nat_lit 414,kq "after_note" 726 160 2 409 (.ref 410) .none (.ref 411) (.ref 412) (.ref 413) 732 733) ::
 (nat_lit 415,kg "after_note" vG "seamarks.deeds" 533 414) ::
 (nat_lit 421,kq "after_bearing" 735 165 2 416 (.ref 417) .none (.ref 418) (.ref 419) (.ref 420) 740 741) ::
 (nat_lit 422,kg "after_bearing" wF "seamarks.deeds" 533 421) ::
 (nat_lit 428,kq "after_range" 743 173 2 423 (.ref 424) .none (.ref 425) (.ref 426) (.ref 427) 748 749) ::
 (nat_lit 429,kg "after_range" uC "seamarks.deeds" 533 428) ::
 (nat_lit 435,kq "after_strike" 751 179 2 430 (.ref 431) .none (.ref 432) (.ref 433) (.ref 434) 757 758) ::
 (nat_lit 436,kg "after_strike" wP "seamarks.deeds" 533 435) ::
 (nat_lit 443,kq "after" 781 185 2 438 (.ref 439) .none (.ref 440) (.ref 441) (.ref 442) 786 787) ::
 (nat_lit 444,kg "after" wx "seamarks.deeds" 533 443) ::
 (nat_lit 457,kc ((.str "__init__" 803)::((.str "Book.__init__" 804)::((.str "/claim/cut.py" 805)::((.int 190 0)::((.int 1 0)::((.int 0 0)::((.int 0 0)::((.int 3 0)::((.ref 452)::((.bool Ii)::((.int 181 0)::((.ref 453)::(.none::((.ref 454)::((.ref 455)::((.ref 456)::((.int 807 0)::((.int 190 0)::((.str "/claim/cut.py" 808)::[])))))))))))))))))))) ::
 (nat_lit 458,kf2 "__init__" "Book.__init__" pA .none .none (.str "seamarks.book" 789) (.ref 457) .none) ::
 (nat_lit 534,kc ((.str "deed" 903)::((.str "Book.deed" 904)::((.str "/claim/cut.py" 905)::((.int 225 0)::((.int 2 0)::((.int 0 0)::((.int 0 0)::((.int 3 0)::((.ref 529)::((.bool Ii)::((.int 181 0)::((.ref 530)::(.none::((.ref 531)::((.ref 532)::((.ref 533)::((.int 910 0)::((.int 225 0)::((.str "/claim/cut.py" 911)::[])))))))))))))))))))) ::
 (nat_lit 535,kf2 "deed" "Book.deed" pJ .none .none (.str "seamarks.book" 789) (.ref 534) .none) ::
 (nat_lit 541,kc ((.str "step" 913)::((.str "Book.step" 914)::((.str "/claim/cut.py" 915)::((.int 233 0)::((.int 3 0)::((.int 0 0)::((.int 0 0)::((.int 3 0)::((.ref 536)::((.bool Ii)::((.int 181 0)::((.ref 537)::(.none::((.ref 538)::((.ref 539)::((.ref 540)::((.int 920 0)::((.int 233 0)::((.str "/claim/cut.py" 921)::[])))))))))))))))))))) ::
 (nat_lit 542,kf2 "step" "Book.step" pf .none .none (.str "seamarks.book" 789) (.ref 541) .none) ::
 (nat_lit 548,kc ((.str "undo" 923)::((.str "Book.undo" 924)::((.str "/claim/cut.py" 925)::((.int 239 0)::((.int 1 0)::((.int 0 0)::((.int 0 0)::((.int 3 0)::((.ref 543)::((.bool Ii)::((.int 181 0)::((.ref 544)::(.none::((.ref 545)::((.ref 546)::((.ref 547)::((.int 927 0)::((.int 239 0)::((.str "/claim/cut.py" 928)::[])))))))))))))))))))) ::
 (nat_lit 549,kf2 "undo" "Book.undo" pj .none .none (.str "seamarks.book" 789) (.ref 548) .none) ::
 (nat_lit 555,kc ((.str "redo" 930)::((.str "Book.redo" 931)::((.str "/claim/cut.py" 932)::((.int 244 0)::((.int 1 0)::((.int 0 0)::((.int 0 0)::((.int 3 0)::((.ref 550)::((.bool Ii)::((.int 181 0)::((.ref 551)::(.none::((.ref 552)::((.ref 553)::((.ref 554)::((.int 934 0)::((.int 244 0)::((.str "/claim/cut.py" 935)::[])))))))))))))))))))) ::
 (nat_lit 556,kf2 "redo" "Book.redo" pE .none .none (.str "seamarks.book" 789) (.ref 555) .none) ::
 (nat_lit 560,kc ((.str "deeds" 937)::((.str "Book.deeds" 938)::((.str "/claim/cut.py" 939)::((.int 249 0)::((.int 1 0)::((.int 0 0)::((.int 0 0)::((.int 3 0)::((.ref 557)::((.bool Ii)::((.int 181 0)::((.ref 558)::(.none::(.none::(.none::((.ref 559)::((.int 940 0)::((.int 249 0)::((.str "/claim/cut.py" 941)::[])))))))))))))))))))) ::
 (nat_lit 561,kf2 "deeds" "Book.deeds" vc .none .none (.str "seamarks.book" 789) (.ref 560) .none) ::
 (nat_lit 565,kc ((.str "undone" 943)::((.str "Book.undone" 944)::((.str "/claim/cut.py" 945)::((.int 252 0)::((.int 1 0)::((.int 0 0)::((.int 0 0)::((.int 3 0)::((.ref 562)::((.bool Ii)::((.int 181 0)::((.ref 563)::(.none::(.none::(.none::((.ref 564)::((.int 946 0)::((.int 252 0)::((.str "/claim/cut.py" 947)::[])))))))))))))))))))) ::
 (nat_lit 566,kf2 "undone" "Book.undone" ym .none .none (.str "seamarks.book" 789) (.ref 565) .none) ::
 (nat_lit 577,kc ((.str "marks" 956)::((.str "Book.marks" 957)::((.str "/claim/cut.py" 958)::((.int 258 0)::((.int 1 0)::((.int 0 0)::((.int 0 0)::((.int 3 0)::((.ref 574)::((.bool Ii)::((.int 181 0)::((.ref 575)::(.none::(.none::(.none::((.ref 576)::((.int 959 0)::((.int 258 0)::((.str "/claim/cut.py" 960)::[])))))))))))))))))))) ::
 (nat_lit 578,kf2 "marks" "Book.marks" wy .none .none (.str "seamarks.book" 789) (.ref 577) .none) ::
 (nat_lit 584,kc ((.str "banks" 962)::((.str "Book.banks" 963)::((.str "/claim/cut.py" 964)::((.int 262 0)::((.int 1 0)::((.int 0 0)::((.int 0 0)::((.int 3 0)::((.ref 579)::((.bool Ii)::((.int 181 0)::((.ref 580)::(.none::((.ref 581)::((.ref 582)::((.ref 583)::((.int 966 0)::((.int 262 0)::((.str "/claim/cut.py" 967)::[])))))))))))))))))))) ::
 (nat_lit 585,kf2 "banks" "Book.banks" ve .none .none (.str "seamarks.book" 789) (.ref 584) .none) ::
 (nat_lit 589,kc ((.str "runs" 969)::((.str "Book.runs" 970)::((.str "/claim/cut.py" 971)::((.int 265 0)::((.int 1 0)::((.int 0 0)::((.int 0 0)::((.int 3 0)::((.ref 586)::((.bool Ii)::((.int 181 0)::((.ref 587)::(.none::(.none::(.none::((.ref 588)::((.int 972 0)::((.int 265 0)::((.str "/claim/cut.py" 973)::[])))))))))))))))))))) ::
 (nat_lit 590,kf2 "runs" "Book.runs" pQ .none .none (.str "seamarks.book" 789) (.ref 589) .none) ::
 (nat_lit 596,kc ((.str "notes" 975)::((.str "Book.notes" 976)::((.str "/claim/cut.py" 977)::((.int 269 0)::((.int 1 0)::((.int 0 0)::((.int 0 0)::((.int 3 0)::((.ref 591)::((.bool Ii)::((.int 181 0)::((.ref 592)::(.none::((.ref 593)::((.ref 594)::((.ref 595)::((.int 979 0)::((.int 269 0)::((.str "/claim/cut.py" 980)::[])))))))))))))))))))) ::
 (nat_lit 597,kf2 "notes" "Book.notes" wm .none .none (.str "seamarks.book" 789) (.ref 596) .none) ::
 (nat_lit 603,kc ((.str "coming" 982)::((.str "Book.coming" 983)::((.str "/claim/cut.py" 984)::((.int 272 0)::((.int 1 0)::((.int 0 0)::((.int 0 0)::((.int 3 0)::((.ref 598)::((.bool Ii)::((.int 181 0)::((.ref 599)::(.none::((.ref 600)::((.ref 601)::((.ref 602)::((.int 986 0)::((.int 272 0)::((.str "/claim/cut.py" 987)::[])))))))))))))))))))) ::
 (nat_lit 604,kf2 "coming" "Book.coming" yh .none .none (.str "seamarks.book" 789) (.ref 603) .none) ::
 (nat_lit 607,(@PySem.Obj.mk (.type "type") Ih (@PySem.Data.cls (@PySem.ClassData.mk "Book" ((.type "object")::[]) ((.ref 607)::((.type "object")::[])) 606 "Book" Ii [] [] Ij Ih Ij)) (f7 (Ih::(Ih::((Ig (.str "Book" 791))::((Ig (.str "Book" 799))::((Ig (.builtin "object.__new__"))::((Ig (.bool Ii))::[]))))))))) ::
 (nat_lit 617,kq "_law_power" 1002 275 1 612 (.ref 613) .none (.ref 614) (.ref 615) (.ref 616) 1006 1007) ::
 (nat_lit 618,kg "_law_power" wo "law_seamarks_k37_whole_undone_and_redone" 1000 617) ::
 (nat_lit 624,kq "_law_draws" 1009 277 2 619 (.ref 620) .none (.ref 621) (.ref 622) (.ref 623) 1018 1019) ::
 (nat_lit 625,kg "_law_draws" vy "law_seamarks_k37_whole_undone_and_redone" 1000 624) ::
 (nat_lit 629,kq "_law_names" 1021 293 2 626 (.ref 627) .none .none .none (.ref 628) 1024 1025) ::
 (nat_lit 630,kg "_law_names" ww "law_seamarks_k37_whole_undone_and_redone" 1000 629) ::
 (nat_lit 636,kq "_law_new" 1027 308 0 631 (.ref 632) .none (.ref 633) (.ref 634) (.ref 635) 1030 1031) ::
 (nat_lit 637,kg "_law_new" lD "law_seamarks_k37_whole_undone_and_redone" 1000 636) ::
 (nat_lit 641,kq "_law_same" 1033 310 2 638 (.ref 639) .none .none .none (.ref 640) 1036 1037) ::
 (nat_lit 642,kg "_law_same" wn "law_seamarks_k37_whole_undone_and_redone" 1000 641) ::
 (nat_lit 646,kq "_law_refused" 1039 318 1 643 (.ref 644) .none .none .none (.ref 645) 1042 1043) ::
 (nat_lit 647,kg "_law_refused" qM "law_seamarks_k37_whole_undone_and_redone" 1000 646) ::
 (nat_lit 653,kq "_law_went" 1045 328 2 648 (.ref 649) .none (.ref 650) (.ref 651) (.ref 652) 1051 1052) ::
 (nat_lit 654,kg "_law_went" ph "law_seamarks_k37_whole_undone_and_redone" 1000 653) ::
 (nat_lit 660,kq "_law_strange" 1054 333 1 655 (.ref 656) .none (.ref 657) (.ref 658) (.ref 659) 1060 1061) ::
 (nat_lit 661,kg "_law_strange" qF "law_seamarks_k37_whole_undone_and_redone" 1000 660) ::
 (nat_lit 667,kq "_law_pick" 1063 339 2 662 (.ref 663) .none (.ref 664) (.ref 665) (.ref 666) 1068 1069) ::
 (nat_lit 668,kg "_law_pick" pw "law_seamarks_k37_whole_undone_and_redone" 1000 667) ::
 (nat_lit 674,kq "_law_far_number" 1071 343 1 669 (.ref 670) .none (.ref 671) (.ref 672) (.ref 673) 1075 1076) ::
 (nat_lit 675,kg "_law_far_number" vL "law_seamarks_k37_whole_undone_and_redone" 1000 674) ::
 (nat_lit 681,kq "_law_way" 1078 349 3 676 (.ref 677) .none (.ref 678) (.ref 679) (.ref 680) 1086 1087) ::
 (nat_lit 682,kg "_law_way" lQ "law_seamarks_k37_whole_undone_and_redone" 1000 681) ::
 (nat_lit 688,kq "_law_turned" 1089 355 2 683 (.ref 684) .none (.ref 685) (.ref 686) (.ref 687) 1094 1095) ::
 (nat_lit 689,kg "_law_turned" yl "law_seamarks_k37_whole_undone_and_redone" 1000 688) ::
 (nat_lit 695,kq "_law_left_pair" 1097 357 2 690 (.ref 691) .none (.ref 692) (.ref 693) (.ref 694) 1104 1105) ::
 (nat_lit 696,kg "_law_left_pair" tP "law_seamarks_k37_whole_undone_and_redone" 1000 695) ::
 (nat_lit 702,kq "_law_bearing_deed" 1107 367 3 697 (.ref 698) .none (.ref 699) (.ref 700) (.ref 701) 1119 1120) ::
 (nat_lit 703,kg "_law_bearing_deed" wO "law_seamarks_k37_whole_undone_and_redone" 1000 702) ::
 (nat_lit 709,kq "_law_deed" 1122 380 3 704 (.ref 705) .none (.ref 706) (.ref 707) (.ref 708) 1132 1133) ::
 (nat_lit 710,kg "_law_deed" pK "law_seamarks_k37_whole_undone_and_redone" 1000 709) ::
 (nat_lit 714,kq "_law_is_name" 1135 403 1 711 (.ref 712) .none .none .none (.ref 713) 1138 1139) ::
 (nat_lit 715,kg "_law_is_name" qL "law_seamarks_k37_whole_undone_and_redone" 1000 714) ::
 (nat_lit 721,kq "_law_near" 1141 405 2 716 (.ref 717) .none (.ref 718) (.ref 719) (.ref 720) 1146 1147) ::
 (nat_lit 722,kg "_law_near" pG "law_seamarks_k37_whole_undone_and_redone" 1000 721) ::
 (nat_lit 726,kq "_law_mark_word" 1149 407 2 723 (.ref 724) .none .none .none (.ref 725) 1152 1153) ::
 (nat_lit 727,kg "_law_mark_word" tM "law_seamarks_k37_whole_undone_and_redone" 1000 726) ::
 (nat_lit 731,kq "_law_bank_word" 1155 429 2 728 (.ref 729) .none .none .none (.ref 730) 1158 1159) ::
 (nat_lit 732,kg "_law_bank_word" tL "law_seamarks_k37_whole_undone_and_redone" 1000 731) ::
 (nat_lit 738,kq "_law_run_word" 1161 441 2 733 (.ref 734) .none (.ref 735) (.ref 736) (.ref 737) 1166 1167) ::
 (nat_lit 739,kg "_law_run_word" sW "law_seamarks_k37_whole_undone_and_redone" 1000 738) ::
 (nat_lit 745,kq "_law_note_word" 1169 449 2 740 (.ref 741) .none (.ref 742) (.ref 743) (.ref 744) 1176 1177) ::
 (nat_lit 746,kg "_law_note_word" tS "law_seamarks_k37_whole_undone_and_redone" 1000 745) ::
 (nat_lit 752,kq "_law_word" 1179 465 2 747 (.ref 748) .none (.ref 749) (.ref 750) (.ref 751) 1184 1185) ::
 (nat_lit 753,kg "_law_word" pB "law_seamarks_k37_whole_undone_and_redone" 1000 752) ::
 (nat_lit 759,kq "_law_due" 1187 473 2 754 (.ref 755) .none (.ref 756) (.ref 757) (.ref 758) 1193 1194) ::
 (nat_lit 760,kg "_law_due" kF "law_seamarks_k37_whole_undone_and_redone" 1000 759) ::
 (nat_lit 766,kq "_law_done" 1196 478 2 761 (.ref 762) .none (.ref 763) (.ref 764) (.ref 765) 1202 1203) ::
 (nat_lit 767,kg "_law_done" pO "law_seamarks_k37_whole_undone_and_redone" 1000 766) ::
 (nat_lit 773,kq "_law_after" 1205 483 2 768 (.ref 769) .none (.ref 770) (.ref 771) (.ref 772) 1211 1212) ::
 (nat_lit 774,kg "_law_after" vq "law_seamarks_k37_whole_undone_and_redone" 1000 773) ::
 (nat_lit 780,kq "_law_step" 1214 505 4 775 (.ref 776) .none (.ref 777) (.ref 778) (.ref 779) 1229 1230) ::
 (nat_lit 781,kg "_law_step" pk "law_seamarks_k37_whole_undone_and_redone" 1000 780) ::
 (nat_lit 785,kq "_law_marks_of" 1232 521 1 782 (.ref 783) .none .none .none (.ref 784) 1235 1236) ::
 (nat_lit 786,kg "_law_marks_of" rB "law_seamarks_k37_whole_undone_and_redone" 1000 785) ::
 (nat_lit 792,kq "_law_stands" 1238 523 2 787 (.ref 788) .none (.ref 789) (.ref 790) (.ref 791) 1243 1244) ::
 (nat_lit 793,kg "_law_stands" yk "law_seamarks_k37_whole_undone_and_redone" 1000 792) ::
 (nat_lit 799,kq "_law_told_so" 1246 529 2 794 (.ref 795) .none (.ref 796) (.ref 797) (.ref 798) 1254 1255) ::
 (nat_lit 800,kg "_law_told_so" qA "law_seamarks_k37_whole_undone_and_redone" 1000 799) ::
 (nat_lit 806,kq "_law_drawn_bank" 1257 534 1 801 (.ref 802) .none (.ref 803) (.ref 804) (.ref 805) 1263 1264) ::
 (nat_lit 807,kg "_law_drawn_bank" vF "law_seamarks_k37_whole_undone_and_redone" 1000 806) ::
 (nat_lit 813,kq "_law_round_enough" 1266 537 1 808 (.ref 809) .none (.ref 810) (.ref 811) (.ref 812) 1270 1271) ::
 (nat_lit 814,kg "_law_round_enough" wS "law_seamarks_k37_whole_undone_and_redone" 1000 813) ::
 (nat_lit 820,kq "law" 1273 539 1 815 (.ref 816) .none (.ref 817) (.ref 818) (.ref 819) 1289 1290) ::
 (nat_lit 821,kg "law" fk "law_seamarks_k37_whole_undone_and_redone" 1000 820)::[]
noncomputable def KK(P:B5):b7:=(nat_lit 3,kNs P)::(KG P++KC)
noncomputable def K:b7:=Classical.choose (⟨KC,rfl⟩:∃ k,k=KC)
def aF:K=KC:=Classical.choose_spec (⟨KC,rfl⟩:∃ k,k=KC)
noncomputable def kas:List Nat:=nat_lit 3::nat_lit 56::nat_lit 69::nat_lit 81::nat_lit 93::nat_lit 105::nat_lit 117::nat_lit 129::nat_lit 141::nat_lit 153::nat_lit 165::nat_lit 177::nat_lit 189::nat_lit 201::nat_lit 213::nat_lit 225::nat_lit 237::nat_lit 249::nat_lit 268::nat_lit 272::nat_lit 437::nat_lit 606::KC.map (·.1)
def kas_ok:∀ P:B5,kas=(KK P).map (·.1):=λ_=>by kernel_rfl
def VI{a b:Bool}(h:a=Ii)(k:b=Ii):(a&&b)=true:=by rw[h,k]; rfl
set_option maxHeartbeats 0 in
open PySem.W in
def said_ok:PySem.Challenge.rw_seamarks_k37_whole_undone_and_redone.wellSaid=true:=by
 unfold OpenLaw.wellSaid
 repeat' first | with_reducible apply VI | unfold OpenRow.wellSaid | unfold OpenRow.partSaid | unfold looksOpen
 all_goals decide +kernel
open PySem.W in
noncomputable abbrev lkM:=Fast.tw5923862056798008813 (Fast.tw2368527892694137696 PySem.Challenge.rw_seamarks_k37_whole_undone_and_redone).prog.main.body
open PySem.W in
noncomputable abbrev lkT(w:World)(os:OsState):=Tm Fast.tw14364793385576792824 (Fast.tw2368527892694137696 PySem.Challenge.rw_seamarks_k37_whole_undone_and_redone).prog 90000 w os
open PySem.W in
noncomputable abbrev lkS(s:SharedT):=Fast.tw4187177175401517315 qv lse lkM (λs=>xlAt qv [] s&&recOk (Fast.tw2368527892694137696 PySem.Challenge.rw_seamarks_k37_whole_undone_and_redone).records s) Ii s.abs
set_option maxHeartbeats 0 in
open PySem.W in
def WR(u:World)(os:OsState):(lkT (u.withFollow "special-get-raises" Ii) os).map (λs=>(staticsOk lkM (boot_heap (u.withFollow "special-get-raises" Ii).params) s.abs.heap&&namesBound (Fast.tw2368527892694137696 PySem.Challenge.rw_seamarks_k37_whole_undone_and_redone).prog s.abs.heap&&gensDone s.abs&&laidKept (boot_heap (u.withFollow "special-get-raises" Ii).params) s.abs.heap))=Ig true:=by kernel_rfl
set_option maxHeartbeats 0 in
open PySem.W in
def Wy(u:World)(os:OsState):(lkT (u.withFollow "special-get-raises" Ij) os).map (λs=>(staticsOk lkM (boot_heap (u.withFollow "special-get-raises" Ij).params) s.abs.heap&&namesBound (Fast.tw2368527892694137696 PySem.Challenge.rw_seamarks_k37_whole_undone_and_redone).prog s.abs.heap&&gensDone s.abs&&laidKept (boot_heap (u.withFollow "special-get-raises" Ij).params) s.abs.heap))=Ig true:=by kernel_rfl
set_option maxHeartbeats 0 in
open PySem.W in
def Ue(w:World)(os:OsState):(lkT w os).map (λs=>(staticsOk lkM (boot_heap w.params) s.abs.heap&&namesBound (Fast.tw2368527892694137696 PySem.Challenge.rw_seamarks_k37_whole_undone_and_redone).prog s.abs.heap&&gensDone s.abs&&laidKept (boot_heap w.params) s.abs.heap))=Ig true:=by
 have h:∀(b:Bool)(u:World),(λw:World=>(lkT w os).map (λs=>(staticsOk lkM (boot_heap w.params) s.abs.heap&&namesBound (Fast.tw2368527892694137696 PySem.Challenge.rw_seamarks_k37_whole_undone_and_redone).prog s.abs.heap&&gensDone s.abs&&laidKept (boot_heap w.params) s.abs.heap))=Ig Ii) (u.withFollow "special-get-raises" b):=λb u=>by cases b; rwa[Wy u os]; rwa[WR u os]
 have:=h (w.params.followText "special-get-raises") w;(rw[B6] at this;assumption)
set_option maxHeartbeats 0 in
open PySem.W in
def WA(u:n5)(os:Dn):(lkT (u.withFollow "special-get-raises" Ii) os).map (λs=>(lkS s).1)=Ig (openGood qv lse).1:=by kernel_rfl
set_option maxHeartbeats 0 in
open PySem.W in
def WO(u:n5)(os:Dn):(lkT (u.withFollow "special-get-raises" Ij) os).map (λs=>(lkS s).1)=Ig (openGood qv lse).1:=by kernel_rfl
set_option maxHeartbeats 0 in
open PySem.W in
def VM(w:n5)(os:Dn):(lkT w os).map (λs=>(lkS s).1)=Ig (openGood qv lse).1:=by
 have h:∀(b:Bool)(u:n5),(λw:n5=>(lkT w os).map (λs=>(lkS s).1)=Ig (openGood qv lse).1) (u.withFollow "special-get-raises" b):=λb u=>by cases b; rwa[WO u os]; rwa[WA u os]
 have:=h (w.params.followText "special-get-raises") w;(rw[B6] at this;assumption)
set_option maxHeartbeats 0 in
open PySem.W in
def Wi(u:n5)(os:Dn):(lkT (u.withFollow "special-get-raises" Ii) os).map (λs=>(lkS s).2)=Ig (openGood qv lse).2:=by kernel_rfl
set_option maxHeartbeats 0 in
open PySem.W in
def WP(u:n5)(os:Dn):(lkT (u.withFollow "special-get-raises" Ij) os).map (λs=>(lkS s).2)=Ig (openGood qv lse).2:=by kernel_rfl
set_option maxHeartbeats 0 in
open PySem.W in
def Tv(w:n5)(os:Dn):(lkT w os).map (λs=>(lkS s).2)=Ig (openGood qv lse).2:=by
 have h:∀(b:Bool)(u:n5),(λw:n5=>(lkT w os).map (λs=>(lkS s).2)=Ig (openGood qv lse).2) (u.withFollow "special-get-raises" b):=λb u=>by cases b; rwa[WP u os]; rwa[Wi u os]
 have:=h (w.params.followText "special-get-raises") w;(rw[B6] at this;assumption)
set_option maxHeartbeats 0 in
open PySem.W in
def Vj(u:n5)(os:Dn):(lkT (u.withFollow "special-get-raises" Ii) os).map (λs=>kas.map s.abs.heap.get?)=Ig ((KK (u.withFollow "special-get-raises" Ii).params).map λp=>Ig p.2):=by kernel_rfl
set_option maxHeartbeats 0 in
open PySem.W in
def Vi(u:n5)(os:Dn):(lkT (u.withFollow "special-get-raises" Ij) os).map (λs=>kas.map s.abs.heap.get?)=Ig ((KK (u.withFollow "special-get-raises" Ij).params).map λp=>Ig p.2):=by kernel_rfl
set_option maxHeartbeats 0 in
open PySem.W in
def UQ(w:n5)(os:Dn):(lkT w os).map (λs=>kas.map s.abs.heap.get?)=Ig ((KK w.params).map λp=>Ig p.2):=by
 have h:∀(b:Bool)(u:n5),(λw:n5=>(lkT w os).map (λs=>kas.map s.abs.heap.get?)=Ig ((KK w.params).map λp=>Ig p.2)) (u.withFollow "special-get-raises" b):=λb u=>by cases b; rwa[Vi u os]; rwa[Vj u os]
 have:=h (w.params.followText "special-get-raises") w;(rw[B6] at this;assumption)
set_option maxHeartbeats 0 in
open PySem.W in
def left_ok:LeftO PySem.Challenge.rw_seamarks_k37_whole_undone_and_redone.row.prog qv lse (λs=>xlAt qv [] s&&recOk (RowW.records (OpenRow.toRowW PySem.Challenge.rw_seamarks_k37_whole_undone_and_redone.row)) s)
  (λs=>kas.map s.heap.get?) (λw=>(KK w.params).map λp=>Ig p.2) 90000:=by
 erw[ag (boot_open (by kernel_rfl) (by decide) (λs=>by kernel_rfl)) ?a ?b ?c]
 case a =>
  rw[Du,Cd,Ca];rwa[Ue]
 case b =>
  rw[Fast.te4187177175401517315,Du,Cd,Ca];rwa[λw os=>Yz (f:=lkS) (VM w os) (Tv w os)]
 case c =>
  rw[Cd,Ca];rwa[UQ]
end Sea
-- BASE
open PySem PySem.Spec L2
open PyProof.Rows hiding St
local macro_rules | `(tactic| symm) => `(tactic| kernel_rfl)
local macro_rules | `(tactic| ac_nf) => `(tactic| decide +kernel)
def y7{c:Prop}{d:Decidable c}(h:¬c){α:Sort _}{a b:α}:ite c a b=b:=if_neg h
def y9{c:Prop}{d:Decidable c}(h:c){α:Sort _}{a b:α}:ite c a b=a:=if_pos h
def q0{p:Prop}[Decidable p](h:p):decide p=true:=decide_eq_true h
def x3{p:Prop}[Decidable p](h:¬p):decide p=false:=decide_eq_false h
def x4{a b:Prop}(h:a)(n:¬a):b:=absurd h n
def x5{α:Type _}[BEq α][LawfulBEq α]{a b:α}:(a==b)=Ij↔a≠b:=beq_eq_false_iff_ne
namespace L2

abbrev Key:=Sum Int g8
def gP:Key->c7->Bool
 | .inl k,v=>HN k v
 | .inr x,v=>G9 x v
def keyH(w:n5):Key->Int
 | .inl k=>hashInt k
 | .inr x=>hashStr w x
def yQ:∀{k:Key}{v:c7},gP k v=Ii->(∃ i t,k=BQ i/\v=BE i t)\/(∃ x t,k=BR x/\v=AN x t)
 | .inl i,v,h=>by
  obtain⟨t,e⟩:=Value.isInt_shape (k:=i) (v:=v) h;rwa[.inl ⟨i,t,rfl,e⟩]
 | .inr x,v,h=>by
  obtain⟨t,e⟩:=Value.isStrOf_shape (x:=x) (v:=v) h;rwa[.inr ⟨x,t,rfl,e⟩]
def ah(i:Int)(t:Ia):gP (.inl i) (.int i t)=true:=by simp[gP,HN]
def bR(x:g8)(t:Ia):gP (.inr x) (.str x t)=true:=by simp[gP,G9]
def Ty(a b:Int):decide ((BQ a:Key)=BQ b)=(a == b):=by
 by_cases e:a=b
 ·subst e; simp
 ·have h:¬ (BQ a:Key)=BQ b:=λq=>e (Sum.inl.inj q);rw[x3 h];exact(x5.mpr e).symm
def Ud(a b:g8):decide ((BR a:Key)=BR b)=decide (a=b):=by
 by_cases e:a=b
 ·subst e; simp
 ·have h:¬ (BR a:Key)=BR b:=λq=>e (Gk q);rw[x3 h,x3 e]
def UH(a:Int)(b:g8):decide ((BQ a:Key)=BR b)=false:=x3 (λq=>nomatch q)
def VZ(a:g8)(b:Int):decide ((BR a:Key)=BQ b)=false:=x3 (λq=>nomatch q)

def yK(prog:j9)(w:n5):PySem.KeyKind prog w Key where
 is:=gP
 hash:=keyH w
 inj:=λv a b ha hb=>by
  rcases yQ ha with ⟨i,t,rfl,rfl⟩ | ⟨x,t,rfl,rfl⟩
  ·rcases yQ hb with ⟨j,u,rfl,e⟩ | ⟨y,u,rfl,e⟩
   ·injection e with e1 _; rw[e1]
   ·exact nomatch e
  ·rcases yQ hb with ⟨j,u,rfl,e⟩ | ⟨y,u,rfl,e⟩
   ·exact nomatch e
   ·injection e with e1 _; rw[e1]
 byValue:=λk v h=>by
  rcases yQ h with ⟨i,t,rfl,rfl⟩ | ⟨x,t,rfl,rfl⟩ <;> rfl
 pyHash:=λhv h=>by
  rcases yQ hv with ⟨i,t,rfl,rfl⟩ | ⟨x,t,rfl,rfl⟩
  ·rwa[wpAny_pyHash_int h]
  ·rwa[wpAny_pyHash_str h]
 eqBool:=λhu hv h=>by
  rcases yQ hu with ⟨i,t,rfl,rfl⟩ | ⟨x,t,rfl,rfl⟩
  ·rcases yQ hv with ⟨j,u,rfl,rfl⟩ | ⟨y,u,rfl,rfl⟩
   ·rw[Ty] at h; rwa[FZ h]
   ·rw[UH] at h; rwa[Fk i t y u _ _ _ _ h]
  ·rcases yQ hv with ⟨j,u,rfl,rfl⟩ | ⟨y,u,rfl,rfl⟩
   ·rw[VZ] at h; rwa[Fl x t j u _ _ _ _ h]
   ·rw[Ud] at h; rwa[F0 h]
 «strs»:=λk x t v h=>by
  rcases yQ h with ⟨i,u,rfl,e⟩ | ⟨y,u,rfl,e⟩
  ·exact nomatch e
  ·injection e with e1 _
   subst e1;cases v <;> rfl

def gQ(prog:j9)(w:n5)(i:Int)(t:Ia):(yK prog w).is (.inl i) (.int i t)=true:=ah i t
def xg(prog:j9)(w:n5)(x:g8)(t:Ia):(yK prog w).is (.inr x) (.str x t)=true:=bR x t
end L2

namespace L2

inductive V where
 | non | bl (b:Bool) | int (i:Int) | str (x:g8) | byt (b:Array UInt8) | flt (b:UInt64) | ref (a:b9) | ty (n:String)
 deriving DecidableEq

def xE:V->c7->Prop
 | .non,u=>u=p8
 | .bl b,u=>u=Ef b
 | .int i,u=>∃ t,u=BE i t
 | .str x,u=>∃ t,u=AN x t
 | .byt b,u=>∃ t,u=Gm b t
 | .flt b,u=>∃ t,u=ET b t
 | .ref a,u=>u=j6 a
 | .ty n,u=>u=Gz n

abbrev yP:List V->List c7->Prop:=F1 xE
def yP.length{xs:List V}{us:List c7}(r:yP xs us):xs.length=us.length:=Fe r
def yP.get:∀{xs:List V}{us:List c7}{i:Nat}{x:V},yP xs us->xs[i]?=Ig x->∃ u,us[i]?=Ig u/\xE x u
 | _,_,_,_,.nil,e=>by simp at e
 | _,_,0,_,.cons r _,e=>by simp at e; subst e; rwa[_,U,r]
 | _,_,i+1,x,.cons _ t,e=>by
  obtain⟨u,h1,h2⟩:=yP.get (i:=i) (x:=x) t (by simpa using e);exact⟨u,by simpa using h1,h2⟩
def yP.set{x:V}{u:c7}(r:xE x u):∀{xs:List V}{us:List c7}(i:Nat),yP xs us->yP (xs.set i x) (us.set i u)
 | _,_,_,.nil=>.nil
 | _,_,0,.cons _ t=>.cons r t
 | _,_,i+1,.cons q t=>.cons q (yP.set r i t)
def yP.append:∀{xs ys:List V}{us ws:List c7},yP xs us->yP ys ws->yP (xs++ys) (us++ws)
 | _,_,_,_,.nil,s=>s
 | _,_,_,_,.cons r t,s=>.cons r (yP.append t s)
def yP.take:∀{xs:List V}{us:List c7}(n:Nat),yP xs us->yP (xs.take n) (us.take n)
 | _,_,0,_=>.nil
 | _,_,_+1,.nil=>.nil
 | _,_,n+1,.cons r t=>.cons r (yP.take n t)
def yP.drop:∀{xs:List V}{us:List c7}(n:Nat),yP xs us->yP (xs.drop n) (us.drop n)
 | _,_,0,r=>r
 | _,_,_+1,.nil=>.nil
 | _,_,n+1,.cons _ t=>yP.drop n t
def yP.none_of:∀{xs:List V}{us:List c7}{i:Nat},yP xs us->xs[i]?=Ih->us[i]?=none:=λ{xs us i} r e=>by
 have h1:=r.length;have h2:xs.length<=i:=DI.mp e;rwa[DI.mpr (by lia)]

def kH:Option V->Option c7->Prop
 | some v,Ig u=>xE v u
 | none,Ih=>True
 | _,_=>False
def KV{κ:Type} : List (κ×V)->List (κ×c7)->Prop:=F1 λ(p:κ×V) (q:κ×c7)=>p.1=q.1/\xE p.2 q.2

def kV:Key->V
 | .inl i=>.int i
 | .inr x=>.str x

inductive HO where
 | lst (xs:List V)
 | tup (xs:List V)
 | dK (kvs:List (Key×V)) | dT (kvs:List (List Key×V))
 | set (S:Int->Bool) (n:Nat)
 | ins (C dx:b9) (fs:List (g8×V))
 | own (x:b9)
 | xd (fs:List (g8×V))
 | met (f x:b9)
 | rng (lo hi:Int)
 | frz (o:AL) (u:HO)
 | tbl (ps:Array c7)
 | ext (φ:n9->Prop)

abbrev Hp:=b9->Option HO
def upd(H:Hp)(a:b9)(o:HO):Hp:=λb=>if b=a then Ig o else H b
def zA{H:Hp}{a:b9}{o:HO} : upd H a o a=Ig o:=by unfold upd; rw[y9 rfl]
def zG{H:Hp}{a b:b9}{o:HO}(h:b≠a):upd H a o b=H b:=by unfold upd; rw[y7 h]
def oA{H:Hp}{a b:b9}{o u:HO}(h:H a=Ig o)(h':H b=Ig u)(d:o≠u):a≠b:=by
 intro e; subst e; rw[h] at h'; rwa[d (p5 h')]
def zH{H:Hp}{a b:b9}{o:HO}(h:H a=Ig o)(h':H b=Ih):a≠b:=by
 intro e; subst e; rw[h] at h'; cases h'

section
variable(P:j9)(w:n5)
def xI(H:Hp)(h:n9)(a:b9):HO->Prop
 | .lst xs=>xs.length<=sizeLine/\∃(its:List c7)(n:Nat),yP xs its/\h.get? a=Ig { cls:=.type "list",data:=.seq its.toArray n }
 | .tup xs=>xs.length<=sizeLine/\∃ its:List c7,yP xs its/\Hv h a its.toArray
 | .dK kvs=>kvs.length<=sizeLine/\(a == sysModules)=Ij/\∃ vs,KV kvs vs/\h.DictOf (yK P w) a vs
 | .dT kvs=>kvs.length<=sizeLine/\(a == sysModules)=Ij/\∃ xs:List (List Key×b9×c7),
   F1 (λ(p:List Key×V) (q:List Key×b9×c7)=>p.1=q.1/\H q.2.1=Ig (.tup (p.1.map kV))/\xE p.2 q.2.2) kvs xs /\
   ∃ o es ep,h.get? a=Ig o/\o.ExactDict/\o.data=.dict es ep/\es.toList=xs.map (entryOfKey (tupleKind (yK P w)))/\(xs.map (·.1)).Nodup
 | .set S n=>h.SetOf (intKind P w) a S n
 | .ins C dx fs=>H dx=Ig (.own a)/\fs.length<=1000/\dx≠a/\h.get? a=Ig (Bo C dx) /\
   ∃ mA,h.Ns1 dx mA/\(∀ f,kH (fs.lookup f) (mA f))/\Fz mA (fs.map (·.1))
 | .own _=>∃ o,h.get? a=Ig o
 | .xd fs=>∃ mA,h.Ns1 a mA/\∀ f,kH (fs.lookup f) (mA f)
 | .rng lo hi=>∃ t u v,h.get? a=Ig { cls:=.type "range",data:=.fields #[.int lo t,.int hi u,.int 1 v] }
 | .frz o u=>h.get? a=Ig o/\xI H h a u
 | .tbl ps=>h.get? a=Ig { cls:=.none,data:=.fields ps }
 | .met f x=>h.get? a=Ig (DN (.ref f) (.ref x))
 | .ext φ=>φ h/\(∃ o,h.get? a=Ig o)/\∀ h1 h2:n9,φ h1->(∀ o,h1.get? a=Ig o->h2.get? a=Ig o)->φ h2
def HOk(H:Hp)(h:n9):Prop:=∀ a o,H a=Ig o->xI P w H h a o
end

section
variable{P:j9}{w:n5}{H H':Hp}{h h':n9}{a:b9}{o:HO}
def xI.lt(x:xI P w H h a o):a<h.objs.size:=by
 cases o with
 | lst xs=>obtain⟨_,_,_,_,e⟩:=x; rwa[f9 e]
 | tup xs=>obtain⟨_,_,_,p⟩:=x; rwa[p.lt]
 | dK kvs=>obtain⟨_,_,_,_,o,_,_,e,_⟩:=x; rwa[f9 e]
 | dT kvs=>obtain⟨_,_,_,_,o,_,_,e,_⟩:=x; rwa[f9 e]
 | set S n=>obtain⟨o,_,_,_,e,_⟩:=x; rwa[f9 e]
 | ins C dx fs=>obtain⟨_,_,_,e,_⟩:=x; rwa[f9 e]
 | own y=>obtain⟨_,e⟩:=x; rwa[f9 e]
 | xd fs=>obtain⟨_,⟨_,_,_,e,_⟩,_⟩:=x; rwa[f9 e]
 | rng lo hi=>obtain⟨_,_,_,e⟩:=x; rwa[f9 e]
 | frz ob u=>obtain⟨e,_⟩:=x; rwa[f9 e]
 | tbl ps=>exact f9 (show h.get? a=Ig _ from x)
 | met f y=>exact f9 (show h.get? a=Ig _ from x)
 | ext φ=>obtain⟨_,⟨_,e⟩,_⟩:=x; rwa[f9 e]
def Paired.mapP{α β:Type}{F G:α->β->Prop} : ∀{l₁:List α}{l₂:List β},F1 F l₁ l₂->(∀ a b,F a b->G a b)->F1 G l₁ l₂
 | _,_,.nil,_=>.nil
 | _,_,.cons r t,f=>.cons (f _ _ r) (Paired.mapP t f)
def xI.stay(x:xI P w H h a o)(k:∀ b u,(b=a\/H b=Ig (.own a))->h.get? b=Ig u->h'.get? b=Ig u)
  (ho:∀ b,H b=Ig (.own a)->H' b=Ig (.own a)) (ht:∀ b xs,H b=Ig (.tup xs)->H' b=Ig (.tup xs)):xI P w H' h' a o:=by
 induction o with
 | lst xs=>obtain⟨z,its,n,r,e⟩:=x; rwa[z,its,n,r,k _ _ (.inl rfl) e]
 | tup xs=>obtain⟨z,its,r,ob,e,c⟩:=x; rwa[z,its,r,ob,k _ _ (.inl rfl) e,c]
 | dK kvs=>obtain⟨z,y,vs,r,ob,es,ep,e,c⟩:=x; rwa[z,y,vs,r,ob,es,ep,k _ _ (.inl rfl) e,c]
 | dT kvs =>
  obtain⟨z,y,xs,r,ob,es,ep,e,c⟩:=x;rwa[z,y,xs,Paired.mapP r λp q z=>⟨z.1,ht _ _ z.2.1,z.2.2⟩,ob,es,ep,k _ _ (.inl rfl) e,c]
 | set S n=>obtain⟨ob,es,ep,t,e,c⟩:=x; rwa[ob,es,ep,t,k _ _ (.inl rfl) e,c]
 | ins C dx fs =>
  obtain⟨d,z,ne,e,mA,⟨od,es,ep,e2,c⟩,r⟩:=x;rwa[ho _ d,z,ne,k _ _ (.inl rfl) e,mA,⟨od,es,ep,k _ _ (.inr d) e2,c⟩,r]
 | own y=>obtain⟨ob,e⟩:=x; rwa[ob,k _ _ (.inl rfl) e]
 | xd fs=>obtain⟨mA,⟨od,es,ep,e,c⟩,r⟩:=x; rwa[mA,⟨od,es,ep,k _ _ (.inl rfl) e,c⟩,r]
 | rng lo hi=>obtain⟨t,u,v,e⟩:=x; rwa[t,u,v,k _ _ (.inl rfl) e]
 | frz ob u ih=>obtain⟨e,q⟩:=x; rwa[k _ _ (.inl rfl) e,ih q]
 | tbl ps =>
  have e:h.get? a=Ig { cls:=.none,data:=.fields ps }:=x;show h'.get? a=Ig { cls:=.none,data:=.fields ps };rwa[k a _ (.inl rfl) e]
 | met f y =>
  have e:h.get? a=Ig (DN (.ref f) (.ref y)):=x;show h'.get? a=Ig (DN (.ref f) (.ref y));rwa[k a _ (.inl rfl) e]
 | ext φ=>obtain⟨p,⟨o,e⟩,st⟩:=x; rwa[st _ _ p λo q=>k _ _ (.inl rfl) q,⟨o,k _ _ (.inl rfl) e⟩,st]
def HOk.lt(x:HOk P w H h)(e:H a=Ig o):a<h.objs.size:=(x a o e).lt
def HOk.fresh(x:HOk P w H h)(e:h.objs.size<=a):H a=none:=by
 cases q:H a with
 | none=>rfl
 | some u=>rwa[x4 (m5 (x.lt q) e) (Bc _)]
def HOk.kept(x:HOk P w H h)(k:∀ b u,h.get? b=Ig u->h'.get? b=Ig u):HOk P w H h':=λa o e =>
 (x a o e).stay (λb u _ q=>k b u q) (λ_ q=>q) λ_ _ q=>q
def HOk.laid(x:HOk P w H h)(k:∀ b u,h.get? b=Ig u->h'.get? b=Ig u)(hp:h.objs.size<=a)(new:xI P w (upd H a o) h' a o):HOk P w (upd H a o) h':=λb u e=>by
 have hn:=x.fresh hp;by_cases hb:b=a
 ·subst hb; rw[zA] at e; cases e; rwa[new]
 ·rw[zG hb] at e;exact(x b u e).stay (λc v _ q=>k c v q) (λc q=>by rw[zG (zH q hn)]; rwa[q]) λc xs q=>by rw[zG (zH q hn)]; rwa[q]
end

def Rd(H:Hp)(a:b9)(u:HO):Prop:=H a=Ig u\/∃ o,H a=Ig (.frz o u)
def Rd.ok{P:j9}{w:n5}{H:Hp}{h:n9}{a:b9}{u:HO}(r:Rd H a u)(x:HOk P w H h):xI P w H h a u:=by
 rcases r with r | ⟨o,r⟩
 ·rwa[x a u r]
 ·obtain⟨_,q⟩:=x a _ r;rwa[q]
def Mut:Option HO->Prop
 | some (.lst _)=>True
 | some (.dK _)=>True
 | some (.dT _)=>True
 | some (.set _ _)=>True
 | some (.ins _ _ _)=>True
 | some (.ext _)=>True
 | _=>False
section
variable{P:j9}{w:n5}{H:Hp}{h h':n9}{x e:b9}{o':HO}
def HOk.write(ok:HOk P w H h)(mu:Mut (H x))(he:e=x\/H e=Ig (.own x))(k:∀ b u,b≠e->h.get? b=Ig u->h'.get? b=Ig u)(heo:∃ u,h'.get? e=Ig u)
  (new:xI P w (upd H x o') h' x o'):HOk P w (upd H x o') h':=λb u q=>by
 have nown:∀ c y,H c=Ig (.own y)->c≠x:=λc y r z=>by subst z; rw[r] at mu; rwa[mu]
 have ntup:∀ c xs,H c=Ig (.tup xs)->c≠x:=λc xs r z=>by subst z; rw[r] at mu; rwa[mu]
 by_cases hb:b=x
 ·subst hb; rw[zA] at q; cases q; rwa[new]
 ·rw[zG hb] at q;by_cases hbe:b=e
  ·have q':H b=Ig (.own x):=by
    rcases he with z | z
    ·rwa[x4 (hbe.trans z) hb]
    ·rw[hbe]; rwa[z]
   rw[q] at q'; cases q';obtain⟨v,hv⟩:=heo;rwa[v,by rw[hbe]; exact hv]
  ·refine(ok b u q).stay (λc v hc r=>k c v ?_ r) (λc r=>by rw[zG (nown c b r)]; rwa[r]) λc xs r=>by rw[zG (ntup c xs r)]; rwa[r]
   rcases hc with rfl | hc
   ·rwa[hbe]
   ·rintro rfl;rcases he with z | z
    ·rwa[nown c b hc z]
    ·rw[hc] at z; cases z; rwa[hb rfl]
end

structure Un(fs ex:List b9)(H H':Hp)(h h':n9):Prop where
 keep:∀ b o,h.get? b=Ig o->H b=Ih->b ∉ fs->b ∉ ex->h'.get? b=Ig o
 slot:∀ b o,h.get? b=Ig o->H b=Ih->b∈fs->b ∉ ex->∃ sl,h'.get? b=Ig { o with slots:=sl }
 free:∀ b o,h.get? b=Ig o->H b=Ih->b ∉ ex->H' b=Ih
 there:∀ b o,h.get? b=Ig o->b ∉ ex->∃ o',h'.get? b=Ig o'
 tups:∀ b xs,H b=Ig (.tup xs)->H' b=Ig (.tup xs)
 frzs:∀ b o u,H b=Ig (.frz o u)->H' b=Ig (.frz o u)
 tbls:∀ b ps,H b=Ig (.tbl ps)->∃ more,H' b=Ig (.tbl (ps++more))
section
variable{fs fs' ex ex':List b9}{H H1 H2:Hp}{h h1 h2 h':n9}{a x e:b9}{o:HO}
def Un.any(u:Un fs ex H H1 h h1){b:b9}{ob:AL}(q:h.get? b=Ig ob)(n:H b=Ih)(hx:b ∉ ex):∃ sl,h1.get? b=Ig { ob with slots:=sl }:=by
 by_cases hb:b∈fs
 ·rwa[u.slot b ob q n hb hx]
 ·rwa[ob.slots,u.keep b ob q n hb hx]
def Un.kept(k:∀ b u,h.get? b=Ig u->h'.get? b=Ig u):Un fs ex H H h h' :=
 ⟨λb ob q _ _ _=>k b ob q,λb ob q _ _ _=>⟨ob.slots,k b ob q⟩,λ_ _ _ n _=>n,λb ob q _=>⟨ob,k b ob q⟩,λ_ _ q=>q,λ_ _ _ q=>q,λ_ ps q=>⟨#[],by rw[q]; simp⟩⟩
def Un.refl:Un fs ex H H h h:=Un.kept λ_ _ q=>q
def Un.laid(k:∀ b u,h.get? b=Ig u->h'.get? b=Ig u)(hp:h.objs.size<=a)(hn:H a=Ih):Un fs ex H (upd H a o) h h' where
 keep:=λb u q _ _ _=>k b u q
 slot:=λb u q _ _ _=>⟨u.slots,k b u q⟩
 free:=λb u q n _=>by rw[zG (l6 (m5 (f9 q) hp))]; rwa[n]
 there:=λb u q _=>⟨u,k b u q⟩
 tups:=λb xs q=>by rw[zG (zH q hn)]; rwa[q]
 frzs:=λb u xs q=>by rw[zG (zH q hn)]; rwa[q]
 tbls:=λb ps q=>⟨#[],by rw[zG (zH q hn),q]; simp⟩
def Un.write(mu:Mut (H x))(he:e=x\/H e=Ig (.own x))(k:∀ b u,b≠e->h.get? b=Ig u->h'.get? b=Ig u)(heo:∃ u,h'.get? e=Ig u):Un fs ex H (upd H x o) h h':=by
 have hx:∀ b,H b=Ih->b≠x:=λb n z=>by subst z; rw[n] at mu; rwa[mu]
 have hb:∀ b,H b=Ih->b≠e:=λb n z=>by
  subst z;rcases he with r | r
  ·rwa[hx b n r]
  ·rw[n] at r; cases r
 have hm:∀ b u,H b=Ig u->¬ Mut (Ig u)->b≠x:=λb u q nm z=>by subst z; rw[q] at mu; rwa[nm mu]
 refine⟨λb u q n _ _=>k b u (hb b n) q,λb u q n _ _=>⟨u.slots,k b u (hb b n) q⟩,λb u q n _=>by rw[zG (hx b n)]; exact n,λb u q _=>?_,
  λb xs q=>by rw[zG (hm b _ q λz=>z)]; exact q,λb u xs q=>by rw[zG (hm b _ q λz=>z)]; exact q,λb ps q=>⟨#[],by rw[zG (hm b _ q λz=>z),q]; simp⟩⟩
 by_cases hbe:b=e
 ·subst hbe; rwa[heo]
 ·rwa[u,k b u hbe q]
end

def trk(h:n9)(H:Hp):List b9:=(Ai h.objs.size).filter λa=>(H a).isSome
def Yo(h:n9)(H:Hp):n9:=Et h (trk h H)
def aA(h:n9)(H:Hp):(Yo h H).objs.size=h.objs.size:=PySem.W.hideAll_size _ _
def Yv{h:n9}{H:Hp}{b:b9}{o:AL}(e:h.get? b=Ig o)(n:H b=Ih):(Yo h H).get? b=Ig o :=
 E8 _ e λhm=>by
  have q:(H b).isSome=true:=(BF.mp hm).2;rw[n] at q; simp at q
def Ww{h:n9}{H:Hp}{b:b9}{o:AL}(e:(Yo h H).get? b=Ig o):h.get? b=Ig o/\H b=none:=by
 have e':h.get? b=Ig o:=Fm (trk h H) e;exists e';cases q:H b with
 | none=>rfl
 | some x =>
  have hm:b∈trk h H:=BF.mpr ⟨Az.mpr (f9 e'),by simp[q]⟩;have z:(Yo h H).get? b=none:=PySem.W.hideAll_none (trk h H) hm;rw[z] at e; cases e

end L2

namespace L2

structure Mod(K:b7)(mg:g8->Option c7)(base:n9):Prop where
 kin:K.In base
 glob:base.Ns mainGlobals mg
 blt:∃ mb,base.Ns builtinsNs mb/\∀ x:g8,x ≠ "__name__" -> mb x=bootBuiltins x
 nolimit:base.NoLimit

structure Cx where
 prog:j9
 w:n5
 K:b7
 mg:g8->Option c7
 base:n9
 A:Ab
 N:List g8
 s₀:d4
 H₀:Hp
 env:Dk
 outer:List Dk
 stack:List Dk
 ex:List b9
 fn:g8->Bool
 calm:Bool
 pn:List (b9×AL)
 xe:c7->d4->Prop
def frs(l:List Dk):List b9:=l.filterMap (·.frame)
abbrev Cx.fs(X:Cx):List b9:=frs X.outer

def Vis(sc:CJ)(x:g8):Prop:=sc.names.lookup x=Ig .local\/sc.names.lookup x=Ig .cell\/sc.names.lookup x=Ig .free
def Loc(sc:CJ)(x:g8):Prop:=sc.names.lookup x=Ig .local\/sc.names.lookup x=Ig .cell
def Look(env:Dk)(h:n9)(m:g8->Option c7)(x:g8)(u:c7):Prop :=
 (env.kindOf x=Ig .local/\m x=Ig u)\/((env.kindOf x=Ig .cell\/env.kindOf x=Ig .free)/\∃ c,env.cells.lookup x=Ig c/\h.IsCell c (Ig u))

structure Cx.Ok(X:Cx):Prop where
 mod:Mod X.K X.mg X.base
 kind:X.env.scope.kind=.function
 glob:X.env.globals=mainGlobals
 blt:X.env.builtins=builtinsNs
 above:X.s₀.heap.objs.size<=X.env.locals
 inj:∀ x y c,X.env.cells.lookup x=Ig c->X.env.cells.lookup y=Ig c->x=y
 has:∀ x,(X.env.kindOf x=Ig .cell\/X.env.kindOf x=Ig .free)->∃ c,X.env.cells.lookup x=Ig c
 cab:∀ x c,X.fn x=Ii->X.env.cells.lookup x=Ig c->X.s₀.heap.objs.size<=c
 hd:X.calm=Ii->X.A.handled=Ih
 frames:X.A.frames=Ig X.stack
 stk:X.stack=X.outer\/(X.stack=X.env::X.outer/\X.env.frame=Ig X.env.locals)
 exf:∀ b∈X.ex,b≠X.env.locals/\∀ x c,X.env.cells.lookup x=Ig c->c≠b
 bs:∀ b o,X.base.get? b=Ig o->X.s₀.heap.get? b=Ig o/\X.H₀ b=Ih
 bsz:X.base.objs.size<=X.s₀.heap.objs.size
 noex:∀ b o,X.base.get? b=Ig o->b ∉ X.ex
 exfs:∀ b∈X.ex,b ∉ X.fs
 funs:X.s₀.heap.FunFrames X.base X.outer
 frf:∀ b∈X.fs,X.H₀ b=Ih

structure Inv(X:Cx)(Ik:List (b9×AL))(σ:List (Option V))(H:Hp)(s:d4):Prop where
 ok:X.Ok
 os:s.os=X.s₀.os
 bare:Do s.gens
 base:Un X.fs X.ex X.H₀ H X.s₀.heap s.heap
 loc:∃ m,s.heap.Ns X.env.locals m/\∀(i:Nat)(x:g8)(v:V),X.N[i]?=Ig x->σ[i]?=Ig (Ig v)->Vis X.env.scope x->∃ u,xE v u/\Look X.env s.heap m x u
 cell:∀ x c,X.env.cells.lookup x=Ig c->∃ v,s.heap.IsCell c v
 free:H X.env.locals=Ih
 freeC:∀ x c,X.env.cells.lookup x=Ig c->H c=Ih
 pin:∀ p∈X.pn++Ik,s.heap.get? p.1=Ig p.2/\H p.1=Ih/\p.1≠X.env.locals/\p.1 ∉ X.fs/\∀ v,p.2.data≠.cell v
 hok:HOk X.prog X.w H s.heap
 len:σ.length=X.N.length

section
variable{X:Cx}{Ik:List (b9×AL)}{σ:List (Option V)}{H H':Hp}{s:d4}{h':n9}

def Cx.Ok.nofr(ok:X.Ok){b:b9}{o:AL}(e:X.base.get? b=Ig o):b ∉ X.fs:=λhb=>by
 have:=(ok.funs.mem hb).1;rw[e] at this; cases this
def Inv.bs(I:Inv X Ik σ H s):∀ b o,X.base.get? b=Ig o->s.heap.get? b=Ig o/\H b=none:=λb o e =>
 ⟨I.base.keep b o (I.ok.bs b o e).1 (I.ok.bs b o e).2 (I.ok.nofr e) (I.ok.noex b o e),I.base.free b o (I.ok.bs b o e).1 (I.ok.bs b o e).2 (I.ok.noex b o e)⟩
def Inv.bk(I:Inv X Ik σ H s):∀ b o,X.base.get? b=Ig o->s.heap.get? b=Ig o:=λb o e=>(I.bs b o e).1
def Inv.mod(I:Inv X Ik σ H s):Mod X.K X.mg X.base:=I.ok.mod
def Inv.kIn(I:Inv X Ik σ H s):X.K.In s.heap:=I.ok.mod.kin.keeps I.bk
def Inv.lt(I:Inv X Ik σ H s):X.env.locals<s.heap.objs.size:=let ⟨_,hn,_⟩:=I.loc; hn.lt
def Inv.sz(I:Inv X Ik σ H s):X.s₀.heap.objs.size<=s.heap.objs.size:=j8 I.ok.above (BH I.lt)
def Inv.nofs(I:Inv X Ik σ H s){a:b9}(h:s.heap.objs.size<=a):a ∉ X.fs:=λhb=>by
 obtain⟨_,o,ho,_⟩:=I.ok.funs.mem hb;rwa[x4 (m5 (f9 ho) (j8 I.sz h)) (Bc _)]
def Inv.cne(I:Inv X Ik σ H s):∀ x c,X.env.cells.lookup x=Ig c->c≠X.env.locals:=λx c e z=>by
 obtain⟨v,o,ho,hd⟩:=I.cell x c e;obtain⟨m,⟨o',es,ep,ho',hd',_⟩,_⟩:=I.loc;rw[z,ho'] at ho; cases ho; rw[hd'] at hd; cases hd
def Inv.funs(I:Inv X Ik σ H s):s.heap.FunFrames X.base X.outer:=by
 have all:∀(l:List Dk),(∀ b∈frs l,b∈X.fs)->X.s₀.heap.FunFrames X.base l->s.heap.FunFrames X.base l:=by
  intro l
  induction l with
  | nil=>intro _ _; trivial
  | cons env r ih =>
   intro hs hl;obtain⟨hk,⟨L,o,hf,hn,ho,hd⟩,hr⟩:=hl;have hL:L∈X.fs:=hs L (by unfold frs; rw[AZ,hf]; rwa[AH]);obtain⟨sl,e⟩:=I.base.slot L o ho (I.ok.frf L hL) hL λz=>I.ok.exfs L z hL;rwa[hk,⟨L,_,hf,hn,e,hd⟩,ih (λb hb=>hs b (by unfold frs; rw[AZ,hf]; exact Ac _ hb)) hr]
 rwa[all X.outer (λ_ hb=>hb) I.ok.funs]

def Inv.stack(I:Inv X Ik σ H s):s.heap.FunFrames X.base X.stack:=by
 rcases I.ok.stk with e | ⟨e,hf⟩
 ·rw[e]; rwa[I.funs]
 ·rw[e];obtain⟨m,hn,_⟩:=I.loc;erw[.cons (by rw[I.ok.kind]; decide) hf hn ?_ I.funs];rwa[C5 (j8 I.ok.bsz I.ok.above)]
def Inv.stkSub(I:Inv X Ik σ H s):∀ b∈frs X.stack,b∈X.env.locals::X.fs:=λb hb=>by
 rcases I.ok.stk with e | ⟨e,hf⟩
 ·rw[e] at hb; rwa[Ac _ hb]
 ·rw[e] at hb;unfold frs at hb;rw[AZ,hf] at hb;rwa[hb]
def Inv.stkFree(I:Inv X Ik σ H s):∀ b∈frs X.stack,H b=none:=λb hb=>by
 rcases i7.mp (I.stkSub b hb) with e | hb
 ·rw[e]; rwa[I.free]
 ·obtain⟨_,o,ho,_⟩:=I.ok.funs.mem hb;rwa[I.base.free b o ho (I.ok.frf b hb) λz=>I.ok.exfs b z hb]

def Inv.step{g':Array GenState}{t':Nat}{d':Drawn}{ch:List b9}(I:Inv X Ik σ H s)
  (hch:∀ b∈ch,(b∈X.ex\/X.s₀.heap.objs.size<=b)/\b≠X.env.locals/\(∀ x c,X.env.cells.lookup x=Ig c->c≠b)/\∀ p∈X.pn++Ik,p.1≠b)
  (keep:∀ b o,b≠X.env.locals->b ∉ X.fs->b ∉ ch->s.heap.get? b=Ig o->H b=Ih->h'.get? b=Ig o)
  (slot:∀ b o,b≠X.env.locals->b∈X.fs->b ∉ ch->s.heap.get? b=Ig o->H b=Ih->∃ sl,h'.get? b=Ig { o with slots:=sl }) (free:∀ b o,b ∉ ch->s.heap.get? b=Ig o->H b=Ih->H' b=Ih)
  (there:∀ b o,b ∉ ch->s.heap.get? b=Ig o->∃ o',h'.get? b=Ig o')
  (tups:∀ b xs,H b=Ig (.tup xs)->H' b=Ig (.tup xs)) (frzs:∀ b o u,H b=Ig (.frz o u)->H' b=Ig (.frz o u)) (tbls:∀ b ps,H b=Ig (.tbl ps)->∃ more,H' b=Ig (.tbl (ps++more)))
  (ns:∀ m,s.heap.Ns X.env.locals m->h'.Ns X.env.locals m) (hok:HOk X.prog X.w H' h') (hg:Do g') :
  Inv X Ik σ H' { s with heap:=h',gens:=g',drawn:=d',toks:=t' }:=by
 have neL:∀ b o,X.s₀.heap.get? b=Ig o->b≠X.env.locals:=λb o e=>l6 (m5 (f9 e) I.ok.above);have neC:∀ b o,X.s₀.heap.get? b=Ig o->b ∉ X.ex->b ∉ ch:=λb o e hx hb=>by
  rcases (hch b hb).1 with z | z
  ·rwa[hx z]
  ·rwa[x4 (m5 (f9 e) z) (Bc _)]
 have cellK:∀ x c,X.env.cells.lookup x=Ig c->∀ v,s.heap.IsCell c v->h'.IsCell c v:=λx c e v ⟨o,ho,hd⟩=>by
  have nch:c ∉ ch:=λz=>(hch c z).2.2.1 x c e rfl;by_cases hc:c∈X.fs
  ·obtain⟨sl,q⟩:=slot c o (I.cne x c e) hc nch ho (I.freeC x c e);rwa[_,q,hd]
  ·rwa[o,keep c o (I.cne x c e) hc nch ho (I.freeC x c e),hd]
 erw[I.ok,I.os,hg,⟨λb o e n hb hx=>?_,λb o e n hb hx=>?_,λb o e n hx=>?_,λb o e hx=>?_,λb xs e=>tups b xs (I.base.tups b xs e),λb o xs e=>frzs b o xs (I.base.frzs b o xs e),λb ps e=>?_⟩,?_,λx c e=>?_,?_,λx c e=>?_,λp hp=>?_,hok,I.len]
 ·rwa[keep b o (neL b o e) hb (neC b o e hx) (I.base.keep b o e n hb hx) (I.base.free b o e n hx)]
 ·obtain⟨sl,e1⟩:=I.base.slot b o e n hb hx;obtain⟨sl',e2⟩:=slot b _ (neL b o e) hb (neC b o e hx) e1 (I.base.free b o e n hx);rwa[sl',e2]
 ·obtain⟨o',e1⟩:=I.base.there b o e hx;rwa[free b o' (neC b o e hx) e1 (I.base.free b o e n hx)]
 ·obtain⟨o',e1⟩:=I.base.there b o e hx;rwa[there b o' (neC b o e hx) e1]
 ·obtain⟨m1,e1⟩:=I.base.tbls b ps e;obtain⟨m2,e2⟩:=tbls b _ e1;rwa[m1++m2,by rw[e2,Array.append_assoc]]
 ·obtain⟨m,hn,hl⟩:=I.loc;erw[m,ns m hn,λi x v e1 e2 e3=>?_];obtain⟨u,r,l⟩:=hl i x v e1 e2 e3;exists u,r;rcases l with l | ⟨k,c,e,z⟩
  ·rwa[.inl l]
  ·rwa[.inr ⟨k,c,e,cellK x c e _ z⟩]
 ·obtain⟨v,z⟩:=I.cell x c e;rwa[v,cellK x c e v z]
 ·obtain⟨m,⟨o,_,_,ho,_⟩,_⟩:=I.loc;rwa[free _ o (λz=>(hch _ z).2.1 rfl) ho I.free]
 ·obtain⟨v,o,ho,hd⟩:=I.cell x c e;rwa[free c o (λz=>(hch c z).2.2.1 x c e rfl) ho (I.freeC x c e)]
 ·obtain⟨e,n,ne,nf,d⟩:=I.pin p hp;have nch:p.1 ∉ ch:=λz=>(hch p.1 z).2.2.2 p hp rfl;rwa[keep p.1 p.2 ne nf nch e n,free p.1 p.2 nch e n,ne,nf,d]
def Inv.un{t':Nat}(I:Inv X Ik σ H s)(u:Un X.fs [] H H' s.heap h')(hok:HOk X.prog X.w H' h'):Inv X Ik σ H' { s with heap:=h',toks:=t' }:=by
 obtain⟨m,⟨o,es,ep,ho,r⟩,_⟩:=id I.loc;obtain⟨sl,hL⟩:=u.any ho I.free (by simp);exact I.step (g':=s.gens) (d':=s.drawn) (ch:=[]) (λ_ z=>nomatch z) (λb o _ hb _ e n=>u.keep b o e n hb (by simp)) (λb o _ hb _ e n=>u.slot b o e n hb (by simp)) (λb o _ e n=>u.free b o e n (by simp)) (λb o _ e=>u.there b o e (by simp)) u.tups u.frzs u.tbls (λm' hm=>by
  obtain⟨o',es',ep',ho',r'⟩:=hm;rw[ho] at ho'; cases ho';rwa[_,es',ep',hL,r']) hok I.bare
def Inv.call{g':Array GenState}{t':Nat}{d':Drawn}{ch:List b9}(I:Inv X Ik σ H s)(u:Un (frs X.stack) ch H H' s.heap h')(hok:HOk X.prog X.w H' h')(hg:Do g')
  (hch:∀ b∈ch,(b∈X.ex\/X.s₀.heap.objs.size<=b)/\b≠X.env.locals/\(∀ x c,X.env.cells.lookup x=Ig c->c≠b)/\∀ p∈X.pn++Ik,p.1≠b) :
  Inv X Ik σ H' { s with heap:=h',gens:=g',drawn:=d',toks:=t' }:=by
 obtain⟨m,⟨o,es,ep,ho,r⟩,_⟩:=id I.loc;obtain⟨sl,hL⟩:=u.any ho I.free λz=>(hch _ z).2.1 rfl;exact I.step (ch:=ch) hch (λb o hL hb hc e n=>u.keep b o e n (λz=>(i7.mp (I.stkSub b z)).elim hL hb) hc) (λb o _ _ hc e n=>u.any e n hc) (λb o hc e n=>u.free b o e n hc) (λb o hc e=>u.there b o e hc) u.tups u.frzs u.tbls (λm' hm=>by
  obtain⟨o',es',ep',ho',r'⟩:=hm;rw[ho] at ho'; cases ho';rwa[_,es',ep',hL,r']) hok hg
def Inv.turned{t':Nat}{it:b9}(I:Inv X Ik σ H s)(k:∀ b o,b≠it->s.heap.get? b=Ig o->h'.get? b=Ig o)(hn:H it=Ih)(hL:it≠X.env.locals)
  (h1:it∈X.ex\/X.s₀.heap.objs.size<=it) (h2:∀ x c,X.env.cells.lookup x=Ig c->c≠it) (h3:∀ p∈X.pn++Ik,p.1≠it):Inv X Ik σ H { s with heap:=h',toks:=t' }:=by
 have nit:∀ b u,H b=Ig u->b≠it:=λb u e z=>by rw[z,hn] at e; cases e
 refine I.step (g':=s.gens) (d':=s.drawn) (ch:=[it]) (λb hb=>?_) (λb o _ _ hc e _=>k b o (λz=>hc (by simp[z])) e) (λb o _ _ hc e _=>⟨o.slots,k b o (λz=>hc (by simp[z])) e⟩) (λ_ _ _ _ n=>n)
  (λb o hc e=>⟨o,k b o (λz=>hc (by simp[z])) e⟩) (λ_ _ e=>e) (λ_ _ _ e=>e) (λb ps e=>⟨#[],by rw[e]; simp⟩) (λm hm=>?_) (λb u e=>?_) I.bare
 ·have e:b=it:=by simpa using hb
  subst e;rwa[h1,hL,h2,h3]
 ·obtain⟨o,es,ep,ho,r⟩:=hm;rwa[o,es,ep,k _ o (AG hL) ho,r]
 ·refine(I.hok b u e).stay (λc v hc q=>k c v ?_ q) (λ_ q=>q) λ_ _ q=>q;rcases hc with z | z
  ·rw[z]; rwa[nit b u e]
  ·rwa[nit c _ z]
def Inv.tok(I:Inv X Ik σ H s)(t:Nat):Inv X Ik σ H { s with toks:=t }:=I.un (h':=s.heap) (t':=t) Un.refl I.hok
def Inv.kept{t':Nat}(I:Inv X Ik σ H s)(k:∀ b u,s.heap.get? b=Ig u->h'.get? b=Ig u):Inv X Ik σ H { s with heap:=h',toks:=t' }:=I.un (Un.kept k) (I.hok.kept k)
def Inv.laid{a:b9}{o:HO}{t':Nat}(I:Inv X Ik σ H s)(k:∀ b u,s.heap.get? b=Ig u->h'.get? b=Ig u)(hp:s.heap.objs.size<=a)(new:xI X.prog X.w (upd H a o) h' a o) :
  Inv X Ik σ (upd H a o) { s with heap:=h',toks:=t' }:=I.un (Un.laid k hp (I.hok.fresh hp)) (I.hok.laid k hp new)
def Inv.write{x e:b9}{o:HO}{t':Nat}(I:Inv X Ik σ H s)(mu:Mut (H x))(he:e=x\/H e=Ig (.own x))(k:∀ b u,b≠e->s.heap.get? b=Ig u->h'.get? b=Ig u)(heo:∃ u,h'.get? e=Ig u)
  (new:xI X.prog X.w (upd H x o) h' x o):Inv X Ik σ (upd H x o) { s with heap:=h',toks:=t' }:=I.un (Un.write mu he k heo) (I.hok.write mu he k heo new)
def Inv.pins_of{pins':List (b9×AL)}(I:Inv X Ik σ H s)(h:∀ p∈pins',s.heap.get? p.1=Ig p.2/\H p.1=Ih/\p.1≠X.env.locals/\p.1 ∉ X.fs/\∀ v,p.2.data≠.cell v):Inv X pins' σ H s :=
 ⟨I.ok,I.os,I.bare,I.base,I.loc,I.cell,I.free,I.freeC,λp hp=>(m7.mp hp).elim (λz=>I.pin p (BI _ z)) (h p),I.hok,I.len⟩

def eC{N:List g8}(hN:N.Nodup){i j:Nat}{x:g8}(a:N[i]?=Ig x)(b:N[j]?=Ig x):i=j:=by
 obtain⟨h1,e1⟩:=g9.mp a;obtain⟨h2,e2⟩:=g9.mp b;exact(D4 hN).mp (e1.trans e2.symm)

def iO{M:Hw}{A:Ab}{E:c7->d4->Prop}{i:Nat}{x:g8}{v:V}{u:c7}{Q:Unit->d4->Prop}(I:Inv X Ik σ H s)(hN:X.N.Nodup)(hi:X.N[i]?=Ig x)(hx:Loc X.env.scope x)(r:xE v u)
  (h:∀ s',Inv X Ik (σ.set i (Ig v)) H s'->(∃ a,AW a s.heap s'.heap/\(a=X.env.locals\/X.env.cells.lookup x=Ig a))->Q () s') (hf:X.fn x=Ii\/X.env.scope.names.lookup x=Ig .local:=by first | exact .inl rfl | exact .inr rfl | assumption):wpAny M A (storeName X.env x u) Q E s:=by
 obtain⟨m,hn,hl⟩:=id I.loc;have hcls:(X.env.scope.kind == .class||(X.env.scope.kind == .module&&X.env.locals != X.env.globals))=false:=by rw[I.ok.kind]; rfl
 have hiσ:i<σ.length:=by rw[I.len]; exact(g9.mp hi).1
 have cne:=I.cne;have tracked:∀{a:b9}{h':n9},(∃ o,s.heap.get? a=Ig o/\H a=Ih)->AW a s.heap h'->HOk X.prog X.w H h':=λ{a h'} ha hs b ob e=>by
  obtain⟨_,_,hfree⟩:=ha;refine(I.hok b ob e).stay (λc w' hc q=>(hs.2 c ?_).trans q) (λ_ q=>q) λ_ _ q=>q;rintro rfl;rcases hc with rfl | hc
  ·rw[hfree] at e; cases e
  ·rw[hfree] at hc; cases hc
 rcases hx with hk | hk
 ·erw[wpAny_storeName_local hk hn (λh' hn' hs=>?_) hcls];obtain⟨oL,_,_,hoL,_⟩:=id hn;refine h _ ⟨I.ok,I.os,I.bare,⟨λb o e n hb hx=>?_,λb o e n hb hx=>?_,I.base.free,λb o e hx=>?_,I.base.tups,I.base.frzs,I.base.tbls⟩,⟨_,hn',λj y v' e1 e2 e3=>?_⟩,λy c e=>?_,I.free,I.freeC,λp hp=>?_,tracked ⟨oL,hoL,I.free⟩ hs,by simpa using I.len⟩ ⟨_,hs,.inl rfl⟩
  ·exact(hs.2 b (l6 (m5 (f9 e) I.ok.above))).trans (I.base.keep b o e n hb hx)
  ·obtain⟨sl,e1⟩:=I.base.slot b o e n hb hx;rwa[sl,(hs.2 b (l6 (m5 (f9 e) I.ok.above))).trans e1]
  ·obtain⟨o',e1⟩:=I.base.there b o e hx;rwa[o',(hs.2 b (l6 (m5 (f9 e) I.ok.above))).trans e1]
  ·by_cases hj:j=i
   ·subst hj;rw[hi] at e1; cases e1;rw[CN hiσ] at e2;cases e2;rwa[u,r,.inl ⟨hk,by simp⟩]
   ·rw[EU (AG hj)] at e2;obtain⟨u',r',q⟩:=hl j y v' e1 e2 e3;exists u',r';rcases q with ⟨k,e⟩ | ⟨k,c,e,z⟩
    ·erw[.inl ⟨k,?_⟩];have:y≠x:=λe=>hj (eC hN e1 (e ▸ hi));simp[this,e]
    ·rwa[.inr ⟨k,c,e,z.sameBut hs (cne y c e)⟩]
  ·obtain⟨w',z⟩:=I.cell y c e;rwa[w',z.sameBut hs (cne y c e)]
  ·obtain⟨e,n,ne,nf,d⟩:=I.pin p hp;rwa[(hs.2 p.1 ne).trans e,n,ne,nf,d]
 ·have hfn:X.fn x=true:=by
   rcases hf with z | z
   ·rwa[z]
   ·rw[z] at hk; cases hk
  obtain⟨c,hc⟩:=I.ok.has x (.inl hk);obtain⟨w',z⟩:=I.cell x c hc;erw[wpAny_storeName_cell I.ok.kind hk hc z (λh' hc' hs=>?_)];obtain⟨oc,hoc,hocd⟩:=id z;refine h { s with heap:=h' } ⟨I.ok,I.os,I.bare,⟨λb o e n hb hx=>?_,λb o e n hb hx=>?_,I.base.free,λb o e hx=>?_,I.base.tups,I.base.frzs,I.base.tbls⟩,⟨m,hn.sameBut hs (AG (cne x c hc)),λj y v' e1 e2 e3=>?_⟩,λy c' e=>?_,I.free,I.freeC,λp hp=>?_,tracked ⟨oc,hoc,I.freeC x c hc⟩ hs,by simpa using I.len⟩ ⟨c,hs,.inr hc⟩
  ·exact(hs.2 b (l6 (m5 (f9 e) (I.ok.cab x c hfn hc)))).trans (I.base.keep b o e n hb hx)
  ·obtain⟨sl,e1⟩:=I.base.slot b o e n hb hx;rwa[sl,(hs.2 b (l6 (m5 (f9 e) (I.ok.cab x c hfn hc)))).trans e1]
  ·obtain⟨o',e1⟩:=I.base.there b o e hx;rwa[o',(hs.2 b (l6 (m5 (f9 e) (I.ok.cab x c hfn hc)))).trans e1]
  ·by_cases hj:j=i
   ·subst hj;rw[hi] at e1; cases e1;rw[CN hiσ] at e2;cases e2;rwa[u,r,.inr ⟨.inl hk,c,hc,hc'⟩]
   ·rw[EU (AG hj)] at e2;obtain⟨u',r',q⟩:=hl j y v' e1 e2 e3;exists u',r';rcases q with q | ⟨k,c',e,z'⟩
    ·rwa[.inl q]
    ·erw[.inr ⟨k,c',e,z'.sameBut hs ?_⟩];rintro rfl;rwa[hj (eC hN e1 (I.ok.inj _ _ _ e hc ▸ hi))]
  ·by_cases hcc:c'=c
   ·subst hcc; rwa[_,hc']
   ·obtain⟨w2,z2⟩:=I.cell y c' e;rwa[w2,z2.sameBut hs hcc]
  ·obtain⟨e,n,ne,nf,d⟩:=I.pin p hp;erw[(hs.2 p.1 ?_).trans e,n,ne,nf,d];intro q;rw[q,hoc] at e;have q':oc=p.2:=p5 e;rwa[d w' (by rw[<- q']; exact hocd)]
def pe{M:Hw}{A:Ab}{E:c7->d4->Prop}{i:Nat}{x:g8}{v:V}{u:c7}{Q:Unit->d4->Prop}(I:Inv X Ik σ H s)(hN:X.N.Nodup)(hi:X.N[i]?=Ig x)(hx:Loc X.env.scope x)(r:xE v u)
  (h:∀ s',Inv X Ik (σ.set i (Ig v)) H s'->Q () s') (hf:X.fn x=Ii\/X.env.scope.names.lookup x=Ig .local:=by first | exact .inl rfl | exact .inr rfl | assumption):wpAny M A (storeName X.env x u) Q E s :=
 iO I hN hi hx r (λs' I' _=>h s' I') hf
def Inv.call'{s':d4}{ch:List b9}(I:Inv X Ik σ H s)(ho:s'.os=s.os)(u:Un (frs X.stack) ch H H' s.heap s'.heap)(hok:HOk X.prog X.w H' s'.heap)(hg:Do s'.gens)
  (hch:∀ b∈ch,(b∈X.ex\/X.s₀.heap.objs.size<=b)/\b≠X.env.locals/\(∀ x c,X.env.cells.lookup x=Ig c->c≠b)/\∀ p∈X.pn++Ik,p.1≠b):Inv X Ik σ H' s':=by
 obtain⟨h',g',d',t',o'⟩:=s';have e:o'=s.os:=ho;subst e;rwa[I.call (g':=g') (t':=t') (d':=d') u hok hg hch]
end

abbrev XK:=c7->Option b9->Hp->Prop
abbrev St:=List (Option V)
abbrev VK:=V->Hp->Prop
abbrev TE:=St->Hp->VK->Prop
abbrev TT:=St->Hp->(Bool->Hp->Prop)->Prop
abbrev TA:=St->Hp->(List V->Hp->Prop)->Prop
structure dE where
 nx:St->Hp->Prop
 rt:VK
 bk:St->Hp->Prop:=λ_ _=>False
 ct:St->Hp->Prop:=λ_ _=>False
abbrev TS:=dE->St->Hp->Prop

def EP(X:Cx)(Ik:List (b9×AL))(σ:St)(Q:VK)(u:c7)(s':d4):Prop:=∃ v H',Inv X Ik σ H' s'/\xE v u/\Q v H'
def TP(X:Cx)(Ik:List (b9×AL))(σ:St)(Q:Bool->Hp->Prop)(b:Bool)(s':d4):Prop:=∃ H',Inv X Ik σ H' s'/\Q b H'
def AP(X:Cx)(Ik:List (b9×AL))(σ:St)(Q:List V->Hp->Prop)(us:List c7)(s':d4):Prop:=∃ vs H',Inv X Ik σ H' s'/\yP vs us/\Q vs H'
def SP(X:Cx)(Ik:List (b9×AL))(D:dE)(f:Flow)(s':d4):Prop :=
 match f with
 | .next=>∃ σ' H',Inv X Ik σ' H' s'/\D.nx σ' H'
 | .brk=>∃ σ' H',Inv X Ik σ' H' s'/\D.bk σ' H'
 | .cont=>∃ σ' H',Inv X Ik σ' H' s'/\D.ct σ' H'
 | .ret u=>∃ v σ' H',Inv X Ik σ' H' s'/\xE v u/\D.rt v H'

def PE(X:Cx)(e:t6)(t:TE):Prop :=
 ∀(Ik:List (b9×AL))(s:d4)(σ:St)(H:Hp)(Q:VK),Inv X Ik σ H s->t σ H Q->wpAny (model X.prog X.w) X.A (eval e X.env) (EP X Ik σ Q) X.xe s
def PT(X:Cx)(e:t6)(t:TT):Prop :=
 ∀(Ik:List (b9×AL))(s:d4)(σ:St)(H:Hp)(Q:Bool->Hp->Prop),Inv X Ik σ H s->t σ H Q->wpAny (model X.prog X.w) X.A (isTrue e X.env (eval e X.env)) (TP X Ik σ Q) X.xe s
def PW(X:Cx)(e:t6)(t:TT):Prop :=
 ∀(whole:GP c7)(Ik:List (b9×AL))(s:d4)(σ:St)(H:Hp)(Q:Bool->Hp->Prop),Inv X Ik σ H s->t σ H Q->wpAny (model X.prog X.w) X.A (isTrue e X.env whole) (TP X Ik σ Q) X.xe s
def PW.pt{X:Cx}{e:t6}{t:TT}(h:PW X e t):PT X e t:=h _
def PA(X:Cx)(es:List t6)(t:TA):Prop :=
 ∀(pos:Ck)(Ik:List (b9×AL))(s:d4)(σ:St)(H:Hp)(Q:List V->Hp->Prop),Inv X Ik σ H s->t σ H Q->wpAny (model X.prog X.w) X.A (spliced (backTo pos (starEach es X.env))) (AP X Ik σ Q) X.xe s
def PS(X:Cx)(st:Ah)(t:TS):Prop :=
 ∀(Ik:List (b9×AL))(s:d4)(σ:St)(H:Hp)(D:dE),Inv X Ik σ H s->t D σ H->wpAny (model X.prog X.w) X.A (exec st X.env) (SP X Ik D) X.xe s
def PSs(X:Cx)(st:List Ah)(t:TS):Prop :=
 ∀(Ik:List (b9×AL))(s:d4)(σ:St)(H:Hp)(D:dE),Inv X Ik σ H s->t D σ H->wpAny (model X.prog X.w) X.A (execs st X.env) (SP X Ik D) X.xe s
def thn{α:Type}{t:GP α}{Q Q':α->d4->Prop}{M:Hw}{A:Ab}{E:c7->d4->Prop}{s:d4}(h:wpAny M A t Q E s)(hQ:∀ a s,Q a s->Q' a s):wpAny M A t Q' E s:=A9 h hQ λ_ _ x=>x
end L2

namespace L2
section
variable{X:Cx}

def bin{a b:t6}{ta tb:TE}(ha:PE X a ta)(hb:PE X b tb){Ik:List (b9×AL)}{s:d4}{σ:St}{H:Hp}{R:V->V->Hp->Prop}(I:Inv X Ik σ H s)(h:ta σ H λx H1=>tb σ H1 λy H2=>R x y H2)
  {α:Type} {Q:α->d4->Prop} {f:c7->c7->GP α}
  (hf:∀ v u s2 x y H2,Inv X Ik σ H2 s2->xE x v->xE y u->R x y H2->wpAny (model X.prog X.w) X.A (f v u) Q X.xe s2) :
  wpAny (model X.prog X.w) X.A (eval a X.env) (λv s₁=>wpAny (model X.prog X.w) X.A (eval b X.env) (λu s₂=>wpAny (model X.prog X.w) X.A (f v u) Q X.xe s₂) X.xe s₁) X.xe s:=by
 erw[thn (ha Ik s σ H _ I h) λv s1 ⟨x,H1,I1,r1,q1⟩=>?_];erw[thn (hb Ik s1 σ H1 _ I1 q1) λu s2 ⟨y,H2,I2,r2,q2⟩=>?_];rwa[hf v u s2 x y H2 I2 r1 r2 q2]

inductive TVar(i:Nat)(σ:St)(H:Hp)(Q:VK):Prop where
 | mk (v:V) (e:σ[i]?=Ig (Ig v)) (q:Q v H)
def Zc(i:Nat):TE:=λσ H Q=>TVar i σ H Q
def tC(v:V):TE:=λ_ H Q=>Q v H
def UD{i:Nat}{x:g8}{pos:Ck}(hN:X.N[i]?=Ig x)(hv:Vis X.env.scope x)(hd:(x ==("__debug__" : g8))=false:=by decide)(hcd:(x ==("__classdict__" : g8))=false:=by decide):PE X (.Name x pos) (Zc i):=by
 intro Ik s σ H Q I h;obtain⟨v,e,h⟩:=h;obtain⟨m,hn,hl⟩:=I.loc;obtain⟨u,r,l⟩:=hl i x v hN e hv;have fin:EP X Ik σ Q u s:=⟨v,H,I,r,h⟩;rcases l with ⟨hk,hm⟩ | ⟨hk,c,hc,hcell⟩
 ·rwa[GA (wpAny_loadName_local I.ok.kind hk hn hm fin) hd]
 ·rcases hk with hk | hk
  ·rwa[GA (wpAny_loadName_cell I.ok.kind hk hc hcell fin) hd]
  ·rwa[GA (wpAny_loadName_free I.ok.kind hk hc hcell fin hcd) hd]
def yL{i j pos} : PE X (.Constant (.int i) j pos) (tC (.int i)):=λ_ _ _ H _ I h=>wpAny_Constant_int ⟨.int i,H,I.tok _,⟨_,rfl⟩,h⟩
def xa{b j pos} : PE X (.Constant (.bool b) j pos) (tC (.bl b)):=λ_ _ _ H _ I h=>Constant_bool ⟨.bl b,H,I,rfl,h⟩
def eh{j pos} : PE X (.Constant .none j pos) (tC .non):=λ_ _ _ H _ I h=>Constant_none ⟨.non,H,I,rfl,h⟩
def zK{x j pos} : PE X (.Constant (.str x) j pos) (tC (.str x)):=λ_ _ _ H _ I h=>Fo ⟨.str x,H,I.tok _,⟨_,rfl⟩,h⟩

def Gl(X:Cx)(x:g8):Prop:=X.env.kindOf x=Ig .globalImplicit
def sF{E:c7->d4->Prop}{Ik:List (b9×AL)}{s:d4}{σ:St}{H:Hp}{x:g8}{u:c7}{pos:Ck}{Q:c7->d4->Prop}(I:Inv X Ik σ H s)(hg:Gl X x)(hm:X.mg x=Ig u)(h:Q u s)
  (hd:(x ==("__debug__" : g8))=false:=by decide):wpAny (model X.prog X.w) X.A (eval (.Name x pos) X.env) Q E s :=
 Dv I.ok.kind hg (Calls.loadGlobal_global (by rw[I.ok.glob]; rwa[I.mod.glob.keeps I.bk]) hm h) hd
def pY{E:c7->d4->Prop}{Ik:List (b9×AL)}{s:d4}{σ:St}{H:Hp}{x:g8}{u:c7}{pos:Ck}{Q:c7->d4->Prop}(I:Inv X Ik σ H s)(hg:Gl X x)(hm:X.mg x=Ih)(hv:bootBuiltins x=Ig u)(h:Q u s)
  (hn:x ≠ "__name__" := by decide) (hd:(x ==("__debug__" : g8))=false:=by decide):wpAny (model X.prog X.w) X.A (eval (.Name x pos) X.env) Q E s:=by
 obtain⟨mb,h1,h2⟩:=I.mod.blt;rwa[Dv I.ok.kind hg (Calls.loadGlobal_builtin (by rw[I.ok.glob]; exact I.mod.glob.keeps I.bk) hm (by rw[I.ok.blt]; exact h1.keeps I.bk) ((h2 x hn).trans hv) h) hd]
def xq{x:g8}{v:V}{u:c7}{pos:Ck}(hg:Gl X x)(hm:X.mg x=Ih)(hv:bootBuiltins x=Ig u)(r:xE v u)(hn:x ≠ "__name__" := by decide)(hd:(x ==("__debug__" : g8))=false:=by decide):PE X (.Name x pos) (tC v) :=
 λ_ _ _ H _ I h=>pY I hg hm hv ⟨v,H,I,r,h⟩ hn hd

variable{a b:t6}{ta tb:TE}{pos:Ck}
def PC(X:Cx)(op:Gn)(a b:t6)(t:TE):Prop :=
 ∀(Ik:List (b9×AL))(s:d4)(σ:St)(H:Hp)(Q:VK),Inv X Ik σ H s->t σ H Q ->
  wpAny (model X.prog X.w) X.A (eval a X.env) (λv s₁=>wpAny (model X.prog X.w) X.A (eval b X.env) (λu s₂=>wpAny (model X.prog X.w) X.A (compareOp op v u) (EP X Ik σ Q) X.xe s₂) X.xe s₁) X.xe s
def tB(t:TE):TT:=λσ H Q=>t σ H λx H1=>∃ c,x=.bl c/\Q c H1
def qX{op:Gn}{t:TE}(h:PC X op a b t)(h1:behindInMarks op b=false:=by first | exact nobehind _ (by decide) (by decide) | rfl):PT X (.Compare a [op] [b] pos) (tB t):=by
 intro Ik s σ H Q I hw;erw[EH (thn (h Ik s σ H _ I hw) λv s1 h1=>thn h1 λu s2 h2=>thn h2 λc s3 ⟨x,H1,I1,r1,q1⟩=>?_) h1];obtain⟨d,rfl,q⟩:=q1;cases r1;rwa[AD ⟨H1,I1,q⟩]
def yp{e:t6}{t:TE}(h:PE X e t)(he:∀ whole,isTrue e X.env whole=(do let v <- whole; standAt e.pos; holding [v] (truthy v)):=by intro _; rfl):PT X e (tB t):=by
 intro Ik s σ H Q I hw;erw[isTrue_plain (thn (h Ik s σ H _ I hw) λv s1 ⟨x,H1,I1,r1,q1⟩=>?_) (he _)];obtain⟨d,rfl,q⟩:=q1;cases r1;rwa[AD ⟨H1,I1,q⟩]

variable{tA tB':TT}{rest:List t6}
def tAnd(t u:TT):TT:=λσ H Q=>t σ H λc H1=>if c=Ii then u σ H1 Q else Q Ij H1
def tOr(t u:TT):TT:=λσ H Q=>t σ H λc H1=>if c=Ii then Q Ii H1 else u σ H1 Q
def tNot(t:TT):TT:=λσ H Q=>t σ H λc H1=>Q (!c) H1
def uj(ha:PT X a tA):PW X (.BoolOp .And [a] pos) tA:=by
 intro wh Ik s σ H Q I h;erw[isTrue_and (thn (ha Ik s σ H Q I h) λc s1 e=>?_)];cases c with
 | true=>rwa[isTrue_and_nil e]
 | false=>rwa[e]
def iQ(ha:PT X a tA):PW X (.BoolOp .Or [a] pos) tA:=by
 intro wh Ik s σ H Q I h;erw[isTrue_or (thn (ha Ik s σ H Q I h) λc s1 e=>?_)];cases c with
 | false=>rwa[isTrue_or_nil e]
 | true=>rwa[e]
def mm(ha:PT X a tA)(hb:PW X (.BoolOp .And (b::rest) pos) tB'):PW X (.BoolOp .And (a::b::rest) pos) (tAnd tA tB'):=by
 intro wh Ik s σ H Q I h;erw[isTrue_and (thn (ha Ik s σ H _ I h) λc s1 ⟨H1,I1,q1⟩=>?_)];cases c with
 | true=>rwa[hb wh Ik s1 σ H1 Q I1 q1]
 | false=>rwa[H1,I1,q1]
def cG(ha:PT X a tA)(hb:PW X (.BoolOp .Or (b::rest) pos) tB'):PW X (.BoolOp .Or (a::b::rest) pos) (tOr tA tB'):=by
 intro wh Ik s σ H Q I h;erw[isTrue_or (thn (ha Ik s σ H _ I h) λc s1 ⟨H1,I1,q1⟩=>?_)];cases c with
 | true=>rwa[H1,I1,q1]
 | false=>rwa[hb wh Ik s1 σ H1 Q I1 q1]
def zj(ha:PT X a tA):PT X (.UnaryOp .Not a pos) (tNot tA):=by
 intro Ik s σ H Q I h;rwa[isTrue_not (ha Ik s σ H (λc H1=>Q (!c) H1) I h)]
def tAndV(ta tb:TE):TE:=λσ H Q=>ta σ H λx H1=>∃ c,x=.bl c/\if c=Ii then tb σ H1 Q else Q (.bl Ij) H1
def tNotV(ta:TE):TE:=λσ H Q=>ta σ H λx H1=>∃ c,x=.bl c/\Q (.bl (!c)) H1
def jl{op}{t:TE}(h:PE X a t):PE X (.BoolOp op [a] pos) t:=λIk s σ H Q I hw=>BoolOp_one (h Ik s σ H Q I hw)
def ig(ha:PE X a ta)(hb:PE X (.BoolOp .And (b::rest) pos) tb):PE X (.BoolOp .And (a::b::rest) pos) (tAndV ta tb):=by
 intro Ik s σ H Q I h;erw[BoolOp_and (thn (ha Ik s σ H _ I h) λv s1 ⟨x,H1,I1,r1,q1⟩=>?_)];obtain⟨c,rfl,q1⟩:=q1;cases r1;erw[AD ?_];cases c with
 | true=>rwa[hb Ik s1 σ H1 Q I1 q1]
 | false=>rwa[.bl Ij,H1,I1,U,q1]
def XC(ha:PE X a ta):PE X (.UnaryOp .Not a pos) (tNotV ta):=by
 intro Ik s σ H Q I h;erw[UnaryOp_ (thn (ha Ik s σ H _ I h) λv s1 ⟨x,H1,I1,r1,q1⟩=>?_)];obtain⟨c,rfl,q1⟩:=q1;cases r1;rwa[not_of (AD ⟨.bl (!c),H1,I1,rfl,q1⟩)]
def tIf(t:TT)(ta tb:TE):TE:=λσ H Q=>t σ H λc H1=>if c=Ii then ta σ H1 Q else tb σ H1 Q
def vB{c:t6}(hc:PT X c tA)(ha:PE X a ta)(hb:PE X b tb):PE X (.IfExp c a b pos) (tIf tA ta tb):=by
 intro Ik s σ H Q I h;erw[wpAny_IfExp (thn (hc Ik s σ H _ I h) λd s1 ⟨H1,I1,q1⟩=>?_)];cases d with
 | true=>rwa[ha Ik s1 σ H1 Q I1 q1]
 | false=>rwa[hb Ik s1 σ H1 Q I1 q1]
end
end L2

namespace L2

def SqL(K:b7)(H:Hp)(a:b9)(xs:List V):Prop :=
 Rd H a (.lst xs) \/
  ∃(o:AL)(its:Array c7)(n:Nat),K.lookup a=Ig o/\o.cls=.type "list" /\ o.dict=Ih/\o.data=.seq its n/\its.size<=sizeLine/\yP xs its.toList
def SqT(K:b7)(H:Hp)(a:b9)(xs:List V):Prop :=
 Rd H a (.tup xs) \/
  ∃(o:AL)(its:Array c7)(n:Nat),K.lookup a=Ig o/\o.cls=.type "tuple" /\ o.data=.seq its n/\its.size<=sizeLine/\yP xs its.toList
def absV:c7->Option V
 | .none=>Ig .non
 | .bool b=>Ig (.bl b)
 | .int i _=>Ig (.int i)
 | .str x _=>Ig (.str x)
 | .bytes b _=>Ig (.byt b)
 | .float b _=>Ig (.flt b)
 | .ref a=>Ig (.ref a)
 | .type n=>Ig (.ty n)
 | _=>Ih
def xE.abs{x:V}{u:c7}(r:xE x u):absV u=Ig x:=by
 cases x with
 | non=>cases r; rfl
 | bl _=>cases r; rfl
 | int _=>obtain⟨t,rfl⟩:=r; rfl
 | str _=>obtain⟨t,rfl⟩:=r; rfl
 | byt _=>obtain⟨t,rfl⟩:=r; rfl
 | flt _=>obtain⟨t,rfl⟩:=r; rfl
 | ref _=>cases r; rfl
 | ty _=>cases r; rfl
def xE.inj{x y:V}{u:c7}(r:xE x u)(q:xE y u):x=y:=p5 (r.abs.symm.trans q.abs)
def yP.inj:∀{xs ys:List V}{us:List c7},yP xs us->yP ys us->xs=ys
 | _,_,_,.nil,.nil=>rfl
 | _,_,_,.cons r t,.cons r' t'=>by rw[r.inj r',yP.inj t t']
section
variable{X:Cx}{Ik:List (b9×AL)}{σ:St}{H:Hp}{s:d4}{a:b9}{xs ys:List V}
def SqL.of{K:b7}(h:H a=Ig (.lst xs)):SqL K H a xs:=.inl (.inl h)
def SqT.of{K:b7}(h:H a=Ig (.tup xs)):SqT K H a xs:=.inl (.inl h)
def Inv.list(I:Inv X Ik σ H s)(h:SqL X.K H a xs):∃ its:List c7,yP xs its/\PlainL s.heap a its.toArray/\xs.length<=sizeLine:=by
 rcases h with h | ⟨o,its,n,hk,hc,hd,hs,hz,r⟩
 ·obtain⟨z,its,n,r,e⟩:=h.ok I.hok;rwa[its,r,⟨_,n,e,U,U,U⟩,z]
 ·exists its.toList,r,⟨o,n,I.kIn a o hk,hc,hd,by simpa using hs⟩;have e:=r.length;simp only[Aj] at e;lia
def Inv.tuple(I:Inv X Ik σ H s)(h:SqT X.K H a xs):∃ its:List c7,yP xs its/\Hv s.heap a its.toArray/\xs.length<=sizeLine:=by
 rcases h with h | ⟨o,its,n,hk,hc,hs,hz,r⟩
 ·obtain⟨z,its,r,p⟩:=h.ok I.hok;rwa[its,r,p,z]
 ·exists its.toList,r,⟨o,I.kIn a o hk,hc,n,by simpa using hs⟩;have e:=r.length;simp only[Aj] at e;lia
def Inv.list_inj(I:Inv X Ik σ H s)(h:SqL X.K H a xs)(h':SqL X.K H a ys):xs=ys:=by
 obtain⟨its,r,⟨o,n,e,_,_,d⟩,_⟩:=I.list h;obtain⟨its',r',⟨o',n',e',_,_,d'⟩,_⟩:=I.list h';rw[e] at e'; cases e';rw[d] at d';injection d' with d1 _
 have:its=its':=by simpa using congrArg HF d1
 subst this;rwa[r.inj r']
def Inv.tuple_inj(I:Inv X Ik σ H s)(h:SqT X.K H a xs)(h':SqT X.K H a ys):xs=ys:=by
 obtain⟨its,r,⟨o,e,_,n,d⟩,_⟩:=I.tuple h;obtain⟨its',r',⟨o',e',_,n',d'⟩,_⟩:=I.tuple h';rw[e] at e'; cases e';rw[d] at d';injection d' with d1 _
 have:its=its':=by simpa using congrArg HF d1
 subst this;rwa[r.inj r']
end

abbrev Cx.wish(X:Cx)(E:c7->d4->Prop):Cx:={ X with xe:=E }
abbrev Cx.nox(X:Cx):Cx:=X.wish λ_ _=>False
def Cx.Ok.wish{X:Cx}(ok:X.Ok)(E:c7->d4->Prop):(X.wish E).Ok :=
 ⟨ok.mod,ok.kind,ok.glob,ok.blt,ok.above,ok.inj,ok.has,ok.cab,ok.hd,ok.frames,ok.stk,ok.exf,ok.bs,ok.bsz,ok.noex,ok.exfs,ok.funs,ok.frf⟩
def Cx.Ok.unwish{X:Cx}{E:c7->d4->Prop}(ok:(X.wish E).Ok):X.Ok :=
 ⟨ok.mod,ok.kind,ok.glob,ok.blt,ok.above,ok.inj,ok.has,ok.cab,ok.hd,ok.frames,ok.stk,ok.exf,ok.bs,ok.bsz,ok.noex,ok.exfs,ok.funs,ok.frf⟩
section
variable{X:Cx}{Ik:List (b9×AL)}{σ:St}{H:Hp}{s:d4}{E:c7->d4->Prop}
def Inv.wish(I:Inv X Ik σ H s)(E:c7->d4->Prop):Inv (X.wish E) Ik σ H s:=⟨I.ok.wish E,I.os,I.bare,I.base,I.loc,I.cell,I.free,I.freeC,I.pin,I.hok,I.len⟩
def Inv.unwish(I:Inv (X.wish E) Ik σ H s):Inv X Ik σ H s:=⟨I.ok.unwish,I.os,I.bare,I.base,I.loc,I.cell,I.free,I.freeC,I.pin,I.hok,I.len⟩
def SP.unwish{D:dE}{f:Flow}{s':d4}(h:SP (X.wish E) Ik D f s'):SP X Ik D f s':=by
 cases f with
 | next=>obtain⟨σ',H',I,q⟩:=h; rwa[σ',H',I.unwish,q]
 | brk=>obtain⟨σ',H',I,q⟩:=h; rwa[σ',H',I.unwish,q]
 | cont=>obtain⟨σ',H',I,q⟩:=h; rwa[σ',H',I.unwish,q]
 | ret u=>obtain⟨v,σ',H',I,r,q⟩:=h; rwa[v,σ',H',I.unwish,r,q]
def PSs.nox{st:List Ah}{t:TS}(h:PSs X.nox st t):PSs X st t:=λIk s σ H D I hw =>
 A9 (h Ik s σ H D (I.wish _) hw) (λ_ _ q=>q.unwish) λ_ _ z=>v7 z
end

section
variable{X:Cx}{st:Ah}{rest:List Ah}{t u:TS}{e:t6}{te:TE}{pos:Ck}
def tNext:TS:=λD σ H=>D.nx σ H
def Ta(t u:TS):TS:=λD σ H=>t { D with nx:=u D } σ H
def zN:PSs X [] tNext:=λ_ _ σ H _ I h=>CF ⟨σ,H,I,h⟩
def zC(h1:PS X st t)(h2:PSs X rest u):PSs X (st::rest) (Ta t u):=by
 intro Ik s σ H D I h;refine F2 (thn (h1 Ik s σ H { D with nx:=u D } I h) λf s1 q=>?_);cases f with
 | next =>
  obtain⟨σ',H',I',q⟩:=q;rwa[h2 Ik s1 σ' H' D I' q]
 | ret v=>rwa[q]
 | brk=>rwa[q]
 | cont=>rwa[q]
def zF(h1:PS X st t):PSs X [st] t:=by
 intro Ik s σ H D I h;erw[F2 (thn (h1 Ik s σ H D I h) λf s1 q=>?_)];cases f with
 | next=>rwa[CF q]
 | ret v=>rwa[q]
 | brk=>rwa[q]
 | cont=>rwa[q]
def Inv.quiet{Ik:List (b9×AL)}{σ:St}{H:Hp}{s:d4}(I:Inv X Ik σ H s):interactive X.env=false:=by simp[interactive,I.ok.kind]
def tDrop(te:TE):TS:=λD σ H=>te σ H λ_ H1=>D.nx σ H1
def yC(he:PE X e te)(hs:swapsWith e Ih pos.line X.env=pure false:=by rfl):PS X (.Expr e pos) (tDrop te):=by
 intro Ik s σ H D I h;rwa[wpAny_Expr_any (thn (he Ik s σ H _ I h) λv s1 ⟨x,H1,I1,r1,q1⟩=>⟨σ,H1,I1,q1⟩) I.quiet hs]
def tRet(te:TE):TS:=λD σ H=>te σ H D.rt
def zM(he:PE X e te):PS X (.Return (Ig e) pos) (tRet te):=by
 intro Ik s σ H D I h;rwa[wpAny_Return_some (thn (he Ik s σ H _ I h) λv s1 ⟨x,H1,I1,r1,q1⟩=>⟨x,σ,H1,I1,r1,q1⟩)]
def tIfS(c:TT)(t u:TS):TS:=λD σ H=>c σ H λb H1=>if b=Ii then t D σ H1 else u D σ H1
def zX{c:t6}{a b:List Ah}{tc:TT}(hc:PT X c tc)(ha:PSs X a t)(hb:PSs X b u):PS X (.If c a b pos) (tIfS tc t u):=by
 intro Ik s σ H D I h;erw[wpAny_If (thn (hc Ik s σ H _ I h) λd s1 ⟨H1,I1,q1⟩=>?_)];cases d with
 | true=>rwa[ha Ik s1 σ H1 D I1 q1]
 | false=>rwa[hb Ik s1 σ H1 D I1 q1]
end

abbrev TG:=V->St->Hp->(St->Hp->Prop)->Prop
abbrev TGs:=List V->St->Hp->(St->Hp->Prop)->Prop
def PG(X:Cx)(target:t6)(t:TG):Prop :=
 ∀(Ik:List (b9×AL))(s:d4)(σ:St)(H:Hp)(v:V)(u:c7)(Q:St->Hp->Prop),Inv X Ik σ H s->xE v u->t v σ H Q ->
  wpAny (model X.prog X.w) X.A (assign target X.env u) (λ_ s'=>∃ σ' H',Inv X Ik σ' H' s'/\Q σ' H') X.xe s
def PGs(X:Cx)(ts:List t6)(t:TGs):Prop :=
 ∀(Ik:List (b9×AL))(s:d4)(σ:St)(H:Hp)(vs:List V)(us:List c7)(Q:St->Hp->Prop),Inv X Ik σ H s->yP vs us->t vs σ H Q ->
  wpAny (model X.prog X.w) X.A (assignInOrder ((assignEach ts X.env).map (·.2)) us) (λ_ s'=>∃ σ' H',Inv X Ik σ' H' s'/\Q σ' H') X.xe s
abbrev Tc:=V->V->V->Hp->(Hp->Prop)->Prop
def PSet(X:Cx)(t:Tc):Prop :=
 ∀(Ik:List (b9×AL))(s:d4)(σ:St)(H:Hp)(o i v:V)(ov iv u:c7)(Q:Hp->Prop),Inv X Ik σ H s->xE o ov->xE i iv->xE v u->t o i v H Q ->
  wpAny (model X.prog X.w) X.A (setItem ov iv u) (λ_ s'=>∃ H',Inv X Ik σ H' s'/\Q H') X.xe s
section
variable{X:Cx}{pos:Ck}
def iM(i:Nat):TG:=λv σ H Q=>Q (σ.set i (Ig v)) H
def qO{i:Nat}{x:g8}(hN:X.N.Nodup)(hi:X.N[i]?=Ig x)(hx:Loc X.env.scope x)(hf:X.fn x=Ii\/X.env.scope.names.lookup x=Ig .local:=by first | exact .inl rfl | exact .inr rfl | assumption):PG X (.Name x pos) (iM i):=by
 intro Ik s σ H v u Q I r h;rwa[wpAny_assign_Name (pe I hN hi hx r (λs' I'=>⟨_,H,I',h⟩) hf)]
def gNil:TGs:=λvs σ H Q=>vs=[]/\Q σ H
def gCons(t:TG)(u:TGs):TGs:=λvs σ H Q=>∃ v r,vs=v::r/\t v σ H λσ' H'=>u r σ' H' Q
def vZ:PGs X [] gNil:=by
 intro Ik s σ H vs us Q I r h;obtain⟨e,h⟩:=h;subst e;cases r;rwa[assignInOrder_nil ⟨σ,H,I,h⟩]
def yG{e:t6}{es:List t6}{t:TG}{u:TGs}(h1:PG X e t)(h2:PGs X es u)
  (hs:(assignEach (e::es) X.env).map (·.2)=assign e X.env::(assignEach es X.env).map (·.2):=by rfl):PGs X (e::es) (gCons t u):=by
 intro Ik s σ H vs us Q I r h;obtain⟨v,vr,e1,h⟩:=h;subst e1;cases r with
 | cons r rr =>
  rw[hs];erw[assignInOrder_cons (thn (h1 Ik s σ H _ _ _ I r h) λ_ s1 ⟨σ1,H1,I1,q1⟩=>?_)];rwa[h2 Ik s1 σ1 H1 _ _ Q I1 rr q1]
def gTup(K:b7)(n:Nat)(t:TGs):TG:=λv σ H Q=>∃ a xs,v=.ref a/\SqT K H a xs/\xs.length=n/\t xs σ H Q
def zp{es:List t6}{k:Nat}{t:TGs}{n:Nat}(hc:X.calm=Ii)(h:PGs X es t)
  (hn:(assignEach es X.env).length=n:=by rfl) (hst:(assignEach es X.env).findIdx? (·.1)=none:=by rfl):PG X (.Tuple es k pos) (gTup X.K n t):=by
 intro Ik s σ H v u Q I r hw;obtain⟨a,xs,e1,hq,hl,hw⟩:=hw;subst e1;cases r;obtain⟨its,rv,ht,hz⟩:=I.tuple hq;erw[assign_Tuple_tuple (I.ok.hd hc) ht (by simp[hn,<- hl,rv.length]) hst λh' hx=>?_];have I1:Inv X Ik σ H { s with heap:=h' }:=I.kept (t':=s.toks) λb o e=>hx b o (l6 (f9 e)) e;exact h Ik _ σ H xs _ Q I1 (by simpa using rv) hw
def gSub(to ti:TE)(t:Tc):TG:=λv σ H Q=>to σ H λo H1=>ti σ H1 λi H2=>t o i v H2 λH3=>Q σ H3
def Ur{o i:t6}{to ti:TE}{t:Tc}(ho:PE X o to)(hi:PE X i ti)(hs:PSet X t)
  (ha:∀ v,assign (.Subscript o i pos) X.env v=(do
   let ov <- holding [v] (eval o X.env)
   let iv <- holding [v,ov] (eval i X.env)
   standAt pos
   holding [v,ov,iv] (setItem ov iv v)
   release [v,ov,iv] []):=by intro _; rfl):PG X (.Subscript o i pos) (gSub to ti t):=by
 intro Ik s σ H v u Q I r h;rw[ha];erw[ac (Aw (thn (ho Ik s σ H _ I h) λov s1 ⟨x,H1,I1,r1,q1⟩=>?_))];erw[ac (Aw (thn (hi Ik s1 σ H1 _ I1 q1) λiv s2 ⟨y,H2,I2,r2,q2⟩=>?_))];erw[ac (C3 (ac (Aw (thn (hs Ik s2 σ H2 x y v ov iv u _ I2 r1 r2 r q2) λ_ s3 ⟨H3,I3,q3⟩=>?_))))];rwa[wpAny_release ⟨σ,H3,I3,q3⟩]
def Tx(te:TE)(g:TG):TS:=λD σ H=>te σ H λx H1=>g x σ H1 D.nx
def pS{tg e:t6}{te:TE}{g:TG}(he:PE X e te)(hg:PG X tg g)(hs:swapsWithSole [tg] e pos.line X.env=pure false:=by rfl)(hw:swappedStores [tg] e X.env=pure none:=by rfl)
  (h1:(assignEach [tg] X.env).map (·.2)=[assign tg X.env]:=by rfl):PS X (.Assign [tg] e pos) (Tx te g):=by
 intro Ik s σ H D I h;erw[wpAny_Assign_stores (thn (he Ik s σ H _ I h) λv s1 ⟨x,H1,I1,r1,q1⟩=>?_) hs hw];rw[h1];rwa[thn (hg Ik s1 σ H1 x v _ I1 r1 q1) λ_ s2 q=>q]
def qT{i:Nat}{x:g8}{e:t6}{te:TE}{pos':Ck}(hN:X.N.Nodup)(hi:X.N[i]?=Ig x)(hx:Loc X.env.scope x)(he:PE X e te)(hs:swapsWith e (Ig (.Name x pos')) pos.line X.env=pure false:=by rfl)(hf:X.fn x=Ii\/X.env.scope.names.lookup x=Ig .local:=by first | exact .inl rfl | exact .inr rfl | assumption) :
  PS X (.Assign [.Name x pos'] e pos) (Tx te (iM i)):=by
 intro Ik s σ H D I h;erw[wpAny_Assign_Name (thn (he Ik s σ H _ I h) λv s1 ⟨y,H1,I1,r1,q1⟩=>?_) hs];rwa[pe I1 hN hi hx r1 (λs2 I2=>⟨_,H1,I2,q1⟩) hf]
def tPar(i j:Nat)(ta:TA):TS:=λD σ H=>ta σ H λvs H1=>∃ v w,vs=[v,w]/\D.nx ((σ.set i (Ig v)).set j (Ig w)) H1
def aX{i j:Nat}{x y:g8}{a b:t6}{ta:TA}{px py pt:Ck}{kt k2 pt2}(hc:X.calm=Ii)(hN:X.N.Nodup)(hi:X.N[i]?=Ig x)(hj:X.N[j]?=Ig y)(hij:i≠j)
  (hx:X.env.scope.names.lookup x=Ig .local) (hy:X.env.scope.names.lookup y=Ig .local) (ha:PA X [a,b] ta)
  (hw:swappedStores [.Tuple [.Name x px,.Name y py] kt pt] (.Tuple [a,b] k2 pt2) X.env=pure (Ig [x,y]))
  (hs:swapsWithSole [.Tuple [.Name x px,.Name y py] kt pt] (.Tuple [a,b] k2 pt2) pos.line X.env=pure false:=by rfl) :
  PS X (.Assign [.Tuple [.Name x px,.Name y py] kt pt] (.Tuple [a,b] k2 pt2) pos) (tPar i j ta):=by
 intro Ik s σ H D I h;rw[exec_Assign_arm];refine ac (C3 ?_);rw[hs];refine ac (d7 ?_);rw[y7 (by decide)];refine ac (Tuple_ (thn (ha _ Ik s σ H _ I h) λus s1 ⟨vs,H1,I1,r1,q1⟩=>?_));obtain⟨v,w,e1,q1⟩:=q1;subst e1;obtain⟨u1,u2,rfl,rv,rw'⟩:∃ u1 u2,us=[u1,u2]/\xE v u1/\xE w u2:=by
  cases r1 with
  | cons p q =>
   cases q with
   | cons p' q' =>
    cases q';rwa[_,_,U,p,p']
 refine p9 ?_ (by show 2<=sizeLine; decide);have I2:Inv X Ik σ H1 { s1 with heap:=s1.heap.push { cls:=.type "tuple",data:=.seq [u1,u2].toArray } }:=I1.kept (t':=s1.toks) λb o e=>c9 _ e;rw[hw];erw[ac (d7 ?_)];show wpAny (model X.prog X.w) X.A (do rule "assign.swapped-stores"; let items <- unpackItems (.ref s1.heap.objs.size) 2 Ih; assignInOrder [λv=>bindName X.env y v,λv=>bindName X.env x v] items.reverse; pure Flow.next) _ _ _;erw[ac (Dw (ac (unpackItems_tuple (items:=#[u1,u2]) (I.ok.hd hc) (Ib s1.heap _) λh' hx'=>?_)))];have I3:=I2.kept (h':=h') (t':=s1.toks) λb o e=>hx' b o (l6 (f9 e)) e;show wpAny _ _ (assignInOrder [λv=>bindName X.env y v,λv=>bindName X.env x v] [u2,u1] >>= λ_=>pure Flow.next) _ _ _;erw[ac (assignInOrder_cons (wpAny_bindName (pe I3 hN hj (.inl hy) rw' (λs2 I4=>?_) (.inr hy))))];erw[assignInOrder_cons (wpAny_bindName (pe I4 hN hi (.inl hx) rv (λs3 I5=>assignInOrder_nil (d7 ?_)) (.inr hx)))];rw[List.set_comm _ _ (AG hij)] at I5;rwa[_,H1,I5,q1]
end

section
variable{X:Cx}{pos:Ck}
def XQ(c:TT)(tb:TS):TS:=λD σ H=>∃ W:Nat->St->Hp->Prop,(∃ m,W m σ H)/\∀ m σ H,W m σ H ->
 c σ H λb H1=>if b=Ii then ∃ N:St->Hp->Prop,(∀ σ' H',N σ' H'->∃ m',m'<m/\W m' σ' H')/\tb { D with nx:=N,ct:=N,bk:=D.nx } σ H1 else D.nx σ H1
def dk{c:t6}{body:List Ah}{tc:TT}{tb:TS}(hp:PassesOwn (model X.prog X.w) X.A X.env X.xe)(hc:PT X c tc)(hb:PSs X body tb):PS X (.While c body [] pos) (XQ tc tb):=by
 intro Ik s σ H D I h;obtain⟨W,⟨m0,w0⟩,turn⟩:=h;erw[wpAny_While (codeAny_whileLoop (λn s'=>∃ σ' H',Inv X Ik σ' H' s'/\W n σ' H') ?_ m0 ⟨σ,H,I,w0⟩)];rintro n s1 ⟨σ1,H1,I1,w1⟩;erw[BG hp (thn (hc Ik s1 σ1 H1 _ I1 (turn n σ1 H1 w1)) λb s2 ⟨H2,I2,q2⟩=>?_)];cases b with
 | true =>
  obtain⟨N,hN,q2⟩:=q2;rw[y9 rfl];erw[BG hp (thn (hb Ik s2 σ1 H2 _ I2 q2) λf s3 q3=>?_)];cases f with
  | next =>
   obtain⟨σ3,H3,I3,n3⟩:=q3;obtain⟨m',hm,w3⟩:=hN σ3 H3 n3;rwa[m',hm,σ3,H3,I3,w3]
  | cont =>
   obtain⟨σ3,H3,I3,n3⟩:=q3;obtain⟨m',hm,w3⟩:=hN σ3 H3 n3;rwa[m',hm,σ3,H3,I3,w3]
  | brk=>rwa[q3]
  | ret v=>rwa[q3]
 | false =>
  rw[y7 h9];rwa[CF ⟨σ1,H2,I2,q2⟩]
end

structure It where
 go:Nat->Hp->Prop
 yld:Nat->Hp->V->Hp->Prop
 stop:Nat->Hp->Prop
def fj(X:Cx)(Ik:List (b9×AL))(H:Hp)(b:b9):Prop :=
 H b=Ih/\b≠X.env.locals/\b ∉ X.fs/\(b∈X.ex\/X.s₀.heap.objs.size<=b)/\(∀ x c,X.env.cells.lookup x=Ig c->c≠b)/\∀ p∈X.pn++Ik,p.1≠b
def Inv.fpOk{X:Cx}{Ik:List (b9×AL)}{σ:St}{H H':Hp}{s:d4}{b:b9}(I:Inv X Ik σ H s)(hb:s.heap.objs.size<=b)(hn:H' b=Ih):fj X Ik H' b:=by
 erw[hn,BW (m5 I.lt hb),I.nofs hb,.inr (j8 I.sz hb),λx c e z=>?_,λp hp z=>?_]
 ·obtain⟨v,q⟩:=I.cell x c e;rwa[x4 (m5 q.lt (by rw[z]; exact hb)) (Bc _)]
 ·rwa[x4 (m5 (f9 (I.pin p hp).1) (by rw[z]; exact hb)) (Bc _)]
structure Yd(P:j9)(w:n5)(K:b7)(tg:t6)(J:It)(fp:List b9)(it:b9)(tn:Nat->n9->Prop):Prop where
 mem:it∈fp
 obj:∀ i h,tn i h->∀ b∈fp,∃ o,h.get? b=Ig o/\∀ v,o.data≠.cell v
 keep:∀ i h h',tn i h->(∀ b∈fp,∀ o,h.get? b=Ig o->h'.get? b=Ig o)->tn i h'
 item:∀(X:Cx),X.prog=P->X.w=w->X.K=K->X.calm=Ii->∀(i:Nat)(Ik:List (b9×AL))(s:d4)(σ:St)(H:Hp)(E:c7->d4->Prop),Inv X Ik σ H s->(∀ b∈fp,fj X Ik H b)->tn i s.heap->J.go i H ->
  wpAny (model P w) X.A (pyNext (.ref it)) (λr s1=>∃ u,r=Ig u /\
   wpAny (model P w) X.A (letOwnedTupleGo tg (.ref it) u) (λ_ s2=>∃ x H',Inv X Ik σ H' s2/\xE x u/\J.yld i H x H'/\tn (i+1) s2.heap/\∀ b∈fp,H' b=Ih) E s1) E s
 done:∀(X:Cx),X.prog=P->X.w=w->X.K=K->X.calm=Ii->∀(i:Nat)(Ik:List (b9×AL))(s:d4)(σ:St)(H:Hp)(E:c7->d4->Prop),Inv X Ik σ H s->(∀ b∈fp,fj X Ik H b)->tn i s.heap->J.stop i H ->
  wpAny (model P w) X.A (pyNext (.ref it)) (λr s1=>r=Ih/\Inv X Ik σ H s1) E s
 self:∀(A:Ab)(i:Nat)(s:d4)(Q:c7->d4->Prop)(E:c7->d4->Prop),tn i s.heap->Q (.ref it) s->wpAny (model P w) A (pyIter (.ref it)) Q E s
abbrev TI:=St->Hp->(It->Hp->Prop)->Prop
def PIE(X:Cx)(Ik:List (b9×AL))(σ:St)(tg:t6)(R:It->Hp->Prop)(itv:c7)(s2:d4):Prop :=
 ∃(it:b9)(fp:List b9)(tn:Nat->n9->Prop)(J:It)(H':Hp),itv=.ref it/\Inv X Ik σ H' s2/\Yd X.prog X.w X.K tg J fp it tn/\tn 0 s2.heap/\(∀ b∈fp,fj X Ik H' b)/\R J H'
def PI(X:Cx)(tg iter:t6)(wi:TI):Prop :=
 ∀(Ik:List (b9×AL))(s:d4)(σ:St)(H:Hp)(R:It->Hp->Prop),Inv X Ik σ H s->wi σ H R ->
  wpAny (model X.prog X.w) X.A (eval iter X.env) (λv s1=>wpAny (model X.prog X.w) X.A (pyIter v) (PIE X Ik σ tg R) X.xe s1) X.xe s

def fB{M:Hw}{A:Ab}{E:c7->d4->Prop}{s:d4}{tg:t6}{it:b9}{u:c7}{o:AL}{n:String}{vs:Array c7}{Q:Unit->d4->Prop}(ho:s.heap.get? it=Ig o)(hc:o.cls=.type n)(hd:o.data=.fields vs)
  (hn:["enumerate","zip","dict_itemiterator","dict_reverseitemiterator","odict_iterator","itertools.zip_longest","itertools.pairwise"].contains n=Ij) (hQ:Q () s):wpAny M A (letOwnedTupleGo tg (.ref it) u) Q E s:=by
 unfold letOwnedTupleGo;cases tg <;> first
  | exact d7 hQ
  | (cases u <;> first
    | exact d7 hQ
    | (refine ac (wpAny_load ho ?_)
       rw[hc,hd];show wpAny M A (if (["enumerate","zip","dict_itemiterator","dict_reverseitemiterator","odict_iterator","itertools.zip_longest","itertools.pairwise"].contains n&&vs[0]? == Ig (rawInt _))=Ii then _ else _) Q E s;rw[y7 (by intro h; rw[hn,Dx] at h; cases h)];rwa[d7 hQ]))

def Itl(K:b7)(a:b9):It :=
 ⟨λi H=>∃ xs x,SqL K H a xs/\xs[i]?=Ig x,λi H x H'=>H'=H/\∀ xs,SqL K H a xs->xs[i]?=Ig x,λi H=>∃ xs,SqL K H a xs/\xs.length<=i⟩
def Itt(K:b7)(a:b9):It :=
 ⟨λi H=>∃ xs x,SqT K H a xs/\xs[i]?=Ig x,λi H x H'=>H'=H/\∀ xs,SqT K H a xs->xs[i]?=Ig x,λi H=>∃ xs,SqT K H a xs/\xs.length<=i⟩
def Itr(lo:Int)(n:Nat):It:=⟨λi _=>i<n,λi H x H'=>H'=H/\x=.int (lo+i),λi _=>n<=i⟩
def jq{P:j9}{w:n5}{K:b7}{tg:t6}(a it:b9):Yd P w K tg (Itl K a) [it] it (λi h=>h.IsListIter it a i) where
 mem:=by simp
 obj:=λi h st b hb=>by
  have e:b=it:=by simpa using hb
  subst e;obtain⟨o,e,c,d⟩:=st;exact⟨o,e,λv z=>by rw[d] at z; cases z⟩
 keep:=λi h h' st k=>st.at λo e=>k it (by simp) o e
 item:=by
  intro X hP hw hK hc i Ik s σ H E I hf st hg;subst hP hw hK;obtain⟨xs,x,hq,hx⟩:=hg;obtain⟨its,rv,p,hz⟩:=I.list hq;obtain⟨u,hu,ru⟩:=rv.get hx;obtain⟨f0,f1,f2,f3,f4,f5⟩:=hf it (by simp);refine Eg st p.isList (x:=u) (by simpa using hu) λh' st' sb=>?_;have I1:Inv X Ik σ H { s with heap:=h' }:=I.turned (t':=s.toks) (λb o hb e=>(sb.2 b hb).trans e) f0 f1 f3 f4 f5;obtain⟨o,e,c,d⟩:=id st';exact⟨u,U,fB (s:={ s with heap:=h' }) e c d (by decide) ⟨x,H,I1,ru,⟨U,λys hy=>by rw[I.list_inj hy hq]; rwa[hx]⟩,st',λb hb=>(hf b hb).1⟩⟩
 done:=by
  intro X hP hw hK hc i Ik s σ H E I hf st hg;subst hP hw hK;obtain⟨xs,hq,hx⟩:=hg;obtain⟨its,rv,p,hz⟩:=I.list hq;obtain⟨f0,f1,f2,f3,f4,f5⟩:=hf it (by simp);have hl:=rv.length;rwa[wpAny_pyNext_list_end (I.ok.hd hc) st p.isList (by simp; lia) λh' eb=>⟨rfl,I.turned (t':=s.toks) (λb o hb e=>eb b o hb e) f0 f1 f3 f4 f5⟩]
 self:=λ_ _ _ _ _ st h=>EI st h
def mf{P:j9}{w:n5}{K:b7}{tg:t6}(a it:b9):Yd P w K tg (Itt K a) [it] it (λi h=>h.IsTupleIter it a i) where
 mem:=by simp
 obj:=λi h st b hb=>by
  have e:b=it:=by simpa using hb
  subst e;obtain⟨o,e,c,d⟩:=st;exact⟨o,e,λv z=>by rw[d] at z; cases z⟩
 keep:=λi h h' st k=>st.at λo e=>k it (by simp) o e
 item:=by
  intro X hP hw hK hc i Ik s σ H E I hf st hg;subst hP hw hK;obtain⟨xs,x,hq,hx⟩:=hg;obtain⟨its,rv,p,hz⟩:=I.tuple hq;obtain⟨u,hu,ru⟩:=rv.get hx;obtain⟨f0,f1,f2,f3,f4,f5⟩:=hf it (by simp);refine wpAny_pyNext_tuple_item st (show s.heap.IsTuple a its.toArray from p) (x:=u) (by simpa using hu) λh' st' sb=>?_;have I1:Inv X Ik σ H { s with heap:=h' }:=I.turned (t':=s.toks) (λb o hb e=>(sb.2 b hb).trans e) f0 f1 f3 f4 f5;obtain⟨o,e,c,d⟩:=id st';exact⟨u,U,fB (s:={ s with heap:=h' }) e c d (by decide) ⟨x,H,I1,ru,⟨U,λys hy=>by rw[I.tuple_inj hy hq]; rwa[hx]⟩,st',λb hb=>(hf b hb).1⟩⟩
 done:=by
  intro X hP hw hK hc i Ik s σ H E I hf st hg;subst hP hw hK;obtain⟨xs,hq,hx⟩:=hg;obtain⟨its,rv,p,hz⟩:=I.tuple hq;obtain⟨f0,f1,f2,f3,f4,f5⟩:=hf it (by simp);have hl:=rv.length;exact wpAny_pyNext_tuple_end (I.ok.hd hc) st (show s.heap.IsTuple a its.toArray from p) (by simp; lia) λh' eb=>⟨rfl,I.turned (t':=s.toks) (λb o hb e=>eb b o hb e) f0 f1 f3 f4 f5⟩
 self:=λ_ _ _ _ _ st h=>wpAny_pyIter_tupleiter st h
def cu{P:j9}{w:n5}{K:b7}{tg:t6}(it:b9)(lo:Int)(n:Nat):Yd P w K tg (Itr lo n) [it] it (λi h=>IsRangeIter h it (lo+(i:Nat)*1) ((n:Int)-(i:Nat)) 1) where
 mem:=by simp
 obj:=λi h st b hb=>by
  have e:b=it:=by simpa using hb
  subst e;exact⟨_,st,λv z=>by
   have z':Data.fields _=Data.cell v:=z;cases z'⟩
 keep:=λi h h' st k=>k it (by simp) _ st
 item:=by
  intro X hP hw hK hc i Ik s σ H E I hf st hg;subst hP hw hK;obtain⟨f0,f1,f2,f3,f4,f5⟩:=hf it (by simp);have W:=Walks.range (prog:=X.prog) (w:=X.w) (I.ok.hd hc) it lo 1 n;erw[W.item i s _ _ hg st λv h' tk hv st' kk=>?_];obtain⟨t,rfl⟩:=hv;have I1:Inv X Ik σ H { s with heap:=h',toks:=tk }:=I.turned (λb o hb e=>kk b o (by simpa using hb) e) f0 f1 f3 f4 f5;refine⟨_,U,fB (s:={ s with heap:=h',toks:=tk }) (n := "range_iterator") st' rfl rfl (by decide) ⟨.int (lo+i),H,I1,⟨t,?_⟩,⟨U,U⟩,st',λb hb=>(hf b hb).1⟩⟩;rw[Int.mul_one]
 done:=by
  intro X hP hw hK hc i Ik s σ H E I hf st hg;subst hP hw hK;obtain⟨f0,f1,f2,f3,f4,f5⟩:=hf it (by simp);exact wpAny_pyNext_range_end (I.ok.hd hc) st (by have:n<=i:=hg; lia) λh' eb=>⟨rfl,I.turned (t':=s.toks) (λb o hb e=>eb b o hb e) f0 f1 f3 f4 f5⟩
 self:=λ_ _ _ _ _ st h=>wpAny_pyIter_rangeiter st h
end L2

namespace L2
section
variable{X:Cx}{tg:t6}
def iList(K:b7)(tl:TE):TI:=λσ H R=>tl σ H λx H1=>∃ a,x=.ref a/\(∃ xs,SqL K H1 a xs)/\R (Itl K a) H1
def iTup(K:b7)(tl:TE):TI:=λσ H R=>tl σ H λx H1=>∃ a,x=.ref a/\(∃ xs,SqT K H1 a xs)/\R (Itt K a) H1
def Vt{l:t6}{tl:TE}(hl:PE X l tl):PI X tg l (iList X.K tl):=by
 intro Ik s σ H R I h;erw[thn (hl Ik s σ H _ I h) λv s1 ⟨x,H1,I1,r1,q1⟩=>?_];obtain⟨a,e,⟨xs,hq⟩,q⟩:=q1;subst e;cases r1;obtain⟨its,rv,p,hz⟩:=I1.list hq;erw[BJ p.isList ?_];erw[s1.heap.objs.size,[s1.heap.objs.size],_,_,H1,U,I1.kept (t':=s1.toks) λb o e=>c9 _ e,jq a _,⟨_,e7 _ rfl,U,U⟩,λb hb=>?_,q];have e:b=s1.heap.objs.size:=by simpa using hb
 subst e;rwa[I1.fpOk (d6 _) (I1.hok.fresh (d6 _))]
def ap{l:t6}{tl:TE}(hl:PE X l tl):PI X tg l (iTup X.K tl):=by
 intro Ik s σ H R I h;erw[thn (hl Ik s σ H _ I h) λv s1 ⟨x,H1,I1,r1,q1⟩=>?_];obtain⟨a,e,⟨xs,hq⟩,q⟩:=q1;subst e;cases r1;obtain⟨its,rv,p,hz⟩:=I1.tuple hq;refine Dy (show s1.heap.IsTuple a its.toArray from p) ?_;erw[s1.heap.objs.size,[s1.heap.objs.size],_,_,H1,U,I1.kept (t':=s1.toks) λb o e=>c9 _ e,mf a _,⟨_,e7 _ rfl,U,U⟩,λb hb=>?_,q];have e:b=s1.heap.objs.size:=by simpa using hb
 subst e;rwa[I1.fpOk (d6 _) (I1.hok.fresh (d6 _))]
def eA{Ik:List (b9×AL)}{σ:St}{H:Hp}{s:d4}{R:It->Hp->Prop}{E:c7->d4->Prop}{lo hi:Int}{t u v:Ia}{tk:Nat}(I:Inv X Ik σ H s)(h1 : -(2^62)<=lo)(h2:lo<2^62)(h3 : -(2^62)<=hi)(h4:hi<2^62)
  (q:R (Itr lo (hi-lo).toNat) H):wpAny (model X.prog X.w) X.A (pyIter (.ref s.heap.objs.size)) (PIE X Ik σ tg R) E { s with heap:=s.heap.push { cls:=.type "range",data:=.fields #[.int lo t,.int hi u,.int 1 v] },toks:=tk }:=by
 refine wpAny_pyIter_range (IsRange.new ..) (small_one h1 h2 h3 h4) ?_;have I1:Inv X Ik σ H { s with heap:=s.heap.push { cls:=.type "range",data:=.fields #[.int lo t,.int hi u,.int 1 v] },toks:=tk }:=I.kept λb o e=>c9 _ e;refine⟨(s.heap.push { cls:=.type "range",data:=.fields #[.int lo t,.int hi u,.int 1 v] }).objs.size,[(s.heap.push { cls:=.type "range",data:=.fields #[.int lo t,.int hi u,.int 1 v] }).objs.size],_,_,H,U,
  I1.kept (t':=tk) λb o e=>c9 _ e,cu _ lo (hi-lo).toNat,?_,λb hb=>?_,q⟩
 ·have e1:lo+((0:Nat):Int)*1=lo:=by simp
  have e2:(((hi-lo).toNat:Nat):Int)-((0:Nat):Int)=Hx lo hi 1:=by rw[rangeSize_one]; split <;> lia
  show IsRangeIter _ _ (lo+((0:Nat):Int)*1) ((((hi-lo).toNat:Nat):Int)-((0:Nat):Int)) 1;rw[e1,e2];rwa[e7 _ rfl]
 ·have e:b=(s.heap.push { cls:=.type "range",data:=.fields #[.int lo t,.int hi u,.int 1 v] }).objs.size:=by simpa using hb
  subst e;rwa[I1.fpOk (d6 _) (I1.hok.fresh (d6 _))]
def iRng1(ta:TA):TI:=λσ H R=>ta σ H λvs H1=>∃ j:Int,vs=[.int j]/\-(2^62)<=j/\j<2^62/\R (Itr 0 j.toNat) H1
def iRng2(ta:TA):TI:=λσ H R=>ta σ H λvs H1=>∃ i j:Int,vs=[.int i,.int j]/\(-(2^62)<=i/\i<2^62/\-(2^62)<=j/\j<2^62)/\R (Itr i (j-i).toNat) H1
def sU{a:t6}{ta:TA}{p pos:Ck}(hg:Gl X "range")(hm:X.mg "range" = Ih)(ha:PA X [a] ta)(hs:starEach [a] X.env=[(Ij,eval a X.env)]:=by rfl):PI X tg (.Call (.Name "range" p) [a] [] pos) (iRng1 ta):=by
 intro Ik s σ H R I h;erw[Call_ (pY I hg hm boot_range (AV (thn (ha pos Ik s σ H _ I h) λus s1 ⟨vs,H1,I1,r1,q1⟩=>?_) hs rfl))];obtain⟨j,e,q1,q2,q⟩:=q1;subst e;cases r1 with
 | cons r rr =>
  cases rr;obtain⟨t,rfl⟩:=r;exact call_range_1 (eA I1 (by lia) (by lia) q1 q2 (by simpa using q))
def iU{a b:t6}{ta:TA}{p pos:Ck}(hg:Gl X "range")(hm:X.mg "range" = Ih)(ha:PA X [a,b] ta)(hs:starEach [a,b] X.env=[(Ij,eval a X.env),(Ij,eval b X.env)]:=by rfl)(hs2:starEach [b] X.env=[(Ij,eval b X.env)]:=by rfl) :
  PI X tg (.Call (.Name "range" p) [a,b] [] pos) (iRng2 ta):=by
 intro Ik s σ H R I h;erw[Call_ (pY I hg hm boot_range (AV (thn (ha pos Ik s σ H _ I h) λus s1 ⟨vs,H1,I1,r1,q1⟩=>?_) (by rw[hs,hs2]) (by rw[hs2]; rfl)))];obtain⟨i,j,e,⟨q1,q2,q3,q4⟩,q⟩:=q1;subst e;cases r1 with
 | cons r rr =>
  cases rr with
  | cons r' rr =>
   cases rr;obtain⟨t,rfl⟩:=r;obtain⟨t',rfl⟩:=r';rwa[call_range_2 (eA I1 q1 q2 q3 q4 q)]

def tFor(wi:TI)(g:TG)(tb:TS):TS:=λD σ H=>wi σ H λJ H1=>∃ W:Nat->Nat->St->Hp->Prop,(∃ m,W 0 m σ H1)/\∀ i m σ H,W i m σ H ->
 (J.stop i H/\D.nx σ H)\/(J.go i H/\∃ N:St->Hp->Prop,(∀ σ' H',N σ' H'->∃ m',m'<m/\W (i+1) m' σ' H')/\∀ x H',J.yld i H x H'->g x σ H' λσ2 H2=>tb { D with nx:=N,ct:=N,bk:=D.nx } σ2 H2)
def mH(fp:List b9)(h:n9):List (b9×AL):=fp.filterMap λb=>(h.get? b).map λo=>(b,o)
def tV{fp:List b9}{h:n9}{b:b9}{o:AL}(hb:b∈fp)(e:h.get? b=Ig o):(b,o)∈mH fp h:=CG.mpr ⟨b,hb,by rw[e]; rfl⟩
def Zf{fp:List b9}{h:n9}{p:b9×AL}(hp:p∈mH fp h):p.1∈fp/\h.get? p.1=Ig p.2:=by
 obtain⟨b,hb,e⟩:=CG.mp hp;cases q:h.get? b with
 | none=>rw[q] at e; cases e
 | some o =>
  rw[q] at e;have e':(b,o)=p:=p5 e;subst e';rwa[hb,q]
def Inv.pinned{Ik:List (b9×AL)}{σ:St}{H:Hp}{s:d4}{fp:List b9}(I:Inv X Ik σ H s)(hf:∀ b∈fp,fj X Ik H b)(ho:∀ b∈fp,∃ o,s.heap.get? b=Ig o/\∀ v,o.data≠.cell v):Inv X (Ik++mH fp s.heap) σ H s :=
 I.pins_of λp hp=>(m7.mp hp).elim (λz=>I.pin p (o0 _ z)) λz=>by
  obtain⟨hb,e⟩:=Zf z;obtain⟨f0,f1,f2,_⟩:=hf p.1 hb;obtain⟨o,e',d⟩:=ho p.1 hb;rw[e] at e'; cases e';rwa[e,f0,f1,f2,d]
def Inv.unpinned{Ik pl:List (b9×AL)}{σ:St}{H:Hp}{s:d4}(I:Inv X (Ik++pl) σ H s):Inv X Ik σ H s:=I.pins_of λp hp=>I.pin p (o0 _ (BI _ hp))
def sZ{iter:t6}{body:List Ah}{wi:TI}{g:TG}{tb:TS}{pos:Ck}(hp:PassesOwn (model X.prog X.w) X.A X.env X.xe)(hc:X.calm=Ii)(hi:PI X tg iter wi)(hg:PG X tg g)(hb:PSs X body tb)
  (hs:∀ x,foldedSetIterable iter X.env x=pure x:=by intro _; rfl):PS X (.For tg iter body [] pos) (tFor wi g tb):=by
 intro Ik s σ H D I h;erw[wpAny_For (thn (hi Ik s σ H _ I h) λv s1 h1=>thn h1 λitv s2 h2=>?_) hs];obtain⟨it,fp,tn,J,H2,e,I2,T,st2,f2,W,⟨m0,w0⟩,turn⟩:=h2;subst e;have stat:∀{H':Hp},(∀ b∈fp,H' b=Ih)->∀ b∈fp,fj X Ik H' b:=λhn b hb=>⟨hn b hb,(f2 b hb).2⟩;erw[codeAny_forLoop_any (λn s'=>∃ i σ' H',Inv X Ik σ' H' s'/\tn i s'.heap/\(∀ b∈fp,H' b=Ih)/\W i n σ' H') ?_ m0 ⟨0,σ,H2,I2,st2,λb hb=>(f2 b hb).1,w0⟩];rintro n s3 ⟨i,σ3,H3,I3,st3,fr3,w3⟩;rcases turn i n σ3 H3 w3 with ⟨stop,qn⟩ | ⟨go,N,hN,step⟩
 ·erw[BG hp (thn (T.done X rfl rfl rfl hc i Ik s3 σ3 H3 X.xe I3 (stat fr3) st3 stop) λr s4 ⟨hr,I4⟩=>?_)];subst hr;rwa[CF ⟨σ3,H3,I4,qn⟩]
 ·refine BG hp (thn (T.item X rfl rfl rfl hc i Ik s3 σ3 H3 X.xe I3 (stat fr3) st3 go) λr s4 ⟨u,hr,h4⟩=>?_);subst hr;refine BG hp (thn h4 λ_ s5 ⟨x,H5,I5,r5,y5,st5,fr5⟩=>?_);have I5':=I5.pinned (stat fr5) (T.obj _ _ st5);refine BG hp (thn (hg _ s5 σ3 H5 x u _ I5' r5 (step x H5 y5)) λ_ s6 ⟨σ6,H6,I6,q6⟩=>?_);refine BG hp (thn (hb _ s6 σ6 H6 _ I6 q6) λf s7 q7=>?_);have again:∀{σ7:St}{H7:Hp},Inv X (Ik++mH fp s5.heap) σ7 H7 s7->N σ7 H7->∃ m,m<n/\∃ i σ' H',Inv X Ik σ' H' s7/\tn i s7.heap/\(∀ b∈fp,H' b=Ih)/\W i m σ' H':=λ{σ7 H7} I7 n7=>by
   obtain⟨m',hm,w7⟩:=hN σ7 H7 n7;erw[m',hm,i+1,σ7,H7,I7.unpinned,T.keep _ _ _ st5 λb hb o e=>(I7.pin (b,o) (o0 _ (o0 _ (tV hb e)))).1,λb hb=>?_,w7];obtain⟨o,e,d⟩:=T.obj _ _ st5 b hb;exact(I7.pin (b,o) (o0 _ (o0 _ (tV hb e)))).2.1
  cases f with
  | next=>obtain⟨σ7,H7,I7,n7⟩:=q7; rwa[again I7 n7]
  | cont=>obtain⟨σ7,H7,I7,n7⟩:=q7; rwa[again I7 n7]
  | brk=>obtain⟨σ7,H7,I7,q7⟩:=q7; rwa[σ7,H7,I7.unpinned,q7]
  | ret v=>obtain⟨x7,σ7,H7,I7,r7,q7⟩:=q7; rwa[x7,σ7,H7,I7.unpinned,r7,q7]
end

def ZE{K:b7}{a:b9}{xs:List V}{g:TG}{tb:TS}{D:dE}{σ:St}{H:Hp}(Pv:Nat->St->Hp->Prop)(h0:Pv 0 σ H)(hl:∀ i σ H,i<=xs.length->Pv i σ H->SqL K H a xs)
  (hs:∀ i x σ H,xs[i]?=Ig x->Pv i σ H->g x σ H λσ2 H2=>tb { D with nx:=Pv (i+1),ct:=Pv (i+1),bk:=D.nx } σ2 H2) (hd:∀ σ H,Pv xs.length σ H->D.nx σ H) :
  ∃ W:Nat->Nat->St->Hp->Prop,(∃ m,W 0 m σ H)/\∀ i m σ H,W i m σ H ->
   ((Itl K a).stop i H/\D.nx σ H)\/((Itl K a).go i H/\∃ N:St->Hp->Prop,(∀ σ' H',N σ' H'->∃ m',m'<m/\W (i+1) m' σ' H')/\∀ x H',(Itl K a).yld i H x H'->g x σ H' λσ2 H2=>tb { D with nx:=N,ct:=N,bk:=D.nx } σ2 H2):=by
 exists λi m σ H=>m=xs.length-i/\i<=xs.length/\Pv i σ H,⟨xs.length,by simp,r9 _,h0⟩;rintro i m σ H ⟨rfl,hi,p⟩;have q:=hl i σ H hi p;by_cases hlt:i<xs.length
 ·erw[.inr ⟨⟨xs,xs[i],q,by simp[hlt]⟩,Pv (i+1),λσ' H' p'=>⟨xs.length-(i+1),by lia,rfl,hlt,p'⟩,λx H' y=>?_⟩];obtain⟨e,y⟩:=y;subst e;rwa[hs i x σ _ (y xs q) p]
 ·have e:i=xs.length:=by lia
  subst e;rwa[.inl ⟨⟨xs,q,d6 _⟩,hd σ H p⟩]
def gH{K:b7}{a:b9}{xs:List V}{g:TG}{tb:TS}{D:dE}{σ:St}{H:Hp}(Pv:Nat->St->Hp->Prop)(h0:Pv 0 σ H)(hl:∀ i σ H,i<=xs.length->Pv i σ H->SqT K H a xs)
  (hs:∀ i x σ H,xs[i]?=Ig x->Pv i σ H->g x σ H λσ2 H2=>tb { D with nx:=Pv (i+1),ct:=Pv (i+1),bk:=D.nx } σ2 H2) (hd:∀ σ H,Pv xs.length σ H->D.nx σ H) :
  ∃ W:Nat->Nat->St->Hp->Prop,(∃ m,W 0 m σ H)/\∀ i m σ H,W i m σ H ->
   ((Itt K a).stop i H/\D.nx σ H)\/((Itt K a).go i H/\∃ N:St->Hp->Prop,(∀ σ' H',N σ' H'->∃ m',m'<m/\W (i+1) m' σ' H')/\∀ x H',(Itt K a).yld i H x H'->g x σ H' λσ2 H2=>tb { D with nx:=N,ct:=N,bk:=D.nx } σ2 H2):=by
 exists λi m σ H=>m=xs.length-i/\i<=xs.length/\Pv i σ H,⟨xs.length,by simp,r9 _,h0⟩;rintro i m σ H ⟨rfl,hi,p⟩;have q:=hl i σ H hi p;by_cases hlt:i<xs.length
 ·erw[.inr ⟨⟨xs,xs[i],q,by simp[hlt]⟩,Pv (i+1),λσ' H' p'=>⟨xs.length-(i+1),by lia,rfl,hlt,p'⟩,λx H' y=>?_⟩];obtain⟨e,y⟩:=y;subst e;rwa[hs i x σ _ (y xs q) p]
 ·have e:i=xs.length:=by lia
  subst e;rwa[.inl ⟨⟨xs,q,d6 _⟩,hd σ H p⟩]
def sG{lo:Int}{n:Nat}{g:TG}{tb:TS}{D:dE}{σ:St}{H:Hp}(Pv:Nat->St->Hp->Prop)(h0:Pv 0 σ H)
  (hs:∀ i σ H,i<n->Pv i σ H->g (.int (lo+i)) σ H λσ2 H2=>tb { D with nx:=Pv (i+1),ct:=Pv (i+1),bk:=D.nx } σ2 H2) (hd:∀ σ H,Pv n σ H->D.nx σ H) :
  ∃ W:Nat->Nat->St->Hp->Prop,(∃ m,W 0 m σ H)/\∀ i m σ H,W i m σ H ->
   ((Itr lo n).stop i H/\D.nx σ H)\/((Itr lo n).go i H/\∃ N:St->Hp->Prop,(∀ σ' H',N σ' H'->∃ m',m'<m/\W (i+1) m' σ' H')/\∀ x H',(Itr lo n).yld i H x H'->g x σ H' λσ2 H2=>tb { D with nx:=N,ct:=N,bk:=D.nx } σ2 H2):=by
 exists λi m σ H=>m=n-i/\i<=n/\Pv i σ H,⟨n,by simp,r9 _,h0⟩;rintro i m σ H ⟨rfl,hi,p⟩;by_cases hlt:i<n
 ·erw[.inr ⟨hlt,Pv (i+1),λσ' H' p'=>⟨n-(i+1),by lia,rfl,hlt,p'⟩,λx H' y=>?_⟩];obtain⟨e,y⟩:=y;subst e y;rwa[hs i σ _ hlt p]
 ·have e:i=n:=by lia
  subst e;rwa[.inl ⟨d6 _,hd σ H p⟩]
def eZ{c:TT}{tb:TS}{D:dE}{σ:St}{H:Hp}(Pv:St->Hp->Prop)(μ:St->Hp->Nat)(h0:Pv σ H)
  (hs:∀ σ H,Pv σ H->c σ H λb H1=>if b=Ii then tb { D with nx:=λσ' H'=>Pv σ' H'/\μ σ' H'<μ σ H,ct:=λσ' H'=>Pv σ' H'/\μ σ' H'<μ σ H,bk:=D.nx } σ H1 else D.nx σ H1)
  (mono:∀ σ H Q Q',(∀ b H1,Q b H1->Q' b H1)->c σ H Q->c σ H Q'):XQ c tb D σ H:=by
 exists λm σ H=>m=μ σ H/\Pv σ H,⟨_,U,h0⟩;rintro m σ H ⟨rfl,p⟩;erw[mono σ H _ _ (λb H1 q=>?_) (hs σ H p)];cases b with
 | true=>rwa[_,λσ' H' ⟨p',l⟩=>⟨_,l,U,p'⟩,q]
 | false=>rwa[q]
end L2

namespace L2

abbrev R2:=V->V->Hp->VK->Prop
def OpR(X:Cx)(f:c7->c7->GP c7)(r:R2):Prop :=
 ∀(Ik:List (b9×AL))(s:d4)(σ:St)(H:Hp)(x y:V)(v u:c7)(Q:VK),Inv X Ik σ H s->xE x v->xE y u->r x y H Q ->
  wpAny (model X.prog X.w) X.A (f v u) (EP X Ik σ Q) X.xe s
def UnR(X:Cx)(f:c7->GP c7)(r:V->Hp->VK->Prop):Prop :=
 ∀(Ik:List (b9×AL))(s:d4)(σ:St)(H:Hp)(x:V)(v:c7)(Q:VK),Inv X Ik σ H s->xE x v->r x H Q ->
  wpAny (model X.prog X.w) X.A (f v) (EP X Ik σ Q) X.xe s
def uU(X:Cx)(f:c7)(r:List V->Hp->VK->Prop):Prop :=
 ∀(Ik:List (b9×AL))(s:d4)(σ:St)(H:Hp)(xs:List V)(us:List c7)(Q:VK),Inv X Ik σ H s->yP xs us->r xs H Q ->
  wpAny (model X.prog X.w) X.A (call f us) (EP X Ik σ Q) X.xe s
def tOp(r:R2)(ta tb:TE):TE:=λσ H Q=>ta σ H λx H1=>tb σ H1 λy H2=>r x y H2 Q
def tUn(r:V->Hp->VK->Prop)(ta:TE):TE:=λσ H Q=>ta σ H λx H1=>r x H1 Q
inductive RI(C:Int->Int->Prop)(g:Int->Int->V)(x y:V)(H:Hp)(Q:VK):Prop where
 | mk (i j:Int) (ex:x=.int i) (ey:y=.int j) (c:C i j) (q:Q (g i j) H)
def rI(C:Int->Int->Prop)(g:Int->Int->V):R2:=λx y H Q=>RI C g x y H Q
inductive RI0(g:Int->Int->V)(x y:V)(H:Hp)(Q:VK):Prop where
 | mk (i j:Int) (ex:x=.int i) (ey:y=.int j) (q:Q (g i j) H)
def rI0(g:Int->Int->V):R2:=λx y H Q=>RI0 g x y H Q
inductive RU(g:Int->V)(x:V)(H:Hp)(Q:VK):Prop where
 | mk (i:Int) (ex:x=.int i) (q:Q (g i) H)
def rU(g:Int->V):V->Hp->VK->Prop:=λx H Q=>RU g x H Q

section
variable{X:Cx}{a b c:t6}{ta tb tc:TE}{pos:Ck}

def TB(ha:PE X a ta)(hb:PE X b tb){Ik:List (b9×AL)}{s:d4}{σ:St}{H:Hp}{R:V->V->Hp->Prop}(I:Inv X Ik σ H s)
  (h:ta σ H λx H1=>tb σ H1 λy H2=>R x y H2) {Q:c7->d4->Prop} {f:c7->c7->GP c7}
  (hf:∀ v u s2 x y H2,Inv X Ik σ H2 s2->xE x v->xE y u->R x y H2->wpAny (model X.prog X.w) X.A (f v u) Q X.xe s2) :
  wpAny (model X.prog X.w) X.A (eval a X.env) (λv s₁=>wpAny (model X.prog X.w) X.A (eval b X.env) (λu s₂=>wpAny (model X.prog X.w) X.A (f v u) Q X.xe s₂) X.xe s₁) X.xe s:=by
 erw[thn (ha Ik s σ H _ I h) λv s1 ⟨x,H1,I1,r1,q1⟩=>?_];erw[thn (hb Ik s1 σ H1 _ I1 q1) λu s2 ⟨y,H2,I2,r2,q2⟩=>?_];rwa[hf v u s2 x y H2 I2 r1 r2 q2]

def wG{op:Operator}{r:R2}(ho:OpR X (binaryOp op) r)(ha:PE X a ta)(hb:PE X b tb):PE X (.BinOp a op b pos) (tOp r ta tb):=by
 intro Ik s σ H Q I h;rwa[wpAny_BinOp (TB ha hb I h λv u s2 x y H2 I2 rx ry q=>ho Ik s2 σ H2 x y v u Q I2 rx ry q)]
def pe_un{op:UnaryOp}{r:V->Hp->VK->Prop}(ho:UnR X (unaryOp op) r)(ha:PE X a ta):PE X (.UnaryOp op a pos) (tUn r ta):=by
 intro Ik s σ H Q I h;rwa[UnaryOp_ (thn (ha Ik s σ H _ I h) λv s1 ⟨x,H1,I1,r1,q1⟩=>ho Ik s1 σ H1 x v Q I1 r1 q1)]
def opI{f:c7->c7->GP c7}{C:Int->Int->Prop}{g:Int->Int->Int}
  (rule:∀(i j:Int)(t u:Ia)(s:d4)(Q:c7->d4->Prop)(E:c7->d4->Prop),C i j->Q (.int (g i j) s.toks) { s with toks:=s.toks+1 }->wpAny (model X.prog X.w) X.A (f (.int i t) (.int j u)) Q E s) :
  OpR X f (rI C λi j=>.int (g i j)):=by
 intro Ik s σ H x y v u Q I rx ry h;obtain⟨i,j,rfl,rfl,hc,q⟩:=h;obtain⟨t,rfl⟩:=rx;obtain⟨t',rfl⟩:=ry;rwa[rule i j t t' s _ _ hc ⟨.int (g i j),H,I.tok _,⟨_,rfl⟩,q⟩]
def opI0{f:c7->c7->GP c7}{g:Int->Int->Int}
  (rule:∀(i j:Int)(t u:Ia)(s:d4)(Q:c7->d4->Prop)(E:c7->d4->Prop),Q (.int (g i j) s.toks) { s with toks:=s.toks+1 }->wpAny (model X.prog X.w) X.A (f (.int i t) (.int j u)) Q E s) :
  OpR X f (rI0 λi j=>.int (g i j)):=by
 intro Ik s σ H x y v u Q I rx ry h;obtain⟨i,j,rfl,rfl,q⟩:=h;obtain⟨t,rfl⟩:=rx;obtain⟨t',rfl⟩:=ry;rwa[rule i j t t' s _ _ ⟨.int (g i j),H,I.tok _,⟨_,rfl⟩,q⟩]
def Tk{f:c7->c7->GP c7}{g:Int->Int->Bool}
  (rule:∀(i j:Int)(t u:Ia)(s:d4)(Q:c7->d4->Prop)(E:c7->d4->Prop),Q (.bool (g i j)) s->wpAny (model X.prog X.w) X.A (f (.int i t) (.int j u)) Q E s) :
  OpR X f (rI0 λi j=>.bl (g i j)):=by
 intro Ik s σ H x y v u Q I rx ry h;obtain⟨i,j,rfl,rfl,q⟩:=h;obtain⟨t,rfl⟩:=rx;obtain⟨t',rfl⟩:=ry;rwa[rule i j t t' s _ _ ⟨.bl (g i j),H,I,rfl,q⟩]

def Te(i j:Int):Prop:=0<=j/\j<=1000000/\i.natAbs<2^64
def Tn(i j:Int):Prop:=(-(2^64)<i/\i<2^64)\/(-(2^64)<j/\j<2^64)
def Tn.ok{i j:Int}(h:Tn i j):IntMulOk i j:=by
 rcases h with ⟨h1,h2⟩ | ⟨h1,h2⟩
 ·rwa[.of_left (intBits_le_64 h1 h2)]
 ·rwa[.of_right (intBits_le_64 h1 h2)]
def xv:OpR X (binaryOp .Add) (rI0 λi j=>.int (i+j)):=opI0 λ_ _ _ _ _ _ _ q=>add_int q
def Xb:OpR X (binaryOp .Sub) (rI0 λi j=>.int (i-j)):=opI0 λ_ _ _ _ _ _ _ q=>sub_int q
def UN:OpR X (binaryOp .Mult) (rI Tn λi j=>.int (i*j)):=opI λ_ _ _ _ _ _ _ hc q=>mul_int q hc.ok
def mW:OpR X (binaryOp .Mod) (rI (λ_ j=>0<j) λi j=>.int (i%j)):=opI λi j _ _ _ _ _ hc q=>by
 have h1:(0:Int)<j:=hc;rwa[mod_int' (by lia) (by rw[Int.fmod_eq_emod_of_nonneg i (by lia)]; exact q)]
def Uk:OpR X (binaryOp .Pow) (rI Te λi j=>.int (i^j.toNat)):=opI λ_ _ _ _ _ _ _ hc q=>pow_int_small hc.1 hc.2.1 hc.2.2 q
def unI{f:c7->GP c7}{g:Int->Int}
  (rule:∀(i:Int)(t:Ia)(s:d4)(Q:c7->d4->Prop)(E:c7->d4->Prop),Q (.int (g i) s.toks) { s with toks:=s.toks+1 }->wpAny (model X.prog X.w) X.A (f (.int i t)) Q E s) :
  UnR X f (rU λi=>.int (g i)):=by
 intro Ik s σ H x v Q I rx h;obtain⟨i,rfl,q⟩:=h;obtain⟨t,rfl⟩:=rx;rwa[rule i t s _ _ ⟨.int (g i),H,I.tok _,⟨_,rfl⟩,q⟩]
def Ts:UnR X (unaryOp .USub) (rU λi=>.int (-i)):=unI λ_ _ _ _ _ q=>neg_int q
end

def Ug:V->V->Bool
 | .non,.non=>Ii | .non,.int _=>Ii | .int _,.non=>Ii | .non,.bl _=>Ii | .bl _,.non=>Ii | .non,.str _=>Ii | .str _,.non=>Ii
 | .int _,.int _=>Ii | .bl _,.bl _=>Ii | .str _,.str _=>Ii | .byt _,.byt _=>Ii
 | .int _,.str _=>Ii | .str _,.int _=>Ii | .bl _,.str _=>Ii | .str _,.bl _=>Ii
 | _,_=>Ij
def rEq:R2:=λx y H Q=>Ug x y=Ii/\Q (.bl (decide (x=y))) H
def rNe:R2:=λx y H Q=>Ug x y=Ii/\Q (.bl (!decide (x=y))) H

def bC{i j:Int} : decide (V.int i=V.int j)=(i == j):=by
 rw[BZ];simp
def XJ{i j:Bool} : decide (V.bl i=V.bl j)=(i == j):=by
 rw[BZ];simp
def bF{i j:g8} : decide (V.str i=V.str j)=(i == j):=by
 rw[BZ];simp
def av{i j:Array UInt8} : decide (V.byt i=V.byt j)=(i.toList == j.toList):=by
 rw[BZ];cases i;cases j;simp

section
variable{X:Cx}{a b c:t6}{ta tb tc:TE}{pos:Ck}
def yV{Ik:List (b9×AL)}{σ:St}{H:Hp}{s:d4}{Q:VK}{k k':Bool}(I:Inv X Ik σ H s)(q:Q (.bl k) H)(e:k=k'):EP X Ik σ Q (.bool k') s:=by
 subst e;rwa[.bl k,H,I,U,q]
def WT:OpR X (compareOp .Eq) rEq:=by
 intro Ik s σ H x y v u Q I rx ry h;obtain⟨hs,q⟩:=h;cases x with
 | non =>
  cases rx;cases y with
  | non=>cases ry; rwa[GQ (yV I q (by simp))]
  | bl j=>cases ry; rwa[GR (yV I q (by simp))]
  | int j=>obtain⟨t',rfl⟩:=ry; rwa[Ha (yV I q (by simp))]
  | str j=>obtain⟨t',rfl⟩:=ry; rwa[Hb (yV I q (by simp))]
  | _=>exact x4 (show Ij=Ii from hs) h9
 | bl i =>
  cases rx;cases y with
  | non=>cases ry; rwa[GS (yV I q (by simp))]
  | bl j=>cases ry; rwa[eq_bool (yV I q XJ)]
  | str j=>obtain⟨t',rfl⟩:=ry; rwa[GT (yV I q (by simp))]
  | _=>exact x4 (show Ij=Ii from hs) h9
 | int i =>
  obtain⟨t,rfl⟩:=rx;cases y with
  | non=>cases ry; rwa[Hc (yV I q (by simp))]
  | int j=>obtain⟨t',rfl⟩:=ry; rwa[eq_int (yV I q bC)]
  | str j=>obtain⟨t',rfl⟩:=ry; rwa[Hd (yV I q (by simp))]
  | _=>exact x4 (show Ij=Ii from hs) h9
 | str i =>
  obtain⟨t,rfl⟩:=rx;cases y with
  | non=>cases ry; rwa[He (yV I q (by simp))]
  | bl j=>cases ry; rwa[GU (yV I q (by simp))]
  | int j=>obtain⟨t',rfl⟩:=ry; rwa[Hf (yV I q (by simp))]
  | str j=>obtain⟨t',rfl⟩:=ry; rwa[eq_str (yV I q bF)]
  | _=>exact x4 (show Ij=Ii from hs) h9
 | byt i =>
  obtain⟨t,rfl⟩:=rx;cases y with
  | byt j=>obtain⟨t',rfl⟩:=ry; rwa[PySem.W.eq_bytes (yV I q av)]
  | _=>exact x4 (show Ij=Ii from hs) h9
 | _=>cases y <;> exact x4 (show Ij=Ii from hs) h9
def Tu:OpR X (compareOp .NotEq) rNe:=by
 intro Ik s σ H x y v u Q I rx ry h;obtain⟨hs,q⟩:=h;cases x with
 | non =>
  cases rx;cases y with
  | non=>cases ry; rwa[GV (yV I q (by simp))]
  | bl j=>cases ry; rwa[GW (yV I q (by simp))]
  | int j=>obtain⟨t',rfl⟩:=ry; rwa[Hg (yV I q (by simp))]
  | str j=>obtain⟨t',rfl⟩:=ry; rwa[Hh (yV I q (by simp))]
  | _=>exact x4 (show Ij=Ii from hs) h9
 | bl i =>
  cases rx;cases y with
  | non=>cases ry; rwa[GX (yV I q (by simp))]
  | bl j=>cases ry; rwa[ne_bool (yV I q (congrArg not XJ))]
  | str j=>obtain⟨t',rfl⟩:=ry; rwa[GY (yV I q (by simp))]
  | _=>exact x4 (show Ij=Ii from hs) h9
 | int i =>
  obtain⟨t,rfl⟩:=rx;cases y with
  | non=>cases ry; rwa[Hi (yV I q (by simp))]
  | int j=>obtain⟨t',rfl⟩:=ry; rwa[ne_int (yV I q (congrArg not bC))]
  | str j=>obtain⟨t',rfl⟩:=ry; rwa[Hj (yV I q (by simp))]
  | _=>exact x4 (show Ij=Ii from hs) h9
 | str i =>
  obtain⟨t,rfl⟩:=rx;cases y with
  | non=>cases ry; rwa[Hk (yV I q (by simp))]
  | bl j=>cases ry; rwa[GZ (yV I q (by simp))]
  | int j=>obtain⟨t',rfl⟩:=ry; rwa[Hl (yV I q (by simp))]
  | str j=>obtain⟨t',rfl⟩:=ry; rwa[ne_str (yV I q (congrArg not bF))]
  | _=>exact x4 (show Ij=Ii from hs) h9
 | byt i =>
  obtain⟨t,rfl⟩:=rx;cases y with
  | byt j=>obtain⟨t',rfl⟩:=ry; rwa[PySem.W.ne_bytes (yV I q (congrArg not av))]
  | _=>exact x4 (show Ij=Ii from hs) h9
 | _=>cases y <;> exact x4 (show Ij=Ii from hs) h9

def cW:OpR X (compareOp .Lt) (rI0 λi j=>.bl (decide (i<j))):=Tk λ_ _ _ _ _ _ _ q=>lt_int q
def wg:OpR X (compareOp .LtE) (rI0 λi j=>.bl (decide (i<=j))):=Tk λ_ _ _ _ _ _ _ q=>le_int q
def lP:OpR X (compareOp .Gt) (rI0 λi j=>.bl (decide (j<i))):=Tk λ_ _ _ _ _ _ _ q=>gt_int q
def Wa:OpR X (compareOp .GtE) (rI0 λi j=>.bl (decide (j<=i))):=Tk λ_ _ _ _ _ _ _ q=>ge_int q
def yS(b:t6){op:Gn}(h:op≠.In:=by decide)(h2:op≠.NotIn:=by decide):behindInMarks op b=false:=by
 have e1:(op == CmpOp.In)=false:=by cases op <;> first | rfl | exact x4 rfl h
 have e2:(op == CmpOp.NotIn)=false:=by cases op <;> first | rfl | exact x4 rfl h2
 cases b <;> simp[behindInMarks,e1,e2]
def sL{op:Gn}{r:R2}(ho:OpR X (compareOp op) r)(ha:PE X a ta)(hb:PE X b tb)(hm:behindInMarks op b=Ij):PE X (.Compare a [op] [b] pos) (tOp r ta tb):=by
 intro Ik s σ H Q I h;rwa[wpAny_Compare1 (TB ha hb I h λv u s2 x y H2 I2 rx ry q=>ho Ik s2 σ H2 x y v u Q I2 rx ry q) hm]
def Vr(t:TE):TT:=λσ H Q=>t σ H λx H'=>∃ k,x=.bl k/\Q k H'
def yI{op:Gn}{r:R2}(ho:OpR X (compareOp op) r)(ha:PE X a ta)(hb:PE X b tb)(hm:behindInMarks op b=Ij):PT X (.Compare a [op] [b] pos) (Vr (tOp r ta tb)):=by
 intro Ik s σ H Q I h;refine EH (thn (ha Ik s σ H _ I h) λv s1 ⟨x,H1,I1,r1,q1⟩=>thn (hb Ik s1 σ H1 _ I1 q1) λu s2 ⟨y,H2,I2,r2,q2⟩ =>
  thn (ho Ik s2 σ H2 x y v u _ I2 r1 r2 q2) λc s3 ⟨z,H3,I3,r3,k,e,q3⟩=>?_) hm
 subst e;cases r3;rwa[AD ⟨H3,I3,q3⟩]
def Xr(r r':R2)(ta tb tc:TE):TE:=λσ H Q=>ta σ H λx H1=>tb σ H1 λy H2=>r x y H2 λz H3=>∃ k,z=.bl k /\
 (if k=Ii then tc σ H3 λw' H4=>r' y w' H4 Q else Q (.bl Ij) H3)
def uv{op op':Gn}{r r':R2}(ho:OpR X (compareOp op) r)(ho':OpR X (compareOp op') r')(ha:PE X a ta)(hb:PE X b tb)(hc:PE X c tc)
  (hm:lastMarks [op,op'] [b,c]=false:=by with_unfolding_all rfl):PE X (.Compare a [op,op'] [b,c] pos) (Xr r r' ta tb tc):=by
 intro Ik s σ H Q I h;refine Compare_chain (thn (ha Ik s σ H _ I h) λv s1 ⟨x,H1,I1,r1,q1⟩=>chain_link (thn (hb Ik s1 σ H1 _ I1 q1) λu s2 ⟨y,H2,I2,r2,q2⟩ =>
  thn (ho Ik s2 σ H2 x y v u _ I2 r1 r2 q2) λd s3 ⟨z,H3,I3,r3,k,e,q3⟩=>?_)) hm
 subst e;cases r3;erw[AD ?_];cases k with
 | false=>rwa[ite_ff ⟨.bl Ij,H3,I3,rfl,q3⟩]
 | true=>rwa[ite_tt (chain_last (thn (hc Ik s3 σ H3 _ I3 q3) λw' s4 ⟨z',H4,I4,r4,q4⟩=>ho' Ik s4 σ H4 y z' u w' Q I4 r2 r4 q4))]
def kC{op op':Gn}{r r':R2}(ho:OpR X (compareOp op) r)(ho':OpR X (compareOp op') r')(ha:PE X a ta)(hb:PE X b tb)(hc:PE X c tc)
  (hm:lastMarks [op,op'] [b,c]=false:=by with_unfolding_all rfl):PT X (.Compare a [op,op'] [b,c] pos) (Vr (Xr r r' ta tb tc)):=by
 intro Ik s σ H Q I h;refine isTrue_chain (thn (ha Ik s σ H _ I h) λv s1 ⟨x,H1,I1,r1,q1⟩=>test_link (thn (hb Ik s1 σ H1 _ I1 q1) λu s2 ⟨y,H2,I2,r2,q2⟩ =>
  thn (ho Ik s2 σ H2 x y v u _ I2 r1 r2 q2) λd s3 ⟨z,H3,I3,r3,k,e,q3⟩=>?_)) hm
 subst e;cases r3;erw[AD ?_];cases k with
 | false =>
  obtain⟨k',e',q'⟩:=q3;cases e';rwa[ite_ff ⟨H3,I3,q'⟩]
 | true =>
  erw[ite_tt (test_last (thn (hc Ik s3 σ H3 _ I3 q3) λw' s4 ⟨z',H4,I4,r4,q4⟩=>thn (ho' Ik s4 σ H4 y z' u w' _ I4 r2 r4 q4) λd' s5 ⟨z2,H5,I5,r5,k2,e2,q5⟩=>?_))];subst e2;cases r5;rwa[AD ⟨H5,I5,q5⟩]

def mr:(sizeLine:Nat)<2^63:=by rw[sizeLine_eq]; decide
def ml:OpR X (binaryOp .Add) (λx y H Q=>∃ i j,x=.str i/\y=.str j/\i.length+j.length<=sizeLine/\Q (.str (i++j)) H):=by
 intro Ik s σ H x y v u Q I rx ry h;obtain⟨i,j,rfl,rfl,hz,q⟩:=h;obtain⟨t,rfl⟩:=rx;obtain⟨t',rfl⟩:=ry;rwa[add_str (λt' tk=>⟨.str (i++j),H,I.tok _,⟨_,rfl⟩,q⟩) hz]
def kT{x:V}{us:List c7}(r:yP [x] us):∃ u,us=[u]/\xE x u:=by
 cases r with
 | cons r1 r2=>cases r2; rwa[_,U,r1]
def Vh{x y:V}{us:List c7}(r:yP [x,y] us):∃ u w',us=[u,w']/\xE x u/\xE y w':=by
 cases r with
 | cons r1 r2 =>
  cases r2 with
  | cons r3 r4=>cases r4; rwa[_,_,U,r1,r3]
def Yg:uU X (.builtin "abs") (λxs H Q=>∃ i,xs=[.int i]/\Q (.int (if i<0 then -i else i)) H):=by
 intro Ik s σ H xs us Q I r h;obtain⟨i,rfl,q⟩:=h;obtain⟨u,rfl,t,rfl⟩:=kT r;exact call_abs_int λu tk=>⟨.int (if i<0 then -i else i),H,I.tok _,⟨_,rfl⟩,q⟩
def aY(hc:X.calm=Ii):uU X (.builtin "max") (λxs H Q=>∃ i j,xs=[.int i,.int j]/\Q (.int (if j>i then j else i)) H):=by
 intro Ik s σ H xs us Q I r h;obtain⟨i,j,rfl,q⟩:=h;obtain⟨u,w',rfl,⟨t,rfl⟩,⟨t',rfl⟩⟩:=Vh r;erw[max_two_ints (I.ok.hd hc) λh' tk k=>⟨_,H,I.kept k,?_,q⟩];by_cases hj:j>i
 ·rw[y9 hj,y9 hj]; rwa[_,U]
 ·rw[y7 hj,y7 hj]; rwa[_,U]
def bL(hc:X.calm=Ii):uU X (.builtin "min") (λxs H Q=>∃ i j,xs=[.int i,.int j]/\Q (.int (if j<i then j else i)) H):=by
 intro Ik s σ H xs us Q I r h;obtain⟨i,j,rfl,q⟩:=h;obtain⟨u,w',rfl,⟨t,rfl⟩,⟨t',rfl⟩⟩:=Vh r;erw[min_two_ints (I.ok.hd hc) λh' tk k=>⟨_,H,I.kept k,?_,q⟩];by_cases hj:j<i
 ·rw[y9 hj,y9 hj]; rwa[_,U]
 ·rw[y7 hj,y7 hj]; rwa[_,U]
def hJ:uU X (.type "int") (λxs H Q=>(∃ i,xs=[.int i]/\Q (.int i) H)\/∃ k,xs=[.bl k]/\Q (.int (if k then 1 else 0)) H):=by
 intro Ik s σ H xs us Q I r h;rcases h with ⟨i,rfl,q⟩ | ⟨k,rfl,q⟩
 ·obtain⟨u,rfl,t,rfl⟩:=kT r;rwa[call_int_int ⟨.int i,H,I,⟨_,rfl⟩,q⟩]
 ·obtain⟨u,rfl,r1⟩:=kT r;cases r1;exact call_int_bool ⟨.int (if k then 1 else 0),H,I.tok _,⟨_,rfl⟩,q⟩
end
end L2

namespace L2

structure Ws(h:n9)(x dx C:b9)(mA:g8->Option c7):Prop where
 obj:h.get? x=Ig (Bo C dx)
 ns:h.Ns1 dx mA
 ne:dx≠x

def Zw{h:n9}{dx:b9}{mA:g8->Option c7}(n:h.Ns1 dx mA):∃ od,h.get? dx=Ig od/\∀ name,Dz name od=Ig (mA name):=by
 obtain⟨o,es,ep,ho,hd,hk,_,hm⟩:=n;erw[o,ho,λname=>?_];have e:=hm name;unfold nsFind findBy at e;rw[<- Array.find?_toList] at e;unfold Dz;rw[hd];dsimp only;split
 ·rename_i y q
  rw[q] at e;rwa[congrArg Ig e]
 ·rename_i q
  rw[q] at e;have a:es.toList.any (·.refKey)=false:=by
   rw[FA];intro y hy;obtain⟨z,t,hkey⟩:=hk y (C6.mp hy);simp[DictEntry.refKey,hkey]
  have a':¬ es.toList.any (·.refKey)=true:=by rw[a]; rwa[h9]
  rw[y7 a'];rwa[congrArg Ig e]

def Ws.look{h:n9}{x dx C:b9}{mA:g8->Option c7}(I:Ws h x dx C mA):∃ od,PySem.W.InstAt h x (Bo C dx) C (Ig od)/\∀ name,Dz name od=Ig (mA name) :=
 let ⟨od,ho,hl⟩:=Zw I.ns
 ⟨od,⟨I.obj,rfl,rfl,ho⟩,hl⟩

section
variable{prog:j9}{w:n5}{A:Ab}{E:c7->d4->Prop}{s:d4}{K:b7}{x dx C f:b9}{mA:g8->Option c7}{name:g8}{v:c7}

def Vx{expr:Bool}{Q:c7->d4->Prop}(X:K.In s.heap)(I:Ws s.heap x dx C mA)(hg:CY K C name=Ii)(hh:DO K C=Ii)
  (ha:AI K (.ref C) name=Ig Ih) (hv:mA name=Ig v) (hv':F3 v=Ii) (h:Q v { s with toks:=s.toks+1 }) :
  wpAny (model prog w) A (getAttr (.ref x) name expr) Q E s:=by
 obtain⟨od,J,hl⟩:=I.look;rwa[PySem.W.get_value X J (Dl hg).1 (PySem.W.findObj_own hh ha rfl (by rw[hl,hv])) hv' h]

def Yx{pl:GP Bool}{Q:c7×List c7->d4->Prop}(X:K.In s.heap)(I:Ws s.heap x dx C mA)(hg:CY K C name=Ii)
  (hf:AI K (.ref C) name=Ig (Ig (.ref f))) (ht:FC K (.ref f)=Ii) (hv:mA name=Ih) (h:Q (.ref f,[.ref x]) s) :
  wpAny (model prog w) A (getMethod (.ref x) name pl) Q E s:=by
 obtain⟨od,J,hl⟩:=I.look;exact PySem.W.method_fn X J (Dl hg).1 (Dl hg).2 hf (beq_iff_eq.mp ht) (by show(Dz name od).map (·.isSome)=Ig Ij; rw[hl,hv]; rfl) h

def XT{ns:List g8}{Q:Unit->d4->Prop}(X:K.In s.heap)(I:Ws s.heap x dx C mA)
  (hs:AI K (.ref C) "__setattr__" = Ig (Ig (.builtin "object.__setattr__"))) (hp:FD K C=Ii) (ht:Eu K C name=Ig Ih) (hh:DO K C=Ii)
  (hw:Fz mA ns) (hsz:ns.length<=sizeLine)
  (h:∀ h',Ws h' x dx C (λy=>if y=name then Ig v else mA y)->AW dx s.heap h'->Q () { s with heap:=h',toks:=s.toks+2 }) :
  wpAny (model prog w) A (setAttr (.ref x) name v) Q E s:=by
 obtain⟨od,J,hl⟩:=I.look;refine PySem.W.set_plain X J hs (PySem.W.osa_open (s:={ s with toks:=s.toks+1 }) (r:=Ih) X J hp ht λb=>?_);obtain⟨cd,hc,hd'⟩:=PySem.W.any_some hh;have hx:s.heap.get? x=Ig ⟨.ref C,Ig dx,.plain,#[]⟩:=I.obj;refine ac (d7 (ac (ac (wpAny_loadPart hx (ac (HU (s:={ s with toks:=s.toks+1 }) (PySem.W.looks_clsIn X hc) ?_))))));rw[hd'];erw[d7 (a:=Ig dx) (ac (d7 (ac ?_)))];refine wpAny_nsSet1 (s:={ s with toks:=s.toks+1 }) I.ns λh' hn2 hs2=>?_;obtain⟨oD,esD,epD,hoD,hdD,hcD⟩:=hn2.count (HY name v hw);erw[ac (wpAny_lookBehind hoD (by rw[hdD]; rwa[pastItsLine_dict (j8 hcD (by rw[m9]; lia))]) ?_)];rwa[d7 (h _ ⟨(hs2.2 _ (AG I.ne)).trans I.obj,hn2,I.ne⟩ hs2)]

def YI{R:Result->d4->Prop}{vs:List c7}{kw:List (g8×c7)}(X:K.In s.heap)(hm:Gs K C=Ii)
  (hi:AI K (.ref C) "__init__" = Ig (Ig (.ref f))) (hf:PySem.W.typeIn K (.ref f)=Ig (.type "function"))
  (h:codeAny (model prog w) (A.under (.builtin "type.__call__" ⟨.ref C::vs,kw⟩)) (.call (.ref f) ⟨.ref (s.heap.objs.size+1)::vs,kw⟩) (PySem.W.InitBack (s.heap.objs.size+1) R)
   { s with heap:=(s.heap.push AM).push (Bo C s.heap.objs.size) }) :
  codeAny (model prog w) A (.call (.ref C) ⟨vs,kw⟩) R s:=by
 obtain⟨hh,g,d,t,os⟩:=s;rwa[PySem.W.make_core (PySem.W.makes_of X hm) (PySem.W.looks_findIn X hi) (λself=>PySem.W.bind_fn X self hf) (.inl rfl) h]
end

def pP(f:g8)(v:V):List (g8×V)->List (g8×V)
 | []=>[(f,v)]
 | (g,x)::r=>if g=f then(g,v)::r else(g,x)::pP f v r
def nK(f g:g8)(v:V):∀ fs:List (g8×V),(pP f v fs).lookup g=if g=f then Ig v else fs.lookup g
 | []=>by
  show Ad g [(f,v)]=_;by_cases h:g=f
  ·have hb:(g == f)=true:=beq_iff_eq.mpr h;simp only[Ad,hb,y9 h]
  ·have hb:(g == f)=false:=x5.mpr h;simp only[Ad,hb,y7 h]
 | (k,x)::r=>by
  have ih:=nK f g v r;rw[show pP f v ((k,x)::r)=(if k=f then(k,v)::r else(k,x)::pP f v r) from rfl];by_cases hk:k=f
  ·rw[y9 hk];by_cases h:g=k
   ·have hb:(g == k)=true:=beq_iff_eq.mpr h;simp only[Ad,hb,y9 (h.trans hk)]
   ·have hb:(g == k)=false:=x5.mpr h;simp only[Ad,hb,y7 (λe:g=f=>h (e.trans hk.symm))]
  ·rw[y7 hk];by_cases h:g=k
   ·have hb:(g == k)=true:=beq_iff_eq.mpr h;simp only[Ad,hb,y7 (λe:g=f=>hk (h.symm.trans e))]
   ·have hb:(g == k)=false:=x5.mpr h;simp only[Ad,hb];rwa[ih]
def pT(f:g8)(v:V):∀ fs:List (g8×V),f∈(pP f v fs).map (·.1)/\∀ g,g∈fs.map (·.1)->g∈(pP f v fs).map (·.1)
 | []=>⟨by simp[pP],λg h=>by simp at h⟩
 | (k,x)::r=>by
  obtain⟨i1,i2⟩:=pT f v r;rw[show pP f v ((k,x)::r)=(if k=f then(k,v)::r else(k,x)::pP f v r) from rfl];by_cases hk:k=f
  ·rw[y9 hk];subst hk;exact⟨by simp,λg h=>by simpa using h⟩
  ·rw[y7 hk];erw[?_,λg h=>?_]
   ·rw[l9];rwa[Ac _ i1]
   ·rw[l9] at h ⊢;rcases i7.mp h with e | e
    ·rwa[i7.mpr (.inl e)]
    ·rwa[Ac _ (i2 g e)]
def nE(f:g8)(v:V):∀ fs:List (g8×V),(pP f v fs).length<=fs.length+1
 | []=>by simp[pP]
 | (k,x)::r=>by
  have ih:=nE f v r;rw[show pP f v ((k,x)::r)=(if k=f then(k,v)::r else(k,x)::pP f v r) from rfl];by_cases hk:k=f
  ·rw[y9 hk,m9,m9]; lia
  ·rw[y7 hk,m9,m9]; lia

def kH.some_of{v:V}{o:Option c7}(r:kH (Ig v) o):∃ u,o=Ig u/\xE v u:=by
 cases o with
 | none=>exact(show False from r).elim
 | some u=>rwa[u,U,r]
def kH.none_of{o:Option c7}(r:kH Ih o):o=none:=by
 cases o with
 | none=>rfl
 | some u=>exact(show False from r).elim
def bo{v:V}{u:c7}(r:xE v u):F3 u=true:=by
 cases v with
 | non=>cases (show u=p8 from r); rfl
 | bl b=>cases (show u=Ef b from r); rfl
 | int i=>obtain⟨t,e⟩:=(show ∃ t,u=BE i t from r); cases e; rfl
 | str x=>obtain⟨t,e⟩:=(show ∃ t,u=AN x t from r); cases e; rfl
 | byt b=>obtain⟨t,e⟩:=(show ∃ t,u=Gm b t from r); cases e; rfl
 | flt b=>obtain⟨t,e⟩:=(show ∃ t,u=ET b t from r); cases e; rfl
 | ref a=>cases (show u=j6 a from r); rfl
 | ty n=>cases (show u=Gz n from r); rfl

section
variable{P:j9}{w:n5}{H H':Hp}{h h':n9}{a C dx:b9}{fs fs':List (g8×V)}
def lJ(hok:HOk P w H h)(e:H a=Ig (.ins C dx fs)):∃ mA,Ws h a dx C mA/\(∀ f,kH (fs.lookup f) (mA f))/\Fz mA (fs.map (·.1))/\fs.length<=1000/\H dx=Ig (.own a):=by
 obtain⟨d,z,ne,ob,mA,n,r,q⟩:=(show xI P w H h a (.ins C dx fs) from hok a _ e);rwa[mA,⟨ob,n,ne⟩,r,q,z,d]
end

structure Cls(K:b7)(C:b9):Prop where
 pg:CY K C Hy=Ii
 hd:DO K C=Ii
 po:FD K C=Ii
 sa:AI K (.ref C) "__setattr__" = Ig (Ig (.builtin "object.__setattr__"))
def Cls.get{K:b7}{C:b9}(c:Cls K C)(f:g8):CY K C f=true:=c.pg
def yb(K:b7)(C:b9)(f:g8):Prop:=AI K (.ref C) f=Ig Ih
def yb.taker{K:b7}{C:b9}{f:g8}(n:yb K C f):Eu K C f=Ig none:=by
 unfold Eu;rw[show AI K (.ref C) f=Ig Ih from n];rfl
structure Con(K:b7)(C:b9)(f:g8)(v:V)(u:c7):Prop where
 at_:AI K (.ref C) f=Ig (Ig u)
 rel:xE v u
 get:FE K u "__get__" = Ig Ih
 cp:PySem.W.copiedNames.contains f=Ij
structure hZ(K:b7)(C:b9)(m:g8)(f:b9):Prop where
 at_:AI K (.ref C) m=Ig (Ig (.ref f))
 fn:FC K (.ref f)=Ii
 kp:Au K (.ref f)=Ii

section
variable{X:Cx}{Ik:List (b9×AL)}{σ:St}{H:Hp}{s:d4}{a C dx:b9}{fs:List (g8×V)}{f:g8}{v:V}{A:Ab}{E:c7->d4->Prop}

def dJ{b:Bool}{Q:c7->d4->Prop}(I:Inv X Ik σ H s)(e:H a=Ig (.ins C dx fs))(c:Cls X.K C)(n:yb X.K C f)(l:fs.lookup f=Ig v)
  (h:∀ u s',Inv X Ik σ H s'->xE v u->Q u s'):wpAny (model X.prog X.w) A (getAttr (.ref a) f b) Q E s:=by
 obtain⟨mA,O,r,_,_,_⟩:=lJ I.hok e;obtain⟨u,hu,ru⟩:=kH.some_of (v:=v) (o:=mA f) (by rw[<- l]; rwa[r f]);rwa[Vx I.kIn O (c.get f) c.hd n hu (bo ru) (h u _ (I.tok _) ru)]

def ye{m:g8}{g:b9}{pl:GP Bool}{Q:c7×List c7->d4->Prop}(I:Inv X Ik σ H s)(e:H a=Ig (.ins C dx fs))(c:Cls X.K C)(k:hZ X.K C m g)(l:fs.lookup m=Ih)
  (h:Q (.ref g,[.ref a]) s):wpAny (model X.prog X.w) A (getMethod (.ref a) m pl) Q E s:=by
 obtain⟨mA,O,r,_,_,_⟩:=lJ I.hok e;have hn:mA m=none:=kH.none_of (by rw[<- l]; rwa[r m]);rwa[Yx I.kIn O (c.get m) k.at_ k.fn hn h]

def cj{y:V}{u:c7}{Q:Unit->d4->Prop}(I:Inv X Ik σ H s)(e:H a=Ig (.ins C dx fs))(c:Cls X.K C)(n:yb X.K C f)(hl:fs.length<1000)(ry:xE y u)
  (h:∀ s',Inv X Ik σ (upd H a (.ins C dx (pP f y fs))) s'->Q () s'):wpAny (model X.prog X.w) A (setAttr (.ref a) f u) Q E s:=by
 obtain⟨mA,O,r,wi,_,ho⟩:=lJ I.hok e;have hz:(fs.map (·.1)).length<=sizeLine:=by rw[a7,sizeLine_eq]; lia
 erw[XT I.kIn O c.sa c.po n.taker c.hd wi hz λh' O' sb=>h _ ?_];have hd:∃ o,h'.get? dx=Ig o:=let ⟨o,_,_,e',_⟩:=O'.ns;⟨o,e'⟩;erw[I.write (x:=a) (e:=dx) (by rw[e]; rwa[t7]) (.inr ho) (λb q hb z=>(sb.2 b hb).trans z) hd ?_];erw[by rw[zG O.ne]; exact ho,?_,O.ne,O'.obj,_,O'.ns,λg=>?_,λg hg=>?_]
 ·have:=nE f y fs; lia
 ·show kH ((pP f y fs).lookup g) (if g=f then Ig u else mA g);rw[nK];by_cases q:g=f
  ·rw[y9 q,y9 q]; rwa[ry]
  ·rw[y7 q,y7 q]; rwa[r g]
 ·by_cases q:g=f
  ·rw[q]; exact(pT f y fs).1
  ·refine(pT f y fs).2 g (wi g λz=>hg ?_);show(if g=f then Ig u else mA g)=Ih;rw[y7 q]; rwa[z]

def Inv.made(I:Inv X Ik σ H s):Inv X Ik σ (upd (upd H s.heap.objs.size (.own (s.heap.objs.size+1))) (s.heap.objs.size+1) (.ins C s.heap.objs.size []))
  { s with heap:=(s.heap.push AM).push (Bo C s.heap.objs.size) }:=by
 have e1:(s.heap.push AM).get? s.heap.objs.size=Ig AM:=e7 s.heap rfl;have e2:((s.heap.push AM).push (Bo C s.heap.objs.size)).get? (s.heap.objs.size+1)=Ig (Bo C s.heap.objs.size):=by
  have:=e7 (s.heap.push AM) (o:=Bo C s.heap.objs.size) rfl;(rw[Bg] at this;assumption)
 have e3:(s.heap.push AM).Ns s.heap.objs.size (λ_=>Ih):=⟨AM,#[],_,e1,rfl,(λe he=>x4 he (by simp)),λ_=>rfl⟩;have I1:=I.laid (a:=s.heap.objs.size) (o:=.own (s.heap.objs.size+1)) (h':=s.heap.push AM) (t':=s.toks) (λb u q=>c9 _ q) (d6 _) ⟨_,e1⟩;erw[I1.laid (a:=s.heap.objs.size+1) (o:=.ins C s.heap.objs.size []) (t':=s.toks) (λb u q=>c9 _ q) (Eh (Bg _ _)) ?_];have ne:s.heap.objs.size≠s.heap.objs.size+1:=l6 (D5 _);erw[by rw[zG ne,zA],r9 _,ne,e2,λ_=>Ih,(Heap.Ns1.of_empty e3).at λo q=>c9 _ q,λ_=>t7,λy hy=>x4 rfl hy]

def Vf{prog:j9}{w:n5}{env:Dk}{e:t6}{f:g8}{pos:Ck}{s:d4}{Q:c7->d4->Prop}(hb:attributeBase e f env (eval e env)=eval e env)
  (h:wpAny (model prog w) A (eval e env) (λo s₁=>wpAny (model prog w) A (getAttr o f Ii) Q E s₁) E s):wpAny (model prog w) A (eval (.Attribute e f pos) env) Q E s :=
 Attribute_any_ h (by rw[arm_eval_Attribute,hb])
end


section
variable{X:Cx}{Ik:List (b9×AL)}{σ:St}{H:Hp}{s:d4}{A:Ab}{E:c7->d4->Prop}{Q:c7->d4->Prop}{c:c7}{b:Bool}
inductive TyOf(K:b7)(H:Hp):V->c7->Prop where
 | non:TyOf K H .non (.type "NoneType")
 | bl (x:Bool):TyOf K H (.bl x) (.type "bool")
 | int (i:Int):TyOf K H (.int i) (.type "int")
 | str (x:g8):TyOf K H (.str x) (.type "str")
 | flt (x:UInt64):TyOf K H (.flt x) (.type "float")
 | lst {a:b9} {xs:List V} (e:H a=Ig (.lst xs)):TyOf K H (.ref a) (.type "list")
 | frz {a:b9} {o:AL} {xs:List V} (e:H a=Ig (.frz o (.lst xs))):TyOf K H (.ref a) (.type "list")
 | tup {a:b9} {xs:List V} (e:H a=Ig (.tup xs)):TyOf K H (.ref a) (.type "tuple")
 | dK {a:b9} {kvs:List (Key×V)} (e:H a=Ig (.dK kvs)):TyOf K H (.ref a) (.type "dict")
 | dT {a:b9} {kvs:List (List Key×V)} (e:H a=Ig (.dT kvs)):TyOf K H (.ref a) (.type "dict")
 | ins {a C dx:b9} {fs:List (g8×V)} (e:H a=Ig (.ins C dx fs)) (cl:Cls K C) (ha:AI K (.ref C) "__class__" = Ig (Ig (.builtin "object.__class__")))
   (hn:FE K (.builtin "object.__class__") "__get__" = Ig (Ig (.builtin "getset_descriptor.__get__"))) (htk:PySem.W.takesIn K (.builtin "object.__class__")=Ig Ii)
   (hm:PySem.W.mroIn K C (.type "object")=Ig Ii):TyOf K H (.ref a) (.ref C)
def bV{x:V}{u t:c7}(I:Inv X Ik σ H s)(rx:xE x u)(ty:TyOf X.K H x t)(e:AX X.K t c=Ig b)(h:∀ tk,Q (.bool b) { s with toks:=tk }) :
  wpAny (model X.prog X.w) A (call (.builtin "isinstance") [u,c]) Q E s:=by
 cases ty with
 | non=>cases (show u=p8 from rx); exact AA PySem.W.kitx_none I.kIn t7 e (λz=>nomatch z) h
 | bl y=>cases (show u=Ef y from rx); exact AA PySem.W.kitx_bool I.kIn t7 e (λz=>nomatch z) h
 | int i=>obtain⟨t,q⟩:=(show ∃ t,u=BE i t from rx); cases q; exact AA PySem.W.kitx_int I.kIn t7 e (λz=>nomatch z) h
 | str y=>obtain⟨t,q⟩:=(show ∃ t,u=AN y t from rx); cases q; exact AA PySem.W.kitx_str I.kIn t7 e (λz=>nomatch z) h
 | flt y=>obtain⟨t,q⟩:=(show ∃ t,u=ET y t from rx); cases q; exact AA PySem.W.kitx_float I.kIn t7 e (λz=>nomatch z) h
 | @lst a xs ea =>
  cases (show u=j6 a from rx);obtain⟨_,_,n,_,h1⟩:=(show xI X.prog X.w H s.heap a (.lst xs) from I.hok a _ ea);exact AA FF I.kIn ⟨_,h1,rfl⟩ e (λz=>nomatch z) h
 | @frz a ob xs ea =>
  cases (show u=j6 a from rx);obtain⟨_,_,_,n,_,h1⟩:=(show xI X.prog X.w H s.heap a (.frz ob (.lst xs)) from I.hok a _ ea);exact AA FF I.kIn ⟨_,h1,rfl⟩ e (λz=>nomatch z) h
 | @tup a xs ea =>
  cases (show u=j6 a from rx);obtain⟨_,_,_,p⟩:=(show xI X.prog X.w H s.heap a (.tup xs) from I.hok a _ ea);obtain⟨o,h1,h2,_⟩:=p;exact AA PySem.W.kitx_tuple I.kIn ⟨o,h1,h2⟩ e (λz=>nomatch z) h
 | @dK a kvs ea =>
  cases (show u=j6 a from rx);obtain⟨_,_,vs,_,p⟩:=(show xI X.prog X.w H s.heap a (.dK kvs) from I.hok a _ ea);obtain⟨o,es,ep,h1,h2,_⟩:=p;exact AA FG I.kIn ⟨o,h1,h2.1⟩ e (λz=>nomatch z) h
 | @dT a kvs ea =>
  cases (show u=j6 a from rx);obtain⟨_,_,xs,_,o,es,ep,h1,h2,_⟩:=(show xI X.prog X.w H s.heap a (.dT kvs) from I.hok a _ ea);exact AA FG I.kIn ⟨o,h1,h2.1⟩ e (λz=>nomatch z) h
 | @ins a C dx fs ea cl ha hn htk hm =>
  cases (show u=j6 a from rx);obtain⟨mA,O,_⟩:=lJ I.hok ea;obtain⟨od,J,_⟩:=O.look;exact AA (PySem.W.kitx_own (cl.get _) cl.hd ha hn htk hm) I.kIn J e (λz=>nomatch z) h
end
end L2

namespace L2

structure rX(k:Nat)(A:Ab):Prop where
 hd:A.handled=Ih
 dp:A.depth+3*k+5<recursionLimit
 un:A.units+16*k+200<cLine
 gd:A.guards=Ig []
def rX.mono{j k:Nat}{A:Ab}(r:rX k A)(h:j<=k):rX j A:=⟨r.hd,by have:=r.dp; lia,by have:=r.un; lia,r.gd⟩
def rX.deeper{k:Nat}{A:Ab}(r:rX (k+1) A)(env:Dk):rX k (A.deeper env) :=
 ⟨r.hd,by have:=r.dp; show A.depth+1+3*k+5<_; lia,by have:=r.un; show A.units+3+16*k+200<_; lia,r.gd⟩
def dN{A:Ab}{C:b9}{us:List c7}{kw:List (g8×c7)} : (A.under (.builtin "type.__call__" ⟨.ref C::us,kw⟩)).depth=A.depth+1:=by
 first | rfl | simp[Ei,Code.weight,Code.isCreation,HG,Code.isCaller,HP,FH,guardIds]
def dI{A:Ab}{C:b9}{us:List c7}{kw:List (g8×c7)} : (A.under (.builtin "type.__call__" ⟨.ref C::us,kw⟩)).units=A.units+1:=by
 first | rfl | simp[Ei,Code.cUnits,HP,FH]
def rX.make{k:Nat}{A:Ab}(r:rX (k+1) A)(C:b9)(us:List c7)(kw:List (g8×c7)):rX k (A.under (.builtin "type.__call__" ⟨.ref C::us,kw⟩)) :=
 ⟨r.hd,by have:=r.dp; rw[dN]; lia,by have:=r.un; rw[dI]; lia,by first | exact r.gd | (rw[Ei]; simpa [pushGuards,Code.guards,HG,guardIds] using r.gd)⟩
def rX.depth{k:Nat}{A:Ab}(r:rX k A):A.depth<recursionLimit:=by have:=r.dp; lia
def rX.units{k:Nat}{A:Ab}(r:rX k A):A.units+64<cLine:=by have:=r.un; lia
def rX.units0{k:Nat}{A:Ab}(r:rX k A):A.units<cLine:=by have:=r.un; lia

def YY:TA:=λ_ H Q=>Q [] H
def jo(ta:TE)(tr:TA):TA:=λσ H Q=>ta σ H λx H1=>tr σ H1 λxs H2=>Q (x::xs) H2
section
variable{X:Cx}{e:t6}{es:List t6}{te:TE}{t:TA}{pos:Ck}
def zI:PA X [] YY:=λ_ _ _ _ H Q I h=>FI ⟨[],H,I,.nil,h⟩
def zB(ha:PE X e te)(hr:PA X es t)(hs:starEach (e::es) X.env=(Ij,eval e X.env)::starEach es X.env:=by rfl):PA X (e::es) (jo te t):=by
 intro pos Ik s σ H Q I h;rw[hs];show wpAny _ _ (spliced ((Ij,eval e X.env)::backTo pos (starEach es X.env))) _ _ s;erw[Fp (thn (ha Ik s σ H _ I h) λu s1 ⟨x,H1,I1,r1,q1⟩=>?_)];rwa[thn (hr pos Ik s1 σ H1 _ I1 q1) λus s2 ⟨xs,H2,I2,r2,q2⟩=>⟨x::xs,H2,I2,.cons r1 r2,q2⟩]

def tTup(t:TA):TE:=λσ H Q=>t σ H λxs H1=>xs.length<=sizeLine/\∀ p,H1 p=Ih->Q (.ref p) (upd H1 p (.tup xs))
def Uz(t:TA):TE:=λσ H Q=>t σ H λxs H1=>xs.length<=sizeLine/\∀ p,H1 p=Ih->Q (.ref p) (upd H1 p (.lst xs))
def yW{x1}(h:PA X es t):PE X (.Tuple es x1 pos) (tTup t):=by
 intro Ik s σ H Q I hq;erw[wpAny_Tuple_spliced (thn (h pos Ik s σ H _ I hq) λus s1 ⟨xs,H1,I1,r,z,q⟩=>⟨by rw[<- r.length]; exact z,?_⟩)];have hf:H1 s1.heap.objs.size=none:=I1.hok.fresh (d6 _);erw[.ref s1.heap.objs.size,upd H1 s1.heap.objs.size (.tup xs),I1.laid (t':=s1.toks) (λb u e=>c9 _ e) (d6 _) ?_,U,q _ hf];rwa[z,us,r,⟨_,e7 _ rfl,U,_,U⟩]
def vS(h:PA X es t):PE X (.List es pos) (Uz t):=by
 intro Ik s σ H Q I hq;erw[wpAny_List_spliced (thn (h pos Ik s σ H _ I hq) λus s1 ⟨xs,H1,I1,r,z,q⟩=>⟨by rw[<- r.length]; exact z,?_⟩)];have hf:H1 s1.heap.objs.size=none:=I1.hok.fresh (d6 _);erw[.ref s1.heap.objs.size,upd H1 s1.heap.objs.size (.lst xs),I1.laid (t':=s1.toks) (λb u e=>c9 _ e) (d6 _) ?_,U,q _ hf];rwa[z,us,0,r,e7 _ rfl]
end

abbrev Sp:=List V->Hp->VK->XK->Prop
abbrev CXT:=List Dk->Hp->d4->XK->c7->d4->Prop

structure YD(P:j9)(w:n5)(K:b7)(mg:g8->Option c7)(base:n9)(A:Ab)(outer:List Dk)(s:d4)(H:Hp):Prop where
 frames:A.frames=Ig outer
 mod:Mod K mg base
 bs:∀ b o,base.get? b=Ig o->s.heap.get? b=Ig o/\H b=Ih
 bsz:base.objs.size<=s.heap.objs.size
 funs:s.heap.FunFrames base outer
 frf:∀ b∈frs outer,H b=Ih
 hok:HOk P w H s.heap
 bare:Do s.gens
def CE(outer:List Dk)(P:j9)(w:n5)(H:Hp)(s:d4)(Q:VK)(u:c7)(s':d4):Prop :=
 ∃ v H',s'.os=s.os/\Do s'.gens/\Un (frs outer) [] H H' s.heap s'.heap/\HOk P w H' s'.heap/\xE v u/\Q v H'
def CR(CX:CXT)(outer:List Dk)(P:j9)(w:n5)(H:Hp)(s:d4)(Q:VK)(E:XK)(r:Result)(s':d4):Prop :=
 match r with
 | .ok (.ret u)=>CE outer P w H s Q u s'
 | .ok _=>False
 | .error e=>CX outer H s E e s'
structure yX(P:j9)(w:n5)(K:b7)(mg:g8->Option c7)(base:n9)(CX:CXT)(k:Nat)(f:b9)(fd:Aq)(ps:List g8)(sp:Sp):Prop where
 len:∀ vs H Q E,sp vs H Q E->vs.length=ps.length
 run:∀(A:Ab)(outer:List Dk)(s:d4)(H:Hp)(args:Args)(us:List c7)(vs:List V)(Q:VK)(E:XK),rX k A->YD P w K mg base A outer s H->Ej s fd args (ps.zip us)->yP vs us->sp vs H Q E ->
  codeAny (model P w) A (.call (.ref f) args) (CR CX outer P w H s Q E) s
def YD.make{P:j9}{w:n5}{K:b7}{mg:g8->Option c7}{base:n9}{A:Ab}{outer:List Dk}{s:d4}{H:Hp}(e:YD P w K mg base A outer s H)(C:b9)(us:List c7)(kw:List (g8×c7)) :
  YD P w K mg base (A.under (.builtin "type.__call__" ⟨.ref C::us,kw⟩)) outer s H:=⟨by first | exact e.frames | (simpa [Ei,Code.envs,FH,pushEnvs] using e.frames),e.mod,e.bs,e.bsz,e.funs,e.frf,e.hok,e.bare⟩
section
variable{X:Cx}{Ik:List (b9×AL)}{σ:St}{H:Hp}{s s':d4}
def Inv.env0(I:Inv X Ik σ H s):YD X.prog X.w X.K X.mg X.base X.A X.stack s H :=
 ⟨I.ok.frames,I.ok.mod,I.bs,j8 I.ok.bsz I.sz,I.stack,I.stkFree,I.hok,I.bare⟩
def Inv.after{Q:VK}{u:c7}(I:Inv X Ik σ H s)(h:CE X.stack X.prog X.w H s Q u s'):EP X Ik σ Q u s':=by
 obtain⟨v,H',os,bare,un,hok,r,q⟩:=h;obtain⟨hh,g,d,t,os'⟩:=s';obtain rfl:os'=s.os:=os;rwa[v,H',I.call (h':=hh) (g':=g) (d':=d) (t':=t) (ch:=[]) un hok bare (λb z=>x4 z (by simp)),r,q]
end

def dM(sp:Sp)(dvs:List V)(E:XK)(t:TA):TE:=λσ H Q=>t σ H λvs H1=>sp (vs++dvs) H1 Q E
def vb(K:b7)(fd:Aq)(ps:List g8)(ds:List c7):Prop :=
 ∀(s:d4)(us:List c7),K.In s.heap->(us++ds).length=ps.length->Ej s fd ⟨us,[]⟩ (ps.zip (us++ds))
def vb.all{K:b7}{fd:Aq}{ps:List g8}(h:∀ us:List c7,us.length=ps.length->bindArgs fd ⟨us,[]⟩=pure (ps.zip us)):vb K fd ps []:=λs us _ hl=>by
 rw[Bq] at hl ⊢;rwa[.of_eq (h us hl)]

def kK(CX:CXT)(X:Cx)(E:XK):Prop:=∀(Ik:List (b9×AL))(σ:St)(H:Hp)(s:d4)(e:c7)(s':d4),Inv X Ik σ H s->CX X.stack H s E e s'->X.xe e s'

section
variable{X:Cx}{CX:CXT}{k:Nat}{f C:b9}{fd:Aq}{ps:List g8}{sp:Sp}{dvs:List V}{ds:List c7}{E:XK}{x m:g8}{p pos apos:Ck}{e o:t6}{es:List t6}{ta:TE}{t:TA}

def dm{Ik:List (b9×AL)}{σ:St}{H:Hp}{s:d4}{Q:VK}{us:List c7}{vs:List V}(F:yX X.prog X.w X.K X.mg X.base CX k f fd ps sp)(hr:rX k X.A)(hb:vb X.K fd ps ds)(hd:yP dvs ds)(hx:kK CX X E)
  (I:Inv X Ik σ H s) (r:yP vs us) (h:sp (vs++dvs) H Q E):wpAny (model X.prog X.w) X.A (call (.ref f) us) (EP X Ik σ Q) X.xe s:=by
 have r2:yP (vs++dvs) (us++ds):=r.append hd;have hl:(us++ds).length=ps.length:=by rw[<- r2.length]; rwa[F.len _ _ _ _ h]
 erw[DA (codeAny_mono (F.run X.A X.stack s H ⟨us,[]⟩ (us++ds) (vs++dvs) Q E hr I.env0 (hb s us I.kIn hl) r2 h) λr s' hq=>?_)];cases r with
 | error e=>rwa[hx Ik σ H s e s' I hq]
 | ok fl =>
  cases fl with
  | ret u=>rwa[I.after hq]
  | next=>rwa[v7 hq]
  | brk=>rwa[v7 hq]
  | cont=>rwa[v7 hq]

def Wn(F:yX X.prog X.w X.K X.mg X.base CX k f fd ps sp)(hr:rX k X.A)(hg:Gl X x)(hm:X.mg x=Ig (.ref f))(hk:Au X.K (.ref f)=Ii)(hb:vb X.K fd ps ds)(hd:yP dvs ds)(hx:kK CX X E)
  (ha:PA X (e::es) t) (hdb:(x ==("__debug__" : g8))=false:=by decide) (he:starEach (e::es) X.env=(Ij,eval e X.env)::starEach es X.env:=by rfl) (hpl:(backTo pos (starEach es X.env)).any (·.1)=false:=by rfl) :
  PE X (.Call (.Name x p) (e::es) [] pos) (dM sp dvs E t):=by
 intro Ik s σ H Q I h;erw[Ba (sF I hg hm ?_ hdb)];erw[Bw (h₀:=X.base) I.ok.mod.kin hk (thn (ha pos Ik s σ H _ I h) λus s1 ⟨vs,H1,I1,r,q⟩=>⟨I1.kIn,?_⟩) he hpl];rwa[dm F hr hb hd hx I1 r q]
def Zb(F:yX X.prog X.w X.K X.mg X.base CX k f fd ps sp)(hr:rX k X.A)(hg:Gl X x)(hm:X.mg x=Ig (.ref f))(hk:Au X.K (.ref f)=Ii)(hb:vb X.K fd ps ds)(hd:yP dvs ds)(hx:kK CX X E)
  (hdb:(x ==("__debug__" : g8))=false:=by decide):PE X (.Call (.Name x p) [] [] pos) (dM sp dvs E YY):=by
 intro Ik s σ H Q I h;erw[Ba (sF I hg hm ?_ hdb)];rwa[Ct I.kIn hk (dm (us:=[]) F hr hb hd hx I .nil h)]

structure Mk(K:b7)(C f:b9):Prop where
 makes:Gs K C=Ii
 init:AI K (.ref C) "__init__" = Ig (Ig (.ref f))
 fn:FC K (.ref f)=Ii
 kp:Au K (.ref C)=Ii

def ZS{Ik:List (b9×AL)}{σ:St}{H:Hp}{s:d4}{Q:VK}{us:List c7}{vs:List V}(M:Mk X.K C f)(F:yX X.prog X.w X.K X.mg X.base CX k f fd ps sp)(hr:rX (k+1) X.A)(hb:vb X.K fd ps ds)(hd:yP dvs ds)
  (hx:kK CX X E) (I:Inv X Ik σ H s) (r:yP vs us)
  (h:∀ x dx,H x=Ih->H dx=Ih->dx≠x->sp (.ref x::(vs++dvs)) (upd (upd H dx (.own x)) x (.ins C dx [])) (λv H2=>v=.non/\Q (.ref x) H2) E) :
  wpAny (model X.prog X.w) X.A (call (.ref C) us) (EP X Ik σ Q) X.xe s:=by
 have hq:=h (s.heap.objs.size+1) s.heap.objs.size (I.hok.fresh (BV _)) (I.hok.fresh (d6 _)) (l6 (D5 _));have I2:=Inv.made (C:=C) I;have r2:yP (V.ref (s.heap.objs.size+1)::(vs++dvs)) (j6 (s.heap.objs.size+1)::(us++ds)):=.cons rfl (r.append hd);have hl:(j6 (s.heap.objs.size+1)::us++ds).length=ps.length:=by
  have e:=r2.length;rw[F.len _ _ _ _ hq] at e;rwa[e.symm]
 refine DA (YI (f:=f) I.kIn M.makes M.init (beq_iff_eq.mp M.fn) (codeAny_mono (F.run _ X.stack _ _ ⟨j6 (s.heap.objs.size+1)::us,[]⟩ (j6 (s.heap.objs.size+1)::(us++ds)) _ _ E (hr.make C us [])
  (I2.env0.make C us []) (hb _ (j6 (s.heap.objs.size+1)::us) I2.kIn hl) r2 hq) λr s' hq'=>?_))
 cases r with
 | error e=>rwa[hx Ik σ _ _ e s' I2 hq']
 | ok fl =>
  cases fl with
  | ret u =>
   obtain⟨v,H',I3,rv,ev,q3⟩:=I2.after hq';subst ev;rwa[rv,⟨V.ref (s.heap.objs.size+1),H',I3,U,q3⟩]
  | next=>rwa[v7 hq']
  | brk=>rwa[v7 hq']
  | cont=>rwa[v7 hq']
end

section
variable{X:Cx}{CX:CXT}{k:Nat}{f C:b9}{fd:Aq}{ps ks:List g8}{sp:Sp}{E:XK}{x m:g8}{p pos apos kpos:Ck}{e o:t6}{es:List t6}{kws:List DP}{te ta:TE}{t tk:TA}{nm:Option g8}
structure KBinds(K:b7)(fd:Aq)(ps ks:List g8)(g:List c7->List c7->List c7)(gV:List V->List V->List V):Prop where
 to:∀(s:d4)(us ws:List c7),K.In s.heap->(g us ws).length=ps.length->Ej s fd ⟨us,ks.zip ws⟩ (ps.zip (g us ws))
 rel:∀{vs:List V}{us:List c7}{zs:List V}{ws:List c7},yP vs us->yP zs ws->yP (gV vs zs) (g us ws)
variable{g:List c7->List c7->List c7}{gV:List V->List V->List V}
end

structure zP(N P:List g8)(sc:CJ):Prop where
 kind:sc.kind=.function
 co:sc.isCoroutine=Ij
 gen:sc.isGenerator=Ij
 nd:N.Nodup
 pre:N.take P.length=P
 par:∀ x∈P,sc.names.lookup x=Ig .local\/sc.names.lookup x=Ig .cell
 nofree:∀ y∈sc.names,y.2≠.free

def iI{kindOf:g8->Option Ce}{x:g8} : ∀{binds:List (g8×c7)}{m:g8->Option c7},(∀ v,(x,v) ∉ binds)->bindL kindOf binds m x=m x
 | [],_,_=>rfl
 | (n,v)::r,m,h=>by
  unfold bindL;rw[iI λw hw=>h w (Ac _ hw)];split
  ·have:x≠n:=by rintro rfl; rwa[h v AH]
   simp[this]
  ·rfl
def kQ{kindOf:g8->Option Ce}{x:g8} : ∀{binds:List (g8×c7)}{m:g8->Option c7},(∀ v,(x,v) ∉ binds)->bindC kindOf binds m x=m x
 | [],_,_=>rfl
 | (n,v)::r,m,h=>by
  unfold bindC;rw[kQ λw hw=>h w (Ac _ hw)];split
  ·rfl
  ·have:x≠n:=by rintro rfl; rwa[h v AH]
   simp[this]
def jk{kindOf:g8->Option Ce}{x:g8}{v:c7} : ∀{P:List g8}{vs:List c7}{i:Nat}{m:g8->Option c7},P.Nodup->P[i]?=Ig x->vs[i]?=Ig v->kindOf x=Ig .local ->
  bindL kindOf (P.zip vs) m x=Ig v
 | [],_,_,_,_,h,_,_=>by simp at h
 | _::_,[],_,_,_,_,h,_=>by simp at h
 | p::P,w::vs,0,m,nd,h1,h2,hk=>by
  simp at h1 h2; subst h1; subst h2;show bindL kindOf ((p,w)::P.zip vs) m p=_;unfold bindL;rw[iI λv hv=>(B2.mp nd).1 (Dc hv).1,y9 hk];simp
 | p::P,w::vs,i+1,m,nd,h1,h2,hk=>by
  show bindL kindOf ((p,w)::P.zip vs) m x=_;unfold bindL;exact jk (i:=i) (B2.mp nd).2 (by simpa using h1) (by simpa using h2) hk
def iy{kindOf:g8->Option Ce}{x:g8}{v:c7} : ∀{P:List g8}{vs:List c7}{i:Nat}{m:g8->Option c7},P.Nodup->P[i]?=Ig x->vs[i]?=Ig v->kindOf x≠Ig .local ->
  bindC kindOf (P.zip vs) m x=Ig v
 | [],_,_,_,_,h,_,_=>by simp at h
 | _::_,[],_,_,_,_,h,_=>by simp at h
 | p::P,w::vs,0,m,nd,h1,h2,hk=>by
  simp at h1 h2; subst h1; subst h2;show bindC kindOf ((p,w)::P.zip vs) m p=_;unfold bindC;rw[kQ λv hv=>(B2.mp nd).1 (Dc hv).1,y7 hk];simp
 | p::P,w::vs,i+1,m,nd,h1,h2,hk=>by
  show bindC kindOf ((p,w)::P.zip vs) m x=_;unfold bindC;exact iy (i:=i) (B2.mp nd).2 (by simpa using h1) (by simpa using h2) hk

def start(N:List g8)(vs:List V):St:=vs.map Ig++x6 (N.length-vs.length) Ih

def cxOf(CX:CXT)(P:j9)(w:n5)(K:b7)(mg:g8->Option c7)(base:n9)(N:List g8)(qual:g8)(scope:CJ)(f:b9)(cd:c7)(A:Ab)(outer:List Dk)(s:d4)(H:Hp)(E:XK):Cx where
 prog:=P
 w:=w
 K:=K
 mg:=mg
 base:=base
 A:=A.deeper (envOfC qual scope s.heap.objs.size f cd)
 N:=N
 s₀:=s
 H₀:=H
 env:=envOfC qual scope s.heap.objs.size f cd
 outer:=outer
 stack:=envOfC qual scope s.heap.objs.size f cd::outer
 ex:=[]
 calm:=Ii
 fn:=λ_=>Ii
 pn:=[]
 xe:=λe s'=>wpAny (model P w) (A.deeper (envOfC qual scope s.heap.objs.size f cd)) (leaving (envOfC qual scope s.heap.objs.size f cd) e) (λ_ s''=>CX outer H s E e s'') (λe' s''=>CX outer H s E e' s'') s'

def eX{sc:CJ}{n:Nat}{x:g8}(h:sc.names.lookup x=Ig .cell):∃ c,(cellsFrom n sc.names []).lookup x=Ig c:=by
 have q:=CO sc.names n [] (.inl h);rwa[k9.mp q]

def iB{CX:CXT}{P:j9}{w:n5}{K:b7}{mg:g8->Option c7}{base:n9}{N ps:List g8}{qual:g8}{scope:CJ}{f:b9}{cd:c7}{A:Ab}{outer:List Dk}{s s1:d4}{H:Hp}{E:XK}{us:List c7}{vs:List V}
  (S:zP N ps scope) (hd:A.handled=Ih) (e0:YD P w K mg base A outer s H) (hl:vs.length=ps.length) (r:yP vs us)
  (x:InCallC s s.heap.objs.size (bindL (envOfC qual scope s.heap.objs.size f cd).kindOf (ps.zip us) λ_=>Ih) (cellsFrom (s.heap.objs.size+1) scope.names []) (bindC (envOfC qual scope s.heap.objs.size f cd).kindOf (ps.zip us) λ_=>Ih) s1) :
  Inv (cxOf CX P w K mg base N qual scope f cd A outer s H E) [] (start N vs) H s1:=by
 have hpl:ps.length<=N.length:=by have:=congrArg A3 S.pre; rw[i9] at this; lia
 obtain⟨h1,tk,rfl,hk⟩:=x.done;have noA:∀ b:b9,b ∉ (cxOf CX P w K mg base N qual scope f cd A outer s H E).ex:=λb z=>x4 (show b∈([]:List b9) from z) (by simp);refine⟨⟨e0.mod,S.kind,U,U,d6 _,λy z c h1 h2=>?_,λy hy=>?_,λy c _ h=>?_,λ_=>hd,Around.frames_deeper e0.frames,.inr ⟨U,U⟩,λb z=>x4 z (noA b),e0.bs,e0.bsz,λb _ _=>noA b,λb z=>x4 z (noA b),e0.funs,e0.frf⟩,
  rfl,e0.bare,Un.kept hk,⟨_,x.toInCall.ns,λi y v h1 h2 h3=>?_⟩,λy c h=>⟨_,x.cell y c h⟩,e0.hok.fresh (d6 _),λy c h=>?_,λp hp=>x4 (show p∈([]:List (b9×AL)) from hp) (by simp),e0.hok.kept hk,?_⟩
 ·rwa[name_of_addr x.apart (Bs h1) (Bs h2)]
 ·have hy:scope.names.lookup y=Ig .cell\/scope.names.lookup y=Ig .free:=hy;rcases hy with hy | hy
  ·rwa[eX hy]
  ·rwa[x4 rfl (S.nofree _ (Bs hy))]
 ·rwa[BH (x.above y c (Bs h))]
 ·have hi:i<vs.length:=by
   unfold start at h2;by_cases hi:i<vs.length
   ·rwa[hi]
   ·rw[Ay (by simpa using hi)] at h2;rw[CK] at h2;split at h2 <;> cases h2
  have ha:vs[i]?=Ig v:=by
   unfold start at h2;rw[A5 (by simpa using hi),d8] at h2;cases e:vs[i]? with
   | none=>rw[e] at h2; cases h2
   | some a=>rw[e] at h2; cases h2; rfl
  obtain⟨u,hu,rv⟩:=r.get ha;have hp:ps[i]?=Ig y:=by
   rw[<- S.pre,List.getElem?_take_of_lt (by lia)]; rwa[h1]
  have ndP:ps.Nodup:=by rw[<- S.pre]; rwa[S.nd.sublist (List.take_sublist _ _)]
  exists u,rv;rcases S.par y (i8 hp) with k | k
  ·rwa[.inl ⟨k,jk ndP hp hu k⟩]
  ·obtain⟨c,e⟩:=eX (n:=s.heap.objs.size+1) k;erw[.inr ⟨.inl k,c,e,?_⟩];have q:=x.cell y c e;rw[iy ndP hp hu (by show scope.names.lookup y≠_; rw[k]; decide)] at q;rwa[q]
 ·rwa[e0.hok.fresh (BH (x.above y c (Bs h)))]
 ·unfold start;show _=N.length;rw[f8,a7,A7];lia

def VH{CX:CXT}{P:j9}{w:n5}{K:b7}{mg:g8->Option c7}{base:n9}{k:Nat}{f:b9}{name qual:g8}{params:Arguments}{body:List Ah}{scope:CJ}{dV kV doc pm cdv ct oc:c7}{an od:Option b9}
  {osl:Array (Option c7)} {N ps:List g8} {sp:Sp} (lk:K.lookup f=Ig ⟨oc,od,.func (An name qual params body scope dV kV doc pm an cdv ct),osl⟩) (hcd:Cf K cdv qual=Ii) (S:zP N ps scope)
  (len:∀ vs H Q E,sp vs H Q E->vs.length=ps.length)
  (hbody:∀(A:Ab)(outer:List Dk)(s:d4)(H:Hp)(vs:List V)(Q:VK)(E:XK),rX k (A.deeper (envOfC qual scope s.heap.objs.size f cdv))->sp vs H Q E ->
   ∃ t,PSs (cxOf CX P w K mg base N qual scope f cdv A outer s H E) body t/\t { nx:=λ_ H'=>Q .non H',rt:=Q } (start N vs) H) :
  yX P w K mg base CX (k+1) f (An name qual params body scope dV kV doc pm an cdv ct) ps sp:=by
 refine⟨len,λA outer s H args us vs Q E hr e0 hb r hsp=>?_⟩;have hl:=len _ _ _ _ hsp;have KX:K.In s.heap:=e0.mod.kin.keeps λb o e=>(e0.bs b o e).1;have lim:s.heap.NoLimit:=e0.mod.nolimit.keeps λb o e=>(e0.bs b o e).1;have hkind:∀ y∈ps.zip us,scope.names.lookup y.1=Ig .local\/(scope.names.lookup y.1=Ig .cell/\((cellsFrom (s.heap.objs.size+1) scope.names []).lookup y.1).isSome=Ii):=λ⟨n,v⟩ hy=>by
  rcases S.par n (Dc hy).1 with q | q
  ·rwa[.inl q]
  ·rwa[.inr ⟨q,CO _ _ _ (.inl q)⟩]
 refine codeAny_call_function hr.depth (KX _ _ lk) rfl S.co S.gen rfl (Fq KX hcd) (hb _ _ _ _ ?_);refine DB S.kind hkind λenv he s1 x=>?_;subst he;refine⟨lim.keeps x.toInCall.keep,codeAny_func ?_⟩;obtain⟨t,ht,hq⟩:=hbody A outer s H vs Q E (hr.deeper _) hsp;have I:Inv (cxOf CX P w K mg base N qual scope f cdv A outer s H E) [] (start N vs) H s1:=iB S hr.hd e0 hl r x;refine A9 (ht [] s1 (start N vs) H _ I hq) (λfl s' hs=>?_) λe s' hs=>hs;have fin:∀{σ':St}{H':Hp}{v:V}{u:c7},Inv (cxOf CX P w K mg base N qual scope f cdv A outer s H E) [] σ' H' s'->xE v u->Q v H'->CE outer P w H s Q u s' :=
  λ{σ' H' v u} J rv q=>⟨v,H',J.os,J.bare,J.base,J.hok,rv,q⟩
 cases fl with
 | ret u =>
  obtain⟨v,σ',H',J,rv,q⟩:=hs;rwa[fin J rv q]
 | next =>
  obtain⟨σ',H',J,q⟩:=hs;rwa[fin (v:=V.non) (u:=p8) J rfl q]
 | brk =>
  obtain⟨_,_,_,q⟩:=hs;rwa[v7 q]
 | cont =>
  obtain⟨_,_,_,q⟩:=hs;rwa[v7 q]
end L2

namespace L2
section
variable{X:Cx}{x:g8}{p pos:Ck}{e:t6}{es:List t6}{t:TA}{id T:String}{r:List V->Hp->VK->Prop}

def tCB(r:List V->Hp->VK->Prop)(t:TA):TE:=λσ H Q=>t σ H λvs H1=>r vs H1 Q
def zR(hc:uU X (.builtin id) r)(hg:Gl X x)(hm:X.mg x=Ih)(hv:bootBuiltins x=Ig (.builtin id))(ha:PA X (e::es) t)(hn:x ≠ "__name__" := by decide)(hdb:(x ==("__debug__" : g8))=false:=by decide)
  (he:starEach (e::es) X.env=(Ij,eval e X.env)::starEach es X.env:=by rfl) (hpl:(backTo pos (starEach es X.env)).any (·.1)=false:=by rfl):PE X (.Call (.Name x p) (e::es) [] pos) (tCB r t):=by
 intro Ik s σ H Q I h;erw[Ba (pY I hg hm hv ?_ hn hdb)];rwa[F4 (thn (ha pos Ik s σ H _ I h) λus s1 ⟨vs,H1,I1,r1,q1⟩=>hc Ik s1 σ H1 vs us Q I1 r1 q1) he hpl]
def xP(hc:uU X (.type T) r)(hg:Gl X x)(hm:X.mg x=Ih)(hv:bootBuiltins x=Ig (.type T))(ha:PA X (e::es) t)(hn:x ≠ "__name__" := by decide)(hdb:(x ==("__debug__" : g8))=false:=by decide)
  (he:starEach (e::es) X.env=(Ij,eval e X.env)::starEach es X.env:=by rfl) (hpl:(backTo pos (starEach es X.env)).any (·.1)=false:=by rfl):PE X (.Call (.Name x p) (e::es) [] pos) (tCB r t):=by
 intro Ik s σ H Q I h;erw[Ba (pY I hg hm hv ?_ hn hdb)];rwa[AV (thn (ha pos Ik s σ H _ I h) λus s1 ⟨vs,H1,I1,r1,q1⟩=>hc Ik s1 σ H1 vs us Q I1 r1 q1) he hpl]
end
end L2

namespace HT
open PySem PyProof.Rows

def lexLt:List Int->List Int->Bool
 | [],[]=>Ij
 | [],_::_=>Ii
 | _::_,[]=>Ij
 | x::xs,y::ys=>if x=y then lexLt xs ys else decide (x<y)
section
open PySem.SeqAt
open PySem.AutoSeq1 (wpAny_loadPart')
open PySem.MeetsSeq PySem.MeetsSeq2 PySem.MeetsSeq3

end

section
variable{prog:j9}{w:n5}{A:Ab}{E:c7->d4->Prop}{s:d4}

def sIx(n d:Nat):Option Int->Nat
 | none=>d
 | some v=>if v<0 then(v+(n:Int)).toNat else min v.toNat n
def sIx_nat(n d k:Nat):sIx n d (Ig (k:Int))=min k n:=by
 show(if (k:Int)<0 then((k:Int)+(n:Int)).toNat else min (k:Int).toNat n)=min k n;rw[y7 (by lia),AE]
def UF(n d:Nat)(hd:d<=n)(o:Option Int):sIx n d o<=n:=by
 cases o with
 | none=>rwa[hd]
 | some v =>
  show(if v<0 then(v+(n:Int)).toNat else min v.toNat n)<=n;by_cases hv:v<0
  ·rw[y9 hv]; lia
  ·rw[y7 hv]; rwa[Nat.min_le_right _ _]
def cN(v:Int)(n d:Nat):(if v<0 then max (v+(n:Int)) 0 else min v (n:Int))=((sIx n d (Ig v):Nat):Int):=by
 show(if v<0 then max (v+(n:Int)) 0 else min v (n:Int))=(((if v<0 then(v+(n:Int)).toNat else min v.toNat n):Nat):Int);by_cases hv:v<0
 ·simp only[y9 hv]; lia
 ·simp only[y7 hv]; lia
def cE(lo hi:Option Int)(n:Nat):Cp lo hi 1 (n:Int)=(((sIx n 0 lo:Nat):Int),((sIx n n hi:Nat):Int)):=by
 have h1:¬ ((1:Int)<0):=by lia
 unfold Cp;simp only[h1,if_false];erw[FJ ?_ ?_]
 ·cases lo with
  | none=>rfl
  | some v=>rwa[cN v n 0]
 ·cases hi with
  | none=>rfl
  | some v=>rwa[cN v n n]
def cI(i j:Nat):BD (i:Int) (j:Int) 1=j-i:=by
 unfold BD;have h1:(1:Int)>0:=by lia
 simp only[h1,if_true,Int.ediv_one];split <;> lia
def mq{v:c7}{o:Option Int}{Q:Option Int->d4->Prop}(p:Fr v o)(h:Q o s):wpAny (model prog w) A (Gu v) Q E s:=by
 cases p with
 | none=>rwa[slicePart_none h]
 | int i t=>rwa[slicePart_int h]
def qg{sl:b9}{vl vu:c7}{lo hi:Option Int}{n:Nat}{Q:Int×Int×Nat->d4->Prop}(hs:s.heap.IsSliceOf sl vl vu .none)(pl:Fr vl lo)(pu:Fr vu hi)
  (h:Q (((sIx n 0 lo:Nat):Int),1,sIx n n hi-sIx n 0 lo) s):wpAny (model prog w) A (DC (.ref sl) (pure (n:Int))) Q E s:=by
 obtain⟨os,hos,hcs,hds⟩:=id hs;unfold DC G0;erw[ac (ac (Ae hos hds (x:=vl) rfl (ac (Ae hos hds (x:=vu) rfl (ac (Ae hos hds (x:=.none) rfl (d7 ?_)))))))];erw[ac (slicePart_none ?_)];show wpAny _ _ (if ((1:Int) == 0)=Ii then _ else _) _ _ s;rw[y7 (by decide)];erw[ac (mq pl (ac (mq pu (ac (d7 ?_)))))];show wpAny _ _ (match Cp lo hi 1 (n:Int) with | (lo,hi)=>pure (lo,(1:Int),BD lo hi 1)) _ _ s;rw[cE lo hi n];show wpAny _ _ (pure (((sIx n 0 lo:Nat):Int),(1:Int),BD ((sIx n 0 lo:Nat):Int) ((sIx n n hi:Nat):Int) 1)) _ _ s;rw[cI];rwa[d7 h]
def ZI(xs:Array c7)(i k:Nat):((Ai k).filterMap λ(m:Nat)=>xs[((i:Int)+(m:Int)*1).toNat]?).toArray=((xs.toList.drop i).take k).toArray:=by
 have e:(λ(m:Nat)=>xs[((i:Int)+(m:Int)*1).toNat]?)=λm=>xs[i+m]?:=by
  funext m
  have:((i:Int)+(m:Int)*1).toNat=i+m:=by lia
  rw[this]
 rw[e];have:=pick_run xs i k;rw[List.filterMap_map] at this;have e2:((λx=>xs[x]?) ∘ λx=>i+x)=λm=>xs[i+m]?:=rfl;rw[e2] at this;rw[this]

def getItem_tuple_cut{t sl:b9}{items:Array c7}{vl vu:c7}{lo hi:Option Int}{Q:c7->d4->Prop}(ht:Hv s.heap t items)(hs:s.heap.IsSliceOf sl vl vu .none)(pl:Fr vl lo)(pu:Fr vu hi)
  (hw:¬ (sIx items.size 0 lo=0/\sIx items.size items.size hi=items.size))
  (h:Q (.ref s.heap.objs.size) { s with heap:=s.heap.push { cls:=.type "tuple",data:=.seq ((items.toList.drop (sIx items.size 0 lo)).take (sIx items.size items.size hi-sIx items.size 0 lo)).toArray } })
  (hsz:items.size<=sizeLine):wpAny (model prog w) A (getItem (.ref t) (.ref sl)) Q E s:=by
 have htake:sizeOk (.seq ((items.toList.drop (sIx items.size 0 lo)).take (sIx items.size items.size hi-sIx items.size 0 lo)).toArray):=by
  show((items.toList.drop (sIx items.size 0 lo)).take (sIx items.size items.size hi-sIx items.size 0 lo)).toArray.size<=sizeLine;rw[i0,i9,p0,Aj];lia
 have hj:sIx items.size items.size hi<=items.size:=UF _ _ (d6 _) hi;obtain⟨os,hos,hcs,hds⟩:=id hs;have hTs:s.TypeIs (.ref sl) "slice" :=⟨os,hos,hcs⟩;unfold getItem
 try with_reducible refine Aw ?_
 first | refine ac (d7 ?_) | skip
 refine ac (wpAny_sequenceKey ht.typeIs (by decide) ?_);refine ac (Ap (name:=l5 "__getitem__") ht.typeIs BP
  (Ar BP ht.typeIs entry_tuple_getitem ?_ (args_tuple_getitem _ _)))
 show wpAny _ _ (GC (.ref t) >>= _) _ _ s;refine ac (tupleItemsOf_ ht ?_);refine ac (wpAny_typeOf hTs ?_);rw[y9 (by decide)];refine ac (qg hs pl pu ?_);have hno:¬ ((((sIx items.size 0 lo:Nat):Int) == 0&&(1:Int) == 1&&(sIx items.size items.size hi-sIx items.size 0 lo) == items.size)=Ii):=by
  intro q;rw[o8,o8] at q;have q1:((sIx items.size 0 lo:Nat):Int)=0:=eq_of_beq q.1.1;have q2:sIx items.size items.size hi-sIx items.size 0 lo=items.size:=eq_of_beq q.2;rwa[hw ⟨by lia,by lia⟩]
 show wpAny _ _ (if (((sIx items.size 0 lo:Nat):Int) == 0&&(1:Int) == 1&&(sIx items.size items.size hi-sIx items.size 0 lo) == items.size)=Ii then _ else _) _ _ s;rw[y7 hno,ZI]
 first
  | exact ac (m:=BL _) (p9 (d7 ⟨_,rfl,d7 h⟩) htake)
  | exact ac (m:=BL _) (p9 (ac (d7 (d7 ⟨_,rfl,d7 h⟩))) htake)
  | exact ac (ac (m:=BL _) (p9 (d7 (d7 ⟨_,rfl,d7 h⟩)) htake))
  | exact ac (ac (m:=BL _) (p9 (d7 ⟨_,rfl,d7 h⟩) htake))
end
end HT

namespace L2

abbrev TO:=St->Hp->(Option Int->Hp->Prop)->Prop
def PO(X:Cx)(e:Option t6)(t:TO):Prop :=
 ∀(Ik:List (b9×AL))(s:d4)(σ:St)(H:Hp)(Q:Option Int->Hp->Prop),Inv X Ik σ H s->t σ H Q ->
  wpAny (model X.prog X.w) X.A (evalPart e X.env) (λu s'=>∃ o H',Inv X Ik σ H' s'/\Fr u o/\Q o H') X.xe s
def Vz:TO:=λ_ H Q=>Q Ih H
def tPart(t:TE):TO:=λσ H Q=>t σ H λx H1=>∃ i,x=.int i/\Q (Ig i) H1

section
variable{X:Cx}{e:t6}{te:TE}{lo hi:Option t6}{tl th:TO}{pos p2:Ck}

def sS:PO X Ih Vz:=by
 intro Ik s σ H Q I h;rw[evalPart_none];rwa[d7 ⟨Ih,H,I,.none,h⟩]
def sI(h:PE X e te):PO X (Ig e) (tPart te):=by
 intro Ik s σ H Q I hw;rw[evalPart_some];erw[thn (h Ik s σ H _ I hw) λu s1 ⟨x,H1,I1,r1,q1⟩=>?_];obtain⟨i,rfl,q⟩:=q1;obtain⟨t,rfl⟩:=r1;rwa[Ig i,H1,I1,.int i t,q]

def SlR(X:Cx)(r:V->Option Int->Option Int->Hp->VK->Prop):Prop :=
 ∀(Ik:List (b9×AL))(s:d4)(σ:St)(H:Hp)(x:V)(v vl vu:c7)(lo hi:Option Int)(sl:b9)(Q:VK),Inv X Ik σ H s->xE x v->s.heap.IsSliceOf sl vl vu .none->Fr vl lo->Fr vu hi->r x lo hi H Q ->
  ∃ T id,typeLookup (.type T) "__getitem__" = pure (Ig (.builtin id))/\s.TypeIs v T/\wpAny (model X.prog X.w) X.A (getItem v (.ref sl)) (EP X Ik σ Q) X.xe s
def tSl(r:V->Option Int->Option Int->Hp->VK->Prop)(te:TE)(tl th:TO):TE:=λσ H Q=>te σ H λx H1=>tl σ H1 λl H2=>th σ H2 λu H3=>r x l u H3 Q
def uG{r:V->Option Int->Option Int->Hp->VK->Prop}(hr:SlR X r)(he:PE X e te)(hl:PO X lo tl)(hu:PO X hi th):PE X (.Subscript e (.Slice lo hi Ih p2) pos) (tSl r te tl th):=by
 intro Ik s σ H Q I h;erw[GD (thn (he Ik s σ H _ I h) λv s1 ⟨x,H1,I1,r1,q1⟩=>?_)];erw[wpAny_Slice (thn (hl Ik s1 σ H1 _ I1 q1) λvl s2 ⟨l,H2,I2,pl,q2⟩=>thn (hu Ik s2 σ H2 _ I2 q2) λvu s3 ⟨u,H3,I3,pu,q3⟩=>?_)];rw[evalPart_none];erw[d7 ?_];have I4:Inv X Ik σ H3 { s3 with heap:=s3.heap.push { cls:=.type "slice",data:=.fields #[vl,vu,.none] } }:=I3.kept (t':=s3.toks) λb ob q=>c9 _ q;obtain⟨T,id,hT,ht,hg⟩:=hr Ik { s3 with heap:=s3.heap.push { cls:=.type "slice",data:=.fields #[vl,vu,.none] } } σ H3 x v vl vu l u s3.heap.objs.size Q I4 r1 (HV ..) pl pu q3;show wpAny (model X.prog X.w) X.A (subscriptTail e (.Slice lo hi Ih p2) v (.ref s3.heap.objs.size)) (EP X Ik σ Q) X.xe { s3 with heap:=s3.heap.push { cls:=.type "slice",data:=.fields #[vl,vu,.none] } };rwa[tail_any (ops:=[.ref s3.heap.objs.size,v]) ht hT hg (by with_unfolding_all rfl)]

def zg(xs:List V)(lo hi:Option Int):List V:=(xs.drop (HT.sIx xs.length 0 lo)).take (HT.sIx xs.length xs.length hi-HT.sIx xs.length 0 lo)
def oG(xs:List V)(lo hi:Option Int):(zg xs lo hi).length<=xs.length:=by
 unfold zg;rw[i9,p0];lia
def rSlT(K:b7):V->Option Int->Option Int->Hp->VK->Prop:=λx lo hi H Q=>∃ a xs,x=.ref a/\SqT K H a xs /\
 ¬ (HT.sIx xs.length 0 lo=0/\HT.sIx xs.length xs.length hi=xs.length)/\∀ p,H p=Ih->Q (.ref p) (upd H p (.tup (zg xs lo hi)))
def sj:SlR X (rSlT X.K):=by
 intro Ik s σ H x v vl vu lo hi sl Q I rx hs pl pu h;obtain⟨a,xs,rfl,hx,hw,q⟩:=h;cases rx;obtain⟨its,r,ht,hz⟩:=I.tuple hx;have hlen:its.toArray.size=xs.length:=by rw[i0]; rwa[r.length.symm]
 exists "tuple",_,BP.lookup,ht.typeIs;erw[HT.getItem_tuple_cut ht hs pl pu (by rw[hlen]; rwa[hw]) ?_ (by rw[hlen]; rwa[hz])];rw[hlen];erw[.ref s.heap.objs.size,_,I.laid (t':=s.toks) (o:=.tup (zg xs lo hi)) (λb ob q=>c9 _ q) (d6 _) ?_,U,q _ (I.hok.fresh (d6 _))];rwa[j8 (oG xs lo hi) hz,_,(r.drop (HT.sIx xs.length 0 lo)).take (HT.sIx xs.length xs.length hi-HT.sIx xs.length 0 lo),Ib _ _]

end
end L2

namespace L2

def ixN(n:Nat)(i:Int):Option Nat:=if 0<=i then(if i<n then Ig i.toNat else Ih) else if -(n:Int)<=i then Ig (i+n).toNat else Ih
def atI{α:Type}(xs:List α)(i:Int):Option α:=(ixN xs.length i).bind λj=>xs[j]?
def Zg{n:Nat}{i:Int}{j:Nat}(h:ixN n i=Ig j):seqIndex? i n=Ig j/\j<n/\-(n:Int)<=i/\i<n:=by
 unfold ixN at h;by_cases h0:0<=i
 ·rw[y9 h0] at h;by_cases h1:i<n
  ·rw[y9 h1] at h;have e:i.toNat=j:=p5 h;rwa[by rw[seqIndex_of h0 h1,e],by lia,by lia,h1]
  ·rw[y7 h1] at h; cases h
 ·rw[y7 h0] at h;by_cases h1 : -(n:Int)<=i
  ·rw[y9 h1] at h;have e:(i+n).toNat=j:=p5 h;rwa[by rw[seqIndex_neg (by lia) h1,e],by lia,h1,by lia]
  ·rw[y7 h1] at h; cases h
def gC{α:Type}{xs:List α}{i:Int}{v:α}(h:atI xs i=Ig v):∃ j,seqIndex? i xs.length=Ig j/\xs[j]?=Ig v/\j<xs.length/\-(xs.length:Int)<=i/\i<xs.length:=by
 unfold atI at h;cases e:ixN xs.length i with
 | none=>rw[e] at h; cases h
 | some j =>
  rw[e] at h;obtain⟨h1,h2,h3,h4⟩:=Zg e;rwa[j,h1,h,h2,h3,h4]
def xU{α:Type}{xs:List α}{j:Nat}{v:α}(h:xs[j]?=Ig v):atI xs (j:Int)=Ig v:=by
 have hj:j<xs.length:=(g9.mp h).1;have e:ixN xs.length (j:Int)=Ig j:=by
  unfold ixN;rw[y9 (by lia),y9 (by lia)]; simp
 unfold atI; rw[e]; rwa[h]
def ao(b:t6):Prop:=∀ o i,subscripted b Ij o i=operate [o,i] (getItem o i)
def IxR(X:Cx)(r:R2):Prop :=
 ∀(value slice:t6)(Ik:List (b9×AL))(s:d4)(σ:St)(H:Hp)(x y:V)(v u:c7)(Q:VK),Inv X Ik σ H s->xE x v->xE y u->r x y H Q ->
  subscripted slice Ij v u=operate [v,u] (getItem v u)->wpAny (model X.prog X.w) X.A (subscriptTail value slice v u) (EP X Ik σ Q) X.xe s
def MtR(X:Cx)(id:String)(r:V->List V->Hp->VK->Prop):Prop :=
 ∀(Ik:List (b9×AL))(s:d4)(σ:St)(H:Hp)(x:V)(xs:List V)(v:c7)(us:List c7)(Q:VK),Inv X Ik σ H s->xE x v->yP xs us->r x xs H Q ->
  wpAny (model X.prog X.w) X.A (call (.builtin id) (v::us)) (EP X Ik σ Q) X.xe s
section
variable{X:Cx}{a b:t6}{ta tb:TE}{pos:Ck}
def gb{r:R2}(hr:IxR X r)(ha:PE X a ta)(hb:PE X b tb)(hs:ao b):PE X (.Subscript a b pos) (tOp r ta tb):=by
 intro Ik s σ H Q I h;rwa[GD (TB ha hb I h λv u s2 x y H2 I2 rx ry q=>hr a b Ik s2 σ H2 x y v u Q I2 rx ry q (hs _ _))]

def rIxL(K:b7):R2:=λx y H Q=>∃ p xs i v,x=.ref p/\y=.int i/\SqL K H p xs/\atI xs i=Ig v/\Q v H
def rIxT(K:b7):R2:=λx y H Q=>∃ p xs i v,x=.ref p/\y=.int i/\SqT K H p xs/\atI xs i=Ig v/\Q v H
def rIxS:R2:=λx y H Q=>∃ z i c,x=.str z/\y=.int i/\z.length<=sizeLine/\atI z.cps.toList i=Ig c/\Q (.str ⟨#[c]⟩) H
def Wo:IxR X (rIxL X.K):=by
 intro value slice Ik s σ H x y v u Q I rx ry h hs;obtain⟨p,xs,i,z,rfl,rfl,hq,he,q⟩:=h;cases rx;obtain⟨t,rfl⟩:=ry;obtain⟨its,r,pl,hz⟩:=I.list hq;obtain⟨j,h1,h2,h3,h4,h5⟩:=gC he;obtain⟨w,ew,rw'⟩:=r.get h2;have hl:=r.length;have hn:=mr;have fin:EP X Ik σ Q w s:=⟨z,H,I,rw',q⟩;by_cases h0:0<=i
 ·have hj:i.toNat=j:=by
   rw[seqIndex_of h0 h5] at h1;rwa[p5 h1]
  exact item_listR pl.isList h0 (by lia) (by rw[hj]; simpa using ew) fin hs
 ·have hj:(i+(its.toArray.size:Int)).toNat=j:=by
   rw[seqIndex_neg (by lia) h4] at h1;rw[i0,<- hl];rwa[p5 h1]
  exact subscriptTail_builtinR (x:=w) pl.isList.typeIs slot_list_getitem.lookup
   (wpAny_getItem_list_neg (Q:=λr s'=>r=w/\EP X Ik σ Q r s') pl.isList (by lia) (by rw[i0] <;> lia) (by lia) (by rw[hj]; simpa using ew) ⟨rfl,fin⟩) hs
def VJ:IxR X (rIxT X.K):=by
 intro value slice Ik s σ H x y v u Q I rx ry h hs;obtain⟨p,xs,i,z,rfl,rfl,hq,he,q⟩:=h;cases rx;obtain⟨t,rfl⟩:=ry;obtain⟨its,r,pl,hz⟩:=I.tuple hq;obtain⟨j,h1,h2,h3,h4,h5⟩:=gC he;obtain⟨w,ew,rw'⟩:=r.get h2;have hl:=r.length;have hn:=mr;have fin:EP X Ik σ Q w s:=⟨z,H,I,rw',q⟩;exact subscriptTail_builtinR (x:=w) pl.typeIs slot_tuple_getitem.lookup
  (getItem_tuple (j:=j) (Q:=λr s'=>r=w/\EP X Ik σ Q r s') pl (by lia) (by lia) (by rw[i0,<- hl]; rwa[h1]) (by simpa using ew) ⟨rfl,fin⟩) hs
def Xs:IxR X rIxS:=by
 intro value slice Ik s σ H x y v u Q I rx ry h hs;obtain⟨z,i,c,rfl,rfl,hz,he,q⟩:=h;obtain⟨t,rfl⟩:=rx;obtain⟨t',rfl⟩:=ry;obtain⟨j,h1,h2,h3,h4,h5⟩:=gC he;have hl:z.cps.toList.length=z.length:=by simp[Str.length]
 rw[hl] at h1 h4 h5;have hn:=mr;exact tail_any (typeIs_str s z t) slot_str_getitem.lookup (getItem_str (c:=c) (by
  have e1:decide (i < -(2^63:Int))=false:=x3 (by lia);have e2:decide (i >= 2^63)=false:=x3 (by lia);rw[e1,e2,Ff]) (by rw[h1]; simpa using h2) ⟨.str ⟨#[c]⟩,H,I.tok _,⟨_,rfl⟩,q⟩) hs
def dZ(its:List c7)(n j:Nat)(u:c7):Ak (·.setIfInBounds j u) { cls:=.type "list",data:=.seq its.toArray n }={ cls:=.type "list",data:=.seq (its.set j u).toArray n }:=by
 simp[Ak]
def Inv.lst{Ik:List (b9×AL)}{σ:St}{H:Hp}{s:d4}{p:b9}{xs:List V}(I:Inv X Ik σ H s)(h:H p=Ig (.lst xs)) :
  ∃(its:List c7)(n:Nat),yP xs its/\s.heap.get? p=Ig { cls:=.type "list",data:=.seq its.toArray n }/\xs.length<=sizeLine:=by
 obtain⟨z,its,n,r,e⟩:=I.hok p _ h;rwa[its,n,r,e,z]
def Inv.lstUpd{Ik:List (b9×AL)}{σ:St}{H:Hp}{s:d4}{p:b9}{xs ys:List V}{its its':List c7}{n n':Nat}{f:AL->AL}(I:Inv X Ik σ H s)(h:H p=Ig (.lst xs))
  (ho:s.heap.get? p=Ig { cls:=.type "list",data:=.seq its.toArray n }) (hf:f { cls:=.type "list",data:=.seq its.toArray n }={ cls:=.type "list",data:=.seq its'.toArray n' }) (r:yP ys its') (hz:ys.length<=sizeLine) (t:Nat) :
  Inv X Ik σ (upd H p (.lst ys)) { s with heap:=s.heap.update p f,toks:=t }:=by
 have e:(s.heap.update p f).get? p=Ig { cls:=.type "list",data:=.seq its'.toArray n' }:=by
  rw[AO f ho (by rw[hf] <;> rfl),hf]
 erw[I.write (x:=p) (e:=p) (by rw[h]; trivial) (.inl rfl) (λb u hb q=>(o7 _ _ (AG hb)).trans q) ⟨_,e⟩ ?_];rwa[hz,its',n',r,e]
def rSetL:V->V->V->Hp->(Hp->Prop)->Prop:=λo i v H Q=>∃ p xs k j,o=.ref p/\i=.int k/\H p=Ig (.lst xs)/\ixN xs.length k=Ig j/\Q (upd H p (.lst (xs.set j v)))
def ZG:PSet X rSetL:=by
 intro Ik s σ H o i v ov iv u Q I ro ri rv h;obtain⟨p,xs,k,j,rfl,rfl,hp,hj,q⟩:=h;cases ro;obtain⟨t,rfl⟩:=ri;obtain⟨its,n,r,ho,hz⟩:=I.lst hp;obtain⟨h1,h2,h3,h4⟩:=Zg hj;have hl:=r.length;have hn:=mr;have I':Inv X Ik σ (upd H p (.lst (xs.set j v))) { s with heap:=s.heap.update p (Ak (·.setIfInBounds j u)) } :=
  I.lstUpd hp ho (dZ its n j u) (r.set rv j) (by rw[Dd]; rwa[hz]) s.toks
 by_cases h0:0<=k
 ·have hk:k.toNat=j:=by
   rw[seqIndex_of h0 h4] at h1;rwa[p5 h1]
  rwa[PySem.W.ki_setAt ho h0 (by lia) (by rw[i0,<- hl]; exact h4) (by rw[hk]; exact⟨_,I',q⟩)]
 ·have hk:(k+(its.toArray.size:Int)).toNat=j:=by
   rw[seqIndex_neg (by lia) h3] at h1;rw[i0,<- hl];rwa[p5 h1]
  rwa[PySem.W.ki_setBack ho (by lia) (by rw[i0,<- hl]; exact h3) (by lia) (by rw[hk]; exact⟨_,I',q⟩)]

def iC(lo hi:Option Int)(n:Nat):(sliceBounds lo hi Ih n).1=((HT.sIx n 0 lo:Nat):Int)/\(sliceBounds lo hi Ih n).2.1=((HT.sIx n n hi:Nat):Int)/\(sliceBounds lo hi Ih n).2.2=1:=by
 erw[?_,?_,U]
 ·cases lo with
  | none=>simp[sliceBounds,HT.sIx]
  | some i =>
   simp only[sliceBounds,HT.sIx,F5,show(1:Int)>0 by decide,if_true];by_cases h:i<0
   ·simp only[h,if_true] <;> lia
   ·simp only[h,if_false] <;> lia
 ·cases hi with
  | none=>simp[sliceBounds,HT.sIx]
  | some i =>
   simp only[sliceBounds,HT.sIx,F5,show(1:Int)>0 by decide,if_true];by_cases h:i<0
   ·simp only[h,if_true] <;> lia
   ·simp only[h,if_false] <;> lia
def lU(its:List c7)(lo hi:Option Int):slicePick its.toArray lo hi Ih=((its.drop (HT.sIx its.length 0 lo)).take (HT.sIx its.length its.length hi-HT.sIx its.length 0 lo)).toArray:=by
 obtain⟨h1,h2,h3⟩:=iC lo hi its.toArray.size;unfold slicePick;rw[h1,h2,h3];simp only[sliceRange_one,pick_run,i0] <;> rfl
def rSlL(K:b7):V->Option Int->Option Int->Hp->VK->Prop:=λx lo hi H Q=>∃ a xs,x=.ref a/\SqL K H a xs/\∀ p,H p=Ih->Q (.ref p) (upd H p (.lst (zg xs lo hi)))
def Wv:SlR X (rSlL X.K):=by
 intro Ik s σ H x v vl vu lo hi sl Q I rx hs pl pu h;obtain⟨a,xs,rfl,hx,q⟩:=h;cases rx;obtain⟨its,r,ht,hz⟩:=I.list hx;have hlen:=r.length;exists "list",_,slot_list_getitem.lookup,ht.isList.typeIs;erw[wpAny_getItem_list_slice ht.isList hs pl pu .none (by simp) ?_ (by rw[i0] <;> lia)];rw[lU,<- hlen];erw[.ref s.heap.objs.size,_,I.laid (t':=s.toks) (o:=.lst (zg xs lo hi)) (λb ob q=>c9 _ q) (d6 _) ?_,U,q _ (I.hok.fresh (d6 _))];rwa[j8 (oG xs lo hi) hz,_,0,(r.drop (HT.sIx xs.length 0 lo)).take (HT.sIx xs.length xs.length hi-HT.sIx xs.length 0 lo),e7 _ rfl]

def ko:V->Bool
 | .non=>Ii
 | .bl _=>Ii
 | .int _=>Ii
 | .str _=>Ii
 | _=>Ij
def eqV:V->V->Bool
 | .non,.non=>Ii
 | .bl a,.bl b=>a == b
 | .bl a,.int b=>(if a then 1 else 0) == b
 | .int a,.bl b=>a ==(if b then 1 else 0)
 | .int a,.int b=>a == b
 | .str a,.str b=>a == b
 | _,_=>Ij
def UB{A:Ab}{s:d4}{y x:V}{u v:c7}(ry:xE y u)(rx:xE x v)(fy:ko y=Ii)(fx:ko x=Ii):Fs A s u v (eqV y x):=by
 cases y with
 | non =>
  cases ry;cases x with
  | non=>cases rx; rwa[SeqAt.EqAt.same _]
  | bl b=>cases rx; rwa[SeqAt.EqAt.none_bool b]
  | int b=>obtain⟨t,rfl⟩:=rx; rwa[SeqAt.EqAt.none_int b t]
  | str b=>obtain⟨t,rfl⟩:=rx; rwa[SeqAt.EqAt.none_str b t]
  | _=>exact x4 (show Ij=Ii from fx) h9
 | bl a =>
  cases ry;cases x with
  | non=>cases rx; rwa[SeqAt.EqAt.bool_none a]
  | bl b=>cases rx; rwa[SeqAt.EqAt.bool_bool a b]
  | int b=>obtain⟨t,rfl⟩:=rx; rwa[SeqAt.EqAt.bool_int a b t]
  | str b=>obtain⟨t,rfl⟩:=rx; rwa[SeqAt.EqAt.bool_str a b t]
  | _=>exact x4 (show Ij=Ii from fx) h9
 | int a =>
  obtain⟨t',rfl⟩:=ry;cases x with
  | non=>cases rx; rwa[SeqAt.EqAt.int_none a t']
  | bl b=>cases rx; rwa[SeqAt.EqAt.int_bool a t' b]
  | int b=>obtain⟨t,rfl⟩:=rx; rwa[Ft a t' b t]
  | str b=>obtain⟨t,rfl⟩:=rx; rwa[Fk a t' b t]
  | _=>exact x4 (show Ij=Ii from fx) h9
 | str a =>
  obtain⟨t',rfl⟩:=ry;cases x with
  | non=>cases rx; rwa[SeqAt.EqAt.str_none a t']
  | bl b=>cases rx; rwa[SeqAt.EqAt.str_bool a t' b]
  | int b=>obtain⟨t,rfl⟩:=rx; rwa[Fl a t' b t]
  | str b=>obtain⟨t,rfl⟩:=rx; rwa[Fu a t' b t]
  | _=>exact x4 (show Ij=Ii from fx) h9
 | _=>exact x4 (show Ij=Ii from fy) h9
def eqU(x:V)(u:c7):Bool:=match u with
 | .none=>eqV .non x
 | .bool b=>eqV (.bl b) x
 | .int i _=>eqV (.int i) x
 | .str z _=>eqV (.str z) x
 | _=>Ij
def XE{x y:V}{u:c7}(r:xE y u)(f:ko y=Ii):eqU x u=eqV y x:=by
 cases y with
 | non=>cases r; rfl
 | bl b=>cases r; rfl
 | int i=>obtain⟨t,rfl⟩:=r; rfl
 | str z=>obtain⟨t,rfl⟩:=r; rfl
 | _=>exact x4 (show Ij=Ii from f) h9
def nA{x:V} : ∀{xs:List V}{us:List c7},yP xs us->xs.all ko=Ii->us.any (eqU x)=xs.any λy=>eqV y x
 | _,_,.nil,_=>rfl
 | y::xs,u::us,.cons r t,f=>by
  rw[Cz,o8] at f;rw[AQ,AQ,XE r f.1,nA t f.2]
def wc{A:Ab}{s:d4}{x:V}{v:c7}(rx:xE x v)(fx:ko x=Ii):∀{xs:List V}{us:List c7},yP xs us->xs.all ko=Ii->∀ u∈us,Fs A s u v (eqU x u)
 | _,_,.nil,_=>λu hu=>by cases hu
 | y::xs,u::us,.cons r t,f=>λu' hu=>by
  rw[Cz,o8] at f;rcases i7.mp hu with rfl | hu
  ·rw[XE r f.1]; rwa[UB r rx f.1 fx]
  ·rwa[wc rx fx t f.2 u' hu]
def inV(x:V)(xs:List V):Bool:=xs.any λy=>eqV y x
def rIn(K:b7)(neg:Bool):R2:=λx y H Q=>∃ p xs,y=.ref p/\(SqL K H p xs\/SqT K H p xs)/\ko x=Ii/\xs.all ko=Ii/\Q (.bl (if neg then !inV x xs else inV x xs)) H
def rM:OpR X (compareOp .In) (rIn X.K Ij):=by
 intro Ik s σ H x y v u Q I rx ry h;obtain⟨p,xs,rfl,hq,fx,fs,q⟩:=h;cases ry;rcases hq with hq | hq
 ·obtain⟨its,r,pl,hz⟩:=I.list hq;refine SeqAt.in_listAt (eqU x) pl.isList (λw hw=>wc rx fx r fs w (by simpa using hw)) ⟨.bl _,H,I,rfl,?_⟩;rw[show its.toArray.any (eqU x)=its.any (eqU x) by simp,nA r fs];rwa[q]
 ·obtain⟨its,r,pl,hz⟩:=I.tuple hq;refine F6 (eqU x) pl (λw hw=>wc rx fx r fs w (by simpa using hw)) ⟨.bl _,H,I,rfl,?_⟩;rw[show its.toArray.any (eqU x)=its.any (eqU x) by simp,nA r fs];rwa[q]
def jC:OpR X (compareOp .NotIn) (rIn X.K Ii):=by
 intro Ik s σ H x y v u Q I rx ry h;obtain⟨p,xs,rfl,hq,fx,fs,q⟩:=h;cases ry;rcases hq with hq | hq
 ·obtain⟨its,r,pl,hz⟩:=I.list hq;refine SeqAt.notIn_listAt (eqU x) pl.isList (λw hw=>wc rx fx r fs w (by simpa using hw)) ⟨.bl _,H,I,rfl,?_⟩;rw[show its.toArray.any (eqU x)=its.any (eqU x) by simp,nA r fs];rwa[q]
 ·obtain⟨its,r,pl,hz⟩:=I.tuple hq;refine SeqAt.notIn_tupleAt (eqU x) pl (λw hw=>wc rx fx r fs w (by simpa using hw)) ⟨.bl _,H,I,rfl,?_⟩;rw[show its.toArray.any (eqU x)=its.any (eqU x) by simp,nA r fs];rwa[q]
def yU:uU X (.builtin "len") (λxs H Q=>∃ p ys,xs=[.ref p]/\(SqL X.K H p ys\/SqT X.K H p ys)/\Q (.int ys.length) H):=by
 intro Ik s σ H xs us Q I r h;obtain⟨p,ys,rfl,hq,q⟩:=h;obtain⟨u,rfl,rx⟩:=kT r;cases rx;have hn:=mr;rcases hq with hq | hq
 ·obtain⟨its,r',pl,hz⟩:=I.list hq;have hlen:=r'.length;rwa[Calls.call_len_list pl.isList (by simp only[i0] <;> lia) ⟨.int ys.length,H,I.tok _,⟨s.toks+1,by rw[i0,hlen]⟩,q⟩]
 ·obtain⟨its,r',pl,hz⟩:=I.tuple hq;have hlen:=r'.length;rwa[len_tuple pl (by simp only[i0] <;> lia) ⟨.int ys.length,H,I.tok _,⟨s.toks+1,by rw[i0,hlen]⟩,q⟩]
def yu:uU X (.builtin "len") (λxs H Q=>∃ z,xs=[.str z]/\z.length<=sizeLine/\Q (.int z.length) H):=by
 intro Ik s σ H xs us Q I r h;obtain⟨z,rfl,hz,q⟩:=h;obtain⟨u,rfl,t,rfl⟩:=kT r;have hn:=mr;rwa[len_str (by lia) ⟨.int z.length,H,I.tok _,⟨_,rfl⟩,q⟩]
def uU.or{f:c7}{r r':List V->Hp->VK->Prop}(h:uU X f r)(h':uU X f r'):uU X f (λxs H Q=>r xs H Q\/r' xs H Q):=by
 intro Ik s σ H xs us Q I rs q;rcases q with q | q
 ·rwa[h Ik s σ H xs us Q I rs q]
 ·rwa[h' Ik s σ H xs us Q I rs q]
def su:uU X (.type "list") (λxs H Q=>∃ p ys,xs=[.ref p]/\(SqL X.K H p ys\/SqT X.K H p ys)/\∀ l,H l=Ih->Q (.ref l) (upd H l (.lst ys))):=by
 intro Ik s σ H xs us Q I r h;obtain⟨p,ys,rfl,hq,q⟩:=h;obtain⟨u,rfl,rx⟩:=kT r;cases rx;have fin:∀(its:List c7),yP ys its->ys.length<=sizeLine->∀(h':n9)(c':Nat),(∀ b o',s.heap.get? b=Ig o'->h'.get? b=Ig o') ->
   h'.get? s.heap.objs.size=Ig { cls:=.type "list",dict:=Ih,data:=.seq its.toArray c',slots:=#[] }->EP X Ik σ Q (.ref s.heap.objs.size) { s with heap:=h' }:=λits r' hz h' c' kp e =>
  ⟨.ref s.heap.objs.size,_,I.laid (t':=s.toks) kp (d6 _) (show xI X.prog X.w _ h' _ (.lst ys) from⟨hz,its,c',r',e⟩),rfl,q _ (I.hok.fresh (d6 _))⟩
 rcases hq with hq | hq
 ·obtain⟨its,r',pl,hz⟩:=I.list hq;have hlen:=r'.length;obtain⟨o,ho,hc,n,hd⟩:=pl.isList;rwa[call_list_seq p (.inl rfl) ho hc hd (λh' c' kp e=>fin its r' hz h' c' kp e) (by simp only[i0] <;> lia)]
 ·obtain⟨its,r',pl,hz⟩:=I.tuple hq;have hlen:=r'.length;obtain⟨o,ho,hc,n,hd⟩:=pl;rwa[call_list_seq p (.inr rfl) ho hc hd (λh' c' kp e=>fin its r' hz h' c' kp e) (by simp only[i0] <;> lia)]
def tyV(K:b7)(T:String)(x:V)(H:Hp):Prop:=match x with
 | .str _=>T = "str"
 | .int _=>T = "int"
 | .ref p=>(T = "list" /\ ∃ xs,SqL K H p xs)\/(T = "tuple" /\ ∃ o,K.lookup p=Ig o/\o.cls=.type "tuple" /\ o.dict=Ih) \/
   (T = "dict" /\ ((∃ kvs,H p=Ig (.dK kvs))\/∃ kvs,H p=Ig (.dT kvs)))\/(T = "set" /\ ∃ S n,H p=Ig (.set S n))
 | _=>False
def Xq{Ik:List (b9×AL)}{σ:St}{H:Hp}{s:d4}{T:String}{x:V}{v:c7}(I:Inv X Ik σ H s)(r:xE x v)(ty:tyV X.K T x H) :
  s.TypeIs v T/\∀ a,v=.ref a->∃ ob,s.heap.get? a=Ig ob/\ob.dict=none:=by
 cases x with
 | str z =>
  obtain⟨t,rfl⟩:=r;cases (show T = "str" from ty);exact⟨typeIs_str s z t,λ_ e=>nomatch e⟩
 | int i =>
  obtain⟨t,rfl⟩:=r;cases (show T = "int" from ty);exact⟨typeIs_int s i t,λ_ e=>nomatch e⟩
 | ref p =>
  cases r;rcases ty with ⟨rfl,xs,hq⟩ | ⟨rfl,o,hk,hc,hd⟩ | ⟨rfl,hk⟩ | ⟨rfl,S,n,hk⟩
  ·obtain⟨its,_,pl,_⟩:=I.list hq;erw[pl.isList.typeIs,λa e=>?_];cases e;obtain⟨o,n,e,c,hd,_⟩:=pl;rwa[o,e,hd]
  ·erw[⟨o,I.kIn p o hk,hc⟩,λa e=>?_];cases e;rwa[o,I.kIn _ o hk,hd]
  ·have z:∃ o,s.heap.get? p=Ig o/\o.ExactDict:=by
    rcases hk with ⟨kvs,hk⟩ | ⟨kvs,hk⟩
    ·obtain⟨_,_,_,_,o,_,_,e,ex,_⟩:=I.hok p _ hk;rwa[o,e,ex]
    ·obtain⟨_,_,_,_,o,_,_,e,ex,_⟩:=I.hok p _ hk;rwa[o,e,ex]
   obtain⟨o,e,ex⟩:=z;erw[⟨o,e,ex.1⟩,λa e2=>?_];cases e2;rwa[o,e,ex.2.1]
  ·obtain⟨o,_,_,_,e,ex,_⟩:=I.hok p _ hk;erw[⟨o,e,ex.1⟩,λa e2=>?_];cases e2;rwa[o,e,ex.2.1]
 | _=>rwa[v7 ty]
def tBM0(K:b7)(T:String)(r:V->List V->Hp->VK->Prop)(to:TE):TE:=λσ H Q=>to σ H λx H1=>tyV K T x H1/\r x [] H1 Q
def tBM(K:b7)(T:String)(r:V->List V->Hp->VK->Prop)(to:TE)(t:TA):TE:=λσ H Q=>to σ H λx H1=>tyV K T x H1/\t σ H1 λxs H2=>r x xs H2 Q
variable{o e:t6}{es:List t6}{to:TE}{t:TA}{name:g8}{apos cpos:Ck}{T id:String}{r:V->List V->Hp->VK->Prop}
def VT(pa:PlainAttrs T)(slot:Slot T name id)(hty:typeOf (.builtin id)=pure (.type "method_descriptor"))(hm:MtR X id r)(ho:PE X o to)
  (hbase:attributeBase o name X.env (eval o X.env)=eval o X.env:=by rfl) (hline:(apos.endLine == cpos.line)=true:=by rfl):PE X (.Call (.Attribute o name apos) [] [] cpos) (tBM0 X.K T r to):=by
 intro Ik s σ H Q I h;erw[wpAny_Call_method0_late hbase hline (thn (ho Ik s σ H _ I h) λv s1 ⟨x,H1,I1,r1,ty,q1⟩=>?_)];obtain⟨h1,h2⟩:=Xq I1 r1 ty;rwa[T,id,pa,slot,hty,h1,h2,CP rfl (Cu (hm Ik s1 σ H1 x [] v [] Q I1 r1 .nil q1))]
def Wx(pa:PlainAttrs T)(slot:Slot T name id)(hty:typeOf (.builtin id)=pure (.type "method_descriptor"))(hm:MtR X id r)(ho:PE X o to)(ha:PA X (e::es) t)
  (hbase:attributeBase o name X.env (eval o X.env)=eval o X.env:=by rfl)
  (hfew:((backTo cpos (starEach (e::es) X.env)).all (λx=>!x.1)&&(backToKw cpos (keywordEach [] X.env)).all (λx=>x.1.isSome)
   && decide ((e::es).length+([]:List DP).length+(if ([]:List DP).isEmpty then 0 else 1)<30))=true:=by rfl)
  (hline:(apos.endLine == cpos.line)=true:=by rfl) (hs:starEach (e::es) X.env=(Ij,eval e X.env)::starEach es X.env:=by rfl) (hplain:(backTo cpos (starEach es X.env)).any (·.1)=false:=by rfl) :
  PE X (.Call (.Attribute o name apos) (e::es) [] cpos) (tBM X.K T r to t):=by
 intro Ik s σ H Q I h;erw[wpAny_Call_method_late hbase hfew hline rfl (thn (ho Ik s σ H _ I h) λv s1 ⟨x,H1,I1,r1,ty,q1⟩=>?_)];obtain⟨h1,h2⟩:=Xq I1 r1 ty;exists T,id,pa,slot,hty,h1,h2;have hA:=ha cpos Ik s1 σ H1 _ I1 q1;rw[hs] at hA ⊢;refine CP (by show(Ij||(backTo cpos (starEach es X.env)).any (·.1))=Ij; rw[hplain] <;> rfl) (C7 ?_);rwa[thn hA λus s2 ⟨vs,H2,I2,r2,q2⟩=>hm Ik s2 σ H2 x vs v us Q I2 r1 r2 q2]
end
end L2

namespace L2

def MtM(X:Cx)(id:String)(r:V->List V->Hp->VK->Prop):Prop :=
 ∀(Ik:List (b9×AL))(s:d4)(σ:St)(H:Hp)(x:V)(xs:List V)(v:c7)(us:List c7)(Q:VK),Inv X Ik σ H s->xE x v->yP xs us->r x xs H Q ->
  wpAny (model X.prog X.w) X.A (call (.builtin id) (v::us)) (EP X Ik σ Q) X.xe s

def yP.one:∀{x:V}{us:List c7},yP [x] us->∃ u,us=[u]/\xE x u
 | _,_,.cons r .nil=>⟨_,rfl,r⟩
def yP.two:∀{x y:V}{us:List c7},yP [x,y] us->∃ u v,us=[u,v]/\xE x u/\xE y v
 | _,_,_,.cons r (.cons q .nil)=>⟨_,_,rfl,r,q⟩
def yP.zero:∀{us:List c7},yP [] us->us=[]
 | _,.nil=>rfl
def yP.dropLast{xs:List V}{us:List c7}(h:yP xs us):yP xs.dropLast us.dropLast:=by
 induction h with
 | nil=>rwa[.nil]
 | cons r t ih =>
  cases t with
  | nil=>rwa[.nil]
  | cons q t'=>rwa[.cons r ih]
def dW{α:Type}(l:List α):l.eraseIdx (l.length-1)=l.dropLast:=by
 induction l with
 | nil=>rfl
 | cons a r ih =>
  cases r with
  | nil=>rfl
  | cons b r =>
   have e:(a::b::r).length-1=((b::r).length-1)+1:=by
    have h1:(a::b::r).length=r.length+2:=rfl;have h2:(b::r).length=r.length+1:=rfl;lia
   rw[e,List.eraseIdx_cons_succ,ih]
   all_goals rfl
section
variable{X:Cx}{Ik:List (b9×AL)}{σ:St}{H:Hp}{s:d4}{l b:b9}{xs ys zs:List V}

def Inv.lset{its its':List c7}{n:Nat}{f:Array c7->Array c7}{t':Nat}(I:Inv X Ik σ H s)(hH:H l=Ig (.lst xs))
  (e:s.heap.get? l=Ig { cls:=.type "list",data:=.seq its.toArray n }) (hf:f its.toArray=its'.toArray) (hv:yP ys its') (hz:ys.length<=sizeLine) :
  Inv X Ik σ (upd H l (.lst ys)) { s with heap:=s.heap.update l (Ak f),toks:=t' }:=by
 have q:=PySem.IsL.update e f;rw[hf] at q;erw[I.write (x:=l) (e:=l) (by rw[hH]; rwa[trivial]) (.inl rfl) (λb' u hb hu=>(o7 s.heap (Ak f) (AG hb)).trans hu) ⟨_,q⟩ ?_];rwa[hz,its',_,hv,q]
def Inv.lnew{its:List c7}{t':Nat}(I:Inv X Ik σ H s)(hv:yP ys its)(hz:ys.length<=sizeLine) :
  Inv X Ik σ (upd H s.heap.objs.size (.lst ys)) { s with heap:=s.heap.push { cls:=.type "list",data:=.seq its.toArray },toks:=t' } :=
 I.laid (λ_ _ q=>c9 _ q) (d6 _) ⟨hz,its,0,hv,e7 _ rfl⟩
def Inv.fresh(I:Inv X Ik σ H s):H s.heap.objs.size=none:=I.hok.fresh (d6 _)
def Inv.lstM(I:Inv X Ik σ H s)(hH:H l=Ig (.lst xs)):xs.length<=sizeLine/\∃(its:List c7)(n:Nat),yP xs its/\xs.length=its.length/\s.heap.get? l=Ig { cls:=.type "list",data:=.seq its.toArray n }:=by
 obtain⟨z,its,n,r,e⟩:=I.hok l _ hH;rwa[z,its,n,r,r.length,e]

def YE{n:Nat}(h:n<=sizeLine):CA n=false:=by
 unfold CA;rwa[x3 (by lia)]
end

section
variable{X:Cx}

def au:V->List V->Hp->VK->Prop:=λx vs H Q=>∃ l xs y,x=.ref l/\vs=[y]/\H l=Ig (.lst xs)/\xs.length<sizeLine/\Q .non (upd H l (.lst (xs++[y])))
def nq:MtM X "list.append" au:=by
 intro Ik s σ H x vs v us Q I rx rv h;obtain⟨l,xs,y,rfl,rfl,hH,hz,q⟩:=h;cases rx;obtain⟨u,rfl,ru⟩:=rv.one;obtain⟨z,its,n,r,hl,e⟩:=I.lstM hH;erw[call_meets F.slot_list_append ⟨_,e,rfl⟩ F.entry_list_append (F.args_list_append_2 _ _) (PySem.list_append l its.toArray n u (by rw[i0]; lia)) ⟨e,?_⟩];erw[.non,_,I.lset (its':=its++[u]) hH e (by simp) (r.append (.cons ru .nil)) ?_,U,q];rw[f8,BB];lia

def Vo:V->List V->Hp->VK->Prop:=λx vs H Q=>∃ l b xs zs,x=.ref l/\vs=[.ref b]/\H l=Ig (.lst xs)/\H b=Ig (.lst zs)/\xs.length+zs.length<=sizeLine/\Q .non (upd H l (.lst (xs++zs)))
def Ua:MtM X "list.extend" Vo:=by
 intro Ik s σ H x vs v us Q I rx rv h;obtain⟨l,b,xs,zs,rfl,rfl,hH,hB,hz,q⟩:=h;cases rx;obtain⟨u,rfl,ru⟩:=rv.one;cases ru;obtain⟨z,its,n,r,hl,e⟩:=I.lstM hH;obtain⟨z2,its2,n2,r2,hl2,e2⟩:=I.lstM hB;have hsz:its.toArray.size+its2.toArray.size<=sizeLine:=by rw[i0,i0]; lia
 have hlong:¬ (!its.toArray.isEmpty&&CA (its.toArray.size+its2.toArray.size))=true:=by
  rw[YE hsz,GE];rwa[h9]
 refine call_meets F.slot_list_extend ⟨_,e,rfl⟩ F.entry_list_extend (F.args_list_extend_2 _ _)
  (AutoSeq1.list_extend_list_list_0 l its.toArray n b its2.toArray n2 hlong (by rw[i0]; lia) (by lia)) ⟨e,e2,?_⟩
 erw[.non,_,I.lset (its':=its++its2) hH e (by simp) (r.append r2) ?_,U,q];rw[f8];lia

def rPop:V->List V->Hp->VK->Prop:=λx vs H Q=>∃ l xs y,x=.ref l/\vs=[]/\H l=Ig (.lst xs)/\xs[xs.length-1]?=Ig y/\Q y (upd H l (.lst xs.dropLast))
def Uu:MtM X "list.pop" rPop:=by
 intro Ik s σ H x vs v us Q I rx rv h;obtain⟨l,xs,y,rfl,rfl,hH,hy,q⟩:=h;cases rx;have hus:=rv.zero;subst hus;obtain⟨z,its,n,r,hl,e⟩:=I.lstM hH;obtain⟨u,hu,ru⟩:=r.get hy;have hy':its.toArray[its.toArray.size-1]?=Ig u:=by
  show its.toArray[its.length-1]?=Ig u;rw[<- B7,<- hl];rwa[hu]
 erw[call_meets F.slot_list_pop ⟨_,e,rfl⟩ F.entry_list_pop (F.args_list_pop_1 _) (MeetsSeq.list_pop_last l its.toArray n u hy' (by rw[i0]; lia)) ⟨e,?_⟩];erw[y,_,I.lset (its':=its.dropLast) hH e ?_ r.dropLast ?_,ru,q]
 ·show its.toArray.eraseIdxIfInBounds (its.toArray.size-1)=its.dropLast.toArray;rw[i0,List.eraseIdxIfInBounds_toArray,dW]
 ·rw[List.length_dropLast];lia

def Tb:R2:=λx y H Q=>∃ l b xs zs,x=.ref l/\y=.ref b/\H l=Ig (.lst xs)/\H b=Ig (.lst zs)/\xs.length+zs.length<=sizeLine/\∀ p,H p=Ih->Q (.ref p) (upd H p (.lst (xs++zs)))
def vn:OpR X (binaryOp .Add) Tb:=by
 intro Ik s σ H x y v u Q I rx ry h;obtain⟨l,b,xs,zs,rfl,rfl,hH,hB,hz,q⟩:=h;cases rx;cases ry;obtain⟨z,its,n,r,hl,e⟩:=I.lstM hH;obtain⟨z2,its2,n2,r2,hl2,e2⟩:=I.lstM hB;erw[PySem.P.add_list e e2 ?_ (by rw[i0,i0]; lia)];have ea:its.toArray++its2.toArray=(its++its2).toArray:=by simp
 rw[ea];rwa[.ref _,_,I.lnew (t':=s.toks) (r.append r2) (by rw[f8]; lia),rfl,q _ I.fresh]
def WS{α:Type}(xs:List α)(k:Nat):(x6 k xs).flatten.length=k*xs.length:=by
 induction k with
 | zero=>simp
 | succ k ih=>rw[Dm,FK,f8,ih,HH,Nat.add_comm]
end


end L2

namespace Att
open PySem PySem.W PySem.Calls PyProof.Rows

def oz{P:B5}{h:n9} : ∀(ns:List Int)(vs:List c7),WellAll P h vs (ns.map Ic)->Gy vs ns:=by
 intro ns
 induction ns with
 | nil =>
  intro vs w;rw[CQ] at w;cases w;rwa[.nil]
 | cons n ns ih =>
  intro vs w;rw[l9] at w;cases w with
  | cons a b =>
   cases a;rwa[.cons _ _ (ih _ b)]

def bI{l:EC}{n:Nat}(hn:l.most=Ig n){P:B5}{h:n9}{args:List WData}{vals:List c7}
  (hpre:l.row.toRowW.claim.pre args=Ii) (hwl:WellAll P h vals args) :
  ∃ a vs ns,vals=[j6 a]/\args=[WData.list (ns.map Ic)]/\h.get? a=Ig { cls:=.type "list",data:=.seq vs.toArray }/\Gy vs ns/\ns.length<=n:=by
 have hsh:WShape.hasAll [] args [.list .int]=true:=(pre_splitW hpre).1;have hc:l.pre.holds [] { args:=args }=true:=(pre_splitW hpre).2;obtain⟨d,r,rfl,h1,h2⟩:=hasAllW_cons hsh;obtain rfl:=hasAllW_nil h2;obtain⟨xs,rfl,h3⟩:=hasW_list h1;obtain⟨ns,rfl⟩:=items_int h3;have hlen:ns.length<=n:=by
  unfold OpenLaw.pre at hc;have h4:(WTm.not (.lt (.lit (.int (n:Int))) (.len (.arg 0)))).holds [] { args:=[.list (ns.map .int)] }=true:=by
   have h4:=(holds_andW hc).1;rw[hn] at h4;rwa[h4]
  have h5:=condW_of h4 (w_not (w_lt w_lit (w_len_list (w_arg rfl))));rw[a7] at h5;erw[F7 λq=>?_];have q':(n:Int)<((ns.length:Nat):Int):=by lia
  first
   | (rw[q0 q'] at h5; rwa[x4 h5 (by decide)])
   | (simp at h5; lia)
 cases hwl with
 | cons w1 w2 =>
  cases w2;cases w1 with
  | list ho hall=>rwa[_,_,ns,U,U,ho,oz ns _ hall,hlen]

def bv(l:EC)(args:List WData):l.row.toRowW.claim.post args (.bool Ii) args=true :=
 postW_of (r:=l.row.toRowW) (X:=(Ii == Ii))
  (show HW [] (.bool Ii) .bool=Ii by first | rfl | decide | simp[HW,WShape.arms,WShape.armsAll])
  (show(WTm.eq .res (.lit (.bool Ii))).value [] { args:=args,res:=Ig (.bool Ii),after:=args }=Ig (.bool (Ii == Ii)) from w_eq_bool (w_res rfl) w_lit) rfl

def attach_call{l:EC}{n:Nat}{q:j9}{loose:List g8}{XP:(g8->Option c7)->n9->Prop}{YP:n5->n9->Prop}{d:DefRec}
  (hn:l.most=Ig n) (hdf:d.params.defaults=[])
  (call:∀(w:n5)(s₀ s₁:d4)(mg mb:g8->Option c7)(fa:b9)(o:AL)(pm cd doc:c7)(a:b9)(vs:List c7)(ns:List Int),
   Ground q loose [] XP w s₀ mg mb s₁.heap->YP w s₁.heap ->
   s₁.heap.get? fa=Ig o->o.data=.func (docDef d.name d.params d.body d.scope pm cd doc)->s₁.heap.CodeRec cd d.name->mg d.name=Ig (.ref fa) ->
   s₁.heap.get? a=Ig { cls:=.type "list",data:=.seq vs.toArray }->Gy vs ns->ns.length<=n->s₁.gens = #[] ->
   codeAny (model l.prog w) callerA (.call (.ref fa) ⟨[.ref a],[]⟩) (λr s'=>r=.ok (.ret (.bool Ii))/\OldK s₁.heap s'.heap/\s'.os=s₁.os/\Do s'.gens) s₁) :
  Hs q loose XP YP l.row.toRowW d [] (λf vs=>GF f vs):=by
 intro w s₀ s₁ mg mb G Y fa o pm cd doc dV kV ho hd hcd hD hmg hg args vals as hpre hlay hrd hwl hlo;obtain rfl:dV=.none:=Dflts.none hD hdf;obtain rfl:kV=.none:=Dflts.noKw hD;obtain⟨a,vs,ns,rfl,rfl,hobj,hints,hlen⟩:=bI hn hpre hwl;erw[enter_call (codeAny_mono (call w s₀ s₁ mg mb fa o pm cd doc a vs ns G Y ho (fd_plain hd) hcd hmg hobj hints hlen hg) λr s' hq=>?_)];obtain⟨rfl,h2,h3,h4⟩:=hq;exact⟨.inl ⟨.bool Ii,.bool Ii,[],rfl,λ_=>rfl,.bool Ii,bv l _,λ_=>⟨HZ,λ_ hm=>(nomatch hm)⟩⟩,h2,h3,h4⟩

section
variable{prog:j9}{w:n5}{A:Ab}{E:c7->d4->Prop}{s:d4}{K:b7}

end
end Att

namespace L2

def jJ:∀{vs:List c7}{ns:List Int},Gy vs ns->yP (ns.map V.int) vs
 | _,_,.nil=>.nil
 | _,_,.cons n t h=>.cons ⟨t,rfl⟩ (jJ h)

def Only(H:Hp):Prop:=∀ b,H b=Ih\/∃ o xs,H b=Ig (.frz o (.lst xs))

def YL{P:j9}{w:n5}{K:b7}{mg mb:g8->Option c7}{CX:CXT}{k:Nat}{fa a:b9}{fd:Aq}{x:g8}{sp:Sp}{s₁:d4}{vs:List c7}{ns:List Int}
  (KX:K.In s₁.heap) (hns:s₁.heap.Ns mainGlobals mg) (hb:s₁.heap.Ns builtinsNs mb) (hbb:∀ x:g8,x ≠ "__name__" -> mb x=bootBuiltins x) (hlim:s₁.heap.NoLimit) (hg:s₁.gens = #[])
  (ha:s₁.heap.get? a=Ig { cls:=.type "list",data:=.seq vs.toArray }) (hi:Gy vs ns) (hl:ns.length<=sizeLine) (hr:rX k callerA)
  (F:∀ base:n9,K.In base->base.Ns mainGlobals mg->yX P w K mg base CX k fa fd [x] sp) (hbind:∀(s:d4)(u:c7),Ej s fd ⟨[u],[]⟩ [(x,u)])
  (hsp:∀ H:Hp,Only H->SqL K H a (ns.map V.int)->sp [.ref a] H (λv _=>v=.bl Ii) λ_ _ _=>False)
  (hCX:∀ H e s',CX [] H s₁ (λ_ _ _=>False) e s'->False) :
  codeAny (model P w) callerA (.call (.ref fa) ⟨[.ref a],[]⟩) (λr s'=>r=.ok (.ret (.bool Ii))/\OldK s₁.heap s'.heap/\s'.os=s₁.os/\Do s'.gens) s₁:=by
 have rv:=jJ hi;have lenV:=hi.length;have core:∀ H:Hp,Only H->SqL K H a (ns.map V.int)->HOk P w H s₁.heap->(∀ b,H b≠Ih->b=a)->(H a≠Ih->K.lookup a=Ih) ->
   codeAny (model P w) callerA (.call (.ref fa) ⟨[.ref a],[]⟩) (λr s'=>r=.ok (.ret (.bool Ii))/\OldK s₁.heap s'.heap/\s'.os=s₁.os/\Do s'.gens) s₁:=by
  intro H hO hS hok hA hK;have base_of:∀{b:b9}{o:AL},s₁.heap.get? b=Ig o->H b=Ih->(Yo s₁.heap H).get? b=Ig o:=λe n=>Yv e n;have noA:∀{b:b9}{o:AL}{es:Array Bk}{ep:Nat},s₁.heap.get? b=Ig o->o.data=.dict es ep->H b=none:=λ{b o es ep} e d=>by
   cases q:H b with
   | none=>rfl
   | some u =>
    have e':b=a:=hA b (by rw[q]; simp);subst e';rw[ha] at e; cases e;have d':Data.seq vs.toArray _=Data.dict es ep:=d;cases d'
  have nsK:∀{b:b9}{m:g8->Option c7},s₁.heap.Ns b m->(Yo s₁.heap H).Ns b m:=λ{b m} ⟨o,es,ep,e,d,r⟩=>⟨o,es,ep,base_of e (noA e d),d,r⟩;have hKb:K.In (Yo s₁.heap H):=λb o e=>base_of (KX b o e) (by
   cases q:H b with
   | none=>rfl
   | some u =>
    have e':b=a:=hA b (by rw[q]; simp);subst e';rw[hK (by rw[q]; simp)] at e; cases e)
  have hM:Mod K mg (Yo s₁.heap H):=⟨hKb,nsK hns,⟨mb,nsK hb,hbb⟩,let ⟨mc,h1,h2⟩:=hlim;⟨mc,nsK h1,h2⟩⟩;have e0:YD P w K mg (Yo s₁.heap H) callerA [] s₁ H:=⟨rfl,hM,λb o e=>Ww e,Eh (aA _ _),trivial,λb hb=>x4 (show b∈([]:List b9) from hb) (by simp),hok,.of_eq hg⟩;erw[codeAny_mono ((F _ hKb (nsK hns)).run callerA [] s₁ H ⟨[.ref a],[]⟩ [.ref a] [.ref a] _ _ hr e0 (hbind s₁ (.ref a)) (.cons rfl .nil) (hsp H hO hS)) λr s' h=>?_];cases r with
  | error e=>exact(hCX H e s' h).elim
  | ok fl =>
   cases fl with
   | next=>rwa[v7 h]
   | brk=>rwa[v7 h]
   | cont=>rwa[v7 h]
   | ret u =>
    obtain⟨v,H',os,bare,un,hok',r',q⟩:=h;have q':v=.bl true:=q;subst q';obtain rfl:u=Ef true:=r';erw[U,OldK.of_keep λb o e=>?_,os,bare];cases q:H b with
    | none=>exact un.keep b o e q (by intro z; exact x4 (show b∈([]:List b9) from z) (by simp)) (by simp)
    | some u =>
     rcases hO b with z | ⟨ob,xs,z⟩
     ·rw[q] at z; cases z
     ·have z2:=un.frzs b ob _ z;obtain⟨e1,_⟩:=hok b _ z;obtain⟨e2,_⟩:=hok' b _ z2;rw[e] at e1; cases e1;rwa[e2]
 cases hk:K.lookup a with
 | some o =>
  have e:=KX a o hk;rw[ha] at e;cases e;refine core (λ_=>Ih) (λ_=>.inl rfl) (.inr ⟨_,vs.toArray,_,hk,rfl,rfl,rfl,by rw[i0,lenV]; exact hl,by simpa using rv⟩) (λb u z=>by have z':(Ih:Option HO)=Ig u:=z; cases z') (λb z=>x4 rfl z) λz=>x4 rfl z
 | none =>
  refine core (λb=>if b=a then Ig (.frz { cls:=.type "list",data:=.seq vs.toArray } (.lst (ns.map V.int))) else Ih) (λb=>?_) (.inl (.inr ⟨{ cls:=.type "list",data:=.seq vs.toArray },y9 rfl⟩)) (λb u z=>?_) (λb z=>?_) λ_=>hk
  ·by_cases hb:b=a
   ·rwa[.inr ⟨_,_,y9 hb⟩]
   ·rwa[.inl (y7 hb)]
  ·by_cases hb:b=a
   ·have z':=(y9 hb).symm.trans z;cases z';subst hb;rwa[ha,by rw[a7]; exact hl,vs,_,rv,ha]
   ·have z':=(y7 hb).symm.trans z;cases z'
  ·by_cases hb:b=a
   ·rwa[hb]
   ·rwa[x4 (y7 hb) z]
end L2

namespace L2

end L2

namespace L2


abbrev CX0:CXT:=λ_ _ _ _ _ _=>False
abbrev E0:XK:=λ_ _ _=>False
def aH{X:Cx} : kK CX0 X E0:=λ_ _ _ _ _ _ _ h=>h.elim

structure Fun(K:b7)(x qual:g8)(st:Ah)(f:b9)(fd:Aq):Prop where
 ex:∃(oc:c7)(od:Option b9)(kV doc pm:c7)(an:Option b9)(cdv ct:c7)(osl:Array (Option c7)),
  fd=An x qual (wE st) (xH st) (zJ st) .none kV doc pm an cdv ct/\K.lookup f=Ig ⟨oc,od,.func fd,osl⟩/\Cf K cdv qual=Ii
 kp:Au K (.ref f)=Ii
section
variable{P:j9}{w:n5}{K:b7}{mg:g8->Option c7}{base:n9}
def Fun.ok{x qual:g8}{st:Ah}{f:b9}{fd:Aq}{N ps:List g8}{k:Nat}{sp:Sp}(F:Fun K x qual st f fd)(S:zP N ps (zJ st))(len:∀ vs H Q E,sp vs H Q E->vs.length=ps.length)
  (hbody:∀(cdv:c7)(A:Ab)(outer:List Dk)(s:d4)(H:Hp)(vs:List V)(Q:VK)(E:XK),rX k (A.deeper (envOfC qual (zJ st) s.heap.objs.size f cdv))->sp vs H Q E ->
   ∃ t,PSs (cxOf CX0 P w K mg base N qual (zJ st) f cdv A outer s H E).nox (xH st) t/\t { nx:=λ_ H'=>Q .non H',rt:=Q } (start N vs) H):yX P w K mg base CX0 (k+1) f fd ps sp:=by
 obtain⟨oc,od,kV,doc,pm,an,cdv,ct,osl,rfl,lk,hcd⟩:=F.ex;erw[VH lk hcd S len λA outer s H vs Q E hr hsp=>?_];obtain⟨t,h,q⟩:=hbody cdv A outer s H vs Q E hr hsp;rwa[t,h.nox,q]
def Fun.binds{x qual:g8}{st:Ah}{f:b9}{fd:Aq}{ps:List g8}(F:Fun K x qual st f fd)
  (h:∀(kV doc pm:c7)(an:Option b9)(cdv ct:c7)(us:List c7),us.length=ps.length->bindArgs (An x qual (wE st) (xH st) (zJ st) .none kV doc pm an cdv ct) ⟨us,[]⟩=pure (ps.zip us)):vb K fd ps []:=by
 obtain⟨oc,od,kV,doc,pm,an,cdv,ct,osl,rfl,lk,hcd⟩:=F.ex;rwa[.all (h kV doc pm an cdv ct)]
def aQ{x qual:g8}{st:Ah}{f:b9}{oc:c7}{od an:Option b9}{osl:Array (Option c7)}{kV doc pm cdv ct:c7}(l:K.lookup f=Ig ⟨oc,od,.func (An x qual (wE st) (xH st) (zJ st) .none kV doc pm an cdv ct),osl⟩)
  (c:Cf K cdv qual=Ii) (k:Au K (.ref f)=Ii):Fun K x qual st f (An x qual (wE st) (xH st) (zJ st) .none kV doc pm an cdv ct):=⟨⟨oc,od,kV,doc,pm,an,cdv,ct,osl,rfl,l,c⟩,k⟩
end
def zU{A:Ab}{k:Nat}(hr:rX k A):A.units+1<cLine:=CH (Nat.add_le_add_left (by decide:1<=64) _) hr.units
def zT{n:Nat}(h:n<=1000):n<sizeLine:=CH h (by decide)

section
variable{X:Cx}
def pv(i:Nat){x:g8}{pos:Ck}(hN:X.N[i]?=Ig x:=by rfl)(hv:Vis X.env.scope x:=by first | exact A4 rfl | exact F8 (A4 rfl) | exact F8 (F8 rfl))(hd:(x ==("__debug__" : g8))=false:=by decide)
  (hcd:(x ==("__classdict__" : g8))=false:=by decide):PE X (.Name x pos) (Zc i):=UD hN hv hd hcd
end

def yO{A B:Prop}(h:B):if Ij=Ii then A else B:=by
 rw[y7 h9];rwa[h]
def xO{A B:Prop}(h:A):if Ii=Ii then A else B:=by
 rw[y9 rfl];rwa[h]
def ite2{c A B:Prop}[Decidable c](h1:c->A)(h2:¬ c->B):if c then A else B:=by
 by_cases h:c
 ·rw[y9 h];rwa[h1 h]
 ·rw[y7 h];rwa[h2 h]
def Same(H H':Hp):Prop:=∀ b o,H b=Ig o->H' b=Ig o
def Same.refl(H:Hp):Same H H:=λ_ _ h=>h
def Same.trans{H H1 H2:Hp}(a:Same H H1)(b:Same H1 H2):Same H H2:=λc o h=>b c o (a c o h)
def Same.free{H H':Hp}(e:Same H H'){l:b9}(h:H' l=HQ):H l=HQ:=by
 cases q:H l with
 | none=>rfl
 | some o =>
  rw[e l o q] at h;cases h
def Same.seq{K:b7}{H H':Hp}{a:b9}{xs:List V}(e:Same H H')(h:SqL K H a xs):SqL K H' a xs:=by
 rcases h with (h | ⟨o,h⟩) | h
 ·rwa[.inl (.inl (e _ _ h))]
 ·rwa[.inl (.inr ⟨o,e _ _ h⟩)]
 ·rwa[.inr h]

end L2

namespace Sea
def rY(ns:List Int):Nat:=ns.foldl (λg n=>Cm g n.natAbs) 0
def fT:∀(ns:List Int)(g:Nat),ns.foldl (λg n=>Cm g n.natAbs) g ∣ g/\∀ n∈ns,ns.foldl (λg n=>Cm g n.natAbs) g ∣ n.natAbs
 | [],g=>⟨Nat.dvd_refl g,λ_ h=>nomatch h⟩
 | x::r,g=>by
  obtain⟨h1,h2⟩:=fT r (Cm g x.natAbs);erw[Hm h1 (Nat.gcd_dvd_left _ _),λn hn=>?_];rcases i7.mp hn with e | e
  ·rw[e];rwa[Hm h1 (Nat.gcd_dvd_right _ _)]
  ·rwa[h2 n e]
def vw{ns:List Int}{n:Int}(h:n∈ns):rY ns ∣ n.natAbs:=(fT ns 0).2 n h
def rL{ns:List Int}{n:Int}(h:n∈ns):(rY ns:Int) ∣ n:=Int.ofNat_dvd_left.mpr (vw h)
def eG{d:Nat} : ∀(ns:List Int)(g:Nat),d ∣ g->(∀ n∈ns,d ∣ n.natAbs)->d ∣ ns.foldl (λg n=>Cm g n.natAbs) g
 | [],_,h,_=>h
 | x::r,g,h,hr=>eG r _ (Nat.dvd_gcd h (hr x AH)) λn hn=>hr n (Ac _ hn)
def ZH{d:Nat}{ns:List Int}(h:∀ n∈ns,d ∣ n.natAbs):d ∣ rY ns:=eG ns 0 (Nat.dvd_zero d) h
def mZ{ns:List Int}{n:Int}(h:n∈ns)(h0:n≠0):0<rY ns:=by
 rcases Nat.eq_zero_or_pos (rY ns) with e | e
 ·have q:=vw h;rw[e,Nat.zero_dvd] at q;lia
 ·rwa[e]
def cL(ns:List Int):List Int:=ns.map λn=>n/(rY ns:Int)
def qG{ns:List Int}{n:Int}(h:n∈ns):n/(rY ns:Int)*(rY ns:Int)=n:=Int.ediv_mul_cancel (rL h)
def kZ{ns:List Int}(h:0<rY ns):rY (cL ns)=1:=by
 have key:rY ns*rY (cL ns) ∣ rY ns:=by
  erw[ZH λn hn=>?_];have h1:rY (cL ns) ∣ (n/(rY ns:Int)).natAbs:=vw (i4.mpr ⟨n,hn,rfl⟩);obtain⟨c,hc⟩:=h1;have h2:=congrArg Int.natAbs (qG hn);rw[GG,Int.natAbs_natCast,hc] at h2;rw[<- h2];rwa[c,by rw[FL,Hn]]
 obtain⟨c,hc⟩:=key;have h3:rY ns*(rY (cL ns)*c)=rY ns*1:=by
  rw[<- Hn,<- hc,Nat.mul_one]
 have h4:=Nat.eq_of_mul_eq_mul_left h h3;rwa[Nat.dvd_one.mp ⟨c,h4.symm⟩]
def fC(x y:Int):rY [x,y]=Cm x.natAbs y.natAbs:=by
 show Cm (Cm 0 x.natAbs) y.natAbs=_;rw[Nat.gcd_zero_left]
structure XO(t b x y:Int):Prop where
 pos:1<=y
 low:Cm x.natAbs y.natAbs=1
 eq:x*b=y*t
 xle:x.natAbs<=t.natAbs
 yle:y.natAbs<=b.natAbs
def qB(n:Int){g:Int}(hg:0<g)(h:g ∣ n):(n/g).natAbs<=n.natAbs:=by
 obtain⟨c,hc⟩:=h;subst hc;rw[Int.mul_ediv_cancel_left c (by lia),GG];rwa[Nat.le_mul_of_pos_left _ (by lia)]
def Vc(t:Int){b:Int}(hb:b≠0):∃ x y:Int,(cL (if b<0 then [t,b].map (λn=>-n) else [t,b]))=[x,y]/\XO t b x y:=by
 have key:∀(t b:Int),0<b->∃ x y:Int,cL [t,b]=[x,y]/\XO t b x y:=λt b hb=>by
  have gp:0<rY [t,b]:=mZ (n:=b) (by simp) (by lia);have e1:=qG (ns:=[t,b]) (n:=t) (by simp);have e2:=qG (ns:=[t,b]) (n:=b) (by simp);have gI:(0:Int)<(rY [t,b]:Int):=by lia
  erw[t/(rY [t,b]:Int),b/(rY [t,b]:Int),U,?_,?_,?_,qB t gI (rL (by simp)),qB b gI (rL (by simp))]
  ·rwa[Int.ediv_pos_of_pos_of_dvd hb (Ek gI) (rL (by simp))]
  ·have h3:=kZ gp;rw[<- fC];rwa[h3]
  ·generalize (rY [t,b]:Int)=g at e1 e2
   calc t/g*b=t/g*(b/g*g):=by rw[e2]
    _=b/g*(t/g*g):=by rw[<- BM,<- BM,El (t/g)]
    _=b/g*t:=by rw[e1]
 by_cases h:b<0
 ·rw[y9 h];obtain⟨x,y,e,p⟩:=key (-t) (-b) (by lia);refine⟨x,y,e,p.pos,p.low,?_,by have:=p.xle; lia,by have:=p.yle; lia⟩;have q:=p.eq;rw[Go,Go] at q;lia
 ·rw[y7 h];rwa[key t b (by lia)]
def dir_low{X Y:Int}(h:X≠0\/Y≠0):∃ x y:Int,cL [X,Y]=[x,y]/\0<rY [X,Y]/\(rY [X,Y]<=X.natAbs\/rY [X,Y]<=Y.natAbs)/\Cm x.natAbs y.natAbs=1/\x*Y-y*X=0/\0<x*X+y*Y/\x.natAbs<=X.natAbs/\y.natAbs<=Y.natAbs:=by
 have gp:0<rY [X,Y]:=by
  rcases h with h | h
  ·rwa[mZ (n:=X) (by simp) h]
  ·rwa[mZ (n:=Y) (by simp) h]
 have gI:(0:Int)<(rY [X,Y]:Int):=by lia
 have e1:=qG (ns:=[X,Y]) (n:=X) (by simp);have e2:=qG (ns:=[X,Y]) (n:=Y) (by simp);erw[X/(rY [X,Y]:Int),Y/(rY [X,Y]:Int),U,gp,?_,?_,?_,?_,qB X gI (rL (by simp)),qB Y gI (rL (by simp))]
 ·rcases h with h | h
  ·rwa[.inl (Ho (by lia) (vw (by simp)))]
  ·rwa[.inr (Ho (by lia) (vw (by simp)))]
 ·rw[<- fC];rwa[kZ gp]
 ·generalize (rY [X,Y]:Int)=g at e1 e2;generalize X/g=x at e1;generalize Y/g=y at e2;rw[<- e1,<- e2,<- BM,<- BM,El x y];lia
 ·generalize (rY [X,Y]:Int)=g at e1 e2 gI;have f1:0<=X/g*X:=by
   have:X/g*X=X/g*(X/g)*g:=by rw[BM,e1]
   rw[this];rwa[EV (by rw[<- Cv]; exact CI _) (Ek gI)]
  have f2:0<=Y/g*Y:=by
   have:Y/g*Y=Y/g*(Y/g)*g:=by rw[BM,e2]
   rw[this];rwa[EV (by rw[<- Cv]; exact CI _) (Ek gI)]
  rcases h with h | h
  ·have:X/g*X≠0:=De (λz=>h (by rw[<- e1,z,HI])) h;lia
  ·have:Y/g*Y≠0:=De (λz=>h (by rw[<- e2,z,HI])) h;lia
structure SpotOf(X Y W x y w:Int):Prop where
 pos:1<=w
 low:Cm (Cm x.natAbs y.natAbs) w.natAbs=1
 ex:x*W=X*w
 ey:y*W=Y*w
 xle:x.natAbs<=X.natAbs
 yle:y.natAbs<=Y.natAbs
 wle:w.natAbs<=W.natAbs
end Sea

namespace Sea
def VU{a b:Int}(h:a≠0\/b≠0):1<=a*a+b*b:=by
 have s1:0<=a*a:=by rw[<- Cv]; rwa[CI _]
 have s2:0<=b*b:=by rw[<- Cv]; rwa[CI _]
 rcases h with h | h
 ·have:a*a≠0:=De h h;lia
 ·have:b*b≠0:=De h h;lia
end Sea

namespace Sea
end Sea

namespace L2

structure CC where
 C:b9
 s:d4
 H:Hp
 fp:List b9

def wt(env:Dk):List (g8×Ce)->List (g8×b9)->List (g8×b9)
 | [],cs=>cs
 | (n,k)::r,cs=>wt env r (if (k == x9)=Ii then(n,(env.cells.lookup n).getD 0)::cs else cs)
def bB{scope:CJ}{env:Dk}(h:∀ x∈scope.names,x.2=.free->∃ c,env.cells.lookup x.1=Ig c):closureFor scope env=pure (wt env scope.names []):=by
 simp only[closureFor];have key:∀(names:List (g8×Ce))(cs:List (g8×b9)),(∀ x∈names,x.2=.free->∃ c,env.cells.lookup x.1=Ig c) ->
  (forIn names cs (λ(x:g8×Ce) (r:List (g8×b9))=>match x with | (name,kind)=>if (kind == x9)=Ii then(do let a <- cellOf env name; pure (Br ((name,a)::r))) else pure (Br r)):GP (List (g8×b9)))=pure (wt env names cs):=by
  intro names
  induction names with
  | nil=>intro cs _; rfl
  | cons x r ih =>
   intro cs hx;obtain⟨n,k⟩:=x;rw[Ev];have hr:=ih (if (k == x9)=Ii then(n,(env.cells.lookup n).getD 0)::cs else cs) λy hy=>hx y (Ac _ hy);by_cases hk:(k == x9)=Ii
   ·obtain⟨c,hc⟩:=hx (n,k) AH (by simpa using hk);have e:cellOf env n=pure c:=by unfold cellOf; rw[hc]
    rw[y9 hk] at hr;have hc':env.cells.lookup n=Ig c:=hc;rw[hc'] at hr;show(((if (k == x9)=Ii then(do let a <- cellOf env n; pure (Br ((n,a)::cs))) else pure (Br cs)):GP _) >>= _)=_;rw[y9 hk,e];erw[Eq.trans ?_ (hr.trans ?_)]
    ·rfl
    ·rw[wt,y9 hk,hc']
   ·rw[y7 hk] at hr;show(((if (k == x9)=Ii then(do let a <- cellOf env n; pure (Br ((n,a)::cs))) else pure (Br cs)):GP _) >>= _)=_;rw[y7 hk];erw[Eq.trans ?_ (hr.trans ?_)]
    ·rfl
    ·rw[wt,y7 hk]
 rwa[congrArg (λ(z:GP (List (g8×b9)))=>z >>= λcs=>pure cs) (key scope.names [] h)]
def qJ{env:Dk} : ∀(names:List (g8×Ce))(cs:List (g8×b9)),(∀ x∈names,x.2=.free->∃ c,env.cells.lookup x.1=Ig c) ->
  (∀ x c,cs.lookup x=Ig c->env.cells.lookup x=Ig c)->∀ x c,(wt env names cs).lookup x=Ig c->env.cells.lookup x=Ig c
 | [],_,_,hc=>hc
 | (n,k)::r,cs,h,hc=>by
  erw[qJ r _ (λy hy=>h y (Ac _ hy)) λx c=>?_];by_cases hk:(k == x9)=Ii
  ·rw[y9 hk];obtain⟨d,hd⟩:=h (n,k) AH (by simpa using hk);have hd':env.cells.lookup n=Ig d:=hd;intro e;rw[p7] at e;cases hx:x == n with
   | true =>
    rw[hx,hd'] at e;have ex:x=n:=by simpa using hx
    rw[ex,hd'];rwa[e]
   | false =>
    rw[hx] at e;rwa[hc x c e]
  ·rw[y7 hk];rwa[hc x c]
def nD{env:Dk} : ∀(names:List (g8×Ce))(cs:List (g8×b9))(x:g8),((x,x9)∈names\/∃ c,cs.lookup x=Ig c)->∃ c,(wt env names cs).lookup x=Ig c
 | [],_,_,h=>h.elim (λz=>nomatch z) id
 | (n,k)::r,cs,x,h=>by
  erw[nD r _ x ?_];by_cases hk:(k == x9)=Ii
  ·rw[y9 hk];cases hx:x == n with
   | true=>rwa[.inr ⟨_,by rw[p7,hx]⟩]
   | false =>
    rcases h with h | ⟨c,h⟩
    ·rcases i7.mp h with e | e
     ·injection e with e1 _
      subst e1;simp at hx
     ·rwa[.inl e]
    ·rwa[.inr ⟨c,by rw[p7,hx]; exact h⟩]
  ·rw[y7 hk];rcases h with h | h
   ·rcases i7.mp h with e | e
    ·injection e with _ e2
     subst e2;rwa[x4 rfl hk]
    ·rwa[.inl e]
   ·rwa[.inr h]
def rm{env:Dk} : ∀{names:List (g8×Ce)}{x:g8},names.lookup x=Ig .free ->
  (names.map λ(n,k)=>if (k == x9&&env.scope.kind == .function&&env.kindOf n == Ig .cell) then(n,B4) else(n,k)).lookup x=Ig .cell \/
  (names.map λ(n,k)=>if (k == x9&&env.scope.kind == .function&&env.kindOf n == Ig .cell) then(n,B4) else(n,k)).lookup x=Ig .free
 | [],_,h=>by simp at h
 | (n,k)::r,x,h=>by
  have ih:=@rm env r x;show Ad x ((if (k == x9&&env.scope.kind == .function&&env.kindOf n == Ig .cell)=Ii then(n,B4) else(n,k))::_)=_\/Ad x ((if (k == x9&&env.scope.kind == .function&&env.kindOf n == Ig .cell)=Ii then(n,B4) else(n,k))::_)=_;by_cases hc:(k == x9&&env.scope.kind == .function&&env.kindOf n == Ig .cell)=Ii
  ·rw[y9 hc];cases hx:x == n with
   | true=>rwa[.inl (by rw[p7,hx])]
   | false =>
    rw[p7,hx] at h;rw[p7,hx];rwa[ih h]
  ·rw[y7 hc];cases hx:x == n with
   | true =>
    rw[p7,hx] at h;rwa[.inr (by rw[p7,hx]; exact h)]
   | false =>
    rw[p7,hx] at h;rw[p7,hx];rwa[ih h]
def zu{env:Dk} : ∀{names:List (g8×Ce)}{x:g8}{j:Ce},(∀ y∈names,y.2≠.cell)->(j=.cell\/j=.free) ->
  (names.map λ(n,k)=>if (k == x9&&env.scope.kind == .function&&env.kindOf n == Ig .cell) then(n,B4) else(n,k)).lookup x=Ig j->(x,x9)∈names
 | [],_,_,_,_,h=>by simp at h
 | (n,k)::r,x,j,hn,hj,h=>by
  have ih:=@zu env r x j (λy hy=>hn y (Ac _ hy)) hj;have hk0:k≠.cell:=hn (n,k) AH
  replace h:Ad x ((if (k == x9&&env.scope.kind == .function&&env.kindOf n == Ig .cell)=Ii then(n,B4) else(n,k))::(r.map λ(n,k)=>if (k == x9&&env.scope.kind == .function&&env.kindOf n == Ig .cell) then(n,B4) else(n,k)))=Ig j:=h
  by_cases hc:(k == x9&&env.scope.kind == .function&&env.kindOf n == Ig .cell)=Ii
  ·rw[y9 hc] at h;have hf:k=.free:=by
    simp only[o8] at hc;simpa using hc.1.1
   cases hx:x == n with
   | true =>
    have ex:x=n:=by simpa using hx
    subst ex;rw[<- hf];rwa[AH]
   | false =>
    rw[p7,hx] at h;rwa[Ac _ (ih h)]
  ·rw[y7 hc] at h;cases hx:x == n with
   | true =>
    rw[p7,hx] at h;have ex:x=n:=by simpa using hx
    have ek:k=j:=p5 h;subst ex;rcases hj with hj | hj
    ·rwa[x4 (ek.trans hj) hk0]
    ·rw[<- hj,<- ek];rwa[AH]
   | false =>
    rw[p7,hx] at h;rwa[Ac _ (ih h)]

def uP(X:Cx)(N:List g8)(scope:CJ)(c:CC):Cx where
 prog:=X.prog
 w:=X.w
 K:=X.K
 mg:=X.mg
 base:=X.base
 A:=X.A
 N:=N
 s₀:=c.s
 H₀:=c.H
 env:=compEnvC scope (wt X.env scope.names []) c.C X.env
 outer:=X.stack
 stack:=X.stack
 ex:=c.fp
 fn:=λ_=>Ij
 calm:=X.calm
 pn:=[]
 xe:=λ_ _=>False

def md(X:Cx)(scope:CJ):List (g8×Nat)->Prop
 | []=>True
 | p::r=>(X.N[p.2]?=Ig p.1/\scope.names.lookup p.1=Ig .free/\(X.env.kindOf p.1=Ig .cell\/X.env.kindOf p.1=Ig .free))/\md X scope r
def md.mem{X:Cx}{scope:CJ} : ∀{caps:List (g8×Nat)},md X scope caps->∀ p∈caps,X.N[p.2]?=Ig p.1/\scope.names.lookup p.1=Ig .free/\(X.env.kindOf p.1=Ig .cell\/X.env.kindOf p.1=Ig .free)
 | [],_,_,h=>nomatch h
 | q::r,h,p,hp=>by
  rcases i7.mp hp with e | e
  ·rw[e]; rwa[h.1]
  ·rwa[md.mem h.2 p e]
structure yt(X:Cx)(caps:List (g8×Nat))(scope:CJ):Prop where
 kind:scope.kind=.function
 nocell:∀ y∈scope.names,y.2≠.cell
 loc:∀ y∈scope.names,y.2=.local->scope.names.lookup y.1=Ig .local
 clos:(scope.names.all λx=>!(x.2 == .free)||(X.env.cells.lookup x.1).isSome)=Ii
 cap:md X scope caps
def yt.cells{X:Cx}{caps:List (g8×Nat)}{scope:CJ}(S:yt X caps scope):∀ x∈scope.names,x.2=.free->∃ c,X.env.cells.lookup x.1=Ig c:=λx hx hf=>by
 have h:=Af.mp S.clos x hx;rw[hf] at h;simp only[Ew] at h;rcases h with h | h
 ·rwa[x4 h (by decide)]
 ·rwa[k9.mp h]

def dH(caps:List (g8×Nat))(nt:Nat)(σ:St):St:=x6 nt Ih++caps.map λp=>(σ[p.2]?).join

def To(Y:Cx)(ifs:List t6)(t:TT):Prop :=
 ∀(Ik:List (b9×AL))(s:d4)(σ:St)(H:Hp)(Q:Bool->Hp->Prop),Inv Y Ik σ H s->t σ H Q ->
  wpAny (model Y.prog Y.w) Y.A (forIn ifs Ii λc r=>if r=Ii then do let ok <- isTrue c Y.env (eval c Y.env); pure (Br ok) else pure (Br r)) (TP Y Ik σ Q) Y.xe s
def XU:TT:=λ_ H Q=>Q Ii H
def wH{Y:Cx} : To Y [] XU:=λ_ _ _ H _ I h=>wpAny_tests_nil ⟨H,I,h⟩
def ZW{Y:Cx}{c:t6}{t:TT}(h:PT Y c t):To Y [c] t:=λIk s σ H Q I q=>wpAny_tests_one (h Ik s σ H Q I q)

def ub(J:It)(D:b9)(g:TG)(tt:TT)(te:TE)(σ0:St)(H1:Hp)(Q:VK):Prop :=
 ∃ W:Nat->Nat->St->List V->Hp->Prop,(∃ m,W 0 m σ0 [] (upd H1 D (.lst [])))/\∀ i m σ ys H,W i m σ ys H->H D=Ig (.lst ys) /\
  ((J.stop i H/\Q (.ref D) H)\/(J.go i H/\∃ N:St->List V->Hp->Prop,(∀ σ' zs H',N σ' zs H'->∃ m',m'<m/\W (i+1) m' σ' zs H')/\∀ x H',J.yld i H x H'->g x σ H' λσ2 H2=>tt σ2 H2 λb H3 =>
   if b=Ii then te σ2 H3 λy H4=>H4 D=Ig (.lst ys)/\ys.length<sizeLine/\N σ2 (ys++[y]) (upd H4 D (.lst (ys++[y]))) else N σ2 ys H3))
def Uj(nt:Nat)(caps:List (g8×Nat))(wi:TI)(g:CC->TG)(tt:CC->TT)(te:CC->TE):TE:=λσ H Q =>
 wi σ H λJ H1=>∀(c:CC)(D:b9),H1 D=Ih->ub J D (g c) (tt c) (te c) (dH caps nt σ) H1 Q

def fJ{α:Type}{t:GP α}{Q Q':α->d4->Prop}{M:Hw}{A:Ab}{E:c7->d4->Prop}{s:d4}(h:wpAny M A t Q (λ_ _=>False) s)(hQ:∀ a s,Q a s->Q' a s):wpAny M A t Q' E s:=A9 h hQ λ_ _ x=>x.elim
def Un.same{fs ex:List b9}{H H':Hp}{h h1 h2:n9}{C:b9}(u:Un fs ex H H' h h1)(sb:AW C h1 h2)(hC:h.get? C=Ih):Un fs ex H H' h h2:=by
 have ne:∀ b o,h.get? b=Ig o->b≠C:=λb o e z=>by rw[z,hC] at e; cases e
 erw[λb o e n hb hx=>(sb.2 b (ne b o e)).trans (u.keep b o e n hb hx),λb o e n hb hx=>?_,u.free,λb o e hx=>?_,u.tups,u.frzs,u.tbls]
 ·obtain⟨sl,q⟩:=u.slot b o e n hb hx;rwa[sl,(sb.2 b (ne b o e)).trans q]
 ·obtain⟨o',q⟩:=u.there b o e hx;rwa[o',(sb.2 b (ne b o e)).trans q]
def HOk.same{P:j9}{w:n5}{H:Hp}{h h':n9}{C:b9}(k:HOk P w H h)(sb:AW C h h')(hC:H C=Ih):HOk P w H h':=λb o e=>by
 refine(k b o e).stay (λc v hc q=>(sb.2 c ?_).trans q) (λ_ q=>q) λ_ _ q=>q;rintro rfl;rcases hc with z | z
 ·rw[z,e] at hC; cases hC
 ·rw[hC] at z; cases z

section
variable{X:Cx}{T:List g8}{caps:List (g8×Nat)}{scope:CJ}{elt target iter:t6}{ifs:List t6}{pos:Ck}{wi:TI}{g:CC->TG}{tt:CC->TT}{te:CC->TE}

def mi{Ik:List (b9×AL)}{σ:St}{H2:Hp}{s2:d4}{fp:List b9}{C D:b9}{h1:n9}{tk:Nat}{m:g8->Option c7}(S:yt X caps scope)(I2:Inv X Ik σ H2 s2)(f2:∀ b∈fp,fj X Ik H2 b)
  (hfp:∀ b∈fp,b<s2.heap.objs.size) (hD:s2.heap.objs.size<=D) (hC:s2.heap.objs.size<=C) (hDC:C≠D) (old:∀ b o,s2.heap.get? b=Ig o->h1.get? b=Ig o)
  (acc:∃ n,h1.get? D=Ig { cls:=.type "list",data:=.seq ([]:List c7).toArray n }) (hn:h1.Ns C m) :
  Inv (uP X (T++caps.map (·.1)) scope ⟨C,s2,H2,fp⟩) [] (dH caps T.length σ) (upd H2 D (.lst [])) { s2 with heap:=h1,toks:=tk }:=by
 have cs:=qJ (env:=X.env) scope.names [] S.cells (λ_ _ z=>by cases z);have cellOld:∀ x c,X.env.cells.lookup x=Ig c->c<s2.heap.objs.size:=λx c e=>by
  obtain⟨v,q⟩:=I2.cell x c e;rwa[q.lt]
 have stkNo:∀ b∈fp,b ∉ frs X.stack:=λb hb z=>by
  rcases i7.mp (I2.stkSub b z) with e | e
  ·exact(f2 b hb).2.1 e
  ·exact(f2 b hb).2.2.1 e
 have fr:H2 D=none:=I2.hok.fresh hD;refine⟨⟨I2.ok.mod,S.kind,I2.ok.glob,I2.ok.blt,hC,λx y c e1 e2=>I2.ok.inj x y c (cs x c e1) (cs y c e2),λx hx=>?_,λ_ _ z=>x4 (show Ij=Ii from z) h9,I2.ok.hd,I2.ok.frames,.inl rfl,λb hb=>⟨?_,λx c e=>(f2 b hb).2.2.2.2.1 x c (cs x c e)⟩,
  λb o e=>I2.bs b o e,j8 I2.ok.bsz I2.sz,λb o e hb=>?_,stkNo,I2.stack,I2.stkFree⟩,rfl,I2.bare,?_,⟨m,hn,λi x v e1 e2 e3=>?_⟩,λx c e=>?_,?_,λx c e=>?_,λp hp=>x4 (show p∈([]:List (b9×AL)) from hp) (by simp),?_,?_⟩
 ·have hx':(x,x9)∈scope.names:=by
   rcases hx with z | z
   ·rwa[zu S.nocell (.inl rfl) z]
   ·rwa[zu S.nocell (.inr rfl) z]
  rwa[nD scope.names [] x (.inl hx')]
 ·rwa[l6 (m5 (hfp b hb) hC)]
 ·rcases (f2 b hb).2.2.2.1 with z | z
  ·rwa[I2.ok.noex b o e z]
  ·exact x4 (m5 (f9 (show X.base.get? b=Ig o from e)) (j8 I2.ok.bsz z)) (Bc _)
 ·rwa[Un.laid old hD fr]
 ·have hlt:¬ i<T.length:=λhi=>by
   unfold dH at e2;rw[A5 (by simpa using hi),CK,y9 hi] at e2;cases e2
  have hge:T.length<=i:=F7 hlt;have e1':(T++caps.map (·.1))[i]?=Ig x:=e1;rw[Ay hge,d8] at e1';unfold dH at e2;rw[Ay (by simpa using hge),A7,d8] at e2;cases hp:caps[i-T.length]? with
  | none=>rw[hp] at e1'; cases e1'
  | some p =>
   rw[hp] at e1' e2;have ex:p.1=x:=p5 e1';have ev:(σ[p.2]?).join=Ig v:=p5 e2;obtain⟨hN,hf,hk⟩:=S.cap.mem p (i8 hp);have ev':σ[p.2]?=Ig (Ig v):=by
    cases hq:σ[p.2]? with
    | none=>rw[hq] at ev; cases ev
    | some o =>
     rw[hq] at ev;rwa[congrArg Ig ev]
   obtain⟨m2,_,hl2⟩:=I2.loc;obtain⟨u,ru,l⟩:=hl2 p.2 p.1 v hN ev' (hk.elim (λz=>.inr (.inl z)) λz=>.inr (.inr z));erw[u,ru,.inr ⟨?_,?_⟩]
   ·rw[<- ex];rwa[rm (env:=X.env) hf]
   ·rcases l with ⟨kl,_⟩ | ⟨_,c,ec,hcell⟩
    ·rcases hk with z | z <;>(rw[kl] at z; cases z)
    ·obtain⟨d,hd⟩:=nD (env:=X.env) scope.names [] p.1 (.inl (Bs hf));have hd':=cs p.1 d hd;rw[ec] at hd';cases hd';obtain⟨o,ho,hod⟩:=hcell;rwa[c,by rw[<- ex]; exact hd,o,old c o ho,hod]
 ·obtain⟨v,o,ho,hd⟩:=I2.cell x c (cs x c e);rwa[v,o,old c o ho,hd]
 ·show upd H2 D (.lst []) C=Ih;rw[zG hDC];rwa[I2.hok.fresh hC]
 ·show upd H2 D (.lst []) c=Ih;rw[zG (l6 (m5 (cellOld x c (cs x c e)) hD))];rwa[I2.freeC x c (cs x c e)]
 ·obtain⟨n,e⟩:=acc;rwa[I2.hok.laid old hD ⟨r9 _,[],n,.nil,e⟩]
 ·show(dH caps T.length σ).length=(T++caps.map (·.1)).length;unfold dH;rw[f8,f8,a7,a7,A7]

def uX(S:yt X caps scope)(hc:X.calm=Ii)(hi:PI X target iter wi)(hg:∀ c,PG (uP X (T++caps.map (·.1)) scope c) target (g c))(ht:∀ c,To (uP X (T++caps.map (·.1)) scope c) ifs (tt c))(he:∀ c,PE (uP X (T++caps.map (·.1)) scope c) elt (te c))
  (hs:∀ x,foldedSetIterable iter X.env x=pure x:=by intro _; rfl):PE X (.ListComp elt [⟨target,iter,ifs,0⟩] scope pos) (Uj T.length caps wi g tt te):=by
 intro Ik s σ H Q I h;rw[eval_ListComp];erw[DZ (use:=Ih) rfl hs (bB S.cells) S.kind S.loc (thn (hi Ik s σ H _ I h) λv s1 h1=>thn h1 λitv s2 h2=>?_)];obtain⟨it,fp,tn,J,H2,e,I2,TT,st2,f2,q2⟩:=h2;subst e;refine p9 (EW S.nocell (by intro y hy; simp at hy) (λh1 hn hsb=>?_) S.kind);dsimp only at hn hsb ⊢;generalize hg2:s2.heap.push { cls:=.type "list",dict:=Ih,data:=.seq ([]:List c7).toArray }=G at hn hsb ⊢;have hCv:G.objs.size=s2.heap.objs.size+1:=by rw[<- hg2,Bg]
 have hDC:G.objs.size≠s2.heap.objs.size:=by rw[hCv]; rwa[F9 _]
 have hCle:s2.heap.objs.size<=G.objs.size:=by rw[hCv]; rwa[BV _]
 have old:∀ b o,s2.heap.get? b=Ig o->h1.get? b=Ig o:=λb o e=>hsb.extBut b o (l6 (m5 (f9 e) hCle)) (c9 _ (hg2 ▸ c9 _ e));have hacc:∃ n,h1.get? s2.heap.objs.size=Ig { cls:=.type "list",data:=.seq ([]:List c7).toArray n }:=⟨_,hsb.extBut _ _ (AG hDC) (c9 _ (hg2 ▸ e7 _ rfl))⟩;have hfp:∀ b∈fp,b<s2.heap.objs.size:=λb hb=>by
  obtain⟨o,e,_⟩:=TT.obj _ _ st2 b hb;rwa[f9 e]
 have cs:=qJ (env:=X.env) scope.names [] S.cells (λ_ _ z=>by cases z);have I0:=mi (T:=T) (tk:=s2.toks+([]:List (g8×c7)).length) S I2 f2 hfp (d6 _) hCle hDC old hacc hn;have st0:tn 0 h1:=TT.keep _ _ _ st2 λb _ o e=>old b o e;obtain⟨W,⟨m0,w0⟩,turn⟩:=q2 ⟨G.objs.size,s2,H2,fp⟩ s2.heap.objs.size (I2.hok.fresh (d6 _));have fr0:∀ b∈fp,upd H2 s2.heap.objs.size (.lst []) b=none:=λb hb=>by
  rw[zG (l6 (hfp b hb))];exact(f2 b hb).1
 have stat:∀{H':Hp},(∀ b∈fp,H' b=Ih)->∀ b∈fp,fj (uP X (T++caps.map (·.1)) scope ⟨G.objs.size,s2,H2,fp⟩) [] H' b:=λ{H'} hn' b hb =>
  ⟨hn' b hb,l6 (m5 (hfp b hb) hCle),I0.ok.exfs b hb,.inl hb,λx c e=>(f2 b hb).2.2.2.2.1 x c (cs x c e),λp hp=>x4 (show p∈([]:List (b9×AL)) from hp) (by simp)⟩
 have loop:codeAny (model X.prog X.w) X.A (.compLoop (.ListComp elt [⟨target,iter,ifs,0⟩] scope pos) 0 (.ref it) (.ref s2.heap.objs.size) (compEnvC scope (wt X.env scope.names []) G.objs.size X.env))
   (compPost (model X.prog X.w) X.A X.xe Ih (EP X Ik σ Q) (.ref s2.heap.objs.size) G.objs.size) { s2 with heap:=h1,toks:=s2.toks+([]:List (g8×c7)).length }:=by
  erw[codeAny_loop rfl (λn s'=>∃ i σ' ys H',Inv (uP X (T++caps.map (·.1)) scope ⟨G.objs.size,s2,H2,fp⟩) [] σ' H' s'/\tn i s'.heap/\(∀ b∈fp,H' b=Ih)/\W i n σ' ys H') (λn s3 hI=>?_) m0 ⟨0,_,[],_,I0,st0,fr0,w0⟩];obtain⟨i,σ3,ys,H3,I3,st3,fr3,w3⟩:=hI;show wpAny _ X.A ((compTurn (.ListComp elt [⟨target,iter,ifs,0⟩] scope pos) 0 (.ref it) (.ref s2.heap.objs.size) (compEnvC scope (wt X.env scope.names []) G.objs.size X.env)).onRaise (λx=>do noteFrame x (compEnvC scope (wt X.env scope.names []) G.objs.size X.env); theTreesLotGoes x)) _ _ s3;erw[wpAny_noted ?_];rw[compTurn_list];erw[ac (C3 (ac ?_))];obtain⟨hD3,turn3⟩:=turn i n σ3 ys H3 w3;rcases turn3 with ⟨stop,qn⟩ | ⟨go,N,hN,step⟩
  ·erw[fJ (TT.done (uP X (T++caps.map (·.1)) scope ⟨G.objs.size,s2,H2,fp⟩) rfl rfl rfl hc i [] s3 σ3 H3 _ I3 (stat fr3) st3 stop) λr s4 ⟨hr,I4⟩=>?_];subst hr;erw[d7 ?_];show ∃ m,s4.heap.Ns G.objs.size m/\∀ h',AW G.objs.size s4.heap h'->EP X Ik σ Q (.ref s2.heap.objs.size) { s4 with heap:=h' };obtain⟨m4,hn4,_⟩:=I4.loc;erw[m4,hn4,λh' sb=>⟨.ref s2.heap.objs.size,H3,?_,U,qn⟩];refine I2.call' (s':={ s4 with heap:=h' }) (ch:=fp) I4.os (Un.same I4.base sb (C5 hCle)) (HOk.same I4.hok sb I4.free) I4.bare λb hb=>?_;obtain⟨_,f1,_,f3,f4,f5⟩:=f2 b hb;rwa[f3,f1,f4,f5]
  ·refine fJ (TT.item (uP X (T++caps.map (·.1)) scope ⟨G.objs.size,s2,H2,fp⟩) rfl rfl rfl hc i [] s3 σ3 H3 _ I3 (stat fr3) st3 go) λr s4 ⟨u,hr,h4⟩=>?_;subst hr;refine ac (fJ h4 λ_ s5 ⟨x,H5,I5,r5,y5,st5,fr5⟩=>?_);have I5':=I5.pinned (stat fr5) (TT.obj _ _ st5);refine ac (fJ (hg _ _ s5 σ3 H5 x u _ I5' r5 (step x H5 y5)) λ_ s6 ⟨σ6,H6,I6,q6⟩=>?_);have again:∀{s7:d4}{σ7:St}{zs:List V}{H7:Hp},Inv (uP X (T++caps.map (·.1)) scope ⟨G.objs.size,s2,H2,fp⟩) ([]++mH fp s5.heap) σ7 H7 s7->N σ7 zs H7 ->
     ∃ m,m<n/\∃ i σ' ys H',Inv (uP X (T++caps.map (·.1)) scope ⟨G.objs.size,s2,H2,fp⟩) [] σ' H' s7/\tn i s7.heap/\(∀ b∈fp,H' b=Ih)/\W i m σ' ys H':=λ{s7 σ7 zs H7} I7 n7=>by
    obtain⟨m',hm,w7⟩:=hN σ7 zs H7 n7;erw[m',hm,i+1,σ7,zs,H7,I7.unpinned,TT.keep _ _ _ st5 λb hb o e=>(I7.pin (b,o) (o0 _ (o0 _ (tV hb e)))).1,λb hb=>?_,w7];obtain⟨o,e,d⟩:=TT.obj _ _ st5 b hb;exact(I7.pin (b,o) (o0 _ (o0 _ (tV hb e)))).2.1
   erw[ac (fJ (ht _ _ s6 σ6 H6 _ I6 q6) λok s7 ⟨H7,I7,q7⟩=>?_)];cases ok with
   | false=>rwa[d7 ⟨rfl,again I7 q7⟩]
   | true =>
    erw[ac (ac (fJ (he _ _ s7 σ6 H7 _ I7 q7) λy s8 ⟨yv,H8,I8,r8,hD8,hl8,q8⟩=>?_))];erw[ac (fJ (nq _ s8 σ6 H8 (.ref s2.heap.objs.size) [yv] (.ref s2.heap.objs.size) [y] (λ_ H9=>N σ6 (ys++[yv]) H9) I8 rfl (.cons r8 .nil) ⟨_,ys,yv,rfl,rfl,hD8,hl8,q8⟩) λ_ s9 ⟨_,H9,I9,_,q9⟩=>?_)];rwa[d7 (d7 ⟨rfl,again I9 q9⟩)]
 rwa[codeAny_compStart_list loop (TT.self _ 0 _ _ _ st0 loop)]
end
end L2

namespace L2

def wZ:bootBuiltins "len" = Ig (.builtin "len"):=by ac_nf
def VS:bootBuiltins "abs" = Ig (.builtin "abs"):=by ac_nf
def pZ:bootBuiltins "all" = Ig (.builtin "all"):=by ac_nf
def Xu:bootBuiltins "any" = Ig (.builtin "any"):=by ac_nf
def VF:bootBuiltins "max" = Ig (.builtin "max"):=by ac_nf
def VD:bootBuiltins "min" = Ig (.builtin "min"):=by ac_nf
def zV:bootBuiltins "isinstance" = Ig (.builtin "isinstance"):=by ac_nf
def bM:bootBuiltins "int" = Ig (.type "int"):=by ac_nf
def bT:bootBuiltins "bool" = Ig (.type "bool"):=by ac_nf
def Xa:bootBuiltins "str" = Ig (.type "str"):=by ac_nf
def xb:bootBuiltins "list" = Ig (.type "list"):=by ac_nf
def fQ:bootBuiltins "tuple" = Ig (.type "tuple"):=by ac_nf
def Um:bootBuiltins "zip" = Ig (.type "zip"):=by ac_nf

def Has(P:j9)(w:n5)(K:b7)(mg:g8->Option c7)(base:n9)(x:g8)(n:Nat)(ps:List g8)(sp:Sp):Prop :=
 ∃(f:b9)(fd:Aq),yX P w K mg base CX0 n f fd ps sp/\vb K fd ps []/\Au K (.ref f)=Ii/\mg x=Ig (.ref f)
section
variable{X:Cx}{x:g8}{p pos:Ck}{e:t6}{es:List t6}{t:TA}{n:Nat}{ps:List g8}{sp:Sp}
def uK(h:Has X.prog X.w X.K X.mg X.base x n ps sp)(hr:rX n X.A)(hg:Gl X x)(ha:PA X (e::es) t)(hdb:(x ==("__debug__" : g8))=false:=by decide)
  (he:starEach (e::es) X.env=(Ij,eval e X.env)::starEach es X.env:=by rfl) (hpl:(backTo pos (starEach es X.env)).any (·.1)=false:=by rfl):PE X (.Call (.Name x p) (e::es) [] pos) (dM sp [] E0 t):=by
 obtain⟨f,fd,F,b,k,m⟩:=h;rwa[Wn F hr hg m k b .nil aH ha hdb he hpl]
end

section
variable{X:Cx}
def we(i j:Int):Prop:=0<j/\j.natAbs<2^4096
def ZQ:OpR X (binaryOp .FloorDiv) (rI we λi j=>.int (i/j)):=opI λi j _ _ _ _ _ hc q=>by
 have h1:(0:Int)<j:=hc.1;have h3:j.natAbs.log2<9000:=Be ((Gp (by lia)).mpr hc.2) (by decide);rwa[floordiv_int (by lia) (by rw[Int.fdiv_eq_ediv_of_nonneg i (by lia)]; exact q) (.inl (PyProof.noPylong_of_log2 h3))]
def we.of{i j:Int}(h:0<j)(h2:j<10^600):we i j:=by
 exists h;have e:(10:Nat)^600<2^4096:=by ac_nf
 lia
def fv:uU X (.builtin "isinstance") (λxs H Q=>∃ x T t b,xs=[x,.ty T]/\TyOf X.K H x t/\AX X.K t (.type T)=Ig b/\Q (.bl b) H):=by
 intro Ik s σ H xs us Q I r h;obtain⟨x,T,t,b,rfl,ty,e,q⟩:=h;obtain⟨u,v,rfl,ru,rv⟩:=yP.two r;cases rv;rwa[bV I ru ty e λtk=>⟨.bl b,H,I.tok tk,rfl,q⟩]

def Sq(K:b7)(H:Hp)(p:b9)(xs:List V):Prop:=SqL K H p xs\/SqT K H p xs
inductive RIx(K:b7)(x y:V)(H:Hp)(Q:VK):Prop where
 | mk (p:b9) (xs:List V) (i:Int) (v:V) (ex:x=.ref p) (ey:y=.int i) (sq:Sq K H p xs) (at':atI xs i=Ig v) (q:Q v H)
def rIxA(K:b7):R2:=λx y H Q=>RIx K x y H Q
def jL:IxR X (rIxA X.K):=by
 intro value slice Ik s σ H x y v u Q I rx ry q hs;obtain⟨p,xs,i,z,e1,e2,hq,ha,q⟩:=q;rcases hq with hq | hq
 ·rwa[Wo value slice Ik s σ H x y v u Q I rx ry ⟨p,xs,i,z,e1,e2,hq,ha,q⟩ hs]
 ·rwa[VJ value slice Ik s σ H x y v u Q I rx ry ⟨p,xs,i,z,e1,e2,hq,ha,q⟩ hs]
def iSeq(K:b7)(tl:TE):TI:=λσ H R=>tl σ H λx H1=>∃ a,x=.ref a/\(((∃ xs,SqL K H1 a xs)/\R (Itl K a) H1)\/((∃ xs,SqT K H1 a xs)/\R (Itt K a) H1))
def fV{tg l:t6}{tl:TE}(hl:PE X l tl):PI X tg l (iSeq X.K tl):=by
 intro Ik s σ H R I h;refine thn (hl Ik s σ H _ I h) λv s1 ⟨x,H1,I1,r1,q1⟩=>?_;obtain⟨a,e,q⟩:=q1;subst e;cases r1;have own:∀ b,b∈[s1.heap.objs.size]->fj X Ik H1 b:=λb hb=>by
  rw[d9] at hb;subst hb;rwa[I1.fpOk (d6 _) (I1.hok.fresh (d6 _))]
 rcases q with ⟨⟨xs,hq⟩,q⟩ | ⟨⟨xs,hq⟩,q⟩
 ·obtain⟨its,rv,p,hz⟩:=I1.list hq;rwa[BJ p.isList ⟨s1.heap.objs.size,[s1.heap.objs.size],_,_,H1,rfl,I1.kept (t':=s1.toks) λb o e=>c9 _ e,jq a _,⟨_,e7 _ rfl,rfl,rfl⟩,own,q⟩]
 ·obtain⟨its,rv,p,hz⟩:=I1.tuple hq;exact Dy (show s1.heap.IsTuple a its.toArray from p) ⟨s1.heap.objs.size,[s1.heap.objs.size],_,_,H1,rfl,I1.kept (t':=s1.toks) λb o e=>c9 _ e,mf a _,⟨_,e7 _ rfl,rfl,rfl⟩,own,q⟩
end

section
variable{K:b7}{a D:b9}{xs:List V}{g:TG}{tt:TT}{te:TE}{σ0:St}{H1:Hp}{Q:VK}
def bz(Pv:Nat->St->List V->Hp->Prop)(h0:Pv 0 σ0 [] (upd H1 D (.lst [])))(hl:∀ i σ ys H,i<=xs.length->Pv i σ ys H->SqL K H a xs/\H D=Ig (.lst ys))
  (hs:∀ i x σ ys H,xs[i]?=Ig x->Pv i σ ys H->g x σ H λσ2 H2=>tt σ2 H2 λb H3 =>
   if b=Ii then te σ2 H3 λy H4=>H4 D=Ig (.lst ys)/\ys.length<sizeLine/\Pv (i+1) σ2 (ys++[y]) (upd H4 D (.lst (ys++[y]))) else Pv (i+1) σ2 ys H3)
  (hd:∀ σ ys H,Pv xs.length σ ys H->Q (.ref D) H):ub (Itl K a) D g tt te σ0 H1 Q:=by
 exists λi m σ ys H=>m=xs.length-i/\i<=xs.length/\Pv i σ ys H,⟨xs.length,by simp,r9 _,h0⟩;rintro i m σ ys H ⟨rfl,hi,p⟩;obtain⟨q,qd⟩:=hl i σ ys H hi p;exists qd;by_cases hlt:i<xs.length
 ·erw[.inr ⟨⟨xs,xs[i],q,by simp[hlt]⟩,Pv (i+1),λσ' zs H' z=>⟨xs.length-(i+1),by lia,rfl,hlt,z⟩,λx H' y=>?_⟩];obtain⟨e,y⟩:=y;subst e;rwa[hs i x σ ys _ (y xs q) p]
 ·have e:i=xs.length:=by lia
  subst e;rwa[.inl ⟨⟨xs,q,d6 _⟩,hd σ ys H p⟩]
def Yy(Pv:Nat->St->List V->Hp->Prop)(h0:Pv 0 σ0 [] (upd H1 D (.lst [])))(hl:∀ i σ ys H,i<=xs.length->Pv i σ ys H->SqT K H a xs/\H D=Ig (.lst ys))
  (hs:∀ i x σ ys H,xs[i]?=Ig x->Pv i σ ys H->g x σ H λσ2 H2=>tt σ2 H2 λb H3 =>
   if b=Ii then te σ2 H3 λy H4=>H4 D=Ig (.lst ys)/\ys.length<sizeLine/\Pv (i+1) σ2 (ys++[y]) (upd H4 D (.lst (ys++[y]))) else Pv (i+1) σ2 ys H3)
  (hd:∀ σ ys H,Pv xs.length σ ys H->Q (.ref D) H):ub (Itt K a) D g tt te σ0 H1 Q:=by
 exists λi m σ ys H=>m=xs.length-i/\i<=xs.length/\Pv i σ ys H,⟨xs.length,by simp,r9 _,h0⟩;rintro i m σ ys H ⟨rfl,hi,p⟩;obtain⟨q,qd⟩:=hl i σ ys H hi p;exists qd;by_cases hlt:i<xs.length
 ·erw[.inr ⟨⟨xs,xs[i],q,by simp[hlt]⟩,Pv (i+1),λσ' zs H' z=>⟨xs.length-(i+1),by lia,rfl,hlt,z⟩,λx H' y=>?_⟩];obtain⟨e,y⟩:=y;subst e;rwa[hs i x σ ys _ (y xs q) p]
 ·have e:i=xs.length:=by lia
  subst e;rwa[.inl ⟨⟨xs,q,d6 _⟩,hd σ ys H p⟩]
def dL{lo:Int}{n:Nat}(Pv:Nat->St->List V->Hp->Prop)(h0:Pv 0 σ0 [] (upd H1 D (.lst [])))(hl:∀ i σ ys H,i<=n->Pv i σ ys H->H D=Ig (.lst ys))
  (hs:∀ i σ ys H,i<n->Pv i σ ys H->g (.int (lo+i)) σ H λσ2 H2=>tt σ2 H2 λb H3 =>
   if b=Ii then te σ2 H3 λy H4=>H4 D=Ig (.lst ys)/\ys.length<sizeLine/\Pv (i+1) σ2 (ys++[y]) (upd H4 D (.lst (ys++[y]))) else Pv (i+1) σ2 ys H3)
  (hd:∀ σ ys H,Pv n σ ys H->Q (.ref D) H):ub (Itr lo n) D g tt te σ0 H1 Q:=by
 exists λi m σ ys H=>m=n-i/\i<=n/\Pv i σ ys H,⟨n,by simp,r9 _,h0⟩;rintro i m σ ys H ⟨rfl,hi,p⟩;have qd:=hl i σ ys H hi p;exists qd;by_cases hlt:i<n
 ·erw[.inr ⟨hlt,Pv (i+1),λσ' zs H' z=>⟨n-(i+1),by lia,rfl,hlt,z⟩,λx H' y=>?_⟩];obtain⟨e,y⟩:=y;subst e y;rwa[hs i σ ys _ hlt p]
 ·have e:i=n:=by lia
  subst e;rwa[.inl ⟨d6 _,hd σ ys H p⟩]
end
section
variable{K:b7}{a D:b9}{xs:List V}{g:TG}{te:TE}{σ0:St}{H1:Hp}{Q:VK}
def mU(Pv:Nat->St->List V->Hp->Prop)(h0:Pv 0 σ0 [] (upd H1 D (.lst [])))(hl:∀ i σ ys H,i<=xs.length->Pv i σ ys H->SqL K H a xs/\H D=Ig (.lst ys))
  (hs:∀ i x σ ys H,xs[i]?=Ig x->Pv i σ ys H->g x σ H λσ2 H2=>te σ2 H2 λy H4=>H4 D=Ig (.lst ys)/\ys.length<sizeLine/\Pv (i+1) σ2 (ys++[y]) (upd H4 D (.lst (ys++[y]))))
  (hd:∀ σ ys H,Pv xs.length σ ys H->Q (.ref D) H):ub (Itl K a) D g XU te σ0 H1 Q:=bz Pv h0 hl (λi x σ ys H e p=>hs i x σ ys H e p) hd
def jQ(Pv:Nat->St->List V->Hp->Prop)(h0:Pv 0 σ0 [] (upd H1 D (.lst [])))(hl:∀ i σ ys H,i<=xs.length->Pv i σ ys H->SqT K H a xs/\H D=Ig (.lst ys))
  (hs:∀ i x σ ys H,xs[i]?=Ig x->Pv i σ ys H->g x σ H λσ2 H2=>te σ2 H2 λy H4=>H4 D=Ig (.lst ys)/\ys.length<sizeLine/\Pv (i+1) σ2 (ys++[y]) (upd H4 D (.lst (ys++[y]))))
  (hd:∀ σ ys H,Pv xs.length σ ys H->Q (.ref D) H):ub (Itt K a) D g XU te σ0 H1 Q:=Yy Pv h0 hl (λi x σ ys H e p=>hs i x σ ys H e p) hd
def xk{lo:Int}{n:Nat}(Pv:Nat->St->List V->Hp->Prop)(h0:Pv 0 σ0 [] (upd H1 D (.lst [])))(hl:∀ i σ ys H,i<=n->Pv i σ ys H->H D=Ig (.lst ys))
  (hs:∀ i σ ys H,i<n->Pv i σ ys H->g (.int (lo+i)) σ H λσ2 H2=>te σ2 H2 λy H4=>H4 D=Ig (.lst ys)/\ys.length<sizeLine/\Pv (i+1) σ2 (ys++[y]) (upd H4 D (.lst (ys++[y]))))
  (hd:∀ σ ys H,Pv n σ ys H->Q (.ref D) H):ub (Itr lo n) D g XU te σ0 H1 Q:=dL Pv h0 hl (λi σ ys H e p=>hs i σ ys H e p) hd
end
end L2

namespace L2
def ay:∀ bs:List Bool,(Ai bs.length).all (λi=>(bs[i]?).getD Ii)=bs.all id:=by
 intro bs;rw[BZ,Af,Af];constructor
 ·intro h b hb;obtain⟨i,hi,e⟩:=E9 hb;have q:=h i (Az.mpr hi);rw[d3 hi,e] at q;rwa[q]
 ·intro h i hi;have hi':=Az.mp hi;rw[d3 hi'];rwa[h _ (Bv hi')]
def aR:∀ bs:List Bool,(Ai bs.length).any (λi=>(bs[i]?).getD Ii)=bs.any id:=by
 intro bs;rw[BZ,CZ,CZ];constructor
 ·rintro⟨i,hi,q⟩;have hi':=Az.mp hi;rw[d3 hi'] at q;rwa[_,Bv hi',q]
 ·rintro⟨b,hb,q⟩;obtain⟨i,hi,e⟩:=E9 hb;exists i,Az.mpr hi;rw[d3 hi,e];rwa[q]
def eI{bs:List Bool}{its:List c7}(r:yP (bs.map V.bl) its){i:Nat}{v:c7}(h:its[i]?=Ig v):v=.bool ((bs[i]?).getD Ii):=by
 have hl:=r.length;rw[a7] at hl;have hi:i<its.length:=(g9.mp h).1;have hb:i<bs.length:=by lia
 obtain⟨u,hu,ru⟩:=r.get (i:=i) (x:=.bl bs[i]) (by rw[d8,d3 hb]; rfl);rw[hu] at h;cases h;rw[d3 hb];rwa[ru]
section
variable{X:Cx}
def sC(hc:X.calm=Ii):uU X (.builtin "all") (λxs H Q=>∃(p:b9)(bs:List Bool),xs=[.ref p]/\SqL X.K H p (bs.map V.bl)/\Q (.bl (bs.all id)) H):=by
 intro Ik s σ H xs us Q I r h;obtain⟨p,bs,rfl,hq,q⟩:=h;obtain⟨u,rfl,ru⟩:=yP.one r;cases ru;obtain⟨its,rv,pl,hz⟩:=I.list hq;have plt:p<s.heap.objs.size:=by
  obtain⟨_,e,_⟩:=pl.isList;rwa[f9 e]
 erw[call_all_walk (BJ pl.isList ?_)];refine⟨s.heap.objs.size,_,_,_,_,_,λi=>(bs[i]?).getD Ii,U,HX (A:=X.A.in1) (show X.A.in1.handled=Ih from I.ok.hd hc) _ p (l6 plt) its.toArray,⟨⟨_,e7 _ rfl,U,U⟩,Ga pl.isList _⟩,λi v s Q E hP hQ=>?_,λh' tk k=>?_⟩
 ·have e:=eI rv (by simpa using hP);subst e;rwa[AD hQ]
 ·have e:(Ai its.toArray.size).all (λi=>(bs[i]?).getD Ii)=bs.all id:=by
   have hl:=rv.length;rw[a7] at hl;rw[i0,<- hl];rwa[ay bs]
  rw[e];exact⟨.bl (bs.all id),H,I.kept (t':=tk) λb o z=>k b o (λw=>by rw[d9] at w; rwa[Bc _ (w ▸ f9 z)]) (c9 _ z),rfl,q⟩
def ir(hc:X.calm=Ii):uU X (.builtin "any") (λxs H Q=>∃(p:b9)(bs:List Bool),xs=[.ref p]/\SqL X.K H p (bs.map V.bl)/\Q (.bl (bs.any id)) H):=by
 intro Ik s σ H xs us Q I r h;obtain⟨p,bs,rfl,hq,q⟩:=h;obtain⟨u,rfl,ru⟩:=yP.one r;cases ru;obtain⟨its,rv,pl,hz⟩:=I.list hq;have plt:p<s.heap.objs.size:=by
  obtain⟨_,e,_⟩:=pl.isList;rwa[f9 e]
 erw[call_any_walk (BJ pl.isList ?_)];refine⟨s.heap.objs.size,_,_,_,_,_,λi=>(bs[i]?).getD Ii,U,HX (A:=X.A.in1) (show X.A.in1.handled=Ih from I.ok.hd hc) _ p (l6 plt) its.toArray,⟨⟨_,e7 _ rfl,U,U⟩,Ga pl.isList _⟩,λi v s Q E hP hQ=>?_,λh' tk k=>?_⟩
 ·have e:=eI rv (by simpa using hP);subst e;rwa[AD hQ]
 ·have e:(Ai its.toArray.size).any (λi=>(bs[i]?).getD Ii)=bs.any id:=by
   have hl:=rv.length;rw[a7] at hl;rw[i0,<- hl];rwa[aR bs]
  rw[e];exact⟨.bl (bs.any id),H,I.kept (t':=tk) λb o z=>k b o (λw=>by rw[d9] at w; rwa[Bc _ (w ▸ f9 z)]) (c9 _ z),rfl,q⟩
end
end L2

namespace L2

def SI(b:Bool)(h:n9)(i l:b9)(k:Nat):Prop:=match b with | true=>h.IsListIter i l k | false=>h.IsTupleIter i l k
def SS(b:Bool)(h:n9)(l:b9)(its:Array c7):Prop:=match b with | true=>h.IsList l its | false=>h.IsTuple l its
def jz(b:Bool):String:=match b with | true => "list_iterator" | false => "tuple_iterator"
def SI.obj{b:Bool}{h:n9}{i l:b9}{k:Nat}(x:SI b h i l k):∃ o,h.get? i=Ig o/\o.cls=.type (jz b)/\o.data=.fields #[.ref l,.int k 0]:=by
 cases b <;> rwa[x]
def SI.of{b:Bool}{h:n9}{i l:b9}{k:Nat}(x:∃ o,h.get? i=Ig o/\o.cls=.type (jz b)/\o.data=.fields #[.ref l,.int k 0]):SI b h i l k:=by
 cases b <;> rwa[x]
def SI.at{b:Bool}{h h':n9}{i l:b9}{k:Nat}(x:SI b h i l k)(e:∀ o,h.get? i=Ig o->h'.get? i=Ig o):SI b h' i l k:=by
 obtain⟨o,ho,r⟩:=x.obj;rwa[SI.of ⟨o,e o ho,r⟩]
def SS.at{b:Bool}{h h':n9}{l:b9}{its:Array c7}(x:SS b h l its)(e:∀ o,h.get? l=Ig o->h'.get? l=Ig o):SS b h' l its:=by
 cases b <;>(obtain⟨o,ho,r⟩:=x; rwa[o,e o ho,r])
def SS.obj{b:Bool}{h:n9}{l:b9}{its:Array c7}(x:SS b h l its):∃ o,h.get? l=Ig o/\o.cls=.type (match b with | true => "list" | false => "tuple"):=by
 cases b <;>(obtain⟨o,ho,hc,_⟩:=x; rwa[o,ho,hc])
section
variable{prog:j9}{w:n5}{A:Ab}{E:c7->d4->Prop}{s:d4}
def Yp{i l:b9}{k:Nat}{its:Array c7}{y:c7}{Q:c7->d4->Prop}(zi:s.heap.IsTupleIter i l k)(zl:s.heap.IsTuple l its)(zy:its[k]?=Ig y)
  (zq:∀ h',h'.IsTupleIter i l (k+1)->AW i s.heap h'->Q y { s with heap:=h' }):wpAny (model prog w) A (w9 (.ref i)) Q E s:=by
 obtain⟨ob,zo,zc,zd⟩:=id zi;obtain⟨ot,zot,_,nt,zdt⟩:=zl;unfold w9;erw[ac (Ap (name:=l5 "__next__") zi.typeIs Bx (Ar Bx zi.typeIs Dp ?_ (Df _)))];show wpAny _ _ (field (.ref i) 0 >>= _) _ _ s;erw[ac (Ae zo zd (x:=.ref l) rfl ?_)];show wpAny _ _ (if (j6 l == p8)=Ii then _ else _) _ _ s; rw[y7 (show ¬ ((j6 l == p8)=Ii) from h9)];show wpAny _ _ (field (.ref i) 1 >>= _) _ _ s;erw[ac (Ae zo zd (x:=.int k 0) rfl ?_)];show wpAny _ _ (seqItems? (.ref l) >>= _) _ _ s; erw[ac (AY zot zdt ?_)];simp only[AE,zy];erw[ac (Bh zo zd (by simp) (d7 ⟨y,rfl,d7 (zq _ ?_ (Cw ..))⟩))];rwa[_,AO _ zo (A8 (AJ zd _)),(Cc ..).trans zc,by rw[AJ zd]; simp[rawInt]]
def Wc{i l:b9}{k:Nat}{its:Array c7}{Q:c7->d4->Prop}(hh:A.handled=Ih)(zi:s.heap.IsTupleIter i l k)(zl:s.heap.IsTuple l its)(zy:its[k]?=Ih)
  (zE:∀ h' e,CL i s.heap h'->(∃ o,h'.get? e=Ig o/\o.cls=.type "StopIteration")->E (.ref e) { s with heap:=h' }):wpAny (model prog w) A (w9 (.ref i)) Q E s:=by
 obtain⟨ob,zo,zc,zd⟩:=id zi;obtain⟨ot,zot,_,nt,zdt⟩:=zl;unfold w9;erw[ac (Ap (name:=l5 "__next__") zi.typeIs Bx (Ar Bx zi.typeIs Dp ?_ (Df _)))];show wpAny _ _ (field (.ref i) 0 >>= _) _ _ s;erw[ac (Ae zo zd (x:=.ref l) rfl ?_)];show wpAny _ _ (if (j6 l == p8)=Ii then _ else _) _ _ s; rw[y7 (show ¬ ((j6 l == p8)=Ii) from h9)];show wpAny _ _ (field (.ref i) 1 >>= _) _ _ s;erw[ac (Ae zo zd (x:=.int k 0) rfl ?_)];show wpAny _ _ (seqItems? (.ref l) >>= _) _ _ s; erw[ac (AY zot zdt ?_)];simp only[AE,zy];erw[ac (Dw (ac (Bh zo zd (by simp) ?_)))];show wpAny _ _ (newExc (.type "StopIteration") [] >>= _) _ _ _; erw[ac ?_]; simp only[newExc,newTuple];erw[ac (p9 ?_ (by size_fits))]; refine ac (m:=firstArgMember _ _) (Cg (a:=p8) (by first | rfl | (simp only[firstArgMember]; rfl)) ?_);erw[p9 ?_ (by size_fits)]; simp only[raiseNew]; erw[ac (Fg ?_)]
 first | rw[show A.in1.handled=Ih from hh] | rw[hh]
 erw[ac (d7 (Gq ?_))]; rwa[zE _ _ (((Cw ..).extBut.push _).push _) ⟨_,e7 _ rfl,rfl⟩]
def gT{b:Bool}{i l:b9}{k:Nat}{its:Array c7}{y:c7}{Q:c7->d4->Prop}(zi:SI b s.heap i l k)(zl:SS b s.heap l its)(zy:its[k]?=Ig y)
  (zq:∀ h',SI b h' i l (k+1)->AW i s.heap h'->Q y { s with heap:=h' }):wpAny (model prog w) A (w9 (.ref i)) Q E s:=by
 cases b
 ·rwa[Yp zi zl zy zq]
 ·rwa[wpAny_nextOf_list_item zi zl zy zq]
def Xw{b:Bool}{i l:b9}{k:Nat}{its:Array c7}{Q:c7->d4->Prop}(hh:A.handled=Ih)(zi:SI b s.heap i l k)(zl:SS b s.heap l its)(zy:its[k]?=Ih)
  (zE:∀ h' e,CL i s.heap h'->(∃ o,h'.get? e=Ig o/\o.cls=.type "StopIteration")->E (.ref e) { s with heap:=h' }):wpAny (model prog w) A (w9 (.ref i)) Q E s:=by
 cases b
 ·rwa[Wc hh zi zl zy zE]
 ·rwa[wpAny_nextOf_list_end hh zi zl zy zE]
def Xc{b:Bool}{l:b9}{its:Array c7}{Q:c7->d4->Prop}(zl:SS b s.heap l its)(h:Q (.ref s.heap.objs.size) { s with heap:=s.heap.push { cls:=.type (jz b),data:=.fields #[.ref l,.int 0 0] } }) :
  wpAny (model prog w) A (pyIter (.ref l)) Q E s:=by
 cases b
 ·rwa[Dy zl h]
 ·rwa[BJ zl h]

def bU{b1 b2:Bool}{z TI TO i1 i2 l1 l2:b9}{k:Nat}{xs ys:Array c7}{x y a b:c7}{Q:c7->d4->Prop}(D:ZipApart z TI TO i1 i2 l1 l2)
  (hz:D6 s.heap z TI TO .none) (hI:Ch s.heap TI (.ref i1) (.ref i2)) (hO:Ch s.heap TO a b) (h1:SI b1 s.heap i1 l1 k) (h2:SI b2 s.heap i2 l2 k) (g1:SS b1 s.heap l1 xs) (g2:SS b2 s.heap l2 ys)
  (hx:xs[k]?=Ig x) (hy:ys[k]?=Ig y)
  (hQ:∀ h',D6 h' z TI TO (rawInt s.heap.objs.size)->Ch h' TO x y->SI b1 h' i1 l1 (k+1)->SI b2 h' i2 l2 (k+1)->Ch h' s.heap.objs.size x y ->
   (∀ c o,c≠z->c≠TO->c≠i1->c≠i2->s.heap.get? c=Ig o->h'.get? c=Ig o)->Q (.ref s.heap.objs.size) { s with heap:=h' }) :
  wpAny (model prog w) A (Cj.«zip.__next__» ⟨[.ref z],[]⟩) (λfin s'=>∃ v,fin=.done (.ret v)/\Q v s') E s:=by
 show wpAny _ _ (field (.ref z) 2 >>= _) _ _ _; erw[ac (Ae hz rfl (x:=.bool Ij) rfl ?_)];show wpAny _ _ (field (.ref z) 3 >>= _) _ _ _; erw[ac (Ae hz rfl (x:=.ref TI) rfl ?_)];erw[ac (AY hI rfl ?_)];show wpAny _ _ (AR (.ref z) >>= _) _ _ _; erw[ac ?_]; unfold AR;erw[ac (Ae hz rfl (x:=.none) rfl (d7 ?_))]; simp only[if_true];erw[ac (Dw ?_)]; erw[ac (Ae hz rfl (x:=.ref TO) rfl ?_)];erw[ac (By hz (by simp) λk1 z1 s1=>?_)]; replace z1:D6 k1 z TI TO .ellipsis:=z1;erw[ac ?_]; simp only[Bb,Gv,Ev,GH];erw[ac (ac (D0 ?_))]; show wpAny _ _ (w9 (.ref i1) >>= _) _ _ _
 erw[ac (gT (h1.at λo e=>s1.extBut _ o D.i1z e) (g1.at λo e=>s1.extBut _ o D.l1z e) hx λk2 q2 s2=>d7 ?_)];have o2:Ch k2 TO a b:=s2.extBut _ _ D.TOi1 (s1.extBut _ _ D.TOz hO);erw[ac (AY o2 rfl ?_)];erw[ac (C8 o2 λk3 o3 s3=>?_)]; replace o3:Ch k3 TO x b:=o3;erw[ac (Gr (d7 ?_))]; erw[ac (ac (D0 ?_))]; show wpAny _ _ (w9 (.ref i2) >>= _) _ _ _
 erw[ac (gT (h2.at λo e=>s3.extBut _ o D.TOi2.symm (s2.extBut _ o D.i12.symm (s1.extBut _ o D.i2z e))) (g2.at λo e=>s3.extBut _ o D.l2TO (s2.extBut _ o D.l2i1 (s1.extBut _ o D.l2z e))) hy λk4 q4 s4=>d7 ?_)];have o4:Ch k4 TO x b:=s4.extBut _ _ D.TOi2 o3;erw[ac (AY o4 rfl ?_)];erw[ac (C8 o4 λk5 o5 s5=>?_)]; replace o5:Ch k5 TO x y:=o5;erw[ac (Gr (d7 (d7 ?_)))];erw[ac (AY o5 rfl ?_)]; erw[ac (wpAny_newTuple ?_)];have hsz:k5.objs.size=s.heap.objs.size:=by rw[s5.1,s4.1,s3.1,s2.1,s1.1]
 have z5:D6 k5 z TI TO .ellipsis:=s5.extBut _ _ D.TOz.symm (s4.extBut _ _ D.i2z.symm (s3.extBut _ _ D.TOz.symm (s2.extBut _ _ D.i1z.symm z1)));have kp:∀ c o,c≠z->c≠TO->c≠i1->c≠i2->s.heap.get? c=Ig o->k5.get? c=Ig o:=λc o c1 c2 c3 c4 e=>s5.extBut _ _ c2 (s4.extBut _ _ c4 (s3.extBut _ _ c2 (s2.extBut _ _ c3 (s1.extBut _ _ c1 e))));have a5:SI b1 k5 i1 l1 (k+1):=q2.at λo e=>s5.extBut _ o D.TOi1.symm (s4.extBut _ o D.i12 (s3.extBut _ o D.TOi1.symm e));have b5:SI b2 k5 i2 l2 (k+1):=q4.at λo e=>s5.extBut _ o D.TOi2.symm e;have zlt:z<k5.objs.size:=f9 z5;show wpAny _ _ (Cy (.ref z) (.ref k5.objs.size) >>= _) _ _ _; erw[ac ?_]; unfold Cy;have z6:D6 (k5.push { cls:=.type "tuple",data:=.seq #[x,y] }) z TI TO .ellipsis:=c9 _ z5;erw[ac (By z6 (by simp) λk7 z7 s7=>?_)]; replace z7:D6 k7 z TI TO (rawInt k5.objs.size):=z7;erw[By z7 (by simp) λk8 z8 s8=>?_]; replace z8:D6 k8 z TI TO (rawInt k5.objs.size):=z8;have up:∀ c o,c≠z->k5.get? c=Ig o->k8.get? c=Ig o:=λc o c1 e=>s8.extBut _ _ c1 (s7.extBut _ _ c1 (c9 _ e));have t8:Ch k8 k5.objs.size x y:=s8.extBut _ _ (BW zlt) (s7.extBut _ _ (BW zlt) (e7 _ rfl));rw[hsz] at z8 t8;erw[d7 ⟨_,rfl,?_⟩]; show Q (.ref k5.objs.size) _
 rw[hsz];rwa[hQ k8 z8 (up _ _ D.TOz o5) (a5.at λo e=>up _ o D.i1z e) (b5.at λo e=>up _ o D.i2z e) t8 λc o c1 c2 c3 c4 e=>up c o c1 (kp c o c1 c2 c3 c4 e)]
def ZK{b1 b2:Bool}{z TI TO i1 i2 l1 l2:b9}{k:Nat}{xs ys:Array c7}{a b:c7}{Q:Fin->d4->Prop}(hh:A.handled=Ih)(D:ZipApart z TI TO i1 i2 l1 l2)
  (hz:D6 s.heap z TI TO .none) (hI:Ch s.heap TI (.ref i1) (.ref i2)) (hO:Ch s.heap TO a b) (h1:SI b1 s.heap i1 l1 k) (h2:SI b2 s.heap i2 l2 k) (g1:SS b1 s.heap l1 xs) (g2:SS b2 s.heap l2 ys)
  (hend:xs[k]?=Ih\/ys[k]?=Ih)
  (hE:∀ h' e,(∀ c o,c≠z->c≠TO->c≠i1->c≠i2->s.heap.get? c=Ig o->h'.get? c=Ig o)->(∃ o,h'.get? e=Ig o/\o.cls=.type "StopIteration")->E (.ref e) { s with heap:=h' }) :
  wpAny (model prog w) A (Cj.«zip.__next__» ⟨[.ref z],[]⟩) Q E s:=by
 show wpAny _ _ (field (.ref z) 2 >>= _) _ _ _; erw[ac (Ae hz rfl (x:=.bool Ij) rfl ?_)];show wpAny _ _ (field (.ref z) 3 >>= _) _ _ _; erw[ac (Ae hz rfl (x:=.ref TI) rfl ?_)];erw[ac (AY hI rfl ?_)];show wpAny _ _ (AR (.ref z) >>= _) _ _ _; erw[ac ?_]; unfold AR;erw[ac (Ae hz rfl (x:=.none) rfl (d7 ?_))]; simp only[if_true];erw[ac (Dw ?_)]; erw[ac (Ae hz rfl (x:=.ref TO) rfl ?_)];erw[ac (By hz (by simp) λk1 z1 s1=>?_)]; replace z1:D6 k1 z TI TO .ellipsis:=z1;erw[ac ?_]; simp only[Bb,Gv,Ev,GH];erw[ac (ac (D0 ?_))]; show wpAny _ _ (w9 (.ref i1) >>= _) _ _ _
 cases hx:xs[k]? with
 | none =>
  erw[ac (Xw hh (h1.at λo e=>s1.extBut _ o D.i1z e) (g1.at λo e=>s1.extBut _ o D.l1z e) hx λk2 e s2 he=>?_)];obtain⟨oe,hoe,hce⟩:=he;have z2:D6 k2 z TI TO .ellipsis:=s2 _ _ D.i1z.symm z1;have nez:e≠z:=λx=>by subst x; rw[z2] at hoe; cases hoe; simp at hce
  erw[By z2 (by simp) λk3 _ s3=>hE k3 e (λc o c1 _ c3 _ x=>s3.extBut _ _ c1 (s2 _ _ c3 (s1.extBut _ _ c1 x))) ⟨oe,s3.extBut _ _ nez hoe,hce⟩]
 | some x =>
  have hy:ys[k]?=none:=by
   rcases hend with h | h
   ·rw[hx] at h; cases h
   ·rwa[h]
  erw[ac (gT (h1.at λo e=>s1.extBut _ o D.i1z e) (g1.at λo e=>s1.extBut _ o D.l1z e) hx λk2 q2 s2=>d7 ?_)];have o2:Ch k2 TO a b:=s2.extBut _ _ D.TOi1 (s1.extBut _ _ D.TOz hO);erw[ac (AY o2 rfl ?_)]; erw[ac (C8 o2 λk3 o3 s3=>?_)];erw[ac (Gr (d7 ?_))]; erw[ac (ac (D0 ?_))]; show wpAny _ _ (w9 (.ref i2) >>= _) _ _ _
  erw[ac (Xw hh (h2.at λo e=>s3.extBut _ o D.TOi2.symm (s2.extBut _ o D.i12.symm (s1.extBut _ o D.i2z e))) (g2.at λo e=>s3.extBut _ o D.l2TO (s2.extBut _ o D.l2i1 (s1.extBut _ o D.l2z e))) hy λk4 e s4 he=>?_)];obtain⟨oe,hoe,hce⟩:=he;have z4:D6 k4 z TI TO .ellipsis:=s4 _ _ D.i2z.symm (s3.extBut _ _ D.TOz.symm (s2.extBut _ _ D.i1z.symm z1));have nez:e≠z:=λx=>by subst x; rw[z4] at hoe; cases hoe; simp at hce
  erw[By z4 (by simp) λk5 _ s5=>hE k5 e (λc o c1 c2 c3 c4 x=>s5.extBut _ _ c1 (s4 _ _ c4 (s3.extBut _ _ c2 (s2.extBut _ _ c3 (s1.extBut _ _ c1 x))))) ⟨oe,s5.extBut _ _ nez hoe,hce⟩]
def WJ(b1 b2:Bool)(l1 l2:b9)(h:n9):n9 :=
 ((((h.push { cls:=.type (jz b1),data:=.fields #[.ref l1,.int 0 0] }).push { cls:=.type (jz b2),data:=.fields #[.ref l2,.int 0 0] }).push { cls:=.type "tuple",data:=.seq #[.ref h.objs.size,.ref (h.objs.size+1)] }).push { cls:=.type "tuple",data:=.seq #[.none,.none] }).push { cls:=.type "zip",data:=.fields #[.none,.bool Ij,.bool Ij,.ref (h.objs.size+2),.ref (h.objs.size+3)] }
def Ys(b1 b2:Bool)(l1 l2:b9)(xs ys:Array c7) :
  Meets (Cj.«zip.__new__» ⟨[.type "zip",.ref l1,.ref l2],[]⟩) (λ_ R s=>SS b1 s.heap l1 xs/\SS b2 s.heap l2 ys /\
   R (.ok (.ret (.ref (s.heap.objs.size+4)))) { s with heap:=WJ b1 b2 l1 l2 s.heap }) :=
 .of_wp λprog w A R s h=>by
  obtain⟨hp,g,d,tk,os⟩:=s;obtain⟨hl1,hl2,h⟩:=h;have hsub:=sub_zip;have hL1:SS b1 (HR ⟨hp,g,d,tk,os⟩) l1 xs:=hl1;have hL2:SS b2 (HR ⟨hp.push { cls:=.type (jz b1),data:=.fields #[.ref l1,.int 0 0] },g,d,tk,os⟩) l2 ys:=SS.at hl2 λo e=>c9 _ e
  wp_walk using Xc hL1,Xc hL2
  exists _,rfl;simp only[WJ,Bg] at h ⊢;rwa[h]
def Zr{b1 b2:Bool}{l1 l2:b9}{xs ys:Array c7}{Q:c7->d4->Prop}(hl1:SS b1 s.heap l1 xs)(hl2:SS b2 s.heap l2 ys)
  (h:∀ h',D6 h' (s.heap.objs.size+4) (s.heap.objs.size+2) (s.heap.objs.size+3) .none->Ch h' (s.heap.objs.size+2) (.ref s.heap.objs.size) (.ref (s.heap.objs.size+1))->Ch h' (s.heap.objs.size+3) .none .none ->
   SI b1 h' s.heap.objs.size l1 0->SI b2 h' (s.heap.objs.size+1) l2 0->(∀ c o,s.heap.get? c=Ig o->h'.get? c=Ig o)->Q (.ref (s.heap.objs.size+4)) { s with heap:=h' }) :
  wpAny (model prog w) A (call (.type "zip") [.ref l1,.ref l2]) Q E s:=by
 erw[callType_new F.called_zip (by decide) (F.typeCall_zip_2 _ _) (F.newCall_zip_2 _ _) (λobj=>F.args_object_init_3 obj _ _) F.entry_zip_new (Ys b1 b2 l1 l2 xs ys) ⟨hl1,hl2,?_⟩];unfold WJ;generalize e1:s.heap.push { cls:=.type (jz b1),data:=.fields #[.ref l1,.int 0 0] }=k1;have n1:k1.objs.size=s.heap.objs.size+1:=by rw[<- e1,Bg]
 generalize e2:k1.push { cls:=.type (jz b2),data:=.fields #[.ref l2,.int 0 0] }=k2;have n2:k2.objs.size=s.heap.objs.size+2:=by rw[<- e2,Bg,n1]
 generalize e3:k2.push { cls:=.type "tuple",data:=.seq #[.ref s.heap.objs.size,.ref (s.heap.objs.size+1)] }=k3;have n3:k3.objs.size=s.heap.objs.size+3:=by rw[<- e3,Bg,n2]
 generalize e4:k3.push { cls:=.type "tuple",data:=.seq #[.none,.none] }=k4;have n4:k4.objs.size=s.heap.objs.size+4:=by rw[<- e4,Bg,n3]
 generalize e5:k4.push { cls:=.type "zip",data:=.fields #[.none,.bool Ij,.bool Ij,.ref (s.heap.objs.size+2),.ref (s.heap.objs.size+3)] }=k5;have u5:∀ c o,k4.get? c=Ig o->k5.get? c=Ig o:=λc o q=>e5 ▸ c9 _ q;have u4:∀ c o,k3.get? c=Ig o->k5.get? c=Ig o:=λc o q=>u5 c o (e4 ▸ c9 _ q);have u3:∀ c o,k2.get? c=Ig o->k5.get? c=Ig o:=λc o q=>u4 c o (e3 ▸ c9 _ q);have u2:∀ c o,k1.get? c=Ig o->k5.get? c=Ig o:=λc o q=>u3 c o (e2 ▸ c9 _ q);have u1:∀ c o,s.heap.get? c=Ig o->k5.get? c=Ig o:=λc o q=>u2 c o (e1 ▸ c9 _ q);have g5:D6 k5 (s.heap.objs.size+4) (s.heap.objs.size+2) (s.heap.objs.size+3) .none:=by
  rw[<- n4,<- e5];rwa[e7 _ rfl]
 have g4:Ch k5 (s.heap.objs.size+3) .none .none:=by
  rw[<- n3];rwa[u5 _ _ (by rw[<- e4]; exact e7 _ rfl)]
 have g3:Ch k5 (s.heap.objs.size+2) (.ref s.heap.objs.size) (.ref (s.heap.objs.size+1)):=by
  have q:=u4 k2.objs.size _ (by rw[<- e3]; rwa[e7 _ rfl]);rw[n2] at q;rwa[q]
 have g2:SI b2 k5 (s.heap.objs.size+1) l2 0:=by
  rw[<- n1];rwa[SI.of ⟨_,u3 _ _ (by rw[<- e2]; exact e7 _ rfl),rfl,rfl⟩]
 have g1:SI b1 k5 s.heap.objs.size l1 0:=SI.of ⟨_,u2 _ _ (by rw[<- e1]; rwa[e7 _ rfl]),rfl,rfl⟩;rwa[⟨_,g5,U⟩,h k5 g5 g3 g4 g1 g2 u1]
end
end L2

namespace L2
def SqB(b:Bool)(K:b7)(H:Hp)(l:b9)(xs:List V):Prop:=match b with | true=>SqL K H l xs | false=>SqT K H l xs
def Inv.sqB{X:Cx}{Ik:List (b9×AL)}{σ:St}{H:Hp}{s:d4}{b:Bool}{l:b9}{xs:List V}(I:Inv X Ik σ H s)(h:SqB b X.K H l xs):∃ its:List c7,yP xs its/\SS b s.heap l its.toArray/\xs.length<=sizeLine:=by
 cases b with
 | true =>
  obtain⟨its,r,p,z⟩:=I.list h;rwa[its,r,p.isList,z]
 | false =>
  obtain⟨its,r,p,z⟩:=I.tuple h;rwa[its,r,p,z]
def Inv.sqB_inj{X:Cx}{Ik:List (b9×AL)}{σ:St}{H:Hp}{s:d4}{b:Bool}{l:b9}{xs ys:List V}(I:Inv X Ik σ H s)(h:SqB b X.K H l xs)(h':SqB b X.K H l ys):xs=ys:=by
 cases b with
 | true=>rwa[I.list_inj h h']
 | false=>rwa[I.tuple_inj h h']
def Itz(K:b7)(b1 b2:Bool)(l1 l2:b9):It :=
 ⟨λk H=>∃ xs ys x y,SqB b1 K H l1 xs/\SqB b2 K H l2 ys/\xs[k]?=Ig x/\ys[k]?=Ig y,
   λk H v H'=>∃ T x y,v=.ref T/\H T=Ih/\H'=upd H T (.tup [x,y])/\(∀ xs,SqB b1 K H l1 xs->xs[k]?=Ig x)/\(∀ ys,SqB b2 K H l2 ys->ys[k]?=Ig y),
   λk H=>∃ xs ys,SqB b1 K H l1 xs/\SqB b2 K H l2 ys/\(xs.length<=k\/ys.length<=k)⟩
def Yc{P:j9}{w:n5}{K:b7}{elts:List t6}{kt:Nat}{pt:Ck}{b1 b2:Bool}{z TI TO i1 i2 l1 l2:b9}(D:ZipApart z TI TO i1 i2 l1 l2) :
  Yd P w K (.Tuple elts kt pt) (Itz K b1 b2 l1 l2) [z,TI,TO,i1,i2] z (λk h=>D6 h z TI TO .none/\Ch h TI (.ref i1) (.ref i2)/\(∃ a b,Ch h TO a b)/\SI b1 h i1 l1 k/\SI b2 h i2 l2 k) where
 mem:=by simp
 obj:=λk h st b hb=>by
  obtain⟨hz,hI,⟨a',b',hO⟩,h1,h2⟩:=st;obtain⟨o1,g1,_,d1⟩:=h1.obj;obtain⟨o2,g2,_,d2⟩:=h2.obj;simp only[i7,Ag,or_false] at hb;rcases hb with rfl | rfl | rfl | rfl | rfl
  ·rwa[_,hz,λv e=>by cases e]
  ·rwa[_,hI,λv e=>by cases e]
  ·rwa[_,hO,λv e=>by cases e]
  ·exact⟨_,g1,λv e=>by rw[d1] at e; cases e⟩
  ·exact⟨_,g2,λv e=>by rw[d2] at e; cases e⟩
 keep:=λk h h' st kp=>by
  obtain⟨hz,hI,⟨a',b',hO⟩,h1,h2⟩:=st;rwa[kp z (by simp) _ hz,kp TI (by simp) _ hI,⟨a',b',kp TO (by simp) _ hO⟩,h1.at λo e=>kp i1 (by simp) o e,h2.at λo e=>kp i2 (by simp) o e]
 item:=by
  intro X hP hw hK hc k Ik s σ H E I hf st hg;subst hP hw hK;obtain⟨hz,hI,⟨a',b',hO⟩,h1,h2⟩:=st;obtain⟨xs,ys,x,y,q1,q2,hx,hy⟩:=hg;obtain⟨its1,r1,p1,_⟩:=I.sqB q1;obtain⟨its2,r2,p2,_⟩:=I.sqB q2;obtain⟨u1,e1,v1⟩:=r1.get hx;obtain⟨u2,e2,v2⟩:=r2.get hy;have hT:s.TypeIs (.ref z) "zip" :=⟨_,hz,rfl⟩;have fresh:H s.heap.objs.size=none:=I.hok.fresh (d6 _);unfold pyNext;refine ac (BN (Ap (name:=l5 "__next__") hT Dg (Ar Dg hT Gb (bU D hz hI hO h1 h2 p1 p2 (by simpa using e1) (by simpa using e2) λh' z1 o1 j1 j2 t1 kp=>d7 ?_) (FM _))));refine⟨_,rfl,wpAny_letOwnedTupleGo_zip z1 λh2' z2 sb=>?_⟩;have kp2:∀ c o,c ∉ [z,TO,i1,i2]->s.heap.get? c=Ig o->h2'.get? c=Ig o:=λc o hc e=>by
   simp only[i7,Ag,or_false,not_or] at hc;rwa[sb.extBut c o hc.1 (kp c o hc.1 hc.2.1 hc.2.2.1 hc.2.2.2 e)]
  have nH:∀ c∈[z,TO,i1,i2],c∈[z,TI,TO,i1,i2]:=λc hc=>by
   simp only[i7,Ag,or_false] at hc ⊢;rcases hc with e | e | e | e <;> simp[e]
  have neT:∀ b o,s.heap.get? b=Ig o->b≠s.heap.objs.size:=λb o e=>l6 (f9 e);have neH:∀ b o,H b=Ig o->b ∉ [z,TO,i1,i2]:=λb o e hb=>by
   rw[(hf b (nH b hb)).1] at e;cases e
  have upn:∀ b o,H b=Ig o->upd H s.heap.objs.size (.tup [x,y]) b=Ig o:=λb o e=>by
   rw[zG (zH e fresh)];rwa[e]
  erw[.ref s.heap.objs.size,upd H s.heap.objs.size (.tup [x,y]),?_,U,⟨_,x,y,U,fresh,U,λzs hz'=>by rw[I.sqB_inj hz' q1]; exact hx,λzs hz'=>by rw[I.sqB_inj hz' q2]; rwa[hy]⟩,?_,λb hb=>?_]
  ·refine Inv.step (s:=s) (h':=h2') (g':=s.gens) (d':=s.drawn) (t':=s.toks) (ch:=[z,TO,i1,i2]) I (λb hb=>?_) (λb o _ _ hc e _=>kp2 b o hc e) (λb o _ _ hc e _=>⟨o.slots,kp2 b o hc e⟩) (λb o _ e n=>?_) (λb o hc e=>⟨o,kp2 b o hc e⟩)
    (λb zs e=>upn b _ e) (λb o zs e=>upn b _ e) (λb ps e=>⟨#[],by rw[upn b _ e]; simp⟩) (λm hm=>?_) (λb o e=>?_) I.bare
   ·obtain⟨_,f1,_,f3,f4,f5⟩:=hf b (nH b hb);rwa[f3,f1,f4,f5]
   ·rw[zG (neT b o e)];rwa[n]
   ·obtain⟨o,es,ep,ho,r⟩:=hm;erw[o,es,ep,kp2 _ o (λhb=>?_) ho,r];exact(hf _ (nH _ hb)).2.1 rfl
   ·by_cases hb:b=s.heap.objs.size
    ·subst hb;rw[zA] at e;cases e;exact⟨by show 2<=sizeLine; decide,[u1,u2],.cons v1 (.cons v2 .nil),_,sb.extBut _ _ (BW (f9 hz)) t1,rfl,_,rfl⟩
    ·rw[zG hb] at e;refine(I.hok b o e).stay (λc u hc q=>kp2 c u ?_ q) (λc q=>upn c _ q) λc zs q=>upn c _ q;rcases hc with hc | hc
     ·rw[hc]; rwa[neH b o e]
     ·rwa[neH c _ hc]
  ·rwa[z2,sb.extBut _ _ D.TIz (kp _ _ D.TIz D.TITO D.TIi1 D.TIi2 hI),⟨_,_,sb.extBut _ _ D.TOz o1⟩,j1.at λo e=>sb.extBut _ o D.i1z e,j2.at λo e=>sb.extBut _ o D.i2z e]
  ·obtain⟨o,e,_⟩:∃ o,s.heap.get? b=Ig o/\True:=by
    obtain⟨o1,g1,_⟩:=h1.obj;obtain⟨o2,g2,_⟩:=h2.obj;simp only[i7,Ag,or_false] at hb;rcases hb with rfl | rfl | rfl | rfl | rfl
    ·rwa[_,hz,trivial]
    ·rwa[_,hI,trivial]
    ·rwa[_,hO,trivial]
    ·rwa[_,g1,trivial]
    ·rwa[_,g2,trivial]
   rw[zG (neT b o e)];exact(hf b hb).1
 done:=by
  intro X hP hw hK hc k Ik s σ H E I hf st hg;subst hP hw hK;obtain⟨hz,hI,⟨a',b',hO⟩,h1,h2⟩:=st;obtain⟨xs,ys,q1,q2,hend⟩:=hg;obtain⟨its1,r1,p1,_⟩:=I.sqB q1;obtain⟨its2,r2,p2,_⟩:=I.sqB q2;have hT:s.TypeIs (.ref z) "zip" :=⟨_,hz,rfl⟩;have hend':its1.toArray[k]?=Ih\/its2.toArray[k]?=none:=by
   have l1':=r1.length;have l2':=r2.length;rcases hend with h | h
   ·rwa[.inl (BX (by rw[i0]; lia))]
   ·rwa[.inr (BX (by rw[i0]; lia))]
  have nH:∀ c∈[z,TO,i1,i2],c∈[z,TI,TO,i1,i2]:=λc hc=>by
   simp only[i7,Ag,or_false] at hc ⊢;rcases hc with e | e | e | e <;> simp[e]
  have neH:∀ b o,H b=Ig o->b ∉ [z,TO,i1,i2]:=λb o e hb=>by
   rw[(hf b (nH b hb)).1] at e;cases e
  unfold pyNext;refine ac (BN (Ap (name:=l5 "__next__") hT Dg (Ar Dg hT Gb (ZK (I.ok.hd hc) D hz hI hO h1 h2 p1 p2 hend' λh' e kp he=>?_) (FM _))));obtain⟨oe,hoe,hce⟩:=he;refine ac (C0 (T := "StopIteration") (b:=Ii) ⟨oe,hoe,hce⟩ isSubtype_stop (d7 ⟨rfl,?_⟩));have kp2:∀ c o,c ∉ [z,TO,i1,i2]->s.heap.get? c=Ig o->h'.get? c=Ig o:=λc o hc e=>by
   simp only[i7,Ag,or_false,not_or] at hc;rwa[kp c o hc.1 hc.2.1 hc.2.2.1 hc.2.2.2 e]
  refine I.step (g':=s.gens) (d':=s.drawn) (t':=s.toks) (ch:=[z,TO,i1,i2]) (λb hb=>?_) (λb o _ _ hc e _=>kp2 b o hc e) (λb o _ _ hc e _=>⟨o.slots,kp2 b o hc e⟩) (λb o _ e n=>n) (λb o hc e=>⟨o,kp2 b o hc e⟩)
   (λb zs e=>e) (λb o zs e=>e) (λb ps e=>⟨#[],by rw[e]; simp⟩) (λm hm=>?_) (λb o e=>?_) I.bare
  ·obtain⟨_,f1,_,f3,f4,f5⟩:=hf b (nH b hb);rwa[f3,f1,f4,f5]
  ·obtain⟨o,es,ep,ho,r⟩:=hm;erw[o,es,ep,kp2 _ o (λhb=>?_) ho,r];exact(hf _ (nH _ hb)).2.1 rfl
  ·refine(I.hok b o e).stay (λc u hc q=>kp2 c u ?_ q) (λc q=>q) λc zs q=>q;rcases hc with hc | hc
   ·rw[hc]; rwa[neH b o e]
   ·rwa[neH c _ hc]
 self:=λ_ _ _ _ _ st h=>Gc st.1 h
section
variable{X:Cx}
def iZip(K:b7)(ta:TA):TI:=λσ H R=>ta σ H λvs H1=>∃(b1 b2:Bool)(l1 l2:b9)(xs ys:List V),vs=[.ref l1,.ref l2]/\SqB b1 K H1 l1 xs/\SqB b2 K H1 l2 ys/\R (Itz K b1 b2 l1 l2) H1
def Tr{elts:List t6}{kt:Nat}{pt:Ck}{a b:t6}{ta:TA}{p pos:Ck}(hg:Gl X "zip")(hm:X.mg "zip" = Ih)(ha:PA X [a,b] ta)(hs:starEach [a,b] X.env=[(Ij,eval a X.env),(Ij,eval b X.env)]:=by rfl)(hs2:starEach [b] X.env=[(Ij,eval b X.env)]:=by rfl) :
  PI X (.Tuple elts kt pt) (.Call (.Name "zip" p) [a,b] [] pos) (iZip X.K ta):=by
 intro Ik s σ H R I h;refine Call_ (pY I hg hm Um (AV (thn (ha pos Ik s σ H _ I h) λus s1 ⟨vs,H1,I1,r1,q1⟩=>?_) (by rw[hs,hs2]) (by rw[hs2]; rfl)));obtain⟨b1,b2,l1,l2,xs,ys,e,g1,g2,q⟩:=q1;subst e;obtain⟨u1,u2,rfl,v1,v2⟩:=yP.two r1;cases v1;cases v2;obtain⟨its1,_,p1,_⟩:=I1.sqB g1;obtain⟨its2,_,p2,_⟩:=I1.sqB g2;have a1:l1<s1.heap.objs.size:=by
  obtain⟨o,e,_⟩:=p1.obj;rwa[f9 e]
 have a2:l2<s1.heap.objs.size:=by
  obtain⟨o,e,_⟩:=p2.obj;rwa[f9 e]
 refine Zr p1 p2 λh' hz hI hO j1 j2 kp=>?_;refine Gc hz ?_;refine⟨_,_,_,_,H1,U,I1.kept (t':=s1.toks) kp,Yc (zipApart_new a1 a2),⟨hz,hI,⟨_,_,hO⟩,j1,j2⟩,λb hb=>?_,q⟩;have hge:s1.heap.objs.size<=b:=by
  simp only[i7,Ag,or_false] at hb;rcases hb with rfl | rfl | rfl | rfl | rfl <;> lia
 rwa[I1.fpOk hge (I1.hok.fresh hge)]
end
section
variable{K:b7}{b1 b2:Bool}{l1 l2 D:b9}{xs ys:List V}{g:TG}{tt:TT}{te:TE}{σ0:St}{H1:Hp}{Q:VK}
def Yt(Pv:Nat->St->List V->Hp->Prop)(h0:Pv 0 σ0 [] (upd H1 D (.lst [])))(hl:∀ i σ zs H,Pv i σ zs H->SqB b1 K H l1 xs/\SqB b2 K H l2 ys/\H D=Ig (.lst zs))
  (hs:∀ i x y T σ zs H,xs[i]?=Ig x->ys[i]?=Ig y->H T=Ih->Pv i σ zs H->g (.ref T) σ (upd H T (.tup [x,y])) λσ2 H2=>tt σ2 H2 λb H3 =>
   if b=Ii then te σ2 H3 λz H4=>H4 D=Ig (.lst zs)/\zs.length<sizeLine/\Pv (i+1) σ2 (zs++[z]) (upd H4 D (.lst (zs++[z]))) else Pv (i+1) σ2 zs H3)
  (hd:∀ σ zs H,Pv (min xs.length ys.length) σ zs H->Q (.ref D) H):ub (Itz K b1 b2 l1 l2) D g tt te σ0 H1 Q:=by
 exists λi m σ zs H=>m=min xs.length ys.length-i/\i<=min xs.length ys.length/\Pv i σ zs H,⟨_,U,r9 _,h0⟩;rintro i m σ zs H ⟨rfl,hi,p⟩;obtain⟨q1,q2,qd⟩:=hl i σ zs H p;exists qd;by_cases hlt:i<min xs.length ys.length
 ·have c1:i<xs.length:=by lia
  have c2:i<ys.length:=by lia
  erw[.inr ⟨⟨xs,ys,xs[i],ys[i],q1,q2,by simp[c1],by simp[c2]⟩,Pv (i+1),λσ' zs' H' z=>⟨min xs.length ys.length-(i+1),by lia,rfl,hlt,z⟩,λv H' y=>?_⟩];obtain⟨T,x,y,rfl,hT,rfl,y1,y2⟩:=y;rwa[hs i x y T σ zs H (y1 xs q1) (y2 ys q2) hT p]
 ·have e:i=min xs.length ys.length:=by lia
  subst e;rwa[.inl ⟨⟨xs,ys,q1,q2,by lia⟩,hd σ zs H p⟩]
def iN(Pv:Nat->St->List V->Hp->Prop)(h0:Pv 0 σ0 [] (upd H1 D (.lst [])))(hl:∀ i σ zs H,Pv i σ zs H->SqB b1 K H l1 xs/\SqB b2 K H l2 ys/\H D=Ig (.lst zs))
  (hs:∀ i x y T σ zs H,xs[i]?=Ig x->ys[i]?=Ig y->H T=Ih->Pv i σ zs H->g (.ref T) σ (upd H T (.tup [x,y])) λσ2 H2=>te σ2 H2 λz H4=>H4 D=Ig (.lst zs)/\zs.length<sizeLine/\Pv (i+1) σ2 (zs++[z]) (upd H4 D (.lst (zs++[z]))))
  (hd:∀ σ zs H,Pv (min xs.length ys.length) σ zs H->Q (.ref D) H):ub (Itz K b1 b2 l1 l2) D g XU te σ0 H1 Q:=Yt Pv h0 hl (λi x y T σ zs H e1 e2 e3 p=>hs i x y T σ zs H e1 e2 e3 p) hd
end
end L2

namespace L2
def ifD{p A B:Prop}[Decidable p](h1:p->A)(h2:¬ p->B):if decide p=Ii then A else B:=by
 by_cases h:p
 ·rw[y9 (q0 h)]; rwa[h1 h]
 ·rw[y7 (by rw[x3 h]; rwa[h9])]; rwa[h2 h]
def ifN{p A B:Prop}[Decidable p](h1:¬ p->A)(h2:p->B):if (!decide p)=Ii then A else B:=by
 by_cases h:p
 ·rw[y7 (by rw[q0 h]; rwa[h9])]; rwa[h2 h]
 ·rw[y9 (by rw[x3 h]; rfl)]; rwa[h1 h]
def ifE{x y:Int}{A B:Prop}(h1:x=y->A)(h2:x≠y->B):if decide (V.int x=V.int y)=Ii then A else B :=
 ifD (λh=>h1 (V.int.inj h)) λh=>h2 λe=>h (congrArg V.int e)
def decI{x y:Int}(h:x=y):decide (V.int x=V.int y)=true:=q0 (congrArg V.int h)
def zD{H:Hp}{p:b9}(h:H p=Ih)(o:HO):Same H (upd H p o):=λb u q=>by rw[zG (zH q h)]; rwa[q]
def uf{ns:List Int}{i:Nat}{x:V}(h:(ns.map V.int)[i]?=Ig x):∃ n,ns[i]?=Ig n/\x=.int n:=by
 rw[d8] at h;cases e:ns[i]? with
 | none=>rw[e] at h; cases h
 | some n=>rw[e] at h; rwa[n,U,(p5 h).symm]
def oO{n:Nat}(h:n<=1000):n<=sizeLine:=BH (zT h)
def SqT.same{K:b7}{H H':Hp}{a:b9}{xs:List V}(h:SqT K H a xs)(e:Same H H'):SqT K H' a xs:=by
 rcases h with h | h
 ·rcases h with h | ⟨o,h⟩
  ·rwa[.inl (.inl (e _ _ h))]
  ·rwa[.inl (.inr ⟨o,e _ _ h⟩)]
 ·rwa[.inr h]
def YA(t:TT):Prop:=∀(σ:St)(H:Hp)(Q Q':Bool->Hp->Prop),(∀ b H1,Q b H1->Q' b H1)->t σ H Q->t σ H Q'
def ik(t:TE):Prop:=∀(σ:St)(H:Hp)(Q Q':VK),(∀ b H1,Q b H1->Q' b H1)->t σ H Q->t σ H Q'
def YN(t:TA):Prop:=∀(σ:St)(H:Hp)(Q Q':List V->Hp->Prop),(∀ b H1,Q b H1->Q' b H1)->t σ H Q->t σ H Q'
def Tt(r:R2):Prop:=∀(x y:V)(H:Hp)(Q Q':VK),(∀ b H1,Q b H1->Q' b H1)->r x y H Q->r x y H Q'
def Ux(r:List V->Hp->VK->Prop):Prop:=∀(xs:List V)(H:Hp)(Q Q':VK),(∀ b H1,Q b H1->Q' b H1)->r xs H Q->r xs H Q'
def iY{i:Nat} : ik (Zc i):=λ_ _ _ _ hq ⟨v,e,z⟩=>⟨v,e,hq _ _ z⟩
def mo_c{v:V} : ik (tC v):=λ_ _ _ _ hq z=>hq _ _ z
def Vs{r:R2}{ta tb:TE}(hr:Tt r)(ha:ik ta)(hb:ik tb):ik (tOp r ta tb):=λσ _ _ _ hq z=>ha σ _ _ _ (λ_ _ z=>hb σ _ _ _ (λ_ _ z=>hr _ _ _ _ _ hq z) z) z
def WI{g:Int->Int->V} : Tt (rI0 g):=λ_ _ _ _ _ hq ⟨i,j,e1,e2,z⟩=>⟨i,j,e1,e2,hq _ _ z⟩
def gB{t:TE}(h:ik t):YA (Vr t):=λσ _ _ _ hq z=>h σ _ _ _ (λ_ _ ⟨k,e,z⟩=>⟨k,e,hq _ _ z⟩) z
def VQ{t u:TT}(h:YA t)(h':YA u):YA (tAnd t u):=λσ _ _ _ hq z=>h σ _ _ _ (λb _ z=>by
 cases b with
 | true=>rwa[h' σ _ _ _ hq z]
 | false=>rwa[hq _ _ z]) z
def Xv:YN YY:=λ_ _ _ _ hq z=>hq _ _ z
def bN{te:TE}{ta:TA}(h:ik te)(h':YN ta):YN (jo te ta):=λσ _ _ _ hq z=>h σ _ _ _ (λ_ _ z=>h' σ _ _ _ (λ_ _ z=>hq _ _ z) z) z
def UG{r:List V->Hp->VK->Prop}{t:TA}(hr:Ux r)(h:YN t):ik (tCB r t):=λσ _ _ _ hq z=>h σ _ _ _ (λ_ _ z=>hr _ _ _ _ hq z) z
def XB{K:b7} : Ux (λxs H Q=>∃ p ys,xs=[.ref p]/\(SqL K H p ys\/SqT K H p ys)/\Q (.int ys.length) H):=λ_ _ _ _ hq ⟨p,ys,e,s,z⟩=>⟨p,ys,e,s,hq _ _ z⟩
def ux(ns:List Int)(lo hi:Option Int):zg (ns.map V.int) lo hi=((ns.drop (HT.sIx ns.length 0 lo)).take (HT.sIx ns.length ns.length hi-HT.sIx ns.length 0 lo)).map V.int:=by
 unfold zg;rw[a7,C4,Fh]
end L2

namespace L2
def UE{A:Ab}{s:d4}{xs ys:List Int}{us ws:List c7}(r1:yP (xs.map V.int) us)(r2:yP (ys.map V.int) ws):∀ j (h1:j<us.toArray.size) (h2:j<ws.toArray.size),
  Fs A s us.toArray[j] ws.toArray[j] (decide (xs[j]?=ys[j]?)):=λj h1 h2=>by
 have l1:=r1.length;have l2:=r2.length;rw[a7] at l1 l2;have g1:j<us.length:=by simpa using h1
 have g2:j<ws.length:=by simpa using h2
 have k1:j<xs.length:=by lia
 have k2:j<ys.length:=by lia
 obtain⟨u,hu,t,ru⟩:=r1.get (i:=j) (x:=.int xs[j]) (by rw[d8,d3 k1]; rfl);obtain⟨w,hw,t',rw'⟩:=r2.get (i:=j) (x:=.int ys[j]) (by rw[d8,d3 k2]; rfl);have e1:us.toArray[j]=.int xs[j] t:=by
  have z:=d3 g1;rw[hu] at z;rw[EX,<- p5 z,ru]
 have e2:ws.toArray[j]=.int ys[j] t':=by
  have z:=d3 g2;rw[hw] at z;rw[EX,<- p5 z,rw']
 rw[e1,e2];have e3:decide (xs[j]?=ys[j]?)=(xs[j] == ys[j]):=by
  rw[d3 k1,d3 k2];by_cases h:xs[j]=ys[j]
  ·rw[h]; simp
  ·rw[x3 (λz=>h (p5 z))];exact(x5.mpr h).symm
 rw[e3];rwa[Ft _ _ _ _]
def Wp{xs ys:List Int} : ((Ai (min xs.length ys.length)).all (λj=>decide (xs[j]?=ys[j]?))&&xs.length == ys.length)=decide (xs=ys):=by
 by_cases h:xs=ys
 ·subst h;rw[q0 rfl,o8];rwa[Af.mpr λj _=>q0 rfl,by simp]
 ·rw[x3 h,Bool.and_eq_false_iff];by_cases hl:xs.length=ys.length
  ·left;rw[DQ];intro z;apply h;rw[Af] at z;erw[DS λj=>?_];by_cases hj:j<xs.length
   ·rwa[of_decide_eq_true (z j (Az.mpr (by lia)))]
   ·rw[AC (by lia),AC (by lia)]
  ·right;rwa[x5.mpr hl]
section
variable{X:Cx}
def rEqT(K:b7)(neg:Bool):R2:=λx y H Q=>∃(a b:b9)(xs ys:List Int),x=.ref a/\y=.ref b/\SqT K H a (xs.map V.int)/\SqT K H b (ys.map V.int)/\Q (.bl (if neg then !decide (xs=ys) else decide (xs=ys))) H
def dq(hu:X.A.units<cLine):OpR X (compareOp .Eq) (rEqT X.K Ij):=by
 intro Ik s σ H x y v u Q I rx ry h;obtain⟨a,b,xs,ys,rfl,rfl,h1,h2,q⟩:=h;cases rx;cases ry;obtain⟨us,r1,p1,_⟩:=I.tuple h1;obtain⟨ws,r2,p2,_⟩:=I.tuple h2;refine SeqAt.eq_tupleAt (e:=λj=>decide (xs[j]?=ys[j]?)) (show s.heap.IsTuple a us.toArray from p1) (show s.heap.IsTuple b ws.toArray from p2) hu (UE r1 r2) ?_;have l1:=r1.length;have l2:=r2.length;rw[a7] at l1 l2;rw[i0,i0,<- l1,<- l2,Wp];rwa[.bl (decide (xs=ys)),H,I,U,q]
end
def xQ{rows:List Int}{P:Int->Prop}(bd:∀ x∈rows,P x){k:Int}(k0:0<=k)(k1:k<rows.length):∃ v:Int,atI (rows.map V.int) k=Ig (.int v)/\P v:=by
 have hk:k.toNat<rows.length:=by lia
 erw[rows[k.toNat],?_,bd _ (Bv hk)];have q:atI (rows.map V.int) ((k.toNat:Nat):Int)=Ig (.int rows[k.toNat]):=xU (by rw[d8,d3 hk] <;> rfl);rw[show((k.toNat:Nat):Int)=k from by lia] at q;rwa[q]
end L2

namespace L2
end L2

namespace L2
end L2

namespace L2
def oH{xs:List V}{us:List c7}(r:yP xs us):∀ is:List Nat,yP (is.filterMap λi=>xs[i]?) (is.filterMap λi=>us[i]?)
 | []=>.nil
 | i::is=>by
  cases e:xs[i]? with
  | none =>
   rw[AS e,AS (yP.none_of r e)];rwa[oH r is]
  | some x =>
   obtain⟨u,eu,ru⟩:=r.get e;rw[AB e,AB eu];rwa[.cons ru (oH r is)]
def gh:∀{rs:List b9}{us:List c7},yP (rs.map V.ref) us->us=rs.map j6
 | [],_,r=>by cases r; rfl
 | a::rs,_,r=>by
  cases r with
  | cons r1 r2 =>
   cases r1;rw[gh r2];rfl
def Same.putNew{H H4:Hp}{D:b9}{o:HO}(s:Same H H4)(h:H D=Ih):Same H (upd H4 D o):=λb u q=>by
 rw[zG (zH q h)];rwa[s _ _ q]
abbrev Pr:=b9×Int×Int
abbrev wM(ps:List Pr):List V:=(ps.map (·.1)).map V.ref
def VC(H:Hp)(M:Nat)(ps:List Pr):Prop:=∀ t∈ps,H t.1=Ig (.tup [.int t.2.1,.int t.2.2])/\t.2.1.natAbs<=M/\t.2.2.natAbs<=M
def VC.same{H H':Hp}{M:Nat}{ps:List Pr}(h:VC H M ps)(s:Same H H'):VC H' M ps:=λt ht=>⟨s _ _ (h t ht).1,(h t ht).2⟩
def xL(ps:List Pr):(wM ps).length=ps.length:=by simp[wM]
def oV{ps:List Pr}{i:Nat}{k:Int}(e:k=i)(h:i<ps.length):∃ t,t∈ps/\ps[i]?=Ig t/\atI (wM ps) k=Ig (.ref t.1):=by
 erw[ps[i],Bv h,d3 h,?_];rw[e];rwa[xU (by rw[d8,d8,d3 h] <;> rfl)]
end L2

namespace L2
def crs(p q r:Int×Int):Int:=(q.1-p.1)*(r.2-p.2)-(q.2-p.2)*(r.1-p.1)
def ptA(ps:List (b9×Int×Int))(i:Nat):Int×Int:=((ps[i]?).map (·.2)).getD (0,0)
def Zo{ps:List (b9×Int×Int)}{i:Nat}{t:b9×Int×Int}(h:ps[i]?=Ig t):ptA ps i=t.2:=by
 unfold ptA;rw[h];rfl
def dG(ps:List (b9×Int×Int))(i k:Nat):Bool:=decide (0<crs (ptA ps i) (ptA ps ((i+1)%ps.length)) (ptA ps k))
def vY(ps:List (b9×Int×Int))(i:Nat):Bool:=(Ai (ps.length-2)).all λj=>dG ps i ((i+(2+j))%ps.length)
def isB(ps:List (b9×Int×Int)):Bool:=decide (3<=ps.length)&&(decide (ps.length<=8)&&(Ai ps.length).all (vY ps))
end L2

namespace PySem.W
open PySem PySem.Calls PyProof.Rows
section
variable{O:KeyOrd}(key:Nat->O.α)
structure PIn(n:Nat)(p:Array Nat):Prop where
 perm:p.Perm (f7 (Ai n))
variable{key}{n:Nat}
end
end PySem.W

namespace L2
open PySem PySem.Spec PyProof.Rows PySem.W
def wz:∀ rs:List b9,yP (rs.map V.ref) (rs.map j6)
 | []=>.nil
 | _::rs=>.cons rfl (wz rs)
section
variable{X:Cx}
def vX:bootBuiltins "sorted" = Ig (.builtin "sorted"):=by ac_nf
end
end L2

namespace L2
section
variable{κ:Type}[DecidableEq κ]
def wN(kvs:List (κ×V))(k:κ):Option V:=(kvs.find? λkv=>decide (kv.1=k)).map (·.2)
def rJ(kvs:List (κ×V))(k:κ)(v:V):List (κ×V) :=
 if (kvs.any λkv=>decide (kv.1=k))=Ii then kvs.map (λkv=>if kv.1=k then(kv.1,v) else kv) else kvs++[(k,v)]
def qe(kvs:List (κ×V))(k:κ):List (κ×V):=kvs.filter λkv=>decide (kv.1≠k)

def wT{p:κ×V}{r:List (κ×V)}{k:κ}(e:p.1=k):wN (p::r) k=Ig p.2:=by simp[wN,As,e]
def wK{p:κ×V}{r:List (κ×V)}{k:κ}(e:¬ p.1=k):wN (p::r) k=wN r k:=by simp[wN,As,e]
def pF(k:κ):∀ kvs:List (κ×V),(kvs.any λkv=>decide (kv.1=k))=(wN kvs k).isSome
 | []=>rfl
 | p::r=>by
  rw[AQ];by_cases e:p.1=k
  ·simp only[wT e,q0 e,HJ,Option.isSome_some]
  ·rw[wK e,x3 e,Bool.false_or]; rwa[pF k r]
def fL(k j:κ)(y:V):∀ kvs:List (κ×V),wN (kvs.map λkv=>if kv.1=k then(kv.1,y) else kv) j=(wN kvs j).map λx=>if j=k then y else x
 | []=>rfl
 | p::r=>by
  have ih:=fL k j y r;rw[l9];by_cases h:p.1=k
  ·rw[y9 h];by_cases e:p.1=j
   ·rw[wT (p:=(p.1,y)) e,wT e,B3,y9 (e.symm.trans h)]
   ·rw[wK (p:=(p.1,y)) e,wK e,ih]
  ·rw[y7 h];by_cases e:p.1=j
   ·rw[wT (p:=p) e,wT e,B3,y7 (λz=>h (e.trans z))]
   ·rw[wK (p:=p) e,wK e,ih]
def kM(k j:κ)(y:V):∀ kvs:List (κ×V),wN kvs k=Ih->wN (kvs++[(k,y)]) j=if j=k then Ig y else wN kvs j
 | [],_=>by
  by_cases e:k=j
  ·rw[y9 e.symm]; rwa[wT (p:=(k,y)) e]
  ·rw[y7 (λz=>e z.symm)]; rwa[wK (p:=(k,y)) e]
 | p::r,hn=>by
  rw[Gd];have hk:¬ p.1=k:=λz=>by rw[wT z] at hn; cases hn
  rw[wK hk] at hn;have ih:=kM k j y r hn;by_cases e:p.1=j
  ·rw[wT e,wT e,y7 (λz=>hk (e.trans z))]
  ·rw[wK e,wK e,ih]
def dw(kvs:List (κ×V))(k j:κ)(y:V):wN (rJ kvs k y) j=if j=k then Ig y else wN kvs j:=by
 unfold rJ;by_cases a:(kvs.any λkv=>decide (kv.1=k))=Ii
 ·rw[y9 a,fL];rw[pF] at a;by_cases e:j=k
  ·obtain⟨x,hx⟩:=k9.mp a;rw[y9 e,e,hx,B3,y9 rfl]
  ·rw[y7 e];cases wN kvs j with
   | none=>rfl
   | some x=>rw[B3,y7 e]
 ·rw[y7 a];erw[kM k j y kvs ?_];rw[pF] at a;cases q:wN kvs k with
  | none=>rfl
  | some x=>rw[q] at a; exact(a rfl).elim
def xc(kvs:List (κ×V))(k:κ)(v:V):(rJ kvs k v).length<=kvs.length+1:=by
 unfold rJ;split
 ·rw[a7]; lia
 ·rw[f8,m9,Am]; lia
def kH.isSome_eq{o:Option V}{u:Option c7}(r:kH o u):o.isSome=u.isSome:=by
 cases o with
 | none=>cases u with
  | none=>rfl
  | some _=>exact(show False from r).elim
 | some _=>cases u with
  | none=>exact(show False from r).elim
  | some _=>rfl
def KV.val{kvs:List (κ×V)}{vs:List (κ×c7)}(r:KV kvs vs)(k:κ):kH (wN kvs k) (valueAt vs k):=by
 unfold KV at r
 induction r with
 | nil=>rwa[t7]
 | @cons p q ps qs h t ih =>
  obtain⟨h1,h2⟩:=h;by_cases e:p.1=k
  ·have e':q.1=k:=h1.symm.trans e;have b:valueAt (q::qs) k=Ig q.2:=by simp[valueAt,As,e']
   rw[wT e,b]; rwa[h2]
  ·have e':¬ q.1=k:=λz=>e (h1.trans z);have b:valueAt (q::qs) k=valueAt qs k:=by simp[valueAt,As,e']
   rw[wK e,b]; rwa[ih]
def KV.any{kvs:List (κ×V)}{vs:List (κ×c7)}(r:KV kvs vs)(k:κ):(kvs.any λkv=>decide (kv.1=k))=vs.any λkv=>decide (kv.1=k):=by
 unfold KV at r
 induction r with
 | nil=>rfl
 | cons h t ih=>rw[AQ,AQ,ih,h.1]
def KV.repl{kvs:List (κ×V)}{vs:List (κ×c7)}(r:KV kvs vs)(k:κ){y:V}{u:c7}(ry:xE y u) :
  KV (kvs.map λkv=>if kv.1=k then(kv.1,y) else kv) (vs.map λkv=>if kv.1=k then(kv.1,u) else kv):=by
 unfold KV at r ⊢
 induction r with
 | nil=>rwa[.nil]
 | @cons p q ps qs h t ih =>
  rw[l9,l9];erw[.cons ?_ ih];obtain⟨h1,h2⟩:=h;by_cases e:p.1=k
  ·rw[y9 e,y9 (h1.symm.trans e)]; rwa[h1,ry]
  ·rw[y7 e,y7 (λz=>e (h1.trans z))]; rwa[h1,h2]
def KV.put{kvs:List (κ×V)}{vs:List (κ×c7)}(r:KV kvs vs)(k:κ){y:V}{u:c7}(ry:xE y u):KV (rJ kvs k y) (stored vs k u):=by
 unfold rJ stored;rw[r.any k];by_cases e:(vs.any λkv=>decide (kv.1=k))=Ii
 ·rw[y9 e,y9 e]; rwa[r.repl k ry]
 ·rw[y7 e,y7 e]; rwa[HS r ⟨rfl,ry⟩]
def KV.drop{kvs:List (κ×V)}{vs:List (κ×c7)}(r:KV kvs vs)(k:κ):KV (qe kvs k) (without vs k):=by
 unfold KV at r ⊢;unfold qe without
 induction r with
 | nil=>rwa[.nil]
 | @cons p q ps qs h t ih =>
  obtain⟨h1,h2⟩:=h;rw[Ge,Ge];by_cases e:p.1=k
  ·have a:¬ decide (p.1≠k)=true:=by simp[e]
   have b:¬ decide (q.1≠k)=true:=by simp[h1.symm.trans e]
   rw[y7 a,y7 b]; rwa[ih]
  ·have e':¬ q.1=k:=λz=>e (h1.trans z);have a:decide (p.1≠k)=true:=by simp[e]
   have b:decide (q.1≠k)=true:=by simp[e']
   rw[y9 a,y9 b]; rwa[.cons ⟨h1,h2⟩ ih]
def KV.length{kvs:List (κ×V)}{vs:List (κ×c7)}(r:KV kvs vs):kvs.length=vs.length:=Fe r
def eL(kvs:List (κ×V))(k:κ):(qe kvs k).length<=kvs.length:=BC _ _
end


def kx{P:j9}{w:n5}{k:Key}{u:c7}(r:xE (kV k) u):(yK P w).is k u=true:=by
 cases k with
 | inl i=>obtain⟨t,e⟩:=(show ∃ t,u=BE i t from r); subst e; rwa[gQ P w i t]
 | inr x=>obtain⟨t,e⟩:=(show ∃ t,u=AN x t from r); subst e; rwa[xg P w x t]
def iX{P:j9}{w:n5} : ∀{ks:List Key}{us:List c7},yP (ks.map kV) us->ItemsAre (yK P w) ks us
 | [],_,r=>by rw[CQ] at r; cases r; rwa[.nil]
 | k::ks,_,r=>by
  rw[l9] at r;cases r with
  | cons h t=>rwa[.cons (kx h) (iX t)]

abbrev KT(H:Hp):List (List Key×V)->List (List Key×b9×c7)->Prop:=F1 λp q=>p.1=q.1/\H q.2.1=Ig (.tup (p.1.map kV))/\xE p.2 q.2.2
def KT.val{H:Hp}{kvs:List (List Key×V)}{xs:List (List Key×b9×c7)}(r:KT H kvs xs)(k:List Key):kH (wN kvs k) ((atKey xs k).map (·.2)):=by
 induction r with
 | nil=>rwa[t7]
 | @cons p q ps qs h t ih =>
  obtain⟨h1,_,h2⟩:=h;by_cases e:p.1=k
  ·have e':q.1=k:=h1.symm.trans e;have b:atKey (q::qs) k=Ig q.2:=by simp[atKey,As,e']
   rw[wT e,b]; rwa[h2]
  ·have e':¬ q.1=k:=λz=>e (h1.trans z);have b:atKey (q::qs) k=atKey qs k:=by simp[atKey,As,e']
   rw[wK e,b]; rwa[ih]
def KT.repl{H:Hp}{kvs:List (List Key×V)}{xs:List (List Key×b9×c7)}(r:KT H kvs xs)(k:List Key){y:V}{u:c7}(ry:xE y u) :
  KT H (kvs.map λkv=>if kv.1=k then(kv.1,y) else kv) (xs.map (putAt k u)):=by
 induction r with
 | nil=>rwa[.nil]
 | @cons p q ps qs h t ih =>
  rw[l9,l9];erw[.cons ?_ ih];obtain⟨h1,h2,h3⟩:=h;unfold putAt;by_cases e:p.1=k
  ·rw[y9 e,y9 (h1.symm.trans e)]; rwa[h1,h2,ry]
  ·rw[y7 e,y7 (λz=>e (h1.trans z))]; rwa[h1,h2,h3]
def KT.put{H:Hp}{kvs:List (List Key×V)}{xs:List (List Key×b9×c7)}(r:KT H kvs xs)(k:List Key){b:b9}{y:V}{u:c7}(hb:H b=Ig (.tup (k.map kV)))(ry:xE y u) :
  KT H (rJ kvs k y) (storedH xs k b u):=by
 have e:(kvs.any λkv=>decide (kv.1=k))=(atKey xs k).isSome:=by
  rw[pF,(r.val k).isSome_eq,Av]
 unfold rJ storedH;rw[e];by_cases q:(atKey xs k).isSome=Ii
 ·rw[y9 q,y9 q]; rwa[r.repl k ry]
 ·rw[y7 q,y7 q]; rwa[HS r ⟨rfl,hb,ry⟩]
def KT.keeps{H H':Hp}{kvs:List (List Key×V)}{xs:List (List Key×b9×c7)}(r:KT H kvs xs)(ht:∀ b ys,H b=Ig (.tup ys)->H' b=Ig (.tup ys)):KT H' kvs xs :=
 Paired.mapP r λ_ _ z=>⟨z.1,ht _ _ z.2.1,z.2.2⟩

section
variable{P:j9}{w:n5}{H:Hp}{h:n9}{a:b9}
def Uv{u:HO}(ok:HOk P w H h)(e:Rd H a u):xI P w H h a u:=e.ok ok
def lW{kvs:List (Key×V)}(ok:HOk P w H h)(e:Rd H a (.dK kvs)):kvs.length<=sizeLine/\(a == sysModules)=Ij/\∃ vs,KV kvs vs/\h.DictOf (yK P w) a vs :=
 show xI P w H h a (.dK kvs) from Uv ok e
def ZY{kvs:List (Key×V)}(ok:HOk P w H h)(e:H a=Ig (.dK kvs)):kvs.length<=sizeLine/\(a == sysModules)=Ij/\∃ vs,KV kvs vs/\h.DictOf (yK P w) a vs:=lW ok (.inl e)
def kW{ks:List Key}(ok:HOk P w H h)(e:H a=Ig (.tup (ks.map kV))):(tupleKind (yK P w)).is h ks a:=by
 obtain⟨_,its,r,o,h1,h2,n,h3⟩:=(show xI P w H h a (.tup (ks.map kV)) from ok a _ e);exact⟨o,its.toArray,n,h1,h2,h3,by simpa using iX r⟩
def de{kvs:List (List Key×V)}(ok:HOk P w H h)(e:Rd H a (.dT kvs)):kvs.length<=sizeLine/\(a == sysModules)=Ij /\
  ∃ xs,KT H kvs xs/\h.DictOfH (tupleKind (yK P w)) a xs:=by
 obtain⟨z,y,xs,r,o,es,ep,h1,h2,h3,h4,h5⟩:=(show xI P w H h a (.dT kvs) from Uv ok e);refine⟨z,y,xs,r,o,es,ep,h1,h2,h3,h4,λx hx=>?_,h5⟩;have all:∀{l:List (List Key×V)}{m:List (List Key×b9×c7)},KT H l m->∀ x∈m,(tupleKind (yK P w)).is h x.1 x.2.1:=by
  intro l m q
  induction q with
  | nil=>intro x hx; exact nomatch hx
  | @cons p q ps qs hq t ih =>
   intro x hx;rcases i7.mp hx with e | hx
   ·subst e;rwa[kW ok (by rw[<- hq.1]; exact hq.2.1)]
   ·rwa[ih x hx]
 rwa[all r x hx]
def dt_of{kvs:List (List Key×V)}(ok:HOk P w H h)(e:H a=Ig (.dT kvs)):kvs.length<=sizeLine/\(a == sysModules)=Ij /\
  ∃ xs,KT H kvs xs/\h.DictOfH (tupleKind (yK P w)) a xs:=de ok (.inl e)
end

def Yk(H:Hp)(a:b9)(y:V)(r:Option V):Prop :=
 (∃ kvs k,Rd H a (.dK kvs)/\y=kV k/\r=wN kvs k)\/∃ kvs k b,Rd H a (.dT kvs)/\y=.ref b/\H b=Ig (.tup (k.map kV))/\r=wN kvs k
def ie(H:Hp)(a:b9)(y v:V)(H':Hp):Prop :=
 (∃ kvs k,H a=Ig (.dK kvs)/\y=kV k/\kvs.length<sizeLine/\H'=upd H a (.dK (rJ kvs k v))) \/
 ∃ kvs k b,H a=Ig (.dT kvs)/\y=.ref b/\H b=Ig (.tup (k.map kV))/\kvs.length<sizeLine/\H'=upd H a (.dT (rJ kvs k v))
def ie.k{H:Hp}{a:b9}{kvs:List (Key×V)}{k:Key}{v:V}(e:H a=Ig (.dK kvs))(hl:kvs.length<sizeLine):ie H a (kV k) v (upd H a (.dK (rJ kvs k v))):=.inl ⟨kvs,k,e,rfl,hl,rfl⟩
section
variable{X:Cx}{Ik:List (b9×AL)}{σ:St}{H:Hp}{s:d4}{a:b9}{y v:V}{u r:c7}{o:Option V}{A:Ab}{E:c7->d4->Prop}

def Inv.big(I:Inv X Ik σ H s):sysModules<s.heap.objs.size:=by
 have h:mainGlobals<s.heap.objs.size:=(I.mod.glob.keeps I.bk).lt;rwa[Be (by decide) h]

def ar{Q:c7->d4->Prop}(hu:A.units+1<cLine)(I:Inv X Ik σ H s)(g:Yk H a y (Ig v))(ry:xE y u)(h:∀ w' s',Inv X Ik σ H s'->xE v w'->Q w' s') :
  wpAny (model X.prog X.w) A (getItem (.ref a) u) Q E s:=by
 rcases g with ⟨kvs,k,e,ey,l⟩ | ⟨kvs,k,b,e,ey,eb,l⟩
 ·subst ey;obtain⟨z,hd,vs,rel,dd⟩:=lW I.hok e;obtain⟨w',hw,rw'⟩:=kH.some_of (v:=v) (o:=valueAt vs k) (by rw[l]; rwa[rel.val k]);rwa[Gf (kx ry) dd.mapOf hw (h w' _ (I.tok _) rw')]
 ·subst ey;cases (show u=j6 b from ry);obtain⟨z,hd,xs,rel,dd⟩:=de I.hok e;obtain⟨w',hw,rw'⟩:=kH.some_of (v:=v) (o:=(atKey xs k).map (·.2)) (by rw[l]; rwa[rel.val k]);obtain⟨p,hp,hp2⟩:=j7.mp hw;erw[wpAny_getItem_heap (tupleKind_room_in1 hu) (kW I.hok eb) dd hp ?_];rw[hp2];rwa[h w' _ (I.tok _) rw']
def d_in{Q:c7->d4->Prop}(hu:A.units+1<cLine)(I:Inv X Ik σ H s)(g:Yk H a y o)(ry:xE y u)(h:∀ s',Inv X Ik σ H s'->Q (.bool o.isSome) s') :
  wpAny (model X.prog X.w) A (compareOp .In u (.ref a)) Q E s:=by
 rcases g with ⟨kvs,k,e,ey,l⟩ | ⟨kvs,k,b,e,ey,eb,l⟩
 ·subst ey;obtain⟨z,hd,vs,rel,dd⟩:=lW I.hok e;erw[wpAny_in_of (kx ry) hd dd.mapOf ?_];rw[<- (rel.val k).isSome_eq,<- l];rwa[h _ (I.tok _)]
 ·subst ey;cases (show u=j6 b from ry);obtain⟨z,hd,xs,rel,dd⟩:=de I.hok e;erw[wpAny_in_heap (tupleKind_room_in1 hu) (kW I.hok eb) hd dd ?_];have q:=(rel.val k).isSome_eq;rw[Av] at q;rw[<- q,<- l];rwa[h _ (I.tok _)]
def Wh{Q:c7->d4->Prop}(hu:A.units+1<cLine)(I:Inv X Ik σ H s)(g:Yk H a y o)(ry:xE y u)(h:∀ s',Inv X Ik σ H s'->Q (.bool (!o.isSome)) s') :
  wpAny (model X.prog X.w) A (compareOp .NotIn u (.ref a)) Q E s:=by
 rcases g with ⟨kvs,k,e,ey,l⟩ | ⟨kvs,k,b,e,ey,eb,l⟩
 ·subst ey;obtain⟨z,hd,vs,rel,dd⟩:=lW I.hok e;erw[wpAny_notIn_of (kx ry) hd dd.mapOf ?_];rw[<- (rel.val k).isSome_eq,<- l];rwa[h _ (I.tok _)]
 ·subst ey;cases (show u=j6 b from ry);obtain⟨z,hd,xs,rel,dd⟩:=de I.hok e;erw[wpAny_notIn_heap (tupleKind_room_in1 hu) (kW I.hok eb) hd dd ?_];have q:=(rel.val k).isSome_eq;rw[Av] at q;rw[<- q,<- l];rwa[h _ (I.tok _)]
def pX{h':n9}{t':Nat}{ob:HO}(I:Inv X Ik σ H s)(mu:Mut (H a))(hs:AW a s.heap h')(he:∃ q,h'.get? a=Ig q)(new:xI X.prog X.w (upd H a ob) h' a ob) :
  Inv X Ik σ (upd H a ob) { s with heap:=h',toks:=t' } :=
 I.write (x:=a) (e:=a) mu (.inl rfl) (λb q hb z=>(hs.2 b hb).trans z) he new
def kX{P:j9}{w:n5}{H':Hp}{h':n9}{kvs:List (Key×V)}{vs:List (Key×c7)}(z:kvs.length<=sizeLine)(hd:(a == sysModules)=Ij)(rel:KV kvs vs)(dd:h'.DictOf (yK P w) a vs) :
  xI P w H' h' a (.dK kvs):=⟨z,hd,vs,rel,dd⟩
def bG{H':Hp}{Q:Unit->d4->Prop}(hu:A.units+1<cLine)(I:Inv X Ik σ H s)(g:ie H a y v H')(ry:xE y u)(rv:xE v r)(h:∀ s',Inv X Ik σ H' s'->Q () s') :
  wpAny (model X.prog X.w) A (setItem (.ref a) u r) Q E s:=by
 rcases g with ⟨kvs,k,e,ey,l,eH⟩ | ⟨kvs,k,b,e,ey,eb,l,eH⟩
 ·subst ey eH;obtain⟨z,hd,vs,rel,dd⟩:=ZY I.hok e;have hz:vs.length<=sizeLine:=by rw[<- rel.length]; rwa[z]
  have hl:(rJ kvs k v).length<=sizeLine:=by have:=xc kvs k v; lia
  erw[wpAny_setItem_pairs (hsz:=hz) (kx ry) dd λh' dd' hs=>h _ ?_];have he:∃ q,h'.get? a=Ig q:=let ⟨q,_,_,hq,_⟩:=dd';⟨q,hq⟩;rwa[pX I (by rw[e]; exact t7) hs he (kX hl hd (rel.put k rv) dd')]
 ·subst ey eH;cases (show u=j6 b from ry);obtain⟨z,hd,xs,rel,dd⟩:=dt_of I.hok e;have hz:xs.length<=sizeLine:=by rw[<- Fe rel]; rwa[z]
  have hl:(rJ kvs k v).length<=sizeLine:=by have:=xc kvs k v; lia
  erw[wpAny_setItem_heap (hsz:=hz) (tupleKind_room_in1 hu) (kW I.hok eb) dd λh' dd' hs=>h _ ?_];obtain⟨q,es,ep,hq,h2,h3,h4,_,h5⟩:=dd';erw[pX I (by rw[e]; rwa[t7]) hs ⟨q,hq⟩ ⟨hl,hd,_,(rel.put k eb rv).keeps λc ys ec=>?_,q,es,ep,hq,h2,h3,h4,h5⟩];rw[zG (oA ec e (λz=>nomatch z))];rwa[ec]
end

section
variable{X:Cx}{Ik:List (b9×AL)}{σ:St}{H:Hp}{s:d4}{a:b9}{kvs:List (Key×V)}{k:Key}{u:c7}{A:Ab}{E:c7->d4->Prop}
def UT{Q:Unit->d4->Prop}(I:Inv X Ik σ H s)(e:H a=Ig (.dK kvs))(ry:xE (kV k) u)(l:(wN kvs k).isSome=Ii)(h:∀ s',Inv X Ik σ (upd H a (.dK (qe kvs k))) s'->Q () s') :
  wpAny (model X.prog X.w) A (delItem (.ref a) u) Q E s:=by
 obtain⟨z,hd,vs,rel,dd⟩:=ZY I.hok e;refine wpAny_delItem_slot dd.typeIs (by decide) DJ
  (call_meetsIn DJ dd.typeIs PySem.F.entry_dict_delitem (PySem.F.args_dict_delitem_2 _ _) (meets_dict_delitem_pairs (yK X.prog X.w) a (kx ry)) ⟨vs,dd,by rw[<- rel.length]; exact z,by rw[<- (rel.val k).isSome_eq]; exact l,λh' dd' hs=>h _ ?_⟩)
 have he:∃ q,h'.get? a=Ig q:=let ⟨q,_,_,hq,_⟩:=dd';⟨q,hq⟩;rwa[pX I (by rw[e]; exact t7) hs he (kX (j8 (eL kvs k) z) hd (rel.drop k) dd')]
def d_pop{v:V}{more:List c7}{Q:c7->d4->Prop}(I:Inv X Ik σ H s)(e:H a=Ig (.dK kvs))(ry:xE (kV k) u)(l:wN kvs k=Ig v)(hm:more=[]\/∃ x,more=[x])
  (h:∀ w' s',Inv X Ik σ (upd H a (.dK (qe kvs k))) s'->xE v w'->Q w' s'):wpAny (model X.prog X.w) A (call (.builtin "dict.pop") (.ref a::u::more)) Q E s:=by
 obtain⟨z,hd,vs,rel,dd⟩:=ZY I.hok e;obtain⟨w',hw,rw'⟩:=kH.some_of (v:=v) (o:=valueAt vs k) (by rw[<- l]; exact rel.val k);have hp:(keyPart u).isSome=true:=by
  cases k with
  | inl i=>obtain⟨t,q⟩:=(show ∃ t,u=BE i t from ry); subst q; rfl
  | inr x=>obtain⟨t,q⟩:=(show ∃ t,u=AN x t from ry); subst q; rfl
 have ha:argsOk "dict.pop" ⟨.ref a::u::more,[]⟩:=by
  rcases hm with q | ⟨x,q⟩
  ·subst q; rwa[PySem.F.args_dict_pop_2 _ _]
  ·subst q; rwa[PySem.F.args_dict_pop_3 _ _ _]
 refine call_meetsIn EJ dd.typeIs PySem.F.entry_dict_pop ha (meets_dict_pop_there (yK X.prog X.w) a (kx ry) more hm hp)
  ⟨vs,w',dd,by rw[<- rel.length]; exact z,hw,λh' dd' hs=>h w' _ ?_ rw'⟩
 have he:∃ q,h'.get? a=Ig q:=let ⟨q,_,_,hq,_⟩:=dd';⟨q,hq⟩;rwa[pX I (by rw[e]; exact t7) hs he (kX (j8 (eL kvs k) z) hd (rel.drop k) dd')]
def d_len{Q:c7->d4->Prop}(I:Inv X Ik σ H s)(e:Rd H a (.dK kvs))(h:∀ t s',Inv X Ik σ H s'->Q (.int kvs.length t) s'):wpAny (model X.prog X.w) A (call (.builtin "len") [.ref a]) Q E s:=by
 obtain⟨z,hd,vs,rel,dd⟩:=lW I.hok e;refine call_len_dict hd dd (by rw[<- rel.length]; rw[sizeLine_eq] at z; lia) ?_;rw[<- rel.length];rwa[h _ _ (I.tok _)]
end


def Tl(i:t6):Prop:=∀ ov iv,subscripted i Ij ov iv=operate [ov,iv] (getItem ov iv)
def gY{prog:j9}{w:n5}{A:Ab}{E:c7->d4->Prop}{s:d4}{env:Dk}{value slice:t6}{pos:Ck}{T id:String}{Q:c7->d4->Prop}
  (hl:typeLookup (.type T) "__getitem__" = pure (Ig (.builtin id))) (hs:Tl slice)
  (h:wpAny (model prog w) A (eval value env) (λo s₁=>wpAny (model prog w) A (eval slice env) (λi s₂=>s₂.TypeIs o T/\wpAny (model prog w) A (getItem o i) Q E s₂) E s₁) E s) :
  wpAny (model prog w) A (eval (.Subscript value slice pos) env) Q E s:=by
 refine GD (A9 h (λo s₁ h₁=>A9 h₁ (λi s₂ h₂=>?_) λ_ _ x=>x) λ_ _ x=>x);obtain⟨hT,h₂⟩:=h₂;unfold subscriptTail;refine ac ?_;rw[getitemInPython_of_ne hT.not_modules];refine ac (Gw hT hl ?_);have fin:wpAny (model prog w) A (subscripted slice Ij o i) (λr s₃=>wpAny (model prog w) A (letTemporaryGo value o r >>= λ_=>pure r) Q E s₃) E s₂:=by
  rw[hs o i];rwa[wpAny_operating (A9 h₂ (λr s₃ h₃=>ac (wpAny_letTemporaryGo (d7 h₃))) λ_ _ x=>x)]
 first
  | exact d7 (ac fin)
  | exact ac (d7 (ac fin))
  | exact ac fin

def fA{X:Cx}{Ik:List (b9×AL)}{σ:St}{H:Hp}{s:d4}{a:b9}{y:V}{o:Option V}(I:Inv X Ik σ H s)(g:Yk H a y o):s.TypeIs (.ref a) "dict" := by
 rcases g with ⟨kvs,k,e,_,_⟩ | ⟨kvs,k,b,e,_,_,_⟩
 ·obtain⟨_,_,vs,_,dd⟩:=lW I.hok e;rwa[dd.typeIs]
 ·obtain⟨_,_,xs,_,dd⟩:=de I.hok e;rwa[dd.typeIs]
def tDGet(td ty:TE):TE:=λσ H Q=>td σ H λx H1=>ty σ H1 λy H2=>∃ a v,x=.ref a/\Yk H2 a y (Ig v)/\Q v H2
def tDIn(ty td:TE):TE:=λσ H Q=>ty σ H λy H1=>td σ H1 λx H2=>∃ a o,x=.ref a/\Yk H2 a y o/\Q (.bl o.isSome) H2
def Wd(ty td:TE):TE:=λσ H Q=>ty σ H λy H1=>td σ H1 λx H2=>∃ a o,x=.ref a/\Yk H2 a y o/\Q (.bl (!o.isSome)) H2
def sDPut(td ty tv:TE):TS:=λD σ H=>tv σ H λv H1=>td σ H1 λx H2=>ty σ H2 λy H3=>∃ a H4,x=.ref a/\ie H3 a y v H4/\D.nx σ H4
section
variable{X:Cx}{o i e value:t6}{pos pos' tpos:Ck}{td ty tv:TE}
def zO(hu:X.A.units+1<cLine)(ho:PE X o td)(hi:PE X i ty)(hs:Tl i):PE X (.Subscript o i pos) (tDGet td ty):=by
 intro Ik s σ H Q I h;erw[gY Cq.lookup hs (thn (ho Ik s σ H _ I h) λu s1 ⟨x,H1,I1,rx,q1⟩=>thn (hi Ik s1 σ H1 _ I1 q1) λiv s2 ⟨y,H2,I2,ry,a,v,ex,g,q2⟩=>?_)];subst ex;obtain rfl:u=j6 a:=rx;rwa[fA I2 g,ar hu I2 g ry λw' s3 I3 rw'=>⟨v,H2,I3,rw',q2⟩]
def jA(hu:X.A.units+1<cLine)(hi:PE X i ty)(ho:PE X o td):PC X .In i o (tDIn ty td):=by
 intro Ik s σ H Q I h;erw[thn (hi Ik s σ H _ I h) λiv s1 ⟨y,H1,I1,ry,q1⟩=>thn (ho Ik s1 σ H1 _ I1 q1) λu s2 ⟨x,H2,I2,rx,a,ov,ex,g,q2⟩=>?_];subst ex;obtain rfl:u=j6 a:=rx;rwa[d_in hu I2 g ry λs3 I3=>⟨.bl ov.isSome,H2,I3,rfl,q2⟩]
def sB(hu:X.A.units+1<cLine)(hi:PE X i ty)(ho:PE X o td):PC X .NotIn i o (Wd ty td):=by
 intro Ik s σ H Q I h;erw[thn (hi Ik s σ H _ I h) λiv s1 ⟨y,H1,I1,ry,q1⟩=>thn (ho Ik s1 σ H1 _ I1 q1) λu s2 ⟨x,H2,I2,rx,a,ov,ex,g,q2⟩=>?_];subst ex;obtain rfl:u=j6 a:=rx;rwa[Wh hu I2 g ry λs3 I3=>⟨.bl (!ov.isSome),H2,I3,rfl,q2⟩]
def rK(hu:X.A.units+1<cLine)(ho:PE X o td)(hi:PE X i ty)(hv:PE X value tv)(hs:swapsWith value (Ig (.Subscript o i pos')) pos.line X.env=pure Ij) :
  PS X (.Assign [.Subscript o i pos'] value pos) (sDPut td ty tv):=by
 intro Ik s σ H D I h;erw[wpAny_Assign_Subscript (thn (hv Ik s σ H _ I h) λr s1 ⟨v,H1,I1,rv,q1⟩=>thn (ho Ik s1 σ H1 _ I1 q1) λu s2 ⟨x,H2,I2,rx,q2⟩=>thn (hi Ik s2 σ H2 _ I2 q2) λiv s3 ⟨y,H3,I3,ry,a,H4,ex,g,q3⟩=>?_) hs];subst ex;obtain rfl:u=j6 a:=rx;rwa[bG hu I3 g ry rv λs4 I4=>⟨σ,H4,I4,q3⟩]
end


def fE{P:j9}{w:n5}{H:Hp}(h:n9)(hb:sysModules<h.objs.size):xI P w H (h.push { cls:=.type "dict",data:=.dict #[] }) h.objs.size (.dK []) :=
 ⟨r9 _,x5.mpr (AG (l6 hb)),[],.nil,Heap.DictOf.new h⟩
def Ui:TE:=λ_ H Q=>∀ p,H p=Ih->Q (.ref p) (upd H p (.dK []))
section
variable{X:Cx}{pos:Ck}
def rA:PE X (.Dict [] [] pos) Ui:=λIk s σ H Q I h =>
 wpAny_Dict_empty ⟨.ref s.heap.objs.size,_,I.laid (a:=s.heap.objs.size) (o:=.dK []) (t':=s.toks) (λ_ _ q=>c9 _ q) (d6 _) (fE s.heap I.big),rfl,h _ (I.hok.fresh (d6 _))⟩
end

def bQ:List (TE×TE)->St->Hp->(List (V×V)->Hp->Prop)->Prop
 | [],_,H,Q=>Q [] H
 | (tk,tv)::r,σ,H,Q=>tk σ H λx H1=>tv σ H1 λy H2=>bQ r σ H2 λps H3=>Q ((x,y)::ps) H3
abbrev VV:List (V×V)->List (c7×c7)->Prop:=F1 λp q=>xE p.1 q.1/\xE p.2 q.2
def PPs(X:Cx)(pos:Ck)(keys:List (Option t6))(values:List t6)(trs:List (TE×TE)):Prop :=
 ∀(Ik:List (b9×AL))(s:d4)(σ:St)(H:Hp)(Q:List (V×V)->Hp->Prop),Inv X Ik σ H s->bQ trs σ H Q ->
  wpAny (model X.prog X.w) X.A (evalPairs (pairTrees keys values X.env pos)) (λvs s'=>∃ ps H',Inv X Ik σ H' s'/\VV ps vs/\Q ps H') X.xe s
def fo{X:Cx}{pos:Ck} : PPs X pos [] [] []:=λIk s σ H Q I h=>pairTrees_nil_walk ⟨[],H,I,.nil,h⟩
def wI{X:Cx}{pos:Ck}{k v:t6}{ks:List (Option t6)}{vs:List t6}{tk tv:TE}{trs:List (TE×TE)}(hk:PE X k tk)(hv:PE X v tv)(hr:PPs X pos ks vs trs) :
  PPs X pos (Ig k::ks) (v::vs) ((tk,tv)::trs):=λIk s σ H Q I h =>
 pairTrees_cons_walk (thn (hk Ik s σ H _ I h) λu s1 ⟨x,H1,I1,rx,q1⟩=>thn (hv Ik s1 σ H1 _ I1 q1) λw2 s2 ⟨y,H2,I2,ry,q2⟩ =>
  thn (hr Ik s2 σ H2 _ I2 q2) λws s3 ⟨ps,H3,I3,rel,q3⟩=>⟨(x,y)::ps,H3,I3,.cons ⟨rx,ry⟩ rel,q3⟩)

def rf(kvs more:List (Key×V)):List (Key×V):=more.foldl (λacc kv=>rJ acc kv.1 kv.2) kvs
def KV.merge:∀{more:List (Key×V)}{rs:List (Key×c7)}{kvs:List (Key×V)}{vs:List (Key×c7)},KV more rs->KV kvs vs->KV (rf kvs more) (merged vs rs):=by
 intro more rs kvs vs r;unfold KV at r
 induction r generalizing kvs vs with
 | nil=>intro q; rwa[q]
 | @cons p q ps qs h t ih =>
  intro r0;have e:KV (rJ kvs p.1 p.2) (stored vs q.1 q.2):=by
   have:=r0.put p.1 h.2;rw[<- h.1]; rwa[this]
  rwa[ih e]
def vp:∀(more kvs:List (Key×V)),(rf kvs more).length<=kvs.length+more.length
 | [],kvs=>by show kvs.length<=kvs.length+0; lia
 | p::r,kvs=>by
  have h1:=vp r (rJ kvs p.1 p.2);have h2:=xc kvs p.1 p.2;show(rf (rJ kvs p.1 p.2) r).length<=_;rw[m9]; lia
def mh{P:j9}{w:n5} : ∀{kvs:List (Key×V)}{ws:List (c7×c7)},VV (kvs.map λkv=>(kV kv.1,kv.2)) ws->∃ rs,Carries (yK P w) ws rs/\KV kvs rs
 | [],_,r=>by rw[CQ] at r; cases r; rwa[[],t7,.nil]
 | p::kvs,_,r=>by
  rw[l9] at r;cases r with
  | @cons a b as bs h t =>
   obtain⟨rs,c,q⟩:=mh (P:=P) (w:=w) t;obtain⟨b1,b2⟩:=b;rwa[(p.1,b2)::rs,⟨kx h.1,U,c⟩,.cons ⟨U,h.2⟩ q]
def tDisp(trs:List (TE×TE)):TE:=λσ H Q=>∀ p,H p=Ih->bQ trs σ (upd H p (.dK [])) λps H2=>H2 p=Ig (.dK [])/\∃ kvs:List (Key×V),ps=kvs.map (λkv=>(kV kv.1,kv.2))/\kvs.length<=15/\Q (.ref p) (upd H2 p (.dK (rf [] kvs)))
def gX{X:Cx}{pos:Ck}{keys:List (Option t6)}{values:List t6}{trs:List (TE×TE)}(h:PPs X pos keys values trs)(hall:keys.all (·.isSome)=Ii)(hl:keys.length=values.length)(h0:keys≠[])
  (h15:keys.length<=15):PE X (.Dict keys values pos) (tDisp trs):=by
 intro Ik s σ H Q I q;have hn:=I.hok.fresh (d6 s.heap.objs.size);have I1:=I.laid (a:=s.heap.objs.size) (o:=.dK []) (h':=s.heap.push { cls:=.type "dict",data:=.dict #[] }) (t':=s.toks) (λ_ _ q=>c9 _ q) (d6 _) (fE s.heap I.big);refine wpAny_Dict_walk (knd:=yK X.prog X.w) hall hl h0 h15 (thn (h Ik _ σ _ _ I1 (q _ hn)) λws s2 ⟨ps,H2,I2,rel,e,kvs,ep,lk,q2⟩=>?_);subst ep;obtain⟨rs,c,rk⟩:=mh (P:=X.prog) (w:=X.w) rel;obtain⟨z,hd,vs0,r0,dd⟩:=ZY I2.hok e;cases r0;refine⟨rs,c,dd,λh' dd' hs=>⟨.ref s.heap.objs.size,_,?_,U,q2⟩⟩;have hz:(rf [] kvs).length<=sizeLine:=by
  have h1:=vp kvs [];rw[Am] at h1;rw[sizeLine_eq]; lia
 have he:∃ q,h'.get? s.heap.objs.size=Ig q:=let ⟨q,_,_,hq,_⟩:=dd';⟨q,hq⟩;rwa[pX I2 (by rw[e]; exact t7) hs he (kX hz hd (rk.merge .nil) dd')]



end L2

namespace L2
def Zd(h:n9)(a:b9)(rows:Array Bk)(age:Nat):Prop:=∃ ob,h.get? a=Ig ob/\ob.ExactDict/\ob.data=.dict rows age
def Zd.at{h h':n9}{a:b9}{rows:Array Bk}{age:Nat}(x:Zd h a rows age)(e:∀ ob,h.get? a=Ig ob->h'.get? a=Ig ob):Zd h' a rows age:=let ⟨ob,g,r⟩:=x;⟨ob,e _ g,r⟩
def Zd.typeIs{z:d4}{a:b9}{rows:Array Bk}{age:Nat}(x:Zd z.heap a rows age):z.TypeIs (.ref a) "dict" := let ⟨ob,g,c,_⟩:=x;⟨ob,g,c.1⟩
section
variable{prog:j9}{w:n5}{A:Ab}{E:c7->d4->Prop}{z:d4}{it a:b9}{rows:Array Bk}{age k:Nat}
def ZA{R:c7->d4->Prop}(hs:(a == sysModules)=Ij)(x:Zd z.heap a rows age)(hR:R (.ref z.heap.objs.size) { z with heap:=z.heap.push { cls:=.type "dict_keyiterator",data:=.fields #[.ref a,.int 0 0,.int rows.size 0,.int age 0] } }) :
  wpAny (model prog w) A (pyIter (.ref a)) R E z:=by
 have ty:=x.typeIs;obtain⟨ob,g,_,dat⟩:=x;erw[FN ty Gg (Ar Gg ty F.entry_dict_iter ?walk (F.args_dict_iter_1 _))]
 case walk =>
  unfold Cj.«dict.__iter__» G8;refine ac (ac (wpAny_notOrdered_dict ty (show wpAny _ _ (pure (j6 a)) _ _ z from d7 ?_)));show wpAny _ _ (EK a >>= _) _ _ z;unfold EK;rw[y7 (by rw[hs]; decide)];erw[ac (d7 (ac (DT g dat (ac (Ex g dat ?_)))))];erw[ac (p9 (d7 ⟨_,rfl, "dict_keyiterator",_,⟨_,e7 _ rfl,rfl⟩,AT.lookup,?_⟩))];simpa [rawInt] using hR
def ZT{R:Option c7->d4->Prop}(ki:z.heap.IsKeyIter it a k rows.size age)(x:Zd z.heap a rows age)(hk:k<rows.size)
  (hR:∀ h',h'.IsKeyIter it a (k+1) rows.size age->AW it z.heap h'->R (Ig rows[k].key) { z with heap:=h' }):wpAny (model prog w) A (pyNext (.ref it)) R E z:=by
 have ty:=ki.typeIs;obtain⟨oi,gi,ci,di⟩:=id ki;obtain⟨ob,g,_,dat⟩:=x;unfold pyNext;erw[ac (BN (Ap (name:=l5 "__next__") ty AT (Ar AT ty C9 ?walk (C1 _))))]
 case walk =>
  erw[ac (d7 (ac (ac ?_)))]
  first | refine ac (Bi ty (d7 (ac (DD gi di ?_)))) | refine ac (BO ty (d7 (ac (DD gi di ?_))))
  simp only[show Dh "dict_keyiterator" = Ij by decide,AU,if_false];show wpAny _ _ (if (j6 a == p8)=Ii then _ else _) _ _ z;rw[y7 (show ¬ ((j6 a == p8)=Ii) from h9)];erw[ac (d7 (ac (DT g dat ?_)))];rw[y7 (by simp)];erw[ac (d7 (ac (Ex g dat ?_)))];rw[y7 (by simp)];erw[d7 ?_];simp only[show ¬ ((k:Int)<0) from by lia,if_false,AE,A6 hk];erw[ac ?_]
  first | refine ac (Bi ty (d7 (ac (CV ty ?_)))) | refine ac (BO ty (d7 (ac (CV ty ?_))))
  show wpAny _ _ (setField (.ref it) 1 (rawInt ((k:Int)+1)) >>= _) _ _ z;refine ac (Bh gi di (by simp) ?_);have ki':(z.heap.update it (Bf (·.setIfInBounds 1 (rawInt ((k:Int)+1))))).IsKeyIter it a (k+1) rows.size age :=
   ⟨_,AO _ gi (A8 (AJ di _)),(Cc ..).trans ci,by rw[AJ di]; simp[rawInt]⟩
  refine ac (Aw (ac (CV (s:={ z with heap:=z.heap.update it (Bf (·.setIfInBounds 1 (rawInt ((k:Int)+1)))) }) ki'.typeIs ?_)));show wpAny _ _ (pure rows[k].key) _ _ _;rwa[d7 (d7 ⟨_,rfl,d7 (hR _ ki' (Cw ..))⟩)]
def Wk{R:Option c7->d4->Prop}(hh:A.handled=Ih)(ki:z.heap.IsKeyIter it a k rows.size age)(x:Zd z.heap a rows age)(hk:rows.size<=k)
  (hR:∀ h',CL it z.heap h'->R Ih { z with heap:=h' }):wpAny (model prog w) A (pyNext (.ref it)) R E z:=by
 have ty:=ki.typeIs;obtain⟨oi,gi,ci,di⟩:=id ki;obtain⟨ob,g,_,dat⟩:=x;unfold pyNext;erw[ac (BN (Ap (name:=l5 "__next__") ty AT (Ar AT ty C9 ?walk (C1 _))))]
 case walk =>
  erw[ac (d7 (ac (ac ?_)))]
  first | refine ac (Bi ty (d7 (ac (DD gi di ?_)))) | refine ac (BO ty (d7 (ac (DD gi di ?_))))
  simp only[show Dh "dict_keyiterator" = Ij by decide,AU,if_false];show wpAny _ _ (if (j6 a == p8)=Ii then _ else _) _ _ z;rw[y7 (show ¬ ((j6 a == p8)=Ii) from h9)];erw[ac (d7 (ac (DT g dat ?_)))];rw[y7 (by simp)];erw[ac (d7 (ac (Ex g dat ?_)))];rw[y7 (by simp)];erw[d7 ?_];simp only[show ¬ ((k:Int)<0) from by lia,if_false,AE,BX hk];erw[ac ?_]
  first | refine ac (Bi ty (d7 ?_)) | refine ac (BO ty (d7 ?_))
  show wpAny _ _ (setField (.ref it) 0 .none >>= _) _ _ z;refine ac (Bh gi di (by simp) (show wpAny _ _ (newExc (.type "StopIteration") [] >>= _) _ _ _ from ac ?_));simp only[newExc,newTuple];refine ac (p9 (ac (m:=firstArgMember _ _) (Cg (a:=p8) (by first | rfl | (simp only[firstArgMember]; rfl)) (p9 ?_ (by size_fits)))) (by size_fits));simp only[raiseNew];erw[ac (Fg ?_)];rw[show A.in1.handled=Ih from hh];erw[ac (d7 (Gq ?_))];erw[ac (C0 (T := "StopIteration") (b:=Ii) ⟨_,e7 _ rfl,rfl⟩ isSubtype_stop ?_)];rwa[d7 (hR _ (((Cw ..).extBut.push _).push _))]
def aD(hh:A.handled=Ih)(hne:a≠it):Walks prog w A it [it,a] [it] rows.size (λi v=>∃ h:i<rows.size,v=rows[i].key) (λi h=>h.IsKeyIter it a i rows.size age/\Zd h a rows age) where
 sub:=λb hb=>by simp at hb; simp[hb]
 frame:=λ_ _ _ st hk=>⟨st.1.at λo e=>hk it (by simp) o e,st.2.at λo e=>hk a (by simp) o e⟩
 item:=λi s Q E hi st hQ=>ZT st.1 st.2 hi λh' ki' hs' =>
  hQ _ h' s.toks ⟨hi,rfl⟩ ⟨ki',st.2.at λo e=>hs'.extBut a o hne e⟩ λb o hb e=>hs'.extBut b o (λh=>hb (by simp[h])) e
 done:=λs Q E st hQ=>Wk hh st.1 st.2 (d6 _) λh' he'=>hQ h' s.toks λb o hb e=>he' b o (λh=>hb (by simp[h])) e
 self:=λ_ _ _ _ st hQ=>wpAny_pyIter_keyiter st.1 hQ
def WH(hs:(a == sysModules)=Ij):PySem.W.KdlSrc prog w "dict" a a rows.size (λi v=>∃ h:i<rows.size,v=rows[i].key) (λh=>Zd h a rows age) where
 type:=λ_ x=>x.typeIs
 there:=λ_ x=>let ⟨_,g,_⟩:=x;⟨f9 g,f9 g⟩
 keep:=λ_ _ x hk=>x.at λo e=>hk a (.inl rfl) o e
 notList:=by decide
 notTuple:=by decide
 hint:=λ_ _ _ _ x hq=>PySem.W.kdl_hint_dict x.typeIs hq
 iter:=λ_ s hh x=>⟨_,_,(λ_ _ hq=>ZA hs x hq),aD hh (let ⟨_,g,_⟩:=x; l6 (f9 g)),⟨⟨_,e7 _ rfl,rfl,rfl⟩,x.at λo e=>c9 _ e⟩⟩
end
end L2

namespace Sea
abbrev Sd:=b9×Int×Int×Int
abbrev Us(ss:List Sd):List V:=(ss.map (·.1)).map V.ref
def SdOk(H:Hp)(ss:List Sd):Prop:=∀ t∈ss,H t.1=Ig (.tup [.int t.2.1,.int t.2.2.1,.int t.2.2.2])/\(t.2.1≠0\/t.2.2.1≠0)/\t.2.1.natAbs<=10^9/\t.2.2.1.natAbs<=10^9/\t.2.2.2.natAbs<=10^13
def Vg(ss:List Sd)(x y:Int):Bool:=ss.all λt=>decide (t.2.1*x+t.2.2.1*y<=0)
def WK(ss:List Sd)(n:Nat)(k:List Int):Prop:=∃ j t,j<n/\ss[j]?=Ig t/\((k=cL [-t.2.2.1,t.2.1]/\Vg ss (-t.2.2.1) t.2.1=Ii)\/(k=cL [t.2.2.1,-t.2.1]/\Vg ss t.2.2.1 (-t.2.1)=Ii))
def Yn{ss:List Sd}{x y g:Int}(hg:0<g):Vg ss (x*g) (y*g)=Vg ss x y:=by
 unfold Vg
 congr 1
 funext t
 erw[decide_eq_decide.mpr ?_];have e:t.2.1*(x*g)+t.2.2.1*(y*g)=(t.2.1*x+t.2.2.1*y)*g:=by rw[Int.add_mul,BM,BM]
 rw[e];constructor
 ·intro h;by_cases c:t.2.1*x+t.2.2.1*y<=0
  ·rwa[c]
  ·have:=Int.mul_pos (show 0<t.2.1*x+t.2.2.1*y by lia) hg;lia
 ·intro h;have:=EV (show 0<=-(t.2.1*x+t.2.2.1*y) by lia) (Ek hg);rw[Int.neg_mul] at this;lia
def way_low{ss:List Sd}{x y:Int}(gp:0<rY [x,y]):Vg ss (x/(rY [x,y]:Int)) (y/(rY [x,y]:Int))=Vg ss x y:=by
 have gI:(0:Int)<(rY [x,y]:Int):=by lia
 have e1:=qG (ns:=[x,y]) (n:=x) (by simp);have e2:=qG (ns:=[x,y]) (n:=y) (by simp);have z:=Yn (ss:=ss) (x:=x/(rY [x,y]:Int)) (y:=y/(rY [x,y]:Int)) gI;rw[e1,e2] at z;rwa[z.symm]
def keyI(ns:List Int):List Key:=ns.map BQ
structure TabK(kvs:List (List Key×V))(ks:List (List Int)):Prop where
 keys:kvs.map (·.1)=ks.map keyI
 nodup:ks.Nodup
structure WaysAt(H:Hp)(l:b9)(ss:List Sd)(us:List (b9×List Int)):Prop where
 at':H l=Ig (.lst ((us.map (·.1)).map V.ref))
 all:∀ u∈us,H u.1=Ig (.tup (u.2.map V.int))
 rises:(us.map (·.2)).Pairwise (λa b=>HT.lexLt b a=Ij)
 nodup:(us.map (·.2)).Nodup
 mem:∀ k,k∈us.map (·.2)↔WK ss ss.length k
 few:us.length<=80
structure SdSt(H0:Hp)(D:b9)(ss:List Sd)(H:Hp):Prop where
 same:Same H0 H
 new:H0 D=Ih
 at':H D=Ig (.lst (Us ss))
 all:SdOk H ss
end Sea

namespace Sea
def YR{i j:Int}(h:i.natAbs<=10^18):Tn i j:=.inl ⟨by lia,by lia⟩
abbrev P3:=Int×Int×Int
def sv(t p:P3):Int:=t.1*p.1+t.2.1*p.2.1-t.2.2*p.2.2
def tn(e s:P3):Int:=e.1*s.2.1-e.2.1*s.1
structure IsSpot(l:List Int)(p:P3):Prop where
 list:l=[p.1,p.2.1,p.2.2]
 pos:0<p.2.2
 low:Cm (Cm p.1.natAbs p.2.1.natAbs) p.2.2.natAbs=1
def inW(ss:List Sd)(p:P3):Prop:=∀ t∈ss,sv t.2 p<=0
end Sea

namespace Sea
end Sea

namespace L2
open PySem PySem.Spec PyProof.Rows PySem.W
def PrAt(H:Hp)(cs:List Pr):Prop:=∀ t∈cs,H t.1=Ig (.tup [.int t.2.1,.int t.2.2])
end L2

namespace Sea
def dt(s g:P3):Int:=s.1*g.1+s.2.1*g.2.1
structure Bound(ss:List Sd)(g:P3):Prop where
 nz:∀ t∈ss,t.2.1≠0\/t.2.2.1≠0
 gz:g.1≠0\/g.2.1≠0
 ways:∀ t∈ss,∀ h:Int,(h=1\/h = -1)->(∀ s∈ss,tn t.2 s.2*h<=0)->tn t.2 g*h<=0
 lead:¬ ∀ s∈ss,dt s.2 g<=0
 one:∀ t∈ss,tn t.2 g=0->0<dt t.2 g->∀ P:P3,0<P.2.2->sv t.2 P=0->¬ inW ss P
end Sea

namespace L2
open PySem PySem.Spec PyProof.Rows PySem.W
def Tf{a b:g8}{A B:Prop}(h:a≠b)(hB:B):if decide (V.str a=V.str b)=Ii then A else B:=by
 rw[x3 (λz=>h (by injection z))];rwa[hB]
def ifSt{a:g8}{A B:Prop}(hA:A):if decide (V.str a=V.str a)=Ii then A else B:=by
 rw[q0 rfl];rwa[hA]
def cut4{ok:b9->Int->Int->Hp->Prop}{G:Prop}{R:b9->Int->Int->Hp->Prop}(h1:(∀ p x y G,ok p x y G->R p x y G)->G)(h2:∀ p x y G,ok p x y G->R p x y G):G:=h1 h2
end L2

namespace L2

def Wg(scope:CJ)(x:g8):Bool:=scope.names.any λy=>y.1 == x&&y.2 == .cell
structure OwnScope(X:Cx)(caps:List (g8×Nat))(scope:CJ):Prop where
 kind:scope.kind=.function
 dis:(scope.names.all λx=>!(x.2 == .free) || !Wg scope x.1)=Ii
 loc:∀ y∈scope.names,y.2=.local->scope.names.lookup y.1=Ig .local
 clos:(scope.names.all λx=>!(x.2 == .free)||(X.env.cells.lookup x.1).isSome)=Ii
 cap:md X scope caps
section
variable{X:Cx}{T:List g8}{caps:List (g8×Nat)}{scope:CJ}{elt target iter:t6}{ifs:List t6}{pos cpos:Ck}{wi:TI}{g:CC->TG}{tt:CC->TT}{te:CC->TE}

def rEqE(K:b7):R2:=λx y H Q=>∃(a b:b9)(rs:List b9),x=.ref a/\y=.ref b/\SqL K H a (rs.map V.ref)/\SqL K H b []/\Q (.bl rs.isEmpty) H
def XA(hu:X.A.units<cLine):OpR X (compareOp .Eq) (rEqE X.K):=by
 intro Ik s σ H x y v u Q I rx ry h;obtain⟨a,b,rs,rfl,rfl,h1,h2,q⟩:=h;cases rx;cases ry;obtain⟨us,r1,p1,_⟩:=I.list h1;obtain⟨ws,r2,p2,_⟩:=I.list h2;have e1:=gh r1;have e2:=yP.zero r2;subst e1 e2;cases rs with
 | nil =>
  erw[SeqAt.RcAt.lists (e:=λ_=>Ii) p1.isList p2.isList rfl hu (λj g _=>x4 g (by simp)) X.prog X.w _ _ ?_];rwa[.bl Ii,H,I,U,q]
 | cons r rs =>
  erw[SeqAt.RcAt.lists_lengths p1.isList p2.isList (by simp) hu X.prog X.w _ _ ?_];rwa[.bl Ij,H,I,U,q]
end
end L2

namespace Sea
def awB(N:Nat):List (Int×Int)->Int->Bool
 | [],_=>Ii
 | c::cs,least=>if least<=c.1/\c.1<N/\1<=c.2 then awB N cs (c.1+1) else Ij
def Tw(ss:List Sd)(f:Sd->Int)(n:Int):Int:=match ss[n.toNat]? with
 | some t=>f t
 | none=>0
def Vn(ss:List Sd)(f:Sd->Int):List (Int×Int)->Int->Int
 | [],T=>T
 | c::cs,T=>Vn ss f cs (T+c.2*Tw ss f c.1)
def fAt(k:Int)(t:Sd):Int:=if k=0 then t.2.1 else if k=1 then t.2.2.1 else t.2.2.2
structure PrSt(H0:Hp)(D:b9)(cs:List Pr)(H:Hp):Prop where
 same:Same H0 H
 new:H0 D=Ih
 at':H D=Ig (.lst (wM cs))
 all:PrAt H cs
end Sea

namespace Sea
def WX(n:Nat)(cs:List (Int×Int)):List (Int×Int):=cs.filter λc=>decide (c.1<(n:Int))
structure Apart(ss es:List Sd)(cs:List (Int×Int)):Prop where
 out:∀ v:P3,0<v.2.2->inW es v->Vn ss (fAt 2) (WX ss.length cs) 0*v.2.2<Vn ss (fAt 0) (WX ss.length cs) 0*v.1+Vn ss (fAt 1) (WX ss.length cs) 0*v.2.1
 ins:∀ v:P3,inW ss v->Vn ss (fAt 0) (WX ss.length cs) 0*v.1+Vn ss (fAt 1) (WX ss.length cs) 0*v.2.1<=Vn ss (fAt 2) (WX ss.length cs) 0*v.2.2
 few:(∃ z:P3,0<z.2.2/\inW ss z)->(WX ss.length cs).length<=2
end Sea

namespace Sea
structure PIb(t:TE)(σ:St)(i:Int)(n:Nat):Prop where
 rd:∀(H:Hp)(Q:VK),Q (.int i) H->t σ H Q
 le:i.natAbs<=n
abbrev VO(xs:List (b9×List Pr)):List V:=(xs.map (·.1)).map V.ref
structure Leads(G:Hp)(lo:b9)(M:Nat)(xs:List (b9×List Pr)):Prop where
 at':G lo=Ig (.lst (VO xs))
 all:∀ u∈xs,u.1≠lo/\G u.1=Ig (.lst (wM u.2))/\VC G M u.2
end Sea

namespace Sea
end Sea

namespace PyProof.Rows
structure Took(x y out:Array GI)(ia ib:Nat):Prop where
 pm:out.toList.Perm (x.toList.take ia++y.toList.take ib)
 la:ia<=x.size
 lb:ib<=y.size
structure Left(x y out:Array GI)(na nb:Nat):Prop where
 pm:out.toList.Perm (x.toList.drop na++y.toList.drop nb)
 la:na<=x.size
 lb:nb<=y.size
end PyProof.Rows

namespace PyProof.Rows
def rk(r:GI->Int)(xs:Array GI)(i:Nat):Int:=(xs[i]?.map r).getD 0
structure TookR(r:GI->Int)(x y out:Array GI)(ia ib:Nat):Prop extends Took x y out ia ib where
 srt:∀ i j,i<=j->j<out.size->rk r out i<=rk r out j
 oa:∀ i j,i<out.size->ia<=j->j<x.size->rk r out i<=rk r x j
 ob:∀ i j,i<out.size->ib<=j->j<y.size->rk r out i<=rk r y j
structure LeftR(r:GI->Int)(x y out:Array GI)(na nb:Nat):Prop extends Left x y out na nb where
 srt:∀ i j,i<=j->j<out.size->rk r out j<=rk r out i
 oa:∀ i j,i<out.size->j<na->rk r x j<=rk r out i
 ob:∀ i j,i<out.size->j<nb->rk r y j<=rk r out i
end PyProof.Rows

namespace L2
def sz0:0<=sizeLine:=by decide
def sz1:1<=sizeLine:=by decide
def sz2:2<=sizeLine:=by decide
def sz3:3<=sizeLine:=by decide
def gt2:(0:Int)<2:=by decide
def gt3:(0:Int)<3:=by decide
def gt4:(0:Int)<4:=by decide
def gt5:(0:Int)<5:=by decide
section
variable{X:Cx}{x:g8}{p pos:Ck}{a b e c:t6}{es:List t6}{t:TA}{te ta tb:TE}{id T:String}{r:List V->Hp->VK->Prop}{n:Nat}{ps:List g8}{sp:Sp}
def Uw(h:starEach (e::es) X.env=(Ij,eval e X.env)::starEach es X.env)(ha:PE X e te)(hr:PA X es t):PA X (e::es) (jo te t):=zB ha hr h
def UZ(h:PE X (.Name x pos) te):PE X (.Name x pos) te:=h
def m_sub(h:PE X (.Subscript a b pos) te):PE X (.Subscript a b pos) te:=h
def UK(h:PE X (.Call (.Name x p) (e::es) [] pos) te):PE X (.Call (.Name x p) (e::es) [] pos) te:=h
def m_bin{op:Operator}(h:PE X (.BinOp a op b pos) te):PE X (.BinOp a op b pos) te:=h
def m_cmp{op:Gn}(h:PE X (.Compare a [op] [b] pos) te):PE X (.Compare a [op] [b] pos) te:=h
def Ul{op:Gn}{tt:TT}(h:PT X (.Compare a [op] [b] pos) tt):PT X (.Compare a [op] [b] pos) tt:=h
def Vq{op:BoolOp}{tt:TT}(h:PW X (.BoolOp op es pos) tt):PT X (.BoolOp op es pos) tt:=h.pt
def m_val{tt:TE}(he:∀ whole,isTrue e X.env whole=(do let v <- whole; standAt e.pos; holding [v] (truthy v)))(h:PE X e tt):PT X e (tB tt):=yp h he
def m_ix(hs:ao b)(ha:PE X a ta)(hb:PE X b tb):PE X (.Subscript a b pos) (tOp (rIxA X.K) ta tb):=gb jL ha hb hs
def VA(x:g8)(h:PE X (.Name x pos) te):PE X (.Name x pos) te:=h
def jy(hc:uU X (.builtin id) r)(hv:bootBuiltins x=Ig (.builtin id))(hm:X.mg x=Ih)(hg:Gl X x)(hn:x ≠ "__name__")(hdb:(x ==("__debug__" : g8))=Ij)
  (he:starEach (e::es) X.env=(Ij,eval e X.env)::starEach es X.env) (hpl:(backTo pos (starEach es X.env)).any (·.1)=Ij) (ha:PA X (e::es) t):PE X (.Call (.Name x p) (e::es) [] pos) (tCB r t):=zR hc hg hm hv ha hn hdb he hpl
def Ve(hc:uU X (.type T) r)(hv:bootBuiltins x=Ig (.type T))(hm:X.mg x=Ih)(hg:Gl X x)(hn:x ≠ "__name__")(hdb:(x ==("__debug__" : g8))=Ij)
  (he:starEach (e::es) X.env=(Ij,eval e X.env)::starEach es X.env) (hpl:(backTo pos (starEach es X.env)).any (·.1)=Ij) (ha:PA X (e::es) t):PE X (.Call (.Name x p) (e::es) [] pos) (tCB r t):=xP hc hg hm hv ha hn hdb he hpl
def m_own{P:j9}{w:n5}{K:b7}{mg:g8->Option c7}{B:n9}(h:Has P w K mg B x n ps sp)(e1:X.prog=P/\X.w=w/\X.K=K/\X.mg=mg/\X.base=B)(hr:rX n X.A)(hg:Gl X x)(hdb:(x ==("__debug__" : g8))=Ij)
  (he:starEach (e::es) X.env=(Ij,eval e X.env)::starEach es X.env) (hpl:(backTo pos (starEach es X.env)).any (·.1)=Ij) (ha:PA X (e::es) t):PE X (.Call (.Name x p) (e::es) [] pos) (dM sp [] E0 t):=by
 obtain⟨rfl,rfl,rfl,rfl,rfl⟩:=e1;rwa[uK h hr hg ha hdb he hpl]
def yE(i:Nat){te:TE}{pos':Ck}(hN:X.N.Nodup)(he:PE X e te)(hi:X.N[i]?=Ig x:=by rfl)(hx:Loc X.env.scope x:=by first | exact A4 rfl | exact F8 rfl)(hs:swapsWith e (Ig (.Name x pos')) pos.line X.env=pure false:=by rfl)
  (hf:X.fn x=Ii\/X.env.scope.names.lookup x=Ig .local:=by first | exact .inl rfl | exact .inr rfl | assumption):PS X (.Assign [.Name x pos'] e pos) (Tx te (iM i)):=qT hN hi hx he hs hf
def rT(i:Nat)(hN:X.N.Nodup)(hi:X.N[i]?=Ig x:=by rfl)(hx:Loc X.env.scope x:=by first | exact A4 rfl | exact F8 rfl)(hf:X.fn x=Ii\/X.env.scope.names.lookup x=Ig .local:=by first | exact .inl rfl | exact .inr rfl | assumption) :
  PG X (.Name x pos) (iM i):=qO hN hi hx hf
def mY{o:t6}{to:TE}{apos cpos:Ck}(ho:PE X o to)(ha:PA X (e::es) t)
  (hbase:attributeBase o "append" X.env (eval o X.env)=eval o X.env:=by rfl)
  (hfew:((backTo cpos (starEach (e::es) X.env)).all (λx=>!x.1)&&(backToKw cpos (keywordEach [] X.env)).all (λx=>x.1.isSome)
   && decide ((e::es).length+([]:List DP).length+(if ([]:List DP).isEmpty then 0 else 1)<30))=true:=by rfl)
  (hline:(apos.endLine == cpos.line)=true:=by rfl) (hs:starEach (e::es) X.env=(Ij,eval e X.env)::starEach es X.env:=by rfl) (hplain:(backTo cpos (starEach es X.env)).any (·.1)=false:=by rfl) :
  PE X (.Call (.Attribute o "append" apos) (e::es) [] cpos) (tBM X.K "list" au to t):=Wx D7 PySem.F.slot_list_append PySem.F.type_list_append nq ho ha hbase hfew hline hs hplain
end
end L2

namespace L2
def InB(B:n9)(φ:b7->Prop):Prop:=∃ K:b7,K.In B/\φ K
abbrev Cx.withK(X:Cx)(K:b7):Cx:={ X with K:=K }
def Mod.withK{K K':b7}{mg:g8->Option c7}{B:n9}(m:Mod K mg B)(h:K'.In B):Mod K' mg B:={ m with kin:=h }
section
variable{X:Cx}{Ik:List (b9×AL)}{σ:St}{H:Hp}{s:d4}{K:b7}
def Cx.Ok.withK(ok:X.Ok)(h:K.In X.base):(X.withK K).Ok :=
 ⟨ok.mod.withK h,ok.kind,ok.glob,ok.blt,ok.above,ok.inj,ok.has,ok.cab,ok.hd,ok.frames,ok.stk,ok.exf,ok.bs,ok.bsz,ok.noex,ok.exfs,ok.funs,ok.frf⟩
def Cx.Ok.unK(ok:(X.withK K).Ok)(h:Mod X.K X.mg X.base):X.Ok :=
 ⟨h,ok.kind,ok.glob,ok.blt,ok.above,ok.inj,ok.has,ok.cab,ok.hd,ok.frames,ok.stk,ok.exf,ok.bs,ok.bsz,ok.noex,ok.exfs,ok.funs,ok.frf⟩
def Inv.withK(I:Inv X Ik σ H s)(h:K.In X.base):Inv (X.withK K) Ik σ H s:=⟨I.ok.withK h,I.os,I.bare,I.base,I.loc,I.cell,I.free,I.freeC,I.pin,I.hok,I.len⟩
def Inv.unK(I:Inv (X.withK K) Ik σ H s)(h:Mod X.K X.mg X.base):Inv X Ik σ H s:=⟨I.ok.unK h,I.os,I.bare,I.base,I.loc,I.cell,I.free,I.freeC,I.pin,I.hok,I.len⟩
end
section
variable{X:Cx}{o e value:t6}{es:List t6}{f m:g8}{pos pos' apos:Ck}{ta tv:TE}{t:TA}{C g:b9}{n:Nat}{ps:List g8}{sp:Sp}
inductive TFld(C:b9)(f:g8)(x:V)(H:Hp)(Q:VK):Prop where
 | mk (a dx:b9) (fs:List (g8×V)) (v:V) (ex:x=.ref a) (ea:H a=Ig (.ins C dx fs)) (l:fs.lookup f=Ig v) (q:Q v H)
def tFld2(C:b9)(f:g8)(ta:TE):TE:=λσ H Q=>ta σ H λx H1=>TFld C f x H1 Q
def xX(hb:InB X.base λK=>Cls K C/\yb K C f)(he:PE X e ta)(ha:attributeBase e f X.env (eval e X.env)=eval e X.env:=by rfl):PE X (.Attribute e f pos) (tFld2 C f ta):=by
 obtain⟨K,KB,c,n⟩:=hb;intro Ik s σ H Q I h;erw[Vf ha (thn (he Ik s σ H _ I h) λu s1 ⟨x,H1,I1,rx,a,dx,fs,v,ex,ea,l,q⟩=>?_)];subst ex;obtain rfl:u=j6 a:=rx;rwa[dJ (X:=X.withK K) (I1.withK KB) ea c n l λu' s2 I2 ru=>⟨v,H1,I2.unK I.ok.mod,ru,q⟩]
inductive SFld(C:b9)(f:g8)(y x:V)(H:Hp)(Q:Hp->Prop):Prop where
 | mk (a dx:b9) (fs:List (g8×V)) (ex:x=.ref a) (ea:H a=Ig (.ins C dx fs)) (l:fs.length<1000) (q:Q (upd H a (.ins C dx (pP f y fs))))
def sFld2(C:b9)(f:g8)(ta tv:TE):TS:=λD σ H=>tv σ H λy H1=>ta σ H1 λx H2=>SFld C f y x H2 (D.nx σ)
def uu(hb:InB X.base λK=>Cls K C/\yb K C f)(ha:PE X o ta)(hv:PE X value tv)(hs:swapsWith value (Ig (.Attribute o f pos')) pos.line X.env=pure false:=by rfl):PS X (.Assign [.Attribute o f pos'] value pos) (sFld2 C f ta tv):=by
 obtain⟨K,KB,c,n⟩:=hb;intro Ik s σ H D I h;erw[plainObj_wpAny_Assign_Attribute (thn (hv Ik s σ H _ I h) λu s1 ⟨y,H1,I1,ry,q⟩=>thn (ha Ik s1 σ H1 _ I1 q) λov s2 ⟨x,H2,I2,rx,a,dx,fs,ex,ea,l,q2⟩=>?_) hs];subst ex;obtain rfl:ov=j6 a:=rx;rwa[cj (X:=X.withK K) (I2.withK KB) ea c n l ry λs3 I3=>⟨σ,_,I3.unK I.ok.mod,q2⟩]
def jx{x:g8}{p:Ck}(h:Has X.prog X.w X.K X.mg X.base x n ps sp)(hr:rX n X.A)(hg:Gl X x)(hdb:(x ==("__debug__" : g8))=false:=by decide):PE X (.Call (.Name x p) [] [] pos) (dM sp [] E0 YY):=by
 obtain⟨f,fd,F,b,k,m⟩:=h;rwa[Zb F hr hg m k b .nil aH hdb]
def jm(P:j9)(w:n5)(K:b7)(mg:g8->Option c7)(base:n9)(g:b9)(n:Nat)(ps:List g8)(sp:Sp):Prop :=
 ∃ fd:Aq,yX P w K mg base CX0 n g fd ps sp/\∀ us:List c7,us.length=ps.length->bindArgs fd ⟨us,[]⟩=pure (ps.zip us)
inductive TMeth(C:b9)(m:g8)(x:V)(H:Hp)(q:Prop):Prop where
 | mk (a dx:b9) (fs:List (g8×V)) (ex:x=.ref a) (ea:H a=Ig (.ins C dx fs)) (l:fs.lookup m=Ih) (k:q)
def Xn(C:b9)(m:g8)(sp:Sp)(ta:TE)(t:TA):TE:=λσ H Q=>ta σ H λx H1=>TMeth C m x H1 (t σ H1 λvs H2=>sp (x::vs) H2 Q E0)
def fZ{pl:GP Bool}(hb:InB X.base λK=>Cls K C/\hZ K C m g)(h:jm X.prog X.w X.K X.mg X.base g n ps sp)(hr:rX n X.A)(he:PE X o ta)(ha:PA X (e::es) t)
  (hst:starEach (e::es) X.env=(Ij,eval e X.env)::starEach es X.env:=by rfl) (hpl:(backTo pos (starEach es X.env)).any (·.1)=false:=by rfl)
  (ht:eval (.Call (.Attribute o m apos) (e::es) [] pos) X.env=(do
   let ov <- eval o X.env
   standAt apos.atName
   let (f,first) <- holding [ov] (getMethod ov m pl)
   callWith pos f first (backTo pos (starEach (e::es) X.env)) (backToKw pos (keywordEach [] X.env))):=by rfl) :
  PE X (.Call (.Attribute o m apos) (e::es) [] pos) (Xn C m sp ta t):=by
 obtain⟨K,KB,c,hm⟩:=hb;obtain⟨fd,F,b⟩:=h;intro Ik s σ H Q I h;erw[B8 (pl:=pl) (thn (he Ik s σ H _ I h) λu s1 ⟨x,H1,I1,rx,a,dx,fs,ex,ea,l,q⟩=>?_) ht];subst ex;obtain rfl:u=j6 a:=rx;erw[ye (X:=X.withK K) (I1.withK KB) ea c hm l ?_];erw[Bw (first:=[.ref a]) (h₀:=X.base) (K:=K) KB hm.kp (thn (ha pos Ik s1 σ H1 _ I1 q) λus s2 ⟨vs,H2,I2,r,q2⟩=>⟨(I2.withK KB).kIn,?_⟩) hst hpl];rwa[dm (us:=.ref a::us) (vs:=.ref a::vs) (dvs:=[]) (ds:=[]) F hr (.all b) .nil aH I2 (.cons rfl r) (by rw[Bq]; exact q2)]
def wC{pl:GP Bool}(hb:InB X.base λK=>Cls K C/\hZ K C m g)(h:jm X.prog X.w X.K X.mg X.base g n ps sp)(hr:rX n X.A)(he:PE X o ta)
  (ht:eval (.Call (.Attribute o m apos) [] [] pos) X.env=(do
   let ov <- eval o X.env
   standAt apos.atName
   let (f,first) <- holding [ov] (getMethod ov m pl)
   callWith pos f first (backTo pos (starEach [] X.env)) (backToKw pos (keywordEach [] X.env))):=by rfl) :
  PE X (.Call (.Attribute o m apos) [] [] pos) (Xn C m sp ta YY):=by
 obtain⟨K,KB,c,hm⟩:=hb;obtain⟨fd,F,b⟩:=h;intro Ik s σ H Q I h;erw[B8 (pl:=pl) (thn (he Ik s σ H _ I h) λu s1 ⟨x,H1,I1,rx,a,dx,fs,ex,ea,l,q⟩=>?_) ht];subst ex;obtain rfl:u=j6 a:=rx;erw[ye (X:=X.withK K) (I1.withK KB) ea c hm l ?_];rwa[Ct (first:=[.ref a]) (I1.withK KB).kIn hm.kp (dm (us:=[.ref a]) (vs:=[.ref a]) (dvs:=[]) (ds:=[]) F hr (.all b) .nil aH I1 (.cons rfl .nil) q)]
def UM(C:b9)(sp:Sp):TE:=λ_ H Q=>∀ x dx,H x=Ih->H dx=Ih->dx≠x->sp [.ref x] (upd (upd H dx (.own x)) x (.ins C dx [])) (λv H2=>v=.non/\Q (.ref x) H2) E0
def yX.withK{P:j9}{w:n5}{K K':b7}{mg:g8->Option c7}{B:n9}{k:Nat}{f:b9}{fd:Aq}(F:yX P w K mg B CX0 k f fd ps sp)(h:K.In B):yX P w K' mg B CX0 k f fd ps sp :=
 ⟨F.len,λA outer s H args us vs Q E hr e0 hb r hsp=>F.run A outer s H args us vs Q E hr { e0 with mod:=e0.mod.withK h } hb r hsp⟩
def bx{x:g8}{p:Ck}(hb:InB X.base λK=>Mk K C g)(h:jm X.prog X.w X.K X.mg X.base g n ps sp)(hr:rX (n+1) X.A)(hm:X.mg x=Ig (.ref C))(hg:Gl X x:=by rfl)(hdb:(x ==("__debug__" : g8))=false:=by decide) :
  PE X (.Call (.Name x p) [] [] pos) (UM C sp):=by
 obtain⟨K,KB,M⟩:=hb;obtain⟨fd,F,b⟩:=h;intro Ik s σ H Q I h;erw[Ba (sF I hg hm ?_ hdb)];have J:=I.withK KB;erw[Ct J.kIn M.kp (A9 (ZS (X:=X.withK K) (us:=[]) (vs:=[]) (dvs:=[]) (ds:=[]) M (F.withK I.ok.mod.kin) hr (.all b) .nil aH J .nil h) (λu s' ⟨v,H',I',r,q⟩=>⟨v,H',I'.unK I.ok.mod,r,q⟩) λ_ _ z=>z)]
end
end L2

namespace L2
structure M1(X:Cx)(o:t6)(m:g8)(apos:Ck)(e:t6)(cpos:Ck):Prop where
 base:attributeBase o m X.env (eval o X.env)=eval o X.env
 few:((backTo cpos (starEach [e] X.env)).all (λx=>!x.1)&&(backToKw cpos (keywordEach [] X.env)).all (λx=>x.1.isSome)
  && decide (([e]:List t6).length+([]:List DP).length+(if ([]:List DP).isEmpty then 0 else 1)<30))=Ii
 line:(apos.endLine == cpos.line)=Ii
 trees:backTo cpos (starEach [e] X.env)=[(Ij,eval e X.env)]
structure M2(X:Cx)(o:t6)(m:g8)(apos:Ck)(e f:t6)(cpos:Ck):Prop where
 base:attributeBase o m X.env (eval o X.env)=eval o X.env
 few:((backTo cpos (starEach [e,f] X.env)).all (λx=>!x.1)&&(backToKw cpos (keywordEach [] X.env)).all (λx=>x.1.isSome)
  && decide (([e,f]:List t6).length+([]:List DP).length+(if ([]:List DP).isEmpty then 0 else 1)<30))=Ii
 line:(apos.endLine == cpos.line)=Ii
 trees:backTo cpos (starEach [e,f] X.env)=[(Ij,eval e X.env),(Ij,eval f X.env)]

def IsD(H:Hp)(a:b9):Prop:=(∃ kvs,Rd H a (.dK kvs))\/∃ kvs,Rd H a (.dT kvs)
def UU{X:Cx}{Ik:List (b9×AL)}{σ:St}{H:Hp}{s:d4}{a:b9}(I:Inv X Ik σ H s)(d:IsD H a) :
  s.TypeIs (.ref a) "dict" /\ (∀ b,j6 a=.ref b->∃ ob,s.heap.get? b=Ig ob/\ob.dict=Ih)/\(a == sysModules)=false:=by
 rcases d with ⟨kvs,e⟩ | ⟨kvs,e⟩
 ·obtain⟨_,hd,vs,_,dd⟩:=lW I.hok e;erw[dd.typeIs,λb q=>?_,hd];cases q;obtain⟨ob,_,_,h1,h2,_⟩:=dd;rwa[ob,h1,h2.2.1]
 ·obtain⟨_,hd,xs,_,dd⟩:=de I.hok e;erw[dd.typeIs,λb q=>?_,hd];cases q;obtain⟨ob,_,_,h1,h2,_⟩:=dd;rwa[ob,h1,h2.2.1]


def VP(td ty:TE):TE:=λσ H Q=>td σ H λx H1=>∃ a,x=.ref a/\IsD H1 a/\ty σ H1 λy H2=>∃ kvs k v,H2 a=Ig (.dK kvs)/\y=kV k/\wN kvs k=Ig v/\Q v (upd H2 a (.dK (qe kvs k)))
section
variable{X:Cx}{o e f:t6}{apos cpos:Ck}{td ty tx:TE}
def pR(ho:PE X o td)(he:PE X e ty)(m:M1 X o "pop" apos e cpos):PE X (.Call (.Attribute o "pop" apos) [e] [] cpos) (VP td ty):=by
 intro Ik s σ H Q I h;erw[CS m.base m.few m.line DU EJ PySem.F.type_dict_pop (thn (ho Ik s σ H _ I h) λu s1 ⟨x,H1,I1,rx,a,ex,d,q1⟩=>?_)];subst ex;obtain rfl:u=j6 a:=rx;obtain⟨t1,t2,_⟩:=UU I1 d;exists t1,t2;rw[m.trees];erw[CP rfl (C7 (Fp (thn (he Ik s1 σ H1 _ I1 q1) λiv s2 ⟨y,H2,I2,ry,kvs,k,v,ea,ey,l,q2⟩=>FI ?_)))];subst ey;rwa[d_pop I2 ea ry l (.inl rfl) λw' s3 I3 rw'=>⟨v,_,I3,rw',q2⟩]
end

section
variable{X:Cx}{Ik:List (b9×AL)}{σ:St}{H:Hp}{s:d4}{a:b9}{kvs:List (Key×V)}{A:Ab}{E:c7->d4->Prop}
def Ym{Q:c7->d4->Prop}(I:Inv X Ik σ H s)(e:Rd H a (.dK kvs))(h:∀ p s',H p=Ih->Inv X Ik σ (upd H p (.dK kvs)) s'->Q (.ref p) s'):wpAny (model X.prog X.w) A (call (.type "dict") [.ref a]) Q E s:=by
 obtain⟨z,hd,vs,rel,dd⟩:=lW I.hok e;erw[kt_call_dict hd dd (by rw[<- rel.length]; rwa[z]) λh' dd' hs=>?_];erw[h _ _ (I.hok.fresh (d6 _)) (I.laid (a:=s.heap.objs.size) (o:=.dK kvs) (t':=s.toks) (λb q hq=>?_) (d6 _) (kX z (x5.mpr (AG (l6 I.big))) rel dd'))];exact(hs.2 b (l6 (f9 hq))).trans (c9 _ hq)
end


end L2


namespace L2
section
variable{X:Cx}{Ik:List (b9×AL)}{σ:St}{H:Hp}{s:d4}{d:b9}{kvs:List (Key×V)}
def Inv.freeze(I:Inv X Ik σ H s)(hd:H d=Ig (.dK kvs)){o:AL}(ho:s.heap.get? d=Ig o):Inv X Ik σ (upd H d (.frz o (.dK kvs))) s:=by
 have ne:∀{b:b9},H b=Ih->b≠d:=λ{b} n e=>by rw[e,hd] at n; cases n
 have nk:∀{b:b9}{u:HO},H b=Ig u->u≠.dK kvs->upd H d (.frz o (.dK kvs)) b=Ig u:=λ{b u} e z=>by
  rw[zG (λq=>z (by rw[q,hd] at e; exact(p5 e).symm))];rwa[e]
 have nn:∀{b:b9},H b=Ih->upd H d (.frz o (.dK kvs)) b=none:=λ{b} n=>by rw[zG (ne n)]; rwa[n]
 have st:∀(b:b9)(u:HO),xI X.prog X.w H s.heap b u->xI X.prog X.w (upd H d (.frz o (.dK kvs))) s.heap b u:=λb u k =>
  k.stay (λc v _ q=>q) (λc q=>nk q (λz=>nomatch z)) λc xs q=>nk q (λz=>nomatch z)
 refine⟨I.ok,I.os,I.bare,⟨I.base.keep,I.base.slot,λb u e n hx=>nn (I.base.free b u e n hx),I.base.there,λb xs e=>nk (I.base.tups b xs e) (λz=>nomatch z),λb u v e=>nk (I.base.frzs b u v e) (λz=>nomatch z),
  λb ps e=>let ⟨more,q⟩:=I.base.tbls b ps e;⟨more,nk q (λz=>nomatch z)⟩⟩,I.loc,I.cell,nn I.free,λx c e=>nn (I.freeC x c e),λp hp=>?_,λb u e=>?_,I.len⟩
 ·obtain⟨h1,h2,h3⟩:=I.pin p hp;rwa[h1,nn h2,h3]
 ·by_cases eb:b=d
  ·subst eb;rw[zA] at e;cases e;rwa[ho,st b _ (I.hok b _ hd)]
  ·rw[zG eb] at e;rwa[st b u (I.hok b u e)]
def Inv.frzAt(I:Inv X Ik σ H s){o:AL}{es:Array Bk}{ep:Nat}(hd:H d=Ig (.frz o (.dK kvs)))(ho:o.data=.dict es ep) :
  ∃ vs,KV kvs vs/\s.heap.DictAt (yK X.prog X.w) d vs ep/\kvs.length<=sizeLine/\(d == sysModules)=false:=by
 obtain⟨e,z,y,vs,r,o',es',ep',e',c,dt,k,p,n⟩:=(show xI X.prog X.w H s.heap d (.frz o (.dK kvs)) from I.hok d _ hd);rw[e] at e';cases e';rw[ho] at dt;injection dt with d1 d2
 subst d1 d2;rwa[vs,r,⟨o,es,e,c,ho,k,p,n⟩,z,y]
def KV.at{vs:List (Key×c7)} : ∀{kvs:List (Key×V)}{vs:List (Key×c7)}{i:Nat}{k:Key}{v:V},KV kvs vs->kvs[i]?=Ig (k,v)->∃ u,vs[i]?=Ig (k,u)/\xE v u
 | _,_,_,_,_,.nil,e=>by simp at e
 | _,_,0,k,v,.cons (a:=a) (b:=b) ⟨r1,r2⟩ _,e=>by
  simp at e;subst e;exact⟨b.2,by rw[show(k,b.2)=b from by rw[show k=b.1 from r1]]; rfl,r2⟩
 | _,_,i+1,k,v,.cons _ t,e=>KV.at (vs:=[]) (i:=i) t (by simpa using e)
def Itc(φ:Hp->Prop)(xs:List V):It:=⟨λi H=>φ H/\i<xs.length,λi H x H'=>H'=H/\xs[i]?=Ig x,λi H=>φ H/\xs.length<=i⟩
abbrev gR(d:b9)(o:AL)(kvs:List (Key×V))(H:Hp):Prop:=H d=Ig (.frz o (.dK kvs))
def bW{P:j9}{w:n5}{K:b7}{tg:t6}{o:AL}{es:Array Bk}{ep:Nat}(ho:o.data=.dict es ep)(it:b9) :
  Yd P w K tg (Itc (gR d o kvs) (kvs.map (·.2))) [it] it (λi h=>h.IsValIter it d i kvs.length ep) where
 mem:=by simp
 obj:=λi h st b hb=>by
  have e:b=it:=by simpa using hb
  subst e;obtain⟨o,e,c,d⟩:=st;exact⟨o,e,λv z=>by rw[d] at z; cases z⟩
 keep:=λi h h' st k=>st.at λo e=>k it (by simp) o e
 item:=by
  intro X hP hw hK hc i Ik s σ H E I hf st ⟨fz,hi⟩;subst hP hw hK;obtain⟨vs,r,da,_,_⟩:=I.frzAt fz ho;rw[a7] at hi;obtain⟨u,hu,ru⟩:=KV.at (vs:=vs) (k:=kvs[i].1) (v:=kvs[i].2) r (d3 hi);obtain⟨f0,f1,f2,f3,f4,f5⟩:=hf it (by simp);have st':s.heap.IsValIter it d i vs.length ep:=by rw[<- r.length]; rwa[st]
  erw[wpAny_pyNext_values_item st' da hu λh' st2 sb=>?_];have I1:Inv X Ik σ H { s with heap:=h' }:=I.turned (t':=s.toks) (λb o hb e=>(sb.2 b hb).trans e) f0 f1 f3 f4 f5;obtain⟨o,e,c,dd⟩:=id st2;rw[<- r.length] at st2;exact⟨u,U,fB (s:={ s with heap:=h' }) e c dd (by decide) ⟨kvs[i].2,H,I1,ru,⟨U,by rw[d8,d3 hi]; rfl⟩,st2,λb hb=>(hf b hb).1⟩⟩
 done:=by
  intro X hP hw hK hc i Ik s σ H E I hf st ⟨fz,hi⟩;subst hP hw hK;obtain⟨vs,r,da,_,_⟩:=I.frzAt fz ho;rw[a7] at hi;obtain⟨f0,f1,f2,f3,f4,f5⟩:=hf it (by simp);have st':s.heap.IsValIter it d i vs.length ep:=by rw[<- r.length]; rwa[st]
  rwa[wpAny_pyNext_values_end (I.ok.hd hc) st' da (AC (by rw[<- r.length]; exact hi)) λh' eb=>⟨rfl,I.turned (t':=s.toks) (λb o hb e=>eb b o hb e) f0 f1 f3 f4 f5⟩]
 self:=λ_ _ _ _ _ st h=>wpAny_pyIter_valiter st h
def ZN(d:b9)(o:AL)(kvs:List (Key×V))(H H2:Hp):Prop:=H2 d=Ig (.frz o (.dK kvs))/\(∀ b,b≠d->H2 b=H b)/\∀ o',H d=Ig (.frz o' (.dK kvs))->o'=o
def Inv.frozen(I:Inv X Ik σ H s)(hd:Rd H d (.dK kvs)):∃(o:AL)(es:Array Bk)(ep:Nat)(H2:Hp),o.data=.dict es ep/\ZN d o kvs H H2/\Inv X Ik σ H2 s:=by
 obtain⟨z,y,vs,r,o,es,ep,e,c,dt,_⟩:=hd.ok I.hok;rcases hd with hd | ⟨o',hd⟩
 ·exact⟨o,es,ep,_,dt,⟨zA,λb hb=>zG hb,λo' e'=>by rw[hd] at e'; cases e'⟩,I.freeze hd e⟩
 ·obtain⟨e',_⟩:=(show xI X.prog X.w H s.heap d (.frz o' (.dK kvs)) from I.hok d _ hd);rw[e] at e';cases e';exact⟨o,es,ep,H,dt,⟨hd,λ_ _=>rfl,λo' e'=>by rw[hd] at e'; cases e'; rfl⟩,I⟩
def iVals(te:TE):TI:=λσ H R=>te σ H λx H1=>∃(d:b9)(kvs:List (Key×V)),x=.ref d/\Rd H1 d (.dK kvs)/\∀(o:AL)(H2:Hp),ZN d o kvs H1 H2->R (Itc (gR d o kvs) (kvs.map (·.2))) H2
variable{tg l:t6}{te:TE}{apos pos:Ck}
def kG(hl:PE X l te)(hbase:attributeBase l "values" X.env (eval l X.env)=eval l X.env:=by rfl)(hline:(apos.endLine == pos.line)=true:=by rfl):PI X tg (.Call (.Attribute l "values" apos) [] [] pos) (iVals te):=by
 intro Ik s σ H R I h;erw[CS (T := "dict") (id := "dict.values") hbase rfl hline DU Fv F.type_dict_values (thn (hl Ik s σ H _ I h) λv s1 ⟨x,H1,I1,r1,d,kvs,e,hd,q⟩=>?_)];subst e;cases r1;obtain⟨o,es,ep,H2,ho,ft,I2⟩:=I1.frozen hd;obtain⟨vs,r,da,_,ns⟩:=I2.frzAt ft.1 ho;exists da.dictOf.typeIs,da.dictOf.mapOf.noDict;show wpAny _ _ (callWith pos (.builtin "dict.values") [.ref d] [] []) _ _ s1;erw[method_meetsIn Fv F.entry_dict_values rfl (Cu ⟨rfl,da.dictOf.typeIs,F.args_dict_values_1 _,_,meets_dict_values (yK X.prog X.w) d ns,⟨vs,da.dictOf⟩,?_⟩)];erw[wpAny_pyIter_values (knd:=yK X.prog X.w) (d:=d) (kvs:=vs) (ep:=ep) ⟨_,e7 _ rfl,rfl,rfl⟩ (da.push _) ?_];have I3:=I2.kept (t':=s1.toks) (h':=s1.heap.push { cls:=.type "dict_values",data:=.fields #[.ref d] }) λb o e=>c9 _ e;have I4:=I3.kept (t':=s1.toks) (h':=(s1.heap.push { cls:=.type "dict_values",data:=.fields #[.ref d] }).push { cls:=.type "dict_valueiterator",data:=.fields #[.ref d,.int 0 0,.int vs.length 0,.int ep 0] }) λb o e=>c9 _ e;erw[_,[_],_,_,H2,U,I4,bW ho _,⟨_,e7 _ rfl,U,by rw[r.length]; rfl⟩,λb hb=>?_,q o H2 ft];have e:=d9.mp hb;subst e;rwa[I3.fpOk (d6 _) (I3.hok.fresh (d6 _))]
end
end L2

namespace L2
section
variable{φ:Hp->Prop}{xs:List V}{g:TG}{tb:TS}{E:dE}{σ σ0:St}{H H1:Hp}{D:b9}{tt:TT}{te:TE}{Q:VK}
def ZV(Pv:Nat->St->Hp->Prop)(h0:Pv 0 σ H)(hl:∀ i σ H,Pv i σ H->φ H)
  (hs:∀ i x σ H,xs[i]?=Ig x->Pv i σ H->g x σ H λσ2 H2=>tb { E with nx:=Pv (i+1),ct:=Pv (i+1),bk:=E.nx } σ2 H2) (hd:∀ σ H,Pv xs.length σ H->E.nx σ H) :
  ∃ W:Nat->Nat->St->Hp->Prop,(∃ m,W 0 m σ H)/\∀ i m σ H,W i m σ H ->
   ((Itc φ xs).stop i H/\E.nx σ H)\/((Itc φ xs).go i H/\∃ N:St->Hp->Prop,(∀ σ' H',N σ' H'->∃ m',m'<m/\W (i+1) m' σ' H')/\∀ x H',(Itc φ xs).yld i H x H'->g x σ H' λσ2 H2=>tb { E with nx:=N,ct:=N,bk:=E.nx } σ2 H2):=by
 exists λi m σ H=>m=xs.length-i/\i<=xs.length/\Pv i σ H,⟨xs.length,by simp,r9 _,h0⟩;rintro i m σ H ⟨rfl,hi,p⟩;by_cases hlt:i<xs.length
 ·erw[.inr ⟨⟨hl i σ H p,hlt⟩,Pv (i+1),λσ' H' p'=>⟨xs.length-(i+1),by lia,rfl,hlt,p'⟩,λx H' ⟨e,y⟩=>?_⟩];subst e;rwa[hs i x σ _ y p]
 ·have e:i=xs.length:=by lia
  subst e;rwa[.inl ⟨⟨hl _ σ H p,d6 _⟩,hd σ H p⟩]
def UL(Pv:Nat->St->List V->Hp->Prop)(h0:Pv 0 σ0 [] (upd H1 D (.lst [])))(hl:∀ i σ ys H,Pv i σ ys H->φ H/\H D=Ig (.lst ys))
  (hs:∀ i x σ ys H,xs[i]?=Ig x->Pv i σ ys H->g x σ H λσ2 H2=>tt σ2 H2 λb H3 =>
   if b=Ii then te σ2 H3 λy H4=>H4 D=Ig (.lst ys)/\ys.length<sizeLine/\Pv (i+1) σ2 (ys++[y]) (upd H4 D (.lst (ys++[y]))) else Pv (i+1) σ2 ys H3)
  (hd:∀ σ ys H,Pv xs.length σ ys H->Q (.ref D) H):ub (Itc φ xs) D g tt te σ0 H1 Q:=by
 exists λi m σ ys H=>m=xs.length-i/\i<=xs.length/\Pv i σ ys H,⟨xs.length,by simp,r9 _,h0⟩;rintro i m σ ys H ⟨rfl,hi,p⟩;obtain⟨q,qd⟩:=hl i σ ys H p;exists qd;by_cases hlt:i<xs.length
 ·erw[.inr ⟨⟨q,hlt⟩,Pv (i+1),λσ' zs H' z=>⟨xs.length-(i+1),by lia,rfl,hlt,z⟩,λx H' ⟨e,y⟩=>?_⟩];subst e;rwa[hs i x σ ys _ y p]
 ·have e:i=xs.length:=by lia
  subst e;rwa[.inl ⟨⟨q,d6 _⟩,hd σ ys H p⟩]
def lv(Pv:Nat->St->List V->Hp->Prop)(h0:Pv 0 σ0 [] (upd H1 D (.lst [])))(hl:∀ i σ ys H,Pv i σ ys H->φ H/\H D=Ig (.lst ys))
  (hs:∀ i x σ ys H,xs[i]?=Ig x->Pv i σ ys H->g x σ H λσ2 H2=>te σ2 H2 λy H4=>H4 D=Ig (.lst ys)/\ys.length<sizeLine/\Pv (i+1) σ2 (ys++[y]) (upd H4 D (.lst (ys++[y]))))
  (hd:∀ σ ys H,Pv xs.length σ ys H->Q (.ref D) H):ub (Itc φ xs) D g XU te σ0 H1 Q:=UL Pv h0 hl (λi x σ ys H e p=>hs i x σ ys H e p) hd
end
section
variable{X:Cx}{x y:g8}{p pos:Ck}{i e:t6}{es:List t6}{ty:TE}{t:TA}
def dn{n:Int}(hm:∃ k,X.mg x=Ig (.int n k))(hg:Gl X x:=by rfl)(hd:(x ==("__debug__" : g8))=false:=by decide):PE X (.Name x pos) (tC (.int n)):=λ_ _ _ H _ I h=>by
 obtain⟨k,hm⟩:=hm;rwa[sF I hg hm ⟨.int n,H,I,⟨k,rfl⟩,h⟩ hd]
def Vd(P:j9)(w:n5)(B:n9)(a:b9)(kvs:List (Key×V)):Prop:=∃ vs,KV kvs vs/\B.DictOf (yK P w) a vs
def tGet(kvs:List (Key×V))(ty:TE):TE:=λσ H Q=>ty σ H λy H1=>∃(k:Key)(v:V),y=kV k/\wN kvs k=Ig v/\Q v H1
def XG{Ik:List (b9×AL)}{σ:St}{H:Hp}{s:d4}{a:b9}{kvs:List (Key×V)}{k:Key}{v:V}{u:c7}{E:c7->d4->Prop}{Q:c7->d4->Prop}(hb:Vd X.prog X.w X.base a kvs)(I:Inv X Ik σ H s)(l:wN kvs k=Ig v)(r:xE (kV k) u)
  (h:∀ w' s',Inv X Ik σ H s'->xE v w'->Q w' s'):s.TypeIs (.ref a) "dict" /\ wpAny (model X.prog X.w) X.A (getItem (.ref a) u) Q E s:=by
 obtain⟨vs,rel,dd⟩:=hb;have dd:s.heap.DictOf (yK X.prog X.w) a vs:=dd.at λo e=>I.bk a o e;obtain⟨w',hw,rw'⟩:=kH.some_of (v:=v) (o:=valueAt vs k) (by rw[<- l]; rwa[rel.val k]);rwa[dd.typeIs,Gf (kx r) dd.mapOf hw (h w' _ (I.tok _) rw')]
def ZX{a:b9}{kvs:List (Key×V)}(hb:Vd X.prog X.w X.base a kvs)(hm:X.mg x=Ig (.ref a))(hi:PE X i ty)(hs:Tl i:=by exact λ_ _=>rfl)(hg:Gl X x:=by rfl)(hd:(x ==("__debug__" : g8))=false:=by decide) :
  PE X (.Subscript (.Name x p) i pos) (tGet kvs ty):=by
 intro Ik s σ H Q I h;erw[gY Cq.lookup hs (sF I hg hm (thn (hi Ik s σ H _ I h) λiv s2 ⟨y,H2,I2,ry,k,v,ey,l,q2⟩=>?_) hd)];subst ey;rwa[XG hb I2 l ry λw' s3 I3 rw'=>⟨v,H2,I3,rw',q2⟩]
structure TabAt(P:j9)(w:n5)(K:b7)(mg:g8->Option c7)(B:n9)(m:Nat)(kvs:List (Key×V))(k:Key)(sp:Sp):Prop where
 mk ::
 has:∃(x:g8)(f:b9)(n:Nat)(ps:List g8),wN kvs k=Ig (.ref f)/\mg x=Ig (.ref f)/\Has P w K mg B x n ps sp/\n<=m
end
def xf:bootBuiltins "dict" = Ig (.type "dict"):=by ac_nf
section
variable{X:Cx}
def rO:uU X (.type "dict") (λxs H Q=>∃(a:b9)(kvs:List (Key×V)),xs=[.ref a]/\Rd H a (.dK kvs)/\∀ p,H p=Ih->Q (.ref p) (upd H p (.dK kvs))):=by
 intro Ik s σ H xs us Q I r h;obtain⟨a,kvs,rfl,ha,q⟩:=h;obtain⟨u,rfl,ru⟩:=kT r;cases ru;rwa[Ym I ha λp s' hp I'=>⟨.ref p,_,I',rfl,q p hp⟩]
def vR:uU X (.builtin "len") (λxs H Q=>∃(a:b9)(kvs:List (Key×V)),xs=[.ref a]/\Rd H a (.dK kvs)/\Q (.int kvs.length) H):=by
 intro Ik s σ H xs us Q I r h;obtain⟨a,kvs,rfl,ha,q⟩:=h;obtain⟨u,rfl,ru⟩:=kT r;cases ru;rwa[d_len I ha λt s' I'=>⟨.int kvs.length,H,I',⟨t,rfl⟩,q⟩]
def jB{P:j9}{w:n5} : ∀{es:List Bk}{kvs:List (Key×V)}{vs:List (Key×c7)},KV kvs vs->Pairs (yK P w) es vs->yP (kvs.map λkv=>kV kv.1) (es.map (·.key))
 | _,_,_,.nil,.nil=>.nil
 | _,_,_,.cons ⟨r1,_⟩ t,.cons hk _ p=>by
  erw[.cons ?_ (jB t p)];dsimp only;rw[r1];rcases yQ hk with ⟨j,t,e1,e2⟩ | ⟨x,t,e1,e2⟩
  ·rw[e1,e2]; rwa[t,U]
  ·rw[e1,e2]; rwa[t,U]
def sg(hc:X.calm=Ii):uU X (.type "list") (λxs H Q=>∃(d:b9)(kvs:List (Key×V)),xs=[.ref d]/\Rd H d (.dK kvs)/\∀ p,H p=Ih->Q (.ref p) (upd H p (.lst (kvs.map λkv=>kV kv.1)))):=by
 intro Ik s σ H xs us Q I r h;obtain⟨d,kvs,rfl,hd,q⟩:=h;obtain⟨u,rfl,ru⟩:=yP.one r;cases ru;obtain⟨hz,hsm,vs,rel,ob,es,age,g,ex,dat,hk,hp,hn⟩:=lW I.hok hd;have vk:=jB rel hp;have hsz:es.size=kvs.length:=by
  have z:=vk.length;rw[a7,a7,Aj] at z;rwa[z.symm]
 refine PySem.W.kdl_call (WH (rows:=es) (age:=age) hsm) (show X.A.handled=Ih from I.ok.hd hc) ⟨ob,g,ex,dat⟩ (by rw[hsz]; exact hz) λh' tk acc c keep at' its=>?_;have eqs:acc.toList=es.toList.map (·.key):=by
  erw[DS λj=>?_];by_cases hj:j<es.size
  ·have ja:j<acc.size:=by rw[its.1]; rwa[hj]
   obtain⟨hj',e⟩:=its.2 j acc[j] (by simp[ja]);rw[B7,A6 ja,e,d8,B7,A6 hj];rfl
  ·rw[AC (by rw[Aj,its.1]; lia),AC (by simp; lia)]
 erw[.ref s.heap.objs.size,_,I.laid (t':=tk) (a:=s.heap.objs.size) (o:=.lst (kvs.map λkv=>kV kv.1)) keep (d6 _) ?_,U,q _ (I.hok.fresh (d6 _))];exists by rw[a7]; exact hz,_,c,vk;rw[<- eqs,EY];rwa[at']
end
end L2

namespace L2
def qi(x:g8):List V:=x.cps.toList.map λc=>.str ⟨#[c]⟩
section
variable{X:Cx}{tg l:t6}{te:TE}
def Yj{P:j9}{w:n5}{K:b7}{tg:t6}(x:g8)(t:Ia)(it:b9):Yd P w K tg (Itc (λ_=>True) (qi x)) [it] it (λi h=>h.IsStrIter it "str_ascii_iterator" x t i) where
 mem:=by simp
 obj:=λi h st b hb=>by
  have e:b=it:=by simpa using hb
  subst e;obtain⟨o,e,c,d⟩:=st;exact⟨o,e,λv z=>by rw[d] at z; cases z⟩
 keep:=λi h h' ⟨o,ho,r⟩ k=>⟨o,k it (by simp) o ho,r⟩
 item:=by
  intro X hP hw hK hc i Ik s σ H E I hf st ⟨_,hi⟩;subst hP hw hK;have hi':i<x.cps.size:=by unfold qi at hi; rw[a7,Aj] at hi; rwa[hi]
  obtain⟨f0,f1,f2,f3,f4,f5⟩:=hf it (by simp);erw[wpAny_pyNext_ascii_item st (c:=x.cps[i]) (A6 hi') λh' st2 sb=>?_];have I1:Inv X Ik σ H { s with heap:=h',toks:=s.toks+1 }:=I.turned (t':=s.toks+1) (λb o hb e=>(sb.2 b hb).trans e) f0 f1 f3 f4 f5;obtain⟨o,e,c,dd⟩:=id st2;exact⟨_,U,fB (s:={ s with heap:=h',toks:=s.toks+1 }) e c dd (by decide) ⟨.str ⟨#[x.cps[i]]⟩,H,I1,⟨_,U⟩,⟨U,by unfold qi; rw[d8,B7,A6 hi']; rfl⟩,st2,λb hb=>(hf b hb).1⟩⟩
 done:=by
  intro X hP hw hK hc i Ik s σ H E I hf st ⟨_,hi⟩;subst hP hw hK;have hi':x.cps.size<=i:=by unfold qi at hi; rw[a7,Aj] at hi; rwa[hi]
  obtain⟨f0,f1,f2,f3,f4,f5⟩:=hf it (by simp);rwa[wpAny_pyNext_ascii_end (I.ok.hd hc) st (BX hi') λh' eb=>⟨rfl,I.turned (t':=s.toks) (λb o hb e=>eb b o hb e) f0 f1 f3 f4 f5⟩]
 self:=λ_ _ _ _ _ st h=>wpAny_pyIter_striter_ascii st h
def iStr(te:TE):TI:=λσ H R=>te σ H λv H1=>∃ x:g8,v=.str x/\x.cps.all (· < 128)=Ii/\R (Itc (λ_=>True) (qi x)) H1
def cP(hl:PE X l te):PI X tg l (iStr te):=by
 intro Ik s σ H R I h;erw[thn (hl Ik s σ H _ I h) λv s1 ⟨y,H1,I1,r1,x,e,ha,q⟩=>?_];subst e;obtain⟨t,rfl⟩:=r1;erw[wpAny_pyIter_ascii ha ?_];erw[s1.heap.objs.size,[s1.heap.objs.size],_,_,H1,U,I1.kept (t':=s1.toks) λb o e=>c9 _ e,Yj x t _,⟨_,e7 _ rfl,U,U⟩,λb hb=>?_,q];have e:b=s1.heap.objs.size:=by simpa using hb
 subst e;rwa[I1.fpOk (d6 _) (I1.hok.fresh (d6 _))]
def jN:OpR X (compareOp .LtE) (λx y H Q=>∃ i j,x=.str i/\y=.str j/\Q (.bl (!decide (j.cps.toList<i.cps.toList))) H):=by
 intro Ik s σ H x y v u Q I rx ry h;obtain⟨i,j,rfl,rfl,q⟩:=h;obtain⟨t,rfl⟩:=rx;obtain⟨t',rfl⟩:=ry;rwa[PySem.P.le_str (yV I q rfl)]
def XF:SlR X (λx lo hi H Q=>∃ z:g8,x=.str z/\z.length<=sizeLine/\Q (.str (Cn z lo hi)) H):=by
 intro Ik s σ H x v vl vu lo hi sl Q I rx hs pl pu h;obtain⟨z,rfl,hz,q⟩:=h;obtain⟨t,rfl⟩:=rx;have fin:∀(l u:Option (Int×Ia)),l.map (·.1)=lo->u.map (·.1)=hi->(sliceMade z t l u Ih).post (EP X Ik σ Q) s:=λl u e1 e2=>by
  subst e1 e2;rwa[post_val_or_str (t:=t) (s:=s) (Q:=EP X Ik σ Q) ⟨j8 (Em z _ _) hz,λt' k=>⟨.str (Cn z _ _),H,I.tok k,⟨t',rfl⟩,q⟩⟩]
 exists "str",_,F.slot_str_getitem.lookup,typeIs_str _ _ _;obtain⟨o,ho,hc,hd⟩:=hs;cases pl with
 | none =>
  cases pu with
  | none=>rwa[BU (l:=Ih) (u:=Ih) (st:=Ih) ⟨o,ho,hc,hd⟩ rfl (fin Ih Ih rfl rfl)]
  | int j tj=>rwa[BU (l:=Ih) (u:=Ig (j,tj)) (st:=Ih) ⟨o,ho,hc,hd⟩ rfl (fin Ih (Ig (j,tj)) rfl rfl)]
 | int i ti =>
  cases pu with
  | none=>rwa[BU (l:=Ig (i,ti)) (u:=Ih) (st:=Ih) ⟨o,ho,hc,hd⟩ rfl (fin (Ig (i,ti)) Ih rfl rfl)]
  | int j tj=>rwa[BU (l:=Ig (i,ti)) (u:=Ig (j,tj)) (st:=Ih) ⟨o,ho,hc,hd⟩ rfl (fin (Ig (i,ti)) (Ig (j,tj)) rfl rfl)]
def kI:∀{ts:List g8}{us:List c7},yP (ts.map V.str) us->∃ l:List (g8×Ia),us=strValues l/\l.map (·.1)=ts
 | [],_,.nil=>⟨[],rfl,rfl⟩
 | x::ts,_,.cons ⟨t,e⟩ r=>by
  obtain⟨l,e1,e2⟩:=kI r;subst e;rwa[(x,t)::l,by rw[e1]; rfl,by rw[l9,e2]]
def aU(sep:g8):∀ zs:List g8,(D8 sep zs).length<=(zs.map (·.length)).sum+zs.length*sep.length
 | []=>r9 _
 | [y]=>by
  show y.length<=_;simp
 | y::z::l=>by
  have ih:=aU sep (z::l);have e:(D8 sep (y::z::l)).length=y.length+sep.length+(D8 sep (z::l)).length:=by
   show(y++sep++D8 sep (z::l)).length=_;rw[strLen_append,strLen_append]
  rw[e];simp only[l9,Hq,m9,HH] at ih ⊢;lia
def ut(sep:g8)(ts:List g8):Nat:=(ts.map (·.length)).sum+ts.length*sep.length
def Zy:MtR X "str.join" (λx xs H Q=>∃(sep:g8)(a:b9)(ts:List g8),x=.str sep/\xs=[.ref a]/\SqL X.K H a (ts.map V.str)/\ut sep ts<=sizeLine/\Q (.str (CT sep ts)) H):=by
 intro Ik s σ H x xs v us Q I rx rv h;obtain⟨sep,a,ts,rfl,rfl,ha,hl,q⟩:=h;obtain⟨t,rfl⟩:=rx;obtain⟨u,rfl,ru⟩:=yP.one rv;cases ru;obtain⟨its,r,p,_⟩:=I.list ha;obtain⟨l,rfl,el⟩:=kI r;have ht:Builtin.Str.tooLong ((l.map (·.1)).toArray.foldl (· + ·.length+sep.length) 0)=false:=by
  rw[el,HA];exact x3 (by unfold ut at hl; lia)
 refine call_meets EO (typeIs_str _ _ _) F.entry_str_join (F.args_str_join_2 _ _) (meets_str_join_list sep t a l ht) ⟨p.isList,?_⟩;have gl:∀ zs:List g8,(CT sep zs).length<=ut sep zs:=λzs=>by
  rw[Dq];rwa[aU sep zs]
 match l,el with
 | [],el =>
  subst el;rwa[j8 (gl []) hl,⟨.str _,H,I.tok _,⟨_,U⟩,q⟩]
 | [y],el =>
  subst el;rwa[.str y.1,H,I,⟨y.2,U⟩,q]
 | y::z::l,el =>
  subst el;rwa[j8 (gl _) hl,⟨.str _,H,I.tok _,⟨_,U⟩,q⟩]
end
end L2

namespace Sea
inductive Dt where
 | int (i:Int)
 | str (x:g8)
 | tup (l:List Dt)
mutual
def Rep(H:Hp):Dt->V->Prop
 | .int i,v=>v=.int i
 | .str x,v=>v=.str x
 | .tup l,v=>∃(a:b9)(xs:List V),v=.ref a/\H a=Ig (.tup xs)/\xK H l xs
def xK(H:Hp):List Dt->List V->Prop
 | [],xs=>xs=[]
 | d::l,xs=>∃(x:V)(r:List V),xs=x::r/\Rep H d x/\xK H l r
end
def yY(φ:b9->Prop)(H H':Hp):Prop:=∀ b o,¬ φ b->H b=Ig o->H' b=Ig o\/∃(ob:AL)(kvs:List (Key×V)),o=.dK kvs/\H' b=Ig (.frz ob (.dK kvs))
abbrev Sam(H H':Hp):Prop:=yY (λ_=>False) H H'
section
variable{φ ψ:b9->Prop}{H H1 H2:Hp}{a:b9}{xs:List V}
def yY.of(s:Same H H1):yY φ H H1:=λb o _ e=>.inl (s b o e)
def yY.refl(H:Hp):yY φ H H:=λ_ _ _ e=>.inl e
def yY.trans(s:yY φ H H1)(t:yY φ H1 H2):yY φ H H2:=λb o n e=>by
 rcases s b o n e with e1 | ⟨ob,kvs,e0,e1⟩
 ·rwa[t b o n e1]
 ·subst e0;rcases t b _ n e1 with e2 | ⟨_,_,z,_⟩
  ·rwa[.inr ⟨ob,kvs,rfl,e2⟩]
  ·cases z
def yY.wider(s:yY φ H H1)(h:∀ b,φ b->ψ b):yY ψ H H1:=λb o n e=>s b o (λz=>n (h b z)) e
def yY.lst(s:yY φ H H1)(n:¬ φ a)(e:H a=Ig (.lst xs)):H1 a=Ig (.lst xs):=by
 rcases s a _ n e with z | ⟨_,_,z,_⟩
 ·rwa[z]
 ·cases z
def yY.tup(s:yY φ H H1)(n:¬ φ a)(e:H a=Ig (.tup xs)):H1 a=Ig (.tup xs):=by
 rcases s a _ n e with z | ⟨_,_,z,_⟩
 ·rwa[z]
 ·cases z
def yY.ins(s:yY φ H H1)(n:¬ φ a){C dx:b9}{fs:List (g8×V)}(e:H a=Ig (.ins C dx fs)):H1 a=Ig (.ins C dx fs):=by
 rcases s a _ n e with z | ⟨_,_,z,_⟩
 ·rwa[z]
 ·cases z
def yY.rd(s:yY φ H H1)(n:¬ φ a){kvs:List (Key×V)}(e:Rd H a (.dK kvs)):Rd H1 a (.dK kvs):=by
 rcases e with e | ⟨ob,e⟩
 ·rcases s a _ n e with z | ⟨ob,kvs',z,w⟩
  ·rwa[.inl z]
  ·cases z;rwa[.inr ⟨ob,w⟩]
 ·rcases s a _ n e with z | ⟨_,_,z,_⟩
  ·rwa[.inr ⟨ob,z⟩]
  ·cases z
def yY.some(s:yY φ H H1)(n:¬ φ a){o:HO}(e:H a=Ig o):∃ o',H1 a=Ig o':=by
 rcases s a _ n e with z | ⟨_,_,_,w⟩
 ·rwa[_,z]
 ·rwa[_,w]
def yY.free(s:yY φ H H1)(n:¬ φ a)(e:H1 a=Ih):H a=none:=by
 cases q:H a with
 | none=>rfl
 | some o =>
  obtain⟨o',z⟩:=s.some n q;rw[e] at z;cases z
def nh{d:b9}{o:AL}{kvs:List (Key×V)}(hd:Rd H d (.dK kvs))(f:ZN d o kvs H H1):yY φ H H1:=λb u _ e=>by
 by_cases z:b=d
 ·subst z;rcases hd with hd | ⟨o',hd⟩
  ·rw[hd] at e;cases e;rwa[.inr ⟨o,kvs,rfl,f.1⟩]
  ·rw[hd] at e;cases e;rw[<- f.2.2 o' hd] at f;rwa[.inl f.1]
 ·rwa[.inl (by rw[f.2.1 b z]; exact e)]
end
mutual
def Rep.sam{φ:b9->Prop}{H H1:Hp}(s:yY φ H H1)(np:∀ b xs,H b=Ig (.tup xs)->¬ φ b):∀{d:Dt}{v:V},Rep H d v->Rep H1 d v
 | .int _,_,h=>by rw[Rep] at h ⊢; rwa[h]
 | .str _,_,h=>by rw[Rep] at h ⊢; rwa[h]
 | .tup l,v,h=>by
  rw[Rep] at h ⊢;obtain⟨a,xs,e,h1,h2⟩:=h;rwa[a,xs,e,s.tup (np a xs h1) h1,xK.sam s np h2]
def xK.sam{φ:b9->Prop}{H H1:Hp}(s:yY φ H H1)(np:∀ b xs,H b=Ig (.tup xs)->¬ φ b):∀{l:List Dt}{xs:List V},xK H l xs->xK H1 l xs
 | [],_,h=>by rw[xK] at h ⊢; rwa[h]
 | d::l,xs,h=>by
  rw[xK] at h ⊢;obtain⟨x,r,e,h1,h2⟩:=h;rwa[x,r,e,Rep.sam s np h1,xK.sam s np h2]
end
section
variable{H H1:Hp}
def no_f{H:Hp} : ∀ b xs,H b=Ig (.tup xs)->¬ (λ_:b9=>False) b:=λ_ _ _ z=>z
def Rep.to{d:Dt}{v:V}(h:Rep H d v)(s:Sam H H1):Rep H1 d v:=h.sam s no_f
def xK.to{l:List Dt}{xs:List V}(h:xK H l xs)(s:Sam H H1):xK H1 l xs:=h.sam s no_f
def yB{i:Int}{v:V} : Rep H (.int i) v↔v=.int i:=by rw[Rep]
def zW{x:g8}{v:V} : Rep H (.str x) v↔v=.str x:=by rw[Rep]
def yF{l:List Dt}{v:V} : Rep H (.tup l) v↔∃(a:b9)(xs:List V),v=.ref a/\H a=Ig (.tup xs)/\xK H l xs:=by rw[Rep]
def zY{xs:List V} : xK H [] xs↔xs=[]:=by rw[xK]
def zL{d:Dt}{l:List Dt}{xs:List V} : xK H (d::l) xs↔∃(x:V)(r:List V),xs=x::r/\Rep H d x/\xK H l r:=by rw[xK]
def xK.length:∀{l:List Dt}{xs:List V},xK H l xs->xs.length=l.length
 | [],_,h=>by rw[zY.mp h]; rfl
 | d::l,_,h=>by
  obtain⟨x,r,e,_,h2⟩:=zL.mp h;rw[e,m9,m9,xK.length h2]
def xK.at:∀{l:List Dt}{xs:List V}{i:Nat}{d:Dt},xK H l xs->l[i]?=Ig d->∃ x,xs[i]?=Ig x/\Rep H d x
 | [],_,_,_,_,e=>by simp at e
 | d::l,_,0,_,h,e=>by
  obtain⟨x,r,ex,h1,_⟩:=zL.mp h;simp at e;subst e;rwa[x,by rw[ex]; rfl,h1]
 | d::l,_,i+1,d',h,e=>by
  obtain⟨x,r,ex,_,h2⟩:=zL.mp h;obtain⟨y,h3,h4⟩:=xK.at (i:=i) (d:=d') h2 (by simpa using e);exact⟨y,by rw[ex]; simpa using h3,h4⟩
def xK.back:∀{l:List Dt}{xs:List V}{i:Nat}{x:V},xK H l xs->xs[i]?=Ig x->∃ d,l[i]?=Ig d/\Rep H d x
 | [],_,i,x,h,e=>by rw[zY.mp h] at e; simp at e
 | d::l,_,0,x,h,e=>by
  obtain⟨y,r,ex,h1,_⟩:=zL.mp h;rw[ex] at e;simp at e;subst e;rwa[d,U,h1]
 | d::l,_,i+1,x,h,e=>by
  obtain⟨y,r,ex,_,h2⟩:=zL.mp h;rw[ex] at e;obtain⟨d',h3,h4⟩:=xK.back (i:=i) (x:=x) h2 (by simpa using e);exact⟨d',by simpa using h3,h4⟩
def xK.app:∀{l m:List Dt}{xs ys:List V},xK H l xs->xK H m ys->xK H (l++m) (xs++ys)
 | [],_,_,_,h,k=>by rw[zY.mp h]; rwa[k]
 | d::l,_,_,_,h,k=>by
  obtain⟨x,r,e,h1,h2⟩:=zL.mp h;rw[e];rwa[zL.mpr ⟨x,_,rfl,h1,xK.app h2 k⟩]
def xK.one{d:Dt}{v:V}(h:Rep H d v):xK H [d] [v]:=zL.mpr ⟨v,[],rfl,h,zY.mpr rfl⟩
def xK.two{d e:Dt}{v u:V}(h:Rep H d v)(k:Rep H e u):xK H [d,e] [v,u]:=zL.mpr ⟨v,_,rfl,h,.one k⟩
end
structure xS(H:Hp)(kvs:List (Key×V))(es:List (Key×Dt)):Prop where
 keys:kvs.map (·.1)=es.map (·.1)
 vals:xK H (es.map (·.2)) (kvs.map (·.2))
def yw(H:Hp)(a:b9)(es:List (Key×Dt)):Prop:=∃ kvs,Rd H a (.dK kvs)/\xS H kvs es
def look(es:List (Key×Dt))(k:Key):Option Dt:=(es.find? λe=>decide (e.1=k)).map (·.2)
def XS(es:List (Key×Dt))(k:Key)(d:Dt):List (Key×Dt):=if es.any (λe=>decide (e.1=k)) then es.map λe=>if e.1=k then(e.1,d) else e else es++[(k,d)]
def ic(es:List (Key×Dt))(k:Key):List (Key×Dt):=es.filter λe=>decide (e.1≠k)
def xS.nil{H:Hp} : xS H [] []:=⟨rfl,zY.mpr rfl⟩
def xS.cons_iff{H:Hp}{kvs:List (Key×V)}{k:Key}{d:Dt}{es:List (Key×Dt)} : xS H kvs ((k,d)::es)↔∃(v:V)(r:List (Key×V)),kvs=(k,v)::r/\Rep H d v/\xS H r es:=by
 constructor
 ·rintro⟨h1,h2⟩;cases kvs with
  | nil=>simp at h1
  | cons p r =>
   obtain⟨k',v⟩:=p;simp only[l9,Ey] at h1;obtain⟨e1,e2⟩:=h1;subst e1;obtain⟨x,r',e,h3,h4⟩:=zL.mp h2;simp only[l9,Ey] at e;obtain⟨e3,e4⟩:=e;subst e3 e4;rwa[v,r,U,h3,e2,h4]
 ·rintro⟨v,r,rfl,h1,h2⟩;rwa[by simp[h2.keys],zL.mpr ⟨v,_,U,h1,h2.vals⟩]
def xS.nil_iff{H:Hp}{kvs:List (Key×V)}(h:xS H kvs []):kvs=[]:=by
 have:=h.keys;simpa using this
def xS.to{H H1:Hp}{kvs:List (Key×V)}{es:List (Key×Dt)}(h:xS H kvs es)(s:Sam H H1):xS H1 kvs es:=⟨h.keys,h.vals.to s⟩
def xS.sam{φ:b9->Prop}{H H1:Hp}{kvs:List (Key×V)}{es:List (Key×Dt)}(h:xS H kvs es)(s:yY φ H H1)(np:∀ b xs,H b=Ig (.tup xs)->¬ φ b):xS H1 kvs es:=⟨h.keys,h.vals.sam s np⟩
def yw.to{H H1:Hp}{a:b9}{es:List (Key×Dt)}(h:yw H a es)(s:Sam H H1):yw H1 a es:=let ⟨kvs,h1,h2⟩:=h;⟨kvs,s.rd id h1,h2.to s⟩
def xS.length{H:Hp}{kvs:List (Key×V)}{es:List (Key×Dt)}(h:xS H kvs es):kvs.length=es.length:=by
 have:=congrArg A3 h.keys;simpa using this
def xS.get{H:Hp}{k:Key} : ∀{es:List (Key×Dt)}{kvs:List (Key×V)}{d:Dt},xS H kvs es->look es k=Ig d->∃ v,wN kvs k=Ig v/\Rep H d v
 | [],_,_,_,e=>by simp[look] at e
 | (k',d')::es,kvs,d,h,e=>by
  obtain⟨v,r,rfl,h1,h2⟩:=xS.cons_iff.mp h;by_cases z:k'=k
  ·rw[wT z];simp only[look,As,q0 z,B3,DV] at e;subst e;rwa[v,U,h1]
  ·rw[wK z];erw[xS.get h2 ?_];simp only[look,As,x3 z] at e;rwa[e]
def xS.none{H:Hp}{k:Key} : ∀{es:List (Key×Dt)}{kvs:List (Key×V)},xS H kvs es->look es k=Ih->wN kvs k=Ih
 | [],_,h,_=>by rw[h.nil_iff]; rfl
 | (k',d')::es,kvs,h,e=>by
  obtain⟨v,r,rfl,h1,h2⟩:=xS.cons_iff.mp h;by_cases z:k'=k
  ·simp[look,As,z] at e
  ·rw[wK z];erw[xS.none h2 ?_];simp only[look,As,x3 z] at e;rwa[e]
def xS.isSome{H:Hp}{k:Key}{es:List (Key×Dt)}{kvs:List (Key×V)}(h:xS H kvs es):(wN kvs k).isSome=(look es k).isSome:=by
 cases e:look es k with
 | none=>rw[h.none e]; rfl
 | some d =>
  obtain⟨v,z,_⟩:=h.get e;rw[z];rfl
def xS.any{H:Hp}{k:Key} : ∀{es:List (Key×Dt)}{kvs:List (Key×V)},xS H kvs es->(kvs.any λe=>decide (e.1=k))=es.any λe=>decide (e.1=k)
 | [],_,h=>by rw[h.nil_iff]; rfl
 | (k',d')::es,kvs,h=>by
  obtain⟨v,r,rfl,h1,h2⟩:=xS.cons_iff.mp h;rw[AQ,AQ,xS.any h2]
def xS.rep{H:Hp}{k:Key}{v:V}{d:Dt}(hv:Rep H d v):∀{es:List (Key×Dt)}{kvs:List (Key×V)},xS H kvs es->xS H (kvs.map λe=>if e.1=k then(e.1,v) else e) (es.map λe=>if e.1=k then(e.1,d) else e)
 | [],_,h=>by rw[h.nil_iff]; rwa[.nil]
 | (k',d')::es,kvs,h=>by
  obtain⟨u,r,rfl,h1,h2⟩:=xS.cons_iff.mp h;rw[l9,l9];by_cases z:k'=k
  ·rw[y9 z,y9 z];rwa[xS.cons_iff.mpr ⟨v,_,rfl,hv,xS.rep hv h2⟩]
  ·rw[y7 z,y7 z];rwa[xS.cons_iff.mpr ⟨u,_,rfl,h1,xS.rep hv h2⟩]
def xS.app{H:Hp}{k:Key}{v:V}{d:Dt}(hv:Rep H d v):∀{es:List (Key×Dt)}{kvs:List (Key×V)},xS H kvs es->xS H (kvs++[(k,v)]) (es++[(k,d)])
 | [],_,h=>by rw[h.nil_iff]; rwa[xS.cons_iff.mpr ⟨v,[],rfl,hv,.nil⟩]
 | (k',d')::es,kvs,h=>by
  obtain⟨u,r,rfl,h1,h2⟩:=xS.cons_iff.mp h;rwa[xS.cons_iff.mpr ⟨u,_,rfl,h1,xS.app hv h2⟩]
def xS.put{H:Hp}{k:Key}{v:V}{d:Dt}{es:List (Key×Dt)}{kvs:List (Key×V)}(h:xS H kvs es)(hv:Rep H d v):xS H (rJ kvs k v) (XS es k d):=by
 unfold rJ XS;rw[h.any];split
 ·rwa[h.rep hv]
 ·rwa[h.app hv]
def xS.drop{H:Hp}{k:Key} : ∀{es:List (Key×Dt)}{kvs:List (Key×V)},xS H kvs es->xS H (qe kvs k) (ic es k)
 | [],_,h=>by rw[h.nil_iff]; rwa[.nil]
 | (k',d')::es,kvs,h=>by
  obtain⟨u,r,rfl,h1,h2⟩:=xS.cons_iff.mp h;unfold qe ic;by_cases z:k'=k
  ·rw[D9 (by simp[z]),D9 (by simp[z])];rwa[xS.drop h2]
  ·rw[Ea (by simp[z]),Ea (by simp[z])];rwa[xS.cons_iff.mpr ⟨u,_,rfl,h1,xS.drop h2⟩]
end Sea

namespace Sea
inductive Deed where
 | mark (n:g8) (x y:Int)
 | move (n:g8) (x y:Int)
 | unmark (n:g8)
 | bank (n:g8) (cs:List (Int×Int))
 | level (n:g8)
 | sail (x y:Int)
 | right (k x y:Int)
 | bearing (m:Int) (n:g8) (a b c d:Int)
 | range (m:Int) (l r:g8)
 | strike (k:Int)
def ptD(p:Int×Int):Dt:=.tup [.int p.1,.int p.2]
def Deed.dt:Deed->Dt
 | .mark n x y=>.tup [.str "mark",.str n,.int x,.int y]
 | .move n x y=>.tup [.str "move",.str n,.int x,.int y]
 | .unmark n=>.tup [.str "unmark",.str n]
 | .bank n cs=>.tup [.str "bank",.str n,.tup (cs.map ptD)]
 | .level n=>.tup [.str "level",.str n]
 | .sail x y=>.tup [.str "sail",.int x,.int y]
 | .right k x y=>.tup [.str "right",.int k,.int x,.int y]
 | .bearing m n a b c d=>.tup [.str "bearing",.int m,.str n,ptD (a,b),ptD (c,d)]
 | .range m l r=>.tup [.str "range",.int m,.str l,.str r]
 | .strike k=>.tup [.str "strike",.int k]
structure BS where
 marks:List (g8×Int×Int)
 banks:List (g8×List (Int×Int))
 runs:List (Int×Int)
 notes:List (Int×Deed)
 coming:Int
def BS.nil:BS:=⟨[],[],[],[],1⟩
def mkE(l:List (g8×Int×Int)):List (Key×Dt):=l.map λe=>(.inr e.1,ptD e.2)
def bkE(l:List (g8×List (Int×Int))):List (Key×Dt):=l.map λe=>(.inr e.1,.tup (e.2.map ptD))
def rnE(l:List (Int×Int)):List (Key×Dt):=l.zipIdx.map λe=>(.inl (e.2:Int),ptD e.1)
def ntE(l:List (Int×Deed)):List (Key×Dt):=l.map λe=>(.inl e.1,e.2.dt)
def stK(m b r n:b9)(k:Int):List (Key×V):=[(.inr "marks",.ref m),(.inr "banks",.ref b),(.inr "runs",.ref r),(.inr "notes",.ref n),(.inr "coming",.int k)]
structure StA(H:Hp)(d m b r n:b9)(S:BS):Prop where
 at_:Rd H d (.dK (stK m b r n S.coming))
 ma:yw H m (mkE S.marks)
 ba:yw H b (bkE S.banks)
 ru:yw H r (rnE S.runs)
 no:yw H n (ntE S.notes)
def fi(H:Hp)(d:b9)(S:BS):Prop:=∃ m b r n,StA H d m b r n S
def StA.to{H H1:Hp}{d m b r n:b9}{S:BS}(h:StA H d m b r n S)(s:Sam H H1):StA H1 d m b r n S:=⟨s.rd id h.at_,h.ma.to s,h.ba.to s,h.ru.to s,h.no.to s⟩
def fi.to{H H1:Hp}{d:b9}{S:BS}(h:fi H d S)(s:Sam H H1):fi H1 d S:=let ⟨m,b,r,n,q⟩:=h;⟨m,b,r,n,q.to s⟩
def zQ(S:BS)(n:g8):Option (Int×Int):=(S.marks.find? λe=>decide (e.1=n)).map (·.2)
def wX{S:BS}{n:g8} : look (mkE S.marks) (.inr n)=(zQ S n).map ptD:=by
 unfold look mkE zQ;rw[List.find?_map];have e:((λe:Key×Dt=>decide (e.1=BR n)) ∘ λe:g8×Int×Int=>((BR e.1,ptD e.2):Key×Dt))=λe=>decide (e.1=n):=by
  funext e
  simp
 rw[e];cases S.marks.find? λe=>decide (e.1=n) <;> rfl
structure Few(S:BS):Prop where
 ma:S.marks.length<=60
 ba:S.banks.length<=60
 ru:S.runs.length<=60
 no:S.notes.length<=60
def wL(x:g8):Prop:=1<=x.length/\x.length<=8/\∀ c∈x.cps.toList,97<=c/\c<=122
def qy(p:Int×Int):Prop:=-1000<=p.1/\p.1<=1000/\-1000<=p.2/\p.2<=1000
def ug(p:Int×Int):Prop:=p≠(0,0)/\-100<=p.1/\p.1<=100/\-100<=p.2/\p.2<=100
def aft(S:BS):Deed->BS
 | .mark n x y=>{ S with marks:=S.marks++[(n,x,y)] }
 | .move n x y=>{ S with marks:=S.marks.map λe=>if e.1=n then(e.1,x,y) else e }
 | .unmark n=>{ S with marks:=S.marks.filter λe=>decide (e.1≠n) }
 | .bank n cs=>{ S with banks:=S.banks++[(n,cs)] }
 | .level n=>{ S with banks:=S.banks.filter λe=>decide (e.1≠n) }
 | .sail x y=>{ S with runs:=S.runs++[(x,y)] }
 | .right k x y=>{ S with runs:=S.runs.set k.toNat (x,y) }
 | .bearing m n a b c d=>{ S with notes:=S.notes++[(S.coming,.bearing m n a b c d)],coming:=S.coming+1 }
 | .range m l r=>{ S with notes:=S.notes++[(S.coming,.range m l r)],coming:=S.coming+1 }
 | .strike k=>{ S with notes:=S.notes.filter λe=>decide (e.1≠k) }
def ui(S:BS):Deed->Prop
 | .bearing _ _ _ _ _ _=>True
 | .range _ l r=>∃ p u,zQ S l=Ig p/\zQ S r=Ig u/\p≠u
 | _=>False
def rQ(n:g8):Deed->Prop
 | .bearing _ k _ _ _ _=>k≠n
 | .range _ l r=>l≠n/\r≠n
 | _=>False
def iL(cs:List (Int×Int)):Bool:=isB (cs.map λc=>(0,c))
def okD(S:BS):Deed->Prop
 | .mark n x y=>wL n/\zQ S n=Ih/\qy (x,y)/\S.marks.length<20
 | .move n x y=>(zQ S n).isSome=Ii/\qy (x,y)/\∀ e∈S.notes,ui (aft S (.move n x y)) e.2
 | .unmark n=>(zQ S n).isSome=Ii/\∀ e∈S.notes,rQ n e.2
 | .bank n cs=>wL n/\n ∉ S.banks.map (·.1)/\(∀ c∈cs,qy c)/\iL cs=Ii/\S.banks.length<8
 | .level n=>n∈S.banks.map (·.1)
 | .sail x y=>qy (x,y)/\S.runs.length<12
 | .right k x y=>0<=k/\k<S.runs.length/\qy (x,y)
 | .bearing m n a b c d=>0<=m/\m<=S.runs.length/\(zQ S n).isSome=Ii/\ug (a,b)/\ug (c,d)/\0<a*d-b*c/\S.notes.length<24
 | .range m l r=>0<=m/\m<=S.runs.length/\(zQ S l).isSome=Ii/\(zQ S r).isSome=Ii/\zQ S l≠zQ S r/\S.notes.length<24
 | .strike k=>k∈S.notes.map (·.1)
def Xz(S:BS):Prop:=∀ e∈S.notes,e.1<S.coming
def sV{es:List (Key×Dt)}{k:Key}{d:Dt}(h:∀ e∈es,e.1≠k):XS es k d=es++[(k,d)]:=by
 unfold XS;rw[y7];intro z;obtain⟨e,he,q⟩:=CZ.mp z;rwa[h e he (of_decide_eq_true q)]
def Zj(l:List (g8×Int×Int))(n:g8)(x y:Int):mkE (l++[(n,x,y)])=mkE l++[(.inr n,ptD (x,y))]:=by
 unfold mkE;rw[j5];rfl
def Wr(l:List (Int×Int))(x y:Int):rnE (l++[(x,y)])=rnE l++[(.inl (l.length:Int),ptD (x,y))]:=by
 unfold rnE;rw[List.zipIdx_append,j5];simp
def gN(l:List (Int×Deed))(k:Int)(D:Deed):ntE (l++[(k,D)])=ntE l++[(.inl k,D.dt)]:=by
 unfold ntE;rw[j5];rfl
def Yl{l:List (Int×Int)} : ∀ e∈rnE l,e.1≠.inl (l.length:Int):=λe he z=>by
 unfold rnE at he;obtain⟨q,hq,rfl⟩:=i4.mp he;obtain⟨q1,q2⟩:=q;have:=DK hq;have z':(BQ (q2:Int):Key)=BQ (l.length:Int):=z;injection z' with z'
 simp at this;lia
def lR{S:BS}(h:Xz S):∀ e∈ntE S.notes,e.1≠.inl S.coming:=λe he z=>by
 unfold ntE at he;obtain⟨q,hq,rfl⟩:=i4.mp he;have:=h q hq;have z':(BQ q.1:Key)=BQ S.coming:=z;injection z' with z'
 lia
def dh{S:BS}{n:g8}(h:zQ S n=Ih):∀ e∈mkE S.marks,e.1≠.inr n:=λe he z=>by
 unfold mkE at he;obtain⟨q,hq,rfl⟩:=i4.mp he;have z':(BR q.1:Key)=BR n:=z;injection z' with z'
 unfold zQ at h;rw[En,BY] at h;rwa[h q hq (by simp[z'])]
def YG(a b c d e:V):rf [] [(.inr "marks",a),(.inr "banks",b),(.inr "runs",c),(.inr "notes",d),(.inr "coming",e)]=[(.inr "marks",a),(.inr "banks",b),(.inr "runs",c),(.inr "notes",d),(.inr "coming",e)]:=by symm
def YC(a b c d e:V):rf [] [(.inr "marks",a),(.inr "banks",b),(.inr "runs",c),(.inr "notes",d),(.inr "next",e)]=[(.inr "marks",a),(.inr "banks",b),(.inr "runs",c),(.inr "notes",d),(.inr "next",e)]:=by symm
def tQ{m b r n:b9}{k:Int} : wN (stK m b r n k) (.inr "marks")=Ig (.ref m):=by symm
def yj{m b r n:b9}{k:Int} : wN (stK m b r n k) (.inr "banks")=Ig (.ref b):=by symm
def rG{m b r n:b9}{k:Int} : wN (stK m b r n k) (.inr "runs")=Ig (.ref r):=by symm
def qH{m b r n:b9}{k:Int} : wN (stK m b r n k) (.inr "notes")=Ig (.ref n):=by symm
def oZ{m b r n:b9}{k:Int} : wN (stK m b r n k) (.inr "coming")=Ig (.int k):=by symm
def oW{m b r n c:b9}{k:Int} : rJ (stK m b r n k) (.inr "marks") (.ref c)=stK c b r n k:=by symm
def jF{m b r n c:b9}{k:Int} : rJ (stK m b r n k) (.inr "banks") (.ref c)=stK m c r n k:=by symm
def eW{m b r n c:b9}{k:Int} : rJ (stK m b r n k) (.inr "runs") (.ref c)=stK m b c n k:=by symm
def jH{m b r n c:b9}{k:Int} : rJ (stK m b r n k) (.inr "notes") (.ref c)=stK m b r c k:=by symm
def dF{m b r n:b9}{k j:Int} : rJ (stK m b r n k) (.inr "coming") (.int j)=stK m b r n j:=by symm
def Rd.same{H H1:Hp}{a:b9}{u:HO}(h:Rd H a u)(s:Same H H1):Rd H1 a u:=h.imp (s _ _) λ⟨o,e⟩=>⟨o,s _ _ e⟩
def yw.nil{H:Hp}{a:b9}(h:H a=Ig (.dK [])):yw H a []:=⟨[],.inl h,.nil⟩
def xz{H:Hp}{p:Int×Int}{v:V}(h:Rep H (ptD p) v):∃ a,v=.ref a/\H a=Ig (.tup [.int p.1,.int p.2]):=by
 obtain⟨a,xs,e,h1,h2⟩:=yF.mp h;obtain⟨x,r,rfl,h3,h4⟩:=zL.mp h2;obtain⟨y,r',rfl,h5,h6⟩:=zL.mp h4;rw[yB.mp h3,yB.mp h5,zY.mp h6] at h1;rwa[a,e,h1]
def vQ{H:Hp}{p:Int×Int}{a:b9}(h:H a=Ig (.tup [.int p.1,.int p.2])):Rep H (ptD p) (.ref a):=yF.mpr ⟨a,_,rfl,h,.two (yB.mpr rfl) (yB.mpr rfl)⟩
section
variable{H:Hp}{v:V}
def lu{n:g8}{x y:Int}(h:Rep H (Deed.mark n x y).dt v):∃ a,v=.ref a/\H a=Ig (.tup [.str "mark",.str n,.int x,.int y]):=by
 obtain⟨a,xs,e,h1,h2⟩:=yF.mp h;obtain⟨_,_,rfl,k1,h2⟩:=zL.mp h2;obtain⟨_,_,rfl,k2,h2⟩:=zL.mp h2;obtain⟨_,_,rfl,k3,h2⟩:=zL.mp h2;obtain⟨_,_,rfl,k4,h2⟩:=zL.mp h2;rw[zW.mp k1,zW.mp k2,yB.mp k3,yB.mp k4,zY.mp h2] at h1;rwa[a,e,h1]
def kz{x y:Int}(h:Rep H (Deed.sail x y).dt v):∃ a,v=.ref a/\H a=Ig (.tup [.str "sail",.int x,.int y]):=by
 obtain⟨a,xs,e,h1,h2⟩:=yF.mp h;obtain⟨_,_,rfl,k1,h2⟩:=zL.mp h2;obtain⟨_,_,rfl,k3,h2⟩:=zL.mp h2;obtain⟨_,_,rfl,k4,h2⟩:=zL.mp h2;rw[zW.mp k1,yB.mp k3,yB.mp k4,zY.mp h2] at h1;rwa[a,e,h1]
def uB{m:Int}{n:g8}{a b c d:Int}(h:Rep H (Deed.bearing m n a b c d).dt v):∃ t p q,v=.ref t/\H t=Ig (.tup [.str "bearing",.int m,.str n,.ref p,.ref q])/\H p=Ig (.tup [.int a,.int b])/\H q=Ig (.tup [.int c,.int d]):=by
 obtain⟨t,xs,e,h1,h2⟩:=yF.mp h;obtain⟨_,_,rfl,k1,h3⟩:=zL.mp h2;obtain⟨_,_,rfl,k2,h4⟩:=zL.mp h3;obtain⟨_,_,rfl,k3,h5⟩:=zL.mp h4;obtain⟨_,_,rfl,k4,h6⟩:=zL.mp h5;obtain⟨_,_,rfl,k5,h7⟩:=zL.mp h6;obtain⟨p,rfl,hp⟩:=xz k4;obtain⟨q,rfl,hq⟩:=xz k5;have e6:=zY.mp h7;rw[zW.mp k1,yB.mp k2,zW.mp k3,e6] at h1;rwa[t,p,q,e,h1,hp,hq]
def sY{m:Int}{l r:g8}(h:Rep H (Deed.range m l r).dt v):∃ t,v=.ref t/\H t=Ig (.tup [.str "range",.int m,.str l,.str r]):=by
 obtain⟨t,xs,e,h1,h2⟩:=yF.mp h;obtain⟨_,_,rfl,k1,h2⟩:=zL.mp h2;obtain⟨_,_,rfl,k2,h2⟩:=zL.mp h2;obtain⟨_,_,rfl,k3,h2⟩:=zL.mp h2;obtain⟨_,_,rfl,k4,h2⟩:=zL.mp h2;rw[zW.mp k1,yB.mp k2,zW.mp k3,zW.mp k4,zY.mp h2] at h1;rwa[t,e,h1]
end
def wv{H:Hp}{v:V}{k:Int}(h:Rep H (Deed.strike k).dt v):∃ t,v=.ref t/\H t=Ig (.tup [.str "strike",.int k]):=by
 obtain⟨t,xs,e,h1,h2⟩:=yF.mp h;obtain⟨_,_,rfl,k1,h2⟩:=zL.mp h2;obtain⟨_,_,rfl,k2,h2⟩:=zL.mp h2;rw[zW.mp k1,yB.mp k2,zY.mp h2] at h1;rwa[t,e,h1]
def eP(l:List (Int×Deed))(k:Int):ic (ntE l) (.inl k)=ntE (l.filter λe=>decide (e.1≠k)):=by
 unfold ic ntE;rw[Ez]
 congr 1
 erw[DW λe _=>?_];simp
def dz{l:List (Int×Deed)}{k:Int}(h:k∈l.map (·.1)):∃ d,look (ntE l) (.inl k)=Ig d:=by
 obtain⟨e,he,rfl⟩:=i4.mp h;unfold look;cases q:(ntE l).find? λx=>decide (x.1=BQ e.1) with
 | none =>
  have:=BY.mp q (.inl e.1,e.2.dt) (i4.mpr ⟨e,he,rfl⟩);simp at this
 | some x=>rwa[x.2,U]
def StA.stKlen{m b r n:b9}{k:Int} : (stK m b r n k).length<=100:=by show 5<=100; decide
def xS.le{H:Hp}{kvs:List (Key×V)}{es:List (Key×Dt)}(h:xS H kvs es){n:Nat}(hn:es.length<=n):kvs.length<=n:=by rw[h.length]; rwa[hn]
def zm(l:List (g8×Int×Int)):(mkE l).length=l.length:=by unfold mkE; rw[a7]
def xj(l:List (Int×Int)):(rnE l).length=l.length:=by unfold rnE; rw[a7,List.length_zipIdx]
def aS(l:List (Int×Deed)):(ntE l).length=l.length:=by unfold ntE; rw[a7]
end Sea

namespace Sea
def bkF(d p l:b9):List (g8×V):=[("state",.ref d),("past",.ref p),("later",.ref l)]
def rD{d p l:b9} : (bkF d p l).lookup ("state" : g8)=Ig (.ref d):=by symm
def ua{d p l:b9} : (bkF d p l).lookup ("past" : g8)=Ig (.ref p):=by symm
def wa{d p l:b9} : (bkF d p l).lookup ("later" : g8)=Ig (.ref l):=by symm
def rn{d p l c:b9} : pP "state" (.ref c) (bkF d p l)=bkF c p l:=by symm
def jg{d p l c:b9} : pP "later" (.ref c) (bkF d p l)=bkF d p c:=by symm
def Wf{d p l:b9} : pP "later" (.ref l) (pP "past" (.ref p) (pP "state" (.ref d) []))=bkF d p l:=by symm
def xJ(H:Hp):List (Deed×BS)->List V->Prop
 | [],xs=>xs=[]
 | (D,S)::r,xs=>∃(t d:b9)(v:V)(ys:List V),xs=.ref t::ys/\H t=Ig (.tup [v,.ref d])/\Rep H D.dt v/\fi H d S/\xJ H r ys
structure BkA(C:b9)(H:Hp)(b p dx d l:b9)(ps ls:List V)(S:BS)(past later:List (Deed×BS)):Prop where
 ob:H b=Ig (.ins C dx (bkF d p l))
 st:fi H d S
 pa:H p=Ig (.lst ps)
 la:H l=Ig (.lst ls)
 pp:xJ H past ps
 ll:xJ H later ls
 ne:l≠p
def hV(C:b9)(H:Hp)(b p:b9)(S:BS)(past later:List (Deed×BS)):Prop:=∃ dx d l ps ls,BkA C H b p dx d l ps ls S past later
section
variable{φ:b9->Prop}{H H1:Hp}
def yw.samE{a:b9}{es:List (Key×Dt)}(h:yw H a es)(s:yY φ H H1)(nd:∀ a kvs,Rd H a (.dK kvs)->¬ φ a)(np:∀ a xs,H a=Ig (.tup xs)->¬ φ a):yw H1 a es:=let ⟨kvs,h1,h2⟩:=h;⟨kvs,s.rd (nd _ _ h1) h1,h2.sam s np⟩
def fi.samE{d:b9}{S:BS}(h:fi H d S)(s:yY φ H H1)(nd:∀ a kvs,Rd H a (.dK kvs)->¬ φ a)(np:∀ a xs,H a=Ig (.tup xs)->¬ φ a):fi H1 d S :=
 let ⟨m,b,r,n,q⟩:=h;⟨m,b,r,n,s.rd (nd _ _ q.at_) q.at_,q.ma.samE s nd np,q.ba.samE s nd np,q.ru.samE s nd np,q.no.samE s nd np⟩
def xJ.samE(s:yY φ H H1)(nd:∀ a kvs,Rd H a (.dK kvs)->¬ φ a)(np:∀ a xs,H a=Ig (.tup xs)->¬ φ a):∀{l:List (Deed×BS)}{xs:List V},xJ H l xs->xJ H1 l xs
 | [],_,h=>h
 | (D,S)::r,xs,h=>by
  obtain⟨t,d,v,ys,e,h1,h2,h3,h4⟩:=h;rwa[t,d,v,ys,e,s.tup (np _ _ h1) h1,h2.sam s np,h3.samE s nd np,xJ.samE s nd np h4]
def xJ.app{D:Deed}{S:BS}{t d:b9}{v:V}(h1:H t=Ig (.tup [v,.ref d]))(h2:Rep H D.dt v)(h3:fi H d S):∀{l:List (Deed×BS)}{xs:List V},xJ H l xs->xJ H (l++[(D,S)]) (xs++[.ref t])
 | [],xs,h=>by
  have h:xs=[]:=h;rw[h];rwa[t,d,v,[],U,h1,h2,h3,U]
 | (D',S')::r,xs,h=>by
  obtain⟨t',d',v',ys,e,g1,g2,g3,g4⟩:=h;rw[e];rwa[t',d',v',_,U,g1,g2,g3,xJ.app h1 h2 h3 g4]
def xJ.len:∀{l:List (Deed×BS)}{xs:List V},xJ H l xs->xs.length=l.length
 | [],xs,h=>by have h:xs=[]:=h; rw[h]; rfl
 | (D,S)::r,xs,h=>by
  obtain⟨t,d,v,ys,e,_,_,_,h4⟩:=h;rw[e,m9,m9,xJ.len h4]
abbrev Bp(b p:b9):b9->Prop:=λx=>x=b\/x=p
def UV{b p:b9}{C dx:b9}{fs:List (g8×V)}{ps:List V}(hb:H b=Ig (.ins C dx fs))(hp:H p=Ig (.lst ps)):∀ a kvs,Rd H a (.dK kvs)->¬ Bp b p a:=λa kvs h z=>by
 rcases z with z | z <;> subst z <;> rcases h with h | ⟨o,h⟩
 ·rw[hb] at h; cases h
 ·rw[hb] at h; cases h
 ·rw[hp] at h; cases h
 ·rw[hp] at h; cases h
def Uq{b p:b9}{C dx:b9}{fs:List (g8×V)}{ps:List V}(hb:H b=Ig (.ins C dx fs))(hp:H p=Ig (.lst ps)):∀ a xs,H a=Ig (.tup xs)->¬ Bp b p a:=λa xs h z=>by
 rcases z with z | z <;> subst z
 ·rw[hb] at h; cases h
 ·rw[hp] at h; cases h
def BkA.to{C b p dx d l:b9}{ps ls:List V}{S:BS}{past later:List (Deed×BS)}(k:BkA C H b p dx d l ps ls S past later)(s:Sam H H1):BkA C H1 b p dx d l ps ls S past later :=
 ⟨s.ins id k.ob,k.st.to s,s.lst id k.pa,s.lst id k.la,k.pp.samE s (λ_ _ _=>id) (λ_ _ _=>id),k.ll.samE s (λ_ _ _=>id) (λ_ _ _=>id),k.ne⟩
def hV.to{C b p:b9}{S:BS}{past later:List (Deed×BS)}(k:hV C H b p S past later)(s:Sam H H1):hV C H1 b p S past later:=let ⟨dx,d,l,ps,ls,q⟩:=k;⟨dx,d,l,ps,ls,q.to s⟩
def jf{d p l:b9}{m:g8}(h1:m ≠ "state")(h2:m ≠ "past")(h3:m ≠ "later"):(bkF d p l).lookup m=none:=by
 unfold bkF;rw[p7,x5.mpr h1,p7,x5.mpr h2,p7,x5.mpr h3];rfl
end
end Sea

namespace Sea
def abc:g8 := "abcdefghijklmnopqrstuvwxyz"
def Ye:abc.cps.toList=(Ai 26).map (97 + ·):=by ac_nf
def XD{i:Int}(h0:0<=i)(h1:i<26):atI abc.cps.toList i=Ig (97+i.toNat):=by
 obtain⟨n,rfl⟩:=AF h0;erw[xU ?_];rw[Ye,d8,List.getElem?_range (by lia)];rfl
def chS(c:Nat):g8:=⟨#[c]⟩
def txt(l:List Nat):g8:=⟨l.toArray⟩
def qE(l:List Nat):(txt l).length=l.length:=by
 show l.toArray.size=_;rwa[i0]
def Wj{l m:List Nat}(h:txt l=txt m):l=m:=by
 have:=congrArg (λx:g8=>x.cps.toList) h;simpa [txt] using this
def kh(l m:List Nat):txt l++txt m=txt (l++m):=by
 show(⟨l.toArray++m.toArray⟩:g8)=⟨(l++m).toArray⟩;rw[List.append_toArray]
def af:∀ l:List Nat,D8 "" (l.map chS)=txt l
 | []=>rfl
 | [c]=>rfl
 | c::d::l=>by
  show chS c++("" : g8)++D8 "" ((d::l).map chS)=_;rw[af (d::l)];show txt [c]++txt []++txt (d::l)=_;rw[kh,kh];rfl
def YU(l:List Nat):CT "" (l.map chS)=txt l:=by
 rw[Dq];rwa[af l]
def dB(l:List Nat):ut "" (l.map chS)=l.length:=by
 unfold ut;rw[show("" : g8).length=0 from by decide,Nat.mul_zero,Nat.add_zero]
 induction l with
 | nil=>rfl
 | cons c l ih =>
  rw[l9,l9,Hq,ih,m9];show 1+l.length=_;lia
def dQ(l:List Nat)(k:Nat)(h:k<=l.length):Cn (txt l) Ih (Ig (k:Int))=txt (l.take k):=by
 have e:Bt Ih (Ig (k:Int)) 1 (txt l).length=Ai k:=by
  unfold Bt sliceRange;rw[qE];have c1:¬ ((k:Int)<0):=by lia
  have c2:max 0 (min (k:Int) (l.length:Int))=k:=by lia
  simp only[c1,if_false,show(1:Int)>0 by decide,if_true,c2];by_cases z:(0:Int)<k
  ·rw[y9 z];have c3:(((k:Int)-0+1-1)/1).toNat=k:=by lia
   rw[c3];erw[Eb (by simp) λi h1 h2=>?_];simp
  ·have c4:k=0:=by lia
   subst c4;simp
 unfold Cn;rw[e,Bm,qE];by_cases c:k=l.length
 ·rw[y9 (by simp[c]),Aa (by lia)]
 ·rw[y7 (by simp; rwa[c])];show(⟨_⟩:g8)=⟨_⟩
  congr 1
  congr 1
  refine DS λi=>?_;rw[DE];have h2:(Ai k).filterMap (λj=>(txt l).cps[j]?)=l.take k:=by
   have:∀ m,m<=l.length->(Ai m).filterMap (λj=>(txt l).cps[j]?)=l.take m:=by
    intro m
    induction m with
    | zero=>intro _; simp
    | succ m ih =>
     intro hm;rw[EB,EL,ih (by lia),w5]
     congr 1
     rw[d3 (by lia)];simp[txt,AZ,show m<l.length by lia]
   rwa[this k h]
  rw[h2,DE]
def cC(l:List Nat)(k:Nat)(h:k<=l.length):Cn (txt l) (Ig (k:Int)) Ih=txt (l.drop k):=by
 have e:Bt (Ig (k:Int)) Ih 1 (txt l).length=(Ai (l.length-k)).map (k + ·):=by
  unfold Bt sliceRange;rw[qE];have c1:¬ ((k:Int)<0):=by lia
  have c2:max 0 (min (k:Int) (l.length:Int))=k:=by lia
  simp only[c1,if_false,show(1:Int)>0 by decide,if_true,c2];by_cases z:(k:Int)<l.length
  ·rw[y9 z];have c3:(((l.length:Int)-k+1-1)/1).toNat=l.length-k:=by lia
   rw[c3];erw[Eb (by simp) λi h1 h2=>?_];simp;lia
  ·have c4:l.length-k=0:=by lia
   rw[y7 z,c4];rfl
 unfold Cn;rw[e,a7,Bm,qE];by_cases c:k=0
 ·subst c;rw[y9 (by simp)];rfl
 ·by_cases c0:l.length=0
  ·have:l=[]:=CM.mp c0;subst this;rw[y9 (by simp)];rw[List.drop_nil]
  rw[y7 (by simp; lia)];show(⟨_⟩:g8)=⟨_⟩
  congr 1
  congr 1
  have:∀ m,m<=l.length-k->((Ai m).map (k + ·)).filterMap (λj=>(txt l).cps[j]?)=(l.drop k).take m:=by
   intro m
   induction m with
   | zero=>intro _; simp
   | succ m ih =>
    intro hm;rw[EB,j5,EL,ih (by lia),w5]
    congr 1
    rw[List.getElem?_drop,d3 (by lia)];simp[txt,AZ,show k+m<l.length by lia]
  rw[this _ (d6 _),Aa (by simp)]
def ZR{l:List Nat}{p c:Nat}(h:p<l.length):l.take p++[c]++l.drop (p+1)=l.set p c:=by
 rw[List.set_eq_take_append_cons_drop,y9 h];simp
def YM{l:List Nat}{p c:Nat}(h:p<l.length):Cn (txt l) Ih (Ig (p:Int))++chS c++Cn (txt l) (Ig ((p:Int)+1)) Ih=txt (l.set p c):=by
 rw[dQ l p (by lia),show((p:Int)+1)=((p+1:Nat):Int) from rfl,cC l (p+1) (by lia)];show txt _++txt [c]++txt _=_;rw[kh,kh,ZR h]
def cb{l:List Nat}(h1:1<=l.length)(h8:l.length<=8)(h:∀ c∈l,97<=c/\c<=122):wL (txt l):=⟨by rw[qE]; exact h1,by rw[qE]; exact h8,λc hc=>h c (by simpa [txt] using hc)⟩
def XX{l:List Nat}{p r:Nat}(hp:p<l.length){ws:List g8}(hw:ws.length<26):¬ ∀ j,j<26->txt (l.set p (97+(r+j)%26))∈ws:=λh=>by
 have nd:((Ai 26).map λj=>txt (l.set p (97+(r+j)%26))).Nodup:=by
  erw[Bz.mpr (FO.mpr ?_)];erw[Hr ?_ (Bz.mp Gh)];intro a b ha hb ne z;have ha:=Az.mp ha;have hb:=Az.mp hb;have z:=Wj z;have z:=congrArg (λm:List Nat=>m[p]?) z;simp only[CN hp,DV] at z;lia
 have:=nd.length_le_of_subset (l₂:=ws) λx hx=>by
  obtain⟨j,hj,rfl⟩:=i4.mp hx;rwa[h j (Az.mp hj)]
 rw[a7,Bm] at this;lia
def WZ(x y:g8):eqV (.str x) (.str y)=decide (x=y):=by
 unfold eqV
 first
  | rfl
  | simp
  | (by_cases h:x=y <;> simp[h])
def Vm(x:g8)(ns:List g8):inV (.str x) (ns.map V.str)=decide (x∈ns):=by
 unfold inV
 induction ns with
 | nil=>simp
 | cons y ns ih =>
  rw[l9,AQ,ih,WZ];by_cases h:x=y
  ·subst h; simp
  ·simp[h,AG h]
def jX(ns:List g8):(ns.map V.str).all ko=true:=by
 rw[FP];rwa[Af.mpr λ_ _=>rfl]
end Sea

namespace Sea
def lwK(m b r n:b9)(k:Int):List (Key×V):=[(.inr "marks",.ref m),(.inr "banks",.ref b),(.inr "runs",.ref r),(.inr "notes",.ref n),(.inr "next",.int k)]
section
variable{m b r n c:b9}{k j:Int}
def yT:wN (lwK m b r n k) (.inr "marks")=Ig (.ref m):=by symm
def qC:wN (lwK m b r n k) (.inr "banks")=Ig (.ref b):=by symm
def uR:wN (lwK m b r n k) (.inr "runs")=Ig (.ref r):=by symm
def vN:wN (lwK m b r n k) (.inr "notes")=Ig (.ref n):=by symm
def yq:wN (lwK m b r n k) (.inr "next")=Ig (.int k):=by symm
def oC:rJ (lwK m b r n k) (.inr "next") (.int j)=lwK m b r n j:=by symm
end
structure LwA(H:Hp)(d m b r n:b9)(S:BS):Prop where
 at_:Rd H d (.dK (lwK m b r n S.coming))
 ma:yw H m (mkE S.marks)
 ba:yw H b (bkE S.banks)
 ru:∃ rs,H r=Ig (.lst rs)/\xK H (S.runs.map ptD) rs
 no:yw H n (ntE S.notes)
def al(H:Hp)(d:b9)(S:BS):Prop:=∃ m b r n,LwA H d m b r n S
section
variable{φ:b9->Prop}{H H1:Hp}{d m b r n:b9}{S:BS}
def LwA.samE(h:LwA H d m b r n S)(s:yY φ H H1)(nd:∀ a kvs,Rd H a (.dK kvs)->¬ φ a)(np:∀ a xs,H a=Ig (.tup xs)->¬ φ a)(nl:∀ xs,H r=Ig (.lst xs)->¬ φ r):LwA H1 d m b r n S :=
 ⟨s.rd (nd _ _ h.at_) h.at_,h.ma.samE s nd np,h.ba.samE s nd np,let ⟨rs,h1,h2⟩:=h.ru;⟨rs,s.lst (nl _ h1) h1,h2.sam s np⟩,h.no.samE s nd np⟩
def LwA.to(h:LwA H d m b r n S)(s:Sam H H1):LwA H1 d m b r n S:=h.samE s (λ_ _ _=>id) (λ_ _ _=>id) (λ_ _=>id)
def al.to(h:al H d S)(s:Sam H H1):al H1 d S:=let ⟨m,b,r,n,q⟩:=h;⟨m,b,r,n,q.to s⟩
def xK.drop:∀{l:List Dt}{xs:List V}(k:Nat),xK H l xs->xK H (l.drop k) (xs.drop k)
 | _,_,0,h=>h
 | [],_,k+1,h=>by rw[zY.mp h]; rwa[zY.mpr rfl]
 | d::l,_,k+1,h=>by
  obtain⟨x,r,e,_,h2⟩:=zL.mp h;rw[e];rwa[xK.drop k h2]
def xK.take:∀{l:List Dt}{xs:List V}(k:Nat),xK H l xs->xK H (l.take k) (xs.take k)
 | _,_,0,h=>zY.mpr rfl
 | [],_,k+1,h=>by rw[zY.mp h]; rwa[zY.mpr rfl]
 | d::l,_,k+1,h=>by
  obtain⟨x,r,e,h1,h2⟩:=zL.mp h;rw[e];rwa[zL.mpr ⟨x,_,rfl,h1,xK.take k h2⟩]
end
end Sea

namespace L2
def cF{ns:List g8} : ∀{us:List c7},yP (ns.map V.str) us->StrsAre us ns:=by
 induction ns with
 | nil=>intro us r; rw[CQ] at r; cases r; rwa[.nil]
 | cons n ns ih =>
  intro us r;rw[l9] at r;cases r with
  | cons r1 r2 =>
   obtain⟨t,e⟩:=r1;subst e;rwa[.cons n t (ih r2)]
def Uy:∀{vs:List c7}{ns:List g8},StrsAre vs ns->yP (ns.map V.str) vs
 | _,_,.nil=>.nil
 | _,_,.cons n t h=>.cons ⟨t,rfl⟩ (Uy h)
section
variable{X:Cx}
def kY:uU X (.builtin "sorted") (λxs H Q=>∃(l:b9)(ns:List g8),xs=[.ref l]/\SqL X.K H l (ns.map V.str)/\ns.length<64 /\
  ∀(p:b9)(ms:List g8),H p=Ih->ms.Perm ns->sortedS ms=Ii->Q (.ref p) (upd H p (.lst (ms.map V.str)))):=by
 intro Ik s σ H xs us Q I r h;obtain⟨l,ns,rfl,hq,h64,q⟩:=h;obtain⟨u,rfl,ru⟩:=yP.one r;cases ru;obtain⟨its,rv,pl,hz⟩:=I.list hq;have hn:=rv.length;rw[a7] at hn;erw[sorted_strs (ss:=ns) pl.isList (cF rv) (by lia) λout ms a1 a2 a3=>?_];obtain⟨e,at'⟩:=sortedAll_at s.heap its out;have fr:H (s.heap.objs.size+1)=none:=I.hok.fresh (BV _);erw[.ref (s.heap.objs.size+1),_,I.laid (t':=s.toks) (a:=s.heap.objs.size+1) (o:=.lst (ms.map V.str)) (λb ob q=>sortedAll_old q) (BV _) ?_,U,q _ ms fr a2 a3];refine⟨?_,out.toList,e,Uy a1,by simpa using at'⟩;rw[a7,a2.length_eq];rwa[j8 (BH h64) (by rw[sizeLine_eq]; decide)]
end
def xt(v d:b9)(h:n9):Prop:=h.IsItemsView v d
section
variable{X:Cx}{l:t6}{te:TE}{apos pos:Ck}
def Tq(te:TE):TE:=λσ H Q=>te σ H λx H1=>∃(d:b9)(kvs:List (Key×V)),x=.ref d/\Rd H1 d (.dK kvs)/\∀ v,H1 v=Ih->Q (.ref v) (upd H1 v (.ext (xt v d)))
def pb(hl:PE X l te)(hbase:attributeBase l "items" X.env (eval l X.env)=eval l X.env:=by rfl)(hline:(apos.endLine == pos.line)=true:=by rfl):PE X (.Call (.Attribute l "items" apos) [] [] pos) (Tq te):=by
 intro Ik s σ H Q I h;erw[CS (T := "dict") (id := "dict.items") hbase rfl hline DU CU FQ (thn (hl Ik s σ H _ I h) λv s1 ⟨x,H1,I1,r1,d,kvs,e,hd,q⟩=>?_)];subst e;cases r1;obtain⟨hz,ns,vs,rel,da⟩:=hd.ok I1.hok;exists da.typeIs,da.mapOf.noDict;show wpAny _ _ (callWith pos (.builtin "dict.items") [.ref d] [] []) _ _ s1;erw[method_meetsIn CU Fw rfl (Cu ⟨rfl,da.typeIs,Fa _,_,meets_dict_items (yK X.prog X.w) d ns,⟨vs,da⟩,?_⟩)];erw[.ref s1.heap.objs.size,_,I1.laid (t':=s1.toks) (a:=s1.heap.objs.size) (o:=.ext (xt s1.heap.objs.size d)) (λb o e=>c9 _ e) (d6 _) ⟨⟨_,e7 _ rfl,U,U⟩,⟨_,e7 _ rfl⟩,λh1 h2 ⟨o,e,c⟩ k=>⟨o,k o e,c⟩⟩,U,q _ (I1.hok.fresh (d6 _))]
end
def Inv.more{X:Cx}{Ik:List (b9×AL)}{σ:St}{H:Hp}{s:d4}{a:b9}{o:HO}(I:Inv X Ik σ H s)(f:fj X Ik H a)(new:xI X.prog X.w (upd H a o) s.heap a o):Inv X Ik σ (upd H a o) s:=by
 obtain⟨f0,f1,f2,f3,f4,f5⟩:=f;have nk:∀{b:b9}{u:HO},H b=Ig u->upd H a o b=Ig u:=λ{b u} e=>by
  rw[zG (λz=>by rw[z,f0] at e; cases e)];rwa[e]
 have nn:∀{b:b9},b≠a->H b=Ih->upd H a o b=none:=λ{b} n e=>by rw[zG n]; rwa[e]
 have lo:∀{b:b9}{u:AL},X.s₀.heap.get? b=Ig u->b ∉ X.ex->b≠a:=λ{b u} e hx z=>by
  rcases f3 with q | q
  ·rwa[hx (by rw[z]; exact q)]
  ·rwa[x4 (f9 e) (Nat.not_lt.mpr (by rw[z]; exact q))]
 refine⟨I.ok,I.os,I.bare,⟨I.base.keep,I.base.slot,λb u e n hx=>nn (lo e hx) (I.base.free b u e n hx),I.base.there,λb xs e=>nk (I.base.tups b xs e),λb u v e=>nk (I.base.frzs b u v e),
  λb ps e=>let ⟨more,q⟩:=I.base.tbls b ps e;⟨more,nk q⟩⟩,I.loc,I.cell,nn (AG f1) I.free,λx c e=>nn (f4 x c e) (I.freeC x c e),λp hp=>?_,λb u e=>?_,I.len⟩
 ·obtain⟨h1,h2,h3⟩:=I.pin p hp;rwa[h1,nn (f5 p hp) h2,h3]
 ·by_cases eb:b=a
  ·subst eb;rw[zA] at e;cases e;rwa[new]
  ·rw[zG eb] at e;exact(I.hok b u e).stay (λc v _ q=>q) (λc q=>nk q) λc xs q=>nk q
section
open PySem.W
variable{X:Cx}{Ik:List (b9×AL)}{σ:St}{H:Hp}{s:d4}
def Inv.tuples{lo:b9} : ∀{as:List b9}{H:Hp}(xss:List (List V)),Inv X Ik σ H s->as.Pairwise (· < ·)->(∀ a∈as,fj X Ik H a)->as.length=xss.length->(∀(j:Nat)(a:b9)(xs:List V),as[j]?=Ig a->xss[j]?=Ig xs->∀ H',xI X.prog X.w H' s.heap a (.tup xs)) ->
  ∃ H2,Inv X Ik σ H2 s/\Same H H2/\(∀(j:Nat)(a:b9)(xs:List V),as[j]?=Ig a->xss[j]?=Ig xs->H2 a=Ig (.tup xs))/\∀ b,b ∉ as->H2 b=H b
 | [],H,[],I,_,_,_,_=>⟨H,I,Same.refl _,λj a xs e=>by simp at e,λ_ _=>rfl⟩
 | [],_,_::_,_,_,_,hl,_=>by simp at hl
 | _::_,_,[],_,_,_,hl,_=>by simp at hl
 | a::as,H,xs::xss,I,hr,hf,hl,ho=>by
  have fa:=hf a (.head _);have hr':=List.pairwise_cons.mp hr;have I1:=I.more (o:=.tup xs) fa (ho 0 a xs rfl rfl _);obtain⟨H2,I2,s2,g2,n2⟩:=Inv.tuples (lo:=lo) (as:=as) xss I1 hr'.2 (λb hb=>by
   obtain⟨f0,f1⟩:=hf b (.tail _ hb);rwa[by rw[zG (BW (hr'.1 b hb))]; exact f0,f1]) (by simpa using hl) (λj b ys e1 e2=>ho (j+1) b ys (by simpa using e1) (by simpa using e2))
  erw[H2,I2,(zD fa.1 _).trans s2,λj b ys e1 e2=>?_,λb hb=>?_]
  ·cases j with
   | zero =>
    simp at e1 e2;subst e1 e2;rwa[s2 _ _ zA]
   | succ j=>exact g2 j b ys (by simpa using e1) (by simpa using e2)
  ·rw[n2 b (λz=>hb (.tail _ z)),zG (λz=>hb (by rw[z]; rwa[.head _]))]
end
end L2

namespace Sea
section
variable{H H1:Hp}
def vh:∀{l:List (Int×Deed)}{kvs:List (Key×V)},xS H kvs (ntE l)->∃ ks:List (Int×V),kvs=ks.map (λe=>(.inl e.1,e.2))/\ks.map (·.1)=l.map (·.1)/\xK H (l.map (·.2.dt)) (ks.map (·.2))
 | [],_,h=>⟨[],h.nil_iff,rfl,zY.mpr rfl⟩
 | (n,D)::l,_,h=>by
  obtain⟨v,r,rfl,h1,h2⟩:=xS.cons_iff.mp h;obtain⟨ks,rfl,e,h3⟩:=vh (l:=l) h2;rwa[(n,v)::ks,U,by rw[l9,l9,e],zL.mpr ⟨v,_,U,h1,h3⟩]
def lq:∀{l:List (g8×Int×Int)}{kvs:List (Key×V)},xS H kvs (mkE l)->kvs.map (λkv=>kV kv.1)=(l.map (·.1)).map V.str
 | [],_,h=>by rw[h.nil_iff]; rfl
 | (n,p)::l,_,h=>by
  obtain⟨v,r,rfl,h1,h2⟩:=xS.cons_iff.mp h;rw[l9,lq h2];rfl
structure NotesAt(H:Hp)(as:List b9)(l:List (Int×Deed)):Prop where
 len:as.length=l.length
 at_:∀(j:Nat)(a:b9)(e:Int×Deed),as[j]?=Ig a->l[j]?=Ig e->∃ v,H a=Ig (.tup [.int e.1,v])/\Rep H e.2.dt v
def Uo(S:BS):Prop:=(S.notes.map (·.1)).Pairwise (· < ·)
def mL{S:BS}{n:g8}{p:Int×Int}(h:zQ S n=Ig p):(n,p)∈S.marks:=by
 unfold zQ at h;rw[j7] at h;obtain⟨e,h1,rfl⟩:=h;have h2:=List.find?_some h1;have e1:e.1=n:=of_decide_eq_true h2;rw[<- e1];rwa[List.mem_of_find?_eq_some h1]
def aC{S:BS}{n:g8}(h:n∈S.marks.map (·.1)):∃ p,zQ S n=Ig p:=by
 obtain⟨e,h1,h2⟩:=i4.mp h;unfold zQ;cases q:S.marks.find? λe=>decide (e.1=n) with
 | none=>rwa[x4 (BY.mp q e h1) (by simp[h2])]
 | some e'=>rwa[e'.2,U]
def oJ{S:BS}{m:b9}{n:g8}{p:Int×Int}(h:yw H m (mkE S.marks))(e:zQ S n=Ig p):∃(kvs:List (Key×V))(a:b9),Rd H m (.dK kvs)/\wN kvs (.inr n)=Ig (.ref a)/\H a=Ig (.tup [.int p.1,.int p.2]):=by
 obtain⟨kvs,h1,h2⟩:=h;obtain⟨v,g,r⟩:=h2.get (k:=.inr n) (d:=ptD p) (by rw[wX,e]; rfl);obtain⟨a,rfl,ha⟩:=xz r;rwa[kvs,a,h1,g,ha]
def lE:∀{l:List (Int×Int)}{k i:Nat}{p:Int×Int},l[i]?=Ig p->look ((l.zipIdx k).map λe=>((.inl (e.2:Int):Key),ptD e.1)) (.inl ((k+i:Nat):Int))=Ig (ptD p)
 | [],_,_,_,e=>by simp at e
 | q::l,k,0,p,e=>by
  simp at e;subst e;simp[look,Bb]
 | q::l,k,i+1,p,e=>by
  have ih:=lE (l:=l) (k:=k+1) (i:=i) (p:=p) (by simpa using e);rw[Bb,l9];unfold look at ih ⊢;rw[As,x3 (by intro z; injection z with z; simp at z; lia)];rw[show k+1+i=k+(i+1) by lia] at ih;rwa[ih]
def Yb{S:BS}{r:b9}{i:Nat}{p:Int×Int}(h:yw H r (rnE S.runs))(e:S.runs[i]?=Ig p):∃(kvs:List (Key×V))(a:b9),Rd H r (.dK kvs)/\wN kvs (.inl (i:Int))=Ig (.ref a)/\H a=Ig (.tup [.int p.1,.int p.2]):=by
 obtain⟨kvs,h1,h2⟩:=h;have:=lE (k:=0) e;rw[Eo] at this;obtain⟨v,g,r⟩:=h2.get (k:=.inl (i:Int)) (d:=ptD p) this;obtain⟨a,rfl,ha⟩:=xz r;rwa[kvs,a,h1,g,ha]
end
section
variable{H H1:Hp}{S:BS}
structure MarksAt(H:Hp)(S:BS)(as:List b9)(ms:List g8):Prop where
 mk ::
 len:as.length=ms.length
 at_:∀(j:Nat)(a:b9)(n:g8),as[j]?=Ig a->ms[j]?=Ig n->∃ p:Int×Int,zQ S n=Ig p/\H a=Ig (.tup [.str n,.int p.1,.int p.2])
def vV{D:b9}{u o:HO}(eD:H D=Ig u):yY (λx=>x=D) H (upd H D o):=λx o hx e=>.inl (by rw[zG hx]; rwa[e])
def io{D:b9}{zs:List V}(eD:H D=Ig (.lst zs)):∀ b xs,H b=Ig (.tup xs)->¬ b=D:=λb xs e z=>by rw[z,eD] at e; cases e
end
end Sea

namespace Sea
structure UW(H:Hp)(as:List b9)(rows:List (List Int)):Prop where
 mk ::
 len:as.length=rows.length
 at_:∀(j:Nat)(a:b9)(r:List Int),as[j]?=Ig a->rows[j]?=Ig r->H a=Ig (.tup (r.map V.int))
def tE(S:BS)(n:g8):Int×Int:=(zQ S n).getD (0,0)
def sidesN(S:BS):Deed->List (List Int)
 | .bearing _ n a b c d=>[cL [-b,a,a*(tE S n).2-b*(tE S n).1],cL [d,-c,(tE S n).1*d-(tE S n).2*c]]
 | .range _ l r=>[cL [(tE S l).2-(tE S r).2,(tE S r).1-(tE S l).1,(tE S r).1*(tE S l).2-(tE S r).2*(tE S l).1]]
 | _=>[]
def va(S:BS):Deed->Prop
 | .bearing m n a b c d=>0<=m/\m<=S.runs.length/\(zQ S n).isSome=Ii/\ug (a,b)/\ug (c,d)
 | .range m l r=>0<=m/\m<=S.runs.length/\(zQ S l).isSome=Ii/\(zQ S r).isSome=Ii/\zQ S l≠zQ S r
 | _=>False
structure Va(S:BS):Prop where
 few:Few S
 fresh:Xz S
 rise:Uo S
 mk_:∀ e∈S.marks,qy e.2
 way:∀ e∈S.runs,qy e
 note:∀ e∈S.notes,va S e.2
structure GroupsAt(H0 H:Hp)(gs:List b9)(rows:List (List (List Int))):Prop where
 mk ::
 len:gs.length=rows.length
 new:∀ g∈gs,H0 g=Ih
 at_:∀(j:Nat)(g:b9)(r:List (List Int)),gs[j]?=Ig g->rows[j]?=Ig r->∃ as:List b9,H g=Ig (.lst (as.map V.ref))/\UW H as r
def aB(a b c:V):rf [] [(.inr "marks",a),(.inr "banks",b),(.inr "runs",c)]=[(.inr "marks",a),(.inr "banks",b),(.inr "runs",c)]:=by symm
def We(a b c d:V):rJ [((.inr "marks" : Key),a),(.inr "banks",b),(.inr "runs",c)] (.inr "notes") d=[(.inr "marks",a),(.inr "banks",b),(.inr "runs",c),(.inr "notes",d)]:=by symm
def WU(a b c d e:V):rJ [((.inr "marks" : Key),a),(.inr "banks",b),(.inr "runs",c),(.inr "notes",d)] (.inr "next") e=[(.inr "marks",a),(.inr "banks",b),(.inr "runs",c),(.inr "notes",d),(.inr "next",e)]:=by symm
def nV{H:Hp}{D:b9}{kvs:List (Key×V)}(eD:H D=Ig (.dK kvs)):∀ b xs,H b=Ig (.tup xs)->¬ b=D:=λb xs e z=>by rw[z,eD] at e; cases e
def gf{H:Hp}{w p q:b9}{m:Int}{n:g8}{a b c d:Int}(hw:H w=Ig (.tup [.str "bearing",.int m,.str n,.ref p,.ref q]))(hp:H p=Ig (.tup [.int a,.int b]))(hq:H q=Ig (.tup [.int c,.int d])):Rep H (Deed.bearing m n a b c d).dt (.ref w) :=
 yF.mpr ⟨w,_,rfl,hw,zL.mpr ⟨_,_,rfl,zW.mpr rfl,zL.mpr ⟨_,_,rfl,yB.mpr rfl,zL.mpr ⟨_,_,rfl,zW.mpr rfl,.two (vQ (p:=(a,b)) hp) (vQ (p:=(c,d)) hq)⟩⟩⟩⟩
def jV{H:Hp}{w:b9}{m:Int}{l r:g8}(hw:H w=Ig (.tup [.str "range",.int m,.str l,.str r])):Rep H (Deed.range m l r).dt (.ref w) :=
 yF.mpr ⟨w,_,rfl,hw,zL.mpr ⟨_,_,rfl,zW.mpr rfl,zL.mpr ⟨_,_,rfl,yB.mpr rfl,.two (zW.mpr rfl) (zW.mpr rfl)⟩⟩⟩
def YO{H:Hp}{w:b9}{n:g8}{x y:Int}(hw:H w=Ig (.tup [.str "mark",.str n,.int x,.int y])):Rep H (Deed.mark n x y).dt (.ref w) :=
 yF.mpr ⟨w,_,rfl,hw,zL.mpr ⟨_,_,rfl,zW.mpr rfl,zL.mpr ⟨_,_,rfl,zW.mpr rfl,.two (yB.mpr rfl) (yB.mpr rfl)⟩⟩⟩
def cr{H:Hp}{w:b9}{k:Int}(hw:H w=Ig (.tup [.str "strike",.int k])):Rep H (Deed.strike k).dt (.ref w) :=
 yF.mpr ⟨w,_,rfl,hw,.two (zW.mpr rfl) (yB.mpr rfl)⟩
def ZF{H:Hp}{w:b9}{x y:Int}(hw:H w=Ig (.tup [.str "sail",.int x,.int y])):Rep H (Deed.sail x y).dt (.ref w) :=
 yF.mpr ⟨w,_,rfl,hw,zL.mpr ⟨_,_,rfl,zW.mpr rfl,.two (yB.mpr rfl) (yB.mpr rfl)⟩⟩
end Sea

namespace Sea
def rR{S:BS}{n:g8}{e:g8×Int×Int}(h:(zQ S n).isSome=Ii):zQ { S with marks:=S.marks++[e] } n=zQ S n:=by
 unfold zQ at h ⊢;dsimp only;rw[List.find?_append];cases q:S.marks.find? λe=>decide (e.1=n) with
 | none=>rw[q] at h; simp at h
 | some e'=>rfl
def dX{S:BS}{D:Deed}{e:g8×Int×Int}(h:va S D):va { S with marks:=S.marks++[e] } D:=by
 match D,h with
 | .bearing m n a b c d,h=>rwa[h.1,h.2.1,by rw[rR h.2.2.1]; exact h.2.2.1,h.2.2.2]
 | .range m l r,h=>rwa[h.1,h.2.1,by rw[rR h.2.2.1]; exact h.2.2.1,by rw[rR h.2.2.2.1]; exact h.2.2.2.1,by rw[rR h.2.2.1,rR h.2.2.2.1]; exact h.2.2.2.2]
def aM{S:BS}{D:Deed}{e:Int×Int}(h:va S D):va { S with runs:=S.runs++[e] } D:=by
 match D,h with
 | .bearing m n a b c d,h=>exact⟨h.1,by have:=h.2.1; dsimp only; rw[f8]; simp only[m9,Am]; lia,h.2.2⟩
 | .range m l r,h=>exact⟨h.1,by have:=h.2.1; dsimp only; rw[f8]; simp only[m9,Am]; lia,h.2.2⟩
def uo{S:BS}{D:Deed}{l:List (Int×Deed)}{k:Int}(h:va S D):va { S with notes:=l,coming:=k } D:=by
 match D,h with
 | .bearing m n a b c d,h=>rwa[h]
 | .range m l r,h=>rwa[h]
def ZC:Va BS.nil:=⟨⟨by decide,by decide,by decide,by decide⟩,λe he=>(nomatch he),.nil,λe he=>(nomatch he),λe he=>(nomatch he),λe he=>(nomatch he)⟩
def jZ{S:BS}{D:Deed}(g:Va S)(kn:va S D)(l:S.notes.length<24):Va { S with notes:=S.notes++[(S.coming,D)],coming:=S.coming+1 }:=by
 refine⟨⟨g.few.ma,g.few.ba,g.few.ru,by show(S.notes++[_]).length<=60; rw[f8]; simp only[m9,Am]; lia⟩,λe he=>?_,?_,g.mk_,g.way,λe he=>?_⟩
 ·rcases m7.mp he with z | z
  ·have:=g.fresh e z;show e.1<S.coming+1;lia
  ·rw[d9.mp z];show S.coming<S.coming+1;lia
 ·show((S.notes++[(S.coming,D)]).map (·.1)).Pairwise (· < ·);rw[j5,List.pairwise_append];erw[g.rise,List.pairwise_singleton _ _,λx hx y hy=>?_];obtain⟨e,he,rfl⟩:=i4.mp hx;rw[d9.mp hy];rwa[g.fresh e he]
 ·rcases m7.mp he with z | z
  ·rwa[uo (g.note e z)]
  ·rw[d9.mp z];rwa[uo kn]
def sx{n k:g8}{x y:Int} : ∀{l:List (g8×Int×Int)},((l.map λe=>if e.1=n then(e.1,x,y) else e).find? λe=>decide (e.1=k)).map (·.2)=((l.find? λe=>decide (e.1=k)).map (·.2)).map λp=>if k=n then(x,y) else p
 | []=>rfl
 | (m,p)::l=>by
  rw[l9,As,As];by_cases e1:m=n
  ·rw[y9 e1];by_cases e2:m=k
   ·subst e1 e2;simp
   ·rw[x3 (show ¬ (m,x,y).1=k from e2)];rwa[sx]
  ·rw[y7 e1];by_cases e2:m=k
   ·subst e2;simp[e1]
   ·rw[x3 (show ¬ (m,p).1=k from e2)];rwa[sx]
def vO{S:BS}{n k:g8}{x y:Int} : zQ (aft S (.move n x y)) k=(zQ S k).map λp=>if k=n then(x,y) else p:=sx
def uS{S:BS}{n k:g8}(h:k≠n):zQ (aft S (.unmark n)) k=zQ S k:=by
 unfold zQ;show(List.find? _ (S.marks.filter _)).map _=_;rw[List.find?_filter]
 congr 2
 funext e
 by_cases z:e.1=k
 ·simp[z,h]
 ·simp[z]
def vU{S:BS}{n k:g8}{x y:Int}(h:(zQ S k).isSome=Ii):(zQ (aft S (.move n x y)) k).isSome=true:=by
 rw[vO,Av];rwa[h]
def dY{S:BS}{D:Deed}{n:g8}{x y:Int}(h:va S D)(g:ui (aft S (.move n x y)) D):va (aft S (.move n x y)) D:=by
 match D,h,g with
 | .bearing m k a b c d,h,_=>rwa[h.1,h.2.1,vU h.2.2.1,h.2.2.2]
 | .range m l r,h,⟨p,u,e1,e2,ne⟩=>rwa[h.1,h.2.1,vU h.2.2.1,vU h.2.2.2.1,by rw[e1,e2]; exact λz=>ne (p5 z)]
def ju{S:BS}{D:Deed}{n:g8}(h:va S D)(g:rQ n D):va (aft S (.unmark n)) D:=by
 match D,h,g with
 | .bearing m k a b c d,h,g=>rwa[h.1,h.2.1,by rw[uS g]; exact h.2.2.1,h.2.2.2]
 | .range m l r,h,g=>rwa[h.1,h.2.1,by rw[uS g.1]; exact h.2.2.1,by rw[uS g.2]; exact h.2.2.2.1,by rw[uS g.1,uS g.2]; exact h.2.2.2.2]
def sy{S S':BS}{D:Deed}(h:va S D)(e1:S'.marks=S.marks)(e2:S'.runs.length=S.runs.length):va S' D:=by
 have e:∀ n,zQ S' n=zQ S n:=λn=>by unfold zQ; rw[e1]
 match D,h with
 | .bearing m k a b c d,h=>rwa[h.1,by rw[e2]; exact h.2.1,by rw[e]; exact h.2.2.1,h.2.2.2]
 | .range m l r,h=>rwa[h.1,by rw[e2]; exact h.2.1,by rw[e]; exact h.2.2.1,by rw[e]; exact h.2.2.2.1,by rw[e,e]; exact h.2.2.2.2]
def YV{S:BS}{D:Deed}(g:Va S)(ok:okD S D):Va (aft S D):=by
 match D,ok with
 | .mark n x y,ok =>
  refine⟨⟨by show(S.marks++[_]).length<=60; rw[f8]; have:=ok.2.2.2; simp only[m9,Am]; lia,g.few.ba,g.few.ru,g.few.no⟩,g.fresh,g.rise,λe he=>?_,g.way,λe he=>dX (g.note e he)⟩;rcases m7.mp he with z | z
  ·rwa[g.mk_ e z]
  ·rw[d9.mp z];rwa[ok.2.2.1]
 | .sail x y,ok =>
  refine⟨⟨g.few.ma,g.few.ba,by show(S.runs++[_]).length<=60; rw[f8]; have:=ok.2; simp only[m9,Am]; lia,g.few.no⟩,g.fresh,g.rise,g.mk_,λe he=>?_,λe he=>aM (g.note e he)⟩;rcases m7.mp he with z | z
  ·rwa[g.way e z]
  ·rw[d9.mp z];rwa[ok.1]
 | .bearing m n a b c d,ok=>rwa[jZ g ⟨ok.1,ok.2.1,ok.2.2.1,ok.2.2.2.1,ok.2.2.2.2.1⟩ ok.2.2.2.2.2.2]
 | .range m l r,ok=>rwa[jZ g ⟨ok.1,ok.2.1,ok.2.2.1,ok.2.2.2.1,ok.2.2.2.2.1⟩ ok.2.2.2.2.2]
 | .move n x y,ok =>
  refine⟨⟨by show(S.marks.map _).length<=60; rw[a7]; exact g.few.ma,g.few.ba,g.few.ru,g.few.no⟩,g.fresh,g.rise,λe he=>?_,g.way,λe he=>dY (g.note e he) (ok.2.2 e he)⟩;obtain⟨e',h1,rfl⟩:=i4.mp he;by_cases z:e'.1=n
  ·rw[y9 z];rwa[ok.2.1]
  ·rw[y7 z];rwa[g.mk_ e' h1]
 | .unmark n,ok =>
  rwa[⟨j8 (BC _ _) g.few.ma,g.few.ba,g.few.ru,g.few.no⟩,g.fresh,g.rise,λe he=>g.mk_ e (BF.mp he).1,g.way,λe he=>ju (g.note e he) (ok.2 e he)]
 | .bank n cs,ok =>
  exact⟨⟨g.few.ma,by show(S.banks++[_]).length<=60; rw[f8]; have:=ok.2.2.2.2; simp only[m9,Am]; lia,g.few.ru,g.few.no⟩,g.fresh,g.rise,g.mk_,g.way,λe he=>sy (g.note e he) rfl rfl⟩
 | .level n,_ =>
  rwa[⟨g.few.ma,j8 (BC _ _) g.few.ba,g.few.ru,g.few.no⟩,g.fresh,g.rise,g.mk_,g.way,λe he=>sy (g.note e he) rfl rfl]
 | .right k x y,ok =>
  refine⟨⟨g.few.ma,g.few.ba,by show(S.runs.set _ _).length<=60; rw[Dd]; exact g.few.ru,g.few.no⟩,g.fresh,g.rise,g.mk_,λe he=>?_,λe he=>sy (g.note e he) rfl (by show(S.runs.set _ _).length=_; rw[Dd])⟩;rcases DL he with z | z
  ·rwa[g.way e z]
  ·rw[z];rwa[ok.2.2]
 | .strike k,_ =>
  erw[⟨g.few.ma,g.few.ba,g.few.ru,j8 (BC _ _) g.few.no⟩,λe he=>g.fresh e (BF.mp he).1,?_,g.mk_,g.way,λe he=>uo (g.note e (BF.mp he).1)];rwa[g.rise.sublist (Fb.map _)]
def bA:BS->List Deed->Prop
 | _,[]=>True
 | S,D::r=>okD S D/\bA (aft S D) r
def UR(S:BS)(l:List Deed):BS:=l.foldl aft S
def LwN(H0 H:Hp)(d:b9)(S:BS):Prop:=∃ m b r n,H0 r=Ih/\LwA H d m b r n S
structure SmallN(no:List (Int×Deed))(k:Int)(i:Nat):Prop where
 mk ::
 len:no.length=i
 num:k=1+(i:Int)
 pos:∀ e∈no,1<=e.1
def fourK:Deed->Prop
 | .mark _ _ _ | .sail _ _ | .bearing _ _ _ _ _ _ | .range _ _ _=>True
 | _=>False
structure MarksN(S:BS):Prop where
 mk ::
 lo:3<=S.marks.length
 hi:S.marks.length<=5
 bd:∀ e∈S.marks,e.2.1.natAbs<=860/\e.2.2.natAbs<=860
 bk:S.banks=[]
end Sea

namespace Sea
def stN(l:List (g8×Int×Int))(rs:List (Int×Int))(no:List (Int×Deed))(k:Int):BS:=⟨l,[],rs,no,k⟩
section
variable{l:List (g8×Int×Int)}{rs:List (Int×Int)}{no:List (Int×Deed)}{k:Int}
structure Done(Ds:List Deed)(l:List (g8×Int×Int))(rs:List (Int×Int))(no:List (Int×Deed))(k:Int):Prop where
 mk ::
 ok:bA BS.nil Ds
 at_:UR BS.nil Ds=stN l rs no k
 four:∀ D∈Ds,fourK D
end
def UO{ms:List g8}{x:Int}(h:0<((ms.map V.str).length:Int)):∃ n,n∈ms/\atI (ms.map V.str) (x%((ms.map V.str).length:Int))=Ig (.str n):=by
 have h0:=t9 x (show((ms.map V.str).length:Int)≠0 by lia);have h1:=o6 x h;generalize x%((ms.map V.str).length:Int)=y at h0 h1;obtain⟨k,rfl⟩:=AF h0;have hk:k<ms.length:=by rw[a7] at h1; lia
 rwa[ms[k],Bv hk,xU (by rw[d8,d3 hk]; rfl)]
end Sea

namespace L2
def nZ(o:AL)(f:Array c7->Array c7):(Bf f o).dict=o.dict:=by unfold Bf; split <;> rfl
def gZ(h base:n9)(e:b9)(cls fl:c7):Prop :=
 ∃ oe vs T oT ts,h.get? e=Ig oe/\(oe.cls=cls/\oe.dict=Ih/\vs[2]?=Ig .none)/\oe.data=.fields vs/\vs[1]?=Ig (.ref T)/\base.get? T=Ih/\T≠e/\h.get? T=Ig oT/\oT.data=.fields ts/\ts[3]?=Ig fl
def uD(base:n9)(l:List Dk)(e:b9)(cls:c7)(h:n9):Prop:=base.StaysIn h/\base.get? e=Ih/\h.FunFrames base l/\gZ h base e cls .none
def ZO(base:n9)(l:List Dk)(e:b9)(cls:c7)(L:b9)(h:n9):Prop:=base.StaysIn h/\base.get? e=Ih/\h.FunFrames base l/\gZ h base e cls (rawInt L)
def iK(a:b9)(cls:c7)(h:n9):Prop:=∃ ob vs,h.get? a=Ig ob/\ob.cls=cls/\ob.dict=Ih/\ob.data=.fields vs/\vs[2]?=Ig .none
def uD.there{base h:n9}{l:List Dk}{e:b9}{cls:c7}(x:uD base l e cls h):iK e cls h:=by
 obtain⟨_,_,_,oe,vs,_,_,_,he,hc,hd,_⟩:=x;rwa[oe,vs,he,hc.1,hc.2.1,hd,hc.2.2]
section
variable{M:Hw}{A:Ab}{E:c7->d4->Prop}{s:d4}
def XH{base:n9}{env:Dk}{outer:List Dk}{L e:b9}{oe:AL}{vs:Array c7}{head:c7}{hadNext:Bool}{Q:Unit->d4->Prop}
  (hfr:A.frames=Ig (env::outer)) (hl:s.heap.FunFrames base (env::outer)) (hf:env.frame=Ig L)
  (he:s.heap.get? e=Ig oe) (hkb:base.StaysIn s.heap) (hen:base.get? e=Ih) (hd:oe.data=.fields vs) (hsz:1<vs.size) (hdi:oe.dict=Ih) (h0:vs[2]?=Ig .none)
  (h:∀ h',ZO base (env::outer) e oe.cls L h'->s.heap.UpToSlots h'->Q () { s with heap:=h' }) :
  wpAny M A (do let a <- frameOf env; let pl <- entryPlaceOf L hadNext; let b <- Fc head a .none (rawInt L) .none pl; setField (.ref e) 1 b) Q E s:=by
 have hene:e ∉ (env::outer).filterMap (·.frame):=λhm=>by
  obtain⟨_,o,ho,hnf⟩:=hl.mem hm;rw[he] at ho; injection ho with ho; subst ho; rwa[hnf vs hd]
 erw[ac (wpAny_frameOf_fun hfr hl hf λh₁ hs₁=>?_)];erw[ac (wpAny_entryPlaceOf λpl hpl=>?_)];unfold Fc newFields;erw[ac (p9 ?_ (hpl.sizeOk5 _ _ _ _ _))];have he₁:h₁.get? e=Ig oe:=(hs₁.2.1 e hene).trans he;have kb₁:base.StaysIn h₁:=λb o hbo=>(hs₁.2.1 b λhm=>by rw[(hl.mem hm).1] at hbo; cases hbo).trans (hkb b o hbo);generalize hob:({ cls:=.type "traceback",dict:=Ih,data:=.fields ([head,.ref L,.none,rawInt L,.none]++(if pl.isEmpty then x6 6 p8 else pl)).toArray } : AL)=ob;have hobf:ob.isFreed=false:=by rw[<- hob]; rfl
 have hobd:ob.data=.fields ([head,.ref L,.none,rawInt L,.none]++(if pl.isEmpty then x6 6 p8 else pl)).toArray:=by rw[<- hob]
 have he₂:=c9 (h:=h₁) ob he₁;erw[Bh he₂ hd hsz (h _ ?_ ?_)]
 ·have hTe:h₁.objs.size≠e:=BW (f9 he₁);have hd₃:=AJ hd (·.setIfInBounds 1 (j6 h₁.objs.size));have he₃:=AO (Bf (·.setIfInBounds 1 (j6 h₁.objs.size))) he₂ (A8 hd₃);have hT₃:=(o7 (h₁.push ob) (Bf (·.setIfInBounds 1 (j6 h₁.objs.size))) (AG hTe)).trans (e7 h₁ hobf);have keep:∀ b o,b≠e->h₁.get? b=Ig o->((h₁.push ob).update e (Bf (·.setIfInBounds 1 (j6 h₁.objs.size)))).get? b=Ig o:=λb o hbe hb=>by
   rw[o7 _ _ (AG hbe)];rwa[c9 _ hb]
  have noRecord:∀ b o,s.heap.get? b=Ig o->(∀ vs,o.data≠.fields vs)->b≠e:=λb o hb hnf q=>by
   rw[q,he] at hb; injection hb with hb; subst hb; rwa[hnf vs hd]
  refine⟨λb o hbo=>keep b o (λq=>by rw[q,hen] at hbo; cases hbo) (kb₁ b o hbo),hen,hl.of_keeps λb o hb hnf=>?_,?_⟩
  ·obtain⟨sl,hs⟩:=hs₁.2.2 b o hb;rwa[_,keep b _ (noRecord b o hb hnf) hs,U]
  ·exact⟨_,_,h₁.objs.size,_,_,he₃,⟨Cc _ _,by rw[nZ]; exact hdi,by rw[Array.getElem?_setIfInBounds_ne (by decide)]; rwa[h0]⟩,hd₃,by simp[hsz],kb₁.fresh,hTe,hT₃,hobd,by first | (simp; done) | (rcases hpl with rfl | ⟨_,_,_,_,_,_,_,rfl⟩ <;> simp)⟩
 ·intro b o hb hnf;have hbe:b≠e:=λq=>by rw[q,he] at hb; injection hb with hb; subst hb; rwa[hnf vs hd]
  obtain⟨sl,hs⟩:=hs₁.2.2 b o hb;exists sl;rw[o7 _ _ (AG hbe)];rwa[c9 _ hs]
def gK{base:n9}{env:Dk}{outer:List Dk}{L e:b9}{oe:AL}{vs:Array c7}{Q:Unit->d4->Prop}
  (hfr:A.frames=Ig (env::outer)) (hl:s.heap.FunFrames base (env::outer)) (hf:env.frame=Ig L)
  (he:s.heap.get? e=Ig oe) (hkb:base.StaysIn s.heap) (hen:base.get? e=Ih) (hd:oe.data=.fields vs) (h1:vs[1]?=Ig .none) (hdi:oe.dict=Ih) (h0:vs[2]?=Ig .none)
  (h:∀ h',ZO base (env::outer) e oe.cls L h'->s.heap.UpToSlots h'->Q () { s with heap:=h' }):wpAny M A (noteFrame (.ref e) env) Q E s:=by
 unfold noteFrame;simp only[hf];erw[ac (Ae he hd h1 ?_)];rw[y7 (by decide)];rwa[XH hfr hl hf he hkb hen hd (BA.mp h1).1 hdi h0 h]
def kL{base:n9}{env:Dk}{outer:List Dk}{L e:b9}{cls:c7}{Q:Unit->d4->Prop}
  (hfr:A.frames=Ig (env::outer)) (hf:env.frame=Ig L) (hfl:uD base (env::outer) e cls s.heap)
  (h:∀ h',ZO base (env::outer) e cls L h'->s.heap.UpToSlots h'->Q () { s with heap:=h' }):wpAny M A (noteFrame (.ref e) env) Q E s:=by
 obtain⟨hkb,hen,hl,oe,vs,T,oT,ts,he,⟨hcls,hdi,h0⟩,hd,h1,hnT,hTe,hT,hdT,h3⟩:=hfl;subst hcls;unfold noteFrame;simp only[hf];refine ac (Ae he hd h1 ?_);rw[y9 (show(j6 T != p8)=Ii from by simp)];refine ac (Ae hT hdT h3 ?_);rw[y7 (show ¬ ((p8 == rawInt L)=Ii) from by simp[rawInt])];refine ac (Bh hT hdT (BA.mp h3).1 ?_);have other:∀ b,b≠T->(s.heap.update T (Bf (·.setIfInBounds 3 p8))).get? b=s.heap.get? b:=λb hb=>o7 _ _ (AG hb);have noRecord:∀ b o,s.heap.get? b=Ig o->(∀ vs,o.data≠.fields vs)->b≠T:=λb o hb hnf q=>by
  rw[q,hT] at hb; injection hb with hb; subst hb; rwa[hnf ts hdT]
 refine XH hfr (hl.of_keeps λb o hb hnf=>⟨o,(other b (noRecord b o hb hnf)).trans hb,rfl⟩) hf ((other e (AG hTe)).trans he)
  (λb o hbo=>(other b λq=>by rw[q,hnT] at hbo; cases hbo).trans (hkb b o hbo)) hen hd (BA.mp h1).1 hdi h0
  λh' x1 x2=>h h' x1 λb o hb hnf=>x2 b o ((other b (noRecord b o hb hnf)).trans hb) hnf
def aZ{base:n9}{l:List Dk}{e:b9}{cls fl:c7}{Q:Unit->d4->Prop}(hh:base.StaysIn s.heap/\base.get? e=Ih/\s.heap.FunFrames base l/\gZ s.heap base e cls fl)
  (h:∀ h',uD base l e cls h'->s.heap.UpToSlots h'->Q () { s with heap:=h' }):wpAny M A (setFlight (.ref e) Ih) Q E s:=by
 obtain⟨hkb,hen,hl,oe,vs,T,oT,ts,he,hcls,hd,h1,hnT,hTe,hT,hdT,h3⟩:=hh;have hsz3:3<ts.size:=(BA.mp h3).1;have other:∀ b,b≠T->(s.heap.update T (Bf (·.setIfInBounds 3 ((Ih:Option b9).elim p8 λf=>rawInt f)))).get? b=s.heap.get? b :=
  λb hb=>o7 _ _ (AG hb)
 have noRecord:∀ b o,s.heap.get? b=Ig o->(∀ vs,o.data≠.fields vs)->b≠T:=λb o hb hnf q=>by
  rw[q,hT] at hb; injection hb with hb; subst hb; rwa[hnf ts hdT]
 unfold setFlight;refine ac (Ae he hd h1 ?_);rw[y9 (show(j6 T != p8)=Ii from by simp)];refine Bh hT hdT hsz3 (h _ ⟨λb o hbo=>(other b λq=>by rw[q,hnT] at hbo; cases hbo).trans (hkb b o hbo),hen,
  hl.of_keeps λb o hb hnf=>⟨o,(other b (noRecord b o hb hnf)).trans hb,rfl⟩,?_⟩ λb o hb hnf=>⟨o.slots,(other b (noRecord b o hb hnf)).trans hb⟩)
 rwa[oe,vs,T,_,_,(other e (AG hTe)).trans he,hcls,hd,h1,hnT,hTe,AO _ hT (A8 (AJ hdT _)),AJ hdT _,by simp[hsz3]]
def bE{base:n9}{l:List Dk}{e L:b9}{cls:c7}{Q:Unit->d4->Prop}(hh:ZO base l e cls L s.heap)
  (h:∀ h',uD base l e cls h'->s.heap.UpToSlots h'->Q () { s with heap:=h' }):wpAny M A (setFlight (.ref e) Ih) Q E s:=aZ hh h
def je{base:n9}{l:List Dk}{e:b9}{cls:c7}{Q:Unit->d4->Prop}(hh:uD base l e cls s.heap)
  (h:∀ h',uD base l e cls h'->s.heap.UpToSlots h'->Q () { s with heap:=h' }):wpAny M A (setFlight (.ref e) Ih) Q E s:=aZ hh h
def cy{base:n9}{env:Dk}{outer:List Dk}{L e:b9}{cls:c7}{Q:Unit->d4->Prop}
  (hfr:A.frames=Ig (env::outer)) (hf:env.frame=Ig L) (hfl:uD base (env::outer) e cls s.heap)
  (hQ:∀ h',uD base outer e cls h'->s.heap.UpToSlots h'->Q () { s with heap:=h' }):wpAny M A (leaving env (.ref e)) Q E s:=by
 unfold leaving;erw[ac (kL hfr hf hfl λh1 x1 u1=>?_)];erw[bE x1 λh2 ⟨k1,k2,⟨_,_,k3⟩,k4⟩ u2=>hQ h2 ⟨k1,k2,k3,k4⟩ (u1.trans u2)]
def jw{base h:n9}{env:Dk}{outer:List Dk}{L e:b9}{cls:c7}{args:List c7}{Q:Unit->d4->Prop}
  (hfr:A.frames=Ig (env::outer)) (hf:env.frame=Ig L) (hkb:base.StaysIn h) (hl:h.FunFrames base (env::outer)) (hx:GJ h s.heap e cls args)
  (hQ:∀ h',uD base outer e cls h'->s.heap.UpToSlots h'->Q () { s with heap:=h' }):wpAny M A (leaving env (.ref e)) Q E s:=by
 obtain⟨t,he,htn,ht⟩:=hx.there;have fresh:∀ b,h.get? b=Ih->base.get? b=none:=λb hb=>by
  cases hq:base.get? b with
  | none=>rfl
  | some o'=>have:=hkb b o' hq; rw[hb] at this; cases this
 unfold leaving;erw[ac (gK hfr (hl.of_keeps λb o hb _=>⟨o,hx.keeps b o hb,rfl⟩) hf he (λb o hb=>hx.keeps b o (hkb b o hb)) (fresh e hx.new) rfl rfl rfl rfl λh1 x1 u1=>?_)];erw[bE x1 λh2 ⟨k1,k2,⟨_,_,k3⟩,k4⟩ u2=>hQ h2 ⟨k1,k2,k3,k4⟩ (u1.trans u2)]
end
end L2

namespace L2
def kB:plainId "proto.unchain" = true:=by ac_nf
def ku:entryFor table "proto.unchain" = Ig Cj.«proto.unchain»:=entryFor_of_tree (by symm)
def iR(h:n9)(x:b9):Prop:=∃ ob vs,h.get? x=Ig ob/\ob.data=.fields vs/\vs[2]?=Ig .none
section
variable{prog:j9}{w:n5}{A:Ab}{E:c7->d4->Prop}{s:d4}
def vo{α:Type}{x e:b9}{oe:AL}{ws:Array c7}{Q:α->d4->Prop}(hh:A.handled=Ig (.ref x))(hne:x≠e)(ha:iR s.heap x)(he:s.heap.get? e=Ig oe)(hde:oe.data=.fields ws)(hz:2<ws.size)
  (h:E (.ref e) { s with heap:=s.heap.update e (Bf (·.setIfInBounds 2 (.ref x))) }):wpAny (model prog w) A (raiseNew (.ref e):GP α) Q E s:=by
 obtain⟨ox,vs,hx,hd,h2⟩:=ha;unfold raiseNew;erw[ac (Fg ?_)];rw[hh];dsimp only;rw[y9 (show(j6 x != j6 e)=Ii by simpa using hne)];erw[ac (Aw (wpAny_runValue (codeAny_builtin ku ?_)))];rw[Around.under_plainId kB _];unfold Cj.«proto.unchain»;dsimp only;erw[ac (Ae hx hd h2 ?_)];rw[y9 (by rfl)];erw[ac (d7 (d7 ?_))];erw[ac ?_];unfold updateField;erw[ac (wpAny_load he ?_)];rw[hde];dsimp only;rw[y9 hz];rwa[wpAny_update he (Gq h)]
def nY{x it l:b9}{i:Nat}{items:Array c7}{Q:Option c7->d4->Prop}(hh:A.handled=Ig (.ref x))(ha:iR s.heap x)(hxi:x≠it)
  (hit:s.heap.IsListIter it l i) (hl:s.heap.IsList l items) (hx:items[i]?=Ih)
  (hQ:∀ h',CL it s.heap h'->Q Ih { s with heap:=h' }):wpAny (model prog w) A (pyNext (.ref it)) Q E s:=by
 obtain⟨o,ho,hc,hd⟩:=id hit;obtain⟨ol,hol,_,nl,hdl⟩:=hl;unfold pyNext;refine ac (BN (Ap (name:=l5 "__next__") hit.typeIs D1
  (Ar D1 hit.typeIs PySem.entry_listiter_next ?_ (PySem.args_listiter_next _))))
 show wpAny _ _ (field (.ref it) 0 >>= _) _ _ s;erw[ac (Ae ho hd (x:=.ref l) rfl ?_)];show wpAny _ _ (if (j6 l == p8)=Ii then _ else _) _ _ s;rw[y7 (show ¬ ((j6 l == p8)=Ii) from h9)];show wpAny _ _ (field (.ref it) 1 >>= _) _ _ s;erw[ac (Ae ho hd (x:=.int i 0) rfl ?_)];show wpAny _ _ (seqItems? (.ref l) >>= _) _ _ s;erw[ac (AY hol hdl ?_)];simp only[AE,hx];erw[ac (Dw (ac (Bh ho hd (by simp) ?_)))];show wpAny _ _ (newExc (.type "StopIteration") [] >>= _) _ _ _;erw[ac ?_];simp only[newExc,newTuple];erw[ac (p9 ?_ (by size_fits))];refine ac (m:=firstArgMember _ _) (Cg (a:=p8) (by first | rfl | (simp only[firstArgMember]; rfl)) ?_);erw[p9 ?_ (by size_fits)];obtain⟨ox,vs,hox,hdx,h2x⟩:=ha;refine vo (x:=x) (ws:=_) (by first | exact hh | (rw[show A.in1.handled=A.handled from rfl]; rwa[hh])) ?_ ⟨ox,vs,c9 _ (c9 _ ((o7 _ _ (AG hxi)).trans hox)),hdx,h2x⟩ (e7 _ rfl) rfl (by simp; lia) ?_
 ·rwa[λz=>x4 (f9 hox) (by rw[z]; simp)]
 erw[ac (C0 (T := "StopIteration") (b:=Ii) ⟨_,AO _ (e7 _ rfl) (A8 (AJ rfl _)),Cc _ _⟩ isSubtype_stop ?_)];erw[d7 (hQ _ λb o hb e=>?_)];rw[o7 _ _ (λz=>x4 (f9 e) (by rw[<- z]; simp))];rwa[c9 _ (c9 _ ((o7 _ _ (AG hb)).trans e))]
def om{x it t:b9}{i:Nat}{items:Array c7}{Q:Option c7->d4->Prop}(hh:A.handled=Ig (.ref x))(ha:iR s.heap x)(hxi:x≠it)
  (hit:IsTupIter s.heap it t i) (ht:Hv s.heap t items) (hx:items[i]?=Ih)
  (hQ:∀ h',CL it s.heap h'->Q Ih { s with heap:=h' }):wpAny (model prog w) A (pyNext (.ref it)) Q E s:=by
 obtain⟨o,ho,hc,hd⟩:=id hit;obtain⟨ol,hol,_,nl,hdl⟩:=ht;unfold pyNext;refine ac (BN (Ap (name:=l5 "__next__") hit.typeIs slot_tupleiter_next
  (Ar slot_tupleiter_next hit.typeIs entry_tupleiter_next ?_ (args_tupleiter_next _))))
 show wpAny _ _ (field (.ref it) 0 >>= _) _ _ s;erw[ac (Ae ho hd (x:=.ref t) rfl ?_)];show wpAny _ _ (if (j6 t == p8)=Ii then _ else _) _ _ s;rw[y7 (show ¬ ((j6 t == p8)=Ii) from h9)];show wpAny _ _ (field (.ref it) 1 >>= _) _ _ s;erw[ac (Ae ho hd (x:=.int i 0) rfl ?_)];show wpAny _ _ (seqItems? (.ref t) >>= _) _ _ s;erw[ac (AY hol hdl ?_)];simp only[AE,hx];erw[ac (Dw (ac (Bh ho hd (by simp) ?_)))];show wpAny _ _ (newExc (.type "StopIteration") [] >>= _) _ _ _;erw[ac ?_];simp only[newExc,newTuple];erw[ac (p9 ?_ (by size_fits))];refine ac (m:=firstArgMember _ _) (Cg (a:=p8) (by first | rfl | (simp only[firstArgMember]; rfl)) ?_);erw[p9 ?_ (by size_fits)];obtain⟨ox,vs,hox,hdx,h2x⟩:=ha;refine vo (x:=x) (ws:=_) (by first | exact hh | (rw[show A.in1.handled=A.handled from rfl]; rwa[hh])) ?_ ⟨ox,vs,c9 _ (c9 _ ((o7 _ _ (AG hxi)).trans hox)),hdx,h2x⟩ (e7 _ rfl) rfl (by simp; lia) ?_
 ·rwa[λz=>x4 (f9 hox) (by rw[z]; simp)]
 erw[ac (C0 (T := "StopIteration") (b:=Ii) ⟨_,AO _ (e7 _ rfl) (A8 (AJ rfl _)),Cc _ _⟩ isSubtype_stop ?_)];erw[d7 (hQ _ λb o hb e=>?_)];rw[o7 _ _ (λz=>x4 (f9 e) (by rw[<- z]; simp))];rwa[c9 _ (c9 _ ((o7 _ _ (AG hb)).trans e))]
def lS{x t:b9}{items:Array c7}{targets:List (Bool×(c7->GP Unit))}{Q:Unit->d4->Prop}(hh:A.handled=Ig (.ref x))(ha:iR s.heap x)(ht:Hv s.heap t items)
  (hn:targets.length=items.size) (hstar:targets.findIdx? (·.1)=Ih)
  (h:∀ h',CL s.heap.objs.size s.heap h'->wpAny (model prog w) A (assignInOrder (targets.map (·.2)) items.toList) Q E { s with heap:=h' }) :
  wpAny (model prog w) A (unpack (.ref t) targets) Q E s:=by
 have hlt:t≠s.heap.objs.size:=by obtain⟨o,ho,_⟩:=ht; rwa[l6 (f9 ho)]
 have hlx:x≠s.heap.objs.size:=by obtain⟨o,_,ho,_⟩:=ha; rwa[l6 (f9 ho)]
 unfold unpack;rw[hn,hstar];refine ac (Aw ?_);unfold unpackItems;refine ac ?_;unfold notIterableAtAll;refine ac (Gw ht.typeIs slot_tuple_iter.lookup ?_);refine d7 ?_;simp only[AU,if_false];refine ac (Aw (iter_tuple ht ?_));refine ac (Aw (draw_tuple hlt items.size 0 _ _ ⟨_,e7 _ rfl,rfl,rfl⟩ (ht.push _) (by lia) λh₁ hit₁ hs₁=>?_));have hall:List.take items.size (List.drop 0 items.toList)=items.toList:=by
  rw[GK]; rwa[Aa (by simp)]
 rw[hall];rw[y7 (by simp)];have ht₁:Hv h₁ t items:=(ht.push _).extBut hs₁.extBut hlt;have ha₁:iR h₁ x:=by
  obtain⟨ob,vs,e1,e2,e3⟩:=ha;rwa[ob,vs,hs₁.extBut _ _ hlx (c9 _ e1),e2,e3]
 erw[ac (Aw (om hh ha₁ hlx hit₁ ht₁ (by simp) λh₂ he₂=>?_))];simp only[Option.isSome_none,AU,if_false];rwa[d7 (h h₂ λb o hb e=>he₂ b o hb (hs₁.extBut b o hb (c9 _ e)))]
def lL{env:Dk}{elts:List t6}{x1}{pos:Ck}{x t:b9}{items:Array c7}{Q:Unit->d4->Prop}(hh:A.handled=Ig (.ref x))(ha:iR s.heap x)(ht:Hv s.heap t items)
  (hn:(assignEach elts env).length=items.size) (hstar:(assignEach elts env).findIdx? (·.1)=Ih)
  (h:∀ h',CL s.heap.objs.size s.heap h'->wpAny (model prog w) A (assignInOrder ((assignEach elts env).map (·.2)) items.toList) Q E { s with heap:=h' }) :
  wpAny (model prog w) A (assign (.Tuple elts x1 pos) env (.ref t)) Q E s:=by
 rw[assign_Tuple];rwa[ac (C3 (lS hh ha ht hn hstar h))]
end
end L2

namespace L2
def xI.some{P:j9}{w:n5}{H:Hp}{h:n9}{a:b9}{o:HO}(x:xI P w H h a o):∃ ob,h.get? a=Ig ob:=by
 cases o with
 | lst xs=>obtain⟨_,_,_,_,e⟩:=x; rwa[_,e]
 | tup xs=>obtain⟨_,_,_,o,e,_⟩:=x; rwa[_,e]
 | dK kvs=>obtain⟨_,_,_,_,o,_,_,e,_⟩:=x; rwa[_,e]
 | dT kvs=>obtain⟨_,_,_,_,o,_,_,e,_⟩:=x; rwa[_,e]
 | set S n=>obtain⟨o,_,_,_,e,_⟩:=x; rwa[_,e]
 | ins C dx fs=>obtain⟨_,_,_,e,_⟩:=x; rwa[_,e]
 | own y=>obtain⟨_,e⟩:=x; rwa[_,e]
 | xd fs=>obtain⟨_,⟨_,_,_,e,_⟩,_⟩:=x; rwa[_,e]
 | rng lo hi=>obtain⟨_,_,_,e⟩:=x; rwa[_,e]
 | frz ob u=>obtain⟨e,_⟩:=x; rwa[_,e]
 | tbl ps=>rwa[_,x]
 | met f y=>rwa[_,x]
 | ext φ=>obtain⟨_,⟨_,e⟩,_⟩:=x; rwa[_,e]
section
variable{fs:List b9}{H H':Hp}{h h2 h3 B:n9}{P:j9}{w:n5}
def Uc(u:Un fs [] H H' h h2)(st:B.StaysIn h3)(hB:∀ b o o',h.get? b=Ig o'->h2.get? b=Ig o->b ∉ fs->B.get? b=Ig o)
  (hf:∀ b∈fs,∀ o,h2.get? b=Ig o->∃ sl,h3.get? b=Ig { o with slots:=sl }):Un fs [] H H' h h3 where
 keep:=λb o q n hb hx=>st _ _ (hB b o o q (u.keep b o q n hb hx) hb)
 slot:=λb o q n hb hx=>by
  obtain⟨sl,e⟩:=u.slot b o q n hb hx;obtain⟨sl',e'⟩:=hf b hb _ e;rwa[sl',e']
 free:=u.free
 there:=λb o q hx=>by
  obtain⟨o',e⟩:=u.there b o q hx;by_cases hb:b∈fs
  ·obtain⟨sl,e'⟩:=hf b hb _ e;rwa[_,e']
  ·rwa[o',st _ _ (hB b o' o q e hb)]
 tups:=u.tups
 frzs:=u.frzs
 tbls:=u.tbls
def Xp(ok:HOk P w H' h2)(st:B.StaysIn h3)(hB:∀ b o u,H' b=Ig u->h2.get? b=Ig o->B.get? b=Ig o):HOk P w H' h3:=λa o e =>
 (ok a o e).stay (λb u hb q=>st _ _ (by
  rcases hb with rfl | hb
  ·rwa[hB _ u o e q]
  ·rwa[hB b u _ hb q])) (λ_ q=>q) λ_ _ q=>q
end
structure iD(P:j9)(w:n5)(outer:List Dk)(H:Hp)(s:d4)(ea:b9)(cls:c7)(H':Hp)(B:n9)(s':d4):Prop where
 mk ::
 os:s'.os=s.os
 bare:Do s'.gens
 un:Un (frs outer) [] H H' s.heap s'.heap
 hok:HOk P w H' s'.heap
 new:H' ea=Ih
 fresh:s.heap.get? ea=Ih
 fly:uD B outer ea cls s'.heap
 has:∀ b o,s'.heap.get? b=Ig o->((s.heap.get? b).isSome=Ii\/(H' b).isSome=Ii)->b ∉ frs outer->B.get? b=Ig o
def CX1(P:j9)(w:n5):CXT:=λouter H s E e s'=>∃(ea:b9)(cls:c7)(H':Hp)(B:n9),e=.ref ea/\iD P w outer H s ea cls H' B s'/\E cls Ih H'
def jD{X:Cx}{Ik:List (b9×AL)}{σ:St}{H2:Hp}{s2:d4}{ea:b9}{cls:c7}{B h3:n9}{env:Dk}{outer:List Dk}(hs:X.stack=env::outer)(ho:X.outer=outer)(hx:X.ex=[])(hl:env.frame=Ig X.env.locals)(J:Inv X Ik σ H2 s2)
  (hB:∀ b o,s2.heap.get? b=Ig o->((X.s₀.heap.get? b).isSome=Ii\/(H2 b).isSome=Ii)->b ∉ frs (env::outer)->B.get? b=Ig o) (nw:H2 ea=Ih) (fr:X.s₀.heap.get? ea=Ih)
  (fly:uD B outer ea cls h3) (up:s2.heap.UpToSlots h3):iD X.prog X.w outer X.H₀ X.s₀ ea cls H2 B { s2 with heap:=h3 }:=by
 have st:=fly.1;have notin:∀ b o,X.s₀.heap.get? b=Ig o->b ∉ frs outer->b ∉ frs (env::outer):=λb o q hb z=>by
  rcases i7.mp (show b∈X.env.locals::frs outer by
   have:frs (env::outer)=X.env.locals::frs outer:=by unfold frs; rw[AZ,hl]
   rw[<- this]; rwa[z]) with e | e
  ·have l:=m5 (f9 q) J.ok.above;rw[e] at l;rwa[Bc _ l]
  ·rwa[hb e]
 have trk:∀ b u,H2 b=Ig u->b ∉ frs (env::outer):=λb u e z=>by
  have:=J.stkFree b (by rw[hs]; rwa[z]);rw[e] at this;cases this
 have fs:X.fs=frs outer:=by show frs X.outer=_; rw[ho]
 have hf:∀ b∈frs outer,∀ o,s2.heap.get? b=Ig o->∃ sl,h3.get? b=Ig { o with slots:=sl }:=λb hb o e=>by
  obtain⟨_,o',e',nf⟩:=J.stack.mem (show b∈X.stack.filterMap (·.frame) by
   rw[hs];show b∈frs (env::outer);have:frs (env::outer)=X.env.locals::frs outer:=by unfold frs; rw[AZ,hl]
   rw[this];rwa[.tail _ hb])
  rw[e] at e';cases e';rwa[up b o e nf]
 have un:Un (frs outer) [] X.H₀ H2 X.s₀.heap s2.heap:=by
  have:=J.base;rw[fs,hx] at this;rwa[this]
 refine⟨J.os,J.bare,Uc un st (λb o o' q e hb=>hB b o e (.inl (by rw[q]; rfl)) (notin b o' q hb)) hf,Xp J.hok st λb o u e q=>hB b o q (.inr (by rw[e]; rfl)) (trk b u e),nw,fr,fly,λb o e z hb=>?_⟩;have key:∃ o',s2.heap.get? b=Ig o':=by
  rcases z with z | z
  ·obtain⟨o',q⟩:=k9.mp z;exact un.there b o' q (λz=>nomatch z)
  ·obtain⟨u,q⟩:=k9.mp z;exact(J.hok b u q).some
 obtain⟨o',e'⟩:=key;have hb':b ∉ frs (env::outer):=by
  rcases z with z | z
  ·obtain⟨o',q⟩:=k9.mp z;rwa[notin b o' q hb]
  ·obtain⟨u,q⟩:=k9.mp z;rwa[trk b u q]
 have hb2:=hB b o' e' z hb';have:=st _ _ hb2;rw[show({ s2 with heap:=h3 } : d4).heap=h3 from rfl] at e;rw[this] at e;cases e;rwa[hb2]
def iD.inv{X:Cx}{Ik:List (b9×AL)}{σ:St}{H H':Hp}{s s':d4}{ea:b9}{cls:c7}{B:n9}(I:Inv X Ik σ H s)(f:iD X.prog X.w X.stack H s ea cls H' B s'):Inv X Ik σ H' s' :=
 I.call' (ch:=[]) f.os f.un f.hok f.bare λb z=>x4 z (by simp)
def iD.on{P:j9}{w:n5}{outer:List Dk}{base:n9}{H H':Hp}{s s':d4}{ea:b9}{cls:c7}{B h3:n9}(hs:s'.heap.FunFrames base outer)(f:iD P w outer H s ea cls H' B s')(hfree:∀ b∈frs outer,H' b=Ih)
  (fly:uD B outer ea cls h3) (up:s'.heap.UpToSlots h3):iD P w outer H s ea cls H' B { s' with heap:=h3 }:=by
 have st:=fly.1;have trk:∀ b u,H' b=Ig u->b ∉ frs outer:=λb u e z=>by
  have:=hfree b z;rw[e] at this;cases this
 refine⟨f.os,f.bare,Uc f.un st (λb o o' q e hb=>f.has b o e (.inl (by rw[q]; rfl)) hb) (λb hb o e=>by
  obtain⟨_,o',e',nf⟩:=hs.mem hb;rw[e] at e';cases e';rwa[up b o e nf]),Xp f.hok st λb o u e q=>f.has b o q (.inr (by rw[e]; rfl)) (trk b u e),f.new,f.fresh,fly,λb o e z hb=>?_⟩
 have key:∃ o',s'.heap.get? b=Ig o':=by
  rcases z with z | z
  ·obtain⟨o',q⟩:=k9.mp z;exact f.un.there b o' q (λz=>nomatch z)
  ·obtain⟨u,q⟩:=k9.mp z;exact(f.hok b u q).some
 obtain⟨o',e'⟩:=key;have hb2:=f.has b o' e' z hb;have:=st _ _ hb2;rw[show({ s' with heap:=h3 } : d4).heap=h3 from rfl] at e;rw[this] at e;cases e;rwa[hb2]
def gG(X:Cx)(EE:St->XK):Prop:=∀(Ik:List (b9×AL))(σ:St)(H:Hp)(s:d4)(e:c7)(s':d4),Inv X Ik σ H s->CX1 X.prog X.w X.stack H s (EE σ) e s'->X.xe e s'
def VR(X:Cx)(EE:St->XK):Prop:=∀(Ik:List (b9×AL))(σ:St)(H:Hp)(s:d4)(h':n9)(e:b9)(cls:c7)(vs:List c7),Inv X Ik σ H s->GJ s.heap h' e cls vs->EE σ cls Ih H->X.xe (.ref e) { s with heap:=h' }
section
variable{P:j9}{w:n5}{K:b7}{mg:g8->Option c7}{base:n9}{N:List g8}{qual:g8}{scope:CJ}{f:b9}{cd:c7}{A:Ab}{outer:List Dk}{s:d4}{H:Hp}{E:XK}
def yD:gG (cxOf (CX1 P w) P w K mg base N qual scope f cd A outer s H E) (λ_=>E):=by
 intro Ik σ H1 s1 e s2 I h;obtain⟨ea,cls,H2,B,rfl,fl,q⟩:=h;have J:=fl.inv I;erw[cy (base:=B) (cls:=cls) (L:=s.heap.objs.size) I.ok.frames rfl fl.fly λh3 fly up=>?_];erw[ea,cls,H2,B,U,jD (X:=cxOf (CX1 P w) P w K mg base N qual scope f cd A outer s H E) rfl rfl rfl rfl J (λb o e z hb=>fl.has b o e (z.imp (λz=>?_) id) hb) fl.new ?_ fly up,q]
 ·obtain⟨o',q'⟩:=k9.mp z;obtain⟨o'',q''⟩:=I.base.there b o' q' (λz=>nomatch z);rw[q''];rfl
 ·show s.heap.get? ea=Ih;cases q':s.heap.get? ea with
  | none=>rfl
  | some o' =>
   obtain⟨o'',q''⟩:=I.base.there ea o' q' (λz=>nomatch z);rw[fl.fresh] at q'';cases q''
def xC:VR (cxOf (CX1 P w) P w K mg base N qual scope f cd A outer s H E) (λ_=>E):=by
 intro Ik σ H1 s1 h' e cls vs I hx q;have hin:∀ env∈(cxOf (CX1 P w) P w K mg base N qual scope f cd A outer s H E).stack,∀ b,env.frame=Ig b->b∈frs (cxOf (CX1 P w) P w K mg base N qual scope f cd A outer s H E).stack:=λenv he b hb=>CG.mpr ⟨env,he,hb⟩;have notin:∀ b o,s1.heap.get? b=Ig o->b ∉ frs (cxOf (CX1 P w) P w K mg base N qual scope f cd A outer s H E).stack->(Et s1.heap (frs (cxOf (CX1 P w) P w K mg base N qual scope f cd A outer s H E).stack)).get? b=Ig o:=λb o e hb=>E8 _ e hb;refine jw (h:=s1.heap) (base:=Et s1.heap (frs (cxOf (CX1 P w) P w K mg base N qual scope f cd A outer s H E).stack)) (cls:=cls) (args:=vs) (L:=s.heap.objs.size) I.ok.frames rfl (λb o q=>Fm _ q) (PySem.W.funFrames_hide I.stack hin) hx λh3 fly up=>?_;have nw:H1 e=none:=by
  cases z:H1 e with
  | none=>rfl
  | some u =>
   obtain⟨ob,eo⟩:=(I.hok e u z).some;rw[hx.new] at eo;cases eo
 erw[e,cls,H1,_,U,jD (X:=cxOf (CX1 P w) P w K mg base N qual scope f cd A outer s H E) (s2:=s1) rfl rfl rfl rfl I (λb o e _ hb=>notin b o e hb) nw ?_ fly ((HD hx.keeps).trans up),q];show s.heap.get? e=Ih;cases q':s.heap.get? e with
 | none=>rfl
 | some o' =>
  obtain⟨o'',q''⟩:=I.base.there e o' q' (λz=>nomatch z);rw[hx.new] at q'';cases q''
def Fun.okX{x qual:g8}{st:Ah}{f:b9}{fd:Aq}{N ps:List g8}{k:Nat}{sp:Sp}(F:Fun K x qual st f fd)(S:zP N ps (zJ st))(len:∀ vs H Q E,sp vs H Q E->vs.length=ps.length)
  (hbody:∀(cdv:c7)(A:Ab)(outer:List Dk)(s:d4)(H:Hp)(vs:List V)(Q:VK)(E:XK),rX k (A.deeper (envOfC qual (zJ st) s.heap.objs.size f cdv))->sp vs H Q E ->
   ∃ t,PSs (cxOf (CX1 P w) P w K mg base N qual (zJ st) f cdv A outer s H E) (xH st) t/\t { nx:=λ_ H'=>Q .non H',rt:=Q } (start N vs) H):yX P w K mg base (CX1 P w) (k+1) f fd ps sp:=by
 obtain⟨oc,od,kV,doc,pm,an,cdv,ct,osl,rfl,lk,hcd⟩:=F.ex;rwa[VH lk hcd S len λA outer s H vs Q E hr hsp=>hbody cdv A outer s H vs Q E hr hsp]
end
def qS(P:j9)(w:n5)(K:b7)(mg:g8->Option c7)(base:n9)(x:g8)(n:Nat)(ps:List g8)(sp:Sp):Prop :=
 ∃(f:b9)(fd:Aq),yX P w K mg base (CX1 P w) n f fd ps sp/\vb K fd ps []/\Au K (.ref f)=Ii/\mg x=Ig (.ref f)
def ce(P:j9)(w:n5)(K:b7)(mg:g8->Option c7)(base:n9)(g:b9)(n:Nat)(ps:List g8)(sp:Sp):Prop :=
 ∃ fd:Aq,yX P w K mg base (CX1 P w) n g fd ps sp/\∀ us:List c7,us.length=ps.length->bindArgs fd ⟨us,[]⟩=pure (ps.zip us)
section
variable{X:Cx}{n:Nat}{f:b9}{fd:Aq}{ps:List g8}{sp:Sp}{x m:g8}{p pos apos:Ck}{e o:t6}{es:List t6}{ta:TE}{t:TA}{EE:St->XK}{C g:b9}
def lA{Ik:List (b9×AL)}{σ:St}{H:Hp}{s:d4}{Q:VK}{us:List c7}{vs:List V}(F:yX X.prog X.w X.K X.mg X.base (CX1 X.prog X.w) n f fd ps sp)(hr:rX n X.A)(hb:vb X.K fd ps [])(hx:gG X EE)
  (I:Inv X Ik σ H s) (r:yP vs us) (h:sp vs H Q (EE σ)):wpAny (model X.prog X.w) X.A (call (.ref f) us) (EP X Ik σ Q) X.xe s:=by
 have hl:us.length=ps.length:=by rw[<- r.length]; rwa[F.len _ _ _ _ h]
 have hb':=hb s us I.kIn (by rw[Bq]; rwa[hl]);rw[Bq] at hb';erw[DA (codeAny_mono (F.run X.A X.stack s H ⟨us,[]⟩ us vs Q (EE σ) hr I.env0 hb' r h) λr s' hq=>?_)];cases r with
 | error e=>rwa[hx Ik σ H s e s' I hq]
 | ok fl =>
  cases fl with
  | ret u=>rwa[I.after hq]
  | next=>rwa[v7 hq]
  | brk=>rwa[v7 hq]
  | cont=>rwa[v7 hq]
def VN(sp:Sp)(EE:St->XK)(t:TA):TE:=λσ H Q=>t σ H λvs H1=>sp vs H1 Q (EE σ)
def yH(EE:St->XK)(h:qS X.prog X.w X.K X.mg X.base x n ps sp)(hx:gG X EE)(hr:rX n X.A)(hg:Gl X x)
  (ha:PA X (e::es) t) (hdb:(x ==("__debug__" : g8))=false:=by decide) (he:starEach (e::es) X.env=(Ij,eval e X.env)::starEach es X.env:=by rfl) (hpl:(backTo pos (starEach es X.env)).any (·.1)=false:=by rfl) :
  PE X (.Call (.Name x p) (e::es) [] pos) (VN sp EE t):=by
 obtain⟨f,fd,F,hb,hk,hm⟩:=h;intro Ik s σ H Q I h;erw[Ba (sF I hg hm ?_ hdb)];erw[Bw (h₀:=X.base) I.ok.mod.kin hk (thn (ha pos Ik s σ H _ I h) λus s1 ⟨vs,H1,I1,r,q⟩=>⟨I1.kIn,?_⟩) he hpl];rwa[lA F hr hb hx I1 r q]
def Xx(C:b9)(m:g8)(sp:Sp)(EE:St->XK)(ta:TE)(t:TA):TE:=λσ H Q=>ta σ H λx H1=>TMeth C m x H1 (t σ H1 λvs H2=>sp (x::vs) H2 Q (EE σ))
def Yw(EE:St->XK){pl:GP Bool}(hb:InB X.base λK=>Cls K C/\hZ K C m g)(h:ce X.prog X.w X.K X.mg X.base g n ps sp)(hx:gG X EE)(hr:rX n X.A)(he:PE X o ta)(ha:PA X (e::es) t)
  (hst:starEach (e::es) X.env=(Ij,eval e X.env)::starEach es X.env:=by rfl) (hpl:(backTo pos (starEach es X.env)).any (·.1)=false:=by rfl)
  (ht:eval (.Call (.Attribute o m apos) (e::es) [] pos) X.env=(do
   let ov <- eval o X.env
   standAt apos.atName
   let (f,first) <- holding [ov] (getMethod ov m pl)
   callWith pos f first (backTo pos (starEach (e::es) X.env)) (backToKw pos (keywordEach [] X.env))):=by rfl) :
  PE X (.Call (.Attribute o m apos) (e::es) [] pos) (Xx C m sp EE ta t):=by
 obtain⟨K,KB,c,hm⟩:=hb;obtain⟨fd,F,b⟩:=h;intro Ik s σ H Q I h;erw[B8 (pl:=pl) (thn (he Ik s σ H _ I h) λu s1 ⟨x,H1,I1,rx,a,dx,fs,ex,ea,l,q⟩=>?_) ht];subst ex;obtain rfl:u=j6 a:=rx;erw[ye (X:=X.withK K) (I1.withK KB) ea c hm l ?_];erw[Bw (first:=[.ref a]) (h₀:=X.base) (K:=K) KB hm.kp (thn (ha pos Ik s1 σ H1 _ I1 q) λus s2 ⟨vs,H2,I2,r,q2⟩=>⟨(I2.withK KB).kIn,?_⟩) hst hpl];rwa[lA (us:=.ref a::us) (vs:=.ref a::vs) F hr (.all b) hx I2 (.cons rfl r) q2]
def PS.nox{st:Ah}{t:TS}(h:PS X.nox st t):PS X st t:=λIk s σ H D I hw =>
 A9 (h Ik s σ H D (I.wish _) hw) (λ_ _ q=>q.unwish) λ_ _ z=>v7 z
def Ub(cls:c7)(EE:St->XK)(t:TA):TS:=λ_ σ H=>t σ H λvs H1=>vs.length<=sizeLine/\EE σ cls Ih H1
def xB(EE:St->XK){bm bmN:List c7}{B Bn newId nid initId inN:String}(O:p6 x C bm newId X.mg X.base)(Fn:ExcBaseFacts Bn newId inN bmN)(hBn:bm.contains (.type Bn)=Ii)(FB:ExcBaseFacts B nid initId bm)(hx:VR X EE)
  {cpos np:Ck} (ha:PA X (e::es) t) (hc:X.calm=true:=by rfl) (hg:Gl X x:=by rfl) (hd:(x ==("__debug__" : g8))=false:=by decide) (he:starEach (e::es) X.env=(Ij,eval e X.env)::starEach es X.env:=by rfl) (hpl:(backTo cpos (starEach es X.env)).any (·.1)=false:=by rfl) :
  PS X (.Raise (Ig (.Call (.Name x np) (e::es) [] cpos)) Ih pos) (Ub (.ref C) EE t):=by
 obtain⟨tl,N,nm,q,bs,hdct,sn,sub,ab,col,dd,k0,k1,k2,k3,k5,mN,hC,hN,hni,T⟩:=O.obj;intro Ik s σ H D I h;refine wpAny_Raise_call_subU (C:=C) (nm:=nm) (q:=q) (N:=N) (bs:=bs) (bm:=tl) (hdct:=hdct) (sn:=sn) (sub:=sub) (ab:=ab) (col:=col) (dd:=dd) (k0:=k0) (k1:=k1) (k2:=k2) (k3:=k3) (k5:=k5)
  Fn hBn FB (mN:=mN) (T.hasType FB.hasBase) (I.ok.hd hc) (by rw[he]; show(Ij||(backTo cpos (starEach es X.env)).any (·.1))=Ij; rw[hpl]; rfl) hni (sF I hg O.bound ⟨rfl,?_⟩ hd)
 have h:=ha cpos Ik s σ H _ I h;rw[he] at h ⊢;erw[C7 (A9 h (λus s2 ⟨vs,H1,I1,r,len,q⟩=>⟨rfl,?_,I1.bk _ _ hC,hN.keeps I1.bk,T.keeps I1.bk,λh' e hm=>?_⟩) λ_ _ y=>y)]
 ·rw[<- r.length]; rwa[len]
 ·rwa[hx Ik σ H1 s2 h' e _ _ I1 hm q]
end
end L2

namespace L2
abbrev Cx.tr(X:Cx)(Ik:List (b9×AL))(EE:St->XK):Cx :=
 { X with pn:=X.pn++Ik,xe:=λe s'=>∃(σ:St)(H:Hp)(s:d4),Inv X Ik σ H s/\CX1 X.prog X.w X.stack H s (EE σ) e s' }
abbrev Cx.hd(X:Cx)(e:c7):Cx:={ X with A:=X.A.mark (Ig e),calm:=Ij,xe:=λ_ _=>False }
section
variable{X:Cx}{Ik pins':List (b9×AL)}{σ:St}{H:Hp}{s:d4}{EE:St->XK}{e:c7}
def Inv.tr(I:Inv X Ik σ H s)(EE:St->XK):Inv (X.tr Ik EE) [] σ H s :=
 ⟨⟨I.ok.mod,I.ok.kind,I.ok.glob,I.ok.blt,I.ok.above,I.ok.inj,I.ok.has,I.ok.cab,I.ok.hd,I.ok.frames,I.ok.stk,I.ok.exf,I.ok.bs,I.ok.bsz,I.ok.noex,I.ok.exfs,I.ok.funs,I.ok.frf⟩,I.os,I.bare,I.base,I.loc,I.cell,I.free,I.freeC,λp hp=>I.pin p (by rw[Bq] at hp; rwa[hp]),I.hok,I.len⟩
def Inv.untr(I:Inv (X.tr Ik EE) pins' σ H s):Inv X Ik σ H s :=
 ⟨⟨I.ok.mod,I.ok.kind,I.ok.glob,I.ok.blt,I.ok.above,I.ok.inj,I.ok.has,I.ok.cab,I.ok.hd,I.ok.frames,I.ok.stk,I.ok.exf,I.ok.bs,I.ok.bsz,I.ok.noex,I.ok.exfs,I.ok.funs,I.ok.frf⟩,I.os,I.bare,I.base,I.loc,I.cell,I.free,I.freeC,λp hp=>I.pin p (BI _ hp),I.hok,I.len⟩
def Inv.hd(I:Inv X Ik σ H s)(e:c7):Inv (X.hd e) Ik σ H s :=
 ⟨⟨I.ok.mod,I.ok.kind,I.ok.glob,I.ok.blt,I.ok.above,I.ok.inj,I.ok.has,I.ok.cab,λz=>(nomatch z),I.ok.frames,I.ok.stk,I.ok.exf,I.ok.bs,I.ok.bsz,I.ok.noex,I.ok.exfs,I.ok.funs,I.ok.frf⟩,I.os,I.bare,I.base,I.loc,I.cell,I.free,I.freeC,I.pin,I.hok,I.len⟩
def Inv.unhd(I:Inv (X.hd e) Ik σ H s)(hh:X.calm=Ii->X.A.handled=Ih):Inv X Ik σ H s :=
 ⟨⟨I.ok.mod,I.ok.kind,I.ok.glob,I.ok.blt,I.ok.above,I.ok.inj,I.ok.has,I.ok.cab,hh,I.ok.frames,I.ok.stk,I.ok.exf,I.ok.bs,I.ok.bsz,I.ok.noex,I.ok.exfs,I.ok.funs,I.ok.frf⟩,I.os,I.bare,I.base,I.loc,I.cell,I.free,I.freeC,I.pin,I.hok,I.len⟩
def SP.untr{D:dE}{f:Flow}{s':d4}(h:SP (X.tr Ik EE) pins' D f s'):SP X Ik D f s':=by
 cases f with
 | next=>obtain⟨σ',H',I,q⟩:=h; rwa[σ',H',I.untr,q]
 | brk=>obtain⟨σ',H',I,q⟩:=h; rwa[σ',H',I.untr,q]
 | cont=>obtain⟨σ',H',I,q⟩:=h; rwa[σ',H',I.untr,q]
 | ret u=>obtain⟨v,σ',H',I,r,q⟩:=h; rwa[v,σ',H',I.untr,r,q]
def lZ:gG (X.tr Ik EE) EE:=λ_ σ H s _ _ I h=>⟨σ,H,s,I.untr,h⟩
def Inv.moreX{a:b9}{o:HO}(I:Inv X Ik σ H s)(f0:H a=Ih)(f1:a≠X.env.locals)(f3:X.s₀.heap.get? a=Ih)(f4:∀ x c,X.env.cells.lookup x=Ig c->c≠a)(f5:∀ p∈X.pn++Ik,p.1≠a)
  (new:xI X.prog X.w (upd H a o) s.heap a o):Inv X Ik σ (upd H a o) s:=by
 have nk:∀{b:b9}{u:HO},H b=Ig u->upd H a o b=Ig u:=λ{b u} e=>by
  rw[zG (λz=>by rw[z,f0] at e; cases e)];rwa[e]
 have nn:∀{b:b9},b≠a->H b=Ih->upd H a o b=none:=λ{b} n e=>by rw[zG n]; rwa[e]
 have lo:∀{b:b9}{u:AL},X.s₀.heap.get? b=Ig u->b≠a:=λ{b u} e z=>by rw[z,f3] at e; cases e
 refine⟨I.ok,I.os,I.bare,⟨I.base.keep,I.base.slot,λb u e n hx=>nn (lo e) (I.base.free b u e n hx),I.base.there,λb xs e=>nk (I.base.tups b xs e),λb u v e=>nk (I.base.frzs b u v e),
  λb ps e=>let ⟨more,q⟩:=I.base.tbls b ps e;⟨more,nk q⟩⟩,I.loc,I.cell,nn (AG f1) I.free,λx c e=>nn (f4 x c e) (I.freeC x c e),λp hp=>?_,λb u e=>?_,I.len⟩
 ·obtain⟨h1,h2,h3⟩:=I.pin p hp;rwa[h1,nn (f5 p hp) h2,h3]
 ·by_cases eb:b=a
  ·subst eb;rw[zA] at e;cases e;rwa[new]
  ·rw[zG eb] at e;exact(I.hok b u e).stay (λc v _ q=>q) (λc q=>nk q) λc xs q=>nk q
def Inv.frame{h':n9}{t':Nat}{m':g8->Option c7}(I:Inv X Ik σ H s)(hs:AW X.env.locals s.heap h')(hn:h'.Ns X.env.locals m'):Inv X Ik (x6 X.N.length Ih) H { s with heap:=h',toks:=t' }:=by
 have k:∀ b o,b≠X.env.locals->s.heap.get? b=Ig o->h'.get? b=Ig o:=λb o n e=>(hs.2 b n).trans e;have lo:∀{b:b9}{u:AL},X.s₀.heap.get? b=Ig u->b≠X.env.locals:=λ{b u} e z=>by
  have l:=m5 (f9 e) I.ok.above;rw[z] at l;rwa[Bc _ l]
 obtain⟨oL,esL,epL,hoL,_⟩:=hn;have trk:∀{b:b9}{u:HO},H b=Ig u->b≠X.env.locals:=λ{b u} e z=>by rw[z,I.free] at e; cases e
 erw[I.ok,I.os,I.bare,⟨λb o q n hb hx=>k _ _ (lo q) (I.base.keep b o q n hb hx),λb o q n hb hx=>?_,I.base.free,λb o q hx=>?_,I.base.tups,I.base.frzs,I.base.tbls⟩,⟨m',⟨oL,esL,epL,hoL,by assumption⟩,λi x v _ hσ=>?_⟩,λx c e=>?_,I.free,I.freeC,λp hp=>?_,λa o e=>?_,by rw[A7]]
 ·obtain⟨sl,e⟩:=I.base.slot b o q n hb hx;rwa[sl,k _ _ (lo q) e]
 ·obtain⟨o',e⟩:=I.base.there b o q hx;rwa[o',k _ _ (lo q) e]
 ·rw[CK] at hσ;split at hσ <;> cases hσ
 ·obtain⟨v,o,ho,hd⟩:=I.cell x c e;rwa[v,o,k _ _ (I.cne x c e) ho,hd]
 ·obtain⟨h1,h2,h3,h4⟩:=I.pin p hp;rwa[k _ _ h3 h1,h2,h3,h4]
 ·refine(I.hok a o e).stay (λb u hb q=>k _ _ ?_ q) (λ_ q=>q) λ_ _ q=>q;rcases hb with rfl | hb
  ·rwa[trk e]
  ·rwa[trk hb]
end
def Zk(a:b9)(cls:c7):HO:=.ext (iK a cls)
def Vk{P:j9}{w:n5}{H:Hp}{h:n9}{a:b9}{cls:c7}(e:iK a cls h):xI P w H h a (Zk a cls) :=
 ⟨e,let ⟨ob,_,h1,_⟩:=e;⟨ob,h1⟩,λh1 h2 ⟨ob,vs,q,c⟩ k=>⟨ob,vs,k _ q,c⟩⟩
def yz(B:n9)(cls:c7)(D:b9):Prop:=InB B λK=>GL K cls (.ref D)=Ig Ii
def sTry(B:n9)(D:b9)(i:Nat)(tb:(St->XK)->TS)(th:b9->TS):TS:=λE σ H =>
 tb (λσ' cls _ H'=>yz B cls D/\∀ ea,H' ea=Ih->th ea { nx:=λ_ _=>False,rt:=E.rt } (σ'.set i (Ig (.ref ea))) (upd H' ea (Zk ea cls))) E σ H
section
variable{X:Cx}{x n:g8}{i:Nat}{D:b9}{body suite:List Ah}{b₀:Ah}{np hpos pos:Ck}{tb:(St->XK)->TS}{th:TS}
def be{M:Hw}{K:b7}{h:n9}{a:b9}{cls:c7}{b:Bool}{D:b9}(X:K.In h)(e:iK a cls h)(hx:GL K cls (.ref D)=Ig b):PySem.W.Looks M h (excMatches (.ref a) (.ref D)) b:=by
 obtain⟨ob,_,h1,h2,_⟩:=e;rwa[PySem.W.exm_one X (h2 ▸ (Ie h1).andThen .now) hx]
def ii{Ik:List (b9×AL)}{σ:St}{H H':Hp}{s s1:d4}{ea:b9}{cls:c7}{B h:n9}(hx:X.ex=[])(I:Inv X Ik σ H s)(fl:iD X.prog X.w X.stack H s ea cls H' B s1)
  (fly:uD B X.stack ea cls h) (up:s1.heap.UpToSlots h):Inv X Ik σ H' { s1 with heap:=h }/\iK ea cls h/\∀ o,xI X.prog X.w (upd H' ea o) h ea o->Inv X Ik σ (upd H' ea o) { s1 with heap:=h }:=by
 have J:=fl.inv I;have f5:=fl.on J.stack J.stkFree fly up;have J5:=f5.inv I;have ne:∀{b:b9}{o:AL},s.heap.get? b=Ig o->b≠ea:=λ{b o} q z=>by rw[z,fl.fresh] at q; cases q
 erw[J5,fly.there,λo new=>J5.moreX fl.new ?_ ?_ (λx c e=>?_) (λp hp=>ne (I.pin p hp).1) new]
 ·obtain⟨m,⟨oL,_,_,hoL,_⟩,_⟩:=I.loc;exact(ne hoL).symm
 ·cases q:X.s₀.heap.get? ea with
  | none=>rfl
  | some o =>
   obtain⟨o',q'⟩:=I.base.there ea o q (by rw[hx]; exact λz=>nomatch z);rwa[x4 rfl (ne q')]
 ·obtain⟨v,o,ho,_⟩:=I.cell x c e;rwa[ne ho]
def Xo{th:b9->TS}(hb:∀ (Ik:List (b9×AL)) (EE:St->XK),PSs (X.tr Ik EE) body (tb EE))(hm:X.mg x=Ig (.ref D))(hN:X.N.Nodup)(hi:X.N[i]?=Ig n)(hl:X.env.scope.names.lookup n=Ig .local)(hh:∀ ea:b9,PSs (X.hd (.ref ea)) (b₀::suite) (th ea))
  (hst:X.stack=X.env::X.outer/\X.env.frame=Ig X.env.locals:=by rwa[U,U]) (hex:X.ex=[]:=by rfl) (hg:Gl X x:=by rfl) (hd:(x ==("__debug__" : g8))=false:=by decide) :
  PS X (.Try body [.ExceptHandler (Ig (.Name x np)) (Ig n) (b₀::suite) hpos] [] [] pos) (sTry X.base D i tb th):=by
 intro Ik s σ H E I h;erw[wpAny_Try_except (A9 (hb Ik _ [] s σ H E (I.tr _) h) (λf s1 q=>?_) λe s1 q=>?_)]
 ·have q:=q.untr;cases f with
  | next=>rwa[CF q]
  | ret v=>rwa[q]
  | brk=>rwa[q]
  | cont=>rwa[q]
 ·obtain⟨σ',H0,s0,I0,ea,cls,H',B,rfl,fl,tk,hc⟩:=q;have fly0:=fl.fly;rw[hst.1] at fly0;erw[kL (L:=X.env.locals) (by rw[I.ok.frames,hst.1]) hst.2 fly0 λh4 held4 up4=>?_];erw[bE held4 λh5 fly5 up5=>?_];have up:=up4.trans up5;rw[<- hst.1] at fly5;obtain⟨J5,ex5,_⟩:=ii hex I0 fl fly5 up;obtain⟨K,KB,hK⟩:=tk;have K5:K.In h5:=KB.keeps J5.bk;erw[wpAny_handleBy_cons (codeAny_handlers_test (sF (J5.hd (.ref ea)) hg hm ?_ hd)) (by intro q; cases q)];refine(be K5 ex5 hK).here ?_;erw[codeAny_handlers_suite_as ?_];erw[je fly5 λh6 fly6 up6=>?_];obtain⟨J6,ex6,more⟩:=ii hex I0 fl fly6 (up.trans up6);have J7:=(more (Zk ea cls) (Vk ex6)).hd (.ref ea);erw[iO (X:=X.hd (.ref ea)) (v:=.ref ea) J7 hN hi (.inl hl) rfl (λs8 I8 _=>?_) (.inr hl)];erw[A9 (hh ea Ik s8 _ _ { nx:=λ_ _=>False,rt:=E.rt } I8 (hc ea fl.new)) (λf s9 q=>?_) λ_ _ z=>v7 z];cases f with
  | next=>obtain⟨_,_,_,z⟩:=q; rwa[v7 z]
  | brk=>obtain⟨_,_,_,z⟩:=q; rwa[v7 z]
  | cont=>obtain⟨_,_,_,z⟩:=q; rwa[v7 z]
  | ret u =>
   obtain⟨v,σ9,H9,I9,r,q⟩:=q;have I9:=I9.unhd I.ok.hd;obtain⟨m,hn,_⟩:=id I9.loc;refine wpAny_nameGoes (show X.env.kindOf n=Ig .local from hl) hn (by rw[I.ok.kind]; rfl) λh' m' hn' hs=>?_;rwa[v,_,H9,I9.frame hs hn',r,q]
end
section
open PySem.W
structure nM(K:b7)(D:b9):Prop where
 mk ::
 ga:findIn K (.ref D) "__getattribute__" = Ig (Ig (.builtin "BaseException.__getattribute__"))
 gx:findIn K (.ref D) "__getattr__" = Ig Ih
 fc:findObj K D Ih "__class__" = Ig (.bind (.builtin "getset_descriptor.__get__") (.builtin "object.__class__"))
 mB:mroIn K D (.type "BaseException")=Ig Ii
 mo:mroIn K D (.type "object")=Ig Ii
def eU{h:n9}{a D:b9}(e:iK a (.ref D) h):∃ ox,InstAt h a ox D none:=by
 obtain⟨ob,vs,h1,h2,h3,h4,_⟩:=e;erw[ob,h1,h2,?_,by rw[h3]; trivial];unfold notCls;rw[h4]
def Zu{K:b7}{prog:j9}{w:n5}{A:Ab}{E:c7->d4->Prop}{s:d4}{a D:b9}{Q:Option c7->d4->Prop}(X:K.In s.heap)(C:nM K D)(e:iK a (.ref D) s.heap)(h:Q (Ig (.ref D)) { s with toks:=s.toks+1 }) :
  wpAny (model prog w) A (getAttr? (.ref a) "__class__") Q E s:=by
 obtain⟨ox,I⟩:=eU e;obtain⟨hh,g,d,t,os⟩:=s;have L0:=I.type (M:=model prog w);have L1:=looks_findIn (M:=model prog w) X C.ga;have L2:=looks_findIn (M:=model prog w) X C.gx;have L3:=looks_mroIn (M:=model prog w) X C.mB;have L4:=looks_find (M:=model prog w) X I C.fc;have hx2:(CD "BaseException.__getattribute__" == CD "object.__getattribute__")=false:=by ac_nf
 have hx1:(onTheHeap (j6 D)&&CD "BaseException.__getattribute__" == CD "object.__getattribute__")=false:=by rw[hx2]; rfl
 unfold getAttr? getAttrBy? getAttrBy;erw[ac (wpAny_mkText (ac (BN (Aw (ac (L0.at (ac (L1.at ?_))))))))];dsimp only;rw[hx1];simp only[AU,if_false];unfold getAttrByItsOwn hookBefore;erw[ac ?_];rw[y9 (show onTheHeap (j6 D)=Ii from rfl)];erw[L2.at ?_];erw[ac (BN (Aw ?_))];unfold callGetattribute;rw[y7 (by decide)];unfold boundAndCalled;erw[ac (Cg (FR.ga.bind (.ref a)) ?_)];show wpAny _ _ (call (.builtin "BaseException.__getattribute__") [.ref a,_]) _ _ _;erw[DA (codeAny_call_builtin FR.ga.plain F.entry_bexc_ga ?_)];have hk:builtinKind "BaseException.__getattribute__" = Ig .slot:=by ac_nf
 have hsplit:splitId "BaseException.__getattribute__" = Ig ("BaseException","__getattribute__"):=by ac_nf
 simp only[checkBuiltinCall,hk,hsplit];erw[ac ?_];unfold isInstance;erw[ac (L0.at (L3.at ?_))];simp only[Bool.not_true,AU,if_false];erw[Cg (F.args_bexc_ga (.ref a) _) ?_];unfold Cj.«object.__getattribute__»;refine ac (Cg (a:=(j6 a,[AN (l5 "__class__") t])) (by first | rfl | symm) ?_);dsimp only;refine ac (Cg (a:=(l5 "__class__")) (by first | rfl | symm) ?_);erw[ac (L0.at (ac (L4.at ?_)))];dsimp only;show wpAny _ _ (holding [CD "object.__class__"] (call (.builtin "getset_descriptor.__get__") [.builtin "object.__class__",.ref a,.ref D]) >>= ret) _ _ _;erw[ac (Aw (DA (class_get (s:=⟨hh,g,d,t+1,os⟩) X I C.mo ?_)))];erw[d7 ?_];dsimp only;rwa[handed_on rfl (d7 h)]
def WB{K:b7}{a D:b9}(C:nM K D):KitX K (.ref a) (.ref D) (iK a (.ref D)) where
 ty:=λM h _ e=>let ⟨_,I⟩:=eU e; I.type
 it:=λ_ _ X _=>by
  obtain⟨cdD,hcD,_⟩:=Ec.mp C.mo;unfold clsIn at hcD;split at hcD
  ·rename_i c' d' cd' sl' ho
   intro A' Q' E' s' k q;unfold isType loadHead;rwa[ac (wpAny_loadPart (k _ _ (X _ _ ho)) (d7 q))]
  ·cases hcD
 ne:=λh tp dd its n sl X htp=>by
  obtain⟨cdD,hcD,_⟩:=Ec.mp C.mo;erw[DQ.mpr λq=>?_];have e:D=tp:=Value.ref.inj (beq_iff_eq.mp q);subst e;unfold clsIn at hcD;split at hcD
  ·rename_i c' d' cd' sl' ho
   have z:=(X _ _ ho).symm.trans htp;cases z
  ·cases hcD
 ca:=λX e k=>Zu X C e k
end
section
variable{X:Cx}
def yJ{B:n9}(hB:X.base=B):uU X (.builtin "isinstance") (λxs H Q=>∃(a D:b9)(v:V)(c:c7)(b:Bool),xs=[.ref a,v]/\((∃ T,v=.ty T/\c=.type T)\/∃ C,v=.ref C/\c=.ref C)/\H a=Ig (Zk a (.ref D))/\(InB B λK=>AX K (.ref D) c=Ig b/\nM K D)/\Q (.bl b) H):=by
 subst hB;intro Ik s σ H xs us Q I r h;obtain⟨a,D,v,c,b,rfl,hv,ha,⟨K,KB,e,C⟩,q⟩:=h;obtain⟨u,w,rfl,ru,rw_⟩:=Vh r;cases ru;obtain⟨p,_⟩:=(show xI X.prog X.w H s.heap a (Zk a (.ref D)) from I.hok a _ ha);have hc:w=c:=by
  rcases hv with ⟨T,rfl,rfl⟩ | ⟨C,rfl,rfl⟩
  ·rwa[rw_]
  ·rwa[rw_]
 subst hc;exact AA (WB C) (KB.keeps I.bk) p e (λz=>nomatch z) λtk=>⟨.bl b,H,I.tok tk,rfl,q⟩
def vW{x:g8}{pos:Ck}{a:b9}(hm:X.mg x=Ig (.ref a))(hg:Gl X x:=by rfl)(hd:(x ==("__debug__" : g8))=false:=by decide):PE X (.Name x pos) (tC (.ref a)):=λ_ _ _ H _ I h=>sF I hg hm ⟨.ref a,H,I,rfl,h⟩ hd
def lG:bootBuiltins "ValueError" = Ig (.type "ValueError"):=by ac_nf
end
end L2

namespace L2
abbrev TJ:=St->Hp->(Hp->Prop)->Prop
section
variable{X:Cx}{e:t6}{es:List t6}{t:TJ}{te:TE}{pos p:Ck}{n:Nat}
def PJ(X:Cx)(es:List t6)(n:Nat)(t:TJ):Prop:=∀(Ik:List (b9×AL))(s:d4)(σ:St)(H:Hp)(k:Nat)(acc:g8)(Q:g8->d4->Prop)(C:Hp->Prop),Inv X Ik σ H s->acc.length<=2000*k->k+n<=100 ->
 t σ H C->(∀(H':Hp)(out:g8)(s':d4),C H'->out.length<=200000->Inv X Ik σ H' s'->Q out s')->Joins (model X.prog X.w) X.A X.xe (evalEach es X.env) acc Q s
def aE:TJ:=λ_ H K=>K H
def Vu(te:TE)(t:TJ):TJ:=λσ H K=>te σ H λv H1=>((∃ i,v=.int i/\i.natAbs.log2<1920)\/∃ x,v=.str x/\x.length<=1000)/\t σ H1 K
def sQ:PJ X [] 0 aE:=λ_ s _ H _ acc _ _ I h hk q z=>z H acc s q (by lia) I
def wY{c:g8}{j:Nat}(ht:PJ X es n t)(hc:c.length<=1000:=by decide)(he:evalEach (.Constant (.str c) j p::es) X.env=eval (.Constant (.str c) j p) X.env::evalEach es X.env:=by rfl):PJ X (.Constant (.str c) j p::es) (n+1) t:=by
 intro Ik s σ H k acc Q C I h hk q z;rw[he];erw[Fo ⟨c,_,rfl,?_,?_⟩]
 ·rw[strLen_append];show acc.length+c.length<=2^24;lia
 ·rwa[ht Ik _ σ H (k+1) _ _ C (I.tok _) (by rw[strLen_append]; lia) (by lia) q z]
def wq(hv:PE X e te)(ht:PJ X es n t)(he:evalEach (.FormattedValue e (-1) Ih p::es) X.env=eval (.FormattedValue e (-1) Ih p) X.env::evalEach es X.env:=by rfl):PJ X (.FormattedValue e (-1) Ih p::es) (n+1) (Vu te t):=by
 intro Ik s σ H k acc Q C I h hk q z;rw[he];erw[DF (thn (hv Ik s σ H _ I q) λu s1 ⟨v,H1,I1,r,c,q1⟩=>?_)];rcases c with ⟨i,rfl,hi⟩ | ⟨x,rfl,hx⟩
 ·obtain⟨tk,rfl⟩:=(show ∃ t,u=BE i t from r);have l:=int_text_length_le (k:=1920) (by decide) hi;rw[<- B9] at l;erw[EM hi ⟨_,_,rfl,?_,?_⟩]
  ·rw[strLen_append];show acc.length+_<=2^24;lia
  ·rwa[ht Ik _ σ H1 (k+1) _ _ C (I1.tok _) (by rw[strLen_append]; lia) (by lia) q1 z]
 ·obtain⟨tk,rfl⟩:=(show ∃ t,u=AN x t from r);have key:∀(t':Ia)(tk':Nat),∃ y t,AN x t'=.str y t/\(acc++y).length<=sizeLine/\Joins (model X.prog X.w) X.A X.xe (evalEach es X.env) (acc++y) Q { s1 with toks:=tk' }:=λt' tk' =>
   ⟨x,t',rfl,by rw[strLen_append]; show acc.length+x.length<=2^24; lia,ht Ik _ σ H1 (k+1) _ _ C (I1.tok _) (by rw[strLen_append]; lia) (by lia) q1 z⟩
  exact formatField_str (λt' tk'=>key t' tk') (by show x.length<=2^24; lia)
def Zq(t:TJ):TE:=λσ H Q=>t σ H λH'=>∀ x:g8,x.length<=200000->Q (.str x) H'
def wW{a b:t6}(ht:PJ X (a::b::es) n t)(hn:n<=100:=by decide):PE X (.JoinedStr (a::b::es) pos) (Zq t):=by
 intro Ik s σ H Q I h;exact wpAny_JoinedStr (ht Ik s σ H 0 Hy _ _ I (by decide) (by lia) h λH' out s' c l I'=>⟨by show out.length<=2^24; lia,.str out,H',I'.tok _,⟨_,rfl⟩,c out l⟩)
end
def bmV:List c7:=[.type "ValueError",.type "Exception",.type "BaseException",.type "object"]
end L2

namespace L2
def YK(w:n5)(x:g8):keyH w (.inr x)=Dr w.params x:=rfl
def br{P:j9}{w:n5}{B:n9}{a:b9}{l:List (g8×Nat×V×c7)}{ep:Nat}(h:B.get? a=Ig ⟨.type "dict",Ih,.dict ((l.map λe=>(⟨Dr w.params e.1,.str e.1 e.2.1,e.2.2.2⟩:Bk)).toArray) ep,#[]⟩)
  (r:∀ e∈l,xE e.2.2.1 e.2.2.2) (nd:(l.map (·.1)).Nodup):Vd P w B a (l.map λe=>(.inr e.1,e.2.2.1)):=by
 erw[l.map λe=>(.inr e.1,e.2.2.2),?_,_,_,ep,h,⟨U,U,U⟩,U,λe he=>?_,?_,?_]
 ·clear h nd
  induction l with
  | nil=>rwa[.nil]
  | cons e l ih=>rwa[.cons ⟨rfl,r e (.head _)⟩ (ih λe he=>r e (.tail _ he))]
 ·have he:e∈l.map λe=>(⟨Dr w.params e.1,.str e.1 e.2.1,e.2.2.2⟩:Bk):=by simpa using he
  obtain⟨q,_,rfl⟩:=i4.mp he;rwa[.inr q.1,xg P w q.1 q.2.1,(YK w q.1).symm]
 ·rw[List.toList_toArray];clear h nd r
  induction l with
  | nil=>rwa[.nil]
  | cons e l ih=>rwa[.cons (xg P w e.1 e.2.1) rfl ih]
 ·rw[t5];have:((λe:Key×c7=>e.1) ∘ λe:g8×Nat×V×c7=>((.inr e.1:Key),e.2.2.2))=(λx:g8=>(.inr x:Key)) ∘ λe=>e.1:=rfl;rw[this,<- t5];erw[Bz.mpr (FO.mpr ((Bz.mp nd).imp λn z=>n ?_))];injection z
def Xh(es:Array Bk):Bool:=es.toList.all λe=>match e.key with | .str _ _=>Ii | _=>Ij
def ak{es:Array Bk}(h:Xh es=Ii):StrKeys es:=λe he=>by
 have:=Af.mp h e (by simpa using he);cases q:e.key <;> rw[q] at this <;> first | exact⟨_,_,U⟩ | cases this
def fX(K:b7)(N:b9):Bool:=match K.lookup N with
 | some ⟨_,_,.dict es _,_⟩=>Xh es&&(nsFind es "__init__").isNone
 | _=>Ij
def iH{K:b7}{B:n9}{N:b9}(X:K.In B)(h:fX K N=Ii):∃ m,B.Ns N m/\m "__init__" = none:=by
 unfold fX at h;split at h
 ·rename_i c d es ep sl q
  rw[o8] at h;exact⟨nsFind es,⟨_,es,ep,X _ _ q,U,ak h.1,λ_=>rfl⟩,by simpa using h.2⟩
 ·cases h
def eE(K:b7):List c7->Bool
 | []=>Ij
 | .ref A::tl=>(match K.lookup A with | some ⟨_,_,.cls cd,_⟩=>fX K cd.ns&&eE K tl | _=>Ij)
 | v::tl=>(v::tl) == bmV
def jp{K:b7}{B:n9}(X:K.In B):∀{tl:List c7},eE K tl=Ii->OwnTail B bmV tl
 | [],h=>by cases h
 | .ref A::tl,h=>by
  unfold eE at h;split at h
  ·rename_i c d cd sl q
   rw[o8] at h;obtain⟨m,h1,h2⟩:=iH X h.1;rwa[.own (X _ _ q) h1 h2 (jp X h.2)]
  ·cases h
 | .type T::tl,h=>by
  have e:(Gz T::tl)=bmV:=beq_iff_eq.mp h;rw[e];rwa[.base]
 | .none::tl,h=>by have e:(p8::tl)=bmV:=beq_iff_eq.mp h; rw[e]; rwa[.base]
 | .bool b::tl,h=>by have e:(Ef b::tl)=bmV:=beq_iff_eq.mp h; rw[e]; rwa[.base]
 | .int i t::tl,h=>by have e:(BE i t::tl)=bmV:=beq_iff_eq.mp h; rw[e]; rwa[.base]
 | .float i t::tl,h=>by have e:(ET i t::tl)=bmV:=beq_iff_eq.mp h; rw[e]; rwa[.base]
 | .str i t::tl,h=>by have e:(AN i t::tl)=bmV:=beq_iff_eq.mp h; rw[e]; rwa[.base]
 | .bytes i t::tl,h=>by have e:(Gm i t::tl)=bmV:=beq_iff_eq.mp h; rw[e]; rwa[.base]
 | .builtin i::tl,h=>by have e:(CD i::tl)=bmV:=beq_iff_eq.mp h; rw[e]; rwa[.base]
def US(K:b7)(C:b9):Bool:=match K.lookup C with
 | some ⟨.type "type",_,.cls cd,sl⟩=>(match cd.mro,sl.toList with
  | .ref C'::bm,[_,_,_,_,Ig (.builtin n),_]=>C' == C&&(!cd.hasDel&&(n == "ValueError.__new__" && (fX K cd.ns&&eE K bm)))
  | _,_=>Ij)
 | _=>Ij
def xF{K:b7}{B:n9}{C:b9}{x:g8}{mg:g8->Option c7}(X:K.In B)(hm:mg x=Ig (.ref C))(q:US K C=Ii):p6 x C bmV "ValueError.__new__" mg B:=by
 unfold US at q;split at q
 ·rename_i dd cd sl ho
  split at q
  ·rename_i C' bm k0 k1 k2 k3 n k5 hm' hs
   simp only[o8,beq_iff_eq,Bool.not_eq_true'] at q;obtain⟨rfl,hdel,rfl,hi,ht⟩:=q;obtain⟨nm,bs,mro,ns,qn,hd,sn,sub,ab,col,del⟩:=cd;dsimp only at hm' hdel hi;subst hm' hdel;have hsl:sl = #[k0,k1,k2,k3,Ig (.builtin "ValueError.__new__"),k5]:=by
    obtain⟨l⟩:=sl;simp only at hs;rw[hs]
   subst hsl;obtain⟨m,h1,h2⟩:=iH X hi;rwa[hm,bm,ns,nm,qn,bs,hd,sn,sub,ab,col,dd,k0,k1,k2,k3,k5,m,X _ _ ho,h1,h2,jp X ht]
  ·cases q
 ·cases q
def fD{F K:b7}{a:b9} : Ad a (F++K)=match Ad a F with | some o=>Ig o | none=>Ad a K:=by
 induction F with
 | nil=>rfl
 | cons e F ih =>
  rw[Gd,p7,p7];cases a == e.1 with
  | true=>rfl
  | false=>rwa[ih]
def lM:∀{F:b7}{a:b9}{o:AL},Ad a F=Ig o->(a,o)∈F
 | [],_,_,h=>by cases h
 | (b,u)::F,a,o,h=>by
  rw[p7] at h;cases z:a == b with
  | true =>
   rw[z] at h;cases h;rw[beq_iff_eq.mp z];rwa[.head _]
  | false =>
   rw[z] at h;rwa[.tail _ (lM h)]
def YH{F K:b7}{h:n9}(n:(F.map (·.1)).all (λa=>(Ad a K).isNone)=Ii)(X:At (F++K) h):At K h:=λa o q=>X a o (by
 rw[fD];cases z:Ad a F with
 | none=>rwa[q]
 | some u =>
  have m:a∈F.map (·.1):=i4.mpr ⟨(a,u),lM z,rfl⟩;have:=Af.mp n a m;rw[q] at this;cases this)
def cX{F K:b7}{a:b9}{o:AL}(n:(F.map (·.2.cls)).all (λc=>!(c == .type "list"))=Ii)(h:Ad a (F++K)=Ig o)(c:o.cls=.type "list"):Ad a K=Ig o:=by
 rw[fD] at h;cases z:Ad a F with
 | none=>rw[z] at h; rwa[h]
 | some u =>
  rw[z] at h;have h:Ig u=Ig o:=h;injection h with h
  subst h;have:=Af.mp n u.cls (i4.mpr ⟨(a,u),lM z,rfl⟩);rw[c] at this;simp at this
def walk_of3{l:EC}{n k:Nat}{q:j9}{loose:List g8}{XP:(g8->Option c7)->n9->Prop}{YP:n5->n9->Prop}{d:DefRec}{KK:B5->b7}{K:b7}{sp:Sp}{x:g8}
  (hn:l.most=Ig n) (hn2:n<=sizeLine) (hdf:d.params.defaults=[]) (hr:rX k callerA)
  (hY:∀(w:n5)(h:n9),YP w h->(KK w.params).In h) (sub:∀(p:B5)(h:n9),(KK p).In h->K.In h) (past:∀(p:B5)(a:b9)(o:AL),Ad a (KK p)=Ig o->o.cls=.type "list" -> Ad a K=Ig o)
  (F:∀(w:n5)(mg:g8->Option c7)(fa:b9)(h:n9),(KK w.params).In h->h.Ns mainGlobals mg->mg d.name=Ig (.ref fa) ->
   ∃ fd:Aq,(∀(s:d4)(u:c7),Ej s fd ⟨[u],[]⟩ [(x,u)]) /\
    ∀ base:n9,(KK w.params).In base->base.Ns mainGlobals mg->yX l.prog w K mg base CX0 k fa fd [x] sp)
  (hsp:∀(H:Hp)(a:b9)(ns:List Int),ns.length<=n->SqL K H a (ns.map V.int)->sp [.ref a] H (λv _=>v=.bl Ii) λ_ _ _=>False) :
  Hs q loose XP YP l.row.toRowW d [] (λf vs=>GF f vs):=by
 erw[Att.attach_call hn hdf λw s₀ s₁ mg mb fa o pm cd doc a vs ns G Y ho hd hcd hmg hobj hints hlen hg=>?_];have KX:=hY w _ Y;obtain⟨fd,hb,hF⟩:=F w mg fa _ KX G.T.g hmg;erw[YL (K:=KK w.params) KX G.T.g G.T.b G.T.builtins G.T.nolimit hg hobj hints (j8 hlen hn2) hr (λbase hK hN=>(hF base hK hN).withK (sub _ _ hK)) hb (λH hO hS=>hsp H a ns hlen ?_) λH e s' z=>z];rcases hS with h | ⟨o,its,n,h1,h2,h3⟩
 ·rwa[.inl h]
 ·rwa[.inr ⟨o,its,n,past _ _ _ h1 h2,h2,h3⟩]
end L2

namespace Sea
section
variable{H:Hp}{v:V}
def lH{n:g8}{x y:Int}(h:Rep H (Deed.move n x y).dt v):∃ a,v=.ref a/\H a=Ig (.tup [.str "move",.str n,.int x,.int y]):=by
 obtain⟨a,xs,e,h1,h2⟩:=yF.mp h;obtain⟨_,_,rfl,k1,h2⟩:=zL.mp h2;obtain⟨_,_,rfl,k2,h2⟩:=zL.mp h2;obtain⟨_,_,rfl,k3,h2⟩:=zL.mp h2;obtain⟨_,_,rfl,k4,h2⟩:=zL.mp h2;rw[zW.mp k1,zW.mp k2,yB.mp k3,yB.mp k4,zY.mp h2] at h1;rwa[a,e,h1]
def wf{n:g8}(h:Rep H (Deed.unmark n).dt v):∃ a,v=.ref a/\H a=Ig (.tup [.str "unmark",.str n]):=by
 obtain⟨a,xs,e,h1,h2⟩:=yF.mp h;obtain⟨_,_,rfl,k1,h2⟩:=zL.mp h2;obtain⟨_,_,rfl,k2,h2⟩:=zL.mp h2;rw[zW.mp k1,zW.mp k2,zY.mp h2] at h1;rwa[a,e,h1]
def pI{n:g8}(h:Rep H (Deed.level n).dt v):∃ a,v=.ref a/\H a=Ig (.tup [.str "level",.str n]):=by
 obtain⟨a,xs,e,h1,h2⟩:=yF.mp h;obtain⟨_,_,rfl,k1,h2⟩:=zL.mp h2;obtain⟨_,_,rfl,k2,h2⟩:=zL.mp h2;rw[zW.mp k1,zW.mp k2,zY.mp h2] at h1;rwa[a,e,h1]
def pL{k x y:Int}(h:Rep H (Deed.right k x y).dt v):∃ a,v=.ref a/\H a=Ig (.tup [.str "right",.int k,.int x,.int y]):=by
 obtain⟨a,xs,e,h1,h2⟩:=yF.mp h;obtain⟨_,_,rfl,k1,h2⟩:=zL.mp h2;obtain⟨_,_,rfl,k2,h2⟩:=zL.mp h2;obtain⟨_,_,rfl,k3,h2⟩:=zL.mp h2;obtain⟨_,_,rfl,k4,h2⟩:=zL.mp h2;rw[zW.mp k1,yB.mp k2,yB.mp k3,yB.mp k4,zY.mp h2] at h1;rwa[a,e,h1]
structure Tj(H:Hp)(cs:List (Int×Int))(ps:List Pr):Prop where
 mk ::
 pt:ps.map (·.2)=cs
 at_:∀ t∈ps,H t.1=Ig (.tup [.int t.2.1,.int t.2.2])
def mF:∀{cs:List (Int×Int)}{xs:List V},xK H (cs.map ptD) xs->∃ ps:List Pr,xs=wM ps/\Tj H cs ps
 | [],_,h=>⟨[],zY.mp h,rfl,λt ht=>(nomatch ht)⟩
 | c::cs,_,h=>by
  obtain⟨x,r,rfl,h1,h2⟩:=zL.mp h;obtain⟨a,rfl,ha⟩:=xz h1;obtain⟨ps,rfl,e,h3⟩:=mF h2;erw[(a,c)::ps,U,by rw[l9,e],λt ht=>?_];rcases i7.mp ht with z | z
  ·rw[z]; rwa[ha]
  ·rwa[h3 t z]
def nu{n:g8}{cs:List (Int×Int)}(h:Rep H (Deed.bank n cs).dt v):∃(a c:b9)(ps:List Pr),v=.ref a/\H a=Ig (.tup [.str "bank",.str n,.ref c])/\H c=Ig (.tup (wM ps))/\Tj H cs ps/\Rep H (.tup (cs.map ptD)) (.ref c):=by
 obtain⟨a,xs,e,h1,h2⟩:=yF.mp h;obtain⟨_,_,rfl,k1,h2⟩:=zL.mp h2;obtain⟨_,_,rfl,k2,h2⟩:=zL.mp h2;obtain⟨_,_,rfl,k3,h6⟩:=zL.mp h2;obtain⟨c,ys,rfl,h3,h4⟩:=yF.mp k3;obtain⟨ps,rfl,h5⟩:=mF h4;have e6:=zY.mp h6;rw[zW.mp k1,zW.mp k2,e6] at h1;rwa[a,c,ps,e,h1,h3,h5,k3]
end
def Ut{ps:List Pr} : isB ps=iL (ps.map (·.2)):=by
 have e:∀ i,ptA ((ps.map (·.2)).map λc=>((0,c):b9×Int×Int)) i=ptA ps i:=λi=>by
  unfold ptA;rw[d8,d8];cases ps[i]? <;> rfl
 have l:((ps.map (·.2)).map λc=>((0,c):b9×Int×Int)).length=ps.length:=by rw[a7,a7]
 unfold iL isB vY dG;simp only[e,l]
def aG{S:BS}{n:g8}{x y:Int}(h:(zQ S n).isSome=Ii):XS (mkE S.marks) (.inr n) (ptD (x,y))=mkE (aft S (.move n x y)).marks:=by
 have any:(mkE S.marks).any (λe=>decide (e.1=.inr n))=true:=by
  obtain⟨p,e⟩:=k9.mp h;rwa[CZ.mpr ⟨(.inr n,ptD p),i4.mpr ⟨(n,p),mL e,rfl⟩,by simp⟩]
 unfold XS;rw[y9 any];show _=mkE (S.marks.map _);unfold mkE;rw[t5,t5];erw[Fd λe _=>?_];show(if (BR e.1:Key)=BR n then((BR e.1:Key),ptD (x,y)) else(BR e.1,ptD e.2))=_;by_cases z:e.1=n
 ·rw[y9 (by rw[z])];show _=((BR (if e.1=n then(e.1,x,y) else e).1:Key),ptD (if e.1=n then(e.1,x,y) else e).2);rw[y9 z]
 ·rw[y7 (λq=>z (Gk q))];show _=((BR (if e.1=n then(e.1,x,y) else e).1:Key),ptD (if e.1=n then(e.1,x,y) else e).2);rw[y7 z]
def eB(l:List (g8×Int×Int))(n:g8):ic (mkE l) (.inr n)=mkE (l.filter λe=>decide (e.1≠n)):=by
 unfold ic mkE;rw[Ez]
 congr 1
 erw[DW λe _=>?_];simp
def lF(l:List (g8×List (Int×Int))):(bkE l).length=l.length:=by unfold bkE; rw[a7]
def az(l:List (g8×List (Int×Int)))(n:g8)(cs:List (Int×Int)):bkE (l++[(n,cs)])=bkE l++[(.inr n,.tup (cs.map ptD))]:=by
 unfold bkE;rw[j5];rfl
def fI(l:List (g8×List (Int×Int)))(n:g8):ic (bkE l) (.inr n)=bkE (l.filter λe=>decide (e.1≠n)):=by
 unfold ic bkE;rw[Ez]
 congr 1
 erw[DW λe _=>?_];simp
def ka{l:List (g8×List (Int×Int))}{n:g8}(h:n ∉ l.map (·.1)):∀ e∈bkE l,e.1≠.inr n:=λe he z=>by
 unfold bkE at he;obtain⟨q,hq,rfl⟩:=i4.mp he;rwa[h (i4.mpr ⟨q,hq,Gk z⟩)]
def pD{es:List (Key×Dt)}{k:Key}(h:∀ e∈es,e.1≠k):look es k=none:=by
 unfold look;rw[En,BY];rwa[λe he z=>h e he (of_decide_eq_true z)]
def WV{es:List (Key×Dt)}{k:Key}(h:k∈es.map (·.1)):∃ d,look es k=Ig d:=by
 obtain⟨e,he,rfl⟩:=i4.mp h;unfold look;cases q:es.find? λx=>decide (x.1=e.1) with
 | none=>rwa[x4 (BY.mp q e he) (by simp)]
 | some x=>rwa[x.2,U]
def Xm{l:List (g8×List (Int×Int))}{n:g8}(h:n∈l.map (·.1)):∃ d,look (bkE l) (.inr n)=Ig d:=WV (by
 obtain⟨e,he,rfl⟩:=i4.mp h;rwa[i4.mpr ⟨_,i4.mpr ⟨e,he,rfl⟩,rfl⟩])
def Xf:∀{l:List (Int×Int)}{k i:Nat}{p:Int×Int},((l.zipIdx k).map λe=>((.inl (e.2:Int):Key),ptD e.1)).map (λe=>if e.1=.inl ((k+i:Nat):Int) then(e.1,ptD p) else e)=((l.set i p).zipIdx k).map λe=>((.inl (e.2:Int):Key),ptD e.1)
 | [],_,_,_=>rfl
 | q::l,k,0,p=>by
  rw[List.set_cons_zero,Bb,Bb,l9,l9,l9,y9 (by rfl)]
  congr 1
  rw[Fd (g:=id),List.map_id];intro e he;obtain⟨u,hu,rfl⟩:=i4.mp he;rw[y7]
  ·rfl
  intro z;injection z with z
  have:=List.le_snd_of_mem_zipIdx hu;simp at z;lia
 | q::l,k,i+1,p=>by
  have ih:=Xf (l:=l) (k:=k+1) (i:=i) (p:=p);rw[show k+1+i=k+(i+1) by lia] at ih;rw[List.set_cons_succ,Bb,Bb,l9,l9,l9,ih,y7];intro z;injection z with z
  simp at z;lia
def WD{l:List (Int×Int)}{i:Nat}{p:Int×Int}(h:i<l.length):XS (rnE l) (.inl (i:Int)) (ptD p)=rnE (l.set i p):=by
 have e:=lE (k:=0) (d3 h);rw[Eo] at e;have any:(rnE l).any (λe=>decide (e.1=.inl (i:Int)))=true:=by
  cases q:(rnE l).any (λe=>decide (e.1=.inl (i:Int))) with
  | true=>rfl
  | false =>
   have:=pD (es:=rnE l) (k:=.inl (i:Int)) λe he z=>by
    have:=FA.mp q e he;simp[z] at this
   rw[show look (rnE l) (.inl (i:Int))=_ from e] at this;cases this
 unfold XS;rw[y9 any];have:=Xf (l:=l) (k:=0) (i:=i) (p:=p);rw[Eo] at this;rwa[this]
def xK.set{H:Hp}{d:Dt}{v:V}(h:Rep H d v):∀{l:List Dt}{xs:List V}(i:Nat),xK H l xs->xK H (l.set i d) (xs.set i v)
 | [],_,i,q=>by rw[zY.mp q]; rwa[zY.mpr rfl]
 | d'::l,_,0,q=>by
  obtain⟨x,r,rfl,h1,h2⟩:=zL.mp q;rwa[zL.mpr ⟨v,r,rfl,h,h2⟩]
 | d'::l,_,i+1,q=>by
  obtain⟨x,r,rfl,h1,h2⟩:=zL.mp q;rwa[zL.mpr ⟨x,_,rfl,h1,xK.set h i h2⟩]
def VE{n i:Nat}(h:i<n):ixN n (i:Int)=Ig i:=by
 unfold ixN;simp;lia
end Sea

namespace L2
def isS(n:g8):V->Bool
 | .str z=>z == n
 | _=>Ij
def rInM(K:b7):R2:=λx y H Q=>∃(p:b9)(xs:List V)(n:g8),y=.ref p/\x=.str n/\SqT K H p xs/\(∀ v∈xs,(∃ z,v=.str z)\/∃ a ys,v=.ref a/\SqT K H a ys)/\Q (.bl (xs.any (isS n))) H
section
variable{X:Cx}
def bP(hu:X.A.units+1<cLine):OpR X (compareOp .In) (rInM X.K):=by
 intro Ik s σ H x y v u Q I rx ry h;obtain⟨p,xs,n,rfl,rfl,hq,ok,q⟩:=h;cases ry;obtain⟨t,rfl⟩:=rx;obtain⟨its,r,pl,hz⟩:=I.tuple hq;have key:∀{xs:List V}{us:List c7},yP xs us->(∀ v∈xs,(∃ z,v=.str z)\/∃ a ys,v=.ref a/\SqT X.K H a ys)->(∀ u∈us,Fs X.A.in1 s u (.str n t) (eqU (.str n) u))/\us.any (eqU (.str n))=xs.any (isS n):=by
  intro xs us hv
  induction hv with
  | nil=>exact λ_=>⟨λu hu=>(nomatch hu),rfl⟩
  | @cons y u xs us r _ ih =>
   intro ok;obtain⟨h1,h2⟩:=ih λv hv=>ok v (.tail _ hv);rcases ok y (.head _) with ⟨z,rfl⟩ | ⟨a,ys,rfl,ha⟩
   ·obtain⟨t',rfl⟩:=r;erw[λw hw=>?_,by rw[AQ,AQ,h2]; rfl];rcases i7.mp hw with rfl | hw
    ·rwa[Fu z t' n t]
    ·rwa[h1 w hw]
   ·cases r;obtain⟨_,_,pa,_⟩:=I.tuple ha;erw[λw hw=>?_,by rw[AQ,AQ,h2]; rfl];rcases i7.mp hw with rfl | hw
    ·rwa[SeqAt.EqAt.tuple_str n t pa hu]
    ·rwa[h1 w hw]
 obtain⟨h1,h2⟩:=key r ok;refine F6 (eqU (.str n)) pl (λw hw=>h1 w (by simpa using hw)) ⟨.bl _,H,I,rfl,?_⟩;rw[show its.toArray.any (eqU (.str n))=its.any (eqU (.str n)) by simp,h2];rwa[q]
end
def Same.seqT{K:b7}{H H':Hp}{a:b9}{xs:List V}(e:Same H H')(h:SqT K H a xs):SqT K H' a xs:=by
 rcases h with (h | ⟨o,h⟩) | h
 ·rwa[.inl (.inl (e _ _ h))]
 ·rwa[.inl (.inr ⟨o,e _ _ h⟩)]
 ·rwa[.inr h]
def Same.sq{K:b7}{H H':Hp}{l:b9}{xs:List V}(s:Same H H')(h:Sq K H l xs):Sq K H' l xs:=by
 rcases h with h | h
 ·rwa[.inl (s.seq h)]
 ·rwa[.inr (s.seqT h)]
end L2

namespace Sea
def BkL(C:b9)(H:Hp)(b p l:b9)(S:BS)(past later:List (Deed×BS)):Prop:=∃ dx d ps ls,BkA C H b p dx d l ps ls S past later
abbrev Bl(b p l:b9):b9->Prop:=λx=>x=b\/x=p\/x=l
section
variable{H H1:Hp}
def BkL.to{C b p l:b9}{S:BS}{past later:List (Deed×BS)}(k:BkL C H b p l S past later)(s:Sam H H1):BkL C H1 b p l S past later:=let ⟨dx,d,ps,ls,q⟩:=k;⟨dx,d,ps,ls,q.to s⟩
def BkL.at{C b p l:b9}{S:BS}{past later:List (Deed×BS)}(k:BkL C H b p l S past later):hV C H b p S past later:=let ⟨dx,d,ps,ls,q⟩:=k;⟨dx,d,l,ps,ls,q⟩
def Yr{C b p l dx:b9}{fs:List (g8×V)}{ps ls:List V}(hb:H b=Ig (.ins C dx fs))(hp:H p=Ig (.lst ps))(hl:H l=Ig (.lst ls)):∀ a kvs,Rd H a (.dK kvs)->¬ Bl b p l a:=λa kvs h z=>by
 rcases z with z | z | z <;> subst z <;> rcases h with h | ⟨o,h⟩
 ·rw[hb] at h; cases h
 ·rw[hb] at h; cases h
 ·rw[hp] at h; cases h
 ·rw[hp] at h; cases h
 ·rw[hl] at h; cases h
 ·rw[hl] at h; cases h
def aj{C b p l dx:b9}{fs:List (g8×V)}{ps ls:List V}(hb:H b=Ig (.ins C dx fs))(hp:H p=Ig (.lst ps))(hl:H l=Ig (.lst ls)):∀ a xs,H a=Ig (.tup xs)->¬ Bl b p l a:=λa xs h z=>by
 rcases z with z | z | z <;> subst z
 ·rw[hb] at h; cases h
 ·rw[hp] at h; cases h
 ·rw[hl] at h; cases h
def xJ.split{D:Deed}{S:BS} : ∀{r:List (Deed×BS)}{xs:List V},xJ H (r++[(D,S)]) xs->∃(ys:List V)(t d:b9)(v:V),xs=ys++[.ref t]/\xJ H r ys/\H t=Ig (.tup [v,.ref d])/\Rep H D.dt v/\fi H d S
 | [],xs,h=>by
  obtain⟨t,d,v,ys,e,h1,h2,h3,h4⟩:=h;have h4:ys=[]:=h4;subst h4;rwa[[],t,d,v,e,U,h1,h2,h3]
 | (D',S')::r,xs,h=>by
  obtain⟨t',d',v',zs,e,g1,g2,g3,g4⟩:=h;obtain⟨ys,t,d,v,rfl,k1,k2,k3,k4⟩:=xJ.split g4;rwa[.ref t'::ys,t,d,v,e,⟨t',d',v',ys,U,g1,g2,g3,k1⟩,k2,k3,k4]
def xJ.get:∀{r:List (Deed×BS)}{xs:List V}{i:Nat}{x:V},xJ H r xs->xs[i]?=Ig x->∃(e:Deed×BS)(t d:b9)(v:V),r[i]?=Ig e/\x=.ref t/\H t=Ig (.tup [v,.ref d])/\Rep H e.1.dt v
 | [],xs,i,x,h,e=>by
  have h:xs=[]:=h;rw[h] at e;simp at e
 | (D,S)::r,xs,0,x,h,e=>by
  obtain⟨t,d,v,ys,rfl,h1,h2,_⟩:=h;simp at e;rwa[(D,S),t,d,v,U,e.symm,h1,h2]
 | (D,S)::r,xs,i+1,x,h,e=>by
  obtain⟨t,d,v,ys,rfl,_,_,_,h4⟩:=h;obtain⟨e',t',d',v',g,k⟩:=xJ.get (i:=i) (x:=x) h4 (by simpa using e);exact⟨e',t',d',v',by simpa using g,k⟩
def xJ.refs:∀{r:List (Deed×BS)}{xs:List V},xJ H r xs->∃ rs:List b9,xs=rs.map V.ref
 | [],xs,h=>⟨[],h⟩
 | (D,S)::r,xs,h=>by
  obtain⟨t,d,v,ys,rfl,_,_,_,h4⟩:=h;obtain⟨rs,rfl⟩:=xJ.refs h4;rwa[t::rs,U]
end
end Sea

namespace L2
def fu:bootBuiltins "reversed" = Ig (.type "reversed"):=by ac_nf
def XI:∀{xs:List V}{us:List c7},yP xs us->∀{j:Nat}(h1:j<xs.length)(h2:j<us.length),xE xs[j] us[j]
 | _,_,.nil,_,h1,_=>x4 h1 (Di _)
 | _,_,.cons r _,0,_,_=>r
 | _,_,.cons _ t,j+1,h1,h2=>XI t (Ep h1) (Ep h2)
def ZM{P:j9}{w:n5}{K:b7}{tg:t6}{l:b9}{xs:List V}(it:b9) :
  Yd P w K tg (Itc (λH=>SqL K H l xs) xs.reverse) [it] it (λi h=>h.IsRevIter it l ((xs.length:Int)-1-i)/\i<=xs.length) where
 mem:=by simp
 obj:=λi h st b hb=>by
  have e:b=it:=by simpa using hb
  subst e;obtain⟨⟨o,e,c,d⟩,_⟩:=st;exact⟨o,e,λv z=>by rw[d] at z; cases z⟩
 keep:=λi h h' st k=>⟨st.1.at λo e=>k it (by simp) o e,st.2⟩
 item:=by
  intro X hP hw hK hc i Ik s σ H E I hf st ⟨fz,hi⟩;subst hP hw hK;obtain⟨its,r,pl,_⟩:=I.list fz;rw[x8] at hi;have hj:xs.length-1-i<xs.length:=by lia
  obtain⟨u,hu,ru⟩:∃ u,its[xs.length-1-i]?=Ig u/\xE xs[xs.length-1-i] u:=⟨its[xs.length-1-i]'(by rw[<- r.length]; rwa[hj]),d3 _,XI r hj (by rw[<- r.length]; rwa[hj])⟩;obtain⟨f0,f1,f2,f3,f4,f5⟩:=hf it (by simp);have st':s.heap.IsRevIter it l ((xs.length-1-i:Nat):Int):=by rw[show((xs.length-1-i:Nat):Int)=(xs.length:Int)-1-i by lia]; rwa[st.1]
  refine wpAny_pyNext_rev_item st' pl.isList (x:=u) (by simpa using hu) λh' st2 sb=>?_;have I1:Inv X Ik σ H { s with heap:=h' }:=I.turned (t':=s.toks) (λb o hb e=>(sb.2 b hb).trans e) f0 f1 f3 f4 f5;obtain⟨o,e,c,dd⟩:=id st2;rw[show((xs.length-1-i:Nat):Int)-1=(xs.length:Int)-1-((i+1:Nat):Int) by lia] at st2;exact⟨u,U,fB (s:={ s with heap:=h' }) e c dd (by decide) ⟨xs[xs.length-1-i],H,I1,ru,⟨U,by rw[CW hi,d3]⟩,⟨st2,hi⟩,λb hb=>(hf b hb).1⟩⟩
 done:=by
  intro X hP hw hK hc i Ik s σ H E I hf st ⟨fz,hi⟩;subst hP hw hK;rw[x8] at hi;obtain⟨f0,f1,f2,f3,f4,f5⟩:=hf it (by simp);have st':s.heap.IsRevIter it l (-1):=by
   rw[show(-1:Int)=(xs.length:Int)-1-i by have:=st.2; lia];rwa[st.1]
  rwa[wpAny_pyNext_rev_end (I.ok.hd hc) st' λh' eb=>⟨rfl,I.turned (t':=s.toks) (λb o hb e=>eb b o hb e) f0 f1 f3 f4 f5⟩]
 self:=λ_ _ _ _ _ st h=>EZ st.1 h
section
variable{X:Cx}
def iRev(K:b7)(ta:TA):TI:=λσ H R=>ta σ H λvs H1=>∃(l:b9)(xs:List V),vs=[.ref l]/\SqL K H1 l xs/\R (Itc (λH=>SqL K H l xs) xs.reverse) H1
def UP{tg a:t6}{ta:TA}{p pos:Ck}(hg:Gl X "reversed")(hm:X.mg "reversed" = Ih)(ha:PA X [a] ta)(hs:starEach [a] X.env=[(Ij,eval a X.env)]:=by rfl) :
  PI X tg (.Call (.Name "reversed" p) [a] [] pos) (iRev X.K ta):=by
 intro Ik s σ H R I h;erw[Call_ (pY I hg hm fu (AV (thn (ha pos Ik s σ H _ I h) λus s1 ⟨vs,H1,I1,r1,q1⟩=>?_) hs rfl))];obtain⟨l,xs,e,hl,q⟩:=q1;subst e;obtain⟨u1,rfl,v1⟩:=yP.one r1;cases v1;obtain⟨its,r,pl,_⟩:=I1.list hl;erw[call_reversed_list pl.isList ?_];have z:(s1.heap.push (revObj l ((its.toArray.size:Int)-1))).IsRevIter s1.heap.objs.size l ((xs.length:Int)-1-(0:Nat)):=⟨_,e7 _ rfl,rfl,by rw[i0,<- r.length,show(xs.length:Int)-1-((0:Nat):Int)=(xs.length:Int)-1 by lia]; rfl⟩;erw[EZ z ?_];erw[_,[_],_,_,H1,U,I1.kept (t':=s1.toks) (λb o e=>c9 _ e),ZM _,⟨z,r9 _⟩,λb hb=>?_,q];have e:=d9.mp hb;subst e;rwa[I1.fpOk (d6 _) (I1.hok.fresh (d6 _))]
end
end L2

namespace Sea
mutual
def wj:Dt->List g8
 | .int i=>[l5 (toString i)]
 | .str x=>[x]
 | .tup l=>zk l
def zk:List Dt->List g8
 | []=>[]
 | d::l=>wj d++zk l
end
def lh:Nat->Dt->Prop
 | _,.int i=>i.natAbs.log2<1920
 | _,.str x=>x.length<=1921
 | 0,.tup _=>False
 | n+1,.tup l=>l.length<=900/\∀ d∈l,lh n d
mutual
def cQ:∀(n:Nat)(d:Dt),lh n d->∀ w∈wj d,w.length<=1921
 | n,.int i,h,w,hw=>by
  have h:i.natAbs.log2<1920:=by cases n <;> rwa[h]
  rw[wj] at hw;rw[d9.mp hw,B9];rwa[int_text_length_le (k:=1920) (by decide) h]
 | n,.str x,h,w,hw=>by
  have h:x.length<=1921:=by cases n <;> rwa[h]
  rw[wj] at hw;rw[d9.mp hw];rwa[h]
 | 0,.tup _,h,_,_=>h.elim
 | n+1,.tup l,h,w,hw=>by
  rw[wj] at hw;rwa[mR n l h.2 w hw]
def mR:∀(n:Nat)(l:List Dt),(∀ d∈l,lh n d)->∀ w∈zk l,w.length<=1921
 | _,[],_,w,hw=>by rw[zk] at hw; exact nomatch hw
 | n,d::l,h,w,hw=>by
  rw[zk] at hw;rcases m7.mp hw with z | z
  ·rwa[cQ n d (h d (.head _)) w z]
  ·rwa[mR n l (λd hd=>h d (.tail _ hd)) w z]
end
mutual
def qK:Dt->List Dt
 | .int i=>[.int i]
 | .str x=>[.str x]
 | .tup l=>rE l
def rE:List Dt->List Dt
 | []=>[]
 | d::l=>qK d++rE l
end
def w1:Dt->g8
 | .int i=>l5 (toString i)
 | .str x=>x
 | .tup _=>Hy
mutual
def iA:∀ d:Dt,wj d=(qK d).map w1
 | .int i=>by rw[wj,qK]; rfl
 | .str x=>by rw[wj,qK]; rfl
 | .tup l=>by rw[wj,qK]; rwa[vm l]
def vm:∀ l:List Dt,zk l=(rE l).map w1
 | []=>by rw[zk,rE]; rfl
 | d::l=>by rw[zk,rE,j5,iA d,vm l]
end
mutual
def aI:∀(n:Nat)(d:Dt),lh n d->∀ e∈qK d,lh 0 e
 | n,.int i,h,e,he=>by
  rw[qK] at he;rw[d9.mp he];cases n <;> rwa[h]
 | n,.str x,h,e,he=>by
  rw[qK] at he;rw[d9.mp he];cases n <;> rwa[h]
 | 0,.tup _,h,_,_=>h.elim
 | n+1,.tup l,h,e,he=>by
  rw[qK] at he;rwa[mj n l h.2 e he]
def mj:∀(n:Nat)(l:List Dt),(∀ d∈l,lh n d)->∀ e∈rE l,lh 0 e
 | _,[],_,e,he=>by rw[rE] at he; exact nomatch he
 | n,d::l,h,e,he=>by
  rw[rE] at he;rcases m7.mp he with z | z
  ·rwa[aI n d (h d (.head _)) e z]
  ·rwa[mj n l (λd hd=>h d (.tail _ hd)) e z]
end
end Sea

namespace L2
section
variable{X:Cx}
def rNeDK:R2:=λx y H Q=>∃(a b:b9)(kvs:List (Key×V)),x=.ref a/\y=.ref b/\Rd H a (.dK kvs)/\H b=Ig (.dK [])/\Q (.bl (!kvs.isEmpty)) H
def Wu(hu:X.A.units<cLine):OpR X (compareOp .NotEq) rNeDK:=by
 intro Ik s σ H x y v u Q I rx ry h;obtain⟨a,b,kvs,rfl,rfl,ha,hb,q⟩:=h;cases rx;cases ry;obtain⟨_,na,vs,r,da⟩:=ha.ok I.hok;obtain⟨_,nb,us,r',db⟩:=(show Rd H b (.dK []) from .inl hb).ok I.hok;have e0:us=[]:=CM.mp (by rw[<- r'.length]; rfl);subst e0;have hl:=r.length;have e:(!(vs.length ==([]:List (Key×c7)).length&&Ii)) = !kvs.isEmpty:=by
  rw[<- hl];cases kvs <;> rfl
 erw[PySem.W.keq_ne (r:=Ii) na nb da db hu (λz=>?_) ?_]
 ·rw[CM.mp z];rwa[.nil]
 ·rw[e];rwa[.bl _,H,I,U,q]
variable{e:t6}{te:TE}{st:t6}{ts:TO}{pos p2:Ck}
end
end L2

namespace Sea
def YQ{n:Nat}{x:g8}(h:x.length<=8):lh n (.str x):=by
 have:x.length<=1921:=by lia
 cases n <;> rwa[this]
def uz{n:Nat}{l:List Dt}(h:l.length<=900)(g:∀ d∈l,lh n d):lh (n+1) (.tup l):=⟨h,g⟩
structure Tame(S:BS)(k:Nat):Prop where
 mk ::
 ma:∀ e∈S.marks,wL e.1
 ba:∀ e∈S.banks,wL e.1
 ru:S.runs.length<=k
 no:∀ e∈S.notes,0<=e.1/\e.1<=S.coming
 co:0<=S.coming/\S.coming<=1+k
def dt2{P:Dt->Prop}{a b:Dt}(h1:P a)(h2:P b):∀ d∈[a,b],P d:=λd hd=>by
 rcases i7.mp hd with rfl | hd
 ·rwa[h1]
 ·rw[d9.mp hd]; rwa[h2]
def dt3{P:Dt->Prop}{a b c:Dt}(h1:P a)(h2:P b)(h3:P c):∀ d∈[a,b,c],P d:=λd hd=>by
 rcases i7.mp hd with rfl | hd
 ·rwa[h1]
 ·rwa[dt2 h2 h3 d hd]
def dt4{P:Dt->Prop}{a b c e:Dt}(h1:P a)(h2:P b)(h3:P c)(h4:P e):∀ d∈[a,b,c,e],P d:=λd hd=>by
 rcases i7.mp hd with rfl | hd
 ·rwa[h1]
 ·rwa[dt3 h2 h3 h4 d hd]
def Bd(S:BS)(B:Nat):Prop:=∀ e∈S.marks,e.2.1.natAbs<=B/\e.2.2.natAbs<=B
structure GrowD(S:BS)(D:Deed)(B:Nat):Prop where
 mk ::
 ok:okD S D
 bd:Bd (aft S D) (B+5)
 lo:S.marks.length<=(aft S D).marks.length
 hi:(aft S D).marks.length<=S.marks.length+1
 bk:(aft S D).banks=S.banks
def yY.over{φ:b9->Prop}{H H1 H2:Hp}{D:b9}(s:yY φ H H1)(t:yY (λx=>x=D) H1 H2)(n:H1 D=Ih):yY φ H H2:=λx o hx e=>by
 rcases s x o hx e with e1 | ⟨ob,kvs,e0,e1⟩
 ·exact t x o (λz=>by rw[z,n] at e1; cases e1) e1
 ·subst e0;rcases t x _ (λz=>by rw[z,n] at e1; cases e1) e1 with e2 | ⟨_,_,z,_⟩
  ·rwa[.inr ⟨ob,kvs,rfl,e2⟩]
  ·cases z
def fN{φ:b9->Prop}{H H':Hp}{a:b9}{o:AL}{u:HO}(s:yY φ H H')(n:¬ φ a)(e:H a=Ig (.frz o u)):H' a=Ig (.frz o u):=by
 rcases s a _ n e with z | ⟨_,_,z,_⟩
 ·rwa[z]
 ·cases z
end Sea

namespace L2
def dC{P:j9}{w:n5}{H:Hp}{h:n9}{x:b9}{cls:c7}(ok:xI P w H h x (Zk x cls)):iR h x:=by
 obtain⟨⟨ob,vs,h1,_,_,h4,h5⟩,_⟩:=ok;rwa[ob,vs,h1,h4,h5]
def Exc(H:Hp)(x:b9):Prop:=∃ cls,H x=Ig (Zk x cls)
section
variable{X:Cx}{pos:Ck}
def Inv.alone{Ik:List (b9×AL)}{σ:St}{H:Hp}{s:d4}{x:b9}(I:Inv X Ik σ H s)(e:Exc H x):iR s.heap x:=let ⟨_,h⟩:=e; dC (I.hok x _ h)
def gTupH(K:b7)(x:b9)(n:Nat)(t:TGs):TG:=λv σ H Q=>Exc H x/\gTup K n t v σ H Q
def WN{es:List t6}{k:Nat}{t:TGs}{n:Nat}{x:b9}(hc:X.A.handled=Ig (.ref x))(h:PGs X es t)
  (hn:(assignEach es X.env).length=n:=by rfl) (hst:(assignEach es X.env).findIdx? (·.1)=none:=by rfl):PG X (.Tuple es k pos) (gTupH X.K x n t):=by
 intro Ik s σ H v u Q I r hw;obtain⟨ex,a,xs,e1,hq,hl,hw⟩:=hw;subst e1;cases r;obtain⟨its,rv,ht,hz⟩:=I.tuple hq;erw[lL hc (I.alone ex) ht (by simp[hn,<- hl,rv.length]) hst λh' hx=>?_];have I1:Inv X Ik σ H { s with heap:=h' }:=I.kept (t':=s.toks) λb o e=>hx b o (l6 (f9 e)) e;exact h Ik _ σ H xs _ Q I1 (by simpa using rv) hw
end
def Itx(K:b7)(a x:b9):It:=⟨(Itl K a).go,(Itl K a).yld,λi H=>(Itl K a).stop i H/\Exc H x⟩
section
variable{X:Cx}{Ik:List (b9×AL)}{s:d4}{σ:St}{H:Hp}{a it x:b9}{i:Nat}{tg:t6}{E:c7->d4->Prop}
def cV{h:n9}(st:h.IsListIter it a i):∀ b∈[it],∃ o,h.get? b=Ig o/\∀ v,o.data≠.cell v:=λb hb=>by
 rw[d9.mp hb];obtain⟨o,e,c,d⟩:=st;exact⟨o,e,λv z=>by rw[d] at z; cases z⟩
def bq{h h':n9}(st:h.IsListIter it a i)(k:∀ b∈[it],∀ o,h.get? b=Ig o->h'.get? b=Ig o):h'.IsListIter it a i:=st.at λo e=>k it (by simp) o e
def Vw(I:Inv X Ik σ H s)(hf:∀ b∈[it],fj X Ik H b)(st:s.heap.IsListIter it a i)(hg:(Itx X.K a x).go i H) :
  wpAny (model X.prog X.w) X.A (pyNext (.ref it)) (λr s1=>∃ u,r=Ig u /\
   wpAny (model X.prog X.w) X.A (letOwnedTupleGo tg (.ref it) u) (λ_ s2=>∃ y H',Inv X Ik σ H' s2/\xE y u/\(Itx X.K a x).yld i H y H'/\s2.heap.IsListIter it a (i+1)/\∀ b∈[it],H' b=Ih) E s1) E s:=by
 obtain⟨xs,y,hq,hy⟩:=hg;obtain⟨its,rv,p,hz⟩:=I.list hq;obtain⟨u,hu,ru⟩:=rv.get hy;obtain⟨f0,f1,f2,f3,f4,f5⟩:=hf it (by simp);refine Eg st p.isList (x:=u) (by simpa using hu) λh' st' sb=>?_;have I1:Inv X Ik σ H { s with heap:=h' }:=I.turned (t':=s.toks) (λb o hb e=>(sb.2 b hb).trans e) f0 f1 f3 f4 f5;obtain⟨o,e,c,d⟩:=id st';exact⟨u,U,fB (s:={ s with heap:=h' }) e c d (by decide) ⟨y,H,I1,ru,⟨U,λys hy'=>by rw[I.list_inj hy' hq]; rwa[hy]⟩,st',λb hb=>(hf b hb).1⟩⟩
def WL(hc:X.A.handled=Ig (.ref x))(I:Inv X Ik σ H s)(hf:∀ b∈[it],fj X Ik H b)(st:s.heap.IsListIter it a i)(hg:(Itx X.K a x).stop i H) :
  wpAny (model X.prog X.w) X.A (pyNext (.ref it)) (λr s1=>r=Ih/\Inv X Ik σ H s1) E s:=by
 obtain⟨⟨xs,hq,hy⟩,ex⟩:=hg;obtain⟨its,rv,p,hz⟩:=I.list hq;obtain⟨f0,f1,f2,f3,f4,f5⟩:=hf it (by simp);have hl:=rv.length;have hxi:x≠it:=λz=>by
  obtain⟨cls,e⟩:=ex;rw[z,f0] at e;cases e
 rwa[nY hc (I.alone ex) hxi st p.isList (by simp; lia) λh' eb=>⟨rfl,I.turned (t':=s.toks) (λb o hb e=>eb b o hb e) f0 f1 f3 f4 f5⟩]
end
def PIH(X:Cx)(x:b9)(iter:t6)(wi:TI):Prop:=∀(Ik:List (b9×AL))(s:d4)(σ:St)(H:Hp)(R:It->Hp->Prop),Inv X Ik σ H s->wi σ H R ->
 wpAny (model X.prog X.w) X.A (eval iter X.env) (λv s1=>wpAny (model X.prog X.w) X.A (pyIter v) (λitv s2=>∃(it a:b9)(H':Hp),itv=.ref it/\Inv X Ik σ H' s2/\s2.heap.IsListIter it a 0/\(∀ b∈[it],fj X Ik H' b)/\R (Itx X.K a x) H') X.xe s1) X.xe s
def Tz(K:b7)(x:b9)(tl:TE):TI:=λσ H R=>tl σ H λv H1=>∃ a,v=.ref a/\(∃ xs,SqL K H1 a xs)/\R (Itx K a x) H1
section
variable{X:Cx}
def YB{l:t6}{tl:TE}(x:b9)(hl:PE X l tl):PIH X x l (Tz X.K x tl):=by
 intro Ik s σ H R I h;erw[thn (hl Ik s σ H _ I h) λv s1 ⟨y,H1,I1,r1,q1⟩=>?_];obtain⟨a,e,⟨xs,hq⟩,q⟩:=q1;subst e;cases r1;obtain⟨its,rv,p,hz⟩:=I1.list hq;erw[BJ p.isList ?_];erw[s1.heap.objs.size,a,H1,U,I1.kept (t':=s1.toks) λb o e=>c9 _ e,⟨_,e7 _ rfl,U,U⟩,λb hb=>?_,q];rw[d9.mp hb];rwa[I1.fpOk (d6 _) (I1.hok.fresh (d6 _))]
end
section
variable{X:Cx}{T:List g8}{caps:List (g8×Nat)}{scope:CJ}{elt target iter:t6}{ifs:List t6}{pos:Ck}{wi:TI}{g:CC->TG}{tt:CC->TT}{te:CC->TE}
def ZP{x:b9}(S:yt X caps scope)(hc:X.A.handled=Ig (.ref x))(hi:PIH X x iter wi)(hg:∀ c,PG (uP X (T++caps.map (·.1)) scope c) target (g c))(ht:∀ c,To (uP X (T++caps.map (·.1)) scope c) ifs (tt c))(he:∀ c,PE (uP X (T++caps.map (·.1)) scope c) elt (te c))
  (hs:∀ x,foldedSetIterable iter X.env x=pure x:=by intro _; rfl):PE X (.ListComp elt [⟨target,iter,ifs,0⟩] scope pos) (Uj T.length caps wi g tt te):=by
 intro Ik s σ H Q I h;rw[eval_ListComp];erw[DZ (use:=Ih) rfl hs (bB S.cells) S.kind S.loc (thn (hi Ik s σ H _ I h) λv s1 h1=>thn h1 λitv s2 h2=>?_)];obtain⟨it,a,H2,e,I2,st2,f2,q2⟩:=h2;subst e;refine p9 (EW S.nocell (by intro y hy; simp at hy) (λh1 hn hsb=>?_) S.kind);dsimp only at hn hsb ⊢;generalize hg2:s2.heap.push { cls:=.type "list",dict:=Ih,data:=.seq ([]:List c7).toArray }=G at hn hsb ⊢;have hCv:G.objs.size=s2.heap.objs.size+1:=by rw[<- hg2,Bg]
 have hDC:G.objs.size≠s2.heap.objs.size:=by rw[hCv]; rwa[F9 _]
 have hCle:s2.heap.objs.size<=G.objs.size:=by rw[hCv]; rwa[BV _]
 have old:∀ b o,s2.heap.get? b=Ig o->h1.get? b=Ig o:=λb o e=>hsb.extBut b o (l6 (m5 (f9 e) hCle)) (c9 _ (hg2 ▸ c9 _ e));have hacc:∃ n,h1.get? s2.heap.objs.size=Ig { cls:=.type "list",data:=.seq ([]:List c7).toArray n }:=⟨_,hsb.extBut _ _ (AG hDC) (c9 _ (hg2 ▸ e7 _ rfl))⟩;have hfp:∀ b∈[it],b<s2.heap.objs.size:=λb hb=>by
  obtain⟨o,e,_⟩:=cV st2 b hb;rwa[f9 e]
 have cs:=qJ (env:=X.env) scope.names [] S.cells (λ_ _ z=>by cases z);have I0:=mi (T:=T) (tk:=s2.toks+([]:List (g8×c7)).length) S I2 f2 hfp (d6 _) hCle hDC old hacc hn;have st0:h1.IsListIter it a 0:=bq st2 λb _ o e=>old b o e;obtain⟨W,⟨m0,w0⟩,turn⟩:=q2 ⟨G.objs.size,s2,H2,[it]⟩ s2.heap.objs.size (I2.hok.fresh (d6 _));have fr0:∀ b∈[it],upd H2 s2.heap.objs.size (.lst []) b=none:=λb hb=>by
  rw[zG (l6 (hfp b hb))];exact(f2 b hb).1
 have stat:∀{H':Hp},(∀ b∈[it],H' b=Ih)->∀ b∈[it],fj (uP X (T++caps.map (·.1)) scope ⟨G.objs.size,s2,H2,[it]⟩) [] H' b:=λ{H'} hn' b hb =>
  ⟨hn' b hb,l6 (m5 (hfp b hb) hCle),I0.ok.exfs b hb,.inl hb,λx c e=>(f2 b hb).2.2.2.2.1 x c (cs x c e),λp hp=>x4 (show p∈([]:List (b9×AL)) from hp) (by simp)⟩
 have loop:codeAny (model X.prog X.w) X.A (.compLoop (.ListComp elt [⟨target,iter,ifs,0⟩] scope pos) 0 (.ref it) (.ref s2.heap.objs.size) (compEnvC scope (wt X.env scope.names []) G.objs.size X.env))
   (compPost (model X.prog X.w) X.A X.xe Ih (EP X Ik σ Q) (.ref s2.heap.objs.size) G.objs.size) { s2 with heap:=h1,toks:=s2.toks+([]:List (g8×c7)).length }:=by
  erw[codeAny_loop rfl (λn s'=>∃ i σ' ys H',Inv (uP X (T++caps.map (·.1)) scope ⟨G.objs.size,s2,H2,[it]⟩) [] σ' H' s'/\s'.heap.IsListIter it a i/\(∀ b∈[it],H' b=Ih)/\W i n σ' ys H') (λn s3 hI=>?_) m0 ⟨0,_,[],_,I0,st0,fr0,w0⟩];obtain⟨i,σ3,ys,H3,I3,st3,fr3,w3⟩:=hI;show wpAny _ X.A ((compTurn (.ListComp elt [⟨target,iter,ifs,0⟩] scope pos) 0 (.ref it) (.ref s2.heap.objs.size) (compEnvC scope (wt X.env scope.names []) G.objs.size X.env)).onRaise (λx=>do noteFrame x (compEnvC scope (wt X.env scope.names []) G.objs.size X.env); theTreesLotGoes x)) _ _ s3;erw[wpAny_noted ?_];rw[compTurn_list];erw[ac (C3 (ac ?_))];obtain⟨hD3,turn3⟩:=turn i n σ3 ys H3 w3;rcases turn3 with ⟨stop,qn⟩ | ⟨go,N,hN,step⟩
  ·erw[fJ (WL (X:=uP X (T++caps.map (·.1)) scope ⟨G.objs.size,s2,H2,[it]⟩) hc I3 (stat fr3) st3 stop) λr s4 ⟨hr,I4⟩=>?_];subst hr;erw[d7 ?_];show ∃ m,s4.heap.Ns G.objs.size m/\∀ h',AW G.objs.size s4.heap h'->EP X Ik σ Q (.ref s2.heap.objs.size) { s4 with heap:=h' };obtain⟨m4,hn4,_⟩:=I4.loc;erw[m4,hn4,λh' sb=>⟨.ref s2.heap.objs.size,H3,?_,U,qn⟩];refine I2.call' (s':={ s4 with heap:=h' }) (ch:=[it]) I4.os (Un.same I4.base sb (C5 hCle)) (HOk.same I4.hok sb I4.free) I4.bare λb hb=>?_;obtain⟨_,f1,_,f3,f4,f5⟩:=f2 b hb;rwa[f3,f1,f4,f5]
  ·refine fJ (Vw (tg:=target) (X:=uP X (T++caps.map (·.1)) scope ⟨G.objs.size,s2,H2,[it]⟩) I3 (stat fr3) st3 go) λr s4 ⟨u,hr,h4⟩=>?_;subst hr;refine ac (fJ h4 λ_ s5 ⟨x,H5,I5,r5,y5,st5,fr5⟩=>?_);have I5':=I5.pinned (stat fr5) (cV st5);refine ac (fJ (hg _ _ s5 σ3 H5 x u _ I5' r5 (step x H5 y5)) λ_ s6 ⟨σ6,H6,I6,q6⟩=>?_);have again:∀{s7:d4}{σ7:St}{zs:List V}{H7:Hp},Inv (uP X (T++caps.map (·.1)) scope ⟨G.objs.size,s2,H2,[it]⟩) ([]++mH [it] s5.heap) σ7 H7 s7->N σ7 zs H7 ->
     ∃ m,m<n/\∃ i σ' ys H',Inv (uP X (T++caps.map (·.1)) scope ⟨G.objs.size,s2,H2,[it]⟩) [] σ' H' s7/\s7.heap.IsListIter it a i/\(∀ b∈[it],H' b=Ih)/\W i m σ' ys H':=λ{s7 σ7 zs H7} I7 n7=>by
    obtain⟨m',hm,w7⟩:=hN σ7 zs H7 n7;erw[m',hm,i+1,σ7,zs,H7,I7.unpinned,bq st5 λb hb o e=>(I7.pin (b,o) (o0 _ (o0 _ (tV hb e)))).1,λb hb=>?_,w7];obtain⟨o,e,d⟩:=cV st5 b hb;exact(I7.pin (b,o) (o0 _ (o0 _ (tV hb e)))).2.1
   erw[ac (fJ (ht _ _ s6 σ6 H6 _ I6 q6) λok s7 ⟨H7,I7,q7⟩=>?_)];cases ok with
   | false=>rwa[d7 ⟨rfl,again I7 q7⟩]
   | true =>
    erw[ac (ac (fJ (he _ _ s7 σ6 H7 _ I7 q7) λy s8 ⟨yv,H8,I8,r8,hD8,hl8,q8⟩=>?_))];erw[ac (fJ (nq _ s8 σ6 H8 (.ref s2.heap.objs.size) [yv] (.ref s2.heap.objs.size) [y] (λ_ H9=>N σ6 (ys++[yv]) H9) I8 rfl (.cons r8 .nil) ⟨_,ys,yv,rfl,rfl,hD8,hl8,q8⟩) λ_ s9 ⟨_,H9,I9,_,q9⟩=>?_)];rwa[d7 (d7 ⟨rfl,again I9 q9⟩)]
 rwa[codeAny_compStart_list loop (EI st0 loop)]
end
section
variable{K:b7}{a x D:b9}{xs:List V}{g:TG}{tt:TT}{te:TE}{σ0:St}{H1:Hp}{Q:VK}
def dA(Pv:Nat->St->List V->Hp->Prop)(h0:Pv 0 σ0 [] (upd H1 D (.lst [])))(hl:∀ i σ ys H,i<=xs.length->Pv i σ ys H->SqL K H a xs/\H D=Ig (.lst ys)/\Exc H x)
  (hs:∀ i x σ ys H,xs[i]?=Ig x->Pv i σ ys H->g x σ H λσ2 H2=>tt σ2 H2 λb H3 =>
   if b=Ii then te σ2 H3 λy H4=>H4 D=Ig (.lst ys)/\ys.length<sizeLine/\Pv (i+1) σ2 (ys++[y]) (upd H4 D (.lst (ys++[y]))) else Pv (i+1) σ2 ys H3)
  (hd:∀ σ ys H,Pv xs.length σ ys H->Q (.ref D) H):ub (Itx K a x) D g tt te σ0 H1 Q:=by
 exists λi m σ ys H=>m=xs.length-i/\i<=xs.length/\Pv i σ ys H,⟨xs.length,by simp,r9 _,h0⟩;rintro i m σ ys H ⟨rfl,hi,p⟩;obtain⟨q,qd,qx⟩:=hl i σ ys H hi p;exists qd;by_cases hlt:i<xs.length
 ·erw[.inr ⟨⟨xs,xs[i],q,by simp[hlt]⟩,Pv (i+1),λσ' zs H' z=>⟨xs.length-(i+1),by lia,rfl,hlt,z⟩,λx H' y=>?_⟩];obtain⟨e,y⟩:=y;subst e;rwa[hs i x σ ys _ (y xs q) p]
 ·have e:i=xs.length:=by lia
  subst e;rwa[.inl ⟨⟨⟨xs,q,d6 _⟩,qx⟩,hd σ ys H p⟩]
end
section
variable{X:Cx}{Ik:List (b9×AL)}{σ:St}{H:Hp}{s:d4}
def Inv.stir(I:Inv X Ik σ H s){A:Ab}(hf:A.frames=X.A.frames):Inv { X with A:=A,calm:=Ij,xe:=λ_ _=>False } Ik σ H s :=
 ⟨⟨I.ok.mod,I.ok.kind,I.ok.glob,I.ok.blt,I.ok.above,I.ok.inj,I.ok.has,I.ok.cab,λz=>(nomatch z),hf.trans I.ok.frames,I.ok.stk,I.ok.exf,I.ok.bs,I.ok.bsz,I.ok.noex,I.ok.exfs,I.ok.funs,I.ok.frf⟩,I.os,I.bare,I.base,I.loc,I.cell,I.free,I.freeC,I.pin,I.hok,I.len⟩
end
abbrev ZB(A:Ab):Ab:={ A with handled:=Ih }
abbrev cxH(P:j9)(w:n5)(K:b7)(mg:g8->Option c7)(base:n9)(N:List g8)(qual:g8)(scope:CJ)(f:b9)(cd:c7)(A:Ab)(outer:List Dk)(s:d4)(H:Hp):Cx :=
 { cxOf CX0 P w K mg base N qual scope f cd A outer s H E0 with calm:=Ij,xe:=λ_ _=>False }
structure ZL(P:j9)(w:n5)(K:b7)(mg:g8->Option c7)(base:n9)(k:Nat)(f:b9)(fd:Aq)(ps:List g8)(sp:b9->Sp):Prop where
 mk ::
 len:∀ x vs H Q E,sp x vs H Q E->vs.length=ps.length
 run:∀(x:b9)(A:Ab)(outer:List Dk)(s:d4)(H:Hp)(args:Args)(us:List c7)(vs:List V)(Q:VK),A.handled=Ig (.ref x)->rX k (ZB A)->YD P w K mg base A outer s H->Ej s fd args (ps.zip us)->yP vs us->sp x vs H Q E0 ->
  codeAny (model P w) A (.call (.ref f) args) (CR CX0 outer P w H s Q E0) s
section
variable{P:j9}{w:n5}{K:b7}{mg:g8->Option c7}{base:n9}
def Fun.okH{x qual:g8}{st:Ah}{f:b9}{fd:Aq}{N ps:List g8}{k:Nat}{sp:b9->Sp}(F:Fun K x qual st f fd)(S:zP N ps (zJ st))(len:∀ x vs H Q E,sp x vs H Q E->vs.length=ps.length)
  (hbody:∀(x:b9)(cdv:c7)(A:Ab)(outer:List Dk)(s:d4)(H:Hp)(vs:List V)(Q:VK),A.handled=Ig (.ref x)->rX k ((ZB A).deeper (envOfC qual (zJ st) s.heap.objs.size f cdv))->sp x vs H Q E0 ->
   ∃ t,PSs (cxH P w K mg base N qual (zJ st) f cdv A outer s H) (xH st) t/\t { nx:=λ_ H'=>Q .non H',rt:=Q } (start N vs) H):ZL P w K mg base (k+1) f fd ps sp:=by
 obtain⟨oc,od,kV,doc,pm,an,cdv,ct,osl,rfl,lk,hcd⟩:=F.ex;refine⟨len,λx A outer s H args us vs Q hx hr e0 hb r hsp=>?_⟩;have hl:=len _ _ _ _ _ hsp;have KX:K.In s.heap:=e0.mod.kin.keeps λb o e=>(e0.bs b o e).1;have lim:s.heap.NoLimit:=e0.mod.nolimit.keeps λb o e=>(e0.bs b o e).1;have hkind:∀ y∈ps.zip us,(zJ st).names.lookup y.1=Ig .local\/((zJ st).names.lookup y.1=Ig .cell/\((cellsFrom (s.heap.objs.size+1) (zJ st).names []).lookup y.1).isSome=Ii):=λ⟨n,v⟩ hy=>by
  rcases S.par n (Dc hy).1 with q | q
  ·rwa[.inl q]
  ·rwa[.inr ⟨q,CO _ _ _ (.inl q)⟩]
 refine codeAny_call_function (show A.depth<recursionLimit from hr.depth) (KX _ _ lk) rfl S.co S.gen rfl (Fq KX hcd) (hb _ _ _ _ ?_);refine DB S.kind hkind λenv he s1 x1=>?_;subst he;refine⟨lim.keeps x1.toInCall.keep,codeAny_func ?_⟩;obtain⟨t,ht,hq⟩:=hbody x cdv A outer s H vs Q hx (hr.deeper _) hsp;have e1:YD P w K mg base (ZB A) outer s H:=⟨e0.frames,e0.mod,e0.bs,e0.bsz,e0.funs,e0.frf,e0.hok,e0.bare⟩;have I0:Inv (cxOf CX0 P w K mg base N qual (zJ st) f cdv (ZB A) outer s H E0) [] (start N vs) H s1:=iB S rfl e1 hl r x1;have I:Inv (cxH P w K mg base N qual (zJ st) f cdv A outer s H) [] (start N vs) H s1:=I0.stir rfl;refine A9 (ht [] s1 (start N vs) H _ I hq) (λfl s' hs=>?_) λ_ _ z=>v7 z;have fin:∀{σ':St}{H':Hp}{v:V}{u:c7},Inv (cxH P w K mg base N qual (zJ st) f cdv A outer s H) [] σ' H' s'->xE v u->Q v H'->CE outer P w H s Q u s' :=
  λ{σ' H' v u} J rv q=>⟨v,H',J.os,J.bare,J.base,J.hok,rv,q⟩
 cases fl with
 | ret u =>
  obtain⟨v,σ',H',J,rv,q⟩:=hs;rwa[fin J rv q]
 | next =>
  obtain⟨σ',H',J,q⟩:=hs;rwa[fin (v:=V.non) (u:=p8) J rfl q]
 | brk =>
  obtain⟨_,_,_,q⟩:=hs;rwa[v7 q]
 | cont =>
  obtain⟨_,_,_,q⟩:=hs;rwa[v7 q]
end
def Ti(P:j9)(w:n5)(K:b7)(mg:g8->Option c7)(base:n9)(x:g8)(n:Nat)(ps:List g8)(sp:b9->Sp):Prop :=
 ∃(f:b9)(fd:Aq),ZL P w K mg base n f fd ps sp/\vb K fd ps []/\Au K (.ref f)=Ii/\mg x=Ig (.ref f)
section
variable{X:Cx}{x:g8}{p pos:Ck}{e:t6}{es:List t6}{t:TA}{n:Nat}{ps:List g8}{sp:b9->Sp}
def fU{ea:b9}(h:Ti X.prog X.w X.K X.mg X.base x n ps sp)(hr:rX n X.A)(hg:Gl X x)(ha:PA (X.hd (.ref ea)) (e::es) t)(hdb:(x ==("__debug__" : g8))=false:=by decide)
  (he:starEach (e::es) X.env=(Ij,eval e X.env)::starEach es X.env:=by rfl) (hpl:(backTo pos (starEach es X.env)).any (·.1)=false:=by rfl):PE (X.hd (.ref ea)) (.Call (.Name x p) (e::es) [] pos) (dM (sp ea) [] E0 t):=by
 obtain⟨f,fd,F,hb,hk,hm⟩:=h;intro Ik s σ H Q I h;erw[Ba (sF I hg hm ?_ hdb)];erw[Bw (h₀:=X.base) I.ok.mod.kin hk (thn (ha pos Ik s σ H _ I h) λus s1 ⟨vs,H1,I1,r,q⟩=>⟨I1.kIn,?_⟩) he hpl];have q:sp ea (vs++[]) H1 Q E0:=q;rw[Bq] at q;have hl:us.length=ps.length:=by rw[<- r.length]; rwa[F.len _ _ _ _ _ q]
 have hb':=hb s1 us I1.kIn (by rw[Bq]; rwa[hl]);rw[Bq] at hb';erw[DA (codeAny_mono (F.run ea (X.hd (.ref ea)).A X.stack s1 H1 ⟨us,[]⟩ us vs Q rfl ⟨rfl,hr.dp,hr.un,hr.gd⟩ I1.env0 hb' r q) λr s' hq=>?_)];cases r with
 | error e=>rwa[v7 hq]
 | ok fl =>
  cases fl with
  | ret u=>rwa[I1.after hq]
  | next=>rwa[v7 hq]
  | brk=>rwa[v7 hq]
  | cont=>rwa[v7 hq]
end
open PySem PySem.Spec PyProof.Rows PySem.W
def Td(K:b7)(D:b9):Bool :=
 (findIn K (.ref D) "__getattribute__" == Ig (Ig (.builtin "BaseException.__getattribute__")))&&(findIn K (.ref D) "__getattr__" == Ig Ih) &&
 (match findObj K D Ih "__class__" with | some (.bind g a)=>g == .builtin "getset_descriptor.__get__" && a == .builtin "object.__class__" | _=>Ij) &&
 (mroIn K D (.type "BaseException") == Ig Ii)&&(mroIn K D (.type "object") == Ig Ii)
def Wl{K:b7}{D:b9}(h:Td K D=Ii):nM K D:=by
 unfold Td at h;simp only[o8] at h;obtain⟨⟨⟨⟨h1,h2⟩,h3⟩,h4⟩,h5⟩:=h;erw[eq_of_beq h1,eq_of_beq h2,?_,eq_of_beq h4,eq_of_beq h5];split at h3
 ·rename_i g a e
  rw[o8] at h3;rw[e,eq_of_beq h3.1,eq_of_beq h3.2]
 ·cases h3
def Vb(K:b7)(Ds:List b9):Bool:=Ds.all λD=>Td K D&&(kitOne K (.ref D) (.type "ValueError") == Ig Ii)&&Ds.all λc=>kitOne K (.ref D) (.ref c) == Ig (D == c)
section
variable{K:b7}{Ds:List b9}{D c:b9}
def fK(h:Vb K Ds=Ii)(hD:D∈Ds):nM K D:=by
 have:=Af.mp h D hD;simp only[o8] at this;rwa[Wl this.1.1]
def Yu(h:Vb K Ds=Ii)(hD:D∈Ds):kitOne K (.ref D) (.type "ValueError")=Ig true:=by
 have:=Af.mp h D hD;simp only[o8] at this;rwa[eq_of_beq this.1.2]
def ZU(h:Vb K Ds=Ii)(hD:D∈Ds)(hc:c∈Ds):kitOne K (.ref D) (.ref c)=Ig (D == c):=by
 have:=Af.mp h D hD;simp only[o8] at this;rwa[eq_of_beq (Af.mp this.2 c hc)]
end
end L2

namespace Sea
open PySem L2 PySem.Spec
open PyProof.Rows hiding St
mutual
def pd:Dt->PyData
 | .int i=>.int i
 | .str x=>.str x
 | .tup l=>.tuple (pds l)
def pds:List Dt->List PyData
 | []=>[]
 | d::l=>pd d::pds l
end
mutual
def shB:Dt->Nat
 | .int i=>i.natAbs.log2+3
 | .str x=>10*x.length+2
 | .tup l=>dS l+4
def dS:List Dt->Nat
 | []=>0
 | d::l=>shB d+2+dS l
end
mutual
def okS:Dt->Prop
 | .int i=>i.natAbs.log2<1920
 | .str x=>∀ c∈x.cps.toList,c<16^8
 | .tup l=>mv l
def mv:List Dt->Prop
 | []=>True
 | d::l=>okS d/\mv l
end
def jG(ts:List g8):(tupleText ts).length<=piled ts+4:=by
 unfold tupleText;rw[strLen_append,strLen_append];have h1:("(" : g8).length=1:=rfl;have h2:(l5 (if ts.length == 1 then ",)" else ")")).length<=2:=by split <;> decide
 have h3:(D8 ", " ts).length<=piled ts:=by
  by_cases z:ts=[]
  ·subst z; decide
  ·have:=join_length_add ts z; lia
 lia
mutual
def fS:∀ d:Dt,okS d->(pd d).shown.length<=shB d
 | .int i,h=>by
  rw[okS] at h;rw[pd,shB,FS];have:=int_text_length_le (k:=i.natAbs.log2+1) (by lia) (D5 i.natAbs.log2);rw[<- B9] at this;lia
 | .str x,h=>by
  rw[okS] at h;rw[pd,shB,FS];rwa[E3 x h]
 | .tup l,h=>by
  rw[okS] at h;rw[pd,shB,FS];have:=jG (Dj (pds l));have:=jr l h;lia
def jr:∀ l:List Dt,mv l->piled (Dj (pds l))<=dS l
 | [],_=>by rw[pds,Dj,dS]; decide
 | d::l,h=>by
  rw[mv] at h;rw[pds,Dj,dS,piled_cons];have:=fS d h.1;have:=jr l h.2;lia
end
mutual
def eK:∀ d:Dt,okS d->(pd d).showable=Ii
 | .int i,h=>by rw[okS] at h; rw[pd,ED]; rwa[q0 h]
 | .str x,_=>by rw[pd,ED]
 | .tup l,h=>by rw[okS] at h; rw[pd,ED]; rwa[im l h]
def im:∀ l:List Dt,mv l->DG (pds l)=Ii
 | [],_=>by rw[pds,DG]
 | d::l,h=>by rw[mv] at h; rw[pds,DG,eK d h.1,im l h.2]; rfl
end
mutual
def cS:∀ d:Dt,(pd d).hasDict=Ij
 | .int i=>by rw[pd,E4]
 | .str x=>by rw[pd,E4]
 | .tup l=>by rw[pd,E4]; rwa[eY l]
def eY:∀ l:List Dt,DX (pds l)=Ij
 | []=>by rw[pds,DX]
 | d::l=>by rw[pds,DX,cS d,eY l]; rfl
end
def nj{n:Nat} : ∀ l:List Dt,(∀ d∈l,(pd d).depth<=n)->EF (pds l)<=n
 | [],_=>by rw[pds,EF]; rwa[r9 _]
 | d::l,h=>by
  rw[pds,EF];have:=h d (.head _);have:=nj l λd hd=>h d (.tail _ hd);lia
def fF:∀(n:Nat)(d:Dt),lh n d->(pd d).depth<=n
 | n,.int i,_=>by rw[pd,FT]; rwa[r9 _]
 | n,.str x,_=>by rw[pd,FT]; rwa[r9 _]
 | 0,.tup _,h=>h.elim
 | n+1,.tup l,h=>by
  rw[pd,FT];have:=nj (n:=n) l λd hd=>fF n d (h.2 d hd);lia
section
variable{X:Cx}{Ik:List (b9×AL)}{σ:St}{H:Hp}{s:d4}
mutual
def fM(I:Inv X Ik σ H s):∀(d:Dt){v:V}{u:c7},Rep H d v->xE v u->∃ as,Reads s.heap u (pd d) as
 | .int i,v,u,h,r=>by
  rw[yB.mp h] at r;obtain⟨t,rfl⟩:=(show ∃ t,u=BE i t from r);rw[pd];rwa[_,.int i t]
 | .str x,v,u,h,r=>by
  rw[zW.mp h] at r;obtain⟨t,rfl⟩:=(show ∃ t,u=AN x t from r);rw[pd];rwa[_,.str x t]
 | .tup l,v,u,h,r=>by
  obtain⟨a,xs,rfl,ha,rs⟩:=yF.mp h;obtain rfl:u=j6 a:=r;obtain⟨its,rv,⟨o,h1,h2,n,h3⟩,hz⟩:=I.tuple (SqT.of ha);obtain⟨as,ra⟩:=jv I l rs rv;rw[pd];exact⟨_,.tuple h1 h2 h3 (by simpa using ra)⟩
def jv(I:Inv X Ik σ H s):∀(l:List Dt){xs:List V}{us:List c7},xK H l xs->yP xs us->∃ as,ReadsAll s.heap us (pds l) as
 | [],xs,us,h,r=>by
  rw[zY.mp h] at r;cases r;rw[pds];rwa[_,.nil]
 | d::l,xs,us,h,r=>by
  obtain⟨x,xr,rfl,h1,h2⟩:=zL.mp h;cases r with
  | cons r1 r2 =>
   obtain⟨as,ra⟩:=fM I d h1 r1;obtain⟨bs,rb⟩:=jv I l h2 r2;rw[pds];rwa[_,.cons ra rb]
end
end
section
variable{X:Cx}{e:t6}{es:List t6}{t:TJ}{te:TE}{pos p:Ck}{n:Nat}
def UJ(te:TE)(t:TJ):TJ:=λσ H K=>te σ H λv H1=>(∃ d,Rep H1 d v/\okS d/\lh 4 d/\shB d<=2000)/\t σ H1 K
def iz(hg:X.A.guards=Ig [])(hu:X.A.units+64<cLine)(hv:PE X e te)(ht:PJ X es n t)(he:evalEach (.FormattedValue e (-1) Ih p::es) X.env=eval (.FormattedValue e (-1) Ih p) X.env::evalEach es X.env:=by rfl):PJ X (.FormattedValue e (-1) Ih p::es) (n+1) (UJ te t):=by
 intro Ik s σ H k acc Q C I h hk q z;rw[he];refine DF (thn (hv Ik s σ H _ I q) λu s1 ⟨v,H1,I1,r,⟨d,rd,ok,sh,hb⟩,q1⟩=>?_);have hl:=fS d ok;have fin:∀(y:g8)(s2:d4)(t':Ia),y.length<=2000->Inv X Ik σ H1 s2->∃ y' t,AN y t'=.str y' t/\(acc++y').length<=sizeLine/\Joins (model X.prog X.w) X.A X.xe (evalEach es X.env) (acc++y') Q s2:=λy s2 t' hy I2 =>
  ⟨y,t',rfl,by rw[strLen_append]; show acc.length+y.length<=2^24; lia,ht Ik s2 σ H1 (k+1) _ _ C I2 (by rw[strLen_append]; lia) (by lia) q1 z⟩
 match d,rd,ok,hl with
 | .int i,rd,ok,hl =>
  rw[yB.mp rd] at r;obtain⟨tk,rfl⟩:=(show ∃ t,u=BE i t from r);rw[okS] at ok;have l:=int_text_length_le (k:=1920) (by decide) ok;rw[<- B9] at l;rwa[EM ok (fin _ _ _ (by lia) (I1.tok _))]
 | .str x,rd,ok,hl =>
  rw[zW.mp rd] at r;obtain⟨tk,rfl⟩:=(show ∃ t,u=AN x t from r);rw[shB] at hb;exact formatField_str (λt' tk'=>fin x _ t' (by lia) (I1.tok _)) (by show x.length<=2^24; lia)
 | .tup l,rd,ok,hl =>
  obtain⟨as,ra⟩:=fM I1 _ rd r;obtain⟨a,xs,rfl,_⟩:=yF.mp rd;obtain rfl:u=j6 a:=r;have dl:=fF 4 _ sh;refine formatField_of_reads ra (eK _ ok) (λz=>by rw[cS] at z; cases z) hg (by lia) (λ_ _ e=>e) (λh' u tk hk=>?_) (by show _<=2^24; lia);rwa[fin _ _ _ (by lia) (I1.kept (t':=tk) hk)]
def UY(te:TE)(t:TJ):TJ:=λσ H K=>te σ H λv H1=>(∃ x:g8,v=.str x/\(∀ c∈x.cps.toList,c<16^8)/\x.length<=190)/\t σ H1 K
def gW(hv:PE X e te)(ht:PJ X es n t)(he:evalEach (.FormattedValue e 114 Ih p::es) X.env=eval (.FormattedValue e 114 Ih p) X.env::evalEach es X.env:=by rfl):PJ X (.FormattedValue e 114 Ih p::es) (n+1) (UY te t):=by
 intro Ik s σ H k acc Q C I h hk q z;rw[he];erw[wpAny_FormattedValue_repr (thn (hv Ik s σ H _ I q) λu s1 ⟨v,H1,I1,r,⟨x,ex,cx,lx⟩,q1⟩=>?_)];subst ex;obtain⟨tk,rfl⟩:=(show ∃ t,u=AN x t from r);have hl:=E3 x cx;refine wpAny_pyReprObj_str ?_ (by show _<=2^24; lia);refine formatField_str (λt' tk'=>?_) (by show _<=2^24; lia);exact⟨_,t',U,by rw[strLen_append]; show acc.length+_<=2^24; lia,ht Ik _ σ H1 (k+1) _ _ C (I1.tok _) (by rw[strLen_append]; lia) (by lia) q1 z⟩
end
end Sea
namespace L2
section
variable{X:Cx}{x y:g8}{p pos:Ck}{i e:t6}{es:List t6}{ty:TE}{t:TA}
structure XN(P:j9)(w:n5)(K:b7)(mg:g8->Option c7)(B:n9)(m:Nat)(kvs:List (Key×V))(k:Key)(sp:Sp):Prop where
 mk ::
 has:∃(x:g8)(f:b9)(n:Nat)(ps:List g8),wN kvs k=Ig (.ref f)/\mg x=Ig (.ref f)/\qS P w K mg B x n ps sp/\n<=m
def tTabX(tab:List (Key×Sp))(EE:St->XK)(ty:TE)(t:TA):TE:=λσ H Q=>ty σ H λy H1=>∃(k:Key)(sp:Sp),y=kV k/\(k,sp)∈tab/\t σ H1 λvs H2=>sp vs H2 Q (EE σ)
def WE(EE:St->XK){a:b9}{m:Nat}{kvs:List (Key×V)}{tab:List (Key×Sp)}{p':Ck}(hb:Vd X.prog X.w X.base a kvs)(hm:X.mg x=Ig (.ref a))(hT:∀ r∈tab,XN X.prog X.w X.K X.mg X.base m kvs r.1 r.2)(hx:gG X EE)(hr:rX m X.A)(hi:PE X i ty)(ha:PA X (e::es) t)
  (hs:Tl i:=by rwa[λ_ _=>rfl]) (hg:Gl X x:=by rfl) (hd:(x ==("__debug__" : g8))=false:=by decide)
  (he:starEach (e::es) X.env=(Ij,eval e X.env)::starEach es X.env:=by rfl) (hpl:(backTo pos (starEach es X.env)).any (·.1)=false:=by rfl)
  (hev:eval (.Call (.Subscript (.Name x p) i p') (e::es) [] pos) X.env=(do callWith pos (<- eval (.Subscript (.Name x p) i p') X.env) [] (backTo pos (starEach (e::es) X.env)) (backToKw pos (keywordEach [] X.env))):=by rfl) :
  PE X (.Call (.Subscript (.Name x p) i p') (e::es) [] pos) (tTabX tab EE ty t):=by
 intro Ik s σ H Q I h;erw[Call_ (gY Cq.lookup hs (sF I hg hm (thn (hi Ik s σ H _ I h) λiv s2 ⟨y,H2,I2,ry,k,sp,ey,mem,q2⟩=>?_) hd)) hev];subst ey;obtain⟨x',f,n,ps,l,mx,⟨f',fd,F,b,kp,mx'⟩,hn⟩:=(hT _ mem).has;rw[mx] at mx';cases mx';erw[XG hb I2 l ry λw' s3 I3 rw'=>?_];cases rw';erw[Bw (h₀:=X.base) I.ok.mod.kin kp (thn (ha pos Ik s3 σ H2 _ I3 q2) λus s4 ⟨vs,H4,I4,r,q4⟩=>⟨I4.kIn,?_⟩) he hpl];rwa[lA F (hr.mono hn) b hx I4 r q4]
end
section
variable{X:Cx}
def YF:OpR X (compareOp .In) (λx y H Q=>∃ i j:g8,x=.str i/\y=.str j/\Q (.bl !(Ed j i 0 j.length 1).isEmpty) H):=by
 intro Ik s σ H x y v u Q I rx ry h;obtain⟨i,j,rfl,rfl,q⟩:=h;obtain⟨t,rfl⟩:=rx;obtain⟨t',rfl⟩:=ry;rwa[PySem.P.in_str (yV I q rfl)]
def VY:∀ c<128,(!(Ed ("abcdefghijklmnopqrstuvwxyz" : g8) ⟨#[c]⟩ 0 ("abcdefghijklmnopqrstuvwxyz" : g8).length 1).isEmpty)=decide (97<=c/\c<=122):=by ac_nf
end
end L2

namespace Sea
inductive Cl where
 | badName | taken | badPlace | full | noMark | same | needed | badBank | noBank | badRun | noRun | noMoment | badWay | badTurn | noNote
 deriving DecidableEq
open Classical in
noncomputable def zS(S:BS):Deed->Option Cl
 | .mark n x y=>if ¬ wL n then Ig .badName else if (zQ S n).isSome=Ii then Ig .taken else if ¬ qy (x,y) then Ig .badPlace else if 20<=S.marks.length then Ig .full else Ih
 | .move n x y=>if zQ S n=Ih then Ig .noMark else if ¬ qy (x,y) then Ig .badPlace else if ∀ e∈S.notes,ui (aft S (.move n x y)) e.2 then Ih else Ig .same
 | .unmark n=>if zQ S n=Ih then Ig .noMark else if ∀ e∈S.notes,rQ n e.2 then Ih else Ig .needed
 | .bank n cs=>if ¬ wL n then Ig .badName else if n∈S.banks.map (·.1) then Ig .taken else if ¬ ∀ c∈cs,qy c then Ig .badPlace else if iL cs=Ij then Ig .badBank else if 8<=S.banks.length then Ig .full else Ih
 | .level n=>if n∈S.banks.map (·.1) then Ih else Ig .noBank
 | .sail x y=>if ¬ qy (x,y) then Ig .badRun else if 12<=S.runs.length then Ig .full else Ih
 | .right k x y=>if 0<=k/\k<S.runs.length then(if qy (x,y) then Ih else Ig .badRun) else Ig .noRun
 | .bearing m n a b c d=>if ¬ (0<=m/\m<=S.runs.length) then Ig .noMoment else if zQ S n=Ih then Ig .noMark else if ¬ ug (a,b) then Ig .badWay else if ¬ ug (c,d) then Ig .badWay else if a*d-b*c<=0 then Ig .badTurn else if 24<=S.notes.length then Ig .full else Ih
 | .range m l r=>if ¬ (0<=m/\m<=S.runs.length) then Ig .noMoment else if zQ S l=Ih then Ig .noMark else if zQ S r=Ih then Ig .noMark else if zQ S l=zQ S r then Ig .same else if 24<=S.notes.length then Ig .full else Ih
 | .strike k=>if k∈S.notes.map (·.1) then Ih else Ig .noNote
def yg{α:Type}{o:Option α}(h:¬ o=Ih):o.isSome=true:=by cases o <;> simp at h ⊢
def fO{S:BS}{D:Deed}(h:zS S D=Ih):okD S D:=by
 cases D with
 | mark n x y =>
  simp only[zS] at h;split at h; · cases h
  split at h; · cases h
  split at h; · cases h
  split at h; · cases h
  rename_i h1 h2 h3 h4
  exact⟨e9.mp h1,by cases e:zQ S n <;> simp[e] at h2 ⊢,e9.mp h3,by lia⟩
 | move n x y =>
  simp only[zS] at h;split at h; · cases h
  split at h; · cases h
  split at h
  ·rename_i h1 h2 h3; rwa[yg h1,e9.mp h2,h3]
  ·cases h
 | unmark n =>
  simp only[zS] at h;split at h; · cases h
  split at h
  ·rename_i h1 h2; rwa[yg h1,h2]
  ·cases h
 | bank n cs =>
  simp only[zS] at h;split at h; · cases h
  split at h; · cases h
  split at h; · cases h
  split at h; · cases h
  split at h; · cases h
  rename_i h1 h2 h3 h4 h5
  exact⟨e9.mp h1,h2,e9.mp h3,by cases e:iL cs <;> simp[e] at h4 ⊢,by lia⟩
 | level n =>
  simp only[zS] at h;split at h
  ·rename_i h1; rwa[h1]
  ·cases h
 | sail x y =>
  simp only[zS] at h;split at h; · cases h
  split at h; · cases h
  rename_i h1 h2
  rwa[e9.mp h1,by lia]
 | right k x y =>
  simp only[zS] at h;split at h
  ·split at h
   ·rename_i h1 h2; rwa[h1.1,h1.2,h2]
   ·cases h
  ·cases h
 | bearing m n a b c d =>
  simp only[zS] at h;split at h; · cases h
  split at h; · cases h
  split at h; · cases h
  split at h; · cases h
  split at h; · cases h
  split at h; · cases h
  rename_i h1 h2 h3 h4 h5 h6
  have h1:=e9.mp h1;rwa[h1.1,h1.2,yg h2,e9.mp h3,e9.mp h4,by lia,by lia]
 | range m l r =>
  simp only[zS] at h;split at h; · cases h
  split at h; · cases h
  split at h; · cases h
  split at h; · cases h
  split at h; · cases h
  rename_i h1 h2 h3 h4 h5
  have h1:=e9.mp h1;rwa[h1.1,h1.2,yg h2,yg h3,h4,by lia]
 | strike k =>
  simp only[zS] at h;split at h
  ·rename_i h1; rwa[h1]
  ·cases h
def eN(ok:Prop)(Q:VK)(E:XK)(c:b9)(H:Hp):Prop:=(ok/\∀ H',Same H H'->Q .non H')\/(¬ ok/\∀ H',Same H H'->E (.ref c) Ih H')
section
variable{ok:Prop}{Q:VK}{E:XK}{c:b9}{H H':Hp}
def eN.yes(h:eN ok Q E c H)(o:ok)(s:Same H H'):Q .non H':=by
 rcases h with ⟨_,h⟩ | ⟨n,_⟩
 ·rwa[h H' s]
 ·rwa[x4 o n]
def eN.no(h:eN ok Q E c H)(o:¬ ok)(s:Same H H'):E (.ref c) Ih H':=by
 rcases h with ⟨y,_⟩ | ⟨_,h⟩
 ·rwa[x4 y o]
 ·rwa[h H' s]
def eN.of(h1:ok->∀ H',Same H H'->Q .non H')(h2:¬ ok->∀ H',Same H H'->E (.ref c) Ih H'):eN ok Q E c H:=by
 by_cases o:ok
 ·rwa[.inl ⟨o,h1 o⟩]
 ·rwa[.inr ⟨o,h2 o⟩]
end
def oj(x:g8):Prop:=(∀ c∈x.cps.toList,c<128)/\x.length<=50
def oj.big{x:g8}(h:oj x):∀ c∈x.cps.toList,c<16^8:=λc hc=>Be (h.1 c hc) (by decide)
def wL.asc{x:g8}(h:wL x):oj x:=⟨λc hc=>by have:=h.2.2 c hc; lia,by have:=h.2.1; lia⟩
def qY(i:Int):Prop:=i.natAbs.log2<200
def oI{p:Int×Int}(h1:qY p.1)(h2:qY p.2):okS (ptD p)/\lh 4 (ptD p)/\shB (ptD p)<=2000:=by
 unfold qY at h1 h2;refine⟨?_,uz (by show 2<=900; decide) (dt2 (by show _<1920; lia) (by show _<1920; lia)),?_⟩
 ·unfold ptD;rw[okS,mv,mv,mv,okS,okS];rwa[by lia,by lia,trivial]
 ·unfold ptD;rw[shB,dS,dS,dS,shB,shB];lia
def qb:Deed->Prop
 | .mark n x y=>oj n/\qY x/\qY y
 | .move n x y=>oj n/\qY x/\qY y
 | .unmark n=>oj n
 | .bank n cs=>oj n/\cs.length<=12/\∀ c∈cs,c.1.natAbs.log2<20/\c.2.natAbs.log2<20
 | .level n=>oj n
 | .sail x y=>qY x/\qY y
 | .right k x y=>qY k/\qY x/\qY y
 | .bearing m n a b c d=>qY m/\oj n/\qY a/\qY b/\qY c/\qY d
 | .range m l r=>qY m/\oj l/\oj r
 | .strike k=>qY k
def jR{m:Int}{n:g8}{a b c d:Int}(h:qb (.bearing m n a b c d)):okS (Deed.bearing m n a b c d).dt/\lh 4 (Deed.bearing m n a b c d).dt/\shB (Deed.bearing m n a b c d).dt<=2000:=by
 obtain⟨h1,h2,h3,h4,h5,h6⟩:=h;obtain⟨s1,s2,_⟩:=oI (p:=(a,b)) h3 h4;obtain⟨s4,s5,_⟩:=oI (p:=(c,d)) h5 h6;unfold qY at h1 h3 h4 h5 h6;have l7:(l5 "bearing").length=7:=rfl;erw[?_,?_,?_]
 ·unfold Deed.dt;rw[okS,mv,mv,mv,mv,mv,mv,okS,okS,okS];rwa[by decide,by lia,h2.big,s1,s4,trivial]
 ·unfold Deed.dt;erw[uz (g7 rfl) λe he=>?_];rcases i7.mp he with rfl | he
  ·rwa[YQ (by decide)]
  ·have p3:∀{p:Int×Int},p.1.natAbs.log2<200->p.2.natAbs.log2<200->lh 3 (ptD p):=λ{p} h1 h2=>uz (n:=2) (by show 2<=900; decide) (dt2 (by show _<1920; lia) (by show _<1920; lia));exact dt4 (P:=lh 3) (by show _<1920; lia) (by show _<=1921; have:=h2.2; lia) (p3 h3 h4) (p3 h5 h6) e he
 ·unfold Deed.dt ptD;simp only[shB,dS];have:=h2.2;lia
def iP{cs:List (Int×Int)}(hl:cs.length<=12)(h:∀ c∈cs,c.1.natAbs.log2<20/\c.2.natAbs.log2<20):okS (.tup (cs.map ptD))/\lh 4 (.tup (cs.map ptD))/\shB (.tup (cs.map ptD))<=2000:=by
 have k1:∀ l:List (Int×Int),(∀ c∈l,c.1.natAbs.log2<20/\c.2.natAbs.log2<20)->mv (l.map ptD)/\dS (l.map ptD)<=l.length*60:=by
  intro l
  induction l with
  | nil=>intro _; rw[CQ,mv,dS]; rwa[trivial,r9 _]
  | cons c l ih =>
   intro h;obtain⟨i1,i2⟩:=ih λc hc=>h c (.tail _ hc);obtain⟨c1,c2⟩:=h c (.head _);have e1:okS (ptD c):=by
    unfold ptD;rw[okS,mv,mv,mv,okS,okS];rwa[by lia,by lia,trivial]
   have e2:shB (ptD c)<=58:=by
    unfold ptD;simp only[shB,dS];lia
   rw[l9,mv,dS,m9];rwa[⟨e1,i1⟩,by lia]
 obtain⟨g1,g2⟩:=k1 cs h;erw[by rw[okS]; exact g1,uz (by rw[a7]; lia) λd hd=>?_,by rw[shB]; lia];obtain⟨c,hc,rfl⟩:=i4.mp hd;obtain⟨c1,c2⟩:=h c hc;exact uz (n:=2) (by show 2<=900; decide) (dt2 (by show _<1920; lia) (by show _<1920; lia))
structure jS(S:BS):Prop where
 mk ::
 good:Va S
 names:∀ e∈S.marks,wL e.1
def jS.nil:jS BS.nil:=⟨ZC,λe he=>(nomatch he)⟩
def jS.mark{S:BS}{n:g8}(h:jS S)(k:(zQ S n).isSome=Ii):wL n:=by
 obtain⟨p,e⟩:=k9.mp k;rwa[h.names _ (mL e)]
def jS.aft{S:BS}{D:Deed}(h:jS S)(ok:okD S D):jS (aft S D):=by
 exists YV h.good ok
 match D,ok with
 | .mark n x y,ok =>
  intro e he;rcases m7.mp he with z | z
  ·rwa[h.names e z]
  ·rw[d9.mp z]; rwa[ok.1]
 | .move n x y,ok =>
  intro e he;obtain⟨e',h1,rfl⟩:=i4.mp he;have:=h.names e' h1;split <;> rwa[this]
 | .unmark n,ok=>rwa[λe he=>h.names e (BF.mp he).1]
 | .bank n cs,ok=>rwa[h.names]
 | .level n,ok=>rwa[h.names]
 | .sail x y,ok=>rwa[h.names]
 | .right j x y,ok=>rwa[h.names]
 | .bearing m n a b c d,ok=>rwa[h.names]
 | .range m l r,ok=>rwa[h.names]
 | .strike j,ok=>rwa[h.names]
def oX(ax:Cl->b9)(φ:Deed->Prop):Sp:=λvs H Q E=>∃(d:b9)(v:V)(S:BS)(D:Deed),vs=[.ref d,v]/\φ D/\fi H d S/\Rep H D.dt v/\qb D/\jS S /\
 (zS S D=Ih->∀(d':b9)(H':Hp),Sam H H'->H d'=Ih->fi H' d' (aft S D)->Q (.ref d') H')/\∀ c,zS S D=Ig c->∀ H',Sam H H'->E (.ref (ax c)) Ih H'
section
variable{H:Hp}{S:BS}{kvs:List (Key×V)}
def aw{n:g8}(h:xS H kvs (mkE S.marks)):wN kvs (.inr n)=Ih↔zQ S n=none:=by
 have e:=h.isSome (k:=.inr n);rw[wX,Av] at e;cases h1:wN kvs (.inr n) <;> cases h2:zQ S n <;> simp[h1,h2] at e ⊢
def ud{n:g8}(h:xS H kvs (bkE S.banks)):wN kvs (.inr n)=Ih↔n ∉ S.banks.map (·.1):=by
 by_cases z:n∈S.banks.map (·.1)
 ·obtain⟨dv,lk⟩:=Xm (l:=S.banks) z;obtain⟨v,ev,_⟩:=h.get lk;simp[ev,z]
 ·simp[h.none (pD (ka z)),z]
def gu{k:Int}(h:xS H kvs (ntE S.notes)):wN kvs (.inl k)=Ih↔k ∉ S.notes.map (·.1):=by
 by_cases z:k∈S.notes.map (·.1)
 ·obtain⟨dv,lk⟩:=dz (l:=S.notes) z;obtain⟨v,ev,_⟩:=h.get lk;simp[ev,z]
 ·erw[λ_=>z,λ_=>h.none (pD λe he y=>z ?_)];unfold ntE at he;obtain⟨q,hq,rfl⟩:=i4.mp he;have y:(BQ q.1:Key)=BQ k:=y;injection y with y
  rwa[i4.mpr ⟨q,hq,y⟩]
def Zm{k:Int}(h:xS H kvs (rnE S.runs)):wN kvs (.inl k)=Ih↔¬ (0<=k/\k<S.runs.length):=by
 by_cases z:0<=k/\k<S.runs.length
 ·obtain⟨i,rfl⟩:=AF z.1;have hi:i<S.runs.length:=by lia
  have lk:=lE (k:=0) (d3 hi);rw[Eo] at lk;obtain⟨v,ev,_⟩:=h.get lk;exact⟨(λy=>by rw[ev] at y; cases y),λy=>x4 z y⟩
 ·erw[λ_=>z,λ_=>h.none (pD λe he y=>z ?_)];unfold rnE at he;obtain⟨⟨q1,q2⟩,hq,rfl⟩:=i4.mp he;have y:(BQ (q2:Int):Key)=BQ k:=y;injection y with y
  have:=DK hq;simp at this;lia
end
structure nN(H:Hp)(ts:List b9)(ws:List (g8×Bool)):Prop where
 mk ::
 len:ts.length=ws.length
 at_:∀(j:Nat)(t:b9)(w:g8×Bool),ts[j]?=Ig t->ws[j]?=Ig w->H t=Ig (.tup [.str w.1,.bl w.2])
def nN.nil{H:Hp} : nN H [] []:=⟨rfl,λj t w h=>by simp at h⟩
def nN.to{H H':Hp}{ts:List b9}{ws:List (g8×Bool)}(h:nN H ts ws)(s:Same H H'):nN H' ts ws:=⟨h.len,λj t w a b=>s _ _ (h.at_ j t w a b)⟩
def wD{B:n9}{Ds:List b9}{D C:b9}(h:InB B λK=>Vb K Ds=Ii)(hD:D∈Ds)(hC:C∈Ds):InB B λK=>AX K (.ref D) (.ref C)=Ig (D == C)/\nM K D:=by
 obtain⟨K,KB,h⟩:=h;rwa[K,KB,ZU h hD hC,fK h hD]
def Wq{B:n9}{Ds:List b9}{D:b9}(h:InB B λK=>Vb K Ds=Ii)(hD:D∈Ds):InB B λK=>AX K (.ref D) (.type "ValueError")=Ig Ii/\nM K D:=by
 obtain⟨K,KB,h⟩:=h;rwa[K,KB,Yu h hD,fK h hD]
def fq:Cl->g8
 | .badName => "BadName"
 | .taken => "Taken"
 | .badPlace => "BadPlace"
 | .full => "Full"
 | .noMark => "NoMark"
 | .same => "Same"
 | .needed => "Needed"
 | .badBank => "BadBank"
 | .noBank => "NoBank"
 | .badRun => "BadRun"
 | .noRun => "NoRun"
 | .noMoment => "NoMoment"
 | .badWay => "BadWay"
 | .badTurn => "BadTurn"
 | .noNote => "NoNote"
def oE:Option Cl->g8
 | none => ""
 | some c=>fq c
def gO(S:BS)(D:Deed):V:=if S.coming=(aft S D).coming then .non else .int S.coming
end Sea

namespace PySem.W
open PySem PySem.Calls PyProof.Rows
def KasT.run{α:Type}(f:Nat->Nat->Bool):GM α->α
 | .ret a=>a
 | .ask i j k=>(k (f i j)).run f
def KasT.Okay{α:Type}(n:Nat)(Q:α->Prop):GM α->Prop
 | .ret a=>Q a
 | .ask i j k=>i<n/\j<n/\i≠j/\∀ b,(k b).Okay n Q
section
variable{α β:Type}{n:Nat}{f:Nat->Nat->Bool}{cmp:Nat->Nat->(Bool->d4->Prop)->d4->Prop}{s:d4}
def KasT.Okay.bind{g:α->GM β}{Q:β->Prop} : ∀{t:GM α},t.Okay n (λa=>(g a).Okay n Q)->(t.bind g).Okay n Q
 | .ret _,h=>h
 | .ask _ _ _,⟨h1,h2,h3,h4⟩=>⟨h1,h2,h3,λb=>KasT.Okay.bind (h4 b)⟩
def KasT.Okay.end{Q:α->Prop} : ∀{t:GM α},t.Okay n Q->Q (t.run f)
 | .ret _,h=>h
 | .ask i j k,⟨_,_,_,h4⟩=>show Q ((k (f i j)).run f) from KasT.Okay.end (h4 (f i j))
def KasT.Okay.wp{Q:α->Prop}{R:α->d4->Prop}(hc:∀ i j,i<n->j<n->i≠j->∀ C:Bool->d4->Prop,C (f i j) s->cmp i j C s):∀{t:GM α},t.Okay n Q->R (t.run f) s->t.kasWp cmp R s
 | .ret _,_,h=>h
 | .ask i j k,⟨h1,h2,h3,h4⟩,h=>hc i j h1 h2 h3 _ (KasT.Okay.wp hc (h4 (f i j)) h)
def IsP(n:Nat)(p:Array Nat):Prop:=p.toList.Perm (Ai n)
variable{p:Array Nat}
def IsP.size(h:IsP n p):p.size=n:=by have:=h.length_eq; rw[Bm,Aj] at this; rwa[this]
def IsP.lt(h:IsP n p){i:Nat}(hi:i<n):p.getD i 0<n:=by
 have hs:=h.size;have:p[i]'(by lia)∈p.toList:=by simp
 rw[GN,dif_pos (by lia)];rwa[Az.mp (h.mem_iff.mp this)]
def IsP.ne(h:IsP n p){i j:Nat}(hi:i<n)(hj:j<n)(ne:i≠j):p.getD i 0≠p.getD j 0:=λz=>by
 have hs:=h.size;have nd:p.toList.Nodup:=h.nodup_iff.mpr Gh;rw[GN,dif_pos (by lia),GN,dif_pos (by lia)] at z;refine ne ((D4 (xs:=p.toList) (h₀:=by simpa using (by lia:i<p.size)) (h₁:=by simpa using (by lia:j<p.size)) nd).mp ?_);simpa using z
def IsP.of(h:IsP n p){q:Array Nat}(e:q.Perm p):IsP n q:=(Array.perm_iff_toList_perm.mp e).trans h
def IsP.rev(h:IsP n p)(i j:Nat):IsP n (kas_rev p i j):=h.of (mirror_perm _ _ _ _)
def IsP.ask(h:IsP n p){i j:Nat}(hi:i<n)(hj:j<n)(ne:i≠j){k:Bool->GM α}{Q:α->Prop}(hk:∀ b,(k b).Okay n Q):(KasT.ask (p.getD i 0) (p.getD j 0) k).Okay n Q:=⟨h.lt hi,h.lt hj,h.ne hi hj ne,hk⟩
def ai(h:IsP n p){Q:Nat->Prop} : ∀(f m:Nat),1<=m->m+f<=n->(∀ m',m<=m'->m'<=m+f->Q m')->(kas_asc p f m).Okay n Q
 | 0,m,_,_,q=>q m (d6 _) (d6 _)
 | f+1,m,h1,h2,q=>h.ask (by lia) (by lia) (by lia) λb=>by
  cases b
  ·rwa[ai h f (m+1) (by lia) (by lia) λm' a b=>q m' (by lia) (by lia)]
  ·rwa[q m (d6 _) (by lia)]
def lO{Q:Array Nat×Nat×Nat->Prop} : ∀(f:Nat)(p:Array Nat)(m r:Nat),IsP n p->1<=m->m+f<=n->(∀ p' m' r',IsP n p'->m<=m'->m'<=m+f->Q (p',m',r'))->(kas_desc f p m r).Okay n Q
 | 0,p,m,r,h,_,_,q=>q p m r h (d6 _) (d6 _)
 | f+1,p,m,r,h,h1,h2,q=>h.ask (by lia) (by lia) (by lia) λb=>by
  have q':∀ p' m' r',IsP n p'->m+1<=m'->m'<=m+1+f->Q (p',m',r'):=λp' m' r' a b c=>q p' m' r' a (by lia) (by lia);cases b
  ·exact h.ask (by lia) (by lia) (by lia) λd=>by
    cases d
    ·rwa[lO f p (m+1) _ h (by lia) (by lia) q']
    ·rwa[q p m r h (d6 _) (by lia)]
  ·show(if r>0 then _ else _:GM _).Okay n Q;split
   ·rwa[lO f _ (m+1) _ (h.rev _ _) (by lia) (by lia) q']
   ·rwa[lO f p (m+1) _ h (by lia) (by lia) q']
def eM(h:IsP n p){Q:Nat×Array Nat->Prop}{m:Nat}(h1:1<=m)(h2:m<=n)(q:∀ m' p',IsP n p'->Q (m',p')):(kas_tail3 m n p).Okay n Q :=
 .bind (ai (h.rev _ _) _ _ h1 (by lia) λm' _ _=>q m' _ (h.rev _ _))
def bJ(h:IsP n p){Q:Nat×Array Nat->Prop}{m:Nat}(h1:1<=m)(h2:m+1<=n)(q:∀ m' p',IsP n p'->Q (m',p')):(kas_descPart m n p).Okay n Q:=by
 erw[.bind (lO _ _ _ _ h (by lia) (by lia) λp' m' r' a b c=>?_)];show(if r'>0 then _ else _:GM _).Okay n Q;split
 ·rwa[eM (m:=m') (a.rev _ _) (by lia) (by lia) q]
 ·rwa[eM (m:=m') a (by lia) (by lia) q]
def YS(h:IsP n p)(hn:2<=n){Q:Nat×Array Nat->Prop}(q:∀ m' p',IsP n p'->Q (m',p')):(kas_count n p).Okay n Q:=by
 erw[.bind (ai h _ _ (d6 _) (by lia) λm' a b=>?_)];show(if (m' == n)=Ii then _ else if m'>1 then _ else _:GM _).Okay n Q;split
 ·rwa[q _ _ h]
 ·rename_i z
  have z:m'≠n:=λe=>z (by simp[e]);split
  ·exact h.ask (by lia) (by lia) (by lia) λb=>by
    cases b
    ·rwa[bJ (h.rev _ _) (by lia) (by lia) q]
    ·rwa[q _ _ h]
  ·rwa[bJ h (by lia) (by lia) q]
def lN(h:IsP n p){k:Nat}(hk:k<n){Q:Nat->Prop}(q:∀ l,Q l):∀(f l r:Nat),r<=k->(kas_place p k f l r).Okay n Q
 | 0,l,r,_=>q l
 | f+1,l,r,hr=>by
  show(if l >= r then _ else _:GM _).Okay n Q;split
  ·rwa[q l]
  ·rename_i z
   exact h.ask hk (by lia) (by lia) λb=>by
    cases b
    ·rwa[lN h hk q f _ _ hr]
    ·rwa[lN h hk q f _ _ (by lia)]
def XR{Q:Array Nat->Prop}(q:∀ p,IsP n p->Q p):∀(f:Nat)(p:Array Nat)(k:Nat),IsP n p->k+f<=n->(kas_bin f p k).Okay n Q
 | 0,p,_,h,_=>q p h
 | f+1,p,k,h,hk=>.bind (lN h (by lia) (λl=>XR q f _ _ (h.of (bubble_perm _ _ _)) (by lia)) _ _ _ (d6 _))
def cR(hn:2<=n):(kas_sort n).Okay n (IsP n):=by
 refine .bind (YS (show IsP n (f7 (Ai n)) from .refl _) hn λm' p' h=>?_);show(if m'<n then _ else _:GM _).Okay n (IsP n);split
 ·rwa[XR (λp h=>h) _ _ _ h (by lia)]
 ·rwa[h]
def cM(n:Nat)(f:Nat->Nat->Bool):List Nat:=if n<2 then Ai n else((kas_sort n).run f).toList
def oN(n:Nat)(f:Nat->Nat->Bool):(cM n f).Perm (Ai n):=by
 unfold cM;split
 ·rwa[.refl _]
 ·exact(cR (by lia)).end
end
end PySem.W
namespace L2
open PySem PySem.Spec PyProof.Rows PySem.W
section
variable{prog:j9}{w:n5}{A:Ab}{E:c7->d4->Prop}{s:d4}
def rh{f:Nat->Nat->Bool}{a:b9}{vs:List c7}{n:Nat}{P:PySem.Fin->d4->Prop}(ho:s.heap.get? a=Ig (seqObj "list" vs.toArray n))(h64:vs.length<64)
  (hk:∀ h':n9,(∀ b o,b≠a->s.heap.get? b=Ig o->h'.get? b=Ig o)->2<=vs.length->∃ κ:FU,(∀ Q:FU->d4->Prop,Q κ { s with heap:=h' }->wpAny (model prog w) A (keyKind' vs.toArray) Q E { s with heap:=h' }) /\
   ∀ i j,i<vs.length->j<vs.length->i≠j->∀ C:Bool->d4->Prop,C (f i j) { s with heap:=h' }->kas_ask prog w A κ vs i j C { s with heap:=h' })
  (h:∀(h':n9)(c:Nat),(∀ b o,b≠a->s.heap.get? b=Ig o->h'.get? b=Ig o)->h'.get? a=Ig (seqObj "list" ((cM vs.length f).map λi=>vs.getD i p8).toArray c)->P (.done (.ret .none)) { s with heap:=h' }) :
  wpAny (model prog w) A (Cj.«list.sort» ⟨[.ref a],[]⟩) P E s:=by
 have ha:a<s.heap.objs.size:=f9 ho;obtain⟨e1,ho1⟩:∃ e1,(s.heap.update a (Ak λ_=>(#[]:Array c7))).get? a=Ig (seqObj "list" #[] e1):=⟨_,get?_update_seq ho λ_=>#[]⟩;rw[list_sort_plain];refine ac (listItems_at ho rfl ?_);refine ac (listUpdate_at ho rfl ?_ (by rw[i0,sizeLine_eq]; lia) (r9 _));refine ac (seqEpoch_at ho1 rfl ?_);refine ac (wpAny_newTuple ?_ (by show vs.length<=_; rw[sizeLine_eq]; lia));refine ac (Fi ?_ (r9 _));refine Aw ?_;have ho6:(((s.heap.update a (Ak λ_=>#[])).push (seqObj "tuple" vs.toArray 0)).push (seqObj "list" #[] 0)).get? a=Ig (seqObj "list" #[] e1):=c9 _ (c9 _ ho1);have kp:∀ b o,b≠a->s.heap.get? b=Ig o->(((s.heap.update a (Ak λ_=>#[])).push (seqObj "tuple" vs.toArray 0)).push (seqObj "list" #[] 0)).get? b=Ig o:=λb o hb e =>
  c9 _ (c9 _ ((o7 _ _ (AG hb)).trans e))
 obtain⟨out,eo⟩:∃ out,out=(cM vs.length f).map λi=>vs.getD i p8:=⟨_,rfl⟩;have lo:out.length=vs.length:=by rw[eo,a7,(oN vs.length f).length_eq,Bm]
 rw[<- eo] at h;have fin:∀ c,(((((s.heap.update a (Ak λ_=>#[])).push (seqObj "tuple" vs.toArray 0)).push (seqObj "list" #[] 0)).update a (Ak λ_=>out.toArray))).get? a=Ig (seqObj "list" out.toArray c)->P (.done (.ret .none)) { s with heap:=((((s.heap.update a (Ak λ_=>#[])).push (seqObj "tuple" vs.toArray 0)).push (seqObj "list" #[] 0)).update a (Ak λ_=>out.toArray)) }:=λc e =>
  h _ c (λb o hb q=>(o7 _ _ (AG hb)).trans (kp b o hb q)) e
 obtain⟨c2,hc2⟩:∃ c2,(((((s.heap.update a (Ak λ_=>#[])).push (seqObj "tuple" vs.toArray 0)).push (seqObj "list" #[] 0)).update a (Ak λ_=>out.toArray))).get? a=Ig (seqObj "list" out.toArray c2):=⟨_,get?_update_seq ho6 λ_=>out.toArray⟩;have done:=fin c2 hc2;show wpAny (model prog w) A _ P E { s with heap:=((s.heap.update a (Ak λ_=>#[])).push (seqObj "tuple" vs.toArray 0)).push (seqObj "list" #[] 0) };dsimp only;have hsz:vs.toArray.size=vs.length:=by simp
 by_cases h2:vs.toArray.size<2
 ·rw[y9 h2,y9 h2];refine ac (d7 ?_);rw[StateT.run_pure];refine ac (d7 ?_);dsimp only;have ev:out=vs:=by
   rw[eo];unfold cM;rw[y9 (by lia)];erw[Eb (by simp) λi h1 h3=>?_];simp at h1;simp[h1]
  have em:(vs.toArray.zip vs.toArray).map (·.2)=out.toArray:=by
   rw[ev];apply Array.toList_inj.mp;simp;rwa[Gi (d6 _)]
  erw[ac (seqEpoch_at ho6 rfl ?_)];refine ac (listUpdate_at ho6 rfl ?_ (hsz2:=by rw[Array.size_map]; show(pairsOf vs).size<=_; rw[pairsOf_size,sizeLine_eq]; lia));simp only[bne_self_eq_false,AU,if_false];erw[d7 ?_];show P _ { s with heap:=Heap.update _ a (Ak λ_=>(vs.toArray.zip vs.toArray).map (·.2)) };rw[em];rwa[done]
 ·rw[y7 h2,y7 h2];have h2':2<=vs.length:=by lia
  obtain⟨κ,hκ,hlt⟩:=hk _ kp h2';refine ac (hκ _ ?_);refine ac (A9 (kat_run (s:={ s with heap:=((s.heap.update a (Ak λ_=>#[])).push (seqObj "tuple" vs.toArray 0)).push (seqObj "list" #[] 0) }) (κ:=κ) (ks:=vs) (vs:=vs)
   (G:=λp s'=>p=(kas_sort vs.length).run f/\s'={ s with heap:=((s.heap.update a (Ak λ_=>#[])).push (seqObj "tuple" vs.toArray 0)).push (seqObj "list" #[] 0) })
   (Q:=λst' s'=>(arrOf st').map (·.2)=out.toArray/\failedOf st'=Ih/\s'={ s with heap:=((s.heap.update a (Ak λ_=>#[])).push (seqObj "tuple" vs.toArray 0)).push (seqObj "list" #[] 0) })
   rfl h2' h64 (λp' st' s' a1 a2 a3 ⟨a4,a5⟩=>⟨?_,a3,a5⟩) ((cR h2').wp hlt ⟨rfl,rfl⟩)) ?_ λ_ _ e=>e)
  ·rw[kat_snds rfl a2,a4,eo];unfold cM;rw[y7 (by lia)]
  rintro⟨⟨⟩,st'⟩ s' ⟨hp,hf,rfl⟩;dsimp only;erw[ac (seqEpoch_at ho6 rfl ?_)];erw[ac (listUpdate_at ho6 rfl ?_ (hsz2:=by rw[hp,i0,lo,sizeLine_eq]; lia))];rw[hf,hp];simp only[bne_self_eq_false,AU,if_false];rwa[d7 done]
end
def ltK:Key->Key->Bool
 | .inl a,.inl b=>decide (a<b)
 | .inr a,.inr b=>decide (a.cps.toList<b.cps.toList)
 | _,_=>Ij
def tR(ks:List Key):List Nat:=cM ks.length λi j=>ltK (ks.getD i (.inl 0)) (ks.getD j (.inl 0))
def vT{α:Type}(o:List Nat)(l:List α):List α:=o.filterMap λi=>l[i]?
def vg{α β:Type}(o:List Nat)(g:α->β)(l:List α):vT o (l.map g)=(vT o l).map g:=by
 unfold vT;rw[List.map_filterMap]
 congr 1
 funext i
 rw[d8]
def yr{α:Type}{d:α}{l:List α} : ∀{o:List Nat},(∀ i∈o,i<l.length)->o.map (λi=>l.getD i d)=vT o l
 | [],_=>rfl
 | i::o,h=>by
  have hi:=h i (.head _);have e:l[i]?=Ig l[i]:=d3 hi;unfold vT;rw[l9,AB e,yr λj hj=>h j (.tail _ hj),w6,e];rfl
def uy{α:Type}{l:List α}{o:List Nat}(h:∀ i∈o,i<l.length):(vT o l).length=o.length:=by
 cases l with
 | nil=>cases o with
  | nil=>rfl
  | cons i o=>rwa[x4 (h i (.head _)) (Di _)]
 | cons x l=>rw[<- yr (d:=x) h,a7]
def yf{ks:List Key} : ∀ i∈tR ks,i<ks.length:=λi hi=>Az.mp ((oN _ _).mem_iff.mp hi)
def yx{ks:List Key} : (tR ks).length=ks.length:=by unfold tR; rw[(oN _ _).length_eq,Bm]
def oq{α:Type}{l:List α}{o:List Nat}{x:α}(h:x∈vT o l):x∈l:=by
 obtain⟨i,_,e⟩:=CG.mp h;rwa[i8 e]
def VG(ks:List Key):Prop:=(∃ ns:List Int,ks=ns.map .inl)\/∃ ns:List g8,ks=ns.map .inr
def Tg(h:n9)(v:c7)(k:Key):Prop:=∃(a:b9)(o:AL)(n:Nat)(p:c7)(r:List c7),v=.ref a/\h.get? a=Ig o/\o.cls=.type "tuple" /\ o.data=.seq (p::r).toArray n/\xE (kV k) p
section
open PySem.W
variable{prog:j9}{w:n5}{A:Ab}{E:c7->d4->Prop}{s:d4}{vs:List c7}{ks:List Key}
def kR{h:n9} : ∀{vs:List c7}{ks:List Key},vs.length=ks.length->(∀(j:Nat)(v:c7)(k:Key),vs[j]?=Ig v->ks[j]?=Ig k->Tg h v k)->∃ fs,KatTups h vs fs/\fs.length=ks.length/\∀ v∈fs,∃ k∈ks,xE (kV k) v
 | [],[],_,_=>⟨[],.nil,rfl,λv hv=>nomatch hv⟩
 | [],_::_,hl,_=>by simp at hl
 | _::_,[],hl,_=>by simp at hl
 | v::vs,k::ks,hl,hh=>by
  obtain⟨a,o,n,p,r,rfl,e,c,d,rp⟩:=hh 0 v k rfl rfl;obtain⟨fs,t,l,f⟩:=kR (vs:=vs) (ks:=ks) (by simpa using hl) λj b m h1 h2=>hh (j+1) b m (by simpa using h1) (by simpa using h2);erw[p::fs,.cons e c d rfl t,by simp[l],λv hv=>?_];rcases i7.mp hv with rfl | hv
  ·rwa[k,.head _,rp]
  ·obtain⟨k',hk,h⟩:=f v hv;rwa[k',.tail _ hk,h]
def jP(hl:vs.length=ks.length)(hT:∀ (j:Nat) (v:c7) (k:Key),vs[j]?=Ig v->ks[j]?=Ig k->Tg s.heap v k)(one:VG ks)(nd:ks.Nodup)(h2:2<=vs.length) :
  (∀ Q:FU->d4->Prop,Q (tuples' Ii) s->wpAny (model prog w) A (keyKind' vs.toArray) Q E s)/\∀ i j,i<vs.length->j<vs.length->i≠j->∀ C:Bool->d4->Prop,C (ltK (ks.getD i (.inl 0)) (ks.getD j (.inl 0))) s->kas_ask prog w A (tuples' Ii) vs i j C s:=by
 constructor
 ·intro Q hq;obtain⟨fs,t,l,f⟩:=kR hl hT;rcases one with ⟨ns,rfl⟩ | ⟨ns,rfl⟩
  ·erw[kat_kind (T:=.type "int") t (by lia) (λv hv=>?_) (by decide) hq];obtain⟨k,hk,r⟩:=f v hv;obtain⟨n,_,rfl⟩:=i4.mp hk;obtain⟨tk,rfl⟩:=(show ∃ tk,v=BE n tk from r);rwa[.now]
  ·erw[kat_kind (T:=.type "str") t (by lia) (λv hv=>?_) (by decide) hq];obtain⟨k,hk,r⟩:=f v hv;obtain⟨n,_,rfl⟩:=i4.mp hk;obtain⟨tk,rfl⟩:=(show ∃ tk,v=AN n tk from r);rwa[.now]
 ·intro i j hi hj ne C hC;have vi:vs[i]?=Ig vs[i]:=d3 hi;have vj:vs[j]?=Ig vs[j]:=d3 hj;have ki:ks[i]?=Ig (ks[i]'(by lia)):=d3 (by lia);have kj:ks[j]?=Ig (ks[j]'(by lia)):=d3 (by lia);have nk:ks[i]'(by lia)≠ks[j]'(by lia):=λz=>ne ((D4 nd).mp z);unfold kas_ask;rw[w6,w6,vi,vj];rw[w6,w6,ki,kj] at hC;obtain⟨a,o,n,p,r,e1,h1,_,d1,r1⟩:=hT i _ _ vi ki;obtain⟨a',o',n',p',r',e2,h2',_,d2,r2⟩:=hT j _ _ vj kj;show wpAny (model prog w) A (keyLt' (tuples' Ii) vs[i] vs[j]) C _ s;rw[e1,e2]
  replace hC:C (ltK (ks[i]'(by lia)) (ks[j]'(by lia))) s:=hC
  generalize ks[i]'(by lia)=k1 at *;generalize ks[j]'(by lia)=k2 at *;have m1:=i8 ki;have m2:=i8 kj;rcases one with ⟨ns,rfl⟩ | ⟨ns,rfl⟩
  ·obtain⟨x,_,rfl⟩:=i4.mp m1;obtain⟨y,_,rfl⟩:=i4.mp m2;obtain⟨tk,rfl⟩:=(show ∃ tk,p=BE x tk from r1);obtain⟨tk',rfl⟩:=(show ∃ tk,p'=BE y tk from r2);erw[kat_lt h1 d1 h2' d2 (kat_cons (FZ ?_))];rw[show(x == y)=Ij from x5.mpr λz=>nk (by rw[z])];rwa[kat_no (oneLt_int hC)]
  ·obtain⟨x,_,rfl⟩:=i4.mp m1;obtain⟨y,_,rfl⟩:=i4.mp m2;obtain⟨tk,rfl⟩:=(show ∃ tk,p=AN x tk from r1);obtain⟨tk',rfl⟩:=(show ∃ tk,p'=AN y tk from r2);erw[kat_lt h1 d1 h2' d2 (kat_cons (F0 ?_))];rw[show decide (x=y)=Ij from x3 λz=>nk (by rw[z])];rwa[kat_no (oneLt_str hC)]
end
section
variable{prog:j9}{w:n5}{A:Ab}{E:c7->d4->Prop}{s:d4}
def AskF(prog:j9)(w:n5)(s:d4)(vs:List c7)(f:Nat->Nat->Bool):Prop :=
 ∃ κ:FU,∀(A:Ab)(E:c7->d4->Prop),(∀ Q:FU->d4->Prop,Q κ s->wpAny (model prog w) A (keyKind' vs.toArray) Q E s)/\∀ i j,i<vs.length->j<vs.length->i≠j->∀ C:Bool->d4->Prop,C (f i j) s->kas_ask prog w A κ vs i j C s
def jb{f:Nat->Nat->Bool}{l:b9}{vs:List c7}{Q:c7->d4->Prop}(hl:s.heap.IsList l vs.toArray)(h64:vs.length<64)
  (hk:∀ h':n9,(∀ b o,s.heap.get? b=Ig o->h'.get? b=Ig o)->2<=vs.length->AskF prog w { s with heap:=h' } vs f)
  (h:∀(h':n9)(c:Nat),(∀ b o,s.heap.get? b=Ig o->h'.get? b=Ig o)->h'.get? (s.heap.objs.size+1)=Ig (seqObj "list" ((cM vs.length f).map λi=>vs.getD i p8).toArray c)->Q (.ref (s.heap.objs.size+1)) { s with heap:=h' }) :
  wpAny (model prog w) A (call (.builtin "sorted") [.ref l]) Q E s:=by
 refine DM kind_sorted plain_sorted entry_sorted (args_sorted1 _) ?_;unfold Cj.«sorted»;refine ac (m:=checkCount "sorted" 1 1 _) (d7 ?_);refine ac (collect_list hl ?_ (by rw[sizeLine_eq]; lia));refine ac (Fi ?_ (by rw[sizeLine_eq]; lia));have hsz:((s.heap.push (seqObj "list" #[] 0)).update s.heap.objs.size (Ak (· ++ vs.toArray))).objs.size=s.heap.objs.size+1:=by
  rw[Heap.size_update,size_push']
 have hoL:(((s.heap.push (seqObj "list" #[] 0)).update s.heap.objs.size (Ak (· ++ vs.toArray))).push (seqObj "list" vs.toArray 0)).get? (s.heap.objs.size+1)=Ig (seqObj "list" vs.toArray 0):=by
  rw[<- hsz]; rwa[e7 _ rfl]
 have keep:∀ b o,s.heap.get? b=Ig o->(((s.heap.push (seqObj "list" #[] 0)).update s.heap.objs.size (Ak (· ++ vs.toArray))).push (seqObj "list" vs.toArray 0)).get? b=Ig o:=λb o q=>by
  have hlt:b<s.heap.objs.size:=f9 q;rw[FV _ _ _ (by rw[hsz]; rwa[l6 (FW hlt)]),Heap.get?_update_ne _ _ _ _ (l6 hlt),FV _ _ _ (l6 hlt)];rwa[q]
 have kp:∀ h':n9,(∀ b o,b≠s.heap.objs.size+1->(((s.heap.push (seqObj "list" #[] 0)).update s.heap.objs.size (Ak (· ++ vs.toArray))).push (seqObj "list" vs.toArray 0)).get? b=Ig o->h'.get? b=Ig o)->∀ b o,s.heap.get? b=Ig o->h'.get? b=Ig o:=λh' k b o e=>k b o (l6 (FW (f9 e))) (keep b o e);show wpAny _ _ _ _ _ { s with heap:=((s.heap.push (seqObj "list" #[] 0)).update s.heap.objs.size (Ak (· ++ vs.toArray))).push (seqObj "list" vs.toArray 0) };rw[hsz];erw[ac (Aw (Ar slot_list_sort ⟨_,hoL,rfl⟩ entry_list_sort ?body (args_list_sort _)))]
 case body =>
  refine rh (f:=f) (s:={ s with heap:=((s.heap.push (seqObj "list" #[] 0)).update s.heap.objs.size (Ak (· ++ vs.toArray))).push (seqObj "list" vs.toArray 0) }) hoL h64 (λh2 k2 two=>?_) λh2 c k2 e2=>⟨_,rfl,d7 ⟨_,rfl,h h2 c (kp h2 k2) e2⟩⟩;obtain⟨κ,hκ⟩:=hk h2 (kp h2 k2) two;rwa[κ,hκ _ _]
end
def eQ:∀{xs:List V}{us:List c7}{j:Nat}{v:V},yP xs us->xs[j]?=Ig v->∃ u,us[j]?=Ig u/\xE v u
 | _,_,_,_,.nil,e=>by simp at e
 | _,_,0,_,.cons r _,e=>by simp at e; subst e; rwa[_,U,r]
 | _,_,j+1,_,.cons _ r,e=>by
  obtain⟨u,h1,h2⟩:=eQ (j:=j) r (by simpa using e);exact⟨u,by simpa using h1,h2⟩
section
variable{X:Cx}
def zh:uU X (.builtin "sorted") (λxs H Q=>∃(l:b9)(ts:List (b9×Key×List V)),xs=[.ref l]/\SqL X.K H l ((ts.map (·.1)).map V.ref)/\(∀ t∈ts,H t.1=Ig (.tup (kV t.2.1::t.2.2)))/\ts.length<64/\VG (ts.map (·.2.1))/\(ts.map (·.2.1)).Nodup /\
  ∀ p:b9,H p=Ih->Q (.ref p) (upd H p (.lst ((vT (tR (ts.map (·.2.1))) (ts.map (·.1))).map V.ref)))):=by
 intro Ik s σ H xs us Q I r h;obtain⟨l,ts,rfl,hq,hts,h64,one,nd,q⟩:=h;obtain⟨u,rfl,ru⟩:=yP.one r;cases ru;obtain⟨its,rv,pl,hz⟩:=I.list hq;have ei:=gh rv;subst ei;have ll:((ts.map (·.1)).map j6).length=(ts.map (·.2.1)).length:=by simp
 have hT:∀ h':n9,(∀ b o,s.heap.get? b=Ig o->h'.get? b=Ig o)->∀(j:Nat)(v:c7)(k:Key),((ts.map (·.1)).map j6)[j]?=Ig v->(ts.map (·.2.1))[j]?=Ig k->Tg h' v k:=λh' keep j v k e1 e2=>by
  rw[t5,d8,j7] at e1;obtain⟨t,et,rfl⟩:=e1;rw[d8,et] at e2;cases e2;obtain⟨its,r1,⟨o,e,c,n,d⟩,_⟩:=I.tuple (SqT.of (hts t (i8 et)));cases r1 with
  | cons r1 r2=>rwa[t.1,o,n,_,_,U,keep _ _ e,c,d,r1]
 refine jb (f:=λi j=>ltK ((ts.map (·.2.1)).getD i (.inl 0)) ((ts.map (·.2.1)).getD j (.inl 0))) pl.isList (by simpa using h64) (λh' keep two=>⟨tuples' Ii,λA E=>jP ll (hT h' keep) one nd two⟩) λh' c keep e2=>?_;rw[ll,show cM (ts.map (·.2.1)).length (λi j=>ltK ((ts.map (·.2.1)).getD i (.inl 0)) ((ts.map (·.2.1)).getD j (.inl 0)))=tR (ts.map (·.2.1)) from rfl,yr (λi hi=>by rw[ll]; rwa[yf i hi]),vg] at e2;have I2:Inv X Ik σ H { s with heap:=h' }:=I.kept (t':=s.toks) keep;have fr:H (s.heap.objs.size+1)=none:=I.hok.fresh (BV _);erw[.ref (s.heap.objs.size+1),_,I2.more (o:=.lst ((vT (tR (ts.map (·.2.1))) (ts.map (·.1))).map V.ref)) (I.fpOk (H':=H) (BV _) fr) ⟨?_,_,c,wz _,e2⟩,U,q _ fr];rw[a7,uy (λi hi=>by have:=yf i hi; simpa using this),yx,a7,sizeLine_eq];lia
def jE:uU X (.builtin "sorted") (λxs H Q=>∃(l:b9)(ns:List g8),xs=[.ref l]/\SqL X.K H l (ns.map V.str)/\ns.length<64 /\
  ∀ p:b9,H p=Ih->Q (.ref p) (upd H p (.lst ((vT (tR (ns.map .inr)) ns).map V.str)))):=by
 intro Ik s σ H xs us Q I r h;obtain⟨l,ns,rfl,hq,h64,q⟩:=h;obtain⟨u,rfl,ru⟩:=yP.one r;cases ru;obtain⟨its,rv,pl,hz⟩:=I.list hq;have hn:its.length=ns.length:=by rw[<- rv.length,a7]
 have el:∀ j,j<ns.length->∃ t,its[j]?=Ig (AN (ns.getD j "") t):=λj hj=>by
  obtain⟨x,e1,e2⟩:=eQ rv (j:=j) (v:=V.str (ns.getD j "")) (by rw[d8,w6,d3 hj]; rfl);obtain⟨t,rfl⟩:=(show ∃ t,x=AN _ t from e2);rwa[t,e1]
 erw[jb (f:=λi j=>ltK ((ns.map (.inr:g8->Key)).getD i (.inl 0)) ((ns.map (.inr:g8->Key)).getD j (.inl 0))) pl.isList (by lia) (λh' keep two=>⟨oneType',λA E=>⟨λQ' hq'=>?_,λi j hi hj ne C hC=>?_⟩⟩) λh' c keep e2=>?_]
 ·erw[kas_kind (T:=.type "str") two (λv hv=>?_) (by decide) (by decide) hq'];obtain⟨i,hi⟩:=EN.mp hv;obtain⟨t,e⟩:=el i (by rw[<- hn]; exact(g9.mp hi).1);rw[hi] at e;cases e;rwa[.now]
 ·obtain⟨t1,e1⟩:=el i (by lia);obtain⟨t2,e2⟩:=el j (by lia);unfold kas_ask;rw[w6,w6,e1,e2];refine kas_lt_str ?_;have g:∀ k,k<ns.length->(ns.map (.inr:g8->Key)).getD k (.inl 0)=.inr (ns.getD k ""):=λk hk=>by
   rw[w6,d8,w6,d3 hk]; rfl
  have hC:C (ltK ((ns.map (.inr:g8->Key)).getD i (.inl 0)) ((ns.map (.inr:g8->Key)).getD j (.inl 0))) _:=hC;rw[g i (by lia),g j (by lia)] at hC;rwa[hC]
 ·have lm:∀ i∈tR (ns.map (.inr:g8->Key)),i<ns.length:=λi hi=>by have:=yf i hi; (rw[a7] at this;assumption)
  have ec:((cM its.length λi j=>ltK ((ns.map (.inr:g8->Key)).getD i (.inl 0)) ((ns.map (.inr:g8->Key)).getD j (.inl 0))).map λi=>its.getD i p8)=vT (tR (ns.map .inr)) its:=by
   rw[show cM its.length (λi j=>ltK ((ns.map (.inr:g8->Key)).getD i (.inl 0)) ((ns.map (.inr:g8->Key)).getD j (.inl 0)))=tR (ns.map (.inr:g8->Key)) from by unfold tR; rw[a7,hn],yr λi hi=>by rw[hn]; rwa[lm i hi]]
  rw[ec] at e2;have I2:Inv X Ik σ H { s with heap:=h' }:=I.kept (t':=s.toks) keep;have fr:H (s.heap.objs.size+1)=none:=I.hok.fresh (BV _);erw[.ref (s.heap.objs.size+1),_,I2.more (o:=.lst ((vT (tR (ns.map .inr)) ns).map V.str)) (I.fpOk (H':=H) (BV _) fr) ⟨?_,_,c,?_,e2⟩,U,q _ fr]
  ·rw[a7,uy lm,yx,a7,sizeLine_eq];lia
  ·rw[<- vg];rwa[oH rv _]
end
def fR{P:j9}{w:n5}{kvs:List (Key×V)}{vs:List (Key×c7)}{lo:b9}{h':n9}{as:List b9}(rel:KV kvs vs)(G:KdxG (yK P w) vs lo h' as):∀(j:Nat)(a:b9)(e:Key×V),as[j]?=Ig a->kvs[j]?=Ig e->∃ key x,xE (kV e.1) key/\xE e.2 x/\h'.get? a=Ig { cls:=.type "tuple",data:=.seq #[key,x] }:=λj a e ha he=>by
 obtain⟨key,k,x,g1,g2,g3⟩:=G.pairs j a ha;obtain⟨u,hu,ru⟩:=KV.at (vs:=vs) (i:=j) (k:=e.1) (v:=e.2) rel he;rw[hu] at g1;cases g1;have g2':gP e.1 key=true:=g2;erw[key,_,?_,ru,g3];rcases yQ g2' with ⟨i,t,e1,e2⟩ | ⟨y,t,e1,e2⟩ <;> rw[e1,e2] <;> rwa[t,U]
section
variable{X:Cx}
def qz(hc:X.calm=Ii):uU X (.builtin "sorted") (λxs H Q=>∃(v d:b9)(kvs:List (Key×V)),xs=[.ref v]/\H v=Ig (.ext (xt v d))/\Rd H d (.dK kvs)/\kvs.length<64/\VG (kvs.map (·.1))/\(kvs.map (·.1)).Nodup /\
  ∀(p:b9)(as:List b9)(H2:Hp),Same H H2->H p=Ih->as.length=kvs.length->H2 p=Ig (.lst ((vT (tR (kvs.map (·.1))) as).map V.ref))->(∀(j:Nat)(a:b9)(e:Key×V),as[j]?=Ig a->kvs[j]?=Ig e->H a=Ih/\H2 a=Ig (.tup [kV e.1,e.2]))->Q (.ref p) H2):=by
 intro Ik s σ H xs us Q I r h;obtain⟨v,d,kvs,rfl,hv,hd,h64,one,nd,q⟩:=h;obtain⟨u,rfl,ru⟩:=yP.one r;cases ru;obtain⟨hz,ns,vs,rel,da⟩:=hd.ok I.hok;obtain⟨o,es,ep,e,c,dt,hk,hp,hn⟩:=da;have hl:vs.length=kvs.length:=rel.length.symm;have dat:s.heap.DictAt (yK X.prog X.w) d vs ep:=⟨o,es,e,c,dt,hk,hp,hn⟩;have hview:s.heap.IsItemsView v d:=(show xI X.prog X.w H s.heap v (.ext (xt v d)) from I.hok v _ hv).1;have oO:kvs.length<=sizeLine:=by rw[sizeLine_eq]; lia
 have hh:X.A.in1.handled=none:=I.ok.hd hc;erw[DM kind_sorted plain_sorted entry_sorted (args_sorted1 _) ?_];unfold Cj.«sorted»;erw[ac (m:=checkCount "sorted" 1 1 _) (d7 ?_)];erw[ac (kdx_collect (knd:=yK X.prog X.w) (kvs:=vs) (ep:=ep) hh hview dat (by rw[hl]; rwa[oO]) λh' tk as keep la G=>?_)];erw[ac (Fi ?_ (by rw[a7,la,hl]; rwa[oO]))];have ln:as.length=kvs.length:=la.trans hl;have at_:=fR rel G;have hoL:(h'.push (seqObj "list" (as.map j6).toArray 0)).get? h'.objs.size=Ig (seqObj "list" (as.map j6).toArray 0):=e7 _ rfl;have ll:(as.map j6).length=(kvs.map (·.1)).length:=by rw[a7,a7,ln]
 have lp:∀ i∈tR (kvs.map (·.1)),i<as.length:=λi hi=>by have:=yf i hi; rw[a7] at this; lia
 show wpAny _ _ _ _ _ { s with heap:=h'.push (seqObj "list" (as.map j6).toArray 0),toks:=tk };erw[ac (Aw (Ar slot_list_sort ⟨_,hoL,rfl⟩ entry_list_sort ?body (args_list_sort _)))]
 case body =>
  refine rh (f:=λi j=>ltK ((kvs.map (·.1)).getD i (.inl 0)) ((kvs.map (·.1)).getD j (.inl 0))) (s:={ s with heap:=h'.push (seqObj "list" (as.map j6).toArray 0),toks:=tk }) hoL (by rw[a7,ln]; rwa[h64]) (λh2 k2 two=>⟨tuples' Ii,jP ll (λj v k e1 e2=>?_) one nd two⟩) λh2 c k2 e2=>⟨_,rfl,d7 ⟨_,rfl,?_⟩⟩
  ·rw[d8,j7] at e1 e2;obtain⟨a,ea,rfl⟩:=e1;obtain⟨e,ee,rfl⟩:=e2;obtain⟨key,x,g1,_,g3⟩:=at_ j a e ea ee;rwa[a,_,_,key,[x],U,k2 a _ (l6 (f9 g3)) (c9 _ g3),U,U,g1]
  ·rw[ll,show cM (kvs.map (·.1)).length (λi j=>ltK ((kvs.map (·.1)).getD i (.inl 0)) ((kvs.map (·.1)).getD j (.inl 0)))=tR (kvs.map (·.1)) from rfl,yr (λi hi=>by rw[a7]; exact lp i hi),vg] at e2;have kp:∀ b o,s.heap.get? b=Ig o->h2.get? b=Ig o:=λb o e=>k2 b o (l6 (f9 (keep b o e))) (c9 _ (keep b o e));have I2:Inv X Ik σ H { s with heap:=h2,toks:=tk }:=I.kept (t':=tk) kp;have ab:∀ a∈as,s.heap.objs.size<=a:=λa ha=>BH (G.above a ha);have I1:Inv X Ik σ H { s with heap:=h',toks:=tk }:=I.kept (t':=tk) keep;have fp:=I1.fpOk (H':=H) (d6 _) (I1.hok.fresh (d6 _));have I3:Inv X Ik σ (upd H h'.objs.size (.lst ((vT (tR (kvs.map (·.1))) as).map V.ref))) { s with heap:=h2,toks:=tk }:=I2.more fp ⟨by rw[a7,uy lp,yx,a7]; exact oO,_,c,wz _,e2⟩;obtain⟨H3,I4,s3,g3,n3⟩:=I3.tuples (lo:=0) (kvs.map λe=>[kV e.1,e.2]) G.rise (λa ha=>by
    refine I.fpOk (ab a ha) ?_;rw[zG (l6 (G.there ha))];exact I.hok.fresh (ab a ha)) (by rw[a7,ln]) λj a xs ha hx H'=>by
     rw[d8,j7] at hx;obtain⟨e,he,rfl⟩:=hx;obtain⟨key,x,g1,g2,g3⟩:=at_ j a e ha he;exact⟨by show 2<=sizeLine; rw[sizeLine_eq]; decide,[key,x],.cons g1 (.cons g2 .nil),_,k2 a _ (l6 (f9 g3)) (c9 _ g3),rfl,_,rfl⟩
   rwa[.ref h'.objs.size,H3,I4,U,q h'.objs.size as H3 ((zD fp.1 _).trans s3) fp.1 ln (s3 _ _ zA) λj a e ha he=>⟨I.hok.fresh (ab a (i8 ha)),g3 j a _ ha (by rw[d8,he]; rfl)⟩]
def mV(hc:X.calm=Ii):uU X (.type "list") (λxs H Q=>∃(v d:b9)(kvs:List (Key×V)),xs=[.ref v]/\H v=Ig (.ext (xt v d))/\Rd H d (.dK kvs)/\kvs.length<=1000 /\
  ∀(p:b9)(as:List b9)(H2:Hp),Same H H2->H p=Ih->as.length=kvs.length->H2 p=Ig (.lst (as.map V.ref))->(∀(j:Nat)(a:b9)(e:Key×V),as[j]?=Ig a->kvs[j]?=Ig e->H a=Ih/\H2 a=Ig (.tup [kV e.1,e.2]))->Q (.ref p) H2):=by
 intro Ik s σ H xs us Q I r h;obtain⟨v,d,kvs,rfl,hv,hd,h64,q⟩:=h;obtain⟨u,rfl,ru⟩:=yP.one r;cases ru;obtain⟨hz,ns,vs,rel,da⟩:=hd.ok I.hok;obtain⟨o,es,ep,e,c,dt,hk,hp,hn⟩:=da;have hl:vs.length=kvs.length:=rel.length.symm;have dat:s.heap.DictAt (yK X.prog X.w) d vs ep:=⟨o,es,e,c,dt,hk,hp,hn⟩;have hview:s.heap.IsItemsView v d:=(show xI X.prog X.w H s.heap v (.ext (xt v d)) from I.hok v _ hv).1;have oO:kvs.length<=sizeLine:=by rw[sizeLine_eq]; lia
 refine kdx_call (knd:=yK X.prog X.w) (kvs:=vs) (ep:=ep) (show X.A.handled=Ih from I.ok.hd hc) hview dat (by rw[hl]; exact oO) λh' tk acc c as keep e2 la G ea=>?_;have ln:as.length=kvs.length:=la.trans hl;have at_:=fR rel G;have I1:Inv X Ik σ H { s with heap:=h',toks:=tk }:=I.kept (t':=tk) keep;have ab:∀ a∈as,s.heap.objs.size<a:=λa ha=>G.above a ha;have fp:=I.fpOk (H':=H) (d6 _) (I.hok.fresh (d6 _));have I3:Inv X Ik σ (upd H s.heap.objs.size (.lst (as.map V.ref))) { s with heap:=h',toks:=tk }:=I1.more fp ⟨by rw[a7,ln]; exact oO,as.map j6,c,wz as,by rw[<- ea,EY]; exact e2⟩;obtain⟨H3,I4,s3,g3,n3⟩:=I3.tuples (lo:=0) (kvs.map λe=>[kV e.1,e.2]) G.rise (λa ha=>by
  refine I.fpOk (BH (ab a ha)) ?_;rw[zG (BW (ab a ha))];exact I.hok.fresh (BH (ab a ha))) (by rw[a7,ln]) λj a xs ha hx H'=>by
   rw[d8,j7] at hx;obtain⟨e,he,rfl⟩:=hx;obtain⟨key,x,g1,g2,g3⟩:=at_ j a e ha he;exact⟨by show 2<=sizeLine; rw[sizeLine_eq]; decide,[key,x],.cons g1 (.cons g2 .nil),_,g3,rfl,_,rfl⟩
 rwa[.ref s.heap.objs.size,H3,I4,U,q _ as H3 ((zD fp.1 _).trans s3) fp.1 ln (s3 _ _ zA) λj a e ha he=>⟨I.hok.fresh (BH (ab a (i8 ha))),g3 j a _ ha (by rw[d8,he]; rfl)⟩]
end
end L2

namespace L2
def Iti(φ:Hp->Prop)(kvs:List (Key×V)):It :=
 ⟨λi H=>φ H/\i<kvs.length,λi H v H'=>∃(T:b9)(e:Key×V),v=.ref T/\H T=Ih/\H'=upd H T (.tup [kV e.1,e.2])/\kvs[i]?=Ig e,λi H=>φ H/\kvs.length<=i⟩
def nS:entryFor table "dict_itemiterator.__iter__" = Ig Cj.«dict_keyiterator.__iter__»:=entryFor_alias (id' := "dict_keyiterator.__iter__") (by symm) rfl (by ac_nf) (by symm)
def oY{prog:j9}{w:n5}{A:Ab}{E:c7->d4->Prop}{s:d4}{it d:b9}{i n ep:Nat}{ok ov:c7}{Q:c7->d4->Prop}(hit:IsItemIter s.heap it d i n ep ok ov)(h:Q (.ref it) s):wpAny (model prog w) A (pyIter (.ref it)) Q E s:=by
 have ty:s.TypeIs (.ref it) "dict_itemiterator" :=⟨_,hit,rfl⟩;erw[FN ty Da (Ar Da ty nS ?_ (F.args_dict_itemiterator_iter_1 _))];show wpAny _ _ (ret (.ref it)) _ _ s;rwa[d7 ⟨_,rfl, "dict_itemiterator",_,ty,F.slot_dict_itemiterator_next.lookup,h⟩]
def dU{P:j9}{w:n5}{K:b7}{elts:List t6}{kt:Nat}{pt:Ck}{d:b9}{kvs:List (Key×V)}{o:AL}{es:Array Bk}{ep:Nat}(ho:o.data=.dict es ep)(it:b9) :
  Yd P w K (.Tuple elts kt pt) (Iti (gR d o kvs) kvs) [it] it (λi h=>∃ ok ov,IsItemIter h it d i kvs.length ep ok ov) where
 mem:=by simp
 obj:=λi h st b hb=>by
  have e:b=it:=by simpa using hb
  subst e;obtain⟨ok,ov,e⟩:=st;rwa[_,e,λv z=>by cases z]
 keep:=λi h h' ⟨ok,ov,st⟩ k=>⟨ok,ov,k it (by simp) _ st⟩
 item:=by
  intro X hP hw hK hc i Ik s σ H E I hf st ⟨fz,hi⟩;subst hP hw hK;obtain⟨vs,r,da,_,_⟩:=I.frzAt fz ho;obtain⟨u,hu,ru⟩:=KV.at (vs:=vs) (k:=kvs[i].1) (v:=kvs[i].2) r (d3 hi);obtain⟨ok,ov,st⟩:=st;rw[r.length] at st;have fresh:H s.heap.objs.size=none:=I.hok.fresh (d6 _);have litz:it<s.heap.objs.size:=f9 st;refine wpAny_pyNext_items_item st da hu λkey h' hk out ht hz kp=>⟨_,rfl,wpAny_letOwnedTupleGo_items out λh2 st2 sb=>?_⟩;rw[<- r.length] at st2;have rk:xE (kV kvs[i].1) key:=by
   rcases yQ hk with ⟨j,t,e1,e2⟩ | ⟨x,t,e1,e2⟩
   ·rw[e1,e2]; rwa[t,U]
   ·rw[e1,e2]; rwa[t,U]
  have kp2:∀ c o,c ∉ [it]->s.heap.get? c=Ig o->h2.get? c=Ig o:=λc o hc e=>by
   have hc:c≠it:=by simpa using hc
   rwa[sb.extBut c o hc (kp c o hc e)]
  have neT:∀ b o,s.heap.get? b=Ig o->b≠s.heap.objs.size:=λb o e=>l6 (f9 e);have neH:∀ b o,H b=Ig o->b ∉ [it]:=λb o e hb=>by
   rw[(hf b hb).1] at e;cases e
  have upn:∀ b u,H b=Ig u->upd H s.heap.objs.size (.tup [kV kvs[i].1,kvs[i].2]) b=Ig u:=λb u e=>by
   rw[zG (zH e fresh)];rwa[e]
  erw[.ref s.heap.objs.size,upd H s.heap.objs.size (.tup [kV kvs[i].1,kvs[i].2]),?_,U,⟨_,kvs[i],U,fresh,U,d3 hi⟩,⟨_,_,st2⟩,λb hb=>?_]
  ·refine Inv.step (s:=s) (h':=h2) (g':=s.gens) (d':=s.drawn) (t':=s.toks) (ch:=[it]) I (λb hb=>?_) (λb o _ _ hc e _=>kp2 b o hc e) (λb o _ _ hc e _=>⟨o.slots,kp2 b o hc e⟩) (λb o _ e n=>?_) (λb o hc e=>⟨o,kp2 b o hc e⟩)
    (λb zs e=>upn b _ e) (λb o zs e=>upn b _ e) (λb ps e=>⟨#[],by rw[upn b _ e]; simp⟩) (λm hm=>?_) (λb o e=>?_) I.bare
   ·obtain⟨_,f1,_,f3,f4,f5⟩:=hf b hb;rwa[f3,f1,f4,f5]
   ·rw[zG (neT b o e)];rwa[n]
   ·obtain⟨o,es,ep,ho,r⟩:=hm;erw[o,es,ep,kp2 _ o (λhb=>?_) ho,r];exact(hf _ hb).2.1 rfl
   ·by_cases hb:b=s.heap.objs.size
    ·subst hb;rw[zA] at e;cases e;exact⟨by show 2<=sizeLine; decide,[key,u],.cons rk (.cons ru .nil),_,sb.extBut _ _ (BW litz) ht,rfl,_,rfl⟩
    ·rw[zG hb] at e;refine(I.hok b o e).stay (λc u hc q=>kp2 c u ?_ q) (λc q=>upn c _ q) λc zs q=>upn c _ q;rcases hc with hc | hc
     ·rw[hc]; rwa[neH b o e]
     ·rwa[neH c _ hc]
  ·have e:b=it:=by simpa using hb
   subst e;rw[zG (l6 litz)];exact(hf b hb).1
 done:=by
  intro X hP hw hK hc i Ik s σ H E I hf st ⟨fz,hi⟩;subst hP hw hK;obtain⟨vs,r,da,_,_⟩:=I.frzAt fz ho;obtain⟨f0,f1,f2,f3,f4,f5⟩:=hf it (by simp);obtain⟨ok,ov,st⟩:=st;rw[r.length] at st;rwa[wpAny_pyNext_items_end (I.ok.hd hc) st da (AC (by rw[<- r.length]; exact hi)) λh' eb=>⟨rfl,I.turned (t':=s.toks) (λb o hb e=>eb b o hb e) f0 f1 f3 f4 f5⟩]
 self:=λ_ _ _ _ _ ⟨_,_,st⟩ h=>oY st h
section
variable{X:Cx}{l:t6}{te:TE}{apos pos:Ck}
def Up(te:TE):TI:=λσ H R=>te σ H λx H1=>∃(d:b9)(kvs:List (Key×V)),x=.ref d/\Rd H1 d (.dK kvs)/\∀(o:AL)(H2:Hp),ZN d o kvs H1 H2->R (Iti (gR d o kvs) kvs) H2
def Xy{elts:List t6}{kt:Nat}{pt:Ck}(hl:PE X l te)(hbase:attributeBase l "items" X.env (eval l X.env)=eval l X.env:=by rfl)(hline:(apos.endLine == pos.line)=true:=by rfl):PI X (.Tuple elts kt pt) (.Call (.Attribute l "items" apos) [] [] pos) (Up te):=by
 intro Ik s σ H R I h;erw[CS (T := "dict") (id := "dict.items") hbase rfl hline DU CU FQ (thn (hl Ik s σ H _ I h) λv s1 ⟨x,H1,I1,r1,d,kvs,e,hd,q⟩=>?_)];subst e;cases r1;obtain⟨o,es,ep,H2,ho,ft,I2⟩:=I1.frozen hd;obtain⟨vs,r,da,_,ns⟩:=I2.frzAt ft.1 ho;exists da.dictOf.typeIs,da.dictOf.mapOf.noDict;show wpAny _ _ (callWith pos (.builtin "dict.items") [.ref d] [] []) _ _ s1;erw[method_meetsIn CU Fw rfl (Cu ⟨rfl,da.dictOf.typeIs,Fa _,_,meets_dict_items (yK X.prog X.w) d ns,⟨vs,da.dictOf⟩,?_⟩)];erw[wpAny_pyIter_items (knd:=yK X.prog X.w) (d:=d) (kvs:=vs) (ep:=ep) ⟨_,e7 _ rfl,rfl,rfl⟩ (da.push _) ?_];have I3:=I2.kept (t':=s1.toks) (h':=s1.heap.push { cls:=.type "dict_items",data:=.fields #[.ref d] }) λb o e=>c9 _ e;have I4:=I3.kept (t':=s1.toks) (h':=(s1.heap.push { cls:=.type "dict_items",data:=.fields #[.ref d] }).push { cls:=.type "dict_itemiterator",data:=.fields #[.none,.bool Ij,.ref d,.int 0 0,.int vs.length 0,.int ep 0,.none,.none] }) λb o e=>c9 _ e;erw[_,[_],_,_,H2,U,I4,dU ho _,⟨_,_,by rw[r.length]; rwa[e7 _ rfl]⟩,λb hb=>?_,q o H2 ft];have e:=d9.mp hb;subst e;rwa[I3.fpOk (d6 _) (I3.hok.fresh (d6 _))]
end
section
variable{φ:Hp->Prop}{kvs:List (Key×V)}{g:TG}{σ0:St}{H1:Hp}{D:b9}{tt:TT}{te:TE}{Q:VK}
def WC(Pv:Nat->St->List V->Hp->Prop)(h0:Pv 0 σ0 [] (upd H1 D (.lst [])))(hl:∀ i σ ys H,Pv i σ ys H->φ H/\H D=Ig (.lst ys))
  (hs:∀(i:Nat)(e:Key×V)(T:b9) σ ys H,kvs[i]?=Ig e->H T=Ih->Pv i σ ys H->g (.ref T) σ (upd H T (.tup [kV e.1,e.2])) λσ2 H2=>te σ2 H2 λy H4=>H4 D=Ig (.lst ys)/\ys.length<sizeLine/\Pv (i+1) σ2 (ys++[y]) (upd H4 D (.lst (ys++[y]))))
  (hd:∀ σ ys H,Pv kvs.length σ ys H->Q (.ref D) H):ub (Iti φ kvs) D g XU te σ0 H1 Q:=by
 exists λi m σ ys H=>m=kvs.length-i/\i<=kvs.length/\Pv i σ ys H,⟨kvs.length,by simp,r9 _,h0⟩;rintro i m σ ys H ⟨rfl,hi,p⟩;obtain⟨q,qd⟩:=hl i σ ys H p;exists qd;by_cases hlt:i<kvs.length
 ·erw[.inr ⟨⟨q,hlt⟩,Pv (i+1),λσ' zs H' z=>⟨kvs.length-(i+1),by lia,rfl,hlt,z⟩,λx H' ⟨T,e,ex,hT,eH,y⟩=>?_⟩];subst ex eH;rwa[hs i e T σ ys _ y hT p]
 ·have e:i=kvs.length:=by lia
  subst e;rwa[.inl ⟨⟨q,d6 _⟩,hd σ ys H p⟩]
end
end L2

namespace Sea
def kD:Key->Dt
 | .inl i=>.int i
 | .inr x=>.str x
def UC(e:Key×Dt):Dt:=.tup [kD e.1,e.2]
def jW(es:List (Key×Dt)):List Dt:=(vT (tR (es.map (·.1))) es).map UC
def mkD(e:g8×Int×Int):Dt:=.tup [.str e.1,.int e.2.1,.int e.2.2]
def cf(S:BS):List Dt:=(vT (tR ((S.marks.map (·.1)).map .inr)) S.marks).map mkD
def VX{H:Hp}{k:Key} : Rep H (kD k) (kV k):=by
 cases k
 ·rwa[yB.mpr rfl]
 ·rwa[zW.mpr rfl]
def xS.at{H:Hp}{kvs:List (Key×V)}{es:List (Key×Dt)}(h:xS H kvs es){j:Nat}{e:Key×V}(g:kvs[j]?=Ig e):∃ d,es[j]?=Ig (e.1,d)/\Rep H d e.2:=by
 obtain⟨d,g1,r⟩:=h.vals.back (i:=j) (x:=e.2) (by rw[d8,g]; rfl);rw[d8,j7] at g1;obtain⟨e',ge,rfl⟩:=g1;have:=congrArg (·[j]?) h.keys;simp only[d8,g,ge,B3,DV] at this;rwa[e'.2,by rw[ge,this],r]
def zf{H:Hp}{kvs:List (Key×V)}{es:List (Key×Dt)}{as:List b9}(kv:xS H kvs es)(hl:as.length=kvs.length)(at_:∀ (j:Nat) (a:b9) (e:Key×V),as[j]?=Ig a->kvs[j]?=Ig e->H a=Ig (.tup [kV e.1,e.2])):∀ o:List Nat,xK H ((vT o es).map UC) ((vT o as).map V.ref)
 | []=>zY.mpr rfl
 | i::o=>by
  have ih:=zf kv hl at_ o;have le:=kv.length;unfold vT at ih ⊢;by_cases hi:i<kvs.length
  ·have ga:as[i]?=Ig (as[i]'(by lia)):=d3 (by lia);have gk:kvs[i]?=Ig kvs[i]:=d3 hi;obtain⟨d,ge,r⟩:=kv.at gk;rw[AB ge,AB ga];rwa[zL.mpr ⟨_,_,rfl,yF.mpr ⟨_,_,rfl,at_ i _ _ ga gk,.two VX r⟩,ih⟩]
  ·rw[AS (AC (by lia)),AS (AC (by lia))];rwa[ih]
structure pi(S:BS):Prop where
 mk ::
 well:jS S
 nm:(S.marks.map (·.1)).Nodup
 nb:(S.banks.map (·.1)).Nodup
 bk:∀ e∈S.banks,wL e.1/\e.2.length<=8/\∀ c∈e.2,qy c
def pi.nil:pi BS.nil:=⟨jS.nil,.nil,.nil,λe he=>(nomatch he)⟩
def ZD{cs:List (Int×Int)}(h:iL cs=Ii):cs.length<=8:=by
 unfold iL isB at h;rw[o8,o8,a7] at h;rwa[of_decide_eq_true h.2.1]
def mC{α:Type}{l:List α}{x:α}(h:l.Nodup)(n:x ∉ l):(l++[x]).Nodup:=by
 rw[FX];rwa[h,by simp,λa ha b hb=>by rw[d9.mp hb]; exact λz=>n (z ▸ ha)]
def rj{α β:Type}{f:α->β}{p:α->Bool}{l:List α}(h:(l.map f).Nodup):((l.filter p).map f).Nodup:=h.sublist ((Fb (p:=p) (l:=l)).map f)
def pi.aft{S:BS}{D:Deed}(h:pi S)(ok:okD S D):pi (aft S D):=by
 erw[h.well.aft ok,?_,?_,?_]
 ·match D,ok with
  | .mark n x y,ok =>
   show((S.marks++[(n,x,y)]).map (·.1)).Nodup;rw[j5];erw[mC h.nm λz=>?_];obtain⟨p,e⟩:=aC (S:=S) z;rw[ok.2.1] at e;cases e
  | .move n x y,ok =>
   show((S.marks.map λe=>if e.1=n then(e.1,x,y) else e).map (·.1)).Nodup;rw[t5,show((·.1) ∘ λe:g8×Int×Int=>if e.1=n then(e.1,x,y) else e)=(·.1) from funext λe=>by show(if e.1=n then(e.1,x,y) else e).1=e.1; split <;> rfl];rwa[h.nm]
  | .unmark n,ok=>rwa[rj h.nm]
  | .bank _ _,_=>rwa[h.nm]
  | .level _,_=>rwa[h.nm]
  | .sail _ _,_=>rwa[h.nm]
  | .right _ _ _,_=>rwa[h.nm]
  | .bearing _ _ _ _ _ _,_=>rwa[h.nm]
  | .range _ _ _,_=>rwa[h.nm]
  | .strike _,_=>rwa[h.nm]
 ·match D,ok with
  | .bank n cs,ok =>
   show((S.banks++[(n,cs)]).map (·.1)).Nodup;rw[j5];rwa[mC h.nb ok.2.1]
  | .level n,ok=>rwa[rj h.nb]
  | .mark _ _ _,_=>rwa[h.nb]
  | .move _ _ _,_=>rwa[h.nb]
  | .unmark _,_=>rwa[h.nb]
  | .sail _ _,_=>rwa[h.nb]
  | .right _ _ _,_=>rwa[h.nb]
  | .bearing _ _ _ _ _ _,_=>rwa[h.nb]
  | .range _ _ _,_=>rwa[h.nb]
  | .strike _,_=>rwa[h.nb]
 ·match D,ok with
  | .bank n cs,ok =>
   intro e he;rcases m7.mp he with z | z
   ·rwa[h.bk e z]
   ·rw[d9.mp z]; rwa[ok.1,ZD ok.2.2.2.1,ok.2.2.1]
  | .level n,ok=>rwa[λe he=>h.bk e (BF.mp he).1]
  | .mark _ _ _,_=>rwa[h.bk]
  | .move _ _ _,_=>rwa[h.bk]
  | .unmark _,_=>rwa[h.bk]
  | .sail _ _,_=>rwa[h.bk]
  | .right _ _ _,_=>rwa[h.bk]
  | .bearing _ _ _ _ _ _,_=>rwa[h.bk]
  | .range _ _ _,_=>rwa[h.bk]
  | .strike _,_=>rwa[h.bk]
section
variable{S:BS}
def iw(S:BS):(bkE S.banks).map (·.1)=(S.banks.map (·.1)).map .inr:=by unfold bkE; rw[t5,t5]; rfl
def kO(S:BS):(ntE S.notes).map (·.1)=(S.notes.map (·.1)).map .inl:=by unfold ntE; rw[t5,t5]; rfl
def jM{l:List g8}(h:l.Nodup):(l.map (.inr:g8->Key)).Nodup:=h.map _ λa b n z=>n (by injection z)
def am{l:List Int}(h:l.Nodup):(l.map (.inl:Int->Key)).Nodup:=h.map _ λa b n z=>n (by injection z)
def pi.oneB(_:pi S):VG ((bkE S.banks).map (·.1)):=.inr ⟨_,iw S⟩
def pi.ndB(h:pi S):((bkE S.banks).map (·.1)).Nodup:=by rw[iw]; rwa[jM h.nb]
def pi.oneN(_:pi S):VG ((ntE S.notes).map (·.1)):=.inl ⟨_,kO S⟩
def pi.ndN(h:pi S):((ntE S.notes).map (·.1)).Nodup:=by rw[kO]; rwa[am (h.well.good.rise.imp λz=>Int.ne_of_lt z)]
def sk:∀{l:List (g8×Int×Int)}{e:g8×Int×Int},(l.map (·.1)).Nodup->e∈l->(l.find? λf=>decide (f.1=e.1)).map (·.2)=Ig e.2
 | f::l,e,nd,he=>by
  rcases i7.mp he with rfl | he
  ·simp
  ·have nf:f.1≠e.1:=λz=>(B2.mp nd).1 (i4.mpr ⟨e,he,z.symm⟩);rw[As,x3 nf];rwa[sk (B2.mp nd).2 he]
def dep:Nat->Dt->Prop
 | _,.int _=>True
 | _,.str _=>True
 | 0,.tup _=>False
 | n+1,.tup l=>l.length<=900/\∀ d∈l,dep n d
def xM{n:Nat}{i:Int} : dep n (.int i):=by cases n <;> trivial
def yR{n:Nat}{x:g8} : dep n (.str x):=by cases n <;> trivial
def xT{n:Nat}{l:List Dt}(h:l.length<=900)(g:∀ d∈l,dep n d):dep (n+1) (.tup l):=⟨h,g⟩
def ni{n:Nat}{p:Int×Int} : dep (n+1) (ptD p):=xT (by show 2<=900; decide) (dt2 xM xM)
def cZ{n:Nat}{k:Key} : dep n (kD k):=by
 cases k
 ·rwa[xM]
 ·rwa[yR]
def bu:∀ d∈cf S,dep 3 d:=λd hd=>by
 obtain⟨e,he,rfl⟩:=i4.mp hd;rwa[xT (g7 rfl) (dt3 yR xM xM)]
def bZ(h:pi S):∀ d∈jW (bkE S.banks),dep 3 d:=λd hd=>by
 obtain⟨e,he,rfl⟩:=i4.mp hd;have me:=oq he;unfold bkE at me;obtain⟨e',me',rfl⟩:=i4.mp me;have l8:=(h.bk e' me').2.1;erw[xT (g7 rfl) (dt2 cZ (xT (by rw[a7]; lia) λd hd=>?_))];obtain⟨c,hc,rfl⟩:=i4.mp hd;rwa[ni]
def cY(h:pi S):∀ d∈jW (ntE S.notes),dep 4 d:=λd hd=>by
 obtain⟨e,he,rfl⟩:=i4.mp hd;have me:=oq he;unfold ntE at me;obtain⟨e',me',rfl⟩:=i4.mp me;have kn:=h.well.good.note e' me';erw[xT (g7 rfl) (dt2 cZ ?_)];show dep 3 e'.2.dt
 match e'.2,kn with
 | .bearing _ _ _ _ _ _,_=>rwa[xT (g7 rfl) λd hd=>(i7.mp hd).elim (λz=>z ▸ yR) (dt4 xM yR ni ni d)]
 | .range _ _ _,_=>rwa[xT (g7 rfl) (dt4 yR xM yR yR)]
def iV{es:List (Key×Dt)} : (jW es).length=es.length:=by
 unfold jW;rw[a7,uy (λi hi=>by have:=yf i hi; (rw[a7] at this;assumption)),yx,a7]
def iu:(cf S).length=S.marks.length:=by
 unfold cf;rw[a7,uy (λi hi=>by have:=yf i hi; (rw[a7,a7] at this;assumption)),yx,a7,a7]
end
end Sea

namespace Sea
def mkOf(e:g8×Int×Int):Deed:=.mark e.1 e.2.1 e.2.2
def bkOf(e:g8×List (Int×Int)):Deed:=.bank e.1 e.2
def slOf(e:Int×Int):Deed:=.sail e.1 e.2
def noteF(ns:List g8)(D:Deed):Prop:=(∃(m:Int)(i:Nat)(l r:g8),D=.range m l r/\0<=m/\m<=12/\i<18/\ns[i]?=Ig l/\ns[i+1]?=Ig r)\/∃(m k:Int)(i:Nat)(n:g8),D=.bearing m n 100 k (-k) 100/\0<=m/\m<=12/\0<=k/\k<24/\i<19/\ns[i]?=Ig n
structure FillD(ns:List g8)(Ds:List Deed)(l1:List (g8×Int×Int))(l2:List (g8×List (Int×Int)))(l3:List (Int×Int))(l4:List Deed)(c:Nat):Prop where
 mk ::
 eq:Ds=l1.map mkOf++l2.map bkOf++l3.map slOf++l4
 n1:l1.map (·.1)=ns.take 20
 p1:∀(j:Nat)(e:g8×Int×Int),l1[j]?=Ig e->qy e.2/\e.2.2=j
 c2:c<=2
 n2:l2.map (·.1)=(ns.drop c).take 8
 p2:∀(j:Nat)(e:g8×List (Int×Int)),l2[j]?=Ig e->j<8/\e.2=[((j:Int),0),((j:Int)+3,0),((j:Int),2)]
 n3:l3.length=12
 p3:∀ e∈l3,qy e
 n4:l4.length=24
 p4:∀ D∈l4,noteF ns D
noncomputable def stepD(S:BS)(D:Deed):BS:=match zS S D with
 | none=>aft S D
 | some _=>S
noncomputable def stepAll(S:BS)(l:List Deed):BS:=l.foldl stepD S
section
variable{S:BS}{D:Deed}
structure NotesF(S S':BS)(l:List Deed):Prop where
 mk ::
 m:S'.marks=S.marks
 b:S'.banks=S.banks
 r:S'.runs=S.runs
 c:S'.coming=S.coming+l.length
 n:S'.notes.map (·.2)=S.notes.map (·.2)++l
 k:∀ k:Int,(k∈S.notes.map (·.1)\/(S.coming<=k/\k<S'.coming))->k∈S'.notes.map (·.1)
structure Brim(ns:List g8)(n19:g8)(c:Nat)(S:BS):Prop where
 mk ::
 neat:pi S
 m:S.marks.map (·.1)=ns.take 20
 c2:c<=2
 b:S.banks.map (·.1)=(ns.drop c).take 8
 r:S.runs.length=12
 n:S.notes.length=24
 all:∀ k:Int,1<=k->k<25->k∈S.notes.map (·.1)
 co:S.coming=25
 un:∀ e∈S.notes,rQ n19 e.2
end
end Sea

namespace L2
section
variable{X:Cx}
def lV(c:Array Nat):∀(k:Nat)(a:Array Nat),((x6 k c).foldl (· ++ ·) a).toList=a.toList++(x6 k c.toList).flatten
 | 0,a=>by simp
 | k+1,a=>by
  rw[Dm,List.foldl_cons,lV c k,Dm,FK,Array.toList_append,FY]
def XZ(i:g8)(n:Int):g8:=if (n == 1||i.length == 0)=Ii then i else⟨(x6 n.toNat i.cps).foldl (· ++ ·) #[]⟩
def fH(c:Array Nat)(k:Nat):((x6 k c).foldl (· ++ ·) #[]).size=k*c.size:=by
 rw[<- Aj,lV,f8,WS,Aj];simp
def Yq{i:g8}{n:Int}(h:1<=n):(XZ i n).length=i.length*n.toNat:=by
 unfold XZ;split
 ·rename_i e
  rw[Ew,beq_iff_eq,beq_iff_eq] at e;rcases e with e | e
  ·rw[e]; simp
  ·rw[e]; simp
 ·show((x6 n.toNat i.cps).foldl (· ++ ·) #[]).size=_;rw[fH,FL];rfl
def Za{i:g8}{n:Int}{c:Nat}(h:c∈(XZ i n).cps.toList):c∈i.cps.toList:=by
 unfold XZ at h;split at h
 ·rwa[h]
 ·have h:c∈((x6 n.toNat i.cps).foldl (· ++ ·) #[]).toList:=h;rw[lV,m7] at h;rcases h with h | h
  ·simp at h
  ·obtain⟨l,hl,hc⟩:=List.mem_flatten.mp h;rw[(List.mem_replicate.mp hl).2] at hc;rwa[hc]
def jY:OpR X (binaryOp .Mult) (λx y H Q=>∃(i:g8)(n:Int),x=.str i/\y=.int n/\1<=n/\n<=1000/\i.length<=1000/\Q (.str (XZ i n)) H):=by
 intro Ik s σ H x y v u Q I rx ry h;obtain⟨i,n,rfl,rfl,h1,h2,h3,q⟩:=h;obtain⟨t,rfl⟩:=rx;obtain⟨t',rfl⟩:=ry;have n1:¬ n<1:=by lia
 have hl:i.length*n.toNat<=1000*1000:=Nat.mul_le_mul h3 (by lia);have hs:i.length*n.toNat<=sizeLine:=j8 hl (by decide);erw[PySem.P.mul_str ?_ ?_ ?_ ?_]
 ·rw[x3 (by lia),x3 (by lia)]; rfl
 ·intro _ _ z;have:(1000:Int)<=(2^63-1)/n:=by
   rw[Int.le_ediv_iff_mul_le (by lia)];lia
  lia
 ·intro _ _;rwa[x3 (by lia)]
 ·rw[y7 n1];have q':=q;unfold XZ at q';split
  ·rename_i e
   rw[y9 e] at q';rwa[.str i,H,I,⟨_,U⟩,q']
  ·rename_i e
   rw[y7 e] at q';erw[?_,.str _,H,I.tok _,⟨_,U⟩,q'];show((x6 n.toNat i.cps).foldl (· ++ ·) #[]).size<=sizeLine;rw[fH,FL];rwa[hs]
end
end L2

namespace Sea
def Wb(cs:List (Int×Int)):Prop:=∃ x y e:Int,-1<=e/\e<=4/\cs=[(x,y),(x+3,y),(x+1,y+e)]
def fY{a b c:Int×Int} : iL [a,b,c]=(decide (0<crs a b c)&&(decide (0<crs b c a)&&decide (0<crs c a b))):=by
 simp[iL,isB,vY,dG,ptA,Ai,List.range.loop]
def crs3{a b c:Int×Int}(h:0<crs a b c)(h1:crs b c a=crs a b c)(h2:crs c a b=crs a b c):iL [a,b,c]=true:=by
 rw[fY,h1,h2,q0 h];rfl
def crs3n{a b c:Int×Int}(h:¬ 0<crs a b c):iL [a,b,c]=false:=by
 rw[fY,x3 h];rfl
def YW{cs:List (Int×Int)}(h:Wb cs):∃ a b c:Int×Int,cs=[a,b,c]/\iL cs=decide (a.2<c.2):=by
 obtain⟨x,y,e,h0,h4,rfl⟩:=h;exists _,_,_,rfl;have k:crs (x,y) (x+3,y) (x+1,y+e)=3*e:=by unfold crs; dsimp only; grind
 by_cases z:0<e
 ·rw[q0 (by dsimp only; lia)];erw[crs3 (by rw[k]; lia) ?_ ?_]<;> unfold crs <;> dsimp only <;> grind
 ·rw[x3 (by dsimp only; lia)];rwa[crs3n (by rw[k]; lia)]
def XM{i:Int}(h:i.natAbs<=3000):i.natAbs.log2<20:=by
 by_cases e:i.natAbs=0
 ·rw[e]; decide
 ·exact Be ((Gp e).mpr (show _<2^12 by lia)) (by decide)
def xV{i:Int}(h:i.natAbs<=10^20):qY i:=by
 unfold qY;by_cases e:i.natAbs=0
 ·rw[e]; decide
 ·exact Be ((Gp e).mpr (show _<2^67 from CH h (by decide))) (by decide)
def asc_0:oj "" :=⟨λc hc=>(nomatch hc),by decide⟩
def VB{b:Bool}{A B:Prop}(h1:b=Ii->A)(h2:b=Ij->B):if b=Ii then A else B:=by
 cases b
 ·rwa[h2 rfl]
 ·rwa[h1 rfl]
def nI{vs:List V}{x n:Int}(h:0<n)(hn:n=(vs.length:Int)):∃ v,v∈vs/\atI vs (x%n)=Ig v:=by
 have h0:=t9 x (show n≠0 by lia);have h1:=o6 x h;generalize x%n=y at h0 h1;obtain⟨k,rfl⟩:=AF h0;have hk:k<vs.length:=by lia
 rwa[vs[k],Bv hk,xU (d3 hk)]
def UA{vs:List V}{y:Int}(h0:0<=y)(h1:y<(vs.length:Int)):∃ v,v∈vs/\atI vs y=Ig v:=by
 obtain⟨k,rfl⟩:=AF h0;have hk:k<vs.length:=by lia
 rwa[vs[k],Bv hk,xU (d3 hk)]
def cutIH{ok:Int->Hp->Prop}{G:Prop}{R:Int->Hp->Prop}(h1:(∀ m H,ok m H->R m H)->G)(h2:∀ m H,ok m H->R m H):G:=h1 h2
def cutSH{ok:g8->Hp->Prop}{G:Prop}{R:g8->Hp->Prop}(h1:(∀ m H,ok m H->R m H)->G)(h2:∀ m H,ok m H->R m H):G:=h1 h2
def Tin(H:Hp)(p:b9):Prop:=∃ x y:Int,H p=Ig (.tup [.int x,.int y])/\qY x/\qY y
def Tin.to{H H':Hp}{p:b9}(h:Tin H p)(s:Same H H'):Tin H' p:=let ⟨x,y,e,r⟩:=h;⟨x,y,s _ _ e,r⟩
def Tin.new{H:Hp}{p:b9}{x y:Int}(h1:x.natAbs<=10^20)(h2:y.natAbs<=10^20):Tin (upd H p (.tup [.int x,.int y])) p:=⟨x,y,zA,xV h1,xV h2⟩
def Wm{c:Nat}{n:Int}(h:c<128)(h1:1<=n)(h8:n<=8):oj (XZ ⟨#[c]⟩ n):=by
 erw[λd hd=>?_,?_]
 ·have:=Za hd;simp at this;lia
 ·rw[Yq h1];show 1*n.toNat<=50;lia
end Sea

namespace Sea
def MkR(σ:St)(H:Hp)(te:TE)(x:g8)(b:Bool):Prop:=∀ G K,Same H G->(∀ t,G t=Ih->K (.ref t) (upd G t (.tup [.str x,.bl b])))->te σ G K
def MkA(σ:St)(H:Hp)(ta:TA)(ws:List (g8×Bool)):Prop:=∀ G K,Same H G->(∀ ts G',Same G G'->nN G' ts ws->K (ts.map V.ref) G')->ta σ G K
section
variable{σ:St}{H G:Hp}{te:TE}{ta:TA}{x:g8}{b:Bool}{ws vs:List (g8×Bool)}{K:VK}
def MkR.of{r:List V->Hp->VK->Prop}{n:g8}{v:V}{y:b9}(hv:σ[0]?=Ig (Ig (.ref y)))(h:∀ G Q,Same H G->Q (.bl b) G->r [.ref y,v] G Q):MkR σ H (tTup (jo (tC (.str n)) (jo (tCB r (jo (Zc 0) (jo (tC v) YY))) YY))) n b :=
 λG _ s k=>⟨_,hv,h G _ s ⟨(by show 2<=sizeLine; decide),k⟩⟩
def nN.cons{ts:List b9}{t:b9}(e:G t=Ig (.tup [.str x,.bl b]))(h:nN G ts ws):nN G (t::ts) ((x,b)::ws):=by
 erw[by rw[m9,m9,h.len],λj u w hu hw=>?_];cases j with
 | zero=>cases hu; cases hw; rwa[e]
 | succ j=>rwa[h.at_ j u w hu hw]
def nN.app{ts us:List b9}(h:nN G ts ws)(k:nN G us vs):nN G (ts++us) (ws++vs):=by
 erw[by rw[f8,f8,h.len,k.len],λj u w hu hw=>?_];by_cases z:j<ts.length
 ·rw[A5 z] at hu;rw[A5 (by rw[<- h.len]; rwa[z])] at hw;rwa[h.at_ j u w hu hw]
 ·rw[Ay (by lia)] at hu;rw[Ay (by rw[<- h.len]; lia),<- h.len] at hw;rwa[k.at_ _ u w hu hw]
def MkA.nil:MkA σ H YY []:=λG _ _ k=>k [] G (Same.refl G) nN.nil
def MkA.cons(m:MkR σ H te x b)(h:MkA σ H ta ws):MkA σ H (jo te ta) ((x,b)::ws):=λG _ s k =>
 m G _ s λt ht =>
  have st:=zD ht (.tup [.str x,.bl b])
  h _ _ (s.trans st) λts G' s' R=>k (t::ts) G' (st.trans s') (nN.cons (s' _ _ zA) R)
def MkA.lst(h:MkA σ H ta ws)(hl:ws.length<=1000)(s:Same H G)(k:∀ l ts G',Same G G'->G' l=Ig (.lst (ts.map V.ref))->nN G' ts ws->K (.ref l) G'):Uz ta σ G K :=
 h _ _ s λts G' s' R=>⟨oO (by rw[a7,R.len]; exact hl),λp hp =>
  have sp:=zD hp (.lst (ts.map V.ref))
  k p ts _ (s'.trans sp) zA (R.to sp)⟩
def MkA.cat{so:b9}{ts:List b9}(h:MkA σ H ta vs)(hl:vs.length<=100)(s:Same H G)(hv:σ[1]?=Ig (Ig (.ref so)))(e:G so=Ig (.lst (ts.map V.ref)))(R:nN G ts ws)(hw:ws.length<=100)(k:∀ q ts' G',Same H G'->G' q=Ig (.lst (ts'.map V.ref))->nN G' ts' (ws++vs)->K (.ref q) G'):tOp Tb (Zc 1) (Uz ta) σ G K :=
 ⟨_,hv,h.lst (by lia) s λl us G' s' el Ru=>⟨so,l,_,_,rfl,rfl,s' _ _ e,el,oO (by rw[a7,a7,R.len,Ru.len]; lia),λq hq =>
  have sq:=zD hq (.lst (ts.map V.ref++us.map V.ref))
  k q (ts++us) _ ((s.trans s').trans sq) (by rw[zA,j5]) (((R.to s').app Ru).to sq)⟩⟩
def MkA.seqL{u:TS}{D:dE}(h:MkA σ H ta ws)(hl:ws.length<=1000)(s:Same H G)(k:∀ l ts G',Same G G'->G' l=Ig (.lst (ts.map V.ref))->nN G' ts ws->u D (σ.set 1 (Ig (.ref l))) G'):Ta (Tx (Uz ta) (iM 1)) u D σ G:=h.lst (K:=λx H1=>iM 1 x σ H1 (u D)) hl s k
def MkA.seqC{u:TS}{D:dE}{so:b9}{ts:List b9}(h:MkA σ H ta vs)(hl:vs.length<=100)(s:Same H G)(hv:σ[1]?=Ig (Ig (.ref so)))(e:G so=Ig (.lst (ts.map V.ref)))(R:nN G ts ws)(hw:ws.length<=100)(k:∀ q ts' G',Same H G'->G' q=Ig (.lst (ts'.map V.ref))->nN G' ts' (ws++vs)->u D (σ.set 1 (Ig (.ref q))) G'):Ta (Tx (tOp Tb (Zc 1) (Uz ta)) (iM 1)) u D σ G:=h.cat (K:=λx H1=>iM 1 x σ H1 (u D)) hl s hv e R hw k
end
def pV:Deed->g8
 | .mark _ _ _ => "mark"
 | .move _ _ _ => "move"
 | .unmark _ => "unmark"
 | .bank _ _ => "bank"
 | .level _ => "level"
 | .sail _ _ => "sail"
 | .right _ _ _ => "right"
 | .bearing _ _ _ _ _ _ => "bearing"
 | .range _ _ _ => "range"
 | .strike _ => "strike"
def gy{H:Hp}{D:Deed}{v:V}(h:Rep H D.dt v):∃(t:b9)(xs:List V),v=.ref t/\H t=Ig (.tup (.str (pV D)::xs)):=by
 cases D <;>(obtain⟨t,xs,rfl,ht,r⟩:=yF.mp h; obtain⟨_,_,rfl,k1,_⟩:=zL.mp r; rw[zW.mp k1] at ht; rwa[_,_,U,ht])
end Sea

namespace L2
section
variable{X:Cx}{o:t6}{m:g8}{apos pos:Ck}{C g:b9}{n:Nat}{ps:List g8}{sp:Sp}{ta:TE}
def hG(EE:St->XK){pl:GP Bool}(hb:InB X.base λK=>Cls K C/\hZ K C m g)(h:ce X.prog X.w X.K X.mg X.base g n ps sp)(hx:gG X EE)(hr:rX n X.A)(he:PE X o ta)
  (ht:eval (.Call (.Attribute o m apos) [] [] pos) X.env=(do
   let ov <- eval o X.env
   standAt apos.atName
   let (f,first) <- holding [ov] (getMethod ov m pl)
   callWith pos f first (backTo pos (starEach [] X.env)) (backToKw pos (keywordEach [] X.env))):=by rfl) :
  PE X (.Call (.Attribute o m apos) [] [] pos) (Xx C m sp EE ta YY):=by
 obtain⟨K,KB,c,hm⟩:=hb;obtain⟨fd,F,b⟩:=h;intro Ik s σ H Q I h;erw[B8 (pl:=pl) (thn (he Ik s σ H _ I h) λu s1 ⟨x,H1,I1,rx,a,dx,fs,ex,ea,l,q⟩=>?_) ht];subst ex;obtain rfl:u=j6 a:=rx;erw[ye (X:=X.withK K) (I1.withK KB) ea c hm l ?_];rwa[Ct (first:=[.ref a]) (I1.withK KB).kIn hm.kp (lA (us:=[.ref a]) (vs:=[.ref a]) F hr (.all b) hx I1 (.cons rfl .nil) q)]
end
end L2

namespace Sea
def LwO(H:Hp)(X:b9->Prop)(d:b9)(S:BS):Prop:=∃ m b r n,¬ X r/\LwA H d m b r n S
def LwO.at{H:Hp}{X:b9->Prop}{d:b9}{S:BS}(h:LwO H X d S):al H d S:=let ⟨m,b,r,n,_,k⟩:=h;⟨m,b,r,n,k⟩
structure HL(H:Hp)(X:b9->Prop)(sl rl:b9)(Ss:List BS)(Ds:List Deed):Prop where
 mk ::
 n1:¬ X sl
 n2:¬ X rl
 s:∃ ss:List b9,H sl=Ig (.lst (ss.map V.ref))/\ss.length=Ss.length/\∀(i:Nat)(d:b9)(S:BS),ss[i]?=Ig d->Ss[i]?=Ig S->LwO H X d S
 r:∃ xs,H rl=Ig (.lst xs)/\xK H (Ds.map Deed.dt) xs
section
variable{φ X X':b9->Prop}{H H1:Hp}{C b p l l' sl rl tp:b9}{Ss:List BS}{Ds:List Deed}{j k:Nat}{S S':BS}{D:Deed}
def HL.sam(h:HL H X sl rl Ss Ds)(s:yY φ H H1)(nd:∀ a kvs,Rd H a (.dK kvs)->¬ φ a)(np:∀ a xs,H a=Ig (.tup xs)->¬ φ a)(nl:∀ x xs,H x=Ig (.lst xs)->¬ X x->¬ φ x):HL H1 X sl rl Ss Ds:=by
 obtain⟨ss,e1,e2,e3⟩:=h.s;obtain⟨xs,e4,e5⟩:=h.r;erw[h.n1,h.n2,⟨ss,s.lst (nl _ _ e1 h.n1) e1,e2,λi d S g1 g2=>?_⟩,xs,s.lst (nl _ _ e4 h.n2) e4,e5.sam s np];obtain⟨m,b,r,n,r1,k⟩:=e3 i d S g1 g2;rwa[m,b,r,n,r1,k.samE s nd np λxs e=>nl r xs e r1]
def HL.to(h:HL H X sl rl Ss Ds)(s:Sam H H1):HL H1 X sl rl Ss Ds:=h.sam s (λ_ _ _=>id) (λ_ _ _=>id) (λ_ _ _ _=>id)
def HL.re(h:HL H X sl rl Ss Ds)(w:∀ x xs,H x=Ig (.lst xs)->¬ X x->¬ X' x):HL H X' sl rl Ss Ds:=by
 obtain⟨ss,e1,e2,e3⟩:=h.s;obtain⟨xs,e4,e5⟩:=h.r;erw[w _ _ e1 h.n1,w _ _ e4 h.n2,⟨ss,e1,e2,λi d S g1 g2=>?_⟩,xs,e4,e5];obtain⟨m,b,r,n',r1,k⟩:=e3 i d S g1 g2;obtain⟨rs,er,_⟩:=k.ru;rwa[m,b,r,n',w _ _ er r1,k]
abbrev cK(X:b9->Prop)(l:b9):b9->Prop:=λx=>X x\/x=l
def HL.newl(h:HL H X sl rl Ss Ds)(n:H l'=Ih):HL H (cK X l') sl rl Ss Ds:=h.re λ_ _ e n1 z=>z.elim n1 (zH e n)
structure HB(C:b9)(H:Hp)(b p l:b9)(X:b9->Prop)(tp:b9)(Ss:List BS)(Ds:List Deed)(j k:Nat):Prop where
 mk ::
 bk:∃ S,Ss[j]?=Ig S/\BkL C H b p l S ((Ds.zip Ss).take j) ((Ds.zip Ss.tail).drop j).reverse
 lp:∃ sl rl,H tp=Ig (.tup [.ref sl,.ref rl,.int j])/\HL H X sl rl Ss Ds
 xp:X p
 xl:X l
 len:Ss.length=Ds.length+1
 le:j<=Ds.length
 lk:Ds.length<=k
 st:∀ S∈Ss,pi S/\1<=S.coming/\S.coming<=1+k
 tm:∀ D∈Ds,qb D
def HB.to(h:HB C H b p l X tp Ss Ds j k)(s:Sam H H1):HB C H1 b p l X tp Ss Ds j k :=
 ⟨let ⟨S,e,q⟩:=h.bk;⟨S,e,q.to s⟩,let ⟨sl,rl,e,q⟩:=h.lp;⟨sl,rl,s.tup id e,q.to s⟩,h.xp,h.xl,h.len,h.le,h.lk,h.st,h.tm⟩
def HB.re(h:HB C H b p l X tp Ss Ds j k)(w:∀ x xs,H x=Ig (.lst xs)->¬ X x->¬ X' x)(i:∀ x,X x->X' x):HB C H b p l X' tp Ss Ds j k :=
 ⟨h.bk,let ⟨sl,rl,e,q⟩:=h.lp;⟨sl,rl,e,q.re w⟩,i _ h.xp,i _ h.xl,h.len,h.le,h.lk,h.st,h.tm⟩
def fP(g1:Ds[j]?=Ig D)(g2:Ss[j]?=Ig S):(Ds.zip Ss).take (j+1)=(Ds.zip Ss).take j++[(D,S)]:=by
 rw[w5,show(Ds.zip Ss)[j]?=Ig (D,S) from Cr.mpr ⟨g1,g2⟩];rfl
def pq(g1:Ds[j]?=Ig D)(g2:Ss[j+1]?=Ig S):((Ds.zip Ss.tail).drop j).reverse=((Ds.zip Ss.tail).drop (j+1)).reverse++[(D,S)]:=by
 have e:(Ds.zip Ss.tail)[j]?=Ig (D,S):=Cr.mpr ⟨g1,by rw[List.getElem?_tail]; rwa[g2]⟩;obtain⟨h,e2⟩:=g9.mp e;rw[List.drop_eq_getElem_cons h,List.reverse_cons,e2]
def WQ(hl:Ss.length=Ds.length+1):((Ds.zip Ss).take j).map (·.1)=Ds.take j:=by
 rw[C4,Ee (by lia)]
def YT(hl:Ss.length=Ds.length+1):((Ds.zip Ss.tail).drop j).map (·.1)=Ds.drop j:=by
 rw[Fh,Ee (by rw[Co]; lia)]
def WM{X:BS}(hl:Ss.length=Ds.length+1)(hj:j<=Ds.length)(g:Ss[j]?=Ig S):((Ds.take j++[D]).zip (Ss.take (j+1)++[X])).take (j+1)=(Ds.zip Ss).take j++[(D,S)]/\(((Ds.take j++[D]).zip (Ss.take (j+1)++[X]).tail).drop (j+1)).reverse=[]:=by
 constructor
 ·have e1:Ss.take (j+1)=Ss.take j++[S]:=by rw[w5,g]; rfl
  have e2:(Ds.take j++[D]).zip (Ss.take (j+1)++[X])=(Ds.zip Ss).take j++[(D,S)]:=by
   rw[e1,FY,List.zip_append (by rw[i9,i9]; lia)];show _=(List.zipWith Prod.mk Ds Ss).take j++_;rw[List.take_zipWith];rfl
  rw[e2,Aa]
  ·rw[f8,i9];show _+1<=_;lia
 ·rw[Bu]
  ·rfl
  ·rw[AK,f8,i9];show min (_+1) _<=_;lia
end
end Sea

namespace Sea
def pC{n:Nat}{D:Deed}(h:qb D):dep (n+3) D.dt:=by
 cases D with
 | bank _ cs=>exact xT (g7 rfl) (dt3 yR yR (xT (by rw[a7]; have:=h.2.1; lia) λd hd=>by obtain⟨c,_,rfl⟩:=i4.mp hd; rwa[ni]))
 | bearing _ _ _ _ _ _=>rwa[xT (g7 rfl) λd hd=>(i7.mp hd).elim (λz=>z ▸ yR) (dt4 xM yR ni ni d)]
 | mark n x y=>rwa[xT (g7 rfl) (dt4 yR yR xM xM)]
 | move n x y=>rwa[xT (g7 rfl) (dt4 yR yR xM xM)]
 | right k x y=>rwa[xT (g7 rfl) (dt4 yR xM xM xM)]
 | range m l r=>rwa[xT (g7 rfl) (dt4 yR xM yR yR)]
 | sail x y=>rwa[xT (g7 rfl) (dt3 yR xM xM)]
 | unmark n=>rwa[xT (g7 rfl) (dt2 yR yR)]
 | level n=>rwa[xT (g7 rfl) (dt2 yR yR)]
 | strike k=>rwa[xT (g7 rfl) (dt2 yR xM)]
structure HC(C:b9)(H:Hp)(b p l:b9)(X:b9->Prop)(sl rl:b9)(Ss:List BS)(Ds:List Deed)(j k:Nat):Prop where
 mk ::
 bk:∃ S,Ss[j]?=Ig S/\BkL C H b p l S ((Ds.zip Ss).take j) ((Ds.zip Ss.tail).drop j).reverse
 hl:HL H X sl rl Ss Ds
 xp:X p
 xl:X l
 len:Ss.length=Ds.length+1
 le:j<=Ds.length
 lk:Ds.length<=k
 st:∀ S∈Ss,pi S/\1<=S.coming/\S.coming<=1+k
 tm:∀ D∈Ds,qb D
section
variable{X:b9->Prop}{H H1 H2:Hp}{C b p l sl rl tp:b9}{Ss:List BS}{Ds:List Deed}{j k:Nat}{S S0:BS}{D D':Deed}{pre:List (Deed×BS)}
def HC.to(h:HC C H b p l X sl rl Ss Ds j k)(s:Sam H H1):HC C H1 b p l X sl rl Ss Ds j k :=
 ⟨let ⟨S,e,q⟩:=h.bk;⟨S,e,q.to s⟩,h.hl.to s,h.xp,h.xl,h.len,h.le,h.lk,h.st,h.tm⟩
def HC.hb(h:HC C H b p l X sl rl Ss Ds j k)(e:H tp=Ig (.tup [.ref sl,.ref rl,.int j])):HB C H b p l X tp Ss Ds j k:=⟨h.bk,⟨sl,rl,e,h.hl⟩,h.xp,h.xl,h.len,h.le,h.lk,h.st,h.tm⟩
def HB.hc(h:HB C H b p l X tp Ss Ds j k):∃ sl rl,H tp=Ig (.tup [.ref sl,.ref rl,.int j])/\HC C H b p l X sl rl Ss Ds j k:=let ⟨sl,rl,e,q⟩:=h.lp;⟨sl,rl,e,h.bk,q,h.xp,h.xl,h.len,h.le,h.lk,h.st,h.tm⟩
def HL.bl(h:HL H X sl rl Ss Ds)(xp:X p)(xl:X l)(s:yY (Bl b p l) H H1){dx:b9}{fs:List (g8×V)}{ps ls:List V}(hb:H b=Ig (.ins C dx fs))(hp:H p=Ig (.lst ps))(hl:H l=Ig (.lst ls)):HL H1 X sl rl Ss Ds :=
 h.sam s (Yr hb hp hl) (aj hb hp hl) λx ys e n1 z=>by
  rcases z with z | z | z
  ·rw[z,hb] at e; cases e
  ·rwa[n1 (z ▸ xp)]
  ·rwa[n1 (z ▸ xl)]
def HC.undo(h:HC C H b p l X sl rl Ss Ds (j+1) k)(gD:Ds[j]?=Ig D)(eS:Ss[j+1]?=Ig S)(e2:(Ds.zip Ss).take (j+1)=pre++[(D',S0)])(s:yY (Bl b p l) H H2)(b2:BkL C H2 b p l S0 pre (((Ds.zip Ss.tail).drop (j+1)).reverse++[(D',S)])):D'=D/\HC C H2 b p l X sl rl Ss Ds j k:=by
 have hl:=h.len;have hj:=h.le;obtain⟨Si,gS⟩:∃ X,Ss[j]?=Ig X:=⟨_,d3 (by lia)⟩;rw[fP gD gS] at e2;obtain⟨ep,e2⟩:=C2 e2 rfl;cases e2;rw[<- ep,<- pq gD eS] at b2;obtain⟨S1,_,dx,d,ps,ls,k4⟩:=h.bk;rwa[U,⟨_,gS,b2⟩,h.hl.bl h.xp h.xl s k4.ob k4.pa k4.la,h.xp,h.xl,hl,by lia,h.lk,h.st,h.tm]
def HC.redo(h:HC C H b p l X sl rl Ss Ds j k)(gD:Ds[j]?=Ig D)(eS:Ss[j]?=Ig S)(e2:((Ds.zip Ss.tail).drop j).reverse=pre++[(D',S0)])(s:yY (Bl b p l) H H2)(b2:BkL C H2 b p l S0 ((Ds.zip Ss).take j++[(D',S)]) pre):D'=D/\HC C H2 b p l X sl rl Ss Ds (j+1) k:=by
 have hl:=h.len;have hj:=(g9.mp gD).1;obtain⟨Si,gS⟩:∃ X,Ss[j+1]?=Ig X:=⟨_,d3 (by lia)⟩;rw[pq gD gS] at e2;obtain⟨ep,e2⟩:=C2 e2 rfl;cases e2;rw[<- ep,<- fP gD eS] at b2;obtain⟨S1,_,dx,d,ps,ls,k4⟩:=h.bk;rwa[U,⟨_,gS,b2⟩,h.hl.bl h.xp h.xl s k4.ob k4.pa k4.la,h.xp,h.xl,hl,by lia,h.lk,h.st,h.tm]
end
end Sea

-- LAW
namespace Sea
local macro_rules | `(tactic| ac_rfl) => `(tactic| exact ⟨rfl, rfl, rfl, by decide +kernel, rfl, by decide +kernel, by decide +kernel⟩)
structure Zs(mg:g8->Option c7):Prop where
 ValueError:mg "ValueError" = Ih
 abs:mg "abs" = Ih
 all:mg "all" = Ih
 any:mg "any" = Ih
 bool:mg "bool" = Ih
 dict:mg "dict" = Ih
 int:mg "int" = Ih
 isinstance:mg "isinstance" = Ih
 len:mg "len" = Ih
 list:mg "list" = Ih
 max:mg "max" = Ih
 min:mg "min" = Ih
 range:mg "range" = Ih
 reversed:mg "reversed" = Ih
 sorted:mg "sorted" = Ih
 str:mg "str" = Ih
 tuple:mg "tuple" = Ih
 zip:mg "zip" = Ih
def Zl:zP ["one","other"] ["one","other"] (zJ pM):=by ac_rfl
def qc:zP ["start","end"] ["start","end"] (zJ uF):=by ac_rfl
def xN:zP ["corners","number","start","way","further","other"] ["corners","number"] (zJ uM):=by ac_rfl
def iJ:zP ["corners"] ["corners"] (zJ rZ):=by ac_rfl
def qp:zP [] [] (zJ uJ):=by ac_rfl
def qt:zP ["state","kind","key","value","fresh"] ["state","kind","key","value"] (zJ qI):=by ac_rfl
def si:zP ["state","kind","key","fresh"] ["state","kind","key"] (zJ qD):=by ac_rfl
def gM:zP ["numbers","most"] ["numbers","most"] (zJ yi):=by ac_rfl
def og:zP ["name"] ["name"] (zJ vI):=by ac_rfl
def oy:zP ["state","kind","name"] ["state","kind","name"] (zJ vE):=by ac_rfl
def qj:zP ["place"] ["place"] (zJ uT):=by ac_rfl
def mz:zP ["run"] ["run"] (zJ tO):=by ac_rfl
def pU:zP ["state","kind"] ["state","kind"] (zJ vJ):=by ac_rfl
def oB:zP ["state","name"] ["state","name"] (zJ vH):=by ac_rfl
def tu:zP ["moment","runs"] ["moment","runs"] (zJ wQ):=by ac_rfl
def nT:zP ["direction"] ["direction"] (zJ tN):=by ac_rfl
def qh:zP ["state","left","right"] ["state","left","right"] (zJ uE):=by ac_rfl
def sR:zP ["state","row","name","place"] ["state","row"] (zJ vC):=by ac_rfl
def uL:zP ["state","row","place","fresh","note"] ["state","row"] (zJ vD):=by ac_rfl
def uZ:zP ["state","row","name","note"] ["state","row"] (zJ wR):=by ac_rfl
def uO:zP ["state","row","name","corners","corner"] ["state","row"] (zJ vK):=by ac_rfl
def qR:zP ["state","row","name"] ["state","row"] (zJ uI):=by ac_rfl
def zt:zP ["state","row","run"] ["state","row"] (zJ vA):=by ac_rfl
def tD:zP ["state","row","number","run"] ["state","row"] (zJ uQ):=by ac_rfl
def zv:zP ["state","row","fresh"] ["state","row"] (zJ vG):=by ac_rfl
def wu:zP ["state","row"] ["state","row"] (zJ wF):=by ac_rfl
def qo:zP ["state","row"] ["state","row"] (zJ uC):=by ac_rfl
def rN:zP ["state","row","number"] ["state","row"] (zJ wP):=by ac_rfl
def cv:zP ["state","row"] ["state","row"] (zJ wx):=by ac_rfl
def df:zP ["_law_number"] ["_law_number"] (zJ wo):=by ac_rfl
def wJ:zP ["_law_script","_law_many","_law_rows","_law_mix","_law_cell","_law_rest"] ["_law_script","_law_many"] (zJ vy):=by ac_rfl
def yZ:zP ["_law_some","_law_many","_law_letters","_law_rows","_law_at","_law_raw","_law_size","_law_step_here","_law_word_here","_law_place","_law_k","_law_sign"] ["_law_some","_law_many"] (zJ ww):=by ac_rfl
def ZJ:zP [] [] (zJ lD):=by ac_rfl
def bX:zP ["_law_told","_law_due_here"] ["_law_told","_law_due_here"] (zJ wn):=by ac_rfl
def xA:zP ["_law_e","_law_so"] ["_law_e"] (zJ qM):=by ac_rfl
def kU:zP ["_law_book","_law_way_here","_law_e"] ["_law_book","_law_way_here"] (zJ ph):=by ac_rfl
def zn:zP ["_law_names_here","_law_size","_law_letter"] ["_law_names_here"] (zJ qF):=by ac_rfl
def aK:zP ["_law_raw","_law_names_here"] ["_law_raw","_law_names_here"] (zJ pw):=by ac_rfl
def oo:zP ["_law_raw"] ["_law_raw"] (zJ vL):=by ac_rfl
def pH:zP ["_law_one","_law_two","_law_wide","_law_x","_law_y"] ["_law_one","_law_two","_law_wide"] (zJ lQ):=by ac_rfl
def fg:zP ["_law_one","_law_other"] ["_law_one","_law_other"] (zJ yl):=by ac_rfl
def xR:zP ["_law_d","_law_wide","_law_one","_law_other"] ["_law_d","_law_wide"] (zJ tP):=by ac_rfl
def zZ:zP ["_law_d","_law_m","_law_names_here","_law_moment","_law_mark","_law_one","_law_other","_law_way_here","_law_menu"] ["_law_d","_law_m","_law_names_here"] (zJ wO):=by ac_rfl
def vf:zP ["_law_d","_law_m","_law_names_here","_law_way_here","_law_name","_law_x","_law_y"] ["_law_d","_law_m","_law_names_here"] (zJ pK):=by ac_rfl
def kJ:zP ["_law_name"] ["_law_name"] (zJ qL):=by ac_rfl
def ae:zP ["_law_x","_law_y"] ["_law_x","_law_y"] (zJ pG):=by ac_rfl
def vM:zP ["_law_m","_law_deed_here","_law_name","_law_note","_law_other"] ["_law_m","_law_deed_here"] (zJ tM):=by ac_rfl
def nX:zP ["_law_m","_law_deed_here"] ["_law_m","_law_deed_here"] (zJ tL):=by ac_rfl
def ke:zP ["_law_m","_law_deed_here"] ["_law_m","_law_deed_here"] (zJ sW):=by ac_rfl
def rF:zP ["_law_m","_law_deed_here","_law_x","_law_y"] ["_law_m","_law_deed_here"] (zJ tS):=by ac_rfl
def aL:zP ["_law_m","_law_deed_here"] ["_law_m","_law_deed_here"] (zJ pB):=by ac_rfl
def eF:zP ["_law_m","_law_deed_here","_law_word_here"] ["_law_m","_law_deed_here"] (zJ kF):=by ac_rfl
def js:zP ["_law_book","_law_deed_here","_law_e"] ["_law_book","_law_deed_here"] (zJ pO):=by ac_rfl
def mJ:zP ["_law_m","_law_deed_here","_law_later"] ["_law_m","_law_deed_here"] (zJ vq):=by ac_rfl
def xG:zP ["_law_book","_law_past","_law_d","_law_names_here","_law_states","_law_rows","_law_at","_law_way_here","_law_there","_law_due_here","_law_deed_here","_law_good"] ["_law_book","_law_past","_law_d","_law_names_here"] (zJ pk):=by ac_rfl
def lT:zP ["_law_m"] ["_law_m"] (zJ rB):=by ac_rfl
def fw:zP ["_law_book","_law_m"] ["_law_book","_law_m"] (zJ yk):=by ac_rfl
def rC:zP ["_law_book","_law_past","_law_states","_law_rows","_law_at"] ["_law_book","_law_past"] (zJ qA):=by ac_rfl
def zr:zP ["_law_d","_law_x","_law_y"] ["_law_d"] (zJ vF):=by ac_rfl
def tf:zP ["_law_places"] ["_law_places"] (zJ wS):=by ac_rfl
def tK:zP ["_law_script","_law_some","_law_names_here","_law_book","_law_past","_law_k","_law_good","_law_states","_law_rows","_law_at","_law_way_here","_law_turns","_law_there"] ["_law_script"] (zJ fk):=by ac_rfl
def aV:zP ["self"] ["self"] (zJ pA):=by ac_rfl
def oM:zP ["self","row","number","fresh"] ["self","row"] (zJ pJ):=by ac_rfl
def jO:zP ["self","taken","given","pair"] ["self","taken","given"] (zJ pf):=by ac_rfl
def bO:zP ["self"] ["self"] (zJ pj):=by ac_rfl
def Zh:zP ["self"] ["self"] (zJ pE):=by ac_rfl
def cg:zP ["self"] ["self"] (zJ vc):=by ac_rfl
def gE:zP ["self"] ["self"] (zJ ym):=by ac_rfl
def mT:zP ["self","places"] ["self"] (zJ wy):=by ac_rfl
def cH:zP ["self"] ["self"] (zJ ve):=by ac_rfl
def iE:zP ["self","runs"] ["self"] (zJ pQ):=by ac_rfl
def cw:zP ["self"] ["self"] (zJ wm):=by ac_rfl
def gJ:zP ["self"] ["self"] (zJ yh):=by ac_rfl
def qN:b9:=82
def xm:b9:=130
def yM:b9:=250
def yn:b9:=190
def rS:b9:=238
def xW:b9:=202
def tZ:b9:=118
def rW:b9:=166
def sJ:b9:=142
def yA:b9:=57
def ze:b9:=106
def vP:b9:=214
def tU:b9:=226
def tX:b9:=178
def nC:b9:=269
def wV:b9:=94
def uA:b9:=70
def tT:b9:=154
def excL:List b9:=[tT,uA,wV,nC,tX,tU,vP,ze,sJ,rW,tZ,xW,rS,yn,yM,xm,qN]
def bkC:b9:=607
def UI:b9:=272
def VW:List (Key×V):=[(.inr "marks",.int 20),(.inr "banks",.int 8),(.inr "runs",.int 12),(.inr "notes",.int 24)]
def Xg:b9:=437
def Xk:List (Key×V):=[(.inr "mark",.ref 366),(.inr "move",.ref 373),(.inr "unmark",.ref 380),(.inr "bank",.ref 387),(.inr "level",.ref 394),(.inr "sail",.ref 401),(.inr "right",.ref 408),(.inr "bearing",.ref 422),(.inr "range",.ref 429),(.inr "strike",.ref 436)]
def gA:b9:=458
def gj:b9:=535
def lK:b9:=542
def fh:b9:=549
def gq:b9:=556
def pN:b9:=561
def vx:b9:=566
def kE:b9:=578
def kA:b9:=585
def ff:b9:=590
def lX:b9:=597
def wr:b9:=604
structure Cb(P:j9)(w:n5)(mg:g8->Option c7)(base:n9):Prop where
 state:InB base λK=>Cls K bkC/\yb K bkC "state"
 past:InB base λK=>Cls K bkC/\yb K bkC "past"
 later:InB base λK=>Cls K bkC/\yb K bkC "later"
 m_deed:InB base λK=>Cls K bkC/\hZ K bkC "deed" gj
 m_step:InB base λK=>Cls K bkC/\hZ K bkC "step" lK
 m_undo:InB base λK=>Cls K bkC/\hZ K bkC "undo" fh
 m_redo:InB base λK=>Cls K bkC/\hZ K bkC "redo" gq
 m_deeds:InB base λK=>Cls K bkC/\hZ K bkC "deeds" pN
 m_undone:InB base λK=>Cls K bkC/\hZ K bkC "undone" vx
 m_marks:InB base λK=>Cls K bkC/\hZ K bkC "marks" kE
 m_banks:InB base λK=>Cls K bkC/\hZ K bkC "banks" kA
 m_runs:InB base λK=>Cls K bkC/\hZ K bkC "runs" ff
 m_notes:InB base λK=>Cls K bkC/\hZ K bkC "notes" lX
 m_coming:InB base λK=>Cls K bkC/\hZ K bkC "coming" wr
 make:InB base λK=>Mk K bkC gA
 gBook:mg "Book" = Ig (.ref bkC)
 dMOST:Vd P w base UI VW
 gMOST:mg "MOST" = Ig (.ref UI)
 dAFTER:Vd P w base Xg Xk
 gAFTER:mg "AFTER" = Ig (.ref Xg)
 LONGEST_NAME:∃ k,mg "LONGEST_NAME" = Ig (.int 8 k)
 FARTHEST:∃ k,mg "FARTHEST" = Ig (.int 1000 k)
 LONGEST_WAY:∃ k,mg "LONGEST_WAY" = Ig (.int 100 k)
 t_mark:mg "after_mark" = Ig (.ref 366)
 t_move:mg "after_move" = Ig (.ref 373)
 t_unmark:mg "after_unmark" = Ig (.ref 380)
 t_bank:mg "after_bank" = Ig (.ref 387)
 t_level:mg "after_level" = Ig (.ref 394)
 t_sail:mg "after_sail" = Ig (.ref 401)
 t_right:mg "after_right" = Ig (.ref 408)
 t_bearing:mg "after_bearing" = Ig (.ref 422)
 t_range:mg "after_range" = Ig (.ref 429)
 t_strike:mg "after_strike" = Ig (.ref 436)
 gBadBank:mg "BadBank" = Ig (.ref tT)
 gBadName:mg "BadName" = Ig (.ref uA)
 gBadPlace:mg "BadPlace" = Ig (.ref wV)
 gBadRow:mg "BadRow" = Ig (.ref nC)
 gBadRun:mg "BadRun" = Ig (.ref tX)
 gBadTurn:mg "BadTurn" = Ig (.ref tU)
 gBadWay:mg "BadWay" = Ig (.ref vP)
 gFull:mg "Full" = Ig (.ref ze)
 gMarkError:mg "MarkError" = Ig (.ref yA)
 gNeeded:mg "Needed" = Ig (.ref sJ)
 gNoBank:mg "NoBank" = Ig (.ref rW)
 gNoMark:mg "NoMark" = Ig (.ref tZ)
 gNoMoment:mg "NoMoment" = Ig (.ref xW)
 gNoNote:mg "NoNote" = Ig (.ref rS)
 gNoRun:mg "NoRun" = Ig (.ref yn)
 gNothingLeft:mg "NothingLeft" = Ig (.ref yM)
 gSame:mg "Same" = Ig (.ref xm)
 gTaken:mg "Taken" = Ig (.ref qN)
 e_BadBank:p6 "BadBank" tT bmV "ValueError.__new__" mg base
 t_BadBank_MarkError:yz base (.ref tT) yA
 e_BadName:p6 "BadName" uA bmV "ValueError.__new__" mg base
 t_BadName_MarkError:yz base (.ref uA) yA
 e_BadPlace:p6 "BadPlace" wV bmV "ValueError.__new__" mg base
 t_BadPlace_MarkError:yz base (.ref wV) yA
 e_BadRun:p6 "BadRun" tX bmV "ValueError.__new__" mg base
 t_BadRun_MarkError:yz base (.ref tX) yA
 e_BadTurn:p6 "BadTurn" tU bmV "ValueError.__new__" mg base
 t_BadTurn_MarkError:yz base (.ref tU) yA
 e_BadWay:p6 "BadWay" vP bmV "ValueError.__new__" mg base
 t_BadWay_MarkError:yz base (.ref vP) yA
 e_Full:p6 "Full" ze bmV "ValueError.__new__" mg base
 t_Full_MarkError:yz base (.ref ze) yA
 e_Needed:p6 "Needed" sJ bmV "ValueError.__new__" mg base
 t_Needed_MarkError:yz base (.ref sJ) yA
 e_NoBank:p6 "NoBank" rW bmV "ValueError.__new__" mg base
 t_NoBank_MarkError:yz base (.ref rW) yA
 e_NoMark:p6 "NoMark" tZ bmV "ValueError.__new__" mg base
 t_NoMark_MarkError:yz base (.ref tZ) yA
 e_NoMoment:p6 "NoMoment" xW bmV "ValueError.__new__" mg base
 t_NoMoment_MarkError:yz base (.ref xW) yA
 e_NoNote:p6 "NoNote" rS bmV "ValueError.__new__" mg base
 t_NoNote_MarkError:yz base (.ref rS) yA
 e_NoRun:p6 "NoRun" yn bmV "ValueError.__new__" mg base
 t_NoRun_MarkError:yz base (.ref yn) yA
 e_NothingLeft:p6 "NothingLeft" yM bmV "ValueError.__new__" mg base
 t_NothingLeft_MarkError:yz base (.ref yM) yA
 e_Same:p6 "Same" xm bmV "ValueError.__new__" mg base
 t_Same_MarkError:yz base (.ref xm) yA
 e_Taken:p6 "Taken" qN bmV "ValueError.__new__" mg base
 t_Taken_MarkError:yz base (.ref qN) yA
 isx:InB base λK=>Vb K excL=Ii
set_option hygiene false in
local macro_rules | `(tactic| fail) => `(tactic| first | with_reducible exact yL | with_reducible exact zI | ((with_reducible apply Uw); exact rfl; fail; fail) | with_reducible exact zK | with_reducible exact xa | with_reducible exact eh | ((with_reducible apply UZ); first | ((with_reducible apply VA "bool"); exact xq (v := .ty "bool") rfl Z.bool bT rfl) | ((with_reducible apply VA "dict"); exact xq (v := .ty "dict") rfl Z.dict xf rfl) | ((with_reducible apply VA "int"); exact xq (v := .ty "int") rfl Z.int bM rfl) | ((with_reducible apply VA "list"); exact xq (v := .ty "list") rfl Z.list xb rfl) | ((with_reducible apply VA "str"); exact xq (v := .ty "str") rfl Z.str Xa rfl) | ((with_reducible apply VA "tuple"); exact xq (v := .ty "tuple") rfl Z.tuple fQ rfl) | exact pv 0 | exact pv 1 | exact pv 2 | exact pv 3 | exact pv 4 | exact pv 5 | exact pv 6 | exact pv 7 | exact pv 8 | exact pv 9 | exact pv 10 | exact pv 11 | exact pv 12) | ((with_reducible apply m_sub); first | ((with_reducible apply uG Wv); fail; fail; fail) | ((with_reducible apply m_ix); exact λ_ _ => rfl; fail; fail)) | ((with_reducible apply m_bin); first | ((with_reducible apply wG xv); fail; fail) | ((with_reducible apply wG Xb); fail; fail) | ((with_reducible apply wG UN); fail; fail) | ((with_reducible apply wG ZQ); fail; fail) | ((with_reducible apply wG mW); fail; fail) | ((with_reducible apply wG Uk); fail; fail)) | ((with_reducible apply UK); first | ((with_reducible apply m_own); (with_reducible assumption); exact ⟨rfl, rfl, rfl, rfl, rfl⟩; exact hr.mono (by decide); exact rfl; decide; exact rfl; exact rfl; fail) | ((with_reducible apply jy Yg VS); exact Z.abs; exact rfl; decide; decide; exact rfl; exact rfl; fail) | ((with_reducible apply jy (sC rfl) pZ); exact Z.all; exact rfl; decide; decide; exact rfl; exact rfl; fail) | ((with_reducible apply jy (ir rfl) Xu); exact Z.any; exact rfl; decide; decide; exact rfl; exact rfl; fail) | ((with_reducible apply jy fv zV); exact Z.isinstance; exact rfl; decide; decide; exact rfl; exact rfl; fail) | ((with_reducible apply jy yU wZ); exact Z.len; exact rfl; decide; decide; exact rfl; exact rfl; fail) | ((with_reducible apply jy (aY rfl) VF); exact Z.max; exact rfl; decide; decide; exact rfl; exact rfl; fail) | ((with_reducible apply jy (bL rfl) VD); exact Z.min; exact rfl; decide; decide; exact rfl; exact rfl; fail) | ((with_reducible apply jy call_sortedT vX); exact Z.sorted; exact rfl; decide; decide; exact rfl; exact rfl; fail) | ((with_reducible apply Ve call_bool1 bT); exact Z.bool; exact rfl; decide; decide; exact rfl; exact rfl; fail) | ((with_reducible apply Ve rO xf); exact Z.dict; exact rfl; decide; decide; exact rfl; exact rfl; fail) | ((with_reducible apply Ve hJ bM); exact Z.int; exact rfl; decide; decide; exact rfl; exact rfl; fail) | ((with_reducible apply Ve su xb); exact Z.list; exact rfl; decide; decide; exact rfl; exact rfl; fail) | ((with_reducible apply Ve call_str_any Xa); exact Z.str; exact rfl; decide; decide; exact rfl; exact rfl; fail) | ((with_reducible apply Ve call_tuple_of fQ); exact Z.tuple; exact rfl; decide; decide; exact rfl; exact rfl; fail)) | ((with_reducible apply yW); fail) | ((with_reducible apply vS); fail) | ((with_reducible apply pe_un Ts); fail) | ((with_reducible apply XC); fail) | ((with_reducible apply m_cmp); first | ((with_reducible apply sL WT); fail; fail; exact yS _) | ((with_reducible apply sL Tu); fail; fail; exact yS _) | ((with_reducible apply sL cW); fail; fail; exact yS _) | ((with_reducible apply sL wg); fail; fail; exact yS _) | ((with_reducible apply sL lP); fail; fail; exact yS _) | ((with_reducible apply sL Wa); fail; fail; exact yS _) | ((with_reducible apply sL op_isN); fail; fail; exact yS _) | ((with_reducible apply sL op_notN); fail; fail; exact yS _)) | ((with_reducible apply Ul); first | ((with_reducible apply yI WT); fail; fail; exact yS _) | ((with_reducible apply yI Tu); fail; fail; exact yS _) | ((with_reducible apply yI cW); fail; fail; exact yS _) | ((with_reducible apply yI wg); fail; fail; exact yS _) | ((with_reducible apply yI lP); fail; fail; exact yS _) | ((with_reducible apply yI Wa); fail; fail; exact yS _) | ((with_reducible apply yI op_isN); fail; fail; exact yS _) | ((with_reducible apply yI op_notN); fail; fail; exact yS _)) | ((with_reducible apply Vq); fail) | ((with_reducible apply uj); fail) | ((with_reducible apply iQ); fail) | ((with_reducible apply mm); fail; fail) | ((with_reducible apply cG); fail; fail) | ((with_reducible apply zj); fail) | ((with_reducible apply jl); fail) | ((with_reducible apply ig); fail; fail) | ((with_reducible apply pe_or); fail; fail) | ((with_reducible apply vB); fail; fail; fail) | with_reducible exact sS | ((with_reducible apply sI); fail) | ((with_reducible apply m_val); exact λ_ => rfl; fail))
set_option hygiene false in
local macro_rules | `(tactic| specialize $e) => `(tactic| refine F.ok $e (λvs H Q E h => ?_) (λcdv A outer s H vs Q E hr h => ?_))
local macro_rules | `(tactic| nofun) => `(tactic| ((any_goals fail); try dsimp only [L2.cxOf]))
section
variable{P:j9}{w:n5}{mg:g8->Option c7}{base:n9}{f:b9}{fd:Aq}
def UX(K:b7):Sp:=λvs H Q _=>∃(a b:b9)(us ws:List V)(x1 y1 x2 y2:Int),vs=[.ref a,.ref b]/\Sq K H a us/\Sq K H b ws/\atI us 0=Ig (.int x1)/\atI us 1=Ig (.int y1)/\atI ws 0=Ig (.int x2)/\atI ws 1=Ig (.int y2) /\
 x1.natAbs<=10^18/\y1.natAbs<=10^18/\Q (.int (x1*y2-y1*x2)) H
def ny(K:b7):Sp:=UX K
def aN(F:Fun K "turn" "turn" pM f fd)(Z:Zs mg)(CB:Cb P w mg base)  : yX P w K mg base CX0 1 f fd ["one","other"] (ny K):=by
 specialize Zl
 ·obtain⟨a,b,us,ws,x1,y1,x2,y2,rfl,_⟩:=h;rfl
 obtain⟨a,b,us,ws,x1,y1,x2,y2,rfl,ha,hb,u0,u1,w0,w1,m1,m2,q⟩:=h
 refine'⟨_,(zF (zM ?_)),?_⟩
 nofun
 exact⟨_,U,a,_,_,.int x1,U,U,ha,u0,_,U,b,_,_,.int y2,U,U,hb,w1,_,_,U,U,YR (by lia),
  _,rfl,a,_,_,.int y1,rfl,rfl,ha,u1,_,rfl,b,_,_,.int x2,rfl,rfl,hb,w0,_,_,rfl,rfl,YR (by lia),_,_,rfl,rfl,q⟩
def qU(K:b7):Sp:=λvs H Q _=>∃(a b:b9)(x1 y1 x2 y2:Int),vs=[.ref a,.ref b]/\Sq K H a [.int x1,.int y1]/\Sq K H b [.int x2,.int y2] /\
 ∀ p,H p=Ih->Q (.ref p) (upd H p (.tup [.int (x2-x1),.int (y2-y1)]))
def qr(F:Fun K "stretch_way" "stretch_way" uF f fd)(Z:Zs mg)(CB:Cb P w mg base)  : yX P w K mg base CX0 1 f fd ["start","end"] (qU K):=by
 specialize qc
 ·obtain⟨a,b,x1,y1,x2,y2,rfl,_⟩:=h;rfl
 obtain⟨a,b,x1,y1,x2,y2,rfl,ha,hb,q⟩:=h
 refine'⟨_,(zF (zM ?_)),?_⟩
 nofun
 exact⟨_,U,b,_,_,.int x2,U,U,hb,U,_,U,a,_,_,.int x1,U,U,ha,U,_,_,U,U,
  _,rfl,b,_,_,.int y2,rfl,rfl,hb,rfl,_,rfl,a,_,_,.int y1,rfl,rfl,ha,rfl,_,_,rfl,rfl,sz2,λp hp=>q p hp⟩
def PrQ(K:b7)(H:Hp)(l:b9)(ps:List Pr):Prop:=Sq K H l (wM ps)/\VC H (10^8) ps
def PrQ.same{K:b7}{H H':Hp}{l:b9}{ps:List Pr}(h:PrQ K H l ps)(s:Same H H'):PrQ K H' l ps:=⟨s.sq h.1,h.2.same s⟩
def modI{i n:Nat}{k:Int}(e:k=(i:Int)):k%(n:Int)=((i%n:Nat):Int):=by
 rw[e];exact(Int.natCast_emod i n).symm
def qV(K:b7):Sp:=λvs H Q _=>∃(l:b9)(ps:List Pr)(i:Nat),vs=[.ref l,.int (i:Int)]/\PrQ K H l ps/\i<ps.length/\ps.length<=1000 /\
 ∀ H',Same H H'->Q (.bl (vY ps i)) H'
def ql(F:Fun K "all_left_of" "all_left_of" uM f fd)(Z:Zs mg)(CB:Cb P w mg base)(yBz:Has P w K mg base "turn" 1 ["one","other"] (ny K))(yAm:Has P w K mg base "stretch_way" 1 ["start","end"] (qU K)):yX P w K mg base CX0 2 f fd ["corners","number"] (qV K):=by
 specialize xN
 ·obtain⟨l,ps,i,rfl,_⟩:=h;rfl
 obtain⟨l,ps,i,rfl,hL,hi,hn,q⟩:=h
 refine'⟨_,(zC (yE 2 xN.nd ?_)
   (zC (yE 3 xN.nd ?_)
   (zC (sZ Ax rfl (iU rfl Z.range ?_) (rT 4 xN.nd) (zC (yE 5 xN.nd ?_)
   (zF (zX ?_ (zF (zM xa)) zN))))
   (zF (zM xa))))),?_⟩
 nofun
 obtain⟨t0,m0,g0,a0⟩:=oV (ps:=ps) (i:=i) (k:=(i:Int)) rfl hi;have hm1:(i+1)%ps.length<ps.length:=Nat.mod_lt _ (by lia);obtain⟨t1,m1,g1,a1⟩:=oV (ps:=ps) (i:=(i+1)%ps.length) (k:=((i:Int)+1)%(ps.length:Int)) (modI (by lia)) hm1;rw[<- xL ps] at a1;obtain⟨e0,b00,b01⟩:=hL.2 t0 m0;obtain⟨e1,b10,b11⟩:=hL.2 t1 m1;have nl:((wM ps).length:Int)=(ps.length:Int):=by rw[xL]
 exists _,U,_,U,l,_,_,_,U,U,hL.1,a0;refine⟨_,U,_,U,_,U,_,_,U,U,_,U,l,_,U,hL.1,_,_,U,U,(by show(0:Int)<((wM ps).length:Int); lia),l,_,_,_,rfl,rfl,hL.1,a1,
  t0.1,t1.1,t0.2.1,t0.2.2,t1.2.1,t1.2.2,rfl,.inr (SqT.of e0),.inr (SqT.of e1),λd hd=>?_⟩
 have sd:Same H (upd H d (.tup [.int (t1.2.1-t0.2.1),.int (t1.2.2-t0.2.2)])):=zD hd _;have ed:upd H d (.tup [.int (t1.2.1-t0.2.1),.int (t1.2.2-t0.2.2)]) d=Ig (.tup [.int (t1.2.1-t0.2.1),.int (t1.2.2-t0.2.2)]):=zA;generalize upd H d (.tup [.int (t1.2.1-t0.2.1),.int (t1.2.2-t0.2.2)])=H1 at sd ed ⊢;exists _,U,l,_,U,(sd.sq hL.1),2,_,U,(by lia);refine sG (lo:=2) (n:=(((wM ps).length:Int)-2).toNat) (λj σ H'=>Same H1 H'/\(∀ j'<j,dG ps i ((i+(2+j'))%ps.length)=Ii)/\∃ u4 u5:Option V,σ=[Ig (.ref l),Ig (.int (i:Int)),Ig (.ref t0.1),Ig (.ref d),u4,u5])
  ⟨Same.refl _,λj' hj'=>x4 hj' (Di _),Ih,Ih,rfl⟩ ?_ ?_
 ·rintro j σ H' hj ⟨sH,hall,u4,u5,rfl⟩;have s2:=sd.trans sH;have hjl:j<ps.length-2:=by lia
  have hmk:(i+(2+j))%ps.length<ps.length:=Nat.mod_lt _ (by lia);obtain⟨t2,m2,g2,a2⟩:=oV (ps:=ps) (i:=(i+(2+j))%ps.length) (k:=((i:Int)+(2+(j:Int)))%(ps.length:Int)) (modI (by lia)) hmk;rw[<- xL ps] at a2;obtain⟨e2,b20,b21⟩:=hL.2 t2 m2;have lf:dG ps i ((i+(2+j))%ps.length)=decide (0<(t1.2.1-t0.2.1)*(t2.2.2-t0.2.2)-(t1.2.2-t0.2.2)*(t2.2.1-t0.2.1)):=by
   unfold dG;rw[Zo g0,Zo g1,Zo g2];rfl
  exists _,U,_,U,_,U,_,_,U,U,_,U,l,_,U,(s2.sq hL.1),_,_,U,U,(by show(0:Int)<((wM ps).length:Int); lia),l,_,_,_,rfl,rfl,(s2.sq hL.1),a2;erw[_,U,_,U,_,U,t0.1,t2.1,t0.2.1,t0.2.2,t2.2.1,t2.2.2,U,.inr (SqT.of (s2 _ _ e0)),.inr (SqT.of (s2 _ _ e2)),λd2 hd2=>?_];have s3:=zD hd2 (.tup [.int (t2.2.1-t0.2.1),.int (t2.2.2-t0.2.2)]);exists d,d2,_,_,t1.2.1-t0.2.1,t1.2.2-t0.2.2,t2.2.1-t0.2.1,t2.2.2-t0.2.2,U,.inr (SqT.of (s3 _ _ (sH _ _ ed))),.inr (SqT.of zA),U,U,U,U,by lia,by lia,_,_,U,U,_,rfl;erw[ifD (λhle=>?_) (λhgt=>?_)]
  ·have hb:vY ps i=false:=by
    unfold vY;rw[DQ];intro z;have z2:=Af.mp z j (Az.mpr hjl);rw[lf] at z2;have z3:=of_decide_eq_true z2;lia
   have r:=q _ (s2.trans s3);rw[hb] at r;rwa[r]
  ·erw[sH.trans s3,λj' hj'=>?_,_,_,U];by_cases e:j'=j
   ·rw[e,lf];rwa[q0 (by lia)]
   ·rwa[hall j' (by lia)]
 ·rintro σ H2 ⟨sH,hall,_,_,rfl⟩;have hb:vY ps i=true:=by
   unfold vY;rw[Af];intro j hj;exact hall j (by have:=Az.mp hj; lia)
  have r:=q _ (sd.trans sH);rw[hb] at r;rwa[r]
def sr(K:b7):Sp:=λvs H Q _=>∃(l:b9)(ps:List Pr),vs=[.ref l]/\PrQ K H l ps/\ps.length<=1000/\∀ H',Same H H'->Q (.bl (isB ps)) H'
def hU(F:Fun K "is_bank" "is_bank" rZ f fd)(Z:Zs mg)(CB:Cb P w mg base)(yAn:Has P w K mg base "all_left_of" 2 ["corners","number"] (qV K)):yX P w K mg base CX0 3 f fd ["corners"] (sr K):=by
 specialize iJ
 ·obtain⟨l,ps,rfl,_⟩:=h;rfl
 obtain⟨l,ps,rfl,hL,hn,q⟩:=h
 refine'⟨_,(zC (zX ?_ (zF (zM xa)) zN)
   (zF (zM (zR (sC rfl) rfl Z.all pZ (zB (uX (T:=["number"]) (caps:=[("corners",0)]) ⟨rfl,by ac_nf,by ac_nf,rfl,⟨⟨rfl,rfl,A4 rfl⟩,t7⟩⟩ rfl (sU rfl Z.range ?_) (λ_=>(rT 0 (show(["number","corners"]:List g8).Nodup by ac_nf))) (λ_=>wH) (λ_=>?_)) zI))))),?_⟩
 nofun
 have nl:((wM ps).length:Int)=(ps.length:Int):=by rw[xL]
 exists _,U,l,_,U,hL.1,_,_,U,U,_,rfl;erw[ifD (λh3=>?_) (λh3=>?_)]
 ·have hb:isB ps=false:=by unfold isB; rw[x3 (by lia),Dx]
  have r:=q _ (Same.refl _);rw[hb] at r;rwa[r]
 exists _,U,l,_,U,hL.1,_,_,U,U,_,rfl;erw[ifD (λh8=>?_) (λh8=>?_)]
 ·have hb:isB ps=false:=by unfold isB; rw[x3 (p:=ps.length<=8) (by lia),Dx,GE]
  have r:=q _ (Same.refl _);rw[hb] at r;rwa[r]
 have hb:isB ps=(Ai ps.length).all (vY ps):=by unfold isB; rw[q0 (by lia),q0 (by lia),Fj,Fj]
 refine⟨_,U,l,_,U,hL.1,_,U,(by lia),(by lia),λc D hD=>?_⟩;refine xk (lo:=0) (n:=(((wM ps).length:Nat):Int).toNat) (λj σ zs H'=>Same H H'/\H' D=Ig (.lst zs)/\zs=((Ai j).map (vY ps)).map V.bl/\∃ u0:Option V,σ=[u0,Ig (.ref l)])
  ⟨zD hD _,zA,rfl,Ih,rfl⟩ (λi σ ys H' _ ⟨_,e,_⟩=>e) ?_ ?_
 ·rintro j σ zs H' hj ⟨sH,eD,rfl,u0,rfl⟩;erw[_,U,_,U,l,ps,j,(by rw[HK]; rfl),hL.same sH,by lia,hn,λH2 s2=>⟨s2 _ _ eD,zT (by rw[a7,a7,Bm]; lia),(sH.trans s2).putNew hD,zA,?_,_,rfl⟩];rw[EB,j5,j5];rfl
 ·rintro σ zs H' ⟨sH,eD,rfl,u0,rfl⟩;exists D,_,U,SqL.of eD;have r:=q _ sH;rw[hb] at r;have e:((Ai (((wM ps).length:Nat):Int).toNat).map (vY ps)).all id=(Ai ps.length).all (vY ps):=by
   rw[AE,xL,FP];rfl
  rw[e];rwa[r]
def qW(K:b7):Sp:=λvs H Q _=>vs=[]/\∀(d:b9)(H':Hp),Same H H'->H d=Ih->fi H' d BS.nil->Q (.ref d) H'
def qk(F:Fun K "nothing_yet" "nothing_yet" uJ f fd)(Z:Zs mg)(CB:Cb P w mg base)  : yX P w K mg base CX0 1 f fd [] (qW K):=by
 specialize qp
 ·obtain⟨rfl,_⟩:=h;rfl
 obtain⟨rfl,q⟩:=h
 refine'⟨_,zF ?h,?_⟩
 rotate_left
 with_reducible refine' zM ?_
 rotate_left
 with_reducible exact gX (wI zK rA (wI zK rA (wI zK rA (wI zK rA (wI zK yL fo))))) rfl rfl (λz=>nomatch z) (by decide)
 try dsimp only[L2.cxOf]
 intro p hp m hm b hb r hr n hn;have s1:=zD hp (.dK []);have s2:=zD hm (.dK []);have s3:=zD hb (.dK []);have s4:=zD hr (.dK []);have s5:=zD hn (.dK []);have em:=(s3.trans (s4.trans s5)) _ _ zA;have eb:=(s4.trans s5) _ _ zA;have er:=s5 _ _ zA;have ep:=(s2.trans (s3.trans (s4.trans s5))) _ _ zA;exists ep,[(.inr "marks",.ref m),(.inr "banks",.ref b),(.inr "runs",.ref r),(.inr "notes",.ref n),(.inr "coming",.int 1)],U,(show 5<=15 by decide);rw[YG];have ne:∀{x:b9},(upd H p (.dK [])) x=Ih->x≠p:=λ{x} h z=>by rw[z,zA] at h; cases h
 have nb:=ne (s2.free hb);have nr:=ne (s2.free (s3.free hr));have nn:=ne (s2.free (s3.free (s4.free hn)));erw[q p _ (λc o e=>?_) hp ⟨m,b,r,n,.inl zA,.nil ?_,.nil ?_,.nil ?_,.nil ?_⟩]
 ·rw[zG (zH e hp)];exact(s1.trans (s2.trans (s3.trans (s4.trans s5)))) c o e
 ·rw[zG (ne hm)]; rwa[em]
 ·rw[zG nb]; rwa[eb]
 ·rw[zG nr]; rwa[er]
 ·rw[zG nn]; rwa[zA]
def xZ(K:b7):Sp:=λvs H Q _=>∃(d a:b9)(kind:g8)(key:Key)(v:V)(kvs ms:List (Key×V)),vs=[.ref d,.str kind,kV key,v]/\Rd H d (.dK kvs)/\wN kvs (.inr kind)=Ig (.ref a)/\Rd H a (.dK ms)/\kvs.length<=100/\ms.length<=100 /\
 ∀(f c:b9)(H':Hp),Same H H'->H f=Ih->f≠c->H' f=Ig (.dK (rJ kvs (.inr kind) (.ref c)))->H' c=Ig (.dK (rJ ms key v))->Q (.ref f) H'
def ij(F:Fun K "changed" "changed" qI f fd)(Z:Zs mg)(CB:Cb P w mg base)  : yX P w K mg base CX0 1 f fd ["state","kind","key","value"] (xZ K):=by
 specialize qt
 ·obtain⟨d,a,kind,key,v,kvs,ms,rfl,_⟩:=h;rfl
 obtain⟨d,a,kind,key,v,kvs,ms,rfl,hd,ea,ha,l1,l2,q⟩:=h
 refine'⟨_,(zC (yE 4 qt.nd ?_)
   (zC (rK (zU hr) (pv 4) (pv 1) (xP rO rfl Z.dict xf (zB (zO (zU hr) (pv 0) (pv 1) (λ_ _=>rfl)) zI)) rfl)
   (zC (rK (zU hr) (zO (zU hr) (pv 4) (pv 1) (λ_ _=>rfl)) (pv 2) (pv 3) rfl)
   (zF (zM (pv 4)))))),?_⟩
 nofun
 erw[_,U,d,kvs,U,hd,λp hp=>?_];have s1:=zD hp (.dK kvs);have hd1:Rd (upd H p (.dK kvs)) d (.dK kvs):=hd.imp (s1 _ _) λ⟨o,e⟩=>⟨o,s1 _ _ e⟩;have ha1:Rd (upd H p (.dK kvs)) a (.dK ms):=ha.imp (s1 _ _) λ⟨o,e⟩=>⟨o,s1 _ _ e⟩;erw[_,U,_,U,d,.ref a,U,.inl ⟨kvs,.inr kind,hd1,U,ea.symm⟩,a,ms,U,ha1,λc hc=>?_];have npc:p≠c:=zH zA hc;have s2:=zD hc (.dK ms);have e2:upd (upd H p (.dK kvs)) c (.dK ms) p=Ig (.dK kvs):=s2 _ _ zA;exists _,U,_,U,p,_,U,ie.k (k:=.inr kind) e2 (zT (by lia));have e3:upd (upd (upd H p (.dK kvs)) c (.dK ms)) p (.dK (rJ kvs (.inr kind) (.ref c))) c=Ig (.dK ms):=by rw[zG npc.symm,zA]
 erw[_,U,_,U,_,U,p,.ref c,U,.inl ⟨_,.inr kind,.inl zA,U,?_⟩,_,U,c,_,U,ie.k e3 (zT (by lia)),_,U,?_]
 ·rw[dw,y9 rfl]
 erw[q p c _ (λb o e=>?_) hp npc ?_ zA]
 ·have n1:=zH e hp;have n2:=zH (s1 _ _ e) hc;rw[zG n2,zG n1,zG n2,zG n1];rwa[e]
 ·rw[zG npc,zA]
def sX(K:b7):Sp:=λvs H Q _=>∃(d a:b9)(kind:g8)(key:Key)(v:V)(kvs ms:List (Key×V)),vs=[.ref d,.str kind,kV key]/\Rd H d (.dK kvs)/\wN kvs (.inr kind)=Ig (.ref a)/\Rd H a (.dK ms)/\wN ms key=Ig v/\kvs.length<=100 /\
 ∀(f c:b9)(H':Hp),Same H H'->H f=Ih->f≠c->H' f=Ig (.dK (rJ kvs (.inr kind) (.ref c)))->H' c=Ig (.dK (qe ms key))->Q (.ref f) H'
def iF(F:Fun K "without" "without" qD f fd)(Z:Zs mg)(CB:Cb P w mg base)  : yX P w K mg base CX0 1 f fd ["state","kind","key"] (sX K):=by
 specialize si
 ·obtain⟨d,a,kind,key,v,kvs,ms,rfl,_⟩:=h;rfl
 obtain⟨d,a,kind,key,v,kvs,ms,rfl,hd,ea,ha,ev,l1,q⟩:=h
 refine'⟨_,(zC (yE 3 si.nd ?_)
   (zC (rK (zU hr) (pv 3) (pv 1) (xP rO rfl Z.dict xf (zB (zO (zU hr) (pv 0) (pv 1) (λ_ _=>rfl)) zI)) rfl)
   (zC (yC (pR (zO (zU hr) (pv 3) (pv 1) (λ_ _=>rfl)) (pv 2) ⟨rfl,rfl,rfl,rfl⟩))
   (zF (zM (pv 3)))))),?_⟩
 nofun
 erw[_,U,d,kvs,U,hd,λp hp=>?_];have s1:=zD hp (.dK kvs);have hd1:Rd (upd H p (.dK kvs)) d (.dK kvs):=hd.imp (s1 _ _) λ⟨o,e⟩=>⟨o,s1 _ _ e⟩;have ha1:Rd (upd H p (.dK kvs)) a (.dK ms):=ha.imp (s1 _ _) λ⟨o,e⟩=>⟨o,s1 _ _ e⟩;erw[_,U,_,U,d,.ref a,U,.inl ⟨kvs,.inr kind,hd1,U,ea.symm⟩,a,ms,U,ha1,λc hc=>?_];have npc:p≠c:=zH zA hc;have s2:=zD hc (.dK ms);have e2:upd (upd H p (.dK kvs)) c (.dK ms) p=Ig (.dK kvs):=s2 _ _ zA;exists _,U,_,U,p,_,U,ie.k (k:=.inr kind) e2 (zT (by lia));have e3:upd (upd (upd H p (.dK kvs)) c (.dK ms)) p (.dK (rJ kvs (.inr kind) (.ref c))) c=Ig (.dK ms):=by rw[zG npc.symm,zA]
 erw[_,U,_,U,p,.ref c,U,.inl ⟨_,.inr kind,.inl zA,U,?_⟩,c,U,.inl ⟨ms,.inl e3⟩,_,U,ms,key,v,e3,U,ev,_,U,?_]
 ·rw[dw,y9 rfl]
 erw[q p c _ (λb o e=>?_) hp npc ?_ zA]
 ·have n1:=zH e hp;have n2:=zH (s1 _ _ e) hc;rw[zG n2,zG n1,zG n2,zG n1];rwa[e]
 ·rw[zG npc,zA]
def qw(ns:List Int)(m:Int):Bool:=ns.all λn=>decide (-m<=n)&&decide (n<=m)
def qQ(K:b7):Sp:=λvs H Q _=>∃(a:b9)(ns:List Int)(m:Int),vs=[.ref a,.int m]/\H a=Ig (.tup (ns.map V.int))/\ns.length<=100/\∀ H',Same H H'->Q (.bl (qw ns m)) H'
def gc(F:Fun K "within" "within" yi f fd)(Z:Zs mg)(CB:Cb P w mg base)  : yX P w K mg base CX0 1 f fd ["numbers","most"] (qQ K):=by
 specialize gM
 ·obtain⟨a,ns,m,rfl,_⟩:=h;rfl
 obtain⟨a,ns,m,rfl,ha,hl,q⟩:=h
 refine'⟨_,(zF (zM (zR (sC rfl) rfl Z.all pZ (zB (uX (T:=["number"]) (caps:=[("most",1)]) ⟨rfl,by ac_nf,by ac_nf,rfl,⟨⟨rfl,rfl,A4 rfl⟩,t7⟩⟩ rfl (fV (pv 0)) (λ_=>(rT 0 (show(["number","most"]:List g8).Nodup by ac_nf))) (λ_=>wH) (λ_=>(uv wg wg ?_ (pv 0) (pv 1)))) zI)))),?_⟩
 nofun
 refine⟨_,U,a,U,.inr ⟨⟨_,SqT.of ha⟩,λc D hD=>?_⟩⟩;refine jQ (K:=K) (a:=a) (xs:=ns.map V.int) (λi σ zs H'=>Same H H'/\H' D=Ig (.lst zs)/\zs=((ns.take i).map λn=>decide (-m<=n)&&decide (n<=m)).map V.bl/\∃ u0:Option V,σ=[u0,Ig (.int m)])
  ⟨zD hD _,zA,rfl,Ih,rfl⟩ (λi σ zs H' _ ⟨sH,e,_⟩=>⟨SqT.of (sH _ _ ha),e⟩) ?_ ?_
 ·rintro i x σ zs H' hi ⟨sH,eD,rfl,u0,rfl⟩;obtain⟨n,gn,rfl⟩:=uf hi;have hil:=(g9.mp gn).1;have len:(((ns.take i).map λn=>decide (-m<=n)&&decide (n<=m)).map V.bl).length<sizeLine:=zT (by rw[a7,a7,i9]; lia);have fin:∀ b:Bool,b=(decide (-m<=n)&&decide (n<=m))->((ns.take i).map λn=>decide (-m<=n)&&decide (n<=m)).map V.bl++[V.bl b]=((ns.take (i+1)).map λn=>decide (-m<=n)&&decide (n<=m)).map V.bl:=λb e=>by
   rw[w5,gn,e,j5,j5];rfl
  exists _,U,_,U,_,U,_,_,U,U,_,rfl;erw[ite2 (λh1=>?_) (λh1=>?_)]
  ·rwa[_,U,_,_,U,U,eD,len,sH.putNew hD,zA,fin _ (by rw[h1,Fj]),_,U]
  ·rwa[eD,len,sH.putNew hD,zA,fin _ (by rw[eq_false_of_ne_true h1,Dx]),_,U]
 ·rintro σ zs H' ⟨sH,eD,rfl,u0,rfl⟩;exists D,_,U,SqL.of eD;have r:=q _ sH;rw[a7,Al,FP];rwa[r]
def axC:Cl->b9
 | .badName=>uA
 | .taken=>qN
 | .badPlace=>wV
 | .full=>ze
 | .noMark=>tZ
 | .same=>xm
 | .needed=>sJ
 | .badBank=>tT
 | .noBank=>rW
 | .badRun=>tX
 | .noRun=>yn
 | .noMoment=>xW
 | .badWay=>vP
 | .badTurn=>tU
 | .noNote=>rS
def sN(_:b7):Sp:=λvs H Q E=>∃ x:g8,vs=[.str x]/\oj x/\eN (wL x) Q E uA H
def Xl(a c:Nat):(!decide ((⟨#[c]⟩:g8).cps.toList<(⟨#[a]⟩:g8).cps.toList))=decide (a<=c):=by
 have e:([c]<[a])↔c<a:=by
  rw[List.cons_lt_cons_iff];simp
 show(!decide ([c]<[a]))=_;by_cases h:c<a
 ·rw[q0 (e.mpr h),x3 (by lia)];rfl
 ·rw[x3 (λz=>h (e.mp z)),q0 (by lia)];rfl
def oP(F:Fun K "check_name" "check_name" vI f fd)(Z:Zs mg)(CB:Cb P w mg base)  : yX P w K mg base (CX1 P w) 1 f fd ["name"] (sN K):=by
 erw[F.okX og (λvs H Q E h=>?_) (λcdv A outer s H vs Q E hr h=>?_)]
 ·obtain⟨x,rfl,_⟩:=h;rfl
 obtain⟨x,rfl,as,q⟩:=h;exists _,(zF (zX (PW.pt (cG (yI cW (zR yu rfl Z.len wZ (zB (pv 0) zI)) yL (yS _)) (cG (yI lP (zR yu rfl Z.len wZ (zB (pv 0) zI)) (dn CB.LONGEST_NAME) (yS _)) (iQ (zj (yp (zR (sC rfl) rfl Z.all pZ (zB (uX (T:=["letter"]) (caps:=[]) ⟨rfl,by ac_nf,by ac_nf,rfl,t7⟩ rfl (cP (pv 0)) (λ_=>(qO (i:=0) (show(["letter"]:List g8).Nodup by ac_nf) rfl (A4 rfl))) (λ_=>wH) (λ_=>(uv jN jN zK (pv 0) zK))) zI)))))))) (zF (xB (λ_=>E) CB.e_BadName d5 (by decide) d5 xC (zB (wW (gW (pv 0) (wY sQ))) zI))) zN))
 try dsimp only[L2.cxOf]
 have hz:x.length<=sizeLine:=j8 as.2 (by decide);have go:∀ H',Same H H'->¬ wL x->Zq (UY (Zc 0) aE) [Ig (.str x)] H' (λv H1=>1<=sizeLine/\E (.ref uA) Ih H1):=λH' s' z=>⟨_,rfl,⟨x,rfl,as.big,j8 as.2 (by decide)⟩,λy _=>⟨by show 1<=sizeLine; decide,q.no z s'⟩⟩;exists _,U,x,U,hz,_,_,U,U,_,rfl;refine ifD (λz=>xO (go H (Same.refl _) λo=>x4 o.1 (by lia))) (λz1=>?_);exists _,U,x,U,hz,_,_,U,U,_,rfl;refine ifD (λz=>xO (go H (Same.refl _) λo=>x4 o.2.1 (by lia))) (λz2=>?_);have asc:x.cps.all (· < 128)=true:=by
  rw[Fx];intro c hm;rwa[q0 (as.1 c (C6.mpr hm))]
 refine⟨_,U,x,U,asc,λc D hD=>?_⟩;refine lv (xs:=qi x) (λi σ zs H'=>Same H H'/\H' D=Ig (.lst zs)/\(∃ bs:List Bool,zs=bs.map V.bl/\bs.length=i/\(bs.all id=Ii↔∀ c∈x.cps.toList.take i,97<=c/\c<=122))/\i<=x.length/\∃ u0:Option V,σ=[u0])
  ⟨zD hD _,zA,⟨[],rfl,rfl,by simp⟩,r9 _,Ih,rfl⟩ (λi σ zs H' ⟨_,e,_⟩=>⟨t7,e⟩) ?_ ?_
 ·rintro i v σ zs H' hi ⟨sH,eD,⟨bs,rfl,lb,ab⟩,hi8,u0,rfl⟩;unfold qi at hi;rw[d8,j7] at hi;obtain⟨n,gn,rfl⟩:=hi;have hil:i<x.length:=by
   have:=(g9.mp gn).1;rw[Aj] at this;rwa[this]
  have fin:∀ b:Bool,(b=Ii↔97<=n/\n<=122)->H' D=Ig (.lst (bs.map V.bl))/\(bs.map V.bl).length<sizeLine/\Same H (upd H' D (.lst (bs.map V.bl++[.bl b])))/\upd H' D (.lst (bs.map V.bl++[.bl b])) D=Ig (.lst (bs.map V.bl++[.bl b]))/\(∃ cs:List Bool,bs.map V.bl++[.bl b]=cs.map V.bl/\cs.length=i+1/\(cs.all id=Ii↔∀ c∈x.cps.toList.take (i+1),97<=c/\c<=122))/\i+1<=x.length:=λb hb=>by
   refine⟨eD,zT (by rw[a7]; have:=as.2; lia),sH.putNew hD,zA,⟨bs++[b],by rw[j5]; rfl,by rw[f8,lb]; rfl,?_⟩,hil⟩;rw[EG,o8,ab,w5,gn];simp only[Cz,Er,D3,id,hb,m7,Hu,d9];constructor
   ·rintro⟨h1,h2⟩ c (h | rfl)
    ·rwa[h1 c h]
    ·rwa[h2]
   ·rwa[λh=>⟨λc hc=>h c (.inl hc),h n (.inr rfl)⟩]
  exists _,U,_,_,U,U,_,rfl;rw[show(!decide (((⟨#[n]⟩:g8).cps.toList)<(("a" : g8).cps.toList)))=decide (97<=n) from Xl 97 n];erw[ifD (λh1=>?_) (λh1=>?_)]
  ·exists _,_,U,rfl;rw[show(!decide ((("z" : g8).cps.toList)<((⟨#[n]⟩:g8).cps.toList)))=decide (n<=122) from Xl n 122];obtain⟨f1,f2,f3,f4,f5,f6⟩:=fin (decide (n<=122)) (by simp[h1]);rwa[f1,f2,f3,f4,f5,f6,_,U]
  ·obtain⟨f1,f2,f3,f4,f5,f6⟩:=fin Ij (by simp[h1]);rwa[f1,f2,f3,f4,f5,f6,_,U]
 ·rintro σ zs H' ⟨sH,eD,⟨bs,rfl,lb,ab⟩,_,u0,rfl⟩;have lc:(qi x).length=x.cps.toList.length:=a7 _;rw[lc,Al] at ab;exists D,bs,U,SqL.of eD,_,rfl;cases hb:bs.all id with
  | true=>rwa[yO (q.yes ⟨by lia,by lia,ab.mp hb⟩ sH)]
  | false=>exact xO (go H' sH λo=>by rw[ab.mpr o.2.2] at hb; cases hb)
def sM(K:b7):Sp:=λvs H Q E=>∃(d a:b9)(kind:g8)(n:g8)(kvs ms:List (Key×V)),vs=[.ref d,.str kind,.str n]/\Rd H d (.dK kvs)/\wN kvs (.inr kind)=Ig (.ref a)/\Rd H a (.dK ms)/\kind.length<=1000/\n.length<=1000/\eN (wN ms (.inr n)=Ih) Q E qN H
def ng(F:Fun K "check_free" "check_free" vE f fd)(Z:Zs mg)(CB:Cb P w mg base)  : yX P w K mg base (CX1 P w) 1 f fd ["state","kind","name"] (sM K):=by
 erw[F.okX oy (λvs H Q E h=>?_) (λcdv A outer s H vs Q E hr h=>?_)]
 ·obtain⟨d,a,kind,n,kvs,ms,rfl,_⟩:=h;rfl
 obtain⟨d,a,kind,n,kvs,ms,rfl,hd,ea,ha,l1,l2,q⟩:=h;exists _,(zF (zX (qX (jA (zU hr) (pv 2) (zO (zU hr) (pv 0) (pv 1) (λ_ _=>rfl))) (by with_unfolding_all rfl)) (zF (xB (λ_=>E) CB.e_Taken d5 (by decide) d5 xC (zB (wW (wY (wq (pv 1) (wY (wq (pv 2) (wY sQ)))))) zI))) zN))
 try dsimp only[L2.cxOf]
 exists _,U,_,U,_,U,d,.ref a,U,.inl ⟨kvs,.inr kind,hd,U,ea.symm⟩,a,_,U,.inl ⟨ms,.inr n,ha,U,U⟩,_,rfl;cases e:wN ms (.inr n) with
 | none=>rwa[yO (q.yes e (Same.refl _))]
 | some v=>exact xO ⟨_,rfl,.inr ⟨kind,rfl,l1⟩,_,rfl,.inr ⟨n,rfl,l2⟩,λx _=>⟨by show 1<=sizeLine; decide,q.no (by rw[e]; exact λz=>nomatch z) (Same.refl _)⟩⟩
def wU(K:b7):Sp:=λvs H Q E=>∃(a:b9)(x y:Int),vs=[.ref a]/\H a=Ig (.tup [.int x,.int y])/\qY x/\qY y/\eN (qy (x,y)) Q E wV H
def pc{x y:Int} : qw [x,y] 1000=Ii↔qy (x,y):=by
 simp only[qw,qy,Cz,Er,D3,o8,decide_eq_true_eq,and_assoc]
def pz(F:Fun K "check_place" "check_place" uT f fd)(Z:Zs mg)(CB:Cb P w mg base)(yBq:Has P w K mg base "within" 1 ["numbers","most"] (qQ K)):yX P w K mg base (CX1 P w) 2 f fd ["place"] (wU K):=by
 erw[F.okX qj (λvs H Q E h=>?_) (λcdv A outer s H vs Q E hr h=>?_)]
 ·obtain⟨a,x,y,rfl,_⟩:=h;rfl
 obtain⟨a,x,y,rfl,ha,t1,t2,q⟩:=h;exists _,(zF (zX (zj (yp (uK yBq (hr.mono (by decide)) rfl (zB (pv 0) (zB (dn CB.FARTHEST) zI))))) (zF (xB (λ_=>E) CB.e_BadPlace d5 (by decide) d5 xC (zB (wW (iz hr.gd hr.units (pv 0) (wY sQ))) zI))) zN))
 try dsimp only[L2.cxOf]
 refine⟨_,U,a,[x,y],1000,U,ha,(by show 2<=100; decide),λH' s'=>⟨_,rfl,?_⟩⟩;cases e:qw [x,y] 1000 with
 | true=>rwa[yO (q.yes (pc.mp e) s')]
 | false=>exact xO ⟨_,rfl,⟨ptD (x,y),vQ (s' _ _ ha),oI t1 t2⟩,λz _=>⟨by show 1<=sizeLine; decide,q.no (λz=>by rw[pc.mpr z] at e; cases e) s'⟩⟩
def rH(K:b7):Sp:=λvs H Q E=>∃(a:b9)(x y:Int),vs=[.ref a]/\H a=Ig (.tup [.int x,.int y])/\qY x/\qY y/\eN (qy (x,y)) Q E tX H
def nW(F:Fun K "check_run" "check_run" tO f fd)(Z:Zs mg)(CB:Cb P w mg base)(yBq:Has P w K mg base "within" 1 ["numbers","most"] (qQ K)):yX P w K mg base (CX1 P w) 2 f fd ["run"] (rH K):=by
 erw[F.okX mz (λvs H Q E h=>?_) (λcdv A outer s H vs Q E hr h=>?_)]
 ·obtain⟨a,x,y,rfl,_⟩:=h;rfl
 obtain⟨a,x,y,rfl,ha,t1,t2,q⟩:=h;exists _,(zF (zX (zj (yp (uK yBq (hr.mono (by decide)) rfl (zB (pv 0) (zB (dn CB.FARTHEST) zI))))) (zF (xB (λ_=>E) CB.e_BadRun d5 (by decide) d5 xC (zB (wW (iz hr.gd hr.units (pv 0) (wY sQ))) zI))) zN))
 try dsimp only[L2.cxOf]
 refine⟨_,U,a,[x,y],1000,U,ha,(by show 2<=100; decide),λH' s'=>⟨_,rfl,?_⟩⟩;cases e:qw [x,y] 1000 with
 | true=>rwa[yO (q.yes (pc.mp e) s')]
 | false=>exact xO ⟨_,rfl,⟨ptD (x,y),vQ (s' _ _ ha),oI t1 t2⟩,λz _=>⟨by show 1<=sizeLine; decide,q.no (λz=>by rw[pc.mpr z] at e; cases e) s'⟩⟩
def xY(K:b7):Sp:=λvs H Q E=>∃(d a:b9)(kind:g8)(kvs ms:List (Key×V))(mx:Int),vs=[.ref d,.str kind]/\Rd H d (.dK kvs)/\wN kvs (.inr kind)=Ig (.ref a)/\Rd H a (.dK ms)/\wN VW (.inr kind)=Ig (.int mx)/\kind.length<=1000/\eN ((ms.length:Int)<mx) Q E ze H
def nv(F:Fun K "check_room" "check_room" vJ f fd)(Z:Zs mg)(CB:Cb P w mg base)  : yX P w K mg base (CX1 P w) 1 f fd ["state","kind"] (xY K):=by
 erw[F.okX pU (λvs H Q E h=>?_) (λcdv A outer s H vs Q E hr h=>?_)]
 ·obtain⟨d,a,kind,kvs,ms,mx,rfl,_⟩:=h;rfl
 obtain⟨d,a,kind,kvs,ms,mx,rfl,hd,ea,ha,em,l1,q⟩:=h;exists _,(zF (zX (yI Wa (zR vR rfl Z.len wZ (zB (zO (zU hr) (pv 0) (pv 1) (λ_ _=>rfl)) zI)) (ZX CB.dMOST CB.gMOST (pv 1)) (yS _)) (zF (xB (λ_=>E) CB.e_Full d5 (by decide) d5 xC (zB (wW (wY (wq (pv 1) (wY sQ)))) zI))) zN))
 try dsimp only[L2.cxOf]
 exists _,U,_,U,d,.ref a,U,.inl ⟨kvs,.inr kind,hd,U,ea.symm⟩,a,ms,U,ha,_,U,.inr kind,.int mx,U,em,_,_,U,U,_,rfl;exact ifD (λz=>⟨_,rfl,.inr ⟨kind,rfl,l1⟩,λx _=>⟨by show 1<=sizeLine; decide,q.no (by lia) (Same.refl _)⟩⟩) (λz=>q.yes (by lia) (Same.refl _))
def wA(K:b7):Sp:=λvs H Q E=>∃(d m b r n:b9)(S:BS)(x:g8),vs=[.ref d,.str x]/\StA H d m b r n S/\oj x/\eN ((zQ S x).isSome=Ii) Q E tZ H
def oU(F:Fun K "check_mark" "check_mark" vH f fd)(Z:Zs mg)(CB:Cb P w mg base)  : yX P w K mg base (CX1 P w) 1 f fd ["state","name"] (wA K):=by
 erw[F.okX oB (λvs H Q E h=>?_) (λcdv A outer s H vs Q E hr h=>?_)]
 ·obtain⟨d,m,b,r,n,S,x,rfl,_⟩:=h;rfl
 obtain⟨d,m,b,r,n,S,x,rfl,st,as,q⟩:=h;obtain⟨kvs,hm,kv⟩:=st.ma;exists _,(zF (zX (qX (sB (zU hr) (pv 1) (zO (zU hr) (pv 0) zK (λ_ _=>rfl))) (by with_unfolding_all rfl)) (zF (xB (λ_=>E) CB.e_NoMark d5 (by decide) d5 xC (zB (wW (wY (gW (pv 1) sQ))) zI))) zN))
 try dsimp only[L2.cxOf]
 exists _,U,_,U,d,.ref m,U,.inl ⟨_,.inr "marks",st.at_,U,tQ.symm⟩,m,_,U,.inl ⟨kvs,.inr x,hm,U,U⟩,_,rfl;rw[kv.isSome,wX,Av];cases e:(zQ S x).isSome with
 | true=>rwa[yO (q.yes e (Same.refl _))]
 | false=>exact xO ⟨_,rfl,⟨x,rfl,as.big,j8 as.2 (by decide)⟩,λy _=>⟨by show 1<=sizeLine; decide,q.no (by rw[e]; rwa[h9]) (Same.refl _)⟩⟩
def offM(n:Nat)(m:Int):Prop:=(m<0\/(n:Int)<m)/\m.natAbs.log2<1920
def uV(K:b7):Sp:=λvs H Q E=>∃(a:b9)(m:Int)(n:Nat),vs=[.int m,.ref a]/\((∃ xs,SqL K H a xs/\xs.length=n)\/∃ kvs,Rd H a (.dK kvs)/\kvs.length=n)/\((0<=m/\m<=n/\Q .non H)\/(offM n m/\E (.ref xW) Ih H))
def ue(F:Fun K "check_moment" "check_moment" wQ f fd)(Z:Zs mg)(CB:Cb P w mg base)  : yX P w K mg base (CX1 P w) 1 f fd ["moment","runs"] (uV K):=by
 erw[F.okX tu (λvs H Q E h=>?_) (λcdv A outer s H vs Q E hr h=>?_)]
 ·obtain⟨a,m,n,rfl,_⟩:=h;rfl
 obtain⟨a,m,n,rfl,ha,q⟩:=h
 refine'⟨_,(zF (zX (PW.pt (cG ?_ (iQ (yI lP (pv 0) (zR (uU.or yU vR) rfl Z.len wZ (zB (pv 1) zI)) (yS _))))) (zF (xB (λ_=>E) CB.e_NoMoment d5 (by decide) d5 xC (zB (wW (wY (wq (pv 0) sQ))) zI))) zN)),?_⟩
 nofun
 exists _,U,_,_,U,U,_,rfl;have go:¬ (0<=m/\m<=n)->Zq (Vu (Zc 0) aE) [Ig (.int m),Ig (.ref a)] H (λv H1=>1<=sizeLine/\E (.ref xW) Ih H1):=λz=>by
  rcases q with ⟨h0,hm,_⟩ | ⟨⟨_,sm⟩,q⟩
  ·rwa[x4 ⟨h0,hm⟩ z]
  ·rwa[_,U,.inl ⟨m,U,sm⟩,λx _=>⟨by decide,q⟩]
 erw[ifD (λz=>?_) (λz=>?_)]
 ·erw[xO ?_];rwa[go (λy=>x4 y.1 (by lia))]
 exists _,U,_,rfl;rcases ha with ⟨xs,hx,rfl⟩ | ⟨kvs,hx,rfl⟩
 ·erw[.inl ⟨a,xs,rfl,.inl hx,_,_,rfl,rfl,_,rfl,?_⟩];erw[ifD (λy=>go (λy=>x4 y.2 (by lia))) (λy=>?_)];rcases q with ⟨_,_,q⟩ | ⟨⟨o,_⟩,_⟩
  ·rwa[q]
  ·rwa[x4 o (by lia)]
 ·erw[.inr ⟨a,kvs,rfl,hx,_,_,rfl,rfl,_,rfl,?_⟩];erw[ifD (λy=>go (λy=>x4 y.2 (by lia))) (λy=>?_)];rcases q with ⟨_,_,q⟩ | ⟨⟨o,_⟩,_⟩
  ·rwa[q]
  ·rwa[x4 o (by lia)]
def yc(K:b7):Sp:=λvs H Q E=>∃(a:b9)(x y:Int),vs=[.ref a]/\H a=Ig (.tup [.int x,.int y])/\qY x/\qY y/\eN (ug (x,y)) Q E vP H
def aO{x y:Int} : qw [x,y] 100=Ii↔(-100<=x/\x<=100/\-100<=y/\y<=100):=by
 simp only[qw,Cz,Er,D3,o8,decide_eq_true_eq,and_assoc]
def nO(F:Fun K "check_way" "check_way" tN f fd)(Z:Zs mg)(CB:Cb P w mg base)(yBq:Has P w K mg base "within" 1 ["numbers","most"] (qQ K)):yX P w K mg base (CX1 P w) 2 f fd ["direction"] (yc K):=by
 erw[F.okX nT (λvs H Q E h=>?_) (λcdv A outer s H vs Q E hr h=>?_)]
 ·obtain⟨a,x,y,rfl,_⟩:=h;rfl
 obtain⟨a,x,y,rfl,ha,t1,t2,q⟩:=h
 refine'⟨_,(zF (zX (PW.pt (cG (yI (dq hr.units0) (pv 0) ?_ (yS _)) (iQ (zj (yp (uK yBq (hr.mono (by decide)) rfl (zB (pv 0) (zB (dn CB.LONGEST_WAY) zI)))))))) (zF (xB (λ_=>E) CB.e_BadWay d5 (by decide) d5 xC (zB (wW (iz hr.gd hr.units (pv 0) (wY sQ))) zI))) zN)),?_⟩
 nofun
 erw[_,U,sz2,λp hp=>?_];have sp:=zD hp (.tup [.int 0,.int 0]);have ha':=sp _ _ ha;have go:∀ H',Same H H'->¬ ug (x,y)->Zq (UJ (Zc 0) aE) [Ig (.ref a)] H' (λv H1=>1<=sizeLine/\E (.ref vP) Ih H1):=λH' s' z=>⟨_,rfl,⟨ptD (x,y),vQ (s' _ _ ha),oI t1 t2⟩,λy _=>⟨by show 1<=sizeLine; decide,q.no z s'⟩⟩;exists a,p,[x,y],[0,0],U,U,SqT.of ha',SqT.of zA,_,rfl;refine ifD (λz=>xO (go _ sp λo=>o.1 (show(x,y)=(0,0) by simp at z; rw[z.1,z.2]))) (λz=>?_);refine⟨_,U,a,[x,y],100,U,ha',(by show 2<=100; decide),λH' s'=>⟨_,rfl,?_⟩⟩;have s2:=sp.trans s';cases e:qw [x,y] 100 with
 | true=>exact yO (q.yes ⟨λy=>z (by injection y with y1 y2; rw[y1,y2]),aO.mp e⟩ s2)
 | false=>exact xO (go _ s2 λo=>by rw[aO.mpr o.2] at e; cases e)
def tI(K:b7):Sp:=λvs H Q E=>∃(d m b r n:b9)(S:BS)(x y:g8)(p u:Int×Int),vs=[.ref d,.str x,.str y]/\StA H d m b r n S/\zQ S x=Ig p/\zQ S y=Ig u/\x.length<=1000/\y.length<=1000/\eN (p≠u) Q E xm H
def qq(F:Fun K "check_apart" "check_apart" uE f fd)(Z:Zs mg)(CB:Cb P w mg base)  : yX P w K mg base (CX1 P w) 1 f fd ["state","left","right"] (tI K):=by
 erw[F.okX qh (λvs H Q E h=>?_) (λcdv A outer s H vs Q E hr h=>?_)]
 ·obtain⟨d,m,b,r,n,S,x,y,p,u,rfl,_⟩:=h;rfl
 obtain⟨d,m,b,r,n,S,x,y,p,u,rfl,st,ex,ey,l1,l2,q⟩:=h;obtain⟨kvs,hm,kv⟩:=st.ma;obtain⟨v1,g1,r1⟩:=kv.get (k:=.inr x) (d:=ptD p) (by rw[wX,ex]; rfl);obtain⟨v2,g2,r2⟩:=kv.get (k:=.inr y) (d:=ptD u) (by rw[wX,ey]; rfl);obtain⟨a1,rfl,h1⟩:=xz r1;obtain⟨a2,rfl,h2⟩:=xz r2;exists _,(zF (zX (yI (dq hr.units0) (zO (zU hr) (zO (zU hr) (pv 0) zK (λ_ _=>rfl)) (pv 1) (λ_ _=>rfl)) (zO (zU hr) (zO (zU hr) (pv 0) zK (λ_ _=>rfl)) (pv 2) (λ_ _=>rfl)) (yS _)) (zF (xB (λ_=>E) CB.e_Same d5 (by decide) d5 xC (zB (wW (wq (pv 1) (wY (wq (pv 2) (wY sQ))))) zI))) zN))
 try dsimp only[L2.cxOf]
 refine⟨_,U,d,.ref m,U,.inl ⟨_,.inr "marks",st.at_,U,tQ.symm⟩,_,U,m,_,U,.inl ⟨kvs,.inr x,hm,U,g1.symm⟩,_,U,d,.ref m,U,.inl ⟨_,.inr "marks",st.at_,U,tQ.symm⟩,_,U,m,_,U,.inl ⟨kvs,.inr y,hm,U,g2.symm⟩,
  a1,a2,[p.1,p.2],[u.1,u.2],rfl,rfl,SqT.of h1,SqT.of h2,_,rfl,?_⟩
 exact ifD (λz=>⟨_,rfl,.inr ⟨x,rfl,l1⟩,_,rfl,.inr ⟨y,rfl,l2⟩,λx _=>⟨by show 1<=sizeLine; decide,q.no (λne=>ne (by simp at z; rwa[FJ z.1 z.2])) (Same.refl _)⟩⟩) (λz=>q.yes (λe=>z (by rw[e])) (Same.refl _))
def sP(_:b7):Sp:=oX axC λD=>∃ n x y,D=.mark n x y
def ou(F:Fun K "after_mark" "after_mark" vC f fd)(Z:Zs mg)(CB:Cb P w mg base)(yBl:Has P w K mg base "changed" 1 ["state","kind","key","value"] (xZ K))(yAv:qS P w K mg base "check_room" 1 ["state","kind"] (xY K))(yAk:qS P w K mg base "check_place" 2 ["place"] (wU K))(yAw:qS P w K mg base "check_free" 1 ["state","kind","name"] (sM K))(yAq:qS P w K mg base "check_name" 1 ["name"] (sN K)):yX P w K mg base (CX1 P w) 3 f fd ["state","row"] (sP K):=by
 erw[F.okX sR (λvs H Q E h=>?_) (λcdv A outer s H vs Q E hr h=>?_)]
 ·obtain⟨d,v,S,D,rfl,_⟩:=h;rfl
 obtain⟨d,v,S,D,rfl,⟨n,x,y,rfl⟩,⟨m,b,r,t,st⟩,hv,tm,wl,q,bad⟩:=h;obtain⟨a,rfl,ha⟩:=lu hv;obtain⟨an,tx,ty⟩:=tm
 refine'⟨_,(zC (PS.nox (yE 2 sR.nd ?_))
   (zC (PS.nox (yE 3 sR.nd ?_))
   (zC (yC (yH (λ_=>E) yAq yD (hr.mono (by decide)) rfl (zB (pv 2) zI)))
   (zC (yC (yH (λ_=>E) yAw yD (hr.mono (by decide)) rfl (zB (pv 0) (zB zK (zB (pv 2) zI)))))
   (zC (yC (yH (λ_=>E) yAk yD (hr.mono (by decide)) rfl (zB (pv 3) zI)))
   (zC (yC (yH (λ_=>E) yAv yD (hr.mono (by decide)) rfl (zB (pv 0) (zB zK zI))))
   (zF (PS.nox (zM ?_))))))))),?_⟩
 nofun
 exists _,U,a,_,_,.str n,U,U,.inr (SqT.of ha),rfl;refine⟨_,U,a,_,_,.int x,U,U,.inr (SqT.of ha),U,_,U,a,_,_,.int y,U,U,.inr (SqT.of ha),U,sz2,λp hp=>?_⟩;have s1:=zD hp (.tup [.int x,.int y]);refine⟨_,U,n,U,an,.of (λk1 H2 s2=>?_) (λno H2 s2=>bad .badName (by simp[zS,no]) _ (.of (s1.trans s2)))⟩;have s12:=s1.trans s2;have st2:=st.to (.of s12);obtain⟨kvs,hm,kv⟩:=st2.ma;have ep:=s2 _ _ (show upd H p (.tup [.int x,.int y]) p=_ from zA);refine⟨_,U,_,U,d,m, "marks",n,_,kvs,U,st2.at_,tQ,hm,(by decide),j8 an.2 (by decide),.of (λk2 H3 s3=>?_) (λno H3 s3=>bad .taken (by
  have:¬ zQ S n=none:=λz=>no ((aw kv).mpr z);simp[zS,k1,yg this]) _ (.of (s12.trans s3)))⟩
 have k2:=(aw kv).mp k2;have s13:=s12.trans s3;refine⟨_,U,p,x,y,U,s3 _ _ ep,tx,ty,.of (λk3 H4 s4=>?_) (λno H4 s4=>bad .badPlace (by simp[zS,k1,k2,no]) _ (.of (s13.trans s4)))⟩;have s14:=s13.trans s4;have s24:=s3.trans s4;have st4:=st.to (.of s14);have hm4:=Rd.same hm s24;refine⟨_,U,d,m, "marks",_,kvs,20,U,st4.at_,tQ,hm4,(by symm),(by decide),.of (λk4 H5 s5=>?_) (λno H5 s5=>bad .full (by
  rw[kv.length,zm] at no;simp[zS,k1,k2,k3,show 20<=S.marks.length by lia]) _ (.of (s14.trans s5)))⟩
 rw[kv.length,zm] at k4;have s15:=s14.trans s5;have s25:=s24.trans s5;have st5:=st.to (.of s15);erw[_,U,_,U,_,U,d,m, "marks",.inr n,.ref p,_,kvs,U,st5.at_,tQ,Rd.same hm s25,StA.stKlen,kv.le (by rw[zm]; lia),λf c H6 s6 hf _ ef ec=>?_];have s16:=s15.trans s6;have st6:=st.to (.of s16);rw[oW] at ef;erw[q (by simp[zS,k1,k2,k3]; lia) f H6 (.of s16) (s15.free hf) ⟨c,b,r,t,.inl ef,⟨_,.inl ec,?_⟩,st6.ba,st6.ru,st6.no⟩];show xS H6 _ (mkE (S.marks++[(n,x,y)]));rw[Zj,<- sV (dh k2)];exact(kv.to (.of (s25.trans s6))).put (vQ ((s25.trans s6) _ _ ep))
def tW(_:b7):Sp:=oX axC λD=>∃ k x y,D=.move k x y
def nG(F:Fun K "after_move" "after_move" vD f fd)(Z:Zs mg)(CB:Cb P w mg base)(yAh:qS P w K mg base "check_apart" 1 ["state","left","right"] (tI K))(yBl:Has P w K mg base "changed" 1 ["state","kind","key","value"] (xZ K))(yAk:qS P w K mg base "check_place" 2 ["place"] (wU K))(yAr:qS P w K mg base "check_mark" 1 ["state","name"] (wA K)):yX P w K mg base (CX1 P w) 3 f fd ["state","row"] (tW K):=by
 erw[F.okX uL (λvs H Q E h=>?_) (λcdv A outer s H vs Q E hr h=>?_)]
 ·obtain⟨d,v,S,D,rfl,_⟩:=h;rfl
 obtain⟨d,v,S,D,rfl,⟨k,x,y,rfl⟩,⟨m,b,r,t,st⟩,hv,tm,wl,q,bad⟩:=h;obtain⟨a,rfl,ha⟩:=lH hv;obtain⟨an,tx,ty⟩:=tm
 refine'⟨_,(zC (PS.nox (yE 2 uL.nd ?_))
   (zC (yC (yH (λ_=>E) yAr yD (hr.mono (by decide)) rfl ?_))
   (zC (yC (yH (λ_=>E) yAk yD (hr.mono (by decide)) rfl (zB (pv 2) zI)))
   (zC (PS.nox (yE 3 uL.nd ?_))
   (zC (sZ DY rfl (kG (zO (zU hr) (pv 3) zK (λ_ _=>rfl))) (rT 4 uL.nd) (zF (zX ?_ (zF (yC (yH (λ_=>E) yAh yD (hr.mono (by decide)) rfl ?_))) zN)))
   (zF (PS.nox (zM (pv 3))))))))),?_⟩
 nofun
 refine⟨_,U,a,_,_,.int x,U,U,.inr (SqT.of ha),U,_,U,a,_,_,.int y,U,U,.inr (SqT.of ha),U,sz2,λp hp=>?_⟩;have s1:=zD hp (.tup [.int x,.int y]);have ep1:upd H p (.tup [.int x,.int y]) p=Ig (.tup [.int x,.int y]):=zA;have st1:=st.to (.of s1);refine⟨_,U,_,U,a,_,_,.str k,U,U,.inr (SqT.of (s1 _ _ ha)),U,d,m,b,r,t,S,k,U,st1,an,.of (λk1 H2 s2=>?_) (λno H2 s2=>bad .noMark (by
  have:zQ S k=none:=by cases e:zQ S k <;> simp[e] at no ⊢
  simp only[zS,y9 this]) _ (.of (s1.trans s2)))⟩
 have k1':¬ zQ S k=none:=λz=>by rw[z] at k1; cases k1
 erw[_,U,p,x,y,U,s2 _ _ ep1,tx,ty,.of (λk2 H3 s3=>?_) (λno H3 s3=>bad .badPlace (by simp only[zS,y7 k1',y9 no]) _ (.of ((s1.trans s2).trans s3)))];have s13:=(s1.trans s2).trans s3;have ep3:=s3 _ _ (s2 _ _ ep1);have st3:=st.to (.of s13);obtain⟨mvs,hm,km⟩:=st3.ma;refine⟨_,U,_,U,a,_,_,.str k,U,U,.inr (SqT.of (s13 _ _ ha)),U,_,U,d,m, "marks",.inr k,.ref p,_,mvs,U,st3.at_,tQ,hm,StA.stKlen,km.le (by rw[zm]; have:=wl.good.few.ma; lia),λf c H4 s4 hf _ ef ec=>?_⟩;have s14:=s13.trans s4;have st4:=st.to (.of s14);rw[oW] at ef;have fst:StA H4 f c b r t (aft S (.move k x y)):=⟨.inl ef,⟨_,.inl ec,by rw[<- aG k1]; exact(km.to (.of s4)).put (vQ (p:=(x,y)) (s4 _ _ ep3))⟩,st4.ba,st4.ru,st4.no⟩;obtain⟨nk,hn,kn⟩:=fst.no;obtain⟨ks,rfl,e1,rk⟩:=vh kn;have lks:ks.length=S.notes.length:=by have:=congrArg A3 e1; rw[a7,a7] at this; rwa[this]
 refine⟨_,U,f,.ref t,U,.inl ⟨_,.inr "notes",fst.at_,U,qH.symm⟩,t,_,U,hn,λo H5 fz=>?_⟩;have s5:Sam H4 H5:=nh hn fz;refine ZV (λi σ H'=>Sam H4 H'/\gR t o (ks.map λe=>(.inl e.1,e.2)) H'/\(∀ e∈S.notes.take i,ui (aft S (.move k x y)) e.2)/\∃ u:Option V,σ=[Ig (.ref d),Ig (.ref a),Ig (.ref p),Ig (.ref f),u])
  ⟨s5,fz.1,λe he=>(nomatch he),Ih,rfl⟩ (λi σ H' h=>h.2.1) ?_ ?_
 ·rintro i x' σ H' gx ⟨s6,fa,ul,u,rfl⟩;have gx':(ks.map (·.2))[i]?=Ig x':=by rw[t5] at gx; rwa[gx]
  obtain⟨dt,gd,rd⟩:=rk.back gx';rw[d8,j7] at gd;obtain⟨e,ge,rfl⟩:=gd;have ge:S.notes[i]?=Ig e:=ge;have mem:=i8 ge;have kn:=wl.good.note e mem;have rd3:=rd.to s6;have snoc:ui (aft S (.move k x y)) e.2->∀ e'∈S.notes.take (i+1),ui (aft S (.move k x y)) e'.2:=λh e' he'=>by
   rw[w5,ge] at he';rcases m7.mp he' with z | z
   ·rwa[ul e' z]
   ·rw[d9.mp z]; rwa[h]
  match hE:e.2,kn,rd3 with
  | .bearing mo n x1 y1 x2 y2,kn,rd3 =>
   obtain⟨c,c1,c2,rfl,hc,hc1,hc2⟩:=uB rd3;exists _,U,c,_,0,.str "bearing",U,U,.inr (SqT.of hc),U,U,_,rfl;rwa[yO ⟨s6,fa,snoc (by rw[hE]; trivial),_,rfl⟩]
  | .range mo l1 r1,kn,rd3 =>
   obtain⟨c',rfl,hc⟩:=sY rd3;obtain⟨_,_,i1,i2,_⟩:=kn;have o1:=wl.mark i1;have o2:=wl.mark i2;obtain⟨p1,g1⟩:=k9.mp (vU (n:=k) (x:=x) (y:=y) i1);obtain⟨p2,g2⟩:=k9.mp (vU (n:=k) (x:=x) (y:=y) i2);exists _,U,c',_,0,.str "range",U,U,.inr (SqT.of hc),U,U,_,rfl;refine xO ?_;refine⟨_,U,_,U,c',_,2,.str l1,U,U,.inr (SqT.of hc),U,_,U,c',_,3,.str r1,U,U,.inr (SqT.of hc),U,f,_,_,_,_,_,l1,r1,p1,p2,U,fst.to s6,g1,g2,j8 o1.2.1 (by decide),j8 o2.2.1 (by decide),.of (λne H7 s7=>?_) (λno H7 s7=>bad .same (by
    have z:¬ ∀ e∈S.notes,ui (aft S (.move k x y)) e.2:=λz=>by
     have z:=z e mem;rw[hE] at z;obtain⟨u1,u2,h1,h2,h3⟩:=z;rw[g1] at h1;rw[g2] at h2;cases h1;cases h2;rwa[no h3]
    simp only[zS,y7 k1',y7 (e9.mpr k2),y7 z]) _ (((yY.of s14).trans s6).trans (.of s7)))⟩
   rwa[s6.trans (.of s7),s7 _ _ fa,snoc (by rw[hE]; exact⟨p1,p2,g1,g2,ne⟩),_,U]
 ·rintro σ H' ⟨s6,fa,ul,u,rfl⟩;rw[a7,a7,lks,Al] at ul;rwa[_,U,q (by simp only[zS,y7 k1',y7 (e9.mpr k2),y9 ul]) f H' ((yY.of s14).trans s6) (s13.free hf) ⟨_,_,_,_,fst.to s6⟩]
def uW(_:b7):Sp:=oX axC λD=>∃ k,D=.unmark k
def uh(F:Fun K "after_unmark" "after_unmark" wR f fd)(Z:Zs mg)(CB:Cb P w mg base)(yBi:Has P w K mg base "without" 1 ["state","kind","key"] (sX K))(yAr:qS P w K mg base "check_mark" 1 ["state","name"] (wA K)):yX P w K mg base (CX1 P w) 2 f fd ["state","row"] (uW K):=by
 erw[F.okX uZ (λvs H Q E h=>?_) (λcdv A outer s H vs Q E hr h=>?_)]
 ·obtain⟨d,v,S,D,rfl,_⟩:=h;rfl
 obtain⟨d,v,S,D,rfl,⟨k,rfl⟩,⟨m,b,r,t,st⟩,hv,tm,wl,q,bad⟩:=h;obtain⟨a,rfl,ha⟩:=wf hv
 refine'⟨_,(zC (PS.nox (yE 2 uZ.nd ?_))
   (zC (yC (yH (λ_=>E) yAr yD (hr.mono (by decide)) rfl (zB (pv 0) (zB (pv 2) zI))))
   (zC (sZ DY rfl (kG (zO (zU hr) (pv 0) zK (λ_ _=>rfl))) (rT 3 uZ.nd) (zF (zX (yI (bP (zU hr)) (pv 2) (uG sj (pv 3) (sI yL) sS) (by with_unfolding_all rfl)) (zF (xB (λ_=>E) CB.e_Needed d5 (by decide) d5 xC (zB (wW (wY (wq (pv 2) sQ))) zI))) zN)))
   (zF (PS.nox (zM ?_)))))),?_⟩
 nofun
 exists _,U,a,_,_,.str k,U,U,.inr (SqT.of ha),rfl;refine⟨_,U,_,U,d,m,b,r,t,S,k,U,st,tm,.of (λk1 H1 s1=>?_) (λno H1 s1=>bad .noMark (by
  have:zQ S k=none:=by cases e:zQ S k <;> simp[e] at no ⊢
  simp only[zS,y9 this]) _ (.of s1))⟩
 have k1':¬ zQ S k=none:=λz=>by rw[z] at k1; cases k1
 have st1:=st.to (.of s1);obtain⟨nk,hn,kn⟩:=st1.no;obtain⟨ks,rfl,e1,rk⟩:=vh kn;have lks:ks.length=S.notes.length:=by have:=congrArg A3 e1; rw[a7,a7] at this; rwa[this]
 refine⟨_,U,d,.ref t,U,.inl ⟨_,.inr "notes",st1.at_,U,qH.symm⟩,t,_,U,hn,λo H2 fz=>?_⟩;have s2:Sam H1 H2:=nh hn fz;refine ZV (λi σ H'=>Sam H1 H'/\gR t o (ks.map λe=>(.inl e.1,e.2)) H'/\(∀ e∈S.notes.take i,rQ k e.2)/\∃ u:Option V,σ=[Ig (.ref d),Ig (.ref a),Ig (.str k),u])
  ⟨s2,fz.1,λe he=>(nomatch he),Ih,rfl⟩ (λi σ H' h=>h.2.1) ?_ ?_
 ·rintro i x σ H' gx ⟨s3,fa,ul,u,rfl⟩;have gx':(ks.map (·.2))[i]?=Ig x:=by rw[t5] at gx; rwa[gx]
  obtain⟨dt,gd,rd⟩:=rk.back gx';rw[d8,j7] at gd;obtain⟨e,ge,rfl⟩:=gd;have mem:=i8 ge;have kn:=wl.good.note e mem;have rd3:=rd.to s3;have snoc:rQ k e.2->∀ e'∈S.notes.take (i+1),rQ k e'.2:=λh e' he'=>by
   rw[w5,ge] at he';rcases m7.mp he' with z | z
   ·rwa[ul e' z]
   ·rw[d9.mp z]; rwa[h]
  have needed:¬ rQ k e.2->∀ H4,Same H' H4->Zq (Vu (Zc 2) aE) [Ig (.ref d),Ig (.ref a),Ig (.str k),Ig x] H4 (λv H1=>1<=sizeLine/\E (.ref sJ) Ih H1):=λno H4 s4=>⟨_,rfl,.inr ⟨k,rfl,j8 tm.2 (by decide)⟩,λy _=>⟨by show 1<=sizeLine; decide,bad .needed (by
   simp only[zS,y7 k1',y7 (show ¬ ∀ e∈S.notes,rQ k e.2 from λz=>no (z e mem))]) _ (((yY.of s1).trans s3).trans (.of s4))⟩⟩
  match hE:e.2,kn,rd3 with
  | .bearing mo n x1 y1 x2 y2,kn,rd3 =>
   obtain⟨c,c1,c2,rfl,hc,hc1,hc2⟩:=uB rd3;refine⟨_,U,_,U,_,U,c,_,U,SqT.of hc,(λz=>x4 z.1 (by show ¬ HT.sIx 5 0 (Ig 2)=0; decide)),λp hp=>?_⟩;have sp:=zD hp (.tup (zg [.str "bearing",.int mo,.str n,.ref c1,.ref c2] (Ig 2) Ih));erw[p,[.str n,.ref c1,.ref c2],k,U,U,SqT.of zA,λv hv=>?_,_,U,?_]
   ·rcases i7.mp hv with z | hv
    ·rwa[.inl ⟨n,z⟩]
    rcases i7.mp hv with z | hv
    ·rwa[.inr ⟨c1,_,z,SqT.of (sp _ _ hc1)⟩]
    ·rwa[.inr ⟨c2,_,d9.mp hv,SqT.of (sp _ _ hc2)⟩]
   have nn:([V.str n,.ref c1,.ref c2].any (isS k))=(n == k):=by
    show((n == k)||(Ij||(Ij||false)))=(n == k);cases n == k <;> rfl
   rw[nn];cases hb:n == k with
   | true=>rwa[xO (needed (by rw[hE]; exact λz=>z (eq_of_beq hb)) _ sp)]
   | false=>rwa[yO ⟨s3.trans (.of sp),sp _ _ fa,snoc (by rw[hE]; exact x5.mp hb),_,rfl⟩]
  | .range mo l1 r1,kn,rd3 =>
   obtain⟨c,rfl,hc⟩:=sY rd3;refine⟨_,U,_,U,_,U,c,_,U,SqT.of hc,(λz=>x4 z.1 (by show ¬ HT.sIx 4 0 (Ig 2)=0; decide)),λp hp=>?_⟩;have sp:=zD hp (.tup (zg [.str "range",.int mo,.str l1,.str r1] (Ig 2) Ih));erw[p,[.str l1,.str r1],k,U,U,SqT.of zA,λv hv=>?_,_,U,?_]
   ·rcases i7.mp hv with z | hv
    ·rwa[.inl ⟨l1,z⟩]
    ·rwa[.inl ⟨r1,d9.mp hv⟩]
   have nn:([V.str l1,.str r1].any (isS k))=(l1 == k||r1 == k):=by
    show((l1 == k)||((r1 == k)||false))=_;rw[Ff]
   rw[nn];cases hb:(l1 == k||r1 == k) with
   | true=>exact xO (needed (by
     rw[hE];rintro⟨h1,h2⟩;rcases Ew _ _ |>.mp hb with z | z
     ·rwa[h1 (eq_of_beq z)]
     ·rwa[h2 (eq_of_beq z)]) _ sp)
   | false =>
    rw[Ci] at hb;rwa[yO ⟨s3.trans (.of sp),sp _ _ fa,snoc (by rw[hE]; exact⟨x5.mp hb.1,x5.mp hb.2⟩),_,U⟩]
 ·rintro σ H' ⟨s3,fa,ul,u,rfl⟩;rw[a7,a7,lks,Al] at ul;have st3:=st1.to s3;obtain⟨mvs,hm,km⟩:=st3.ma;obtain⟨p,ep⟩:=k9.mp k1;obtain⟨v,ev,_⟩:=km.get (k:=.inr k) (d:=ptD p) (by rw[wX,ep]; rfl);erw[_,U,_,U,d,m, "marks",.inr k,v,_,mvs,U,st3.at_,tQ,hm,ev,StA.stKlen,λf c H4 s4 hf ne ef ec=>?_];have st4:=st3.to (.of s4);have s03:=(yY.of s1).trans s3;rw[oW] at ef;erw[q (by simp only[zS,y7 k1',y9 ul]) f H4 (s03.trans (.of s4)) (s03.free id hf) ⟨c,b,r,t,.inl ef,⟨_,.inl ec,?_⟩,st4.ba,st4.ru,st4.no⟩];have:=(km.to (.of s4)).drop (k:=.inr k);rw[eB] at this;rwa[this]
def tY(_:b7):Sp:=oX axC λD=>∃ n cs,D=.bank n cs
def cn_ok{H:Hp}{cs:List (Int×Int)}{ps:List Pr}(h:Tj H cs ps)(hn:∀ c∈cs,c.1.natAbs.log2<20/\c.2.natAbs.log2<20):VC H (10^8) ps:=λt ht=>by
 obtain⟨h1,h2⟩:=hn t.2 (by rw[<- h.pt]; rwa[i4.mpr ⟨t,ht,rfl⟩]);have e1:=lt_two_pow_of_log2_lt h1;have e2:=lt_two_pow_of_log2_lt h2;have e3:(2:Nat)^20<=10^8:=by decide
 rwa[h.at_ t ht,by lia,by lia]
def oh(F:Fun K "after_bank" "after_bank" vK f fd)(Z:Zs mg)(CB:Cb P w mg base)(yBl:Has P w K mg base "changed" 1 ["state","kind","key","value"] (xZ K))(yAv:qS P w K mg base "check_room" 1 ["state","kind"] (xY K))(yBn:Has P w K mg base "is_bank" 3 ["corners"] (sr K))(yAk:qS P w K mg base "check_place" 2 ["place"] (wU K))(yAw:qS P w K mg base "check_free" 1 ["state","kind","name"] (sM K))(yAq:qS P w K mg base "check_name" 1 ["name"] (sN K)):yX P w K mg base (CX1 P w) 4 f fd ["state","row"] (tY K):=by
 erw[F.okX uO (λvs H Q E h=>?_) (λcdv A outer s H vs Q E hr h=>?_)]
 ·obtain⟨d,v,S,D,rfl,_⟩:=h;rfl
 obtain⟨d,v,S,D,rfl,⟨n,cs,rfl⟩,⟨m,b,r,t,st⟩,hv,tm,wl,q,bad⟩:=h;obtain⟨a,cc,ps,rfl,ha,hc,cn,rc⟩:=nu hv;obtain⟨an,l12,tc⟩:=tm;have shw:=iP l12 tc;have lps:ps.length<=12:=by rw[<- cn.pt,a7] at l12; rwa[l12]
 refine'⟨_,(zC (PS.nox (yE 2 uO.nd ?_))
   (zC (PS.nox (yE 3 uO.nd ?_))
   (zC (yC (yH (λ_=>E) yAq yD (hr.mono (by decide)) rfl (zB (pv 2) zI)))
   (zC (yC (yH (λ_=>E) yAw yD (hr.mono (by decide)) rfl (zB (pv 0) (zB zK (zB (pv 2) zI)))))
   (zC (sZ DY rfl (fV (pv 3)) (rT 4 uO.nd) (zF (yC (yH (λ_=>E) yAk yD (hr.mono (by decide)) rfl (zB (pv 4) zI)))))
   (zC (zX ?_ (zF (xB (λ_=>E) CB.e_BadBank d5 (by decide) d5 xC (zB (wW (iz hr.gd hr.units (pv 3) (wY sQ))) zI))) zN)
   (zC (yC (yH (λ_=>E) yAv yD (hr.mono (by decide)) rfl (zB (pv 0) (zB zK zI))))
   (zF (PS.nox (zM ?_)))))))))),?_⟩
 nofun
 exists _,U,a,_,_,.str n,U,U,.inr (SqT.of ha),rfl;exists _,U,a,_,_,.ref cc,U,U,.inr (SqT.of ha),rfl;refine⟨_,U,n,U,an,.of (λk1 H1 s1=>?_) (λno H1 s1=>bad .badName (by simp only[zS,y9 no]) _ (.of s1))⟩;have k1':=e9.mpr k1;have st1:=st.to (.of s1);obtain⟨bvs,hb,kb⟩:=st1.ba;refine⟨_,U,_,U,d,b, "banks",n,_,bvs,U,st1.at_,yj,hb,(by decide),j8 an.2 (by decide),.of (λk2 H2 s2=>?_) (λno H2 s2=>bad .taken (by
  have:n∈S.banks.map (·.1):=e9.mp λz=>no ((ud kb).mpr z);simp only[zS,y7 k1',y9 this]) _ (.of (s1.trans s2)))⟩
 have k2:=(ud kb).mp k2;have s12:=s1.trans s2;have hc2:=s12 _ _ hc;refine⟨_,U,cc,U,.inr ⟨⟨_,SqT.of hc2⟩,?_⟩⟩;refine gH (K:=K) (a:=cc) (xs:=wM ps) (λi σ H'=>Same H2 H'/\(∀ u∈ps.take i,qy u.2)/\∃ u:Option V,σ=[Ig (.ref d),Ig (.ref a),Ig (.str n),Ig (.ref cc),u])
  ⟨Same.refl _,λu hu=>(nomatch hu),Ih,rfl⟩ (λi σ H' _ h=>SqT.of (h.1 _ _ hc2)) ?_ ?_
 ·rintro i x σ H' gx ⟨s3,nr,u,rfl⟩;rw[d8,d8,Option.map_map,j7] at gx;obtain⟨tt,gt,rfl⟩:=gx;have mt:=i8 gt;have mc:tt.2∈cs:=by rw[<- cn.pt]; rwa[i4.mpr ⟨tt,mt,rfl⟩]
  obtain⟨c1,c2⟩:=tc _ mc;refine⟨_,U,tt.1,tt.2.1,tt.2.2,U,s3 _ _ (s12 _ _ (cn.at_ tt mt)),Be c1 (by decide),Be c2 (by decide),.of (λk3 H4 s4=>⟨s3.trans s4,λu hu=>?_,_,U⟩) (λno H4 s4=>bad .badPlace (by
   simp only[zS,y7 k1',y7 k2,y9 (show ¬ ∀ c∈cs,qy c from λz=>no (z _ mc))]) _ (.of (s12.trans (s3.trans s4))))⟩
  rw[w5,gt] at hu;rcases m7.mp hu with z | z
  ·rwa[nr u z]
  ·rw[d9.mp z]; rwa[k3]
 ·rintro σ H3 ⟨s3,nr,u,rfl⟩;rw[Aa (by rw[xL]; exact d6 _)] at nr;have k3:∀ c∈cs,qy c:=λc hc=>by
   rw[<- cn.pt] at hc;obtain⟨u,hu,rfl⟩:=i4.mp hc;rwa[nr u hu]
  have k3':=e9.mpr k3;have s13:=s12.trans s3;erw[_,U,cc,ps,U,⟨.inr (SqT.of (s3 _ _ hc2)),(cn_ok cn tc).same s13⟩,by lia,λH4 s4=>⟨_,U,?_⟩];rw[Ut,cn.pt];have s14:=s13.trans s4;cases k4:iL cs with
  | false=>exact xO ⟨_,rfl,⟨_,rc.to (.of s14),shw⟩,λy _=>⟨by show 1<=sizeLine; decide,bad .badBank (by simp only[zS,y7 k1',y7 k2,y7 k3',y9 k4]) _ (.of s14)⟩⟩
  | true =>
   have k4':¬ iL cs=false:=by rw[k4]; exact λz=>nomatch z
   refine yO ?_;have st4:=st.to (.of s14);have hb4:=Rd.same hb ((s2.trans s3).trans s4);refine⟨_,U,d,b, "banks",_,bvs,8,U,st4.at_,yj,hb4,(by symm),(by decide),.of (λk5 H5 s5=>?_) (λno H5 s5=>bad .full (by
    rw[kb.length,lF] at no;simp only[zS,y7 k1',y7 k2,y7 k3',y7 k4',y9 (show 8<=S.banks.length by lia)]) _ (.of (s14.trans s5)))⟩
   rw[kb.length,lF] at k5;have s15:=s14.trans s5;have st5:=st.to (.of s15);erw[_,U,_,U,_,U,d,b, "banks",.inr n,.ref cc,_,bvs,U,st5.at_,yj,Rd.same hb4 s5,StA.stKlen,kb.le (by rw[lF]; lia),λf c H6 s6 hf _ ef ec=>?_];have s16:=s15.trans s6;have st6:=st.to (.of s16);rw[jF] at ef;refine q (by simp only[zS,y7 k1',y7 k2,y7 k3',y7 k4',y7 (show ¬ 8<=S.banks.length by lia)]) f H6 (.of s16) (s15.free hf) ⟨m,c,r,t,.inl ef,st6.ma,⟨_,.inl ec,?_⟩,st6.ru,st6.no⟩;show xS H6 _ (bkE (S.banks++[(n,cs)]));rw[az,<- sV (ka k2)];exact(kb.to (.of ((((s2.trans s3).trans s4).trans s5).trans s6))).put (rc.to (.of s16))
def tH(_:b7):Sp:=oX axC λD=>∃ k,D=.level k
def qa(F:Fun K "after_level" "after_level" uI f fd)(Z:Zs mg)(CB:Cb P w mg base)(yBi:Has P w K mg base "without" 1 ["state","kind","key"] (sX K)):yX P w K mg base (CX1 P w) 2 f fd ["state","row"] (tH K):=by
 erw[F.okX qR (λvs H Q E h=>?_) (λcdv A outer s H vs Q E hr h=>?_)]
 ·obtain⟨d,v,S,D,rfl,_⟩:=h;rfl
 obtain⟨d,v,S,D,rfl,⟨k,rfl⟩,⟨m,b,r,t,st⟩,hv,tm,wl,q,bad⟩:=h;obtain⟨a,rfl,ha⟩:=pI hv;obtain⟨nk,hn,kn⟩:=st.ba
 refine'⟨_,(zC (PS.nox (yE 2 qR.nd ?_))
   (zC (zX (qX (sB (zU hr) (pv 2) (zO (zU hr) (pv 0) zK (λ_ _=>rfl))) (by with_unfolding_all rfl)) (zF (xB (λ_=>E) CB.e_NoBank d5 (by decide) d5 xC (zB (wW (wY (gW (pv 2) sQ))) zI))) zN)
   (zF (PS.nox (zM ?_))))),?_⟩
 nofun
 exists _,U,a,_,_,.str k,U,U,.inr (SqT.of ha),U,_,U,_,U,d,.ref b,U,.inl ⟨_,.inr "banks",st.at_,U,yj.symm⟩,b,_,U,.inl ⟨nk,.inr k,hn,U,U⟩,_,rfl;cases ev:wN nk (.inr k) with
 | none=>exact xO ⟨_,rfl,⟨k,rfl,oj.big tm,j8 tm.2 (by decide)⟩,λy _=>⟨by show 1<=sizeLine; decide,bad .noBank (by simp only[zS,y7 ((ud kn).mp ev)]) H (.refl _)⟩⟩
 | some v =>
  have ok:k∈S.banks.map (·.1):=e9.mp λz=>by rw[(ud kn).mpr z] at ev; cases ev
  erw[yO ?_];erw[_,U,_,U,d,b, "banks",.inr k,v,_,nk,U,st.at_,yj,hn,ev,StA.stKlen,λf c H2 s2 hf ne ef ec=>?_];have st2:=st.to (.of s2);rw[jF] at ef;erw[q (by simp only[zS,y9 ok]) f H2 (.of s2) hf ⟨m,c,r,t,.inl ef,st2.ma,⟨_,.inl ec,?_⟩,st2.ru,st2.no⟩];have:=(kn.to (.of s2)).drop (k:=.inr k);rw[fI] at this;rwa[this]
def sO(_:b7):Sp:=oX axC λD=>∃ x y,D=.sail x y
def oQ(F:Fun K "after_sail" "after_sail" vA f fd)(Z:Zs mg)(CB:Cb P w mg base)(yBl:Has P w K mg base "changed" 1 ["state","kind","key","value"] (xZ K))(yAv:qS P w K mg base "check_room" 1 ["state","kind"] (xY K))(yAz:qS P w K mg base "check_run" 2 ["run"] (rH K)):yX P w K mg base (CX1 P w) 3 f fd ["state","row"] (sO K):=by
 erw[F.okX zt (λvs H Q E h=>?_) (λcdv A outer s H vs Q E hr h=>?_)]
 ·obtain⟨d,v,S,D,rfl,_⟩:=h;rfl
 obtain⟨d,v,S,D,rfl,⟨x,y,rfl⟩,⟨m,b,r,t,st⟩,hv,tm,wl,q,bad⟩:=h;obtain⟨a,rfl,ha⟩:=kz hv;obtain⟨tx,ty⟩:=tm
 refine'⟨_,(zC (PS.nox (yE 2 zt.nd ?_))
   (zC (yC (yH (λ_=>E) yAz yD (hr.mono (by decide)) rfl (zB (pv 2) zI)))
   (zC (yC (yH (λ_=>E) yAv yD (hr.mono (by decide)) rfl (zB (pv 0) (zB zK zI))))
   (zF (PS.nox (zM (uK yBl (hr.mono (by decide)) rfl (zB (pv 0) (zB zK (zB (zR vR rfl Z.len wZ (zB (zO (zU hr) (pv 0) zK (λ_ _=>rfl)) zI)) (zB (pv 2) zI))))))))))),?_⟩
 nofun
 erw[_,U,a,_,_,.int x,U,U,.inr (SqT.of ha),U,_,U,a,_,_,.int y,U,U,.inr (SqT.of ha),U,sz2,λp hp=>?_];have s1:=zD hp (.tup [.int x,.int y]);erw[_,U,p,x,y,U,zA,tx,ty,.of (λk1 H2 s2=>?_) (λno H2 s2=>bad .badRun (by simp[zS,no]) _ (.of (s1.trans s2)))];have s12:=s1.trans s2;have st2:=st.to (.of s12);obtain⟨kvs,hm,kv⟩:=st2.ru;have ln:kvs.length=S.runs.length:=by rw[kv.length,xj]
 have ep:=s2 _ _ (show upd H p (.tup [.int x,.int y]) p=_ from zA);refine⟨_,U,d,r, "runs",_,kvs,12,U,st2.at_,rG,hm,(by symm),(by decide),.of (λk2 H3 s3=>?_) (λno H3 s3=>bad .full (by simp[zS,k1,show 12<=S.runs.length by lia]) _ (.of (s12.trans s3)))⟩;have s13:=s12.trans s3;have st3:=st.to (.of s13);have hm3:=Rd.same hm s3;erw[_,U,_,U,d,.ref r,U,.inl ⟨_,.inr "runs",st3.at_,U,rG.symm⟩,r,kvs,U,hm3,_,U,d,r, "runs",.inl (kvs.length:Int),.ref p,_,kvs,U,st3.at_,rG,hm3,StA.stKlen,by lia,λf c H4 s4 hf _ ef ec=>?_];have s14:=s13.trans s4;have st4:=st.to (.of s14);rw[eW] at ef;erw[q (by simp[zS,k1]; lia) f H4 (.of s14) (s13.free hf) ⟨m,b,c,t,.inl ef,st4.ma,st4.ba,⟨_,.inl ec,?_⟩,st4.no⟩];show xS H4 _ (rnE (S.runs++[(x,y)]));rw[Wr,<- sV Yl,<- ln];exact(kv.to (.of (s3.trans s4))).put (vQ ((s3.trans s4) _ _ ep))
def tG(_:b7):Sp:=oX axC λD=>∃ k x y,D=.right k x y
def qm(F:Fun K "after_right" "after_right" uQ f fd)(Z:Zs mg)(CB:Cb P w mg base)(yBl:Has P w K mg base "changed" 1 ["state","kind","key","value"] (xZ K))(yAz:qS P w K mg base "check_run" 2 ["run"] (rH K)):yX P w K mg base (CX1 P w) 3 f fd ["state","row"] (tG K):=by
 erw[F.okX tD (λvs H Q E h=>?_) (λcdv A outer s H vs Q E hr h=>?_)]
 ·obtain⟨d,v,S,D,rfl,_⟩:=h;rfl
 obtain⟨d,v,S,D,rfl,⟨k,x,y,rfl⟩,⟨m,b,r,t,st⟩,hv,tm,wl,q,bad⟩:=h;obtain⟨a,rfl,ha⟩:=pL hv;obtain⟨tk,tx,ty⟩:=tm
 refine'⟨_,(zC (PS.nox (yE 2 tD.nd ?_))
   (zC (PS.nox (yE 3 tD.nd ?_))
   (zC (zX (qX (sB (zU hr) (pv 2) (zO (zU hr) (pv 0) zK (λ_ _=>rfl))) (by with_unfolding_all rfl)) (zF (xB (λ_=>E) CB.e_NoRun d5 (by decide) d5 xC (zB (wW (wY (wq (pv 2) sQ))) zI))) zN)
   (zC (yC (yH (λ_=>E) yAz yD (hr.mono (by decide)) rfl (zB (pv 3) zI)))
   (zF (PS.nox (zM ?_))))))),?_⟩
 nofun
 exists _,U,a,_,_,.int k,U,U,.inr (SqT.of ha),rfl;erw[_,U,a,_,_,.int x,U,U,.inr (SqT.of ha),U,_,U,a,_,_,.int y,U,U,.inr (SqT.of ha),U,sz2,λp hp=>?_];have s1:=zD hp (.tup [.int x,.int y]);have st1:=st.to (.of s1);obtain⟨rvs,hr1,kr⟩:=st1.ru;exists _,U,_,U,d,.ref r,U,.inl ⟨_,.inr "runs",st1.at_,U,rG.symm⟩,r,_,U,.inl ⟨rvs,.inl k,hr1,U,U⟩,_,rfl;cases ev:wN rvs (.inl k) with
 | none=>exact xO ⟨_,rfl,.inl ⟨k,rfl,Be (show k.natAbs.log2<200 from tk) (by decide)⟩,λy _=>⟨by show 1<=sizeLine; decide,bad .noRun (by simp only[zS,y7 ((Zm kr).mp ev)]) _ (.of s1)⟩⟩
 | some v =>
  have ok:0<=k/\k<S.runs.length:=e9.mp λz=>by rw[(Zm kr).mpr z] at ev; cases ev
  erw[yO ?_];obtain⟨i,rfl⟩:=AF ok.1;have hi:i<S.runs.length:=by lia
  erw[_,U,p,x,y,U,zA,tx,ty,.of (λk3 H3 s3=>?_) (λno H3 s3=>bad .badRun (by simp only[zS,y9 ok,y7 no]) _ (.of (s1.trans s3)))];have st3:=st1.to (.of s3);have hr3:=Rd.same hr1 s3;refine⟨_,U,_,U,_,U,d,r, "runs",.inl (i:Int),.ref p,_,rvs,U,st3.at_,rG,hr3,StA.stKlen,kr.le (by rw[xj]; have:=wl.good.few.ru; lia),λf c H4 s4 hf _ ef ec=>?_⟩;have s14:=(s1.trans s3).trans s4;have st4:=st.to (.of s14);rw[eW] at ef;erw[q (by simp only[zS,y9 ok,y9 k3]) f H4 (.of s14) ((s1.trans s3).free hf) ⟨m,b,c,t,.inl ef,st4.ma,st4.ba,⟨_,.inl ec,?_⟩,st4.no⟩];show xS H4 _ (rnE (S.runs.set i (x,y)));rw[<- WD hi];exact(kr.to (.of (s3.trans s4))).put (vQ (p:=(x,y)) ((s3.trans s4) _ _ zA))
def sK(_:b7):Sp:=λvs H Q E=>∃(d:b9)(v:V)(S:BS)(D:Deed),vs=[.ref d,v]/\fi H d S/\Rep H D.dt v/\S.notes.length<=60/\Xz S /\
 (S.notes.length<24->∀(d':b9)(H':Hp),Same H H'->H d'=Ih->fi H' d' { S with notes:=S.notes++[(S.coming,D)],coming:=S.coming+1 }->Q (.ref d') H')/\(24<=S.notes.length->∀ H',Same H H'->E (.ref ze) Ih H')
def oS(F:Fun K "after_note" "after_note" vG f fd)(Z:Zs mg)(CB:Cb P w mg base)(yBl:Has P w K mg base "changed" 1 ["state","kind","key","value"] (xZ K))(yAv:qS P w K mg base "check_room" 1 ["state","kind"] (xY K)):yX P w K mg base (CX1 P w) 2 f fd ["state","row"] (sK K):=by
 erw[F.okX zv (λvs H Q E h=>?_) (λcdv A outer s H vs Q E hr h=>?_)]
 ·obtain⟨d,v,S,D,rfl,_⟩:=h;rfl
 obtain⟨d,v,S,D,rfl,⟨m,b,r,t,st⟩,hv,l60,fr,q,bad⟩:=h;obtain⟨kvs,hm,kv⟩:=st.no;have ln:kvs.length=S.notes.length:=by rw[kv.length,aS]
 refine⟨_,(zC (yC (yH (λ_=>E) yAv yD (hr.mono (by decide)) rfl (zB (pv 0) (zB zK zI))))
   (zC (PS.nox (qT (i:=2) zv.nd rfl (A4 rfl) (uK yBl (hr.mono (by decide)) rfl (zB (pv 0) (zB zK (zB (zO (zU hr) (pv 0) zK (λ_ _=>rfl)) (zB (pv 1) zI)))))))
   (zC (PS.nox (rK (zU hr) (pv 2) zK (wG xv (zO (zU hr) (pv 0) zK (λ_ _=>rfl)) yL) rfl))
   (zF (PS.nox (zM (pv 2))))))),?_⟩
 try dsimp only[L2.cxOf]
 erw[_,U,d,t, "notes",_,kvs,24,U,st.at_,qH,hm,(by symm),(by decide),.of (λk1 H1 s1=>?_) (λno H1 s1=>bad (by lia) H1 s1)];have st1:=st.to (.of s1);have hm1:=Rd.same hm s1;erw[_,U,_,U,d,.int S.coming,U,.inl ⟨_,.inr "coming",st1.at_,U,oZ.symm⟩,_,U,d,t, "notes",.inl S.coming,v,_,kvs,U,st1.at_,qH,hm1,StA.stKlen,by lia,λf c H2 s2 hf ne ef ec=>?_];have s12:=s1.trans s2;have st2:=st.to (.of s12);rw[jH] at ef;exists _,U,d,.int S.coming,U,.inl ⟨_,.inr "coming",st2.at_,U,oZ.symm⟩,_,_,U,U,_,U,f,_,U,ie.k (k:=.inr "coming") ef (zT (j8 StA.stKlen (by decide))),_,rfl;rw[dF];have hf0:=s1.free hf;have s3:Same H (upd H2 f (.dK (stK m b r c (S.coming+1)))):=s12.putNew hf0;have st3:=st.to (.of s3);erw[q (by lia) f _ s3 hf0 ⟨m,b,r,c,.inl zA,st3.ma,st3.ba,st3.ru,⟨_,.inl (by rw[zG ne.symm]; rwa[ec]),?_⟩⟩];rw[gN,<- sV (lR fr)];exact(kv.to (.of s3)).put (hv.to (.of s3))
def uH(_:b7):Sp:=oX axC λD=>∃ mo nm x1 y1 x2 y2,D=.bearing mo nm x1 y1 x2 y2
def uw(F:Fun K "after_bearing" "after_bearing" wF f fd)(Z:Zs mg)(CB:Cb P w mg base)(yAx:qS P w K mg base "after_note" 2 ["state","row"] (sK K))(yBz:Has P w K mg base "turn" 1 ["one","other"] (ny K))(yBd:qS P w K mg base "check_way" 2 ["direction"] (yc K))(yAr:qS P w K mg base "check_mark" 1 ["state","name"] (wA K))(yAd:qS P w K mg base "check_moment" 1 ["moment","runs"] (uV K)):yX P w K mg base (CX1 P w) 3 f fd ["state","row"] (uH K):=by
 erw[F.okX wu (λvs H Q E h=>?_) (λcdv A outer s H vs Q E hr h=>?_)]
 ·obtain⟨d,v,S,D,rfl,_⟩:=h;rfl
 obtain⟨d,v,S,D,rfl,⟨mo,nm,x1,y1,x2,y2,rfl⟩,⟨m,b,r,t,st⟩,hv,tm,wl,q,bad⟩:=h;obtain⟨a,p,u,rfl,ha,hp,hu⟩:=uB hv;obtain⟨rvs,hr1,kr⟩:=st.ru;have shw:=jR tm;obtain⟨t1,an,tx1,ty1,tx2,ty2⟩:=tm
 refine'⟨_,(zC (yC (yH (λ_=>E) yAd yD (hr.mono (by decide)) rfl (zB ?_ (zB (zO (zU hr) (pv 0) zK (λ_ _=>rfl)) zI))))
   (zC (yC (yH (λ_=>E) yAr yD (hr.mono (by decide)) rfl ?_))
   (zC (yC (yH (λ_=>E) yBd yD (hr.mono (by decide)) rfl ?_))
   (zC (yC (yH (λ_=>E) yBd yD (hr.mono (by decide)) rfl ?_))
   (zC (zX ?_ (zF (xB (λ_=>E) CB.e_BadTurn d5 (by decide) d5 xC (zB (wW (wY (iz hr.gd hr.units (pv 1) sQ))) zI))) zN)
   (zF (zM (yH (λ_=>E) yAx yD (hr.mono (by decide)) rfl (zB (pv 0) (zB (pv 1) zI)))))))))),?_⟩
 nofun
 by_cases k0:0<=mo/\mo<=S.runs.length
 rotate_left
 ·exact⟨_,U,a,_,_,.int mo,U,U,.inr (SqT.of ha),U,_,U,d,.ref r,U,.inl ⟨_,.inr "runs",st.at_,U,rG.symm⟩,r,mo,S.runs.length,U,.inr ⟨rvs,hr1,by rw[kr.length,xj]⟩,.inr ⟨⟨by lia,Be (show mo.natAbs.log2<200 from t1) (by decide)⟩,bad .noMoment (by simp only[zS,y9 k0]) H (.refl _)⟩⟩
 refine⟨_,U,a,_,_,.int mo,U,U,.inr (SqT.of ha),U,_,U,d,.ref r,U,.inl ⟨_,.inr "runs",st.at_,U,rG.symm⟩,r,mo,S.runs.length,U,.inr ⟨rvs,hr1,by rw[kr.length,xj]⟩,.inl ⟨k0.1,k0.2,?_⟩⟩;refine⟨_,U,_,U,a,_,_,.str nm,U,U,.inr (SqT.of ha),U,d,m,b,r,t,S,nm,U,st,an,.of (λk3 H1 s1=>?_) (λno H1 s1=>bad .noMark (by
  have:zQ S nm=none:=by cases e:zQ S nm <;> simp[e] at no ⊢
  simp only[zS,y7 (e9.mpr k0),y9 this]) _ (.of s1))⟩
 have k3':¬ zQ S nm=none:=λz=>by rw[z] at k3; cases k3
 have ha1:=s1 _ _ ha;erw[_,U,a,_,_,.ref p,U,U,.inr (SqT.of ha1),U,p,x1,y1,U,s1 _ _ hp,tx1,ty1,.of (λk4 H2 s2=>?_) (λno H2 s2=>bad .badWay (by simp only[zS,y7 (e9.mpr k0),y7 k3',y9 no]) _ (.of (s1.trans s2)))];have s12:=s1.trans s2;have ha2:=s12 _ _ ha;erw[_,U,a,_,_,.ref u,U,U,.inr (SqT.of ha2),U,u,x2,y2,U,s12 _ _ hu,tx2,ty2,.of (λk5 H3 s3=>?_) (λno H3 s3=>bad .badWay (by simp only[zS,y7 (e9.mpr k0),y7 k3',y7 (e9.mpr k4),y9 no]) _ (.of (s12.trans s3)))];have s23:=s12.trans s3;have ha3:=s23 _ _ ha;have b1:=k4.2.1;have b2:=k4.2.2.1;have b3:=k4.2.2.2.1;have b4:=k4.2.2.2.2;have n1:x1.natAbs<=10^18:=by simp at b1 b2; lia
 have n2:y1.natAbs<=10^18:=by simp at b3 b4; lia
 exists _,U,a,_,_,.ref p,U,U,.inr (SqT.of ha3),U,_,U,a,_,_,.ref u,U,U,.inr (SqT.of ha3),U,p,u,_,_,x1,y1,x2,y2,U,.inr (SqT.of (s23 _ _ hp)),.inr (SqT.of (s23 _ _ hu)),U,U,U,U,n1,n2,_,_,U,U,_,rfl;erw[ifD (λz=>?_) (λk6=>?_)]
 ·exact⟨_,U,⟨_,hv.to (.of s23),shw⟩,λy _=>⟨by show 1<=sizeLine; decide,bad .badTurn (by simp only[zS,y7 (e9.mpr k0),y7 k3',y7 (e9.mpr k4),y7 (e9.mpr k5),y9 z]) _ (.of s23)⟩⟩
 refine⟨_,U,_,U,d,.ref a,S,.bearing mo nm x1 y1 x2 y2,U,⟨m,b,r,t,st.to (.of s23)⟩,hv.to (.of s23),wl.good.few.no,wl.good.fresh,λk7 d' H4 s4 hd' st4=>q (by simp only[zS,y7 (e9.mpr k0),y7 k3',y7 (e9.mpr k4),y7 (e9.mpr k5),y7 k6,y7 (show ¬ 24<=S.notes.length by lia)]) d' H4 (.of (s23.trans s4)) (s23.free hd') st4,
  λk7 H4 s4=>bad .full (by simp only[zS,y7 (e9.mpr k0),y7 k3',y7 (e9.mpr k4),y7 (e9.mpr k5),y7 k6,y9 k7]) _ (.of (s23.trans s4))⟩
def tF(_:b7):Sp:=oX axC λD=>∃ mo l1 l2,D=.range mo l1 l2
def qf(F:Fun K "after_range" "after_range" uC f fd)(Z:Zs mg)(CB:Cb P w mg base)(yAx:qS P w K mg base "after_note" 2 ["state","row"] (sK K))(yAh:qS P w K mg base "check_apart" 1 ["state","left","right"] (tI K))(yAr:qS P w K mg base "check_mark" 1 ["state","name"] (wA K))(yAd:qS P w K mg base "check_moment" 1 ["moment","runs"] (uV K)):yX P w K mg base (CX1 P w) 3 f fd ["state","row"] (tF K):=by
 erw[F.okX qo (λvs H Q E h=>?_) (λcdv A outer s H vs Q E hr h=>?_)]
 ·obtain⟨d,v,S,D,rfl,_⟩:=h;rfl
 obtain⟨d,v,S,D,rfl,⟨mo,l1,l2,rfl⟩,⟨m,b,r,t,st⟩,hv,tm,wl,q,bad⟩:=h;obtain⟨a,rfl,ha⟩:=sY hv;obtain⟨rvs,hr1,kr⟩:=st.ru;obtain⟨t1,a1,a2⟩:=tm
 refine'⟨_,(zC (yC (yH (λ_=>E) yAd yD (hr.mono (by decide)) rfl (zB ?_ (zB (zO (zU hr) (pv 0) zK (λ_ _=>rfl)) zI))))
   (zC (yC (yH (λ_=>E) yAr yD (hr.mono (by decide)) rfl ?_))
   (zC (yC (yH (λ_=>E) yAr yD (hr.mono (by decide)) rfl ?_))
   (zC (yC (yH (λ_=>E) yAh yD (hr.mono (by decide)) rfl ?_))
   (zF (zM (yH (λ_=>E) yAx yD (hr.mono (by decide)) rfl (zB (pv 0) (zB (pv 1) zI))))))))),?_⟩
 nofun
 by_cases k0:0<=mo/\mo<=S.runs.length
 rotate_left
 ·exact⟨_,U,a,_,_,.int mo,U,U,.inr (SqT.of ha),U,_,U,d,.ref r,U,.inl ⟨_,.inr "runs",st.at_,U,rG.symm⟩,r,mo,S.runs.length,U,.inr ⟨rvs,hr1,by rw[kr.length,xj]⟩,.inr ⟨⟨by lia,Be (show mo.natAbs.log2<200 from t1) (by decide)⟩,bad .noMoment (by simp only[zS,y9 k0]) H (.refl _)⟩⟩
 refine⟨_,U,a,_,_,.int mo,U,U,.inr (SqT.of ha),U,_,U,d,.ref r,U,.inl ⟨_,.inr "runs",st.at_,U,rG.symm⟩,r,mo,S.runs.length,U,.inr ⟨rvs,hr1,by rw[kr.length,xj]⟩,.inl ⟨k0.1,k0.2,?_⟩⟩;refine⟨_,U,_,U,a,_,_,.str l1,U,U,.inr (SqT.of ha),U,d,m,b,r,t,S,l1,U,st,a1,.of (λk3 H1 s1=>?_) (λno H1 s1=>bad .noMark (by
  have:zQ S l1=none:=by cases e:zQ S l1 <;> simp[e] at no ⊢
  simp only[zS,y7 (e9.mpr k0),y9 this]) _ (.of s1))⟩
 have k3':¬ zQ S l1=none:=λz=>by rw[z] at k3; cases k3
 have ha1:=s1 _ _ ha;refine⟨_,U,_,U,a,_,_,.str l2,U,U,.inr (SqT.of ha1),U,d,m,b,r,t,S,l2,U,st.to (.of s1),a2,.of (λk4 H2 s2=>?_) (λno H2 s2=>bad .noMark (by
  have:zQ S l2=none:=by cases e:zQ S l2 <;> simp[e] at no ⊢
  simp only[zS,y7 (e9.mpr k0),y7 k3',y9 this]) _ (.of (s1.trans s2)))⟩
 have k4':¬ zQ S l2=none:=λz=>by rw[z] at k4; cases k4
 obtain⟨p1,e1⟩:=k9.mp k3;obtain⟨p2,e2⟩:=k9.mp k4;have s12:=s1.trans s2;have at2:Sq K H2 a _:=.inr (SqT.of (s12 _ _ ha));refine⟨_,U,_,U,a,_,_,.str l1,U,U,at2,U,_,U,a,_,_,.str l2,U,U,at2,U,d,m,b,r,t,S,l1,l2,p1,p2,U,st.to (.of s12),e1,e2,j8 a1.2 (by decide),j8 a2.2 (by decide),.of (λk5 H3 s3=>?_) (λno H3 s3=>bad .same (by
  have:zQ S l1=zQ S l2:=by rw[e1,e2,e9.mp no]
  simp only[zS,y7 (e9.mpr k0),y7 k3',y7 k4',y9 this]) _ (.of (s12.trans s3)))⟩
 have k5':¬ zQ S l1=zQ S l2:=λz=>k5 (by rw[e1,e2] at z; exact p5 z);have s23:=s12.trans s3;refine⟨_,U,_,U,d,.ref a,S,.range mo l1 l2,U,⟨m,b,r,t,st.to (.of s23)⟩,hv.to (.of s23),wl.good.few.no,wl.good.fresh,λk6 d' H4 s4 hd' st4=>q (by simp only[zS,y7 (e9.mpr k0),y7 k3',y7 k4',y7 k5',y7 (show ¬ 24<=S.notes.length by lia)]) d' H4 (.of (s23.trans s4)) (s23.free hd') st4,
  λk6 H4 s4=>bad .full (by simp only[zS,y7 (e9.mpr k0),y7 k3',y7 k4',y7 k5',y9 k6]) _ (.of (s23.trans s4))⟩
def uY(_:b7):Sp:=oX axC λD=>∃ k,D=.strike k
def uq(F:Fun K "after_strike" "after_strike" wP f fd)(Z:Zs mg)(CB:Cb P w mg base)(yBi:Has P w K mg base "without" 1 ["state","kind","key"] (sX K)):yX P w K mg base (CX1 P w) 2 f fd ["state","row"] (uY K):=by
 erw[F.okX rN (λvs H Q E h=>?_) (λcdv A outer s H vs Q E hr h=>?_)]
 ·obtain⟨d,v,S,D,rfl,_⟩:=h;rfl
 obtain⟨d,v,S,D,rfl,⟨k,rfl⟩,⟨m,b,r,t,st⟩,hv,tm,wl,q,bad⟩:=h;obtain⟨a,rfl,ha⟩:=wv hv;obtain⟨nk,hn,kn⟩:=st.no
 refine'⟨_,(zC (PS.nox (yE 2 rN.nd ?_))
   (zC (zX (qX (sB (zU hr) (pv 2) (zO (zU hr) (pv 0) zK (λ_ _=>rfl))) (by with_unfolding_all rfl)) (zF (xB (λ_=>E) CB.e_NoNote d5 (by decide) d5 xC (zB (wW (wY (wq (pv 2) (wY sQ)))) zI))) zN)
   (zF (PS.nox (zM ?_))))),?_⟩
 nofun
 exists _,U,a,_,_,.int k,U,U,.inr (SqT.of ha),U,_,U,_,U,d,.ref t,U,.inl ⟨_,.inr "notes",st.at_,U,qH.symm⟩,t,_,U,.inl ⟨nk,.inl k,hn,U,U⟩,_,rfl;cases ev:wN nk (.inl k) with
 | none=>exact xO ⟨_,rfl,.inl ⟨k,rfl,Be (show k.natAbs.log2<200 from tm) (by decide)⟩,λy _=>⟨by show 1<=sizeLine; decide,bad .noNote (by simp only[zS,y7 ((gu kn).mp ev)]) H (.refl _)⟩⟩
 | some v =>
  have ok:k∈S.notes.map (·.1):=e9.mp λz=>by rw[(gu kn).mpr z] at ev; cases ev
  erw[yO ?_];erw[_,U,_,U,d,t, "notes",.inl k,v,_,nk,U,st.at_,qH,hn,ev,StA.stKlen,λf c H2 s2 hf ne ef ec=>?_];have st2:=st.to (.of s2);rw[jH] at ef;erw[q (by simp only[zS,y9 ok]) f H2 (.of s2) hf ⟨m,b,r,c,.inl ef,st2.ma,st2.ba,st2.ru,⟨_,.inl ec,?_⟩⟩];have:=(kn.to (.of s2)).drop (k:=.inl k);rw[eP] at this;rwa[this]
def inTab(_:Deed):Prop:=True
def mM(_:b7):Sp:=oX axC inTab
def tabL:List (Key×Sp):=[(.inr "mark",sP []),(.inr "move",tW []),(.inr "unmark",uW []),(.inr "bank",tY []),(.inr "level",tH []),(.inr "sail",sO []),(.inr "right",tG []),(.inr "bearing",uH []),(.inr "range",tF []),(.inr "strike",uY [])]
def dP(F:Fun K "after" "after" wx f fd)(Z:Zs mg)(CB:Cb P w mg base)(yAo:qS P w K mg base "after_mark" 3 ["state","row"] (sP K))(yAy:qS P w K mg base "after_move" 3 ["state","row"] (tW K))(yAb:qS P w K mg base "after_unmark" 2 ["state","row"] (uW K))(yAu:qS P w K mg base "after_bank" 4 ["state","row"] (tY K))(yAg:qS P w K mg base "after_level" 2 ["state","row"] (tH K))(yAs:qS P w K mg base "after_sail" 3 ["state","row"] (sO K))(yAj:qS P w K mg base "after_right" 3 ["state","row"] (tG K))(yAa:qS P w K mg base "after_bearing" 3 ["state","row"] (uH K))(yAi:qS P w K mg base "after_range" 3 ["state","row"] (tF K))(yAe:qS P w K mg base "after_strike" 2 ["state","row"] (uY K)):yX P w K mg base (CX1 P w) 5 f fd ["state","row"] (mM K):=by
 erw[F.okX cv (λvs H Q E h=>?_) (λcdv A outer s H vs Q E hr h=>?_)]
 ·obtain⟨d,v,S,D,rfl,_⟩:=h;rfl
 obtain⟨d,v,S,D,rfl,kd,st,hv,tm,wl,q,bad⟩:=h;have tabs:∀ r∈tabL,XN P w K mg base 4 Xk r.1 r.2:=by
  intro r hr;simp only[tabL,i7,Ag,or_false] at hr;rcases hr with rfl | rfl | rfl | rfl | rfl | rfl | rfl | rfl | rfl | rfl
  ·rwa["after_mark",_,_,_,by symm,CB.t_mark,yAo,by decide]
  ·rwa["after_move",_,_,_,by symm,CB.t_move,yAy,by decide]
  ·rwa["after_unmark",_,_,_,by symm,CB.t_unmark,yAb,by decide]
  ·rwa["after_bank",_,_,_,by symm,CB.t_bank,yAu,by decide]
  ·rwa["after_level",_,_,_,by symm,CB.t_level,yAg,by decide]
  ·rwa["after_sail",_,_,_,by symm,CB.t_sail,yAs,by decide]
  ·rwa["after_right",_,_,_,by symm,CB.t_right,yAj,by decide]
  ·rwa["after_bearing",_,_,_,by symm,CB.t_bearing,yAa,by decide]
  ·rwa["after_range",_,_,_,by symm,CB.t_range,yAi,by decide]
  ·rwa["after_strike",_,_,_,by symm,CB.t_strike,yAe,by decide]
 refine'⟨_,(zF (zM (WE (λ_=>E) CB.dAFTER CB.gAFTER tabs yD (hr.mono (by decide)) ?_ (zB (pv 0) (zB (pv 1) zI))))),?_⟩
 nofun
 cases D with
 | mark n x y =>
  obtain⟨a,rfl,ha⟩:=lu hv;rwa[_,U,a,_,_,.str "mark",U,U,.inr (SqT.of ha),U,.inr "mark",_,U,.head _,_,U,_,U,d,.ref a,S,_,U,⟨_,_,_,U⟩,st,hv,tm,wl,q,bad]
 | move n x y =>
  obtain⟨a,rfl,ha⟩:=lH hv;rwa[_,U,a,_,_,.str "move",U,U,.inr (SqT.of ha),U,.inr "move",_,U,.tail _ (.head _),_,U,_,U,d,.ref a,S,_,U,⟨_,_,_,U⟩,st,hv,tm,wl,q,bad]
 | unmark n =>
  obtain⟨a,rfl,ha⟩:=wf hv;rwa[_,U,a,_,_,.str "unmark",U,U,.inr (SqT.of ha),U,.inr "unmark",_,U,.tail _ (.tail _ (.head _)),_,U,_,U,d,.ref a,S,_,U,⟨_,U⟩,st,hv,tm,wl,q,bad]
 | bank n cs =>
  obtain⟨a,_,_,rfl,ha,_⟩:=nu hv;rwa[_,U,a,_,_,.str "bank",U,U,.inr (SqT.of ha),U,.inr "bank",_,U,.tail _ (.tail _ (.tail _ (.head _))),_,U,_,U,d,.ref a,S,_,U,⟨_,_,U⟩,st,hv,tm,wl,q,bad]
 | level n =>
  obtain⟨a,rfl,ha⟩:=pI hv;rwa[_,U,a,_,_,.str "level",U,U,.inr (SqT.of ha),U,.inr "level",_,U,.tail _ (.tail _ (.tail _ (.tail _ (.head _)))),_,U,_,U,d,.ref a,S,_,U,⟨_,U⟩,st,hv,tm,wl,q,bad]
 | sail x y =>
  obtain⟨a,rfl,ha⟩:=kz hv;rwa[_,U,a,_,_,.str "sail",U,U,.inr (SqT.of ha),U,.inr "sail",_,U,.tail _ (.tail _ (.tail _ (.tail _ (.tail _ (.head _))))),_,U,_,U,d,.ref a,S,_,U,⟨_,_,U⟩,st,hv,tm,wl,q,bad]
 | right k x y =>
  obtain⟨a,rfl,ha⟩:=pL hv;rwa[_,U,a,_,_,.str "right",U,U,.inr (SqT.of ha),U,.inr "right",_,U,.tail _ (.tail _ (.tail _ (.tail _ (.tail _ (.tail _ (.head _)))))),_,U,_,U,d,.ref a,S,_,U,⟨_,_,_,U⟩,st,hv,tm,wl,q,bad]
 | bearing m n x y z t =>
  obtain⟨a,p,u,rfl,ha,_⟩:=uB hv;rwa[_,U,a,_,_,.str "bearing",U,U,.inr (SqT.of ha),U,.inr "bearing",_,U,.tail _ (.tail _ (.tail _ (.tail _ (.tail _ (.tail _ (.tail _ (.head _))))))),_,U,_,U,d,.ref a,S,_,U,⟨_,_,_,_,_,_,U⟩,st,hv,tm,wl,q,bad]
 | range m n k =>
  obtain⟨a,rfl,ha⟩:=sY hv;rwa[_,U,a,_,_,.str "range",U,U,.inr (SqT.of ha),U,.inr "range",_,U,.tail _ (.tail _ (.tail _ (.tail _ (.tail _ (.tail _ (.tail _ (.tail _ (.head _)))))))),_,U,_,U,d,.ref a,S,_,U,⟨_,_,_,U⟩,st,hv,tm,wl,q,bad]
 | strike k =>
  obtain⟨a,rfl,ha⟩:=wv hv;rwa[_,U,a,_,_,.str "strike",U,U,.inr (SqT.of ha),U,.inr "strike",_,U,.tail _ (.tail _ (.tail _ (.tail _ (.tail _ (.tail _ (.tail _ (.tail _ (.tail _ (.head _))))))))),_,U,_,U,d,.ref a,S,_,U,⟨_,U⟩,st,hv,tm,wl,q,bad]
def mK(_:b7):Sp:=λvs H Q _=>∃(n:Int),vs=[.int n]/\∀ v:Int,0<=v->v<1000003->Q (.int v) H
def dO(F:Fun K "_law_power" "_law_power" wo f fd)(Z:Zs mg):yX P w K mg base CX0 1 f fd ["_law_number"] (mK K):=by
 specialize df
 ·obtain⟨n,rfl,_⟩:=h;rfl
 obtain⟨n,rfl,q⟩:=h
 refine'⟨_,(zF (zM ?_)),?_⟩
 nofun
 have h1:=t9 n (show(1000003:Int)≠0 by decide);have h2:=o6 n (show(0:Int)<1000003 by decide);exists _,U,_,_,U,U,(by show(0:Int)<1000003; decide),_,_,rfl,rfl,⟨by decide,by decide,by lia⟩,_,_,rfl,rfl,(by show(0:Int)<1000003; decide);rwa[q _ (t9 _ (by decide)) (o6 _ (by decide))]
def mO(K:b7):Sp:=λvs H Q _=>∃(a:b9)(ns:List Int)(many:Int),vs=[.ref a,.int many]/\SqL K H a (ns.map V.int)/\ns.length<=63/\0<=many/\many<=500 /\
 ∀(r:b9)(rows:List Int)(H':Hp),Same H H'->H r=Ih->H' r=Ig (.lst (rows.map V.int))->many<=rows.length->rows.length<=600->(∀ x∈rows,0<=x/\x<1000003)->Q (.ref r) H'
structure pW(H:Hp)(r c:b9)(ms:List Int)(H':Hp)(rows:List Int):Prop where
 same:Same H H'
 src:H' c=Ig (.lst (ms.map V.int))
 at':H' r=Ig (.lst (rows.map V.int))
 bd:∀ x∈rows,0<=x/\x<1000003
def pW.app{H H':Hp}{r c:b9}{ms rows:List Int}{v:Int}(d:pW H r c ms H' rows)(hr:H r=Ih)(hrc:c≠r)(h0:0<=v)(h1:v<1000003):pW H r c ms (upd H' r (.lst (rows.map V.int++[.int v]))) (rows++[v]):=by
 erw[λb o e=>?_,?_,?_,λx hx=>?_]
 ·rw[zG (zH e hr)];rwa[d.same b o e]
 ·rw[zG hrc];rwa[d.src]
 ·rw[zA,j5];rfl
 ·rcases m7.mp hx with e | e
  ·rwa[d.bd x e]
  ·rw[d9] at e;rw[e];rwa[h0,h1]
def cutR{ok:Int->Hp->Prop}{G:Prop}{R:Int->Hp->Prop}(h1:(∀ m H,ok m H->R m H)->G)(h2:∀ m H,ok m H->R m H):G:=h1 h2
def cD(F:Fun K "_law_draws" "_law_draws" vy f fd)(Z:Zs mg)(CB:Cb P w mg base)(yBu:Has P w K mg base "_law_power" 1 ["_law_number"] (mK K)):yX P w K mg base CX0 2 f fd ["_law_script","_law_many"] (mO K):=by
 specialize wJ
 ·obtain⟨a,ns,many,rfl,_⟩:=h;rfl
 obtain⟨a,ns,many,rfl,hS,hl,hm0,hm1,q⟩:=h
 refine'⟨_,(zC (yE 2 wJ.nd ?_)
   (zC (yE 3 wJ.nd yL)
   (zC (sZ Ax rfl (Vt ?_) (rT 4 wJ.nd) (zC (yE 3 wJ.nd ?_)
   (zC (yE 5 wJ.nd ?_)
   (zC (zX ?_ (zC (yC (mY (pv 2) ?_))
   (zF (yE 5 wJ.nd yL))) zN)
   (zF (dk Ax ?_ (zC (yC (mY (pv 2) ?_))
   (zF (yE 5 wJ.nd ?_)))))))))
   (zC (dk Ax ?_ (zC (yE 3 wJ.nd ?_)
   (zF (yC (mY (pv 2) ?_)))))
   (zF (zM (pv 2))))))),?_⟩
 nofun
 refine⟨sz0,λr hr0=>?_⟩;have S1:=zD hr0 (.lst []);refine⟨_,U,_,U,a,_,U,S1.seq hS,λc hc=>⟨c,U,⟨_,SqL.of zA⟩,?_⟩⟩;rw[ux];generalize hms:((ns.drop (HT.sIx ns.length 0 Ih)).take (HT.sIx ns.length ns.length (Ig 63)-HT.sIx ns.length 0 Ih))=ms;have hml:ms.length<=63:=by
  rw[<- hms,i9,p0];lia
 have hcr:c≠r:=λe=>by
  rw[e,zA] at hc;cases hc
 have hc0:H c=none:=S1.free hc;refine ZE (K:=K) (a:=c) (xs:=ms.map V.int) (λi σ H'=>∃(rows:List Int)(mix:Int)(u v:Option V),σ=[Ig (.ref a),Ig (.int many),Ig (.ref r),Ig (.int mix),u,v]/\pW H r c ms H' rows/\0<=mix/\mix<2147483647/\rows.length<=many.toNat+i)
  ⟨[],7,Ih,Ih,rfl,⟨S1.trans (zD hc _),zA,by rw[zG (AG hcr),zA]; rfl,λx hx=>nomatch hx⟩,by decide,by decide,r9 _⟩ (λi σ H' _ ⟨_,_,_,_,_,d,_⟩=>SqL.of d.src) ?_ ?_
 ·rintro i x σ H' hi ⟨rows,mix,u,v,rfl,d,hx0,hx1,hrl⟩;obtain⟨n,hn,rfl⟩:=uf hi;have hi63:i<63:=m5 (g9.mp hn).1 hml;exists _,U,_,_,U,U,.inr ⟨by decide,by decide⟩,_,U,_,_,U,U,_,_,U,U,(by show(0:Int)<2147483647; decide);have m0:=t9 (mix*48271+n) (show(2147483647:Int)≠0 by decide);have m1:=o6 (mix*48271+n) (show(0:Int)<2147483647 by decide);exists _,U,n,rfl;have a0:0<=(if n<0 then -n else n):=by split <;> lia
  generalize (if n<0 then -n else n)=rest at a0 ⊢;revert H' rest;apply cutR (ok:=λrest H2=>0<=rest/\∃ rows,pW H r c ms H2 rows/\rows.length<=many.toNat+(i+1))
  ·intro main H' d rest a0;exists _,U,_,_,U,U,⟨by decide,by decide,by decide⟩,_,_,U,U,_,rfl;erw[ifD (λhsm=>?_) (λhsm=>?_)];rotate_left
   ·rwa[main rest H' ⟨a0,rows,d,by lia⟩]
   ·erw[_,U,.inl ⟨U,_,SqL.of d.at'⟩,_,U,_,U,r,_,U,.inl (SqL.of d.at'),_,_,U,U,.inl ⟨by decide,by decide⟩,_,_,U,U,_,U,λv v0 v1=>?_];exists r,_,_,U,U,d.at',zT (by rw[a7]; lia);rwa[main 0 _ ⟨Int.le_refl 0,_,d.app hr0 hcr v0 v1,by rw[f8,BB]; lia⟩]
  clear hrl rows;rintro rest H' ⟨j0,rows,j1,j2⟩;refine eZ (λσ H2=>∃(rows:List Int)(rest:Int),σ=[Ig (.ref a),Ig (.int many),Ig (.ref r),Ig (.int ((mix*48271+n)%2147483647)),Ig (.int n),Ig (.int rest)]/\0<=rest/\pW H r c ms H2 rows/\rows.length<=many.toNat+(i+1))
   (λσ _=>match σ with | [_,_,_,_,_,Ig (.int z)]=>z.toNat | _=>0) ⟨_,_,rfl,j0,j1,j2⟩ ?_ (VQ (gB (Vs WI iY mo_c)) (gB (Vs WI (UG XB (bN iY Xv)) iY)))
  rintro σ H2 ⟨rows,rest,rfl,r0,d2,l2⟩;exists _,U,_,_,U,U,_,rfl;erw[ifD (λhpos=>?_) (λhpos=>?_)]
  ·exists _,U,r,_,U,.inl (SqL.of d2.at'),_,U,_,_,U,U,_,rfl;erw[ifD (λhlt=>?_) (λhlt=>?_)]
   ·have hlt':((rows.map V.int).length:Int)<many:=hlt;rw[a7] at hlt';exists _,U,.inl ⟨U,_,SqL.of d2.at'⟩,_,U,_,_,U,U,(by show(0:Int)<1000003; decide),r,_,_,rfl,rfl,d2.at',zT (by rw[a7]; lia);have v0:=t9 rest (show(1000003:Int)≠0 by decide);have v1:=o6 rest (show(0:Int)<1000003 by decide);exists _,U,_,_,U,U,we.of (by decide) (by ac_nf),⟨rows++[rest%1000003],_,U,by lia,d2.app hr0 hcr v0 v1,by rw[f8,BB]; lia⟩;show(rest/1000003).toNat<rest.toNat;lia
   ·rwa[rows,_,_,_,U,d2,m0,m1,l2]
  ·rwa[rows,_,_,_,U,d2,m0,m1,l2]
 ·rintro σ H' ⟨rows,mix,u,v,rfl,d,hx0,hx1,hrl⟩;rw[a7] at hrl;refine eZ (λσ H2=>∃(rows:List Int)(mix:Int),σ=[Ig (.ref a),Ig (.int many),Ig (.ref r),Ig (.int mix),u,v]/\pW H r c ms H2 rows/\0<=mix/\mix<2147483647/\rows.length<=many.toNat+63/\H2 r=Ig (.lst (rows.map V.int)))
   (λσ H2=>match H2 r with | some (.lst xs)=>many.toNat-xs.length | _=>0) ⟨rows,mix,rfl,d,hx0,hx1,by lia,d.at'⟩ ?_ (gB (Vs WI (UG XB (bN iY Xv)) iY))
  rintro σ H2 ⟨rows,mix,rfl,d2,hx0,hx1,l2,ha2⟩;exists _,U,r,_,U,.inl (SqL.of d2.at'),_,U,_,_,U,U,_,rfl;erw[ifD (λhlt=>?_) (λhlt=>?_)]
  ·have hlt':((rows.map V.int).length:Int)<many:=hlt;rw[a7] at hlt';exists _,U,_,_,U,U,.inr ⟨by decide,by decide⟩,_,_,U,U,_,_,U,U,(by show(0:Int)<2147483647; decide);have m0:=t9 (mix*48271+11) (show(2147483647:Int)≠0 by decide);have m1:=o6 (mix*48271+11) (show(0:Int)<2147483647 by decide);erw[_,U,.inl ⟨U,_,SqL.of d2.at'⟩,_,U,_,U,λv v0 v1=>?_];exists r,_,_,U,U,d2.at',zT (by rw[a7]; lia),⟨rows++[v],_,rfl,d2.app hr0 hcr v0 v1,m0,m1,by rw[f8,BB]; lia,(d2.app hr0 hcr v0 v1).at'⟩;rw[ha2,zA];show many.toNat-(rows.map V.int++[V.int v]).length<many.toNat-(rows.map V.int).length;rw[f8,a7,BB];lia
  ·have hlt':¬ ((rows.map V.int).length:Int)<many:=hlt;rw[a7] at hlt';rwa[_,U,q r rows H2 d2.same hr0 d2.at' (by lia) (by lia) d2.bd]
def mG(K:b7):Sp:=λvs H Q _=>∃(a:b9)(rows:List Int)(many:Nat),vs=[.ref a,.int many]/\SqL K H a (rows.map V.int)/\many<=rows.length/\many<=25/\(∀ x∈rows,0<=x/\x<1000003) /\
 ∀(r:b9)(ns:List g8)(H':Hp),Same H H'->H r=Ih->H' r=Ig (.lst (ns.map V.str))->ns.length=many->(∀ n∈ns,wL n)->ns.Nodup->Q (.ref r) H'
def cA(F:Fun K "_law_names" "_law_names" ww f fd)(Z:Zs mg)(CB:Cb P w mg base)  : yX P w K mg base CX0 1 f fd ["_law_some","_law_many"] (mG K):=by
 specialize yZ
 ·obtain⟨a,rows,many,rfl,_⟩:=h;rfl
 obtain⟨a,rows,many,rfl,ha,h1,h2,bd,q⟩:=h
 refine'⟨_,(zC (yE 2 yZ.nd zK)
   (zC (yE 3 yZ.nd ?_)
   (zC (sZ Ax rfl (sU rfl Z.range (zB (pv 1) zI)) (rT 4 yZ.nd) (zC (yE 5 yZ.nd ?_)
   (zC (yE 6 yZ.nd ?_)
   (zC (yE 7 yZ.nd ?_)
   (zC (yE 8 yZ.nd (Wx Es EO EQ Zy zK (zB (uX (T:=["_law_k"]) (caps:=[("_law_letters",2),("_law_raw",5),("_law_step_here",7)]) ⟨rfl,by ac_nf,by ac_nf,rfl,⟨⟨rfl,rfl,A4 rfl⟩,⟨rfl,rfl,A4 rfl⟩,⟨rfl,rfl,A4 rfl⟩,t7⟩⟩ rfl (sU rfl Z.range (zB (pv 6) zI)) (λ_=>(rT 0 (show(["_law_k","_law_letters","_law_raw","_law_step_here"]:List g8).Nodup by ac_nf))) (λ_=>wH) (λ_=>(gb Xs (pv 1) ?_ (λ_ _=>rfl)))) zI)))
   (zC (yE 9 yZ.nd ?_)
   (zC (sZ Ax rfl (sU rfl Z.range (zB yL zI)) (rT 10 yZ.nd) (zF (zX (yI rM (pv 8) (pv 3) (by with_unfolding_all rfl)) (zC (yE 11 yZ.nd (gb Xs (pv 2) ?_ (λ_ _=>rfl)))
   (zF (yE 8 yZ.nd (wG ml (wG ml (uG XF (pv 8) sS (sI (pv 9))) (pv 11)) (uG XF (pv 8) (sI ?_) sS))))) zN)))
   (zF (yC (mY (pv 3) (zB (pv 8) zI)))))))))))
   (zF (zM (pv 3)))))),?_⟩
 nofun
 refine⟨sz0,λr hr0=>?_⟩;have s0:=zD hr0 (.lst []);refine⟨_,U,_,U,by lia,by lia,sG (lo:=0) (n:=((many:Nat):Int).toNat) (λi σ H'=>∃ ns:List g8,Same H H'/\H' r=Ig (.lst (ns.map V.str))/\ns.length=i/\(∀ n∈ns,wL n)/\ns.Nodup /\
   ∃ u4 u5 u6 u7 u8 u9 u10 u11:Option V,σ=[Ig (.ref a),Ig (.int many),Ig (.str abc),Ig (.ref r),u4,u5,u6,u7,u8,u9,u10,u11])
  ⟨[],s0,zA,rfl,(λ_ z=>nomatch z),List.nodup_nil,Ih,Ih,Ih,Ih,Ih,Ih,Ih,Ih,rfl⟩ ?_ ?_⟩
 ·rintro i σ H1 hi ⟨ns,s1,er,ln,okn,nd,u4,u5,u6,u7,u8,u9,u10,u11,rfl⟩;rw[AE] at hi;obtain⟨x,ax,x0,x1⟩:=xQ bd (k:=(0:Int)+i) (by lia) (by lia);exists _,U,_,U,a,_,_,_,U,U,.inl (s1.seq ha),ax;exists _,U,_,_,U,U,(by show(0:Int)<8; decide),_,_,rfl,rfl;exists _,U,_,_,U,U,we.of (by decide) (by ac_nf),_,_,U,U,gt5;have z0:0<=x%8:=t9 _ (by decide);have z1:x%8<8:=o6 _ (by decide);have t0:0<=x/8%5:=t9 _ (by decide);have t1:x/8%5<5:=o6 _ (by decide);obtain⟨sz,esz⟩:∃ n:Nat,1+x%8=(n:Int):=⟨(1+x%8).toNat,by lia⟩;have w1:1<=sz:=by lia
  have w8:sz<=8:=by lia
  refine⟨U,_,U,_,U,by lia,by lia,λc D hD=>?_⟩;have sD:=zD hD (.lst []);refine xk (lo:=0) (n:=(1+x%8).toNat) (λj σ zs H'=>Same H1 H'/\H' D=Ig (.lst zs)/\∃ l:List Nat,zs=(l.map chS).map V.str/\l.length=j/\(∀ c∈l,97<=c/\c<=122)/\∃ u0:Option V,σ=[u0,Ig (.str abc),Ig (.int x),Ig (.int (x/8%5))])
   ⟨sD,zA,[],rfl,rfl,(λ_ z=>nomatch z),Ih,rfl⟩ (λj σ zs H' _ ⟨_,e,_⟩=>e) ?_ ?_
  ·rintro j σ zs H' hj ⟨sH,eD,l,rfl,lj,lc,u0,rfl⟩;have m0:0<=(x/40+((0:Int)+j)*(x/8%5))%26:=t9 _ (by decide);have m1:(x/40+((0:Int)+j)*(x/8%5))%26<26:=o6 _ (by decide);exists _,U,_,U,_,_,U,U,we.of (by decide) (by ac_nf),_,U,_,U,_,_,U,U,YR (by lia),_,_,U,U,_,_,U,U,(by show(0:Int)<26; decide),abc,_,_,rfl,rfl,(by decide),XD m0 m1;erw[eD,zT (by rw[a7,a7]; lia),sH.putNew hD,zA,l++[97+((x/40+((0:Int)+j)*(x/8%5))%26).toNat],?_,by rw[f8,lj]; rfl,λc hc=>?_,_,rfl]
   ·rw[j5,j5];rfl
   ·rcases m7.mp hc with hc | hc
    ·rwa[lc c hc]
    ·rw[d9] at hc;lia
  ·rintro σ zs H2 ⟨s2,eD,l,rfl,lj,lc,u0,rfl⟩;have s12:=s1.trans s2;have er2:=s2 _ _ er;have ll:l.length=sz:=by lia
   refine⟨"",D,l.map chS,U,U,SqL.of eD,by rw[dB,ll]; exact j8 w8 (by decide),?_⟩;rw[YU];obtain⟨pl,epl⟩:∃ n:Nat,x/7%(1+x%8)=(n:Int):=⟨(x/7%(1+x%8)).toNat,by rw[Int.toNat_of_nonneg (t9 _ (by lia))]⟩;have plt:pl<l.length:=by
    have:=o6 (x/7) (show 0<1+x%8 by lia);lia
   exists _,U,_,_,U,U,we.of (by decide) (by ac_nf),_,U,_,_,U,U,(by show(0:Int)<1+x%8; lia);obtain⟨xn,exn⟩:∃ n:Nat,x=(n:Int):=⟨x.toNat,by lia⟩;refine⟨26,U,by decide,by decide,sG (lo:=0) (n:=26) (λk σ H'=>H'=H2/\∃ m:List Nat,(txt m ∉ ns\/((k=0\/∃ j,j+1=k/\m=l.set pl (97+(xn+j)%26))/\∀ j,j+1<k->txt (l.set pl (97+(xn+j)%26))∈ns))/\m.length=l.length/\(∀ c,m.set pl c=l.set pl c)/\(∀ c∈m,97<=c/\c<=122) /\
     ∃ u10 u11:Option V,σ=[Ig (.ref a),Ig (.int many),Ig (.str abc),Ig (.ref r),Ig (.int (0+i)),Ig (.int x),Ig (.int (1+x%8)),Ig (.int (x/8%5)),Ig (.str (txt m)),Ig (.int (x/7%(1+x%8))),u10,u11])
    ⟨rfl,l,.inr ⟨.inl rfl,λj hj=>x4 hj (Di _)⟩,rfl,λ_=>rfl,lc,u10,u11,rfl⟩ ?_ ?_⟩
   ·rintro k σ H' hk ⟨rfl,m,hm,lm,hset,mc,v10,v11,rfl⟩;exists _,U,_,U,r,_,U,.inl (SqL.of er2),U,jX ns,_,rfl;show if inV (.str (txt m)) (ns.map V.str)=Ii then _ else _
    rw[Vm];erw[ifD (λhin=>?_) (λhin=>?_)]
    ·have b0:0<=(x+((0:Int)+k))%26:=t9 _ (by decide);have b1:(x+((0:Int)+k))%26<26:=o6 _ (by decide);exists _,U,_,U,_,U,_,_,U,U,_,_,U,U,(by show(0:Int)<26; decide),abc,_,_,rfl,rfl,(by decide),XD b0 b1;have lz:(txt m).length<=sizeLine:=by rw[qE,lm,ll]; rwa[j8 w8 (by decide)]
     have es:(97+((x+((0:Int)+k))%26).toNat)=97+(xn+k)%26:=by lia
     have c1:Cn (txt m) Ih (Ig (x/7%(1+x%8)))++chS (97+((x+((0:Int)+k))%26).toNat)++Cn (txt m) (Ig (x/7%(1+x%8)+1)) Ih=txt (l.set pl (97+(xn+k)%26)):=by
      rw[epl,YM (by lia),es,hset]
     erw[_,U,_,U,_,U,txt m,U,lz,_,U,_,_,U,U,?_,_,U,_,U,_,_,U,U,_,U,txt m,U,lz,_,_,U,U,?_,?_]
     ·rwa[j8 (DH (Em _ _ _) (d6 1)) (by rw[qE,lm,ll]; exact j8 (E5 w8 1) (by decide))]
     ·rw[strLen_append];rwa[j8 (DH (DH (Em _ _ _) (d6 1)) (Em _ _ _)) (by rw[qE,lm,ll]; exact j8 (DH (E5 w8 1) w8) (by decide))]
     ·erw[U,l.set pl (97+(xn+k)%26),.inr ⟨.inr ⟨k,U,U⟩,λj hj=>?_⟩,Dd,λc=>List.set_set _,λc hc=>?_,_,_,by rw[<- c1]; rfl]
      ·rcases hm with hm | ⟨hm,hall⟩
       ·rwa[x4 hin hm]
       ·by_cases e:j+1=k
        ·rcases hm with hm | ⟨j0,e0,rfl⟩
         ·lia
         ·rw[show j=j0 by lia];rwa[hin]
        ·rwa[hall j (by lia)]
      ·rcases DL hc with hc | hc
       ·rwa[lc c hc]
       ·lia
    ·rwa[U,m,.inl hin,lm,hset,mc,_,_,U]
   ·rintro σ H' ⟨rfl,m,hm,lm,hset,mc,v10,v11,rfl⟩;have out:txt m ∉ ns:=by
     rcases hm with hm | ⟨hm,hall⟩
     ·rwa[hm]
     ·intro hin;erw[XX (l:=l) (p:=pl) (r:=xn) plt (ws:=ns) (by lia) λj hj=>?_];by_cases e:j+1<26
      ·rwa[hall j e]
      ·rcases hm with hm | ⟨j0,e0,rfl⟩
       ·lia
       ·rw[show j=j0 by lia];rwa[hin]
    exists _,U,.inl ⟨U,_,SqL.of er2⟩,_,U,r,_,_,U,U,er2,zT (by rw[a7]; lia);erw[ns++[txt m],s12.putNew hr0,?_,by rw[f8,ln]; rfl,λn hn=>?_,?_,_,_,_,_,_,_,_,_,rfl]
    ·rw[zA,j5];rfl
    ·rcases m7.mp hn with hn | hn
     ·rwa[okn n hn]
     ·rw[d9] at hn;rw[hn];rwa[cb (by lia) (by lia) mc]
    ·erw[FX.mpr ⟨nd,by simp,λx hx y hy=>?_⟩];rw[d9] at hy;rw[hy];rwa[λz=>out (z ▸ hx)]
 ·rintro σ H1 ⟨ns,s1,er,ln,okn,nd,u4,u5,u6,u7,u8,u9,u10,u11,rfl⟩;rwa[_,U,q r ns H1 s1 hr0 er (by rw[ln,AE]) okn nd]
def fW(_:b7):Sp:=λvs H Q _=>vs=[]/\∀(d m b r n:b9)(H':Hp),Same H H'->H d=Ih->H m=Ih->H r=Ih->H' d=Ig (.dK (lwK m b r n 1))->H' m=Ig (.dK [])->H' b=Ig (.dK [])->H' r=Ig (.lst [])->H' n=Ig (.dK [])->b≠m->n≠m->Q (.ref d) H'
def YJ(F:Fun K "_law_new" "_law_new" lD f fd)(Z:Zs mg)(CB:Cb P w mg base)  : yX P w K mg base CX0 1 f fd [] (fW K):=by
 specialize ZJ
 ·obtain⟨rfl,_⟩:=h;rfl
 obtain⟨rfl,q⟩:=h
 refine'⟨_,zF ?h,?_⟩
 rotate_left
 with_reducible refine' zM ?_
 rotate_left
 with_reducible exact gX (wI zK rA (wI zK rA (wI zK (vS zI) (wI zK rA (wI zK yL fo))))) rfl rfl (λz=>nomatch z) (by decide)
 try dsimp only[L2.cxOf]
 intro p hp m hm b hb;erw[sz0,λr hr n hn=>?_];have s1:=zD hp (.dK []);have s2:=zD hm (.dK []);have s3:=zD hb (.dK []);have s4:=zD hr (.lst []);have s5:=zD hn (.dK []);have em:=(s3.trans (s4.trans s5)) _ _ zA;have eb:=(s4.trans s5) _ _ zA;have er:=s5 _ _ zA;have ep:=(s2.trans (s3.trans (s4.trans s5))) _ _ zA;exists ep,[(.inr "marks",.ref m),(.inr "banks",.ref b),(.inr "runs",.ref r),(.inr "notes",.ref n),(.inr "next",.int 1)],U,(show 5<=15 by decide);rw[YC];have ne:∀{x:b9},(upd H p (.dK [])) x=Ih->x≠p:=λ{x} h z=>by rw[z,zA] at h; cases h
 have nb:=ne (s2.free hb);have nr:=ne (s2.free (s3.free hr));have nn:=ne (s2.free (s3.free (s4.free hn)));refine q p m b r n _ (λc o e=>?_) hp (s1.free hm) (s1.free (s2.free (s3.free hr))) zA ?_ ?_ ?_ ?_ (λz=>by rw[z,zA] at hb; cases hb) (λz=>by have:=s3.free (s4.free hn); rw[z,zA] at this; cases this)
 ·rw[zG (zH e hp)];exact(s1.trans (s2.trans (s3.trans (s4.trans s5)))) c o e
 ·rw[zG (ne hm)]; rwa[em]
 ·rw[zG nb]; rwa[eb]
 ·rw[zG nr]; rwa[er]
 ·rw[zG nn]; rwa[zA]
def DR(H:Hp):Nat->V->V->Prop
 | 0,x,y=>x=y/\((∃ i,x=.int i)\/(∃ b,x=.bl b)\/(∃ z,x=.str z)\/x=.non)
 | n+1,x,y=>(x=y/\((∃ i,x=.int i)\/(∃ b,x=.bl b)\/(∃ z,x=.str z)\/x=.non))\/∃(a b:b9)(xs ys:List V)(l:Bool),x=.ref a/\y=.ref b/\H a=Ig (if l then .lst xs else .tup xs)/\H b=Ig (if l then .lst ys else .tup ys)/\xs.length=ys.length/\xs.length<=1000 /\
   ∀(i:Nat)(u v:V),xs[i]?=Ig u->ys[i]?=Ig v->DR H n u v
def DR.same{H H':Hp}(e:Same H H'):∀{n:Nat}{x y:V},DR H n x y->DR H' n x y
 | 0,_,_,h=>h
 | n+1,x,y,h=>by
  rcases h with h | ⟨a,b,xs,ys,l,e1,e2,h1,h2,h3,h4,h5⟩
  ·rwa[.inl h]
  ·rwa[.inr ⟨a,b,xs,ys,l,e1,e2,e _ _ h1,e _ _ h2,h3,h4,λi u v g1 g2=>DR.same e (h5 i u v g1 g2)⟩]
def DR.int{H:Hp}{n:Nat}{x y:Int}(h:x=y):DR H n (.int x) (.int y):=by
 subst h;cases n with
 | zero=>rwa[U,.inl ⟨x,U⟩]
 | succ m=>rwa[.inl ⟨rfl,.inl ⟨x,rfl⟩⟩]
def DR.bl{H:Hp}{n:Nat}{x y:Bool}(h:x=y):DR H n (.bl x) (.bl y):=by
 subst h;cases n with
 | zero=>rwa[U,.inr (.inl ⟨x,U⟩)]
 | succ m=>rwa[.inl ⟨rfl,.inr (.inl ⟨x,rfl⟩)⟩]
def DR.tupI{H:Hp}{n:Nat}{a b:b9}{xs ys:List Int}(h1:H a=Ig (.tup (xs.map V.int)))(h2:H b=Ig (.tup (ys.map V.int)))(e:xs=ys)(hl:xs.length<=1000):DR H (n+1) (.ref a) (.ref b):=by
 subst e;erw[.inr ⟨a,b,xs.map V.int,xs.map V.int,Ij,rfl,rfl,h1,h2,rfl,by rw[a7]; exact hl,λi u v g1 g2=>?_⟩];rw[g1] at g2;cases g2;obtain⟨m,_,rfl⟩:=uf g1;rwa[DR.int rfl]
def DR.str{H:Hp}{n:Nat}{x y:g8}(h:x=y):DR H n (.str x) (.str y):=by
 subst h;cases n with
 | zero=>rwa[U,.inr (.inr (.inl ⟨x,U⟩))]
 | succ m=>rwa[.inl ⟨rfl,.inr (.inr (.inl ⟨x,rfl⟩))⟩]
def DR.non{H:Hp}{n:Nat} : DR H n .non .non:=by
 cases n with
 | zero=>rwa[U,.inr (.inr (.inr rfl))]
 | succ m=>rwa[.inl ⟨rfl,.inr (.inr (.inr rfl))⟩]
def Xj{H:Hp} : ∀(n:Nat)(d:Dt){x y:V},lh n d->Rep H d x->Rep H d y->DR H n x y
 | n,.int i,x,y,_,h1,h2=>by rw[yB.mp h1,yB.mp h2]; rwa[DR.int rfl]
 | n,.str z,x,y,_,h1,h2=>by rw[zW.mp h1,zW.mp h2]; rwa[DR.str rfl]
 | 0,.tup _,_,_,h,_,_=>h.elim
 | n+1,.tup l,x,y,h,h1,h2=>by
  obtain⟨a,xs,rfl,ha,ra⟩:=yF.mp h1;obtain⟨b,ys,rfl,hb,rb⟩:=yF.mp h2;have hl:l.length<=900:=h.1;erw[.inr ⟨a,b,xs,ys,Ij,rfl,rfl,ha,hb,by rw[ra.length,rb.length],by rw[ra.length]; lia,λi u v g1 g2=>?_⟩];obtain⟨d,e1,r1⟩:=ra.back g1;obtain⟨d',e2,r2⟩:=rb.back g2;rw[e1] at e2;cases e2;rwa[Xj n d (h.2 d (i8 e1)) r1 r2]
def reps_dr{H:Hp}{n:Nat}{l:List Dt}{a b:b9}{xs ys:List V}(h:∀ d∈l,lh n d)(hl:l.length<=900)(ha:H a=Ig (.lst xs))(hb:H b=Ig (.lst ys))(ra:xK H l xs)(rb:xK H l ys):DR H (n+1) (.ref a) (.ref b):=by
 erw[.inr ⟨a,b,xs,ys,Ii,rfl,rfl,ha,hb,by rw[ra.length,rb.length],by rw[ra.length]; lia,λi u v g1 g2=>?_⟩];obtain⟨d,e1,r1⟩:=ra.back g1;obtain⟨d',e2,r2⟩:=rb.back g2;rw[e1] at e2;cases e2;rwa[Xj n d (h d (i8 e1)) r1 r2]
def lC:Nat->Sp
 | 0=>λ_ _ _ _=>False
 | n+1=>λvs H Q _=>∃(x y:V),vs=[x,y]/\DR H n x y/\∀ H',Same H H'->Q (.bl Ii) H'
def qZ(_:b7):Sp:=lC 6
structure KT(K:b7)(ty:c7)(bb bi bl bt bs:Bool):Prop where
 b:AX K ty (.type "bool")=Ig bb
 i:AX K ty (.type "int")=Ig bi
 l:AX K ty (.type "list")=Ig bl
 t:AX K ty (.type "tuple")=Ig bt
 s:AX K ty (.type "str")=Ig bs
def fG{f:b9}{fd:Aq}(F:Fun K "_law_same" "_law_same" wn f fd)(Z:Zs mg)(bS:vb K fd ["_law_told","_law_due_here"] [])(kS:Au K (.ref f)=Ii)(mS:mg "_law_same" = Ig (.ref f)) :
  ∀ n:Nat,yX P w K mg base CX0 n f fd ["_law_told","_law_due_here"] (lC n)
 | 0=>⟨λ_ _ _ _ h=>h.elim,λ_ _ _ _ _ _ _ _ _ _ _ _ _ h=>h.elim⟩
 | n+1=>by
  have ih:=fG F Z bS kS mS n;have yBy:Has P w K mg base "_law_same" n ["_law_told","_law_due_here"] (lC n):=⟨f,fd,ih,bS,kS,mS⟩
  specialize bX
  ·obtain⟨x,y,rfl,_⟩:=h;rfl
  obtain⟨x,y,rfl,hD,q⟩:=h;have hr_self:=hr
  refine'⟨_,(zC (zX ?_ (zF (zM xa)) zN)
   (zC (zX ?_ (zF (zM xa)) zN)
   (zC (zX ?_ (zF (zM ?_)) zN)
   (zF (zM (ig ?_ (jl (zR (sC rfl) rfl Z.all pZ (zB (uX (T:=["_law_one","_law_other"]) (caps:=[]) ⟨rfl,by ac_nf,by ac_nf,rfl,t7⟩ rfl (Tr rfl Z.zip (zB (pv 0) (zB (pv 1) zI))) (λ_=>(zp rfl (yG (rT 0 (show(["_law_one","_law_other"]:List g8).Nodup by ac_nf)) (yG (rT 1 (show(["_law_one","_law_other"]:List g8).Nodup by ac_nf)) vZ)))) (λ_=>wH) (λ_=>(uK yBy hr_self rfl (zB (pv 0) (zB (pv 1) zI))))) zI))))))))),?_⟩
  nofun
  have kinds:∃(t:c7)(bb bi bl bt bs:Bool),TyOf K H x t/\TyOf K H y t/\KT K t bb bi bl bt bs/\((bl=Ij/\bt=Ij/\x=y/\((∃ i,x=.int i)\/(∃ b,x=.bl b)\/(∃ z,x=.str z)\/x=.non)) \/
    ∃(m:Nat)(a b:b9)(xs ys:List V)(l:Bool),bl=l/\bt = !l/\n=m+1/\x=.ref a/\y=.ref b/\H a=Ig (if l then .lst xs else .tup xs)/\H b=Ig (if l then .lst ys else .tup ys)/\xs.length=ys.length/\xs.length<=1000 /\
     ∀(i:Nat)(u v:V),xs[i]?=Ig u->ys[i]?=Ig v->DR H m u v):=by
   have Ug:(x=y/\((∃ i,x=.int i)\/(∃ b,x=.bl b)\/(∃ z,x=.str z)\/x=.non))->∃(t:c7)(bb bi bl bt bs:Bool),TyOf K H x t/\TyOf K H y t/\KT K t bb bi bl bt bs/\(bl=Ij/\bt=Ij/\x=y/\((∃ i,x=.int i)\/(∃ b,x=.bl b)\/(∃ z,x=.str z)\/x=.non)):=λh=>by
    obtain⟨rfl,h⟩:=h;rcases h with ⟨i,rfl⟩ | ⟨b,rfl⟩ | ⟨z,rfl⟩ | rfl
    ·rwa[_,_,_,_,_,_,.int i,.int i,⟨U,U,U,U,U⟩,U,U,U,.inl ⟨i,U⟩]
    ·rwa[_,_,_,_,_,_,.bl b,.bl b,⟨U,U,U,U,U⟩,U,U,U,.inr (.inl ⟨b,U⟩)]
    ·rwa[_,_,_,_,_,_,.str z,.str z,⟨U,U,U,U,U⟩,U,U,U,.inr (.inr (.inl ⟨z,U⟩))]
    ·rwa[_,_,_,_,_,_,.non,.non,⟨U,U,U,U,U⟩,U,U,U,.inr (.inr (.inr rfl))]
   cases n with
   | zero =>
    obtain⟨t,bb,bi,bl,bt,bs,h1,h2,h3,h4⟩:=Ug hD;rwa[t,bb,bi,bl,bt,bs,h1,h2,h3,.inl h4]
   | succ m =>
    rcases hD with h | ⟨a,b,xs,ys,l,e1,e2,h1,h2,h3,h4,h5⟩
    ·obtain⟨t,bb,bi,bl,bt,bs,h1,h2,h3,h4⟩:=Ug h;rwa[t,bb,bi,bl,bt,bs,h1,h2,h3,.inl h4]
    ·subst e1 e2;cases l with
     | true=>rwa[_,_,_,_,_,_,.lst h1,.lst h2,⟨U,U,U,U,U⟩,.inr ⟨m,a,b,xs,ys,Ii,U,U,U,U,U,h1,h2,h3,h4,h5⟩]
     | false=>rwa[_,_,_,_,_,_,.tup h1,.tup h2,⟨U,U,U,U,U⟩,.inr ⟨m,a,b,xs,ys,Ij,U,U,U,U,U,h1,h2,h3,h4,h5⟩]
  obtain⟨t,bb,bi,bl,bt,bs,tx,ty,kt,rest⟩:=kinds;exists _,U,_, "bool",t,bb,U,tx,kt.b,_,U,_, "bool",t,bb,U,ty,kt.b,U,_,rfl;erw[ifN (λz=>x4 rfl z) (λ_=>?_)];exists _,U,_, "int",t,bi,U,tx,kt.i,_,U,_, "int",t,bi,U,ty,kt.i,U,_,rfl;erw[ifN (λz=>x4 rfl z) (λ_=>?_)];exists _,U,_, "list",t,bl,U,tx,kt.l,_,U,_, "list",t,bl,U,ty,kt.l,U,_,rfl;erw[ifN (λz=>x4 rfl z) (λ_=>?_)];exists _,U,_, "tuple",t,bt,U,tx,kt.t,_,U,_, "tuple",t,bt,U,ty,kt.t,U,_,rfl;erw[ifN (λz=>x4 rfl z) (λ_=>?_)];exists _,U,_, "list",t,bl,U,ty,kt.l,_,rfl;rcases rest with ⟨rfl,rfl,rfl,hs⟩ | ⟨m,a,b,xs,ys,l,rfl,rfl,rfl,rfl,rfl,ha,hb,hlen,h1000,hel⟩
  ·erw[xO ?_];exists _,U,_, "tuple",t,Ij,U,ty,kt.t,_,rfl;erw[xO ?_];exists _,U,_, "str",t,bs,U,tx,kt.s,_,U,_, "str",t,bs,U,ty,kt.s,U,_,rfl;rw[q0 rfl];erw[xO ?_];erw[_,U,_,U,?_,?_]
   ·rcases hs with ⟨i,rfl⟩ | ⟨b,rfl⟩ | ⟨z,rfl⟩ | rfl <;> rfl
   ·rw[q0 rfl];rwa[q H (Same.refl H)]
  ·have SA:SqB bl K H a xs:=by
    cases bl
    ·rwa[SqT.of ha]
    ·rwa[SqL.of ha]
   have SB:SqB bl K H b ys:=by
    cases bl
    ·rwa[SqT.of hb]
    ·rwa[SqL.of hb]
   have SA':SqL K H a xs\/SqT K H a xs:=by
    cases bl
    ·rwa[.inr SA]
    ·rwa[.inl SA]
   have SB':SqL K H b ys\/SqT K H b ys:=by
    cases bl
    ·rwa[.inr SB]
    ·rwa[.inl SB]
   have keep:∀(H':Hp),Same H H'->SqB bl K H' a xs/\SqB bl K H' b ys:=λH' e=>by
    cases bl
    ·rwa[SqT.same SA e,SqT.same SB e]
    ·rwa[e.seq SA,e.seq SB]
   cases hbl:bl with
   | true =>
    refine yO ?_;refine yO ?_;exists _,U,a,xs,U,SA',_,U,b,ys,U,SB',U,_,rfl;rw[decI (by rw[hlen])];refine xO ?_;refine⟨_,U,_,U,bl,bl,a,b,xs,ys,U,SA,SB,λc D hD=>iN (K:=K) (xs:=xs) (ys:=ys) (λi σ zs H'=>Same H H'/\H' D=Ig (.lst zs)/\zs=(x6 i Ii).map V.bl/\i<=xs.length/\∃ u v,σ=[u,v])
     ⟨zD hD _,zA,rfl,r9 _,Ih,Ih,rfl⟩ (λi σ zs H' ⟨e,e2,_⟩=>⟨(keep H' e).1,(keep H' e).2,e2⟩) ?_ ?_⟩
    ·rintro i u v T σ zs H' hu hv hT ⟨e,e2,rfl,hi,o1,o2,rfl⟩;have hil:i<xs.length:=(g9.mp hu).1;have s2:=zD hT (.tup [u,v]);erw[T,[u,v],U,SqT.of zA,U,u,[v],U,v,[],U,U,_,U,_,U,u,v,U,(hel i u v hu hv).same (e.trans s2),λH4 s4=>?_];have e4:=s4 _ _ (s2 _ _ e2);erw[e4,zT (by rw[a7,A7]; lia),λp o z=>?_,zA,?_,hil,_,_,rfl]
     ·rw[zG (zH z hD)];rwa[s4 _ _ (s2 _ _ (e _ _ z))]
     ·rw[E6,j5];rfl
    ·rintro σ zs H' ⟨e,e2,rfl,hi,o1,o2,rfl⟩;exists D,x6 (min xs.length ys.length) Ii,U,SqL.of e2;rw[show(x6 (min xs.length ys.length) Ii).all id=Ii from by simp];rwa[q _ e]
   | false =>
    refine xO ?_;exists _,U,_, "tuple",t,Ii,U,ty,kt.t.trans (by rw[hbl]; rfl),_,rfl;refine yO ?_;exists _,U,a,xs,U,SA',_,U,b,ys,U,SB',U,_,rfl;rw[decI (by rw[hlen])];refine xO ?_;refine⟨_,U,_,U,bl,bl,a,b,xs,ys,U,SA,SB,λc D hD=>iN (K:=K) (xs:=xs) (ys:=ys) (λi σ zs H'=>Same H H'/\H' D=Ig (.lst zs)/\zs=(x6 i Ii).map V.bl/\i<=xs.length/\∃ u v,σ=[u,v])
     ⟨zD hD _,zA,rfl,r9 _,Ih,Ih,rfl⟩ (λi σ zs H' ⟨e,e2,_⟩=>⟨(keep H' e).1,(keep H' e).2,e2⟩) ?_ ?_⟩
    ·rintro i u v T σ zs H' hu hv hT ⟨e,e2,rfl,hi,o1,o2,rfl⟩;have hil:i<xs.length:=(g9.mp hu).1;have s2:=zD hT (.tup [u,v]);erw[T,[u,v],U,SqT.of zA,U,u,[v],U,v,[],U,U,_,U,_,U,u,v,U,(hel i u v hu hv).same (e.trans s2),λH4 s4=>?_];have e4:=s4 _ _ (s2 _ _ e2);erw[e4,zT (by rw[a7,A7]; lia),λp o z=>?_,zA,?_,hil,_,_,rfl]
     ·rw[zG (zH z hD)];rwa[s4 _ _ (s2 _ _ (e _ _ z))]
     ·rw[E6,j5];rfl
    ·rintro σ zs H' ⟨e,e2,rfl,hi,o1,o2,rfl⟩;exists D,x6 (min xs.length ys.length) Ii,U,SqL.of e2;rw[show(x6 (min xs.length ys.length) Ii).all id=Ii from by simp];rwa[q _ e]
def cO(F:Fun K "_law_same" "_law_same" wn f fd)(Z:Zs mg)(bS:vb K fd ["_law_told","_law_due_here"] [])(kS:Au K (.ref f)=Ii)(mS:mg "_law_same" = Ig (.ref f)):yX P w K mg base CX0 6 f fd ["_law_told","_law_due_here"] (qZ K):=fG F Z bS kS mS 6
def axN:Option Cl->b9
 | none=>yM
 | some c=>axC c
def VL:Option Cl->g8
 | none => "NothingLeft"
 | some c=>fq c
def zw(_:b7)(x:b9):Sp:=λvs H Q _=>∃ c:Option Cl,vs=[.ref x]/\H x=Ig (Zk x (.ref (axN c)))/\∀ H',Same H H'->Q (.str (VL c)) H'
def iW(F:Fun K "_law_refused" "_law_refused" qM f fd)(Z:Zs mg)(CB:Cb P w mg base)  : ZL P w K mg base 1 f fd ["_law_e"] (zw K):=by
 erw[F.okH xA (λx vs H Q E h=>?_) (λx cdv A outer s H vs Q hx hr h=>?_)]
 ·obtain⟨c,rfl,_⟩:=h;rfl
 obtain⟨c,rfl,ex,q⟩:=h;have mD:axN c∈excL:=by rcases c with _ | c; decide; cases c <;> decide
 refine⟨_,(zC (qT (i:=1) xA.nd rfl (A4 rfl) (vS (zB (yW (zB zK (zB (zR (yJ (B:=base) rfl) rfl Z.isinstance zV (zB (pv 0) (zB (vW CB.gBadName) zI))) zI))) (zB (yW (zB zK (zB (zR (yJ (B:=base) rfl) rfl Z.isinstance zV (zB (pv 0) (zB (vW CB.gTaken) zI))) zI))) (zB (yW (zB zK (zB (zR (yJ (B:=base) rfl) rfl Z.isinstance zV (zB (pv 0) (zB (vW CB.gBadPlace) zI))) zI))) zI)))))
   (zC (qT (i:=1) xA.nd rfl (A4 rfl) (wG vn (pv 1) (vS (zB (yW (zB zK (zB (zR (yJ (B:=base) rfl) rfl Z.isinstance zV (zB (pv 0) (zB (vW CB.gFull) zI))) zI))) (zB (yW (zB zK (zB (zR (yJ (B:=base) rfl) rfl Z.isinstance zV (zB (pv 0) (zB (vW CB.gNoMark) zI))) zI))) (zB (yW (zB zK (zB (zR (yJ (B:=base) rfl) rfl Z.isinstance zV (zB (pv 0) (zB (vW CB.gSame) zI))) zI))) zI))))))
   (zC (qT (i:=1) xA.nd rfl (A4 rfl) (wG vn (pv 1) (vS (zB (yW (zB zK (zB (zR (yJ (B:=base) rfl) rfl Z.isinstance zV (zB (pv 0) (zB (vW CB.gNeeded) zI))) zI))) (zB (yW (zB zK (zB (zR (yJ (B:=base) rfl) rfl Z.isinstance zV (zB (pv 0) (zB (vW CB.gBadBank) zI))) zI))) zI)))))
   (zC (qT (i:=1) xA.nd rfl (A4 rfl) (wG vn (pv 1) (vS (zB (yW (zB zK (zB (zR (yJ (B:=base) rfl) rfl Z.isinstance zV (zB (pv 0) (zB (vW CB.gNoBank) zI))) zI))) (zB (yW (zB zK (zB (zR (yJ (B:=base) rfl) rfl Z.isinstance zV (zB (pv 0) (zB (vW CB.gBadRun) zI))) zI))) (zB (yW (zB zK (zB (zR (yJ (B:=base) rfl) rfl Z.isinstance zV (zB (pv 0) (zB (vW CB.gNoRun) zI))) zI))) zI))))))
   (zC (qT (i:=1) xA.nd rfl (A4 rfl) (wG vn (pv 1) (vS (zB (yW (zB zK (zB (zR (yJ (B:=base) rfl) rfl Z.isinstance zV (zB (pv 0) (zB (vW CB.gNoMoment) zI))) zI))) (zB (yW (zB zK (zB (zR (yJ (B:=base) rfl) rfl Z.isinstance zV (zB (pv 0) (zB (vW CB.gBadWay) zI))) zI))) zI)))))
   (zC (qT (i:=1) xA.nd rfl (A4 rfl) (wG vn (pv 1) (vS (zB (yW (zB zK (zB (zR (yJ (B:=base) rfl) rfl Z.isinstance zV (zB (pv 0) (zB (vW CB.gBadTurn) zI))) zI))) (zB (yW (zB zK (zB (zR (yJ (B:=base) rfl) rfl Z.isinstance zV (zB (pv 0) (zB (vW CB.gNoNote) zI))) zI))) zI)))))
   (zC (qT (i:=1) xA.nd rfl (A4 rfl) (wG vn (pv 1) (vS (zB (yW (zB zK (zB (zR (yJ (B:=base) rfl) rfl Z.isinstance zV (zB (pv 0) (zB (vW CB.gNothingLeft) zI))) zI))) (zB (yW (zB zK (zB (zR (yJ (B:=base) rfl) rfl Z.isinstance zV (zB (pv 0) (zB (vW CB.gBadRow) zI))) zI))) zI)))))
   (zC (qT (i:=1) xA.nd rfl (A4 rfl) (wG vn (pv 1) (vS (zB (yW (zB zK (zB (XC (zR (yJ (B:=base) rfl) rfl Z.isinstance zV (zB (pv 0) (zB (xq (v:=.ty "ValueError") rfl Z.ValueError lG rfl) zI)))) zI))) zI))))
   (zF (zM (Wx Es EO EQ Zy zK (zB (ZP (T:=["_law_word_here","_law_is_so"]) (caps:=[]) ⟨rfl,by ac_nf,by ac_nf,rfl,t7⟩ hx (YB x (pv 1)) (λ_=>(WN hx (yG (qO (i:=0) (show(["_law_word_here","_law_is_so"]:List g8).Nodup by ac_nf) rfl (A4 rfl)) (yG (qO (i:=1) (show(["_law_word_here","_law_is_so"]:List g8).Nodup by ac_nf) rfl (A4 rfl)) vZ)))) (λ_=>(ZW (yp (pv 1)))) (λ_=>(pv 0))) zI)))))))))))),?_⟩
 try dsimp only[L2.cxOf]
 erw[MkA.seqL (H:=H) (.cons (.of rfl λG Q s k=>⟨x,axN c,_,_,_,rfl,.inr ⟨_,rfl,rfl⟩,s _ _ ex,wD CB.isx mD (by decide),k⟩) (.cons (.of rfl λG Q s k=>⟨x,axN c,_,_,_,rfl,.inr ⟨_,rfl,rfl⟩,s _ _ ex,wD CB.isx mD (by decide),k⟩) (.cons (.of rfl λG Q s k=>⟨x,axN c,_,_,_,rfl,.inr ⟨_,rfl,rfl⟩,s _ _ ex,wD CB.isx mD (by decide),k⟩) .nil))) (g7 rfl) (Same.refl _) λso ts G S Lt R=>?_];erw[MkA.seqC (H:=H) (.cons (.of rfl λG Q s k=>⟨x,axN c,_,_,_,rfl,.inr ⟨_,rfl,rfl⟩,s _ _ ex,wD CB.isx mD (by decide),k⟩) (.cons (.of rfl λG Q s k=>⟨x,axN c,_,_,_,rfl,.inr ⟨_,rfl,rfl⟩,s _ _ ex,wD CB.isx mD (by decide),k⟩) (.cons (.of rfl λG Q s k=>⟨x,axN c,_,_,_,rfl,.inr ⟨_,rfl,rfl⟩,s _ _ ex,wD CB.isx mD (by decide),k⟩) .nil))) (g7 rfl) S rfl Lt R (g7 rfl) λso ts G S Lt R=>?_];erw[MkA.seqC (H:=H) (.cons (.of rfl λG Q s k=>⟨x,axN c,_,_,_,rfl,.inr ⟨_,rfl,rfl⟩,s _ _ ex,wD CB.isx mD (by decide),k⟩) (.cons (.of rfl λG Q s k=>⟨x,axN c,_,_,_,rfl,.inr ⟨_,rfl,rfl⟩,s _ _ ex,wD CB.isx mD (by decide),k⟩) .nil)) (g7 rfl) S rfl Lt R (g7 rfl) λso ts G S Lt R=>?_];erw[MkA.seqC (H:=H) (.cons (.of rfl λG Q s k=>⟨x,axN c,_,_,_,rfl,.inr ⟨_,rfl,rfl⟩,s _ _ ex,wD CB.isx mD (by decide),k⟩) (.cons (.of rfl λG Q s k=>⟨x,axN c,_,_,_,rfl,.inr ⟨_,rfl,rfl⟩,s _ _ ex,wD CB.isx mD (by decide),k⟩) (.cons (.of rfl λG Q s k=>⟨x,axN c,_,_,_,rfl,.inr ⟨_,rfl,rfl⟩,s _ _ ex,wD CB.isx mD (by decide),k⟩) .nil))) (g7 rfl) S rfl Lt R (g7 rfl) λso ts G S Lt R=>?_];erw[MkA.seqC (H:=H) (.cons (.of rfl λG Q s k=>⟨x,axN c,_,_,_,rfl,.inr ⟨_,rfl,rfl⟩,s _ _ ex,wD CB.isx mD (by decide),k⟩) (.cons (.of rfl λG Q s k=>⟨x,axN c,_,_,_,rfl,.inr ⟨_,rfl,rfl⟩,s _ _ ex,wD CB.isx mD (by decide),k⟩) .nil)) (g7 rfl) S rfl Lt R (g7 rfl) λso ts G S Lt R=>?_];erw[MkA.seqC (H:=H) (.cons (.of rfl λG Q s k=>⟨x,axN c,_,_,_,rfl,.inr ⟨_,rfl,rfl⟩,s _ _ ex,wD CB.isx mD (by decide),k⟩) (.cons (.of rfl λG Q s k=>⟨x,axN c,_,_,_,rfl,.inr ⟨_,rfl,rfl⟩,s _ _ ex,wD CB.isx mD (by decide),k⟩) .nil)) (g7 rfl) S rfl Lt R (g7 rfl) λso ts G S Lt R=>?_];erw[MkA.seqC (H:=H) (.cons (.of rfl λG Q s k=>⟨x,axN c,_,_,_,rfl,.inr ⟨_,rfl,rfl⟩,s _ _ ex,wD CB.isx mD (by decide),k⟩) (.cons (.of rfl λG Q s k=>⟨x,axN c,_,_,_,rfl,.inr ⟨_,rfl,rfl⟩,s _ _ ex,wD CB.isx mD (by decide),k⟩) .nil)) (g7 rfl) S rfl Lt R (g7 rfl) λso ts G S Lt R=>?_];erw[MkA.seqC (H:=H) (.cons (x := "none") (b:=Ij) (λG K s k=>⟨_,rfl,x,axN c,.ty "ValueError",.type "ValueError",Ii,rfl,.inl ⟨_,rfl,rfl⟩,s _ _ ex,Wq CB.isx mD,_,rfl,sz2,k⟩) .nil) (g7 rfl) S rfl Lt R (g7 rfl) λso ts G S Lt R=>?_];have lt:ts.length<=100:=by rw[R.len]; show 18<=100; decide
 have exG:=S _ _ ex;obtain⟨ws,ews⟩:∃ ws,ws=([(l5 "BadName",axN c == uA),(l5 "Taken",axN c == qN),(l5 "BadPlace",axN c == wV),(l5 "Full",axN c == ze),(l5 "NoMark",axN c == tZ),(l5 "Same",axN c == xm),(l5 "Needed",axN c == sJ),(l5 "BadBank",axN c == tT),(l5 "NoBank",axN c == rW),(l5 "BadRun",axN c == tX),(l5 "NoRun",axN c == yn),(l5 "NoMoment",axN c == xW),(l5 "BadWay",axN c == vP),(l5 "BadTurn",axN c == tU),(l5 "NoNote",axN c == rS),(l5 "NothingLeft",axN c == yM),(l5 "BadRow",axN c == nC),(l5 "none",Ij)]:List (g8×Bool)):=⟨_,rfl⟩
 replace R:nN G ts ws:=by rw[ews]; rwa[R]
 have wd:CT (l5 " ") ((ws.filter (·.2)).map (·.1))=VL c:=by rw[ews]; clear ews R; rcases c with _ | c; symm; cases c <;> symm
 have l100:ut (l5 " ") ((ws.filter (·.2)).map (·.1))<=1000:=by rw[ews]; clear ews R wd; rcases c with _ | c; ac_nf; cases c <;> ac_nf
 clear ews;refine⟨U,_,U,so,U,⟨_,SqL.of Lt⟩,λcc D hD=>dA (K:=K) (a:=so) (x:=x) (xs:=ts.map V.ref) (λi σ ys H'=>Same G H'/\H' D=Ig (.lst ys)/\ys=((ws.take i).filter (·.2)).map (λw=>V.str w.1)/\i<=ts.length/\∃ u v:Option V,σ=[u,v])
  ⟨zD hD _,zA,rfl,r9 _,Ih,Ih,rfl⟩ (λi σ ys H' _ hP=>⟨SqL.of (hP.1 _ _ Lt),hP.2.1,⟨_,hP.1 _ _ exG⟩⟩) ?_ ?_⟩
 ·rintro i v σ ys H' gv ⟨sH,eD,rfl,hi,u1,u2,rfl⟩;rw[d8,j7] at gv;obtain⟨t,gt,rfl⟩:=gv;have hit:=(g9.mp gt).1;obtain⟨w,gw⟩:∃ w,ws[i]?=Ig w:=⟨_,d3 (by rw[<- R.len]; rwa[hit])⟩;have et:=sH _ _ (R.at_ i t w gt gw);exists ⟨_,sH _ _ exG⟩,t,_,U,SqT.of et,U,.str w.1,_,U,.bl w.2,_,U,U,_,U,w.2,rfl;rw[w5,gw];cases hw:w.2 with
  | false=>rwa[yO ⟨sH,eD,by rw[Fy]; simp[hw],hit,_,_,rfl⟩]
  | true =>
   erw[xO ⟨_,rfl,eD,zT ?_,sH.putNew hD,zA,by rw[Fy,j5]; simp[hw],hit,_,_,rfl⟩];rw[a7];erw[j8 (BC _ _) ?_];rw[i9];lia
 ·rintro σ ys H' ⟨sH,eD,rfl,_,u1,u2,rfl⟩;rw[a7,R.len,Al] at eD;have e1:(ws.filter (·.2)).map (λw=>V.str w.1)=((ws.filter (·.2)).map (·.1)).map V.str:=by rw[t5]; rfl
  rw[e1] at eD;refine⟨l5 " ",D,_,U,U,SqL.of eD,by show _<=2^24; lia,?_⟩;rw[wd];rwa[q H' (S.trans sH)]
def qu(_:b7):Sp:=λvs H Q _=>∃(R:b9)(ns:List g8),vs=[.ref R]/\H R=Ig (.lst (ns.map V.str))/\∀ x:g8,oj x->Q (.str x) H
def kN(F:Fun K "_law_strange" "_law_strange" qF f fd)(Z:Zs mg)(CB:Cb P w mg base)  : yX P w K mg base CX0 1 f fd ["_law_names_here"] (qu K):=by
 specialize zn
 ·obtain⟨R,ns,rfl,_⟩:=h;rfl
 obtain⟨R,ns,rfl,eR,q⟩:=h;refine⟨_,(zC (sZ Ax rfl (iU rfl Z.range (zB yL (zB yL zI))) (qO (i:=1) zn.nd rfl (A4 rfl)) (zF (sZ Ax rfl (cP zK) (qO (i:=2) zn.nd rfl (A4 rfl)) (zF (zX (yI jC (wG jY (pv 2) (pv 1)) (pv 0) (by with_unfolding_all rfl)) (zF (zM (wG jY (pv 2) (pv 1)))) zN)))))
   (zF (zM zK))),?_⟩
 try dsimp only[L2.cxOf]
 erw[1,9,U,⟨by decide,by decide,by decide,by decide⟩,sG (lo:=1) (n:=8) (λi σ H'=>H'=H/\∃ u u':Option V,σ=[Ig (.ref R),u,u']) ⟨U,Ih,Ih,U⟩ ?_ ?_]
 ·rintro i σ H' hi ⟨rfl,u,u',rfl⟩;erw[_,U,(by ac_nf),ZV (λj σ G=>G=H'/\∃ u':Option V,σ=[Ig (.ref R),Ig (.int (1+i)),u']) ⟨U,u',U⟩ (λ_ _ _ _=>trivial) ?_ ?_]
  ·rintro j x σ G gx ⟨rfl,v,rfl⟩;have mx:=i8 gx;unfold qi at mx;obtain⟨c,hc,rfl⟩:=i4.mp mx;have c128:c<128:=by
    have:∀ c∈(l5 "zyxwvutsrqponmlkjihgfedcba").cps.toList,c<128:=by ac_nf
    rwa[this c hc]
   exists _,U,_,U,⟨#[c]⟩,1+i,U,U,by lia,by lia,(by show 1<=1000; decide),_,rfl,R,_,rfl,.inl (SqL.of eR),rfl,jX ns,_,rfl;erw[VB (λz=>?_) (λz=>?_)]
   ·exact⟨_,U,_,U,⟨#[c]⟩,1+i,U,U,by lia,by lia,(by show 1<=1000; decide),q _ (Wm c128 (by lia) (by lia))⟩
   ·rwa[U,_,U]
  ·rintro σ G ⟨rfl,v,rfl⟩;rwa[U,_,_,U]
 ·rintro σ H' ⟨rfl,u,u',rfl⟩;rwa[q _ asc_0]
def oF(_:b7):Sp:=λvs H Q _=>∃(k:Int)(R:b9)(ns:List g8),vs=[.int k,.ref R]/\0<=k/\k<1000003/\H R=Ig (.lst (ns.map V.str))/\1<=ns.length/\(∀ n∈ns,wL n)/\∀(x:g8)(H':Hp),oj x->Same H H'->Q (.str x) H'
def aJ(F:Fun K "_law_pick" "_law_pick" pw f fd)(Z:Zs mg)(CB:Cb P w mg base)(yBm:Has P w K mg base "_law_strange" 1 ["_law_names_here"] (qu K)):yX P w K mg base CX0 2 f fd ["_law_raw","_law_names_here"] (oF K):=by
 specialize aK
 ·obtain⟨k,R,ns,rfl,_⟩:=h;rfl
 obtain⟨k,R,ns,rfl,k0,k1,eR,l1,okn,q⟩:=h
 refine'⟨_,(zC (zX ?_ (zF (zM ?_)) zN)
   (zF (zM ?_))),?_⟩
 nofun
 exists _,U,_,_,U,U,(by show(0:Int)<14; decide),rfl,_,rfl;erw[ifE (λz=>?_) (λz=>?_)]
 ·erw[_,U,R,ns,U,eR,λy hy=>?_];refine⟨(by show 5<=sizeLine; decide),λp hp=>?_⟩;have sp:=zD hp (.lst [.str "",.str "A",.str "abcdefghi",.str "a b",.str y]);obtain⟨v,hv,e⟩:=nI (vs:=[.str "",.str "A",.str "abcdefghi",.str "a b",.str y]) (x:=k/14) (n:=5) (by decide) rfl;exists _,U,_,_,U,U,we.of (by decide) (by ac_nf),_,_,U,U,gt5,p,_,_,v,U,U,.inl (SqL.of zA),e;have lit:∀ x:g8,x∈[l5 "",l5 "A",l5 "abcdefghi",l5 "a b"]->oj x:=by unfold oj; ac_nf
  have go:∀ x:g8,oj x->Q (.str x) _:=λx hx=>q x _ hx sp;simp only[i7,Ag,or_false] at hv;rcases hv with rfl | rfl | rfl | rfl | rfl
  ·rwa[go _ (lit _ (.head _))]
  ·rwa[go _ (lit _ (.tail _ (.head _)))]
  ·rwa[go _ (lit _ (.tail _ (.tail _ (.head _))))]
  ·rwa[go _ (lit _ (.tail _ (.tail _ (.tail _ (.head _)))))]
  ·rwa[go _ hy]
 ·obtain⟨n,hn,e⟩:=UO (ms:=ns) (x:=k/14) (by rw[a7]; lia);exact⟨_,U,_,U,_,_,U,U,we.of (by decide) (by ac_nf),_,U,R,_,U,.inl (SqL.of eR),_,_,U,U,(by show(0:Int)<((ns.map V.str).length:Int); rw[a7]; lia),R,_,_,.str n,rfl,rfl,.inl (SqL.of eR),e,q n H (okn n hn).asc (Same.refl _)⟩
def zz(_:b7):Sp:=λvs H Q _=>∃(k:Int),vs=[.int k]/\0<=k/\k<1000003/\∀(x:Int)(H':Hp),qY x->Same H H'->Q (.int x) H'
def nJ(F:Fun K "_law_far_number" "_law_far_number" vL f fd)(Z:Zs mg)(CB:Cb P w mg base)  : yX P w K mg base CX0 1 f fd ["_law_raw"] (zz K):=by
 specialize oo
 ·obtain⟨k,rfl,_⟩:=h;rfl
 obtain⟨k,rfl,k0,k1,q⟩:=h
 refine'⟨_,(zC (zX ?_ (zF (zM ?_)) zN)
   (zC (zX ?_ (zF (zM ?_)) zN)
   (zF (zM ?_)))),?_⟩
 nofun
 exists _,U,_,_,U,U,(by show(0:Int)<9; decide),rfl,_,rfl;erw[ifE (λz=>?_) (λz=>?_)]
 ·refine⟨_,U,_,U,_,_,U,U,(by unfold Te; decide),(by show 6<=sizeLine; decide),λp hp=>?_⟩;have sp:=zD hp (.lst [.int (-1000),.int 1000,.int 1001,.int (-1001),.int (10^20),.int 0]);obtain⟨v,hv,e⟩:=nI (vs:=[.int (-1000),.int 1000,.int 1001,.int (-1001),.int (10^20),.int 0]) (x:=k/9) (n:=6) (by decide) rfl;exists _,U,_,_,U,U,we.of (by decide) (by ac_nf),_,_,U,U,(by show(0:Int)<6; decide),p,_,_,v,rfl,rfl,.inl (SqL.of zA),e;simp only[i7,Ag,or_false] at hv;rcases hv with rfl | rfl | rfl | rfl | rfl | rfl <;> rwa[q _ _ (xV (by decide)) sp]
 exists _,U,_,_,U,U,gt3,U,_,rfl;erw[ifE (λz=>?_) (λz=>?_)]
 ·exact⟨_,U,_,_,U,U,we.of (by decide) (by ac_nf),_,_,U,U,(by show(0:Int)<2001; decide),_,_,rfl,rfl,q _ H (xV (by lia)) (Same.refl _)⟩
 ·exact⟨_,U,_,_,U,U,we.of (by decide) (by ac_nf),_,_,U,U,(by show(0:Int)<31; decide),_,_,rfl,rfl,q _ H (xV (by lia)) (Same.refl _)⟩
def eV(_:b7):Sp:=λvs H Q _=>∃(o t wd:Int),vs=[.int o,.int t,.int wd]/\1<=wd/\wd<=1000000 /\
 ∀(p:b9)(x y:Int)(H':Hp),Same H H'->H p=Ih->H' p=Ig (.tup [.int x,.int y])->(x≠0\/y≠0)->x.natAbs<=wd.natAbs->y.natAbs<=wd.natAbs->Q (.ref p) H'
def YX(F:Fun K "_law_way" "_law_way" lQ f fd)(Z:Zs mg)(CB:Cb P w mg base)  : yX P w K mg base CX0 1 f fd ["_law_one","_law_two","_law_wide"] (eV K):=by
 specialize pH
 ·obtain⟨o,t,wd,rfl,_⟩:=h;rfl
 obtain⟨o,t,wd,rfl,w1,w2,q⟩:=h
 refine'⟨_,(zC (yE 3 pH.nd ?_)
   (zC (yE 4 pH.nd ?_)
   (zC (zX ?_ (zF (yE 3 pH.nd ?_)) zN)
   (zF (zM ?_))))),?_⟩
 nofun
 have x0:=t9 o (show 2*wd+1≠0 by lia);have x1:=o6 o (show 0<2*wd+1 by lia);have y0:=t9 t (show 2*wd+1≠0 by lia);have y1:=o6 t (show 0<2*wd+1 by lia);exists _,U,_,U,_,_,U,U,.inl ⟨by decide,by decide⟩,_,_,U,U,_,_,U,U,(by show 0<2*wd+1; lia),_,rfl,_,_,rfl,rfl;exists _,U,_,U,_,_,U,U,.inl ⟨by decide,by decide⟩,_,_,U,U,_,_,U,U,(by show 0<2*wd+1; lia),_,rfl,_,_,rfl,rfl;exists _,U,U,_,rfl;erw[ifE (λhx=>?_) (λhx=>?_)]
 ·exists _,U,U,_,rfl;erw[ifE (λhy=>?_) (λhy=>?_)]
  ·exists _,U,_,_,U,U,gt2,_,_,U,U,.inl ⟨by decide,by decide⟩,_,_,U,rfl;erw[_,U,_,U,sz2,λp hp=>?_];rwa[q p _ _ _ (zD hp _) hp zA (by left; lia) (by lia) (by lia)]
  ·erw[_,U,_,U,sz2,λp hp=>?_];rwa[q p _ _ _ (zD hp _) hp zA (.inr hy) (by lia) (by lia)]
 ·erw[yO ?_];erw[_,U,_,U,sz2,λp hp=>?_];rwa[q p _ _ _ (zD hp _) hp zA (.inl hx) (by lia) (by lia)]
def xh(K:b7):Sp:=λvs H Q _=>∃(a b:b9)(us ws:List V)(x1 y1 x2 y2:Int),vs=[.ref a,.ref b]/\Sq K H a us/\Sq K H b ws/\atI us 0=Ig (.int x1)/\atI us 1=Ig (.int y1)/\atI ws 0=Ig (.int x2)/\atI ws 1=Ig (.int y2) /\
 x1.natAbs<=10^18/\y1.natAbs<=10^18/\Q (.int (x1*y2-y1*x2)) H
def gL(F:Fun K "_law_turned" "_law_turned" yl f fd)(Z:Zs mg)(CB:Cb P w mg base)  : yX P w K mg base CX0 1 f fd ["_law_one","_law_other"] (xh K):=by
 specialize fg
 ·obtain⟨a,b,us,ws,x1,y1,x2,y2,rfl,_⟩:=h;rfl
 obtain⟨a,b,us,ws,x1,y1,x2,y2,rfl,ha,hb,u0,u1,w0,w1,m1,m2,q⟩:=h
 refine'⟨_,(zF (zM ?_)),?_⟩
 nofun
 exact⟨_,U,a,_,_,.int x1,U,U,ha,u0,_,U,b,_,_,.int y2,U,U,hb,w1,_,_,U,U,YR (by lia),
  _,rfl,a,_,_,.int y1,rfl,rfl,ha,u1,_,rfl,b,_,_,.int x2,rfl,rfl,hb,w0,_,_,rfl,rfl,YR (by lia),_,_,rfl,rfl,q⟩
def xy(K:b7):Sp:=λvs H Q _=>∃(a:b9)(rows:List Int)(wd:Int),vs=[.ref a,.int wd]/\SqL K H a (rows.map V.int)/\5<=rows.length/\(∀ x∈rows,0<=x/\x<1000003)/\1<=wd/\wd<=100 /\
 ∀(t p r:b9)(A0 A1 B0 B1:Int)(H':Hp),Same H H'->H' t=Ig (.tup [.ref p,.ref r])->H' p=Ig (.tup [.int A0,.int A1])->H' r=Ig (.tup [.int B0,.int B1])->0<A0*B1-A1*B0->A0.natAbs<=wd.natAbs->A1.natAbs<=wd.natAbs->B0.natAbs<=wd.natAbs->B1.natAbs<=wd.natAbs->Q (.ref t) H'
def nP(F:Fun K "_law_left_pair" "_law_left_pair" tP f fd)(Z:Zs mg)(CB:Cb P w mg base)(yBo:Has P w K mg base "_law_turned" 1 ["_law_one","_law_other"] (xh K))(yCh:Has P w K mg base "_law_way" 1 ["_law_one","_law_two","_law_wide"] (eV K)):yX P w K mg base CX0 2 f fd ["_law_d","_law_wide"] (xy K):=by
 specialize xR
 ·obtain⟨a,rows,wd,rfl,_⟩:=h;rfl
 obtain⟨a,rows,wd,rfl,hS,hl,bd,w1,w2,q⟩:=h
 refine'⟨_,(zC (yE 2 xR.nd ?_)
   (zC (yE 3 xR.nd ?_)
   (zC (zX ?_ (zF (yE 3 xR.nd ?_)) zN)
   (zC (zX ?_ (zF (aX (i:=2) (j:=3) rfl xR.nd rfl rfl (by decide) rfl rfl (zB (pv 3) (zB (pv 2) zI)) rfl)) zN)
   (zC (zX ?_ (zF (yE 3 xR.nd ?_)) zN)
   (zF (zM ?_))))))),?_⟩
 nofun
 obtain⟨v0,a0,_⟩:=xQ bd (k:=0) (by decide) (by lia);obtain⟨v1,a1,_⟩:=xQ bd (k:=1) (by decide) (by lia);obtain⟨v2,a2,_⟩:=xQ bd (k:=2) (by decide) (by lia);obtain⟨v3,a3,_⟩:=xQ bd (k:=3) (by decide) (by lia);obtain⟨v4,a4,_⟩:=xQ bd (k:=4) (by decide) (by lia);erw[_,U,a,_,_,_,U,U,.inl hS,a0,_,U,a,_,_,_,U,U,.inl hS,a1,_,U,v0,v1,wd,U,w1,by lia,λp1 x1 y1 H2 s2 hp1 e1' n1 m1 m2=>?_];have wb:wd.natAbs<=10^18:=by lia
 have k1:x1.natAbs<=wd.natAbs:=by lia
 have k2:y1.natAbs<=wd.natAbs:=by lia
 clear m1 m2;apply cut4 (ok:=λO X Y G=>Same H G/\G p1=Ig (.tup [.int x1,.int y1])/\G O=Ig (.tup [.int X,.int Y])/\X.natAbs<=wd.natAbs/\Y.natAbs<=wd.natAbs)
 ·intro main;erw[_,U,a,_,_,_,U,U,.inl (s2.seq hS),a2,_,U,a,_,_,_,U,U,.inl (s2.seq hS),a3,_,U,v2,v3,wd,U,w1,by lia,λp2 x2 y2 H3 s3 hp2 e3 n2 m3 m4=>?_];have s23:=s2.trans s3;have e13:=s3 _ _ e1';exists _,U,a,_,_,_,U,U,.inl (s23.seq hS),a4,_,_,U,U,gt4,U,_,rfl;erw[ifE (λ_=>?_) (λ_=>?_)];rotate_left
  ·rwa[main p2 x2 y2 H3 ⟨s23,e13,e3,by lia,by lia⟩]
  ·erw[_,U,p1,_,_,.int y1,U,U,.inr (SqT.of e13),U,_,U,_,U,p1,_,_,.int x1,U,U,.inr (SqT.of e13),U,sz2,λd hd=>?_];have sd:=zD hd (.tup [.int (-y1),.int x1]);rwa[main d (-y1) x1 _ ⟨s23.trans sd,sd _ _ e13,zA,by rw[GO]; exact k2,k1⟩]
 rintro O X Y G ⟨sH,e1,e2,k3,k4⟩;have f1:Sq K G p1 [.int x1,.int y1]:=.inr (SqT.of e1);have f2:Sq K G O [.int X,.int Y]:=.inr (SqT.of e2);have b1:x1.natAbs<=10^18:=j8 k1 wb;have b2:y1.natAbs<=10^18:=j8 k2 wb;exists _,U,_,U,p1,O,_,_,x1,y1,X,Y,U,f1,f2,U,U,U,U,b1,b2,_,_,U,U,_,rfl;have eT:X*y1-Y*x1 = -(x1*Y-y1*X):=by rw[El X y1,El Y x1]; lia
 erw[ifD (λhneg=>?_) (λhneg=>?_)]
 ·exists _,U,_,U,_,_,rfl;exists _,U,_,U,O,p1,_,_,X,Y,x1,y1,U,f2,f1,U,U,U,U,j8 k3 wb,j8 k4 wb,U,_,rfl;erw[ifE (λz=>x4 z (by clear k1 k2 k3 k4 b1 b2 w1 w2 wb hl; lia)) (λ_=>?_)];erw[_,U,_,U,sz2,λt ht=>?_];have st:=zD ht (.tup [.ref O,.ref p1]);rwa[q t O p1 X Y x1 y1 _ ((sH).trans st) zA (st _ _ e2) (st _ _ e1) (by clear k1 k2 k3 k4 b1 b2 w1 w2 wb hl; lia) k3 k4 k1 k2]
 ·exists _,U,_,U,p1,O,_,_,x1,y1,X,Y,U,f1,f2,U,U,U,U,b1,b2,U,_,rfl;erw[ifE (λhz=>?_) (λhz=>?_)]
  ·erw[_,U,p1,_,_,.int y1,U,U,f1,U,_,U,_,U,p1,_,_,.int x1,U,U,f1,U,sz2,λd hd=>?_];have sd:=zD hd (.tup [.int (-y1),.int x1]);erw[_,U,_,U,sz2,λt ht=>?_];have st:=zD ht (.tup [.ref p1,.ref d]);have sp:=VU n1;rwa[q t p1 d x1 y1 (-y1) x1 _ (sH.trans (sd.trans st)) zA (st _ _ (sd _ _ e1)) (st _ _ zA) (by rw[Go]; lia) k1 k2 (by rw[GO]; exact k2) k1]
  ·erw[_,U,_,U,sz2,λt ht=>?_];have st:=zD ht (.tup [.ref p1,.ref O]);rwa[q t p1 O x1 y1 X Y _ (sH.trans st) zA (st _ _ e1) (st _ _ e2) (by clear k1 k2 k3 k4 b1 b2 w1 w2 wb hl; lia) k1 k2 k3 k4]
structure Mn(H0 G:Hp)(p1 p2:b9)(us:List V):Prop where
 mk ::
 same:Same H0 G
 t1:Tin G p1
 t2:Tin G p2
 all:∀ v∈us,∃ u p q:b9,v=.ref u/\G u=Ig (.tup [.ref p,.ref q])/\Tin G p/\Tin G q
def Mn.new{H0 G:Hp}{p1 p2 t:b9}{us:List V}{o:HO}(M:Mn H0 G p1 p2 us)(n:G t=Ih):Mn H0 (upd G t o) p1 p2 us :=
 have s:=zD n o
 ⟨M.same.trans s,M.t1.to s,M.t2.to s,λv hv=>let ⟨u,p,q,e,h,a,b⟩:=M.all v hv;⟨u,p,q,e,s _ _ h,a.to s,b.to s⟩⟩
def Mn.add{H0 G:Hp}{p1 p2 t a b:b9}{us:List V}(M:Mn H0 G p1 p2 us)(n:G t=Ih)(ha:Tin G a)(hb:Tin G b):Mn H0 (upd G t (.tup [.ref a,.ref b])) p1 p2 (us++[.ref t]) :=
 have s:=zD n (.tup [.ref a,.ref b]);have m:=M.new (o:=.tup [.ref a,.ref b]) n
 ⟨m.same,m.t1,m.t2,λv hv=>(m7.mp hv).elim (m.all v) λz=>⟨t,a,b,d9.mp z,zA,ha.to s,hb.to s⟩⟩
def rP(_:b7):Sp:=λvs H Q _=>∃(a d R:b9)(rows:List Int)(ns:List g8)(S:BS),vs=[.ref a,.ref d,.ref R]/\H a=Ig (.lst (rows.map V.int))/\10<=rows.length/\(∀ v∈rows,0<=v/\v<1000003)/\al H d S/\jS S/\H R=Ig (.lst (ns.map V.str))/\1<=ns.length/\(∀ n∈ns,wL n) /\
 ∀(v:V)(m:Int)(n:g8)(a b c d:Int)(H':Hp),Sam H H'->Rep H' (Deed.bearing m n a b c d).dt v->qb (.bearing m n a b c d)->Q v H'
def ur(F:Fun K "_law_bearing_deed" "_law_bearing_deed" wO f fd)(Z:Zs mg)(CB:Cb P w mg base)(yBc:Has P w K mg base "_law_left_pair" 2 ["_law_d","_law_wide"] (xy K))(yBx:Has P w K mg base "_law_pick" 2 ["_law_raw","_law_names_here"] (oF K)):yX P w K mg base CX0 3 f fd ["_law_d","_law_m","_law_names_here"] (rP K):=by
 specialize zZ
 ·obtain⟨a,d,R,rows,ns,S,rfl,_⟩:=h;rfl
 obtain⟨a,d,R,rows,ns,S,rfl,ha,l10,bd,⟨m,b,r,n,lw⟩,wl,eR,l1,okn,q⟩:=h;obtain⟨v1,a1,z1⟩:=xQ bd (k:=1) (by decide) (by lia);obtain⟨v2,a2,z2⟩:=xQ bd (k:=2) (by decide) (by lia);obtain⟨v3,a3,z3⟩:=xQ bd (k:=3) (by decide) (by lia);obtain⟨v8,a8,z8⟩:=xQ bd (k:=8) (by decide) (by lia);obtain⟨v9,a9,z9⟩:=xQ bd (k:=9) (by decide) (by lia);have few:=wl.good.few;have sq:∀{H':Hp},H' a=Ig (.lst (rows.map V.int))->Sq K H' a (rows.map V.int):=λh=>.inl (SqL.of h);obtain⟨ys,er,rr⟩:=lw.ru;have ly:ys.length=S.runs.length:=by rw[rr.length,a7]
 have fr:=few.ru;obtain⟨mk,hmk,kv⟩:=lw.ma;have lrm:(mk.map λkv=>kV kv.1)=(S.marks.map (·.1)).map V.str:=lq kv;have lmk:mk.length=S.marks.length:=by rw[kv.length,zm]
 refine'⟨_,(zC (yE 3 zZ.nd (wG mW ?_ (wG xv (zR yU rfl Z.len wZ (zB (zO (zU hr) (pv 1) zK (λ_ _=>rfl)) zI)) yL)))
   (zC (zX ?_ (zF (yE 3 zZ.nd (gb jL (vS (zB ?_ (zB (wG xv (zR yU rfl Z.len wZ (zB (zO (zU hr) (pv 1) zK (λ_ _=>rfl)) zI)) yL) (zB ?_ zI)))) ?_ (λ_ _=>rfl)))) zN)
   (zC (yE 4 zZ.nd ?_)
   (zC (zX (PW.pt (mm ?_ (uj (yI (Wu hr.units0) (zO (zU hr) (pv 1) zK (λ_ _=>rfl)) rA (yS _))))) (zF (yE 4 zZ.nd (gb jL (zR kY rfl Z.sorted vX (zB (xP (sg rfl) rfl Z.list xb (zB (zO (zU hr) (pv 1) zK (λ_ _=>rfl)) zI)) zI)) (wG mW ?_ (zR vR rfl Z.len wZ (zB (zO (zU hr) (pv 1) zK (λ_ _=>rfl)) zI))) (λ_ _=>rfl)))) zN)
   (zC (pS ?_ (zp rfl (yG (rT 5 zZ.nd) (yG (rT 6 zZ.nd) vZ))))
   (zC (yE 7 zZ.nd ?_)
   (zC (zX ?_ (zC (yE 8 zZ.nd ?_)
   (zF (pS ?_ (zp rfl (yG (rT 5 zZ.nd) (yG (rT 6 zZ.nd) vZ)))))) zN)
   (zF (zM ?_))))))))),?_⟩
 nofun
 apply cutIH (ok:=λmo G=>Same H G/\qY mo)
 ·intro rest;exists _,U,a,_,_,_,U,U,sq ha,a1,_,U,d,.ref r,U,.inl ⟨_,.inr "runs",lw.at_,U,uR.symm⟩,r,ys,U,.inl (SqL.of er),_,_,U,U,_,_,U,U,(by show(0:Int)<(ys.length:Int)+1; lia);have e0:=t9 v1 (show(ys.length:Int)+1≠0 by lia);have e1:=o6 v1 (show(0:Int)<(ys.length:Int)+1 by lia);have t0:qY (v1%((ys.length:Int)+1)):=xV (by lia);generalize v1%((ys.length:Int)+1)=mo at t0 ⊢;exists _,U,a,_,_,_,U,U,sq ha,a2,_,_,U,U,(by show(0:Int)<17; decide),rfl,_,rfl;erw[ifE (λz=>?_) (λz=>?_)];rotate_left
  ·rwa[rest mo H ⟨Same.refl _,t0⟩]
  ·erw[_,U,_,U,d,.ref r,U,.inl ⟨_,.inr "runs",lw.at_,U,uR.symm⟩,r,ys,U,.inl (SqL.of er),_,_,U,U,_,_,U,U,(by unfold Te; decide),sz3,λp hp=>?_];have sp:=zD hp (.lst [.int (-1),.int ((ys.length:Int)+1),.int (10^20)]);obtain⟨v,hv,e⟩:=nI (vs:=[.int (-1),.int ((ys.length:Int)+1),.int (10^20)]) (x:=v1) (n:=3) (by decide) rfl;exists _,U,a,_,_,_,U,U,sq (sp _ _ ha),a1,_,_,U,U,gt3,p,_,_,v,U,U,.inl (SqL.of zA),e;simp only[i7,Ag,or_false] at hv;rcases hv with rfl | rfl | rfl
   ·rwa[rest (-1) _ ⟨sp,xV (by decide)⟩]
   ·rwa[rest ((ys.length:Int)+1) _ ⟨sp,xV (by lia)⟩]
   ·rwa[rest (10^20) _ ⟨sp,xV (by decide)⟩]
 intro mo H1 ⟨s1,t1⟩;apply cutSH (ok:=λnm G=>Sam H G/\oj nm)
 ·intro rest;erw[_,U,a,_,_,_,U,U,sq (s1 _ _ ha),a3,_,U,v3,R,ns,U,z3.1,z3.2,s1 _ _ eR,l1,okn,λnm H2 an s2=>?_];have s12:=s1.trans s2;have ha2:=s12 _ _ ha;have lw2:=lw.to (.of s12);exists _,U,a,_,_,_,U,U,sq ha2,a3,_,_,U,U,gt5,_,_,U,U,_,rfl;erw[ifD (λz=>?_) (λz=>?_)];rotate_left
  ·rwa[yO (rest nm H2 ⟨.of s12,an⟩)]
  ·have hmk2:=(Rd.same hmk s12:Rd H2 m (.dK mk));erw[_,U,d,.ref m,U,.inl ⟨_,.inr "marks",lw2.at_,U,yT.symm⟩,λp hp=>?_];have sp:=zD hp (.dK []);exists m,p,mk,U,U,Rd.same hmk2 sp,zA,_,rfl;have s13:=s12.trans sp;generalize upd H2 p (.dK [])=G1 at s13 ⊢;cases hem:mk.isEmpty with
   | true=>rwa[yO (rest nm _ ⟨.of s13,an⟩)]
   | false =>
   have lm1:1<=S.marks.length:=by cases mk with | nil=>cases hem | cons _ _=>rw[<- lmk]; rwa[Nat.le_add_left _ _]
   erw[xO ?_];have lw3:=lw.to (.of s13);erw[_,U,d,.ref m,U,.inl ⟨_,.inr "marks",lw3.at_,U,yT.symm⟩,m,mk,U,Rd.same hmk s13,λp1 hp1=>?_];rw[lrm];have s4:=zD hp1 (.lst ((S.marks.map (·.1)).map V.str));refine⟨p1,S.marks.map (·.1),U,SqL.of zA,(by rw[a7]; have:=few.ma; lia),λp2 ms hp2 pm srt=>?_⟩;have s5:=s4.trans (zD hp2 (.lst (ms.map V.str)));have e5:upd (upd G1 p1 (.lst ((S.marks.map (·.1)).map V.str))) p2 (.lst (ms.map V.str)) p2=Ig (.lst (ms.map V.str)):=zA;generalize upd (upd G1 p1 (.lst ((S.marks.map (·.1)).map V.str))) p2 (.lst (ms.map V.str))=G2 at s5 e5 ⊢;have s15:=s13.trans s5;have lw5:=lw.to (.of s15);have lms:ms.length=S.marks.length:=by rw[pm.length_eq,a7]
   obtain⟨v,hv,e⟩:=nI (vs:=ms.map V.str) (x:=v3/5) (n:=(mk.length:Int)) (by lia) (by rw[a7,lms,lmk]);obtain⟨nn,hn,rfl⟩:=i4.mp hv;exists _,U,a,_,_,_,U,U,sq (s15 _ _ ha),a3,_,_,U,U,we.of (by decide) (by ac_nf),_,U,d,.ref m,U,.inl ⟨_,.inr "marks",lw5.at_,U,yT.symm⟩,m,mk,U,Rd.same hmk s15,_,_,U,U,(by show(0:Int)<(mk.length:Int); lia),p2,_,_,.str nn,rfl,rfl,.inl (SqL.of e5),e;obtain⟨em,hem',enn⟩:=i4.mp (pm.mem_iff.mp hn);rwa[rest nn _ ⟨.of s15,enn ▸ (wl.names em hem').asc⟩]
 intro nm H3 ⟨s3,an⟩;have ha3:=s3.lst id ha;have ct4:zg (rows.map V.int) (Ig ((4:Nat):Int)) Ih=(rows.drop 4).map V.int:=by rw[ux,HT.sIx_nat rows.length 0 4,show min 4 rows.length=4 by lia,show HT.sIx rows.length rows.length Ih=rows.length from rfl,Aa (by rw[p0]; lia)]
 have ct4:zg (rows.map V.int) (Ig 4) Ih=(rows.drop 4).map V.int:=ct4;have fin:∀(p1 p2:b9)(G:Hp),Same H3 G->Tin G p1->Tin G p2->∀ w,G w=Ih->Q (.ref w) (upd G w (.tup [.str "bearing",.int mo,.str nm,.ref p1,.ref p2])):=by
  intro p1 p2 G s4 ⟨x1,y1,e1,tx1,ty1⟩ ⟨x2,y2,e2,tx2,ty2⟩ w hw;have sw:=zD hw (.tup [.str "bearing",.int mo,.str nm,.ref p1,.ref p2]);rwa[q (.ref w) mo nm x1 y1 x2 y2 _ (s3.trans (.of (s4.trans sw))) (gf zA (sw _ _ e1) (sw _ _ e2)) ⟨t1,an,tx1,ty1,tx2,ty2⟩]
 refine⟨_,U,_,U,a,_,U,SqL.of ha3,λc hc=>?_⟩;have sc:=zD hc (.lst (zg (rows.map V.int) (Ig 4) Ih));refine⟨sz2,λe he=>?_⟩;have se:=zD he (.lst [.int 3,.int 100]);have sce:=sc.trans se;obtain⟨v,hv,e3⟩:=nI (vs:=[.int 3,.int 100]) (x:=v8) (n:=2) (by decide) rfl;obtain⟨wd,rfl,w1,w2⟩:∃ wd:Int,v=.int wd/\1<=wd/\wd<=100:=by
  simp only[i7,Ag,or_false] at hv;rcases hv with rfl | rfl
  ·rwa[3,U,by decide,by decide]
  ·rwa[100,U,by decide,by decide]
 exists _,U,a,_,_,_,U,U,sq (sce _ _ ha3),a8,_,_,U,U,gt2,e,_,_,_,U,U,.inl (SqL.of zA),e3;erw[c,rows.drop 4,wd,U,SqL.of (by rw[se _ _ zA,ct4]),(by rw[p0]; lia),(λv hv=>bd v (Bj hv)),w1,w2,λt2 p1 p2 A0 A1 B0 B1 H4 s4 et2 e1 e2 tn n1 n2 n3 n4=>?_];have s34:=sce.trans s4;have ti1:Tin H4 p1:=⟨A0,A1,e1,xV (by lia),xV (by lia)⟩;have ti2:Tin H4 p2:=⟨B0,B1,e2,xV (by lia),xV (by lia)⟩;clear n1 n2 n3 n4 tn e1 e2 sce se sc;exists t2,_,U,SqT.of et2,U,.ref p1,_,U,.ref p2,_,U,rfl;exists _,U,a,_,_,_,U,U,sq (s34 _ _ ha3),a9,_,_,U,U,(by show(0:Int)<40; decide);have y0:0<=v9%40:=by lia
 generalize v9%40=W at y0 ⊢;exists _,U,_,_,U,U,_,rfl;erw[ifD (λz=>?_) (λz=>?_)];rotate_left
 ·exact⟨_,U,_,U,_,U,_,U,(by show 5<=sizeLine; decide),fin p1 p2 H4 s34 ti1 ti2⟩
 ·have M:Mn H3 H4 p1 p2 []:=⟨s34,ti1,ti2,λv hv=>nomatch hv⟩;erw[_,U,_,U,sz2,λu1 hu1=>?_]
  replace M:=M.add hu1 M.t2 M.t1
  erw[sz2,λi2 hi2=>⟨_,U,sz2,λu2 hu2=>?_⟩]
  replace M:=(M.new hi2).add hu2 (Tin.new (by decide) (by decide)) (M.new hi2).t2
  erw[_,U,sz2,λi3 hi3=>⟨sz2,λu3 hu3=>?_⟩]
  replace M:=(M.new hi3).add hu3 (M.new hi3).t1 (Tin.new (by decide) (by decide))
  erw[_,U,_,U,sz2,λu4 hu4=>?_]
  replace M:=M.add hu4 M.t1 M.t1
  erw[sz2,λi5 hi5=>⟨_,U,sz2,λu5 hu5=>?_⟩]
  replace M:=(M.new hi5).add hu5 (Tin.new (by decide) (by decide)) (M.new hi5).t2
  erw[_,U,_,U,sz2,λi6 hi6=>⟨sz2,λu6 hu6=>?_⟩]
  replace M:=(M.new hi6).add hu6 (M.new hi6).t1 (Tin.new (by decide) (by decide))
  refine⟨(by show 6<=sizeLine; decide),λL hL=>?_⟩
  replace M:=M.new (o:=.lst [.ref u1,.ref u2,.ref u3,.ref u4,.ref u5,.ref u6]) hL
  obtain⟨v,hv,e⟩:=UA (vs:=[.ref u1,.ref u2,.ref u3,.ref u4,.ref u5,.ref u6]) y0 (show W<6 by lia);obtain⟨u,p,r',rfl,eu,tp,tr⟩:=M.all v hv;exact⟨_,U,_,U,L,_,_,_,U,U,.inl (SqL.of zA),e,u,_,U,SqT.of eu,U,.ref p,_,U,.ref r',_,U,U,_,U,_,U,_,U,_,U,(by show 5<=sizeLine; decide),fin p r' _ M.same tp tr⟩
def zx(_:b7):Sp:=λvs H Q _=>∃ x:g8,vs=[.str x]/\oj x/\∀(b:Bool)(H':Hp),(b=Ii↔wL x)->Same H H'->Q (.bl b) H'
def jt(F:Fun K "_law_is_name" "_law_is_name" qL f fd)(Z:Zs mg)(CB:Cb P w mg base)  : yX P w K mg base CX0 1 f fd ["_law_name"] (zx K):=by
 specialize kJ
 ·obtain⟨x,rfl,_⟩:=h;rfl
 obtain⟨x,rfl,as,q⟩:=h;exists _,(zF (zM (ig (uv wg wg yL (zR yu rfl Z.len wZ (zB (pv 0) zI)) yL) (jl (zR (sC rfl) rfl Z.all pZ (zB (uX (T:=["_law_sign"]) (caps:=[]) ⟨U,by ac_nf,by ac_nf,U,t7⟩ rfl (cP (pv 0)) (λ_=>(qO (i:=0) (show(["_law_sign"]:List g8).Nodup by ac_nf) rfl (A4 rfl))) (λ_=>wH) (λ_=>(sL YF (pv 0) zK (by with_unfolding_all rfl)))) zI))))))
 try dsimp only[L2.cxOf]
 have hz:x.length<=sizeLine:=j8 as.2 (by decide);have no:¬ wL x->Q (.bl Ij) H:=λz=>q Ij H (iff_of_false nofun z) (Same.refl _);exists _,U,x,U,hz,_,_,U,U,_,rfl;refine ifD (λh1=>?_) (λh1=>⟨_,rfl,yO (no λz=>h1 (by have:=z.1; lia))⟩);exists _,_,U,U,_,rfl;refine ifD (λh2=>?_) (λh2=>no λz=>h2 (by have:=z.2.1; lia));have asc:x.cps.all (· < 128)=true:=by
  rw[Fx];intro c hm;rwa[q0 (as.1 c (C6.mpr hm))]
 refine⟨_,U,x,U,asc,λc D hD=>?_⟩;refine lv (xs:=qi x) (λi σ zs H'=>Same H H'/\H' D=Ig (.lst zs)/\(∃ bs:List Bool,zs=bs.map V.bl/\bs.length=i/\(bs.all id=Ii↔∀ c∈x.cps.toList.take i,97<=c/\c<=122))/\i<=x.length/\∃ u0:Option V,σ=[u0])
  ⟨zD hD _,zA,⟨[],rfl,rfl,by simp⟩,r9 _,Ih,rfl⟩ (λi σ zs H' ⟨_,e,_⟩=>⟨t7,e⟩) ?_ ?_
 ·rintro i v σ zs H' hi ⟨sH,eD,⟨bs,rfl,lb,ab⟩,hi8,u0,rfl⟩;unfold qi at hi;rw[d8,j7] at hi;obtain⟨n,gn,rfl⟩:=hi;have hil:i<x.length:=by
   have:=(g9.mp gn).1;rw[Aj] at this;rwa[this]
  have hn:n<128:=as.1 n (i8 gn);exists _,U,_,_,U,rfl;rw[VY n hn];refine⟨eD,zT (by rw[a7]; have:=as.2; lia),sH.putNew hD,zA,⟨bs++[decide (97<=n/\n<=122)],by rw[j5]; rfl,by rw[f8,lb]; rfl,?_⟩,hil,_,rfl⟩;rw[EG,o8,ab,w5,gn];simp only[Cz,Er,D3,id,decide_eq_true_eq,m7,Hu,d9];constructor
  ·rintro⟨h1,h2⟩ c (h | rfl)
   ·rwa[h1 c h]
   ·rwa[h2]
  ·rwa[λh=>⟨λc hc=>h c (.inl hc),h n (.inr rfl)⟩]
 ·rintro σ zs H' ⟨sH,eD,⟨bs,rfl,lb,ab⟩,_,u0,rfl⟩;have lc:(qi x).length=x.cps.toList.length:=a7 _;rw[lc,Al] at ab;rwa[D,bs,U,SqL.of eD,q _ _ (ab.trans ⟨λh=>⟨by lia,by lia,h⟩,λh=>h.2.2⟩) sH]
def vt(_:b7):Sp:=λvs H Q _=>∃ x y:Int,vs=[.int x,.int y]/\∀ b:Bool,(b=Ii↔qy (x,y))->Q (.bl b) H
def bH(F:Fun K "_law_near" "_law_near" pG f fd)(Z:Zs mg)(CB:Cb P w mg base)  : yX P w K mg base CX0 1 f fd ["_law_x","_law_y"] (vt K):=by
 specialize ae
 ·obtain⟨x,y,rfl,_⟩:=h;rfl
 obtain⟨x,y,rfl,q⟩:=h
 refine'⟨_,(zF (zM (ig (uv wg wg ?_ (pv 0) yL) (jl (uv wg wg ?_ (pv 1) yL))))),?_⟩
 nofun
 have no:¬ qy (x,y)->Q (.bl Ij) H:=λz=>q Ij (iff_of_false nofun z);exists _,U,_,U,_,_,U,U,_,rfl;erw[ifD (λh1=>?_) (λh1=>⟨_,rfl,yO (no λz=>h1 z.1)⟩)];exists _,_,U,U,_,rfl;erw[ifD (λh2=>?_) (λh2=>no λz=>h2 z.2.1)];exists _,U,_,U,_,_,U,U,_,rfl;erw[ifD (λh3=>?_) (λh3=>no λz=>h3 z.2.2.1)];rwa[_,_,U,U,q _ (by rw[decide_eq_true_eq]; exact⟨λh4=>⟨h1,h2,h3,h4⟩,λz=>z.2.2.2⟩)]
def Vy:Deed->Prop
 | .mark _ _ _=>True
 | .unmark _=>True
 | .move _ _ _=>True
 | _=>False
def kP(φ:Deed->Prop):Sp:=λvs H Q _=>∃(d:b9)(v:V)(S:BS)(D:Deed),vs=[.ref d,v]/\al H d S/\Rep H D.dt v/\qb D/\jS S/\φ D/\∀ H',Sam H H'->Q (.str (oE (zS S D))) H'
def Vy.cases{D:Deed}(h:Vy D):(∃ n x y,D=.mark n x y)\/(∃ n,D=.unmark n)\/∃ n x y,D=.move n x y:=by
 cases D <;> first | exact h.elim | exact .inl ⟨_,_,_,rfl⟩ | exact .inr (.inl ⟨_,rfl⟩) | exact .inr (.inr ⟨_,_,_,rfl⟩)
def sA{b:Bool}{p:Prop}(h:b=Ii↔p)(e:b=Ij):¬ p:=λz=>by rw[h.mpr z] at e; cases e
def fe{S:BS}{nm l1 r1:g8}{x y mo:Int}{pl pr:Int×Int}(gl:zQ S l1=Ig pl)(gr:zQ S r1=Ig pr):ui (aft S (.move nm x y)) (.range mo l1 r1)↔(if l1=nm then(x,y) else pl)≠(if r1=nm then(x,y) else pr):=by
 constructor
 ·rintro⟨p,u,h1,h2,h3⟩;rw[vO,gl] at h1;rw[vO,gr] at h2;cases h1;cases h2;rwa[h3]
 ·rwa[λh=>⟨_,_,by rw[vO,gl]; rfl,by rw[vO,gr]; rfl,h⟩]
def xw(_:b7):Sp:=kP Vy
def my(F:Fun K "_law_mark_word" "_law_mark_word" tM f fd)(Z:Zs mg)(CB:Cb P w mg base)(yCc:Has P w K mg base "_law_near" 1 ["_law_x","_law_y"] (vt K))(yBj:Has P w K mg base "_law_is_name" 1 ["_law_name"] (zx K)):yX P w K mg base CX0 2 f fd ["_law_m","_law_deed_here"] (xw K):=by
 specialize vM
 ·obtain⟨d,v,S,D,rfl,_⟩:=h;rfl
 obtain⟨d,v,S,D,rfl,⟨m,b,r,n,lw⟩,hv,tm,wl,mk,q⟩:=h;have say:∀(o:Option Cl)(H':Hp),zS S D=o->Sam H H'->Q (.str (oE o)) H':=λo H' e s=>e ▸ q _ s;obtain⟨mk',hm,km⟩:=lw.ma;have lmk:mk'.length=S.marks.length:=by rw[km.length,zm]
 refine'⟨_,(zC (yE 2 vM.nd ?_)
   (zC (zX ?_ (zC (zX ?_ (zF (zM zK)) zN)
   (zC (zX (qX (jA (zU hr) (pv 2) (zO (zU hr) (pv 0) zK (λ_ _=>rfl))) (by with_unfolding_all rfl)) (zF (zM zK)) zN)
   (zC (zX ?_ (zF (zM zK)) zN)
   (zF (zM (vB (yI lP (zR vR rfl Z.len wZ (zB (zO (zU hr) (pv 0) zK (λ_ _=>rfl)) zI)) yL (yS _)) zK zK)))))) zN)
   (zC (zX (qX (sB (zU hr) (pv 2) (zO (zU hr) (pv 0) zK (λ_ _=>rfl))) (by with_unfolding_all rfl)) (zF (zM zK)) zN)
   (zC (zX ?_ (zF (zM (vB (yp (zR (ir rfl) rfl Z.any Xu (zB (uX (T:=["_law_note"]) (caps:=[("_law_name",2)]) ⟨rfl,by ac_nf,by ac_nf,rfl,⟨⟨rfl,rfl,A4 rfl⟩,t7⟩⟩ rfl (kG (zO (zU hr) (pv 0) zK (λ_ _=>rfl))) (λ_=>(rT 0 (show(["_law_note","_law_name"]:List g8).Nodup by ac_nf))) (λ_=>wH) (λ_=>(sL (bP (zU hr)) (pv 1) (uG sj (pv 0) (sI yL) sS) (by with_unfolding_all rfl)))) zI))) zK zK))) zN)
   (zC (zX ?_ (zF (zM zK)) zN)
   (zC (sZ Ax rfl (kG (zO (zU hr) (pv 0) zK (λ_ _=>rfl))) (rT 3 vM.nd) (zF (zX (PW.pt (mm ?_ (uj (yI (bP (zU hr)) (pv 2) (uG sj (pv 3) (sI yL) sS) (by with_unfolding_all rfl))))) (zC (yE 4 vM.nd ?_)
   (zF (zX (yI (dq hr.units0) (zO (zU hr) (zO (zU hr) (pv 0) zK (λ_ _=>rfl)) (pv 4) (λ_ _=>rfl)) (uG sj (pv 1) (sI yL) sS) (yS _)) (zF (zM zK)) zN))) zN)))
   (zF (zM zK)))))))),?_⟩
 nofun
 rcases mk.cases with ⟨nm,x,y,rfl⟩ | ⟨nm,rfl⟩ | ⟨nm,x,y,rfl⟩
 ·clear mk q;obtain⟨t,rfl,ht⟩:=lu hv;have tq:Sq K H t [.str "mark",.str nm,.int x,.int y]:=.inr (SqT.of ht);exists _,U,t,_,1,.str nm,U,U,tq,U,_,U,t,_,0,.str "mark",U,U,tq,U,U,_,rfl;erw[xO ?_];erw[_,U,nm,U,tm.1,λbb H1 hb s1=>⟨_,U,?_⟩];cases bb with
  | false=>rwa[xO (say (Ig .badName) _ (by simp only[zS,y9 (sA hb rfl)]) (.of s1))]
  | true =>
  have j1:=e9.mpr (hb.mp rfl);erw[yO ?_];have hd1:=Rd.same lw.at_ s1;have tq1:Sq K H1 t [.str "mark",.str nm,.int x,.int y]:=.inr (SqT.of (s1 _ _ ht));exists _,U,_,U,d,.ref m,U,.inl ⟨_,.inr "marks",hd1,U,yT.symm⟩,m,_,U,.inl ⟨mk',.inr nm,Rd.same hm s1,U,U⟩,_,rfl;rw[km.isSome,wX,Av];cases e:(zQ S nm).isSome with
  | true=>rwa[xO (say (Ig .taken) _ (by simp only[zS,y7 j1,y9 e]) (.of s1))]
  | false =>
  have j2:¬ (zQ S nm).isSome=true:=by rw[e]; rwa[h9]
  erw[yO ?_];erw[_,U,t,_,2,.int x,U,U,tq1,U,_,U,t,_,3,.int y,U,U,tq1,U,x,y,U,λbb hb2=>⟨_,U,?_⟩];cases bb with
  | false=>rwa[xO (say (Ig .badPlace) _ (by simp only[zS,y7 j1,y7 j2,y9 (sA hb2 rfl)]) (.of s1))]
  | true =>
  have j3:=e9.mpr (hb2.mp rfl);erw[yO ?_];exists _,U,d,.ref m,U,.inl ⟨_,.inr "marks",hd1,U,yT.symm⟩,m,mk',U,Rd.same hm s1,_,_,U,U,_,rfl;refine ifD (λz=>say (Ig .full) _ (by simp only[zS,y7 j1,y7 j2,y7 j3,y9 (show 20<=S.marks.length by lia)]) (.of s1)) (λz=>say (Ih) _ (by simp only[zS,y7 j1,y7 j2,y7 j3,y7 (show ¬ 20<=S.marks.length by lia)]) (.of s1))
 ·clear mk q;obtain⟨t,rfl,ht⟩:=wf hv;have tq:Sq K H t [.str "unmark",.str nm]:=.inr (SqT.of ht);exists _,U,t,_,1,.str nm,U,U,tq,U,_,U,t,_,0,.str "unmark",U,U,tq,U,U,_,rfl;erw[yO ?_];exists _,U,_,U,d,.ref m,U,.inl ⟨_,.inr "marks",lw.at_,U,yT.symm⟩,m,_,U,.inl ⟨mk',.inr nm,hm,U,U⟩,_,rfl;rw[km.isSome,wX,Av];cases e:(zQ S nm).isSome with
  | false=>exact xO (say (Ig .noMark) _ (by simp only[zS,y9 (show zQ S nm=Ih by cases h:zQ S nm <;> simp[h] at e ⊢)]) (.refl _))
  | true =>
  have j1:¬ zQ S nm=none:=λz=>by rw[z] at e; cases e
  erw[yO ?_];exists _,U,t,_,0,.str "unmark",U,U,tq,U,U,_,rfl;erw[xO ?_];obtain⟨nk,hnk,kn⟩:=lw.no;obtain⟨ks,rfl,e1,rk⟩:=vh kn;have lks:ks.length=S.notes.length:=by have:=congrArg A3 e1; rw[a7,a7] at this; rwa[this]
  have few:=wl.good.few;refine⟨_,U,d,.ref n,U,.inl ⟨_,.inr "notes",lw.at_,U,vN.symm⟩,n,_,U,hnk,λo2 H2 fz2=>?_⟩;have s2:Sam H H2:=nh hnk fz2;have rk2:=rk.to s2;refine λcc2 D2 hD2=>lv (λj σ2 zs2 H''=>yY (λx=>x=D2) H2 H''/\H'' D2=Ig (.lst zs2)/\(∃ bs:List Bool,zs2=bs.map V.bl/\bs.length=j/\(bs.any id=Ij↔∀ e∈S.notes.take j,rQ nm e.2))/\∃ u2:Option V,σ2=[u2,Ig (.str nm)])
   ⟨.of (zD hD2 _),zA,⟨[],rfl,rfl,iff_of_true rfl λe he=>(nomatch he)⟩,Ih,rfl⟩ (λj σ2 zs2 H'' hP=>⟨fN hP.1 (λz=>by have:=fz2.1; rw[z,hD2] at this; cases this) fz2.1,hP.2.1⟩) ?_ ?_
  ·rintro j x2 σ2 zs2 H'' gx2 ⟨s3,eD3,⟨bs,rfl,lb,ab⟩,u2,rfl⟩;have gx':(ks.map (·.2))[j]?=Ig x2:=by rw[t5] at gx2; rwa[gx2]
   have npD2:∀ b xs,H2 b=Ig (.tup xs)->¬ b=D2:=λb xs e z=>by rw[z,hD2] at e; cases e
   obtain⟨dt,gdt,rd⟩:=(rk2.sam s3 npD2).back gx';rw[d8,j7] at gdt;obtain⟨e,ge,rfl⟩:=gdt;have kn':=wl.good.note e (i8 ge);have lj:j<60:=by have:=(g9.mp ge).1; have:=few.no; lia
   have fin:∀(y:Bool)(Hz:Hp),Same H'' Hz->(y=Ij↔rQ nm e.2)->Hz D2=Ig (.lst (bs.map V.bl))/\(bs.map V.bl).length<sizeLine/\yY (λx=>x=D2) H2 (upd Hz D2 (.lst (bs.map V.bl++[.bl y])))/\upd Hz D2 (.lst (bs.map V.bl++[.bl y])) D2=Ig (.lst (bs.map V.bl++[.bl y]))/\(∃ cs:List Bool,bs.map V.bl++[.bl y]=cs.map V.bl/\cs.length=j+1/\(cs.any id=Ij↔∀ e∈S.notes.take (j+1),rQ nm e.2)):=by
    intro y Hz sz hy;have ez:=sz _ _ eD3;erw[ez,CH (by rw[a7]; lia : _<=60) (by decide),(s3.trans (.of sz)).trans (vV ez),zA,bs++[y],by rw[j5]; rfl,by rw[f8,lb]; rfl,?_];rw[List.any_append,Ci,ab,w5,ge,show [y].any id=y from by cases y <;> rfl,hy];rwa[λh e' he'=>(m7.mp he').elim (h.1 e') λz=>by rw[d9.mp z]; exact h.2,λh=>⟨λe' z=>h e' (BI _ z),h e (o0 _ (.head _))⟩]
   match hE:e.2,kn',rd with
   | .bearing mo k' x1 y1 x2 y2,kn',rd =>
    obtain⟨c,c1,c2,rfl,hc,hc1,hc2⟩:=uB rd;refine⟨_,U,_,U,_,U,c,_,U,SqT.of hc,(λz=>x4 z.1 (by show ¬ HT.sIx 5 0 (Ig 2)=0; decide)),λp hp=>?_⟩;have sp:=zD hp (.tup (zg [.str "bearing",.int mo,.str k',.ref c1,.ref c2] (Ig 2) Ih));erw[p,[.str k',.ref c1,.ref c2],nm,U,U,SqT.of zA,λv hv=>?_,?_]
    ·rcases i7.mp hv with z | hv
     ·rwa[.inl ⟨k',z⟩]
     rcases i7.mp hv with z | hv
     ·rwa[.inr ⟨c1,_,z,SqT.of (sp _ _ hc1)⟩]
     ·rwa[.inr ⟨c2,_,d9.mp hv,SqT.of (sp _ _ hc2)⟩]
    obtain⟨f1,f2,f3,f4,f5⟩:=fin ([V.str k',.ref c1,.ref c2].any (isS nm)) _ sp (by
     rw[hE];show((k' == nm)||(Ij||(Ij||false)))=Ij↔k'≠nm;rw[Ci,x5];rwa[and_iff_left rfl])
    rwa[f1,f2,f3,f4,f5,_,U]
   | .range mo l1 r1,kn',rd =>
    obtain⟨c,rfl,hc⟩:=sY rd;refine⟨_,U,_,U,_,U,c,_,U,SqT.of hc,(λz=>x4 z.1 (by show ¬ HT.sIx 4 0 (Ig 2)=0; decide)),λp hp=>?_⟩;have sp:=zD hp (.tup (zg [.str "range",.int mo,.str l1,.str r1] (Ig 2) Ih));erw[p,[.str l1,.str r1],nm,U,U,SqT.of zA,λv hv=>?_,?_]
    ·rcases i7.mp hv with z | hv
     ·rwa[.inl ⟨l1,z⟩]
     ·rwa[.inl ⟨r1,d9.mp hv⟩]
    obtain⟨f1,f2,f3,f4,f5⟩:=fin ([V.str l1,.str r1].any (isS nm)) _ sp (by
     rw[hE];show((l1 == nm)||((r1 == nm)||false))=Ij↔l1≠nm/\r1≠nm;rw[Ff,Ci,x5,x5])
    rwa[f1,f2,f3,f4,f5,_,U]
  ·rintro σ2 zs2 H'' ⟨s3,eD3,⟨bs,rfl,lb,ab⟩,u2,rfl⟩;have lnl:((ks.map λe=>((.inl e.1:Key),e.2)).map (·.2)).length=S.notes.length:=by rw[a7,a7,lks]
   rw[lnl,Al] at ab;have s23:Sam H H'':=yY.over s2 s3 hD2;exists D2,bs,U,SqL.of eD3,_,rfl;cases hb:bs.any id with
   | true=>exact xO (say (Ig .needed) _ (by simp only[zS,y7 j1,y7 (show ¬ ∀ e∈S.notes,rQ nm e.2 from λz=>by rw[ab.mpr z] at hb; cases hb)]) s23)
   | false=>rwa[yO (say (Ih) _ (by simp only[zS,y7 j1,y9 (ab.mp hb)]) s23)]
 ·clear mk q;obtain⟨t,rfl,ht⟩:=lH hv;have tq:Sq K H t [.str "move",.str nm,.int x,.int y]:=.inr (SqT.of ht);exists _,U,t,_,1,.str nm,U,U,tq,U,_,U,t,_,0,.str "move",U,U,tq,U,U,_,rfl;erw[yO ?_];exists _,U,_,U,d,.ref m,U,.inl ⟨_,.inr "marks",lw.at_,U,yT.symm⟩,m,_,U,.inl ⟨mk',.inr nm,hm,U,U⟩,_,rfl;rw[km.isSome,wX,Av];cases e:(zQ S nm).isSome with
  | false=>exact xO (say (Ig .noMark) _ (by simp only[zS,y9 (show zQ S nm=Ih by cases h:zQ S nm <;> simp[h] at e ⊢)]) (.refl _))
  | true =>
  have j1:¬ zQ S nm=none:=λz=>by rw[z] at e; cases e
  erw[yO ?_];exists _,U,t,_,0,.str "move",U,U,tq,U,U,_,rfl;erw[yO ?_];erw[_,U,t,_,2,.int x,U,U,tq,U,_,U,t,_,3,.int y,U,U,tq,U,x,y,U,λbb hb2=>⟨_,U,?_⟩];cases bb with
  | false=>rwa[xO (say (Ig .badPlace) _ (by simp only[zS,y7 j1,y9 (sA hb2 rfl)]) (.refl _))]
  | true =>
  have j2:=e9.mpr (hb2.mp rfl);erw[yO ?_];obtain⟨nk,hnk,kn⟩:=lw.no;obtain⟨ks,rfl,e1,rk⟩:=vh kn;have lks:ks.length=S.notes.length:=by have:=congrArg A3 e1; rw[a7,a7] at this; rwa[this]
  refine⟨_,U,d,.ref n,U,.inl ⟨_,.inr "notes",lw.at_,U,vN.symm⟩,n,_,U,hnk,λo2 H2 fz2=>?_⟩;have s2:Sam H H2:=nh hnk fz2;refine ZV (λi σ H'=>Sam H H'/\gR n o2 (ks.map λe=>(.inl e.1,e.2)) H'/\(∀ e∈S.notes.take i,ui (aft S (.move nm x y)) e.2)/\∃ u u':Option V,σ=[Ig (.ref d),Ig (.ref t),Ig (.str nm),u,u'])
   ⟨s2,fz2.1,λe he=>(nomatch he),Ih,Ih,rfl⟩ (λi σ H' h=>h.2.1) ?_ ?_
  ·rintro i x' σ H' gx ⟨s6,fa,ul,u,u',rfl⟩;have gx':(ks.map (·.2))[i]?=Ig x':=by rw[t5] at gx; rwa[gx]
   obtain⟨dt,gd,rd⟩:=rk.back gx';rw[d8,j7] at gd;obtain⟨e,ge,rfl⟩:=gd;have ge:S.notes[i]?=Ig e:=ge;have mem:=i8 ge;have kn:=wl.good.note e mem;have rd3:=rd.to s6;have snoc:ui (aft S (.move nm x y)) e.2->∀ e'∈S.notes.take (i+1),ui (aft S (.move nm x y)) e'.2:=λh e' he'=>by
    rw[w5,ge] at he';rcases m7.mp he' with z | z
    ·rwa[ul e' z]
    ·rw[d9.mp z]; rwa[h]
   match hE:e.2,kn,rd3 with
   | .bearing mo n x1 y1 x2 y2,kn,rd3 =>
    obtain⟨c,c1,c2,rfl,hc,hc1,hc2⟩:=uB rd3;exists _,U,c,_,0,.str "bearing",U,U,.inr (SqT.of hc),U,U,_,rfl;rwa[yO ⟨s6,fa,snoc (by rw[hE]; trivial),_,_,rfl⟩]
   | .range mo l1 r1,kn,rd3 =>
    obtain⟨c,rfl,hc⟩:=sY rd3;obtain⟨_,_,i1,i2,nlr⟩:=kn;obtain⟨pl,gl⟩:=k9.mp i1;obtain⟨pr,gr⟩:=k9.mp i2;have st:=fe (mo:=mo) (nm:=nm) (x:=x) (y:=y) gl gr;have nlr:pl≠pr:=λz=>nlr (by rw[gl,gr,z]);have cq:Sq K H' c [.str "range",.int mo,.str l1,.str r1]:=.inr (SqT.of hc);exists _,U,c,_,0,.str "range",U,U,cq,U,U,_,rfl;erw[xO ?_];refine⟨_,U,_,U,_,U,c,_,U,SqT.of hc,(λz=>x4 z.1 (by show ¬ HT.sIx 4 0 (Ig 2)=0; decide)),λp hp=>?_⟩;have sp:=zD hp (.tup (zg [.str "range",.int mo,.str l1,.str r1] (Ig 2) Ih));have hc7:=sp _ _ hc;have cq7:Sq K (upd H' p (.tup (zg [.str "range",.int mo,.str l1,.str r1] (Ig 2) Ih))) c [.str "range",.int mo,.str l1,.str r1]:=.inr (SqT.of hc7);have s7:=s6.trans (.of sp);have fa7:=sp _ _ fa;erw[p,[.str l1,.str r1],nm,U,U,SqT.of zA,λv hv=>?_,_,U,?_]
    ·rcases i7.mp hv with z | hv
     ·rwa[.inl ⟨l1,z⟩]
     ·rwa[.inl ⟨r1,d9.mp hv⟩]
    by_cases z1:l1=nm
    ·subst z1;have z2:¬ r1=l1:=λz=>nlr (by rw[z,gl] at gr; rwa[p5 gr]);rw[y9 rfl,y7 z2] at st;rw[show [V.str l1,.str r1].any (isS l1)=Ii from by show((l1 == l1)||_)=Ii; rw[beq_self_eq_true]; rfl];erw[xO ?_];erw[_,U,c,_,2,.str l1,U,U,cq7,U,_,U,U,_,U,ifSt ?_];exists _,U,c,_,3,.str r1,U,U,cq7,rfl;obtain⟨kvs,pa,hkv,t1,t2⟩:=oJ (lw.to s7).ma gr;refine⟨_,U,d,.ref m,U,.inl ⟨_,.inr "marks",(lw.to s7).at_,U,yT.symm⟩,_,U,m,.ref pa,U,.inl ⟨kvs,.inr _,hkv,U,t1.symm⟩,_,U,_,U,t,_,U,SqT.of (s7.tup id ht),(λz=>x4 z.1 (by show ¬ HT.sIx 4 0 (Ig 2)=0; decide)),λp2 hp2=>?_⟩;have sp2:=zD hp2 (.tup (zg [.str "move",.str l1,.int x,.int y] (Ig 2) Ih));exists pa,p2,[pr.1,pr.2],[x,y],U,U,SqT.of (sp2 _ _ t2),SqT.of zA,_,rfl;erw[ifD (λz=>?_) (λz=>?_)]
     ·exact say (Ig .same) _ (by
       have bad:¬ ∀ e∈S.notes,ui (aft S (.move l1 x y)) e.2:=λw=>by
        have w:=w _ mem;rw[hE] at w;exact(λ(z:pr.1=x/\pr.2=y) w=>st.mp w (FJ z.1.symm z.2.symm)) (by simpa using z) w
       simp only[zS,y7 j1,y7 j2,y7 bad]) (s7.trans (.of sp2))
     ·exact⟨s7.trans (.of sp2),sp2 _ _ fa7,snoc (by rw[hE]; exact(λ(z:¬ (pr.1=x/\pr.2=y))=>st.mpr λw=>z ⟨congrArg (·.1) w.symm,congrArg (·.2) w.symm⟩) (λw=>z (by simpa using w))),_,_,rfl⟩
    by_cases z2:r1=nm
    ·subst z2;rw[y9 rfl,y7 z1] at st;rw[show [V.str l1,.str r1].any (isS r1)=Ii from by show((l1 == r1)||((r1 == r1)||false))=Ii; rw[beq_self_eq_true,HJ,Bool.or_true]];erw[xO ?_];erw[_,U,c,_,2,.str l1,U,U,cq7,U,_,U,U,_,U,Tf z1 ?_];exists _,U,c,_,2,.str l1,U,U,cq7,rfl;obtain⟨kvs,pa,hkv,t1,t2⟩:=oJ (lw.to s7).ma gl;refine⟨_,U,d,.ref m,U,.inl ⟨_,.inr "marks",(lw.to s7).at_,U,yT.symm⟩,_,U,m,.ref pa,U,.inl ⟨kvs,.inr _,hkv,U,t1.symm⟩,_,U,_,U,t,_,U,SqT.of (s7.tup id ht),(λz=>x4 z.1 (by show ¬ HT.sIx 4 0 (Ig 2)=0; decide)),λp2 hp2=>?_⟩;have sp2:=zD hp2 (.tup (zg [.str "move",.str r1,.int x,.int y] (Ig 2) Ih));exists pa,p2,[pl.1,pl.2],[x,y],U,U,SqT.of (sp2 _ _ t2),SqT.of zA,_,rfl;erw[ifD (λz=>?_) (λz=>?_)]
     ·exact say (Ig .same) _ (by
       have bad:¬ ∀ e∈S.notes,ui (aft S (.move r1 x y)) e.2:=λw=>by
        have w:=w _ mem;rw[hE] at w;exact(λ(z:pl.1=x/\pl.2=y) w=>st.mp w (FJ z.1 z.2)) (by simpa using z) w
       simp only[zS,y7 j1,y7 j2,y7 bad]) (s7.trans (.of sp2))
     ·exact⟨s7.trans (.of sp2),sp2 _ _ fa7,snoc (by rw[hE]; exact(λ(z:¬ (pl.1=x/\pl.2=y))=>st.mpr λw=>z ⟨congrArg (·.1) w,congrArg (·.2) w⟩) (λw=>z (by simpa using w))),_,_,rfl⟩
    ·rw[y7 z1,y7 z2] at st;rw[show [V.str l1,.str r1].any (isS nm)=Ij from by show((l1 == nm)||((r1 == nm)||false))=Ij; rw[x5.mpr z1,x5.mpr z2]; rfl];rwa[yO ⟨s7,fa7,snoc (by rw[hE]; exact st.mpr nlr),_,_,rfl⟩]
  ·rintro σ H' ⟨s6,fa,ul,u,u',rfl⟩;rw[a7,a7,lks,Al] at ul;rwa[say Ih _ (by simp only[zS,y7 j1,y7 j2,y9 ul]) s6]
def Th:Deed->Prop
 | .sail _ _=>True
 | .right _ _ _=>True
 | _=>False
def Th.cases{D:Deed}(h:Th D):(∃ x y,D=.sail x y)\/∃ k x y,D=.right k x y:=by
 cases D <;> first | exact h.elim | exact .inl ⟨_,_,rfl⟩ | exact .inr ⟨_,_,_,rfl⟩
def wk(_:b7):Sp:=kP Th
def lI(F:Fun K "_law_run_word" "_law_run_word" sW f fd)(Z:Zs mg)(CB:Cb P w mg base)(yCc:Has P w K mg base "_law_near" 1 ["_law_x","_law_y"] (vt K)):yX P w K mg base CX0 2 f fd ["_law_m","_law_deed_here"] (wk K):=by
 specialize ke
 ·obtain⟨d,v,S,D,rfl,_⟩:=h;rfl
 obtain⟨d,v,S,D,rfl,⟨m,b,r,n,lw⟩,hv,tm,wl,mk,q⟩:=h;obtain⟨rs,hrs,kr⟩:=lw.ru;have lrs:rs.length=S.runs.length:=by rw[kr.length,a7]
 refine'⟨_,(zC (zX ?_ (zC (zX ?_ (zF (zM zK)) zN)
   (zF (zM (vB (yI lP (zR yU rfl Z.len wZ (zB (zO (zU hr) (pv 0) zK (λ_ _=>rfl)) zI)) yL (yS _)) zK zK)))) zN)
   (zC (zX (zj (kC wg cW yL ?_ (zR yU rfl Z.len wZ (zB (zO (zU hr) (pv 0) zK (λ_ _=>rfl)) zI)))) (zF (zM zK)) zN)
   (zF (zM ?_)))),?_⟩
 nofun
 rcases mk.cases with ⟨x,y,rfl⟩ | ⟨k,x,y,rfl⟩
 ·clear mk;have say:∀(o:Option Cl),zS S (.sail x y)=o->Q (.str (oE o)) H:=λo e=>e ▸ q H (.refl _);obtain⟨t,rfl,ht⟩:=kz hv;have tq:Sq K H t [.str "sail",.int x,.int y]:=.inr (SqT.of ht);exists _,U,t,_,0,.str "sail",U,U,tq,U,U,_,rfl;erw[xO ?_];erw[_,U,t,_,1,.int x,U,U,tq,U,_,U,t,_,2,.int y,U,U,tq,U,x,y,U,λbb hb=>⟨_,U,?_⟩];cases bb with
  | false=>rwa[xO (say (Ig .badRun) (by simp only[zS,y9 (sA hb rfl)]))]
  | true =>
  have j1:=e9.mpr (hb.mp rfl);erw[yO ?_];exists _,U,d,.ref r,U,.inl ⟨_,.inr "runs",lw.at_,U,uR.symm⟩,r,_,U,.inl (SqL.of hrs),_,_,U,U,_,rfl;exact ifD (λz=>say (Ig .full) (by simp only[zS,y7 j1,y9 (show 12<=S.runs.length by lia)])) (λz=>say Ih (by simp only[zS,y7 j1,y7 (show ¬ 12<=S.runs.length by lia)]))
 ·clear mk;have say:∀(o:Option Cl),zS S (.right k x y)=o->Q (.str (oE o)) H:=λo e=>e ▸ q H (.refl _);obtain⟨t,rfl,ht⟩:=pL hv;have tq:Sq K H t [.str "right",.int k,.int x,.int y]:=.inr (SqT.of ht);exists _,U,t,_,0,.str "right",U,U,tq,U,U,_,rfl;erw[yO ?_];exists _,U,t,_,1,.int k,U,U,tq,U,_,_,U,rfl;exists _,rfl;by_cases k0:0<=k
  ·rw[q0 k0];erw[xO ?_];exists _,U,d,.ref r,U,.inl ⟨_,.inr "runs",lw.at_,U,uR.symm⟩,r,_,U,.inl (SqL.of hrs),_,_,U,U,_,rfl;refine ifN (λz=>say (Ig .noRun) (by simp only[zS,y7 (show ¬ (0<=k/\k<S.runs.length) by lia)])) (λz=>?_);have j1:0<=k/\k<S.runs.length:=by lia
   erw[_,U,t,_,2,.int x,U,U,tq,U,_,U,t,_,3,.int y,U,U,tq,U,x,y,U,λbb hb=>⟨_,U,?_⟩];cases bb with
   | false=>rwa[yO (say (Ig .badRun) (by simp only[zS,y9 j1,y7 (sA hb rfl)]))]
   | true=>rwa[xO (say Ih (by simp only[zS,y9 j1,y9 (hb.mp rfl)]))]
  ·rw[x3 k0];exact yO ⟨_,rfl,xO (say (Ig .noRun) (by simp only[zS,y7 (show ¬ (0<=k/\k<S.runs.length) by lia)]))⟩
def WF:Deed->Prop
 | .bearing _ _ _ _ _ _=>True
 | .range _ _ _=>True
 | .strike _=>True
 | _=>False
def WF.cases{D:Deed}(h:WF D):(∃ k,D=.strike k)\/(∃ m n a b c d,D=.bearing m n a b c d)\/∃ m l r,D=.range m l r:=by
 cases D <;> first | exact h.elim | exact .inl ⟨_,rfl⟩ | exact .inr (.inl ⟨_,_,_,_,_,_,rfl⟩) | exact .inr (.inr ⟨_,_,_,rfl⟩)
def cutX{A G B:Prop}(h1:(A->B)->G)(h2:A->B):G:=h1 h2
def xu(_:b7):Sp:=kP WF
def nQ(F:Fun K "_law_note_word" "_law_note_word" tS f fd)(Z:Zs mg)(CB:Cb P w mg base)(yBo:Has P w K mg base "_law_turned" 1 ["_law_one","_law_other"] (xh K)):yX P w K mg base CX0 2 f fd ["_law_m","_law_deed_here"] (xu K):=by
 specialize rF
 ·obtain⟨d,v,S,D,rfl,_⟩:=h;rfl
 obtain⟨d,v,S,D,rfl,⟨m,b,r,n,lw⟩,hv,tm,wl,mk,q⟩:=h;have say:∀(o:Option Cl)(H':Hp),zS S D=o->Sam H H'->Q (.str (oE o)) H':=λo H' e s=>e ▸ q _ s;obtain⟨rs,hrs,kr⟩:=lw.ru;have lrs:rs.length=S.runs.length:=by rw[kr.length,a7]
 obtain⟨mk',hm,km⟩:=lw.ma;obtain⟨nk',hn,kn⟩:=lw.no;have lnk:nk'.length=S.notes.length:=by rw[kn.length]; unfold ntE; rw[a7]
 refine'⟨_,(zC (zX ?_ (zF (zM (vB (qX (jA (zU hr) ?_ (zO (zU hr) (pv 0) zK (λ_ _=>rfl))) (by with_unfolding_all rfl)) zK zK))) zN)
   (zC (zX (zj (kC wg wg yL ?_ (zR yU rfl Z.len wZ (zB (zO (zU hr) (pv 0) zK (λ_ _=>rfl)) zI)))) (zF (zM zK)) zN)
   (zC (zX (PW.pt (cG (qX (sB (zU hr) ?_ (zO (zU hr) (pv 0) zK (λ_ _=>rfl))) (by with_unfolding_all rfl)) (iQ (PW.pt (mm ?_ (uj (qX (sB (zU hr) ?_ (zO (zU hr) (pv 0) zK (λ_ _=>rfl))) (by with_unfolding_all rfl)))))))) (zF (zM zK)) zN)
   (zC (zX (PW.pt (mm ?_ (uj (yI (dq hr.units0) (zO (zU hr) (zO (zU hr) (pv 0) zK (λ_ _=>rfl)) ?_ (λ_ _=>rfl)) (zO (zU hr) (zO (zU hr) (pv 0) zK (λ_ _=>rfl)) ?_ (λ_ _=>rfl)) (yS _))))) (zF (zM zK)) zN)
   (zC (zX ?_ (zC (sZ Ax rfl (ap (uG sj (pv 1) (sI yL) sS)) (zp rfl (yG (rT 2 rF.nd) (yG (rT 3 rF.nd) vZ))) (zF (zX ?_ (zF (zM zK)) zN)))
   (zF (zX ?_ (zF (zM zK)) zN))) zN)
   (zF (zM (vB (yI lP (zR vR rfl Z.len wZ (zB (zO (zU hr) (pv 0) zK (λ_ _=>rfl)) zI)) yL (yS _)) zK zK)))))))),?_⟩
 nofun
 rcases mk.cases with ⟨k,rfl⟩ | ⟨mo,nm,x1,y1,x2,y2,rfl⟩ | ⟨mo,l1,r1,rfl⟩
 ·clear mk q;obtain⟨t,rfl,ht⟩:=wv hv;have tq:Sq K H t [.str "strike",.int k]:=.inr (SqT.of ht);exists _,U,t,_,0,.str "strike",U,U,tq,U,U,_,rfl;erw[xO ?_];exists _,U,t,_,1,.int k,U,U,tq,U,_,U,d,.ref n,U,.inl ⟨_,.inr "notes",lw.at_,U,vN.symm⟩,n,_,U,.inl ⟨nk',.inl k,hn,U,U⟩,_,rfl;have bn:=gu (k:=k) kn;cases e:(wN nk' (.inl k)).isSome with
  | true=>exact xO (say Ih _ (by simp only[zS,y9 (show k∈S.notes.map (·.1) from Cs λz=>by rw[bn.mpr z] at e; cases e)]) (.refl _))
  | false=>exact yO (say (Ig .noNote) _ (by simp only[zS,y7 (bn.mp (by cases h:wN nk' (.inl k) <;> simp[h] at e ⊢))]) (.refl _))
 ·clear mk q;obtain⟨t,c1,c2,rfl,ht,hc1,hc2⟩:=uB hv;have tq:Sq K H t [.str "bearing",.int mo,.str nm,.ref c1,.ref c2]:=.inr (SqT.of ht);exists _,U,t,_,0,.str "bearing",U,U,tq,U,U,_,rfl;erw[yO ?_];have nom:¬ (0<=mo/\mo<=S.runs.length)->Q (.str (oE (Ig .noMoment))) H:=λz=>say _ _ (by simp only[zS,y9 z]) (.refl _);exists _,U,t,_,1,.int mo,U,U,tq,U,_,_,U,U,_,rfl;erw[ifD (λh1=>?_) (λh1=>⟨_,rfl,xO (nom λz=>h1 z.1)⟩)];exists _,U,d,.ref r,U,.inl ⟨_,.inr "runs",lw.at_,U,uR.symm⟩,r,_,U,.inl (SqL.of hrs),_,_,U,U,_,rfl;erw[ifN (λh2=>nom λz=>h2 (by rw[lrs]; rwa[z.2])) (λh2=>?_)];have j1:=e9.mpr (show 0<=mo/\mo<=S.runs.length from⟨h1,by rw[lrs] at h2; rwa[h2]⟩);exists _,U,t,_,2,.str nm,U,U,tq,U,_,U,d,.ref m,U,.inl ⟨_,.inr "marks",lw.at_,U,yT.symm⟩,m,_,U,.inl ⟨mk',.inr nm,hm,U,U⟩,_,rfl;rw[km.isSome,wX,Av];cases e:(zQ S nm).isSome with
  | false=>exact xO (xO (say (Ig .noMark) _ (by simp only[zS,y7 j1,y9 (show zQ S nm=Ih by cases h:zQ S nm <;> simp[h] at e ⊢)]) (.refl _)))
  | true =>
  have j2:¬ zQ S nm=none:=λz=>by rw[z] at e; cases e
  refine yO ?_;exists _,U,t,_,0,.str "bearing",U,U,tq,U,U,_,rfl;refine yO (yO ?_);exists _,U,t,_,0,.str "bearing",U,U,tq,U,U,_,rfl;refine yO (yO ?_);exists _,U,t,_,0,.str "bearing",U,U,tq,U,U,_,rfl;refine xO ?_;refine⟨_,U,_,U,t,_,U,SqT.of ht,(λz=>x4 z.1 (by show ¬ HT.sIx 5 0 (Ig 3)=0; decide)),λp hp=>?_⟩;have sp:=zD hp (.tup (zg [.str "bearing",.int mo,.str nm,.ref c1,.ref c2] (Ig 3) Ih));have ep:upd H p (.tup (zg [.str "bearing",.int mo,.str nm,.ref c1,.ref c2] (Ig 3) Ih)) p=Ig (.tup [.ref c1,.ref c2]):=zA;generalize upd H p (.tup (zg [.str "bearing",.int mo,.str nm,.ref c1,.ref c2] (Ig 3) Ih))=Hp at sp ep ⊢;exists p,U,⟨_,SqT.of ep⟩;have bad:∀ w∈[(x1,y1),(x2,y2)],¬ ug w->zS S (.bearing mo nm x1 y1 x2 y2)=Ig .badWay:=λw hw nw=>by
   rcases i7.mp hw with rfl | hw
   ·simp only[zS,y7 j1,y7 j2,y9 nw]
   ·rw[d9.mp hw] at nw;simp only[zS,y7 j1,y7 j2,y9 nw,ite_self]
  refine gH (K:=K) (a:=p) (xs:=[.ref c1,.ref c2]) (λi σ H'=>Same Hp H'/\(∀ w∈[(x1,y1),(x2,y2)].take i,ug w)/\∃ u v:Option V,σ=[Ig (.ref d),Ig (.ref t),u,v])
   ⟨Same.refl _,λw hw=>(nomatch hw),_,_,rfl⟩ (λi σ H' _ h=>SqT.of (h.1 _ _ ep)) ?_ ?_
  ·rintro i v σ H' hi ⟨sH,ow,u1,u2,rfl⟩;obtain⟨c,xx,yy,rfl,hc,gw⟩:∃(c:b9)(xx yy:Int),v=.ref c/\Hp c=Ig (.tup [.int xx,.int yy])/\[(x1,y1),(x2,y2)][i]?=Ig (xx,yy):=by
    match i,hi with
    | 0,hi=>cases hi; rwa[c1,x1,y1,U,sp _ _ hc1,U]
    | 1,hi=>cases hi; rwa[c2,x2,y2,U,sp _ _ hc2,U]
   have mw:=i8 gw;exists _,_,U,SqT.of (sH _ _ hc),U,_,_,U,_,_,U,rfl;exists _,U,U,_,rfl;have no:¬ ug (xx,yy)->Q (.str (oE (Ig .badWay))) H':=λz=>say _ _ (bad _ mw z) (.of (sp.trans sH));refine cutX (A:=xx≠0\/yy≠0) (λmx=>ifE (λhx=>⟨_,rfl,rfl,_,rfl,ifE (λhy=>xO (no λz=>z.1 (by rw[hx,hy]))) (λhy=>mx (.inr hy))⟩) (λhx=>mx (.inl hx))) (λnz=>?_);exists _,U,xx,U,_,U,yy,U,_,_,U,_,_,U,U,_,rfl;have far:¬ (100<if (if yy<0 then -yy else yy)>(if xx<0 then -xx else xx) then(if yy<0 then -yy else yy) else(if xx<0 then -xx else xx))↔(-100<=xx/\xx<=100/\-100<=yy/\yy<=100):=by
    split <;> split <;> split <;> lia
   erw[ifD (λh=>no λz=>far.mpr z.2 h) (λh=>⟨sH,λw hw=>?_,_,_,rfl⟩)];rw[w5,gw] at hw;rcases m7.mp hw with z | z
   ·rwa[ow w z]
   ·rw[d9.mp z];exact⟨λy=>by injection y with y1 y2; exact nz.elim (· y1) (· y2),far.mp h⟩
  ·rintro σ H' ⟨sH,ow,u1,u2,rfl⟩;have w1:ug (x1,y1):=ow _ (.head _);have w2:ug (x2,y2):=ow _ (.tail _ (.head _));have j3:=e9.mpr w1;have j4:=e9.mpr w2;have s0:=sp.trans sH;have tq':Sq K H' t [.str "bearing",.int mo,.str nm,.ref c1,.ref c2]:=.inr (SqT.of (s0 _ _ ht));exists _,U,t,_,3,.ref c1,U,U,tq',U,_,U,t,_,4,.ref c2,U,U,tq',U,c1,c2,[.int x1,.int y1],[.int x2,.int y2],x1,y1,x2,y2,U,.inr (SqT.of (s0 _ _ hc1)),.inr (SqT.of (s0 _ _ hc2)),U,U,U,U,(by have:=w1.2; lia),(by have:=w1.2; lia),_,_,rfl,rfl,_,rfl;erw[ifD (λh5=>say (Ig .badTurn) _ (by simp only[zS,y7 j1,y7 j2,y7 j3,y7 j4,y9 h5]) (.of s0)) (λh5=>?_)];exists _,U,d,.ref n,U,.inl ⟨_,.inr "notes",Rd.same lw.at_ s0,U,vN.symm⟩,n,nk',U,Rd.same hn s0,_,_,U,U,_,rfl;exact ifD (λz=>say (Ig .full) _ (by simp only[zS,y7 j1,y7 j2,y7 j3,y7 j4,y7 h5,y9 (show 24<=S.notes.length by lia)]) (.of s0)) (λz=>say Ih _ (by simp only[zS,y7 j1,y7 j2,y7 j3,y7 j4,y7 h5,y7 (show ¬ 24<=S.notes.length by lia)]) (.of s0))
 ·clear mk q;obtain⟨t,rfl,ht⟩:=sY hv;have tq:Sq K H t [.str "range",.int mo,.str l1,.str r1]:=.inr (SqT.of ht);exists _,U,t,_,0,.str "range",U,U,tq,U,U,_,rfl;erw[yO ?_];have nom:¬ (0<=mo/\mo<=S.runs.length)->Q (.str (oE (Ig .noMoment))) H:=λz=>say _ _ (by simp only[zS,y9 z]) (.refl _);exists _,U,t,_,1,.int mo,U,U,tq,U,_,_,U,U,_,rfl;erw[ifD (λh1=>?_) (λh1=>⟨_,rfl,xO (nom λz=>h1 z.1)⟩)];exists _,U,d,.ref r,U,.inl ⟨_,.inr "runs",lw.at_,U,uR.symm⟩,r,_,U,.inl (SqL.of hrs),_,_,U,U,_,rfl;erw[ifN (λh2=>nom λz=>h2 (by rw[lrs]; rwa[z.2])) (λh2=>?_)];have j1:=e9.mpr (show 0<=mo/\mo<=S.runs.length from⟨h1,by rw[lrs] at h2; rwa[h2]⟩);exists _,U,t,_,2,.str l1,U,U,tq,U,_,U,d,.ref m,U,.inl ⟨_,.inr "marks",lw.at_,U,yT.symm⟩,m,_,U,.inl ⟨mk',.inr l1,hm,U,U⟩,_,rfl;rw[km.isSome,wX,Av];cases e1:zQ S l1 with
  | none=>rwa[xO (xO (say (Ig .noMark) _ (by simp only[zS,y7 j1,y9 e1]) (.refl _)))]
  | some p1 =>
  have j2:¬ zQ S l1=none:=λz=>by rw[z] at e1; cases e1
  erw[yO ?_];exists _,U,t,_,0,.str "range",U,U,tq,U,U,_,rfl;erw[xO ?_];exists _,U,t,_,3,.str r1,U,U,tq,U,_,U,d,.ref m,U,.inl ⟨_,.inr "marks",lw.at_,U,yT.symm⟩,m,_,U,.inl ⟨mk',.inr r1,hm,U,U⟩,_,rfl;rw[km.isSome,wX,Av];cases e2:zQ S r1 with
  | none=>rwa[xO (say (Ig .noMark) _ (by simp only[zS,y7 j1,y7 j2,y9 e2]) (.refl _))]
  | some p2 =>
  have j3:¬ zQ S r1=none:=λz=>by rw[z] at e2; cases e2
  refine yO ?_;exists _,U,t,_,0,.str "range",U,U,tq,U,U,_,rfl;refine xO ?_;obtain⟨v1,g1,q1⟩:=km.get (k:=.inr l1) (d:=ptD p1) (by rw[wX,e1]; rfl);obtain⟨v2,g2,q2⟩:=km.get (k:=.inr r1) (d:=ptD p2) (by rw[wX,e2]; rfl);obtain⟨a1,rfl,h1'⟩:=xz q1;obtain⟨a2,rfl,h2'⟩:=xz q2;refine⟨_,U,d,.ref m,U,.inl ⟨_,.inr "marks",lw.at_,U,yT.symm⟩,_,U,t,_,2,.str l1,U,U,tq,U,m,_,U,.inl ⟨mk',.inr l1,hm,U,g1.symm⟩,_,U,d,.ref m,U,.inl ⟨_,.inr "marks",lw.at_,U,yT.symm⟩,_,U,t,_,3,.str r1,U,U,tq,U,m,_,U,.inl ⟨mk',.inr r1,hm,U,g2.symm⟩,
   a1,a2,[p1.1,p1.2],[p2.1,p2.2],rfl,rfl,SqT.of h1',SqT.of h2',_,rfl,?_⟩
  refine ifD (λz=>say (Ig .same) _ (by
   have z:p1=p2:=by simp at z; rwa[FJ z.1 z.2]
   simp only[zS,y7 j1,y7 j2,y7 j3,y9 (show zQ S l1=zQ S r1 by rw[e1,e2,z])]) (.refl _)) (λz=>?_)
  have j4:¬ zQ S l1=zQ S r1:=by
   rw[e1,e2];rwa[λy=>z (by cases y; rfl)]
  exists _,U,t,_,0,.str "range",U,U,tq,U,U,_,rfl;erw[yO ?_];exists _,U,d,.ref n,U,.inl ⟨_,.inr "notes",lw.at_,U,vN.symm⟩,n,nk',U,hn,_,_,U,U,_,rfl;exact ifD (λz=>say (Ig .full) _ (by simp only[zS,y7 j1,y7 j2,y7 j3,y7 j4,y9 (show 24<=S.notes.length by lia)]) (.refl _)) (λz=>say Ih _ (by simp only[zS,y7 j1,y7 j2,y7 j3,y7 j4,y7 (show ¬ 24<=S.notes.length by lia)]) (.refl _))
def mI(_:b7):Sp:=λvs H Q _=>∃(d:b9)(v:V)(S:BS)(D:Deed),vs=[.ref d,v]/\Rep H D.dt v/\al H d S/\okD S D/\Few S/\Xz S /\
 ∀(d':b9)(H':Hp),Same H H'->H d'=Ih->LwN H H' d' (aft S D)->Q (.ref d') H'
def dR(F:Fun K "_law_after" "_law_after" vq f fd)(Z:Zs mg)(CB:Cb P w mg base)  : yX P w K mg base CX0 1 f fd ["_law_m","_law_deed_here"] (mI K):=by
 specialize mJ
 ·obtain⟨d,v,S,D,rfl,_⟩:=h;rfl
 obtain⟨d,v,S,D,rfl,rep,⟨m,b,r,n,lw⟩,ok,few,fr,q⟩:=h;obtain⟨mk,hm,km⟩:=lw.ma;obtain⟨bk,hb,kb⟩:=lw.ba;obtain⟨rs,hr1,kr⟩:=lw.ru;obtain⟨nk,hn,kn⟩:=lw.no;have lm:mk.length=S.marks.length:=by rw[km.length,zm]
 have ln:nk.length=S.notes.length:=by rw[kn.length,aS]
 have lr:rs.length=S.runs.length:=by rw[kr.length,a7]
 have fm:=few.ma;have fr':=few.ru;have fn:=few.no;have fb:=few.ba;have lb:bk.length=S.banks.length:=by rw[kb.length,lF]
 have dg:∀{H':Hp}{k:g8}{x:V},Same H H'->wN (lwK m b r n S.coming) (.inr k)=Ig x->Yk H' d (.str k) (Ig x):=λ{H' k x} s e=>.inl ⟨_,.inr k,Rd.same lw.at_ s,rfl,e.symm⟩
 refine'⟨_,(zC (yE 2 mJ.nd (gX (wI zK (xP rO rfl Z.dict xf (zB (zO (zU hr) (pv 0) zK (λ_ _=>rfl)) zI)) (wI zK (xP rO rfl Z.dict xf (zB (zO (zU hr) (pv 0) zK (λ_ _=>rfl)) zI)) (wI zK (xP su rfl Z.list xb (zB (zO (zU hr) (pv 0) zK (λ_ _=>rfl)) zI)) fo))) rfl rfl (λz=>nomatch z) (by decide)))
   (zC (rK (zU hr) (pv 2) zK (xP rO rfl Z.dict xf (zB (zO (zU hr) (pv 0) zK (λ_ _=>rfl)) zI)) rfl)
   (zC (rK (zU hr) (pv 2) zK (zO (zU hr) (pv 0) zK (λ_ _=>rfl)) rfl)
   (zC (zX (yI rM ?_ ?_ (by with_unfolding_all rfl)) (zF (rK (zU hr) (zO (zU hr) (pv 2) zK (λ_ _=>rfl)) ?_ (uG sj (pv 1) (sI yL) sS) rfl)) (zF (zX ?_ (zF (yC (pR (zO (zU hr) (pv 2) zK (λ_ _=>rfl)) ?_ ⟨rfl,rfl,rfl,rfl⟩))) (zF (zX ?_ (zF (rK (zU hr) (zO (zU hr) (pv 2) zK (λ_ _=>rfl)) ?_ ?_ rfl)) (zF (zX ?_ (zF (yC (pR (zO (zU hr) (pv 2) zK (λ_ _=>rfl)) ?_ ⟨rfl,rfl,rfl,rfl⟩))) (zF (zX ?_ (zF (yC (mY (zO (zU hr) (pv 2) zK (λ_ _=>rfl)) (zB (uG sj (pv 1) (sI yL) sS) zI)))) (zF (zX ?_ (zF (pS (uG sj (pv 1) (sI yL) sS) (Ur (zO (zU hr) (pv 2) zK (λ_ _=>rfl)) ?_ ZG))) (zF (zX ?_ (zF (yC (pR (zO (zU hr) (pv 2) zK (λ_ _=>rfl)) ?_ ⟨rfl,rfl,rfl,rfl⟩))) (zC (rK (zU hr) (zO (zU hr) (pv 2) zK (λ_ _=>rfl)) (zO (zU hr) (pv 0) zK (λ_ _=>rfl)) (pv 1) rfl)
   (zF (rK (zU hr) (pv 2) zK (wG xv (zO (zU hr) (pv 0) zK (λ_ _=>rfl)) yL) rfl))))))))))))))))
   (zF (zM (pv 2))))))),?_⟩
 nofun
 intro p hp;have s1:=zD hp (.dK []);erw[_,U,d,.ref m,U,dg s1 yT,m,mk,U,Rd.same hm s1,λmc hmc=>?_];have s2:=s1.trans (zD hmc (.dK mk));erw[_,U,d,.ref b,U,dg s2 qC,b,bk,U,Rd.same hb s2,λbc hbc=>?_];have s3:=s2.trans (zD hbc (.dK bk));erw[_,U,d,.ref r,U,dg s3 uR,r,rs,U,.inl (SqL.of (s3 _ _ hr1)),λrc hrc=>?_];have s4:=s3.trans (zD hrc (.lst rs));have ep1:upd H p (.dK []) p=Ig (.dK []):=zA;have npm:p≠mc:=zH ep1 hmc;have ep2:=(zD hmc (.dK mk)) _ _ ep1;have em2:upd (upd H p (.dK [])) mc (.dK mk) mc=Ig (.dK mk):=zA;have npb:p≠bc:=zH ep2 hbc;have nmb:mc≠bc:=zH em2 hbc;have ep3:=(zD hbc (.dK bk)) _ _ ep2;have em3:=(zD hbc (.dK bk)) _ _ em2;have eb3:upd (upd (upd H p (.dK [])) mc (.dK mk)) bc (.dK bk) bc=Ig (.dK bk):=zA;have npr:p≠rc:=zH ep3 hrc;have nmr:mc≠rc:=zH em3 hrc;have nbr:bc≠rc:=zH eb3 hrc;have ep4:=(zD hrc (.lst rs)) _ _ ep3;have em4:=(zD hrc (.lst rs)) _ _ em3;have eb4:=(zD hrc (.lst rs)) _ _ eb3;have er4:upd (upd (upd (upd H p (.dK [])) mc (.dK mk)) bc (.dK bk)) rc (.lst rs) rc=Ig (.lst rs):=zA;generalize upd (upd (upd (upd H p (.dK [])) mc (.dK mk)) bc (.dK bk)) rc (.lst rs)=H4 at s4 ep4 em4 eb4 er4;exists ep4,[(.inr "marks",.ref mc),(.inr "banks",.ref bc),(.inr "runs",.ref rc)],U,(show 3<=15 by decide);rw[aB];have s5:Same H (upd H4 p (.dK [(.inr "marks",.ref mc),(.inr "banks",.ref bc),(.inr "runs",.ref rc)])):=λx o e=>by rw[zG (zH e hp)]; rwa[s4 x o e]
 erw[_,U,d,.ref n,U,dg s5 vN,n,nk,U,Rd.same hn s5,λnc hnc=>?_];have npn:p≠nc:=zH zA hnc;have hnc4:H4 nc=none:=by rw[zG npn.symm] at hnc; rwa[hnc]
 have nmn:mc≠nc:=zH em4 hnc4;have nbn:bc≠nc:=zH eb4 hnc4;have nrn:rc≠nc:=zH er4 hnc4;have s6:=s5.trans (zD hnc (.dK nk));exists _,U,p,_,U,ie.k (k:=.inr "notes") (by rw[zG npn,zA]) (zT (by show 3<=1000; decide));rw[We];have s7:Same H (upd (upd (upd H4 p (.dK [(.inr "marks",.ref mc),(.inr "banks",.ref bc),(.inr "runs",.ref rc)])) nc (.dK nk)) p (.dK [(.inr "marks",.ref mc),(.inr "banks",.ref bc),(.inr "runs",.ref rc),(.inr "notes",.ref nc)])):=λx o e=>by rw[zG (zH e hp)]; rwa[s6 x o e]
 exists _,U,d,.int S.coming,U,dg s7 yq,_,U,p,_,U,ie.k (k:=.inr "next") zA (zT (by show 4<=1000; decide));rw[WU];have keep:∀ x o,x≠p->x≠nc->H4 x=Ig o->upd (upd (upd (upd H4 p (.dK [(.inr "marks",.ref mc),(.inr "banks",.ref bc),(.inr "runs",.ref rc)])) nc (.dK nk)) p (.dK [(.inr "marks",.ref mc),(.inr "banks",.ref bc),(.inr "runs",.ref rc),(.inr "notes",.ref nc)])) p (.dK [(.inr "marks",.ref mc),(.inr "banks",.ref bc),(.inr "runs",.ref rc),(.inr "notes",.ref nc),(.inr "next",.int S.coming)]) x=Ig o:=λx o h1 h2 e=>by
  rw[zG h1,zG h1,zG h2,zG h1]; rwa[e]
 have em:=keep _ _ npm.symm nmn em4;have eb:=keep _ _ npb.symm nbn eb4;have er:=keep _ _ npr.symm nrn er4;have s8:Same H _:=λx o e=>keep x o (zH e hp) (zH (s5 _ _ e) hnc) (s4 _ _ e);have en:upd (upd (upd (upd H4 p (.dK [(.inr "marks",.ref mc),(.inr "banks",.ref bc),(.inr "runs",.ref rc)])) nc (.dK nk)) p (.dK [(.inr "marks",.ref mc),(.inr "banks",.ref bc),(.inr "runs",.ref rc),(.inr "notes",.ref nc)])) p (.dK [(.inr "marks",.ref mc),(.inr "banks",.ref bc),(.inr "runs",.ref rc),(.inr "notes",.ref nc),(.inr "next",.int S.coming)]) nc=Ig (.dK nk):=by rw[zG npn.symm,zG npn.symm,zA]
 have ep:upd (upd (upd (upd H4 p (.dK [(.inr "marks",.ref mc),(.inr "banks",.ref bc),(.inr "runs",.ref rc)])) nc (.dK nk)) p (.dK [(.inr "marks",.ref mc),(.inr "banks",.ref bc),(.inr "runs",.ref rc),(.inr "notes",.ref nc)])) p (.dK [(.inr "marks",.ref mc),(.inr "banks",.ref bc),(.inr "runs",.ref rc),(.inr "notes",.ref nc),(.inr "next",.int S.coming)]) p=Ig (.dK [(.inr "marks",.ref mc),(.inr "banks",.ref bc),(.inr "runs",.ref rc),(.inr "notes",.ref nc),(.inr "next",.int S.coming)]):=zA;clear keep s7 s6;generalize upd (upd (upd (upd H4 p (.dK [(.inr "marks",.ref mc),(.inr "banks",.ref bc),(.inr "runs",.ref rc)])) nc (.dK nk)) p (.dK [(.inr "marks",.ref mc),(.inr "banks",.ref bc),(.inr "runs",.ref rc),(.inr "notes",.ref nc)])) p (.dK [(.inr "marks",.ref mc),(.inr "banks",.ref bc),(.inr "runs",.ref rc),(.inr "notes",.ref nc),(.inr "next",.int S.coming)])=H8 at s8 ep em eb er en ⊢;have ep:H8 p=Ig (.dK (lwK mc bc rc nc S.coming)):=ep;have km8:=km.to (.of s8);have kb8:=kb.to (.of s8);have kr8:=kr.to (.of s8);have kn8:=kn.to (.of s8);have rep8:=rep.to (.of s8);have nmH:H mc=none:=s1.free hmc;have nrH:H rc=none:=s3.free hrc;have nbH:H bc=none:=s2.free hbc;have nnH:H nc=none:=s5.free hnc;obtain⟨t,xs,rfl,ht⟩:=gy rep8;erw[_,U,t,_,0,.str (pV D),U,U,.inr (SqT.of ht),xU (xs:=.str (pV D)::xs) (j:=0) rfl,sz2,λz hz=>?_];have sz:=zD hz (.tup [.str "mark",.str "move"]);exists z,_,U,.inr (SqT.of zA),U,U,_,rfl;have s9:=s8.trans sz;have ep9:=sz _ _ ep;have em9:=sz _ _ em;have eb9:=sz _ _ eb;have er9:=sz _ _ er;have en9:=sz _ _ en;have km9:=km8.to (.of sz);have kb9:=kb8.to (.of sz);have kr9:=kr8.to (.of sz);have kn9:=kn8.to (.of sz);have rep9:=rep8.to (.of sz);generalize upd H8 z (.tup [.str "mark",.str "move"])=H9 at s9 ep9 em9 eb9 er9 en9 km9 kb9 kr9 kn9 rep9 ⊢
 match D,rep9,ok,q with
 | .mark nm x y,rep9,ok,q =>
  obtain⟨_,e0,ht9⟩:=lu rep9;cases e0;have tq:Sq K H9 t _:=.inr (SqT.of ht9);erw[xO ?_];refine⟨_,U,_,U,t,_,U,SqT.of ht9,(λz=>x4 z.1 (by show ¬ HT.sIx 4 0 (Ig 2)=0; decide)),λc hc=>?_⟩;have sc:=zD hc (.tup [.int x,.int y]);have em10:=sc _ _ em9;exists _,U,p,.ref mc,U,.inl ⟨_,.inr "marks",.inl (sc _ _ ep9),U,yT.symm⟩,_,U,t,_,1,.str nm,U,U,.inr (SqT.of (sc _ _ ht9)),U,mc,_,U,ie.k (k:=.inr nm) em10 (zT (by lia)),_,rfl;have sE:=vV (o:=.dK (rJ mk (.inr nm) (.ref c))) em10;have np:=nV em10;erw[q p _ (λx o e=>by rw[zG (zH e nmH)]; rwa[sc _ _ (s9 _ _ e)]) hp ⟨mc,bc,rc,nc,nrH,.inl ?_,⟨_,.inl zA,?_⟩,⟨bk,.inl ?_,(kb9.to (.of sc)).sam sE np⟩,⟨rs,?_,(kr9.to (.of sc)).sam sE np⟩,⟨nk,.inl ?_,(kn9.to (.of sc)).sam sE np⟩⟩]
  ·rw[zG npm]; rwa[sc _ _ ep9]
  ·have:=((km9.to (.of sc)).put (k:=.inr nm) (vQ (p:=(x,y)) zA)).sam sE np;rw[sV (dh ok.2.1)] at this;show xS _ _ (mkE (S.marks++[(nm,x,y)]));rw[Zj];rwa[this]
  ·rw[zG nmb.symm]; rwa[sc _ _ eb9]
  ·rw[zG nmr.symm]; rwa[sc _ _ er9]
  ·rw[zG nmn.symm]; rwa[sc _ _ en9]
 | .move nm x y,rep9,ok,q =>
  obtain⟨_,e0,ht9⟩:=lH rep9;cases e0;have tq:Sq K H9 t _:=.inr (SqT.of ht9);erw[xO ?_];refine⟨_,U,_,U,t,_,U,SqT.of ht9,(λz=>x4 z.1 (by show ¬ HT.sIx 4 0 (Ig 2)=0; decide)),λc hc=>?_⟩;have sc:=zD hc (.tup [.int x,.int y]);have em10:=sc _ _ em9;exists _,U,p,.ref mc,U,.inl ⟨_,.inr "marks",.inl (sc _ _ ep9),U,yT.symm⟩,_,U,t,_,1,.str nm,U,U,.inr (SqT.of (sc _ _ ht9)),U,mc,_,U,ie.k (k:=.inr nm) em10 (zT (by lia)),_,rfl;have sE:=vV (o:=.dK (rJ mk (.inr nm) (.ref c))) em10;have np:=nV em10;erw[q p _ (λx o e=>by rw[zG (zH e nmH)]; rwa[sc _ _ (s9 _ _ e)]) hp ⟨mc,bc,rc,nc,nrH,.inl ?_,⟨_,.inl zA,?_⟩,⟨bk,.inl ?_,(kb9.to (.of sc)).sam sE np⟩,⟨rs,?_,(kr9.to (.of sc)).sam sE np⟩,⟨nk,.inl ?_,(kn9.to (.of sc)).sam sE np⟩⟩]
  ·rw[zG npm]; rwa[sc _ _ ep9]
  ·have:=((km9.to (.of sc)).put (k:=.inr nm) (vQ (p:=(x,y)) zA)).sam sE np;rw[aG ok.1] at this;rwa[this]
  ·rw[zG nmb.symm]; rwa[sc _ _ eb9]
  ·rw[zG nmr.symm]; rwa[sc _ _ er9]
  ·rw[zG nmn.symm]; rwa[sc _ _ en9]
 | .unmark nm,rep9,ok,q =>
  obtain⟨_,e0,ht9⟩:=wf rep9;cases e0;have tq:Sq K H9 t _:=.inr (SqT.of ht9);erw[yO ?_];exists _,U,t,_,0,.str "unmark",U,U,tq,U,U,_,rfl;erw[xO ?_];obtain⟨pm,epm⟩:=k9.mp ok.1;obtain⟨v,ev,_⟩:=km9.get (k:=.inr nm) (d:=ptD pm) (by rw[wX,epm]; rfl);exists _,U,p,.ref mc,U,.inl ⟨_,.inr "marks",.inl ep9,U,yT.symm⟩,mc,U,.inl ⟨mk,.inl em9⟩,_,U,t,_,1,.str nm,U,U,tq,U,mk,.inr nm,v,em9,U,ev,_,rfl;have sE:=vV (o:=.dK (qe mk (.inr nm))) em9;have np:=nV em9;erw[q p _ (λx o e=>by rw[zG (zH e nmH)]; rwa[s9 _ _ e]) hp ⟨mc,bc,rc,nc,nrH,.inl ?_,⟨_,.inl zA,?_⟩,⟨bk,.inl ?_,kb9.sam sE np⟩,⟨rs,?_,kr9.sam sE np⟩,⟨nk,.inl ?_,kn9.sam sE np⟩⟩]
  ·rw[zG npm]; rwa[ep9]
  ·have:=(km9.drop (k:=.inr nm)).sam sE np;rw[eB] at this;rwa[this]
  ·rw[zG nmb.symm]; rwa[eb9]
  ·rw[zG nmr.symm]; rwa[er9]
  ·rw[zG nmn.symm]; rwa[en9]
 | .bank nm cs,rep9,ok,q =>
  obtain⟨_,cc,ps,e0,ht9,hcc,cn,rc0⟩:=nu rep9;cases e0;have tq:Sq K H9 t _:=.inr (SqT.of ht9);erw[yO ?_];exists _,U,t,_,0,.str "bank",U,U,tq,U,U,_,rfl;erw[yO ?_];exists _,U,t,_,0,.str "bank",U,U,tq,U,U,_,rfl;erw[xO ?_];obtain⟨_,_,_,e0,h0,_,_,rc9⟩:=nu rep9;cases e0;rw[ht9] at h0;cases h0;exists _,U,t,_,2,.ref cc,U,U,tq,U,_,U,p,.ref bc,U,.inl ⟨_,.inr "banks",.inl ep9,U,qC.symm⟩,_,U,t,_,1,.str nm,U,U,tq,U,bc,_,U,ie.k (k:=.inr nm) eb9 (zT (by lia)),_,rfl;have sE:=vV (o:=.dK (rJ bk (.inr nm) (.ref cc))) eb9;have np:=nV eb9;erw[q p _ (λx o e=>by rw[zG (zH e nbH)]; rwa[s9 _ _ e]) hp ⟨mc,bc,rc,nc,nrH,.inl ?_,⟨mk,.inl ?_,km9.sam sE np⟩,⟨_,.inl zA,?_⟩,⟨rs,?_,kr9.sam sE np⟩,⟨nk,.inl ?_,kn9.sam sE np⟩⟩]
  ·rw[zG npb]; rwa[ep9]
  ·rw[zG nmb]; rwa[em9]
  ·have:=(kb9.put (k:=.inr nm) rc9).sam sE np;rw[sV (ka ok.2.1)] at this;show xS _ _ (bkE (S.banks++[(nm,cs)]));rw[az];rwa[this]
  ·rw[zG nbr.symm]; rwa[er9]
  ·rw[zG nbn.symm]; rwa[en9]
 | .level nm,rep9,ok,q =>
  obtain⟨_,e0,ht9⟩:=pI rep9;cases e0;have tq:Sq K H9 t _:=.inr (SqT.of ht9);erw[yO ?_];exists _,U,t,_,0,.str "level",U,U,tq,U,U,_,rfl;erw[yO ?_];exists _,U,t,_,0,.str "level",U,U,tq,U,U,_,rfl;erw[yO ?_];exists _,U,t,_,0,.str "level",U,U,tq,U,U,_,rfl;erw[xO ?_];obtain⟨dv,lk⟩:=Xm (l:=S.banks) ok;obtain⟨v,ev,_⟩:=kb9.get lk;exists _,U,p,.ref bc,U,.inl ⟨_,.inr "banks",.inl ep9,U,qC.symm⟩,bc,U,.inl ⟨bk,.inl eb9⟩,_,U,t,_,1,.str nm,U,U,tq,U,bk,.inr nm,v,eb9,U,ev,_,rfl;have sE:=vV (o:=.dK (qe bk (.inr nm))) eb9;have np:=nV eb9;erw[q p _ (λx o e=>by rw[zG (zH e nbH)]; rwa[s9 _ _ e]) hp ⟨mc,bc,rc,nc,nrH,.inl ?_,⟨mk,.inl ?_,km9.sam sE np⟩,⟨_,.inl zA,?_⟩,⟨rs,?_,kr9.sam sE np⟩,⟨nk,.inl ?_,kn9.sam sE np⟩⟩]
  ·rw[zG npb]; rwa[ep9]
  ·rw[zG nmb]; rwa[em9]
  ·have:=(kb9.drop (k:=.inr nm)).sam sE np;rw[fI] at this;rwa[this]
  ·rw[zG nbr.symm]; rwa[er9]
  ·rw[zG nbn.symm]; rwa[en9]
 | .right k x y,rep9,ok,q =>
  obtain⟨_,e0,ht9⟩:=pL rep9;cases e0;have tq:Sq K H9 t _:=.inr (SqT.of ht9);erw[yO ?_];exists _,U,t,_,0,.str "right",U,U,tq,U,U,_,rfl;erw[yO ?_];exists _,U,t,_,0,.str "right",U,U,tq,U,U,_,rfl;erw[yO ?_];exists _,U,t,_,0,.str "right",U,U,tq,U,U,_,rfl;erw[yO ?_];exists _,U,t,_,0,.str "right",U,U,tq,U,U,_,rfl;erw[yO ?_];exists _,U,t,_,0,.str "right",U,U,tq,U,U,_,rfl;erw[xO ?_];refine⟨_,U,_,U,t,_,U,SqT.of ht9,(λz=>x4 z.1 (by show ¬ HT.sIx 4 0 (Ig 2)=0; decide)),λc hc=>?_⟩;have sc:=zD hc (.tup [.int x,.int y]);have er10:=sc _ _ er9;obtain⟨i,rfl⟩:=AF ok.1;have hi:i<S.runs.length:=by have:=ok.2.1; lia
  exists _,U,p,.ref rc,U,.inl ⟨_,.inr "runs",.inl (sc _ _ ep9),U,uR.symm⟩,_,U,t,_,1,.int (i:Int),U,U,.inr (SqT.of (sc _ _ ht9)),U,rc,rs,(i:Int),i,U,U,er10,VE (by rw[lr]; rwa[hi]),_,rfl;have sE:=vV (o:=.lst (rs.set i (.ref c))) er10;have np:=io er10;erw[q p _ (λx o e=>by rw[zG (zH e nrH)]; rwa[sc _ _ (s9 _ _ e)]) hp ⟨mc,bc,rc,nc,nrH,.inl ?_,⟨mk,.inl ?_,(km9.to (.of sc)).sam sE np⟩,⟨bk,.inl ?_,(kb9.to (.of sc)).sam sE np⟩,⟨_,zA,?_⟩,⟨nk,.inl ?_,(kn9.to (.of sc)).sam sE np⟩⟩]
  ·rw[zG npr]; rwa[sc _ _ ep9]
  ·rw[zG nmr]; rwa[sc _ _ em9]
  ·rw[zG nbr]; rwa[sc _ _ eb9]
  ·show xK _ ((S.runs.set i (x,y)).map ptD) _;rw[List.map_set];exact(xK.set (vQ (p:=(x,y)) zA) i (kr9.to (.of sc))).sam sE np
  ·rw[zG nrn.symm]; rwa[sc _ _ en9]
 | .sail x y,rep9,ok,q =>
  obtain⟨_,e0,ht9⟩:=kz rep9;cases e0;have tq:Sq K H9 t _:=.inr (SqT.of ht9);erw[yO ?_];exists _,U,t,_,0,.str "sail",U,U,tq,U,U,_,rfl;erw[yO ?_];exists _,U,t,_,0,.str "sail",U,U,tq,U,U,_,rfl;erw[yO ?_];exists _,U,t,_,0,.str "sail",U,U,tq,U,U,_,rfl;erw[yO ?_];exists _,U,t,_,0,.str "sail",U,U,tq,U,U,_,rfl;erw[xO ?_];refine⟨_,U,p,.ref rc,U,.inl ⟨_,.inr "runs",.inl ep9,U,uR.symm⟩,.inl ⟨U,_,SqL.of er9⟩,_,U,_,U,t,_,U,SqT.of ht9,(λz=>x4 z.1 (by show ¬ HT.sIx 3 0 (Ig 1)=0; decide)),λc hc=>?_⟩;have sc:=zD hc (.tup [.int x,.int y]);have er10:=sc _ _ er9;exists rc,_,.ref c,U,U,er10,zT (by lia),_,rfl;have sE:=vV (o:=.lst (rs++[.ref c])) er10;have np:=io er10;erw[q p _ (λx o e=>by rw[zG (zH e nrH)]; rwa[sc _ _ (s9 _ _ e)]) hp ⟨mc,bc,rc,nc,nrH,.inl ?_,⟨mk,.inl ?_,(km9.to (.of sc)).sam sE np⟩,⟨bk,.inl ?_,(kb9.to (.of sc)).sam sE np⟩,⟨_,zA,?_⟩,⟨nk,.inl ?_,(kn9.to (.of sc)).sam sE np⟩⟩]
  ·rw[zG npr]; rwa[sc _ _ ep9]
  ·rw[zG nmr]; rwa[sc _ _ em9]
  ·rw[zG nbr]; rwa[sc _ _ eb9]
  ·show xK _ ((S.runs++[(x,y)]).map ptD) _;rw[j5];exact(xK.app (kr9.to (.of sc)) (.one (vQ (p:=(x,y)) zA))).sam sE np
  ·rw[zG nrn.symm]; rwa[sc _ _ en9]
 | .bearing mo nm x1 y1 x2 y2,rep9,ok,q =>
  obtain⟨_,_,_,e0,ht9,_⟩:=uB rep9;cases e0;have tq:Sq K H9 t _:=.inr (SqT.of ht9);erw[yO ?_];exists _,U,t,_,0,.str "bearing",U,U,tq,U,U,_,rfl;erw[yO ?_];exists _,U,t,_,0,.str "bearing",U,U,tq,U,U,_,rfl;erw[yO ?_];exists _,U,t,_,0,.str "bearing",U,U,tq,U,U,_,rfl;erw[yO ?_];exists _,U,t,_,0,.str "bearing",U,U,tq,U,U,_,rfl;erw[yO ?_];exists _,U,t,_,0,.str "bearing",U,U,tq,U,U,_,rfl;erw[yO ?_];exists _,U,t,_,0,.str "bearing",U,U,tq,U,U,_,rfl;erw[yO ?_];exists _,U,_,U,p,.ref nc,U,.inl ⟨_,.inr "notes",.inl ep9,U,vN.symm⟩,_,U,d,.int S.coming,U,dg s9 yq,nc,_,U,ie.k (k:=.inl S.coming) en9 (zT (by lia));have sE:=vV (o:=.dK (rJ nk (.inl S.coming) (.ref t))) en9;have np:=nV en9;have s10:Same H (upd H9 nc (.dK (rJ nk (.inl S.coming) (.ref t)))):=λx o e=>by rw[zG (zH e nnH)]; rwa[s9 _ _ e]
  have ep10:upd H9 nc (.dK (rJ nk (.inl S.coming) (.ref t))) p=Ig (.dK (lwK mc bc rc nc S.coming)):=by rw[zG npn]; rwa[ep9]
  exists _,U,d,.int S.coming,U,dg s10 yq,_,_,U,U,_,U,p,_,U,ie.k (k:=.inr "next") ep10 (zT (by show 5<=1000; decide)),_,rfl;rw[oC];have sE2:=vV (o:=.dK (lwK mc bc rc nc (S.coming+1))) ep10;have np2:=nV ep10;erw[q p _ (λx o e=>by rw[zG (zH e hp)]; rwa[s10 _ _ e]) hp ⟨mc,bc,rc,nc,nrH,.inl zA,⟨mk,.inl ?_,(km9.sam sE np).sam sE2 np2⟩,⟨bk,.inl ?_,(kb9.sam sE np).sam sE2 np2⟩,⟨rs,?_,(kr9.sam sE np).sam sE2 np2⟩,⟨rJ nk (.inl S.coming) (.ref t),.inl ?_,?_⟩⟩]
  ·rw[zG npm.symm,zG nmn]; rwa[em9]
  ·rw[zG npb.symm,zG nbn]; rwa[eb9]
  ·rw[zG npr.symm,zG nrn]; rwa[er9]
  ·rw[zG npn.symm,zA]
  ·have:=((kn9.put (k:=.inl S.coming) rep9).sam sE np).sam sE2 np2;rw[sV (lR fr)] at this;show xS _ _ (ntE (S.notes++[(S.coming,_)]));rw[gN];rwa[this]
 | .range mo l1 r1,rep9,ok,q =>
  obtain⟨_,e0,ht9⟩:=sY rep9;cases e0;have tq:Sq K H9 t _:=.inr (SqT.of ht9);erw[yO ?_];exists _,U,t,_,0,.str "range",U,U,tq,U,U,_,rfl;erw[yO ?_];exists _,U,t,_,0,.str "range",U,U,tq,U,U,_,rfl;erw[yO ?_];exists _,U,t,_,0,.str "range",U,U,tq,U,U,_,rfl;erw[yO ?_];exists _,U,t,_,0,.str "range",U,U,tq,U,U,_,rfl;erw[yO ?_];exists _,U,t,_,0,.str "range",U,U,tq,U,U,_,rfl;erw[yO ?_];exists _,U,t,_,0,.str "range",U,U,tq,U,U,_,rfl;erw[yO ?_];exists _,U,_,U,p,.ref nc,U,.inl ⟨_,.inr "notes",.inl ep9,U,vN.symm⟩,_,U,d,.int S.coming,U,dg s9 yq,nc,_,U,ie.k (k:=.inl S.coming) en9 (zT (by lia));have sE:=vV (o:=.dK (rJ nk (.inl S.coming) (.ref t))) en9;have np:=nV en9;have s10:Same H (upd H9 nc (.dK (rJ nk (.inl S.coming) (.ref t)))):=λx o e=>by rw[zG (zH e nnH)]; rwa[s9 _ _ e]
  have ep10:upd H9 nc (.dK (rJ nk (.inl S.coming) (.ref t))) p=Ig (.dK (lwK mc bc rc nc S.coming)):=by rw[zG npn]; rwa[ep9]
  exists _,U,d,.int S.coming,U,dg s10 yq,_,_,U,U,_,U,p,_,U,ie.k (k:=.inr "next") ep10 (zT (by show 5<=1000; decide)),_,rfl;rw[oC];have sE2:=vV (o:=.dK (lwK mc bc rc nc (S.coming+1))) ep10;have np2:=nV ep10;erw[q p _ (λx o e=>by rw[zG (zH e hp)]; rwa[s10 _ _ e]) hp ⟨mc,bc,rc,nc,nrH,.inl zA,⟨mk,.inl ?_,(km9.sam sE np).sam sE2 np2⟩,⟨bk,.inl ?_,(kb9.sam sE np).sam sE2 np2⟩,⟨rs,?_,(kr9.sam sE np).sam sE2 np2⟩,⟨rJ nk (.inl S.coming) (.ref t),.inl ?_,?_⟩⟩]
  ·rw[zG npm.symm,zG nmn]; rwa[em9]
  ·rw[zG npb.symm,zG nbn]; rwa[eb9]
  ·rw[zG npr.symm,zG nrn]; rwa[er9]
  ·rw[zG npn.symm,zA]
  ·have:=((kn9.put (k:=.inl S.coming) rep9).sam sE np).sam sE2 np2;rw[sV (lR fr)] at this;show xS _ _ (ntE (S.notes++[(S.coming,_)]));rw[gN];rwa[this]
 | .strike k,rep9,ok,q =>
  obtain⟨_,e0,ht9⟩:=wv rep9;cases e0;have tq:Sq K H9 t _:=.inr (SqT.of ht9);erw[yO ?_];exists _,U,t,_,0,.str "strike",U,U,tq,U,U,_,rfl;erw[yO ?_];exists _,U,t,_,0,.str "strike",U,U,tq,U,U,_,rfl;erw[yO ?_];exists _,U,t,_,0,.str "strike",U,U,tq,U,U,_,rfl;erw[yO ?_];exists _,U,t,_,0,.str "strike",U,U,tq,U,U,_,rfl;erw[yO ?_];exists _,U,t,_,0,.str "strike",U,U,tq,U,U,_,rfl;erw[yO ?_];exists _,U,t,_,0,.str "strike",U,U,tq,U,U,_,rfl;erw[xO ?_];obtain⟨dv,lk⟩:=dz (l:=S.notes) ok;obtain⟨v,ev,_⟩:=kn9.get lk;exists _,U,p,.ref nc,U,.inl ⟨_,.inr "notes",.inl ep9,U,vN.symm⟩,nc,U,.inl ⟨nk,.inl en9⟩,_,U,t,_,1,.int k,U,U,tq,U,nk,.inl k,v,en9,U,ev,_,rfl;have sE:=vV (o:=.dK (qe nk (.inl k))) en9;have np:=nV en9;erw[q p _ (λx o e=>by rw[zG (zH e nnH)]; rwa[s9 _ _ e]) hp ⟨mc,bc,rc,nc,nrH,.inl ?_,⟨mk,.inl ?_,km9.sam sE np⟩,⟨bk,.inl ?_,kb9.sam sE np⟩,⟨rs,?_,kr9.sam sE np⟩,⟨_,.inl zA,?_⟩⟩]
  ·rw[zG npn]; rwa[ep9]
  ·rw[zG nmn]; rwa[em9]
  ·rw[zG nbn]; rwa[eb9]
  ·rw[zG nrn]; rwa[er9]
  ·have:=(kn9.drop (k:=.inl k)).sam sE np;rw[eP] at this;rwa[this]
def mkT(e:g8×Int×Int):Key×List V:=(.inr e.1,[.int e.2.1,.int e.2.2])
def Xd{H:Hp}{l:List (g8×Int×Int)}{ts:List (b9×Key×List V)}(e:ts.map (·.2)=l.map mkT)(at_:∀ t∈ts,H t.1=Ig (.tup (kV t.2.1::t.2.2))):∀ o:List Nat,xK H ((vT o l).map mkD) ((vT o (ts.map (·.1))).map V.ref)
 | []=>zY.mpr rfl
 | i::o=>by
  have ih:=Xd e at_ o;have ei:=congrArg (·[i]?) e;simp only[d8] at ei;rw[vg] at ih ⊢;unfold vT at ih ⊢;cases gt:ts[i]? with
  | none =>
   rw[gt] at ei;have gl:l[i]?=none:=by cases h:l[i]? <;> simp[h] at ei ⊢
   rw[AS gt,AS gl];rwa[ih]
  | some t =>
   rw[gt] at ei;obtain⟨x,gl,ex⟩:=j7.mp ei.symm;rw[AB gt,AB gl];have h:=at_ t (i8 gt);rw[show t.2=mkT x from ex.symm] at h;rwa[zL.mpr ⟨_,_,rfl,yF.mpr ⟨_,_,rfl,h,zL.mpr ⟨_,_,rfl,zW.mpr rfl,.two (yB.mpr rfl) (yB.mpr rfl)⟩⟩,ih⟩]
def vz(_:b7):Sp:=λvs H Q _=>∃(d:b9)(S:BS),vs=[.ref d]/\al H d S/\pi S /\
 ∀(c:b9)(zs:List V)(H':Hp),Sam H H'->H' c=Ig (.lst zs)->xK H' (cf S) zs->Q (.ref c) H'
def mX(F:Fun K "_law_marks_of" "_law_marks_of" rB f fd)(Z:Zs mg)(CB:Cb P w mg base)  : yX P w K mg base CX0 1 f fd ["_law_m"] (vz K):=by
 specialize lT
 ·obtain⟨d,S,rfl,_⟩:=h;rfl
 obtain⟨d,S,rfl,⟨m,b,r,n,lw⟩,nt,q⟩:=h;obtain⟨kvs,hm,kv⟩:=lw.ma;have lk:kvs.length=S.marks.length:=by rw[kv.length,zm]
 have fm:=nt.well.good.few.ma
 refine'⟨_,(zF (zM (zR zh rfl Z.sorted vX (zB (uX (T:=["_law_name","_law_place"]) (caps:=[]) ⟨rfl,by ac_nf,by ac_nf,rfl,t7⟩ rfl (Xy (zO (zU hr) (pv 0) zK (λ_ _=>rfl))) (λ_=>(zp rfl (yG (rT 0 (show(["_law_name","_law_place"]:List g8).Nodup by ac_nf)) (yG (rT 1 (show(["_law_name","_law_place"]:List g8).Nodup by ac_nf)) vZ)))) (λ_=>wH) (λ_=>?_)) zI)))),?_⟩
 nofun
 erw[_,U,d,.ref m,U,.inl ⟨_,.inr "marks",lw.at_,U,yT.symm⟩,m,kvs,U,hm,λo H2 fz cc D hD=>?_];have sf:Sam H H2:=nh hm fz;have kv2:=kv.to sf;have npD:∀ b xs,H2 b=Ig (.tup xs)->¬ b=D:=λb xs e z=>by rw[z,hD] at e; cases e
 refine WC (λi σ zs H'=>yY (λx=>x=D) H2 H'/\H' D=Ig (.lst zs)/\(∃ ts:List (b9×Key×List V),zs=(ts.map (·.1)).map V.ref/\ts.map (·.2)=(S.marks.take i).map mkT/\∀ t∈ts,H' t.1=Ig (.tup (kV t.2.1::t.2.2)))/\∃ u0 u1:Option V,σ=[u0,u1])
  ⟨.of (zD hD _),zA,⟨[],rfl,rfl,λt ht=>(nomatch ht)⟩,Ih,Ih,rfl⟩ (λi σ zs H' hP=>⟨fN hP.1 (λz=>by have:=fz.1; rw[z,hD] at this; cases this) fz.1,hP.2.1⟩) ?_ ?_
 ·rintro i e T σ zs H' ge hT ⟨sD,eD,⟨ts,rfl,et,at_⟩,u0,u1,rfl⟩;have sT:=zD hT (.tup [kV e.1,e.2]);obtain⟨dt,gd,rd⟩:=(kv2.sam sD npD).at ge;unfold mkE at gd;rw[d8,j7] at gd;obtain⟨em,gm,eq⟩:=gd;injection eq with e1 e2
  subst e2;obtain⟨a,ea,ha⟩:=xz rd;have li:i<60:=by have:=(g9.mp gm).1; lia
  have lt:ts.length=i:=by
   have:=congrArg A3 et;rw[a7,a7,i9] at this;have:=(g9.mp gm).1;lia
  exists _,_,U,SqT.of zA,U,_,_,U,_,_,U,rfl;rw[ea,<- e1];rw[ea,<- e1] at sT;have ha1:=sT _ _ ha;have aq:Sq K (upd H' T (.tup [kV (.inr em.1),.ref a])) a [.int em.2.1,.int em.2.2]:=.inr (SqT.of ha1);erw[_,U,_,U,a,_,0,.int em.2.1,U,U,aq,U,_,U,a,_,1,.int em.2.2,U,U,aq,U,sz3,λt3 ht3=>?_];have s3:=zD ht3 (.tup [.str em.1,.int em.2.1,.int em.2.2]);have eD4:=s3 _ _ (sT _ _ eD);erw[eD4,zT (by rw[a7,a7]; lia),(sD.trans ((yY.of sT).trans (.of s3))).trans (vV eD4),zA,⟨ts++[(t3,mkT em)],by rw[j5,j5]; rfl,by rw[j5,et,w5,gm,j5]; rfl,λt ht=>?_⟩,_,_,rfl];rcases m7.mp ht with z | z
  ·have h:=at_ t z;rw[zG (λy=>by rw[y,eD] at h; cases h)];rwa[s3 _ _ (sT _ _ h)]
  ·rw[d9.mp z];show upd _ D _ t3=_;rw[zG (zH (sT _ _ eD) ht3).symm];rwa[zA]
 ·rintro σ zs H' ⟨sD,eD,⟨ts,rfl,et,at_⟩,u0,u1,rfl⟩;rw[lk,Al] at et;have ek:ts.map (·.2.1)=(S.marks.map (·.1)).map .inr:=by
   have:=congrArg (List.map (·.1)) et;rw[t5,t5] at this;rw[t5];rwa[this]
  have lt:ts.length=S.marks.length:=by have:=congrArg A3 et; (rw[a7,a7] at this;assumption)
  erw[D,ts,U,SqL.of eD,at_,by lia,.inr ⟨_,ek⟩,by rw[ek]; exact jM nt.nm,λp hp=>?_];have sp:=zD hp (.lst ((vT (tR (ts.map (·.2.1))) (ts.map (·.1))).map V.ref));erw[q p _ _ ((yY.over sf sD hD).trans (.of sp)) zA ?_];rw[ek];rw[ek] at sp;exact(Xd et at_ _).to (.of sp)
def Xi(cs:List (Int×Int)):Prop:=Wb cs
def yo(_:b7):Sp:=λvs H Q _=>∃(a:b9)(rows:List Int),vs=[.ref a]/\H a=Ig (.lst (rows.map V.int))/\3<=rows.length/\(∀ v∈rows,0<=v/\v<1000003) /\
 ∀(v:V)(cs:List (Int×Int))(H':Hp),Same H H'->Rep H' (.tup (cs.map ptD)) v->Xi cs->cs.length<=12->(∀ c∈cs,c.1.natAbs.log2<20/\c.2.natAbs.log2<20)->Q v H'
def oK(F:Fun K "_law_drawn_bank" "_law_drawn_bank" vF f fd)(Z:Zs mg)(CB:Cb P w mg base)  : yX P w K mg base CX0 1 f fd ["_law_d"] (yo K):=by
 specialize zr
 ·obtain⟨a,rows,rfl,_⟩:=h;rfl
 obtain⟨a,rows,rfl,ha,l3,bd,q⟩:=h;obtain⟨v0,a0,z0⟩:=xQ bd (k:=0) (by decide) (by lia);obtain⟨v1,a1,z1⟩:=xQ bd (k:=1) (by decide) (by lia);obtain⟨v2,a2,z2⟩:=xQ bd (k:=2) (by decide) (by lia);have sq:∀{H':Hp},H' a=Ig (.lst (rows.map V.int))->Sq K H' a (rows.map V.int):=λh=>.inl (SqL.of h)
 refine'⟨_,(zC (aX (i:=1) (j:=2) rfl zr.nd rfl rfl (by decide) rfl rfl ?_ rfl)
   (zF (zM ?_))),?_⟩
 nofun
 exists _,U,a,_,_,_,U,U,sq ha,a0,_,_,U,U,(by show(0:Int)<2001; decide),_,_,rfl,rfl,_,rfl,a,_,_,_,rfl,rfl,sq ha,a1,_,_,rfl,rfl,(by show(0:Int)<41; decide),_,_,rfl,rfl,_,_,rfl;have x0:(v0%2001-1000).natAbs<=1001:=by lia
 have y0:(v1%41-20).natAbs<=21:=by lia
 generalize v0%2001-1000=x at x0 ⊢;generalize v1%41-20=y at y0 ⊢;erw[_,U,_,U,sz2,λp1 hp1=>?_];have s1:=zD hp1 (.tup [.int x,.int y]);erw[_,U,_,_,U,U,_,U,sz2,λp2 hp2=>?_];have s2:=zD hp2 (.tup [.int (x+3),.int y]);have ha2:=s2 _ _ (s1 _ _ ha);refine⟨_,U,_,_,U,U,_,U,_,U,a,_,_,_,U,U,sq ha2,a2,_,_,U,U,(by show(0:Int)<6; decide),_,_,rfl,rfl,_,_,rfl,rfl,sz2,λp3 hp3=>?_⟩;have e0 : -1<=v2%6-1:=by lia
 have e4:v2%6-1<=4:=by lia
 rw[show y+v2%6-1=y+(v2%6-1) by lia];generalize v2%6-1=e at e0 e4 ⊢;have s3:=zD hp3 (.tup [.int (x+1),.int (y+e)]);erw[sz3,λt ht=>?_];have s4:=zD ht (.tup [.ref p1,.ref p2,.ref p3]);refine q (.ref t) [(x,y),(x+3,y),(x+1,y+e)] _ (((s1.trans s2).trans s3).trans s4) ?_ ⟨x,y,e,e0,e4,rfl⟩ (by show 3<=12; decide) (λc hc=>?_)
 ·rwa[yF.mpr ⟨t,_,rfl,zA,zL.mpr ⟨_,_,rfl,vQ (p:=(x,y)) (s4 _ _ (s3 _ _ (s2 _ _ zA))),.two (vQ (p:=(x+3,y)) (s4 _ _ (s3 _ _ zA))) (vQ (p:=(x+1,y+e)) (s4 _ _ zA))⟩⟩]
 ·simp only[i7,Ag,or_false] at hc;rcases hc with rfl | rfl | rfl <;> rwa[XM (by dsimp only; lia),XM (by dsimp only; lia)]
section
variable{H:Hp}{w:b9}
def XW{n:g8}{x y:Int}(hw:H w=Ig (.tup [.str "move",.str n,.int x,.int y])):Rep H (Deed.move n x y).dt (.ref w) :=
 yF.mpr ⟨w,_,rfl,hw,zL.mpr ⟨_,_,rfl,zW.mpr rfl,zL.mpr ⟨_,_,rfl,zW.mpr rfl,.two (yB.mpr rfl) (yB.mpr rfl)⟩⟩⟩
def WY{k x y:Int}(hw:H w=Ig (.tup [.str "right",.int k,.int x,.int y])):Rep H (Deed.right k x y).dt (.ref w) :=
 yF.mpr ⟨w,_,rfl,hw,zL.mpr ⟨_,_,rfl,zW.mpr rfl,zL.mpr ⟨_,_,rfl,yB.mpr rfl,.two (yB.mpr rfl) (yB.mpr rfl)⟩⟩⟩
def XY{n:g8}(hw:H w=Ig (.tup [.str "unmark",.str n])):Rep H (Deed.unmark n).dt (.ref w) :=
 yF.mpr ⟨w,_,rfl,hw,.two (zW.mpr rfl) (zW.mpr rfl)⟩
def XV{n:g8}(hw:H w=Ig (.tup [.str "level",.str n])):Rep H (Deed.level n).dt (.ref w) :=
 yF.mpr ⟨w,_,rfl,hw,.two (zW.mpr rfl) (zW.mpr rfl)⟩
def bj{n:g8}{v:V}{cs:List (Int×Int)}(hw:H w=Ig (.tup [.str "bank",.str n,v]))(hv:Rep H (.tup (cs.map ptD)) v):Rep H (Deed.bank n cs).dt (.ref w) :=
 yF.mpr ⟨w,_,rfl,hw,zL.mpr ⟨_,_,rfl,zW.mpr rfl,.two (zW.mpr rfl) hv⟩⟩
end
def Xe:Deed->Prop
 | .bank _ cs=>Xi cs
 | _=>True
def iZ(_:b7):Sp:=λvs H Q _=>∃(a d R:b9)(rows:List Int)(ns:List g8)(S:BS),vs=[.ref a,.ref d,.ref R]/\H a=Ig (.lst (rows.map V.int))/\11<=rows.length/\(∀ v∈rows,0<=v/\v<1000003)/\al H d S/\jS S/\1<=S.coming/\S.coming<=1000/\H R=Ig (.lst (ns.map V.str))/\1<=ns.length/\(∀ n∈ns,wL n) /\
 ∀(v:V)(D:Deed)(H':Hp),Sam H H'->Rep H' D.dt v->qb D->Xe D->Q v H'
def bg(F:Fun K "_law_deed" "_law_deed" pK f fd)(Z:Zs mg)(CB:Cb P w mg base)(yBx:Has P w K mg base "_law_pick" 2 ["_law_raw","_law_names_here"] (oF K))(yAf:Has P w K mg base "_law_bearing_deed" 3 ["_law_d","_law_m","_law_names_here"] (rP K))(yAp:Has P w K mg base "_law_drawn_bank" 1 ["_law_d"] (yo K))(yAt:Has P w K mg base "_law_far_number" 1 ["_law_raw"] (zz K)):yX P w K mg base CX0 4 f fd ["_law_d","_law_m","_law_names_here"] (iZ K):=by
 specialize vf
 ·obtain⟨a,d,R,rows,ns,S,rfl,_⟩:=h;rfl
 obtain⟨a,d,R,rows,ns,S,rfl,ha,l11,bd,lwt,wl,c1,c1000,eR,l1,okn,q⟩:=h;obtain⟨m,b,r,n,lw⟩:=id lwt;obtain⟨v0,a0,y0⟩:=xQ bd (k:=0) (by decide) (by lia);obtain⟨v1,a1,y1⟩:=xQ bd (k:=1) (by decide) (by lia);obtain⟨v2,a2,y2⟩:=xQ bd (k:=2) (by decide) (by lia);obtain⟨v3,a3,y3⟩:=xQ bd (k:=3) (by decide) (by lia);obtain⟨v4,a4,y4⟩:=xQ bd (k:=4) (by decide) (by lia);obtain⟨v5,a5,y5⟩:=xQ bd (k:=5) (by decide) (by lia);obtain⟨v6,a6,y6⟩:=xQ bd (k:=6) (by decide) (by lia);have sq:∀{H':Hp},H' a=Ig (.lst (rows.map V.int))->Sq K H' a (rows.map V.int):=λh=>.inl (SqL.of h);obtain⟨ys,er,rr⟩:=lw.ru;have ly:ys.length=S.runs.length:=by rw[rr.length,a7]
 have fr:=wl.good.few.ru
 refine'⟨_,(zC (yE 3 vf.nd ?_)
   (zC (yE 4 vf.nd ?_)
   (zC (aX (i:=5) (j:=6) rfl vf.nd rfl rfl (by decide) rfl rfl ?_ rfl)
   (zC (zX ?_ (zF (zM ?_)) zN)
   (zC (zX ?_ (zF (zM ?_)) zN)
   (zC (zX ?_ (zF (zM ?_)) zN)
   (zC (zX ?_ (zF (zM ?_)) zN)
   (zC (zX ?_ (zF (zM ?_)) zN)
   (zC (zX ?_ (zF (zM ?_)) zN)
   (zC (zX ?_ (zF (zM (yW (zB zK (zB (wG xv (wG Xb (wG mW ?_ (wG xv (zR yU rfl Z.len wZ (zB (zO (zU hr) (pv 1) zK (λ_ _=>rfl)) zI)) yL)) yL) (xP hJ rfl Z.int bM (zB (ig (sL lP (zR yU rfl Z.len wZ (zB (zO (zU hr) (pv 1) zK (λ_ _=>rfl)) zI)) yL (yS _)) (jl ?_)) zI))) (zB (pv 5) (zB (pv 6) zI))))))) zN)
   (zC (zX ?_ (zF (zM ?_)) zN)
   (zC (zX ?_ (zF (zM (yW (zB zK (zB (wG mW ?_ (wG xv (wG xv (zR yU rfl Z.len wZ (zB (zO (zU hr) (pv 1) zK (λ_ _=>rfl)) zI)) yL) ?_)) (zB (pv 4) (zB ?_ zI))))))) zN)
   (zF (zM (yW (zB zK (zB (wG mW ?_ (wG xv (zO (zU hr) (pv 1) zK (λ_ _=>rfl)) yL)) zI))))))))))))))))),?_⟩
 nofun
 exists _,U,a,_,_,_,U,U,sq ha,a0,_,_,U,U,(by show(0:Int)<18; decide);erw[_,U,a,_,_,_,U,U,sq ha,a1,_,U,v1,R,ns,U,y1.1,y1.2,eR,l1,okn,λnm H2 an s2=>?_];erw[_,U,a,_,_,_,U,U,sq (s2 _ _ ha),a2,v2,U,y2.1,y2.2,λx H3 tx s3=>?_];erw[_,U,a,_,_,_,U,U,sq (s3 _ _ (s2 _ _ ha)),a3,v3,U,y3.1,y3.2,λy H4 ty s4'=>⟨_,_,U,?_⟩];have s4:=s2.trans (s3.trans s4');clear s2 s3 s4';have ha4:=s4 _ _ ha;have lw4:=lw.to (.of s4);have eR4:=s4 _ _ eR;generalize v0%18=W;exists _,U,_,_,U,U,_,rfl;erw[ifD (λza=>?_) (λza=>?_)]
 ·refine⟨_,U,_,U,_,U,(by show 4<=sizeLine; decide),λw hw=>?_⟩;have sw:=zD hw (.tup [.str "mark",.str nm,.int x,.int y]);rwa[q (.ref w) (.mark nm x y) _ (.of (s4.trans sw)) (YO zA) (⟨an,tx,ty⟩) trivial]
 exists _,U,U,_,rfl;erw[ifE (λzb=>?_) (λzb=>?_)]
 ·refine⟨_,U,_,U,_,U,(by show 4<=sizeLine; decide),λw hw=>?_⟩;have sw:=zD hw (.tup [.str "move",.str nm,.int x,.int y]);rwa[q (.ref w) (.move nm x y) _ (.of (s4.trans sw)) (XW zA) (⟨an,tx,ty⟩) trivial]
 exists _,U,U,_,rfl;erw[ifE (λzc=>?_) (λzc=>?_)]
 ·erw[_,U,sz2,λw hw=>?_];have sw:=zD hw (.tup [.str "unmark",.str nm]);rwa[q (.ref w) (.unmark nm) _ (.of (s4.trans sw)) (XY zA) (an) trivial]
 have ct1:zg (rows.map V.int) (Ig ((1:Nat):Int)) Ih=(rows.drop 1).map V.int:=by rw[ux,HT.sIx_nat rows.length 0 1,show min 1 rows.length=1 by lia,show HT.sIx rows.length rows.length Ih=rows.length from rfl,Aa (by rw[p0]; lia)]
 have ct1:zg (rows.map V.int) (Ig 1) Ih=(rows.drop 1).map V.int:=ct1;exists _,U,U,_,rfl;erw[ifE (λz5=>xO ?_) (λz5=>?_)]
 ·skip
  erw[_,U,_,U,_,U,a,_,U,SqL.of ha4,λc hc=>?_];have sc:=zD hc (.lst (zg (rows.map V.int) (Ig 1) Ih));erw[c,rows.drop 1,U,(by rw[zA,ct1]),(by rw[p0]; lia),(λv hv=>bd v (Bj hv)),λv cs H5 s5 rv dc l12 lg=>?_];erw[sz3,λw hw=>?_];have sw:=zD hw (.tup [.str "bank",.str nm,v]);rwa[q (.ref w) (.bank nm cs) _ (.of (s4.trans (sc.trans (s5.trans sw)))) (bj zA (rv.to (.of sw))) ⟨an,l12,lg⟩ dc]
 exists _,U,U,_,rfl;erw[ifE (λz6=>?_) (λz6=>?_)]
 ·skip
  erw[_,U,_,U,_,U,a,_,U,SqL.of ha4,λc hc=>?_];have sc:=zD hc (.lst (zg (rows.map V.int) (Ig 1) Ih));erw[c,rows.drop 1,U,(by rw[zA,ct1]),(by rw[p0]; lia),(λv hv=>bd v (Bj hv)),λv cs H5 s5 rv dc l12 lg=>?_];erw[sz3,λw hw=>?_];have sw:=zD hw (.tup [.str "bank",.str nm,v]);rwa[q (.ref w) (.bank nm cs) _ (.of (s4.trans (sc.trans (s5.trans sw)))) (bj zA (rv.to (.of sw))) ⟨an,l12,lg⟩ dc]
 exists _,U,U,_,rfl;erw[ifE (λz7=>?_) (λz7=>?_)]
 ·erw[_,U,sz2,λw hw=>?_];have sw:=zD hw (.tup [.str "level",.str nm]);rwa[q (.ref w) (.level nm) _ (.of (s4.trans sw)) (XV zA) (an) trivial]
 exists _,U,_,_,U,U,_,rfl;erw[ifD (λz8=>?_) (λz8=>?_)]
 ·erw[_,U,_,U,sz3,λw hw=>?_];have sw:=zD hw (.tup [.str "sail",.int x,.int y]);rwa[q (.ref w) (.sail x y) _ (.of (s4.trans sw)) (ZF zA) (⟨tx,ty⟩) trivial]
 exists _,U,U,_,rfl;erw[ifE (λz9=>?_) (λz9=>?_)]
 ·exists _,U,a,_,_,_,U,U,sq ha4,a4,_,U,d,.ref r,U,.inl ⟨_,.inr "runs",lw4.at_,U,uR.symm⟩,r,ys,U,.inl (SqL.of (s4 _ _ er)),_,_,U,U,_,_,U,U,(by show(0:Int)<(ys.length:Int)+2; lia),_,_,rfl,rfl;have fin2:∀ k:Int,0<=k/\k<=1->∀ w,H4 w=Ih->Q (.ref w) (upd H4 w (.tup [.str "right",.int (v4%((ys.length:Int)+2)-1+k),.int x,.int y])):=by
   intro k hk w hw;have e0:=t9 v4 (show(ys.length:Int)+2≠0 by lia);have e1:=o6 v4 (show(0:Int)<(ys.length:Int)+2 by lia);have tk:qY (v4%((ys.length:Int)+2)-1+k):=xV (by lia);generalize v4%((ys.length:Int)+2)-1+k=kk at tk ⊢;have sw:=zD hw (.tup [.str "right",.int kk,.int x,.int y]);rwa[q (.ref w) (.right kk x y) _ (.of (s4.trans sw)) (WY zA) (⟨tk,tx,ty⟩) trivial]
  have k01:∀ c:Bool,(0:Int)<=(if c=Ii then 1 else 0)/\(if c=Ii then(1:Int) else 0)<=1:=λc=>by cases c <;> decide
  exists _,U,d,.ref r,U,.inl ⟨_,.inr "runs",lw4.at_,U,uR.symm⟩,r,ys,U,.inl (SqL.of (s4 _ _ er)),_,_,U,U,_,rfl;erw[VB (λ_=>?_) (λ_=>?_)]
  ·exact⟨_,U,a,_,_,_,U,U,sq ha4,a5,_,_,U,U,gt3,_,_,U,U,.inr ⟨_,U,_,_,U,U,_,U,_,U,(by show 4<=sizeLine; decide),fin2 _ (k01 _)⟩⟩
  ·exact .inr ⟨_,rfl,_,_,rfl,rfl,_,rfl,_,rfl,(by show 4<=sizeLine; decide),fin2 _ (k01 _)⟩
 exists _,U,_,_,U,U,_,rfl;erw[ifD (λz10=>?_) (λz10=>?_)]
 ·erw[_,U,_,U,_,U,a,d,R,rows,ns,S,U,ha4,(by lia),bd,⟨m,b,r,n,lw4⟩,wl,eR4,l1,okn,λv m n a b c d H' s' rp tm=>q v _ H' ((yY.of s4).trans s') rp tm trivial]
 exists _,U,U,_,rfl;erw[ifE (λz12=>xO ?_) (λz12=>?_)]
 ·skip
  refine⟨_,U,a,_,_,_,U,U,sq ha4,a4,_,U,d,.ref r,U,.inl ⟨_,.inr "runs",lw4.at_,U,uR.symm⟩,r,ys,U,.inl (SqL.of (s4 _ _ er)),_,_,U,U,_,U,a,_,_,_,U,U,sq ha4,a5,_,_,U,U,(by show(0:Int)<9; decide),rfl,.inr ⟨_,rfl,_,_,rfl,rfl,?_⟩⟩;have k01:(0:Int)<=(if decide (V.int (v5%9)=V.int 1)=Ii then 1 else 0)/\(if decide (V.int (v5%9)=V.int 1)=Ii then(1:Int) else 0)<=1:=by split <;> decide
  generalize (if decide (V.int (v5%9)=V.int 1)=Ii then(1:Int) else 0)=k at k01 ⊢;have e0:=t9 v4 (show(ys.length:Int)+1+k≠0 by lia);have e1:=o6 v4 (show(0:Int)<(ys.length:Int)+1+k by lia);have tk:qY (v4%((ys.length:Int)+1+k)):=xV (by lia);refine⟨_,_,U,U,(by show(0:Int)<(ys.length:Int)+1+k; lia),_,rfl,_,rfl,a,_,_,_,rfl,rfl,sq ha4,a6,_,rfl,v6,R,ns,rfl,y6.1,y6.2,eR4,l1,okn,λnm2 H5 an2 s5=>?_⟩;refine⟨(by show 4<=sizeLine; decide),λw hw=>?_⟩;generalize v4%((ys.length:Int)+1+k)=kk at tk hw ⊢;have sw:=zD hw (.tup [.str "range",.int kk,.str nm,.str nm2]);rwa[q (.ref w) (.range kk nm nm2) _ (.of (s4.trans (s5.trans sw))) (jV zA) ⟨tk,an,an2⟩ trivial]
 exists _,U,U,_,rfl;erw[ifE (λz13=>?_) (λz13=>?_)]
 ·skip
  refine⟨_,U,a,_,_,_,U,U,sq ha4,a4,_,U,d,.ref r,U,.inl ⟨_,.inr "runs",lw4.at_,U,uR.symm⟩,r,ys,U,.inl (SqL.of (s4 _ _ er)),_,_,U,U,_,U,a,_,_,_,U,U,sq ha4,a5,_,_,U,U,(by show(0:Int)<9; decide),rfl,.inr ⟨_,rfl,_,_,rfl,rfl,?_⟩⟩;have k01:(0:Int)<=(if decide (V.int (v5%9)=V.int 1)=Ii then 1 else 0)/\(if decide (V.int (v5%9)=V.int 1)=Ii then(1:Int) else 0)<=1:=by split <;> decide
  generalize (if decide (V.int (v5%9)=V.int 1)=Ii then(1:Int) else 0)=k at k01 ⊢;have e0:=t9 v4 (show(ys.length:Int)+1+k≠0 by lia);have e1:=o6 v4 (show(0:Int)<(ys.length:Int)+1+k by lia);have tk:qY (v4%((ys.length:Int)+1+k)):=xV (by lia);refine⟨_,_,U,U,(by show(0:Int)<(ys.length:Int)+1+k; lia),_,rfl,_,rfl,a,_,_,_,rfl,rfl,sq ha4,a6,_,rfl,v6,R,ns,rfl,y6.1,y6.2,eR4,l1,okn,λnm2 H5 an2 s5=>?_⟩;refine⟨(by show 4<=sizeLine; decide),λw hw=>?_⟩;generalize v4%((ys.length:Int)+1+k)=kk at tk hw ⊢;have sw:=zD hw (.tup [.str "range",.int kk,.str nm,.str nm2]);rwa[q (.ref w) (.range kk nm nm2) _ (.of (s4.trans (s5.trans sw))) (jV zA) ⟨tk,an,an2⟩ trivial]
 ·refine⟨_,U,a,_,_,_,U,U,sq ha4,a4,_,U,d,.int S.coming,U,.inl ⟨_,.inr "next",lw4.at_,U,yq.symm⟩,_,_,U,U,_,_,U,U,(by show(0:Int)<S.coming+1; lia),sz2,λw hw=>?_⟩;have e0:=t9 v4 (show S.coming+1≠0 by lia);have e1:=o6 v4 (show(0:Int)<S.coming+1 by lia);have tk:qY (v4%(S.coming+1)):=xV (by lia);generalize v4%(S.coming+1)=kk at tk hw ⊢;have sw:=zD hw (.tup [.str "strike",.int kk]);rwa[q (.ref w) (.strike kk) _ (.of (s4.trans sw)) (cr zA) (tk) trivial]
def Tp(cs:List (Int×Int)):Prop:=Wb cs
def rV(_:b7):Sp:=λvs H Q _=>∃(c:b9)(ps:List Pr)(cs:List (Int×Int)),vs=[.ref c]/\H c=Ig (.tup (wM ps))/\Tj H cs ps/\Tp cs/\Q (.bl (iL cs)) H
def tz(F:Fun K "_law_round_enough" "_law_round_enough" wS f fd)(Z:Zs mg)(CB:Cb P w mg base)  : yX P w K mg base CX0 1 f fd ["_law_places"] (rV K):=by
 specialize tf
 ·obtain⟨c,ps,cs,rfl,_⟩:=h;rfl
 obtain⟨c,ps,cs,rfl,hc,cn,sd,q⟩:=h;obtain⟨a1,a2,a3,rfl,e⟩:=YW sd
 refine'⟨_,(zF (zM ?_)),?_⟩
 nofun
 obtain⟨pt,at_⟩:=cn
 match ps,pt with
 | [p1,p2,p3],pt =>
  simp only[l9,CQ,Ey,and_true] at pt;obtain⟨rfl,rfl,rfl⟩:=pt;rw[e] at q;have h1:=at_ p1 (.head _);have h3:=at_ p3 (.tail _ (.tail _ (.head _)));have cq:Sq K H c (wM [p1,p2,p3]):=.inr (SqT.of hc);exists _,U,c,_,U,.inr (SqT.of hc),U,_,rfl;erw[xO ?_];rwa[_,U,c,_,2,.ref p3.1,U,U,cq,U,p3.1,_,1,.int p3.2.2,U,U,.inr (SqT.of h3),U,_,U,c,_,0,.ref p1.1,U,U,cq,U,p1.1,_,1,.int p1.2.2,U,U,.inr (SqT.of h1),U,_,_,U,U,q]
def Wt:Deed->Prop
 | .bank _ cs=>Tp cs
 | .level _=>True
 | _=>False
def Wt.cases{D:Deed}(h:Wt D):(∃ n cs,D=.bank n cs/\Tp cs)\/∃ n,D=.level n:=by
 cases D <;> first | exact h.elim | exact .inl ⟨_,_,rfl,h⟩ | exact .inr ⟨_,rfl⟩
def ya(_:b7):Sp:=kP Wt
def nU(F:Fun K "_law_bank_word" "_law_bank_word" tL f fd)(Z:Zs mg)(CB:Cb P w mg base)(yAc:Has P w K mg base "_law_round_enough" 1 ["_law_places"] (rV K))(yCc:Has P w K mg base "_law_near" 1 ["_law_x","_law_y"] (vt K))(yBj:Has P w K mg base "_law_is_name" 1 ["_law_name"] (zx K)):yX P w K mg base CX0 2 f fd ["_law_m","_law_deed_here"] (ya K):=by
 specialize nX
 ·obtain⟨d,v,S,D,rfl,_⟩:=h;rfl
 obtain⟨d,v,S,D,rfl,⟨m,b,r,n,lw⟩,hv,tm,wl,mk,q⟩:=h;have say:∀(o:Option Cl)(H':Hp),zS S D=o->Sam H H'->Q (.str (oE o)) H':=λo H' e s=>e ▸ q _ s;obtain⟨bk',hbk,kb⟩:=lw.ba;have lbk:bk'.length=S.banks.length:=by rw[kb.length]; unfold bkE; rw[a7]
 refine'⟨_,(zC (zX ?_ (zF (zM (vB (qX (jA (zU hr) ?_ (zO (zU hr) (pv 0) zK (λ_ _=>rfl))) (by with_unfolding_all rfl)) zK zK))) zN)
   (zC (zX ?_ (zF (zM zK)) zN)
   (zC (zX (qX (jA (zU hr) ?_ (zO (zU hr) (pv 0) zK (λ_ _=>rfl))) (by with_unfolding_all rfl)) (zF (zM zK)) zN)
   (zC (zX (zj (yp (zR (sC rfl) rfl Z.all pZ (zB (uX (T:=["_law_x","_law_y"]) (caps:=[]) ⟨rfl,by ac_nf,by ac_nf,rfl,t7⟩ rfl (ap ?_) (λ_=>(zp rfl (yG (rT 0 (show(["_law_x","_law_y"]:List g8).Nodup by ac_nf)) (yG (rT 1 (show(["_law_x","_law_y"]:List g8).Nodup by ac_nf)) vZ)))) (λ_=>wH) (λ_=>?_)) zI)))) (zF (zM zK)) zN)
   (zC (zX ?_ (zF (zM zK)) zN)
   (zF (zM (vB (yI lP (zR vR rfl Z.len wZ (zB (zO (zU hr) (pv 0) zK (λ_ _=>rfl)) zI)) yL (yS _)) zK zK)))))))),?_⟩
 nofun
 rcases mk.cases with ⟨nm,cs,rfl,sd⟩ | ⟨nm,rfl⟩
 ·clear mk q;obtain⟨t,c,ps,rfl,ht,hc,cn,rc⟩:=nu hv;have tq:Sq K H t [.str "bank",.str nm,.ref c]:=.inr (SqT.of ht);exists _,U,t,_,0,.str "bank",U,U,tq,U,U,_,rfl;erw[yO ?_];erw[_,U,t,_,1,.str nm,U,U,tq,U,nm,U,tm.1,λbb H1 hb s1=>⟨_,U,?_⟩];cases bb with
  | false=>rwa[xO (say (Ig .badName) _ (by simp only[zS,y9 (sA hb rfl)]) (.of s1))]
  | true =>
  have j1:=e9.mpr (hb.mp rfl);erw[yO ?_];have hd1:=Rd.same lw.at_ s1;have hc1:=s1 _ _ hc;have tq1:Sq K H1 t [.str "bank",.str nm,.ref c]:=.inr (SqT.of (s1 _ _ ht));exists _,U,t,_,1,.str nm,U,U,tq1,U,_,U,d,.ref b,U,.inl ⟨_,.inr "banks",hd1,U,qC.symm⟩,b,_,U,.inl ⟨bk',.inr nm,Rd.same hbk s1,U,U⟩,_,rfl;have bn:=ud (n:=nm) kb;cases e:(wN bk' (.inr nm)).isSome with
  | true=>exact xO (say (Ig .taken) _ (by simp only[zS,y7 j1,y9 (show nm∈S.banks.map (·.1) from Cs λz=>by rw[bn.mpr z] at e; cases e)]) (.of s1))
  | false =>
  have j2:nm ∉ S.banks.map (·.1):=bn.mp (by cases h:wN bk' (.inr nm) <;> simp[h] at e ⊢);erw[yO ?_];erw[_,U,t,_,2,.ref c,U,U,tq1,U,c,U,⟨_,SqT.of hc1⟩,λcc D hD=>?_];have l3:ps.length<=12:=by have:=congrArg A3 cn.pt; rw[a7] at this; rw[this]; rwa[tm.2.1]
  refine jQ (K:=K) (a:=c) (xs:=wM ps) (λi σ zs H'=>Same H1 H'/\H' D=Ig (.lst zs)/\(∃ bs:List Bool,zs=bs.map V.bl/\bs.length=i/\(bs.all id=Ii↔∀ p∈ps.take i,qy p.2))/\∃ u0 u1:Option V,σ=[u0,u1])
   ⟨zD hD _,zA,⟨[],rfl,rfl,iff_of_true rfl λe he=>(nomatch he)⟩,Ih,Ih,rfl⟩ (λi σ zs H' _ ⟨sH,e,_⟩=>⟨SqT.of (sH _ _ hc1),e⟩) ?_ ?_
  ·rintro i v σ zs H' hi ⟨sH,eD,⟨bs,rfl,lb,ab⟩,u0,u1,rfl⟩;unfold wM at hi;rw[t5,d8,j7] at hi;obtain⟨pp,gp,rfl⟩:=hi;have hp:=cn.at_ pp (i8 gp);have hil:=(g9.mp gp).1;erw[_,_,U,SqT.of (sH _ _ (s1 _ _ hp)),U,_,_,U,_,_,U,U,_,U,_,U,pp.2.1,pp.2.2,U,λbb hb=>?_];erw[eD,zT (by rw[a7]; lia),sH.putNew hD,zA,⟨bs++[bb],by rw[j5]; rfl,by rw[f8,lb]; rfl,?_⟩,_,_,rfl];rw[EG,o8,ab,w5,gp,show [bb].all id=bb from by cases bb <;> rfl,hb];rwa[λh e' he'=>(m7.mp he').elim (h.1 e') λz=>by rw[d9.mp z]; exact h.2,λh=>⟨λe' z=>h e' (BI _ z),h pp (o0 _ (.head _))⟩]
  ·rintro σ zs H' ⟨sH,eD,⟨bs,rfl,lb,ab⟩,u0,u1,rfl⟩;have lr:(wM ps).length=ps.length:=xL ps;rw[lr,Al] at ab;have ab:bs.all id=Ii↔∀ c∈cs,qy c:=by
    rw[ab,<- cn.pt];exact⟨λh c hc=>let ⟨p,hp,e⟩:=i4.mp hc; e ▸ h p hp,λh p hp=>h _ (i4.mpr ⟨p,hp,rfl⟩)⟩
   have s1':=s1.trans sH;exists D,bs,U,SqL.of eD,_,rfl;cases hb:bs.all id with
   | false=>rwa[xO (say (Ig .badPlace) _ (by simp only[zS,y7 j1,y7 j2,y9 (sA ab hb)]) (.of s1'))]
   | true =>
   have j3:=e9.mpr (ab.mp hb);erw[yO ?_];have tq2:Sq K H' t [.str "bank",.str nm,.ref c]:=.inr (SqT.of (s1' _ _ ht));exists _,U,t,_,2,.ref c,U,U,tq2,U,c,ps,cs,U,s1' _ _ hc,⟨cn.pt,λt ht=>s1' _ _ (cn.at_ t ht)⟩,sd,_,rfl;cases hk:iL cs with
   | false=>rwa[xO (say (Ig .badBank) _ (by simp only[zS,y7 j1,y7 j2,y7 j3,y9 hk]) (.of s1'))]
   | true =>
   have j4:¬ iL cs=false:=by rw[hk]; rwa[Bool.noConfusion]
   erw[yO ?_];exists _,U,d,.ref b,U,.inl ⟨_,.inr "banks",Rd.same lw.at_ s1',U,qC.symm⟩,b,bk',U,Rd.same hbk s1',_,_,U,U,_,rfl;exact ifD (λz=>say (Ig .full) _ (by simp only[zS,y7 j1,y7 j2,y7 j3,y7 j4,y9 (show 8<=S.banks.length by lia)]) (.of s1')) (λz=>say Ih _ (by simp only[zS,y7 j1,y7 j2,y7 j3,y7 j4,y7 (show ¬ 8<=S.banks.length by lia)]) (.of s1'))
 ·clear mk q;obtain⟨t,rfl,ht⟩:=pI hv;have tq:Sq K H t [.str "level",.str nm]:=.inr (SqT.of ht);exists _,U,t,_,0,.str "level",U,U,tq,U,U,_,rfl;erw[xO ?_];exists _,U,t,_,1,.str nm,U,U,tq,U,_,U,d,.ref b,U,.inl ⟨_,.inr "banks",lw.at_,U,qC.symm⟩,b,_,U,.inl ⟨bk',.inr nm,hbk,U,U⟩,_,rfl;have bn:=ud (n:=nm) kb;cases e:(wN bk' (.inr nm)).isSome with
  | true=>exact xO (say Ih _ (by simp only[zS,y9 (show nm∈S.banks.map (·.1) from Cs λz=>by rw[bn.mpr z] at e; cases e)]) (.refl _))
  | false=>exact yO (say (Ig .noBank) _ (by simp only[zS,y7 (bn.mp (by cases h:wN bk' (.inr nm) <;> simp[h] at e ⊢))]) (.refl _))
def Vl:Deed->Prop
 | .bank _ cs=>Tp cs
 | _=>True
def jT(_:b7):Sp:=kP Vl
def Zz(F:Fun K "_law_word" "_law_word" pB f fd)(Z:Zs mg)(CB:Cb P w mg base)(yBa:Has P w K mg base "_law_note_word" 2 ["_law_m","_law_deed_here"] (xu K))(yBg:Has P w K mg base "_law_run_word" 2 ["_law_m","_law_deed_here"] (wk K))(yBe:Has P w K mg base "_law_bank_word" 2 ["_law_m","_law_deed_here"] (ya K))(yBb:Has P w K mg base "_law_mark_word" 2 ["_law_m","_law_deed_here"] (xw K)):yX P w K mg base CX0 3 f fd ["_law_m","_law_deed_here"] (jT K):=by
 specialize aL
 ·obtain⟨d,v,S,D,rfl,_⟩:=h;rfl
 obtain⟨d,v,S,D,rfl,lw,hv,tm,wl,mk,q⟩:=h;obtain⟨t,xs,rfl,ht⟩:=gy hv
 refine'⟨_,(zC (zX (yI rM ?_ ?_ (by with_unfolding_all rfl)) (zF (zM ?_)) zN)
   (zC (zX (yI rM ?_ ?_ (by with_unfolding_all rfl)) (zF (zM ?_)) zN)
   (zC (zX (yI rM ?_ ?_ (by with_unfolding_all rfl)) (zF (zM ?_)) zN)
   (zF (zM ?_))))),?_⟩
 nofun
 have sz:=Same.refl H;refine⟨_,U,t,_,0,.str (pV D),U,U,.inr (SqT.of (sz _ _ ht)),xU (xs:=.str (pV D)::xs) (j:=0) rfl,(by show 3<=sizeLine; decide),λz hz=>?_⟩
 replace sz:=sz.trans (zD hz (.tup [.str "mark",.str "move",.str "unmark"]))
 erw[z,_,U,.inr (SqT.of zA),U,U,_,U,VB (λz3a=>?_) (λz3a=>?_)]
 ·skip
  exact⟨_,U,_,U,d,.ref t,S,D,U,lw.to (.of sz),hv.to (.of sz),tm,wl,(by cases D <;> first | exact trivial | exact nomatch (show Ij=Ii from z3a)),λH' s'=>q H' ((yY.of sz).trans s')⟩
 refine⟨_,U,t,_,0,.str (pV D),U,U,.inr (SqT.of (sz _ _ ht)),xU (xs:=.str (pV D)::xs) (j:=0) rfl,(by show 2<=sizeLine; decide),λz hz=>?_⟩
 replace sz:=sz.trans (zD hz (.tup [.str "bank",.str "level"]))
 erw[z,_,U,.inr (SqT.of zA),U,U,_,U,VB (λz2b=>?_) (λz2b=>?_)]
 ·skip
  exact⟨_,U,_,U,d,.ref t,S,D,U,lw.to (.of sz),hv.to (.of sz),tm,wl,(by cases D <;> first | exact trivial | exact mk | exact nomatch (show Ij=Ii from z2b)),λH' s'=>q H' ((yY.of sz).trans s')⟩
 refine⟨_,U,t,_,0,.str (pV D),U,U,.inr (SqT.of (sz _ _ ht)),xU (xs:=.str (pV D)::xs) (j:=0) rfl,(by show 2<=sizeLine; decide),λz hz=>?_⟩
 replace sz:=sz.trans (zD hz (.tup [.str "sail",.str "right"]))
 erw[z,_,U,.inr (SqT.of zA),U,U,_,U,VB (λz2c=>?_) (λz2c=>?_)]
 ·skip
  exact⟨_,U,_,U,d,.ref t,S,D,U,lw.to (.of sz),hv.to (.of sz),tm,wl,(by cases D <;> first | exact trivial | exact nomatch (show Ij=Ii from z2c)),λH' s'=>q H' ((yY.of sz).trans s')⟩
 ·skip
  exact⟨_,U,_,U,d,.ref t,S,D,U,lw.to (.of sz),hv.to (.of sz),tm,wl,(by cases D <;> first | exact trivial | exact nomatch (show Ii=Ij from z3a) | exact nomatch (show Ii=Ij from z2b) | exact nomatch (show Ii=Ij from z2c)),λH' s'=>q H' ((yY.of sz).trans s')⟩
def numO(S:BS)(D:Deed):Option Cl->V
 | none=>gO S D
 | some _=>.non
def bD{S:BS}{D:Deed}(h:(aft S D).coming=S.coming):gO S D=.non:=by unfold gO; rw[y9 h.symm]
def aa{S:BS}{D:Deed}(h:(aft S D).coming=S.coming+1):gO S D=.int S.coming:=by unfold gO; rw[y7 (by lia)]
def Zp(c:Cl):fq c ≠ "" := by cases c <;> ac_nf
def eO(_:b7):Sp:=λvs H Q _=>∃(d:b9)(v:V)(S:BS)(D:Deed),vs=[.ref d,v]/\al H d S/\Rep H D.dt v/\qb D/\jS S/\Vl D/\∀(t:b9)(H':Hp),Sam H H'->H' t=Ig (.tup [.str (oE (zS S D)),numO S D (zS S D)])->Q (.ref t) H'
def Yi(F:Fun K "_law_due" "_law_due" kF f fd)(Z:Zs mg)(CB:Cb P w mg base)(yCa:Has P w K mg base "_law_word" 3 ["_law_m","_law_deed_here"] (jT K)):yX P w K mg base CX0 4 f fd ["_law_m","_law_deed_here"] (eO K):=by
 specialize eF
 ·obtain⟨d,v,S,D,rfl,_⟩:=h;rfl
 obtain⟨d,v,S,D,rfl,lw,hv,tm,wl,mk,q⟩:=h
 refine'⟨_,(zC (yE 2 eF.nd ?_)
   (zC (zX (PW.pt (mm ?_ (uj (yI rM ?_ ?_ (by with_unfolding_all rfl))))) (zF (zM (yW (zB zK (zB (zO (zU hr) (pv 0) zK (λ_ _=>rfl)) zI))))) zN)
   (zF (zM ?_)))),?_⟩
 nofun
 erw[_,U,_,U,d,v,S,D,U,lw,hv,tm,wl,mk,λH1 s1=>⟨_,U,U,_,U,?_⟩];have last:∀(H2:Hp),Sam H H2->numO S D (zS S D)=.non->2<=sizeLine/\∀ t:b9,H2 t=Ih->Q (.ref t) (upd H2 t (.tup [.str (oE (zS S D)),.non])):=λH2 s2 e=>⟨by decide,λt ht=>q t _ (s2.trans (.of (zD ht _))) (by rw[zA,e])⟩;cases hj:zS S D with
 | some c =>
  rw[hj] at last;rwa[Tf (Zp c) (yO ⟨_,rfl,last _ s1 rfl⟩)]
 | none =>
  rw[hj] at last q;erw[ifSt ?_];have hv1:=hv.to s1;obtain⟨t,xs,rfl,ht⟩:=gy hv1;erw[_,U,t,_,0,.str (pV D),U,U,.inr (SqT.of ht),xU (xs:=.str (pV D)::xs) (j:=0) rfl,sz2,λz1 hz1=>?_];have sz:=zD hz1 (.tup [.str "bearing",.str "range"]);have s2:=s1.trans (yY.of sz);erw[z1,_,U,.inr (SqT.of zA),U,U,_,U,VB (λz=>?_) (λz=>?_)]
  ·obtain⟨m,b,r,n,lw⟩:=lw;erw[_,U,d,.int S.coming,U,.inl ⟨_,.inr "next",s2.rd id lw.at_,U,yq.symm⟩,sz2,λtt htt=>?_];have e:(aft S D).coming=S.coming+1:=by cases D <;> first | rfl | exact nomatch (show Ij=Ii from z)
   exact q tt _ (s2.trans (.of (zD htt _))) (by rw[zA]; show _=Ig (HO.tup [_,gO S _]); rw[aa e]; rfl)
  ·exact⟨_,U,last _ s2 (bD (by cases D <;> first | rfl | exact nomatch (show Ii=Ij from z)))⟩
def jd(_:b7):Sp:=λvs H Q _=>∃(b dx:b9),vs=[.ref b]/\H b=Ig (.ins bkC dx []) /\
 ∀(p l:b9)(H':Hp),yY (λx=>x=b) H H'->H p=Ih->H l=Ih->BkL bkC H' b p l BS.nil [] []->Q .non H'
def cU(F:Fun K "__init__" "Book.__init__" pA f fd)(Z:Zs mg)(CB:Cb P w mg base)(yAl:Has P w K mg base "nothing_yet" 1 [] (qW K)):yX P w K mg base CX0 2 f fd ["self"] (jd K):=by
 specialize aV
 ·obtain⟨b,dx,rfl,_⟩:=h;rfl
 obtain⟨b,dx,rfl,hb,q⟩:=h
 refine'⟨_,(zC (uu CB.state (pv 0) (jx yAl (hr.mono (by decide)) rfl))
   (zC (uu CB.past (pv 0) ?_)
   (zF (uu CB.later (pv 0) ?_)))),?_⟩
 nofun
 refine⟨U,λd H1 s1 fd0 st=>?_⟩;have hb1:=s1 _ _ hb;exists _,U,b,dx,[],U,hb1,(by show 0<1000; decide);refine⟨sz0,λp hp=>?_⟩;have nbp:b≠p:=zH zA hp;exists _,U,b,dx,_,U,(by rw[zG nbp,zA]),(by show 1<1000; decide);refine⟨sz0,λl hl=>?_⟩;have nbl:b≠l:=zH zA hl;have npl:p≠l:=λz=>by
  rw[<- z,zG nbp.symm,zA] at hl;cases hl
 exists _,U,b,dx,_,U,(by rw[zG nbl,zA]),(by show 2<1000; decide);rw[Wf];have hp1:H1 p=none:=by rw[zG nbp.symm] at hp; rwa[hp]
 have hl1:H1 l=none:=by rw[zG nbl.symm,zG npl.symm,zG nbl.symm] at hl; rwa[hl]
 have sE:yY (λx=>x=b) H1 (upd (upd (upd (upd (upd H1 b (.ins bkC dx (pP "state" (.ref d) []))) p (.lst [])) b (.ins bkC dx (pP "past" (.ref p) (pP "state" (.ref d) [])))) l (.lst [])) b (.ins bkC dx (bkF d p l))):=λx o hx e=>by
  have n1:=zH e hp1;have n2:=zH e hl1;rw[zG hx,zG n2,zG hx,zG n1,zG hx];rwa[.inl e]
 have nd:∀ a kvs,Rd H1 a (.dK kvs)->¬ a=b:=λa kvs h z=>by
  subst z;rcases h with h | ⟨o,h⟩ <;> rw[hb1] at h <;> cases h
 have np:∀ a xs,H1 a=Ig (.tup xs)->¬ a=b:=λa xs h z=>by
  subst z;rw[hb1] at h;cases h
 erw[q p l _ ((yY.of s1).trans sE) (s1.free hp1) (s1.free hl1) ⟨dx,d,[],[],zA,st.samE sE nd np,?_,?_,rfl,rfl,npl.symm⟩]
 ·rw[zG nbp.symm,zG npl,zG nbp.symm,zA]
 ·rw[zG nbl.symm,zA]
def nL(_:b7):Sp:=λvs H Q _=>∃(b x y t dx d d0 p l:b9)(v:V)(xs ys:List V),vs=[.ref b,.ref x,.ref y]/\H b=Ig (.ins bkC dx (bkF d p l))/\H x=Ig (.lst (xs++[.ref t]))/\H y=Ig (.lst ys)/\x≠y/\H t=Ig (.tup [v,.ref d0])/\ys.length<=500 /\
 ∀ t',H t'=Ih->Q v (upd (upd (upd (upd H x (.lst xs)) t' (.tup [v,.ref d])) y (.lst (ys++[.ref t']))) b (.ins bkC dx (bkF d0 p l)))
def aT(F:Fun K "step" "Book.step" pf f fd)(Z:Zs mg)(CB:Cb P w mg base)  : yX P w K mg base CX0 1 f fd ["self","taken","given"] (nL K):=by
 specialize jO
 ·obtain⟨b,x,y,t,dx,d,d0,p,l,v,xs,ys,rfl,_⟩:=h;rfl
 obtain⟨b,x,y,t,dx,d,d0,p,l,v,xs,ys,rfl,hb,hx,hy,nxy,ht,hl,q⟩:=h
 refine'⟨_,(zC (yE 3 jO.nd (VT D7 PySem.F.slot_list_pop PySem.F.type_list_pop Uu (pv 1)))
   (zC (yC (mY (pv 2) (zB (yW (zB ?_ (zB (xX CB.state (pv 0)) zI))) zI)))
   (zC (uu CB.state (pv 0) ?_)
   (zF (zM ?_))))),?_⟩
 nofun
 have nbx:b≠x:=oA hb hx (λz=>nomatch z);have nby:b≠y:=oA hb hy (λz=>nomatch z);have ntx:t≠x:=oA ht hx (λz=>nomatch z);have nty:t≠y:=oA ht hy (λz=>nomatch z);have nbt:b≠t:=oA hb ht (λz=>nomatch z);erw[_,U,.inl ⟨U,_,SqL.of hx⟩,x,xs++[.ref t],.ref t,U,U,hx,by simp,?_];rw[List.dropLast_concat];have b1:upd H x (.lst xs) b=Ig (.ins bkC dx (bkF d p l)):=by rw[zG nbx]; rwa[hb]
 have y1:upd H x (.lst xs) y=Ig (.lst ys):=by rw[zG nxy.symm]; rwa[hy]
 have t1:upd H x (.lst xs) t=Ig (.tup [v,.ref d0]):=by rw[zG ntx]; rwa[ht]
 erw[_,U,.inl ⟨U,_,SqL.of y1⟩,_,U,t,_,0,v,U,U,.inr (SqT.of t1),U,_,U,b,dx,_,_,U,b1,rD,sz2,λt' ht'=>?_];have ntx':t'≠x:=λz=>by rw[z,zA] at ht'; cases ht'
 have hH:H t'=none:=by rw[zG ntx'] at ht'; rwa[ht']
 have s2:=zD ht' (.tup [v,.ref d]);have nyt:y≠t':=zH hy hH;have nbt':b≠t':=zH hb hH;have ntt:t≠t':=zH ht hH;exists y,ys,.ref t',U,U,s2 _ _ y1,zT (by lia);have t3:upd (upd (upd H x (.lst xs)) t' (.tup [v,.ref d])) y (.lst (ys++[.ref t'])) t=Ig (.tup [v,.ref d0]):=by rw[zG nty]; rwa[s2 _ _ t1]
 have b3:upd (upd (upd H x (.lst xs)) t' (.tup [v,.ref d])) y (.lst (ys++[.ref t'])) b=Ig (.ins bkC dx (bkF d p l)):=by rw[zG nby]; rwa[s2 _ _ b1]
 exists _,U,t,_,1,.ref d0,U,U,.inr (SqT.of t3),U,_,U,b,dx,_,U,b3,(by show 3<1000; decide);rw[rn];have t4:upd (upd (upd (upd H x (.lst xs)) t' (.tup [v,.ref d])) y (.lst (ys++[.ref t']))) b (.ins bkC dx (bkF d0 p l)) t=Ig (.tup [v,.ref d0]):=by rw[zG nbt.symm]; rwa[t3]
 rwa[_,U,t,_,0,v,U,U,.inr (SqT.of t4),U,q t' hH]
def ip(_:b7):Sp:=λvs H Q E=>∃(b p l:b9)(S:BS)(past later:List (Deed×BS)),vs=[.ref b]/\BkL bkC H b p l S past later/\later.length<=400/\past.length<=400 /\
 (∀(pre:List (Deed×BS))(D:Deed)(S0:BS),past=pre++[(D,S0)]->∀(v:V)(H':Hp),yY (Bl b p l) H H'->BkL bkC H' b p l S0 pre (later++[(D,S)])->Rep H' D.dt v->Q v H')/\(past=[]->∀ H',Sam H H'->E (.ref yM) Ih H')
def Zt(F:Fun K "undo" "Book.undo" pj f fd)(Z:Zs mg)(CB:Cb P w mg base)(h_b_step:jm P w K mg base lK 1 ["self","taken","given"] (nL K)):yX P w K mg base (CX1 P w) 2 f fd ["self"] (ip K):=by
 erw[F.okX bO (λvs H Q E h=>?_) (λcdv A outer s H vs Q E hr h=>?_)]
 ·obtain⟨b,p,l,S,past,later,rfl,_⟩:=h;rfl
 obtain⟨b,p,l,S,past0,later,rfl,⟨dx,d,ps,ls,k⟩,hl,hpl,q,bad⟩:=h;have no:∀{d l:b9}{m:g8},m = "step" ->(bkF d p l).lookup m=none:=λ{d l m} e=>by subst e; rwa[jf (by ac_nf) (by ac_nf) (by ac_nf)]
 refine'⟨_,(zC (zX (yI (XA hr.units0) (xX CB.past (pv 0)) ?_ (yS _)) (zF (xB (λ_=>E) CB.e_NothingLeft d5 (by decide) d5 xC (zB zK zI))) zN)
   (zF (PS.nox (zM (fZ CB.m_step h_b_step (hr.mono (by decide)) (pv 0) (zB (xX CB.past (pv 0)) (zB (xX CB.later (pv 0)) zI))))))),?_⟩
 nofun
 rcases ER past0 with rfl | ⟨past,⟨D,S0⟩,rfl⟩
 ·erw[_,U,b,dx,_,_,U,k.ob,ua,sz0,λe he=>?_];have s1:=zD he (.lst []);have K1:=k.to (.of s1);have z:ps=[]:=K1.pp;have pa2:=K1.pa;rw[z] at pa2;rwa[p,e,[],U,U,SqL.of pa2,SqL.of zA,_,U,xO ⟨sz1,bad rfl _ (.of s1)⟩]
 rw[ES] at k hpl q
 replace q:=q past D S0 rfl
 replace hpl:past.length<=400:=by rw[f8] at hpl; lia
 obtain⟨ys,t,d0,v,rfl,k1,k2,k3,k4⟩:=k.pp.split;have nlp:=k.ne;have nbp:b≠p:=oA k.ob k.pa (λz=>nomatch z);have nbl:b≠l:=oA k.ob k.la (λz=>nomatch z);erw[_,U,b,dx,_,_,U,k.ob,ua,sz0,λe he=>?_];have s1:=zD he (.lst []);have K1:=k.to (.of s1);obtain⟨rs,ers⟩:=K1.pp.refs;have pa2:=K1.pa;rw[ers] at pa2;exists p,e,rs,U,U,SqL.of pa2,SqL.of zA,_,rfl;have nrs:rs≠[]:=λz=>by rw[z] at ers; simp at ers
 have em:rs.isEmpty=false:=by
  cases rs with
  | nil=>rwa[x4 rfl nrs]
  | cons=>rfl
 rw[em];erw[yO ?_];erw[_,U,b,dx,_,U,K1.ob,no rfl,_,U,b,dx,_,_,U,K1.ob,ua,_,U,b,dx,_,_,U,K1.ob,wa,b,p,l,t,dx,d,d0,p,l,v,ys,ls,U,K1.ob,K1.pa,K1.la,nlp.symm,s1 _ _ k2,by rw[k.ll.len]; lia,λt' ht'=>?_];have ntp:t'≠p:=λz=>by rw[z,K1.pa] at ht'; cases ht'
 have ntl:l≠t':=zH K1.la ht';have ntb:b≠t':=zH K1.ob ht';have sE:yY (Bl b p l) (upd H e (.lst [])) (upd (upd (upd (upd (upd H e (.lst [])) p (.lst ys)) t' (.tup [v,.ref d])) l (.lst (ls++[.ref t']))) b (.ins bkC dx (bkF d0 p l))):=λx o hx h=>by
  have n1:x≠b:=λz=>hx (.inl z);have n2:x≠p:=λz=>hx (.inr (.inl z));have n3:x≠l:=λz=>hx (.inr (.inr z));rw[zG n1,zG n3,zG (zH h ht'),zG n2];rwa[.inl h]
 have nd:=Yr K1.ob K1.pa K1.la;have np:=aj K1.ob K1.pa K1.la;erw[q v _ ((yY.of s1).trans sE) ⟨dx,d0,ys,ls++[.ref t'],zA,(k4.to (.of s1)).samE sE nd np,?_,?_,(k1.samE (.of s1) (λ_ _ _=>id) (λ_ _ _=>id)).samE sE nd np,xJ.app ?_ ((k3.to (.of s1)).sam sE np) (K1.st.samE sE nd np) (K1.ll.samE sE nd np),nlp⟩ ((k3.to (.of s1)).sam sE np)]
 ·rw[zG nbp.symm,zG nlp.symm,zG ntp.symm,zA]
 ·rw[zG nbl.symm,zA]
 ·rw[zG ntb.symm,zG ntl.symm,zA]
def jh(_:b7):Sp:=λvs H Q E=>∃(b p l:b9)(S:BS)(past later:List (Deed×BS)),vs=[.ref b]/\BkL bkC H b p l S past later/\later.length<=400/\past.length<=400 /\
 (∀(pre:List (Deed×BS))(D:Deed)(S0:BS),later=pre++[(D,S0)]->∀(v:V)(H':Hp),yY (Bl b p l) H H'->BkL bkC H' b p l S0 (past++[(D,S)]) pre->Rep H' D.dt v->Q v H')/\(later=[]->∀ H',Sam H H'->E (.ref yM) Ih H')
def Zi(F:Fun K "redo" "Book.redo" pE f fd)(Z:Zs mg)(CB:Cb P w mg base)(h_b_step:jm P w K mg base lK 1 ["self","taken","given"] (nL K)):yX P w K mg base (CX1 P w) 2 f fd ["self"] (jh K):=by
 erw[F.okX Zh (λvs H Q E h=>?_) (λcdv A outer s H vs Q E hr h=>?_)]
 ·obtain⟨b,p,l,S,past,later,rfl,_⟩:=h;rfl
 obtain⟨b,p,l,S,past,later0,rfl,⟨dx,d,ps,ls,k⟩,hl,hpl,q,bad⟩:=h;have no:∀{d l:b9}{m:g8},m = "step" ->(bkF d p l).lookup m=none:=λ{d l m} e=>by subst e; rwa[jf (by ac_nf) (by ac_nf) (by ac_nf)]
 refine'⟨_,(zC (zX (yI (XA hr.units0) (xX CB.later (pv 0)) ?_ (yS _)) (zF (xB (λ_=>E) CB.e_NothingLeft d5 (by decide) d5 xC (zB zK zI))) zN)
   (zF (PS.nox (zM (fZ CB.m_step h_b_step (hr.mono (by decide)) (pv 0) (zB (xX CB.later (pv 0)) (zB (xX CB.past (pv 0)) zI))))))),?_⟩
 nofun
 rcases ER later0 with rfl | ⟨later,⟨D,S0⟩,rfl⟩
 ·erw[_,U,b,dx,_,_,U,k.ob,wa,sz0,λe he=>?_];have s1:=zD he (.lst []);have K1:=k.to (.of s1);have z:ls=[]:=K1.ll;have pa2:=K1.la;rw[z] at pa2;rwa[l,e,[],U,U,SqL.of pa2,SqL.of zA,_,U,xO ⟨sz1,bad rfl _ (.of s1)⟩]
 rw[ES] at k hl q
 replace q:=q later D S0 rfl
 replace hl:later.length<=400:=by rw[f8] at hl; lia
 obtain⟨ys,t,d0,v,rfl,k1,k2,k3,k4⟩:=k.ll.split;have nlp:=k.ne;have nbp:b≠p:=oA k.ob k.pa (λz=>nomatch z);have nbl:b≠l:=oA k.ob k.la (λz=>nomatch z);erw[_,U,b,dx,_,_,U,k.ob,wa,sz0,λe he=>?_];have s1:=zD he (.lst []);have K1:=k.to (.of s1);obtain⟨rs,ers⟩:=K1.ll.refs;have pa2:=K1.la;rw[ers] at pa2;exists l,e,rs,U,U,SqL.of pa2,SqL.of zA,_,rfl;have nrs:rs≠[]:=λz=>by rw[z] at ers; simp at ers
 have em:rs.isEmpty=false:=by
  cases rs with
  | nil=>rwa[x4 rfl nrs]
  | cons=>rfl
 rw[em];erw[yO ?_];erw[_,U,b,dx,_,U,K1.ob,no rfl,_,U,b,dx,_,_,U,K1.ob,wa,_,U,b,dx,_,_,U,K1.ob,ua,b,l,p,t,dx,d,d0,p,l,v,ys,ps,U,K1.ob,K1.la,K1.pa,nlp,s1 _ _ k2,by rw[k.pp.len]; lia,λt' ht'=>?_];have ntl:t'≠l:=λz=>by rw[z,K1.la] at ht'; cases ht'
 have ntp:p≠t':=zH K1.pa ht';have ntb:b≠t':=zH K1.ob ht';have sE:yY (Bl b p l) (upd H e (.lst [])) (upd (upd (upd (upd (upd H e (.lst [])) l (.lst ys)) t' (.tup [v,.ref d])) p (.lst (ps++[.ref t']))) b (.ins bkC dx (bkF d0 p l))):=λx o hx h=>by
  have n1:x≠b:=λz=>hx (.inl z);have n2:x≠p:=λz=>hx (.inr (.inl z));have n3:x≠l:=λz=>hx (.inr (.inr z));rw[zG n1,zG n2,zG (zH h ht'),zG n3];rwa[.inl h]
 have nd:=Yr K1.ob K1.pa K1.la;have np:=aj K1.ob K1.pa K1.la;erw[q v _ ((yY.of s1).trans sE) ⟨dx,d0,ps++[.ref t'],ys,zA,(k4.to (.of s1)).samE sE nd np,?_,?_,xJ.app ?_ ((k3.to (.of s1)).sam sE np) (K1.st.samE sE nd np) (K1.pp.samE sE nd np),(k1.samE (.of s1) (λ_ _ _=>id) (λ_ _ _=>id)).samE sE nd np,nlp⟩ ((k3.to (.of s1)).sam sE np)]
 ·rw[zG nbp.symm,zA]
 ·rw[zG nbl.symm,zG nlp,zG ntl.symm,zA]
 ·rw[zG ntb.symm,zG ntp.symm,zA]
def oR(_:b7):Sp:=λvs H Q _=>∃(b p l:b9)(w:Int)(S:BS)(past later:List (Deed×BS)),vs=[.ref b,.int w]/\BkL bkC H b p l S past later/\later.length<=400/\past.length<=400/\(w=0\/w=1) /\
 (w=0->∀(pre:List (Deed×BS))(D:Deed)(S0:BS),past=pre++[(D,S0)]->∀(t:b9)(v:V)(H':Hp),yY (Bl b p l) H H'->BkL bkC H' b p l S0 pre (later++[(D,S)])->Rep H' D.dt v->H' t=Ig (.tup [.str "",v])->Q (.ref t) H') /\
 (w=1->∀(pre:List (Deed×BS))(D:Deed)(S0:BS),later=pre++[(D,S0)]->∀(t:b9)(v:V)(H':Hp),yY (Bl b p l) H H'->BkL bkC H' b p l S0 (past++[(D,S)]) pre->Rep H' D.dt v->H' t=Ig (.tup [.str "",v])->Q (.ref t) H') /\
 ((w=0->past=[])->(w=1->later=[])->∀(t:b9)(H':Hp),Sam H H'->H' t=Ig (.tup [.str "NothingLeft",.non])->Q (.ref t) H')
def aW(F:Fun K "_law_went" "_law_went" ph f fd)(Z:Zs mg)(CB:Cb P w mg base)(h_b_undo:ce P w K mg base fh 2 ["self"] (ip K))(h_b_redo:ce P w K mg base gq 2 ["self"] (jh K))(yBk:Ti P w K mg base "_law_refused" 1 ["_law_e"] (zw K)):yX P w K mg base CX0 3 f fd ["_law_book","_law_way_here"] (oR K):=by
 specialize kU
 ·obtain⟨b,p,l,w,S,past,later,rfl,_⟩:=h;rfl
 obtain⟨b,p,l,w,S,past,later,rfl,bk,ll,lp,hw,q1,q2,q3⟩:=h;obtain⟨dx,d,ps,ls,k⟩:=id bk;have no:∀{d l:b9}{m:g8},m = "undo" \/ m = "redo" ->(bkF d p l).lookup m=none:=λ{d l m} e=>by rcases e with e | e <;> subst e <;> rwa[jf (by ac_nf) (by ac_nf) (by ac_nf)]
 refine'⟨_,(zF (Xo (i:=2) (λ_ EE=>(zF (zM (yW (zB zK (zB (vB ?_ (hG EE CB.m_undo h_b_undo lZ (hr.mono (by decide)) (pv 0)) (hG EE CB.m_redo h_b_redo lZ (hr.mono (by decide)) (pv 0))) zI)))))) CB.gMarkError kU.nd rfl rfl (λ_=>(zF (zM (yW (zB (fU yBk (hr.mono (by decide)) rfl (zB (pv 2) zI)) (zB eh zI)))))))),?_⟩
 nofun
 rcases hw with rfl | rfl
 ·erw[_,U,U,_,U,xO ?_];erw[_,U,b,dx,_,U,k.ob,no (.inl rfl),b,p,l,S,past,later,U,bk,ll,lp,λpre D S0 e v H1 s1 bk1 rv=>?_,λe H1 s1=>?_]
  ·erw[sz2,λt ht=>?_];have st:=zD ht (.tup [.str "",v]);rwa[q1 rfl pre D S0 e t v _ (s1.trans (.of st)) (bk1.to (.of st)) (rv.to (.of st)) zA]
  ·skip
   erw[CB.t_NothingLeft_MarkError,λea he=>?_];have se:=zD he (Zk ea (.ref yM));erw[_,U,Ih,U,zA,λH2 s2=>⟨sz2,λt ht=>?_⟩];have st:=zD ht (.tup [.str "NothingLeft",.non]);exact q3 (λ_=>e) (λz=>nomatch z) t _ (s1.trans (.of ((se.trans s2).trans st))) zA
 ·erw[_,U,U,_,U,yO ?_];erw[_,U,b,dx,_,U,k.ob,no (.inr rfl),b,p,l,S,past,later,U,bk,ll,lp,λpre D S0 e v H1 s1 bk1 rv=>?_,λe H1 s1=>?_]
  ·erw[sz2,λt ht=>?_];have st:=zD ht (.tup [.str "",v]);rwa[q2 rfl pre D S0 e t v _ (s1.trans (.of st)) (bk1.to (.of st)) (rv.to (.of st)) zA]
  ·skip
   erw[CB.t_NothingLeft_MarkError,λea he=>?_];have se:=zD he (Zk ea (.ref yM));erw[_,U,Ih,U,zA,λH2 s2=>⟨sz2,λt ht=>?_⟩];have st:=zD ht (.tup [.str "NothingLeft",.non]);exact q3 (λz=>nomatch z) (λ_=>e) t _ (s1.trans (.of ((se.trans s2).trans st))) zA
def uc(_:b7):Sp:=λvs H Q _=>∃(b p:b9)(S:BS)(past later:List (Deed×BS)),vs=[.ref b]/\hV bkC H b p S past later/\past.length<=500 /\
 ∀(g:b9)(xs:List V)(H':Hp),Same H H'->H g=Ih->H' g=Ig (.lst xs)->xK H' (past.map (·.1.dt)) xs->Q (.ref g) H'
def cJ(F:Fun K "deeds" "Book.deeds" vc f fd)(Z:Zs mg)(CB:Cb P w mg base)  : yX P w K mg base CX0 1 f fd ["self"] (uc K):=by
 specialize cg
 ·obtain⟨b,p,S,past,later,rfl,_⟩:=h;rfl
 obtain⟨b,p,S,past,later,rfl,⟨dx,d,l,ps,ls,k⟩,hl,q⟩:=h
 refine'⟨_,(zF (zM (uX (T:=["pair"]) (caps:=[]) ⟨rfl,by ac_nf,by ac_nf,rfl,t7⟩ rfl (fV (xX CB.past (pv 0))) (λ_=>(rT 0 (show(["pair"]:List g8).Nodup by ac_nf))) (λ_=>wH) (λ_=>?_)))),?_⟩
 nofun
 have lp:=k.pp.len;refine⟨_,U,b,dx,_,_,U,k.ob,ua,p,U,.inl ⟨⟨_,SqL.of k.pa⟩,λc g hg=>?_⟩⟩;refine mU (K:=K) (a:=p) (xs:=ps) (λi σ zs H'=>Same H H'/\H' g=Ig (.lst zs)/\zs.length<=i/\xK H' ((past.take i).map (·.1.dt)) zs/\∃ u:Option V,σ=[u])
  ⟨zD hg _,zA,d6 _,zY.mpr rfl,Ih,rfl⟩ (λi σ zs H' _ ⟨sH,e,_⟩=>⟨SqL.of (sH _ _ k.pa),e⟩) ?_ ?_
 ·rintro i x σ zs H' hi ⟨sH,eg,lz,rz,u,rfl⟩;have il:=(g9.mp hi).1;obtain⟨e,t,d',v,ge,rfl,ht,rv⟩:=(k.pp).get hi;erw[_,U,t,_,0,v,U,U,.inr (SqT.of (sH _ _ ht)),U,eg,zT (by lia),sH.putNew hg,zA,by rw[f8]; simp only[m9,Am]; lia,?_,_,rfl];have sE:=vV (o:=.lst (zs++[v])) eg;have np:=io eg;rw[w5,ge,j5];exact(xK.app rz (.one (rv.to (.of sH)))).sam sE np
 ·rintro σ zs H' ⟨sH,eg,lz,rz,u,rfl⟩;rw[lp,Al] at rz;rwa[q g zs H' sH hg eg rz]
def xo(_:b7):Sp:=λvs H Q _=>∃(b p:b9)(S:BS)(past later:List (Deed×BS)),vs=[.ref b]/\hV bkC H b p S past later/\later.length<=500 /\
 ∀(g:b9)(xs:List V)(H':Hp),Same H H'->H g=Ih->H' g=Ig (.lst xs)->xK H' (later.reverse.map (·.1.dt)) xs->Q (.ref g) H'
def gg(F:Fun K "undone" "Book.undone" ym f fd)(Z:Zs mg)(CB:Cb P w mg base)  : yX P w K mg base CX0 1 f fd ["self"] (xo K):=by
 specialize gE
 ·obtain⟨b,p,S,past,later,rfl,_⟩:=h;rfl
 obtain⟨b,p,S,past,later,rfl,⟨dx,d,l,ps,ls,k⟩,hl,q⟩:=h
 refine'⟨_,(zF (zM (uX (T:=["pair"]) (caps:=[]) ⟨rfl,by ac_nf,by ac_nf,rfl,t7⟩ rfl (UP rfl Z.reversed (zB (xX CB.later (pv 0)) zI)) (λ_=>(rT 0 (show(["pair"]:List g8).Nodup by ac_nf))) (λ_=>wH) (λ_=>?_)))),?_⟩
 nofun
 have lp:=k.ll.len;refine⟨_,U,b,dx,_,_,U,k.ob,wa,l,ls,U,SqL.of k.la,λc g hg=>?_⟩;refine lv (φ:=λH=>SqL K H l ls) (xs:=ls.reverse) (λi σ zs H'=>Same H H'/\H' g=Ig (.lst zs)/\zs.length<=i/\xK H' ((later.reverse.take i).map (·.1.dt)) zs/\∃ u:Option V,σ=[u])
  ⟨zD hg _,zA,d6 _,zY.mpr rfl,Ih,rfl⟩ (λi σ zs H' ⟨sH,e,_⟩=>⟨SqL.of (sH _ _ k.la),e⟩) ?_ ?_
 ·rintro i x σ zs H' hi ⟨sH,eg,lz,rz,u,rfl⟩;have il:=(g9.mp hi).1;rw[x8] at il;rw[CW il] at hi;obtain⟨e,t,d',v,ge,rfl,ht,rv⟩:=(k.ll).get hi;have ge':later.reverse[i]?=Ig e:=by rw[CW (by lia),<- lp]; rwa[ge]
  erw[_,U,t,_,0,v,U,U,.inr (SqT.of (sH _ _ ht)),U,eg,zT (by lia),sH.putNew hg,zA,by rw[f8]; simp only[m9,Am]; lia,?_,_,rfl];have sE:=vV (o:=.lst (zs++[v])) eg;have np:=io eg;rw[w5,ge',j5];exact(xK.app rz (.one (rv.to (.of sH)))).sam sE np
 ·rintro σ zs H' ⟨sH,eg,lz,rz,u,rfl⟩;rw[x8,lp,<- x8,Al] at rz;rwa[q g zs H' sH hg eg rz]
def mP(_:b7):Sp:=λvs H Q _=>∃(b p:b9)(S:BS)(past later:List (Deed×BS)),vs=[.ref b]/\hV bkC H b p S past later/\pi S /\
 ∀(c:b9)(zs:List V)(H':Hp),Same H H'->H' c=Ig (.lst zs)->xK H' (cf S) zs->Q (.ref c) H'
def cm(F:Fun K "marks" "Book.marks" wy f fd)(Z:Zs mg)(CB:Cb P w mg base)  : yX P w K mg base CX0 1 f fd ["self"] (mP K):=by
 specialize mT
 ·obtain⟨b,p,S,past,later,rfl,_⟩:=h;rfl
 obtain⟨b,p,S,past,later,rfl,⟨dx,d,l,ps,ls,k⟩,nt,q⟩:=h;obtain⟨m,bk,r,n,st⟩:=k.st;obtain⟨kvs,hm,kv⟩:=id st.ma;have fm:=nt.well.good.few.ma;refine⟨_,(zC (qT (i:=1) mT.nd rfl (F8 rfl) (zO (zU hr) (xX CB.state (pv 0)) zK (λ_ _=>rfl)))
   (zF (zM (uX (T:=["name"]) (caps:=[("places",1)]) ⟨rfl,by ac_nf,by ac_nf,rfl,⟨⟨rfl,rfl,A4 rfl⟩,t7⟩⟩ rfl (fV (zR jE rfl Z.sorted vX (zB (xP (sg rfl) rfl Z.list xb (zB (pv 1) zI)) zI))) (λ_=>(qO (i:=0) (show(["name","places"]:List g8).Nodup by ac_nf) rfl (A4 rfl))) (λ_=>wH) (λ_=>(yW (zB (pv 0) (zB (gb jL (zO (zU hr) (pv 1) (pv 0) (λ_ _=>rfl)) yL (λ_ _=>rfl)) (zB (gb jL (zO (zU hr) (pv 1) (pv 0) (λ_ _=>rfl)) yL (λ_ _=>rfl)) zI))))))))),?_⟩
 try dsimp only[L2.cxOf]
 refine⟨_,U,b,dx,_,_,U,k.ob,rD,d,.ref m,U,.inl ⟨_,.inr "marks",st.at_,U,tQ.symm⟩,_,U,m,kvs,U,hm,λg hg=>?_⟩;rw[lq kv];have s1:=zD hg (.lst ((S.marks.map (·.1)).map V.str));refine⟨g,_,U,SqL.of zA,(by rw[a7]; lia),λt ht=>?_⟩;rw[vg];obtain⟨ms,hms⟩:∃ ms,ms=vT (tR ((S.marks.map (·.1)).map .inr)) S.marks:=⟨_,rfl⟩;rw[<- hms];have lm:ms.length<=60:=by
  have:=iu (S:=S);unfold cf at this;rw[<- hms,a7] at this;lia
 have s2:=s1.trans (zD ht (.lst ((ms.map (·.1)).map V.str)));refine⟨t,U,.inl ⟨⟨_,SqL.of zA⟩,λcc D hD=>?_⟩⟩;refine mU (K:=K) (a:=t) (xs:=(ms.map (·.1)).map V.str) (λi σ zs H'=>Same (upd (upd H g (.lst ((S.marks.map (·.1)).map V.str))) t (.lst ((ms.map (·.1)).map V.str))) H'/\H' D=Ig (.lst zs)/\xK H' ((ms.take i).map mkD) zs/\zs.length=i/\∃ u:Option V,σ=[u,Ig (.ref m)])
  ⟨zD hD _,zA,zY.mpr rfl,rfl,Ih,rfl⟩ (λi σ zs H' _ hq=>⟨SqL.of (hq.1 _ _ zA),hq.2.1⟩) ?_ ?_
 ·rintro i x σ zs H' hi ⟨sH,eD,rp,lz,u,rfl⟩;rw[t5,d8,j7] at hi;obtain⟨e,hx,rfl⟩:=hi;have me:e∈S.marks:=oq (by rw[<- hms]; rwa[i8 hx]);have hil:=(g9.mp hx).1;obtain⟨kv',a,g1,g2,g3⟩:=oJ (st.ma.to (.of (s2.trans sH))) (show zQ S e.1=Ig e.2 from sk nt.nm me);have dg:Yk H' m (.str e.1) (Ig (.ref a)):=.inl ⟨kv',.inr e.1,g1,rfl,g2.symm⟩;exists _,U,_,U,_,U,m,.ref a,U,dg;erw[a,_,0,.int e.2.1,U,U,.inr (SqT.of g3),U,_,U,_,U,m,.ref a,U,dg,a,_,1,.int e.2.2,U,U,.inr (SqT.of g3),U,sz3,λt3 ht3=>?_];have s4:=zD ht3 (.tup [.str e.1,.int e.2.1,.int e.2.2]);have eD4:=s4 _ _ eD;erw[eD4,zT (by lia),(sH.trans s4).putNew hD,zA,?_,by rw[f8,lz]; rfl,_,rfl];rw[w5,hx,j5];refine(xK.app (rp.to (.of s4)) (.one (yF.mpr ⟨t3,_,rfl,zA,zL.mpr ⟨_,_,rfl,zW.mpr rfl,.two (yB.mpr rfl) (yB.mpr rfl)⟩⟩))).sam (vV eD4) (io eD4)
 ·rintro σ zs H' ⟨sH,eD,rp,_,u,rfl⟩;rw[a7,a7,Al,hms] at rp;rwa[q D zs H' (s2.trans sH) eD rp]
def mn(_:b7):Sp:=λvs H Q _=>∃(b p:b9)(S:BS)(past later:List (Deed×BS)),vs=[.ref b]/\hV bkC H b p S past later/\pi S /\
 ∀(c:b9)(zs:List V)(H':Hp),Same H H'->H' c=Ig (.lst zs)->xK H' (jW (bkE S.banks)) zs->Q (.ref c) H'
def cz(F:Fun K "banks" "Book.banks" ve f fd)(Z:Zs mg)(CB:Cb P w mg base)  : yX P w K mg base CX0 1 f fd ["self"] (mn K):=by
 specialize cH
 ·obtain⟨b,p,S,past,later,rfl,_⟩:=h;rfl
 obtain⟨b,p,S,past,later,rfl,⟨dx,d,l,ps,ls,k⟩,nt,q⟩:=h;obtain⟨m,bk,r,n,st⟩:=k.st;obtain⟨kvs,hb,kv⟩:=st.ba;have lk:kvs.length=S.banks.length:=by rw[kv.length]; unfold bkE; rw[a7]
 exists _,(zF (zM (zR (qz rfl) rfl Z.sorted vX (zB (pb (zO (zU hr) (xX CB.state (pv 0)) zK (λ_ _=>rfl))) zI))))
 try dsimp only[L2.cxOf]
 erw[_,U,b,dx,_,_,U,k.ob,rD,d,.ref bk,U,.inl ⟨_,.inr "banks",st.at_,U,yj.symm⟩,bk,_,U,hb,λv hv=>?_];have s1:=zD hv (.ext (xt v bk));refine⟨v,bk,kvs,U,zA,Rd.same hb s1,(by have:=nt.well.good.few.ba; lia),(by rw[kv.keys]; rwa[nt.oneB]),(by rw[kv.keys]; rwa[nt.ndB]),λc as H' s2 hc hl e2 ha=>?_⟩;rw[kv.keys] at e2;rwa[q c _ H' (s1.trans s2) e2 (zf (kv.to (.of (s1.trans s2))) hl (λj a e h1 h2=>(ha j a e h1 h2).2) _)]
def jI(_:b7):Sp:=λvs H Q _=>∃(b p:b9)(S:BS)(past later:List (Deed×BS)),vs=[.ref b]/\hV bkC H b p S past later/\Few S /\
 ∀(c:b9)(xs:List V)(H':Hp),Same H H'->H c=Ih->H' c=Ig (.lst xs)->xK H' (S.runs.map ptD) xs->Q (.ref c) H'
def Zn(F:Fun K "runs" "Book.runs" pQ f fd)(Z:Zs mg)(CB:Cb P w mg base)  : yX P w K mg base CX0 1 f fd ["self"] (jI K):=by
 specialize iE
 ·obtain⟨b,p,S,past,later,rfl,_⟩:=h;rfl
 obtain⟨b,p,S,past,later,rfl,⟨dx,d,l,ps,ls,k⟩,few,q⟩:=h;obtain⟨m,bk,r,n,st⟩:=k.st;obtain⟨kvs,hr1,kv⟩:=id st.ru;have lr:kvs.length=S.runs.length:=by rw[kv.length,xj]
 refine⟨_,(zC (qT (i:=1) iE.nd rfl (F8 rfl) (zO (zU hr) (xX CB.state (pv 0)) zK (λ_ _=>rfl)))
   (zF (zM (uX (T:=["number"]) (caps:=[("runs",1)]) ⟨rfl,by ac_nf,by ac_nf,rfl,⟨⟨rfl,rfl,A4 rfl⟩,t7⟩⟩ rfl (sU rfl Z.range (zB (zR vR rfl Z.len wZ (zB (pv 1) zI)) zI)) (λ_=>(qO (i:=0) (show(["number","runs"]:List g8).Nodup by ac_nf) rfl (A4 rfl))) (λ_=>wH) (λ_=>(zO (zU hr) (pv 1) (pv 0) (λ_ _=>rfl))))))),?_⟩
 try dsimp only[L2.cxOf]
 exists _,U,b,dx,_,_,U,k.ob,rD,d,.ref r,U,.inl ⟨_,.inr "runs",st.at_,U,rG.symm⟩,_,U,r,kvs,U,hr1;refine⟨_,U,(by have:=few.ru; lia),(by have:=few.ru; lia),λcc D hD=>xk (lo:=0) (n:=(kvs.length:Int).toNat) (λi σ ys H'=>Same H H'/\H' D=Ig (.lst ys)/\xK H' ((S.runs.take i).map ptD) ys/\∃ u:Option V,σ=[u,Ig (.ref r)])
  ⟨zD hD _,zA,zY.mpr rfl,Ih,rfl⟩ (λi σ ys H' _ hq=>hq.2.1) ?_ ?_⟩
 ·rintro i σ ys H' hi ⟨sH,eD,rp,u,rfl⟩;have hi':i<S.runs.length:=by lia
  have gi:S.runs[i]?=Ig S.runs[i]:=d3 hi';obtain⟨kv',a,g1,g2,g3⟩:=Yb (st.ru.to (.of sH)) gi;refine⟨_,U,_,U,r,.ref a,U,.inl ⟨kv',.inl (i:Int),g1,by rw[HK]; rfl,g2.symm⟩,eD,zT (by rw[rp.length,a7,i9]; have:=few.ru; lia),sH.putNew hD,zA,?_,_,rfl⟩;rw[w5,gi,j5];have sE:yY (λx=>x=D) H' (upd H' D (.lst (ys++[.ref a]))):=λx o hx e=>.inl (by rw[zG hx]; rwa[e]);have np:∀ b xs,H' b=Ig (.tup xs)->¬ b=D:=λb xs e z=>by rw[z,eD] at e; cases e
  rwa[xK.app (rp.sam sE np) (.one ((vQ g3).sam sE np))]
 ·rintro σ ys H' ⟨sH,eD,rp,u,rfl⟩;rw[show(kvs.length:Int).toNat=S.runs.length by lia,Al] at rp;rwa[q D ys H' sH hD eD rp]
def mE(_:b7):Sp:=λvs H Q _=>∃(b p:b9)(S:BS)(past later:List (Deed×BS)),vs=[.ref b]/\hV bkC H b p S past later/\pi S /\
 ∀(c:b9)(zs:List V)(H':Hp),Same H H'->H' c=Ig (.lst zs)->xK H' (jW (ntE S.notes)) zs->Q (.ref c) H'
def cB(F:Fun K "notes" "Book.notes" wm f fd)(Z:Zs mg)(CB:Cb P w mg base)  : yX P w K mg base CX0 1 f fd ["self"] (mE K):=by
 specialize cw
 ·obtain⟨b,p,S,past,later,rfl,_⟩:=h;rfl
 obtain⟨b,p,S,past,later,rfl,⟨dx,d,l,ps,ls,k⟩,nt,q⟩:=h;obtain⟨m,bk,r,n,st⟩:=k.st;obtain⟨kvs,hb,kv⟩:=st.no;have lk:kvs.length=S.notes.length:=by rw[kv.length]; unfold ntE; rw[a7]
 exists _,(zF (zM (zR (qz rfl) rfl Z.sorted vX (zB (pb (zO (zU hr) (xX CB.state (pv 0)) zK (λ_ _=>rfl))) zI))))
 try dsimp only[L2.cxOf]
 erw[_,U,b,dx,_,_,U,k.ob,rD,d,.ref n,U,.inl ⟨_,.inr "notes",st.at_,U,qH.symm⟩,n,_,U,hb,λv hv=>?_];have s1:=zD hv (.ext (xt v n));refine⟨v,n,kvs,U,zA,Rd.same hb s1,(by have:=nt.well.good.few.no; lia),(by rw[kv.keys]; rwa[nt.oneN]),(by rw[kv.keys]; rwa[nt.ndN]),λc as H' s2 hc hl e2 ha=>?_⟩;rw[kv.keys] at e2;rwa[q c _ H' (s1.trans s2) e2 (zf (kv.to (.of (s1.trans s2))) hl (λj a e h1 h2=>(ha j a e h1 h2).2) _)]
def xi(_:b7):Sp:=λvs H Q _=>∃(b p:b9)(S:BS)(past later:List (Deed×BS)),vs=[.ref b]/\hV bkC H b p S past later/\Q (.int S.coming) H
def gF(F:Fun K "coming" "Book.coming" yh f fd)(Z:Zs mg)(CB:Cb P w mg base)  : yX P w K mg base CX0 1 f fd ["self"] (xi K):=by
 specialize gJ
 ·obtain⟨b,p,S,past,later,rfl,_⟩:=h;rfl
 obtain⟨b,p,S,past,later,rfl,⟨dx,d,l,ps,ls,k⟩,q⟩:=h;obtain⟨m,bk,r,n,st⟩:=k.st;exists _,(zF (zM (zO (zU hr) (xX CB.state (pv 0)) zK (λ_ _=>rfl))))
 try dsimp only[L2.cxOf]
 rwa[_,U,b,dx,_,_,U,k.ob,rD,d,.int S.coming,U,.inl ⟨_,.inr "coming",st.at_,U,oZ.symm⟩,q]
def iq{H:Hp} : ∀(n:Nat)(d:Dt){x y:V},dep n d->Rep H d x->Rep H d y->DR H n x y
 | n,.int i,x,y,_,h1,h2=>by rw[yB.mp h1,yB.mp h2]; rwa[DR.int rfl]
 | n,.str z,x,y,_,h1,h2=>by rw[zW.mp h1,zW.mp h2]; rwa[DR.str rfl]
 | 0,.tup _,_,_,h,_,_=>h.elim
 | n+1,.tup l,x,y,h,h1,h2=>by
  obtain⟨a,xs,rfl,ha,ra⟩:=yF.mp h1;obtain⟨b,ys,rfl,hb,rb⟩:=yF.mp h2;have hl:l.length<=900:=h.1;erw[.inr ⟨a,b,xs,ys,Ij,rfl,rfl,ha,hb,by rw[ra.length,rb.length],by rw[ra.length]; lia,λi u v g1 g2=>?_⟩];obtain⟨d,e1,r1⟩:=ra.back g1;obtain⟨d',e2,r2⟩:=rb.back g2;rw[e1] at e2;cases e2;rwa[iq n d (h.2 d (i8 e1)) r1 r2]
def um{H:Hp}{n:Nat}{l:List Dt}{a b:b9}{xs ys:List V}(h:∀ d∈l,dep n d)(hl:l.length<=900)(ha:H a=Ig (.lst xs))(hb:H b=Ig (.lst ys))(ra:xK H l xs)(rb:xK H l ys):DR H (n+1) (.ref a) (.ref b):=by
 erw[.inr ⟨a,b,xs,ys,Ii,rfl,rfl,ha,hb,by rw[ra.length,rb.length],by rw[ra.length]; lia,λi u v g1 g2=>?_⟩];obtain⟨d,e1,r1⟩:=ra.back g1;obtain⟨d',e2,r2⟩:=rb.back g2;rw[e1] at e2;cases e2;rwa[iq n d (h d (i8 e1)) r1 r2]
def Zx{H:Hp}{n:Nat}{a b:b9}{x1 x2 y1 y2:V}(ha:H a=Ig (.lst [x1,x2]))(hb:H b=Ig (.lst [y1,y2]))(h1:DR H n x1 y1)(h2:DR H n x2 y2):DR H (n+1) (.ref a) (.ref b):=by
 refine .inr ⟨a,b,[x1,x2],[y1,y2],Ii,rfl,rfl,ha,hb,rfl,(by show 2<=1000; decide),λi u v g1 g2=>?_⟩
 match i,g1,g2 with
 | 0,g1,g2=>cases g1; cases g2; rwa[h1]
 | 1,g1,g2=>cases g1; cases g2; rwa[h2]
def Ze(as:List b9)(kvs:List (Key×V)):List (b9×Key×List V):=(as.zip kvs).map λx=>(x.1,x.2.1,[x.2.2])
def eJ{as:List b9}{kvs:List (Key×V)}(h:as.length=kvs.length):(Ze as kvs).map (·.1)=as:=by
 unfold Ze;rw[t5];rwa[Ee (Eh h)]
def mQ{as:List b9}{kvs:List (Key×V)}(h:as.length=kvs.length):(Ze as kvs).map (·.2.1)=kvs.map (·.1):=by
 unfold Ze;rw[t5];have e:=Gi (l₁:=as) (l₂:=kvs) (Eh h.symm);rw[<- congrArg (List.map (·.1)) e,t5];rfl
def cT{H:Hp}{as:List b9}{kvs:List (Key×V)}(ha:∀ (j:Nat) (a:b9) (e:Key×V),as[j]?=Ig a->kvs[j]?=Ig e->H a=Ig (.tup [kV e.1,e.2])):∀ t∈Ze as kvs,H t.1=Ig (.tup (kV t.2.1::t.2.2)):=λt ht=>by
 unfold Ze at ht;obtain⟨x,hx,rfl⟩:=i4.mp ht;obtain⟨j,hj⟩:=EN.mp hx;rw[Cr] at hj;rwa[ha j _ _ hj.1 hj.2]
def nF(_:b7):Sp:=λvs H Q _=>∃(b p d:b9)(S:BS)(past later:List (Deed×BS)),vs=[.ref b,.ref d]/\hV bkC H b p S past later/\al H d S/\pi S/\∀ H',Sam H H'->Q (.bl Ii) H'
def gU(F:Fun K "_law_stands" "_law_stands" yk f fd)(Z:Zs mg)(CB:Cb P w mg base)(yBy:Has P w K mg base "_law_same" 6 ["_law_told","_law_due_here"] (qZ K))(h_b_notes:jm P w K mg base lX 1 ["self"] (mE K))(h_b_coming:jm P w K mg base wr 1 ["self"] (xi K))(h_b_runs:jm P w K mg base ff 1 ["self"] (jI K))(yBf:Has P w K mg base "_law_marks_of" 1 ["_law_m"] (vz K))(h_b_banks:jm P w K mg base kA 1 ["self"] (mn K))(h_b_marks:jm P w K mg base kE 1 ["self"] (mP K)):yX P w K mg base CX0 7 f fd ["_law_book","_law_m"] (nF K):=by
 specialize fw
 ·obtain⟨b,p,d,S,past,later,rfl,_⟩:=h;rfl
 obtain⟨b,p,d,S,past,later,rfl,bk,lw,nt,q⟩:=h;have no:∀{d l:b9}{m:g8},m = "marks" \/ m = "banks" \/ m = "runs" \/ m = "coming" \/ m = "notes" ->(bkF d p l).lookup m=none:=λ{d l m} e=>by rcases e with e | e | e | e | e <;> subst e <;> rwa[jf (by ac_nf) (by ac_nf) (by ac_nf)]
 have few:=nt.well.good.few
 refine'⟨_,(zC (zX (zj (yp (uK yBy (hr.mono (by decide)) rfl (zB (vS (zB (wC CB.m_marks h_b_marks (hr.mono (by decide)) (pv 0)) (zB (wC CB.m_banks h_b_banks (hr.mono (by decide)) (pv 0)) zI))) (zB (vS (zB ?_ (zB (zR zh rfl Z.sorted vX (zB (xP (mV rfl) rfl Z.list xb (zB (pb (zO (zU hr) (pv 1) zK (λ_ _=>rfl))) zI)) zI)) zI))) zI))))) (zF (zM xa)) zN)
   (zC (zX (zj (yp (uK yBy (hr.mono (by decide)) rfl (zB (vS (zB (wC CB.m_runs h_b_runs (hr.mono (by decide)) (pv 0)) (zB (wC CB.m_coming h_b_coming (hr.mono (by decide)) (pv 0)) zI))) (zB (vS (zB (zO (zU hr) (pv 1) zK (λ_ _=>rfl)) (zB (zO (zU hr) (pv 1) zK (λ_ _=>rfl)) zI))) zI))))) (zF (zM xa)) zN)
   (zF (zM (uK yBy (hr.mono (by decide)) rfl (zB (wC CB.m_notes h_b_notes (hr.mono (by decide)) (pv 0)) (zB (zR zh rfl Z.sorted vX (zB (xP (mV rfl) rfl Z.list xb (zB (pb (zO (zU hr) (pv 1) zK (λ_ _=>rfl))) zI)) zI)) zI))))))),?_⟩
 nofun
 obtain⟨dx,_,_,_,_,k⟩:=id bk;refine⟨_,U,b,dx,_,U,k.ob,no (.inl rfl),b,p,S,past,later,U,bk,nt,λc1 z1 H1 s1 e1 r1=>?_⟩;have bk1:=bk.to (.of s1);obtain⟨dx1,_,_,_,_,k1⟩:=id bk1;refine⟨_,U,b,dx1,_,U,k1.ob,no (.inr (.inl rfl)),b,p,S,past,later,U,bk1,nt,λc2 z2 H2 s2 e2 r2=>?_⟩;refine⟨sz2,λL1 hL1=>?_⟩;have sL1:=zD hL1 (.lst [.ref c1,.ref c2]);have s12:=s1.trans (s2.trans sL1);have e1':=(s2.trans sL1) _ _ e1;have r1':=r1.to (.of (s2.trans sL1));have e2':=sL1 _ _ e2;have r2':=r2.to (.of sL1);have eL1:upd H2 L1 (.lst [.ref c1,.ref c2]) L1=Ig (.lst [.ref c1,.ref c2]):=zA;generalize upd H2 L1 (.lst [.ref c1,.ref c2])=H3 at sL1 s12 e1' r1' e2' r2' eL1 ⊢;refine⟨_,U,d,S,U,lw.to (.of s12),nt,λc3 z3 H4' s3 e3 r3=>?_⟩;have lw4:=(lw.to (.of s12)).to s3;obtain⟨m,bb,r,n,lwA⟩:=lw4;obtain⟨kvs,hb,kv⟩:=lwA.ba;have lk:kvs.length<=60:=by
  have:=nt.well.good.few.ba;rw[kv.length];unfold bkE;rw[a7];rwa[this]
 erw[_,U,d,.ref bb,U,.inl ⟨_,.inr "banks",lwA.at_,U,qC.symm⟩,bb,kvs,U,hb,λv hv=>?_];have sv:=zD hv (.ext (xt v bb));erw[v,bb,kvs,U,zA,Rd.same hb sv,(by lia),λc4 as H4 s4 hc4 hl e4 ha=>?_];have sv4:=sv.trans s4;have kv4:=kv.to (.of sv4);have at4:∀(j:Nat)(a:b9)(e:Key×V),as[j]?=Ig a->kvs[j]?=Ig e->H4 a=Ig (.tup [kV e.1,e.2]):=λj a e h1 h2=>(ha j a e h1 h2).2;exists c4,Ze as kvs,U,SqL.of (by rw[eJ hl]; rwa[e4]),cT at4,(by unfold Ze; rw[a7,AK]; lia),(by rw[mQ hl,kv.keys]; rwa[nt.oneB]),(by rw[mQ hl,kv.keys]; rwa[nt.ndB]);rw[eJ hl,mQ hl,kv.keys];intro c5 hc5;have s5:=zD hc5 (.lst ((vT (tR ((bkE S.banks).map (·.1))) as).map V.ref));have s45:=sv4.trans s5;have rr5:xK _ (jW (bkE S.banks)) _:=(zf kv4 hl at4 (tR ((bkE S.banks).map (·.1)))).to (.of s5);erw[sz2,λL2 hL2=>?_];have sL2:=zD hL2 (.lst [.ref c3,.ref c5]);have sz:=s3.trans (yY.of (s45.trans sL2));erw[.ref L1,.ref L2,U,?_,λH5 s5'=>⟨_,U,yO ?_⟩]
 ·refine Zx (n:=4) (sz.lst id eL1) zA (um (n:=3) bu (by rw[iu]; have:=few.ma; lia) (sz.lst id e1') (s45.trans sL2 _ _ (e3)) (r1'.to sz) (r3.to (.of (s45.trans sL2)))) (um (n:=3) (bZ nt) (by rw[iV]; unfold bkE; rw[a7]; have:=few.ba; lia) (sz.lst id e2') (sL2 _ _ zA) (r2'.to sz) (rr5.to (.of sL2)))
 have s05:Sam H H5:=((yY.of s12).trans sz).trans (.of s5');clear sz s5' sL2 s45 rr5 s5 kv4 at4 sv4 e4 ha sv hv hb kv lwA r3 e3 s3 s12 e1' r1' e2' r2' eL1 sL1 hL1 hL2 hc5 r2 e2 s2 bk1 k1 r1 e1 s1 k hc4;have bk5:=bk.to s05;have lw5:=lw.to s05;obtain⟨dx5,_,_,_,_,k5⟩:=id bk5;erw[_,U,b,dx5,_,U,k5.ob,no (.inr (.inr (.inl rfl))),b,p,S,past,later,U,bk5,few,λc6 z6 H6 s6 _ e6 r6=>?_];have bk6:=bk5.to (.of s6);obtain⟨dx6,_,_,_,_,k6⟩:=id bk6;exists _,U,b,dx6,_,U,k6.ob,no (.inr (.inr (.inr (.inl rfl)))),b,p,S,past,later,U,bk6;erw[sz2,λL3 hL3=>?_];have sL3:=zD hL3 (.lst [.ref c6,.int S.coming]);obtain⟨m6,b6,r6',n6,lwA6⟩:=lw5.to (.of (s6.trans sL3));obtain⟨rs6,hrs6,rrs6⟩:=lwA6.ru;erw[_,U,d,.ref r6',U,.inl ⟨_,.inr "runs",lwA6.at_,U,uR.symm⟩,_,U,d,.int S.coming,U,.inl ⟨_,.inr "next",lwA6.at_,U,yq.symm⟩,sz2,λL4 hL4=>?_];have sL4:=zD hL4 (.lst [.ref r6',.int S.coming]);erw[.ref L3,.ref L4,U,?_,λH7 s7=>⟨_,U,yO ?_⟩]
 ·refine Zx (n:=4) (sL4 _ _ zA) zA (um (n:=3) (λd hd=>?_) (by rw[a7]; have:=few.ru; lia) (sL4 _ _ (sL3 _ _ e6)) (sL4 _ _ hrs6) ((r6.to (.of sL3)).to (.of sL4)) (rrs6.to (.of sL4))) (DR.int rfl);obtain⟨c,_,rfl⟩:=i4.mp hd;rwa[ni]
 have s07:Sam H H7:=s05.trans (.of (s6.trans (sL3.trans (sL4.trans s7))));have bk7:=bk.to s07;have lw7:=lw.to s07;obtain⟨dx7,_,_,_,_,k7⟩:=id bk7;refine⟨_,U,b,dx7,_,U,k7.ob,no (.inr (.inr (.inr (.inr rfl)))),b,p,S,past,later,U,bk7,nt,λc8 z8 H8 s8 e8 r8=>?_⟩;have lw8:=lw7.to (.of s8);obtain⟨m,bb,r,n,lwA⟩:=lw8;obtain⟨kvs,hb,kv⟩:=lwA.no;have lk:kvs.length<=60:=by
  have:=nt.well.good.few.no;rw[kv.length];unfold ntE;rw[a7];rwa[this]
 erw[_,U,d,.ref n,U,.inl ⟨_,.inr "notes",lwA.at_,U,vN.symm⟩,n,kvs,U,hb,λv hv=>?_];have sv:=zD hv (.ext (xt v n));erw[v,n,kvs,U,zA,Rd.same hb sv,(by lia),λc4 as H4 s4 hc4 hl e4 ha=>?_];have sv4:=sv.trans s4;have kv4:=kv.to (.of sv4);have at4:∀(j:Nat)(a:b9)(e:Key×V),as[j]?=Ig a->kvs[j]?=Ig e->H4 a=Ig (.tup [kV e.1,e.2]):=λj a e h1 h2=>(ha j a e h1 h2).2;exists c4,Ze as kvs,U,SqL.of (by rw[eJ hl]; rwa[e4]),cT at4,(by unfold Ze; rw[a7,AK]; lia),(by rw[mQ hl,kv.keys]; rwa[nt.oneN]),(by rw[mQ hl,kv.keys]; rwa[nt.ndN]);rw[eJ hl,mQ hl,kv.keys];intro c5 hc5;have s5:=zD hc5 (.lst ((vT (tR ((ntE S.notes).map (·.1))) as).map V.ref));have s45:=sv4.trans s5;have rr5:xK _ (jW (ntE S.notes)) _:=(zf kv4 hl at4 (tR ((ntE S.notes).map (·.1)))).to (.of s5);exact⟨.ref c8,.ref c5,U,um (n:=4) (cY nt) (by rw[iV]; unfold ntE; rw[a7]; have:=few.no; lia) (s45 _ _ e8) zA (r8.to (.of s45)) rr5,λH9 s9=>q H9 ((s07.trans (.of (s8.trans s45))).trans (.of s9))⟩
def aP(xs:List V)(k:Nat):zg xs Ih (Ig (k:Int))=xs.take k:=by
 unfold zg;rw[show HT.sIx xs.length 0 Ih=0 from rfl,HT.sIx_nat,GK,Nat.sub_zero];by_cases h:k<=xs.length
 ·rw[Gx h]
 ·rw[Gj (by lia),Aa (d6 _),Aa (by lia)]
def Uh(xs:List V)(k:Nat):zg xs (Ig (k:Int)) Ih=xs.drop k:=by
 unfold zg;rw[HT.sIx_nat,show HT.sIx xs.length xs.length Ih=xs.length from rfl,Aa (by rw[p0]; lia)];by_cases h:k<=xs.length
 ·rw[Gx h]
 ·rw[Gj (by lia),List.drop_length,Bu (by lia)]
def rg(_:b7):Sp:=λvs H Q _=>∃(b p l tp:b9)(X:b9->Prop)(Ss:List BS)(Ds:List Deed)(j k:Nat),vs=[.ref b,.ref tp]/\HB bkC H b p l X tp Ss Ds j k/\k<=400/\∀ H',Sam H H'->Q (.bl Ii) H'
def jU(F:Fun K "_law_told_so" "_law_told_so" qA f fd)(Z:Zs mg)(CB:Cb P w mg base)(yBp:Has P w K mg base "_law_stands" 7 ["_law_book","_law_m"] (nF K))(yBy:Has P w K mg base "_law_same" 6 ["_law_told","_law_due_here"] (qZ K))(h_b_undone:jm P w K mg base vx 1 ["self"] (xo K))(h_b_deeds:jm P w K mg base pN 1 ["self"] (uc K)):yX P w K mg base CX0 8 f fd ["_law_book","_law_past"] (rg K):=by
 specialize rC
 ·obtain⟨b,p,l,tp,X,Ss,Ds,j,k,rfl,_⟩:=h;rfl
 obtain⟨b,p,l,tp,X,Ss,Ds,j,k,rfl,hb,hk,q⟩:=h;have no:∀{d l:b9}{m:g8},m = "deeds" \/ m = "undone" ->(bkF d p l).lookup m=none:=λ{d l m} e=>by rcases e with e | e <;> subst e <;> rwa[jf (by ac_nf) (by ac_nf) (by ac_nf)]
 obtain⟨sl,rl,et,hL⟩:=hb.lp;obtain⟨S,eS,bk⟩:=hb.bk;obtain⟨ss,e1,e2,e3⟩:=hL.s;obtain⟨xs,e4,e5⟩:=hL.r;have hl:=hb.len;have hj:=hb.le;have lk:=hb.lk;have lz:(Ds.zip Ss).length=Ds.length:=by rw[AK]; lia
 have lz2:(Ds.zip Ss.tail).length=Ds.length:=by rw[AK,Co]; lia
 refine'⟨_,(zC (pS (pv 1) (zp rfl (yG (rT 2 rC.nd) (yG (rT 3 rC.nd) (yG (rT 4 rC.nd) vZ)))))
   (zC (zX (zj (yp (uK yBy (hr.mono (by decide)) rfl (zB (vS (zB (wC CB.m_deeds h_b_deeds (hr.mono (by decide)) (pv 0)) (zB (wC CB.m_undone h_b_undone (hr.mono (by decide)) (pv 0)) zI))) (zB ?_ zI))))) (zF (zM xa)) zN)
   (zF (zM ?_)))),?_⟩
 nofun
 exists _,U,tp,_,U,SqT.of et,U,.ref sl,_,U,.ref rl,_,U,.int j,_,U,rfl;have k1:=bk.at;obtain⟨dx1,_,_,_,_,j1⟩:=id k1;erw[_,U,b,dx1,_,U,j1.ob,no (.inl rfl),b,p,S,_,_,U,k1,(by rw[i9]; lia),λg1 xs1 G1 s1 _ eg1 rg1=>?_];have k2:=k1.to (.of s1);obtain⟨dx2,_,_,_,_,j2⟩:=id k2;erw[_,U,b,dx2,_,U,j2.ob,no (.inr rfl),b,p,S,_,_,U,k2,(by rw[x8,p0]; lia),λg2 xs2 G2 s2 _ eg2 rg2=>?_];have s12:=s1.trans s2;rw[show(((Ds.zip Ss).take j).map λx=>x.1.dt)=(Ds.take j).map Deed.dt by rw[<- WQ hl,t5]; rfl] at rg1;rw[List.reverse_reverse,show(((Ds.zip Ss.tail).drop j).map λx=>x.1.dt)=(Ds.drop j).map Deed.dt by rw[<- YT hl,t5]; rfl] at rg2;erw[sz2,λA1 hA1=>?_];have sA1:=zD hA1 (.lst [.ref g1,.ref g2]);have t1:=s12.trans sA1;erw[_,U,_,U,_,U,rl,xs,U,SqL.of (t1 _ _ e4),λc1 hc1=>?_];rw[aP];have sc1:=zD hc1 (.lst (xs.take j));have t2:=t1.trans sc1;have E1:upd (upd G2 A1 (.lst [.ref g1,.ref g2])) c1 (.lst (xs.take j)) c1=Ig (.lst (xs.take j)):=zA;have EA:=sc1 A1 _ zA;have b12:=sA1.trans sc1;generalize upd (upd G2 A1 (.lst [.ref g1,.ref g2])) c1 (.lst (xs.take j))=G3 at t2 E1 EA b12 ⊢;erw[_,U,_,U,_,U,rl,xs,U,SqL.of (t2 _ _ e4),λc2 hc2=>?_];rw[Uh];have sc2:=zD hc2 (.lst (xs.drop j));erw[sz2,λA2 hA2=>?_];have sA2:=zD hA2 (.lst [.ref c1,.ref c2]);have u:=sc2.trans sA2;have t3:=t2.trans u;have e5':=e5.to (.of t3);have dp:∀{l:List Deed},(∀ D∈l,D∈Ds)->∀ e∈l.map Deed.dt,dep 3 e:=λh e he=>by obtain⟨D,hD,rfl⟩:=i4.mp he; rwa[pC (hb.tm D (h D hD))]
 have r1:=e5'.take j;rw[<- C4] at r1;have r2:=e5'.drop j;rw[<- Fh] at r2;have v:=b12.trans u;erw[.ref A1,.ref A2,U,Zx (n:=4) (u _ _ EA) zA (um (n:=3) (dp λD h=>Db h) (by rw[a7,i9]; lia) (v _ _ (s2 _ _ eg1)) (u _ _ E1) ((rg1.to (.of s2)).to (.of v)) r1) (um (n:=3) (dp λD h=>Bj h) (by rw[a7,p0]; lia) (v _ _ eg2) (sA2 _ _ zA) (rg2.to (.of v)) r2),λG4 s4=>⟨_,rfl,yO ?_⟩];have t4:=t3.trans s4;have ji:j<Ss.length:=by lia
 obtain⟨d,gd⟩:∃ d,ss[j]?=Ig d:=⟨_,d3 (by lia)⟩;erw[_,U,_,U,_,U,sl,_,j,.ref d,U,U,.inl (SqL.of (t4 _ _ e1)),xU (by rw[d8,gd]; rfl),b,p,d,S,_,_,rfl,k1.to (.of t4),(e3 j d S gd eS).at.to (.of t4),(hb.st S (i8 eS)).1,λH' s'=>q H' ((yY.of t4).trans s')]
def BkF(H0 H:Hp)(b p:b9)(S:BS)(past:List (Deed×BS)):Prop:=∃ l,H0 l=Ih/\BkL bkC H b p l S past []
def BkF.at{H0 H:Hp}{b p:b9}{S:BS}{past:List (Deed×BS)}(h:BkF H0 H b p S past):hV bkC H b p S past []:=let ⟨_,_,k⟩:=h; k.at
def BkF.to{H0 H H1:Hp}{b p:b9}{S:BS}{past:List (Deed×BS)}(h:BkF H0 H b p S past)(s:Sam H H1):BkF H0 H1 b p S past:=let ⟨l,e,k⟩:=h;⟨l,e,k.to s⟩
def BkF.from{H0 H1 H:Hp}{b p:b9}{S:BS}{past:List (Deed×BS)}(h:BkF H1 H b p S past)(s:Sam H0 H1):BkF H0 H b p S past:=let ⟨l,e,k⟩:=h;⟨l,s.free id e,k⟩
def spBk(φ:List V->Hp->Deed->Prop):Sp:=λvs H Q E=>∃(b p:b9)(xs:List V)(S:BS)(D:Deed)(past later:List (Deed×BS)),vs=.ref b::xs/\hV bkC H b p S past later/\φ xs H D/\qb D/\jS S/\past.length<=500 /\
 (zS S D=Ih->∀(H':Hp),yY (Bp b p) H H'->BkF H H' b p (aft S D) (past++[(D,S)])->Q (gO S D) H')/\∀ c,zS S D=Ig c->∀ H',Sam H H'->E (.ref (axC c)) Ih H'
def numD_q{S:BS}{D:Deed}{Q:VK}{H:Hp}(h:(aft S D).coming=S.coming)(q:Q (gO S D) H):Q .non H:=by
 rw[gO,y9 h.symm] at q;rwa[q]
def iG(_:b7):Sp:=λvs H Q E=>∃(b p:b9)(v:V)(S:BS)(D:Deed)(past later:List (Deed×BS)),vs=[.ref b,v]/\hV bkC H b p S past later/\Rep H D.dt v/\qb D/\jS S/\past.length<=500 /\
 (zS S D=Ih->∀(H':Hp),yY (Bp b p) H H'->BkF H H' b p (aft S D) (past++[(D,S)])->Q (if S.coming=(aft S D).coming then .non else .int S.coming) H')/\∀ c,zS S D=Ig c->∀ H',Sam H H'->E (.ref (axC c)) Ih H'
def bY(F:Fun K "deed" "Book.deed" pJ f fd)(Z:Zs mg)(CB:Cb P w mg base)(h_b_coming:jm P w K mg base wr 1 ["self"] (xi K))(yBs:qS P w K mg base "after" 5 ["state","row"] (mM K)):yX P w K mg base (CX1 P w) 6 f fd ["self","row"] (iG K):=by
 erw[F.okX oM (λvs H Q E h=>?_) (λcdv A outer s H vs Q E hr h=>?_)]
 ·obtain⟨b,p,v,S,D,past,later,rfl,_⟩:=h;rfl
 obtain⟨b,p,v,S,D,past,later,rfl,bk,hv,tm,wl,hl,q,bad⟩:=h;obtain⟨dx,d,l,ps,ls,k⟩:=bk;have no:∀{d l:b9}{m:g8},m = "coming" ->(bkF d p l).lookup m=none:=λ{d l m} e=>by subst e; rwa[jf (by ac_nf) (by ac_nf) (by ac_nf)]
 refine'⟨_,(zC (PS.nox (yE 2 oM.nd (wC CB.m_coming h_b_coming (hr.mono (by decide)) (pv 0))))
   (zC (yE 3 oM.nd (yH (λ_=>E) yBs yD (hr.mono (by decide)) rfl (zB (xX CB.state (pv 0)) (zB (pv 1) zI))))
   (zC (PS.nox (yC (mY (xX CB.past (pv 0)) (zB (yW (zB (pv 1) (zB (xX CB.state (pv 0)) zI))) zI))))
   (zC (PS.nox (uu CB.state (pv 0) (pv 3)))
   (zC (PS.nox (uu CB.later (pv 0) ?_))
   (zF (PS.nox (zM (vB (yI WT (wC CB.m_coming h_b_coming (hr.mono (by decide)) (pv 0)) (pv 2) (yS _)) eh (pv 2)))))))))),?_⟩
 nofun
 exists _,U,b,dx,_,U,k.ob,no rfl,b,p,S,past,later,U,⟨dx,d,l,ps,ls,k⟩;erw[_,U,b,dx,_,_,U,k.ob,rD,_,U,d,v,S,D,U,trivial,k.st,hv,tm,wl,λjn d' H1 s1 hd' st'=>?_,bad];have k1:=k.to s1;have hv1:=hv.to s1;erw[_,U,b,dx,_,_,U,k1.ob,ua,.inl ⟨U,_,SqL.of k1.pa⟩,_,U,_,U,b,dx,_,_,U,k1.ob,rD,sz2,λt ht=>?_];have s2:=zD ht (.tup [v,.ref d]);have k2:=k1.to (.of s2);exists p,ps,.ref t,U,U,k2.pa,zT (by rw[k2.pp.len]; lia);have nbp:b≠p:=oA k2.ob k2.pa (λz=>nomatch z);have e3:upd (upd H1 t (.tup [v,.ref d])) p (.lst (ps++[.ref t])) b=Ig (.ins bkC dx (bkF d p l)):=by rw[zG nbp]; rwa[k2.ob]
 exists _,U,_,U,b,dx,_,U,e3,(by show 3<1000; decide);rw[rn];refine⟨sz0,λg hg=>?_⟩;have nbg:b≠g:=zH zA hg;have npg:p≠g:=λz=>by
  rw[<- z,zG nbp.symm,zA] at hg;cases hg
 exists _,U,b,dx,_,U,(by rw[zG nbg,zA]),(by show 3<1000; decide);rw[jg];have hgt:(upd H1 t (.tup [v,.ref d])) g=none:=by rw[zG nbg.symm,zG npg.symm] at hg; rwa[hg]
 have sE:yY (Bp b p) (upd H1 t (.tup [v,.ref d])) (upd (upd (upd (upd (upd H1 t (.tup [v,.ref d])) p (.lst (ps++[.ref t]))) b (.ins bkC dx (bkF d' p l))) g (.lst [])) b (.ins bkC dx (bkF d' p g))):=λx o hx e=>by
  have n1:x≠b:=λz=>hx (.inl z);have n2:x≠p:=λz=>hx (.inr z);rw[zG n1,zG (zH e hgt),zG n1,zG n2];rwa[.inl e]
 have nd:=UV k2.ob k2.pa;have np:=Uq k2.ob k2.pa;have st2:=st'.to (.of s2);have BK:BkL bkC (upd (upd (upd (upd (upd H1 t (.tup [v,.ref d])) p (.lst (ps++[.ref t]))) b (.ins bkC dx (bkF d' p l))) g (.lst [])) b (.ins bkC dx (bkF d' p g))) b p g (aft S D) (past++[(D,S)]) []:=by
  erw[dx,d',ps++[.ref t],[],zA,st2.samE sE nd np,?_,?_,?_,U,npg.symm]
  ·rw[zG nbp.symm,zG npg,zG nbp.symm,zA]
  ·rw[zG nbg.symm,zA]
  ·rwa[xJ.app (sE.tup (np _ _ zA) zA) ((hv1.to (.of s2)).sam sE np) (k2.st.samE sE nd np) (k2.pp.samE sE nd np)]
 have fin:=q jn _ (((s1.trans (.of s2)).wider (λ_ z=>z.elim)).trans sE) ⟨g,(s1.trans (.of s2)).free id hgt,BK⟩;exists _,U,b,dx,_,U,zA,no rfl,b,p,aft S D,_,[],U,BK.at,_,U,U,_,rfl;erw[ifE (λe=>?_) (λe=>?_)]
 ·rw[y9 e.symm] at fin;rwa[fin]
 ·rw[y7 (λz=>e z.symm)] at fin;rwa[_,U,fin]
def iS(_:b7):Sp:=λvs H Q _=>∃(b p:b9)(v:V)(S:BS)(D:Deed)(past later:List (Deed×BS)),vs=[.ref b,v]/\hV bkC H b p S past later/\Rep H D.dt v/\qb D/\jS S/\past.length<=500 /\
 (zS S D=Ih->∀(t:b9)(H':Hp),yY (Bp b p) H H'->BkF H H' b p (aft S D) (past++[(D,S)])->H' t=Ig (.tup [.str "",gO S D])->Q (.ref t) H') /\
 ∀ c,zS S D=Ig c->∀(t:b9)(H':Hp),Sam H H'->H' t=Ig (.tup [.str (fq c),.non])->Q (.ref t) H'
def bp(F:Fun K "_law_done" "_law_done" pO f fd)(Z:Zs mg)(CB:Cb P w mg base)(h_b_deed:ce P w K mg base gj 6 ["self","row"] (iG K))(yBk:Ti P w K mg base "_law_refused" 1 ["_law_e"] (zw K)):yX P w K mg base CX0 7 f fd ["_law_book","_law_deed_here"] (iS K):=by
 specialize js
 ·obtain⟨b,p,v,S,D,past,later,rfl,_⟩:=h;rfl
 obtain⟨b,p,v,S,D,past,later,rfl,bk,hv,tm,wl,hl,q,bad⟩:=h;obtain⟨dx,d,l,ps,ls,k⟩:=id bk;have no:∀{d l:b9}{m:g8},m = "deed" ->(bkF d p l).lookup m=none:=λ{d l m} e=>by subst e; rwa[jf (by ac_nf) (by ac_nf) (by ac_nf)]
 exists _,(zF (Xo (i:=2) (λ_ EE=>(zF (zM (yW (zB zK (zB (Yw EE CB.m_deed h_b_deed lZ (hr.mono (by decide)) (pv 0) (zB (pv 1) zI)) zI)))))) CB.gMarkError js.nd rfl rfl (λ_=>(zF (zM (yW (zB (fU yBk (hr.mono (by decide)) rfl (zB (pv 2) zI)) (zB eh zI))))))))
 try dsimp only[L2.cxOf]
 erw[_,U,b,dx,_,U,k.ob,no rfl,_,U,b,p,v,S,D,past,later,U,bk,hv,tm,wl,hl,λjn H1 s1 bk1=>?_,λc jc H1 s1=>?_]
 ·erw[sz2,λt ht=>?_];have st:=zD ht (.tup [.str "",gO S D]);rwa[q jn t _ (s1.trans (.of st)) (bk1.to (.of st)) zA]
 ·erw[?_,λea he=>?_]
  ·cases c
   ·rwa[CB.t_BadName_MarkError]
   ·rwa[CB.t_Taken_MarkError]
   ·rwa[CB.t_BadPlace_MarkError]
   ·rwa[CB.t_Full_MarkError]
   ·rwa[CB.t_NoMark_MarkError]
   ·rwa[CB.t_Same_MarkError]
   ·rwa[CB.t_Needed_MarkError]
   ·rwa[CB.t_BadBank_MarkError]
   ·rwa[CB.t_NoBank_MarkError]
   ·rwa[CB.t_BadRun_MarkError]
   ·rwa[CB.t_NoRun_MarkError]
   ·rwa[CB.t_NoMoment_MarkError]
   ·rwa[CB.t_BadWay_MarkError]
   ·rwa[CB.t_BadTurn_MarkError]
   ·rwa[CB.t_NoNote_MarkError]
  ·have se:=zD he (Zk ea (.ref (axC c)));erw[_,U,Ig c,U,zA,λH2 s2=>⟨sz2,λt ht=>?_⟩];have st:=zD ht (.tup [.str (fq c),.non]);rwa[bad c jc t _ (s1.trans (.of ((se.trans s2).trans st))) zA]
def uk{H:Hp}{n:Nat}{a b:b9}{x:g8}{y:V}(hy:(∃ i,y=.int i)\/y=.non)(ha:H a=Ig (.tup [.str x,y]))(hb:H b=Ig (.tup [.str x,y])):DR H (n+1) (.ref a) (.ref b):=by
 refine .inr ⟨a,b,[.str x,y],[.str x,y],Ij,rfl,rfl,ha,hb,rfl,(by show 2<=1000; decide),λi u v g1 g2=>?_⟩
 match i,g1,g2 with
 | 0,g1,g2=>cases g1; cases g2; rwa[DR.str rfl]
 | 1,g1,g2 =>
  cases g1; cases g2;rcases hy with ⟨i,rfl⟩ | rfl
  ·rwa[DR.int rfl]
  ·cases n
   ·rwa[U,.inr (.inr (.inr rfl))]
   ·rwa[.inl ⟨rfl,.inr (.inr (.inr rfl))⟩]
def Zv{S:BS}{D:Deed} : (∃ i,gO S D=.int i)\/gO S D=.non:=by
 unfold gO;split
 ·rwa[.inr rfl]
 ·rwa[.inl ⟨_,rfl⟩]
def dD{S:BS}{D:Deed} : (aft S D).coming=S.coming\/(aft S D).coming=S.coming+1:=by
 cases D <;> first | exact .inl rfl | exact .inr rfl
def Vp{D:Deed}(h:Xe D):Vl D:=by
 cases D <;> first | exact h | exact trivial
def lY{H:Hp}{n:Nat}{a b:b9}{x:g8}{y z:V}(h:DR H n y z)(ha:H a=Ig (.tup [.str x,y]))(hb:H b=Ig (.tup [.str x,z])):DR H (n+1) (.ref a) (.ref b):=by
 refine .inr ⟨a,b,[.str x,y],[.str x,z],Ij,rfl,rfl,ha,hb,rfl,(by show 2<=1000; decide),λi u v g1 g2=>?_⟩
 match i,g1,g2 with
 | 0,g1,g2=>cases g1; cases g2; rwa[DR.str rfl]
 | 1,g1,g2=>cases g1; cases g2; rwa[h]
def HB.same1{H:Hp}{b p l tp:b9}{X:b9->Prop}{Ss:List BS}{Ds:List Deed}{j k:Nat}(h:HB bkC H b p l X tp Ss Ds j k):HB bkC H b p l (cK X l) tp Ss Ds j k:=h.re (λx _ _ n z=>z.elim n λz=>n (z ▸ h.xl)) λ_=>.inl
def HB.up{H:Hp}{b p l tp:b9}{X:b9->Prop}{Ss:List BS}{Ds:List Deed}{j k:Nat}(h:HB bkC H b p l X tp Ss Ds j k):HB bkC H b p l (cK X l) tp Ss Ds j (k+1):=HB.same1 ⟨h.bk,h.lp,h.xp,h.xl,h.len,h.le,Nat.le_succ_of_le h.lk,λS hS=>let ⟨a,b,c⟩:=h.st S hS;⟨a,b,by lia⟩,h.tm⟩
def ex_bl{X:b9->Prop}{H H':Hp}{b p l:b9}{S:BS}{past later:List (Deed×BS)}(hX:∀ x,X x->∃ o,H x=Ig o)(xl:X l)(s:yY (Bl b p l) H H')(k:BkL bkC H' b p l S past later):∀ x,cK X l x->∃ o,H' x=Ig o:=λx z=>by
 have z:X x:=z.elim id λz=>z ▸ xl;obtain⟨_,_,_,_,k⟩:=k;by_cases y:Bl b p l x
 ·rcases y with y | y | y <;> subst y
  ·rwa[_,k.ob]
  ·rwa[_,k.pa]
  ·rwa[_,k.la]
 ·obtain⟨o,e⟩:=hX x z;rwa[s.some y e]
def WG{ok:b9->Hp->Prop}{G:Prop}{R:b9->Hp->Prop}(h1:(∀ m H,ok m H->R m H)->G)(h2:∀ m H,ok m H->R m H):G:=h1 h2
def jK(_:b7):Sp:=λvs H Q _=>∃(b p l tp a R:b9)(X:b9->Prop)(rows:List Int)(nms:List g8)(Ss:List BS)(Ds:List Deed)(j k:Nat),vs=[.ref b,.ref tp,.ref a,.ref R]/\HB bkC H b p l X tp Ss Ds j k/\(∀ x,X x->∃ o,H x=Ig o)/\k<=300/\H a=Ig (.lst (rows.map V.int))/\11<=rows.length/\(∀ v∈rows,0<=v/\v<1000003)/\H R=Ig (.lst (nms.map V.str))/\1<=nms.length/\(∀ n∈nms,wL n) /\
 ∀(t tp' l':b9)(Ss':List BS)(Ds':List Deed)(j':Nat)(H':Hp),yY (Bl b p l) H H'->(l'=l\/H l'=Ih)->H' t=Ig (.tup [.ref tp',.bl Ii])->HB bkC H' b p l' (cK X l') tp' Ss' Ds' j' (k+1)->(∀ x,cK X l' x->∃ o,H' x=Ig o)->Q (.ref t) H'
def bw(F:Fun K "_law_step" "_law_step" pk f fd)(Z:Zs mg)(CB:Cb P w mg base)(yBt:Has P w K mg base "_law_after" 1 ["_law_m","_law_deed_here"] (mI K))(yBy:Has P w K mg base "_law_same" 6 ["_law_told","_law_due_here"] (qZ K))(yCe:Has P w K mg base "_law_done" 7 ["_law_book","_law_deed_here"] (iS K))(yCg:Has P w K mg base "_law_due" 4 ["_law_m","_law_deed_here"] (eO K))(yCd:Has P w K mg base "_law_deed" 4 ["_law_d","_law_m","_law_names_here"] (iZ K))(yBw:Has P w K mg base "_law_went" 3 ["_law_book","_law_way_here"] (oR K)):yX P w K mg base CX0 8 f fd ["_law_book","_law_past","_law_d","_law_names_here"] (jK K):=by
 specialize xG
 ·obtain⟨b,p,l,tp,a,R,X,rows,nms,Ss,Ds,j,k,rfl,_⟩:=h;rfl
 obtain⟨b,p,l,tp,a,R,X,rows,nms,Ss,Ds,j,k,rfl,hb,hX,hk,ha,l11,bd,eR,l1,okn,q⟩:=h;obtain⟨v0,a0,y0⟩:=xQ bd (k:=0) (by decide) (by lia);obtain⟨sl,rl,et,hL⟩:=hb.lp;obtain⟨S,eS,bk⟩:=hb.bk;obtain⟨ss,e1,e2,e3⟩:=hL.s;obtain⟨xs,e4,e5⟩:=hL.r;have hl:=hb.len;have hj:=hb.le;have lk:=hb.lk;have lxs:xs.length=Ds.length:=by rw[e5.length,a7]
 have sq:∀{H':Hp},H' a=Ig (.lst (rows.map V.int))->Sq K H' a (rows.map V.int):=λh=>.inl (SqL.of h)
 refine'⟨_,(zC (pS (pv 1) (zp rfl (yG (rT 4 xG.nd) (yG (rT 5 xG.nd) (yG (rT 6 xG.nd) vZ)))))
   (zC (yE 7 xG.nd ?_)
   (zC (zX ?_ (zC (yE 8 xG.nd ?_)
   (zC (yE 9 xG.nd ?_)
   (zC (zX (kC wg cW yL (pv 8) ?_) (zC (yE 9 xG.nd ?_)
   (zF (yE 1 xG.nd ?_))) zN)
   (zF (zM ?_))))) zN)
   (zC (yE 10 xG.nd ?_)
   (zC (yE 9 xG.nd ?_)
   (zC (yE 11 xG.nd ?_)
   (zC (zX ?_ (zF (yE 1 xG.nd (yW (zB (wG vn ?_ ?_) (zB (wG vn ?_ ?_) (zB ?_ zI)))))) zN)
   (zF (zM ?_))))))))),?_⟩
 nofun
 exists _,U,tp,_,U,SqT.of et,U,.ref sl,_,U,.ref rl,_,U,.int j,_,U,rfl;exists _,U,a,_,_,_,U,U,sq ha,a0,_,_,U,U,we.of (by decide) (by ac_nf),_,_,U,U,(by show(0:Int)<6; decide);have w0:0<=v0/18%6:=by lia
 generalize v0/18%6=W at w0 ⊢;exists _,U,_,_,U,U,_,rfl;erw[ifD (λw2=>?_) (λw2=>?_)]
 ·exists _,U,_,U,_,_,U,U,YR (by lia),_,_,U,U,_,_,U,rfl;erw[sz2,λdu hdu=>?_];have sdu:=zD hdu (.tup [.str "NothingLeft",.non]);have edu:upd H du (.tup [.str "NothingLeft",.non]) du=Ig (.tup [.str "NothingLeft",.non]):=zA;generalize upd H du (.tup [.str "NothingLeft",.non])=H1 at sdu edu ⊢;have bk1:=bk.to (.of sdu);have lz:(Ds.zip Ss).length=Ds.length:=by rw[AK]; lia
  have lz2:(Ds.zip Ss.tail).length=Ds.length:=by rw[AK,Co]; lia
  have lp1:((Ds.zip Ss).take j).length<=400:=by rw[i9]; lia
  have lp2:((Ds.zip Ss.tail).drop j).reverse.length<=400:=by rw[x8,p0]; lia
  have hw:W=0\/W=1:=by lia
  have lss:((ss.map V.ref).length:Int)=Ds.length+1:=by rw[a7]; lia
  exists _,U,_,_,U,U,_,rfl;erw[ifD (λt0=>?_) (λt0=>?_)];rotate_left
  ·erw[_,U,yO ?_];erw[_,U,_,U,_,U,b,p,l,W,S,_,_,U,bk1,lp2,lp1,hw,λe pre D S0 e2=>?_,λe pre D S0 e2=>?_,λ_ _ t H2 s2 e=>?_]
   ·have z:j=0:=by lia
    rw[z] at e2;simp at e2
   ·have z:j=Ds.length:=by lia
    rw[Bu (by lia)] at e2;simp at e2
   erw[_,U,.ref t,.ref du,U,uk (.inr rfl) e (s2.tup id edu),λH3 s3=>⟨sz2,λtt htt=>?_⟩];have st:=((yY.of sdu).trans s2).trans (.of (s3.trans (zD htt (.tup [.ref tp,.bl Ii]))));exact q tt tp l Ss Ds j _ (st.wider λ_ z=>z.elim) (.inl rfl) zA (hb.to st).up (λx z=>let ⟨_,e⟩:=hX x (z.elim id λz=>z ▸ hb.xl); st.some id e)
  ·exists _,U,sl,_,U,.inl (SqL.of (sdu _ _ e1)),_,_,U,U,_,rfl;erw[ifD (λt1=>?_) (λt1=>?_)]
   ·rw[lss] at t1;obtain⟨i,j',h1,h2,hi,h3⟩:∃ i j':Nat,(if (j:Int)+2*W-1<j then(j:Int)+2*W-1 else j)=(i:Int)/\(j:Int)+2*W-1=(j':Int)/\i<Ds.length/\((W=0/\j=i+1/\j'=i)\/(W=1/\i=j/\j'=j+1)):=by
     rcases hw with rfl | rfl
     ·rwa[j-1,j-1,by rw[y9 (by lia)]; lia,by lia,by lia,.inl ⟨rfl,by lia,rfl⟩]
     ·rwa[j,j+1,by rw[y7 (by lia)],by lia,by lia,.inr ⟨U,U,U⟩]
    obtain⟨D,gD⟩:∃ D,Ds[i]?=Ig D:=⟨_,d3 hi⟩;obtain⟨v,gv,rv⟩:=e5.at (i:=i) (d:=D.dt) (by rw[d8,gD]; rfl);have tmD:=hb.tm D (i8 gD);exists _,U,_,U,_,U,_,_,rfl;rw[h1];erw[rl,_,i,v,U,U,.inl (SqL.of (sdu _ _ e4)),xU gv,sz2,λd2 hd2=>?_];have sd2:=zD hd2 (.tup [.str "",v]);erw[_,U,_,U,_,U,sz3,λtq htq=>?_];rw[h2];have stq:=zD htq (.tup [.ref sl,.ref rl,.int j']);have s1:=sdu.trans (sd2.trans stq);have ed2:=stq d2 _ zA;have etq:upd (upd H1 d2 (.tup [.str "",v])) tq (.tup [.ref sl,.ref rl,.int j']) tq=Ig (.tup [.ref sl,.ref rl,.int j']):=zA;generalize upd (upd H1 d2 (.tup [.str "",v])) tq (.tup [.ref sl,.ref rl,.int j'])=H4 at s1 ed2 etq ⊢;have bk4:=bk.to (.of s1);obtain⟨_,_,_,_,k4⟩:=id bk4;have nd4:=Yr k4.ob k4.pa k4.la;have np4:=aj k4.ob k4.pa k4.la;have hL4:=hL.to (.of s1);have rv4:=rv.to (.of s1);apply WG (ok:=λt H2=>∃(vv:V)(S':BS),yY (Bl b p l) H4 H2/\BkL bkC H2 b p l S' ((Ds.zip Ss).take j') ((Ds.zip Ss.tail).drop j').reverse/\Ss[j']?=Ig S'/\Rep H2 D.dt vv/\H2 t=Ig (.tup [.str "",vv]))
    ·intro rest;erw[_,U,_,U,_,U,b,p,l,W,S,_,_,U,bk4,lp2,lp1,hw,λe pre D' S0 e2 t vv H2 s2 b2 r2 et2=>?_,λe pre D' S0 e2 t vv H2 s2 b2 r2 et2=>?_,λz0 z1=>?_]
     ·obtain⟨_,hj1,hj2⟩:W=0/\j=i+1/\j'=i:=by lia
      obtain⟨Si,gS⟩:∃ X,Ss[i]?=Ig X:=⟨_,d3 (by lia)⟩;rw[hj1,fP gD gS] at e2;obtain⟨ep,e2⟩:=C2 e2 rfl;cases e2;rw[<- ep,hj1,<- pq gD (hj1 ▸ eS)] at b2;rwa[rest t H2 ⟨vv,_,s2,by rw[hj2]; exact b2,by rw[hj2]; exact gS,r2,et2⟩]
     ·obtain⟨_,hj1,hj2⟩:W=1/\i=j/\j'=j+1:=by lia
      obtain⟨Si,gS⟩:∃ X,Ss[j+1]?=Ig X:=⟨_,d3 (by lia)⟩;rw[hj1] at gD;rw[pq gD gS] at e2;obtain⟨ep,e2⟩:=C2 e2 rfl;cases e2;rw[<- ep,<- fP gD eS] at b2;rwa[rest t H2 ⟨vv,_,s2,by rw[hj2]; exact b2,by rw[hj2]; exact gS,r2,et2⟩]
     ·exfalso;rcases h3 with ⟨hW,hj1,_⟩ | ⟨hW,hj1,_⟩
      ·have z:=congrArg A3 (z0 hW);rw[i9,lz,Am] at z;lia
      ·have z:=congrArg A3 (z1 hW);rw[x8,p0,lz2,Am] at z;lia
    intro t H2 ⟨vv,S',s2,b2,gS',r2,et2⟩;erw[_,U,.ref t,.ref d2,U,lY (iq 4 D.dt (pC tmD) r2 (rv4.sam s2 np4)) et2 (s2.tup (np4 _ _ ed2) ed2),λH3 s3=>⟨sz2,λtt htt=>?_⟩];have st:=s3.trans (zD htt (.tup [.ref tq,.bl Ii]));have hL2:=hL4.bl hb.xp hb.xl s2 k4.ob k4.pa k4.la;have s0:=(yY.of s1).trans (s2.trans (.of st));refine q tt tq l Ss Ds j' _ s0 (.inl rfl) zA (HB.same1 ⟨⟨S',gS',b2.to (.of st)⟩,⟨sl,rl,st _ _ (s2.tup (np4 _ _ etq) etq),hL2.to (.of st)⟩,hb.xp,hb.xl,hl,(by lia),(by lia),(λS hS=>let ⟨a,b,c⟩:=hb.st S hS;⟨a,b,by lia⟩),hb.tm⟩) (ex_bl hX hb.xl s0 (b2.to (.of st)))
   ·rw[lss] at t1;erw[_,U,_,U,_,U,b,p,l,W,S,_,_,U,bk1,lp2,lp1,hw,λe pre D S0 e2=>?_,λe pre D S0 e2=>?_,λ_ _ t H2 s2 e=>?_]
    ·have z:j=0:=by lia
     rw[z] at e2;simp at e2
    ·have z:j=Ds.length:=by lia
     rw[Bu (by lia)] at e2;simp at e2
    erw[_,U,.ref t,.ref du,U,uk (.inr rfl) e (s2.tup id edu),λH3 s3=>⟨sz2,λtt htt=>?_⟩];have st:=((yY.of sdu).trans s2).trans (.of (s3.trans (zD htt (.tup [.ref tp,.bl Ii]))));exact q tt tp l Ss Ds j _ (st.wider λ_ z=>z.elim) (.inl rfl) zA (hb.to st).up (λx z=>let ⟨_,e⟩:=hX x (z.elim id λz=>z ▸ hb.xl); st.some id e)
 ·obtain⟨dj,gd⟩:∃ d,ss[j]?=Ig d:=⟨_,d3 (by lia)⟩;have ix:atI (ss.map V.ref) (j:Int)=Ig (.ref dj):=xU (by rw[d8,gd]; rfl);have lwj:=(e3 j dj S gd eS).at;obtain⟨nt,c1,c2⟩:=hb.st S (i8 eS);erw[_,U,_,U,_,U,sl,_,_,.ref dj,U,U,.inl (SqL.of e1),ix,_,U,a,dj,R,rows,nms,S,U,ha,l11,bd,lwj,nt.well,c1,(by lia),eR,l1,okn,λv D G1 s1 rv tm dr=>?_];erw[_,U,_,U,sl,_,_,.ref dj,U,U,.inl (SqL.of (s1.lst id e1)),ix,_,U,dj,v,S,D,U,lwj.to s1,rv,tm,nt.well,Vp dr,λt G2 s2 et2=>?_];have s12:=s1.trans s2;have bk2:=bk.to s12;have rv2:=rv.to s2;obtain⟨_,_,_,_,k2⟩:=id bk2;have nd2:=UV k2.ob k2.pa;have np2:=Uq k2.ob k2.pa;have wB:∀ x,Bp b p x->Bl b p l x:=λx z=>z.elim .inl λz=>.inr (.inl z);erw[_,U,_,U,b,p,v,S,D,_,_,U,bk2.at,rv2,tm,nt.well,(by rw[i9]; lia),λjn t2 G3 s3 bf et3=>?_,λc jc t2 G3 s3 et3=>?_]
  ·rw[jn] at et2;have et2:G2 t=Ig (.tup [.str "",gO S D]):=et2;have et':=s3.tup (np2 _ _ et2) et2;refine⟨_,U,.ref t2,.ref t,U,uk Zv et3 et',λG4 s4=>?_⟩;refine⟨_,U,t,_,0,.str "",U,U,.inr (SqT.of (s4 _ _ et')),U,U,_,U,xO ?_⟩;obtain⟨lf,hlf,blf⟩:=bf;have hL4:HL G4 (cK X lf) sl rl Ss Ds:=(((hL.to s12).newl hlf).sam s3 nd2 np2 (λx ys e n1 z=>z.elim (λz=>by rw[z,k2.ob] at e; cases e) λz=>n1 (.inl (z ▸ hb.xp)))).to (.of s4);have ex:∀ x,cK X lf x->∃ o,G4 x=Ig o:=λx z=>by
    obtain⟨_,_,_,_,kf⟩:=id blf;rcases z with z | z
    ·obtain⟨o,e⟩:=hX x z;obtain⟨o2,e'⟩:=s12.some id e;by_cases y:Bp b p x
     ·rcases y with y | y <;> subst y
      ·rwa[_,s4 _ _ kf.ob]
      ·rwa[_,s4 _ _ kf.pa]
     ·obtain⟨o3,e''⟩:=s3.some y e';rwa[_,s4 _ _ e'']
    ·subst z;rwa[_,s4 _ _ kf.la]
   have rv4:=(rv2.sam s3 np2).to (.of s4);have bl4:=blf.to (.of s4);have s04:yY (Bl b p l) H G4:=(s12.wider λ_ z=>z.elim).trans ((s3.wider wB).trans (.of s4));have flf:=s12.free id hlf;clear blf s3 et3 et' s4 rv2 hL bk2 k2 nd2 np2 hlf e1 e2 e3 e4 e5 ix lwj rv s1 s2 s12;obtain⟨_,_,_,_,k4⟩:=id bl4;obtain⟨ss4,f1,f2,f3⟩:=hL4.s;obtain⟨xs4,f4,f5⟩:=hL4.r;obtain⟨dj4,gd4⟩:∃ d,ss4[j]?=Ig d:=⟨_,d3 (by lia)⟩;have ix4:atI (ss4.map V.ref) (j:Int)=Ig (.ref dj4):=xU (by rw[d8,gd4]; rfl);erw[_,U,_,U,_,_,U,U,_,U,sl,_,U,SqL.of f1,λc1' hc1=>?_];rw[show(j:Int)+1=((j+1:Nat):Int) from rfl,aP,<- C4];have u1:=zD hc1 (.lst ((ss4.take (j+1)).map V.ref));have E1:upd G4 c1' (.lst ((ss4.take (j+1)).map V.ref)) c1'=Ig (.lst ((ss4.take (j+1)).map V.ref)):=zA;generalize upd G4 c1' (.lst ((ss4.take (j+1)).map V.ref))=G5 at u1 E1 ⊢;erw[_,U,_,U,sl,_,_,.ref dj4,U,U,.inl (SqL.of (u1 _ _ f1)),ix4,_,U,dj4,v,S,D,U,rv4.to (.of u1),(f3 j dj4 S gd4 eS).at.to (.of u1),fO jn,nt.well.good.few,nt.well.good.fresh,λd2 G6 u2 hd2 lwn=>?_];obtain⟨m8,b8,r8,n8,hr8,lw8⟩:=lwn;have r8p:¬ cK X lf r8:=λz=>let ⟨_,e⟩:=ex _ z; zH (u1 _ _ e) hr8 rfl;erw[sz1,λc2' hc2=>?_];have u3:=zD hc2 (.lst [.ref d2]);refine⟨c1',c2',_,_,U,U,u3 _ _ (u2 _ _ E1),zA,oO (by rw[a7,i9]; show _+1<=_; lia),λsq' hsq=>?_⟩;have u4:=zD hsq (.lst ((ss4.take (j+1)).map V.ref++[.ref d2]));have E2:upd (upd G6 c2' (.lst [.ref d2])) sq' (.lst ((ss4.take (j+1)).map V.ref++[.ref d2])) sq'=Ig (.lst ((ss4.take (j+1)).map V.ref++[.ref d2])):=zA;have u14:=u1.trans u2;have nS1:¬ cK X lf sq':=λz=>let ⟨_,e⟩:=ex _ z; zH (u3 _ _ (u14 _ _ e)) hsq rfl;have u34:=u3.trans u4;generalize upd (upd G6 c2' (.lst [.ref d2])) sq' (.lst ((ss4.take (j+1)).map V.ref++[.ref d2]))=G7 at u34 E2 ⊢;have u17:=u14.trans u34;erw[_,U,_,U,_,U,rl,xs4,U,SqL.of (u17 _ _ f4),λc3 hc3=>?_];rw[aP];have u5:=zD hc3 (.lst (xs4.take j));erw[_,U,sz1,λc4 hc4=>?_];have u6:=zD hc4 (.lst [v]);have lx4:xs4.length=Ds.length:=by rw[f5.length,a7]
   refine⟨c3,c4,_,_,U,U,u6 _ _ zA,zA,oO (by rw[i9]; show _+1<=_; lia),λrq hrq=>?_⟩;have u7:=zD hrq (.lst (xs4.take j++[v]));have u56:=u5.trans u6;have u18:=u17.trans u56;have nR1:¬ cK X lf rq:=λz=>let ⟨_,e⟩:=ex _ z; zH (u18 _ _ e) hrq rfl;erw[_,U,_,_,U,U,sz3,λtq htq=>?_];have u8:=zD htq (.tup [.ref sq',.ref rq,.int ((j:Int)+1)]);erw[_,U,_,U,sz2,λtt htt=>?_];have u9:=zD htt (.tup [.ref tq,.bl Ii]);have u89:=u8.trans u9;have u79:=u7.trans u89;have uN:=u18.trans u79;have hLn:=hL4.to (.of uN);obtain⟨hz1,hz2⟩:=WM (D:=D) (X:=aft S D) hl hj eS;have u6n:=u34.trans (u56.trans u79);refine q tt tq lf (Ss.take (j+1)++[aft S D]) (Ds.take j++[D]) (j+1) _ (s04.trans (.of uN)) (.inr flf) zA ⟨⟨aft S D,?_,?_⟩,⟨sq',rq,u9 _ _ zA,nS1,nR1,⟨ss4.take (j+1)++[d2],?_,?_,?_⟩,xs4.take j++[v],u89 _ _ zA,?_⟩,.inl hb.xp,.inr rfl,?_,?_,?_,?_,?_⟩ (λx z=>let ⟨_,e⟩:=ex x z;⟨_,uN _ _ e⟩)
   ·rw[Ay (by rw[i9]; lia),i9,show j+1-min (j+1) Ss.length=0 by lia];rfl
   ·rw[hz1,hz2];rwa[bl4.to (.of uN)]
   ·rw[j5];exact(u56.trans u79) _ _ E2
   ·rw[f8,f8,i9,i9,f2];rfl
   ·intro i d Y g1 g2;by_cases z:i<j+1
    ·rw[A5 (by rw[i9]; lia),DE,y9 z] at g1 g2;obtain⟨m,b,r,n,n1,k⟩:=f3 i d Y g1 g2;rwa[m,b,r,n,n1,k.to (.of uN)]
    ·rw[Ay (by rw[i9]; lia)] at g1 g2;have z1:=(g9.mp g1).1;rw[i9] at z1 g1;rw[i9] at g2;simp only[m9,Am] at z1;rw[show i-min (j+1) ss4.length=0 by lia] at g1;rw[show i-min (j+1) Ss.length=0 by lia] at g2;cases g1;cases g2;rwa[m8,b8,r8,n8,r8p,lw8.to (.of u6n)]
   ·have w:=(f5.take j).app (.one rv4);rw[<- C4] at w;rw[j5];rwa[w.to (.of uN)]
   ·rw[f8,f8,i9,i9];show _+1=_+1+1;lia
   ·rw[f8,i9];show _<=_+1;lia
   ·rw[f8,i9];show _+1<=_;lia
   ·intro Y hY;rcases m7.mp hY with z | z
    ·obtain⟨h1,h2,h3⟩:=hb.st Y (Db z);rwa[h1,h2,by lia]
    ·rw[d9.mp z];erw[nt.aft (fO jn),?_,?_]<;> rcases dD (S:=S) (D:=D) with e | e <;> rw[e] <;> lia
   ·rwa[λD' hD'=>(m7.mp hD').elim (λz=>hb.tm D' (Db z)) λz=>d9.mp z ▸ tm]
  ·rw[jc] at et2;have et2:G2 t=Ig (.tup [.str (fq c),.non]):=et2;have et':=s3.tup id et2;erw[_,U,.ref t2,.ref t,U,uk (.inr rfl) et3 et',λG4 s4=>?_];erw[_,U,t,_,0,.str (fq c),U,U,.inr (SqT.of (s4 _ _ et')),U,U,_,U,Tf (Zp c) ?_];erw[_,U,_,U,sz2,λtt htt=>?_];have st:=(s12.trans s3).trans (.of (s4.trans (zD htt (.tup [.ref tp,.bl Ii]))));exact q tt tp l Ss Ds j _ (st.wider λ_ z=>z.elim) (.inl rfl) zA (hb.to st).up (λx z=>let ⟨_,e⟩:=hX x (z.elim id λz=>z ▸ hb.xl); st.some id e)
def yd{H:Hp}{a x:b9}{o:HO}(h:upd H a o x=Ih):H x=none:=by
 by_cases z:x=a
 ·rw[z,zA] at h; cases h
 ·rw[zG z] at h; rwa[h]
def Yh{H H1:Hp}{b dx:b9}{o o':HO}(s:yY (λx=>x=b) (upd (upd H dx o) b o') H1)(hb:H b=Ih)(hdx:H dx=Ih):Sam H H1:=λx v _ e=>by
 have n:x≠b:=zH e hb;rwa[s x v n (by rw[zG n,zG (zH e hdx)]; exact e)]
def sp_law(K:b7):Sp:=λvs H Q _=>∃(a:b9)(ns:List Int),vs=[.ref a]/\SqL K H a (ns.map V.int)/\ns.length<=63/\∀ H',Q (.bl Ii) H'
def Uf(F:Fun K "law" "law" fk f fd)(Z:Zs mg)(CB:Cb P w mg base)(yBy:Has P w K mg base "_law_same" 6 ["_law_told","_law_due_here"] (qZ K))(yBw:Has P w K mg base "_law_went" 3 ["_law_book","_law_way_here"] (oR K))(yBh:Has P w K mg base "_law_told_so" 8 ["_law_book","_law_past"] (rg K))(h_b_undone:jm P w K mg base vx 1 ["self"] (xo K))(h_b_deeds:jm P w K mg base pN 1 ["self"] (uc K))(yCb:Has P w K mg base "_law_step" 8 ["_law_book","_law_past","_law_d","_law_names_here"] (jK K))(yCf:Has P w K mg base "_law_new" 1 [] (fW K))(h_b_init:jm P w K mg base gA 2 ["self"] (jd K))(yBv:Has P w K mg base "_law_names" 1 ["_law_some","_law_many"] (mG K))(yBr:Has P w K mg base "_law_draws" 2 ["_law_script","_law_many"] (mO K)):yX P w K mg base CX0 9 f fd ["_law_script"] (sp_law K):=by
 specialize tK
 ·obtain⟨a,ns,rfl,_⟩:=h;rfl
 obtain⟨ad,ns,rfl,hS,hl,q⟩:=h
 refine'⟨_,(zC (yE 1 tK.nd ?_)
   (zC (yE 2 tK.nd ?_)
   (zC (yE 3 tK.nd (bx CB.make h_b_init (hr.mono (by decide)) CB.gBook))
   (zC (yE 4 tK.nd (yW (zB (vS (zB (jx yCf (hr.mono (by decide)) rfl) zI)) (zB ?_ (zB yL zI)))))
   (zC (sZ Ax rfl (sU rfl Z.range ?_) (rT 5 tK.nd) (zC (pS ?_ (zp rfl (yG (rT 4 tK.nd) (yG (rT 6 tK.nd) vZ))))
   (zC (zX ?_ (zF (zM xa)) zN)
   (zC (yC (mY (wC CB.m_deeds h_b_deeds (hr.mono (by decide)) (pv 3)) ?_))
   (zC (yC (mY (wC CB.m_undone h_b_undone (hr.mono (by decide)) (pv 3)) ?_))
   (zF (zX ?_ (zF (zM xa)) zN)))))))
   (zC (pS (pv 4) (zp rfl (yG (rT 7 tK.nd) (yG (rT 8 tK.nd) (yG (rT 9 tK.nd) vZ)))))
   (zC (sZ Ax rfl (ap ?_) (zp rfl (yG (rT 10 tK.nd) (yG (rT 11 tK.nd) vZ))) (zC (sZ Ax rfl (sU rfl Z.range (zB (pv 11) zI)) (rT 5 tK.nd) (zC (yE 12 tK.nd ?_)
   (zC (zX ?_ (zF (zM xa)) zN)
   (zC (yE 9 tK.nd (pv 12))
   (zF (zX ?_ (zF (zM xa)) zN))))))
   (zF (zX ?_ (zF (zM xa)) zN))))
   (zF (zM xa))))))))),?_⟩
 nofun
 erw[_,U,ad,ns,290,U,hS,hl,by decide,by decide,λrr rows H1 s1 hr0 er1 l1 l2 bd=>?_];obtain⟨v0,a0,y0⟩:=xQ bd (k:=0) (by decide) (by lia);obtain⟨v1,a1,y1⟩:=xQ bd (k:=1) (by decide) (by lia);obtain⟨v8,a8,y8⟩:=xQ bd (k:=8) (by decide) (by lia);have cut:∀ k:Nat,k<=289->zg (rows.map V.int) (Ig (k:Int)) Ih=(rows.drop k).map V.int:=λk hk=>by rw[ux,HT.sIx_nat rows.length 0 k,show min k rows.length=k by lia,show HT.sIx rows.length rows.length Ih=rows.length from rfl,Aa (by rw[p0]; lia)]
 have sq:∀{H':Hp},H' rr=Ig (.lst (rows.map V.int))->Sq K H' rr (rows.map V.int):=λh=>.inl (SqL.of h);erw[_,U,_,U,rr,_,U,SqL.of er1,λc hc=>?_];have ct2:zg (rows.map V.int) (Ig 2) Ih=(rows.drop 2).map V.int:=cut 2 (by decide);have sc:=zD hc (.lst (zg (rows.map V.int) (Ig 2) Ih));obtain⟨many,em⟩:∃ n:Nat,3+v0%4=(n:Int):=⟨(3+v0%4).toNat,by lia⟩;exists _,U,rr,_,_,_,U,U,sq (sc _ _ er1),a0,_,_,U,U,gt4,_,_,U,rfl;rw[em];erw[c,rows.drop 2,many,U,SqL.of (by rw[zA,ct2]),(by rw[p0]; lia),(by lia),(λv hv=>bd v (Bj hv)),λR nms H2 s2 hR eR ln okn nod=>?_];have er2:=s2 _ _ (sc _ _ er1);have ln1:1<=nms.length:=by lia
 clear s2 s1 er1 hR hr0 hS hl sc hc;intro bk dx hb hdx nbd;refine⟨bk,dx,U,zA,λp l0 H3 s3 hp hl0 bl=>⟨U,?_⟩⟩;have sA3:=Yh s3 hb hdx;have fp:H2 p=none:=yd (yd hp);have nrr:rr≠p:=zH er2 fp;have nR:R≠p:=zH eR fp;have er3:=sA3.lst id er2;have eR3:=sA3.lst id eR;have nrl:rr≠l0:=zH er2 (yd (yd hl0));have nRl:R≠l0:=zH eR (yd (yd hl0));clear sA3 s3 hp hl0 hb hdx nbd er2 eR fp;obtain⟨dy,dd,ps,ls,k3⟩:=id bl;refine⟨U,λd m b r n H5 s5 hd hm hrr ed em eb er en _ _=>?_⟩;have lw5:LwA H5 d m b r n BS.nil:=⟨.inl ed,.nil em,.nil eb,⟨[],er,zY.mpr rfl⟩,.nil en⟩;refine⟨sz1,λsl hsl=>⟨sz0,λrl hrl=>⟨sz3,λtp htp=>?_⟩⟩⟩;have u1:=zD hsl (.lst [.ref d]);have u2:=zD hrl (.lst []);have u3:=zD htp (.tup [.ref sl,.ref rl,.int 0]);have u13:=(u1.trans u2).trans u3;have s6:=s5.trans u13;have h0:HB bkC (upd (upd (upd H5 sl (.lst [.ref d])) rl (.lst [])) tp (.tup [.ref sl,.ref rl,.int 0])) bk p l0 (λx=>x=p\/x=l0) tp [BS.nil] [] 0 0:=by
  refine⟨⟨BS.nil,rfl,bl.to (.of s6)⟩,⟨sl,rl,zA,(λz=>z.elim (zH (s5 _ _ k3.pa) hsl).symm (zH (s5 _ _ k3.la) hsl).symm),(λz=>z.elim (zH (u1 _ _ (s5 _ _ k3.pa)) hrl).symm (zH (u1 _ _ (s5 _ _ k3.la)) hrl).symm),⟨[d],u3 _ _ (u2 _ _ zA),rfl,λi d' S g1 g2=>?_⟩,[],u3 _ _ zA,zY.mpr rfl⟩,.inl rfl,.inr rfl,rfl,d6 _,d6 _,λS hS=>?_,λD hD=>nomatch hD⟩
  ·have z:=(g9.mp g1).1;have z:i=0:=by simpa using z
   subst z;cases g1;cases g2;rwa[m,b,r,n,(λz=>z.elim (zH k3.pa hrr).symm (zH k3.la hrr).symm),lw5.to (.of u13)]
  ·rw[d9.mp hS];rwa[pi.nil,by decide,by decide]
 have x0:∀ x,(x=p\/x=l0)->∃ o,(upd (upd (upd H5 sl (.lst [.ref d])) rl (.lst [])) tp (.tup [.ref sl,.ref rl,.int 0])) x=Ig o:=λx z=>z.elim (λz=>⟨_,z ▸ s6 _ _ k3.pa⟩) λz=>⟨_,z ▸ s6 _ _ k3.la⟩;have er6:=s6 _ _ er3;have eR6:=s6 _ _ eR3;generalize upd (upd (upd H5 sl (.lst [.ref d])) rl (.lst [])) tp (.tup [.ref sl,.ref rl,.int 0])=H6 at h0 x0 er6 eR6 ⊢;clear s6 u13 u3 u2 u1 s5 k3 bl lw5 er3 eR3 hd hm hrr ed em eb er en hsl hrl htp;exists _,U,rr,_,_,_,U,U,sq er6,a1,_,_,U,U,(by show(0:Int)<25; decide);have n0:0<=v1%25:=by lia
 have n24:v1%25<=24:=by lia
 generalize v1%25=N at n0 n24 ⊢;have no:∀{d l:b9}{m:g8},m = "deeds" \/ m = "undone" ->(bkF d p l).lookup m=none:=λ{d l m} e=>by rcases e with e | e <;> subst e <;> rwa[jf (by ac_nf) (by ac_nf) (by ac_nf)]
 refine⟨_,U,by lia,by lia,sG (lo:=0) (n:=N.toNat) (λi σ H'=>∃(l tp:b9)(X:b9->Prop)(Ss:List BS)(Ds:List Deed)(j:Nat),HB bkC H' bk p l X tp Ss Ds j i/\(∀ x,X x->∃ o,H' x=Ig o)/\H' rr=Ig (.lst (rows.map V.int))/\H' R=Ig (.lst (nms.map V.str))/\rr≠l/\R≠l/\∃ u5 u6:Option V,σ=[Ig (.ref ad),Ig (.ref rr),Ig (.ref R),Ig (.ref bk),Ig (.ref tp),u5,u6,Ih,Ih,Ih,Ih,Ih,Ih])
  ⟨l0,tp,_,[BS.nil],[],0,h0,x0,er6,eR6,nrl,nRl,Ih,Ih,rfl⟩ ?_ ?_⟩
 ·rintro i σ G hi ⟨l,tp,X,Ss,Ds,j,hb,hX,erG,eRG,n1,n2,u5,u6,rfl⟩;have ck:zg (rows.map V.int) (Ig (9+11*(0+(i:Int)))) Ih=(rows.drop (9+11*i)).map V.int:=by
   rw[show 9+11*(0+(i:Int))=((9+11*i:Nat):Int) by lia];rwa[cut _ (by lia)]
  refine⟨_,U,_,U,_,U,_,U,_,_,U,U,YR (by lia),_,_,U,U,_,U,rr,_,U,SqL.of erG,λc hc=>?_⟩;have sc:=zD hc (.lst (zg (rows.map V.int) (Ig (9+11*(0+(i:Int)))) Ih));refine⟨_,rfl,bk,p,l,tp,c,R,X,rows.drop (9+11*i),nms,Ss,Ds,j,i,rfl,hb.to (.of sc),(λx z=>let ⟨_,e⟩:=hX x z;⟨_,sc _ _ e⟩),(by lia),(by rw[zA,ck]),(by rw[p0]; lia),(λv hv=>bd v (Bj hv)),sc _ _ eRG,ln1,okn,λt tp' l' Ss' Ds' j' G1 s1 hl' et hb1 hX1=>?_⟩;obtain⟨S,eS,dx,d,ps,ls,kk⟩:=hb.bk;have nB:∀{x:b9}{xs:List V},G x=Ig (.lst xs)->x≠p->x≠l->¬ Bl bk p l x:=λe h1 h2 z=>by
   rcases z with z | z | z
   ·rw[z,kk.ob] at e; cases e
   ·rwa[h1 z]
   ·rwa[h2 z]
  have er1:=s1.lst (nB erG nrr n1) (sc _ _ erG);have eR1:=s1.lst (nB eRG nR n2) (sc _ _ eRG);have n1':rr≠l':=hl'.elim (λz=>z ▸ n1) λz=>zH (sc _ _ erG) z;have n2':R≠l':=hl'.elim (λz=>z ▸ n2) λz=>zH (sc _ _ eRG) z;clear sc hc ck nB kk s1 hl' hb erG eRG n1 n2 eS;exists t,_,U,SqT.of et,U,.ref tp',_,U,.bl Ii,_,U,rfl;erw[_,U,_,U,yO ?_];have hl1:=hb1.len;have hj1:=hb1.le;have lk1:=hb1.lk;have lz:(Ds'.zip Ss').length=Ds'.length:=by rw[AK]; lia
  have lz2:(Ds'.zip Ss'.tail).length=Ds'.length:=by rw[AK,Co]; lia
  obtain⟨S1,_,bl1⟩:=hb1.bk;have b1:=bl1.at;obtain⟨dx1,_,_,_,_,k1⟩:=id b1;refine⟨_,U,bk,dx1,_,U,k1.ob,no (.inl rfl),bk,p,S1,_,_,U,b1,(by rw[i9]; lia),λg1 xs1 G2 s2 hg1 eg1 rg1=>?_⟩;refine⟨.inl ⟨U,_,SqL.of eg1⟩,sz2,λq1 hq1=>?_⟩;have w1:=zD hq1 (.tup [.str "level",.str "a"]);exists g1,xs1,.ref q1,U,U,w1 _ _ eg1,zT (by rw[rg1.length,a7,i9]; lia);have t2:=(s2.trans w1).putNew (o:=.lst (xs1++[.ref q1])) hg1;generalize upd (upd G2 q1 (.tup [.str "level",.str "a"])) g1 (.lst (xs1++[.ref q1]))=G3 at t2 ⊢;have b3:=b1.to (.of t2);obtain⟨dx3,_,_,_,_,k3⟩:=id b3;refine⟨_,U,bk,dx3,_,U,k3.ob,no (.inr rfl),bk,p,S1,_,_,U,b3,(by rw[x8,p0]; lia),λg4 xs4 G4 s4 hg4 eg4 rg4=>?_⟩;refine⟨.inl ⟨U,_,SqL.of eg4⟩,sz2,λq4 hq4=>?_⟩;have w4:=zD hq4 (.tup [.str "level",.str "a"]);exists g4,xs4,.ref q4,U,U,w4 _ _ eg4,zT (by rw[rg4.length,a7,x8,x8,p0]; lia);have t4:=t2.trans ((s4.trans w4).putNew (o:=.lst (xs4++[.ref q4])) hg4);generalize upd (upd G4 q4 (.tup [.str "level",.str "a"])) g4 (.lst (xs4++[.ref q4]))=G5 at t4 ⊢;have hb5:=hb1.to (.of t4);have hX5:∀ x,cK X l' x->∃ o,G5 x=Ig o:=λx z=>let ⟨_,e⟩:=hX1 x z;⟨_,t4 _ _ e⟩;have er5:=t4 _ _ er1;have eR5:=t4 _ _ eR1;clear t4 w4 s4 rg4 eg4 hg4 hq4 b3 k3 t2 w1 s2 rg1 eg1 hg1 hq1 b1 k1 bl1 hb1 er1 eR1 et;have inv:∀ H',Sam G5 H'->∃(l tp:b9)(X:b9->Prop)(Ss:List BS)(Ds:List Deed)(j:Nat),HB bkC H' bk p l X tp Ss Ds j (i+1)/\(∀ x,X x->∃ o,H' x=Ig o)/\H' rr=Ig (.lst (rows.map V.int))/\H' R=Ig (.lst (nms.map V.str))/\rr≠l/\R≠l/\∃ u5 u6:Option V,[Ig (.ref ad),Ig (.ref rr),Ig (.ref R),Ig (.ref bk),Ig (.ref tp'),Ig (.int (0+(i:Int))),Ig (.bl Ii),Ih,Ih,Ih,Ih,Ih,Ih]=[Ig (.ref ad),Ig (.ref rr),Ig (.ref R),Ig (.ref bk),Ig (.ref tp),u5,u6,Ih,Ih,Ih,Ih,Ih,Ih]:=λH' s' =>
   ⟨l',tp',_,Ss',Ds',j',hb5.to s',(λx z=>let ⟨_,e⟩:=hX5 x z; s'.some id e),s'.lst id er5,s'.lst id eR5,n1',n2',_,_,rfl⟩
  exists _,U,rr,_,_,_,U,U,sq er5,a8,_,_,U,U,gt2,U,_,rfl;erw[ifE (λz=>xO ?_) (λz=>?_)]
  ·rwa[_,U,_,U,bk,p,l',tp',_,Ss',Ds',j',i+1,U,hb5,(by lia),λH' s'=>⟨_,U,yO (inv H' s')⟩]
  exists _,U,_,_,U,U,gt4,U,_,rfl;erw[ifE (λz2=>?_) (λz2=>?_)]
  ·rwa[_,U,_,U,bk,p,l',tp',_,Ss',Ds',j',i+1,U,hb5,(by lia),λH' s'=>⟨_,U,yO (inv H' s')⟩]
  ·rwa[inv _ (yY.refl _)]
 ·rintro σ G ⟨l,tp,X,Ss,Ds,j,hb,hX,erG,eRG,n1,n2,u5,u6,rfl⟩;obtain⟨sl,rl,et,hc⟩:=hb.hc;obtain⟨xs0,e4,e5⟩:=hc.hl.r;have lx0:(xs0.length:Int)=Ds.length:=by rw[e5.length,a7]
  have hl:=hc.len;have hj:=hc.le;have lk:=hc.lk;have lz:(Ds.zip Ss).length=Ds.length:=by rw[AK]; lia
  have lz2:(Ds.zip Ss.tail).length=Ds.length:=by rw[AK,Co]; lia
  have lp1:∀ j,((Ds.zip Ss).take j).length<=400:=λj=>by rw[i9]; lia
  have lp2:∀ j,((Ds.zip Ss.tail).drop j).reverse.length<=400:=λj=>by rw[x8,p0]; lia
  exists _,U,tp,_,U,SqT.of et,U,.ref sl,_,U,.ref rl,_,U,.int j,_,U,rfl;refine⟨_,U,sz2,λq1 hq1=>?_⟩;have w1:=zD hq1 (.tup [.int 0,.int j]);exists _,U,rl,xs0,U,.inl (SqL.of (w1 _ _ e4));rw[lx0];refine⟨sz2,λq2 hq2=>⟨sz2,λtt htt=>?_⟩⟩;have w2:=zD hq2 (.tup [.int 1,.int Ds.length]);have w3:=zD htt (.tup [.ref q1,.ref q2]);have Q1:=w3 _ _ (w2 q1 _ zA);have Q2:=w3 q2 _ zA;have QT:upd (upd (upd G q1 (.tup [.int 0,.int j])) q2 (.tup [.int 1,.int Ds.length])) tt (.tup [.ref q1,.ref q2]) tt=Ig (.tup [.ref q1,.ref q2]):=zA;have hT:=hc.to (.of ((w1.trans w2).trans w3));generalize upd (upd (upd G q1 (.tup [.int 0,.int j])) q2 (.tup [.int 1,.int Ds.length])) tt (.tup [.ref q1,.ref q2])=Ht at Q1 Q2 QT hT ⊢;clear w1 w2 w3 hq1 hq2 htt et e4 e5 hb hc;obtain⟨St,_,dxt,dt,pst,lst,kt⟩:=hT.bk;have npT:=aj kt.ob kt.pa kt.la;refine⟨tt,U,⟨_,SqT.of QT⟩,gH (K:=K) (a:=tt) (xs:=[.ref q1,.ref q2]) (λi σ H'=>yY (Bl bk p l) Ht H'/\(∃ jj:Nat,HC bkC H' bk p l X sl rl Ss Ds jj N.toNat/\jj=(if i=0 then j else if i=1 then 0 else Ds.length)/\∃ u5 u10 u11 u12:Option V,σ=[Ig (.ref ad),Ig (.ref rr),Ig (.ref R),Ig (.ref bk),Ig (.ref tp),u5,u6,Ig (.ref sl),Ig (.ref rl),Ig (.int jj),u10,u11,u12]))
   ⟨yY.refl _,j,hT,rfl,_,_,_,_,rfl⟩ (λi σ H' _ hq=>SqT.of (hq.1.tup (npT _ _ QT) QT)) ?_ ?_⟩
  ·rintro i x σ G1 hx ⟨s1,jj,h1,ej,u5,u10,u11,u12,rfl⟩
   match i,hx,ej with
   | 0,hx,ej =>
    cases hx;rw[y9 rfl] at ej;subst ej;have E1:=s1.tup (npT _ _ Q1) Q1;exists q1,_,U,SqT.of E1,U,.int 0,_,U,.int jj,_,U,rfl;refine⟨_,U,_,U,by lia,by lia,sG (lo:=0) (n:=((jj:Nat):Int).toNat) (λi σ H'=>yY (Bl bk p l) Ht H'/\HC bkC H' bk p l X sl rl Ss Ds (jj-i) N.toNat/\∃ u5 u12:Option V,σ=[Ig (.ref ad),Ig (.ref rr),Ig (.ref R),Ig (.ref bk),Ig (.ref tp),u5,u6,Ig (.ref sl),Ig (.ref rl),Ig (.int ((jj-i:Nat):Int)),Ig (.int 0),Ig (.int jj),u12])
     ⟨s1,h1,_,_,rfl⟩ ?_ ?_⟩
    ·rintro i σ G2 hi ⟨s2,h2,u5,u12,rfl⟩;obtain⟨D,gD⟩:∃ D,Ds[jj-(i+1)]?=Ig D:=⟨_,d3 (by lia)⟩;have tmD:=h2.tm D (i8 gD);have hth:((jj-i:Nat):Int)+2*0-1=((jj-(i+1):Nat):Int):=by lia
     have hmn:(if ((jj-(i+1):Nat):Int)<((jj-i:Nat):Int) then((jj-(i+1):Nat):Int) else((jj-i:Nat):Int))=((jj-(i+1):Nat):Int):=by split <;> lia
     exists _,U,_,U,_,_,U,U,YR (by decide),_,_,U,U,_,_,U,rfl;rw[hth];rw[show jj-i=jj-(i+1)+1 by lia] at h2;obtain⟨S,eS,bkG⟩:=h2.bk;apply WG (ok:=λtw H2=>∃ vv:V,yY (Bl bk p l) G2 H2/\HC bkC H2 bk p l X sl rl Ss Ds (jj-(i+1)) N.toNat/\Rep H2 D.dt vv/\H2 tw=Ig (.tup [.str "",vv]))
     ·intro rest;exact⟨_,rfl,_,rfl,bk,p,l,0,S,_,_,rfl,bkG,lp2 _,lp1 _,(.inl rfl),(λ_ pre D' S0 e2 tw vv H2 s3 b2 r2 et2=>by obtain⟨rfl,h3⟩:=h2.undo gD eS e2 s3 b2; rwa[rest tw H2 ⟨vv,s3,h3,r2,et2⟩]),(λz=>x4 z (by decide)),(λz0 _=>v7 (by have z:=congrArg A3 (z0 rfl); rw[i9,lz,Am] at z; lia))⟩
     intro tw H2 ⟨vv,s3,h3,r3,et3⟩;obtain⟨xs3,f4,f5⟩:=h3.hl.r;obtain⟨v,gv,rv⟩:=f5.at (i:=jj-(i+1)) (d:=D.dt) (by rw[d8,gD]; rfl);exists _,U,_,U,_,U,_,_,rfl;rw[hmn];erw[rl,_,_,v,U,U,.inl (SqL.of f4),xU gv,sz2,λd2 hd2=>?_];have sd:=zD hd2 (.tup [.str "",v]);erw[.ref tw,.ref d2,U,lY (iq 4 D.dt (pC tmD) (r3.to (.of sd)) (rv.to (.of sd))) (sd _ _ et3) zA,λH3 s4=>⟨_,U,yO ?_⟩];exists _,rfl;erw[_,U,_,U,_,U,_,U,sz3,λtq htq=>?_];have st:=(sd.trans s4).trans (zD htq (.tup [.ref sl,.ref rl,.int ((jj-(i+1):Nat):Int)]));erw[bk,p,l,tq,X,Ss,Ds,jj-(i+1),N.toNat,U,(h3.to (.of st)).hb zA,(by lia),λH4 s5=>⟨_,U,yO ?_⟩];rwa[s2.trans (s3.trans ((yY.of st).trans (s5.wider λ_ z=>z.elim))),(h3.to (.of st)).to s5,_,_,U]
    ·rintro σ G2 ⟨s2,h2,u5,u12,rfl⟩;rw[show jj-((jj:Nat):Int).toNat=0 by lia] at h2 ⊢;obtain⟨S,eS,bkG⟩:=h2.bk;refine⟨_,U,_,U,bk,p,l,0,S,_,_,U,bkG,lp2 _,lp1 _,(.inl rfl),λe pre D S0 e2=>(by simp at e2),λe pre D S0 e2=>x4 e (by decide),λ_ _ tw H2 s3 et3=>?_⟩;erw[sz2,λd2 hd2=>?_];have sd:=zD hd2 (.tup [.str "NothingLeft",.non]);rwa[.ref tw,.ref d2,U,uk (.inr rfl) (sd _ _ et3) zA,λH3 s4=>⟨_,U,yO ⟨s2.trans ((s3.trans (.of (sd.trans s4))).wider λ_ z=>z.elim),0,h2.to (s3.trans (.of (sd.trans s4))),U,_,_,_,_,U⟩⟩]
   | 1,hx,ej =>
    cases hx;rw[y7 (by decide),y9 rfl] at ej;subst ej;have E1:=s1.tup (npT _ _ Q2) Q2;exists q2,_,U,SqT.of E1,U,.int 1,_,U,.int Ds.length,_,U,rfl;refine⟨_,U,_,U,by lia,by lia,sG (lo:=0) (n:=((Ds.length:Nat):Int).toNat) (λi σ H'=>yY (Bl bk p l) Ht H'/\HC bkC H' bk p l X sl rl Ss Ds (i) N.toNat/\∃ u5 u12:Option V,σ=[Ig (.ref ad),Ig (.ref rr),Ig (.ref R),Ig (.ref bk),Ig (.ref tp),u5,u6,Ig (.ref sl),Ig (.ref rl),Ig (.int ((i:Nat):Int)),Ig (.int 1),Ig (.int Ds.length),u12])
     ⟨s1,h1,_,_,rfl⟩ ?_ ?_⟩
    ·rintro i σ G2 hi ⟨s2,h2,u5,u12,rfl⟩;obtain⟨D,gD⟩:∃ D,Ds[i]?=Ig D:=⟨_,d3 (by lia)⟩;have tmD:=h2.tm D (i8 gD);have hth:((i:Nat):Int)+2*1-1=((i+1:Nat):Int):=by lia
     have hmn:(if ((i+1:Nat):Int)<((i:Nat):Int) then((i+1:Nat):Int) else((i:Nat):Int))=((i:Nat):Int):=by split <;> lia
     exists _,U,_,U,_,_,U,U,YR (by decide),_,_,U,U,_,_,U,rfl;rw[hth]
     skip
     obtain⟨S,eS,bkG⟩:=h2.bk;apply WG (ok:=λtw H2=>∃ vv:V,yY (Bl bk p l) G2 H2/\HC bkC H2 bk p l X sl rl Ss Ds (i+1) N.toNat/\Rep H2 D.dt vv/\H2 tw=Ig (.tup [.str "",vv]))
     ·intro rest;exact⟨_,rfl,_,rfl,bk,p,l,1,S,_,_,rfl,bkG,lp2 _,lp1 _,(.inr rfl),(λz=>x4 z (by decide)),(λ_ pre D' S0 e2 tw vv H2 s3 b2 r2 et2=>by obtain⟨rfl,h3⟩:=h2.redo gD eS e2 s3 b2; rwa[rest tw H2 ⟨vv,s3,h3,r2,et2⟩]),(λ_ z1=>v7 (by have z:=congrArg A3 (z1 rfl); rw[x8,p0,lz2,Am] at z; lia))⟩
     intro tw H2 ⟨vv,s3,h3,r3,et3⟩;obtain⟨xs3,f4,f5⟩:=h3.hl.r;obtain⟨v,gv,rv⟩:=f5.at (i:=i) (d:=D.dt) (by rw[d8,gD]; rfl);exists _,U,_,U,_,U,_,_,rfl;rw[hmn];erw[rl,_,_,v,U,U,.inl (SqL.of f4),xU gv,sz2,λd2 hd2=>?_];have sd:=zD hd2 (.tup [.str "",v]);erw[.ref tw,.ref d2,U,lY (iq 4 D.dt (pC tmD) (r3.to (.of sd)) (rv.to (.of sd))) (sd _ _ et3) zA,λH3 s4=>⟨_,U,yO ?_⟩];exists _,rfl;erw[_,U,_,U,_,U,_,U,sz3,λtq htq=>?_];have st:=(sd.trans s4).trans (zD htq (.tup [.ref sl,.ref rl,.int ((i+1:Nat):Int)]));erw[bk,p,l,tq,X,Ss,Ds,i+1,N.toNat,U,(h3.to (.of st)).hb zA,(by lia),λH4 s5=>⟨_,U,yO ?_⟩];rwa[s2.trans (s3.trans ((yY.of st).trans (s5.wider λ_ z=>z.elim))),(h3.to (.of st)).to s5,_,_,U]
    ·rintro σ G2 ⟨s2,h2,u5,u12,rfl⟩;rw[show((Ds.length:Nat):Int).toNat=Ds.length by lia] at h2 ⊢;obtain⟨S,eS,bkG⟩:=h2.bk;refine⟨_,U,_,U,bk,p,l,1,S,_,_,U,bkG,lp2 _,lp1 _,(.inr rfl),λe pre D S0 e2=>x4 e (by decide),λe pre D S0 e2=>(by rw[Bu (by lia)] at e2; simp at e2),λ_ _ tw H2 s3 et3=>?_⟩;erw[sz2,λd2 hd2=>?_];have sd:=zD hd2 (.tup [.str "NothingLeft",.non]);rwa[.ref tw,.ref d2,U,uk (.inr rfl) (sd _ _ et3) zA,λH3 s4=>⟨_,U,yO ⟨s2.trans ((s3.trans (.of (sd.trans s4))).wider λ_ z=>z.elim),Ds.length,h2.to (s3.trans (.of (sd.trans s4))),U,_,_,_,_,U⟩⟩]
  ·rintro σ G1 ⟨s1,jj,h1,ej,u5,u10,u11,u12,rfl⟩;rwa[q _]
end
def Wz{K:b7}{C:b9}{f:g8}(h:AI K (.ref C) f=Ig Ih):yb K C f:=h
def vd(P:B5):Cls (KK P) bkC:=⟨by symm,by symm,by symm,by symm⟩
set_option maxHeartbeats 0 in
def cb_mk{P:j9}{w:n5}{mg:g8->Option c7}{base:n9}(X:At (KK w.params) base)(G:base.Ns mainGlobals mg):Cb P w mg base :=
 ⟨⟨_,X,vd _,Wz (by symm)⟩,
   ⟨_,X,vd _,Wz (by symm)⟩,
   ⟨_,X,vd _,Wz (by symm)⟩,
   ⟨_,X,vd _,⟨(by symm),(by symm),(by symm)⟩⟩,
   ⟨_,X,vd _,⟨(by symm),(by symm),(by symm)⟩⟩,
   ⟨_,X,vd _,⟨(by symm),(by symm),(by symm)⟩⟩,
   ⟨_,X,vd _,⟨(by symm),(by symm),(by symm)⟩⟩,
   ⟨_,X,vd _,⟨(by symm),(by symm),(by symm)⟩⟩,
   ⟨_,X,vd _,⟨(by symm),(by symm),(by symm)⟩⟩,
   ⟨_,X,vd _,⟨(by symm),(by symm),(by symm)⟩⟩,
   ⟨_,X,vd _,⟨(by symm),(by symm),(by symm)⟩⟩,
   ⟨_,X,vd _,⟨(by symm),(by symm),(by symm)⟩⟩,
   ⟨_,X,vd _,⟨(by symm),(by symm),(by symm)⟩⟩,
   ⟨_,X,vd _,⟨(by symm),(by symm),(by symm)⟩⟩,
   ⟨_,X,⟨(by symm),(by symm),(by symm),(by symm)⟩⟩,
   (g6 X G (by symm)),
   (br (ep:=4) (l:=[("marks",535,.int 20,.int 20 536),("banks",537,.int 8,.int 8 538),("runs",539,.int 12,.int 12 540),("notes",541,.int 24,.int 24 542)]) (X _ _ (by symm)) (λe he=>by simp only[i7,Ag,or_false] at he; rcases he with rfl | rfl | rfl | rfl <;> rwa[_,U]) (by ac_nf)),
   (g6 X G (by symm)),
   (br (ep:=10) (l:=[("mark",760,.ref 366,.ref 366),("move",761,.ref 373,.ref 373),("unmark",762,.ref 380,.ref 380),("bank",763,.ref 387,.ref 387),("level",764,.ref 394,.ref 394),("sail",765,.ref 401,.ref 401),("right",766,.ref 408,.ref 408),("bearing",767,.ref 422,.ref 422),("range",768,.ref 429,.ref 429),("strike",769,.ref 436,.ref 436)]) (X _ _ (by symm)) (λe he=>by simp only[i7,Ag,or_false] at he; rcases he with rfl | rfl | rfl | rfl | rfl | rfl | rfl | rfl | rfl | rfl <;> rwa[rfl]) (by ac_nf)),
   (g6 X G (by symm)),
   ⟨548,(g6 X G (by symm))⟩,
   ⟨550,(g6 X G (by symm))⟩,
   ⟨552,(g6 X G (by symm))⟩,
   (g6 X G (by symm)),
   (g6 X G (by symm)),
   (g6 X G (by symm)),
   (g6 X G (by symm)),
   (g6 X G (by symm)),
   (g6 X G (by symm)),
   (g6 X G (by symm)),
   (g6 X G (by symm)),
   (g6 X G (by symm)),
   (g6 X G (by symm)),
   (g6 X G (by symm)),
   (g6 X G (by symm)),
   (g6 X G (by symm)),
   (g6 X G (by symm)),
   (g6 X G (by symm)),
   (g6 X G (by symm)),
   (g6 X G (by symm)),
   (g6 X G (by symm)),
   (g6 X G (by symm)),
   (g6 X G (by symm)),
   (g6 X G (by symm)),
   (g6 X G (by symm)),
   (g6 X G (by symm)),
   (g6 X G (by symm)),
   (g6 X G (by symm)),
   (g6 X G (by symm)),
   (g6 X G (by symm)),
   (g6 X G (by symm)),
   (xF X (g6 X G (by symm)) (by symm)),
   ⟨_,X,(by symm)⟩,
   (xF X (g6 X G (by symm)) (by symm)),
   ⟨_,X,(by symm)⟩,
   (xF X (g6 X G (by symm)) (by symm)),
   ⟨_,X,(by symm)⟩,
   (xF X (g6 X G (by symm)) (by symm)),
   ⟨_,X,(by symm)⟩,
   (xF X (g6 X G (by symm)) (by symm)),
   ⟨_,X,(by symm)⟩,
   (xF X (g6 X G (by symm)) (by symm)),
   ⟨_,X,(by symm)⟩,
   (xF X (g6 X G (by symm)) (by symm)),
   ⟨_,X,(by symm)⟩,
   (xF X (g6 X G (by symm)) (by symm)),
   ⟨_,X,(by symm)⟩,
   (xF X (g6 X G (by symm)) (by symm)),
   ⟨_,X,(by symm)⟩,
   (xF X (g6 X G (by symm)) (by symm)),
   ⟨_,X,(by symm)⟩,
   (xF X (g6 X G (by symm)) (by symm)),
   ⟨_,X,(by symm)⟩,
   (xF X (g6 X G (by symm)) (by symm)),
   ⟨_,X,(by symm)⟩,
   (xF X (g6 X G (by symm)) (by symm)),
   ⟨_,X,(by symm)⟩,
   (xF X (g6 X G (by symm)) (by symm)),
   ⟨_,X,(by symm)⟩,
   (xF X (g6 X G (by symm)) (by symm)),
   ⟨_,X,(by symm)⟩,
   (xF X (g6 X G (by symm)) (by symm)),
   ⟨_,X,(by symm)⟩,
   ⟨_,X,(by symm)⟩⟩
abbrev AtK(Pm:B5)(x:g8)(s:Ah)(f:b9)(oc:c7)(od:Option b9)(sl:Array (Option c7))(kV dc pm:c7)(an:Option b9)(cd ct:c7):Prop :=
 Ao (KK Pm) mainGlobals x=Ig (Ig (.ref f))/\Ad f KC=Ig ⟨oc,od,.func (An x x (wE s) (xH s) (zJ s) .none kV dc pm an cd ct),sl⟩/\Cf KC cd x=Ii/\Au KC (.ref f)=Ii
section
variable{Pm:B5}{x:g8}{s:Ah}{f:b9}{oc kV dc pm cd ct:c7}{od an:Option b9}{sl:Array (Option c7)}{h:n9}{mg:g8->Option c7}
def ZZ(q:AtK Pm x s f oc od sl kV dc pm an cd ct):Fun K x x s f (An x x (wE s) (xH s) (zJ s) .none kV dc pm an cd ct):=aQ (st:=s) (by rw[aF]; rwa[q.2.1]) (by rw[aF]; rwa[q.2.2.1]) (by rw[aF]; rwa[q.2.2.2])
abbrev AtE(Pm:B5)(x:g8)(s:Ah):Prop:=∃(f:b9)(oc:c7)(od:Option b9)(sl:Array (Option c7))(kV dc pm:c7)(an:Option b9)(cd ct:c7),AtK Pm x s f oc od sl kV dc pm an cd ct
def at_mk(q:AtK Pm x s f oc od sl kV dc pm an cd ct):AtE Pm x s:=⟨_,_,_,_,_,_,_,_,_,_,q⟩
def bh(P:j9)(w:n5)(base:n9)(X:At (KK Pm) h)(G:h.Ns mainGlobals mg)(q:AtE Pm x s){ps:List g8}{n:Nat}{sp:Sp}(o:∀ {f:b9} {fd:Aq},Fun K x x s f fd->vb K fd ps []->Au K (.ref f)=Ii->mg x=Ig (.ref f)->yX P w K mg base CX0 n f fd ps sp)
  (b:∀(kV doc pm:c7)(an:Option b9)(cdv ct:c7)(us:List c7),us.length=ps.length->bindArgs (An x x (wE s) (xH s) (zJ s) .none kV doc pm an cdv ct) ⟨us,[]⟩=pure (ps.zip us)):Has P w K mg base x n ps sp:=by
 obtain⟨f,oc,od,sl,kV,dc,pm,an,cd,ct,q⟩:=q;have F:=ZZ q;rwa[_,_,o F (F.binds b) F.kp (g6 X G q.1),F.binds b,F.kp,g6 X G q.1]
def yN(P:j9)(w:n5)(base:n9)(X:At (KK Pm) h)(G:h.Ns mainGlobals mg)(q:AtE Pm x s){ps:List g8}{n:Nat}{sp:Sp}(o:∀ {f:b9} {fd:Aq},Fun K x x s f fd->yX P w K mg base CX0 n f fd ps sp)
  (b:∀(kV doc pm:c7)(an:Option b9)(cdv ct:c7)(us:List c7),us.length=ps.length->bindArgs (An x x (wE s) (xH s) (zJ s) .none kV doc pm an cdv ct) ⟨us,[]⟩=pure (ps.zip us)):Has P w K mg base x n ps sp:=bh P w base X G q (λF _ _ _=>o F) b
abbrev AtM(x q:g8)(s:Ah)(f:b9):Prop:=∃(oc:c7)(od:Option b9)(sl:Array (Option c7))(kV dc pm:c7)(an:Option b9)(cd ct:c7),Ad f KC=Ig ⟨oc,od,.func (An x q (wE s) (xH s) (zJ s) .none kV dc pm an cd ct),sl⟩/\Cf KC cd q=Ii/\Au KC (.ref f)=Ii
def atm_mk{q:g8}(h:Ad f KC=Ig ⟨oc,od,.func (An x q (wE s) (xH s) (zJ s) .none kV dc pm an cd ct),sl⟩/\Cf KC cd q=Ii/\Au KC (.ref f)=Ii):AtM x q s f:=⟨_,_,_,_,_,_,_,_,_,h⟩
def xD(P:j9)(w:n5)(base:n9)(X:At (KK Pm) h)(G:h.Ns mainGlobals mg)(q:AtE Pm x s){ps:List g8}{n:Nat}{sp:Sp}(o:∀ {f:b9} {fd:Aq},Fun K x x s f fd->yX P w K mg base (CX1 P w) n f fd ps sp)
  (b:∀(kV doc pm:c7)(an:Option b9)(cdv ct:c7)(us:List c7),us.length=ps.length->bindArgs (An x x (wE s) (xH s) (zJ s) .none kV doc pm an cdv ct) ⟨us,[]⟩=pure (ps.zip us)):qS P w K mg base x n ps sp:=by
 obtain⟨f,oc,od,sl,kV,dc,pm,an,cd,ct,q⟩:=q;have F:=ZZ q;rwa[_,_,o F,F.binds b,F.kp,g6 X G q.1]
def Vv(P:j9)(w:n5)(base:n9)(X:At (KK Pm) h)(G:h.Ns mainGlobals mg)(q:AtE Pm x s){ps:List g8}{n:Nat}{sp:b9->Sp}(o:∀ {f:b9} {fd:Aq},Fun K x x s f fd->ZL P w K mg base n f fd ps sp)
  (b:∀(kV doc pm:c7)(an:Option b9)(cdv ct:c7)(us:List c7),us.length=ps.length->bindArgs (An x x (wE s) (xH s) (zJ s) .none kV doc pm an cdv ct) ⟨us,[]⟩=pure (ps.zip us)):Ti P w K mg base x n ps sp:=by
 obtain⟨f,oc,od,sl,kV,dc,pm,an,cd,ct,q⟩:=q;have F:=ZZ q;rwa[_,_,o F,F.binds b,F.kp,g6 X G q.1]
def qP(P:j9)(w:n5)(mg:g8->Option c7)(base:n9){q:g8}(a:AtM x q s f){ps:List g8}{n:Nat}{sp:Sp}(o:∀ {fd:Aq},Fun K x q s f fd->yX P w K mg base CX0 n f fd ps sp)
  (b:∀(kV doc pm:c7)(an:Option b9)(cdv ct:c7)(us:List c7),us.length=ps.length->bindArgs (An x q (wE s) (xH s) (zJ s) .none kV doc pm an cdv ct) ⟨us,[]⟩=pure (ps.zip us)):jm P w K mg base f n ps sp:=by
 obtain⟨oc,od,sl,kV,dc,pm,an,cd,ct,a1,a2,a3⟩:=a;rwa[_,o (aQ (st:=s) (by rw[aF]; exact a1) (by rw[aF]; exact a2) (by rw[aF]; exact a3)),b _ _ _ _ _ _]
def ky(P:j9)(w:n5)(mg:g8->Option c7)(base:n9){q:g8}(a:AtM x q s f){ps:List g8}{n:Nat}{sp:Sp}(o:∀ {fd:Aq},Fun K x q s f fd->yX P w K mg base (CX1 P w) n f fd ps sp)
  (b:∀(kV doc pm:c7)(an:Option b9)(cdv ct:c7)(us:List c7),us.length=ps.length->bindArgs (An x q (wE s) (xH s) (zJ s) .none kV doc pm an cdv ct) ⟨us,[]⟩=pure (ps.zip us)):ce P w K mg base f n ps sp:=by
 obtain⟨oc,od,sl,kV,dc,pm,an,cd,ct,a1,a2,a3⟩:=a;rwa[_,o (aQ (st:=s) (by rw[aF]; exact a1) (by rw[aF]; exact a2) (by rw[aF]; exact a3)),b _ _ _ _ _ _]
def K_in{Pm:B5}{h:n9}(X:At (KK Pm) h):At K h:=by
 rw[aF];rwa[YH (F:=KF Pm) (by symm) X]
end
def us0{R:List c7->Prop}(h:R []):∀ us:List c7,us.length=0->R us
 | [],_=>h 
def us1{R:List c7->Prop}(h:∀ a,R [a]):∀ us:List c7,us.length=1->R us
 | [a],_=>h a
def us2{R:List c7->Prop}(h:∀ a b,R [a,b]):∀ us:List c7,us.length=2->R us
 | [a,b],_=>h a b
def us3{R:List c7->Prop}(h:∀ a b c,R [a,b,c]):∀ us:List c7,us.length=3->R us
 | [a,b,c],_=>h a b c
def us4{R:List c7->Prop}(h:∀ a b c d,R [a,b,c,d]):∀ us:List c7,us.length=4->R us
 | [a,b,c,d],_=>h a b c d
def all_mk{l:EC}{w:n5}{h:n9}{mg:g8->Option c7}{fa:b9}(X:At (KK w.params) h)(G:h.Ns mainGlobals mg)(hfa:mg "law" = Ig (.ref fa))
  {f61:b9}
  {oc61 kV61 dc61 pm61 cd61 ct61:c7}
  {od61 an61:Option b9}
  {sl61:Array (Option c7)}
  (q1:AtE w.params "turn" pM)
  (q2:AtE w.params "stretch_way" uF)
  (q3:AtE w.params "all_left_of" uM)
  (q4:AtE w.params "is_bank" rZ)
  (q5:AtE w.params "nothing_yet" uJ)
  (q6:AtE w.params "changed" qI)
  (q7:AtE w.params "without" qD)
  (q8:AtE w.params "within" yi)
  (q9:AtE w.params "check_name" vI)
  (q10:AtE w.params "check_free" vE)
  (q11:AtE w.params "check_place" uT)
  (q12:AtE w.params "check_run" tO)
  (q13:AtE w.params "check_room" vJ)
  (q14:AtE w.params "check_mark" vH)
  (q15:AtE w.params "check_moment" wQ)
  (q16:AtE w.params "check_way" tN)
  (q17:AtE w.params "check_apart" uE)
  (q18:AtE w.params "after_mark" vC)
  (q19:AtE w.params "after_move" vD)
  (q20:AtE w.params "after_unmark" wR)
  (q21:AtE w.params "after_bank" vK)
  (q22:AtE w.params "after_level" uI)
  (q23:AtE w.params "after_sail" vA)
  (q24:AtE w.params "after_right" uQ)
  (q25:AtE w.params "after_note" vG)
  (q26:AtE w.params "after_bearing" wF)
  (q27:AtE w.params "after_range" uC)
  (q28:AtE w.params "after_strike" wP)
  (q29:AtE w.params "after" wx)
  (q30:AtE w.params "_law_power" wo)
  (q31:AtE w.params "_law_draws" vy)
  (q32:AtE w.params "_law_names" ww)
  (q33:AtE w.params "_law_new" lD)
  (q34:AtE w.params "_law_same" wn)
  (q35:AtE w.params "_law_refused" qM)
  (q36:AtE w.params "_law_went" ph)
  (q37:AtE w.params "_law_strange" qF)
  (q38:AtE w.params "_law_pick" pw)
  (q39:AtE w.params "_law_far_number" vL)
  (q40:AtE w.params "_law_way" lQ)
  (q41:AtE w.params "_law_turned" yl)
  (q42:AtE w.params "_law_left_pair" tP)
  (q43:AtE w.params "_law_bearing_deed" wO)
  (q44:AtE w.params "_law_deed" pK)
  (q45:AtE w.params "_law_is_name" qL)
  (q46:AtE w.params "_law_near" pG)
  (q47:AtE w.params "_law_mark_word" tM)
  (q48:AtE w.params "_law_bank_word" tL)
  (q49:AtE w.params "_law_run_word" sW)
  (q50:AtE w.params "_law_note_word" tS)
  (q51:AtE w.params "_law_word" pB)
  (q52:AtE w.params "_law_due" kF)
  (q53:AtE w.params "_law_done" pO)
  (q54:AtE w.params "_law_after" vq)
  (q55:AtE w.params "_law_step" pk)
  (q56:AtE w.params "_law_marks_of" rB)
  (q57:AtE w.params "_law_stands" yk)
  (q58:AtE w.params "_law_told_so" qA)
  (q59:AtE w.params "_law_drawn_bank" vF)
  (q60:AtE w.params "_law_round_enough" wS)
  (q61:AtK w.params "law" fk f61 oc61 od61 sl61 kV61 dc61 pm61 an61 cd61 ct61)
  (q62:AtM "__init__" "Book.__init__" pA gA)
  (q63:AtM "deed" "Book.deed" pJ gj)
  (q64:AtM "step" "Book.step" pf lK)
  (q65:AtM "undo" "Book.undo" pj fh)
  (q66:AtM "redo" "Book.redo" pE gq)
  (q67:AtM "deeds" "Book.deeds" vc pN)
  (q68:AtM "undone" "Book.undone" ym vx)
  (q69:AtM "marks" "Book.marks" wy kE)
  (q70:AtM "banks" "Book.banks" ve kA)
  (q71:AtM "runs" "Book.runs" pQ ff)
  (q72:AtM "notes" "Book.notes" wm lX)
  (q73:AtM "coming" "Book.coming" yh wr)
  (z_ValueError:Ao (KK w.params) mainGlobals "ValueError" = Ig Ih)
  (z_abs:Ao (KK w.params) mainGlobals "abs" = Ig Ih)
  (z_all:Ao (KK w.params) mainGlobals "all" = Ig Ih)
  (z_any:Ao (KK w.params) mainGlobals "any" = Ig Ih)
  (z_bool:Ao (KK w.params) mainGlobals "bool" = Ig Ih)
  (z_dict:Ao (KK w.params) mainGlobals "dict" = Ig Ih)
  (z_int:Ao (KK w.params) mainGlobals "int" = Ig Ih)
  (z_isinstance:Ao (KK w.params) mainGlobals "isinstance" = Ig Ih)
  (z_len:Ao (KK w.params) mainGlobals "len" = Ig Ih)
  (z_list:Ao (KK w.params) mainGlobals "list" = Ig Ih)
  (z_max:Ao (KK w.params) mainGlobals "max" = Ig Ih)
  (z_min:Ao (KK w.params) mainGlobals "min" = Ig Ih)
  (z_range:Ao (KK w.params) mainGlobals "range" = Ig Ih)
  (z_reversed:Ao (KK w.params) mainGlobals "reversed" = Ig Ih)
  (z_sorted:Ao (KK w.params) mainGlobals "sorted" = Ig Ih)
  (z_str:Ao (KK w.params) mainGlobals "str" = Ig Ih)
  (z_tuple:Ao (KK w.params) mainGlobals "tuple" = Ig Ih)
  (z_zip:Ao (KK w.params) mainGlobals "zip" = Ig Ih) :
  ∃ fd:Aq,(∀(s:d4)(v:c7),Ej s fd ⟨[v],[]⟩ [("_law_script",v)])/\∀ base:n9,At (KK w.params) base->base.Ns mainGlobals mg->yX l.prog w K mg base CX0 9 fa fd ["_law_script"] (sp_law K):=by
 have e:=hfa.symm.trans (g6 X G q61.1);cases e;have Z:Zs mg:=⟨o9 X G z_ValueError,o9 X G z_abs,o9 X G z_all,o9 X G z_any,o9 X G z_bool,o9 X G z_dict,o9 X G z_int,o9 X G z_isinstance,o9 X G z_len,o9 X G z_list,o9 X G z_max,o9 X G z_min,o9 X G z_range,o9 X G z_reversed,o9 X G z_sorted,o9 X G z_str,o9 X G z_tuple,o9 X G z_zip⟩;erw[An "law" "law" (wE fk) (xH fk) (zJ fk) .none kV61 dc61 pm61 an61 cd61 ct61,λs v=>.of_eq rfl,λbase KB GB=>?_];have CB:Cb l.prog w mg base:=cb_mk KB GB;have yBz:=yN l.prog w base X G q1 (λF=>aN F Z CB ) (λ_ _ _ _ _ _=>us2 λ_ _=>rfl);have yAm:=yN l.prog w base X G q2 (λF=>qr F Z CB ) (λ_ _ _ _ _ _=>us2 λ_ _=>rfl);have yAn:=yN l.prog w base X G q3 (λF=>ql F Z CB yBz yAm) (λ_ _ _ _ _ _=>us2 λ_ _=>rfl);have yBn:=yN l.prog w base X G q4 (λF=>hU F Z CB yAn) (λ_ _ _ _ _ _=>us1 λ_=>rfl);have yAl:=yN l.prog w base X G q5 (λF=>qk F Z CB ) (λ_ _ _ _ _ _=>us0 rfl);have yBl:=yN l.prog w base X G q6 (λF=>ij F Z CB ) (λ_ _ _ _ _ _=>us4 λ_ _ _ _=>rfl);have yBi:=yN l.prog w base X G q7 (λF=>iF F Z CB ) (λ_ _ _ _ _ _=>us3 λ_ _ _=>rfl);have yBq:=yN l.prog w base X G q8 (λF=>gc F Z CB ) (λ_ _ _ _ _ _=>us2 λ_ _=>rfl);have yAq:=xD l.prog w base X G q9 (λF=>oP F Z CB ) (λ_ _ _ _ _ _=>us1 λ_=>rfl);have yAw:=xD l.prog w base X G q10 (λF=>ng F Z CB ) (λ_ _ _ _ _ _=>us3 λ_ _ _=>rfl);have yAk:=xD l.prog w base X G q11 (λF=>pz F Z CB yBq) (λ_ _ _ _ _ _=>us1 λ_=>rfl);have yAz:=xD l.prog w base X G q12 (λF=>nW F Z CB yBq) (λ_ _ _ _ _ _=>us1 λ_=>rfl);have yAv:=xD l.prog w base X G q13 (λF=>nv F Z CB ) (λ_ _ _ _ _ _=>us2 λ_ _=>rfl);have yAr:=xD l.prog w base X G q14 (λF=>oU F Z CB ) (λ_ _ _ _ _ _=>us2 λ_ _=>rfl);have yAd:=xD l.prog w base X G q15 (λF=>ue F Z CB ) (λ_ _ _ _ _ _=>us2 λ_ _=>rfl);have yBd:=xD l.prog w base X G q16 (λF=>nO F Z CB yBq) (λ_ _ _ _ _ _=>us1 λ_=>rfl);have yAh:=xD l.prog w base X G q17 (λF=>qq F Z CB ) (λ_ _ _ _ _ _=>us3 λ_ _ _=>rfl);have yAo:=xD l.prog w base X G q18 (λF=>ou F Z CB yBl yAv yAk yAw yAq) (λ_ _ _ _ _ _=>us2 λ_ _=>rfl);have yAy:=xD l.prog w base X G q19 (λF=>nG F Z CB yAh yBl yAk yAr) (λ_ _ _ _ _ _=>us2 λ_ _=>rfl);have yAb:=xD l.prog w base X G q20 (λF=>uh F Z CB yBi yAr) (λ_ _ _ _ _ _=>us2 λ_ _=>rfl)
 have yAu:=xD l.prog w base X G q21 (λF=>oh F Z CB yBl yAv yBn yAk yAw yAq) (λ_ _ _ _ _ _=>us2 λ_ _=>rfl);have yAg:=xD l.prog w base X G q22 (λF=>qa F Z CB yBi) (λ_ _ _ _ _ _=>us2 λ_ _=>rfl);have yAs:=xD l.prog w base X G q23 (λF=>oQ F Z CB yBl yAv yAz) (λ_ _ _ _ _ _=>us2 λ_ _=>rfl);have yAj:=xD l.prog w base X G q24 (λF=>qm F Z CB yBl yAz) (λ_ _ _ _ _ _=>us2 λ_ _=>rfl);have yAx:=xD l.prog w base X G q25 (λF=>oS F Z CB yBl yAv) (λ_ _ _ _ _ _=>us2 λ_ _=>rfl);have yAa:=xD l.prog w base X G q26 (λF=>uw F Z CB yAx yBz yBd yAr yAd) (λ_ _ _ _ _ _=>us2 λ_ _=>rfl);have yAi:=xD l.prog w base X G q27 (λF=>qf F Z CB yAx yAh yAr yAd) (λ_ _ _ _ _ _=>us2 λ_ _=>rfl);have yAe:=xD l.prog w base X G q28 (λF=>uq F Z CB yBi) (λ_ _ _ _ _ _=>us2 λ_ _=>rfl);have yBs:=xD l.prog w base X G q29 (λF=>dP F Z CB yAo yAy yAb yAu yAg yAs yAj yAa yAi yAe) (λ_ _ _ _ _ _=>us2 λ_ _=>rfl);have yBu:=yN l.prog w base X G q30 (λF=>dO F Z ) (λ_ _ _ _ _ _=>us1 λ_=>rfl);have yBr:=yN l.prog w base X G q31 (λF=>cD F Z CB yBu) (λ_ _ _ _ _ _=>us2 λ_ _=>rfl);have yBv:=yN l.prog w base X G q32 (λF=>cA F Z CB ) (λ_ _ _ _ _ _=>us2 λ_ _=>rfl);have yCf:=yN l.prog w base X G q33 (λF=>YJ F Z CB ) (λ_ _ _ _ _ _=>us0 rfl);have yBy:=bh l.prog w base X G q34 (λF b k m=>cO F Z  b k m) (λ_ _ _ _ _ _=>us2 λ_ _=>rfl);have yBk:=Vv l.prog w base X G q35 (λF=>iW F Z CB ) (λ_ _ _ _ _ _=>us1 λ_=>rfl);have yBm:=yN l.prog w base X G q37 (λF=>kN F Z CB ) (λ_ _ _ _ _ _=>us1 λ_=>rfl);have yBx:=yN l.prog w base X G q38 (λF=>aJ F Z CB yBm) (λ_ _ _ _ _ _=>us2 λ_ _=>rfl);have yAt:=yN l.prog w base X G q39 (λF=>nJ F Z CB ) (λ_ _ _ _ _ _=>us1 λ_=>rfl);have yCh:=yN l.prog w base X G q40 (λF=>YX F Z CB ) (λ_ _ _ _ _ _=>us3 λ_ _ _=>rfl);have yBo:=yN l.prog w base X G q41 (λF=>gL F Z CB ) (λ_ _ _ _ _ _=>us2 λ_ _=>rfl);have yBc:=yN l.prog w base X G q42 (λF=>nP F Z CB yBo yCh) (λ_ _ _ _ _ _=>us2 λ_ _=>rfl);have yAf:=yN l.prog w base X G q43 (λF=>ur F Z CB yBc yBx) (λ_ _ _ _ _ _=>us3 λ_ _ _=>rfl);have yBj:=yN l.prog w base X G q45 (λF=>jt F Z CB ) (λ_ _ _ _ _ _=>us1 λ_=>rfl);have yCc:=yN l.prog w base X G q46 (λF=>bH F Z CB ) (λ_ _ _ _ _ _=>us2 λ_ _=>rfl);have yBb:=yN l.prog w base X G q47 (λF=>my F Z CB yCc yBj) (λ_ _ _ _ _ _=>us2 λ_ _=>rfl)
 have yBg:=yN l.prog w base X G q49 (λF=>lI F Z CB yCc) (λ_ _ _ _ _ _=>us2 λ_ _=>rfl);have yBa:=yN l.prog w base X G q50 (λF=>nQ F Z CB yBo) (λ_ _ _ _ _ _=>us2 λ_ _=>rfl);have yBt:=yN l.prog w base X G q54 (λF=>dR F Z CB ) (λ_ _ _ _ _ _=>us2 λ_ _=>rfl);have yBf:=yN l.prog w base X G q56 (λF=>mX F Z CB ) (λ_ _ _ _ _ _=>us1 λ_=>rfl);have yAp:=yN l.prog w base X G q59 (λF=>oK F Z CB ) (λ_ _ _ _ _ _=>us1 λ_=>rfl);have yCd:=yN l.prog w base X G q44 (λF=>bg F Z CB yBx yAf yAp yAt) (λ_ _ _ _ _ _=>us3 λ_ _ _=>rfl);have yAc:=yN l.prog w base X G q60 (λF=>tz F Z CB ) (λ_ _ _ _ _ _=>us1 λ_=>rfl);have yBe:=yN l.prog w base X G q48 (λF=>nU F Z CB yAc yCc yBj) (λ_ _ _ _ _ _=>us2 λ_ _=>rfl);have yCa:=yN l.prog w base X G q51 (λF=>Zz F Z CB yBa yBg yBe yBb) (λ_ _ _ _ _ _=>us2 λ_ _=>rfl);have yCg:=yN l.prog w base X G q52 (λF=>Yi F Z CB yCa) (λ_ _ _ _ _ _=>us2 λ_ _=>rfl);have h_b_init:=qP l.prog w mg base q62 (λF=>cU F Z CB yAl) (λ_ _ _ _ _ _=>us1 λ_=>rfl);have h_b_step:=qP l.prog w mg base q64 (λF=>aT F Z CB ) (λ_ _ _ _ _ _=>us3 λ_ _ _=>rfl);have h_b_undo:=ky l.prog w mg base q65 (λF=>Zt F Z CB h_b_step) (λ_ _ _ _ _ _=>us1 λ_=>rfl);have h_b_redo:=ky l.prog w mg base q66 (λF=>Zi F Z CB h_b_step) (λ_ _ _ _ _ _=>us1 λ_=>rfl);have yBw:=yN l.prog w base X G q36 (λF=>aW F Z CB h_b_undo h_b_redo yBk) (λ_ _ _ _ _ _=>us2 λ_ _=>rfl);have h_b_deeds:=qP l.prog w mg base q67 (λF=>cJ F Z CB ) (λ_ _ _ _ _ _=>us1 λ_=>rfl);have h_b_undone:=qP l.prog w mg base q68 (λF=>gg F Z CB ) (λ_ _ _ _ _ _=>us1 λ_=>rfl);have h_b_marks:=qP l.prog w mg base q69 (λF=>cm F Z CB ) (λ_ _ _ _ _ _=>us1 λ_=>rfl);have h_b_banks:=qP l.prog w mg base q70 (λF=>cz F Z CB ) (λ_ _ _ _ _ _=>us1 λ_=>rfl);have h_b_runs:=qP l.prog w mg base q71 (λF=>Zn F Z CB ) (λ_ _ _ _ _ _=>us1 λ_=>rfl);have h_b_notes:=qP l.prog w mg base q72 (λF=>cB F Z CB ) (λ_ _ _ _ _ _=>us1 λ_=>rfl);have h_b_coming:=qP l.prog w mg base q73 (λF=>gF F Z CB ) (λ_ _ _ _ _ _=>us1 λ_=>rfl);have yBp:=yN l.prog w base X G q57 (λF=>gU F Z CB yBy h_b_notes h_b_coming h_b_runs yBf h_b_banks h_b_marks) (λ_ _ _ _ _ _=>us2 λ_ _=>rfl);have yBh:=yN l.prog w base X G q58 (λF=>jU F Z CB yBp yBy h_b_undone h_b_deeds) (λ_ _ _ _ _ _=>us2 λ_ _=>rfl);have h_b_deed:=ky l.prog w mg base q63 (λF=>bY F Z CB h_b_coming yBs) (λ_ _ _ _ _ _=>us2 λ_ _=>rfl);have yCe:=yN l.prog w base X G q53 (λF=>bp F Z CB h_b_deed yBk) (λ_ _ _ _ _ _=>us2 λ_ _=>rfl);have yCb:=yN l.prog w base X G q55 (λF=>bw F Z CB yBt yBy yCe yCg yCd yBw) (λ_ _ _ _ _ _=>us4 λ_ _ _ _=>rfl)
 rwa[Uf (ZZ q61) Z CB yBy yBw yBh h_b_undone h_b_deeds yCb yCf h_b_init yBv yBr]
def walk{l:EC}{q:j9}{loose:List g8}{XP:(g8->Option c7)->n9->Prop}{YP:n5->n9->Prop}{d:DefRec}(hn:l.most=Ig 63)(hdf:d.params.defaults=[])
  (hY:∀(w:n5)(h:n9),YP w h->At (KK w.params) h)
  (F:∀(w:n5)(mg:g8->Option c7)(fa:b9)(h:n9),At (KK w.params) h->h.Ns mainGlobals mg->mg d.name=Ig (.ref fa) ->
   ∃ fd:Aq,(∀(s:d4)(u:c7),Ej s fd ⟨[u],[]⟩ [("_law_script",u)])/\∀ base:n9,At (KK w.params) base->base.Ns mainGlobals mg->yX l.prog w K mg base CX0 9 fa fd ["_law_script"] (sp_law K)) :
  Hs q loose XP YP l.row.toRowW d [] (λf vs=>GF f vs) :=
 L2.walk_of3 (n:=63) (k:=9) (x := "_law_script") (KK:=KK) (K:=K) (sp:=sp_law K) hn (by decide) hdf ⟨rfl,by decide,by decide,rfl⟩ hY (λ_ _ X=>K_in X) (λp a o h c=>by rw[aF]; rwa[cX (F:=KF p) (by symm) h c]) F (λ_ a ns hl hS=>⟨a,ns,rfl,hS,hl,λ_=>rfl⟩)

end Sea
open PySem PySem.W PyProof.Rows
set_option maxRecDepth 100000 in
set_option maxHeartbeats 0 in
theorem PySem.Challenge.cw_seamarks_k37_whole_undone_and_redone_holds : PySem.Challenge.rw_seamarks_k37_whole_undone_and_redone.Holds := by
 w_on
 refine holds_law Sea.said_ok λsaid=>?_;refine holds_open (q:=Sea.qv) (loose:=Sea.lse) (XP:=XL Sea.qv []) (YP:=InK Sea.KK) Sea.left_ok (InK.of Sea.kas_ok)
  InK.keeps (λs e=>xl_of s (E7.mp e).1) XL.keeps (by rfl) (by rfl) (by rfl)
  (λs e=>recFacts_of (E7.mp e).2) (by rfl) (by assumption) (by ac_nf)
  ⟨rfl,rfl,rfl,rfl,rfl,by ac_nf⟩ ?hw ?hc
 case hw=>w_witness2
 k_fill
 erw[Sea.walk (l:=PySem.Challenge.rw_seamarks_k37_whole_undone_and_redone) rfl rfl (λw h Y=>Y) ?F]
 case F =>
  intro w mg fa h KX G hmg
  refine' Sea.all_mk KX G hmg ?q1 ?q2 ?q3 ?q4 ?q5 ?q6 ?q7 ?q8 ?q9 ?q10 ?q11 ?q12 ?q13 ?q14 ?q15 ?q16 ?q17 ?q18 ?q19 ?q20 ?q21 ?q22 ?q23 ?q24 ?q25 ?q26 ?q27 ?q28 ?q29 ?q30 ?q31 ?q32 ?q33 ?q34 ?q35 ?q36 ?q37 ?q38 ?q39 ?q40 ?q41 ?q42 ?q43 ?q44 ?q45 ?q46 ?q47 ?q48 ?q49 ?q50 ?q51 ?q52 ?q53 ?q54 ?q55 ?q56 ?q57 ?q58 ?q59 ?q60 ?q61 ?q62 ?q63 ?q64 ?q65 ?q66 ?q67 ?q68 ?q69 ?q70 ?q71 ?q72 ?q73 ?z_ValueError ?z_abs ?z_all ?z_any ?z_bool ?z_dict ?z_int ?z_isinstance ?z_len ?z_list ?z_max ?z_min ?z_range ?z_reversed ?z_sorted ?z_str ?z_tuple ?z_zip
  (case q62 | q63 | q64 | q65 | q66 | q67 | q68 | q69 | q70 | q71 | q72 | q73=>refine' Sea.atm_mk ⟨?b,?c,?d⟩;(case b=>rwa[rfl]);(case c=>symm);(case d=>symm))
  (case q61=>refine'⟨?_,?_,?_,?_⟩; k_is; rwa[rfl]; symm; symm)
  (case q1 | q2 | q3 | q4 | q5 | q6 | q7 | q8 | q9 | q10 | q11 | q12 | q13 | q14 | q15 | q16 | q17 | q18 | q19 | q20 | q21 | q22 | q23 | q24 | q25 | q26 | q27 | q28 | q29 | q30 | q31 | q32 | q33 | q34 | q35 | q36 | q37 | q38 | q39 | q40 | q41 | q42 | q43 | q44 | q45 | q46 | q47 | q48 | q49 | q50 | q51 | q52 | q53 | q54 | q55 | q56 | q57 | q58 | q59 | q60=>refine' Sea.at_mk ⟨?a,?b,?c,?d⟩;(case a=>k_is);(case b=>rwa[rfl]);(case c=>symm);(case d=>symm))
  (case z_ValueError | z_abs | z_all | z_any | z_bool | z_dict | z_int | z_isinstance | z_len | z_list | z_max | z_min | z_range | z_reversed | z_sorted | z_str | z_tuple | z_zip=>k_is)
