import PyProof.Rows.All
import Wide.All
import OpenK.AllK
import Wide.FinOn
import Lean
import PyProof.EqAt
import PyProof.EqKinds
import PyProof.TupleCall
import PyProof.ZipIter
import PyProof.Rows.ZipGen
import PyProof.EnumFor
import PyProof.EnumStmt
import KE.KSortTup
import KE.KDictList
import KE.KItemsList
import KE.KTryMore
import PyProof.Rows.TopTwo
import PyProof.ExcBaseAll.ValueError
import PyProof.ExcAttrAll.ValueError
import PySem.Challenge.RW_seamarks_k45_choices_by_notes
set_option compiler.extract_closed false
set_option Elab.async false
set_option linter.all false
set_option maxRecDepth 100000
set_option maxHeartbeats 4000000
theorem nabs{a:Int}{n:Nat} : a.natAbs<=n↔-(n:Int)<=a/\a<=n:=by omega
local macro_rules | `(tactic| lia) => `(tactic| first | (simp only [nabs] at *; lia (config := {})) | lia (config := {}) | omega)
local macro_rules | `(tactic| exists $es,*) => `(tactic| refine ⟨$es,*, ?_⟩)
open List renaming length_map->b7,getElem?_eq_getElem->c8,getElem?_eq_some_iff->d8,getElem?_map->d9,map_append->e7,mem_singleton->f6,mem_of_getElem?->f7,length_append->f8,size_toArray->g6,mem_map->g7,map_cons->i5,length_take->i7,length_cons->i9,take_length->j9,mem_append->l7,mem_cons->o0,mem_append_right->o8,getElem?_append_right->v9,length_drop->x5,take_succ->x6,lookup_cons->z9,map_map->Ab,mem_cons_of_mem->Af,getElem_mem->Ag,toArray->Ah,take_of_length_le->Ao,lookup->Ap,length->Aq,not_mem_nil->As,getElem?_append_left->At,range->Au,mem_cons_self->Av,mem_map_of_mem->Ay,extract_eq_take_drop->AC,length_nil->AE,find?_cons->AF,mem_append_left->AH,all_eq_true->AU,getElem_of_mem->AV,length_singleton->AW,append_assoc->AX,replicate->Bc,mem_of_mem_drop->Bf,getD_eq_getElem?_getD->Bg,drop_eq_getElem_cons->Bk,perm_append_comm->Br,take_succ_eq_append_getElem->BD,filterMap_cons->BE,length_replicate->BI,getElem?_eq_none->BJ,length_filter_le->BL,any_eq_true->BP,mem_range->BR,pairwise_append->BV,mem_filter->BX,drop_of_length_le->B8,filter_cons->Cd,nodup_iff_pairwise_ne->Ck,pairwise_iff_getElem->Cp,append_nil->Cr,mem_of_mem_take->Cu,pairwise_map->Cv,any_cons->Cy,sublist_append_left->CA,getElem_map->CN,mem_filterMap->CS,find?_eq_none->CT,map_nil->Dk,zipIdx_cons->Dl,map_congr_left->Dx,flatMap_append->Dy,getElem?_take_of_lt->DA,pairwise_cons->DI,getElem?_set_self->DN,ext_getElem?->DS,filter_congr->DU,length_range->DV,take_append_drop->DZ,pairwise_reverse->D5,mem_flatMap->Eh,all_cons->Ei,map_take->Ek,mem_iff_getElem->Es,replicate_succ'->Eu,nodup_cons->Ew,length_set->Ex,reverse_append->EF,all_map->EK,zip_cons_cons->ES,nodup_nil->EX,getElem?_drop->E1,getElem?_take->Fa,mem_or_eq_of_mem_set->Fi,foldl_append->Fm,nodup_append->Fu,mapM_toArray->Fv,reverse_perm->Fy,set_comm->FE,map_drop->FH,getElem?_replicate->FL,map_snd_zip->FP,pairwise_singleton->FQ,filter_cons_of_neg->FS,filter_cons_of_pos->FT,ext_getElem->FU,of_mem_zip->F7,forIn_cons->F9,filter_map->Gc,range_succ->Gd,set_append_right->Gj,filterMap_append->Gn,getElem?_set_ne->Gq,getElem_toArray->Gw,drop_zero->Gz,map_eq_nil_iff->GJ,sum_cons->GM,zip_nil_right->GT,reverse_cons->G9,take_add_one->He,getElem_inj->Hq,cons_append->HE,mem_reverse->HK,take_append->HM,nil_sublist->HQ,zipIdx_nil->Ic,forIn_nil->Iv,all_nil->Jr
open PySem renaming wpAny_bind->b9,Value->c6,Addr->c7,Shared->d7,wpAny_pure->e9,Str->j3,Program->m9,World->r9,Heap->w9,Around->Ac,wpAny_newObj_type->Ak,Expr->Am,Stmt->Ar,wpAny_loadPart'->AD,FuncData->AJ,wpAny_field->AO,wpAny_callSpecial?_slot->AY,wpAny_call_entry->Bj,Obj->By,wpAny_mono->BA,wpAny_truthy_bool->BB,wpAny_typeNameOfWhole_keyiter->BU,mem_of_lookup->BY,wpAny_holding->Ca,wpAny_Call_Name_kw->Ce,wpAny_seqItems->Ch,wpAny_setField_rec->Ci,wpAny_passesOwn->Cq,wpAny_typeNameOf_keyiter->Cz,wpAny_setField->CM,wpAny_getItem_str_slice->CO,OsState->CP,DictEntry->C0,wpAny_standAt->C4,Params->C6,wpAny_pyIter_list->C9,NameKind->Dd,IsPair->Df,Builtin->Di,wpAny_comprehension_free->DC,Pos->DD,wpAny_rule->DE,Scope->DL,wpAny_bindName->DO,wpAny_isOneOf_keyiter->DY,ofString_length->D7,wpAny_callSpecialIfBound?_slot->Eg,wpAny_attempt->Ej,wpAny_newFunctionEnv->En,wpAny_updateSeq_pair->Eo,wpAny_execs_nil->Ev,Sem->EH,wpAny_fieldsOf->EY,Env->Ff,Keyword->Fl,wpAny_dictEntries->Ft,wpAny_onRaise->FG,wpAny_newList->FJ,wpAny_eqBool_int->FK,IsZip->FN,BindsTo->FX,wpAny_dictEpoch->Ga,wpAny_isTrue_Compare1->Gg,wpAny_newTuple->Gv,wpAny_pyIter_keyiter->Gx,evalArgs_none->GG,Model->GL,IsPart->GU,wpAny_pyIter_tuple->GW,Within->GZ,wpAny_assign_Name->G0,wpAny_pyIter_enum->Hc,wpAny_Call_method->Hi,Paired->Ho,wpAny_execs_cons->Hr,wpAny_isInstance->HC,wpAny_pyIter_zip->HD,wpAny_getItem_of->HF,wpAny_Dict_empty->HG,wpAny_noted->HX,wpAny_letGo->HZ,wpAny_Name->Il,CmpOp->Im,wpAny_call->Ip,call->Is,Tok->Ju,Fin->JL
open PySem.W renaming Frag->c5,mg_none_of->x9,fnOf->Aw,mg_of->Az,keepIn->AI,nsIn->AL,findIn->AZ,kia_one->Bi,emptyDict->Bo,instObj->BW,kitOne->CL,codeIn->De,callWith_K->DF,plainGet->Ea,plainGet_of->EC,callWith_K0->ED,lookIn->ER,methodObj->Fj,hasDictIn->Fk,cellsFrom_some->FY,hideAll->F5,takerIn->F6,OpenLaw->Ge,methodCall_KW->Gm,hideAll_get->GF,of_hideAll->GP,isFn->G1,plainOver->G2,specialIn->G3,kitx_list->G4,kitx_dict->G5,handedIn->Hu,kdl_call->HI,makesIn->Ia,WalkO->Je,SharedT->Jk
open PySem.Heap renaming get?_push_of_some->c9,lt_size->g9,get?_push_size->i8,get?_update_other->AK,size_push->Ba,SameBut->Bz,get?_update_self->Cn,get?_none_of_le->El,get?_update_ne->GH,ExtBut->HY,MadeExcOf->Iz
open Nat renaming le_refl->e8,le_trans->f9,lt_of_lt_of_le->j5,zero_le->m7,ne_of_lt->o9,gcd->Ad,lt_of_le_of_lt->AM,le_succ->Bb,lt_irrefl->Bh,le_of_lt->Bu,le_add_right->Bx,not_lt_zero->Cs,ne_of_gt->Ct,lt_succ_self->CK,min_eq_left->CY,mul_le_mul_right->Dh,add_le_add_left->Dr,succ_ne_self->Ec,le_max_right->Ef,sub_self->EJ,gcd_zero_right->Fc,add_le_add->Fe,le_of_dvd->FF,le_of_eq->FV,lt_of_succ_lt_succ->F1,add_le_add_right->GD,gcd_zero_left->Ha,lt_succ_of_lt->Hd,sub_zero->Hf,le_succ_of_le->Hg,lt_or_ge->Hk,le_of_not_lt->Hx,min_eq_right->HJ,zero_lt_one->Ie,mul_le_mul->Iu,dvd_trans->Jb,mul_assoc->Jc,gcd_comm->Jn,lt_trans->Jo,succ_sub->Jp
open Array renaming length_toList->g8,getElem?_eq_getElem->Ae,getElem?_toList->Ax,getElem_toList->AQ,toList_extract->Be,getElem?_eq_none->B7,size_extract->Cj,getElem?_eq_some_iff->Cm,toList_append->CG,extract_eq_empty_of_le->CZ,toArray_toList->Er,toList_setIfInBounds->EZ,toList_push->Fx,toList_inj->FO,mem_toList_iff->Gr,toList_reverse->Gy,append_assoc->GQ,append_empty->GX,getElem_map->Hh,toList_map->HN,toList_zip->HP,size_map->Iy,toList->Jl
open Option renaming isSome_iff_exists->j7,map_eq_some_iff->o6,map_some->AS,isSome_map->Da,map_eq_none_iff->F4,getD_none->Hw,map_map->IA,none->Jw
open PySem.Value renaming ref->j8,none->AA,int->C3,str->Dj,bool->EO,float->Gp,bytes->HS,type->Ik,isStrOf->IN,isInt->Jt
open Bool renaming false_ne_true->l9,and_eq_true->AT,false_eq_true->BO,eq_iff_iff->CV,eq_false_iff->Fs,not_eq_true'->Fw,and_eq_true_iff->GE,false_and->Io,and_true->Jf
open True renaming intro->t5
open PyProof.Rows renaming SortSt->t6,Keyed->v8,SortKind->Bt,IntsAre->BQ,callWith_type1->BZ,slot_tuple_getitem->CD,expectedOf->CH,plainGoodE->CI,plainGoodD->CJ,drecsOf->Db,AllBare->EG,callWith_builtin1->Hv,Subscript_->Ir,sortedS->JC,lt_int->JD,OwnCls->JE
open Option.some renaming inj->t7,injEq->DT
open PySem.PassesOwn renaming never->t9
open Int renaming emod_lt_of_pos->x8,mul_comm->Aa,le_of_lt->Ai,emod_nonneg->Al,mul_assoc->AN,toNat_natCast->Bq,eq_ofNat_of_zero_le->Bw,le_trans->BC,natAbs_ediv_le_natAbs->BG,natCast_nonneg->Cf,lt_of_le_of_lt->CU,mul_ne_zero->CW,le_refl->Dg,zero_add->Do,natAbs_mul_self->Du,toNat_of_nonneg->Dz,mul_nonneg_of_nonpos_of_nonpos->DK,mul_nonneg->DQ,not_lt->Ee,natAbs_mul->EU,natAbs_natCast->EV,ediv_pos_of_pos_of_dvd->EW,mul_neg->Fo,mul_left_comm->Fp,natAbs_add_le->FA,zero_mul->F0,natAbs_neg->Gu,neg_neg->HU,neg_mul->HV,add_mul->HW,le_total->Jq,mul_sub->Jx,mul_pos->JA
open PySem.Builtin.SmallTypes renaming nextOf->Aj,ownedTupleIsFree->Bs,ownedTupleHandOut->Dw
open PySem.NameKind renaming free->An,cell->C5
open PySem.Obj renaming mapSeq->AB,data_mapFields->BN,mapFields->Cc,isFreed_of_fields->C7,cls_mapFields->Fq
open PySem.W.Frag renaming In->AG
open Ne renaming symm->AR
open False renaming elim->Bm
open PySem.F renaming slot_dict_keyiterator_next->Bv,slot_tuple_iterator_next->Cg,slot_dict_getitem->Dq,plainAttrs_list->DM,slot_tuple_lt->DW,args_dict_keyiterator_next_1->Ed,entry_dict_keyiterator_next->Ep,slot_list_lt->Et,args_tuple_iterator_next_1->Ey,slot_zip_next->Ez,entry_tuple_iterator_next->EI,excBase_ValueError->Fd,slot_dict_delitem->Fg,args_tuple_lt_2->FM,entry_tuple_lt->FZ,args_list_lt_2->F2,slot_dict_pop->Gh,entry_list_lt->Gk,args_zip_next_1->Hb,slot_dict_items->Hj,entry_zip_next->HA,slot_dict_iter->HH
open ForInStep renaming yield->BF
open PySem.World renaming withFollow_self->BH
open Or renaming inl->BM,inr->Hy
open PySem.Str renaming ofString->B6,join->FR,empty->Jh
open PySem.Builtin.Str renaming strSliceIndices->B9,glued->Fz
open PySem.Builtin.Slice renaming slicePlaces->Co,sliceAdjust->Dp,sliceApplied->ET,slicePartIndex->Ib,sliceFields->IL
open PySem.Builtin.Tuple renaming tupleExact->Cw,tupleCompareSizes->Hn,tupleItemsOf->Iq
open Sum renaming inr->CF,inl->CQ
open PySem.W.Fast renaming te14364793385576792824->C8,te2368527892694137696->Dc,te5923862056798008813->EN
open PySem.Txt renaming slice->Dm,slice_le->F3
open Decidable renaming em->Dn
open PySem.Heap.SameBut renaming update->Dv
open PySem.Builtin.List renaming listTooLong->DB
open PySem.SeqAt.EqAt renaming int_int->DG,of_refs->DJ,same->F8,int_str->GN,str_int->GO,str_str->GV
open PySem.Calls renaming callWith_builtin->DP,evalArgs_plain->Em,Name_function_global->EQ,call_function_entry->Fh,Constant_str->GR,spliced_cons->GS,spliced_nil->G7
open List.Perm renaming append_left->D3,trans->Gb,of_eq->Ig,refl->Ix
open PySem.SeqAt renaming EqAt->Eb
open PySem.Builtin.Dict_items renaming ownsTuple->EA
open PySem.PyData renaming shownAll->EB,keyHash->EM,showableAll->Fb,hasDictAll->FC,showable->Gf,hasDict->GC,shown->Hl
open PySem.StrLaws renaming glued_eq_join->EL,joinTotal->Ji
open PySem.Paired renaming length->FD,snoc->Jz
open List.cons renaming inj->FI,injEq->Ii
open PySem.Around renaming under->FW,under_plainId->GA
open PySem.Builtin.Dict renaming showsAll->Gi,dictSlotNone->IM
open List.Pairwise renaming sublist->Go,imp_of_mem->Jd,nil->JJ
open PySem.EntryCells renaming newEntry->GI
open List.Sublist renaming append->GK,refl->Hm
open Eq renaming mpr->GY
open PySem.Code renaming isFrame->G6,isGuard->Jm,frames->Jv
open Prod renaming ext->G8
open PySem.Flow renaming next->Hs
open PyProof.Rows.IsTup renaming new->Ht
open Sum.inr renaming inj->HR
open StateT renaming run_pure->Ih
open PySem.W.KasT renaming kasWp_bind->Ij
open PySem.W.Looks renaming here->Iw,ld->JB
open PySem.EqNone renaming eq_none_none->IB,eq_none_bool->IC,eq_bool_none->ID,ne_none_none->IG,ne_none_bool->IH,ne_bool_none->II,eq_none_int->IP,eq_none_str->IQ,eq_int_none->IR,eq_str_none->IT,ne_none_int->IV,ne_none_str->IW,ne_int_none->IX,ne_str_none->IZ
open PySem.EqMixed renaming eq_bool_str->IE,eq_str_bool->IF,ne_bool_str->IJ,ne_str_bool->IK,eq_int_str->IS,eq_str_int->IU,ne_int_str->IY,ne_str_int->Ja
open PySem.Builtin.Range renaming rangeSize->Jg
open PySem.Heap.UpToSlots renaming of_keeps->Jj
open PySem.W.SharedT renaming abs->Js
open PySem.Shared renaming heap->Jy
open PySem.Heap.IsSliceOf renaming new->JF
open PySem.W.WShape renaming has->JG
open PySem.Walks renaming list->JH
open PySem.Within renaming cons->JI
open PySem.W.WData renaming int->JK
open Option renaming some->O,none->JN
open Bool renaming true->JO,false->JP
local macro_rules | `(tactic| rwa [$e:term]) => `(tactic| exact $e)
local macro_rules | `(tactic| rwa [$e:term, $[$es:term],*]) => `(tactic| exact ⟨$e, $es,*⟩)
local macro_rules | `(tactic| erw [$e:term]) => `(tactic| refine $e)
local macro_rules | `(tactic| erw [$e:term, $[$es:term],*]) => `(tactic| refine ⟨$e, $es,*⟩)
theorem U{α:Sort _}{a:α}:a=a:=rfl
namespace L2
open PySem
def xZ(s:Ar):Arguments:=match s with
 | .FunctionDef _ a _ _ _ _ _ _ _ _=>a
 | _=>{ posonlyargs:=[],args:=[],vararg:=JN,kwonlyargs:=[],kw_defaults:=[],kwarg:=JN,defaults:=[] }
def xP(s:Ar):List Ar:=match s with
 | .FunctionDef _ _ b _ _ _ _ _ _ _=>b
 | _=>[]
def zH(s:Ar):DL:=match s with
 | .FunctionDef _ _ _ _ _ _ c _ _ _=>c
 | _=>{ kind:=.function,names:=[],isGenerator:=JP,isCoroutine:=JP }
def wm(s:Ar)(j:Nat):Ar:=match s with
 | .ClassDef _ _ _ body _ _ _ _ _ _ _=>body.getD j (.Pass ⟨0,0,0,0⟩)
 | _=>.Pass ⟨0,0,0,0⟩
end L2
namespace PySem.W
open PySem
noncomputable def kx(e:String->Option Di)(p:m9)(w:r9)(c:Nat)(d:Option c6):Nat->Jk->Thread->Option Jk
 | 0,_,_=>JN
 | n+1,s,t=>match through t with
  | true=>O s
  | false=>match Fast.tw6613529449190102663 c d t with
   | false=>JN
   | true=>match Fast.tw10156331382660048174 (Fast.tw11892475500146522536 e) p w s t with
    | some (g,f)=>kx e p w c d n g f
    | none=>JN
def jP{e:String->Option Di}{p:m9}{w:r9}{c:Nat}{d:Option c6} : ∀{n:Nat}{s f:Jk}{t:Thread},kx e p w c d n s t=O f->topRun e p w c d n s.abs t=O f.abs
 | 0,_,_,_,h=>by cases h
 | n+1,s,f,t,h=>by
  unfold kx at h;rw[<- Fast.te6613529449190102663,<- Fast.te10156331382660048174,<- Fast.te11892475500146522536] at h;unfold topRun;cases m:through t with
  | true=>rw[m] at h; cases h; rfl
  | false =>
   rw[m] at h;cases l:stepOk c d t with
   | false=>rw[l] at h; cases h
   | true =>
    rw[l] at h;cases g:stepT (denote e) p w s t with
    | none=>rw[g] at h; cases h
    | some r=>obtain⟨j,i⟩:=r; rw[g] at h; rw[stepT_spec g]; rwa[jP h]
noncomputable def WA(P:C6):BT:=((boot_heap P).objs.toList.zipIdx).foldl (λt x=>t.ins x.2 x.1) .nil
def ZZ(P:C6):absHeap (WA P) 11 (boot_heap P).life=boot_heap P:=by kernel_rfl
def Zb(P:C6):((boot_heap P).isNs mainGlobals,(boot_heap P).objs.size,(boot_heap P).nsMap mainGlobals "__annotations__")=(JO,11,O (.ref 6)):=by kernel_rfl
noncomputable abbrev Sn(c:String->Option Di)(p:m9)(N:Nat)(w:r9)(os:CP):Option Jk:=kx c p w 11 (O (.ref 6)) N ⟨WA w.params,11,(boot_heap w.params).life,#[],boot_drawn,boot_toks,os⟩ (topStub p)
def kj{e d c:Type}{x:Option e}{f:e->d×c}{a:d}{b:c}(h1:x.map (λs=>(f s).1)=O a)(h2:x.map (λs=>(f s).2)=O b):x.map f=O (a,b):=by
 cases x with
 | none=>cases h1
 | some s =>
  injection h1 with h1
  injection h2 with h2
  subst h1 h2;rfl
def bC{p q:m9}{c:List j3}{o:d7->Bool}{g:Type}{m:d7->g}{n:r9->g}{N:Nat}
  (f:∀ w:r9,(fencedOpening treeTable p w N).map (λs=>(s.heap,s.gens,s.drawn,s.toks))=O (boot_heap w.params,Array.mk [],boot_drawn,boot_toks))
  (h1:∀ w os,(Sn treeTable p N w os).map (λs=>(staticsOk (importedModules p.main.body) (boot_heap w.params) s.abs.heap&&namesBound p s.abs.heap&&gensDone s.abs&&laidKept (boot_heap w.params) s.abs.heap))=O JO)
  (h2:∀ w os,(Sn treeTable p N w os).map (λs=>openSeen q c (importedModules p.main.body) o JO s.abs)=O (openGood q c))
  (h3:∀ w os,(Sn treeTable p N w os).map (λs=>m s.abs)=O (n w)):LeftO p q c o m n N:=λw=>by
 obtain⟨⟨h,C,d,k,os⟩,e,D⟩:=o6.mp (f w);obtain⟨rfl,rfl,rfl,rfl⟩:h=boot_heap w.params/\C = #[]/\d=boot_drawn/\k=boot_toks:=by simpa using D
 obtain⟨x,v,u⟩ : _/\_/\_:=by simpa only[Prod.mk.injEq] using Zb w.params
 obtain⟨s,l,B⟩:=o6.mp (h1 w os);obtain⟨E,j,A⟩:=o6.mp (h2 w os);obtain⟨y,i,z⟩:=o6.mp (h3 w os);rw[l] at j i;cases j;cases i;have r:=jP l;rw[show Js ⟨WA w.params,11,(boot_heap w.params).life,#[],boot_drawn,boot_toks,os⟩=⟨boot_heap w.params,#[],boot_drawn,boot_toks,os⟩ from by unfold Js; rw[ZZ]] at r;have t:topFrom treeTable p w N ⟨boot_heap w.params,#[],boot_drawn,boot_toks,os⟩=O s.abs:=by
  unfold topFrom;dsimp only;rw[x,v,u,r];show(match staticsOk (importedModules p.main.body) (boot_heap w.params) s.abs.heap&&namesBound p s.abs.heap&&gensDone s.abs&&laidKept (boot_heap w.params) s.abs.heap with | true=>_ | false=>_)=_;rw[B]
 unfold openEnds;rw[e];show(topFrom treeTable p w N _).map _=_;rw[t];show O (_,_)=_;rw[A,z]
end PySem.W
namespace Sea
open PySem L2
def top(i:Nat):Stmt:=PySem.Challenge.pw_seamarks_k45_choices_by_notes.main.body.getD i (.Pass ⟨0,0,0,0⟩)
abbrev wL:Ar:=top 2
abbrev xw:Ar:=top 3
abbrev qQ:Ar:=top 4
abbrev oy:Ar:=top 5
abbrev pO:Ar:=top 7
abbrev vd:Ar:=top 8
abbrev vF:Ar:=top 9
abbrev yb:Ar:=top 10
abbrev ve:Ar:=top 11
abbrev sR:Ar:=top 12
abbrev xi:Ar:=top 13
abbrev wM:Ar:=top 14
abbrev vA:Ar:=top 15
abbrev sA:Ar:=top 17
abbrev ow:Ar:=top 18
abbrev uS:Ar:=top 45
abbrev qA:Ar:=top 46
abbrev rV:Ar:=top 47
abbrev xj:Ar:=top 48
abbrev vB:Ar:=top 49
abbrev vD:Ar:=top 50
abbrev uP:Ar:=top 51
abbrev tE:Ar:=top 52
abbrev vI:Ar:=top 53
abbrev vL:Ar:=top 54
abbrev uB:Ar:=top 55
abbrev vZ:Ar:=top 56
abbrev uU:Ar:=top 57
abbrev vK:Ar:=top 58
abbrev vE:Ar:=top 63
abbrev vM:Ar:=top 65
abbrev wE:Ar:=top 66
abbrev uM:Ar:=top 67
abbrev wW:Ar:=top 68
abbrev vy:Ar:=top 70
abbrev qE:Ar:=top 72
abbrev wH:Ar:=top 73
abbrev wZ:Ar:=top 74
abbrev qG:Ar:=top 75
abbrev uO:Ar:=top 77
abbrev uT:Ar:=top 78
abbrev sS:Ar:=top 79
abbrev uK:Ar:=top 80
abbrev wT:Ar:=top 81
abbrev wV:Ar:=top 82
abbrev va:Ar:=top 86
abbrev wc:Ar:=top 87
abbrev jz:Ar:=top 88
abbrev pQ:Ar:=top 89
abbrev kL:Ar:=top 90
abbrev xz:Ar:=top 91
abbrev tF:Ar:=top 92
abbrev uA:Ar:=top 93
abbrev vJ:Ar:=top 94
abbrev ur:Ar:=top 95
abbrev vb:Ar:=top 96
abbrev xu:Ar:=top 97
abbrev kH:Ar:=top 98
abbrev qM:Ar:=top 99
abbrev pV:Ar:=top 100
abbrev pZ:Ar:=top 101
abbrev kB:Ar:=top 102
abbrev xx:Ar:=top 103
abbrev wU:Ar:=top 104
abbrev ya:Ar:=top 105
abbrev rW:Ar:=top 106
abbrev sO:Ar:=top 107
abbrev vc:Ar:=top 108
abbrev fD:Ar:=top 109
abbrev ox:Ar:=wm (top 84) 0
abbrev xt:Ar:=wm (top 84) 10
abbrev pP:Ar:=wm (top 84) 11
abbrev wb:Ar:=wm (top 84) 18
abbrev pW:Ar:=wm (top 84) 20
abbrev vv:Ar:=wm (top 84) 21
abbrev yc:Ar:=wm (top 84) 22
noncomputable def qv:Program:={ PySem.Challenge.pw_seamarks_k45_choices_by_notes with main:={ PySem.Challenge.pw_seamarks_k45_choices_by_notes.main with body:=[top 2,top 3,top 4,top 5,top 7,top 8,top 9,top 10,top 11,top 12,top 13,top 14,top 15,top 17,top 18,top 45,top 46,top 47,top 48,top 49,top 50,top 51,top 52,top 53,top 54,top 55,top 56,top 57,top 58,top 63,top 65,top 66,top 67,top 68,top 70,top 72,top 73,top 74,top 75,top 77,top 78,top 79,top 80,top 81,top 82,top 86,top 87,top 88,top 89,top 90,top 91,top 92,top 93,top 94,top 95,top 96,top 97,top 98,top 99,top 100,top 101,top 102,top 103,top 104,top 105,top 106,top 107,top 108,top 109] } }
def lse:List j3:=("_wall" : j3)::("stretch_way" : j3)::("all_left_of" : j3)::("is_bank" : j3)::("MarkError" : j3)::("BadName" : j3)::("Taken" : j3)::("BadPlace" : j3)::("Full" : j3)::("NoMark" : j3)::("Same" : j3)::("Needed" : j3)::("BadBank" : j3)::("NoBank" : j3)::("BadRun" : j3)::("NoRun" : j3)::("NoMoment" : j3)::("BadWay" : j3)::("BadTurn" : j3)::("NoNote" : j3)::("MOST" : j3)::("LONGEST_NAME" : j3)::("FARTHEST" : j3)::("LONGEST_WAY" : j3)::("after_move" : j3)::("after_unmark" : j3)::("after_bank" : j3)::("after_level" : j3)::("after_right" : j3)::("AFTER" : j3)::("Book" : j3)::[]
noncomputable def kd(P:C6)(x:j3)(t:Nat)(v:c6):C0:=⟨EM P x,.str x t,v⟩
noncomputable def kc(l:List c6):By:=⟨.type "code",JN,.fields (Ah l),Ah []⟩
noncomputable def kq(x:j3)(a:Nat)(l g:Int)(r:Nat)(u v w y z:c6)(h:Int)(b:Nat):By:=kc [.str x a,.str x (a+1),.str "/claim/cut.py" (a+2),.int l 0,.int g 0,.int 0 0,.int 0 0,.int 3 0,.ref r,.bool JO,.int 181 0,u,v,w,y,z,.int h 0,.int l 0,.str "/claim/cut.py" b]
noncomputable abbrev kf(x:j3)(s:Ar)(kV c pm d ct:c6):By:=⟨.type "function",JN,.func (Aw x x (xZ s) (xP s) (zH s) .none kV c pm JN d ct),Ah []⟩
noncomputable abbrev kg(x:j3)(s:Ar)(m:j3)(t c:Nat):By:=kf x s .none .none (.str m t) (.ref c) .none
noncomputable abbrev kf2(x q:j3)(s:Ar)(kV c pm d ct:c6):By:=⟨.type "function",JN,.func (Aw x q (xZ s) (xP s) (zH s) .none kV c pm JN d ct),Ah []⟩
noncomputable def kNs(P:C6):By:=⟨.type "dict",JN,.dict (Ah (kd P "__name__" 165 (.str "law_seamarks_k45_choices_by_notes" 1158)::kd P "__doc__" 166 .none::kd P "__package__" 167 .none::kd P "__loader__" 168 (.builtin "__main__.__loader__#opaque")::kd P "__spec__" 169 .none::kd P "__annotations__" 170 (.ref 6)::kd P "__builtins__" 171 (.ref 4)::kd P "__file__" 173 (.str "/claim/cut.py" 172)::kd P "__cached__" 174 .none::kd P "_wall" 193 (.ref 21)::kd P "common_factor" 206 (.ref 28)::kd P "lowest" 212 (.ref 33)::kd P "upright" 218 (.ref 38)::kd P "spot" 227 (.ref 45)::kd P "turn" 237 (.ref 52)::kd P "along" 245 (.ref 59)::kd P "plain_side" 252 (.ref 66)::kd P "beyond" 260 (.ref 73)::kd P "holds" 268 (.ref 80)::kd P "crossing" 279 (.ref 87)::kd P "pushed" 288 (.ref 94)::kd P "bearing_sides" 299 (.ref 101)::kd P "range_side" 307 (.ref 108)::kd P "in_water" 318 (.ref 115)::kd P "foot" 325 (.ref 122)::kd P "stretch_way" 335 (.ref 129)::kd P "all_left_of" 347 (.ref 136)::kd P "is_bank" 353 (.ref 141)::kd P "MarkError" 373 (.ref 151)::kd P "BadName" 389 (.ref 164)::kd P "Taken" 405 (.ref 176)::kd P "BadPlace" 421 (.ref 188)::kd P "Full" 437 (.ref 200)::kd P "NoMark" 453 (.ref 212)::kd P "Same" 469 (.ref 224)::kd P "Needed" 485 (.ref 236)::kd P "BadBank" 501 (.ref 248)::kd P "NoBank" 517 (.ref 260)::kd P "BadRun" 533 (.ref 272)::kd P "NoRun" 549 (.ref 284)::kd P "NoMoment" 565 (.ref 296)::kd P "BadWay" 581 (.ref 308)::kd P "BadTurn" 597 (.ref 320)::kd P "NoNote" 613 (.ref 332)::kd P "MOST" 628 (.ref 335)::kd P "LONGEST_NAME" 630 (.int 8 629)::kd P "FARTHEST" 632 (.int 1000 631)::kd P "LONGEST_WAY" 634 (.int 100 633)::kd P "nothing_yet" 640 (.ref 342)::kd P "changed" 651 (.ref 349)::kd P "without" 661 (.ref 356)::kd P "within" 667 (.ref 361)::kd P "check_name" 673 (.ref 366)::kd P "check_free" 682 (.ref 373)::kd P "check_place" 689 (.ref 380)::kd P "check_run" 696 (.ref 387)::kd P "check_room" 704 (.ref 394)::kd P "check_mark" 712 (.ref 401)::kd P "check_moment" 720 (.ref 408)::kd P "check_way" 727 (.ref 415)::kd P "check_apart" 736 (.ref 422)::kd P "after_mark" 746 (.ref 429)::kd P "after_move" 757 (.ref 436)::kd P "after_unmark" 767 (.ref 443)::kd P "after_bank" 778 (.ref 450)::kd P "after_level" 787 (.ref 457)::kd P "after_sail" 796 (.ref 464)::kd P "after_right" 806 (.ref 471)::kd P "after_note" 815 (.ref 478)::kd P "after_bearing" 823 (.ref 485)::kd P "after_range" 831 (.ref 492)::kd P "after_strike" 840 (.ref 499)::kd P "AFTER" 861 (.ref 500)::kd P "after" 869 (.ref 507)::kd P "doubted" 877 (.ref 512)::kd P "places_to_try" 890 (.ref 519)::kd P "least_doubts" 896 (.ref 524)::kd P "choices" 902 (.ref 529)::kd P "way_between" 910 (.ref 534)::kd P "mark_places" 919 (.ref 541)::kd P "sides_of" 927 (.ref 548)::kd P "note_groups" 933 (.ref 553)::kd P "note_numbers" 939 (.ref 558)::kd P "book_choices" 945 (.ref 563)::kd P "Book" 1157 (.ref 730)::kd P "_law_power" 1166 (.ref 741)::kd P "_law_draws" 1178 (.ref 748)::kd P "_law_new" 1184 (.ref 755)::kd P "_law_lead" 1190 (.ref 760)::kd P "_law_way" 1201 (.ref 767)::kd P "_law_turned" 1209 (.ref 774)::kd P "_law_left_pair" 1219 (.ref 781)::kd P "_law_true_bearing" 1238 (.ref 788)::kd P "_law_some_deeds" 1257 (.ref 795)::kd P "_law_names" 1263 (.ref 800)::kd P "_law_after" 1272 (.ref 807)::kd P "_law_raised" 1282 (.ref 814)::kd P "_law_low" 1290 (.ref 821)::kd P "_law_spot_of" 1300 (.ref 828)::kd P "_law_feet" 1306 (.ref 833)::kd P "_law_meet" 1315 (.ref 840)::kd P "_law_has" 1321 (.ref 845)::kd P "_law_doubts" 1327 (.ref 850)::kd P "_law_least_doubts" 1333 (.ref 855)::kd P "_law_lowest" 1341 (.ref 862)::kd P "_law_rows_of" 1357 (.ref 869)::kd P "_law_m_groups" 1363 (.ref 874)::kd P "_law_same" 1369 (.ref 879)::kd P "law" 1375 (.ref 884)::[])) 109,Ah []⟩
noncomputable def KG(P:C6):c5 :=
 (nat_lit 150,⟨.type "dict",JN,.dict (Ah (kd P "__module__" 363 (.str "seamarks.errors" 354)::kd P "__firstlineno__" 367 (.int 73 366)::kd P "__static_attributes__" 368 (.ref 149)::kd P "__weakref__" 370 (.ref 152)::kd P "__doc__" 371 .none::[])) 3,Ah []⟩) ::
 (nat_lit 295,⟨.type "dict",JN,.dict (Ah (kd P "__module__" 557 (.str "seamarks.errors" 354)::kd P "__firstlineno__" 561 (.int 97 560)::kd P "__static_attributes__" 562 (.ref 294)::kd P "__doc__" 563 .none::[])) 2,Ah []⟩) ::
 (nat_lit 335,⟨.type "dict",JN,.dict (Ah (kd P "marks" 616 (.int 20 617)::kd P "banks" 618 (.int 8 619)::kd P "runs" 620 (.int 12 621)::kd P "notes" 622 (.int 24 623)::[])) 4,Ah []⟩) ::
 (nat_lit 500,⟨.type "dict",JN,.dict (Ah (kd P "mark" 841 (.ref 429)::kd P "move" 842 (.ref 436)::kd P "unmark" 843 (.ref 443)::kd P "bank" 844 (.ref 450)::kd P "level" 845 (.ref 457)::kd P "sail" 846 (.ref 464)::kd P "right" 847 (.ref 471)::kd P "bearing" 848 (.ref 485)::kd P "range" 849 (.ref 492)::kd P "strike" 850 (.ref 499)::[])) 10,Ah []⟩) ::
 (nat_lit 729,⟨.type "dict",JN,.dict (Ah (kd P "__module__" 955 (.str "seamarks.book" 946)::kd P "__firstlineno__" 959 (.int 289 958)::kd P "__init__" 966 (.ref 577)::kd P "mark" 976 (.ref 584)::kd P "move" 986 (.ref 591)::kd P "unmark" 994 (.ref 598)::kd P "bank" 1003 (.ref 605)::kd P "level" 1011 (.ref 612)::kd P "sail" 1020 (.ref 619)::kd P "right" 1030 (.ref 626)::kd P "bearing" 1041 (.ref 633)::kd P "range_note" 1051 (.ref 640)::kd P "strike" 1059 (.ref 647)::kd P "deed" 1069 (.ref 654)::kd P "step" 1078 (.ref 661)::kd P "undo" 1085 (.ref 668)::kd P "redo" 1092 (.ref 675)::kd P "deeds" 1099 (.ref 682)::kd P "undone" 1106 (.ref 689)::kd P "twin" 1113 (.ref 696)::kd P "marks" 1119 (.ref 701)::kd P "banks" 1126 (.ref 708)::kd P "runs" 1132 (.ref 713)::kd P "notes" 1139 (.ref 720)::kd P "coming" 1146 (.ref 727)::kd P "__static_attributes__" 1150 (.ref 728)::kd P "__dict__" 1152 (.ref 731)::kd P "__weakref__" 1154 (.ref 732)::kd P "__doc__" 1155 .none::[])) 4,Ah []⟩)::[]
noncomputable abbrev KF(P:C6):c5:=(nat_lit 3,kNs P)::KG P
noncomputable def KC:c5 :=
 (nat_lit 27,kq "common_factor" 196 5 1 22 (.ref 23) .none (.ref 24) (.ref 25) (.ref 26) 204 205) ::
 (nat_lit 28,kg "common_factor" wL "seamarks.parts" 194 27) ::
 (nat_lit 32,kq "lowest" 207 14 1 29 (.ref 30) .none .none .none (.ref 31) 210 211) ::
 (nat_lit 33,kg "lowest" xw "seamarks.parts" 194 32) ::
 (nat_lit 37,kq "upright" 213 17 1 34 (.ref 35) .none .none .none (.ref 36) 216 217) ::
 (nat_lit 38,kg "upright" qQ "seamarks.parts" 194 37) ::
 (nat_lit 44,kq "spot" 219 21 3 39 (.ref 40) .none (.ref 41) (.ref 42) (.ref 43) 225 226) ::
 (nat_lit 45,kg "spot" oy "seamarks.parts" 194 44) ::
 (nat_lit 51,kq "turn" 230 24 2 46 (.ref 47) .none (.ref 48) (.ref 49) (.ref 50) 235 236) ::
 (nat_lit 52,kg "turn" pO "seamarks.sides" 228 51) ::
 (nat_lit 58,kq "along" 238 26 2 53 (.ref 54) .none (.ref 55) (.ref 56) (.ref 57) 243 244) ::
 (nat_lit 59,kg "along" vd "seamarks.sides" 228 58) ::
 (nat_lit 65,kq "plain_side" 246 28 1 60 (.ref 61) .none (.ref 62) (.ref 63) (.ref 64) 250 251) ::
 (nat_lit 66,kg "plain_side" vF "seamarks.sides" 228 65) ::
 (nat_lit 72,kq "beyond" 253 30 2 67 (.ref 68) .none (.ref 69) (.ref 70) (.ref 71) 258 259) ::
 (nat_lit 73,kg "beyond" yb "seamarks.sides" 228 72) ::
 (nat_lit 79,kq "holds" 261 32 2 74 (.ref 75) .none (.ref 76) (.ref 77) (.ref 78) 266 267) ::
 (nat_lit 80,kg "holds" ve "seamarks.sides" 228 79) ::
 (nat_lit 86,kq "crossing" 269 34 2 81 (.ref 82) .none (.ref 83) (.ref 84) (.ref 85) 277 278) ::
 (nat_lit 87,kg "crossing" sR "seamarks.sides" 228 86) ::
 (nat_lit 93,kq "pushed" 280 41 3 88 (.ref 89) .none (.ref 90) (.ref 91) (.ref 92) 286 287) ::
 (nat_lit 94,kg "pushed" xi "seamarks.sides" 228 93) ::
 (nat_lit 100,kq "bearing_sides" 289 43 3 95 (.ref 96) .none (.ref 97) (.ref 98) (.ref 99) 297 298) ::
 (nat_lit 101,kg "bearing_sides" wM "seamarks.sides" 228 100) ::
 (nat_lit 107,kq "range_side" 300 47 2 102 (.ref 103) .none (.ref 104) (.ref 105) (.ref 106) 305 306) ::
 (nat_lit 108,kg "range_side" vA "seamarks.sides" 228 107) ::
 (nat_lit 114,kq "in_water" 310 50 2 109 (.ref 110) .none (.ref 111) (.ref 112) (.ref 113) 316 317) ::
 (nat_lit 115,kg "in_water" sA "seamarks.water" 308 114) ::
 (nat_lit 121,kq "foot" 319 55 1 116 (.ref 117) .none (.ref 118) (.ref 119) (.ref 120) 323 324) ::
 (nat_lit 122,kg "foot" ow "seamarks.water" 308 121) ::
 (nat_lit 151,(@PySem.Obj.mk (.type "type") JN (@PySem.Data.cls (@PySem.ClassData.mk "MarkError" ((.type "ValueError")::[]) ((.ref 151)::((.type "ValueError")::((.type "Exception")::((.type "BaseException")::((.type "object")::[]))))) 150 "MarkError" JO [] ((.ref 164)::((.ref 176)::((.ref 188)::((.ref 200)::((.ref 212)::((.ref 224)::((.ref 236)::((.ref 248)::((.ref 260)::((.ref 272)::((.ref 284)::((.ref 296)::((.ref 308)::((.ref 320)::((.ref 332)::[]))))))))))))))) JP JN JP)) (Ah ((O (.ref 142))::(JN::((O (.str "MarkError" 356))::((O (.str "MarkError" 364))::((O (.builtin "ValueError.__new__"))::((O (.bool JO))::[]))))))))) ::
 (nat_lit 296,(@PySem.Obj.mk (.type "type") JN (@PySem.Data.cls (@PySem.ClassData.mk "NoMoment" ((.ref 151)::[]) ((.ref 296)::((.ref 151)::((.type "ValueError")::((.type "Exception")::((.type "BaseException")::((.type "object")::[])))))) 295 "NoMoment" JO [] [] JP JN JP)) (Ah ((O (.ref 287))::(JN::((O (.str "NoMoment" 550))::((O (.str "NoMoment" 558))::((O (.builtin "ValueError.__new__"))::((O (.bool JO))::[]))))))))) ::
 (nat_lit 341,kq "nothing_yet" 635 110 0 336 (.ref 337) .none (.ref 338) (.ref 339) (.ref 340) 638 639) ::
 (nat_lit 342,kg "nothing_yet" uS "seamarks.deeds" 614 341) ::
 (nat_lit 348,kq "changed" 641 112 4 343 (.ref 344) .none (.ref 345) (.ref 346) (.ref 347) 649 650) ::
 (nat_lit 349,kg "changed" qA "seamarks.deeds" 614 348) ::
 (nat_lit 355,kq "without" 652 117 3 350 (.ref 351) .none (.ref 352) (.ref 353) (.ref 354) 659 660) ::
 (nat_lit 356,kg "without" rV "seamarks.deeds" 614 355) ::
 (nat_lit 360,kq "within" 662 122 2 357 (.ref 358) .none .none .none (.ref 359) 665 666) ::
 (nat_lit 361,kg "within" xj "seamarks.deeds" 614 360) ::
 (nat_lit 365,kq "check_name" 668 124 1 362 (.ref 363) .none .none .none (.ref 364) 671 672) ::
 (nat_lit 366,kg "check_name" vB "seamarks.deeds" 614 365) ::
 (nat_lit 372,kq "check_free" 674 127 3 367 (.ref 368) .none (.ref 369) (.ref 370) (.ref 371) 680 681) ::
 (nat_lit 373,kg "check_free" vD "seamarks.deeds" 614 372) ::
 (nat_lit 379,kq "check_place" 683 130 1 374 (.ref 375) .none (.ref 376) (.ref 377) (.ref 378) 687 688) ::
 (nat_lit 380,kg "check_place" uP "seamarks.deeds" 614 379) ::
 (nat_lit 386,kq "check_run" 690 133 1 381 (.ref 382) .none (.ref 383) (.ref 384) (.ref 385) 694 695) ::
 (nat_lit 387,kg "check_run" tE "seamarks.deeds" 614 386) ::
 (nat_lit 393,kq "check_room" 697 136 2 388 (.ref 389) .none (.ref 390) (.ref 391) (.ref 392) 702 703) ::
 (nat_lit 394,kg "check_room" vI "seamarks.deeds" 614 393) ::
 (nat_lit 400,kq "check_mark" 705 139 2 395 (.ref 396) .none (.ref 397) (.ref 398) (.ref 399) 710 711) ::
 (nat_lit 401,kg "check_mark" vL "seamarks.deeds" 614 400) ::
 (nat_lit 407,kq "check_moment" 713 142 2 402 (.ref 403) .none (.ref 404) (.ref 405) (.ref 406) 718 719) ::
 (nat_lit 408,kg "check_moment" uB "seamarks.deeds" 614 407) ::
 (nat_lit 414,kq "check_way" 721 145 1 409 (.ref 410) .none (.ref 411) (.ref 412) (.ref 413) 725 726) ::
 (nat_lit 415,kg "check_way" vZ "seamarks.deeds" 614 414) ::
 (nat_lit 421,kq "check_apart" 728 148 3 416 (.ref 417) .none (.ref 418) (.ref 419) (.ref 420) 734 735) ::
 (nat_lit 422,kg "check_apart" uU "seamarks.deeds" 614 421) ::
 (nat_lit 428,kq "after_mark" 737 151 2 423 (.ref 424) .none (.ref 425) (.ref 426) (.ref 427) 744 745) ::
 (nat_lit 429,kg "after_mark" vK "seamarks.deeds" 614 428) ::
 (nat_lit 463,kq "after_sail" 788 191 2 458 (.ref 459) .none (.ref 460) (.ref 461) (.ref 462) 794 795) ::
 (nat_lit 464,kg "after_sail" vE "seamarks.deeds" 614 463) ::
 (nat_lit 477,kq "after_note" 807 203 2 472 (.ref 473) .none (.ref 474) (.ref 475) (.ref 476) 813 814) ::
 (nat_lit 478,kg "after_note" vM "seamarks.deeds" 614 477) ::
 (nat_lit 484,kq "after_bearing" 816 208 2 479 (.ref 480) .none (.ref 481) (.ref 482) (.ref 483) 821 822) ::
 (nat_lit 485,kg "after_bearing" wE "seamarks.deeds" 614 484) ::
 (nat_lit 491,kq "after_range" 824 216 2 486 (.ref 487) .none (.ref 488) (.ref 489) (.ref 490) 829 830) ::
 (nat_lit 492,kg "after_range" uM "seamarks.deeds" 614 491) ::
 (nat_lit 498,kq "after_strike" 832 222 2 493 (.ref 494) .none (.ref 495) (.ref 496) (.ref 497) 838 839) ::
 (nat_lit 499,kg "after_strike" wW "seamarks.deeds" 614 498) ::
 (nat_lit 506,kq "after" 862 228 2 501 (.ref 502) .none (.ref 503) (.ref 504) (.ref 505) 867 868) ::
 (nat_lit 507,kg "after" vy "seamarks.deeds" 614 506) ::
 (nat_lit 511,kq "doubted" 872 231 2 508 (.ref 509) .none .none .none (.ref 510) 875 876) ::
 (nat_lit 512,kg "doubted" qE "seamarks.trust" 870 511) ::
 (nat_lit 518,kq "places_to_try" 878 233 1 513 (.ref 514) .none (.ref 515) (.ref 516) (.ref 517) 888 889) ::
 (nat_lit 519,kg "places_to_try" wH "seamarks.trust" 870 518) ::
 (nat_lit 523,kq "least_doubts" 891 245 1 520 (.ref 521) .none .none .none (.ref 522) 894 895) ::
 (nat_lit 524,kg "least_doubts" wZ "seamarks.trust" 870 523) ::
 (nat_lit 528,kq "choices" 897 255 1 525 (.ref 526) .none .none .none (.ref 527) 900 901) ::
 (nat_lit 529,kg "choices" qG "seamarks.trust" 870 528) ::
 (nat_lit 533,kq "way_between" 905 258 3 530 (.ref 531) .none .none .none (.ref 532) 908 909) ::
 (nat_lit 534,kg "way_between" uO "seamarks.asks" 903 533) ::
 (nat_lit 540,kq "mark_places" 911 265 1 535 (.ref 536) .none (.ref 537) (.ref 538) (.ref 539) 917 918) ::
 (nat_lit 541,kg "mark_places" uT "seamarks.asks" 903 540) ::
 (nat_lit 547,kq "sides_of" 920 270 2 542 (.ref 543) .none (.ref 544) (.ref 545) (.ref 546) 925 926) ::
 (nat_lit 548,kg "sides_of" sS "seamarks.asks" 903 547) ::
 (nat_lit 552,kq "note_groups" 928 274 2 549 (.ref 550) .none .none .none (.ref 551) 931 932) ::
 (nat_lit 553,kg "note_groups" uK "seamarks.asks" 903 552) ::
 (nat_lit 557,kq "note_numbers" 934 283 1 554 (.ref 555) .none .none .none (.ref 556) 937 938) ::
 (nat_lit 558,kg "note_numbers" wT "seamarks.asks" 903 557) ::
 (nat_lit 562,kq "book_choices" 940 285 1 559 (.ref 560) .none .none .none (.ref 561) 943 944) ::
 (nat_lit 563,kg "book_choices" wV "seamarks.asks" 903 562) ::
 (nat_lit 576,kc ((.str "__init__" 960)::((.str "Book.__init__" 961)::((.str "/claim/cut.py" 962)::((.int 291 0)::((.int 1 0)::((.int 0 0)::((.int 0 0)::((.int 3 0)::((.ref 571)::((.bool JO)::((.int 181 0)::((.ref 572)::(.none::((.ref 573)::((.ref 574)::((.ref 575)::((.int 964 0)::((.int 291 0)::((.str "/claim/cut.py" 965)::[])))))))))))))))))))) ::
 (nat_lit 577,kf2 "__init__" "Book.__init__" ox .none .none (.str "seamarks.book" 946) (.ref 576) .none) ::
 (nat_lit 646,kc ((.str "strike" 1052)::((.str "Book.strike" 1053)::((.str "/claim/cut.py" 1054)::((.int 323 0)::((.int 2 0)::((.int 0 0)::((.int 0 0)::((.int 3 0)::((.ref 641)::((.bool JO)::((.int 181 0)::((.ref 642)::(.none::((.ref 643)::((.ref 644)::((.ref 645)::((.int 1057 0)::((.int 323 0)::((.str "/claim/cut.py" 1058)::[])))))))))))))))))))) ::
 (nat_lit 647,kf2 "strike" "Book.strike" xt .none .none (.str "seamarks.book" 946) (.ref 646) .none) ::
 (nat_lit 653,kc ((.str "deed" 1060)::((.str "Book.deed" 1061)::((.str "/claim/cut.py" 1062)::((.int 326 0)::((.int 2 0)::((.int 0 0)::((.int 0 0)::((.int 3 0)::((.ref 648)::((.bool JO)::((.int 181 0)::((.ref 649)::(.none::((.ref 650)::((.ref 651)::((.ref 652)::((.int 1067 0)::((.int 326 0)::((.str "/claim/cut.py" 1068)::[])))))))))))))))))))) ::
 (nat_lit 654,kf2 "deed" "Book.deed" pP .none .none (.str "seamarks.book" 946) (.ref 653) .none) ::
 (nat_lit 700,kc ((.str "marks" 1114)::((.str "Book.marks" 1115)::((.str "/claim/cut.py" 1116)::((.int 352 0)::((.int 1 0)::((.int 0 0)::((.int 0 0)::((.int 3 0)::((.ref 697)::((.bool JO)::((.int 181 0)::((.ref 698)::(.none::(.none::(.none::((.ref 699)::((.int 1117 0)::((.int 352 0)::((.str "/claim/cut.py" 1118)::[])))))))))))))))))))) ::
 (nat_lit 701,kf2 "marks" "Book.marks" wb .none .none (.str "seamarks.book" 946) (.ref 700) .none) ::
 (nat_lit 712,kc ((.str "runs" 1127)::((.str "Book.runs" 1128)::((.str "/claim/cut.py" 1129)::((.int 359 0)::((.int 1 0)::((.int 0 0)::((.int 0 0)::((.int 3 0)::((.ref 709)::((.bool JO)::((.int 181 0)::((.ref 710)::(.none::(.none::(.none::((.ref 711)::((.int 1130 0)::((.int 359 0)::((.str "/claim/cut.py" 1131)::[])))))))))))))))))))) ::
 (nat_lit 713,kf2 "runs" "Book.runs" pW .none .none (.str "seamarks.book" 946) (.ref 712) .none) ::
 (nat_lit 719,kc ((.str "notes" 1133)::((.str "Book.notes" 1134)::((.str "/claim/cut.py" 1135)::((.int 363 0)::((.int 1 0)::((.int 0 0)::((.int 0 0)::((.int 3 0)::((.ref 714)::((.bool JO)::((.int 181 0)::((.ref 715)::(.none::((.ref 716)::((.ref 717)::((.ref 718)::((.int 1137 0)::((.int 363 0)::((.str "/claim/cut.py" 1138)::[])))))))))))))))))))) ::
 (nat_lit 720,kf2 "notes" "Book.notes" vv .none .none (.str "seamarks.book" 946) (.ref 719) .none) ::
 (nat_lit 726,kc ((.str "coming" 1140)::((.str "Book.coming" 1141)::((.str "/claim/cut.py" 1142)::((.int 366 0)::((.int 1 0)::((.int 0 0)::((.int 0 0)::((.int 3 0)::((.ref 721)::((.bool JO)::((.int 181 0)::((.ref 722)::(.none::((.ref 723)::((.ref 724)::((.ref 725)::((.int 1144 0)::((.int 366 0)::((.str "/claim/cut.py" 1145)::[])))))))))))))))))))) ::
 (nat_lit 727,kf2 "coming" "Book.coming" yc .none .none (.str "seamarks.book" 946) (.ref 726) .none) ::
 (nat_lit 730,(@PySem.Obj.mk (.type "type") JN (@PySem.Data.cls (@PySem.ClassData.mk "Book" ((.type "object")::[]) ((.ref 730)::((.type "object")::[])) 729 "Book" JO [] [] JP JN JP)) (Ah (JN::(JN::((O (.str "Book" 948))::((O (.str "Book" 956))::((O (.builtin "object.__new__"))::((O (.bool JO))::[]))))))))) ::
 (nat_lit 740,kq "_law_power" 1160 369 1 735 (.ref 736) .none (.ref 737) (.ref 738) (.ref 739) 1164 1165) ::
 (nat_lit 741,kg "_law_power" va "law_seamarks_k45_choices_by_notes" 1158 740) ::
 (nat_lit 747,kq "_law_draws" 1167 371 2 742 (.ref 743) .none (.ref 744) (.ref 745) (.ref 746) 1176 1177) ::
 (nat_lit 748,kg "_law_draws" wc "law_seamarks_k45_choices_by_notes" 1158 747) ::
 (nat_lit 754,kq "_law_new" 1179 387 0 749 (.ref 750) .none (.ref 751) (.ref 752) (.ref 753) 1182 1183) ::
 (nat_lit 755,kg "_law_new" jz "law_seamarks_k45_choices_by_notes" 1158 754) ::
 (nat_lit 759,kq "_law_lead" 1185 389 3 756 (.ref 757) .none .none .none (.ref 758) 1188 1189) ::
 (nat_lit 760,kg "_law_lead" pQ "law_seamarks_k45_choices_by_notes" 1158 759) ::
 (nat_lit 766,kq "_law_way" 1191 393 3 761 (.ref 762) .none (.ref 763) (.ref 764) (.ref 765) 1199 1200) ::
 (nat_lit 767,kg "_law_way" kL "law_seamarks_k45_choices_by_notes" 1158 766) ::
 (nat_lit 773,kq "_law_turned" 1202 399 2 768 (.ref 769) .none (.ref 770) (.ref 771) (.ref 772) 1207 1208) ::
 (nat_lit 774,kg "_law_turned" xz "law_seamarks_k45_choices_by_notes" 1158 773) ::
 (nat_lit 780,kq "_law_left_pair" 1210 401 2 775 (.ref 776) .none (.ref 777) (.ref 778) (.ref 779) 1217 1218) ::
 (nat_lit 781,kg "_law_left_pair" tF "law_seamarks_k45_choices_by_notes" 1158 780) ::
 (nat_lit 787,kq "_law_true_bearing" 1220 411 6 782 (.ref 783) .none (.ref 784) (.ref 785) (.ref 786) 1236 1237) ::
 (nat_lit 788,kg "_law_true_bearing" uA "law_seamarks_k45_choices_by_notes" 1158 787) ::
 (nat_lit 794,kq "_law_some_deeds" 1239 420 2 789 (.ref 790) .none (.ref 791) (.ref 792) (.ref 793) 1255 1256) ::
 (nat_lit 795,kg "_law_some_deeds" vJ "law_seamarks_k45_choices_by_notes" 1158 794) ::
 (nat_lit 799,kq "_law_names" 1258 440 2 796 (.ref 797) .none .none .none (.ref 798) 1261 1262) ::
 (nat_lit 800,kg "_law_names" ur "law_seamarks_k45_choices_by_notes" 1158 799) ::
 (nat_lit 806,kq "_law_after" 1264 455 2 801 (.ref 802) .none (.ref 803) (.ref 804) (.ref 805) 1270 1271) ::
 (nat_lit 807,kg "_law_after" vb "law_seamarks_k45_choices_by_notes" 1158 806) ::
 (nat_lit 813,kq "_law_raised" 1273 477 2 808 (.ref 809) .none (.ref 810) (.ref 811) (.ref 812) 1280 1281) ::
 (nat_lit 814,kg "_law_raised" xu "law_seamarks_k45_choices_by_notes" 1158 813) ::
 (nat_lit 820,kq "_law_low" 1283 483 2 815 (.ref 816) .none (.ref 817) (.ref 818) (.ref 819) 1288 1289) ::
 (nat_lit 821,kg "_law_low" kH "law_seamarks_k45_choices_by_notes" 1158 820) ::
 (nat_lit 827,kq "_law_spot_of" 1291 489 3 822 (.ref 823) .none (.ref 824) (.ref 825) (.ref 826) 1298 1299) ::
 (nat_lit 828,kg "_law_spot_of" qM "law_seamarks_k45_choices_by_notes" 1158 827) ::
 (nat_lit 832,kq "_law_feet" 1301 494 1 829 (.ref 830) .none .none .none (.ref 831) 1304 1305) ::
 (nat_lit 833,kg "_law_feet" pV "law_seamarks_k45_choices_by_notes" 1158 832) ::
 (nat_lit 839,kq "_law_meet" 1307 496 2 834 (.ref 835) .none (.ref 836) (.ref 837) (.ref 838) 1313 1314) ::
 (nat_lit 840,kg "_law_meet" pZ "law_seamarks_k45_choices_by_notes" 1158 839) ::
 (nat_lit 844,kq "_law_has" 1316 501 2 841 (.ref 842) .none .none .none (.ref 843) 1319 1320) ::
 (nat_lit 845,kg "_law_has" kB "law_seamarks_k45_choices_by_notes" 1158 844) ::
 (nat_lit 849,kq "_law_doubts" 1322 504 2 846 (.ref 847) .none .none .none (.ref 848) 1325 1326) ::
 (nat_lit 850,kg "_law_doubts" xx "law_seamarks_k45_choices_by_notes" 1158 849) ::
 (nat_lit 854,kq "_law_least_doubts" 1328 506 1 851 (.ref 852) .none .none .none (.ref 853) 1331 1332) ::
 (nat_lit 855,kg "_law_least_doubts" wU "law_seamarks_k45_choices_by_notes" 1158 854) ::
 (nat_lit 861,kq "_law_lowest" 1334 522 1 856 (.ref 857) .none (.ref 858) (.ref 859) (.ref 860) 1339 1340) ::
 (nat_lit 862,kg "_law_lowest" ya "law_seamarks_k45_choices_by_notes" 1158 861) ::
 (nat_lit 868,kq "_law_rows_of" 1342 525 2 863 (.ref 864) .none (.ref 865) (.ref 866) (.ref 867) 1355 1356) ::
 (nat_lit 869,kg "_law_rows_of" rW "law_seamarks_k45_choices_by_notes" 1158 868) ::
 (nat_lit 873,kq "_law_m_groups" 1358 534 2 870 (.ref 871) .none .none .none (.ref 872) 1361 1362) ::
 (nat_lit 874,kg "_law_m_groups" sO "law_seamarks_k45_choices_by_notes" 1158 873) ::
 (nat_lit 878,kq "_law_same" 1364 541 2 875 (.ref 876) .none .none .none (.ref 877) 1367 1368) ::
 (nat_lit 879,kg "_law_same" vc "law_seamarks_k45_choices_by_notes" 1158 878) ::
 (nat_lit 883,kq "law" 1370 549 1 880 (.ref 881) .none .none .none (.ref 882) 1373 1374) ::
 (nat_lit 884,kg "law" fD "law_seamarks_k45_choices_by_notes" 1158 883)::[]
noncomputable def KK(P:C6):c5:=(nat_lit 3,kNs P)::(KG P++KC)
noncomputable def K:c5:=Classical.choose (⟨KC,rfl⟩:∃ k,k=KC)
def bg:K=KC:=Classical.choose_spec (⟨KC,rfl⟩:∃ k,k=KC)
noncomputable def kas:List Nat:=nat_lit 3::nat_lit 150::nat_lit 295::nat_lit 335::nat_lit 500::nat_lit 729::KC.map (·.1)
def kas_ok:∀ P:C6,kas=(KK P).map (·.1):=λ_=>by kernel_rfl
def Tc{a b:Bool}(h:a=JO)(k:b=JO):(a&&b)=true:=by rw[h,k]; rfl
set_option maxHeartbeats 0 in
open PySem.W in
def said_ok:PySem.Challenge.rw_seamarks_k45_choices_by_notes.wellSaid=true:=by
 unfold OpenLaw.wellSaid
 repeat' first | with_reducible apply Tc | unfold OpenRow.wellSaid | unfold OpenRow.partSaid | unfold looksOpen
 all_goals decide +kernel
open PySem.W in
noncomputable abbrev lkM:=Fast.tw5923862056798008813 (Fast.tw2368527892694137696 PySem.Challenge.rw_seamarks_k45_choices_by_notes).prog.main.body
open PySem.W in
noncomputable abbrev lkT(w:World)(os:OsState):=Sn Fast.tw14364793385576792824 (Fast.tw2368527892694137696 PySem.Challenge.rw_seamarks_k45_choices_by_notes).prog 90000 w os
open PySem.W in
noncomputable abbrev lkS(s:SharedT):=Fast.tw4187177175401517315 qv lse lkM (λs=>xlAt qv [] s&&recOk (Fast.tw2368527892694137696 PySem.Challenge.rw_seamarks_k45_choices_by_notes).records s) JO s.abs
set_option maxHeartbeats 0 in
open PySem.W in
def VF(u:World)(os:OsState):(lkT (u.withFollow "special-get-raises" JO) os).map (λs=>(staticsOk lkM (boot_heap (u.withFollow "special-get-raises" JO).params) s.abs.heap&&namesBound (Fast.tw2368527892694137696 PySem.Challenge.rw_seamarks_k45_choices_by_notes).prog s.abs.heap&&gensDone s.abs&&laidKept (boot_heap (u.withFollow "special-get-raises" JO).params) s.abs.heap))=O true:=by kernel_rfl
set_option maxHeartbeats 0 in
open PySem.W in
def WF(u:World)(os:OsState):(lkT (u.withFollow "special-get-raises" JP) os).map (λs=>(staticsOk lkM (boot_heap (u.withFollow "special-get-raises" JP).params) s.abs.heap&&namesBound (Fast.tw2368527892694137696 PySem.Challenge.rw_seamarks_k45_choices_by_notes).prog s.abs.heap&&gensDone s.abs&&laidKept (boot_heap (u.withFollow "special-get-raises" JP).params) s.abs.heap))=O true:=by kernel_rfl
set_option maxHeartbeats 0 in
open PySem.W in
def UN(w:World)(os:OsState):(lkT w os).map (λs=>(staticsOk lkM (boot_heap w.params) s.abs.heap&&namesBound (Fast.tw2368527892694137696 PySem.Challenge.rw_seamarks_k45_choices_by_notes).prog s.abs.heap&&gensDone s.abs&&laidKept (boot_heap w.params) s.abs.heap))=O true:=by
 have h:∀(b:Bool)(u:World),(λw:World=>(lkT w os).map (λs=>(staticsOk lkM (boot_heap w.params) s.abs.heap&&namesBound (Fast.tw2368527892694137696 PySem.Challenge.rw_seamarks_k45_choices_by_notes).prog s.abs.heap&&gensDone s.abs&&laidKept (boot_heap w.params) s.abs.heap))=O JO) (u.withFollow "special-get-raises" b):=λb u=>by cases b; rwa[WF u os]; rwa[VF u os]
 have:=h (w.params.followText "special-get-raises") w;(rw[BH] at this;assumption)
set_option maxHeartbeats 0 in
open PySem.W in
def Vq(u:r9)(os:CP):(lkT (u.withFollow "special-get-raises" JO) os).map (λs=>(lkS s).1)=O (CH qv):=by kernel_rfl
set_option maxHeartbeats 0 in
open PySem.W in
def VN(u:r9)(os:CP):(lkT (u.withFollow "special-get-raises" JP) os).map (λs=>(lkS s).1)=O (CH qv):=by kernel_rfl
set_option maxHeartbeats 0 in
open PySem.W in
def TM(w:r9)(os:CP):(lkT w os).map (λs=>(lkS s).1)=O (CH qv):=by
 have h:∀(b:Bool)(u:r9),(λw:r9=>(lkT w os).map (λs=>(lkS s).1)=O (CH qv)) (u.withFollow "special-get-raises" b):=λb u=>by cases b; rwa[VN u os]; rwa[Vq u os]
 have:=h (w.params.followText "special-get-raises") w;(rw[BH] at this;assumption)
set_option maxHeartbeats 0 in
open PySem.W in
def VB(u:r9)(os:CP):(lkT (u.withFollow "special-get-raises" JO) os).map (λs=>(lkS s).2.1)=O bltViewBooted:=by kernel_rfl
set_option maxHeartbeats 0 in
open PySem.W in
def Vk(u:r9)(os:CP):(lkT (u.withFollow "special-get-raises" JP) os).map (λs=>(lkS s).2.1)=O bltViewBooted:=by kernel_rfl
set_option maxHeartbeats 0 in
open PySem.W in
def UL(w:r9)(os:CP):(lkT w os).map (λs=>(lkS s).2.1)=O bltViewBooted:=by
 have h:∀(b:Bool)(u:r9),(λw:r9=>(lkT w os).map (λs=>(lkS s).2.1)=O bltViewBooted) (u.withFollow "special-get-raises" b):=λb u=>by cases b; rwa[Vk u os]; rwa[VB u os]
 have:=h (w.params.followText "special-get-raises") w;(rw[BH] at this;assumption)
set_option maxHeartbeats 0 in
open PySem.W in
def VM(u:r9)(os:CP):(lkT (u.withFollow "special-get-raises" JO) os).map (λs=>(lkS s).2.2.1)=O true:=by kernel_rfl
set_option maxHeartbeats 0 in
open PySem.W in
def Vv(u:r9)(os:CP):(lkT (u.withFollow "special-get-raises" JP) os).map (λs=>(lkS s).2.2.1)=O true:=by kernel_rfl
set_option maxHeartbeats 0 in
open PySem.W in
def UD(w:r9)(os:CP):(lkT w os).map (λs=>(lkS s).2.2.1)=O true:=by
 have h:∀(b:Bool)(u:r9),(λw:r9=>(lkT w os).map (λs=>(lkS s).2.2.1)=O JO) (u.withFollow "special-get-raises" b):=λb u=>by cases b; rwa[Vv u os]; rwa[VM u os]
 have:=h (w.params.followText "special-get-raises") w;(rw[BH] at this;assumption)
set_option maxHeartbeats 0 in
open PySem.W in
def WW(u:r9)(os:CP):(lkT (u.withFollow "special-get-raises" JO) os).map (λs=>(lkS s).2.2.2)=O (JO,pinGoodD (Db qv),CI qv (looseW qv lse),CJ qv lse,wideGood qv,clsGoodW qv lse):=by kernel_rfl
set_option maxHeartbeats 0 in
open PySem.W in
def Uz(u:r9)(os:CP):(lkT (u.withFollow "special-get-raises" JP) os).map (λs=>(lkS s).2.2.2)=O (JO,pinGoodD (Db qv),CI qv (looseW qv lse),CJ qv lse,wideGood qv,clsGoodW qv lse):=by kernel_rfl
set_option maxHeartbeats 0 in
open PySem.W in
def Uf(w:r9)(os:CP):(lkT w os).map (λs=>(lkS s).2.2.2)=O (JO,pinGoodD (Db qv),CI qv (looseW qv lse),CJ qv lse,wideGood qv,clsGoodW qv lse):=by
 have h:∀(b:Bool)(u:r9),(λw:r9=>(lkT w os).map (λs=>(lkS s).2.2.2)=O (JO,pinGoodD (Db qv),CI qv (looseW qv lse),CJ qv lse,wideGood qv,clsGoodW qv lse)) (u.withFollow "special-get-raises" b):=λb u=>by cases b; rwa[Uz u os]; rwa[WW u os]
 have:=h (w.params.followText "special-get-raises") w;(rw[BH] at this;assumption)
set_option maxHeartbeats 0 in
open PySem.W in
def Va(u:r9)(os:CP):(lkT (u.withFollow "special-get-raises" JO) os).map (λs=>kas.map s.abs.heap.get?)=O ((KK (u.withFollow "special-get-raises" JO).params).map λp=>O p.2):=by kernel_rfl
set_option maxHeartbeats 0 in
open PySem.W in
def Uy(u:r9)(os:CP):(lkT (u.withFollow "special-get-raises" JP) os).map (λs=>kas.map s.abs.heap.get?)=O ((KK (u.withFollow "special-get-raises" JP).params).map λp=>O p.2):=by kernel_rfl
set_option maxHeartbeats 0 in
open PySem.W in
def Sz(w:r9)(os:CP):(lkT w os).map (λs=>kas.map s.abs.heap.get?)=O ((KK w.params).map λp=>O p.2):=by
 have h:∀(b:Bool)(u:r9),(λw:r9=>(lkT w os).map (λs=>kas.map s.abs.heap.get?)=O ((KK w.params).map λp=>O p.2)) (u.withFollow "special-get-raises" b):=λb u=>by cases b; rwa[Uy u os]; rwa[Va u os]
 have:=h (w.params.followText "special-get-raises") w;(rw[BH] at this;assumption)
set_option maxHeartbeats 0 in
open PySem.W in
def left_ok:LeftO PySem.Challenge.rw_seamarks_k45_choices_by_notes.row.prog qv lse (λs=>xlAt qv [] s&&recOk (RowW.records (OpenRow.toRowW PySem.Challenge.rw_seamarks_k45_choices_by_notes.row)) s)
  (λs=>kas.map s.heap.get?) (λw=>(KK w.params).map λp=>O p.2) 90000:=by
 erw[bC (boot_open (by kernel_rfl) (by decide) (λs=>by kernel_rfl)) ?a ?b ?c]
 case a =>
  rw[EN,Dc,C8];rwa[UN]
 case b =>
  rw[Fast.te4187177175401517315,EN,Dc,C8];rwa[λw os=>kj (f:=lkS) (TM w os) (kj (f:=λs=>(lkS s).2) (UL w os) (kj (f:=λs=>(lkS s).2.2) (UD w os) (Uf w os)))]
 case c =>
  rw[Dc,C8];rwa[Sz]
end Sea
-- BASE
open PySem PySem.Spec L2
open PyProof.Rows hiding St
local macro_rules | `(tactic| symm) => `(tactic| kernel_rfl)
local macro_rules | `(tactic| ac_nf) => `(tactic| decide +kernel)
def y4{c:Prop}{d:Decidable c}(h:¬c){e:Sort _}{a b:e}:ite c a b=b:=if_neg h
def y6{c:Prop}{d:Decidable c}(h:c){e:Sort _}{a b:e}:ite c a b=a:=if_pos h
def y7{p:Prop}[Decidable p](h:p):decide p=true:=decide_eq_true h
def y8{p:Prop}[Decidable p](h:¬p):decide p=false:=decide_eq_false h
def y9{a b:Prop}(h:a)(n:¬a):b:=absurd h n
def x4{c:Type _}[BEq c][LawfulBEq c]{a b:c}:(a==b)=JP↔a≠b:=beq_eq_false_iff_ne
namespace L2
inductive E2{α0 α1:Type}(P:α0->α1->Prop):Prop where
 | mk (a0:α0) (a1:α1) (h:P a0 a1):E2 P
inductive E3{α0 α1 α2:Type}(P:α0->α1->α2->Prop):Prop where
 | mk (a0:α0) (a1:α1) (a2:α2) (h:P a0 a1 a2):E3 P
inductive E4{α0 α1 α2 α3:Type}(P:α0->α1->α2->α3->Prop):Prop where
 | mk (a0:α0) (a1:α1) (a2:α2) (a3:α3) (h:P a0 a1 a2 a3):E4 P
inductive E5{α0 α1 α2 α3 α4:Type}(P:α0->α1->α2->α3->α4->Prop):Prop where
 | mk (a0:α0) (a1:α1) (a2:α2) (a3:α3) (a4:α4) (h:P a0 a1 a2 a3 a4):E5 P
inductive E6{α0 α1 α2 α3 α4 α5:Type}(P:α0->α1->α2->α3->α4->α5->Prop):Prop where
 | mk (a0:α0) (a1:α1) (a2:α2) (a3:α3) (a4:α4) (a5:α5) (h:P a0 a1 a2 a3 a4 a5):E6 P
inductive E7{α0 α1 α2 α3 α4 α5 α6:Type}(P:α0->α1->α2->α3->α4->α5->α6->Prop):Prop where
 | mk (a0:α0) (a1:α1) (a2:α2) (a3:α3) (a4:α4) (a5:α5) (a6:α6) (h:P a0 a1 a2 a3 a4 a5 a6):E7 P
inductive E8{α0 α1 α2 α3 α4 α5 α6 α7:Type}(P:α0->α1->α2->α3->α4->α5->α6->α7->Prop):Prop where
 | mk (a0:α0) (a1:α1) (a2:α2) (a3:α3) (a4:α4) (a5:α5) (a6:α6) (a7:α7) (h:P a0 a1 a2 a3 a4 a5 a6 a7):E8 P
inductive E9{α0 α1 α2 α3 α4 α5 α6 α7 α8:Type}(P:α0->α1->α2->α3->α4->α5->α6->α7->α8->Prop):Prop where
 | mk (a0:α0) (a1:α1) (a2:α2) (a3:α3) (a4:α4) (a5:α5) (a6:α6) (a7:α7) (a8:α8) (h:P a0 a1 a2 a3 a4 a5 a6 a7 a8):E9 P
inductive E10{α0 α1 α2 α3 α4 α5 α6 α7 α8 α9:Type}(P:α0->α1->α2->α3->α4->α5->α6->α7->α8->α9->Prop):Prop where
 | mk (a0:α0) (a1:α1) (a2:α2) (a3:α3) (a4:α4) (a5:α5) (a6:α6) (a7:α7) (a8:α8) (a9:α9) (h:P a0 a1 a2 a3 a4 a5 a6 a7 a8 a9):E10 P
structure A3(p0 p1 p2:Prop):Prop where
 mk ::
 h0:p0
 h1:p1
 h2:p2
structure A4(p0 p1 p2 p3:Prop):Prop where
 mk ::
 h0:p0
 h1:p1
 h2:p2
 h3:p3
structure A5(p0 p1 p2 p3 p4:Prop):Prop where
 mk ::
 h0:p0
 h1:p1
 h2:p2
 h3:p3
 h4:p4
structure A6(p0 p1 p2 p3 p4 p5:Prop):Prop where
 mk ::
 h0:p0
 h1:p1
 h2:p2
 h3:p3
 h4:p4
 h5:p5
structure A7(p0 p1 p2 p3 p4 p5 p6:Prop):Prop where
 mk ::
 h0:p0
 h1:p1
 h2:p2
 h3:p3
 h4:p4
 h5:p5
 h6:p6
structure A8(p0 p1 p2 p3 p4 p5 p6 p7:Prop):Prop where
 mk ::
 h0:p0
 h1:p1
 h2:p2
 h3:p3
 h4:p4
 h5:p5
 h6:p6
 h7:p7
structure A9(p0 p1 p2 p3 p4 p5 p6 p7 p8:Prop):Prop where
 mk ::
 h0:p0
 h1:p1
 h2:p2
 h3:p3
 h4:p4
 h5:p5
 h6:p6
 h7:p7
 h8:p8
structure A10(p0 p1 p2 p3 p4 p5 p6 p7 p8 p9:Prop):Prop where
 mk ::
 h0:p0
 h1:p1
 h2:p2
 h3:p3
 h4:p4
 h5:p5
 h6:p6
 h7:p7
 h8:p8
 h9:p9
structure A11(p0 p1 p2 p3 p4 p5 p6 p7 p8 p9 p10:Prop):Prop where
 mk ::
 h0:p0
 h1:p1
 h2:p2
 h3:p3
 h4:p4
 h5:p5
 h6:p6
 h7:p7
 h8:p8
 h9:p9
 h10:p10
structure A12(p0 p1 p2 p3 p4 p5 p6 p7 p8 p9 p10 p11:Prop):Prop where
 mk ::
 h0:p0
 h1:p1
 h2:p2
 h3:p3
 h4:p4
 h5:p5
 h6:p6
 h7:p7
 h8:p8
 h9:p9
 h10:p10
 h11:p11
structure A13(p0 p1 p2 p3 p4 p5 p6 p7 p8 p9 p10 p11 p12:Prop):Prop where
 mk ::
 h0:p0
 h1:p1
 h2:p2
 h3:p3
 h4:p4
 h5:p5
 h6:p6
 h7:p7
 h8:p8
 h9:p9
 h10:p10
 h11:p11
 h12:p12

abbrev Key:=Sum Int j3
def ge:Key->c6->Bool
 | .inl k,v=>Jt k v
 | .inr x,v=>IN x v
def keyH(w:r9):Key->Int
 | .inl k=>hashInt k
 | .inr x=>hashStr w x
def yX:∀{k:Key}{v:c6},ge k v=JO->(∃ i t,k=CQ i/\v=C3 i t)\/(∃ x t,k=CF x/\v=Dj x t)
 | .inl i,v,h=>by
  obtain⟨t,e⟩:=Value.isInt_shape (k:=i) (v:=v) h;rwa[.inl ⟨i,t,rfl,e⟩]
 | .inr x,v,h=>by
  obtain⟨t,e⟩:=Value.isStrOf_shape (x:=x) (v:=v) h;rwa[.inr ⟨x,t,rfl,e⟩]
def bh(i:Int)(t:Ju):ge (.inl i) (.int i t)=true:=by simp[ge,Jt]
def az(x:j3)(t:Ju):ge (.inr x) (.str x t)=true:=by simp[ge,IN]
def UA(a b:Int):decide ((CQ a:Key)=CQ b)=(a == b):=by
 by_cases e:a=b
 ·subst e; simp
 ·have h:¬ (CQ a:Key)=CQ b:=λq=>e (Sum.inl.inj q);rw[y8 h];exact(x4.mpr e).symm
def TQ(a b:j3):decide ((CF a:Key)=CF b)=decide (a=b):=by
 by_cases e:a=b
 ·subst e; simp
 ·have h:¬ (CF a:Key)=CF b:=λq=>e (HR q);rw[y8 h,y8 e]
def UH(a:Int)(b:j3):decide ((CQ a:Key)=CF b)=false:=y8 (λq=>nomatch q)
def UI(a:j3)(b:Int):decide ((CF a:Key)=CQ b)=false:=y8 (λq=>nomatch q)

def yY(prog:m9)(w:r9):PySem.KeyKind prog w Key where
 is:=ge
 hash:=keyH w
 inj:=λv a b g d=>by
  rcases yX g with ⟨i,t,rfl,rfl⟩ | ⟨x,t,rfl,rfl⟩
  ·rcases yX d with ⟨j,u,rfl,e⟩ | ⟨y,u,rfl,e⟩
   ·injection e with e1 _; rw[e1]
   ·exact nomatch e
  ·rcases yX d with ⟨j,u,rfl,e⟩ | ⟨y,u,rfl,e⟩
   ·exact nomatch e
   ·injection e with e1 _; rw[e1]
 byValue:=λk v h=>by
  rcases yX h with ⟨i,t,rfl,rfl⟩ | ⟨x,t,rfl,rfl⟩ <;> rfl
 pyHash:=λc h=>by
  rcases yX c with ⟨i,t,rfl,rfl⟩ | ⟨x,t,rfl,rfl⟩
  ·rwa[wpAny_pyHash_int h]
  ·rwa[wpAny_pyHash_str h]
 eqBool:=λf c h=>by
  rcases yX f with ⟨i,t,rfl,rfl⟩ | ⟨x,t,rfl,rfl⟩
  ·rcases yX c with ⟨j,u,rfl,rfl⟩ | ⟨y,u,rfl,rfl⟩
   ·rw[UA] at h; rwa[FK h]
   ·rw[UH] at h; rwa[GN i t y u _ _ _ _ h]
  ·rcases yX c with ⟨j,u,rfl,rfl⟩ | ⟨y,u,rfl,rfl⟩
   ·rw[UI] at h; rwa[GO x t j u _ _ _ _ h]
   ·rw[TQ] at h; rwa[wpAny_eqBool_str h]
 «strs»:=λk x t v h=>by
  rcases yX h with ⟨i,u,rfl,e⟩ | ⟨y,u,rfl,e⟩
  ·exact nomatch e
  ·injection e with e1 _
   subst e1;cases v <;> rfl

def gM(prog:m9)(w:r9)(i:Int)(t:Ju):(yY prog w).is (.inl i) (.int i t)=true:=bh i t
def wl(prog:m9)(w:r9)(x:j3)(t:Ju):(yY prog w).is (.inr x) (.str x t)=true:=az x t
end L2

namespace L2

inductive V where
 | non | bl (b:Bool) | int (i:Int) | str (x:j3) | byt (b:Array UInt8) | flt (b:UInt64) | ref (a:c7) | ty (n:String)
 deriving DecidableEq

def xJ:V->c6->Prop
 | .non,u=>u=AA
 | .bl b,u=>u=EO b
 | .int i,u=>∃ t,u=C3 i t
 | .str x,u=>∃ t,u=Dj x t
 | .byt b,u=>∃ t,u=HS b t
 | .flt b,u=>∃ t,u=Gp b t
 | .ref a,u=>u=j8 a
 | .ty n,u=>u=Ik n

abbrev yN:List V->List c6->Prop:=Ho xJ
def yN.length{c:List V}{d:List c6}(r:yN c d):c.length=d.length:=FD r
def yN.get:∀{c:List V}{d:List c6}{i:Nat}{x:V},yN c d->c[i]?=O x->∃ u,d[i]?=O u/\xJ x u
 | _,_,_,_,.nil,e=>by simp at e
 | _,_,0,_,.cons r _,e=>by simp at e; subst e; rwa[_,rfl,r]
 | _,_,i+1,x,.cons _ t,e=>by
  obtain⟨u,h1,h2⟩:=yN.get (i:=i) (x:=x) t (by simpa using e);exact⟨u,by simpa using h1,h2⟩
def yN.set{x:V}{u:c6}(r:xJ x u):∀{c:List V}{d:List c6}(i:Nat),yN c d->yN (c.set i x) (d.set i u)
 | _,_,_,.nil=>.nil
 | _,_,0,.cons _ t=>.cons r t
 | _,_,i+1,.cons q t=>.cons q (yN.set r i t)
def yN.append:∀{d c:List V}{f e:List c6},yN d f->yN c e->yN (d++c) (f++e)
 | _,_,_,_,.nil,s=>s
 | _,_,_,_,.cons r t,s=>.cons r (yN.append t s)
def yN.take:∀{c:List V}{d:List c6}(n:Nat),yN c d->yN (c.take n) (d.take n)
 | _,_,0,_=>.nil
 | _,_,_+1,.nil=>.nil
 | _,_,n+1,.cons r t=>.cons r (yN.take n t)
def yN.drop:∀{c:List V}{d:List c6}(n:Nat),yN c d->yN (c.drop n) (d.drop n)
 | _,_,0,r=>r
 | _,_,_+1,.nil=>.nil
 | _,_,n+1,.cons _ t=>yN.drop n t
def jo:Option V->Option c6->Prop
 | some v,O u=>xJ v u
 | none,JN=>True
 | _,_=>False
def KV{c:Type} : List (c×V)->List (c×c6)->Prop:=Ho λ(p:c×V) (q:c×c6)=>p.1=q.1/\xJ p.2 q.2

def kV:Key->V
 | .inl i=>.int i
 | .inr x=>.str x

inductive HO where
 | lst (xs:List V)
 | tup (xs:List V)
 | dK (kvs:List (Key×V)) | dT (kvs:List (List Key×V))
 | set (S:Int->Bool) (n:Nat)
 | ins (C dx:c7) (fs:List (j3×V))
 | own (x:c7)
 | xd (fs:List (j3×V))
 | met (f x:c7)
 | rng (lo hi:Int)
 | frz (o:By) (u:HO)
 | tbl (ps:Array c6)
 | ext (φ:w9->Prop)

abbrev Hp:=c7->Option HO
def upd(H:Hp)(a:c7)(o:HO):Hp:=λb=>if b=a then O o else H b
def zA{H:Hp}{a:c7}{o:HO} : upd H a o a=O o:=by unfold upd; rw[y6 rfl]
def zD{H:Hp}{a b:c7}{o:HO}(h:b≠a):upd H a o b=H b:=by unfold upd; rw[y4 h]
def rA{H:Hp}{a:c7}{o u:HO} : upd (upd H a o) a u=upd H a u:=by
 funext b; unfold upd; split <;> rfl
def sr{H:Hp}{a b:c7}{o u:HO}(h:H a=O o)(c:H b=O u)(d:o≠u):a≠b:=by
 intro e; subst e; rw[h] at c; rwa[d (t7 c)]
def zG{H:Hp}{a b:c7}{o:HO}(h:H a=O o)(c:H b=JN):a≠b:=by
 intro e; subst e; rw[h] at c; cases c

section
variable(P:m9)(w:r9)
def wN(H:Hp)(h:w9)(a:c7):HO->Prop
 | .lst e=>e.length<=sizeLine/\∃(d:List c6)(n:Nat),yN e d/\h.get? a=O { cls:=.type "list",data:=.seq d.toArray n }
 | .tup e=>e.length<=sizeLine/\∃ d:List c6,yN e d/\IsTup h a d.toArray
 | .dK c=>c.length<=sizeLine/\(a == sysModules)=JP/\∃ l,KV c l/\h.DictOf (yY P w) a l
 | .dT c=>c.length<=sizeLine/\(a == sysModules)=JP/\∃ e:List (List Key×c7×c6),
   Ho (λ(p:List Key×V) (q:List Key×c7×c6)=>p.1=q.1/\H q.2.1=O (.tup (p.1.map kV))/\xJ p.2 q.2.2) c e /\
   ∃ o m s,h.get? a=O o/\o.ExactDict/\o.data=.dict m s/\m.toList=e.map (entryOfKey (tupleKind (yY P w)))/\(e.map (·.1)).Nodup
 | .set S n=>h.SetOf (intKind P w) a S n
 | .ins C i fs=>H i=O (.own a)/\fs.length<=1000/\i≠a/\h.get? a=O (BW C i) /\
   ∃ g,h.Ns1 i g/\(∀ f,jo (fs.lookup f) (g f))/\GZ g (fs.map (·.1))
 | .own _=>∃ o,h.get? a=O o
 | .xd fs=>∃ g,h.Ns1 a g/\∀ f,jo (fs.lookup f) (g f)
 | .rng lo hi=>∃ t u v,h.get? a=O { cls:=.type "range",data:=.fields #[.int lo t,.int hi u,.int 1 v] }
 | .frz o u=>h.get? a=O o/\wN H h a u
 | .tbl r=>h.get? a=O { cls:=.none,data:=.fields r }
 | .met f x=>h.get? a=O (Fj (.ref f) (.ref x))
 | .ext j=>j h/\(∃ o,h.get? a=O o)/\∀ h1 h2:w9,j h1->(∀ o,h1.get? a=O o->h2.get? a=O o)->j h2
def HOk(H:Hp)(h:w9):Prop:=∀ a o,H a=O o->wN P w H h a o
end

section
variable{P:m9}{w:r9}{H H':Hp}{h h':w9}{a:c7}{o:HO}
def wN.lt(x:wN P w H h a o):a<h.objs.size:=by
 cases o with
 | lst d=>obtain⟨_,_,_,_,e⟩:=x; rwa[g9 e]
 | tup d=>obtain⟨_,_,_,p⟩:=x; rwa[p.lt]
 | dK c=>obtain⟨_,_,_,_,o,_,_,e,_⟩:=x; rwa[g9 e]
 | dT c=>obtain⟨_,_,_,_,o,_,_,e,_⟩:=x; rwa[g9 e]
 | set S n=>obtain⟨o,_,_,_,e,_⟩:=x; rwa[g9 e]
 | ins C j fs=>obtain⟨_,_,_,e,_⟩:=x; rwa[g9 e]
 | own y=>obtain⟨_,e⟩:=x; rwa[g9 e]
 | xd fs=>obtain⟨_,⟨_,_,_,e,_⟩,_⟩:=x; rwa[g9 e]
 | rng lo hi=>obtain⟨_,_,_,e⟩:=x; rwa[g9 e]
 | frz ob u=>obtain⟨e,_⟩:=x; rwa[g9 e]
 | tbl i=>exact g9 (show h.get? a=O _ from x)
 | met f y=>exact g9 (show h.get? a=O _ from x)
 | ext g=>obtain⟨_,⟨_,e⟩,_⟩:=x; rwa[g9 e]
def Paired.mapP{g e:Type}{F G:g->e->Prop} : ∀{d:List g}{c:List e},Ho F d c->(∀ a b,F a b->G a b)->Ho G d c
 | _,_,.nil,_=>.nil
 | _,_,.cons r t,f=>.cons (f _ _ r) (Paired.mapP t f)
def wN.stay(x:wN P w H h a o)(k:∀ b u,(b=a\/H b=O (.own a))->h.get? b=O u->h'.get? b=O u)
  (I:∀ b,H b=O (.own a)->H' b=O (.own a)) (G:∀ b l,H b=O (.tup l)->H' b=O (.tup l)):wN P w H' h' a o:=by
 induction o with
 | lst l=>obtain⟨z,j,n,r,e⟩:=x; rwa[z,j,n,r,k _ _ (.inl rfl) e]
 | tup l=>obtain⟨z,j,r,ob,e,c⟩:=x; rwa[z,j,r,ob,k _ _ (.inl rfl) e,c]
 | dK A=>obtain⟨z,y,D,r,ob,g,i,e,c⟩:=x; rwa[z,y,D,r,ob,g,i,k _ _ (.inl rfl) e,c]
 | dT A =>
  obtain⟨z,y,l,r,ob,g,i,e,c⟩:=x;rwa[z,y,l,Paired.mapP r λp q z=>⟨z.1,G _ _ z.2.1,z.2.2⟩,ob,g,i,k _ _ (.inl rfl) e,c]
 | set S n=>obtain⟨ob,g,i,t,e,c⟩:=x; rwa[ob,g,i,t,k _ _ (.inl rfl) e,c]
 | ins C M fs =>
  obtain⟨d,z,ne,e,s,⟨m,g,i,J,c⟩,r⟩:=x;rwa[I _ d,z,ne,k _ _ (.inl rfl) e,s,⟨m,g,i,k _ _ (.inr d) J,c⟩,r]
 | own y=>obtain⟨ob,e⟩:=x; rwa[ob,k _ _ (.inl rfl) e]
 | xd fs=>obtain⟨s,⟨m,g,i,e,c⟩,r⟩:=x; rwa[s,⟨m,g,i,k _ _ (.inl rfl) e,c⟩,r]
 | rng lo hi=>obtain⟨t,u,v,e⟩:=x; rwa[t,u,v,k _ _ (.inl rfl) e]
 | frz ob u E=>obtain⟨e,q⟩:=x; rwa[k _ _ (.inl rfl) e,E q]
 | tbl B =>
  have e:h.get? a=O { cls:=.none,data:=.fields B }:=x;show h'.get? a=O { cls:=.none,data:=.fields B };rwa[k a _ (.inl rfl) e]
 | met f y =>
  have e:h.get? a=O (Fj (.ref f) (.ref y)):=x;show h'.get? a=O (Fj (.ref f) (.ref y));rwa[k a _ (.inl rfl) e]
 | ext L=>obtain⟨p,⟨o,e⟩,st⟩:=x; rwa[st _ _ p λo q=>k _ _ (.inl rfl) q,⟨o,k _ _ (.inl rfl) e⟩,st]
def HOk.lt(x:HOk P w H h)(e:H a=O o):a<h.objs.size:=(x a o e).lt
def HOk.fresh(x:HOk P w H h)(e:h.objs.size<=a):H a=none:=by
 cases q:H a with
 | none=>rfl
 | some u=>rwa[y9 (j5 (x.lt q) e) (Bh _)]
def HOk.kept(x:HOk P w H h)(k:∀ b u,h.get? b=O u->h'.get? b=O u):HOk P w H h':=λa o e =>
 (x a o e).stay (λb u _ q=>k b u q) (λ_ q=>q) λ_ _ q=>q
def HOk.laid(x:HOk P w H h)(k:∀ b u,h.get? b=O u->h'.get? b=O u)(g:h.objs.size<=a)(new:wN P w (upd H a o) h' a o):HOk P w (upd H a o) h':=λb u e=>by
 have d:=x.fresh g;by_cases f:b=a
 ·subst f; rw[zA] at e; cases e; rwa[new]
 ·rw[zD f] at e;exact(x b u e).stay (λc v _ q=>k c v q) (λc q=>by rw[zD (zG q d)]; rwa[q]) λc i q=>by rw[zD (zG q d)]; rwa[q]
end

def Rd(H:Hp)(a:c7)(u:HO):Prop:=H a=O u\/∃ o,H a=O (.frz o u)
def Rd.ok{P:m9}{w:r9}{H:Hp}{h:w9}{a:c7}{u:HO}(r:Rd H a u)(x:HOk P w H h):wN P w H h a u:=by
 rcases r with r | ⟨o,r⟩
 ·rwa[x a u r]
 ·obtain⟨_,q⟩:=x a _ r;rwa[q]
def Mut:Option HO->Prop
 | some (.lst _)=>True
 | some (.dK _)=>True
 | some (.dT _)=>True
 | some (.set _ _)=>True
 | some (.ins _ _ _)=>True
 | some (.ext _)=>True
 | _=>False
section
variable{P:m9}{w:r9}{H:Hp}{h h':w9}{x e:c7}{o':HO}
def HOk.write(ok:HOk P w H h)(j:Mut (H x))(p:e=x\/H e=O (.own x))(k:∀ b u,b≠e->h.get? b=O u->h'.get? b=O u)(n:∃ u,h'.get? e=O u)
  (new:wN P w (upd H x o') h' x o'):HOk P w (upd H x o') h':=λb u q=>by
 have f:∀ c y,H c=O (.own y)->c≠x:=λc y r z=>by subst z; rw[r] at j; rwa[j]
 have g:∀ c i,H c=O (.tup i)->c≠x:=λc i r z=>by subst z; rw[r] at j; rwa[j]
 by_cases m:b=x
 ·subst m; rw[zA] at q; cases q; rwa[new]
 ·rw[zD m] at q;by_cases d:b=e
  ·have o:H b=O (.own x):=by
    rcases p with z | z
    ·rwa[y9 (d.trans z) m]
    ·rw[d]; rwa[z]
   rw[q] at o; cases o;obtain⟨v,s⟩:=n;rwa[v,by rw[d]; exact s]
  ·refine(ok b u q).stay (λc v l r=>k c v ?_ r) (λc r=>by rw[zD (f c b r)]; rwa[r]) λc i r=>by rw[zD (g c i r)]; rwa[r]
   rcases l with rfl | l
   ·rwa[d]
   ·rintro rfl;rcases p with z | z
    ·rwa[f c b l z]
    ·rw[l] at z; cases z; rwa[m rfl]
end

structure Un(fs ex:List c7)(H H':Hp)(h h':w9):Prop where
 keep:∀ b o,h.get? b=O o->H b=JN->b ∉ fs->b ∉ ex->h'.get? b=O o
 slot:∀ b o,h.get? b=O o->H b=JN->b∈fs->b ∉ ex->∃ sl,h'.get? b=O { o with slots:=sl }
 free:∀ b o,h.get? b=O o->H b=JN->b ∉ ex->H' b=JN
 there:∀ b o,h.get? b=O o->b ∉ ex->∃ o',h'.get? b=O o'
 tups:∀ b xs,H b=O (.tup xs)->H' b=O (.tup xs)
 frzs:∀ b o u,H b=O (.frz o u)->H' b=O (.frz o u)
 tbls:∀ b ps,H b=O (.tbl ps)->∃ more,H' b=O (.tbl (ps++more))
section
variable{fs fs' ex ex':List c7}{H H1 H2:Hp}{h h1 h2 h':w9}{a x e:c7}{o:HO}
def Un.any(u:Un fs ex H H1 h h1){b:c7}{ob:By}(q:h.get? b=O ob)(n:H b=JN)(c:b ∉ ex):∃ f,h1.get? b=O { ob with slots:=f }:=by
 by_cases d:b∈fs
 ·rwa[u.slot b ob q n d c]
 ·rwa[ob.slots,u.keep b ob q n d c]
def Un.kept(k:∀ b u,h.get? b=O u->h'.get? b=O u):Un fs ex H H h h' :=
 ⟨λb ob q _ _ _=>k b ob q,λb ob q _ _ _=>⟨ob.slots,k b ob q⟩,λ_ _ _ n _=>n,λb ob q _=>⟨ob,k b ob q⟩,λ_ _ q=>q,λ_ _ _ q=>q,λ_ c q=>⟨#[],by rw[q]; simp⟩⟩
def Un.refl:Un fs ex H H h h:=Un.kept λ_ _ q=>q
def Un.laid(k:∀ b u,h.get? b=O u->h'.get? b=O u)(f:h.objs.size<=a)(c:H a=JN):Un fs ex H (upd H a o) h h' where
 keep:=λb u q _ _ _=>k b u q
 slot:=λb u q _ _ _=>⟨u.slots,k b u q⟩
 free:=λb u q n _=>by rw[zD (o9 (j5 (g9 q) f))]; rwa[n]
 there:=λb u q _=>⟨u,k b u q⟩
 tups:=λb d q=>by rw[zD (zG q c)]; rwa[q]
 frzs:=λb u d q=>by rw[zD (zG q c)]; rwa[q]
 tbls:=λb g q=>⟨#[],by rw[zD (zG q c),q]; simp⟩
def Un.write(d:Mut (H x))(m:e=x\/H e=O (.own x))(k:∀ b u,b≠e->h.get? b=O u->h'.get? b=O u)(g:∃ u,h'.get? e=O u):Un fs ex H (upd H x o) h h':=by
 have i:∀ b,H b=JN->b≠x:=λb n z=>by subst z; rw[n] at d; rwa[d]
 have j:∀ b,H b=JN->b≠e:=λb n z=>by
  subst z;rcases m with r | r
  ·rwa[i b n r]
  ·rw[n] at r; cases r
 have f:∀ b u,H b=O u->¬ Mut (O u)->b≠x:=λb u q nm z=>by subst z; rw[q] at d; rwa[nm d]
 refine⟨λb u q n _ _=>k b u (j b n) q,λb u q n _ _=>⟨u.slots,k b u (j b n) q⟩,λb u q n _=>by rw[zD (i b n)]; exact n,λb u q _=>?_,
  λb l q=>by rw[zD (f b _ q λz=>z)]; exact q,λb u l q=>by rw[zD (f b _ q λz=>z)]; exact q,λb p q=>⟨#[],by rw[zD (f b _ q λz=>z),q]; simp⟩⟩
 by_cases c:b=e
 ·subst c; rwa[g]
 ·rwa[u,k b u c q]
end

def trk(h:w9)(H:Hp):List c7:=(Au h.objs.size).filter λa=>(H a).isSome
def Yc(h:w9)(H:Hp):w9:=F5 h (trk h H)
def al(h:w9)(H:Hp):(Yc h H).objs.size=h.objs.size:=PySem.W.hideAll_size _ _
def Xr{h:w9}{H:Hp}{b:c7}{o:By}(e:h.get? b=O o)(n:H b=JN):(Yc h H).get? b=O o :=
 GF _ e λc=>by
  have q:(H b).isSome=true:=(BX.mp c).2;rw[n] at q; simp at q
def WZ{h:w9}{H:Hp}{b:c7}{o:By}(e:(Yc h H).get? b=O o):h.get? b=O o/\H b=none:=by
 have c:h.get? b=O o:=GP (trk h H) e;exists c;cases q:H b with
 | none=>rfl
 | some x =>
  have d:b∈trk h H:=BX.mpr ⟨BR.mpr (g9 c),by simp[q]⟩;have z:(Yc h H).get? b=none:=PySem.W.hideAll_none (trk h H) d;rw[z] at e; cases e

end L2

namespace L2

structure Mod(K:c5)(mg:j3->Option c6)(base:w9):Prop where
 kin:K.In base
 glob:base.Ns mainGlobals mg
 blt:∃ mb,base.Ns builtinsNs mb/\∀ x:j3,x ≠ "__name__" -> mb x=bootBuiltins x
 nolimit:base.NoLimit

structure Cx where
 prog:m9
 w:r9
 K:c5
 mg:j3->Option c6
 base:w9
 A:Ac
 N:List j3
 s₀:d7
 H₀:Hp
 env:Ff
 outer:List Ff
 stack:List Ff
 ex:List c7
 fn:j3->Bool
 calm:Bool
 pn:List (c7×By)
 xe:c6->d7->Prop
def frs(l:List Ff):List c7:=l.filterMap (·.frame)
abbrev Cx.fs(X:Cx):List c7:=frs X.outer

def Vis(c:DL)(x:j3):Prop:=c.names.lookup x=O .local\/c.names.lookup x=O .cell\/c.names.lookup x=O .free
def Loc(c:DL)(x:j3):Prop:=c.names.lookup x=O .local\/c.names.lookup x=O .cell
def Look(env:Ff)(h:w9)(m:j3->Option c6)(x:j3)(u:c6):Prop :=
 (env.kindOf x=O .local/\m x=O u)\/((env.kindOf x=O .cell\/env.kindOf x=O .free)/\∃ c,env.cells.lookup x=O c/\h.IsCell c (O u))

structure Cx.Ok(X:Cx):Prop where
 mod:Mod X.K X.mg X.base
 kind:X.env.scope.kind=.function
 glob:X.env.globals=mainGlobals
 blt:X.env.builtins=builtinsNs
 above:X.s₀.heap.objs.size<=X.env.locals
 inj:∀ x y c,X.env.cells.lookup x=O c->X.env.cells.lookup y=O c->x=y
 has:∀ x,(X.env.kindOf x=O .cell\/X.env.kindOf x=O .free)->∃ c,X.env.cells.lookup x=O c
 cab:∀ x c,X.fn x=JO->X.env.cells.lookup x=O c->X.s₀.heap.objs.size<=c
 hd:X.calm=JO->X.A.handled=JN
 frames:X.A.frames=O X.stack
 stk:X.stack=X.outer\/(X.stack=X.env::X.outer/\X.env.frame=O X.env.locals)
 exf:∀ b∈X.ex,b≠X.env.locals/\∀ x c,X.env.cells.lookup x=O c->c≠b
 bs:∀ b o,X.base.get? b=O o->X.s₀.heap.get? b=O o/\X.H₀ b=JN
 bsz:X.base.objs.size<=X.s₀.heap.objs.size
 noex:∀ b o,X.base.get? b=O o->b ∉ X.ex
 exfs:∀ b∈X.ex,b ∉ X.fs
 funs:X.s₀.heap.FunFrames X.base X.outer
 frf:∀ b∈X.fs,X.H₀ b=JN

structure Inv(X:Cx)(JQ:List (c7×By))(σ:List (Option V))(H:Hp)(s:d7):Prop where
 ok:X.Ok
 os:s.os=X.s₀.os
 bare:EG s.gens
 base:Un X.fs X.ex X.H₀ H X.s₀.heap s.heap
 loc:∃ m,s.heap.Ns X.env.locals m/\∀(i:Nat)(x:j3)(v:V),X.N[i]?=O x->σ[i]?=O (O v)->Vis X.env.scope x->∃ u,xJ v u/\Look X.env s.heap m x u
 cell:∀ x c,X.env.cells.lookup x=O c->∃ v,s.heap.IsCell c v
 free:H X.env.locals=JN
 freeC:∀ x c,X.env.cells.lookup x=O c->H c=JN
 pin:∀ p∈X.pn++JQ,s.heap.get? p.1=O p.2/\H p.1=JN/\p.1≠X.env.locals/\p.1 ∉ X.fs/\∀ v,p.2.data≠.cell v
 hok:HOk X.prog X.w H s.heap
 len:σ.length=X.N.length

section
variable{X:Cx}{JQ:List (c7×By)}{σ:List (Option V)}{H H':Hp}{s:d7}{h':w9}

def Cx.Ok.nofr(ok:X.Ok){b:c7}{o:By}(e:X.base.get? b=O o):b ∉ X.fs:=λc=>by
 have:=(ok.funs.mem c).1;rw[e] at this; cases this
def Inv.bs(I:Inv X JQ σ H s):∀ b o,X.base.get? b=O o->s.heap.get? b=O o/\H b=none:=λb o e =>
 ⟨I.base.keep b o (I.ok.bs b o e).1 (I.ok.bs b o e).2 (I.ok.nofr e) (I.ok.noex b o e),I.base.free b o (I.ok.bs b o e).1 (I.ok.bs b o e).2 (I.ok.noex b o e)⟩
def Inv.bk(I:Inv X JQ σ H s):∀ b o,X.base.get? b=O o->s.heap.get? b=O o:=λb o e=>(I.bs b o e).1
def Inv.mod(I:Inv X JQ σ H s):Mod X.K X.mg X.base:=I.ok.mod
def Inv.kIn(I:Inv X JQ σ H s):X.K.In s.heap:=I.ok.mod.kin.keeps I.bk
def Inv.lt(I:Inv X JQ σ H s):X.env.locals<s.heap.objs.size:=let ⟨_,hn,_⟩:=I.loc; hn.lt
def Inv.sz(I:Inv X JQ σ H s):X.s₀.heap.objs.size<=s.heap.objs.size:=f9 I.ok.above (Bu I.lt)
def Inv.nofs(I:Inv X JQ σ H s){a:c7}(h:s.heap.objs.size<=a):a ∉ X.fs:=λd=>by
 obtain⟨_,o,c,_⟩:=I.ok.funs.mem d;rwa[y9 (j5 (g9 c) (f9 I.sz h)) (Bh _)]
def Inv.cne(I:Inv X JQ σ H s):∀ x c,X.env.cells.lookup x=O c->c≠X.env.locals:=λx c e z=>by
 obtain⟨v,o,g,hd⟩:=I.cell x c e;obtain⟨m,⟨h,i,j,d,f,_⟩,_⟩:=I.loc;rw[z,d] at g; cases g; rw[f] at hd; cases hd
def Inv.funs(I:Inv X JQ σ H s):s.heap.FunFrames X.base X.outer:=by
 have all:∀(l:List Ff),(∀ b∈frs l,b∈X.fs)->X.s₀.heap.FunFrames X.base l->s.heap.FunFrames X.base l:=by
  intro l
  induction l with
  | nil=>intro _ _; trivial
  | cons env r h =>
   intro g n;obtain⟨p,⟨L,o,c,m,j,hd⟩,i⟩:=n;have f:L∈X.fs:=g L (by unfold frs; rw[BE,c]; rwa[Av]);obtain⟨q,e⟩:=I.base.slot L o j (I.ok.frf L f) f λz=>I.ok.exfs L z f;rwa[p,⟨L,_,c,m,e,hd⟩,h (λb d=>g b (by unfold frs; rw[BE,c]; exact Af _ d)) i]
 rwa[all X.outer (λ_ d=>d) I.ok.funs]

def Inv.stack(I:Inv X JQ σ H s):s.heap.FunFrames X.base X.stack:=by
 rcases I.ok.stk with e | ⟨e,d⟩
 ·rw[e]; rwa[I.funs]
 ·rw[e];obtain⟨m,c,_⟩:=I.loc;erw[.cons (by rw[I.ok.kind]; decide) d c ?_ I.funs];rwa[El (f9 I.ok.bsz I.ok.above)]
def Inv.stkSub(I:Inv X JQ σ H s):∀ b∈frs X.stack,b∈X.env.locals::X.fs:=λb c=>by
 rcases I.ok.stk with e | ⟨e,d⟩
 ·rw[e] at c; rwa[Af _ c]
 ·rw[e] at c;unfold frs at c;rw[BE,d] at c;rwa[c]
def Inv.stkFree(I:Inv X JQ σ H s):∀ b∈frs X.stack,H b=none:=λb c=>by
 rcases o0.mp (I.stkSub b c) with e | c
 ·rw[e]; rwa[I.free]
 ·obtain⟨_,o,d,_⟩:=I.ok.funs.mem c;rwa[I.base.free b o d (I.ok.frf b c) λz=>I.ok.exfs b z c]

def Inv.step{g':Array GenState}{t':Nat}{d':Drawn}{ch:List c7}(I:Inv X JQ σ H s)
  (h:∀ b∈ch,(b∈X.ex\/X.s₀.heap.objs.size<=b)/\b≠X.env.locals/\(∀ x c,X.env.cells.lookup x=O c->c≠b)/\∀ p∈X.pn++JQ,p.1≠b)
  (keep:∀ b o,b≠X.env.locals->b ∉ X.fs->b ∉ ch->s.heap.get? b=O o->H b=JN->h'.get? b=O o)
  (slot:∀ b o,b≠X.env.locals->b∈X.fs->b ∉ ch->s.heap.get? b=O o->H b=JN->∃ N,h'.get? b=O { o with slots:=N }) (free:∀ b o,b ∉ ch->s.heap.get? b=O o->H b=JN->H' b=JN)
  (there:∀ b o,b ∉ ch->s.heap.get? b=O o->∃ E,h'.get? b=O E)
  (tups:∀ b B,H b=O (.tup B)->H' b=O (.tup B)) (frzs:∀ b o u,H b=O (.frz o u)->H' b=O (.frz o u)) (tbls:∀ b L,H b=O (.tbl L)->∃ more,H' b=O (.tbl (L++more)))
  (ns:∀ m,s.heap.Ns X.env.locals m->h'.Ns X.env.locals m) (hok:HOk X.prog X.w H' h') (hg:EG g') :
  Inv X JQ σ H' { s with heap:=h',gens:=g',drawn:=d',toks:=t' }:=by
 have G:∀ b o,X.s₀.heap.get? b=O o->b≠X.env.locals:=λb o e=>o9 (j5 (g9 e) I.ok.above);have y:∀ b o,X.s₀.heap.get? b=O o->b ∉ X.ex->b ∉ ch:=λb o e f C=>by
  rcases (h b C).1 with z | z
  ·rwa[f z]
  ·rwa[y9 (j5 (g9 e) z) (Bh _)]
 have j:∀ x c,X.env.cells.lookup x=O c->∀ v,s.heap.IsCell c v->h'.IsCell c v:=λx c e v ⟨o,D,hd⟩=>by
  have g:c ∉ ch:=λz=>(h c z).2.2.1 x c e rfl;by_cases R:c∈X.fs
  ·obtain⟨N,q⟩:=slot c o (I.cne x c e) R g D (I.freeC x c e);rwa[_,q,hd]
  ·rwa[o,keep c o (I.cne x c e) R g D (I.freeC x c e),hd]
 erw[I.ok,I.os,hg,⟨λb o e n C f=>?_,λb o e n C f=>?_,λb o e n f=>?_,λb o e f=>?_,λb B e=>tups b B (I.base.tups b B e),λb o B e=>frzs b o B (I.base.frzs b o B e),λb L e=>?_⟩,?_,λx c e=>?_,?_,λx c e=>?_,λp Q=>?_,hok,I.len]
 ·rwa[keep b o (G b o e) C (y b o e f) (I.base.keep b o e n C f) (I.base.free b o e n f)]
 ·obtain⟨N,A⟩:=I.base.slot b o e n C f;obtain⟨M,J⟩:=slot b _ (G b o e) C (y b o e f) A (I.base.free b o e n f);rwa[M,J]
 ·obtain⟨E,A⟩:=I.base.there b o e f;rwa[free b E (y b o e f) A (I.base.free b o e n f)]
 ·obtain⟨E,A⟩:=I.base.there b o e f;rwa[there b E (y b o e f) A]
 ·obtain⟨T,A⟩:=I.base.tbls b L e;obtain⟨S,J⟩:=tbls b _ A;rwa[T++S,by rw[J,GQ]]
 ·obtain⟨m,Y,Z⟩:=I.loc;erw[m,ns m Y,λi x v A J e3=>?_];obtain⟨u,r,l⟩:=Z i x v A J e3;exists u,r;rcases l with l | ⟨k,c,e,z⟩
  ·rwa[.inl l]
  ·rwa[.inr ⟨k,c,e,j x c e _ z⟩]
 ·obtain⟨v,z⟩:=I.cell x c e;rwa[v,j x c e v z]
 ·obtain⟨m,⟨o,_,_,D,_⟩,_⟩:=I.loc;rwa[free _ o (λz=>(h _ z).2.1 rfl) D I.free]
 ·obtain⟨v,o,D,hd⟩:=I.cell x c e;rwa[free c o (λz=>(h c z).2.2.1 x c e rfl) D (I.freeC x c e)]
 ·obtain⟨e,n,ne,P,d⟩:=I.pin p Q;have g:p.1 ∉ ch:=λz=>(h p.1 z).2.2.2 p Q rfl;rwa[keep p.1 p.2 ne P g e n,free p.1 p.2 g e n,ne,P,d]
def Inv.un{t':Nat}(I:Inv X JQ σ H s)(u:Un X.fs [] H H' s.heap h')(hok:HOk X.prog X.w H' h'):Inv X JQ σ H' { s with heap:=h',toks:=t' }:=by
 obtain⟨m,⟨o,x,y,h,r⟩,_⟩:=id I.loc;obtain⟨p,l⟩:=u.any h I.free (by simp);exact I.step (g':=s.gens) (d':=s.drawn) (ch:=[]) (λ_ z=>nomatch z) (λb o _ d _ e n=>u.keep b o e n d (by simp)) (λb o _ d _ e n=>u.slot b o e n d (by simp)) (λb o _ e n=>u.free b o e n (by simp)) (λb o _ e=>u.there b o e (by simp)) u.tups u.frzs u.tbls (λv j=>by
  obtain⟨q,f,g,c,i⟩:=j;rw[h] at c; cases c;rwa[_,f,g,l,i]) hok I.bare
def Inv.call{g':Array GenState}{t':Nat}{d':Drawn}{ch:List c7}(I:Inv X JQ σ H s)(u:Un (frs X.stack) ch H H' s.heap h')(hok:HOk X.prog X.w H' h')(y:EG g')
  (g:∀ b∈ch,(b∈X.ex\/X.s₀.heap.objs.size<=b)/\b≠X.env.locals/\(∀ x c,X.env.cells.lookup x=O c->c≠b)/\∀ p∈X.pn++JQ,p.1≠b) :
  Inv X JQ σ H' { s with heap:=h',gens:=g',drawn:=d',toks:=t' }:=by
 obtain⟨m,⟨o,E,G,l,r⟩,_⟩:=id I.loc;obtain⟨B,h⟩:=u.any l I.free λz=>(g _ z).2.1 rfl;exact I.step (ch:=ch) g (λb o h A d e n=>u.keep b o e n (λz=>(o0.mp (I.stkSub b z)).elim h A) d) (λb o _ _ d e n=>u.any e n d) (λb o d e n=>u.free b o e n d) (λb o d e=>u.there b o e d) u.tups u.frzs u.tbls (λD v=>by
  obtain⟨C,i,j,f,q⟩:=v;rw[l] at f; cases f;rwa[_,i,j,h,q]) hok y
def Inv.turned{t':Nat}{d:c7}(I:Inv X JQ σ H s)(k:∀ b o,b≠d->s.heap.get? b=O o->h'.get? b=O o)(j:H d=JN)(h:d≠X.env.locals)
  (h1:d∈X.ex\/X.s₀.heap.objs.size<=d) (h2:∀ x c,X.env.cells.lookup x=O c->c≠d) (h3:∀ p∈X.pn++JQ,p.1≠d):Inv X JQ σ H { s with heap:=h',toks:=t' }:=by
 have g:∀ b u,H b=O u->b≠d:=λb u e z=>by rw[z,j] at e; cases e
 refine I.step (g':=s.gens) (d':=s.drawn) (ch:=[d]) (λb w=>?_) (λb o _ _ f e _=>k b o (λz=>f (by simp[z])) e) (λb o _ _ f e _=>⟨o.slots,k b o (λz=>f (by simp[z])) e⟩) (λ_ _ _ _ n=>n)
  (λb o f e=>⟨o,k b o (λz=>f (by simp[z])) e⟩) (λ_ _ e=>e) (λ_ _ _ e=>e) (λb B e=>⟨#[],by rw[e]; simp⟩) (λm l=>?_) (λb u e=>?_) I.bare
 ·have e:b=d:=by simpa using w
  subst e;rwa[h1,h,h2,h3]
 ·obtain⟨o,y,A,i,r⟩:=l;rwa[o,y,A,k _ o (AR h) i,r]
 ·refine(I.hok b u e).stay (λc v f q=>k c v ?_ q) (λ_ q=>q) λ_ _ q=>q;rcases f with z | z
  ·rw[z]; rwa[g b u e]
  ·rwa[g c _ z]
def Inv.tok(I:Inv X JQ σ H s)(t:Nat):Inv X JQ σ H { s with toks:=t }:=I.un (h':=s.heap) (t':=t) Un.refl I.hok
def Inv.kept{t':Nat}(I:Inv X JQ σ H s)(k:∀ b u,s.heap.get? b=O u->h'.get? b=O u):Inv X JQ σ H { s with heap:=h',toks:=t' }:=I.un (Un.kept k) (I.hok.kept k)
def Inv.laid{a:c7}{o:HO}{t':Nat}(I:Inv X JQ σ H s)(k:∀ b u,s.heap.get? b=O u->h'.get? b=O u)(c:s.heap.objs.size<=a)(new:wN X.prog X.w (upd H a o) h' a o) :
  Inv X JQ σ (upd H a o) { s with heap:=h',toks:=t' }:=I.un (Un.laid k c (I.hok.fresh c)) (I.hok.laid k c new)
def Inv.write{x e:c7}{o:HO}{t':Nat}(I:Inv X JQ σ H s)(d:Mut (H x))(f:e=x\/H e=O (.own x))(k:∀ b u,b≠e->s.heap.get? b=O u->h'.get? b=O u)(c:∃ u,h'.get? e=O u)
  (new:wN X.prog X.w (upd H x o) h' x o):Inv X JQ σ (upd H x o) { s with heap:=h',toks:=t' }:=I.un (Un.write d f k c) (I.hok.write d f k c new)
def Inv.pins_of{c:List (c7×By)}(I:Inv X JQ σ H s)(h:∀ p∈c,s.heap.get? p.1=O p.2/\H p.1=JN/\p.1≠X.env.locals/\p.1 ∉ X.fs/\∀ v,p.2.data≠.cell v):Inv X c σ H s :=
 ⟨I.ok,I.os,I.bare,I.base,I.loc,I.cell,I.free,I.freeC,λp d=>(l7.mp d).elim (λz=>I.pin p (AH _ z)) (h p),I.hok,I.len⟩

def ee{N:List j3}(c:N.Nodup){i j:Nat}{x:j3}(a:N[i]?=O x)(b:N[j]?=O x):i=j:=by
 obtain⟨h1,e⟩:=d8.mp a;obtain⟨h2,d⟩:=d8.mp b;exact(Hq c).mp (e.trans d.symm)

def jk{M:GL}{A:Ac}{E:c6->d7->Prop}{i:Nat}{x:j3}{v:V}{u:c6}{Q:Unit->d7->Prop}(I:Inv X JQ σ H s)(hN:X.N.Nodup)(hi:X.N[i]?=O x)(C:Loc X.env.scope x)(r:xJ v u)
  (h:∀ s',Inv X JQ (σ.set i (O v)) H s'->(∃ a,Bz a s.heap s'.heap/\(a=X.env.locals\/X.env.cells.lookup x=O a))->Q () s') (hf:X.fn x=JO\/X.env.scope.names.lookup x=O .local:=by first | exact .inl rfl | exact .inr rfl | assumption):wpAny M A (storeName X.env x u) Q E s:=by
 obtain⟨m,hn,hl⟩:=id I.loc;have Z:(X.env.scope.kind == .class||(X.env.scope.kind == .module&&X.env.locals != X.env.globals))=false:=by rw[I.ok.kind]; rfl
 have L:i<σ.length:=by rw[I.len]; exact(d8.mp hi).1
 have cne:=I.cne;have g:∀{a:c7}{h':w9},(∃ o,s.heap.get? a=O o/\H a=JN)->Bz a s.heap h'->HOk X.prog X.w H h':=λ{a h'} ha f b ob e=>by
  obtain⟨_,_,D⟩:=ha;refine(I.hok b ob e).stay (λc w' B q=>(f.2 c ?_).trans q) (λ_ q=>q) λ_ _ q=>q;rintro rfl;rcases B with rfl | B
  ·rw[D] at e; cases e
  ·rw[D] at B; cases B
 rcases C with J | J
 ·erw[wpAny_storeName_local J hn (λh' hn' f=>?_) Z];obtain⟨oL,_,_,hoL,_⟩:=id hn;refine h _ ⟨I.ok,I.os,I.bare,⟨λb o e n S C=>?_,λb o e n S C=>?_,I.base.free,λb o e C=>?_,I.base.tups,I.base.frzs,I.base.tbls⟩,⟨_,hn',λj y v' l G e3=>?_⟩,λy c e=>?_,I.free,I.freeC,λp hp=>?_,g ⟨oL,hoL,I.free⟩ f,by simpa using I.len⟩ ⟨_,f,.inl rfl⟩
  ·exact(f.2 b (o9 (j5 (g9 e) I.ok.above))).trans (I.base.keep b o e n S C)
  ·obtain⟨sl,l⟩:=I.base.slot b o e n S C;rwa[sl,(f.2 b (o9 (j5 (g9 e) I.ok.above))).trans l]
  ·obtain⟨o',l⟩:=I.base.there b o e C;rwa[o',(f.2 b (o9 (j5 (g9 e) I.ok.above))).trans l]
  ·by_cases P:j=i
   ·subst P;rw[hi] at l; cases l;rw[DN L] at G;cases G;rwa[u,r,.inl ⟨J,by simp⟩]
   ·rw[Gq (AR P)] at G;obtain⟨u',r',q⟩:=hl j y v' l G e3;exists u',r';rcases q with ⟨k,e⟩ | ⟨k,c,e,z⟩
    ·erw[.inl ⟨k,?_⟩];have:y≠x:=λe=>P (ee hN l (e ▸ hi));simp[this,e]
    ·rwa[.inr ⟨k,c,e,z.sameBut f (cne y c e)⟩]
  ·obtain⟨w',z⟩:=I.cell y c e;rwa[w',z.sameBut f (cne y c e)]
  ·obtain⟨e,n,ne,nf,d⟩:=I.pin p hp;rwa[(f.2 p.1 ne).trans e,n,ne,nf,d]
 ·have R:X.fn x=true:=by
   rcases hf with z | z
   ·rwa[z]
   ·rw[z] at J; cases J
  obtain⟨c,B⟩:=I.ok.has x (.inl J);obtain⟨w',z⟩:=I.cell x c B;erw[wpAny_storeName_cell I.ok.kind J B z (λh' hc' f=>?_)];obtain⟨oc,Y,T⟩:=id z;refine h { s with heap:=h' } ⟨I.ok,I.os,I.bare,⟨λb o e n S C=>?_,λb o e n S C=>?_,I.base.free,λb o e C=>?_,I.base.tups,I.base.frzs,I.base.tbls⟩,⟨m,hn.sameBut f (AR (cne x c B)),λj y v' l G e3=>?_⟩,λy c' e=>?_,I.free,I.freeC,λp hp=>?_,g ⟨oc,Y,I.freeC x c B⟩ f,by simpa using I.len⟩ ⟨c,f,.inr B⟩
  ·exact(f.2 b (o9 (j5 (g9 e) (I.ok.cab x c R B)))).trans (I.base.keep b o e n S C)
  ·obtain⟨sl,l⟩:=I.base.slot b o e n S C;rwa[sl,(f.2 b (o9 (j5 (g9 e) (I.ok.cab x c R B)))).trans l]
  ·obtain⟨o',l⟩:=I.base.there b o e C;rwa[o',(f.2 b (o9 (j5 (g9 e) (I.ok.cab x c R B)))).trans l]
  ·by_cases P:j=i
   ·subst P;rw[hi] at l; cases l;rw[DN L] at G;cases G;rwa[u,r,.inr ⟨.inl J,c,B,hc'⟩]
   ·rw[Gq (AR P)] at G;obtain⟨u',r',q⟩:=hl j y v' l G e3;exists u',r';rcases q with q | ⟨k,c',e,z'⟩
    ·rwa[.inl q]
    ·erw[.inr ⟨k,c',e,z'.sameBut f ?_⟩];rintro rfl;rwa[P (ee hN l (I.ok.inj _ _ _ e B ▸ hi))]
  ·by_cases hcc:c'=c
   ·subst hcc; rwa[_,hc']
   ·obtain⟨w2,z2⟩:=I.cell y c' e;rwa[w2,z2.sameBut f hcc]
  ·obtain⟨e,n,ne,nf,d⟩:=I.pin p hp;erw[(f.2 p.1 ?_).trans e,n,ne,nf,d];intro q;rw[q,Y] at e;have q':oc=p.2:=t7 e;rwa[d w' (by rw[<- q']; exact T)]
def qO{M:GL}{A:Ac}{E:c6->d7->Prop}{i:Nat}{x:j3}{v:V}{u:c6}{Q:Unit->d7->Prop}(I:Inv X JQ σ H s)(f:X.N.Nodup)(hi:X.N[i]?=O x)(d:Loc X.env.scope x)(r:xJ v u)
  (h:∀ c,Inv X JQ (σ.set i (O v)) H c->Q () c) (e:X.fn x=JO\/X.env.scope.names.lookup x=O .local:=by first | exact .inl rfl | exact .inr rfl | assumption):wpAny M A (storeName X.env x u) Q E s :=
 jk I f hi d r (λc g _=>h c g) e
def Inv.call'{s':d7}{ch:List c7}(I:Inv X JQ σ H s)(g:s'.os=s.os)(u:Un (frs X.stack) ch H H' s.heap s'.heap)(hok:HOk X.prog X.w H' s'.heap)(h:EG s'.gens)
  (d:∀ b∈ch,(b∈X.ex\/X.s₀.heap.objs.size<=b)/\b≠X.env.locals/\(∀ x c,X.env.cells.lookup x=O c->c≠b)/\∀ p∈X.pn++JQ,p.1≠b):Inv X JQ σ H' s':=by
 obtain⟨h',g',d',t',f⟩:=s';have e:f=s.os:=g;subst e;rwa[I.call (g':=g') (t':=t') (d':=d') u hok h d]
end

abbrev XK:=c6->Option c7->Hp->Prop
abbrev St:=List (Option V)
abbrev VK:=V->Hp->Prop
abbrev TE:=St->Hp->VK->Prop
abbrev TT:=St->Hp->(Bool->Hp->Prop)->Prop
abbrev TA:=St->Hp->(List V->Hp->Prop)->Prop
structure ay where
 nx:St->Hp->Prop
 rt:VK
 bk:St->Hp->Prop:=λ_ _=>False
 ct:St->Hp->Prop:=λ_ _=>False
abbrev TS:=ay->St->Hp->Prop

def EP(X:Cx)(f:List (c7×By))(d:St)(Q:VK)(u:c6)(e:d7):Prop:=∃ v c,Inv X f d c e/\xJ v u/\Q v c
def TP(X:Cx)(f:List (c7×By))(d:St)(Q:Bool->Hp->Prop)(b:Bool)(e:d7):Prop:=∃ c,Inv X f d c e/\Q b c
def AP(X:Cx)(h:List (c7×By))(e:St)(Q:List V->Hp->Prop)(f:List c6)(g:d7):Prop:=∃ c d,Inv X h e d g/\yN c f/\Q c d
def SP(X:Cx)(g:List (c7×By))(D:ay)(f:Flow)(e:d7):Prop :=
 match f with
 | .next=>∃ c d,Inv X g c d e/\D.nx c d
 | .brk=>∃ c d,Inv X g c d e/\D.bk c d
 | .cont=>∃ c d,Inv X g c d e/\D.ct c d
 | .ret u=>∃ v c d,Inv X g c d e/\xJ v u/\D.rt v d

def PE(X:Cx)(e:Am)(t:TE):Prop :=
 ∀(d:List (c7×By))(s:d7)(c:St)(H:Hp)(Q:VK),Inv X d c H s->t c H Q->wpAny (model X.prog X.w) X.A (eval e X.env) (EP X d c Q) X.xe s
def PT(X:Cx)(e:Am)(t:TT):Prop :=
 ∀(d:List (c7×By))(s:d7)(c:St)(H:Hp)(Q:Bool->Hp->Prop),Inv X d c H s->t c H Q->wpAny (model X.prog X.w) X.A (isTrue e X.env (eval e X.env)) (TP X d c Q) X.xe s
def PW(X:Cx)(e:Am)(t:TT):Prop :=
 ∀(c:EH c6)(f:List (c7×By))(s:d7)(d:St)(H:Hp)(Q:Bool->Hp->Prop),Inv X f d H s->t d H Q->wpAny (model X.prog X.w) X.A (isTrue e X.env c) (TP X f d Q) X.xe s
def PW.pt{X:Cx}{e:Am}{t:TT}(h:PW X e t):PT X e t:=h _
def PA(X:Cx)(e:List Am)(t:TA):Prop :=
 ∀(pos:DD)(d:List (c7×By))(s:d7)(c:St)(H:Hp)(Q:List V->Hp->Prop),Inv X d c H s->t c H Q->wpAny (model X.prog X.w) X.A (spliced (backTo pos (starEach e X.env))) (AP X d c Q) X.xe s
def PS(X:Cx)(st:Ar)(t:TS):Prop :=
 ∀(d:List (c7×By))(s:d7)(c:St)(H:Hp)(D:ay),Inv X d c H s->t D c H->wpAny (model X.prog X.w) X.A (exec st X.env) (SP X d D) X.xe s
def PSs(X:Cx)(st:List Ar)(t:TS):Prop :=
 ∀(d:List (c7×By))(s:d7)(c:St)(H:Hp)(D:ay),Inv X d c H s->t D c H->wpAny (model X.prog X.w) X.A (execs st X.env) (SP X d D) X.xe s
def thn{c:Type}{t:EH c}{Q d:c->d7->Prop}{M:GL}{A:Ac}{E:c6->d7->Prop}{s:d7}(h:wpAny M A t Q E s)(e:∀ a s,Q a s->d a s):wpAny M A t d E s:=BA h e λ_ _ x=>x
end L2

namespace L2
section
variable{X:Cx}

def bin{a b:Am}{o n:TE}(E:PE X a o)(D:PE X b n){j:List (c7×By)}{s:d7}{c:St}{H:Hp}{R:V->V->Hp->Prop}(I:Inv X j c H s)(h:o c H λx l=>n c l λy d=>R x y d)
  {m:Type} {Q:m->d7->Prop} {f:c6->c6->EH m}
  (C:∀ v u i x y d,Inv X j c d i->xJ x v->xJ y u->R x y d->wpAny (model X.prog X.w) X.A (f v u) Q X.xe i) :
  wpAny (model X.prog X.w) X.A (eval a X.env) (λv g=>wpAny (model X.prog X.w) X.A (eval b X.env) (λu e=>wpAny (model X.prog X.w) X.A (f v u) Q X.xe e) X.xe g) X.xe s:=by
 erw[thn (E j s c H _ I h) λv p ⟨x,l,J,r,B⟩=>?_];erw[thn (D j p c l _ J B) λu i ⟨y,d,G,q,z⟩=>?_];rwa[C v u i x y d G r q z]

inductive TVar(i:Nat)(σ:St)(H:Hp)(Q:VK):Prop where
 | mk (v:V) (e:σ[i]?=O (O v)) (q:Q v H)
def Us(i:Nat):TE:=λc H Q=>TVar i c H Q
def tC(v:V):TE:=λ_ H Q=>Q v H
def Sv{i:Nat}{x:j3}{pos:DD}(z:X.N[i]?=O x)(p:Vis X.env.scope x)(hd:(x ==("__debug__" : j3))=false:=by decide)(j:(x ==("__classdict__" : j3))=false:=by decide):PE X (.Name x pos) (Us i):=by
 intro A s o H Q I h;obtain⟨v,e,h⟩:=h;obtain⟨m,q,y⟩:=I.loc;obtain⟨u,r,l⟩:=y i x v z e p;have g:EP X A o Q u s:=⟨v,H,I,r,h⟩;rcases l with ⟨f,w⟩ | ⟨f,c,n,d⟩
 ·rwa[Il (wpAny_loadName_local I.ok.kind f q w g) hd]
 ·rcases f with f | f
  ·rwa[Il (wpAny_loadName_cell I.ok.kind f n d g) hd]
  ·rwa[Il (wpAny_loadName_free I.ok.kind f n d g j) hd]
def wP{i j pos} : PE X (.Constant (.int i) j pos) (tC (.int i)):=λ_ _ _ H _ I h=>wpAny_Constant_int ⟨.int i,H,I.tok _,⟨_,rfl⟩,h⟩
def gG{b j pos} : PE X (.Constant (.bool b) j pos) (tC (.bl b)):=λ_ _ _ H _ I h=>Constant_bool ⟨.bl b,H,I,rfl,h⟩
def eZ{j pos} : PE X (.Constant .none j pos) (tC .non):=λ_ _ _ H _ I h=>Constant_none ⟨.non,H,I,rfl,h⟩
def zS{x j pos} : PE X (.Constant (.str x) j pos) (tC (.str x)):=λ_ _ _ H _ I h=>GR ⟨.str x,H,I.tok _,⟨_,rfl⟩,h⟩

def Gl(X:Cx)(x:j3):Prop:=X.env.kindOf x=O .globalImplicit
def yw{E:c6->d7->Prop}{f:List (c7×By)}{s:d7}{c:St}{H:Hp}{x:j3}{u:c6}{pos:DD}{Q:c6->d7->Prop}(I:Inv X f c H s)(e:Gl X x)(d:X.mg x=O u)(h:Q u s)
  (hd:(x ==("__debug__" : j3))=false:=by decide):wpAny (model X.prog X.w) X.A (eval (.Name x pos) X.env) Q E s :=
 EQ I.ok.kind e (Calls.loadGlobal_global (by rw[I.ok.glob]; rwa[I.mod.glob.keeps I.bk]) d h) hd
def lN{E:c6->d7->Prop}{i:List (c7×By)}{s:d7}{c:St}{H:Hp}{x:j3}{u:c6}{pos:DD}{Q:c6->d7->Prop}(I:Inv X i c H s)(g:Gl X x)(f:X.mg x=JN)(d:bootBuiltins x=O u)(h:Q u s)
  (e:x ≠ "__name__" := by decide) (hd:(x ==("__debug__" : j3))=false:=by decide):wpAny (model X.prog X.w) X.A (eval (.Name x pos) X.env) Q E s:=by
 obtain⟨j,h1,h2⟩:=I.mod.blt;rwa[EQ I.ok.kind g (Calls.loadGlobal_builtin (by rw[I.ok.glob]; exact I.mod.glob.keeps I.bk) f (by rw[I.ok.blt]; exact h1.keeps I.bk) ((h2 x e).trans d) h) hd]
def rq{x:j3}{v:V}{u:c6}{pos:DD}(f:Gl X x)(e:X.mg x=JN)(c:bootBuiltins x=O u)(r:xJ v u)(d:x ≠ "__name__" := by decide)(hd:(x ==("__debug__" : j3))=false:=by decide):PE X (.Name x pos) (tC v) :=
 λ_ _ _ H _ I h=>lN I f e c ⟨v,H,I,r,h⟩ d hd

variable{a b:Am}{ta tb:TE}{pos:DD}
def PC(X:Cx)(g:Im)(a b:Am)(t:TE):Prop :=
 ∀(f:List (c7×By))(s:d7)(e:St)(H:Hp)(Q:VK),Inv X f e H s->t e H Q ->
  wpAny (model X.prog X.w) X.A (eval a X.env) (λv d=>wpAny (model X.prog X.w) X.A (eval b X.env) (λu c=>wpAny (model X.prog X.w) X.A (compareOp g v u) (EP X f e Q) X.xe c) X.xe d) X.xe s
def tB(t:TE):TT:=λd H Q=>t d H λx e=>∃ c,x=.bl c/\Q c e
def bo{e:Im}{t:TE}(h:PC X e a b t)(h1:behindInMarks e b=false:=by first | exact nobehind _ (by decide) (by decide) | rfl):PT X (.Compare a [e] [b] pos) (tB t):=by
 intro l s f H Q I j;erw[Gg (thn (h l s f H _ I j) λv r h1=>thn h1 λu p h2=>thn h2 λc o ⟨x,n,m,g,i⟩=>?_) h1];obtain⟨d,rfl,q⟩:=i;cases g;rwa[BB ⟨n,m,q⟩]
def jD{e:Am}{t:TE}(h:PE X e t)(l:∀ c,isTrue e X.env c=(do let v <- c; standAt e.pos; holding [v] (truthy v)):=by intro _; rfl):PT X e (tB t):=by
 intro m s f H Q I j;erw[isTrue_plain (thn (h m s f H _ I j) λv p ⟨x,o,n,g,i⟩=>?_) (l _)];obtain⟨d,rfl,q⟩:=i;cases g;rwa[BB ⟨o,n,q⟩]

variable{tA tB':TT}{rest:List Am}
def tAnd(t u:TT):TT:=λd H Q=>t d H λc e=>if c=JO then u d e Q else Q JP e
def tOr(t u:TT):TT:=λd H Q=>t d H λc e=>if c=JO then Q JO e else u d e Q
def tNot(t:TT):TT:=λd H Q=>t d H λc e=>Q (!c) e
def aY(f:PT X a tA):PW X (.BoolOp .And [a] pos) tA:=by
 intro i g s d H Q I h;erw[isTrue_and (thn (f g s d H Q I h) λc j e=>?_)];cases c with
 | true=>rwa[isTrue_and_nil e]
 | false=>rwa[e]
def jT(f:PT X a tA):PW X (.BoolOp .Or [a] pos) tA:=by
 intro i g s d H Q I h;erw[isTrue_or (thn (f g s d H Q I h) λc j e=>?_)];cases c with
 | false=>rwa[isTrue_or_nil e]
 | true=>rwa[e]
def XM(n:PT X a tA)(m:PW X (.BoolOp .And (b::rest) pos) tB'):PW X (.BoolOp .And (a::b::rest) pos) (tAnd tA tB'):=by
 intro j f s d H Q I h;erw[isTrue_and (thn (n f s d H _ I h) λc l ⟨i,g,e⟩=>?_)];cases c with
 | true=>rwa[m j f l d i Q g e]
 | false=>rwa[i,g,e]
def cU(n:PT X a tA)(m:PW X (.BoolOp .Or (b::rest) pos) tB'):PW X (.BoolOp .Or (a::b::rest) pos) (tOr tA tB'):=by
 intro j f s d H Q I h;erw[isTrue_or (thn (n f s d H _ I h) λc l ⟨i,g,e⟩=>?_)];cases c with
 | true=>rwa[i,g,e]
 | false=>rwa[m j f l d i Q g e]
def hV(e:PT X a tA):PT X (.UnaryOp .Not a pos) (tNot tA):=by
 intro f s d H Q I h;rwa[isTrue_not (e f s d H (λc g=>Q (!c) g) I h)]
def tAndV(ta tb:TE):TE:=λd H Q=>ta d H λx e=>∃ c,x=.bl c/\if c=JO then tb d e Q else Q (.bl JP) e
def Ww{op}{t:TE}(h:PE X a t):PE X (.BoolOp op [a] pos) t:=λe s c H Q I d=>BoolOp_one (h e s c H Q I d)
def XE(n:PE X a ta)(m:PE X (.BoolOp .And (b::rest) pos) tb):PE X (.BoolOp .And (a::b::rest) pos) (tAndV ta tb):=by
 intro f s e H Q I h;erw[BoolOp_and (thn (n f s e H _ I h) λv j ⟨x,i,g,l,d⟩=>?_)];obtain⟨c,rfl,d⟩:=d;cases l;erw[BB ?_];cases c with
 | true=>rwa[m f j e i Q g d]
 | false=>rwa[.bl JP,i,g,rfl,d]
def tIf(t:TT)(ta tb:TE):TE:=λd H Q=>t d H λc e=>if c=JO then ta d e Q else tb d e Q
def fL{c:Am}(m:PT X c tA)(o:PE X a ta)(n:PE X b tb):PE X (.IfExp c a b pos) (tIf tA ta tb):=by
 intro f s e H Q I h;erw[wpAny_IfExp (thn (m f s e H _ I h) λd g ⟨l,j,i⟩=>?_)];cases d with
 | true=>rwa[o f g e l Q j i]
 | false=>rwa[n f g e l Q j i]
end
end L2

namespace L2

def SqL(K:c5)(H:Hp)(a:c7)(d:List V):Prop :=
 Rd H a (.lst d) \/
  ∃(o:By)(c:Array c6)(n:Nat),K.lookup a=O o/\o.cls=.type "list" /\ o.dict=JN/\o.data=.seq c n/\c.size<=sizeLine/\yN d c.toList
def SqT(K:c5)(H:Hp)(a:c7)(d:List V):Prop :=
 Rd H a (.tup d) \/
  ∃(o:By)(c:Array c6)(n:Nat),K.lookup a=O o/\o.cls=.type "tuple" /\ o.data=.seq c n/\c.size<=sizeLine/\yN d c.toList
def absV:c6->Option V
 | .none=>O .non
 | .bool b=>O (.bl b)
 | .int i _=>O (.int i)
 | .str x _=>O (.str x)
 | .bytes b _=>O (.byt b)
 | .float b _=>O (.flt b)
 | .ref a=>O (.ref a)
 | .type n=>O (.ty n)
 | _=>JN
def xJ.abs{x:V}{u:c6}(r:xJ x u):absV u=O x:=by
 cases x with
 | non=>cases r; rfl
 | bl _=>cases r; rfl
 | int _=>obtain⟨t,rfl⟩:=r; rfl
 | str _=>obtain⟨t,rfl⟩:=r; rfl
 | byt _=>obtain⟨t,rfl⟩:=r; rfl
 | flt _=>obtain⟨t,rfl⟩:=r; rfl
 | ref _=>cases r; rfl
 | ty _=>cases r; rfl
def xJ.inj{x y:V}{u:c6}(r:xJ x u)(q:xJ y u):x=y:=t7 (r.abs.symm.trans q.abs)
def yN.inj:∀{d c:List V}{e:List c6},yN d e->yN c e->d=c
 | _,_,_,.nil,.nil=>rfl
 | _,_,_,.cons r t,.cons g f=>by rw[r.inj g,yN.inj t f]
section
variable{X:Cx}{JQ:List (c7×By)}{σ:St}{H:Hp}{s:d7}{a:c7}{xs ys:List V}
def SqL.of{K:c5}(h:H a=O (.lst xs)):SqL K H a xs:=.inl (.inl h)
def SqT.of{K:c5}(h:H a=O (.tup xs)):SqT K H a xs:=.inl (.inl h)
def Inv.list(I:Inv X JQ σ H s)(h:SqL X.K H a xs):∃ c:List c6,yN xs c/\PlainL s.heap a c.toArray/\xs.length<=sizeLine:=by
 rcases h with h | ⟨o,c,n,f,g,hd,d,i,r⟩
 ·obtain⟨z,c,n,r,e⟩:=h.ok I.hok;rwa[c,r,⟨_,n,e,rfl,rfl,rfl⟩,z]
 ·exists c.toList,r,⟨o,n,I.kIn a o f,g,hd,by simpa using d⟩;have e:=r.length;simp only[g8] at e;lia
def Inv.tuple(I:Inv X JQ σ H s)(h:SqT X.K H a xs):∃ c:List c6,yN xs c/\IsTup s.heap a c.toArray/\xs.length<=sizeLine:=by
 rcases h with h | ⟨o,c,n,f,g,d,i,r⟩
 ·obtain⟨z,c,r,p⟩:=h.ok I.hok;rwa[c,r,p,z]
 ·exists c.toList,r,⟨o,I.kIn a o f,g,n,by simpa using d⟩;have e:=r.length;simp only[g8] at e;lia
def Inv.list_inj(I:Inv X JQ σ H s)(h:SqL X.K H a xs)(h':SqL X.K H a ys):xs=ys:=by
 obtain⟨f,r,⟨o,n,e,_,_,d⟩,_⟩:=I.list h;obtain⟨c,i,⟨j,l,g,_,_,d'⟩,_⟩:=I.list h';rw[e] at g; cases g;rw[d] at d';injection d' with d1 _
 have:f=c:=by simpa using congrArg Jl d1
 subst this;rwa[r.inj i]
def Inv.tuple_inj(I:Inv X JQ σ H s)(h:SqT X.K H a xs)(h':SqT X.K H a ys):xs=ys:=by
 obtain⟨f,r,⟨o,e,_,n,d⟩,_⟩:=I.tuple h;obtain⟨c,i,⟨j,g,_,l,d'⟩,_⟩:=I.tuple h';rw[e] at g; cases g;rw[d] at d';injection d' with d1 _
 have:f=c:=by simpa using congrArg Jl d1
 subst this;rwa[r.inj i]
end

abbrev Cx.wish(X:Cx)(E:c6->d7->Prop):Cx:={ X with xe:=E }
abbrev Cx.nox(X:Cx):Cx:=X.wish λ_ _=>False
def Cx.Ok.wish{X:Cx}(ok:X.Ok)(E:c6->d7->Prop):(X.wish E).Ok :=
 ⟨ok.mod,ok.kind,ok.glob,ok.blt,ok.above,ok.inj,ok.has,ok.cab,ok.hd,ok.frames,ok.stk,ok.exf,ok.bs,ok.bsz,ok.noex,ok.exfs,ok.funs,ok.frf⟩
def Cx.Ok.unwish{X:Cx}{E:c6->d7->Prop}(ok:(X.wish E).Ok):X.Ok :=
 ⟨ok.mod,ok.kind,ok.glob,ok.blt,ok.above,ok.inj,ok.has,ok.cab,ok.hd,ok.frames,ok.stk,ok.exf,ok.bs,ok.bsz,ok.noex,ok.exfs,ok.funs,ok.frf⟩
section
variable{X:Cx}{JQ:List (c7×By)}{σ:St}{H:Hp}{s:d7}{E:c6->d7->Prop}
def Inv.wish(I:Inv X JQ σ H s)(E:c6->d7->Prop):Inv (X.wish E) JQ σ H s:=⟨I.ok.wish E,I.os,I.bare,I.base,I.loc,I.cell,I.free,I.freeC,I.pin,I.hok,I.len⟩
def Inv.unwish(I:Inv (X.wish E) JQ σ H s):Inv X JQ σ H s:=⟨I.ok.unwish,I.os,I.bare,I.base,I.loc,I.cell,I.free,I.freeC,I.pin,I.hok,I.len⟩
def SP.unwish{D:ay}{f:Flow}{e:d7}(h:SP (X.wish E) JQ D f e):SP X JQ D f e:=by
 cases f with
 | next=>obtain⟨c,d,I,q⟩:=h; rwa[c,d,I.unwish,q]
 | brk=>obtain⟨c,d,I,q⟩:=h; rwa[c,d,I.unwish,q]
 | cont=>obtain⟨c,d,I,q⟩:=h; rwa[c,d,I.unwish,q]
 | ret u=>obtain⟨v,c,d,I,r,q⟩:=h; rwa[v,c,d,I.unwish,r,q]
def PSs.nox{st:List Ar}{t:TS}(h:PSs X.nox st t):PSs X st t:=λJQ s σ H D I c =>
 BA (h JQ s σ H D (I.wish _) c) (λ_ _ q=>q.unwish) λ_ _ z=>Bm z
end

section
variable{X:Cx}{st:Ar}{rest:List Ar}{t u:TS}{e:Am}{te:TE}{pos:DD}
def tNext:TS:=λD c H=>D.nx c H
def tSeq(t u:TS):TS:=λD c H=>t { D with nx:=u D } c H
def yE:PSs X [] tNext:=λ_ _ c H _ I h=>Ev ⟨c,H,I,h⟩
def zC(h1:PS X st t)(h2:PSs X rest u):PSs X (st::rest) (tSeq t u):=by
 intro d s g H D I h;refine Hr (thn (h1 d s g H { D with nx:=u D } I h) λf i q=>?_);cases f with
 | next =>
  obtain⟨c,l,j,q⟩:=q;rwa[h2 d i c l D j q]
 | ret v=>rwa[q]
 | brk=>rwa[q]
 | cont=>rwa[q]
def zF(h1:PS X st t):PSs X [st] t:=by
 intro d s c H D I h;erw[Hr (thn (h1 d s c H D I h) λf g q=>?_)];cases f with
 | next=>rwa[Ev q]
 | ret v=>rwa[q]
 | brk=>rwa[q]
 | cont=>rwa[q]
def Inv.quiet{d:List (c7×By)}{c:St}{H:Hp}{s:d7}(I:Inv X d c H s):interactive X.env=false:=by simp[interactive,I.ok.kind]
def tDrop(te:TE):TS:=λD c H=>te c H λ_ d=>D.nx c d
def zW(g:PE X e te)(f:swapsWith e JN pos.line X.env=pure false:=by rfl):PS X (.Expr e pos) (tDrop te):=by
 intro i s c H D I h;rwa[wpAny_Expr_any (thn (g i s c H _ I h) λv m ⟨x,l,j,n,d⟩=>⟨c,l,j,d⟩) I.quiet f]
def tRet(te:TE):TS:=λD c H=>te c H D.rt
def zO(g:PE X e te):PS X (.Return (O e) pos) (tRet te):=by
 intro i s c H D I h;rwa[wpAny_Return_some (thn (g i s c H _ I h) λv m ⟨x,l,j,d,f⟩=>⟨x,c,l,j,d,f⟩)]
def tIfS(c:TT)(t u:TS):TS:=λD d H=>c d H λb f=>if b=JO then t D d f else u D d f
def xI{c:Am}{a b:List Ar}{i:TT}(o:PT X c i)(q:PSs X a t)(p:PSs X b u):PS X (.If c a b pos) (tIfS i t u):=by
 intro g s f H D I h;erw[wpAny_If (thn (o g s f H _ I h) λd j ⟨n,m,l⟩=>?_)];cases d with
 | true=>rwa[q g j f n D m l]
 | false=>rwa[p g j f n D m l]
def Ui:TS:=λ_ _ _=>False
def vG:PS X st Ui:=λ_ _ _ _ _ _ h=>h.elim
end

abbrev TG:=V->St->Hp->(St->Hp->Prop)->Prop
abbrev TGs:=List V->St->Hp->(St->Hp->Prop)->Prop
def PG(X:Cx)(c:Am)(t:TG):Prop :=
 ∀(f:List (c7×By))(s:d7)(e:St)(H:Hp)(v:V)(u:c6)(Q:St->Hp->Prop),Inv X f e H s->xJ v u->t v e H Q ->
  wpAny (model X.prog X.w) X.A (assign c X.env u) (λ_ h=>∃ d g,Inv X f d g h/\Q d g) X.xe s
def PGs(X:Cx)(i:List Am)(t:TGs):Prop :=
 ∀(g:List (c7×By))(s:d7)(d:St)(H:Hp)(e:List V)(f:List c6)(Q:St->Hp->Prop),Inv X g d H s->yN e f->t e d H Q ->
  wpAny (model X.prog X.w) X.A (assignInOrder ((assignEach i X.env).map (·.2)) f) (λ_ j=>∃ c h,Inv X g c h j/\Q c h) X.xe s
abbrev Sh:=V->V->V->Hp->(Hp->Prop)->Prop
def PSet(X:Cx)(t:Sh):Prop :=
 ∀(f:List (c7×By))(s:d7)(c:St)(H:Hp)(o i v:V)(d e u:c6)(Q:Hp->Prop),Inv X f c H s->xJ o d->xJ i e->xJ v u->t o i v H Q ->
  wpAny (model X.prog X.w) X.A (setItem d e u) (λ_ h=>∃ g,Inv X f c g h/\Q g) X.xe s
section
variable{X:Cx}{pos:DD}
def cX(i:Nat):TG:=λv c H Q=>Q (c.set i (O v)) H
def lX{i:Nat}{x:j3}(e:X.N.Nodup)(hi:X.N[i]?=O x)(c:Loc X.env.scope x)(d:X.fn x=JO\/X.env.scope.names.lookup x=O .local:=by first | exact .inl rfl | exact .inr rfl | assumption):PG X (.Name x pos) (cX i):=by
 intro l s g H v u Q I r h;rwa[G0 (qO I e hi c r (λj f=>⟨_,H,f,h⟩) d)]
def gNil:TGs:=λd c H Q=>d=[]/\Q c H
def gCons(t:TG)(u:TGs):TGs:=λe d H Q=>E2 λv r=>e=v::r/\t v d H λc f=>u r c f Q
def xU:PGs X [] gNil:=by
 intro g s c H d f Q I r h;obtain⟨e,h⟩:=h;subst e;cases r;rwa[assignInOrder_nil ⟨c,H,I,h⟩]
def zQ{e:Am}{c:List Am}{t:TG}{u:TGs}(h1:PG X e t)(h2:PGs X c u)
  (m:(assignEach (e::c) X.env).map (·.2)=assign e X.env::(assignEach c X.env).map (·.2):=by rfl):PGs X (e::c) (gCons t u):=by
 intro f s g H q x Q I r h;obtain⟨v,w,n,h⟩:=h;subst n;cases r with
 | cons r j =>
  rw[m];erw[assignInOrder_cons (thn (h1 f s g H _ _ _ I r h) λ_ i ⟨d,p,o,l⟩=>?_)];rwa[h2 f i d p _ _ Q o j l]
def gTup(K:c5)(n:Nat)(t:TGs):TG:=λv d H Q=>E2 λa c=>A4 (v=.ref a) (SqT K H a c) (c.length=n) (t c d H Q)
def uX{c:List Am}{k:Nat}{t:TGs}{n:Nat}(z:X.calm=JO)(h:PGs X c t)
  (x:(assignEach c X.env).length=n:=by rfl) (f:(assignEach c X.env).findIdx? (·.1)=none:=by rfl):PG X (.Tuple c k pos) (gTup X.K n t):=by
 intro j s g H v u Q I r d;obtain⟨a,l,B,w,y,d⟩:=d;subst B;cases r;obtain⟨m,i,q,D⟩:=I.tuple w;erw[assign_Tuple_tuple (I.ok.hd z) q (by simp[x,<- y,i.length]) f λA p=>?_];have C:Inv X j g H { s with heap:=A }:=I.kept (t':=s.toks) λb o e=>p b o (o9 (g9 e)) e;exact h j _ g H l _ Q C (by simpa using i) d
def gSub(to d:TE)(t:Sh):TG:=λv c H Q=>to c H λo g=>d c g λi f=>t o i v f λe=>Q c e
def Uh{o i:Am}{to g:TE}{t:Sh}(A:PE X o to)(hi:PE X i g)(z:PSet X t)
  (B:∀ v,assign (.Subscript o i pos) X.env v=(do
   let c <- holding [v] (eval o X.env)
   let d <- holding [v,c] (eval i X.env)
   standAt pos
   holding [v,c,d] (setItem c d v)
   release [v,c,d] []):=by intro _; rfl):PG X (.Subscript o i pos) (gSub to g t):=by
 intro f s e H v u Q I r h;rw[B];erw[b9 (Ca (thn (A f s e H _ I h) λc l ⟨x,L,E,n,w⟩=>?_))];erw[b9 (Ca (thn (hi f l e L _ E w) λd j ⟨y,J,D,m,q⟩=>?_))];erw[b9 (C4 (b9 (Ca (thn (z f j e J x y v c d u _ D n m r q) λ_ M ⟨G,C,p⟩=>?_))))];rwa[wpAny_release ⟨e,G,C,p⟩]
def Sm(d:TE)(g:TG):TS:=λD c H=>d c H λx e=>g x c e D.nx
def wr{c e:Am}{f:TE}{g:TG}(r:PE X e f)(p:PG X c g)(o:swapsWithSole [c] e pos.line X.env=pure false:=by rfl)(n:swappedStores [c] e X.env=pure none:=by rfl)
  (h1:(assignEach [c] X.env).map (·.2)=[assign c X.env]:=by rfl):PS X (.Assign [c] e pos) (Sm f g):=by
 intro i s d H D I h;erw[wpAny_Assign_stores (thn (r i s d H _ I h) λv j ⟨x,w,u,l,m⟩=>?_) o n];rw[h1];rwa[thn (p i j d w x v _ u l m) λ_ y q=>q]
def Zo{i:Nat}{x:j3}{e:Am}{c:TE}{pos':DD}(o:X.N.Nodup)(hi:X.N[i]?=O x)(j:Loc X.env.scope x)(n:PE X e c)(l:swapsWith e (O (.Name x pos')) pos.line X.env=pure false:=by rfl)(m:X.fn x=JO\/X.env.scope.names.lookup x=O .local:=by first | exact .inl rfl | exact .inr rfl | assumption) :
  PS X (.Assign [.Name x pos'] e pos) (Sm c (cX i)):=by
 intro p s d H D I h;erw[wpAny_Assign_Name (thn (n p s d H _ I h) λv z ⟨y,u,r,f,g⟩=>?_) l];rwa[qO r o hi j f (λw q=>⟨_,u,q,g⟩) m]
def tPar(i j:Nat)(e:TA):TS:=λD c H=>e c H λd f=>E2 λv w=>d=[v,w]/\D.nx ((c.set i (O v)).set j (O w)) f
def mZ{i j:Nat}{x y:j3}{a b:Am}{C:TA}{r n pt:DD}{kt k2 pt2}(hc:X.calm=JO)(J:X.N.Nodup)(hi:X.N[i]?=O x)(hj:X.N[j]?=O y)(z:i≠j)
  (G:X.env.scope.names.lookup x=O .local) (E:X.env.scope.names.lookup y=O .local) (ha:PA X [a,b] C)
  (hw:swappedStores [.Tuple [.Name x r,.Name y n] kt pt] (.Tuple [a,b] k2 pt2) X.env=pure (O [x,y]))
  (hs:swapsWithSole [.Tuple [.Name x r,.Name y n] kt pt] (.Tuple [a,b] k2 pt2) pos.line X.env=pure false:=by rfl) :
  PS X (.Assign [.Tuple [.Name x r,.Name y n] kt pt] (.Tuple [a,b] k2 pt2) pos) (tPar i j C):=by
 intro M s B H D I h;rw[exec_Assign_arm];refine b9 (C4 ?_);rw[hs];refine b9 (e9 ?_);rw[y4 (by decide)];refine b9 (Tuple_ (thn (ha _ M s B H _ I h) λR g ⟨vs,Q,I1,T,m⟩=>?_));obtain⟨v,w,e1,m⟩:=m;subst e1;obtain⟨f,d,rfl,S,l⟩:∃ f d,R=[f,d]/\xJ v f/\xJ w d:=by
  cases T with
  | cons p q =>
   cases q with
   | cons Z Y =>
    cases Y;rwa[_,_,rfl,p,Z]
 refine Ak ?_ (by show 2<=sizeLine; decide);have I2:Inv X M B Q { g with heap:=g.heap.push { cls:=.type "tuple",data:=.seq [f,d].toArray } }:=I1.kept (t':=g.toks) λb o e=>c9 _ e;rw[hw];erw[b9 (e9 ?_)];show wpAny (model X.prog X.w) X.A (do rule "assign.swapped-stores"; let c <- unpackItems (.ref g.heap.objs.size) 2 JN; assignInOrder [λv=>bindName X.env y v,λv=>bindName X.env x v] c.reverse; pure Hs) _ _ _;erw[b9 (DE (b9 (unpackItems_tuple (items:=#[f,d]) (I.ok.hd hc) (Ht g.heap _) λL u=>?_)))];have I3:=I2.kept (h':=L) (t':=g.toks) λb o e=>u b o (o9 (g9 e)) e;show wpAny _ _ (assignInOrder [λv=>bindName X.env y v,λv=>bindName X.env x v] [d,f] >>= λ_=>pure Hs) _ _ _;erw[b9 (assignInOrder_cons (DO (qO I3 J hj (.inl E) l (λs2 I4=>?_) (.inr E))))];erw[assignInOrder_cons (DO (qO I4 J hi (.inl G) S (λs3 P=>assignInOrder_nil (e9 ?_)) (.inr G)))];rw[FE _ _ (AR z)] at P;rwa[_,Q,P,m]
end

section
variable{X:Cx}{pos:DD}
def XJ(c:TT)(i:TS):TS:=λD d H=>∃ W:Nat->St->Hp->Prop,(∃ m,W m d H)/\∀ m d H,W m d H->c d H λb g=>if b=JO then ∃ N:St->Hp->Prop,(∀ e h,N e h->∃ f,f<m/\W f e h)/\i { D with nx:=N,ct:=N,bk:=D.nx } d g else D.nx d g
def pN{c:Am}{body:List Ar}{u:TT}{x:TS}(y:PassesOwn (model X.prog X.w) X.A X.env X.xe)(S:PT X c u)(T:PSs X body x):PS X (.While c body [] pos) (XJ u x):=by
 intro q s J H D I h;obtain⟨W,⟨R,L⟩,turn⟩:=h;erw[wpAny_While (codeAny_whileLoop (λn Q=>∃ g G,Inv X q g G Q/\W n g G) ?_ R ⟨J,H,I,L⟩)];rintro n P ⟨e,E,Y,w1⟩;erw[Cq y (thn (S q P e E _ Y (turn n e E w1)) λb M ⟨C,B,l⟩=>?_)];cases b with
 | true =>
  obtain⟨N,z,l⟩:=l;rw[y6 rfl];erw[Cq y (thn (T q M e C _ B l) λf Z j=>?_)];cases f with
  | next =>
   obtain⟨d,i,r,n3⟩:=j;obtain⟨o,p,m⟩:=z d i n3;rwa[o,p,d,i,r,m]
  | cont =>
   obtain⟨d,i,r,n3⟩:=j;obtain⟨o,p,m⟩:=z d i n3;rwa[o,p,d,i,r,m]
  | brk=>rwa[j]
  | ret v=>rwa[j]
 | false =>
  rw[y4 l9];rwa[Ev ⟨e,C,B,l⟩]
end

structure It where
 go:Nat->Hp->Prop
 yld:Nat->Hp->V->Hp->Prop
 stop:Nat->Hp->Prop
def eX(X:Cx)(d:List (c7×By))(H:Hp)(b:c7):Prop :=
 H b=JN/\b≠X.env.locals/\b ∉ X.fs/\(b∈X.ex\/X.s₀.heap.objs.size<=b)/\(∀ x c,X.env.cells.lookup x=O c->c≠b)/\∀ p∈X.pn++d,p.1≠b
def Inv.fpOk{X:Cx}{f:List (c7×By)}{g:St}{H H':Hp}{s:d7}{b:c7}(I:Inv X f g H s)(d:s.heap.objs.size<=b)(i:H' b=JN):eX X f H' b:=by
 erw[i,Ct (j5 I.lt d),I.nofs d,.inr (f9 I.sz d),λx c e z=>?_,λp h z=>?_]
 ·obtain⟨v,q⟩:=I.cell x c e;rwa[y9 (j5 q.lt (by rw[z]; exact d)) (Bh _)]
 ·rwa[y9 (j5 (g9 (I.pin p h).1) (by rw[z]; exact d)) (Bh _)]
structure WP(P:m9)(w:r9)(K:c5)(tg:Am)(J:It)(fp:List c7)(it:c7)(tn:Nat->w9->Prop):Prop where
 mem:it∈fp
 obj:∀ i h,tn i h->∀ b∈fp,∃ o,h.get? b=O o/\∀ v,o.data≠.cell v
 keep:∀ i h h',tn i h->(∀ b∈fp,∀ o,h.get? b=O o->h'.get? b=O o)->tn i h'
 item:∀(X:Cx),X.prog=P->X.w=w->X.K=K->X.calm=JO->∀(i:Nat)(JQ:List (c7×By))(s:d7)(σ:St)(H:Hp)(E:c6->d7->Prop),Inv X JQ σ H s->(∀ b∈fp,eX X JQ H b)->tn i s.heap->J.go i H ->
  wpAny (model P w) X.A (pyNext (.ref it)) (λr s1=>∃ u,r=O u /\
   wpAny (model P w) X.A (letOwnedTupleGo tg (.ref it) u) (λ_ s2=>∃ x H',Inv X JQ σ H' s2/\xJ x u/\J.yld i H x H'/\tn (i+1) s2.heap/\∀ b∈fp,H' b=JN) E s1) E s
 done:∀(X:Cx),X.prog=P->X.w=w->X.K=K->X.calm=JO->∀(i:Nat)(JQ:List (c7×By))(s:d7)(σ:St)(H:Hp)(E:c6->d7->Prop),Inv X JQ σ H s->(∀ b∈fp,eX X JQ H b)->tn i s.heap->J.stop i H ->
  wpAny (model P w) X.A (pyNext (.ref it)) (λr s1=>r=JN/\Inv X JQ σ H s1) E s
 self:∀(A:Ac)(i:Nat)(s:d7)(Q:c6->d7->Prop)(E:c6->d7->Prop),tn i s.heap->Q (.ref it) s->wpAny (model P w) A (pyIter (.ref it)) Q E s
abbrev TI:=St->Hp->(It->Hp->Prop)->Prop
def PIE(X:Cx)(g:List (c7×By))(h:St)(i:Am)(R:It->Hp->Prop)(c:c6)(e:d7):Prop :=
 ∃(f:c7)(fp:List c7)(tn:Nat->w9->Prop)(J:It)(d:Hp),c=.ref f/\Inv X g h d e/\WP X.prog X.w X.K i J fp f tn/\tn 0 e.heap/\(∀ b∈fp,eX X g d b)/\R J d
def PI(X:Cx)(f iter:Am)(e:TI):Prop :=
 ∀(d:List (c7×By))(s:d7)(c:St)(H:Hp)(R:It->Hp->Prop),Inv X d c H s->e c H R ->
  wpAny (model X.prog X.w) X.A (eval iter X.env) (λv g=>wpAny (model X.prog X.w) X.A (pyIter v) (PIE X d c f R) X.xe g) X.xe s

def ZF{M:GL}{A:Ac}{E:c6->d7->Prop}{s:d7}{e:Am}{f:c7}{u:c6}{o:By}{n:String}{d:Array c6}{Q:Unit->d7->Prop}(g:s.heap.get? f=O o)(j:o.cls=.type n)(hd:o.data=.fields d)
  (i:["enumerate","zip","dict_itemiterator","dict_reverseitemiterator","odict_iterator","itertools.zip_longest","itertools.pairwise"].contains n=JP) (c:Q () s):wpAny M A (letOwnedTupleGo e (.ref f) u) Q E s:=by
 unfold letOwnedTupleGo;cases e <;> first
  | exact e9 c
  | (cases u <;> first
    | exact e9 c
    | (refine b9 (wpAny_load g ?_)
       rw[j,hd];show wpAny M A (if (["enumerate","zip","dict_itemiterator","dict_reverseitemiterator","odict_iterator","itertools.zip_longest","itertools.pairwise"].contains n&&d[0]? == O (rawInt _))=JO then _ else _) Q E s;rw[y4 (by intro h; rw[i,Io] at h; cases h)];rwa[e9 c]))

def Itl(K:c5)(a:c7):It :=
 ⟨λi H=>∃ c x,SqL K H a c/\c[i]?=O x,λi H x d=>d=H/\∀ c,SqL K H a c->c[i]?=O x,λi H=>∃ c,SqL K H a c/\c.length<=i⟩
def Itt(K:c5)(a:c7):It :=
 ⟨λi H=>∃ c x,SqT K H a c/\c[i]?=O x,λi H x d=>d=H/\∀ c,SqT K H a c->c[i]?=O x,λi H=>∃ c,SqT K H a c/\c.length<=i⟩
def Itr(lo:Int)(n:Nat):It:=⟨λi _=>i<n,λi H x c=>c=H/\x=.int (lo+i),λi _=>n<=i⟩
def iA{P:m9}{w:r9}{K:c5}{Y:Am}(a f:c7):WP P w K Y (Itl K a) [f] f (λi h=>h.IsListIter f a i) where
 mem:=by simp
 obj:=λi h st b g=>by
  have e:b=f:=by simpa using g
  subst e;obtain⟨o,e,c,d⟩:=st;exact⟨o,e,λv z=>by rw[d] at z; cases z⟩
 keep:=λi h n st k=>st.at λo e=>k f (by simp) o e
 item:=by
  intro X C A D R i S s Q H E I m st B;subst C A D;obtain⟨T,x,l,y⟩:=B;obtain⟨r,q,p,hz⟩:=I.list l;obtain⟨u,hu,ru⟩:=q.get y;obtain⟨N,M,f2,L,J,G⟩:=m f (by simp);refine wpAny_pyNext_list_item st p.isList (x:=u) (by simpa using hu) λn j Z=>?_;have I1:Inv X S Q H { s with heap:=n }:=I.turned (t':=s.toks) (λb o g e=>(Z.2 b g).trans e) N M L J G;obtain⟨o,e,c,d⟩:=id j;exact⟨u,U,ZF (s:={ s with heap:=n }) e c d (by decide) ⟨x,H,I1,ru,⟨U,λys hy=>by rw[I.list_inj hy l]; rwa[y]⟩,j,λb g=>(m b g).1⟩⟩
 done:=by
  intro X C A D R i S s Q H E I m st B;subst C A D;obtain⟨T,l,y⟩:=B;obtain⟨r,q,p,hz⟩:=I.list l;obtain⟨N,M,f2,L,J,G⟩:=m f (by simp);have hl:=q.length;rwa[wpAny_pyNext_list_end (I.ok.hd R) st p.isList (by simp; lia) λn eb=>⟨rfl,I.turned (t':=s.toks) (λb o g e=>eb b o g e) N M L J G⟩]
 self:=λ_ _ _ _ _ st h=>wpAny_pyIter_listiter st h
def ce{P:m9}{w:r9}{K:c5}{Y:Am}(a g:c7):WP P w K Y (Itt K a) [g] g (λi h=>h.IsTupleIter g a i) where
 mem:=by simp
 obj:=λi h st b j=>by
  have e:b=g:=by simpa using j
  subst e;obtain⟨o,e,c,d⟩:=st;exact⟨o,e,λv z=>by rw[d] at z; cases z⟩
 keep:=λi h q st k=>st.at λo e=>k g (by simp) o e
 item:=by
  intro X C A D R i S s Q H E I n st B;subst C A D;obtain⟨T,x,m,y⟩:=B;obtain⟨f,r,p,hz⟩:=I.tuple m;obtain⟨u,hu,ru⟩:=r.get y;obtain⟨N,M,f2,L,J,G⟩:=n g (by simp);refine wpAny_pyNext_tuple_item st (show s.heap.IsTuple a f.toArray from p) (x:=u) (by simpa using hu) λq l Z=>?_;have I1:Inv X S Q H { s with heap:=q }:=I.turned (t':=s.toks) (λb o j e=>(Z.2 b j).trans e) N M L J G;obtain⟨o,e,c,d⟩:=id l;exact⟨u,U,ZF (s:={ s with heap:=q }) e c d (by decide) ⟨x,H,I1,ru,⟨U,λys hy=>by rw[I.tuple_inj hy m]; rwa[y]⟩,l,λb j=>(n b j).1⟩⟩
 done:=by
  intro X C A D R i S s Q H E I n st B;subst C A D;obtain⟨T,m,y⟩:=B;obtain⟨f,r,p,hz⟩:=I.tuple m;obtain⟨N,M,f2,L,J,G⟩:=n g (by simp);have hl:=r.length;exact wpAny_pyNext_tuple_end (I.ok.hd R) st (show s.heap.IsTuple a f.toArray from p) (by simp; lia) λq eb=>⟨rfl,I.turned (t':=s.toks) (λb o j e=>eb b o j e) N M L J G⟩
 self:=λ_ _ _ _ _ st h=>wpAny_pyIter_tupleiter st h
def dL{P:m9}{w:r9}{K:c5}{L:Am}(c:c7)(lo:Int)(n:Nat):WP P w K L (Itr lo n) [c] c (λi h=>IsRangeIter h c (lo+(i:Nat)*1) ((n:Int)-(i:Nat)) 1) where
 mem:=by simp
 obj:=λi h st b d=>by
  have e:b=c:=by simpa using d
  subst e;exact⟨_,st,λv z=>by
   have J:Data.fields _=Data.cell v:=z;cases J⟩
 keep:=λi h j st k=>k c (by simp) _ st
 item:=by
  intro X q l r p i G s C H E I g st m;subst q l r;obtain⟨B,A,Q,y,x,u⟩:=g c (by simp);have W:=Walks.range (prog:=X.prog) (w:=X.w) (I.ok.hd p) c lo 1 n;erw[W.item i s _ _ m st λv j D N f M=>?_];obtain⟨t,rfl⟩:=N;have S:Inv X G C H { s with heap:=j,toks:=D }:=I.turned (λb o d e=>M b o (by simpa using d) e) B A y x u;refine⟨_,U,ZF (s:={ s with heap:=j,toks:=D }) (n := "range_iterator") f rfl rfl (by decide) ⟨.int (lo+i),H,S,⟨t,?_⟩,⟨U,U⟩,f,λb d=>(g b d).1⟩⟩;rw[Int.mul_one]
 done:=by
  intro X q l r p i G s C H E I g st m;subst q l r;obtain⟨B,A,Q,y,x,u⟩:=g c (by simp);exact wpAny_pyNext_range_end (I.ok.hd p) st (by have:n<=i:=m; lia) λj R=>⟨rfl,I.turned (t':=s.toks) (λb o d e=>R b o d e) B A y x u⟩
 self:=λ_ _ _ _ _ st h=>wpAny_pyIter_rangeiter st h
end L2

namespace L2
section
variable{X:Cx}{tg:Am}
def iList(K:c5)(tl:TE):TI:=λd H R=>tl d H λx c=>∃ a,A3 (x=.ref a) (∃ e,SqL K c a e) (R (Itl K a) c)
def gS{l:Am}{tl:TE}(n:PE X l tl):PI X tg l (iList X.K tl):=by
 intro u s f H R I h;erw[thn (n u s f H _ I h) λv c ⟨x,w,d,g,i⟩=>?_];obtain⟨a,e,⟨y,m⟩,q⟩:=i;subst e;cases g;obtain⟨j,z,p,A⟩:=d.list m;erw[C9 p.isList ?_];erw[c.heap.objs.size,[c.heap.objs.size],_,_,w,rfl,d.kept (t':=c.toks) λb o e=>c9 _ e,iA a _,⟨_,i8 _ rfl,rfl,rfl⟩,λb r=>?_,q];have e:b=c.heap.objs.size:=by simpa using r
 subst e;rwa[d.fpOk (e8 _) (d.hok.fresh (e8 _))]
def Yh{f:List (c7×By)}{c:St}{H:Hp}{s:d7}{R:It->Hp->Prop}{E:c6->d7->Prop}{lo hi:Int}{t u v:Ju}{d:Nat}(I:Inv X f c H s)(h1 : -(2^62)<=lo)(h2:lo<2^62)(h3 : -(2^62)<=hi)(h4:hi<2^62)
  (q:R (Itr lo (hi-lo).toNat) H):wpAny (model X.prog X.w) X.A (pyIter (.ref s.heap.objs.size)) (PIE X f c tg R) E { s with heap:=s.heap.push { cls:=.type "range",data:=.fields #[.int lo t,.int hi u,.int 1 v] },toks:=d }:=by
 refine wpAny_pyIter_range (IsRange.new ..) (small_one h1 h2 h3 h4) ?_;have g:Inv X f c H { s with heap:=s.heap.push { cls:=.type "range",data:=.fields #[.int lo t,.int hi u,.int 1 v] },toks:=d }:=I.kept λb o e=>c9 _ e;refine⟨(s.heap.push { cls:=.type "range",data:=.fields #[.int lo t,.int hi u,.int 1 v] }).objs.size,[(s.heap.push { cls:=.type "range",data:=.fields #[.int lo t,.int hi u,.int 1 v] }).objs.size],_,_,H,U,
  g.kept (t':=d) λb o e=>c9 _ e,dL _ lo (hi-lo).toNat,?_,λb h=>?_,q⟩
 ·have j:lo+((0:Nat):Int)*1=lo:=by simp
  have i:(((hi-lo).toNat:Nat):Int)-((0:Nat):Int)=Jg lo hi 1:=by rw[rangeSize_one]; split <;> lia
  show IsRangeIter _ _ (lo+((0:Nat):Int)*1) ((((hi-lo).toNat:Nat):Int)-((0:Nat):Int)) 1;rw[j,i];rwa[i8 _ rfl]
 ·have e:b=(s.heap.push { cls:=.type "range",data:=.fields #[.int lo t,.int hi u,.int 1 v] }).objs.size:=by simpa using h
  subst e;rwa[g.fpOk (e8 _) (g.hok.fresh (e8 _))]
def iRng1(e:TA):TI:=λc H R=>e c H λd f=>∃ j:Int,A4 (d=[.int j]) (-(2^62)<=j) (j<2^62) (R (Itr 0 j.toNat) f)
def wQ{a:Am}{d:TA}{p pos:DD}(o:Gl X "range")(n:X.mg "range" = JN)(u:PA X [a] d)(m:starEach [a] X.env=[(JP,eval a X.env)]:=by rfl):PI X tg (.Call (.Name "range" p) [a] [] pos) (iRng1 d):=by
 intro v s f H R I h;erw[Call_ (lN I o n boot_range (BZ (thn (u pos v s f H _ I h) λy z ⟨x,A,w,i,c⟩=>?_) m rfl))];obtain⟨j,e,c,l,q⟩:=c;subst e;cases i with
 | cons r g =>
  cases g;obtain⟨t,rfl⟩:=r;exact call_range_1 (Yh w (by lia) (by lia) c l (by simpa using q))
def tFor(j:TI)(g:TG)(l:TS):TS:=λD c H=>j c H λJ o=>∃ W:Nat->Nat->St->Hp->Prop,(∃ m,W 0 m c o)/\∀ i m c H,W i m c H->(J.stop i H/\D.nx c H)\/(J.go i H/\∃ N:St->Hp->Prop,(∀ d e,N d e->∃ h,h<m/\W (i+1) h d e)/\∀ x e,J.yld i H x e->g x c e λf n=>l { D with nx:=N,ct:=N,bk:=D.nx } f n)
def ni(fp:List c7)(h:w9):List (c7×By):=fp.filterMap λb=>(h.get? b).map λo=>(b,o)
def uE{fp:List c7}{h:w9}{b:c7}{o:By}(c:b∈fp)(e:h.get? b=O o):(b,o)∈ni fp h:=CS.mpr ⟨b,c,by rw[e]; rfl⟩
def Zv{fp:List c7}{h:w9}{p:c7×By}(c:p∈ni fp h):p.1∈fp/\h.get? p.1=O p.2:=by
 obtain⟨b,d,e⟩:=CS.mp c;cases q:h.get? b with
 | none=>rw[q] at e; cases e
 | some o =>
  rw[q] at e;have f:(b,o)=p:=t7 e;subst f;rwa[d,q]
def Inv.pinned{c:List (c7×By)}{f:St}{H:Hp}{s:d7}{fp:List c7}(I:Inv X c f H s)(l:∀ b∈fp,eX X c H b)(j:∀ b∈fp,∃ o,s.heap.get? b=O o/\∀ v,o.data≠.cell v):Inv X (c++ni fp s.heap) f H s :=
 I.pins_of λp i=>(l7.mp i).elim (λz=>I.pin p (o8 _ z)) λz=>by
  obtain⟨g,e⟩:=Zv z;obtain⟨q,n,m,_⟩:=l p.1 g;obtain⟨o,h,d⟩:=j p.1 g;rw[e] at h; cases h;rwa[e,q,n,m,d]
def Inv.unpinned{d e:List (c7×By)}{c:St}{H:Hp}{s:d7}(I:Inv X (d++e) c H s):Inv X d c H s:=I.pins_of λp f=>I.pin p (o8 _ (AH _ f))
def xX{iter:Am}{body:List Ar}{wi:TI}{g:TG}{tb:TS}{pos:DD}(P:PassesOwn (model X.prog X.w) X.A X.env X.xe)(hc:X.calm=JO)(hi:PI X tg iter wi)(hg:PG X tg g)(q:PSs X body tb)
  (hs:∀ x,foldedSetIterable iter X.env x=pure x:=by intro _; rfl):PS X (.For tg iter body [] pos) (tFor wi g tb):=by
 intro G s σ H D I h;erw[wpAny_For (thn (hi G s σ H _ I h) λv s1 h1=>thn h1 λitv s2 h2=>?_) hs];obtain⟨it,fp,tn,J,H2,e,I2,T,Y,f2,W,⟨m0,w0⟩,turn⟩:=h2;subst e;have p:∀{B:Hp},(∀ b∈fp,B b=JN)->∀ b∈fp,eX X G B b:=λhn b q=>⟨hn b q,(f2 b q).2⟩;erw[codeAny_forLoop_any (λn s'=>∃ i l B,Inv X G l B s'/\tn i s'.heap/\(∀ b∈fp,B b=JN)/\W i n l B) ?_ m0 ⟨0,σ,H2,I2,Y,λb q=>(f2 b q).1,w0⟩];rintro n s3 ⟨i,j,R,I3,L,Q,w3⟩;rcases turn i n j R w3 with ⟨stop,qn⟩ | ⟨go,N,hN,step⟩
 ·erw[Cq P (thn (T.done X rfl rfl rfl hc i G s3 j R X.xe I3 (p Q) L stop) λr s4 ⟨hr,I4⟩=>?_)];subst hr;rwa[Ev ⟨j,R,I4,qn⟩]
 ·refine Cq P (thn (T.item X rfl rfl rfl hc i G s3 j R X.xe I3 (p Q) L go) λr s4 ⟨u,hr,h4⟩=>?_);subst hr;refine Cq P (thn h4 λ_ s5 ⟨x,H5,I5,r5,y5,E,fr5⟩=>?_);have I5':=I5.pinned (p fr5) (T.obj _ _ E);refine Cq P (thn (hg _ s5 j H5 x u _ I5' r5 (step x H5 y5)) λ_ s6 ⟨S,H6,I6,q6⟩=>?_);refine Cq P (thn (q _ s6 S H6 _ I6 q6) λf Z C=>?_);have again:∀{c:St}{z:Hp},Inv X (G++ni fp s5.heap) c z Z->N c z->∃ m,m<n/\∃ i l B,Inv X G l B Z/\tn i Z.heap/\(∀ b∈fp,B b=JN)/\W i m l B:=λ{c z} y M=>by
   obtain⟨m',hm,w7⟩:=hN c z M;erw[m',hm,i+1,c,z,y.unpinned,T.keep _ _ _ E λb q o e=>(y.pin (b,o) (o8 _ (o8 _ (uE q e)))).1,λb q=>?_,w7];obtain⟨o,e,d⟩:=T.obj _ _ E b q;exact(y.pin (b,o) (o8 _ (o8 _ (uE q e)))).2.1
  cases f with
  | next=>obtain⟨c,z,y,M⟩:=C; rwa[again y M]
  | cont=>obtain⟨c,z,y,M⟩:=C; rwa[again y M]
  | brk=>obtain⟨c,z,y,C⟩:=C; rwa[c,z,y.unpinned,C]
  | ret v=>obtain⟨x7,c,z,y,r7,C⟩:=C; rwa[x7,c,z,y.unpinned,r7,C]
end

def xK{K:c5}{a:c7}{xs:List V}{g:TG}{o:TS}{D:ay}{c:St}{H:Hp}(d:Nat->St->Hp->Prop)(h0:d 0 c H)(v:∀ i c H,i<=xs.length->d i c H->SqL K H a xs)
  (u:∀ i x c H,xs[i]?=O x->d i c H->g x c H λf n=>o { D with nx:=d (i+1),ct:=d (i+1),bk:=D.nx } f n) (hd:∀ c H,d xs.length c H->D.nx c H) :
  ∃ W:Nat->Nat->St->Hp->Prop,(∃ m,W 0 m c H)/\∀ i m c H,W i m c H ->
   ((Itl K a).stop i H/\D.nx c H)\/((Itl K a).go i H/\∃ N:St->Hp->Prop,(∀ h j,N h j->∃ r,r<m/\W (i+1) r h j)/\∀ x j,(Itl K a).yld i H x j->g x c j λf n=>o { D with nx:=N,ct:=N,bk:=D.nx } f n):=by
 exists λi m c H=>m=xs.length-i/\i<=xs.length/\d i c H,⟨xs.length,by simp,m7 _,h0⟩;rintro i m c H ⟨rfl,hi,p⟩;have q:=v i c H hi p;by_cases l:i<xs.length
 ·erw[.inr ⟨⟨xs,xs[i],q,by simp[l]⟩,d (i+1),λh j s=>⟨xs.length-(i+1),by lia,rfl,l,s⟩,λx j y=>?_⟩];obtain⟨e,y⟩:=y;subst e;rwa[u i x c _ (y xs q) p]
 ·have e:i=xs.length:=by lia
  subst e;rwa[.inl ⟨⟨xs,q,e8 _⟩,hd c H p⟩]
def Vt{K:c5}{a:c7}{xs:List V}{g:TG}{o:TS}{D:ay}{c:St}{H:Hp}(d:Nat->St->Hp->Prop)(h0:d 0 c H)(v:∀ i c H,i<=xs.length->d i c H->SqT K H a xs)
  (u:∀ i x c H,xs[i]?=O x->d i c H->g x c H λf n=>o { D with nx:=d (i+1),ct:=d (i+1),bk:=D.nx } f n) (hd:∀ c H,d xs.length c H->D.nx c H) :
  ∃ W:Nat->Nat->St->Hp->Prop,(∃ m,W 0 m c H)/\∀ i m c H,W i m c H ->
   ((Itt K a).stop i H/\D.nx c H)\/((Itt K a).go i H/\∃ N:St->Hp->Prop,(∀ h j,N h j->∃ r,r<m/\W (i+1) r h j)/\∀ x j,(Itt K a).yld i H x j->g x c j λf n=>o { D with nx:=N,ct:=N,bk:=D.nx } f n):=by
 exists λi m c H=>m=xs.length-i/\i<=xs.length/\d i c H,⟨xs.length,by simp,m7 _,h0⟩;rintro i m c H ⟨rfl,hi,p⟩;have q:=v i c H hi p;by_cases l:i<xs.length
 ·erw[.inr ⟨⟨xs,xs[i],q,by simp[l]⟩,d (i+1),λh j s=>⟨xs.length-(i+1),by lia,rfl,l,s⟩,λx j y=>?_⟩];obtain⟨e,y⟩:=y;subst e;rwa[u i x c _ (y xs q) p]
 ·have e:i=xs.length:=by lia
  subst e;rwa[.inl ⟨⟨xs,q,e8 _⟩,hd c H p⟩]
def tM{lo:Int}{n:Nat}{g:TG}{q:TS}{D:ay}{c:St}{H:Hp}(j:Nat->St->Hp->Prop)(h0:j 0 c H)
  (u:∀ i c H,i<n->j i c H->g (.int (lo+i)) c H λd o=>q { D with nx:=j (i+1),ct:=j (i+1),bk:=D.nx } d o) (hd:∀ c H,j n c H->D.nx c H) :
  ∃ W:Nat->Nat->St->Hp->Prop,(∃ m,W 0 m c H)/\∀ i m c H,W i m c H ->
   ((Itr lo n).stop i H/\D.nx c H)\/((Itr lo n).go i H/\∃ N:St->Hp->Prop,(∀ f l,N f l->∃ r,r<m/\W (i+1) r f l)/\∀ x l,(Itr lo n).yld i H x l->g x c l λd o=>q { D with nx:=N,ct:=N,bk:=D.nx } d o):=by
 exists λi m c H=>m=n-i/\i<=n/\j i c H,⟨n,by simp,m7 _,h0⟩;rintro i m c H ⟨rfl,hi,p⟩;by_cases h:i<n
 ·erw[.inr ⟨h,j (i+1),λf l s=>⟨n-(i+1),by lia,rfl,h,s⟩,λx l y=>?_⟩];obtain⟨e,y⟩:=y;subst e y;rwa[u i c _ h p]
 ·have e:i=n:=by lia
  subst e;rwa[.inl ⟨e8 _,hd c H p⟩]
def uk{c:TT}{j:TS}{D:ay}{d:St}{H:Hp}(i:St->Hp->Prop)(h:St->Hp->Nat)(h0:i d H)
  (r:∀ d H,i d H->c d H λb f=>if b=JO then j { D with nx:=λe g=>i e g/\h e g<h d H,ct:=λe g=>i e g/\h e g<h d H,bk:=D.nx } d f else D.nx d f)
  (mono:∀ d H Q n,(∀ b f,Q b f->n b f)->c d H Q->c d H n):XJ c j D d H:=by
 exists λm d H=>m=h d H/\i d H,⟨_,U,h0⟩;rintro m d H ⟨rfl,p⟩;erw[mono d H _ _ (λb f q=>?_) (r d H p)];cases b with
 | true=>rwa[_,λe g ⟨o,l⟩=>⟨_,l,rfl,o⟩,q]
 | false=>rwa[q]
end L2

namespace L2

abbrev R2:=V->V->Hp->VK->Prop
def OpR(X:Cx)(f:c6->c6->EH c6)(r:R2):Prop :=
 ∀(d:List (c7×By))(s:d7)(c:St)(H:Hp)(x y:V)(v u:c6)(Q:VK),Inv X d c H s->xJ x v->xJ y u->r x y H Q ->
  wpAny (model X.prog X.w) X.A (f v u) (EP X d c Q) X.xe s
def UnR(X:Cx)(f:c6->EH c6)(r:V->Hp->VK->Prop):Prop :=
 ∀(d:List (c7×By))(s:d7)(c:St)(H:Hp)(x:V)(v:c6)(Q:VK),Inv X d c H s->xJ x v->r x H Q ->
  wpAny (model X.prog X.w) X.A (f v) (EP X d c Q) X.xe s
def uH(X:Cx)(f:c6)(r:List V->Hp->VK->Prop):Prop :=
 ∀(g:List (c7×By))(s:d7)(c:St)(H:Hp)(d:List V)(e:List c6)(Q:VK),Inv X g c H s->yN d e->r d H Q ->
  wpAny (model X.prog X.w) X.A (call f e) (EP X g c Q) X.xe s
def tOp(r:R2)(e d:TE):TE:=λc H Q=>e c H λx g=>d c g λy f=>r x y f Q
def tUn(r:V->Hp->VK->Prop)(d:TE):TE:=λc H Q=>d c H λx e=>r x e Q
inductive RI(C:Int->Int->Prop)(g:Int->Int->V)(x y:V)(H:Hp)(Q:VK):Prop where
 | mk (i j:Int) (ex:x=.int i) (ey:y=.int j) (c:C i j) (q:Q (g i j) H)
def rI(C:Int->Int->Prop)(g:Int->Int->V):R2:=λx y H Q=>RI C g x y H Q
inductive RI0(g:Int->Int->V)(x y:V)(H:Hp)(Q:VK):Prop where
 | mk (i j:Int) (ex:x=.int i) (ey:y=.int j) (q:Q (g i j) H)
def rI0(g:Int->Int->V):R2:=λx y H Q=>RI0 g x y H Q
inductive RU(g:Int->V)(x:V)(H:Hp)(Q:VK):Prop where
 | mk (i:Int) (ex:x=.int i) (q:Q (g i) H)
def rU(g:Int->V):V->Hp->VK->Prop:=λx H Q=>RU g x H Q

section
variable{X:Cx}{a b c:Am}{ta tb tc:TE}{pos:DD}

def Sj(C:PE X a ta)(B:PE X b tb){l:List (c7×By)}{s:d7}{d:St}{H:Hp}{R:V->V->Hp->Prop}(I:Inv X l d H s)
  (h:ta d H λx m=>tb d m λy e=>R x y e) {Q:c6->d7->Prop} {f:c6->c6->EH c6}
  (z:∀ v u j x y e,Inv X l d e j->xJ x v->xJ y u->R x y e->wpAny (model X.prog X.w) X.A (f v u) Q X.xe j) :
  wpAny (model X.prog X.w) X.A (eval a X.env) (λv i=>wpAny (model X.prog X.w) X.A (eval b X.env) (λu g=>wpAny (model X.prog X.w) X.A (f v u) Q X.xe g) X.xe i) X.xe s:=by
 erw[thn (C l s d H _ I h) λv n ⟨x,m,E,p,r⟩=>?_];erw[thn (B l n d m _ E r) λu j ⟨y,e,D,o,q⟩=>?_];rwa[z v u j x y e D p o q]

def qC{d:Operator}{r:R2}(j:OpR X (binaryOp d) r)(m:PE X a ta)(l:PE X b tb):PE X (.BinOp a d b pos) (tOp r ta tb):=by
 intro n s e H Q I h;rwa[wpAny_BinOp (Sj m l I h λv u f x y p o i g q=>j n f e p x y v u Q o i g q)]
def pe_un{e:UnaryOp}{r:V->Hp->VK->Prop}(l:UnR X (unaryOp e) r)(m:PE X a ta):PE X (.UnaryOp e a pos) (tUn r ta):=by
 intro f s d H Q I h;rwa[UnaryOp_ (thn (m f s d H _ I h) λv g ⟨x,o,n,i,j⟩=>l f g d o x v Q n i j)]
def opI{f:c6->c6->EH c6}{C:Int->Int->Prop}{g:Int->Int->Int}
  (rule:∀(i j:Int)(t u:Ju)(s:d7)(Q:c6->d7->Prop)(E:c6->d7->Prop),C i j->Q (.int (g i j) s.toks) { s with toks:=s.toks+1 }->wpAny (model X.prog X.w) X.A (f (.int i t) (.int j u)) Q E s) :
  OpR X f (rI C λi j=>.int (g i j)):=by
 intro o s n H x y v u Q I l e h;obtain⟨i,j,rfl,rfl,m,q⟩:=h;obtain⟨t,rfl⟩:=l;obtain⟨d,rfl⟩:=e;rwa[rule i j t d s _ _ m ⟨.int (g i j),H,I.tok _,⟨_,rfl⟩,q⟩]
def opI0{f:c6->c6->EH c6}{g:Int->Int->Int}
  (rule:∀(i j:Int)(t u:Ju)(s:d7)(Q:c6->d7->Prop)(E:c6->d7->Prop),Q (.int (g i j) s.toks) { s with toks:=s.toks+1 }->wpAny (model X.prog X.w) X.A (f (.int i t) (.int j u)) Q E s) :
  OpR X f (rI0 λi j=>.int (g i j)):=by
 intro n s m H x y v u Q I l e h;obtain⟨i,j,rfl,rfl,q⟩:=h;obtain⟨t,rfl⟩:=l;obtain⟨d,rfl⟩:=e;rwa[rule i j t d s _ _ ⟨.int (g i j),H,I.tok _,⟨_,rfl⟩,q⟩]
def Sl{f:c6->c6->EH c6}{g:Int->Int->Bool}
  (rule:∀(i j:Int)(t u:Ju)(s:d7)(Q:c6->d7->Prop)(E:c6->d7->Prop),Q (.bool (g i j)) s->wpAny (model X.prog X.w) X.A (f (.int i t) (.int j u)) Q E s) :
  OpR X f (rI0 λi j=>.bl (g i j)):=by
 intro n s m H x y v u Q I l e h;obtain⟨i,j,rfl,rfl,q⟩:=h;obtain⟨t,rfl⟩:=l;obtain⟨d,rfl⟩:=e;rwa[rule i j t d s _ _ ⟨.bl (g i j),H,I,rfl,q⟩]

def CPow(i j:Int):Prop:=0<=j/\j<=1000000/\i.natAbs<2^64
def Ur(i j:Int):Prop:=(-(2^64)<i/\i<2^64)\/(-(2^64)<j/\j<2^64)
def Ur.ok{i j:Int}(h:Ur i j):IntMulOk i j:=by
 rcases h with ⟨h1,h2⟩ | ⟨h1,h2⟩
 ·rwa[.of_left (intBits_le_64 h1 h2)]
 ·rwa[.of_right (intBits_le_64 h1 h2)]
def eS:OpR X (binaryOp .Add) (rI0 λi j=>.int (i+j)):=opI0 λ_ _ _ _ _ _ _ q=>add_int q
def Th:OpR X (binaryOp .Sub) (rI0 λi j=>.int (i-j)):=opI0 λ_ _ _ _ _ _ _ q=>sub_int q
def jZ:OpR X (binaryOp .Mult) (rI Ur λi j=>.int (i*j)):=opI λ_ _ _ _ _ _ _ d q=>mul_int q d.ok
def XT:OpR X (binaryOp .Mod) (rI (λ_ j=>0<j) λi j=>.int (i%j)):=opI λi j _ _ _ _ _ d q=>by
 have h1:(0:Int)<j:=d;rwa[mod_int' (by lia) (by rw[Int.fmod_eq_emod_of_nonneg i (by lia)]; exact q)]
def Uj:OpR X (binaryOp .Pow) (rI CPow λi j=>.int (i^j.toNat)):=opI λ_ _ _ _ _ _ _ d q=>pow_int_small d.1 d.2.1 d.2.2 q
def unI{f:c6->EH c6}{g:Int->Int}
  (rule:∀(i:Int)(t:Ju)(s:d7)(Q:c6->d7->Prop)(E:c6->d7->Prop),Q (.int (g i) s.toks) { s with toks:=s.toks+1 }->wpAny (model X.prog X.w) X.A (f (.int i t)) Q E s) :
  UnR X f (rU λi=>.int (g i)):=by
 intro j s e H x v Q I d h;obtain⟨i,rfl,q⟩:=h;obtain⟨t,rfl⟩:=d;rwa[rule i t s _ _ ⟨.int (g i),H,I.tok _,⟨_,rfl⟩,q⟩]
def Tq:UnR X (unaryOp .USub) (rU λi=>.int (-i)):=unI λ_ _ _ _ _ q=>neg_int q
end

def So:V->V->Bool
 | .non,.non=>JO | .non,.int _=>JO | .int _,.non=>JO | .non,.bl _=>JO | .bl _,.non=>JO | .non,.str _=>JO | .str _,.non=>JO
 | .int _,.int _=>JO | .bl _,.bl _=>JO | .str _,.str _=>JO | .byt _,.byt _=>JO
 | .int _,.str _=>JO | .str _,.int _=>JO | .bl _,.str _=>JO | .str _,.bl _=>JO
 | _,_=>JP
def rEq:R2:=λx y H Q=>So x y=JO/\Q (.bl (decide (x=y))) H
def rNe:R2:=λx y H Q=>So x y=JO/\Q (.bl (!decide (x=y))) H

def Zt{i j:Int} : decide (V.int i=V.int j)=(i == j):=by
 rw[CV];simp
def Wk{i j:Bool} : decide (V.bl i=V.bl j)=(i == j):=by
 rw[CV];simp
def aS{i j:j3} : decide (V.str i=V.str j)=(i == j):=by
 rw[CV];simp
def ZC{i j:Array UInt8} : decide (V.byt i=V.byt j)=(i.toList == j.toList):=by
 rw[CV];cases i;cases j;simp

section
variable{X:Cx}{a b c:Am}{ta tb tc:TE}{pos:DD}
def yU{g:List (c7×By)}{d:St}{H:Hp}{s:d7}{Q:VK}{k f:Bool}(I:Inv X g d H s)(q:Q (.bl k) H)(e:k=f):EP X g d Q (.bool f) s:=by
 subst e;rwa[.bl k,H,I,rfl,q]
def WM:OpR X (compareOp .Eq) rEq:=by
 intro m s l H x y v u Q I g d h;obtain⟨f,q⟩:=h;cases x with
 | non =>
  cases g;cases y with
  | non=>cases d; rwa[IB (yU I q (by simp))]
  | bl j=>cases d; rwa[IC (yU I q (by simp))]
  | int j=>obtain⟨e,rfl⟩:=d; rwa[IP (yU I q (by simp))]
  | str j=>obtain⟨e,rfl⟩:=d; rwa[IQ (yU I q (by simp))]
  | _=>exact y9 (show JP=JO from f) l9
 | bl i =>
  cases g;cases y with
  | non=>cases d; rwa[ID (yU I q (by simp))]
  | bl j=>cases d; rwa[eq_bool (yU I q Wk)]
  | str j=>obtain⟨e,rfl⟩:=d; rwa[IE (yU I q (by simp))]
  | _=>exact y9 (show JP=JO from f) l9
 | int i =>
  obtain⟨t,rfl⟩:=g;cases y with
  | non=>cases d; rwa[IR (yU I q (by simp))]
  | int j=>obtain⟨e,rfl⟩:=d; rwa[eq_int (yU I q Zt)]
  | str j=>obtain⟨e,rfl⟩:=d; rwa[IS (yU I q (by simp))]
  | _=>exact y9 (show JP=JO from f) l9
 | str i =>
  obtain⟨t,rfl⟩:=g;cases y with
  | non=>cases d; rwa[IT (yU I q (by simp))]
  | bl j=>cases d; rwa[IF (yU I q (by simp))]
  | int j=>obtain⟨e,rfl⟩:=d; rwa[IU (yU I q (by simp))]
  | str j=>obtain⟨e,rfl⟩:=d; rwa[eq_str (yU I q aS)]
  | _=>exact y9 (show JP=JO from f) l9
 | byt i =>
  obtain⟨t,rfl⟩:=g;cases y with
  | byt j=>obtain⟨e,rfl⟩:=d; rwa[PySem.W.eq_bytes (yU I q ZC)]
  | _=>exact y9 (show JP=JO from f) l9
 | _=>cases y <;> exact y9 (show JP=JO from f) l9
def Su:OpR X (compareOp .NotEq) rNe:=by
 intro m s l H x y v u Q I g d h;obtain⟨f,q⟩:=h;cases x with
 | non =>
  cases g;cases y with
  | non=>cases d; rwa[IG (yU I q (by simp))]
  | bl j=>cases d; rwa[IH (yU I q (by simp))]
  | int j=>obtain⟨e,rfl⟩:=d; rwa[IV (yU I q (by simp))]
  | str j=>obtain⟨e,rfl⟩:=d; rwa[IW (yU I q (by simp))]
  | _=>exact y9 (show JP=JO from f) l9
 | bl i =>
  cases g;cases y with
  | non=>cases d; rwa[II (yU I q (by simp))]
  | bl j=>cases d; rwa[ne_bool (yU I q (congrArg not Wk))]
  | str j=>obtain⟨e,rfl⟩:=d; rwa[IJ (yU I q (by simp))]
  | _=>exact y9 (show JP=JO from f) l9
 | int i =>
  obtain⟨t,rfl⟩:=g;cases y with
  | non=>cases d; rwa[IX (yU I q (by simp))]
  | int j=>obtain⟨e,rfl⟩:=d; rwa[ne_int (yU I q (congrArg not Zt))]
  | str j=>obtain⟨e,rfl⟩:=d; rwa[IY (yU I q (by simp))]
  | _=>exact y9 (show JP=JO from f) l9
 | str i =>
  obtain⟨t,rfl⟩:=g;cases y with
  | non=>cases d; rwa[IZ (yU I q (by simp))]
  | bl j=>cases d; rwa[IK (yU I q (by simp))]
  | int j=>obtain⟨e,rfl⟩:=d; rwa[Ja (yU I q (by simp))]
  | str j=>obtain⟨e,rfl⟩:=d; rwa[ne_str (yU I q (congrArg not aS))]
  | _=>exact y9 (show JP=JO from f) l9
 | byt i =>
  obtain⟨t,rfl⟩:=g;cases y with
  | byt j=>obtain⟨e,rfl⟩:=d; rwa[PySem.W.ne_bytes (yU I q (congrArg not ZC))]
  | _=>exact y9 (show JP=JO from f) l9
 | _=>cases y <;> exact y9 (show JP=JO from f) l9

def WQ:OpR X (compareOp .Lt) (rI0 λi j=>.bl (decide (i<j))):=Sl λ_ _ _ _ _ _ _ q=>lt_int q
def XB:OpR X (compareOp .LtE) (rI0 λi j=>.bl (decide (i<=j))):=Sl λ_ _ _ _ _ _ _ q=>le_int q
def ZR:OpR X (compareOp .Gt) (rI0 λi j=>.bl (decide (j<i))):=Sl λ_ _ _ _ _ _ _ q=>gt_int q
def Vp:OpR X (compareOp .GtE) (rI0 λi j=>.bl (decide (j<=i))):=Sl λ_ _ _ _ _ _ _ q=>ge_int q
def bF:OpR X (compareOp .IsNot) (λx y H Q=>y=.non/\Q (.bl (!decide (x=.non))) H):=by
 intro g s f H x y v u Q I d e h;obtain⟨rfl,q⟩:=h;cases e;refine isnot_none_gen (yU I q ?_);cases x <;> first
  | (cases d; rfl)
  | (obtain⟨t,rfl⟩:=d; rfl)

def wu(b:Am){d:Im}(h:d≠.In:=by decide)(h2:d≠.NotIn:=by decide):behindInMarks d b=false:=by
 have f:(d == CmpOp.In)=false:=by cases d <;> first | rfl | exact y9 rfl h
 have e:(d == CmpOp.NotIn)=false:=by cases d <;> first | rfl | exact y9 rfl h2
 cases b <;> simp[behindInMarks,f,e]
def yg{d:Im}{r:R2}(j:OpR X (compareOp d) r)(n:PE X a ta)(m:PE X b tb)(l:behindInMarks d b=JP):PE X (.Compare a [d] [b] pos) (tOp r ta tb):=by
 intro o s e H Q I h;rwa[wpAny_Compare1 (Sj n m I h λv u f x y w p i g q=>j o f e w x y v u Q p i g q) l]
def Yx(t:TE):TT:=λd H Q=>t d H λx e=>∃ k,x=.bl k/\Q k e
def xQ{f:Im}{r:R2}(w:OpR X (compareOp f) r)(C:PE X a ta)(B:PE X b tb)(A:behindInMarks f b=JP):PT X (.Compare a [f] [b] pos) (Yx (tOp r ta tb)):=by
 intro g s d H Q I h;refine Gg (thn (C g s d H _ I h) λv j ⟨x,M,G,n,q⟩=>thn (B g j d M _ G q) λu i ⟨y,L,E,m,p⟩ =>
  thn (w g i d L x y v u _ E n m p) λc N ⟨z,J,D,l,k,e,o⟩=>?_) A
 subst e;cases l;rwa[BB ⟨J,D,o⟩]
def TF(r g:R2)(ta tb tc:TE):TE:=λd H Q=>ta d H λx j=>tb d j λy i=>r x y i λz e=>∃ k,z=.bl k/\(if k=JO then tc d e λf h=>g y f h Q else Q (.bl JP) e)
def dE{j f:Im}{r n:R2}(R:OpR X (compareOp j) r)(l:OpR X (compareOp f) n)(Z:PE X a ta)(Y:PE X b tb)(T:PE X c tc)
  (S:lastMarks [j,f] [b,c]=false:=by with_unfolding_all rfl):PE X (.Compare a [j,f] [b,c] pos) (TF r n ta tb tc):=by
 intro i s g H Q I h;refine Compare_chain (thn (Z i s g H _ I h) λv E ⟨x,H1,I1,L,P⟩=>chain_link (thn (Y i E g H1 _ I1 P) λu D ⟨y,H2,I2,m,N⟩ =>
  thn (R i D g H2 x y v u _ I2 L m N) λd C ⟨z,q,p,J,k,e,o⟩=>?_)) S
 subst e;cases J;erw[BB ?_];cases k with
 | false=>rwa[ite_ff ⟨.bl JP,q,p,rfl,o⟩]
 | true=>rwa[ite_tt (chain_last (thn (T i C g q _ p o) λA B ⟨w,H4,I4,G,M⟩=>l i B g H4 y w u A Q I4 m G M))]
def lF:(sizeLine:Nat)<2^63:=by rw[sizeLine_eq]; decide
def mT:OpR X (binaryOp .Add) (λx y H Q=>E2 λi j=>A4 (x=.str i) (y=.str j) (i.length+j.length<=sizeLine) (Q (.str (i++j)) H)):=by
 intro n s l H x y v u Q I f e h;obtain⟨i,j,rfl,rfl,g,q⟩:=h;obtain⟨t,rfl⟩:=f;obtain⟨d,rfl⟩:=e;rwa[add_str (λd m=>⟨.str (i++j),H,I.tok _,⟨_,rfl⟩,q⟩) g]
def oJ{x:V}{d:List c6}(r:yN [x] d):∃ u,d=[u]/\xJ x u:=by
 cases r with
 | cons f e=>cases e; rwa[_,rfl,f]
def Tu{x y:V}{e:List c6}(r:yN [x,y] e):∃ u d,e=[u,d]/\xJ x u/\xJ y d:=by
 cases r with
 | cons i h =>
  cases h with
  | cons g f=>cases f; rwa[_,_,rfl,i,g]
def YZ:uH X (.builtin "abs") (λd H Q=>∃ i,d=[.int i]/\Q (.int (if i<0 then -i else i)) H):=by
 intro j s e H d f Q I r h;obtain⟨i,rfl,q⟩:=h;obtain⟨u,rfl,t,rfl⟩:=oJ r;exact call_abs_int λu g=>⟨.int (if i<0 then -i else i),H,I.tok _,⟨_,rfl⟩,q⟩
def ZG(f:X.calm=JO):uH X (.builtin "max") (λe H Q=>E2 λi j=>e=[.int i,.int j]/\Q (.int (if j>i then j else i)) H):=by
 intro v s g H e m Q I r h;obtain⟨i,j,rfl,q⟩:=h;obtain⟨u,l,rfl,⟨t,rfl⟩,⟨o,rfl⟩⟩:=Tu r;erw[max_two_ints (I.ok.hd f) λp n k=>⟨_,H,I.kept k,?_,q⟩];by_cases d:j>i
 ·rw[y6 d,y6 d]; rwa[_,rfl]
 ·rw[y4 d,y4 d]; rwa[_,rfl]
def Zz(f:X.calm=JO):uH X (.builtin "min") (λe H Q=>E2 λi j=>e=[.int i,.int j]/\Q (.int (if j<i then j else i)) H):=by
 intro v s g H e m Q I r h;obtain⟨i,j,rfl,q⟩:=h;obtain⟨u,l,rfl,⟨t,rfl⟩,⟨o,rfl⟩⟩:=Tu r;erw[min_two_ints (I.ok.hd f) λp n k=>⟨_,H,I.kept k,?_,q⟩];by_cases d:j<i
 ·rw[y6 d,y6 d]; rwa[_,rfl]
 ·rw[y4 d,y4 d]; rwa[_,rfl]
def aH:uH X (.type "int") (λd H Q=>(∃ i,d=[.int i]/\Q (.int i) H)\/∃ k,d=[.bl k]/\Q (.int (if k then 1 else 0)) H):=by
 intro j s f H d g Q I r h;rcases h with ⟨i,rfl,q⟩ | ⟨k,rfl,q⟩
 ·obtain⟨u,rfl,t,rfl⟩:=oJ r;rwa[call_int_int ⟨.int i,H,I,⟨_,rfl⟩,q⟩]
 ·obtain⟨u,rfl,e⟩:=oJ r;cases e;exact call_int_bool ⟨.int (if k then 1 else 0),H,I.tok _,⟨_,rfl⟩,q⟩
end
end L2

namespace L2

structure Vi(h:w9)(x dx C:c7)(mA:j3->Option c6):Prop where
 obj:h.get? x=O (BW C dx)
 ns:h.Ns1 dx mA
 ne:dx≠x

def bG{h:w9}{j:c7}{g:j3->Option c6}(n:h.Ns1 j g):∃ f,h.get? j=O f/\∀ c,ER c f=O (g c):=by
 obtain⟨o,i,u,m,hd,r,_,p⟩:=n;erw[o,m,λc=>?_];have e:=p c;unfold nsFind findBy at e;rw[<- Array.find?_toList] at e;unfold ER;rw[hd];dsimp only;split
 ·rename_i y q
  rw[q] at e;rwa[congrArg O e]
 ·rename_i q
  rw[q] at e;have a:i.toList.any (·.refKey)=false:=by
   rw[List.any_eq_false];intro y l;obtain⟨z,t,d⟩:=r y (Gr.mp l);simp[DictEntry.refKey,d]
  have s:¬ i.toList.any (·.refKey)=true:=by rw[a]; rwa[l9]
  rw[y4 s];rwa[congrArg O e]

def Vi.look{h:w9}{x f C:c7}{e:j3->Option c6}(I:Vi h x f C e):∃ d,PySem.W.InstAt h x (BW C f) C (O d)/\∀ c,ER c d=O (e c) :=
 let ⟨d,ho,hl⟩:=bG I.ns
 ⟨d,⟨I.obj,rfl,rfl,ho⟩,hl⟩

section
variable{prog:m9}{w:r9}{A:Ac}{E:c6->d7->Prop}{s:d7}{K:c5}{x dx C f:c7}{mA:j3->Option c6}{name:j3}{v:c6}

def Vd{expr:Bool}{Q:c6->d7->Prop}(X:K.In s.heap)(I:Vi s.heap x dx C mA)(i:Ea K C name=JO)(g:Fk K C=JO)
  (j:AZ K (.ref C) name=O JN) (d:mA name=O v) (c:Hu v=JO) (h:Q v { s with toks:=s.toks+1 }) :
  wpAny (model prog w) A (getAttr (.ref x) name expr) Q E s:=by
 obtain⟨l,J,e⟩:=I.look;rwa[PySem.W.get_value X J (EC i).1 (PySem.W.findObj_own g j rfl (by rw[e,d])) c h]

def Xp{d:EH Bool}{Q:c6×List c6->d7->Prop}(X:K.In s.heap)(I:Vi s.heap x dx C mA)(c:Ea K C name=JO)
  (l:AZ K (.ref C) name=O (O (.ref f))) (i:G1 K (.ref f)=JO) (g:mA name=JN) (h:Q (.ref f,[.ref x]) s) :
  wpAny (model prog w) A (getMethod (.ref x) name d) Q E s:=by
 obtain⟨e,J,j⟩:=I.look;exact PySem.W.method_fn X J (EC c).1 (EC c).2 l (beq_iff_eq.mp i) (by show(ER name e).map (·.isSome)=O JP; rw[j,g]; rfl) h

def VS{ns:List j3}{Q:Unit->d7->Prop}(X:K.In s.heap)(I:Vi s.heap x dx C mA)
  (q:AZ K (.ref C) "__setattr__" = O (O (.builtin "object.__setattr__"))) (u:G2 K C=JO) (o:F6 K C name=O JN) (z:Fk K C=JO)
  (n:GZ mA ns) (p:ns.length<=sizeLine)
  (h:∀ e,Vi e x dx C (λy=>if y=name then O v else mA y)->Bz dx s.heap e->Q () { s with heap:=e,toks:=s.toks+2 }) :
  wpAny (model prog w) A (setAttr (.ref x) name v) Q E s:=by
 obtain⟨H,J,M⟩:=I.look;refine PySem.W.set_plain X J q (PySem.W.osa_open (s:={ s with toks:=s.toks+1 }) (r:=JN) X J u o λb=>?_);obtain⟨N,B,j⟩:=PySem.W.any_some z;have m:s.heap.get? x=O ⟨.ref C,O dx,.plain,#[]⟩:=I.obj;refine b9 (e9 (b9 (b9 (wpAny_loadPart m (b9 (Iw (s:={ s with toks:=s.toks+1 }) (PySem.W.looks_clsIn X B) ?_))))));rw[j];erw[e9 (a:=O dx) (b9 (e9 (b9 ?_)))];refine wpAny_nsSet1 (s:={ s with toks:=s.toks+1 }) I.ns λe d c=>?_;obtain⟨L,D,G,g,i,l⟩:=d.count (JI name v n);erw[b9 (wpAny_lookBehind g (by rw[i]; rwa[pastItsLine_dict (f9 l (by rw[i9]; lia))]) ?_)];rwa[e9 (h _ ⟨(c.2 _ (AR I.ne)).trans I.obj,d,I.ne⟩ c)]

def YO{R:Result->d7->Prop}{c:List c6}{e:List (j3×c6)}(X:K.In s.heap)(i:Ia K C=JO)
  (hi:AZ K (.ref C) "__init__" = O (O (.ref f))) (j:PySem.W.typeIn K (.ref f)=O (.type "function"))
  (h:codeAny (model prog w) (A.under (.builtin "type.__call__" ⟨.ref C::c,e⟩)) (.call (.ref f) ⟨.ref (s.heap.objs.size+1)::c,e⟩) (PySem.W.InitBack (s.heap.objs.size+1) R)
   { s with heap:=(s.heap.push Bo).push (BW C s.heap.objs.size) }) :
  codeAny (model prog w) A (.call (.ref C) ⟨c,e⟩) R s:=by
 obtain⟨l,g,d,t,os⟩:=s;rwa[PySem.W.make_core (PySem.W.makes_of X i) (PySem.W.looks_findIn X hi) (λself=>PySem.W.bind_fn X self j) (.inl rfl) h]
end

def pR(f:j3)(v:V):List (j3×V)->List (j3×V)
 | []=>[(f,v)]
 | (g,x)::r=>if g=f then(g,v)::r else(g,x)::pR f v r
def mw(f g:j3)(v:V):∀ fs:List (j3×V),(pR f v fs).lookup g=if g=f then O v else fs.lookup g
 | []=>by
  show Ap g [(f,v)]=_;by_cases h:g=f
  ·have c:(g == f)=true:=beq_iff_eq.mpr h;simp only[Ap,c,y6 h]
  ·have c:(g == f)=false:=x4.mpr h;simp only[Ap,c,y4 h]
 | (k,x)::r=>by
  have i:=mw f g v r;rw[show pR f v ((k,x)::r)=(if k=f then(k,v)::r else(k,x)::pR f v r) from rfl];by_cases d:k=f
  ·rw[y6 d];by_cases h:g=k
   ·have c:(g == k)=true:=beq_iff_eq.mpr h;simp only[Ap,c,y6 (h.trans d)]
   ·have c:(g == k)=false:=x4.mpr h;simp only[Ap,c,y4 (λe:g=f=>h (e.trans d.symm))]
  ·rw[y4 d];by_cases h:g=k
   ·have c:(g == k)=true:=beq_iff_eq.mpr h;simp only[Ap,c,y4 (λe:g=f=>d (h.symm.trans e))]
   ·have c:(g == k)=false:=x4.mpr h;simp only[Ap,c];rwa[i]
def oH(f:j3)(v:V):∀ fs:List (j3×V),f∈(pR f v fs).map (·.1)/\∀ g,g∈fs.map (·.1)->g∈(pR f v fs).map (·.1)
 | []=>⟨by simp[pR],λg h=>by simp at h⟩
 | (k,x)::r=>by
  obtain⟨i,d⟩:=oH f v r;rw[show pR f v ((k,x)::r)=(if k=f then(k,v)::r else(k,x)::pR f v r) from rfl];by_cases c:k=f
  ·rw[y6 c];subst c;exact⟨by simp,λg h=>by simpa using h⟩
  ·rw[y4 c];erw[?_,λg h=>?_]
   ·rw[i5];rwa[Af _ i]
   ·rw[i5] at h ⊢;rcases o0.mp h with e | e
    ·rwa[o0.mpr (.inl e)]
    ·rwa[Af _ (d g e)]
def oA(f:j3)(v:V):∀ fs:List (j3×V),(pR f v fs).length<=fs.length+1
 | []=>by simp[pR]
 | (k,x)::r=>by
  have d:=oA f v r;rw[show pR f v ((k,x)::r)=(if k=f then(k,v)::r else(k,x)::pR f v r) from rfl];by_cases c:k=f
  ·rw[y6 c,i9,i9]; lia
  ·rw[y4 c,i9,i9]; lia

def jo.some_of{v:V}{o:Option c6}(r:jo (O v) o):∃ u,o=O u/\xJ v u:=by
 cases o with
 | none=>exact(show False from r).elim
 | some u=>rwa[u,rfl,r]
def jo.none_of{o:Option c6}(r:jo JN o):o=none:=by
 cases o with
 | none=>rfl
 | some u=>exact(show False from r).elim
def aj{v:V}{u:c6}(r:xJ v u):Hu u=true:=by
 cases v with
 | non=>cases (show u=AA from r); rfl
 | bl b=>cases (show u=EO b from r); rfl
 | int i=>obtain⟨t,e⟩:=(show ∃ t,u=C3 i t from r); cases e; rfl
 | str x=>obtain⟨t,e⟩:=(show ∃ t,u=Dj x t from r); cases e; rfl
 | byt b=>obtain⟨t,e⟩:=(show ∃ t,u=HS b t from r); cases e; rfl
 | flt b=>obtain⟨t,e⟩:=(show ∃ t,u=Gp b t from r); cases e; rfl
 | ref a=>cases (show u=j8 a from r); rfl
 | ty n=>cases (show u=Ik n from r); rfl

section
variable{P:m9}{w:r9}{H H':Hp}{h h':w9}{a C dx:c7}{fs fs':List (j3×V)}
def ku(hok:HOk P w H h)(e:H a=O (.ins C dx fs)):∃ c,Vi h a dx C c/\(∀ f,jo (fs.lookup f) (c f))/\GZ c (fs.map (·.1))/\fs.length<=1000/\H dx=O (.own a):=by
 obtain⟨d,z,ne,ob,c,n,r,q⟩:=(show wN P w H h a (.ins C dx fs) from hok a _ e);rwa[c,⟨ob,n,ne⟩,r,q,z,d]
end

structure Cls(K:c5)(C:c7):Prop where
 pg:Ea K C Jh=JO
 hd:Fk K C=JO
 po:G2 K C=JO
 sa:AZ K (.ref C) "__setattr__" = O (O (.builtin "object.__setattr__"))
def Cls.get{K:c5}{C:c7}(c:Cls K C)(f:j3):Ea K C f=true:=c.pg
def wx(K:c5)(C:c7)(f:j3):Prop:=AZ K (.ref C) f=O JN
def wx.taker{K:c5}{C:c7}{f:j3}(n:wx K C f):F6 K C f=O none:=by
 unfold F6;rw[show AZ K (.ref C) f=O JN from n];rfl
structure Con(K:c5)(C:c7)(f:j3)(v:V)(u:c6):Prop where
 at_:AZ K (.ref C) f=O (O u)
 rel:xJ v u
 get:G3 K u "__get__" = O JN
 cp:PySem.W.copiedNames.contains f=JP
structure YW(K:c5)(C:c7)(m:j3)(f:c7):Prop where
 at_:AZ K (.ref C) m=O (O (.ref f))
 fn:G1 K (.ref f)=JO
 kp:AI K (.ref f)=JO

section
variable{X:Cx}{JQ:List (c7×By)}{σ:St}{H:Hp}{s:d7}{a C dx:c7}{fs:List (j3×V)}{f:j3}{v:V}{A:Ac}{E:c6->d7->Prop}

def cA{b:Bool}{Q:c6->d7->Prop}(I:Inv X JQ σ H s)(e:H a=O (.ins C dx fs))(c:Cls X.K C)(n:wx X.K C f)(l:fs.lookup f=O v)
  (h:∀ u g,Inv X JQ σ H g->xJ v u->Q u g):wpAny (model X.prog X.w) A (getAttr (.ref a) f b) Q E s:=by
 obtain⟨i,d,r,_,_,_⟩:=ku I.hok e;obtain⟨u,j,ru⟩:=jo.some_of (v:=v) (o:=i f) (by rw[<- l]; rwa[r f]);rwa[Vd I.kIn d (c.get f) c.hd n j (aj ru) (h u _ (I.tok _) ru)]

def lE{m:j3}{g:c7}{i:EH Bool}{Q:c6×List c6->d7->Prop}(I:Inv X JQ σ H s)(e:H a=O (.ins C dx fs))(c:Cls X.K C)(k:YW X.K C m g)(l:fs.lookup m=JN)
  (h:Q (.ref g,[.ref a]) s):wpAny (model X.prog X.w) A (getMethod (.ref a) m i) Q E s:=by
 obtain⟨j,d,r,_,_,_⟩:=ku I.hok e;have n:j m=none:=jo.none_of (by rw[<- l]; rwa[r m]);rwa[Xp I.kIn d (c.get m) k.at_ k.fn n h]

def cm{y:V}{u:c6}{Q:Unit->d7->Prop}(I:Inv X JQ σ H s)(e:H a=O (.ins C dx fs))(c:Cls X.K C)(n:wx X.K C f)(N:fs.length<1000)(D:xJ y u)
  (h:∀ l,Inv X JQ σ (upd H a (.ins C dx (pR f y fs))) l->Q () l):wpAny (model X.prog X.w) A (setAttr (.ref a) f u) Q E s:=by
 obtain⟨m,d,r,j,_,p⟩:=ku I.hok e;have G:(fs.map (·.1)).length<=sizeLine:=by rw[b7,sizeLine_eq]; lia
 erw[VS I.kIn d c.sa c.po n.taker c.hd j G λM i B=>h _ ?_];have hd:∃ o,M.get? dx=O o:=let ⟨o,_,_,e',_⟩:=i.ns;⟨o,e'⟩;erw[I.write (x:=a) (e:=dx) (by rw[e]; rwa[t5]) (.inr p) (λb q L z=>(B.2 b L).trans z) hd ?_];erw[by rw[zD d.ne]; exact p,?_,d.ne,i.obj,_,i.ns,λg=>?_,λg J=>?_]
 ·have:=oA f y fs; lia
 ·show jo ((pR f y fs).lookup g) (if g=f then O u else m g);rw[mw];by_cases q:g=f
  ·rw[y6 q,y6 q]; rwa[D]
  ·rw[y4 q,y4 q]; rwa[r g]
 ·by_cases q:g=f
  ·rw[q]; exact(oH f y fs).1
  ·refine(oH f y fs).2 g (j g λz=>J ?_);show(if g=f then O u else m g)=JN;rw[y4 q]; rwa[z]

def Inv.made(I:Inv X JQ σ H s):Inv X JQ σ (upd (upd H s.heap.objs.size (.own (s.heap.objs.size+1))) (s.heap.objs.size+1) (.ins C s.heap.objs.size []))
  { s with heap:=(s.heap.push Bo).push (BW C s.heap.objs.size) }:=by
 have c:(s.heap.push Bo).get? s.heap.objs.size=O Bo:=i8 s.heap rfl;have i:((s.heap.push Bo).push (BW C s.heap.objs.size)).get? (s.heap.objs.size+1)=O (BW C s.heap.objs.size):=by
  have:=i8 (s.heap.push Bo) (o:=BW C s.heap.objs.size) rfl;(rw[Ba] at this;assumption)
 have h:(s.heap.push Bo).Ns s.heap.objs.size (λ_=>JN):=⟨Bo,#[],_,c,rfl,(λe g=>y9 g (by simp)),λ_=>rfl⟩;have j:=I.laid (a:=s.heap.objs.size) (o:=.own (s.heap.objs.size+1)) (h':=s.heap.push Bo) (t':=s.toks) (λb u q=>c9 _ q) (e8 _) ⟨_,c⟩;erw[j.laid (a:=s.heap.objs.size+1) (o:=.ins C s.heap.objs.size []) (t':=s.toks) (λb u q=>c9 _ q) (FV (Ba _ _)) ?_];have ne:s.heap.objs.size≠s.heap.objs.size+1:=o9 (CK _);erw[by rw[zD ne,zA],m7 _,ne,i,λ_=>JN,(Heap.Ns1.of_empty h).at λo q=>c9 _ q,λ_=>t5,λy d=>y9 rfl d]

def WX{prog:m9}{w:r9}{env:Ff}{e:Am}{f:j3}{pos:DD}{s:d7}{Q:c6->d7->Prop}(d:attributeBase e f env (eval e env)=eval e env)
  (h:wpAny (model prog w) A (eval e env) (λo c=>wpAny (model prog w) A (getAttr o f JO) Q E c) E s):wpAny (model prog w) A (eval (.Attribute e f pos) env) Q E s :=
 Attribute_any_ h (by rw[arm_eval_Attribute,d])
end


section
variable{X:Cx}{JQ:List (c7×By)}{σ:St}{H:Hp}{s:d7}{A:Ac}{E:c6->d7->Prop}{Q:c6->d7->Prop}{c:c6}{b:Bool}
inductive TyOf(K:c5)(H:Hp):V->c6->Prop where
 | non:TyOf K H .non (.type "NoneType")
 | bl (x:Bool):TyOf K H (.bl x) (.type "bool")
 | int (i:Int):TyOf K H (.int i) (.type "int")
 | str (x:j3):TyOf K H (.str x) (.type "str")
 | flt (x:UInt64):TyOf K H (.flt x) (.type "float")
 | lst {a:c7} {xs:List V} (e:H a=O (.lst xs)):TyOf K H (.ref a) (.type "list")
 | frz {a:c7} {o:By} {xs:List V} (e:H a=O (.frz o (.lst xs))):TyOf K H (.ref a) (.type "list")
 | tup {a:c7} {xs:List V} (e:H a=O (.tup xs)):TyOf K H (.ref a) (.type "tuple")
 | dK {a:c7} {kvs:List (Key×V)} (e:H a=O (.dK kvs)):TyOf K H (.ref a) (.type "dict")
 | dT {a:c7} {kvs:List (List Key×V)} (e:H a=O (.dT kvs)):TyOf K H (.ref a) (.type "dict")
 | ins {a C dx:c7} {fs:List (j3×V)} (e:H a=O (.ins C dx fs)) (cl:Cls K C) (ha:AZ K (.ref C) "__class__" = O (O (.builtin "object.__class__")))
   (hn:G3 K (.builtin "object.__class__") "__get__" = O (O (.builtin "getset_descriptor.__get__"))) (htk:PySem.W.takesIn K (.builtin "object.__class__")=O JO)
   (hm:PySem.W.mroIn K C (.type "object")=O JO):TyOf K H (.ref a) (.ref C)
def aG{x:V}{u t:c6}(I:Inv X JQ σ H s)(f:xJ x u)(ty:TyOf X.K H x t)(e:CL X.K t c=O b)(h:∀ v,Q (.bool b) { s with toks:=v }) :
  wpAny (model X.prog X.w) A (call (.builtin "isinstance") [u,c]) Q E s:=by
 cases ty with
 | non=>cases (show u=AA from f); exact Bi PySem.W.kitx_none I.kIn t5 e (λz=>nomatch z) h
 | bl y=>cases (show u=EO y from f); exact Bi PySem.W.kitx_bool I.kIn t5 e (λz=>nomatch z) h
 | int i=>obtain⟨t,q⟩:=(show ∃ t,u=C3 i t from f); cases q; exact Bi PySem.W.kitx_int I.kIn t5 e (λz=>nomatch z) h
 | str y=>obtain⟨t,q⟩:=(show ∃ t,u=Dj y t from f); cases q; exact Bi PySem.W.kitx_str I.kIn t5 e (λz=>nomatch z) h
 | flt y=>obtain⟨t,q⟩:=(show ∃ t,u=Gp y t from f); cases q; exact Bi PySem.W.kitx_float I.kIn t5 e (λz=>nomatch z) h
 | @lst a l g =>
  cases (show u=j8 a from f);obtain⟨_,_,n,_,h1⟩:=(show wN X.prog X.w H s.heap a (.lst l) from I.hok a _ g);exact Bi G4 I.kIn ⟨_,h1,rfl⟩ e (λz=>nomatch z) h
 | @frz a ob l g =>
  cases (show u=j8 a from f);obtain⟨_,_,_,n,_,h1⟩:=(show wN X.prog X.w H s.heap a (.frz ob (.lst l)) from I.hok a _ g);exact Bi G4 I.kIn ⟨_,h1,rfl⟩ e (λz=>nomatch z) h
 | @tup a l g =>
  cases (show u=j8 a from f);obtain⟨_,_,_,p⟩:=(show wN X.prog X.w H s.heap a (.tup l) from I.hok a _ g);obtain⟨o,h1,h2,_⟩:=p;exact Bi PySem.W.kitx_tuple I.kIn ⟨o,h1,h2⟩ e (λz=>nomatch z) h
 | @dK a j g =>
  cases (show u=j8 a from f);obtain⟨_,_,N,_,p⟩:=(show wN X.prog X.w H s.heap a (.dK j) from I.hok a _ g);obtain⟨o,L,M,h1,h2,_⟩:=p;exact Bi G5 I.kIn ⟨o,h1,h2.1⟩ e (λz=>nomatch z) h
 | @dT a j g =>
  cases (show u=j8 a from f);obtain⟨_,_,l,_,o,L,M,h1,h2,_⟩:=(show wN X.prog X.w H s.heap a (.dT j) from I.hok a _ g);exact Bi G5 I.kIn ⟨o,h1,h2.1⟩ e (λz=>nomatch z) h
 | @ins a C S fs g r G B m D =>
  cases (show u=j8 a from f);obtain⟨R,d,_⟩:=ku I.hok g;obtain⟨P,J,_⟩:=d.look;exact Bi (PySem.W.kitx_own (r.get _) r.hd G B m D) I.kIn J e (λz=>nomatch z) h
end
end L2

namespace L2

structure zv(k:Nat)(A:Ac):Prop where
 hd:A.handled=JN
 dp:A.depth+3*k+5<recursionLimit
 un:A.units+16*k+200<cLine
 gd:A.guards=O []
def zv.mono{j k:Nat}{A:Ac}(r:zv k A)(h:j<=k):zv j A:=⟨r.hd,by have:=r.dp; lia,by have:=r.un; lia,r.gd⟩
def zv.deeper{k:Nat}{A:Ac}(r:zv (k+1) A)(env:Ff):zv k (A.deeper env) :=
 ⟨r.hd,by have:=r.dp; show A.depth+1+3*k+5<_; lia,by have:=r.un; show A.units+3+16*k+200<_; lia,r.gd⟩
def cx{A:Ac}{C:c7}{c:List c6}{d:List (j3×c6)} : (A.under (.builtin "type.__call__" ⟨.ref C::c,d⟩)).depth=A.depth+1:=by
 first | rfl | simp[FW,Code.weight,Code.isCreation,Jm,Code.isCaller,Jv,G6,guardIds]
def cI{A:Ac}{C:c7}{c:List c6}{d:List (j3×c6)} : (A.under (.builtin "type.__call__" ⟨.ref C::c,d⟩)).units=A.units+1:=by
 first | rfl | simp[FW,Code.cUnits,Jv,G6]
def zv.make{k:Nat}{A:Ac}(r:zv (k+1) A)(C:c7)(c:List c6)(d:List (j3×c6)):zv k (A.under (.builtin "type.__call__" ⟨.ref C::c,d⟩)) :=
 ⟨r.hd,by have:=r.dp; rw[cx]; lia,by have:=r.un; rw[cI]; lia,by first | exact r.gd | (rw[FW]; simpa [pushGuards,Code.guards,Jm,guardIds] using r.gd)⟩
def zv.depth{k:Nat}{A:Ac}(r:zv k A):A.depth<recursionLimit:=by have:=r.dp; lia
def zv.units{k:Nat}{A:Ac}(r:zv k A):A.units+64<cLine:=by have:=r.un; lia
def zv.units0{k:Nat}{A:Ac}(r:zv k A):A.units<cLine:=by have:=r.un; lia

def Tk:TA:=λ_ H Q=>Q [] H
def Vs(f:TE)(e:TA):TA:=λc H Q=>f c H λx h=>e c h λd g=>Q (x::d) g
section
variable{X:Cx}{e:Am}{es:List Am}{te:TE}{t:TA}{pos:DD}
def zM:PA X [] Tk:=λ_ _ _ _ H Q I h=>G7 ⟨[],H,I,.nil,h⟩
def zI(p:PE X e te)(o:PA X es t)(n:starEach (e::es) X.env=(JP,eval e X.env)::starEach es X.env:=by rfl):PA X (e::es) (Vs te t):=by
 intro pos d s c H Q I h;rw[n];show wpAny _ _ (spliced ((JP,eval e X.env)::backTo pos (starEach es X.env))) _ _ s;erw[GS (thn (p d s c H _ I h) λu g ⟨x,w,r,j,m⟩=>?_)];rwa[thn (o pos d g c w _ r m) λy z ⟨f,v,q,i,l⟩=>⟨x::f,v,q,.cons j i,l⟩]

def tTup(t:TA):TE:=λf H Q=>t f H λc d=>c.length<=sizeLine/\∀ p,d p=JN->Q (.ref p) (upd d p (.tup c))
def tLst(t:TA):TE:=λf H Q=>t f H λc d=>c.length<=sizeLine/\∀ p,d p=JN->Q (.ref p) (upd d p (.lst c))
def jY{x1}(h:PA X es t):PE X (.Tuple es x1 pos) (tTup t):=by
 intro n s g H Q I l;erw[wpAny_Tuple_spliced (thn (h pos n s g H _ I l) λj c ⟨i,f,d,r,z,q⟩=>⟨by rw[<- r.length]; exact z,?_⟩)];have m:f c.heap.objs.size=none:=d.hok.fresh (e8 _);erw[.ref c.heap.objs.size,upd f c.heap.objs.size (.tup i),d.laid (t':=c.toks) (λb u e=>c9 _ e) (e8 _) ?_,rfl,q _ m];rwa[z,j,r,⟨_,i8 _ rfl,rfl,_,rfl⟩]
def bW(h:PA X es t):PE X (.List es pos) (tLst t):=by
 intro n s g H Q I l;erw[wpAny_List_spliced (thn (h pos n s g H _ I l) λj c ⟨i,f,d,r,z,q⟩=>⟨by rw[<- r.length]; exact z,?_⟩)];have m:f c.heap.objs.size=none:=d.hok.fresh (e8 _);erw[.ref c.heap.objs.size,upd f c.heap.objs.size (.lst i),d.laid (t':=c.toks) (λb u e=>c9 _ e) (e8 _) ?_,rfl,q _ m];rwa[z,j,0,r,i8 _ rfl]
end

abbrev Sp:=List V->Hp->VK->XK->Prop
abbrev CXT:=List Ff->Hp->d7->XK->c6->d7->Prop

structure XO(P:m9)(w:r9)(K:c5)(mg:j3->Option c6)(base:w9)(A:Ac)(outer:List Ff)(s:d7)(H:Hp):Prop where
 frames:A.frames=O outer
 mod:Mod K mg base
 bs:∀ b o,base.get? b=O o->s.heap.get? b=O o/\H b=JN
 bsz:base.objs.size<=s.heap.objs.size
 funs:s.heap.FunFrames base outer
 frf:∀ b∈frs outer,H b=JN
 hok:HOk P w H s.heap
 bare:EG s.gens
def CE(outer:List Ff)(P:m9)(w:r9)(H:Hp)(s:d7)(Q:VK)(u:c6)(c:d7):Prop :=
 ∃ v d,c.os=s.os/\EG c.gens/\Un (frs outer) [] H d s.heap c.heap/\HOk P w d c.heap/\xJ v u/\Q v d
def CR(d:CXT)(outer:List Ff)(P:m9)(w:r9)(H:Hp)(s:d7)(Q:VK)(E:XK)(r:Result)(c:d7):Prop :=
 match r with
 | .ok (.ret u)=>CE outer P w H s Q u c
 | .ok _=>False
 | .error e=>d outer H s E e c
structure yQ(P:m9)(w:r9)(K:c5)(mg:j3->Option c6)(base:w9)(CX:CXT)(k:Nat)(f:c7)(fd:AJ)(ps:List j3)(sp:Sp):Prop where
 len:∀ vs H Q E,sp vs H Q E->vs.length=ps.length
 run:∀(A:Ac)(outer:List Ff)(s:d7)(H:Hp)(args:Args)(us:List c6)(vs:List V)(Q:VK)(E:XK),zv k A->XO P w K mg base A outer s H->FX s fd args (ps.zip us)->yN vs us->sp vs H Q E ->
  codeAny (model P w) A (.call (.ref f) args) (CR CX outer P w H s Q E) s
def XO.make{P:m9}{w:r9}{K:c5}{mg:j3->Option c6}{base:w9}{A:Ac}{outer:List Ff}{s:d7}{H:Hp}(e:XO P w K mg base A outer s H)(C:c7)(c:List c6)(d:List (j3×c6)) :
  XO P w K mg base (A.under (.builtin "type.__call__" ⟨.ref C::c,d⟩)) outer s H:=⟨by first | exact e.frames | (simpa [FW,Code.envs,G6,pushEnvs] using e.frames),e.mod,e.bs,e.bsz,e.funs,e.frf,e.hok,e.bare⟩
section
variable{X:Cx}{JQ:List (c7×By)}{σ:St}{H:Hp}{s s':d7}
def Inv.env0(I:Inv X JQ σ H s):XO X.prog X.w X.K X.mg X.base X.A X.stack s H :=
 ⟨I.ok.frames,I.ok.mod,I.bs,f9 I.ok.bsz I.sz,I.stack,I.stkFree,I.hok,I.bare⟩
def Inv.after{Q:VK}{u:c6}(I:Inv X JQ σ H s)(h:CE X.stack X.prog X.w H s Q u s'):EP X JQ σ Q u s':=by
 obtain⟨v,f,os,bare,un,hok,r,q⟩:=h;obtain⟨e,g,d,t,c⟩:=s';obtain rfl:c=s.os:=os;rwa[v,f,I.call (h':=e) (g':=g) (d':=d) (t':=t) (ch:=[]) un hok bare (λb z=>y9 z (by simp)),r,q]
end

def ap(sp:Sp)(c:List V)(E:XK)(t:TA):TE:=λd H Q=>t d H λe f=>sp (e++c) f Q E
def uh(K:c5)(fd:AJ)(d:List j3)(e:List c6):Prop :=
 ∀(s:d7)(c:List c6),K.In s.heap->(c++e).length=d.length->FX s fd ⟨c,[]⟩ (d.zip (c++e))
def uh.all{K:c5}{fd:AJ}{d:List j3}(h:∀ c:List c6,c.length=d.length->bindArgs fd ⟨c,[]⟩=pure (d.zip c)):uh K fd d []:=λs c _ e=>by
 rw[Cr] at e ⊢;rwa[.of_eq (h c e)]

def iX(g:CXT)(X:Cx)(E:XK):Prop:=∀(f:List (c7×By))(d:St)(H:Hp)(s:d7)(e:c6)(c:d7),Inv X f d H s->g X.stack H s E e c->X.xe e c

section
variable{X:Cx}{CX:CXT}{k:Nat}{f C:c7}{fd:AJ}{ps:List j3}{sp:Sp}{dvs:List V}{ds:List c6}{E:XK}{x m:j3}{p pos apos:DD}{e o:Am}{es:List Am}{ta:TE}{t:TA}

def jK{g:List (c7×By)}{d:St}{H:Hp}{s:d7}{Q:VK}{us:List c6}{vs:List V}(F:yQ X.prog X.w X.K X.mg X.base CX k f fd ps sp)(n:zv k X.A)(v:uh X.K fd ps ds)(hd:yN dvs ds)(l:iX CX X E)
  (I:Inv X g d H s) (r:yN vs us) (h:sp (vs++dvs) H Q E):wpAny (model X.prog X.w) X.A (call (.ref f) us) (EP X g d Q) X.xe s:=by
 have i:yN (vs++dvs) (us++ds):=r.append hd;have q:(us++ds).length=ps.length:=by rw[<- i.length]; rwa[F.len _ _ _ _ h]
 erw[Ip (codeAny_mono (F.run X.A X.stack s H ⟨us,[]⟩ (us++ds) (vs++dvs) Q E n I.env0 (v s us I.kIn q) i h) λr j c=>?_)];cases r with
 | error e=>rwa[l g d H s e j I c]
 | ok y =>
  cases y with
  | ret u=>rwa[I.after c]
  | next=>rwa[Bm c]
  | brk=>rwa[Bm c]
  | cont=>rwa[Bm c]

def WN(F:yQ X.prog X.w X.K X.mg X.base CX k f fd ps sp)(l:zv k X.A)(v:Gl X x)(n:X.mg x=O (.ref f))(u:AI X.K (.ref f)=JO)(z:uh X.K fd ps ds)(hd:yN dvs ds)(j:iX CX X E)
  (B:PA X (e::es) t) (d:(x ==("__debug__" : j3))=false:=by decide) (y:starEach (e::es) X.env=(JP,eval e X.env)::starEach es X.env:=by rfl) (c:(backTo pos (starEach es X.env)).any (·.1)=false:=by rfl) :
  PE X (.Call (.Name x p) (e::es) [] pos) (ap sp dvs E t):=by
 intro D s i H Q I h;erw[Ce (yw I v n ?_ d)];erw[DF (h₀:=X.base) I.ok.mod.kin u (thn (B pos D s i H _ I h) λJ L ⟨G,M,g,r,q⟩=>⟨g.kIn,?_⟩) y c];rwa[jK F l z hd j g r q]
def Xu(F:yQ X.prog X.w X.K X.mg X.base CX k f fd ps sp)(g:zv k X.A)(l:Gl X x)(i:X.mg x=O (.ref f))(j:AI X.K (.ref f)=JO)(n:uh X.K fd ps ds)(hd:yN dvs ds)(d:iX CX X E)
  (c:(x ==("__debug__" : j3))=false:=by decide):PE X (.Call (.Name x p) [] [] pos) (ap sp dvs E Tk):=by
 intro r s q H Q I h;erw[Ce (yw I l i ?_ c)];rwa[ED I.kIn j (jK (us:=[]) F g n hd d I .nil h)]

structure Mk(K:c5)(C f:c7):Prop where
 makes:Ia K C=JO
 init:AZ K (.ref C) "__init__" = O (O (.ref f))
 fn:G1 K (.ref f)=JO
 kp:AI K (.ref C)=JO

def ZT{j:List (c7×By)}{i:St}{H:Hp}{s:d7}{Q:VK}{us:List c6}{vs:List V}(M:Mk X.K C f)(F:yQ X.prog X.w X.K X.mg X.base CX k f fd ps sp)(D:zv (k+1) X.A)(J:uh X.K fd ps ds)(hd:yN dvs ds)
  (B:iX CX X E) (I:Inv X j i H s) (r:yN vs us)
  (h:∀ x d,H x=JN->H d=JN->d≠x->sp (.ref x::(vs++dvs)) (upd (upd H d (.own x)) x (.ins C d [])) (λv R=>v=.non/\Q (.ref x) R) E) :
  wpAny (model X.prog X.w) X.A (call (.ref C) us) (EP X j i Q) X.xe s:=by
 have n:=h (s.heap.objs.size+1) s.heap.objs.size (I.hok.fresh (Bb _)) (I.hok.fresh (e8 _)) (o9 (CK _));have g:=Inv.made (C:=C) I;have l:yN (V.ref (s.heap.objs.size+1)::(vs++dvs)) (j8 (s.heap.objs.size+1)::(us++ds)):=.cons rfl (r.append hd);have G:(j8 (s.heap.objs.size+1)::us++ds).length=ps.length:=by
  have e:=l.length;rw[F.len _ _ _ _ n] at e;rwa[e.symm]
 refine Ip (YO (f:=f) I.kIn M.makes M.init (beq_iff_eq.mp M.fn) (codeAny_mono (F.run _ X.stack _ _ ⟨j8 (s.heap.objs.size+1)::us,[]⟩ (j8 (s.heap.objs.size+1)::(us++ds)) _ _ E (D.make C us [])
  (g.env0.make C us []) (J _ (j8 (s.heap.objs.size+1)::us) g.kIn G) l n) λr q c=>?_))
 cases r with
 | error e=>rwa[B j i _ _ e q g c]
 | ok L =>
  cases L with
  | ret u =>
   obtain⟨v,S,P,y,N,z⟩:=g.after c;subst N;rwa[y,⟨V.ref (s.heap.objs.size+1),S,P,rfl,z⟩]
  | next=>rwa[Bm c]
  | brk=>rwa[Bm c]
  | cont=>rwa[Bm c]
end

section
variable{X:Cx}{CX:CXT}{k:Nat}{f C:c7}{fd:AJ}{ps ks:List j3}{sp:Sp}{E:XK}{x m:j3}{p pos apos kpos:DD}{e o:Am}{es:List Am}{kws:List Fl}{te ta:TE}{t tk:TA}{nm:Option j3}
structure KBinds(K:c5)(fd:AJ)(ps ks:List j3)(g:List c6->List c6->List c6)(gV:List V->List V->List V):Prop where
 to:∀(s:d7)(us ws:List c6),K.In s.heap->(g us ws).length=ps.length->FX s fd ⟨us,ks.zip ws⟩ (ps.zip (g us ws))
 rel:∀{vs:List V}{us:List c6}{zs:List V}{ws:List c6},yN vs us->yN zs ws->yN (gV vs zs) (g us ws)
variable{g:List c6->List c6->List c6}{gV:List V->List V->List V}
end

structure zK(N P:List j3)(sc:DL):Prop where
 kind:sc.kind=.function
 co:sc.isCoroutine=JP
 gen:sc.isGenerator=JP
 nd:N.Nodup
 pre:N.take P.length=P
 par:∀ x∈P,sc.names.lookup x=O .local\/sc.names.lookup x=O .cell
 nofree:∀ y∈sc.names,y.2≠.free

def ik{kindOf:j3->Option Dd}{x:j3} : ∀{binds:List (j3×c6)}{m:j3->Option c6},(∀ v,(x,v) ∉ binds)->bindL kindOf binds m x=m x
 | [],_,_=>rfl
 | (n,v)::r,m,h=>by
  unfold bindL;rw[ik λw c=>h w (Af _ c)];split
  ·have:x≠n:=by rintro rfl; rwa[h v Av]
   simp[this]
  ·rfl
def iJ{kindOf:j3->Option Dd}{x:j3} : ∀{binds:List (j3×c6)}{m:j3->Option c6},(∀ v,(x,v) ∉ binds)->bindC kindOf binds m x=m x
 | [],_,_=>rfl
 | (n,v)::r,m,h=>by
  unfold bindC;rw[iJ λw c=>h w (Af _ c)];split
  ·rfl
  ·have:x≠n:=by rintro rfl; rwa[h v Av]
   simp[this]
def iu{kindOf:j3->Option Dd}{x:j3}{v:c6} : ∀{P:List j3}{c:List c6}{i:Nat}{m:j3->Option c6},P.Nodup->P[i]?=O x->c[i]?=O v->kindOf x=O .local ->
  bindL kindOf (P.zip c) m x=O v
 | [],_,_,_,_,h,_,_=>by simp at h
 | _::_,[],_,_,_,_,h,_=>by simp at h
 | p::P,w::c,0,m,nd,h1,h2,d=>by
  simp at h1 h2; subst h1; subst h2;show bindL kindOf ((p,w)::P.zip c) m p=_;unfold bindL;rw[ik λv e=>(Ew.mp nd).1 (F7 e).1,y6 d];simp
 | p::P,w::c,i+1,m,nd,h1,h2,d=>by
  show bindL kindOf ((p,w)::P.zip c) m x=_;unfold bindL;exact iu (i:=i) (Ew.mp nd).2 (by simpa using h1) (by simpa using h2) d
def iW{kindOf:j3->Option Dd}{x:j3}{v:c6} : ∀{P:List j3}{c:List c6}{i:Nat}{m:j3->Option c6},P.Nodup->P[i]?=O x->c[i]?=O v->kindOf x≠O .local ->
  bindC kindOf (P.zip c) m x=O v
 | [],_,_,_,_,h,_,_=>by simp at h
 | _::_,[],_,_,_,_,h,_=>by simp at h
 | p::P,w::c,0,m,nd,h1,h2,d=>by
  simp at h1 h2; subst h1; subst h2;show bindC kindOf ((p,w)::P.zip c) m p=_;unfold bindC;rw[iJ λv e=>(Ew.mp nd).1 (F7 e).1,y4 d];simp
 | p::P,w::c,i+1,m,nd,h1,h2,d=>by
  show bindC kindOf ((p,w)::P.zip c) m x=_;unfold bindC;exact iW (i:=i) (Ew.mp nd).2 (by simpa using h1) (by simpa using h2) d

def kZ(N:List j3)(c:List V):St:=c.map O++Bc (N.length-c.length) JN

def cxOf(i:CXT)(P:m9)(w:r9)(K:c5)(mg:j3->Option c6)(base:w9)(N:List j3)(d:j3)(c:DL)(f:c7)(h:c6)(A:Ac)(outer:List Ff)(s:d7)(H:Hp)(E:XK):Cx where
 prog:=P
 w:=w
 K:=K
 mg:=mg
 base:=base
 A:=A.deeper (envOfC d c s.heap.objs.size f h)
 N:=N
 s₀:=s
 H₀:=H
 env:=envOfC d c s.heap.objs.size f h
 outer:=outer
 stack:=envOfC d c s.heap.objs.size f h::outer
 ex:=[]
 calm:=JO
 fn:=λ_=>JO
 pn:=[]
 xe:=λe j=>wpAny (model P w) (A.deeper (envOfC d c s.heap.objs.size f h)) (leaving (envOfC d c s.heap.objs.size f h) e) (λ_ g=>i outer H s E e g) (λl g=>i outer H s E l g) j

def eY{d:DL}{n:Nat}{x:j3}(h:d.names.lookup x=O .cell):∃ c,(cellsFrom n d.names []).lookup x=O c:=by
 have q:=FY d.names n [] (.inl h);rwa[j7.mp q]

def ar{Q:CXT}{P:m9}{w:r9}{K:c5}{mg:j3->Option c6}{base:w9}{N m:List j3}{g:j3}{d:DL}{f:c7}{G:c6}{A:Ac}{outer:List Ff}{s J:d7}{H:Hp}{E:XK}{I:List c6}{l:List V}
  (S:zK N m d) (hd:A.handled=JN) (j:XO P w K mg base A outer s H) (Z:l.length=m.length) (r:yN l I)
  (x:InCallC s s.heap.objs.size (bindL (envOfC g d s.heap.objs.size f G).kindOf (m.zip I) λ_=>JN) (cellsFrom (s.heap.objs.size+1) d.names []) (bindC (envOfC g d s.heap.objs.size f G).kindOf (m.zip I) λ_=>JN) J) :
  Inv (cxOf Q P w K mg base N g d f G A outer s H E) [] (kZ N l) H J:=by
 have T:m.length<=N.length:=by have:=congrArg Aq S.pre; rw[i7] at this; lia
 obtain⟨h1,Y,rfl,M⟩:=x.done;have o:∀ b:c7,b ∉ (cxOf Q P w K mg base N g d f G A outer s H E).ex:=λb z=>y9 (show b∈([]:List c7) from z) (by simp);refine⟨⟨j.mod,S.kind,U,U,e8 _,λy z c h1 h2=>?_,λy B=>?_,λy c _ h=>?_,λ_=>hd,Around.frames_deeper j.frames,.inr ⟨U,U⟩,λb z=>y9 z (o b),j.bs,j.bsz,λb _ _=>o b,λb z=>y9 z (o b),j.funs,j.frf⟩,
  rfl,j.bare,Un.kept M,⟨_,x.toInCall.ns,λi y v h1 h2 h3=>?_⟩,λy c h=>⟨_,x.cell y c h⟩,j.hok.fresh (e8 _),λy c h=>?_,λp D=>y9 (show p∈([]:List (c7×By)) from D) (by simp),j.hok.kept M,?_⟩
 ·rwa[name_of_addr x.apart (BY h1) (BY h2)]
 ·have B:d.names.lookup y=O .cell\/d.names.lookup y=O .free:=B;rcases B with B | B
  ·rwa[eY B]
  ·rwa[y9 rfl (S.nofree _ (BY B))]
 ·rwa[Bu (x.above y c (BY h))]
 ·have hi:i<l.length:=by
   unfold kZ at h2;by_cases hi:i<l.length
   ·rwa[hi]
   ·rw[v9 (by simpa using hi)] at h2;rw[FL] at h2;split at h2 <;> cases h2
  have X:l[i]?=O v:=by
   unfold kZ at h2;rw[At (by simpa using hi),d9] at h2;cases e:l[i]? with
   | none=>rw[e] at h2; cases h2
   | some a=>rw[e] at h2; cases h2; rfl
  obtain⟨u,L,R⟩:=r.get X;have D:m[i]?=O y:=by
   rw[<- S.pre,DA (by lia)]; rwa[h1]
  have C:m.Nodup:=by rw[<- S.pre]; rwa[S.nd.sublist (List.take_sublist _ _)]
  exists u,R;rcases S.par y (f7 D) with k | k
  ·rwa[.inl ⟨k,iu C D L k⟩]
  ·obtain⟨c,e⟩:=eY (n:=s.heap.objs.size+1) k;erw[.inr ⟨.inl k,c,e,?_⟩];have q:=x.cell y c e;rw[iW C D L (by show d.names.lookup y≠_; rw[k]; decide)] at q;rwa[q]
 ·rwa[j.hok.fresh (Bu (x.above y c (BY h)))]
 ·unfold kZ;show _=N.length;rw[f8,b7,BI];lia

def TH{M:CXT}{P:m9}{w:r9}{K:c5}{mg:j3->Option c6}{base:w9}{k:Nat}{f:c7}{j d:j3}{params:Arguments}{body:List Ar}{c:DL}{dV kV G pm g ct oc:c6}{an od:Option c7}
  {X:Array (Option c6)} {N L:List j3} {sp:Sp} (lk:K.lookup f=O ⟨oc,od,.func (Aw j d params body c dV kV G pm an g ct),X⟩) (hcd:De K g d=JO) (S:zK N L c)
  (len:∀ i H Q E,sp i H Q E->i.length=L.length)
  (p:∀(A:Ac)(outer:List Ff)(s:d7)(H:Hp)(i:List V)(Q:VK)(E:XK),zv k (A.deeper (envOfC d c s.heap.objs.size f g))->sp i H Q E ->
   ∃ t,PSs (cxOf M P w K mg base N d c f g A outer s H E) body t/\t { nx:=λ_ l=>Q .non l,rt:=Q } (kZ N i) H) :
  yQ P w K mg base M (k+1) f (Aw j d params body c dV kV G pm an g ct) L sp:=by
 refine⟨len,λA outer s H args us i Q E Z D hb r B=>?_⟩;have hl:=len _ _ _ _ B;have KX:K.In s.heap:=D.mod.kin.keeps λb o e=>(D.bs b o e).1;have Y:s.heap.NoLimit:=D.mod.nolimit.keeps λb o e=>(D.bs b o e).1;have m:∀ y∈L.zip us,c.names.lookup y.1=O .local\/(c.names.lookup y.1=O .cell/\((cellsFrom (s.heap.objs.size+1) c.names []).lookup y.1).isSome=JO):=λ⟨n,v⟩ hy=>by
  rcases S.par n (F7 hy).1 with q | q
  ·rwa[.inl q]
  ·rwa[.inr ⟨q,FY _ _ _ (.inl q)⟩]
 refine codeAny_call_function Z.depth (KX _ _ lk) rfl S.co S.gen rfl (PySem.W.codeRec_of KX hcd) (hb _ _ _ _ ?_);refine wpAny_newFunctionEnv_cells S.kind m λenv he s1 x=>?_;subst he;refine⟨Y.keeps x.toInCall.keep,codeAny_func ?_⟩;obtain⟨t,ht,hq⟩:=p A outer s H i Q E (Z.deeper _) B;have I:Inv (cxOf M P w K mg base N d c f g A outer s H E) [] (kZ N i) H s1:=ar S Z.hd D hl r x;refine BA (ht [] s1 (kZ N i) H _ I hq) (λfl R z=>?_) λe R z=>z;have C:∀{h:St}{l:Hp}{v:V}{u:c6},Inv (cxOf M P w K mg base N d c f g A outer s H E) [] h l R->xJ v u->Q v l->CE outer P w H s Q u R :=
  λ{h l v u} J T q=>⟨v,l,J.os,J.bare,J.base,J.hok,T,q⟩
 cases fl with
 | ret u =>
  obtain⟨v,h,l,J,T,q⟩:=z;rwa[C J T q]
 | next =>
  obtain⟨h,l,J,q⟩:=z;rwa[C (v:=V.non) (u:=AA) J rfl q]
 | brk =>
  obtain⟨_,_,_,q⟩:=z;rwa[Bm q]
 | cont =>
  obtain⟨_,_,_,q⟩:=z;rwa[Bm q]
end L2

namespace L2
section
variable{X:Cx}{x:j3}{p pos:DD}{e:Am}{es:List Am}{t:TA}{id T:String}{r:List V->Hp->VK->Prop}

def tCB(r:List V->Hp->VK->Prop)(t:TA):TE:=λc H Q=>t c H λd f=>r d f Q
def yG(y:uH X (.builtin id) r)(v:Gl X x)(u:X.mg x=JN)(o:bootBuiltins x=O (.builtin id))(z:PA X (e::es) t)(q:x ≠ "__name__" := by decide)(d:(x ==("__debug__" : j3))=false:=by decide)
  (w:starEach (e::es) X.env=(JP,eval e X.env)::starEach es X.env:=by rfl) (c:(backTo pos (starEach es X.env)).any (·.1)=false:=by rfl):PE X (.Call (.Name x p) (e::es) [] pos) (tCB r t):=by
 intro g s f H Q I h;erw[Ce (lN I v u o ?_ q d)];rwa[Hv (thn (z pos g s f H _ I h) λj l ⟨i,B,A,m,n⟩=>y g l f B i j Q A m n) w c]
def xF(y:uH X (.type T) r)(v:Gl X x)(u:X.mg x=JN)(o:bootBuiltins x=O (.type T))(z:PA X (e::es) t)(q:x ≠ "__name__" := by decide)(d:(x ==("__debug__" : j3))=false:=by decide)
  (w:starEach (e::es) X.env=(JP,eval e X.env)::starEach es X.env:=by rfl) (c:(backTo pos (starEach es X.env)).any (·.1)=false:=by rfl):PE X (.Call (.Name x p) (e::es) [] pos) (tCB r t):=by
 intro g s f H Q I h;erw[Ce (lN I v u o ?_ q d)];rwa[BZ (thn (z pos g s f H _ I h) λj l ⟨i,B,A,m,n⟩=>y g l f B i j Q A m n) w c]
end
end L2

namespace HT
open PySem PyProof.Rows

def lexLt:List Int->List Int->Bool
 | [],[]=>JP
 | [],_::_=>JO
 | _::_,[]=>JP
 | x::d,y::c=>if x=y then lexLt d c else decide (x<y)
def lexLt_cons(x y:Int)(d c:List Int):lexLt (x::d) (y::c)=if x=y then lexLt d c else decide (x<y):=rfl
def vx:lexLt [] []=false:=rfl
def wy(y:Int)(c:List Int):lexLt [] (y::c)=true:=rfl
def xc(x:Int)(c:List Int):lexLt (x::c) []=false:=rfl

def fO(A:Ac)(s:d7)(a:Int)(t:Ju)(c:Int)(u:Ju):∃ e,Eb A s (.int a t) (.int c u) e/\(e=JO↔a=c) :=
 ⟨(a == c),DG a t c u,by simp⟩
def dq(A:Ac)(s:d7)(a:Int)(t:Ju)(c:Int)(u:Ju)(prog:m9)(w:r9)(E:c6->d7->Prop)(Q:c6->d7->Prop)(h:Q (.bool (decide (a<c))) s) :
  wpAny (model prog w) A (richCompare .Lt (.int a t) (.int c u)) Q E s :=
 (JD h:wpAny (model prog w) A (compareOp .Lt (.int a t) (.int c u)) Q E s)

section
open PySem.SeqAt
open PySem.AutoSeq1 (wpAny_loadPart')
open PySem.MeetsSeq PySem.MeetsSeq2 PySem.MeetsSeq3

def tuple_lt_ints(l b:c7)(i f:Array c6)(n n2:Nat)(dd Q:Option c7)(X M:Array (Option c6))(ns J:List Int)(hi:BQ i.toList ns)(T:BQ f.toList J) :
  Meets (Di.«tuple.__lt__» ⟨[.ref l,.ref b],[]⟩)
   (λ_ R s=>s.heap.get? l=O { cls:=.type "tuple",dict:=dd,data:=.seq i n,slots:=X }/\s.heap.get? b=O { cls:=.type "tuple",dict:=Q,data:=.seq f n2,slots:=M } /\
    R (.ok (.ret (.bool (lexLt ns J)))) s) :=
 .of_wp λprog w A R s h=>by
  obtain⟨L,g,d,I,os⟩:=s; obtain⟨Z,hb,h⟩:=h;have f2:=AutoSeq1.sub_tuple_tuple;have z1:i.size=ns.length:=by rw[<- hi.length]; simp
  have z2:f.size=J.length:=by rw[<- T.length]; simp
  wp_walk using AD Z,AD hb,wpAny_forIn_list _ (λrest b N=>b.1=JN/\N=⟨L,g,d,I,os⟩/\∃(H G:List c6)(m o:List Int),rest=H.zip G /\
   BQ H m/\BQ G o/\m.length+f.size=o.length+i.size/\R (.ok (.ret (.bool (lexLt m o)))) ⟨L,g,d,I,os⟩) _
  case turn =>
   rintro⟨y,x⟩ rest b N ⟨C,rfl,H,G,m,o,p,B,r,j,z⟩;cases B with
   | nil=>rw[List.zip_nil_left] at p; cases p
   | cons a t E =>
    cases r with
    | nil=>rw[GT] at p; cases p
    | cons c u D =>
     rw[ES] at p;injection p with hyx hrest
     injection hyx with hy hx
     subst hy hx;rw[lexLt_cons] at z;simp only[i9] at j;obtain⟨e,he,v⟩:=fO A.in1 ⟨L,g,d,I,os⟩ a t c u;erw[b9 (he prog w _ _ ?_)];cases e with
     | true =>
      rw[y6 (v.mp rfl)] at z
      wp_walk
      rwa[rfl,rfl,_,_,_,_,hrest,E,D,by lia,z]
     | false =>
      rw[y4 (λq=>y9 (v.mpr q) l9)] at z;have P:=dq A.in1 ⟨L,g,d,I,os⟩ a t c u prog w
      wp_walk using P
      exact⟨_,U,by simpa using z⟩
  case fin =>
   rintro⟨b1,b2⟩ N ⟨C,rfl,H,G,m,o,p,B,r,j,z⟩;simp only at C;subst C;have S:lexLt m o=decide (i.size<f.size):=by
    cases B with
    | nil =>
     cases r with
     | nil =>
      simp only[AE] at j;rw[vx];exact(y8 (by lia)).symm
     | cons c u Y =>
      simp only[AE,i9] at j;rw[wy];exact(y7 (by lia)).symm
    | cons a t S =>
     cases r with
     | nil =>
      simp only[AE,i9] at j;rw[xc];exact(y8 (by lia)).symm
     | cons c u Y =>
      rw[ES] at p;cases p
   rw[S] at z
   wp_walk
   exact⟨_,U,by simpa [Hn] using z⟩
  case h =>
   rwa[rfl,rfl,i.toList,f.toList,ns,J,rfl,hi,T,by lia,h]
end

section
variable{prog:m9}{w:r9}{A:Ac}{E:c6->d7->Prop}{s:d7}

def lt_tupInts{l b:c7}{d c:Array c6}{ns e:List Int}{Q:c6->d7->Prop}(v:IsTup s.heap l d)(z:IsTup s.heap b c)(hi:BQ d.toList ns)(y:BQ c.toList e)
  (u:A.units<cLine) (h:Q (.bool (lexLt ns e)) s):wpAny (model prog w) A (compareOp .Lt (.ref l) (.ref b)) Q E s:=by
 obtain⟨⟨cls,B,data,r⟩,o,p,n,hd⟩:=id v;obtain⟨⟨q,m,data2,j⟩,f,i,n2,g⟩:=id z;simp only at p hd i g;subst p hd i g;exact richCompare_meets_room (op:=.Lt) ⟨_,o,rfl⟩ ⟨_,f,rfl⟩ DW FZ (FM _ _) (tuple_lt_ints l b d c n n2 B m r j ns e hi y)
  ⟨o,f,show EO (lexLt ns e)≠Value.notImplemented/\Q (.bool (lexLt ns e)) s from⟨(λx=>nomatch x),h⟩⟩ u

def sIx(n d:Nat):Option Int->Nat
 | none=>d
 | some v=>if v<0 then(v+(n:Int)).toNat else min v.toNat n
def sIx_nat(n d k:Nat):sIx n d (O (k:Int))=min k n:=by
 show(if (k:Int)<0 then((k:Int)+(n:Int)).toNat else min (k:Int).toNat n)=min k n;rw[y4 (by lia),Bq]
def TY(n d:Nat)(hd:d<=n)(o:Option Int):sIx n d o<=n:=by
 cases o with
 | none=>rwa[hd]
 | some v =>
  show(if v<0 then(v+(n:Int)).toNat else min v.toNat n)<=n;by_cases c:v<0
  ·rw[y6 c]; lia
  ·rw[y4 c]; rwa[Nat.min_le_right _ _]
def bM(v:Int)(n d:Nat):(if v<0 then max (v+(n:Int)) 0 else min v (n:Int))=((sIx n d (O v):Nat):Int):=by
 show(if v<0 then max (v+(n:Int)) 0 else min v (n:Int))=(((if v<0 then(v+(n:Int)).toNat else min v.toNat n):Nat):Int);by_cases c:v<0
 ·simp only[y6 c]; lia
 ·simp only[y4 c]; lia
def cY(lo hi:Option Int)(n:Nat):Dp lo hi 1 (n:Int)=(((sIx n 0 lo:Nat):Int),((sIx n n hi:Nat):Int)):=by
 have h1:¬ ((1:Int)<0):=by lia
 unfold Dp;simp only[h1,if_false];erw[G8 ?_ ?_]
 ·cases lo with
  | none=>rfl
  | some v=>rwa[bM v n 0]
 ·cases hi with
  | none=>rfl
  | some v=>rwa[bM v n n]
def cZ(i j:Nat):Co (i:Int) (j:Int) 1=j-i:=by
 unfold Co;have h1:(1:Int)>0:=by lia
 simp only[h1,if_true,Int.ediv_one];split <;> lia
def lH{v:c6}{o:Option Int}{Q:Option Int->d7->Prop}(p:GU v o)(h:Q o s):wpAny (model prog w) A (Ib v) Q E s:=by
 cases p with
 | none=>rwa[slicePart_none h]
 | int i t=>rwa[slicePart_int h]
def pB{g:c7}{f e:c6}{lo hi:Option Int}{n:Nat}{Q:Int×Int×Nat->d7->Prop}(l:s.heap.IsSliceOf g f e .none)(j:GU f lo)(i:GU e hi)
  (h:Q (((sIx n 0 lo:Nat):Int),1,sIx n n hi-sIx n 0 lo) s):wpAny (model prog w) A (ET (.ref g) (pure (n:Int))) Q E s:=by
 obtain⟨os,c,m,d⟩:=id l;unfold ET IL;erw[b9 (b9 (AO c d (x:=f) rfl (b9 (AO c d (x:=e) rfl (b9 (AO c d (x:=.none) rfl (e9 ?_)))))))];erw[b9 (slicePart_none ?_)];show wpAny _ _ (if ((1:Int) == 0)=JO then _ else _) _ _ s;rw[y4 (by decide)];erw[b9 (lH j (b9 (lH i (b9 (e9 ?_)))))];show wpAny _ _ (match Dp lo hi 1 (n:Int) with | (lo,hi)=>pure (lo,(1:Int),Co lo hi 1)) _ _ s;rw[cY lo hi n];show wpAny _ _ (pure (((sIx n 0 lo:Nat):Int),(1:Int),Co ((sIx n 0 lo:Nat):Int) ((sIx n n hi:Nat):Int) 1)) _ _ s;rw[cZ];rwa[e9 h]
def YR(c:Array c6)(i k:Nat):((Au k).filterMap λ(m:Nat)=>c[((i:Int)+(m:Int)*1).toNat]?).toArray=((c.toList.drop i).take k).toArray:=by
 have e:(λ(m:Nat)=>c[((i:Int)+(m:Int)*1).toNat]?)=λm=>c[i+m]?:=by
  funext m
  have:((i:Int)+(m:Int)*1).toNat=i+m:=by lia
  rw[this]
 rw[e];have:=pick_run c i k;rw[List.filterMap_map] at this;have d:((λx=>c[x]?) ∘ λx=>i+x)=λm=>c[i+m]?:=rfl;rw[d] at this;rw[this]

def getItem_tuple_cut{t f:c7}{c:Array c6}{o n:c6}{lo hi:Option Int}{Q:c6->d7->Prop}(e:IsTup s.heap t c)(p:s.heap.IsSliceOf f o n .none)(u:GU o lo)(r:GU n hi)
  (v:¬ (sIx c.size 0 lo=0/\sIx c.size c.size hi=c.size))
  (h:Q (.ref s.heap.objs.size) { s with heap:=s.heap.push { cls:=.type "tuple",data:=.seq ((c.toList.drop (sIx c.size 0 lo)).take (sIx c.size c.size hi-sIx c.size 0 lo)).toArray } })
  (x:c.size<=sizeLine):wpAny (model prog w) A (getItem (.ref t) (.ref f)) Q E s:=by
 have d:sizeOk (.seq ((c.toList.drop (sIx c.size 0 lo)).take (sIx c.size c.size hi-sIx c.size 0 lo)).toArray):=by
  show((c.toList.drop (sIx c.size 0 lo)).take (sIx c.size c.size hi-sIx c.size 0 lo)).toArray.size<=sizeLine;rw[g6,i7,x5,g8];lia
 have C:sIx c.size c.size hi<=c.size:=TY _ _ (e8 _) hi;obtain⟨os,g,j,y⟩:=id p;have l:s.TypeIs (.ref f) "slice" :=⟨os,g,j⟩;unfold getItem
 try with_reducible refine Ca ?_
 first | refine b9 (e9 ?_) | skip
 refine b9 (wpAny_sequenceKey e.typeIs (by decide) ?_);refine b9 (AY (name:=B6 "__getitem__") e.typeIs CD
  (Bj CD e.typeIs entry_tuple_getitem ?_ (args_tuple_getitem _ _)))
 show wpAny _ _ (Iq (.ref t) >>= _) _ _ s;refine b9 (tupleItemsOf_ e ?_);refine b9 (wpAny_typeOf l ?_);rw[y6 (by decide)];refine b9 (pB p u r ?_);have i:¬ ((((sIx c.size 0 lo:Nat):Int) == 0&&(1:Int) == 1&&(sIx c.size c.size hi-sIx c.size 0 lo) == c.size)=JO):=by
  intro q;rw[AT,AT] at q;have B:((sIx c.size 0 lo:Nat):Int)=0:=eq_of_beq q.1.1;have z:sIx c.size c.size hi-sIx c.size 0 lo=c.size:=eq_of_beq q.2;rwa[v ⟨by lia,by lia⟩]
 show wpAny _ _ (if (((sIx c.size 0 lo:Nat):Int) == 0&&(1:Int) == 1&&(sIx c.size c.size hi-sIx c.size 0 lo) == c.size)=JO then _ else _) _ _ s;rw[y4 i,YR]
 first
  | exact b9 (m:=Cw _) (Ak (e9 ⟨_,rfl,e9 h⟩) d)
  | exact b9 (m:=Cw _) (Ak (b9 (e9 (e9 ⟨_,rfl,e9 h⟩))) d)
  | exact b9 (b9 (m:=Cw _) (Ak (e9 (e9 ⟨_,rfl,e9 h⟩)) d))
  | exact b9 (b9 (m:=Cw _) (Ak (e9 ⟨_,rfl,e9 h⟩) d))
end
end HT

namespace L2

abbrev TO:=St->Hp->(Option Int->Hp->Prop)->Prop
def PO(X:Cx)(e:Option Am)(t:TO):Prop :=
 ∀(d:List (c7×By))(s:d7)(c:St)(H:Hp)(Q:Option Int->Hp->Prop),Inv X d c H s->t c H Q ->
  wpAny (model X.prog X.w) X.A (evalPart e X.env) (λu g=>∃ o f,Inv X d c f g/\GU u o/\Q o f) X.xe s
def WL:TO:=λ_ H Q=>Q JN H
def tPart(t:TE):TO:=λc H Q=>t c H λx d=>∃ i,x=.int i/\Q (O i) d

def tI{ns:List Int} : ∀{c:List c6},yN (ns.map V.int) c->BQ c ns:=by
 induction ns with
 | nil=>intro c r; rw[Dk] at r; cases r; rwa[.nil]
 | cons n ns g =>
  intro c r;rw[i5] at r;cases r with
  | cons f d =>
   obtain⟨t,e⟩:=f;subst e;rwa[.cons n t (g d)]

section
variable{X:Cx}{e:Am}{te:TE}{lo hi:Option Am}{tl th:TO}{pos p2:DD}

def zn:PO X JN WL:=by
 intro d s c H Q I h;rw[evalPart_none];rwa[e9 ⟨JN,H,I,.none,h⟩]
def sX(h:PE X e te):PO X (O e) (tPart te):=by
 intro j s c H Q I g;rw[evalPart_some];erw[thn (h j s c H _ I g) λu n ⟨x,m,l,d,f⟩=>?_];obtain⟨i,rfl,q⟩:=f;obtain⟨t,rfl⟩:=d;rwa[O i,m,l,.int i t,q]

def SlR(X:Cx)(r:V->Option Int->Option Int->Hp->VK->Prop):Prop :=
 ∀(h:List (c7×By))(s:d7)(c:St)(H:Hp)(x:V)(v f d:c6)(lo hi:Option Int)(g:c7)(Q:VK),Inv X h c H s->xJ x v->s.heap.IsSliceOf g f d .none->GU f lo->GU d hi->r x lo hi H Q ->
  ∃ T id,typeLookup (.type T) "__getitem__" = pure (O (.builtin id))/\s.TypeIs v T/\wpAny (model X.prog X.w) X.A (getItem v (.ref g)) (EP X h c Q) X.xe s
def tSl(r:V->Option Int->Option Int->Hp->VK->Prop)(te:TE)(tl th:TO):TE:=λc H Q=>te c H λx g=>tl c g λl f=>th c f λu d=>r x l u d Q
def tG{r:V->Option Int->Option Int->Hp->VK->Prop}(G:SlR X r)(M:PE X e te)(J:PO X lo tl)(D:PO X hi th):PE X (.Subscript e (.Slice lo hi JN p2) pos) (tSl r te tl th):=by
 intro f s d H Q I h;erw[Ir (thn (M f s d H _ I h) λv n ⟨x,H1,Y,o,z⟩=>?_)];erw[wpAny_Slice (thn (J f n d H1 _ Y z) λi m ⟨l,Z,S,C,y⟩=>thn (D f m d Z _ S y) λg c ⟨u,j,R,B,p⟩=>?_)];rw[evalPart_none];erw[e9 ?_];have P:Inv X f d j { c with heap:=c.heap.push { cls:=.type "slice",data:=.fields #[i,g,.none] } }:=R.kept (t':=c.toks) λb ob q=>c9 _ q;obtain⟨T,id,N,E,L⟩:=G f { c with heap:=c.heap.push { cls:=.type "slice",data:=.fields #[i,g,.none] } } d j x v i g l u c.heap.objs.size Q P o (JF ..) C B p;show wpAny (model X.prog X.w) X.A (subscriptTail e (.Slice lo hi JN p2) v (.ref c.heap.objs.size)) (EP X f d Q) X.xe { c with heap:=c.heap.push { cls:=.type "slice",data:=.fields #[i,g,.none] } };rwa[tail_any (ops:=[.ref c.heap.objs.size,v]) E N L (by with_unfolding_all rfl)]

def qy(c:List V)(lo hi:Option Int):List V:=(c.drop (HT.sIx c.length 0 lo)).take (HT.sIx c.length c.length hi-HT.sIx c.length 0 lo)
def oC(c:List V)(lo hi:Option Int):(qy c lo hi).length<=c.length:=by
 unfold qy;rw[i7,x5];lia
def rSlT(K:c5):V->Option Int->Option Int->Hp->VK->Prop:=λx lo hi H Q=>E2 λa c=>A4 (x=.ref a) (SqT K H a c) (¬ (HT.sIx c.length 0 lo=0/\HT.sIx c.length c.length hi=c.length)) (∀ p,H p=JN->Q (.ref p) (upd H p (.tup (qy c lo hi))))
def hX:SlR X (rSlT X.K):=by
 intro B s w H x v z y lo hi A Q I j u m l h;obtain⟨a,d,rfl,n,p,q⟩:=h;cases j;obtain⟨f,r,i,g⟩:=I.tuple n;have c:f.toArray.size=d.length:=by rw[g6]; rwa[r.length.symm]
 exists "tuple",_,CD.lookup,i.typeIs;erw[HT.getItem_tuple_cut i u m l (by rw[c]; rwa[p]) ?_ (by rw[c]; rwa[g])];rw[c];erw[.ref s.heap.objs.size,_,I.laid (t':=s.toks) (o:=.tup (qy d lo hi)) (λb ob q=>c9 _ q) (e8 _) ?_,rfl,q _ (I.hok.fresh (e8 _))];rwa[f9 (oC d lo hi) g,_,(r.drop (HT.sIx d.length 0 lo)).take (HT.sIx d.length d.length hi-HT.sIx d.length 0 lo),Ht _ _]

end
end L2

namespace L2

def ixN(n:Nat)(i:Int):Option Nat:=if 0<=i then(if i<n then O i.toNat else JN) else if -(n:Int)<=i then O (i+n).toNat else JN
def atI{c:Type}(d:List c)(i:Int):Option c:=(ixN d.length i).bind λj=>d[j]?
def Zi{n:Nat}{i:Int}{j:Nat}(h:ixN n i=O j):seqIndex? i n=O j/\j<n/\-(n:Int)<=i/\i<n:=by
 unfold ixN at h;by_cases h0:0<=i
 ·rw[y6 h0] at h;by_cases h1:i<n
  ·rw[y6 h1] at h;have e:i.toNat=j:=t7 h;rwa[by rw[seqIndex_of h0 h1,e],by lia,by lia,h1]
  ·rw[y4 h1] at h; cases h
 ·rw[y4 h0] at h;by_cases h1 : -(n:Int)<=i
  ·rw[y6 h1] at h;have e:(i+n).toNat=j:=t7 h;rwa[by rw[seqIndex_neg (by lia) h1,e],by lia,h1,by lia]
  ·rw[y4 h1] at h; cases h
def fe{d:Type}{c:List d}{i:Int}{v:d}(h:atI c i=O v):∃ j,seqIndex? i c.length=O j/\c[j]?=O v/\j<c.length/\-(c.length:Int)<=i/\i<c.length:=by
 unfold atI at h;cases e:ixN c.length i with
 | none=>rw[e] at h; cases h
 | some j =>
  rw[e] at h;obtain⟨h1,h2,h3,h4⟩:=Zi e;rwa[j,h1,h,h2,h3,h4]
def qB{c:Type}{xs:List c}{j:Nat}{v:c}(h:xs[j]?=O v):atI xs (j:Int)=O v:=by
 have d:j<xs.length:=(d8.mp h).1;have e:ixN xs.length (j:Int)=O j:=by
  unfold ixN;rw[y6 (by lia),y6 (by lia)]; simp
 unfold atI; rw[e]; rwa[h]
def fM{d:Type}(c:List d)(v:d):atI (c++[v]) (-1)=O v:=by
 have f:(c++[v]).length=c.length+1:=by simp
 have e:ixN (c++[v]).length (-1)=O c.length:=by
  unfold ixN;rw[f,y4 (by decide),y6 (by lia)]
  congr 1
  lia
 unfold atI;rw[e];show(c++[v])[c.length]?=O v;simp

def Zd(b:Am):Prop:=∀ o i,subscripted b JP o i=operate [o,i] (getItem o i)
def IxR(X:Cx)(r:R2):Prop :=
 ∀(value slice:Am)(d:List (c7×By))(s:d7)(c:St)(H:Hp)(x y:V)(v u:c6)(Q:VK),Inv X d c H s->xJ x v->xJ y u->r x y H Q ->
  subscripted slice JP v u=operate [v,u] (getItem v u)->wpAny (model X.prog X.w) X.A (subscriptTail value slice v u) (EP X d c Q) X.xe s
def MtR(X:Cx)(id:String)(r:V->List V->Hp->VK->Prop):Prop :=
 ∀(f:List (c7×By))(s:d7)(c:St)(H:Hp)(x:V)(d:List V)(v:c6)(e:List c6)(Q:VK),Inv X f c H s->xJ x v->yN d e->r x d H Q ->
  wpAny (model X.prog X.w) X.A (call (.builtin id) (v::e)) (EP X f c Q) X.xe s
section
variable{X:Cx}{a b:Am}{ta tb:TE}{pos:DD}
def bu{r:R2}(i:IxR X r)(l:PE X a ta)(j:PE X b tb)(g:Zd b):PE X (.Subscript a b pos) (tOp r ta tb):=by
 intro m s c H Q I h;rwa[Ir (Sj l j I h λv u d x y o n f e q=>i a b m d c o x y v u Q n f e q (g _ _))]

def rIxL(K:c5):R2:=λx y H Q=>E4 λp c i v=>A5 (x=.ref p) (y=.int i) (SqL K H p c) (atI c i=O v) (Q v H)
def rIxT(K:c5):R2:=λx y H Q=>E4 λp c i v=>A5 (x=.ref p) (y=.int i) (SqT K H p c) (atI c i=O v) (Q v H)
def rIxS:R2:=λx y H Q=>E3 λz i c=>A5 (x=.str z) (y=.int i) (z.length<=sizeLine) (atI z.cps.toList i=O c) (Q (.str ⟨#[c]⟩) H)
def VU:IxR X (rIxL X.K):=by
 intro value slice o s l H x y v u Q I C B h m;obtain⟨p,J,i,z,rfl,rfl,D,G,q⟩:=h;cases C;obtain⟨t,rfl⟩:=B;obtain⟨f,r,e,L⟩:=I.list D;obtain⟨j,h1,h2,h3,h4,h5⟩:=fe G;obtain⟨w,n,d⟩:=r.get h2;have E:=r.length;have M:=lF;have c:EP X o l Q w s:=⟨z,H,I,d,q⟩;by_cases h0:0<=i
 ·have g:i.toNat=j:=by
   rw[seqIndex_of h0 h5] at h1;rwa[t7 h1]
  exact item_listR e.isList h0 (by lia) (by rw[g]; simpa using n) c m
 ·have g:(i+(f.toArray.size:Int)).toNat=j:=by
   rw[seqIndex_neg (by lia) h4] at h1;rw[g6,<- E];rwa[t7 h1]
  exact subscriptTail_builtinR (x:=w) e.isList.typeIs slot_list_getitem.lookup
   (wpAny_getItem_list_neg (Q:=λr A=>r=w/\EP X o l Q r A) e.isList (by lia) (by rw[g6] <;> lia) (by lia) (by rw[g]; simpa using n) ⟨rfl,c⟩) m
def Tp:IxR X (rIxT X.K):=by
 intro value slice g s e H x y v u Q I n m h A;obtain⟨p,G,i,z,rfl,rfl,B,D,q⟩:=h;cases n;obtain⟨t,rfl⟩:=m;obtain⟨o,r,f,J⟩:=I.tuple B;obtain⟨j,h1,h2,h3,h4,h5⟩:=fe D;obtain⟨w,E,c⟩:=r.get h2;have C:=r.length;have L:=lF;have d:EP X g e Q w s:=⟨z,H,I,c,q⟩;exact subscriptTail_builtinR (x:=w) f.typeIs slot_tuple_getitem.lookup
  (getItem_tuple (j:=j) (Q:=λr l=>r=w/\EP X g e Q r l) f (by lia) (by lia) (by rw[g6,<- C]; rwa[h1]) (by simpa using E) ⟨rfl,d⟩) A
def Wy:IxR X rIxS:=by
 intro value slice A s o H x y v u Q I e d h f;obtain⟨z,i,c,rfl,rfl,r,l,q⟩:=h;obtain⟨t,rfl⟩:=e;obtain⟨p,rfl⟩:=d;obtain⟨j,h1,h2,h3,h4,h5⟩:=fe l;have g:z.cps.toList.length=z.length:=by simp[Str.length]
 rw[g] at h1 h4 h5;have w:=lF;exact tail_any (typeIs_str s z t) slot_str_getitem.lookup (getItem_str (c:=c) (by
  have n:decide (i < -(2^63:Int))=false:=y8 (by lia);have m:decide (i >= 2^63)=false:=y8 (by lia);rw[n,m,Bool.or_false]) (by rw[h1]; simpa using h2) ⟨.str ⟨#[c]⟩,H,I.tok _,⟨_,rfl⟩,q⟩) f
def cM(c:List c6)(n j:Nat)(u:c6):AB (·.setIfInBounds j u) { cls:=.type "list",data:=.seq c.toArray n }={ cls:=.type "list",data:=.seq (c.set j u).toArray n }:=by
 simp[AB]
def Inv.lst{g:List (c7×By)}{f:St}{H:Hp}{s:d7}{p:c7}{d:List V}(I:Inv X g f H s)(h:H p=O (.lst d)) :
  ∃(c:List c6)(n:Nat),yN d c/\s.heap.get? p=O { cls:=.type "list",data:=.seq c.toArray n }/\d.length<=sizeLine:=by
 obtain⟨z,c,n,r,e⟩:=I.hok p _ h;rwa[c,n,r,e,z]
def Inv.lstUpd{m:List (c7×By)}{j:St}{H:Hp}{s:d7}{p:c7}{o g:List V}{d c:List c6}{n i:Nat}{f:By->By}(I:Inv X m j H s)(h:H p=O (.lst o))
  (w:s.heap.get? p=O { cls:=.type "list",data:=.seq d.toArray n }) (l:f { cls:=.type "list",data:=.seq d.toArray n }={ cls:=.type "list",data:=.seq c.toArray i }) (r:yN g c) (v:g.length<=sizeLine) (t:Nat) :
  Inv X m j (upd H p (.lst g)) { s with heap:=s.heap.update p f,toks:=t }:=by
 have e:(s.heap.update p f).get? p=O { cls:=.type "list",data:=.seq c.toArray i }:=by
  rw[Cn f w (by rw[l] <;> rfl),l]
 erw[I.write (x:=p) (e:=p) (by rw[h]; trivial) (.inl rfl) (λb u y q=>(AK _ _ (AR y)).trans q) ⟨_,e⟩ ?_];rwa[v,c,i,r,e]
def rSetL:V->V->V->Hp->(Hp->Prop)->Prop:=λo i v H Q=>E4 λp c k j=>A5 (o=.ref p) (i=.int k) (H p=O (.lst c)) (ixN c.length k=O j) (Q (upd H p (.lst (c.set j v))))
def YL:PSet X rSetL:=by
 intro C s m H o i v D E u Q I y z x h;obtain⟨p,w,k,j,rfl,rfl,g,B,q⟩:=h;cases y;obtain⟨t,rfl⟩:=z;obtain⟨c,n,r,d,A⟩:=I.lst g;obtain⟨h1,h2,h3,h4⟩:=Zi B;have e:=r.length;have G:=lF;have l:Inv X C m (upd H p (.lst (w.set j v))) { s with heap:=s.heap.update p (AB (·.setIfInBounds j u)) } :=
  I.lstUpd g d (cM c n j u) (r.set x j) (by rw[Ex]; rwa[A]) s.toks
 by_cases h0:0<=k
 ·have f:k.toNat=j:=by
   rw[seqIndex_of h0 h4] at h1;rwa[t7 h1]
  rwa[PySem.W.ki_setAt d h0 (by lia) (by rw[g6,<- e]; exact h4) (by rw[f]; exact⟨_,l,q⟩)]
 ·have f:(k+(c.toArray.size:Int)).toNat=j:=by
   rw[seqIndex_neg (by lia) h3] at h1;rw[g6,<- e];rwa[t7 h1]
  rwa[PySem.W.ki_setBack d (by lia) (by rw[g6,<- e]; exact h3) (by lia) (by rw[f]; exact⟨_,l,q⟩)]

def iP(lo hi:Option Int)(n:Nat):(sliceBounds lo hi JN n).1=((HT.sIx n 0 lo:Nat):Int)/\(sliceBounds lo hi JN n).2.1=((HT.sIx n n hi:Nat):Int)/\(sliceBounds lo hi JN n).2.2=1:=by
 erw[?_,?_,rfl]
 ·cases lo with
  | none=>simp[sliceBounds,HT.sIx]
  | some i =>
   simp only[sliceBounds,HT.sIx,Hw,show(1:Int)>0 by decide,if_true];by_cases h:i<0
   ·simp only[h,if_true] <;> lia
   ·simp only[h,if_false] <;> lia
 ·cases hi with
  | none=>simp[sliceBounds,HT.sIx]
  | some i =>
   simp only[sliceBounds,HT.sIx,Hw,show(1:Int)>0 by decide,if_true];by_cases h:i<0
   ·simp only[h,if_true] <;> lia
   ·simp only[h,if_false] <;> lia
def kN(c:List c6)(lo hi:Option Int):slicePick c.toArray lo hi JN=((c.drop (HT.sIx c.length 0 lo)).take (HT.sIx c.length c.length hi-HT.sIx c.length 0 lo)).toArray:=by
 obtain⟨h1,h2,h3⟩:=iP lo hi c.toArray.size;unfold slicePick;rw[h1,h2,h3];simp only[sliceRange_one,pick_run,g6] <;> rfl
def rSlL(K:c5):V->Option Int->Option Int->Hp->VK->Prop:=λx lo hi H Q=>E2 λa c=>A3 (x=.ref a) (SqL K H a c) (∀ p,H p=JN->Q (.ref p) (upd H p (.lst (qy c lo hi))))
def Zq:SlR X (rSlL X.K):=by
 intro z s p H x v w u lo hi y Q I f n i g h;obtain⟨a,c,rfl,m,q⟩:=h;cases f;obtain⟨j,r,e,l⟩:=I.list m;have d:=r.length;exists "list",_,slot_list_getitem.lookup,e.isList.typeIs;erw[wpAny_getItem_list_slice e.isList n i g .none (by simp) ?_ (by rw[g6] <;> lia)];rw[kN,<- d];erw[.ref s.heap.objs.size,_,I.laid (t':=s.toks) (o:=.lst (qy c lo hi)) (λb ob q=>c9 _ q) (e8 _) ?_,rfl,q _ (I.hok.fresh (e8 _))];rwa[f9 (oC c lo hi) l,_,0,(r.drop (HT.sIx c.length 0 lo)).take (HT.sIx c.length c.length hi-HT.sIx c.length 0 lo),i8 _ rfl]

def kR:V->Bool
 | .non=>JO
 | .bl _=>JO
 | .int _=>JO
 | .str _=>JO
 | _=>JP
def eqV:V->V->Bool
 | .non,.non=>JO
 | .bl a,.bl b=>a == b
 | .bl a,.int b=>(if a then 1 else 0) == b
 | .int a,.bl b=>a ==(if b then 1 else 0)
 | .int a,.int b=>a == b
 | .str a,.str b=>a == b
 | _,_=>JP
def Tb{A:Ac}{s:d7}{y x:V}{u v:c6}(e:xJ y u)(c:xJ x v)(g:kR y=JO)(f:kR x=JO):Eb A s u v (eqV y x):=by
 cases y with
 | non =>
  cases e;cases x with
  | non=>cases c; rwa[F8 _]
  | bl b=>cases c; rwa[SeqAt.EqAt.none_bool b]
  | int b=>obtain⟨t,rfl⟩:=c; rwa[SeqAt.EqAt.none_int b t]
  | str b=>obtain⟨t,rfl⟩:=c; rwa[SeqAt.EqAt.none_str b t]
  | _=>exact y9 (show JP=JO from f) l9
 | bl a =>
  cases e;cases x with
  | non=>cases c; rwa[SeqAt.EqAt.bool_none a]
  | bl b=>cases c; rwa[SeqAt.EqAt.bool_bool a b]
  | int b=>obtain⟨t,rfl⟩:=c; rwa[SeqAt.EqAt.bool_int a b t]
  | str b=>obtain⟨t,rfl⟩:=c; rwa[SeqAt.EqAt.bool_str a b t]
  | _=>exact y9 (show JP=JO from f) l9
 | int a =>
  obtain⟨d,rfl⟩:=e;cases x with
  | non=>cases c; rwa[SeqAt.EqAt.int_none a d]
  | bl b=>cases c; rwa[SeqAt.EqAt.int_bool a d b]
  | int b=>obtain⟨t,rfl⟩:=c; rwa[DG a d b t]
  | str b=>obtain⟨t,rfl⟩:=c; rwa[GN a d b t]
  | _=>exact y9 (show JP=JO from f) l9
 | str a =>
  obtain⟨d,rfl⟩:=e;cases x with
  | non=>cases c; rwa[SeqAt.EqAt.str_none a d]
  | bl b=>cases c; rwa[SeqAt.EqAt.str_bool a d b]
  | int b=>obtain⟨t,rfl⟩:=c; rwa[GO a d b t]
  | str b=>obtain⟨t,rfl⟩:=c; rwa[GV a d b t]
  | _=>exact y9 (show JP=JO from f) l9
 | _=>exact y9 (show JP=JO from g) l9
def eqU(x:V)(u:c6):Bool:=match u with
 | .none=>eqV .non x
 | .bool b=>eqV (.bl b) x
 | .int i _=>eqV (.int i) x
 | .str z _=>eqV (.str z) x
 | _=>JP
def Wi{x y:V}{u:c6}(r:xJ y u)(f:kR y=JO):eqU x u=eqV y x:=by
 cases y with
 | non=>cases r; rfl
 | bl b=>cases r; rfl
 | int i=>obtain⟨t,rfl⟩:=r; rfl
 | str z=>obtain⟨t,rfl⟩:=r; rfl
 | _=>exact y9 (show JP=JO from f) l9
def gj{x:V} : ∀{c:List V}{d:List c6},yN c d->c.all kR=JO->d.any (eqU x)=c.any λy=>eqV y x
 | _,_,.nil,_=>rfl
 | y::c,u::d,.cons r t,f=>by
  rw[Ei,AT] at f;rw[Cy,Cy,Wi r f.1,gj t f.2]
def kU{A:Ac}{s:d7}{x:V}{v:c6}(g:xJ x v)(h:kR x=JO):∀{d:List V}{e:List c6},yN d e->d.all kR=JO->∀ u∈e,Eb A s u v (eqU x u)
 | _,_,.nil,_=>λu c=>by cases c
 | y::d,u::e,.cons r t,f=>λi c=>by
  rw[Ei,AT] at f;rcases o0.mp c with rfl | c
  ·rw[Wi r f.1]; rwa[Tb r g f.1 h]
  ·rwa[kU g h t f.2 i c]
def inV(x:V)(c:List V):Bool:=c.any λy=>eqV y x
def rIn(K:c5)(neg:Bool):R2:=λx y H Q=>E2 λp c=>A5 (y=.ref p) (SqL K H p c\/SqT K H p c) (kR x=JO) (c.all kR=JO) (Q (.bl (if neg then !inV x c else inV x c)) H)
def iG:OpR X (compareOp .In) (rIn X.K JP):=by
 intro o s m H x y v u Q I g j h;obtain⟨p,n,rfl,d,i,fs,q⟩:=h;cases j;rcases d with d | d
 ·obtain⟨c,r,e,l⟩:=I.list d;refine SeqAt.in_listAt (eqU x) e.isList (λw f=>kU g i r fs w (by simpa using f)) ⟨.bl _,H,I,rfl,?_⟩;rw[show c.toArray.any (eqU x)=c.any (eqU x) by simp,gj r fs];rwa[q]
 ·obtain⟨c,r,e,l⟩:=I.tuple d;refine SeqAt.in_tupleAt (eqU x) e (λw f=>kU g i r fs w (by simpa using f)) ⟨.bl _,H,I,rfl,?_⟩;rw[show c.toArray.any (eqU x)=c.any (eqU x) by simp,gj r fs];rwa[q]
def yq:uH X (.builtin "len") (λj H Q=>E2 λp d=>A3 (j=[.ref p]) (SqL X.K H p d\/SqT X.K H p d) (Q (.int d.length) H)):=by
 intro w s n H j o Q I r h;obtain⟨p,d,rfl,e,q⟩:=h;obtain⟨u,rfl,l⟩:=oJ r;cases l;have v:=lF;rcases e with e | e
 ·obtain⟨i,f,g,m⟩:=I.list e;have c:=f.length;rwa[Calls.call_len_list g.isList (by simp only[g6] <;> lia) ⟨.int d.length,H,I.tok _,⟨s.toks+1,by rw[g6,c]⟩,q⟩]
 ·obtain⟨i,f,g,m⟩:=I.tuple e;have c:=f.length;rwa[len_tuple g (by simp only[g6] <;> lia) ⟨.int d.length,H,I.tok _,⟨s.toks+1,by rw[g6,c]⟩,q⟩]
def qr:uH X (.builtin "len") (λc H Q=>∃ z,A3 (c=[.str z]) (z.length<=sizeLine) (Q (.int z.length) H)):=by
 intro i s d H c e Q I r h;obtain⟨z,rfl,f,q⟩:=h;obtain⟨u,rfl,t,rfl⟩:=oJ r;have g:=lF;rwa[len_str (by lia) ⟨.int z.length,H,I.tok _,⟨_,rfl⟩,q⟩]
def uH.or{f:c6}{r i:List V->Hp->VK->Prop}(h:uH X f r)(l:uH X f i):uH X f (λc H Q=>r c H Q\/i c H Q):=by
 intro j s d H c e Q I g q;rcases q with q | q
 ·rwa[h j s d H c e Q I g q]
 ·rwa[l j s d H c e Q I g q]
def qi:uH X (.type "list") (λB H Q=>E2 λp f=>A3 (B=[.ref p]) (SqL X.K H p f\/SqT X.K H p f) (∀ l,H l=JN->Q (.ref l) (upd H l (.lst f)))):=by
 intro G s D H B J Q I r h;obtain⟨p,f,rfl,m,q⟩:=h;obtain⟨u,rfl,E⟩:=oJ r;cases E;have x:∀(c:List c6),yN f c->f.length<=sizeLine->∀(d:w9)(i:Nat),(∀ b C,s.heap.get? b=O C->d.get? b=O C) ->
   d.get? s.heap.objs.size=O { cls:=.type "list",dict:=JN,data:=.seq c.toArray i,slots:=#[] }->EP X G D Q (.ref s.heap.objs.size) { s with heap:=d }:=λc g j d i kp e =>
  ⟨.ref s.heap.objs.size,_,I.laid (t':=s.toks) kp (e8 _) (show wN X.prog X.w _ d _ (.lst f) from⟨j,c,i,g,e⟩),rfl,q _ (I.hok.fresh (e8 _))⟩
 rcases m with m | m
 ·obtain⟨c,g,y,j⟩:=I.list m;have v:=g.length;obtain⟨o,z,A,n,hd⟩:=y.isList;rwa[call_list_seq p (.inl rfl) z A hd (λd i kp e=>x c g j d i kp e) (by simp only[g6] <;> lia)]
 ·obtain⟨c,g,y,j⟩:=I.tuple m;have v:=g.length;obtain⟨o,z,A,n,hd⟩:=y;rwa[call_list_seq p (.inr rfl) z A hd (λd i kp e=>x c g j d i kp e) (by simp only[g6] <;> lia)]
def uq:uH X (.type "tuple") (λn H Q=>E2 λp d=>n=[.ref p]/\((SqL X.K H p d/\∀ l,H l=JN->Q (.ref l) (upd H l (.tup d)))\/(SqT X.K H p d/\Q (.ref p) H))):=by
 intro y s m H n C Q I r h;obtain⟨p,d,rfl,h⟩:=h;obtain⟨u,rfl,A⟩:=oJ r;cases A;rcases h with ⟨j,q⟩ | ⟨j,q⟩
 ·obtain⟨c,g,i,v⟩:=I.list j;have x:=g.length;refine call_tuple_list i.isList (λf kp=>?_) (by simp only[g6] <;> lia);have z:Inv X y m H { s with heap:=f }:=I.kept (t':=s.toks) kp;have B:Inv X y m (upd H f.objs.size (.tup d)) { s with heap:=f.push { cls:=.type "tuple",data:=.seq c.toArray } } :=
   z.laid (t':=s.toks) (λb o e=>c9 _ e) (e8 _) (show wN X.prog X.w _ _ _ (.tup d) from⟨v,c,g,Ht _ _⟩)
  rwa[.ref f.objs.size,_,B,rfl,q _ (z.hok.fresh (e8 _))]
 ·obtain⟨c,g,i,v⟩:=I.tuple j;rwa[call_tuple_same i ⟨.ref p,H,I,rfl,q⟩]

def tyV(K:c5)(T:String)(x:V)(H:Hp):Prop:=match x with
 | .str _=>T = "str"
 | .int _=>T = "int"
 | .ref p=>(T = "list" /\ ∃ d,SqL K H p d)\/(T = "tuple" /\ ∃ o,K.lookup p=O o/\o.cls=.type "tuple" /\ o.dict=JN) \/
   (T = "dict" /\ ((∃ c,H p=O (.dK c))\/∃ c,H p=O (.dT c)))\/(T = "set" /\ ∃ S n,H p=O (.set S n))
 | _=>False
def XD{u:List (c7×By)}{j:St}{H:Hp}{s:d7}{T:String}{x:V}{v:c6}(I:Inv X u j H s)(r:xJ x v)(ty:tyV X.K T x H) :
  s.TypeIs v T/\∀ a,v=.ref a->∃ ob,s.heap.get? a=O ob/\ob.dict=none:=by
 cases x with
 | str z =>
  obtain⟨t,rfl⟩:=r;cases (show T = "str" from ty);exact⟨typeIs_str s z t,λ_ e=>nomatch e⟩
 | int i =>
  obtain⟨t,rfl⟩:=r;cases (show T = "int" from ty);exact⟨typeIs_int s i t,λ_ e=>nomatch e⟩
 | ref p =>
  cases r;rcases ty with ⟨rfl,w,m⟩ | ⟨rfl,o,d,q,hd⟩ | ⟨rfl,d⟩ | ⟨rfl,S,n,d⟩
  ·obtain⟨l,_,h,_⟩:=I.list m;erw[h.isList.typeIs,λa e=>?_];cases e;obtain⟨o,n,e,c,hd,_⟩:=h;rwa[o,e,hd]
  ·erw[⟨o,I.kIn p o d,q⟩,λa e=>?_];cases e;rwa[o,I.kIn _ o d,hd]
  ·have z:∃ o,s.heap.get? p=O o/\o.ExactDict:=by
    rcases d with ⟨f,d⟩ | ⟨f,d⟩
    ·obtain⟨_,_,_,_,o,_,_,e,ex,_⟩:=I.hok p _ d;rwa[o,e,ex]
    ·obtain⟨_,_,_,_,o,_,_,e,ex,_⟩:=I.hok p _ d;rwa[o,e,ex]
   obtain⟨o,e,ex⟩:=z;erw[⟨o,e,ex.1⟩,λa g=>?_];cases g;rwa[o,e,ex.2.1]
  ·obtain⟨o,_,_,_,e,ex,_⟩:=I.hok p _ d;erw[⟨o,e,ex.1⟩,λa g=>?_];cases g;rwa[o,e,ex.2.1]
 | _=>rwa[Bm ty]
def tBM0(K:c5)(T:String)(r:V->List V->Hp->VK->Prop)(to:TE):TE:=λd H Q=>to d H λx c=>tyV K T x c/\r x [] c Q
def tBM(K:c5)(T:String)(r:V->List V->Hp->VK->Prop)(to:TE)(t:TA):TE:=λc H Q=>to c H λx d=>tyV K T x d/\t c d λe f=>r x e f Q
variable{o e:Am}{es:List Am}{to:TE}{t:TA}{name:j3}{apos cpos:DD}{T id:String}{r:V->List V->Hp->VK->Prop}
def To(pa:PlainAttrs T)(slot:Slot T name id)(f:typeOf (.builtin id)=pure (.type "method_descriptor"))(q:MtR X id r)(p:PE X o to)
  (d:attributeBase o name X.env (eval o X.env)=eval o X.env:=by rfl) (c:(apos.endLine == cpos.line)=true:=by rfl):PE X (.Call (.Attribute o name apos) [] [] cpos) (tBM0 X.K T r to):=by
 intro j s g H Q I h;erw[wpAny_Call_method0_late d c (thn (p j s g H _ I h) λv m ⟨x,u,l,i,ty,n⟩=>?_)];obtain⟨h1,h2⟩:=XD l i ty;rwa[T,id,pa,slot,f,h1,h2,DP rfl (GG (q j m g u x [] v [] Q l i .nil n))]
def VE(pa:PlainAttrs T)(slot:Slot T name id)(j:typeOf (.builtin id)=pure (.type "method_descriptor"))(E:MtR X id r)(D:PE X o to)(G:PA X (e::es) t)
  (f:attributeBase o name X.env (eval o X.env)=eval o X.env:=by rfl)
  (g:((backTo cpos (starEach (e::es) X.env)).all (λx=>!x.1)&&(backToKw cpos (keywordEach [] X.env)).all (λx=>x.1.isSome)
   && decide ((e::es).length+([]:List Fl).length+(if ([]:List Fl).isEmpty then 0 else 1)<30))=true:=by rfl)
  (d:(apos.endLine == cpos.line)=true:=by rfl) (C:starEach (e::es) X.env=(JP,eval e X.env)::starEach es X.env:=by rfl) (c:(backTo cpos (starEach es X.env)).any (·.1)=false:=by rfl) :
  PE X (.Call (.Attribute o name apos) (e::es) [] cpos) (tBM X.K T r to t):=by
 intro l s i H Q I h;erw[wpAny_Call_method_late f g d rfl (thn (D l s i H _ I h) λv y ⟨x,M,p,m,ty,B⟩=>?_)];obtain⟨h1,h2⟩:=XD p m ty;exists T,id,pa,slot,j,h1,h2;have n:=G cpos l y i M _ p B;rw[C] at n ⊢;refine DP (by show(JP||(backTo cpos (starEach es X.env)).any (·.1))=JP; rw[c] <;> rfl) (Em ?_);rwa[thn n λu w ⟨q,L,J,z,A⟩=>E l w i L x q v u Q J m z A]
end
end L2

namespace L2

def MtM(X:Cx)(id:String)(r:V->List V->Hp->VK->Prop):Prop :=
 ∀(f:List (c7×By))(s:d7)(c:St)(H:Hp)(x:V)(d:List V)(v:c6)(e:List c6)(Q:VK),Inv X f c H s->xJ x v->yN d e->r x d H Q ->
  wpAny (model X.prog X.w) X.A (call (.builtin id) (v::e)) (EP X f c Q) X.xe s

def yN.one:∀{x:V}{c:List c6},yN [x] c->∃ u,c=[u]/\xJ x u
 | _,_,.cons r .nil=>⟨_,rfl,r⟩
def yN.two:∀{x y:V}{c:List c6},yN [x,y] c->∃ u v,c=[u,v]/\xJ x u/\xJ y v
 | _,_,_,.cons r (.cons q .nil)=>⟨_,_,rfl,r,q⟩
def yN.zero:∀{c:List c6},yN [] c->c=[]
 | _,.nil=>rfl
def yN.dropLast{c:List V}{d:List c6}(h:yN c d):yN c.dropLast d.dropLast:=by
 induction h with
 | nil=>rwa[.nil]
 | cons r t e =>
  cases t with
  | nil=>rwa[.nil]
  | cons q f=>rwa[.cons r e]
def yN.reverse{c:List V}{d:List c6}(h:yN c d):yN c.reverse d.reverse:=by
 induction h with
 | nil=>rwa[.nil]
 | cons r t e=>rw[G9,G9]; rwa[yN.append e (.cons r .nil)]
def cL{c:Type}(l:List c):l.eraseIdx (l.length-1)=l.dropLast:=by
 induction l with
 | nil=>rfl
 | cons a r d =>
  cases r with
  | nil=>rfl
  | cons b r =>
   have e:(a::b::r).length-1=((b::r).length-1)+1:=by
    have h1:(a::b::r).length=r.length+2:=rfl;have h2:(b::r).length=r.length+1:=rfl;lia
   rw[e,List.eraseIdx_cons_succ,d]
   all_goals rfl
section
variable{X:Cx}{JQ:List (c7×By)}{σ:St}{H:Hp}{s:d7}{l b:c7}{xs ys zs:List V}

def Inv.lset{c its':List c6}{n:Nat}{f:Array c6->Array c6}{t':Nat}(I:Inv X JQ σ H s)(m:H l=O (.lst xs))
  (e:s.heap.get? l=O { cls:=.type "list",data:=.seq c.toArray n }) (i:f c.toArray=its'.toArray) (g:yN ys its') (d:ys.length<=sizeLine) :
  Inv X JQ σ (upd H l (.lst ys)) { s with heap:=s.heap.update l (AB f),toks:=t' }:=by
 have q:=PySem.IsL.update e f;rw[i] at q;erw[I.write (x:=l) (e:=l) (by rw[m]; rwa[trivial]) (.inl rfl) (λo u j h=>(AK s.heap (AB f) (AR j)).trans h) ⟨_,q⟩ ?_];rwa[d,its',_,g,q]
def Inv.lnew{c:List c6}{t':Nat}(I:Inv X JQ σ H s)(e:yN ys c)(d:ys.length<=sizeLine) :
  Inv X JQ σ (upd H s.heap.objs.size (.lst ys)) { s with heap:=s.heap.push { cls:=.type "list",data:=.seq c.toArray },toks:=t' } :=
 I.laid (λ_ _ q=>c9 _ q) (e8 _) ⟨d,c,0,e,i8 _ rfl⟩
def Inv.fresh(I:Inv X JQ σ H s):H s.heap.objs.size=none:=I.hok.fresh (e8 _)
def Inv.lstM(I:Inv X JQ σ H s)(d:H l=O (.lst xs)):xs.length<=sizeLine/\∃(c:List c6)(n:Nat),yN xs c/\xs.length=c.length/\s.heap.get? l=O { cls:=.type "list",data:=.seq c.toArray n }:=by
 obtain⟨z,c,n,r,e⟩:=I.hok l _ d;rwa[z,c,n,r,r.length,e]

def Xn{n:Nat}(h:n<=sizeLine):DB n=false:=by
 unfold DB;rwa[y8 (by lia)]
end

section
variable{X:Cx}

def bv:V->List V->Hp->VK->Prop:=λx d H Q=>E3 λl c y=>A5 (x=.ref l) (d=[y]) (H l=O (.lst c)) (c.length<sizeLine) (Q .non (upd H l (.lst (c++[y]))))
def wa:MtM X "list.append" bv:=by
 intro A s i H x m v o Q I f g h;obtain⟨l,j,y,rfl,rfl,d,p,q⟩:=h;cases f;obtain⟨u,rfl,ru⟩:=g.one;obtain⟨z,c,n,r,w,e⟩:=I.lstM d;erw[call_meets F.slot_list_append ⟨_,e,rfl⟩ F.entry_list_append (F.args_list_append_2 _ _) (PySem.list_append l c.toArray n u (by rw[g6]; lia)) ⟨e,?_⟩];erw[.non,_,I.lset (its':=c++[u]) d e (by simp) (r.append (.cons ru .nil)) ?_,rfl,q];rw[f8,AW];lia

def VJ:V->List V->Hp->VK->Prop:=λx e H Q=>E4 λl b d c=>A6 (x=.ref l) (e=[.ref b]) (H l=O (.lst d)) (H b=O (.lst c)) (d.length+c.length<=sizeLine) (Q .non (upd H l (.lst (d++c))))
def aW:MtM X "list.extend" VJ:=by
 intro M s A H x E v G Q I j m h;obtain⟨l,b,D,B,rfl,rfl,i,w,J,q⟩:=h;cases j;obtain⟨u,rfl,ru⟩:=m.one;cases ru;obtain⟨z,d,n,r,L,e⟩:=I.lstM i;obtain⟨C,c,n2,o,p,y⟩:=I.lstM w;have g:d.toArray.size+c.toArray.size<=sizeLine:=by rw[g6,g6]; lia
 have f:¬ (!d.toArray.isEmpty&&DB (d.toArray.size+c.toArray.size))=true:=by
  rw[Xn g,Bool.and_false];rwa[l9]
 refine call_meets F.slot_list_extend ⟨_,e,rfl⟩ F.entry_list_extend (F.args_list_extend_2 _ _)
  (AutoSeq1.list_extend_list_list_0 l d.toArray n b c.toArray n2 f (by rw[g6]; lia) (by lia)) ⟨e,y,?_⟩
 erw[.non,_,I.lset (its':=d++c) i e (by simp) (r.append o) ?_,rfl,q];rw[f8];lia

def rPop:V->List V->Hp->VK->Prop:=λx d H Q=>E3 λl c y=>A5 (x=.ref l) (d=[]) (H l=O (.lst c)) (c[c.length-1]?=O y) (Q y (upd H l (.lst c.dropLast)))
def mt_pop:MtM X "list.pop" rPop:=by
 intro D s w H x B v C Q I i j h;obtain⟨l,A,y,rfl,rfl,g,m,q⟩:=h;cases i;have f:=j.zero;subst f;obtain⟨z,c,n,r,p,e⟩:=I.lstM g;obtain⟨u,o,ru⟩:=r.get m;have d:c.toArray[c.toArray.size-1]?=O u:=by
  show c.toArray[c.length-1]?=O u;rw[<- Ax,<- p];rwa[o]
 erw[call_meets F.slot_list_pop ⟨_,e,rfl⟩ F.entry_list_pop (F.args_list_pop_1 _) (MeetsSeq.list_pop_last l c.toArray n u d (by rw[g6]; lia)) ⟨e,?_⟩];erw[y,_,I.lset (its':=c.dropLast) g e ?_ r.dropLast ?_,ru,q]
 ·show c.toArray.eraseIdxIfInBounds (c.toArray.size-1)=c.dropLast.toArray;rw[g6,List.eraseIdxIfInBounds_toArray,cL]
 ·rw[List.length_dropLast];lia

def Yy:V->List V->Hp->VK->Prop:=λx d H Q=>E2 λl c=>A4 (x=.ref l) (d=[]) (H l=O (.lst c)) (Q .non (upd H l (.lst c.reverse)))
def cr:MtM X "list.reverse" Yy:=by
 intro w s j H x o v p Q I g i h;obtain⟨l,m,rfl,rfl,f,q⟩:=h;cases g;have d:=i.zero;subst d;obtain⟨z,c,n,r,u,e⟩:=I.lstM f;erw[call_meets F.slot_list_reverse ⟨_,e,rfl⟩ F.entry_list_reverse (F.args_list_reverse_1 _) (AutoSeq1.list_reverse_list_0 l c.toArray n (by rw[g6]; lia)) ⟨e,?_⟩];erw[.non,_,I.lset (its':=c.reverse) f e (by simp) r.reverse ?_,rfl,q];rw[List.length_reverse];lia

def rCat:R2:=λx y H Q=>E4 λl b d c=>A6 (x=.ref l) (y=.ref b) (H l=O (.lst d)) (H b=O (.lst c)) (d.length+c.length<=sizeLine) (∀ p,H p=JN->Q (.ref p) (upd H p (.lst (d++c))))
def aq:OpR X (binaryOp .Add) rCat:=by
 intro J s A H x y v u Q I g f h;obtain⟨l,b,D,B,rfl,rfl,m,o,E,q⟩:=h;cases g;cases f;obtain⟨z,d,n,r,G,e⟩:=I.lstM m;obtain⟨C,c,n2,i,j,w⟩:=I.lstM o;erw[PySem.P.add_list e w ?_ (by rw[g6,g6]; lia)];have p:d.toArray++c.toArray=(d++c).toArray:=by simp
 rw[p];rwa[.ref _,_,I.lnew (t':=s.toks) (r.append i) (by rw[f8]; lia),rfl,q _ I.fresh]
end


end L2

namespace Att
open PySem PySem.W PySem.Calls PyProof.Rows

def mz{P:C6}{h:w9} : ∀(ns:List Int)(c:List c6),WellAll P h c (ns.map JK)->BQ c ns:=by
 intro ns
 induction ns with
 | nil =>
  intro c w;rw[Dk] at w;cases w;rwa[.nil]
 | cons n ns d =>
  intro c w;rw[i5] at w;cases w with
  | cons a b =>
   cases a;rwa[.cons _ _ (d _ b)]

def aI{l:Ge}{n:Nat}(v:l.most=O n){P:C6}{h:w9}{c:List WData}{vals:List c6}
  (e:l.row.toRowW.claim.pre c=JO) (i:WellAll P h vals c) :
  ∃ a m ns,vals=[j8 a]/\c=[WData.list (ns.map JK)]/\h.get? a=O { cls:=.type "list",data:=.seq m.toArray }/\BQ m ns/\ns.length<=n:=by
 have j:WShape.hasAll [] c [.list .int]=true:=(pre_splitW e).1;have o:l.pre.holds [] { args:=c }=true:=(pre_splitW e).2;obtain⟨d,r,rfl,h1,h2⟩:=hasAllW_cons j;obtain rfl:=hasAllW_nil h2;obtain⟨w,rfl,h3⟩:=hasW_list h1;obtain⟨ns,rfl⟩:=items_int h3;have f:ns.length<=n:=by
  unfold OpenLaw.pre at o;have h4:(WTm.not (.lt (.lit (.int (n:Int))) (.len (.arg 0)))).holds [] { args:=[.list (ns.map .int)] }=true:=by
   have h4:=(holds_andW o).1;rw[v] at h4;rwa[h4]
  have h5:=condW_of h4 (w_not (w_lt w_lit (w_len_list (w_arg rfl))));rw[b7] at h5;erw[Hx λq=>?_];have s:(n:Int)<((ns.length:Nat):Int):=by lia
  first
   | (rw[y7 s] at h5; rwa[y9 h5 (by decide)])
   | (simp at h5; lia)
 cases i with
 | cons w1 p =>
  cases p;cases w1 with
  | list u g=>rwa[_,_,ns,rfl,rfl,u,mz ns _ g,f]

def aN(l:Ge)(c:List WData):l.row.toRowW.claim.post c (.bool JO) c=true :=
 postW_of (r:=l.row.toRowW) (X:=(JO == JO))
  (show JG [] (.bool JO) .bool=JO by first | rfl | decide | simp[JG,WShape.arms,WShape.armsAll])
  (show(WTm.eq .res (.lit (.bool JO))).value [] { args:=c,res:=O (.bool JO),after:=c }=O (.bool (JO == JO)) from w_eq_bool (w_res rfl) w_lit) rfl

def attach_call{l:Ge}{n:Nat}{q:m9}{e:List j3}{I:(j3->Option c6)->w9->Prop}{H:r9->w9->Prop}{d:DefRec}
  (N:l.most=O n) (A:d.params.defaults=[])
  (call:∀(w:r9)(s₀ c:d7)(mg x:j3->Option c6)(s:c7)(o:By)(pm v h:c6)(a:c7)(i:List c6)(ns:List Int),
   Ground q e [] I w s₀ mg x c.heap->H w c.heap ->
   c.heap.get? s=O o->o.data=.func (docDef d.name d.params d.body d.scope pm v h)->c.heap.CodeRec v d.name->mg d.name=O (.ref s) ->
   c.heap.get? a=O { cls:=.type "list",data:=.seq i.toArray }->BQ i ns->ns.length<=n->c.gens = #[] ->
   codeAny (model l.prog w) callerA (.call (.ref s) ⟨[.ref a],[]⟩) (λr u=>r=.ok (.ret (.bool JO))/\OldK c.heap u.heap/\u.os=c.os/\EG u.gens) c) :
  Je q e I H l.row.toRowW d [] (λf i=>Is f i):=by
 intro w s₀ c mg x G Y s o pm v h S kV M hd B D z R E vals as j C J y Q;obtain rfl:S=.none:=Dflts.none D A;obtain rfl:kV=.none:=Dflts.noKw D;obtain⟨a,i,ns,rfl,rfl,m,g,p⟩:=aI N j y;erw[enter_call (codeAny_mono (call w s₀ c mg x s o pm v h a i ns G Y M (fd_plain hd) B z m g p R) λr u L=>?_)];obtain⟨rfl,h2,h3,h4⟩:=L;exact⟨.inl ⟨.bool JO,.bool JO,[],rfl,λ_=>rfl,.bool JO,aN l _,λ_=>⟨JJ,λ_ P=>(nomatch P)⟩⟩,h2,h3,h4⟩

section
variable{prog:m9}{w:r9}{A:Ac}{E:c6->d7->Prop}{s:d7}{K:c5}

end
end Att

namespace L2

def oo:∀{c:List c6}{ns:List Int},BQ c ns->yN (ns.map V.int) c
 | _,_,.nil=>.nil
 | _,_,.cons n t h=>.cons ⟨t,rfl⟩ (oo h)

def Only(H:Hp):Prop:=∀ b,H b=JN\/∃ o c,H b=O (.frz o (.lst c))

def YM{P:m9}{w:r9}{K:c5}{mg N:j3->Option c6}{CX:CXT}{k:Nat}{X a:c7}{fd:AJ}{x:j3}{sp:Sp}{c:d7}{p:List c6}{ns:List Int}
  (KX:K.In c.heap) (D:c.heap.Ns mainGlobals mg) (g:c.heap.Ns builtinsNs N) (S:∀ x:j3,x ≠ "__name__" -> N x=bootBuiltins x) (E:c.heap.NoLimit) (hg:c.gens = #[])
  (L:c.heap.get? a=O { cls:=.type "list",data:=.seq p.toArray }) (hi:BQ p ns) (hl:ns.length<=sizeLine) (hr:zv k callerA)
  (F:∀ base:w9,K.In base->base.Ns mainGlobals mg->yQ P w K mg base CX k X fd [x] sp) (y:∀(s:d7)(u:c6),FX s fd ⟨[u],[]⟩ [(x,u)])
  (Q:∀ H:Hp,Only H->SqL K H a (ns.map V.int)->sp [.ref a] H (λv _=>v=.bl JO) λ_ _ _=>False)
  (T:∀ H e i,CX [] H c (λ_ _ _=>False) e i->False) :
  codeAny (model P w) callerA (.call (.ref X) ⟨[.ref a],[]⟩) (λr i=>r=.ok (.ret (.bool JO))/\OldK c.heap i.heap/\i.os=c.os/\EG i.gens) c:=by
 have Z:=oo hi;have B:=hi.length;have l:∀ H:Hp,Only H->SqL K H a (ns.map V.int)->HOk P w H c.heap->(∀ b,H b≠JN->b=a)->(H a≠JN->K.lookup a=JN) ->
   codeAny (model P w) callerA (.call (.ref X) ⟨[.ref a],[]⟩) (λr i=>r=.ok (.ret (.bool JO))/\OldK c.heap i.heap/\i.os=c.os/\EG i.gens) c:=by
  intro H hO hS hok hA hK;have f:∀{b:c7}{o:By},c.heap.get? b=O o->H b=JN->(Yc c.heap H).get? b=O o:=λe n=>Xr e n;have M:∀{b:c7}{o:By}{I:Array C0}{J:Nat},c.heap.get? b=O o->o.data=.dict I J->H b=none:=λ{b o I J} e d=>by
   cases q:H b with
   | none=>rfl
   | some u =>
    have Y:b=a:=hA b (by rw[q]; simp);subst Y;rw[L] at e; cases e;have d':Data.seq p.toArray _=Data.dict I J:=d;cases d'
  have j:∀{b:c7}{m:j3->Option c6},c.heap.Ns b m->(Yc c.heap H).Ns b m:=λ{b m} ⟨o,I,J,e,d,r⟩=>⟨o,I,J,f e (M e d),d,r⟩;have G:K.In (Yc c.heap H):=λb o e=>f (KX b o e) (by
   cases q:H b with
   | none=>rfl
   | some u =>
    have Y:b=a:=hA b (by rw[q]; simp);subst Y;rw[hK (by rw[q]; simp)] at e; cases e)
  have hM:Mod K mg (Yc c.heap H):=⟨G,j D,⟨N,j g,S⟩,let ⟨mc,h1,h2⟩:=E;⟨mc,j h1,h2⟩⟩;have e0:XO P w K mg (Yc c.heap H) callerA [] c H:=⟨rfl,hM,λb o e=>WZ e,FV (al _ _),trivial,λb g=>y9 (show b∈([]:List c7) from g) (by simp),hok,.of_eq hg⟩;erw[codeAny_mono ((F _ G (j D)).run callerA [] c H ⟨[.ref a],[]⟩ [.ref a] [.ref a] _ _ hr e0 (y c (.ref a)) (.cons rfl .nil) (Q H hO hS)) λr i h=>?_];cases r with
  | error e=>exact(T H e i h).elim
  | ok fl =>
   cases fl with
   | next=>rwa[Bm h]
   | brk=>rwa[Bm h]
   | cont=>rwa[Bm h]
   | ret u =>
    obtain⟨v,H',os,bare,un,C,r',q⟩:=h;have q':v=.bl true:=q;subst q';obtain rfl:u=EO true:=r';erw[rfl,OldK.of_keep λb o e=>?_,os,bare];cases q:H b with
    | none=>exact un.keep b o e q (by intro z; exact y9 (show b∈([]:List c7) from z) (by simp)) (by simp)
    | some u =>
     rcases hO b with z | ⟨ob,xs,z⟩
     ·rw[q] at z; cases z
     ·have z2:=un.frzs b ob _ z;obtain⟨e1,_⟩:=hok b _ z;obtain⟨e2,_⟩:=C b _ z2;rw[e] at e1; cases e1;rwa[e2]
 cases R:K.lookup a with
 | some o =>
  have e:=KX a o R;rw[L] at e;cases e;refine l (λ_=>JN) (λ_=>.inl rfl) (.inr ⟨_,p.toArray,_,R,rfl,rfl,rfl,by rw[g6,B]; exact hl,by simpa using Z⟩) (λb u z=>by have A:(JN:Option HO)=O u:=z; cases A) (λb z=>y9 rfl z) λz=>y9 rfl z
 | none =>
  refine l (λb=>if b=a then O (.frz { cls:=.type "list",data:=.seq p.toArray } (.lst (ns.map V.int))) else JN) (λb=>?_) (.inl (.inr ⟨{ cls:=.type "list",data:=.seq p.toArray },y6 rfl⟩)) (λb u z=>?_) (λb z=>?_) λ_=>R
  ·by_cases g:b=a
   ·rwa[.inr ⟨_,_,y6 g⟩]
   ·rwa[.inl (y4 g)]
  ·by_cases g:b=a
   ·have A:=(y6 g).symm.trans z;cases A;subst g;rwa[L,by rw[b7]; exact hl,p,_,Z,L]
   ·have A:=(y4 g).symm.trans z;cases A
  ·by_cases g:b=a
   ·rwa[g]
   ·rwa[y9 (y4 g) z]
end L2

namespace L2

end L2

namespace L2


abbrev CX0:CXT:=λ_ _ _ _ _ _=>False
abbrev E0:XK:=λ_ _ _=>False
def cv{X:Cx} : iX CX0 X E0:=λ_ _ _ _ _ _ _ h=>h.elim

structure Fun(K:c5)(x qual:j3)(st:Ar)(f:c7)(fd:AJ):Prop where
 ex:∃(oc:c6)(od:Option c7)(kV doc pm:c6)(an:Option c7)(cdv ct:c6)(osl:Array (Option c6)),
  fd=Aw x qual (xZ st) (xP st) (zH st) .none kV doc pm an cdv ct/\K.lookup f=O ⟨oc,od,.func fd,osl⟩/\De K cdv qual=JO
 kp:AI K (.ref f)=JO
section
variable{P:m9}{w:r9}{K:c5}{mg:j3->Option c6}{base:w9}
def Fun.ok{x c:j3}{st:Ar}{f:c7}{fd:AJ}{N i:List j3}{k:Nat}{sp:Sp}(F:Fun K x c st f fd)(S:zK N i (zH st))(len:∀ e H Q E,sp e H Q E->e.length=i.length)
  (g:∀(d:c6)(A:Ac)(outer:List Ff)(s:d7)(H:Hp)(e:List V)(Q:VK)(E:XK),zv k (A.deeper (envOfC c (zH st) s.heap.objs.size f d))->sp e H Q E ->
   ∃ t,PSs (cxOf CX0 P w K mg base N c (zH st) f d A outer s H E).nox (xP st) t/\t { nx:=λ_ p=>Q .non p,rt:=Q } (kZ N e) H):yQ P w K mg base CX0 (k+1) f fd i sp:=by
 obtain⟨u,r,kV,o,pm,v,d,ct,m,rfl,lk,l⟩:=F.ex;erw[TH lk l S len λA outer s H e Q E n j=>?_];obtain⟨t,h,q⟩:=g d A outer s H e Q E n j;rwa[t,h.nox,q]
def Fun.binds{x c:j3}{st:Ar}{f:c7}{fd:AJ}{i:List j3}(F:Fun K x c st f fd)
  (h:∀(kV d pm:c6)(j:Option c7)(e ct:c6)(g:List c6),g.length=i.length->bindArgs (Aw x c (xZ st) (xP st) (zH st) .none kV d pm j e ct) ⟨g,[]⟩=pure (i.zip g)):uh K fd i []:=by
 obtain⟨o,n,kV,d,pm,j,e,ct,l,rfl,lk,m⟩:=F.ex;rwa[.all (h kV d pm j e ct)]
def bI{x d:j3}{st:Ar}{f:c7}{m:c6}{j i:Option c7}{h:Array (Option c6)}{kV g pm e ct:c6}(l:K.lookup f=O ⟨m,j,.func (Aw x d (xZ st) (xP st) (zH st) .none kV g pm i e ct),h⟩)
  (c:De K e d=JO) (k:AI K (.ref f)=JO):Fun K x d st f (Aw x d (xZ st) (xP st) (zH st) .none kV g pm i e ct):=⟨⟨m,j,kV,g,pm,i,e,ct,h,rfl,l,c⟩,k⟩
end
def zZ{A:Ac}{k:Nat}(c:zv k A):A.units+1<cLine:=AM (Dr (by decide:1<=64) _) c.units
def zL{n:Nat}(h:n<=1000):n<sizeLine:=AM h (by decide)

section
variable{X:Cx}
def pv(i:Nat){x:j3}{pos:DD}(e:X.N[i]?=O x:=by rfl)(d:Vis X.env.scope x:=by first | exact BM rfl | exact Hy (BM rfl) | exact Hy (Hy rfl))(hd:(x ==("__debug__" : j3))=false:=by decide)
  (c:(x ==("__classdict__" : j3))=false:=by decide):PE X (.Name x pos) (Us i):=Sv e d hd c
end

def uY{A B:Prop}(h:B):if JP=JO then A else B:=by
 rw[y4 l9];rwa[h]
def pS{A B:Prop}(h:A):if JO=JO then A else B:=by
 rw[y6 rfl];rwa[h]
def ite2{c A B:Prop}[Decidable c](h1:c->A)(h2:¬ c->B):if c then A else B:=by
 by_cases h:c
 ·rw[y6 h];rwa[h1 h]
 ·rw[y4 h];rwa[h2 h]
def Same(H c:Hp):Prop:=∀ b o,H b=O o->c b=O o
def Same.refl(H:Hp):Same H H:=λ_ _ h=>h
def Same.trans{H e d:Hp}(a:Same H e)(b:Same e d):Same H d:=λc o h=>b c o (a c o h)
def Same.free{H c:Hp}(e:Same H c){l:c7}(h:c l=Jw):H l=Jw:=by
 cases q:H l with
 | none=>rfl
 | some o =>
  rw[e l o q] at h;cases h
def Same.seq{K:c5}{H d:Hp}{a:c7}{c:List V}(e:Same H d)(h:SqL K H a c):SqL K d a c:=by
 rcases h with (h | ⟨o,h⟩) | h
 ·rwa[.inl (.inl (e _ _ h))]
 ·rwa[.inl (.inr ⟨o,e _ _ h⟩)]
 ·rwa[.inr h]

end L2

namespace Sea
def yV(ns:List Int):Nat:=ns.foldl (λg n=>Ad g n.natAbs) 0
def iZ(ns:List Int)(n:Int):yV (ns++[n])=Ad (yV ns) n.natAbs:=by
 unfold yV;rw[Fm];rfl
def dH:∀(ns:List Int)(g:Nat),ns.foldl (λg n=>Ad g n.natAbs) g ∣ g/\∀ n∈ns,ns.foldl (λg n=>Ad g n.natAbs) g ∣ n.natAbs
 | [],g=>⟨Nat.dvd_refl g,λ_ h=>nomatch h⟩
 | x::r,g=>by
  obtain⟨h1,h2⟩:=dH r (Ad g x.natAbs);erw[Jb h1 (Nat.gcd_dvd_left _ _),λn c=>?_];rcases o0.mp c with e | e
  ·rw[e];rwa[Jb h1 (Nat.gcd_dvd_right _ _)]
  ·rwa[h2 n e]
def qL{ns:List Int}{n:Int}(h:n∈ns):yV ns ∣ n.natAbs:=(dH ns 0).2 n h
def wR{ns:List Int}{n:Int}(h:n∈ns):(yV ns:Int) ∣ n:=Int.ofNat_dvd_left.mpr (qL h)
def eJ{d:Nat} : ∀(ns:List Int)(g:Nat),d ∣ g->(∀ n∈ns,d ∣ n.natAbs)->d ∣ ns.foldl (λg n=>Ad g n.natAbs) g
 | [],_,h,_=>h
 | x::r,g,h,c=>eJ r _ (Nat.dvd_gcd h (c x Av)) λn e=>c n (Af _ e)
def Yp{d:Nat}{ns:List Int}(h:∀ n∈ns,d ∣ n.natAbs):d ∣ yV ns:=eJ ns 0 (Nat.dvd_zero d) h
def uV{ns:List Int}{n:Int}(h:n∈ns)(h0:n≠0):0<yV ns:=by
 rcases Nat.eq_zero_or_pos (yV ns) with e | e
 ·have q:=qL h;rw[e,Nat.zero_dvd] at q;lia
 ·rwa[e]
def wf{ns:List Int}{n:Int}(h:n∈ns)(h0:n≠0):(yV ns:Int)<=n.natAbs:=by
 have q:=FF (by lia) (qL h);lia
def zw(ns:List Int):List Int:=ns.map λn=>n/(yV ns:Int)
def uC{ns:List Int}{n:Int}(h:n∈ns):n/(yV ns:Int)*(yV ns:Int)=n:=Int.ediv_mul_cancel (wR h)
def oQ{ns:List Int}(h:0<yV ns):yV (zw ns)=1:=by
 have d:yV ns*yV (zw ns) ∣ yV ns:=by
  erw[Yp λn f=>?_];have h1:yV (zw ns) ∣ (n/(yV ns:Int)).natAbs:=qL (g7.mpr ⟨n,f,rfl⟩);obtain⟨c,e⟩:=h1;have h2:=congrArg Int.natAbs (uC f);rw[EU,EV,e] at h2;rw[<- h2];rwa[c,by rw[Nat.mul_comm,Jc]]
 obtain⟨c,e⟩:=d;have h3:yV ns*(yV (zw ns)*c)=yV ns*1:=by
  rw[<- Jc,<- e,Nat.mul_one]
 have h4:=Nat.eq_of_mul_eq_mul_left h h3;rwa[Nat.dvd_one.mp ⟨c,h4.symm⟩]
def dC(x y:Int):yV [x,y]=Ad x.natAbs y.natAbs:=by
 show Ad (Ad 0 x.natAbs) y.natAbs=_;rw[Ha]
def rg(x y z:Int):yV [x,y,z]=Ad (Ad x.natAbs y.natAbs) z.natAbs:=by
 show Ad (Ad (Ad 0 x.natAbs) y.natAbs) z.natAbs=_;rw[Ha]
def eO(ns:List Int):yV (ns.map λn=>-n)=yV ns:=by
 have c:∀(l:List Int)(g:Nat),(l.map λn=>-n).foldl (λg n=>Ad g n.natAbs) g=l.foldl (λg n=>Ad g n.natAbs) g:=by
  intro l
  induction l with
  | nil=>intro g; rfl
  | cons x r d =>
   intro g;show(r.map λn=>-n).foldl _ (Ad g (-x).natAbs)=r.foldl _ (Ad g x.natAbs);rw[d,Gu]
 rwa[c ns 0]
def kY{a b:Int}(d:0<=a)(c:0<b):Ad b.toNat (a%b).toNat=Ad a.toNat b.toNat:=by
 obtain⟨m,rfl⟩:=Bw d;obtain⟨n,rfl⟩:=Bw (Ai c);have e:((m:Int)%(n:Int)).toNat=m%n:=by
  rw[<- Int.natCast_emod];rfl
 show Ad n ((m:Int)%(n:Int)).toNat=Ad m n;rw[e,Jn m n,Nat.gcd_rec n m,Jn]
def dG(i:Int):(if i<0 then -i else i)=(i.natAbs:Int):=by
 split <;> lia
structure Wo(t b x y:Int):Prop where
 pos:1<=y
 low:Ad x.natAbs y.natAbs=1
 eq:x*b=y*t
 xle:x.natAbs<=t.natAbs
 yle:y.natAbs<=b.natAbs
def uD(n:Int){g:Int}(e:0<g)(h:g ∣ n):(n/g).natAbs<=n.natAbs:=by
 obtain⟨c,d⟩:=h;subst d;rw[Int.mul_ediv_cancel_left c (by lia),EU];rwa[Nat.le_mul_of_pos_left _ (by lia)]
def Up(t:Int){b:Int}(f:b≠0):∃ x y:Int,(zw (if b<0 then [t,b].map (λn=>-n) else [t,b]))=[x,y]/\Wo t b x y:=by
 have c:∀(t b:Int),0<b->∃ x y:Int,zw [t,b]=[x,y]/\Wo t b x y:=λt b f=>by
  have l:0<yV [t,b]:=uV (n:=b) (by simp) (by lia);have j:=uC (ns:=[t,b]) (n:=t) (by simp);have i:=uC (ns:=[t,b]) (n:=b) (by simp);have d:(0:Int)<(yV [t,b]:Int):=by lia
  erw[t/(yV [t,b]:Int),b/(yV [t,b]:Int),rfl,?_,?_,?_,uD t d (wR (by simp)),uD b d (wR (by simp))]
  ·rwa[EW f (Ai d) (wR (by simp))]
  ·have h3:=oQ l;rw[<- dC];rwa[h3]
  ·generalize (yV [t,b]:Int)=g at j i
   calc t/g*b=t/g*(b/g*g):=by rw[i]
    _=b/g*(t/g*g):=by rw[<- AN,<- AN,Aa (t/g)]
    _=b/g*t:=by rw[j]
 by_cases h:b<0
 ·rw[y6 h];obtain⟨x,y,e,p⟩:=c (-t) (-b) (by lia);refine⟨x,y,e,p.pos,p.low,?_,by have:=p.xle; lia,by have:=p.yle; lia⟩;have q:=p.eq;rw[Fo,Fo] at q;lia
 ·rw[y4 h];rwa[c t b (by lia)]
def yJ(a b:Int){m n:Nat}(d:a.natAbs<=m)(c:b.natAbs<=n):(a*b).natAbs<=m*n:=by
 rw[EU];rwa[Iu d c]
def Ud{b:Int}(h:b.natAbs<=10^40):b.natAbs<10^500:=AM h (by ac_nf)
def dir_low{X Y:Int}(h:X≠0\/Y≠0):∃ x y:Int,zw [X,Y]=[x,y]/\0<yV [X,Y]/\(yV [X,Y]<=X.natAbs\/yV [X,Y]<=Y.natAbs)/\Ad x.natAbs y.natAbs=1/\x*Y-y*X=0/\0<x*X+y*Y/\x.natAbs<=X.natAbs/\y.natAbs<=Y.natAbs:=by
 have f:0<yV [X,Y]:=by
  rcases h with h | h
  ·rwa[uV (n:=X) (by simp) h]
  ·rwa[uV (n:=Y) (by simp) h]
 have e:(0:Int)<(yV [X,Y]:Int):=by lia
 have d:=uC (ns:=[X,Y]) (n:=X) (by simp);have c:=uC (ns:=[X,Y]) (n:=Y) (by simp);erw[X/(yV [X,Y]:Int),Y/(yV [X,Y]:Int),rfl,f,?_,?_,?_,?_,uD X e (wR (by simp)),uD Y e (wR (by simp))]
 ·rcases h with h | h
  ·rwa[.inl (FF (by lia) (qL (by simp)))]
  ·rwa[.inr (FF (by lia) (qL (by simp)))]
 ·rw[<- dC];rwa[oQ f]
 ·generalize (yV [X,Y]:Int)=g at d c;generalize X/g=x at d;generalize Y/g=y at c;rw[<- d,<- c,<- AN,<- AN,Aa x y];lia
 ·generalize (yV [X,Y]:Int)=g at d c e;have j:0<=X/g*X:=by
   have:X/g*X=X/g*(X/g)*g:=by rw[AN,d]
   rw[this];rwa[DQ (by rw[<- Du]; exact Cf _) (Ai e)]
  have i:0<=Y/g*Y:=by
   have:Y/g*Y=Y/g*(Y/g)*g:=by rw[AN,c]
   rw[this];rwa[DQ (by rw[<- Du]; exact Cf _) (Ai e)]
  rcases h with h | h
  ·have:X/g*X≠0:=CW (λz=>h (by rw[<- d,z,F0])) h;lia
  ·have:Y/g*Y≠0:=CW (λz=>h (by rw[<- c,z,F0])) h;lia
def upL(X Y W:Int):List Int:=if W<0 then [-X,-Y,-W] else [X,Y,W]
def VP{X Y W:Int}(h:W≠0):upL (-X) (-Y) (-W)=upL X Y W:=by
 unfold upL;by_cases c:W<0
 ·rw[y6 c,y4 (by lia)]
 ·rw[y4 c,y6 (by lia),HU,HU,HU]
structure Za(X Y W x y w:Int):Prop where
 pos:1<=w
 low:Ad (Ad x.natAbs y.natAbs) w.natAbs=1
 ex:x*W=X*w
 ey:y*W=Y*w
 xle:x.natAbs<=X.natAbs
 yle:y.natAbs<=Y.natAbs
 wle:w.natAbs<=W.natAbs
def de{X Y W:Int}(h:0<W):∃ x y w:Int,zw [X,Y,W]=[x,y,w]/\Za X Y W x y w:=by
 have i:0<yV [X,Y,W]:=uV (n:=W) (by simp) (by lia);have d:(0:Int)<(yV [X,Y,W]:Int):=by lia
 have f:=uC (ns:=[X,Y,W]) (n:=X) (by simp);have e:=uC (ns:=[X,Y,W]) (n:=Y) (by simp);have c:=uC (ns:=[X,Y,W]) (n:=W) (by simp);have lo:=oQ i;erw[X/(yV [X,Y,W]:Int),Y/(yV [X,Y,W]:Int),W/(yV [X,Y,W]:Int),rfl,EW h (Ai d) (wR (by simp)),?_,?_,?_,uD X d (wR (by simp)),uD Y d (wR (by simp)),uD W d (wR (by simp))]
 ·rw[<- rg];rwa[lo]
 ·generalize (yV [X,Y,W]:Int)=g at f c;generalize X/g=x at f;generalize W/g=w at c;rw[<- f,<- c,AN,Aa g w]
 ·generalize (yV [X,Y,W]:Int)=g at e c;generalize Y/g=y at e;generalize W/g=w at c;rw[<- e,<- c,AN,Aa g w]
def fU{X Y W:Int}(h:W≠0):∃ x y w:Int,zw (upL X Y W)=[x,y,w]/\Za X Y W x y w:=by
 unfold upL;by_cases c:W<0
 ·rw[y6 c];obtain⟨x,y,w,e,p⟩:=de (X:=-X) (Y:=-Y) (W:=-W) (by lia);refine⟨x,y,w,e,p.pos,p.low,?_,?_,by have:=p.xle; lia,by have:=p.yle; lia,by have:=p.wle; lia⟩
  ·have q:=p.ex;rw[Fo,HV] at q;lia
  ·have q:=p.ey;rw[Fo,HV] at q;lia
 ·rw[y4 c];rwa[de (by lia)]
def jx{A B C X Y W x y w:Int}(h:W≠0)(p:Za X Y W x y w)(e:A*X+B*Y=C*W):A*x+B*y=C*w:=by
 erw[Int.eq_of_mul_eq_mul_right h ?_];have d:(A*x+B*y)*W=A*(x*W)+B*(y*W):=by rw[HW,AN,AN]
 have c:A*(X*w)+B*(Y*w)=(A*X+B*Y)*w:=by rw[HW,AN,AN]
 rw[d,p.ex,p.ey,c,e,AN,Aa W w,<- AN]
def Zx(e d c h g f:Int):e*(c*g-d*f)+d*(e*f-c*h)=c*(e*g-d*h):=by
 simp only[Jx,Aa,Fp];lia
def bH(h g f e d c:Int):e*(f*d-g*c)+d*(h*c-f*e)=c*(h*d-g*e):=by
 simp only[Jx,Aa,Fp];lia
def gcd3(e d c:Int):(Ad ((Ad e.natAbs d.natAbs:Nat):Int).natAbs c.natAbs:Nat)=yV [e,d,c]:=by
 rw[rg,EV]
end Sea

namespace Sea
def XR{a b:Int}(h:a≠0\/b≠0):1<=a*a+b*b:=by
 have d:0<=a*a:=by rw[<- Du]; rwa[Cf _]
 have c:0<=b*b:=by rw[<- Du]; rwa[Cf _]
 rcases h with h | h
 ·have:a*a≠0:=CW h h;lia
 ·have:b*b≠0:=CW h h;lia
end Sea

namespace Sea
abbrev SpT:=Nat×Int×Int×Int
end Sea

namespace L2

structure CC where
 C:c7
 s:d7
 H:Hp
 fp:List c7

def yr(env:Ff):List (j3×Dd)->List (j3×c7)->List (j3×c7)
 | [],c=>c
 | (n,k)::r,c=>yr env r (if (k == An)=JO then(n,(env.cells.lookup n).getD 0)::c else c)
def fk{d:DL}{env:Ff}(h:∀ x∈d.names,x.2=.free->∃ c,env.cells.lookup x.1=O c):closureFor d env=pure (yr env d.names []):=by
 simp only[closureFor];have m:∀(names:List (j3×Dd))(f:List (j3×c7)),(∀ x∈names,x.2=.free->∃ c,env.cells.lookup x.1=O c) ->
  (forIn names f (λ(x:j3×Dd) (r:List (j3×c7))=>match x with | (g,kind)=>if (kind == An)=JO then(do let a <- cellOf env g; pure (BF ((g,a)::r))) else pure (BF r)):EH (List (j3×c7)))=pure (yr env names f):=by
  intro names
  induction names with
  | nil=>intro f _; rfl
  | cons x r q =>
   intro f o;obtain⟨n,k⟩:=x;rw[F9];have j:=q (if (k == An)=JO then(n,(env.cells.lookup n).getD 0)::f else f) λy s=>o y (Af _ s);by_cases i:(k == An)=JO
   ·obtain⟨c,p⟩:=o (n,k) Av (by simpa using i);have e:cellOf env n=pure c:=by unfold cellOf; rw[p]
    rw[y6 i] at j;have l:env.cells.lookup n=O c:=p;rw[l] at j;show(((if (k == An)=JO then(do let a <- cellOf env n; pure (BF ((n,a)::f))) else pure (BF f)):EH _) >>= _)=_;rw[y6 i,e];erw[Eq.trans ?_ (j.trans ?_)]
    ·rfl
    ·rw[yr,y6 i,l]
   ·rw[y4 i] at j;show(((if (k == An)=JO then(do let a <- cellOf env n; pure (BF ((n,a)::f))) else pure (BF f)):EH _) >>= _)=_;rw[y4 i];erw[Eq.trans ?_ (j.trans ?_)]
    ·rfl
    ·rw[yr,y4 i]
 rwa[congrArg (λ(z:EH (List (j3×c7)))=>z >>= λf=>pure f) (m d.names [] h)]
def tR{env:Ff} : ∀(names:List (j3×Dd))(l:List (j3×c7)),(∀ x∈names,x.2=.free->∃ c,env.cells.lookup x.1=O c) ->
  (∀ x c,l.lookup x=O c->env.cells.lookup x=O c)->∀ x c,(yr env names l).lookup x=O c->env.cells.lookup x=O c
 | [],_,_,g=>g
 | (n,k)::r,l,h,g=>by
  erw[tR r _ (λy m=>h y (Af _ m)) λx c=>?_];by_cases j:(k == An)=JO
  ·rw[y6 j];obtain⟨d,hd⟩:=h (n,k) Av (by simpa using j);have f:env.cells.lookup n=O d:=hd;intro e;rw[z9] at e;cases i:x == n with
   | true =>
    rw[i,f] at e;have ex:x=n:=by simpa using i
    rw[ex,f];rwa[e]
   | false =>
    rw[i] at e;rwa[g x c e]
  ·rw[y4 j];rwa[g x c]
def nQ{env:Ff} : ∀(names:List (j3×Dd))(g:List (j3×c7))(x:j3),((x,An)∈names\/∃ c,g.lookup x=O c)->∃ c,(yr env names g).lookup x=O c
 | [],_,_,h=>h.elim (λz=>nomatch z) id
 | (n,k)::r,g,x,h=>by
  erw[nQ r _ x ?_];by_cases f:(k == An)=JO
  ·rw[y6 f];cases d:x == n with
   | true=>rwa[.inr ⟨_,by rw[z9,d]⟩]
   | false =>
    rcases h with h | ⟨c,h⟩
    ·rcases o0.mp h with e | e
     ·injection e with e1 _
      subst e1;simp at d
     ·rwa[.inl e]
    ·rwa[.inr ⟨c,by rw[z9,d]; exact h⟩]
  ·rw[y4 f];rcases h with h | h
   ·rcases o0.mp h with e | e
    ·injection e with _ e2
     subst e2;rwa[y9 rfl f]
    ·rwa[.inl e]
   ·rwa[.inr h]
def qb{env:Ff} : ∀{names:List (j3×Dd)}{x:j3},names.lookup x=O .free ->
  (names.map λ(n,k)=>if (k == An&&env.scope.kind == .function&&env.kindOf n == O .cell) then(n,C5) else(n,k)).lookup x=O .cell \/
  (names.map λ(n,k)=>if (k == An&&env.scope.kind == .function&&env.kindOf n == O .cell) then(n,C5) else(n,k)).lookup x=O .free
 | [],_,h=>by simp at h
 | (n,k)::r,x,h=>by
  have d:=@qb env r x;show Ap x ((if (k == An&&env.scope.kind == .function&&env.kindOf n == O .cell)=JO then(n,C5) else(n,k))::_)=_\/Ap x ((if (k == An&&env.scope.kind == .function&&env.kindOf n == O .cell)=JO then(n,C5) else(n,k))::_)=_;by_cases e:(k == An&&env.scope.kind == .function&&env.kindOf n == O .cell)=JO
  ·rw[y6 e];cases c:x == n with
   | true=>rwa[.inl (by rw[z9,c])]
   | false =>
    rw[z9,c] at h;rw[z9,c];rwa[d h]
  ·rw[y4 e];cases c:x == n with
   | true =>
    rw[z9,c] at h;rwa[.inr (by rw[z9,c]; exact h)]
   | false =>
    rw[z9,c] at h;rw[z9,c];rwa[d h]
def yx{env:Ff} : ∀{names:List (j3×Dd)}{x:j3}{j:Dd},(∀ y∈names,y.2≠.cell)->(j=.cell\/j=.free) ->
  (names.map λ(n,k)=>if (k == An&&env.scope.kind == .function&&env.kindOf n == O .cell) then(n,C5) else(n,k)).lookup x=O j->(x,An)∈names
 | [],_,_,_,_,h=>by simp at h
 | (n,k)::r,x,j,i,d,h=>by
  have g:=@yx env r x j (λy m=>i y (Af _ m)) d;have f:k≠.cell:=i (n,k) Av
  replace h:Ap x ((if (k == An&&env.scope.kind == .function&&env.kindOf n == O .cell)=JO then(n,C5) else(n,k))::(r.map λ(n,k)=>if (k == An&&env.scope.kind == .function&&env.kindOf n == O .cell) then(n,C5) else(n,k)))=O j:=h
  by_cases e:(k == An&&env.scope.kind == .function&&env.kindOf n == O .cell)=JO
  ·rw[y6 e] at h;have o:k=.free:=by
    simp only[AT] at e;simpa using e.1.1
   cases c:x == n with
   | true =>
    have ex:x=n:=by simpa using c
    subst ex;rw[<- o];rwa[Av]
   | false =>
    rw[z9,c] at h;rwa[Af _ (g h)]
  ·rw[y4 e] at h;cases c:x == n with
   | true =>
    rw[z9,c] at h;have ex:x=n:=by simpa using c
    have l:k=j:=t7 h;subst ex;rcases d with d | d
    ·rwa[y9 (l.trans d) f]
    ·rw[<- d,<- l];rwa[Av]
   | false =>
    rw[z9,c] at h;rwa[Af _ (g h)]

def xA(X:Cx)(N:List j3)(d:DL)(c:CC):Cx where
 prog:=X.prog
 w:=X.w
 K:=X.K
 mg:=X.mg
 base:=X.base
 A:=X.A
 N:=N
 s₀:=c.s
 H₀:=c.H
 env:=compEnvC d (yr X.env d.names []) c.C X.env
 outer:=X.stack
 stack:=X.stack
 ex:=c.fp
 fn:=λ_=>JP
 calm:=X.calm
 pn:=[]
 xe:=λ_ _=>False

def mV(X:Cx)(c:DL):List (j3×Nat)->Prop
 | []=>True
 | p::r=>(X.N[p.2]?=O p.1/\c.names.lookup p.1=O .free/\(X.env.kindOf p.1=O .cell\/X.env.kindOf p.1=O .free))/\mV X c r
def mV.mem{X:Cx}{c:DL} : ∀{d:List (j3×Nat)},mV X c d->∀ p∈d,X.N[p.2]?=O p.1/\c.names.lookup p.1=O .free/\(X.env.kindOf p.1=O .cell\/X.env.kindOf p.1=O .free)
 | [],_,_,h=>nomatch h
 | q::r,h,p,f=>by
  rcases o0.mp f with e | e
  ·rw[e]; rwa[h.1]
  ·rwa[mV.mem h.2 p e]
structure tN(X:Cx)(caps:List (j3×Nat))(scope:DL):Prop where
 kind:scope.kind=.function
 nocell:∀ y∈scope.names,y.2≠.cell
 loc:∀ y∈scope.names,y.2=.local->scope.names.lookup y.1=O .local
 clos:(scope.names.all λx=>!(x.2 == .free)||(X.env.cells.lookup x.1).isSome)=JO
 cap:mV X scope caps
def tN.cells{X:Cx}{e:List (j3×Nat)}{d:DL}(S:tN X e d):∀ x∈d.names,x.2=.free->∃ c,X.env.cells.lookup x.1=O c:=λx f g=>by
 have h:=AU.mp S.clos x f;rw[g] at h;simp only[Bool.or_eq_true] at h;rcases h with h | h
 ·rwa[y9 h (by decide)]
 ·rwa[j7.mp h]

def jR(c:List (j3×Nat))(e:Nat)(d:St):St:=Bc e JN++c.map λp=>(d[p.2]?).join

def Ul(Y:Cx)(e:List Am)(t:TT):Prop :=
 ∀(f:List (c7×By))(s:d7)(d:St)(H:Hp)(Q:Bool->Hp->Prop),Inv Y f d H s->t d H Q ->
  wpAny (model Y.prog Y.w) Y.A (forIn e JO λc r=>if r=JO then do let ok <- isTrue c Y.env (eval c Y.env); pure (BF ok) else pure (BF r)) (TP Y f d Q) Y.xe s
def XW:TT:=λ_ H Q=>Q JO H
def yH{Y:Cx} : Ul Y [] XW:=λ_ _ _ H _ I h=>wpAny_tests_nil ⟨H,I,h⟩
def fS{Y:Cx}{c:Am}{t:TT}(h:PT Y c t):Ul Y [c] t:=λe s d H Q I q=>wpAny_tests_one (h e s d H Q I q)

def xf(J:It)(D:c7)(g:TG)(q:TT)(r:TE)(h:St)(u:Hp)(Q:VK):Prop :=
 ∃ W:Nat->Nat->St->List V->Hp->Prop,(∃ m,W 0 m h [] (upd u D (.lst [])))/\∀ i m j d H,W i m j d H->H D=O (.lst d) /\
  ((J.stop i H/\Q (.ref D) H)\/(J.go i H/\∃ N:St->List V->Hp->Prop,(∀ e l f,N e l f->∃ n,n<m/\W (i+1) n e l f)/\∀ x f,J.yld i H x f->g x j f λc s=>q c s λb p =>
   if b=JO then r c p λy o=>o D=O (.lst d)/\d.length<sizeLine/\N c (d++[y]) (upd o D (.lst (d++[y]))) else N c d p))
def WD(l:Nat)(d:List (j3×Nat))(h:TI)(g:CC->TG)(i:CC->TT)(j:CC->TE):TE:=λe H Q =>
 h e H λJ f=>∀(c:CC)(D:c7),f D=JN->xf J D (g c) (i c) (j c) (jR d l e) f Q

def jn{c:Type}{t:EH c}{Q d:c->d7->Prop}{M:GL}{A:Ac}{E:c6->d7->Prop}{s:d7}(h:wpAny M A t Q (λ_ _=>False) s)(e:∀ a s,Q a s->d a s):wpAny M A t d E s:=BA h e λ_ _ x=>x.elim
def Un.same{fs ex:List c7}{H g:Hp}{h h1 h2:w9}{C:c7}(u:Un fs ex H g h h1)(d:Bz C h1 h2)(l:h.get? C=JN):Un fs ex H g h h2:=by
 have ne:∀ b o,h.get? b=O o->b≠C:=λb o e z=>by rw[z,l] at e; cases e
 erw[λb o e n f c=>(d.2 b (ne b o e)).trans (u.keep b o e n f c),λb o e n f c=>?_,u.free,λb o e c=>?_,u.tups,u.frzs,u.tbls]
 ·obtain⟨i,q⟩:=u.slot b o e n f c;rwa[i,(d.2 b (ne b o e)).trans q]
 ·obtain⟨j,q⟩:=u.there b o e c;rwa[j,(d.2 b (ne b o e)).trans q]
def HOk.same{P:m9}{w:r9}{H:Hp}{h f:w9}{C:c7}(k:HOk P w H h)(g:Bz C h f)(d:H C=JN):HOk P w H f:=λb o e=>by
 refine(k b o e).stay (λc v i q=>(g.2 c ?_).trans q) (λ_ q=>q) λ_ _ q=>q;rintro rfl;rcases i with z | z
 ·rw[z,e] at d; cases d
 ·rw[d] at z; cases z

section
variable{X:Cx}{T:List j3}{caps:List (j3×Nat)}{scope:DL}{elt target iter:Am}{ifs:List Am}{pos:DD}{wi:TI}{g:CC->TG}{tt:CC->TT}{te:CC->TE}

def rj{JQ:List (c7×By)}{I:St}{H:Hp}{w:d7}{fp:List c7}{C D:c7}{h1:w9}{tk:Nat}{m:j3->Option c6}(S:tN X caps scope)(f:Inv X JQ I H w)(P:∀ b∈fp,eX X JQ H b)
  (hfp:∀ b∈fp,b<w.heap.objs.size) (N:w.heap.objs.size<=D) (hC:w.heap.objs.size<=C) (hDC:C≠D) (r:∀ b o,w.heap.get? b=O o->h1.get? b=O o)
  (acc:∃ n,h1.get? D=O { cls:=.type "list",data:=.seq ([]:List c6).toArray n }) (hn:h1.Ns C m) :
  Inv (xA X (T++caps.map (·.1)) scope ⟨C,w,H,fp⟩) [] (jR caps T.length I) (upd H D (.lst [])) { w with heap:=h1,toks:=tk }:=by
 have G:=tR (env:=X.env) scope.names [] S.cells (λ_ _ z=>by cases z);have j:∀ x c,X.env.cells.lookup x=O c->c<w.heap.objs.size:=λx c e=>by
  obtain⟨v,q⟩:=f.cell x c e;rwa[q.lt]
 have A:∀ b∈fp,b ∉ frs X.stack:=λb E z=>by
  rcases o0.mp (f.stkSub b z) with e | e
  ·exact(P b E).2.1 e
  ·exact(P b E).2.2.1 e
 have fr:H D=none:=f.hok.fresh N;refine⟨⟨f.ok.mod,S.kind,f.ok.glob,f.ok.blt,hC,λx y c e1 s=>f.ok.inj x y c (G x c e1) (G y c s),λx hx=>?_,λ_ _ z=>y9 (show JP=JO from z) l9,f.ok.hd,f.ok.frames,.inl rfl,λb E=>⟨?_,λx c e=>(P b E).2.2.2.2.1 x c (G x c e)⟩,
  λb o e=>f.bs b o e,f9 f.ok.bsz f.sz,λb o e E=>?_,A,f.stack,f.stkFree⟩,rfl,f.bare,?_,⟨m,hn,λi x v e1 s e3=>?_⟩,λx c e=>?_,?_,λx c e=>?_,λp J=>y9 (show p∈([]:List (c7×By)) from J) (by simp),?_,?_⟩
 ·have R:(x,An)∈scope.names:=by
   rcases hx with z | z
   ·rwa[yx S.nocell (.inl rfl) z]
   ·rwa[yx S.nocell (.inr rfl) z]
  rwa[nQ scope.names [] x (.inl R)]
 ·rwa[o9 (j5 (hfp b E) hC)]
 ·rcases (P b E).2.2.2.1 with z | z
  ·rwa[f.ok.noex b o e z]
  ·exact y9 (j5 (g9 (show X.base.get? b=O o from e)) (f9 f.ok.bsz z)) (Bh _)
 ·rwa[Un.laid r N fr]
 ·have hlt:¬ i<T.length:=λhi=>by
   unfold jR at s;rw[At (by simpa using hi),FL,y6 hi] at s;cases s
  have L:T.length<=i:=Hx hlt;have h:(T++caps.map (·.1))[i]?=O x:=e1;rw[v9 L,d9] at h;unfold jR at s;rw[v9 (by simpa using L),BI,d9] at s;cases J:caps[i-T.length]? with
  | none=>rw[J] at h; cases h
  | some p =>
   rw[J] at h s;have ex:p.1=x:=t7 h;have Q:(I[p.2]?).join=O v:=t7 s;obtain⟨hN,hf,hk⟩:=S.cap.mem p (f7 J);have ev':I[p.2]?=O (O v):=by
    cases hq:I[p.2]? with
    | none=>rw[hq] at Q; cases Q
    | some o =>
     rw[hq] at Q;rwa[congrArg O Q]
   obtain⟨m2,_,hl2⟩:=f.loc;obtain⟨u,ru,l⟩:=hl2 p.2 p.1 v hN ev' (hk.elim (λz=>.inr (.inl z)) λz=>.inr (.inr z));erw[u,ru,.inr ⟨?_,?_⟩]
   ·rw[<- ex];rwa[qb (env:=X.env) hf]
   ·rcases l with ⟨kl,_⟩ | ⟨_,c,ec,B⟩
    ·rcases hk with z | z <;>(rw[kl] at z; cases z)
    ·obtain⟨d,hd⟩:=nQ (env:=X.env) scope.names [] p.1 (.inl (BY hf));have M:=G p.1 d hd;rw[ec] at M;cases M;obtain⟨o,Z,Y⟩:=B;rwa[c,by rw[<- ex]; exact hd,o,r c o Z,Y]
 ·obtain⟨v,o,Z,hd⟩:=f.cell x c (G x c e);rwa[v,o,r c o Z,hd]
 ·show upd H D (.lst []) C=JN;rw[zD hDC];rwa[f.hok.fresh hC]
 ·show upd H D (.lst []) c=JN;rw[zD (o9 (j5 (j x c (G x c e)) N))];rwa[f.freeC x c (G x c e)]
 ·obtain⟨n,e⟩:=acc;rwa[f.hok.laid r N ⟨m7 _,[],n,.nil,e⟩]
 ·show(jR caps T.length I).length=(T++caps.map (·.1)).length;unfold jR;rw[f8,f8,b7,b7,BI]

def yO(S:tN X caps scope)(hc:X.calm=JO)(hi:PI X target iter wi)(hg:∀ c,PG (xA X (T++caps.map (·.1)) scope c) target (g c))(ht:∀ c,Ul (xA X (T++caps.map (·.1)) scope c) ifs (tt c))(he:∀ c,PE (xA X (T++caps.map (·.1)) scope c) elt (te c))
  (hs:∀ x,foldedSetIterable iter X.env x=pure x:=by intro _; rfl):PE X (.ListComp elt [⟨target,iter,ifs,0⟩] scope pos) (WD T.length caps wi g tt te):=by
 intro JQ s σ H Q I h;rw[eval_ListComp];erw[DC (use:=JN) rfl hs (fk S.cells) S.kind S.loc (thn (hi JQ s σ H _ I h) λv s1 h1=>thn h1 λitv f h2=>?_)];obtain⟨it,fp,tn,J,R,e,I2,TT,st2,f2,q2⟩:=h2;subst e;refine Ak (En S.nocell (by intro y hy; simp at hy) (λh1 hn M=>?_) S.kind);dsimp only at hn M ⊢;generalize hg2:f.heap.push { cls:=.type "list",dict:=JN,data:=.seq ([]:List c6).toArray }=G at hn M ⊢;have hCv:G.objs.size=f.heap.objs.size+1:=by rw[<- hg2,Ba]
 have hDC:G.objs.size≠f.heap.objs.size:=by rw[hCv]; rwa[Ec _]
 have l:f.heap.objs.size<=G.objs.size:=by rw[hCv]; rwa[Bb _]
 have old:∀ b o,f.heap.get? b=O o->h1.get? b=O o:=λb o e=>M.extBut b o (o9 (j5 (g9 e) l)) (c9 _ (hg2 ▸ c9 _ e));have hacc:∃ n,h1.get? f.heap.objs.size=O { cls:=.type "list",data:=.seq ([]:List c6).toArray n }:=⟨_,M.extBut _ _ (AR hDC) (c9 _ (hg2 ▸ i8 _ rfl))⟩;have hfp:∀ b∈fp,b<f.heap.objs.size:=λb j=>by
  obtain⟨o,e,_⟩:=TT.obj _ _ st2 b j;rwa[g9 e]
 have cs:=tR (env:=X.env) scope.names [] S.cells (λ_ _ z=>by cases z);have I0:=rj (T:=T) (tk:=f.toks+([]:List (j3×c6)).length) S I2 f2 hfp (e8 _) l hDC old hacc hn;have st0:tn 0 h1:=TT.keep _ _ _ st2 λb _ o e=>old b o e;obtain⟨W,⟨m0,w0⟩,turn⟩:=q2 ⟨G.objs.size,f,R,fp⟩ f.heap.objs.size (I2.hok.fresh (e8 _));have fr0:∀ b∈fp,upd R f.heap.objs.size (.lst []) b=none:=λb j=>by
  rw[zD (o9 (hfp b j))];exact(f2 b j).1
 have C:∀{D:Hp},(∀ b∈fp,D b=JN)->∀ b∈fp,eX (xA X (T++caps.map (·.1)) scope ⟨G.objs.size,f,R,fp⟩) [] D b:=λ{D} hn' b j =>
  ⟨hn' b j,o9 (j5 (hfp b j) l),I0.ok.exfs b j,.inl j,λx c e=>(f2 b j).2.2.2.2.1 x c (cs x c e),λp hp=>y9 (show p∈([]:List (c7×By)) from hp) (by simp)⟩
 have P:codeAny (model X.prog X.w) X.A (.compLoop (.ListComp elt [⟨target,iter,ifs,0⟩] scope pos) 0 (.ref it) (.ref f.heap.objs.size) (compEnvC scope (yr X.env scope.names []) G.objs.size X.env))
   (compPost (model X.prog X.w) X.A X.xe JN (EP X JQ σ Q) (.ref f.heap.objs.size) G.objs.size) { f with heap:=h1,toks:=f.toks+([]:List (j3×c6)).length }:=by
  erw[codeAny_loop rfl (λn s'=>∃ i B Y D,Inv (xA X (T++caps.map (·.1)) scope ⟨G.objs.size,f,R,fp⟩) [] B D s'/\tn i s'.heap/\(∀ b∈fp,D b=JN)/\W i n B Y D) (λn s3 hI=>?_) m0 ⟨0,_,[],_,I0,st0,fr0,w0⟩];obtain⟨i,L,Y,H3,I3,st3,fr3,w3⟩:=hI;show wpAny _ X.A ((compTurn (.ListComp elt [⟨target,iter,ifs,0⟩] scope pos) 0 (.ref it) (.ref f.heap.objs.size) (compEnvC scope (yr X.env scope.names []) G.objs.size X.env)).onRaise (λx=>do noteFrame x (compEnvC scope (yr X.env scope.names []) G.objs.size X.env); theTreesLotGoes x)) _ _ s3;erw[HX ?_];rw[compTurn_list];erw[b9 (C4 (b9 ?_))];obtain⟨hD3,Z⟩:=turn i n L Y H3 w3;rcases Z with ⟨stop,qn⟩ | ⟨go,N,hN,step⟩
  ·erw[jn (TT.done (xA X (T++caps.map (·.1)) scope ⟨G.objs.size,f,R,fp⟩) rfl rfl rfl hc i [] s3 L H3 _ I3 (C fr3) st3 stop) λr s4 ⟨hr,I4⟩=>?_];subst hr;erw[e9 ?_];show ∃ m,s4.heap.Ns G.objs.size m/\∀ h',Bz G.objs.size s4.heap h'->EP X JQ σ Q (.ref f.heap.objs.size) { s4 with heap:=h' };obtain⟨m4,hn4,_⟩:=I4.loc;erw[m4,hn4,λh' sb=>⟨.ref f.heap.objs.size,H3,?_,rfl,qn⟩];refine I2.call' (s':={ s4 with heap:=h' }) (ch:=fp) I4.os (Un.same I4.base sb (El l)) (HOk.same I4.hok sb I4.free) I4.bare λb j=>?_;obtain⟨_,f1,_,f3,f4,f5⟩:=f2 b j;rwa[f3,f1,f4,f5]
  ·refine jn (TT.item (xA X (T++caps.map (·.1)) scope ⟨G.objs.size,f,R,fp⟩) rfl rfl rfl hc i [] s3 L H3 _ I3 (C fr3) st3 go) λr s4 ⟨u,hr,h4⟩=>?_;subst hr;refine b9 (jn h4 λ_ s5 ⟨x,H5,I5,r5,y5,st5,fr5⟩=>?_);have I5':=I5.pinned (C fr5) (TT.obj _ _ st5);refine b9 (jn (hg _ _ s5 L H5 x u _ I5' r5 (step x H5 y5)) λ_ s6 ⟨E,H6,I6,q6⟩=>?_);have again:∀{s7:d7}{q:St}{zs:List V}{H7:Hp},Inv (xA X (T++caps.map (·.1)) scope ⟨G.objs.size,f,R,fp⟩) ([]++ni fp s5.heap) q H7 s7->N q zs H7 ->
     ∃ m,m<n/\∃ i B Y D,Inv (xA X (T++caps.map (·.1)) scope ⟨G.objs.size,f,R,fp⟩) [] B D s7/\tn i s7.heap/\(∀ b∈fp,D b=JN)/\W i m B Y D:=λ{s7 q zs H7} I7 n7=>by
    obtain⟨m',hm,w7⟩:=hN q zs H7 n7;erw[m',hm,i+1,q,zs,H7,I7.unpinned,TT.keep _ _ _ st5 λb j o e=>(I7.pin (b,o) (o8 _ (o8 _ (uE j e)))).1,λb j=>?_,w7];obtain⟨o,e,d⟩:=TT.obj _ _ st5 b j;exact(I7.pin (b,o) (o8 _ (o8 _ (uE j e)))).2.1
   erw[b9 (jn (ht _ _ s6 E H6 _ I6 q6) λok s7 ⟨H7,I7,q7⟩=>?_)];cases ok with
   | false=>rwa[e9 ⟨rfl,again I7 q7⟩]
   | true =>
    erw[b9 (b9 (jn (he _ _ s7 E H7 _ I7 q7) λy s8 ⟨yv,H8,I8,r8,hD8,hl8,q8⟩=>?_))];erw[b9 (jn (wa _ s8 E H8 (.ref f.heap.objs.size) [yv] (.ref f.heap.objs.size) [y] (λ_ H9=>N E (Y++[yv]) H9) I8 rfl (.cons r8 .nil) ⟨_,Y,yv,rfl,rfl,hD8,hl8,q8⟩) λ_ s9 ⟨_,H9,I9,_,q9⟩=>?_)];rwa[e9 (e9 ⟨rfl,again I9 q9⟩)]
 rwa[codeAny_compStart_list P (TT.self _ 0 _ _ _ st0 P)]
end
end L2

namespace L2

def qf:bootBuiltins "len" = O (.builtin "len"):=by ac_nf
def Ts:bootBuiltins "abs" = O (.builtin "abs"):=by ac_nf
def iL:bootBuiltins "all" = O (.builtin "all"):=by ac_nf
def Ua:bootBuiltins "max" = O (.builtin "max"):=by ac_nf
def aV:bootBuiltins "min" = O (.builtin "min"):=by ac_nf
def lT:bootBuiltins "isinstance" = O (.builtin "isinstance"):=by ac_nf
def XZ:bootBuiltins "int" = O (.type "int"):=by ac_nf
def ZK:bootBuiltins "bool" = O (.type "bool"):=by ac_nf
def Wl:bootBuiltins "str" = O (.type "str"):=by ac_nf
def rZ:bootBuiltins "list" = O (.type "list"):=by ac_nf
def lR:bootBuiltins "tuple" = O (.type "tuple"):=by ac_nf
def TU:bootBuiltins "zip" = O (.type "zip"):=by ac_nf

def Has(P:m9)(w:r9)(K:c5)(mg:j3->Option c6)(base:w9)(x:j3)(n:Nat)(c:List j3)(sp:Sp):Prop :=
 ∃(f:c7)(fd:AJ),yQ P w K mg base CX0 n f fd c sp/\uh K fd c []/\AI K (.ref f)=JO/\mg x=O (.ref f)
section
variable{X:Cx}{x:j3}{p pos:DD}{e:Am}{es:List Am}{t:TA}{n:Nat}{ps:List j3}{sp:Sp}
def wD(h:Has X.prog X.w X.K X.mg X.base x n ps sp)(g:zv n X.A)(i:Gl X x)(l:PA X (e::es) t)(d:(x ==("__debug__" : j3))=false:=by decide)
  (j:starEach (e::es) X.env=(JP,eval e X.env)::starEach es X.env:=by rfl) (c:(backTo pos (starEach es X.env)).any (·.1)=false:=by rfl):PE X (.Call (.Name x p) (e::es) [] pos) (ap sp [] E0 t):=by
 obtain⟨f,fd,F,b,k,m⟩:=h;rwa[WN F g i m k b .nil cv l d j c]
end

section
variable{X:Cx}
def yy(i j:Int):Prop:=0<j/\j.natAbs<2^4096
def Xx:OpR X (binaryOp .FloorDiv) (rI yy λi j=>.int (i/j)):=opI λi j _ _ _ _ _ c q=>by
 have h1:(0:Int)<j:=c.1;have h3:j.natAbs.log2<9000:=Jo ((Nat.log2_lt (by lia)).mpr c.2) (by decide);rwa[floordiv_int (by lia) (by rw[Int.fdiv_eq_ediv_of_nonneg i (by lia)]; exact q) (.inl (PyProof.noPylong_of_log2 h3))]
def yy.of{i j:Int}(h:0<j)(h2:j<10^600):yy i j:=by
 exists h;have e:(10:Nat)^600<2^4096:=by ac_nf
 lia
def gP:uH X (.builtin "isinstance") (λc H Q=>E4 λx T t b=>A4 (c=[x,.ty T]) (TyOf X.K H x t) (CL X.K t (.type T)=O b) (Q (.bl b) H)):=by
 intro j s g H c i Q I r h;obtain⟨x,T,t,b,rfl,ty,e,q⟩:=h;obtain⟨u,v,rfl,ru,f⟩:=yN.two r;cases f;rwa[aG I ru ty e λd=>⟨.bl b,H,I.tok d,rfl,q⟩]

def Sq(K:c5)(H:Hp)(p:c7)(c:List V):Prop:=SqL K H p c\/SqT K H p c
inductive RIx(K:c5)(x y:V)(H:Hp)(Q:VK):Prop where
 | mk (p:c7) (xs:List V) (i:Int) (v:V) (ex:x=.ref p) (ey:y=.int i) (sq:Sq K H p xs) (at':atI xs i=O v) (q:Q v H)
def rIxA(K:c5):R2:=λx y H Q=>RIx K x y H Q
def bK:IxR X (rIxA X.K):=by
 intro value slice n s d H x y v u Q I g f q h;obtain⟨p,e,i,z,m,l,c,j,q⟩:=q;rcases c with c | c
 ·rwa[VU value slice n s d H x y v u Q I g f ⟨p,e,i,z,m,l,c,j,q⟩ h]
 ·rwa[Tp value slice n s d H x y v u Q I g f ⟨p,e,i,z,m,l,c,j,q⟩ h]
def iSeq(K:c5)(tl:TE):TI:=λe H R=>tl e H λx c=>∃ a,x=.ref a/\(((∃ d,SqL K c a d)/\R (Itl K a) c)\/((∃ d,SqT K c a d)/\R (Itt K a) c))
def yT{u l:Am}{tl:TE}(B:PE X l tl):PI X u l (iSeq X.K tl):=by
 intro m s n H R I h;refine thn (B m s n H _ I h) λv c ⟨x,i,d,y,z⟩=>?_;obtain⟨a,e,q⟩:=z;subst e;cases y;have own:∀ b,b∈[c.heap.objs.size]->eX X m i b:=λb j=>by
  rw[f6] at j;subst j;rwa[d.fpOk (e8 _) (d.hok.fresh (e8 _))]
 rcases q with ⟨⟨r,g⟩,q⟩ | ⟨⟨r,g⟩,q⟩
 ·obtain⟨f,w,p,A⟩:=d.list g;rwa[C9 p.isList ⟨c.heap.objs.size,[c.heap.objs.size],_,_,i,rfl,d.kept (t':=c.toks) λb o e=>c9 _ e,iA a _,⟨_,i8 _ rfl,rfl,rfl⟩,own,q⟩]
 ·obtain⟨f,w,p,A⟩:=d.tuple g;exact GW (show c.heap.IsTuple a f.toArray from p) ⟨c.heap.objs.size,[c.heap.objs.size],_,_,i,rfl,d.kept (t':=c.toks) λb o e=>c9 _ e,ce a _,⟨_,i8 _ rfl,rfl,rfl⟩,own,q⟩
end

section
variable{K:c5}{a D:c7}{xs:List V}{g:TG}{tt:TT}{te:TE}{σ0:St}{H1:Hp}{Q:VK}
def Zu(h:Nat->St->List V->Hp->Prop)(h0:h 0 σ0 [] (upd H1 D (.lst [])))(u:∀ i d c H,i<=xs.length->h i d c H->SqL K H a xs/\H D=O (.lst c))
  (s:∀ i x d c H,xs[i]?=O x->h i d c H->g x d H λf v=>tt f v λb n =>
   if b=JO then te f n λy l=>l D=O (.lst c)/\c.length<sizeLine/\h (i+1) f (c++[y]) (upd l D (.lst (c++[y]))) else h (i+1) f c n)
  (hd:∀ d c H,h xs.length d c H->Q (.ref D) H):xf (Itl K a) D g tt te σ0 H1 Q:=by
 exists λi m d c H=>m=xs.length-i/\i<=xs.length/\h i d c H,⟨xs.length,by simp,m7 _,h0⟩;rintro i m d c H ⟨rfl,hi,p⟩;obtain⟨q,r⟩:=u i d c H hi p;exists r;by_cases j:i<xs.length
 ·erw[.inr ⟨⟨xs,xs[i],q,by simp[j]⟩,h (i+1),λo A w z=>⟨xs.length-(i+1),by lia,rfl,j,z⟩,λx w y=>?_⟩];obtain⟨e,y⟩:=y;subst e;rwa[s i x d c _ (y xs q) p]
 ·have e:i=xs.length:=by lia
  subst e;rwa[.inl ⟨⟨xs,q,e8 _⟩,hd d c H p⟩]
def XA(h:Nat->St->List V->Hp->Prop)(h0:h 0 σ0 [] (upd H1 D (.lst [])))(u:∀ i d c H,i<=xs.length->h i d c H->SqT K H a xs/\H D=O (.lst c))
  (s:∀ i x d c H,xs[i]?=O x->h i d c H->g x d H λf v=>tt f v λb n =>
   if b=JO then te f n λy l=>l D=O (.lst c)/\c.length<sizeLine/\h (i+1) f (c++[y]) (upd l D (.lst (c++[y]))) else h (i+1) f c n)
  (hd:∀ d c H,h xs.length d c H->Q (.ref D) H):xf (Itt K a) D g tt te σ0 H1 Q:=by
 exists λi m d c H=>m=xs.length-i/\i<=xs.length/\h i d c H,⟨xs.length,by simp,m7 _,h0⟩;rintro i m d c H ⟨rfl,hi,p⟩;obtain⟨q,r⟩:=u i d c H hi p;exists r;by_cases j:i<xs.length
 ·erw[.inr ⟨⟨xs,xs[i],q,by simp[j]⟩,h (i+1),λo A w z=>⟨xs.length-(i+1),by lia,rfl,j,z⟩,λx w y=>?_⟩];obtain⟨e,y⟩:=y;subst e;rwa[s i x d c _ (y xs q) p]
 ·have e:i=xs.length:=by lia
  subst e;rwa[.inl ⟨⟨xs,q,e8 _⟩,hd d c H p⟩]
def mM{lo:Int}{n:Nat}(h:Nat->St->List V->Hp->Prop)(h0:h 0 σ0 [] (upd H1 D (.lst [])))(u:∀ i d c H,i<=n->h i d c H->H D=O (.lst c))
  (s:∀ i d c H,i<n->h i d c H->g (.int (lo+i)) d H λf v=>tt f v λb o =>
   if b=JO then te f o λy l=>l D=O (.lst c)/\c.length<sizeLine/\h (i+1) f (c++[y]) (upd l D (.lst (c++[y]))) else h (i+1) f c o)
  (hd:∀ d c H,h n d c H->Q (.ref D) H):xf (Itr lo n) D g tt te σ0 H1 Q:=by
 exists λi m d c H=>m=n-i/\i<=n/\h i d c H,⟨n,by simp,m7 _,h0⟩;rintro i m d c H ⟨rfl,hi,p⟩;have r:=u i d c H hi p;exists r;by_cases j:i<n
 ·erw[.inr ⟨j,h (i+1),λq A w z=>⟨n-(i+1),by lia,rfl,j,z⟩,λx w y=>?_⟩];obtain⟨e,y⟩:=y;subst e y;rwa[s i d c _ j p]
 ·have e:i=n:=by lia
  subst e;rwa[.inl ⟨e8 _,hd d c H p⟩]
end
section
variable{K:c5}{a D:c7}{xs:List V}{g:TG}{te:TE}{σ0:St}{H1:Hp}{Q:VK}
def yI(f:Nat->St->List V->Hp->Prop)(h0:f 0 σ0 [] (upd H1 D (.lst [])))(m:∀ i d c H,i<=xs.length->f i d c H->SqL K H a xs/\H D=O (.lst c))
  (l:∀ i x d c H,xs[i]?=O x->f i d c H->g x d H λh n=>te h n λy j=>j D=O (.lst c)/\c.length<sizeLine/\f (i+1) h (c++[y]) (upd j D (.lst (c++[y]))))
  (hd:∀ d c H,f xs.length d c H->Q (.ref D) H):xf (Itl K a) D g XW te σ0 H1 Q:=Zu f h0 m (λi x d c H e p=>l i x d c H e p) hd
def nJ(f:Nat->St->List V->Hp->Prop)(h0:f 0 σ0 [] (upd H1 D (.lst [])))(m:∀ i d c H,i<=xs.length->f i d c H->SqT K H a xs/\H D=O (.lst c))
  (l:∀ i x d c H,xs[i]?=O x->f i d c H->g x d H λh n=>te h n λy j=>j D=O (.lst c)/\c.length<sizeLine/\f (i+1) h (c++[y]) (upd j D (.lst (c++[y]))))
  (hd:∀ d c H,f xs.length d c H->Q (.ref D) H):xf (Itt K a) D g XW te σ0 H1 Q:=XA f h0 m (λi x d c H e p=>l i x d c H e p) hd
def nW{lo:Int}{n:Nat}(f:Nat->St->List V->Hp->Prop)(h0:f 0 σ0 [] (upd H1 D (.lst [])))(m:∀ i d c H,i<=n->f i d c H->H D=O (.lst c))
  (l:∀ i d c H,i<n->f i d c H->g (.int (lo+i)) d H λh o=>te h o λy j=>j D=O (.lst c)/\c.length<sizeLine/\f (i+1) h (c++[y]) (upd j D (.lst (c++[y]))))
  (hd:∀ d c H,f n d c H->Q (.ref D) H):xf (Itr lo n) D g XW te σ0 H1 Q:=mM f h0 m (λi d c H e p=>l i d c H e p) hd
end
end L2

namespace L2
def ao:∀ bs:List Bool,(Au bs.length).all (λi=>(bs[i]?).getD JO)=bs.all id:=by
 intro bs;rw[CV,AU,AU];constructor
 ·intro h b d;obtain⟨i,hi,e⟩:=AV d;have q:=h i (BR.mpr hi);rw[c8 hi,e] at q;rwa[q]
 ·intro h i hi;have c:=BR.mp hi;rw[c8 c];rwa[h _ (Ag c)]
def Ym{bs:List Bool}{c:List c6}(r:yN (bs.map V.bl) c){i:Nat}{v:c6}(h:c[i]?=O v):v=.bool ((bs[i]?).getD JO):=by
 have f:=r.length;rw[b7] at f;have hi:i<c.length:=(d8.mp h).1;have d:i<bs.length:=by lia
 obtain⟨u,e,ru⟩:=r.get (i:=i) (x:=.bl bs[i]) (by rw[d9,c8 d]; rfl);rw[e] at h;cases h;rw[c8 d];rwa[ru]
section
variable{X:Cx}
def zg(x:X.calm=JO):uH X (.builtin "all") (λg H Q=>E2 λ(p:c7) (bs:List Bool)=>A3 (g=[.ref p]) (SqL X.K H p (bs.map V.bl)) (Q (.bl (bs.all id)) H)):=by
 intro L s C H g D Q I r h;obtain⟨p,bs,rfl,n,q⟩:=h;obtain⟨u,rfl,ru⟩:=yN.one r;cases ru;obtain⟨c,j,f,G⟩:=I.list n;have d:p<s.heap.objs.size:=by
  obtain⟨_,e,_⟩:=f.isList;rwa[g9 e]
 erw[call_all_walk (C9 f.isList ?_)];refine⟨s.heap.objs.size,_,_,_,_,_,λi=>(bs[i]?).getD JO,U,JH (A:=X.A.in1) (show X.A.in1.handled=JN from I.ok.hd x) _ p (o9 d) c.toArray,⟨⟨_,i8 _ rfl,U,U⟩,Heap.IsList.push f.isList _⟩,λi v s Q E B y=>?_,λJ m k=>?_⟩
 ·have e:=Ym j (by simpa using B);subst e;rwa[BB y]
 ·have e:(Au c.toArray.size).all (λi=>(bs[i]?).getD JO)=bs.all id:=by
   have l:=j.length;rw[b7] at l;rw[g6,<- l];rwa[ao bs]
  rw[e];exact⟨.bl (bs.all id),H,I.kept (t':=m) λb o z=>k b o (λw=>by rw[f6] at w; rwa[Bh _ (w ▸ g9 z)]) (c9 _ z),rfl,q⟩
end
end L2

namespace L2

def SI(b:Bool)(h:w9)(i l:c7)(k:Nat):Prop:=match b with | true=>h.IsListIter i l k | false=>h.IsTupleIter i l k
def SS(b:Bool)(h:w9)(l:c7)(c:Array c6):Prop:=match b with | true=>h.IsList l c | false=>h.IsTuple l c
def jQ(b:Bool):String:=match b with | true => "list_iterator" | false => "tuple_iterator"
def SI.obj{b:Bool}{h:w9}{i l:c7}{k:Nat}(x:SI b h i l k):∃ o,h.get? i=O o/\o.cls=.type (jQ b)/\o.data=.fields #[.ref l,.int k 0]:=by
 cases b <;> rwa[x]
def SI.of{b:Bool}{h:w9}{i l:c7}{k:Nat}(x:∃ o,h.get? i=O o/\o.cls=.type (jQ b)/\o.data=.fields #[.ref l,.int k 0]):SI b h i l k:=by
 cases b <;> rwa[x]
def SI.at{b:Bool}{h c:w9}{i l:c7}{k:Nat}(x:SI b h i l k)(e:∀ o,h.get? i=O o->c.get? i=O o):SI b c i l k:=by
 obtain⟨o,d,r⟩:=x.obj;rwa[SI.of ⟨o,e o d,r⟩]
def SS.at{b:Bool}{h d:w9}{l:c7}{c:Array c6}(x:SS b h l c)(e:∀ o,h.get? l=O o->d.get? l=O o):SS b d l c:=by
 cases b <;>(obtain⟨o,f,r⟩:=x; rwa[o,e o f,r])
def SS.obj{b:Bool}{h:w9}{l:c7}{c:Array c6}(x:SS b h l c):∃ o,h.get? l=O o/\o.cls=.type (match b with | true => "list" | false => "tuple"):=by
 cases b <;>(obtain⟨o,d,e,_⟩:=x; rwa[o,d,e])
section
variable{prog:m9}{w:r9}{A:Ac}{E:c6->d7->Prop}{s:d7}
def XC{i l:c7}{k:Nat}{d:Array c6}{y:c6}{Q:c6->d7->Prop}(g:s.heap.IsTupleIter i l k)(o:s.heap.IsTuple l d)(m:d[k]?=O y)
  (n:∀ j,j.IsTupleIter i l (k+1)->Bz i s.heap j->Q y { s with heap:=j }):wpAny (model prog w) A (Aj (.ref i)) Q E s:=by
 obtain⟨ob,e,p,c⟩:=id g;obtain⟨q,f,_,r,h⟩:=o;unfold Aj;erw[b9 (AY (name:=B6 "__next__") g.typeIs Cg (Bj Cg g.typeIs EI ?_ (Ey _)))];show wpAny _ _ (field (.ref i) 0 >>= _) _ _ s;erw[b9 (AO e c (x:=.ref l) rfl ?_)];show wpAny _ _ (if (j8 l == AA)=JO then _ else _) _ _ s; rw[y4 (show ¬ ((j8 l == AA)=JO) from l9)];show wpAny _ _ (field (.ref i) 1 >>= _) _ _ s;erw[b9 (AO e c (x:=.int k 0) rfl ?_)];show wpAny _ _ (seqItems? (.ref l) >>= _) _ _ s; erw[b9 (Ch f h ?_)];simp only[Bq,m];erw[b9 (CM e c (by simp) (e9 ⟨y,rfl,e9 (n _ ?_ (Dv ..))⟩))];rwa[_,Cn _ e (C7 (BN c _)),(Fq ..).trans p,by rw[BN c]; simp[rawInt]]
def VA{i l:c7}{k:Nat}{c:Array c6}{Q:c6->d7->Prop}(p:A.handled=JN)(g:s.heap.IsTupleIter i l k)(r:s.heap.IsTuple l c)(q:c[k]?=JN)
  (u:∀ n e,HY i s.heap n->(∃ o,n.get? e=O o/\o.cls=.type "StopIteration")->E (.ref e) { s with heap:=n }):wpAny (model prog w) A (Aj (.ref i)) Q E s:=by
 obtain⟨ob,f,v,j⟩:=id g;obtain⟨y,d,_,z,h⟩:=r;unfold Aj;erw[b9 (AY (name:=B6 "__next__") g.typeIs Cg (Bj Cg g.typeIs EI ?_ (Ey _)))];show wpAny _ _ (field (.ref i) 0 >>= _) _ _ s;erw[b9 (AO f j (x:=.ref l) rfl ?_)];show wpAny _ _ (if (j8 l == AA)=JO then _ else _) _ _ s; rw[y4 (show ¬ ((j8 l == AA)=JO) from l9)];show wpAny _ _ (field (.ref i) 1 >>= _) _ _ s;erw[b9 (AO f j (x:=.int k 0) rfl ?_)];show wpAny _ _ (seqItems? (.ref l) >>= _) _ _ s; erw[b9 (Ch d h ?_)];simp only[Bq,q];erw[b9 (DE (b9 (CM f j (by simp) ?_)))];show wpAny _ _ (newExc (.type "StopIteration") [] >>= _) _ _ _; erw[b9 ?_]; simp only[newExc,newTuple];erw[b9 (Ak ?_ (by size_fits))]; refine b9 (m:=firstArgMember _ _) (wpAny_of_eq (a:=AA) (by first | rfl | (simp only[firstArgMember]; rfl)) ?_);erw[Ak ?_ (by size_fits)]; simp only[raiseNew]; erw[b9 (wpAny_handled ?_)]
 first | rw[show A.in1.handled=JN from p] | rw[p]
 erw[b9 (e9 (wpAny_throw ?_))]; rwa[u _ _ (((Dv ..).extBut.push _).push _) ⟨_,i8 _ rfl,rfl⟩]
def fh{b:Bool}{i l:c7}{k:Nat}{c:Array c6}{y:c6}{Q:c6->d7->Prop}(h:SI b s.heap i l k)(g:SS b s.heap l c)(e:c[k]?=O y)
  (f:∀ d,SI b d i l (k+1)->Bz i s.heap d->Q y { s with heap:=d }):wpAny (model prog w) A (Aj (.ref i)) Q E s:=by
 cases b
 ·rwa[XC h g e f]
 ·rwa[wpAny_nextOf_list_item h g e f]
def XI{b:Bool}{i l:c7}{k:Nat}{c:Array c6}{Q:c6->d7->Prop}(m:A.handled=JN)(h:SI b s.heap i l k)(g:SS b s.heap l c)(f:c[k]?=JN)
  (j:∀ d e,HY i s.heap d->(∃ o,d.get? e=O o/\o.cls=.type "StopIteration")->E (.ref e) { s with heap:=d }):wpAny (model prog w) A (Aj (.ref i)) Q E s:=by
 cases b
 ·rwa[VA m h g f j]
 ·rwa[wpAny_nextOf_list_end m h g f j]
def XU{b:Bool}{l:c7}{c:Array c6}{Q:c6->d7->Prop}(d:SS b s.heap l c)(h:Q (.ref s.heap.objs.size) { s with heap:=s.heap.push { cls:=.type (jQ b),data:=.fields #[.ref l,.int 0 0] } }) :
  wpAny (model prog w) A (pyIter (.ref l)) Q E s:=by
 cases b
 ·rwa[GW d h]
 ·rwa[C9 d h]

def Zn{M L:Bool}{z TI TO g f u r:c7}{k:Nat}{xs Z:Array c6}{x y a b:c6}{Q:c6->d7->Prop}(D:ZipApart z TI TO g f u r)
  (B:FN s.heap z TI TO .none) (hI:Df s.heap TI (.ref g) (.ref f)) (hO:Df s.heap TO a b) (h1:SI M s.heap g u k) (h2:SI L s.heap f r k) (g1:SS M s.heap u xs) (g2:SS L s.heap r Z)
  (hx:xs[k]?=O x) (hy:Z[k]?=O y)
  (hQ:∀ i,FN i z TI TO (rawInt s.heap.objs.size)->Df i TO x y->SI M i g u (k+1)->SI L i f r (k+1)->Df i s.heap.objs.size x y ->
   (∀ c o,c≠z->c≠TO->c≠g->c≠f->s.heap.get? c=O o->i.get? c=O o)->Q (.ref s.heap.objs.size) { s with heap:=i }) :
  wpAny (model prog w) A (Di.«zip.__next__» ⟨[.ref z],[]⟩) (λS s'=>∃ v,S=.done (.ret v)/\Q v s') E s:=by
 show wpAny _ _ (field (.ref z) 2 >>= _) _ _ _; erw[b9 (AO B rfl (x:=.bool JP) rfl ?_)];show wpAny _ _ (field (.ref z) 3 >>= _) _ _ _; erw[b9 (AO B rfl (x:=.ref TI) rfl ?_)];erw[b9 (Ch hI rfl ?_)];show wpAny _ _ (Bs (.ref z) >>= _) _ _ _; erw[b9 ?_]; unfold Bs;erw[b9 (AO B rfl (x:=.none) rfl (e9 ?_))]; simp only[if_true];erw[b9 (DE ?_)]; erw[b9 (AO B rfl (x:=.ref TO) rfl ?_)];erw[b9 (Ci B (by simp) λk1 P h=>?_)]; replace P:FN k1 z TI TO .ellipsis:=P;erw[b9 ?_]; simp only[Dl,Ic,F9,Iv];erw[b9 (b9 (FG ?_))]; show wpAny _ _ (Aj (.ref g) >>= _) _ _ _
 erw[b9 (fh (h1.at λo e=>h.extBut _ o D.i1z e) (g1.at λo e=>h.extBut _ o D.l1z e) hx λk2 q2 m=>e9 ?_)];have o2:Df k2 TO a b:=m.extBut _ _ D.TOi1 (h.extBut _ _ D.TOz hO);erw[b9 (Ch o2 rfl ?_)];erw[b9 (Eo o2 λk3 R l=>?_)]; replace R:Df k3 TO x b:=R;erw[b9 (HZ (e9 ?_))]; erw[b9 (b9 (FG ?_))]; show wpAny _ _ (Aj (.ref f) >>= _) _ _ _
 erw[b9 (fh (h2.at λo e=>l.extBut _ o D.TOi2.symm (m.extBut _ o D.i12.symm (h.extBut _ o D.i2z e))) (g2.at λo e=>l.extBut _ o D.l2TO (m.extBut _ o D.l2i1 (h.extBut _ o D.l2z e))) hy λk4 q4 q=>e9 ?_)];have o4:Df k4 TO x b:=q.extBut _ _ D.TOi2 R;erw[b9 (Ch o4 rfl ?_)];erw[b9 (Eo o4 λd I p=>?_)]; replace I:Df d TO x y:=I;erw[b9 (HZ (e9 (e9 ?_)))];erw[b9 (Ch I rfl ?_)]; erw[b9 (Gv ?_)];have C:d.objs.size=s.heap.objs.size:=by rw[p.1,q.1,l.1,m.1,h.1]
 have Y:FN d z TI TO .ellipsis:=p.extBut _ _ D.TOz.symm (q.extBut _ _ D.i2z.symm (l.extBut _ _ D.TOz.symm (m.extBut _ _ D.i1z.symm P)));have kp:∀ c o,c≠z->c≠TO->c≠g->c≠f->s.heap.get? c=O o->d.get? c=O o:=λc o j c2 X T e=>p.extBut _ _ c2 (q.extBut _ _ T (l.extBut _ _ c2 (m.extBut _ _ X (h.extBut _ _ j e))));have a5:SI M d g u (k+1):=q2.at λo e=>p.extBut _ o D.TOi1.symm (q.extBut _ o D.i12 (l.extBut _ o D.TOi1.symm e));have b5:SI L d f r (k+1):=q4.at λo e=>p.extBut _ o D.TOi2.symm e;have n:z<d.objs.size:=g9 Y;show wpAny _ _ (Dw (.ref z) (.ref d.objs.size) >>= _) _ _ _; erw[b9 ?_]; unfold Dw;have z6:FN (d.push { cls:=.type "tuple",data:=.seq #[x,y] }) z TI TO .ellipsis:=c9 _ Y;erw[b9 (Ci z6 (by simp) λk7 N s7=>?_)]; replace N:FN k7 z TI TO (rawInt d.objs.size):=N;erw[Ci N (by simp) λJ G s8=>?_]; replace G:FN J z TI TO (rawInt d.objs.size):=G;have H:∀ c o,c≠z->d.get? c=O o->J.get? c=O o:=λc o j e=>s8.extBut _ _ j (s7.extBut _ _ j (c9 _ e));have t8:Df J d.objs.size x y:=s8.extBut _ _ (Ct n) (s7.extBut _ _ (Ct n) (i8 _ rfl));rw[C] at G t8;erw[e9 ⟨_,rfl,?_⟩]; show Q (.ref d.objs.size) _
 rw[C];rwa[hQ J G (H _ _ D.TOz I) (a5.at λo e=>H _ o D.i1z e) (b5.at λo e=>H _ o D.i2z e) t8 λc o j c2 X T e=>H c o j (kp c o j c2 X T e)]
def Yq{b1 b2:Bool}{z TI TO n m G C:c7}{k:Nat}{y v:Array c6}{a b:c6}{Q:Fin->d7->Prop}(Y:A.handled=JN)(D:ZipApart z TI TO n m G C)
  (p:FN s.heap z TI TO .none) (hI:Df s.heap TI (.ref n) (.ref m)) (hO:Df s.heap TO a b) (h1:SI b1 s.heap n G k) (h2:SI b2 s.heap m C k) (g1:SS b1 s.heap G y) (g2:SS b2 s.heap C v)
  (q:y[k]?=JN\/v[k]?=JN)
  (Z:∀ L e,(∀ c o,c≠z->c≠TO->c≠n->c≠m->s.heap.get? c=O o->L.get? c=O o)->(∃ o,L.get? e=O o/\o.cls=.type "StopIteration")->E (.ref e) { s with heap:=L }) :
  wpAny (model prog w) A (Di.«zip.__next__» ⟨[.ref z],[]⟩) Q E s:=by
 show wpAny _ _ (field (.ref z) 2 >>= _) _ _ _; erw[b9 (AO p rfl (x:=.bool JP) rfl ?_)];show wpAny _ _ (field (.ref z) 3 >>= _) _ _ _; erw[b9 (AO p rfl (x:=.ref TI) rfl ?_)];erw[b9 (Ch hI rfl ?_)];show wpAny _ _ (Bs (.ref z) >>= _) _ _ _; erw[b9 ?_]; unfold Bs;erw[b9 (AO p rfl (x:=.none) rfl (e9 ?_))]; simp only[if_true];erw[b9 (DE ?_)]; erw[b9 (AO p rfl (x:=.ref TO) rfl ?_)];erw[b9 (Ci p (by simp) λk1 u g=>?_)]; replace u:FN k1 z TI TO .ellipsis:=u;erw[b9 ?_]; simp only[Dl,Ic,F9,Iv];erw[b9 (b9 (FG ?_))]; show wpAny _ _ (Aj (.ref n) >>= _) _ _ _
 cases I:y[k]? with
 | none =>
  erw[b9 (XI Y (h1.at λo e=>g.extBut _ o D.i1z e) (g1.at λo e=>g.extBut _ o D.l1z e) I λH e i J=>?_)];obtain⟨B,d,f⟩:=J;have P:FN H z TI TO .ellipsis:=i _ _ D.i1z.symm u;have l:e≠z:=λx=>by subst x; rw[P] at d; cases d; simp at f
  erw[Ci P (by simp) λX _ j=>Z X e (λc o r _ M _ x=>j.extBut _ _ r (i _ _ M (g.extBut _ _ r x))) ⟨B,j.extBut _ _ l d,f⟩]
 | some x =>
  have hy:v[k]?=none:=by
   rcases q with h | h
   ·rw[I] at h; cases h
   ·rwa[h]
  erw[b9 (fh (h1.at λo e=>g.extBut _ o D.i1z e) (g1.at λo e=>g.extBut _ o D.l1z e) I λH q2 i=>e9 ?_)];have T:Df H TO a b:=i.extBut _ _ D.TOi1 (g.extBut _ _ D.TOz hO);erw[b9 (Ch T rfl ?_)]; erw[b9 (Eo T λX o3 j=>?_)];erw[b9 (HZ (e9 ?_))]; erw[b9 (b9 (FG ?_))]; show wpAny _ _ (Aj (.ref m) >>= _) _ _ _
  erw[b9 (XI Y (h2.at λo e=>j.extBut _ o D.TOi2.symm (i.extBut _ o D.i12.symm (g.extBut _ o D.i2z e))) (g2.at λo e=>j.extBut _ o D.l2TO (i.extBut _ o D.l2i1 (g.extBut _ o D.l2z e))) hy λk4 e S J=>?_)];obtain⟨B,d,f⟩:=J;have N:FN k4 z TI TO .ellipsis:=S _ _ D.i2z.symm (j.extBut _ _ D.TOz.symm (i.extBut _ _ D.i1z.symm u));have l:e≠z:=λx=>by subst x; rw[N] at d; cases d; simp at f
  erw[Ci N (by simp) λk5 _ R=>Z k5 e (λc o r c2 M c4 x=>R.extBut _ _ r (S _ _ c4 (j.extBut _ _ c2 (i.extBut _ _ M (g.extBut _ _ r x))))) ⟨B,R.extBut _ _ l d,f⟩]
def Wg(f e:Bool)(d c:c7)(h:w9):w9 :=
 ((((h.push { cls:=.type (jQ f),data:=.fields #[.ref d,.int 0 0] }).push { cls:=.type (jQ e),data:=.fields #[.ref c,.int 0 0] }).push { cls:=.type "tuple",data:=.seq #[.ref h.objs.size,.ref (h.objs.size+1)] }).push { cls:=.type "tuple",data:=.seq #[.none,.none] }).push { cls:=.type "zip",data:=.fields #[.none,.bool JP,.bool JP,.ref (h.objs.size+2),.ref (h.objs.size+3)] }
def Yw(i p:Bool)(c f:c7)(r q:Array c6) :
  Meets (Di.«zip.__new__» ⟨[.type "zip",.ref c,.ref f],[]⟩) (λ_ R s=>SS i s.heap c r/\SS p s.heap f q /\
   R (.ok (.ret (.ref (s.heap.objs.size+4)))) { s with heap:=Wg i p c f s.heap }) :=
 .of_wp λprog w A R s h=>by
  obtain⟨x,g,d,u,os⟩:=s;obtain⟨l,j,h⟩:=h;have v:=sub_zip;have n:SS i (Jy ⟨x,g,d,u,os⟩) c r:=l;have m:SS p (Jy ⟨x.push { cls:=.type (jQ i),data:=.fields #[.ref c,.int 0 0] },g,d,u,os⟩) f q:=SS.at j λo e=>c9 _ e
  wp_walk using XU n,XU m
  exists _,rfl;simp only[Wg,Ba] at h ⊢;rwa[h]
def ai{j i:Bool}{g f:c7}{C B:Array c6}{Q:c6->d7->Prop}(u:SS j s.heap g C)(r:SS i s.heap f B)
  (h:∀ e,FN e (s.heap.objs.size+4) (s.heap.objs.size+2) (s.heap.objs.size+3) .none->Df e (s.heap.objs.size+2) (.ref s.heap.objs.size) (.ref (s.heap.objs.size+1))->Df e (s.heap.objs.size+3) .none .none ->
   SI j e s.heap.objs.size g 0->SI i e (s.heap.objs.size+1) f 0->(∀ c o,s.heap.get? c=O o->e.get? c=O o)->Q (.ref (s.heap.objs.size+4)) { s with heap:=e }) :
  wpAny (model prog w) A (call (.type "zip") [.ref g,.ref f]) Q E s:=by
 erw[callType_new F.called_zip (by decide) (F.typeCall_zip_2 _ _) (F.newCall_zip_2 _ _) (λobj=>F.args_object_init_3 obj _ _) F.entry_zip_new (Yw j i g f C B) ⟨u,r,?_⟩];unfold Wg;generalize z:s.heap.push { cls:=.type (jQ j),data:=.fields #[.ref g,.int 0 0] }=p;have n1:p.objs.size=s.heap.objs.size+1:=by rw[<- z,Ba]
 generalize y:p.push { cls:=.type (jQ i),data:=.fields #[.ref f,.int 0 0] }=l;have n2:l.objs.size=s.heap.objs.size+2:=by rw[<- y,Ba,n1]
 generalize x:l.push { cls:=.type "tuple",data:=.seq #[.ref s.heap.objs.size,.ref (s.heap.objs.size+1)] }=n;have n3:n.objs.size=s.heap.objs.size+3:=by rw[<- x,Ba,n2]
 generalize v:n.push { cls:=.type "tuple",data:=.seq #[.none,.none] }=m;have n4:m.objs.size=s.heap.objs.size+4:=by rw[<- v,Ba,n3]
 generalize L:m.push { cls:=.type "zip",data:=.fields #[.none,.bool JP,.bool JP,.ref (s.heap.objs.size+2),.ref (s.heap.objs.size+3)] }=d;have D:∀ c o,m.get? c=O o->d.get? c=O o:=λc o q=>L ▸ c9 _ q;have G:∀ c o,n.get? c=O o->d.get? c=O o:=λc o q=>D c o (v ▸ c9 _ q);have H:∀ c o,l.get? c=O o->d.get? c=O o:=λc o q=>G c o (x ▸ c9 _ q);have I:∀ c o,p.get? c=O o->d.get? c=O o:=λc o q=>H c o (y ▸ c9 _ q);have M:∀ c o,s.heap.get? c=O o->d.get? c=O o:=λc o q=>I c o (z ▸ c9 _ q);have J:FN d (s.heap.objs.size+4) (s.heap.objs.size+2) (s.heap.objs.size+3) .none:=by
  rw[<- n4,<- L];rwa[i8 _ rfl]
 have N:Df d (s.heap.objs.size+3) .none .none:=by
  rw[<- n3];rwa[D _ _ (by rw[<- v]; exact i8 _ rfl)]
 have P:Df d (s.heap.objs.size+2) (.ref s.heap.objs.size) (.ref (s.heap.objs.size+1)):=by
  have q:=G l.objs.size _ (by rw[<- x]; rwa[i8 _ rfl]);rw[n2] at q;rwa[q]
 have R:SI i d (s.heap.objs.size+1) f 0:=by
  rw[<- n1];rwa[SI.of ⟨_,H _ _ (by rw[<- y]; exact i8 _ rfl),rfl,rfl⟩]
 have S:SI j d s.heap.objs.size g 0:=SI.of ⟨_,I _ _ (by rw[<- z]; rwa[i8 _ rfl]),rfl,rfl⟩;rwa[⟨_,J,rfl⟩,h d J P N S R M]
end
end L2

namespace L2
def SqB(b:Bool)(K:c5)(H:Hp)(l:c7)(c:List V):Prop:=match b with | true=>SqL K H l c | false=>SqT K H l c
def Inv.sqB{X:Cx}{f:List (c7×By)}{e:St}{H:Hp}{s:d7}{b:Bool}{l:c7}{d:List V}(I:Inv X f e H s)(h:SqB b X.K H l d):∃ c:List c6,yN d c/\SS b s.heap l c.toArray/\d.length<=sizeLine:=by
 cases b with
 | true =>
  obtain⟨c,r,p,z⟩:=I.list h;rwa[c,r,p.isList,z]
 | false =>
  obtain⟨c,r,p,z⟩:=I.tuple h;rwa[c,r,p,z]
def Inv.sqB_inj{X:Cx}{f:List (c7×By)}{e:St}{H:Hp}{s:d7}{b:Bool}{l:c7}{d c:List V}(I:Inv X f e H s)(h:SqB b X.K H l d)(h':SqB b X.K H l c):d=c:=by
 cases b with
 | true=>rwa[I.list_inj h h']
 | false=>rwa[I.tuple_inj h h']
def Itz(K:c5)(h g:Bool)(f e:c7):It :=
 ⟨λk H=>∃ d c x y,SqB h K H f d/\SqB g K H e c/\d[k]?=O x/\c[k]?=O y,
   λk H v i=>∃ T x y,v=.ref T/\H T=JN/\i=upd H T (.tup [x,y])/\(∀ d,SqB h K H f d->d[k]?=O x)/\(∀ c,SqB g K H e c->c[k]?=O y),
   λk H=>∃ d c,SqB h K H f d/\SqB g K H e c/\(d.length<=k\/c.length<=k)⟩
def ZY{P:m9}{w:r9}{K:c5}{elts:List Am}{kt:Nat}{pt:DD}{b1 b2:Bool}{z TI TO j i l1 l2:c7}(D:ZipApart z TI TO j i l1 l2) :
  WP P w K (.Tuple elts kt pt) (Itz K b1 b2 l1 l2) [z,TI,TO,j,i] z (λk h=>FN h z TI TO .none/\Df h TI (.ref j) (.ref i)/\(∃ a b,Df h TO a b)/\SI b1 h j l1 k/\SI b2 h i l2 k) where
 mem:=by simp
 obj:=λk h st b g=>by
  obtain⟨A,B,⟨a',b',L⟩,h1,h2⟩:=st;obtain⟨o1,g1,_,d1⟩:=h1.obj;obtain⟨o2,g2,_,d2⟩:=h2.obj;simp only[o0,As,or_false] at g;rcases g with rfl | rfl | rfl | rfl | rfl
  ·rwa[_,A,λv e=>by cases e]
  ·rwa[_,B,λv e=>by cases e]
  ·rwa[_,L,λv e=>by cases e]
  ·exact⟨_,g1,λv e=>by rw[d1] at e; cases e⟩
  ·exact⟨_,g2,λv e=>by rw[d2] at e; cases e⟩
 keep:=λk h h' st kp=>by
  obtain⟨A,B,⟨a',b',L⟩,h1,h2⟩:=st;rwa[kp z (by simp) _ A,kp TI (by simp) _ B,⟨a',b',kp TO (by simp) _ L⟩,h1.at λo e=>kp j (by simp) o e,h2.at λo e=>kp i (by simp) o e]
 item:=by
  intro X hP hw hK d k JQ s σ H E I J st hg;subst hP hw hK;obtain⟨A,B,⟨a',b',L⟩,h1,h2⟩:=st;obtain⟨xs,ys,x,y,q1,q2,hx,hy⟩:=hg;obtain⟨G,r1,p1,_⟩:=I.sqB q1;obtain⟨C,r2,p2,_⟩:=I.sqB q2;obtain⟨u1,e1,v1⟩:=r1.get hx;obtain⟨u2,e2,v2⟩:=r2.get hy;have Z:s.TypeIs (.ref z) "zip" :=⟨_,A,rfl⟩;have fresh:H s.heap.objs.size=none:=I.hok.fresh (e8 _);unfold pyNext;refine b9 (Ej (AY (name:=B6 "__next__") Z Ez (Bj Ez Z HA (Zn D A B L h1 h2 p1 p2 (by simpa using e1) (by simpa using e2) λh' z1 o1 j1 j2 t1 kp=>e9 ?_) (Hb _))));refine⟨_,rfl,wpAny_letOwnedTupleGo_zip z1 λh2' z2 S=>?_⟩;have f:∀ c o,c ∉ [z,TO,j,i]->s.heap.get? c=O o->h2'.get? c=O o:=λc o d e=>by
   simp only[o0,As,or_false,not_or] at d;rwa[S.extBut c o d.1 (kp c o d.1 d.2.1 d.2.2.1 d.2.2.2 e)]
  have N:∀ c∈[z,TO,j,i],c∈[z,TI,TO,j,i]:=λc d=>by
   simp only[o0,As,or_false] at d ⊢;rcases d with e | e | e | e <;> simp[e]
  have neT:∀ b o,s.heap.get? b=O o->b≠s.heap.objs.size:=λb o e=>o9 (g9 e);have p:∀ b o,H b=O o->b ∉ [z,TO,j,i]:=λb o e g=>by
   rw[(J b (N b g)).1] at e;cases e
  have l:∀ b o,H b=O o->upd H s.heap.objs.size (.tup [x,y]) b=O o:=λb o e=>by
   rw[zD (zG e fresh)];rwa[e]
  erw[.ref s.heap.objs.size,upd H s.heap.objs.size (.tup [x,y]),?_,rfl,⟨_,x,y,rfl,fresh,rfl,λM Q=>by rw[I.sqB_inj Q q1]; exact hx,λM Q=>by rw[I.sqB_inj Q q2]; rwa[hy]⟩,?_,λb g=>?_]
  ·refine Inv.step (s:=s) (h':=h2') (g':=s.gens) (d':=s.drawn) (t':=s.toks) (ch:=[z,TO,j,i]) I (λb g=>?_) (λb o _ _ d e _=>f b o d e) (λb o _ _ d e _=>⟨o.slots,f b o d e⟩) (λb o _ e n=>?_) (λb o d e=>⟨o,f b o d e⟩)
    (λb M e=>l b _ e) (λb o M e=>l b _ e) (λb ps e=>⟨#[],by rw[l b _ e]; simp⟩) (λm hm=>?_) (λb o e=>?_) I.bare
   ·obtain⟨_,f1,_,f3,f4,f5⟩:=J b (N b g);rwa[f3,f1,f4,f5]
   ·rw[zD (neT b o e)];rwa[n]
   ·obtain⟨o,es,ep,ho,r⟩:=hm;erw[o,es,ep,f _ o (λg=>?_) ho,r];exact(J _ (N _ g)).2.1 rfl
   ·by_cases g:b=s.heap.objs.size
    ·subst g;rw[zA] at e;cases e;exact⟨by show 2<=sizeLine; decide,[u1,u2],.cons v1 (.cons v2 .nil),_,S.extBut _ _ (Ct (g9 A)) t1,rfl,_,rfl⟩
    ·rw[zD g] at e;refine(I.hok b o e).stay (λc u d q=>f c u ?_ q) (λc q=>l c _ q) λc M q=>l c _ q;rcases d with d | d
     ·rw[d]; rwa[p b o e]
     ·rwa[p c _ d]
  ·rwa[z2,S.extBut _ _ D.TIz (kp _ _ D.TIz D.TITO D.TIi1 D.TIi2 B),⟨_,_,S.extBut _ _ D.TOz o1⟩,j1.at λo e=>S.extBut _ o D.i1z e,j2.at λo e=>S.extBut _ o D.i2z e]
  ·obtain⟨o,e,_⟩:∃ o,s.heap.get? b=O o/\True:=by
    obtain⟨o1,g1,_⟩:=h1.obj;obtain⟨o2,g2,_⟩:=h2.obj;simp only[o0,As,or_false] at g;rcases g with rfl | rfl | rfl | rfl | rfl
    ·rwa[_,A,trivial]
    ·rwa[_,B,trivial]
    ·rwa[_,L,trivial]
    ·rwa[_,g1,trivial]
    ·rwa[_,g2,trivial]
   rw[zD (neT b o e)];exact(J b g).1
 done:=by
  intro X hP hw hK d k JQ s σ H E I J st hg;subst hP hw hK;obtain⟨A,B,⟨a',b',L⟩,h1,h2⟩:=st;obtain⟨xs,ys,q1,q2,Y⟩:=hg;obtain⟨G,r1,p1,_⟩:=I.sqB q1;obtain⟨C,r2,p2,_⟩:=I.sqB q2;have Z:s.TypeIs (.ref z) "zip" :=⟨_,A,rfl⟩;have R:G.toArray[k]?=JN\/C.toArray[k]?=none:=by
   have l1':=r1.length;have l2':=r2.length;rcases Y with h | h
   ·rwa[.inl (B7 (by rw[g6]; lia))]
   ·rwa[.inr (B7 (by rw[g6]; lia))]
  have N:∀ c∈[z,TO,j,i],c∈[z,TI,TO,j,i]:=λc d=>by
   simp only[o0,As,or_false] at d ⊢;rcases d with e | e | e | e <;> simp[e]
  have p:∀ b o,H b=O o->b ∉ [z,TO,j,i]:=λb o e g=>by
   rw[(J b (N b g)).1] at e;cases e
  unfold pyNext;refine b9 (Ej (AY (name:=B6 "__next__") Z Ez (Bj Ez Z HA (Yq (I.ok.hd d) D A B L h1 h2 p1 p2 R λh' e kp he=>?_) (Hb _))));obtain⟨oe,hoe,hce⟩:=he;refine b9 (HC (T := "StopIteration") (b:=JO) ⟨oe,hoe,hce⟩ isSubtype_stop (e9 ⟨rfl,?_⟩));have f:∀ c o,c ∉ [z,TO,j,i]->s.heap.get? c=O o->h'.get? c=O o:=λc o d e=>by
   simp only[o0,As,or_false,not_or] at d;rwa[kp c o d.1 d.2.1 d.2.2.1 d.2.2.2 e]
  refine I.step (g':=s.gens) (d':=s.drawn) (t':=s.toks) (ch:=[z,TO,j,i]) (λb g=>?_) (λb o _ _ d e _=>f b o d e) (λb o _ _ d e _=>⟨o.slots,f b o d e⟩) (λb o _ e n=>n) (λb o d e=>⟨o,f b o d e⟩)
   (λb M e=>e) (λb o M e=>e) (λb ps e=>⟨#[],by rw[e]; simp⟩) (λm hm=>?_) (λb o e=>?_) I.bare
  ·obtain⟨_,f1,_,f3,f4,f5⟩:=J b (N b g);rwa[f3,f1,f4,f5]
  ·obtain⟨o,es,ep,ho,r⟩:=hm;erw[o,es,ep,f _ o (λg=>?_) ho,r];exact(J _ (N _ g)).2.1 rfl
  ·refine(I.hok b o e).stay (λc u d q=>f c u ?_ q) (λc q=>q) λc M q=>q;rcases d with d | d
   ·rw[d]; rwa[p b o e]
   ·rwa[p c _ d]
 self:=λ_ _ _ _ _ st h=>HD st.1 h
section
variable{X:Cx}
def iZip(K:c5)(m:TA):TI:=λh H R=>m h H λl e=>E6 λ(g f:Bool) (d c:c7) (j i:List V)=>A4 (l=[.ref d,.ref c]) (SqB g K e d j) (SqB f K e c i) (R (Itz K g f d c) e)
def UC{f:List Am}{B:Nat}{pt:DD}{a b:Am}{j:TA}{p pos:DD}(J:Gl X "zip")(G:X.mg "zip" = JN)(L:PA X [a,b] j)(E:starEach [a,b] X.env=[(JP,eval a X.env),(JP,eval b X.env)]:=by rfl)(c:starEach [b] X.env=[(JP,eval b X.env)]:=by rfl) :
  PI X (.Tuple f B pt) (.Call (.Name "zip" p) [a,b] [] pos) (iZip X.K j):=by
 intro Y s u H R I h;refine Call_ (lN I J G TU (BZ (thn (L pos Y s u H _ I h) λus i ⟨vs,Z,g,x,y⟩=>?_) (by rw[E,c]) (by rw[c]; rfl)));obtain⟨b1,b2,A,z,xs,ys,e,Q,P,q⟩:=y;subst e;obtain⟨u1,u2,rfl,w,v⟩:=yN.two x;cases w;cases v;obtain⟨m,_,p1,_⟩:=g.sqB Q;obtain⟨l,_,p2,_⟩:=g.sqB P;have T:A<i.heap.objs.size:=by
  obtain⟨o,e,_⟩:=p1.obj;rwa[g9 e]
 have S:z<i.heap.objs.size:=by
  obtain⟨o,e,_⟩:=p2.obj;rwa[g9 e]
 refine ai p1 p2 λh' n N M D C kp=>?_;refine HD n ?_;refine⟨_,_,_,_,Z,U,g.kept (t':=i.toks) kp,ZY (zipApart_new T S),⟨n,N,⟨_,_,M⟩,D,C⟩,λb r=>?_,q⟩;have d:i.heap.objs.size<=b:=by
  simp only[o0,As,or_false] at r;rcases r with rfl | rfl | rfl | rfl | rfl <;> lia
 rwa[g.fpOk d (g.hok.fresh d)]
end
section
variable{K:c5}{b1 b2:Bool}{l1 l2 D:c7}{xs ys:List V}{g:TG}{tt:TT}{te:TE}{σ0:St}{H1:Hp}{Q:VK}
def Xg(h:Nat->St->List V->Hp->Prop)(h0:h 0 σ0 [] (upd H1 D (.lst [])))(C:∀ i d c H,h i d c H->SqB b1 K H l1 xs/\SqB b2 K H l2 ys/\H D=O (.lst c))
  (B:∀ i x y T d c H,xs[i]?=O x->ys[i]?=O y->H T=JN->h i d c H->g (.ref T) d (upd H T (.tup [x,y])) λf I=>tt f I λb q =>
   if b=JO then te f q λz o=>o D=O (.lst c)/\c.length<sizeLine/\h (i+1) f (c++[z]) (upd o D (.lst (c++[z]))) else h (i+1) f c q)
  (hd:∀ d c H,h (min xs.length ys.length) d c H->Q (.ref D) H):xf (Itz K b1 b2 l1 l2) D g tt te σ0 H1 Q:=by
 exists λi m d c H=>m=min xs.length ys.length-i/\i<=min xs.length ys.length/\h i d c H,⟨_,U,m7 _,h0⟩;rintro i m d c H ⟨rfl,hi,p⟩;obtain⟨l,j,A⟩:=C i d c H p;exists A;by_cases n:i<min xs.length ys.length
 ·have G:i<xs.length:=by lia
  have c2:i<ys.length:=by lia
  erw[.inr ⟨⟨xs,ys,xs[i],ys[i],l,j,by simp[G],by simp[c2]⟩,h (i+1),λr s J z=>⟨min xs.length ys.length-(i+1),by lia,rfl,n,z⟩,λv J y=>?_⟩];obtain⟨T,x,y,rfl,E,rfl,w,u⟩:=y;rwa[B i x y T d c H (w xs l) (u ys j) E p]
 ·have e:i=min xs.length ys.length:=by lia
  subst e;rwa[.inl ⟨⟨xs,ys,l,j,by lia⟩,hd d c H p⟩]
def jV(e:Nat->St->List V->Hp->Prop)(h0:e 0 σ0 [] (upd H1 D (.lst [])))(l:∀ i d c H,e i d c H->SqB b1 K H l1 xs/\SqB b2 K H l2 ys/\H D=O (.lst c))
  (j:∀ i x y T d c H,xs[i]?=O x->ys[i]?=O y->H T=JN->e i d c H->g (.ref T) d (upd H T (.tup [x,y])) λf q=>te f q λz h=>h D=O (.lst c)/\c.length<sizeLine/\e (i+1) f (c++[z]) (upd h D (.lst (c++[z]))))
  (hd:∀ d c H,e (min xs.length ys.length) d c H->Q (.ref D) H):xf (Itz K b1 b2 l1 l2) D g XW te σ0 H1 Q:=Xg e h0 l (λi x y T d c H o n m p=>j i x y T d c H o n m p) hd
end
end L2

namespace L2
def ifD{p A B:Prop}[Decidable p](h1:p->A)(h2:¬ p->B):if decide p=JO then A else B:=by
 by_cases h:p
 ·rw[y6 (y7 h)]; rwa[h1 h]
 ·rw[y4 (by rw[y8 h]; rwa[l9])]; rwa[h2 h]
def ifN{p A B:Prop}[Decidable p](h1:¬ p->A)(h2:p->B):if (!decide p)=JO then A else B:=by
 by_cases h:p
 ·rw[y4 (by rw[y7 h]; rwa[l9])]; rwa[h2 h]
 ·rw[y6 (by rw[y8 h]; rfl)]; rwa[h1 h]
def ifE{x y:Int}{A B:Prop}(h1:x=y->A)(h2:x≠y->B):if decide (V.int x=V.int y)=JO then A else B :=
 ifD (λh=>h1 (V.int.inj h)) λh=>h2 λe=>h (congrArg V.int e)
def Si{x y:Int}{A B:Prop}(h1:x≠y->A)(h2:x=y->B):if (!decide (V.int x=V.int y))=JO then A else B :=
 ifN (λh=>h1 λe=>h (congrArg V.int e)) λh=>h2 (V.int.inj h)
def decI{x y:Int}(h:x=y):decide (V.int x=V.int y)=true:=y7 (congrArg V.int h)
def zB{H:Hp}{p:c7}(h:H p=JN)(o:HO):Same H (upd H p o):=λb u q=>by rw[zD (zG q h)]; rwa[q]
def Sq.same{K:c5}{H d:Hp}{a:c7}{c:List V}(h:Sq K H a c)(e:Same H d):Sq K d a c:=by
 rcases h with h | h
 ·rwa[.inl (e.seq h)]
 ·erw[.inr ?_];rcases h with h | h
  ·rcases h with h | ⟨o,h⟩
   ·rwa[.inl (.inl (e _ _ h))]
   ·rwa[.inl (.inr ⟨o,e _ _ h⟩)]
  ·rwa[.inr h]
def xS{ns:List Int}{i:Nat}{x:V}(h:(ns.map V.int)[i]?=O x):∃ n,ns[i]?=O n/\x=.int n:=by
 rw[d9] at h;cases e:ns[i]? with
 | none=>rw[e] at h; cases h
 | some n=>rw[e] at h; rwa[n,rfl,(t7 h).symm]
def yZ{c:Type}{l:List c}{i:Nat}{x:c}(h:l[i]?=O x):l.take (i+1)=l.take i++[x]:=by
 rw[x6,h]; rfl
def ul{n:Nat}(h:n<=1000):n<=sizeLine:=Bu (zL h)
def SqT.same{K:c5}{H d:Hp}{a:c7}{c:List V}(h:SqT K H a c)(e:Same H d):SqT K d a c:=by
 rcases h with h | h
 ·rcases h with h | ⟨o,h⟩
  ·rwa[.inl (.inl (e _ _ h))]
  ·rwa[.inl (.inr ⟨o,e _ _ h⟩)]
 ·rwa[.inr h]
def Yi(t:TT):Prop:=∀(c:St)(H:Hp)(Q d:Bool->Hp->Prop),(∀ b e,Q b e->d b e)->t c H Q->t c H d
def jC(t:TE):Prop:=∀(c:St)(H:Hp)(Q d:VK),(∀ b e,Q b e->d b e)->t c H Q->t c H d
def Xb(t:TA):Prop:=∀(c:St)(H:Hp)(Q d:List V->Hp->Prop),(∀ b e,Q b e->d b e)->t c H Q->t c H d
def TV(r:R2):Prop:=∀(x y:V)(H:Hp)(Q c:VK),(∀ b d,Q b d->c b d)->r x y H Q->r x y H c
def Tz(r:List V->Hp->VK->Prop):Prop:=∀(c:List V)(H:Hp)(Q d:VK),(∀ b e,Q b e->d b e)->r c H Q->r c H d
def iz{i:Nat} : jC (Us i):=λ_ _ _ _ c ⟨v,e,z⟩=>⟨v,e,c _ _ z⟩
def mo_c{v:V} : jC (tC v):=λ_ _ _ _ c z=>c _ _ z
def Uv{r:R2}{e d:TE}(f:TV r)(i:jC e)(h:jC d):jC (tOp r e d):=λc _ _ _ g z=>i c _ _ _ (λ_ _ z=>h c _ _ _ (λ_ _ z=>f _ _ _ _ _ g z) z) z
def Vz{g:Int->Int->V} : TV (rI0 g):=λ_ _ _ _ _ c ⟨i,j,e,d,z⟩=>⟨i,j,e,d,c _ _ z⟩
def gR{t:TE}(h:jC t):Yi (Yx t):=λc _ _ _ d z=>h c _ _ _ (λ_ _ ⟨k,e,z⟩=>⟨k,e,d _ _ z⟩) z
def Sw{t u:TT}(h:Yi t)(e:Yi u):Yi (tAnd t u):=λc _ _ _ d z=>h c _ _ _ (λb _ z=>by
 cases b with
 | true=>rwa[e c _ _ _ d z]
 | false=>rwa[d _ _ z]) z
def Wj:Xb Tk:=λ_ _ _ _ c z=>c _ _ z
def Zh{d:TE}{e:TA}(h:jC d)(g:Xb e):Xb (Vs d e):=λc _ _ _ f z=>h c _ _ _ (λ_ _ z=>g c _ _ _ (λ_ _ z=>f _ _ z) z) z
def UX{r:List V->Hp->VK->Prop}{t:TA}(d:Tz r)(h:Xb t):jC (tCB r t):=λc _ _ _ e z=>h c _ _ _ (λ_ _ z=>d _ _ _ _ e z) z
def Wq{K:c5} : Tz (λd H Q=>E2 λp c=>A3 (d=[.ref p]) (SqL K H p c\/SqT K H p c) (Q (.int c.length) H)):=λ_ _ _ _ f ⟨p,c,e,s,z⟩=>⟨p,c,e,s,f _ _ z⟩
def yo(ns:List Int)(lo hi:Option Int):qy (ns.map V.int) lo hi=((ns.drop (HT.sIx ns.length 0 lo)).take (HT.sIx ns.length ns.length hi-HT.sIx ns.length 0 lo)).map V.int:=by
 unfold qy;rw[b7,Ek,FH]
end L2

namespace L2
def Sr{A:Ac}{s:d7}{d c:List Int}{f e:List c6}(m:yN (d.map V.int) f)(l:yN (c.map V.int) e):∀ j (h1:j<f.toArray.size) (h2:j<e.toArray.size),
  Eb A s f.toArray[j] e.toArray[j] (decide (d[j]?=c[j]?)):=λj h1 h2=>by
 have r:=m.length;have q:=l.length;rw[b7] at r q;have C:j<f.length:=by simpa using h1
 have B:j<e.length:=by simpa using h2
 have o:j<d.length:=by lia
 have n:j<c.length:=by lia
 obtain⟨u,y,t,ru⟩:=m.get (i:=j) (x:=.int d[j]) (by rw[d9,c8 o]; rfl);obtain⟨w,v,p,g⟩:=l.get (i:=j) (x:=.int c[j]) (by rw[d9,c8 n]; rfl);have G:f.toArray[j]=.int d[j] t:=by
  have z:=c8 C;rw[y] at z;rw[Gw,<- t7 z,ru]
 have E:e.toArray[j]=.int c[j] p:=by
  have z:=c8 B;rw[v] at z;rw[Gw,<- t7 z,g]
 rw[G,E];have D:decide (d[j]?=c[j]?)=(d[j] == c[j]):=by
  rw[c8 o,c8 n];by_cases h:d[j]=c[j]
  ·rw[h]; simp
  ·rw[y8 (λz=>h (t7 z))];exact(x4.mpr h).symm
 rw[D];rwa[DG _ _ _ _]
def Vw{c d:List Int} : ((Au (min c.length d.length)).all (λj=>decide (c[j]?=d[j]?))&&c.length == d.length)=decide (c=d):=by
 by_cases h:c=d
 ·subst h;rw[y7 rfl,AT];rwa[AU.mpr λj _=>y7 rfl,by simp]
 ·rw[y8 h,Bool.and_eq_false_iff];by_cases e:c.length=d.length
  ·left;rw[Fs];intro z;apply h;rw[AU] at z;erw[DS λj=>?_];by_cases f:j<c.length
   ·rwa[of_decide_eq_true (z j (BR.mpr (by lia)))]
   ·rw[BJ (by lia),BJ (by lia)]
  ·right;rwa[x4.mpr e]
section
variable{X:Cx}
def rEqT(K:c5)(neg:Bool):R2:=λx y H Q=>E4 λ(a b:c7) (d c:List Int)=>A5 (x=.ref a) (y=.ref b) (SqT K H a (d.map V.int)) (SqT K H b (c.map V.int)) (Q (.bl (if neg then !decide (d=c) else decide (d=c))) H)
def ag(r:X.A.units<cLine):OpR X (compareOp .Eq) (rEqT X.K JP):=by
 intro z s w H x y v u Q I p o h;obtain⟨a,b,d,c,rfl,rfl,h1,h2,q⟩:=h;cases p;cases o;obtain⟨n,g,p1,_⟩:=I.tuple h1;obtain⟨m,f,p2,_⟩:=I.tuple h2;refine SeqAt.eq_tupleAt (e:=λj=>decide (d[j]?=c[j]?)) (show s.heap.IsTuple a n.toArray from p1) (show s.heap.IsTuple b m.toArray from p2) r (Sr g f) ?_;have l:=g.length;have i:=f.length;rw[b7] at l i;rw[g6,g6,<- l,<- i,Vw];rwa[.bl (decide (d=c)),H,I,rfl,q]
end
def wS{rows:List Int}{P:Int->Prop}(bd:∀ x∈rows,P x){k:Int}(e:0<=k)(d:k<rows.length):∃ v:Int,atI (rows.map V.int) k=O (.int v)/\P v:=by
 have c:k.toNat<rows.length:=by lia
 erw[rows[k.toNat],?_,bd _ (Ag c)];have q:atI (rows.map V.int) ((k.toNat:Nat):Int)=O (.int rows[k.toNat]):=qB (by rw[d9,c8 c] <;> rfl);rw[show((k.toNat:Nat):Int)=k from by lia] at q;rwa[q]
end L2

namespace L2
section
variable{X:Cx}{T:List j3}{caps:List (j3×Nat)}{scope:DL}{elt target iter:Am}{ifs:List Am}{pos cpos:DD}{wi:TI}{g:CC->TG}{tt:CC->TT}{te:CC->TE}
def Xq(S:tN X caps scope)(hc:X.calm=JO)(hi:PI X target iter wi)(hg:∀ c,PG (xA X (T++caps.map (·.1)) scope c) target (g c))(ht:∀ c,Ul (xA X (T++caps.map (·.1)) scope c) ifs (tt c))(he:∀ c,PE (xA X (T++caps.map (·.1)) scope c) elt (te c))
  {use:Option (c6->EH Unit)} {Qv:c6->d7->Prop} {JQ:List (c7×By)} {s:d7} {σ:St} {H:Hp} {Q:VK} (I:Inv X JQ σ H s) (h:WD T.length caps wi g tt te σ H Q)
  (hfin:∀(D C:c7)(Z:d7)(Y:Hp),Inv X JQ σ Y Z->Q (.ref D) Y->∀ m,Z.heap.Ns C m->Y C=JN->C≠X.env.locals->X.s₀.heap.objs.size<=C->(∀ x c,X.env.cells.lookup x=O c->c≠C)->(∀ p∈X.pn++JQ,p.1≠C)->compPost (model X.prog X.w) X.A X.xe use Qv (.ref D) C (.ok .next) Z)
  (hs:∀ x,foldedSetIterable iter X.env x=pure x:=by intro _; rfl) :
  wpAny (model X.prog X.w) X.A (comprehension (.ListComp elt [⟨target,iter,ifs,0⟩] scope pos) scope X.env cpos (newList []) JP (eval iter X.env) use) Qv X.xe s:=by
 erw[DC (use:=use) rfl hs (fk S.cells) S.kind S.loc (thn (hi JQ s σ H _ I h) λv s1 h1=>thn h1 λitv f h2=>?_)];obtain⟨it,fp,tn,J,H2,e,I2,TT,st2,f2,q2⟩:=h2;subst e;refine Ak (En S.nocell (by intro y hy; simp at hy) (λh1 hn R=>?_) S.kind);dsimp only at hn R ⊢;generalize hg2:f.heap.push { cls:=.type "list",dict:=JN,data:=.seq ([]:List c6).toArray }=G at hn R ⊢;have hCv:G.objs.size=f.heap.objs.size+1:=by rw[<- hg2,Ba]
 have hDC:G.objs.size≠f.heap.objs.size:=by rw[hCv]; rwa[Ec _]
 have j:f.heap.objs.size<=G.objs.size:=by rw[hCv]; rwa[Bb _]
 have old:∀ b o,f.heap.get? b=O o->h1.get? b=O o:=λb o e=>R.extBut b o (o9 (j5 (g9 e) j)) (c9 _ (hg2 ▸ c9 _ e));have hacc:∃ n,h1.get? f.heap.objs.size=O { cls:=.type "list",data:=.seq ([]:List c6).toArray n }:=⟨_,R.extBut _ _ (AR hDC) (c9 _ (hg2 ▸ i8 _ rfl))⟩;have hfp:∀ b∈fp,b<f.heap.objs.size:=λb l=>by
  obtain⟨o,e,_⟩:=TT.obj _ _ st2 b l;rwa[g9 e]
 have cs:=tR (env:=X.env) scope.names [] S.cells (λ_ _ z=>by cases z);have I0:=rj (T:=T) (tk:=f.toks+([]:List (j3×c6)).length) S I2 f2 hfp (e8 _) j hDC old hacc hn;have st0:tn 0 h1:=TT.keep _ _ _ st2 λb _ o e=>old b o e;obtain⟨W,⟨m0,w0⟩,turn⟩:=q2 ⟨G.objs.size,f,H2,fp⟩ f.heap.objs.size (I2.hok.fresh (e8 _));have fr0:∀ b∈fp,upd H2 f.heap.objs.size (.lst []) b=none:=λb l=>by
  rw[zD (o9 (hfp b l))];exact(f2 b l).1
 have E:∀{L:Hp},(∀ b∈fp,L b=JN)->∀ b∈fp,eX (xA X (T++caps.map (·.1)) scope ⟨G.objs.size,f,H2,fp⟩) [] L b:=λ{L} hn' b l =>
  ⟨hn' b l,o9 (j5 (hfp b l) j),I0.ok.exfs b l,.inl l,λx c e=>(f2 b l).2.2.2.2.1 x c (cs x c e),λp hp=>y9 (show p∈([]:List (c7×By)) from hp) (by simp)⟩
 have loop:codeAny (model X.prog X.w) X.A (.compLoop (.ListComp elt [⟨target,iter,ifs,0⟩] scope pos) 0 (.ref it) (.ref f.heap.objs.size) (compEnvC scope (yr X.env scope.names []) G.objs.size X.env))
   (compPost (model X.prog X.w) X.A X.xe use Qv (.ref f.heap.objs.size) G.objs.size) { f with heap:=h1,toks:=f.toks+([]:List (j3×c6)).length }:=by
  erw[codeAny_loop rfl (λn s'=>∃ i B ys L,Inv (xA X (T++caps.map (·.1)) scope ⟨G.objs.size,f,H2,fp⟩) [] B L s'/\tn i s'.heap/\(∀ b∈fp,L b=JN)/\W i n B ys L) (λn s3 hI=>?_) m0 ⟨0,_,[],_,I0,st0,fr0,w0⟩];obtain⟨i,P,ys,Y,I3,st3,fr3,w3⟩:=hI;show wpAny _ X.A ((compTurn (.ListComp elt [⟨target,iter,ifs,0⟩] scope pos) 0 (.ref it) (.ref f.heap.objs.size) (compEnvC scope (yr X.env scope.names []) G.objs.size X.env)).onRaise (λx=>do noteFrame x (compEnvC scope (yr X.env scope.names []) G.objs.size X.env); theTreesLotGoes x)) _ _ s3;erw[HX ?_];rw[compTurn_list];erw[b9 (C4 (b9 ?_))];obtain⟨hD3,turn3⟩:=turn i n P ys Y w3;rcases turn3 with ⟨stop,qn⟩ | ⟨go,N,hN,step⟩
  ·refine jn (TT.done (xA X (T++caps.map (·.1)) scope ⟨G.objs.size,f,H2,fp⟩) rfl rfl rfl hc i [] s3 P Y _ I3 (E fr3) st3 stop) λr Z ⟨hr,I4⟩=>?_;subst hr;refine e9 ?_;obtain⟨m4,hn4,_⟩:=I4.loc;have J4:Inv X JQ σ Y Z:=by
    erw[I2.call' (s':=Z) (ch:=fp) I4.os I4.base I4.hok I4.bare λb l=>?_];obtain⟨_,f1,_,f3,f4,f5⟩:=f2 b l;rwa[f3,f1,f4,f5]
   erw[hfin _ G.objs.size Z Y J4 qn m4 hn4 I4.free (Ct (j5 I2.lt j)) (f9 I2.sz j) (λx c e z=>?_) (λp hp z=>?_)]
   ·obtain⟨v,qq⟩:=I2.cell x c e;rwa[y9 (j5 qq.lt (by rw[z]; exact j)) (Bh _)]
   ·rwa[y9 (j5 (g9 (I2.pin p hp).1) (by rw[z]; exact j)) (Bh _)]
  ·refine jn (TT.item (xA X (T++caps.map (·.1)) scope ⟨G.objs.size,f,H2,fp⟩) rfl rfl rfl hc i [] s3 P Y _ I3 (E fr3) st3 go) λr Z ⟨u,hr,h4⟩=>?_;subst hr;refine b9 (jn h4 λ_ s5 ⟨x,H5,I5,r5,y5,st5,fr5⟩=>?_);have I5':=I5.pinned (E fr5) (TT.obj _ _ st5);refine b9 (jn (hg _ _ s5 P H5 x u _ I5' r5 (step x H5 y5)) λ_ s6 ⟨M,H6,I6,q6⟩=>?_);have again:∀{s7:d7}{q:St}{zs:List V}{H7:Hp},Inv (xA X (T++caps.map (·.1)) scope ⟨G.objs.size,f,H2,fp⟩) ([]++ni fp s5.heap) q H7 s7->N q zs H7 ->
     ∃ m,m<n/\∃ i B ys L,Inv (xA X (T++caps.map (·.1)) scope ⟨G.objs.size,f,H2,fp⟩) [] B L s7/\tn i s7.heap/\(∀ b∈fp,L b=JN)/\W i m B ys L:=λ{s7 q zs H7} I7 n7=>by
    obtain⟨m',hm,w7⟩:=hN q zs H7 n7;erw[m',hm,i+1,q,zs,H7,I7.unpinned,TT.keep _ _ _ st5 λb l o e=>(I7.pin (b,o) (o8 _ (o8 _ (uE l e)))).1,λb l=>?_,w7];obtain⟨o,e,d⟩:=TT.obj _ _ st5 b l;exact(I7.pin (b,o) (o8 _ (o8 _ (uE l e)))).2.1
   erw[b9 (jn (ht _ _ s6 M H6 _ I6 q6) λok s7 ⟨H7,I7,q7⟩=>?_)];cases ok with
   | false=>rwa[e9 ⟨rfl,again I7 q7⟩]
   | true =>
    erw[b9 (b9 (jn (he _ _ s7 M H7 _ I7 q7) λy s8 ⟨yv,H8,I8,r8,hD8,hl8,q8⟩=>?_))];erw[b9 (jn (wa _ s8 M H8 (.ref f.heap.objs.size) [yv] (.ref f.heap.objs.size) [y] (λ_ H9=>N M (ys++[yv]) H9) I8 rfl (.cons r8 .nil) ⟨_,ys,yv,rfl,rfl,hD8,hl8,q8⟩) λ_ s9 ⟨_,H9,I9,_,q9⟩=>?_)];rwa[e9 (e9 ⟨rfl,again I9 q9⟩)]
 rwa[codeAny_compStart_list loop (TT.self _ 0 _ _ _ st0 loop)]
def dQ{i:Nat}{y:j3}{p f:DD}(hN:X.N.Nodup)(hy:X.N[i]?=O y)(j:X.env.scope.names.lookup y=O .local)(S:tN X caps scope)(hc:X.calm=JO)(hi:PI X target iter wi)(hg:∀ c,PG (xA X (T++caps.map (·.1)) scope c) target (g c))(ht:∀ c,Ul (xA X (T++caps.map (·.1)) scope c) ifs (tt c))(he:∀ c,PE (xA X (T++caps.map (·.1)) scope c) elt (te c))
  (r:swapsWith (.ListComp elt [⟨target,iter,ifs,0⟩] scope pos) (O (.Name y p)) f.line X.env=pure true:=by rfl) (hs:∀ x,foldedSetIterable iter X.env x=pure x:=by intro _; rfl) :
  PS X (.Assign [.Name y p] (.ListComp elt [⟨target,iter,ifs,0⟩] scope pos) f) (Sm (WD T.length caps wi g tt te) (cX i)):=by
 intro M s σ H D I h;rw[exec_Assign_Name_used _ _ _ _ r];refine b9 (C4 (b9 ?_));show wpAny _ X.A (do let _ <- comprehension (.ListComp elt [⟨target,iter,ifs,0⟩] scope pos) scope X.env _ (newList []) JP (eval iter X.env) (O (assign (.Name y p) X.env))) _ _ s;refine b9 (BA (Xq (Qv:=λ_ J=>SP X M D .next J) S hc hi hg ht he I h (λD' C R H3 J4 Y Z u hC L hS d n=>?_) hs) (λ_ J hq=>e9 (e9 hq)) λ_ _ e=>e);show wpAny (model X.prog X.w) X.A (assign (.Name y p) X.env (.ref D')) (λ_ l=>∃ m,l.heap.Ns C m/\∀ G,Bz C l.heap G->SP X M D .next { l with heap:=G }) X.xe R;refine G0 (jk J4 hN hy (.inl j) (v:=.ref D') rfl (λQ J5 B=>?_) (.inr j));obtain⟨a,P,ha⟩:=B;have E:C≠a:=by
  rcases ha with z | z
  ·rw[z]; rwa[L]
  ·rwa[λe=>d y a z e.symm]
 erw[Z,u.sameBut P E,λG q=>⟨_,H3,?_,Y⟩];rwa[J5.turned (t':=Q.toks) (λb o B e=>(q.2 b B).trans e) hC L (.inr hS) d n]
end
end L2

namespace L2
def iH:bootBuiltins "enumerate" = O (.type "enumerate"):=by ac_nf
def Ite(K:c5)(l:c7):It :=
 ⟨λk H=>∃ c x,SqL K H l c/\c[k]?=O x,
   λk H v d=>∃ T x,v=.ref T/\H T=JN/\d=upd H T (.tup [.int k,x])/\∀ c,SqL K H l c->c[k]?=O x,
   λk H=>∃ c,SqL K H l c/\c.length<=k⟩
def aa{P:m9}{w:r9}{K:c5}{G:List Am}{kt:Nat}{pt:DD}{e y l:c7}(C:e≠y) :
  WP P w K (.Tuple G kt pt) (Ite K l) [e,y] e (λk h=>(∃ g,IsEnum h e y k g)/\h.IsListIter y l k) where
 mem:=by simp
 obj:=λk h st b f=>by
  obtain⟨⟨g,p⟩,h1⟩:=st;obtain⟨o1,g1,_,d1⟩:=h1;simp only[o0,As,or_false] at f;rcases f with rfl | rfl
  ·rwa[_,p,λv z=>by cases z]
  ·exact⟨_,g1,λv z=>by rw[d1] at z; cases z⟩
 keep:=λk h h' st kp=>by
  obtain⟨⟨g,p⟩,h1⟩:=st;rwa[⟨g,kp e (by simp) _ p⟩,h1.at λo z=>kp y (by simp) o z]
 item:=by
  intro X Y S Z d k JQ s σ H E I A st T;subst Y S Z;obtain⟨⟨g,p⟩,h1⟩:=st;obtain⟨xs,x,J,hx⟩:=T;obtain⟨Q,N,p1,_⟩:=I.list J;obtain⟨u1,e1,v1⟩:=N.get hx;have fresh:H s.heap.objs.size=none:=I.hok.fresh (e8 _);refine wpAny_pyNext_enum_item p h1 p1.isList (by simpa using e1) C λh' z1 j1 t1 _ kp=>?_;refine⟨_,rfl,wpAny_letOwnedTupleGo_enum z1 λD z2 M=>?_⟩;have j:∀ c o,c ∉ [e,y]->s.heap.get? c=O o->D.get? c=O o:=λc o d q=>by
   simp only[o0,As,or_false,not_or] at d;rwa[M.extBut c o d.1 (kp c o d.1 d.2 q)]
  have neT:∀ b o,s.heap.get? b=O o->b≠s.heap.objs.size:=λb o q=>o9 (g9 q);have B:∀ b o,H b=O o->b ∉ [e,y]:=λb o q f=>by
   rw[(A b f).1] at q;cases q
  have i:∀ b o,H b=O o->upd H s.heap.objs.size (.tup [.int k,x]) b=O o:=λb o q=>by
   rw[zD (zG q fresh)];rwa[q]
  erw[.ref s.heap.objs.size,upd H s.heap.objs.size (.tup [.int k,x]),?_,rfl,⟨_,x,rfl,fresh,rfl,λL R=>by rw[I.list_inj R J]; rwa[hx]⟩,?_,λb f=>?_]
  ·refine Inv.step (s:=s) (h':=D) (g':=s.gens) (d':=s.drawn) (t':=s.toks+1) (ch:=[e,y]) I (λb f=>?_) (λb o _ _ d q _=>j b o d q) (λb o _ _ d q _=>⟨o.slots,j b o d q⟩) (λb o _ q n=>?_) (λb o d q=>⟨o,j b o d q⟩)
    (λb L q=>i b _ q) (λb o L q=>i b _ q) (λb ps q=>⟨#[],by rw[i b _ q]; simp⟩) (λm hm=>?_) (λb o q=>?_) I.bare
   ·obtain⟨_,f1,_,f3,f4,f5⟩:=A b f;rwa[f3,f1,f4,f5]
   ·rw[zD (neT b o q)];rwa[n]
   ·obtain⟨o,es,ep,ho,r⟩:=hm;erw[o,es,ep,j _ o (λf=>?_) ho,r];exact(A _ f).2.1 rfl
   ·by_cases f:b=s.heap.objs.size
    ·subst f;rw[zA] at q;cases q;exact⟨by show 2<=sizeLine; decide,[_,u1],.cons ⟨_,rfl⟩ (.cons v1 .nil),_,M.extBut _ _ (Ct (g9 p)) t1,rfl,_,rfl⟩
    ·rw[zD f] at q;refine(I.hok b o q).stay (λc u d z=>j c u ?_ z) (λc z=>i c _ z) λc L z=>i c _ z;rcases d with d | d
     ·rw[d]; rwa[B b o q]
     ·rwa[B c _ d]
  ·rwa[⟨_,z2⟩,j1.at λo z=>M.extBut _ o (AR C) z]
  ·obtain⟨o,q,_⟩:∃ o,s.heap.get? b=O o/\True:=by
    obtain⟨o1,g1,_⟩:=h1;simp only[o0,As,or_false] at f;rcases f with rfl | rfl
    ·rwa[_,p,trivial]
    ·rwa[_,g1,trivial]
   rw[zD (neT b o q)];exact(A b f).1
 done:=by
  intro X Y S Z d k JQ s σ H E I A st T;subst Y S Z;obtain⟨⟨g,p⟩,h1⟩:=st;obtain⟨xs,J,hend⟩:=T;obtain⟨Q,N,p1,_⟩:=I.list J;have l1':=N.length;erw[wpAny_pyNext_enum_end (I.ok.hd d) p h1 p1.isList (B7 (by rw[g6]; lia)) λh' eb=>⟨rfl,?_⟩];obtain⟨f0,f1,f2,f3,f4,f5⟩:=A y (by simp);rwa[I.turned (t':=s.toks) (λb o f q=>eb b o f q) f0 f1 f3 f4 f5]
 self:=λ_ _ _ _ _ st h=>by
  obtain⟨⟨g,p⟩,_⟩:=st;rwa[Hc p h]
section
variable{X:Cx}
def iEnum(K:c5)(g:TA):TI:=λd H R=>g d H λf c=>E2 λ(l:c7) (e:List V)=>A3 (f=[.ref l]) (c l=O (.lst e)) (R (Ite K l) c)
def fo{d:List Am}{w:Nat}{pt:DD}{a:Am}{g:TA}{p pos:DD}(B:Gl X "enumerate")(z:X.mg "enumerate" = JN)(C:PA X [a] g)(y:starEach [a] X.env=[(JP,eval a X.env)]:=by rfl) :
  PI X (.Tuple d w pt) (.Call (.Name "enumerate" p) [a] [] pos) (iEnum X.K g):=by
 intro E s o H R I h;refine Call_ (lN I B z iH (BZ (thn (C pos E s o H _ I h) λM i ⟨L,G,f,u,v⟩=>?_) y rfl));obtain⟨l,J,e,A,q⟩:=v;subst e;obtain⟨N,rfl,r⟩:=yN.one u;cases r;obtain⟨_,x,n,_,_,D⟩:=f.lstM A;refine call_enumerate_1 D λP j hi _ kp=>?_;refine Hc j ?_;refine⟨_,_,_,_,G,U,f.kept (t':=i.toks) kp,aa (Ec _),⟨⟨_,j⟩,hi⟩,λb m=>?_,q⟩;have c:i.heap.objs.size<=b:=by
  simp only[o0,As,or_false] at m;rcases m with rfl | rfl <;> lia
 rwa[f.fpOk c (f.hok.fresh c)]
end
section
variable{K:c5}{l D:c7}{xs:List V}{g:TG}{tt:TT}{te:TE}{σ0:St}{H1:Hp}{Q:VK}
def iN(h:Nat->St->List V->Hp->Prop)(h0:h 0 σ0 [] (upd H1 D (.lst [])))(B:∀ i d c H,h i d c H->SqL K H l xs/\H D=O (.lst c))
  (A:∀ i x T d c H,xs[i]?=O x->H T=JN->h i d c H->g (.ref T) d (upd H T (.tup [.int i,x])) λf E=>tt f E λb q =>
   if b=JO then te f q λz o=>o D=O (.lst c)/\c.length<sizeLine/\h (i+1) f (c++[z]) (upd o D (.lst (c++[z]))) else h (i+1) f c q)
  (hd:∀ d c H,h xs.length d c H->Q (.ref D) H):xf (Ite K l) D g tt te σ0 H1 Q:=by
 exists λi m d c H=>m=xs.length-i/\i<=xs.length/\h i d c H,⟨_,U,m7 _,h0⟩;rintro i m d c H ⟨rfl,hi,p⟩;obtain⟨n,w⟩:=B i d c H p;exists w;by_cases j:i<xs.length
 ·erw[.inr ⟨⟨xs,xs[i],n,by simp[j]⟩,h (i+1),λr s G z=>⟨xs.length-(i+1),by lia,rfl,j,z⟩,λv G y=>?_⟩];obtain⟨T,x,rfl,C,rfl,u⟩:=y;rwa[A i x T d c H (u xs n) C p]
 ·have e:i=xs.length:=by lia
  subst e;rwa[.inl ⟨⟨xs,n,e8 _⟩,hd d c H p⟩]
def YF{r:TS}{E:ay}{c:St}{H:Hp}(d:Nat->St->Hp->Prop)(h0:d 0 c H)(A:∀ i c H,d i c H->SqL K H l xs)
  (w:∀ i x T c H,xs[i]?=O x->H T=JN->d i c H->g (.ref T) c (upd H T (.tup [.int i,x])) λf q=>r { E with nx:=d (i+1),ct:=d (i+1),bk:=E.nx } f q) (hd:∀ c H,d xs.length c H->E.nx c H) :
  ∃ W:Nat->Nat->St->Hp->Prop,(∃ m,W 0 m c H)/\∀ i m c H,W i m c H ->
   ((Ite K l).stop i H/\E.nx c H)\/((Ite K l).go i H/\∃ N:St->Hp->Prop,(∀ h j,N h j->∃ s,s<m/\W (i+1) s h j)/\∀ x j,(Ite K l).yld i H x j->g x c j λf q=>r { E with nx:=N,ct:=N,bk:=E.nx } f q):=by
 exists λi m c H=>m=xs.length-i/\i<=xs.length/\d i c H,⟨_,U,m7 _,h0⟩;rintro i m c H ⟨rfl,hi,p⟩;have o:=A i c H p;by_cases n:i<xs.length
 ·erw[.inr ⟨⟨xs,xs[i],o,by simp[n]⟩,d (i+1),λh j z=>⟨xs.length-(i+1),by lia,rfl,n,z⟩,λv j y=>?_⟩];obtain⟨T,x,rfl,B,rfl,u⟩:=y;rwa[w i x T c H (u xs o) B p]
 ·have e:i=xs.length:=by lia
  subst e;rwa[.inl ⟨⟨xs,o,e8 _⟩,hd c H p⟩]
end
end L2

namespace L2
def kF:∀{c:List c7}{d:List c6},yN (c.map V.ref) d->d=c.map j8
 | [],_,r=>by cases r; rfl
 | a::c,_,r=>by
  cases r with
  | cons f e =>
   cases f;rw[kF e];rfl
def Same.putNew{H c:Hp}{D:c7}{o:HO}(s:Same H c)(h:H D=JN):Same H (upd c D o):=λb u q=>by
 rw[zD (zG q h)];rwa[s _ _ q]
abbrev Pr:=c7×Int×Int
abbrev fT(c:List Pr):List V:=(c.map (·.1)).map V.ref
def PrOk(H:Hp)(M:Nat)(c:List Pr):Prop:=∀ t∈c,H t.1=O (.tup [.int t.2.1,.int t.2.2])/\t.2.1.natAbs<=M/\t.2.2.natAbs<=M
def xg:∀{d c:List Int},d.map V.int=c.map V.int->d=c
 | [],[],_=>rfl
 | [],_::_,h=>nomatch h
 | _::_,[],h=>nomatch h
 | x::d,y::c,h=>by
  rw[i5,i5] at h;injection h with h1 h2
  rw[V.int.inj h1,xg h2]
end L2

namespace L2
def crs(p q r:Int×Int):Int:=(q.1-p.1)*(r.2-p.2)-(q.2-p.2)*(r.1-p.1)
def ptA(c:List (c7×Int×Int))(i:Nat):Int×Int:=((c[i]?).map (·.2)).getD (0,0)
def leftB(c:List (c7×Int×Int))(i k:Nat):Bool:=decide (0<crs (ptA c i) (ptA c ((i+1)%c.length)) (ptA c k))
def VW(c:List (c7×Int×Int))(i:Nat):Bool:=(Au (c.length-2)).all λj=>leftB c i ((i+(2+j))%c.length)
def isB(c:List (c7×Int×Int)):Bool:=decide (3<=c.length)&&(decide (c.length<=8)&&(Au c.length).all (VW c))
end L2

namespace PySem.W
open PySem PySem.Calls PyProof.Rows
section
variable{prog:m9}{w:r9}{A:Ac}{E:c6->d7->Prop}{s:d7}
def zk(h:w9)(a:c7)(c:List c6):w9:=((h.update a (AB λ_=>#[])).push (seqObj "tuple" c.toArray 0)).push (seqObj "list" #[] 0)
def gA{h:w9}{a b:c7}{c:List c6}(d:b≠a){o:By}(e:h.get? b=O o):(zk h a c).get? b=O o:=by
 unfold zk;erw[c9 _ (c9 _ ?_)];rw[GH _ _ _ _ d];rwa[e]
def wp(h:w9)(c:List c6):w9:=((h.push (seqObj "list" #[] 0)).update h.objs.size (AB (· ++ c.toArray))).push (seqObj "list" c.toArray 0)
def gZ{h:w9}{b:c7}{d:List c6}{o:By}(e:h.get? b=O o):(wp h d).get? b=O o:=by
 have c:b<h.objs.size:=g9 e;unfold wp;erw[c9 _ ?_];rw[GH _ _ _ _ (o9 c),Heap.get?_push_ne _ _ _ (o9 c)];rwa[e]
end
end PySem.W

namespace L2
open PySem PySem.Spec PyProof.Rows PySem.W
def jg:∀ a:List Int,HT.lexLt a a=JP
 | []=>rfl
 | x::c=>by rw[HT.lexLt_cons,y6 rfl]; rwa[jg c]
def eU:∀ a b c:List Int,HT.lexLt a b=JO->HT.lexLt b c=JO->HT.lexLt a c=JO
 | [],[],_,h,_=>nomatch h
 | [],_::_,[],_,h=>nomatch h
 | [],_::_,_::_,_,_=>rfl
 | _::_,[],_,h,_=>nomatch h
 | _::_,_::_,[],_,h=>nomatch h
 | x::i,y::g,z::f,h1,h2=>by
  rw[HT.lexLt_cons] at h1 h2 ⊢;by_cases e:x=y
  ·rw[y6 e] at h1;by_cases d:y=z
   ·rw[y6 d] at h2;rw[y6 (e.trans d)];rwa[eU i g f h1 h2]
   ·rw[y4 d] at h2;rw[y4 (by lia),e];rwa[h2]
  ·rw[y4 e] at h1;have l:=of_decide_eq_true h1;by_cases d:y=z
   ·rw[y4 (by lia),<- d];rwa[h1]
   ·rw[y4 d] at h2;have j:=of_decide_eq_true h2;rw[y4 (by lia)];rwa[y7 (by lia)]
def fY:∀ a b c:List Int,HT.lexLt a c=JO->HT.lexLt a b=JO\/HT.lexLt b c=JO
 | [],_,[],h=>nomatch h
 | [],[],_::_,_=>.inr rfl
 | [],_::_,_::_,_=>.inl rfl
 | _::_,_,[],h=>nomatch h
 | _::_,[],_::_,_=>.inr rfl
 | x::j,y::i,z::f,h=>by
  rw[HT.lexLt_cons] at h ⊢;rw[HT.lexLt_cons];by_cases e:x=y
  ·by_cases d:y=z
   ·rw[y6 (e.trans d)] at h;rw[y6 e,y6 d];rwa[fY j i f h]
   ·rw[y4 (by lia)] at h;right;rw[y4 d,<- e];rwa[h]
  ·by_cases d:y=z
   ·rw[y4 (by lia)] at h;left;rw[y4 e,d];rwa[h]
   ·rw[y4 e,y4 d];by_cases g:x<y
    ·rwa[.inl (y7 g)]
    ·right;by_cases l:x=z
     ·rwa[y7 (by lia)]
     ·rw[y4 l] at h;have:=of_decide_eq_true h;rwa[y7 (by lia)]
def iY:∀ a b:List Int,HT.lexLt a b=JP->HT.lexLt b a=JP->a=b
 | [],[],_,_=>rfl
 | [],_::_,h,_=>nomatch h
 | _::_,[],_,h=>nomatch h
 | x::d,y::c,h1,h2=>by
  rw[HT.lexLt_cons] at h1 h2;by_cases e:x=y
  ·rw[y6 e] at h1;rw[y6 e.symm] at h2;rw[e,iY d c h1 h2]
  ·rw[y4 e] at h1;rw[y4 (λz=>e z.symm)] at h2;have g:=of_decide_eq_false h1;have f:=of_decide_eq_false h2;lia
def bz(h:w9)(v:c6)(ns:List Int):Prop:=∃(a:c7)(o:By)(n:Nat)(c:List c6),v=.ref a/\h.get? a=O o/\o.cls=.type "tuple" /\ o.data=.seq c.toArray n/\yN (ns.map V.int) c
def bz.keep{h d:w9}{v:c6}{t:List Int}(e:bz h v t)(k:∀ b o,h.get? b=O o->d.get? b=O o):bz d v t:=by
 obtain⟨a,o,n,c,i,g,f⟩:=e;rwa[a,o,n,c,i,k _ _ g,f]
def zb:∀ c:List c7,yN (c.map V.ref) (c.map j8)
 | []=>.nil
 | _::c=>.cons rfl (zb c)
section
variable{X:Cx}
def uI:bootBuiltins "sorted" = O (.builtin "sorted"):=by ac_nf
end
end L2

namespace Sea
def aX:∀{d c:List (List Int)},d.Perm c->d.Pairwise (λa b=>HT.lexLt b a=JP)->c.Pairwise (λa b=>HT.lexLt b a=JP)->d=c
 | [],c,h,_,_=>(List.nil_perm.mp h).symm
 | x::d,[],h,_,_=>y9 (List.perm_nil.mp h) (by simp)
 | x::d,y::c,h,o,n=>by
  obtain⟨m,l⟩:=DI.mp o;obtain⟨j,i⟩:=DI.mp n;have e:x=y:=by
   have g:x∈y::c:=h.mem_iff.mp (Av ..);have f:y∈x::d:=h.mem_iff.mpr (Av ..);rcases o0.mp g with e | g
   ·rwa[e]
   ·rcases o0.mp f with e | f
    ·rwa[e.symm]
    ·rwa[iY _ _ (j x g) (m y f)]
  subst e;rw[aX (List.perm_cons x |>.mp h) l i]
end Sea

namespace L2
section
variable{κ:Type}[DecidableEq κ]
def vS(c:List (κ×V))(k:κ):Option V:=(c.find? λd=>decide (d.1=k)).map (·.2)
def vR(c:List (κ×V))(k:κ)(v:V):List (κ×V) :=
 if (c.any λd=>decide (d.1=k))=JO then c.map (λd=>if d.1=k then(d.1,v) else d) else c++[(k,v)]
def pc(c:List (κ×V))(k:κ):List (κ×V):=c.filter λd=>decide (d.1≠k)

def wX{p:κ×V}{r:List (κ×V)}{k:κ}(e:p.1=k):vS (p::r) k=O p.2:=by simp[vS,AF,e]
def wK{p:κ×V}{r:List (κ×V)}{k:κ}(e:¬ p.1=k):vS (p::r) k=vS r k:=by simp[vS,AF,e]
def pY(k:κ):∀ c:List (κ×V),(c.any λd=>decide (d.1=k))=(vS c k).isSome
 | []=>rfl
 | p::r=>by
  rw[Cy];by_cases e:p.1=k
  ·simp only[wX e,y7 e,Bool.true_or,Option.isSome_some]
  ·rw[wK e,y8 e,Bool.false_or]; rwa[pY k r]
def eC(k j:κ)(y:V):∀ c:List (κ×V),vS (c.map λd=>if d.1=k then(d.1,y) else d) j=(vS c j).map λx=>if j=k then y else x
 | []=>rfl
 | p::r=>by
  have f:=eC k j y r;rw[i5];by_cases h:p.1=k
  ·rw[y6 h];by_cases e:p.1=j
   ·rw[wX (p:=(p.1,y)) e,wX e,AS,y6 (e.symm.trans h)]
   ·rw[wK (p:=(p.1,y)) e,wK e,f]
  ·rw[y4 h];by_cases e:p.1=j
   ·rw[wX (p:=p) e,wX e,AS,y4 (λz=>h (e.trans z))]
   ·rw[wK (p:=p) e,wK e,f]
def ix(k j:κ)(y:V):∀ c:List (κ×V),vS c k=JN->vS (c++[(k,y)]) j=if j=k then O y else vS c j
 | [],_=>by
  by_cases e:k=j
  ·rw[y6 e.symm]; rwa[wX (p:=(k,y)) e]
  ·rw[y4 (λz=>e z.symm)]; rwa[wK (p:=(k,y)) e]
 | p::r,d=>by
  rw[HE];have f:¬ p.1=k:=λz=>by rw[wX z] at d; cases d
  rw[wK f] at d;have g:=ix k j y r d;by_cases e:p.1=j
  ·rw[wX e,wX e,y4 (λz=>f (e.trans z))]
  ·rw[wK e,wK e,g]
def xh(c:List (κ×V))(k j:κ)(y:V):vS (vR c k y) j=if j=k then O y else vS c j:=by
 unfold vR;by_cases a:(c.any λd=>decide (d.1=k))=JO
 ·rw[y6 a,eC];rw[pY] at a;by_cases e:j=k
  ·obtain⟨x,f⟩:=j7.mp a;rw[y6 e,e,f,AS,y6 rfl]
  ·rw[y4 e];cases vS c j with
   | none=>rfl
   | some x=>rw[AS,y4 e]
 ·rw[y4 a];erw[ix k j y c ?_];rw[pY] at a;cases q:vS c k with
  | none=>rfl
  | some x=>rw[q] at a; exact(a rfl).elim
def qF(c:List (κ×V))(k:κ)(v:V):(vR c k v).length<=c.length+1:=by
 unfold vR;split
 ·rw[b7]; lia
 ·rw[f8,i9,AE]; lia
def jo.isSome_eq{o:Option V}{u:Option c6}(r:jo o u):o.isSome=u.isSome:=by
 cases o with
 | none=>cases u with
  | none=>rfl
  | some _=>exact(show False from r).elim
 | some _=>cases u with
  | none=>exact(show False from r).elim
  | some _=>rfl
def KV.val{c:List (κ×V)}{vs:List (κ×c6)}(r:KV c vs)(k:κ):jo (vS c k) (valueAt vs k):=by
 unfold KV at r
 induction r with
 | nil=>rwa[t5]
 | @cons p q i d h t g =>
  obtain⟨h1,h2⟩:=h;by_cases e:p.1=k
  ·have f:q.1=k:=h1.symm.trans e;have b:valueAt (q::d) k=O q.2:=by simp[valueAt,AF,f]
   rw[wX e,b]; rwa[h2]
  ·have f:¬ q.1=k:=λz=>e (h1.trans z);have b:valueAt (q::d) k=valueAt d k:=by simp[valueAt,AF,f]
   rw[wK e,b]; rwa[g]
def KV.any{c:List (κ×V)}{vs:List (κ×c6)}(r:KV c vs)(k:κ):(c.any λd=>decide (d.1=k))=vs.any λd=>decide (d.1=k):=by
 unfold KV at r
 induction r with
 | nil=>rfl
 | cons h t e=>rw[Cy,Cy,e,h.1]
def KV.repl{d:List (κ×V)}{vs:List (κ×c6)}(r:KV d vs)(k:κ){y:V}{u:c6}(f:xJ y u) :
  KV (d.map λc=>if c.1=k then(c.1,y) else c) (vs.map λc=>if c.1=k then(c.1,u) else c):=by
 unfold KV at r ⊢
 induction r with
 | nil=>rwa[.nil]
 | @cons p q j i h t g =>
  rw[i5,i5];erw[.cons ?_ g];obtain⟨h1,h2⟩:=h;by_cases e:p.1=k
  ·rw[y6 e,y6 (h1.symm.trans e)]; rwa[h1,f]
  ·rw[y4 e,y4 (λz=>e (h1.trans z))]; rwa[h1,h2]
def KV.put{c:List (κ×V)}{vs:List (κ×c6)}(r:KV c vs)(k:κ){y:V}{u:c6}(d:xJ y u):KV (vR c k y) (stored vs k u):=by
 unfold vR stored;rw[r.any k];by_cases e:(vs.any λf=>decide (f.1=k))=JO
 ·rw[y6 e,y6 e]; rwa[r.repl k d]
 ·rw[y4 e,y4 e]; rwa[Jz r ⟨rfl,d⟩]
def KV.drop{c:List (κ×V)}{vs:List (κ×c6)}(r:KV c vs)(k:κ):KV (pc c k) (without vs k):=by
 unfold KV at r ⊢;unfold pc without
 induction r with
 | nil=>rwa[.nil]
 | @cons p q i g h t d =>
  obtain⟨h1,h2⟩:=h;rw[Cd,Cd];by_cases e:p.1=k
  ·have a:¬ decide (p.1≠k)=true:=by simp[e]
   have b:¬ decide (q.1≠k)=true:=by simp[h1.symm.trans e]
   rw[y4 a,y4 b]; rwa[d]
  ·have f:¬ q.1=k:=λz=>e (h1.trans z);have a:decide (p.1≠k)=true:=by simp[e]
   have b:decide (q.1≠k)=true:=by simp[f]
   rw[y6 a,y6 b]; rwa[.cons ⟨h1,h2⟩ d]
def KV.length{c:List (κ×V)}{vs:List (κ×c6)}(r:KV c vs):c.length=vs.length:=FD r
def dl(c:List (κ×V))(k:κ):(pc c k).length<=c.length:=BL _ _
end


def kE{P:m9}{w:r9}{k:Key}{u:c6}(r:xJ (kV k) u):(yY P w).is k u=true:=by
 cases k with
 | inl i=>obtain⟨t,e⟩:=(show ∃ t,u=C3 i t from r); subst e; rwa[gM P w i t]
 | inr x=>obtain⟨t,e⟩:=(show ∃ t,u=Dj x t from r); subst e; rwa[wl P w x t]
def iQ{P:m9}{w:r9} : ∀{c:List Key}{d:List c6},yN (c.map kV) d->ItemsAre (yY P w) c d
 | [],_,r=>by rw[Dk] at r; cases r; rwa[.nil]
 | k::c,_,r=>by
  rw[i5] at r;cases r with
  | cons h t=>rwa[.cons (kE h) (iQ t)]

abbrev KT(H:Hp):List (List Key×V)->List (List Key×c7×c6)->Prop:=Ho λp q=>p.1=q.1/\H q.2.1=O (.tup (p.1.map kV))/\xJ p.2 q.2.2
def KT.val{H:Hp}{c:List (List Key×V)}{g:List (List Key×c7×c6)}(r:KT H c g)(k:List Key):jo (vS c k) ((atKey g k).map (·.2)):=by
 induction r with
 | nil=>rwa[t5]
 | @cons p q j d h t i =>
  obtain⟨h1,_,h2⟩:=h;by_cases e:p.1=k
  ·have f:q.1=k:=h1.symm.trans e;have b:atKey (q::d) k=O q.2:=by simp[atKey,AF,f]
   rw[wX e,b]; rwa[h2]
  ·have f:¬ q.1=k:=λz=>e (h1.trans z);have b:atKey (q::d) k=atKey d k:=by simp[atKey,AF,f]
   rw[wK e,b]; rwa[i]
def KT.repl{H:Hp}{c:List (List Key×V)}{f:List (List Key×c7×c6)}(r:KT H c f)(k:List Key){y:V}{u:c6}(g:xJ y u) :
  KT H (c.map λd=>if d.1=k then(d.1,y) else d) (f.map (putAt k u)):=by
 induction r with
 | nil=>rwa[.nil]
 | @cons p q l j h t i =>
  rw[i5,i5];erw[.cons ?_ i];obtain⟨h1,h2,h3⟩:=h;unfold putAt;by_cases e:p.1=k
  ·rw[y6 e,y6 (h1.symm.trans e)]; rwa[h1,h2,g]
  ·rw[y4 e,y4 (λz=>e (h1.trans z))]; rwa[h1,h2,h3]
def KT.put{H:Hp}{c:List (List Key×V)}{d:List (List Key×c7×c6)}(r:KT H c d)(k:List Key){b:c7}{y:V}{u:c6}(h:H b=O (.tup (k.map kV)))(f:xJ y u) :
  KT H (vR c k y) (storedH d k b u):=by
 have e:(c.any λg=>decide (g.1=k))=(atKey d k).isSome:=by
  rw[pY,(r.val k).isSome_eq,Da]
 unfold vR storedH;rw[e];by_cases q:(atKey d k).isSome=JO
 ·rw[y6 q,y6 q]; rwa[r.repl k f]
 ·rw[y4 q,y4 q]; rwa[Jz r ⟨rfl,h,f⟩]
def KT.keeps{H f:Hp}{c:List (List Key×V)}{e:List (List Key×c7×c6)}(r:KT H c e)(g:∀ b d,H b=O (.tup d)->f b=O (.tup d)):KT f c e :=
 Paired.mapP r λ_ _ z=>⟨z.1,g _ _ z.2.1,z.2.2⟩

section
variable{P:m9}{w:r9}{H:Hp}{h:w9}{a:c7}
def TL{u:HO}(ok:HOk P w H h)(e:Rd H a u):wN P w H h a u:=e.ok ok
def kI{c:List (Key×V)}(ok:HOk P w H h)(e:Rd H a (.dK c)):c.length<=sizeLine/\(a == sysModules)=JP/\∃ d,KV c d/\h.DictOf (yY P w) a d :=
 show wN P w H h a (.dK c) from TL ok e
def ZV{c:List (Key×V)}(ok:HOk P w H h)(e:H a=O (.dK c)):c.length<=sizeLine/\(a == sysModules)=JP/\∃ d,KV c d/\h.DictOf (yY P w) a d:=kI ok (.inl e)
def ji{c:List Key}(ok:HOk P w H h)(e:H a=O (.tup (c.map kV))):(tupleKind (yY P w)).is h c a:=by
 obtain⟨_,d,r,o,h1,h2,n,h3⟩:=(show wN P w H h a (.tup (c.map kV)) from ok a _ e);exact⟨o,d.toArray,n,h1,h2,h3,by simpa using iQ r⟩
def dP{c:List (List Key×V)}(ok:HOk P w H h)(e:Rd H a (.dT c)):c.length<=sizeLine/\(a == sysModules)=JP /\
  ∃ f,KT H c f/\h.DictOfH (tupleKind (yY P w)) a f:=by
 obtain⟨z,y,f,r,o,j,n,h1,h2,h3,h4,h5⟩:=(show wN P w H h a (.dT c) from TL ok e);refine⟨z,y,f,r,o,j,n,h1,h2,h3,h4,λx d=>?_,h5⟩;have all:∀{l:List (List Key×V)}{m:List (List Key×c7×c6)},KT H l m->∀ x∈m,(tupleKind (yY P w)).is h x.1 x.2.1:=by
  intro l m q
  induction q with
  | nil=>intro x d; exact nomatch d
  | @cons p q u s g t i =>
   intro x d;rcases o0.mp d with e | d
   ·subst e;rwa[ji ok (by rw[<- g.1]; exact g.2.1)]
   ·rwa[i x d]
 rwa[all r x d]
def WY{c:List (List Key×V)}(ok:HOk P w H h)(e:H a=O (.dT c)):c.length<=sizeLine/\(a == sysModules)=JP /\
  ∃ d,KT H c d/\h.DictOfH (tupleKind (yY P w)) a d:=dP ok (.inl e)
end

def dk(H:Hp)(a:c7)(y:V)(r:Option V):Prop :=
 (∃ c k,Rd H a (.dK c)/\y=kV k/\r=vS c k)\/∃ c k b,Rd H a (.dT c)/\y=.ref b/\H b=O (.tup (k.map kV))/\r=vS c k
def oV(H:Hp)(a:c7)(y v:V)(d:Hp):Prop :=
 (∃ c k,H a=O (.dK c)/\y=kV k/\c.length<sizeLine/\d=upd H a (.dK (vR c k v))) \/
 ∃ c k b,H a=O (.dT c)/\y=.ref b/\H b=O (.tup (k.map kV))/\c.length<sizeLine/\d=upd H a (.dT (vR c k v))
def dk.t{H:Hp}{a b:c7}{c:List (List Key×V)}{k:List Key}(e:H a=O (.dT c))(d:H b=O (.tup (k.map kV))):dk H a (.ref b) (vS c k):=.inr ⟨c,k,b,.inl e,rfl,d,rfl⟩
def oV.k{H:Hp}{a:c7}{c:List (Key×V)}{k:Key}{v:V}(e:H a=O (.dK c))(d:c.length<sizeLine):oV H a (kV k) v (upd H a (.dK (vR c k v))):=.inl ⟨c,k,e,rfl,d,rfl⟩
def oV.t{H:Hp}{a b:c7}{c:List (List Key×V)}{k:List Key}{v:V}(e:H a=O (.dT c))(f:H b=O (.tup (k.map kV)))(d:c.length<sizeLine) :
  oV H a (.ref b) v (upd H a (.dT (vR c k v))):=.inr ⟨c,k,b,e,rfl,f,d,rfl⟩


section
variable{X:Cx}{JQ:List (c7×By)}{σ:St}{H:Hp}{s:d7}{a:c7}{y v:V}{u r:c6}{o:Option V}{A:Ac}{E:c6->d7->Prop}

def Inv.big(I:Inv X JQ σ H s):sysModules<s.heap.objs.size:=by
 have h:mainGlobals<s.heap.objs.size:=(I.mod.glob.keeps I.bk).lt;rwa[Jo (by decide) h]

def ae{Q:c6->d7->Prop}(C:A.units+1<cLine)(I:Inv X JQ σ H s)(g:dk H a y (O v))(q:xJ y u)(h:∀ d n,Inv X JQ σ H n->xJ v d->Q d n) :
  wpAny (model X.prog X.w) A (getItem (.ref a) u) Q E s:=by
 rcases g with ⟨f,k,e,ey,l⟩ | ⟨f,k,b,e,ey,G,l⟩
 ·subst ey;obtain⟨z,hd,B,rel,m⟩:=kI I.hok e;obtain⟨d,i,c⟩:=jo.some_of (v:=v) (o:=valueAt B k) (by rw[l]; rwa[rel.val k]);rwa[HF (kE q) m.mapOf i (h d _ (I.tok _) c)]
 ·subst ey;cases (show u=j8 b from q);obtain⟨z,hd,x,rel,m⟩:=dP I.hok e;obtain⟨d,i,c⟩:=jo.some_of (v:=v) (o:=(atKey x k).map (·.2)) (by rw[l]; rwa[rel.val k]);obtain⟨p,D,j⟩:=o6.mp i;erw[wpAny_getItem_heap (tupleKind_room_in1 C) (ji I.hok G) m D ?_];rw[j];rwa[h d _ (I.tok _) c]
def d_in{Q:c6->d7->Prop}(j:A.units+1<cLine)(I:Inv X JQ σ H s)(g:dk H a y o)(i:xJ y u)(h:∀ f,Inv X JQ σ H f->Q (.bool o.isSome) f) :
  wpAny (model X.prog X.w) A (compareOp .In u (.ref a)) Q E s:=by
 rcases g with ⟨c,k,e,ey,l⟩ | ⟨c,k,b,e,ey,m,l⟩
 ·subst ey;obtain⟨z,hd,p,rel,d⟩:=kI I.hok e;erw[wpAny_in_of (kE i) hd d.mapOf ?_];rw[<- (rel.val k).isSome_eq,<- l];rwa[h _ (I.tok _)]
 ·subst ey;cases (show u=j8 b from i);obtain⟨z,hd,n,rel,d⟩:=dP I.hok e;erw[wpAny_in_heap (tupleKind_room_in1 j) (ji I.hok m) hd d ?_];have q:=(rel.val k).isSome_eq;rw[Da] at q;rw[<- q,<- l];rwa[h _ (I.tok _)]
def Wh{Q:c6->d7->Prop}(j:A.units+1<cLine)(I:Inv X JQ σ H s)(g:dk H a y o)(i:xJ y u)(h:∀ f,Inv X JQ σ H f->Q (.bool (!o.isSome)) f) :
  wpAny (model X.prog X.w) A (compareOp .NotIn u (.ref a)) Q E s:=by
 rcases g with ⟨c,k,e,ey,l⟩ | ⟨c,k,b,e,ey,m,l⟩
 ·subst ey;obtain⟨z,hd,p,rel,d⟩:=kI I.hok e;erw[wpAny_notIn_of (kE i) hd d.mapOf ?_];rw[<- (rel.val k).isSome_eq,<- l];rwa[h _ (I.tok _)]
 ·subst ey;cases (show u=j8 b from i);obtain⟨z,hd,n,rel,d⟩:=dP I.hok e;erw[wpAny_notIn_heap (tupleKind_room_in1 j) (ji I.hok m) hd d ?_];have q:=(rel.val k).isSome_eq;rw[Da] at q;rw[<- q,<- l];rwa[h _ (I.tok _)]
def on{c:w9}{d:Nat}{ob:HO}(I:Inv X JQ σ H s)(f:Mut (H a))(g:Bz a s.heap c)(h:∃ q,c.get? a=O q)(new:wN X.prog X.w (upd H a ob) c a ob) :
  Inv X JQ σ (upd H a ob) { s with heap:=c,toks:=d } :=
 I.write (x:=a) (e:=a) f (.inl rfl) (λb q i z=>(g.2 b i).trans z) h new
def ig{P:m9}{w:r9}{g:Hp}{e:w9}{c:List (Key×V)}{d:List (Key×c6)}(z:c.length<=sizeLine)(hd:(a == sysModules)=JP)(rel:KV c d)(f:e.DictOf (yY P w) a d) :
  wN P w g e a (.dK c):=⟨z,hd,d,rel,f⟩
def bf{M:Hp}{Q:Unit->d7->Prop}(R:A.units+1<cLine)(I:Inv X JQ σ H s)(g:oV H a y v M)(C:xJ y u)(D:xJ v r)(h:∀ B,Inv X JQ σ M B->Q () B) :
  wpAny (model X.prog X.w) A (setItem (.ref a) u r) Q E s:=by
 rcases g with ⟨d,k,e,ey,l,p⟩ | ⟨d,k,b,e,ey,L,l,p⟩
 ·subst ey p;obtain⟨z,hd,P,rel,x⟩:=ZV I.hok e;have j:P.length<=sizeLine:=by rw[<- rel.length]; rwa[z]
  have n:(vR d k v).length<=sizeLine:=by have:=qF d k v; lia
  erw[wpAny_setItem_pairs (hsz:=j) (kE C) x λG f m=>h _ ?_];have S:∃ q,G.get? a=O q:=let ⟨q,_,_,i,_⟩:=f;⟨q,i⟩;rwa[on I (by rw[e]; exact t5) m S (ig n hd (rel.put k D) f)]
 ·subst ey p;cases (show u=j8 b from C);obtain⟨z,hd,N,rel,x⟩:=WY I.hok e;have j:N.length<=sizeLine:=by rw[<- FD rel]; rwa[z]
  have n:(vR d k v).length<=sizeLine:=by have:=qF d k v; lia
  erw[wpAny_setItem_heap (hsz:=j) (tupleKind_room_in1 R) (ji I.hok L) x λG f m=>h _ ?_];obtain⟨q,T,Y,i,h2,h3,h4,_,h5⟩:=f;erw[on I (by rw[e]; rwa[t5]) m ⟨q,i⟩ ⟨n,hd,_,(rel.put k L D).keeps λc Z J=>?_,q,T,Y,i,h2,h3,h4,h5⟩];rw[zD (sr J e (λz=>nomatch z))];rwa[J]
end

section
variable{X:Cx}{JQ:List (c7×By)}{σ:St}{H:Hp}{s:d7}{a:c7}{kvs:List (Key×V)}{k:Key}{u:c6}{A:Ac}{E:c6->d7->Prop}
def Tx{Q:Unit->d7->Prop}(I:Inv X JQ σ H s)(e:H a=O (.dK kvs))(i:xJ (kV k) u)(l:(vS kvs k).isSome=JO)(h:∀ f,Inv X JQ σ (upd H a (.dK (pc kvs k))) f->Q () f) :
  wpAny (model X.prog X.w) A (delItem (.ref a) u) Q E s:=by
 obtain⟨z,hd,g,rel,d⟩:=ZV I.hok e;refine wpAny_delItem_slot d.typeIs (by decide) Fg
  (call_meetsIn Fg d.typeIs PySem.F.entry_dict_delitem (PySem.F.args_dict_delitem_2 _ _) (meets_dict_delitem_pairs (yY X.prog X.w) a (kE i)) ⟨g,d,by rw[<- rel.length]; exact z,by rw[<- (rel.val k).isSome_eq]; exact l,λn c j=>h _ ?_⟩)
 have m:∃ q,n.get? a=O q:=let ⟨q,_,_,hq,_⟩:=c;⟨q,hq⟩;rwa[on I (by rw[e]; exact t5) j m (ig (f9 (dl kvs k) z) hd (rel.drop k) c)]
def d_pop{v:V}{more:List c6}{Q:c6->d7->Prop}(I:Inv X JQ σ H s)(e:H a=O (.dK kvs))(f:xJ (kV k) u)(l:vS kvs k=O v)(n:more=[]\/∃ x,more=[x])
  (h:∀ c m,Inv X JQ σ (upd H a (.dK (pc kvs k))) m->xJ v c->Q c m):wpAny (model X.prog X.w) A (call (.builtin "dict.pop") (.ref a::u::more)) Q E s:=by
 obtain⟨z,hd,j,rel,p⟩:=ZV I.hok e;obtain⟨c,r,g⟩:=jo.some_of (v:=v) (o:=valueAt j k) (by rw[<- l]; exact rel.val k);have B:(keyPart u).isSome=true:=by
  cases k with
  | inl i=>obtain⟨t,q⟩:=(show ∃ t,u=C3 i t from f); subst q; rfl
  | inr x=>obtain⟨t,q⟩:=(show ∃ t,u=Dj x t from f); subst q; rfl
 have D:argsOk "dict.pop" ⟨.ref a::u::more,[]⟩:=by
  rcases n with q | ⟨x,q⟩
  ·subst q; rwa[PySem.F.args_dict_pop_2 _ _]
  ·subst q; rwa[PySem.F.args_dict_pop_3 _ _ _]
 refine call_meetsIn Gh p.typeIs PySem.F.entry_dict_pop D (meets_dict_pop_there (yY X.prog X.w) a (kE f) more n B)
  ⟨j,c,p,by rw[<- rel.length]; exact z,r,λG d y=>h c _ ?_ g⟩
 have C:∃ q,G.get? a=O q:=let ⟨q,_,_,hq,_⟩:=d;⟨q,hq⟩;rwa[on I (by rw[e]; exact t5) y C (ig (f9 (dl kvs k) z) hd (rel.drop k) d)]
def d_len{Q:c6->d7->Prop}(I:Inv X JQ σ H s)(e:Rd H a (.dK kvs))(h:∀ t c,Inv X JQ σ H c->Q (.int kvs.length t) c):wpAny (model X.prog X.w) A (call (.builtin "len") [.ref a]) Q E s:=by
 obtain⟨z,hd,f,rel,d⟩:=kI I.hok e;refine call_len_dict hd d (by rw[<- rel.length]; rw[sizeLine_eq] at z; lia) ?_;rw[<- rel.length];rwa[h _ _ (I.tok _)]
end


def Sk(i:Am):Prop:=∀ c d,subscripted i JP c d=operate [c,d] (getItem c d)
def gk{prog:m9}{w:r9}{A:Ac}{E:c6->d7->Prop}{s:d7}{env:Ff}{value slice:Am}{pos:DD}{T id:String}{Q:c6->d7->Prop}
  (p:typeLookup (.type T) "__getitem__" = pure (O (.builtin id))) (n:Sk slice)
  (h:wpAny (model prog w) A (eval value env) (λo f=>wpAny (model prog w) A (eval slice env) (λi c=>c.TypeIs o T/\wpAny (model prog w) A (getItem o i) Q E c) E f) E s) :
  wpAny (model prog w) A (eval (.Subscript value slice pos) env) Q E s:=by
 refine Ir (BA h (λo f l=>BA l (λi c d=>?_) λ_ _ x=>x) λ_ _ x=>x);obtain⟨m,d⟩:=d;unfold subscriptTail;refine b9 ?_;rw[getitemInPython_of_ne m.not_modules];refine b9 (wpAny_specialOf m p ?_);have g:wpAny (model prog w) A (subscripted slice JP o i) (λr e=>wpAny (model prog w) A (letTemporaryGo value o r >>= λ_=>pure r) Q E e) E c:=by
  rw[n o i];rwa[wpAny_operating (BA d (λr e j=>b9 (wpAny_letTemporaryGo (e9 j))) λ_ _ x=>x)]
 first
  | exact e9 (b9 g)
  | exact b9 (e9 (b9 g))
  | exact b9 g

def fK{X:Cx}{h:List (c7×By)}{f:St}{H:Hp}{s:d7}{a:c7}{y:V}{o:Option V}(I:Inv X h f H s)(g:dk H a y o):s.TypeIs (.ref a) "dict" := by
 rcases g with ⟨c,k,e,_,_⟩ | ⟨c,k,b,e,_,_,_⟩
 ·obtain⟨_,_,j,_,d⟩:=kI I.hok e;rwa[d.typeIs]
 ·obtain⟨_,_,i,_,d⟩:=dP I.hok e;rwa[d.typeIs]
def tDGet(e ty:TE):TE:=λc H Q=>e c H λx f=>ty c f λy d=>E2 λa v=>A3 (x=.ref a) (dk d a y (O v)) (Q v d)
def tDIn(ty e:TE):TE:=λc H Q=>ty c H λy f=>e c f λx d=>E2 λa o=>A3 (x=.ref a) (dk d a y o) (Q (.bl o.isSome) d)
def Vb(ty e:TE):TE:=λc H Q=>ty c H λy f=>e c f λx d=>E2 λa o=>A3 (x=.ref a) (dk d a y o) (Q (.bl (!o.isSome)) d)
def sDPut(f ty e:TE):TS:=λD c H=>e c H λv i=>f c i λx h=>ty c h λy g=>E2 λa d=>A3 (x=.ref a) (oV g a y v d) (D.nx c d)
section
variable{X:Cx}{o i e value:Am}{pos pos' tpos:DD}{td ty tv:TE}
def zN(r:X.A.units+1<cLine)(z:PE X o td)(hi:PE X i ty)(w:Sk i):PE X (.Subscript o i pos) (tDGet td ty):=by
 intro f s d H Q I h;erw[gk Dq.lookup w (thn (z f s d H _ I h) λu l ⟨x,E,C,n,q⟩=>thn (hi f l d E _ C q) λM L ⟨y,D,j,m,a,v,ex,g,p⟩=>?_)];subst ex;obtain rfl:u=j8 a:=n;rwa[fK j g,ae r j g m λG J B c=>⟨v,D,B,c,p⟩]
def Ue(q:X.A.units+1<cLine)(hi:PE X i ty)(r:PE X o td):PC X .In i o (tDIn ty td):=by
 intro d s c H Q I h;erw[thn (hi d s c H _ I h) λG f ⟨y,C,z,j,n⟩=>thn (r d f c C _ z n) λu E ⟨x,B,w,l,a,p,ex,g,m⟩=>?_];subst ex;obtain rfl:u=j8 a:=l;rwa[d_in q w g j λD v=>⟨.bl p.isSome,B,v,rfl,m⟩]
def gw(q:X.A.units+1<cLine)(hi:PE X i ty)(r:PE X o td):PC X .NotIn i o (Vb ty td):=by
 intro d s c H Q I h;erw[thn (hi d s c H _ I h) λG f ⟨y,C,z,j,n⟩=>thn (r d f c C _ z n) λu E ⟨x,B,w,l,a,p,ex,g,m⟩=>?_];subst ex;obtain rfl:u=j8 a:=l;rwa[Wh q w g j λD v=>⟨.bl (!p.isSome),B,v,rfl,m⟩]
def uJ(B:X.A.units+1<cLine)(E:PE X o td)(hi:PE X i ty)(z:PE X value tv)(C:swapsWith value (O (.Subscript o i pos')) pos.line X.env=pure JP) :
  PS X (.Assign [.Subscript o i pos'] value pos) (sDPut td ty tv):=by
 intro d s c H D I h;erw[wpAny_Assign_Subscript (thn (z d s c H _ I h) λr j ⟨v,Q,M,n,w⟩=>thn (E d j c Q _ M w) λu f ⟨x,P,L,m,q⟩=>thn (hi d f c P _ L q) λT S ⟨y,Y,J,l,a,N,ex,g,p⟩=>?_) C];subst ex;obtain rfl:u=j8 a:=m;rwa[bf B J g l n λR G=>⟨c,N,G,p⟩]
end


def fQ{P:m9}{w:r9}{H:Hp}(h:w9)(c:sysModules<h.objs.size):wN P w H (h.push { cls:=.type "dict",data:=.dict #[] }) h.objs.size (.dK []) :=
 ⟨m7 _,x4.mpr (AR (o9 c)),[],.nil,Heap.DictOf.new h⟩
def ZW{P:m9}{w:r9}{H:Hp}(h:w9)(c:sysModules<h.objs.size):wN P w H (h.push { cls:=.type "dict",data:=.dict #[] }) h.objs.size (.dT []) :=
 ⟨m7 _,x4.mpr (AR (o9 c)),[],.nil,_,#[],0,i8 _ rfl,⟨rfl,rfl,rfl⟩,rfl,rfl,EX⟩
def Uc:TE:=λ_ H Q=>∀ p,H p=JN->Q (.ref p) (upd H p (.dK []))
def UK:TE:=λ_ H Q=>∀ p,H p=JN->Q (.ref p) (upd H p (.dT []))
section
variable{X:Cx}{pos:DD}
def sI:PE X (.Dict [] [] pos) Uc:=λd s c H Q I h =>
 HG ⟨.ref s.heap.objs.size,_,I.laid (a:=s.heap.objs.size) (o:=.dK []) (t':=s.toks) (λ_ _ q=>c9 _ q) (e8 _) (fQ s.heap I.big),rfl,h _ (I.hok.fresh (e8 _))⟩
def fZ:PE X (.Dict [] [] pos) UK:=λd s c H Q I h =>
 HG ⟨.ref s.heap.objs.size,_,I.laid (a:=s.heap.objs.size) (o:=.dT []) (t':=s.toks) (λ_ _ q=>c9 _ q) (e8 _) (ZW s.heap I.big),rfl,h _ (I.hok.fresh (e8 _))⟩
end

def ah:List (TE×TE)->St->Hp->(List (V×V)->Hp->Prop)->Prop
 | [],_,H,Q=>Q [] H
 | (e,d)::r,c,H,Q=>e c H λx i=>d c i λy h=>ah r c h λf g=>Q ((x,y)::f) g
abbrev VV:List (V×V)->List (c6×c6)->Prop:=Ho λp q=>xJ p.1 q.1/\xJ p.2 q.2
def PPs(X:Cx)(pos:DD)(keys:List (Option Am))(c:List Am)(e:List (TE×TE)):Prop :=
 ∀(g:List (c7×By))(s:d7)(d:St)(H:Hp)(Q:List (V×V)->Hp->Prop),Inv X g d H s->ah e d H Q ->
  wpAny (model X.prog X.w) X.A (evalPairs (pairTrees keys c X.env pos)) (λi j=>∃ f h,Inv X g d h j/\VV f i/\Q f h) X.xe s
def fF{X:Cx}{pos:DD} : PPs X pos [] [] []:=λd s c H Q I h=>pairTrees_nil_walk ⟨[],H,I,.nil,h⟩
def wF{X:Cx}{pos:DD}{k v:Am}{j:List (Option Am)}{f:List Am}{i g:TE}{c:List (TE×TE)}(B:PE X k i)(z:PE X v g)(A:PPs X pos j f c) :
  PPs X pos (O k::j) (v::f) ((i,g)::c):=λe s d H Q I h =>
 pairTrees_cons_walk (thn (B e s d H _ I h) λu m ⟨x,L,E,o,r⟩=>thn (z e m d L _ E r) λN l ⟨y,J,D,n,q⟩ =>
  thn (A e l d J _ D q) λM P ⟨w,G,C,rel,p⟩=>⟨(x,y)::w,G,C,.cons ⟨o,n⟩ rel,p⟩)

def qh(c more:List (Key×V)):List (Key×V):=more.foldl (λd e=>vR d e.1 e.2) c
def KV.merge:∀{more:List (Key×V)}{d:List (Key×c6)}{c:List (Key×V)}{vs:List (Key×c6)},KV more d->KV c vs->KV (qh c more) (merged vs d):=by
 intro more d c vs r;unfold KV at r
 induction r generalizing c vs with
 | nil=>intro q; rwa[q]
 | @cons p q j i h t g =>
  intro f;have e:KV (vR c p.1 p.2) (stored vs q.1 q.2):=by
   have:=f.put p.1 h.2;rw[<- h.1]; rwa[this]
  rwa[g e]
def uz:∀(more c:List (Key×V)),(qh c more).length<=c.length+more.length
 | [],c=>by show c.length<=c.length+0; lia
 | p::r,c=>by
  have h1:=uz r (vR c p.1 p.2);have h2:=qF c p.1 p.2;show(qh (vR c p.1 p.2) r).length<=_;rw[i9]; lia
def lL{P:m9}{w:r9} : ∀{d:List (Key×V)}{f:List (c6×c6)},VV (d.map λg=>(kV g.1,g.2)) f->∃ e,Carries (yY P w) f e/\KV d e
 | [],_,r=>by rw[Dk] at r; cases r; rwa[[],t5,.nil]
 | p::d,_,r=>by
  rw[i5] at r;cases r with
  | @cons a b as bs h t =>
   obtain⟨e,c,q⟩:=lL (P:=P) (w:=w) t;obtain⟨j,i⟩:=b;rwa[(p.1,i)::e,⟨kE h.1,rfl,c⟩,.cons ⟨rfl,h.2⟩ q]
def tDisp(d:List (TE×TE)):TE:=λg H Q=>∀ p,H p=JN->ah d g (upd H p (.dK [])) λh f=>f p=O (.dK [])/\∃ c:List (Key×V),A3 (h=c.map (λe=>(kV e.1,e.2))) (c.length<=15) (Q (.ref p) (upd f p (.dK (qh [] c))))
def gT{X:Cx}{pos:DD}{keys:List (Option Am)}{d:List Am}{f:List (TE×TE)}(h:PPs X pos keys d f)(i:keys.all (·.isSome)=JO)(C:keys.length=d.length)(h0:keys≠[])
  (l:keys.length<=15):PE X (.Dict keys d pos) (tDisp f):=by
 intro J s p H Q I q;have B:=I.hok.fresh (e8 s.heap.objs.size);have L:=I.laid (a:=s.heap.objs.size) (o:=.dK []) (h':=s.heap.push { cls:=.type "dict",data:=.dict #[] }) (t':=s.toks) (λ_ _ q=>c9 _ q) (e8 _) (fQ s.heap I.big);refine wpAny_Dict_walk (knd:=yY X.prog X.w) i C h0 l (thn (h J _ p _ _ L (q _ B)) λM N ⟨R,S,n,rel,e,g,E,lk,x⟩=>?_);subst E;obtain⟨u,c,rk⟩:=lL (P:=X.prog) (w:=X.w) rel;obtain⟨z,hd,r,v,G⟩:=ZV n.hok e;cases v;refine⟨u,c,G,λm j A=>⟨.ref s.heap.objs.size,_,?_,U,x⟩⟩;have y:(qh [] g).length<=sizeLine:=by
  have h1:=uz g [];rw[AE] at h1;rw[sizeLine_eq]; lia
 have D:∃ q,m.get? s.heap.objs.size=O q:=let ⟨q,_,_,hq,_⟩:=j;⟨q,hq⟩;rwa[on n (by rw[e]; exact t5) A D (ig y hd (rk.merge .nil) j)]



end L2

namespace L2
def bw(h:w9)(a:c7)(rows:Array C0)(c:Nat):Prop:=∃ ob,h.get? a=O ob/\ob.ExactDict/\ob.data=.dict rows c
def bw.at{h d:w9}{a:c7}{rows:Array C0}{c:Nat}(x:bw h a rows c)(e:∀ ob,h.get? a=O ob->d.get? a=O ob):bw d a rows c:=let ⟨ob,g,r⟩:=x;⟨ob,e _ g,r⟩
def bw.typeIs{z:d7}{a:c7}{rows:Array C0}{d:Nat}(x:bw z.heap a rows d):z.TypeIs (.ref a) "dict" := let ⟨ob,g,c,_⟩:=x;⟨ob,g,c.1⟩
section
variable{prog:m9}{w:r9}{A:Ac}{E:c6->d7->Prop}{z:d7}{it a:c7}{rows:Array C0}{age k:Nat}
def fN{R:c6->d7->Prop}(d:(a == sysModules)=JP)(x:bw z.heap a rows age)(e:R (.ref z.heap.objs.size) { z with heap:=z.heap.push { cls:=.type "dict_keyiterator",data:=.fields #[.ref a,.int 0 0,.int rows.size 0,.int age 0] } }) :
  wpAny (model prog w) A (pyIter (.ref a)) R E z:=by
 have ty:=x.typeIs;obtain⟨ob,g,_,c⟩:=x;erw[wpAny_pyIter_slot ty HH (Bj HH ty F.entry_dict_iter ?walk (F.args_dict_iter_1 _))]
 case walk =>
  unfold Di.«dict.__iter__» IM;refine b9 (b9 (wpAny_notOrdered_dict ty (show wpAny _ _ (pure (j8 a)) _ _ z from e9 ?_)));show wpAny _ _ (Gi a >>= _) _ _ z;unfold Gi;rw[y4 (by rw[d]; decide)];erw[b9 (e9 (b9 (Ft g c (b9 (Ga g c ?_)))))];erw[b9 (Ak (e9 ⟨_,rfl, "dict_keyiterator",_,⟨_,i8 _ rfl,rfl⟩,Bv.lookup,?_⟩))];simpa [rawInt] using e
def dw{R:Option c6->d7->Prop}(i:z.heap.IsKeyIter it a k rows.size age)(x:bw z.heap a rows age)(j:k<rows.size)
  (l:∀ h,h.IsKeyIter it a (k+1) rows.size age->Bz it z.heap h->R (O rows[k].key) { z with heap:=h }):wpAny (model prog w) A (pyNext (.ref it)) R E z:=by
 have ty:=i.typeIs;obtain⟨n,f,m,d⟩:=id i;obtain⟨ob,g,_,e⟩:=x;unfold pyNext;erw[b9 (Ej (AY (name:=B6 "__next__") ty Bv (Bj Bv ty Ep ?walk (Ed _))))]
 case walk =>
  erw[b9 (e9 (b9 (b9 ?_)))]
  first | refine b9 (BU ty (e9 (b9 (EY f d ?_)))) | refine b9 (Cz ty (e9 (b9 (EY f d ?_))))
  simp only[show EA "dict_keyiterator" = JP by decide,BO,if_false];show wpAny _ _ (if (j8 a == AA)=JO then _ else _) _ _ z;rw[y4 (show ¬ ((j8 a == AA)=JO) from l9)];erw[b9 (e9 (b9 (Ft g e ?_)))];rw[y4 (by simp)];erw[b9 (e9 (b9 (Ga g e ?_)))];rw[y4 (by simp)];erw[e9 ?_];simp only[show ¬ ((k:Int)<0) from by lia,if_false,Bq,Ae j];erw[b9 ?_]
  first | refine b9 (BU ty (e9 (b9 (DY ty ?_)))) | refine b9 (Cz ty (e9 (b9 (DY ty ?_))))
  show wpAny _ _ (setField (.ref it) 1 (rawInt ((k:Int)+1)) >>= _) _ _ z;refine b9 (CM f d (by simp) ?_);have c:(z.heap.update it (Cc (·.setIfInBounds 1 (rawInt ((k:Int)+1))))).IsKeyIter it a (k+1) rows.size age :=
   ⟨_,Cn _ f (C7 (BN d _)),(Fq ..).trans m,by rw[BN d]; simp[rawInt]⟩
  refine b9 (Ca (b9 (DY (s:={ z with heap:=z.heap.update it (Cc (·.setIfInBounds 1 (rawInt ((k:Int)+1)))) }) c.typeIs ?_)));show wpAny _ _ (pure rows[k].key) _ _ _;rwa[e9 (e9 ⟨_,rfl,e9 (l _ c (Dv ..))⟩)]
def bL{R:Option c6->d7->Prop}(j:A.handled=JN)(f:z.heap.IsKeyIter it a k rows.size age)(x:bw z.heap a rows age)(i:rows.size<=k)
  (l:∀ h,HY it z.heap h->R JN { z with heap:=h }):wpAny (model prog w) A (pyNext (.ref it)) R E z:=by
 have ty:=f.typeIs;obtain⟨n,d,o,e⟩:=id f;obtain⟨ob,g,_,c⟩:=x;unfold pyNext;erw[b9 (Ej (AY (name:=B6 "__next__") ty Bv (Bj Bv ty Ep ?walk (Ed _))))]
 case walk =>
  erw[b9 (e9 (b9 (b9 ?_)))]
  first | refine b9 (BU ty (e9 (b9 (EY d e ?_)))) | refine b9 (Cz ty (e9 (b9 (EY d e ?_))))
  simp only[show EA "dict_keyiterator" = JP by decide,BO,if_false];show wpAny _ _ (if (j8 a == AA)=JO then _ else _) _ _ z;rw[y4 (show ¬ ((j8 a == AA)=JO) from l9)];erw[b9 (e9 (b9 (Ft g c ?_)))];rw[y4 (by simp)];erw[b9 (e9 (b9 (Ga g c ?_)))];rw[y4 (by simp)];erw[e9 ?_];simp only[show ¬ ((k:Int)<0) from by lia,if_false,Bq,B7 i];erw[b9 ?_]
  first | refine b9 (BU ty (e9 ?_)) | refine b9 (Cz ty (e9 ?_))
  show wpAny _ _ (setField (.ref it) 0 .none >>= _) _ _ z;refine b9 (CM d e (by simp) (show wpAny _ _ (newExc (.type "StopIteration") [] >>= _) _ _ _ from b9 ?_));simp only[newExc,newTuple];refine b9 (Ak (b9 (m:=firstArgMember _ _) (wpAny_of_eq (a:=AA) (by first | rfl | (simp only[firstArgMember]; rfl)) (Ak ?_ (by size_fits)))) (by size_fits));simp only[raiseNew];erw[b9 (wpAny_handled ?_)];rw[show A.in1.handled=JN from j];erw[b9 (e9 (wpAny_throw ?_))];erw[b9 (HC (T := "StopIteration") (b:=JO) ⟨_,i8 _ rfl,rfl⟩ isSubtype_stop ?_)];rwa[e9 (l _ (((Dv ..).extBut.push _).push _))]
def bU(p:A.handled=JN)(j:a≠it):Walks prog w A it [it,a] [it] rows.size (λi v=>∃ h:i<rows.size,v=rows[i].key) (λi h=>h.IsKeyIter it a i rows.size age/\bw h a rows age) where
 sub:=λb c=>by simp at c; simp[c]
 frame:=λ_ _ _ st n=>⟨st.1.at λo e=>n it (by simp) o e,st.2.at λo e=>n a (by simp) o e⟩
 item:=λi s Q E hi st f=>dw st.1 st.2 hi λm g d =>
  f _ m s.toks ⟨hi,rfl⟩ ⟨g,st.2.at λo e=>d.extBut a o j e⟩ λb o c e=>d.extBut b o (λh=>c (by simp[h])) e
 done:=λs Q E st f=>bL p st.1 st.2 (e8 _) λm l=>f m s.toks λb o c e=>l b o (λh=>c (by simp[h])) e
 self:=λ_ _ _ _ st f=>Gx st.1 f
def Zy(d:(a == sysModules)=JP):PySem.W.KdlSrc prog w "dict" a a rows.size (λi v=>∃ h:i<rows.size,v=rows[i].key) (λh=>bw h a rows age) where
 type:=λ_ x=>x.typeIs
 there:=λ_ x=>let ⟨_,g,_⟩:=x;⟨g9 g,g9 g⟩
 keep:=λ_ _ x f=>x.at λo e=>f a (.inl rfl) o e
 notList:=by decide
 notTuple:=by decide
 hint:=λ_ _ _ _ x c=>PySem.W.kdl_hint_dict x.typeIs c
 iter:=λ_ s j x=>⟨_,_,(λ_ _ c=>fN d x c),bU j (let ⟨_,g,_⟩:=x; o9 (g9 g)),⟨⟨_,i8 _ rfl,rfl,rfl⟩,x.at λo e=>c9 _ e⟩⟩
end
section
variable{X:Cx}
def hU(hc:X.calm=JO):uH X (.type "list") (λS H Q=>E2 λ(d:c7) (i:List (List Key×V))=>A3 (S=[.ref d]) (H d=O (.dT i)) (∀(p:c7)(E:List (c7×List Key)),H p=JN->E.map (·.2)=i.map (·.1)->(∀ t∈E,H t.1=O (.tup (t.2.map kV)))->Q (.ref p) (upd H p (.lst ((E.map (·.1)).map V.ref))))):=by
 intro JQ s σ H S us Q I r h;obtain⟨d,i,rfl,hd,q⟩:=h;obtain⟨u,rfl,ru⟩:=yN.one r;cases ru;obtain⟨G,J,n,rel,ob,P,D,g,ex,R,z,x⟩:=WY I.hok hd;have m:P.size=n.length:=size_of_entries z;have l:i.length=n.length:=FD rel;refine HI (Zy (rows:=P) (age:=D) J) (show X.A.handled=JN from I.ok.hd hc) ⟨ob,g,ex,R⟩ (by rw[m,<- l]; exact G) λh' tk B c keep at' v=>?_;have C:B.toList=((n.map λy=>(y.2.1,y.1)).map (·.1)).map j8:=by
  erw[DS λj=>?_];by_cases N:j<n.length
  ·have Y:j<B.size:=by rw[v.1,m]; rwa[N]
   obtain⟨M,e⟩:=v.2 j B[j] (by simp[Y]);have ek:=entry_at z j;rw[Ae M,c8 N,AS] at ek;have ev:P[j].key=j8 n[j].2.1:=by rw[t7 ek]; rfl
   rw[Ax,Ae Y,e,ev,d9,d9,d9,c8 N];rfl
  ·rw[BJ (by rw[g8,v.1,m]; lia),BJ (by simp; lia)]
 have f:(n.map λy=>(y.2.1,y.1)).map (·.2)=i.map (·.1)/\∀ t∈n.map (λy=>(y.2.1,y.1)),H t.1=O (.tup (t.2.map kV)):=by
  clear z m l q C hd G x
  induction rel with
  | nil=>exact⟨rfl,λt ht=>nomatch ht⟩
  | @cons p y ps zs L t Z =>
   erw[by rw[i5,i5,i5,Z.1,L.1],λT w=>?_];rcases o0.mp w with e | w
   ·subst e;show H y.2.1=O (.tup (y.1.map kV));rw[<- L.1];rwa[L.2.1]
   ·rwa[Z.2 T w]
 have fr:H s.heap.objs.size=none:=I.hok.fresh (e8 _);erw[.ref s.heap.objs.size,_,I.laid (t':=tk) (a:=s.heap.objs.size) (o:=.lst (((n.map λy=>(y.2.1,y.1)).map (·.1)).map V.ref)) keep (e8 _) ?_,rfl,q _ _ fr f.1 f.2];exists by rw[b7,b7,b7,<- l]; exact G,_,c,zb _;rw[<- C,Er];rwa[at']
end
end L2

namespace Sea
abbrev Sd:=c7×Int×Int×Int
abbrev yB(c:List Sd):List V:=(c.map (·.1)).map V.ref
def du(H:Hp)(c:List Sd):Prop:=∀ t∈c,H t.1=O (.tup [.int t.2.1,.int t.2.2.1,.int t.2.2.2])/\(t.2.1≠0\/t.2.2.1≠0)/\t.2.1.natAbs<=10^9/\t.2.2.1.natAbs<=10^9/\t.2.2.2.natAbs<=10^13
def du.same{H e:Hp}{c:List Sd}(h:du H c)(s:Same H e):du e c:=λt d=>⟨s _ _ (h t d).1,(h t d).2⟩
def yA(c:List Sd):(yB c).length=c.length:=by simp[yB]
def rM{c:List Sd}{i:Nat}{v:V}(h:(yB c)[i]?=O v):∃ t,c[i]?=O t/\v=.ref t.1/\i<c.length:=by
 rw[d9,d9] at h;cases e:c[i]? with
 | none=>rw[e] at h; cases h
 | some t=>rw[e] at h; rwa[t,rfl,(t7 h).symm,(d8.mp e).1]
def Zl{ss:List Sd}{i:Nat}{k:Int}(e:k=i)(h:i<ss.length):∃ t,t∈ss/\ss[i]?=O t/\atI (yB ss) k=O (.ref t.1):=by
 erw[ss[i],Ag h,c8 h,?_];rw[e];rwa[qB (by rw[d9,d9,c8 h] <;> rfl)]
def VL(c:List Sd)(x y:Int):Bool:=c.all λt=>decide (t.2.1*x+t.2.2.1*y<=0)
def WK(c:List Sd)(n:Nat)(k:List Int):Prop:=∃ j t,j<n/\c[j]?=O t/\((k=zw [-t.2.2.1,t.2.1]/\VL c (-t.2.2.1) t.2.1=JO)\/(k=zw [t.2.2.1,-t.2.1]/\VL c t.2.2.1 (-t.2.1)=JO))
def ZM{ss:List Sd}{x y g:Int}(d:0<g):VL ss (x*g) (y*g)=VL ss x y:=by
 unfold VL
 congr 1
 funext t
 erw[decide_eq_decide.mpr ?_];have e:t.2.1*(x*g)+t.2.2.1*(y*g)=(t.2.1*x+t.2.2.1*y)*g:=by rw[HW,AN,AN]
 rw[e];constructor
 ·intro h;by_cases c:t.2.1*x+t.2.2.1*y<=0
  ·rwa[c]
  ·have:=JA (show 0<t.2.1*x+t.2.2.1*y by lia) d;lia
 ·intro h;have:=DQ (show 0<=-(t.2.1*x+t.2.2.1*y) by lia) (Ai d);rw[HV] at this;lia
def way_low{c:List Sd}{x y:Int}(g:0<yV [x,y]):VL c (x/(yV [x,y]:Int)) (y/(yV [x,y]:Int))=VL c x y:=by
 have d:(0:Int)<(yV [x,y]:Int):=by lia
 have f:=uC (ns:=[x,y]) (n:=x) (by simp);have e:=uC (ns:=[x,y]) (n:=y) (by simp);have z:=ZM (ss:=c) (x:=x/(yV [x,y]:Int)) (y:=y/(yV [x,y]:Int)) d;rw[f,e] at z;rwa[z.symm]
def pk(ns:List Int):List Key:=ns.map CQ
def tf(ns:List Int):(pk ns).map kV=ns.map V.int:=by
 unfold pk;rw[Ab];rfl
def kz{a b:List Int}(h:pk a=pk b):a=b:=by
 have z:=congrArg (List.map kV) h;rw[tf,tf] at z;rwa[xg z]
structure dI(kvs:List (List Key×V))(ks:List (List Int)):Prop where
 keys:kvs.map (·.1)=ks.map pk
 nodup:ks.Nodup
def dI.nil:dI [] []:=⟨rfl,EX⟩
def dI.put{d:List (List Key×V)}{i:List (List Int)}(h:dI d i)(k:List Int)(v:V):∃ j,dI (vR d (pk k) v) j/\(∀ x,x∈j↔x∈i\/x=k)/\j.length<=i.length+1:=by
 have p:∀ g∈d,∃ x∈i,g.1=pk x:=λg f=>by
  have z:g.1∈i.map pk:=by rw[<- h.keys]; rwa[Ay f]
  obtain⟨x,l,e⟩:=g7.mp z;rwa[x,l,e.symm]
 unfold vR;by_cases c:(d.any λg=>decide (g.1=pk k))=JO
 ·rw[y6 c];obtain⟨g,f,e⟩:=BP.mp c;obtain⟨x,l,ex⟩:=p g f;have m:x=k:=kz (ex.symm.trans (of_decide_eq_true e));erw[i,⟨?_,h.nodup⟩,λy=>⟨.inl,λz=>z.elim id λz=>by rw[z,<- m]; rwa[l]⟩,Bb _];rw[Ab,<- h.keys];erw[Dx λa _=>?_];show(if a.1=pk k then(a.1,v) else a).1=a.1;split <;> rfl
 ·rw[y4 c];have o:k ∉ i:=λq=>c (by
   have z:pk k∈d.map (·.1):=by rw[h.keys]; rwa[Ay q]
   obtain⟨g,f,e⟩:=g7.mp z;rwa[BP.mpr ⟨g,f,y7 e⟩])
  erw[i++[k],⟨by rw[e7,e7,h.keys]; rfl,?_⟩,λy=>by rw[l7,f6],by rw[f8]; rwa[e8 _]];rw[Fu];erw[h.nodup,by simp,λa r b n=>?_];rw[f6] at n;intro e;rwa[o (n ▸ e ▸ r)]
def dI.len{c:List (List Key×V)}{d:List (List Int)}(h:dI c d):c.length=d.length:=by
 have z:=congrArg Aq h.keys;(rw[b7,b7] at z;assumption)
def dI.refs{H:Hp}{g:List (List Key×V)}{c:List (List Int)}{f:List (c7×List Key)}(h:dI g c)(e:f.map (·.2)=g.map (·.1))(l:∀ t∈f,H t.1=O (.tup (t.2.map kV))) :
  ∃ d:List (c7×List Int),d.map (·.1)=f.map (·.1)/\d.map (·.2)=c/\∀ u∈d,H u.1=O (.tup (u.2.map V.int)):=by
 rw[h.keys] at e;clear h
 induction f generalizing c with
 | nil =>
  cases c with
  | nil=>exact⟨[],rfl,rfl,λu i=>nomatch i⟩
  | cons k c=>rwa[y9 e (by simp)]
 | cons t f n =>
  cases c with
  | nil=>rwa[y9 e (by simp)]
  | cons k c =>
   rw[i5,i5] at e;injection e with e1 e2
   obtain⟨d,h1,h2,h3⟩:=n e2 λm j=>l m (Af _ j);erw[(t.1,k)::d,by rw[i5,i5,h1],by rw[i5,h2],λu i=>?_];rcases o0.mp i with rfl | i
   ·have z:=l t (Av ..);rw[e1,tf] at z;rwa[z]
   ·rwa[h3 u i]
structure WaysAt(H:Hp)(l:c7)(ss:List Sd)(us:List (c7×List Int)):Prop where
 at':H l=O (.lst ((us.map (·.1)).map V.ref))
 all:∀ u∈us,H u.1=O (.tup (u.2.map V.int))
 rises:(us.map (·.2)).Pairwise (λa b=>HT.lexLt b a=JP)
 nodup:(us.map (·.2)).Nodup
 mem:∀ k,k∈us.map (·.2)↔WK ss ss.length k
 few:us.length<=80
structure SdSt(H0:Hp)(D:c7)(ss:List Sd)(H:Hp):Prop where
 same:Same H0 H
 new:H0 D=JN
 at':H D=O (.lst (yB ss))
 all:du H ss
end Sea

namespace Sea
def vC{i j:Int}(h:i.natAbs<=10^18):Ur i j:=.inl ⟨by lia,by lia⟩
abbrev P3:=Int×Int×Int
abbrev vX(c:List (c7×P3)):List V:=(c.map (·.1)).map V.ref
def kD(H:Hp)(c:List (c7×P3)):Prop:=∀ t∈c,H t.1=O (.tup [.int t.2.1,.int t.2.2.1,.int t.2.2.2])/\0<t.2.2.2/\Ad (Ad t.2.1.natAbs t.2.2.1.natAbs) t.2.2.2.natAbs=1
def kD.same{H e:Hp}{c:List (c7×P3)}(h:kD H c)(s:Same H e):kD e c:=λt d=>⟨s _ _ (h t d).1,(h t d).2⟩
def sv(t p:P3):Int:=t.1*p.1+t.2.1*p.2.1-t.2.2*p.2.2
def tn(e s:P3):Int:=e.1*s.2.1-e.2.1*s.1
def pt3(l:List Int):P3:=match l with
 | [x,y,w]=>(x,y,w)
 | _=>(0,0,1)
def crL(e s:P3):List Int:=zw (upL (e.2.2*s.2.1-e.2.1*s.2.2) (e.1*s.2.2-e.2.2*s.1) (e.1*s.2.1-e.2.1*s.1))
def ftL(t:P3):List Int:=zw (upL (t.1*t.2.2) (t.2.1*t.2.2) (t.1*t.1+t.2.1*t.2.1))
structure bp(l:List Int)(p:P3):Prop where
 list:l=[p.1,p.2.1,p.2.2]
 pos:0<p.2.2
 low:Ad (Ad p.1.natAbs p.2.1.natAbs) p.2.2.natAbs=1
def UO{e s:P3}(h:tn e s≠0):bp (crL e s) (pt3 (crL e s))/\sv e (pt3 (crL e s))=0/\sv s (pt3 (crL e s))=0:=by
 obtain⟨x,y,w,c,sp⟩:=fU (X:=e.2.2*s.2.1-e.2.1*s.2.2) (Y:=e.1*s.2.2-e.2.2*s.1) (W:=e.1*s.2.1-e.2.1*s.1) h;have d:crL e s=[x,y,w]:=c;rw[d];refine⟨⟨U,by have:=sp.pos; show 0<w; lia,sp.low⟩,?_,?_⟩
 ·have z:=jx (A:=e.1) (B:=e.2.1) (C:=e.2.2) h sp (Zx e.1 e.2.1 e.2.2 s.1 s.2.1 s.2.2);show e.1*x+e.2.1*y-e.2.2*w=0;lia
 ·have z:=jx (A:=s.1) (B:=s.2.1) (C:=s.2.2) h sp (bH e.1 e.2.1 e.2.2 s.1 s.2.1 s.2.2);show s.1*x+s.2.1*y-s.2.2*w=0;lia
def au{t:P3}(h:t.1≠0\/t.2.1≠0):0<t.1*t.1+t.2.1*t.2.1:=XR h
def UJ{t:P3}(h:t.1≠0\/t.2.1≠0):bp (ftL t) (pt3 (ftL t))/\sv t (pt3 (ftL t))=0:=by
 have e:=au h;obtain⟨x,y,w,c,sp⟩:=fU (X:=t.1*t.2.2) (Y:=t.2.1*t.2.2) (W:=t.1*t.1+t.2.1*t.2.1) (by lia);have d:ftL t=[x,y,w]:=c;rw[d];exists ⟨U,by have:=sp.pos; show 0<w; lia,sp.low⟩;have z:=jx (A:=t.1) (B:=t.2.1) (C:=t.2.2) (show t.1*t.1+t.2.1*t.2.1≠0 by lia) sp (by simp only[Int.mul_add,Aa,Fp]);show t.1*x+t.2.1*y-t.2.2*w=0;lia
def inW(c:List Sd)(p:P3):Prop:=∀ t∈c,sv t.2 p<=0
end Sea

namespace L2
section
variable{X:Cx}{pos:DD}
def tPar3(i j k:Nat)(e:TA):TS:=λD c H=>e c H λd f=>E3 λu v w=>d=[u,v,w]/\D.nx (((c.set i (O u)).set j (O v)).set k (O w)) f
def WG{i j k:Nat}{x y z:j3}{a b c:Am}{S:TA}{E C B pt:DD}{kt k2 pt2}(hc:X.calm=JO)(Q:X.N.Nodup)(hi:X.N[i]?=O x)(hj:X.N[j]?=O y)(hk:X.N[k]?=O z)(P:i≠j)(M:i≠k)(L:j≠k)
  (Z:X.env.scope.names.lookup x=O .local) (Y:X.env.scope.names.lookup y=O .local) (T:X.env.scope.names.lookup z=O .local) (ha:PA X [a,b,c] S)
  (hw:swappedStores [.Tuple [.Name x E,.Name y C,.Name z B] kt pt] (.Tuple [a,b,c] k2 pt2) X.env=pure (O [x,y,z]))
  (hs:swapsWithSole [.Tuple [.Name x E,.Name y C,.Name z B] kt pt] (.Tuple [a,b,c] k2 pt2) pos.line X.env=pure false:=by rfl) :
  PS X (.Assign [.Tuple [.Name x E,.Name y C,.Name z B] kt pt] (.Tuple [a,b,c] k2 pt2) pos) (tPar3 i j k S):=by
 intro JQ s R H D I h;rw[exec_Assign_arm];refine b9 (C4 ?_);rw[hs];refine b9 (e9 ?_);rw[y4 (by decide)];refine b9 (Tuple_ (thn (ha _ JQ s R H _ I h) λus m ⟨vs,H1,I1,r1,n⟩=>?_));obtain⟨u,v,t,e1,n⟩:=n;subst e1;obtain⟨l,g,f,rfl,ru,rv,rt⟩:∃ l g f,us=[l,g,f]/\xJ u l/\xJ v g/\xJ t f:=by
  cases r1 with
  | cons p q =>
   cases q with
   | cons p' q' =>
    cases q' with
    | cons G r =>
     cases r;rwa[_,_,_,rfl,p,p',G]
 refine Ak ?_ (by show 3<=sizeLine; decide);have I2:Inv X JQ R H1 { m with heap:=m.heap.push { cls:=.type "tuple",data:=.seq [l,g,f].toArray } }:=I1.kept (t':=m.toks) λb o e=>c9 _ e;rw[hw];erw[b9 (e9 ?_)];show wpAny (model X.prog X.w) X.A (do rule "assign.swapped-stores"; let d <- unpackItems (.ref m.heap.objs.size) 3 JN; assignInOrder [λv=>bindName X.env z v,λv=>bindName X.env y v,λv=>bindName X.env x v] d.reverse; pure Hs) _ _ _;erw[b9 (DE (b9 (unpackItems_tuple (items:=#[l,g,f]) (I.ok.hd hc) (Ht m.heap _) λh' J=>?_)))];have I3:=I2.kept (h':=h') (t':=m.toks) λb o e=>J b o (o9 (g9 e)) e;show wpAny _ _ (assignInOrder [λv=>bindName X.env z v,λv=>bindName X.env y v,λv=>bindName X.env x v] [f,g,l] >>= λ_=>pure Hs) _ _ _;erw[b9 (assignInOrder_cons (DO (qO I3 Q hk (.inl T) rt (λs2 I4=>?_) (.inr T))))];erw[assignInOrder_cons (DO (qO I4 Q hj (.inl Y) rv (λs3 I5=>?_) (.inr Y)))];erw[assignInOrder_cons (DO (qO I5 Q hi (.inl Z) ru (λs4 I6=>assignInOrder_nil (e9 ?_)) (.inr Z)))];rw[FE (O t) (O v) (AR L),FE (O t) (O u) (AR M),FE (O v) (O u) (AR P)] at I6;rwa[_,H1,I6,n]
end
end L2
namespace Sea
def WC(c:List Sd)(n:Nat):qy (yB c) (O (n:Int)) JN=yB (c.drop n):=by
 unfold qy;rw[HT.sIx_nat (yB c).length 0 n,show HT.sIx (yB c).length (yB c).length JN=(yB c).length from rfl,Ao (by rw[x5] <;> lia)];rw[yA];simp only[yB,<- FH]
 congr 2
 by_cases h:n<=c.length
 ·rw[CY h]
 ·rw[HJ (by lia),List.drop_length,List.drop_eq_nil_of_le (by lia)]
def cw(c:List Sd):yB c=c.map λt=>V.ref t.1:=by simp[yB]
def aD{e s:P3}(h:tn e s≠0):crL e s=crL s e:=by
 unfold crL;have f:s.2.2*e.2.1-s.2.1*e.2.2 = -(e.2.2*s.2.1-e.2.1*s.2.2):=by rw[Aa s.2.2,Aa s.2.1]; lia
 have d:s.1*e.2.2-s.2.2*e.1 = -(e.1*s.2.2-e.2.2*s.1):=by rw[Aa s.1,Aa s.2.2]; lia
 have c:s.1*e.2.1-s.2.1*e.1 = -(e.1*s.2.1-e.2.1*s.1):=by rw[Aa s.1,Aa s.2.1]; lia
 rw[f,d,c,VP (show e.1*s.2.1-e.2.1*s.1≠0 from h)]
end Sea

namespace Sea
end Sea

namespace L2
open PySem PySem.Spec PyProof.Rows PySem.W
section
variable{X:Cx}
def yz:uH X (.builtin "sorted") (λg H Q=>E2 λ(l:c7) (ns:List Int)=>A4 (g=[.ref l]) (SqL X.K H l (ns.map V.int)) (ns.length<64) (∀(p:c7)(c:List Int),H p=JN->c.Perm ns->c.Pairwise (·<=·)->Q (.ref p) (upd H p (.lst (c.map V.int))))):=by
 intro C s z H g A Q I r h;obtain⟨l,ns,rfl,n,f,q⟩:=h;obtain⟨u,rfl,ru⟩:=yN.one r;cases ru;obtain⟨d,i,m,B⟩:=I.list n;have v:=i.length;rw[b7] at v;erw[sorted_ints (ns:=ns) m.isList (tI i) (by lia) λout c y j x=>?_];obtain⟨e,at'⟩:=sortedAll_at s.heap d out;have w:H (s.heap.objs.size+1)=none:=I.hok.fresh (Bb _);erw[.ref (s.heap.objs.size+1),_,I.laid (t':=s.toks) (a:=s.heap.objs.size+1) (o:=.lst (c.map V.int)) (λb ob q=>sortedAll_old q) (Bb _) ?_,rfl,q _ c w j x];refine⟨?_,out.toList,e,oo y,by simpa using at'⟩;rw[b7,j.length_eq];rwa[f9 (Bu f) (by rw[sizeLine_eq]; decide)]
end
def PrAt(H:Hp)(c:List Pr):Prop:=∀ t∈c,H t.1=O (.tup [.int t.2.1,.int t.2.2])
end L2

namespace Sea
def dt(s g:P3):Int:=s.1*g.1+s.2.1*g.2.1
structure Bound(ss:List Sd)(g:P3):Prop where
 nz:∀ t∈ss,t.2.1≠0\/t.2.2.1≠0
 gz:g.1≠0\/g.2.1≠0
 ways:∀ t∈ss,∀ h:Int,(h=1\/h = -1)->(∀ s∈ss,tn t.2 s.2*h<=0)->tn t.2 g*h<=0
 lead:¬ ∀ s∈ss,dt s.2 g<=0
 one:∀ t∈ss,tn t.2 g=0->0<dt t.2 g->∀ P:P3,0<P.2.2->sv t.2 P=0->¬ inW ss P
end Sea

namespace L2
open PySem PySem.Spec PyProof.Rows PySem.W
def cut4{ok:c7->Int->Int->Hp->Prop}{G:Prop}{R:c7->Int->Int->Hp->Prop}(h1:(∀ p x y G,ok p x y G->R p x y G)->G)(h2:∀ p x y G,ok p x y G->R p x y G):G:=h1 h2
end L2

namespace L2

def WS(c:DL)(x:j3):Bool:=c.names.any λy=>y.1 == x&&y.2 == .cell
structure OwnScope(X:Cx)(caps:List (j3×Nat))(scope:DL):Prop where
 kind:scope.kind=.function
 dis:(scope.names.all λx=>!(x.2 == .free) || !WS scope x.1)=JO
 loc:∀ y∈scope.names,y.2=.local->scope.names.lookup y.1=O .local
 clos:(scope.names.all λx=>!(x.2 == .free)||(X.env.cells.lookup x.1).isSome)=JO
 cap:mV X scope caps
section
variable{X:Cx}{T:List j3}{caps:List (j3×Nat)}{scope:DL}{elt target iter:Am}{ifs:List Am}{pos cpos:DD}{wi:TI}{g:CC->TG}{tt:CC->TT}{te:CC->TE}

end
end L2

namespace Sea
def awB(N:Nat):List (Int×Int)->Int->Bool
 | [],_=>JO
 | c::d,least=>if least<=c.1/\c.1<N/\1<=c.2 then awB N d (c.1+1) else JP
def UT(c:List Sd)(f:Sd->Int)(n:Int):Int:=match c[n.toNat]? with
 | some t=>f t
 | none=>0
def Ux(d:List Sd)(f:Sd->Int):List (Int×Int)->Int->Int
 | [],T=>T
 | c::e,T=>Ux d f e (T+c.2*UT d f c.1)
def fAt(k:Int)(t:Sd):Int:=if k=0 then t.2.1 else if k=1 then t.2.2.1 else t.2.2.2
structure PrSt(H0:Hp)(D:c7)(cs:List Pr)(H:Hp):Prop where
 same:Same H0 H
 new:H0 D=JN
 at':H D=O (.lst (fT cs))
 all:PrAt H cs
end Sea

namespace L2
def ie:bootBuiltins "sum" = O (.builtin "sum"):=by ac_nf
def mX(ns:List Int):∀ n,n<=ns.length->preSum (λi=>ns.getD i 0) n=(ns.take n).sum
 | 0,_=>by simp[preSum]
 | n+1,h=>by
  have c:n<ns.length:=h;rw[preSum,mX ns n (Bu c),x6,c8 c,List.sum_append];simp[List.getD,c8 c]
def nq:∀{ns:List Int}{c:List c6},yN (ns.map V.int) c->∀(i:Nat)(v:c6),c[i]?=O v->∃ t,v=.int (ns.getD i 0) t
 | [],c,r,i,v,h=>by
  have e:=yN.zero r;subst e;simp at h
 | n::ns,c,r,i,v,h=>by
  cases r with
  | cons f d =>
   match i,h with
   | 0,h =>
    obtain⟨t,rfl⟩:=f;rwa[t,(t7 h).symm]
   | i+1,h=>rwa[nq d i v h]
section
variable{X:Cx}
def yt(g:X.calm=JO):uH X (.builtin "sum") (λl H Q=>E2 λ(p:c7) (ns:List Int)=>A3 (l=[.ref p]) (SqL X.K H p (ns.map V.int)) (Q (.int ns.sum) H)):=by
 intro S s M H l N Q I r h;obtain⟨p,ns,rfl,D,q⟩:=h;obtain⟨u,rfl,x⟩:=oJ r;cases x;obtain⟨d,n,y,P⟩:=I.list D;have j:s.heap.IsList p d.toArray:=y.isList;have f:p<s.heap.objs.size:=by obtain⟨o,E,_⟩:=j; rwa[g9 E]
 have B:d.length=ns.length:=by
  have z:=n.length;rw[b7] at z;rwa[z.symm]
 refine call_sum_walkG (C9 j ?_);refine⟨_,[_,p],[_],_,_,_,λi=>ns.getD i 0,U,JH (A:=X.A.in1) (I.ok.hd g) _ p (o9 f) d.toArray,
  ⟨⟨_,i8 _ rfl,rfl,rfl⟩,j.push _⟩,λc g=>?_,λi v C=>nq n i v (by simpa using C),λR w m J=>?_⟩
 ·have sz:(s.heap.push { cls:=.type "list_iterator",data:=.fields #[.ref p,.int 0 0] }).objs.size=s.heap.objs.size+1:=Ba ..;show c<(s.heap.push { cls:=.type "list_iterator",data:=.fields #[.ref p,.int 0 0] }).objs.size;rw[sz];simp only[o0,As,or_false] at g;rcases g with e | e
  ·rw[e]; rwa[CK _]
  ·rw[e]; rwa[Hd f]
 ·erw[.int ns.sum,H,I.kept (t':=w) λc o e=>J c o (λG=>?_) (c9 _ e),⟨m,?_⟩,q]
  ·have L:=f6.mp G;have z:=g9 e;rw[L] at z;rwa[Bh _ z]
  ·have e:d.toArray.size=ns.length:=by simp[B]
   rw[e,mX ns ns.length (e8 _),j9]
end
end L2

namespace Sea
def Wb(n:Nat)(d:List (Int×Int)):List (Int×Int):=d.filter λc=>decide (c.1<(n:Int))
structure Apart(ss es:List Sd)(cs:List (Int×Int)):Prop where
 out:∀ v:P3,0<v.2.2->inW es v->Ux ss (fAt 2) (Wb ss.length cs) 0*v.2.2<Ux ss (fAt 0) (Wb ss.length cs) 0*v.1+Ux ss (fAt 1) (Wb ss.length cs) 0*v.2.1
 ins:∀ v:P3,inW ss v->Ux ss (fAt 0) (Wb ss.length cs) 0*v.1+Ux ss (fAt 1) (Wb ss.length cs) 0*v.2.1<=Ux ss (fAt 2) (Wb ss.length cs) 0*v.2.2
 few:(∃ z:P3,0<z.2.2/\inW ss z)->(Wb ss.length cs).length<=2
end Sea

namespace Sea
structure PIb(t:TE)(σ:St)(i:Int)(n:Nat):Prop where
 rd:∀(H:Hp)(Q:VK),Q (.int i) H->t σ H Q
 le:i.natAbs<=n
abbrev TR(c:List (c7×List Pr)):List V:=(c.map (·.1)).map V.ref
structure Leads(G:Hp)(lo:c7)(M:Nat)(xs:List (c7×List Pr)):Prop where
 at':G lo=O (.lst (TR xs))
 all:∀ u∈xs,u.1≠lo/\G u.1=O (.lst (fT u.2))/\PrOk G M u.2
end Sea

namespace Sea
end Sea

namespace PyProof.Rows
abbrev oF:Bool->v8->Array v8->Nat->Nat->Nat->StateT t6 EH (Option Nat):=sortPriv% PySem.Builtin.gallop
abbrev Xo:Array v8->Array v8->StateT t6 EH (Array v8):=sortPriv% PySem.Builtin.mergeLo
abbrev YH:Array v8->Array v8->StateT t6 EH (Array v8):=sortPriv% PySem.Builtin.mergeHi
def Asks(prog:m9)(w:r9)(A:Ac)(s:d7)(d:Bt)(c:List v8):Prop :=
 ∀ x y:v8,x∈c->y∈c->∀ Q:Bool->d7->Prop,(∀ b,Q b s)->wpAny (model prog w) A (keyLt' d x.1 y.1) Q (λ_ _=>False) s
def we(st c:t6):Prop:=kindOf c=kindOf st/\arrOf c=arrOf st/\pendingOf c=pendingOf st/\failedOf c=failedOf st
def we.refl(st:t6):we st st:=⟨rfl,rfl,rfl,rfl⟩
def we.trans{a b c:t6}(h:we a b)(k:we b c):we a c:=⟨k.1.trans h.1,k.2.1.trans h.2.1,k.2.2.1.trans h.2.2.1,k.2.2.2.trans h.2.2.2⟩
section
variable{prog:m9}{w:r9}{A:Ac}{E:c6->d7->Prop}{s:d7}{st:t6}{κ:Bt}{ys:List v8}
def iy{c:Type}{m:EH c}{Q:c->t6->Prop}(h:wpAny (model prog w) A m (λa d=>d=s/\Q a st) E s):wpS (model prog w) A E s (liftM m:StateT t6 EH c) Q st:=by
 unfold wpS;show wpAny (model prog w) A ((StateT.lift m:StateT t6 EH c).run st) _ E s;rw[StateT.run_lift];rwa[b9 (BA h (λa d f=>e9 f) λ_ _ e=>e)]
def ZB{c:Array v8}{i:Nat}(hi:i<c.size){Q:v8->t6->Prop}(h:Q c[i] st):wpS (model prog w) A E s (elem' c i) Q st:=by
 rw[elem'_eq,Ae hi];rwa[wpS_pure h]
def yP{d:Type}{c:Prop}[Decidable c]{m e:StateT t6 EH d}{Q:d->t6->Prop}(h1:c->wpS (model prog w) A E s m Q st)(h2:¬ c->wpS (model prog w) A E s e Q st):wpS (model prog w) A E s (if c then m else e) Q st:=by
 split
 ·rwa[h1 (by assumption)]
 ·rwa[h2 (by assumption)]
def xH{c:Type}{x y:Nat}{m d:StateT t6 EH c}{Q:c->t6->Prop}(h1:x=y->wpS (model prog w) A E s m Q st)(h2:x≠y->wpS (model prog w) A E s d Q st):wpS (model prog w) A E s (if (x == y)=JO then m else d) Q st:=by
 refine yP (λe=>h1 (by simpa using e)) λe=>h2 (by simpa using e)
def yD{d:Type}{c:Array v8}{i:Nat}(hi:i<c.size){f:v8->StateT t6 EH d}{Q:d->t6->Prop}(h:wpS (model prog w) A E s (f c[i]) Q st):wpS (model prog w) A E s (elem' c i >>= f) Q st:=wpS_bind (ZB hi h)
def xE{g m:Type}{a b:Nat}{f:Nat->g->StateT t6 EH (ForInStep g)}{k:g->StateT t6 EH m}{R:m->t6->Prop}(I:Nat->g->t6->Prop)(Q:g->t6->Prop)
  (e:∀ i c st,a<=i->i<b->I i c st->wpS (model prog w) A E s (f i c) (λr d=>match r with | .done l=>Q l d | .yield l=>I (i+1) l d) st)
  (j:∀ c st,I (max a b) c st->Q c st) {c:g} (h:I a c st) (rest:∀ c d,Q c d->wpS (model prog w) A E s (k c) R d):wpS (model prog w) A E s (forIn [a:b] c f >>= k) R st:=wpS_bind (wpS_mono (wpS_forRange (I:=I) (Q:=Q) e j h) rest)
def rJ{c:Type}{tag:String}{f:Unit->StateT t6 EH c}{Q:c->t6->Prop}(h:wpS (model prog w) A E s (f ()) Q st):wpS (model prog w) A E s ((liftM (rule tag):StateT t6 EH Unit) >>= f) Q st:=wpS_bind (iy (DE ⟨rfl,h⟩))
def tD{c:Type}{f:t6->StateT t6 EH c}{Q:c->t6->Prop}(h:wpS (model prog w) A E s (f st) Q st):wpS (model prog w) A E s ((get:StateT t6 EH t6) >>= f) Q st:=wpS_bind (wpS_get h)
def sW{c:Type}{g:t6->t6}{f:PUnit->StateT t6 EH c}{Q:c->t6->Prop}(h:wpS (model prog w) A E s (f ⟨⟩) Q (g st)):wpS (model prog w) A E s ((modify g:StateT t6 EH PUnit) >>= f) Q st:=wpS_bind (wpS_modify h)
def cR{c:Type}{G:Prop}{code:Nat->Nat->StateT t6 EH c}{P:Nat->Nat->Prop}{Q:c->t6->Prop}(use:(∀ o n,P o n->wpS (model prog w) A E s (code o n) Q st)->G)(H:∀ o n,P o n->wpS (model prog w) A E s (code o n) Q st):G:=use H
end
structure Took(x y out:Array v8)(ia ib:Nat):Prop where
 pm:out.toList.Perm (x.toList.take ia++y.toList.take ib)
 la:ia<=x.size
 lb:ib<=y.size
section
variable{x y out:Array v8}{ia ib:Nat}
def aB{z:Array v8}{i k:Nat}(h:i+k<=z.size):z.toList.take (i+k)=z.toList.take i++(z.extract i (i+k)).toList:=by
 rw[Be,AC,Nat.add_sub_cancel_left,List.take_add]
def YQ{z:Array v8}{i:Nat}(h:i<z.size):z.toList.take (i+1)=z.toList.take i++[z[i]]:=by
 rw[He,c8 (by rw[g8]; rwa[h])];rfl
def bX(z:Array v8)(i:Nat):(z.extract i z.size).toList=z.toList.drop i:=by
 rw[Be,AC,Ao (by rw[x5,g8]; rwa[e8 _])]
end
section
variable{prog:m9}{w:r9}{A:Ac}{E:c6->d7->Prop}{s:d7}{st:t6}{κ:Bt}{ys:List v8}
def lJ{d:Type}{G:Prop}{code:Nat->StateT t6 EH d}{P:Nat->t6->Prop}{Q:d->t6->Prop}(use:(∀ n c,P n c->wpS (model prog w) A E s (code n) Q c)->G)(H:∀ n c,P n c->wpS (model prog w) A E s (code n) Q c):G:=use H
def xq{c:Type}{G:Prop}{code:Array v8->Nat->StateT t6 EH c}{P:Array v8->Nat->Prop}{Q:c->t6->Prop}(use:(∀ o n,P o n->wpS (model prog w) A E s (code o n) Q st)->G)(H:∀ o n,P o n->wpS (model prog w) A E s (code o n) Q st):G:=use H
end
structure Wr(x y out:Array v8)(na nb:Nat):Prop where
 pm:out.toList.Perm (x.toList.drop na++y.toList.drop nb)
 la:na<=x.size
 lb:nb<=y.size
section
variable{x y out:Array v8}{na nb:Nat}
def nC{z:Array v8}{i k:Nat}(h:k<=i):z.toList.drop k=(z.extract k i).toList++z.toList.drop i:=by
 rw[Be,AC];have e:=DZ (i-k) (z.toList.drop k);rw[List.drop_drop,show k+(i-k)=i by lia] at e;rwa[e.symm]
end
end PyProof.Rows

namespace PyProof.Rows
structure xW(κ:Bt)(ys:List v8)(st:t6):Prop where
 perm:(arrOf st).toList.Perm ys
 kind:kindOf st=κ
 failed:failedOf st=JN
section
variable{prog:m9}{w:r9}{A:Ac}{E:c6->d7->Prop}{s:d7}{st st':t6}{κ:Bt}{ys:List v8}
def xW.size(h:xW κ ys st):(arrOf st).size=ys.length:=by rw[<- g8]; rwa[h.perm.length_eq]
def xW.mem(h:xW κ ys st){i:Nat}(hi:i<(arrOf st).size):(arrOf st)[i]∈ys:=h.perm.mem_iff.mp (by rw[<- AQ]; rwa[Ag _])
def xW.set(h:xW κ ys st){c:Array v8}(d:c.Perm (arrOf st)):xW κ ys (setArr st c):=⟨(Array.perm_iff_toList_perm.mp d).trans h.perm,h.kind,h.failed⟩
def xW.keep(h:xW κ ys st)(k:we st st'):xW κ ys st':=⟨by rw[k.2.1]; exact h.perm,k.1.trans h.kind,k.2.2.2.trans h.failed⟩
def mi{d:Type}{code:StateT t6 EH d}{P:t6->Prop}{Q:d->t6->Prop}{m:StateT t6 EH d}(use:(∀ c,P c->wpS (model prog w) A E s code Q c)->wpS (model prog w) A E s m Q st)(H:∀ c,P c->wpS (model prog w) A E s code Q c):wpS (model prog w) A E s m Q st:=use H
def cC{d:Type}{code:Nat->StateT t6 EH d}{P:Nat->t6->Prop}{Q:d->t6->Prop}{m:StateT t6 EH d}(use:(∀ n c,P n c->wpS (model prog w) A E s (code n) Q c)->wpS (model prog w) A E s m Q st)(H:∀ n c,P n c->wpS (model prog w) A E s (code n) Q c):wpS (model prog w) A E s m Q st:=use H
def Wc{c:t6}{Q:PUnit->t6->Prop}(h:Q ⟨⟩ c):wpS (model prog w) A E s (set c:StateT t6 EH PUnit) Q st:=by
 unfold wpS; rw[StateT.run_set]; rwa[e9 ⟨rfl,h⟩]
end
def bN:∀(m:List v8)(k o:Nat)(z:Array v8),o+k+m.length<=z.size->((m.zipIdx k).foldl (λa (p:v8×Nat)=>a.setIfInBounds (o+p.2) p.1) z).toList=z.toList.take (o+k)++m++z.toList.drop (o+k+m.length)
 | [],k,o,z,_=>by simp
 | x::m,k,o,z,h=>by
  have h:o+k+(m.length+1)<=z.size:=h;rw[Dl,List.foldl_cons,bN m (k+1) o _ (by rw[Array.size_setIfInBounds]; lia),EZ];have c:o+k<z.toList.length:=by rw[g8]; lia
  rw[List.take_set,List.drop_set_of_lt (by lia)];rw[show o+(k+1)=(o+k)+1 by lia,He,c8 c,show o+k+1+m.length=o+k+(m.length+1) by lia];have d:(z.toList.take (o+k)).length=o+k:=by rw[i7]; lia
  show((z.toList.take (o+k))++[z.toList[o+k]]).set (o+k) x++m++_=_;rw[Gj _ _ (by lia),d,EJ];simp
end PyProof.Rows

namespace PySem.W
open PySem PySem.Calls PyProof.Rows
end PySem.W
namespace L2
open PySem PySem.Spec PyProof.Rows PySem.W
section
variable{prog:m9}{w:r9}{A:Ac}{E:c6->d7->Prop}{s:d7}
def ut{M:GL}{d:Type}{f:c6->EH d}{R:d->Prop} : ∀{e:List c6}{Q:List d->d7->Prop},(∀ v∈e,∀ Q:d->d7->Prop,(∀ b,R b->Q b s)->wpAny M A (f v) Q E s)->(∀ bs,(∀ b∈bs,R b)->Q bs s)->wpAny M A (e.mapM f) Q E s
 | [],Q,_,h=>by rw[List.mapM_nil]; exact e9 (h [] λb n=>nomatch n)
 | v::e,Q,j,h=>by
  rw[List.mapM_cons];erw[b9 (j v (.head _) _ λb l=>b9 (ut (R:=R) (λu m=>j u (.tail _ m)) λbs i=>e9 (h _ λc g=>?_)))];rcases o0.mp g with rfl | g
  ·rwa[l]
  ·rwa[i c g]
def bZ(h:w9)(v:c6):Prop:=(∃ i t,v=.int i t)\/∃ a o,v=.ref a/\h.get? a=O o
def Vm{M:GL}{v:c6}(c:bZ s.heap v){Q:c6->d7->Prop}(h:∀ b,Q b s):wpAny M A (typeOf v) Q E s:=by
 rcases c with ⟨i,t,rfl⟩ | ⟨a,o,rfl,d⟩
 ·rwa[e9 (h _)]
 ·exact Iw (show Looks M s.heap (typeOf (.ref a)) o.cls from(JB d).andThen .now) (h _)
def pT{M:GL}{c:List c6}(d:∀ v∈c,bZ s.heap v){Q:Option c6->d7->Prop}(h:∀ b,Q b s):wpAny M A (oneTypeOnly' c.toArray) Q E s:=by
 rw[oneTypeOnly'_eq,Fv,map_eq_pure_bind];erw[b9 (b9 (ut (R:=λ_=>True) (λv f g e=>Vm (d v f) λb=>e b trivial) λbs _=>e9 ?_))];split
 ·rwa[e9 (h _)]
 ·rwa[e9 (h _)]
def YA{M:GL}{d:List c6}(j:∀ v∈d,∃ ns,bz s.heap v ns){Q:Bt->d7->Prop}(h:∀ l,Q l s):wpAny M A (keyKind' d.toArray) Q E s:=by
 have m:∀ v∈d,bZ s.heap v:=λv g=>by
  obtain⟨ns,a,o,n,f,e,c,_⟩:=j v g;rwa[.inr ⟨a,o,e,c⟩]
 rw[kat_kind_eq,Fv,map_eq_pure_bind];erw[b9 (b9 (ut (R:=λb=>∀ v,b=O v->bZ s.heap v) (λv x C u=>?_) λbs i=>e9 ?_))]
 ·obtain⟨ns,a,o,n,f,rfl,c,y,hd,r⟩:=j v x;rw[kas_first_eq];refine b9 (Iw (show Looks M s.heap (typeOf (.ref a)) o.cls from(JB c).andThen .now) ?_);rw[y,y4 (by first | decide | simp)];erw[b9 (listItems_at c hd (e9 (u _ λv e=>?_)))];cases ns with
  | nil =>
   cases r;cases e
  | cons k B =>
   cases r with
   | cons p q =>
    obtain⟨t,rfl⟩:=p;rw[List.getElem?_toArray,List.getElem?_cons_zero] at e;cases e;rwa[.inl ⟨_,_,rfl⟩]
 ·split
  ·erw[b9 (DE ?_)];have e:bs.toArray.filterMap id=(bs.filterMap id).toArray:=by simp
   rw[e];erw[b9 (pT (λv g=>?_) λb=>e9 (h _))];obtain⟨b,z,e⟩:=CS.mp g;rwa[i b z v e]
  ·split
   ·rwa[e9 (h _)]
   ·rwa[b9 (pT m λb=>e9 (h _))]
end
def qm{d o:Type}{f:d->o}{out m:List o}(h:out.Perm m):∀{l:List d},l.map f=m->∃ c:List d,c.Perm l/\c.map f=out:=by
 induction h with
 | nil=>rwa[λ{l} e=>⟨l,.refl _,e⟩]
 | cons x _ r =>
  intro l e;cases l with
  | nil=>cases e
  | cons a l =>
   obtain⟨c,p,v⟩:=r (FI e).2;rwa[a::c,p.cons _,by rw[i5,v,(FI e).1]]
 | swap x y t =>
  intro l e
  match l,e with
  | a::b::l,e =>
   obtain⟨n,j⟩:=FI e;obtain⟨u,s⟩:=FI j;rwa[b::a::l,.swap ..,by rw[i5,i5,n,u,s]]
 | trans _ _ i g =>
  intro l e;obtain⟨w,p2,j⟩:=g e;obtain⟨q,p1,n⟩:=i j;rwa[q,p1.trans p2,n]
end L2

namespace L2
def tZ(H:Hp)(d:c7):Hp:=λb=>if b=d then JN else H b
def uu{H:Hp}{d:c7} : tZ H d d=none:=y6 rfl
def qH{H:Hp}{d b:c7}(h:b≠d):tZ H d b=H b:=y4 h
def WU{H:Hp}{d b:c7}{o:HO}(h:tZ H d b=O o):b≠d/\H b=O o:=by
 by_cases e:b=d
 ·rw[e,uu] at h; cases h
 ·rwa[e,by rw[<- h,qH e]]
def rO{H:Hp}{d b:c7}(h:H b=JN):tZ H d b=none:=by
 by_cases e:b=d
 ·rw[e,uu]
 ·rw[qH e,h]
def rL{H:Hp}{d b:c7}{o ob:HO}(hd:H d=O ob)(h:H b=O o)(n:ob≠o):tZ H d b=O o:=by
 rw[qH λe=>n ?_]
 ·rwa[h]
 ·rw[e,hd] at h;rwa[t7 h]
def Zf{H:Hp}{d D:c7}{o v:HO}(hd:H d=O o)(n:D≠d):upd (upd (tZ H d) D v) d o=upd H D v:=by
 funext b
 by_cases e:b=d
 ·rw[e,zA,zD (AR n),hd]
 ·rw[zD e];by_cases c:b=D
  ·rw[c,zA,zA]
  ·rw[zD c,zD c,qH e]
section
variable{X:Cx}{JQ:List (c7×By)}{σ:St}{H H3:Hp}{s s3:d7}{d:c7}{kvs:List (List Key×V)}
def Inv.hide(I:Inv X JQ σ H s)(hd:H d=O (.dT kvs)):Inv X JQ σ (tZ H d) s where
 ok:=I.ok
 os:=I.os
 bare:=I.bare
 base:=⟨I.base.keep,I.base.slot,λb o e n h=>rO (I.base.free b o e n h),I.base.there,λb f e=>rL hd (I.base.tups b f e) (λz=>nomatch z),λb o u e=>rL hd (I.base.frzs b o u e) (λz=>nomatch z),
  λb g e=>let ⟨more,q⟩:=I.base.tbls b g e;⟨more,rL hd q (λz=>nomatch z)⟩⟩
 loc:=I.loc
 cell:=I.cell
 free:=rO I.free
 freeC:=λx c e=>rO (I.freeC x c e)
 pin:=λp i=>let ⟨h1,h2,h3⟩:=I.pin p i;⟨h1,rO h2,h3⟩
 hok:=λb o e=>by
  obtain⟨_,j⟩:=WU e;exact(I.hok b o j).stay (λc u _ q=>q) (λc q=>rL hd q (λz=>nomatch z)) λc f q=>rL hd q (λz=>nomatch z)
 len:=I.len
def Inv.back(I:Inv X JQ σ H s)(hd:H d=O (.dT kvs))(J:Inv X JQ σ H3 s3)(A:H3 d=JN)(same:∀ o,s.heap.get? d=O o->s3.heap.get? d=O o)(m:∀ b f,H b=O (.tup f)->H3 b=O (.tup f)):Inv X JQ σ (upd H3 d (.dT kvs)) s3:=by
 have ne:∀{b:c7},H b=JN->b≠d:=λ{b} n e=>by rw[e,hd] at n; cases n
 have g:∀{b:c7}{o:HO},H3 b=O o->upd H3 d (.dT kvs) b=O o:=λ{b o} e=>by
  rw[zD λz=>by rw[z,A] at e; cases e];rwa[e]
 refine⟨J.ok,J.os,J.bare,⟨J.base.keep,J.base.slot,λb o e n h=>?_,J.base.there,λb f e=>g (J.base.tups b f e),λb o u e=>g (J.base.frzs b o u e),λb v e=>let ⟨more,q⟩:=J.base.tbls b v e;⟨more,g q⟩⟩,J.loc,J.cell,?_,λx c e=>?_,λp i=>?_,λb o e=>?_,J.len⟩
 ·rw[zD (ne (I.base.free b o e n h))];rwa[J.base.free b o e n h]
 ·rw[zD (ne I.free)];rwa[J.free]
 ·rw[zD (ne (I.freeC x c e))];rwa[J.freeC x c e]
 ·obtain⟨h1,h2,h3⟩:=J.pin p i;rwa[h1,by rw[zD (ne (I.pin p i).2.1)]; exact h2,h3]
 ·by_cases j:b=d
  ·subst j;rw[zA] at e;cases e;obtain⟨z,y,f,r,o,B,C,h1,h2⟩:=(show wN X.prog X.w H s.heap b (.dT kvs) from I.hok b _ hd);rwa[z,y,f,KT.keeps r (λc l q=>g (m c l q)),o,B,C,same _ h1,h2]
  ·rw[zD j] at e;exact(J.hok b o e).stay (λc u _ q=>q) (λc q=>g q) λc f q=>g q
def Itk(c:List (c7×List Key)):It:=⟨λk _=>k<c.length,λk H v e=>e=H/\∃ t,c[k]?=O t/\v=.ref t.1,λk _=>c.length<=k⟩
def TD(m:Nat)(e:List (j3×Nat))(tl:TE)(g:CC->TG)(j:CC->TT)(l:CC->TE):TE:=λσ H Q=>tl σ H λx f=>E2 λ(d:c7) (kvs:List (List Key×V))=>A3 (x=.ref d) (f d=O (.dT kvs)) (∀(h:List (c7×List Key)),h.map (·.2)=kvs.map (·.1)->(∀ t∈h,f t.1=O (.tup (t.2.map kV)))->∀(c:CC)(D:c7),f D=JN->xf (Itk h) D (g c) (j c) (l c) (jR e m σ) (tZ f d) (λv i=>i d=JN->Q v (upd i d (.dT kvs))))
variable{T:List j3}{caps:List (j3×Nat)}{scope:DL}{elt target iter:Am}{ifs:List Am}{pos:DD}{tl:TE}{g:CC->TG}{tt:CC->TT}{te:CC->TE}
def fR(S:tN X caps scope)(hc:X.calm=JO)(hl:PE X iter tl)(hg:∀ c,PG (xA X (T++caps.map (·.1)) scope c) target (g c))(ht:∀ c,Ul (xA X (T++caps.map (·.1)) scope c) ifs (tt c))(he:∀ c,PE (xA X (T++caps.map (·.1)) scope c) elt (te c))
  (hs:∀ x,foldedSetIterable iter X.env x=pure x:=by intro _; rfl):PE X (.ListComp elt [⟨target,iter,ifs,0⟩] scope pos) (TD T.length caps tl g tt te):=by
 intro JQ s σ H Q I h;rw[eval_ListComp];refine DC (use:=JN) rfl hs (fk S.cells) S.kind S.loc (thn (hl JQ s σ H _ I h) λv r ⟨x,M,I1,r1,q1⟩=>?_);obtain⟨d,kvs,e,hd,q⟩:=q1;subst e;cases r1;obtain⟨hz,hsm,P,rel,ob,L,l,gd,ex,dat,hes,hjunk⟩:=WY I1.hok hd;have hsz:L.size=P.length:=size_of_entries hes;have R:(P.map λy=>(y.2.1,y.1)).map (·.2)=kvs.map (·.1)/\∀ t∈P.map (λy=>(y.2.1,y.1)),M t.1=O (.tup (t.2.map kV)):=by
  clear hes hsz q hd hz hjunk
  induction rel with
  | nil=>exact⟨rfl,λt ht=>nomatch ht⟩
  | @cons p y ps zs hp t ih =>
   erw[by rw[i5,i5,i5,ih.1,hp.1],λt' ht'=>?_];rcases o0.mp ht' with e | ht'
   ·subst e;show M y.2.1=O (.tup (y.1.map kV));rw[<- hp.1];rwa[hp.2.1]
   ·rwa[ih.2 t' ht']
 have keyAt:∀(k:Nat)(hk:k<L.size),∃ t,(P.map λy=>(y.2.1,y.1))[k]?=O t/\L[k].key=j8 t.1:=λk hk=>by
  have ek:=entry_at hes k;have hk':k<P.length:=by lia
  rw[Ae hk,c8 hk',AS] at ek;erw[_,by rw[d9,c8 hk']; rfl,?_];rw[t7 ek];rfl
 have q:=q _ R.1 R.2;have tlen:(P.map λy=>(y.2.1,y.1)).length=L.size:=by rw[b7,hsz]
 generalize (P.map λy=>(y.2.1,y.1))=ts at R keyAt q tlen;have raw1:bw r.heap d L l:=⟨ob,gd,ex,dat⟩;refine fN hsm raw1 ?_;have I2:Inv X JQ σ (tZ M d) { r with heap:=r.heap.push { cls:=.type "dict_keyiterator",data:=.fields #[.ref d,.int 0 0,.int L.size 0,.int l 0] } }:=(I1.hide hd).kept (t':=r.toks) λb o e=>c9 _ e;have ki0:({ r with heap:=r.heap.push { cls:=.type "dict_keyiterator",data:=.fields #[.ref d,.int 0 0,.int L.size 0,.int l 0] } } : d7).heap.IsKeyIter r.heap.objs.size d 0 L.size l:=⟨_,i8 _ rfl,rfl,rfl⟩;have gd2:({ r with heap:=r.heap.push { cls:=.type "dict_keyiterator",data:=.fields #[.ref d,.int 0 0,.int L.size 0,.int l 0] } } : d7).heap.get? d=O ob:=c9 _ gd;have f2:∀ b∈[r.heap.objs.size],eX X JQ (tZ M d) b:=λb f=>by
  rw[f6] at f;subst f;rwa[I1.fpOk (e8 _) (rO (I1.hok.fresh (e8 _)))]
 have ndf:d ∉ frs X.stack:=λz=>by
  have:=I1.stkFree d z;rw[hd] at this;cases this
 have dlt:d<r.heap.objs.size:=g9 gd;have fr1:∀ b,r.heap.objs.size<=b->M b=none:=λb f=>I1.hok.fresh f;have q2:∀ c:CC,∀ D:c7,M D=JN->xf (Itk ts) D (g c) (tt c) (te c) (jR caps T.length σ) (tZ M d) (λv B=>B d=JN->Q v (upd B d (.dT kvs))):=q;have hsize:({ r with heap:=r.heap.push { cls:=.type "dict_keyiterator",data:=.fields #[.ref d,.int 0 0,.int L.size 0,.int l 0] } } : d7).heap.objs.size=r.heap.objs.size+1:=by rw[Ba]
 generalize ({ r with heap:=r.heap.push { cls:=.type "dict_keyiterator",data:=.fields #[.ref d,.int 0 0,.int L.size 0,.int l 0] } } : d7)=s2 at I2 hsize ki0 gd2 ⊢;have itlt:r.heap.objs.size<s2.heap.objs.size:=by rw[hsize]; rwa[CK _]
 generalize r.heap.objs.size=j at ki0 itlt f2 dlt ⊢;refine Ak (En S.nocell (by intro y hy; simp at hy) (λh1 hn hsb=>?_) S.kind);dsimp only at hn hsb ⊢;generalize hg2:s2.heap.push { cls:=.type "list",dict:=JN,data:=.seq ([]:List c6).toArray }=G at hn hsb ⊢;have hCv:G.objs.size=s2.heap.objs.size+1:=by rw[<- hg2,Ba]
 have hDC:G.objs.size≠s2.heap.objs.size:=by rw[hCv]; rwa[Ec _]
 have E:s2.heap.objs.size<=G.objs.size:=by rw[hCv]; rwa[Bb _]
 have old:∀ b o,s2.heap.get? b=O o->h1.get? b=O o:=λb o e=>hsb.extBut b o (o9 (j5 (g9 e) E)) (c9 _ (hg2 ▸ c9 _ e));have hacc:∃ n,h1.get? s2.heap.objs.size=O { cls:=.type "list",data:=.seq ([]:List c6).toArray n }:=⟨_,hsb.extBut _ _ (AR hDC) (c9 _ (hg2 ▸ i8 _ rfl))⟩;have hfp:∀ b∈[j],b<s2.heap.objs.size:=λb f=>by
  rw[f6] at f;subst f;rwa[itlt]
 have cs:=tR (env:=X.env) scope.names [] S.cells (λ_ _ z=>by cases z);have I0:=rj (T:=T) (tk:=s2.toks+([]:List (j3×c6)).length) S I2 f2 hfp (e8 _) E hDC old hacc hn;have st0:h1.IsKeyIter j d 0 L.size l:=ki0.at λo e=>old _ o e;have fresh2:tZ M d s2.heap.objs.size=none:=I2.hok.fresh (e8 _);have dlt2:d<s2.heap.objs.size:=g9 gd2;obtain⟨W,⟨m0,w0⟩,turn⟩:=q2 ⟨G.objs.size,s2,tZ M d,[j]⟩ s2.heap.objs.size (by rw[<- qH (H:=M) (Ct dlt2)]; exact fresh2);have fr0:∀ b∈[j],upd (tZ M d) s2.heap.objs.size (.lst []) b=none:=λb f=>by
  rw[zD (o9 (hfp b f))];exact(f2 b f).1
 have stat:∀{B:Hp},(∀ b∈[j],B b=JN)->∀ b∈[j],eX (xA X (T++caps.map (·.1)) scope ⟨G.objs.size,s2,tZ M d,[j]⟩) [] B b:=λ{B} hn' b f =>
  ⟨hn' b f,o9 (j5 (hfp b f) E),I0.ok.exfs b f,.inl f,λx c e=>(f2 b f).2.2.2.2.1 x c (cs x c e),λp hp=>y9 (show p∈([]:List (c7×By)) from hp) (by simp)⟩
 have ndit:d ∉ [j]:=λz=>by rw[f6] at z; rwa[y9 dlt (by rw[z]; exact Bh _)]
 have rawAt:∀{pl:List (c7×By)}{C:St}{B:Hp}{s':d7},Inv (xA X (T++caps.map (·.1)) scope ⟨G.objs.size,s2,tZ M d,[j]⟩) pl C B s'->s'.heap.get? d=O ob/\B d=none:=λ{pl C B s'} I' =>
  ⟨I'.base.keep d ob gd2 uu ndf ndit,I'.base.free d ob gd2 uu ndit⟩
 have Z:∀{h':w9}{k:Nat},h'.IsKeyIter j d k L.size l->∀ b∈[j],∃ o,h'.get? b=O o/\∀ v,o.data≠.cell v:=λ{h' k} ki b f=>by
  rw[f6] at f;subst f;obtain⟨o,e,_,d2⟩:=ki;exact⟨o,e,λv z=>by rw[d2] at z; cases z⟩
 have loop:codeAny (model X.prog X.w) X.A (.compLoop (.ListComp elt [⟨target,iter,ifs,0⟩] scope pos) 0 (.ref j) (.ref s2.heap.objs.size) (compEnvC scope (yr X.env scope.names []) G.objs.size X.env))
   (compPost (model X.prog X.w) X.A X.xe JN (EP X JQ σ Q) (.ref s2.heap.objs.size) G.objs.size) { s2 with heap:=h1,toks:=s2.toks+([]:List (j3×c6)).length }:=by
  erw[codeAny_loop rfl (λn s'=>∃ i C P B,Inv (xA X (T++caps.map (·.1)) scope ⟨G.objs.size,s2,tZ M d,[j]⟩) [] C B s'/\s'.heap.IsKeyIter j d i L.size l/\(∀ b∈[j],B b=JN)/\W i n C P B) (λn s3 hI=>?_) m0 ⟨0,_,[],_,I0,st0,fr0,w0⟩];obtain⟨i,σ3,P,H3,I3,st3,fr3,w3⟩:=hI;show wpAny _ X.A ((compTurn (.ListComp elt [⟨target,iter,ifs,0⟩] scope pos) 0 (.ref j) (.ref s2.heap.objs.size) (compEnvC scope (yr X.env scope.names []) G.objs.size X.env)).onRaise (λx=>do noteFrame x (compEnvC scope (yr X.env scope.names []) G.objs.size X.env); theTreesLotGoes x)) _ _ s3;erw[HX ?_];rw[compTurn_list];erw[b9 (C4 (b9 ?_))];obtain⟨hD3,turn3⟩:=turn i n σ3 P H3 w3;obtain⟨gd3,hd3⟩:=rawAt I3;have raw3:bw s3.heap d L l:=⟨ob,gd3,ex,dat⟩;obtain⟨f0,f1,f2',f3,f4,f5⟩:=stat fr3 j (.head _);rcases turn3 with ⟨stop,qn⟩ | ⟨go,N,hN,step⟩
  ·have stop:ts.length<=i:=stop;refine bL (I3.ok.hd hc) st3 raw3 (by lia) λh' eb=>?_;have I4:=I3.turned (t':=s3.toks) (λb o f q=>eb b o f q) f0 f1 f3 f4 f5;refine e9 ?_;show ∃ m,h'.Ns G.objs.size m/\∀ h'',Bz G.objs.size h' h''->EP X JQ σ Q (.ref s2.heap.objs.size) { s3 with heap:=h'' };obtain⟨m4,hn4,_⟩:=I4.loc;refine⟨m4,hn4,λh'' sb=>⟨.ref s2.heap.objs.size,upd H3 d (.dT kvs),?_,U,qn hd3⟩⟩;have J:Inv X JQ σ H3 { s3 with heap:=h'' }:=by
    refine I2.call' (s':={ s3 with heap:=h'' }) (ch:=[j]) I4.os (Un.same I4.base sb (El E)) (HOk.same I4.hok sb I4.free) I4.bare λb f=>?_;obtain⟨_,f1,_,f3,f4,f5⟩:=f2 b f;rwa[f3,f1,f4,f5]
   erw[I1.back hd J hd3 (λo e=>?_) λb xs e=>?_]
   ·rw[gd] at e;cases e;exact(sb.2 d (o9 (j5 dlt2 E))).trans (eb d ob (λz=>ndit (by rw[z]; rwa[.head _])) gd3)
   ·exact I3.base.tups b xs (rL hd e (λz=>nomatch z))
  ·have go:i<ts.length:=go;have hi':i<L.size:=by lia
   obtain⟨t,gt,ek⟩:=keyAt i hi';refine dw st3 raw3 hi' λh' ki' hs'=>?_;have I4:=I3.turned (t':=s3.toks) (λb o f q=>hs'.extBut b o f q) f0 f1 f3 f4 f5;have go':∀{Q':Unit->d7->Prop}{E':c6->d7->Prop}{u:c6},Q' () { s3 with heap:=h' }->wpAny (model X.prog X.w) X.A (letOwnedTupleGo target (.ref j) u) Q' E' { s3 with heap:=h' }:=λ{Q' E' u} hq=>by
    obtain⟨o,e,c,d2⟩:=ki';rwa[ZF e c d2 (by decide) hq]
   refine b9 (go' ?_);have I5':=I4.pinned (stat fr3) (Z ki');rw[ek];refine b9 (jn (hg _ _ _ σ3 H3 (.ref t.1) _ _ I5' rfl (step (.ref t.1) H3 ⟨rfl,t,gt,rfl⟩)) λ_ s6 ⟨σ6,H6,I6,q6⟩=>?_);have again:∀{s7:d7}{Y:St}{zs:List V}{H7:Hp},Inv (xA X (T++caps.map (·.1)) scope ⟨G.objs.size,s2,tZ M d,[j]⟩) ([]++ni [j] h') Y H7 s7->N Y zs H7 ->
     ∃ m,m<n/\∃ i C P B,Inv (xA X (T++caps.map (·.1)) scope ⟨G.objs.size,s2,tZ M d,[j]⟩) [] C B s7/\s7.heap.IsKeyIter j d i L.size l/\(∀ b∈[j],B b=JN)/\W i m C P B:=λ{s7 Y zs H7} I7 n7=>by
    obtain⟨m',hm,w7⟩:=hN Y zs H7 n7;erw[m',hm,i+1,Y,zs,H7,I7.unpinned,ki'.at λo e=>(I7.pin (j,o) (o8 _ (o8 _ (uE (.head _) e)))).1,λb f=>?_,w7];obtain⟨o,e,d⟩:=Z ki' b f;exact(I7.pin (b,o) (o8 _ (o8 _ (uE f e)))).2.1
   erw[b9 (jn (ht _ _ s6 σ6 H6 _ I6 q6) λok s7 ⟨H7,I7,q7⟩=>?_)];cases ok with
   | false=>rwa[e9 ⟨rfl,again I7 q7⟩]
   | true =>
    erw[b9 (b9 (jn (he _ _ s7 σ6 H7 _ I7 q7) λy s8 ⟨yv,H8,I8,r8,hD8,hl8,q8⟩=>?_))];erw[b9 (jn (wa _ s8 σ6 H8 (.ref s2.heap.objs.size) [yv] (.ref s2.heap.objs.size) [y] (λ_ H9=>N σ6 (P++[yv]) H9) I8 rfl (.cons r8 .nil) ⟨_,P,yv,rfl,rfl,hD8,hl8,q8⟩) λ_ s9 ⟨_,H9,I9,_,q9⟩=>?_)];rwa[e9 (e9 ⟨rfl,again I9 q9⟩)]
 rwa[codeAny_compStart_list loop (Gx st0 loop)]
end
end L2

namespace L2
inductive Deep(K:c5)(H:Hp):Nat->V->V->Bool->Prop where
 | same (n:Nat) (a:c7):Deep K H n (.ref a) (.ref a) JO
 | int (n:Nat) (i j:Int):Deep K H n (.int i) (.int j) (i == j)
 | str (n:Nat) (i j:j3):Deep K H n (.str i) (.str j) (i == j)
 | lst {n:Nat} {a b:c7} {xs ys:List V} {e:Nat->Bool} (ne:a≠b) (ha:SqL K H a xs) (hb:SqL K H b ys) (hl:xs.length=ys.length) (he:∀(j:Nat)(h1:j<xs.length)(h2:j<ys.length),Deep K H n xs[j] ys[j] (e j)):Deep K H (n+1) (.ref a) (.ref b) ((Au xs.length).all e)
 | lstN {n:Nat} {a b:c7} {xs ys:List V} (ne:a≠b) (ha:SqL K H a xs) (hb:SqL K H b ys) (hl:xs.length≠ys.length):Deep K H (n+1) (.ref a) (.ref b) JP
 | tup {n:Nat} {a b:c7} {xs ys:List V} {e:Nat->Bool} (ne:a≠b) (ha:SqT K H a xs) (hb:SqT K H b ys) (he:∀(j:Nat)(h1:j<xs.length)(h2:j<ys.length),Deep K H n xs[j] ys[j] (e j)):Deep K H (n+1) (.ref a) (.ref b) ((Au (min xs.length ys.length)).all e&&xs.length == ys.length)
 | tl {n:Nat} {a b:c7} {xs ys:List V} (ne:a≠b) (ha:SqT K H a xs) (hb:SqL K H b ys):Deep K H (n+1) (.ref a) (.ref b) JP
section
variable{X:Cx}{JQ:List (c7×By)}{σ:St}{H:Hp}{s:d7}
def yN.at{c:List V}{d:List c6}(r:yN c d){j:Nat}(h1:j<c.length)(h2:j<d.length):xJ c[j] d[j]:=by
 obtain⟨u,e,ru⟩:=r.get (c8 h1);rw[c8 h2] at e;cases e;rwa[ru]
def Deep.at(I:Inv X JQ σ H s){n:Nat}{x y:V}{r:Bool}(d:Deep X.K H n x y r):∀{A:Ac}{u v:c6},A.units+n<cLine->xJ x u->xJ y v->Eb A s u v r/\(u≠v->(∃ a,x=.ref a)->SeqAt.RcAt A s u v r):=by
 induction d with
 | same n a =>
  intro A u v B f c;cases f;cases c;rwa[F8 _,λh=>y9 rfl h]
 | int n i j =>
  intro A u v B f c;obtain⟨t,rfl⟩:=f;obtain⟨J,rfl⟩:=c;exact⟨DG _ _ _ _,λ_ ⟨a,e⟩=>nomatch e⟩
 | str n i j =>
  intro A u v B f c;obtain⟨t,rfl⟩:=f;obtain⟨J,rfl⟩:=c;exact⟨GV _ _ _ _,λ_ ⟨a,e⟩=>nomatch e⟩
 | lst ne q p L M G =>
  intro A u v B f c;cases f;cases c;obtain⟨C,l,o,_⟩:=I.list q;obtain⟨E,g,m,_⟩:=I.list p;have w:=l.length;have D:=g.length;have z:=SeqAt.RcAt.lists (A:=A) (s:=s) o.isList m.isList (by rw[g6,g6]; lia) (by lia) (λj h1 h2=>(G j (by simpa [w] using h1) (by simpa [D] using h2) (A:=A.in1) (show A.units+1+_<cLine by lia) (l.at _ (by simpa using h1)) (g.at _ (by simpa using h2))).1);rw[g6,<- w] at z;rwa[DJ ne z,λ_ _=>z]
 | lstN ne q p L =>
  intro A u v B f c;cases f;cases c;obtain⟨C,l,o,_⟩:=I.list q;obtain⟨E,g,m,_⟩:=I.list p;have w:=l.length;have D:=g.length;have z:=SeqAt.RcAt.lists_lengths (A:=A) (s:=s) o.isList m.isList (by rw[g6,g6,bne_iff_ne]; lia) (by lia);rwa[DJ ne z,λ_ _=>z]
 | tup ne q p M G =>
  intro A u v B f c;cases f;cases c;obtain⟨C,l,o,_⟩:=I.tuple q;obtain⟨E,g,m,_⟩:=I.tuple p;have w:=l.length;have D:=g.length;have z:=SeqAt.RcAt.tuples (A:=A) (s:=s) (show s.heap.IsTuple _ C.toArray from o) (show s.heap.IsTuple _ E.toArray from m) (by lia) (λj h1 h2=>(G j (by simpa [w] using h1) (by simpa [D] using h2) (A:=A.in1) (show A.units+1+_<cLine by lia) (l.at _ (by simpa using h1)) (g.at _ (by simpa using h2))).1);rw[g6,g6,<- w,<- D] at z;rwa[DJ ne z,λ_ _=>z]
 | tl ne q p =>
  intro A u v B f c;cases f;cases c;obtain⟨C,l,o,_⟩:=I.tuple q;obtain⟨E,g,m,_⟩:=I.list p;have z:=SeqAt.RcAt.tuple_list (A:=A) (s:=s) (show s.heap.IsTuple _ C.toArray from o) m.isList (by lia);rwa[DJ ne z,λ_ _=>z]
def fW:∀(ns f:List Int),ns.length=f.length->(Au ns.length).all (λj=>ns.getD j 0 == f.getD j 0)=decide (ns=f)
 | [],[],_=>rfl
 | [],_::_,h=>nomatch h
 | _::_,[],h=>nomatch h
 | x::c,y::d,h=>by
  have l:=fW c d (by simpa using h);rw[i9,List.range_succ_eq_map,Ei,EK];have e:(Au c.length).all ((λj=>(x::c).getD j 0 ==(y::d).getD j 0) ∘ Nat.succ)=decide (c=d):=by
   rw[<- l];rfl
  rw[e];by_cases g:x=y
  ·by_cases i:c=d
   ·simp[g,i]
   ·simp[g,i]
  ·simp[g]
def Zp{K:c5}{H:Hp}{a b:c7}{ns c:List Int}(n:Nat)(ne:a≠b)(h:SqL K H a (ns.map V.int))(g:SqL K H b (c.map V.int)):Deep K H (n+1) (.ref a) (.ref b) (decide (ns=c)):=by
 by_cases f:ns.length=c.length
 ·have d:=Deep.lst (n:=n) (e:=λj=>ns.getD j 0 == c.getD j 0) ne h g (by rw[b7,b7]; exact f) λj h1 h2=>by
   rw[CN,CN];have l:ns.getD j 0=ns[j]'(by simpa using h1):=by simp[show j<ns.length by simpa using h1]
   have i:c.getD j 0=c[j]'(by simpa using h2):=by simp[show j<c.length by simpa using h2]
   rw[l,i];rwa[.int _ _ _]
  rw[b7,fW ns c f] at d;rwa[d]
 ·rw[y8 (λe=>f (by rw[e]))];rwa[.lstN ne h g (by rw[b7,b7]; exact f)]
def jf(C:X.calm=JO):uH X (.builtin "min") (λl H Q=>E2 λ(p:c7) (ns:List Int)=>A4 (l=[.ref p]) (SqL X.K H p (ns.map V.int)) (ns≠[]) (∀ M:Int,M∈ns->(∀ a∈ns,M<=a)->Q (.int M) H)):=by
 intro JQ s σ H l E Q I r h;obtain⟨p,ns,rfl,z,i,q⟩:=h;obtain⟨u,rfl,w⟩:=oJ r;cases w;obtain⟨f,o,x,G⟩:=I.list z;have hi:BQ f.toArray.toList ns:=tI o;obtain⟨d,e⟩:=hi.allInts.items;have c:ns=d.toList.map (·.1):=by rw[<- hi.numsOf,<- nums_intItems,<- e]
 have g:0<d.size:=by
  have h3:0<ns.length:=List.length_pos_iff.mpr i;rw[c,b7,g8] at h3;rwa[h3]
 have D:s.heap.IsList p (intItems d):=by rw[<- e]; rwa[x.isList]
 erw[min_intList (I.ok.hd C) D g λv J n y A=>?_];obtain⟨t,rfl⟩:=intItems_at y;obtain⟨h1,h2⟩:=argBest_lt (numAt d) (d.size-1);erw[.int _,H,I.kept (t':=n) A,⟨t,rfl⟩,q _ ?_ λa m=>?_]
 ·rw[c,numAt_eq]; rwa[getD_mem (by rw[b7,g8]; lia)]
 ·rw[c] at m;obtain⟨j,B,rfl⟩:=mem_getD m;rw[b7,g8] at B;rw[<- numAt_eq]; rwa[h2 j (by lia)]
end
end L2

namespace HT
open PySem PySem.Spec
end HT
namespace L2
open PySem PySem.Spec PyProof.Rows PySem.W
def bx(h:w9)(v:c6)(ns:List Int):Prop:=∃(a:c7)(o:By)(n:Nat)(c:List c6),v=.ref a/\h.get? a=O o/\o.cls=.type "list" /\ o.data=.seq c.toArray n/\yN (ns.map V.int) c
def bx.keep{h d:w9}{v:c6}{t:List Int}(e:bx h v t)(k:∀ b o,h.get? b=O o->d.get? b=O o):bx d v t:=by
 obtain⟨a,o,n,c,i,g,f⟩:=e;rwa[a,o,n,c,i,k _ _ g,f]
section
variable{prog:m9}{w:r9}{A:Ac}{E:c6->d7->Prop}{s:d7}
def cu{M:GL}{c:List c6}(j:∀ v∈c,∃ ns,bx s.heap v ns){Q:Bt->d7->Prop}(h:∀ l,Q l s):wpAny M A (keyKind' c.toArray) Q E s:=by
 have m:∀ v∈c,bZ s.heap v:=λv f=>by
  obtain⟨ns,a,o,n,d,e,g,_⟩:=j v f;rwa[.inr ⟨a,o,e,g⟩]
 rw[kat_kind_eq,Fv,map_eq_pure_bind];erw[b9 (b9 (ut (R:=λb=>b=JN) (λv q y p=>?_) λbs i=>e9 ?_))]
 ·obtain⟨ns,a,o,n,d,rfl,g,u,hd,r⟩:=j v q;rw[kas_first_eq];refine b9 (Iw (show Looks M s.heap (typeOf (.ref a)) o.cls from(JB g).andThen .now) ?_);rw[u,y6 (by first | decide | simp)];rwa[e9 (p _ rfl)]
 ·split
  ·erw[b9 (DE ?_)];have e:bs.toArray.filterMap id=(bs.filterMap id).toArray:=by simp
   rw[e];erw[b9 (pT (λv f=>?_) λb=>e9 (h _))];obtain⟨b,x,e⟩:=CS.mp f;rw[i b x] at e;cases e
  ·split
   ·rwa[e9 (h _)]
   ·rwa[b9 (pT m λb=>e9 (h _))]
end
end L2

namespace L2
def fC(H:Hp)(ns:List Int):c6->Bool
 | .ref b=>match H b with
  | some (.lst c)=>decide (c=ns.map V.int)
  | _=>JP
 | _=>JP
def ky{H:Hp}{ns c:List Int}{b:c7}(h:H b=O (.lst (c.map V.int))):fC H ns (.ref b)=decide (c=ns):=by
 show(match H b with | some (.lst d)=>decide (d=ns.map V.int) | _=>JP)=_;rw[h];rwa[decide_eq_decide.mpr ⟨xg,λe=>by rw[e]⟩]
section
variable{X:Cx}
def cS{h:List (c7×By)}{s:d7}{f:St}{H:Hp}(I:Inv X h f H s){A:Ac}(g:A.units+1<cLine){a b:c7}{d c:List Int}(h1:H a=O (.lst (d.map V.int)))(h2:H b=O (.lst (c.map V.int))) :
  Eb A s (.ref a) (.ref b) (decide (d=c)):=by
 by_cases e:a=b
 ·subst e;rw[h1] at h2;have z:d=c:=xg (by injection (t7 h2));rw[y7 z];rwa[F8 _]
 ·exact(Deep.at I (Zp (K:=X.K) 0 e (SqL.of h1) (SqL.of h2)) g rfl rfl).1
def WV:R2:=λx y H Q=>E4 λ(p e:c7) (ns:List Int) (c:List (c7×List Int))=>A6 (x=.ref p) (y=.ref e) (H p=O (.lst (ns.map V.int))) (H e=O (.lst ((c.map (·.1)).map V.ref))) (∀ t∈c,H t.1=O (.lst (t.2.map V.int))) (Q (.bl (!(c.any λt=>decide (t.2=ns)))) H)
def aE(J:X.A.units+64<cLine):OpR X (compareOp .NotIn) WV:=by
 intro L s G H x y v u Q I j i h;obtain⟨p,e,ns,g,rfl,rfl,o,B,c,q⟩:=h;cases j;cases i;obtain⟨m,r,l,_⟩:=I.list (SqL.of B);have D:=kF r;subst D;erw[SeqAt.notIn_listAt (fC H ns) l.isList (λw n=>?_) ⟨.bl _,H,I,rfl,?_⟩]
 ·have f:w∈(g.map (·.1)).map j8:=by simpa using n
  rw[Ab] at f;obtain⟨t,d,C⟩:=g7.mp f;subst C;show Eb X.A.in1 s (.ref t.1) (.ref p) (fC H ns (.ref t.1));rw[ky (c t d)];exact cS I (show X.A.units+1+1<cLine by lia) (c t d) o
 ·have E:(((g.map (·.1)).map j8).toArray.any (fC H ns))=g.any λt=>decide (t.2=ns):=by
   rw[show(((g.map (·.1)).map j8).toArray.any (fC H ns))=((g.map (·.1)).map j8).any (fC H ns) by simp,Ab,List.any_map];rw[CV,BP,BP];constructor
   ·rintro⟨t,d,z⟩;rwa[t,d,by rw[<- ky (ns:=ns) (c t d)]; exact z]
   ·rintro⟨t,d,z⟩;exact⟨t,d,by show fC H ns (.ref t.1)=JO; rw[ky (c t d)]; rwa[z]⟩
  rw[E];rwa[q]
end
end L2

namespace PyProof.Rows
def rk(r:v8->Int)(c:Array v8)(i:Nat):Int:=(c[i]?.map r).getD 0
section
variable{r:v8->Int}{xs zs:Array v8}{i j:Nat}
def sY(h:i<xs.size):rk r xs i=r xs[i]:=by unfold rk; rw[Ae h]; rfl
def qN(h:xs[i]?=zs[j]?):rk r xs i=rk r zs j:=by unfold rk; rw[h]
def dZ{p q:Nat} : rk r (xs.extract p q) i=if i<min q xs.size-p then rk r xs (p+i) else 0:=by
 unfold rk;rw[Array.getElem?_extract];split <;> rfl
end
def Asc(r:v8->Int)(c:Array v8)(lo hi:Nat):Prop:=∀ i j,lo<=i->i<=j->j<hi->rk r c i<=rk r c j
def zz(prog:m9)(w:r9)(A:Ac)(s:d7)(d:Bt)(c:List v8)(r:v8->Int):Prop :=
 ∀ x y:v8,x∈c->y∈c->∀ Q:Bool->d7->Prop,Q (decide (r x<r y)) s->wpAny (model prog w) A (keyLt' d x.1 y.1) Q (λ_ _=>False) s
section
variable{prog:m9}{w:r9}{A:Ac}{E:c6->d7->Prop}{s:d7}{st:t6}{κ:Bt}{ys:List v8}{r:v8->Int}
def fu(i:zz prog w A s κ ys r)(g:kindOf st=κ){x y:v8}(f:x∈ys)(d:y∈ys){Q:Option Bool->t6->Prop}(h:Q (O (decide (r x<r y))) st):wpS (model prog w) A E s (lt' x y) Q st:=by
 rw[lt'_eq];erw[wpS_bind (wpS_get ?_)];rw[g];erw[wpS_bind (iy (Ej (BA (i x y f d (λb c=>c=s/\b=decide (r x<r y)) ⟨rfl,rfl⟩) (λb c e=>?_) λ_ _ e=>e.elim)))];obtain⟨j,rfl⟩:=e;rwa[j,wpS_pure h]
def fv{c:Type}(i:zz prog w A s κ ys r)(g:kindOf st=κ){x y:v8}(e:x∈ys)(d:y∈ys){f:Option Bool->StateT t6 EH c}{Q:c->t6->Prop}(h:wpS (model prog w) A E s (f (O (decide (r x<r y)))) Q st):wpS (model prog w) A E s (lt' x y >>= f) Q st:=wpS_bind (fu i g e d h)
def nO{left:Bool}{z:v8}{M:Array v8}{base n d:Nat}(B:Nat->Bool)
  (y:∀(i:Nat),i<n->∀{Y:Option Bool->t6->Prop},Y (O (B i)) st->wpS (model prog w) A E s (do
   let x <- elem' M (base+i)
   if left=JO then lt' x z else do
    let r <- lt' z x
    pure (Option.map (λx=>!x) r)) Y st)
  (mono:∀ i j,i<=j->j<n->B j=JO->B i=JO) (T:d<n)
  {Q:Option Nat->t6->Prop} (h:∀ k,k<=n->(∀ i,i<k->B i=JO)->(∀ i,k<=i->i<n->B i=JP)->Q (O k) st):wpS (model prog w) A E s (oF left z M base n d) Q st:=by
 have q:∀ i j,i<=j->j<n->B i=JP->B j=false:=λi j h1 h2 h3=>by
  cases e:B j with
  | false=>rfl
  | true=>rw[mono i j h1 h2 e] at h3; cases h3
 erw[wpS_bind (y d T ?_)];dsimp only;apply cR (prog:=prog) (w:=w) (A:=A) (E:=E) (s:=s) (st:=st) (P:=λlo hi=>L2.A4 (lo<=hi) (hi<=n) (∀ i,i<lo->B i=JO) (∀ i,hi<=i->i<n->B i=JP))
 case use =>
  intro H;cases X:B d with
  | true =>
   simp only[if_true];erw[xE (I:=λx c f=>L2.E2 λl o=>L2.A6 (st=f) (c=(JN,l,o)) (l<o) (d+l<n) (B (d+l)=JO) (x+1<=o)) (Q:=λc f=>L2.E2 λl o=>L2.A6 (st=f) (c=(JN,l,o)) (l<o) (d+l<n) (B (d+l)=JO) (n-d<=o\/(d+o<n/\B (d+o)=JP))) ?_ ?_ ⟨_,_,rfl,rfl,Ie,T,X,e8 _⟩ ?_]
   ·rintro i c f _ hi ⟨l,o,rfl,rfl,h1,h2,h3,h4⟩;dsimp only;erw[yP (λe=>wpS_pure ⟨_,_,rfl,rfl,h1,h2,h3,.inl e⟩) λe=>?_];have h5:d+o<n:=by lia
    erw[wpS_bind (y (d+o) h5 ?_)];cases e:B (d+o) with
    | true=>rwa[wpS_pure ⟨_,_,rfl,rfl,by lia,h5,e,by lia⟩]
    | false=>rwa[wpS_pure ⟨_,_,rfl,rfl,h1,h2,h3,.inr ⟨h5,e⟩⟩]
   ·rintro c f ⟨l,o,rfl,rfl,h1,h2,h3,h4⟩;rwa[_,_,rfl,rfl,h1,h2,h3,.inl (by lia)]
   ·rintro c f ⟨l,o,rfl,rfl,h1,h2,h3,h4⟩;dsimp only;have g:L2.A4 (d+l+1<=d+min o (n-d)) (d+min o (n-d)<=n) (∀ i,i<d+l+1->B i=JO) (∀ i,d+min o (n-d)<=i->i<n->B i=JP):=by
     erw[by lia,by lia,λi hi=>mono i (d+l) (by lia) h2 h3,λi S C=>?_];rcases h4 with h4 | ⟨h4,h5⟩
     ·lia
     ·rwa[q _ i (by lia) C h5]
    clear h1 h2 h3 h4;generalize d+l+1=G at g ⊢;generalize d+min o (n-d)=J at g ⊢;rwa[H _ _ g]
  | false =>
   simp only[BO,if_false];erw[xE (I:=λx c f=>L2.E2 λl o=>L2.A6 (st=f) (c=(JN,l,o)) (l<o) (l<=d) (B (d-l)=JP) (x+1<=o)) (Q:=λc f=>L2.E2 λl o=>L2.A6 (st=f) (c=(JN,l,o)) (l<o) (l<=d) (B (d-l)=JP) (d+1<=o\/(o<=d/\B (d-o)=JO))) ?_ ?_ ⟨_,_,rfl,rfl,Ie,m7 _,X,e8 _⟩ ?_]
   ·rintro i c f _ hi ⟨l,o,rfl,rfl,h1,h2,h3,h4⟩;dsimp only;erw[yP (λe=>wpS_pure ⟨_,_,rfl,rfl,h1,h2,h3,.inl e⟩) λe=>?_];have h5:o<=d:=by lia
    erw[wpS_bind (y (d-o) (by lia) ?_)];cases e:B (d-o) with
    | true=>rwa[wpS_pure ⟨_,_,rfl,rfl,h1,h2,h3,.inr ⟨h5,e⟩⟩]
    | false=>rwa[wpS_pure ⟨_,_,rfl,rfl,by lia,h5,e,by lia⟩]
   ·rintro c f ⟨l,o,rfl,rfl,h1,h2,h3,h4⟩;rwa[_,_,rfl,rfl,h1,h2,h3,.inl (by lia)]
   ·rintro c f ⟨l,o,rfl,rfl,h1,h2,h3,h4⟩;dsimp only;have g:L2.A4 (d+1-min o (d+1)<=d-l) (d-l<=n) (∀ i,i<d+1-min o (d+1)->B i=JO) (∀ i,d-l<=i->i<n->B i=JP):=by
     erw[by lia,by lia,λi hi=>?_,λi S C=>q (d-l) i (by lia) C h3];rcases h4 with h4 | ⟨h4,h5⟩
     ·lia
     ·rwa[mono i (d-o) (by lia) (by lia) h5]
    clear h1 h2 h3 h4;generalize d+1-min o (d+1)=G at g ⊢;generalize d-l=J at g ⊢;rwa[H _ _ g]
 rintro G J ⟨L,u,R,v⟩;erw[xE (I:=λx c f=>L2.E2 λlo hi=>L2.A7 (st=f) (c=(JN,lo,hi)) (lo<=hi) (hi<=n) (hi-lo<=n-x) (∀ i,i<lo->B i=JO) (∀ i,hi<=i->i<n->B i=JP)) (Q:=λc f=>L2.E2 λlo hi=>L2.A6 (st=f) (c=(JN,lo,hi)) (lo=hi) (hi<=n) (∀ i,i<lo->B i=JO) (∀ i,hi<=i->i<n->B i=JP)) ?_ ?_ ⟨_,_,rfl,rfl,L,u,by lia,R,v⟩ ?_]
 ·clear L u R v h T;rintro i c f _ hi ⟨lo,p,rfl,rfl,L,u,R,v,D⟩;dsimp only;erw[yP (λe=>wpS_pure ⟨_,_,rfl,rfl,Nat.le_antisymm L e,u,v,D⟩) λe=>?_];have k1:lo<=lo+(p-lo)/2:=Bx _ _;have N:lo+(p-lo)/2<p:=by lia
  have k3:p-(lo+(p-lo)/2+1)<=n-(i+1):=by lia
  have Z:lo+(p-lo)/2-lo<=n-(i+1):=by lia
  generalize lo+(p-lo)/2=m at *;erw[wpS_bind (y _ (j5 N u) ?_)];cases e:B m with
  | true=>rwa[wpS_pure ⟨_,_,rfl,rfl,N,u,k3,λi hi=>mono i _ (Nat.le_of_lt_succ hi) (j5 N u) e,D⟩]
  | false=>rwa[wpS_pure ⟨_,_,rfl,rfl,k1,f9 (Bu N) u,Z,v,λi h1 h2=>q _ i h1 h2 e⟩]
 ·rintro c f ⟨lo,p,rfl,rfl,L,u,R,v,D⟩;rwa[_,_,rfl,rfl,by lia,u,v,D]
 ·rintro c f ⟨lo,p,rfl,rfl,rfl,u,v,D⟩;rwa[wpS_pure (h _ u v D)]
def gg(B:zz prog w A s κ ys r)(v:kindOf st=κ){z c:Array v8}{p base n d:Nat}{u:p<z.size}(e:z[p]∈ys)(f:∀ i,i<n->∃ h:base+i<c.size,c[base+i]∈ys)(o:Asc r c base (base+n))(y:d<n)
  {Q:Option Nat->t6->Prop} (h:∀ k,k<=n->(∀ j,base<=j->j<base+k->rk r c j<=rk r z p)->(∀ j,base+k<=j->j<base+n->rk r z p<rk r c j)->Q (O k) st):wpS (model prog w) A E s (oF JP z[p] c base n d) Q st:=by
 erw[nO (λi=>!decide (r z[p]<rk r c (base+i))) (λi hi {G} q=>?_) (λi j x D C=>?_) y λk m l g=>?_]
 ·obtain⟨h1,h2⟩:=f i hi;erw[yD h1 ?_];erw[fv B v e h2 (wpS_pure ?_)];rw[sY h1] at q;rwa[q]
 ·have:=o (base+i) (base+j) (by lia) (by lia) (by lia);simp only[Fw,decide_eq_false_iff_not] at C ⊢;lia
 ·rw[sY u] at h;erw[h k m (λj h1 h2=>?_) (λj h1 h2=>?_)]
  ·have z:=l (j-base) (by lia);simp only[Fw,decide_eq_false_iff_not] at z;rw[show base+(j-base)=j by lia] at z;lia
  ·have z:=g (j-base) (by lia) (by lia);simp only[Bool.not_eq_false',decide_eq_true_eq] at z;rw[show base+(j-base)=j by lia] at z;lia
def fc(B:zz prog w A s κ ys r)(v:kindOf st=κ){z c:Array v8}{p base n d:Nat}{u:p<z.size}(e:z[p]∈ys)(f:∀ i,i<n->∃ h:base+i<c.size,c[base+i]∈ys)(o:Asc r c base (base+n))(y:d<n)
  {Q:Option Nat->t6->Prop} (h:∀ k,k<=n->(∀ j,base<=j->j<base+k->rk r c j<rk r z p)->(∀ j,base+k<=j->j<base+n->rk r z p<=rk r c j)->Q (O k) st):wpS (model prog w) A E s (oF JO z[p] c base n d) Q st:=by
 erw[nO (λi=>decide (rk r c (base+i)<r z[p])) (λi hi {G} q=>?_) (λi j x D C=>?_) y λk m l g=>?_]
 ·obtain⟨h1,h2⟩:=f i hi;erw[yD h1 ?_];rw[sY h1] at q;rwa[fu B v h2 e q]
 ·have:=o (base+i) (base+j) (by lia) (by lia) (by lia);simp only[decide_eq_true_eq] at C ⊢;lia
 ·rw[sY u] at h;erw[h k m (λj h1 h2=>?_) (λj h1 h2=>?_)]
  ·have z:=l (j-base) (by lia);simp only[decide_eq_true_eq] at z;rw[show base+(j-base)=j by lia] at z;lia
  ·have z:=g (j-base) (by lia) (by lia);simp only[decide_eq_false_iff_not] at z;rw[show base+(j-base)=j by lia] at z;lia
def kX{g:Type}(q:zz prog w A s κ ys r)(m:kindOf st=κ){z arr:Array v8}{p base n c:Nat}{u:p<z.size}(d:z[p]∈ys)(e:∀ i,i<n->∃ h:base+i<arr.size,arr[base+i]∈ys)(l:Asc r arr base (base+n))(o:c<n)
  {f:Option Nat->StateT t6 EH g} {Q:g->t6->Prop} (h:∀ k,k<=n->(∀ j,base<=j->j<base+k->rk r arr j<=rk r z p)->(∀ j,base+k<=j->j<base+n->rk r z p<rk r arr j)->wpS (model prog w) A E s (f (O k)) Q st):wpS (model prog w) A E s (oF JP z[p] arr base n c >>= f) Q st:=wpS_bind (gg q m d e l o h)
def kM{g:Type}(q:zz prog w A s κ ys r)(m:kindOf st=κ){z arr:Array v8}{p base n c:Nat}{u:p<z.size}(d:z[p]∈ys)(e:∀ i,i<n->∃ h:base+i<arr.size,arr[base+i]∈ys)(l:Asc r arr base (base+n))(o:c<n)
  {f:Option Nat->StateT t6 EH g} {Q:g->t6->Prop} (h:∀ k,k<=n->(∀ j,base<=j->j<base+k->rk r arr j<rk r z p)->(∀ j,base+k<=j->j<base+n->rk r z p<=rk r arr j)->wpS (model prog w) A E s (f (O k)) Q st):wpS (model prog w) A E s (oF JO z[p] arr base n c >>= f) Q st:=wpS_bind (fc q m d e l o h)
end
section
variable{r:v8->Int}{xs:Array v8}
def qp{p q:Nat}(i:Nat)(c:q<=xs.size)(h:i<q-p):rk r (xs.extract p q) i=rk r xs (p+i):=by rw[dZ,y6 (by lia)]
end
structure Mrg(R:v8->v8->Prop)(T o p q:List v8):Prop where
 pm:(o++(p++q)).Perm T
 sp:(o++p).Pairwise R
 sq:(o++q).Pairwise R
section
variable{R:v8->v8->Prop}{T o p q l:List v8}
def Mrg.swap(t:Mrg R T o p q):Mrg R T o q p:=⟨(D3 _ Br).trans t.pm,t.sq,t.sp⟩
def Mrg.b(t:Mrg R T o p (l++q))(h:∀ u∈l,∀ v∈p,R u v):Mrg R T (o++l) p q:=by
 have e:=t.sq;rw[<- AX] at e;erw[?_,?_,e]
 ·erw[Gb ?_ t.pm];rw[AX];erw[D3 _ ?_];rw[<- AX,<- AX];rwa[Br.append_right _]
 ·have f:=BV.mp t.sp;erw[BV.mpr ⟨(BV.mp e).1,f.2.1,λa d b c=>?_⟩];exact(l7.mp d).elim (λz=>f.2.2 a z b c) (λz=>h a z b c)
end
section
variable{r:v8->Int}{x y out:Array v8}{ia ib na nb i:Nat}{c:Int}
def Asc.drop(d:Asc r x 0 x.size)(o:i<x.size->c<=rk r x i):∀ v∈x.toList.drop i,c<=r v:=λv f=>by
 obtain⟨j,g,e⟩:=Es.mp f;rw[x5,g8] at g;rw[List.getElem_drop] at e;have h:i+j<x.size:=by lia
 have z:=d i (i+j) (m7 _) (Bx _ _) h;rw[sY h] at z;rw[<- e];rwa[BC (o (by lia)) z]
def Asc.take(d:Asc r x 0 x.size)(hi:i<=x.size)(o:0<i->rk r x (i-1)<=c):∀ v∈(x.toList.take i).reverse,r v<=c:=λv f=>by
 obtain⟨j,g,e⟩:=Es.mp (HK.mp f);rw[i7,g8] at g;rw[List.getElem_take] at e;have h:j<x.size:=by lia
 have z:=d j (i-1) (m7 _) (by lia) (by lia);rw[sY h] at z;rw[<- e];rwa[BC z (o (by lia))]
def wj{d:Array v8}{p q:Nat}{u:v8}(h:u∈(d.extract p q).toList):∃ j,p<=j/\j<q/\j<d.size/\rk r d j=r u:=by
 obtain⟨t,f,e⟩:=Es.mp h;rw[g8,Cj] at f;have h2:p+t<d.size:=by lia
 exists p+t,Bx _ _,by lia,h2;rw[sY h2,<- e,AQ,Array.getElem_extract]
def wv:x.toList.Pairwise (λu v=>r u<=r v)↔Asc r x 0 x.size:=by
 rw[Cp];erw[λh i j _ h2 h3=>?_,λh i j hi d h2=>?_]
 ·by_cases e:i=j
  ·rw[e];rwa[Dg _]
  ·have hi:i<x.size:=by lia
   rw[sY hi,sY h3];rwa[h i j hi h3 (by lia)]
 ·have z:=h i j (m7 _) (Bu h2) d;rw[sY d,sY (show i<x.size from hi)] at z;rwa[z]
def eI(r:v8->Int)(x y z:Array v8):Prop:=z.toList.Perm (x.toList++y.toList)/\Asc r z 0 z.size
structure uW(r:v8->Int)(x y out:Array v8)(ia ib:Nat):Prop where
 m:Mrg (λu v=>r u<=r v) (x.toList++y.toList) out.toList (x.toList.drop ia) (y.toList.drop ib)
 la:ia<=x.size
 lb:ib<=y.size
def uW.swap(t:uW r x y out ia ib):uW r y x out ib ia:=⟨⟨t.m.swap.pm.trans Br,t.m.sq,t.m.sp⟩,t.lb,t.la⟩
def uW.b(t:uW r x y out ia ib)(d:Asc r x 0 x.size)(h:ib<y.size)(o:ia<x.size->rk r y ib<=rk r x ia):uW r x y (out.push y[ib]) ia (ib+1):=by
 have m:=t.m;rw[Bk (show ib<y.toList.length from h)] at m;erw[?_,t.la,h];rw[Fx];erw[Mrg.b (l:=[y[ib]]) m λu e=>?_];rw[f6.mp e,<- sY (r:=r) h];rwa[d.drop o]
def uW.bs(t:uW r x y out ia ib)(d:Asc r x 0 x.size){k:Nat}(h:ib+k<=y.size)(o:∀ j,ib<=j->j<ib+k->rk r y j<=rk r x ia):uW r x y (out++y.extract ib (ib+k)) ia (ib+k):=by
 have m:=t.m;rw[nC (z:=y) (Bx ib k)] at m;erw[?_,t.la,h];rw[CG];erw[m.b λu l=>?_];obtain⟨j,g,f,_,e⟩:=wj (r:=r) l;rw[<- e];rwa[d.drop λ_=>o j g f]
def uW.a(t:uW r x y out ia ib)(d:Asc r y 0 y.size)(h:ia<x.size)(o:ib<y.size->rk r x ia<=rk r y ib):uW r x y (out.push x[ia]) (ia+1) ib:=(t.swap.b d h o).swap
def uW.as(t:uW r x y out ia ib)(d:Asc r y 0 y.size){k:Nat}(h:ia+k<=x.size)(o:∀ j,ia<=j->j<ia+k->rk r x j<=rk r y ib):uW r x y (out++x.extract ia (ia+k)) (ia+k) ib:=(t.swap.bs d h o).swap
def uW.done(t:uW r x y out ia ib)(e:ia=x.size\/ib=y.size):eI r x y (out++x.extract ia x.size++y.extract ib y.size):=by
 have d:(out++x.extract ia x.size++y.extract ib y.size).toList=out.toList++(x.toList.drop ia++y.toList.drop ib):=by
  rw[CG,CG,bX,bX,AX]
 erw[d ▸ t.m.pm,wv.mp (d ▸ ?_)];rcases e with rfl | rfl
 ·rw[B8 (show x.toList.length<=x.size from e8 _)];rwa[t.m.sq]
 ·rw[B8 (show y.toList.length<=y.size from e8 _),Cr];rwa[t.m.sp]
def uW.last(t:uW r x y out ia ib)(e:ia+1=x.size)(p2:∀ j,j<y.size->rk r y j<=rk r x (x.size-1))(f:Asc r x 0 x.size):eI r x y (out++y.extract ib y.size++x.extract ia x.size):=by
 have h:=t.lb;have z:=t.bs f (k:=y.size-ib) (by lia) λj _ g=>by rw[show ia=x.size-1 by lia]; rwa[p2 j (by lia)]
 rw[show ib+(y.size-ib)=y.size by lia] at z;have d:=z.swap.done (.inl rfl);rw[show y.extract y.size y.size = #[] from CZ (Nat.min_le_left _ _),GX] at d;rwa[d.1.trans Br,d.2]
structure uG(r:v8->Int)(x y out:Array v8)(na nb:Nat):Prop where
 m:Mrg (λu v=>r v<=r u) (x.toList++y.toList) out.toList (x.toList.take na).reverse (y.toList.take nb).reverse
 la:na<=x.size
 lb:nb<=y.size
def uG.swap(t:uG r x y out na nb):uG r y x out nb na:=⟨⟨t.m.swap.pm.trans Br,t.m.sq,t.m.sp⟩,t.lb,t.la⟩
def uG.b(t:uG r x y out na nb)(d:Asc r x 0 x.size)(h:0<nb)(o:0<na->rk r x (na-1)<=rk r y (nb-1)):uG r x y (out.push (y[nb-1]'(by have:=t.lb; lia))) na (nb-1):=by
 have l:=t.lb;have h2:nb-1<y.size:=by lia
 have m:=t.m;rw[show y.toList.take nb=y.toList.take (nb-1+1) by rw[show nb-1+1=nb by lia],YQ h2,EF] at m;erw[?_,t.la,Bu h2];rw[Fx];erw[Mrg.b (l:=[y[nb-1]]) m λu e=>?_];rw[f6.mp e,<- sY (r:=r) h2];rwa[d.take t.la o]
def uG.bs(t:uG r x y out na nb)(f:Asc r x 0 x.size){k:Nat}(h:k<=nb)(o:∀ j,k<=j->j<nb->rk r x (na-1)<=rk r y j):uG r x y (out++(y.extract k nb).reverse) na k:=by
 have l:=t.lb;have m:=t.m;have e:k+(nb-k)=nb:=by lia
 have d:=aB (z:=y) (i:=k) (k:=nb-k) (by lia);rw[e] at d;rw[d,EF] at m;erw[?_,t.la,f9 h l];rw[CG,Gy];erw[m.b λu q=>?_];obtain⟨j,p,n,_,g⟩:=wj (r:=r) (HK.mp q);rw[<- g];rwa[f.take t.la λ_=>o j p n]
def uG.a(t:uG r x y out na nb)(d:Asc r y 0 y.size)(h:0<na)(o:0<nb->rk r y (nb-1)<=rk r x (na-1)):uG r x y (out.push (x[na-1]'(by have:=t.la; lia))) (na-1) nb:=(t.swap.b d h o).swap
def uG.as(t:uG r x y out na nb)(d:Asc r y 0 y.size){k:Nat}(h:k<=na)(o:∀ j,k<=j->j<na->rk r y (nb-1)<=rk r x j):uG r x y (out++(x.extract k na).reverse) k nb:=(t.swap.bs d h o).swap
def uG.done2(t:uG r x y out na nb)(e:nb=0):eI r x y (x.extract 0 na++out.reverse):=by
 have d:(x.extract 0 na++out.reverse).toList=(out.toList++(x.toList.take na).reverse).reverse:=by
  rw[CG,Gy,EF,List.reverse_reverse,Be,AC,Hf,Gz]
 subst e;have z:=t.m.pm;rw[List.take_zero,List.reverse_nil,Cr] at z;rwa[d ▸ (Fy _).trans z,wv.mp (d ▸ D5.mpr t.m.sp)]
def uG.done(t:uG r x y out na nb)(e:na=0\/nb=0):eI r x y (x.extract 0 na++y.extract 0 nb++out.reverse):=by
 rcases e with rfl | rfl
 ·have z:=t.swap.done2 rfl;rw[CZ (by lia),Array.empty_append];rwa[z.1.trans Br,z.2]
 ·rw[CZ (as:=y) (by lia),GX];rwa[t.done2 rfl]
def uG.first(t:uG r x y out na nb)(e:nb=1)(p1:rk r y 0<=rk r x 0)(g:Asc r x 0 x.size)(f:Asc r y 0 y.size):eI r x y (y.extract 0 nb++x.extract 0 na++out.reverse):=by
 have l:=t.la;have z:=t.as f (k:=0) (m7 _) λj _ h=>by
  rw[show nb-1=0 by lia];rwa[BC p1 (g 0 j (m7 _) (m7 _) (by lia))]
 have d:=z.swap.done2 rfl;rw[Array.reverse_append,Array.reverse_reverse,<- GQ] at d;rwa[d.1.trans Br,d.2]
end
section
variable{prog:m9}{w:r9}{A:Ac}{E:c6->d7->Prop}{s:d7}{st:t6}{κ:Bt}{ys:List v8}{r:v8->Int}
def iw(ha:zz prog w A s κ ys r)(hk:kindOf st=κ){a b:Array v8}(hae:∀ u∈a.toList,u∈ys)(hbe:∀ u∈b.toList,u∈ys)(ha0:0<a.size)(hb0:0<b.size)(sa:Asc r a 0 a.size)(sb:Asc r b 0 b.size)(p1:rk r b 0<=rk r a 0)(p2:∀ j,j<b.size->rk r b j<=rk r a (a.size-1)){Q:Array v8->t6->Prop}
  (h:∀ out l,we st l->eI r a b out->Q out l):wpS (model prog w) A E s (Xo a b) Q st:=by
 have am:∀ i,(hi:i<a.size)->a[i]∈ys:=λi hi=>hae _ (by rw[<- AQ]; exact Ag _);have bm:∀ i,(hi:i<b.size)->b[i]∈ys:=λi hi=>hbe _ (by rw[<- AQ]; exact Ag _);refine rJ ?_;refine yD hb0 ?_;dsimp only;have t0:uW r a b #[b[0]] 0 1:=by
  have t2:uW r a b #[] 0 0:=⟨⟨Ix _,wv.mpr sa,wv.mpr sb⟩,m7 _,m7 _⟩;rwa[t2.b sa hb0 λ_=>p1]
 by_cases C:(1 == b.size)=JO
 ·rw[y6 C];exact wpS_pure (h _ _ (we.refl _) (t0.done (.inr (by simpa using C))))
 rw[y4 C];by_cases D:(0+1 == a.size)=JO
 ·rw[y6 D];exact wpS_pure (h _ _ (we.refl _) (t0.last (by simpa using D) p2 sa))
 rw[y4 D];have C:1<b.size:=by simp at C; lia
 have D:1<a.size:=by simp at D; lia
 refine tD ?_;refine xE (I:=λi c l=>L2.E4 λout p n mg=>L2.A6 (we st l) (c=(JN,out,p,n,mg)) (uW r a b out p n) (p+1<a.size) (n<b.size) (i+1<=p+n))
  (Q:=λc l=>L2.E5 λz out p n mg=>L2.A3 (we st l) (c=(O z,out,p,n,mg)) (eI r a b z)) ?_ ?_ ⟨_,_,_,_,we.refl _,rfl,t0,D,C,e8 _⟩ ?_
 ·rintro i c st1 _ hi ⟨out,p,n,mg,kp,rfl,x,la,lb,T⟩;refine xE (I:=λj c l=>L2.E5 λg d f J G=>L2.A6 (we st l) (c=(JN,g,d,f,J,G)) (uW r a b g d f) (d+1<a.size) (f<b.size) (i+1+j<=d+f))
   (Q:=λc l=>L2.E6 λR g d f J G=>L2.A3 (we st l) (c=(R,g,d,f,J,G)) ((∃ z,R=O z/\eI r a b z)\/(R=JN/\uW r a b g d f/\d+1<a.size/\f<b.size/\i+2<=d+f))) ?_ ?_ ⟨_,_,_,_,_,kp,rfl,x,la,lb,by lia⟩ ?_
  ·rintro j c st2 _ hj ⟨out,p,n,J,G,v,rfl,x,la,lb,T⟩;have q:p<a.size:=by lia
   erw[yD lb (yD q (fv ha (v.1.trans hk) (bm n lb) (am p q) ?_))];rw[<- sY (r:=r) lb,<- sY (r:=r) q];by_cases S:rk r b n<rk r a p
   ·rw[y7 S];erw[yD lb ?_];have o:=x.b sa lb λ_=>Ai S;by_cases X:(n+1 == b.size)=JO
    ·erw[GY (congrArg (λm=>wpS _ _ _ _ m _ _) (y6 X)) ?_];exact wpS_pure ⟨_,_,_,_,_,_,v,rfl,.inl ⟨_,rfl,o.done (.inr (by simpa using X))⟩⟩
    ·erw[GY (congrArg (λm=>wpS _ _ _ _ m _ _) (y4 X)) ?_];have lb':n+1<b.size:=by simp at X; lia
     by_cases N:G+1 >= mg
     ·erw[GY (congrArg (λm=>wpS _ _ _ _ m _ _) (y6 N)) ?_];rwa[wpS_pure ⟨JN,_,p,n+1,0,G+1,v,rfl,.inr ⟨rfl,o,la,lb',by lia⟩⟩]
     ·erw[GY (congrArg (λm=>wpS _ _ _ _ m _ _) (y4 N)) ?_];rwa[wpS_pure ⟨_,p,n+1,0,G+1,v,rfl,o,la,lb',by lia⟩]
   ·rw[y8 S];erw[yD q ?_];have o:=x.a sb q λ_=>Ee.mp S;by_cases X:(p+1+1 == a.size)=JO
    ·erw[GY (congrArg (λm=>wpS _ _ _ _ m _ _) (y6 X)) ?_];exact wpS_pure ⟨_,_,_,_,_,_,v,rfl,.inl ⟨_,rfl,o.last (by simpa using X) p2 sa⟩⟩
    ·erw[GY (congrArg (λm=>wpS _ _ _ _ m _ _) (y4 X)) ?_];have la':p+1+1<a.size:=by simp at X; lia
     by_cases N:J+1 >= mg
     ·erw[GY (congrArg (λm=>wpS _ _ _ _ m _ _) (y6 N)) ?_];rwa[wpS_pure ⟨JN,_,p+1,n,J+1,0,v,rfl,.inr ⟨rfl,o,la',lb,by lia⟩⟩]
     ·erw[GY (congrArg (λm=>wpS _ _ _ _ m _ _) (y4 N)) ?_];rwa[wpS_pure ⟨_,p+1,n,J+1,0,v,rfl,o,la',lb,by lia⟩]
  ·rintro c st2 ⟨out,p,n,J,G,_,rfl,_,h1,h2,h3⟩;exfalso;have:a.size+b.size<=max 0 (a.size+b.size):=Ef _ _;lia
  ·rintro c st2 ⟨R,out,p,n,J,G,v,rfl,hr⟩;rcases hr with ⟨z,rfl,pm⟩ | ⟨rfl,x,la,lb,T⟩
   ·rwa[wpS_pure ⟨_,_,_,_,_,v,rfl,pm⟩]
   ·erw[rJ ?_];erw[xE (I:=λ_ c l=>L2.E6 λg d f mg' ac' bc'=>L2.A6 (we st l) (c=(JN,g,d,f,mg',ac',bc')) (uW r a b g d f) (d+1<a.size) (f<b.size) (i+2<=d+f)) (Q:=λc l=>L2.E7 λR g d f mg' ac' bc'=>L2.A3 (we st l) (c=(R,g,d,f,mg',ac',bc')) ((∃ z,R=O z/\eI r a b z)\/(R=JN/\uW r a b g d f/\d+1<a.size/\f<b.size/\i+2<=d+f))) ?_ ?_ ⟨_,_,_,_,_,_,v,rfl,x,la,lb,T⟩ ?_]
    ·rintro j c Z _ hj ⟨out,p,n,mg,J,G,B,rfl,x,la,lb,T⟩;dsimp only;revert mg;apply lJ (prog:=prog) (w:=w) (A:=A) (E:=E) (s:=s) (P:=λ_ l=>we st l)
     case use =>
      intro H mg;erw[yP (λe=>?_) (λe=>?_)];rotate_left
      ·rwa[H mg _ B]
      ·rwa[H _ _ B]
     clear B Z;intro mg st4 y;erw[sW ?_];erw[yD lb ?_];erw[kX ha ?g0 ?g1 ?g2 ?g5 ?g3 (λk1 hk1 f1 f2=>?_)]
     case g0=>rwa[y.1.trans hk]
     case g1=>rwa[bm _ lb]
     case g2=>exact(λi hi=>⟨by lia,am _ (by lia)⟩)
     case g3=>lia
     case g5=>rwa[λi j h1 h2 h3=>sa i j (m7 _) h2 (by lia)]
     dsimp only;revert out p;apply xq (prog:=prog) (w:=w) (A:=A) (E:=E) (s:=s) (P:=λg d=>uW r a b g d n/\d+1<a.size/\rk r b n<=rk r a d/\i+2<=d+n)
     case use =>
      intro H out p x la T hk1 f1 f2;erw[yP (λe=>?_) (λe=>?_)];rotate_left
      ·rwa[H out p ⟨x,la,Ai (f2 _ (by lia) (by lia)),T⟩]
      ·have o:=x.as sb (k:=k1) (by lia) f1;erw[xH (λN=>?_) (λN=>?_)]
       ·rwa[wpS_pure ⟨_,_,_,_,_,_,_,y.trans ⟨rfl,rfl,rfl,rfl⟩,rfl,.inl ⟨_,rfl,o.last N p2 sa⟩⟩]
       erw[xH (λe3=>?_) (λe3=>?_)]
       ·rwa[wpS_pure ⟨_,_,_,_,_,_,_,y.trans ⟨rfl,rfl,rfl,rfl⟩,rfl,.inl ⟨_,rfl,o.done (.inl e3)⟩⟩]
       rwa[H _ _ ⟨o,by lia,Ai (f2 _ (by lia) (by lia)),by lia⟩]
     rintro out d ⟨x,la,o5,q5⟩;erw[yD lb ?_];have L:=x.b sa lb λ_=>o5;erw[xH (λe=>?_) (λe=>?_)]
     ·rwa[wpS_pure ⟨_,_,_,_,_,_,_,y.trans ⟨rfl,rfl,rfl,rfl⟩,rfl,.inl ⟨_,rfl,L.done (.inr e)⟩⟩]
     have q:d<a.size:=by lia
     erw[yD q ?_];erw[kM ha ?g0 ?g1 ?g2 ?g5 ?g3 (λk2 hk2 f3 f4=>?_)]
     case g0=>rwa[y.1.trans hk]
     case g1=>rwa[am _ q]
     case g2=>exact(λi hi=>⟨by lia,bm _ (by lia)⟩)
     case g3=>lia
     case g5=>rwa[λi j h1 h2 h3=>sb i j (m7 _) h2 (by lia)]
     dsimp only;generalize out.push b[n]=M at L ⊢;clear x o5;have lb6:n+1<b.size:=by lia
     have q6:i+3<=d+(n+1):=by lia
     clear lb e q5;generalize n+1=ib2 at *;revert M ib2;apply xq (prog:=prog) (w:=w) (A:=A) (E:=E) (s:=s) (P:=λg f=>uW r a b g d f/\f<b.size/\rk r a d<=rk r b f/\i+3<=d+f)
     case use =>
      intro H;rintro M ib2
      intros
      rename_i hk2 f3 f4 L lb6 q6
      erw[yP (λe=>?_) (λe=>?_)];rotate_left
      ·rwa[H M ib2 ⟨L,lb6,f4 _ (by lia) (by lia),q6⟩]
      ·have o:=L.bs sa (k:=k2) (by lia) (λj h1 h2=>Ai (f3 j h1 h2));erw[xH (λN=>?_) (λN=>?_)]
       ·rwa[wpS_pure ⟨_,_,_,_,_,_,_,y.trans ⟨rfl,rfl,rfl,rfl⟩,rfl,.inl ⟨_,rfl,o.done (.inr N)⟩⟩]
       rwa[H _ _ ⟨o,by lia,f4 _ (by lia) (by lia),by lia⟩]
     rintro out f ⟨x,lb7,o7,q7⟩;erw[yD q ?_];have Y:=x.a sb q λ_=>o7;erw[xH (λe=>?_) (λe=>?_)]
     ·rwa[wpS_pure ⟨_,_,_,_,_,_,_,y.trans ⟨rfl,rfl,rfl,rfl⟩,rfl,.inl ⟨_,rfl,Y.last e p2 sa⟩⟩]
     erw[yP (λe=>?_) (λe=>?_)]
     ·rwa[wpS_pure ⟨_,_,_,_,_,_,_,y.trans ⟨rfl,rfl,rfl,rfl⟩,rfl,.inr ⟨rfl,Y,by lia,lb7,by lia⟩⟩]
     ·rwa[wpS_pure ⟨_,_,_,_,_,_,y.trans ⟨rfl,rfl,rfl,rfl⟩,rfl,Y,by lia,lb7,by lia⟩]
    ·rintro c Z ⟨out,p,n,mg,J,G,B,rfl,x,la,lb,T⟩;rwa[_,_,_,_,_,_,_,B,rfl,.inr ⟨rfl,x,la,lb,T⟩]
    ·rintro c Z ⟨R,out,p,n,mg,J,G,B,rfl,hr⟩;rcases hr with ⟨z,rfl,pm⟩ | ⟨rfl,x,la,lb,T⟩
     ·rwa[wpS_pure ⟨_,_,_,_,_,B,rfl,pm⟩]
     ·erw[sW ?_];rwa[wpS_pure ⟨_,_,_,_,B.trans ⟨rfl,rfl,rfl,rfl⟩,rfl,x,la,lb,by lia⟩]
 ·rintro c l ⟨out,p,n,mg,_,rfl,_,h1,h2,h3⟩;exfalso;have:a.size+b.size<=max 0 (a.size+b.size):=Ef _ _;lia
 ·rintro c l ⟨z,out,p,n,mg,kp,rfl,pm⟩;rwa[wpS_pure (h _ _ kp pm)]
end
section
variable{prog:m9}{w:r9}{A:Ac}{E:c6->d7->Prop}{s:d7}{st:t6}{κ:Bt}{ys:List v8}{r:v8->Int}
def jb(ha:zz prog w A s κ ys r)(hk:kindOf st=κ){a b:Array v8}(hae:∀ u∈a.toList,u∈ys)(hbe:∀ u∈b.toList,u∈ys)(ha0:0<a.size)(hb0:0<b.size)(sa:Asc r a 0 a.size)(D:Asc r b 0 b.size)(p1:rk r b 0<=rk r a 0)(p2:∀ j,j<b.size->rk r b j<=rk r a (a.size-1)){Q:Array v8->t6->Prop}
  (h:∀ out l,we st l->eI r a b out->Q out l):wpS (model prog w) A E s (YH a b) Q st:=by
 have am:∀ i,(hi:i<a.size)->a[i]∈ys:=λi hi=>hae _ (by rw[<- AQ]; exact Ag _);have bm:∀ i,(hi:i<b.size)->b[i]∈ys:=λi hi=>hbe _ (by rw[<- AQ]; exact Ag _);refine rJ ?_;refine yD (show a.size-1<a.size by lia) ?_;have t0:uG r a b #[a[a.size-1]'(by lia)] (a.size-1) b.size:=by
  have t2:uG r a b #[] a.size b.size:=by
   have e:∀ z:Array v8,(z.toList.take z.size).reverse=z.toList.reverse:=λz=>by rw[Ao (show z.toList.length<=z.size from e8 _)]
   erw[?_,e8 _,e8 _];rw[e a,e b];rwa[(Fy _).append (Fy _),D5.mpr (wv.mpr sa),D5.mpr (wv.mpr D)]
  rwa[t2.a D ha0 λ_=>p2 _ (by lia)]
 erw[xH (λe=>?_) (λe1=>?_)]
 ·rwa[wpS_pure (h _ _ (we.refl _) (t0.done (.inl e)))]
 erw[xH (λe=>?_) (λG=>?_)]
 ·rwa[wpS_pure (h _ _ (we.refl _) (t0.first e p1 sa D))]
 refine tD ?_;refine xE (I:=λi c l=>L2.E4 λout m nb mg=>L2.A6 (we st l) (c=(JN,m,nb,out,mg)) (uG r a b out m nb) (0<m) (1<nb) (i+1+m+nb<=a.size+b.size))
  (Q:=λc l=>L2.E5 λz out m nb mg=>L2.A3 (we st l) (c=(O z,m,nb,out,mg)) (eI r a b z)) ?_ ?_ ⟨_,_,_,_,we.refl _,rfl,t0,by lia,by lia,by lia⟩ ?_
 ·rintro i c st1 _ hi ⟨out,m,nb,mg,kp,rfl,o,la,lb,N⟩;refine xE (I:=λj c l=>L2.E5 λg f d C B=>L2.A6 (we st l) (c=(JN,f,d,g,C,B)) (uG r a b g f d) (0<f) (1<d) (i+1+j+f+d<=a.size+b.size))
   (Q:=λc l=>L2.E6 λJ g f d C B=>L2.A3 (we st l) (c=(J,f,d,g,C,B)) ((∃ z,J=O z/\eI r a b z)\/(J=JN/\uG r a b g f d/\0<f/\1<d/\i+2+f+d<=a.size+b.size))) ?_ ?_ ⟨_,_,_,_,_,kp,rfl,o,la,lb,by lia⟩ ?_
  ·rintro j c st2 _ hj ⟨out,m,nb,C,B,p,rfl,o,la,lb,N⟩;have l1:=o.la;have l2:=o.lb;have R:m-1<a.size:=by lia
   have L:nb-1<b.size:=by lia
   erw[yD L (yD R (fv ha (p.1.trans hk) (bm _ L) (am _ R) ?_))];rw[<- sY (r:=r) L,<- sY (r:=r) R];by_cases M:rk r b (nb-1)<rk r a (m-1)
   ·rw[y7 M];erw[yD R ?_];have n:=o.a D la λ_=>Ai M;erw[xH (λe=>?_) (λe=>?_)]
    ·rwa[wpS_pure ⟨_,_,_,_,_,_,p,rfl,.inl ⟨_,rfl,n.done (.inl e)⟩⟩]
    ·dsimp only at e;erw[yP (λG=>?_) (λG=>?_)]
     ·rwa[wpS_pure ⟨JN,_,m-1,nb,C+1,0,p,rfl,.inr ⟨rfl,n,by lia,lb,by lia⟩⟩]
     ·rwa[wpS_pure ⟨_,m-1,nb,C+1,0,p,rfl,n,by lia,lb,by lia⟩]
   ·rw[y8 M];erw[yD L ?_];have n:=o.b sa (show 0<nb by lia) λ_=>Ee.mp M;erw[xH (λe=>?_) (λe=>?_)]
    ·rwa[wpS_pure ⟨_,_,_,_,_,_,p,rfl,.inl ⟨_,rfl,n.first e p1 sa D⟩⟩]
    ·dsimp only at e;erw[yP (λG=>?_) (λG=>?_)]
     ·rwa[wpS_pure ⟨JN,_,m,nb-1,0,B+1,p,rfl,.inr ⟨rfl,n,la,by lia,by lia⟩⟩]
     ·rwa[wpS_pure ⟨_,m,nb-1,0,B+1,p,rfl,n,la,by lia,by lia⟩]
  ·rintro c st2 ⟨out,m,nb,C,B,_,rfl,o,h1,h2,h3⟩;exfalso;have:a.size+b.size<=max 0 (a.size+b.size):=Ef _ _;lia
  ·rintro c st2 ⟨J,out,m,nb,C,B,p,rfl,hr⟩;rcases hr with ⟨z,rfl,pm⟩ | ⟨rfl,o,la,lb,N⟩
   ·rwa[wpS_pure ⟨_,_,_,_,_,p,rfl,pm⟩]
   ·erw[rJ ?_];erw[xE (I:=λ_ c l=>L2.E6 λg f d Y ac' bc'=>L2.A6 (we st l) (c=(JN,f,d,g,Y,ac',bc')) (uG r a b g f d) (0<f) (1<d) (i+2+f+d<=a.size+b.size)) (Q:=λc l=>L2.E7 λJ g f d Y ac' bc'=>L2.A3 (we st l) (c=(J,f,d,g,Y,ac',bc')) ((∃ z,J=O z/\eI r a b z)\/(J=JN/\uG r a b g f d/\0<f/\1<d/\i+2+f+d<=a.size+b.size))) ?_ ?_ ⟨_,_,_,_,_,_,p,rfl,o,la,lb,N⟩ ?_]
    ·rintro j c T _ hj ⟨out,m,nb,mg,C,B,v,rfl,o,la,lb,N⟩;dsimp only;revert mg;apply lJ (prog:=prog) (w:=w) (A:=A) (E:=E) (s:=s) (P:=λ_ l=>we st l)
     case use =>
      intro H mg;erw[yP (λe=>?_) (λe=>?_)];rotate_left
      ·rwa[H mg _ v]
      ·rwa[H _ _ v]
     clear v T;intro mg st4 q;have l2:=o.lb;have L:nb-1<b.size:=by lia
     erw[sW ?_];erw[yD L ?_];have l1:=o.la;erw[kX ha ?g0 ?g1 ?g2 ?g5 ?g3 (λk1 hk1 f1 f2=>?_)]
     case g0=>rwa[q.1.trans hk]
     case g1=>rwa[bm _ L]
     case g2=>exact(λi hi=>⟨by lia,am _ (by lia)⟩)
     case g3=>lia
     case g5=>rwa[λi j h1 h2 h3=>sa i j (m7 _) h2 (by lia)]
     dsimp only;have f1:∀ j,j<k1->rk r a j<=rk r b (nb-1):=λj h=>f1 j (m7 _) (by lia);have f2:∀ j,k1<=j->j<m->rk r b (nb-1)<rk r a j:=λj h h2=>f2 j (by lia) (by lia);generalize hac:m-k1=acn;revert out m;apply xq (prog:=prog) (w:=w) (A:=A) (E:=E) (s:=s) (P:=λg f=>uG r a b g f nb/\0<f/\rk r a (f-1)<=rk r b (nb-1)/\i+2+f+nb<=a.size+b.size)
     case use =>
      intro H out m
      intros
      rename_i o la N l1 hk1 _ f2 hac
      erw[yP (λe=>?_) (λe=>?_)];rotate_left
      ·rwa[H out m ⟨o,la,f1 _ (by lia),N⟩]
      ·have n:=o.as D (k:=k1) (by lia) (λj h1 h2=>Ai (f2 j h1 h2));erw[xH (λG=>?_) (λG=>?_)]
       ·rwa[wpS_pure ⟨_,_,_,_,_,_,_,q.trans ⟨rfl,rfl,rfl,rfl⟩,rfl,.inl ⟨_,rfl,n.done (.inl G)⟩⟩]
       rwa[H _ _ ⟨n,by lia,f1 _ (by lia),by lia⟩]
     clear f1;rintro out m ⟨o,la,o5,q5⟩;erw[yD L ?_];have x:=o.b sa (show 0<nb by lia) λ_=>o5;erw[xH (λe=>?_) (λe=>?_)]
     ·rwa[wpS_pure ⟨_,_,_,_,_,_,_,q.trans ⟨rfl,rfl,rfl,rfl⟩,rfl,.inl ⟨_,rfl,x.first e p1 sa D⟩⟩]
     have l1:=o.la;have R:m-1<a.size:=by lia
     erw[yD R ?_];erw[kM ha ?g0 ?g1 ?g2 ?g5 ?g3 (λk2 Z f3 f4=>?_)]
     case g0=>rwa[q.1.trans hk]
     case g1=>rwa[am _ R]
     case g2=>exact(λi hi=>⟨by lia,bm _ (by lia)⟩)
     case g3=>lia
     case g5=>rwa[λi j h1 h2 h3=>D i j (m7 _) h2 (by lia)]
     dsimp only;generalize out.push b[nb-1]=y at x ⊢;clear o o5;have lb6:1<nb-1:=by lia
     have q6:i+3+m+(nb-1)<=a.size+b.size:=by lia
     have f3:∀ j,j<k2->rk r b j<rk r a (m-1):=λj h=>f3 j (m7 _) (by lia);have f4:∀ j,k2<=j->j<nb-1->rk r a (m-1)<=rk r b j:=λj h h2=>f4 j (by lia) (by lia);have Z:k2<=nb-1:=Z;have l6:=x.lb;generalize hbc:nb-1-k2=bcn;clear lb e q5;clear L;generalize nb-1=X at *;revert y X;apply xq (prog:=prog) (w:=w) (A:=A) (E:=E) (s:=s) (P:=λg d=>uG r a b g m d/\1<d/\rk r b (d-1)<=rk r a (m-1)/\i+3+m+d<=a.size+b.size)
     case use =>
      intro H;rintro y X
      intros
      rename_i _ _ hk2' _ x lb6 q6 f4 Z l6 hbc
      erw[yP (λe=>?_) (λe=>?_)];rotate_left
      ·rwa[H y X ⟨x,lb6,Ai (f3 _ (by lia)),q6⟩]
      ·have n:=x.bs sa (k:=k2) (by lia) f4;erw[xH (λG=>?_) (λG=>?_)]
       ·rwa[wpS_pure ⟨_,_,_,_,_,_,_,q.trans ⟨rfl,rfl,rfl,rfl⟩,rfl,.inl ⟨_,rfl,n.first G p1 sa D⟩⟩]
       erw[xH (λe3=>?_) (λe3=>?_)]
       ·rwa[wpS_pure ⟨_,_,_,_,_,_,_,q.trans ⟨rfl,rfl,rfl,rfl⟩,rfl,.inl ⟨_,rfl,n.done (.inr e3)⟩⟩]
       rwa[H _ _ ⟨n,by lia,Ai (f3 _ (by lia)),by lia⟩]
     rintro out d ⟨o,lb7,o7,q7⟩;erw[yD R ?_];have S:=o.a D la λ_=>o7;erw[xH (λe=>?_) (λe=>?_)]
     ·rwa[wpS_pure ⟨_,_,_,_,_,_,_,q.trans ⟨rfl,rfl,rfl,rfl⟩,rfl,.inl ⟨_,rfl,S.done (.inl e)⟩⟩]
     erw[yP (λe=>?_) (λe=>?_)]
     ·rwa[wpS_pure ⟨_,_,_,_,_,_,_,q.trans ⟨rfl,rfl,rfl,rfl⟩,rfl,.inr ⟨rfl,S,by lia,lb7,by lia⟩⟩]
     ·rwa[wpS_pure ⟨_,_,_,_,_,_,q.trans ⟨rfl,rfl,rfl,rfl⟩,rfl,S,by lia,lb7,by lia⟩]
    ·rintro c T ⟨out,m,nb,mg,C,B,v,rfl,o,la,lb,N⟩;rwa[_,_,_,_,_,_,_,v,rfl,.inr ⟨rfl,o,la,lb,N⟩]
    ·rintro c T ⟨J,out,m,nb,mg,C,B,v,rfl,hr⟩;rcases hr with ⟨z,rfl,pm⟩ | ⟨rfl,o,la,lb,N⟩
     ·rwa[wpS_pure ⟨_,_,_,_,_,v,rfl,pm⟩]
     ·erw[sW ?_];rwa[wpS_pure ⟨_,_,_,_,v.trans ⟨rfl,rfl,rfl,rfl⟩,rfl,o,la,lb,by lia⟩]
 ·rintro c l ⟨out,m,nb,mg,_,rfl,o,h1,h2,h3⟩;exfalso;have:a.size+b.size<=max 0 (a.size+b.size):=Ef _ _;lia
 ·rintro c l ⟨z,out,m,nb,mg,kp,rfl,pm⟩;rwa[wpS_pure (h _ _ kp pm)]
end
end PyProof.Rows

namespace PyProof.Rows
section
variable{r:v8->Int}{xs:Array v8}{lo hi:Nat}
def Asc.snoc(h:Asc r xs lo hi)(d:lo<hi)(o:rk r xs (hi-1)<=rk r xs hi):Asc r xs lo (hi+1):=by
 intro i j h1 h2 h3;by_cases c:j<hi
 ·rwa[h i j h1 h2 c]
 ·have e:j=hi:=by lia
  subst e;by_cases c2:i=j
  ·subst c2;rwa[Dg _]
  ·rwa[BC (h i (j-1) h1 (by lia) (by lia)) o]
def Asc.one:Asc r xs lo (lo+1):=λi j h1 h2 h3=>by
 rw[show i=j by lia];rwa[Dg _]
def Asc.congr{c:Array v8}(h:Asc r xs lo hi)(e:∀ j,lo<=j->j<hi->c[j]?=xs[j]?):Asc r c lo hi:=λi j h1 h2 h3=>by
 rw[qN (e i h1 (by lia)),qN (e j (by lia) h3)];rwa[h i j h1 h2 h3]
def Asc.sub{lo' hi':Nat}(h:Asc r xs lo hi)(h1:lo<=lo')(h2:hi'<=hi):Asc r xs lo' hi':=λi j e d c=>h i j (f9 h1 e) d (j5 c h2)
def nY(c:hi<=xs.size):Asc r xs lo hi↔(xs.extract lo hi).toList.Pairwise (λu v=>r u<=r v):=by
 rw[wv];have e:(xs.extract lo hi).size=hi-lo:=by rw[Cj,CY c]
 rw[e];erw[λh i j _ h2 h3=>?_,λh i j h1 h2 h3=>?_]
 ·rw[qp i c (by lia),qp j c h3];rwa[h _ _ (Bx _ _) (by lia) (by lia)]
 ·have z:=h (i-lo) (j-lo) (m7 _) (by lia) (by lia);(rw[qp _ c (by lia),qp _ c (by lia),show lo+(i-lo)=i by lia,show lo+(j-lo)=j by lia] at z;assumption)
def ZS{d out:Array v8}{p q j:Nat}(put:d.toList=xs.toList.take p++out.toList++xs.toList.drop q)(h:out.toList.length+p=q)(g:q<=xs.size)(f:j<p\/q<=j):d[j]?=xs[j]?:=by
 have lt:(xs.toList.take p).length=p:=by rw[i7,g8]; lia
 rw[<- Ax,put];rcases f with c | c
 ·rw[AX,At (by lia),DA c,Ax]
 ·have e:(xs.toList.take p++out.toList).length=q:=by rw[f8,lt]; lia
  rw[v9 (by lia),e,E1,Ax,Nat.add_sub_cancel' c]
def Vx{g out:Array v8}{p q a b:Nat}{c d:Int}(put:g.toList=xs.toList.take p++out.toList++xs.toList.drop q)(B:out.toList.length+p=q)(L:a<=p)(C:b<=xs.size)(J:q<=b)(I:Asc r xs a p)(H:Asc r out 0 out.size)(G:Asc r xs q b)
  (w:∀ j,a<=j->j<p->rk r xs j<=c) (s:∀ v∈out.toList,c<=r v/\r v<=d) (E:∀ j,q<=j->j<b->c<=rk r xs j) (D:∀ j,q<=j->j<b->d<=rk r xs j):Asc r g a b:=by
 have lt:(xs.toList.take p).length=p:=by rw[i7,g8]; lia
 have sz:g.size=xs.size:=by
  have z:=congrArg Aq put;rw[f8,f8,lt,x5,g8,g8,g8] at z;rw[g8] at B;lia
 have e:(g.extract a b).toList=(xs.extract a p).toList++out.toList++(xs.extract q b).toList:=by
  rw[Be,Be,Be,AC,AC,AC,put,AX,List.drop_append_of_le_length (by lia),List.drop_take,HM,HM,i7,x5,g8,List.take_take];rw[AX,show min (b-a) (p-a)=p-a by lia,show b-a-min (p-a) (xs.size-a)-out.toList.length=b-q by lia,Ao (l:=out.toList) (by lia)]
 rw[nY (by lia),e];erw[BV.mpr ⟨BV.mpr ⟨(nY (by lia)).mp I,wv.mpr H,λu f v o=>?_⟩,(nY C).mp G,λu f v o=>?_⟩]
 ·obtain⟨j,m,h,_,n⟩:=wj (r:=r) f;rw[<- n];rwa[BC (w j m h) (s v o).1]
 ·obtain⟨j,m,h,_,n⟩:=wj (r:=r) o;rw[<- n];rcases l7.mp f with f | f
  ·obtain⟨i,A,y,_,x⟩:=wj (r:=r) f;rw[<- x];rwa[BC (w i A y) (E j m h)]
  ·rwa[BC (s u f).2 (D j m h)]
def Dsc(r:v8->Int)(xs:Array v8)(lo hi:Nat):Prop:=∀ i j,lo<=i->i<=j->j<hi->rk r xs j<=rk r xs i
def Dsc.snoc(h:Dsc r xs lo hi)(d:lo<hi)(o:rk r xs hi<=rk r xs (hi-1)):Dsc r xs lo (hi+1):=by
 intro i j h1 h2 h3;by_cases c:j<hi
 ·rwa[h i j h1 h2 c]
 ·have e:j=hi:=by lia
  subst e;by_cases c2:i=j
  ·subst c2;rwa[Dg _]
  ·rwa[BC o (h i (j-1) h1 (by lia) (by lia))]
def Dsc.ranks{c:Array v8}(h:Dsc r xs lo hi)(e:∀ j,rk r c j=rk r xs j):Dsc r c lo hi:=λi j h1 h2 h3=>by
 rw[e i,e j];rwa[h i j h1 h2 h3]
def nX{i j:Nat}(c:j<=xs.size)(k:Nat):rk r (mirror xs i j ((j-i)/2)) k=if i<=k/\k<j then rk r xs (i+j-1-k) else rk r xs k:=by
 have e:=getElem?_mirror_all (i:=i) c k;by_cases h1:i<=k/\k<j
 ·rw[y6 h1] at e ⊢; rwa[qN e]
 ·rw[y4 h1] at e ⊢; rwa[qN e]
def tP{i j:Nat}(d:j<=xs.size)(c:∀ k,i<=k->k<j->rk r xs k=rk r xs (j-1))(k:Nat):rk r (mirror xs i j ((j-i)/2)) k=rk r xs k:=by
 rw[nX d];split
 ·rw[c _ (by lia) (by lia),c k (by lia) (by lia)]
 ·rfl
def Dsc.turn(h:Dsc r xs lo hi)(c:hi<=xs.size):Asc r (mirror xs lo hi ((hi-lo)/2)) lo hi:=λi j h1 h2 h3=>by
 rw[nX c,nX c,y6 ⟨h1,by lia⟩,y6 ⟨by lia,h3⟩];rwa[h _ _ (by lia) (by lia) (by lia)]
def iU{src d:Nat}(c:src<xs.size)(hd:d<=src)(k:Nat):rk r (bubble xs src d) k=if k=src-d then rk r xs src else if src-d<k/\k<=src then rk r xs (k-1) else rk r xs k:=by
 have e:=getElem?_bubble c d hd k;by_cases h1:k=src-d
 ·rw[y6 h1] at e ⊢; rwa[qN e]
 ·rw[y4 h1] at e ⊢;by_cases h2:src-d<k/\k<=src
  ·rw[y6 h2] at e ⊢; rwa[qN e]
  ·rw[y4 h2] at e ⊢; rwa[qN e]
def Wd(h:∀ i,lo<=i->i+1<hi->rk r xs i<=rk r xs (i+1)):Asc r xs lo hi:=λi j h1 h2 h3=>by
 obtain⟨d,rfl⟩:=Nat.le.dest h2
 induction d with
 | zero=>rwa[Dg _]
 | succ d c=>rwa[BC (c (Bx _ _) (Nat.lt_of_succ_lt h3)) (h (i+d) (f9 h1 (Bx _ _)) h3)]
def cy{k l:Nat}(as:Asc r xs lo (lo+k))(d:lo+k<xs.size)(n:l<=k)(h:0<l->rk r xs (lo+(l-1))<=rk r xs (lo+k))(g:l<k->rk r xs (lo+k)<=rk r xs (lo+l)):Asc r (bubble xs (lo+k) (lo+k-(lo+l))) lo (lo+(k+1)):=Wd λi f m=>by
 have e:lo+k-(lo+k-(lo+l))=lo+l:=by lia
 rw[iU d (Nat.sub_le _ _),iU d (Nat.sub_le _ _),e];clear e;by_cases o:i+1<lo+l
 ·rw[y4 (by lia),y4 (by lia),y4 (by lia),y4 (by lia)];rwa[as _ _ f (Bb _) (by lia)]
 by_cases j:i+1=lo+l
 ·rw[y4 (by lia),y4 (by lia),y6 j];have z:=h (by lia);(rw[show lo+(l-1)=i by lia] at z;assumption)
 by_cases c:i=lo+l
 ·rw[y6 c,y4 (by lia),y6 ⟨by lia,by lia⟩,c];rwa[g (by lia)]
 ·rw[y4 c,y6 ⟨by lia,by lia⟩,y4 (by lia),y6 ⟨by lia,by lia⟩];rwa[as _ _ (by lia) (by lia) (by lia)]
end
section
variable{prog:m9}{w:r9}{A:Ac}{E:c6->d7->Prop}{s:d7}{st st':t6}{κ:Bt}{ys:List v8}{r:v8->Int}
def aw(f:zz prog w A s κ ys r)(e:xW κ ys st){i j:Nat}(hi:i<ys.length)(g:j<ys.length){Q:Option Bool->t6->Prop}(h:Q (O (decide (rk r (arrOf st) i<rk r (arrOf st) j))) st):wpS (model prog w) A E s (ltAt' i j) Q st:=by
 rw[ltAt'_eq];have z:=e.size;have d:i<(arrOf st).size:=by lia
 have c:j<(arrOf st).size:=by lia
 erw[tD ?_];erw[yD d ?_];erw[yD c ?_];rw[sY d,sY c] at h;rwa[fu f e.kind (e.mem _) (e.mem _) h]
def rG{c:Type}(e:zz prog w A s κ ys r)(g:xW κ ys st){i j:Nat}(hi:i<ys.length)(d:j<ys.length){f:Option Bool->StateT t6 EH c}{Q:c->t6->Prop}(h:wpS (model prog w) A E s (f (O (decide (rk r (arrOf st) i<rk r (arrOf st) j)))) Q st):wpS (model prog w) A E s (ltAt' i j >>= f) Q st:=wpS_bind (aw e g hi d h)
structure ue(κ:Bt)(ys:List v8)(lo:Nat)(st st':t6):Prop where
 base:xW κ ys st'
 pend:pendingOf st'=pendingOf st
 fix:∀ j,j<lo->(arrOf st')[j]?=(arrOf st)[j]?
def ue.rev{lo:Nat}(h:ue κ ys lo st st'){i j:Nat}(hi:lo<=i)(d:j<=ys.length):ue κ ys lo st (setArr st' (mirror (arrOf st') i j ((j-i)/2))):=by
 erw[h.base.set (mirror_perm _ _ _ _),h.pend,λk c=>?_];show(mirror (arrOf st') i j ((j-i)/2))[k]?=_;rw[getElem?_mirror_all (by rw[h.base.size]; rwa[d]),y4 (by lia)];rwa[h.fix k c]
def lZ(J:zz prog w A s κ ys r)(R:xW κ ys st){lo d:Nat}(h1:1<=d)(hn:lo+d<=ys.length){Q:Option Nat->t6->Prop}
  (h:∀ m st',ue κ ys lo st st'->1<=m->m<=d->Asc r (arrOf st') lo (lo+m)->Q (O m) st'):wpS (model prog w) A E s (countRun' lo d) Q st:=by
 rw[countRun'_eq];erw[xE (I:=λx c st'=>st'=st/\c=(JN,x)/\Asc r (arrOf st) lo (lo+x)) (Q:=λc st'=>∃ n,L2.A6 (st'=st) (c=(JN,n)) (1<=n) (n<=d) (Asc r (arrOf st) lo (lo+n)) (n<d->rk r (arrOf st) (lo+n)<rk r (arrOf st) (lo+n-1))) ?_ ?_ ⟨rfl,rfl,Asc.one⟩ ?_]
 ·rintro x c st' B D ⟨rfl,rfl,as⟩;erw[rG J R (by dsimp only; lia) (by dsimp only; lia) ?_];by_cases c:rk r (arrOf st') (lo+x)<rk r (arrOf st') (lo+x-1)
  ·rw[y7 c];rwa[wpS_pure ⟨x,rfl,rfl,B,by lia,as,λ_=>c⟩]
  ·rw[y8 c];rwa[wpS_pure ⟨rfl,rfl,as.snoc (by lia) (Ee.mp c)⟩]
 ·rintro c st' ⟨rfl,rfl,as⟩;have e:max 1 d=d:=by lia
  rw[e] at as ⊢;rwa[_,rfl,rfl,by lia,by lia,as,λz=>y9 z (by lia)]
 rintro c f ⟨n,rfl,rfl,n1,n2,as,l⟩;dsimp only;have N:ue κ ys lo f f:=⟨R,rfl,λ_ _=>rfl⟩;have z1:=R.size;erw[xH (λe=>wpS_pure (h _ _ N n1 n2 as)) (λe1=>?_)];have l:=l (by lia);apply mi (prog:=prog) (w:=w) (A:=A) (E:=E) (s:=s) (P:=λy=>ue κ ys lo f y/\Dsc r (arrOf y) lo (lo+(n+1))) (Q:=Q)
 case use =>
  intro H;erw[yP (λY=>?_) (λY=>?_)]
  ·erw[rG J R (by lia) (by lia) ?_];by_cases c:rk r (arrOf f) lo<rk r (arrOf f) (lo+n-1)
   ·rw[y7 c];rwa[wpS_pure (h _ _ N n1 n2 as)]
   ·rw[y8 c];have eq:∀ k,lo<=k->k<lo+n->rk r (arrOf f) k=rk r (arrOf f) (lo+n-1):=λk k1 k2=>by
     have y1:=as lo k (e8 _) k1 k2;have y2:=as k (lo+n-1) k1 (by lia) (by lia);lia
    have v:=tP (r:=r) (xs:=arrOf f) (i:=lo) (j:=lo+n) (by lia) eq;have p:Dsc r (arrOf f) lo (lo+n):=λi j i1 i2 i3=>by
     rw[eq i i1 (by lia),eq j (by lia) i3];rwa[Dg _]
    erw[wpS_bind (wpS_reverse (H _ ⟨N.rev (e8 _) (by lia),?_⟩))];rwa[Dsc.ranks (p.snoc (by lia) (Ai l)) v]
  ·have e:n=1:=by lia
   subst e;refine H _ ⟨N,?_⟩;have p:Dsc r (arrOf f) lo (lo+1):=λi j i1 i2 i3=>by
    rw[show i=j by lia];rwa[Dg _]
   rwa[p.snoc (by lia) (Ai l)]
 intro y ⟨S,p⟩;erw[rJ ?_];refine xE (I:=λx c st'=>∃ q,L2.A5 (ue κ ys lo f st') (c=(JN,x,q)) (Dsc r (arrOf st') lo (lo+x)) (q+1<=x) (∀ j,lo+x-(q+1)<=j->j<lo+x->rk r (arrOf st') j=rk r (arrOf st') (lo+x-1))) (Q:=λc st'=>L2.E2 λm q=>L2.A7 (ue κ ys lo f st') (c=(JN,m,q)) (1<=m) (m<=d) (Dsc r (arrOf st') lo (lo+m)) (q+1<=m) (∀ j,lo+m-(q+1)<=j->j<lo+m->rk r (arrOf st') j=rk r (arrOf st') (lo+m-1))) ?_ ?_ ⟨_,S,rfl,p,by lia,λj X T=>by rw[show j=lo+(n+1)-1 by lia]⟩ ?_
 ·rintro x c g B D ⟨q,o,rfl,p,G,eq⟩;have z3:=o.base.size;dsimp only;erw[rG J o.base (by lia) (by lia) ?_];by_cases c:rk r (arrOf g) (lo+x)<rk r (arrOf g) (lo+x-1)
  ·rw[y7 c];erw[yP (λ_=>?_) (λe=>y9 rfl e)];have M:=p.snoc (by lia) (Ai c);erw[yP (λe=>?_) (λe=>?_)]
   ·have v:=tP (r:=r) (xs:=arrOf g) (i:=lo+x-(q+1)) (j:=lo+x) (by lia) eq;exact wpS_bind (wpS_reverse (wpS_pure ⟨_,o.rev (by lia) (by lia),rfl,Dsc.ranks M v,by lia,λj X T=>by rw[show j=lo+(x+1)-1 by lia]⟩))
   ·exact wpS_pure ⟨_,o,rfl,M,by lia,λj X T=>by rw[show j=lo+(x+1)-1 by lia]⟩
  ·rw[y8 c];erw[rG J o.base (by lia) (by lia) ?_];by_cases c2:rk r (arrOf g) (lo+x-1)<rk r (arrOf g) (lo+x)
   ·rw[y7 c2];rwa[wpS_pure ⟨_,_,o,rfl,by lia,by lia,p,G,eq⟩]
   ·rw[y8 c2];have e0:rk r (arrOf g) (lo+x)=rk r (arrOf g) (lo+x-1):=by lia
    erw[wpS_pure ⟨_,o,rfl,p.snoc (by lia) (by lia),by lia,λj X T=>?_⟩];rw[show lo+(x+1)-1=lo+x by lia,e0];by_cases cj:j=lo+x
    ·rw[cj,e0]
    ·rwa[eq j (by lia) (by lia)]
 ·rintro c g ⟨q,o,rfl,p,G,eq⟩;have e:max (n+1) d=d:=by lia
  rw[e] at p G eq ⊢;rwa[_,_,o,rfl,by lia,by lia,p,G,eq]
 rintro c g ⟨m,q,o,rfl,m1,m2,L,G,eq⟩;have z3:=o.base.size;dsimp only;apply mi (prog:=prog) (w:=w) (A:=A) (E:=E) (s:=s) (P:=λu=>ue κ ys lo f u/\Dsc r (arrOf u) lo (lo+m)) (Q:=Q)
 case use =>
  intro H;erw[yP (λY=>?_) (λY=>?_)]
  ·have v:=tP (r:=r) (xs:=arrOf g) (i:=lo+m-(q+1)) (j:=lo+m) (by lia) eq;rwa[wpS_bind (wpS_reverse (H _ ⟨o.rev (by lia) (by lia),Dsc.ranks L v⟩))]
  ·rwa[H _ ⟨o,L⟩]
 intro u ⟨S4,ds4⟩;have z4:=S4.base.size;erw[wpS_bind (wpS_reverse ?_)];have S5:=S4.rev (i:=lo) (j:=lo+m) (e8 _) (by lia);have Z:Asc r (arrOf (setArr u (mirror (arrOf u) lo (lo+m) ((lo+m-lo)/2)))) lo (lo+m):=ds4.turn (by lia);erw[xE (I:=λx c st'=>ue κ ys lo f st'/\c=(JN,x)/\Asc r (arrOf st') lo (lo+x)) (Q:=λc st'=>∃ n,L2.A5 (ue κ ys lo f st') (c=(JN,n)) (1<=n) (n<=d) (Asc r (arrOf st') lo (lo+n))) ?_ ?_ ⟨S5,rfl,Z⟩ ?_]
 ·rintro x c st' B D ⟨C,rfl,as⟩;erw[rG J C.base (by dsimp only; lia) (by dsimp only; lia) ?_];by_cases c:rk r (arrOf st') (lo+x)<rk r (arrOf st') (lo+x-1)
  ·rw[y7 c];rwa[wpS_pure ⟨x,C,rfl,by lia,by lia,as⟩]
  ·rw[y8 c];rwa[wpS_pure ⟨C,rfl,as.snoc (by lia) (Ee.mp c)⟩]
 ·rintro c st' ⟨C,rfl,as⟩;have e:max m d=d:=by lia
  rw[e] at as ⊢;rwa[_,C,rfl,by lia,by lia,as]
 rintro c st6 ⟨k,C,rfl,r1,r2,as⟩;rwa[wpS_pure (h _ _ C r1 r2 as)]
def ol(z:zz prog w A s κ ys r)(B:xW κ ys st){lo n ok:Nat}(M:lo+n<=ys.length)(h1:1<=ok)(h2:ok<=n)(p:Asc r (arrOf st) lo (lo+ok)){Q:Bool->t6->Prop}
  (h:∀ st',ue κ ys lo st st'->Asc r (arrOf st') lo (lo+n)->Q JO st'):wpS (model prog w) A E s (binarySort' lo n ok) Q st:=by
 rw[binarySort'_eq];have G:max ok 1=ok:=by lia
 rw[G];refine xE (I:=λk c st'=>c=(JN,())/\ue κ ys lo st st'/\Asc r (arrOf st') lo (lo+k)) (Q:=λc st'=>c=(JN,())/\ue κ ys lo st st'/\Asc r (arrOf st') lo (lo+n)) ?_ (λ_ _ h=>by rw[show max ok n=n by lia] at h; rwa[h]) ⟨rfl,⟨B,rfl,λ_ _=>rfl⟩,p⟩ ?_
 ·rintro k c d v u ⟨rfl,S,as⟩;have H:=S.base.size;erw[xE (I:=λx c st'=>L2.E2 λl q=>L2.A7 (st'=d) (c=(JN,l,q)) (l<=q) (q<=k) (q-l<=k-x) (∀ j,j<l->rk r (arrOf d) (lo+j)<=rk r (arrOf d) (lo+k)) (∀ j,q<=j->j<k->rk r (arrOf d) (lo+k)<rk r (arrOf d) (lo+j))) (Q:=λc st'=>L2.E2 λl q=>L2.A6 (st'=d) (c=(JN,l,q)) (l=q) (q<=k) (∀ j,j<l->rk r (arrOf d) (lo+j)<=rk r (arrOf d) (lo+k)) (∀ j,q<=j->j<k->rk r (arrOf d) (lo+k)<rk r (arrOf d) (lo+j))) ?_ ?_ ⟨_,_,rfl,rfl,m7 _,e8 _,by lia,λj h=>y9 h (Cs _),λj h1 h2=>y9 h2 (by lia)⟩ ?_]
  ·rintro x c f _ L ⟨l,q,rfl,rfl,D,m,C,i,g⟩;dsimp only;erw[yP (λe=>wpS_pure ⟨_,_,rfl,rfl,by lia,m,i,g⟩) (λe=>?_)];erw[rG z S.base (by lia) (by lia) ?_];by_cases c:rk r (arrOf f) (lo+k)<rk r (arrOf f) (lo+(l+q)/2)
   ·rw[y7 c];erw[wpS_pure ⟨_,_,rfl,rfl,by lia,by lia,by lia,i,λj o J=>?_⟩];rwa[Int.lt_of_lt_of_le c (as _ _ (by lia) (by lia) (by lia))]
   ·rw[y8 c];erw[wpS_pure ⟨_,_,rfl,rfl,by lia,by lia,by lia,λj o=>?_,g⟩];rwa[BC (as _ _ (by lia) (by lia) (by lia)) (Ee.mp c)]
  ·rintro c f ⟨l,q,rfl,rfl,D,m,C,i,g⟩;rwa[_,_,rfl,rfl,by lia,m,i,g]
  ·rintro c f ⟨l,q,rfl,rfl,rfl,m,i,g⟩;show wpS _ _ _ _ (do moveDown' (lo+k) (lo+l); pure (BF (JN,()))) _ _;rw[moveDown'_eq];erw[sW (wpS_pure ⟨rfl,⟨S.base.set (bubble_perm _ _ _),S.pend,λj y=>?_⟩,?_⟩)]
   ·show(bubble (arrOf f) (lo+k) (lo+k-(lo+l)))[j]?=_;rw[getElem?_bubble (by lia) _ (by lia),y4 (by lia),y4 (by lia)];rwa[S.fix j y]
   ·rwa[cy as (by lia) m (λh=>i _ (Nat.sub_lt h Nat.one_pos)) λh=>Ai (g l (e8 _) h)]
 ·rintro c d ⟨rfl,S,as⟩;rwa[wpS_pure (h _ S as)]
def jA(R:zz prog w A s κ ys r)(l:xW κ ys st){i:Nat}{pre g:List (Nat×Nat×Nat)}{sa f pa c nb pb:Nat}(X:(pendingOf st).toList=pre++(sa,f,pa)::(c,nb,pb)::g)(hi:pre.length=i)
  (h1:0<f) (h2:0<nb) (h3:sa+f=c) (h4:c+nb<=ys.length) (B:Asc r (arrOf st) sa c) (x:Asc r (arrOf st) c (c+nb)) {Q:Bool->t6->Prop}
  (h:∀ st',xW κ ys st'->(pendingOf st').toList=pre++(sa,f+nb,pa)::g->Asc r (arrOf st') sa (c+nb)->(∀ j,j<sa\/c+nb<=j->(arrOf st')[j]?=(arrOf st)[j]?)->Q JO st'):wpS (model prog w) A E s (mergeAt' i) Q st:=by
 have e1:(pendingOf st)[i]?=O (sa,f,pa):=by rw[<- Ax,X,<- hi,v9 (e8 _),EJ]; rfl
 have Z:(pendingOf st)[i+1]?=O (c,nb,pb):=by rw[<- Ax,X,<- hi,v9 (Bb _),Jp (e8 _),EJ]; rfl
 have z:=l.size;refine tD ?_;rw[e1,Z];refine wpS_bind (Wc ?_);have ep:(((pendingOf st).setIfInBounds i (sa,f+nb,pa)).eraseIdxIfInBounds (i+1)).toList=pre++(sa,f+nb,pa)::g:=by
  rw[Array.toList_eraseIdxIfInBounds,EZ,X,<- hi,Gj _ _ (e8 _),EJ,List.eraseIdx_append_of_length_le (Bb _),Jp (e8 _),EJ];rfl
 have o:xW κ ys (setPending st (((pendingOf st).setIfInBounds i (sa,f+nb,pa)).eraseIdxIfInBounds (i+1))):=⟨l.perm,l.kind,l.failed⟩;have M:(pendingOf (setPending st (((pendingOf st).setIfInBounds i (sa,f+nb,pa)).eraseIdxIfInBounds (i+1)))).toList=pre++(sa,f+nb,pa)::g:=ep;have C:arrOf (setPending st (((pendingOf st).setIfInBounds i (sa,f+nb,pa)).eraseIdxIfInBounds (i+1)))=arrOf st:=rfl;revert o M C;show _->_->_->wpS _ _ _ _ _ _ (setPending st (((pendingOf st).setIfInBounds i (sa,f+nb,pa)).eraseIdxIfInBounds (i+1)));generalize setPending st (((pendingOf st).setIfInBounds i (sa,f+nb,pa)).eraseIdxIfInBounds (i+1))=S;intro o M C;have xb:c<(arrOf st).size:=by lia
 erw[yD xb ?_];erw[kX (arr:=arrOf st) (base:=sa) (n:=f) R o.kind (l.mem xb) (λi hi=>⟨by lia,l.mem _⟩) (by rw[h3]; rwa[B]) h1 λk hk f1 f2=>?_];dsimp only;erw[xH (λe=>?_) (λe=>?_)]
 ·erw[wpS_pure (h _ o M ?_ (λj _=>by rw[C]))];rw[C];intro u v H G D;by_cases c1:v<c
  ·rwa[B u v H G c1]
  ·by_cases c2:u<c
   ·rwa[BC (f1 u H (by lia)) (x c v (e8 _) (by lia) D)]
   ·rwa[x u v (by lia) G D]
 have Y:sa+k+(f-k)-1=c-1:=by lia
 rw[Y];have hk:k<f:=by lia
 clear Y e;have xa:c-1<(arrOf st).size:=by lia
 erw[yD xa ?_];refine kM (arr:=arrOf st) (base:=c) (n:=nb) R o.kind (l.mem xa) (λi hi=>⟨by lia,l.mem _⟩) x (show nb-1<nb by lia) λm hm f3 f4=>?_;dsimp only;erw[xH (λe=>?_) (λe=>?_)]
 ·erw[wpS_pure (h _ o M ?_ (λj _=>by rw[C]))];rw[C];intro u v H G D;by_cases c1:v<c
  ·rwa[B u v H G c1]
  ·by_cases c2:u<c
   ·rwa[BC (B u (c-1) H (by lia) (by lia)) (f4 v (by lia) D)]
   ·rwa[x u v (by lia) G D]
 have N:∀{p q:Nat},∀ u∈((arrOf st).extract p q).toList,u∈ys:=λ{p q} u hu=>by
  rw[Be,AC] at hu;rwa[l.perm.mem_iff.mp (Bf (Cu hu))]
 have I:∀(out:Array v8) d,we S d->eI r ((arrOf st).extract (sa+k) c) ((arrOf st).extract c (c+m)) out->wpS (model prog w) A E s (do
   modify λs=>setArr s (out.toList.zipIdx.foldl (λa (p:v8×Nat)=>a.setIfInBounds (sa+k+p.2) p.1) (arrOf s))
   return (failedOf (<- get)).isNone) Q d:=λout d kp ⟨pm,rise⟩=>by
  have Y:out.toList.length=(f-k)+m:=by
   rw[pm.length_eq,f8,g8,g8,Cj,Cj];lia
  have A2:arrOf d=arrOf st:=kp.2.1.trans C;have B2:=o.keep kp;erw[sW (tD ?_)];have ef:failedOf d=none:=B2.failed;rw[show(failedOf (setArr d (out.toList.zipIdx.foldl (λa (p:v8×Nat)=>a.setIfInBounds (sa+k+p.2) p.1) (arrOf d)))).isNone=JO from by rw[show failedOf (setArr d _)=failedOf d from rfl,ef]; rfl];have put:=bN out.toList 0 (sa+k) (arrOf st) (by lia);rw[show sa+k+0=sa+k from rfl,show sa+k+out.toList.length=c+m by lia] at put;rw[A2];erw[wpS_pure (h _ ⟨?_,B2.kind,B2.failed⟩ ?_ ?_ ?_)]
  ·show(out.toList.zipIdx.foldl (λa (p:v8×Nat)=>a.setIfInBounds (sa+k+p.2) p.1) (arrOf st)).toList.Perm ys;rw[put];refine Gb ?_ l.perm;have e5:((arrOf st).extract (sa+k) c).toList++((arrOf st).extract c (c+m)).toList++(arrOf st).toList.drop (c+m)=(arrOf st).toList.drop (sa+k):=by
    rw[AX,<- nC (Bx _ _),<- nC (by lia)]
   erw[Gb ?_ (Ig (DZ (sa+k) (arrOf st).toList))];rw[<- e5,AX];rwa[D3 _ (pm.append_right _)]
  ·rw[show pendingOf (setArr d _)=pendingOf d from rfl,kp.2.2.1];rwa[M]
  ·erw[Vx put (by lia) (by lia) (by lia) (by lia) (B.sub (e8 _) (by lia)) rise (x.sub (Bx _ _) (e8 _)) f1 (λv hv=>?_) (λv hv h2=>x c v (e8 _) (by lia) h2) f4]
   ·rcases l7.mp (pm.mem_iff.mp hv) with y | y
    ·obtain⟨j,P,j2,_,T⟩:=wj (r:=r) y;rw[<- T];rwa[Ai (f2 j P (by lia)),B j (c-1) (by lia) (by lia) (by lia)]
    ·obtain⟨j,P,j2,_,T⟩:=wj (r:=r) y;rw[<- T];rwa[x c j (e8 _) P (by lia),Ai (f3 j P j2)]
  ·intro j hj;show(out.toList.zipIdx.foldl (λa (p:v8×Nat)=>a.setIfInBounds (sa+k+p.2) p.1) (arrOf st))[j]?=_;rwa[ZS put (by lia) (by lia) (by lia)]
 have L:=wv.mp ((nY (by lia)).mp (B.sub (lo':=sa+k) (by lia) (e8 _)));have J:=wv.mp ((nY (by lia)).mp (x.sub (hi':=c+m) (e8 _) (by lia)));have ex:((arrOf st).extract (sa+k) c).size=c-(sa+k):=by rw[Cj]; lia
 have ey:((arrOf st).extract c (c+m)).size=m:=by rw[Cj]; lia
 have p1:rk r ((arrOf st).extract c (c+m)) 0<=rk r ((arrOf st).extract (sa+k) c) 0:=by
  rw[qp 0 (by lia) (by lia),qp 0 (by lia) (by lia)];rwa[Ai (f2 _ (by lia) (by lia))]
 have p2:∀ j,j<((arrOf st).extract c (c+m)).size->rk r ((arrOf st).extract c (c+m)) j<=rk r ((arrOf st).extract (sa+k) c) (((arrOf st).extract (sa+k) c).size-1):=λj hj=>by
  rw[ey] at hj;rw[ex,qp j (by lia) (by lia),qp _ (by lia) (by lia),show sa+k+(c-(sa+k)-1)=c-1 by lia];rwa[Ai (f3 _ (by lia) (by lia))]
 erw[yP (λZ=>wpS_bind (iw R o.kind N N ?_ ?_ L J p1 p2 λout d kp pm=>I _ _ kp pm)) (λZ=>wpS_bind (jb R o.kind N N ?_ ?_ L J p1 p2 λout d kp pm=>I _ _ kp pm))]
 all_goals lia
end
end PyProof.Rows

namespace PyProof.Rows
def wA(r:v8->Int)(c:Array v8):Nat->List (Nat×Nat×Nat)->Nat->Prop
 | a,[],b=>a=b
 | a,(x,n,_)::l,b=>x=a/\0<n/\Asc r c a (a+n)/\wA r c (a+n) l b
section
variable{r:v8->Int}{xs zs:Array v8}
def wA.le:∀{a:Nat}{l:List (Nat×Nat×Nat)}{b:Nat},wA r xs a l b->a+l.length<=b
 | _,[],_,h=>FV h
 | a,(x,n,p)::l,b,h=>by
  have z:=h.2.2.2.le;have:=h.2.1;rw[i9];lia
def wA.split:∀{l d:List (Nat×Nat×Nat)}{a b:Nat},wA r xs a (l++d) b↔∃ c,wA r xs a l c/\wA r xs c d b
 | [],d,a,b=>⟨λh=>⟨a,rfl,h⟩,λ⟨c,e,h⟩=>by cases e; rwa[h]⟩
 | (x,n,p)::l,d,a,b=>⟨λ⟨h1,h2,h3,h4⟩=>by obtain⟨c,f,c2⟩:=wA.split.mp h4; exact⟨c,⟨h1,h2,h3,f⟩,c2⟩,λ⟨c,⟨h1,h2,h3,h4⟩,h5⟩=>⟨h1,h2,h3,wA.split.mpr ⟨c,h4,h5⟩⟩⟩
def wA.congr:∀{l:List (Nat×Nat×Nat)}{a b:Nat},wA r xs a l b->(∀ j,a<=j->j<b->zs[j]?=xs[j]?)->wA r zs a l b
 | [],_,_,h,_=>h
 | (x,n,p)::l,a,b,h,e=>by
  have z:=h.2.2.2.le;rwa[h.1,h.2.1,h.2.2.1.congr λj d c=>e j d (by lia),h.2.2.2.congr λj d c=>e j (by lia) c]
def wA.power:∀{p:List (Nat×Nat×Nat)}{a b:Nat},wA r xs a p b->∀(i pw:Nat),wA r xs a (p.modify i λx=>(x.1,x.2.1,pw)) b
 | [],_,_,h,i,pw=>by cases i <;> rwa[h]
 | (x,n,q)::p,a,b,h,0,pw=>h
 | (x,n,q)::p,a,b,h,i+1,pw=>⟨h.1,h.2.1,h.2.2.1,h.2.2.2.power i pw⟩
end
section
variable{prog:m9}{w:r9}{A:Ac}{E:c6->d7->Prop}{s:d7}{st st':t6}{κ:Bt}{ys:List v8}{r:v8->Int}
def zf(z:zz prog w A s κ ys r)(B:xW κ ys st){i b:Nat}(f:wA r (arrOf st) 0 (pendingOf st).toList b)(N:b<=ys.length)(hi:i+1<(pendingOf st).size){Q:Bool->t6->Prop}
  (h:∀ st',xW κ ys st'->wA r (arrOf st') 0 (pendingOf st').toList b->(pendingOf st').size+1=(pendingOf st).size->(∀ j,b<=j->(arrOf st')[j]?=(arrOf st)[j]?)->Q JO st'):wpS (model prog w) A E s (mergeAt' i) Q st:=by
 generalize l:(pendingOf st).toList=p at f;have y:i+1<p.length:=by rw[<- l,g8]; rwa[hi]
 have e:p=p.take i++(p[i]::p[i+1]::p.drop (i+2)):=by
  rw[<- Bk,<- Bk,DZ]
 rcases D:p[i] with ⟨sa,d,pa⟩
 rcases C:p[i+1] with ⟨L,nb,v⟩
 rw[D,C] at e;have lp:(p.take i).length=i:=by rw[i7]; lia
 rw[e] at f;obtain⟨c,h1,h2,h3,H,h4,h5,G,h6⟩:=wA.split.mp f;subst h2 h4;have J:=h6.le;have x:(p.take i++(sa,d,pa)::(sa+d,nb,v)::p.drop (i+2)).length=(pendingOf st).size:=by rw[<- e,<- l,g8]
 generalize p.take i=pre at *;generalize p.drop (i+2)=n at *;erw[jA z B (l.trans e) lp h3 h5 rfl (by lia) H G λst' I u m g=>h st' I ?_ ?_ λj M=>g j (.inr (by lia))]
 ·rw[u];erw[wA.split.mpr ⟨_,h1.congr λj q o=>g j (.inl o),rfl,by lia,?_,?_⟩]
  ·rw[show sa+(d+nb)=sa+d+nb by lia];rwa[m]
  ·rw[show sa+(d+nb)=sa+d+nb by lia];rwa[h6.congr λj q o=>g j (.inr q)]
 ·rw[<- x,<- g8,u,f8,f8,i9,i9,i9];lia
def mK(e:zz prog w A s κ ys r)(f:xW κ ys st){i b:Nat}(c:wA r (arrOf st) 0 (pendingOf st).toList b)(d:b<=ys.length)(hi:i+1<(pendingOf st).size){Q:Bool->t6->Prop}
  (h:∀ st',xW κ ys st'->wA r (arrOf st') 0 (pendingOf st').toList b->(pendingOf st').size+1=(pendingOf st).size->Q JO st'):wpS (model prog w) A E s (mergeAt' i) Q st:=zf e f c d hi λst' h1 h2 h3 _=>h st' h1 h2 h3
def vg(J:zz prog w A s κ ys r)(Z:xW κ ys st)(hp:pendingOf st = #[]){Q:Unit->t6->Prop}(h:∀ st',xW κ ys st'->Asc r (arrOf st') 0 ys.length->Q () st'):wpS (model prog w) A E s sortRuns' Q st:=by
 rw[sortRuns'_eq];erw[tD ?_];dsimp only;rw[Z.size];generalize minRun' ys.length ys.length 0=mr;erw[xE (I:=λx c st'=>xW κ ys st'/\∃ lo,c=(JN,lo)/\wA r (arrOf st') 0 (pendingOf st').toList lo/\lo<=ys.length/\x<=lo) (Q:=λc st'=>xW κ ys st'/\∃ lo,c=(JN,lo)/\wA r (arrOf st') 0 (pendingOf st').toList ys.length) ?_ ?_ ⟨Z,0,rfl,by rw[hp]; rfl,m7 _,e8 _⟩ ?_]
 ·rintro x c D _ Y ⟨C,lo,rfl,G,T,l2⟩;dsimp only;erw[yP (λe=>wpS_pure ⟨C,_,rfl,?_⟩) (λe=>?_)]
  ·(rw[show ys.length=lo by lia];assumption)
  apply cC (prog:=prog) (w:=w) (A:=A) (E:=E) (s:=s) (P:=λn f=>xW κ ys f/\wA r (arrOf f) 0 (pendingOf f).toList lo/\1<=n/\lo+n<=ys.length/\Asc r (arrOf f) lo (lo+n))
  case use =>
   intro H;erw[wpS_bind (lZ J C (by lia) (by lia) λn g S R m2 as=>?_)];have y:=S.base;have u:wA r (arrOf g) 0 (pendingOf g).toList lo:=by rw[S.pend]; rwa[G.congr λj _ M=>S.fix j M]
   clear S;dsimp only;erw[yP (λe2=>?_) (λe2=>?_)];rotate_left
   ·rwa[H n _ ⟨y,u,R,by lia,as⟩]
   ·erw[rJ ?_];erw[wpS_bind (ol J y (by lia) R (by lia) as λf z v=>?_)];refine yP (λe=>nomatch e) (λ_=>?_);rwa[H _ _ ⟨z.base,by rw[z.pend]; exact u.congr λj _ M=>z.fix j M,by lia,by lia,v⟩]
  intro n f ⟨L,z,k1,k2,v⟩;erw[tD ?_];apply mi (prog:=prog) (w:=w) (A:=A) (E:=E) (s:=s) (P:=λd=>xW κ ys d/\wA r (arrOf d) 0 ((pendingOf d).toList++[(lo,n,0)]) (lo+n))
  case use =>
   intro H;have N:wA r (arrOf f) 0 ((pendingOf f).toList++[(lo,n,0)]) (lo+n):=wA.split.mpr ⟨_,z,rfl,by lia,v,rfl⟩;cases eb:(pendingOf f).back? with
   | none=>rwa[H _ ⟨L,N⟩]
   | some t =>
    obtain⟨s1,n1,t1⟩:=t;dsimp only;erw[xE (I:=λ_ c st'=>c=(JN,())/\xW κ ys st'/\wA r (arrOf st') 0 (pendingOf st').toList lo/\Asc r (arrOf st') lo (lo+n)) (Q:=λc st'=>c=(JN,())/\xW κ ys st'/\wA r (arrOf st') 0 (pendingOf st').toList lo/\Asc r (arrOf st') lo (lo+n)) ?_ (λ_ _ h=>h) ⟨rfl,L,z,v⟩ ?_]
    ·rintro x c d _ Y ⟨rfl,o,B,m⟩;erw[tD ?_];by_cases X:(pendingOf d).size>1
     ·rw[y6 X,Ae (show(pendingOf d).size-2<(pendingOf d).size by lia)];rcases (pendingOf d)[(pendingOf d).size-2] with ⟨u1,u2,u3⟩
      erw[yP (λe=>wpS_pure ⟨rfl,o,B,m⟩) (λe=>?_)];erw[wpS_bind (zf J o B T (by lia) λst5 B5 S5 _ fx=>?_)];rwa[wpS_pure ⟨rfl,B5,S5,m.congr λj j1 _=>fx j j1⟩]
     ·rw[y4 X];rwa[wpS_pure ⟨rfl,o,B,m⟩]
    ·rintro c d ⟨rfl,o,B,m⟩;erw[sW (H _ ⟨⟨o.perm,o.kind,o.failed⟩,?_⟩)];erw[wA.split.mpr ⟨lo,?_,rfl,by lia,m,rfl⟩];show wA r (arrOf d) 0 ((pendingOf d).modify ((pendingOf d).size-1) _).toList lo;rw[Array.toList_modify];rwa[B.power _ _]
  intro d ⟨o,B⟩;erw[sW (wpS_pure ⟨⟨o.perm,o.kind,o.failed⟩,_,rfl,?_,k2,by lia⟩)];show wA r (arrOf d) 0 ((pendingOf d).push (lo,n,0)).toList (lo+n);rw[Fx];rwa[B]
 ·rintro c D ⟨C,lo,rfl,G,T,l2⟩;exists C,_,rfl;(rw[show ys.length=lo by lia];assumption)
 ·rintro c D ⟨C,lo,rfl,G⟩;have z1:=G.le;rw[g8] at z1;erw[xE (I:=λx c st'=>c=(JN,())/\xW κ ys st'/\wA r (arrOf st') 0 (pendingOf st').toList ys.length/\(pendingOf st').size<=max 1 (ys.length-x)) (Q:=λc st'=>c=(JN,())/\xW κ ys st'/\wA r (arrOf st') 0 (pendingOf st').toList ys.length/\(pendingOf st').size<=1) ?_ ?_ ⟨rfl,C,G,by lia⟩ ?_]
  ·rintro x c g _ Y ⟨rfl,y,u,n2⟩;erw[tD ?_];erw[yP (λe=>wpS_pure ⟨rfl,y,u,e⟩) (λe=>?_)];erw[wpS_bind (mK J y u (e8 _) ?_ λf L z n3=>?_)]
   ·(repeat' split) <;> lia
   ·rwa[wpS_pure ⟨rfl,L,z,by lia⟩]
  ·rintro c g ⟨rfl,y,u,n2⟩;rwa[rfl,y,u,by lia]
  ·rintro c g ⟨rfl,y,u,n2⟩;erw[wpS_pure (h _ y ?_)];generalize ep:(pendingOf g).toList=p at u;have lp:p.length<=1:=by rw[<- ep,g8]; rwa[n2]
   match p,u,lp with
   | [],S,_ =>
    have e:0=ys.length:=S;intro i j _ _ hj;lia
   | [(x,n,q)],S,_ =>
    have e:0+n=ys.length:=S.2.2.2;rw[<- e];rwa[S.2.2.1]
   | _::_::_,_,l=>rwa[y9 l (by simp)]
end
end PyProof.Rows

namespace HT
section
open PySem.SeqAt
open PySem.AutoSeq1 (wpAny_loadPart')
open PySem.MeetsSeq PySem.MeetsSeq2 PySem.MeetsSeq3
def Ws{c:List c6}{ns:List Int}(h:BQ c ns){i:Nat}(h1:i<c.length)(h2:i<ns.length):∃ t,c[i]=C3 ns[i] t:=by
 induction h generalizing i with
 | nil=>rwa[y9 h1 (Cs _)]
 | cons => 
  rename_i d
  cases i with
  | zero=>rwa[_,rfl]
  | succ i=>rwa[d (F1 h1) (F1 h2)]
def Yr(l b:c7)(j f:Array c6)(n n2:Nat)(X I:Option c7)(N C:Array (Option c6))(ns p:List Int)(hi:BQ j.toList ns)(M:BQ f.toList p)(k:Nat) :
  ∀ i:Nat,j.size-i=k->i<=j.size->i<=f.size->Meets (Di.«list.__eq__.loop» ⟨[.ref l,.ref b,rawInt i,rawInt 0],[]⟩)
   (λA R s=>s.heap.get? l=O { cls:=.type "list",dict:=X,data:=.seq j n,slots:=N }/\s.heap.get? b=O { cls:=.type "list",dict:=I,data:=.seq f n2,slots:=C } /\
    R (.ok (.ret (.bool (lexLt (ns.drop i) (p.drop i))))) s):=by
 have Z:j.size=ns.length:=by rw[<- hi.length]; simp
 have Y:f.size=p.length:=by rw[<- M.length]; simp
 induction k with
 | zero =>
  intro i Q o m prog w A R s h;obtain⟨E,g,d,B,os⟩:=s; obtain⟨v,x,h⟩:=h
  wp_walk using AD v,AD x
  have o:j[((i:Nat):Int).toNat]?=none:=by simp; lia
  rw[o]
  wp_walk using AD v,AD x
  have e:lexLt (ns.drop i) (p.drop i)=decide (j.size<f.size):=by
   rw[B8 (show ns.length<=i by lia)];by_cases c:i<p.length
   ·rw[Bk c,wy,y7 (by lia)]
   ·rw[B8 (by lia),vx,y8 (by lia)]
  rw[e] at h;rwa[h]
 | succ k P =>
  intro i Q o m prog w A R s h;obtain⟨E,g,d,B,os⟩:=s; obtain⟨v,x,h⟩:=h
  wp_walk using AD v,AD x
  have y:i<j.size:=by lia
  have o:j[((i:Nat):Int).toNat]?=O j[i]:=by simp[y]
  have T:((i:Int)+1)=((i+1:Nat):Int):=by push_cast; rfl
  have J:i<ns.length:=by lia
  rw[o];rw[Bk J] at h;by_cases q:i<f.size
  ·have L:i<p.length:=by lia
   have m:f[((i:Nat):Int).toNat]?=O f[i]:=by simp[q]
   rw[m];rw[Bk L,lexLt_cons] at h;obtain⟨t,H⟩:=Ws hi (i:=i) (by rw[g8]; rwa[y]) J;obtain⟨u,G⟩:=Ws M (i:=i) (by rw[g8]; rwa[q]) L;rw[AQ] at H G;obtain⟨e,S,r⟩:=fO A.in1 ⟨E,g,d,B,os⟩ ns[i] t p[i] u;dsimp only;rw[H,G];erw[b9 (S prog w _ _ ?_)];cases e with
   | true =>
    rw[y6 (r.mp rfl)] at h
    wp_walk
    rw[T];exact⟨plainId_quiet plain_eq_loop _,codeAny_builtin entry_eq_loop (by
     rw[GA plain_eq_loop _];rwa[P (i+1) (by lia) (by lia) (by lia) prog w A R _ ⟨v,x,h⟩])⟩
   | false =>
    rw[y4 (λz=>nomatch (r.mpr z))] at h;have D:=dq A.in1 ⟨E,g,d,B,os⟩ ns[i] t p[i] u prog w
    wp_walk using AD v,AD x
    rw[o,m,H,G]
    wp_walk using D
    rwa[h]
  ·have m:f[((i:Nat):Int).toNat]?=none:=by simp; lia
   rw[m]
   wp_walk using AD v,AD x
   rw[B8 (show p.length<=i by lia),xc] at h;have e:decide (j.size<f.size)=false:=y8 (by lia);rw[<- e] at h;rwa[h]
def list_lt_ints(l b:c7)(e c:Array c6)(n n2:Nat)(q i:Option c7)(m f:Array (Option c6))(ns j:List Int)(hi:BQ e.toList ns)(r:BQ c.toList j) :
  Meets (Di.«list.__lt__» ⟨[.ref l,.ref b],[]⟩)
   (λ_ R s=>s.heap.get? l=O { cls:=.type "list",dict:=q,data:=.seq e n,slots:=m }/\s.heap.get? b=O { cls:=.type "list",dict:=i,data:=.seq c n2,slots:=f } /\
    R (.ok (.ret (.bool (lexLt ns j)))) s):=by
 intro prog w A R s h;obtain⟨v,g,d,u,os⟩:=s; obtain⟨o,p,h⟩:=h;have x:=AutoSeq1.sub_list_list
 wp_walk using AD o,AD p
 exact⟨plainId_quiet plain_eq_loop _,codeAny_builtin entry_eq_loop (by
  rw[GA plain_eq_loop _];rwa[Yr l b e c n n2 q i m f ns j hi r _ 0 rfl (m7 _) (m7 _) prog w A R _ ⟨o,p,h⟩])⟩
end
end HT
namespace PySem.W
open PySem PySem.Calls PyProof.Rows
section
variable{prog:m9}{w:r9}{A:Ac}{E:c6->d7->Prop}{s:d7}
def gC{a:c7}{c:List c6}{n:Nat}{P:JL->d7->Prop}(G:Prop){o:c6->Int}(B:s.heap.get? a=O (seqObj "list" c.toArray n))(y:c.length<=sizeLine)
  (J:2<=c.length->∀ Q:Bt->d7->Prop,(∀ m,Q m { s with heap:=zk s.heap a c })->wpAny (model prog w) A (keyKind' c.toArray) Q E { s with heap:=zk s.heap a c })
  (run:2<=c.length->∀(m:Bt)(st:t6),xW m (c.zip c) st->pendingOf st = #[]->∀ Q:Unit->t6->Prop,(∀ d,xW m (c.zip c) d->(G->Asc (λx=>o x.2) (arrOf d) 0 (c.zip c).length)->Q () d)->wpS (model prog w) A E { s with heap:=zk s.heap a c } sortRuns' Q st)
  (h:∀ out:List c6,out.Perm c->(G->out.Pairwise (λu v=>o u<=o v))->P (.done (.ret .none)) { s with heap:=sortedHeap s.heap a c out.toArray }) :
  wpAny (model prog w) A (Di.«list.sort» ⟨[.ref a],[]⟩) P E s:=by
 have M:a<s.heap.objs.size:=g9 B;obtain⟨I,q⟩:∃ I,(s.heap.update a (AB λ_=>(#[]:Array c6))).get? a=O (seqObj "list" #[] I):=⟨_,get?_update_seq B λ_=>#[]⟩;have f:(zk s.heap a c).get? a=O (seqObj "list" #[] I):=c9 _ (c9 _ q);rw[list_sort_plain];refine b9 (listItems_at B rfl ?_);refine b9 (listUpdate_at B rfl ?_ (by rw[g6]; exact y) (m7 _));refine b9 (seqEpoch_at q rfl ?_);refine b9 (Gv ?_ (by show c.length<=_; exact y));refine b9 (FJ ?_ (m7 _));refine Ca ?_;show wpAny (model prog w) A _ P E { s with heap:=zk s.heap a c };dsimp only;have l:(c.toArray.zip c.toArray).map (·.2)=c.toArray:=by
  apply FO.mp;rw[HN,HP];rwa[FP (e8 _)]
 by_cases h2:c.toArray.size<2
 ·rw[y6 h2,y6 h2];rw[g6] at h2;refine b9 (e9 ?_);rw[Ih];refine b9 (e9 ?_);dsimp only;refine b9 (seqEpoch_at f rfl ?_);refine b9 (listUpdate_at f rfl ?_ (m7 _) (Hg (f9 (FV ((congrArg Array.size l).trans g6)) y)));simp only[bne_self_eq_false,BO,if_false];refine e9 ?_;have p:=h c (Ix _) (λ_=>by
   match c,h2 with
   | [],_=>rwa[.nil]
   | [x],_=>rwa[FQ ..]
   | _::_::_,h=>rwa[y9 h (by simp)])
  rw[<- l] at p;rwa[p]
 ·rw[y4 h2,y4 h2];rw[g6] at h2;have r:2<=c.length:=by lia
  refine b9 (J r _ λm=>?_);refine b9 (BA (run r m _ ⟨by rw[show arrOf _=c.toArray.zip c.toArray from rfl,HP],rfl,rfl⟩ rfl (λ_ d=>xW m (c.zip c) d/\(G->Asc (λx=>o x.2) (arrOf d) 0 (c.zip c).length)) λd b as=>⟨b,as⟩) ?_ λ_ _ e=>e);rintro⟨⟨⟩,d⟩ L ⟨rfl,b,as⟩;dsimp only;have pm:((arrOf d).map (·.2)).toList.Perm c:=by
   rw[HN];refine(b.perm.map _).trans (Ig ?_);rwa[FP (e8 _)]
  have C:((arrOf d).map (·.2)).size<=sizeLine:=by
   rw[<- g8,pm.length_eq];rwa[y]
  have pw:G->((arrOf d).map (·.2)).toList.Pairwise (λu v=>o u<=o v):=λg=>by
   rw[Cp];intro i j hi D H;rw[g8,Iy] at hi D;have z:=as g i j (m7 _) (Bu H) (by rw[<- b.size]; rwa[D]);rw[sY hi,sY D] at z;rw[AQ,AQ,Hh,Hh];rwa[z]
  erw[b9 (seqEpoch_at f rfl ?_)];erw[b9 (listUpdate_at f rfl ?_ (m7 _) (Hg C))];rw[b.failed];simp only[bne_self_eq_false,BO,if_false];have p:=h _ pm pw;rw[Er] at p;rwa[e9 p]
def dr(G:Prop){l:c7}{c:List c6}{Q:c6->d7->Prop}{ρ:c6->Int}(z:s.heap.IsList l c.toArray)(n:c.length<=sizeLine)
  (B:2<=c.length->∀ f:d7,(∀ b o,s.heap.get? b=O o->f.heap.get? b=O o)->∀(q:c6->d7->Prop)(Q:Bt->d7->Prop),(∀ j,Q j f)->wpAny (model prog w) A.in1.in1 (keyKind' c.toArray) Q q f)
  (run:2<=c.length->∀ f:d7,(∀ b o,s.heap.get? b=O o->f.heap.get? b=O o)->∀(q:c6->d7->Prop)(j:Bt)(st:t6),xW j (c.zip c) st->pendingOf st = #[]->∀ Q:Unit->t6->Prop,(∀ d,xW j (c.zip c) d->(G->Asc (λx=>ρ x.2) (arrOf d) 0 (c.zip c).length)->Q () d)->wpS (model prog w) A.in1.in1 q f sortRuns' Q st)
  (h:∀ out:List c6,out.Perm c->(G->out.Pairwise (λu v=>ρ u<=ρ v))->Q (.ref (s.heap.objs.size+1)) { s with heap:=sortedAll s.heap c out.toArray }) :
  wpAny (model prog w) A (call (.builtin "sorted") [.ref l]) Q E s:=by
 refine Fh kind_sorted plain_sorted entry_sorted (args_sorted1 _) ?_;unfold Di.«sorted»;refine b9 (m:=checkCount "sorted" 1 1 _) (e9 ?_);refine b9 (collect_list z ?_ n);refine b9 (FJ ?_ n);have g:((s.heap.push (seqObj "list" #[] 0)).update s.heap.objs.size (AB (· ++ c.toArray))).objs.size=s.heap.objs.size+1:=by
  rw[Heap.size_update,size_push']
 have i:(wp s.heap c).get? (s.heap.objs.size+1)=O (seqObj "list" c.toArray 0):=by
  unfold wp;rw[<- g]; rwa[i8 _ rfl]
 have keep:∀ b o,s.heap.get? b=O o->(zk (wp s.heap c) (s.heap.objs.size+1) c).get? b=O o:=λb o e=>by
  have p:b<s.heap.objs.size:=g9 e;rwa[gA (o9 (Hd p)) (gZ e)]
 show wpAny _ _ _ _ _ { s with heap:=wp s.heap c };rw[g];erw[b9 (Ca (Bj slot_list_sort ⟨_,i,rfl⟩ entry_list_sort ?body (args_list_sort _)))]
 case body =>
  exact gC G (s:={ s with heap:=wp s.heap c }) i n (λh2 D r=>B h2 _ keep _ D r) (λh2=>run h2 _ keep _) λout C y=>⟨_,rfl,e9 ⟨_,rfl,h out C y⟩⟩
end
end PySem.W
namespace L2
open PySem PySem.Spec PyProof.Rows PySem.W
def ub(all:List (List Int))(a:List Int):Int:=((all.filter λb=>HT.lexLt b a).length:Int)
def nN{d:Type}{p q:d->Bool} : ∀{l:List d},(∀ x∈l,p x=JO->q x=JO)->(l.filter p).length<=(l.filter q).length
 | [],_=>e8 _
 | x::l,h=>by
  have e:=nN (l:=l) λy f=>h y (.tail _ f);rw[Cd,Cd];by_cases c:p x=JO
  ·rw[y6 c,y6 (h x (.head _) c),i9,i9];lia
  ·rw[y4 c];split
   ·rw[i9]; lia
   ·rwa[e]
def jI{d:Type}{p q:d->Bool} : ∀{l:List d}{z:d},(∀ x∈l,p x=JO->q x=JO)->z∈l->p z=JP->q z=JO->(l.filter p).length<(l.filter q).length
 | x::l,z,h,e,h1,h2=>by
  rw[Cd,Cd];rcases o0.mp e with rfl | e
  ·rw[y4 (by rw[h1]; decide),y6 h2,i9];have:=nN (l:=l) λy f=>h y (.tail _ f);lia
  ·have g:=jI (l:=l) (λy f=>h y (.tail _ f)) e h1 h2;by_cases c:p x=JO
   ·rw[y6 c,y6 (h x (.head _) c),i9,i9];lia
   ·rw[y4 c];split
    ·rw[i9]; lia
    ·rwa[g]
def fg{all:List (List Int)}{a b:List Int}(d:a∈all):decide (ub all a<ub all b)=HT.lexLt a b:=by
 unfold ub;cases e:HT.lexLt a b with
 | true =>
  erw[y7 (Int.ofNat_lt.mpr (jI (z:=a) (λx _ c=>eU x a b c e) d (jg a) e))]
 | false =>
  erw[y8 (Ee.mpr (Int.ofNat_le.mpr (nN λx _ c=>?_)))];rcases fY x a b c with h | h
  ·rwa[h]
  ·rw[e] at h; cases h
def aC{all:List (List Int)}{a b:List Int}(c:b∈all)(h:ub all a<=ub all b):HT.lexLt b a=false:=by
 have z:=fg (b:=a) c;rw[y8 (Ee.mpr h)] at z;rwa[z.symm]
def jh(c:List V):List Int:=c.map λ| V.int i=>i | _=>0
def rh:∀ ns:List Int,jh (ns.map V.int)=ns
 | []=>rfl
 | x::ns=>by
  show x::jh (ns.map V.int)=_;rw[rh ns]
def mE(H:Hp):c6->List Int
 | .ref a=>match H a with
  | some (.lst c)=>jh c
  | some (.tup c)=>jh c
  | _=>[]
 | _=>[]
def vw{H:Hp}{a:c7}{ns:List Int}(h:H a=O (.lst (ns.map V.int))):mE H (.ref a)=ns:=by
 show(match H a with | some (.lst c)=>jh c | some (.tup c)=>jh c | _=>[])=_;rw[h];rwa[rh ns]
def vm{H:Hp}{a:c7}{ns:List Int}(h:H a=O (.tup (ns.map V.int))):mE H (.ref a)=ns:=by
 show(match H a with | some (.lst c)=>jh c | some (.tup c)=>jh c | _=>[])=_;rw[h];rwa[rh ns]
section
variable{prog:m9}{w:r9}{A:Ac}{E:c6->d7->Prop}{s:d7}
def md{C:Bool->d7->Prop}{b g:Bool} : ∀{ns j:List Int}{m l:List c6}(_:yN (ns.map V.int) m)(_:yN (j.map V.int) l)(i:Nat)(_:g=decide (ns.length<j.length))(_:C (HT.lexLt ns j) s),KatLex prog w A b g C (m.zip l) i s
 | [],[],_,_,d,f,i,c,h=>by
  cases d;cases f;rw[c];rwa[kat_nil h]
 | [],_::_,_,_,d,_,i,c,h=>by
  cases d;rw[c];erw[kat_nil ?_];rwa[h]
 | _::_,[],_,_,d,f,i,c,h=>by
  cases f;rw[c,GT];rwa[kat_nil h]
 | x::q,y::p,_,_,d,f,i,c,h=>by
  cases d with
  | cons p1 o =>
   cases f with
   | cons p2 n =>
    obtain⟨t,rfl⟩:=p1;obtain⟨r,rfl⟩:=p2;rw[ES];erw[kat_cons (FK ?_)];rw[HT.lexLt_cons] at h;by_cases e:x=y
    ·rw[y6 e] at h;rw[show(x == y)=JO from by simpa using e];erw[kat_yes (md o n (i+1) ?_ h)];rw[c,i9,i9];rwa[decide_eq_decide.mpr ⟨λz=>by lia,λz=>by lia⟩]
    ·rw[y4 e] at h;rw[show(x == y)=JP from by simpa using e];erw[kat_no ?_];cases (b&&i == 0) with
     | true=>rwa[oneLt_int h]
     | false=>rwa[kat_one _ _ (wpAny_lt_int h)]
def gE{l:List c6}{ρ:c6->Int}(X:A.units<cLine)(Y:∀ v∈l,∃ ns,bx s.heap v ns)(L:∀ u∈l,∀ v∈l,∀ ns f,bx s.heap u ns->bx s.heap v f->decide (ρ u<ρ v)=HT.lexLt ns f)(N:Bt):zz prog w A s N (l.zip l) λx=>ρ x.2:=λx y hx Z Q h=>by
 have B:=mem_zip_self hx;have r:=mem_zip_self Z;obtain⟨ns,p⟩:=Y _ B.2;obtain⟨f,m⟩:=Y _ r.2;have h:Q (HT.lexLt ns f) s:=by
  rw[<- L x.2 (by rw[<- B.1]; rwa[B.2]) y.2 (by rw[<- r.1]; rwa[r.2]) ns f (by rw[<- B.1]; rwa[p]) (by rw[<- r.1]; rwa[m])];rwa[h]
 obtain⟨a,o,n,G,e1,j,C,hd,J⟩:=p;obtain⟨b,P,R,D,e2,d,e,c,I⟩:=m;rw[e1,e2];have T:BQ G.toArray.toList ns:=tI J;have S:BQ D.toArray.toList f:=tI I;rcases N with _ | _ | bb
 ·show wpAny (model prog w) A (oneLt' JP (.ref a) (.ref b)) Q _ s;obtain⟨cls,M,data,H⟩:=o;obtain⟨q,i,data2,g⟩:=P;simp only at C hd e c;subst C hd e c;exact kat_one _ _ (richCompare_meets_room (op:=.Lt) ⟨_,j,rfl⟩ ⟨_,d,rfl⟩ Et Gk (F2 _ _) (HT.list_lt_ints a b G.toArray D.toArray n R M i H g ns f T S)
   ⟨j,d,⟨(λz=>nomatch z),by first | exact h | exact⟨_,U,h⟩⟩⟩ X)
 ·show wpAny (model prog w) A (oneLt' JO (.ref a) (.ref b)) Q _ s;rw[oneLt'_eq];simp only[if_true];erw[b9 (wpAny_cRoomFor X ?_)];obtain⟨cls,M,data,H⟩:=o;obtain⟨q,i,data2,g⟩:=P;simp only at C hd e c;subst C hd e c;erw[b9 (Eg ⟨_,j,rfl⟩ Et (call_meets Et ⟨_,j,rfl⟩ Gk (F2 _ _) (HT.list_lt_ints a b G.toArray D.toArray n R M i H g ns f T S) ⟨j,d,?_⟩))];rwa[BB h]
 ·have p:=J.length;have m:=I.length;rw[b7] at p m;rwa[kat_lt j hd d c (md J I 0 (by rw[g6,g6,<- p,<- m]) h)]
def cE{g:List c6}{ρ:c6->Int}(P:A.units<cLine)(R:∀ v∈g,∃ ns,bz s.heap v ns)(B:∀ u∈g,∀ v∈g,∀ ns d,bz s.heap u ns->bz s.heap v d->decide (ρ u<ρ v)=HT.lexLt ns d)(G:Bt):zz prog w A s G (g.zip g) λx=>ρ x.2:=λx y Y X Q h=>by
 have p:=mem_zip_self Y;have m:=mem_zip_self X;obtain⟨ns,j⟩:=R _ p.2;obtain⟨d,i⟩:=R _ m.2;have h:Q (HT.lexLt ns d) s:=by
  rw[<- B x.2 (by rw[<- p.1]; rwa[p.2]) y.2 (by rw[<- m.1]; rwa[m.2]) ns d (by rw[<- p.1]; rwa[j]) (by rw[<- m.1]; rwa[i])];rwa[h]
 obtain⟨a,o,n,I,e1,l,C,hd,z⟩:=j;obtain⟨b,J,L,H,Z,e,f,c,r⟩:=i;rw[e1,Z];have N:BQ I.toArray.toList ns:=tI z;have M:BQ H.toArray.toList d:=tI r;rcases G with _ | _ | bb
 ·show wpAny (model prog w) A (oneLt' JP (.ref a) (.ref b)) Q _ s;exact kat_one _ _ (HT.lt_tupInts ⟨o,l,C,n,hd⟩ ⟨J,e,f,L,c⟩ N M P (by first | exact h | exact⟨_,U,h⟩))
 ·show wpAny (model prog w) A (oneLt' JO (.ref a) (.ref b)) Q _ s;rw[oneLt'_eq];simp only[if_true];erw[b9 (wpAny_cRoomFor P ?_)];obtain⟨cls,dd,data,T⟩:=o;obtain⟨S,D,data2,q⟩:=J;simp only at C hd f c;subst C hd f c;erw[b9 (Eg ⟨_,l,rfl⟩ DW (call_meets DW ⟨_,l,rfl⟩ FZ (FM _ _) (HT.tuple_lt_ints a b I.toArray H.toArray n L dd D T q ns d N M) ⟨l,e,?_⟩))];rwa[BB h]
 ·have j:=z.length;have i:=r.length;rw[b7] at j i;rwa[kat_lt l hd e c (md z r 0 (by rw[g6,g6,<- j,<- i]) h)]
end
def fz:∀{ns g:List Int}{f:List c6},yN (ns.map V.int) f->yN (g.map V.int) f->ns=g
 | [],[],_,_,_=>rfl
 | [],_::_,_,d,c=>by cases d; cases c
 | _::_,[],_,d,c=>by cases c; cases d
 | x::l,y::j,_,d,c=>by
  cases d with
  | cons p1 i =>
   cases c with
   | cons p2 h =>
    obtain⟨t,rfl⟩:=p1;obtain⟨m,e⟩:=p2;cases e;rw[fz i h]
def bx.inj{h:w9}{v:c6}{ns f:List Int}(a:bx h v ns)(b:bx h v f):ns=f:=by
 obtain⟨p,o,n,d,rfl,m,_,r,l⟩:=a;obtain⟨q,s,u,c,e,g,_,i,j⟩:=b;cases e;rw[m] at g;cases g;rw[r] at i;injection i with d3 d4
 have e:d=c:=by injection d3
 subst e;rwa[fz l j]
def bz.inj{h:w9}{v:c6}{ns f:List Int}(a:bz h v ns)(b:bz h v f):ns=f:=by
 obtain⟨p,o,n,d,rfl,m,_,r,l⟩:=a;obtain⟨q,s,u,c,e,g,_,i,j⟩:=b;cases e;rw[m] at g;cases g;rw[r] at i;injection i with d3 d4
 have e:d=c:=by injection d3
 subst e;rwa[fz l j]
section
variable{X:Cx}
def lS(J:X.A.units+2<cLine):uH X (.builtin "sorted") (λS H Q=>E2 λ(l:c7) (c:List (c7×List Int))=>A4 (S=[.ref l]) (SqL X.K H l ((c.map (·.1)).map V.ref)) (∀ t∈c,H t.1=O (.lst (t.2.map V.int))) (∀(p:c7)(f:List (c7×List Int)),H p=JN->f.Perm c->f.Pairwise (λa b=>HT.lexLt b.2 a.2=JP)->Q (.ref p) (upd H p (.lst ((f.map (·.1)).map V.ref))))):=by
 intro JQ s σ H S f Q I r h;obtain⟨l,c,rfl,L,d,q⟩:=h;obtain⟨u,rfl,ru⟩:=yN.one r;cases ru;obtain⟨j,rv,pl,G⟩:=I.list L;have ei:=kF rv;subst ei;have R:∀ t∈c,bx s.heap (.ref t.1) t.2:=λt i=>by
  obtain⟨_,j,n,r1,_,eo⟩:=I.lstM (d t i);rwa[_,_,n,j,rfl,eo,rfl,rfl,r1]
 have P:∀ v∈(c.map (·.1)).map j8,∃ t∈c,v=.ref t.1:=λv g=>by
  obtain⟨a,N,rfl⟩:=g7.mp g;obtain⟨t,i,rfl⟩:=g7.mp N;rwa[t,i,rfl]
 have T:∀ v∈(c.map (·.1)).map j8,∃ ns,bx s.heap v ns:=λv g=>by
  obtain⟨t,i,rfl⟩:=P v g;rwa[_,R t i]
 refine dr True (ρ:=λv=>ub (c.map (·.2)) (mE H v)) pl.isList ?_ (λ_ Z kp E' Q' L=>cu (λv g=>let ⟨ns,e⟩:=T v g;⟨ns,e.keep kp⟩) L) (λ_ Z kp E' Y st B hp Q h=>vg (gE (ρ:=λv=>ub (c.map (·.2)) (mE H v)) J (λv g=>let ⟨ns,e⟩:=T v g;⟨ns,e.keep kp⟩) (λu J v g ns ms l1 l2=>?_) Y) B hp λD b as=>h D b λ_=>as) λout pm pw=>?_
 ·rw[b7]; rw[b7] at G; rwa[G]
 ·obtain⟨t,i,rfl⟩:=P u J;obtain⟨C,m,rfl⟩:=P v g;rw[l1.inj ((R t i).keep kp),l2.inj ((R C m).keep kp)];rw[vw (d t i),vw (d C m)];rwa[fg (Ay i)]
 ·rw[Ab] at pm;obtain⟨f,y,rfl⟩:=qm pm rfl;have e0:f.map (j8 ∘ λx:c7×List Int=>x.1)=(f.map (·.1)).map j8:=by rw[Ab]
  rw[e0];obtain⟨e,at'⟩:=sortedAll_at s.heap ((c.map (·.1)).map j8) ((f.map (·.1)).map j8).toArray;have fr:H (s.heap.objs.size+1)=none:=I.hok.fresh (Bb _);have E:f.Pairwise (λa b=>HT.lexLt b.2 a.2=JP):=by
   have pw:=pw trivial;rw[Cv] at pw;erw[pw.imp_of_mem λ{a b} N hb z=>?_];have M:=y.mem_iff.mp N;have w:=y.mem_iff.mp hb;have z:ub (c.map (·.2)) (mE H (.ref a.1))<=ub (c.map (·.2)) (mE H (.ref b.1)):=z;rw[vw (d a M),vw (d b w)] at z;rwa[aC (Ay w) z]
  erw[.ref (s.heap.objs.size+1),_,I.laid (t':=s.toks) (a:=s.heap.objs.size+1) (o:=.lst ((f.map (·.1)).map V.ref)) (λb ob q=>sortedAll_old q) (Bb _) ?_,rfl,q _ _ fr y E];erw[?_,_,e,zb _,at'];rw[b7,b7,y.length_eq];simpa using G
def ju(M:X.A.units+2<cLine):uH X (.builtin "sorted") (λY H Q=>E2 λ(l:c7) (f:List (c7×List Int))=>A4 (Y=[.ref l]) (SqL X.K H l ((f.map (·.1)).map V.ref)) (∀ t∈f,H t.1=O (.tup (t.2.map V.int))) (∀(p:c7)(i:List (c7×List Int)),H p=JN->i.Perm f->i.Pairwise (λa b=>HT.lexLt b.2 a.2=JP)->Q (.ref p) (upd H p (.lst ((i.map (·.1)).map V.ref))))):=by
 intro JQ s σ H Y i Q I r h;obtain⟨l,f,rfl,N,g,q⟩:=h;obtain⟨u,rfl,ru⟩:=yN.one r;cases ru;obtain⟨w,rv,pl,L⟩:=I.list N;have ei:=kF rv;subst ei;have T:∀ t∈f,bz s.heap (.ref t.1) t.2:=λt m=>by
  obtain⟨w,r1,⟨o,e,c,n,d⟩,_⟩:=I.tuple (SqT.of (g t m));rwa[_,o,n,w,rfl,e,c,d,r1]
 have S:∀ v∈(f.map (·.1)).map j8,∃ t∈f,v=.ref t.1:=λv j=>by
  obtain⟨a,R,rfl⟩:=g7.mp j;obtain⟨t,m,rfl⟩:=g7.mp R;rwa[t,m,rfl]
 have Z:∀ v∈(f.map (·.1)).map j8,∃ ns,bz s.heap v ns:=λv j=>by
  obtain⟨t,m,rfl⟩:=S v j;rwa[_,T t m]
 refine dr True (ρ:=λv=>ub (f.map (·.2)) (mE H v)) pl.isList ?_ (λ_ s' kp E' Q' N=>YA (λv j=>let ⟨ns,e⟩:=Z v j;⟨ns,e.keep kp⟩) N) (λ_ s' kp E' κ st B hp Q h=>vg (cE (ρ:=λv=>ub (f.map (·.2)) (mE H v)) M (λv j=>let ⟨ns,e⟩:=Z v j;⟨ns,e.keep kp⟩) (λu M v j ns ms l1 l2=>?_) κ) B hp λG b as=>h G b λ_=>as) λout pm pw=>?_
 ·rw[b7]; rw[b7] at L; rwa[L]
 ·obtain⟨t,m,rfl⟩:=S u M;obtain⟨E,y,rfl⟩:=S v j;rw[l1.inj ((T t m).keep kp),l2.inj ((T E y).keep kp)];rw[vm (g t m),vm (g E y)];rwa[fg (Ay m)]
 ·rw[Ab] at pm;obtain⟨i,D,rfl⟩:=qm pm rfl;have e0:i.map (j8 ∘ λx:c7×List Int=>x.1)=(i.map (·.1)).map j8:=by rw[Ab]
  rw[e0];obtain⟨e,at'⟩:=sortedAll_at s.heap ((f.map (·.1)).map j8) ((i.map (·.1)).map j8).toArray;have fr:H (s.heap.objs.size+1)=none:=I.hok.fresh (Bb _);have J:i.Pairwise (λa b=>HT.lexLt b.2 a.2=JP):=by
   have pw:=pw trivial;rw[Cv] at pw;erw[pw.imp_of_mem λ{a b} R hb z=>?_];have P:=D.mem_iff.mp R;have C:=D.mem_iff.mp hb;have z:ub (f.map (·.2)) (mE H (.ref a.1))<=ub (f.map (·.2)) (mE H (.ref b.1)):=z;rw[vm (g a P),vm (g b C)] at z;rwa[aC (Ay C) z]
  erw[.ref (s.heap.objs.size+1),_,I.laid (t':=s.toks) (a:=s.heap.objs.size+1) (o:=.lst ((i.map (·.1)).map V.ref)) (λb ob q=>sortedAll_old q) (Bb _) ?_,rfl,q _ _ fr D J];erw[?_,_,e,zb _,at'];rw[b7,b7,D.length_eq];simpa using L
end
end L2

namespace L2
def sz0:0<=sizeLine:=by decide
def sz1:1<=sizeLine:=by decide
def sz2:2<=sizeLine:=by decide
def sz3:3<=sizeLine:=by decide
def gt2:(0:Int)<2:=by decide
def gt3:(0:Int)<3:=by decide
def gt4:(0:Int)<4:=by decide
def gt5:(0:Int)<5:=by decide
section
variable{X:Cx}{x:j3}{p pos:DD}{a b e c:Am}{es:List Am}{t:TA}{te ta tb:TE}{id T:String}{r:List V->Hp->VK->Prop}{n:Nat}{ps:List j3}{sp:Sp}
def Tv(h:starEach (e::es) X.env=(JP,eval e X.env)::starEach es X.env)(f:PE X e te)(d:PA X es t):PA X (e::es) (Vs te t):=zI f d h
def Uk(h:PE X (.Name x pos) te):PE X (.Name x pos) te:=h
def m_sub(h:PE X (.Subscript a b pos) te):PE X (.Subscript a b pos) te:=h
def UB(h:PE X (.Call (.Name x p) (e::es) [] pos) te):PE X (.Call (.Name x p) (e::es) [] pos) te:=h
def m_bin{d:Operator}(h:PE X (.BinOp a d b pos) te):PE X (.BinOp a d b pos) te:=h
def m_cmp{d:Im}(h:PE X (.Compare a [d] [b] pos) te):PE X (.Compare a [d] [b] pos) te:=h
def UE{f:Im}{d:TT}(h:PT X (.Compare a [f] [b] pos) d):PT X (.Compare a [f] [b] pos) d:=h
def Vc{f:BoolOp}{d:TT}(h:PW X (.BoolOp f es pos) d):PT X (.BoolOp f es pos) d:=h.pt
def m_val{f:TE}(g:∀ d,isTrue e X.env d=(do let v <- d; standAt e.pos; holding [v] (truthy v)))(h:PE X e f):PT X e (tB f):=jD h g
def m_ix(d:Zd b)(g:PE X a ta)(f:PE X b tb):PE X (.Subscript a b pos) (tOp (rIxA X.K) ta tb):=bu bK g f d
def Uo(x:j3)(h:PE X (.Name x pos) te):PE X (.Name x pos) te:=h
def ip(m:uH X (.builtin id) r)(g:bootBuiltins x=O (.builtin id))(i:X.mg x=JN)(j:Gl X x)(h:x ≠ "__name__")(f:(x ==("__debug__" : j3))=JP)
  (l:starEach (e::es) X.env=(JP,eval e X.env)::starEach es X.env) (d:(backTo pos (starEach es X.env)).any (·.1)=JP) (o:PA X (e::es) t):PE X (.Call (.Name x p) (e::es) [] pos) (tCB r t):=yG m j i g o h f l d
def Uq(m:uH X (.type T) r)(g:bootBuiltins x=O (.type T))(i:X.mg x=JN)(j:Gl X x)(h:x ≠ "__name__")(f:(x ==("__debug__" : j3))=JP)
  (l:starEach (e::es) X.env=(JP,eval e X.env)::starEach es X.env) (d:(backTo pos (starEach es X.env)).any (·.1)=JP) (o:PA X (e::es) t):PE X (.Call (.Name x p) (e::es) [] pos) (tCB r t):=xF m j i g o h f l d
def m_own{P:m9}{w:r9}{K:c5}{mg:j3->Option c6}{B:w9}(h:Has P w K mg B x n ps sp)(m:X.prog=P/\X.w=w/\X.K=K/\X.mg=mg/\X.base=B)(g:zv n X.A)(i:Gl X x)(f:(x ==("__debug__" : j3))=JP)
  (j:starEach (e::es) X.env=(JP,eval e X.env)::starEach es X.env) (d:(backTo pos (starEach es X.env)).any (·.1)=JP) (l:PA X (e::es) t):PE X (.Call (.Name x p) (e::es) [] pos) (ap sp [] E0 t):=by
 obtain⟨rfl,rfl,rfl,rfl,rfl⟩:=m;rwa[wD h g i l f j d]
def zU(i:Nat){te:TE}{pos':DD}(j:X.N.Nodup)(h:PE X e te)(hi:X.N[i]?=O x:=by rfl)(d:Loc X.env.scope x:=by first | exact BM rfl | exact Hy rfl)(f:swapsWith e (O (.Name x pos')) pos.line X.env=pure false:=by rfl)
  (g:X.fn x=JO\/X.env.scope.names.lookup x=O .local:=by first | exact .inl rfl | exact .inr rfl | assumption):PS X (.Assign [.Name x pos'] e pos) (Sm te (cX i)):=Zo j hi d h f g
def xO(i:Nat)(g:X.N.Nodup)(hi:X.N[i]?=O x:=by rfl)(d:Loc X.env.scope x:=by first | exact BM rfl | exact Hy rfl)(f:X.fn x=JO\/X.env.scope.names.lookup x=O .local:=by first | exact .inl rfl | exact .inr rfl | assumption) :
  PG X (.Name x pos) (cX i):=lX g hi d f
def zu{o:Am}{to:TE}{g d:DD}(m:PE X o to)(q:PA X (e::es) t)
  (i:attributeBase o "append" X.env (eval o X.env)=eval o X.env:=by rfl)
  (j:((backTo d (starEach (e::es) X.env)).all (λx=>!x.1)&&(backToKw d (keywordEach [] X.env)).all (λx=>x.1.isSome)
   && decide ((e::es).length+([]:List Fl).length+(if ([]:List Fl).isEmpty then 0 else 1)<30))=true:=by rfl)
  (h:(g.endLine == d.line)=true:=by rfl) (l:starEach (e::es) X.env=(JP,eval e X.env)::starEach es X.env:=by rfl) (f:(backTo d (starEach es X.env)).any (·.1)=false:=by rfl) :
  PE X (.Call (.Attribute o "append" g) (e::es) [] d) (tBM X.K "list" bv to t):=VE DM PySem.F.slot_list_append PySem.F.type_list_append wa m q i j h l f
end
end L2

namespace L2
def InB(B:w9)(c:c5->Prop):Prop:=∃ K:c5,K.In B/\c K
abbrev Cx.withK(X:Cx)(K:c5):Cx:={ X with K:=K }
def Mod.withK{K c:c5}{mg:j3->Option c6}{B:w9}(m:Mod K mg B)(h:c.In B):Mod c mg B:={ m with kin:=h }
section
variable{X:Cx}{JQ:List (c7×By)}{σ:St}{H:Hp}{s:d7}{K:c5}
def Cx.Ok.withK(ok:X.Ok)(h:K.In X.base):(X.withK K).Ok :=
 ⟨ok.mod.withK h,ok.kind,ok.glob,ok.blt,ok.above,ok.inj,ok.has,ok.cab,ok.hd,ok.frames,ok.stk,ok.exf,ok.bs,ok.bsz,ok.noex,ok.exfs,ok.funs,ok.frf⟩
def Cx.Ok.unK(ok:(X.withK K).Ok)(h:Mod X.K X.mg X.base):X.Ok :=
 ⟨h,ok.kind,ok.glob,ok.blt,ok.above,ok.inj,ok.has,ok.cab,ok.hd,ok.frames,ok.stk,ok.exf,ok.bs,ok.bsz,ok.noex,ok.exfs,ok.funs,ok.frf⟩
def Inv.withK(I:Inv X JQ σ H s)(h:K.In X.base):Inv (X.withK K) JQ σ H s:=⟨I.ok.withK h,I.os,I.bare,I.base,I.loc,I.cell,I.free,I.freeC,I.pin,I.hok,I.len⟩
def Inv.unK(I:Inv (X.withK K) JQ σ H s)(h:Mod X.K X.mg X.base):Inv X JQ σ H s:=⟨I.ok.unK h,I.os,I.bare,I.base,I.loc,I.cell,I.free,I.freeC,I.pin,I.hok,I.len⟩
end
section
variable{X:Cx}{o e value:Am}{es:List Am}{f m:j3}{pos pos' apos:DD}{ta tv:TE}{t:TA}{C g:c7}{n:Nat}{ps:List j3}{sp:Sp}
inductive TFld(C:c7)(f:j3)(x:V)(H:Hp)(Q:VK):Prop where
 | mk (a dx:c7) (fs:List (j3×V)) (v:V) (ex:x=.ref a) (ea:H a=O (.ins C dx fs)) (l:fs.lookup f=O v) (q:Q v H)
def tFld2(C:c7)(f:j3)(ta:TE):TE:=λc H Q=>ta c H λx d=>TFld C f x d Q
def wg(p:InB X.base λK=>Cls K C/\wx K C f)(j:PE X e ta)(r:attributeBase e f X.env (eval e X.env)=eval e X.env:=by rfl):PE X (.Attribute e f pos) (tFld2 C f ta):=by
 obtain⟨K,y,c,n⟩:=p;intro z s d H Q I h;erw[WX r (thn (j z s d H _ I h) λu J ⟨x,D,B,i,a,L,fs,v,ex,w,l,q⟩=>?_)];subst ex;obtain rfl:u=j8 a:=i;rwa[cA (X:=X.withK K) (B.withK y) w c n l λE G A ru=>⟨v,D,A.unK I.ok.mod,ru,q⟩]
inductive SFld(C:c7)(f:j3)(y x:V)(H:Hp)(Q:Hp->Prop):Prop where
 | mk (a dx:c7) (fs:List (j3×V)) (ex:x=.ref a) (ea:H a=O (.ins C dx fs)) (l:fs.length<1000) (q:Q (upd H a (.ins C dx (pR f y fs))))
def sFld2(C:c7)(f:j3)(ta tv:TE):TS:=λD c H=>tv c H λy h=>ta c h λx d=>SFld C f y x d (D.nx c)
def mn(B:InB X.base λK=>Cls K C/\wx K C f)(E:PE X o ta)(z:PE X value tv)(A:swapsWith value (O (.Attribute o f pos')) pos.line X.env=pure false:=by rfl):PS X (.Assign [.Attribute o f pos'] value pos) (sFld2 C f ta tv):=by
 obtain⟨K,J,c,n⟩:=B;intro i s d H D I h;erw[plainObj_wpAny_Assign_Attribute (thn (z i s d H _ I h) λu j ⟨y,P,N,p,q⟩=>thn (E i j d P _ N q) λw R ⟨x,T,M,r,a,S,fs,ex,G,l,v⟩=>?_) A];subst ex;obtain rfl:w=j8 a:=r;rwa[cm (X:=X.withK K) (M.withK J) G c n l p λQ L=>⟨d,_,L.unK I.ok.mod,v⟩]
def oU{x:j3}{p:DD}(h:Has X.prog X.w X.K X.mg X.base x n ps sp)(d:zv n X.A)(i:Gl X x)(c:(x ==("__debug__" : j3))=false:=by decide):PE X (.Call (.Name x p) [] [] pos) (ap sp [] E0 Tk):=by
 obtain⟨f,fd,F,b,k,m⟩:=h;rwa[Xu F d i m k b .nil cv c]
def eA(P:m9)(w:r9)(K:c5)(mg:j3->Option c6)(base:w9)(g:c7)(n:Nat)(ps:List j3)(sp:Sp):Prop :=
 ∃ fd:AJ,yQ P w K mg base CX0 n g fd ps sp/\∀ c:List c6,c.length=ps.length->bindArgs fd ⟨c,[]⟩=pure (ps.zip c)
inductive TMeth(C:c7)(m:j3)(x:V)(H:Hp)(q:Prop):Prop where
 | mk (a dx:c7) (fs:List (j3×V)) (ex:x=.ref a) (ea:H a=O (.ins C dx fs)) (l:fs.lookup m=JN) (k:q)
def Wp(C:c7)(m:j3)(sp:Sp)(ta:TE)(t:TA):TE:=λc H Q=>ta c H λx d=>TMeth C m x d (t c d λh i=>sp (x::h) i Q E0)
def kG{d:EH Bool}(T:InB X.base λK=>Cls K C/\YW K C m g)(h:eA X.prog X.w X.K X.mg X.base g n ps sp)(R:zv n X.A)(S:PE X o ta)(Y:PA X (e::es) t)
  (i:starEach (e::es) X.env=(JP,eval e X.env)::starEach es X.env:=by rfl) (j:(backTo pos (starEach es X.env)).any (·.1)=false:=by rfl)
  (P:eval (.Call (.Attribute o m apos) (e::es) [] pos) X.env=(do
   let B <- eval o X.env
   standAt apos.atName
   let (f,first) <- holding [B] (getMethod B m d)
   callWith pos f first (backTo pos (starEach (e::es) X.env)) (backToKw pos (keywordEach [] X.env))):=by rfl) :
  PE X (.Call (.Attribute o m apos) (e::es) [] pos) (Wp C m sp ta t):=by
 obtain⟨K,p,c,D⟩:=T;obtain⟨fd,F,b⟩:=h;intro E s v H Q I h;erw[Gm (pl:=d) (thn (S E s v H _ I h) λu L ⟨x,H1,J,M,a,dx,fs,ex,Z,l,q⟩=>?_) P];subst ex;obtain rfl:u=j8 a:=M;erw[lE (X:=X.withK K) (J.withK p) Z c D l ?_];erw[DF (first:=[.ref a]) (h₀:=X.base) (K:=K) p D.kp (thn (Y pos E L v H1 _ J q) λz s2 ⟨y,H2,G,r,N⟩=>⟨(G.withK p).kIn,?_⟩) i j];rwa[jK (us:=.ref a::z) (vs:=.ref a::y) (dvs:=[]) (ds:=[]) F R (.all b) .nil cv G (.cons rfl r) (by rw[Cr]; exact N)]
def tT{d:EH Bool}(E:InB X.base λK=>Cls K C/\YW K C m g)(h:eA X.prog X.w X.K X.mg X.base g n ps sp)(B:zv n X.A)(D:PE X o ta)
  (z:eval (.Call (.Attribute o m apos) [] [] pos) X.env=(do
   let j <- eval o X.env
   standAt apos.atName
   let (f,first) <- holding [j] (getMethod j m d)
   callWith pos f first (backTo pos (starEach [] X.env)) (backToKw pos (keywordEach [] X.env))):=by rfl) :
  PE X (.Call (.Attribute o m apos) [] [] pos) (Wp C m sp ta Tk):=by
 obtain⟨K,r,c,p⟩:=E;obtain⟨fd,F,b⟩:=h;intro J s v H Q I h;erw[Gm (pl:=d) (thn (D J s v H _ I h) λu L ⟨x,N,i,y,a,M,fs,ex,G,l,q⟩=>?_) z];subst ex;obtain rfl:u=j8 a:=y;erw[lE (X:=X.withK K) (i.withK r) G c p l ?_];rwa[ED (first:=[.ref a]) (i.withK r).kIn p.kp (jK (us:=[.ref a]) (vs:=[.ref a]) (dvs:=[]) (ds:=[]) F B (.all b) .nil cv i (.cons rfl .nil) q)]
def UZ(C:c7)(sp:Sp):TE:=λ_ H Q=>∀ x c,H x=JN->H c=JN->c≠x->sp [.ref x] (upd (upd H c (.own x)) x (.ins C c [])) (λv d=>v=.non/\Q (.ref x) d) E0
def yQ.withK{P:m9}{w:r9}{K u:c5}{mg:j3->Option c6}{B:w9}{k:Nat}{f:c7}{fd:AJ}(F:yQ P w K mg B CX0 k f fd ps sp)(h:K.In B):yQ P w u mg B CX0 k f fd ps sp :=
 ⟨F.len,λA outer s H c l j Q E p i q r d=>F.run A outer s H c l j Q E p { i with mod:=i.mod.withK h } q r d⟩
def aU{x:j3}{p:DD}(l:InB X.base λK=>Mk K C g)(h:eA X.prog X.w X.K X.mg X.base g n ps sp)(d:zv (n+1) X.A)(i:X.mg x=O (.ref C))(j:Gl X x:=by rfl)(c:(x ==("__debug__" : j3))=false:=by decide) :
  PE X (.Call (.Name x p) [] [] pos) (UZ C sp):=by
 obtain⟨K,y,M⟩:=l;obtain⟨fd,F,b⟩:=h;intro L s E H Q I h;erw[Ce (yw I j i ?_ c)];have J:=I.withK y;erw[ED J.kIn M.kp (BA (ZT (X:=X.withK K) (us:=[]) (vs:=[]) (dvs:=[]) (ds:=[]) M (F.withK I.ok.mod.kin) d (.all b) .nil cv J .nil h) (λu G ⟨v,D,B,r,q⟩=>⟨v,D,B.unK I.ok.mod,r,q⟩) λ_ _ z=>z)]
end
end L2

namespace L2
structure M1(X:Cx)(o:Am)(m:j3)(apos:DD)(e:Am)(cpos:DD):Prop where
 base:attributeBase o m X.env (eval o X.env)=eval o X.env
 few:((backTo cpos (starEach [e] X.env)).all (λx=>!x.1)&&(backToKw cpos (keywordEach [] X.env)).all (λx=>x.1.isSome)
  && decide (([e]:List Am).length+([]:List Fl).length+(if ([]:List Fl).isEmpty then 0 else 1)<30))=JO
 line:(apos.endLine == cpos.line)=JO
 trees:backTo cpos (starEach [e] X.env)=[(JP,eval e X.env)]
structure M2(X:Cx)(o:Am)(m:j3)(apos:DD)(e f:Am)(cpos:DD):Prop where
 base:attributeBase o m X.env (eval o X.env)=eval o X.env
 few:((backTo cpos (starEach [e,f] X.env)).all (λx=>!x.1)&&(backToKw cpos (keywordEach [] X.env)).all (λx=>x.1.isSome)
  && decide (([e,f]:List Am).length+([]:List Fl).length+(if ([]:List Fl).isEmpty then 0 else 1)<30))=JO
 line:(apos.endLine == cpos.line)=JO
 trees:backTo cpos (starEach [e,f] X.env)=[(JP,eval e X.env),(JP,eval f X.env)]

def IsD(H:Hp)(a:c7):Prop:=(∃ c,Rd H a (.dK c))\/∃ c,Rd H a (.dT c)
def Sy{X:Cx}{h:List (c7×By)}{g:St}{H:Hp}{s:d7}{a:c7}(I:Inv X h g H s)(d:IsD H a) :
  s.TypeIs (.ref a) "dict" /\ (∀ b,j8 a=.ref b->∃ ob,s.heap.get? b=O ob/\ob.dict=JN)/\(a == sysModules)=false:=by
 rcases d with ⟨f,e⟩ | ⟨f,e⟩
 ·obtain⟨_,hd,j,_,c⟩:=kI I.hok e;erw[c.typeIs,λb q=>?_,hd];cases q;obtain⟨ob,_,_,h1,h2,_⟩:=c;rwa[ob,h1,h2.2.1]
 ·obtain⟨_,hd,i,_,c⟩:=dP I.hok e;erw[c.typeIs,λb q=>?_,hd];cases q;obtain⟨ob,_,_,h1,h2,_⟩:=c;rwa[ob,h1,h2.2.1]


def Tn(g ty:TE):TE:=λd H Q=>g d H λx f=>∃ a,A3 (x=.ref a) (IsD f a) (ty d f λy e=>E3 λc k v=>A4 (e a=O (.dK c)) (y=kV k) (vS c k=O v) (Q v (upd e a (.dK (pc c k)))))
section
variable{X:Cx}{o e f:Am}{apos cpos:DD}{td ty tx:TE}
def pK(C:PE X o td)(D:PE X e ty)(m:M1 X o "pop" apos e cpos):PE X (.Call (.Attribute o "pop" apos) [e] [] cpos) (Tn td ty):=by
 intro i s g H Q I h;erw[Hi m.base m.few m.line PySem.F.plainAttrs_dict Gh PySem.F.type_dict_pop (thn (C i s g H _ I h) λu q ⟨x,L,j,w,a,ex,d,A⟩=>?_)];subst ex;obtain rfl:u=j8 a:=w;obtain⟨p,n,_⟩:=Sy j d;exists p,n;rw[m.trees];erw[DP rfl (Em (GS (thn (D i q g L _ j A) λR P ⟨y,S,J,r,B,k,v,E,ey,l,z⟩=>G7 ?_)))];subst ey;rwa[d_pop J E r l (.inl rfl) λM N G c=>⟨v,_,G,c,z⟩]
end

section
variable{X:Cx}{JQ:List (c7×By)}{σ:St}{H:Hp}{s:d7}{a:c7}{kvs:List (Key×V)}{A:Ac}{E:c6->d7->Prop}
def ZQ{Q:c6->d7->Prop}(I:Inv X JQ σ H s)(e:Rd H a (.dK kvs))(h:∀ p d,H p=JN->Inv X JQ σ (upd H p (.dK kvs)) d->Q (.ref p) d):wpAny (model X.prog X.w) A (call (.type "dict") [.ref a]) Q E s:=by
 obtain⟨z,hd,j,rel,i⟩:=kI I.hok e;erw[kt_call_dict hd i (by rw[<- rel.length]; rwa[z]) λl c g=>?_];erw[h _ _ (I.hok.fresh (e8 _)) (I.laid (a:=s.heap.objs.size) (o:=.dK kvs) (t':=s.toks) (λb q f=>?_) (e8 _) (ig z (x4.mpr (AR (o9 I.big))) rel c))];exact(g.2 b (o9 (g9 f))).trans (c9 _ f)
end


end L2


namespace L2
section
variable{X:Cx}{JQ:List (c7×By)}{σ:St}{H:Hp}{s:d7}{d:c7}{kvs:List (Key×V)}
def KV.at{vs:List (Key×c6)} : ∀{kvs:List (Key×V)}{vs:List (Key×c6)}{i:Nat}{k:Key}{v:V},KV kvs vs->kvs[i]?=O (k,v)->∃ u,vs[i]?=O (k,u)/\xJ v u
 | _,_,_,_,_,.nil,e=>by simp at e
 | _,_,0,k,v,.cons (a:=a) (b:=b) ⟨f,c⟩ _,e=>by
  simp at e;subst e;exact⟨b.2,by rw[show(k,b.2)=b from by rw[show k=b.1 from f]]; rfl,c⟩
 | _,_,i+1,k,v,.cons _ t,e=>KV.at (vs:=[]) (i:=i) t (by simpa using e)
def Itc(e:Hp->Prop)(c:List V):It:=⟨λi H=>e H/\i<c.length,λi H x f=>f=H/\c[i]?=O x,λi H=>e H/\c.length<=i⟩
variable{tg l:Am}{te:TE}{apos pos:DD}
end
end L2

namespace L2
section
variable{φ:Hp->Prop}{xs:List V}{g:TG}{tb:TS}{E:ay}{σ σ0:St}{H H1:Hp}{D:c7}{tt:TT}{te:TE}{Q:VK}
def for_c(c:Nat->St->Hp->Prop)(h0:c 0 σ H)(o:∀ i σ H,c i σ H->φ H)
  (r:∀ i x σ H,xs[i]?=O x->c i σ H->g x σ H λd l=>tb { E with nx:=c (i+1),ct:=c (i+1),bk:=E.nx } d l) (hd:∀ σ H,c xs.length σ H->E.nx σ H) :
  ∃ W:Nat->Nat->St->Hp->Prop,(∃ m,W 0 m σ H)/\∀ i m σ H,W i m σ H ->
   ((Itc φ xs).stop i H/\E.nx σ H)\/((Itc φ xs).go i H/\∃ N:St->Hp->Prop,(∀ f h,N f h->∃ n,n<m/\W (i+1) n f h)/\∀ x h,(Itc φ xs).yld i H x h->g x σ h λd l=>tb { E with nx:=N,ct:=N,bk:=E.nx } d l):=by
 exists λi m σ H=>m=xs.length-i/\i<=xs.length/\c i σ H,⟨xs.length,by simp,m7 _,h0⟩;rintro i m σ H ⟨rfl,hi,p⟩;by_cases j:i<xs.length
 ·erw[.inr ⟨⟨o i σ H p,j⟩,c (i+1),λf h q=>⟨xs.length-(i+1),by lia,rfl,j,q⟩,λx h ⟨e,y⟩=>?_⟩];subst e;rwa[r i x σ _ y p]
 ·have e:i=xs.length:=by lia
  subst e;rwa[.inl ⟨⟨o _ σ H p,e8 _⟩,hd σ H p⟩]
def TW(f:Nat->St->List V->Hp->Prop)(h0:f 0 σ0 [] (upd H1 D (.lst [])))(s:∀ i σ c H,f i σ c H->φ H/\H D=O (.lst c))
  (r:∀ i x σ c H,xs[i]?=O x->f i σ c H->g x σ H λd u=>tt d u λb l =>
   if b=JO then te d l λy j=>j D=O (.lst c)/\c.length<sizeLine/\f (i+1) d (c++[y]) (upd j D (.lst (c++[y]))) else f (i+1) d c l)
  (hd:∀ σ c H,f xs.length σ c H->Q (.ref D) H):xf (Itc φ xs) D g tt te σ0 H1 Q:=by
 exists λi m σ c H=>m=xs.length-i/\i<=xs.length/\f i σ c H,⟨xs.length,by simp,m7 _,h0⟩;rintro i m σ c H ⟨rfl,hi,p⟩;obtain⟨q,o⟩:=s i σ c H p;exists o;by_cases h:i<xs.length
 ·erw[.inr ⟨⟨q,h⟩,f (i+1),λn w v z=>⟨xs.length-(i+1),by lia,rfl,h,z⟩,λx v ⟨e,y⟩=>?_⟩];subst e;rwa[r i x σ c _ y p]
 ·have e:i=xs.length:=by lia
  subst e;rwa[.inl ⟨⟨q,e8 _⟩,hd σ c H p⟩]
def VQ(d:Nat->St->List V->Hp->Prop)(h0:d 0 σ0 [] (upd H1 D (.lst [])))(l:∀ i σ c H,d i σ c H->φ H/\H D=O (.lst c))
  (j:∀ i x σ c H,xs[i]?=O x->d i σ c H->g x σ H λf m=>te f m λy h=>h D=O (.lst c)/\c.length<sizeLine/\d (i+1) f (c++[y]) (upd h D (.lst (c++[y]))))
  (hd:∀ σ c H,d xs.length σ c H->Q (.ref D) H):xf (Itc φ xs) D g XW te σ0 H1 Q:=TW d h0 l (λi x σ c H e p=>j i x σ c H e p) hd
end
section
variable{X:Cx}{x y:j3}{p pos:DD}{i e:Am}{es:List Am}{ty:TE}{t:TA}
def dF{n:Int}(c:∃ k,X.mg x=O (.int n k))(d:Gl X x:=by rfl)(hd:(x ==("__debug__" : j3))=false:=by decide):PE X (.Name x pos) (tC (.int n)):=λ_ _ _ H _ I h=>by
 obtain⟨k,c⟩:=c;rwa[yw I d c ⟨.int n,H,I,⟨k,rfl⟩,h⟩ hd]
def Ut(P:m9)(w:r9)(B:w9)(a:c7)(c:List (Key×V)):Prop:=∃ d,KV c d/\B.DictOf (yY P w) a d
def tGet(c:List (Key×V))(ty:TE):TE:=λd H Q=>ty d H λy f=>E2 λ(k:Key) (v:V)=>A3 (y=kV k) (vS c k=O v) (Q v f)
def XX{q:List (c7×By)}{j:St}{H:Hp}{s:d7}{a:c7}{c:List (Key×V)}{k:Key}{v:V}{u:c6}{E:c6->d7->Prop}{Q:c6->d7->Prop}(B:Ut X.prog X.w X.base a c)(I:Inv X q j H s)(l:vS c k=O v)(r:xJ (kV k) u)
  (h:∀ d n,Inv X q j H n->xJ v d->Q d n):s.TypeIs (.ref a) "dict" /\ wpAny (model X.prog X.w) X.A (getItem (.ref a) u) Q E s:=by
 obtain⟨m,rel,f⟩:=B;have f:s.heap.DictOf (yY X.prog X.w) a m:=f.at λo e=>I.bk a o e;obtain⟨d,z,g⟩:=jo.some_of (v:=v) (o:=valueAt m k) (by rw[<- l]; rwa[rel.val k]);rwa[f.typeIs,HF (kE r) f.mapOf z (h d _ (I.tok _) g)]
def Yb{a:c7}{c:List (Key×V)}(q:Ut X.prog X.w X.base a c)(n:X.mg x=O (.ref a))(hi:PE X i ty)(m:Sk i:=by exact λ_ _=>rfl)(o:Gl X x:=by rfl)(hd:(x ==("__debug__" : j3))=false:=by decide) :
  PE X (.Subscript (.Name x p) i pos) (tGet c ty):=by
 intro r s f H Q I h;erw[gk Dq.lookup m (yw I o n (thn (hi r s f H _ I h) λE D ⟨y,A,z,g,k,v,ey,l,j⟩=>?_) hd)];subst ey;rwa[XX q z l g λB C u d=>⟨v,A,u,d,j⟩]
structure UW(P:m9)(w:r9)(K:c5)(mg:j3->Option c6)(B:w9)(m:Nat)(kvs:List (Key×V))(k:Key)(sp:Sp):Prop where
 mk ::
 has:∃(x:j3)(f:c7)(n:Nat)(ps:List j3),vS kvs k=O (.ref f)/\mg x=O (.ref f)/\Has P w K mg B x n ps sp/\n<=m
def tTab(tab:List (Key×Sp))(ty:TE)(t:TA):TE:=λc H Q=>ty c H λy g=>E2 λ(k:Key) (sp:Sp)=>A3 (y=kV k) ((k,sp)∈tab) (t c g λd f=>sp d f Q E0)
def Sx{a:c7}{m:Nat}{d:List (Key×V)}{tab:List (Key×Sp)}{j:DD}(S:Ut X.prog X.w X.base a d)(N:X.mg x=O (.ref a))(Y:∀ r∈tab,UW X.prog X.w X.K X.mg X.base m d r.1 r.2)(L:zv m X.A)(hi:PE X i ty)(T:PA X (e::es) t)
  (J:Sk i:=by rwa[λ_ _=>rfl]) (P:Gl X x:=by rfl) (hd:(x ==("__debug__" : j3))=false:=by decide)
  (R:starEach (e::es) X.env=(JP,eval e X.env)::starEach es X.env:=by rfl) (o:(backTo pos (starEach es X.env)).any (·.1)=false:=by rfl)
  (q:eval (.Call (.Subscript (.Name x p) i j) (e::es) [] pos) X.env=(do callWith pos (<- eval (.Subscript (.Name x p) i j) X.env) [] (backTo pos (starEach (e::es) X.env)) (backToKw pos (keywordEach [] X.env))):=by rfl) :
  PE X (.Call (.Subscript (.Name x p) i j) (e::es) [] pos) (tTab tab ty t):=by
 intro v s u H Q I h;erw[Call_ (gk Dq.lookup J (yw I P N (thn (hi v s u H _ I h) λiv s2 ⟨y,H2,I2,C,k,sp,ey,mem,E⟩=>?_) hd)) q];subst ey;obtain⟨x',f,n,ps,l,G,⟨f',fd,F,b,kp,c⟩,M⟩:=(Y _ mem).has;rw[G] at c;cases c;erw[XX S I2 l C λw' B Z g=>?_];cases g;erw[DF (h₀:=X.base) I.ok.mod.kin kp (thn (T pos v B u H2 _ Z E) λus s4 ⟨vs,H4,z,r,D⟩=>⟨z.kIn,?_⟩) R o];rwa[jK (dvs:=[]) (ds:=[]) F (L.mono M) b .nil cv z r (by rw[Cr]; exact D)]
end
def wk:bootBuiltins "dict" = O (.type "dict"):=by ac_nf
section
variable{X:Cx}
def rE:uH X (.type "dict") (λd H Q=>E2 λ(a:c7) (c:List (Key×V))=>A3 (d=[.ref a]) (Rd H a (.dK c)) (∀ p,H p=JN->Q (.ref p) (upd H p (.dK c)))):=by
 intro m s i H d j Q I r h;obtain⟨a,c,rfl,f,q⟩:=h;obtain⟨u,rfl,ru⟩:=oJ r;cases ru;rwa[ZQ I f λp l e g=>⟨.ref p,_,g,rfl,q p e⟩]
def uf:uH X (.builtin "len") (λd H Q=>E2 λ(a:c7) (c:List (Key×V))=>A3 (d=[.ref a]) (Rd H a (.dK c)) (Q (.int c.length) H)):=by
 intro l s g H d i Q I r h;obtain⟨a,c,rfl,e,q⟩:=h;obtain⟨u,rfl,ru⟩:=oJ r;cases ru;rwa[d_len I e λt j f=>⟨.int c.length,H,f,⟨t,rfl⟩,q⟩]
def jH{P:m9}{w:r9} : ∀{g:List C0}{c:List (Key×V)}{f:List (Key×c6)},KV c f->Pairs (yY P w) g f->yN (c.map λi=>kV i.1) (g.map (·.key))
 | _,_,_,.nil,.nil=>.nil
 | _,_,_,.cons ⟨h,_⟩ t,.cons l _ p=>by
  erw[.cons ?_ (jH t p)];dsimp only;rw[h];rcases yX l with ⟨j,t,e,d⟩ | ⟨x,t,e,d⟩
  ·rw[e,d]; rwa[t,rfl]
  ·rw[e,d]; rwa[t,rfl]
def vO(P:X.calm=JO):uH X (.type "list") (λC H Q=>E2 λ(d:c7) (f:List (Key×V))=>A3 (C=[.ref d]) (Rd H d (.dK f)) (∀ p,H p=JN->Q (.ref p) (upd H p (.lst (f.map λv=>kV v.1))))):=by
 intro JQ s R H C T Q I r h;obtain⟨d,f,rfl,hd,q⟩:=h;obtain⟨u,rfl,ru⟩:=yN.one r;cases ru;obtain⟨G,x,S,rel,ob,n,m,g,ex,B,Z,M,Y⟩:=kI I.hok hd;have D:=jH rel M;have w:n.size=f.length:=by
  have z:=D.length;rw[b7,b7,g8] at z;rwa[z.symm]
 refine HI (Zy (rows:=n) (age:=m) x) (show X.A.handled=JN from I.ok.hd P) ⟨ob,g,ex,B⟩ (by rw[w]; exact G) λh' L l c keep at' i=>?_;have y:l.toList=n.toList.map (·.key):=by
  erw[DS λj=>?_];by_cases J:j<n.size
  ·have E:j<l.size:=by rw[i.1]; rwa[J]
   obtain⟨N,e⟩:=i.2 j l[j] (by simp[E]);rw[Ax,Ae E,e,d9,Ax,Ae J];rfl
  ·rw[BJ (by rw[g8,i.1]; lia),BJ (by simp; lia)]
 erw[.ref s.heap.objs.size,_,I.laid (t':=L) (a:=s.heap.objs.size) (o:=.lst (f.map λv=>kV v.1)) keep (e8 _) ?_,rfl,q _ (I.hok.fresh (e8 _))];exists by rw[b7]; exact G,_,c,D;rw[<- y,Er];rwa[at']
end
end L2

namespace L2
def jN(x:j3):List V:=x.cps.toList.map λc=>.str ⟨#[c]⟩
section
variable{X:Cx}{tg l:Am}{te:TE}
def YU{P:m9}{w:r9}{K:c5}{tg:Am}(x:j3)(t:Ju)(g:c7):WP P w K tg (Itc (λ_=>True) (jN x)) [g] g (λi h=>h.IsStrIter g "str_ascii_iterator" x t i) where
 mem:=by simp
 obj:=λi h st b j=>by
  have e:b=g:=by simpa using j
  subst e;obtain⟨o,e,c,d⟩:=st;exact⟨o,e,λv z=>by rw[d] at z; cases z⟩
 keep:=λi h p ⟨o,Q,r⟩ k=>⟨o,k g (by simp) o Q,r⟩
 item:=by
  intro X u q y L i M s J H E I n st ⟨_,hi⟩;subst u q y;have f:i<x.cps.size:=by unfold jN at hi; rw[b7,g8] at hi; rwa[hi]
  obtain⟨G,D,R,C,B,A⟩:=n g (by simp);erw[wpAny_pyNext_ascii_item st (c:=x.cps[i]) (Ae f) λp m N=>?_];have Y:Inv X M J H { s with heap:=p,toks:=s.toks+1 }:=I.turned (t':=s.toks+1) (λb o j e=>(N.2 b j).trans e) G D C B A;obtain⟨o,e,c,T⟩:=id m;exact⟨_,U,ZF (s:={ s with heap:=p,toks:=s.toks+1 }) e c T (by decide) ⟨.str ⟨#[x.cps[i]]⟩,H,Y,⟨_,U⟩,⟨U,by unfold jN; rw[d9,Ax,Ae f]; rfl⟩,m,λb j=>(n b j).1⟩⟩
 done:=by
  intro X u q y L i M s J H E I n st ⟨_,hi⟩;subst u q y;have f:x.cps.size<=i:=by unfold jN at hi; rw[b7,g8] at hi; rwa[hi]
  obtain⟨G,D,R,C,B,A⟩:=n g (by simp);rwa[wpAny_pyNext_ascii_end (I.ok.hd L) st (B7 f) λp S=>⟨rfl,I.turned (t':=s.toks) (λb o j e=>S b o j e) G D C B A⟩]
 self:=λ_ _ _ _ _ st h=>wpAny_pyIter_striter_ascii st h
def iStr(te:TE):TI:=λc H R=>te c H λv d=>∃ x:j3,A3 (v=.str x) (x.cps.all (· < 128)=JO) (R (Itc (λ_=>True) (jN x)) d)
def Tl(i:PE X l te):PI X tg l (iStr te):=by
 intro n s f H R I h;erw[thn (i n s f H _ I h) λv c ⟨y,p,d,g,x,e,m,q⟩=>?_];subst e;obtain⟨t,rfl⟩:=g;erw[wpAny_pyIter_ascii m ?_];erw[c.heap.objs.size,[c.heap.objs.size],_,_,p,rfl,d.kept (t':=c.toks) λb o e=>c9 _ e,YU x t _,⟨_,i8 _ rfl,rfl,rfl⟩,λb j=>?_,q];have e:b=c.heap.objs.size:=by simpa using j
 subst e;rwa[d.fpOk (e8 _) (d.hok.fresh (e8 _))]
def jS:OpR X (compareOp .LtE) (λx y H Q=>E2 λi j=>A3 (x=.str i) (y=.str j) (Q (.bl (!decide (j.cps.toList<i.cps.toList))) H)):=by
 intro g s e H x y v u Q I d c h;obtain⟨i,j,rfl,rfl,q⟩:=h;obtain⟨t,rfl⟩:=d;obtain⟨f,rfl⟩:=c;rwa[PySem.P.le_str (yU I q rfl)]
def Wu:SlR X (λx lo hi H Q=>∃ z:j3,x=.str z/\z.length<=sizeLine/\Q (.str (Dm z lo hi)) H):=by
 intro p s m H x v G E lo hi J Q I w B y n h;obtain⟨z,rfl,A,q⟩:=h;obtain⟨t,rfl⟩:=w;have c:∀(l u:Option (Int×Ju)),l.map (·.1)=lo->u.map (·.1)=hi->(sliceMade z t l u JN).post (EP X p m Q) s:=λl u D C=>by
  subst D C;rwa[post_val_or_str (t:=t) (s:=s) (Q:=EP X p m Q) ⟨f9 (F3 z _ _) A,λr k=>⟨.str (Dm z _ _),H,I.tok k,⟨r,rfl⟩,q⟩⟩]
 exists "str",_,F.slot_str_getitem.lookup,typeIs_str _ _ _;obtain⟨o,f,g,hd⟩:=B;cases y with
 | none =>
  cases n with
  | none=>rwa[CO (l:=JN) (u:=JN) (st:=JN) ⟨o,f,g,hd⟩ rfl (c JN JN rfl rfl)]
  | int j d=>rwa[CO (l:=JN) (u:=O (j,d)) (st:=JN) ⟨o,f,g,hd⟩ rfl (c JN (O (j,d)) rfl rfl)]
 | int i e =>
  cases n with
  | none=>rwa[CO (l:=O (i,e)) (u:=JN) (st:=JN) ⟨o,f,g,hd⟩ rfl (c (O (i,e)) JN rfl rfl)]
  | int j d=>rwa[CO (l:=O (i,e)) (u:=O (j,d)) (st:=JN) ⟨o,f,g,hd⟩ rfl (c (O (i,e)) (O (j,d)) rfl rfl)]
def iM:∀{c:List j3}{d:List c6},yN (c.map V.str) d->∃ l:List (j3×Ju),d=strValues l/\l.map (·.1)=c
 | [],_,.nil=>⟨[],rfl,rfl⟩
 | x::c,_,.cons ⟨t,e⟩ r=>by
  obtain⟨l,g,f⟩:=iM r;subst e;rwa[(x,t)::l,by rw[g]; rfl,by rw[i5,f]]
def bD(c:j3):∀ d:List j3,(FR c d).length<=(d.map (·.length)).sum+d.length*c.length
 | []=>m7 _
 | [y]=>by
  show y.length<=_;simp
 | y::z::l=>by
  have f:=bD c (z::l);have e:(FR c (y::z::l)).length=y.length+c.length+(FR c (z::l)).length:=by
   show(y++c++FR c (z::l)).length=_;rw[strLen_append,strLen_append]
  rw[e];simp only[i5,GM,i9,Nat.succ_mul] at f ⊢;lia
def nM(c:j3)(d:List j3):Nat:=(d.map (·.length)).sum+d.length*c.length
def Vr:MtR X "str.join" (λx i H Q=>∃(c:j3)(a:c7)(f:List j3),x=.str c/\i=[.ref a]/\SqL X.K H a (f.map V.str)/\nM c f<=sizeLine/\Q (.str (Fz c f)) H):=by
 intro D s B H x i v C Q I m n h;obtain⟨c,a,f,rfl,rfl,A,g,q⟩:=h;obtain⟨t,rfl⟩:=m;obtain⟨u,rfl,ru⟩:=yN.one n;cases ru;obtain⟨o,r,p,_⟩:=I.list A;obtain⟨l,rfl,d⟩:=iM r;have w:Builtin.Str.tooLong ((l.map (·.1)).toArray.foldl (· + ·.length+c.length) 0)=false:=by
  rw[d,Ji];exact y8 (by unfold nM at g; lia)
 refine call_meets F.slot_str_join (typeIs_str _ _ _) F.entry_str_join (F.args_str_join_2 _ _) (meets_str_join_list c t a l w) ⟨p.isList,?_⟩;have j:∀ e:List j3,(Fz c e).length<=nM c e:=λe=>by
  rw[EL];rwa[bD c e]
 match l,d with
 | [],d =>
  subst d;rwa[f9 (j []) g,⟨.str _,H,I.tok _,⟨_,rfl⟩,q⟩]
 | [y],d =>
  subst d;rwa[.str y.1,H,I,⟨y.2,rfl⟩,q]
 | y::z::l,d =>
  subst d;rwa[f9 (j _) g,⟨.str _,H,I.tok _,⟨_,rfl⟩,q⟩]
end
end L2

namespace Sea
inductive Dt where
 | int (i:Int)
 | str (x:j3)
 | tup (l:List Dt)
mutual
def Rep(H:Hp):Dt->V->Prop
 | .int i,v=>v=.int i
 | .str x,v=>v=.str x
 | .tup l,v=>∃(a:c7)(c:List V),v=.ref a/\H a=O (.tup c)/\xT H l c
def xT(H:Hp):List Dt->List V->Prop
 | [],c=>c=[]
 | d::l,c=>∃(x:V)(r:List V),c=x::r/\Rep H d x/\xT H l r
end
def vW(φ:c7->Prop)(H d:Hp):Prop:=∀ b o,¬ φ b->H b=O o->d b=O o\/∃(ob:By)(c:List (Key×V)),o=.dK c/\d b=O (.frz ob (.dK c))
abbrev Sam(H c:Hp):Prop:=vW (λ_=>False) H c
section
variable{φ ψ:c7->Prop}{H H1 H2:Hp}{a:c7}{xs:List V}
def vW.of(s:Same H H1):vW φ H H1:=λb o _ e=>.inl (s b o e)
def vW.refl(H:Hp):vW φ H H:=λ_ _ _ e=>.inl e
def vW.trans(s:vW φ H H1)(t:vW φ H1 H2):vW φ H H2:=λb o n e=>by
 rcases s b o n e with d | ⟨ob,c,g,d⟩
 ·rwa[t b o n d]
 ·subst g;rcases t b _ n d with f | ⟨_,_,z,_⟩
  ·rwa[.inr ⟨ob,c,rfl,f⟩]
  ·cases z
def vW.wider(s:vW φ H H1)(h:∀ b,φ b->ψ b):vW ψ H H1:=λb o n e=>s b o (λz=>n (h b z)) e
def vW.lst(s:vW φ H H1)(n:¬ φ a)(e:H a=O (.lst xs)):H1 a=O (.lst xs):=by
 rcases s a _ n e with z | ⟨_,_,z,_⟩
 ·rwa[z]
 ·cases z
def vW.tup(s:vW φ H H1)(n:¬ φ a)(e:H a=O (.tup xs)):H1 a=O (.tup xs):=by
 rcases s a _ n e with z | ⟨_,_,z,_⟩
 ·rwa[z]
 ·cases z
def vW.ins(s:vW φ H H1)(n:¬ φ a){C c:c7}{fs:List (j3×V)}(e:H a=O (.ins C c fs)):H1 a=O (.ins C c fs):=by
 rcases s a _ n e with z | ⟨_,_,z,_⟩
 ·rwa[z]
 ·cases z
def vW.rd(s:vW φ H H1)(n:¬ φ a){c:List (Key×V)}(e:Rd H a (.dK c)):Rd H1 a (.dK c):=by
 rcases e with e | ⟨ob,e⟩
 ·rcases s a _ n e with z | ⟨ob,d,z,w⟩
  ·rwa[.inl z]
  ·cases z;rwa[.inr ⟨ob,w⟩]
 ·rcases s a _ n e with z | ⟨_,_,z,_⟩
  ·rwa[.inr ⟨ob,z⟩]
  ·cases z
end
mutual
def Rep.sam{f:c7->Prop}{H i:Hp}(s:vW f H i)(g:∀ b c,H b=O (.tup c)->¬ f b):∀{d:Dt}{v:V},Rep H d v->Rep i d v
 | .int _,_,h=>by rw[Rep] at h ⊢; rwa[h]
 | .str _,_,h=>by rw[Rep] at h ⊢; rwa[h]
 | .tup l,v,h=>by
  rw[Rep] at h ⊢;obtain⟨a,c,e,h1,h2⟩:=h;rwa[a,c,e,s.tup (g a c h1) h1,xT.sam s g h2]
def xT.sam{f:c7->Prop}{H i:Hp}(s:vW f H i)(g:∀ b c,H b=O (.tup c)->¬ f b):∀{l:List Dt}{c:List V},xT H l c->xT i l c
 | [],_,h=>by rw[xT] at h ⊢; rwa[h]
 | d::l,c,h=>by
  rw[xT] at h ⊢;obtain⟨x,r,e,h1,h2⟩:=h;rwa[x,r,e,Rep.sam s g h1,xT.sam s g h2]
end
section
variable{H H1:Hp}
def no_f{H:Hp} : ∀ b c,H b=O (.tup c)->¬ (λ_:c7=>False) b:=λ_ _ _ z=>z
def Rep.to{d:Dt}{v:V}(h:Rep H d v)(s:Sam H H1):Rep H1 d v:=h.sam s no_f
def xT.to{l:List Dt}{c:List V}(h:xT H l c)(s:Sam H H1):xT H1 l c:=h.sam s no_f
def yR{i:Int}{v:V} : Rep H (.int i) v↔v=.int i:=by rw[Rep]
def yM{x:j3}{v:V} : Rep H (.str x) v↔v=.str x:=by rw[Rep]
def xN{l:List Dt}{v:V} : Rep H (.tup l) v↔∃(a:c7)(c:List V),v=.ref a/\H a=O (.tup c)/\xT H l c:=by rw[Rep]
def yC{c:List V} : xT H [] c↔c=[]:=by rw[xT]
def zJ{d:Dt}{l:List Dt}{c:List V} : xT H (d::l) c↔∃(x:V)(r:List V),c=x::r/\Rep H d x/\xT H l r:=by rw[xT]
def xT.length:∀{l:List Dt}{c:List V},xT H l c->c.length=l.length
 | [],_,h=>by rw[yC.mp h]; rfl
 | d::l,_,h=>by
  obtain⟨x,r,e,_,h2⟩:=zJ.mp h;rw[e,i9,i9,xT.length h2]
def xT.at:∀{l:List Dt}{c:List V}{i:Nat}{d:Dt},xT H l c->l[i]?=O d->∃ x,c[i]?=O x/\Rep H d x
 | [],_,_,_,_,e=>by simp at e
 | d::l,_,0,_,h,e=>by
  obtain⟨x,r,ex,h1,_⟩:=zJ.mp h;simp at e;subst e;rwa[x,by rw[ex]; rfl,h1]
 | d::l,_,i+1,d',h,e=>by
  obtain⟨x,r,ex,_,h2⟩:=zJ.mp h;obtain⟨y,h3,h4⟩:=xT.at (i:=i) (d:=d') h2 (by simpa using e);exact⟨y,by rw[ex]; simpa using h3,h4⟩
def xT.back:∀{l:List Dt}{c:List V}{i:Nat}{x:V},xT H l c->c[i]?=O x->∃ d,l[i]?=O d/\Rep H d x
 | [],_,i,x,h,e=>by rw[yC.mp h] at e; simp at e
 | d::l,_,0,x,h,e=>by
  obtain⟨y,r,ex,h1,_⟩:=zJ.mp h;rw[ex] at e;simp at e;subst e;rwa[d,rfl,h1]
 | d::l,_,i+1,x,h,e=>by
  obtain⟨y,r,ex,_,h2⟩:=zJ.mp h;rw[ex] at e;obtain⟨d',h3,h4⟩:=xT.back (i:=i) (x:=x) h2 (by simpa using e);exact⟨d',by simpa using h3,h4⟩
def xT.app:∀{l m:List Dt}{f c:List V},xT H l f->xT H m c->xT H (l++m) (f++c)
 | [],_,_,_,h,k=>by rw[yC.mp h]; rwa[k]
 | d::l,_,_,_,h,k=>by
  obtain⟨x,r,e,h1,h2⟩:=zJ.mp h;rw[e];rwa[zJ.mpr ⟨x,_,rfl,h1,xT.app h2 k⟩]
def xT.one{d:Dt}{v:V}(h:Rep H d v):xT H [d] [v]:=zJ.mpr ⟨v,[],rfl,h,yC.mpr rfl⟩
def xT.two{d e:Dt}{v u:V}(h:Rep H d v)(k:Rep H e u):xT H [d,e] [v,u]:=zJ.mpr ⟨v,_,rfl,h,.one k⟩
end
structure wC(H:Hp)(kvs:List (Key×V))(es:List (Key×Dt)):Prop where
 keys:kvs.map (·.1)=es.map (·.1)
 vals:xT H (es.map (·.2)) (kvs.map (·.2))
def zr(H:Hp)(a:c7)(d:List (Key×Dt)):Prop:=∃ c,Rd H a (.dK c)/\wC H c d
def look(c:List (Key×Dt))(k:Key):Option Dt:=(c.find? λe=>decide (e.1=k)).map (·.2)
def Um(c:List (Key×Dt))(k:Key)(d:Dt):List (Key×Dt):=if c.any (λe=>decide (e.1=k)) then c.map λe=>if e.1=k then(e.1,d) else e else c++[(k,d)]
def iD(c:List (Key×Dt))(k:Key):List (Key×Dt):=c.filter λe=>decide (e.1≠k)
def wC.nil{H:Hp} : wC H [] []:=⟨rfl,yC.mpr rfl⟩
def wC.cons_iff{H:Hp}{c:List (Key×V)}{k:Key}{d:Dt}{f:List (Key×Dt)} : wC H c ((k,d)::f)↔∃(v:V)(r:List (Key×V)),c=(k,v)::r/\Rep H d v/\wC H r f:=by
 constructor
 ·rintro⟨h1,h2⟩;cases c with
  | nil=>simp at h1
  | cons p r =>
   obtain⟨m,v⟩:=p;simp only[i5,Ii] at h1;obtain⟨j,i⟩:=h1;subst j;obtain⟨x,l,e,h3,h4⟩:=zJ.mp h2;simp only[i5,Ii] at e;obtain⟨h,g⟩:=e;subst h g;rwa[v,r,rfl,h3,i,h4]
 ·rintro⟨v,r,rfl,h1,h2⟩;rwa[by simp[h2.keys],zJ.mpr ⟨v,_,rfl,h1,h2.vals⟩]
def wC.nil_iff{H:Hp}{c:List (Key×V)}(h:wC H c []):c=[]:=by
 have:=h.keys;simpa using this
def wC.to{H e:Hp}{c:List (Key×V)}{d:List (Key×Dt)}(h:wC H c d)(s:Sam H e):wC e c d:=⟨h.keys,h.vals.to s⟩
def wC.sam{d:c7->Prop}{H f:Hp}{c:List (Key×V)}{e:List (Key×Dt)}(h:wC H c e)(s:vW d H f)(i:∀ b g,H b=O (.tup g)->¬ d b):wC f c e:=⟨h.keys,h.vals.sam s i⟩
def zr.to{H d:Hp}{a:c7}{c:List (Key×Dt)}(h:zr H a c)(s:Sam H d):zr d a c:=let ⟨kvs,h1,h2⟩:=h;⟨kvs,s.rd id h1,h2.to s⟩
def wC.length{H:Hp}{c:List (Key×V)}{d:List (Key×Dt)}(h:wC H c d):c.length=d.length:=by
 have:=congrArg Aq h.keys;simpa using this
def wC.get{H:Hp}{k:Key} : ∀{f:List (Key×Dt)}{c:List (Key×V)}{d:Dt},wC H c f->look f k=O d->∃ v,vS c k=O v/\Rep H d v
 | [],_,_,_,e=>by simp[look] at e
 | (g,d')::f,c,d,h,e=>by
  obtain⟨v,r,rfl,h1,h2⟩:=wC.cons_iff.mp h;by_cases z:g=k
  ·rw[wX z];simp only[look,AF,y7 z,AS,DT] at e;subst e;rwa[v,rfl,h1]
  ·rw[wK z];erw[wC.get h2 ?_];simp only[look,AF,y8 z] at e;rwa[e]
def wC.none{H:Hp}{k:Key} : ∀{d:List (Key×Dt)}{c:List (Key×V)},wC H c d->look d k=JN->vS c k=JN
 | [],_,h,_=>by rw[h.nil_iff]; rfl
 | (f,d')::d,c,h,e=>by
  obtain⟨v,r,rfl,h1,h2⟩:=wC.cons_iff.mp h;by_cases z:f=k
  ·simp[look,AF,z] at e
  ·rw[wK z];erw[wC.none h2 ?_];simp only[look,AF,y8 z] at e;rwa[e]
def wC.isSome{H:Hp}{k:Key}{f:List (Key×Dt)}{c:List (Key×V)}(h:wC H c f):(vS c k).isSome=(look f k).isSome:=by
 cases e:look f k with
 | none=>rw[h.none e]; rfl
 | some d =>
  obtain⟨v,z,_⟩:=h.get e;rw[z];rfl
def wC.any{H:Hp}{k:Key} : ∀{d:List (Key×Dt)}{c:List (Key×V)},wC H c d->(c.any λe=>decide (e.1=k))=d.any λe=>decide (e.1=k)
 | [],_,h=>by rw[h.nil_iff]; rfl
 | (f,d')::d,c,h=>by
  obtain⟨v,r,rfl,h1,h2⟩:=wC.cons_iff.mp h;rw[Cy,Cy,wC.any h2]
def wC.rep{H:Hp}{k:Key}{v:V}{d:Dt}(f:Rep H d v):∀{g:List (Key×Dt)}{c:List (Key×V)},wC H c g->wC H (c.map λe=>if e.1=k then(e.1,v) else e) (g.map λe=>if e.1=k then(e.1,d) else e)
 | [],_,h=>by rw[h.nil_iff]; rwa[.nil]
 | (i,d')::g,c,h=>by
  obtain⟨u,r,rfl,h1,h2⟩:=wC.cons_iff.mp h;rw[i5,i5];by_cases z:i=k
  ·rw[y6 z,y6 z];rwa[wC.cons_iff.mpr ⟨v,_,rfl,f,wC.rep f h2⟩]
  ·rw[y4 z,y4 z];rwa[wC.cons_iff.mpr ⟨u,_,rfl,h1,wC.rep f h2⟩]
def wC.app{H:Hp}{k:Key}{v:V}{d:Dt}(f:Rep H d v):∀{e:List (Key×Dt)}{c:List (Key×V)},wC H c e->wC H (c++[(k,v)]) (e++[(k,d)])
 | [],_,h=>by rw[h.nil_iff]; rwa[wC.cons_iff.mpr ⟨v,[],rfl,f,.nil⟩]
 | (g,d')::e,c,h=>by
  obtain⟨u,r,rfl,h1,h2⟩:=wC.cons_iff.mp h;rwa[wC.cons_iff.mpr ⟨u,_,rfl,h1,wC.app f h2⟩]
def wC.put{H:Hp}{k:Key}{v:V}{d:Dt}{f:List (Key×Dt)}{c:List (Key×V)}(h:wC H c f)(e:Rep H d v):wC H (vR c k v) (Um f k d):=by
 unfold vR Um;rw[h.any];split
 ·rwa[h.rep e]
 ·rwa[h.app e]
def wC.drop{H:Hp}{k:Key} : ∀{d:List (Key×Dt)}{c:List (Key×V)},wC H c d->wC H (pc c k) (iD d k)
 | [],_,h=>by rw[h.nil_iff]; rwa[.nil]
 | (e,d')::d,c,h=>by
  obtain⟨u,r,rfl,h1,h2⟩:=wC.cons_iff.mp h;unfold pc iD;by_cases z:e=k
  ·rw[FS (by simp[z]),FS (by simp[z])];rwa[wC.drop h2]
  ·rw[FT (by simp[z]),FT (by simp[z])];rwa[wC.cons_iff.mpr ⟨u,_,rfl,h1,wC.drop h2⟩]
end Sea

namespace Sea
inductive Deed where
 | mark (n:j3) (x y:Int)
 | move (n:j3) (x y:Int)
 | unmark (n:j3)
 | bank (n:j3) (cs:List (Int×Int))
 | level (n:j3)
 | sail (x y:Int)
 | right (k x y:Int)
 | bearing (m:Int) (n:j3) (a b c d:Int)
 | range (m:Int) (l r:j3)
 | strike (k:Int)
def ptD(p:Int×Int):Dt:=.tup [.int p.1,.int p.2]
def Deed.dt:Deed->Dt
 | .mark n x y=>.tup [.str "mark",.str n,.int x,.int y]
 | .move n x y=>.tup [.str "move",.str n,.int x,.int y]
 | .unmark n=>.tup [.str "unmark",.str n]
 | .bank n e=>.tup [.str "bank",.str n,.tup (e.map ptD)]
 | .level n=>.tup [.str "level",.str n]
 | .sail x y=>.tup [.str "sail",.int x,.int y]
 | .right k x y=>.tup [.str "right",.int k,.int x,.int y]
 | .bearing m n a b c d=>.tup [.str "bearing",.int m,.str n,ptD (a,b),ptD (c,d)]
 | .range m l r=>.tup [.str "range",.int m,.str l,.str r]
 | .strike k=>.tup [.str "strike",.int k]
structure BS where
 marks:List (j3×Int×Int)
 banks:List (j3×List (Int×Int))
 runs:List (Int×Int)
 notes:List (Int×Deed)
 coming:Int
def BS.nil:BS:=⟨[],[],[],[],1⟩
def mkE(l:List (j3×Int×Int)):List (Key×Dt):=l.map λe=>(.inr e.1,ptD e.2)
def bkE(l:List (j3×List (Int×Int))):List (Key×Dt):=l.map λe=>(.inr e.1,.tup (e.2.map ptD))
def rnE(l:List (Int×Int)):List (Key×Dt):=l.zipIdx.map λe=>(.inl (e.2:Int),ptD e.1)
def ntE(l:List (Int×Deed)):List (Key×Dt):=l.map λe=>(.inl e.1,e.2.dt)
def stK(m b r n:c7)(k:Int):List (Key×V):=[(.inr "marks",.ref m),(.inr "banks",.ref b),(.inr "runs",.ref r),(.inr "notes",.ref n),(.inr "coming",.int k)]
structure StA(H:Hp)(d m b r n:c7)(S:BS):Prop where
 at_:Rd H d (.dK (stK m b r n S.coming))
 ma:zr H m (mkE S.marks)
 ba:zr H b (bkE S.banks)
 ru:zr H r (rnE S.runs)
 no:zr H n (ntE S.notes)
def dA(H:Hp)(d:c7)(S:BS):Prop:=∃ m b r n,StA H d m b r n S
def StA.to{H c:Hp}{d m b r n:c7}{S:BS}(h:StA H d m b r n S)(s:Sam H c):StA c d m b r n S:=⟨s.rd id h.at_,h.ma.to s,h.ba.to s,h.ru.to s,h.no.to s⟩
def dA.to{H c:Hp}{d:c7}{S:BS}(h:dA H d S)(s:Sam H c):dA c d S:=let ⟨m,b,r,n,q⟩:=h;⟨m,b,r,n,q.to s⟩
def zT(S:BS)(n:j3):Option (Int×Int):=(S.marks.find? λe=>decide (e.1=n)).map (·.2)
def se{S:BS}{n:j3} : look (mkE S.marks) (.inr n)=(zT S n).map ptD:=by
 unfold look mkE zT;rw[List.find?_map];have e:((λe:Key×Dt=>decide (e.1=CF n)) ∘ λe:j3×Int×Int=>((CF e.1,ptD e.2):Key×Dt))=λe=>decide (e.1=n):=by
  funext e
  simp
 rw[e];cases S.marks.find? λe=>decide (e.1=n) <;> rfl
structure Few(S:BS):Prop where
 ma:S.marks.length<=60
 ba:S.banks.length<=60
 ru:S.runs.length<=60
 no:S.notes.length<=60
def sN(x:j3):Prop:=1<=x.length/\x.length<=8/\∀ c∈x.cps.toList,97<=c/\c<=122
def vt(p:Int×Int):Prop:=-1000<=p.1/\p.1<=1000/\-1000<=p.2/\p.2<=1000
def vf(p:Int×Int):Prop:=p≠(0,0)/\-100<=p.1/\p.1<=100/\-100<=p.2/\p.2<=100
def aft(S:BS):Deed->BS
 | .mark n x y=>{ S with marks:=S.marks++[(n,x,y)] }
 | .move n x y=>{ S with marks:=S.marks.map λe=>if e.1=n then(e.1,x,y) else e }
 | .unmark n=>{ S with marks:=S.marks.filter λe=>decide (e.1≠n) }
 | .bank n f=>{ S with banks:=S.banks++[(n,f)] }
 | .level n=>{ S with banks:=S.banks.filter λe=>decide (e.1≠n) }
 | .sail x y=>{ S with runs:=S.runs++[(x,y)] }
 | .right k x y=>{ S with runs:=S.runs.set k.toNat (x,y) }
 | .bearing m n a b c d=>{ S with notes:=S.notes++[(S.coming,.bearing m n a b c d)],coming:=S.coming+1 }
 | .range m l r=>{ S with notes:=S.notes++[(S.coming,.range m l r)],coming:=S.coming+1 }
 | .strike k=>{ S with notes:=S.notes.filter λe=>decide (e.1≠k) }
def WT(S:BS):Deed->Prop
 | .bearing _ _ _ _ _ _=>True
 | .range _ l r=>∃ p u,zT S l=O p/\zT S r=O u/\p≠u
 | _=>False
def dB(n:j3):Deed->Prop
 | .bearing _ k _ _ _ _=>k≠n
 | .range _ l r=>l≠n/\r≠n
 | _=>False
def isBk(d:List (Int×Int)):Bool:=isB (d.map λc=>(0,c))
def okD(S:BS):Deed->Prop
 | .mark n x y=>sN n/\zT S n=JN/\vt (x,y)/\S.marks.length<20
 | .move n x y=>(zT S n).isSome=JO/\vt (x,y)/\∀ e∈S.notes,WT (aft S (.move n x y)) e.2
 | .unmark n=>(zT S n).isSome=JO/\∀ e∈S.notes,dB n e.2
 | .bank n f=>sN n/\n ∉ S.banks.map (·.1)/\(∀ c∈f,vt c)/\isBk f=JO/\S.banks.length<8
 | .level n=>n∈S.banks.map (·.1)
 | .sail x y=>vt (x,y)/\S.runs.length<12
 | .right k x y=>0<=k/\k<S.runs.length/\vt (x,y)
 | .bearing m n a b c d=>0<=m/\m<=S.runs.length/\(zT S n).isSome=JO/\vf (a,b)/\vf (c,d)/\0<a*d-b*c/\S.notes.length<24
 | .range m l r=>0<=m/\m<=S.runs.length/\(zT S l).isSome=JO/\(zT S r).isSome=JO/\zT S l≠zT S r/\S.notes.length<24
 | .strike k=>k∈S.notes.map (·.1)
def gW(S:BS):Prop:=∀ e∈S.notes,e.1<S.coming
def sQ{es:List (Key×Dt)}{k:Key}{d:Dt}(h:∀ e∈es,e.1≠k):Um es k d=es++[(k,d)]:=by
 unfold Um;rw[y4];intro z;obtain⟨e,c,q⟩:=BP.mp z;rwa[h e c (of_decide_eq_true q)]
def gK(l:List (j3×Int×Int))(n:j3)(x y:Int):mkE (l++[(n,x,y)])=mkE l++[(.inr n,ptD (x,y))]:=by
 unfold mkE;rw[e7];rfl
def Vy(l:List (Int×Int))(x y:Int):rnE (l++[(x,y)])=rnE l++[(.inl (l.length:Int),ptD (x,y))]:=by
 unfold rnE;rw[List.zipIdx_append,e7];simp
def gJ(l:List (Int×Deed))(k:Int)(D:Deed):ntE (l++[(k,D)])=ntE l++[(.inl k,D.dt)]:=by
 unfold ntE;rw[e7];rfl
def Yu{l:List (Int×Int)} : ∀ e∈rnE l,e.1≠.inl (l.length:Int):=λe d z=>by
 unfold rnE at d;obtain⟨q,g,rfl⟩:=g7.mp d;obtain⟨h,f⟩:=q;have:=List.snd_lt_of_mem_zipIdx g;have c:(CQ (f:Int):Key)=CQ (l.length:Int):=z;injection c with c
 simp at this;lia
def kh{S:BS}(h:gW S):∀ e∈ntE S.notes,e.1≠.inl S.coming:=λe d z=>by
 unfold ntE at d;obtain⟨q,f,rfl⟩:=g7.mp d;have:=h q f;have c:(CQ q.1:Key)=CQ S.coming:=z;injection c with c
 lia
def kW{S:BS}{n:j3}(h:zT S n=JN):∀ e∈mkE S.marks,e.1≠.inr n:=λe d z=>by
 unfold mkE at d;obtain⟨q,f,rfl⟩:=g7.mp d;have c:(CF q.1:Key)=CF n:=z;injection c with c
 unfold zT at h;rw[F4,CT] at h;rwa[h q f (by simp[c])]
def Xm(a b c d e:V):qh [] [(.inr "marks",a),(.inr "banks",b),(.inr "runs",c),(.inr "notes",d),(.inr "coming",e)]=[(.inr "marks",a),(.inr "banks",b),(.inr "runs",c),(.inr "notes",d),(.inr "coming",e)]:=by symm
def Xk(a b c d e:V):qh [] [(.inr "marks",a),(.inr "banks",b),(.inr "runs",c),(.inr "notes",d),(.inr "next",e)]=[(.inr "marks",a),(.inr "banks",b),(.inr "runs",c),(.inr "notes",d),(.inr "next",e)]:=by symm
def rX{m b r n:c7}{k:Int} : vS (stK m b r n k) (.inr "marks")=O (.ref m):=by symm
def sj{m b r n:c7}{k:Int} : vS (stK m b r n k) (.inr "runs")=O (.ref r):=by symm
def vq{m b r n:c7}{k:Int} : vS (stK m b r n k) (.inr "notes")=O (.ref n):=by symm
def oM{m b r n:c7}{k:Int} : vS (stK m b r n k) (.inr "coming")=O (.int k):=by symm
def aL{m b r n c:c7}{k:Int} : vR (stK m b r n k) (.inr "marks") (.ref c)=stK c b r n k:=by symm
def Yl{m b r n c:c7}{k:Int} : vR (stK m b r n k) (.inr "runs") (.ref c)=stK m b c n k:=by symm
def iC{m b r n c:c7}{k:Int} : vR (stK m b r n k) (.inr "notes") (.ref c)=stK m b r c k:=by symm
def dJ{m b r n:c7}{k j:Int} : vR (stK m b r n k) (.inr "coming") (.int j)=stK m b r n j:=by symm
def Rd.same{H c:Hp}{a:c7}{u:HO}(h:Rd H a u)(s:Same H c):Rd c a u:=h.imp (s _ _) λ⟨o,e⟩=>⟨o,s _ _ e⟩
def zr.nil{H:Hp}{a:c7}(h:H a=O (.dK [])):zr H a []:=⟨[],.inl h,.nil⟩
def qo{H:Hp}{p:Int×Int}{v:V}(h:Rep H (ptD p) v):∃ a,v=.ref a/\H a=O (.tup [.int p.1,.int p.2]):=by
 obtain⟨a,c,e,h1,h2⟩:=xN.mp h;obtain⟨x,r,rfl,h3,h4⟩:=zJ.mp h2;obtain⟨y,d,rfl,h5,h6⟩:=zJ.mp h4;rw[yR.mp h3,yR.mp h5,yC.mp h6] at h1;rwa[a,e,h1]
def zj{H:Hp}{p:Int×Int}{a:c7}(h:H a=O (.tup [.int p.1,.int p.2])):Rep H (ptD p) (.ref a):=xN.mpr ⟨a,_,rfl,h,.two (yR.mpr rfl) (yR.mpr rfl)⟩
section
variable{H:Hp}{v:V}
def gH{n:j3}{x y:Int}(h:Rep H (Deed.mark n x y).dt v):∃ a,v=.ref a/\H a=O (.tup [.str "mark",.str n,.int x,.int y]):=by
 obtain⟨a,i,e,h1,h2⟩:=xN.mp h;obtain⟨_,_,rfl,g,h2⟩:=zJ.mp h2;obtain⟨_,_,rfl,f,h2⟩:=zJ.mp h2;obtain⟨_,_,rfl,d,h2⟩:=zJ.mp h2;obtain⟨_,_,rfl,c,h2⟩:=zJ.mp h2;rw[yM.mp g,yM.mp f,yR.mp d,yR.mp c,yC.mp h2] at h1;rwa[a,e,h1]
def gB{x y:Int}(h:Rep H (Deed.sail x y).dt v):∃ a,v=.ref a/\H a=O (.tup [.str "sail",.int x,.int y]):=by
 obtain⟨a,g,e,h1,h2⟩:=xN.mp h;obtain⟨_,_,rfl,f,h2⟩:=zJ.mp h2;obtain⟨_,_,rfl,d,h2⟩:=zJ.mp h2;obtain⟨_,_,rfl,c,h2⟩:=zJ.mp h2;rw[yM.mp f,yR.mp d,yR.mp c,yC.mp h2] at h1;rwa[a,e,h1]
def tH{m:Int}{n:j3}{a b c d:Int}(h:Rep H (Deed.bearing m n a b c d).dt v):∃ t p q,v=.ref t/\H t=O (.tup [.str "bearing",.int m,.str n,.ref p,.ref q])/\H p=O (.tup [.int a,.int b])/\H q=O (.tup [.int c,.int d]):=by
 obtain⟨t,u,e,h1,h2⟩:=xN.mp h;obtain⟨_,_,rfl,l,h3⟩:=zJ.mp h2;obtain⟨_,_,rfl,j,h4⟩:=zJ.mp h3;obtain⟨_,_,rfl,i,h5⟩:=zJ.mp h4;obtain⟨_,_,rfl,g,h6⟩:=zJ.mp h5;obtain⟨_,_,rfl,f,h7⟩:=zJ.mp h6;obtain⟨p,rfl,r⟩:=qo g;obtain⟨q,rfl,o⟩:=qo f;have s:=yC.mp h7;rw[yM.mp l,yR.mp j,yM.mp i,s] at h1;rwa[t,p,q,e,h1,r,o]
def xo{m:Int}{l r:j3}(h:Rep H (Deed.range m l r).dt v):∃ t,v=.ref t/\H t=O (.tup [.str "range",.int m,.str l,.str r]):=by
 obtain⟨t,i,e,h1,h2⟩:=xN.mp h;obtain⟨_,_,rfl,g,h2⟩:=zJ.mp h2;obtain⟨_,_,rfl,f,h2⟩:=zJ.mp h2;obtain⟨_,_,rfl,d,h2⟩:=zJ.mp h2;obtain⟨_,_,rfl,c,h2⟩:=zJ.mp h2;rw[yM.mp g,yR.mp f,yM.mp d,yM.mp c,yC.mp h2] at h1;rwa[t,e,h1]
end
def nV{H:Hp}{v:V}{k:Int}(h:Rep H (Deed.strike k).dt v):∃ t,v=.ref t/\H t=O (.tup [.str "strike",.int k]):=by
 obtain⟨t,f,e,h1,h2⟩:=xN.mp h;obtain⟨_,_,rfl,d,h2⟩:=zJ.mp h2;obtain⟨_,_,rfl,c,h2⟩:=zJ.mp h2;rw[yM.mp d,yR.mp c,yC.mp h2] at h1;rwa[t,e,h1]
def eW(l:List (Int×Deed))(k:Int):iD (ntE l) (.inl k)=ntE (l.filter λe=>decide (e.1≠k)):=by
 unfold iD ntE;rw[Gc]
 congr 1
 erw[DU λe _=>?_];simp
def fX{l:List (Int×Deed)}{k:Int}(h:k∈l.map (·.1)):∃ d,look (ntE l) (.inl k)=O d:=by
 obtain⟨e,c,rfl⟩:=g7.mp h;unfold look;cases q:(ntE l).find? λx=>decide (x.1=CQ e.1) with
 | none =>
  have:=CT.mp q (.inl e.1,e.2.dt) (g7.mpr ⟨e,c,rfl⟩);simp at this
 | some x=>rwa[x.2,rfl]
def dO(e:Deed->Prop):Sp:=λf H Q _=>E4 λ(d:c7) (v:V) (S:BS) (D:Deed)=>A8 (f=[.ref d,v]) (e D) (dA H d S) (Rep H D.dt v) (okD S D) (Few S) (gW S) (∀(d':c7)(c:Hp),Sam H c->H d'=JN->dA c d' (aft S D)->Q (.ref d') c)
def StA.stKlen{m b r n:c7}{k:Int} : (stK m b r n k).length<=100:=by show 5<=100; decide
def wC.le{H:Hp}{c:List (Key×V)}{d:List (Key×Dt)}(h:wC H c d){n:Nat}(e:d.length<=n):c.length<=n:=by rw[h.length]; rwa[e]
def lW(l:List (j3×Int×Int)):(mkE l).length=l.length:=by unfold mkE; rw[b7]
def kQ(l:List (Int×Int)):(rnE l).length=l.length:=by unfold rnE; rw[b7,List.length_zipIdx]
def Zc(l:List (Int×Deed)):(ntE l).length=l.length:=by unfold ntE; rw[b7]
end Sea

namespace Sea
def bkF(d p l:c7):List (j3×V):=[("state",.ref d),("past",.ref p),("later",.ref l)]
def xv{d p l:c7} : (bkF d p l).lookup ("state" : j3)=O (.ref d):=by symm
def Uw{d p l:c7} : (bkF d p l).lookup ("past" : j3)=O (.ref p):=by symm
def iI{d p l c:c7} : pR "state" (.ref c) (bkF d p l)=bkF c p l:=by symm
def ij{d p l c:c7} : pR "later" (.ref c) (bkF d p l)=bkF d p c:=by symm
def WH{d p l:c7} : pR "later" (.ref l) (pR "past" (.ref p) (pR "state" (.ref d) []))=bkF d p l:=by symm
def tV(H:Hp):List (Deed×BS)->List V->Prop
 | [],c=>c=[]
 | (D,S)::r,c=>∃(t d:c7)(v:V)(e:List V),c=.ref t::e/\H t=O (.tup [v,.ref d])/\Rep H D.dt v/\dA H d S/\tV H r e
structure BkA(C:c7)(H:Hp)(b p dx d l:c7)(ps ls:List V)(S:BS)(past later:List (Deed×BS)):Prop where
 ob:H b=O (.ins C dx (bkF d p l))
 st:dA H d S
 pa:H p=O (.lst ps)
 la:H l=O (.lst ls)
 pp:tV H past ps
 ll:tV H later ls
 ne:l≠p
def oR(C:c7)(H:Hp)(b p:c7)(S:BS)(past later:List (Deed×BS)):Prop:=∃ f d l c e,BkA C H b p f d l c e S past later
section
variable{φ:c7->Prop}{H H1:Hp}
def zr.samE{a:c7}{d:List (Key×Dt)}(h:zr H a d)(s:vW φ H H1)(nd:∀ a c,Rd H a (.dK c)->¬ φ a)(f:∀ a e,H a=O (.tup e)->¬ φ a):zr H1 a d:=let ⟨c,h1,h2⟩:=h;⟨c,s.rd (nd _ _ h1) h1,h2.sam s f⟩
def dA.samE{d:c7}{S:BS}(h:dA H d S)(s:vW φ H H1)(nd:∀ a e,Rd H a (.dK e)->¬ φ a)(c:∀ a f,H a=O (.tup f)->¬ φ a):dA H1 d S :=
 let ⟨m,b,r,n,q⟩:=h;⟨m,b,r,n,s.rd (nd _ _ q.at_) q.at_,q.ma.samE s nd c,q.ba.samE s nd c,q.ru.samE s nd c,q.no.samE s nd c⟩
def tV.samE(s:vW φ H H1)(nd:∀ a g,Rd H a (.dK g)->¬ φ a)(f:∀ a c,H a=O (.tup c)->¬ φ a):∀{l:List (Deed×BS)}{c:List V},tV H l c->tV H1 l c
 | [],_,h=>h
 | (D,S)::r,c,h=>by
  obtain⟨t,d,v,i,e,h1,h2,h3,h4⟩:=h;rwa[t,d,v,i,e,s.tup (f _ _ h1) h1,h2.sam s f,h3.samE s nd f,tV.samE s nd f h4]
def tV.app{D:Deed}{S:BS}{t d:c7}{v:V}(h1:H t=O (.tup [v,.ref d]))(h2:Rep H D.dt v)(h3:dA H d S):∀{l:List (Deed×BS)}{c:List V},tV H l c->tV H (l++[(D,S)]) (c++[.ref t])
 | [],c,h=>by
  have h:c=[]:=h;rw[h];rwa[t,d,v,[],rfl,h1,h2,h3,rfl]
 | (D',p)::r,c,h=>by
  obtain⟨g,d',f,o,e,n,m,j,i⟩:=h;rw[e];rwa[g,d',f,_,rfl,n,m,j,tV.app h1 h2 h3 i]
def tV.len:∀{l:List (Deed×BS)}{c:List V},tV H l c->c.length=l.length
 | [],c,h=>by have h:c=[]:=h; rw[h]; rfl
 | (D,S)::r,c,h=>by
  obtain⟨t,d,v,f,e,_,_,_,h4⟩:=h;rw[e,i9,i9,tV.len h4]
abbrev Bp(b p:c7):c7->Prop:=λx=>x=b\/x=p
def Xs{b p:c7}{C g:c7}{fs:List (j3×V)}{f:List V}(e:H b=O (.ins C g fs))(d:H p=O (.lst f)):∀ a c,Rd H a (.dK c)->¬ Bp b p a:=λa c h z=>by
 rcases z with z | z <;> subst z <;> rcases h with h | ⟨o,h⟩
 ·rw[e] at h; cases h
 ·rw[e] at h; cases h
 ·rw[d] at h; cases h
 ·rw[d] at h; cases h
def YK{b p:c7}{C g:c7}{fs:List (j3×V)}{d:List V}(f:H b=O (.ins C g fs))(e:H p=O (.lst d)):∀ a c,H a=O (.tup c)->¬ Bp b p a:=λa c h z=>by
 rcases z with z | z <;> subst z
 ·rw[f] at h; cases h
 ·rw[e] at h; cases h
def BkA.to{C b p f d l:c7}{c e:List V}{S:BS}{past later:List (Deed×BS)}(k:BkA C H b p f d l c e S past later)(s:Sam H H1):BkA C H1 b p f d l c e S past later :=
 ⟨s.ins id k.ob,k.st.to s,s.lst id k.pa,s.lst id k.la,k.pp.samE s (λ_ _ _=>id) (λ_ _ _=>id),k.ll.samE s (λ_ _ _=>id) (λ_ _ _=>id),k.ne⟩
def oR.to{C b p:c7}{S:BS}{past later:List (Deed×BS)}(k:oR C H b p S past later)(s:Sam H H1):oR C H1 b p S past later:=let ⟨dx,d,l,ps,ls,q⟩:=k;⟨dx,d,l,ps,ls,q.to s⟩
def mI{d p l:c7}{m:j3}(h1:m ≠ "state")(h2:m ≠ "past")(h3:m ≠ "later"):(bkF d p l).lookup m=none:=by
 unfold bkF;rw[z9,x4.mpr h1,z9,x4.mpr h2,z9,x4.mpr h3];rfl
end
end Sea

namespace Sea
def abc:j3 := "abcdefghijklmnopqrstuvwxyz"
def Xv:abc.cps.toList=(Au 26).map (97 + ·):=by ac_nf
def XS{i:Int}(h0:0<=i)(h1:i<26):atI abc.cps.toList i=O (97+i.toNat):=by
 obtain⟨n,rfl⟩:=Bw h0;erw[qB ?_];rw[Xv,d9,List.getElem?_range (by lia)];rfl
def chS(c:Nat):j3:=⟨#[c]⟩
def txt(l:List Nat):j3:=⟨l.toArray⟩
def qK(l:List Nat):(txt l).length=l.length:=by
 show l.toArray.size=_;rwa[g6]
def WI{l m:List Nat}(h:txt l=txt m):l=m:=by
 have:=congrArg (λx:j3=>x.cps.toList) h;simpa [txt] using this
def jr(l m:List Nat):txt l++txt m=txt (l++m):=by
 show(⟨l.toArray++m.toArray⟩:j3)=⟨(l++m).toArray⟩;rw[List.append_toArray]
def Zk:∀ l:List Nat,FR "" (l.map chS)=txt l
 | []=>rfl
 | [c]=>rfl
 | c::d::l=>by
  show chS c++("" : j3)++FR "" ((d::l).map chS)=_;rw[Zk (d::l)];show txt [c]++txt []++txt (d::l)=_;rw[jr,jr];rfl
def Yo(l:List Nat):Fz "" (l.map chS)=txt l:=by
 rw[EL];rwa[Zk l]
def cB(l:List Nat):nM "" (l.map chS)=l.length:=by
 unfold nM;rw[show("" : j3).length=0 from by decide,Nat.mul_zero,Nat.add_zero]
 induction l with
 | nil=>rfl
 | cons c l d =>
  rw[i5,i5,GM,d,i9];show 1+l.length=_;lia
def cD(l:List Nat)(k:Nat)(h:k<=l.length):Dm (txt l) JN (O (k:Int))=txt (l.take k):=by
 have e:B9 JN (O (k:Int)) 1 (txt l).length=Au k:=by
  unfold B9 sliceRange;rw[qK];have n:¬ ((k:Int)<0):=by lia
  have c2:max 0 (min (k:Int) (l.length:Int))=k:=by lia
  simp only[n,if_false,show(1:Int)>0 by decide,if_true,c2];by_cases z:(0:Int)<k
  ·rw[y6 z];have g:(((k:Int)-0+1-1)/1).toNat=k:=by lia
   rw[g];erw[FU (by simp) λi h1 h2=>?_];simp
  ·have f:k=0:=by lia
   subst f;simp
 unfold Dm;rw[e,DV,qK];by_cases c:k=l.length
 ·rw[y6 (by simp[c]),Ao (by lia)]
 ·rw[y4 (by simp; rwa[c])];show(⟨_⟩:j3)=⟨_⟩
  congr 1
  congr 1
  refine DS λi=>?_;rw[Fa];have h2:(Au k).filterMap (λj=>(txt l).cps[j]?)=l.take k:=by
   have:∀ m,m<=l.length->(Au m).filterMap (λj=>(txt l).cps[j]?)=l.take m:=by
    intro m
    induction m with
    | zero=>intro _; simp
    | succ m d =>
     intro o;rw[Gd,Gn,d (by lia),x6]
     congr 1
     rw[c8 (by lia)];simp[txt,BE,show m<l.length by lia]
   rwa[this k h]
  rw[h2,Fa]
def cJ(l:List Nat)(k:Nat)(h:k<=l.length):Dm (txt l) (O (k:Int)) JN=txt (l.drop k):=by
 have e:B9 (O (k:Int)) JN 1 (txt l).length=(Au (l.length-k)).map (k + ·):=by
  unfold B9 sliceRange;rw[qK];have n:¬ ((k:Int)<0):=by lia
  have c2:max 0 (min (k:Int) (l.length:Int))=k:=by lia
  simp only[n,if_false,show(1:Int)>0 by decide,if_true,c2];by_cases z:(k:Int)<l.length
  ·rw[y6 z];have g:(((l.length:Int)-k+1-1)/1).toNat=l.length-k:=by lia
   rw[g];erw[FU (by simp) λi h1 h2=>?_];simp;lia
  ·have f:l.length-k=0:=by lia
   rw[y4 z,f];rfl
 unfold Dm;rw[e,b7,DV,qK];by_cases c:k=0
 ·subst c;rw[y6 (by simp)];rfl
 ·by_cases o:l.length=0
  ·have:l=[]:=List.length_eq_zero_iff.mp o;subst this;rw[y6 (by simp)];rw[List.drop_nil]
  rw[y4 (by simp; lia)];show(⟨_⟩:j3)=⟨_⟩
  congr 1
  congr 1
  have:∀ m,m<=l.length-k->((Au m).map (k + ·)).filterMap (λj=>(txt l).cps[j]?)=(l.drop k).take m:=by
   intro m
   induction m with
   | zero=>intro _; simp
   | succ m d =>
    intro p;rw[Gd,e7,Gn,d (by lia),x6]
    congr 1
    rw[E1,c8 (by lia)];simp[txt,BE,show k+m<l.length by lia]
  rw[this _ (e8 _),Ao (by simp)]
def Yn{l:List Nat}{p c:Nat}(h:p<l.length):l.take p++[c]++l.drop (p+1)=l.set p c:=by
 rw[List.set_eq_take_append_cons_drop,y6 h];simp
def Ys{l:List Nat}{p c:Nat}(h:p<l.length):Dm (txt l) JN (O (p:Int))++chS c++Dm (txt l) (O ((p:Int)+1)) JN=txt (l.set p c):=by
 rw[cD l p (by lia),show((p:Int)+1)=((p+1:Nat):Int) from rfl,cJ l (p+1) (by lia)];show txt _++txt [c]++txt _=_;rw[jr,jr,Yn h]
def cG{l:List Nat}(h1:1<=l.length)(h8:l.length<=8)(h:∀ c∈l,97<=c/\c<=122):sN (txt l):=⟨by rw[qK]; exact h1,by rw[qK]; exact h8,λc d=>h c (by simpa [txt] using d)⟩
def Wa{l:List Nat}{p r:Nat}(f:p<l.length){ws:List j3}(i:ws.length<26):¬ ∀ j,j<26->txt (l.set p (97+(r+j)%26))∈ws:=λh=>by
 have nd:((Au 26).map λj=>txt (l.set p (97+(r+j)%26))).Nodup:=by
  erw[Ck.mpr (Cv.mpr ?_)];erw[Jd ?_ (Ck.mp List.nodup_range)];intro a b d c ne z;have d:=BR.mp d;have c:=BR.mp c;have z:=WI z;have z:=congrArg (λm:List Nat=>m[p]?) z;simp only[DN f,DT] at z;lia
 have:=nd.length_le_of_subset (l₂:=ws) λx e=>by
  obtain⟨j,g,rfl⟩:=g7.mp e;rwa[h j (BR.mp g)]
 rw[b7,DV] at this;lia
def VT(x y:j3):eqV (.str x) (.str y)=decide (x=y):=by
 unfold eqV
 first
  | rfl
  | simp
  | (by_cases h:x=y <;> simp[h])
def VC(x:j3)(ns:List j3):inV (.str x) (ns.map V.str)=decide (x∈ns):=by
 unfold inV
 induction ns with
 | nil=>simp
 | cons y ns c =>
  rw[i5,Cy,c,VT];by_cases h:x=y
  ·subst h; simp
  ·simp[h,AR h]
def aR(ns:List j3):(ns.map V.str).all kR=true:=by
 rw[EK];rwa[AU.mpr λ_ _=>rfl]
end Sea

namespace Sea
def lwK(m b r n:c7)(k:Int):List (Key×V):=[(.inr "marks",.ref m),(.inr "banks",.ref b),(.inr "runs",.ref r),(.inr "notes",.ref n),(.inr "next",.int k)]
section
variable{m b r n c:c7}{k j:Int}
def vH:vS (lwK m b r n k) (.inr "marks")=O (.ref m):=by symm
def lU:vS (lwK m b r n k) (.inr "banks")=O (.ref b):=by symm
def ua:vS (lwK m b r n k) (.inr "runs")=O (.ref r):=by symm
def rY:vS (lwK m b r n k) (.inr "notes")=O (.ref n):=by symm
def ny:vS (lwK m b r n k) (.inr "next")=O (.int k):=by symm
def oN:vR (lwK m b r n k) (.inr "next") (.int j)=lwK m b r n j:=by symm
end
structure LwA(H:Hp)(d m b r n:c7)(S:BS):Prop where
 at_:Rd H d (.dK (lwK m b r n S.coming))
 ma:zr H m (mkE S.marks)
 ba:zr H b (bkE S.banks)
 ru:∃ rs,H r=O (.lst rs)/\xT H (S.runs.map ptD) rs
 no:zr H n (ntE S.notes)
def ZU(H:Hp)(d:c7)(S:BS):Prop:=∃ m b r n,LwA H d m b r n S
section
variable{φ:c7->Prop}{H H1:Hp}{d m b r n:c7}{S:BS}
def LwA.samE(h:LwA H d m b r n S)(s:vW φ H H1)(nd:∀ a f,Rd H a (.dK f)->¬ φ a)(c:∀ a e,H a=O (.tup e)->¬ φ a)(g:∀ e,H r=O (.lst e)->¬ φ r):LwA H1 d m b r n S :=
 ⟨s.rd (nd _ _ h.at_) h.at_,h.ma.samE s nd c,h.ba.samE s nd c,let ⟨rs,h1,h2⟩:=h.ru;⟨rs,s.lst (g _ h1) h1,h2.sam s c⟩,h.no.samE s nd c⟩
def LwA.to(h:LwA H d m b r n S)(s:Sam H H1):LwA H1 d m b r n S:=h.samE s (λ_ _ _=>id) (λ_ _ _=>id) (λ_ _=>id)
def ZU.to(h:ZU H d S)(s:Sam H H1):ZU H1 d S:=let ⟨m,b,r,n,q⟩:=h;⟨m,b,r,n,q.to s⟩
def xT.drop:∀{l:List Dt}{c:List V}(k:Nat),xT H l c->xT H (l.drop k) (c.drop k)
 | _,_,0,h=>h
 | [],_,k+1,h=>by rw[yC.mp h]; rwa[yC.mpr rfl]
 | d::l,_,k+1,h=>by
  obtain⟨x,r,e,_,h2⟩:=zJ.mp h;rw[e];rwa[xT.drop k h2]
def xT.take:∀{l:List Dt}{c:List V}(k:Nat),xT H l c->xT H (l.take k) (c.take k)
 | _,_,0,h=>yC.mpr rfl
 | [],_,k+1,h=>by rw[yC.mp h]; rwa[yC.mpr rfl]
 | d::l,_,k+1,h=>by
  obtain⟨x,r,e,h1,h2⟩:=zJ.mp h;rw[e];rwa[zJ.mpr ⟨x,_,rfl,h1,xT.take k h2⟩]
def kO{f:List (Int×Int)}{c:List V}{i:Nat}{x:V}(h:xT H (f.map ptD) c)(e:c[i]?=O x):∃(p:Int×Int)(a:c7),f[i]?=O p/\x=.ref a/\H a=O (.tup [.int p.1,.int p.2]):=by
 obtain⟨d,g,hd⟩:=h.back e;rw[d9,o6] at g;obtain⟨p,j,rfl⟩:=g;obtain⟨a,o,l⟩:=qo hd;rwa[p,a,j,o,l]
end
def eK{c:List V}{i j:Nat}(d:j<=c.length)(hi:i<=c.length):qy c (O (i:Int)) (O (j:Int))=(c.drop i).take (j-i):=by
 unfold qy;rw[HT.sIx_nat,HT.sIx_nat,CY hi,CY d]
def qZ(runs:List (Int×Int))(i j:Nat):List (Int×Int):=(runs.drop (min i j)).take (max i j-min i j)
def tX(i j:Nat):Int:=if j<i then -1 else 1
def uF(runs:List (Int×Int))(i j:Nat):Int×Int:=(tX i j*((qZ runs i j).map (·.1)).sum,tX i j*((qZ runs i j).map (·.2)).sum)
def vp(runs:List (Int×Int))(i j:Nat):(qZ runs i j).length<=runs.length:=by
 unfold qZ;rw[i7,x5];lia
def oq:∀(l:List Int)(M:Nat),(∀ x∈l,x.natAbs<=M)->l.sum.natAbs<=l.length*M
 | [],_,_=>by simp
 | x::l,M,h=>by
  have d:=oq l M λy c=>h y (.tail _ c);have e:=h x (.head _);rw[GM,i9,Nat.add_mul,Nat.one_mul];have:=FA x l.sum;lia
end Sea

namespace L2
def dY{ns:List j3} : ∀{c:List c6},yN (ns.map V.str) c->StrsAre c ns:=by
 induction ns with
 | nil=>intro c r; rw[Dk] at r; cases r; rwa[.nil]
 | cons n ns g =>
  intro c r;rw[i5] at r;cases r with
  | cons f d =>
   obtain⟨t,e⟩:=f;subst e;rwa[.cons n t (g d)]
def UU:∀{c:List c6}{ns:List j3},StrsAre c ns->yN (ns.map V.str) c
 | _,_,.nil=>.nil
 | _,_,.cons n t h=>.cons ⟨t,rfl⟩ (UU h)
section
variable{X:Cx}
def ql:uH X (.builtin "sorted") (λg H Q=>E2 λ(l:c7) (ns:List j3)=>A4 (g=[.ref l]) (SqL X.K H l (ns.map V.str)) (ns.length<64) (∀(p:c7)(c:List j3),H p=JN->c.Perm ns->sortedS c=JO->Q (.ref p) (upd H p (.lst (c.map V.str))))):=by
 intro C s z H g A Q I r h;obtain⟨l,ns,rfl,n,f,q⟩:=h;obtain⟨u,rfl,ru⟩:=yN.one r;cases ru;obtain⟨d,i,m,B⟩:=I.list n;have v:=i.length;rw[b7] at v;erw[sorted_strs (ss:=ns) m.isList (dY i) (by lia) λout c y j x=>?_];obtain⟨e,at'⟩:=sortedAll_at s.heap d out;have w:H (s.heap.objs.size+1)=none:=I.hok.fresh (Bb _);erw[.ref (s.heap.objs.size+1),_,I.laid (t':=s.toks) (a:=s.heap.objs.size+1) (o:=.lst (c.map V.str)) (λb ob q=>sortedAll_old q) (Bb _) ?_,rfl,q _ c w j x];refine⟨?_,out.toList,e,UU y,by simpa using at'⟩;rw[b7,j.length_eq];rwa[f9 (Bu f) (by rw[sizeLine_eq]; decide)]
end
def iO(v d:c7)(h:w9):Prop:=h.IsItemsView v d
section
variable{X:Cx}{l:Am}{te:TE}{apos pos:DD}
def Td(te:TE):TE:=λf H Q=>te f H λx e=>E2 λ(d:c7) (c:List (Key×V))=>A3 (x=.ref d) (Rd e d (.dK c)) (∀ v,e v=JN->Q (.ref v) (upd e v (.ext (iO v d))))
def Xi(y:PE X l te)(g:attributeBase l "items" X.env (eval l X.env)=eval l X.env:=by rfl)(f:(apos.endLine == pos.line)=true:=by rfl):PE X (.Call (.Attribute l "items" apos) [] [] pos) (Td te):=by
 intro z s n H Q I h;erw[Hi (T := "dict") (id := "dict.items") g rfl f F.plainAttrs_dict Hj F.type_dict_items (thn (y z s n H _ I h) λv i ⟨x,B,m,r,d,u,e,hd,q⟩=>?_)];subst e;cases r;obtain⟨A,ns,p,rel,j⟩:=hd.ok m.hok;exists j.typeIs,j.mapOf.noDict;show wpAny _ _ (callWith pos (.builtin "dict.items") [.ref d] [] []) _ _ i;erw[method_meetsIn Hj F.entry_dict_items rfl (GG ⟨rfl,j.typeIs,F.args_dict_items_1 _,_,meets_dict_items (yY X.prog X.w) d ns,⟨p,j⟩,?_⟩)];erw[.ref i.heap.objs.size,_,m.laid (t':=i.toks) (a:=i.heap.objs.size) (o:=.ext (iO i.heap.objs.size d)) (λb o e=>c9 _ e) (e8 _) ⟨⟨_,i8 _ rfl,rfl,rfl⟩,⟨_,i8 _ rfl⟩,λh1 h2 ⟨o,e,c⟩ k=>⟨o,k o e,c⟩⟩,rfl,q _ (m.hok.fresh (e8 _))]
end
def Inv.more{X:Cx}{i:List (c7×By)}{j:St}{H:Hp}{s:d7}{a:c7}{o:HO}(I:Inv X i j H s)(f:eX X i H a)(new:wN X.prog X.w (upd H a o) s.heap a o):Inv X i j (upd H a o) s:=by
 obtain⟨E,D,G,C,B,A⟩:=f;have d:∀{b:c7}{u:HO},H b=O u->upd H a o b=O u:=λ{b u} e=>by
  rw[zD (λz=>by rw[z,E] at e; cases e)];rwa[e]
 have g:∀{b:c7},b≠a->H b=JN->upd H a o b=none:=λ{b} n e=>by rw[zD n]; rwa[e]
 have lo:∀{b:c7}{u:By},X.s₀.heap.get? b=O u->b ∉ X.ex->b≠a:=λ{b u} e h z=>by
  rcases C with q | q
  ·rwa[h (by rw[z]; exact q)]
  ·rwa[y9 (g9 e) (Nat.not_lt.mpr (by rw[z]; exact q))]
 refine⟨I.ok,I.os,I.bare,⟨I.base.keep,I.base.slot,λb u e n h=>g (lo e h) (I.base.free b u e n h),I.base.there,λb l e=>d (I.base.tups b l e),λb u v e=>d (I.base.frzs b u v e),
  λb y e=>let ⟨more,q⟩:=I.base.tbls b y e;⟨more,d q⟩⟩,I.loc,I.cell,g (AR D) I.free,λx c e=>g (B x c e) (I.freeC x c e),λp m=>?_,λb u e=>?_,I.len⟩
 ·obtain⟨h1,h2,h3⟩:=I.pin p m;rwa[h1,g (A p m) h2,h3]
 ·by_cases r:b=a
  ·subst r;rw[zA] at e;cases e;rwa[new]
  ·rw[zD r] at e;exact(I.hok b u e).stay (λc v _ q=>q) (λc q=>d q) λc l q=>d q
section
open PySem.W
variable{prog:m9}{w:r9}{A:Ac}{E:c6->d7->Prop}{s:d7}
def Ze{c:Nat->Nat->(Bool->d7->Prop)->d7->Prop}{p:Array Nat}{Q:Nat->d7->Prop} : ∀(f m:Nat),(∀ i,m<=i->i<m+f->∀ C:Bool->d7->Prop,C JP s->c (p.getD i 0) (p.getD (i-1) 0) C s)->Q (m+f) s->(kas_asc p f m).kasWp c Q s
 | 0,m,_,h=>h
 | f+1,m,d,h=>by
  erw[d m (e8 _) (by lia) _ ?_];show(if JP=JO then KasT.ret m else kas_asc p f (m+1)).kasWp c Q s;rw[y4 (by simp)];exact Ze f (m+1) (λi h1 h2=>d i (by lia) (by lia)) (by rw[show m+1+f=m+(f+1) by lia]; rwa[h])
def gF{c:Nat->Nat->(Bool->d7->Prop)->d7->Prop}{n:Nat}{Q:Array Nat->d7->Prop}(h1:1<=n)(d:∀ i,1<=i->i<n->∀ C:Bool->d7->Prop,C JP s->c i (i-1) C s)(h:Q (Ah (Au n)) s) :
  (kas_sort n).kasWp c Q s:=by
 have g:∀{i:Nat},i<n->(Ah (Au n)).getD i 0=i:=λ{i} hi=>by simp[hi]
 unfold kas_sort kas_count;rw[Ij,Ij];erw[Ze (n-1) 1 (λi a b=>?_) ?_]
 ·rw[g (by lia),g (by lia)];rwa[d i a (by lia)]
 ·rw[show 1+(n-1)=n by lia,y6 (by simp)];show(if n<n then _ else KasT.ret (Ah (Au n))).kasWp c Q s;rw[y4 (Bh _)];rwa[h]
def pA{a:c7}{d:List c6}{n:Nat}{P:JL->d7->Prop}(v:s.heap.get? a=O (seqObj "list" d.toArray n))(H:d.length<64)
  (M:∀ j:w9,(∀ b o,b≠a->s.heap.get? b=O o->j.get? b=O o)->2<=d.length->∃ l:Bt,(∀ Q:Bt->d7->Prop,Q l { s with heap:=j }->wpAny (model prog w) A (keyKind' d.toArray) Q E { s with heap:=j }) /\
   ∀ i,1<=i->i<d.length->∀ C:Bool->d7->Prop,C JP { s with heap:=j }->kas_ask prog w A l d i (i-1) C { s with heap:=j })
  (h:∀(j:w9)(c:Nat),(∀ b o,b≠a->s.heap.get? b=O o->j.get? b=O o)->j.get? a=O (seqObj "list" d.toArray c)->P (.done (.ret .none)) { s with heap:=j }) :
  wpAny (model prog w) A (Di.«list.sort» ⟨[.ref a],[]⟩) P E s:=by
 have Z:a<s.heap.objs.size:=g9 v;obtain⟨J,r⟩:∃ J,(s.heap.update a (AB λ_=>(#[]:Array c6))).get? a=O (seqObj "list" #[] J):=⟨_,get?_update_seq v λ_=>#[]⟩;rw[list_sort_plain];refine b9 (listItems_at v rfl ?_);refine b9 (listUpdate_at v rfl ?_ (by rw[g6,sizeLine_eq]; lia) (m7 _));refine b9 (seqEpoch_at r rfl ?_);refine b9 (Gv ?_ (by show d.length<=_; rw[sizeLine_eq]; lia));refine b9 (FJ ?_ (m7 _));refine Ca ?_;have f:(((s.heap.update a (AB λ_=>#[])).push (seqObj "tuple" d.toArray 0)).push (seqObj "list" #[] 0)).get? a=O (seqObj "list" #[] J):=c9 _ (c9 _ r);have kp:∀ b o,b≠a->s.heap.get? b=O o->(((s.heap.update a (AB λ_=>#[])).push (seqObj "tuple" d.toArray 0)).push (seqObj "list" #[] 0)).get? b=O o:=λb o x e =>
  c9 _ (c9 _ ((AK _ _ (AR x)).trans e))
 have I:∀ c,(((((s.heap.update a (AB λ_=>#[])).push (seqObj "tuple" d.toArray 0)).push (seqObj "list" #[] 0)).update a (AB λ_=>d.toArray))).get? a=O (seqObj "list" d.toArray c)->P (.done (.ret .none)) { s with heap:=((((s.heap.update a (AB λ_=>#[])).push (seqObj "tuple" d.toArray 0)).push (seqObj "list" #[] 0)).update a (AB λ_=>d.toArray)) }:=λc e =>
  h _ c (λb o x q=>(AK _ _ (AR x)).trans (kp b o x q)) e
 obtain⟨c2,D⟩:∃ c2,(((((s.heap.update a (AB λ_=>#[])).push (seqObj "tuple" d.toArray 0)).push (seqObj "list" #[] 0)).update a (AB λ_=>d.toArray))).get? a=O (seqObj "list" d.toArray c2):=⟨_,get?_update_seq f λ_=>d.toArray⟩;have done:=I c2 D;show wpAny (model prog w) A _ P E { s with heap:=((s.heap.update a (AB λ_=>#[])).push (seqObj "tuple" d.toArray 0)).push (seqObj "list" #[] 0) };dsimp only;have z:d.toArray.size=d.length:=by simp
 by_cases h2:d.toArray.size<2
 ·rw[y6 h2,y6 h2];refine b9 (e9 ?_);rw[Ih];refine b9 (e9 ?_);dsimp only;have em:(d.toArray.zip d.toArray).map (·.2)=d.toArray:=by
   apply FO.mp;simp;rwa[FP (e8 _)]
  erw[b9 (seqEpoch_at f rfl ?_)];refine b9 (listUpdate_at f rfl ?_ (hsz2:=by rw[Iy]; show(pairsOf d).size<=_; rw[pairsOf_size,sizeLine_eq]; lia));simp only[bne_self_eq_false,BO,if_false];erw[e9 ?_];show P _ { s with heap:=Heap.update _ a (AB λ_=>(d.toArray.zip d.toArray).map (·.2)) };rw[em];rwa[done]
 ·rw[y4 h2,y4 h2];have u:2<=d.length:=by lia
  obtain⟨l,y,B⟩:=M _ kp u;refine b9 (y _ ?_);refine b9 (BA (kat_run (s:={ s with heap:=((s.heap.update a (AB λ_=>#[])).push (seqObj "tuple" d.toArray 0)).push (seqObj "list" #[] 0) }) (κ:=l) (ks:=d) (vs:=d)
   (G:=λp m=>p=Ah (Au d.length)/\m={ s with heap:=((s.heap.update a (AB λ_=>#[])).push (seqObj "tuple" d.toArray 0)).push (seqObj "list" #[] 0) })
   (Q:=λg m=>(arrOf g).map (·.2)=d.toArray/\failedOf g=JN/\m={ s with heap:=((s.heap.update a (AB λ_=>#[])).push (seqObj "tuple" d.toArray 0)).push (seqObj "list" #[] 0) })
   rfl u H (λY g m a1 X T ⟨S,R⟩=>⟨?_,T,R⟩) (gF (by lia) B ⟨rfl,rfl⟩)) ?_ λ_ _ e=>e)
  ·rw[kat_snds rfl X,S];apply FO.mp;show(Au d.length).map (λi=>d.getD i AA)=d;erw[FU (by simp) λi h1 h3=>?_];simp at h1;simp[h1]
  rintro⟨⟨⟩,g⟩ m ⟨L,N,rfl⟩;dsimp only;erw[b9 (seqEpoch_at f rfl ?_)];erw[b9 (listUpdate_at f rfl ?_ (hsz2:=by rw[L,z,sizeLine_eq]; lia))];rw[N,L];simp only[bne_self_eq_false,BO,if_false];rwa[e9 done]
end
section
open PySem.W
variable{X:Cx}{JQ:List (c7×By)}{σ:St}{H:Hp}{s:d7}
def Inv.tuples{lo:c7} : ∀{as:List c7}{H:Hp}(c:List (List V)),Inv X JQ σ H s->as.Pairwise (· < ·)->(∀ a∈as,eX X JQ H a)->as.length=c.length->(∀(j:Nat)(a:c7)(d:List V),as[j]?=O a->c[j]?=O d->∀ D,wN X.prog X.w D s.heap a (.tup d)) ->
  ∃ f,Inv X JQ σ f s/\Same H f/\(∀(j:Nat)(a:c7)(d:List V),as[j]?=O a->c[j]?=O d->f a=O (.tup d))/\∀ b,b ∉ as->f b=H b
 | [],H,[],I,_,_,_,_=>⟨H,I,Same.refl _,λj a d e=>by simp at e,λ_ _=>rfl⟩
 | [],_,_::_,_,_,_,h,_=>by simp at h
 | _::_,_,[],_,_,_,h,_=>by simp at h
 | a::as,H,d::c,I,v,r,h,q=>by
  have u:=r a (.head _);have g:=DI.mp v;have C:=I.more (o:=.tup d) u (q 0 a d rfl rfl _);obtain⟨f,B,p,x,n2⟩:=Inv.tuples (lo:=lo) (as:=as) c C g.2 (λb i=>by
   obtain⟨A,y⟩:=r b (.tail _ i);rwa[by rw[zD (Ct (g.1 b i))]; exact A,y]) (by simpa using h) (λj b n m l=>q (j+1) b n (by simpa using m) (by simpa using l))
  erw[f,B,(zB u.1 _).trans p,λj b n m l=>?_,λb i=>?_]
  ·cases j with
   | zero =>
    simp at m l;subst m l;rwa[p _ _ zA]
   | succ j=>exact x j b n (by simpa using m) (by simpa using l)
  ·rw[n2 b (λz=>i (.tail _ z)),zD (λz=>i (by rw[z]; rwa[.head _]))]
def lI{h:w9} : ∀{as:List c7}{ns:List Int},as.length=ns.length->(∀(j:Nat)(a:c7)(n:Int),as[j]?=O a->ns[j]?=O n->∃ t x,h.get? a=O { cls:=.type "tuple",data:=.seq #[.int n t,x] }) ->
  ∃ fs,KatTups h (as.map j8) fs/\fs.length=ns.length/\∀ v∈fs,∃ n t,v=C3 n t
 | [],[],_,_=>⟨[],.nil,rfl,λv c=>nomatch c⟩
 | [],_::_,d,_=>by simp at d
 | _::_,[],d,_=>by simp at d
 | a::as,n::ns,d,g=>by
  obtain⟨t,x,e⟩:=g 0 a n rfl rfl;obtain⟨fs,k,l,f⟩:=lI (as:=as) (ns:=ns) (by simpa using d) λj b m h1 h2=>g (j+1) b m (by simpa using h1) (by simpa using h2);erw[.int n t::fs,.cons e rfl rfl rfl k,by simp[l],λv c=>?_];rcases o0.mp c with rfl | c
  ·rwa[n,t,rfl]
  ·rwa[f v c]
def hW(hc:X.calm=JO):uH X (.builtin "sorted") (λxs H Q=>E3 λ(v d:c7) (f:List (Int×V))=>A6 (xs=[.ref v]) (H v=O (.ext (iO v d))) (Rd H d (.dK (f.map λe=>(.inl e.1,e.2)))) (f.length<64) ((f.map (·.1)).Pairwise (· < ·)) (∀(p:c7)(as:List c7)(H2:Hp),Same H H2->H p=JN->as.length=f.length->H2 p=O (.lst (as.map V.ref))->(∀(j:Nat)(a:c7)(e:Int×V),as[j]?=O a->f[j]?=O e->H a=JN/\H2 a=O (.tup [.int e.1,e.2]))->Q (.ref p) H2)):=by
 intro JQ s σ H xs us Q I r h;obtain⟨v,d,f,rfl,hv,hd,h64,hr,q⟩:=h;obtain⟨u,rfl,ru⟩:=yN.one r;cases ru;obtain⟨hz,ns,P,rel,da⟩:=hd.ok I.hok;obtain⟨o,es,ep,e,c,dt,hk,hp,hn⟩:=da;have hl:P.length=f.length:=by rw[<- rel.length,b7]
 have dat:s.heap.DictAt (yY X.prog X.w) d P ep:=⟨o,es,e,c,dt,hk,hp,hn⟩;have M:s.heap.IsItemsView v d:=(show wN X.prog X.w H s.heap v (.ext (iO v d)) from I.hok v _ hv).1;have ul:f.length<=sizeLine:=by rw[sizeLine_eq]; lia
 have hh:X.A.in1.handled=none:=I.ok.hd hc;refine Fh kind_sorted plain_sorted entry_sorted (args_sorted1 _) ?_;unfold Di.«sorted»;refine b9 (m:=checkCount "sorted" 1 1 _) (e9 ?_);refine b9 (kdx_collect (knd:=yY X.prog X.w) (kvs:=P) (ep:=ep) hh M dat (by rw[hl]; exact ul) λB J as keep la G=>?_);refine b9 (FJ ?_ (by rw[b7,la,hl]; exact ul));have L:as.length=f.length:=la.trans hl;have at_:∀(j:Nat)(a:c7)(e:Int×V),as[j]?=O a->f[j]?=O e->∃ t x,xJ e.2 x/\B.get? a=O { cls:=.type "tuple",data:=.seq #[.int e.1 t,x] }:=λj a e l z=>by
  obtain⟨key,k,x,E,D,g3⟩:=G.pairs j a l;obtain⟨u,hu,ru⟩:=KV.at (vs:=P) (i:=j) (k:=.inl e.1) (v:=e.2) rel (by rw[d9,z]; rfl);rw[hu] at E;cases E;have g2':ge (CQ e.1) key=true:=D;rcases yX g2' with ⟨i,t,S,N⟩ | ⟨y,t,S,N⟩
  ·cases S;rw[N] at g3;rwa[t,_,ru,g3]
  ·cases S
 have R:(B.push (seqObj "list" (as.map j8).toArray 0)).get? B.objs.size=O (seqObj "list" (as.map j8).toArray 0):=i8 _ rfl;show wpAny _ _ _ _ _ { s with heap:=B.push (seqObj "list" (as.map j8).toArray 0),toks:=J };erw[b9 (Ca (Bj slot_list_sort ⟨_,R,rfl⟩ entry_list_sort ?body (args_list_sort _)))]
 case body =>
  refine pA (s:={ s with heap:=B.push (seqObj "list" (as.map j8).toArray 0),toks:=J }) R (by rw[b7,L]; rwa[h64]) (λh2 Z two=>?_) λh2 c Z N=>⟨_,rfl,e9 ⟨_,rfl,?_⟩⟩
  ·have Y:∀(j:Nat)(a:c7)(e:Int×V),as[j]?=O a->f[j]?=O e->∃ t x,xJ e.2 x/\h2.get? a=O { cls:=.type "tuple",data:=.seq #[.int e.1 t,x] }:=λj a e l z=>by
    obtain⟨t,x,E,D⟩:=at_ j a e l z;rwa[t,x,E,Z a _ (o9 (g9 D)) (c9 _ D)]
   have one:∀ j,j<f.length->∃(a:c7)(t:Ju)(x:c6),(as.map j8)[j]?=O (.ref a)/\h2.get? a=O { cls:=.type "tuple",data:=.seq #[.int (f[j]?.getD (0,V.int 0)).1 t,x] }:=λj hj=>by
    have ej:f[j]?=O f[j]:=c8 hj;have ea:as[j]?=O as[j]:=c8 (by lia);obtain⟨t,x,_,g⟩:=Y j _ _ ea ej;rwa[as[j],t,x,by rw[d9,ea]; rfl,by rw[ej]; exact g]
   rw[b7,L] at two;erw[tuples' JO,λQ' hq=>?_,λi h1 hi C hC=>?_]
   ·obtain⟨fs,kt,fl,fi⟩:=lI (h:=h2) (ns:=f.map (·.1)) (as:=as) (by rw[b7,L]) λj a n l hn=>by
     rw[d9,o6] at hn;obtain⟨e,z,rfl⟩:=hn;obtain⟨t,x,_,g⟩:=Y j a e l z;rwa[t,x,g]
    exact kat_kind (T:=.type "int") kt (by rw[fl,b7]; lia) (λv hv=>let ⟨n,t,e⟩:=fi v hv; by rw[e]; rwa[.now]) (by decide) hq
   ·rw[b7,L] at hi;obtain⟨a,t,x,S,E⟩:=one i hi;obtain⟨b,u,y,N,D⟩:=one (i-1) (by lia);unfold kas_ask;rw[Bg,Bg,S,N];refine kat_lt E rfl D rfl (kat_cons (FK ?_));have lt:(f[i-1]?.getD (0,V.int 0)).1<(f[i]?.getD (0,V.int 0)).1:=by
     rw[c8 hi,c8 (show i-1<f.length by lia)];have:=Cp.mp hr (i-1) i (by rw[b7]; lia) (by rw[b7]; lia) (by lia);rw[CN,CN] at this;rwa[this]
    rw[show((f[i]?.getD (0,V.int 0)).1 ==(f[i-1]?.getD (0,V.int 0)).1)=JP from by
     rw[x4];lia]
    erw[kat_no (oneLt_int ?_)];rw[y8 (by lia)];rwa[hC]
  ·have kp:∀ b o,s.heap.get? b=O o->h2.get? b=O o:=λb o e=>Z b o (o9 (g9 (keep b o e))) (c9 _ (keep b o e));have I2:Inv X JQ σ H { s with heap:=h2,toks:=J }:=I.kept (t':=J) kp;have ab:∀ a∈as,s.heap.objs.size<=a:=λa l=>Bu (G.above a l);have I1:Inv X JQ σ H { s with heap:=B,toks:=J }:=I.kept (t':=J) keep;have fp:=I1.fpOk (H':=H) (e8 _) (I1.hok.fresh (e8 _));have I3:Inv X JQ σ (upd H B.objs.size (.lst (as.map V.ref))) { s with heap:=h2,toks:=J }:=I2.more fp ⟨by rw[b7,L]; exact ul,as.map j8,c,zb as,N⟩;obtain⟨H3,I4,s3,g3,n3⟩:=I3.tuples (lo:=0) (f.map λe=>[V.int e.1,e.2]) G.rise (λa l=>by
    refine I.fpOk (ab a l) ?_;rw[zD (o9 (G.there l))];exact I.hok.fresh (ab a l)) (by rw[b7,L]) λj a xs l hx H'=>by
     rw[d9,o6] at hx;obtain⟨e,z,rfl⟩:=hx;obtain⟨t,x,E,D⟩:=at_ j a e l z;exact⟨by show 2<=sizeLine; rw[sizeLine_eq]; decide,[.int e.1 t,x],.cons ⟨t,rfl⟩ (.cons E .nil),_,Z a _ (o9 (g9 D)) (c9 _ D),rfl,_,rfl⟩
   rwa[.ref B.objs.size,H3,I4,rfl,q B.objs.size as H3 ((zB fp.1 _).trans s3) fp.1 L (s3 _ _ zA) λj a e l z=>⟨I.hok.fresh (ab a (f7 l)),g3 j a _ l (by rw[d9,z]; rfl)⟩]
end
end L2

namespace Sea
section
variable{H H1:Hp}
def fV:∀{l:List (Int×Deed)}{c:List (Key×V)},wC H c (ntE l)->∃ d:List (Int×V),c=d.map (λe=>(.inl e.1,e.2))/\d.map (·.1)=l.map (·.1)/\xT H (l.map (·.2.dt)) (d.map (·.2))
 | [],_,h=>⟨[],h.nil_iff,rfl,yC.mpr rfl⟩
 | (n,D)::l,_,h=>by
  obtain⟨v,r,rfl,h1,h2⟩:=wC.cons_iff.mp h;obtain⟨d,rfl,e,h3⟩:=fV (l:=l) h2;rwa[(n,v)::d,rfl,by rw[i5,i5,e],zJ.mpr ⟨v,_,rfl,h1,h3⟩]
def kP:∀{l:List (j3×Int×Int)}{c:List (Key×V)},wC H c (mkE l)->c.map (λd=>kV d.1)=(l.map (·.1)).map V.str
 | [],_,h=>by rw[h.nil_iff]; rfl
 | (n,p)::l,_,h=>by
  obtain⟨v,r,rfl,h1,h2⟩:=wC.cons_iff.mp h;rw[i5,kP h2];rfl
structure WR(H:Hp)(as:List c7)(l:List (Int×Deed)):Prop where
 len:as.length=l.length
 at_:∀(j:Nat)(a:c7)(e:Int×Deed),as[j]?=O a->l[j]?=O e->∃ v,H a=O (.tup [.int e.1,v])/\Rep H e.2.dt v
def aM(S:BS):Prop:=(S.notes.map (·.1)).Pairwise (· < ·)
def xy{S:BS}{n:j3}{p:Int×Int}(h:zT S n=O p):(n,p)∈S.marks:=by
 unfold zT at h;rw[o6] at h;obtain⟨e,h1,rfl⟩:=h;have h2:=List.find?_some h1;have c:e.1=n:=of_decide_eq_true h2;rw[<- c];rwa[List.mem_of_find?_eq_some h1]
def rH{S:BS}{n:j3}(h:n∈S.marks.map (·.1)):∃ p,zT S n=O p:=by
 obtain⟨e,h1,h2⟩:=g7.mp h;unfold zT;cases q:S.marks.find? λe=>decide (e.1=n) with
 | none=>rwa[y9 (CT.mp q e h1) (by simp[h2])]
 | some c=>rwa[c.2,rfl]
def tS{S:BS}{m:c7}{n:j3}{p:Int×Int}(h:zr H m (mkE S.marks))(e:zT S n=O p):∃(c:List (Key×V))(a:c7),Rd H m (.dK c)/\vS c (.inr n)=O (.ref a)/\H a=O (.tup [.int p.1,.int p.2]):=by
 obtain⟨c,h1,h2⟩:=h;obtain⟨v,g,r⟩:=h2.get (k:=.inr n) (d:=ptD p) (by rw[se,e]; rfl);obtain⟨a,rfl,f⟩:=qo r;rwa[c,a,h1,g,f]
def Zg:∀{l:List (Int×Int)}{k i:Nat}{p:Int×Int},l[i]?=O p->look ((l.zipIdx k).map λe=>((.inl (e.2:Int):Key),ptD e.1)) (.inl ((k+i:Nat):Int))=O (ptD p)
 | [],_,_,_,e=>by simp at e
 | q::l,k,0,p,e=>by
  simp at e;subst e;simp[look,Dl]
 | q::l,k,i+1,p,e=>by
  have c:=Zg (l:=l) (k:=k+1) (i:=i) (p:=p) (by simpa using e);rw[Dl,i5];unfold look at c ⊢;rw[AF,y8 (by intro z; injection z with z; simp at z; lia)];rw[show k+1+i=k+(i+1) by lia] at c;rwa[c]
def Xe{S:BS}{r:c7}{i:Nat}{p:Int×Int}(h:zr H r (rnE S.runs))(e:S.runs[i]?=O p):∃(c:List (Key×V))(a:c7),Rd H r (.dK c)/\vS c (.inl (i:Int))=O (.ref a)/\H a=O (.tup [.int p.1,.int p.2]):=by
 obtain⟨c,h1,h2⟩:=h;have:=Zg (k:=0) e;rw[Nat.zero_add] at this;obtain⟨v,g,r⟩:=h2.get (k:=.inl (i:Int)) (d:=ptD p) this;obtain⟨a,rfl,f⟩:=qo r;rwa[c,a,h1,g,f]
end
section
variable{H H1:Hp}{S:BS}
structure za(H:Hp)(S:BS)(as:List c7)(ms:List j3):Prop where
 mk ::
 len:as.length=ms.length
 at_:∀(j:Nat)(a:c7)(n:j3),as[j]?=O a->ms[j]?=O n->∃ p:Int×Int,zT S n=O p/\H a=O (.tup [.str n,.int p.1,.int p.2])
def za.samE{c:c7->Prop}{as:List c7}{d:List j3}(h:za H S as d)(s:vW c H H1)(f:∀ a e,H a=O (.tup e)->¬ c a):za H1 S as d :=
 ⟨h.len,λj a n i g=>let ⟨p,h1,h2⟩:=h.at_ j a n i g;⟨p,h1,s.tup (f _ _ h2) h2⟩⟩
def za.app{as:List c7}{f:List j3}{a:c7}{n:j3}{p:Int×Int}(h:za H S as f)(h1:zT S n=O p)(h2:H a=O (.tup [.str n,.int p.1,.int p.2])):za H S (as++[a]) (f++[n]) :=
 ⟨by rw[f8,f8,h.len]; rfl,λj b m c d=>by
  rcases Hk j as.length with z | z
  ·rw[At z] at c;rw[At (by rw[<- h.len]; rwa[z])] at d;rwa[h.at_ j b m c d]
  ·rw[v9 z] at c;rw[v9 (by rw[<- h.len]; rwa[z]),<- h.len] at d;have e:j-as.length=0:=by have:=(d8.mp c).1; simp at this; lia
   rw[e] at c d;simp at c d;subst c d;rwa[p,h1,h2]⟩
def uw(H:Hp)(d:c7)(S:BS):Prop:=∃ c,Rd H d (.dK c)/\∀ n p,zT S n=O p->∃ a,vS c (.inr n)=O (.ref a)/\H a=O (.tup [.int p.1,.int p.2])
def uw.to{d:c7}(h:uw H d S)(s:Sam H H1):uw H1 d S:=let ⟨kvs,h1,h2⟩:=h;⟨kvs,s.rd id h1,λn p e=>let ⟨a,h3,h4⟩:=h2 n p e;⟨a,h3,s.tup id h4⟩⟩
def wO{D:c7}{u o:HO}(d:H D=O u):vW (λx=>x=D) H (upd H D o):=λx o c e=>.inl (by rw[zD c]; rwa[e])
def vN{D:c7}{d:List V}(f:H D=O (.lst d)):∀ b c,H b=O (.tup c)->¬ b=D:=λb c e z=>by rw[z,f] at e; cases e
end
def VO{i j:Nat}{c:St}{G:V->Hp->Prop}{H:Hp}(h:G (.int (tX i j)) H):if decide ((i:Int)<=j)=JO then tC (.int 1) c H G else tUn (rU λi=>V.int (-i)) (tC (.int 1)) c H G:=by
 erw[ifD (λz=>?_) (λz=>?_)]
 ·have:tX i j=1:=by unfold tX; rw[y4 (by lia)]
  rw[this] at h;rwa[h]
 ·have:tX i j = -1:=by unfold tX; rw[y6 (by lia)]
  rw[this] at h;rwa[_,rfl,h]
end Sea

namespace Sea
structure xG(H:Hp)(as:List c7)(rows:List (List Int)):Prop where
 mk ::
 len:as.length=rows.length
 at_:∀(j:Nat)(a:c7)(r:List Int),as[j]?=O a->rows[j]?=O r->H a=O (.tup (r.map V.int))
def xV(S:BS)(n:j3):Int×Int:=(zT S n).getD (0,0)
def vP(S:BS):Deed->List (List Int)
 | .bearing _ n a b c d=>[zw [-b,a,a*(xV S n).2-b*(xV S n).1],zw [d,-c,(xV S n).1*d-(xV S n).2*c]]
 | .range _ l r=>[zw [(xV S l).2-(xV S r).2,(xV S r).1-(xV S l).1,(xV S r).1*(xV S l).2-(xV S r).2*(xV S l).1]]
 | _=>[]
def YD(x y:Int):List Int->List Int
 | [a,b,c]=>[a,b,c+a*x+b*y]
 | l=>l
def wI:Deed->Int
 | .bearing m _ _ _ _ _=>m
 | .range m _ _=>m
 | _=>0
def yh(S:BS)(j:Nat)(D:Deed):List (List Int):=(vP S D).map (YD (uF S.runs (wI D).toNat j).1 (uF S.runs (wI D).toNat j).2)
def rT(S:BS):Deed->Prop
 | .bearing m n a b c d=>0<=m/\m<=S.runs.length/\(zT S n).isSome=JO/\vf (a,b)/\vf (c,d)
 | .range m l r=>0<=m/\m<=S.runs.length/\(zT S l).isSome=JO/\(zT S r).isSome=JO/\zT S l≠zT S r
 | _=>False
structure gq(S:BS):Prop where
 few:Few S
 fresh:gW S
 rise:aM S
 mk_:∀ e∈S.marks,vt e.2
 way:∀ e∈S.runs,vt e
 note:∀ e∈S.notes,rT S e.2
section
variable{H H1:Hp}{S:BS}
def xG.to{as:List c7}{rows:List (List Int)}(h:xG H as rows)(s:Sam H H1):xG H1 as rows:=⟨h.len,λj a r d c=>s.tup id (h.at_ j a r d c)⟩
def xG.samE{c:c7->Prop}{as:List c7}{rows:List (List Int)}(h:xG H as rows)(s:vW c H H1)(g:∀ a f,H a=O (.tup f)->¬ c a):xG H1 as rows:=⟨h.len,λj a r e d=>s.tup (g _ _ (h.at_ j a r e d)) (h.at_ j a r e d)⟩
def xG.nil:xG H [] []:=⟨rfl,λj a r e=>by simp at e⟩
def xG.one{a:c7}{r:List Int}(h:H a=O (.tup (r.map V.int))):xG H [a] [r]:=⟨rfl,λj b e c d=>by
 cases j with
 | zero=>simp at c d; subst c d; rwa[h]
 | succ j=>simp at c⟩
def xG.app{as bs:List c7}{rows more:List (List Int)}(h:xG H as rows)(k:xG H bs more):xG H (as++bs) (rows++more):=⟨by rw[f8,f8,h.len,k.len],λj a r d c=>by
 rcases Hk j as.length with z | z
 ·rw[At z] at d;rw[At (by rw[<- h.len]; rwa[z])] at c;rwa[h.at_ j a r d c]
 ·rw[v9 z] at d;rw[v9 (by rw[<- h.len]; rwa[z]),<- h.len] at c;rwa[k.at_ _ a r d c]⟩
def wB{n:j3}{p:Int×Int}(h:∀ e∈S.marks,vt e.2)(e:zT S n=O p):vt p:=h _ (xy e)
def xM{n:j3}{p:Int×Int}(e:zT S n=O p):xV S n=p:=by unfold xV; rw[e]; rfl
def Xl{ns:List Int}{M:Nat}(h:∃ x∈ns,x≠0/\x.natAbs<=M):0<yV ns/\yV ns<=M:=by
 obtain⟨x,c,h0,e⟩:=h;have d:yV ns ∣ x.natAbs:=qL c;have p:0<x.natAbs:=by lia
 rwa[Nat.pos_of_dvd_of_pos d p,f9 (FF p d) e]
end
structure xD(H0 H:Hp)(gs:List c7)(rows:List (List (List Int))):Prop where
 mk ::
 len:gs.length=rows.length
 new:∀ g∈gs,H0 g=JN
 at_:∀(j:Nat)(g:c7)(r:List (List Int)),gs[j]?=O g->rows[j]?=O r->∃ as:List c7,H g=O (.lst (as.map V.ref))/\xG H as r
section
variable{H0 H H1:Hp}{S:BS}
def xD.samE{c:c7->Prop}{d:List c7}{rows:List (List (List Int))}(h:xD H0 H d rows)(s:vW c H H1)(i:∀ a f,H a=O (.tup f)->¬ c a)(l:∀ g∈d,¬ c g):xD H0 H1 d rows :=
 ⟨h.len,h.new,λj g r e m=>let ⟨as,h1,h2⟩:=h.at_ j g r e m;⟨as,s.lst (l g (f7 e)) h1,h2.samE s i⟩⟩
def xD.nil:xD H0 H [] []:=⟨rfl,λg c=>(nomatch c),λj a r e=>by simp at e⟩
def xD.snoc{f:List c7}{rows:List (List (List Int))}{g:c7}{as:List c7}{r:List (List Int)}(h:xD H0 H f rows)(h0:H0 g=JN)(h1:H g=O (.lst (as.map V.ref)))(h2:xG H as r):xD H0 H (f++[g]) (rows++[r]) :=
 ⟨by rw[f8,f8,h.len]; rfl,λx l=>by
  rcases l7.mp l with z | z
  ·rwa[h.new x z]
  ·rw[f6.mp z]; exact h0,λj a i c d=>by
  rcases Hk j f.length with z | z
  ·rw[At z] at c;rw[At (by rw[<- h.len]; rwa[z])] at d;rwa[h.at_ j a i c d]
  ·rw[v9 z] at c;rw[v9 (by rw[<- h.len]; rwa[z]),<- h.len] at d;have e:j-f.length=0:=by have:=(d8.mp c).1; simp at this; lia
   rw[e] at c d;simp at c d;subst c d;rwa[as,h1,h2]⟩
def Vg{a b c:Int}{M:Nat}(e:a.natAbs<=M)(d:b.natAbs<=M):∃ x y z:Int,zw [a,b,c]=[x,y,z]/\x.natAbs<=M/\y.natAbs<=M :=
 ⟨_,_,_,rfl,f9 (BG _ _) e,f9 (BG _ _) d⟩
def qj{D:Deed}(j:∀ e∈S.marks,vt e.2)(f:rT S D):∀ r∈vP S D,∃ x y z:Int,r=[x,y,z]/\x.natAbs<=10^4/\y.natAbs<=10^4:=by
 match D,f with
 | .bearing m n a b c d,f =>
  obtain⟨_,_,_,⟨_,w1,w,v,u⟩,⟨_,s,q,p,o⟩⟩:=f;dsimp only at w1 w v u s q p o;intro r g;rcases o0.mp g with e | g
  ·rw[e]; rwa[Vg (by lia) (by lia)]
  ·rw[f6.mp g]; rwa[Vg (by lia) (by lia)]
 | .range m l r,f =>
  obtain⟨_,_,h1,h2,_⟩:=f;obtain⟨pt,i⟩:=j7.mp h1;obtain⟨B,h⟩:=j7.mp h2;obtain⟨n1,n2,n3,n4⟩:=wB j i;obtain⟨I,G,E,C⟩:=wB j h;intro A g;rw[f6.mp g,xM i,xM h];rwa[Vg (by lia) (by lia)]
def sg{D:Deed} : (vP S D).length<=2:=by
 unfold vP;split <;> simp
def oj{D:Deed}{v:V}(f:rT S D)(h:Rep H D.dt v):∃(t:c7)(i:List V),v=.ref t/\H t=O (.tup i)/\atI i 1=O (.int (wI D))/\0<=wI D/\wI D<=S.runs.length:=by
 match D,f,h with
 | .bearing m n a b c d,f,h =>
  obtain⟨t,_,_,e,g,_⟩:=tH h;rwa[t,_,e,g,rfl,f.1,f.2.1]
 | .range m l r,f,h =>
  obtain⟨t,e,g⟩:=xo h;rwa[t,_,e,g,rfl,f.1,f.2.1]
end
def lA{S:BS}{j:Nat}{D:Deed} : (yh S j D).length<=2:=by unfold yh; rw[b7]; rwa[sg]
def aJ:∀{l:List (Int×Deed)}{i:Nat}{e:Int×Deed},(l.map (·.1)).Pairwise (· < ·)->l[i]?=O e->look (ntE l) (.inl e.1)=O e.2.dt
 | [],_,_,_,h=>by simp at h
 | q::l,0,e,_,h=>by
  simp at h;subst h;simp[look,ntE]
 | q::l,i+1,e,g,h=>by
  have f:l[i]?=O e:=by simpa using h
  have c:=DI.mp (show(q.1::l.map (·.1)).Pairwise (· < ·) from g);have d:=aJ c.2 f;have lt:=c.1 e.1 (g7.mpr ⟨e,f7 f,rfl⟩);have ne:¬ (CQ q.1:Key)=CQ e.1:=λz=>by injection z with z; lia
  unfold look ntE at d ⊢;rw[i5,AF,y8 ne];rwa[d]
def pU:∀{l:List (Int×Deed)}{c:List (Key×V)}{H:Hp},wC H c (ntE l)->c.map (λd=>kV d.1)=(l.map (·.1)).map V.int
 | [],_,_,h=>by rw[h.nil_iff]; rfl
 | (n,D)::l,_,_,h=>by
  obtain⟨v,r,rfl,h1,h2⟩:=wC.cons_iff.mp h;rw[i5,pU h2];rfl
def ng{a b:List Int}(p:a.Perm b)(d:a.Pairwise (·<=·))(c:b.Pairwise (· < ·)):a=b:=PySem.W.lks_uniq p d (c.imp λh=>Ai h)
def aP(a b c:V):qh [] [(.inr "marks",a),(.inr "banks",b),(.inr "runs",c)]=[(.inr "marks",a),(.inr "banks",b),(.inr "runs",c)]:=by symm
def WB(a b c d:V):vR [((.inr "marks" : Key),a),(.inr "banks",b),(.inr "runs",c)] (.inr "notes") d=[(.inr "marks",a),(.inr "banks",b),(.inr "runs",c),(.inr "notes",d)]:=by symm
def VH(a b c d e:V):vR [((.inr "marks" : Key),a),(.inr "banks",b),(.inr "runs",c),(.inr "notes",d)] (.inr "next") e=[(.inr "marks",a),(.inr "banks",b),(.inr "runs",c),(.inr "notes",d),(.inr "next",e)]:=by symm
def oK{H:Hp}{D:c7}{c:List (Key×V)}(f:H D=O (.dK c)):∀ b d,H b=O (.tup d)->¬ b=D:=λb d e z=>by rw[z,f] at e; cases e
def ca{runs:List (Int×Int)}{j:Nat}(h:runs.length<=3)(g:∀ e∈runs,e.1.natAbs<=4/\e.2.natAbs<=4):(uF runs 0 j).1.natAbs<=12/\(uF runs 0 j).2.natAbs<=12:=by
 have f:∀ e∈qZ runs 0 j,e∈runs:=λe c=>Bf (Cu c);have l:=vp runs 0 j;have a:=oq ((qZ runs 0 j).map (·.1)) 4 λx d=>by
  obtain⟨e,c,rfl⟩:=g7.mp d;exact(g e (f e c)).1
 have b:=oq ((qZ runs 0 j).map (·.2)) 4 λx d=>by
  obtain⟨e,c,rfl⟩:=g7.mp d;exact(g e (f e c)).2
 rw[b7] at a b;unfold uF tX;split <;> rwa[by dsimp only; lia,by dsimp only; lia]
def dj{k p q:Int}(d:1<=k)(h:¬ (p=0/\q=0)):0<(k*p+q)*(k*q+p)-(k*q-p)*(k*p-q):=by
 have e:(k*p+q)*(k*q+p)-(k*q-p)*(k*p-q)=2*k*(p*p+q*q):=by grind
 rw[e];have h1:0<=p*p:=by rcases Jq 0 p with z | z; rwa[DQ z z]; rwa[DK z z]
 have h2:0<=q*q:=by rcases Jq 0 q with z | z; rwa[DQ z z]; rwa[DK z z]
 have h3:0<p*p+q*q:=by
  rcases Dn (p=0) with z | z
  ·have c:q≠0:=λw=>h ⟨z,w⟩;have:q*q≠0:=CW c c;lia
  ·have:p*p≠0:=CW z z;lia
 rwa[JA (by lia) h3]
def tO{H:Hp}{w p q:c7}{m:Int}{n:j3}{a b c d:Int}(e:H w=O (.tup [.str "bearing",.int m,.str n,.ref p,.ref q]))(g:H p=O (.tup [.int a,.int b]))(f:H q=O (.tup [.int c,.int d])):Rep H (Deed.bearing m n a b c d).dt (.ref w) :=
 xN.mpr ⟨w,_,rfl,e,zJ.mpr ⟨_,_,rfl,yM.mpr rfl,zJ.mpr ⟨_,_,rfl,yR.mpr rfl,zJ.mpr ⟨_,_,rfl,yM.mpr rfl,.two (zj (p:=(a,b)) g) (zj (p:=(c,d)) f)⟩⟩⟩⟩
def aO{H:Hp}{w:c7}{m:Int}{l r:j3}(c:H w=O (.tup [.str "range",.int m,.str l,.str r])):Rep H (Deed.range m l r).dt (.ref w) :=
 xN.mpr ⟨w,_,rfl,c,zJ.mpr ⟨_,_,rfl,yM.mpr rfl,zJ.mpr ⟨_,_,rfl,yR.mpr rfl,.two (yM.mpr rfl) (yM.mpr rfl)⟩⟩⟩
def ZO{H:Hp}{w:c7}{n:j3}{x y:Int}(c:H w=O (.tup [.str "mark",.str n,.int x,.int y])):Rep H (Deed.mark n x y).dt (.ref w) :=
 xN.mpr ⟨w,_,rfl,c,zJ.mpr ⟨_,_,rfl,yM.mpr rfl,zJ.mpr ⟨_,_,rfl,yM.mpr rfl,.two (yR.mpr rfl) (yR.mpr rfl)⟩⟩⟩
def mU{H:Hp}{w:c7}{k:Int}(c:H w=O (.tup [.str "strike",.int k])):Rep H (Deed.strike k).dt (.ref w) :=
 xN.mpr ⟨w,_,rfl,c,.two (yM.mpr rfl) (yR.mpr rfl)⟩
def Yj{H:Hp}{w:c7}{x y:Int}(c:H w=O (.tup [.str "sail",.int x,.int y])):Rep H (Deed.sail x y).dt (.ref w) :=
 xN.mpr ⟨w,_,rfl,c,zJ.mpr ⟨_,_,rfl,yM.mpr rfl,.two (yR.mpr rfl) (yR.mpr rfl)⟩⟩
def ir{a b c d:Int}(t:0<a*d-b*c)(h1:a.natAbs<=100)(h2:b.natAbs<=100)(h3:c.natAbs<=100)(h4:d.natAbs<=100):vf (a,b)/\vf (c,d):=by
 erw[⟨λz=>?_,by dsimp only; lia,by dsimp only; lia,by dsimp only; lia,by dsimp only; lia⟩,⟨λz=>?_,by dsimp only; lia,by dsimp only; lia,by dsimp only; lia,by dsimp only; lia⟩]
 ·injection z with z1 z2
  rw[z1,z2] at t;simp at t
 ·injection z with z1 z2
  rw[z1,z2] at t;simp at t
end Sea

namespace Sea
def rQ{S:BS}{n:j3}{e:j3×Int×Int}(h:(zT S n).isSome=JO):zT { S with marks:=S.marks++[e] } n=zT S n:=by
 unfold zT at h ⊢;dsimp only;rw[List.find?_append];cases q:S.marks.find? λe=>decide (e.1=n) with
 | none=>rw[q] at h; simp at h
 | some c=>rfl
def dW{S:BS}{D:Deed}{e:j3×Int×Int}(h:rT S D):rT { S with marks:=S.marks++[e] } D:=by
 match D,h with
 | .bearing m n a b c d,h=>rwa[h.1,h.2.1,by rw[rQ h.2.2.1]; exact h.2.2.1,h.2.2.2]
 | .range m l r,h=>rwa[h.1,h.2.1,by rw[rQ h.2.2.1]; exact h.2.2.1,by rw[rQ h.2.2.2.1]; exact h.2.2.2.1,by rw[rQ h.2.2.1,rQ h.2.2.2.1]; exact h.2.2.2.2]
def ak{S:BS}{D:Deed}{e:Int×Int}(h:rT S D):rT { S with runs:=S.runs++[e] } D:=by
 match D,h with
 | .bearing m n a b c d,h=>exact⟨h.1,by have:=h.2.1; dsimp only; rw[f8]; simp only[i9,AE]; lia,h.2.2⟩
 | .range m l r,h=>exact⟨h.1,by have:=h.2.1; dsimp only; rw[f8]; simp only[i9,AE]; lia,h.2.2⟩
def tu{S:BS}{D:Deed}{l:List (Int×Deed)}{k:Int}(h:rT S D):rT { S with notes:=l,coming:=k } D:=by
 match D,h with
 | .bearing m n a b c d,h=>rwa[h]
 | .range m l r,h=>rwa[h]
def dD:gq BS.nil:=⟨⟨by decide,by decide,by decide,by decide⟩,λe c=>(nomatch c),.nil,λe c=>(nomatch c),λe c=>(nomatch c),λe c=>(nomatch c)⟩
def iT{S:BS}{D:Deed}(g:gq S)(d:rT S D)(l:S.notes.length<24):gq { S with notes:=S.notes++[(S.coming,D)],coming:=S.coming+1 }:=by
 refine⟨⟨g.few.ma,g.few.ba,g.few.ru,by show(S.notes++[_]).length<=60; rw[f8]; simp only[i9,AE]; lia⟩,λe c=>?_,?_,g.mk_,g.way,λe c=>?_⟩
 ·rcases l7.mp c with z | z
  ·have:=g.fresh e z;show e.1<S.coming+1;lia
  ·rw[f6.mp z];show S.coming<S.coming+1;lia
 ·show((S.notes++[(S.coming,D)]).map (·.1)).Pairwise (· < ·);rw[e7,BV];erw[g.rise,FQ _ _,λx h y f=>?_];obtain⟨e,c,rfl⟩:=g7.mp h;rw[f6.mp f];rwa[g.fresh e c]
 ·rcases l7.mp c with z | z
  ·rwa[tu (g.note e z)]
  ·rw[f6.mp z];rwa[tu d]
def rm{n k:j3}{x y:Int} : ∀{l:List (j3×Int×Int)},((l.map λe=>if e.1=n then(e.1,x,y) else e).find? λe=>decide (e.1=k)).map (·.2)=((l.find? λe=>decide (e.1=k)).map (·.2)).map λp=>if k=n then(x,y) else p
 | []=>rfl
 | (m,p)::l=>by
  rw[i5,AF,AF];by_cases d:m=n
  ·rw[y6 d];by_cases c:m=k
   ·subst d c;simp
   ·rw[y8 (show ¬ (m,x,y).1=k from c)];rwa[rm]
  ·rw[y4 d];by_cases c:m=k
   ·subst c;simp[d]
   ·rw[y8 (show ¬ (m,p).1=k from c)];rwa[rm]
def jB{S:BS}{n k:j3}{x y:Int} : zT (aft S (.move n x y)) k=(zT S k).map λp=>if k=n then(x,y) else p:=rm
def uR{S:BS}{n k:j3}(h:k≠n):zT (aft S (.unmark n)) k=zT S k:=by
 unfold zT;show(List.find? _ (S.marks.filter _)).map _=_;rw[List.find?_filter]
 congr 2
 funext e
 by_cases z:e.1=k
 ·simp[z,h]
 ·simp[z]
def yi{S:BS}{n k:j3}{x y:Int}(h:(zT S k).isSome=JO):(zT (aft S (.move n x y)) k).isSome=true:=by
 rw[jB,Da];rwa[h]
def cK{S:BS}{D:Deed}{n:j3}{x y:Int}(h:rT S D)(g:WT (aft S (.move n x y)) D):rT (aft S (.move n x y)) D:=by
 match D,h,g with
 | .bearing m k a b c d,h,_=>rwa[h.1,h.2.1,yi h.2.2.1,h.2.2.2]
 | .range m l r,h,⟨p,u,f,e,ne⟩=>rwa[h.1,h.2.1,yi h.2.2.1,yi h.2.2.2.1,by rw[f,e]; exact λz=>ne (t7 z)]
def jd{S:BS}{D:Deed}{n:j3}(h:rT S D)(g:dB n D):rT (aft S (.unmark n)) D:=by
 match D,h,g with
 | .bearing m k a b c d,h,g=>rwa[h.1,h.2.1,by rw[uR g]; exact h.2.2.1,h.2.2.2]
 | .range m l r,h,g=>rwa[h.1,h.2.1,by rw[uR g.1]; exact h.2.2.1,by rw[uR g.2]; exact h.2.2.2.1,by rw[uR g.1,uR g.2]; exact h.2.2.2.2]
def rn{S f:BS}{D:Deed}(h:rT S D)(i:f.marks=S.marks)(g:f.runs.length=S.runs.length):rT f D:=by
 have e:∀ n,zT f n=zT S n:=λn=>by unfold zT; rw[i]
 match D,h with
 | .bearing m k a b c d,h=>rwa[h.1,by rw[g]; exact h.2.1,by rw[e]; exact h.2.2.1,h.2.2.2]
 | .range m l r,h=>rwa[h.1,by rw[g]; exact h.2.1,by rw[e]; exact h.2.2.1,by rw[e]; exact h.2.2.2.1,by rw[e,e]; exact h.2.2.2.2]
def dh{S:BS}{D:Deed}(g:gq S)(ok:okD S D):gq (aft S D):=by
 match D,ok with
 | .mark n x y,ok =>
  refine⟨⟨by show(S.marks++[_]).length<=60; rw[f8]; have:=ok.2.2.2; simp only[i9,AE]; lia,g.few.ba,g.few.ru,g.few.no⟩,g.fresh,g.rise,λe f=>?_,g.way,λe f=>dW (g.note e f)⟩;rcases l7.mp f with z | z
  ·rwa[g.mk_ e z]
  ·rw[f6.mp z];rwa[ok.2.2.1]
 | .sail x y,ok =>
  refine⟨⟨g.few.ma,g.few.ba,by show(S.runs++[_]).length<=60; rw[f8]; have:=ok.2; simp only[i9,AE]; lia,g.few.no⟩,g.fresh,g.rise,g.mk_,λe f=>?_,λe f=>ak (g.note e f)⟩;rcases l7.mp f with z | z
  ·rwa[g.way e z]
  ·rw[f6.mp z];rwa[ok.1]
 | .bearing m n a b c d,ok=>rwa[iT g ⟨ok.1,ok.2.1,ok.2.2.1,ok.2.2.2.1,ok.2.2.2.2.1⟩ ok.2.2.2.2.2.2]
 | .range m l r,ok=>rwa[iT g ⟨ok.1,ok.2.1,ok.2.2.1,ok.2.2.2.1,ok.2.2.2.2.1⟩ ok.2.2.2.2.2]
 | .move n x y,ok =>
  refine⟨⟨by show(S.marks.map _).length<=60; rw[b7]; exact g.few.ma,g.few.ba,g.few.ru,g.few.no⟩,g.fresh,g.rise,λe f=>?_,g.way,λe f=>cK (g.note e f) (ok.2.2 e f)⟩;obtain⟨h,h1,rfl⟩:=g7.mp f;by_cases z:h.1=n
  ·rw[y6 z];rwa[ok.2.1]
  ·rw[y4 z];rwa[g.mk_ h h1]
 | .unmark n,ok =>
  rwa[⟨f9 (BL _ _) g.few.ma,g.few.ba,g.few.ru,g.few.no⟩,g.fresh,g.rise,λe f=>g.mk_ e (BX.mp f).1,g.way,λe f=>jd (g.note e f) (ok.2 e f)]
 | .bank n i,ok =>
  exact⟨⟨g.few.ma,by show(S.banks++[_]).length<=60; rw[f8]; have:=ok.2.2.2.2; simp only[i9,AE]; lia,g.few.ru,g.few.no⟩,g.fresh,g.rise,g.mk_,g.way,λe f=>rn (g.note e f) rfl rfl⟩
 | .level n,_ =>
  rwa[⟨g.few.ma,f9 (BL _ _) g.few.ba,g.few.ru,g.few.no⟩,g.fresh,g.rise,g.mk_,g.way,λe f=>rn (g.note e f) rfl rfl]
 | .right k x y,ok =>
  refine⟨⟨g.few.ma,g.few.ba,by show(S.runs.set _ _).length<=60; rw[Ex]; exact g.few.ru,g.few.no⟩,g.fresh,g.rise,g.mk_,λe f=>?_,λe f=>rn (g.note e f) rfl (by show(S.runs.set _ _).length=_; rw[Ex])⟩;rcases Fi f with z | z
  ·rwa[g.way e z]
  ·rw[z];rwa[ok.2.2]
 | .strike k,_ =>
  erw[⟨g.few.ma,g.few.ba,g.few.ru,f9 (BL _ _) g.few.no⟩,λe f=>g.fresh e (BX.mp f).1,?_,g.mk_,g.way,λe f=>tu (g.note e (BX.mp f).1)];rwa[g.rise.sublist (List.filter_sublist.map _)]
def sZ:BS->List Deed->Prop
 | _,[]=>True
 | S,D::r=>okD S D/\sZ (aft S D) r
def vQ(S:BS)(l:List Deed):BS:=l.foldl aft S
def re:∀{l:List Deed}{S:BS},gq S->sZ S l->gq (vQ S l)
 | [],_,g,_=>g
 | D::r,S,g,⟨h1,h2⟩=>show gq (vQ (aft S D) r) from re (dh g h1) h2
def oW:∀{l:List Deed}{S:BS}{D:Deed},sZ S l->okD (vQ S l) D->sZ S (l++[D])
 | [],_,_,_,h=>⟨h,trivial⟩
 | _::_,_,_,⟨h1,h2⟩,h=>⟨h1,oW h2 h⟩
def mL:∀{l:List Deed}{S:BS}{i:Nat}{D:Deed},sZ S l->l[i]?=O D->okD (vQ S (l.take i)) D
 | [],_,_,_,_,e=>by simp at e
 | _::_,_,0,_,⟨h1,_⟩,e=>by
  simp at e;subst e;rwa[h1]
 | D'::l,S,i+1,D,⟨_,h2⟩,e=>mL (l:=l) (S:=aft S D') (i:=i) h2 (by simpa using e)
def fG{l:List Deed}{S:BS}{i:Nat}{D:Deed}(e:l[i]?=O D):vQ S (l.take (i+1))=aft (vQ S (l.take i)) D:=by
 unfold vQ;rw[x6,e,Fm];rfl
def LwN(c H:Hp)(d:c7)(S:BS):Prop:=∃ m b r n,c r=JN/\LwA H d m b r n S
structure yd(no:List (Int×Deed))(k:Int)(i:Nat):Prop where
 mk ::
 len:no.length=i
 num:k=1+(i:Int)
 pos:∀ e∈no,1<=e.1
def yd.nil:yd [] 1 0:=⟨rfl,rfl,λe c=>(nomatch c)⟩
def yd.snoc{no:List (Int×Deed)}{k:Int}{i:Nat}{D:Deed}(h:yd no k i):yd (no++[(k,D)]) (k+1) (i+1) :=
 ⟨by rw[f8,h.len]; rfl,by rw[h.num]; lia,λe c=>by
  rcases l7.mp c with z | z
  ·rwa[h.pos e z]
  ·rw[f6.mp z];have:=h.num;show 1<=k;lia⟩
def bj:Deed->Prop
 | .mark _ _ _ | .sail _ _ | .bearing _ _ _ _ _ _ | .range _ _ _=>True
 | _=>False
def LwP(H:Hp)(d p:c7)(S:BS):Prop:=∃ m b r n,r≠p/\LwA H d m b r n S
def LwP.at{H:Hp}{d p:c7}{S:BS}(h:LwP H d p S):ZU H d S:=let ⟨m,b,r,n,_,q⟩:=h;⟨m,b,r,n,q⟩
def LwP.to{H c:Hp}{d p:c7}{S:BS}(h:LwP H d p S)(s:Sam H c):LwP c d p S:=let ⟨m,b,r,n,e,q⟩:=h;⟨m,b,r,n,e,q.to s⟩
structure Ug(S:BS):Prop where
 mk ::
 lo:3<=S.marks.length
 hi:S.marks.length<=5
 bd:∀ e∈S.marks,e.2.1.natAbs<=860/\e.2.2.natAbs<=860
 bk:S.banks=[]
def UV:Sp:=λf H Q _=>E4 λ(a r:c7) (rows:List Int) (ns:List j3)=>A9 (f=[.ref a,.ref r]) (H a=O (.lst (rows.map V.int))) (90<=rows.length) (∀ x∈rows,0<=x/\x<1000003) (H r=O (.lst (ns.map V.str))) (ns.length=5) (∀ n∈ns,sN n) ns.Nodup (∀(l:c7)(e:List V)(c:List Deed)(d:Hp),Same H d->H l=JN->d l=O (.lst e)->xT d (c.map Deed.dt) e->c.length<=14->sZ BS.nil c->(vQ BS.nil c).runs.length<=3->(∀ D∈c,bj D)->(∃ i,i<=6/\yd (vQ BS.nil c).notes (vQ BS.nil c).coming i)->Ug (vQ BS.nil c)->Q (.ref l) d)
def qc:∀{l:List Deed}{S:BS}{i:Nat},sZ S l->sZ S (l.take i)
 | [],_,_,_=>by rw[List.take_nil]; rwa[trivial]
 | _::_,_,0,_=>trivial
 | _::_,_,i+1,⟨h1,h2⟩=>⟨h1,qc (i:=i) h2⟩
end Sea

namespace Sea
def stN(l:List (j3×Int×Int))(c:List (Int×Int))(no:List (Int×Deed))(k:Int):BS:=⟨l,[],c,no,k⟩
section
variable{l:List (j3×Int×Int)}{rs:List (Int×Int)}{no:List (Int×Deed)}{k:Int}
def lQ{n:j3}(h:n ∉ l.map (·.1)):zT (stN l rs no k) n=none:=by
 unfold zT;rw[F4,CT];intro e c z;rwa[h (g7.mpr ⟨e,c,of_decide_eq_true z⟩)]
def Vl{n:j3}{x y:Int}(d:sN n)(h:n ∉ l.map (·.1))(c:vt (x,y))(e:l.length<20):okD (stN l rs no k) (.mark n x y):=⟨d,lQ h,c,e⟩
def VX{x y:Int}(c:vt (x,y))(d:rs.length<12):okD (stN l rs no k) (.sail x y):=⟨c,d⟩
def mP{m:Nat}{n:j3}{a b c d:Int}(i:m<=rs.length)(g:n∈l.map (·.1))(w1:vf (a,b))(f:vf (c,d))(t:0<a*d-b*c)(h:no.length<24):okD (stN l rs no k) (.bearing m n a b c d) :=
 ⟨by lia,by show(m:Int)<=(rs.length:Int); lia,by obtain⟨p,e⟩:=rH (S:=stN l rs no k) g; rw[e]; rfl,w1,f,t,h⟩
def Yk{m:Nat}{a b:j3}(g:m<=rs.length)(f:a∈l.map (·.1))(d:b∈l.map (·.1))(ne:zT (stN l rs no k) a≠zT (stN l rs no k) b)(c:no.length<24):okD (stN l rs no k) (.range m a b) :=
 ⟨by lia,by show(m:Int)<=(rs.length:Int); lia,by obtain⟨p,e⟩:=rH (S:=stN l rs no k) f; rw[e]; rfl,by obtain⟨p,e⟩:=rH (S:=stN l rs no k) d; rw[e]; rfl,ne,c⟩
structure mY(Ds:List Deed)(l:List (j3×Int×Int))(rs:List (Int×Int))(no:List (Int×Deed))(k:Int):Prop where
 mk ::
 ok:sZ BS.nil Ds
 at_:vQ BS.nil Ds=stN l rs no k
 four:∀ D∈Ds,bj D
def Xw:mY [] [] [] [] 1:=⟨trivial,rfl,λD c=>(nomatch c)⟩
def vj{c:List Deed}{D:Deed}(h:∀ D∈c,bj D)(k:bj D):∀ E∈c++[D],bj E:=λE d=>by
 rcases l7.mp d with z | z
 ·rwa[h E z]
 ·rw[f6.mp z]; rwa[k]
def mY.snoc{c:List Deed}{D:Deed}(h:mY c l rs no k)(ok:okD (stN l rs no k) D):sZ BS.nil (c++[D])/\vQ BS.nil (c++[D])=aft (stN l rs no k) D:=by
 exists oW h.ok (by rw[h.at_]; rwa[ok]);have e:=h.at_;unfold vQ at e ⊢;rw[Fm,e];rfl
def mY.mark{c:List Deed}{n:j3}{x y:Int}(h:mY c l rs no k)(ok:okD (stN l rs no k) (.mark n x y)):mY (c++[.mark n x y]) (l++[(n,x,y)]) rs no k:=let ⟨a,b⟩:=h.snoc ok;⟨a,b,vj h.four trivial⟩
def mY.sail{c:List Deed}{x y:Int}(h:mY c l rs no k)(ok:okD (stN l rs no k) (.sail x y)):mY (c++[.sail x y]) l (rs++[(x,y)]) no k:=let ⟨a,b⟩:=h.snoc ok;⟨a,b,vj h.four trivial⟩
def mY.bearing{e:List Deed}{m:Int}{n:j3}{a b c d:Int}(h:mY e l rs no k)(ok:okD (stN l rs no k) (.bearing m n a b c d)):mY (e++[.bearing m n a b c d]) l rs (no++[(k,.bearing m n a b c d)]) (k+1):=let ⟨x,y⟩:=h.snoc ok;⟨x,y,vj h.four trivial⟩
def mY.range{c:List Deed}{m:Int}{a b:j3}(h:mY c l rs no k)(ok:okD (stN l rs no k) (.range m a b)):mY (c++[.range m a b]) l rs (no++[(k,.range m a b)]) (k+1):=let ⟨x,y⟩:=h.snoc ok;⟨x,y,vj h.four trivial⟩
end
def cW{d:Type}{l:List d}{i:Nat}{x:d}(h:l.Nodup)(e:l[i]?=O x):x ∉ l.take i:=λm=>by
 obtain⟨j,c⟩:=List.mem_iff_getElem?.mp m;have lt:j<i:=by have:=(d8.mp c).1; rw[i7] at this; lia
 rw[Fa,y6 lt] at c;obtain⟨h1,g⟩:=d8.mp c;obtain⟨h2,f⟩:=d8.mp e;have:=(Hq h).mp (g.trans f.symm);lia
def Wm{c:List j3}{x:Int}(h:0<((c.map V.str).length:Int)):∃ n,n∈c/\atI (c.map V.str) (x%((c.map V.str).length:Int))=O (.str n):=by
 have h0:=Al x (show((c.map V.str).length:Int)≠0 by lia);have h1:=x8 x h;generalize x%((c.map V.str).length:Int)=y at h0 h1;obtain⟨k,rfl⟩:=Bw h0;have d:k<c.length:=by rw[b7] at h1; lia
 rwa[c[k],Ag d,qB (by rw[d9,c8 d]; rfl)]
end Sea

namespace L2
def mG(o:By)(f:Array c6->Array c6):(Cc f o).dict=o.dict:=by unfold Cc; split <;> rfl
def gL(h base:w9)(e:c7)(cls i:c6):Prop :=
 ∃ c d T g f,h.get? e=O c/\(c.cls=cls/\c.dict=JN/\d[2]?=O .none)/\c.data=.fields d/\d[1]?=O (.ref T)/\base.get? T=JN/\T≠e/\h.get? T=O g/\g.data=.fields f/\f[3]?=O i
def yu(base:w9)(l:List Ff)(e:c7)(cls:c6)(h:w9):Prop:=base.StaysIn h/\base.get? e=JN/\h.FunFrames base l/\gL h base e cls .none
def ZP(base:w9)(l:List Ff)(e:c7)(cls:c6)(L:c7)(h:w9):Prop:=base.StaysIn h/\base.get? e=JN/\h.FunFrames base l/\gL h base e cls (rawInt L)
section
variable{M:GL}{A:Ac}{E:c6->d7->Prop}{s:d7}
def XQ{base:w9}{env:Ff}{outer:List Ff}{L e:c7}{z:By}{u:Array c6}{head:c6}{r:Bool}{Q:Unit->d7->Prop}
  (Z:A.frames=O (env::outer)) (R:s.heap.FunFrames base (env::outer)) (hf:env.frame=O L)
  (S:s.heap.get? e=O z) (Y:base.StaysIn s.heap) (J:base.get? e=JN) (hd:z.data=.fields u) (B:1<u.size) (hdi:z.dict=JN) (h0:u[2]?=O .none)
  (h:∀ h',ZP base (env::outer) e z.cls L h'->s.heap.UpToSlots h'->Q () { s with heap:=h' }) :
  wpAny M A (do let a <- frameOf env; let y <- entryPlaceOf L r; let b <- GI head a .none (rawInt L) .none y; setField (.ref e) 1 b) Q E s:=by
 have I:e ∉ (env::outer).filterMap (·.frame):=λX=>by
  obtain⟨_,o,P,f⟩:=R.mem X;rw[S] at P; injection P with P; subst P; rwa[f u hd]
 erw[b9 (wpAny_frameOf_fun Z R hf λc d=>?_)];erw[b9 (wpAny_entryPlaceOf λy C=>?_)];unfold GI newFields;erw[b9 (Ak ?_ (C.sizeOk5 _ _ _ _ _))];have n:c.get? e=O z:=(d.2.1 e I).trans S;have l:base.StaysIn c:=λb o g=>(d.2.1 b λX=>by rw[(R.mem X).1] at g; cases g).trans (Y b o g);generalize H:({ cls:=.type "traceback",dict:=JN,data:=.fields ([head,.ref L,.none,rawInt L,.none]++(if y.isEmpty then Bc 6 AA else y)).toArray } : By)=ob;have D:ob.isFreed=false:=by rw[<- H]; rfl
 have G:ob.data=.fields ([head,.ref L,.none,rawInt L,.none]++(if y.isEmpty then Bc 6 AA else y)).toArray:=by rw[<- H]
 have m:=c9 (h:=c) ob n;erw[CM m hd B (h _ ?_ ?_)]
 ·have N:c.objs.size≠e:=Ct (g9 n);have p:=BN hd (·.setIfInBounds 1 (j8 c.objs.size));have v:=Cn (Cc (·.setIfInBounds 1 (j8 c.objs.size))) m (C7 p);have x:=(AK (c.push ob) (Cc (·.setIfInBounds 1 (j8 c.objs.size))) (AR N)).trans (i8 c D);have keep:∀ b o,b≠e->c.get? b=O o->((c.push ob).update e (Cc (·.setIfInBounds 1 (j8 c.objs.size)))).get? b=O o:=λb o w i=>by
   rw[AK _ _ (AR w)];rwa[c9 _ i]
  have j:∀ b o,s.heap.get? b=O o->(∀ u,o.data≠.fields u)->b≠e:=λb o i f q=>by
   rw[q,S] at i; injection i with i; subst i; rwa[f u hd]
  refine⟨λb o g=>keep b o (λq=>by rw[q,J] at g; cases g) (l b o g),J,R.of_keeps λb o i f=>?_,?_⟩
  ·obtain⟨sl,T⟩:=d.2.2 b o i;rwa[_,keep b _ (j b o i f) T,rfl]
  ·exact⟨_,_,c.objs.size,_,_,v,⟨Fq _ _,by rw[mG]; exact hdi,by rw[Array.getElem?_setIfInBounds_ne (by decide)]; rwa[h0]⟩,p,by simp[B],l.fresh,N,x,G,by first | (simp; done) | (rcases C with rfl | ⟨_,_,_,_,_,_,_,rfl⟩ <;> simp)⟩
 ·intro b o i f;have w:b≠e:=λq=>by rw[q,S] at i; injection i with i; subst i; rwa[f u hd]
  obtain⟨sl,T⟩:=d.2.2 b o i;exists sl;rw[AK _ _ (AR w)];rwa[c9 _ T]
def fH{base:w9}{env:Ff}{outer:List Ff}{L e:c7}{c:By}{d:Array c6}{Q:Unit->d7->Prop}
  (g:A.frames=O (env::outer)) (o:s.heap.FunFrames base (env::outer)) (m:env.frame=O L)
  (n:s.heap.get? e=O c) (f:base.StaysIn s.heap) (i:base.get? e=JN) (hd:c.data=.fields d) (h1:d[1]?=O .none) (j:c.dict=JN) (h0:d[2]?=O .none)
  (h:∀ l,ZP base (env::outer) e c.cls L l->s.heap.UpToSlots l->Q () { s with heap:=l }):wpAny M A (noteFrame (.ref e) env) Q E s:=by
 unfold noteFrame;simp only[m];erw[b9 (AO n hd h1 ?_)];rw[y4 (by decide)];rwa[XQ g o m n f i hd (Cm.mp h1).1 j h0 h]
def ZD{base:w9}{env:Ff}{outer:List Ff}{L e:c7}{cls:c6}{Q:Unit->d7->Prop}
  (r:A.frames=O (env::outer)) (B:env.frame=O L) (u:yu base (env::outer) e cls s.heap)
  (h:∀ m,ZP base (env::outer) e cls L m->s.heap.UpToSlots m->Q () { s with heap:=m }):wpAny M A (noteFrame (.ref e) env) Q E s:=by
 obtain⟨p,v,I,J,z,T,N,H,C,⟨l,w,h0⟩,hd,h1,n,x,y,i,h3⟩:=u;subst l;unfold noteFrame;simp only[B];refine b9 (AO C hd h1 ?_);rw[y6 (show(j8 T != AA)=JO from by simp)];refine b9 (AO y i h3 ?_);rw[y4 (show ¬ ((AA == rawInt L)=JO) from by simp[rawInt])];refine b9 (CM y i (Cm.mp h3).1 ?_);have d:∀ b,b≠T->(s.heap.update T (Cc (·.setIfInBounds 3 AA))).get? b=s.heap.get? b:=λb g=>AK _ _ (AR g);have c:∀ b o,s.heap.get? b=O o->(∀ z,o.data≠.fields z)->b≠T:=λb o g f q=>by
  rw[q,y] at g; injection g with g; subst g; rwa[f H i]
 refine XQ r (I.of_keeps λb o g f=>⟨o,(d b (c b o g f)).trans g,rfl⟩) B ((d e (AR x)).trans C)
  (λb o j=>(d b λq=>by rw[q,n] at j; cases j).trans (p b o j)) v hd (Cm.mp h1).1 w h0
  λm G D=>h m G λb o g f=>D b o ((d b (c b o g f)).trans g) f
def WO{base:w9}{l:List Ff}{e:c7}{cls I:c6}{Q:Unit->d7->Prop}(H:base.StaysIn s.heap/\base.get? e=JN/\s.heap.FunFrames base l/\gL s.heap base e cls I)
  (h:∀ z,yu base l e cls z->s.heap.UpToSlots z->Q () { s with heap:=z }):wpAny M A (setFlight (.ref e) JN) Q E s:=by
 obtain⟨w,x,G,D,v,T,J,B,C,r,hd,h1,p,u,y,j,h3⟩:=H;have m:3<B.size:=(Cm.mp h3).1;have d:∀ b,b≠T->(s.heap.update T (Cc (·.setIfInBounds 3 ((JN:Option c7).elim AA λf=>rawInt f)))).get? b=s.heap.get? b :=
  λb g=>AK _ _ (AR g)
 have c:∀ b o,s.heap.get? b=O o->(∀ v,o.data≠.fields v)->b≠T:=λb o g i q=>by
  rw[q,y] at g; injection g with g; subst g; rwa[i B j]
 unfold setFlight;refine b9 (AO C hd h1 ?_);rw[y6 (show(j8 T != AA)=JO from by simp)];refine CM y j m (h _ ⟨λb o n=>(d b λq=>by rw[q,p] at n; cases n).trans (w b o n),x,
  G.of_keeps λb o g i=>⟨o,(d b (c b o g i)).trans g,rfl⟩,?_⟩ λb o g i=>⟨o.slots,(d b (c b o g i)).trans g⟩)
 rwa[D,v,T,_,_,(d e (AR u)).trans C,r,hd,h1,p,u,Cn _ y (C7 (BN j _)),BN j _,by simp[m]]
def XV{base:w9}{l:List Ff}{e L:c7}{cls:c6}{Q:Unit->d7->Prop}(d:ZP base l e cls L s.heap)
  (h:∀ c,yu base l e cls c->s.heap.UpToSlots c->Q () { s with heap:=c }):wpAny M A (setFlight (.ref e) JN) Q E s:=WO d h
def dU{base:w9}{env:Ff}{outer:List Ff}{L e:c7}{cls:c6}{Q:Unit->d7->Prop}
  (c:A.frames=O (env::outer)) (o:env.frame=O L) (d:yu base (env::outer) e cls s.heap)
  (p:∀ f,yu base outer e cls f->s.heap.UpToSlots f->Q () { s with heap:=f }):wpAny M A (leaving env (.ref e)) Q E s:=by
 unfold leaving;erw[b9 (ZD c o d λh1 g i=>?_)];erw[XV g λh2 ⟨n,m,⟨_,_,l⟩,j⟩ h=>p h2 ⟨n,m,l,j⟩ (i.trans h)]
def jM{base h:w9}{env:Ff}{outer:List Ff}{L e:c7}{cls:c6}{args:List c6}{Q:Unit->d7->Prop}
  (g:A.frames=O (env::outer)) (y:env.frame=O L) (c:base.StaysIn h) (x:h.FunFrames base (env::outer)) (f:Iz h s.heap e cls args)
  (B:∀ i,yu base outer e cls i->s.heap.UpToSlots i->Q () { s with heap:=i }):wpAny M A (leaving env (.ref e)) Q E s:=by
 obtain⟨t,z,v,C⟩:=f.there;have fresh:∀ b,h.get? b=JN->base.get? b=none:=λb d=>by
  cases w:base.get? b with
  | none=>rfl
  | some n=>have:=c b n w; rw[d] at this; cases this
 unfold leaving;erw[b9 (fH g (x.of_keeps λb o d _=>⟨o,f.keeps b o d,rfl⟩) y z (λb o d=>f.keeps b o (c b o d)) (fresh e f.new) rfl rfl rfl rfl λh1 j m=>?_)];erw[XV j λh2 ⟨u,r,⟨_,_,q⟩,p⟩ l=>B h2 ⟨u,r,q,p⟩ (m.trans l)]
end
end L2

namespace L2
def wN.some{P:m9}{w:r9}{H:Hp}{h:w9}{a:c7}{o:HO}(x:wN P w H h a o):∃ ob,h.get? a=O ob:=by
 cases o with
 | lst d=>obtain⟨_,_,_,_,e⟩:=x; rwa[_,e]
 | tup d=>obtain⟨_,_,_,o,e,_⟩:=x; rwa[_,e]
 | dK c=>obtain⟨_,_,_,_,o,_,_,e,_⟩:=x; rwa[_,e]
 | dT c=>obtain⟨_,_,_,_,o,_,_,e,_⟩:=x; rwa[_,e]
 | set S n=>obtain⟨o,_,_,_,e,_⟩:=x; rwa[_,e]
 | ins C j fs=>obtain⟨_,_,_,e,_⟩:=x; rwa[_,e]
 | own y=>obtain⟨_,e⟩:=x; rwa[_,e]
 | xd fs=>obtain⟨_,⟨_,_,_,e,_⟩,_⟩:=x; rwa[_,e]
 | rng lo hi=>obtain⟨_,_,_,e⟩:=x; rwa[_,e]
 | frz ob u=>obtain⟨e,_⟩:=x; rwa[_,e]
 | tbl i=>rwa[_,x]
 | met f y=>rwa[_,x]
 | ext g=>obtain⟨_,⟨_,e⟩,_⟩:=x; rwa[_,e]
section
variable{fs:List c7}{H H':Hp}{h h2 h3 B:w9}{P:m9}{w:r9}
def un_on(u:Un fs [] H H' h h2)(st:B.StaysIn h3)(m:∀ b o f,h.get? b=O f->h2.get? b=O o->b ∉ fs->B.get? b=O o)
  (l:∀ b∈fs,∀ o,h2.get? b=O o->∃ i,h3.get? b=O { o with slots:=i }):Un fs [] H H' h h3 where
 keep:=λb o q n c d=>st _ _ (m b o o q (u.keep b o q n c d) c)
 slot:=λb o q n c d=>by
  obtain⟨i,e⟩:=u.slot b o q n c d;obtain⟨g,j⟩:=l b c _ e;rwa[g,j]
 free:=u.free
 there:=λb o q d=>by
  obtain⟨f,e⟩:=u.there b o q d;by_cases c:b∈fs
  ·obtain⟨i,j⟩:=l b c _ e;rwa[_,j]
  ·rwa[f,st _ _ (m b f o q e c)]
 tups:=u.tups
 frzs:=u.frzs
 tbls:=u.tbls
def UG(ok:HOk P w H' h2)(st:B.StaysIn h3)(d:∀ b o u,H' b=O u->h2.get? b=O o->B.get? b=O o):HOk P w H' h3:=λa o e =>
 (ok a o e).stay (λb u c q=>st _ _ (by
  rcases c with rfl | c
  ·rwa[d _ u o e q]
  ·rwa[d b u _ c q])) (λ_ q=>q) λ_ _ q=>q
end
structure Xj(P:m9)(w:r9)(outer:List Ff)(H:Hp)(s:d7)(ea:c7)(cls:c6)(H':Hp)(B:w9)(s':d7):Prop where
 mk ::
 os:s'.os=s.os
 bare:EG s'.gens
 un:Un (frs outer) [] H H' s.heap s'.heap
 hok:HOk P w H' s'.heap
 new:H' ea=JN
 fresh:s.heap.get? ea=JN
 fly:yu B outer ea cls s'.heap
 has:∀ b o,s'.heap.get? b=O o->((s.heap.get? b).isSome=JO\/(H' b).isSome=JO)->b ∉ frs outer->B.get? b=O o
def CX1(P:m9)(w:r9):CXT:=λouter H s E e f=>∃(c:c7)(cls:c6)(d:Hp)(B:w9),e=.ref c/\Xj P w outer H s c cls d B f/\E cls JN d
def CX1.none{P:m9}{w:r9}{outer:List Ff}{H:Hp}{s c:d7}{e:c6}(h:CX1 P w outer H s E0 e c):False:=let ⟨_,_,_,_,_,_,z⟩:=h; z
def jX{X:Cx}{I:List (c7×By)}{v:St}{g:Hp}{s2:d7}{i:c7}{cls:c6}{B h3:w9}{env:Ff}{outer:List Ff}(r:X.stack=env::outer)(E:X.outer=outer)(D:X.ex=[])(s:env.frame=O X.env.locals)(J:Inv X I v g s2)
  (p:∀ b o,s2.heap.get? b=O o->((X.s₀.heap.get? b).isSome=JO\/(g b).isSome=JO)->b ∉ frs (env::outer)->B.get? b=O o) (A:g i=JN) (H:X.s₀.heap.get? i=JN)
  (fly:yu B outer i cls h3) (x:s2.heap.UpToSlots h3):Xj X.prog X.w outer X.H₀ X.s₀ i cls g B { s2 with heap:=h3 }:=by
 have st:=fly.1;have c:∀ b o,X.s₀.heap.get? b=O o->b ∉ frs outer->b ∉ frs (env::outer):=λb o q f z=>by
  rcases o0.mp (show b∈X.env.locals::frs outer by
   have:frs (env::outer)=X.env.locals::frs outer:=by unfold frs; rw[BE,s]
   rw[<- this]; rwa[z]) with e | e
  ·have l:=j5 (g9 q) J.ok.above;rw[e] at l;rwa[Bh _ l]
  ·rwa[f e]
 have trk:∀ b u,g b=O u->b ∉ frs (env::outer):=λb u e z=>by
  have:=J.stkFree b (by rw[r]; rwa[z]);rw[e] at this;cases this
 have fs:X.fs=frs outer:=by show frs X.outer=_; rw[E]
 have G:∀ b∈frs outer,∀ o,s2.heap.get? b=O o->∃ y,h3.get? b=O { o with slots:=y }:=λb f o e=>by
  obtain⟨_,d,j,C⟩:=J.stack.mem (show b∈X.stack.filterMap (·.frame) by
   rw[r];show b∈frs (env::outer);have:frs (env::outer)=X.env.locals::frs outer:=by unfold frs; rw[BE,s]
   rw[this];rwa[.tail _ f])
  rw[e] at j;cases j;rwa[x b o e C]
 have un:Un (frs outer) [] X.H₀ g X.s₀.heap s2.heap:=by
  have:=J.base;rw[fs,D] at this;rwa[this]
 refine⟨J.os,J.bare,un_on un st (λb o d q e f=>p b o e (.inl (by rw[q]; rfl)) (c b d q f)) G,UG J.hok st λb o u e q=>p b o q (.inr (by rw[e]; rfl)) (trk b u e),A,H,fly,λb o e z f=>?_⟩;have m:∃ d,s2.heap.get? b=O d:=by
  rcases z with z | z
  ·obtain⟨d,q⟩:=j7.mp z;exact un.there b d q (λz=>nomatch z)
  ·obtain⟨u,q⟩:=j7.mp z;exact(J.hok b u q).some
 obtain⟨d,j⟩:=m;have n:b ∉ frs (env::outer):=by
  rcases z with z | z
  ·obtain⟨d,q⟩:=j7.mp z;rwa[c b d q f]
  ·obtain⟨u,q⟩:=j7.mp z;rwa[trk b u q]
 have h:=p b d j z n;have:=st _ _ h;rw[show({ s2 with heap:=h3 } : d7).heap=h3 from rfl] at e;rw[this] at e;cases e;rwa[h]
def Xj.inv{X:Cx}{e:List (c7×By)}{c:St}{H g:Hp}{s d:d7}{h:c7}{cls:c6}{B:w9}(I:Inv X e c H s)(f:Xj X.prog X.w X.stack H s h cls g B d):Inv X e c g d :=
 I.call' (ch:=[]) f.os f.un f.hok f.bare λb z=>y9 z (by simp)
def YC(X:Cx)(g:St->XK):Prop:=∀(f:List (c7×By))(c:St)(H:Hp)(s:d7)(e:c6)(d:d7),Inv X f c H s->CX1 X.prog X.w X.stack H s (g c) e d->X.xe e d
def Tm(X:Cx)(h:St->XK):Prop:=∀(g:List (c7×By))(c:St)(H:Hp)(s:d7)(d:w9)(e:c7)(cls:c6)(f:List c6),Inv X g c H s->Iz s.heap d e cls f->h c cls JN H->X.xe (.ref e) { s with heap:=d }
def gD{X:Cx} : YC X (λ_=>E0):=λ_ _ _ _ _ _ _ h=>h.none.elim
section
variable{P:m9}{w:r9}{K:c5}{mg:j3->Option c6}{base:w9}{N:List j3}{qual:j3}{scope:DL}{f:c7}{cd:c6}{A:Ac}{outer:List Ff}{s:d7}{H:Hp}{E:XK}
def pM:YC (cxOf (CX1 P w) P w K mg base N qual scope f cd A outer s H E) (λ_=>E):=by
 intro x r y v e u I h;obtain⟨g,cls,p,B,rfl,d,q⟩:=h;have J:=d.inv I;erw[dU (base:=B) (cls:=cls) (L:=s.heap.objs.size) I.ok.frames rfl d.fly λh3 fly m=>?_];erw[g,cls,p,B,rfl,jX (X:=cxOf (CX1 P w) P w K mg base N qual scope f cd A outer s H E) rfl rfl rfl rfl J (λb o e z n=>d.has b o e (z.imp (λz=>?_) id) n) d.new ?_ fly m,q]
 ·obtain⟨l,i⟩:=j7.mp z;obtain⟨j,c⟩:=I.base.there b l i (λz=>nomatch z);rw[c];rfl
 ·show s.heap.get? g=JN;cases i:s.heap.get? g with
  | none=>rfl
  | some l =>
   obtain⟨j,c⟩:=I.base.there g l i (λz=>nomatch z);rw[d.fresh] at c;cases c
def YT:Tm (cxOf (CX1 P w) P w K mg base N qual scope f cd A outer s H E) (λ_=>E):=by
 intro J D m d G e cls p I j q;have l:∀ env∈(cxOf (CX1 P w) P w K mg base N qual scope f cd A outer s H E).stack,∀ b,env.frame=O b->b∈frs (cxOf (CX1 P w) P w K mg base N qual scope f cd A outer s H E).stack:=λenv C b i=>CS.mpr ⟨env,C,i⟩;have c:∀ b o,d.heap.get? b=O o->b ∉ frs (cxOf (CX1 P w) P w K mg base N qual scope f cd A outer s H E).stack->(F5 d.heap (frs (cxOf (CX1 P w) P w K mg base N qual scope f cd A outer s H E).stack)).get? b=O o:=λb o e i=>GF _ e i;refine jM (h:=d.heap) (base:=F5 d.heap (frs (cxOf (CX1 P w) P w K mg base N qual scope f cd A outer s H E).stack)) (cls:=cls) (args:=p) (L:=s.heap.objs.size) I.ok.frames rfl (λb o q=>GP _ q) (PySem.W.funFrames_hide I.stack l) j λh3 fly r=>?_;have B:m e=none:=by
  cases z:m e with
  | none=>rfl
  | some u =>
   obtain⟨ob,n⟩:=(I.hok e u z).some;rw[j.new] at n;cases n
 erw[e,cls,m,_,rfl,jX (X:=cxOf (CX1 P w) P w K mg base N qual scope f cd A outer s H E) (s2:=d) rfl rfl rfl rfl I (λb o e _ i=>c b o e i) B ?_ fly ((Jj j.keeps).trans r),q];show s.heap.get? e=JN;cases v:s.heap.get? e with
 | none=>rfl
 | some y =>
  obtain⟨x,g⟩:=I.base.there e y v (λz=>nomatch z);rw[j.new] at g;cases g
def Fun.okX{x qual:j3}{st:Ar}{f:c7}{fd:AJ}{N g:List j3}{k:Nat}{sp:Sp}(F:Fun K x qual st f fd)(S:zK N g (zH st))(len:∀ d H Q E,sp d H Q E->d.length=g.length)
  (e:∀(c:c6)(A:Ac)(outer:List Ff)(s:d7)(H:Hp)(d:List V)(Q:VK)(E:XK),zv k (A.deeper (envOfC qual (zH st) s.heap.objs.size f c))->sp d H Q E ->
   ∃ t,PSs (cxOf (CX1 P w) P w K mg base N qual (zH st) f c A outer s H E) (xP st) t/\t { nx:=λ_ n=>Q .non n,rt:=Q } (kZ N d) H):yQ P w K mg base (CX1 P w) (k+1) f fd g sp:=by
 obtain⟨p,o,kV,m,pm,q,c,ct,j,rfl,lk,i⟩:=F.ex;rwa[TH lk i S len λA outer s H d Q E l h=>e c A outer s H d Q E l h]
end
def YB(P:m9)(w:r9)(K:c5)(mg:j3->Option c6)(base:w9)(x:j3)(n:Nat)(c:List j3)(sp:Sp):Prop :=
 ∃(f:c7)(fd:AJ),yQ P w K mg base (CX1 P w) n f fd c sp/\uh K fd c []/\AI K (.ref f)=JO/\mg x=O (.ref f)
def HasMX(P:m9)(w:r9)(K:c5)(mg:j3->Option c6)(base:w9)(g:c7)(n:Nat)(d:List j3)(sp:Sp):Prop :=
 ∃ fd:AJ,yQ P w K mg base (CX1 P w) n g fd d sp/\∀ c:List c6,c.length=d.length->bindArgs fd ⟨c,[]⟩=pure (d.zip c)
section
variable{X:Cx}{n:Nat}{f:c7}{fd:AJ}{ps:List j3}{sp:Sp}{x m:j3}{p pos apos:DD}{e o:Am}{es:List Am}{ta:TE}{t:TA}{EE:St->XK}{C g:c7}
def VD{q:List (c7×By)}{d:St}{H:Hp}{s:d7}{Q:VK}{c:List c6}{l:List V}(F:yQ X.prog X.w X.K X.mg X.base (CX1 X.prog X.w) n f fd ps sp)(z:zv n X.A)(D:uh X.K fd ps [])(y:YC X EE)
  (I:Inv X q d H s) (r:yN l c) (h:sp l H Q (EE d)):wpAny (model X.prog X.w) X.A (call (.ref f) c) (EP X q d Q) X.xe s:=by
 have B:c.length=ps.length:=by rw[<- r.length]; rwa[F.len _ _ _ _ h]
 have j:=D s c I.kIn (by rw[Cr]; rwa[B]);rw[Cr] at j;erw[Ip (codeAny_mono (F.run X.A X.stack s H ⟨c,[]⟩ c l Q (EE d) z I.env0 j r h) λr v i=>?_)];cases r with
 | error e=>rwa[y q d H s e v I i]
 | ok E =>
  cases E with
  | ret u=>rwa[I.after i]
  | next=>rwa[Bm i]
  | brk=>rwa[Bm i]
  | cont=>rwa[Bm i]
def TN(sp:Sp)(EE:St->XK)(t:TA):TE:=λc H Q=>t c H λd h=>sp d h Q (EE c)
def qP(EE:St->XK)(h:YB X.prog X.w X.K X.mg X.base x n ps sp)(l:YC X EE)(u:zv n X.A)(z:Gl X x)
  (E:PA X (e::es) t) (d:(x ==("__debug__" : j3))=false:=by decide) (B:starEach (e::es) X.env=(JP,eval e X.env)::starEach es X.env:=by rfl) (c:(backTo pos (starEach es X.env)).any (·.1)=false:=by rfl) :
  PE X (.Call (.Name x p) (e::es) [] pos) (TN sp EE t):=by
 obtain⟨f,fd,F,D,y,v⟩:=h;intro G s j H Q I h;erw[Ce (yw I z v ?_ d)];erw[DF (h₀:=X.base) I.ok.mod.kin y (thn (E pos G s j H _ I h) λL M ⟨J,N,i,r,q⟩=>⟨i.kIn,?_⟩) B c];rwa[VD F u D l i r q]
def PS.nox{st:Ar}{t:TS}(h:PS X.nox st t):PS X st t:=λi s c H D I d =>
 BA (h i s c H D (I.wish _) d) (λ_ _ q=>q.unwish) λ_ _ z=>Bm z
def Tj(cls:c6)(EE:St->XK)(t:TA):TS:=λ_ c H=>t c H λd h=>d.length<=sizeLine/\EE c cls JN h
def YE(EE:St->XK){v L:List c6}{B Bn i z j A:String}(c:JE x C v i X.mg X.base)(Fn:ExcBaseFacts Bn i A L)(J:v.contains (.type Bn)=JO)(FB:ExcBaseFacts B z j v)(hx:Tm X EE)
  {d np:DD} (ha:PA X (e::es) t) (hc:X.calm=true:=by rfl) (hg:Gl X x:=by rfl) (hd:(x ==("__debug__" : j3))=false:=by decide) (he:starEach (e::es) X.env=(JP,eval e X.env)::starEach es X.env:=by rfl) (E:(backTo d (starEach es X.env)).any (·.1)=false:=by rfl) :
  PS X (.Raise (O (.Call (.Name x np) (e::es) [] d)) JN pos) (Tj (.ref C) EE t):=by
 obtain⟨tl,N,nm,q,bs,l,P,sub,ab,u,dd,k0,Z,Y,S,R,Q,hC,hN,G,T⟩:=c.obj;intro JQ s M H D I h;refine wpAny_Raise_call_subU (C:=C) (nm:=nm) (q:=q) (N:=N) (bs:=bs) (bm:=tl) (hdct:=l) (sn:=P) (sub:=sub) (ab:=ab) (col:=u) (dd:=dd) (k0:=k0) (k1:=Z) (k2:=Y) (k3:=S) (k5:=R)
  Fn J FB (mN:=Q) (T.hasType FB.hasBase) (I.ok.hd hc) (by rw[he]; show(JP||(backTo d (starEach es X.env)).any (·.1))=JP; rw[E]; rfl) G (yw I hg c.bound ⟨rfl,?_⟩ hd)
 have h:=ha d JQ s M H _ I h;rw[he] at h ⊢;erw[Em (BA h (λus s2 ⟨vs,H1,w,r,len,q⟩=>⟨rfl,?_,w.bk _ _ hC,hN.keeps w.bk,T.keeps w.bk,λh' e hm=>?_⟩) λ_ _ y=>y)]
 ·rw[<- r.length]; rwa[len]
 ·rwa[hx JQ M H1 s2 h' e _ _ w hm q]
end
end L2

namespace L2
abbrev TJ:=St->Hp->(Hp->Prop)->Prop
section
variable{X:Cx}{e:Am}{es:List Am}{t:TJ}{te:TE}{pos p:DD}{n:Nat}
def PJ(X:Cx)(es:List Am)(n:Nat)(t:TJ):Prop:=∀(g:List (c7×By))(s:d7)(d:St)(H:Hp)(k:Nat)(c:j3)(Q:j3->d7->Prop)(C:Hp->Prop),Inv X g d H s->c.length<=2000*k->k+n<=100 ->
 t d H C->(∀(h:Hp)(out:j3)(f:d7),C h->out.length<=200000->Inv X g d h f->Q out f)->Joins (model X.prog X.w) X.A X.xe (evalEach es X.env) c Q s
def UR:TJ:=λ_ H K=>K H
def TK(te:TE)(t:TJ):TJ:=λc H K=>te c H λv d=>((∃ i,v=.int i/\i.natAbs.log2<1920)\/∃ x,v=.str x/\x.length<=1000)/\t c d K
def UQ:PJ X [] 0 UR:=λ_ s _ H _ c _ _ I h d q z=>z H c s q (by lia) I
def Ta{c:j3}{j:Nat}(g:PJ X es n t)(o:c.length<=1000:=by decide)(i:evalEach (.Constant (.str c) j p::es) X.env=eval (.Constant (.str c) j p) X.env::evalEach es X.env:=by rfl):PJ X (.Constant (.str c) j p::es) (n+1) t:=by
 intro l s f H k d Q C I h m q z;rw[i];erw[GR ⟨c,_,rfl,?_,?_⟩]
 ·rw[strLen_append];show d.length+c.length<=2^24;lia
 ·rwa[g l _ f H (k+1) _ _ C (I.tok _) (by rw[strLen_append]; lia) (by lia) q z]
def TX(M:PE X e te)(D:PJ X es n t)(N:evalEach (.FormattedValue e (-1) JN p::es) X.env=eval (.FormattedValue e (-1) JN p) X.env::evalEach es X.env:=by rfl):PJ X (.FormattedValue e (-1) JN p::es) (n+1) (TK te t):=by
 intro o s j H k f Q C I h R q z;rw[N];erw[wpAny_FormattedValue_plain (thn (M o s j H _ I q) λu L ⟨v,G,E,r,c,B⟩=>?_)];rcases c with ⟨i,rfl,hi⟩ | ⟨x,rfl,P⟩
 ·obtain⟨J,rfl⟩:=(show ∃ t,u=C3 i t from r);have l:=int_text_length_le (k:=1920) (by decide) hi;rw[<- D7] at l;erw[wpAny_formatField_int hi ⟨_,_,rfl,?_,?_⟩]
  ·rw[strLen_append];show f.length+_<=2^24;lia
  ·rwa[D o _ j G (k+1) _ _ C (E.tok _) (by rw[strLen_append]; lia) (by lia) B z]
 ·obtain⟨J,rfl⟩:=(show ∃ t,u=Dj x t from r);have m:∀(g:Ju)(d:Nat),∃ y t,Dj x g=.str y t/\(f++y).length<=sizeLine/\Joins (model X.prog X.w) X.A X.xe (evalEach es X.env) (f++y) Q { L with toks:=d }:=λg d =>
   ⟨x,g,rfl,by rw[strLen_append]; show f.length+x.length<=2^24; lia,D o _ j G (k+1) _ _ C (E.tok _) (by rw[strLen_append]; lia) (by lia) B z⟩
  exact formatField_str (λg d=>m g d) (by show x.length<=2^24; lia)
def US(t:TJ):TE:=λc H Q=>t c H λd=>∀ x:j3,x.length<=200000->Q (.str x) d
def Ve{a b:Am}(f:PJ X (a::b::es) n t)(o:n<=100:=by decide):PE X (.JoinedStr (a::b::es) pos) (US t):=by
 intro g s d H Q I h;exact wpAny_JoinedStr (f g s d H 0 Jh _ _ I (by decide) (by lia) h λj out m c l i=>⟨by show out.length<=2^24; lia,.str out,j,i.tok _,⟨_,rfl⟩,c out l⟩)
end
def bmV:List c6:=[.type "ValueError",.type "Exception",.type "BaseException",.type "object"]
end L2

namespace L2
def Xd(w:r9)(x:j3):keyH w (.inr x)=EM w.params x:=rfl
def be{P:m9}{w:r9}{B:w9}{a:c7}{l:List (j3×Nat×V×c6)}{ep:Nat}(h:B.get? a=O ⟨.type "dict",JN,.dict ((l.map λe=>(⟨EM w.params e.1,.str e.1 e.2.1,e.2.2.2⟩:C0)).toArray) ep,#[]⟩)
  (r:∀ e∈l,xJ e.2.2.1 e.2.2.2) (nd:(l.map (·.1)).Nodup):Ut P w B a (l.map λe=>(.inr e.1,e.2.2.1)):=by
 erw[l.map λe=>(.inr e.1,e.2.2.2),?_,_,_,ep,h,⟨rfl,rfl,rfl⟩,rfl,λe c=>?_,?_,?_]
 ·clear h nd
  induction l with
  | nil=>rwa[.nil]
  | cons e l d=>rwa[.cons ⟨rfl,r e (.head _)⟩ (d λe c=>r e (.tail _ c))]
 ·have c:e∈l.map λe=>(⟨EM w.params e.1,.str e.1 e.2.1,e.2.2.2⟩:C0):=by simpa using c
  obtain⟨q,_,rfl⟩:=g7.mp c;rwa[.inr q.1,wl P w q.1 q.2.1,(Xd w q.1).symm]
 ·rw[List.toList_toArray];clear h nd r
  induction l with
  | nil=>rwa[.nil]
  | cons e l d=>rwa[.cons (wl P w e.1 e.2.1) rfl d]
 ·rw[Ab];have:((λe:Key×c6=>e.1) ∘ λe:j3×Nat×V×c6=>((.inr e.1:Key),e.2.2.2))=(λx:j3=>(.inr x:Key)) ∘ λe=>e.1:=rfl;rw[this,<- Ab];erw[Ck.mpr (Cv.mpr ((Ck.mp nd).imp λn z=>n ?_))];injection z
def XG(c:Array C0):Bool:=c.toList.all λe=>match e.key with | .str _ _=>JO | _=>JP
def aT{c:Array C0}(h:XG c=JO):StrKeys c:=λe d=>by
 have:=AU.mp h e (by simpa using d);cases q:e.key <;> rw[q] at this <;> first | exact⟨_,_,U⟩ | cases this
def eh(K:c5)(N:c7):Bool:=match K.lookup N with
 | some ⟨_,_,.dict c _,_⟩=>XG c&&(nsFind c "__init__").isNone
 | _=>JP
def iR{K:c5}{B:w9}{N:c7}(X:K.In B)(h:eh K N=JO):∃ m,B.Ns N m/\m "__init__" = none:=by
 unfold eh at h;split at h
 ·rename_i c d e f g q
  rw[AT] at h;exact⟨nsFind e,⟨_,e,f,X _ _ q,U,aT h.1,λ_=>rfl⟩,by simpa using h.2⟩
 ·cases h
def eV(K:c5):List c6->Bool
 | []=>JP
 | .ref A::tl=>(match K.lookup A with | some ⟨_,_,.cls c,_⟩=>eh K c.ns&&eV K tl | _=>JP)
 | v::tl=>(v::tl) == bmV
def io{K:c5}{B:w9}(X:K.In B):∀{tl:List c6},eV K tl=JO->OwnTail B bmV tl
 | [],h=>by cases h
 | .ref A::tl,h=>by
  unfold eV at h;split at h
  ·rename_i c d g f q
   rw[AT] at h;obtain⟨m,h1,h2⟩:=iR X h.1;rwa[.own (X _ _ q) h1 h2 (io X h.2)]
  ·cases h
 | .type T::tl,h=>by
  have e:(Ik T::tl)=bmV:=beq_iff_eq.mp h;rw[e];rwa[.base]
 | .none::tl,h=>by have e:(AA::tl)=bmV:=beq_iff_eq.mp h; rw[e]; rwa[.base]
 | .bool b::tl,h=>by have e:(EO b::tl)=bmV:=beq_iff_eq.mp h; rw[e]; rwa[.base]
 | .int i t::tl,h=>by have e:(C3 i t::tl)=bmV:=beq_iff_eq.mp h; rw[e]; rwa[.base]
 | .float i t::tl,h=>by have e:(Gp i t::tl)=bmV:=beq_iff_eq.mp h; rw[e]; rwa[.base]
 | .str i t::tl,h=>by have e:(Dj i t::tl)=bmV:=beq_iff_eq.mp h; rw[e]; rwa[.base]
 | .bytes i t::tl,h=>by have e:(HS i t::tl)=bmV:=beq_iff_eq.mp h; rw[e]; rwa[.base]
 | .builtin i::tl,h=>by have e:(Value.builtin i::tl)=bmV:=beq_iff_eq.mp h; rw[e]; rwa[.base]
def TC(K:c5)(C:c7):Bool:=match K.lookup C with
 | some ⟨.type "type",_,.cls c,d⟩=>(match c.mro,d.toList with
  | .ref f::e,[_,_,_,_,O (.builtin n),_]=>f == C&&(!c.hasDel&&(n == "ValueError.__new__" && (eh K c.ns&&eV K e)))
  | _,_=>JP)
 | _=>JP
def YJ{K:c5}{B:w9}{C:c7}{x:j3}{mg:j3->Option c6}(X:K.In B)(y:mg x=O (.ref C))(q:TC K C=JO):JE x C bmV "ValueError.__new__" mg B:=by
 unfold TC at q;split at q
 ·rename_i A D g w
  split at q
  ·rename_i H E p o j i n h d r
   simp only[AT,beq_iff_eq,Fw] at q;obtain⟨rfl,c,rfl,hi,v⟩:=q;obtain⟨nm,bs,mro,ns,u,hd,s,sub,G,f,z⟩:=D;dsimp only at d c hi;subst d c;have e:g = #[p,o,j,i,O (.builtin "ValueError.__new__"),h]:=by
    obtain⟨l⟩:=g;simp only at r;rw[r]
   subst e;obtain⟨m,h1,h2⟩:=iR X hi;rwa[y,E,ns,nm,u,bs,hd,s,sub,G,f,A,p,o,j,i,h,m,X _ _ w,h1,h2,io X v]
  ·cases q
 ·cases q
def eN{F K:c5}{a:c7} : Ap a (F++K)=match Ap a F with | some o=>O o | none=>Ap a K:=by
 induction F with
 | nil=>rfl
 | cons e F c =>
  rw[HE,z9,z9];cases a == e.1 with
  | true=>rfl
  | false=>rwa[c]
def lY:∀{F:c5}{a:c7}{o:By},Ap a F=O o->(a,o)∈F
 | [],_,_,h=>by cases h
 | (b,u)::F,a,o,h=>by
  rw[z9] at h;cases z:a == b with
  | true =>
   rw[z] at h;cases h;rw[beq_iff_eq.mp z];rwa[.head _]
  | false =>
   rw[z] at h;rwa[.tail _ (lY h)]
def YV{F K:c5}{h:w9}(n:(F.map (·.1)).all (λa=>(Ap a K).isNone)=JO)(X:AG (F++K) h):AG K h:=λa o q=>X a o (by
 rw[eN];cases z:Ap a F with
 | none=>rwa[q]
 | some u =>
  have m:a∈F.map (·.1):=g7.mpr ⟨(a,u),lY z,rfl⟩;have:=AU.mp n a m;rw[q] at this;cases this)
def bT{F K:c5}{a:c7}{o:By}(n:(F.map (·.2.cls)).all (λc=>!(c == .type "list"))=JO)(h:Ap a (F++K)=O o)(c:o.cls=.type "list"):Ap a K=O o:=by
 rw[eN] at h;cases z:Ap a F with
 | none=>rw[z] at h; rwa[h]
 | some u =>
  rw[z] at h;have h:O u=O o:=h;injection h with h
  subst h;have:=AU.mp n u.cls (g7.mpr ⟨(a,u),lY z,rfl⟩);rw[c] at this;simp at this
def walk_of3{l:Ge}{n k:Nat}{q:m9}{i:List j3}{XP:(j3->Option c6)->w9->Prop}{L:r9->w9->Prop}{d:DefRec}{KK:C6->c5}{K:c5}{sp:Sp}{x:j3}
  (P:l.most=O n) (B:n<=sizeLine) (D:d.params.defaults=[]) (N:zv k callerA)
  (X:∀(w:r9)(h:w9),L w h->(KK w.params).In h) (sub:∀(p:C6)(h:w9),(KK p).In h->K.In h) (past:∀(p:C6)(a:c7)(o:By),Ap a (KK p)=O o->o.cls=.type "list" -> Ap a K=O o)
  (F:∀(w:r9)(mg:j3->Option c6)(r:c7)(h:w9),(KK w.params).In h->h.Ns mainGlobals mg->mg d.name=O (.ref r) ->
   ∃ fd:AJ,(∀(s:d7)(u:c6),FX s fd ⟨[u],[]⟩ [(x,u)]) /\
    ∀ base:w9,(KK w.params).In base->base.Ns mainGlobals mg->yQ l.prog w K mg base CX0 k r fd [x] sp)
  (A:∀(H:Hp)(a:c7)(ns:List Int),ns.length<=n->SqL K H a (ns.map V.int)->sp [.ref a] H (λv _=>v=.bl JO) λ_ _ _=>False) :
  Je q i XP L l.row.toRowW d [] (λf E=>Is f E):=by
 erw[Att.attach_call P D λw s₀ I mg mb r o pm cd doc a E ns G Y ho hd R C m j c Q=>?_];have M:=X w _ Y;obtain⟨fd,S,hF⟩:=F w mg r _ M G.T.g C;erw[YM (K:=KK w.params) M G.T.g G.T.b G.T.builtins G.T.nolimit Q m j (f9 c B) N (λbase J hN=>(hF base J hN).withK (sub _ _ J)) S (λH hO Z=>A H a ns c ?_) λH e s' z=>z];rcases Z with h | ⟨o,y,n,h1,h2,h3⟩
 ·rwa[.inl h]
 ·rwa[.inr ⟨o,y,n,past _ _ _ h1 h2,h2,h3⟩]
end L2

namespace Sea
def aA{a b c:Int}{M N:Nat}(h:a≠0\/b≠0)(f:a.natAbs<=M)(e:b.natAbs<=M)(d:c.natAbs<=N):∃ x y z:Int,zw [a,b,c]=[x,y,z]/\(x≠0\/y≠0)/\x.natAbs<=M/\y.natAbs<=M/\z.natAbs<=N:=by
 erw[_,_,_,rfl,h.imp (λn z=>n ?_) (λn z=>n ?_),f9 (BG _ _) f,f9 (BG _ _) e,f9 (BG _ _) d]
 ·have:=uC (ns:=[a,b,c]) (n:=a) (.head _);rw[show _/_=(0:Int) from z,F0] at this;rwa[this.symm]
 ·have:=uC (ns:=[a,b,c]) (n:=b) (.tail _ (.head _));rw[show _/_=(0:Int) from z,F0] at this;rwa[this.symm]
def Wt{a b:Int}{M N:Nat}(d:a.natAbs<=M)(c:b.natAbs<=N):(a*b).natAbs<=M*N:=by
 rw[EU];rwa[Iu d c]
def Yt(M N:Nat)(r:List Int):Prop:=∃ x y z:Int,r=[x,y,z]/\(x≠0\/y≠0)/\x.natAbs<=M/\y.natAbs<=M/\z.natAbs<=N
section
variable{S:BS}{D:Deed}
def dX(p:∀ e∈S.marks,vt e.2)(i:rT S D):∀ r∈vP S D,Yt 2000 (2000000) r:=by
 match D,i with
 | .bearing m n a b c d,i =>
  obtain⟨_,_,h1,⟨s,w1,B,A,y⟩,⟨q,x,w,v,u⟩⟩:=i;dsimp only at w1 B A y x w v u;obtain⟨pt,f⟩:=j7.mp h1;obtain⟨n1,n2,n3,n4⟩:=wB p f;rw[show vP S (.bearing m n a b c d)=[zw [-b,a,a*(xV S n).2-b*(xV S n).1],zw [d,-c,(xV S n).1*d-(xV S n).2*c]] from rfl,xM f];have I:a≠0\/b≠0:=by
   by_cases e:a=0
   ·rwa[.inr λo=>s (by rw[e,o])]
   ·rwa[.inl e]
  have H:c≠0\/d≠0:=by
   by_cases e:c=0
   ·rwa[.inr λo=>q (by rw[e,o])]
   ·rwa[.inl e]
  have E:=Wt (a:=a) (b:=pt.2) (M:=100) (N:=1000) (by lia) (by lia);have C:=Wt (a:=b) (b:=pt.1) (M:=100) (N:=1000) (by lia) (by lia);have T:=Wt (a:=pt.1) (b:=d) (M:=1000) (N:=100) (by lia) (by lia);have R:=Wt (a:=pt.2) (b:=c) (M:=1000) (N:=100) (by lia) (by lia);intro r j;rcases o0.mp j with e | j
  ·rw[e];rwa[aA (by lia) (by lia) (by lia) (by lia)]
  ·rw[f6.mp j];rwa[aA (by lia) (by lia) (by lia) (by lia)]
 | .range m l r,i =>
  obtain⟨_,_,h1,h2,ne⟩:=i;obtain⟨pt,f⟩:=j7.mp h1;obtain⟨h,g⟩:=j7.mp h2;obtain⟨n1,n2,n3,n4⟩:=wB p f;obtain⟨Q,P,L,J⟩:=wB p g;have ne:pt≠h:=λz=>ne (by rw[f,g,z]);have nz:pt.2-h.2≠0\/h.1-pt.1≠0:=by
   by_cases e:pt.2=h.2
   ·rwa[.inr λo=>ne (G8 (by lia) e)]
   ·rwa[.inl (by lia)]
  have E:=Wt (a:=h.1) (b:=pt.2) (M:=1000) (N:=1000) (by lia) (by lia);have C:=Wt (a:=h.2) (b:=pt.1) (M:=1000) (N:=1000) (by lia) (by lia);intro G j;rw[f6.mp j,xM f,xM g];rwa[aA nz (by lia) (by lia) (by lia)]
def YX{runs:List (Int×Int)}{i j:Nat}(h:runs.length<=60)(g:∀ e∈runs,vt e):(uF runs i j).1.natAbs<=60000/\(uF runs i j).2.natAbs<=60000:=by
 have f:∀ e∈qZ runs i j,e∈runs:=λe c=>Bf (Cu c);have l:=vp runs i j;have a:=oq ((qZ runs i j).map (·.1)) 1000 λx d=>by
  obtain⟨e,c,rfl⟩:=g7.mp d;obtain⟨n,m,_,_⟩:=g e (f e c);lia
 have b:=oq ((qZ runs i j).map (·.2)) 1000 λx d=>by
  obtain⟨e,c,rfl⟩:=g7.mp d;obtain⟨_,_,n,m⟩:=g e (f e c);lia
 rw[b7] at a b;unfold uF tX;split <;> rwa[by dsimp only; lia,by dsimp only; lia]
def qu{j:Nat}(g:gq S)(m:rT S D):∀ r∈yh S j D,Yt 2000 (10^9) r:=by
 intro r f;unfold yh at f;obtain⟨x,n,rfl⟩:=g7.mp f;obtain⟨a,b,c,rfl,nz,l,h,q⟩:=dX g.mk_ m x n;obtain⟨e,d⟩:=YX (i:=(wI D).toNat) (j:=j) g.few.ru g.way;generalize uF S.runs (wI D).toNat j=ld at e d;have p:=Wt l e;have o:=Wt h d;exists a,b,c+a*ld.1+b*ld.2,U,nz,l,h;have:=FA (c+a*ld.1) (b*ld.2);have:=FA c (a*ld.1);lia
end
def p3:List Int->P3
 | [a,b,c]=>(a,b,c)
 | _=>(0,0,0)
def XY{H:Hp} : ∀{as:List c7}{rows:List (List Int)},xG H as rows->(∀ r∈rows,Yt 2000 (10^9) r)->∃ c:List Sd,c.map (·.1)=as/\du H c/\c.map (·.2)=rows.map p3
 | [],[],_,_=>⟨[],rfl,λt d=>(nomatch d),rfl⟩
 | [],_::_,h,_=>by have:=h.len; simp at this
 | _::_,[],h,_=>by have:=h.len; simp at this
 | a::as,r::rows,h,ok=>by
  obtain⟨x,y,z,rfl,nz,m,l,i⟩:=ok r (.head _);have e:=h.at_ 0 a [x,y,z] rfl rfl;obtain⟨c,s,p,o⟩:=XY (as:=as) (rows:=rows) ⟨by have:=h.len; simpa using this,λj b g n f=>h.at_ (j+1) b g (by simpa using n) (by simpa using f)⟩ λr f=>ok r (.tail _ f);erw[(a,x,y,z)::c,by rw[i5,s],λt d=>?_,by rw[i5,i5,o]; rfl];rcases o0.mp d with q | q
  ·rw[q];rwa[e,nz,f9 m (by decide),f9 l (by decide),f9 i (by decide)]
  ·rwa[p t q]
def nK{A H:Hp} : ∀{gs:List c7}{rows:List (List (List Int))},xD A H gs rows->(∀ g∈rows,∀ r∈g,Yt 2000 (10^9) r)->∃ c:List (c7×List Sd),c.map (·.1)=gs/\(∀ g∈c,H g.1=O (.lst (yB g.2))/\du H g.2)/\c.map (λg=>g.2.map (·.2))=rows.map λr=>r.map p3
 | [],[],_,_=>⟨[],rfl,λt f=>(nomatch f),rfl⟩
 | [],_::_,h,_=>by have:=h.len; simp at this
 | _::_,[],h,_=>by have:=h.len; simp at this
 | g::gs,r::rows,h,ok=>by
  obtain⟨as,e,i⟩:=h.at_ 0 g r rfl rfl;obtain⟨d,v,u,s⟩:=XY i (ok r (.head _));obtain⟨c,z,y,w⟩:=nK (gs:=gs) (rows:=rows) ⟨by have:=h.len; simpa using this,λx m=>h.new x (.tail _ m),λj b l p n=>h.at_ (j+1) b l (by simpa using p) (by simpa using n)⟩ λg o=>ok g (.tail _ o);refine⟨(g,d)::c,by rw[i5,z],λt f=>?_,by rw[i5,i5,w]; show d.map (·.2)::_=_; rw[s]⟩;rcases o0.mp f with q | q
  ·rw[q];erw[?_,u];show H g=O (.lst ((d.map (·.1)).map V.ref));rw[v];rwa[e]
  ·rwa[y t q]
end Sea

namespace Sea
section
variable{H:Hp}{v:V}
def VR{n:j3}{x y:Int}(h:Rep H (Deed.move n x y).dt v):∃ a,v=.ref a/\H a=O (.tup [.str "move",.str n,.int x,.int y]):=by
 obtain⟨a,i,e,h1,h2⟩:=xN.mp h;obtain⟨_,_,rfl,g,h2⟩:=zJ.mp h2;obtain⟨_,_,rfl,f,h2⟩:=zJ.mp h2;obtain⟨_,_,rfl,d,h2⟩:=zJ.mp h2;obtain⟨_,_,rfl,c,h2⟩:=zJ.mp h2;rw[yM.mp g,yM.mp f,yR.mp d,yR.mp c,yC.mp h2] at h1;rwa[a,e,h1]
def aQ{n:j3}(h:Rep H (Deed.unmark n).dt v):∃ a,v=.ref a/\H a=O (.tup [.str "unmark",.str n]):=by
 obtain⟨a,f,e,h1,h2⟩:=xN.mp h;obtain⟨_,_,rfl,d,h2⟩:=zJ.mp h2;obtain⟨_,_,rfl,c,h2⟩:=zJ.mp h2;rw[yM.mp d,yM.mp c,yC.mp h2] at h1;rwa[a,e,h1]
def YY{n:j3}(h:Rep H (Deed.level n).dt v):∃ a,v=.ref a/\H a=O (.tup [.str "level",.str n]):=by
 obtain⟨a,f,e,h1,h2⟩:=xN.mp h;obtain⟨_,_,rfl,d,h2⟩:=zJ.mp h2;obtain⟨_,_,rfl,c,h2⟩:=zJ.mp h2;rw[yM.mp d,yM.mp c,yC.mp h2] at h1;rwa[a,e,h1]
def Xf{k x y:Int}(h:Rep H (Deed.right k x y).dt v):∃ a,v=.ref a/\H a=O (.tup [.str "right",.int k,.int x,.int y]):=by
 obtain⟨a,i,e,h1,h2⟩:=xN.mp h;obtain⟨_,_,rfl,g,h2⟩:=zJ.mp h2;obtain⟨_,_,rfl,f,h2⟩:=zJ.mp h2;obtain⟨_,_,rfl,d,h2⟩:=zJ.mp h2;obtain⟨_,_,rfl,c,h2⟩:=zJ.mp h2;rw[yM.mp g,yR.mp f,yR.mp d,yR.mp c,yC.mp h2] at h1;rwa[a,e,h1]
structure CnAt(H:Hp)(cs:List (Int×Int))(ps:List Pr):Prop where
 mk ::
 pt:ps.map (·.2)=cs
 at_:∀ t∈ps,H t.1=O (.tup [.int t.2.1,.int t.2.2])
def mR:∀{g:List (Int×Int)}{i:List V},xT H (g.map ptD) i->∃ d:List Pr,i=fT d/\CnAt H g d
 | [],_,h=>⟨[],yC.mp h,rfl,λt f=>(nomatch f)⟩
 | c::g,_,h=>by
  obtain⟨x,r,rfl,h1,h2⟩:=zJ.mp h;obtain⟨a,rfl,j⟩:=qo h1;obtain⟨d,rfl,e,h3⟩:=mR h2;erw[(a,c)::d,rfl,by rw[i5,e],λt f=>?_];rcases o0.mp f with z | z
  ·rw[z]; rwa[j]
  ·rwa[h3 t z]
def br{n:j3}{f:List (Int×Int)}(h:Rep H (Deed.bank n f).dt v):∃(a c:c7)(d:List Pr),v=.ref a/\H a=O (.tup [.str "bank",.str n,.ref c])/\H c=O (.tup (fT d))/\CnAt H f d/\Rep H (.tup (f.map ptD)) (.ref c):=by
 obtain⟨a,o,e,h1,h2⟩:=xN.mp h;obtain⟨_,_,rfl,j,h2⟩:=zJ.mp h2;obtain⟨_,_,rfl,i,h2⟩:=zJ.mp h2;obtain⟨_,_,rfl,g,h6⟩:=zJ.mp h2;obtain⟨c,m,rfl,h3,h4⟩:=xN.mp g;obtain⟨d,rfl,h5⟩:=mR h4;have l:=yC.mp h6;rw[yM.mp j,yM.mp i,l] at h1;rwa[a,c,d,e,h1,h3,h5,g]
end
def VG{S:BS}{n:j3}{x y:Int}(h:(zT S n).isSome=JO):Um (mkE S.marks) (.inr n) (ptD (x,y))=mkE (aft S (.move n x y)).marks:=by
 have any:(mkE S.marks).any (λe=>decide (e.1=.inr n))=true:=by
  obtain⟨p,e⟩:=j7.mp h;rwa[BP.mpr ⟨(.inr n,ptD p),g7.mpr ⟨(n,p),xy e,rfl⟩,by simp⟩]
 unfold Um;rw[y6 any];show _=mkE (S.marks.map _);unfold mkE;rw[Ab,Ab];erw[Dx λe _=>?_];show(if (CF e.1:Key)=CF n then((CF e.1:Key),ptD (x,y)) else(CF e.1,ptD e.2))=_;by_cases z:e.1=n
 ·rw[y6 (by rw[z])];show _=((CF (if e.1=n then(e.1,x,y) else e).1:Key),ptD (if e.1=n then(e.1,x,y) else e).2);rw[y6 z]
 ·rw[y4 (λq=>z (HR q))];show _=((CF (if e.1=n then(e.1,x,y) else e).1:Key),ptD (if e.1=n then(e.1,x,y) else e).2);rw[y4 z]
def YN(l:List (j3×Int×Int))(n:j3):iD (mkE l) (.inr n)=mkE (l.filter λe=>decide (e.1≠n)):=by
 unfold iD mkE;rw[Gc]
 congr 1
 erw[DU λe _=>?_];simp
def Vj(l:List (j3×List (Int×Int))):(bkE l).length=l.length:=by unfold bkE; rw[b7]
def VZ(l:List (j3×List (Int×Int)))(n:j3)(c:List (Int×Int)):bkE (l++[(n,c)])=bkE l++[(.inr n,.tup (c.map ptD))]:=by
 unfold bkE;rw[e7];rfl
def Ye(l:List (j3×List (Int×Int)))(n:j3):iD (bkE l) (.inr n)=bkE (l.filter λe=>decide (e.1≠n)):=by
 unfold iD bkE;rw[Gc]
 congr 1
 erw[DU λe _=>?_];simp
def Yd{l:List (j3×List (Int×Int))}{n:j3}(h:n ∉ l.map (·.1)):∀ e∈bkE l,e.1≠.inr n:=λe c z=>by
 unfold bkE at c;obtain⟨q,d,rfl⟩:=g7.mp c;rwa[h (g7.mpr ⟨q,d,HR z⟩)]
def Vo{c:List (Key×Dt)}{k:Key}(h:k∈c.map (·.1)):∃ d,look c k=O d:=by
 obtain⟨e,f,rfl⟩:=g7.mp h;unfold look;cases q:c.find? λx=>decide (x.1=e.1) with
 | none=>rwa[y9 (CT.mp q e f) (by simp)]
 | some x=>rwa[x.2,rfl]
def Tt{l:List (j3×List (Int×Int))}{n:j3}(h:n∈l.map (·.1)):∃ d,look (bkE l) (.inr n)=O d:=Vo (by
 obtain⟨e,c,rfl⟩:=g7.mp h;rwa[g7.mpr ⟨_,g7.mpr ⟨e,c,rfl⟩,rfl⟩])
def xT.set{H:Hp}{d:Dt}{v:V}(h:Rep H d v):∀{l:List Dt}{c:List V}(i:Nat),xT H l c->xT H (l.set i d) (c.set i v)
 | [],_,i,q=>by rw[yC.mp q]; rwa[yC.mpr rfl]
 | d'::l,_,0,q=>by
  obtain⟨x,r,rfl,h1,h2⟩:=zJ.mp q;rwa[zJ.mpr ⟨v,r,rfl,h,h2⟩]
 | d'::l,_,i+1,q=>by
  obtain⟨x,r,rfl,h1,h2⟩:=zJ.mp q;rwa[zJ.mpr ⟨x,_,rfl,h1,xT.set h i h2⟩]
def UY{n i:Nat}(h:i<n):ixN n (i:Int)=O i:=by
 unfold ixN;simp;lia
end Sea

namespace Sea
def BkL(C:c7)(H:Hp)(b p l:c7)(S:BS)(past later:List (Deed×BS)):Prop:=∃ f d c e,BkA C H b p f d l c e S past later
abbrev Bl(b p l:c7):c7->Prop:=λx=>x=b\/x=p\/x=l
section
variable{H H1:Hp}
def bl_nd{C b p l j:c7}{fs:List (j3×V)}{g i:List V}(f:H b=O (.ins C j fs))(d:H p=O (.lst g))(e:H l=O (.lst i)):∀ a c,Rd H a (.dK c)->¬ Bl b p l a:=λa c h z=>by
 rcases z with z | z | z <;> subst z <;> rcases h with h | ⟨o,h⟩
 ·rw[f] at h; cases h
 ·rw[f] at h; cases h
 ·rw[d] at h; cases h
 ·rw[d] at h; cases h
 ·rw[e] at h; cases h
 ·rw[e] at h; cases h
def bl_np{C b p l j:c7}{fs:List (j3×V)}{d e:List V}(i:H b=O (.ins C j fs))(f:H p=O (.lst d))(g:H l=O (.lst e)):∀ a c,H a=O (.tup c)->¬ Bl b p l a:=λa c h z=>by
 rcases z with z | z | z <;> subst z
 ·rw[i] at h; cases h
 ·rw[f] at h; cases h
 ·rw[g] at h; cases h
end
end Sea

namespace Sea
mutual
def vn:Dt->List j3
 | .int i=>[B6 (toString i)]
 | .str x=>[x]
 | .tup l=>ye l
def ye:List Dt->List j3
 | []=>[]
 | d::l=>vn d++ye l
end
def Vn:Nat->Dt->Prop
 | _,.int i=>i.natAbs.log2<1920
 | _,.str x=>x.length<=1921
 | 0,.tup _=>False
 | n+1,.tup l=>l.length<=900/\∀ d∈l,Vn n d
mutual
def aZ:∀(n:Nat)(d:Dt),Vn n d->∀ w∈vn d,w.length<=1921
 | n,.int i,h,w,c=>by
  have h:i.natAbs.log2<1920:=by cases n <;> rwa[h]
  rw[vn] at c;rw[f6.mp c,D7];rwa[int_text_length_le (k:=1920) (by decide) h]
 | n,.str x,h,w,c=>by
  have h:x.length<=1921:=by cases n <;> rwa[h]
  rw[vn] at c;rw[f6.mp c];rwa[h]
 | 0,.tup _,h,_,_=>h.elim
 | n+1,.tup l,h,w,c=>by
  rw[vn] at c;rwa[lv n l h.2 w c]
def lv:∀(n:Nat)(l:List Dt),(∀ d∈l,Vn n d)->∀ w∈ye l,w.length<=1921
 | _,[],_,w,c=>by rw[ye] at c; exact nomatch c
 | n,d::l,h,w,c=>by
  rw[ye] at c;rcases l7.mp c with z | z
  ·rwa[aZ n d (h d (.head _)) w z]
  ·rwa[lv n l (λd hd=>h d (.tail _ hd)) w z]
end
mutual
def qR:Dt->List Dt
 | .int i=>[.int i]
 | .str x=>[.str x]
 | .tup l=>sU l
def sU:List Dt->List Dt
 | []=>[]
 | d::l=>qR d++sU l
end
def w1:Dt->j3
 | .int i=>B6 (toString i)
 | .str x=>x
 | .tup _=>Jh
mutual
def hJ:∀ d:Dt,vn d=(qR d).map w1
 | .int i=>by rw[vn,qR]; rfl
 | .str x=>by rw[vn,qR]; rfl
 | .tup l=>by rw[vn,qR]; rwa[ux l]
def ux:∀ l:List Dt,ye l=(sU l).map w1
 | []=>by rw[ye,sU]; rfl
 | d::l=>by rw[ye,sU,e7,hJ d,ux l]
end
mutual
def Zw:∀(n:Nat)(d:Dt),Vn n d->∀ e∈qR d,Vn 0 e
 | n,.int i,h,e,c=>by
  rw[qR] at c;rw[f6.mp c];cases n <;> rwa[h]
 | n,.str x,h,e,c=>by
  rw[qR] at c;rw[f6.mp c];cases n <;> rwa[h]
 | 0,.tup _,h,_,_=>h.elim
 | n+1,.tup l,h,e,c=>by
  rw[qR] at c;rwa[mO n l h.2 e c]
def mO:∀(n:Nat)(l:List Dt),(∀ d∈l,Vn n d)->∀ e∈sU l,Vn 0 e
 | _,[],_,e,c=>by rw[sU] at c; exact nomatch c
 | n,d::l,h,e,c=>by
  rw[sU] at c;rcases l7.mp c with z | z
  ·rwa[Zw n d (h d (.head _)) e z]
  ·rwa[mO n l (λd hd=>h d (.tail _ hd)) e z]
end
end Sea

namespace Sea
structure Tame(S:BS)(k:Nat):Prop where
 mk ::
 ma:∀ e∈S.marks,sN e.1
 ba:∀ e∈S.banks,sN e.1
 ru:S.runs.length<=k
 no:∀ e∈S.notes,0<=e.1/\e.1<=S.coming
 co:0<=S.coming/\S.coming<=1+k
def Bd(S:BS)(B:Nat):Prop:=∀ e∈S.marks,e.2.1.natAbs<=B/\e.2.2.natAbs<=B
structure GrowD(S:BS)(D:Deed)(B:Nat):Prop where
 mk ::
 ok:okD S D
 bd:Bd (aft S D) (B+5)
 lo:S.marks.length<=(aft S D).marks.length
 hi:(aft S D).marks.length<=S.marks.length+1
 bk:(aft S D).banks=S.banks
end Sea

namespace L2
abbrev calmA(A:Ac):Ac:={ A with handled:=JN }
structure Tg(P:m9)(w:r9)(K:c5)(mg:j3->Option c6)(base:w9)(k:Nat)(f:c7)(fd:AJ)(ps:List j3)(sp:c7->Sp):Prop where
 mk ::
 len:∀ x vs H Q E,sp x vs H Q E->vs.length=ps.length
 run:∀(x:c7)(A:Ac)(outer:List Ff)(s:d7)(H:Hp)(args:Args)(us:List c6)(vs:List V)(Q:VK),A.handled=O (.ref x)->zv k (calmA A)->XO P w K mg base A outer s H->FX s fd args (ps.zip us)->yN vs us->sp x vs H Q E0 ->
  codeAny (model P w) A (.call (.ref f) args) (CR CX0 outer P w H s Q E0) s
def HasH(P:m9)(w:r9)(K:c5)(mg:j3->Option c6)(base:w9)(x:j3)(n:Nat)(c:List j3)(sp:c7->Sp):Prop :=
 ∃(f:c7)(fd:AJ),Tg P w K mg base n f fd c sp/\uh K fd c []/\AI K (.ref f)=JO/\mg x=O (.ref f)
open PySem PySem.Spec PyProof.Rows PySem.W
end L2

namespace Sea
open PySem L2 PySem.Spec
open PyProof.Rows hiding St
mutual
def pd:Dt->PyData
 | .int i=>.int i
 | .str x=>.str x
 | .tup l=>.tuple (pds l)
def pds:List Dt->List PyData
 | []=>[]
 | d::l=>pd d::pds l
end
mutual
def shB:Dt->Nat
 | .int i=>i.natAbs.log2+3
 | .str x=>10*x.length+2
 | .tup l=>Ti l+4
def Ti:List Dt->Nat
 | []=>0
 | d::l=>shB d+2+Ti l
end
mutual
def okS:Dt->Prop
 | .int i=>i.natAbs.log2<1920
 | .str x=>∀ c∈x.cps.toList,c<16^8
 | .tup l=>Uu l
def Uu:List Dt->Prop
 | []=>True
 | d::l=>okS d/\Uu l
end
def je(c:List j3):(tupleText c).length<=piled c+4:=by
 unfold tupleText;rw[strLen_append,strLen_append];have h1:("(" : j3).length=1:=rfl;have h2:(B6 (if c.length == 1 then ",)" else ")")).length<=2:=by split <;> decide
 have h3:(FR ", " c).length<=piled c:=by
  by_cases z:c=[]
  ·subst z; decide
  ·have:=join_length_add c z; lia
 lia
mutual
def Xy:∀ d:Dt,okS d->(pd d).shown.length<=shB d
 | .int i,h=>by
  rw[okS] at h;rw[pd,shB,Hl];have:=int_text_length_le (k:=i.natAbs.log2+1) (by lia) (CK i.natAbs.log2);rw[<- D7] at this;lia
 | .str x,h=>by
  rw[okS] at h;rw[pd,shB,Hl];rwa[StrLaws.reprText_len x h]
 | .tup l,h=>by
  rw[okS] at h;rw[pd,shB,Hl];have:=je (EB (pds l));have:=jc l h;lia
def jc:∀ l:List Dt,Uu l->piled (EB (pds l))<=Ti l
 | [],_=>by rw[pds,EB,Ti]; decide
 | d::l,h=>by
  rw[Uu] at h;rw[pds,EB,Ti,piled_cons];have:=Xy d h.1;have:=jc l h.2;lia
end
mutual
def YS:∀ d:Dt,okS d->(pd d).showable=JO
 | .int i,h=>by rw[okS] at h; rw[pd,Gf]; rwa[y7 h]
 | .str x,_=>by rw[pd,Gf]
 | .tup l,h=>by rw[okS] at h; rw[pd,Gf]; rwa[jl l h]
def jl:∀ l:List Dt,Uu l->Fb (pds l)=JO
 | [],_=>by rw[pds,Fb]
 | d::l,h=>by rw[Uu] at h; rw[pds,Fb,YS d h.1,jl l h.2]; rfl
end
mutual
def We:∀ d:Dt,(pd d).hasDict=JP
 | .int i=>by rw[pd,GC]
 | .str x=>by rw[pd,GC]
 | .tup l=>by rw[pd,GC]; rwa[fP l]
def fP:∀ l:List Dt,FC (pds l)=JP
 | []=>by rw[pds,FC]
 | d::l=>by rw[pds,FC,We d,fP l]; rfl
end
section
variable{X:Cx}{JQ:List (c7×By)}{σ:St}{H:Hp}{s:d7}
mutual
def Xz(I:Inv X JQ σ H s):∀(d:Dt){v:V}{u:c6},Rep H d v->xJ v u->∃ as,Reads s.heap u (pd d) as
 | .int i,v,u,h,r=>by
  rw[yR.mp h] at r;obtain⟨t,rfl⟩:=(show ∃ t,u=C3 i t from r);rw[pd];rwa[_,.int i t]
 | .str x,v,u,h,r=>by
  rw[yM.mp h] at r;obtain⟨t,rfl⟩:=(show ∃ t,u=Dj x t from r);rw[pd];rwa[_,.str x t]
 | .tup l,v,u,h,r=>by
  obtain⟨a,m,rfl,j,e⟩:=xN.mp h;obtain rfl:u=j8 a:=r;obtain⟨g,c,⟨o,h1,h2,n,h3⟩,p⟩:=I.tuple (SqT.of j);obtain⟨as,f⟩:=jE I l e c;rw[pd];exact⟨_,.tuple h1 h2 h3 (by simpa using f)⟩
def jE(I:Inv X JQ σ H s):∀(l:List Dt){c:List V}{e:List c6},xT H l c->yN c e->∃ as,ReadsAll s.heap e (pds l) as
 | [],c,e,h,r=>by
  rw[yC.mp h] at r;cases r;rw[pds];rwa[_,.nil]
 | d::l,c,e,h,r=>by
  obtain⟨x,m,rfl,h1,h2⟩:=zJ.mp h;cases r with
  | cons j i =>
   obtain⟨as,g⟩:=Xz I d h1 j;obtain⟨bs,f⟩:=jE I l h2 i;rw[pds];rwa[_,.cons g f]
end
end
end Sea
namespace L2
section
variable{X:Cx}{x y:j3}{p pos:DD}{i e:Am}{es:List Am}{ty:TE}{t:TA}
structure TabAtX(P:m9)(w:r9)(K:c5)(mg:j3->Option c6)(B:w9)(m:Nat)(kvs:List (Key×V))(k:Key)(sp:Sp):Prop where
 mk ::
 has:∃(x:j3)(f:c7)(n:Nat)(ps:List j3),vS kvs k=O (.ref f)/\mg x=O (.ref f)/\YB P w K mg B x n ps sp/\n<=m
end
end L2

namespace Sea
inductive Cl where
 | badName | taken | badPlace | full | noMark | same | needed | badBank | noBank | badRun | noRun | noMoment | badWay | badTurn | noNote
 deriving DecidableEq
open Classical in
noncomputable def judge(S:BS):Deed->Option Cl
 | .mark n x y=>if ¬ sN n then O .badName else if (zT S n).isSome=JO then O .taken else if ¬ vt (x,y) then O .badPlace else if 20<=S.marks.length then O .full else JN
 | .move n x y=>if zT S n=JN then O .noMark else if ¬ vt (x,y) then O .badPlace else if ∀ e∈S.notes,WT (aft S (.move n x y)) e.2 then JN else O .same
 | .unmark n=>if zT S n=JN then O .noMark else if ∀ e∈S.notes,dB n e.2 then JN else O .needed
 | .bank n f=>if ¬ sN n then O .badName else if n∈S.banks.map (·.1) then O .taken else if ¬ ∀ c∈f,vt c then O .badPlace else if isBk f=JP then O .badBank else if 8<=S.banks.length then O .full else JN
 | .level n=>if n∈S.banks.map (·.1) then JN else O .noBank
 | .sail x y=>if ¬ vt (x,y) then O .badRun else if 12<=S.runs.length then O .full else JN
 | .right k x y=>if 0<=k/\k<S.runs.length then(if vt (x,y) then JN else O .badRun) else O .noRun
 | .bearing m n a b c d=>if ¬ (0<=m/\m<=S.runs.length) then O .noMoment else if zT S n=JN then O .noMark else if ¬ vf (a,b) then O .badWay else if ¬ vf (c,d) then O .badWay else if a*d-b*c<=0 then O .badTurn else if 24<=S.notes.length then O .full else JN
 | .range m l r=>if ¬ (0<=m/\m<=S.runs.length) then O .noMoment else if zT S l=JN then O .noMark else if zT S r=JN then O .noMark else if zT S l=zT S r then O .same else if 24<=S.notes.length then O .full else JN
 | .strike k=>if k∈S.notes.map (·.1) then JN else O .noNote
def XH(x:j3):Prop:=(∀ c∈x.cps.toList,c<128)/\x.length<=50
def gm(i:Int):Prop:=i.natAbs.log2<200
def tameD:Deed->Prop
 | .mark n x y=>XH n/\gm x/\gm y
 | .move n x y=>XH n/\gm x/\gm y
 | .unmark n=>XH n
 | .bank n e=>XH n/\e.length<=12/\∀ c∈e,c.1.natAbs.log2<20/\c.2.natAbs.log2<20
 | .level n=>XH n
 | .sail x y=>gm x/\gm y
 | .right k x y=>gm k/\gm x/\gm y
 | .bearing m n a b c d=>gm m/\XH n/\gm a/\gm b/\gm c/\gm d
 | .range m l r=>gm m/\XH l/\XH r
 | .strike k=>gm k
structure Well(S:BS):Prop where
 mk ::
 good:gq S
 names:∀ e∈S.marks,sN e.1
structure RwAt(H:Hp)(ts:List c7)(ws:List (j3×Bool)):Prop where
 mk ::
 len:ts.length=ws.length
 at_:∀(j:Nat)(t:c7)(w:j3×Bool),ts[j]?=O t->ws[j]?=O w->H t=O (.tup [.str w.1,.bl w.2])
end Sea

namespace Sea
structure Neat(S:BS):Prop where
 mk ::
 well:Well S
 nm:(S.marks.map (·.1)).Nodup
 nb:(S.banks.map (·.1)).Nodup
 bk:∀ e∈S.banks,sN e.1/\e.2.length<=8/\∀ c∈e.2,vt c
end Sea

namespace Sea
def mkOf(e:j3×Int×Int):Deed:=.mark e.1 e.2.1 e.2.2
def bkOf(e:j3×List (Int×Int)):Deed:=.bank e.1 e.2
def slOf(e:Int×Int):Deed:=.sail e.1 e.2
def noteF(ns:List j3)(D:Deed):Prop:=(∃(m:Int)(i:Nat)(l r:j3),D=.range m l r/\0<=m/\m<=12/\i<18/\ns[i]?=O l/\ns[i+1]?=O r)\/∃(m k:Int)(i:Nat)(n:j3),D=.bearing m n 100 k (-k) 100/\0<=m/\m<=12/\0<=k/\k<24/\i<19/\ns[i]?=O n
structure FillD(ns:List j3)(Ds:List Deed)(l1:List (j3×Int×Int))(l2:List (j3×List (Int×Int)))(l3:List (Int×Int))(l4:List Deed)(c:Nat):Prop where
 mk ::
 eq:Ds=l1.map mkOf++l2.map bkOf++l3.map slOf++l4
 n1:l1.map (·.1)=ns.take 20
 p1:∀(j:Nat)(e:j3×Int×Int),l1[j]?=O e->vt e.2/\e.2.2=j
 c2:c<=2
 n2:l2.map (·.1)=(ns.drop c).take 8
 p2:∀(j:Nat)(e:j3×List (Int×Int)),l2[j]?=O e->j<8/\e.2=[((j:Int),0),((j:Int)+3,0),((j:Int),2)]
 n3:l3.length=12
 p3:∀ e∈l3,vt e
 n4:l4.length=24
 p4:∀ D∈l4,noteF ns D
noncomputable def stepD(S:BS)(D:Deed):BS:=match judge S D with
 | none=>aft S D
 | some _=>S
noncomputable def stepAll(S:BS)(l:List Deed):BS:=l.foldl stepD S
section
variable{S:BS}{D:Deed}
structure NotesF(S S':BS)(l:List Deed):Prop where
 mk ::
 m:S'.marks=S.marks
 b:S'.banks=S.banks
 r:S'.runs=S.runs
 c:S'.coming=S.coming+l.length
 n:S'.notes.map (·.2)=S.notes.map (·.2)++l
 k:∀ k:Int,(k∈S.notes.map (·.1)\/(S.coming<=k/\k<S'.coming))->k∈S'.notes.map (·.1)
structure Brim(ns:List j3)(n19:j3)(c:Nat)(S:BS):Prop where
 mk ::
 neat:Neat S
 m:S.marks.map (·.1)=ns.take 20
 c2:c<=2
 b:S.banks.map (·.1)=(ns.drop c).take 8
 r:S.runs.length=12
 n:S.notes.length=24
 all:∀ k:Int,1<=k->k<25->k∈S.notes.map (·.1)
 co:S.coming=25
 un:∀ e∈S.notes,dB n19 e.2
end
end Sea

namespace Sea
def WE:Deed->j3
 | .mark _ _ _ => "mark"
 | .move _ _ _ => "move"
 | .unmark _ => "unmark"
 | .bank _ _ => "bank"
 | .level _ => "level"
 | .sail _ _ => "sail"
 | .right _ _ _ => "right"
 | .bearing _ _ _ _ _ _ => "bearing"
 | .range _ _ _ => "range"
 | .strike _ => "strike"
def Wf{H:Hp}{D:Deed}{v:V}(h:Rep H D.dt v):∃(t:c7)(c:List V),v=.ref t/\H t=O (.tup (.str (WE D)::c)):=by
 cases D <;>(obtain⟨t,c,rfl,d,r⟩:=xN.mp h; obtain⟨_,_,rfl,e,_⟩:=zJ.mp r; rw[yM.mp e] at d; rwa[_,_,rfl,d])
end Sea

namespace Sea
def LwO(H:Hp)(X:c7->Prop)(d:c7)(S:BS):Prop:=∃ m b r n,¬ X r/\LwA H d m b r n S
structure HL(H:Hp)(X:c7->Prop)(sl rl:c7)(Ss:List BS)(Ds:List Deed):Prop where
 mk ::
 n1:¬ X sl
 n2:¬ X rl
 s:∃ ss:List c7,H sl=O (.lst (ss.map V.ref))/\ss.length=Ss.length/\∀(i:Nat)(d:c7)(S:BS),ss[i]?=O d->Ss[i]?=O S->LwO H X d S
 r:∃ xs,H rl=O (.lst xs)/\xT H (Ds.map Deed.dt) xs
section
variable{φ X X':c7->Prop}{H H1:Hp}{C b p l l' sl rl tp:c7}{Ss:List BS}{Ds:List Deed}{j k:Nat}{S S':BS}{D:Deed}
def HL.sam(h:HL H X sl rl Ss Ds)(s:vW φ H H1)(nd:∀ a g,Rd H a (.dK g)->¬ φ a)(q:∀ a c,H a=O (.tup c)->¬ φ a)(f:∀ x c,H x=O (.lst c)->¬ X x->¬ φ x):HL H1 X sl rl Ss Ds:=by
 obtain⟨w,v,E,B⟩:=h.s;obtain⟨c,u,A⟩:=h.r;erw[h.n1,h.n2,⟨w,s.lst (f _ _ v h.n1) v,E,λi d S z y=>?_⟩,c,s.lst (f _ _ u h.n2) u,A.sam s q];obtain⟨m,b,r,n,o,k⟩:=B i d S z y;rwa[m,b,r,n,o,k.samE s nd q λc e=>f r c e o]
structure HB(C:c7)(H:Hp)(b p l:c7)(X:c7->Prop)(tp:c7)(Ss:List BS)(Ds:List Deed)(j k:Nat):Prop where
 mk ::
 bk:∃ S,Ss[j]?=O S/\BkL C H b p l S ((Ds.zip Ss).take j) ((Ds.zip Ss.tail).drop j).reverse
 lp:∃ sl rl,H tp=O (.tup [.ref sl,.ref rl,.int j])/\HL H X sl rl Ss Ds
 xp:X p
 xl:X l
 len:Ss.length=Ds.length+1
 le:j<=Ds.length
 lk:Ds.length<=k
 st:∀ S∈Ss,Neat S/\1<=S.coming/\S.coming<=1+k
 tm:∀ D∈Ds,tameD D
end
end Sea

-- LAW
namespace Sea
local macro_rules | `(tactic| ac_rfl) => `(tactic| exact ⟨rfl, rfl, rfl, by decide +kernel, rfl, by decide +kernel, by decide +kernel⟩)
structure Zs(mg:j3->Option c6):Prop where
 abs:mg "abs" = JN
 all:mg "all" = JN
 bool:mg "bool" = JN
 dict:mg "dict" = JN
 enumerate:mg "enumerate" = JN
 int:mg "int" = JN
 isinstance:mg "isinstance" = JN
 len:mg "len" = JN
 list:mg "list" = JN
 max:mg "max" = JN
 min:mg "min" = JN
 range:mg "range" = JN
 sorted:mg "sorted" = JN
 str:mg "str" = JN
 sum:mg "sum" = JN
 tuple:mg "tuple" = JN
 zip:mg "zip" = JN
def yL:zK ["numbers","shared","number","rest","smaller"] ["numbers"] (zH wL):=by ac_rfl
def nT:zK ["numbers","shared"] ["numbers"] (zH xw):=by ac_rfl
def jW:zK ["numbers"] ["numbers"] (zH qQ):=by ac_rfl
def ZL:zK ["x","y","w"] ["x","y","w"] (zH oy):=by ac_rfl
def ZE:zK ["one","other"] ["one","other"] (zH pO):=by ac_rfl
def dS:zK ["one","other"] ["one","other"] (zH vd):=by ac_rfl
def oX:zK ["side"] ["side"] (zH vF):=by ac_rfl
def gX:zK ["side","spot"] ["side","spot"] (zH yb):=by ac_rfl
def cz:zK ["side","spot"] ["side","spot"] (zH ve):=by ac_rfl
def vY:zK ["one","other","w","x","y"] ["one","other"] (zH sR):=by ac_rfl
def gU:zK ["side","x","y"] ["side","x","y"] (zH xi):=by ac_rfl
def uN:zK ["place","one","other","first","second"] ["place","one","other"] (zH wM):=by ac_rfl
def om:zK ["left","right"] ["left","right"] (zH vA):=by ac_rfl
def uj:zK ["sides","place","side"] ["sides","place"] (zH sA):=by ac_rfl
def bq:zK ["side"] ["side"] (zH ow):=by ac_rfl
def pC:zK [] [] (zH uS):=by ac_rfl
def qk:zK ["state","kind","key","value","fresh"] ["state","kind","key","value"] (zH qA):=by ac_rfl
def qt:zK ["state","kind","key","fresh"] ["state","kind","key"] (zH rV):=by ac_rfl
def gh:zK ["numbers","most"] ["numbers","most"] (zH xj):=by ac_rfl
def nI:zK ["name"] ["name"] (zH vB):=by ac_rfl
def nh:zK ["state","kind","name"] ["state","kind","name"] (zH vD):=by ac_rfl
def pf:zK ["place"] ["place"] (zH uP):=by ac_rfl
def mH:zK ["run"] ["run"] (zH tE):=by ac_rfl
def og:zK ["state","kind"] ["state","kind"] (zH vI):=by ac_rfl
def nE:zK ["state","name"] ["state","name"] (zH vL):=by ac_rfl
def qw:zK ["moment","runs"] ["moment","runs"] (zH uB):=by ac_rfl
def mJ:zK ["direction"] ["direction"] (zH vZ):=by ac_rfl
def pF:zK ["state","left","right"] ["state","left","right"] (zH uU):=by ac_rfl
def tQ:zK ["state","row","name","place"] ["state","row"] (zH vK):=by ac_rfl
def yn:zK ["state","row","run"] ["state","row"] (zH vE):=by ac_rfl
def yj:zK ["state","row","fresh"] ["state","row"] (zH vM):=by ac_rfl
def vo:zK ["state","row"] ["state","row"] (zH wE):=by ac_rfl
def pG:zK ["state","row"] ["state","row"] (zH uM):=by ac_rfl
def rC:zK ["state","row","number"] ["state","row"] (zH wW):=by ac_rfl
def cQ:zK ["state","row"] ["state","row"] (zH vy):=by ac_rfl
def jG:zK ["groups","place"] ["groups","place"] (zH qE):=by ac_rfl
def yK:zK ["groups","sides","group","places","number","other","place"] ["groups"] (zH wH):=by ac_rfl
def yW:zK ["groups","shown","place","least","told","choice"] ["groups"] (zH wZ):=by ac_rfl
def iF:zK ["groups"] ["groups"] (zH qG):=by ac_rfl
def wY:zK ["book","one","other","runs","between","hand"] ["book","one","other"] (zH uO):=by ac_rfl
def vV:zK ["book","places","mark"] ["book"] (zH uT):=by ac_rfl
def kC:zK ["note","places"] ["note","places"] (zH sS):=by ac_rfl
def xC:zK ["book","moment","places","groups","pair","note","way"] ["book","moment"] (zH uK):=by ac_rfl
def sk:zK ["book"] ["book"] (zH wT):=by ac_rfl
def rF:zK ["book","numbers"] ["book"] (zH wV):=by ac_rfl
def cT:zK ["_law_number"] ["_law_number"] (zH va):=by ac_rfl
def wG:zK ["_law_script","_law_many","_law_rows","_law_mix","_law_cell","_law_rest"] ["_law_script","_law_many"] (zH wc):=by ac_rfl
def Xa:zK [] [] (zH jz):=by ac_rfl
def mm:zK ["_law_m","_law_one","_law_other","_law_steps","_law_sign"] ["_law_m","_law_one","_law_other"] (zH pQ):=by ac_rfl
def oz:zK ["_law_one","_law_two","_law_wide","_law_x","_law_y"] ["_law_one","_law_two","_law_wide"] (zH kL):=by ac_rfl
def fJ:zK ["_law_one","_law_other"] ["_law_one","_law_other"] (zH xz):=by ac_rfl
def xR:zK ["_law_d","_law_wide","_law_one","_law_other"] ["_law_d","_law_wide"] (zH tF):=by ac_rfl
def yF:zK ["_law_d","_law_m","_law_moment","_law_mark","_law_x","_law_y","_law_dx","_law_dy","_law_p","_law_q","_law_by","_law_one","_law_other"] ["_law_d","_law_m","_law_moment","_law_mark","_law_x","_law_y"] (zH uA):=by ac_rfl
def zY:zK ["_law_some","_law_names_here","_law_x","_law_y","_law_m","_law_deeds","_law_k","_law_known","_law_d","_law_moment","_law_one","_law_other","_law_deed"] ["_law_some","_law_names_here"] (zH vJ):=by ac_rfl
def xB:zK ["_law_some","_law_many","_law_letters","_law_rows","_law_at","_law_raw","_law_size","_law_step","_law_word","_law_place","_law_k","_law_sign"] ["_law_some","_law_many"] (zH ur):=by ac_rfl
def lK:zK ["_law_m","_law_deed","_law_later"] ["_law_m","_law_deed"] (zH vb):=by ac_rfl
def qJ:zK ["_law_some","_law_book","_law_m","_law_deed"] ["_law_some","_law_book"] (zH xu):=by ac_rfl
def pX:zK ["_law_one","_law_other"] ["_law_one","_law_other"] (zH kH):=by ac_rfl
def yp:zK ["_law_x","_law_y","_law_w","_law_by"] ["_law_x","_law_y","_law_w"] (zH qM):=by ac_rfl
def ZJ:zK ["_law_sides"] ["_law_sides"] (zH pV):=by ac_rfl
def iS:zK ["_law_one","_law_other","_law_by"] ["_law_one","_law_other"] (zH pZ):=by ac_rfl
def ou:zK ["_law_sides","_law_place","_law_x","_law_y","_law_w"] ["_law_sides","_law_place"] (zH kB):=by ac_rfl
def gf:zK ["_law_groups","_law_place"] ["_law_groups","_law_place"] (zH xx):=by ac_rfl
def zV:zK ["_law_groups","_law_sides","_law_group","_law_places","_law_at","_law_one","_law_other","_law_rows","_law_size","_law_found","_law_row"] ["_law_groups"] (zH wU):=by ac_rfl
def oG:zK ["_law_side","_law_by"] ["_law_side"] (zH ya):=by ac_rfl
def yS:zK ["_law_m","_law_note","_law_x","_law_y","_law_p","_law_q","_law_a","_law_b","_law_c","_law_d"] ["_law_m","_law_note"] (zH rW):=by ac_rfl
def wJ:zK ["_law_m","_law_moment","_law_found","_law_number","_law_note","_law_x","_law_y"] ["_law_m","_law_moment"] (zH sO):=by ac_rfl
def Zr:zK ["_law_told","_law_due"] ["_law_told","_law_due"] (zH vc):=by ac_rfl
def qU:zK ["_law_script","_law_some","_law_book","_law_m","_law_number","_law_numbers","_law_due","_law_again","_law_found","_law_row"] ["_law_script"] (zH fD):=by ac_rfl
def af:zK ["self"] ["self"] (zH ox):=by ac_rfl
def fB:zK ["self","number"] ["self","number"] (zH xt):=by ac_rfl
def nR:zK ["self","row","number","fresh"] ["self","row"] (zH pP):=by ac_rfl
def lP:zK ["self","places"] ["self"] (zH wb):=by ac_rfl
def ii:zK ["self","runs"] ["self"] (zH pW):=by ac_rfl
def cP:zK ["self"] ["self"] (zH vv):=by ac_rfl
def fj:zK ["self"] ["self"] (zH yc):=by ac_rfl
def qI:c7:=296
def bkC:c7:=730
def TZ:c7:=335
def Tf:List (Key×V):=[(.inr "marks",.int 20),(.inr "banks",.int 8),(.inr "runs",.int 12),(.inr "notes",.int 24)]
def Wv:c7:=500
def XN:List (Key×V):=[(.inr "mark",.ref 429),(.inr "move",.ref 436),(.inr "unmark",.ref 443),(.inr "bank",.ref 450),(.inr "level",.ref 457),(.inr "sail",.ref 464),(.inr "right",.ref 471),(.inr "bearing",.ref 485),(.inr "range",.ref 492),(.inr "strike",.ref 499)]
def fA:c7:=577
def mv:c7:=647
def ka:c7:=654
def jv:c7:=701
def kT:c7:=713
def pL:c7:=720
def mh:c7:=727
structure Cb(P:m9)(w:r9)(mg:j3->Option c6)(base:w9):Prop where
 state:InB base λK=>Cls K bkC/\wx K bkC "state"
 past:InB base λK=>Cls K bkC/\wx K bkC "past"
 later:InB base λK=>Cls K bkC/\wx K bkC "later"
 m_strike:InB base λK=>Cls K bkC/\YW K bkC "strike" mv
 m_deed:InB base λK=>Cls K bkC/\YW K bkC "deed" ka
 m_marks:InB base λK=>Cls K bkC/\YW K bkC "marks" jv
 m_runs:InB base λK=>Cls K bkC/\YW K bkC "runs" kT
 m_notes:InB base λK=>Cls K bkC/\YW K bkC "notes" pL
 m_coming:InB base λK=>Cls K bkC/\YW K bkC "coming" mh
 make:InB base λK=>Mk K bkC fA
 gBook:mg "Book" = O (.ref bkC)
 dMOST:Ut P w base TZ Tf
 gMOST:mg "MOST" = O (.ref TZ)
 dAFTER:Ut P w base Wv XN
 gAFTER:mg "AFTER" = O (.ref Wv)
 LONGEST_NAME:∃ k,mg "LONGEST_NAME" = O (.int 8 k)
 FARTHEST:∃ k,mg "FARTHEST" = O (.int 1000 k)
 LONGEST_WAY:∃ k,mg "LONGEST_WAY" = O (.int 100 k)
 t_mark:mg "after_mark" = O (.ref 429)
 t_sail:mg "after_sail" = O (.ref 464)
 t_bearing:mg "after_bearing" = O (.ref 485)
 t_range:mg "after_range" = O (.ref 492)
 t_strike:mg "after_strike" = O (.ref 499)
 e_NoMoment:JE "NoMoment" qI bmV "ValueError.__new__" mg base
set_option hygiene false in
local macro_rules | `(tactic| fail) => `(tactic| first | (with_reducible first | exact wP | exact zM) | ((with_reducible apply Tv); exact rfl; fail; fail) | (with_reducible first | exact zS | exact gG | exact eZ) | ((with_reducible apply Uk); first | ((with_reducible apply Uo "bool"); exact rq (v := .ty "bool") rfl Z.bool ZK rfl) | ((with_reducible apply Uo "dict"); exact rq (v := .ty "dict") rfl Z.dict wk rfl) | ((with_reducible apply Uo "int"); exact rq (v := .ty "int") rfl Z.int XZ rfl) | ((with_reducible apply Uo "list"); exact rq (v := .ty "list") rfl Z.list rZ rfl) | ((with_reducible apply Uo "str"); exact rq (v := .ty "str") rfl Z.str Wl rfl) | ((with_reducible apply Uo "tuple"); exact rq (v := .ty "tuple") rfl Z.tuple lR rfl) | exact pv 0 | exact pv 1 | exact pv 2 | exact pv 3 | exact pv 4 | exact pv 5 | exact pv 6 | exact pv 7 | exact pv 8 | exact pv 9 | exact pv 10 | exact pv 11 | exact pv 12) | ((with_reducible apply m_sub); first | ((with_reducible apply tG Zq); fail; fail; fail) | ((with_reducible apply m_ix); exact λ_ _ => rfl; fail; fail)) | ((with_reducible apply m_bin); (with_reducible first | apply qC eS | apply qC Th | apply qC jZ | apply qC Xx | apply qC XT | apply qC Uj); fail; fail) | ((with_reducible apply UB); first | ((with_reducible apply m_own); (with_reducible assumption); exact ⟨rfl, rfl, rfl, rfl, rfl⟩; exact hr.mono (by decide); exact rfl; decide; exact rfl; exact rfl; fail) | ((first | ((with_reducible apply ip YZ Ts); exact Z.abs) | ((with_reducible apply ip (zg rfl) iL); exact Z.all) | ((with_reducible apply ip gP lT); exact Z.isinstance) | ((with_reducible apply ip yq qf); exact Z.len) | ((with_reducible apply ip (ZG rfl) Ua); exact Z.max) | ((with_reducible apply ip (Zz rfl) aV); exact Z.min) | ((with_reducible apply ip call_sortedT uI); exact Z.sorted) | ((with_reducible apply ip (yt rfl) ie); exact Z.sum) | ((with_reducible apply Uq call_bool1 ZK); exact Z.bool) | ((with_reducible apply Uq rE wk); exact Z.dict) | ((with_reducible apply Uq aH XZ); exact Z.int) | ((with_reducible apply Uq qi rZ); exact Z.list) | ((with_reducible apply Uq call_str_any Wl); exact Z.str) | ((with_reducible apply Uq uq lR); exact Z.tuple)); exact rfl; decide; decide; exact rfl; exact rfl; fail)) | ((with_reducible first | apply jY | apply bW | apply pe_un Tq | apply pe_not); fail) | ((with_reducible apply m_cmp); (with_reducible first | apply yg WM | apply yg Su | apply yg WQ | apply yg XB | apply yg ZR | apply yg Vp | apply yg op_isN | apply yg bF); fail; fail; exact wu _) | ((with_reducible apply UE); (with_reducible first | apply xQ WM | apply xQ Su | apply xQ WQ | apply xQ XB | apply xQ ZR | apply xQ Vp | apply xQ op_isN | apply xQ bF); fail; fail; exact wu _) | ((with_reducible first | apply Vc | apply aY | apply jT); fail) | ((with_reducible first | apply XM | apply cU); fail; fail) | ((with_reducible first | apply hV | apply Ww); fail) | ((with_reducible first | apply XE | apply pe_or); fail; fail) | ((with_reducible apply fL); fail; fail; fail) | with_reducible exact zn | ((with_reducible apply sX); fail) | ((with_reducible apply m_val); exact λ_ => rfl; fail))
set_option hygiene false in
local macro_rules | `(tactic| specialize $e) => `(tactic| refine F.ok $e (λvs H Q E h => ?_) (λcdv A outer s H vs Q E hr h => ?_))
local macro_rules | `(tactic| nofun) => `(tactic| ((any_goals fail); try dsimp only [L2.cxOf]))
section
variable{P:m9}{w:r9}{mg:j3->Option c6}{base:w9}{f:c7}{fd:AJ}
def sP(K:c5):Sp:=λc H Q _=>E2 λ(a:c7) (ns:List Int)=>A3 (c=[.ref a]) (Sq K H a (ns.map V.int)) (Q (.int (yV ns)) H)
def um(F:Fun K "common_factor" "common_factor" wL f fd)(Z:Zs mg):yQ P w K mg base CX0 1 f fd ["numbers"] (sP K):=by
 specialize yL
 ·obtain⟨a,ns,rfl,_⟩:=h;rfl
 obtain⟨a,ns,rfl,o,q⟩:=h
 refine'⟨_,(zC (zU 1 yL.nd wP)
   (zC (xX t9 rfl (yT (pv 0)) (xO 2 yL.nd) (zC (zU 3 yL.nd ?_)
   (zF (pN t9 ?_ (zC (zU 4 yL.nd ?_)
   (zC (zU 1 yL.nd (pv 3))
   (zF (zU 3 yL.nd (pv 4)))))))))
   (zF (zO (pv 1))))),?_⟩
 nofun
 have mono:∀(c:St)(H:Hp)(Q B:Bool->Hp->Prop),(∀ b l,Q b l->B b l)->Yx (tOp rNe (Us 3) (tC (.int 0))) c H Q->Yx (tOp rNe (Us 3) (tC (.int 0))) c H B:=λc H Q B G z=>by
  obtain⟨v,C,D,k,I,z⟩:=z;rwa[v,C,D,k,I,G _ _ z]
 rcases o with o | o
 ·erw[_,rfl,a,rfl,.inl ⟨⟨_,o⟩,xK (K:=K) (a:=a) (xs:=ns.map V.int) (λi c j=>j=H/\E3 λ(u v z:Option V)=>c=[O (.ref a),O (.int (yV (ns.take i))),u,v,z]) ⟨rfl,JN,JN,JN,rfl⟩ (λi c j _ m=>by obtain⟨e,_⟩:=m; rw[e]; rwa[o]) ?_ ?_⟩]
  ·rintro i x c j hi ⟨rfl,u,v,z,rfl⟩;obtain⟨n,p,rfl⟩:=xS hi;exists _,U,n,rfl;refine uk (λc l=>l=j/\E3 λ(g r:Int) (y:Option V)=>A4 (c=[O (.ref a),O (.int g),O (.int n),O (.int r),y]) (0<=g) (0<=r) (Ad g.toNat r.toNat=yV (ns.take (i+1))))
    (λc _=>match c with | [_,_,_,O (.int r),_]=>r.toNat | _=>0) ⟨rfl,_,_,_,rfl,Cf _,by split <;> lia,?_⟩ ?_ mono
   ·rw[yZ p,iZ,dG]; rfl
   ·rintro c l ⟨rfl,g,r,y,rfl,h1,h2,h3⟩;exists _,U,U,_,rfl;erw[Si (λd=>?_) (λd=>?_)]
    ·refine⟨_,U,_,U,_,_,U,U,(by show(0:Int)<r; lia),_,rfl,_,rfl,⟨rfl,_,_,_,rfl,h2,Al g d,?_⟩,?_⟩
     ·rw[kY h1 (by lia)]; rwa[h3]
     ·have h4:=x8 g (show 0<r by lia);show(g%r).toNat<r.toNat;lia
    ·subst d;have h5:g=((yV (ns.take (i+1)):Nat):Int):=by
      rw[<- h3];show g=((Ad g.toNat 0:Nat):Int);rw[Fc];lia
     rwa[rfl,O (.int n),O (.int 0),y,by rw[h5]]
  ·rintro c j ⟨rfl,u,v,z,rfl⟩;exists _,rfl;rw[b7,j9];rwa[q]
 ·erw[_,rfl,a,rfl,.inr ⟨⟨_,o⟩,Vt (K:=K) (a:=a) (xs:=ns.map V.int) (λi c j=>j=H/\E3 λ(u v z:Option V)=>c=[O (.ref a),O (.int (yV (ns.take i))),u,v,z]) ⟨rfl,JN,JN,JN,rfl⟩ (λi c j _ m=>by obtain⟨e,_⟩:=m; rw[e]; rwa[o]) ?_ ?_⟩]
  ·rintro i x c j hi ⟨rfl,u,v,z,rfl⟩;obtain⟨n,p,rfl⟩:=xS hi;exists _,U,n,rfl;refine uk (λc l=>l=j/\E3 λ(g r:Int) (y:Option V)=>A4 (c=[O (.ref a),O (.int g),O (.int n),O (.int r),y]) (0<=g) (0<=r) (Ad g.toNat r.toNat=yV (ns.take (i+1))))
    (λc _=>match c with | [_,_,_,O (.int r),_]=>r.toNat | _=>0) ⟨rfl,_,_,_,rfl,Cf _,by split <;> lia,?_⟩ ?_ mono
   ·rw[yZ p,iZ,dG]; rfl
   ·rintro c l ⟨rfl,g,r,y,rfl,h1,h2,h3⟩;exists _,U,U,_,rfl;erw[Si (λd=>?_) (λd=>?_)]
    ·refine⟨_,U,_,U,_,_,U,U,(by show(0:Int)<r; lia),_,rfl,_,rfl,⟨rfl,_,_,_,rfl,h2,Al g d,?_⟩,?_⟩
     ·rw[kY h1 (by lia)]; rwa[h3]
     ·have h4:=x8 g (show 0<r by lia);show(g%r).toNat<r.toNat;lia
    ·subst d;have h5:g=((yV (ns.take (i+1)):Nat):Int):=by
      rw[<- h3];show g=((Ad g.toNat 0:Nat):Int);rw[Fc];lia
     rwa[rfl,O (.int n),O (.int 0),y,by rw[h5]]
  ·rintro c j ⟨rfl,u,v,z,rfl⟩;exists _,rfl;rw[b7,j9];rwa[q]
def tW(K:c5):Sp:=λd H Q _=>E2 λ(a:c7) (ns:List Int)=>A6 (d=[.ref a]) (Sq K H a (ns.map V.int)) (ns.length<=1000) (0<yV ns) ((yV ns:Int)<10^600) (∀(p:c7)(c:Hp),Same H c->H p=JN->c p=O (.tup ((zw ns).map V.int))->Q (.ref p) c)
def gQ(F:Fun K "lowest" "lowest" xw f fd)(Z:Zs mg)(I:Cb P w mg base)(C:Has P w K mg base "common_factor" 1 ["numbers"] (sP K)):yQ P w K mg base CX0 2 f fd ["numbers"] (tW K):=by
 specialize nT
 ·obtain⟨a,ns,rfl,_⟩:=h;rfl
 obtain⟨a,ns,rfl,m,z,G,r,q⟩:=h
 refine'⟨_,(zC (zU 1 nT.nd ?_)
   (zF (zO (xF uq rfl Z.tuple lR (zI (yO (T:=["number"]) (caps:=[("shared",1)]) ⟨rfl,by ac_nf,by ac_nf,rfl,⟨⟨rfl,rfl,BM rfl⟩,t5⟩⟩ rfl (yT (pv 0)) (λ_=>(xO 0 (show(["number","shared"]:List j3).Nodup by ac_nf))) (λ_=>yH) (λ_=>?_)) zM))))),?_⟩
 nofun
 exists _,U,a,ns,U,m;have v:∀(D:c7)(d:Hp),H D=JN->Same H d->d D=O (.lst ((zw ns).map V.int))->∀ l,d l=JN->Q (.ref l) (upd d l (.tup ((zw ns).map V.int))):=λD d o B e l z =>
  q l _ (B.trans (zB z _)) (B.free z) zA
 have len:∀ i,((ns.take i).map λn=>V.int (n/(yV ns:Int))).length<sizeLine:=λi=>zL (by rw[b7,i7]; lia);rcases m with m | m
 ·refine⟨_,U,a,U,.inl ⟨⟨_,m⟩,λc D o=>yI (K:=K) (a:=a) (xs:=ns.map V.int) (λi j g d=>A3 (d=upd H D (.lst g)) (g=(ns.take i).map (λn=>V.int (n/(yV ns:Int)))) (∃ u,j=[u,O (.int (yV ns))]))
   ⟨rfl,rfl,JN,rfl⟩ (λi j g d _ p=>by obtain⟨e,_⟩:=p; rw[e]; rwa[(zB o _).seq m,zA]) ?_ ?_⟩⟩
  ·rintro i x j g d hi ⟨rfl,rfl,u,rfl⟩;obtain⟨n,y,rfl⟩:=xS hi;exists _,U,_,U,_,_,U,U,yy.of (by lia) r,zA,len i;erw[rA,?_,_,rfl];rw[yZ y,e7];rfl
  ·rintro j g d ⟨rfl,rfl,u,rfl⟩;rw[b7,j9];have e:(ns.map λn=>V.int (n/(yV ns:Int)))=(zw ns).map V.int:=by unfold zw; rw[Ab]; rfl
   rw[e];rwa[D,_,rfl,.inl ⟨SqL.of zA,v D _ o (zB o _) zA⟩]
 ·refine⟨_,U,a,U,.inr ⟨⟨_,m⟩,λc D o=>nJ (K:=K) (a:=a) (xs:=ns.map V.int) (λi j g d=>A3 (d=upd H D (.lst g)) (g=(ns.take i).map (λn=>V.int (n/(yV ns:Int)))) (∃ u,j=[u,O (.int (yV ns))]))
   ⟨rfl,rfl,JN,rfl⟩ (λi j g d _ p=>by obtain⟨e,_⟩:=p; rw[e]; rwa[SqT.same m (zB o _),zA]) ?_ ?_⟩⟩
  ·rintro i x j g d hi ⟨rfl,rfl,u,rfl⟩;obtain⟨n,y,rfl⟩:=xS hi;exists _,U,_,U,_,_,U,U,yy.of (by lia) r,zA,len i;erw[rA,?_,_,rfl];rw[yZ y,e7];rfl
  ·rintro j g d ⟨rfl,rfl,u,rfl⟩;rw[b7,j9];have e:(ns.map λn=>V.int (n/(yV ns:Int)))=(zw ns).map V.int:=by unfold zw; rw[Ab]; rfl
   rw[e];rwa[D,_,rfl,.inl ⟨SqL.of zA,v D _ o (zB o _) zA⟩]
def zm(K:c5):Sp:=λd H Q _=>E3 λ(a:c7) (ns:List Int) (l:Int)=>A8 (d=[.ref a]) (Sq K H a (ns.map V.int)) (ns.length<=1000) (atI (ns.map V.int) (-1)=O (.int l)) (l∈ns) (l≠0) (l.natAbs<10^500) (∀(p:c7)(c:Hp),Same H c->H p=JN->c p=O (.tup ((zw (if l<0 then ns.map (λn=>-n) else ns)).map V.int))->Q (.ref p) c)
def iV(F:Fun K "upright" "upright" qQ f fd)(Z:Zs mg)(CB:Cb P w mg base)(z:Has P w K mg base "lowest" 2 ["numbers"] (tW K)):yQ P w K mg base CX0 3 f fd ["numbers"] (zm K):=by
 specialize jW
 ·obtain⟨a,ns,l,rfl,_⟩:=h;rfl
 obtain⟨a,ns,l,rfl,o,R,I,N,h0,Y,q⟩:=h
 refine'⟨_,(zC (xI ?_ (zF (zO (wD z (hr.mono (by decide)) rfl (zI (yO (T:=["number"]) (caps:=[]) ⟨rfl,by ac_nf,by ac_nf,rfl,t5⟩ rfl (yT (pv 0)) (λ_=>(xO 0 (show(["number"]:List j3).Nodup by ac_nf))) (λ_=>yH) (λ_=>?_)) zM)))) yE)
   (zF (zO ?_))),?_⟩
 nofun
 exists _,U,_,U,a,_,_,_,U,U,o,I,_,_,U,U,_,rfl;have S:0<yV ns:=uV N h0;have X:(yV ns:Int)<10^600:=by
  have h1:=wf N h0;have h2:(10:Nat)^500<10^600:=by ac_nf
  have h3:((10:Int)^600)=((10^600:Nat):Int):=by rw[Int.natCast_pow]; rfl
  rw[h3];lia
 erw[ifD (λj=>?_) (λj=>?_)]
 ·have len:∀ i,((ns.take i).map λn=>V.int (-n)).length<sizeLine:=λi=>zL (by rw[b7,i7]; lia);have y:∀(D:c7)(d:Hp),H D=JN->Same H d->d D=O (.lst ((ns.map λn=>-n).map V.int))->tW K [.ref D] d Q E0:=λD d r M e=>by
   erw[D,ns.map λn=>-n,rfl,.inl (SqL.of e),by rw[b7]; exact R,by rw[eO]; exact S,by rw[eO]; exact X,λp L B C J=>?_];rwa[q p L (M.trans B) (M.free C) (by rw[y6 j]; exact J)]
  rcases o with o | o
  ·refine⟨_,U,a,U,.inl ⟨⟨_,o⟩,λc D r=>yI (K:=K) (a:=a) (xs:=ns.map V.int) (λi m g d=>A3 (d=upd H D (.lst g)) (g=(ns.take i).map (λn=>V.int (-n))) (∃ u,m=[u]))
    ⟨rfl,rfl,JN,rfl⟩ (λi m g d _ v=>by obtain⟨e,_⟩:=v; rw[e]; rwa[(zB r _).seq o,zA]) ?_ ?_⟩⟩
   ·rintro i x m g d hi ⟨rfl,rfl,u,rfl⟩;obtain⟨n,G,rfl⟩:=xS hi;exists _,U,_,U,zA,len i;erw[rA,?_,_,rfl];rw[yZ G,e7];rfl
   ·rintro m g d ⟨rfl,rfl,u,rfl⟩;rw[b7,j9];have e:(ns.map λn=>V.int (-n))=(ns.map λn=>-n).map V.int:=by rw[Ab]; rfl
    rw[e];rwa[y D _ r (zB r _) zA]
  ·refine⟨_,U,a,U,.inr ⟨⟨_,o⟩,λc D r=>nJ (K:=K) (a:=a) (xs:=ns.map V.int) (λi m g d=>A3 (d=upd H D (.lst g)) (g=(ns.take i).map (λn=>V.int (-n))) (∃ u,m=[u]))
    ⟨rfl,rfl,JN,rfl⟩ (λi m g d _ v=>by obtain⟨e,_⟩:=v; rw[e]; rwa[SqT.same o (zB r _),zA]) ?_ ?_⟩⟩
   ·rintro i x m g d hi ⟨rfl,rfl,u,rfl⟩;obtain⟨n,G,rfl⟩:=xS hi;exists _,U,_,U,zA,len i;erw[rA,?_,_,rfl];rw[yZ G,e7];rfl
   ·rintro m g d ⟨rfl,rfl,u,rfl⟩;rw[b7,j9];have e:(ns.map λn=>V.int (-n))=(ns.map λn=>-n).map V.int:=by rw[Ab]; rfl
    rw[e];rwa[y D _ r (zB r _) zA]
 ·erw[_,rfl,a,ns,rfl,o,R,S,X,λp L B C J=>?_];rwa[q p L B C (by rw[y4 j]; exact J)]
def nS(K:c5):Sp:=λd H Q _=>E3 λ(X Y W:Int)=>A4 (d=[.int X,.int Y,.int W]) (W≠0) (W.natAbs<10^500) (∀(p:c7)(c:Hp),Same H c->H p=JN->c p=O (.tup ((zw (upL X Y W)).map V.int))->Q (.ref p) c)
def bV(F:Fun K "spot" "spot" oy f fd)(Z:Zs mg)(n:Cb P w mg base)(g:Has P w K mg base "upright" 3 ["numbers"] (zm K)):yQ P w K mg base CX0 4 f fd ["x","y","w"] (nS K):=by
 specialize ZL
 ·obtain⟨X,Y,W,rfl,_⟩:=h;rfl
 obtain⟨X,Y,W,rfl,j,c,q⟩:=h
 refine'⟨_,(zF (zO ?_)),?_⟩
 nofun
 refine⟨_,U,_,U,_,U,sz3,λp e=>⟨p,[X,Y,W],W,U,.inr (SqT.of zA),by show 3<=1000; decide,rfl,by simp,j,c,λr m i d l=>?_⟩⟩;rwa[q r m ((zB e _).trans i) ((zB e _).free d) l]
def Ty(K:c5):Sp:=λj H Q _=>E8 λ(a b:c7) (g e:List V) (d c i h:Int)=>A10 (j=[.ref a,.ref b]) (Sq K H a g) (Sq K H b e) (atI g 0=O (.int d)) (atI g 1=O (.int c)) (atI e 0=O (.int i)) (atI e 1=O (.int h)) (d.natAbs<=10^18) (c.natAbs<=10^18) (Q (.int (d*h-c*i)) H)
def ym(K:c5):Sp:=Ty K
def ZH(F:Fun K "turn" "turn" pO f fd)(Z:Zs mg)(v:Cb P w mg base)  : yQ P w K mg base CX0 1 f fd ["one","other"] (ym K):=by
 specialize ZE
 ·obtain⟨a,b,n,l,g,d,e,c,rfl,_⟩:=h;rfl
 obtain⟨a,b,n,l,g,d,e,c,rfl,j,i,p,o,m,w1,u,r,q⟩:=h
 refine'⟨_,(zF (zO ?_)),?_⟩
 nofun
 exact⟨_,U,a,_,_,.int g,U,U,j,p,_,U,b,_,_,.int c,U,U,i,w1,_,_,U,U,vC (by lia),
  _,rfl,a,_,_,.int d,rfl,rfl,j,o,_,rfl,b,_,_,.int e,rfl,rfl,i,m,_,_,rfl,rfl,vC (by lia),_,_,rfl,rfl,q⟩
def lB(K:c5):Sp:=λj H Q _=>E8 λ(a b:c7) (g e:List V) (d c i h:Int)=>A10 (j=[.ref a,.ref b]) (Sq K H a g) (Sq K H b e) (atI g 0=O (.int d)) (atI g 1=O (.int c)) (atI e 0=O (.int i)) (atI e 1=O (.int h)) (d.natAbs<=10^18) (c.natAbs<=10^18) (Q (.int (d*i+c*h)) H)
def ck(F:Fun K "along" "along" vd f fd)(Z:Zs mg)(v:Cb P w mg base)  : yQ P w K mg base CX0 1 f fd ["one","other"] (lB K):=by
 specialize dS
 ·obtain⟨a,b,n,l,g,d,e,c,rfl,_⟩:=h;rfl
 obtain⟨a,b,n,l,g,d,e,c,rfl,j,i,p,o,m,w1,u,r,q⟩:=h
 refine'⟨_,(zF (zO ?_)),?_⟩
 nofun
 exact⟨_,U,a,_,_,.int g,U,U,j,p,_,U,b,_,_,.int e,U,U,i,m,_,_,U,U,vC (by lia),
  _,rfl,a,_,_,.int d,rfl,rfl,j,o,_,rfl,b,_,_,.int c,rfl,rfl,i,w1,_,_,rfl,rfl,vC (by lia),_,_,rfl,rfl,q⟩
def tU(K:c5):Sp:=tW K
def nZ(F:Fun K "plain_side" "plain_side" vF f fd)(Z:Zs mg)(d:Cb P w mg base)(c:Has P w K mg base "lowest" 2 ["numbers"] (tW K)):yQ P w K mg base CX0 3 f fd ["side"] (tU K):=by
 specialize oX
 ·obtain⟨a,ns,rfl,_⟩:=h;rfl
 obtain⟨a,ns,rfl,h1,h2,h3,h4,h5⟩:=h;rwa[_,(zF (zO (wD c (hr.mono (by decide)) rfl (zI (pv 0) zM)))),⟨_,rfl,a,ns,rfl,h1,h2,h3,h4,h5⟩]
def Wn(K:c5)(R:Int->Int->Int->Int->Int->Int->Hp->VK->Prop):Sp:=λc H Q _=>E8 λ(a b:c7) (A B C x y z:Int)=>A7 (c=[.ref a,.ref b]) (Sq K H a [.int A,.int B,.int C]) (Sq K H b [.int x,.int y,.int z]) (A.natAbs<=10^18) (B.natAbs<=10^18) (C.natAbs<=10^18) (R A B C x y z H Q)
def oZ(K:c5):Sp:=Wn K λA B C x y z H Q=>Q (.int (A*x+B*y-C*z)) H
def fI(F:Fun K "beyond" "beyond" yb f fd)(Z:Zs mg)(l:Cb P w mg base)  : yQ P w K mg base CX0 1 f fd ["side","spot"] (oZ K):=by
 specialize gX
 ·obtain⟨a,b,A,B,C,x,y,z,rfl,_⟩:=h;rfl
 obtain⟨a,b,e,B,C,x,y,z,rfl,d,c,j,i,g,q⟩:=h
 refine'⟨_,(zF (zO ?_)),?_⟩
 nofun
 rwa[_,rfl,a,_,_,.int e,rfl,rfl,d,rfl,_,rfl,b,_,_,.int x,rfl,rfl,c,rfl,_,_,rfl,rfl,vC (by lia),_,rfl,a,_,_,.int B,rfl,rfl,d,rfl,_,rfl,b,_,_,.int y,rfl,rfl,c,rfl,_,_,rfl,rfl,vC (by lia),_,_,rfl,rfl,_,rfl,a,_,_,.int C,rfl,rfl,d,rfl,_,rfl,b,_,_,.int z,rfl,rfl,c,rfl,_,_,rfl,rfl,vC (by lia),_,_,rfl,rfl,q]
def lO(K:c5):Sp:=Wn K λA B C x y z H Q=>Q (.bl (decide (A*x+B*y-C*z<=0))) H
def cO(F:Fun K "holds" "holds" ve f fd)(Z:Zs mg)(m:Cb P w mg base)(c:Has P w K mg base "beyond" 1 ["side","spot"] (oZ K)):yQ P w K mg base CX0 2 f fd ["side","spot"] (lO K):=by
 specialize cz
 ·obtain⟨a,b,A,B,C,x,y,z,rfl,_⟩:=h;rfl
 obtain⟨a,b,l,B,C,x,y,z,rfl,j,i,g,e,d,q⟩:=h
 refine'⟨_,(zF (zO ?_)),?_⟩
 nofun
 rwa[_,rfl,_,rfl,a,b,l,B,C,x,y,z,rfl,j,i,g,e,d,_,_,rfl,rfl,q]
def uv(K:c5):Sp:=λl H Q _=>E8 λ(a b:c7) (g d h e c j:Int)=>A10 (l=[.ref a,.ref b]) (Sq K H a [.int g,.int d,.int h]) (Sq K H b [.int e,.int c,.int j]) (g.natAbs<=10^18) (d.natAbs<=10^18) (h.natAbs<=10^18) (e.natAbs<=10^18) (c.natAbs<=10^18) (g*c-d*e=0->Q .non H) (g*c-d*e≠0->∀(p:c7)(i:Hp),Same H i->H p=JN->i p=O (.tup ((zw (upL (h*c-d*j) (g*j-h*e) (g*c-d*e))).map V.int))->Q (.ref p) i)
def jw(F:Fun K "crossing" "crossing" sR f fd)(Z:Zs mg)(T:Cb P w mg base)(z:Has P w K mg base "upright" 3 ["numbers"] (zm K))(y:Has P w K mg base "turn" 1 ["one","other"] (ym K)):yQ P w K mg base CX0 4 f fd ["one","other"] (uv K):=by
 specialize vY
 ·obtain⟨a,b,g,d,m,e,c,l,rfl,_⟩:=h;rfl
 obtain⟨a,b,g,d,m,e,c,l,rfl,j,i,v,u,S,G,D,C,q⟩:=h
 refine'⟨_,(zC (zU 2 vY.nd ?_)
   (zC (xI ?_ (zF (zO eZ)) yE)
   (zC (zU 3 vY.nd ?_)
   (zC (zU 4 vY.nd ?_)
   (zF (zO ?_)))))),?_⟩
 nofun
 exists _,U,_,U,a,b,_,_,g,d,e,c,U,j,i,U,U,U,U,v,u;exists _,U,U,_,rfl;erw[ifE (λn=>C n) (λn=>?_)];have N:=yJ g c v D;have M:=yJ d e u G;have R:(10:Nat)^18*10^18=10^36:=by decide
 have L:(10:Nat)^36+10^36<=10^40:=by decide
 exists _,U,a,_,_,.int m,U,U,j,U,_,U,b,_,_,.int c,U,U,i,U,_,_,U,U,vC (by lia),_,U,a,_,_,.int d,U,U,j,U,_,U,b,_,_,.int l,U,U,i,U,_,_,U,U,vC (by lia),_,_,U,rfl;exists _,U,a,_,_,.int g,U,U,j,U,_,U,b,_,_,.int l,U,U,i,U,_,_,U,U,vC (by lia),_,U,a,_,_,.int m,U,U,j,U,_,U,b,_,_,.int e,U,U,i,U,_,_,U,U,vC (by lia),_,_,U,rfl;refine⟨_,U,_,U,_,U,sz3,λp x=>⟨p,[m*c-d*l,g*l-m*e,g*c-d*e],g*c-d*e,U,.inr (SqT.of zA),by show 3<=1000; decide,rfl,by simp,n,Ud (by lia),λr J B o I=>?_⟩⟩;rwa[q n r J ((zB x _).trans B) ((zB x _).free o) I]
def nv(K:c5):Sp:=λd H Q _=>E6 λ(a:c7) (A B C x y:Int)=>A5 (d=[.ref a,.int x,.int y]) (Sq K H a [.int A,.int B,.int C]) (A.natAbs<=10^18) (B.natAbs<=10^18) (∀(p:c7)(c:Hp),Same H c->H p=JN->c p=O (.tup [.int A,.int B,.int (C+A*x+B*y)])->Q (.ref p) c)
def ft(F:Fun K "pushed" "pushed" xi f fd)(Z:Zs mg)(j:Cb P w mg base)  : yQ P w K mg base CX0 1 f fd ["side","x","y"] (nv K):=by
 specialize gU
 ·obtain⟨a,A,B,C,x,y,rfl,_⟩:=h;rfl
 obtain⟨a,e,B,C,x,y,rfl,c,i,g,q⟩:=h
 refine'⟨_,(zF (zO ?_)),?_⟩
 nofun
 refine⟨_,U,a,_,_,.int e,U,U,c,U,_,U,a,_,_,.int B,U,U,c,U,_,U,a,_,_,.int C,U,U,c,U,_,U,a,_,_,.int e,U,U,c,U,_,U,_,_,U,U,.inl ⟨by lia,by lia⟩,_,_,U,U,
  _,rfl,a,_,_,.int B,rfl,rfl,c,rfl,_,rfl,_,_,rfl,rfl,.inl ⟨by lia,by lia⟩,_,_,rfl,rfl,sz3,λp d=>?_⟩
 rwa[q p _ (zB d _) d zA]
def ZI{D0 D1 D2:Int}(n:D0≠0\/D1≠0)(e:D0.natAbs<=10^9)(d:D1.natAbs<=10^9):0<yV [D0,D1,D2]/\(yV [D0,D1,D2]:Int)<=10^9/\(yV [D0,D1,D2]:Int)<10^600:=by
 have c:0<yV [D0,D1,D2]:=by
  rcases n with n | n
  ·rwa[uV (n:=D0) (by simp) n]
  ·rwa[uV (n:=D1) (by simp) n]
 have z:(yV [D0,D1,D2]:Int)<=10^9:=by
  rcases n with n | n
  ·have:=wf (ns:=[D0,D1,D2]) (n:=D0) (by simp) n;lia
  ·have:=wf (ns:=[D0,D1,D2]) (n:=D1) (by simp) n;lia
 rwa[c,z,CU z (by ac_nf)]
def sC(K:c5):Sp:=λj H Q _=>E9 λ(m a b:c7) (i M1 h g e d:Int)=>A13 (j=[.ref m,.ref a,.ref b]) (SqT K H m [.int i,.int M1]) (SqT K H a [.int h,.int g]) (SqT K H b [.int e,.int d]) (i.natAbs<=10^6) (M1.natAbs<=10^6) (h.natAbs<=10^6) (g.natAbs<=10^6) (e.natAbs<=10^6) (d.natAbs<=10^6) (h≠0\/g≠0) (e≠0\/d≠0) (∀(l p q:c7)(c:Hp),Same H c->c l=O (.lst [.ref p,.ref q])->c p=O (.tup ((zw [-g,h,h*M1-g*i]).map V.int))->c q=O (.tup ((zw [d,-e,i*d-M1*e]).map V.int))->Q (.ref l) c)
def vh(F:Fun K "bearing_sides" "bearing_sides" wM f fd)(Z:Zs mg)(CB:Cb P w mg base)(I:Has P w K mg base "plain_side" 3 ["side"] (tU K))(G:Has P w K mg base "turn" 1 ["one","other"] (ym K)):yQ P w K mg base CX0 4 f fd ["place","one","other"] (sC K):=by
 specialize uN
 ·obtain⟨m,a,b,c,M1,i,g,e,d,rfl,_⟩:=h;rfl
 obtain⟨m,a,b,c,M1,i,g,e,d,rfl,D,x,N,m1,m2,m3,m4,m5,m6,nA,nB,q⟩:=h
 refine'⟨_,(zC (zU 3 uN.nd ?_)
   (zC (zU 4 uN.nd ?_)
   (zF (zO ?_)))),?_⟩
 nofun
 obtain⟨X,_,T⟩:=ZI (D0:=-g) (D1:=i) (D2:=i*M1-g*c) (by lia) (by lia) (by lia);obtain⟨S,_,R⟩:=ZI (D0:=d) (D1:=-e) (D2:=c*d-M1*e) (by lia) (by lia) (by lia);erw[_,rfl,a,_,_,.int g,rfl,rfl,.inr x,rfl,_,rfl,_,rfl,a,_,_,.int i,rfl,rfl,.inr x,rfl,_,rfl,_,rfl,a,m,_,_,i,g,c,M1,rfl,.inr x,.inr D,rfl,rfl,rfl,rfl,by lia,by lia,sz3,λL u=>?_];have o:=zB u (.tup [.int (-g),.int i,.int (i*M1-g*c)]);have j:=SqT.same N o;have v:=SqT.same D o;erw[_,rfl,b,_,_,.int d,rfl,rfl,.inr j,rfl,_,rfl,b,_,_,.int e,rfl,rfl,.inr j,rfl,_,rfl,_,rfl,_,rfl,m,b,_,_,c,M1,e,d,rfl,.inr v,.inr j,rfl,rfl,rfl,rfl,by lia,by lia,sz3,λJ r=>?_];have B:=zB r (.tup [.int d,.int (-e),.int (c*d-M1*e)]);refine⟨_,U,L,[-g,i,i*M1-g*c],U,.inr (SqT.of (B _ _ zA)),by show 3<=1000; decide,X,T,λp H3 z hp e3=>?_⟩;refine⟨_,U,J,[d,-e,c*d-M1*e],U,.inr (SqT.of (z _ _ zA)),by show 3<=1000; decide,S,R,λC H4 y hq Y=>?_⟩;erw[sz2,λl M=>?_];have n:=zB M (.lst [.ref p,.ref C]);rwa[q l p C _ (o.trans (B.trans (z.trans (y.trans n)))) zA (n _ _ (y _ _ e3)) (n _ _ Y)]
def yk(K:c5):Sp:=λi H Q _=>E6 λ(a b:c7) (g e d c:Int)=>A9 (i=[.ref a,.ref b]) (Sq K H a [.int g,.int e]) (Sq K H b [.int d,.int c]) (g.natAbs<=10^6) (e.natAbs<=10^6) (d.natAbs<=10^6) (c.natAbs<=10^6) (e-c≠0\/d-g≠0) (∀(p:c7)(h:Hp),Same H h->H p=JN->h p=O (.tup ((zw [e-c,d-g,d*e-c*g]).map V.int))->Q (.ref p) h)
def oE(F:Fun K "range_side" "range_side" vA f fd)(Z:Zs mg)(J:Cb P w mg base)(o:Has P w K mg base "plain_side" 3 ["side"] (tU K))(m:Has P w K mg base "turn" 1 ["one","other"] (ym K)):yQ P w K mg base CX0 4 f fd ["left","right"] (yk K):=by
 specialize om
 ·obtain⟨a,b,g,e,d,c,rfl,_⟩:=h;rfl
 obtain⟨a,b,g,e,d,c,rfl,j,i,I,G,D,C,n,q⟩:=h
 refine'⟨_,(zF (zO ?_)),?_⟩
 nofun
 have v:0<yV [e-c,d-g,d*e-c*g]:=by
  rcases n with n | n
  ·rwa[uV (n:=e-c) (by simp) n]
  ·rwa[uV (n:=d-g) (by simp) n]
 have x:(yV [e-c,d-g,d*e-c*g]:Int)<10^600:=by
  have z:(yV [e-c,d-g,d*e-c*g]:Int)<=10^7:=by
   rcases n with n | n
   ·have:=wf (ns:=[e-c,d-g,d*e-c*g]) (n:=e-c) (by simp) n;lia
   ·have:=wf (ns:=[e-c,d-g,d*e-c*g]) (n:=d-g) (by simp) n;lia
  rwa[CU z (by ac_nf)]
 refine⟨_,U,a,_,_,.int e,U,U,j,U,_,U,b,_,_,.int c,U,U,i,U,_,_,U,U,_,U,b,_,_,.int d,U,U,i,U,_,U,a,_,_,.int g,U,U,j,U,_,_,U,U,_,U,_,U,b,a,_,_,d,c,g,e,U,i,j,U,U,U,U,by lia,by lia,sz3,λt l =>
  ⟨t,[e-c,d-g,d*e-c*g],rfl,.inr (SqT.of zA),by show 3<=1000; decide,v,x,λp B r u y=>?_⟩⟩
 rwa[q p B ((zB l _).trans r) ((zB l _).free u) y]
def jm(c:List Sd)(p:P3):Bool:=c.all λt=>decide (sv t.2 p<=0)
def YI{d:List Sd}{p:P3} : jm d p=JO↔inW d p:=by
 unfold jm inW;rw[AU];rwa[λh t c=>of_decide_eq_true (h t c),λh t c=>y7 (h t c)]
def vi(K:c5):Sp:=λd H Q _=>E4 λ(l p:c7) (c:List Sd) (P:P3)=>A5 (d=[.ref l,.ref p]) (SqL K H l (yB c)) (du H c) (Sq K H p [.int P.1,.int P.2.1,.int P.2.2]) (Q (.bl (jm c P)) H)
def jy(F:Fun K "in_water" "in_water" sA f fd)(Z:Zs mg)(T:Cb P w mg base)(C:Has P w K mg base "holds" 2 ["side","spot"] (lO K)):yQ P w K mg base CX0 3 f fd ["sides","place"] (vi K):=by
 specialize uj
 ·obtain⟨l,p,g,P,rfl,_⟩:=h;rfl
 obtain⟨l,p,g,P,rfl,B,ok,I,q⟩:=h
 refine'⟨_,(zC (xX t9 rfl (yT (pv 0)) (xO 2 uj.nd) (zF (xI ?_ (zF (zO gG)) yE)))
   (zF (zO gG))),?_⟩
 nofun
 refine⟨_,U,l,U,.inl ⟨⟨_,B⟩,xK (K:=K) (a:=l) (xs:=yB g) (λi r u=>A3 (H=u) (∀ j t,j<i->g[j]?=O t->sv t.2 P<=0) (∃ x:Option V,r=[O (.ref l),O (.ref p),x]))
  ⟨rfl,λj t o=>y9 o (Cs _),JN,rfl⟩ (λi r u _ y=>by obtain⟨e,_⟩:=y; rw[<- e]; rwa[B]) ?_ ?_⟩⟩
 ·rintro i v r u hi ⟨rfl,c,x,rfl⟩;obtain⟨t,gt,rfl,J⟩:=rM hi;obtain⟨L,_,S,R,N⟩:=ok t (f7 gt);exists _,U,_,U,t.1,p,t.2.1,t.2.2.1,t.2.2.2,P.1,P.2.1,P.2.2,U,.inr (SqT.of L),I,by lia,by lia,by lia,_,rfl;erw[ifN (λm=>?_) (λn=>?_)]
  ·have e:jm g P=false:=by
    unfold jm;rw[Fs];intro z;rwa[m (of_decide_eq_true (AU.mp z t (f7 gt)))]
   rw[e] at q;rwa[q]
  ·erw[rfl,λj D o d=>?_,_,rfl];by_cases e:j=i
   ·rw[e,gt] at d;cases d;rwa[n]
   ·rwa[c j D (by lia) d]
 ·rintro r u ⟨rfl,c,x,rfl⟩;have e:jm g P=true:=YI.mpr λt G=>by
   obtain⟨j,o,M⟩:=AV G;rwa[c j t (by rw[yA]; exact o) (by rw[c8 o,M])]
  rw[e] at q;rwa[q]
def jO(K:c5):Sp:=λd H Q _=>E2 λ(a:c7) (t:P3)=>A6 (d=[.ref a]) (Sq K H a [.int t.1,.int t.2.1,.int t.2.2]) (t.1≠0\/t.2.1≠0) (t.1.natAbs<=10^9) (t.2.1.natAbs<=10^9) (∀(p:c7)(c:Hp),Same H c->H p=JN->c p=O (.tup ((ftL t).map V.int))->Q (.ref p) c)
def bY(F:Fun K "foot" "foot" ow f fd)(Z:Zs mg)(v:Cb P w mg base)(g:Has P w K mg base "spot" 4 ["x","y","w"] (nS K))(i:Has P w K mg base "along" 1 ["one","other"] (lB K)):yQ P w K mg base CX0 5 f fd ["side"] (jO K):=by
 specialize bq
 ·obtain⟨a,t,rfl,_⟩:=h;rfl
 obtain⟨a,t,rfl,c,m,e,d,q⟩:=h
 refine'⟨_,(zF (zO ?_)),?_⟩
 nofun
 have pos:=au m;have u:=yJ t.1 t.1 e e;have r:=yJ t.2.1 t.2.1 d d;refine⟨_,U,a,_,_,.int t.1,U,U,c,U,_,U,a,_,_,.int t.2.2,U,U,c,U,_,_,U,U,vC (by lia),
  _,rfl,a,_,_,.int t.2.1,rfl,rfl,c,rfl,_,rfl,a,_,_,.int t.2.2,rfl,rfl,c,rfl,_,_,rfl,rfl,vC (by lia),
  _,rfl,_,rfl,a,a,_,_,t.1,t.2.1,t.1,t.2.1,rfl,c,c,rfl,rfl,rfl,rfl,by lia,by lia,
  t.1*t.2.2,t.2.1*t.2.2,t.1*t.1+t.2.1*t.2.1,rfl,by lia,AM (show(t.1*t.1+t.2.1*t.2.1).natAbs<=10^40 by lia) (by ac_nf),λp o j l n=>q p o j l n⟩
def qS(K:c5):Sp:=λe H Q _=>e=[]/\∀(d:c7)(c:Hp),Same H c->H d=JN->dA c d BS.nil->Q (.ref d) c
def pi(F:Fun K "nothing_yet" "nothing_yet" uS f fd)(Z:Zs mg)(L:Cb P w mg base)  : yQ P w K mg base CX0 1 f fd [] (qS K):=by
 specialize pC
 ·obtain⟨rfl,_⟩:=h;rfl
 obtain⟨rfl,q⟩:=h
 refine'⟨_,zF ?h,?_⟩
 rotate_left
 with_reducible refine' zO ?_
 rotate_left
 with_reducible exact gT (wF zS sI (wF zS sI (wF zS sI (wF zS sI (wF zS wP fF))))) rfl rfl (λz=>nomatch z) (by decide)
 try dsimp only[L2.cxOf]
 intro p l m v b y r hr n u;have B:=zB l (.dK []);have j:=zB v (.dK []);have i:=zB y (.dK []);have g:=zB hr (.dK []);have d:=zB u (.dK []);have em:=(i.trans (g.trans d)) _ _ zA;have J:=(g.trans d) _ _ zA;have G:=d _ _ zA;have I:=(j.trans (i.trans (g.trans d))) _ _ zA;exists I,[(.inr "marks",.ref m),(.inr "banks",.ref b),(.inr "runs",.ref r),(.inr "notes",.ref n),(.inr "coming",.int 1)],U,(show 5<=15 by decide);rw[Xm];have ne:∀{x:c7},(upd H p (.dK [])) x=JN->x≠p:=λ{x} h z=>by rw[z,zA] at h; cases h
 have nb:=ne (j.free y);have C:=ne (j.free (i.free hr));have D:=ne (j.free (i.free (g.free u)));erw[q p _ (λc o e=>?_) l ⟨m,b,r,n,.inl zA,.nil ?_,.nil ?_,.nil ?_,.nil ?_⟩]
 ·rw[zD (zG e l)];exact(B.trans (j.trans (i.trans (g.trans d)))) c o e
 ·rw[zD (ne v)]; rwa[em]
 ·rw[zD nb]; rwa[J]
 ·rw[zD C]; rwa[G]
 ·rw[zD D]; rwa[zA]
def sV(K:c5):Sp:=λj H Q _=>E7 λ(d a:c7) (kind:j3) (g:Key) (v:V) (e i:List (Key×V))=>A7 (j=[.ref d,.str kind,kV g,v]) (Rd H d (.dK e)) (vS e (.inr kind)=O (.ref a)) (Rd H a (.dK i)) (e.length<=100) (i.length<=100) (∀(f c:c7)(h:Hp),Same H h->H f=JN->f≠c->h f=O (.dK (vR e (.inr kind) (.ref c)))->h c=O (.dK (vR i g v))->Q (.ref f) h)
def ic(F:Fun K "changed" "changed" qA f fd)(Z:Zs mg)(J:Cb P w mg base)  : yQ P w K mg base CX0 1 f fd ["state","kind","key","value"] (sV K):=by
 specialize qk
 ·obtain⟨d,a,kind,m,v,g,j,rfl,_⟩:=h;rfl
 obtain⟨d,a,kind,m,v,g,j,rfl,hd,B,z,I,G,q⟩:=h
 refine'⟨_,(zC (zU 4 qk.nd ?_)
   (zC (uJ (zZ hr) (pv 4) (pv 1) (xF rE rfl Z.dict wk (zI (zN (zZ hr) (pv 0) (pv 1) (λ_ _=>rfl)) zM)) rfl)
   (zC (uJ (zZ hr) (zN (zZ hr) (pv 4) (pv 1) (λ_ _=>rfl)) (pv 2) (pv 3) rfl)
   (zF (zO (pv 4)))))),?_⟩
 nofun
 erw[_,rfl,d,g,rfl,hd,λp n=>?_];have l:=zB n (.dK g);have r:Rd (upd H p (.dK g)) d (.dK g):=hd.imp (l _ _) λ⟨o,e⟩=>⟨o,l _ _ e⟩;have x:Rd (upd H p (.dK g)) a (.dK j):=z.imp (l _ _) λ⟨o,e⟩=>⟨o,l _ _ e⟩;erw[_,rfl,_,rfl,d,.ref a,rfl,.inl ⟨g,.inr kind,r,rfl,B.symm⟩,a,j,rfl,x,λc u=>?_];have i:p≠c:=zG zA u;have y:=zB u (.dK j);have D:upd (upd H p (.dK g)) c (.dK j) p=O (.dK g):=y _ _ zA;exists _,U,_,U,p,_,U,oV.k (k:=.inr kind) D (zL (by lia));have C:upd (upd (upd H p (.dK g)) c (.dK j)) p (.dK (vR g (.inr kind) (.ref c))) c=O (.dK j):=by rw[zD i.symm,zA]
 erw[_,rfl,_,rfl,_,rfl,p,.ref c,rfl,.inl ⟨_,.inr kind,.inl zA,rfl,?_⟩,_,rfl,c,_,rfl,oV.k C (zL (by lia)),_,rfl,?_]
 ·rw[xh,y6 rfl]
 erw[q p c _ (λb o e=>?_) n i ?_ zA]
 ·have n1:=zG e n;have n2:=zG (l _ _ e) u;rw[zD n2,zD n1,zD n2,zD n1];rwa[e]
 ·rw[zD i,zA]
def pj(K:c5):Sp:=λj H Q _=>E7 λ(d a:c7) (kind:j3) (g:Key) (v:V) (e i:List (Key×V))=>A7 (j=[.ref d,.str kind,kV g]) (Rd H d (.dK e)) (vS e (.inr kind)=O (.ref a)) (Rd H a (.dK i)) (vS i g=O v) (e.length<=100) (∀(f c:c7)(h:Hp),Same H h->H f=JN->f≠c->h f=O (.dK (vR e (.inr kind) (.ref c)))->h c=O (.dK (pc i g))->Q (.ref f) h)
def iB(F:Fun K "without" "without" rV f fd)(Z:Zs mg)(J:Cb P w mg base)  : yQ P w K mg base CX0 1 f fd ["state","kind","key"] (pj K):=by
 specialize qt
 ·obtain⟨d,a,kind,m,v,g,i,rfl,_⟩:=h;rfl
 obtain⟨d,a,kind,m,v,g,i,rfl,hd,D,B,C,I,q⟩:=h
 refine'⟨_,(zC (zU 3 qt.nd ?_)
   (zC (uJ (zZ hr) (pv 3) (pv 1) (xF rE rfl Z.dict wk (zI (zN (zZ hr) (pv 0) (pv 1) (λ_ _=>rfl)) zM)) rfl)
   (zC (zW (pK (zN (zZ hr) (pv 3) (pv 1) (λ_ _=>rfl)) (pv 2) ⟨rfl,rfl,rfl,rfl⟩))
   (zF (zO (pv 3)))))),?_⟩
 nofun
 erw[_,rfl,d,g,rfl,hd,λp n=>?_];have l:=zB n (.dK g);have r:Rd (upd H p (.dK g)) d (.dK g):=hd.imp (l _ _) λ⟨o,e⟩=>⟨o,l _ _ e⟩;have x:Rd (upd H p (.dK g)) a (.dK i):=B.imp (l _ _) λ⟨o,e⟩=>⟨o,l _ _ e⟩;erw[_,rfl,_,rfl,d,.ref a,rfl,.inl ⟨g,.inr kind,r,rfl,D.symm⟩,a,i,rfl,x,λc u=>?_];have j:p≠c:=zG zA u;have z:=zB u (.dK i);have G:upd (upd H p (.dK g)) c (.dK i) p=O (.dK g):=z _ _ zA;exists _,U,_,U,p,_,U,oV.k (k:=.inr kind) G (zL (by lia));have y:upd (upd (upd H p (.dK g)) c (.dK i)) p (.dK (vR g (.inr kind) (.ref c))) c=O (.dK i):=by rw[zD j.symm,zA]
 erw[_,rfl,_,rfl,p,.ref c,rfl,.inl ⟨_,.inr kind,.inl zA,rfl,?_⟩,c,rfl,.inl ⟨i,.inl y⟩,_,rfl,i,m,v,y,rfl,C,_,rfl,?_]
 ·rw[xh,y6 rfl]
 erw[q p c _ (λb o e=>?_) n j ?_ zA]
 ·have n1:=zG e n;have n2:=zG (l _ _ e) u;rw[zD n2,zD n1,zD n2,zD n1];rwa[e]
 ·rw[zD j,zA]
def jU(ns:List Int)(m:Int):Bool:=ns.all λn=>decide (-m<=n)&&decide (n<=m)
def qD(K:c5):Sp:=λd H Q _=>E3 λ(a:c7) (ns:List Int) (m:Int)=>A4 (d=[.ref a,.int m]) (H a=O (.tup (ns.map V.int))) (ns.length<=100) (∀ c,Same H c->Q (.bl (jU ns m)) c)
def gO(F:Fun K "within" "within" xj f fd)(Z:Zs mg)(I:Cb P w mg base)  : yQ P w K mg base CX0 1 f fd ["numbers","most"] (qD K):=by
 specialize gh
 ·obtain⟨a,ns,m,rfl,_⟩:=h;rfl
 obtain⟨a,ns,m,rfl,z,G,q⟩:=h
 refine'⟨_,(zF (zO (yG (zg rfl) rfl Z.all iL (zI (yO (T:=["number"]) (caps:=[("most",1)]) ⟨rfl,by ac_nf,by ac_nf,rfl,⟨⟨rfl,rfl,BM rfl⟩,t5⟩⟩ rfl (yT (pv 0)) (λ_=>(xO 0 (show(["number","most"]:List j3).Nodup by ac_nf))) (λ_=>yH) (λ_=>(dE XB XB ?_ (pv 0) (pv 1)))) zM)))),?_⟩
 nofun
 refine⟨_,U,a,U,.inr ⟨⟨_,SqT.of z⟩,λc D y=>?_⟩⟩;refine nJ (K:=K) (a:=a) (xs:=ns.map V.int) (λi o g l=>A4 (Same H l) (l D=O (.lst g)) (g=((ns.take i).map λn=>decide (-m<=n)&&decide (n<=m)).map V.bl) (∃ u:Option V,o=[u,O (.int m)]))
  ⟨zB y _,zA,rfl,JN,rfl⟩ (λi o g l _ v=>by obtain⟨d,e,_⟩:=v; rwa[SqT.of (d _ _ z),e]) ?_ ?_
 ·rintro i x o g l hi ⟨d,p,rfl,u,rfl⟩;obtain⟨n,B,rfl⟩:=xS hi;have C:=(d8.mp B).1;have len:(((ns.take i).map λn=>decide (-m<=n)&&decide (n<=m)).map V.bl).length<sizeLine:=zL (by rw[b7,b7,i7]; lia);have j:∀ b:Bool,b=(decide (-m<=n)&&decide (n<=m))->((ns.take i).map λn=>decide (-m<=n)&&decide (n<=m)).map V.bl++[V.bl b]=((ns.take (i+1)).map λn=>decide (-m<=n)&&decide (n<=m)).map V.bl:=λb e=>by
   rw[x6,B,e,e7,e7];rfl
  exists _,U,_,U,_,U,_,_,U,U,_,rfl;erw[ite2 (λh1=>?_) (λh1=>?_)]
  ·rwa[_,rfl,_,_,rfl,rfl,p,len,d.putNew y,zA,j _ (by rw[h1,Bool.true_and]),_,rfl]
  ·rwa[p,len,d.putNew y,zA,j _ (by rw[eq_false_of_ne_true h1,Io]),_,rfl]
 ·rintro o g l ⟨d,p,rfl,u,rfl⟩;exists D,_,U,SqL.of p;have r:=q _ d;rw[b7,j9,EK];rwa[r]
def ze(K:c5):Sp:=λd H Q _=>∃ x:j3,A3 (d=[.str x]) (sN x) (∀ c,Same H c->Q .non c)
def XF(a c:Nat):(!decide ((⟨#[c]⟩:j3).cps.toList<(⟨#[a]⟩:j3).cps.toList))=decide (a<=c):=by
 have e:([c]<[a])↔c<a:=by
  rw[List.cons_lt_cons_iff];simp
 show(!decide ([c]<[a]))=_;by_cases h:c<a
 ·rw[y7 (e.mpr h),y8 (by lia)];rfl
 ·rw[y8 (λz=>h (e.mp z)),y7 (by lia)];rfl
def oS(F:Fun K "check_name" "check_name" vB f fd)(Z:Zs mg)(M:Cb P w mg base)  : yQ P w K mg base CX0 1 f fd ["name"] (ze K):=by
 specialize nI
 ·obtain⟨x,rfl,_⟩:=h;rfl
 obtain⟨x,rfl,⟨h1,h8,C⟩,q⟩:=h;exists _,(zF (xI (PW.pt (cU (xQ WQ (yG qr rfl Z.len qf (zI (pv 0) zM)) wP (wu _)) (cU (xQ ZR (yG qr rfl Z.len qf (zI (pv 0) zM)) (dF M.LONGEST_NAME) (wu _)) (jT (hV (jD (yG (zg rfl) rfl Z.all iL (zI (yO (T:=["letter"]) (caps:=[]) ⟨rfl,by ac_nf,by ac_nf,rfl,t5⟩ rfl (Tl (pv 0)) (λ_=>(lX (i:=0) (show(["letter"]:List j3).Nodup by ac_nf) rfl (BM rfl))) (λ_=>yH) (λ_=>(dE jS jS zS (pv 0) zS))) zM)))))))) (zF vG) yE))
 try dsimp only[L2.cxOf]
 have y:x.length<=sizeLine:=f9 h8 (by decide);exists _,U,x,U,y,_,_,U,U,_,rfl;refine ifD (λz=>y9 z (by lia)) (λ_=>?_);exists _,U,x,U,y,_,_,U,U,_,rfl;refine ifD (λz=>y9 z (by lia)) (λ_=>?_);have u:x.cps.all (· < 128)=true:=by
  rw[Array.all_eq_true'];intro c J;have:=C c (Gr.mpr J);rwa[y7 (by lia)]
 refine⟨_,U,x,U,u,λc D G=>?_⟩;refine VQ (xs:=jN x) (λi j d g=>A5 (Same H g) (g D=O (.lst d)) (d=(Bc i JO).map V.bl) (i<=x.length) (∃ l:Option V,j=[l]))
  ⟨zB G _,zA,rfl,m7 _,JN,rfl⟩ (λi j d g o=>by obtain⟨_,e,_⟩:=o; rwa[t5,e]) ?_ ?_
 ·rintro i v j d g hi ⟨m,r,rfl,L,l,rfl⟩;unfold jN at hi;rw[d9,o6] at hi;obtain⟨n,I,rfl⟩:=hi;have B:=C n (f7 I);have p:i<x.length:=by
   have:=(d8.mp I).1;rw[g8] at this;rwa[this]
  exists _,U,_,_,U,U,_,rfl;rw[show(!decide (((⟨#[n]⟩:j3).cps.toList)<(("a" : j3).cps.toList)))=JO from(XF 97 n).trans (y7 B.1)];erw[pS ?_];erw[_,_,rfl,rfl,r,zL (by rw[b7,BI]; lia),m.putNew G,zA,?_,p,_,rfl];rw[show(!decide ((("z" : j3).cps.toList)<((⟨#[n]⟩:j3).cps.toList)))=JO from(XF n 122).trans (y7 B.2),Eu,e7];rfl
 ·rintro j d g ⟨m,r,rfl,_,l,rfl⟩;exists D,_,U,SqL.of r,_,rfl;rw[show(Bc (jN x).length JO).all id=JO from by simp];erw[uY ?_];rwa[q _ m]
def zh(K:c5):Sp:=λg H Q _=>E6 λ(d a:c7) (kind:j3) (n:j3) (c e:List (Key×V))=>A6 (g=[.ref d,.str kind,.str n]) (Rd H d (.dK c)) (vS c (.inr kind)=O (.ref a)) (Rd H a (.dK e)) (vS e (.inr n)=JN) (Q .non H)
def oO(F:Fun K "check_free" "check_free" vD f fd)(Z:Zs mg)(l:Cb P w mg base)  : yQ P w K mg base CX0 1 f fd ["state","kind","name"] (zh K):=by
 specialize nh
 ·obtain⟨d,a,kind,n,c,e,rfl,_⟩:=h;rfl
 obtain⟨d,a,kind,n,c,e,rfl,hd,j,g,i,q⟩:=h;exists _,(zF (xI (bo (Ue (zZ hr) (pv 2) (zN (zZ hr) (pv 0) (pv 1) (λ_ _=>rfl))) (by with_unfolding_all rfl)) (zF vG) yE))
 try dsimp only[L2.cxOf]
 exists _,U,_,U,_,U,d,.ref a,U,.inl ⟨c,.inr kind,hd,U,j.symm⟩,a,_,U,.inl ⟨e,.inr n,g,U,U⟩,_,rfl;rw[i];rwa[uY q]
def qW(K:c5):Sp:=λd H Q _=>E3 λ(a:c7) (x y:Int)=>A4 (d=[.ref a]) (H a=O (.tup [.int x,.int y])) (vt (x,y)) (∀ c,Same H c->Q .non c)
def aF{x y:Int}(h:vt (x,y)):jU [x,y] 1000=true:=by
 obtain⟨h1,h2,h3,h4⟩:=h;simp only[jU,Ei,Jr,Jf,AT,decide_eq_true_eq];rwa[⟨h1,h2⟩,h3,h4]
def pE(F:Fun K "check_place" "check_place" uP f fd)(Z:Zs mg)(j:Cb P w mg base)(c:Has P w K mg base "within" 1 ["numbers","most"] (qD K)):yQ P w K mg base CX0 2 f fd ["place"] (qW K):=by
 specialize pf
 ·obtain⟨a,x,y,rfl,_⟩:=h;rfl
 obtain⟨a,x,y,rfl,g,e,q⟩:=h;exists _,(zF (xI (hV (jD (wD c (hr.mono (by decide)) rfl (zI (pv 0) (zI (dF j.FARTHEST) zM))))) (zF vG) yE))
 try dsimp only[L2.cxOf]
 refine⟨_,U,a,[x,y],1000,U,g,(by show 2<=100; decide),λi d=>⟨_,rfl,?_⟩⟩;rw[aF e];rwa[uY (q i d)]
def wq(K:c5):Sp:=λd H Q _=>E3 λ(a:c7) (x y:Int)=>A4 (d=[.ref a]) (H a=O (.tup [.int x,.int y])) (vt (x,y)) (∀ c,Same H c->Q .non c)
def mD(F:Fun K "check_run" "check_run" tE f fd)(Z:Zs mg)(j:Cb P w mg base)(c:Has P w K mg base "within" 1 ["numbers","most"] (qD K)):yQ P w K mg base CX0 2 f fd ["run"] (wq K):=by
 specialize mH
 ·obtain⟨a,x,y,rfl,_⟩:=h;rfl
 obtain⟨a,x,y,rfl,g,e,q⟩:=h;exists _,(zF (xI (hV (jD (wD c (hr.mono (by decide)) rfl (zI (pv 0) (zI (dF j.FARTHEST) zM))))) (zF vG) yE))
 try dsimp only[L2.cxOf]
 refine⟨_,U,a,[x,y],1000,U,g,(by show 2<=100; decide),λi d=>⟨_,rfl,?_⟩⟩;rw[aF e];rwa[uY (q i d)]
def uQ(K:c5):Sp:=λh H Q _=>E6 λ(d a:c7) (kind:j3) (c g:List (Key×V)) (e:Int)=>A7 (h=[.ref d,.str kind]) (Rd H d (.dK c)) (vS c (.inr kind)=O (.ref a)) (Rd H a (.dK g)) (vS Tf (.inr kind)=O (.int e)) ((g.length:Int)<e) (Q .non H)
def oB(F:Fun K "check_room" "check_room" vI f fd)(Z:Zs mg)(i:Cb P w mg base)  : yQ P w K mg base CX0 1 f fd ["state","kind"] (uQ K):=by
 specialize og
 ·obtain⟨d,a,kind,c,g,e,rfl,_⟩:=h;rfl
 obtain⟨d,a,kind,c,g,e,rfl,hd,l,j,em,m,q⟩:=h;exists _,(zF (xI (xQ Vp (yG uf rfl Z.len qf (zI (zN (zZ hr) (pv 0) (pv 1) (λ_ _=>rfl)) zM)) (Yb i.dMOST i.gMOST (pv 1)) (wu _)) (zF vG) yE))
 try dsimp only[L2.cxOf]
 exists _,U,_,U,d,.ref a,U,.inl ⟨c,.inr kind,hd,U,l.symm⟩,a,g,U,j,_,U,.inr kind,.int e,U,em,_,_,U,U,_,rfl;rwa[ifD (λz=>y9 z (by lia)) (λ_=>q)]
def tJ(K:c5):Sp:=λc H Q _=>E7 λ(d m b r n:c7) (S:BS) (x:j3)=>A4 (c=[.ref d,.str x]) (StA H d m b r n S) ((zT S x).isSome=JO) (Q .non H)
def nD(F:Fun K "check_mark" "check_mark" vL f fd)(Z:Zs mg)(j:Cb P w mg base)  : yQ P w K mg base CX0 1 f fd ["state","name"] (tJ K):=by
 specialize nE
 ·obtain⟨d,m,b,r,n,S,x,rfl,_⟩:=h;rfl
 obtain⟨d,m,b,r,n,S,x,rfl,st,g,q⟩:=h;obtain⟨c,i,e⟩:=st.ma;exists _,(zF (xI (bo (gw (zZ hr) (pv 1) (zN (zZ hr) (pv 0) zS (λ_ _=>rfl))) (by with_unfolding_all rfl)) (zF vG) yE))
 try dsimp only[L2.cxOf]
 exists _,U,_,U,d,.ref m,U,.inl ⟨_,.inr "marks",st.at_,U,rX.symm⟩,m,_,U,.inl ⟨c,.inr x,i,U,U⟩,_,rfl;rw[e.isSome,se,Da,g];rwa[uY q]
def offM(n:Nat)(m:Int):Prop:=(m<0\/(n:Int)<m)/\m.natAbs.log2<1920
def xL(K:c5):Sp:=λe H Q E=>E3 λ(a:c7) (m:Int) (n:Nat)=>A3 (e=[.int m,.ref a]) ((∃ d,SqL K H a d/\d.length=n)\/∃ c,Rd H a (.dK c)/\c.length=n) ((A3 (0<=m) (m<=n) (Q .non H))\/(offM n m/\E (.ref qI) JN H))
def si(F:Fun K "check_moment" "check_moment" uB f fd)(Z:Zs mg)(u:Cb P w mg base)  : yQ P w K mg base (CX1 P w) 1 f fd ["moment","runs"] (xL K):=by
 erw[F.okX qw (λg H Q E h=>?_) (λp A outer s H g Q E B h=>?_)]
 ·obtain⟨a,m,n,rfl,_⟩:=h;rfl
 obtain⟨a,m,n,rfl,l,q⟩:=h
 refine'⟨_,(zF (xI (PW.pt (cU ?_ (jT (xQ ZR (pv 0) (yG (uH.or yq uf) rfl Z.len qf (zI (pv 1) zM)) (wu _))))) (zF (YE (λ_=>E) u.e_NoMoment Fd (by decide) Fd YT (zI (Ve (Ta (TX (pv 0) UQ))) zM))) yE)),?_⟩
 nofun
 exists _,U,_,_,U,U,_,rfl;have go:¬ (0<=m/\m<=n)->US (TK (Us 0) UR) [O (.int m),O (.ref a)] H (λv r=>1<=sizeLine/\E (.ref qI) JN r):=λz=>by
  rcases q with ⟨h0,j,_⟩ | ⟨⟨_,i⟩,q⟩
  ·rwa[y9 ⟨h0,j⟩ z]
  ·rwa[_,rfl,.inl ⟨m,rfl,i⟩,λx _=>⟨by decide,q⟩]
 erw[ifD (λz=>?_) (λz=>?_)]
 ·erw[pS ?_];rwa[go (λy=>y9 y.1 (by lia))]
 exists _,U,_,rfl;rcases l with ⟨e,d,rfl⟩ | ⟨c,d,rfl⟩
 ·erw[.inl ⟨a,e,rfl,.inl d,_,_,rfl,rfl,_,rfl,?_⟩];erw[ifD (λy=>go (λy=>y9 y.2 (by lia))) (λy=>?_)];rcases q with ⟨_,_,q⟩ | ⟨⟨o,_⟩,_⟩
  ·rwa[q]
  ·rwa[y9 o (by lia)]
 ·erw[.inr ⟨a,c,rfl,d,_,_,rfl,rfl,_,rfl,?_⟩];erw[ifD (λy=>go (λy=>y9 y.2 (by lia))) (λy=>?_)];rcases q with ⟨_,_,q⟩ | ⟨⟨o,_⟩,_⟩
  ·rwa[q]
  ·rwa[y9 o (by lia)]
def ww(K:c5):Sp:=λd H Q _=>E3 λ(a:c7) (x y:Int)=>A4 (d=[.ref a]) (H a=O (.tup [.int x,.int y])) (vf (x,y)) (∀ c,Same H c->Q .non c)
def UP{x y:Int}(h:vf (x,y)):jU [x,y] 100=true:=by
 obtain⟨_,h1,h2,h3,h4⟩:=h;simp only[jU,Ei,Jr,Jf,AT,decide_eq_true_eq];rwa[⟨h1,h2⟩,h3,h4]
def mF(F:Fun K "check_way" "check_way" vZ f fd)(Z:Zs mg)(m:Cb P w mg base)(d:Has P w K mg base "within" 1 ["numbers","most"] (qD K)):yQ P w K mg base CX0 2 f fd ["direction"] (ww K):=by
 specialize mJ
 ·obtain⟨a,x,y,rfl,_⟩:=h;rfl
 obtain⟨a,x,y,rfl,j,e,q⟩:=h
 refine'⟨_,(zF (xI (PW.pt (cU (xQ (ag hr.units0) (pv 0) ?_ (wu _)) (jT (hV (jD (wD d (hr.mono (by decide)) rfl (zI (pv 0) (zI (dF m.LONGEST_WAY) zM)))))))) (zF vG) yE)),?_⟩
 nofun
 erw[_,rfl,sz2,λp i=>?_];have sp:=zB i (.tup [.int 0,.int 0]);have c:=sp _ _ j;exists a,p,[x,y],[0,0],U,U,SqT.of c,SqT.of zA,_,rfl;refine ifD (λz=>y9 (show(x,y)=(0,0) by simp at z; rw[z.1,z.2]) e.1) (λ_=>?_);refine⟨_,U,a,[x,y],100,U,c,(by show 2<=100; decide),λl g=>⟨_,rfl,?_⟩⟩;rw[UP e];rwa[uY (q l (sp.trans g))]
def qT(K:c5):Sp:=λc H Q _=>E10 λ(d m b r n:c7) (S:BS) (x y:j3) (p u:Int×Int)=>A6 (c=[.ref d,.str x,.str y]) (StA H d m b r n S) (zT S x=O p) (zT S y=O u) (p≠u) (Q .non H)
def pH(F:Fun K "check_apart" "check_apart" uU f fd)(Z:Zs mg)(G:Cb P w mg base)  : yQ P w K mg base CX0 1 f fd ["state","left","right"] (qT K):=by
 specialize pF
 ·obtain⟨d,m,b,r,n,S,x,y,p,u,rfl,_⟩:=h;rfl
 obtain⟨d,m,b,r,n,S,x,y,p,u,rfl,st,ex,ey,ne,q⟩:=h;obtain⟨c,g,e⟩:=st.ma;obtain⟨D,o,j⟩:=e.get (k:=.inr x) (d:=ptD p) (by rw[se,ex]; rfl);obtain⟨C,l,i⟩:=e.get (k:=.inr y) (d:=ptD u) (by rw[se,ey]; rfl);obtain⟨B,rfl,h1⟩:=qo j;obtain⟨v,rfl,h2⟩:=qo i;exists _,(zF (xI (xQ (ag hr.units0) (zN (zZ hr) (zN (zZ hr) (pv 0) zS (λ_ _=>rfl)) (pv 1) (λ_ _=>rfl)) (zN (zZ hr) (zN (zZ hr) (pv 0) zS (λ_ _=>rfl)) (pv 2) (λ_ _=>rfl)) (wu _)) (zF vG) yE))
 try dsimp only[L2.cxOf]
 refine⟨_,U,d,.ref m,U,.inl ⟨_,.inr "marks",st.at_,U,rX.symm⟩,_,U,m,_,U,.inl ⟨c,.inr x,g,U,o.symm⟩,_,U,d,.ref m,U,.inl ⟨_,.inr "marks",st.at_,U,rX.symm⟩,_,U,m,_,U,.inl ⟨c,.inr y,g,U,l.symm⟩,
  B,v,[p.1,p.2],[u.1,u.2],rfl,rfl,SqT.of h1,SqT.of h2,_,rfl,?_⟩
 exact ifD (λz=>y9 (show p=u by simp at z; rwa[G8 z.1 z.2]) ne) (λ_=>q)
def tK(_:c5):Sp:=dO λD=>E3 λn x y=>D=.mark n x y
def mq(F:Fun K "after_mark" "after_mark" vK f fd)(Z:Zs mg)(CB:Cb P w mg base)(T:Has P w K mg base "changed" 1 ["state","kind","key","value"] (sV K))(Y:Has P w K mg base "check_room" 1 ["state","kind"] (uQ K))(yAr:Has P w K mg base "check_place" 2 ["place"] (qW K))(yAs:Has P w K mg base "check_free" 1 ["state","kind","name"] (zh K))(X:Has P w K mg base "check_name" 1 ["name"] (ze K)):yQ P w K mg base CX0 3 f fd ["state","row"] (tK K):=by
 specialize tQ
 ·obtain⟨d,v,S,D,rfl,_⟩:=h;rfl
 obtain⟨d,v,S,D,rfl,⟨n,x,y,rfl⟩,⟨m,b,r,t,st⟩,hv,⟨k1,L,k3,k4⟩,few,_,q⟩:=h;obtain⟨a,rfl,J⟩:=gH hv
 refine'⟨_,(zC (zU 2 tQ.nd ?_)
   (zC (zU 3 tQ.nd ?_)
   (zC (zW ?_)
   (zC (zW ?_)
   (zC (zW ?_)
   (zC (zW ?_)
   (zF (zO ?_)))))))),?_⟩
 nofun
 exists _,U,a,_,_,.str n,U,U,.inr (SqT.of J),rfl;erw[_,rfl,a,_,_,.int x,rfl,rfl,.inr (SqT.of J),rfl,_,rfl,a,_,_,.int y,rfl,rfl,.inr (SqT.of J),rfl,sz2,λp hp=>?_];have s1:=zB hp (.tup [.int x,.int y]);erw[_,rfl,n,rfl,k1,λH2 I=>?_];have u:=s1.trans I;have l:=st.to (.of u);obtain⟨i,M,C⟩:=l.ma;exists _,U,_,U,d,m, "marks",n,_,i,U,l.at_,rX,M,C.none (by rw[se,L]; rfl);erw[_,rfl,p,x,y,rfl,I _ _ zA,k3,λH3 B=>?_];have g:=u.trans B;have j:=st.to (.of g);have z:=Rd.same M B;erw[_,rfl,d,m, "marks",_,i,20,rfl,j.at_,rX,z,(by symm),by rw[C.length,lW]; lia,?_];erw[_,rfl,_,rfl,_,rfl,d,m, "marks",.inr n,.ref p,_,i,rfl,j.at_,rX,z,StA.stKlen,C.le (by rw[lW]; lia),λf c R G hf _ N ec=>?_];have o:=g.trans G;have e:=st.to (.of o);rw[aL] at N;erw[q f R (.of o) (g.free hf) ⟨c,b,r,t,.inl N,⟨_,.inl ec,?_⟩,e.ba,e.ru,e.no⟩];show wC R _ (mkE (S.marks++[(n,x,y)]));rw[gK,<- sQ (kW L)];exact(C.to (.of (B.trans G))).put (zj ((I.trans (B.trans G)) _ _ zA))
def tL(_:c5):Sp:=dO λD=>E2 λx y=>D=.sail x y
def oh(F:Fun K "after_sail" "after_sail" vE f fd)(Z:Zs mg)(CB:Cb P w mg base)(n:Has P w K mg base "changed" 1 ["state","kind","key","value"] (sV K))(L:Has P w K mg base "check_room" 1 ["state","kind"] (uQ K))(J:Has P w K mg base "check_run" 2 ["run"] (wq K)):yQ P w K mg base CX0 3 f fd ["state","row"] (tL K):=by
 specialize yn
 ·obtain⟨d,v,S,D,rfl,_⟩:=h;rfl
 obtain⟨d,v,S,D,rfl,⟨x,y,rfl⟩,⟨m,b,r,t,st⟩,T,⟨R,k2⟩,few,_,q⟩:=h;obtain⟨a,rfl,C⟩:=gB T
 refine'⟨_,(zC (zU 2 yn.nd ?_)
   (zC (zW ?_)
   (zC (zW ?_)
   (zF (zO (wD n (hr.mono (by decide)) rfl (zI (pv 0) (zI zS (zI (yG uf rfl Z.len qf (zI (zN (zZ hr) (pv 0) zS (λ_ _=>rfl)) zM)) (zI (pv 2) zM)))))))))),?_⟩
 nofun
 erw[_,rfl,a,_,_,.int x,rfl,rfl,.inr (SqT.of C),rfl,_,rfl,a,_,_,.int y,rfl,rfl,.inr (SqT.of C),rfl,sz2,λp X=>?_];have M:=zB X (.tup [.int x,.int y]);erw[_,rfl,p,x,y,rfl,zA,R,λH2 z=>?_];have j:=M.trans z;have g:=st.to (.of j);obtain⟨e,u,B⟩:=g.ru;have N:e.length=S.runs.length:=by rw[B.length,kQ]
 erw[_,rfl,d,r, "runs",_,e,12,rfl,g.at_,sj,u,(by symm),by lia,?_];erw[_,rfl,_,rfl,d,.ref r,rfl,.inl ⟨_,.inr "runs",g.at_,rfl,sj.symm⟩,r,e,rfl,u,_,rfl,d,r, "runs",.inl (e.length:Int),.ref p,_,e,rfl,g.at_,sj,u,StA.stKlen,by lia,λf c I o Y _ G ec=>?_];have l:=j.trans o;have i:=st.to (.of l);rw[Yl] at G;erw[q f I (.of l) (j.free Y) ⟨m,b,c,t,.inl G,i.ma,i.ba,⟨_,.inl ec,?_⟩,i.no⟩];show wC I _ (rnE (S.runs++[(x,y)]));rw[Vy,<- sQ Yu,<- N];exact(B.to (.of o)).put (zj ((z.trans o) _ _ zA))
def tY(_:c5):Sp:=λe H Q _=>E4 λ(d:c7) (v:V) (S:BS) (D:Deed)=>A6 (e=[.ref d,v]) (dA H d S) (Rep H D.dt v) (S.notes.length<24) (gW S) (∀(d':c7)(c:Hp),Same H c->H d'=JN->dA c d' { S with notes:=S.notes++[(S.coming,D)],coming:=S.coming+1 }->Q (.ref d') c)
def mj(F:Fun K "after_note" "after_note" vM f fd)(Z:Zs mg)(L:Cb P w mg base)(j:Has P w K mg base "changed" 1 ["state","kind","key","value"] (sV K))(y:Has P w K mg base "check_room" 1 ["state","kind"] (uQ K)):yQ P w K mg base CX0 2 f fd ["state","row"] (tY K):=by
 specialize yj
 ·obtain⟨d,v,S,D,rfl,_⟩:=h;rfl
 obtain⟨d,v,S,D,rfl,⟨m,b,r,t,st⟩,z,J,B,q⟩:=h;obtain⟨g,p,o⟩:=st.no;have I:g.length=S.notes.length:=by rw[o.length,Zc]
 refine'⟨_,(zC (zW ?_)
   (zC (zU 2 yj.nd (wD j (hr.mono (by decide)) rfl (zI (pv 0) (zI zS (zI (zN (zZ hr) (pv 0) zS (λ_ _=>rfl)) (zI (pv 1) zM))))))
   (zC (uJ (zZ hr) (pv 2) zS (qC eS (zN (zZ hr) (pv 0) zS (λ_ _=>rfl)) wP) rfl)
   (zF (zO (pv 2)))))),?_⟩
 nofun
 erw[_,rfl,d,t, "notes",_,g,24,rfl,st.at_,vq,p,(by symm),by lia,?_];erw[_,rfl,_,rfl,d,.int S.coming,rfl,.inl ⟨_,.inr "coming",st.at_,rfl,oM.symm⟩,_,rfl,d,t, "notes",.inl S.coming,v,_,g,rfl,st.at_,vq,p,StA.stKlen,by lia,λf c G n u ne x C=>?_];have l:=st.to (.of n);rw[iC] at x;exists _,U,d,.int S.coming,U,.inl ⟨_,.inr "coming",l.at_,U,oM.symm⟩,_,_,U,U,_,U,f,_,U,oV.k (k:=.inr "coming") x (zL (f9 StA.stKlen (by decide))),_,rfl;rw[dJ];have i:Same H (upd G f (.dK (stK m b r c (S.coming+1)))):=n.putNew u;have e:=st.to (.of i);erw[q f _ i u ⟨m,b,r,c,.inl zA,e.ma,e.ba,e.ru,⟨_,.inl (by rw[zD ne.symm]; rwa[C]),?_⟩⟩];rw[gJ,<- sQ (kh B)];exact(o.to (.of i)).put (z.to (.of i))
def uL(_:c5):Sp:=dO λD=>E6 λm n a b c d=>D=.bearing m n a b c d
def ui(F:Fun K "after_bearing" "after_bearing" wE f fd)(Z:Zs mg)(CB:Cb P w mg base)(yAu:Has P w K mg base "after_note" 2 ["state","row"] (tY K))(X:Has P w K mg base "turn" 1 ["one","other"] (ym K))(Y:Has P w K mg base "check_way" 2 ["direction"] (ww K))(yAz:Has P w K mg base "check_mark" 1 ["state","name"] (tJ K))(n:YB P w K mg base "check_moment" 1 ["moment","runs"] (xL K)):yQ P w K mg base CX0 3 f fd ["state","row"] (uL K):=by
 specialize vo
 ·obtain⟨d,v,S,D,rfl,_⟩:=h;rfl
 obtain⟨d,v,S,D,rfl,⟨G,nm,j,i,x,o,rfl⟩,⟨m,b,r,t,st⟩,N,⟨k1,k2,k3,M,k5,k6,k7⟩,few,fr,q⟩:=h;obtain⟨a,p,u,rfl,l,T,R⟩:=tH N;obtain⟨C,I,kr⟩:=st.ru
 refine'⟨_,(zC (zW (qP (λ_=>E0) n gD (hr.mono (by decide)) rfl (zI ?_ (zI (zN (zZ hr) (pv 0) zS (λ_ _=>rfl)) zM))))
   (zC (zW ?_)
   (zC (zW ?_)
   (zC (zW ?_)
   (zC (xI ?_ (zF vG) yE)
   (zF (zO ?_))))))),?_⟩
 nofun
 erw[_,rfl,a,_,_,.int G,rfl,rfl,.inr (SqT.of l),rfl,_,rfl,d,.ref r,rfl,.inl ⟨_,.inr "runs",st.at_,rfl,sj.symm⟩,r,G,S.runs.length,rfl,.inr ⟨C,I,by rw[kr.length,kQ]⟩,.inl ⟨k1,k2,?_⟩];exists _,U,_,U,a,_,_,.str nm,U,U,.inr (SqT.of l),U,d,m,b,r,t,S,nm,U,st,k3;erw[_,rfl,a,_,_,.ref p,rfl,rfl,.inr (SqT.of l),rfl,p,j,i,rfl,T,M,λH2 B=>?_];have g:=B _ _ l;erw[_,rfl,a,_,_,.ref u,rfl,rfl,.inr (SqT.of g),rfl,u,x,o,rfl,B _ _ R,k5,λH3 L=>?_];have e:=L _ _ g;have c:=B.trans L;obtain⟨_,b1,b2,b3,b4⟩:=M;have n1:j.natAbs<=10^18:=by simp at b1 b2; lia
 have n2:i.natAbs<=10^18:=by simp at b3 b4; lia
 exists _,U,a,_,_,.ref p,U,U,.inr (SqT.of e),U,_,U,a,_,_,.ref u,U,U,.inr (SqT.of e),U,p,u,_,_,j,i,x,o,U,.inr (SqT.of (c _ _ T)),.inr (SqT.of (c _ _ R)),U,U,U,U,n1,n2,_,_,U,U,_,rfl;erw[ifD (λz=>y9 z (by lia)) (λ_=>?_)];erw[_,rfl,_,rfl,d,.ref a,S,.bearing G nm j i x o,rfl,⟨m,b,r,t,st.to (.of c)⟩,N.to (.of c),k7,fr,λd' H4 s4 J y=>q d' H4 (.of (c.trans s4)) (c.free J) y]
def vT(_:c5):Sp:=dO λD=>E3 λm l r=>D=.range m l r
def ph(F:Fun K "after_range" "after_range" uM f fd)(Z:Zs mg)(CB:Cb P w mg base)(I:Has P w K mg base "after_note" 2 ["state","row"] (tY K))(J:Has P w K mg base "check_apart" 1 ["state","left","right"] (qT K))(G:Has P w K mg base "check_mark" 1 ["state","name"] (tJ K))(i:YB P w K mg base "check_moment" 1 ["moment","runs"] (xL K)):yQ P w K mg base CX0 3 f fd ["state","row"] (vT K):=by
 specialize pG
 ·obtain⟨d,v,S,D,rfl,_⟩:=h;rfl
 obtain⟨d,v,S,D,rfl,⟨n,g,e,rfl⟩,⟨m,b,r,t,st⟩,y,⟨X,T,x,u,R,N⟩,few,fr,q⟩:=h;obtain⟨a,rfl,Y⟩:=xo y;obtain⟨l,o,M⟩:=st.ru;obtain⟨p1,C⟩:=j7.mp x;obtain⟨p2,B⟩:=j7.mp u;have c:Sq K H a _:=.inr (SqT.of Y)
 refine'⟨_,(zC (zW (qP (λ_=>E0) i gD (hr.mono (by decide)) rfl (zI ?_ (zI (zN (zZ hr) (pv 0) zS (λ_ _=>rfl)) zM))))
   (zC (zW ?_)
   (zC (zW ?_)
   (zC (zW ?_)
   (zF (zO ?_)))))),?_⟩
 nofun
 erw[_,rfl,a,_,_,.int n,rfl,rfl,c,rfl,_,rfl,d,.ref r,rfl,.inl ⟨_,.inr "runs",st.at_,rfl,sj.symm⟩,r,n,S.runs.length,rfl,.inr ⟨l,o,by rw[M.length,kQ]⟩,.inl ⟨X,T,?_⟩];exists _,U,_,U,a,_,_,.str g,U,U,c,U,d,m,b,r,t,S,g,U,st,x;exists _,U,_,U,a,_,_,.str e,U,U,c,U,d,m,b,r,t,S,e,U,st,u;exists _,U,_,U,a,_,_,.str g,U,U,c,U,_,U,a,_,_,.str e,U,U,c,U,d,m,b,r,t,S,g,e,p1,p2,U,st,C,B,λz=>R (by rw[C,B,z]);erw[_,rfl,_,rfl,d,.ref a,S,.range n g e,rfl,⟨m,b,r,t,st⟩,y,N,fr,λd' H4 L p j=>q d' H4 (.of L) p j]
def uZ(_:c5):Sp:=dO λD=>∃ k,D=.strike k
def rf(F:Fun K "after_strike" "after_strike" wW f fd)(Z:Zs mg)(J:Cb P w mg base)(u:Has P w K mg base "without" 1 ["state","kind","key"] (pj K)):yQ P w K mg base CX0 2 f fd ["state","row"] (uZ K):=by
 specialize rC
 ·obtain⟨d,v,S,D,rfl,_⟩:=h;rfl
 obtain⟨d,v,S,D,rfl,⟨k,rfl⟩,⟨m,b,r,t,st⟩,x,ok,few,G,q⟩:=h;obtain⟨a,rfl,z⟩:=nV x;obtain⟨i,n,j⟩:=st.no;obtain⟨I,lk⟩:=fX (l:=S.notes) ok;obtain⟨v,o,_⟩:=j.get lk
 refine'⟨_,(zC (zU 2 rC.nd ?_)
   (zC (xI (bo (gw (zZ hr) (pv 2) (zN (zZ hr) (pv 0) zS (λ_ _=>rfl))) (by with_unfolding_all rfl)) (zF vG) yE)
   (zF (zO ?_)))),?_⟩
 nofun
 exists _,U,a,_,_,.int k,U,U,.inr (SqT.of z),U,_,U,_,U,d,.ref t,U,.inl ⟨_,.inr "notes",st.at_,U,vq.symm⟩,t,_,U,.inl ⟨i,.inl k,n,U,U⟩,_,rfl;rw[o];erw[uY ?_];erw[_,rfl,_,rfl,d,t, "notes",.inl k,v,_,i,rfl,st.at_,vq,n,o,StA.stKlen,λf c C g y ne p B=>?_];have e:=st.to (.of g);rw[iC] at p;erw[q f C (.of g) y ⟨m,b,r,c,.inl p,e.ma,e.ba,e.ru,⟨_,.inl B,?_⟩⟩];have:=(j.to (.of g)).drop (k:=.inl k);rw[eW] at this;rwa[this]
def WJ:Deed->Prop
 | .mark .. | .sail .. | .bearing .. | .range .. | .strike ..=>True
 | _=>False
def lh(_:c5):Sp:=dO WJ
def tabL:List (Key×Sp):=[(.inr "mark",tK []),(.inr "sail",tL []),(.inr "bearing",uL []),(.inr "range",vT []),(.inr "strike",uZ [])]
def cb(F:Fun K "after" "after" vy f fd)(Z:Zs mg)(g:Cb P w mg base)(l:Has P w K mg base "after_mark" 3 ["state","row"] (tK K))(o:Has P w K mg base "after_sail" 3 ["state","row"] (tL K))(G:Has P w K mg base "after_bearing" 3 ["state","row"] (uL K))(B:Has P w K mg base "after_range" 3 ["state","row"] (vT K))(C:Has P w K mg base "after_strike" 2 ["state","row"] (uZ K)):yQ P w K mg base CX0 4 f fd ["state","row"] (lh K):=by
 specialize cQ
 ·obtain⟨d,v,S,D,rfl,_⟩:=h;rfl
 obtain⟨d,v,S,D,rfl,kd,st,c,ok,few,j,q⟩:=h;have i:∀ r∈tabL,UW P w K mg base 3 XN r.1 r.2:=by
  intro r hr;simp only[tabL,o0,As,or_false] at hr;rcases hr with rfl | rfl | rfl | rfl | rfl
  ·rwa["after_mark",_,_,_,by symm,g.t_mark,l,by decide]
  ·rwa["after_sail",_,_,_,by symm,g.t_sail,o,by decide]
  ·rwa["after_bearing",_,_,_,by symm,g.t_bearing,G,by decide]
  ·rwa["after_range",_,_,_,by symm,g.t_range,B,by decide]
  ·rwa["after_strike",_,_,_,by symm,g.t_strike,C,by decide]
 refine'⟨_,(zF (zO (Sx g.dAFTER g.gAFTER i (hr.mono (by decide)) ?_ (zI (pv 0) (zI (pv 1) zM))))),?_⟩
 nofun
 cases D with
 | mark n x y =>
  obtain⟨a,rfl,e⟩:=gH c;rwa[_,rfl,a,_,_,.str "mark",rfl,rfl,.inr (SqT.of e),rfl,.inr "mark",_,rfl,.head _,_,rfl,_,rfl,d,.ref a,S,_,rfl,⟨n,x,y,rfl⟩,st,c,ok,few,j,q]
 | sail x y =>
  obtain⟨a,rfl,e⟩:=gB c;rwa[_,rfl,a,_,_,.str "sail",rfl,rfl,.inr (SqT.of e),rfl,.inr "sail",_,rfl,.tail _ (.head _),_,rfl,_,rfl,d,.ref a,S,_,rfl,⟨x,y,rfl⟩,st,c,ok,few,j,q]
 | bearing m n x y z t =>
  obtain⟨a,p,u,rfl,e,_⟩:=tH c;rwa[_,rfl,a,_,_,.str "bearing",rfl,rfl,.inr (SqT.of e),rfl,.inr "bearing",_,rfl,.tail _ (.tail _ (.head _)),_,rfl,_,rfl,d,.ref a,S,_,rfl,⟨_,_,_,_,_,_,rfl⟩,st,c,ok,few,j,q]
 | range m n k =>
  obtain⟨a,rfl,e⟩:=xo c;rwa[_,rfl,a,_,_,.str "range",rfl,rfl,.inr (SqT.of e),rfl,.inr "range",_,rfl,.tail _ (.tail _ (.tail _ (.head _))),_,rfl,_,rfl,d,.ref a,S,_,rfl,⟨_,_,_,rfl⟩,st,c,ok,few,j,q]
 | strike k =>
  obtain⟨a,rfl,e⟩:=nV c;rwa[_,rfl,a,_,_,.str "strike",rfl,rfl,.inr (SqT.of e),rfl,.inr "strike",_,rfl,.tail _ (.tail _ (.tail _ (.tail _ (.head _)))),_,rfl,_,rfl,d,.ref a,S,_,rfl,⟨_,rfl⟩,st,c,ok,few,j,q]
 | move | unmark | bank | level | right=>rwa[kd.elim]
def dbN(c:List (List Sd))(P:P3)(n:Nat):List Int:=((Au n).filter λi=>!(jm (c.getD i []) P)).map λi=>((i:Nat):Int)
def df(c:List (List Sd))(P:P3)(n:Nat):dbN c P (n+1)=dbN c P n++(if jm (c.getD n []) P then [] else [(n:Int)]):=by
 unfold dbN;rw[Gd,List.filter_append,e7]
 congr 1
 rw[Cd];cases jm (c.getD n []) P <;> rfl
def kA(c:List (List Sd))(P:P3)(n:Nat):(dbN c P n).length<=n:=by
 unfold dbN;rw[b7];have z:=BL (λi=>!(jm (c.getD i []) P)) (Au n);(rw[DV] at z;assumption)
def db(c:List (List Sd))(P:P3):List Int:=dbN c P c.length
abbrev Grp:=c7×List Sd
def rK(c:List Grp):List V:=c.map λg=>V.ref g.1
def xY(c:List Grp):(rK c).length=c.length:=by unfold rK; rw[b7]
def GrL(H:Hp)(c:List Grp):Prop:=∀ g∈c,H g.1=O (.lst (yB g.2))/\du H g.2
def GrL.same{H e:Hp}{d:List Grp}(h:GrL H d)(s:Same H e):GrL e d:=λg c=>⟨s _ _ (h g c).1,(h g c).2.same s⟩
def ZN{c:List Grp}{i:Nat}{k:Int}(hi:i<c.length)(d:k=i):∃ g,c[i]?=O g/\g∈c/\atI (rK c) k=O (.ref g.1)/\(c.map (·.2)).getD i []=g.2:=by
 subst d;erw[c[i],c8 hi,Ag hi,?_,by simp[hi]];rwa[qB (by unfold rK; rw[d9,c8 hi]; rfl)]
structure Rws(H0:Hp)(D:c7)(rs:List (c7×List Int))(H:Hp):Prop where
 same:Same H0 H
 new:H0 D=JN
 at':H D=O (.lst ((rs.map (·.1)).map V.ref))
 rows:∀ t∈rs,H t.1=O (.lst (t.2.map V.int))/\H0 t.1=JN/\t.1≠D
def Rws.app{m H e:Hp}{D p:c7}{g:List (c7×List Int)}{k:List Int}(h:Rws m D g H)(j:Same H e)(i:H p=JN)(q:e p=O (.lst (k.map V.int))) :
  Rws m D (g++[(p,k)]) (upd e D (.lst ((g.map (·.1)).map V.ref++[.ref p]))):=by
 have d:p≠D:=λz=>by rw[z,h.at'] at i; cases i
 erw[(h.same.trans j).putNew h.new,h.new,by rw[zA]; simp,λu c=>?_];rcases l7.mp c with c | c
 ·obtain⟨o,n,l⟩:=h.rows u c;rwa[by rw[zD l]; exact j _ _ o,n,l]
 ·rw[f6] at c;subst c;exact⟨by show upd e D _ p=_; rw[zD d]; exact q,h.same.free i,d⟩
def qe(K:c5):Sp:=λd H Q _=>E4 λ(l p:c7) (c:List Grp) (P:P3)=>A6 (d=[.ref l,.ref p]) (SqL K H l (rK c)) (GrL H c) (c.length<=100) (Sq K H p [.int P.1,.int P.2.1,.int P.2.2]) (∀(D:c7),H D=JN->Q (.ref D) (upd H D (.lst ((db (c.map (·.2)) P).map V.int))))
def im(F:Fun K "doubted" "doubted" qE f fd)(Z:Zs mg)(R:Cb P w mg base)(B:Has P w K mg base "in_water" 3 ["sides","place"] (vi K)):yQ P w K mg base CX0 4 f fd ["groups","place"] (qe K):=by
 specialize jG
 ·obtain⟨l,p,c,P,rfl,_⟩:=h;rfl
 obtain⟨l,p,c,P,rfl,y,ok,M,C,q⟩:=h
 refine'⟨_,(zF (zO (yO (T:=["number"]) (caps:=[("groups",0),("place",1)]) ⟨rfl,by ac_nf,by ac_nf,rfl,⟨⟨rfl,rfl,BM rfl⟩,⟨rfl,rfl,BM rfl⟩,t5⟩⟩ rfl (wQ rfl Z.range ?_) (λ_=>(xO 0 (show(["number","groups","place"]:List j3).Nodup by ac_nf))) (λ_=>(fS ?_)) (λ_=>(pv 0))))),?_⟩
 nofun
 refine⟨_,U,l,rK c,U,.inl y,_,U,by rw[xY]; lia,by rw[xY]; lia,λN D z=>mM (lo:=0) (n:=(rK c).length) (λi j d o=>A3 (o=upd H D (.lst d)) (d=(dbN (c.map (·.2)) P i).map V.int) (∃ u:Option V,j=[u,O (.ref l),O (.ref p)]))
  ⟨rfl,rfl,JN,rfl⟩ (λi j d o _ v=>by obtain⟨e,_⟩:=v; rw[e]; rwa[zA]) ?_ ?_⟩
 ·rintro i j d o hi ⟨rfl,rfl,u,rfl⟩;rw[xY] at hi;obtain⟨g,_,r,at',G⟩:=ZN hi (k:=0+(i:Int)) (by lia);obtain⟨J,I⟩:=ok g r;have m:=zB z (.lst ((dbN (c.map (·.2)) P i).map V.int));erw[_,rfl,_,rfl,l,_,_,_,rfl,rfl,.inl (m.seq y),at',_,rfl,g.1,p,g.2,P,rfl,SqL.of (m _ _ J),I.same m,?_,_,rfl,?_]
  ·rwa[C.same m]
  rw[<- G];have nx:=df (c.map (·.2)) P i;have L:=kA (c.map (·.2)) P i;cases x:jm ((c.map (·.2)).getD i []) P with
  | true =>
   rw[x] at nx;erw[uY ⟨rfl,?_,_,rfl⟩];rw[nx];simp
  | false =>
   rw[x] at nx;erw[pS ⟨_,rfl,zA,zL (by rw[b7]; lia),rA,?_,_,rfl⟩];rw[nx,e7];show _++[V.int (0+(i:Int))]=_++[V.int (i:Int)];rw[Do]
 ·rintro j d o ⟨rfl,rfl,u,rfl⟩;rw[xY,show c.length=(c.map (·.2)).length by rw[b7]];rwa[q D z]
def vU{n:Nat}(h:n<=9000):n<sizeLine:=AM h (by decide)
def zx(c:List Sd)(P:P3):Prop:=P=(0,0,1)\/(∃ t∈c,P=pt3 (ftL t.2))\/∃ t∈c,∃ u∈c,tn t.2 u.2≠0/\P=pt3 (crL t.2 u.2)
def zX(c:List Grp):List Sd:=c.flatMap (·.2)
def Yz(c:List Sd)(n:Nat):qy (yB c) JN (O (n:Int))=yB (c.take n):=by
 unfold qy;rw[show HT.sIx (yB c).length 0 JN=0 from rfl,HT.sIx_nat (yB c).length (yB c).length n,Gz,Hf];rw[yA];unfold yB;rw[<- Ek,<- Ek];by_cases h:n<=c.length
 ·rw[CY h]
 ·rw[HJ (by lia),Ao (e8 _),Ao (by lia)]
structure Tr(ss:List Sd)(nf i j:Nat)(ps:List P3):Prop where
 each:∀ P∈ps,zx ss P
 zero:((0,0,1):P3)∈ps
 feet:∀(a:Nat)(t:Sd),a<nf->ss[a]?=O t->pt3 (ftL t.2)∈ps
 meet:∀(a b:Nat)(t u:Sd),b<a->(a<i\/(a=i/\b<j))->ss[a]?=O t->ss[b]?=O u->tn t.2 u.2≠0->pt3 (crL t.2 u.2)∈ps
def Tr.all{c:List Sd}{o:List P3}(h:Tr c c.length c.length 0 o)(P:P3):P∈o↔zx c P:=by
 erw[h.each P,λz=>?_];rcases z with rfl | ⟨t,l,rfl⟩ | ⟨t,l,u,q,g,rfl⟩
 ·rwa[h.zero]
 ·obtain⟨a,d,n⟩:=AV l;rwa[h.feet a t d (by rw[c8 d,n])]
 ·obtain⟨a,d,n⟩:=AV l;obtain⟨b,p,r⟩:=AV q;have m:c[a]?=O t:=by rw[c8 d,n]
  have i:c[b]?=O u:=by rw[c8 p,r]
  by_cases h1:b<a
  ·rwa[h.meet a b t u h1 (.inl d) m i g]
  ·by_cases e:a=b
   ·subst e;rw[m] at i;cases i;rwa[y9 (by unfold tn; rw[Aa]; lia) g]
   ·have j:tn u.2 t.2≠0:=λz=>g (by unfold tn at z ⊢; rw[Aa u.2.1,Aa u.2.2.1] at z; lia);rw[aD g];rwa[h.meet b a u t (by lia) (.inl p) i m j]
def Tr.foot{c:List Sd}{i:Nat}{j:List P3}{t:Sd}(h:Tr c i i 0 j)(gt:c[i]?=O t):Tr c (i+1) i 0 (j++[pt3 (ftL t.2)]):=by
 erw[λP n=>?_,AH _ h.zero,λa u q g=>?_,λa b x y d m p o l=>AH _ (h.meet a b x y d m p o l)]
 ·rcases l7.mp n with z | z
  ·rwa[h.each P z]
  ·rw[f6] at z;rwa[.inr (.inl ⟨t,f7 gt,z⟩)]
 ·by_cases e:a=i
  ·rw[e,gt] at g;cases g;rwa[o8 _ (.head _)]
  ·rwa[AH _ (h.feet a u (by lia) g)]
def Tr.more{g:List Sd}{i j:Nat}{l c:List P3}{t u:Sd}(h:Tr g (i+1) i j l)(gt:g[i]?=O t)(p:g[j]?=O u)(sub:∀ P∈l,P∈c)(new:∀ P∈c,P∈l\/(tn t.2 u.2≠0/\P=pt3 (crL t.2 u.2)))(has:tn t.2 u.2≠0->pt3 (crL t.2 u.2)∈c):Tr g (i+1) i (j+1) c:=by
 erw[λP v=>?_,sub _ h.zero,λa x s d=>sub _ (h.feet a x s d),λa b x y m A d n o=>?_]
 ·rcases new P v with z | ⟨r,q⟩
  ·rwa[h.each P z]
  ·rwa[.inr (.inr ⟨t,f7 gt,u,f7 p,r,q⟩)]
 ·by_cases e:a=i/\b=j
  ·obtain⟨rfl,rfl⟩:=e;rw[gt] at d;rw[p] at n;cases d;cases n;rwa[has o]
  ·rwa[sub _ (h.meet a b x y m (by lia) d n o)]
def Tr.next{d:List Sd}{i:Nat}{e:List P3}(h:Tr d (i+1) i i e):Tr d (i+1) (i+1) 0 e:=⟨h.each,h.zero,h.feet,λa b t u c l gt j g=>h.meet a b t u c (by lia) gt j g⟩
structure PlT(H0:Hp)(D:c7)(qs:List SpT)(H:Hp):Prop where
 same:Same H0 H
 new:H0 D=JN
 at':H D=O (.lst (vX qs))
 ok:kD H qs
def PlT.app{n H e:Hp}{D p:c7}{g:List SpT}{l:List Int}{x:P3}(h:PlT n D g H)(d:Same H e)(j:H p=JN)(q:e p=O (.tup (l.map V.int)))(sp:bp l x) :
  PlT n D (g++[(p,x)]) (upd e D (.lst (vX g++[.ref p]))):=by
 have i:p≠D:=λz=>by rw[z,h.at'] at j; cases j
 erw[(h.same.trans d).putNew h.new,h.new,by rw[zA]; simp[vX],λu c=>?_];rcases l7.mp c with c | c
 ·obtain⟨m,o⟩:=h.ok u c;rwa[by rw[zD (sr (d _ _ m) (d _ _ h.at') (by intro z; cases z))]; exact d _ _ m,o]
 ·rw[f6] at c;subst c;erw[?_,sp.pos,sp.low];show upd e D _ p=_;rw[zD i,q,sp.list];rfl
def sM(K:c5):Sp:=λh H Q _=>E2 λ(l:c7) (c:List Grp)=>A6 (h=[.ref l]) (SqL K H l (rK c)) (GrL H c) (c.length<=24) (∀ g∈c,g.2.length<=2) (∀(D:c7)(d:List SpT)(e:Hp),Same H e->H D=JN->e D=O (.lst (vX d))->kD e d->(∀ P,P∈d.map (·.2)↔zx (zX c) P)->d.length<=9000->Q (.ref D) e)
def uo(F:Fun K "places_to_try" "places_to_try" wH f fd)(Z:Zs mg)(CB:Cb P w mg base)(yBf:Has P w K mg base "crossing" 4 ["one","other"] (uv K))(yCl:Has P w K mg base "foot" 5 ["side"] (jO K))(yCh:Has P w K mg base "spot" 4 ["x","y","w"] (nS K)):yQ P w K mg base CX0 6 f fd ["groups"] (sM K):=by
 specialize yK
 ·obtain⟨l,m,rfl,_⟩:=h;rfl
 obtain⟨l,m,rfl,hl,ok,hn,h2,q⟩:=h
 refine'⟨_,(zC (zU 1 yK.nd ?_)
   (zC (xX t9 rfl (yT (pv 0)) (xO 2 yK.nd) (zF (zW (VE DM PySem.F.slot_list_extend PySem.F.type_list_extend aW (pv 1) (zI (pv 2) zM)))))
   (zC (zU 3 yK.nd ?_)
   (zC (xX t9 rfl (wQ rfl Z.range ?_) (xO 4 yK.nd) (zC (zW (zu (pv 3) ?_))
   (zF (xX t9 rfl (gS ?_) (xO 5 yK.nd) (zC (zU 6 yK.nd ?_)
   (zF (xI ?_ (zF (zW (zu (pv 3) (zI (pv 6) zM)))) yE)))))))
   (zF (zO (pv 3))))))),?_⟩
 nofun
 have len:∀ k,k<=m.length->(zX (m.take k)).length<=2*k:=λk=>by
  induction k with
  | zero=>intro _; simp[zX]
  | succ k ih =>
   intro hk;have hk':k<m.length:=by lia
   have z:=ih (by lia);have g2:=h2 m[k] (Ag hk');have e:zX (m.take (k+1))=zX (m.take k)++m[k].2:=by
    unfold zX;rw[BD hk',Dy];simp
   rw[e,f8];lia
 have okS:∀{x:Hp},GrL x m->du x (zX m):=λ{x} o t ht=>by
  obtain⟨g,hg,htg⟩:=Eh.mp ht;exact(o g hg).2 t htg
 refine⟨m7 _,λd hd=>?_⟩;have X:∀ v,Same H (upd H d v):=λv=>zB hd v;refine⟨_,U,l,U,.inl ⟨⟨_,(X _).seq hl⟩,xK (K:=K) (a:=l) (xs:=rK m) (λi C x=>x=upd H d (.lst (yB (zX (m.take i))))/\∃ u2:Option V,C=[O (.ref l),O (.ref d),u2,JN,JN,JN,JN])
  ⟨rfl,JN,rfl⟩ (λi C x _ S=>by obtain⟨e,_⟩:=S; rw[e]; exact(X _).seq hl) ?_ ?_⟩⟩
 ·rintro i v C x hi ⟨rfl,u2,rfl⟩;unfold rK at hi;rw[d9] at hi;cases Y:m[i]? with
  | none=>rw[Y] at hi; cases hi
  | some g =>
   rw[Y] at hi;cases hi;have hil:i<m.length:=(d8.mp Y).1;have eg:=(ok g (f7 Y)).1;have lz:=len i (by lia);have g2:=h2 g (f7 Y);erw[_,rfl,.inl ⟨rfl,_,SqL.of zA⟩,_,rfl,d,g.1,_,_,rfl,rfl,zA,X _ _ _ eg,?_,?_]
   ·rw[yA,yA];rwa[ul (by lia)]
   ·erw[?_,_,rfl];rw[rA]
    congr 2
    unfold zX;rw[BD hil,Dy,(d8.mp Y).2];simp[yB]
 ·rintro C x ⟨rfl,u2,rfl⟩;rw[xY,j9];have lz:=len m.length (e8 _);rw[j9] at lz;have R:du (upd H d (.lst (yB (zX m)))) (zX m):=okS (ok.same (X _));have s0:=X (.lst (yB (zX m)));have ed:upd H d (.lst (yB (zX m))) d=O (.lst (yB (zX m))):=zA;generalize upd H d (.lst (yB (zX m)))=H1 at R s0 ed ⊢;clear len okS X;generalize hss:zX m=y at R ed lz q;erw[0,0,1,rfl,by decide,by ac_nf,λp H2 s2 hp ep=>?_];have e0:zw (upL 0 0 1)=[0,0,1]:=by ac_nf
  rw[e0] at ep;refine⟨by show 1<=sizeLine; decide,λD hD=>?_⟩;have P0:PlT H2 D [(p,0,0,1)] (upd H2 D (.lst [.ref p])):=by
   erw[zB hD _,hD,zA,λu hu=>?_];rw[f6] at hu;subst hu;exact⟨zB hD _ _ _ ep,by show(0:Int)<1; decide,by show Ad (Ad 0 0) 1=1; decide⟩
  have T0:Tr y 0 0 0 ([((p,0,0,1):SpT)].map (·.2)):=⟨λP hP=>by rw[f6.mp hP]; exact .inl rfl,.head _,λa t h=>y9 h (Cs _),λa b t u h1 h2=>y9 h2 (by lia)⟩;have hs12:Same H1 H2:=s2;have J:=s2 _ _ ed;have ok2:=R.same s2;refine⟨_,U,d,yB y,U,.inl ((zB hD _).seq (SqL.of J)),_,U,by rw[yA]; lia,by rw[yA]; lia,tM (lo:=0) (n:=(yB y).length) (λi C x=>∃ B:List SpT,A4 (PlT H2 D B x) (Tr y i i 0 (B.map (·.2))) (B.length<=1+i*49) (E3 λ(u4 N M:Option V)=>C=[O (.ref l),O (.ref d),u2,O (.ref D),u4,N,M]))
   ⟨_,P0,T0,by show 1<=1+0*49; lia,JN,JN,JN,rfl⟩ ?_ ?_⟩
  ·rintro i C x hi ⟨B,r,G,hq,u4,N,M,rfl⟩;rw[yA] at hi;obtain⟨t,mt,gt,at'⟩:=Zl (ss:=y) (i:=i) (k:=0+(i:Int)) (by lia) hi;have I:=ok2.same r.same;obtain⟨et,nt,b1,b2,b3⟩:=I t mt;have hq1:i*49<=48*49:=Dh _ (by lia);erw[_,rfl,.inl ⟨rfl,_,SqL.of r.at'⟩,_,rfl,_,rfl,d,_,_,_,rfl,rfl,.inl (SqL.of (r.same _ _ J)),at',t.1,t.2,rfl,.inr (SqT.of et),nt,b1,b2,λp3 H3 s3 hp3 ep3=>?_];exists D,_,_,U,U,s3 _ _ r.at',vU (by simp only[vX,b7]; lia);have L:=r.app s3 hp3 ep3 (UJ nt).1;have T1:=G.foot gt;generalize upd H3 D (.lst (vX B++[.ref p3]))=H4 at L ⊢;erw[_,rfl,_,rfl,_,rfl,d,_,rfl,SqL.of (L.same _ _ J),λc hc=>?_];rw[Do,Yz];rw[Do] at at';have sc:Same H4 (upd H4 c (.lst (yB (y.take i)))):=zB hc _;have ec:upd H4 c (.lst (yB (y.take i))) c=O (.lst (yB (y.take i))):=zA;have P2:PlT H2 D (B++[(p3,pt3 (ftL t.2))]) (upd H4 c (.lst (yB (y.take i)))):=⟨L.same.trans sc,L.new,sc _ _ L.at',L.ok.same sc⟩;have ncD:c≠D:=λz=>by rw[z,L.at'] at hc; cases hc
   generalize upd H4 c (.lst (yB (y.take i)))=H5 at P2 ec ⊢;clear L sc hc;refine⟨c,U,⟨_,SqL.of ec⟩,xK (K:=K) (a:=c) (xs:=yB (y.take i)) (λj C x=>A3 (x c=O (.lst (yB (y.take i)))) (∃ B:List SpT,A3 (PlT H2 D B x) (Tr y (i+1) i j (B.map (·.2))) (B.length<=2+i*49+j)) (E2 λ(N M:Option V)=>C=[O (.ref l),O (.ref d),u2,O (.ref D),O (.int i),N,M]))
    ⟨ec,⟨_,P2,by rw[e7]; exact T1,by rw[f8,AW]; lia⟩,_,_,rfl⟩ (λj C x _ S=>by obtain⟨e,_⟩:=S; rwa[SqL.of e]) ?_ ?_⟩
   ·rintro j v C H6 hj ⟨T,⟨B,r,G,hq⟩,N,M,rfl⟩;obtain⟨u,gu0,rfl,hjl⟩:=rM hj;rw[i7] at hjl;have gu:y[j]?=O u:=by rw[DA (by lia)] at gu0; rwa[gu0]
    have I:=ok2.same r.same;obtain⟨et,nt,b1,b2,b3⟩:=I t mt;obtain⟨eu,nu,c1,c2,c3⟩:=I u (f7 gu);erw[_,rfl,_,rfl,d,_,_,_,rfl,rfl,.inl (SqL.of (r.same _ _ J)),at',_,rfl,t.1,u.1,t.2.1,t.2.2.1,t.2.2.2,u.2.1,u.2.2.1,u.2.2.2,rfl,.inr (SqT.of et),.inr (SqT.of eu),by lia,by lia,by lia,by lia,by lia,λh0=>?_,λh0 p7 H7 s7 hp7 ep7=>?_]
    ·exists _,U,U,_,rfl;erw[uY ?_];rwa[T,⟨B,r,G.more gt gu (λP h=>h) (λP h=>.inl h) λz=>y9 h0 z,by lia⟩,_,_,rfl]
    ·exists _,U,U,_,rfl;erw[pS ?_];have P7:=r.app (l:=crL t.2 u.2) s7 hp7 ep7 (UO h0).1;exists _,U,.inl ⟨U,_,SqL.of (s7 _ _ r.at')⟩,_,U,D,_,_,U,U,s7 _ _ r.at',vU (by simp only[vX,b7]; lia);erw[by rw[zD ncD]; exact s7 _ _ T,⟨_,P7,?_,by rw[f8,AW]; lia⟩,_,_,rfl];rw[e7];rwa[G.more gt gu (λP h=>AH _ h) (λP h=>(l7.mp h).imp id λz=>⟨h0,f6.mp z⟩) λ_=>o8 _ (.head _)]
   ·rintro C H6 ⟨T,⟨B,r,G,hq⟩,N,M,rfl⟩;rw[yA,i7,CY (by lia)] at G hq;rwa[B,r,G.next,by lia,_,_,_,rfl]
  ·rintro C x ⟨B,r,G,hq,u4,N,M,rfl⟩;rw[yA] at G hq;erw[_,rfl,q D B x ((s0.trans s2).trans r.same) ((s0.trans s2).free r.new) r.at' r.ok (λP=>G.all P) ?_];have:y.length*49<=48*49:=Dh _ (by lia);lia
def zp:∀{a b:List (List Int)},a.map pk=b.map pk->a=b
 | [],[],_=>rfl
 | [],_::_,h=>nomatch h
 | _::_,[],h=>nomatch h
 | x::a,y::b,h=>by
  rw[i5,i5] at h;injection h with h1 h2
  rw[kz h1,zp h2]
def dI.put_or{d:List (List Key×V)}{g c:List (List Int)}{k:List Int}{v:V}(h:dI d g)(i:dI (vR d (pk k) v) c):c=g\/c=g++[k]:=by
 have e:=i.keys;unfold vR at e;split at e
 ·left;erw[zp ?_];rw[<- e,<- h.keys,Ab];erw[Dx λa _=>?_];show(if a.1=pk k then(a.1,v) else a).1=a.1;split <;> rfl
 ·right;erw[zp ?_];rw[<- e,e7,e7,h.keys];rfl
structure cF(H:Hp)(gs:List Grp)(kvs:List (List Key×V))(ks:List (List Int)):Prop where
 tab:dI kvs ks
 spot:∀ k∈ks,∃ sp:SpT,vS kvs (pk k)=O (.ref sp.1)/\kD H [sp]/\k=db (gs.map (·.2)) sp.2/\zx (zX gs) sp.2
structure UF(gs:List Grp)(ks:List (List Int)):Prop where
 ne:ks≠[]
 least:∀ k∈ks,∀ P,zx (zX gs) P->k.length<=(db (gs.map (·.2)) P).length
 all:∀ P,zx (zX gs) P->(∀ k∈ks,(db (gs.map (·.2)) P).length<=k.length)->db (gs.map (·.2)) P∈ks
def cF.put{H H':Hp}{d:List Grp}{g:List (List Key×V)}{h:List (List Int)}(m:cF H d g h){x:SpT}(y:kD H' [x])(r:zx (zX d) x.2)(keep:∀ b i,H b=O (.tup i)->H' b=O (.tup i)) :
  ∃ c,cF H' d (vR g (pk (db (d.map (·.2)) x.2)) (.ref x.1)) c/\(∀ k,k∈c↔k∈h\/k=db (d.map (·.2)) x.2)/\c.length<=h.length+1:=by
 obtain⟨c,v,l,s⟩:=m.tab.put (db (d.map (·.2)) x.2) (.ref x.1);erw[c,⟨v,λk A=>?_⟩,l,s];by_cases e:k=db (d.map (·.2)) x.2
 ·rwa[x,by rw[xh,y6 (by rw[e])],y,e,r]
 ·obtain⟨sp,q,j,p,o⟩:=m.spot k (((l k).mp A).resolve_right e);erw[sp,by rw[xh,y4 (λz=>e (kz z))]; exact q,λu n=>?_,p,o];rwa[keep _ _ (j u n).1,(j u n).2]
def li{h:List (c7×List Key)}{D:c7}{g:TG}{q:TE}{n:St}{s:Hp}{Q:VK}(j:Nat->St->List V->Hp->Prop)(h0:j 0 n [] (upd s D (.lst [])))(A:∀ i d c H,j i d c H->H D=O (.lst c))
  (v:∀ i t d c H,h[i]?=O t->j i d c H->g (.ref t.1) d H λl B=>q l B λy r=>r D=O (.lst c)/\c.length<sizeLine/\j (i+1) l (c++[y]) (upd r D (.lst (c++[y]))))
  (hd:∀ d c H,j h.length d c H->Q (.ref D) H):xf (Itk h) D g XW q n s Q:=by
 exists λi m d c H=>m=h.length-i/\i<=h.length/\j i d c H,⟨_,U,m7 _,h0⟩;rintro i m d c H ⟨rfl,hi,p⟩;exists A i d c H p;by_cases o:i<h.length
 ·erw[.inr ⟨o,j (i+1),λu E C z=>⟨h.length-(i+1),by lia,rfl,o,z⟩,λx C y=>?_⟩];obtain⟨rfl,t,gt,rfl⟩:=y;rwa[v i t d c _ gt p]
 ·have e:i=h.length:=by lia
  subst e;rwa[.inl ⟨e8 _,hd d c H p⟩]
def rN(K:c5):Sp:=λi H Q _=>E2 λ(l:c7) (c:List Grp)=>A6 (i=[.ref l]) (SqL K H l (rK c)) (GrL H c) (c.length<=24) (∀ g∈c,g.2.length<=2) (∀(D:c7)(d:List (List Key×V))(e:List (List Int))(h:Hp),Same H h->H D=JN->h D=O (.dT d)->cF h c d e->UF c e->e.Pairwise (λa b=>HT.lexLt b a=JP)->e.length<=9000->Q (.ref D) h)
def tz(F:Fun K "least_doubts" "least_doubts" wZ f fd)(Z:Zs mg)(CB:Cb P w mg base)(yAd:Has P w K mg base "places_to_try" 6 ["groups"] (sM K))(yBm:Has P w K mg base "doubted" 4 ["groups","place"] (qe K)):yQ P w K mg base CX0 7 f fd ["groups"] (rN K):=by
 specialize yW
 ·obtain⟨l,B,rfl,_⟩:=h;rfl
 obtain⟨l,B,rfl,hl,ok,hn,h2,q⟩:=h;have hu1:=AM (Dr (show 1<=64 by decide) _) hr.units;have hu2:=AM (Dr (show 2<=64 by decide) _) hr.units
 refine'⟨_,(zC (zU 1 yW.nd fZ)
   (zC (xX t9 rfl (yT ?_) (xO 2 yW.nd) (zF (uJ (zZ hr) (pv 1) ?_ (pv 2) rfl)))
   (zC (zU 3 yW.nd (yG (jf rfl) rfl Z.min aV (zI (fR (T:=["choice"]) (caps:=[]) ⟨rfl,by ac_nf,by ac_nf,rfl,t5⟩ rfl (pv 1) (λ_=>(xO 0 (show(["choice"]:List j3).Nodup by ac_nf))) (λ_=>yH) (λ_=>?_)) zM)))
   (zC (zU 4 yW.nd fZ)
   (zC (xX t9 rfl (yT (yG (ju hu2) rfl Z.sorted uI (zI (xF (hU rfl) rfl Z.list rZ (zI (pv 1) zM)) zM))) (xO 5 yW.nd) (zF (xI ?_ (zF (uJ (zZ hr) (pv 4) (pv 5) (zN (zZ hr) (pv 1) (pv 5) (λ_ _=>rfl)) rfl)) yE)))
   (zF (zO (pv 4)))))))),?_⟩
 nofun
 refine λd hd=>?_;have s0:=zB hd (.dT []);refine⟨_,U,l,B,U,s0.seq hl,ok.same s0,hn,h2,λp1 qs H1 s1 hp1 ep1 okq mem hq=>?_⟩;have ed1:=s1 _ _ (show upd H d (.dT []) d=O (.dT []) from zA);refine⟨p1,U,.inl ⟨⟨_,SqL.of ep1⟩,xK (K:=K) (a:=p1) (xs:=vX qs) (λi N J=>A3 (∀ b o,H1 b=O o->b≠d->J b=O o) (E2 λp X=>A4 (J d=O (.dT p)) (cF J B p X) (X.length<=i) (∀ j x,j<i->qs[j]?=O x->db (B.map (·.2)) x.2∈X)) (E4 λ(u2 u3 u4 u5:Option V)=>N=[O (.ref l),O (.ref d),u2,u3,u4,u5]))
  ⟨λb o e _=>e,⟨[],[],ed1,⟨.nil,λk hk=>nomatch hk⟩,e8 _,λj x h=>y9 h (Cs _)⟩,JN,JN,JN,JN,rfl⟩ (λi N J _ hq'=>SqL.of (hq'.1 _ _ ep1 ?_)) ?_ ?_⟩⟩
 ·rwa[sr ep1 ed1 (by intro z; cases z)]
 ·rintro i v N H2 hi ⟨kp,⟨p,X,eD,sh,hk,done⟩,u2,u3,u4,u5,rfl⟩;rw[d9,d9] at hi;cases I:qs[i]? with
  | none=>rw[I] at hi; cases hi
  | some x =>
   rw[I] at hi;cases hi;have hx:=okq x (f7 I);have nxd:x.1≠d:=sr hx.1 ed1 (by intro z; cases z);have ex2:=kp _ _ hx.1 nxd;have ld:∀{b:c7}{o:HO},H b=O o->b≠d:=λ{b o} e z=>by rw[z,hd] at e; cases e
   have h12:∀{b:c7}{o:HO},H b=O o->H2 b=O o:=λ{b o} e=>kp _ _ (s1 _ _ (s0 _ _ e)) (ld e);have s02:Same H H2:=λb o e=>h12 e;refine⟨_,U,_,U,_,U,_,U,l,x.1,B,x.2,U,s02.seq hl,ok.same s02,by lia,.inr (SqT.of ex2),λD hD=>?_⟩;have sD:=zB hD (.lst ((db (B.map (·.2)) x.2).map V.int));refine⟨D,_,U,.inl ⟨SqL.of zA,λt ht=>?_⟩⟩;have st:=zB ht (.tup ((db (B.map (·.2)) x.2).map V.int));have eD4:=st _ _ (sD _ _ eD);have kl:=sh.tab.len;have L:=sD.trans st;have et:upd (upd H2 D (.lst ((db (B.map (·.2)) x.2).map V.int))) t (.tup ((db (B.map (·.2)) x.2).map V.int)) t=O (.tup ((db (B.map (·.2)) x.2).map V.int)):=zA;generalize upd (upd H2 D (.lst ((db (B.map (·.2)) x.2).map V.int))) t (.tup ((db (B.map (·.2)) x.2).map V.int))=H4 at L eD4 et ⊢;have hi2:i<qs.length:=(d8.mp I).1;exists d,_,U,oV.t (k:=pk (db (B.map (·.2)) x.2)) eD4 (by rw[tf]; exact et) (by rw[kl]; exact vU (by lia));have g:∀(b:c7)(xs:List V),H2 b=O (.tup xs)->upd H4 d (.dT (vR p (pk (db (B.map (·.2)) x.2)) (.ref x.1))) b=O (.tup xs):=λb xs e=>by
    rw[zD (sr (L _ _ e) eD4 (by intro z; cases z))];rwa[L _ _ e]
   obtain⟨ks',Y,G,len'⟩:=sh.put (H':=upd H4 d (.dT (vR p (pk (db (B.map (·.2)) x.2)) (.ref x.1)))) (x:=x) (λu hu=>by rw[f6] at hu; subst hu; rwa[g _ _ ex2,hx.2]) ((mem x.2).mp (Ay (f7 I))) g;erw[λb o e n=>by rw[zD n]; exact L _ _ (kp b o e n),⟨_,ks',zA,Y,by lia,λj y hj gy=>?_⟩,_,_,_,_,rfl];by_cases e:j=i
   ·rw[e,I] at gy;cases gy;exact(G _).mpr (.inr rfl)
   ·exact(G _).mpr (.inl (done j y (by lia) gy))
 ·rintro N H2 ⟨kp,⟨p,X,eD,sh,hk,done⟩,u2,u3,u4,u5,rfl⟩;have lq:(vX qs).length=qs.length:=by simp
  rw[lq] at hk done;have ld:∀{b:c7}{o:HO},H b=O o->b≠d:=λ{b o} e z=>by rw[z,hd] at e; cases e
  have s02:Same H H2:=λb o e=>kp _ _ (s1 _ _ (s0 _ _ e)) (ld e);have all:∀ P,zx (zX B) P->db (B.map (·.2)) P∈X:=λP hP=>by
   obtain⟨x,hx,e⟩:=g7.mp ((mem P).mpr hP);obtain⟨j,hj,ej⟩:=AV hx;rw[<- e];rwa[done j x hj (by rw[c8 hj,ej])]
  clear kp done okq mem;refine⟨_,U,d,p,U,eD,λts ets hts cc D hD=>li (λi N ys J=>A3 (J=upd (tZ H2 d) D (.lst ys)) (ys=((ts.take i).map λt=>V.int (t.2.length:Int))) (∃ u:Option V,N=[u]))
   ⟨rfl,rfl,JN,rfl⟩ (λi N ys J hq'=>by obtain⟨e,_⟩:=hq'; rw[e]; rwa[zA]) ?_ ?_⟩
  ·rintro i t N ys J gt ⟨rfl,rfl,u,rfl⟩;have ht:=hts t (f7 gt);have htd:t.1≠d:=sr ht eD (by intro z; cases z);have htD:t.1≠D:=λz=>by rw[z,hD] at ht; cases ht
   have til:i<ts.length:=(d8.mp gt).1;have tl:ts.length=p.length:=by have z:=congrArg Aq ets; (rw[b7,b7] at z;assumption)
   have kl:=sh.tab.len;erw[_,rfl,t.1,_,rfl,.inr (SqT.of (by rw[zD htD,qH htd]; rwa[ht])),zA,vU (by rw[b7,i7]; lia),rA,?_,_,rfl];rw[yZ gt,e7,b7];rfl
  ·rintro N ys J ⟨rfl,rfl,u,rfl⟩;erw[λ_=>?_];have nDd:D≠d:=λz=>by rw[z,eD] at hD; cases hD
   rw[Zf eD nDd,j9];have lens:(ts.map λt=>(t.2.length:Int))=X.map λk=>(k.length:Int):=by
    have z:=congrArg (List.map λt:List Key=>(t.length:Int)) (ets.trans sh.tab.keys);rw[Ab,Ab] at z;erw[z.trans (Dx λk _=>?_)];show((pk k).length:Int)=_;unfold pk;rw[b7]
   have kne:X≠[]:=λz=>by have:=all (0,0,1) (.inl rfl); rw[z] at this; cases this
   erw[D,ts.map (λt=>(t.2.length:Int)),rfl,SqL.of (by rw[zA,Ab]; rfl),by rw[lens]; exact λz=>kne (GJ.mp z),λM m1 m2=>?_];rw[lens] at m1 m2;obtain⟨k0,mk0,ek0⟩:=g7.mp m1;have m3:∀ k∈X,M<=(k.length:Int):=λk hk=>m2 _ (Ay (f:=λk:List Int=>(k.length:Int)) hk);have s3:=zB hD (.lst (ts.map λt=>V.int (t.2.length:Int)));generalize upd H2 D (.lst (ts.map λt=>V.int (t.2.length:Int)))=H3 at s3 ⊢;clear lens m1 m2 ets hts;erw[λS hd2=>?_];have s4:=zB hd2 (.dT []);have ed4:=(s3.trans s4) _ _ eD;have e24:upd H3 S (.dT []) S=O (.dT []):=zA;have ndd:d≠S:=λz=>by rw[<- z] at hd2; rw[s3 _ _ eD] at hd2; cases hd2
   have L:=s3.trans s4;have hd20:H2 S=none:=s3.free hd2;generalize upd H3 S (.dT [])=H4 at L ed4 e24 ⊢;clear s3 s4;erw[_,rfl,d,p,rfl,ed4,λp5 ts5 hp5 ets5 hts5=>?_];obtain⟨us,w1,w2,w3⟩:=sh.tab.refs ets5 hts5;have s5:=zB hp5 (.lst ((ts5.map (·.1)).map V.ref));have ep5:upd H4 p5 (.lst ((ts5.map (·.1)).map V.ref)) p5=O (.lst ((us.map (·.1)).map V.ref)):=by rw[zA,w1]
   generalize upd H4 p5 (.lst ((ts5.map (·.1)).map V.ref))=H5 at s5 ep5 ⊢;refine⟨p5,us,U,SqL.of ep5,λt ht=>s5 _ _ (w3 t ht),λp6 us6 hp6 pm pw=>?_⟩;have s6:=zB hp6 (.lst ((us6.map (·.1)).map V.ref));have ep6:upd H5 p6 (.lst ((us6.map (·.1)).map V.ref)) p6=O (.lst ((us6.map (·.1)).map V.ref)):=zA;generalize upd H5 p6 (.lst ((us6.map (·.1)).map V.ref))=H6 at s6 ep6 ⊢;have s46:=s5.trans s6;have eu6:∀ u∈us6,H6 u.1=O (.tup (u.2.map V.int)):=λu hu=>s46 _ _ (w3 u (pm.mem_iff.mp hu));have mu6:∀ k,k∈X↔∃ u∈us6,u.2=k:=λk=>by
    rw[<- w2,g7];rwa[λ⟨u,h1,h2⟩=>⟨u,pm.mem_iff.mpr h1,h2⟩,λ⟨u,h1,h2⟩=>⟨u,pm.mem_iff.mp h1,h2⟩]
   have lu:us6.length<=9000:=by
    have z:=congrArg Aq w2;rw[b7] at z;rw[pm.length_eq,z];lia
   have e26:=s46 _ _ e24;have ed6:=s46 _ _ ed4;have s26:=L.trans s46;clear w1 w2 w3 pm ep5 s5 s6 hp5 hp6 ets5 hts5;refine⟨p6,U,.inl ⟨⟨_,SqL.of ep6⟩,xK (K:=K) (a:=p6) (xs:=(us6.map (·.1)).map V.ref) (λi N J=>A3 (∀ b o,H6 b=O o->b≠S->J b=O o) (E2 λc r=>A5 (J S=O (.dT c)) (cF J B c r) (r.length<=i) (r.Sublist ((us6.take i).map (·.2))) (∀ k,k∈r↔∃ j u,j<i/\us6[j]?=O u/\u.2=k/\(k.length:Int)=M)) (∃ u5:Option V,N=[O (.ref l),O (.ref d),u2,O (.int M),O (.ref S),u5]))
    ⟨λb o e _=>e,⟨[],[],e26,⟨.nil,(λk hk=>nomatch hk)⟩,e8 _,HQ _,λk=>⟨(λh=>nomatch h),λ⟨j,u,h,_⟩=>y9 h (Cs _)⟩⟩,_,rfl⟩ (λi N J _ hq'=>by obtain⟨e,_⟩:=hq'; rwa[SqL.of (e _ _ ep6 (sr ep6 e26 (by intro z; cases z)))]) ?_ ?_⟩⟩
   ·rintro i v N H7 hi ⟨kp,⟨c,r,eD7,R,hk2,m,C⟩,u5,rfl⟩;rw[d9,d9] at hi;cases I:us6[i]? with
    | none=>rw[I] at hi; cases hi
    | some x =>
     rw[I] at hi;cases hi;have hx:=eu6 x (f7 I);have ex7:=kp _ _ hx (sr hx e26 (by intro z; cases z));have ed7:=kp _ _ ed6 ndd;have hi2:i<us6.length:=(d8.mp I).1;have xk:x.2∈X:=(mu6 x.2).mpr ⟨x,f7 I,rfl⟩;exists _,U,x.1,_,U,.inr (SqT.of ex7),_,U,U,_,rfl;rw[b7];erw[ifE (λhe=>?_) (λhe=>?_)]
     ·obtain⟨sp,v1,v2,v3,v4⟩:=sh.spot x.2 xk;have hsp:=v2 sp (.head _);have esp6:=s26 _ _ hsp.1;have esp7:=kp _ _ esp6 (sr esp6 e26 (by intro z; cases z));have kl:=R.tab.len;refine⟨_,U,_,U,d,.ref sp.1,U,by rw[<- v1]; exact dk.t (k:=pk x.2) ed7 (by rw[tf]; exact ex7),?_⟩;exists _,U,_,U,S,_,U,oV.t (k:=pk x.2) eD7 (by rw[tf]; exact ex7) (by rw[kl]; exact vU (by lia));have g:∀(b:c7)(xs:List V),H7 b=O (.tup xs)->upd H7 S (.dT (vR c (pk x.2) (.ref sp.1))) b=O (.tup xs):=λb xs e=>by
       rw[zD (sr e eD7 (by intro z; cases z))];rwa[e]
      obtain⟨ks',Y,G,len'⟩:=R.put (H':=upd H7 S (.dT (vR c (pk x.2) (.ref sp.1)))) (x:=sp) (λu hu=>by rw[f6] at hu; subst hu; rwa[g _ _ esp7,hsp.2]) v4 g;rw[<- v3] at Y G;erw[λb o e n=>by rw[zD n]; exact kp b o e n,⟨_,ks',zA,Y,by lia,?_,λk=>?_⟩,_,rfl]
      ·rw[yZ I,e7];rcases dI.put_or R.tab Y.tab with e | e
       ·rw[e]; rwa[m.trans (CA _ _)]
       ·rw[e]; rwa[GK m (Hm _)]
      rw[G k,C k];erw[λz=>?_,λ⟨j,u,h1,h2,h3,h4⟩=>?_]
      ·rcases z with ⟨j,u,h1,h2⟩ | z
       ·rwa[j,u,by lia,h2]
       ·rwa[i,x,CK _,I,z.symm,by rw[z]; exact he]
      ·by_cases e:j=i
       ·rw[e,I] at h2;cases h2;rwa[.inr h3.symm]
       ·rwa[.inl ⟨j,u,by lia,h2,h3,h4⟩]
     ·erw[kp,⟨c,r,eD7,R,by lia,by rw[yZ I,e7]; exact m.trans (CA _ _),λk=>?_⟩,_,rfl];rw[C k];erw[λ⟨j,u,h1,h2⟩=>⟨j,u,by lia,h2⟩,λ⟨j,u,h1,h2,h3,h4⟩=>?_];by_cases e:j=i
      ·rw[e,I] at h2;cases h2;rw[h3] at he;rwa[y9 h4 he]
      ·rwa[j,u,by lia,h2,h3,h4]
   ·rintro N H7 ⟨kp,⟨c,r,eD7,R,hk2,m,C⟩,u5,rfl⟩;exists _,rfl;have n02:H S=none:=s02.free hd20;have same7:Same H H7:=λb o e=>kp _ _ (s26 _ _ (s02 _ _ e)) λz=>by rw[z,n02] at e; cases e
    have lu6:((us6.map (·.1)).map V.ref).length=us6.length:=by simp
    rw[lu6] at C;have in2:∀ k,k∈r↔k∈X/\(k.length:Int)=M:=λk=>by
     rw[C,mu6];erw[λ⟨j,u,h1,h2,h3,h4⟩=>⟨⟨u,f7 h2,h3⟩,h4⟩,λ⟨⟨u,h1,h2⟩,h3⟩=>?_];obtain⟨j,hj,ej⟩:=AV h1;rwa[j,u,hj,by rw[c8 hj,ej],h2,h3]
    erw[q S c r H7 same7 n02 eD7 R ⟨λz=>?_,λk hk P hP=>?_,λP hP hall=>?_⟩ ?_ ?_]
    ·have:=(in2 k0).mpr ⟨mk0,ek0⟩;rw[z] at this;cases this
    ·have z1:=((in2 k).mp hk).2;have z2:=m3 _ (all P hP);lia
    ·refine(in2 _).mpr ⟨all P hP,?_⟩;have z1:=hall k0 ((in2 k0).mpr ⟨mk0,ek0⟩);have z2:=m3 _ (all P hP);lia
    ·rw[lu6,j9] at m;erw[Go m ?_];rw[Cv];rwa[pw]
    ·rw[lu6] at hk2;rwa[f9 hk2 lu]
def qg(K:c5):Sp:=λe H Q _=>E2 λ(l:c7) (c:List Grp)=>A6 (e=[.ref l]) (SqL K H l (rK c)) (GrL H c) (c.length<=24) (∀ g∈c,g.2.length<=2) (∀(D:c7)(fs:List (c7×List Int))(d:Hp),Same H d->H D=JN->d D=O (.lst ((fs.map (·.1)).map V.ref))->(∀ t∈fs,d t.1=O (.lst (t.2.map V.int))/\H t.1=JN/\t.1≠D)->(∀ k∈fs.map (·.2),∃ P,zx (zX c) P/\k=db (c.map (·.2)) P)->UF c (fs.map (·.2))->(fs.map (·.2)).Nodup->(fs.map (·.2)).Pairwise (λa b=>HT.lexLt b a=JP)->fs.length<=9000->Q (.ref D) d)
def jj(F:Fun K "choices" "choices" qG f fd)(Z:Zs mg)(CB:Cb P w mg base)(yAg:Has P w K mg base "least_doubts" 7 ["groups"] (rN K)):yQ P w K mg base CX0 8 f fd ["groups"] (qg K):=by
 specialize iF
 ·obtain⟨l,gs,rfl,_⟩:=h;rfl
 obtain⟨l,gs,rfl,hl,ok,hn,h2,q⟩:=h
 refine'⟨_,(zF (zO (fR (T:=["choice"]) (caps:=[]) ⟨rfl,by ac_nf,by ac_nf,rfl,t5⟩ rfl ?_ (λ_=>(xO 0 (show(["choice"]:List j3).Nodup by ac_nf))) (λ_=>yH) (λ_=>?_)))),?_⟩
 nofun
 erw[_,rfl,l,gs,rfl,hl,ok,hn,h2,λd n M H1 I hd C G le pw lk=>?_];erw[d,n,rfl,C,λts X N cc D B=>?_];obtain⟨g,w1,w2,w3⟩:=G.tab.refs X N;have lt:ts.length=g.length:=by have z:=congrArg Aq w1; rw[b7,b7] at z; rwa[z.symm]
 have lu:g.length=M.length:=by have z:=congrArg Aq w2; (rw[b7] at z;assumption)
 have nDd:D≠d:=λz=>by rw[z,C] at B; cases B
 have v:tZ H1 d D=none:=rO B;refine li (λi x y p=>(∃ j:List (c7×List Int),A3 (y=(j.map (·.1)).map V.ref) (Rws (tZ H1 d) D j p) (j.map (·.2)=M.take i))/\∃ u:Option V,x=[u])
  ⟨⟨[],rfl,⟨zB v _,v,zA,(λt S=>nomatch S)⟩,rfl⟩,JN,rfl⟩ (λi x y p ⟨⟨j,e,R,_⟩,_⟩=>by rw[e]; rwa[R.at']) ?_ ?_
 ·rintro i t x y p gt ⟨⟨j,rfl,R,em⟩,u,rfl⟩;have hi:i<ts.length:=(d8.mp gt).1;have gu:g[i]?=O g[i]:=c8 (by lia);have e1:g[i].1=t.1:=by
   have z:=congrArg (λl:List c7=>l[i]?) w1;simp only[d9,gu,gt,AS] at z;rwa[t7 z]
  have ek:M[i]?=O g[i].2:=by
   have z:=congrArg (λl:List (List Int)=>l[i]?) w2;simp only[d9,gu,AS] at z;rwa[z.symm]
  have et:=w3 g[i] (Ag _);rw[e1] at et;have m:t.1≠d:=sr et C (by intro z; cases z);have Y:=R.same _ _ ((qH m).trans et);have lr:j.length=i:=by have z:=congrArg Aq em; rw[b7,i7] at z; lia
  erw[_,rfl,t.1,_,rfl,.inr (SqT.of Y),λc hc=>?_];have sc:=zB hc (.lst (g[i].2.map V.int));erw[sc _ _ R.at',vU (by simp only[b7]; lia),⟨_,by simp,R.app sc hc zA,?_⟩,_,rfl];rw[e7,em,yZ ek];rfl
 ·rintro x y p ⟨⟨j,rfl,R,em⟩,u,rfl⟩ r;rw[lt,lu,j9] at em;have L:∀{b:c7}{o:HO},p b=O o->upd p d (.dT n) b=O o:=λ{b o} e=>by
   rw[zD λz=>by rw[z,r] at e; cases e];rwa[e]
  have sB:Same H1 (upd p d (.dT n)):=λb o e=>by
   by_cases c:b=d
   ·subst c;rw[C] at e;cases e;rwa[zA]
   ·rwa[L (R.same _ _ ((qH c).trans e))]
  erw[q D j _ (I.trans sB) (I.free B) (L R.at') (λt S=>?_) (λk hk=>?_) (by rw[em]; rwa[le]) (by rw[em]; rwa[G.tab.nodup]) (by rw[em]; rwa[pw]) ?_]
  ·obtain⟨J,r2,r3⟩:=R.rows t S;have r4:=L J;erw[r4,?_,r3];have m:t.1≠d:=λz=>by rw[z,r] at J; cases J
   rw[qH m] at r2;rwa[I.free r2]
  ·rw[em] at hk;obtain⟨sp,_,_,e1,e2⟩:=G.spot k hk;rwa[_,e2,e1]
  ·have z:=congrArg Aq em;rw[b7] at z;lia
def vz(_:c5):Sp:=λg H Q _=>E4 λ(d:c7) (v:V) (S:BS) (D:Deed)=>A6 (g=[v,.ref d]) (Rep H D.dt v) (uw H d S) (rT S D) (∀ e∈S.marks,vt e.2) (∀(l:c7)(as:List c7)(c:Hp),Same H c->c l=O (.lst (as.map V.ref))->xG c as (vP S D)->Q (.ref l) c)
def lV(F:Fun K "sides_of" "sides_of" sS f fd)(Z:Zs mg)(CB:Cb P w mg base)(B:Has P w K mg base "range_side" 4 ["left","right"] (yk K))(C:Has P w K mg base "bearing_sides" 4 ["place","one","other"] (sC K)):yQ P w K mg base CX0 5 f fd ["note","places"] (vz K):=by
 specialize kC
 ·obtain⟨d,v,S,D,rfl,_⟩:=h;rfl
 obtain⟨d,v,S,D,rfl,rep,⟨j,hd,M⟩,R,N,q⟩:=h
 refine'⟨_,(zC (xI ?_ (zF (zO (wD C (hr.mono (by decide)) rfl (zI (zN (zZ hr) (pv 1) ?_ (λ_ _=>rfl)) (zI ?_ (zI ?_ zM)))))) yE)
   (zF (zO (bW (zI (wD B (hr.mono (by decide)) rfl (zI (zN (zZ hr) (pv 1) ?_ (λ_ _=>rfl)) (zI (zN (zZ hr) (pv 1) ?_ (λ_ _=>rfl)) zM))) zM))))),?_⟩
 nofun
 cases D with
 | bearing m n a b c e =>
  obtain⟨t,p1,p2,rfl,u,h1,h2⟩:=tH rep;obtain⟨_,_,hn,w1,w2⟩:=R;obtain⟨pt,g⟩:=j7.mp hn;obtain⟨pa,Y,X⟩:=M n pt g;obtain⟨n1,n2,n3,n4⟩:=wB N g;exists _,U,t,_,0,.str "bearing",U,U,.inr (SqT.of u),U,U,_,rfl;erw[pS ?_];have o:Sq K H t _:=.inr (SqT.of u);exists _,U,_,U,t,_,2,.str n,U,U,o,U,d,.ref pa,U,.inl ⟨j,.inr n,hd,U,Y.symm⟩,_,U,t,_,3,.ref p1,U,U,o,U,_,U,t,_,4,.ref p2,U,U,o,rfl;obtain⟨I,w11,w12,w13,w14⟩:=w1;obtain⟨G,w21,w22,w23,w24⟩:=w2;refine⟨pa,p1,p2,pt.1,pt.2,a,b,c,e,U,SqT.of X,SqT.of h1,SqT.of h2,(by lia),(by lia),(by dsimp only at *; lia),(by dsimp only at *; lia),(by dsimp only at *; lia),(by dsimp only at *; lia),?_,?_,λl p q' H' J e1 e2 e3=>?_⟩
  ·rcases Dn (a=0) with z | z
   ·rwa[.inr λx=>I (by rw[z,x])]
   ·rwa[.inl z]
  ·rcases Dn (c=0) with z | z
   ·rwa[.inr λx=>G (by rw[z,x])]
   ·rwa[.inl z]
  ·erw[q l [p,q'] H' J e1 ?_];show xG H' ([p]++[q']) ([_]++[_]);rw[xM g];exact(xG.one e2).app (.one e3)
 | range m l r =>
  obtain⟨t,rfl,u⟩:=xo rep;obtain⟨_,_,hl,T,ne⟩:=R;obtain⟨pt,g⟩:=j7.mp hl;obtain⟨y,i⟩:=j7.mp T;obtain⟨pa,Y,X⟩:=M l pt g;obtain⟨pb,g3,g4⟩:=M r y i;obtain⟨n1,n2,n3,n4⟩:=wB N g;obtain⟨n5,n6,n7,n8⟩:=wB N i;exists _,U,t,_,0,.str "range",U,U,.inr (SqT.of u),U,U,_,rfl;erw[uY ?_];have o:Sq K H t _:=.inr (SqT.of u);exists _,U,_,U,t,_,2,.str l,U,U,o,U,d,.ref pa,U,.inl ⟨j,.inr l,hd,U,Y.symm⟩,_,U,_,U,t,_,3,.str r,U,U,o,U,d,.ref pb,U,.inl ⟨j,.inr r,hd,U,g3.symm⟩;erw[pa,pb,pt.1,pt.2,y.1,y.2,rfl,.inr (SqT.of X),.inr (SqT.of g4),(by lia),(by lia),(by lia),(by lia),?_,λp H' J hp' e1=>⟨sz1,λL hL=>?_⟩]
  ·rcases Dn (pt.2-y.2=0) with z | z
   ·erw[.inr λx=>ne ?_];rw[g,i];rwa[congrArg O (G8 (by lia) (by lia))]
   ·rwa[.inl z]
  ·have sL:=zB hL (.lst [.ref p]);erw[q L [p] _ (J.trans sL) zA ?_];show xG _ [p] [_];rw[xM g,xM i];exact(xG.one e1).to (.of sL)
 | _=>rwa[R.elim]
def mQ(_:c5):Sp:=λc H Q _=>∃(n:Int),c=[.int n]/\∀ v:Int,0<=v->v<1000003->Q (.int v) H
def cH(F:Fun K "_law_power" "_law_power" va f fd)(Z:Zs mg):yQ P w K mg base CX0 1 f fd ["_law_number"] (mQ K):=by
 specialize cT
 ·obtain⟨n,rfl,_⟩:=h;rfl
 obtain⟨n,rfl,q⟩:=h
 refine'⟨_,(zF (zO ?_)),?_⟩
 nofun
 have h1:=Al n (show(1000003:Int)≠0 by decide);have h2:=x8 n (show(0:Int)<1000003 by decide);exists _,U,_,_,U,U,(by show(0:Int)<1000003; decide),_,_,rfl,rfl,⟨by decide,by decide,by lia⟩,_,_,rfl,rfl,(by show(0:Int)<1000003; decide);rwa[q _ (Al _ (by decide)) (x8 _ (by decide))]
def lC(K:c5):Sp:=λe H Q _=>E3 λ(a:c7) (ns:List Int) (c:Int)=>A6 (e=[.ref a,.int c]) (SqL K H a (ns.map V.int)) (ns.length<=63) (0<=c) (c<=500) (∀(r:c7)(rows:List Int)(d:Hp),Same H d->H r=JN->d r=O (.lst (rows.map V.int))->c<=rows.length->rows.length<=600->(∀ x∈rows,0<=x/\x<1000003)->Q (.ref r) d)
structure oI(H:Hp)(r c:c7)(ms:List Int)(H':Hp)(rows:List Int):Prop where
 same:Same H H'
 src:H' c=O (.lst (ms.map V.int))
 at':H' r=O (.lst (rows.map V.int))
 bd:∀ x∈rows,0<=x/\x<1000003
def oI.app{H i:Hp}{r c:c7}{h rows:List Int}{v:Int}(d:oI H r c h i rows)(l:H r=JN)(g:c≠r)(h0:0<=v)(h1:v<1000003):oI H r c h (upd i r (.lst (rows.map V.int++[.int v]))) (rows++[v]):=by
 erw[λb o e=>?_,?_,?_,λx j=>?_]
 ·rw[zD (zG e l)];rwa[d.same b o e]
 ·rw[zD g];rwa[d.src]
 ·rw[zA,e7];rfl
 ·rcases l7.mp j with e | e
  ·rwa[d.bd x e]
  ·rw[f6] at e;rw[e];rwa[h0,h1]
def cutR{ok:Int->Hp->Prop}{G:Prop}{R:Int->Hp->Prop}(h1:(∀ m H,ok m H->R m H)->G)(h2:∀ m H,ok m H->R m H):G:=h1 h2
def cN(F:Fun K "_law_draws" "_law_draws" wc f fd)(Z:Zs mg)(CB:Cb P w mg base)(yBz:Has P w K mg base "_law_power" 1 ["_law_number"] (mQ K)):yQ P w K mg base CX0 2 f fd ["_law_script","_law_many"] (lC K):=by
 specialize wG
 ·obtain⟨a,ns,g,rfl,_⟩:=h;rfl
 obtain⟨a,ns,g,rfl,hS,hl,hm0,hm1,q⟩:=h
 refine'⟨_,(zC (zU 2 wG.nd ?_)
   (zC (zU 3 wG.nd wP)
   (zC (xX t9 rfl (gS ?_) (xO 4 wG.nd) (zC (zU 3 wG.nd ?_)
   (zC (zU 5 wG.nd ?_)
   (zC (xI ?_ (zC (zW (zu (pv 2) ?_))
   (zF (zU 5 wG.nd wP))) yE)
   (zF (pN t9 ?_ (zC (zW (zu (pv 2) ?_))
   (zF (zU 5 wG.nd ?_)))))))))
   (zC (pN t9 ?_ (zC (zU 3 wG.nd ?_)
   (zF (zW (zu (pv 2) ?_)))))
   (zF (zO (pv 2))))))),?_⟩
 nofun
 refine⟨sz0,λr p=>?_⟩;have S1:=zB p (.lst []);refine⟨_,U,_,U,a,_,U,S1.seq hS,λc Y=>⟨c,U,⟨_,SqL.of zA⟩,?_⟩⟩;rw[yo];generalize hms:((ns.drop (HT.sIx ns.length 0 JN)).take (HT.sIx ns.length ns.length (O 63)-HT.sIx ns.length 0 JN))=R;have hml:R.length<=63:=by
  rw[<- hms,i7,x5];lia
 have B:c≠r:=λe=>by
  rw[e,zA] at Y;cases Y
 have hc0:H c=none:=S1.free Y;refine xK (K:=K) (a:=c) (xs:=R.map V.int) (λi o G=>E4 λ(rows:List Int) (j:Int) (u v:Option V)=>A5 (o=[O (.ref a),O (.int g),O (.ref r),O (.int j),u,v]) (oI H r c R G rows) (0<=j) (j<2147483647) (rows.length<=g.toNat+i))
  ⟨[],7,JN,JN,rfl,⟨S1.trans (zB Y _),zA,by rw[zD (AR B),zA]; rfl,λx hx=>nomatch hx⟩,by decide,by decide,m7 _⟩ (λi o G _ hq'=>by obtain⟨_,_,_,_,_,d,_⟩:=hq'; rwa[SqL.of d.src]) ?_ ?_
 ·rintro i x o G hi ⟨rows,j,u,v,rfl,d,J,I,L⟩;obtain⟨n,hn,rfl⟩:=xS hi;have hi63:i<63:=j5 (d8.mp hn).1 hml;exists _,U,_,_,U,U,.inr ⟨by decide,by decide⟩,_,U,_,_,U,U,_,_,U,U,(by show(0:Int)<2147483647; decide);have X:=Al (j*48271+n) (show(2147483647:Int)≠0 by decide);have T:=x8 (j*48271+n) (show(0:Int)<2147483647 by decide);exists _,U,n,rfl;have a0:0<=(if n<0 then -n else n):=by split <;> lia
  generalize (if n<0 then -n else n)=rest at a0 ⊢;revert G rest;apply cutR (ok:=λrest C=>0<=rest/\∃ rows,oI H r c R C rows/\rows.length<=g.toNat+(i+1))
  ·intro D G d rest a0;exists _,U,_,_,U,U,⟨by decide,by decide,by decide⟩,_,_,U,U,_,rfl;erw[ifD (λhsm=>?_) (λhsm=>?_)];rotate_left
   ·rwa[D rest G ⟨a0,rows,d,by lia⟩]
   ·erw[_,rfl,.inl ⟨rfl,_,SqL.of d.at'⟩,_,rfl,_,rfl,r,_,rfl,.inl (SqL.of d.at'),_,_,rfl,rfl,.inl ⟨by decide,by decide⟩,_,_,rfl,rfl,_,rfl,λv N M=>?_];exists r,_,_,U,U,d.at',zL (by rw[b7]; lia);rwa[D 0 _ ⟨Dg 0,_,d.app p B N M,by rw[f8,AW]; lia⟩]
  clear L rows;rintro rest G ⟨j0,rows,j1,j2⟩;refine uk (λo C=>E2 λ(rows:List Int) (rest:Int)=>A4 (o=[O (.ref a),O (.int g),O (.ref r),O (.int ((j*48271+n)%2147483647)),O (.int n),O (.int rest)]) (0<=rest) (oI H r c R C rows) (rows.length<=g.toNat+(i+1)))
   (λo _=>match o with | [_,_,_,_,_,O (.int z)]=>z.toNat | _=>0) ⟨_,_,rfl,j0,j1,j2⟩ ?_ (Sw (gR (Uv Vz iz mo_c)) (gR (Uv Vz (UX Wq (Zh iz Wj)) iz)))
  rintro o C ⟨rows,rest,rfl,r0,m,l2⟩;exists _,U,_,_,U,U,_,rfl;erw[ifD (λS=>?_) (λS=>?_)]
  ·exists _,U,r,_,U,.inl (SqL.of m.at'),_,U,_,_,U,U,_,rfl;erw[ifD (λy=>?_) (λy=>?_)]
   ·have l:((rows.map V.int).length:Int)<g:=y;rw[b7] at l;exists _,U,.inl ⟨U,_,SqL.of m.at'⟩,_,U,_,_,U,U,(by show(0:Int)<1000003; decide),r,_,_,rfl,rfl,m.at',zL (by rw[b7]; lia);have N:=Al rest (show(1000003:Int)≠0 by decide);have M:=x8 rest (show(0:Int)<1000003 by decide);exists _,U,_,_,U,U,yy.of (by decide) (by ac_nf),⟨rows++[rest%1000003],_,U,by lia,m.app p B N M,by rw[f8,AW]; lia⟩;show(rest/1000003).toNat<rest.toNat;lia
   ·rwa[rows,_,_,_,rfl,m,X,T,l2]
  ·rwa[rows,_,_,_,rfl,m,X,T,l2]
 ·rintro o G ⟨rows,j,u,v,rfl,d,J,I,L⟩;rw[b7] at L;refine uk (λo C=>E2 λ(rows:List Int) (j:Int)=>A6 (o=[O (.ref a),O (.int g),O (.ref r),O (.int j),u,v]) (oI H r c R C rows) (0<=j) (j<2147483647) (rows.length<=g.toNat+63) (C r=O (.lst (rows.map V.int))))
   (λo C=>match C r with | some (.lst xs)=>g.toNat-xs.length | _=>0) ⟨rows,j,rfl,d,J,I,by lia,d.at'⟩ ?_ (gR (Uv Vz (UX Wq (Zh iz Wj)) iz))
  rintro o C ⟨rows,j,rfl,m,J,I,l2,ha2⟩;exists _,U,r,_,U,.inl (SqL.of m.at'),_,U,_,_,U,U,_,rfl;erw[ifD (λy=>?_) (λy=>?_)]
  ·have l:((rows.map V.int).length:Int)<g:=y;rw[b7] at l;exists _,U,_,_,U,U,.inr ⟨by decide,by decide⟩,_,_,U,U,_,_,U,U,(by show(0:Int)<2147483647; decide);have X:=Al (j*48271+11) (show(2147483647:Int)≠0 by decide);have T:=x8 (j*48271+11) (show(0:Int)<2147483647 by decide);erw[_,rfl,.inl ⟨rfl,_,SqL.of m.at'⟩,_,rfl,_,rfl,λv N M=>?_];exists r,_,_,U,U,m.at',zL (by rw[b7]; lia),⟨rows++[v],_,rfl,m.app p B N M,X,T,by rw[f8,AW]; lia,(m.app p B N M).at'⟩;rw[ha2,zA];show g.toNat-(rows.map V.int++[V.int v]).length<g.toNat-(rows.map V.int).length;rw[f8,b7,AW];lia
  ·have l:¬ ((rows.map V.int).length:Int)<g:=y;rw[b7] at l;rwa[_,rfl,q r rows C m.same p m.at' (by lia) (by lia) m.bd]
def jq(_:c5):Sp:=λe H Q _=>e=[]/\∀(d m b r n:c7)(c:Hp),Same H c->H d=JN->H m=JN->H r=JN->c d=O (.dK (lwK m b r n 1))->c m=O (.dK [])->c b=O (.dK [])->c r=O (.lst [])->c n=O (.dK [])->b≠m->n≠m->Q (.ref d) c
def Yv(F:Fun K "_law_new" "_law_new" jz f fd)(Z:Zs mg)(L:Cb P w mg base)  : yQ P w K mg base CX0 1 f fd [] (jq K):=by
 specialize Xa
 ·obtain⟨rfl,_⟩:=h;rfl
 obtain⟨rfl,q⟩:=h
 refine'⟨_,zF ?h,?_⟩
 rotate_left
 with_reducible refine' zO ?_
 rotate_left
 with_reducible exact gT (wF zS sI (wF zS sI (wF zS (bW zM) (wF zS sI (wF zS wP fF))))) rfl rfl (λz=>nomatch z) (by decide)
 try dsimp only[L2.cxOf]
 intro p v m B b l;erw[sz0,λr hr n y=>?_];have u:=zB v (.dK []);have i:=zB B (.dK []);have d:=zB l (.dK []);have g:=zB hr (.lst []);have j:=zB y (.dK []);have em:=(d.trans (g.trans j)) _ _ zA;have J:=(g.trans j) _ _ zA;have G:=j _ _ zA;have I:=(i.trans (d.trans (g.trans j))) _ _ zA;exists I,[(.inr "marks",.ref m),(.inr "banks",.ref b),(.inr "runs",.ref r),(.inr "notes",.ref n),(.inr "next",.int 1)],U,(show 5<=15 by decide);rw[Xk];have ne:∀{x:c7},(upd H p (.dK [])) x=JN->x≠p:=λ{x} h z=>by rw[z,zA] at h; cases h
 have nb:=ne (i.free l);have C:=ne (i.free (d.free hr));have D:=ne (i.free (d.free (g.free y)));refine q p m b r n _ (λc o e=>?_) v (u.free B) (u.free (i.free (d.free hr))) zA ?_ ?_ ?_ ?_ (λz=>by rw[z,zA] at l; cases l) (λz=>by have:=d.free (g.free y); rw[z,zA] at this; cases this)
 ·rw[zD (zG e v)];exact(u.trans (i.trans (d.trans (g.trans j)))) c o e
 ·rw[zD (ne B)]; rwa[em]
 ·rw[zD nb]; rwa[J]
 ·rw[zD C]; rwa[G]
 ·rw[zD D]; rwa[zA]
def nP(_:c5):Sp:=λe H Q _=>E4 λ(d:c7) (S:BS) (i j:Nat)=>A6 (e=[.ref d,.int i,.int j]) (ZU H d S) (i<=S.runs.length) (j<=S.runs.length) (S.runs.length<=60) (∀(t:c7)(c:Hp),Same H c->H t=JN->c t=O (.tup [.int (uF S.runs i j).1,.int (uF S.runs i j).2])->Q (.ref t) c)
def bE(F:Fun K "_law_lead" "_law_lead" pQ f fd)(Z:Zs mg)(CB:Cb P w mg base)  : yQ P w K mg base CX0 1 f fd ["_law_m","_law_one","_law_other"] (nP K):=by
 specialize mm
 ·obtain⟨d,S,i,j,rfl,_⟩:=h;rfl
 obtain⟨d,S,l,g,rfl,⟨m,b,r,n,lw⟩,hi,hj,few,k⟩:=h;obtain⟨L,hr1,rep⟩:=lw.ru;have lrs:L.length=S.runs.length:=by rw[rep.length,b7]
 refine'⟨_,(zC (zU 3 mm.nd (tG Zq (zN (zZ hr) (pv 0) zS (λ_ _=>rfl)) (sX ?_) (sX ?_)))
   (zC (zU 4 mm.nd ?_)
   (zF (zO (jY (zI (qC jZ (pv 4) (yG (yt rfl) rfl Z.sum ie (zI (yO (T:=["_law_x","_law_y"]) (caps:=[]) ⟨rfl,by ac_nf,by ac_nf,rfl,t5⟩ rfl (yT (pv 3)) (λ_=>(uX rfl (zQ (xO 0 (show(["_law_x","_law_y"]:List j3).Nodup by ac_nf)) (zQ (xO 1 (show(["_law_x","_law_y"]:List j3).Nodup by ac_nf)) xU)))) (λ_=>yH) (λ_=>(pv 0))) zM))) (zI (qC jZ (pv 4) (yG (yt rfl) rfl Z.sum ie (zI (yO (T:=["_law_x","_law_y"]) (caps:=[]) ⟨rfl,by ac_nf,by ac_nf,rfl,t5⟩ rfl (yT (pv 3)) (λ_=>(uX rfl (zQ (xO 0 (show(["_law_x","_law_y"]:List j3).Nodup by ac_nf)) (zQ (xO 1 (show(["_law_x","_law_y"]:List j3).Nodup by ac_nf)) xU)))) (λ_=>yH) (λ_=>(pv 1))) zM))) zM))))))),?_⟩
 nofun
 erw[_,rfl,d,.ref r,rfl,.inl ⟨_,.inr "runs",lw.at_,rfl,ua.symm⟩,_,rfl,_,rfl,_,_,rfl,_,rfl,_,rfl,_,rfl,_,_,rfl,_,rfl,r,L,rfl,SqL.of hr1,λq hq=>?_];have e1:(if (g:Int)<l then(g:Int) else l)=((min l g:Nat):Int):=by split <;> lia
 have e2:(if (g:Int)>l then(g:Int) else l)=((max l g:Nat):Int):=by split <;> lia
 have ec:qy L (O (if (g:Int)<l then(g:Int) else l)) (O (if (g:Int)>l then(g:Int) else l))=(L.drop (min l g)).take (max l g-min l g):=by
  rw[e1,e2,eK (by lia) (by lia)]
 generalize hcs:qy L (O (if (g:Int)<l then(g:Int) else l)) (O (if (g:Int)>l then(g:Int) else l))=G at hq;have sq:=zB hq (.lst G);have rc:xT (upd H q (.lst G)) ((qZ S.runs l g).map ptD) G:=by
  have ecs:G=(L.drop (min l g)).take (max l g-min l g):=hcs.symm.trans ec;have:=((rep.drop (min l g)).take (max l g-min l g)).to (.of sq);rw[<- ecs,<- FH,<- Ek] at this;rwa[this]
 have ls:=vp S.runs l g;have N:(1:Int)-2*(if decide ((g:Int)<l) then 1 else 0)=tX l g:=by
  unfold tX;by_cases c:g<l
  ·rw[y6 c,y6 (y7 (by lia))]; rfl
  ·rw[y4 c,y4 (by simp; lia)]; rfl
 refine⟨_,U,_,U,_,_,U,U,.inr ⟨_,U,_,_,U,U,vC (by decide),_,_,U,U,?_⟩⟩;show cX 4 (V.int (1-2*if decide ((g:Int)<l)=JO then 1 else 0)) _ _ _;rw[N];have cmh:∀ y:Int,Ur (tX l g) y:=λy=>vC (by unfold tX; split <;> decide);refine⟨_,U,_,U,q,U,.inl ⟨⟨_,SqL.of zA⟩,λc D R=>?_⟩⟩;refine yI (K:=K) (a:=q) (xs:=G) (λi B z I=>A4 (Same (upd H q (.lst G)) I) (I D=O (.lst z)) (z=(((qZ S.runs l g).take i).map (·.1)).map V.int) (E2 λ(u v:Option V)=>B=[u,v]))
  ⟨zB R _,zA,rfl,JN,JN,rfl⟩ (λi B z I _ J=>by obtain⟨C,e,_⟩:=J; rwa[SqL.of (C _ _ zA),e]) ?_ ?_
 ·rintro i x B z I hi ⟨C,eD,rfl,u,v,rfl⟩;obtain⟨p,a,X,rfl,ea⟩:=kO rc hi;have hil:=(d8.mp X).1;erw[a,_,rfl,SqT.of (C _ _ ea),rfl,.int p.1,_,rfl,.int p.2,_,rfl,rfl,_,rfl,eD,zL (by rw[b7,b7,i7]; lia),C.putNew R,zA,?_,_,_,rfl];rw[x6,X,e7,e7];rfl
 rintro B z H2 ⟨s2,eD,rfl,u,v,rfl⟩;exists D,_,U,SqL.of eD,_,_,U,U,cmh _;have Y:=s2 _ _ (zA (H:=H) (a:=q) (o:=.lst G));have rc2:=rc.to (.of s2);refine⟨_,U,_,U,q,U,.inl ⟨⟨_,SqL.of Y⟩,λc D R=>?_⟩⟩;refine yI (K:=K) (a:=q) (xs:=G) (λi B z I=>A4 (Same H2 I) (I D=O (.lst z)) (z=(((qZ S.runs l g).take i).map (·.2)).map V.int) (E2 λ(u v:Option V)=>B=[u,v]))
  ⟨zB R _,zA,rfl,JN,JN,rfl⟩ (λi B z I _ J=>by obtain⟨C,e,_⟩:=J; rwa[SqL.of (C _ _ Y),e]) ?_ ?_
 ·rintro i x B z I hi ⟨C,eD,rfl,u,v,rfl⟩;obtain⟨p,a,X,rfl,ea⟩:=kO rc2 hi;have hil:=(d8.mp X).1;erw[a,_,rfl,SqT.of (C _ _ ea),rfl,.int p.1,_,rfl,.int p.2,_,rfl,rfl,_,rfl,eD,zL (by rw[b7,b7,i7]; lia),C.putNew R,zA,?_,_,_,rfl];rw[x6,X,e7,e7];rfl
 rintro B z H3 ⟨s3,eD3,rfl,u,v,rfl⟩;erw[D,_,rfl,SqL.of eD3,_,_,rfl,rfl,cmh _,sz2,λt ht=>?_];have M:=s2.trans s3;erw[k t _ ((sq.trans M).trans (zB ht _)) (sq.free (M.free ht)) ?_];rw[zA,show G.length=(qZ S.runs l g).length by rw[rc.length,b7],j9];rfl
def eP(_:c5):Sp:=λe H Q _=>E3 λ(o t c:Int)=>A4 (e=[.int o,.int t,.int c]) (1<=c) (c<=1000000) (∀(p:c7)(x y:Int)(d:Hp),Same H d->H p=JN->d p=O (.tup [.int x,.int y])->(x≠0\/y≠0)->x.natAbs<=c.natAbs->y.natAbs<=c.natAbs->Q (.ref p) d)
def ZX(F:Fun K "_law_way" "_law_way" kL f fd)(Z:Zs mg)(r:Cb P w mg base)  : yQ P w K mg base CX0 1 f fd ["_law_one","_law_two","_law_wide"] (eP K):=by
 specialize oz
 ·obtain⟨o,t,d,rfl,_⟩:=h;rfl
 obtain⟨o,t,d,rfl,w1,n,q⟩:=h
 refine'⟨_,(zC (zU 3 oz.nd ?_)
   (zC (zU 4 oz.nd ?_)
   (zC (xI ?_ (zF (zU 3 oz.nd ?_)) yE)
   (zF (zO ?_))))),?_⟩
 nofun
 have m:=Al o (show 2*d+1≠0 by lia);have l:=x8 o (show 0<2*d+1 by lia);have j:=Al t (show 2*d+1≠0 by lia);have i:=x8 t (show 0<2*d+1 by lia);exists _,U,_,U,_,_,U,U,.inl ⟨by decide,by decide⟩,_,_,U,U,_,_,U,U,(by show 0<2*d+1; lia),_,rfl,_,_,rfl,rfl;exists _,U,_,U,_,_,U,U,.inl ⟨by decide,by decide⟩,_,_,U,U,_,_,U,U,(by show 0<2*d+1; lia),_,rfl,_,_,rfl,rfl;exists _,U,U,_,rfl;erw[ifE (λg=>?_) (λg=>?_)]
 ·exists _,U,U,_,rfl;erw[ifE (λe=>?_) (λe=>?_)]
  ·exists _,U,_,_,U,U,gt2,_,_,U,U,.inl ⟨by decide,by decide⟩,_,_,U,rfl;erw[_,rfl,_,rfl,sz2,λp c=>?_];rwa[q p _ _ _ (zB c _) c zA (by left; lia) (by lia) (by lia)]
  ·erw[_,rfl,_,rfl,sz2,λp c=>?_];rwa[q p _ _ _ (zB c _) c zA (.inr e) (by lia) (by lia)]
 ·erw[uY ?_];erw[_,rfl,_,rfl,sz2,λp c=>?_];rwa[q p _ _ _ (zB c _) c zA (.inl g) (by lia) (by lia)]
def wn(K:c5):Sp:=λj H Q _=>E8 λ(a b:c7) (g e:List V) (d c i h:Int)=>A10 (j=[.ref a,.ref b]) (Sq K H a g) (Sq K H b e) (atI g 0=O (.int d)) (atI g 1=O (.int c)) (atI e 0=O (.int i)) (atI e 1=O (.int h)) (d.natAbs<=10^18) (c.natAbs<=10^18) (Q (.int (d*h-c*i)) H)
def fE(F:Fun K "_law_turned" "_law_turned" xz f fd)(Z:Zs mg)(v:Cb P w mg base)  : yQ P w K mg base CX0 1 f fd ["_law_one","_law_other"] (wn K):=by
 specialize fJ
 ·obtain⟨a,b,n,l,g,d,e,c,rfl,_⟩:=h;rfl
 obtain⟨a,b,n,l,g,d,e,c,rfl,j,i,p,o,m,w1,u,r,q⟩:=h
 refine'⟨_,(zF (zO ?_)),?_⟩
 nofun
 exact⟨_,U,a,_,_,.int g,U,U,j,p,_,U,b,_,_,.int c,U,U,i,w1,_,_,U,U,vC (by lia),
  _,rfl,a,_,_,.int d,rfl,rfl,j,o,_,rfl,b,_,_,.int e,rfl,rfl,i,m,_,_,rfl,rfl,vC (by lia),_,_,rfl,rfl,q⟩
def wz(K:c5):Sp:=λj H Q _=>E3 λ(a:c7) (rows:List Int) (d:Int)=>A7 (j=[.ref a,.int d]) (SqL K H a (rows.map V.int)) (5<=rows.length) (∀ x∈rows,0<=x/\x<1000003) (1<=d) (d<=100) (∀(t p r:c7)(i h g e:Int)(c:Hp),Same H c->c t=O (.tup [.ref p,.ref r])->c p=O (.tup [.int i,.int h])->c r=O (.tup [.int g,.int e])->0<i*e-h*g->i.natAbs<=100->h.natAbs<=100->g.natAbs<=100->e.natAbs<=100->Q (.ref t) c)
def mC(F:Fun K "_law_left_pair" "_law_left_pair" tF f fd)(Z:Zs mg)(CB:Cb P w mg base)(yBu:Has P w K mg base "_law_turned" 1 ["_law_one","_law_other"] (wn K))(yCn:Has P w K mg base "_law_way" 1 ["_law_one","_law_two","_law_wide"] (eP K)):yQ P w K mg base CX0 2 f fd ["_law_d","_law_wide"] (wz K):=by
 specialize xR
 ·obtain⟨a,rows,L,rfl,_⟩:=h;rfl
 obtain⟨a,rows,L,rfl,B,S,bd,w1,M,q⟩:=h
 refine'⟨_,(zC (zU 2 xR.nd ?_)
   (zC (zU 3 xR.nd ?_)
   (zC (xI ?_ (zF (zU 3 xR.nd ?_)) yE)
   (zC (xI ?_ (zF (mZ (i:=2) (j:=3) rfl xR.nd rfl rfl (by decide) rfl rfl (zI (pv 3) (zI (pv 2) zM)) rfl)) yE)
   (zC (xI ?_ (zF (zU 3 xR.nd ?_)) yE)
   (zF (zO ?_))))))),?_⟩
 nofun
 obtain⟨v0,a0,_⟩:=wS bd (k:=0) (by decide) (by lia);obtain⟨v1,a1,_⟩:=wS bd (k:=1) (by decide) (by lia);obtain⟨v2,a2,_⟩:=wS bd (k:=2) (by decide) (by lia);obtain⟨v3,a3,_⟩:=wS bd (k:=3) (by decide) (by lia);obtain⟨v4,a4,_⟩:=wS bd (k:=4) (by decide) (by lia);erw[_,rfl,a,_,_,_,rfl,rfl,.inl B,a0,_,rfl,a,_,_,_,rfl,rfl,.inl B,a1,_,rfl,v0,v1,L,rfl,w1,by lia,λp1 g e H2 R hp1 e1' n1 m1 m2=>?_];have m:g.natAbs<=100:=by lia
 have l:e.natAbs<=100:=by lia
 clear m1 m2;apply cut4 (ok:=λc X Y G=>A5 (Same H G) (G p1=O (.tup [.int g,.int e])) (G c=O (.tup [.int X,.int Y])) (X.natAbs<=100) (Y.natAbs<=100))
 ·intro o;erw[_,rfl,a,_,_,_,rfl,rfl,.inl (R.seq B),a2,_,rfl,a,_,_,_,rfl,rfl,.inl (R.seq B),a3,_,rfl,v2,v3,L,rfl,w1,by lia,λp2 x2 y2 H3 s3 hp2 e3 n2 m3 m4=>?_];have p:=R.trans s3;have n:=s3 _ _ e1';exists _,U,a,_,_,_,U,U,.inl (p.seq B),a4,_,_,U,U,gt4,U,_,rfl;erw[ifE (λ_=>?_) (λ_=>?_)];rotate_left
  ·rwa[o p2 x2 y2 H3 ⟨p,n,e3,by lia,by lia⟩]
  ·erw[_,rfl,p1,_,_,.int e,rfl,rfl,.inr (SqT.of n),rfl,_,rfl,_,rfl,p1,_,_,.int g,rfl,rfl,.inr (SqT.of n),rfl,sz2,λd hd=>?_];have v:=zB hd (.tup [.int (-e),.int g]);rwa[o d (-e) g _ ⟨p.trans v,v _ _ n,zA,by rw[Gu]; exact l,m⟩]
 rintro c X Y G ⟨N,J,e2,u,r⟩;have C:Sq K G p1 [.int g,.int e]:=.inr (SqT.of J);have T:Sq K G c [.int X,.int Y]:=.inr (SqT.of e2);have I:g.natAbs<=10^18:=f9 m (by decide);have D:e.natAbs<=10^18:=f9 l (by decide);exists _,U,_,U,p1,c,_,_,g,e,X,Y,U,C,T,U,U,U,U,I,D,_,_,U,U,_,rfl;have eT:X*e-Y*g = -(g*Y-e*X):=by rw[Aa X e,Aa Y g]; lia
 erw[ifD (λy=>?_) (λy=>?_)]
 ·exists _,U,_,U,_,_,rfl;exists _,U,_,U,c,p1,_,_,X,Y,g,e,U,T,C,U,U,U,U,f9 u (by decide),f9 r (by decide),U,_,rfl;erw[ifE (λz=>y9 z (by clear m l u r I D w1 M S; lia)) (λ_=>?_)];erw[_,rfl,_,rfl,sz2,λt x=>?_];have st:=zB x (.tup [.ref c,.ref p1]);rwa[q t c p1 X Y g e _ ((N).trans st) zA (st _ _ e2) (st _ _ J) (by clear m l u r I D w1 M S; lia) u r m l]
 ·exists _,U,_,U,p1,c,_,_,g,e,X,Y,U,C,T,U,U,U,U,I,D,U,_,rfl;erw[ifE (λhz=>?_) (λhz=>?_)]
  ·erw[_,rfl,p1,_,_,.int e,rfl,rfl,C,rfl,_,rfl,_,rfl,p1,_,_,.int g,rfl,rfl,C,rfl,sz2,λd hd=>?_];have v:=zB hd (.tup [.int (-e),.int g]);erw[_,rfl,_,rfl,sz2,λt x=>?_];have st:=zB x (.tup [.ref p1,.ref d]);have sp:=XR n1;rwa[q t p1 d g e (-e) g _ (N.trans (v.trans st)) zA (st _ _ (v _ _ J)) (st _ _ zA) (by rw[Fo]; lia) m l (by rw[Gu]; exact l) m]
  ·erw[_,rfl,_,rfl,sz2,λt x=>?_];have st:=zB x (.tup [.ref p1,.ref c]);rwa[q t p1 c g e X Y _ (N.trans st) zA (st _ _ J) (st _ _ e2) (by clear m l u r I D w1 M S; lia) m l u r]
def rB(_:c5):Sp:=λi H Q _=>E9 λ(a d:c7) (rows:List Int) (S:BS) (g:Nat) (n:j3) (x y:Int) (pt:Int×Int)=>A12 (i=[.ref a,.ref d,.int g,.str n,.int x,.int y]) (H a=O (.lst (rows.map V.int))) (8<=rows.length) (∀ v∈rows,0<=v/\v<1000003) (ZU H d S) (g<=S.runs.length) (S.runs.length<=3) (∀ e∈S.runs,e.1.natAbs<=4/\e.2.natAbs<=4) (zT S n=O pt) ((pt.1-x).natAbs<=10) ((pt.2-y).natAbs<=10) (∀(v:V)(a b c e:Int)(h:Hp),Same H h->Rep h (Deed.bearing g n a b c e).dt v->vf (a,b)->vf (c,e)->0<a*e-b*c->Q v h)
def qz(F:Fun K "_law_true_bearing" "_law_true_bearing" uA f fd)(Z:Zs mg)(CB:Cb P w mg base)(yBc:Has P w K mg base "_law_left_pair" 2 ["_law_d","_law_wide"] (wz K))(yCk:Has P w K mg base "_law_lead" 1 ["_law_m","_law_one","_law_other"] (nP K)):yQ P w K mg base CX0 3 f fd ["_law_d","_law_m","_law_moment","_law_mark","_law_x","_law_y"] (rB K):=by
 specialize yF
 ·obtain⟨a,d,rows,S,p,n,x,y,pt,rfl,_⟩:=h;rfl
 obtain⟨a,d,rows,S,p,n,x,y,pt,rfl,ha,l8,bd,X,hmo,l3,rb,hpt,hx,hy,q⟩:=h;obtain⟨m,b,r,nn,lw⟩:=id X;obtain⟨v2,a2,_⟩:=wS bd (k:=2) (by decide) (by lia);obtain⟨v3,a3,_⟩:=wS bd (k:=3) (by decide) (by lia)
 refine'⟨_,(zC (wr ?_ (uX rfl (zQ (xO 6 yF.nd) (zQ (xO 7 yF.nd) xU))))
   (zC (wr (zN (zZ hr) (zN (zZ hr) (pv 1) zS (λ_ _=>rfl)) (pv 3) (λ_ _=>rfl)) (uX rfl (zQ (xO 8 yF.nd) (zQ (xO 9 yF.nd) xU))))
   (zC (mZ (i:=8) (j:=9) rfl yF.nd rfl rfl (by decide) rfl rfl ?_ rfl)
   (zC (zU 10 yF.nd ?_)
   (zC (xI ?_ (zC (wr ?_ (uX rfl (zQ (xO 11 yF.nd) (zQ (xO 12 yF.nd) xU))))
   (zF (zO ?_))) yE)
   (zF (zO ?_))))))),?_⟩
 nofun
 erw[_,rfl,_,rfl,d,S,0,p,rfl,X,(by lia),hmo,(by lia),λt H1 B ht et=>?_];have lb:(uF S.runs 0 p).1.natAbs<=12/\(uF S.runs 0 p).2.natAbs<=12:=ca l3 rb;generalize uF S.runs 0 p=ld at et lb;obtain⟨kvs,pa,hm,g1,g2⟩:=tS (lw.ma.to (.of B)) hpt;exists t,_,U,SqT.of et,U,.int ld.1,_,U,.int ld.2,_,U,rfl;exists _,U,d,.ref m,U,.inl ⟨_,.inr "marks",Rd.same lw.at_ B,U,vH.symm⟩,_,U,m,.ref pa,U,.inl ⟨kvs,.inr n,hm,U,g1.symm⟩,pa,_,U,SqT.of g2,U,.int pt.1,_,U,.int pt.2,_,U,rfl;exists _,U,_,U,_,_,U,U,_,U,_,_,U,U,_,U,_,U,_,_,U,U,_,U,_,_,U,U,_,_,rfl;have bP:(pt.1-x-ld.1).natAbs<=22:=by lia
 have bQ:(pt.2-y-ld.2).natAbs<=22:=by lia
 generalize pt.1-x-ld.1=P at bP ⊢;generalize pt.2-y-ld.2=R at bQ ⊢;have D:Sq K H1 a (rows.map V.int):=.inl (SqL.of (B _ _ ha));exists _,U,a,_,_,_,U,U,D,a3,_,_,U,U,gt3,_,_,U,rfl;have b1:1<=1+v3%3:=by lia
 have b2:1+v3%3<=3:=by lia
 generalize 1+v3%3=k at b1 b2;have g:qy (rows.map V.int) (O ((3:Nat):Int)) JN=(rows.drop 3).map V.int:=by rw[yo,HT.sIx_nat rows.length 0 3,show min 3 rows.length=3 by lia,show HT.sIx rows.length rows.length JN=rows.length from rfl,Ao (by rw[x5]; lia)]
 have g:qy (rows.map V.int) (O 3) JN=(rows.drop 3).map V.int:=g;have I:SqL K H1 a (rows.map V.int):=SqL.of (B _ _ ha);exists _,U,U,_,rfl;erw[ifE (λzP=>?_) (λzP=>?_)]
 ·exists _,U,U,_,rfl;erw[ifE (λzR=>?_) (λzR=>?_)]
  ·erw[pS ?_];erw[_,rfl,_,rfl,a,_,rfl,I,λc hc=>?_];have N:=zB hc (.lst (qy (rows.map V.int) (O 3) JN));erw[c,rows.drop 3,3,rfl,SqL.of (by rw[zA,g]),(by rw[x5]; lia),(λv Y=>bd v (Bf Y)),(by decide),(by decide),λM p1 p2 A0 A1 B0 B1 H2 T o e1 e2 tn n1 n2 n3 n4=>?_];exists M,_,U,SqT.of o,U,.ref p1,_,U,.ref p2,_,U,rfl;refine⟨_,U,_,U,_,U,_,U,(by show 5<=sizeLine; decide),λw C=>?_⟩;have e:=zB C (.tup [.str "bearing",.int p,.str n,.ref p1,.ref p2]);obtain⟨w1,u⟩:=ir tn (f9 n1 (by decide)) (f9 n2 (by decide)) (f9 n3 (by decide)) (f9 n4 (by decide));rwa[q (.ref w) A0 A1 B0 B1 _ (B.trans (N.trans (T.trans e))) (tO zA (e _ _ e1) (e _ _ e2)) w1 u tn]
  ·exists _,U,a,_,_,_,U,U,D,a2,_,_,U,U,gt5,U,_,rfl;erw[ifE (λz5=>?_) (λz5=>?_)]
   ·
    erw[_,rfl,_,rfl,a,_,rfl,I,λc hc=>?_];have N:=zB hc (.lst (qy (rows.map V.int) (O 3) JN));erw[c,rows.drop 3,3,rfl,SqL.of (by rw[zA,g]),(by rw[x5]; lia),(λv Y=>bd v (Bf Y)),(by decide),(by decide),λM p1 p2 A0 A1 B0 B1 H2 T o e1 e2 tn n1 n2 n3 n4=>?_];exists M,_,U,SqT.of o,U,.ref p1,_,U,.ref p2,_,U,rfl;refine⟨_,U,_,U,_,U,_,U,(by show 5<=sizeLine; decide),λw C=>?_⟩;have e:=zB C (.tup [.str "bearing",.int p,.str n,.ref p1,.ref p2]);obtain⟨w1,u⟩:=ir tn (f9 n1 (by decide)) (f9 n2 (by decide)) (f9 n3 (by decide)) (f9 n4 (by decide));rwa[q (.ref w) A0 A1 B0 B1 _ (B.trans (N.trans (T.trans e))) (tO zA (e _ _ e1) (e _ _ e2)) w1 u tn]
   ·have nz:¬ (P=0/\R=0):=λz=>zR z.2;erw[_,rfl,_,rfl,_,rfl,_,rfl,_,_,rfl,rfl,vC (by lia),_,rfl,_,_,rfl,rfl,_,rfl,_,rfl,_,_,rfl,rfl,vC (by lia),_,rfl,_,_,rfl,rfl,sz2,λp1 L=>?_];have G:=zB L (.tup [.int (k*P+R),.int (k*R-P)]);refine⟨_,U,_,U,_,_,U,U,vC (by lia),_,U,_,_,U,U,_,U,_,U,_,_,U,U,vC (by lia),_,U,_,_,U,U,sz2,λp2 J=>⟨(by show 5<=sizeLine; decide),λw C=>?_⟩⟩;have l:=zB J (.tup [.int (k*P-R),.int (k*R+P)]);have e:=zB C (.tup [.str "bearing",.int p,.str n,.ref p1,.ref p2]);have tn:=dj b1 nz;have z1:=yJ k P (show k.natAbs<=3 by lia) bP;have z2:=yJ k R (show k.natAbs<=3 by lia) bQ;obtain⟨w1,u⟩:=ir tn (by lia) (by lia) (by lia) (by lia);rwa[q (.ref w) _ _ _ _ _ (B.trans (G.trans (l.trans e))) (tO zA (e _ _ (l _ _ zA)) (e _ _ zA)) w1 u tn]
 ·erw[uY ?_];exists _,U,a,_,_,_,U,U,D,a2,_,_,U,U,gt5,U,_,rfl;erw[ifE (λz5=>?_) (λz5=>?_)]
  ·
   erw[_,rfl,_,rfl,a,_,rfl,I,λc hc=>?_];have N:=zB hc (.lst (qy (rows.map V.int) (O 3) JN));erw[c,rows.drop 3,3,rfl,SqL.of (by rw[zA,g]),(by rw[x5]; lia),(λv Y=>bd v (Bf Y)),(by decide),(by decide),λM p1 p2 A0 A1 B0 B1 H2 T o e1 e2 tn n1 n2 n3 n4=>?_];exists M,_,U,SqT.of o,U,.ref p1,_,U,.ref p2,_,U,rfl;refine⟨_,U,_,U,_,U,_,U,(by show 5<=sizeLine; decide),λw C=>?_⟩;have e:=zB C (.tup [.str "bearing",.int p,.str n,.ref p1,.ref p2]);obtain⟨w1,u⟩:=ir tn (f9 n1 (by decide)) (f9 n2 (by decide)) (f9 n3 (by decide)) (f9 n4 (by decide));rwa[q (.ref w) A0 A1 B0 B1 _ (B.trans (N.trans (T.trans e))) (tO zA (e _ _ e1) (e _ _ e2)) w1 u tn]
  ·have nz:¬ (P=0/\R=0):=λz=>zP z.1;erw[_,rfl,_,rfl,_,rfl,_,rfl,_,_,rfl,rfl,vC (by lia),_,rfl,_,_,rfl,rfl,_,rfl,_,rfl,_,_,rfl,rfl,vC (by lia),_,rfl,_,_,rfl,rfl,sz2,λp1 L=>?_];have G:=zB L (.tup [.int (k*P+R),.int (k*R-P)]);refine⟨_,U,_,U,_,_,U,U,vC (by lia),_,U,_,_,U,U,_,U,_,U,_,_,U,U,vC (by lia),_,U,_,_,U,U,sz2,λp2 J=>⟨(by show 5<=sizeLine; decide),λw C=>?_⟩⟩;have l:=zB J (.tup [.int (k*P-R),.int (k*R+P)]);have e:=zB C (.tup [.str "bearing",.int p,.str n,.ref p1,.ref p2]);have tn:=dj b1 nz;have z1:=yJ k P (show k.natAbs<=3 by lia) bP;have z2:=yJ k R (show k.natAbs<=3 by lia) bQ;obtain⟨w1,u⟩:=ir tn (by lia) (by lia) (by lia) (by lia);rwa[q (.ref w) _ _ _ _ _ (B.trans (G.trans (l.trans e))) (tO zA (e _ _ (l _ _ zA)) (e _ _ zA)) w1 u tn]
def zt(_:c5):Sp:=UV
def oa(F:Fun K "_law_some_deeds" "_law_some_deeds" vJ f fd)(Z:Zs mg)(CB:Cb P w mg base)(yAh:Has P w K mg base "_law_true_bearing" 3 ["_law_d","_law_m","_law_moment","_law_mark","_law_x","_law_y"] (rB K))(yCm:Has P w K mg base "_law_new" 1 [] (jq K)):yQ P w K mg base CX0 4 f fd ["_law_some","_law_names_here"] (zt K):=by
 specialize zY
 ·obtain⟨a,r,rows,ns,rfl,_⟩:=h;rfl
 obtain⟨a,R,rows,ns,rfl,ha,l90,bd,eR,ln,okn,nod,q⟩:=h;obtain⟨v5,a5,_⟩:=wS bd (k:=5) (by decide) (by lia);obtain⟨v6,a6,_⟩:=wS bd (k:=6) (by decide) (by lia);obtain⟨v7,a7,_⟩:=wS bd (k:=7) (by decide) (by lia);obtain⟨v18,a18,_⟩:=wS bd (k:=18) (by decide) (by lia);have sq:∀{H':Hp},H' a=O (.lst (rows.map V.int))->Sq K H' a (rows.map V.int):=λh=>.inl (SqL.of h)
 refine'⟨_,(zC (mZ (i:=2) (j:=3) rfl zY.nd rfl rfl (by decide) rfl rfl ?_ rfl)
   (zC (zU 4 zY.nd (oU yCm (hr.mono (by decide)) rfl))
   (zC (zU 5 zY.nd ?_)
   (zC (xX t9 rfl (wQ rfl Z.range ?_) (xO 6 zY.nd) (zC (zW (zu (pv 5) ?_))
   (zF (uJ (zZ hr) (zN (zZ hr) (pv 4) zS (λ_ _=>rfl)) ?_ (tG hX ?_ (sX wP) zn) rfl))))
   (zC (xX t9 rfl (wQ rfl Z.range ?_) (xO 6 zY.nd) (zC (zW (zu (pv 5) ?_))
   (zF (zW (zu (zN (zZ hr) (pv 4) zS (λ_ _=>rfl)) (zI (tG hX ?_ (sX wP) zn) zM))))))
   (zC (zU 7 zY.nd (yG ql rfl Z.sorted uI (zI (xF (vO rfl) rfl Z.list rZ (zI (zN (zZ hr) (pv 4) zS (λ_ _=>rfl)) zM)) zM)))
   (zC (xX t9 rfl (wQ rfl Z.range ?_) (xO 6 zY.nd) (zC (zU 8 zY.nd ?_)
   (zC (zU 9 zY.nd (qC XT ?_ (qC eS (yG yq rfl Z.len qf (zI (zN (zZ hr) (pv 4) zS (λ_ _=>rfl)) zM)) wP)))
   (zC (mZ (i:=10) (j:=11) rfl zY.nd rfl rfl (by decide) rfl rfl ?_ rfl)
   (zC (zU 12 zY.nd ?_)
   (zC (xI (PW.pt (cU ?_ (jT (xQ (ag hr.units0) (zN (zZ hr) (zN (zZ hr) (pv 4) zS (λ_ _=>rfl)) (pv 10) (λ_ _=>rfl)) (zN (zZ hr) (zN (zZ hr) (pv 4) zS (λ_ _=>rfl)) (pv 11) (λ_ _=>rfl)) (wu _))))) (zF (zU 12 zY.nd ?_)) yE)
   (zF (zW (zu (pv 5) (zI (pv 12) zM))))))))))
   (zF (zO (pv 5)))))))))),?_⟩
 nofun
 exists _,U,a,_,_,_,U,U,sq ha,a5,_,_,U,U,(by show(0:Int)<1701; decide),_,_,rfl,rfl,_,rfl,a,_,_,_,rfl,rfl,sq ha,a6,_,_,rfl,rfl,(by show(0:Int)<1701; decide),_,_,rfl,rfl,_,_,rfl;have x1:(v5%1701-850).natAbs<=850:=by lia
 have y1:(v6%1701-850).natAbs<=850:=by lia
 generalize v5%1701-850=X at x1 ⊢;generalize v6%1701-850=Y at y1 ⊢;erw[rfl,λd m b r n H1 s1 hd hm hr0 ed em eb er en nbm nnm=>?_];erw[sz0,λL hL=>?_];have sL:=zB hL (.lst []);have ndL:d≠L:=zG ed hL;have nmL:m≠L:=zG em hL;have nrL:r≠L:=zG er hL;have eL1:upd H1 L (.lst []) L=O (.lst []):=zA;have ha1:=sL _ _ (s1 _ _ ha);have eR1:=sL _ _ (s1 _ _ eR);have ed1:=sL _ _ ed;have em1:=sL _ _ em;have eb1:=sL _ _ eb;have er1:=sL _ _ er;have en1:=sL _ _ en;have s01:=s1.trans sL;have hL0:=s1.free hL;generalize upd H1 L (.lst [])=H2 at eL1 ha1 eR1 ed1 em1 eb1 er1 en1 s01 ⊢;have naL:a≠L:=λz=>by rw[z,hL0] at ha; cases ha
 have nam:a≠m:=λz=>by rw[z,hm] at ha; cases ha
 have nRL:R≠L:=λz=>by rw[z,hL0] at eR; cases eR
 have nRm:R≠m:=λz=>by rw[z,hm] at eR; cases eR
 have ndm:d≠m:=λz=>by rw[z,em1] at ed1; cases ed1
 exists _,U,a,_,_,_,U,U,sq ha1,a7,_,_,U,U,gt3,_,_,U,rfl;have k3:3<=3+v7%3:=by lia
 have k5:3+v7%3<=5:=by lia
 generalize 3+v7%3=M at k3 k5;refine⟨_,U,(by lia),(by lia),tM (lo:=0) (n:=M.toNat) (λi σ H'=>A3 (∀ x o,x≠L->x≠m->H2 x=O o->H' x=O o) (E4 λ(I:List Deed) (l:List (j3×Int×Int)) (G:List V) (mk:List (Key×V))=>A8 (H' L=O (.lst G)) (xT H' (I.map Deed.dt) G) (I.length=i) (mY I l [] [] 1) (l.map (·.1)=ns.take i) (H' m=O (.dK mk)) (wC H' mk (mkE l)) (∀ e∈l,(e.2.1-X).natAbs<=10/\(e.2.2-Y).natAbs<=10)) (∃ u:Option V,σ=[O (.ref a),O (.ref R),O (.int X),O (.int Y),O (.ref d),O (.ref L),u,JN,JN,JN,JN,JN,JN]))
  ⟨λ_ _ _ _ e=>e,⟨[],[],[],[],eL1,yC.mpr rfl,rfl,Xw,rfl,em1,.nil,λe he=>(nomatch he)⟩,JN,rfl⟩ ?_ ?_⟩
 ·rintro i σ H3 hi ⟨sH,⟨I,l,G,mk,eL,rp,lD,dn,nms,eM,kv,pl⟩,u,rfl⟩;have hi5:i<ns.length:=by lia
  have hn:ns[i]?=O ns[i]:=c8 hi5;have ha3:=sH _ _ naL nam ha1;have eR3:=sH _ _ nRL nRm eR1;obtain⟨w1,b1,_⟩:=wS bd (k:=8+2*i) (by lia) (by lia);obtain⟨w2,b2,_⟩:=wS bd (k:=9+2*i) (by lia) (by lia);rw[Do];have c1:atI (rows.map V.int) (8+2*(i:Int))=O (.int w1):=by rw[show 8+2*(i:Int)=((8+2*i:Nat):Int) by lia]; rwa[b1]
  have c2:atI (rows.map V.int) (9+2*(i:Int))=O (.int w2):=by rw[show 9+2*(i:Int)=((9+2*i:Nat):Int) by lia]; rwa[b2]
  have cn:atI (ns.map V.str) (i:Int)=O (.str ns[i]):=qB (by rw[d9,hn]; rfl);exists _,U,.inl ⟨U,_,SqL.of eL⟩,_,U,_,U,R,_,_,.str ns[i],U,U,.inl (SqL.of eR3),cn;exists _,U,_,U,_,U,_,_,U,U,vC (by lia),_,_,U,U,a,_,_,_,U,U,sq ha3,c1,_,_,U,U,(by show(0:Int)<21; decide),_,_,rfl,rfl,_,_,rfl,rfl;refine⟨_,U,_,U,_,U,_,_,U,U,vC (by lia),_,_,U,U,a,_,_,_,U,U,sq ha3,c2,_,_,U,U,(by show(0:Int)<21; decide),_,_,rfl,rfl,_,_,rfl,rfl,(by show 4<=sizeLine; decide),λt ht=>?_⟩;have x3:(X+w1%21-10-X).natAbs<=10:=by lia
  have y3:(Y+w2%21-10-Y).natAbs<=10:=by lia
  generalize X+w1%21-10=g at x3 ⊢;generalize Y+w2%21-10=W at y3 ⊢;have st:=zB ht (.tup [.str "mark",.str ns[i],.int g,.int W]);have eL3:=st _ _ eL;exists L,_,.ref t,U,U,eL3,zL (by rw[rp.length,b7]; lia);have sE4:=wO (o:=.lst (G++[.ref t])) eL3;have np4:=vN eL3;have ntL:t≠L:=λz=>by rw[z,eL] at ht; cases ht
  have rp4:xT (upd (upd H3 t (.tup [.str "mark",.str ns[i],.int g,.int W])) L (.lst (G++[.ref t]))) ((I++[Deed.mark ns[i] g W]).map Deed.dt) (G++[.ref t]):=by
   rw[e7];exact(xT.app (rp.to (.of st)) (.one (ZO zA))).sam sE4 np4
  have kv4:=(kv.to (.of st)).sam sE4 np4;have k4:∀ x o,x≠L->H3 x=O o->upd (upd H3 t (.tup [.str "mark",.str ns[i],.int g,.int W])) L (.lst (G++[.ref t])) x=O o:=λx o h e=>by rw[zD h]; rwa[st _ _ e]
  have eL4:upd (upd H3 t (.tup [.str "mark",.str ns[i],.int g,.int W])) L (.lst (G++[.ref t])) L=O (.lst (G++[.ref t])):=zA;have et4:upd (upd H3 t (.tup [.str "mark",.str ns[i],.int g,.int W])) L (.lst (G++[.ref t])) t=O (.tup [.str "mark",.str ns[i],.int g,.int W]):=by rw[zD ntL,zA]
  generalize upd (upd H3 t (.tup [.str "mark",.str ns[i],.int g,.int W])) L (.lst (G++[.ref t]))=H4 at rp4 kv4 k4 eL4 et4 ⊢;have eM4:=k4 _ _ nmL eM;have ed4:=k4 _ _ ndL (sH _ _ ndL ndm ed1);have eR4:=k4 _ _ nRL eR3;have lst1:atI (G++[.ref t]) (-1)=O (.ref t):=fM G (.ref t);refine⟨_,U,_,U,L,_,_,.ref t,U,U,.inl (SqL.of eL4),lst1,_,U,t,_,U,SqT.of et4,(λz=>y9 z.1 (by show ¬ HT.sIx 4 0 (O 2)=0; decide)),λc hc=>?_⟩;rw[show qy [V.str "mark",V.str ns[i],V.int g,V.int W] (O 2) JN=[V.int g,V.int W] from rfl];have sc:=zB hc (.tup [.int g,.int W]);have eM5:=sc _ _ eM4;have lk:mk.length=l.length:=by rw[kv.length,lW]
  have ll:l.length=i:=by have:=congrArg Aq nms; rw[b7,i7] at this; lia
  exists _,U,d,.ref m,U,.inl ⟨_,.inr "marks",.inl (sc _ _ ed4),U,vH.symm⟩,_,U,_,U,R,_,_,.str ns[i],U,U,.inl (SqL.of (sc _ _ eR4)),cn,m,_,U,oV.k (k:=.inr ns[i]) eM5 (zL (by lia));have sE5:=wO (o:=.dK (vR mk (.inr ns[i]) (.ref c))) eM5;have np5:=oK eM5;have nmem:ns[i] ∉ l.map (·.1):=by
   rw[nms];rwa[cW nod hn]
  have nr5:vt (g,W):=⟨by dsimp only; lia,by dsimp only; lia,by dsimp only; lia,by dsimp only; lia⟩;erw[λx o h1 h2 e=>by rw[zD h2]; exact sc _ _ (k4 _ _ h1 (sH _ _ h1 h2 e)),⟨I++[.mark ns[i] g W],l++[(ns[i],g,W)],G++[.ref t],_,?_,(rp4.to (.of sc)).sam sE5 np5,(by rw[f8,lD]; rfl),dn.mark (Vl (okn _ (Ag hi5)) nmem nr5 (by lia)),?_,zA,?_,λe he=>?_⟩,_,rfl]
  ·rw[zD nmL.symm]; rwa[sc _ _ eL4]
  ·rw[e7,nms,x6,hn]; rfl
  ·have:=((kv4.to (.of sc)).put (k:=.inr ns[i]) (zj (p:=(g,W)) zA)).sam sE5 np5;have pe:=sQ (es:=mkE l) (k:=.inr ns[i]) (d:=ptD (g,W)) (kW (S:=stN l [] [] 1) (lQ nmem));rw[pe] at this;rw[gK];rwa[this]
  ·rcases l7.mp he with z | z
   ·rwa[pl e z]
   ·rw[f6.mp z]; rwa[x3,y3]
 ·rintro σ H3 ⟨sH,⟨I,l,G,mk,eL,rp,lD,dn,nms,eM,kv,pl⟩,u,rfl⟩;have nrm:r≠m:=λz=>by rw[z,em1] at er1; cases er1
  have nar:a≠r:=λz=>by rw[z,hr0] at ha; cases ha
  have ndr:d≠r:=λz=>by rw[z,er1] at ed1; cases ed1
  have nbL:b≠L:=zG eb hL;have nnL:n≠L:=zG en hL;have nbr:b≠r:=λz=>by rw[z,er1] at eb1; cases eb1
  have nnr:n≠r:=λz=>by rw[z,er1] at en1; cases en1
  have ha3:=sH _ _ naL nam ha1;have ed3:=sH _ _ ndL ndm ed1;have er3:=sH _ _ nrL nrm er1;have eb3:=sH _ _ nbL nbm eb1;have en3:=sH _ _ nnL nnm en1;have s03:∀ x o,H x=O o->H3 x=O o:=λx o e=>sH x o (zG e hL0) (zG e hm) (s01 _ _ e);have lM:l.length=M.toNat:=by have:=congrArg Aq nms; rw[b7,i7] at this; lia
  clear sH;exists _,U,a,_,_,_,U,U,sq ha3,a18,_,_,U,U,gt4;have n0:0<=v18%4:=by lia
  have n3:v18%4<=3:=by lia
  generalize v18%4=N at n0 n3;refine⟨_,U,(by lia),(by lia),tM (lo:=0) (n:=N.toNat) (λi σ H'=>A3 (∀ x o,x≠L->x≠r->H3 x=O o->H' x=O o) (E4 λ(I:List Deed) (T:List (Int×Int)) (G ys:List V)=>A8 (H' L=O (.lst G)) (xT H' (I.map Deed.dt) G) (I.length=M.toNat+i) (mY I l T [] 1) (T.length=i) (H' r=O (.lst ys)) (xT H' (T.map ptD) ys) (∀ e∈T,e.1.natAbs<=4/\e.2.natAbs<=4)) (∃ u:Option V,σ=[O (.ref a),O (.ref R),O (.int X),O (.int Y),O (.ref d),O (.ref L),u,JN,JN,JN,JN,JN,JN]))
   ⟨λ_ _ _ _ e=>e,⟨I,[],G,[],eL,rp,lD,dn,rfl,er3,yC.mpr rfl,λe he=>(nomatch he)⟩,u,rfl⟩ ?_ ?_⟩
  ·clear lD rp dn;rintro i σ H4 hi ⟨sK,⟨I,T,G,ys,eL,rp,lD,dn,lrs,er4,rr,rb⟩,u,rfl⟩;have ha4:=sK _ _ naL nar ha3;have ed4:=sK _ _ ndL ndr ed3;obtain⟨w1,b1,_⟩:=wS bd (k:=19+2*i) (by lia) (by lia);obtain⟨w2,b2,_⟩:=wS bd (k:=20+2*i) (by lia) (by lia);rw[Do];have c1:atI (rows.map V.int) (19+2*(i:Int))=O (.int w1):=b1;have c2:atI (rows.map V.int) (20+2*(i:Int))=O (.int w2):=b2;exists _,U,.inl ⟨U,_,SqL.of eL⟩,_,U,_,U,_,_,U,U,vC (by lia),_,_,U,U,a,_,_,_,U,U,sq ha4,c1,_,_,U,U,(by show(0:Int)<9; decide),_,_,rfl,rfl;refine⟨_,U,_,U,_,_,U,U,vC (by lia),_,_,U,U,a,_,_,_,U,U,sq ha4,c2,_,_,U,U,(by show(0:Int)<9; decide),_,_,rfl,rfl,sz3,λt ht=>?_⟩;have x3:(w1%9-4).natAbs<=4:=by lia
   have y3:(w2%9-4).natAbs<=4:=by lia
   generalize w1%9-4=g at x3 ⊢;generalize w2%9-4=W at y3 ⊢;have st:=zB ht (.tup [.str "sail",.int g,.int W]);have eL3:=st _ _ eL;exists L,_,.ref t,U,U,eL3,zL (by rw[rp.length,b7]; lia);have sE4:=wO (o:=.lst (G++[.ref t])) eL3;have np4:=vN eL3;have ntL:t≠L:=λz=>by rw[z,eL] at ht; cases ht
   have rp4:xT (upd (upd H4 t (.tup [.str "sail",.int g,.int W])) L (.lst (G++[.ref t]))) ((I++[Deed.sail g W]).map Deed.dt) (G++[.ref t]):=by
    rw[e7];exact(xT.app (rp.to (.of st)) (.one (Yj zA))).sam sE4 np4
   have rr4:=(rr.to (.of st)).sam sE4 np4;have k4:∀ x o,x≠L->H4 x=O o->upd (upd H4 t (.tup [.str "sail",.int g,.int W])) L (.lst (G++[.ref t])) x=O o:=λx o h e=>by rw[zD h]; rwa[st _ _ e]
   have eL4:upd (upd H4 t (.tup [.str "sail",.int g,.int W])) L (.lst (G++[.ref t])) L=O (.lst (G++[.ref t])):=zA;have et4:upd (upd H4 t (.tup [.str "sail",.int g,.int W])) L (.lst (G++[.ref t])) t=O (.tup [.str "sail",.int g,.int W]):=by rw[zD ntL,zA]
   generalize upd (upd H4 t (.tup [.str "sail",.int g,.int W])) L (.lst (G++[.ref t]))=H5 at rp4 rr4 k4 eL4 et4 ⊢;have er5:=k4 _ _ nrL er4;have ed5:=k4 _ _ ndL ed4;have lst1:atI (G++[.ref t]) (-1)=O (.ref t):=fM G (.ref t);refine⟨_,U,d,.ref r,U,.inl ⟨_,.inr "runs",.inl ed5,U,ua.symm⟩,.inl ⟨U,_,SqL.of er5⟩,_,U,_,U,L,_,_,.ref t,U,U,.inl (SqL.of eL4),lst1,_,U,t,_,U,SqT.of et4,(λz=>y9 z.1 (by show ¬ HT.sIx 3 0 (O 1)=0; decide)),λc hc=>?_⟩;rw[show qy [V.str "sail",V.int g,V.int W] (O 1) JN=[V.int g,V.int W] from rfl];have sc:=zB hc (.tup [.int g,.int W]);have er6:=sc _ _ er5;have ly:ys.length=T.length:=by rw[rr.length,b7]
   exists r,_,.ref c,U,U,er6,zL (by lia);have sE6:=wO (o:=.lst (ys++[.ref c])) er6;have np6:=vN er6;have nr5:vt (g,W):=⟨by dsimp only; lia,by dsimp only; lia,by dsimp only; lia,by dsimp only; lia⟩;erw[λx o h1 h2 e=>by rw[zD h2]; exact sc _ _ (k4 _ _ h1 (sK _ _ h1 h2 e)),⟨I++[.sail g W],T++[(g,W)],G++[.ref t],ys++[.ref c],?_,(rp4.to (.of sc)).sam sE6 np6,(by rw[f8,lD]; rfl),dn.sail (VX nr5 (by lia)),(by rw[f8,lrs]; rfl),zA,?_,λe he=>?_⟩,_,rfl]
   ·rw[zD nrL.symm]; rwa[sc _ _ eL4]
   ·rw[e7];exact(xT.app (rr4.to (.of sc)) (.one (zj (p:=(g,W)) zA))).sam sE6 np6
   ·rcases l7.mp he with z | z
    ·rwa[rb e z]
    ·rw[f6.mp z]; rwa[x3,y3]
  ·rintro σ H4 ⟨sK,hh,u,rfl⟩;have sE4:vW (λx=>x=L\/x=r) H3 H4:=λx o hx e=>.inl (sK x o (λz=>hx (.inl z)) (λz=>hx (.inr z)) e);have np4:∀ b G,H3 b=O (.tup G)->¬ (b=L\/b=r):=λb G e z=>z.elim (vN eL b G e) (vN er3 b G e);have kv4:=kv.sam sE4 np4;clear eL rp lD dn;obtain⟨I,T,G,ys,eL,rp,lD,dn,lrs,er4,rr,rb⟩:=hh;have ha4:=sK _ _ naL nar ha3;have ed4:=sK _ _ ndL ndr ed3;have eM4:=sK _ _ nmL nrm.symm eM;have eb4:=sK _ _ nbL nbr eb3;have en4:=sK _ _ nnL nnr en3;have s04:∀ x o,H x=O o->H4 x=O o:=λx o e=>sK x o (zG e hL0) (zG e hr0) (s03 _ _ e);have lw4:LwA H4 d m b r n (stN l T [] 1):=⟨.inl ed4,⟨mk,.inl eM4,kv4⟩,.nil eb4,⟨ys,er4,rr⟩,.nil en4⟩;have lrm:(mk.map λkv=>kV kv.1)=(l.map (·.1)).map V.str:=kP kv4;have ly:ys.length=T.length:=by rw[rr.length,b7]
   erw[_,rfl,d,.ref m,rfl,.inl ⟨_,.inr "marks",.inl ed4,rfl,vH.symm⟩,m,mk,rfl,.inl eM4,λp1 hp1=>?_];rw[lrm];have s5:=zB hp1 (.lst ((l.map (·.1)).map V.str));erw[p1,l.map (·.1),rfl,SqL.of zA,(by rw[b7]; lia),λp2 ms hp2 pm srt=>?_];have s6:=zB hp2 (.lst (ms.map V.str));have s46:=s5.trans s6;have ep2:upd (upd H4 p1 (.lst ((l.map (·.1)).map V.str))) p2 (.lst (ms.map V.str)) p2=O (.lst (ms.map V.str)):=zA;generalize upd (upd H4 p1 (.lst ((l.map (·.1)).map V.str))) p2 (.lst (ms.map V.str))=H6 at s46 ep2 ⊢;have lms:ms.length=M.toNat:=by rw[pm.length_eq,b7,lM]
   have np2:p2≠L:=λz=>by rw[z] at hp2; rw[s5 _ _ eL] at hp2; cases hp2
   have ha6:=s46 _ _ ha4;have lw6:=lw4.to (.of s46);have rp6:=rp.to (.of s46);have eL6:=s46 _ _ eL;have s06:∀ x o,H x=O o->H6 x=O o:=λx o e=>s46 _ _ (s04 _ _ e);exists _,U,a,_,_,_,U,U,sq ha6,a7,_,_,U,U,yy.of (by decide) (by ac_nf),_,_,U,U,(by show(0:Int)<7; decide);have j0:0<=v7/3%7:=by lia
   have j6:v7/3%7<=6:=by lia
   generalize v7/3%7=J at j0 j6;refine⟨_,U,(by lia),(by lia),tM (lo:=0) (n:=J.toNat) (λi σ H'=>A3 (∀ x o,x≠L->H6 x=O o->H' x=O o) (E4 λ(I:List Deed) (no:List (Int×Deed)) (k:Int) (G:List V)=>A5 (H' L=O (.lst G)) (xT H' (I.map Deed.dt) G) (I.length=M.toNat+N.toNat+i) (mY I l T no k) (yd no k i)) (E6 λ(u1 u2 u3 u4 u5 u6:Option V)=>σ=[O (.ref a),O (.ref R),O (.int X),O (.int Y),O (.ref d),O (.ref L),u1,O (.ref p2),u2,u3,u4,u5,u6]))
    ⟨λ_ _ _ e=>e,⟨I,[],1,G,eL6,rp6,lD,dn,yd.nil⟩,u,JN,JN,JN,JN,JN,rfl⟩ ?_ ?_⟩
   ·clear lD rp dn rp6 eL6;rintro i σ H7 hi ⟨sJ,⟨I,no,k,G,eL7,rp,lD,dn,lno⟩,u1,u2,u3,u4,u5,u6,rfl⟩;have sE7:vW (λx=>x=L) H6 H7:=λx o hx e=>.inl (sJ x o hx e);have eLq:∃ zs,H6 L=O (.lst zs):=⟨_,s46 _ _ eL⟩;obtain⟨zs,eLq⟩:=eLq;have lw7:=lw6.samE sE7 (λa kvs h z=>by
     rw[z] at h;rcases h with h | ⟨o,h⟩ <;> rw[eLq] at h <;> cases h) (vN eLq) (λ_ _=>nrL)
    have ha7:=sJ _ _ naL ha6;have ep7:=sJ _ _ np2 ep2;rw[Do];have cut:qy (rows.map V.int) (O (27+8*(i:Int))) JN=(rows.drop (27+8*i)).map V.int:=by
     rw[show 27+8*(i:Int)=((27+8*i:Nat):Int) by lia,yo,HT.sIx_nat rows.length 0 (27+8*i),show min (27+8*i) rows.length=27+8*i by lia,show HT.sIx rows.length rows.length JN=rows.length from rfl,Ao (by rw[x5]; lia)]
    erw[_,rfl,_,rfl,_,_,rfl,rfl,vC (by lia),_,_,rfl,rfl,_,rfl,a,_,rfl,SqL.of ha7,λc hc=>?_];rw[cut];have bd8:∀ v∈rows.drop (27+8*i),0<=v/\v<1000003:=λv hv=>bd v (Bf hv);have l8:8<=(rows.drop (27+8*i)).length:=by rw[x5]; lia
    generalize rows.drop (27+8*i)=rw8 at bd8 l8 ⊢;have sc:=zB hc (.lst (rw8.map V.int));have ec:upd H7 c (.lst (rw8.map V.int)) c=O (.lst (rw8.map V.int)):=zA;have lw8:=lw7.to (.of sc);have rp8:=rp.to (.of sc);have eL8:=sc _ _ eL7;have ep8:=sc _ _ ep7;have k8:∀ x o,x≠L->H6 x=O o->upd H7 c (.lst (rw8.map V.int)) x=O o:=λx o h e=>sc _ _ (sJ x o h e);generalize upd H7 c (.lst (rw8.map V.int))=H8 at ec lw8 rp8 eL8 ep8 k8 ⊢;obtain⟨d0,g0,_⟩:=wS bd8 (k:=0) (by decide) (by lia);obtain⟨d1,g1,_⟩:=wS bd8 (k:=1) (by decide) (by lia);obtain⟨d2,g2,_⟩:=wS bd8 (k:=2) (by decide) (by lia);have cq:Sq K H8 c (rw8.map V.int):=.inl (SqL.of ec);obtain⟨ys8,er8,rr8⟩:=lw8.ru;have ly8:ys8.length=T.length:=by rw[rr8.length,b7]; rfl
    exists _,U,c,_,_,_,U,U,cq,g0,_,U,d,.ref r,U,.inl ⟨_,.inr "runs",lw8.at_,U,ua.symm⟩,r,ys8,U,.inl (SqL.of er8),_,_,U,U,_,_,U,U,(by show(0:Int)<(ys8.length:Int)+1; lia);rw[ly8];obtain⟨mo,emo⟩:∃ mo:Nat,d0%((T.length:Int)+1)=mo:=⟨(d0%((T.length:Int)+1)).toNat,(Dz (Al _ (by lia))).symm⟩;have hmo:mo<=T.length:=by have:=x8 d0 (show(0:Int)<(T.length:Int)+1 by lia); lia
    rw[emo];have lk:((ms.map V.str).length:Int)=M:=by rw[b7,lms]; lia
    obtain⟨i1,h1,g3⟩:∃ n1,n1∈ms/\atI (ms.map V.str) (d1%((ms.map V.str).length:Int))=O (.str n1):=Wm (by lia);obtain⟨i2,h2,g4⟩:∃ n1,n1∈ms/\atI (ms.map V.str) (d2/5%((ms.map V.str).length:Int))=O (.str n1):=Wm (by lia);have pq:Sq K H8 p2 (ms.map V.str):=.inl (SqL.of ep8);exists _,U,_,U,c,_,_,_,U,U,cq,g1,_,U,p2,_,U,.inl (SqL.of ep8),_,_,U,U,(by show(0:Int)<((ms.map V.str).length:Int); lia),p2,_,_,.str i1,rfl,rfl,pq,g3;exists _,U,_,U,c,_,_,_,U,U,cq,g2,_,_,U,U,yy.of (by decide) (by ac_nf),_,U,p2,_,U,.inl (SqL.of ep8),_,_,U,U,(by show(0:Int)<((ms.map V.str).length:Int); lia),p2,_,_,.str i2,rfl,rfl,pq,g4,_,_,rfl;refine⟨_,U,_,U,_,U,(by show 4<=sizeLine; decide),λt ht=>?_⟩;have st:=zB ht (.tup [.str "range",.int mo,.str i1,.str i2]);have et:upd H8 t (.tup [.str "range",.int mo,.str i1,.str i2]) t=O (.tup [.str "range",.int mo,.str i1,.str i2]):=zA;have ec9:=st _ _ ec;have lw9:=lw8.to (.of st);have rp9:=rp8.to (.of st);have eL9:=st _ _ eL8;have k9:∀ x o,x≠L->H6 x=O o->upd H8 t (.tup [.str "range",.int mo,.str i1,.str i2]) x=O o:=λx o h e=>st _ _ (k8 x o h e);have ntL:t≠L:=λz=>by rw[z,eL8] at ht; cases ht
    generalize upd H8 t (.tup [.str "range",.int mo,.str i1,.str i2])=H9 at et ec9 lw9 rp9 eL9 k9 ⊢;have m1:i1∈l.map (·.1):=pm.mem_iff.mp h1;have m2:i2∈l.map (·.1):=pm.mem_iff.mp h2;obtain⟨q1,f1⟩:=rH (S:=stN l T [] 1) m1;obtain⟨q2,f2⟩:=rH (S:=stN l T [] 1) m2;obtain⟨kvs,pa,hkv,t1,t2⟩:=tS lw9.ma f1;obtain⟨kvs',pb,hkv',t3,t4⟩:=tS lw9.ma f2;have pl1:=pl _ (xy f1);have cq9:Sq K H9 c (rw8.map V.int):=.inl (SqL.of ec9);have lx:G.length=M.toNat+N.toNat+i:=by rw[rp.length,b7,lD]
    have fin:∀(v:V)(D:Deed)(no':List (Int×Deed))(k':Int)(Hz:Hp),Same H9 Hz->Rep Hz D.dt v->mY (I++[D]) l T no' k'->yd no' k' (i+1) ->
      Hz L=O (.lst G)/\((∀ x o,x≠L->H6 x=O o->upd Hz L (.lst (G++[v])) x=O o)/\(E4 λ(I:List Deed) (no:List (Int×Deed)) (k:Int) (ys:List V)=>A5 (upd Hz L (.lst (G++[v])) L=O (.lst ys)) (xT (upd Hz L (.lst (G++[v]))) (I.map Deed.dt) ys) (I.length=M.toNat+N.toNat+(i+1)) (mY I l T no k) (yd no k (i+1)))):=by
     intro v D no' k' Hz sz rv dz ln;have eLz:=sz _ _ eL9;erw[eLz,λx o h e=>by rw[zD h]; exact sz _ _ (k9 x o h e),I++[D],no',k',G++[v],zA,?_,by rw[f8,lD]; rfl,dz,ln];rw[e7];exact(xT.app (rp9.to (.of sz)) (.one rv)).sam (wO eLz) (vN eLz)
    exists _,U,c,_,_,_,U,U,cq9,g2,_,_,U,U,gt5,_,_,U,U,_,rfl;erw[ifD (λz=>?_) (λz=>?_)]
    ·erw[pS ?_];refine⟨_,U,_,U,_,U,_,U,_,U,_,U,c,d,rw8,stN l T [] 1,mo,i1,X,Y,q1,U,ec9,l8,bd8,⟨m,b,r,n,lw9⟩,hmo,(by show T.length<=3; lia),rb,f1,pl1.1,pl1.2,λv A B C D Hz sz rv w1 w2 tn=>?_⟩;obtain⟨eLz,f3,f4⟩:=fin v _ _ _ Hz sz rv (dn.bearing (mP hmo m1 w1 w2 tn (by rw[lno.len]; lia))) lno.snoc;erw[_,rfl,.inl ⟨rfl,_,SqL.of eLz⟩,_,rfl,L,_,v,rfl,rfl,eLz,zL (by lia),f3,f4,_,_,_,_,_,_,rfl]
    ·refine⟨_,U,d,.ref m,U,.inl ⟨_,.inr "marks",lw9.at_,U,vH.symm⟩,_,U,m,_,U,.inl ⟨kvs,.inr i1,hkv,U,t1.symm⟩,_,U,d,.ref m,U,.inl ⟨_,.inr "marks",lw9.at_,U,vH.symm⟩,_,U,m,_,U,.inl ⟨kvs',.inr i2,hkv',U,t3.symm⟩,
      pa,pb,[q1.1,q1.2],[q2.1,q2.2],rfl,rfl,SqT.of t2,SqT.of t4,_,rfl,?_⟩
     erw[ifD (λz=>?_) (λz=>?_)]
     ·
      refine⟨_,U,_,U,_,U,_,U,_,U,_,U,c,d,rw8,stN l T [] 1,mo,i1,X,Y,q1,U,ec9,l8,bd8,⟨m,b,r,n,lw9⟩,hmo,(by show T.length<=3; lia),rb,f1,pl1.1,pl1.2,λv A B C D Hz sz rv w1 w2 tn=>?_⟩;obtain⟨eLz,f3,f4⟩:=fin v _ _ _ Hz sz rv (dn.bearing (mP hmo m1 w1 w2 tn (by rw[lno.len]; lia))) lno.snoc;erw[_,rfl,.inl ⟨rfl,_,SqL.of eLz⟩,_,rfl,L,_,v,rfl,rfl,eLz,zL (by lia),f3,f4,_,_,_,_,_,_,rfl]
     ·have ne:zT (stN l T no k) i1≠zT (stN l T no k) i2:=λy=>by
       have y:zT (stN l T [] 1) i1=zT (stN l T [] 1) i2:=y;rw[f1,f2] at y;injection y with y
       rwa[z (by rw[y])]
      obtain⟨eLz,f3,f4⟩:=fin (.ref t) _ _ _ H9 (Same.refl _) (aO et) (dn.range (Yk hmo m1 m2 ne (by rw[lno.len]; lia))) lno.snoc;erw[_,rfl,.inl ⟨rfl,_,SqL.of eLz⟩,_,rfl,L,_,.ref t,rfl,rfl,eLz,zL (by lia),f3,f4,_,_,_,_,_,_,rfl]
   ·clear lD rp dn;rintro σ H7 ⟨sJ,⟨I,no,k,G,eL7,rp,lD,dn,lno⟩,u1,u2,u3,u4,u5,u6,rfl⟩;refine⟨_,U,q L G I H7 (λx o e=>sJ x o (zG e hL0) (s06 _ _ e)) hL0 eL7 rp (by lia) dn.ok (by rw[dn.at_]; show T.length<=3; lia) dn.four ⟨J.toNat,by lia,by rw[dn.at_]; rwa[lno]⟩ (by rw[dn.at_]; exact⟨by show 3<=l.length; lia,by show l.length<=5; lia,λe he=>by have:=pl e he; lia,rfl⟩)⟩
def lg(K:c5):Sp:=λe H Q _=>E3 λ(a:c7) (rows:List Int) (c:Nat)=>A6 (e=[.ref a,.int c]) (SqL K H a (rows.map V.int)) (c<=rows.length) (c<=25) (∀ x∈rows,0<=x/\x<1000003) (∀(r:c7)(ns:List j3)(d:Hp),Same H d->H r=JN->d r=O (.lst (ns.map V.str))->ns.length=c->(∀ n∈ns,sN n)->ns.Nodup->Q (.ref r) d)
def dM(F:Fun K "_law_names" "_law_names" ur f fd)(Z:Zs mg)(CB:Cb P w mg base)  : yQ P w K mg base CX0 1 f fd ["_law_some","_law_many"] (lg K):=by
 specialize xB
 ·obtain⟨a,rows,d,rfl,_⟩:=h;rfl
 obtain⟨a,rows,d,rfl,ha,h1,h2,bd,q⟩:=h
 refine'⟨_,(zC (zU 2 xB.nd zS)
   (zC (zU 3 xB.nd ?_)
   (zC (xX t9 rfl (wQ rfl Z.range (zI (pv 1) zM)) (xO 4 xB.nd) (zC (zU 5 xB.nd ?_)
   (zC (zU 6 xB.nd ?_)
   (zC (zU 7 xB.nd ?_)
   (zC (zU 8 xB.nd (VE PySem.F.plainAttrs_str PySem.F.slot_str_join PySem.F.type_str_join Vr zS (zI (yO (T:=["_law_k"]) (caps:=[("_law_letters",2),("_law_raw",5),("_law_step",7)]) ⟨rfl,by ac_nf,by ac_nf,rfl,⟨⟨rfl,rfl,BM rfl⟩,⟨rfl,rfl,BM rfl⟩,⟨rfl,rfl,BM rfl⟩,t5⟩⟩ rfl (wQ rfl Z.range (zI (pv 6) zM)) (λ_=>(xO 0 (show(["_law_k","_law_letters","_law_raw","_law_step"]:List j3).Nodup by ac_nf))) (λ_=>yH) (λ_=>(bu Wy (pv 1) ?_ (λ_ _=>rfl)))) zM)))
   (zC (zU 9 xB.nd ?_)
   (zC (xX t9 rfl (wQ rfl Z.range (zI wP zM)) (xO 10 xB.nd) (zF (xI (xQ iG (pv 8) (pv 3) (by with_unfolding_all rfl)) (zC (zU 11 xB.nd (bu Wy (pv 2) ?_ (λ_ _=>rfl)))
   (zF (zU 8 xB.nd (qC mT (qC mT (tG Wu (pv 8) zn (sX (pv 9))) (pv 11)) (tG Wu (pv 8) (sX ?_) zn))))) yE)))
   (zF (zW (zu (pv 3) (zI (pv 8) zM)))))))))))
   (zF (zO (pv 3)))))),?_⟩
 nofun
 refine⟨sz0,λr N=>?_⟩;have s0:=zB N (.lst []);refine⟨_,U,_,U,by lia,by lia,tM (lo:=0) (n:=((d:Nat):Int).toNat) (λi B I=>∃ ns:List j3,A6 (Same H I) (I r=O (.lst (ns.map V.str))) (ns.length=i) (∀ n∈ns,sN n) ns.Nodup (E8 λ(u4 u5 u6 u7 u8 u9 o g:Option V)=>B=[O (.ref a),O (.int d),O (.str abc),O (.ref r),u4,u5,u6,u7,u8,u9,o,g]))
  ⟨[],s0,zA,rfl,(λ_ z=>nomatch z),EX,JN,JN,JN,JN,JN,JN,JN,JN,rfl⟩ ?_ ?_⟩
 ·rintro i B H1 hi ⟨ns,s1,er,ln,M,nd,u4,u5,u6,u7,u8,u9,o,g,rfl⟩;rw[Bq] at hi;obtain⟨x,ax,x0,x1⟩:=wS bd (k:=(0:Int)+i) (by lia) (by lia);exists _,U,_,U,a,_,_,_,U,U,.inl (s1.seq ha),ax;exists _,U,_,_,U,U,(by show(0:Int)<8; decide),_,_,rfl,rfl;exists _,U,_,_,U,U,yy.of (by decide) (by ac_nf),_,_,U,U,gt5;have z0:0<=x%8:=Al _ (by decide);have z1:x%8<8:=x8 _ (by decide);have t0:0<=x/8%5:=Al _ (by decide);have t1:x/8%5<5:=x8 _ (by decide);obtain⟨sz,esz⟩:∃ n:Nat,1+x%8=(n:Int):=⟨(1+x%8).toNat,by lia⟩;have w1:1<=sz:=by lia
  have w8:sz<=8:=by lia
  refine⟨U,_,U,_,U,by lia,by lia,λc D hD=>?_⟩;have sD:=zB hD (.lst []);refine nW (lo:=0) (n:=(1+x%8).toNat) (λj B Y I=>A3 (Same H1 I) (I D=O (.lst Y)) (∃ l:List Nat,A4 (Y=(l.map chS).map V.str) (l.length=j) (∀ c∈l,97<=c/\c<=122) (∃ u0:Option V,B=[u0,O (.str abc),O (.int x),O (.int (x/8%5))])))
   ⟨sD,zA,[],rfl,rfl,(λ_ z=>nomatch z),JN,rfl⟩ (λj B Y I _ hq'=>by obtain⟨_,e,_⟩:=hq'; rwa[e]) ?_ ?_
  ·rintro j B Y I hj ⟨sH,eD,l,rfl,lj,lc,u0,rfl⟩;have m0:0<=(x/40+((0:Int)+j)*(x/8%5))%26:=Al _ (by decide);have m1:(x/40+((0:Int)+j)*(x/8%5))%26<26:=x8 _ (by decide);exists _,U,_,U,_,_,U,U,yy.of (by decide) (by ac_nf),_,U,_,U,_,_,U,U,vC (by lia),_,_,U,U,_,_,U,U,(by show(0:Int)<26; decide),abc,_,_,rfl,rfl,(by decide),XS m0 m1;erw[eD,zL (by rw[b7,b7]; lia),sH.putNew hD,zA,l++[97+((x/40+((0:Int)+j)*(x/8%5))%26).toNat],?_,by rw[f8,lj]; rfl,λc J=>?_,_,rfl]
   ·rw[e7,e7];rfl
   ·rcases l7.mp J with J | J
    ·rwa[lc c J]
    ·rw[f6] at J;lia
  ·rintro B Y H2 ⟨s2,eD,l,rfl,lj,lc,u0,rfl⟩;have s12:=s1.trans s2;have R:=s2 _ _ er;have ll:l.length=sz:=by lia
   refine⟨"",D,l.map chS,U,U,SqL.of eD,by rw[cB,ll]; exact f9 w8 (by decide),?_⟩;rw[Yo];obtain⟨L,epl⟩:∃ n:Nat,x/7%(1+x%8)=(n:Int):=⟨(x/7%(1+x%8)).toNat,by rw[Dz (Al _ (by lia))]⟩;have plt:L<l.length:=by
    have:=x8 (x/7) (show 0<1+x%8 by lia);lia
   exists _,U,_,_,U,U,yy.of (by decide) (by ac_nf),_,U,_,_,U,U,(by show(0:Int)<1+x%8; lia);obtain⟨S,exn⟩:∃ n:Nat,x=(n:Int):=⟨x.toNat,by lia⟩;refine⟨26,U,by decide,by decide,tM (lo:=0) (n:=26) (λk B I=>I=H2/\∃ m:List Nat,A5 (txt m ∉ ns\/((k=0\/∃ j,j+1=k/\m=l.set L (97+(S+j)%26))/\∀ j,j+1<k->txt (l.set L (97+(S+j)%26))∈ns)) (m.length=l.length) (∀ c,m.set L c=l.set L c) (∀ c∈m,97<=c/\c<=122) (E2 λ(o g:Option V)=>B=[O (.ref a),O (.int d),O (.str abc),O (.ref r),O (.int (0+i)),O (.int x),O (.int (1+x%8)),O (.int (x/8%5)),O (.str (txt m)),O (.int (x/7%(1+x%8))),o,g]))
    ⟨rfl,l,.inr ⟨.inl rfl,λj hj=>y9 hj (Cs _)⟩,rfl,λ_=>rfl,lc,o,g,rfl⟩ ?_ ?_⟩
   ·rintro k B I hk ⟨rfl,m,u,lm,C,mc,v10,v11,rfl⟩;exists _,U,_,U,r,_,U,.inl (SqL.of R),U,aR ns,_,rfl;show if inV (.str (txt m)) (ns.map V.str)=JO then _ else _
    rw[VC];erw[ifD (λv=>?_) (λv=>?_)]
    ·have b0:0<=(x+((0:Int)+k))%26:=Al _ (by decide);have b1:(x+((0:Int)+k))%26<26:=x8 _ (by decide);exists _,U,_,U,_,U,_,_,U,U,_,_,U,U,(by show(0:Int)<26; decide),abc,_,_,rfl,rfl,(by decide),XS b0 b1;have lz:(txt m).length<=sizeLine:=by rw[qK,lm,ll]; rwa[f9 w8 (by decide)]
     have es:(97+((x+((0:Int)+k))%26).toNat)=97+(S+k)%26:=by lia
     have c1:Dm (txt m) JN (O (x/7%(1+x%8)))++chS (97+((x+((0:Int)+k))%26).toNat)++Dm (txt m) (O (x/7%(1+x%8)+1)) JN=txt (l.set L (97+(S+k)%26)):=by
      rw[epl,Ys (by lia),es,C]
     erw[_,rfl,_,rfl,_,rfl,txt m,rfl,lz,_,rfl,_,_,rfl,rfl,?_,_,rfl,_,rfl,_,_,rfl,rfl,_,rfl,txt m,rfl,lz,_,_,rfl,rfl,?_,?_]
     ·rwa[f9 (Fe (F3 _ _ _) (e8 1)) (by rw[qK,lm,ll]; exact f9 (GD w8 1) (by decide))]
     ·rw[strLen_append];rwa[f9 (Fe (Fe (F3 _ _ _) (e8 1)) (F3 _ _ _)) (by rw[qK,lm,ll]; exact f9 (Fe (GD w8 1) w8) (by decide))]
     ·erw[rfl,l.set L (97+(S+k)%26),.inr ⟨.inr ⟨k,rfl,rfl⟩,λj hj=>?_⟩,Ex,λc=>List.set_set _,λc J=>?_,_,_,by rw[<- c1]; rfl]
      ·rcases u with u | ⟨u,G⟩
       ·rwa[y9 v u]
       ·by_cases e:j+1=k
        ·rcases u with u | ⟨j0,e0,rfl⟩
         ·lia
         ·rw[show j=j0 by lia];rwa[v]
        ·rwa[G j (by lia)]
      ·rcases Fi J with J | J
       ·rwa[lc c J]
       ·lia
    ·rwa[rfl,m,.inl v,lm,C,mc,_,_,rfl]
   ·rintro B I ⟨rfl,m,u,lm,C,mc,v10,v11,rfl⟩;have out:txt m ∉ ns:=by
     rcases u with u | ⟨u,G⟩
     ·rwa[u]
     ·intro v;erw[Wa (l:=l) (p:=L) (r:=S) plt (ws:=ns) (by lia) λj hj=>?_];by_cases e:j+1<26
      ·rwa[G j e]
      ·rcases u with u | ⟨j0,e0,rfl⟩
       ·lia
       ·rw[show j=j0 by lia];rwa[v]
    exists _,U,.inl ⟨U,_,SqL.of R⟩,_,U,r,_,_,U,U,R,zL (by rw[b7]; lia);erw[ns++[txt m],s12.putNew N,?_,by rw[f8,ln]; rfl,λn X=>?_,?_,_,_,_,_,_,_,_,_,rfl]
    ·rw[zA,e7];rfl
    ·rcases l7.mp X with X | X
     ·rwa[M n X]
     ·rw[f6] at X;rw[X];rwa[cG (by lia) (by lia) mc]
    ·erw[Fu.mpr ⟨nd,by simp,λx hx y hy=>?_⟩];rw[f6] at hy;rw[hy];rwa[λz=>out (z ▸ hx)]
 ·rintro B H1 ⟨ns,s1,er,ln,M,nd,u4,u5,u6,u7,u8,u9,o,g,rfl⟩;rwa[_,rfl,q r ns H1 s1 N er (by rw[ln,Bq]) M nd]
def rz(_:c5):Sp:=λe H Q _=>E4 λ(d:c7) (v:V) (S:BS) (D:Deed)=>A7 (e=[.ref d,v]) (Rep H D.dt v) (ZU H d S) (okD S D) (Few S) (gW S) (∀(d':c7)(c:Hp),Same H c->H d'=JN->LwN H c d' (aft S D)->Q (.ref d') c)
def cf(F:Fun K "_law_after" "_law_after" vb f fd)(Z:Zs mg)(CB:Cb P w mg base)  : yQ P w K mg base CX0 1 f fd ["_law_m","_law_deed"] (rz K):=by
 specialize lK
 ·obtain⟨d,v,S,D,rfl,_⟩:=h;rfl
 obtain⟨d,v,S,D,rfl,rep,⟨m,b,r,n,lw⟩,ok,few,fr,q⟩:=h;obtain⟨mk,hm,km⟩:=lw.ma;obtain⟨bk,hb,kb⟩:=lw.ba;obtain⟨rs,hr1,kr⟩:=lw.ru;obtain⟨nk,hn,kn⟩:=lw.no;have lm:mk.length=S.marks.length:=by rw[km.length,lW]
 have ln:nk.length=S.notes.length:=by rw[kn.length,Zc]
 have lr:rs.length=S.runs.length:=by rw[kr.length,b7]
 have fm:=few.ma;have fr':=few.ru;have fn:=few.no;have fb:=few.ba;have lb:bk.length=S.banks.length:=by rw[kb.length,Vj]
 have dg:∀{H':Hp}{k:j3}{x:V},Same H H'->vS (lwK m b r n S.coming) (.inr k)=O x->dk H' d (.str k) (O x):=λ{H' k x} s e=>.inl ⟨_,.inr k,Rd.same lw.at_ s,rfl,e.symm⟩
 refine'⟨_,(zC (zU 2 lK.nd (gT (wF zS (xF rE rfl Z.dict wk (zI (zN (zZ hr) (pv 0) zS (λ_ _=>rfl)) zM)) (wF zS (xF rE rfl Z.dict wk (zI (zN (zZ hr) (pv 0) zS (λ_ _=>rfl)) zM)) (wF zS (xF qi rfl Z.list rZ (zI (zN (zZ hr) (pv 0) zS (λ_ _=>rfl)) zM)) fF))) rfl rfl (λz=>nomatch z) (by decide)))
   (zC (uJ (zZ hr) (pv 2) zS (xF rE rfl Z.dict wk (zI (zN (zZ hr) (pv 0) zS (λ_ _=>rfl)) zM)) rfl)
   (zC (uJ (zZ hr) (pv 2) zS (zN (zZ hr) (pv 0) zS (λ_ _=>rfl)) rfl)
   (zC (xI (xQ iG ?_ ?_ (by with_unfolding_all rfl)) (zF (uJ (zZ hr) (zN (zZ hr) (pv 2) zS (λ_ _=>rfl)) ?_ (tG hX (pv 1) (sX wP) zn) rfl)) (zF (xI ?_ (zF (zW (pK (zN (zZ hr) (pv 2) zS (λ_ _=>rfl)) ?_ ⟨rfl,rfl,rfl,rfl⟩))) (zF (xI ?_ (zF (uJ (zZ hr) (zN (zZ hr) (pv 2) zS (λ_ _=>rfl)) ?_ ?_ rfl)) (zF (xI ?_ (zF (zW (pK (zN (zZ hr) (pv 2) zS (λ_ _=>rfl)) ?_ ⟨rfl,rfl,rfl,rfl⟩))) (zF (xI ?_ (zF (zW (zu (zN (zZ hr) (pv 2) zS (λ_ _=>rfl)) (zI (tG hX (pv 1) (sX wP) zn) zM)))) (zF (xI ?_ (zF (wr (tG hX (pv 1) (sX wP) zn) (Uh (zN (zZ hr) (pv 2) zS (λ_ _=>rfl)) ?_ YL))) (zF (xI ?_ (zF (zW (pK (zN (zZ hr) (pv 2) zS (λ_ _=>rfl)) ?_ ⟨rfl,rfl,rfl,rfl⟩))) (zC (uJ (zZ hr) (zN (zZ hr) (pv 2) zS (λ_ _=>rfl)) (zN (zZ hr) (pv 0) zS (λ_ _=>rfl)) (pv 1) rfl)
   (zF (uJ (zZ hr) (pv 2) zS (qC eS (zN (zZ hr) (pv 0) zS (λ_ _=>rfl)) wP) rfl))))))))))))))))
   (zF (zO (pv 2))))))),?_⟩
 nofun
 intro p hp;have s1:=zB hp (.dK []);erw[_,rfl,d,.ref m,rfl,dg s1 vH,m,mk,rfl,Rd.same hm s1,λJ hmc=>?_];have s2:=s1.trans (zB hmc (.dK mk));erw[_,rfl,d,.ref b,rfl,dg s2 lU,b,bk,rfl,Rd.same hb s2,λM hbc=>?_];have s3:=s2.trans (zB hbc (.dK bk));erw[_,rfl,d,.ref r,rfl,dg s3 ua,r,rs,rfl,.inl (SqL.of (s3 _ _ hr1)),λN hrc=>?_];have s4:=s3.trans (zB hrc (.lst rs));have ep1:upd H p (.dK []) p=O (.dK []):=zA;have npm:p≠J:=zG ep1 hmc;have ep2:=(zB hmc (.dK mk)) _ _ ep1;have em2:upd (upd H p (.dK [])) J (.dK mk) J=O (.dK mk):=zA;have npb:p≠M:=zG ep2 hbc;have nmb:J≠M:=zG em2 hbc;have ep3:=(zB hbc (.dK bk)) _ _ ep2;have em3:=(zB hbc (.dK bk)) _ _ em2;have eb3:upd (upd (upd H p (.dK [])) J (.dK mk)) M (.dK bk) M=O (.dK bk):=zA;have npr:p≠N:=zG ep3 hrc;have nmr:J≠N:=zG em3 hrc;have nbr:M≠N:=zG eb3 hrc;have ep4:=(zB hrc (.lst rs)) _ _ ep3;have em4:=(zB hrc (.lst rs)) _ _ em3;have eb4:=(zB hrc (.lst rs)) _ _ eb3;have er4:upd (upd (upd (upd H p (.dK [])) J (.dK mk)) M (.dK bk)) N (.lst rs) N=O (.lst rs):=zA;generalize upd (upd (upd (upd H p (.dK [])) J (.dK mk)) M (.dK bk)) N (.lst rs)=H4 at s4 ep4 em4 eb4 er4;exists ep4,[(.inr "marks",.ref J),(.inr "banks",.ref M),(.inr "runs",.ref N)],U,(show 3<=15 by decide);rw[aP];have s5:Same H (upd H4 p (.dK [(.inr "marks",.ref J),(.inr "banks",.ref M),(.inr "runs",.ref N)])):=λx o e=>by rw[zD (zG e hp)]; rwa[s4 x o e]
 erw[_,rfl,d,.ref n,rfl,dg s5 rY,n,nk,rfl,Rd.same hn s5,λI hnc=>?_];have npn:p≠I:=zG zA hnc;have hnc4:H4 I=none:=by rw[zD npn.symm] at hnc; rwa[hnc]
 have nmn:J≠I:=zG em4 hnc4;have nbn:M≠I:=zG eb4 hnc4;have nrn:N≠I:=zG er4 hnc4;have s6:=s5.trans (zB hnc (.dK nk));exists _,U,p,_,U,oV.k (k:=.inr "notes") (by rw[zD npn,zA]) (zL (by show 3<=1000; decide));rw[WB];have s7:Same H (upd (upd (upd H4 p (.dK [(.inr "marks",.ref J),(.inr "banks",.ref M),(.inr "runs",.ref N)])) I (.dK nk)) p (.dK [(.inr "marks",.ref J),(.inr "banks",.ref M),(.inr "runs",.ref N),(.inr "notes",.ref I)])):=λx o e=>by rw[zD (zG e hp)]; rwa[s6 x o e]
 exists _,U,d,.int S.coming,U,dg s7 ny,_,U,p,_,U,oV.k (k:=.inr "next") zA (zL (by show 4<=1000; decide));rw[VH];have keep:∀ x o,x≠p->x≠I->H4 x=O o->upd (upd (upd (upd H4 p (.dK [(.inr "marks",.ref J),(.inr "banks",.ref M),(.inr "runs",.ref N)])) I (.dK nk)) p (.dK [(.inr "marks",.ref J),(.inr "banks",.ref M),(.inr "runs",.ref N),(.inr "notes",.ref I)])) p (.dK [(.inr "marks",.ref J),(.inr "banks",.ref M),(.inr "runs",.ref N),(.inr "notes",.ref I),(.inr "next",.int S.coming)]) x=O o:=λx o h1 h2 e=>by
  rw[zD h1,zD h1,zD h2,zD h1]; rwa[e]
 have em:=keep _ _ npm.symm nmn em4;have eb:=keep _ _ npb.symm nbn eb4;have er:=keep _ _ npr.symm nrn er4;have s8:Same H _:=λx o e=>keep x o (zG e hp) (zG (s5 _ _ e) hnc) (s4 _ _ e);have en:upd (upd (upd (upd H4 p (.dK [(.inr "marks",.ref J),(.inr "banks",.ref M),(.inr "runs",.ref N)])) I (.dK nk)) p (.dK [(.inr "marks",.ref J),(.inr "banks",.ref M),(.inr "runs",.ref N),(.inr "notes",.ref I)])) p (.dK [(.inr "marks",.ref J),(.inr "banks",.ref M),(.inr "runs",.ref N),(.inr "notes",.ref I),(.inr "next",.int S.coming)]) I=O (.dK nk):=by rw[zD npn.symm,zD npn.symm,zA]
 have ep:upd (upd (upd (upd H4 p (.dK [(.inr "marks",.ref J),(.inr "banks",.ref M),(.inr "runs",.ref N)])) I (.dK nk)) p (.dK [(.inr "marks",.ref J),(.inr "banks",.ref M),(.inr "runs",.ref N),(.inr "notes",.ref I)])) p (.dK [(.inr "marks",.ref J),(.inr "banks",.ref M),(.inr "runs",.ref N),(.inr "notes",.ref I),(.inr "next",.int S.coming)]) p=O (.dK [(.inr "marks",.ref J),(.inr "banks",.ref M),(.inr "runs",.ref N),(.inr "notes",.ref I),(.inr "next",.int S.coming)]):=zA;clear keep s7 s6;generalize upd (upd (upd (upd H4 p (.dK [(.inr "marks",.ref J),(.inr "banks",.ref M),(.inr "runs",.ref N)])) I (.dK nk)) p (.dK [(.inr "marks",.ref J),(.inr "banks",.ref M),(.inr "runs",.ref N),(.inr "notes",.ref I)])) p (.dK [(.inr "marks",.ref J),(.inr "banks",.ref M),(.inr "runs",.ref N),(.inr "notes",.ref I),(.inr "next",.int S.coming)])=H8 at s8 ep em eb er en ⊢;have ep:H8 p=O (.dK (lwK J M N I S.coming)):=ep;have km8:=km.to (.of s8);have kb8:=kb.to (.of s8);have kr8:=kr.to (.of s8);have kn8:=kn.to (.of s8);have rep8:=rep.to (.of s8);have nmH:H J=none:=s1.free hmc;have nrH:H N=none:=s3.free hrc;have nbH:H M=none:=s2.free hbc;have nnH:H I=none:=s5.free hnc;obtain⟨t,xs,rfl,ht⟩:=Wf rep8;erw[_,rfl,t,_,0,.str (WE D),rfl,rfl,.inr (SqT.of ht),qB (xs:=.str (WE D)::xs) (j:=0) rfl,sz2,λz hz=>?_];have sz:=zB hz (.tup [.str "mark",.str "move"]);exists z,_,U,.inr (SqT.of zA),U,U,_,rfl;have s9:=s8.trans sz;have R:=sz _ _ ep;have Y:=sz _ _ em;have X:=sz _ _ eb;have er9:=sz _ _ er;have T:=sz _ _ en;have km9:=km8.to (.of sz);have kb9:=kb8.to (.of sz);have kr9:=kr8.to (.of sz);have kn9:=kn8.to (.of sz);have g:=rep8.to (.of sz);generalize upd H8 z (.tup [.str "mark",.str "move"])=H9 at s9 R Y X er9 T km9 kb9 kr9 kn9 g ⊢
 match D,g,ok,q with
 | .mark nm x y,g,ok,q =>
  obtain⟨_,e0,u⟩:=gH g;cases e0;have L:Sq K H9 t _:=.inr (SqT.of u);erw[pS ?_];refine⟨_,U,_,U,t,_,U,SqT.of u,(λz=>y9 z.1 (by show ¬ HT.sIx 4 0 (O 2)=0; decide)),λc hc=>?_⟩;have B:=zB hc (.tup [.int x,.int y]);have em10:=B _ _ Y;exists _,U,p,.ref J,U,.inl ⟨_,.inr "marks",.inl (B _ _ R),U,vH.symm⟩,_,U,t,_,1,.str nm,U,U,.inr (SqT.of (B _ _ u)),U,J,_,U,oV.k (k:=.inr nm) em10 (zL (by lia)),_,rfl;have C:=wO (o:=.dK (vR mk (.inr nm) (.ref c))) em10;have G:=oK em10;erw[q p _ (λx o e=>by rw[zD (zG e nmH)]; rwa[B _ _ (s9 _ _ e)]) hp ⟨J,M,N,I,nrH,.inl ?_,⟨_,.inl zA,?_⟩,⟨bk,.inl ?_,(kb9.to (.of B)).sam C G⟩,⟨rs,?_,(kr9.to (.of B)).sam C G⟩,⟨nk,.inl ?_,(kn9.to (.of B)).sam C G⟩⟩]
  ·rw[zD npm]; rwa[B _ _ R]
  ·have:=((km9.to (.of B)).put (k:=.inr nm) (zj (p:=(x,y)) zA)).sam C G;rw[sQ (kW ok.2.1)] at this;show wC _ _ (mkE (S.marks++[(nm,x,y)]));rw[gK];rwa[this]
  ·rw[zD nmb.symm]; rwa[B _ _ X]
  ·rw[zD nmr.symm]; rwa[B _ _ er9]
  ·rw[zD nmn.symm]; rwa[B _ _ T]
 | .move nm x y,g,ok,q =>
  obtain⟨_,e0,u⟩:=VR g;cases e0;have L:Sq K H9 t _:=.inr (SqT.of u);erw[pS ?_];refine⟨_,U,_,U,t,_,U,SqT.of u,(λz=>y9 z.1 (by show ¬ HT.sIx 4 0 (O 2)=0; decide)),λc hc=>?_⟩;have B:=zB hc (.tup [.int x,.int y]);have em10:=B _ _ Y;exists _,U,p,.ref J,U,.inl ⟨_,.inr "marks",.inl (B _ _ R),U,vH.symm⟩,_,U,t,_,1,.str nm,U,U,.inr (SqT.of (B _ _ u)),U,J,_,U,oV.k (k:=.inr nm) em10 (zL (by lia)),_,rfl;have C:=wO (o:=.dK (vR mk (.inr nm) (.ref c))) em10;have G:=oK em10;erw[q p _ (λx o e=>by rw[zD (zG e nmH)]; rwa[B _ _ (s9 _ _ e)]) hp ⟨J,M,N,I,nrH,.inl ?_,⟨_,.inl zA,?_⟩,⟨bk,.inl ?_,(kb9.to (.of B)).sam C G⟩,⟨rs,?_,(kr9.to (.of B)).sam C G⟩,⟨nk,.inl ?_,(kn9.to (.of B)).sam C G⟩⟩]
  ·rw[zD npm]; rwa[B _ _ R]
  ·have:=((km9.to (.of B)).put (k:=.inr nm) (zj (p:=(x,y)) zA)).sam C G;rw[VG ok.1] at this;rwa[this]
  ·rw[zD nmb.symm]; rwa[B _ _ X]
  ·rw[zD nmr.symm]; rwa[B _ _ er9]
  ·rw[zD nmn.symm]; rwa[B _ _ T]
 | .unmark nm,g,ok,q =>
  obtain⟨_,e0,u⟩:=aQ g;cases e0;have L:Sq K H9 t _:=.inr (SqT.of u);erw[uY ?_];exists _,U,t,_,0,.str "unmark",U,U,L,U,U,_,rfl;erw[pS ?_];obtain⟨pm,epm⟩:=j7.mp ok.1;obtain⟨v,ev,_⟩:=km9.get (k:=.inr nm) (d:=ptD pm) (by rw[se,epm]; rfl);exists _,U,p,.ref J,U,.inl ⟨_,.inr "marks",.inl R,U,vH.symm⟩,J,U,.inl ⟨mk,.inl Y⟩,_,U,t,_,1,.str nm,U,U,L,U,mk,.inr nm,v,Y,U,ev,_,rfl;have C:=wO (o:=.dK (pc mk (.inr nm))) Y;have G:=oK Y;erw[q p _ (λx o e=>by rw[zD (zG e nmH)]; rwa[s9 _ _ e]) hp ⟨J,M,N,I,nrH,.inl ?_,⟨_,.inl zA,?_⟩,⟨bk,.inl ?_,kb9.sam C G⟩,⟨rs,?_,kr9.sam C G⟩,⟨nk,.inl ?_,kn9.sam C G⟩⟩]
  ·rw[zD npm]; rwa[R]
  ·have:=(km9.drop (k:=.inr nm)).sam C G;rw[YN] at this;rwa[this]
  ·rw[zD nmb.symm]; rwa[X]
  ·rw[zD nmr.symm]; rwa[er9]
  ·rw[zD nmn.symm]; rwa[T]
 | .bank nm cs,g,ok,q =>
  obtain⟨_,cc,ps,e0,u,hcc,cn,rc0⟩:=br g;cases e0;have L:Sq K H9 t _:=.inr (SqT.of u);erw[uY ?_];exists _,U,t,_,0,.str "bank",U,U,L,U,U,_,rfl;erw[uY ?_];exists _,U,t,_,0,.str "bank",U,U,L,U,U,_,rfl;erw[pS ?_];obtain⟨_,_,_,e0,h0,_,_,rc9⟩:=br g;cases e0;rw[u] at h0;cases h0;exists _,U,t,_,2,.ref cc,U,U,L,U,_,U,p,.ref M,U,.inl ⟨_,.inr "banks",.inl R,U,lU.symm⟩,_,U,t,_,1,.str nm,U,U,L,U,M,_,U,oV.k (k:=.inr nm) X (zL (by lia)),_,rfl;have C:=wO (o:=.dK (vR bk (.inr nm) (.ref cc))) X;have G:=oK X;erw[q p _ (λx o e=>by rw[zD (zG e nbH)]; rwa[s9 _ _ e]) hp ⟨J,M,N,I,nrH,.inl ?_,⟨mk,.inl ?_,km9.sam C G⟩,⟨_,.inl zA,?_⟩,⟨rs,?_,kr9.sam C G⟩,⟨nk,.inl ?_,kn9.sam C G⟩⟩]
  ·rw[zD npb]; rwa[R]
  ·rw[zD nmb]; rwa[Y]
  ·have:=(kb9.put (k:=.inr nm) rc9).sam C G;rw[sQ (Yd ok.2.1)] at this;show wC _ _ (bkE (S.banks++[(nm,cs)]));rw[VZ];rwa[this]
  ·rw[zD nbr.symm]; rwa[er9]
  ·rw[zD nbn.symm]; rwa[T]
 | .level nm,g,ok,q =>
  obtain⟨_,e0,u⟩:=YY g;cases e0;have L:Sq K H9 t _:=.inr (SqT.of u);erw[uY ?_];exists _,U,t,_,0,.str "level",U,U,L,U,U,_,rfl;erw[uY ?_];exists _,U,t,_,0,.str "level",U,U,L,U,U,_,rfl;erw[uY ?_];exists _,U,t,_,0,.str "level",U,U,L,U,U,_,rfl;erw[pS ?_];obtain⟨dv,lk⟩:=Tt (l:=S.banks) ok;obtain⟨v,ev,_⟩:=kb9.get lk;exists _,U,p,.ref M,U,.inl ⟨_,.inr "banks",.inl R,U,lU.symm⟩,M,U,.inl ⟨bk,.inl X⟩,_,U,t,_,1,.str nm,U,U,L,U,bk,.inr nm,v,X,U,ev,_,rfl;have C:=wO (o:=.dK (pc bk (.inr nm))) X;have G:=oK X;erw[q p _ (λx o e=>by rw[zD (zG e nbH)]; rwa[s9 _ _ e]) hp ⟨J,M,N,I,nrH,.inl ?_,⟨mk,.inl ?_,km9.sam C G⟩,⟨_,.inl zA,?_⟩,⟨rs,?_,kr9.sam C G⟩,⟨nk,.inl ?_,kn9.sam C G⟩⟩]
  ·rw[zD npb]; rwa[R]
  ·rw[zD nmb]; rwa[Y]
  ·have:=(kb9.drop (k:=.inr nm)).sam C G;rw[Ye] at this;rwa[this]
  ·rw[zD nbr.symm]; rwa[er9]
  ·rw[zD nbn.symm]; rwa[T]
 | .right k x y,g,ok,q =>
  obtain⟨_,e0,u⟩:=Xf g;cases e0;have L:Sq K H9 t _:=.inr (SqT.of u);erw[uY ?_];exists _,U,t,_,0,.str "right",U,U,L,U,U,_,rfl;erw[uY ?_];exists _,U,t,_,0,.str "right",U,U,L,U,U,_,rfl;erw[uY ?_];exists _,U,t,_,0,.str "right",U,U,L,U,U,_,rfl;erw[uY ?_];exists _,U,t,_,0,.str "right",U,U,L,U,U,_,rfl;erw[uY ?_];exists _,U,t,_,0,.str "right",U,U,L,U,U,_,rfl;erw[pS ?_];refine⟨_,U,_,U,t,_,U,SqT.of u,(λz=>y9 z.1 (by show ¬ HT.sIx 4 0 (O 2)=0; decide)),λc hc=>?_⟩;have B:=zB hc (.tup [.int x,.int y]);have er10:=B _ _ er9;obtain⟨i,rfl⟩:=Bw ok.1;have hi:i<S.runs.length:=by have:=ok.2.1; lia
  exists _,U,p,.ref N,U,.inl ⟨_,.inr "runs",.inl (B _ _ R),U,ua.symm⟩,_,U,t,_,1,.int (i:Int),U,U,.inr (SqT.of (B _ _ u)),U,N,rs,(i:Int),i,U,U,er10,UY (by rw[lr]; rwa[hi]),_,rfl;have C:=wO (o:=.lst (rs.set i (.ref c))) er10;have G:=vN er10;erw[q p _ (λx o e=>by rw[zD (zG e nrH)]; rwa[B _ _ (s9 _ _ e)]) hp ⟨J,M,N,I,nrH,.inl ?_,⟨mk,.inl ?_,(km9.to (.of B)).sam C G⟩,⟨bk,.inl ?_,(kb9.to (.of B)).sam C G⟩,⟨_,zA,?_⟩,⟨nk,.inl ?_,(kn9.to (.of B)).sam C G⟩⟩]
  ·rw[zD npr]; rwa[B _ _ R]
  ·rw[zD nmr]; rwa[B _ _ Y]
  ·rw[zD nbr]; rwa[B _ _ X]
  ·show xT _ ((S.runs.set i (x,y)).map ptD) _;rw[List.map_set];exact(xT.set (zj (p:=(x,y)) zA) i (kr9.to (.of B))).sam C G
  ·rw[zD nrn.symm]; rwa[B _ _ T]
 | .sail x y,g,ok,q =>
  obtain⟨_,e0,u⟩:=gB g;cases e0;have L:Sq K H9 t _:=.inr (SqT.of u);erw[uY ?_];exists _,U,t,_,0,.str "sail",U,U,L,U,U,_,rfl;erw[uY ?_];exists _,U,t,_,0,.str "sail",U,U,L,U,U,_,rfl;erw[uY ?_];exists _,U,t,_,0,.str "sail",U,U,L,U,U,_,rfl;erw[uY ?_];exists _,U,t,_,0,.str "sail",U,U,L,U,U,_,rfl;erw[pS ?_];refine⟨_,U,p,.ref N,U,.inl ⟨_,.inr "runs",.inl R,U,ua.symm⟩,.inl ⟨U,_,SqL.of er9⟩,_,U,_,U,t,_,U,SqT.of u,(λz=>y9 z.1 (by show ¬ HT.sIx 3 0 (O 1)=0; decide)),λc hc=>?_⟩;have B:=zB hc (.tup [.int x,.int y]);have er10:=B _ _ er9;exists N,_,.ref c,U,U,er10,zL (by lia),_,rfl;have C:=wO (o:=.lst (rs++[.ref c])) er10;have G:=vN er10;erw[q p _ (λx o e=>by rw[zD (zG e nrH)]; rwa[B _ _ (s9 _ _ e)]) hp ⟨J,M,N,I,nrH,.inl ?_,⟨mk,.inl ?_,(km9.to (.of B)).sam C G⟩,⟨bk,.inl ?_,(kb9.to (.of B)).sam C G⟩,⟨_,zA,?_⟩,⟨nk,.inl ?_,(kn9.to (.of B)).sam C G⟩⟩]
  ·rw[zD npr]; rwa[B _ _ R]
  ·rw[zD nmr]; rwa[B _ _ Y]
  ·rw[zD nbr]; rwa[B _ _ X]
  ·show xT _ ((S.runs++[(x,y)]).map ptD) _;rw[e7];exact(xT.app (kr9.to (.of B)) (.one (zj (p:=(x,y)) zA))).sam C G
  ·rw[zD nrn.symm]; rwa[B _ _ T]
 | .bearing mo nm x1 y1 x2 y2,g,ok,q =>
  obtain⟨_,_,_,e0,u,_⟩:=tH g;cases e0;have L:Sq K H9 t _:=.inr (SqT.of u);erw[uY ?_];exists _,U,t,_,0,.str "bearing",U,U,L,U,U,_,rfl;erw[uY ?_];exists _,U,t,_,0,.str "bearing",U,U,L,U,U,_,rfl;erw[uY ?_];exists _,U,t,_,0,.str "bearing",U,U,L,U,U,_,rfl;erw[uY ?_];exists _,U,t,_,0,.str "bearing",U,U,L,U,U,_,rfl;erw[uY ?_];exists _,U,t,_,0,.str "bearing",U,U,L,U,U,_,rfl;erw[uY ?_];exists _,U,t,_,0,.str "bearing",U,U,L,U,U,_,rfl;erw[uY ?_];exists _,U,_,U,p,.ref I,U,.inl ⟨_,.inr "notes",.inl R,U,rY.symm⟩,_,U,d,.int S.coming,U,dg s9 ny,I,_,U,oV.k (k:=.inl S.coming) T (zL (by lia));have C:=wO (o:=.dK (vR nk (.inl S.coming) (.ref t))) T;have G:=oK T;have s10:Same H (upd H9 I (.dK (vR nk (.inl S.coming) (.ref t)))):=λx o e=>by rw[zD (zG e nnH)]; rwa[s9 _ _ e]
  have ep10:upd H9 I (.dK (vR nk (.inl S.coming) (.ref t))) p=O (.dK (lwK J M N I S.coming)):=by rw[zD npn]; rwa[R]
  exists _,U,d,.int S.coming,U,dg s10 ny,_,_,U,U,_,U,p,_,U,oV.k (k:=.inr "next") ep10 (zL (by show 5<=1000; decide)),_,rfl;rw[oN];have sE2:=wO (o:=.dK (lwK J M N I (S.coming+1))) ep10;have np2:=oK ep10;erw[q p _ (λx o e=>by rw[zD (zG e hp)]; rwa[s10 _ _ e]) hp ⟨J,M,N,I,nrH,.inl zA,⟨mk,.inl ?_,(km9.sam C G).sam sE2 np2⟩,⟨bk,.inl ?_,(kb9.sam C G).sam sE2 np2⟩,⟨rs,?_,(kr9.sam C G).sam sE2 np2⟩,⟨vR nk (.inl S.coming) (.ref t),.inl ?_,?_⟩⟩]
  ·rw[zD npm.symm,zD nmn]; rwa[Y]
  ·rw[zD npb.symm,zD nbn]; rwa[X]
  ·rw[zD npr.symm,zD nrn]; rwa[er9]
  ·rw[zD npn.symm,zA]
  ·have:=((kn9.put (k:=.inl S.coming) g).sam C G).sam sE2 np2;rw[sQ (kh fr)] at this;show wC _ _ (ntE (S.notes++[(S.coming,_)]));rw[gJ];rwa[this]
 | .range mo l1 r1,g,ok,q =>
  obtain⟨_,e0,u⟩:=xo g;cases e0;have L:Sq K H9 t _:=.inr (SqT.of u);erw[uY ?_];exists _,U,t,_,0,.str "range",U,U,L,U,U,_,rfl;erw[uY ?_];exists _,U,t,_,0,.str "range",U,U,L,U,U,_,rfl;erw[uY ?_];exists _,U,t,_,0,.str "range",U,U,L,U,U,_,rfl;erw[uY ?_];exists _,U,t,_,0,.str "range",U,U,L,U,U,_,rfl;erw[uY ?_];exists _,U,t,_,0,.str "range",U,U,L,U,U,_,rfl;erw[uY ?_];exists _,U,t,_,0,.str "range",U,U,L,U,U,_,rfl;erw[uY ?_];exists _,U,_,U,p,.ref I,U,.inl ⟨_,.inr "notes",.inl R,U,rY.symm⟩,_,U,d,.int S.coming,U,dg s9 ny,I,_,U,oV.k (k:=.inl S.coming) T (zL (by lia));have C:=wO (o:=.dK (vR nk (.inl S.coming) (.ref t))) T;have G:=oK T;have s10:Same H (upd H9 I (.dK (vR nk (.inl S.coming) (.ref t)))):=λx o e=>by rw[zD (zG e nnH)]; rwa[s9 _ _ e]
  have ep10:upd H9 I (.dK (vR nk (.inl S.coming) (.ref t))) p=O (.dK (lwK J M N I S.coming)):=by rw[zD npn]; rwa[R]
  exists _,U,d,.int S.coming,U,dg s10 ny,_,_,U,U,_,U,p,_,U,oV.k (k:=.inr "next") ep10 (zL (by show 5<=1000; decide)),_,rfl;rw[oN];have sE2:=wO (o:=.dK (lwK J M N I (S.coming+1))) ep10;have np2:=oK ep10;erw[q p _ (λx o e=>by rw[zD (zG e hp)]; rwa[s10 _ _ e]) hp ⟨J,M,N,I,nrH,.inl zA,⟨mk,.inl ?_,(km9.sam C G).sam sE2 np2⟩,⟨bk,.inl ?_,(kb9.sam C G).sam sE2 np2⟩,⟨rs,?_,(kr9.sam C G).sam sE2 np2⟩,⟨vR nk (.inl S.coming) (.ref t),.inl ?_,?_⟩⟩]
  ·rw[zD npm.symm,zD nmn]; rwa[Y]
  ·rw[zD npb.symm,zD nbn]; rwa[X]
  ·rw[zD npr.symm,zD nrn]; rwa[er9]
  ·rw[zD npn.symm,zA]
  ·have:=((kn9.put (k:=.inl S.coming) g).sam C G).sam sE2 np2;rw[sQ (kh fr)] at this;show wC _ _ (ntE (S.notes++[(S.coming,_)]));rw[gJ];rwa[this]
 | .strike k,g,ok,q =>
  obtain⟨_,e0,u⟩:=nV g;cases e0;have L:Sq K H9 t _:=.inr (SqT.of u);erw[uY ?_];exists _,U,t,_,0,.str "strike",U,U,L,U,U,_,rfl;erw[uY ?_];exists _,U,t,_,0,.str "strike",U,U,L,U,U,_,rfl;erw[uY ?_];exists _,U,t,_,0,.str "strike",U,U,L,U,U,_,rfl;erw[uY ?_];exists _,U,t,_,0,.str "strike",U,U,L,U,U,_,rfl;erw[uY ?_];exists _,U,t,_,0,.str "strike",U,U,L,U,U,_,rfl;erw[uY ?_];exists _,U,t,_,0,.str "strike",U,U,L,U,U,_,rfl;erw[pS ?_];obtain⟨dv,lk⟩:=fX (l:=S.notes) ok;obtain⟨v,ev,_⟩:=kn9.get lk;exists _,U,p,.ref I,U,.inl ⟨_,.inr "notes",.inl R,U,rY.symm⟩,I,U,.inl ⟨nk,.inl T⟩,_,U,t,_,1,.int k,U,U,L,U,nk,.inl k,v,T,U,ev,_,rfl;have C:=wO (o:=.dK (pc nk (.inl k))) T;have G:=oK T;erw[q p _ (λx o e=>by rw[zD (zG e nnH)]; rwa[s9 _ _ e]) hp ⟨J,M,N,I,nrH,.inl ?_,⟨mk,.inl ?_,km9.sam C G⟩,⟨bk,.inl ?_,kb9.sam C G⟩,⟨rs,?_,kr9.sam C G⟩,⟨_,.inl zA,?_⟩⟩]
  ·rw[zD npn]; rwa[R]
  ·rw[zD nmn]; rwa[Y]
  ·rw[zD nbn]; rwa[X]
  ·rw[zD nrn]; rwa[er9]
  ·have:=(kn9.drop (k:=.inl k)).sam C G;rw[eW] at this;rwa[this]
def ko(_:c5):Sp:=λc H Q _=>E2 λ(x y:Int)=>c=[.int x,.int y]/\Q (.int (Ad x.natAbs y.natAbs)) H
def YG(F:Fun K "_law_low" "_law_low" kH f fd)(Z:Zs mg):yQ P w K mg base CX0 1 f fd ["_law_one","_law_other"] (ko K):=by
 specialize pX
 ·obtain⟨x,y,rfl,_⟩:=h;rfl
 obtain⟨x,y,rfl,q⟩:=h
 refine'⟨_,(zC (zU 0 pX.nd ?_)
   (zC (zU 1 pX.nd ?_)
   (zC (pN t9 ?_ (zF (mZ (i:=0) (j:=1) rfl pX.nd rfl rfl (by decide) rfl rfl ?_ rfl)))
   (zF (zO (pv 0)))))),?_⟩
 nofun
 exists _,U,_,U,_,U,_,rfl;refine uk (λc g=>g=H/\E2 λ(a b:Int)=>A4 (c=[O (.int a),O (.int b)]) (0<=a) (0<=b) (Ad a.toNat b.toNat=Ad x.natAbs y.natAbs))
  (λc _=>match c with | [_,O (.int b)]=>b.toNat | _=>0) ⟨rfl,_,_,rfl,by split <;> lia,by split <;> lia,by rw[dG,dG]; rfl⟩ ?_ (λc H Q r m z=>by
   obtain⟨v,l,i,j,p,o,k,n,z⟩:=z;rwa[v,l,i,j,p,o,k,n,m _ _ z])
 rintro c g ⟨rfl,a,b,rfl,h1,h2,h3⟩;exists _,U,_,_,U,U,_,rfl;erw[ifD (λd=>?_) (λd=>?_)]
 ·erw[_,rfl,_,rfl,_,rfl,_,_,rfl,rfl,d,_,_,rfl,⟨rfl,_,_,rfl,h2,Al a (by lia),?_⟩,?_]
  ·rw[kY h1 d]; rwa[h3]
  ·have h4:=x8 a d;show(a%b).toNat<b.toNat;lia
 ·exists _,rfl;have e:b=0:=by lia
  subst e;have h5:a=((Ad x.natAbs y.natAbs:Nat):Int):=by
   rw[<- h3];show a=((Ad a.toNat 0:Nat):Int);rw[Fc];lia
  rw[h5];rwa[q]
def yl(_:c5):Sp:=λd H Q _=>E3 λ(x y z:Int)=>A4 (d=[.int x,.int y,.int z]) (z≠0) (z.natAbs<=10^40) (∀(p:c7)(c:Hp),Same H c->H p=JN->c p=O (.tup ((zw (upL x y z)).map V.int))->Q (.ref p) c)
def hZ(F:Fun K "_law_spot_of" "_law_spot_of" qM f fd)(Z:Zs mg)(C:Cb P w mg base)(o:Has P w K mg base "_law_low" 1 ["_law_one","_law_other"] (ko K)):yQ P w K mg base CX0 2 f fd ["_law_x","_law_y","_law_w"] (yl K):=by
 specialize yp
 ·obtain⟨x,y,z,rfl,_⟩:=h;rfl
 obtain⟨x,y,z,rfl,B,r,q⟩:=h
 refine'⟨_,(zC (xI ?_ (zF (WG (i:=0) (j:=1) (k:=2) rfl yp.nd rfl rfl rfl (by decide) (by decide) (by decide) rfl rfl rfl ?_ rfl)) yE)
   (zC (zU 3 yp.nd ?_)
   (zF (zO ?_)))),?_⟩
 nofun
 exists _,U,_,_,U,U,_,rfl;erw[ifD (λg=>?_) (λd=>?_)]
 ·exists _,U,_,U,_,U,_,U,_,U,_,U,_,_,_,rfl;have u:upL x y z=[-x,-y,-z]:=by unfold upL; rw[y6 g]
  have m:(Ad ((Ad (-x).natAbs (-y).natAbs:Nat):Int).natAbs (-z).natAbs:Nat)=yV [-x,-y,-z]:=gcd3 _ _ _;exists _,U,_,U,-x,-y,U,_,U,_,-z,rfl;rw[m];have v:0<yV [-x,-y,-z]:=uV (n:=-z) (by simp) (by lia);have l:=wf (ns:=[-x,-y,-z]) (n:=-z) (by simp) (by lia);have c:∀ i:Int,yy i (yV [-x,-y,-z]:Int):=λi=>yy.of (by lia) (CU (show(yV [-x,-y,-z]:Int)<=10^40 by lia) (by ac_nf));erw[_,rfl,_,rfl,_,_,rfl,rfl,c _,_,rfl,_,rfl,_,_,rfl,rfl,c _,_,rfl,_,rfl,_,_,rfl,rfl,c _,sz3,λp e=>?_];erw[q p _ (zB e _) e ?_];rw[u];rwa[zA]
 ·have u:upL x y z=[x,y,z]:=by unfold upL; rw[y4 d]
  have m:(Ad ((Ad (x).natAbs (y).natAbs:Nat):Int).natAbs (z).natAbs:Nat)=yV [x,y,z]:=gcd3 _ _ _;exists _,U,_,U,x,y,U,_,U,_,z,rfl;rw[m];have v:0<yV [x,y,z]:=uV (n:=z) (by simp) (by lia);have l:=wf (ns:=[x,y,z]) (n:=z) (by simp) (by lia);have c:∀ i:Int,yy i (yV [x,y,z]:Int):=λi=>yy.of (by lia) (CU (show(yV [x,y,z]:Int)<=10^40 by lia) (by ac_nf));erw[_,rfl,_,rfl,_,_,rfl,rfl,c _,_,rfl,_,rfl,_,_,rfl,rfl,c _,_,rfl,_,rfl,_,_,rfl,rfl,c _,sz3,λp e=>?_];erw[q p _ (zB e _) e ?_];rw[u];rwa[zA]
def iK(K:c5):Sp:=λg H Q _=>E2 λ(l:c7) (c:List Sd)=>A5 (g=[.ref l]) (SqL K H l (yB c)) (du H c) (c.length<=900) (∀(D:c7)(e:List (c7×P3))(d:Hp),Same H d->H D=JN->d D=O (.lst (vX e))->kD d e->e.map (·.2)=c.map (λt=>pt3 (ftL t.2))->Q (.ref D) d)
def Zj(F:Fun K "_law_feet" "_law_feet" pV f fd)(Z:Zs mg)(CB:Cb P w mg base)(yBj:Has P w K mg base "_law_spot_of" 2 ["_law_x","_law_y","_law_w"] (yl K)):yQ P w K mg base CX0 3 f fd ["_law_sides"] (iK K):=by
 specialize ZJ
 ·obtain⟨l,B,rfl,_⟩:=h;rfl
 obtain⟨l,B,rfl,hl,ok,Y,q⟩:=h
 refine'⟨_,(zF (zO (yO (T:=["_law_a","_law_b","_law_c"]) (caps:=[]) ⟨rfl,by ac_nf,by ac_nf,rfl,t5⟩ rfl (yT (pv 0)) (λ_=>(uX rfl (zQ (xO 0 (show(["_law_a","_law_b","_law_c"]:List j3).Nodup by ac_nf)) (zQ (xO 1 (show(["_law_a","_law_b","_law_c"]:List j3).Nodup by ac_nf)) (zQ (xO 2 (show(["_law_a","_law_b","_law_c"]:List j3).Nodup by ac_nf)) xU))))) (λ_=>yH) (λ_=>?_)))),?_⟩
 nofun
 refine⟨_,U,l,U,.inl ⟨⟨_,hl⟩,λc D J=>yI (K:=K) (a:=l) (xs:=yB B) (λi r m g=>A4 (Same H g) (g D=O (.lst m)) (∃ d:List (c7×P3),A4 (m=vX d) (d.length=i) (kD g d) (d.map (·.2)=(B.take i).map (λt=>pt3 (ftL t.2)))) (E3 λ(u v z:Option V)=>r=[u,v,z]))
  ⟨zB J _,zA,⟨[],rfl,rfl,(λt ht=>nomatch ht),rfl⟩,JN,JN,JN,rfl⟩ (λi r m g _ I=>by obtain⟨e1,e2,_⟩:=I; rwa[e1.seq hl,e2]) ?_ ?_⟩⟩
 ·rintro i v r m g hi ⟨x,o,⟨d,rfl,S,e,y⟩,u,v',z,rfl⟩;obtain⟨t,gt,rfl,hil⟩:=rM hi;obtain⟨L,R,c1,c2,c3⟩:=ok t (f7 gt);have z1:=yJ t.2.1 t.2.1 c1 c1;have z2:=yJ t.2.2.1 t.2.2.1 c2 c2;have pos:=au R;exists t.1,_,U,SqT.of (x _ _ L),U,.int t.2.1,_,U,.int t.2.2.1,_,U,.int t.2.2.2,_,U,rfl;refine⟨_,U,_,U,_,_,U,U,vC (by lia),_,U,_,U,_,_,U,U,vC (by lia),_,U,_,U,_,_,U,U,vC (by lia),_,U,_,U,_,_,U,U,vC (by lia),_,_,U,U,
   t.2.1*t.2.2.2,t.2.2.1*t.2.2.2,t.2.1*t.2.1+t.2.2.1*t.2.2.1,rfl,by lia,by lia,λp N n X ep=>?_⟩
  obtain⟨C,_⟩:=UJ (t:=t.2) R;have M:N p=O (.tup [.int (pt3 (ftL t.2)).1,.int (pt3 (ftL t.2)).2.1,.int (pt3 (ftL t.2)).2.2]):=by
   have z:N p=O (.tup ((ftL t.2).map V.int)):=ep;rw[z,C.list];rfl
  have G:p≠D:=λz=>by rw[z,o] at X; cases X
  erw[n _ _ o,zL (by simp only[b7]; lia),(x.trans n).putNew J,zA,⟨d++[(p,pt3 (ftL t.2))],by simp[vX],by rw[f8,S]; rfl,λu j=>?_,by rw[yZ gt,e7,e7,y]; rfl⟩,_,_,_,rfl];rcases l7.mp j with j | j
  ·obtain⟨g1,g2⟩:=e u j;rwa[by rw[zD (sr (n _ _ g1) (n _ _ o) (by intro z; cases z))]; exact n _ _ g1,g2]
  ·rw[f6] at j;subst j;erw[?_,C.pos,C.low];show upd N D _ p=_;rw[zD G];rwa[M]
 ·rintro r m g ⟨x,o,⟨d,rfl,S,e,y⟩,u,v',z,rfl⟩;rw[yA,j9] at y;rwa[q D d g x J o e y]
def jF(K:c5):Sp:=λd H Q _=>E4 λ(a b:c7) (e s:P3)=>A11 (d=[.ref a,.ref b]) (Sq K H a [.int e.1,.int e.2.1,.int e.2.2]) (Sq K H b [.int s.1,.int s.2.1,.int s.2.2]) (e.1.natAbs<=10^9) (e.2.1.natAbs<=10^9) (e.2.2.natAbs<=10^13) (s.1.natAbs<=10^9) (s.2.1.natAbs<=10^9) (s.2.2.natAbs<=10^13) (tn e s=0->Q .non H) (tn e s≠0->∀(p:c7)(c:Hp),Same H c->H p=JN->c p=O (.tup ((crL e s).map V.int))->Q (.ref p) c)
def bR(F:Fun K "_law_meet" "_law_meet" pZ f fd)(Z:Zs mg)(C:Cb P w mg base)(m:Has P w K mg base "_law_spot_of" 2 ["_law_x","_law_y","_law_w"] (yl K)):yQ P w K mg base CX0 3 f fd ["_law_one","_law_other"] (jF K):=by
 specialize iS
 ·obtain⟨a,b,e,s,rfl,_⟩:=h;rfl
 obtain⟨a,b,e,t,rfl,d,c,i,l,x,j,c2,v,o,q⟩:=h
 refine'⟨_,(zC (zU 2 iS.nd ?_)
   (zC (xI ?_ (zF (zO eZ)) yE)
   (zF (zO ?_)))),?_⟩
 nofun
 have B:=yJ e.1 t.2.1 i c2;have z:=yJ e.2.1 t.1 l j;exists _,U,a,_,_,.int e.1,U,U,d,U,_,U,b,_,_,.int t.2.1,U,U,c,U,_,_,U,U,vC (f9 i (by decide)),_,U,a,_,_,.int e.2.1,U,U,d,U,_,U,b,_,_,.int t.1,U,U,c,U,_,_,U,U,vC (f9 l (by decide)),_,_,U,rfl;exists _,U,U,_,rfl;refine ifE (λg=>o g) (λg=>?_);refine⟨_,U,a,_,_,.int e.2.2,U,U,d,U,_,U,b,_,_,.int t.2.1,U,U,c,U,_,_,U,U,vC (f9 x (by decide)),_,U,b,_,_,.int t.2.2,U,U,c,U,_,U,a,_,_,.int e.2.1,U,U,d,U,_,_,U,U,vC (f9 v (by decide)),_,_,U,U,
  _,rfl,a,_,_,.int e.1,rfl,rfl,d,rfl,_,rfl,b,_,_,.int t.2.2,rfl,rfl,c,rfl,_,_,rfl,rfl,vC (f9 i (by decide)),_,rfl,b,_,_,.int t.1,rfl,rfl,c,rfl,_,rfl,a,_,_,.int e.2.2,rfl,rfl,d,rfl,_,_,rfl,rfl,vC (f9 j (by decide)),_,_,rfl,rfl,_,rfl,
  e.2.2*t.2.1-t.2.2*e.2.1,e.1*t.2.2-t.1*e.2.2,e.1*t.2.1-e.2.1*t.1,rfl,g,(show(e.1*t.2.1-e.2.1*t.1).natAbs<=10^40 by lia),λp y n r u=>q g p y n r ?_⟩
 rw[u];unfold crL;rw[Aa t.2.2 e.2.1,Aa t.1 e.2.2]
def VY(c:List (c7×Int×Int×Int))(x y w:Int):List Bool:=c.map λt=>decide (t.2.1*x+t.2.2.1*y<=t.2.2.2*w)
def eQ(K:c5):Sp:=λe H Q _=>E6 λ(a p:c7) (c:List (c7×Int×Int×Int)) (x y w:Int)=>A6 (e=[.ref a,.ref p]) (H a=O (.lst (c.map λt=>V.ref t.1))) (c.length<=1000) (∀ t∈c,H t.1=O (.tup [.int t.2.1,.int t.2.2.1,.int t.2.2.2])/\t.2.1.natAbs<=10^18/\t.2.2.1.natAbs<=10^18/\t.2.2.2.natAbs<=10^18) (H p=O (.tup [.int x,.int y,.int w])) (∀ d,Same H d->Q (.bl ((VY c x y w).all id)) d)
def Yg(F:Fun K "_law_has" "_law_has" kB f fd)(Z:Zs mg)(S:Cb P w mg base)  : yQ P w K mg base CX0 1 f fd ["_law_sides","_law_place"] (eQ K):=by
 specialize ou
 ·obtain⟨a,p,d,x,y,w,rfl,_⟩:=h;rfl
 obtain⟨a,p,d,x,y,m,rfl,C,R,G,I,q⟩:=h
 refine'⟨_,(zC (wr (pv 1) (uX rfl (zQ (xO 2 ou.nd) (zQ (xO 3 ou.nd) (zQ (xO 4 ou.nd) xU)))))
   (zF (zO (yG (zg rfl) rfl Z.all iL (zI (yO (T:=["_law_a","_law_b","_law_c"]) (caps:=[("_law_w",4),("_law_x",2),("_law_y",3)]) ⟨rfl,by ac_nf,by ac_nf,rfl,⟨⟨rfl,rfl,BM rfl⟩,⟨rfl,rfl,BM rfl⟩,⟨rfl,rfl,BM rfl⟩,t5⟩⟩ rfl (yT (pv 0)) (λ_=>(uX rfl (zQ (xO 0 (show(["_law_a","_law_b","_law_c","_law_w","_law_x","_law_y"]:List j3).Nodup by ac_nf)) (zQ (xO 1 (show(["_law_a","_law_b","_law_c","_law_w","_law_x","_law_y"]:List j3).Nodup by ac_nf)) (zQ (xO 2 (show(["_law_a","_law_b","_law_c","_law_w","_law_x","_law_y"]:List j3).Nodup by ac_nf)) xU))))) (λ_=>yH) (λ_=>?_)) zM))))),?_⟩
 nofun
 exists _,U,p,_,U,SqT.of I,U,.int x,_,U,.int y,_,U,.int m,_,U,rfl;refine⟨_,U,a,U,.inl ⟨⟨_,SqL.of C⟩,λc D B=>yI (K:=K) (a:=a) (xs:=d.map λt=>V.ref t.1) (λi l g n=>A3 (n=upd H D (.lst g)) (g=(VY (d.take i) x y m).map V.bl) (E3 λu v z=>l=[u,v,z,O (.int m),O (.int x),O (.int y)]))
  ⟨rfl,rfl,JN,JN,JN,rfl⟩ (λi l g n _ o=>by obtain⟨e,_⟩:=o; rw[e]; rwa[(zB B _).seq (SqL.of C),zA]) ?_ ?_⟩⟩
 ·rintro i r l g n hi ⟨rfl,rfl,u,v,z,rfl⟩;rw[d9] at hi;cases j:d[i]? with
  | none=>rw[j] at hi; cases hi
  | some t =>
   rw[j] at hi;cases hi;obtain⟨h1,N,M,L⟩:=G t (f7 j);have J:i<d.length:=(d8.mp j).1;exists t.1,_,U,SqT.of (zB B _ _ _ h1),U,_,_,U,_,_,U,_,_,U,rfl;erw[_,rfl,_,rfl,_,_,rfl,rfl,vC (by lia),_,rfl,_,rfl,_,_,rfl,rfl,vC (by lia),_,_,rfl,rfl,_,rfl,_,rfl,_,_,rfl,rfl,vC (by lia),_,_,rfl,rfl,zA,?_,rA,?_,_,_,_,rfl]
   ·erw[zL ?_];unfold VY;rw[b7,b7,i7];lia
   ·unfold VY;rw[yZ j,e7,e7];rfl
 ·rintro l g n ⟨rfl,rfl,u,v,z,rfl⟩;rw[b7,j9];rwa[D,VY d x y m,rfl,SqL.of zA,q _ (zB B _)]
def Xc{c:List Sd}{P:P3} : (VY c P.1 P.2.1 P.2.2).all id=jm c P:=by
 unfold VY jm;rw[EK]
 congr 1
 funext t
 show decide (t.2.1*P.1+t.2.2.1*P.2.1<=t.2.2.2*P.2.2)=decide (sv t.2 P<=0);erw[decide_eq_decide.mpr ?_];unfold sv;lia
def Vu{H:Hp}{c:List Sd}(ok:du H c):∀ t∈c,H t.1=O (.tup [.int t.2.1,.int t.2.2.1,.int t.2.2.2])/\t.2.1.natAbs<=10^18/\t.2.2.1.natAbs<=10^18/\t.2.2.2.natAbs<=10^18:=λt d=>by
 obtain⟨h1,_,h2,h3,h4⟩:=ok t d;rwa[h1,by lia,by lia,by lia]
def nL(K:c5):Sp:=λe H Q _=>E4 λ(l p:c7) (c:List Grp) (P:P3)=>A7 (e=[.ref l,.ref p]) (H l=O (.lst (rK c))) (GrL H c) (c.length<=100) (∀ g∈c,g.2.length<=2) (H p=O (.tup [.int P.1,.int P.2.1,.int P.2.2])) (∀(D:c7)(d:Hp),Same H d->H D=JN->d D=O (.lst ((db (c.map (·.2)) P).map V.int))->Q (.ref D) d)
def gY(F:Fun K "_law_doubts" "_law_doubts" xx f fd)(Z:Zs mg)(CB:Cb P w mg base)(S:Has P w K mg base "_law_has" 1 ["_law_sides","_law_place"] (eQ K)):yQ P w K mg base CX0 2 f fd ["_law_groups","_law_place"] (nL K):=by
 specialize gf
 ·obtain⟨l,p,c,P,rfl,_⟩:=h;rfl
 obtain⟨l,p,c,P,rfl,N,ok,hn,h2,X,q⟩:=h
 refine'⟨_,(zF (zO (yO (T:=["_law_at","_law_group"]) (caps:=[("_law_place",1)]) ⟨rfl,by ac_nf,by ac_nf,rfl,⟨⟨rfl,rfl,BM rfl⟩,t5⟩⟩ rfl (fo rfl Z.enumerate (zI (pv 0) zM)) (λ_=>(uX rfl (zQ (xO 0 (show(["_law_at","_law_group","_law_place"]:List j3).Nodup by ac_nf)) (zQ (xO 1 (show(["_law_at","_law_group","_law_place"]:List j3).Nodup by ac_nf)) xU)))) (λ_=>(fS ?_)) (λ_=>(pv 0))))),?_⟩
 nofun
 refine⟨_,U,l,_,U,N,λcc D I=>iN (K:=K) (l:=l) (xs:=rK c) (λi r m d=>A4 (Same H d) (d D=O (.lst m)) (m=(dbN (c.map (·.2)) P i).map V.int) (E2 λ(u v:Option V)=>r=[u,v,O (.ref p)]))
  ⟨zB I _,zA,rfl,JN,JN,rfl⟩ (λi r m d G=>by obtain⟨L,J,_⟩:=G; rwa[SqL.of (L _ _ N),J]) ?_ ?_⟩
 ·rintro i x T r m d hi hT ⟨C,z,rfl,u,v,rfl⟩;unfold rK at hi;rw[d9] at hi;cases o:c[i]? with
  | none=>rw[o] at hi; cases hi
  | some g =>
   rw[o] at hi;have hi:V.ref g.1=x:=t7 hi;subst hi;have n:=f7 o;have Y:i<c.length:=(d8.mp o).1;have eg:(c.map (·.2)).getD i []=g.2:=by rw[Bg,d9,o]; rfl
   have B:=zB hT (.tup [.int i,.ref g.1]);have R:upd d T (.tup [.int i,.ref g.1]) T=O (.tup [.int i,.ref g.1]):=zA;have j:=C.trans B;have e:=B _ _ z;generalize upd d T (.tup [.int i,.ref g.1])=H2 at B R j e ⊢;exists T,_,U,SqT.of R,U,.int i,_,U,.ref g.1,_,U,rfl;obtain⟨L,J⟩:=ok g n;have g2:=h2 g n;erw[_,rfl,_,rfl,g.1,p,g.2,P.1,P.2.1,P.2.2,rfl,by rw[<- cw]; exact j _ _ L,by lia,Vu (J.same j),j _ _ X,λH3 y=>?_];rw[Xc];exists _,rfl;rw[<- eg];have nx:=df (c.map (·.2)) P i;have nl:=kA (c.map (·.2)) P i;cases M:jm ((c.map (·.2)).getD i []) P with
   | true =>
    rw[M] at nx;erw[uY ⟨j.trans y,y _ _ e,?_,_,_,rfl⟩];rw[nx];simp
   | false =>
    rw[M] at nx;erw[pS ⟨_,rfl,y _ _ e,zL (by rw[b7]; lia),(j.trans y).putNew I,zA,?_,_,_,rfl⟩];rw[nx,e7];rfl
 ·rintro r m d ⟨C,z,rfl,u,v,rfl⟩;rw[xY,show c.length=(c.map (·.2)).length by rw[b7]] at z;rwa[q D d C I z]
structure Tw(ss:List Sd)(i j:Nat)(ps:List P3):Prop where
 each:∀ P∈ps,zx ss P
 zero:((0,0,1):P3)∈ps
 feet:∀ t∈ss,pt3 (ftL t.2)∈ps
 meet:∀(a b:Nat)(t u:Sd),a<b->(a<i\/(a=i/\b<i+1+j))->ss[a]?=O t->ss[b]?=O u->tn t.2 u.2≠0->pt3 (crL t.2 u.2)∈ps
def Tw.all{c:List Sd}{m:List P3}(h:Tw c c.length 0 m)(P:P3):P∈m↔zx c P:=by
 erw[h.each P,λz=>?_];rcases z with rfl | ⟨t,j,rfl⟩ | ⟨t,j,u,p,d,rfl⟩
 ·rwa[h.zero]
 ·rwa[h.feet t j]
 ·obtain⟨a,o,r⟩:=AV j;obtain⟨b,n,q⟩:=AV p;have l:c[a]?=O t:=by rw[c8 o,r]
  have g:c[b]?=O u:=by rw[c8 n,q]
  by_cases h1:a<b
  ·rwa[h.meet a b t u h1 (.inl o) l g d]
  ·by_cases e:a=b
   ·subst e;rw[l] at g;cases g;rwa[y9 (by unfold tn; rw[Aa]; lia) d]
   ·have i:tn u.2 t.2≠0:=λz=>d (by unfold tn at z ⊢; rw[Aa u.2.1,Aa u.2.2.1] at z; lia);rw[aD d];rwa[h.meet b a u t (by lia) (.inl n) g l i]
def Tw.more{d:List Sd}{i j:Nat}{g c:List P3}{t u:Sd}(h:Tw d i j g)(gt:d[i]?=O t)(p:d[i+1+j]?=O u)(sub:∀ P∈g,P∈c)(new:∀ P∈c,P∈g\/(tn t.2 u.2≠0/\P=pt3 (crL t.2 u.2)))(has:tn t.2 u.2≠0->pt3 (crL t.2 u.2)∈c):Tw d i (j+1) c:=by
 erw[λP v=>?_,sub _ h.zero,λx s=>sub _ (h.feet x s),λa b x y l A n m o=>?_]
 ·rcases new P v with z | ⟨r,q⟩
  ·rwa[h.each P z]
  ·rwa[.inr (.inr ⟨t,f7 gt,u,f7 p,r,q⟩)]
 ·by_cases e:a=i/\b=i+1+j
  ·obtain⟨rfl,rfl⟩:=e;rw[gt] at n;rw[p] at m;cases n;cases m;rwa[has o]
  ·rwa[sub _ (h.meet a b x y l (by lia) n m o)]
def Tw.next{c:List Sd}{i j:Nat}{e:List P3}(h:Tw c i j e)(m:j=c.length-(i+1)):Tw c (i+1) 0 e :=
 ⟨h.each,h.zero,h.feet,λa b t u d n gt g l=>h.meet a b t u d (by have:=(d8.mp g).1; lia) gt g l⟩
def kJ(c:List Grp)(k:List Int):Prop:=(∃ P,zx (zX c) P/\k=db (c.map (·.2)) P)/\∀ P,zx (zX c) P->k.length<=(db (c.map (·.2)) P).length
def rR(K:c5):Sp:=λe H Q _=>E2 λ(l:c7) (c:List Grp)=>A6 (e=[.ref l]) (H l=O (.lst (rK c))) (GrL H c) (c.length<=24) (∀ g∈c,g.2.length<=2) (∀(D:c7)(fs:List (c7×List Int))(d:Hp),Same H d->H D=JN->d D=O (.lst ((fs.map (·.1)).map V.ref))->(∀ t∈fs,d t.1=O (.lst (t.2.map V.int))/\H t.1=JN)->(∀ k,k∈fs.map (·.2)↔kJ c k)->(fs.map (·.2)).Nodup->(fs.map (·.2)).Pairwise (λa b=>HT.lexLt b a=JP)->fs.length<=9000->Q (.ref D) d)
def ud(F:Fun K "_law_least_doubts" "_law_least_doubts" wU f fd)(Z:Zs mg)(CB:Cb P w mg base)(yBr:Has P w K mg base "_law_doubts" 2 ["_law_groups","_law_place"] (nL K))(yBu:Has P w K mg base "_law_turned" 1 ["_law_one","_law_other"] (wn K))(yCf:Has P w K mg base "_law_meet" 3 ["_law_one","_law_other"] (jF K))(yCj:Has P w K mg base "_law_feet" 3 ["_law_sides"] (iK K)):yQ P w K mg base CX0 4 f fd ["_law_groups"] (rR K):=by
 specialize zV
 ·obtain⟨l,G,rfl,_⟩:=h;rfl
 obtain⟨l,G,rfl,hl,ok,hn,h2,q⟩:=h;have hu64:=hr.units;have hu2:=AM (Dr (show 2<=64 by decide) _) hr.units
 refine'⟨_,(zC (zU 1 zV.nd ?_)
   (zC (xX t9 rfl (yT (pv 0)) (xO 2 zV.nd) (zF (zU 1 zV.nd (qC aq (pv 1) (pv 2)))))
   (zC (zU 3 zV.nd (qC aq ?_ ?_))
   (zC (xX t9 rfl (fo rfl Z.enumerate (zI (pv 1) zM)) (uX rfl (zQ (xO 4 zV.nd) (zQ (xO 5 zV.nd) xU))) (zF (xX t9 rfl (gS ?_) (xO 6 zV.nd) (zF (xI ?_ (zF (zW (zu (pv 3) ?_))) yE)))))
   (zC (zU 7 zV.nd (yG (lS hu2) rfl Z.sorted uI (zI (yO (T:=["_law_place"]) (caps:=[("_law_groups",0)]) ⟨rfl,by ac_nf,by ac_nf,rfl,⟨⟨rfl,rfl,BM rfl⟩,t5⟩⟩ rfl (yT (pv 3)) (λ_=>(xO 0 (show(["_law_place","_law_groups"]:List j3).Nodup by ac_nf))) (λ_=>yH) (λ_=>?_)) zM)))
   (zC (zU 8 zV.nd (yG (jf rfl) rfl Z.min aV (zI (yO (T:=["_law_row"]) (caps:=[]) ⟨rfl,by ac_nf,by ac_nf,rfl,t5⟩ rfl (yT (pv 7)) (λ_=>(xO 0 (show(["_law_row"]:List j3).Nodup by ac_nf))) (λ_=>yH) (λ_=>?_)) zM)))
   (zC (zU 9 zV.nd ?_)
   (zC (xX t9 rfl (yT (pv 7)) (xO 10 zV.nd) (zF (xI (PW.pt (XM ?_ (aY (xQ (aE hu64) (pv 10) (pv 9) (by with_unfolding_all rfl))))) (zF (zW (zu (pv 9) (zI (pv 10) zM)))) yE)))
   (zF (zO (pv 9))))))))))),?_⟩
 nofun
 have len:∀ k,k<=G.length->(zX (G.take k)).length<=2*k:=λk=>by
  induction k with
  | zero=>intro _; simp[zX]
  | succ k ih =>
   intro hk;have hk':k<G.length:=by lia
   have z:=ih (by lia);have g2:=h2 G[k] (Ag hk');have e:zX (G.take (k+1))=zX (G.take k)++G[k].2:=by
    unfold zX;rw[BD hk',Dy];simp
   rw[e,f8];lia
 have okS:∀{r:Hp},GrL r G->du r (zX G):=λ{r} o t m=>by
  obtain⟨g,hg,htg⟩:=Eh.mp m;exact(o g hg).2 t htg
 refine⟨m7 _,λd hd=>?_⟩;have s0:=zB hd (.lst []);refine⟨_,U,l,U,.inl ⟨⟨_,SqL.of (s0 _ _ hl)⟩,xK (K:=K) (a:=l) (xs:=rK G) (λi n r=>Same H r/\E2 λ(d:c7) (u2:Option V)=>r d=O (.lst (yB (zX (G.take i))))/\n=[O (.ref l),O (.ref d),u2,JN,JN,JN,JN,JN,JN,JN,JN])
  ⟨s0,d,JN,zA,rfl⟩ (λi n r _ S=>by obtain⟨e,_⟩:=S; rwa[SqL.of (e _ _ hl)]) ?_ ?_⟩⟩
 ·rintro i v n r hi ⟨s1,d,u2,ed,rfl⟩;unfold rK at hi;rw[d9] at hi;cases C:G[i]? with
  | none=>rw[C] at hi; cases hi
  | some g =>
   rw[C] at hi;cases hi;have hil:i<G.length:=(d8.mp C).1;have eg:=(ok g (f7 C)).1;have lz:=len i (by lia);have g2:=h2 g (f7 C);erw[_,rfl,_,rfl,d,g.1,_,_,rfl,rfl,ed,s1 _ _ eg,?_,λp hp=>?_]
   ·rw[yA,yA];rwa[ul (by lia)]
   ·erw[s1.trans (zB hp _),p,_,?_,rfl];rw[zA]
    congr 2
    unfold zX;rw[BD hil,Dy,(d8.mp C).2];simp[yB]
 ·rintro n H1 ⟨s1,d,u2,ed,rfl⟩;rw[xY,j9] at ed;have lz:=len G.length (e8 _);rw[j9] at lz;have ss1:du H1 (zX G):=okS (ok.same s1);clear len okS s0 hd;generalize hss:zX G=N at ss1 ed lz;refine⟨by show 3<=sizeLine; decide,λp0 hp0=>⟨by show 1<=sizeLine; decide,λc0 hc0=>?_⟩⟩;have s2:=zB hp0 (.tup [.int 0,.int 0,.int 1]);have s3:=zB hc0 (.lst [.ref p0]);have ep0:upd (upd H1 p0 (.tup [.int 0,.int 0,.int 1])) c0 (.lst [.ref p0]) p0=O (.tup [.int 0,.int 0,.int 1]):=s3 _ _ zA;have ec0:upd (upd H1 p0 (.tup [.int 0,.int 0,.int 1])) c0 (.lst [.ref p0]) c0=O (.lst [.ref p0]):=zA;have s13:=s2.trans s3;generalize upd (upd H1 p0 (.tup [.int 0,.int 0,.int 1])) c0 (.lst [.ref p0])=H3 at s13 ep0 ec0 ⊢;clear s2 s3 hp0 hc0;refine⟨_,U,d,N,U,SqL.of (s13 _ _ ed),ss1.same s13,by lia,λD4 qs4 H4 s4 hD4 eD4 okq4 mq4=>?_⟩;have lq4:qs4.length=N.length:=by have z:=congrArg Aq mq4; (rw[b7,b7] at z;assumption)
  refine⟨c0,D4,_,_,U,U,s4 _ _ ec0,eD4,ul (by simp only[b7,i9,AE]; lia),λD hD=>?_⟩;have P0:PlT H4 D ((p0,0,0,1)::qs4) (upd H4 D (.lst ([.ref p0]++vX qs4))):=by
   erw[zB hD _,hD,zA,λu hu=>?_];rcases o0.mp hu with rfl | hu
   ·exact⟨zB hD _ _ _ (s4 _ _ ep0),by show(0:Int)<1; decide,by show Ad (Ad 0 0) 1=1; decide⟩
   ·rwa[zB hD _ _ _ (okq4 u hu).1,(okq4 u hu).2]
  have T0:Tw N 0 0 (((p0,0,0,1)::qs4:List SpT).map (·.2)):=by
   erw[λP hP=>?_,.head _,λt m=>?_,λa b t u h1 h2=>y9 h2 (by lia)]
   ·rcases o0.mp hP with rfl | hP
    ·rwa[.inl rfl]
    ·rw[mq4] at hP;obtain⟨t,m,e⟩:=g7.mp hP;rwa[.inr (.inl ⟨t,m,e.symm⟩)]
   ·erw[Af _ ?_];show _∈qs4.map (·.2);rw[mq4];rwa[Ay (f:=λt:Sd=>pt3 (ftL t.2)) m]
  have s14:=s13.trans s4;have ed4:=s14 _ _ ed;have ok4:=ss1.same s14;have s04:=s1.trans s14;clear s13 ep0 ec0 s4 okq4 mq4 eD4 hD4 s14;refine⟨_,U,d,_,U,zB hD _ _ _ ed4,YF (K:=K) (l:=d) (xs:=yB N) (λi n r=>∃ B:List SpT,A4 (PlT H4 D B r) (Tw N i 0 (B.map (·.2))) (B.length<=49+i*48) (E3 λ(u4 u5 u6:Option V)=>n=[O (.ref l),O (.ref d),u2,O (.ref D),u4,u5,u6,JN,JN,JN,JN]))
   ⟨_,P0,T0,by show qs4.length+1<=_; lia,JN,JN,JN,rfl⟩ (λi n r S=>by obtain⟨B,P,_⟩:=S; rwa[SqL.of (P.same _ _ ed4)]) ?_ ?_⟩
  ·rintro i v T n r hi hT ⟨B,I,tr,hq,u4,u5,u6,rfl⟩;obtain⟨t,gt,rfl,hil⟩:=rM hi;have sT:Same r (upd r T (.tup [.int i,.ref t.1])):=zB hT _;have eT:upd r T (.tup [.int i,.ref t.1]) T=O (.tup [.int i,.ref t.1]):=zA;generalize upd r T (.tup [.int i,.ref t.1])=H5 at sT eT ⊢;exists T,_,U,SqT.of eT,U,.int i,_,U,.ref t.1,_,U,rfl;erw[_,rfl,_,rfl,_,_,rfl,rfl,_,rfl,d,_,rfl,SqL.of (sT _ _ (I.same _ _ ed4)),λc hc=>?_];rw[show((i:Nat):Int)+1=((i+1:Nat):Int) from by lia,WC];have sc:Same H5 (upd H5 c (.lst (yB (N.drop (i+1))))):=zB hc _;have ec:upd H5 c (.lst (yB (N.drop (i+1)))) c=O (.lst (yB (N.drop (i+1)))):=zA;have sTc:=sT.trans sc;have ncD:c≠D:=λz=>by rw[z,sT _ _ I.at'] at hc; cases hc
   generalize upd H5 c (.lst (yB (N.drop (i+1))))=H6 at sTc ec ⊢;have P2:PlT H4 D B H6:=⟨I.same.trans sTc,I.new,sTc _ _ I.at',I.ok.same sTc⟩;clear sc hc sT sTc I eT hT;have hi48:i*48<=47*48:=Dh _ (by lia);refine⟨c,U,⟨_,SqL.of ec⟩,xK (K:=K) (a:=c) (xs:=yB (N.drop (i+1))) (λj n r=>A3 (r c=O (.lst (yB (N.drop (i+1))))) (∃ B:List SpT,A3 (PlT H4 D B r) (Tw N i j (B.map (·.2))) (B.length<=49+i*48+j)) (∃ u6:Option V,n=[O (.ref l),O (.ref d),u2,O (.ref D),O (.int i),O (.ref t.1),u6,JN,JN,JN,JN]))
    ⟨ec,⟨_,P2,tr,by lia⟩,_,rfl⟩ (λj n r _ S=>by obtain⟨e,_⟩:=S; rwa[SqL.of e]) ?_ ?_⟩
   ·rintro j v n H7 hj ⟨ec7,⟨B,I,tr,hq⟩,u6,rfl⟩;obtain⟨u,gu0,rfl,hjl⟩:=rM hj;rw[x5] at hjl;have gu:N[i+1+j]?=O u:=by rw[E1] at gu0; rwa[gu0]
    have okH:=ok4.same I.same;obtain⟨et,nt,b1,b2,b3⟩:=okH t (f7 gt);obtain⟨eu,nu,c1,c2,c3⟩:=okH u (f7 gu);have st:Sq K H7 t.1 [.int t.2.1,.int t.2.2.1,.int t.2.2.2]:=.inr (SqT.of et);have su:Sq K H7 u.1 [.int u.2.1,.int u.2.2.1,.int u.2.2.2]:=.inr (SqT.of eu);exists _,U,_,U,t.1,u.1,_,_,t.2.1,t.2.2.1,u.2.1,u.2.2.1,U,st,su,U,U,U,U,f9 b1 (by decide),f9 b2 (by decide),U,_,rfl;erw[Si (λh0=>?_) (λh0=>?_)]
    ·have h0:tn t.2 u.2≠0:=h0;erw[_,rfl,.inl ⟨rfl,_,SqL.of I.at'⟩,_,rfl,_,rfl,t.1,u.1,t.2,u.2,rfl,st,su,b1,b2,b3,c1,c2,c3,(λz=>y9 z h0),λ_ p8 H8 s8 hp8 X=>?_];have P8:=I.app (l:=crL t.2 u.2) s8 hp8 X (UO h0).1;exists D,_,_,U,U,s8 _ _ I.at',vU (by simp only[vX,b7]; lia);erw[by rw[zD ncD]; exact s8 _ _ ec7,⟨_,P8,?_,by rw[f8,AW]; lia⟩,_,rfl];rw[e7];rwa[tr.more gt gu (λP h=>AH _ h) (λP h=>(l7.mp h).imp id λz=>⟨h0,f6.mp z⟩) λ_=>o8 _ (.head _)]
    ·have h0:tn t.2 u.2=0:=h0;rwa[ec7,⟨B,I,tr.more gt gu (λP h=>h) (λP h=>.inl h) λz=>y9 h0 z,by lia⟩,_,rfl]
   ·rintro n H7 ⟨ec7,⟨B,I,tr,hq⟩,u6,rfl⟩;rw[yA,x5] at tr hq;rwa[B,I,tr.next rfl,by lia,_,_,_,rfl]
  ·rintro n H5 ⟨B,I,tr,hq,u4,u5,u6,rfl⟩;rw[yA] at tr hq;have hq9:B.length<=9000:=by
    have:N.length*48<=48*48:=Dh _ (by lia);lia
   have mem:=tr.all;have s05:=s04.trans I.same;have at5:=I.at';have okq:=I.ok;clear P0 T0 tr I s04 ed4 ok4 hD lq4 hq;refine⟨_,U,D,U,.inl ⟨⟨_,SqL.of at5⟩,λcc D6 hD6=>yI (K:=K) (a:=D) (xs:=vX B) (λi n ys r=>(∃ rs,A3 (ys=(rs.map (·.1)).map V.ref) (Rws H5 D6 rs r) (rs.map (·.2)=(B.take i).map λx=>db (G.map (·.2)) x.2))/\∃ u:Option V,n=[u,O (.ref l)])
    ⟨⟨[],rfl,⟨zB hD6 _,hD6,zA,(λt m=>nomatch m)⟩,rfl⟩,JN,rfl⟩ (λi n ys r _ ⟨⟨rs,e,R,_⟩,_⟩=>⟨SqL.of (R.same _ _ at5),by rw[e]; rwa[R.at']⟩) ?_ ?_⟩⟩
   ·rintro i v n ys H6 hi ⟨⟨rs,rfl,R,em⟩,u,rfl⟩;rw[d9,d9] at hi;cases C:B[i]? with
    | none=>rw[C] at hi; cases hi
    | some x =>
     rw[C] at hi;cases hi;have hx:=okq x (f7 C);have hil:i<B.length:=(d8.mp C).1;have lr:rs.length=i:=by have z:=congrArg Aq em; rw[b7,b7,i7] at z; lia
     have s06:=s05.trans R.same;erw[_,rfl,_,rfl,l,x.1,G,x.2,rfl,s06 _ _ hl,ok.same s06,by lia,h2,R.same _ _ hx.1,λp7 H7 s7 hp7 Y=>?_];erw[s7 _ _ R.at',vU (by simp only[b7]; lia),⟨_,by simp,R.app s7 hp7 Y,?_⟩,_,rfl];rw[e7,em,yZ C,e7];rfl
   ·rintro n ys H6 ⟨⟨rs,rfl,R,em⟩,u,rfl⟩;have lx:(vX B).length=B.length:=by simp
    rw[lx,j9] at em;have lr:rs.length=B.length:=by have z:=congrArg Aq em; (rw[b7,b7] at z;assumption)
    refine⟨D6,rs,U,SqL.of R.at',λt m=>(R.rows t m).1,λp7 y hp7 pm pw=>?_⟩;have s7:=zB hp7 (.lst ((y.map (·.1)).map V.ref));have Y:upd H6 p7 (.lst ((y.map (·.1)).map V.ref)) p7=O (.lst ((y.map (·.1)).map V.ref)):=zA;generalize upd H6 p7 (.lst ((y.map (·.1)).map V.ref))=H7 at s7 Y ⊢;have s57:=R.same.trans s7;have s07:=s05.trans s57;have us7:∀ t∈y,H7 t.1=O (.lst (t.2.map V.int))/\H t.1=none:=λt m=>by
     have z:=R.rows t (pm.mem_iff.mp m);rwa[s7 _ _ z.1,s05.free z.2.1]
    have lu:y.length<=9000:=by rw[pm.length_eq,lr]; rwa[hq9]
    have L:∀ k,(∃ t∈y,t.2=k)↔∃ P,zx N P/\k=db (G.map (·.2)) P:=λk=>by
     have e:(∃ t∈y,t.2=k)↔k∈rs.map (·.2):=by
      rw[g7];rwa[λ⟨t,h1,h2⟩=>⟨t,pm.mem_iff.mp h1,h2⟩,λ⟨t,h1,h2⟩=>⟨t,pm.mem_iff.mpr h1,h2⟩]
     rw[e,em,g7];constructor
     ·rintro⟨x,hx,rfl⟩;rwa[x.2,(mem x.2).mp (Ay hx),rfl]
     ·rintro⟨P,hP,rfl⟩;obtain⟨x,hx,rfl⟩:=g7.mp ((mem P).mpr hP);rwa[x,hx,rfl]
    clear R em lr s7 s57 mem okq at5 hD6 hp7 pm s05 lx;refine⟨_,U,p7,U,.inl ⟨⟨_,SqL.of Y⟩,λcc D8 hD8=>yI (K:=K) (a:=p7) (xs:=(y.map (·.1)).map V.ref) (λi n ys r=>A3 (r=upd H7 D8 (.lst ys)) (ys=((y.take i).map λt=>V.int (t.2.length:Int))) (∃ u:Option V,n=[u]))
     ⟨rfl,rfl,JN,rfl⟩ (λi n ys r _ S=>by obtain⟨e,_⟩:=S; rwa[by rw[e]; exact SqL.of (zB hD8 _ _ _ Y),by rw[e]; exact zA]) ?_ ?_⟩⟩
    ·rintro i v n ys H8 hi ⟨rfl,rfl,u,rfl⟩;rw[d9,d9] at hi;cases C:y[i]? with
     | none=>rw[C] at hi; cases hi
     | some x =>
      rw[C] at hi;cases hi;have hx:=us7 x (f7 C);have hil:i<y.length:=(d8.mp C).1;erw[_,rfl,x.1,_,rfl,.inl (SqL.of (zB hD8 _ _ _ hx.1)),zA,vU (by rw[b7,i7]; lia),rA,?_,_,rfl];rw[yZ C,e7,b7];rfl
    ·rintro n ys H8 ⟨rfl,rfl,u,rfl⟩;have lx:((y.map (·.1)).map V.ref).length=y.length:=by simp
     rw[lx,j9];have une:y≠[]:=λz=>by
      obtain⟨t,m,_⟩:=(L _).mpr ⟨(0,0,1),.inl rfl,rfl⟩;rw[z] at m;cases m
     erw[D8,y.map (λt=>(t.2.length:Int)),rfl,SqL.of (by rw[zA,Ab]; rfl),λz=>une (GJ.mp z),λM m1 m2=>?_];obtain⟨k0,mk0,ek0⟩:=g7.mp m1;have m3:∀ t∈y,M<=(t.2.length:Int):=λt m=>m2 _ (Ay (f:=λt:c7×List Int=>(t.2.length:Int)) m);have s8:=zB hD8 (.lst (y.map λt=>V.int (t.2.length:Int)));have X:=s8 _ _ Y;have us8:∀ t∈y,upd H7 D8 (.lst (y.map λt=>V.int (t.2.length:Int))) t.1=O (.lst (t.2.map V.int))/\H t.1=none:=λt m=>⟨s8 _ _ (us7 t m).1,(us7 t m).2⟩;have s08:=s07.trans s8;generalize upd H7 D8 (.lst (y.map λt=>V.int (t.2.length:Int)))=H8 at s08 X us8 ⊢;clear m1 m2 s8 us7 Y s07 hD8;erw[m7 _,λD9 J=>?_];have s9:=zB J (.lst []);have n9:∀ t∈y,t.1≠D9:=λt m z=>by have e:=(us8 t m).1; rw[z,J] at e; cases e
     have np9:p7≠D9:=λz=>by rw[z,J] at X; cases X
     refine⟨_,U,p7,U,.inl ⟨⟨_,SqL.of (s9 _ _ X)⟩,xK (K:=K) (a:=p7) (xs:=(y.map (·.1)).map V.ref) (λi n r=>(∃ fs:List (c7×List Int),A4 (r=upd H8 D9 (.lst ((fs.map (·.1)).map V.ref))) (fs.Sublist (y.take i)) ((fs.map (·.2)).Nodup) (∀ k,k∈fs.map (·.2)↔∃ t∈y.take i,t.2=k/\(k.length:Int)=M))/\∃ u10:Option V,n=[O (.ref l),O (.ref d),u2,O (.ref D),u4,u5,u6,O (.ref p7),O (.int M),O (.ref D9),u10])
      ⟨⟨[],rfl,HQ _,EX,λk=>⟨(λh=>nomatch h),λ⟨t,h,_⟩=>nomatch h⟩⟩,JN,rfl⟩ (λi n r _ hq=>by obtain⟨⟨fs,e,_⟩,_⟩:=hq; rw[e]; rwa[SqL.of (zB J _ _ _ X)]) ?_ ?_⟩⟩
     ·rintro i v n H9 hi ⟨⟨fs,rfl,sub,nd,mf⟩,u10,rfl⟩;rw[d9,d9] at hi;cases C:y[i]? with
      | none=>rw[C] at hi; cases hi
      | some x =>
       rw[C] at hi;cases hi;have mx:=f7 C;have hx:=us8 x mx;have ex9:=zB J (.lst ((fs.map (·.1)).map V.ref)) _ _ hx.1;have fsu:∀ t∈fs,t∈y:=λt m=>Cu (sub.subset m);have lf:fs.length<=9000:=f9 sub.length_le (by rw[i7]; lia);have tk:=yZ C;exists _,U,x.1,_,U,.inl (SqL.of ex9),_,U,U,_,rfl;rw[b7];erw[ifE (λhe=>?_) (λhe=>?_)]
       ·exists _,U,_,U,x.1,D9,x.2,fs,U,U,ex9,zA,λt m=>zB J _ _ _ (us8 t (fsu t m)).1,_,rfl;by_cases hin:x.2∈fs.map (·.2)
        ·have e1:(fs.any λt=>decide (t.2=x.2))=true:=by
          obtain⟨t,m,e⟩:=g7.mp hin;rwa[BP.mpr ⟨t,m,y7 e⟩]
         rw[e1];erw[uY ?_];erw[⟨fs,rfl,by rw[tk]; exact sub.trans (CA _ _),nd,λk=>?_⟩,_,rfl];rw[mf k,tk];erw[λ⟨t,h1,h2⟩=>⟨t,AH _ h1,h2⟩,λ⟨t,h1,h2,h3⟩=>?_];rcases l7.mp h1 with h1 | h1
         ·rwa[t,h1,h2,h3]
         ·rw[f6] at h1;rw[h1] at h2;rw[<- h2];have z:=(mf x.2).mp hin;rwa[z]
        ·have e1:(fs.any λt=>decide (t.2=x.2))=false:=by
          rw[Fs];intro z;obtain⟨t,m,e⟩:=BP.mp z;rwa[hin (g7.mpr ⟨t,m,of_decide_eq_true e⟩)]
         rw[e1];erw[pS ?_];exists _,U,.inl ⟨U,_,SqL.of zA⟩,_,U,D9,_,_,U,U,zA,vU (by simp only[b7]; lia);erw[⟨fs++[x],by rw[rA]; simp,by rw[tk]; exact GK sub (Hm _),?_,λk=>?_⟩,_,rfl]
         ·rw[e7,Fu];erw[nd,by simp,λa ha b hb e=>?_];rw[i5,Dk,f6] at hb;rw[e,hb] at ha;rwa[hin ha]
         ·rw[e7,l7,mf k,tk];constructor
          ·rintro(⟨t,h1,h2⟩ | h)
           ·rwa[t,AH _ h1,h2]
           ·rw[i5,Dk,f6] at h;rwa[x,o8 _ (.head _),h.symm,by rw[h]; exact he]
          ·rintro⟨t,h1,h2,h3⟩;rcases l7.mp h1 with h1 | h1
           ·rwa[.inl ⟨t,h1,h2,h3⟩]
           ·rw[f6] at h1;right;rw[<- h2,h1];rwa[.head _]
       ·erw[uY ?_];erw[⟨fs,rfl,by rw[tk]; exact sub.trans (CA _ _),nd,λk=>?_⟩,_,rfl];rw[mf k,tk];erw[λ⟨t,h1,h2⟩=>⟨t,AH _ h1,h2⟩,λ⟨t,h1,h2,h3⟩=>?_];rcases l7.mp h1 with h1 | h1
        ·rwa[t,h1,h2,h3]
        ·rw[f6] at h1;rw[<- h2,h1] at h3;rwa[y9 h3 he]
     ·rintro n H9 ⟨⟨fs,rfl,sub,nd,mf⟩,u10,rfl⟩;rw[lx,j9] at sub mf;exists _,rfl;erw[q D9 fs _ (s08.trans (zB J _)) (s08.free J) zA (λt m=>⟨zB J _ _ _ (us8 t (sub.subset m)).1,(us8 t (sub.subset m)).2⟩) (λk=>?_) nd (Go (sub.map _) (by rw[Cv]; rwa[pw])) (f9 sub.length_le lu)];rw[mf k];unfold kJ;rw[hss];constructor
      ·rintro⟨t,h1,h2,h3⟩;erw[(L k).mp ⟨t,h1,h2⟩,λP hP=>?_];obtain⟨t',h4,h5⟩:=(L _).mpr ⟨P,hP,rfl⟩;have z:=m3 t' h4;rw[h5] at z;lia
      ·rintro⟨h1,h2⟩;obtain⟨t,h3,h4⟩:=(L k).mpr h1;exists t,h3,h4;obtain⟨P,hP,e⟩:=(L k0.2).mp ⟨k0,mk0,rfl⟩;have z:=h2 P hP;rw[<- e] at z;have z2:=m3 t h3;rw[h4] at z2;lia
def nU(K:c5):Sp:=λe H Q _=>E4 λ(t:c7) (a b c:Int)=>A5 (e=[.ref t]) (SqT K H t [.int a,.int b,.int c]) (0<yV [a,b,c]) ((yV [a,b,c]:Int)<10^600) (∀(p:c7)(d:Hp),Same H d->H p=JN->d p=O (.tup ((zw [a,b,c]).map V.int))->Q (.ref p) d)
def fq(F:Fun K "_law_lowest" "_law_lowest" ya f fd)(Z:Zs mg)(o:Cb P w mg base)(j:Has P w K mg base "_law_low" 1 ["_law_one","_law_other"] (ko K)):yQ P w K mg base CX0 2 f fd ["_law_side"] (nU K):=by
 specialize oG
 ·obtain⟨t,a,b,c,rfl,_⟩:=h;rfl
 obtain⟨t,a,b,c,rfl,l,n,m,q⟩:=h
 refine'⟨_,(zC (zU 1 oG.nd ?_)
   (zF (zO ?_))),?_⟩
 nofun
 have d:Sq K H t _:=.inr l;exists _,U,t,_,0,.int a,U,U,d,U,_,U,t,_,1,.int b,U,U,d,U,_,_,U,_,U,t,_,2,.int c,U,U,d,U,_,_,rfl;have e:((Ad (((Ad a.natAbs b.natAbs:Nat):Int).natAbs) c.natAbs:Nat):Int)=(yV [a,b,c]:Int):=by
  rw[rg,EV]
 rw[e];have g:∀ x:Int,yy x (yV [a,b,c]):=λx=>.of (by lia) m;erw[_,rfl,t,_,0,.int a,rfl,rfl,d,rfl,_,rfl,_,_,rfl,rfl,g _,_,rfl,t,_,1,.int b,rfl,rfl,d,rfl,_,rfl,_,_,rfl,rfl,g _,_,rfl,t,_,2,.int c,rfl,rfl,d,rfl,_,rfl,_,_,rfl,rfl,g _,sz3,λp i=>?_];rwa[q p _ (zB i _) i zA]
def qa(_:c5):Sp:=λg H Q _=>E4 λ(d:c7) (v:V) (S:BS) (D:Deed)=>A6 (g=[.ref d,v]) (Rep H D.dt v) (ZU H d S) (rT S D) (∀ e∈S.marks,vt e.2) (∀(l:c7)(as:List c7)(c:Hp),Same H c->c l=O (.lst (as.map V.ref))->xG c as (vP S D)->Q (.ref l) c)
def jL(F:Fun K "_law_rows_of" "_law_rows_of" rW f fd)(Z:Zs mg)(CB:Cb P w mg base)(yBx:Has P w K mg base "_law_lowest" 2 ["_law_side"] (nU K)):yQ P w K mg base CX0 3 f fd ["_law_m","_law_note"] (qa K):=by
 specialize yS
 ·obtain⟨d,v,S,D,rfl,_⟩:=h;rfl
 obtain⟨d,v,S,D,rfl,rep,⟨m,b,r,n,R⟩,kn,nr,q⟩:=h;have dm:∀{H':Hp},Same H H'->dk H' d (.str "marks") (O (.ref m)):=λ{H'} s=>.inl ⟨_,.inr "marks",Rd.same R.at_ s,rfl,vH.symm⟩;have ul:∀{ns:List Int}{M:Nat},(∃ x∈ns,x≠0/\x.natAbs<=M)->M<=10^9->0<yV ns/\(yV ns:Int)<10^600:=λ{ns M} h hM=>by
  obtain⟨h1,h2⟩:=Xl h;erw[h1,CU (b:=(10:Int)^9) (by lia) (by ac_nf)]
 refine'⟨_,(zC (wr (zN (zZ hr) (zN (zZ hr) (pv 0) zS (λ_ _=>rfl)) ?_ (λ_ _=>rfl)) (uX rfl (zQ (xO 2 yS.nd) (zQ (xO 3 yS.nd) xU))))
   (zC (xI ?_ (zC (mZ (i:=4) (j:=5) rfl yS.nd rfl rfl (by decide) rfl rfl (zI (pv 2) (zI (pv 3) zM)) rfl)
   (zC (wr (zN (zZ hr) (zN (zZ hr) (pv 0) zS (λ_ _=>rfl)) ?_ (λ_ _=>rfl)) (uX rfl (zQ (xO 2 yS.nd) (zQ (xO 3 yS.nd) xU))))
   (zF (zO ?_)))) yE)
   (zC (wr ?_ (uX rfl (zQ (xO 6 yS.nd) (zQ (xO 7 yS.nd) xU))))
   (zC (wr ?_ (uX rfl (zQ (xO 8 yS.nd) (zQ (xO 9 yS.nd) xU))))
   (zF (zO ?_)))))),?_⟩
 nofun
 cases D with
 | bearing mo nm C B p o =>
  obtain⟨t,p1,p2,rfl,ht,h1,h2⟩:=tH rep;obtain⟨_,_,hn,w1,w2⟩:=kn;obtain⟨pt,c⟩:=j7.mp hn;obtain⟨u,pa,hm,g1,g2⟩:=tS R.ma c;obtain⟨n1,n2,n3,n4⟩:=wB nr c;have l:Sq K H t _:=.inr (SqT.of ht);exists _,U,d,.ref m,U,dm (Same.refl _),_,U,t,_,2,.str nm,U,U,l,U,m,.ref pa,U,.inl ⟨u,.inr nm,hm,U,g1.symm⟩;exists pa,_,U,SqT.of g2,U,.int pt.1,_,U,.int pt.2,_,U,rfl;exists _,U,t,_,0,.str "bearing",U,U,l,U,U,_,rfl;refine uY ?_;exists _,U,t,_,3,.ref p1,U,U,l,U,p1,_,U,SqT.of h1,U,.int C,_,U,.int B,_,U,rfl;exists _,U,t,_,4,.ref p2,U,U,l,U,p2,_,U,SqT.of h2,U,.int p,_,U,.int o,_,U,rfl;obtain⟨w10,w11,w12,w13,w14⟩:=w1;obtain⟨w20,w21,w22,Y,X⟩:=w2;dsimp only at w11 w12 w13 w14 w21 w22 Y X;refine⟨_,U,_,U,_,U,_,U,_,U,_,_,U,U,vC (by lia),_,U,_,U,_,_,U,U,vC (by lia),_,_,U,U,sz3,λx hx=>?_⟩;have sx:=zB hx (.tup [.int (-B),.int C,.int (C*pt.2-B*pt.1)]);have I:∃ x∈[-B,C,C*pt.2-B*pt.1],x≠0/\x.natAbs<=100:=by
   rcases Dn (C=0) with z | z
   ·exact⟨-B,.head _,λz'=>w10 (by rw[z,show B=0 by lia]),by lia⟩
   ·rwa[C,.tail _ (.head _),z,by lia]
  have z2:∃ x∈[o,-p,o*pt.1-p*pt.2],x≠0/\x.natAbs<=100:=by
   rcases Dn (o=0) with z | z
   ·exact⟨-p,.tail _ (.head _),λz'=>w20 (by rw[z,show p=0 by lia]),by lia⟩
   ·rwa[o,.head _,z,by lia]
  erw[x,_,_,_,rfl,SqT.of zA,(ul I (by decide)).1,(ul I (by decide)).2,λy H1 s1 hy ey=>?_];erw[_,rfl,_,rfl,_,rfl,_,rfl,_,rfl,_,_,rfl,rfl,vC (by lia),_,rfl,_,rfl,_,_,rfl,rfl,vC (by lia),_,_,rfl,rfl,sz3,λx2 hx2=>?_];have J:=zB hx2 (.tup [.int o,.int (-p),.int (o*pt.1-p*pt.2)]);erw[x2,_,_,_,rfl,SqT.of zA,(ul z2 (by decide)).1,(ul z2 (by decide)).2,λT H2 s2 hy2 ey2=>⟨sz2,λL hL=>?_⟩];have G:=zB hL (.lst [.ref y,.ref T]);erw[q L [y,T] _ (sx.trans (s1.trans (J.trans (s2.trans G)))) zA ?_];show xG _ ([y]++[T]) ([_]++[_]);rw[xM c,Aa pt.1 o,Aa pt.2 p];exact(xG.one ((J.trans (s2.trans G)) _ _ ey)).app (.one (G _ _ ey2))
 | range mo l1 r1 =>
  obtain⟨t,rfl,ht⟩:=xo rep;obtain⟨_,_,hl,hr',ne⟩:=kn;obtain⟨pt,c⟩:=j7.mp hl;obtain⟨e,g⟩:=j7.mp hr';obtain⟨u,pa,hm,g1,g2⟩:=tS R.ma c;obtain⟨N,pb,hm',g3,g4⟩:=tS R.ma g;obtain⟨n1,n2,n3,n4⟩:=wB nr c;obtain⟨n5,n6,n7,n8⟩:=wB nr g;have l:Sq K H t _:=.inr (SqT.of ht);exists _,U,d,.ref m,U,dm (Same.refl _),_,U,t,_,2,.str l1,U,U,l,U,m,.ref pa,U,.inl ⟨u,.inr l1,hm,U,g1.symm⟩;exists pa,_,U,SqT.of g2,U,.int pt.1,_,U,.int pt.2,_,U,rfl;exists _,U,t,_,0,.str "range",U,U,l,U,U,_,rfl;refine pS ?_;exists _,U,_,U,_,_,rfl;exists _,U,d,.ref m,U,dm (Same.refl _),_,U,t,_,3,.str r1,U,U,l,U,m,.ref pb,U,.inl ⟨N,.inr r1,hm',U,g3.symm⟩,pb,_,U,SqT.of g4,U,.int e.1,_,U,.int e.2,_,U,rfl;refine⟨_,U,_,U,_,_,U,U,_,U,_,U,_,_,U,U,_,U,_,U,_,_,U,U,vC (by lia),_,U,_,U,_,_,U,U,vC (by lia),_,_,U,U,sz3,λx hx=>?_⟩;have sx:=zB hx (.tup [.int (pt.2-e.2),.int (e.1-pt.1),.int (e.1*pt.2-e.2*pt.1)]);have I:∃ x∈[pt.2-e.2,e.1-pt.1,e.1*pt.2-e.2*pt.1],x≠0/\x.natAbs<=2000:=by
   rcases Dn (pt.2-e.2=0) with z | z
   ·erw[e.1-pt.1,.tail _ (.head _),λz'=>ne ?_,by lia];rw[c,g];rwa[congrArg O (G8 (by lia) (by lia))]
   ·rwa[_,.head _,z,by lia]
  erw[x,_,_,_,rfl,SqT.of zA,(ul I (by decide)).1,(ul I (by decide)).2,λy H1 s1 hy ey=>⟨sz1,λL hL=>?_⟩];have G:=zB hL (.lst [.ref y]);erw[q L [y] _ (sx.trans (s1.trans G)) zA ?_];show xG _ [y] [_];rw[xM c,xM g];rwa[xG.one (G _ _ ey)]
 | _=>rwa[kn.elim]
def ug(_:c5):Sp:=λh H Q _=>E3 λ(d:c7) (S:BS) (j:Nat)=>A5 (h=[.ref d,.int j]) (ZU H d S) (gq S) (j<=S.runs.length) (∀(l:c7)(g:List c7)(c:Hp),Same H c->H l=JN->c l=O (.lst (g.map V.ref))->xD H c g (S.notes.map λe=>yh S j e.2)->Q (.ref l) c)
def kK(F:Fun K "_law_m_groups" "_law_m_groups" sO f fd)(Z:Zs mg)(CB:Cb P w mg base)(yBk:Has P w K mg base "_law_rows_of" 3 ["_law_m","_law_note"] (qa K))(yCk:Has P w K mg base "_law_lead" 1 ["_law_m","_law_one","_law_other"] (nP K)):yQ P w K mg base CX0 4 f fd ["_law_m","_law_moment"] (ug K):=by
 specialize wJ
 ·obtain⟨d,S,j,rfl,_⟩:=h;rfl
 obtain⟨d,S,j0,rfl,lwa,gd,hj,q⟩:=h;obtain⟨m,b,r,n,lw⟩:=id lwa;have dn:∀{l:Hp},Same H l->dk l d (.str "notes") (O (.ref n)):=λ{l} s=>.inl ⟨_,.inr "notes",Rd.same lw.at_ s,rfl,rY.symm⟩;obtain⟨kvs,hn0,kv⟩:=lw.no;have fn:=gd.few.no
 refine'⟨_,(zC (zU 2 wJ.nd ?_)
   (zC (xX t9 rfl (yT (yG yz rfl Z.sorted uI (zI (xF (vO rfl) rfl Z.list rZ (zI (zN (zZ hr) (pv 0) zS (λ_ _=>rfl)) zM)) zM))) (xO 3 wJ.nd) (zC (zU 4 wJ.nd (zN (zZ hr) (zN (zZ hr) (pv 0) zS (λ_ _=>rfl)) (pv 3) (λ_ _=>rfl)))
   (zC (wr ?_ (uX rfl (zQ (xO 5 wJ.nd) (zQ (xO 6 wJ.nd) xU))))
   (zF (zW (zu (pv 2) (zI (yO (T:=["_law_a","_law_b","_law_c"]) (caps:=[("_law_x",5),("_law_y",6)]) ⟨rfl,by ac_nf,by ac_nf,rfl,⟨⟨rfl,rfl,BM rfl⟩,⟨rfl,rfl,BM rfl⟩,t5⟩⟩ rfl (yT ?_) (λ_=>(uX rfl (zQ (xO 0 (show(["_law_a","_law_b","_law_c","_law_x","_law_y"]:List j3).Nodup by ac_nf)) (zQ (xO 1 (show(["_law_a","_law_b","_law_c","_law_x","_law_y"]:List j3).Nodup by ac_nf)) (zQ (xO 2 (show(["_law_a","_law_b","_law_c","_law_x","_law_y"]:List j3).Nodup by ac_nf)) xU))))) (λ_=>yH) (λ_=>?_)) zM)))))))
   (zF (zO (pv 2))))),?_⟩
 nofun
 refine⟨sz0,λG hG=>?_⟩;have s3:=zB hG (.lst []);refine⟨_,U,d,.ref n,U,dn s3,n,kvs,U,Rd.same hn0 s3,λc0 hc0=>?_⟩;rw[pU kv];have s4a:=zB hc0 (.lst ((S.notes.map (·.1)).map V.int));refine⟨c0,_,U,SqL.of zA,(by rw[b7]; lia),λc ms hc pm srt=>?_⟩;obtain rfl:=ng pm srt gd.rise;have s4:=s4a.trans (zB hc (.lst ((S.notes.map (·.1)).map V.int)));have e4:upd (upd (upd H G (.lst [])) c0 (.lst ((S.notes.map (·.1)).map V.int))) c (.lst ((S.notes.map (·.1)).map V.int)) c=O (.lst ((S.notes.map (·.1)).map V.int)):=zA;generalize upd (upd (upd H G (.lst [])) c0 (.lst ((S.notes.map (·.1)).map V.int))) c (.lst ((S.notes.map (·.1)).map V.int))=H4 at s4 e4 ⊢;have eG4:=s4 _ _ (zA (H:=H) (a:=G) (o:=.lst []));have ncG:c≠G:=λz=>by
  have:=s4a.free hc;rw[z,zA] at this;cases this
 refine⟨c,U,.inl ⟨⟨_,SqL.of e4⟩,xK (K:=K) (a:=c) (xs:=(S.notes.map (·.1)).map V.int) (λi J l=>A3 (∀ x o,x≠G->H4 x=O o->l x=O o) (∃ M:List c7,A3 (l G=O (.lst (M.map V.ref))) (∀ g∈M,g≠G) (xD H l M ((S.notes.take i).map λe=>yh S j0 e.2))) (E4 λ(u1 u2 u3 u4:Option V)=>J=[O (.ref d),O (.int j0),O (.ref G),u1,u2,u3,u4]))
  ⟨λ_ _ _ e=>e,⟨[],eG4,λ_ h=>(nomatch h),xD.nil⟩,JN,JN,JN,JN,rfl⟩ (λi J l _ hq=>SqL.of (hq.1 _ _ ncG e4)) ?_ ?_⟩⟩
 ·rintro i x J H5 hi ⟨sH,⟨M,eG,ngG,ga⟩,u1,u2,u3,u4,rfl⟩;rw[d9,d9,IA,o6] at hi;obtain⟨I,hn,rfl⟩:=hi;have kn:=gd.note _ (f7 hn);have p:Same H H5:=λx o e=>sH x o (zG e hG) (s4 _ _ (s3 _ _ e));have hil:=(d8.mp hn).1;obtain⟨v,gv,rv⟩:=(kv.to (.of p)).get (k:=.inl I.1) (aJ gd.rise hn);obtain⟨t,xs,rfl,et,mo,m0,m1⟩:=oj kn rv;exists _,U,d,.ref n,U,dn p,_,U,n,.ref t,U,.inl ⟨kvs,.inl I.1,Rd.same hn0 p,U,gv.symm⟩;erw[_,rfl,_,rfl,t,xs,1,_,rfl,rfl,.inr (SqT.of et),mo,_,rfl,d,S,(wI I.2).toNat,j0,?_,lwa.to (.of p),(by lia),hj,gd.few.ru,λw H6 s6 hw ew=>?_]
  ·rwa[congrArg (λz=>[V.ref d,V.int z,V.int j0]) (Dz m0).symm]
  have gr:∀ ld,uF S.runs (wI I.2).toNat j0=ld->yh S j0 I.2=(vP S I.2).map (YD ld.1 ld.2):=λld e=>by unfold yh; rw[e]
  generalize eld:uF S.runs (wI I.2).toNat j0=ld at ew;have gr:=gr ld eld;exists w,_,U,SqT.of ew,U,.int ld.1,_,U,.int ld.2,_,U,rfl;refine⟨_,U,.inl ⟨U,_,SqL.of (s6 _ _ eG)⟩,_,U,_,U,d,.ref t,S,I.2,U,rv.to (.of s6),lwa.to (.of (p.trans s6)),kn,gd.mk_,λL sd H7 s7 eL ts=>?_⟩;have X:=qj gd.mk_ kn;have two:=sg (S:=S) (D:=I.2);refine⟨L,U,.inl ⟨⟨_,SqL.of eL⟩,λcc B hB=>?_⟩⟩;refine yI (K:=K) (a:=L) (xs:=sd.map V.ref) (λi J zs l=>A4 (Same H7 l) (l B=O (.lst zs)) (∃ bs:List c7,zs=bs.map V.ref/\xG l bs (((vP S I.2).take i).map (YD ld.1 ld.2))) (E3 λ(u v w:Option V)=>J=[u,v,w,O (.int ld.1),O (.int ld.2)]))
   ⟨zB hB _,zA,⟨[],rfl,.nil⟩,JN,JN,JN,rfl⟩ (λi J zs l _ hq=>⟨SqL.of (hq.1 _ _ eL),hq.2⟩) ?_ ?_
  ·rintro i x J zs l hi ⟨sH',eB,⟨bs,rfl,tb⟩,u,v,w',rfl⟩;rw[d9,o6] at hi;obtain⟨y,hy,rfl⟩:=hi;have R:i<(vP S I.2).length:=by rw[<- ts.len]; exact(d8.mp hy).1
   have hr':(vP S I.2)[i]?=O (vP S I.2)[i]:=c8 R;obtain⟨A,B',C,e3,bA,bB⟩:=X _ (Ag R);have ey:=ts.at_ i y _ hy hr';rw[e3] at ey hr';exists y,_,U,SqT.of (sH' _ _ ey),U,.int A,_,U,.int B',_,U,.int C,_,U,rfl;erw[_,rfl,_,rfl,_,rfl,_,rfl,_,rfl,_,_,rfl,rfl,vC (by lia),_,_,rfl,rfl,_,rfl,_,rfl,_,_,rfl,rfl,vC (by lia),_,_,rfl,rfl,sz3,λz hz=>?_];have s8:=zB hz (.tup [.int A,.int B',.int (C+A*ld.1+B'*ld.2)]);have eB8:=s8 _ _ eB;erw[eB8,zL (by rw[b7,tb.len,b7,i7]; lia),(sH'.trans s8).putNew hB,zA,⟨bs++[z],by rw[e7]; rfl,?_⟩,_,_,_,rfl];rw[x6,hr',e7];exact((tb.to (.of s8)).app (.one zA)).samE (wO eB8) (vN eB8)
  ·rintro J zs H8 ⟨s8,eB,⟨bs,rfl,tb⟩,u,v,w',rfl⟩;rw[b7,ts.len,j9,<- gr] at tb;have Y:Same H5 H8:=s6.trans (s7.trans s8);have N:=Y _ _ eG;have nB5:H5 B=none:=s6.free (s7.free hB);have nBG:B≠G:=λz=>by rw[z,eG] at nB5; cases nB5
   exists G,_,.ref B,U,U,N,zL (by rw[b7,ga.len,b7,i7]; lia);have sG:=wO (o:=.lst (M.map V.ref++[.ref B])) N;erw[λx o n e=>by rw[zD n]; exact Y _ _ (sH x o n e),⟨M++[B],by rw[zA,e7]; rfl,λg hg=>?_,?_⟩,_,_,_,_,rfl]
   ·rcases l7.mp hg with z | z
    ·rwa[ngG g z]
    ·rw[f6.mp z]; rwa[nBG]
   ·rw[x6,hn,e7];have ga8:xD H H8 M _:=ga.samE (vW.of (φ:=λ_=>False) Y) (λ_ _ _=>id) (λ_ _=>id);exact(ga8.samE sG (vN N) ngG).snoc (p.free nB5) (by rw[zD nBG]; rwa[eB]) (tb.samE sG (vN N))
 ·rintro J H5 ⟨sH,⟨M,eG,ngG,ga⟩,u1,u2,u3,u4,rfl⟩;rw[b7,b7,j9] at ga;rwa[_,rfl,q G M H5 (λx o e=>sH x o (zG e hG) (s4 _ _ (s3 _ _ e))) hG eG ga]
def DR(H:Hp):Nat->V->V->Prop
 | 0,x,y=>x=y/\((∃ i,x=.int i)\/∃ b,x=.bl b)
 | n+1,x,y=>(x=y/\((∃ i,x=.int i)\/∃ b,x=.bl b))\/∃(a b:c7)(c d:List V)(l:Bool),x=.ref a/\y=.ref b/\H a=O (if l then .lst c else .tup c)/\H b=O (if l then .lst d else .tup d)/\c.length=d.length/\c.length<=9000 /\
   ∀(i:Nat)(u v:V),c[i]?=O u->d[i]?=O v->DR H n u v
def DR.same{H c:Hp}(e:Same H c):∀{n:Nat}{x y:V},DR H n x y->DR c n x y
 | 0,_,_,h=>h
 | n+1,x,y,h=>by
  rcases h with h | ⟨a,b,g,d,l,p,o,h1,h2,h3,h4,h5⟩
  ·rwa[.inl h]
  ·rwa[.inr ⟨a,b,g,d,l,p,o,e _ _ h1,e _ _ h2,h3,h4,λi u v m j=>DR.same e (h5 i u v m j)⟩]
def DR.int{H:Hp}{n:Nat}{x y:Int}(h:x=y):DR H n (.int x) (.int y):=by
 subst h;cases n with
 | zero=>rwa[rfl,.inl ⟨x,rfl⟩]
 | succ m=>rwa[.inl ⟨rfl,.inl ⟨x,rfl⟩⟩]
def DR.bl{H:Hp}{n:Nat}{x y:Bool}(h:x=y):DR H n (.bl x) (.bl y):=by
 subst h;cases n with
 | zero=>rwa[rfl,.inr ⟨x,rfl⟩]
 | succ m=>rwa[.inl ⟨rfl,.inr ⟨x,rfl⟩⟩]
def DR.tupI{H:Hp}{n:Nat}{a b:c7}{c d:List Int}(h1:H a=O (.tup (c.map V.int)))(h2:H b=O (.tup (d.map V.int)))(e:c=d)(j:c.length<=9000):DR H (n+1) (.ref a) (.ref b):=by
 subst e;erw[.inr ⟨a,b,c.map V.int,c.map V.int,JP,rfl,rfl,h1,h2,rfl,by rw[b7]; exact j,λi u v h g=>?_⟩];rw[h] at g;cases g;obtain⟨m,_,rfl⟩:=xS h;rwa[DR.int rfl]
def jt:Nat->Sp
 | 0=>λ_ _ _ _=>False
 | n+1=>λd H Q _=>∃(x y:V),d=[x,y]/\DR H n x y/\∀ c,Same H c->Q (.bl JO) c
def iE(_:c5):Sp:=jt 6
structure KT(K:c5)(ty:c6)(bb bi bl bt bs:Bool):Prop where
 b:CL K ty (.type "bool")=O bb
 i:CL K ty (.type "int")=O bi
 l:CL K ty (.type "list")=O bl
 t:CL K ty (.type "tuple")=O bt
 s:CL K ty (.type "str")=O bs
def dy{f:c7}{fd:AJ}(F:Fun K "_law_same" "_law_same" vc f fd)(Z:Zs mg)(bS:uh K fd ["_law_told","_law_due"] [])(kS:AI K (.ref f)=JO)(mS:mg "_law_same" = O (.ref f)) :
  ∀ n:Nat,yQ P w K mg base CX0 n f fd ["_law_told","_law_due"] (jt n)
 | 0=>⟨λ_ _ _ _ h=>h.elim,λ_ _ _ _ _ _ _ _ _ _ _ _ _ h=>h.elim⟩
 | n+1=>by
  have ih:=dy F Z bS kS mS n;have yCg:Has P w K mg base "_law_same" n ["_law_told","_law_due"] (jt n):=⟨f,fd,ih,bS,kS,mS⟩
  specialize Zr
  ·obtain⟨x,y,rfl,_⟩:=h;rfl
  obtain⟨x,y,rfl,R,q⟩:=h;have I:=hr
  refine'⟨_,(zC (xI ?_ (zF (zO gG)) yE)
   (zC (xI ?_ (zF (zO gG)) yE)
   (zC (xI ?_ (zF (zO ?_)) yE)
   (zF (zO (XE ?_ (Ww (yG (zg rfl) rfl Z.all iL (zI (yO (T:=["_law_one","_law_other"]) (caps:=[]) ⟨rfl,by ac_nf,by ac_nf,rfl,t5⟩ rfl (UC rfl Z.zip (zI (pv 0) (zI (pv 1) zM))) (λ_=>(uX rfl (zQ (xO 0 (show(["_law_one","_law_other"]:List j3).Nodup by ac_nf)) (zQ (xO 1 (show(["_law_one","_law_other"]:List j3).Nodup by ac_nf)) xU)))) (λ_=>yH) (λ_=>(wD yCg I rfl (zI (pv 0) (zI (pv 1) zM))))) zM))))))))),?_⟩
  nofun
  have X:∃(t:c6)(L J bl C bs:Bool),TyOf K H x t/\TyOf K H y t/\KT K t L J bl C bs/\((bl=JP/\C=JP/\x=y/\((∃ i,x=.int i)\/∃ b,x=.bl b)) \/
    ∃(m:Nat)(a b:c7)(d g:List V)(l:Bool),bl=l/\C = !l/\n=m+1/\x=.ref a/\y=.ref b/\H a=O (if l then .lst d else .tup d)/\H b=O (if l then .lst g else .tup g)/\d.length=g.length/\d.length<=9000 /\
     ∀(i:Nat)(u v:V),d[i]?=O u->g[i]?=O v->DR H m u v):=by
   have So:(x=y/\((∃ i,x=.int i)\/∃ b,x=.bl b))->∃(t:c6)(L J bl C bs:Bool),TyOf K H x t/\TyOf K H y t/\KT K t L J bl C bs/\(bl=JP/\C=JP/\x=y/\((∃ i,x=.int i)\/∃ b,x=.bl b)):=λh=>by
    obtain⟨rfl,h⟩:=h;rcases h with ⟨i,rfl⟩ | ⟨b,rfl⟩
    ·rwa[_,_,_,_,_,_,.int i,.int i,⟨rfl,rfl,rfl,rfl,rfl⟩,rfl,rfl,rfl,.inl ⟨i,rfl⟩]
    ·rwa[_,_,_,_,_,_,.bl b,.bl b,⟨rfl,rfl,rfl,rfl,rfl⟩,rfl,rfl,rfl,.inr ⟨b,rfl⟩]
   cases n with
   | zero =>
    obtain⟨t,L,J,bl,C,bs,h1,h2,h3,h4⟩:=So R;rwa[t,L,J,bl,C,bs,h1,h2,h3,.inl h4]
   | succ m =>
    rcases R with h | ⟨a,b,d,g,l,e1,B,h1,h2,h3,h4,h5⟩
    ·obtain⟨t,L,J,bl,C,bs,h1,h2,h3,h4⟩:=So h;rwa[t,L,J,bl,C,bs,h1,h2,h3,.inl h4]
    ·subst e1 B;cases l with
     | true=>rwa[_,_,_,_,_,_,.lst h1,.lst h2,⟨rfl,rfl,rfl,rfl,rfl⟩,.inr ⟨m,a,b,d,g,JO,rfl,rfl,rfl,rfl,rfl,h1,h2,h3,h4,h5⟩]
     | false=>rwa[_,_,_,_,_,_,.tup h1,.tup h2,⟨rfl,rfl,rfl,rfl,rfl⟩,.inr ⟨m,a,b,d,g,JP,rfl,rfl,rfl,rfl,rfl,h1,h2,h3,h4,h5⟩]
  obtain⟨t,L,J,bl,C,bs,tx,ty,r,rest⟩:=X;exists _,U,_, "bool",t,L,U,tx,r.b,_,U,_, "bool",t,L,U,ty,r.b,U,_,rfl;erw[ifN (λz=>y9 rfl z) (λ_=>?_)];exists _,U,_, "int",t,J,U,tx,r.i,_,U,_, "int",t,J,U,ty,r.i,U,_,rfl;erw[ifN (λz=>y9 rfl z) (λ_=>?_)];exists _,U,_, "list",t,bl,U,tx,r.l,_,U,_, "list",t,bl,U,ty,r.l,U,_,rfl;erw[ifN (λz=>y9 rfl z) (λ_=>?_)];exists _,U,_, "tuple",t,C,U,tx,r.t,_,U,_, "tuple",t,C,U,ty,r.t,U,_,rfl;erw[ifN (λz=>y9 rfl z) (λ_=>?_)];exists _,U,_, "list",t,bl,U,ty,r.l,_,rfl;rcases rest with ⟨rfl,rfl,rfl,hs⟩ | ⟨m,a,b,d,g,l,rfl,rfl,rfl,rfl,rfl,ha,hb,N,h9000,hel⟩
  ·erw[pS ?_];exists _,U,_, "tuple",t,JP,U,ty,r.t,_,rfl;erw[pS ?_];exists _,U,_, "str",t,bs,U,tx,r.s,_,U,_, "str",t,bs,U,ty,r.s,U,_,rfl;rw[y7 rfl];erw[pS ?_];erw[_,rfl,_,rfl,?_,?_]
   ·rcases hs with ⟨i,rfl⟩ | ⟨b,rfl⟩ <;> rfl
   ·rw[y7 rfl];rwa[q H (Same.refl H)]
  ·have SA:SqB bl K H a d:=by
    cases bl
    ·rwa[SqT.of ha]
    ·rwa[SqL.of ha]
   have SB:SqB bl K H b g:=by
    cases bl
    ·rwa[SqT.of hb]
    ·rwa[SqL.of hb]
   have SA':SqL K H a d\/SqT K H a d:=by
    cases bl
    ·rwa[.inr SA]
    ·rwa[.inl SA]
   have SB':SqL K H b g\/SqT K H b g:=by
    cases bl
    ·rwa[.inr SB]
    ·rwa[.inl SB]
   have keep:∀(j:Hp),Same H j->SqB bl K j a d/\SqB bl K j b g:=λj e=>by
    cases bl
    ·rwa[SqT.same SA e,SqT.same SB e]
    ·rwa[e.seq SA,e.seq SB]
   cases hbl:bl with
   | true =>
    refine uY ?_;refine uY ?_;exists _,U,a,d,U,SA',_,U,b,g,U,SB',U,_,rfl;rw[decI (by rw[N])];refine pS ?_;refine⟨_,U,_,U,bl,bl,a,b,d,g,U,SA,SB,λc D R=>jV (K:=K) (xs:=d) (ys:=g) (λi M G j=>A5 (Same H j) (j D=O (.lst G)) (G=(Bc i JO).map V.bl) (i<=d.length) (E2 λu v=>M=[u,v]))
     ⟨zB R _,zA,rfl,m7 _,JN,JN,rfl⟩ (λi M G j Y=>by obtain⟨e,B,_⟩:=Y; rwa[(keep j e).1,(keep j e).2,B]) ?_ ?_⟩
    ·rintro i u v T M G j hu hv hT ⟨e,B,rfl,hi,o1,o2,rfl⟩;have hil:i<d.length:=(d8.mp hu).1;have S:=zB hT (.tup [u,v]);erw[T,[u,v],rfl,SqT.of zA,rfl,u,[v],rfl,v,[],rfl,rfl,_,rfl,_,rfl,u,v,rfl,(hel i u v hu hv).same (e.trans S),λH4 s4=>?_];have e4:=s4 _ _ (S _ _ B);erw[e4,vU (by rw[b7,BI]; lia),λp o z=>?_,zA,?_,hil,_,_,rfl]
     ·rw[zD (zG z R)];rwa[s4 _ _ (S _ _ (e _ _ z))]
     ·rw[Eu,e7];rfl
    ·rintro M G j ⟨e,B,rfl,hi,o1,o2,rfl⟩;exists D,Bc (min d.length g.length) JO,U,SqL.of B;rw[show(Bc (min d.length g.length) JO).all id=JO from by simp];rwa[q _ e]
   | false =>
    refine pS ?_;exists _,U,_, "tuple",t,JO,U,ty,r.t.trans (by rw[hbl]; rfl),_,rfl;refine uY ?_;exists _,U,a,d,U,SA',_,U,b,g,U,SB',U,_,rfl;rw[decI (by rw[N])];refine pS ?_;refine⟨_,U,_,U,bl,bl,a,b,d,g,U,SA,SB,λc D R=>jV (K:=K) (xs:=d) (ys:=g) (λi M G j=>A5 (Same H j) (j D=O (.lst G)) (G=(Bc i JO).map V.bl) (i<=d.length) (E2 λu v=>M=[u,v]))
     ⟨zB R _,zA,rfl,m7 _,JN,JN,rfl⟩ (λi M G j Y=>by obtain⟨e,B,_⟩:=Y; rwa[(keep j e).1,(keep j e).2,B]) ?_ ?_⟩
    ·rintro i u v T M G j hu hv hT ⟨e,B,rfl,hi,o1,o2,rfl⟩;have hil:i<d.length:=(d8.mp hu).1;have S:=zB hT (.tup [u,v]);erw[T,[u,v],rfl,SqT.of zA,rfl,u,[v],rfl,v,[],rfl,rfl,_,rfl,_,rfl,u,v,rfl,(hel i u v hu hv).same (e.trans S),λH4 s4=>?_];have e4:=s4 _ _ (S _ _ B);erw[e4,vU (by rw[b7,BI]; lia),λp o z=>?_,zA,?_,hil,_,_,rfl]
     ·rw[zD (zG z R)];rwa[s4 _ _ (S _ _ (e _ _ z))]
     ·rw[Eu,e7];rfl
    ·rintro M G j ⟨e,B,rfl,hi,o1,o2,rfl⟩;exists D,Bc (min d.length g.length) JO,U,SqL.of B;rw[show(Bc (min d.length g.length) JO).all id=JO from by simp];rwa[q _ e]
def bO(F:Fun K "_law_same" "_law_same" vc f fd)(Z:Zs mg)(e:uh K fd ["_law_told","_law_due"] [])(d:AI K (.ref f)=JO)(c:mg "_law_same" = O (.ref f)):yQ P w K mg base CX0 6 f fd ["_law_told","_law_due"] (iE K):=dy F Z e d c 6
def jJ(_:c5):Sp:=λd H Q _=>E2 λ(b e:c7)=>A3 (d=[.ref b]) (H b=O (.ins bkC e [])) (∀(p:c7)(c:Hp),vW (λx=>x=b) H c->H p=JN->oR bkC c b p BS.nil [] []->Q .non c)
def bn(F:Fun K "__init__" "Book.__init__" ox f fd)(Z:Zs mg)(I:Cb P w mg base)(y:Has P w K mg base "nothing_yet" 1 [] (qS K)):yQ P w K mg base CX0 2 f fd ["self"] (jJ K):=by
 specialize af
 ·obtain⟨b,i,rfl,_⟩:=h;rfl
 obtain⟨b,i,rfl,N,q⟩:=h
 refine'⟨_,(zC (mn I.state (pv 0) (oU y (hr.mono (by decide)) rfl))
   (zC (mn I.past (pv 0) ?_)
   (zF (mn I.later (pv 0) ?_)))),?_⟩
 nofun
 refine⟨U,λd n B R st=>?_⟩;have m:=B _ _ N;exists _,U,b,i,[],U,m,(by show 0<1000; decide);refine⟨sz0,λp D=>?_⟩;have c:b≠p:=zG zA D;exists _,U,b,i,_,U,(by rw[zD c,zA]),(by show 1<1000; decide);refine⟨sz0,λl v=>?_⟩;have g:b≠l:=zG zA v;have j:p≠l:=λz=>by
  rw[<- z,zD c.symm,zA] at v;cases v
 exists _,U,b,i,_,U,(by rw[zD g,zA]),(by show 2<1000; decide);rw[WH];have u:n p=none:=by rw[zD c.symm] at D; rwa[D]
 have G:n l=none:=by rw[zD g.symm,zD j.symm,zD g.symm] at v; rwa[v]
 have L:vW (λx=>x=b) n (upd (upd (upd (upd (upd n b (.ins bkC i (pR "state" (.ref d) []))) p (.lst [])) b (.ins bkC i (pR "past" (.ref p) (pR "state" (.ref d) [])))) l (.lst [])) b (.ins bkC i (bkF d p l))):=λx o C e=>by
  have n1:=zG e u;have n2:=zG e G;rw[zD C,zD n2,zD C,zD n1,zD C];rwa[.inl e]
 have nd:∀ a r,Rd n a (.dK r)->¬ a=b:=λa r h z=>by
  subst z;rcases h with h | ⟨o,h⟩ <;> rw[m] at h <;> cases h
 have M:∀ a J,n a=O (.tup J)->¬ a=b:=λa J h z=>by
  subst z;rw[m] at h;cases h
 erw[q p _ ((vW.of B).trans L) (B.free u) ⟨i,d,l,[],[],zA,st.samE L nd M,?_,?_,rfl,rfl,j.symm⟩]
 ·rw[zD c.symm,zD j,zD c.symm,zA]
 ·rw[zD g.symm,zA]
def mW(_:c5):Sp:=λg H Q _=>E5 λ(b p:c7) (S:BS) (past later:List (Deed×BS))=>A4 (g=[.ref b]) (oR bkC H b p S past later) (Few S) (∀(c:c7)(as:List c7)(e:List j3)(d:Hp),Same H d->H c=JN->d c=O (.lst (as.map V.ref))->e.Perm (S.marks.map (·.1))->JC e=JO->za d S as e->Q (.ref c) d)
def dR(F:Fun K "marks" "Book.marks" wb f fd)(Z:Zs mg)(CB:Cb P w mg base)  : yQ P w K mg base CX0 1 f fd ["self"] (mW K):=by
 specialize lP
 ·obtain⟨b,p,S,past,later,rfl,_⟩:=h;rfl
 obtain⟨b,p,S,past,later,rfl,⟨dx,d,l,ps,ls,k⟩,few,q⟩:=h;obtain⟨m,bk,r,n,st⟩:=k.st;obtain⟨M,hm,kv⟩:=id st.ma;have fm:=few.ma;refine⟨_,(zC (Zo (i:=1) lP.nd rfl (Hy rfl) (zN (zZ hr) (wg CB.state (pv 0)) zS (λ_ _=>rfl)))
   (zF (zO (yO (T:=["name"]) (caps:=[("places",1)]) ⟨rfl,by ac_nf,by ac_nf,rfl,⟨⟨rfl,rfl,BM rfl⟩,t5⟩⟩ rfl (yT (yG ql rfl Z.sorted uI (zI (xF (vO rfl) rfl Z.list rZ (zI (pv 1) zM)) zM))) (λ_=>(lX (i:=0) (show(["name","places"]:List j3).Nodup by ac_nf) rfl (BM rfl))) (λ_=>yH) (λ_=>(jY (zI (pv 0) (zI (bu bK (zN (zZ hr) (pv 1) (pv 0) (λ_ _=>rfl)) wP (λ_ _=>rfl)) (zI (bu bK (zN (zZ hr) (pv 1) (pv 0) (λ_ _=>rfl)) wP (λ_ _=>rfl)) zM))))))))),?_⟩
 try dsimp only[L2.cxOf]
 erw[_,rfl,b,dx,_,_,rfl,k.ob,xv,d,.ref m,rfl,.inl ⟨_,.inr "marks",st.at_,rfl,rX.symm⟩,_,rfl,m,M,rfl,hm,λg hg=>?_];rw[kP kv];have s1:=zB hg (.lst ((S.marks.map (·.1)).map V.str));erw[g,_,rfl,SqL.of zA,(by rw[b7]; lia),λt v ht pm J=>?_];have G:=s1.trans (zB ht (.lst (v.map V.str)));have lm:v.length=S.marks.length:=by rw[pm.length_eq,b7]
 refine⟨t,U,.inl ⟨⟨_,SqL.of zA⟩,λcc D I=>?_⟩⟩;have s3:=G.trans (zB I (.lst []));refine yI (K:=K) (a:=t) (xs:=v.map V.str) (λi B y c=>A4 (Same (upd (upd H g (.lst ((S.marks.map (·.1)).map V.str))) t (.lst (v.map V.str))) c) (c D=O (.lst y)) (∃ as:List c7,y=as.map V.ref/\za c S as (v.take i)) (∃ u:Option V,B=[u,O (.ref m)]))
  ⟨zB I _,zA,⟨[],rfl,rfl,λj a n e=>by simp at e⟩,JN,rfl⟩ (λi B y c _ hq=>⟨SqL.of (hq.1 _ _ zA),hq.2⟩) ?_ ?_
 ·rintro i x B y c hi ⟨C,Y,⟨as,rfl,ma⟩,u,rfl⟩;rw[d9,o6] at hi;obtain⟨x,R,rfl⟩:=hi;obtain⟨pt,z⟩:=rH (S:=S) (n:=x) (pm.mem_iff.mp (f7 R));obtain⟨N,a,g1,g2,g3⟩:=tS (st.ma.to (.of (G.trans C))) z;have hil:=(d8.mp R).1;have la:=ma.len;rw[i7] at la;have dg:dk c m (.str x) (O (.ref a)):=.inl ⟨N,.inr x,g1,rfl,g2.symm⟩;exists _,U,_,U,_,U,m,.ref a,U,dg;erw[a,_,0,.int pt.1,rfl,rfl,.inr (SqT.of g3),rfl,_,rfl,_,rfl,m,.ref a,rfl,dg,a,_,1,.int pt.2,rfl,rfl,.inr (SqT.of g3),rfl,sz3,λt3 X=>?_];have L:=zB X (.tup [.str x,.int pt.1,.int pt.2]);have o:=L _ _ Y;erw[o,zL (by rw[b7]; lia),(C.trans L).putNew I,zA,⟨as++[t3],by rw[e7]; rfl,?_⟩,_,rfl];rw[x6,R];exact((ma.samE (.of L) (λ_ _ _=>id)).app z zA).samE (wO o) (vN o)
 ·rintro B y c ⟨C,Y,⟨as,rfl,ma⟩,u,rfl⟩;rw[b7,j9] at ma;rwa[q D as v c (G.trans C) (G.free I) Y pm J ma]
def qY(_:c5):Sp:=λe H Q _=>E5 λ(b p:c7) (S:BS) (past later:List (Deed×BS))=>A4 (e=[.ref b]) (oR bkC H b p S past later) (Few S) (∀(d:c7)(c:Hp),Same H c->H d=JN->uw c d S->Q (.ref d) c)
def pD(F:Fun K "mark_places" "mark_places" uT f fd)(Z:Zs mg)(CB:Cb P w mg base)(j:eA P w K mg base jv 1 ["self"] (mW K)):yQ P w K mg base CX0 2 f fd ["book"] (qY K):=by
 specialize vV
 ·obtain⟨b,p,S,past,later,rfl,_⟩:=h;rfl
 obtain⟨b,p,S,past,later,rfl,bk,few,q⟩:=h;have no:∀{d l:c7}{m:j3},m = "marks" ->(bkF d p l).lookup m=none:=λ{d l m} e=>by subst e; rwa[mI (by ac_nf) (by ac_nf) (by ac_nf)]
 refine'⟨_,(zC (zU 1 vV.nd sI)
   (zC (xX t9 rfl (yT (tT CB.m_marks j (hr.mono (by decide)) (pv 0))) (xO 2 vV.nd) (zF (uJ (zZ hr) (pv 1) ?_ ?_ rfl)))
   (zF (zO (pv 1))))),?_⟩
 nofun
 intro D hD;have T:=zB hD (.dK []);obtain⟨dx,d,l,ps,ls,k⟩:=bk.to (.of T);erw[_,rfl,b,dx,_,rfl,k.ob,no rfl,b,p,S,past,later,rfl,bk.to (.of T),few,λc as r H1 s1 hc e1 pm srt ma=>?_];have fm:=few.ma;have lm:r.length=S.marks.length:=by rw[pm.length_eq,b7]
 have Y:c≠D:=λz=>by rw[z,zA] at hc; cases hc
 have G:=s1 _ _ (zA (H:=H) (a:=D) (o:=.dK []));refine⟨c,U,.inl ⟨⟨_,SqL.of e1⟩,xK (K:=K) (a:=c) (xs:=as.map V.ref) (λi J y=>A3 (∀ x o,x≠D->H1 x=O o->y x=O o) (∃ g,A3 (y D=O (.dK g)) (g.length<=i) (∀ n∈r.take i,∃(p:Int×Int)(a:c7),zT S n=O p/\vS g (.inr n)=O (.ref a)/\y a=O (.tup [.int p.1,.int p.2]))) (∃ u:Option V,J=[O (.ref b),O (.ref D),u]))
  ⟨λ_ _ _ e=>e,⟨[],G,e8 _,λn N=>by simp at N⟩,JN,rfl⟩ (λi J y _ hq=>SqL.of (hq.1 _ _ Y e1)) ?_ ?_⟩⟩
 ·rintro i x J y hi ⟨L,⟨g,I,lk,inv⟩,u,rfl⟩;rw[d9,o6] at hi;obtain⟨a,ha,rfl⟩:=hi;have hil:i<r.length:=by rw[<- ma.len]; exact(d8.mp ha).1
  have N:r[i]?=O r[i]:=c8 hil;obtain⟨pt,hpt,ea⟩:=ma.at_ i a _ ha N;have naD:a≠D:=λz=>by rw[z,G] at ea; cases ea
  have v:=L _ _ naD ea;erw[_,rfl,a,_,1,.int pt.1,rfl,rfl,.inr (SqT.of v),rfl,_,rfl,a,_,2,.int pt.2,rfl,rfl,.inr (SqT.of v),rfl,sz2,λt ht=>?_];have M:=zB ht (.tup [.int pt.1,.int pt.2]);exists _,U,_,U,a,_,0,.str r[i],U,U,.inr (SqT.of (M _ _ v)),U,D,_,U,oV.k (k:=.inr r[i]) (M _ _ I) (zL (by lia));have X:t≠D:=λz=>by rw[z,I] at ht; cases ht
  refine⟨λx o n e=>by rw[zD n]; exact M _ _ (L x o n e),⟨_,zA,(by have:=qF g (.inr r[i]:Key) (.ref t); lia),λn h=>?_⟩,_,rfl⟩;rw[x6,N,l7] at h;by_cases z:n=r[i]
  ·rwa[pt,t,by rw[z]; exact hpt,by rw[xh,z,y6 rfl],by rw[zD X,zA]]
  ·obtain⟨p',a',R,g2,C⟩:=inv n (h.resolve_right (by simpa using z));have B:a'≠D:=λz=>by rw[z,I] at C; cases C
   exact⟨p',a',R,by rw[xh,y4 (by intro w; injection w with w; rwa[z w])]; exact g2,by rw[zD B]; rwa[M _ _ C]⟩
 ·rintro J y ⟨L,⟨g,I,lk,inv⟩,u,rfl⟩;rw[b7,ma.len,j9] at inv;erw[_,rfl,q D y (λx o e=>?_) hD ⟨g,.inl I,λn p e=>?_⟩]
  ·rwa[L x o (zG e hD) (s1 _ _ (T _ _ e))]
  ·obtain⟨p',a,R,g2,C⟩:=inv n (pm.mem_iff.mpr (g7.mpr ⟨(n,p),xy e,rfl⟩));rw[e] at R;cases R;rwa[a,g2,C]
def oY(_:c5):Sp:=λg H Q _=>E5 λ(b p:c7) (S:BS) (past later:List (Deed×BS))=>A4 (g=[.ref b]) (oR bkC H b p S past later) (Few S) (∀(c:c7)(e:List V)(d:Hp),Same H d->H c=JN->d c=O (.lst e)->xT d (S.runs.map ptD) e->Q (.ref c) d)
def Zm(F:Fun K "runs" "Book.runs" pW f fd)(Z:Zs mg)(CB:Cb P w mg base)  : yQ P w K mg base CX0 1 f fd ["self"] (oY K):=by
 specialize ii
 ·obtain⟨b,p,S,past,later,rfl,_⟩:=h;rfl
 obtain⟨b,p,S,past,later,rfl,⟨dx,d,l,ps,ls,k⟩,few,q⟩:=h;obtain⟨m,bk,r,n,st⟩:=k.st;obtain⟨g,I,Y⟩:=id st.ru;have lr:g.length=S.runs.length:=by rw[Y.length,kQ]
 refine⟨_,(zC (Zo (i:=1) ii.nd rfl (Hy rfl) (zN (zZ hr) (wg CB.state (pv 0)) zS (λ_ _=>rfl)))
   (zF (zO (yO (T:=["number"]) (caps:=[("runs",1)]) ⟨rfl,by ac_nf,by ac_nf,rfl,⟨⟨rfl,rfl,BM rfl⟩,t5⟩⟩ rfl (wQ rfl Z.range (zI (yG uf rfl Z.len qf (zI (pv 1) zM)) zM)) (λ_=>(lX (i:=0) (show(["number","runs"]:List j3).Nodup by ac_nf) rfl (BM rfl))) (λ_=>yH) (λ_=>(zN (zZ hr) (pv 1) (pv 0) (λ_ _=>rfl))))))),?_⟩
 try dsimp only[L2.cxOf]
 exists _,U,b,dx,_,_,U,k.ob,xv,d,.ref r,U,.inl ⟨_,.inr "runs",st.at_,U,sj.symm⟩,_,U,r,g,U,I;refine⟨_,U,(by have:=few.ru; lia),(by have:=few.ru; lia),λcc D L=>nW (lo:=0) (n:=(g.length:Int).toNat) (λi y j c=>A4 (Same H c) (c D=O (.lst j)) (xT c ((S.runs.take i).map ptD) j) (∃ u:Option V,y=[u,O (.ref r)]))
  ⟨zB L _,zA,yC.mpr rfl,JN,rfl⟩ (λi y j c _ hq=>hq.2) ?_ ?_⟩
 ·rintro i y j c hi ⟨B,C,v,u,rfl⟩;have J:i<S.runs.length:=by lia
  have X:S.runs[i]?=O S.runs[i]:=c8 J;obtain⟨G,a,g1,g2,g3⟩:=Xe (st.ru.to (.of B)) X;refine⟨_,U,_,U,r,.ref a,U,.inl ⟨G,.inl (i:Int),g1,by rw[Do]; rfl,g2.symm⟩,C,zL (by rw[v.length,b7,i7]; have:=few.ru; lia),B.putNew L,zA,?_,_,rfl⟩;rw[x6,X,e7];have N:vW (λx=>x=D) c (upd c D (.lst (j++[.ref a]))):=λx o hx e=>.inl (by rw[zD hx]; rwa[e]);have R:∀ b M,c b=O (.tup M)->¬ b=D:=λb M e z=>by rw[z,C] at e; cases e
  rwa[xT.app (v.sam N R) (.one ((zj g3).sam N R))]
 ·rintro y j c ⟨B,C,v,u,rfl⟩;rw[show(g.length:Int).toNat=S.runs.length by lia,j9] at v;rwa[q D j c B L C v]
def Ub(ask:c7->Int->List V->Prop):List V->Hp->XK->Prop:=λd H E=>∃(b p:c7)(S:BS)(past later:List (Deed×BS))(m:Int),ask b m d/\oR bkC H b p S past later/\Few S/\offM S.runs.length m/\∀ c:Hp,Same H c->E (.ref qI) JN c
def askW(b:c7)(m:Int)(c:List V):Prop:=∃ o:Int,(c=[.ref b,.int m,.int o]\/c=[.ref b,.int o,.int m])/\o.natAbs.log2<1920
def qX(_:c5):Sp:=λd H Q E=>(E7 λ(b p:c7) (S:BS) (past later:List (Deed×BS)) (i j:Nat)=>A6 (d=[.ref b,.int i,.int j]) (oR bkC H b p S past later) (Few S) (i<=S.runs.length) (j<=S.runs.length) (∀(t:c7)(c:Hp),Same H c->H t=JN->c t=O (.tup [.int (uF S.runs i j).1,.int (uF S.runs i j).2])->Q (.ref t) c))\/Ub askW d H E
def pJ(F:Fun K "way_between" "way_between" uO f fd)(Z:Zs mg)(CB:Cb P w mg base)(yAi:YB P w K mg base "check_moment" 1 ["moment","runs"] (xL K))(G:eA P w K mg base kT 1 ["self"] (oY K)):yQ P w K mg base (CX1 P w) 2 f fd ["book","one","other"] (qX K):=by
 erw[F.okX wY (λvs H Q E h=>?_) (λcdv A outer s H vs Q E hr h=>?_)]
 ·rcases h with ⟨b,p,S,past,later,i,j,rfl,_⟩ | ⟨b,p,S,past,later,m,⟨o,rfl | rfl,_⟩,_⟩ <;> rfl
 refine'⟨_,(zC (PS.nox (zU 3 wY.nd (tT CB.m_runs G (hr.mono (by decide)) (pv 0))))
   (zC (zW (qP (λ_=>E) yAi pM (hr.mono (by decide)) rfl (zI (pv 1) (zI (pv 3) zM))))
   (zC (zW (qP (λ_=>E) yAi pM (hr.mono (by decide)) rfl (zI (pv 2) (zI (pv 3) zM))))
   (zC (PS.nox (zU 4 wY.nd ?_))
   (zC (PS.nox (zU 5 wY.nd ?_))
   (zF (PS.nox (zO (jY (zI (qC jZ (pv 5) (yG (yt rfl) rfl Z.sum ie (zI (yO (T:=["run"]) (caps:=[]) ⟨rfl,by ac_nf,by ac_nf,rfl,t5⟩ rfl (yT (pv 4)) (λ_=>(xO 0 (show(["run"]:List j3).Nodup by ac_nf))) (λ_=>yH) (λ_=>?_)) zM))) (zI (qC jZ (pv 5) (yG (yt rfl) rfl Z.sum ie (zI (yO (T:=["run"]) (caps:=[]) ⟨rfl,by ac_nf,by ac_nf,rfl,t5⟩ rfl (yT (pv 4)) (λ_=>(xO 0 (show(["run"]:List j3).Nodup by ac_nf))) (λ_=>yH) (λ_=>?_)) zM))) zM))))))))))),?_⟩
 nofun
 rcases h with h | h
 rotate_left
 ·obtain⟨b,p,S,past,later,m,ask,bk,Y,off,k⟩:=h;have few:=Y.ru;obtain⟨dx,d,l,ps,ls,kk⟩:=id bk;have no:∀{d l:c7}{m:j3},m = "runs" ->(bkF d p l).lookup m=none:=λ{d l m} e=>by subst e; rwa[mI (by ac_nf) (by ac_nf) (by ac_nf)]
  obtain⟨o,e | e,so⟩:=ask
  ·subst e;erw[_,rfl,b,dx,_,rfl,kk.ob,no rfl,b,p,S,past,later,rfl,bk,Y,λr B H1 R hr0 v rep=>?_];have C:B.length=S.runs.length:=by rw[rep.length,b7]
   rwa[_,rfl,_,rfl,r,m,S.runs.length,rfl,.inl ⟨B,SqL.of v,C⟩,.inr ⟨off,k _ R⟩]
  ·subst e;erw[_,rfl,b,dx,_,rfl,kk.ob,no rfl,b,p,S,past,later,rfl,bk,Y,λr B H1 R hr0 v rep=>?_];have C:B.length=S.runs.length:=by rw[rep.length,b7]
   exists _,U,_,U,r,o,S.runs.length,U,.inl ⟨B,SqL.of v,C⟩;by_cases z:0<=o/\o<=(S.runs.length:Int)
   ·rwa[.inl ⟨z.1,z.2,_,rfl,_,rfl,r,m,S.runs.length,rfl,.inl ⟨B,SqL.of v,C⟩,.inr ⟨off,k _ R⟩⟩]
   ·rwa[.inr ⟨⟨by lia,so⟩,k _ R⟩]
 obtain⟨b,p,S,past,later,n,g,rfl,bk,Y,hi,hj,k⟩:=h;have few:=Y.ru;obtain⟨dx,d,l,ps,ls,kk⟩:=id bk;have no:∀{d l:c7}{m:j3},m = "runs" ->(bkF d p l).lookup m=none:=λ{d l m} e=>by subst e; rwa[mI (by ac_nf) (by ac_nf) (by ac_nf)]
 erw[_,rfl,b,dx,_,rfl,kk.ob,no rfl,b,p,S,past,later,rfl,bk,Y,λr B H1 R hr0 v rep=>?_];have C:B.length=S.runs.length:=by rw[rep.length,b7]
 erw[_,rfl,_,rfl,r,n,S.runs.length,rfl,.inl ⟨B,SqL.of v,C⟩,.inl ⟨(by lia),(by lia),?_⟩];erw[_,rfl,_,rfl,r,g,S.runs.length,rfl,.inl ⟨B,SqL.of v,C⟩,.inl ⟨(by lia),(by lia),?_⟩];erw[_,rfl,_,rfl,_,rfl,_,_,rfl,_,rfl,_,rfl,_,rfl,_,_,rfl,_,rfl,r,B,rfl,SqL.of v,λq hq=>?_];have e1:(if (g:Int)<n then(g:Int) else n)=((min n g:Nat):Int):=by split <;> lia
 have e2:(if (g:Int)>n then(g:Int) else n)=((max n g:Nat):Int):=by split <;> lia
 have ec:qy B (O (if (g:Int)<n then(g:Int) else n)) (O (if (g:Int)>n then(g:Int) else n))=(B.drop (min n g)).take (max n g-min n g):=by
  rw[e1,e2,eK (by lia) (by lia)]
 generalize hcs:qy B (O (if (g:Int)<n then(g:Int) else n)) (O (if (g:Int)>n then(g:Int) else n))=M at hq;have sq:=zB hq (.lst M);have rc:xT (upd H1 q (.lst M)) ((qZ S.runs n g).map ptD) M:=by
  have ecs:M=(B.drop (min n g)).take (max n g-min n g):=hcs.symm.trans ec;have:=((rep.drop (min n g)).take (max n g-min n g)).to (.of sq);rw[<- ecs,<- FH,<- Ek] at this;rwa[this]
 have ls:=vp S.runs n g;exists _,U,_,U,_,_,U,U,_,rfl;have cmh:∀ y:Int,Ur (tX n g) y:=λy=>vC (by unfold tX; split <;> decide);refine VO (i:=n) (j:=g) ?_;refine⟨_,U,_,U,q,U,.inl ⟨⟨_,SqL.of zA⟩,λc D hD=>?_⟩⟩;refine yI (K:=K) (a:=q) (xs:=M) (λi J I N=>A4 (Same (upd H1 q (.lst M)) N) (N D=O (.lst I)) (I=(((qZ S.runs n g).take i).map (·.1)).map V.int) (∃ u:Option V,J=[u]))
  ⟨zB hD _,zA,rfl,JN,rfl⟩ (λi J I N _ X=>by obtain⟨L,e,_⟩:=X; rwa[SqL.of (L _ _ zA),e]) ?_ ?_
 ·rintro i x J I N hi ⟨L,eD,rfl,u,rfl⟩;obtain⟨p,a,gp,rfl,ea⟩:=kO rc hi;have hil:=(d8.mp gp).1;erw[_,rfl,a,_,0,.int p.1,rfl,rfl,.inr (SqT.of (L _ _ ea)),rfl,eD,zL (by rw[b7,b7,i7]; lia),L.putNew hD,zA,?_,_,rfl];rw[x6,gp,e7,e7];rfl
 rintro J I H2 ⟨s2,eD,rfl,u,rfl⟩;exists D,_,U,SqL.of eD,_,_,U,U,cmh _;have eq2:=s2 _ _ (zA (H:=H1) (a:=q) (o:=.lst M));have rc2:=rc.to (.of s2);refine⟨_,U,_,U,q,U,.inl ⟨⟨_,SqL.of eq2⟩,λc D hD=>?_⟩⟩;refine yI (K:=K) (a:=q) (xs:=M) (λi J I N=>A4 (Same H2 N) (N D=O (.lst I)) (I=(((qZ S.runs n g).take i).map (·.2)).map V.int) (∃ u:Option V,J=[u]))
  ⟨zB hD _,zA,rfl,JN,rfl⟩ (λi J I N _ X=>by obtain⟨L,e,_⟩:=X; rwa[SqL.of (L _ _ eq2),e]) ?_ ?_
 ·rintro i x J I N hi ⟨L,eD,rfl,u,rfl⟩;obtain⟨p,a,gp,rfl,ea⟩:=kO rc2 hi;have hil:=(d8.mp gp).1;erw[_,rfl,a,_,1,.int p.2,rfl,rfl,.inr (SqT.of (L _ _ ea)),rfl,eD,zL (by rw[b7,b7,i7]; lia),L.putNew hD,zA,?_,_,rfl];rw[x6,gp,e7,e7];rfl
 rintro J I H3 ⟨s3,eD3,rfl,u,rfl⟩;erw[D,_,rfl,SqL.of eD3,_,_,rfl,rfl,cmh _,sz2,λt ht=>?_];have s23:=s2.trans s3;erw[k t _ (R.trans ((sq.trans s23).trans (zB ht _))) (R.free (sq.free (s23.free ht))) ?_];rw[zA,show M.length=(qZ S.runs n g).length by rw[rc.length,b7],j9];rfl
def uc(_:c5):Sp:=λe H Q _=>E5 λ(b p:c7) (S:BS) (past later:List (Deed×BS))=>A5 (e=[.ref b]) (oR bkC H b p S past later) (Few S) (aM S) (∀(c:c7)(as:List c7)(d:Hp),Same H d->H c=JN->d c=O (.lst (as.map V.ref))->WR d as S.notes->Q (.ref c) d)
def dN(F:Fun K "notes" "Book.notes" vv f fd)(Z:Zs mg)(CB:Cb P w mg base)  : yQ P w K mg base CX0 1 f fd ["self"] (uc K):=by
 specialize cP
 ·obtain⟨b,p,S,past,later,rfl,_⟩:=h;rfl
 obtain⟨b,p,S,past,later,rfl,⟨Y,d,l,ps,ls,k⟩,few,D,q⟩:=h;obtain⟨m,bk,r,n,st⟩:=k.st;obtain⟨G,B,I⟩:=st.no;obtain⟨g,rfl,y,C⟩:=fV I;have lk:g.length=S.notes.length:=by have:=congrArg Aq y; simpa using this
 exists _,(zF (zO (yG (hW rfl) rfl Z.sorted uI (zI (Xi (zN (zZ hr) (wg CB.state (pv 0)) zS (λ_ _=>rfl))) zM))))
 try dsimp only[L2.cxOf]
 refine⟨_,U,b,Y,_,_,U,k.ob,xv,d,.ref n,U,.inl ⟨_,.inr "notes",st.at_,U,vq.symm⟩,n,_,U,B,λv J=>?_⟩;have o:=zB J (.ext (iO v n));refine⟨v,n,g,U,zA,Rd.same B o,(by have:=few.no; lia),(by rw[y]; exact D),λc as H' z M L T N=>?_⟩;refine q c as H' (o.trans z) (o.free M) T ⟨L.trans lk,λj a e h1 h2=>?_⟩;have hj:=(d8.mp h1).1;have u:g[j]?=O g[j]:=c8 (by lia);obtain⟨_,h3⟩:=N j a _ h1 u;obtain⟨x,h4,h5⟩:=(C.to (.of (o.trans z))).at (i:=j) (d:=e.2.dt) (by rw[d9,h2]; rfl);rw[d9,u] at h4;have X:g[j].1=e.1:=by
  have:=congrArg (·[j]?) y;simp only[d9,u,h2,AS,DT] at this;rwa[this]
 rw[X] at h3;have R:g[j].2=x:=by simpa using h4
 rwa[x,by rw[<- R]; exact h3,h5]
def askM(b:c7)(m:Int)(c:List V):Prop:=c=[.ref b,.int m]
def qV(_:c5):Sp:=λh H Q E=>(E6 λ(b p:c7) (S:BS) (past later:List (Deed×BS)) (j:Nat)=>A5 (h=[.ref b,.int j]) (oR bkC H b p S past later) (gq S) (j<=S.runs.length) (∀(l:c7)(d:List c7)(c:Hp),Same H c->H l=JN->(∀ g∈d,g≠l)->c l=O (.lst (d.map V.ref))->xD H c d (S.notes.map λe=>yh S j e.2)->Q (.ref l) c))\/Ub askM h H E
def pI(F:Fun K "note_groups" "note_groups" uK f fd)(Z:Zs mg)(CB:Cb P w mg base)(I:eA P w K mg base pL 1 ["self"] (uc K))(yBg:Has P w K mg base "sides_of" 5 ["note","places"] (vz K))(yBq:Has P w K mg base "pushed" 1 ["side","x","y"] (nv K))(yAl:YB P w K mg base "way_between" 2 ["book","one","other"] (qX K))(yAq:Has P w K mg base "mark_places" 2 ["book"] (qY K))(yAi:YB P w K mg base "check_moment" 1 ["moment","runs"] (xL K))(J:eA P w K mg base kT 1 ["self"] (oY K)):yQ P w K mg base (CX1 P w) 6 f fd ["book","moment"] (qV K):=by
 erw[F.okX xC (λvs H Q E h=>?_) (λcdv A outer s H vs Q E hr h=>?_)]
 ·rcases h with ⟨b,p,S,past,later,j,rfl,_⟩ | ⟨b,p,S,past,later,m,rfl,_⟩ <;> rfl
 refine'⟨_,(zC (zW (qP (λ_=>E) yAi pM (hr.mono (by decide)) rfl (zI (pv 1) (zI (tT CB.m_runs J (hr.mono (by decide)) (pv 0)) zM))))
   (zC (PS.nox (zU 2 xC.nd ?_))
   (zC (PS.nox (zU 3 xC.nd ?_))
   (zC (xX PassesOwn.leaving rfl (yT (tT CB.m_notes I (hr.mono (by decide)) (pv 0))) (xO 4 xC.nd) (zC (PS.nox (zU 5 xC.nd ?_))
   (zC (zU 6 xC.nd (qP (λ_=>E) yAl pM (hr.mono (by decide)) rfl ?_))
   (zF (PS.nox (zW (zu (pv 3) (zI (yO (T:=["side"]) (caps:=[("way",6)]) ⟨rfl,by ac_nf,by ac_nf,rfl,⟨⟨rfl,rfl,BM rfl⟩,t5⟩⟩ rfl (yT ?_) (λ_=>(xO 0 (show(["side","way"]:List j3).Nodup by ac_nf))) (λ_=>yH) (λ_=>?_)) zM))))))))
   (zF (PS.nox (zO (pv 3)))))))),?_⟩
 nofun
 rcases h with h | h
 rotate_left
 ·obtain⟨b,p,S,past,later,m,rfl,bk,fw,off,k⟩:=h;obtain⟨dx,d,l,ps,ls,kk⟩:=id bk;have no:(bkF d p l).lookup ("runs" : j3)=none:=mI (by ac_nf) (by ac_nf) (by ac_nf);erw[_,rfl,_,rfl,b,dx,_,rfl,kk.ob,no,b,p,S,past,later,rfl,bk,fw,λr rs H1 s1 hr0 hr1 rep=>?_];rwa[r,m,S.runs.length,rfl,.inl ⟨rs,SqL.of hr1,by rw[rep.length,b7]⟩,.inr ⟨off,k _ s1⟩]
 obtain⟨b,p,S,past,later,j0,rfl,bk,gd,hj,q⟩:=h;have no:∀{d l:c7}{m:j3},m = "runs" \/ m = "notes" ->(bkF d p l).lookup m=none:=λ{d l m} e=>by rcases e with e | e <;> subst e <;> rwa[mI (by ac_nf) (by ac_nf) (by ac_nf)]
 obtain⟨dx,d,l,ps,ls,kk⟩:=id bk;erw[_,rfl,_,rfl,b,dx,_,rfl,kk.ob,no (.inl rfl),b,p,S,past,later,rfl,bk,gd.few,λr rs H1 s1 hr0 hr1 rep=>?_];have lrs:rs.length=S.runs.length:=by rw[rep.length,b7]
 erw[r,j0,S.runs.length,rfl,.inl ⟨rs,SqL.of hr1,lrs⟩,.inl ⟨(by lia),(by lia),?_⟩];have bk1:=bk.to (.of s1);erw[_,rfl,b,p,S,past,later,rfl,bk1,gd.few,λdd H2 s2 hdd pl=>?_];erw[sz0,λG hG=>?_];have s3:=zB hG (.lst []);have bk3:=bk1.to (.of (s2.trans s3));obtain⟨dx3,d3,l3,ps3,ls3,kk3⟩:=id bk3;erw[_,rfl,b,dx3,_,rfl,kk3.ob,no (.inr rfl),b,p,S,past,later,rfl,bk3,gd.few,gd.rise,λc as H4 s4 hc e4 na=>?_];have ncG:c≠G:=λz=>by rw[z,zA] at hc; cases hc
 have eG4:=s4 _ _ (zA (H:=H2) (a:=G) (o:=.lst []));have s14:Same H1 H4:=s2.trans (s3.trans s4);have fn:=gd.few.no;have nG:H G=none:=s1.free (s2.free hG);refine⟨c,U,.inl ⟨⟨_,SqL.of e4⟩,xK (K:=K) (a:=c) (xs:=as.map V.ref) (λi N M=>A3 (∀ x o,x≠G->H4 x=O o->M x=O o) (∃ Y:List c7,A3 (M G=O (.lst (Y.map V.ref))) (∀ g∈Y,g≠G) (xD H M Y ((S.notes.take i).map λe=>yh S j0 e.2))) (E3 λ(u1 u2 u3:Option V)=>N=[O (.ref b),O (.int j0),O (.ref dd),O (.ref G),u1,u2,u3]))
  ⟨λ_ _ _ e=>e,⟨[],eG4,λ_ h=>(nomatch h),xD.nil⟩,JN,JN,JN,rfl⟩ (λi N M _ hq=>SqL.of (hq.1 _ _ ncG e4)) ?_ ?_⟩⟩
 ·rintro i x N H5 hi ⟨sH,⟨Y,eG,X,ga⟩,u1,u2,u3,rfl⟩;rw[d9,o6] at hi;obtain⟨a,ha,rfl⟩:=hi;have hil:i<S.notes.length:=by rw[<- na.len]; exact(d8.mp ha).1
  have hn:S.notes[i]?=O S.notes[i]:=c8 hil;obtain⟨v,ea,rv⟩:=na.at_ i a _ ha hn;have kn:=gd.note _ (Ag hil);generalize S.notes[i]=R at hn ea rv kn;have sE:vW (λx=>x=G) H4 H5:=λx o hx e=>.inl (sH x o hx e);have npG:∀ a xs,H4 a=O (.tup xs)->¬ a=G:=vN eG4;have ea5:=sE.tup (npG _ _ ea) ea;have rv5:=rv.sam sE npG;obtain⟨t,xs,rfl,et,mo,m0,m1⟩:=oj kn rv5;exists _,U,a,_,1,.ref t,U,U,.inr (SqT.of ea5),rfl;have s05:Same H H5:=λx o e=>sH x o (zG e nG) (s14 _ _ (s1 _ _ e));have s25:Same H2 H5:=λx o e=>sH x o (zG e hG) ((s3.trans s4) _ _ e);erw[_,rfl,_,rfl,t,xs,1,_,rfl,rfl,.inr (SqT.of et),mo,_,rfl,.inl ⟨b,p,S,past,later,(wI R.2).toNat,j0,?_,bk.to (.of s05),gd.few,(by lia),hj,λw H6 s6 hw ew=>?_⟩]
  ·rwa[congrArg (λz=>[V.ref b,V.int z,V.int j0]) (Dz m0).symm]
  refine⟨_,U,.inl ⟨U,_,SqL.of (s6 _ _ eG)⟩,_,U,_,U,dd,.ref t,S,R.2,U,rv5.to (.of s6),pl.to (.of (s25.trans s6)),kn,gd.mk_,λL sd H7 s7 eL ts=>?_⟩;have three:=qj gd.mk_ kn;have two:=sg (S:=S) (D:=R.2);refine⟨L,U,.inl ⟨⟨_,SqL.of eL⟩,λcc B hB=>?_⟩⟩;have ew7:=s7 _ _ ew;refine yI (K:=K) (a:=L) (xs:=sd.map V.ref) (λi N zs M=>A4 (Same H7 M) (M B=O (.lst zs)) (∃ bs:List c7,zs=bs.map V.ref/\xG M bs (((vP S R.2).take i).map (YD (uF S.runs (wI R.2).toNat j0).1 (uF S.runs (wI R.2).toNat j0).2))) (∃ u:Option V,N=[u,O (.ref w)]))
   ⟨zB hB _,zA,⟨[],rfl,.nil⟩,JN,rfl⟩ (λi N zs M _ hq=>⟨SqL.of (hq.1 _ _ eL),hq.2⟩) ?_ ?_
  ·rintro i x N zs M hi ⟨sH',eB,⟨bs,rfl,tb⟩,u,rfl⟩;rw[d9,o6] at hi;obtain⟨y,hy,rfl⟩:=hi;have hil':i<(vP S R.2).length:=by rw[<- ts.len]; exact(d8.mp hy).1
   have hr':(vP S R.2)[i]?=O (vP S R.2)[i]:=c8 hil';obtain⟨A,B',C,e3,bA,bB⟩:=three _ (Ag hil');have ey:=ts.at_ i y _ hy hr';rw[e3] at ey hr';have ewq:Sq K M w _:=.inr (SqT.of (sH' _ _ ew7));erw[_,rfl,_,rfl,w,_,0,_,rfl,rfl,ewq,rfl,_,rfl,w,_,1,_,rfl,rfl,ewq,rfl,y,A,B',C,_,_,rfl,.inr (SqT.of (sH' _ _ ey)),(by lia),(by lia),λz H8 s8 hz ez=>?_];have eB8:=s8 _ _ eB;erw[eB8,zL (by rw[b7,tb.len,b7,i7]; lia),(sH'.trans s8).putNew hB,zA,⟨bs++[z],by rw[e7]; rfl,?_⟩,_,rfl];rw[x6,hr',e7];exact((tb.to (.of s8)).app (.one ez)).samE (wO eB8) (vN eB8)
  ·rintro N zs H8 ⟨s8,eB,⟨bs,rfl,tb⟩,u,rfl⟩;rw[b7,ts.len,j9] at tb;have s58:Same H5 H8:=s6.trans (s7.trans s8);have eG8:=s58 _ _ eG;have nB5:H5 B=none:=s6.free (s7.free hB);have nBG:B≠G:=λz=>by rw[z,eG] at nB5; cases nB5
   exists G,_,.ref B,U,U,eG8,zL (by rw[b7,ga.len,b7,i7]; lia);have sG:=wO (o:=.lst (Y.map V.ref++[.ref B])) eG8;erw[λx o n e=>by rw[zD n]; exact s58 _ _ (sH x o n e),⟨Y++[B],by rw[zA,e7]; rfl,λg hg=>?_,?_⟩,_,_,_,rfl]
   ·rcases l7.mp hg with z | z
    ·rwa[X g z]
    ·rw[f6.mp z]; rwa[nBG]
   ·rw[x6,hn,e7];have ga8:xD H H8 Y _:=ga.samE (vW.of (φ:=λ_=>False) s58) (λ_ _ _=>id) (λ_ _=>id);exact(ga8.samE sG (vN eG8) X).snoc (s05.free nB5) (by rw[zD nBG]; rwa[eB]) (tb.samE sG (vN eG8))
 ·rintro N H5 ⟨sH,⟨Y,eG,X,ga⟩,u1,u2,u3,rfl⟩;rw[b7,na.len,j9] at ga;rwa[_,rfl,q G Y H5 (λx o e=>sH x o (zG e nG) (s14 _ _ (s1 _ _ e))) nG X eG ga]
def rS(_:c5):Sp:=λd H Q _=>E5 λ(b p:c7) (S:BS) (past later:List (Deed×BS))=>A4 (d=[.ref b]) (oR bkC H b p S past later) (gq S) (∀(l:c7)(c:Hp),Same H c->H l=JN->c l=O (.lst ((S.notes.map (·.1)).map V.int))->Q (.ref l) c)
def qx(F:Fun K "note_numbers" "note_numbers" wT f fd)(Z:Zs mg)(Y:Cb P w mg base)(e:eA P w K mg base pL 1 ["self"] (uc K)):yQ P w K mg base CX0 2 f fd ["book"] (rS K):=by
 specialize sk
 ·obtain⟨b,p,S,past,later,rfl,_⟩:=h;rfl
 obtain⟨b,p,S,past,later,rfl,bk,gd,q⟩:=h;obtain⟨R,d,l,ps,ls,M⟩:=id bk;have no:(bkF d p l).lookup ("notes" : j3)=none:=mI (by ac_nf) (by ac_nf) (by ac_nf)
 refine'⟨_,(zF (zO (yO (T:=["pair"]) (caps:=[]) ⟨rfl,by ac_nf,by ac_nf,rfl,t5⟩ rfl (yT (tT Y.m_notes e (hr.mono (by decide)) (pv 0))) (λ_=>(xO 0 (show(["pair"]:List j3).Nodup by ac_nf))) (λ_=>yH) (λ_=>?_)))),?_⟩
 nofun
 refine⟨_,U,b,R,_,U,M.ob,no,b,p,S,past,later,U,bk,gd.few,gd.rise,λc as X B hc J o=>?_⟩;have fn:=gd.few.no;refine⟨c,U,.inl ⟨⟨_,SqL.of J⟩,λcc D y=>?_⟩⟩;refine yI (K:=K) (a:=c) (xs:=as.map V.ref) (λi j g z=>A4 (Same X z) (z D=O (.lst g)) (g=((S.notes.take i).map (·.1)).map V.int) (∃ u:Option V,j=[u]))
  ⟨zB y _,zA,rfl,JN,rfl⟩ (λi j g z _ C=>⟨SqL.of (C.1 _ _ J),C.2⟩) ?_ ?_
 ·rintro i x j g L hi ⟨m,n,rfl,u,rfl⟩;rw[d9,o6] at hi;obtain⟨a,I,rfl⟩:=hi;have r:i<S.notes.length:=by rw[<- o.len]; exact(d8.mp I).1
  have G:S.notes[i]?=O S.notes[i]:=c8 r;obtain⟨v,N,_⟩:=o.at_ i a _ I G;erw[_,rfl,a,_,0,_,rfl,rfl,.inr (SqT.of (m _ _ N)),rfl,n,zL (by rw[b7,b7,i7]; lia),m.putNew y,zA,?_,_,rfl];rw[x6,G,e7,e7];rfl
 ·rintro j g L ⟨m,n,rfl,u,rfl⟩;rw[b7,o.len,j9] at n;rwa[q D L (B.trans m) (B.free y) n]
def cg(C:List (List P3)):List Grp:=C.map λr=>(0,r.map λt=>(0,t))
def co(c:List Grp):List (List P3):=c.map λg=>g.2.map (·.2)
def Wx{e:List Grp}{t:P3} : (∃ u∈zX e,u.2=t)↔∃ r∈co e,t∈r:=by
 unfold zX co;constructor
 ·rintro⟨u,c,rfl⟩;obtain⟨g,d,c⟩:=Eh.mp c;rwa[_,g7.mpr ⟨g,d,rfl⟩,g7.mpr ⟨u,c,rfl⟩]
 ·rintro⟨r,i,h⟩;obtain⟨g,d,rfl⟩:=g7.mp i;obtain⟨u,c,rfl⟩:=g7.mp h;rwa[u,Eh.mpr ⟨g,d,c⟩,rfl]
def sF{m l:List Grp}(e:co m=co l){P:P3}(h:zx (zX m) P):zx (zX l) P:=by
 have go:∀ t∈zX m,∃ u∈zX l,u.2=t.2:=λt d=>by
  have:=Wx.mp ⟨t,d,rfl⟩;rw[e] at this;rwa[Wx.mpr this]
 rcases h with h | ⟨t,d,h⟩ | ⟨t,d,u,p,h1,h2⟩
 ·rwa[.inl h]
 ·obtain⟨i,c,g⟩:=go t d;rwa[.inr (.inl ⟨i,c,by rw[g]; exact h⟩)]
 ·obtain⟨i,c,g⟩:=go t d;obtain⟨o,j,n⟩:=go u p;rwa[.inr (.inr ⟨i,c,o,j,by rw[g,n]; exact h1,by rw[g,n]; exact h2⟩)]
def Vh{d c:List Sd}(e:d.map (·.2)=c.map (·.2))(P:P3):jm d P=jm c P:=by
 have h:∀ l:List Sd,jm l P=(l.map (·.2)).all λt=>decide (sv t P<=0):=λl=>by
  unfold jm;rw[EK];rfl
 rw[h,h,e]
def ke{c g:List Grp}(e:co c=co g)(P:P3):db (c.map (·.2)) P=db (g.map (·.2)) P:=by
 have l:c.length=g.length:=by have:=congrArg Aq e; simpa [co] using this
 unfold db dbN;rw[b7,b7,l]
 congr 1
 refine DU λi hi=>?_;have hi:=BR.mp hi;have m:∀ d:List Grp,(h:i<d.length)->(d.map (·.2)).getD i []=d[i].2:=λd h=>by
  rw[Bg,d9,c8 h];rfl
 rw[m c (by lia),m g hi];have j:=congrArg (λz:List (List P3)=>z[i]?) e;simp only[co,d9,c8 (show i<c.length by lia),c8 hi,AS,DT] at j;rw[Vh j]
def yf(C:List (List P3)):co (cg C)=C:=by
 unfold co cg;rw[Ab];have:((λg:Grp=>g.2.map (·.2)) ∘ λr:List P3=>((0:c7),r.map λt=>((0:c7),t)))=id:=by
  funext r
  simp[Function.comp_def]
 rw[this,List.map_id]
def Te{c:List (List Sd)}{P:P3}{x:Int}(h:x∈db c P):∃ i:Nat,x=i/\i<c.length:=by
 unfold db dbN at h;obtain⟨i,hi,rfl⟩:=g7.mp h;rwa[i,rfl,BR.mp (BX.mp hi).1]
def Wz(C:List (List P3))(k:List Int):Prop:=(∃ P,zx (zX (cg C)) P/\k=db ((cg C).map (·.2)) P)/\∀ P,zx (zX (cg C)) P->k.length<=(db ((cg C).map (·.2)) P).length
structure iq(C:List (List P3))(ks:List (List Int)):Prop where
 mk ::
 rows:∀ k,k∈ks↔Wz C k
 nd:ks.Nodup
 pw:ks.Pairwise (λa b=>HT.lexLt b a=JP)
 len:ks.length<=9000
def uy(ns:List Int)(k:Int):Int:=ns.getD k.toNat 0
def rD(S:BS):List (List P3):=S.notes.map λe=>(yh S 0 e.2).map p3
def rP(_:c5):Sp:=λd H Q _=>E5 λ(b p:c7) (S:BS) (past later:List (Deed×BS))=>A5 (d=[.ref b]) (oR bkC H b p S past later) (gq S) (S.notes.length<=24) (∀(D:c7)(fs:List (c7×List Int))(c:Hp),Same H c->H D=JN->c D=O (.lst ((fs.map (·.1)).map V.ref))->(∀ t∈fs,c t.1=O (.lst ((t.2.map (uy (S.notes.map (·.1)))).map V.int))/\H t.1=JN/\t.1≠D)->iq (rD S) (fs.map (·.2))->Q (.ref D) c)
def tw(F:Fun K "book_choices" "book_choices" wV f fd)(Z:Zs mg)(CB:Cb P w mg base)(yBn:Has P w K mg base "choices" 8 ["groups"] (qg K))(yAo:YB P w K mg base "note_groups" 6 ["book","moment"] (qV K))(yAf:Has P w K mg base "note_numbers" 2 ["book"] (rS K)):yQ P w K mg base CX0 9 f fd ["book"] (rP K):=by
 specialize rF
 ·obtain⟨b,p,S,past,later,rfl,_⟩:=h;rfl
 obtain⟨b,p,S,past,later,rfl,bk,gd,l24,q⟩:=h
 refine'⟨_,(zC (zU 1 rF.nd ?_)
   (zF (zO (yO (T:=["choice"]) (caps:=[("numbers",1)]) ⟨rfl,by ac_nf,by ac_nf,rfl,⟨⟨rfl,rfl,BM rfl⟩,t5⟩⟩ rfl (yT (wD yBn (hr.mono (by decide)) rfl (zI (qP (λ_=>E0) yAo gD (hr.mono (by decide)) rfl (zI (pv 0) (zI wP zM))) zM))) (λ_=>(xO 0 (show(["choice","numbers"]:List j3).Nodup by ac_nf))) (λ_=>yH) (λ_=>(yO (T:=["at"]) (caps:=[("numbers",1)]) ⟨rfl,by ac_nf,by ac_nf,rfl,⟨⟨rfl,rfl,BM rfl⟩,t5⟩⟩ rfl (yT (pv 0)) (λ_=>(xO 0 (show(["at","numbers"]:List j3).Nodup by ac_nf))) (λ_=>yH) (λ_=>?_))))))),?_⟩
 nofun
 refine⟨_,U,b,p,S,past,later,U,bk,gd,λnl H1 s1 hnl enl=>?_⟩;refine⟨_,U,.inl ⟨b,p,S,past,later,0,U,bk.to (.of s1),gd,m7 _,λg gs H2 s2 hg ngg eg ga=>?_⟩⟩;obtain⟨Y,e1,grl,c⟩:=nK ga (λr hr x N=>by
  obtain⟨e,he,rfl⟩:=g7.mp hr;rwa[qu gd (gd.note e he) x N])
 rw[Ab] at c;have c:co Y=rD S:=c;have lG:Y.length=S.notes.length:=by have:=congrArg Aq c; simpa [co,rD] using this
 have two:∀ g∈Y,g.2.length<=2:=λg hg=>by
  have m:g.2.map (·.2)∈rD S:=by rw[<- c]; rwa[g7.mpr ⟨g,hg,rfl⟩]
  obtain⟨e,_,q⟩:=g7.mp m;have:=congrArg Aq q;rw[b7,b7] at this;rw[<- this];rwa[lA]
 have egr:gs.map V.ref=rK Y:=by rw[<- e1,Ab]; rfl
 rw[egr] at eg;refine⟨g,Y,U,SqL.of eg,grl,by lia,two,λD fs H3 s3 hD eD of o le nd pw lf=>?_⟩;have cs:iq (rD S) (fs.map (·.2)):=by
  erw[λk=>⟨λhk=>?_,λhk=>?_⟩,nd,pw,by rw[b7]; rwa[lf]]
  ·obtain⟨P,hP,G⟩:=o k hk;refine⟨⟨P,sF (c.trans (yf _).symm) hP,by rw[G,ke (c.trans (yf _).symm)]⟩,λP' X=>?_⟩;have:=le.least k hk P' (sF ((yf _).trans c.symm) X);(rw[ke (c.trans (yf _).symm)] at this;assumption)
  ·obtain⟨⟨P,hP,G⟩,h1⟩:=hk;have z:=le.all P (sF ((yf _).trans c.symm) hP) (λk' v=>by
    obtain⟨P',X,e'⟩:=o k' v;rw[ke (c.trans (yf _).symm),<- G,e',ke (c.trans (yf _).symm)];rwa[h1 P' (sF (c.trans (yf _).symm) X)])
   (rw[ke (c.trans (yf _).symm),<- G] at z;assumption)
 have inN:∀ t∈fs,∀ x∈t.2,∃ i:Nat,x=i/\i<S.notes.length:=λt R x N=>by
  obtain⟨P,_,G⟩:=o t.2 (g7.mpr ⟨t,R,rfl⟩);rw[G] at N;obtain⟨i,e,hi⟩:=Te N;rw[b7] at hi;rwa[i,e,by lia]
 have M:∀ t∈fs,t.2.length<=24:=λt R=>by
  obtain⟨P,_,G⟩:=o t.2 (g7.mpr ⟨t,R,rfl⟩);rw[G];have z:=kA (Y.map (·.2)) P (Y.map (·.2)).length;rwa[f9 z (by rw[b7]; lia)]
 have enl3:=s3 _ _ (s2 _ _ enl);refine⟨D,U,.inl ⟨⟨_,SqL.of eD⟩,λcc B hB=>?_⟩⟩;refine yI (K:=K) (a:=D) (xs:=(fs.map (·.1)).map V.ref) (λi n d I=>A4 (Same H3 I) (I B=O (.lst d)) (∃ C:List (c7×List Int),A3 (d=(C.map (·.1)).map V.ref) (C.map (·.2)=(fs.take i).map (·.2)) (∀ t∈C,I t.1=O (.lst ((t.2.map (uy (S.notes.map (·.1)))).map V.int))/\H3 t.1=JN/\t.1≠B)) (∃ u:Option V,n=[u,O (.ref nl)]))
  ⟨zB hB _,zA,⟨[],rfl,rfl,λt R=>(nomatch R)⟩,JN,rfl⟩ (λi n d I _ hq=>⟨SqL.of (hq.1 _ _ eD),hq.2⟩) ?_ ?_
 ·rintro i x n d H4 hi ⟨s4,eB,⟨C,rfl,l,L⟩,u,rfl⟩;rw[d9,d9] at hi;cases gx:fs[i]? with
  | none=>rw[gx] at hi; cases hi
  | some t =>
   rw[gx] at hi;cases hi;have mt:=f7 gx;have et:=s4 _ _ (of t mt).1;have il:i<fs.length:=(d8.mp gx).1;have lrs:C.length=i:=by have:=congrArg Aq l; rw[b7,b7,i7] at this; lia
   refine⟨_,U,t.1,U,.inl ⟨⟨_,SqL.of et⟩,λc2 E hE=>?_⟩⟩;refine yI (K:=K) (a:=t.1) (xs:=t.2.map V.int) (λj n d I=>A4 (Same H4 I) (I E=O (.lst d)) (d=((t.2.take j).map (uy (S.notes.map (·.1)))).map V.int) (∃ u:Option V,n=[u,O (.ref nl)]))
    ⟨zB hE _,zA,rfl,JN,rfl⟩ (λj n d I _ hq=>⟨SqL.of (hq.1 _ _ et),hq.2⟩) ?_ ?_
   ·rintro j y n d H5 hj ⟨s5,eE,rfl,u,rfl⟩;rw[d9,o6] at hj;obtain⟨x,N,rfl⟩:=hj;obtain⟨k,rfl,hk⟩:=inN t mt x (f7 N);have v:k<(S.notes.map (·.1)).length:=by rw[b7]; rwa[hk]
    have enl5:=s5 _ _ (s4 _ _ enl3);have atk:atI ((S.notes.map (·.1)).map V.int) (k:Int)=O (.int (uy (S.notes.map (·.1)) k)):=qB (by
     rw[d9,c8 v];unfold uy;rw[Bq,Bg,c8 v];rfl)
    have l24':=M t mt;erw[_,rfl,_,rfl,nl,_,_,_,rfl,rfl,.inl (SqL.of enl5),atk,eE,zL (by rw[b7,b7,i7]; lia),s5.putNew hE,zA,?_,_,rfl];rw[x6,N,e7,e7];rfl
   ·rintro n d H5 ⟨s5,eE,rfl,u,rfl⟩;rw[b7,j9] at eE;have eB5:=s5 _ _ eB;have nEB:E≠B:=λz=>by rw[z,eB] at hE; cases hE
    refine⟨eB5,AM (show _<=9000 by rw[b7,b7]; lia) (by decide),(s4.trans s5).putNew hB,zA,⟨C++[(E,t.2)],by rw[e7,e7]; rfl,by rw[e7,l,x6,gx,e7]; rfl,λt' ht'=>?_⟩,_,rfl⟩;rcases l7.mp ht' with z | z
    ·obtain⟨z1,z2,z3⟩:=L t' z;rwa[by rw[zD z3]; exact s5 _ _ z1,z2,z3]
    ·rw[f6.mp z];rwa[by rw[zD nEB]; exact eE,s4.free hE,nEB]
 ·rintro n d H4 ⟨s4,eB,⟨C,rfl,l,L⟩,u,rfl⟩;rw[show((fs.map (·.1)).map V.ref).length=fs.length by rw[b7,b7],j9] at l;have J:=(s1.trans s2).trans s3;erw[q B C H4 (J.trans s4) (J.free hB) eB (λt R=>?_) (by rw[l]; rwa[cs])];obtain⟨z1,z2,z3⟩:=L t R;rwa[z1,J.free z2,z3]
def ml(_:c5):Sp:=λc H Q _=>E5 λ(b p:c7) (S:BS) (past later:List (Deed×BS))=>A3 (c=[.ref b]) (oR bkC H b p S past later) (Q (.int S.coming) H)
def ff(F:Fun K "coming" "Book.coming" yc f fd)(Z:Zs mg)(e:Cb P w mg base)  : yQ P w K mg base CX0 1 f fd ["self"] (ml K):=by
 specialize fj
 ·obtain⟨b,p,S,past,later,rfl,_⟩:=h;rfl
 obtain⟨b,p,S,past,later,rfl,⟨c,d,l,g,i,k⟩,q⟩:=h;obtain⟨m,bk,r,n,st⟩:=k.st;exists _,(zF (zO (zN (zZ hr) (wg e.state (pv 0)) zS (λ_ _=>rfl))))
 try dsimp only[L2.cxOf]
 rwa[_,rfl,b,c,_,_,rfl,k.ob,xv,d,.int S.coming,rfl,.inl ⟨_,.inr "coming",st.at_,rfl,oM.symm⟩,q]
def nj(_:c5):Sp:=λd H Q _=>E7 λ(b p:c7) (v:V) (S:BS) (D:Deed) (past later:List (Deed×BS))=>A9 (d=[.ref b,v]) (oR bkC H b p S past later) (WJ D) (Rep H D.dt v) (okD S D) (Few S) (gW S) (past.length<=500) (∀(c:Hp),vW (Bp b p) H c->oR bkC c b p (aft S D) (past++[(D,S)]) []->Q (if S.coming=(aft S D).coming then .non else .int S.coming) c)
def ZA(F:Fun K "deed" "Book.deed" pP f fd)(Z:Zs mg)(B:Cb P w mg base)(c:eA P w K mg base mh 1 ["self"] (ml K))(R:Has P w K mg base "after" 4 ["state","row"] (lh K)):yQ P w K mg base CX0 5 f fd ["self","row"] (nj K):=by
 specialize nR
 ·obtain⟨b,p,v,S,D,past,later,rfl,_⟩:=h;rfl
 obtain⟨b,p,v,S,D,past,later,rfl,bk,kd,hv,ok,few,fr,hl,q⟩:=h;obtain⟨i,d,l,G,ls,k⟩:=bk;have no:∀{d l:c7}{m:j3},m = "coming" ->(bkF d p l).lookup m=none:=λ{d l m} e=>by subst e; rwa[mI (by ac_nf) (by ac_nf) (by ac_nf)]
 refine'⟨_,(zC (zU 2 nR.nd (tT B.m_coming c (hr.mono (by decide)) (pv 0)))
   (zC (zU 3 nR.nd (wD R (hr.mono (by decide)) rfl (zI (wg B.state (pv 0)) (zI (pv 1) zM))))
   (zC (zW (zu (wg B.past (pv 0)) (zI (jY (zI (pv 1) (zI (wg B.state (pv 0)) zM))) zM)))
   (zC (mn B.state (pv 0) (pv 3))
   (zC (mn B.later (pv 0) ?_)
   (zF (zO (fL (xQ WM (tT B.m_coming c (hr.mono (by decide)) (pv 0)) (pv 2) (wu _)) eZ (pv 2))))))))),?_⟩
 nofun
 exists _,U,b,i,_,U,k.ob,no rfl,b,p,S,past,later,U,⟨i,d,l,G,ls,k⟩;erw[_,rfl,b,i,_,_,rfl,k.ob,xv,_,rfl,d,v,S,D,rfl,kd,k.st,hv,ok,few,fr,λd' L Y hd' X=>?_];have N:=k.to Y;have hv1:=hv.to Y;erw[_,rfl,b,i,_,_,rfl,N.ob,Uw,.inl ⟨rfl,_,SqL.of N.pa⟩,_,rfl,_,rfl,b,i,_,_,rfl,N.ob,xv,sz2,λt ht=>?_];have M:=zB ht (.tup [v,.ref d]);have j:=N.to (.of M);exists p,G,.ref t,U,U,j.pa,zL (by rw[j.pp.len]; lia);have n:b≠p:=sr j.ob j.pa (λz=>nomatch z);have e3:upd (upd L t (.tup [v,.ref d])) p (.lst (G++[.ref t])) b=O (.ins bkC i (bkF d p l)):=by rw[zD n]; rwa[j.ob]
 exists _,U,_,U,b,i,_,U,e3,(by show 3<1000; decide);rw[iI];refine⟨sz0,λg J=>?_⟩;have y:b≠g:=zG zA J;have u:p≠g:=λz=>by
  rw[<- z,zD n.symm,zA] at J;cases J
 exists _,U,b,i,_,U,(by rw[zD y,zA]),(by show 3<1000; decide);rw[ij];have hgt:(upd L t (.tup [v,.ref d])) g=none:=by rw[zD y.symm,zD u.symm] at J; rwa[J]
 have C:vW (Bp b p) (upd L t (.tup [v,.ref d])) (upd (upd (upd (upd (upd L t (.tup [v,.ref d])) p (.lst (G++[.ref t]))) b (.ins bkC i (bkF d' p l))) g (.lst [])) b (.ins bkC i (bkF d' p g))):=λx o hx e=>by
  have n1:x≠b:=λz=>hx (.inl z);have n2:x≠p:=λz=>hx (.inr z);rw[zD n1,zD (zG e hgt),zD n1,zD n2];rwa[.inl e]
 have nd:=Xs j.ob j.pa;have I:=YK j.ob j.pa;have T:=X.to (.of M);have BK:oR bkC (upd (upd (upd (upd (upd L t (.tup [v,.ref d])) p (.lst (G++[.ref t]))) b (.ins bkC i (bkF d' p l))) g (.lst [])) b (.ins bkC i (bkF d' p g))) b p (aft S D) (past++[(D,S)]) []:=by
  erw[i,d',g,G++[.ref t],[],zA,T.samE C nd I,?_,?_,?_,rfl,u.symm]
  ·rw[zD n.symm,zD u,zD n.symm,zA]
  ·rw[zD y.symm,zA]
  ·rwa[tV.app (C.tup (I _ _ zA) zA) ((hv1.to (.of M)).sam C I) (j.st.samE C nd I) (j.pp.samE C nd I)]
 have r:=q _ (((Y.trans (.of M)).wider (λ_ z=>z.elim)).trans C) BK;exists _,U,b,i,_,U,zA,no rfl,b,p,aft S D,_,[],U,BK,_,U,U,_,rfl;erw[ifE (λe=>?_) (λe=>?_)]
 ·rw[y6 e.symm] at r;rwa[r]
 ·rw[y4 (λz=>e z.symm)] at r;rwa[_,rfl,r]
def oP(_:c5):Sp:=λe H Q _=>E4 λ(a b p:c7) (rows:List Int)=>A7 (e=[.ref a,.ref b]) (H a=O (.lst (rows.map V.int))) (90<=rows.length) (∀ x∈rows,0<=x/\x<1000003) (oR bkC H b p BS.nil [] []) (a≠p) (∀(d:c7)(S:BS)(past:List (Deed×BS))(c:Hp),vW (Bp b p) H c->oR bkC c b p S past []->LwP c d p S->gq S->S.runs.length<=3->past.length<=14->(∃ i,i<=6/\yd S.notes S.coming i)->Q (.ref d) c)
def gc(F:Fun K "_law_raised" "_law_raised" xu f fd)(Z:Zs mg)(CB:Cb P w mg base)(yAv:Has P w K mg base "_law_some_deeds" 4 ["_law_some","_law_names_here"] (zt K))(yCe:Has P w K mg base "_law_names" 1 ["_law_some","_law_many"] (lg K))(yCb:Has P w K mg base "_law_after" 1 ["_law_m","_law_deed"] (rz K))(g:eA P w K mg base ka 5 ["self","row"] (nj K))(yCm:Has P w K mg base "_law_new" 1 [] (jq K)):yQ P w K mg base CX0 6 f fd ["_law_some","_law_book"] (oP K):=by
 specialize qJ
 ·obtain⟨a,b,p,rows,rfl,_⟩:=h;rfl
 obtain⟨a,b,p,rows,rfl,ha,l90,bd,bk,nap,q⟩:=h;have no:∀{d l:c7}{m:j3},m = "deed" ->(bkF d p l).lookup m=none:=λ{d l m} e=>by subst e; rwa[mI (by ac_nf) (by ac_nf) (by ac_nf)]
 obtain⟨dx0,d0,l0,ps0,ls0,k0⟩:=id bk
 refine'⟨_,(zC (zU 2 qJ.nd (oU yCm (hr.mono (by decide)) rfl))
   (zC (xX t9 rfl (yT ?_) (xO 3 qJ.nd) (zC (zW (kG CB.m_deed g (hr.mono (by decide)) (pv 1) (zI (pv 3) zM)))
   (zF (zU 2 qJ.nd ?_))))
   (zF (zO (pv 2))))),?_⟩
 nofun
 erw[rfl,λd m b' r n H1 s1 hd hm Y ed em eb er en _ _=>?_];have lw1:LwA H1 d m b' r n BS.nil:=⟨.inl ed,.nil em,.nil eb,⟨[],er,yC.mpr rfl⟩,.nil en⟩;have nrp:r≠p:=λz=>by rw[z,k0.pa] at Y; cases Y
 erw[_,rfl,_,rfl,a,rows,5,rfl,SqL.of (s1 _ _ ha),(by lia),(by decide),bd,λR ns H2 s2 hR eR ln okn nd=>?_];erw[a,R,rows,ns,rfl,s2 _ _ (s1 _ _ ha),l90,bd,eR,ln,okn,nd,λL xs x H3 s3 hL eL rp l14 ch l3 four sm _=>?_];have G:=s2.trans s3;have I:=s1.trans G;have o:H L=none:=s1.free (s2.free hL);have nLp:L≠p:=λz=>by rw[z,k0.pa] at o; cases o
 have nLb:L≠b:=λz=>by rw[z,k0.ob] at o; cases o
 have nLB:¬ Bp b p L:=λz=>z.elim nLb nLp;have T:xs.length=x.length:=by rw[rp.length,b7]
 have bk3:=bk.to (.of I);obtain⟨dx3,d3,l3',ps3,ls3,k3⟩:=id bk3;have nd3:=Xs k3.ob k3.pa;have np3:=YK k3.ob k3.pa;refine⟨L,U,.inl ⟨⟨_,SqL.of eL⟩,xK (K:=K) (a:=L) (xs:=xs) (λi σ H'=>vW (Bp b p) H3 H'/\E2 λ(d':c7) (past:List (Deed×BS))=>A4 (oR bkC H' b p (vQ BS.nil (x.take i)) past []) (past.length<=i) (E4 λm b' r n=>r≠p/\LwA H' d' m b' r n (vQ BS.nil (x.take i))) (∃ u:Option V,σ=[O (.ref a),O (.ref b),O (.ref d'),u]))
  ⟨vW.refl _,d,[],bk3,e8 _,⟨m,b',r,n,nrp,lw1.to (.of G)⟩,JN,rfl⟩ (λi σ H' _ hq=>SqL.of (hq.1.lst nLB eL)) ?_ ?_⟩⟩
 ·rintro i v σ H4 hi ⟨s4,d',past,j,lp,⟨m4,b4,J,n4,B,c⟩,u,rfl⟩;have hil:i<x.length:=by rw[<- T]; exact(d8.mp hi).1
  have hD:x[i]?=O x[i]:=c8 hil;have f4:=four _ (Ag hil);generalize x[i]=D at hD f4;obtain⟨dt,g1,g2⟩:=rp.back hi;rw[d9,hD] at g1;cases g1;have y:=mL ch hD;have gd:=re (S:=BS.nil) (l:=x.take i) dD (qc ch);rw[fG hD];generalize vQ BS.nil (x.take i)=S at j c y gd;have it:WJ D:=by cases D <;> first | exact trivial | exact f4.elim
  have rv:=g2.sam s4 np3;obtain⟨dx4,d4,l4,ps4,ls4,C⟩:=id j;refine⟨_,U,b,dx4,_,U,C.ob,no rfl,_,U,b,p,v,S,D,past,[],U,j,it,rv,y,gd.few,gd.fresh,(by lia),λH5 s5 bk5=>?_⟩;have nd4:=Xs C.ob C.pa;have N:=YK C.ob C.pa;have M:¬ Bp b p J:=λz=>z.elim (λz=>by
   obtain⟨rs,e,_⟩:=c.ru;rw[z,C.ob] at e;cases e) B
  have lw5:LwA H5 d' m4 b4 J n4 S:=c.samE s5 nd4 N (λ_ _=>M);erw[_,rfl,_,rfl,d',v,S,D,rfl,rv.sam s5 N,⟨m4,b4,J,n4,lw5⟩,y,gd.few,gd.fresh,λd'' H6 s6 hd'' lwn=>?_];obtain⟨m6,b6,r6,n6,X,lw6⟩:=lwn;obtain⟨dx5,d5,l5,ps5,ls5,k5⟩:=id bk5;have nr6:r6≠p:=λz=>by rw[z,k5.pa] at X; cases X
  rwa[(s4.trans s5).trans (.of s6),d'',_,bk5.to (.of s6),(by rw[f8]; simp only[i9,AE]; lia),⟨m6,b6,r6,n6,nr6,lw6⟩,_,rfl]
 ·rintro σ H4 ⟨s4,d',past,j,lp,⟨m4,b4,J,n4,B,c⟩,u,rfl⟩;rw[T,j9] at j c;rwa[_,rfl,q d' _ past H4 ((vW.of I).trans s4) j ⟨m4,b4,J,n4,B,c⟩ (re dD ch) l3 (by lia) sm]
def mB(_:c5):Sp:=λd H Q _=>E6 λ(b p:c7) (k:Int) (S:BS) (past later:List (Deed×BS))=>A7 (d=[.ref b,.int k]) (oR bkC H b p S past later) (okD S (.strike k)) (Few S) (gW S) (past.length<=500) (∀(c:Hp),vW (Bp b p) H c->oR bkC c b p (aft S (.strike k)) (past++[(.strike k,S)]) []->Q .non c)
def gN(F:Fun K "strike" "Book.strike" xt f fd)(Z:Zs mg)(y:Cb P w mg base)(c:eA P w K mg base ka 5 ["self","row"] (nj K)):yQ P w K mg base CX0 6 f fd ["self","number"] (mB K):=by
 specialize fB
 ·obtain⟨b,p,k,S,past,later,rfl,_⟩:=h;rfl
 obtain⟨b,p,k,S,past,later,rfl,bk,ok,few,u,r,q⟩:=h;have no:∀{d l:c7}{m:j3},m = "deed" ->(bkF d p l).lookup m=none:=λ{d l m} e=>by subst e; rwa[mI (by ac_nf) (by ac_nf) (by ac_nf)]
 obtain⟨v,d,l,z,B,n⟩:=id bk
 refine'⟨_,(zF (zW (kG y.m_deed c (hr.mono (by decide)) (pv 0) ?_))),?_⟩
 nofun
 erw[_,rfl,b,v,_,rfl,n.ob,no rfl,_,rfl,sz2,λt o=>?_];have i:=zB o (.tup [.str "strike",.int k]);erw[b,p,.ref t,S,.strike k,past,later,rfl,bk.to (.of i),trivial,mU zA,ok,few,u,r,λx j g=>?_];rwa[q x (vW.trans (vW.of i) j) g]
def sp_law(K:c5):Sp:=λc H Q _=>E2 λ(a:c7) (ns:List Int)=>A4 (c=[.ref a]) (SqL K H a (ns.map V.int)) (ns.length<=63) (∀ d,Q (.bl JO) d)
def cutA{ok:c7->Hp->Prop}{G:Prop}{R:c7->Hp->Prop}(h1:(∀ a H,ok a H->R a H)->G)(h2:∀ a H,ok a H->R a H):G:=h1 h2
def cV{K:c5}{l D:c7}{xs:List V}{g:TG}{m:TE}{j:St}{o:Hp}{Q:VK}(e:Nat->St->List V->Hp->Prop)(h0:e 0 j [] (upd o D (.lst [])))(r:∀ i d c H,e i d c H->SqL K H l xs/\H D=O (.lst c))
  (q:∀ i x T d c H,xs[i]?=O x->H T=JN->e i d c H->g (.ref T) d (upd H T (.tup [.int i,x])) λh v=>m h v λz n=>n D=O (.lst c)/\c.length<sizeLine/\e (i+1) h (c++[z]) (upd n D (.lst (c++[z]))))
  (hd:∀ d c H,e xs.length d c H->Q (.ref D) H):xf (Ite K l) D g XW m j o Q:=iN e h0 r (λi x T d c H u s p=>q i x T d c H u s p) hd
def aK{C:List (List P3)}{c d:List (List Int)}(h:iq C c)(k:iq C d):c=d :=
 aX ((List.perm_ext_iff_of_nodup h.nd k.nd).mpr λx=>(h.rows x).trans (k.rows x).symm) h.pw k.pw
structure Wr(S0 S:BS)(i:Nat):Prop where
 mk ::
 good:gq S
 run:S.runs=S0.runs
 sub:∀ e∈S.notes,e∈S0.notes
 fewer:S.notes.length<=S0.notes.length
 has:∀ j,i<=j->∀ e,S0.notes[j]?=O e->e.1∈S.notes.map (·.1)
def Wr.next{c S:BS}{i:Nat}(h:Wr c S i):Wr c S (i+1):=⟨h.good,h.run,h.sub,h.fewer,λj d=>h.has j (by lia)⟩
def Wr.strike{d S:BS}{i:Nat}{e:Int×Deed}(l:aM d)(h:Wr d S i)(g:d.notes[i]?=O e)(ok:okD S (.strike e.1)):Wr d (aft S (.strike e.1)) (i+1):=by
 erw[dh h.good ok,h.run,λx c=>h.sub x (BX.mp c).1,f9 (BL _ _) h.fewer,λj n x c=>?_];obtain⟨y,m,ey⟩:=g7.mp (h.has j (by lia) x c);erw[g7.mpr ⟨y,BX.mpr ⟨m,y7 λz=>?_⟩,ey⟩];have p:=Cp.mp l i j (by rw[b7]; exact(d8.mp g).1) (by rw[b7]; exact(d8.mp c).1) (by lia);rw[CN,CN,(d8.mp g).2,(d8.mp c).2] at p;lia
def UM(F:Fun K "law" "law" fD f fd)(Z:Zs mg)(CB:Cb P w mg base)(yCg:Has P w K mg base "_law_same" 6 ["_law_told","_law_due"] (iE K))(yAj:Has P w K mg base "book_choices" 9 ["book"] (rP K))(yAk:Has P w K mg base "_law_least_doubts" 4 ["_law_groups"] (rR K))(yBi:Has P w K mg base "_law_m_groups" 4 ["_law_m","_law_moment"] (ug K))(yCb:Has P w K mg base "_law_after" 1 ["_law_m","_law_deed"] (rz K))(h_b_strike:eA P w K mg base mv 6 ["self","number"] (mB K))(yBt:Has P w K mg base "_law_raised" 6 ["_law_some","_law_book"] (oP K))(h_b_init:eA P w K mg base fA 2 ["self"] (jJ K))(yBy:Has P w K mg base "_law_draws" 2 ["_law_script","_law_many"] (lC K)):yQ P w K mg base CX0 10 f fd ["_law_script"] (sp_law K):=by
 specialize qU
 ·obtain⟨a,ns,rfl,_⟩:=h;rfl
 obtain⟨ad,ns,rfl,hS,hl,q⟩:=h
 refine'⟨_,(zC (zU 1 qU.nd ?_)
   (zC (xI ?_ (zF (zU 1 qU.nd (qC aq ?_ (yO (T:=["_law_k","_law_one"]) (caps:=[]) ⟨rfl,by ac_nf,by ac_nf,rfl,t5⟩ rfl (fo rfl Z.enumerate ?_) (λ_=>(uX rfl (zQ (xO 0 (show(["_law_k","_law_one"]:List j3).Nodup by ac_nf)) (zQ (xO 1 (show(["_law_k","_law_one"]:List j3).Nodup by ac_nf)) xU)))) (λ_=>yH) (λ_=>?_))))) yE)
   (zC (zU 2 qU.nd (aU CB.make h_b_init (hr.mono (by decide)) CB.gBook))
   (zC (zU 3 qU.nd ?_)
   (zC (xX t9 rfl (yT (yG yz rfl Z.sorted uI (zI (xF (vO rfl) rfl Z.list rZ (zI (zN (zZ hr) (pv 3) zS (λ_ _=>rfl)) zM)) zM))) (xO 4 qU.nd) (zF (xI ?_ (zC (zW (kG CB.m_strike h_b_strike (hr.mono (by decide)) (pv 2) (zI (pv 4) zM)))
   (zF (zU 3 qU.nd ?_))) yE)))
   (zC (zU 5 qU.nd (yG yz rfl Z.sorted uI (zI (xF (vO rfl) rfl Z.list rZ (zI (zN (zZ hr) (pv 3) zS (λ_ _=>rfl)) zM)) zM)))
   (zC (dQ (T:=["_law_row"]) (caps:=[("_law_numbers",5)]) (i:=6) qU.nd rfl rfl ⟨rfl,by ac_nf,by ac_nf,rfl,⟨⟨rfl,rfl,BM rfl⟩,t5⟩⟩ rfl (yT ?_) (λ_=>(xO 0 (show(["_law_row","_law_numbers"]:List j3).Nodup by ac_nf))) (λ_=>yH) (λ_=>(yO (T:=["_law_at"]) (caps:=[("_law_numbers",1)]) ⟨rfl,by ac_nf,by ac_nf,rfl,⟨⟨rfl,rfl,BM rfl⟩,t5⟩⟩ rfl (yT (pv 0)) (λ_=>(xO 0 (show(["_law_at","_law_numbers"]:List j3).Nodup by ac_nf))) (λ_=>yH) (λ_=>?_))))
   (zC (xX t9 rfl (wQ rfl Z.range (zI wP zM)) (xO 7 qU.nd) (zC (zU 8 qU.nd ?_)
   (zC (xI ?_ (zF (zO gG)) yE)
   (zC (xX t9 rfl (yT (pv 8)) (xO 9 qU.nd) (zF (zW (zu (pv 9) (zI wP zM)))))
   (zF (zW (To DM PySem.F.slot_list_reverse PySem.F.type_list_reverse cr (pv 8))))))))
   (zF (zO gG)))))))))),?_⟩
 nofun
 erw[_,rfl,ad,ns,96,rfl,hS,hl,by decide,by decide,λr0 C H1 s1 hr0 R l1 l2 bd0=>?_];clear s1 hr0;obtain⟨v84,a84,_⟩:=wS bd0 (k:=84) (by decide) (by lia);apply cutA (ok:=λrr H=>∃ rows:List Int,A3 (H rr=O (.lst (rows.map V.int))) (96<=rows.length) (∀ x∈rows,0<=x/\x<1000003))
 ·intro main;exists _,U,r0,_,_,_,U,U,.inl (SqL.of R),a84,_,_,U,U,gt2,U,_,rfl;erw[ifE (λ_=>?_) (λ_=>?_)]
  ·refine⟨_,U,_,U,r0,_,U,SqL.of R,λc1 hc1=>?_⟩;rw[yo,show HT.sIx C.length 0 JN=0 from rfl,Gz,Hf,show HT.sIx C.length C.length (O 27)=27 from by rw[show(27:Int)=((27:Nat):Int) from rfl,HT.sIx_nat]; lia];have sc1:=zB hc1 (.lst ((C.take 27).map V.int));have er2:=sc1 _ _ R;refine⟨_,U,_,U,r0,_,U,SqL.of er2,λc2 hc2=>?_⟩;rw[show qy (C.map V.int) (O 27) JN=(C.drop 27).map V.int from by rw[yo,show(27:Int)=((27:Nat):Int) from rfl,HT.sIx_nat C.length 0 27,show min 27 C.length=27 by lia,show HT.sIx C.length C.length JN=C.length from rfl,Ao (by rw[x5]; lia)]];have sc2:=zB hc2 (.lst ((C.drop 27).map V.int));have ec1:=sc2 _ _ (zA (H:=H1) (a:=c1) (o:=.lst ((C.take 27).map V.int)));have ec2:upd (upd H1 c1 (.lst ((C.take 27).map V.int))) c2 (.lst ((C.drop 27).map V.int)) c2=O (.lst ((C.drop 27).map V.int)):=zA;generalize upd (upd H1 c1 (.lst ((C.take 27).map V.int))) c2 (.lst ((C.drop 27).map V.int))=H2 at ec1 ec2 ⊢;refine⟨c2,_,U,ec2,λcc D hD=>cV (K:=K) (l:=c2) (xs:=(C.drop 27).map V.int) (λi J zs M=>A4 (Same H2 M) (M D=O (.lst zs)) (∃ ms:List Int,A3 (zs=ms.map V.int) (ms.length=i) (∀ x∈ms,0<=x/\x<1000003)) (E2 λ(u v:Option V)=>J=[u,v]))
    ⟨zB hD _,zA,⟨[],rfl,rfl,λx hx=>(nomatch hx)⟩,JN,JN,rfl⟩ (λi J zs M hq=>⟨SqL.of (hq.1 _ _ ec2),hq.2⟩) ?_ ?_⟩
   ·rintro i x T J zs H3 hx hT ⟨s3,eD,⟨ms,rfl,lm,bm⟩,u,v,rfl⟩;rw[d9,o6] at hx;obtain⟨y,hy,rfl⟩:=hx;have hil:=(d8.mp hy).1;rw[x5] at hil;obtain⟨y0,y1⟩:=bd0 y (Bf (f7 hy));have sT:=zB hT (.tup [.int i,.int y]);have fin:∀ z:Int,0<=z->z<1000003->upd H3 T (.tup [.int i,.int y]) D=O (.lst (ms.map V.int))/\(ms.map V.int).length<sizeLine/\Same H2 (upd (upd H3 T (.tup [.int i,.int y])) D (.lst (ms.map V.int++[.int z])))/\upd (upd H3 T (.tup [.int i,.int y])) D (.lst (ms.map V.int++[.int z])) D=O (.lst (ms.map V.int++[.int z]))/\(∃ ms':List Int,A3 (ms.map V.int++[.int z]=ms'.map V.int) (ms'.length=i+1) (∀ x∈ms',0<=x/\x<1000003)):=λz z0 z1=>by
     erw[sT _ _ eD,zL (by rw[b7]; lia),(s3.trans sT).putNew hD,zA,ms++[z],by rw[e7]; rfl,by rw[f8,lm]; rfl,λx hx=>?_];rcases l7.mp hx with e | e
     ·rwa[bm x e]
     ·rw[f6.mp e]; rwa[z0,z1]
    exists T,[.int i,.int y],U,SqT.of zA,U,.int i,[.int y],U,.int y,[],U,rfl;exists _,U,_,_,U,U,(by show(0:Int)<8; decide),rfl,_,rfl;erw[ifE (λ_=>?_) (λ_=>?_)]
    ·exists _,U,_,_,U,U,yy.of (by decide) (by ac_nf),_,_,U,U,vC (by lia),_,_,U,rfl;obtain⟨f1,f2,f3,f4,f5⟩:=fin (y/5*5+1) (by lia) (by lia);rwa[f1,f2,f3,f4,f5,_,_,rfl]
    ·exists _,rfl;obtain⟨f1,f2,f3,f4,f5⟩:=fin y y0 y1;rwa[f1,f2,f3,f4,f5,_,_,rfl]
   ·rintro J zs H3 ⟨s3,eD,⟨ms,rfl,lm,bm⟩,u,v,rfl⟩;rw[b7,x5] at lm;refine⟨c1,D,_,_,U,U,s3 _ _ ec1,eD,Bu (zL (by rw[b7,b7,i7]; lia)),λr2 hr2=>?_⟩;have e2:upd H3 r2 (.lst ((C.take 27).map V.int++ms.map V.int)) r2=O (.lst ((C.take 27).map V.int++ms.map V.int)):=zA;rw[<- e7] at e2 ⊢;generalize upd H3 r2 (.lst ((C.take 27++ms).map V.int))=H4 at e2 ⊢;exact main r2 H4 ⟨_,e2,by rw[f8,i7]; lia,λx hx=>by
     rcases l7.mp hx with e | e
     ·rwa[bd0 x (Cu e)]
     ·rwa[bm x e]⟩
  ·rwa[main r0 H1 ⟨C,R,by lia,bd0⟩]
 clear R bd0 l1 l2 a84;rintro rr H1 ⟨rows,R,l1,bd⟩;intro bk dx hb hdx nbd;erw[bk,dx,rfl,zA,λp H2 s2 hp bk2=>⟨rfl,?_⟩];have nrb:rr≠bk:=zG R hb;have er1':upd (upd H1 dx (.own bk)) bk (.ins bkC dx []) rr=O (.lst (rows.map V.int)):=by rw[zD nrb,zD (zG R hdx)]; rwa[R]
 have er2:=s2.lst nrb er1';have nrp:rr≠p:=zG er1' hp;refine⟨_,U,_,U,rr,bk,p,rows,U,er2,by lia,bd,bk2,nrp,λd S past H3 s3 bk3 lwp gd l3 lp sm=>?_⟩;have nrB:¬ Bp bk p rr:=λz=>z.elim nrb nrp;have er3:=s3.lst nrB er2;clear s2 s3 R er1' er2 bk2;obtain⟨i6,hi6,sm⟩:=sm;obtain⟨m,b',r,n,_,lw⟩:=id lwp;obtain⟨nk,hn0,kv⟩:=lw.no;refine⟨_,U,d,.ref n,U,.inl ⟨_,.inr "notes",lw.at_,U,rY.symm⟩,n,nk,U,hn0,λc0 hc0=>?_⟩;rw[pU kv];have ln:=sm.len;have s4a:=zB hc0 (.lst ((S.notes.map (·.1)).map V.int));refine⟨c0,_,U,SqL.of zA,(by rw[b7]; lia),λc ms hc pm srt=>?_⟩;obtain rfl:=ng pm srt gd.rise;have s4:=s4a.trans (zB hc (.lst ((S.notes.map (·.1)).map V.int)));have e4:upd (upd H3 c0 (.lst ((S.notes.map (·.1)).map V.int))) c (.lst ((S.notes.map (·.1)).map V.int)) c=O (.lst ((S.notes.map (·.1)).map V.int)):=zA;have nc3:H3 c=none:=s4a.free hc;generalize upd (upd H3 c0 (.lst ((S.notes.map (·.1)).map V.int))) c (.lst ((S.notes.map (·.1)).map V.int))=H4 at s4 e4 ⊢;obtain⟨dx3,d3,l3',ps3,ls3,k3⟩:=id bk3;have ncB:¬ Bp bk p c:=λz=>z.elim (λz=>by rw[z,k3.ob] at nc3; cases nc3) (λz=>by rw[z,k3.pa] at nc3; cases nc3);have er4:=s4 _ _ er3;have bk4:=bk3.to (.of s4);have lw4:=lwp.to (.of s4);clear lwp lw hn0 kv er3 k3;refine⟨c,U,.inl ⟨⟨_,SqL.of e4⟩,xK (K:=K) (a:=c) (xs:=(S.notes.map (·.1)).map V.int) (λi J M=>A3 (M rr=O (.lst (rows.map V.int))) (M c=O (.lst ((S.notes.map (·.1)).map V.int))) (E3 λ(d':c7) (G:BS) (I:List (Deed×BS))=>A5 (oR bkC M bk p G I []) (LwP M d' p G) (Wr S G i) (I.length<=14+i) (∃ u4:Option V,J=[O (.ref ad),O (.ref rr),O (.ref bk),O (.ref d'),u4,JN,JN,JN,JN,JN])))
  ⟨er4,e4,d,S,past,bk4,lw4,⟨gd,rfl,λe he=>he,e8 _,λj _ e he=>g7.mpr ⟨e,f7 he,rfl⟩⟩,by lia,JN,rfl⟩ (λi J M _ hq=>SqL.of hq.2) ?_ ?_⟩⟩
 ·rintro i x J H5 hi ⟨er5,ec5,d',G,I,bk5,⟨m5,b5,r5,n5,nr5,lw5⟩,lf,lp5,u4,rfl⟩;rw[d9,d9,IA,o6] at hi;obtain⟨e,he,rfl⟩:=hi;have me:=f7 he;have hil:=(d8.mp he).1;have p1:=sm.pos e me;have p2:=gd.fresh e me;have p3:=sm.num;obtain⟨k,ek⟩:=Bw (show 0<=e.1 by lia);obtain⟨v,av,_⟩:=wS bd (k:=85+e.1) (by lia) (by lia);exists _,U,_,U,_,_,U,U,rr,_,_,_,U,U,.inl (SqL.of er5),av,_,_,U,U,gt5,U,_,rfl;have okk:okD G (.strike e.1):=lf.has i (e8 _) e he;erw[ifE (λ_=>?_) (λ_=>?_)];rotate_left
  ·rwa[er5,ec5,d',G,I,bk5,⟨m5,b5,r5,n5,nr5,lw5⟩,lf.next,by lia,_,rfl]
  obtain⟨dx5,d5,l5,ps5,ls5,k5⟩:=id bk5;have no:(bkF d5 p l5).lookup ("strike" : j3)=none:=mI (by ac_nf) (by ac_nf) (by ac_nf);refine⟨_,U,bk,dx5,_,U,k5.ob,no,_,U,bk,p,e.1,G,I,[],U,bk5,okk,lf.good.few,lf.good.fresh,by lia,λH6 s6 bk6=>?_⟩;have nd5:=Xs k5.ob k5.pa;have np5:=YK k5.ob k5.pa;have nr5b:¬ Bp bk p r5:=λz=>z.elim (λz=>by
   obtain⟨rs,e,_⟩:=lw5.ru;rw[z,k5.ob] at e;cases e) nr5
  have lw6:LwA H6 d' m5 b5 r5 n5 G:=lw5.samE s6 nd5 np5 (λ_ _=>nr5b);refine⟨_,U,_,U,sz2,λt ht=>?_⟩;have s7:=zB ht (.tup [.str "strike",.int e.1]);refine⟨d',.ref t,G,.strike e.1,U,mU zA,⟨m5,b5,r5,n5,lw6.to (.of s7)⟩,okk,lf.good.few,lf.good.fresh,λd'' H8 s8 hd8 lwn=>?_⟩;obtain⟨m8,b8,r8,n8,hr8,lw8⟩:=lwn;obtain⟨dx6,d6,l6,ps6,ls6,k6⟩:=id (bk6.to (.of s7));have nr8:r8≠p:=λz=>by
   have h:=(z ▸ hr8 : _=JN);have:=h.symm.trans k6.pa;cases this
  have s68:=s7.trans s8;rwa[s68 _ _ (s6.lst nrB er5),s68 _ _ (s6.lst ncB ec5),d'',_,_,bk6.to (.of s68),⟨m8,b8,r8,n8,nr8,lw8⟩,lf.strike gd.rise he okk,by rw[f8]; simp only[i9,AE]; lia,_,rfl]
 ·rintro J H5 ⟨er5,ec5,d',G,I,bk5,lwp5,lf,lp5,u4,rfl⟩;clear er5 ec5 bk4 lw4 e4;have gd':=lf.good;have l24:G.notes.length<=24:=f9 lf.fewer (by lia);obtain⟨m5,b5,r5,n5,_,lw5⟩:=id lwp5;obtain⟨nk,hn0,kv⟩:=lw5.no;refine⟨_,U,d',.ref n5,U,.inl ⟨_,.inr "notes",lw5.at_,U,rY.symm⟩,n5,nk,U,hn0,λc0 hc0=>?_⟩;rw[pU kv];have s6a:=zB hc0 (.lst ((G.notes.map (·.1)).map V.int));refine⟨c0,_,U,SqL.of zA,(by rw[b7]; lia),λnl ms hnl pm srt=>?_⟩;obtain rfl:=ng pm srt gd'.rise;have s6:=s6a.trans (zB hnl (.lst ((G.notes.map (·.1)).map V.int)));have enl:upd (upd H5 c0 (.lst ((G.notes.map (·.1)).map V.int))) nl (.lst ((G.notes.map (·.1)).map V.int)) nl=O (.lst ((G.notes.map (·.1)).map V.int)):=zA;generalize upd (upd H5 c0 (.lst ((G.notes.map (·.1)).map V.int))) nl (.lst ((G.notes.map (·.1)).map V.int))=H6 at s6 enl ⊢;have bk6:=bk5.to (.of s6);have lw6:=(lwp5.to (.of s6)).at;clear bk5 lwp5 lw5 hn0 kv;refine⟨_,U,d',G,0,U,lw6,gd',m7 _,λg gs H7 s7 hg eg ga=>?_⟩;obtain⟨Gs,e1,grl,L⟩:=nK ga (λr hr x hx=>by
   obtain⟨e,he,rfl⟩:=g7.mp hr;rwa[qu gd' (gd'.note e he) x hx])
  rw[Ab] at L;have L:co Gs=rD G:=L;have lG:Gs.length=G.notes.length:=by have:=congrArg Aq L; simpa [co,rD] using this
  have two:∀ g∈Gs,g.2.length<=2:=λg hg=>by
   have m:g.2.map (·.2)∈rD G:=by rw[<- L]; rwa[g7.mpr ⟨g,hg,rfl⟩]
   obtain⟨e,_,q⟩:=g7.mp m;have:=congrArg Aq q;rw[b7,b7] at this;rw[<- this];rwa[lA]
  have egr:gs.map V.ref=rK Gs:=by rw[<- e1,Ab]; rfl
  rw[egr] at eg;refine⟨g,Gs,U,eg,grl,by lia,two,λD fs H8 s8 hD eD of mfs nd pw lf8=>?_⟩;have cs:iq (rD G) (fs.map (·.2)):=by
   erw[λk=>(mfs k).trans ?_,nd,pw,by rw[b7]; rwa[lf8]];unfold kJ Wz;constructor
   ·rintro⟨⟨P,hP,ek⟩,h1⟩;refine⟨⟨P,sF (L.trans (yf _).symm) hP,by rw[ek,ke (L.trans (yf _).symm)]⟩,λP' hP'=>?_⟩;have:=h1 P' (sF ((yf _).trans L.symm) hP');(rw[ke (L.trans (yf _).symm)] at this;assumption)
   ·rintro⟨⟨P,hP,ek⟩,h1⟩;erw[⟨P,sF ((yf _).trans L.symm) hP,by rw[ek,ke (L.trans (yf _).symm)]⟩,λP' hP'=>?_];rw[ke (L.trans (yf _).symm)];rwa[h1 P' (sF (L.trans (yf _).symm) hP')]
  clear mfs nd pw ga grl eg hg;have inN:∀ t∈fs,∀ x∈t.2,∃ i:Nat,x=i/\i<G.notes.length:=λt ht x hx=>by
   obtain⟨⟨P,_,ek⟩,_⟩:=(cs.rows t.2).mp (g7.mpr ⟨t,ht,rfl⟩);rw[ek] at hx;obtain⟨i,e,hi⟩:=Te hx;exists i,e;simpa [cg,rD] using hi
  have X:∀ k∈fs.map (·.2),k.length<=24:=λk hk=>by
   obtain⟨⟨P,_,ek⟩,_⟩:=(cs.rows k).mp hk;rw[ek];have z:=kA ((cg (rD G)).map (·.2)) P ((cg (rD G)).map (·.2)).length;exact f9 z (by simpa [cg,rD] using l24)
  have enl8:=s8 _ _ (s7 _ _ enl);have s68:=s7.trans s8;refine⟨D,U,.inl ⟨⟨_,SqL.of eD⟩,λcc B hB=>?_⟩⟩;refine yI (K:=K) (a:=D) (xs:=(fs.map (·.1)).map V.ref) (λi J zs M=>A4 (Same H8 M) (M B=O (.lst zs)) (∃ rs:List (c7×List Int),A3 (zs=(rs.map (·.1)).map V.ref) (rs.map (·.2)=(fs.take i).map (·.2)) (∀ t∈rs,M t.1=O (.lst ((t.2.map (uy (G.notes.map (·.1)))).map V.int))/\t.1≠B)) (∃ u:Option V,J=[u,O (.ref nl)]))
   ⟨zB hB _,zA,⟨[],rfl,rfl,λt ht=>(nomatch ht)⟩,JN,rfl⟩ (λi J zs M _ hq=>⟨SqL.of (hq.1 _ _ eD),hq.2⟩) ?_ ?_
  ·rintro i x J zs H9 hi ⟨s9,eB,⟨rs,rfl,ers,rok⟩,u,rfl⟩;rw[d9,d9] at hi;cases gx:fs[i]? with
   | none=>rw[gx] at hi; cases hi
   | some t =>
    rw[gx] at hi;cases hi;have mt:=f7 gx;have et:=s9 _ _ (of t mt).1;have il:i<fs.length:=(d8.mp gx).1;have lrs:rs.length=i:=by have:=congrArg Aq ers; rw[b7,b7,i7] at this; lia
    refine⟨_,U,t.1,U,.inl ⟨⟨_,SqL.of et⟩,λc2 E hE=>?_⟩⟩;refine yI (K:=K) (a:=t.1) (xs:=t.2.map V.int) (λj J zs M=>A4 (Same H9 M) (M E=O (.lst zs)) (zs=((t.2.take j).map (uy (G.notes.map (·.1)))).map V.int) (∃ u:Option V,J=[u,O (.ref nl)]))
     ⟨zB hE _,zA,rfl,JN,rfl⟩ (λj J zs M _ hq=>⟨SqL.of (hq.1 _ _ et),hq.2⟩) ?_ ?_
    ·rintro j y J zs H10 hj ⟨N,eE,rfl,u,rfl⟩;rw[d9,o6] at hj;obtain⟨x,hx,rfl⟩:=hj;obtain⟨k,rfl,hk⟩:=inN t mt x (f7 hx);have hk':k<(G.notes.map (·.1)).length:=by rw[b7]; rwa[hk]
     have enl5:=N _ _ (s9 _ _ enl8);have atk:atI ((G.notes.map (·.1)).map V.int) (k:Int)=O (.int (uy (G.notes.map (·.1)) k)):=qB (by
      rw[d9,c8 hk'];unfold uy;rw[Bq,Bg,c8 hk'];rfl)
     have l24':=X t.2 (g7.mpr ⟨t,mt,rfl⟩);erw[_,rfl,_,rfl,nl,_,_,_,rfl,rfl,.inl (SqL.of enl5),atk,eE,zL (by rw[b7,b7,i7]; lia),N.putNew hE,zA,?_,_,rfl];rw[x6,hx,e7,e7];rfl
    ·rintro J zs H10 ⟨N,eE,rfl,u,rfl⟩;rw[b7,j9] at eE;have eB5:=N _ _ eB;have nEB:E≠B:=λz=>by rw[z,eB] at hE; cases hE
     refine⟨eB5,AM (show _<=9000 by rw[b7,b7]; lia) (by decide),(s9.trans N).putNew hB,zA,⟨rs++[(E,t.2)],by rw[e7,e7]; rfl,by rw[e7,ers,x6,gx,e7]; rfl,λt' ht'=>?_⟩,_,rfl⟩;rcases l7.mp ht' with z | z
     ·obtain⟨z1,z3⟩:=rok t' z;rwa[by rw[zD z3]; exact N _ _ z1,z3]
     ·rw[f6.mp z];rwa[by rw[zD nEB]; exact eE,nEB]
  ·rintro J zs H9 ⟨s9,eB,⟨rs,rfl,ers,rok⟩,u,rfl⟩;rw[show((fs.map (·.1)).map V.ref).length=fs.length by rw[b7,b7],j9] at ers;have bk9:=bk6.to (.of (s68.trans s9));rw[<- ers] at cs X;clear ers of inN;refine⟨_,U,(by decide),(by decide),tM (lo:=0) (n:=2) (λ_ J M=>Same H9 M/\E3 λ(u7 u8 u9:Option V)=>J=[O (.ref ad),O (.ref rr),O (.ref bk),O (.ref d'),u4,O (.ref nl),O (.ref B),u7,u8,u9])
    ⟨Same.refl _,JN,JN,JN,rfl⟩ ?_ ?_⟩
   ·rintro k J H10 _ ⟨N,u7,u8,u9,rfl⟩;refine⟨_,U,bk,p,G,I,[],U,bk9.to (.of N),gd',l24,λD2 Y H11 s11 hD2 eD2 of2 cs2=>?_⟩;have eq:=aK cs2 cs;have ll:Y.length=rs.length:=by have z:=congrArg Aq eq; (rw[b7,b7] at z;assumption)
    have lf2:Y.length<=9000:=by have:=cs2.len; (rw[b7] at this;assumption)
    have s911:=N.trans s11;erw[_,rfl,_,rfl,.ref D2,.ref B,rfl,.inr ⟨D2,B,_,_,JO,rfl,rfl,eD2,s911 _ _ eB,by simp only[b7]; exact ll,by simp only[b7]; exact lf2,λj u v g1 g2=>?_⟩,λH12 s12=>?_]
    ·rw[d9,d9] at g1 g2;cases x1:Y[j]? with
     | none=>rw[x1] at g1; cases g1
     | some t =>
      cases x2:rs[j]? with
      | none=>rw[x2] at g2; cases g2
      | some t' =>
       rw[x1] at g1;rw[x2] at g2;cases g1;cases g2;have e2:t.2=t'.2:=by
        have z:=congrArg (λl:List (List Int)=>l[j]?) eq;simp only[d9,x1,x2,AS] at z;rwa[t7 z]
       have m2:=f7 x2;have k24:=X t'.2 (g7.mpr ⟨t',m2,rfl⟩);erw[.inr ⟨t.1,t'.1,_,_,JO,rfl,rfl,(of2 t (f7 x1)).1,s911 _ _ (rok t' m2).1,by rw[e2],by rw[e2,b7,b7]; lia,λi u v g1 g2=>?_⟩];rw[e2,g2] at g1;cases g1;obtain⟨m,_,rfl⟩:=xS g2;rwa[DR.int rfl]
    refine⟨JO,U,uY ?_⟩;have eF:=s12 _ _ eD2;have kk:∀ t∈Y,t.2.length<=24:=λt ht=>X t.2 (by rw[<- eq]; exact g7.mpr ⟨t,ht,rfl⟩);refine⟨_,U,D2,U,.inl ⟨⟨_,SqL.of eF⟩,xK (K:=K) (a:=D2) (xs:=(Y.map (·.1)).map V.ref) (λj J M=>A4 (Same H10 M) (M D2=O (.lst ((Y.map (·.1)).map V.ref))) (∀ t∈Y,∃ xs,M t.1=O (.lst xs)/\xs.length<=24+j) (∃ u9:Option V,J=[O (.ref ad),O (.ref rr),O (.ref bk),O (.ref d'),u4,O (.ref nl),O (.ref B),O (.int (0+k)),O (.ref D2),u9]))
     ⟨s11.trans s12,eF,λt ht=>⟨_,s12 _ _ (of2 t ht).1,by rw[b7,b7]; rwa[kk t ht]⟩,_,rfl⟩ (λj J M _ hq'=>by obtain⟨_,e,_⟩:=hq'; rwa[SqL.of e]) ?_ ?_⟩⟩
    ·rintro j v J H13 hj ⟨s13,eF8,rows8,u9,rfl⟩;rw[d9,d9] at hj;cases gx:Y[j]? with
     | none=>rw[gx] at hj; cases hj
     | some t =>
      rw[gx] at hj;cases hj;have mt:=f7 gx;have hjl:j<Y.length:=(d8.mp gx).1;obtain⟨xs,ex,lx⟩:=rows8 t mt;obtain⟨_,n5,nF⟩:=of2 t mt;exists _,U,.inl ⟨U,_,SqL.of ex⟩;exists t.1,_,_,U,U,ex,AM (show xs.length<=9024 by lia) (by decide);erw[s13.putNew n5,by rw[zD (AR nF)]; exact eF8,λt' ht'=>?_,_,rfl];by_cases c:t'.1=t.1
      ·rw[c];exact⟨_,zA,by rw[f8]; show xs.length+1<=_; lia⟩
      ·obtain⟨xs',ex',lx'⟩:=rows8 t' ht';rwa[xs',by rw[zD c]; exact ex',by lia]
    ·rintro J H13 ⟨s13,eF8,_,u9,rfl⟩;exists _,U,.inl ⟨U,_,SqL.of eF8⟩;exists D2,_,U,U,eF8;rwa[N.trans (s13.putNew hD2),_,_,_,rfl]
   ·rintro J H10 ⟨_,u7,u8,u9,rfl⟩;rwa[q _]
end
def Vf{K:c5}{C:c7}{f:j3}(h:AZ K (.ref C) f=O JN):wx K C f:=h
def jp(P:C6):Cls (KK P) bkC:=⟨by symm,by symm,by symm,by symm⟩
set_option maxHeartbeats 0 in
def cb_mk{P:m9}{w:r9}{mg:j3->Option c6}{base:w9}(X:AG (KK w.params) base)(G:base.Ns mainGlobals mg):Cb P w mg base :=
 ⟨⟨_,X,jp _,Vf (by symm)⟩,
   ⟨_,X,jp _,Vf (by symm)⟩,
   ⟨_,X,jp _,Vf (by symm)⟩,
   ⟨_,X,jp _,⟨(by symm),(by symm),(by symm)⟩⟩,
   ⟨_,X,jp _,⟨(by symm),(by symm),(by symm)⟩⟩,
   ⟨_,X,jp _,⟨(by symm),(by symm),(by symm)⟩⟩,
   ⟨_,X,jp _,⟨(by symm),(by symm),(by symm)⟩⟩,
   ⟨_,X,jp _,⟨(by symm),(by symm),(by symm)⟩⟩,
   ⟨_,X,jp _,⟨(by symm),(by symm),(by symm)⟩⟩,
   ⟨_,X,⟨(by symm),(by symm),(by symm),(by symm)⟩⟩,
   (Az X G (by symm)),
   (be (ep:=4) (l:=[("marks",616,.int 20,.int 20 617),("banks",618,.int 8,.int 8 619),("runs",620,.int 12,.int 12 621),("notes",622,.int 24,.int 24 623)]) (X _ _ (by symm)) (λe c=>by simp only[o0,As,or_false] at c; rcases c with rfl | rfl | rfl | rfl <;> rwa[_,rfl]) (by ac_nf)),
   (Az X G (by symm)),
   (be (ep:=10) (l:=[("mark",841,.ref 429,.ref 429),("move",842,.ref 436,.ref 436),("unmark",843,.ref 443,.ref 443),("bank",844,.ref 450,.ref 450),("level",845,.ref 457,.ref 457),("sail",846,.ref 464,.ref 464),("right",847,.ref 471,.ref 471),("bearing",848,.ref 485,.ref 485),("range",849,.ref 492,.ref 492),("strike",850,.ref 499,.ref 499)]) (X _ _ (by symm)) (λe c=>by simp only[o0,As,or_false] at c; rcases c with rfl | rfl | rfl | rfl | rfl | rfl | rfl | rfl | rfl | rfl <;> rwa[rfl]) (by ac_nf)),
   (Az X G (by symm)),
   ⟨629,(Az X G (by symm))⟩,
   ⟨631,(Az X G (by symm))⟩,
   ⟨633,(Az X G (by symm))⟩,
   (Az X G (by symm)),
   (Az X G (by symm)),
   (Az X G (by symm)),
   (Az X G (by symm)),
   (Az X G (by symm)),
   (YJ X (Az X G (by symm)) (by symm))⟩
def us0{R:List c6->Prop}(h:R []):∀ c:List c6,c.length=0->R c
 | [],_=>h
 | _::_,e=>nomatch e
def usS{R:List c6->Prop}{n:Nat}(h:∀ a (c:List c6),c.length=n->R (a::c)):∀ c:List c6,c.length=n+1->R c
 | [],e=>nomatch e
 | a::l,e=>h a l (Nat.succ.inj e)
def us1{R:List c6->Prop}(h:∀ a,R [a]):∀ c:List c6,c.length=1->R c:=usS λa=>us0 (R:=λl=>R (a::l)) (h a)
def us2{R:List c6->Prop}(h:∀ a b,R [a,b]):∀ c:List c6,c.length=2->R c:=usS λa=>us1 (R:=λl=>R (a::l)) (h a)
def us3{R:List c6->Prop}(h:∀ a b c,R [a,b,c]):∀ d:List c6,d.length=3->R d:=usS λa=>us2 (R:=λl=>R (a::l)) (h a)
def us4{R:List c6->Prop}(h:∀ a b c d,R [a,b,c,d]):∀ e:List c6,e.length=4->R e:=usS λa=>us3 (R:=λl=>R (a::l)) (h a)
def us5{R:List c6->Prop}(h:∀ a b c d e,R [a,b,c,d,e]):∀ f:List c6,f.length=5->R f:=usS λa=>us4 (R:=λl=>R (a::l)) (h a)
def us6{R:List c6->Prop}(h:∀ a b c d e f,R [a,b,c,d,e,f]):∀ g:List c6,g.length=6->R g:=usS λa=>us5 (R:=λl=>R (a::l)) (h a)
abbrev AtK(j:C6)(x:j3)(s:Ar)(f:c7)(g:c6)(e:Option c7)(d:Array (Option c6))(kV h pm:c6)(i:Option c7)(c ct:c6):Prop :=
 AL (KK j) mainGlobals x=O (O (.ref f))/\Ap f KC=O ⟨g,e,.func (Aw x x (xZ s) (xP s) (zH s) .none kV h pm i c ct),d⟩/\De KC c x=JO/\AI KC (.ref f)=JO
section
variable{Pm:C6}{x:j3}{s:Ar}{f:c7}{oc kV dc pm cd ct:c6}{od an:Option c7}{sl:Array (Option c6)}{h:w9}{mg:j3->Option c6}
def Xh(q:AtK Pm x s f oc od sl kV dc pm an cd ct):Fun K x x s f (Aw x x (xZ s) (xP s) (zH s) .none kV dc pm an cd ct):=bI (st:=s) (by rw[bg]; rwa[q.2.1]) (by rw[bg]; rwa[q.2.2.1]) (by rw[bg]; rwa[q.2.2.2])
abbrev AtE(Pm:C6)(x:j3)(s:Ar):Prop:=∃(f:c7)(oc:c6)(od:Option c7)(sl:Array (Option c6))(kV dc pm:c6)(an:Option c7)(cd ct:c6),AtK Pm x s f oc od sl kV dc pm an cd ct
def at_mk(q:AtK Pm x s f oc od sl kV dc pm an cd ct):AtE Pm x s:=⟨_,_,_,_,_,_,_,_,_,_,q⟩
def bJ(P:m9)(w:r9)(base:w9)(X:AG (KK Pm) h)(G:h.Ns mainGlobals mg)(q:AtE Pm x s){c:List j3}{n:Nat}{sp:Sp}(o:∀ {f:c7} {fd:AJ},Fun K x x s f fd->uh K fd c []->AI K (.ref f)=JO->mg x=O (.ref f)->yQ P w K mg base CX0 n f fd c sp)
  (b:∀(kV e pm:c6)(an:Option c7)(g ct:c6)(d:List c6),d.length=c.length->bindArgs (Aw x x (xZ s) (xP s) (zH s) .none kV e pm an g ct) ⟨d,[]⟩=pure (c.zip d)):Has P w K mg base x n c sp:=by
 obtain⟨f,oc,od,sl,kV,dc,pm,an,cd,ct,q⟩:=q;have F:=Xh q;rwa[_,_,o F (F.binds b) F.kp (Az X G q.1),F.binds b,F.kp,Az X G q.1]
def TB(P:m9)(w:r9)(base:w9)(X:AG (KK Pm) h)(G:h.Ns mainGlobals mg){x:j3}{s:Ar}(q:AtE Pm x s){c:List j3}{n:Nat}{sp:Sp}(o:∀ {f:c7} {fd:AJ},Fun K x x s f fd->yQ P w K mg base CX0 n f fd c sp)
  (b:∀(kV e pm:c6)(an:Option c7)(g ct:c6)(d:List c6),d.length=c.length->bindArgs (Aw x x (xZ s) (xP s) (zH s) .none kV e pm an g ct) ⟨d,[]⟩=pure (c.zip d):=by first | exact λ_ _ _ _ _ _=>us0 rfl | exact λ_ _ _ _ _ _=>us1 λ_=>rfl | exact λ_ _ _ _ _ _=>us2 λ_ _=>rfl | exact λ_ _ _ _ _ _=>us3 λ_ _ _=>rfl | exact λ_ _ _ _ _ _=>us4 λ_ _ _ _=>rfl | exact λ_ _ _ _ _ _=>us6 λ_ _ _ _ _ _=>rfl):Has P w K mg base x n c sp:=bJ P w base X G q (λF _ _ _=>o F) b
abbrev AtM(x q:j3)(s:Ar)(f:c7):Prop:=∃(oc:c6)(od:Option c7)(sl:Array (Option c6))(kV dc pm:c6)(an:Option c7)(cd ct:c6),Ap f KC=O ⟨oc,od,.func (Aw x q (xZ s) (xP s) (zH s) .none kV dc pm an cd ct),sl⟩/\De KC cd q=JO/\AI KC (.ref f)=JO
def atm_mk{q:j3}(h:Ap f KC=O ⟨oc,od,.func (Aw x q (xZ s) (xP s) (zH s) .none kV dc pm an cd ct),sl⟩/\De KC cd q=JO/\AI KC (.ref f)=JO):AtM x q s f:=⟨_,_,_,_,_,_,_,_,_,h⟩
def VI(P:m9)(w:r9)(base:w9)(X:AG (KK Pm) h)(G:h.Ns mainGlobals mg){x:j3}{s:Ar}(q:AtE Pm x s){c:List j3}{n:Nat}{sp:Sp}(o:∀ {f:c7} {fd:AJ},Fun K x x s f fd->yQ P w K mg base (CX1 P w) n f fd c sp)
  (b:∀(kV e pm:c6)(an:Option c7)(g ct:c6)(d:List c6),d.length=c.length->bindArgs (Aw x x (xZ s) (xP s) (zH s) .none kV e pm an g ct) ⟨d,[]⟩=pure (c.zip d):=by first | exact λ_ _ _ _ _ _=>us0 rfl | exact λ_ _ _ _ _ _=>us1 λ_=>rfl | exact λ_ _ _ _ _ _=>us2 λ_ _=>rfl | exact λ_ _ _ _ _ _=>us3 λ_ _ _=>rfl | exact λ_ _ _ _ _ _=>us4 λ_ _ _ _=>rfl | exact λ_ _ _ _ _ _=>us6 λ_ _ _ _ _ _=>rfl):YB P w K mg base x n c sp:=by
 obtain⟨f,oc,od,sl,kV,dc,pm,an,cd,ct,q⟩:=q;have F:=Xh q;rwa[_,_,o F,F.binds b,F.kp,Az X G q.1]
def has_mkH(P:m9)(w:r9)(base:w9)(X:AG (KK Pm) h)(G:h.Ns mainGlobals mg)(q:AtE Pm x s){c:List j3}{n:Nat}{sp:c7->Sp}(o:∀ {f:c7} {fd:AJ},Fun K x x s f fd->Tg P w K mg base n f fd c sp)
  (b:∀(kV e pm:c6)(an:Option c7)(g ct:c6)(d:List c6),d.length=c.length->bindArgs (Aw x x (xZ s) (xP s) (zH s) .none kV e pm an g ct) ⟨d,[]⟩=pure (c.zip d)):HasH P w K mg base x n c sp:=by
 obtain⟨f,oc,od,sl,kV,dc,pm,an,cd,ct,q⟩:=q;have F:=Xh q;rwa[_,_,o F,F.binds b,F.kp,Az X G q.1]
def wo(P:m9)(w:r9)(mg:j3->Option c6)(base:w9){q:j3}(a:AtM x q s f){c:List j3}{n:Nat}{sp:Sp}(o:∀ {fd:AJ},Fun K x q s f fd->yQ P w K mg base CX0 n f fd c sp)
  (b:∀(kV e pm:c6)(an:Option c7)(g ct:c6)(d:List c6),d.length=c.length->bindArgs (Aw x q (xZ s) (xP s) (zH s) .none kV e pm an g ct) ⟨d,[]⟩=pure (c.zip d)):eA P w K mg base f n c sp:=by
 obtain⟨oc,od,sl,kV,dc,pm,an,cd,ct,l,j,i⟩:=a;rwa[_,o (bI (st:=s) (by rw[bg]; exact l) (by rw[bg]; exact j) (by rw[bg]; exact i)),b _ _ _ _ _ _]
def has_mkMX(P:m9)(w:r9)(mg:j3->Option c6)(base:w9){q:j3}(a:AtM x q s f){c:List j3}{n:Nat}{sp:Sp}(o:∀ {fd:AJ},Fun K x q s f fd->yQ P w K mg base (CX1 P w) n f fd c sp)
  (b:∀(kV e pm:c6)(an:Option c7)(g ct:c6)(d:List c6),d.length=c.length->bindArgs (Aw x q (xZ s) (xP s) (zH s) .none kV e pm an g ct) ⟨d,[]⟩=pure (c.zip d)):HasMX P w K mg base f n c sp:=by
 obtain⟨oc,od,sl,kV,dc,pm,an,cd,ct,l,j,i⟩:=a;rwa[_,o (bI (st:=s) (by rw[bg]; exact l) (by rw[bg]; exact j) (by rw[bg]; exact i)),b _ _ _ _ _ _]
def K_in{Pm:C6}{h:w9}(X:AG (KK Pm) h):AG K h:=by
 rw[bg];rwa[YV (F:=KF Pm) (by symm) X]
end
def all_mk{l:Ge}{w:r9}{h:w9}{mg:j3->Option c6}{fa:c7}(X:AG (KK w.params) h)(G:h.Ns mainGlobals mg)(hfa:mg "law" = O (.ref fa))
  {f69:c7}
  {oc69 H I E L J:c6}
  {od69 M:Option c7}
  {sl69:Array (Option c6)}
  (q1:AtE w.params "common_factor" wL)
  (q2:AtE w.params "lowest" xw)
  (q3:AtE w.params "upright" qQ)
  (q4:AtE w.params "spot" oy)
  (q5:AtE w.params "turn" pO)
  (q6:AtE w.params "along" vd)
  (q7:AtE w.params "plain_side" vF)
  (q8:AtE w.params "beyond" yb)
  (q9:AtE w.params "holds" ve)
  (q10:AtE w.params "crossing" sR)
  (q11:AtE w.params "pushed" xi)
  (q12:AtE w.params "bearing_sides" wM)
  (q13:AtE w.params "range_side" vA)
  (q14:AtE w.params "in_water" sA)
  (q15:AtE w.params "foot" ow)
  (q16:AtE w.params "nothing_yet" uS)
  (q17:AtE w.params "changed" qA)
  (q18:AtE w.params "without" rV)
  (q19:AtE w.params "within" xj)
  (q20:AtE w.params "check_name" vB)
  (q21:AtE w.params "check_free" vD)
  (q22:AtE w.params "check_place" uP)
  (q23:AtE w.params "check_run" tE)
  (q24:AtE w.params "check_room" vI)
  (q25:AtE w.params "check_mark" vL)
  (q26:AtE w.params "check_moment" uB)
  (q27:AtE w.params "check_way" vZ)
  (q28:AtE w.params "check_apart" uU)
  (q29:AtE w.params "after_mark" vK)
  (q30:AtE w.params "after_sail" vE)
  (q31:AtE w.params "after_note" vM)
  (q32:AtE w.params "after_bearing" wE)
  (q33:AtE w.params "after_range" uM)
  (q34:AtE w.params "after_strike" wW)
  (q35:AtE w.params "after" vy)
  (q36:AtE w.params "doubted" qE)
  (q37:AtE w.params "places_to_try" wH)
  (q38:AtE w.params "least_doubts" wZ)
  (q39:AtE w.params "choices" qG)
  (q40:AtE w.params "way_between" uO)
  (q41:AtE w.params "mark_places" uT)
  (q42:AtE w.params "sides_of" sS)
  (q43:AtE w.params "note_groups" uK)
  (q44:AtE w.params "note_numbers" wT)
  (q45:AtE w.params "book_choices" wV)
  (q46:AtE w.params "_law_power" va)
  (q47:AtE w.params "_law_draws" wc)
  (q48:AtE w.params "_law_new" jz)
  (q49:AtE w.params "_law_lead" pQ)
  (q50:AtE w.params "_law_way" kL)
  (q51:AtE w.params "_law_turned" xz)
  (q52:AtE w.params "_law_left_pair" tF)
  (q53:AtE w.params "_law_true_bearing" uA)
  (q54:AtE w.params "_law_some_deeds" vJ)
  (q55:AtE w.params "_law_names" ur)
  (q56:AtE w.params "_law_after" vb)
  (q57:AtE w.params "_law_raised" xu)
  (q58:AtE w.params "_law_low" kH)
  (q59:AtE w.params "_law_spot_of" qM)
  (q60:AtE w.params "_law_feet" pV)
  (q61:AtE w.params "_law_meet" pZ)
  (q62:AtE w.params "_law_has" kB)
  (q63:AtE w.params "_law_doubts" xx)
  (q64:AtE w.params "_law_least_doubts" wU)
  (q65:AtE w.params "_law_lowest" ya)
  (q66:AtE w.params "_law_rows_of" rW)
  (q67:AtE w.params "_law_m_groups" sO)
  (q68:AtE w.params "_law_same" vc)
  (q69:AtK w.params "law" fD f69 oc69 od69 sl69 H I E M L J)
  (q70:AtM "__init__" "Book.__init__" ox fA)
  (q71:AtM "strike" "Book.strike" xt mv)
  (q72:AtM "deed" "Book.deed" pP ka)
  (q73:AtM "marks" "Book.marks" wb jv)
  (q74:AtM "runs" "Book.runs" pW kT)
  (q75:AtM "notes" "Book.notes" vv pL)
  (q76:AtM "coming" "Book.coming" yc mh)
  (z_abs:AL (KK w.params) mainGlobals "abs" = O JN)
  (z_all:AL (KK w.params) mainGlobals "all" = O JN)
  (B:AL (KK w.params) mainGlobals "bool" = O JN)
  (A:AL (KK w.params) mainGlobals "dict" = O JN)
  (n:AL (KK w.params) mainGlobals "enumerate" = O JN)
  (Y:AL (KK w.params) mainGlobals "int" = O JN)
  (g:AL (KK w.params) mainGlobals "isinstance" = O JN)
  (T:AL (KK w.params) mainGlobals "len" = O JN)
  (z:AL (KK w.params) mainGlobals "list" = O JN)
  (S:AL (KK w.params) mainGlobals "max" = O JN)
  (R:AL (KK w.params) mainGlobals "min" = O JN)
  (y:AL (KK w.params) mainGlobals "range" = O JN)
  (r:AL (KK w.params) mainGlobals "sorted" = O JN)
  (Q:AL (KK w.params) mainGlobals "str" = O JN)
  (P:AL (KK w.params) mainGlobals "sum" = O JN)
  (x:AL (KK w.params) mainGlobals "tuple" = O JN)
  (N:AL (KK w.params) mainGlobals "zip" = O JN) :
  ∃ fd:AJ,(∀(s:d7)(v:c6),FX s fd ⟨[v],[]⟩ [("_law_script",v)])/\∀ base:w9,AG (KK w.params) base->base.Ns mainGlobals mg->yQ l.prog w K mg base CX0 10 fa fd ["_law_script"] (sp_law K):=by
 have e:=hfa.symm.trans (Az X G q69.1);cases e;have Z:Zs mg:=⟨x9 X G z_abs,x9 X G z_all,x9 X G B,x9 X G A,x9 X G n,x9 X G Y,x9 X G g,x9 X G T,x9 X G z,x9 X G S,x9 X G R,x9 X G y,x9 X G r,x9 X G Q,x9 X G P,x9 X G x,x9 X G N⟩;erw[Aw "law" "law" (xZ fD) (xP fD) (zH fD) .none H I E M L J,λs v=>.of_eq rfl,λbase KB GB=>?_];have c:Cb l.prog w mg base:=cb_mk KB GB;have d:=@TB w.params h mg l.prog w base X G;have DX:=@VI w.params h mg l.prog w base X G;have yAa:=d q1 λF=>um F Z ;have yBv:=d q2 λF=>gQ F Z c yAa;have yBp:=d q3 λF=>iV F Z c yBv;have yCh:=d q4 λF=>bV F Z c yBp;have C:=d q5 λF=>ZH F Z c ;have yCd:=d q6 λF=>ck F Z c ;have yAy:=d q7 λF=>nZ F Z c yBv;have yBs:=d q8 λF=>fI F Z c ;have yCa:=d q9 λF=>cO F Z c yBs;have yBf:=d q10 λF=>jw F Z c yBp C;have yBq:=d q11 λF=>ft F Z c ;have yAc:=d q12 λF=>vh F Z c yAy C;have yAx:=d q13 λF=>oE F Z c yAy C;have yBh:=d q14 λF=>jy F Z c yCa;have yCl:=d q15 λF=>bY F Z c yCh yCd;have yAn:=d q16 λF=>pi F Z c ;have yBl:=d q17 λF=>ic F Z c ;have yBo:=d q18 λF=>iB F Z c ;have yBw:=d q19 λF=>gO F Z c ;have yBa:=d q20 λF=>oS F Z c ;have yAs:=d q21 λF=>oO F Z c ;have yAr:=d q22 λF=>pE F Z c yBw;have yBe:=d q23 λF=>mD F Z c yBw;have yAw:=d q24 λF=>oB F Z c ;have yAz:=d q25 λF=>nD F Z c ;have D:=DX q26 λF=>si F Z c ;have yBd:=d q27 λF=>mF F Z c yBw;have yAp:=d q28 λF=>pH F Z c ;have yBb:=d q29 λF=>mq F Z c yBl yAw yAr yAs yBa;have yAt:=d q30 λF=>oh F Z c yBl yAw yBe;have yAu:=d q31 λF=>mj F Z c yBl yAw;have yAb:=d q32 λF=>ui F Z c yAu C yBd yAz D;have yAm:=d q33 λF=>ph F Z c yAu yAp yAz D;have yAe:=d q34 λF=>rf F Z c yBo;have yCc:=d q35 λF=>cb F Z c yBb yAt yAb yAm yAe;have yBm:=d q36 λF=>im F Z c yBh
 have yAd:=d q37 λF=>uo F Z c yBf yCl yCh;have yAg:=d q38 λF=>tz F Z c yAd yBm;have yBn:=d q39 λF=>jj F Z c yAg;have yBg:=d q42 λF=>lV F Z c yAx yAc;have yBz:=d q46 λF=>cH F Z ;have yBy:=d q47 λF=>cN F Z c yBz;have yCm:=d q48 λF=>Yv F Z c ;have yCk:=d q49 λF=>bE F Z c ;have yCn:=d q50 λF=>ZX F Z c ;have yBu:=d q51 λF=>fE F Z c ;have yBc:=d q52 λF=>mC F Z c yBu yCn;have yAh:=d q53 λF=>qz F Z c yBc yCk;have yAv:=d q54 λF=>oa F Z c yAh yCm;have yCe:=d q55 λF=>dM F Z c ;have yCb:=d q56 λF=>cf F Z c ;have yCo:=d q58 λF=>YG F Z ;have yBj:=d q59 λF=>hZ F Z c yCo;have yCj:=d q60 λF=>Zj F Z c yBj;have yCf:=d q61 λF=>bR F Z c yBj;have yCp:=d q62 λF=>Yg F Z c ;have yBr:=d q63 λF=>gY F Z c yCp;have yAk:=d q64 λF=>ud F Z c yBr yBu yCf yCj;have yBx:=d q65 λF=>fq F Z c yCo;have yBk:=d q66 λF=>jL F Z c yBx;have yBi:=d q67 λF=>kK F Z c yBk yCk;have yCg:=bJ l.prog w base X G q68 (λF b k m=>bO F Z  b k m) (λ_ _ _ _ _ _=>us2 λ_ _=>rfl);have u:=wo l.prog w mg base q70 (λF=>bn F Z c yAn) (λ_ _ _ _ _ _=>us1 λ_=>rfl);have q:=wo l.prog w mg base q73 (λF=>dR F Z c ) (λ_ _ _ _ _ _=>us1 λ_=>rfl);have yAq:=d q41 λF=>pD F Z c q;have i:=wo l.prog w mg base q74 (λF=>Zm F Z c ) (λ_ _ _ _ _ _=>us1 λ_=>rfl);have yAl:=DX q40 λF=>pJ F Z c D i;have f:=wo l.prog w mg base q75 (λF=>dN F Z c ) (λ_ _ _ _ _ _=>us1 λ_=>rfl);have yAo:=DX q43 λF=>pI F Z c f yBg yBq yAl yAq D i;have yAf:=d q44 λF=>qx F Z c f;have yAj:=d q45 λF=>tw F Z c yBn yAo yAf;have p:=wo l.prog w mg base q76 (λF=>ff F Z c ) (λ_ _ _ _ _ _=>us1 λ_=>rfl);have j:=wo l.prog w mg base q72 (λF=>ZA F Z c p yCc) (λ_ _ _ _ _ _=>us2 λ_ _=>rfl);have yBt:=d q57 λF=>gc F Z c yAv yCe yCb j yCm;have o:=wo l.prog w mg base q71 (λF=>gN F Z c j) (λ_ _ _ _ _ _=>us2 λ_ _=>rfl);rwa[UM (Xh q69) Z c yCg yAj yAk yBi yCb o yBt u yBy]
def walk{l:Ge}{q:m9}{e:List j3}{A:(j3->Option c6)->w9->Prop}{j:r9->w9->Prop}{d:DefRec}(r:l.most=O 63)(g:d.params.defaults=[])
  (y:∀(w:r9)(h:w9),j w h->AG (KK w.params) h)
  (F:∀(w:r9)(mg:j3->Option c6)(i:c7)(h:w9),AG (KK w.params) h->h.Ns mainGlobals mg->mg d.name=O (.ref i) ->
   ∃ fd:AJ,(∀(s:d7)(u:c6),FX s fd ⟨[u],[]⟩ [("_law_script",u)])/\∀ base:w9,AG (KK w.params) base->base.Ns mainGlobals mg->yQ l.prog w K mg base CX0 10 i fd ["_law_script"] (sp_law K)) :
  Je q e A j l.row.toRowW d [] (λf m=>Is f m) :=
 L2.walk_of3 (n:=63) (k:=10) (x := "_law_script") (KK:=KK) (K:=K) (sp:=sp_law K) r (by decide) g ⟨rfl,by decide,by decide,rfl⟩ y (λ_ _ X=>K_in X) (λp a o h c=>by rw[bg]; rwa[bT (F:=KF p) (by symm) h c]) F (λ_ a ns v z=>⟨a,ns,rfl,z,v,λ_=>rfl⟩)

end Sea
open PySem PySem.W PyProof.Rows
set_option maxRecDepth 100000 in
set_option maxHeartbeats 0 in
theorem PySem.Challenge.cw_seamarks_k45_choices_by_notes_holds : PySem.Challenge.rw_seamarks_k45_choices_by_notes.Holds := by
 w_on
 refine holds_law Sea.said_ok λsaid=>?_;refine holds_open (q:=Sea.qv) (loose:=Sea.lse) (XP:=XL Sea.qv []) (YP:=InK Sea.KK) Sea.left_ok (InK.of Sea.kas_ok)
  InK.keeps (λs e=>xl_of s (GE.mp e).1) XL.keeps (by rfl) (by rfl) (by rfl)
  (λs e=>recFacts_of (GE.mp e).2) (by rfl) (by assumption) (by ac_nf)
  ⟨rfl,rfl,rfl,rfl,rfl,by ac_nf⟩ ?hw ?hc
 case hw=>w_witness2
 k_fill
 erw[Sea.walk (l:=PySem.Challenge.rw_seamarks_k45_choices_by_notes) rfl rfl (λw h Y=>Y) ?F]
 case F =>
  intro w mg fa h KX G hmg
  refine' Sea.all_mk KX G hmg ?q1 ?q2 ?q3 ?q4 ?q5 ?q6 ?q7 ?q8 ?q9 ?q10 ?q11 ?q12 ?q13 ?q14 ?q15 ?q16 ?q17 ?q18 ?q19 ?q20 ?q21 ?q22 ?q23 ?q24 ?q25 ?q26 ?q27 ?q28 ?q29 ?q30 ?q31 ?q32 ?q33 ?q34 ?q35 ?q36 ?q37 ?q38 ?q39 ?q40 ?q41 ?q42 ?q43 ?q44 ?q45 ?q46 ?q47 ?q48 ?q49 ?q50 ?q51 ?q52 ?q53 ?q54 ?q55 ?q56 ?q57 ?q58 ?q59 ?q60 ?q61 ?q62 ?q63 ?q64 ?q65 ?q66 ?q67 ?q68 ?q69 ?q70 ?q71 ?q72 ?q73 ?q74 ?q75 ?q76 ?z_abs ?z_all ?z_bool ?z_dict ?z_enumerate ?z_int ?z_isinstance ?z_len ?z_list ?z_max ?z_min ?z_range ?z_sorted ?z_str ?z_sum ?z_tuple ?z_zip
  (case q70 | q71 | q72 | q73 | q74 | q75 | q76=>refine' Sea.atm_mk ⟨?b,?c,?d⟩;(case b=>rwa[rfl]);(case c=>symm);(case d=>symm))
  (case q69=>refine'⟨?_,?_,?_,?_⟩; k_is; rwa[rfl]; symm; symm)
  (case q1 | q2 | q3 | q4 | q5 | q6 | q7 | q8 | q9 | q10 | q11 | q12 | q13 | q14 | q15 | q16 | q17 | q18 | q19 | q20 | q21 | q22 | q23 | q24 | q25 | q26 | q27 | q28 | q29 | q30 | q31 | q32 | q33 | q34 | q35 | q36 | q37 | q38 | q39 | q40 | q41 | q42 | q43 | q44 | q45 | q46 | q47 | q48 | q49 | q50 | q51 | q52 | q53 | q54 | q55 | q56 | q57 | q58 | q59 | q60 | q61 | q62 | q63 | q64 | q65 | q66 | q67 | q68=>refine' Sea.at_mk ⟨?a,?b,?c,?d⟩;(case a=>k_is);(case b=>rwa[rfl]);(case c=>symm);(case d=>symm))
  (case z_abs | z_all | z_bool | z_dict | z_enumerate | z_int | z_isinstance | z_len | z_list | z_max | z_min | z_range | z_sorted | z_str | z_sum | z_tuple | z_zip=>k_is)
