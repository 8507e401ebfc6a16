import PyProof.Rows.All
import KE.KDictOf
import KE.KItemsList
import KE.KRevSl
import KE.KSortTup
import PySem.Challenge.RW_seamarks_k43_whole_struck_as_never_come
set_option compiler.extract_closed false
set_option Elab.async false
set_option linter.all false
set_option maxRecDepth 100000
set_option maxHeartbeats 4000000
theorem nabs{a:Int}{n:Nat} : a.natAbs<=n↔-(n:Int)<=a/\a<=n:=by omega
local macro_rules | `(tactic| lia) => `(tactic| first | (simp only [nabs] at *; lia (config := {})) | lia (config := {}) | omega)
local macro_rules | `(tactic| exists $es,*) => `(tactic| refine ⟨$es,*, ?_⟩)
open List renaming length_map->b5,getElem?_eq_getElem->b8,getElem?_eq_some_iff->c6,getElem?_map->c7,map_append->d5,mem_singleton->e9,mem_of_getElem?->f7,length_append->f8,length_cons->f9,size_toArray->g6,length_take->g8,mem_map->g9,map_cons->i4,take_length->i8,mem_append->i9,mem_cons->j5,append_assoc->l9,take_succ->o3,mem_cons_self->o4,getElem_mem->r9,mem_map_of_mem->t5,mem_append_right->t7,mem_cons_of_mem->v9,getElem?_append_right->x9,length->z9,lookup_cons->Ac,mem_filter->Af,map_map->Ag,length_drop->Ai,mem_of_mem_take->Aj,getD_eq_getElem?_getD->An,length_nil->Ao,toArray->Ap,getElem?_append_left->Aq,length_singleton->As,length_filter_le->At,take_of_length_le->Ax,range->Ay,lookup->Az,mem_of_mem_drop->AF,all_eq_true->AG,take_append_drop->AH,append_nil->AJ,getElem_of_mem->AO,find?_cons->AQ,filter_cons_of_pos->AU,drop_eq_getElem_cons->AV,getElem_map->Bc,getElem?_eq_none->Be,perm_append_comm->Bf,mem_append_left->Bg,pairwise_cons->Bs,getElem?_take->Bu,not_mem_nil->Bv,filter_cons_of_neg->By,length_eq_zero_iff->Bz,pairwise_map->BE,filterMap_cons->BG,extract_eq_take_drop->BL,filter_cons->BO,mem_range->BV,map_take->Cg,nodup_iff_pairwise_ne->Cp,filter_append->Cr,length_replicate->Cs,any_cons->CG,replicate->CN,pairwise_singleton->CP,map_drop->C6,ext_getElem?->Db,pairwise_iff_getElem->Dr,map_congr_left->Dy,sublist_append_left->DF,nodup_cons->DG,mem_filterMap->DI,find?_eq_none->DN,getElem?_set_self->DS,nodup_append->DV,reverse_perm->DY,all_map->DZ,length_range->D3,take_succ_eq_append_getElem->D5,any_eq_true->Ed,all_cons->Eg,exists_mem_of_length_pos->Eo,range_succ->Et,filter_nil->Ew,map_nil->ED,zip_cons_cons->EQ,takeWhile_cons_of_pos->EV,takeWhile_cons_of_neg->EW,dropWhile_cons_of_pos->EX,dropWhile_cons_of_neg->EY,perm_cons->EZ,perm_append_singleton->Fa,drop_zero->Fb,perm_ext_iff_of_nodup->Fh,mem_or_eq_of_mem_set->Fm,take_sublist->Ft,foldl_append->Fu,filter_congr->FA,getElem?_take_of_lt->FF,getElem?_replicate->FM,perm_middle->FO,cons_append->FP,zipIdx_cons->FS,map_snd_zip->FV,ext_getElem->FX,mem_flatMap->FZ,mem_flatten->F0,length_pos_of_mem->F9,drop_of_length_le->Ga,of_mem_zip->Gh,length_set->Gj,length_zip->Gn,set_append_right->Gu,getElem?_toArray->Gv,filterMap_append->Gx,getElem?_set_ne->Gz,getElem_toArray->GF,pairwise_append->GG,nodup_nil->GH,replicate_succ'->GK,filter->GO,perm_singleton->GU,length_reverse->GW,flatMap_append->GX,flatten_append->GY,sum_cons->G1,zip_nil_right->G8,take_add_one->Hs,mapM_toArray->Hu,flatten_cons->HC,reverse_cons->HD,getElem_inj->HM,nil_sublist->Ih,nil_perm->Jt,perm_nil->Ju,all_nil->JT,map_id->J4
open PySem.W renaming Frag->b6,mg_none_of->AC,mg_of->AK,fnOf->AN,keepIn->AT,findIn->Bh,nsIn->Bk,emptyDict->Bo,instObj->B8,codeIn->Dg,callWith_K->DJ,plainGet->Eb,plainGet_of->Ex,callWith_K0->Ey,lookIn->EO,methodObj->Fo,hasDictIn->Fq,cellsFrom_some->F6,hideAll->Gf,takerIn->Gg,OpenLaw->Gk,methodCall_KW->Gw,hideAll_get->GQ,of_hideAll->G4,isFn->Hj,plainOver->Hk,specialIn->Hl,handedIn->HP,kdl_call->HZ,makesIn->Ip,WalkO->Jv,SharedT->JF
open PySem renaming wpAny_bind->b7,Addr->b9,Value->c5,Shared->c8,wpAny_pure->d9,Str->j4,Program->j9,World->o9,Around->Ad,Heap->Ae,Stmt->Ar,wpAny_newObj_type->AA,Expr->AD,FuncData->AZ,wpAny_call_entry->Ba,wpAny_mono->BC,Obj->BP,wpAny_holding->BR,wpAny_typeNameOfWhole_keyiter->BX,wpAny_callSpecial?_slot->BZ,wpAny_ite_split->B9,mem_of_lookup->Ca,wpAny_Call_Name_kw->Cm,wpAny_passesOwn->Cu,Builtin->Cw,wpAny_truthy_bool->Cy,wpAny_typeNameOf_keyiter->CH,intKind->CI,wpAny_getItem_str_slice->CQ,Params->CT,DictEntry->C4,wpAny_pyIter_list->Da,NameKind->Df,wpAny_fieldsOf->Di,wpAny_setField->Dj,OsState->Dk,wpAny_askSetting->Do,wpAny_attempt->DB,wpAny_field->DQ,Scope->DR,wpAny_setState_of->D4,wpAny_isOneOf_keyiter->D7,ofString_length->D9,Pos->Ea,wpAny_newList->Eh,wpAny_execs_nil->Ep,wpAny_setEntries_of->Ez,Env->EM,Sem->Fi,Keyword->Fs,wpAny_pyIter_slot->Fw,wpAny_dictEntries->Fx,wpAny_getItem_list_slice->FG,wpAny_comprehension_free->FH,wpAny_eqBool_int->FL,wpAny_isInstance->FQ,wpAny_rule->F3,BindsTo->F5,wpAny_dictEpoch->Gi,wpAny_isTrue_Compare1->Gp,wpAny_newFunctionEnv->GE,wpAny_pyIter_keyiter->GI,evalArgs_none->GR,wpAny_standAt->GZ,wpAny_call->G7,IsPart->G9,wpAny_setField_rec->Hf,Within->Hh,Model->Hi,wpAny_Call_method->Hx,Paired->HK,wpAny_execs_cons->HN,wpAny_getItem_of->HW,wpAny_Dict_empty->HX,wpAny_of_eq->Io,wpAny_loadPart'->Iq,wpAny_specialOf->Iw,GenState->ID,wpAny_Name->IE,CmpOp->IF,call->IJ,Tok->Je,Fin->Kg
open PySem.Heap renaming get?_push_of_some->c9,lt_size->i5,get?_push_size->i7,get?_update_other->AY,SameBut->BQ,size_push->BW,get?_update_self->C8,get?_none_of_le->Ei,get?_update_ne->GT,MadeExcOf->IN,ExtBut->J2
open Nat renaming le_refl->f6,le_trans->g7,ne_of_lt->m7,lt_of_lt_of_le->n9,zero_le->t9,gcd->Ab,lt_of_le_of_lt->Am,le_succ->Bi,not_lt_zero->Bj,le_of_lt->Bq,lt_irrefl->BB,lt_succ_self->Ck,add_le_add_left->Dv,lt_of_le_of_ne->DL,ne_of_gt->DT,lt_succ_of_lt->DW,le_max_right->Ee,min_eq_left->Eu,le_of_eq->EC,sub_self->EG,zero_add->EH,add_le_add->Fg,dvd_mul_left->FR,le_add_right->FT,mul_le_mul_right->GL,add_le_add_right->GM,le_of_dvd->G0,eq_zero_or_pos->Hd,gcd_zero_right->Hg,gcd_zero_left->Ho,pow_succ->Hq,sub_zero->Ht,le_succ_of_le->Hv,lt_or_ge->HA,le_of_not_lt->HS,succ_ne_self->HV,gcd_mul_left->Ia,dvd_gcd->Il,mul_le_mul->IK,dvd_trans->Jr,mul_assoc->Js,mul_comm->JI,gcd_comm->JJ,lt_trans->JK,succ_sub->JN,add_zero->JP,min_self->JR,mul_one->JZ,log2_lt->J0
open Int renaming toNat_natCast->j3,mul_comm->o0,mul_right_comm->o5,le_of_lt->v8,mul_nonneg->z7,zero_mul->z8,emod_lt_of_pos->Ah,mul_left_comm->Au,zero_add->Aw,emod_nonneg->AB,add_mul->AE,mul_assoc->AI,neg_mul->AM,mul_sub->BH,mul_neg_of_neg_of_pos->BJ,natAbs_ediv_le_natAbs->BM,mul_le_mul_of_nonneg_right->BN,le_trans->BU,mul_pos->BY,toNat_of_nonneg->Cd,mul_neg->Cf,le_refl->Ci,natAbs_mul->Cn,natCast_nonneg->Co,mul_eq_zero->Cv,eq_ofNat_of_zero_le->CO,mul_add->CS,mul_zero->CY,mul_ne_zero->C3,eq_of_mul_eq_mul_right->Dh,le_of_eq->Dm,natAbs_mul_self->Dw,mul_nonneg_of_nonpos_of_nonpos->DO,mul_lt_mul_of_pos_right->EF,ediv_pos_of_pos_of_dvd->ES,lt_of_mul_lt_mul_right->EU,lt_of_le_of_lt->E1,mul_pos_of_neg_of_neg->Fk,mul_neg_of_pos_of_neg->Fl,mul_one->Fp,sub_mul->Fy,natAbs_add_le->FC,toNat->FY,not_lt->Gb,natAbs_neg->GD,ofNat->Ig,neg_neg->Im,le_antisymm->Iv,sub_self->JL,add_zero->JM,ofNat_le->JO,le_total->JQ
open Array renaming length_toList->j7,getElem?_eq_getElem->t6,toList_append->Aa,getElem?_toList->AL,getElem_toList->Bx,getElem?_eq_some_iff->Cq,toList_extract->Cz,toList_push->CA,getElem?_eq_none->CW,toArray_toList->El,toList_reverse->Em,toList_setIfInBounds->Fc,size_extract->Fd,toList_inj->FU,mem_toList_iff->GA,getElem_map->Hw,toList_map->Ic,toList_zip->Ie,size_map->IM,toList->JG
open Option renaming map_eq_some_iff->j8,isSome_iff_exists->m9,map_some->AR,isSome_map->Dc,map_eq_none_iff->Gd,some->GN,getD_none->HR,getD_some->Ii,none->JY
open Bool renaming false_ne_true->l5,and_eq_true->Bb,false_eq_true->Bt,eq_iff_iff->C0,eq_false_iff->Fv,and_eq_true_iff->GP,false_and->IG,and_false->II,and_true->Jx
open PySem.PassesOwn renaming never->m8,leaving->HH
open PySem.Value renaming ref->r6,none->AW,int->Cj,str->DP,bool->F1,type->F2,bytes->Ij,float->Ik,isStrOf->Jd,isInt->JW
open PyProof.Rows renaming SortSt->t8,Keyed->Ak,SortKind->Bw,slot_tuple_getitem->CJ,IntsAre->CK,plainGoodE->CL,plainGoodD->CM,drecsOf->Dd,AllBare->EA,callWith_type1->EB,Subscript_->Ha,callWith_builtin1->HQ,expectedOf->Jy,sortedS->J3,lt_int->J5,OwnCls->J7
open Option.some renaming inj->x6,injEq->CD
open True renaming intro->x8
open List.Perm renaming append_left->Al,trans->Es,refl->ET,of_eq->Ix
open PySem.NameKind renaming free->Av,cell->C5
open PySem.W.Frag renaming In->AS
open PySem.Obj renaming mapSeq->AX,mapFields->Ch,data_mapFields->CV,isFreed_of_fields->D8,cls_mapFields->Hr
open False renaming elim->Bm
open PySem.F renaming slot_dict_keyiterator_next->Br,plainAttrs_list->B7,called_set->CZ,slot_dict_getitem->Dq,slot_list_extend->DD,type_list_extend->DE,slot_tuple_lt->D6,args_dict_keyiterator_next_1->Ec,entry_dict_keyiterator_next->Ek,excBase_ValueError->Ff,slot_dict_delitem->Fj,args_tuple_lt_2->FN,entry_tuple_lt->F8,slot_dict_pop->Gq,slot_set_iter->Gy,slot_dict_items->Hy,slot_dict_iter->HY,plain_set_new->IB
open Ne renaming symm->BA
open Or renaming inl->BD,inr->HU
open PySem.SetTable renaming below->BF,toList_insertAt->DC,insertAt->HF
open ForInStep renaming yield->BI
open PyProof.Rows.F renaming plain_set_update_loop->Cc,entry_set_update_loop->Dz
open PySem.Builtin.Str renaming strSliceIndices->Ce,glued->Fz
open PySem.Builtin.Slice renaming slicePlaces->Ct,sliceAdjust->Dp,sliceApplied->ER,slicePartIndex->Ir,sliceFields->Jb
open PySem.Builtin.Tuple renaming tupleExact->CF,tupleCompareSizes->HI,tupleItemsOf->IH
open PySem.Str renaming ofString->CU,join->FW,empty->JB
open PySem.World renaming withFollow_self->C7
open PySem.W.Fast renaming te14364793385576792824->C9,te2368527892694137696->De,te5923862056798008813->EL
open Sum renaming inl->Dl,inr->Ef
open PySem.Txt renaming slice->Dn,slice_le->Gc
open PySem.Calls renaming call_function_entry->Du,callWith_builtin->DU,evalArgs_plain->Ej,Name_function_global->EN,Constant_str->G5,spliced_cons->G6,spliced_nil->Hn
open PySem.Heap.SameBut renaming update->Dx,trans->Kb,refl->Ke
open PySem.Builtin.List renaming listTooLong->DA,listLengthHint->EJ
open PySem.SeqAt.EqAt renaming int_int->DK,of_refs->DM,int_str->G2,str_int->G3,str_str->Hc,same->Iu
open PySem.Around renaming under_plainId->En,under->F4
open PySem.Builtin.Dict_items renaming ownsTuple->Er
open PySem.PyData renaming shownAll->Ev,keyHash->EK,showableAll->Fe,hasDictAll->FD,showable->Gm,hasDict->GJ,shown->HE
open PySem.StrLaws renaming glued_eq_join->EI,joinTotal->JC
open PySem.Paired renaming length->FE,snoc->J1
open PySem.SeqAt.RcAt renaming lists_lengths->FI,lists->Ib
open List.cons renaming inj->FJ,injEq->Iz
open List.Pairwise renaming imp_of_mem->FK,sublist->JU,nil->Kd
open PySem.SeqAt renaming EqAt->F7
open Decidable renaming em->Ge
open Classical renaming choose_spec->Go,choose->HJ
open PySem.Builtin.Dict renaming showsAll->Gr,dictSlotNone->Jc
open Prod renaming ext->GC
open PySem.Builtin.Int renaming intBits->GS
open PySem.EntryCells renaming newEntry->GV
open PySem.Heap.IsSliceOf renaming new->Hb
open PySem.SeqAt.RcNeAt renaming lists->He,lists_lengths->IP,tuples->J6
open PySem.Code renaming isFrame->Hm,isGuard->JH,frames->JX
open List.Sublist renaming refl->HG,append->J8
open StateT renaming run_pure->Iy
open PySem.W.KasT renaming kasWp_bind->IA
open PySem.Builtin.Frozenset renaming updateFrom->IC,newClass->IQ,sizeOf->Jw,slot0->JE
open PySem.Walks renaming list->IL
open PySem.EqNone renaming eq_none_none->IR,eq_none_bool->IS,eq_bool_none->IT,ne_none_none->IW,ne_none_bool->IX,ne_bool_none->IY,eq_none_int->Jf,eq_none_str->Jg,eq_int_none->Jh,eq_str_none->Jj,ne_none_int->Jl,ne_none_str->Jm,ne_int_none->Jn,ne_str_none->Jp
open PySem.EqMixed renaming eq_bool_str->IU,eq_str_bool->IV,ne_bool_str->IZ,ne_str_bool->Ja,eq_int_str->Ji,eq_str_int->Jk,ne_int_str->Jo,ne_str_int->Jq
open PyProof.Rows.IsTup renaming new->Jz
open PySem.Builtin.Range renaming rangeSize->JA
open PySem.Heap.UpToSlots renaming of_keeps->JD
open PySem.pickOrder renaming go->JS
open PySem.W.SharedT renaming abs->JV
open PySem.W.Looks renaming here->J9
open PySem.W.WShape renaming has->Ka
open PySem.Within renaming cons->Kc
open PySem.W.WData renaming int->Kf
open Option renaming some->Kh,none->Ki
open Bool renaming true->Kj,false->Kk
local macro_rules | `(tactic| rwa [$e:term]) => `(tactic| exact $e)
local macro_rules | `(tactic| rwa [$e:term, $[$es:term],*]) => `(tactic| exact ⟨$e, $es,*⟩)
local macro_rules | `(tactic| erw [$e:term]) => `(tactic| refine $e)
local macro_rules | `(tactic| erw [$e:term, $[$es:term],*]) => `(tactic| refine ⟨$e, $es,*⟩)
theorem U{α:Sort _}{a:α}:a=a:=rfl
namespace L2
open PySem
def uG(s:Ar):Arguments:=match s with
 | .FunctionDef _ a _ _ _ _ _ _ _ _=>a
 | _=>{ posonlyargs:=[],args:=[],vararg:=Ki,kwonlyargs:=[],kw_defaults:=[],kwarg:=Ki,defaults:=[] }
def wE(s:Ar):List Ar:=match s with
 | .FunctionDef _ _ b _ _ _ _ _ _ _=>b
 | _=>[]
def zF(s:Ar):DR:=match s with
 | .FunctionDef _ _ _ _ _ _ c _ _ _=>c
 | _=>{ kind:=.function,names:=[],isGenerator:=Kk,isCoroutine:=Kk }
def rV(s:Ar)(j:Nat):Ar:=match s with
 | .ClassDef _ _ _ body _ _ _ _ _ _ _=>body.getD j (.Pass ⟨0,0,0,0⟩)
 | _=>.Pass ⟨0,0,0,0⟩
end L2
namespace PySem.W
open PySem
noncomputable def hJ(e:String->Option Cw)(p:j9)(w:o9)(c:Nat)(d:Option c5):Nat->JF->Thread->Option JF
 | 0,_,_=>Ki
 | n+1,s,t=>match through t with
  | true=>Kh s
  | false=>match Fast.tw6613529449190102663 c d t with
   | false=>Ki
   | true=>match Fast.tw10156331382660048174 (Fast.tw11892475500146522536 e) p w s t with
    | some (g,f)=>hJ e p w c d n g f
    | none=>Ki
def fS{e:String->Option Cw}{c:Nat} : ∀{n:Nat}{s f:JF}{t:Thread},hJ e p w c d n s t=Kh f->topRun e p w c d n s.abs t=Kh f.abs
 | 0,_,_,_,h=>by cases h
 | n+1,s,f,t,h=>by
  unfold hJ at h;rw[<- Fast.te6613529449190102663,<- Fast.te10156331382660048174,<- Fast.te11892475500146522536] at h;unfold topRun;cases m:through t with
  | true=>rw[m] at h; cases h; rfl
  | false =>
   rw[m] at h;cases l:stepOk c d t with
   | false=>rw[l] at h; cases h
   | true =>
    rw[l] at h;cases g:stepT (denote e) p w s t with
    | none=>rw[g] at h; cases h
    | some r=>obtain⟨j,i⟩:=r; rw[g] at h; rw[stepT_spec g]; rwa[fS h]
noncomputable def SV(P:CT):BT:=((boot_heap P).objs.toList.zipIdx).foldl (λt x=>t.ins x.2 x.1) .nil
def Vy(P:CT):absHeap (SV P) 11 (boot_heap P).life=boot_heap P:=by kernel_rfl
def Xd(P:CT):((boot_heap P).isNs mainGlobals,(boot_heap P).objs.size,(boot_heap P).nsMap mainGlobals "__annotations__")=(Kj,11,Kh (.ref 6)):=by kernel_rfl
noncomputable abbrev Os(c:String->Option Cw)(p:j9)(N:Nat)(w:o9)(os:Dk):Option JF:=hJ c p w 11 (Kh (.ref 6)) N ⟨SV w.params,11,(boot_heap w.params).life,#[],boot_drawn,boot_toks,os⟩ (topStub p)
def iu{e d c:Type}{x:Option e}{f:e->d×c}{a:d}{b:c}(h1:x.map (λs=>(f s).1)=Kh a)(h2:x.map (λs=>(f s).2)=Kh b):x.map f=Kh (a,b):=by
 cases x with
 | none=>cases h1
 | some s =>
  injection h1 with h1
  injection h2 with h2
  subst h1 h2;rfl
def UH{e A B C D:Type}{x:Option e}{f:e->A×B×C×D}{a:A}{b:B}{c:C}{d:D}(h1:x.map (λs=>((f s).1,(f s).2.1,(f s).2.2.1))=Kh (a,b,c))(h2:x.map (λs=>(f s).2.2.2)=Kh d):x.map f=Kh (a,b,c,d):=by
 cases x with
 | none=>cases h1
 | some s =>
  cases h1;cases h2;rfl
def ke{d c e:Type}{x:Option d}{f:d->c}{b:c}(h:x.map f=Kh b)(g:c->e):x.map (λs=>g (f s))=Kh (g b):=by
 cases x with
 | none=>cases h
 | some s =>
  cases h;rfl
def Xk{p q:j9}{c:List j4}{l:c8->Bool}{g:Type}{i:c8->g}{j:o9->g}{N:Nat}
  (f:∀ w:o9,(fencedOpening treeTable p w N).map (λs=>(s.heap,s.gens,s.drawn,s.toks))=Kh (boot_heap w.params,Array.mk [],boot_drawn,boot_toks))
  (h1:∀ w os,(Os treeTable p N w os).map (λs=>(staticsOk (importedModules p.main.body) (boot_heap w.params) s.abs.heap&&namesBound p s.abs.heap&&gensDone s.abs&&laidKept (boot_heap w.params) s.abs.heap))=Kh Kj)
  (h2:∀ w os,(Os treeTable p N w os).map (λs=>openSeen q c (importedModules p.main.body) l Kj s.abs)=Kh (openGood q c))
  (h3:∀ w os,(Os treeTable p N w os).map (λs=>i s.abs)=Kh (j w)):LeftO p q c l i j N:=λw=>by
 obtain⟨⟨h,z,d,k,os⟩,e,A⟩:=j8.mp (f w);obtain⟨rfl,rfl,rfl,rfl⟩:h=boot_heap w.params/\z = #[]/\d=boot_drawn/\k=boot_toks:=by simpa using A
 obtain⟨o,n,m⟩ : _/\_/\_:=by simpa only[Prod.mk.injEq] using Xd w.params
 obtain⟨s,r1,y⟩:=j8.mp (h1 w os);obtain⟨B,r2,x⟩:=j8.mp (h2 w os);obtain⟨u,r3,v⟩:=j8.mp (h3 w os);rw[r1] at r2 r3;cases r2;cases r3;have r:=fS r1;rw[show JV ⟨SV w.params,11,(boot_heap w.params).life,#[],boot_drawn,boot_toks,os⟩=⟨boot_heap w.params,#[],boot_drawn,boot_toks,os⟩ from by unfold JV; rw[Vy]] at r;have t:topFrom treeTable p w N ⟨boot_heap w.params,#[],boot_drawn,boot_toks,os⟩=Kh s.abs:=by
  unfold topFrom;dsimp only;rw[o,n,m,r];show(match staticsOk (importedModules p.main.body) (boot_heap w.params) s.abs.heap&&namesBound p s.abs.heap&&gensDone s.abs&&laidKept (boot_heap w.params) s.abs.heap with | true=>_ | false=>_)=_;rw[y]
 unfold openEnds;rw[e];show(topFrom treeTable p w N _).map _=_;rw[t];show Kh (_,_)=_;rw[x,v]
end PySem.W
namespace Sea
open PySem L2
def top(i:Nat):Stmt:=PySem.Challenge.pw_seamarks_k43_whole_struck_as_never_come.main.body.getD i (.Pass ⟨0,0,0,0⟩)
abbrev wF:Ar:=top 2
abbrev ww:Ar:=top 3
abbrev qX:Ar:=top 4
abbrev nW:Ar:=top 5
abbrev uu:Ar:=top 6
abbrev xg:Ar:=top 7
abbrev tH:Ar:=top 8
abbrev nC:Ar:=top 10
abbrev si:Ar:=top 11
abbrev vW:Ar:=top 12
abbrev xj:Ar:=top 13
abbrev rj:Ar:=top 14
abbrev rB:Ar:=top 15
abbrev wn:Ar:=top 16
abbrev wN:Ar:=top 17
abbrev tE:Ar:=top 18
abbrev rF:Ar:=top 20
abbrev nR:Ar:=top 21
abbrev rE:Ar:=top 22
abbrev tX:Ar:=top 23
abbrev wX:Ar:=top 24
abbrev wk:Ar:=top 25
abbrev zz:Ar:=top 26
abbrev nX:Ar:=top 28
abbrev qZ:Ar:=top 29
abbrev wA:Ar:=top 30
abbrev qz:Ar:=top 31
abbrev uN:Ar:=top 59
abbrev qR:Ar:=top 60
abbrev qV:Ar:=top 61
abbrev wg:Ar:=top 62
abbrev tF:Ar:=top 63
abbrev vT:Ar:=top 64
abbrev uP:Ar:=top 65
abbrev tS:Ar:=top 66
abbrev vR:Ar:=top 67
abbrev vZ:Ar:=top 68
abbrev uA:Ar:=top 69
abbrev tV:Ar:=top 70
abbrev uT:Ar:=top 71
abbrev vQ:Ar:=top 72
abbrev vP:Ar:=top 77
abbrev tD:Ar:=top 79
abbrev wI:Ar:=top 80
abbrev uS:Ar:=top 81
abbrev uD:Ar:=top 82
abbrev um:Ar:=top 84
abbrev qT:Ar:=top 88
abbrev wG:Ar:=top 89
abbrev wT:Ar:=top 90
abbrev qS:Ar:=top 91
abbrev uQ:Ar:=top 93
abbrev uZ:Ar:=top 94
abbrev rL:Ar:=top 95
abbrev vA:Ar:=top 96
abbrev vX:Ar:=top 97
abbrev uE:Ar:=top 98
abbrev wY:Ar:=top 99
abbrev vB:Ar:=top 100
abbrev vV:Ar:=top 101
abbrev uC:Ar:=top 102
abbrev re:Ar:=top 104
abbrev rm:Ar:=top 105
abbrev iO:Ar:=top 106
abbrev nT:Ar:=top 107
abbrev iS:Ar:=top 108
abbrev wf:Ar:=top 109
abbrev tU:Ar:=top 110
abbrev uF:Ar:=top 111
abbrev vU:Ar:=top 112
abbrev uj:Ar:=top 113
abbrev cK:Ar:=top 114
abbrev nV:Ar:=rV (top 86) 0
abbrev xi:Ar:=rV (top 86) 10
abbrev nM:Ar:=rV (top 86) 11
abbrev nO:Ar:=rV (top 86) 12
abbrev nF:Ar:=rV (top 86) 13
abbrev nJ:Ar:=rV (top 86) 14
abbrev sr:Ar:=rV (top 86) 18
abbrev ng:Ar:=rV (top 86) 20
abbrev sy:Ar:=rV (top 86) 21
abbrev wt:Ar:=rV (top 86) 22
noncomputable def qv:Program:={ PySem.Challenge.pw_seamarks_k43_whole_struck_as_never_come with main:={ PySem.Challenge.pw_seamarks_k43_whole_struck_as_never_come.main with body:=[top 2,top 3,top 4,top 5,top 6,top 7,top 8,top 10,top 11,top 12,top 13,top 14,top 15,top 16,top 17,top 18,top 20,top 21,top 22,top 23,top 24,top 25,top 26,top 28,top 29,top 30,top 31,top 59,top 60,top 61,top 62,top 63,top 64,top 65,top 66,top 67,top 68,top 69,top 70,top 71,top 72,top 77,top 79,top 80,top 81,top 82,top 84,top 88,top 89,top 90,top 91,top 93,top 94,top 95,top 96,top 97,top 98,top 99,top 100,top 101,top 102,top 104,top 105,top 106,top 107,top 108,top 109,top 110,top 111,top 112,top 113,top 114] } }
def lse:List j4:=("_wall" : j4)::("stretch_way" : j4)::("all_left_of" : j4)::("is_bank" : j4)::("MarkError" : j4)::("BadName" : j4)::("Taken" : j4)::("BadPlace" : j4)::("Full" : j4)::("NoMark" : j4)::("Same" : j4)::("Needed" : j4)::("BadBank" : j4)::("NoBank" : j4)::("BadRun" : j4)::("NoRun" : j4)::("NoMoment" : j4)::("BadWay" : j4)::("BadTurn" : j4)::("NoNote" : j4)::("NothingLeft" : j4)::("MOST" : j4)::("LONGEST_NAME" : j4)::("FARTHEST" : j4)::("LONGEST_WAY" : j4)::("after_move" : j4)::("after_unmark" : j4)::("after_bank" : j4)::("after_level" : j4)::("after_right" : j4)::("AFTER" : j4)::("Book" : j4)::[]
noncomputable def kd(P:CT)(x:j4)(t:Nat)(v:c5):C4:=⟨EK P x,.str x t,v⟩
noncomputable def kc(l:List c5):BP:=⟨.type "code",Ki,.fields (Ap l),Ap []⟩
noncomputable def kq(x:j4)(a:Nat)(l g:Int)(r:Nat)(u v w y z:c5)(h:Int)(b:Nat):BP:=kc [.str x a,.str x (a+1),.str "/claim/cut.py" (a+2),.int l 0,.int g 0,.int 0 0,.int 0 0,.int 3 0,.ref r,.bool Kj,.int 181 0,u,v,w,y,z,.int h 0,.int l 0,.str "/claim/cut.py" b]
noncomputable abbrev kf(x:j4)(s:Ar)(kV c pm d ct:c5):BP:=⟨.type "function",Ki,.func (AN x x (uG s) (wE s) (zF s) .none kV c pm Ki d ct),Ap []⟩
noncomputable abbrev kg(x:j4)(s:Ar)(m:j4)(t c:Nat):BP:=kf x s .none .none (.str m t) (.ref c) .none
noncomputable abbrev kf2(x q:j4)(s:Ar)(kV c pm d ct:c5):BP:=⟨.type "function",Ki,.func (AN x q (uG s) (wE s) (zF s) .none kV c pm Ki d ct),Ap []⟩
noncomputable def kn(n:Nat)(o:BP)(T:b6):b6:=(n,o)::T
noncomputable def kp(r a:Nat)(l g:Int)(h:Nat)(x:j4)(s:Ar)(m:c5)(T:b6):b6:=(r+5,kq x a l g r (.ref (r+1)) .none (.ref (r+2)) (.ref (r+3)) (.ref (r+4)) h (h+1))::(r+6,kf x s .none .none m (.ref (r+5)) .none)::T
noncomputable def km(r a:Nat)(l g:Int)(h:Nat)(x q:j4)(s:Ar)(m:c5)(T:b6):b6:=(r+5,kc [.str x a,.str q (a+1),.str "/claim/cut.py" (a+2),.int l 0,.int g 0,.int 0 0,.int 0 0,.int 3 0,.ref r,.bool Kj,.int 181 0,.ref (r+1),.none,.ref (r+2),.ref (r+3),.ref (r+4),.int h 0,.int l 0,.str "/claim/cut.py" (h+1)])::(r+6,kf2 x q s .none .none m (.ref (r+5)) .none)::T
noncomputable def kx(n:Nat)(x:j4)(e a p:Nat)(T:b6):b6:=(n+1,⟨.type "type",Ki,.cls ⟨x,[.ref p],[.ref (n+1),.ref p,.type "ValueError",.type "Exception",.type "BaseException",.type "object"],n,x,Kj,[],[],Kk,Ki,Kk⟩,Ap [Kh (.ref e),Ki,Kh (.str x a),Kh (.str x (a+8)),Kh (.builtin "ValueError.__new__"),Kh (.bool Kj)]⟩)::T
noncomputable def ky(P:CT)(n a:Nat)(l:Int)(m:c5)(T:b6):b6:=(n+1,⟨.type "dict",Ki,.dict (Ap [kd P "__module__" a m,kd P "__firstlineno__" (a+4) (.int l (a+3)),kd P "__static_attributes__" (a+5) (.ref n),kd P "__doc__" (a+6) .none]) 2,Ap []⟩)::T
noncomputable def kNs(P:CT):BP:=⟨.type "dict",Ki,.dict (Ap (kd P "__name__" 165 (.str "law_seamarks_k43_whole_struck_as_never_come" 1319)::kd P "__doc__" 166 .none::kd P "__package__" 167 .none::kd P "__loader__" 168 (.builtin "__main__.__loader__#opaque")::kd P "__spec__" 169 .none::kd P "__annotations__" 170 (.ref 6)::kd P "__builtins__" 171 (.ref 4)::kd P "__file__" 173 (.str "/claim/cut.py" 172)::kd P "__cached__" 174 .none::kd P "_wall" 193 (.ref 21)::kd P "common_factor" 206 (.ref 28)::kd P "lowest" 212 (.ref 33)::kd P "upright" 218 (.ref 38)::kd P "spot" 227 (.ref 45)::kd P "ahead" 236 (.ref 52)::kd P "merged" 247 (.ref 59)::kd P "in_order" 255 (.ref 66)::kd P "turn" 265 (.ref 73)::kd P "along" 273 (.ref 80)::kd P "plain_side" 280 (.ref 87)::kd P "beyond" 288 (.ref 94)::kd P "holds" 296 (.ref 101)::kd P "crossing" 307 (.ref 108)::kd P "pushed" 316 (.ref 115)::kd P "bearing_sides" 327 (.ref 122)::kd P "range_side" 335 (.ref 129)::kd P "in_water" 346 (.ref 136)::kd P "foot" 353 (.ref 143)::kd P "edge_end" 366 (.ref 150)::kd P "edge_ends" 372 (.ref 155)::kd P "spot_on_edge" 381 (.ref 162)::kd P "sought" 390 (.ref 169)::kd P "corners" 400 (.ref 176)::kd P "span" 409 (.ref 183)::kd P "weighed" 415 (.ref 188)::kd P "clash_of_three" 428 (.ref 195)::kd P "clash" 439 (.ref 202)::kd P "stretch_way" 449 (.ref 209)::kd P "all_left_of" 461 (.ref 216)::kd P "is_bank" 467 (.ref 221)::kd P "MarkError" 487 (.ref 231)::kd P "BadName" 503 (.ref 244)::kd P "Taken" 519 (.ref 256)::kd P "BadPlace" 535 (.ref 268)::kd P "Full" 551 (.ref 280)::kd P "NoMark" 567 (.ref 292)::kd P "Same" 583 (.ref 304)::kd P "Needed" 599 (.ref 316)::kd P "BadBank" 615 (.ref 328)::kd P "NoBank" 631 (.ref 340)::kd P "BadRun" 647 (.ref 352)::kd P "NoRun" 663 (.ref 364)::kd P "NoMoment" 679 (.ref 376)::kd P "BadWay" 695 (.ref 388)::kd P "BadTurn" 711 (.ref 400)::kd P "NoNote" 727 (.ref 412)::kd P "NothingLeft" 743 (.ref 424)::kd P "MOST" 758 (.ref 427)::kd P "LONGEST_NAME" 760 (.int 8 759)::kd P "FARTHEST" 762 (.int 1000 761)::kd P "LONGEST_WAY" 764 (.int 100 763)::kd P "nothing_yet" 770 (.ref 434)::kd P "changed" 781 (.ref 441)::kd P "without" 791 (.ref 448)::kd P "within" 797 (.ref 453)::kd P "check_name" 803 (.ref 458)::kd P "check_free" 812 (.ref 465)::kd P "check_place" 819 (.ref 472)::kd P "check_run" 826 (.ref 479)::kd P "check_room" 834 (.ref 486)::kd P "check_mark" 842 (.ref 493)::kd P "check_moment" 850 (.ref 500)::kd P "check_way" 857 (.ref 507)::kd P "check_apart" 866 (.ref 514)::kd P "after_mark" 876 (.ref 521)::kd P "after_move" 887 (.ref 528)::kd P "after_unmark" 897 (.ref 535)::kd P "after_bank" 908 (.ref 542)::kd P "after_level" 917 (.ref 549)::kd P "after_sail" 926 (.ref 556)::kd P "after_right" 936 (.ref 563)::kd P "after_note" 945 (.ref 570)::kd P "after_bearing" 953 (.ref 577)::kd P "after_range" 961 (.ref 584)::kd P "after_strike" 970 (.ref 591)::kd P "AFTER" 991 (.ref 592)::kd P "after" 999 (.ref 599)::kd P "Book" 1212 (.ref 766)::kd P "doubted" 1220 (.ref 775)::kd P "places_to_try" 1233 (.ref 782)::kd P "least_doubts" 1239 (.ref 787)::kd P "choices" 1245 (.ref 792)::kd P "way_between" 1253 (.ref 797)::kd P "mark_places" 1262 (.ref 804)::kd P "sides_of" 1270 (.ref 811)::kd P "note_groups" 1276 (.ref 816)::kd P "note_sides" 1286 (.ref 823)::kd P "book_corners" 1294 (.ref 830)::kd P "note_numbers" 1300 (.ref 835)::kd P "side_owners" 1306 (.ref 840)::kd P "book_clash" 1312 (.ref 845)::kd P "book_choices" 1318 (.ref 850)::kd P "_law_power" 1327 (.ref 857)::kd P "_law_draws" 1339 (.ref 864)::kd P "_law_new" 1345 (.ref 871)::kd P "_law_lead" 1351 (.ref 876)::kd P "_law_way" 1362 (.ref 883)::kd P "_law_turned" 1370 (.ref 890)::kd P "_law_left_pair" 1380 (.ref 897)::kd P "_law_true_bearing" 1399 (.ref 904)::kd P "_law_some_deeds" 1418 (.ref 911)::kd P "_law_names" 1424 (.ref 916)::kd P "law" 1430 (.ref 921)::[])) 113,Ap []⟩
noncomputable abbrev mo1:c5:=.str "seamarks.parts" 194
noncomputable abbrev mo2:c5:=.str "seamarks.sides" 256
noncomputable abbrev mo3:c5:=.str "seamarks.water" 336
noncomputable abbrev mo4:c5:=.str "seamarks.reach" 401
noncomputable abbrev mo5:c5:=.str "seamarks.deeds" 744
noncomputable abbrev mo6:c5:=.str "seamarks.book" 1000
noncomputable abbrev mo7:c5:=.str "seamarks.trust" 1213
noncomputable abbrev mo8:c5:=.str "seamarks.asks" 1246
noncomputable abbrev mo9:c5:=.str "law_seamarks_k43_whole_struck_as_never_come" 1319
noncomputable abbrev mo10:c5:=.str "seamarks.errors" 468
noncomputable def KG(P:CT):b6 :=
 kn (nat_lit 230) ⟨.type "dict",Ki,.dict (Ap (kd P "__module__" 477 (.str "seamarks.errors" 468)::kd P "__firstlineno__" 481 (.int 147 480)::kd P "__static_attributes__" 482 (.ref 229)::kd P "__weakref__" 484 (.ref 232)::kd P "__doc__" 485 .none::[])) 3,Ap []⟩ <|
 ky P 374 671 171 mo10 <|
 kn (nat_lit 427) ⟨.type "dict",Ki,.dict (Ap (kd P "marks" 746 (.int 20 747)::kd P "banks" 748 (.int 8 749)::kd P "runs" 750 (.int 12 751)::kd P "notes" 752 (.int 24 753)::[])) 4,Ap []⟩ <|
 kn (nat_lit 592) ⟨.type "dict",Ki,.dict (Ap (kd P "mark" 971 (.ref 521)::kd P "move" 972 (.ref 528)::kd P "unmark" 973 (.ref 535)::kd P "bank" 974 (.ref 542)::kd P "level" 975 (.ref 549)::kd P "sail" 976 (.ref 556)::kd P "right" 977 (.ref 563)::kd P "bearing" 978 (.ref 577)::kd P "range" 979 (.ref 584)::kd P "strike" 980 (.ref 591)::[])) 10,Ap []⟩ <|
 kn (nat_lit 765) ⟨.type "dict",Ki,.dict (Ap (kd P "__module__" 1009 (.str "seamarks.book" 1000)::kd P "__firstlineno__" 1013 (.int 307 1012)::kd P "__init__" 1020 (.ref 613)::kd P "mark" 1030 (.ref 620)::kd P "move" 1040 (.ref 627)::kd P "unmark" 1048 (.ref 634)::kd P "bank" 1057 (.ref 641)::kd P "level" 1065 (.ref 648)::kd P "sail" 1074 (.ref 655)::kd P "right" 1084 (.ref 662)::kd P "bearing" 1095 (.ref 669)::kd P "range_note" 1105 (.ref 676)::kd P "strike" 1113 (.ref 683)::kd P "deed" 1123 (.ref 690)::kd P "step" 1133 (.ref 697)::kd P "undo" 1140 (.ref 704)::kd P "redo" 1147 (.ref 711)::kd P "deeds" 1154 (.ref 718)::kd P "undone" 1161 (.ref 725)::kd P "twin" 1168 (.ref 732)::kd P "marks" 1174 (.ref 737)::kd P "banks" 1181 (.ref 744)::kd P "runs" 1187 (.ref 749)::kd P "notes" 1194 (.ref 756)::kd P "coming" 1201 (.ref 763)::kd P "__static_attributes__" 1205 (.ref 764)::kd P "__dict__" 1207 (.ref 767)::kd P "__weakref__" 1209 (.ref 768)::kd P "__doc__" 1210 .none::[])) 4,Ap []⟩ <| []
noncomputable abbrev KF(P:CT):b6:=(nat_lit 3,kNs P)::KG P
noncomputable def KC:b6 :=
 kp 22 196 5 1 204 "common_factor" wF mo1 <|
 kn (nat_lit 32) (kq "lowest" 207 14 1 29 (.ref 30) .none .none .none (.ref 31) 210 211) <|
 kn (nat_lit 33) (kg "lowest" ww "seamarks.parts" 194 32) <|
 kn (nat_lit 37) (kq "upright" 213 17 1 34 (.ref 35) .none .none .none (.ref 36) 216 217) <|
 kn (nat_lit 38) (kg "upright" qX "seamarks.parts" 194 37) <|
 kp 39 219 21 3 225 "spot" nW mo1 <|
 kp 46 228 23 2 234 "ahead" uu mo1 <|
 kp 53 237 28 2 245 "merged" xg mo1 <|
 kp 60 248 37 1 253 "in_order" tH mo1 <|
 kp 67 258 43 2 263 "turn" nC mo2 <|
 kp 74 266 45 2 271 "along" si mo2 <|
 kp 81 274 47 1 278 "plain_side" vW mo2 <|
 kp 88 281 49 2 286 "beyond" xj mo2 <|
 kp 95 289 51 2 294 "holds" rj mo2 <|
 kp 102 297 53 2 305 "crossing" rB mo2 <|
 kp 109 308 60 3 314 "pushed" wn mo2 <|
 kp 116 317 62 3 325 "bearing_sides" wN mo2 <|
 kp 123 328 66 2 333 "range_side" tE mo2 <|
 kp 130 338 69 2 344 "in_water" rF mo3 <|
 kp 137 347 74 1 351 "foot" nR mo3 <|
 kp 144 354 76 3 364 "edge_end" rE mo3 <|
 kn (nat_lit 154) (kq "edge_ends" 367 85 2 151 (.ref 152) .none .none .none (.ref 153) 370 371) <|
 kn (nat_lit 155) (kg "edge_ends" tX "seamarks.water" 336 154) <|
 kp 156 373 88 2 379 "spot_on_edge" wX mo3 <|
 kp 163 382 93 1 388 "sought" wk mo3 <|
 kp 170 391 101 1 398 "corners" zz mo3 <|
 kp 177 403 109 1 407 "span" nX mo4 <|
 kn (nat_lit 187) (kq "weighed" 410 111 2 184 (.ref 185) .none .none .none (.ref 186) 413 414) <|
 kn (nat_lit 188) (kg "weighed" qZ "seamarks.reach" 401 187) <|
 kp 189 416 114 2 426 "clash_of_three" wA mo4 <|
 kp 196 429 121 1 437 "clash" qz mo4 <|
 kn (nat_lit 231) (@PySem.Obj.mk (.type "type") Ki (@PySem.Data.cls (@PySem.ClassData.mk "MarkError" ((.type "ValueError")::[]) ((.ref 231)::((.type "ValueError")::((.type "Exception")::((.type "BaseException")::((.type "object")::[]))))) 230 "MarkError" Kj [] ((.ref 244)::((.ref 256)::((.ref 268)::((.ref 280)::((.ref 292)::((.ref 304)::((.ref 316)::((.ref 328)::((.ref 340)::((.ref 352)::((.ref 364)::((.ref 376)::((.ref 388)::((.ref 400)::((.ref 412)::((.ref 424)::[])))))))))))))))) Kk Ki Kk)) (Ap ((Kh (.ref 222))::(Ki::((Kh (.str "MarkError" 470))::((Kh (.str "MarkError" 478))::((Kh (.builtin "ValueError.__new__"))::((Kh (.bool Kj))::[])))))))) <|
 kx 375 "NoMoment" 367 664 231 <|
 kp 428 765 186 0 768 "nothing_yet" uN mo5 <|
 kp 435 771 188 4 779 "changed" qR mo5 <|
 kp 442 782 193 3 789 "without" qV mo5 <|
 kn (nat_lit 452) (kq "within" 792 198 2 449 (.ref 450) .none .none .none (.ref 451) 795 796) <|
 kn (nat_lit 453) (kg "within" wg "seamarks.deeds" 744 452) <|
 kn (nat_lit 457) (kq "check_name" 798 200 1 454 (.ref 455) .none .none .none (.ref 456) 801 802) <|
 kn (nat_lit 458) (kg "check_name" tF "seamarks.deeds" 744 457) <|
 kp 459 804 203 3 810 "check_free" vT mo5 <|
 kp 466 813 206 1 817 "check_place" uP mo5 <|
 kp 473 820 209 1 824 "check_run" tS mo5 <|
 kp 480 827 212 2 832 "check_room" vR mo5 <|
 kp 487 835 215 2 840 "check_mark" vZ mo5 <|
 kp 494 843 218 2 848 "check_moment" uA mo5 <|
 kp 501 851 221 1 855 "check_way" tV mo5 <|
 kp 508 858 224 3 864 "check_apart" uT mo5 <|
 kp 515 867 227 2 874 "after_mark" vQ mo5 <|
 kp 550 918 267 2 924 "after_sail" vP mo5 <|
 kp 564 937 279 2 943 "after_note" tD mo5 <|
 kp 571 946 284 2 951 "after_bearing" wI mo5 <|
 kp 578 954 292 2 959 "after_range" uS mo5 <|
 kp 585 962 298 2 968 "after_strike" uD mo5 <|
 kp 593 992 304 2 997 "after" um mo5 <|
 km 607 1014 309 1 1018 "__init__" "Book.__init__" nV mo6 <|
 km 677 1106 341 2 1111 "strike" "Book.strike" xi mo6 <|
 km 684 1114 344 2 1121 "deed" "Book.deed" nM mo6 <|
 km 691 1124 352 3 1131 "step" "Book.step" nO mo6 <|
 km 698 1134 358 1 1138 "undo" "Book.undo" nF mo6 <|
 km 705 1141 363 1 1145 "redo" "Book.redo" nJ mo6 <|
 kn (nat_lit 736) (kc ((.str "marks" 1169)::((.str "Book.marks" 1170)::((.str "/claim/cut.py" 1171)::((.int 377 0)::((.int 1 0)::((.int 0 0)::((.int 0 0)::((.int 3 0)::((.ref 733)::((.bool Kj)::((.int 181 0)::((.ref 734)::(.none::(.none::(.none::((.ref 735)::((.int 1172 0)::((.int 377 0)::((.str "/claim/cut.py" 1173)::[])))))))))))))))))))) <|
 kn (nat_lit 737) (kf2 "marks" "Book.marks" sr .none .none (.str "seamarks.book" 1000) (.ref 736) .none) <|
 kn (nat_lit 748) (kc ((.str "runs" 1182)::((.str "Book.runs" 1183)::((.str "/claim/cut.py" 1184)::((.int 384 0)::((.int 1 0)::((.int 0 0)::((.int 0 0)::((.int 3 0)::((.ref 745)::((.bool Kj)::((.int 181 0)::((.ref 746)::(.none::(.none::(.none::((.ref 747)::((.int 1185 0)::((.int 384 0)::((.str "/claim/cut.py" 1186)::[])))))))))))))))))))) <|
 kn (nat_lit 749) (kf2 "runs" "Book.runs" ng .none .none (.str "seamarks.book" 1000) (.ref 748) .none) <|
 km 750 1188 388 1 1192 "notes" "Book.notes" sy mo6 <|
 km 757 1195 391 1 1199 "coming" "Book.coming" wt mo6 <|
 kn (nat_lit 766) (@PySem.Obj.mk (.type "type") Ki (@PySem.Data.cls (@PySem.ClassData.mk "Book" ((.type "object")::[]) ((.ref 766)::((.type "object")::[])) 765 "Book" Kj [] [] Kk Ki Kk)) (Ap (Ki::(Ki::((Kh (.str "Book" 1002))::((Kh (.str "Book" 1010))::((Kh (.builtin "object.__new__"))::((Kh (.bool Kj))::[])))))))) <|
 kn (nat_lit 774) (kq "doubted" 1215 394 2 771 (.ref 772) .none .none .none (.ref 773) 1218 1219) <|
 kn (nat_lit 775) (kg "doubted" qT "seamarks.trust" 1213 774) <|
 kp 776 1221 396 1 1231 "places_to_try" wG mo7 <|
 kn (nat_lit 786) (kq "least_doubts" 1234 408 1 783 (.ref 784) .none .none .none (.ref 785) 1237 1238) <|
 kn (nat_lit 787) (kg "least_doubts" wT "seamarks.trust" 1213 786) <|
 kn (nat_lit 791) (kq "choices" 1240 418 1 788 (.ref 789) .none .none .none (.ref 790) 1243 1244) <|
 kn (nat_lit 792) (kg "choices" qS "seamarks.trust" 1213 791) <|
 kn (nat_lit 796) (kq "way_between" 1248 421 3 793 (.ref 794) .none .none .none (.ref 795) 1251 1252) <|
 kn (nat_lit 797) (kg "way_between" uQ "seamarks.asks" 1246 796) <|
 kp 798 1254 428 1 1260 "mark_places" uZ mo8 <|
 kp 805 1263 433 2 1268 "sides_of" rL mo8 <|
 kn (nat_lit 815) (kq "note_groups" 1271 437 2 812 (.ref 813) .none .none .none (.ref 814) 1274 1275) <|
 kn (nat_lit 816) (kg "note_groups" vA "seamarks.asks" 1246 815) <|
 kp 817 1277 446 2 1284 "note_sides" vX mo8 <|
 kp 824 1287 451 2 1292 "book_corners" uE mo8 <|
 kn (nat_lit 834) (kq "note_numbers" 1295 453 1 831 (.ref 832) .none .none .none (.ref 833) 1298 1299) <|
 kn (nat_lit 835) (kg "note_numbers" wY "seamarks.asks" 1246 834) <|
 kn (nat_lit 839) (kq "side_owners" 1301 455 1 836 (.ref 837) .none .none .none (.ref 838) 1304 1305) <|
 kn (nat_lit 840) (kg "side_owners" vB "seamarks.asks" 1246 839) <|
 kn (nat_lit 844) (kq "book_clash" 1307 462 1 841 (.ref 842) .none .none .none (.ref 843) 1310 1311) <|
 kn (nat_lit 845) (kg "book_clash" vV "seamarks.asks" 1246 844) <|
 kn (nat_lit 849) (kq "book_choices" 1313 468 1 846 (.ref 847) .none .none .none (.ref 848) 1316 1317) <|
 kn (nat_lit 850) (kg "book_choices" uC "seamarks.asks" 1246 849) <|
 kp 851 1321 472 1 1325 "_law_power" re mo9 <|
 kp 858 1328 474 2 1337 "_law_draws" rm mo9 <|
 kp 865 1340 490 0 1343 "_law_new" iO mo9 <|
 kn (nat_lit 875) (kq "_law_lead" 1346 492 3 872 (.ref 873) .none .none .none (.ref 874) 1349 1350) <|
 kn (nat_lit 876) (kg "_law_lead" nT "law_seamarks_k43_whole_struck_as_never_come" 1319 875) <|
 kp 877 1352 496 3 1360 "_law_way" iS mo9 <|
 kp 884 1363 502 2 1368 "_law_turned" wf mo9 <|
 kp 891 1371 504 2 1378 "_law_left_pair" tU mo9 <|
 kp 898 1381 514 6 1397 "_law_true_bearing" uF mo9 <|
 kp 905 1400 523 2 1416 "_law_some_deeds" vU mo9 <|
 kn (nat_lit 915) (kq "_law_names" 1419 543 2 912 (.ref 913) .none .none .none (.ref 914) 1422 1423) <|
 kn (nat_lit 916) (kg "_law_names" uj "law_seamarks_k43_whole_struck_as_never_come" 1319 915) <|
 kn (nat_lit 920) (kq "law" 1425 558 1 917 (.ref 918) .none .none .none (.ref 919) 1428 1429) <|
 kn (nat_lit 921) (kg "law" cK "law_seamarks_k43_whole_struck_as_never_come" 1319 920) <| []
noncomputable def KK(P:CT):b6:=(nat_lit 3,kNs P)::(KG P++KC)
noncomputable def K:b6:=HJ (⟨KC,rfl⟩:∃ k,k=KC)
def Tq:K=KC:=Go (⟨KC,rfl⟩:∃ k,k=KC)
noncomputable def kas:List Nat:=nat_lit 3::nat_lit 230::nat_lit 375::nat_lit 427::nat_lit 592::nat_lit 765::KC.map (·.1)
def kas_ok:∀ P:CT,kas=(KK P).map (·.1):=λ_=>by kernel_rfl
def Qd{a b:Bool}(h:a=Kj)(k:b=Kj):(a&&b)=true:=by rw[h,k]; rfl
set_option maxHeartbeats 0 in
open PySem.W in
def said_ok:PySem.Challenge.rw_seamarks_k43_whole_struck_as_never_come.wellSaid=true:=by
 unfold OpenLaw.wellSaid
 repeat' first | with_reducible apply Qd | unfold OpenRow.wellSaid | unfold OpenRow.partSaid | unfold looksOpen
 all_goals decide +kernel
open PySem.W in
noncomputable abbrev lkM:=Fast.tw5923862056798008813 (Fast.tw2368527892694137696 PySem.Challenge.rw_seamarks_k43_whole_struck_as_never_come).prog.main.body
open PySem.W in
noncomputable abbrev lkT(w:World)(os:OsState):=Os Fast.tw14364793385576792824 (Fast.tw2368527892694137696 PySem.Challenge.rw_seamarks_k43_whole_struck_as_never_come).prog 90000 w os
open PySem.W in
noncomputable abbrev lkS(s:SharedT):=Fast.tw4187177175401517315 qv lse lkM (λs=>xlAt qv [] s&&recOk (Fast.tw2368527892694137696 PySem.Challenge.rw_seamarks_k43_whole_struck_as_never_come).records s) Kj s.abs
set_option maxHeartbeats 0 in
open PySem.W in
def RC(u:World)(os:OsState):(lkT (u.withFollow "special-get-raises" Kj) os).map (λs=>((lkS s).1,(staticsOk lkM (boot_heap (u.withFollow "special-get-raises" Kj).params) s.abs.heap&&namesBound (Fast.tw2368527892694137696 PySem.Challenge.rw_seamarks_k43_whole_struck_as_never_come).prog s.abs.heap&&gensDone s.abs&&laidKept (boot_heap (u.withFollow "special-get-raises" Kj).params) s.abs.heap),(lkS s).2.1))=Kh (((PyProof.Rows.expectedOf qv)),(Kj),(bltViewBooted)):=by kernel_rfl
set_option maxHeartbeats 0 in
open PySem.W in
def Sr(u:World)(os:OsState):(lkT (u.withFollow "special-get-raises" Kk) os).map (λs=>((lkS s).1,(staticsOk lkM (boot_heap (u.withFollow "special-get-raises" Kk).params) s.abs.heap&&namesBound (Fast.tw2368527892694137696 PySem.Challenge.rw_seamarks_k43_whole_struck_as_never_come).prog s.abs.heap&&gensDone s.abs&&laidKept (boot_heap (u.withFollow "special-get-raises" Kk).params) s.abs.heap),(lkS s).2.1))=Kh (((PyProof.Rows.expectedOf qv)),(Kj),(bltViewBooted)):=by kernel_rfl
set_option maxHeartbeats 0 in
open PySem.W in
def WR(w:World)(os:OsState):(lkT w os).map (λs=>((lkS s).1,(staticsOk lkM (boot_heap w.params) s.abs.heap&&namesBound (Fast.tw2368527892694137696 PySem.Challenge.rw_seamarks_k43_whole_struck_as_never_come).prog s.abs.heap&&gensDone s.abs&&laidKept (boot_heap w.params) s.abs.heap),(lkS s).2.1))=Kh (((PyProof.Rows.expectedOf qv)),(Kj),(bltViewBooted)):=by
 have h:∀(b:Bool)(u:World),(λw:World=>(lkT w os).map (λs=>((lkS s).1,(staticsOk lkM (boot_heap w.params) s.abs.heap&&namesBound (Fast.tw2368527892694137696 PySem.Challenge.rw_seamarks_k43_whole_struck_as_never_come).prog s.abs.heap&&gensDone s.abs&&laidKept (boot_heap w.params) s.abs.heap),(lkS s).2.1))=Kh (((PyProof.Rows.expectedOf qv)),(Kj),(bltViewBooted))) (u.withFollow "special-get-raises" b):=λb u=>by cases b; rwa[Sr u os]; rwa[RC u os]
 have:=h (w.params.followText "special-get-raises") w;(rw[C7] at this;assumption)
set_option maxHeartbeats 0 in
open PySem.W in
def Rh(u:o9)(os:Dk):(lkT (u.withFollow "special-get-raises" Kj) os).map (λs=>(kas.map s.abs.heap.get?,(lkS s).2.2.1))=Kh ((((KK (u.withFollow "special-get-raises" Kj).params).map λp=>Kh p.2)),(Kj)):=by kernel_rfl
set_option maxHeartbeats 0 in
open PySem.W in
def SM(u:o9)(os:Dk):(lkT (u.withFollow "special-get-raises" Kk) os).map (λs=>(kas.map s.abs.heap.get?,(lkS s).2.2.1))=Kh ((((KK (u.withFollow "special-get-raises" Kk).params).map λp=>Kh p.2)),(Kj)):=by kernel_rfl
set_option maxHeartbeats 0 in
open PySem.W in
def Tt(w:o9)(os:Dk):(lkT w os).map (λs=>(kas.map s.abs.heap.get?,(lkS s).2.2.1))=Kh ((((KK w.params).map λp=>Kh p.2)),(Kj)):=by
 have h:∀(b:Bool)(u:o9),(λw:o9=>(lkT w os).map (λs=>(kas.map s.abs.heap.get?,(lkS s).2.2.1))=Kh ((((KK w.params).map λp=>Kh p.2)),(Kj))) (u.withFollow "special-get-raises" b):=λb u=>by cases b; rwa[SM u os]; rwa[Rh u os]
 have:=h (w.params.followText "special-get-raises") w;(rw[C7] at this;assumption)
set_option maxHeartbeats 0 in
open PySem.W in
def RM(u:o9)(os:Dk):(lkT (u.withFollow "special-get-raises" Kj) os).map (λs=>((lkS s).2.2.2.1,(lkS s).2.2.2.2.1,(lkS s).2.2.2.2.2.1))=Kh (Kj,pinGoodD (Dd qv),CL qv (looseW qv lse)):=by kernel_rfl
set_option maxHeartbeats 0 in
open PySem.W in
def Rr(u:o9)(os:Dk):(lkT (u.withFollow "special-get-raises" Kk) os).map (λs=>((lkS s).2.2.2.1,(lkS s).2.2.2.2.1,(lkS s).2.2.2.2.2.1))=Kh (Kj,pinGoodD (Dd qv),CL qv (looseW qv lse)):=by kernel_rfl
set_option maxHeartbeats 0 in
open PySem.W in
def Pu(w:o9)(os:Dk):(lkT w os).map (λs=>((lkS s).2.2.2.1,(lkS s).2.2.2.2.1,(lkS s).2.2.2.2.2.1))=Kh (Kj,pinGoodD (Dd qv),CL qv (looseW qv lse)):=by
 have h:∀(b:Bool)(u:o9),(λw:o9=>(lkT w os).map (λs=>((lkS s).2.2.2.1,(lkS s).2.2.2.2.1,(lkS s).2.2.2.2.2.1))=Kh (Kj,pinGoodD (Dd qv),CL qv (looseW qv lse))) (u.withFollow "special-get-raises" b):=λb u=>by cases b; rwa[Rr u os]; rwa[RM u os]
 have:=h (w.params.followText "special-get-raises") w;(rw[C7] at this;assumption)
set_option maxHeartbeats 0 in
open PySem.W in
def Sl(u:o9)(os:Dk):(lkT (u.withFollow "special-get-raises" Kj) os).map (λs=>(lkS s).2.2.2.2.2.2)=Kh (CM qv lse,wideGood qv,clsGoodW qv lse):=by kernel_rfl
set_option maxHeartbeats 0 in
open PySem.W in
def Sy(u:o9)(os:Dk):(lkT (u.withFollow "special-get-raises" Kk) os).map (λs=>(lkS s).2.2.2.2.2.2)=Kh (CM qv lse,wideGood qv,clsGoodW qv lse):=by kernel_rfl
set_option maxHeartbeats 0 in
open PySem.W in
def PH(w:o9)(os:Dk):(lkT w os).map (λs=>(lkS s).2.2.2.2.2.2)=Kh (CM qv lse,wideGood qv,clsGoodW qv lse):=by
 have h:∀(b:Bool)(u:o9),(λw:o9=>(lkT w os).map (λs=>(lkS s).2.2.2.2.2.2)=Kh (CM qv lse,wideGood qv,clsGoodW qv lse)) (u.withFollow "special-get-raises" b):=λb u=>by cases b; rwa[Sy u os]; rwa[Sl u os]
 have:=h (w.params.followText "special-get-raises") w;(rw[C7] at this;assumption)
set_option maxHeartbeats 0 in
open PySem.W in
def Qx(w:o9)(os:Dk):(lkT w os).map (λs=>(lkS s).1)=Kh (Jy qv):=ke (WR w os) (λp=>p.1)
set_option maxHeartbeats 0 in
open PySem.W in
def QB(w:World)(os:OsState):(lkT w os).map (λs=>(staticsOk lkM (boot_heap w.params) s.abs.heap&&namesBound (Fast.tw2368527892694137696 PySem.Challenge.rw_seamarks_k43_whole_struck_as_never_come).prog s.abs.heap&&gensDone s.abs&&laidKept (boot_heap w.params) s.abs.heap))=Kh true:=ke (WR w os) (λp=>p.2.1)
set_option maxHeartbeats 0 in
open PySem.W in
def PN(w:o9)(os:Dk):(lkT w os).map (λs=>(lkS s).2.1)=Kh bltViewBooted:=ke (WR w os) (λp=>p.2.2)
set_option maxHeartbeats 0 in
open PySem.W in
def QG(w:o9)(os:Dk):(lkT w os).map (λs=>kas.map s.abs.heap.get?)=Kh ((KK w.params).map λp=>Kh p.2):=ke (Tt w os) (λp=>p.1)
set_option maxHeartbeats 0 in
open PySem.W in
def QN(w:o9)(os:Dk):(lkT w os).map (λs=>(lkS s).2.2.1)=Kh true:=ke (Tt w os) (λp=>p.2)
set_option maxHeartbeats 0 in
open PySem.W in
def left_ok:LeftO PySem.Challenge.rw_seamarks_k43_whole_struck_as_never_come.row.prog qv lse (λs=>xlAt qv [] s&&recOk (RowW.records (OpenRow.toRowW PySem.Challenge.rw_seamarks_k43_whole_struck_as_never_come.row)) s)
  (λs=>kas.map s.heap.get?) (λw=>(KK w.params).map λp=>Kh p.2) 90000:=by
 erw[Xk (boot_open (by kernel_rfl) (by decide) (λs=>by kernel_rfl)) ?a ?b ?c]
 case a =>
  rw[EL,De,C9];rwa[QB]
 case b =>
  rw[Fast.te4187177175401517315,EL,De,C9];rwa[λw os=>iu (f:=lkS) (Qx w os) (iu (f:=λs=>(lkS s).2) (PN w os) (iu (f:=λs=>(lkS s).2.2) (QN w os) (UH (f:=λs=>(lkS s).2.2.2) (Pu w os) (PH w os))))]
 case c =>
  rw[De,C9];rwa[QG]
end Sea
-- BASE
open PySem PySem.Spec L2
open PyProof.Rows hiding St
local macro_rules | `(tactic| symm) => `(tactic| kernel_rfl)
local macro_rules | `(tactic| ac_nf) => `(tactic| decide +kernel)
def y6{c:Prop}{d:Decidable c}(h:¬c){e:Sort _}{a b:e}:ite c a b=b:=if_neg h
def y7{c:Prop}{d:Decidable c}(h:c){e:Sort _}{a b:e}:ite c a b=a:=if_pos h
def y8{p:Prop}[Decidable p](h:p):decide p=true:=decide_eq_true h
def y9{p:Prop}[Decidable p](h:¬p):decide p=false:=decide_eq_false h
def x4{a b:Prop}(h:a)(n:¬a):b:=absurd h n
def x5{c:Type _}[BEq c][LawfulBEq c]{a b:c}:(a==b)=Kk↔a≠b:=beq_eq_false_iff_ne
namespace L2
inductive E2{α0 α1:Type}(P:α0->α1->Prop):Prop where
 | mk (a0:α0) (a1:α1) (h:P a0 a1):E2 P
inductive E3{α0 α1 α2:Type}(P:α0->α1->α2->Prop):Prop where
 | mk (a0:α0) (a1:α1) (a2:α2) (h:P a0 a1 a2):E3 P
inductive E4{α0 α1 α2 α3:Type}(P:α0->α1->α2->α3->Prop):Prop where
 | mk (a0:α0) (a1:α1) (a2:α2) (a3:α3) (h:P a0 a1 a2 a3):E4 P
inductive E5{α0 α1 α2 α3 α4:Type}(P:α0->α1->α2->α3->α4->Prop):Prop where
 | mk (a0:α0) (a1:α1) (a2:α2) (a3:α3) (a4:α4) (h:P a0 a1 a2 a3 a4):E5 P
inductive E6{α0 α1 α2 α3 α4 α5:Type}(P:α0->α1->α2->α3->α4->α5->Prop):Prop where
 | mk (a0:α0) (a1:α1) (a2:α2) (a3:α3) (a4:α4) (a5:α5) (h:P a0 a1 a2 a3 a4 a5):E6 P
inductive E7{α0 α1 α2 α3 α4 α5 α6:Type}(P:α0->α1->α2->α3->α4->α5->α6->Prop):Prop where
 | mk (a0:α0) (a1:α1) (a2:α2) (a3:α3) (a4:α4) (a5:α5) (a6:α6) (h:P a0 a1 a2 a3 a4 a5 a6):E7 P
inductive E8{α0 α1 α2 α3 α4 α5 α6 α7:Type}(P:α0->α1->α2->α3->α4->α5->α6->α7->Prop):Prop where
 | mk (a0:α0) (a1:α1) (a2:α2) (a3:α3) (a4:α4) (a5:α5) (a6:α6) (a7:α7) (h:P a0 a1 a2 a3 a4 a5 a6 a7):E8 P
inductive E9{α0 α1 α2 α3 α4 α5 α6 α7 α8:Type}(P:α0->α1->α2->α3->α4->α5->α6->α7->α8->Prop):Prop where
 | mk (a0:α0) (a1:α1) (a2:α2) (a3:α3) (a4:α4) (a5:α5) (a6:α6) (a7:α7) (a8:α8) (h:P a0 a1 a2 a3 a4 a5 a6 a7 a8):E9 P
inductive E10{α0 α1 α2 α3 α4 α5 α6 α7 α8 α9:Type}(P:α0->α1->α2->α3->α4->α5->α6->α7->α8->α9->Prop):Prop where
 | mk (a0:α0) (a1:α1) (a2:α2) (a3:α3) (a4:α4) (a5:α5) (a6:α6) (a7:α7) (a8:α8) (a9:α9) (h:P a0 a1 a2 a3 a4 a5 a6 a7 a8 a9):E10 P
inductive E12{α0 α1 α2 α3 α4 α5 α6 α7 α8 α9 α10 α11:Type}(P:α0->α1->α2->α3->α4->α5->α6->α7->α8->α9->α10->α11->Prop):Prop where
 | mk (a0:α0) (a1:α1) (a2:α2) (a3:α3) (a4:α4) (a5:α5) (a6:α6) (a7:α7) (a8:α8) (a9:α9) (a10:α10) (a11:α11) (h:P a0 a1 a2 a3 a4 a5 a6 a7 a8 a9 a10 a11):E12 P
structure A3(p0 p1 p2:Prop):Prop where
 mk ::
 h0:p0
 h1:p1
 h2:p2
structure A4(p0 p1 p2 p3:Prop):Prop where
 mk ::
 h0:p0
 h1:p1
 h2:p2
 h3:p3
structure A5(p0 p1 p2 p3 p4:Prop):Prop where
 mk ::
 h0:p0
 h1:p1
 h2:p2
 h3:p3
 h4:p4
structure A6(p0 p1 p2 p3 p4 p5:Prop):Prop where
 mk ::
 h0:p0
 h1:p1
 h2:p2
 h3:p3
 h4:p4
 h5:p5
structure A7(p0 p1 p2 p3 p4 p5 p6:Prop):Prop where
 mk ::
 h0:p0
 h1:p1
 h2:p2
 h3:p3
 h4:p4
 h5:p5
 h6:p6
structure A8(p0 p1 p2 p3 p4 p5 p6 p7:Prop):Prop where
 mk ::
 h0:p0
 h1:p1
 h2:p2
 h3:p3
 h4:p4
 h5:p5
 h6:p6
 h7:p7
structure A9(p0 p1 p2 p3 p4 p5 p6 p7 p8:Prop):Prop where
 mk ::
 h0:p0
 h1:p1
 h2:p2
 h3:p3
 h4:p4
 h5:p5
 h6:p6
 h7:p7
 h8:p8
structure A10(p0 p1 p2 p3 p4 p5 p6 p7 p8 p9:Prop):Prop where
 mk ::
 h0:p0
 h1:p1
 h2:p2
 h3:p3
 h4:p4
 h5:p5
 h6:p6
 h7:p7
 h8:p8
 h9:p9
structure A11(p0 p1 p2 p3 p4 p5 p6 p7 p8 p9 p10:Prop):Prop where
 mk ::
 h0:p0
 h1:p1
 h2:p2
 h3:p3
 h4:p4
 h5:p5
 h6:p6
 h7:p7
 h8:p8
 h9:p9
 h10:p10
structure A12(p0 p1 p2 p3 p4 p5 p6 p7 p8 p9 p10 p11:Prop):Prop where
 mk ::
 h0:p0
 h1:p1
 h2:p2
 h3:p3
 h4:p4
 h5:p5
 h6:p6
 h7:p7
 h8:p8
 h9:p9
 h10:p10
 h11:p11
structure A13(p0 p1 p2 p3 p4 p5 p6 p7 p8 p9 p10 p11 p12:Prop):Prop where
 mk ::
 h0:p0
 h1:p1
 h2:p2
 h3:p3
 h4:p4
 h5:p5
 h6:p6
 h7:p7
 h8:p8
 h9:p9
 h10:p10
 h11:p11
 h12:p12

abbrev Key:=Sum Int j4
def cX:Key->c5->Bool
 | .inl k,v=>JW k v
 | .inr x,v=>Jd x v
def keyH(w:o9):Key->Int
 | .inl k=>hashInt k
 | .inr x=>hashStr w x
def xB:∀{k:Key}{v:c5},cX k v=Kj->(∃ i t,k=Dl i/\v=Cj i t)\/(∃ x t,k=Ef x/\v=DP x t)
 | .inl i,v,h=>by
  obtain⟨t,e⟩:=Value.isInt_shape (k:=i) (v:=v) h;rwa[.inl ⟨i,t,rfl,e⟩]
 | .inr x,v,h=>by
  obtain⟨t,e⟩:=Value.isStrOf_shape (x:=x) (v:=v) h;rwa[.inr ⟨x,t,rfl,e⟩]
def Wd(i:Int)(t:Je):cX (.inl i) (.int i t)=true:=by simp[cX,JW]
def YR(x:j4)(t:Je):cX (.inr x) (.str x t)=true:=by simp[cX,Jd]
def Pt(a b:Int):decide ((Dl a:Key)=Dl b)=(a == b):=by
 by_cases e:a=b
 ·subst e; simp
 ·have h:¬ (Dl a:Key)=Dl b:=λq=>e (Sum.inl.inj q);rw[y9 h];exact(x5.mpr e).symm
def Qu(a b:j4):decide ((Ef a:Key)=Ef b)=decide (a=b):=by
 by_cases e:a=b
 ·subst e; simp
 ·have h:¬ (Ef a:Key)=Ef b:=λq=>e (Sum.inr.inj q);rw[y9 h,y9 e]
def PZ(a:Int)(b:j4):decide ((Dl a:Key)=Ef b)=false:=y9 (λq=>nomatch q)
def Pn(a:j4)(b:Int):decide ((Ef a:Key)=Dl b)=false:=y9 (λq=>nomatch q)

def yZ(prog:j9)(w:o9):PySem.KeyKind prog w Key where
 is:=cX
 hash:=keyH w
 inj:=λv a b g d=>by
  rcases xB g with ⟨i,t,rfl,rfl⟩ | ⟨x,t,rfl,rfl⟩
  ·rcases xB d with ⟨j,u,rfl,e⟩ | ⟨y,u,rfl,e⟩
   ·injection e with e1 _; rw[e1]
   ·exact nomatch e
  ·rcases xB d with ⟨j,u,rfl,e⟩ | ⟨y,u,rfl,e⟩
   ·exact nomatch e
   ·injection e with e1 _; rw[e1]
 byValue:=λk v h=>by
  rcases xB h with ⟨i,t,rfl,rfl⟩ | ⟨x,t,rfl,rfl⟩ <;> rfl
 pyHash:=λc h=>by
  rcases xB c with ⟨i,t,rfl,rfl⟩ | ⟨x,t,rfl,rfl⟩
  ·rwa[wpAny_pyHash_int h]
  ·rwa[wpAny_pyHash_str h]
 eqBool:=λf c h=>by
  rcases xB f with ⟨i,t,rfl,rfl⟩ | ⟨x,t,rfl,rfl⟩
  ·rcases xB c with ⟨j,u,rfl,rfl⟩ | ⟨y,u,rfl,rfl⟩
   ·rw[Pt] at h; rwa[FL h]
   ·rw[PZ] at h; rwa[G2 i t y u _ _ _ _ h]
  ·rcases xB c with ⟨j,u,rfl,rfl⟩ | ⟨y,u,rfl,rfl⟩
   ·rw[Pn] at h; rwa[G3 x t j u _ _ _ _ h]
   ·rw[Qu] at h; rwa[wpAny_eqBool_str h]
 «strs»:=λk x t v h=>by
  rcases xB h with ⟨i,u,rfl,e⟩ | ⟨y,u,rfl,e⟩
  ·exact nomatch e
  ·injection e with e1 _
   subst e1;cases v <;> rfl

def cT(prog:j9)(w:o9)(i:Int)(t:Je):(yZ prog w).is (.inl i) (.int i t)=true:=Wd i t
def vi(prog:j9)(w:o9)(x:j4)(t:Je):(yZ prog w).is (.inr x) (.str x t)=true:=YR x t
end L2

namespace L2

inductive V where
 | non | bl (b:Bool) | int (i:Int) | str (x:j4) | byt (b:Array UInt8) | flt (b:UInt64) | ref (a:b9) | ty (n:String)
 deriving DecidableEq

def xZ:V->c5->Prop
 | .non,u=>u=AW
 | .bl b,u=>u=F1 b
 | .int i,u=>∃ t,u=Cj i t
 | .str x,u=>∃ t,u=DP x t
 | .byt b,u=>∃ t,u=Ij b t
 | .flt b,u=>∃ t,u=Ik b t
 | .ref a,u=>u=r6 a
 | .ty n,u=>u=F2 n

abbrev yW:List V->List c5->Prop:=HK xZ
def yW.length(r:yW xs c):xs.length=c.length:=FE r
def yW.get:∀{xs:List V}{c:List c5}{i:Nat}{x:V},yW xs c->xs[i]?=Kh x->∃ u,c[i]?=Kh u/\xZ x u
 | _,_,_,_,.nil,e=>by simp at e
 | _,_,0,_,.cons r _,e=>by simp at e; subst e; rwa[_,rfl,r]
 | _,_,i+1,x,.cons _ t,e=>by
  obtain⟨u,h1,h2⟩:=yW.get (i:=i) (x:=x) t (by simpa using e);exact⟨u,by simpa using h1,h2⟩
def yW.append:∀{xs c:List V}{e d:List c5},yW xs e->yW c d->yW (xs++c) (e++d)
 | _,_,_,_,.nil,s=>s
 | _,_,_,_,.cons r t,s=>.cons r (yW.append t s)
def yW.take:∀{xs:List V}{c:List c5}(n:Nat),yW xs c->yW (xs.take n) (c.take n)
 | _,_,0,_=>.nil
 | _,_,_+1,.nil=>.nil
 | _,_,n+1,.cons r t=>.cons r (yW.take n t)
def yW.drop:∀{xs:List V}{c:List c5}(n:Nat),yW xs c->yW (xs.drop n) (c.drop n)
 | _,_,0,r=>r
 | _,_,_+1,.nil=>.nil
 | _,_,n+1,.cons _ t=>yW.drop n t
def gB:Option V->Option c5->Prop
 | some v,Kh u=>xZ v u
 | none,Ki=>True
 | _,_=>False
def KV{c:Type} : List (c×V)->List (c×c5)->Prop:=HK λ(p:c×V) (q:c×c5)=>p.1=q.1/\xZ p.2 q.2

def kV:Key->V
 | .inl i=>.int i
 | .inr x=>.str x

inductive HO where
 | lst (xs:List V)
 | tup (xs:List V)
 | dK (kvs:List (Key×V)) | dT (kvs:List (List Key×V))
 | set (S:Int->Bool) (n:Nat)
 | ins (C dx:b9) (fs:List (j4×V))
 | own (x:b9)
 | xd (fs:List (j4×V))
 | met (f x:b9)
 | rng (lo hi:Int)
 | frz (o:BP) (u:HO)
 | tbl (ps:Array c5)
 | ext (φ:Ae->Prop)

abbrev Hp:=b9->Option HO
def upd(H:Hp)(a:b9)(o:HO):Hp:=λb=>if b=a then Kh o else H b
def zA{H:Hp}{a:b9}{o:HO} : upd H a o a=Kh o:=by unfold upd; rw[y7 rfl]
def zH{H:Hp}{a b:b9}{o:HO}(h:b≠a):upd H a o b=H b:=by unfold upd; rw[y6 h]
def ve{H:Hp} : upd (upd H a o) a u=upd H a u:=by
 funext b; unfold upd; split <;> rfl
def tR{H:Hp}(h:H a=Kh o)(c:H b=Kh u)(d:o≠u):a≠b:=by
 intro e; subst e; rw[h] at c; rwa[d (x6 c)]
def zE{H:Hp}(h:H a=Kh o)(c:H b=Ki):a≠b:=by
 intro e; subst e; rw[h] at c; cases c

section
variable(P:j9)(w:o9)
def uL(H:Hp)(h:Ae)(a:b9):HO->Prop
 | .lst xs=>xs.length<=sizeLine/\∃(d:List c5)(n:Nat),yW xs d/\h.get? a=Kh { cls:=.type "list",data:=.seq d.toArray n }
 | .tup xs=>xs.length<=sizeLine/\∃ d:List c5,yW xs d/\IsTup h a d.toArray
 | .dK c=>c.length<=sizeLine/\(a == sysModules)=Kk/\∃ j,KV c j/\h.DictOf (yZ P w) a j
 | .dT c=>c.length<=sizeLine/\(a == sysModules)=Kk/\∃ xs:List (List Key×b9×c5),
   HK (λ(p:List Key×V) (q:List Key×b9×c5)=>p.1=q.1/\H q.2.1=Kh (.tup (p.1.map kV))/\xZ p.2 q.2.2) c xs /\
   ∃ o l r,h.get? a=Kh o/\o.ExactDict/\o.data=.dict l r/\l.toList=xs.map (entryOfKey (tupleKind (yZ P w)))/\(xs.map (·.1)).Nodup
 | .set S n=>h.SetOf (intKind P w) a S n
 | .ins C g fs=>H g=Kh (.own a)/\fs.length<=1000/\g≠a/\h.get? a=Kh (B8 C g) /\
   ∃ e,h.Ns1 g e/\(∀ f,gB (fs.lookup f) (e f))/\Hh e (fs.map (·.1))
 | .own _=>∃ o,h.get? a=Kh o
 | .xd fs=>∃ e,h.Ns1 a e/\∀ f,gB (fs.lookup f) (e f)
 | .rng lo hi=>∃ t u v,h.get? a=Kh { cls:=.type "range",data:=.fields #[.int lo t,.int hi u,.int 1 v] }
 | .frz o u=>h.get? a=Kh o/\uL H h a u
 | .tbl m=>h.get? a=Kh { cls:=.none,data:=.fields m }
 | .met f x=>h.get? a=Kh (Fo (.ref f) (.ref x))
 | .ext i=>i h/\(∃ o,h.get? a=Kh o)/\∀ h1 h2:Ae,i h1->(∀ o,h1.get? a=Kh o->h2.get? a=Kh o)->i h2
def HOk(H:Hp)(h:Ae):Prop:=∀ a o,H a=Kh o->uL P w H h a o
end

section
variable{P:j9}{w:o9}{H H':Hp}{h h':Ae}{a:b9}{o:HO}
def uL.lt(x:uL P w H h a o):a<h.objs.size:=by
 cases o with
 | lst xs=>obtain⟨_,_,_,_,e⟩:=x; rwa[i5 e]
 | tup xs=>obtain⟨_,_,_,p⟩:=x; rwa[p.lt]
 | dK c=>obtain⟨_,_,_,_,o,_,_,e,_⟩:=x; rwa[i5 e]
 | dT c=>obtain⟨_,_,_,_,o,_,_,e,_⟩:=x; rwa[i5 e]
 | set S n=>obtain⟨o,_,_,_,e,_⟩:=x; rwa[i5 e]
 | ins C i fs=>obtain⟨_,_,_,e,_⟩:=x; rwa[i5 e]
 | own y=>obtain⟨_,e⟩:=x; rwa[i5 e]
 | xd fs=>obtain⟨_,⟨_,_,_,e,_⟩,_⟩:=x; rwa[i5 e]
 | rng lo hi=>obtain⟨_,_,_,e⟩:=x; rwa[i5 e]
 | frz ob u=>obtain⟨e,_⟩:=x; rwa[i5 e]
 | tbl g=>exact i5 (show h.get? a=Kh _ from x)
 | met f y=>exact i5 (show h.get? a=Kh _ from x)
 | ext d=>obtain⟨_,⟨_,e⟩,_⟩:=x; rwa[i5 e]
def Paired.mapP{g e:Type}{F G:g->e->Prop} : ∀{d:List g}{c:List e},HK F d c->(∀ a b,F a b->G a b)->HK G d c
 | _,_,.nil,_=>.nil
 | _,_,.cons r t,f=>.cons (f _ _ r) (Paired.mapP t f)
def uL.stay(x:uL P w H h a o)(k:∀ b u,(b=a\/H b=Kh (.own a))->h.get? b=Kh u->h'.get? b=Kh u)
  (G:∀ b,H b=Kh (.own a)->H' b=Kh (.own a)) (E:∀ b xs,H b=Kh (.tup xs)->H' b=Kh (.tup xs)):uL P w H' h' a o:=by
 induction o with
 | lst xs=>obtain⟨z,j,n,r,e⟩:=x; rwa[z,j,n,r,k _ _ (.inl rfl) e]
 | tup xs=>obtain⟨z,j,r,ob,e,c⟩:=x; rwa[z,j,r,ob,k _ _ (.inl rfl) e,c]
 | dK s=>obtain⟨z,y,B,r,ob,g,i,e,c⟩:=x; rwa[z,y,B,r,ob,g,i,k _ _ (.inl rfl) e,c]
 | dT s =>
  obtain⟨z,y,xs,r,ob,g,i,e,c⟩:=x;rwa[z,y,xs,Paired.mapP r λp q z=>⟨z.1,E _ _ z.2.1,z.2.2⟩,ob,g,i,k _ _ (.inl rfl) e,c]
 | set S n=>obtain⟨ob,g,i,t,e,c⟩:=x; rwa[ob,g,i,t,k _ _ (.inl rfl) e,c]
 | ins C L fs =>
  obtain⟨d,z,ne,e,m,⟨l,g,i,I,c⟩,r⟩:=x;rwa[G _ d,z,ne,k _ _ (.inl rfl) e,m,⟨l,g,i,k _ _ (.inr d) I,c⟩,r]
 | own y=>obtain⟨ob,e⟩:=x; rwa[ob,k _ _ (.inl rfl) e]
 | xd fs=>obtain⟨m,⟨l,g,i,e,c⟩,r⟩:=x; rwa[m,⟨l,g,i,k _ _ (.inl rfl) e,c⟩,r]
 | rng lo hi=>obtain⟨t,u,v,e⟩:=x; rwa[t,u,v,k _ _ (.inl rfl) e]
 | frz ob u D=>obtain⟨e,q⟩:=x; rwa[k _ _ (.inl rfl) e,D q]
 | tbl A =>
  have e:h.get? a=Kh { cls:=.none,data:=.fields A }:=x;show h'.get? a=Kh { cls:=.none,data:=.fields A };rwa[k a _ (.inl rfl) e]
 | met f y =>
  have e:h.get? a=Kh (Fo (.ref f) (.ref y)):=x;show h'.get? a=Kh (Fo (.ref f) (.ref y));rwa[k a _ (.inl rfl) e]
 | ext J=>obtain⟨p,⟨o,e⟩,st⟩:=x; rwa[st _ _ p λo q=>k _ _ (.inl rfl) q,⟨o,k _ _ (.inl rfl) e⟩,st]
def HOk.lt(x:HOk P w H h)(e:H a=Kh o):a<h.objs.size:=(x a o e).lt
def HOk.fresh(x:HOk P w H h)(e:h.objs.size<=a):H a=none:=by
 cases q:H a with
 | none=>rfl
 | some u=>rwa[x4 (n9 (x.lt q) e) (BB _)]
def HOk.kept(x:HOk P w H h)(k:∀ b u,h.get? b=Kh u->h'.get? b=Kh u):HOk P w H h':=λa o e =>
 (x a o e).stay (λb u _ q=>k b u q) (λ_ q=>q) λ_ _ q=>q
def HOk.laid(x:HOk P w H h)(k:∀ b u,h.get? b=Kh u->h'.get? b=Kh u)(g:h.objs.size<=a)(new:uL P w (upd H a o) h' a o):HOk P w (upd H a o) h':=λb u e=>by
 have d:=x.fresh g;by_cases f:b=a
 ·subst f; rw[zA] at e; cases e; rwa[new]
 ·rw[zH f] at e;exact(x b u e).stay (λc v _ q=>k c v q) (λc q=>by rw[zH (zE q d)]; rwa[q]) λc xs q=>by rw[zH (zE q d)]; rwa[q]
end

def Rd(H:Hp)(a:b9)(u:HO):Prop:=H a=Kh u\/∃ o,H a=Kh (.frz o u)
def Rd.ok{H:Hp}(r:Rd H a u)(x:HOk P w H h):uL P w H h a u:=by
 rcases r with r | ⟨o,r⟩
 ·rwa[x a u r]
 ·obtain⟨_,q⟩:=x a _ r;rwa[q]
def Mut:Option HO->Prop
 | some (.lst _)=>True
 | some (.dK _)=>True
 | some (.dT _)=>True
 | some (.set _ _)=>True
 | some (.ins _ _ _)=>True
 | some (.ext _)=>True
 | _=>False
section
variable{P:j9}{w:o9}{H:Hp}{h h':Ae}{x e:b9}{o':HO}
def HOk.write(ok:HOk P w H h)(i:Mut (H x))(o:e=x\/H e=Kh (.own x))(k:∀ b u,b≠e->h.get? b=Kh u->h'.get? b=Kh u)(m:∃ u,h'.get? e=Kh u)
  (new:uL P w (upd H x o') h' x o'):HOk P w (upd H x o') h':=λb u q=>by
 have f:∀ c y,H c=Kh (.own y)->c≠x:=λc y r z=>by subst z; rw[r] at i; rwa[i]
 have g:∀ c xs,H c=Kh (.tup xs)->c≠x:=λc xs r z=>by subst z; rw[r] at i; rwa[i]
 by_cases l:b=x
 ·subst l; rw[zA] at q; cases q; rwa[new]
 ·rw[zH l] at q;by_cases d:b=e
  ·have n:H b=Kh (.own x):=by
    rcases o with z | z
    ·rwa[x4 (d.trans z) l]
    ·rw[d]; rwa[z]
   rw[q] at n; cases n;obtain⟨v,p⟩:=m;rwa[v,by rw[d]; exact p]
  ·refine(ok b u q).stay (λc v j r=>k c v ?_ r) (λc r=>by rw[zH (f c b r)]; rwa[r]) λc xs r=>by rw[zH (g c xs r)]; rwa[r]
   rcases j with rfl | j
   ·rwa[d]
   ·rintro rfl;rcases o with z | z
    ·rwa[f c b j z]
    ·rw[j] at z; cases z; rwa[l rfl]
end

structure Un(fs ex:List b9)(H H':Hp)(h h':Ae):Prop where
 keep:∀ b o,h.get? b=Kh o->H b=Ki->b ∉ fs->b ∉ ex->h'.get? b=Kh o
 slot:∀ b o,h.get? b=Kh o->H b=Ki->b∈fs->b ∉ ex->∃ sl,h'.get? b=Kh { o with slots:=sl }
 free:∀ b o,h.get? b=Kh o->H b=Ki->b ∉ ex->H' b=Ki
 there:∀ b o,h.get? b=Kh o->b ∉ ex->∃ o',h'.get? b=Kh o'
 tups:∀ b xs,H b=Kh (.tup xs)->H' b=Kh (.tup xs)
 frzs:∀ b o u,H b=Kh (.frz o u)->H' b=Kh (.frz o u)
 tbls:∀ b ps,H b=Kh (.tbl ps)->∃ more,H' b=Kh (.tbl (ps++more))
section
variable{fs fs' ex ex':List b9}{H H1 H2:Hp}{h h1 h2 h':Ae}{a x e:b9}{o:HO}
def Un.any(u:Un fs ex H H1 h h1)(q:h.get? b=Kh ob)(n:H b=Ki)(c:b ∉ ex):∃ f,h1.get? b=Kh { ob with slots:=f }:=by
 by_cases d:b∈fs
 ·rwa[u.slot b ob q n d c]
 ·rwa[ob.slots,u.keep b ob q n d c]
def Un.kept(k:∀ b u,h.get? b=Kh u->h'.get? b=Kh u):Un fs ex H H h h' :=
 ⟨λb ob q _ _ _=>k b ob q,λb ob q _ _ _=>⟨ob.slots,k b ob q⟩,λ_ _ _ n _=>n,λb ob q _=>⟨ob,k b ob q⟩,λ_ _ q=>q,λ_ _ _ q=>q,λ_ c q=>⟨#[],by rw[q]; simp⟩⟩
def Un.refl:Un fs ex H H h h:=Un.kept λ_ _ q=>q
def Un.laid(k:∀ b u,h.get? b=Kh u->h'.get? b=Kh u)(d:h.objs.size<=a)(c:H a=Ki):Un fs ex H (upd H a o) h h' where
 keep:=λb u q _ _ _=>k b u q
 slot:=λb u q _ _ _=>⟨u.slots,k b u q⟩
 free:=λb u q n _=>by rw[zH (m7 (n9 (i5 q) d))]; rwa[n]
 there:=λb u q _=>⟨u,k b u q⟩
 tups:=λb xs q=>by rw[zH (zE q c)]; rwa[q]
 frzs:=λb u xs q=>by rw[zH (zE q c)]; rwa[q]
 tbls:=λb f q=>⟨#[],by rw[zH (zE q c),q]; simp⟩
def Un.write(d:Mut (H x))(l:e=x\/H e=Kh (.own x))(k:∀ b u,b≠e->h.get? b=Kh u->h'.get? b=Kh u)(g:∃ u,h'.get? e=Kh u):Un fs ex H (upd H x o) h h':=by
 have i:∀ b,H b=Ki->b≠x:=λb n z=>by subst z; rw[n] at d; rwa[d]
 have j:∀ b,H b=Ki->b≠e:=λb n z=>by
  subst z;rcases l with r | r
  ·rwa[i b n r]
  ·rw[n] at r; cases r
 have f:∀ b u,H b=Kh u->¬ Mut (Kh u)->b≠x:=λb u q nm z=>by subst z; rw[q] at d; rwa[nm d]
 refine⟨λb u q n _ _=>k b u (j b n) q,λb u q n _ _=>⟨u.slots,k b u (j b n) q⟩,λb u q n _=>by rw[zH (i b n)]; exact n,λb u q _=>?_,
  λb xs q=>by rw[zH (f b _ q λz=>z)]; exact q,λb u xs q=>by rw[zH (f b _ q λz=>z)]; exact q,λb m q=>⟨#[],by rw[zH (f b _ q λz=>z),q]; simp⟩⟩
 by_cases c:b=e
 ·subst c; rwa[g]
 ·rwa[u,k b u c q]
end

def trk(h:Ae)(H:Hp):List b9:=(Ay h.objs.size).filter λa=>(H a).isSome
def UF(h:Ae)(H:Hp):Ae:=Gf h (trk h H)
def Xo(h:Ae)(H:Hp):(UF h H).objs.size=h.objs.size:=PySem.W.hideAll_size _ _
def VT{h:Ae}{H:Hp}(e:h.get? b=Kh o)(n:H b=Ki):(UF h H).get? b=Kh o :=
 GQ _ e λc=>by
  have q:(H b).isSome=true:=(Af.mp c).2;rw[n] at q; simp at q
def Sw{H:Hp}(e:(UF h H).get? b=Kh o):h.get? b=Kh o/\H b=none:=by
 have c:h.get? b=Kh o:=G4 (trk h H) e;exists c;cases q:H b with
 | none=>rfl
 | some x =>
  have d:b∈trk h H:=Af.mpr ⟨BV.mpr (i5 c),by simp[q]⟩;have z:(UF h H).get? b=none:=PySem.W.hideAll_none (trk h H) d;rw[z] at e; cases e

end L2

namespace L2

structure Mod(K:b6)(mg:j4->Option c5)(base:Ae):Prop where
 kin:K.In base
 glob:base.Ns mainGlobals mg
 blt:∃ mb,base.Ns builtinsNs mb/\∀ x:j4,x ≠ "__name__" -> mb x=bootBuiltins x
 nolimit:base.NoLimit

structure Cx where
 prog:j9
 w:o9
 K:b6
 mg:j4->Option c5
 base:Ae
 A:Ad
 N:List j4
 s₀:c8
 H₀:Hp
 env:EM
 outer:List EM
 stack:List EM
 ex:List b9
 fn:j4->Bool
 calm:Bool
 pn:List (b9×BP)
 xe:c5->c8->Prop
def frs(l:List EM):List b9:=l.filterMap (·.frame)
abbrev Cx.fs(X:Cx):List b9:=frs X.outer

def Vis(c:DR)(x:j4):Prop:=c.names.lookup x=Kh .local\/c.names.lookup x=Kh .cell\/c.names.lookup x=Kh .free
def Loc(c:DR)(x:j4):Prop:=c.names.lookup x=Kh .local\/c.names.lookup x=Kh .cell
def Look(env:EM)(h:Ae)(m:j4->Option c5)(x:j4)(u:c5):Prop :=
 (env.kindOf x=Kh .local/\m x=Kh u)\/((env.kindOf x=Kh .cell\/env.kindOf x=Kh .free)/\∃ c,env.cells.lookup x=Kh c/\h.IsCell c (Kh u))

structure Cx.Ok(X:Cx):Prop where
 mod:Mod X.K X.mg X.base
 kind:X.env.scope.kind=.function
 glob:X.env.globals=mainGlobals
 blt:X.env.builtins=builtinsNs
 above:X.s₀.heap.objs.size<=X.env.locals
 inj:∀ x y c,X.env.cells.lookup x=Kh c->X.env.cells.lookup y=Kh c->x=y
 has:∀ x,(X.env.kindOf x=Kh .cell\/X.env.kindOf x=Kh .free)->∃ c,X.env.cells.lookup x=Kh c
 cab:∀ x c,X.fn x=Kj->X.env.cells.lookup x=Kh c->X.s₀.heap.objs.size<=c
 hd:X.calm=Kj->X.A.handled=Ki
 frames:X.A.frames=Kh X.stack
 stk:X.stack=X.outer\/(X.stack=X.env::X.outer/\X.env.frame=Kh X.env.locals)
 exf:∀ b∈X.ex,b≠X.env.locals/\∀ x c,X.env.cells.lookup x=Kh c->c≠b
 bs:∀ b o,X.base.get? b=Kh o->X.s₀.heap.get? b=Kh o/\X.H₀ b=Ki
 bsz:X.base.objs.size<=X.s₀.heap.objs.size
 noex:∀ b o,X.base.get? b=Kh o->b ∉ X.ex
 exfs:∀ b∈X.ex,b ∉ X.fs
 funs:X.s₀.heap.FunFrames X.base X.outer
 frf:∀ b∈X.fs,X.H₀ b=Ki

structure Inv(X:Cx)(Kl:List (b9×BP))(σ:List (Option V))(H:Hp)(s:c8):Prop where
 ok:X.Ok
 os:s.os=X.s₀.os
 bare:EA s.gens
 base:Un X.fs X.ex X.H₀ H X.s₀.heap s.heap
 loc:∃ m,s.heap.Ns X.env.locals m/\∀(i:Nat)(x:j4)(v:V),X.N[i]?=Kh x->σ[i]?=Kh (Kh v)->Vis X.env.scope x->∃ u,xZ v u/\Look X.env s.heap m x u
 cell:∀ x c,X.env.cells.lookup x=Kh c->∃ v,s.heap.IsCell c v
 free:H X.env.locals=Ki
 freeC:∀ x c,X.env.cells.lookup x=Kh c->H c=Ki
 pin:∀ p∈X.pn++Kl,s.heap.get? p.1=Kh p.2/\H p.1=Ki/\p.1≠X.env.locals/\p.1 ∉ X.fs/\∀ v,p.2.data≠.cell v
 hok:HOk X.prog X.w H s.heap
 len:σ.length=X.N.length

section
variable{X:Cx}{Kl:List (b9×BP)}{σ:List (Option V)}{H H':Hp}{s:c8}{h':Ae}

def Cx.Ok.nofr(ok:X.Ok)(e:X.base.get? b=Kh o):b ∉ X.fs:=λc=>by
 have:=(ok.funs.mem c).1;rw[e] at this; cases this
def Inv.bs(I:Inv X Kl σ H s):∀ b o,X.base.get? b=Kh o->s.heap.get? b=Kh o/\H b=none:=λb o e =>
 ⟨I.base.keep b o (I.ok.bs b o e).1 (I.ok.bs b o e).2 (I.ok.nofr e) (I.ok.noex b o e),I.base.free b o (I.ok.bs b o e).1 (I.ok.bs b o e).2 (I.ok.noex b o e)⟩
def Inv.bk(I:Inv X Kl σ H s):∀ b o,X.base.get? b=Kh o->s.heap.get? b=Kh o:=λb o e=>(I.bs b o e).1
def Inv.mod(I:Inv X Kl σ H s):Mod X.K X.mg X.base:=I.ok.mod
def Inv.kIn(I:Inv X Kl σ H s):X.K.In s.heap:=I.ok.mod.kin.keeps I.bk
def Inv.lt(I:Inv X Kl σ H s):X.env.locals<s.heap.objs.size:=let ⟨_,hn,_⟩:=I.loc; hn.lt
def Inv.sz(I:Inv X Kl σ H s):X.s₀.heap.objs.size<=s.heap.objs.size:=g7 I.ok.above (Bq I.lt)
def Inv.nofs(I:Inv X Kl σ H s){a:b9}(h:s.heap.objs.size<=a):a ∉ X.fs:=λd=>by
 obtain⟨_,o,c,_⟩:=I.ok.funs.mem d;rwa[x4 (n9 (i5 c) (g7 I.sz h)) (BB _)]
def Inv.cne(I:Inv X Kl σ H s):∀ x c,X.env.cells.lookup x=Kh c->c≠X.env.locals:=λx c e z=>by
 obtain⟨v,o,g,hd⟩:=I.cell x c e;obtain⟨m,⟨h,i,j,d,f,_⟩,_⟩:=I.loc;rw[z,d] at g; cases g; rw[f] at hd; cases hd
def Inv.funs(I:Inv X Kl σ H s):s.heap.FunFrames X.base X.outer:=by
 have all:∀(l:List EM),(∀ b∈frs l,b∈X.fs)->X.s₀.heap.FunFrames X.base l->s.heap.FunFrames X.base l:=by
  intro l
  induction l with
  | nil=>intro _ _; trivial
  | cons env r h =>
   intro g n;obtain⟨p,⟨L,o,c,m,j,hd⟩,i⟩:=n;have f:L∈X.fs:=g L (by unfold frs; rw[BG,c]; rwa[o4]);obtain⟨q,e⟩:=I.base.slot L o j (I.ok.frf L f) f λz=>I.ok.exfs L z f;rwa[p,⟨L,_,c,m,e,hd⟩,h (λb d=>g b (by unfold frs; rw[BG,c]; exact v9 _ d)) i]
 rwa[all X.outer (λ_ d=>d) I.ok.funs]

def Inv.stack(I:Inv X Kl σ H s):s.heap.FunFrames X.base X.stack:=by
 rcases I.ok.stk with e | ⟨e,d⟩
 ·rw[e]; rwa[I.funs]
 ·rw[e];obtain⟨m,c,_⟩:=I.loc;erw[.cons (by rw[I.ok.kind]; decide) d c ?_ I.funs];rwa[Ei (g7 I.ok.bsz I.ok.above)]
def Inv.stkSub(I:Inv X Kl σ H s):∀ b∈frs X.stack,b∈X.env.locals::X.fs:=λb c=>by
 rcases I.ok.stk with e | ⟨e,d⟩
 ·rw[e] at c; rwa[v9 _ c]
 ·rw[e] at c;unfold frs at c;rw[BG,d] at c;rwa[c]
def Inv.stkFree(I:Inv X Kl σ H s):∀ b∈frs X.stack,H b=none:=λb c=>by
 rcases j5.mp (I.stkSub b c) with e | c
 ·rw[e]; rwa[I.free]
 ·obtain⟨_,o,d,_⟩:=I.ok.funs.mem c;rwa[I.base.free b o d (I.ok.frf b c) λz=>I.ok.exfs b z c]

def Inv.step{g':Array ID}{t':Nat}{d':Drawn}{ch:List b9}(I:Inv X Kl σ H s)
  (h:∀ b∈ch,(b∈X.ex\/X.s₀.heap.objs.size<=b)/\b≠X.env.locals/\(∀ x c,X.env.cells.lookup x=Kh c->c≠b)/\∀ p∈X.pn++Kl,p.1≠b)
  (keep:∀ b o,b≠X.env.locals->b ∉ X.fs->b ∉ ch->s.heap.get? b=Kh o->H b=Ki->h'.get? b=Kh o)
  (slot:∀ b o,b≠X.env.locals->b∈X.fs->b ∉ ch->s.heap.get? b=Kh o->H b=Ki->∃ M,h'.get? b=Kh { o with slots:=M }) (free:∀ b o,b ∉ ch->s.heap.get? b=Kh o->H b=Ki->H' b=Ki)
  (there:∀ b o,b ∉ ch->s.heap.get? b=Kh o->∃ D,h'.get? b=Kh D)
  (tups:∀ b xs,H b=Kh (.tup xs)->H' b=Kh (.tup xs)) (frzs:∀ b o u,H b=Kh (.frz o u)->H' b=Kh (.frz o u)) (tbls:∀ b J,H b=Kh (.tbl J)->∃ more,H' b=Kh (.tbl (J++more)))
  (ns:∀ m,s.heap.Ns X.env.locals m->h'.Ns X.env.locals m) (hok:HOk X.prog X.w H' h') (S:EA g') :
  Inv X Kl σ H' { s with heap:=h',gens:=g',drawn:=d',toks:=t' }:=by
 have E:∀ b o,X.s₀.heap.get? b=Kh o->b≠X.env.locals:=λb o e=>m7 (n9 (i5 e) I.ok.above);have y:∀ b o,X.s₀.heap.get? b=Kh o->b ∉ X.ex->b ∉ ch:=λb o e f B=>by
  rcases (h b B).1 with z | z
  ·rwa[f z]
  ·rwa[x4 (n9 (i5 e) z) (BB _)]
 have j:∀ x c,X.env.cells.lookup x=Kh c->∀ v,s.heap.IsCell c v->h'.IsCell c v:=λx c e v ⟨o,C,hd⟩=>by
  have g:c ∉ ch:=λz=>(h c z).2.2.1 x c e rfl;by_cases P:c∈X.fs
  ·obtain⟨M,q⟩:=slot c o (I.cne x c e) P g C (I.freeC x c e);rwa[_,q,hd]
  ·rwa[o,keep c o (I.cne x c e) P g C (I.freeC x c e),hd]
 erw[I.ok,I.os,S,⟨λb o e n B f=>?_,λb o e n B f=>?_,λb o e n f=>?_,λb o e f=>?_,λb xs e=>tups b xs (I.base.tups b xs e),λb o xs e=>frzs b o xs (I.base.frzs b o xs e),λb J e=>?_⟩,?_,λx c e=>?_,?_,λx c e=>?_,λp O=>?_,hok,I.len]
 ·rwa[keep b o (E b o e) B (y b o e f) (I.base.keep b o e n B f) (I.base.free b o e n f)]
 ·obtain⟨M,A⟩:=I.base.slot b o e n B f;obtain⟨L,G⟩:=slot b _ (E b o e) B (y b o e f) A (I.base.free b o e n f);rwa[L,G]
 ·obtain⟨D,A⟩:=I.base.there b o e f;rwa[free b D (y b o e f) A (I.base.free b o e n f)]
 ·obtain⟨D,A⟩:=I.base.there b o e f;rwa[there b D (y b o e f) A]
 ·obtain⟨m1,A⟩:=I.base.tbls b J e;obtain⟨m2,G⟩:=tbls b _ A;rwa[m1++m2,by rw[G,Array.append_assoc]]
 ·obtain⟨m,Q,R⟩:=I.loc;erw[m,ns m Q,λi x v A G T=>?_];obtain⟨u,r,l⟩:=R i x v A G T;exists u,r;rcases l with l | ⟨k,c,e,z⟩
  ·rwa[.inl l]
  ·rwa[.inr ⟨k,c,e,j x c e _ z⟩]
 ·obtain⟨v,z⟩:=I.cell x c e;rwa[v,j x c e v z]
 ·obtain⟨m,⟨o,_,_,C,_⟩,_⟩:=I.loc;rwa[free _ o (λz=>(h _ z).2.1 rfl) C I.free]
 ·obtain⟨v,o,C,hd⟩:=I.cell x c e;rwa[free c o (λz=>(h c z).2.2.1 x c e rfl) C (I.freeC x c e)]
 ·obtain⟨e,n,ne,N,d⟩:=I.pin p O;have g:p.1 ∉ ch:=λz=>(h p.1 z).2.2.2 p O rfl;rwa[keep p.1 p.2 ne N g e n,free p.1 p.2 g e n,ne,N,d]
def Inv.un{t':Nat}(I:Inv X Kl σ H s)(u:Un X.fs [] H H' s.heap h')(hok:HOk X.prog X.w H' h'):Inv X Kl σ H' { s with heap:=h',toks:=t' }:=by
 obtain⟨m,⟨o,x,y,h,r⟩,_⟩:=id I.loc;obtain⟨p,l⟩:=u.any h I.free (by simp);exact I.step (g':=s.gens) (d':=s.drawn) (ch:=[]) (λ_ z=>nomatch z) (λb o _ d _ e n=>u.keep b o e n d (by simp)) (λb o _ d _ e n=>u.slot b o e n d (by simp)) (λb o _ e n=>u.free b o e n (by simp)) (λb o _ e=>u.there b o e (by simp)) u.tups u.frzs u.tbls (λv j=>by
  obtain⟨q,f,g,c,i⟩:=j;rw[h] at c; cases c;rwa[_,f,g,l,i]) hok I.bare
def Inv.call{g':Array ID}{t':Nat}{d':Drawn}{ch:List b9}(I:Inv X Kl σ H s)(u:Un (frs X.stack) ch H H' s.heap h')(hok:HOk X.prog X.w H' h')(y:EA g')
  (g:∀ b∈ch,(b∈X.ex\/X.s₀.heap.objs.size<=b)/\b≠X.env.locals/\(∀ x c,X.env.cells.lookup x=Kh c->c≠b)/\∀ p∈X.pn++Kl,p.1≠b) :
  Inv X Kl σ H' { s with heap:=h',gens:=g',drawn:=d',toks:=t' }:=by
 obtain⟨m,⟨o,E,G,l,r⟩,_⟩:=id I.loc;obtain⟨B,h⟩:=u.any l I.free λz=>(g _ z).2.1 rfl;exact I.step (ch:=ch) g (λb o h A d e n=>u.keep b o e n (λz=>(j5.mp (I.stkSub b z)).elim h A) d) (λb o _ _ d e n=>u.any e n d) (λb o d e n=>u.free b o e n d) (λb o d e=>u.there b o e d) u.tups u.frzs u.tbls (λD v=>by
  obtain⟨C,i,j,f,q⟩:=v;rw[l] at f; cases f;rwa[_,i,j,h,q]) hok y
def Inv.turned{t':Nat}{d:b9}(I:Inv X Kl σ H s)(k:∀ b o,b≠d->s.heap.get? b=Kh o->h'.get? b=Kh o)(j:H d=Ki)(h:d≠X.env.locals)
  (h1:d∈X.ex\/X.s₀.heap.objs.size<=d) (h2:∀ x c,X.env.cells.lookup x=Kh c->c≠d) (h3:∀ p∈X.pn++Kl,p.1≠d):Inv X Kl σ H { s with heap:=h',toks:=t' }:=by
 have g:∀ b u,H b=Kh u->b≠d:=λb u e z=>by rw[z,j] at e; cases e
 refine I.step (g':=s.gens) (d':=s.drawn) (ch:=[d]) (λb w=>?_) (λb o _ _ f e _=>k b o (λz=>f (by simp[z])) e) (λb o _ _ f e _=>⟨o.slots,k b o (λz=>f (by simp[z])) e⟩) (λ_ _ _ _ n=>n)
  (λb o f e=>⟨o,k b o (λz=>f (by simp[z])) e⟩) (λ_ _ e=>e) (λ_ _ _ e=>e) (λb B e=>⟨#[],by rw[e]; simp⟩) (λm l=>?_) (λb u e=>?_) I.bare
 ·have e:b=d:=by simpa using w
  subst e;rwa[h1,h,h2,h3]
 ·obtain⟨o,y,A,i,r⟩:=l;rwa[o,y,A,k _ o (BA h) i,r]
 ·refine(I.hok b u e).stay (λc v f q=>k c v ?_ q) (λ_ q=>q) λ_ _ q=>q;rcases f with z | z
  ·rw[z]; rwa[g b u e]
  ·rwa[g c _ z]
def Inv.tok(I:Inv X Kl σ H s)(t:Nat):Inv X Kl σ H { s with toks:=t }:=I.un (h':=s.heap) (t':=t) Un.refl I.hok
def Inv.kept{t':Nat}(I:Inv X Kl σ H s)(k:∀ b u,s.heap.get? b=Kh u->h'.get? b=Kh u):Inv X Kl σ H { s with heap:=h',toks:=t' }:=I.un (Un.kept k) (I.hok.kept k)
def Inv.laid{a:b9}{t':Nat}(I:Inv X Kl σ H s)(k:∀ b u,s.heap.get? b=Kh u->h'.get? b=Kh u)(c:s.heap.objs.size<=a)(new:uL X.prog X.w (upd H a o) h' a o) :
  Inv X Kl σ (upd H a o) { s with heap:=h',toks:=t' }:=I.un (Un.laid k c (I.hok.fresh c)) (I.hok.laid k c new)
def Inv.write{x e:b9}{t':Nat}(I:Inv X Kl σ H s)(d:Mut (H x))(f:e=x\/H e=Kh (.own x))(k:∀ b u,b≠e->s.heap.get? b=Kh u->h'.get? b=Kh u)(c:∃ u,h'.get? e=Kh u)
  (new:uL X.prog X.w (upd H x o) h' x o):Inv X Kl σ (upd H x o) { s with heap:=h',toks:=t' }:=I.un (Un.write d f k c) (I.hok.write d f k c new)
def Inv.pins_of{c:List (b9×BP)}(I:Inv X Kl σ H s)(h:∀ p∈c,s.heap.get? p.1=Kh p.2/\H p.1=Ki/\p.1≠X.env.locals/\p.1 ∉ X.fs/\∀ v,p.2.data≠.cell v):Inv X c σ H s :=
 ⟨I.ok,I.os,I.bare,I.base,I.loc,I.cell,I.free,I.freeC,λp d=>(i9.mp d).elim (λz=>I.pin p (Bg _ z)) (h p),I.hok,I.len⟩

def aa{N:List j4}(c:N.Nodup){i j:Nat}(a:N[i]?=Kh x)(b:N[j]?=Kh x):i=j:=by
 obtain⟨h1,e⟩:=c6.mp a;obtain⟨h2,d⟩:=c6.mp b;exact(HM c).mp (e.trans d.symm)

def Wh{E:c5->c8->Prop}{i:Nat}{Q:Unit->c8->Prop}(I:Inv X Kl σ H s)(hN:X.N.Nodup)(hi:X.N[i]?=Kh x)(C:Loc X.env.scope x)(r:xZ v u)
  (h:∀ s',Inv X Kl (σ.set i (Kh v)) H s'->(∃ a,BQ a s.heap s'.heap/\(a=X.env.locals\/X.env.cells.lookup x=Kh a))->Q () s') (hf:X.fn x=Kj\/X.env.scope.names.lookup x=Kh .local:=by first | exact .inl rfl | exact .inr rfl | assumption):wpAny M A (storeName X.env x u) Q E s:=by
 obtain⟨m,hn,hl⟩:=id I.loc;have Y:(X.env.scope.kind == .class||(X.env.scope.kind == .module&&X.env.locals != X.env.globals))=false:=by rw[I.ok.kind]; rfl
 have L:i<σ.length:=by rw[I.len]; exact(c6.mp hi).1
 have cne:=I.cne;have g:∀{a:b9}{h':Ae},(∃ o,s.heap.get? a=Kh o/\H a=Ki)->BQ a s.heap h'->HOk X.prog X.w H h':=λ{a h'} ha f b ob e=>by
  obtain⟨_,_,D⟩:=ha;refine(I.hok b ob e).stay (λc w' B q=>(f.2 c ?_).trans q) (λ_ q=>q) λ_ _ q=>q;rintro rfl;rcases B with rfl | B
  ·rw[D] at e; cases e
  ·rw[D] at B; cases B
 rcases C with J | J
 ·erw[wpAny_storeName_local J hn (λh' hn' f=>?_) Y];obtain⟨oL,_,_,hoL,_⟩:=id hn;refine h _ ⟨I.ok,I.os,I.bare,⟨λb o e n R C=>?_,λb o e n R C=>?_,I.base.free,λb o e C=>?_,I.base.tups,I.base.frzs,I.base.tbls⟩,⟨_,hn',λj y v' l G e3=>?_⟩,λy c e=>?_,I.free,I.freeC,λp hp=>?_,g ⟨oL,hoL,I.free⟩ f,by simpa using I.len⟩ ⟨_,f,.inl rfl⟩
  ·exact(f.2 b (m7 (n9 (i5 e) I.ok.above))).trans (I.base.keep b o e n R C)
  ·obtain⟨sl,l⟩:=I.base.slot b o e n R C;rwa[sl,(f.2 b (m7 (n9 (i5 e) I.ok.above))).trans l]
  ·obtain⟨o',l⟩:=I.base.there b o e C;rwa[o',(f.2 b (m7 (n9 (i5 e) I.ok.above))).trans l]
  ·by_cases O:j=i
   ·subst O;rw[hi] at l; cases l;rw[DS L] at G;cases G;rwa[u,r,.inl ⟨J,by simp⟩]
   ·rw[Gz (BA O)] at G;obtain⟨u',r',q⟩:=hl j y v' l G e3;exists u',r';rcases q with ⟨k,e⟩ | ⟨k,c,e,z⟩
    ·erw[.inl ⟨k,?_⟩];have:y≠x:=λe=>O (aa hN l (e ▸ hi));simp[this,e]
    ·rwa[.inr ⟨k,c,e,z.sameBut f (cne y c e)⟩]
  ·obtain⟨w',z⟩:=I.cell y c e;rwa[w',z.sameBut f (cne y c e)]
  ·obtain⟨e,n,ne,nf,d⟩:=I.pin p hp;rwa[(f.2 p.1 ne).trans e,n,ne,nf,d]
 ·have P:X.fn x=true:=by
   rcases hf with z | z
   ·rwa[z]
   ·rw[z] at J; cases J
  obtain⟨c,B⟩:=I.ok.has x (.inl J);obtain⟨w',z⟩:=I.cell x c B;erw[wpAny_storeName_cell I.ok.kind J B z (λh' hc' f=>?_)];obtain⟨oc,T,S⟩:=id z;refine h { s with heap:=h' } ⟨I.ok,I.os,I.bare,⟨λb o e n R C=>?_,λb o e n R C=>?_,I.base.free,λb o e C=>?_,I.base.tups,I.base.frzs,I.base.tbls⟩,⟨m,hn.sameBut f (BA (cne x c B)),λj y v' l G e3=>?_⟩,λy c' e=>?_,I.free,I.freeC,λp hp=>?_,g ⟨oc,T,I.freeC x c B⟩ f,by simpa using I.len⟩ ⟨c,f,.inr B⟩
  ·exact(f.2 b (m7 (n9 (i5 e) (I.ok.cab x c P B)))).trans (I.base.keep b o e n R C)
  ·obtain⟨sl,l⟩:=I.base.slot b o e n R C;rwa[sl,(f.2 b (m7 (n9 (i5 e) (I.ok.cab x c P B)))).trans l]
  ·obtain⟨o',l⟩:=I.base.there b o e C;rwa[o',(f.2 b (m7 (n9 (i5 e) (I.ok.cab x c P B)))).trans l]
  ·by_cases O:j=i
   ·subst O;rw[hi] at l; cases l;rw[DS L] at G;cases G;rwa[u,r,.inr ⟨.inl J,c,B,hc'⟩]
   ·rw[Gz (BA O)] at G;obtain⟨u',r',q⟩:=hl j y v' l G e3;exists u',r';rcases q with q | ⟨k,c',e,z'⟩
    ·rwa[.inl q]
    ·erw[.inr ⟨k,c',e,z'.sameBut f ?_⟩];rintro rfl;rwa[O (aa hN l (I.ok.inj _ _ _ e B ▸ hi))]
  ·by_cases Z:c'=c
   ·subst Z; rwa[_,hc']
   ·obtain⟨w2,z2⟩:=I.cell y c' e;rwa[w2,z2.sameBut f Z]
  ·obtain⟨e,n,ne,nf,d⟩:=I.pin p hp;erw[(f.2 p.1 ?_).trans e,n,ne,nf,d];intro q;rw[q,T] at e;have q':oc=p.2:=x6 e;rwa[d w' (by rw[<- q']; exact S)]
def nD{E:c5->c8->Prop}{i:Nat}{Q:Unit->c8->Prop}(I:Inv X Kl σ H s)(f:X.N.Nodup)(hi:X.N[i]?=Kh x)(d:Loc X.env.scope x)(r:xZ v u)
  (h:∀ c,Inv X Kl (σ.set i (Kh v)) H c->Q () c) (e:X.fn x=Kj\/X.env.scope.names.lookup x=Kh .local:=by first | exact .inl rfl | exact .inr rfl | assumption):wpAny M A (storeName X.env x u) Q E s :=
 Wh I f hi d r (λc g _=>h c g) e
def Inv.call'{s':c8}(I:Inv X Kl σ H s)(i:s'.os=s.os)(u:Un (frs X.stack) ch H H' s.heap s'.heap)(hok:HOk X.prog X.w H' s'.heap)(j:EA s'.gens)
  (d:∀ b∈ch,(b∈X.ex\/X.s₀.heap.objs.size<=b)/\b≠X.env.locals/\(∀ x c,X.env.cells.lookup x=Kh c->c≠b)/\∀ p∈X.pn++Kl,p.1≠b):Inv X Kl σ H' s':=by
 obtain⟨h',f,g,t',h⟩:=s';have e:h=s.os:=i;subst e;rwa[I.call (g':=f) (t':=t') (d':=g) u hok j d]
end

abbrev XK:=c5->Option b9->Hp->Prop
abbrev St:=List (Option V)
abbrev VK:=V->Hp->Prop
abbrev TE:=St->Hp->VK->Prop
abbrev TT:=St->Hp->(Bool->Hp->Prop)->Prop
abbrev TA:=St->Hp->(List V->Hp->Prop)->Prop
structure WW where
 nx:St->Hp->Prop
 rt:VK
 bk:St->Hp->Prop:=λ_ _=>False
 ct:St->Hp->Prop:=λ_ _=>False
abbrev TS:=WW->St->Hp->Prop

def EP(X:Cx)(f:List (b9×BP))(d:St)(Q:VK)(u:c5)(e:c8):Prop:=∃ v c,Inv X f d c e/\xZ v u/\Q v c
def TP(X:Cx)(f:List (b9×BP))(d:St)(Q:Bool->Hp->Prop)(b:Bool)(e:c8):Prop:=∃ c,Inv X f d c e/\Q b c
def AP(X:Cx)(h:List (b9×BP))(e:St)(Q:List V->Hp->Prop)(f:List c5)(g:c8):Prop:=∃ c d,Inv X h e d g/\yW c f/\Q c d
def SP(X:Cx)(g:List (b9×BP))(D:WW)(f:Flow)(e:c8):Prop :=
 match f with
 | .next=>∃ c d,Inv X g c d e/\D.nx c d
 | .brk=>∃ c d,Inv X g c d e/\D.bk c d
 | .cont=>∃ c d,Inv X g c d e/\D.ct c d
 | .ret u=>∃ v c d,Inv X g c d e/\xZ v u/\D.rt v d

def PE(X:Cx)(e:AD)(t:TE):Prop :=
 ∀(d:List (b9×BP))(s:c8)(c:St)(H:Hp)(Q:VK),Inv X d c H s->t c H Q->wpAny (model X.prog X.w) X.A (eval e X.env) (EP X d c Q) X.xe s
def PT(X:Cx)(e:AD)(t:TT):Prop :=
 ∀(d:List (b9×BP))(s:c8)(c:St)(H:Hp)(Q:Bool->Hp->Prop),Inv X d c H s->t c H Q->wpAny (model X.prog X.w) X.A (isTrue e X.env (eval e X.env)) (TP X d c Q) X.xe s
def PW(X:Cx)(e:AD)(t:TT):Prop :=
 ∀(c:Fi c5)(f:List (b9×BP))(s:c8)(d:St)(H:Hp)(Q:Bool->Hp->Prop),Inv X f d H s->t d H Q->wpAny (model X.prog X.w) X.A (isTrue e X.env c) (TP X f d Q) X.xe s
def PW.pt(h:PW X e t):PT X e t:=h _
def PA(X:Cx)(e:List AD)(t:TA):Prop :=
 ∀(pos:Ea)(d:List (b9×BP))(s:c8)(c:St)(H:Hp)(Q:List V->Hp->Prop),Inv X d c H s->t c H Q->wpAny (model X.prog X.w) X.A (spliced (backTo pos (starEach e X.env))) (AP X d c Q) X.xe s
def PS(X:Cx)(st:Ar)(t:TS):Prop :=
 ∀(d:List (b9×BP))(s:c8)(c:St)(H:Hp)(D:WW),Inv X d c H s->t D c H->wpAny (model X.prog X.w) X.A (exec st X.env) (SP X d D) X.xe s
def PSs(X:Cx)(st:List Ar)(t:TS):Prop :=
 ∀(d:List (b9×BP))(s:c8)(c:St)(H:Hp)(D:WW),Inv X d c H s->t D c H->wpAny (model X.prog X.w) X.A (execs st X.env) (SP X d D) X.xe s
def thn{c:Type}{t:Fi c}{Q d:c->c8->Prop}{M:Hi}{A:Ad}{E:c5->c8->Prop}{s:c8}(h:wpAny M A t Q E s)(e:∀ a s,Q a s->d a s):wpAny M A t d E s:=BC h e λ_ _ x=>x
end L2

namespace L2
section
variable{X:Cx}

def bin{a b:AD}{o n:TE}(C:PE X a o)(B:PE X b n){j:List (b9×BP)}{s:c8}{c:St}{H:Hp}{R:V->V->Hp->Prop}(I:Inv X j c H s)(h:o c H λx l=>n c l λy d=>R x y d)
  {m:Type} {Q:m->c8->Prop} {f:c5->c5->Fi m}
  (z:∀ v u i x y d,Inv X j c d i->xZ x v->xZ y u->R x y d->wpAny (model X.prog X.w) X.A (f v u) Q X.xe i) :
  wpAny (model X.prog X.w) X.A (eval a X.env) (λv g=>wpAny (model X.prog X.w) X.A (eval b X.env) (λu e=>wpAny (model X.prog X.w) X.A (f v u) Q X.xe e) X.xe g) X.xe s:=by
 erw[thn (C j s c H _ I h) λv p ⟨x,l,E,r1,r⟩=>?_];erw[thn (B j p c l _ E r) λu i ⟨y,d,D,r2,q⟩=>?_];rwa[z v u i x y d D r1 r2 q]

inductive TVar(i:Nat)(σ:St)(H:Hp)(Q:VK):Prop where
 | mk (v:V) (e:σ[i]?=Kh (Kh v)) (q:Q v H)
def RY(i:Nat):TE:=λc H Q=>TVar i c H Q
def tC(v:V):TE:=λ_ H Q=>Q v H
def QT{i:Nat}(z:X.N[i]?=Kh x)(p:Vis X.env.scope x)(hd:(x ==("__debug__" : j4))=false:=by decide)(j:(x ==("__classdict__" : j4))=false:=by decide):PE X (.Name x pos) (RY i):=by
 intro A s o H Q I h;obtain⟨v,e,h⟩:=h;obtain⟨m,q,y⟩:=I.loc;obtain⟨u,r,l⟩:=y i x v z e p;have g:EP X A o Q u s:=⟨v,H,I,r,h⟩;rcases l with ⟨f,w⟩ | ⟨f,c,n,d⟩
 ·rwa[IE (wpAny_loadName_local I.ok.kind f q w g) hd]
 ·rcases f with f | f
  ·rwa[IE (wpAny_loadName_cell I.ok.kind f n d g) hd]
  ·rwa[IE (wpAny_loadName_free I.ok.kind f n d g j) hd]
def uX{i j pos} : PE X (.Constant (.int i) j pos) (tC (.int i)):=λ_ _ _ H _ I h=>wpAny_Constant_int ⟨.int i,H,I.tok _,⟨_,rfl⟩,h⟩
def ff{b j pos} : PE X (.Constant (.bool b) j pos) (tC (.bl b)):=λ_ _ _ H _ I h=>Constant_bool ⟨.bl b,H,I,rfl,h⟩
def oF{j pos} : PE X (.Constant .none j pos) (tC .non):=λ_ _ _ H _ I h=>Constant_none ⟨.non,H,I,rfl,h⟩
def yC{x j pos} : PE X (.Constant (.str x) j pos) (tC (.str x)):=λ_ _ _ H _ I h=>G5 ⟨.str x,H,I.tok _,⟨_,rfl⟩,h⟩

def Gl(X:Cx)(x:j4):Prop:=X.env.kindOf x=Kh .globalImplicit
def yc{E:c5->c8->Prop}{c:St}{H:Hp}{Q:c5->c8->Prop}(I:Inv X f c H s)(e:Gl X x)(d:X.mg x=Kh u)(h:Q u s)
  (hd:(x ==("__debug__" : j4))=false:=by decide):wpAny (model X.prog X.w) X.A (eval (.Name x pos) X.env) Q E s :=
 EN I.ok.kind e (Calls.loadGlobal_global (by rw[I.ok.glob]; rwa[I.mod.glob.keeps I.bk]) d h) hd
def Wg{E:c5->c8->Prop}{c:St}{H:Hp}{Q:c5->c8->Prop}(I:Inv X i c H s)(g:Gl X x)(f:X.mg x=Ki)(d:bootBuiltins x=Kh u)(h:Q u s)
  (e:x ≠ "__name__" := by decide) (hd:(x ==("__debug__" : j4))=false:=by decide):wpAny (model X.prog X.w) X.A (eval (.Name x pos) X.env) Q E s:=by
 obtain⟨j,h1,h2⟩:=I.mod.blt;rwa[EN I.ok.kind g (Calls.loadGlobal_builtin (by rw[I.ok.glob]; exact I.mod.glob.keeps I.bk) f (by rw[I.ok.blt]; exact h1.keeps I.bk) ((h2 x e).trans d) h) hd]
variable{a b:AD}{ta tb:TE}{pos:Ea}
def PC(X:Cx)(g:IF)(a b:AD)(t:TE):Prop :=
 ∀(f:List (b9×BP))(s:c8)(e:St)(H:Hp)(Q:VK),Inv X f e H s->t e H Q ->
  wpAny (model X.prog X.w) X.A (eval a X.env) (λv d=>wpAny (model X.prog X.w) X.A (eval b X.env) (λu c=>wpAny (model X.prog X.w) X.A (compareOp g v u) (EP X f e Q) X.xe c) X.xe d) X.xe s
def tB(t:TE):TT:=λd H Q=>t d H λx e=>∃ c,x=.bl c/\Q c e
def Wp{t:TE}(h:PC X e a b t)(h1:behindInMarks e b=false:=by first | exact nobehind _ (by decide) (by decide) | rfl):PT X (.Compare a [e] [b] pos) (tB t):=by
 intro j s f H Q I i;erw[Gp (thn (h j s f H _ I i) λv p h1=>thn h1 λu o h2=>thn h2 λc n ⟨x,m,l,r1,g⟩=>?_) h1];obtain⟨d,rfl,q⟩:=g;cases r1;rwa[Cy ⟨m,l,q⟩]
def fY{t:TE}(h:PE X e t)(j:∀ c,isTrue e X.env c=(do let v <- c; standAt e.pos; holding [v] (truthy v)):=by intro _; rfl):PT X e (tB t):=by
 intro l s f H Q I i;erw[isTrue_plain (thn (h l s f H _ I i) λv o ⟨x,n,m,r1,g⟩=>?_) (j _)];obtain⟨d,rfl,q⟩:=g;cases r1;rwa[Cy ⟨n,m,q⟩]

variable{tA tB':TT}{rest:List AD}
def tAnd(t u:TT):TT:=λd H Q=>t d H λc e=>if c=Kj then u d e Q else Q Kk e
def tOr(t u:TT):TT:=λd H Q=>t d H λc e=>if c=Kj then Q Kj e else u d e Q
def tNot(t:TT):TT:=λd H Q=>t d H λc e=>Q (!c) e
def YJ(f:PT X a tA):PW X (.BoolOp .And [a] pos) tA:=by
 intro i g s d H Q I h;erw[isTrue_and (thn (f g s d H Q I h) λc j e=>?_)];cases c with
 | true=>rwa[isTrue_and_nil e]
 | false=>rwa[e]
def jO(f:PT X a tA):PW X (.BoolOp .Or [a] pos) tA:=by
 intro i g s d H Q I h;erw[isTrue_or (thn (f g s d H Q I h) λc j e=>?_)];cases c with
 | false=>rwa[isTrue_or_nil e]
 | true=>rwa[e]
def Th(n:PT X a tA)(m:PW X (.BoolOp .And (b::rest) pos) tB'):PW X (.BoolOp .And (a::b::rest) pos) (tAnd tA tB'):=by
 intro j f s d H Q I h;erw[isTrue_and (thn (n f s d H _ I h) λc l ⟨i,g,e⟩=>?_)];cases c with
 | true=>rwa[m j f l d i Q g e]
 | false=>rwa[i,g,e]
def cS(n:PT X a tA)(m:PW X (.BoolOp .Or (b::rest) pos) tB'):PW X (.BoolOp .Or (a::b::rest) pos) (tOr tA tB'):=by
 intro j f s d H Q I h;erw[isTrue_or (thn (n f s d H _ I h) λc l ⟨i,g,e⟩=>?_)];cases c with
 | true=>rwa[i,g,e]
 | false=>rwa[m j f l d i Q g e]
def dH(e:PT X a tA):PT X (.UnaryOp .Not a pos) (tNot tA):=by
 intro f s d H Q I h;rwa[isTrue_not (e f s d H (λc g=>Q (!c) g) I h)]
def tIf(t:TT)(ta tb:TE):TE:=λd H Q=>t d H λc e=>if c=Kj then ta d e Q else tb d e Q
def ak(m:PT X c tA)(o:PE X a ta)(n:PE X b tb):PE X (.IfExp c a b pos) (tIf tA ta tb):=by
 intro f s e H Q I h;erw[wpAny_IfExp (thn (m f s e H _ I h) λd g ⟨l,j,i⟩=>?_)];cases d with
 | true=>rwa[o f g e l Q j i]
 | false=>rwa[n f g e l Q j i]
end
end L2

namespace L2

def SqL(K:b6)(H:Hp)(a:b9)(xs:List V):Prop :=
 Rd H a (.lst xs) \/
  ∃(o:BP)(c:Array c5)(n:Nat),K.lookup a=Kh o/\o.cls=.type "list" /\ o.dict=Ki/\o.data=.seq c n/\c.size<=sizeLine/\yW xs c.toList
def SqT(K:b6)(H:Hp)(a:b9)(xs:List V):Prop :=
 Rd H a (.tup xs) \/
  ∃(o:BP)(c:Array c5)(n:Nat),K.lookup a=Kh o/\o.cls=.type "tuple" /\ o.data=.seq c n/\c.size<=sizeLine/\yW xs c.toList
def absV:c5->Option V
 | .none=>Kh .non
 | .bool b=>Kh (.bl b)
 | .int i _=>Kh (.int i)
 | .str x _=>Kh (.str x)
 | .bytes b _=>Kh (.byt b)
 | .float b _=>Kh (.flt b)
 | .ref a=>Kh (.ref a)
 | .type n=>Kh (.ty n)
 | _=>Ki
def xZ.abs(r:xZ x u):absV u=Kh x:=by
 cases x with
 | non=>cases r; rfl
 | bl _=>cases r; rfl
 | int _=>obtain⟨t,rfl⟩:=r; rfl
 | str _=>obtain⟨t,rfl⟩:=r; rfl
 | byt _=>obtain⟨t,rfl⟩:=r; rfl
 | flt _=>obtain⟨t,rfl⟩:=r; rfl
 | ref _=>cases r; rfl
 | ty _=>cases r; rfl
def xZ.inj(r:xZ x u)(q:xZ y u):x=y:=x6 (r.abs.symm.trans q.abs)
def yW.inj:∀{xs c:List V}{d:List c5},yW xs d->yW c d->xs=c
 | _,_,_,.nil,.nil=>rfl
 | _,_,_,.cons r t,.cons f e=>by rw[r.inj f,yW.inj t e]
section
variable{X:Cx}{Kl:List (b9×BP)}{σ:St}{H:Hp}{s:c8}{a:b9}{xs ys:List V}
def SqL.of{K:b6}(h:H a=Kh (.lst xs)):SqL K H a xs:=.inl (.inl h)
def SqT.of{K:b6}(h:H a=Kh (.tup xs)):SqT K H a xs:=.inl (.inl h)
def Inv.list(I:Inv X Kl σ H s)(h:SqL X.K H a xs):∃ c:List c5,yW xs c/\PlainL s.heap a c.toArray/\xs.length<=sizeLine:=by
 rcases h with h | ⟨o,c,n,f,g,hd,d,i,r⟩
 ·obtain⟨z,c,n,r,e⟩:=h.ok I.hok;rwa[c,r,⟨_,n,e,rfl,rfl,rfl⟩,z]
 ·exists c.toList,r,⟨o,n,I.kIn a o f,g,hd,by simpa using d⟩;have e:=r.length;simp only[j7] at e;lia
def Inv.tuple(I:Inv X Kl σ H s)(h:SqT X.K H a xs):∃ c:List c5,yW xs c/\IsTup s.heap a c.toArray/\xs.length<=sizeLine:=by
 rcases h with h | ⟨o,c,n,f,g,d,i,r⟩
 ·obtain⟨z,c,r,p⟩:=h.ok I.hok;rwa[c,r,p,z]
 ·exists c.toList,r,⟨o,I.kIn a o f,g,n,by simpa using d⟩;have e:=r.length;simp only[j7] at e;lia
def Inv.list_inj(I:Inv X Kl σ H s)(h:SqL X.K H a xs)(h':SqL X.K H a ys):xs=ys:=by
 obtain⟨f,r,⟨o,n,e,_,_,d⟩,_⟩:=I.list h;obtain⟨c,j,⟨l,m,g,_,_,i⟩,_⟩:=I.list h';rw[e] at g; cases g;rw[d] at i;injection i with d1 _
 have:f=c:=by simpa using congrArg JG d1
 subst this;rwa[r.inj j]
def Inv.tuple_inj(I:Inv X Kl σ H s)(h:SqT X.K H a xs)(h':SqT X.K H a ys):xs=ys:=by
 obtain⟨f,r,⟨o,e,_,n,d⟩,_⟩:=I.tuple h;obtain⟨c,j,⟨l,g,_,m,i⟩,_⟩:=I.tuple h';rw[e] at g; cases g;rw[d] at i;injection i with d1 _
 have:f=c:=by simpa using congrArg JG d1
 subst this;rwa[r.inj j]
end

abbrev Cx.wish(X:Cx)(E:c5->c8->Prop):Cx:={ X with xe:=E }
abbrev Cx.nox(X:Cx):Cx:=X.wish λ_ _=>False
def Cx.Ok.wish{X:Cx}(ok:X.Ok)(E:c5->c8->Prop):(X.wish E).Ok :=
 ⟨ok.mod,ok.kind,ok.glob,ok.blt,ok.above,ok.inj,ok.has,ok.cab,ok.hd,ok.frames,ok.stk,ok.exf,ok.bs,ok.bsz,ok.noex,ok.exfs,ok.funs,ok.frf⟩
def Cx.Ok.unwish{X:Cx}{E:c5->c8->Prop}(ok:(X.wish E).Ok):X.Ok :=
 ⟨ok.mod,ok.kind,ok.glob,ok.blt,ok.above,ok.inj,ok.has,ok.cab,ok.hd,ok.frames,ok.stk,ok.exf,ok.bs,ok.bsz,ok.noex,ok.exfs,ok.funs,ok.frf⟩
section
variable{X:Cx}{Kl:List (b9×BP)}{σ:St}{H:Hp}{s:c8}{E:c5->c8->Prop}
def Inv.wish(I:Inv X Kl σ H s)(E:c5->c8->Prop):Inv (X.wish E) Kl σ H s:=⟨I.ok.wish E,I.os,I.bare,I.base,I.loc,I.cell,I.free,I.freeC,I.pin,I.hok,I.len⟩
def Inv.unwish(I:Inv (X.wish E) Kl σ H s):Inv X Kl σ H s:=⟨I.ok.unwish,I.os,I.bare,I.base,I.loc,I.cell,I.free,I.freeC,I.pin,I.hok,I.len⟩
def SP.unwish(h:SP (X.wish E) Kl D f e):SP X Kl D f e:=by
 cases f with
 | next=>obtain⟨c,d,I,q⟩:=h; rwa[c,d,I.unwish,q]
 | brk=>obtain⟨c,d,I,q⟩:=h; rwa[c,d,I.unwish,q]
 | cont=>obtain⟨c,d,I,q⟩:=h; rwa[c,d,I.unwish,q]
 | ret u=>obtain⟨v,c,d,I,r,q⟩:=h; rwa[v,c,d,I.unwish,r,q]
def PSs.nox{st:List Ar}(h:PSs X.nox st t):PSs X st t:=λKl s σ H D I c =>
 BC (h Kl s σ H D (I.wish _) c) (λ_ _ q=>q.unwish) λ_ _ z=>Bm z
end

section
variable{X:Cx}{st:Ar}{rest:List Ar}{t u:TS}{e:AD}{te:TE}{pos:Ea}
def tNext:TS:=λD c H=>D.nx c H
def tSeq(t u:TS):TS:=λD c H=>t { D with nx:=u D } c H
def zU:PSs X [] tNext:=λ_ _ c H _ I h=>Ep ⟨c,H,I,h⟩
def zB(h1:PS X st t)(h2:PSs X rest u):PSs X (st::rest) (tSeq t u):=by
 intro d s g H D I h;refine HN (thn (h1 d s g H { D with nx:=u D } I h) λf i q=>?_);cases f with
 | next =>
  obtain⟨c,l,j,q⟩:=q;rwa[h2 d i c l D j q]
 | ret v=>rwa[q]
 | brk=>rwa[q]
 | cont=>rwa[q]
def zD(h1:PS X st t):PSs X [st] t:=by
 intro d s c H D I h;erw[HN (thn (h1 d s c H D I h) λf g q=>?_)];cases f with
 | next=>rwa[Ep q]
 | ret v=>rwa[q]
 | brk=>rwa[q]
 | cont=>rwa[q]
def Inv.quiet{c:St}{H:Hp}(I:Inv X d c H s):interactive X.env=false:=by simp[interactive,I.ok.kind]
def tDrop(te:TE):TS:=λD c H=>te c H λ_ d=>D.nx c d
def zV(g:PE X e te)(f:swapsWith e Ki pos.line X.env=pure false:=by rfl):PS X (.Expr e pos) (tDrop te):=by
 intro i s c H D I h;rwa[wpAny_Expr_any (thn (g i s c H _ I h) λv m ⟨x,l,j,r1,d⟩=>⟨c,l,j,d⟩) I.quiet f]
def tRet(te:TE):TS:=λD c H=>te c H D.rt
def zM(f:PE X e te):PS X (.Return (Kh e) pos) (tRet te):=by
 intro g s c H D I h;rwa[wpAny_Return_some (thn (f g s c H _ I h) λv l ⟨x,j,i,r1,d⟩=>⟨x,c,j,i,r1,d⟩)]
def tIfS(c:TT)(t u:TS):TS:=λD d H=>c d H λb f=>if b=Kj then t D d f else u D d f
def xJ(o:PT X c i)(q:PSs X a t)(p:PSs X b u):PS X (.If c a b pos) (tIfS i t u):=by
 intro g s f H D I h;erw[wpAny_If (thn (o g s f H _ I h) λd j ⟨n,m,l⟩=>?_)];cases d with
 | true=>rwa[q g j f n D m l]
 | false=>rwa[p g j f n D m l]
def PL:TS:=λ_ _ _=>False
def wU:PS X st PL:=λ_ _ _ _ _ _ h=>h.elim
end

abbrev TG:=V->St->Hp->(St->Hp->Prop)->Prop
abbrev TGs:=List V->St->Hp->(St->Hp->Prop)->Prop
def PG(X:Cx)(c:AD)(t:TG):Prop :=
 ∀(f:List (b9×BP))(s:c8)(e:St)(H:Hp)(v:V)(u:c5)(Q:St->Hp->Prop),Inv X f e H s->xZ v u->t v e H Q ->
  wpAny (model X.prog X.w) X.A (assign c X.env u) (λ_ h=>∃ d g,Inv X f d g h/\Q d g) X.xe s
def PGs(X:Cx)(i:List AD)(t:TGs):Prop :=
 ∀(g:List (b9×BP))(s:c8)(d:St)(H:Hp)(e:List V)(f:List c5)(Q:St->Hp->Prop),Inv X g d H s->yW e f->t e d H Q ->
  wpAny (model X.prog X.w) X.A (assignInOrder ((assignEach i X.env).map (·.2)) f) (λ_ j=>∃ c h,Inv X g c h j/\Q c h) X.xe s
section
variable{X:Cx}{pos:Ea}
def Xb(i:Nat):TG:=λv c H Q=>Q (c.set i (Kh v)) H
def jZ{i:Nat}(e:X.N.Nodup)(hi:X.N[i]?=Kh x)(c:Loc X.env.scope x)(d:X.fn x=Kj\/X.env.scope.names.lookup x=Kh .local:=by first | exact .inl rfl | exact .inr rfl | assumption):PG X (.Name x pos) (Xb i):=by
 intro l s g H v u Q I r h;rwa[wpAny_assign_Name (nD I e hi c r (λj f=>⟨_,H,f,h⟩) d)]
def gNil:TGs:=λd c H Q=>d=[]/\Q c H
def gCons(t:TG)(u:TGs):TGs:=λe d H Q=>E2 λv r=>e=v::r/\t v d H λc f=>u r c f Q
def zt:PGs X [] gNil:=by
 intro g s c H d f Q I r h;obtain⟨e,h⟩:=h;subst e;cases r;rwa[assignInOrder_nil ⟨c,H,I,h⟩]
def xG(h1:PG X e t)(h2:PGs X c u)
  (m:(assignEach (e::c) X.env).map (·.2)=assign e X.env::(assignEach c X.env).map (·.2):=by rfl):PGs X (e::c) (gCons t u):=by
 intro f s g H q x Q I r h;obtain⟨v,w,n,h⟩:=h;subst n;cases r with
 | cons r j =>
  rw[m];erw[assignInOrder_cons (thn (h1 f s g H _ _ _ I r h) λ_ i ⟨d,p,o,l⟩=>?_)];rwa[h2 f i d p _ _ Q o j l]
def gTup(K:b6)(n:Nat)(t:TGs):TG:=λv c H Q=>E2 λa xs=>A4 (v=.ref a) (SqT K H a xs) (xs.length=n) (t xs c H Q)
def qt{k:Nat}{n:Nat}(y:X.calm=Kj)(h:PGs X c t)
  (w:(assignEach c X.env).length=n:=by rfl) (f:(assignEach c X.env).findIdx? (·.1)=none:=by rfl):PG X (.Tuple c k pos) (gTup X.K n t):=by
 intro j s g H v u Q I r d;obtain⟨a,xs,A,q,x,d⟩:=d;subst A;cases r;obtain⟨l,i,p,C⟩:=I.tuple q;erw[assign_Tuple_tuple (I.ok.hd y) p (by simp[w,<- x,i.length]) f λz m=>?_];have B:Inv X j g H { s with heap:=z }:=I.kept (t':=s.toks) λb o e=>m b o (m7 (i5 e)) e;exact h j _ g H xs _ Q B (by simpa using i) d
def Ol(d:TE)(g:TG):TS:=λD c H=>d c H λx e=>g x c e D.nx
def WO{f:TE}(p:PE X e f)(o:PG X c g)(n:swapsWithSole [c] e pos.line X.env=pure false:=by rfl)(m:swappedStores [c] e X.env=pure none:=by rfl)
  (h1:(assignEach [c] X.env).map (·.2)=[assign c X.env]:=by rfl):PS X (.Assign [c] e pos) (Ol f g):=by
 intro i s d H D I h;erw[wpAny_Assign_stores (thn (p i s d H _ I h) λv j ⟨x,u,r,r1,l⟩=>?_) n m];rw[h1];rwa[thn (o i j d u x v _ r r1 l) λ_ w q=>q]
def Yl{i:Nat}{c:TE}(n:X.N.Nodup)(hi:X.N[i]?=Kh x)(g:Loc X.env.scope x)(m:PE X e c)(j:swapsWith e (Kh (.Name x pos')) pos.line X.env=pure false:=by rfl)(l:X.fn x=Kj\/X.env.scope.names.lookup x=Kh .local:=by first | exact .inl rfl | exact .inr rfl | assumption) :
  PS X (.Assign [.Name x pos'] e pos) (Ol c (Xb i)):=by
 intro o s d H D I h;erw[wpAny_Assign_Name (thn (m o s d H _ I h) λv w ⟨y,r,q,r1,f⟩=>?_) j];rwa[nD q n hi g r1 (λu p=>⟨_,r,p,f⟩) l]
def tPar(i j:Nat)(e:TA):TS:=λD c H=>e c H λd f=>E2 λv w=>d=[v,w]/\D.nx ((c.set i (Kh v)).set j (Kh w)) f
def bK{i j:Nat}{a b:AD}{kt k2 pt2}(hc:X.calm=Kj)(J:X.N.Nodup)(hi:X.N[i]?=Kh x)(hj:X.N[j]?=Kh y)(z:i≠j)
  (G:X.env.scope.names.lookup x=Kh .local) (E:X.env.scope.names.lookup y=Kh .local) (ha:PA X [a,b] C)
  (Y:swappedStores [.Tuple [.Name x r,.Name y n] kt pt] (.Tuple [a,b] k2 pt2) X.env=pure (Kh [x,y]))
  (Z:swapsWithSole [.Tuple [.Name x r,.Name y n] kt pt] (.Tuple [a,b] k2 pt2) pos.line X.env=pure false:=by rfl) :
  PS X (.Assign [.Tuple [.Name x r,.Name y n] kt pt] (.Tuple [a,b] k2 pt2) pos) (tPar i j C):=by
 intro M s B H D I h;rw[exec_Assign_arm];refine b7 (GZ ?_);rw[Z];refine b7 (d9 ?_);rw[y6 (by decide)];refine b7 (Tuple_ (thn (ha _ M s B H _ I h) λQ g ⟨vs,P,I1,r1,m⟩=>?_));obtain⟨v,w,e1,m⟩:=m;subst e1;obtain⟨f,d,rfl,R,l⟩:∃ f d,Q=[f,d]/\xZ v f/\xZ w d:=by
  cases r1 with
  | cons p q =>
   cases q with
   | cons T S =>
    cases S;rwa[_,_,rfl,p,T]
 refine AA ?_ (by show 2<=sizeLine; decide);have I2:Inv X M B P { g with heap:=g.heap.push { cls:=.type "tuple",data:=.seq [f,d].toArray } }:=I1.kept (t':=g.toks) λb o e=>c9 _ e;rw[Y];erw[b7 (d9 ?_)];show wpAny (model X.prog X.w) X.A (do rule "assign.swapped-stores"; let c <- unpackItems (.ref g.heap.objs.size) 2 Ki; assignInOrder [λv=>bindName X.env y v,λv=>bindName X.env x v] c.reverse; pure Flow.next) _ _ _;erw[b7 (F3 (b7 (unpackItems_tuple (items:=#[f,d]) (I.ok.hd hc) (Jz g.heap _) λL u=>?_)))];have I3:=I2.kept (h':=L) (t':=g.toks) λb o e=>u b o (m7 (i5 e)) e;show wpAny _ _ (assignInOrder [λv=>bindName X.env y v,λv=>bindName X.env x v] [d,f] >>= λ_=>pure Flow.next) _ _ _;erw[b7 (assignInOrder_cons (wpAny_bindName (nD I3 J hj (.inl E) l (λs2 I4=>?_) (.inr E))))];erw[assignInOrder_cons (wpAny_bindName (nD I4 J hi (.inl G) R (λs3 O=>assignInOrder_nil (d9 ?_)) (.inr G)))];rw[List.set_comm _ _ (BA z)] at O;rwa[_,P,O,m]
end

section
variable{X:Cx}{pos:Ea}
def Tk(c:TT)(i:TS):TS:=λD d H=>∃ W:Nat->St->Hp->Prop,(∃ m,W m d H)/\∀ m d H,W m d H->c d H λb g=>if b=Kj then ∃ N:St->Hp->Prop,(∀ e h,N e h->∃ f,f<m/\W f e h)/\i { D with nx:=N,ct:=N,bk:=D.nx } d g else D.nx d g
def nS(y:PassesOwn (model X.prog X.w) X.A X.env X.xe)(R:PT X c u)(S:PSs X body x):PS X (.While c body [] pos) (Tk u x):=by
 intro q s J H D I h;obtain⟨W,⟨Q,L⟩,turn⟩:=h;erw[wpAny_While (codeAny_whileLoop (λn P=>∃ g G,Inv X q g G P/\W n g G) ?_ Q ⟨J,H,I,L⟩)];rintro n O ⟨e,E,T,w1⟩;erw[Cu y (thn (R q O e E _ T (turn n e E w1)) λb M ⟨C,B,l⟩=>?_)];cases b with
 | true =>
  obtain⟨N,z,l⟩:=l;rw[y7 rfl];erw[Cu y (thn (S q M e C _ B l) λf Y j=>?_)];cases f with
  | next =>
   obtain⟨d,i,r,n3⟩:=j;obtain⟨o,p,m⟩:=z d i n3;rwa[o,p,d,i,r,m]
  | cont =>
   obtain⟨d,i,r,n3⟩:=j;obtain⟨o,p,m⟩:=z d i n3;rwa[o,p,d,i,r,m]
  | brk=>rwa[j]
  | ret v=>rwa[j]
 | false =>
  rw[y6 l5];rwa[Ep ⟨e,C,B,l⟩]
end

structure It where
 go:Nat->Hp->Prop
 yld:Nat->Hp->V->Hp->Prop
 stop:Nat->Hp->Prop
def ZJ(X:Cx)(d:List (b9×BP))(H:Hp)(b:b9):Prop :=
 H b=Ki/\b≠X.env.locals/\b ∉ X.fs/\(b∈X.ex\/X.s₀.heap.objs.size<=b)/\(∀ x c,X.env.cells.lookup x=Kh c->c≠b)/\∀ p∈X.pn++d,p.1≠b
def Inv.fpOk{g:St}{H H':Hp}{b:b9}(I:Inv X f g H s)(d:s.heap.objs.size<=b)(i:H' b=Ki):ZJ X f H' b:=by
 erw[i,DT (n9 I.lt d),I.nofs d,.inr (g7 I.sz d),λx c e z=>?_,λp h z=>?_]
 ·obtain⟨v,q⟩:=I.cell x c e;rwa[x4 (n9 q.lt (by rw[z]; exact d)) (BB _)]
 ·rwa[x4 (n9 (i5 (I.pin p h).1) (by rw[z]; exact d)) (BB _)]
structure Pl(P:j9)(w:o9)(K:b6)(tg:AD)(J:It)(fp:List b9)(it:b9)(tn:Nat->Ae->Prop):Prop where
 mem:it∈fp
 obj:∀ i h,tn i h->∀ b∈fp,∃ o,h.get? b=Kh o/\∀ v,o.data≠.cell v
 keep:∀ i h h',tn i h->(∀ b∈fp,∀ o,h.get? b=Kh o->h'.get? b=Kh o)->tn i h'
 item:∀(X:Cx),X.prog=P->X.w=w->X.K=K->X.calm=Kj->∀(i:Nat)(Kl:List (b9×BP))(s:c8)(σ:St)(H:Hp)(E:c5->c8->Prop),Inv X Kl σ H s->(∀ b∈fp,ZJ X Kl H b)->tn i s.heap->J.go i H ->
  wpAny (model P w) X.A (pyNext (.ref it)) (λr s1=>∃ u,r=Kh u /\
   wpAny (model P w) X.A (letOwnedTupleGo tg (.ref it) u) (λ_ s2=>∃ x H',Inv X Kl σ H' s2/\xZ x u/\J.yld i H x H'/\tn (i+1) s2.heap/\∀ b∈fp,H' b=Ki) E s1) E s
 done:∀(X:Cx),X.prog=P->X.w=w->X.K=K->X.calm=Kj->∀(i:Nat)(Kl:List (b9×BP))(s:c8)(σ:St)(H:Hp)(E:c5->c8->Prop),Inv X Kl σ H s->(∀ b∈fp,ZJ X Kl H b)->tn i s.heap->J.stop i H ->
  wpAny (model P w) X.A (pyNext (.ref it)) (λr s1=>r=Ki/\Inv X Kl σ H s1) E s
 self:∀(A:Ad)(i:Nat)(s:c8)(Q:c5->c8->Prop)(E:c5->c8->Prop),tn i s.heap->Q (.ref it) s->wpAny (model P w) A (pyIter (.ref it)) Q E s
abbrev TI:=St->Hp->(It->Hp->Prop)->Prop
def PIE(X:Cx)(g:List (b9×BP))(h:St)(i:AD)(R:It->Hp->Prop)(c:c5)(e:c8):Prop :=
 ∃(f:b9)(fp:List b9)(tn:Nat->Ae->Prop)(J:It)(d:Hp),c=.ref f/\Inv X g h d e/\Pl X.prog X.w X.K i J fp f tn/\tn 0 e.heap/\(∀ b∈fp,ZJ X g d b)/\R J d
def PI(X:Cx)(f iter:AD)(e:TI):Prop :=
 ∀(d:List (b9×BP))(s:c8)(c:St)(H:Hp)(R:It->Hp->Prop),Inv X d c H s->e c H R ->
  wpAny (model X.prog X.w) X.A (eval iter X.env) (λv g=>wpAny (model X.prog X.w) X.A (pyIter v) (PIE X d c f R) X.xe g) X.xe s

def Xl{E:c5->c8->Prop}{s:c8}{Q:Unit->c8->Prop}(g:s.heap.get? f=Kh o)(j:o.cls=.type n)(hd:o.data=.fields d)
  (i:["enumerate","zip","dict_itemiterator","dict_reverseitemiterator","odict_iterator","itertools.zip_longest","itertools.pairwise"].contains n=Kk) (c:Q () s):wpAny M A (letOwnedTupleGo e (.ref f) u) Q E s:=by
 unfold letOwnedTupleGo;cases e <;> first
  | exact d9 c
  | (cases u <;> first
    | exact d9 c
    | (refine b7 (wpAny_load g ?_)
       rw[j,hd];show wpAny M A (if (["enumerate","zip","dict_itemiterator","dict_reverseitemiterator","odict_iterator","itertools.zip_longest","itertools.pairwise"].contains n&&d[0]? == Kh (rawInt _))=Kj then _ else _) Q E s;rw[y6 (by intro h; rw[i,IG] at h; cases h)];rwa[d9 c]))

def Itl(K:b6)(a:b9):It :=
 ⟨λi H=>∃ xs x,SqL K H a xs/\xs[i]?=Kh x,λi H x c=>c=H/\∀ xs,SqL K H a xs->xs[i]?=Kh x,λi H=>∃ xs,SqL K H a xs/\xs.length<=i⟩
def Itt(K:b6)(a:b9):It :=
 ⟨λi H=>∃ xs x,SqT K H a xs/\xs[i]?=Kh x,λi H x c=>c=H/\∀ xs,SqT K H a xs->xs[i]?=Kh x,λi H=>∃ xs,SqT K H a xs/\xs.length<=i⟩
def Itr(lo:Int)(n:Nat):It:=⟨λi _=>i<n,λi H x c=>c=H/\x=.int (lo+i),λi _=>n<=i⟩
def de{K:b6}(a f:b9):Pl P w K S (Itl K a) [f] f (λi h=>h.IsListIter f a i) where
 mem:=by simp
 obj:=λi h st b g=>by
  have e:b=f:=by simpa using g
  subst e;obtain⟨o,e,c,d⟩:=st;exact⟨o,e,λv z=>by rw[d] at z; cases z⟩
 keep:=λi h n st k=>st.at λo e=>k f (by simp) o e
 item:=by
  intro X C A D Q i R s O H E I m st B;subst C A D;obtain⟨xs,x,l,y⟩:=B;obtain⟨r,q,p,Y⟩:=I.list l;obtain⟨u,hu,ru⟩:=q.get y;obtain⟨N,M,f2,L,J,G⟩:=m f (by simp);refine wpAny_pyNext_list_item st p.isList (x:=u) (by simpa using hu) λn j T=>?_;have I1:Inv X R O H { s with heap:=n }:=I.turned (t':=s.toks) (λb o g e=>(T.2 b g).trans e) N M L J G;obtain⟨o,e,c,d⟩:=id j;exact⟨u,U,Xl (s:={ s with heap:=n }) e c d (by decide) ⟨x,H,I1,ru,⟨U,λys Z=>by rw[I.list_inj Z l]; rwa[y]⟩,j,λb g=>(m b g).1⟩⟩
 done:=by
  intro X C A D Q i R s O H E I m st B;subst C A D;obtain⟨xs,l,y⟩:=B;obtain⟨r,q,p,Y⟩:=I.list l;obtain⟨N,M,f2,L,J,G⟩:=m f (by simp);have hl:=q.length;rwa[wpAny_pyNext_list_end (I.ok.hd Q) st p.isList (by simp; lia) λn eb=>⟨rfl,I.turned (t':=s.toks) (λb o g e=>eb b o g e) N M L J G⟩]
 self:=λ_ _ _ _ _ st h=>wpAny_pyIter_listiter st h
def Zx{K:b6}(a g:b9):Pl P w K S (Itt K a) [g] g (λi h=>h.IsTupleIter g a i) where
 mem:=by simp
 obj:=λi h st b j=>by
  have e:b=g:=by simpa using j
  subst e;obtain⟨o,e,c,d⟩:=st;exact⟨o,e,λv z=>by rw[d] at z; cases z⟩
 keep:=λi h q st k=>st.at λo e=>k g (by simp) o e
 item:=by
  intro X C A D Q i R s O H E I n st B;subst C A D;obtain⟨xs,x,m,y⟩:=B;obtain⟨f,r,p,Y⟩:=I.tuple m;obtain⟨u,hu,ru⟩:=r.get y;obtain⟨N,M,f2,L,J,G⟩:=n g (by simp);refine wpAny_pyNext_tuple_item st (show s.heap.IsTuple a f.toArray from p) (x:=u) (by simpa using hu) λq l T=>?_;have I1:Inv X R O H { s with heap:=q }:=I.turned (t':=s.toks) (λb o j e=>(T.2 b j).trans e) N M L J G;obtain⟨o,e,c,d⟩:=id l;exact⟨u,U,Xl (s:={ s with heap:=q }) e c d (by decide) ⟨x,H,I1,ru,⟨U,λys Z=>by rw[I.tuple_inj Z m]; rwa[y]⟩,l,λb j=>(n b j).1⟩⟩
 done:=by
  intro X C A D Q i R s O H E I n st B;subst C A D;obtain⟨xs,m,y⟩:=B;obtain⟨f,r,p,Y⟩:=I.tuple m;obtain⟨N,M,f2,L,J,G⟩:=n g (by simp);have hl:=r.length;exact wpAny_pyNext_tuple_end (I.ok.hd Q) st (show s.heap.IsTuple a f.toArray from p) (by simp; lia) λq eb=>⟨rfl,I.turned (t':=s.toks) (λb o j e=>eb b o j e) N M L J G⟩
 self:=λ_ _ _ _ _ st h=>wpAny_pyIter_tupleiter st h
def Za{K:b6}(c:b9)(lo:Int)(n:Nat):Pl P w K L (Itr lo n) [c] c (λi h=>IsRangeIter h c (lo+(i:Nat)*1) ((n:Int)-(i:Nat)) 1) where
 mem:=by simp
 obj:=λi h st b d=>by
  have e:b=c:=by simpa using d
  subst e;exact⟨_,st,λv z=>by
   have J:Data.fields _=Data.cell v:=z;cases J⟩
 keep:=λi h j st k=>k c (by simp) _ st
 item:=by
  intro X q l r p i G s C H E I g st m;subst q l r;obtain⟨B,A,O,y,x,u⟩:=g c (by simp);have W:=Walks.range (prog:=X.prog) (w:=X.w) (I.ok.hd p) c lo 1 n;erw[W.item i s _ _ m st λv j D N f M=>?_];obtain⟨t,rfl⟩:=N;have R:Inv X G C H { s with heap:=j,toks:=D }:=I.turned (λb o d e=>M b o (by simpa using d) e) B A y x u;refine⟨_,U,Xl (s:={ s with heap:=j,toks:=D }) (n := "range_iterator") f rfl rfl (by decide) ⟨.int (lo+i),H,R,⟨t,?_⟩,⟨U,U⟩,f,λb d=>(g b d).1⟩⟩;rw[Fp]
 done:=by
  intro X q l r p i G s C H E I g st m;subst q l r;obtain⟨B,A,O,y,x,u⟩:=g c (by simp);exact wpAny_pyNext_range_end (I.ok.hd p) st (by have:n<=i:=m; lia) λj Q=>⟨rfl,I.turned (t':=s.toks) (λb o d e=>Q b o d e) B A y x u⟩
 self:=λ_ _ _ _ _ st h=>wpAny_pyIter_rangeiter st h
end L2

namespace L2
section
variable{X:Cx}{tg:AD}
def iList(K:b6)(tl:TE):TI:=λd H R=>tl d H λx c=>∃ a,A3 (x=.ref a) (∃ xs,SqL K c a xs) (R (Itl K a) c)
def ie{tl:TE}(m:PE X l tl):PI X tg l (iList X.K tl):=by
 intro r s f H R I h;erw[thn (m r s f H _ I h) λv c ⟨x,u,d,r1,g⟩=>?_];obtain⟨a,e,⟨xs,j⟩,q⟩:=g;subst e;cases r1;obtain⟨i,w,p,y⟩:=d.list j;erw[Da p.isList ?_];erw[c.heap.objs.size,[c.heap.objs.size],_,_,u,rfl,d.kept (t':=c.toks) λb o e=>c9 _ e,de a _,⟨_,i7 _ rfl,rfl,rfl⟩,λb n=>?_,q];have e:b=c.heap.objs.size:=by simpa using n
 subst e;rwa[d.fpOk (f6 _) (d.hok.fresh (f6 _))]
def Uq{c:St}{H:Hp}{R:It->Hp->Prop}{E:c5->c8->Prop}{lo hi:Int}{d:Nat}(I:Inv X f c H s)(h1 : -(2^62)<=lo)(h2:lo<2^62)(h3 : -(2^62)<=hi)(h4:hi<2^62)
  (q:R (Itr lo (hi-lo).toNat) H):wpAny (model X.prog X.w) X.A (pyIter (.ref s.heap.objs.size)) (PIE X f c tg R) E { s with heap:=s.heap.push { cls:=.type "range",data:=.fields #[.int lo t,.int hi u,.int 1 v] },toks:=d }:=by
 refine wpAny_pyIter_range (IsRange.new ..) (small_one h1 h2 h3 h4) ?_;have g:Inv X f c H { s with heap:=s.heap.push { cls:=.type "range",data:=.fields #[.int lo t,.int hi u,.int 1 v] },toks:=d }:=I.kept λb o e=>c9 _ e;refine⟨(s.heap.push { cls:=.type "range",data:=.fields #[.int lo t,.int hi u,.int 1 v] }).objs.size,[(s.heap.push { cls:=.type "range",data:=.fields #[.int lo t,.int hi u,.int 1 v] }).objs.size],_,_,H,U,
  g.kept (t':=d) λb o e=>c9 _ e,Za _ lo (hi-lo).toNat,?_,λb h=>?_,q⟩
 ·have j:lo+((0:Nat):Int)*1=lo:=by simp
  have i:(((hi-lo).toNat:Nat):Int)-((0:Nat):Int)=JA lo hi 1:=by rw[rangeSize_one]; split <;> lia
  show IsRangeIter _ _ (lo+((0:Nat):Int)*1) ((((hi-lo).toNat:Nat):Int)-((0:Nat):Int)) 1;rw[j,i];rwa[i7 _ rfl]
 ·have e:b=(s.heap.push { cls:=.type "range",data:=.fields #[.int lo t,.int hi u,.int 1 v] }).objs.size:=by simpa using h
  subst e;rwa[g.fpOk (f6 _) (g.hok.fresh (f6 _))]
def iRng1(e:TA):TI:=λc H R=>e c H λd f=>∃ j:Int,A4 (d=[.int j]) (-(2^62)<=j) (j<2^62) (R (Itr 0 j.toNat) f)
def xC{a:AD}(n:Gl X "range")(m:X.mg "range" = Ki)(o:PA X [a] d)(l:starEach [a] X.env=[(Kk,eval a X.env)]:=by rfl):PI X tg (.Call (.Name "range" p) [a] [] pos) (iRng1 d):=by
 intro u s f H R I h;erw[Call_ (Wg I n m boot_range (EB (thn (o pos u s f H _ I h) λx y ⟨w,z,v,r1,c⟩=>?_) l rfl))];obtain⟨j,e,c,i,q⟩:=c;subst e;cases r1 with
 | cons r g =>
  cases g;obtain⟨t,rfl⟩:=r;exact call_range_1 (Uq v (by lia) (by lia) c i (by simpa using q))
def tFor(j:TI)(g:TG)(l:TS):TS:=λD c H=>j c H λJ o=>∃ W:Nat->Nat->St->Hp->Prop,(∃ m,W 0 m c o)/\∀ i m c H,W i m c H->(J.stop i H/\D.nx c H)\/(J.go i H/\∃ N:St->Hp->Prop,(∀ d e,N d e->∃ h,h<m/\W (i+1) h d e)/\∀ x e,J.yld i H x e->g x c e λf n=>l { D with nx:=N,ct:=N,bk:=D.nx } f n)
def jG(fp:List b9)(h:Ae):List (b9×BP):=fp.filterMap λb=>(h.get? b).map λo=>(b,o)
def tY{fp:List b9}{h:Ae}{b:b9}(c:b∈fp)(e:h.get? b=Kh o):(b,o)∈jG fp h:=DI.mpr ⟨b,c,by rw[e]; rfl⟩
def WN{p:b9×BP}(c:p∈jG fp h):p.1∈fp/\h.get? p.1=Kh p.2:=by
 obtain⟨b,d,e⟩:=DI.mp c;cases q:h.get? b with
 | none=>rw[q] at e; cases e
 | some o =>
  rw[q] at e;have f:(b,o)=p:=x6 e;subst f;rwa[d,q]
def Inv.pinned{f:St}{H:Hp}{fp:List b9}(I:Inv X c f H s)(l:∀ b∈fp,ZJ X c H b)(j:∀ b∈fp,∃ o,s.heap.get? b=Kh o/\∀ v,o.data≠.cell v):Inv X (c++jG fp s.heap) f H s :=
 I.pins_of λp i=>(i9.mp i).elim (λz=>I.pin p (t7 _ z)) λz=>by
  obtain⟨g,e⟩:=WN z;obtain⟨q,n,m,_⟩:=l p.1 g;obtain⟨o,h,d⟩:=j p.1 g;rw[e] at h; cases h;rwa[e,q,n,m,d]
def Inv.unpinned{d e:List (b9×BP)}{c:St}{H:Hp}(I:Inv X (d++e) c H s):Inv X d c H s:=I.pins_of λp f=>I.pin p (t7 _ (Bg _ f))
def xL{iter:AD}(O:PassesOwn (model X.prog X.w) X.A X.env X.xe)(hc:X.calm=Kj)(hi:PI X tg iter wi)(hg:PG X tg g)(q:PSs X body tb)
  (hs:∀ x,foldedSetIterable iter X.env x=pure x:=by intro _; rfl):PS X (.For tg iter body [] pos) (tFor wi g tb):=by
 intro G s σ H D I h;erw[wpAny_For (thn (hi G s σ H _ I h) λv s1 h1=>thn h1 λitv s2 h2=>?_) hs];obtain⟨it,fp,tn,J,H2,e,I2,T,S,f2,W,⟨m0,w0⟩,turn⟩:=h2;subst e;have p:∀{B:Hp},(∀ b∈fp,B b=Ki)->∀ b∈fp,ZJ X G B b:=λhn b q=>⟨hn b q,(f2 b q).2⟩;erw[codeAny_forLoop_any (λn s'=>∃ i l B,Inv X G l B s'/\tn i s'.heap/\(∀ b∈fp,B b=Ki)/\W i n l B) ?_ m0 ⟨0,σ,H2,I2,S,λb q=>(f2 b q).1,w0⟩];rintro n s3 ⟨i,j,Q,I3,L,P,w3⟩;rcases turn i n j Q w3 with ⟨stop,qn⟩ | ⟨go,N,hN,step⟩
 ·erw[Cu O (thn (T.done X rfl rfl rfl hc i G s3 j Q X.xe I3 (p P) L stop) λr s4 ⟨Z,I4⟩=>?_)];subst Z;rwa[Ep ⟨j,Q,I4,qn⟩]
 ·refine Cu O (thn (T.item X rfl rfl rfl hc i G s3 j Q X.xe I3 (p P) L go) λr s4 ⟨u,Z,h4⟩=>?_);subst Z;refine Cu O (thn h4 λ_ s5 ⟨x,H5,I5,r5,y5,E,fr5⟩=>?_);have I5':=I5.pinned (p fr5) (T.obj _ _ E);refine Cu O (thn (hg _ s5 j H5 x u _ I5' r5 (step x H5 y5)) λ_ s6 ⟨R,H6,I6,q6⟩=>?_);refine Cu O (thn (q _ s6 R H6 _ I6 q6) λf Y C=>?_);have again:∀{c:St}{z:Hp},Inv X (G++jG fp s5.heap) c z Y->N c z->∃ m,m<n/\∃ i l B,Inv X G l B Y/\tn i Y.heap/\(∀ b∈fp,B b=Ki)/\W i m l B:=λ{c z} y M=>by
   obtain⟨m',hm,w7⟩:=hN c z M;erw[m',hm,i+1,c,z,y.unpinned,T.keep _ _ _ E λb q o e=>(y.pin (b,o) (t7 _ (t7 _ (tY q e)))).1,λb q=>?_,w7];obtain⟨o,e,d⟩:=T.obj _ _ E b q;exact(y.pin (b,o) (t7 _ (t7 _ (tY q e)))).2.1
  cases f with
  | next=>obtain⟨c,z,y,M⟩:=C; rwa[again y M]
  | cont=>obtain⟨c,z,y,M⟩:=C; rwa[again y M]
  | brk=>obtain⟨c,z,y,C⟩:=C; rwa[c,z,y.unpinned,C]
  | ret v=>obtain⟨x7,c,z,y,r7,C⟩:=C; rwa[x7,c,z,y.unpinned,r7,C]
end

def xD{K:b6}{xs:List V}{g:TG}{o:TS}{D:WW}{c:St}{H:Hp}(d:Nat->St->Hp->Prop)(h0:d 0 c H)(v:∀ i c H,i<=xs.length->d i c H->SqL K H a xs)
  (u:∀ i x c H,xs[i]?=Kh x->d i c H->g x c H λf n=>o { D with nx:=d (i+1),ct:=d (i+1),bk:=D.nx } f n) (hd:∀ c H,d xs.length c H->D.nx c H) :
  ∃ W:Nat->Nat->St->Hp->Prop,(∃ m,W 0 m c H)/\∀ i m c H,W i m c H ->
   ((Itl K a).stop i H/\D.nx c H)\/((Itl K a).go i H/\∃ N:St->Hp->Prop,(∀ h j,N h j->∃ r,r<m/\W (i+1) r h j)/\∀ x j,(Itl K a).yld i H x j->g x c j λf n=>o { D with nx:=N,ct:=N,bk:=D.nx } f n):=by
 exists λi m c H=>m=xs.length-i/\i<=xs.length/\d i c H,⟨xs.length,by simp,t9 _,h0⟩;rintro i m c H ⟨rfl,hi,p⟩;have q:=v i c H hi p;by_cases l:i<xs.length
 ·erw[.inr ⟨⟨xs,xs[i],q,by simp[l]⟩,d (i+1),λh j s=>⟨xs.length-(i+1),by lia,rfl,l,s⟩,λx j y=>?_⟩];obtain⟨e,y⟩:=y;subst e;rwa[u i x c _ (y xs q) p]
 ·have e:i=xs.length:=by lia
  subst e;rwa[.inl ⟨⟨xs,q,f6 _⟩,hd c H p⟩]
def Rl{K:b6}{xs:List V}{g:TG}{o:TS}{D:WW}{c:St}{H:Hp}(d:Nat->St->Hp->Prop)(h0:d 0 c H)(v:∀ i c H,i<=xs.length->d i c H->SqT K H a xs)
  (u:∀ i x c H,xs[i]?=Kh x->d i c H->g x c H λf n=>o { D with nx:=d (i+1),ct:=d (i+1),bk:=D.nx } f n) (hd:∀ c H,d xs.length c H->D.nx c H) :
  ∃ W:Nat->Nat->St->Hp->Prop,(∃ m,W 0 m c H)/\∀ i m c H,W i m c H ->
   ((Itt K a).stop i H/\D.nx c H)\/((Itt K a).go i H/\∃ N:St->Hp->Prop,(∀ h j,N h j->∃ r,r<m/\W (i+1) r h j)/\∀ x j,(Itt K a).yld i H x j->g x c j λf n=>o { D with nx:=N,ct:=N,bk:=D.nx } f n):=by
 exists λi m c H=>m=xs.length-i/\i<=xs.length/\d i c H,⟨xs.length,by simp,t9 _,h0⟩;rintro i m c H ⟨rfl,hi,p⟩;have q:=v i c H hi p;by_cases l:i<xs.length
 ·erw[.inr ⟨⟨xs,xs[i],q,by simp[l]⟩,d (i+1),λh j s=>⟨xs.length-(i+1),by lia,rfl,l,s⟩,λx j y=>?_⟩];obtain⟨e,y⟩:=y;subst e;rwa[u i x c _ (y xs q) p]
 ·have e:i=xs.length:=by lia
  subst e;rwa[.inl ⟨⟨xs,q,f6 _⟩,hd c H p⟩]
def wC{lo:Int}{n:Nat}{g:TG}{q:TS}{D:WW}{c:St}{H:Hp}(j:Nat->St->Hp->Prop)(h0:j 0 c H)
  (u:∀ i c H,i<n->j i c H->g (.int (lo+i)) c H λd o=>q { D with nx:=j (i+1),ct:=j (i+1),bk:=D.nx } d o) (hd:∀ c H,j n c H->D.nx c H) :
  ∃ W:Nat->Nat->St->Hp->Prop,(∃ m,W 0 m c H)/\∀ i m c H,W i m c H ->
   ((Itr lo n).stop i H/\D.nx c H)\/((Itr lo n).go i H/\∃ N:St->Hp->Prop,(∀ f l,N f l->∃ r,r<m/\W (i+1) r f l)/\∀ x l,(Itr lo n).yld i H x l->g x c l λd o=>q { D with nx:=N,ct:=N,bk:=D.nx } d o):=by
 exists λi m c H=>m=n-i/\i<=n/\j i c H,⟨n,by simp,t9 _,h0⟩;rintro i m c H ⟨rfl,hi,p⟩;by_cases h:i<n
 ·erw[.inr ⟨h,j (i+1),λf l s=>⟨n-(i+1),by lia,rfl,h,s⟩,λx l y=>?_⟩];obtain⟨e,y⟩:=y;subst e y;rwa[u i c _ h p]
 ·have e:i=n:=by lia
  subst e;rwa[.inl ⟨f6 _,hd c H p⟩]
def sj{c:TT}{j:TS}{D:WW}{d:St}{H:Hp}(i:St->Hp->Prop)(h:St->Hp->Nat)(h0:i d H)
  (r:∀ d H,i d H->c d H λb f=>if b=Kj then j { D with nx:=λe g=>i e g/\h e g<h d H,ct:=λe g=>i e g/\h e g<h d H,bk:=D.nx } d f else D.nx d f)
  (mono:∀ d H Q n,(∀ b f,Q b f->n b f)->c d H Q->c d H n):Tk c j D d H:=by
 exists λm d H=>m=h d H/\i d H,⟨_,U,h0⟩;rintro m d H ⟨rfl,p⟩;erw[mono d H _ _ (λb f q=>?_) (r d H p)];cases b with
 | true=>rwa[_,λe g ⟨o,l⟩=>⟨_,l,rfl,o⟩,q]
 | false=>rwa[q]
end L2

namespace L2

abbrev R2:=V->V->Hp->VK->Prop
def OpR(X:Cx)(f:c5->c5->Fi c5)(r:R2):Prop :=
 ∀(d:List (b9×BP))(s:c8)(c:St)(H:Hp)(x y:V)(v u:c5)(Q:VK),Inv X d c H s->xZ x v->xZ y u->r x y H Q ->
  wpAny (model X.prog X.w) X.A (f v u) (EP X d c Q) X.xe s
def UnR(X:Cx)(f:c5->Fi c5)(r:V->Hp->VK->Prop):Prop :=
 ∀(d:List (b9×BP))(s:c8)(c:St)(H:Hp)(x:V)(v:c5)(Q:VK),Inv X d c H s->xZ x v->r x H Q ->
  wpAny (model X.prog X.w) X.A (f v) (EP X d c Q) X.xe s
def uK(X:Cx)(f:c5)(r:List V->Hp->VK->Prop):Prop :=
 ∀(e:List (b9×BP))(s:c8)(c:St)(H:Hp)(xs:List V)(d:List c5)(Q:VK),Inv X e c H s->yW xs d->r xs H Q ->
  wpAny (model X.prog X.w) X.A (call f d) (EP X e c Q) X.xe s
def tOp(r:R2)(e d:TE):TE:=λc H Q=>e c H λx g=>d c g λy f=>r x y f Q
def tUn(r:V->Hp->VK->Prop)(d:TE):TE:=λc H Q=>d c H λx e=>r x e Q
inductive RI(C:Int->Int->Prop)(g:Int->Int->V)(x y:V)(H:Hp)(Q:VK):Prop where
 | mk (i j:Int) (ex:x=.int i) (ey:y=.int j) (c:C i j) (q:Q (g i j) H)
def rI(C:Int->Int->Prop)(g:Int->Int->V):R2:=λx y H Q=>RI C g x y H Q
inductive RI0(g:Int->Int->V)(x y:V)(H:Hp)(Q:VK):Prop where
 | mk (i j:Int) (ex:x=.int i) (ey:y=.int j) (q:Q (g i j) H)
def rI0(g:Int->Int->V):R2:=λx y H Q=>RI0 g x y H Q
inductive RU(g:Int->V)(x:V)(H:Hp)(Q:VK):Prop where
 | mk (i:Int) (ex:x=.int i) (q:Q (g i) H)
def rU(g:Int->V):V->Hp->VK->Prop:=λx H Q=>RU g x H Q

section
variable{X:Cx}{a b c:AD}{ta tb tc:TE}{pos:Ea}

def Oj(z:PE X a ta)(r:PE X b tb){d:St}{H:Hp}{R:V->V->Hp->Prop}(I:Inv X l d H s)
  (h:ta d H λx m=>tb d m λy e=>R x y e) {Q:c5->c8->Prop} {f:c5->c5->Fi c5}
  (q:∀ v u j x y e,Inv X l d e j->xZ x v->xZ y u->R x y e->wpAny (model X.prog X.w) X.A (f v u) Q X.xe j) :
  wpAny (model X.prog X.w) X.A (eval a X.env) (λv i=>wpAny (model X.prog X.w) X.A (eval b X.env) (λu g=>wpAny (model X.prog X.w) X.A (f v u) Q X.xe g) X.xe i) X.xe s:=by
 erw[thn (z l s d H _ I h) λv n ⟨x,m,C,r1,p⟩=>?_];erw[thn (r l n d m _ C p) λu j ⟨y,e,B,r2,o⟩=>?_];rwa[q v u j x y e B r1 r2 o]

def tT(j:OpR X (binaryOp d) r)(m:PE X a ta)(l:PE X b tb):PE X (.BinOp a d b pos) (tOp r ta tb):=by
 intro n s e H Q I h;rwa[wpAny_BinOp (Oj m l I h λv u f x y p o i g q=>j n f e p x y v u Q o i g q)]
def pe_un{r:V->Hp->VK->Prop}(j:UnR X (unaryOp e) r)(l:PE X a ta):PE X (.UnaryOp e a pos) (tUn r ta):=by
 intro f s d H Q I h;rwa[UnaryOp_ (thn (l f s d H _ I h) λv g ⟨x,n,m,r1,i⟩=>j f g d n x v Q m r1 i)]
def opI{f:c5->c5->Fi c5}{C:Int->Int->Prop}{g:Int->Int->Int}
  (rule:∀(i j:Int)(t u:Je)(s:c8)(Q:c5->c8->Prop)(E:c5->c8->Prop),C i j->Q (.int (g i j) s.toks) { s with toks:=s.toks+1 }->wpAny (model X.prog X.w) X.A (f (.int i t) (.int j u)) Q E s) :
  OpR X f (rI C λi j=>.int (g i j)):=by
 intro o s n H x y v u Q I l e h;obtain⟨i,j,rfl,rfl,m,q⟩:=h;obtain⟨t,rfl⟩:=l;obtain⟨d,rfl⟩:=e;rwa[rule i j t d s _ _ m ⟨.int (g i j),H,I.tok _,⟨_,rfl⟩,q⟩]
def opI0{f:c5->c5->Fi c5}{g:Int->Int->Int}
  (rule:∀(i j:Int)(t u:Je)(s:c8)(Q:c5->c8->Prop)(E:c5->c8->Prop),Q (.int (g i j) s.toks) { s with toks:=s.toks+1 }->wpAny (model X.prog X.w) X.A (f (.int i t) (.int j u)) Q E s) :
  OpR X f (rI0 λi j=>.int (g i j)):=by
 intro n s m H x y v u Q I l e h;obtain⟨i,j,rfl,rfl,q⟩:=h;obtain⟨t,rfl⟩:=l;obtain⟨d,rfl⟩:=e;rwa[rule i j t d s _ _ ⟨.int (g i j),H,I.tok _,⟨_,rfl⟩,q⟩]
def Ot{f:c5->c5->Fi c5}{g:Int->Int->Bool}
  (rule:∀(i j:Int)(t u:Je)(s:c8)(Q:c5->c8->Prop)(E:c5->c8->Prop),Q (.bool (g i j)) s->wpAny (model X.prog X.w) X.A (f (.int i t) (.int j u)) Q E s) :
  OpR X f (rI0 λi j=>.bl (g i j)):=by
 intro n s m H x y v u Q I l e h;obtain⟨i,j,rfl,rfl,q⟩:=h;obtain⟨t,rfl⟩:=l;obtain⟨d,rfl⟩:=e;rwa[rule i j t d s _ _ ⟨.bl (g i j),H,I,rfl,q⟩]

def CPow(i j:Int):Prop:=0<=j/\j<=1000000/\i.natAbs<2^64
def RZ(i j:Int):Prop:=(-(2^64)<i/\i<2^64)\/(-(2^64)<j/\j<2^64)
def RZ.ok{i j:Int}(h:RZ i j):IntMulOk i j:=by
 rcases h with ⟨h1,h2⟩ | ⟨h1,h2⟩
 ·rwa[.of_left (intBits_le_64 h1 h2)]
 ·rwa[.of_right (intBits_le_64 h1 h2)]
def aK:OpR X (binaryOp .Add) (rI0 λi j=>.int (i+j)):=opI0 λ_ _ _ _ _ _ _ q=>add_int q
def To:OpR X (binaryOp .Sub) (rI0 λi j=>.int (i-j)):=opI0 λ_ _ _ _ _ _ _ q=>sub_int q
def fz:OpR X (binaryOp .Mult) (rI RZ λi j=>.int (i*j)):=opI λ_ _ _ _ _ _ _ d q=>mul_int q d.ok
def UT:OpR X (binaryOp .Mod) (rI (λ_ j=>0<j) λi j=>.int (i%j)):=opI λi j _ _ _ _ _ d q=>by
 have h1:(0:Int)<j:=d;rwa[mod_int' (by lia) (by rw[Int.fmod_eq_emod_of_nonneg i (by lia)]; exact q)]
def PR:OpR X (binaryOp .Pow) (rI CPow λi j=>.int (i^j.toNat)):=opI λ_ _ _ _ _ _ _ d q=>pow_int_small d.1 d.2.1 d.2.2 q
def unI{f:c5->Fi c5}{g:Int->Int}
  (rule:∀(i:Int)(t:Je)(s:c8)(Q:c5->c8->Prop)(E:c5->c8->Prop),Q (.int (g i) s.toks) { s with toks:=s.toks+1 }->wpAny (model X.prog X.w) X.A (f (.int i t)) Q E s) :
  UnR X f (rU λi=>.int (g i)):=by
 intro j s e H x v Q I d h;obtain⟨i,rfl,q⟩:=h;obtain⟨t,rfl⟩:=d;rwa[rule i t s _ _ ⟨.int (g i),H,I.tok _,⟨_,rfl⟩,q⟩]
def Qn:UnR X (unaryOp .USub) (rU λi=>.int (-i)):=unI λ_ _ _ _ _ q=>neg_int q
end

def scal:V->V->Bool
 | .non,.non=>Kj | .non,.int _=>Kj | .int _,.non=>Kj | .non,.bl _=>Kj | .bl _,.non=>Kj | .non,.str _=>Kj | .str _,.non=>Kj
 | .int _,.int _=>Kj | .bl _,.bl _=>Kj | .str _,.str _=>Kj | .byt _,.byt _=>Kj
 | .int _,.str _=>Kj | .str _,.int _=>Kj | .bl _,.str _=>Kj | .str _,.bl _=>Kj
 | _,_=>Kk
def rEq:R2:=λx y H Q=>scal x y=Kj/\Q (.bl (decide (x=y))) H
def rNe:R2:=λx y H Q=>scal x y=Kj/\Q (.bl (!decide (x=y))) H

def YH{i j:Int} : decide (V.int i=V.int j)=(i == j):=by
 rw[C0];simp
def TC : decide (V.bl i=V.bl j)=(i == j):=by
 rw[C0];simp
def Wa : decide (V.str i=V.str j)=(i == j):=by
 rw[C0];simp
def XQ : decide (V.byt i=V.byt j)=(i.toList == j.toList):=by
 rw[C0];cases i;cases j;simp

section
variable{X:Cx}{a b c:AD}{ta tb tc:TE}{pos:Ea}
def yV{d:St}{H:Hp}{Q:VK}{k f:Bool}(I:Inv X g d H s)(q:Q (.bl k) H)(e:k=f):EP X g d Q (.bool f) s:=by
 subst e;rwa[.bl k,H,I,rfl,q]
def SF:OpR X (compareOp .Eq) rEq:=by
 intro m s l H x y v u Q I g d h;obtain⟨f,q⟩:=h;cases x with
 | non =>
  cases g;cases y with
  | non=>cases d; rwa[IR (yV I q (by simp))]
  | bl j=>cases d; rwa[IS (yV I q (by simp))]
  | int j=>obtain⟨e,rfl⟩:=d; rwa[Jf (yV I q (by simp))]
  | str j=>obtain⟨e,rfl⟩:=d; rwa[Jg (yV I q (by simp))]
  | _=>exact x4 (show Kk=Kj from f) l5
 | bl i =>
  cases g;cases y with
  | non=>cases d; rwa[IT (yV I q (by simp))]
  | bl j=>cases d; rwa[eq_bool (yV I q TC)]
  | str j=>obtain⟨e,rfl⟩:=d; rwa[IU (yV I q (by simp))]
  | _=>exact x4 (show Kk=Kj from f) l5
 | int i =>
  obtain⟨t,rfl⟩:=g;cases y with
  | non=>cases d; rwa[Jh (yV I q (by simp))]
  | int j=>obtain⟨e,rfl⟩:=d; rwa[eq_int (yV I q YH)]
  | str j=>obtain⟨e,rfl⟩:=d; rwa[Ji (yV I q (by simp))]
  | _=>exact x4 (show Kk=Kj from f) l5
 | str i =>
  obtain⟨t,rfl⟩:=g;cases y with
  | non=>cases d; rwa[Jj (yV I q (by simp))]
  | bl j=>cases d; rwa[IV (yV I q (by simp))]
  | int j=>obtain⟨e,rfl⟩:=d; rwa[Jk (yV I q (by simp))]
  | str j=>obtain⟨e,rfl⟩:=d; rwa[eq_str (yV I q Wa)]
  | _=>exact x4 (show Kk=Kj from f) l5
 | byt i =>
  obtain⟨t,rfl⟩:=g;cases y with
  | byt j=>obtain⟨e,rfl⟩:=d; rwa[PySem.W.eq_bytes (yV I q XQ)]
  | _=>exact x4 (show Kk=Kj from f) l5
 | _=>cases y <;> exact x4 (show Kk=Kj from f) l5
def SB:OpR X (compareOp .NotEq) rNe:=by
 intro m s l H x y v u Q I g d h;obtain⟨f,q⟩:=h;cases x with
 | non =>
  cases g;cases y with
  | non=>cases d; rwa[IW (yV I q (by simp))]
  | bl j=>cases d; rwa[IX (yV I q (by simp))]
  | int j=>obtain⟨e,rfl⟩:=d; rwa[Jl (yV I q (by simp))]
  | str j=>obtain⟨e,rfl⟩:=d; rwa[Jm (yV I q (by simp))]
  | _=>exact x4 (show Kk=Kj from f) l5
 | bl i =>
  cases g;cases y with
  | non=>cases d; rwa[IY (yV I q (by simp))]
  | bl j=>cases d; rwa[ne_bool (yV I q (congrArg not TC))]
  | str j=>obtain⟨e,rfl⟩:=d; rwa[IZ (yV I q (by simp))]
  | _=>exact x4 (show Kk=Kj from f) l5
 | int i =>
  obtain⟨t,rfl⟩:=g;cases y with
  | non=>cases d; rwa[Jn (yV I q (by simp))]
  | int j=>obtain⟨e,rfl⟩:=d; rwa[ne_int (yV I q (congrArg not YH))]
  | str j=>obtain⟨e,rfl⟩:=d; rwa[Jo (yV I q (by simp))]
  | _=>exact x4 (show Kk=Kj from f) l5
 | str i =>
  obtain⟨t,rfl⟩:=g;cases y with
  | non=>cases d; rwa[Jp (yV I q (by simp))]
  | bl j=>cases d; rwa[Ja (yV I q (by simp))]
  | int j=>obtain⟨e,rfl⟩:=d; rwa[Jq (yV I q (by simp))]
  | str j=>obtain⟨e,rfl⟩:=d; rwa[ne_str (yV I q (congrArg not Wa))]
  | _=>exact x4 (show Kk=Kj from f) l5
 | byt i =>
  obtain⟨t,rfl⟩:=g;cases y with
  | byt j=>obtain⟨e,rfl⟩:=d; rwa[PySem.W.ne_bytes (yV I q (congrArg not XQ))]
  | _=>exact x4 (show Kk=Kj from f) l5
 | _=>cases y <;> exact x4 (show Kk=Kj from f) l5

def Vv:OpR X (compareOp .Lt) (rI0 λi j=>.bl (decide (i<j))):=Ot λ_ _ _ _ _ _ _ q=>lt_int q
def Vz:OpR X (compareOp .LtE) (rI0 λi j=>.bl (decide (i<=j))):=Ot λ_ _ _ _ _ _ _ q=>le_int q
def VE:OpR X (compareOp .Gt) (rI0 λi j=>.bl (decide (j<i))):=Ot λ_ _ _ _ _ _ _ q=>gt_int q
def Sx:OpR X (compareOp .GtE) (rI0 λi j=>.bl (decide (j<=i))):=Ot λ_ _ _ _ _ _ _ q=>ge_int q
def Tx:OpR X (compareOp .Is) (λx y H Q=>y=.non/\Q (.bl (decide (x=.non))) H):=by
 intro g s f H x y v u Q I d e h;obtain⟨rfl,q⟩:=h;cases e;refine is_none_gen (yV I q ?_);cases x <;> first
  | (cases d; rfl)
  | (obtain⟨t,rfl⟩:=d; rfl)
def Yo:OpR X (compareOp .IsNot) (λx y H Q=>y=.non/\Q (.bl (!decide (x=.non))) H):=by
 intro g s f H x y v u Q I d e h;obtain⟨rfl,q⟩:=h;cases e;refine isnot_none_gen (yV I q ?_);cases x <;> first
  | (cases d; rfl)
  | (obtain⟨t,rfl⟩:=d; rfl)

def vC(b:AD){d:IF}(h:d≠.In:=by decide)(h2:d≠.NotIn:=by decide):behindInMarks d b=false:=by
 have f:(d == CmpOp.In)=false:=by cases d <;> first | rfl | exact x4 rfl h
 have e:(d == CmpOp.NotIn)=false:=by cases d <;> first | rfl | exact x4 rfl h2
 cases b <;> simp[behindInMarks,f,e]
def rR(j:OpR X (compareOp d) r)(n:PE X a ta)(m:PE X b tb)(l:behindInMarks d b=Kk):PE X (.Compare a [d] [b] pos) (tOp r ta tb):=by
 intro o s e H Q I h;rwa[wpAny_Compare1 (Oj n m I h λv u f x y w p i g q=>j o f e w x y v u Q p i g q) l]
def Vj(t:TE):TT:=λd H Q=>t d H λx e=>∃ k,x=.bl k/\Q k e
def yK(o:OpR X (compareOp f) r)(w:PE X a ta)(q:PE X b tb)(p:behindInMarks f b=Kk):PT X (.Compare a [f] [b] pos) (Vj (tOp r ta tb)):=by
 intro g s d H Q I h;refine Gp (thn (w g s d H _ I h) λv j ⟨x,G,C,r1,n⟩=>thn (q g j d G _ C n) λu i ⟨y,E,B,r2,m⟩ =>
  thn (o g i d E x y v u _ B r1 r2 m) λc J ⟨z,D,A,r3,k,e,l⟩=>?_) p
 subst e;cases r3;rwa[Cy ⟨D,A,l⟩]
def Qk(r g:R2)(ta tb tc:TE):TE:=λd H Q=>ta d H λx j=>tb d j λy i=>r x y i λz e=>∃ k,z=.bl k/\(if k=Kj then tc d e λf h=>g y f h Q else Q (.bl Kk) e)
def aF(L:OpR X (compareOp j) r)(l:OpR X (compareOp f) m)(P:PE X a ta)(O:PE X b tb)(N:PE X c tc)
  (M:lastMarks [j,f] [b,c]=false:=by with_unfolding_all rfl):PE X (.Compare a [j,f] [b,c] pos) (Qk r m ta tb tc):=by
 intro i s g H Q I h;refine Compare_chain (thn (P i s g H _ I h) λv D ⟨x,H1,T,r1,J⟩=>chain_link (thn (O i D g H1 _ T J) λu C ⟨y,Z,S,r2,G⟩ =>
  thn (L i C g Z x y v u _ S r1 r2 G) λd B ⟨z,p,o,r3,k,e,n⟩=>?_)) M
 subst e;cases r3;erw[Cy ?_];cases k with
 | false=>rwa[ite_ff ⟨.bl Kk,p,o,rfl,n⟩]
 | true=>rwa[ite_tt (chain_last (thn (N i B g p _ o n) λw A ⟨q,Y,R,r4,E⟩=>l i A g Y y q u w Q R r2 r4 E))]
def gF:(sizeLine:Nat)<2^63:=by rw[sizeLine_eq]; decide
def jp:OpR X (binaryOp .Add) (λx y H Q=>E2 λi j=>A4 (x=.str i) (y=.str j) (i.length+j.length<=sizeLine) (Q (.str (i++j)) H)):=by
 intro n s l H x y v u Q I f e h;obtain⟨i,j,rfl,rfl,g,q⟩:=h;obtain⟨t,rfl⟩:=f;obtain⟨d,rfl⟩:=e;rwa[add_str (λd m=>⟨.str (i++j),H,I.tok _,⟨_,rfl⟩,q⟩) g]
def lX{x:V}(r:yW [x] d):∃ u,d=[u]/\xZ x u:=by
 cases r with
 | cons r1 r2=>cases r2; rwa[_,rfl,r1]
def PB{x y:V}(r:yW [x,y] e):∃ u d,e=[u,d]/\xZ x u/\xZ y d:=by
 cases r with
 | cons r1 r2 =>
  cases r2 with
  | cons r3 r4=>cases r4; rwa[_,_,rfl,r1,r3]
def UI:uK X (.builtin "abs") (λxs H Q=>∃ i,xs=[.int i]/\Q (.int (if i<0 then -i else i)) H):=by
 intro g s d H xs e Q I r h;obtain⟨i,rfl,q⟩:=h;obtain⟨u,rfl,t,rfl⟩:=lX r;exact call_abs_int λu f=>⟨.int (if i<0 then -i else i),H,I.tok _,⟨_,rfl⟩,q⟩
def XM(e:X.calm=Kj):uK X (.builtin "max") (λxs H Q=>E2 λi j=>xs=[.int i,.int j]/\Q (.int (if j>i then j else i)) H):=by
 intro p s f H xs l Q I r h;obtain⟨i,j,rfl,q⟩:=h;obtain⟨u,g,rfl,⟨t,rfl⟩,⟨n,rfl⟩⟩:=PB r;erw[max_two_ints (I.ok.hd e) λo m k=>⟨_,H,I.kept k,?_,q⟩];by_cases d:j>i
 ·rw[y7 d,y7 d]; rwa[_,rfl]
 ·rw[y6 d,y6 d]; rwa[_,rfl]
def WQ(e:X.calm=Kj):uK X (.builtin "min") (λxs H Q=>E2 λi j=>xs=[.int i,.int j]/\Q (.int (if j<i then j else i)) H):=by
 intro p s f H xs l Q I r h;obtain⟨i,j,rfl,q⟩:=h;obtain⟨u,g,rfl,⟨t,rfl⟩,⟨n,rfl⟩⟩:=PB r;erw[min_two_ints (I.ok.hd e) λo m k=>⟨_,H,I.kept k,?_,q⟩];by_cases d:j<i
 ·rw[y7 d,y7 d]; rwa[_,rfl]
 ·rw[y6 d,y6 d]; rwa[_,rfl]
def Xx:uK X (.type "int") (λxs H Q=>(∃ i,xs=[.int i]/\Q (.int i) H)\/∃ k,xs=[.bl k]/\Q (.int (if k then 1 else 0)) H):=by
 intro f s d H xs e Q I r h;rcases h with ⟨i,rfl,q⟩ | ⟨k,rfl,q⟩
 ·obtain⟨u,rfl,t,rfl⟩:=lX r;rwa[call_int_int ⟨.int i,H,I,⟨_,rfl⟩,q⟩]
 ·obtain⟨u,rfl,r1⟩:=lX r;cases r1;exact call_int_bool ⟨.int (if k then 1 else 0),H,I.tok _,⟨_,rfl⟩,q⟩
end
end L2

namespace L2

structure Se(h:Ae)(x dx C:b9)(mA:j4->Option c5):Prop where
 obj:h.get? x=Kh (B8 C dx)
 ns:h.Ns1 dx mA
 ne:dx≠x

def YD{h:Ae}{g:j4->Option c5}(n:h.Ns1 j g):∃ f,h.get? j=Kh f/\∀ c,EO c f=Kh (g c):=by
 obtain⟨o,i,u,m,hd,r,_,p⟩:=n;erw[o,m,λc=>?_];have e:=p c;unfold nsFind findBy at e;rw[<- Array.find?_toList] at e;unfold EO;rw[hd];dsimp only;split
 ·rename_i y q
  rw[q] at e;rwa[congrArg Kh e]
 ·rename_i q
  rw[q] at e;have a:i.toList.any (·.refKey)=false:=by
   rw[List.any_eq_false];intro y l;obtain⟨z,t,d⟩:=r y (GA.mp l);simp[DictEntry.refKey,d]
  have s:¬ i.toList.any (·.refKey)=true:=by rw[a]; rwa[l5]
  rw[y6 s];rwa[congrArg Kh e]

def Se.look{e:j4->Option c5}(I:Se h x f C e):∃ d,PySem.W.InstAt h x (B8 C f) C (Kh d)/\∀ c,EO c d=Kh (e c) :=
 let ⟨d,ho,hl⟩:=YD I.ns
 ⟨d,⟨I.obj,rfl,rfl,ho⟩,hl⟩

section
variable{prog:j9}{w:o9}{A:Ad}{E:c5->c8->Prop}{s:c8}{K:b6}{x dx C f:b9}{mA:j4->Option c5}{name:j4}{v:c5}

def TX{Q:c5->c8->Prop}(X:K.In s.heap)(I:Se s.heap x dx C mA)(i:Eb K C name=Kj)(g:Fq K C=Kj)
  (j:Bh K (.ref C) name=Kh Ki) (d:mA name=Kh v) (c:HP v=Kj) (h:Q v { s with toks:=s.toks+1 }) :
  wpAny (model prog w) A (getAttr (.ref x) name expr) Q E s:=by
 obtain⟨l,J,e⟩:=I.look;rwa[PySem.W.get_value X J (Ex i).1 (PySem.W.findObj_own g j rfl (by rw[e,d])) c h]

def Vl{Q:c5×List c5->c8->Prop}(X:K.In s.heap)(I:Se s.heap x dx C mA)(c:Eb K C name=Kj)
  (l:Bh K (.ref C) name=Kh (Kh (.ref f))) (i:Hj K (.ref f)=Kj) (g:mA name=Ki) (h:Q (.ref f,[.ref x]) s) :
  wpAny (model prog w) A (getMethod (.ref x) name d) Q E s:=by
 obtain⟨e,J,j⟩:=I.look;exact PySem.W.method_fn X J (Ex c).1 (Ex c).2 l (beq_iff_eq.mp i) (by show(EO name e).map (·.isSome)=Kh Kk; rw[j,g]; rfl) h

def Rg{Q:Unit->c8->Prop}(X:K.In s.heap)(I:Se s.heap x dx C mA)
  (q:Bh K (.ref C) "__setattr__" = Kh (Kh (.builtin "object.__setattr__"))) (u:Hk K C=Kj) (o:Gg K C name=Kh Ki) (z:Fq K C=Kj)
  (n:Hh mA ns) (p:ns.length<=sizeLine)
  (h:∀ e,Se e x dx C (λy=>if y=name then Kh v else mA y)->BQ dx s.heap e->Q () { s with heap:=e,toks:=s.toks+2 }) :
  wpAny (model prog w) A (setAttr (.ref x) name v) Q E s:=by
 obtain⟨H,J,M⟩:=I.look;refine PySem.W.set_plain X J q (PySem.W.osa_open (s:={ s with toks:=s.toks+1 }) (r:=Ki) X J u o λb=>?_);obtain⟨N,B,j⟩:=PySem.W.any_some z;have m:s.heap.get? x=Kh ⟨.ref C,Kh dx,.plain,#[]⟩:=I.obj;refine b7 (d9 (b7 (b7 (wpAny_loadPart m (b7 (J9 (s:={ s with toks:=s.toks+1 }) (PySem.W.looks_clsIn X B) ?_))))));rw[j];erw[d9 (a:=Kh dx) (b7 (d9 (b7 ?_)))];refine wpAny_nsSet1 (s:={ s with toks:=s.toks+1 }) I.ns λe d c=>?_;obtain⟨L,D,G,g,i,l⟩:=d.count (Kc name v n);erw[b7 (wpAny_lookBehind g (by rw[i]; rwa[pastItsLine_dict (g7 l (by rw[f9]; lia))]) ?_)];rwa[d9 (h _ ⟨(c.2 _ (BA I.ne)).trans I.obj,d,I.ne⟩ c)]

def Ut{R:Result->c8->Prop}{c:List c5}{e:List (j4×c5)}(X:K.In s.heap)(i:Ip K C=Kj)
  (hi:Bh K (.ref C) "__init__" = Kh (Kh (.ref f))) (j:PySem.W.typeIn K (.ref f)=Kh (.type "function"))
  (h:codeAny (model prog w) (A.under (.builtin "type.__call__" ⟨.ref C::c,e⟩)) (.call (.ref f) ⟨.ref (s.heap.objs.size+1)::c,e⟩) (PySem.W.InitBack (s.heap.objs.size+1) R)
   { s with heap:=(s.heap.push Bo).push (B8 C s.heap.objs.size) }) :
  codeAny (model prog w) A (.call (.ref C) ⟨c,e⟩) R s:=by
 obtain⟨l,g,d,t,os⟩:=s;rwa[PySem.W.make_core (PySem.W.makes_of X i) (PySem.W.looks_findIn X hi) (λself=>PySem.W.bind_fn X self j) (.inl rfl) h]
end

def nY(f:j4)(v:V):List (j4×V)->List (j4×V)
 | []=>[(f,v)]
 | (g,x)::r=>if g=f then(g,v)::r else(g,x)::nY f v r
def mB(f g:j4)(v:V):∀ fs:List (j4×V),(nY f v fs).lookup g=if g=f then Kh v else fs.lookup g
 | []=>by
  show Az g [(f,v)]=_;by_cases h:g=f
  ·have c:(g == f)=true:=beq_iff_eq.mpr h;simp only[Az,c,y7 h]
  ·have c:(g == f)=false:=x5.mpr h;simp only[Az,c,y6 h]
 | (k,x)::r=>by
  have i:=mB f g v r;rw[show nY f v ((k,x)::r)=(if k=f then(k,v)::r else(k,x)::nY f v r) from rfl];by_cases d:k=f
  ·rw[y7 d];by_cases h:g=k
   ·have c:(g == k)=true:=beq_iff_eq.mpr h;simp only[Az,c,y7 (h.trans d)]
   ·have c:(g == k)=false:=x5.mpr h;simp only[Az,c,y6 (λe:g=f=>h (e.trans d.symm))]
  ·rw[y6 d];by_cases h:g=k
   ·have c:(g == k)=true:=beq_iff_eq.mpr h;simp only[Az,c,y6 (λe:g=f=>d (h.symm.trans e))]
   ·have c:(g == k)=false:=x5.mpr h;simp only[Az,c];rwa[i]
def mD(f:j4)(v:V):∀ fs:List (j4×V),f∈(nY f v fs).map (·.1)/\∀ g,g∈fs.map (·.1)->g∈(nY f v fs).map (·.1)
 | []=>⟨by simp[nY],λg h=>by simp at h⟩
 | (k,x)::r=>by
  obtain⟨i,d⟩:=mD f v r;rw[show nY f v ((k,x)::r)=(if k=f then(k,v)::r else(k,x)::nY f v r) from rfl];by_cases c:k=f
  ·rw[y7 c];subst c;exact⟨by simp,λg h=>by simpa using h⟩
  ·rw[y6 c];erw[?_,λg h=>?_]
   ·rw[i4];rwa[v9 _ i]
   ·rw[i4] at h ⊢;rcases j5.mp h with e | e
    ·rwa[j5.mpr (.inl e)]
    ·rwa[v9 _ (d g e)]
def mm(f:j4)(v:V):∀ fs:List (j4×V),(nY f v fs).length<=fs.length+1
 | []=>by simp[nY]
 | (k,x)::r=>by
  have d:=mm f v r;rw[show nY f v ((k,x)::r)=(if k=f then(k,v)::r else(k,x)::nY f v r) from rfl];by_cases c:k=f
  ·rw[y7 c,f9,f9]; lia
  ·rw[y6 c,f9,f9]; lia

def gB.some_of(r:gB (Kh v) o):∃ u,o=Kh u/\xZ v u:=by
 cases o with
 | none=>exact(show False from r).elim
 | some u=>rwa[u,rfl,r]
def gB.none_of(r:gB Ki o):o=none:=by
 cases o with
 | none=>rfl
 | some u=>exact(show False from r).elim
def YS(r:xZ v u):HP u=true:=by
 cases v with
 | non=>cases (show u=AW from r); rfl
 | bl b=>cases (show u=F1 b from r); rfl
 | int i=>obtain⟨t,e⟩:=(show ∃ t,u=Cj i t from r); cases e; rfl
 | str x=>obtain⟨t,e⟩:=(show ∃ t,u=DP x t from r); cases e; rfl
 | byt b=>obtain⟨t,e⟩:=(show ∃ t,u=Ij b t from r); cases e; rfl
 | flt b=>obtain⟨t,e⟩:=(show ∃ t,u=Ik b t from r); cases e; rfl
 | ref a=>cases (show u=r6 a from r); rfl
 | ty n=>cases (show u=F2 n from r); rfl

section
variable{P:j9}{w:o9}{H H':Hp}{h h':Ae}{a C dx:b9}{fs fs':List (j4×V)}
def dY(hok:HOk P w H h)(e:H a=Kh (.ins C dx fs)):∃ c,Se h a dx C c/\(∀ f,gB (fs.lookup f) (c f))/\Hh c (fs.map (·.1))/\fs.length<=1000/\H dx=Kh (.own a):=by
 obtain⟨d,z,ne,ob,c,n,r,q⟩:=(show uL P w H h a (.ins C dx fs) from hok a _ e);rwa[c,⟨ob,n,ne⟩,r,q,z,d]
end

structure Cls(K:b6)(C:b9):Prop where
 pg:Eb K C JB=Kj
 hd:Fq K C=Kj
 po:Hk K C=Kj
 sa:Bh K (.ref C) "__setattr__" = Kh (Kh (.builtin "object.__setattr__"))
def Cls.get{K:b6}(c:Cls K C)(f:j4):Eb K C f=true:=c.pg
def vx(K:b6)(C:b9)(f:j4):Prop:=Bh K (.ref C) f=Kh Ki
def vx.taker{K:b6}(n:vx K C f):Gg K C f=Kh none:=by
 unfold Gg;rw[show Bh K (.ref C) f=Kh Ki from n];rfl
structure Con(K:b6)(C:b9)(f:j4)(v:V)(u:c5):Prop where
 at_:Bh K (.ref C) f=Kh (Kh u)
 rel:xZ v u
 get:Hl K u "__get__" = Kh Ki
 cp:PySem.W.copiedNames.contains f=Kk
structure Yv(K:b6)(C:b9)(m:j4)(f:b9):Prop where
 at_:Bh K (.ref C) m=Kh (Kh (.ref f))
 fn:Hj K (.ref f)=Kj
 kp:AT K (.ref f)=Kj

section
variable{X:Cx}{Kl:List (b9×BP)}{σ:St}{H:Hp}{s:c8}{a C dx:b9}{fs:List (j4×V)}{f:j4}{v:V}{A:Ad}{E:c5->c8->Prop}

def aX{Q:c5->c8->Prop}(I:Inv X Kl σ H s)(e:H a=Kh (.ins C dx fs))(c:Cls X.K C)(n:vx X.K C f)(l:fs.lookup f=Kh v)
  (h:∀ u d,Inv X Kl σ H d->xZ v u->Q u d):wpAny (model X.prog X.w) A (getAttr (.ref a) f b) Q E s:=by
 obtain⟨g,O,r,_,_,_⟩:=dY I.hok e;obtain⟨u,i,ru⟩:=gB.some_of (v:=v) (o:=g f) (by rw[<- l]; rwa[r f]);rwa[TX I.kIn O (c.get f) c.hd n i (YS ru) (h u _ (I.tok _) ru)]

def jr{Q:c5×List c5->c8->Prop}(I:Inv X Kl σ H s)(e:H a=Kh (.ins C dx fs))(c:Cls X.K C)(k:Yv X.K C m g)(l:fs.lookup m=Ki)
  (h:Q (.ref g,[.ref a]) s):wpAny (model X.prog X.w) A (getMethod (.ref a) m d) Q E s:=by
 obtain⟨i,O,r,_,_,_⟩:=dY I.hok e;have j:i m=none:=gB.none_of (by rw[<- l]; rwa[r m]);rwa[Vl I.kIn O (c.get m) k.at_ k.fn j h]

def aZ{Q:Unit->c8->Prop}(I:Inv X Kl σ H s)(e:H a=Kh (.ins C dx fs))(c:Cls X.K C)(n:vx X.K C f)(M:fs.length<1000)(B:xZ y u)
  (h:∀ j,Inv X Kl σ (upd H a (.ins C dx (nY f y fs))) j->Q () j):wpAny (model X.prog X.w) A (setAttr (.ref a) f u) Q E s:=by
 obtain⟨l,O,r,i,_,m⟩:=dY I.hok e;have D:(fs.map (·.1)).length<=sizeLine:=by rw[b5,sizeLine_eq]; lia
 erw[Rg I.kIn O c.sa c.po n.taker c.hd i D λL d p=>h _ ?_];have hd:∃ o,L.get? dx=Kh o:=let ⟨o,_,_,e',_⟩:=d.ns;⟨o,e'⟩;erw[I.write (x:=a) (e:=dx) (by rw[e]; rwa[x8]) (.inr m) (λb q J z=>(p.2 b J).trans z) hd ?_];erw[by rw[zH O.ne]; exact m,?_,O.ne,d.obj,_,d.ns,λg=>?_,λg G=>?_]
 ·have:=mm f y fs; lia
 ·show gB ((nY f y fs).lookup g) (if g=f then Kh u else l g);rw[mB];by_cases q:g=f
  ·rw[y7 q,y7 q]; rwa[B]
  ·rw[y6 q,y6 q]; rwa[r g]
 ·by_cases q:g=f
  ·rw[q]; exact(mD f y fs).1
  ·refine(mD f y fs).2 g (i g λz=>G ?_);show(if g=f then Kh u else l g)=Ki;rw[y6 q]; rwa[z]

def Inv.made(I:Inv X Kl σ H s):Inv X Kl σ (upd (upd H s.heap.objs.size (.own (s.heap.objs.size+1))) (s.heap.objs.size+1) (.ins C s.heap.objs.size []))
  { s with heap:=(s.heap.push Bo).push (B8 C s.heap.objs.size) }:=by
 have c:(s.heap.push Bo).get? s.heap.objs.size=Kh Bo:=i7 s.heap rfl;have i:((s.heap.push Bo).push (B8 C s.heap.objs.size)).get? (s.heap.objs.size+1)=Kh (B8 C s.heap.objs.size):=by
  have:=i7 (s.heap.push Bo) (o:=B8 C s.heap.objs.size) rfl;(rw[BW] at this;assumption)
 have h:(s.heap.push Bo).Ns s.heap.objs.size (λ_=>Ki):=⟨Bo,#[],_,c,rfl,(λe g=>x4 g (by simp)),λ_=>rfl⟩;have j:=I.laid (a:=s.heap.objs.size) (o:=.own (s.heap.objs.size+1)) (h':=s.heap.push Bo) (t':=s.toks) (λb u q=>c9 _ q) (f6 _) ⟨_,c⟩;erw[j.laid (a:=s.heap.objs.size+1) (o:=.ins C s.heap.objs.size []) (t':=s.toks) (λb u q=>c9 _ q) (EC (BW _ _)) ?_];have ne:s.heap.objs.size≠s.heap.objs.size+1:=m7 (Ck _);erw[by rw[zH ne,zA],t9 _,ne,i,λ_=>Ki,(Heap.Ns1.of_empty h).at λo q=>c9 _ q,λ_=>x8,λy d=>x4 rfl d]

def Si{f:j4}{s:c8}{Q:c5->c8->Prop}(d:attributeBase e f env (eval e env)=eval e env)
  (h:wpAny (model prog w) A (eval e env) (λo c=>wpAny (model prog w) A (getAttr o f Kj) Q E c) E s):wpAny (model prog w) A (eval (.Attribute e f pos) env) Q E s :=
 Attribute_any_ h (by rw[arm_eval_Attribute,d])
end


section
variable{X:Cx}{Kl:List (b9×BP)}{σ:St}{H:Hp}{s:c8}{A:Ad}{E:c5->c8->Prop}{Q:c5->c8->Prop}{c:c5}{b:Bool}
inductive TyOf(K:b6)(H:Hp):V->c5->Prop where
 | non:TyOf K H .non (.type "NoneType")
 | bl (x:Bool):TyOf K H (.bl x) (.type "bool")
 | int (i:Int):TyOf K H (.int i) (.type "int")
 | str (x:j4):TyOf K H (.str x) (.type "str")
 | flt (x:UInt64):TyOf K H (.flt x) (.type "float")
 | lst {a:b9} {xs:List V} (e:H a=Kh (.lst xs)):TyOf K H (.ref a) (.type "list")
 | frz {a:b9} {o:BP} {xs:List V} (e:H a=Kh (.frz o (.lst xs))):TyOf K H (.ref a) (.type "list")
 | tup {a:b9} {xs:List V} (e:H a=Kh (.tup xs)):TyOf K H (.ref a) (.type "tuple")
 | dK {a:b9} {kvs:List (Key×V)} (e:H a=Kh (.dK kvs)):TyOf K H (.ref a) (.type "dict")
 | dT {a:b9} {kvs:List (List Key×V)} (e:H a=Kh (.dT kvs)):TyOf K H (.ref a) (.type "dict")
 | ins {a C dx:b9} {fs:List (j4×V)} (e:H a=Kh (.ins C dx fs)) (cl:Cls K C) (ha:Bh K (.ref C) "__class__" = Kh (Kh (.builtin "object.__class__")))
   (hn:Hl K (.builtin "object.__class__") "__get__" = Kh (Kh (.builtin "getset_descriptor.__get__"))) (htk:PySem.W.takesIn K (.builtin "object.__class__")=Kh Kj)
   (hm:PySem.W.mroIn K C (.type "object")=Kh Kj):TyOf K H (.ref a) (.ref C)
end
end L2

namespace L2

structure zd(k:Nat)(A:Ad):Prop where
 hd:A.handled=Ki
 dp:A.depth+3*k+5<recursionLimit
 un:A.units+16*k+200<cLine
 gd:A.guards=Kh []
def zd.mono{j k:Nat}(r:zd k A)(h:j<=k):zd j A:=⟨r.hd,by have:=r.dp; lia,by have:=r.un; lia,r.gd⟩
def zd.deeper{k:Nat}(r:zd (k+1) A)(env:EM):zd k (A.deeper env) :=
 ⟨r.hd,by have:=r.dp; show A.depth+1+3*k+5<_; lia,by have:=r.un; show A.units+3+16*k+200<_; lia,r.gd⟩
def Zo{A:Ad}{c:List c5}{d:List (j4×c5)} : (A.under (.builtin "type.__call__" ⟨.ref C::c,d⟩)).depth=A.depth+1:=by
 first | rfl | simp[F4,Code.weight,Code.isCreation,JH,Code.isCaller,JX,Hm,guardIds]
def Zr{A:Ad}{c:List c5}{d:List (j4×c5)} : (A.under (.builtin "type.__call__" ⟨.ref C::c,d⟩)).units=A.units+1:=by
 first | rfl | simp[F4,Code.cUnits,JX,Hm]
def zd.make{k:Nat}(r:zd (k+1) A)(C:b9)(c:List c5)(d:List (j4×c5)):zd k (A.under (.builtin "type.__call__" ⟨.ref C::c,d⟩)) :=
 ⟨r.hd,by have:=r.dp; rw[Zo]; lia,by have:=r.un; rw[Zr]; lia,by first | exact r.gd | (rw[F4]; simpa [pushGuards,Code.guards,JH,guardIds] using r.gd)⟩
def zd.depth{k:Nat}(r:zd k A):A.depth<recursionLimit:=by have:=r.dp; lia
def zd.units{k:Nat}(r:zd k A):A.units+64<cLine:=by have:=r.un; lia
def zd.units0{k:Nat}(r:zd k A):A.units<cLine:=by have:=r.un; lia

def Qg:TA:=λ_ H Q=>Q [] H
def Sh(e:TE)(d:TA):TA:=λc H Q=>e c H λx g=>d c g λxs f=>Q (x::xs) f
section
variable{X:Cx}{e:AD}{es:List AD}{te:TE}{t:TA}{pos:Ea}
def zL:PA X [] Qg:=λ_ _ _ _ H Q I h=>Hn ⟨[],H,I,.nil,h⟩
def zG(m:PE X e te)(l:PA X es t)(j:starEach (e::es) X.env=(Kk,eval e X.env)::starEach es X.env:=by rfl):PA X (e::es) (Sh te t):=by
 intro pos d s c H Q I h;rw[j];show wpAny _ _ (spliced ((Kk,eval e X.env)::backTo pos (starEach es X.env))) _ _ s;erw[G6 (thn (m d s c H _ I h) λu f ⟨x,q,o,r1,i⟩=>?_)];rwa[thn (l pos d f c q _ o i) λr v ⟨xs,p,n,r2,g⟩=>⟨x::xs,p,n,.cons r1 r2,g⟩]

def tTup(t:TA):TE:=λd H Q=>t d H λxs c=>xs.length<=sizeLine/\∀ p,c p=Ki->Q (.ref p) (upd c p (.tup xs))
def tLst(t:TA):TE:=λd H Q=>t d H λxs c=>xs.length<=sizeLine/\∀ p,c p=Ki->Q (.ref p) (upd c p (.lst xs))
def ji{x1}(h:PA X es t):PE X (.Tuple es x1 pos) (tTup t):=by
 intro m s g H Q I j;erw[wpAny_Tuple_spliced (thn (h pos m s g H _ I j) λi c ⟨xs,f,d,r,z,q⟩=>⟨by rw[<- r.length]; exact z,?_⟩)];have l:f c.heap.objs.size=none:=d.hok.fresh (f6 _);erw[.ref c.heap.objs.size,upd f c.heap.objs.size (.tup xs),d.laid (t':=c.toks) (λb u e=>c9 _ e) (f6 _) ?_,rfl,q _ l];rwa[z,i,r,⟨_,i7 _ rfl,rfl,_,rfl⟩]
def XW(h:PA X es t):PE X (.List es pos) (tLst t):=by
 intro m s g H Q I j;erw[wpAny_List_spliced (thn (h pos m s g H _ I j) λi c ⟨xs,f,d,r,z,q⟩=>⟨by rw[<- r.length]; exact z,?_⟩)];have l:f c.heap.objs.size=none:=d.hok.fresh (f6 _);erw[.ref c.heap.objs.size,upd f c.heap.objs.size (.lst xs),d.laid (t':=c.toks) (λb u e=>c9 _ e) (f6 _) ?_,rfl,q _ l];rwa[z,i,0,r,i7 _ rfl]
end

abbrev Sp:=List V->Hp->VK->XK->Prop
abbrev CXT:=List EM->Hp->c8->XK->c5->c8->Prop

structure Ts(P:j9)(w:o9)(K:b6)(mg:j4->Option c5)(base:Ae)(A:Ad)(outer:List EM)(s:c8)(H:Hp):Prop where
 frames:A.frames=Kh outer
 mod:Mod K mg base
 bs:∀ b o,base.get? b=Kh o->s.heap.get? b=Kh o/\H b=Ki
 bsz:base.objs.size<=s.heap.objs.size
 funs:s.heap.FunFrames base outer
 frf:∀ b∈frs outer,H b=Ki
 hok:HOk P w H s.heap
 bare:EA s.gens
def CE(outer:List EM)(P:j9)(w:o9)(H:Hp)(s:c8)(Q:VK)(u:c5)(c:c8):Prop :=
 ∃ v d,c.os=s.os/\EA c.gens/\Un (frs outer) [] H d s.heap c.heap/\HOk P w d c.heap/\xZ v u/\Q v d
def CR(d:CXT)(outer:List EM)(P:j9)(w:o9)(H:Hp)(s:c8)(Q:VK)(E:XK)(r:Result)(c:c8):Prop :=
 match r with
 | .ok (.ret u)=>CE outer P w H s Q u c
 | .ok _=>False
 | .error e=>d outer H s E e c
structure yS(P:j9)(w:o9)(K:b6)(mg:j4->Option c5)(base:Ae)(CX:CXT)(k:Nat)(f:b9)(fd:AZ)(ps:List j4)(sp:Sp):Prop where
 len:∀ vs H Q E,sp vs H Q E->vs.length=ps.length
 run:∀(A:Ad)(outer:List EM)(s:c8)(H:Hp)(args:Args)(us:List c5)(vs:List V)(Q:VK)(E:XK),zd k A->Ts P w K mg base A outer s H->F5 s fd args (ps.zip us)->yW vs us->sp vs H Q E ->
  codeAny (model P w) A (.call (.ref f) args) (CR CX outer P w H s Q E) s
def Ts.make{K:b6}{mg:j4->Option c5}{H:Hp}(e:Ts P w K mg base A outer s H)(C:b9)(c:List c5)(d:List (j4×c5)) :
  Ts P w K mg base (A.under (.builtin "type.__call__" ⟨.ref C::c,d⟩)) outer s H:=⟨by first | exact e.frames | (simpa [F4,Code.envs,Hm,pushEnvs] using e.frames),e.mod,e.bs,e.bsz,e.funs,e.frf,e.hok,e.bare⟩
section
variable{X:Cx}{Kl:List (b9×BP)}{σ:St}{H:Hp}{s s':c8}
def Inv.env0(I:Inv X Kl σ H s):Ts X.prog X.w X.K X.mg X.base X.A X.stack s H :=
 ⟨I.ok.frames,I.ok.mod,I.bs,g7 I.ok.bsz I.sz,I.stack,I.stkFree,I.hok,I.bare⟩
def Inv.after{Q:VK}(I:Inv X Kl σ H s)(h:CE X.stack X.prog X.w H s Q u s'):EP X Kl σ Q u s':=by
 obtain⟨v,f,os,bare,un,hok,r,q⟩:=h;obtain⟨e,g,d,t,c⟩:=s';obtain rfl:c=s.os:=os;rwa[v,f,I.call (h':=e) (g':=g) (d':=d) (t':=t) (ch:=[]) un hok bare (λb z=>x4 z (by simp)),r,q]
end

def Zt(sp:Sp)(c:List V)(E:XK)(t:TA):TE:=λd H Q=>t d H λe f=>sp (e++c) f Q E
def pL(K:b6)(fd:AZ)(d:List j4)(e:List c5):Prop :=
 ∀(s:c8)(c:List c5),K.In s.heap->(c++e).length=d.length->F5 s fd ⟨c,[]⟩ (d.zip (c++e))
def pL.all{K:b6}{d:List j4}(h:∀ c:List c5,c.length=d.length->bindArgs fd ⟨c,[]⟩=pure (d.zip c)):pL K fd d []:=λs c _ e=>by
 rw[AJ] at e ⊢;rwa[.of_eq (h c e)]

def dD(g:CXT)(X:Cx)(E:XK):Prop:=∀(f:List (b9×BP))(d:St)(H:Hp)(s:c8)(e:c5)(c:c8),Inv X f d H s->g X.stack H s E e c->X.xe e c

section
variable{X:Cx}{CX:CXT}{k:Nat}{f C:b9}{fd:AZ}{ps:List j4}{sp:Sp}{dvs:List V}{ds:List c5}{E:XK}{x m:j4}{p pos apos:Ea}{e o:AD}{es:List AD}{ta:TE}{t:TA}

def eF{d:St}{H:Hp}{Q:VK}(F:yS X.prog X.w X.K X.mg X.base CX k f fd ps sp)(l:zd k X.A)(q:pL X.K fd ps ds)(hd:yW dvs ds)(j:dD CX X E)
  (I:Inv X g d H s) (r:yW vs us) (h:sp (vs++dvs) H Q E):wpAny (model X.prog X.w) X.A (call (.ref f) us) (EP X g d Q) X.xe s:=by
 have r2:yW (vs++dvs) (us++ds):=r.append hd;have n:(us++ds).length=ps.length:=by rw[<- r2.length]; rwa[F.len _ _ _ _ h]
 erw[G7 (codeAny_mono (F.run X.A X.stack s H ⟨us,[]⟩ (us++ds) (vs++dvs) Q E l I.env0 (q s us I.kIn n) r2 h) λr i c=>?_)];cases r with
 | error e=>rwa[j g d H s e i I c]
 | ok v =>
  cases v with
  | ret u=>rwa[I.after c]
  | next=>rwa[Bm c]
  | brk=>rwa[Bm c]
  | cont=>rwa[Bm c]

def RL(F:yS X.prog X.w X.K X.mg X.base CX k f fd ps sp)(l:zd k X.A)(v:Gl X x)(n:X.mg x=Kh (.ref f))(u:AT X.K (.ref f)=Kj)(z:pL X.K fd ps ds)(hd:yW dvs ds)(j:dD CX X E)
  (B:PA X (e::es) t) (d:(x ==("__debug__" : j4))=false:=by decide) (y:starEach (e::es) X.env=(Kk,eval e X.env)::starEach es X.env:=by rfl) (c:(backTo pos (starEach es X.env)).any (·.1)=false:=by rfl) :
  PE X (.Call (.Name x p) (e::es) [] pos) (Zt sp dvs E t):=by
 intro D s i H Q I h;erw[Cm (yc I v n ?_ d)];erw[DJ (h₀:=X.base) I.ok.mod.kin u (thn (B pos D s i H _ I h) λJ L ⟨G,M,g,r,q⟩=>⟨g.kIn,?_⟩) y c];rwa[eF F l z hd j g r q]
def Vi(F:yS X.prog X.w X.K X.mg X.base CX k f fd ps sp)(g:zd k X.A)(l:Gl X x)(i:X.mg x=Kh (.ref f))(j:AT X.K (.ref f)=Kj)(n:pL X.K fd ps ds)(hd:yW dvs ds)(d:dD CX X E)
  (c:(x ==("__debug__" : j4))=false:=by decide):PE X (.Call (.Name x p) [] [] pos) (Zt sp dvs E Qg):=by
 intro r s q H Q I h;erw[Cm (yc I l i ?_ c)];rwa[Ey I.kIn j (eF (us:=[]) F g n hd d I .nil h)]

structure Mk(K:b6)(C f:b9):Prop where
 makes:Ip K C=Kj
 init:Bh K (.ref C) "__init__" = Kh (Kh (.ref f))
 fn:Hj K (.ref f)=Kj
 kp:AT K (.ref C)=Kj

def UK{i:St}{H:Hp}{Q:VK}(M:Mk X.K C f)(F:yS X.prog X.w X.K X.mg X.base CX k f fd ps sp)(B:zd (k+1) X.A)(G:pL X.K fd ps ds)(hd:yW dvs ds)
  (z:dD CX X E) (I:Inv X j i H s) (r:yW vs us)
  (h:∀ x d,H x=Ki->H d=Ki->d≠x->sp (.ref x::(vs++dvs)) (upd (upd H d (.own x)) x (.ins C d [])) (λv O=>v=.non/\Q (.ref x) O) E) :
  wpAny (model X.prog X.w) X.A (call (.ref C) us) (EP X j i Q) X.xe s:=by
 have l:=h (s.heap.objs.size+1) s.heap.objs.size (I.hok.fresh (Bi _)) (I.hok.fresh (f6 _)) (m7 (Ck _));have g:=Inv.made (C:=C) I;have r2:yW (V.ref (s.heap.objs.size+1)::(vs++dvs)) (r6 (s.heap.objs.size+1)::(us++ds)):=.cons rfl (r.append hd);have D:(r6 (s.heap.objs.size+1)::us++ds).length=ps.length:=by
  have e:=r2.length;rw[F.len _ _ _ _ l] at e;rwa[e.symm]
 refine G7 (Ut (f:=f) I.kIn M.makes M.init (beq_iff_eq.mp M.fn) (codeAny_mono (F.run _ X.stack _ _ ⟨r6 (s.heap.objs.size+1)::us,[]⟩ (r6 (s.heap.objs.size+1)::(us++ds)) _ _ E (B.make C us [])
  (g.env0.make C us []) (G _ (r6 (s.heap.objs.size+1)::us) g.kIn D) r2 l) λr n c=>?_))
 cases r with
 | error e=>rwa[z j i _ _ e n g c]
 | ok J =>
  cases J with
  | ret u =>
   obtain⟨v,P,N,q,L,y⟩:=g.after c;subst L;rwa[q,⟨V.ref (s.heap.objs.size+1),P,N,rfl,y⟩]
  | next=>rwa[Bm c]
  | brk=>rwa[Bm c]
  | cont=>rwa[Bm c]
end

section
variable{X:Cx}{CX:CXT}{k:Nat}{f C:b9}{fd:AZ}{ps ks:List j4}{sp:Sp}{E:XK}{x m:j4}{p pos apos kpos:Ea}{e o:AD}{es:List AD}{kws:List Fs}{te ta:TE}{t tk:TA}{nm:Option j4}
structure KBinds(K:b6)(fd:AZ)(ps ks:List j4)(g:List c5->List c5->List c5)(gV:List V->List V->List V):Prop where
 to:∀(s:c8)(us ws:List c5),K.In s.heap->(g us ws).length=ps.length->F5 s fd ⟨us,ks.zip ws⟩ (ps.zip (g us ws))
 rel:∀{vs:List V}{us:List c5}{zs:List V}{ws:List c5},yW vs us->yW zs ws->yW (gV vs zs) (g us ws)
variable{g:List c5->List c5->List c5}{gV:List V->List V->List V}
end

structure zI(N P:List j4)(sc:DR):Prop where
 kind:sc.kind=.function
 co:sc.isCoroutine=Kk
 gen:sc.isGenerator=Kk
 nd:N.Nodup
 pre:N.take P.length=P
 par:∀ x∈P,sc.names.lookup x=Kh .local\/sc.names.lookup x=Kh .cell
 nofree:∀ y∈sc.names,y.2≠.free

def fC{kindOf:j4->Option Df}{x:j4} : ∀{binds:List (j4×c5)}{m:j4->Option c5},(∀ v,(x,v) ∉ binds)->bindL kindOf binds m x=m x
 | [],_,_=>rfl
 | (n,v)::r,m,h=>by
  unfold bindL;rw[fC λw c=>h w (v9 _ c)];split
  ·have:x≠n:=by rintro rfl; rwa[h v o4]
   simp[this]
  ·rfl
def fo{kindOf:j4->Option Df}{x:j4} : ∀{binds:List (j4×c5)}{m:j4->Option c5},(∀ v,(x,v) ∉ binds)->bindC kindOf binds m x=m x
 | [],_,_=>rfl
 | (n,v)::r,m,h=>by
  unfold bindC;rw[fo λw c=>h w (v9 _ c)];split
  ·rfl
  ·have:x≠n:=by rintro rfl; rwa[h v o4]
   simp[this]
def dr{kindOf:j4->Option Df} : ∀{P:List j4}{c:List c5}{i:Nat}{m:j4->Option c5},P.Nodup->P[i]?=Kh x->c[i]?=Kh v->kindOf x=Kh .local ->
  bindL kindOf (P.zip c) m x=Kh v
 | [],_,_,_,_,h,_,_=>by simp at h
 | _::_,[],_,_,_,_,h,_=>by simp at h
 | p::P,w::c,0,m,nd,h1,h2,d=>by
  simp at h1 h2; subst h1; subst h2;show bindL kindOf ((p,w)::P.zip c) m p=_;unfold bindL;rw[fC λv e=>(DG.mp nd).1 (Gh e).1,y7 d];simp
 | p::P,w::c,i+1,m,nd,h1,h2,d=>by
  show bindL kindOf ((p,w)::P.zip c) m x=_;unfold bindL;exact dr (i:=i) (DG.mp nd).2 (by simpa using h1) (by simpa using h2) d
def gL{kindOf:j4->Option Df} : ∀{P:List j4}{c:List c5}{i:Nat}{m:j4->Option c5},P.Nodup->P[i]?=Kh x->c[i]?=Kh v->kindOf x≠Kh .local ->
  bindC kindOf (P.zip c) m x=Kh v
 | [],_,_,_,_,h,_,_=>by simp at h
 | _::_,[],_,_,_,_,h,_=>by simp at h
 | p::P,w::c,0,m,nd,h1,h2,d=>by
  simp at h1 h2; subst h1; subst h2;show bindC kindOf ((p,w)::P.zip c) m p=_;unfold bindC;rw[fo λv e=>(DG.mp nd).1 (Gh e).1,y6 d];simp
 | p::P,w::c,i+1,m,nd,h1,h2,d=>by
  show bindC kindOf ((p,w)::P.zip c) m x=_;unfold bindC;exact gL (i:=i) (DG.mp nd).2 (by simpa using h1) (by simpa using h2) d

def iG(N:List j4)(c:List V):St:=c.map Kh++CN (N.length-c.length) Ki

def cxOf(i:CXT)(P:j9)(w:o9)(K:b6)(mg:j4->Option c5)(base:Ae)(N:List j4)(d:j4)(c:DR)(f:b9)(h:c5)(A:Ad)(outer:List EM)(s:c8)(H:Hp)(E:XK):Cx where
 prog:=P
 w:=w
 K:=K
 mg:=mg
 base:=base
 A:=A.deeper (envOfC d c s.heap.objs.size f h)
 N:=N
 s₀:=s
 H₀:=H
 env:=envOfC d c s.heap.objs.size f h
 outer:=outer
 stack:=envOfC d c s.heap.objs.size f h::outer
 ex:=[]
 calm:=Kj
 fn:=λ_=>Kj
 pn:=[]
 xe:=λe j=>wpAny (model P w) (A.deeper (envOfC d c s.heap.objs.size f h)) (leaving (envOfC d c s.heap.objs.size f h) e) (λ_ g=>i outer H s E e g) (λl g=>i outer H s E l g) j

def bf{d:DR}{n:Nat}(h:d.names.lookup x=Kh .cell):∃ c,(cellsFrom n d.names []).lookup x=Kh c:=by
 have q:=F6 d.names n [] (.inl h);rwa[m9.mp q]

def Xf{O:CXT}{K:b6}{mg:j4->Option c5}{A:Ad}{H:Hp}{E:XK}{l:List V}
  (S:zI N m d) (hd:A.handled=Ki) (j:Ts P w K mg base A outer s H) (Y:l.length=m.length) (r:yW l I)
  (x:InCallC s s.heap.objs.size (bindL (envOfC g d s.heap.objs.size f G).kindOf (m.zip I) λ_=>Ki) (cellsFrom (s.heap.objs.size+1) d.names []) (bindC (envOfC g d s.heap.objs.size f G).kindOf (m.zip I) λ_=>Ki) J) :
  Inv (cxOf O P w K mg base N g d f G A outer s H E) [] (iG N l) H J:=by
 have R:m.length<=N.length:=by have:=congrArg z9 S.pre; rw[g8] at this; lia
 obtain⟨h1,X,rfl,M⟩:=x.done;have o:∀ b:b9,b ∉ (cxOf O P w K mg base N g d f G A outer s H E).ex:=λb z=>x4 (show b∈([]:List b9) from z) (by simp);refine⟨⟨j.mod,S.kind,U,U,f6 _,λy z c h1 h2=>?_,λy B=>?_,λy c _ h=>?_,λ_=>hd,Around.frames_deeper j.frames,.inr ⟨U,U⟩,λb z=>x4 z (o b),j.bs,j.bsz,λb _ _=>o b,λb z=>x4 z (o b),j.funs,j.frf⟩,
  rfl,j.bare,Un.kept M,⟨_,x.toInCall.ns,λi y v h1 h2 h3=>?_⟩,λy c h=>⟨_,x.cell y c h⟩,j.hok.fresh (f6 _),λy c h=>?_,λp D=>x4 (show p∈([]:List (b9×BP)) from D) (by simp),j.hok.kept M,?_⟩
 ·rwa[name_of_addr x.apart (Ca h1) (Ca h2)]
 ·have B:d.names.lookup y=Kh .cell\/d.names.lookup y=Kh .free:=B;rcases B with B | B
  ·rwa[bf B]
  ·rwa[x4 rfl (S.nofree _ (Ca B))]
 ·rwa[Bq (x.above y c (Ca h))]
 ·have hi:i<l.length:=by
   unfold iG at h2;by_cases hi:i<l.length
   ·rwa[hi]
   ·rw[x9 (by simpa using hi)] at h2;rw[FM] at h2;split at h2 <;> cases h2
  have T:l[i]?=Kh v:=by
   unfold iG at h2;rw[Aq (by simpa using hi),c7] at h2;cases e:l[i]? with
   | none=>rw[e] at h2; cases h2
   | some a=>rw[e] at h2; cases h2; rfl
  obtain⟨u,L,Q⟩:=r.get T;have D:m[i]?=Kh y:=by
   rw[<- S.pre,FF (by lia)]; rwa[h1]
  have C:m.Nodup:=by rw[<- S.pre]; rwa[S.nd.sublist (Ft _ _)]
  exists u,Q;rcases S.par y (f7 D) with k | k
  ·rwa[.inl ⟨k,dr C D L k⟩]
  ·obtain⟨c,e⟩:=bf (n:=s.heap.objs.size+1) k;erw[.inr ⟨.inl k,c,e,?_⟩];have q:=x.cell y c e;rw[gL C D L (by show d.names.lookup y≠_; rw[k]; decide)] at q;rwa[q]
 ·rwa[j.hok.fresh (Bq (x.above y c (Ca h)))]
 ·unfold iG;show _=N.length;rw[f8,b5,Cs];lia

def Pf{M:CXT}{K:b6}{mg:j4->Option c5}{k:Nat}{dV kV G pm g ct oc:c5}{an od:Option b9}
  {T:Array (Option c5)}  {sp:Sp} (lk:K.lookup f=Kh ⟨oc,od,.func (AN j d params body c dV kV G pm an g ct),T⟩) (Z:Dg K g d=Kj) (S:zI N L c)
  (len:∀ i H Q E,sp i H Q E->i.length=L.length)
  (p:∀(A:Ad)(outer:List EM)(s:c8)(H:Hp)(i:List V)(Q:VK)(E:XK),zd k (A.deeper (envOfC d c s.heap.objs.size f g))->sp i H Q E ->
   ∃ t,PSs (cxOf M P w K mg base N d c f g A outer s H E) body t/\t { nx:=λ_ l=>Q .non l,rt:=Q } (iG N i) H) :
  yS P w K mg base M (k+1) f (AN j d params body c dV kV G pm an g ct) L sp:=by
 refine⟨len,λA outer s H args us i Q E Y D hb r B=>?_⟩;have hl:=len _ _ _ _ B;have KX:K.In s.heap:=D.mod.kin.keeps λb o e=>(D.bs b o e).1;have X:s.heap.NoLimit:=D.mod.nolimit.keeps λb o e=>(D.bs b o e).1;have m:∀ y∈L.zip us,c.names.lookup y.1=Kh .local\/(c.names.lookup y.1=Kh .cell/\((cellsFrom (s.heap.objs.size+1) c.names []).lookup y.1).isSome=Kj):=λ⟨n,v⟩ hy=>by
  rcases S.par n (Gh hy).1 with q | q
  ·rwa[.inl q]
  ·rwa[.inr ⟨q,F6 _ _ _ (.inl q)⟩]
 refine codeAny_call_function Y.depth (KX _ _ lk) rfl S.co S.gen rfl (PySem.W.codeRec_of KX Z) (hb _ _ _ _ ?_);refine wpAny_newFunctionEnv_cells S.kind m λenv he s1 x=>?_;subst he;refine⟨X.keeps x.toInCall.keep,codeAny_func ?_⟩;obtain⟨t,ht,hq⟩:=p A outer s H i Q E (Y.deeper _) B;have I:Inv (cxOf M P w K mg base N d c f g A outer s H E) [] (iG N i) H s1:=Xf S Y.hd D hl r x;refine BC (ht [] s1 (iG N i) H _ I hq) (λfl O z=>?_) λe O z=>z;have C:∀{h:St}{l:Hp}{v:V}{u:c5},Inv (cxOf M P w K mg base N d c f g A outer s H E) [] h l O->xZ v u->Q v l->CE outer P w H s Q u O :=
  λ{h l v u} J R q=>⟨v,l,J.os,J.bare,J.base,J.hok,R,q⟩
 cases fl with
 | ret u =>
  obtain⟨v,h,l,J,R,q⟩:=z;rwa[C J R q]
 | next =>
  obtain⟨h,l,J,q⟩:=z;rwa[C (v:=V.non) (u:=AW) J rfl q]
 | brk =>
  obtain⟨_,_,_,q⟩:=z;rwa[Bm q]
 | cont =>
  obtain⟨_,_,_,q⟩:=z;rwa[Bm q]
end L2

namespace L2
section
variable{X:Cx}{x:j4}{p pos:Ea}{e:AD}{es:List AD}{t:TA}{id T:String}{r:List V->Hp->VK->Prop}

def tCB(r:List V->Hp->VK->Prop)(t:TA):TE:=λc H Q=>t c H λd f=>r d f Q
def yH(w:uK X (.builtin id) r)(u:Gl X x)(q:X.mg x=Ki)(n:bootBuiltins x=Kh (.builtin id))(y:PA X (e::es) t)(o:x ≠ "__name__" := by decide)(d:(x ==("__debug__" : j4))=false:=by decide)
  (v:starEach (e::es) X.env=(Kk,eval e X.env)::starEach es X.env:=by rfl) (c:(backTo pos (starEach es X.env)).any (·.1)=false:=by rfl):PE X (.Call (.Name x p) (e::es) [] pos) (tCB r t):=by
 intro g s f H Q I h;erw[Cm (Wg I u q n ?_ o d)];rwa[HQ (thn (y pos g s f H _ I h) λj l ⟨i,A,z,r1,m⟩=>w g l f A i j Q z r1 m) v c]
def uY(w:uK X (.type T) r)(u:Gl X x)(q:X.mg x=Ki)(n:bootBuiltins x=Kh (.type T))(y:PA X (e::es) t)(o:x ≠ "__name__" := by decide)(d:(x ==("__debug__" : j4))=false:=by decide)
  (v:starEach (e::es) X.env=(Kk,eval e X.env)::starEach es X.env:=by rfl) (c:(backTo pos (starEach es X.env)).any (·.1)=false:=by rfl):PE X (.Call (.Name x p) (e::es) [] pos) (tCB r t):=by
 intro g s f H Q I h;erw[Cm (Wg I u q n ?_ o d)];rwa[EB (thn (y pos g s f H _ I h) λj l ⟨i,A,z,r1,m⟩=>w g l f A i j Q z r1 m) v c]
end
end L2

namespace HT
open PySem PyProof.Rows

def lexLt:List Int->List Int->Bool
 | [],[]=>Kk
 | [],_::_=>Kj
 | _::_,[]=>Kk
 | x::xs,y::c=>if x=y then lexLt xs c else decide (x<y)
def lexLt_cons(x y:Int)(xs c:List Int):lexLt (x::xs) (y::c)=if x=y then lexLt xs c else decide (x<y):=rfl
def gc:lexLt [] []=false:=rfl
def jx(y:Int)(c:List Int):lexLt [] (y::c)=true:=rfl
def kX(x:Int)(xs:List Int):lexLt (x::xs) []=false:=rfl

def Uo(A:Ad)(s:c8)(a:Int)(t:Je)(c:Int)(u:Je):∃ e,F7 A s (.int a t) (.int c u) e/\(e=Kj↔a=c) :=
 ⟨(a == c),DK a t c u,by simp⟩
def Uw(A:Ad)(s:c8)(a:Int)(t:Je)(c:Int)(u:Je)(prog:j9)(w:o9)(E:c5->c8->Prop)(Q:c5->c8->Prop)(h:Q (.bool (decide (a<c))) s) :
  wpAny (model prog w) A (richCompare .Lt (.int a t) (.int c u)) Q E s :=
 (J5 h:wpAny (model prog w) A (compareOp .Lt (.int a t) (.int c u)) Q E s)

section
open PySem.SeqAt
open PySem.AutoSeq1 (wpAny_loadPart')
open PySem.MeetsSeq PySem.MeetsSeq2 PySem.MeetsSeq3

def tuple_lt_ints(l b:b9)(i f:Array c5)(n n2:Nat)(dd Q:Option b9)(X N:Array (Option c5))(ns L:List Int)(hi:CK i.toList ns)(T:CK f.toList L) :
  Meets (Cw.«tuple.__lt__» ⟨[.ref l,.ref b],[]⟩)
   (λ_ R s=>s.heap.get? l=Kh { cls:=.type "tuple",dict:=dd,data:=.seq i n,slots:=X }/\s.heap.get? b=Kh { cls:=.type "tuple",dict:=Q,data:=.seq f n2,slots:=N } /\
    R (.ok (.ret (.bool (lexLt ns L)))) s) :=
 .of_wp λprog w A R s h=>by
  obtain⟨M,g,d,J,os⟩:=s; obtain⟨Z,hb,h⟩:=h;have f2:=AutoSeq1.sub_tuple_tuple;have z1:i.size=ns.length:=by rw[<- hi.length]; simp
  have z2:f.size=L.length:=by rw[<- T.length]; simp
  wp_walk using Iq Z,Iq hb,wpAny_forIn_list _ (λv b O=>b.1=Ki/\O=⟨M,g,d,J,os⟩/\∃(I H:List c5)(m o:List Int),v=I.zip H /\
   CK I m/\CK H o/\m.length+f.size=o.length+i.size/\R (.ok (.ret (.bool (lexLt m o)))) ⟨M,g,d,J,os⟩) _
  case turn =>
   rintro⟨y,x⟩ v b O ⟨D,rfl,I,H,m,o,p,C,r,j,B⟩;cases C with
   | nil=>rw[List.zip_nil_left] at p; cases p
   | cons a t G =>
    cases r with
    | nil=>rw[G8] at p; cases p
    | cons c u E =>
     rw[EQ] at p;injection p with hyx hrest
     injection hyx with hy hx
     subst hy hx;rw[lexLt_cons] at B;simp only[f9] at j;obtain⟨e,he,z⟩:=Uo A.in1 ⟨M,g,d,J,os⟩ a t c u;erw[b7 (he prog w _ _ ?_)];cases e with
     | true =>
      rw[y7 (z.mp rfl)] at B
      wp_walk
      rwa[rfl,rfl,_,_,_,_,hrest,G,E,by lia,B]
     | false =>
      rw[y6 (λq=>x4 (z.mpr q) l5)] at B;have P:=Uw A.in1 ⟨M,g,d,J,os⟩ a t c u prog w
      wp_walk using P
      exact⟨_,U,by simpa using B⟩
  case fin =>
   rintro⟨b1,b2⟩ O ⟨D,rfl,I,H,m,o,p,C,r,j,B⟩;simp only at D;subst D;have S:lexLt m o=decide (i.size<f.size):=by
    cases C with
    | nil =>
     cases r with
     | nil =>
      simp only[Ao] at j;rw[gc];exact(y9 (by lia)).symm
     | cons c u Y =>
      simp only[Ao,f9] at j;rw[jx];exact(y8 (by lia)).symm
    | cons a t S =>
     cases r with
     | nil =>
      simp only[Ao,f9] at j;rw[kX];exact(y9 (by lia)).symm
     | cons c u Y =>
      rw[EQ] at p;cases p
   rw[S] at B
   wp_walk
   exact⟨_,U,by simpa [HI] using B⟩
  case h =>
   rwa[rfl,rfl,i.toList,f.toList,ns,L,rfl,hi,T,by lia,h]
end

section
variable{prog:j9}{w:o9}{A:Ad}{E:c5->c8->Prop}{s:c8}

def lt_tupInts{Q:c5->c8->Prop}(v:IsTup s.heap l d)(z:IsTup s.heap b c)(hi:CK d.toList ns)(y:CK c.toList e)
  (u:A.units<cLine) (h:Q (.bool (lexLt ns e)) s):wpAny (model prog w) A (compareOp .Lt (.ref l) (.ref b)) Q E s:=by
 obtain⟨⟨cls,B,data,r⟩,o,p,n,hd⟩:=id v;obtain⟨⟨q,m,data2,j⟩,f,i,n2,g⟩:=id z;simp only at p hd i g;subst p hd i g;exact richCompare_meets_room (op:=.Lt) ⟨_,o,rfl⟩ ⟨_,f,rfl⟩ D6 F8 (FN _ _) (tuple_lt_ints l b d c n n2 B m r j ns e hi y)
  ⟨o,f,show F1 (lexLt ns e)≠Value.notImplemented/\Q (.bool (lexLt ns e)) s from⟨(λx=>nomatch x),h⟩⟩ u

def sIx(n d:Nat):Option Int->Nat
 | none=>d
 | some v=>if v<0 then(v+(n:Int)).toNat else min v.toNat n
def sIx_nat(n d k:Nat):sIx n d (Kh (k:Int))=min k n:=by
 show(if (k:Int)<0 then((k:Int)+(n:Int)).toNat else min (k:Int).toNat n)=min k n;rw[y6 (by lia),j3]
def Oz(n d:Nat)(hd:d<=n)(o:Option Int):sIx n d o<=n:=by
 cases o with
 | none=>rwa[hd]
 | some v =>
  show(if v<0 then(v+(n:Int)).toNat else min v.toNat n)<=n;by_cases c:v<0
  ·rw[y7 c]; lia
  ·rw[y6 c]; rwa[Nat.min_le_right _ _]
def XC(v:Int)(n d:Nat):(if v<0 then max (v+(n:Int)) 0 else min v (n:Int))=((sIx n d (Kh v):Nat):Int):=by
 show(if v<0 then max (v+(n:Int)) 0 else min v (n:Int))=(((if v<0 then(v+(n:Int)).toNat else min v.toNat n):Nat):Int);by_cases c:v<0
 ·simp only[y7 c]; lia
 ·simp only[y6 c]; lia
def Zp(lo hi:Option Int)(n:Nat):Dp lo hi 1 (n:Int)=(((sIx n 0 lo:Nat):Int),((sIx n n hi:Nat):Int)):=by
 have h1:¬ ((1:Int)<0):=by lia
 unfold Dp;simp only[h1,if_false];erw[GC ?_ ?_]
 ·cases lo with
  | none=>rfl
  | some v=>rwa[XC v n 0]
 ·cases hi with
  | none=>rfl
  | some v=>rwa[XC v n n]
def Zi(i j:Nat):Ct (i:Int) (j:Int) 1=j-i:=by
 unfold Ct;have h1:(1:Int)>0:=by lia
 simp only[h1,if_true,Int.ediv_one];split <;> lia
def jK{Q:Option Int->c8->Prop}(p:G9 v o)(h:Q o s):wpAny (model prog w) A (Ir v) Q E s:=by
 cases p with
 | none=>rwa[slicePart_none h]
 | int i t=>rwa[slicePart_int h]
def oI{lo hi:Option Int}{n:Nat}{Q:Int×Int×Nat->c8->Prop}(l:s.heap.IsSliceOf g f e .none)(j:G9 f lo)(i:G9 e hi)
  (h:Q (((sIx n 0 lo:Nat):Int),1,sIx n n hi-sIx n 0 lo) s):wpAny (model prog w) A (ER (.ref g) (pure (n:Int))) Q E s:=by
 obtain⟨os,c,m,d⟩:=id l;unfold ER Jb;erw[b7 (b7 (DQ c d (x:=f) rfl (b7 (DQ c d (x:=e) rfl (b7 (DQ c d (x:=.none) rfl (d9 ?_)))))))];erw[b7 (slicePart_none ?_)];show wpAny _ _ (if ((1:Int) == 0)=Kj then _ else _) _ _ s;rw[y6 (by decide)];erw[b7 (jK j (b7 (jK i (b7 (d9 ?_)))))];show wpAny _ _ (match Dp lo hi 1 (n:Int) with | (lo,hi)=>pure (lo,(1:Int),Ct lo hi 1)) _ _ s;rw[Zp lo hi n];show wpAny _ _ (pure (((sIx n 0 lo:Nat):Int),(1:Int),Ct ((sIx n 0 lo:Nat):Int) ((sIx n n hi:Nat):Int) 1)) _ _ s;rw[Zi];rwa[d9 h]
def VY(xs:Array c5)(i k:Nat):((Ay k).filterMap λ(m:Nat)=>xs[((i:Int)+(m:Int)*1).toNat]?).toArray=((xs.toList.drop i).take k).toArray:=by
 have e:(λ(m:Nat)=>xs[((i:Int)+(m:Int)*1).toNat]?)=λm=>xs[i+m]?:=by
  funext m
  have:((i:Int)+(m:Int)*1).toNat=i+m:=by lia
  rw[this]
 rw[e];have:=pick_run xs i k;rw[List.filterMap_map] at this;have c:((λx=>xs[x]?) ∘ λx=>i+x)=λm=>xs[i+m]?:=rfl;rw[c] at this;rw[this]

def getItem_tuple_cut{lo hi:Option Int}{Q:c5->c8->Prop}(e:IsTup s.heap t c)(p:s.heap.IsSliceOf f o n .none)(u:G9 o lo)(r:G9 n hi)
  (v:¬ (sIx c.size 0 lo=0/\sIx c.size c.size hi=c.size))
  (h:Q (.ref s.heap.objs.size) { s with heap:=s.heap.push { cls:=.type "tuple",data:=.seq ((c.toList.drop (sIx c.size 0 lo)).take (sIx c.size c.size hi-sIx c.size 0 lo)).toArray } })
  (x:c.size<=sizeLine):wpAny (model prog w) A (getItem (.ref t) (.ref f)) Q E s:=by
 have d:sizeOk (.seq ((c.toList.drop (sIx c.size 0 lo)).take (sIx c.size c.size hi-sIx c.size 0 lo)).toArray):=by
  show((c.toList.drop (sIx c.size 0 lo)).take (sIx c.size c.size hi-sIx c.size 0 lo)).toArray.size<=sizeLine;rw[g6,g8,Ai,j7];lia
 have C:sIx c.size c.size hi<=c.size:=Oz _ _ (f6 _) hi;obtain⟨os,g,j,y⟩:=id p;have l:s.TypeIs (.ref f) "slice" :=⟨os,g,j⟩;unfold getItem
 try with_reducible refine BR ?_
 first | refine b7 (d9 ?_) | skip
 refine b7 (wpAny_sequenceKey e.typeIs (by decide) ?_);refine b7 (BZ (name:=CU "__getitem__") e.typeIs CJ
  (Ba CJ e.typeIs entry_tuple_getitem ?_ (args_tuple_getitem _ _)))
 show wpAny _ _ (IH (.ref t) >>= _) _ _ s;refine b7 (tupleItemsOf_ e ?_);refine b7 (wpAny_typeOf l ?_);rw[y7 (by decide)];refine b7 (oI p u r ?_);have i:¬ ((((sIx c.size 0 lo:Nat):Int) == 0&&(1:Int) == 1&&(sIx c.size c.size hi-sIx c.size 0 lo) == c.size)=Kj):=by
  intro q;rw[Bb,Bb] at q;have B:((sIx c.size 0 lo:Nat):Int)=0:=eq_of_beq q.1.1;have z:sIx c.size c.size hi-sIx c.size 0 lo=c.size:=eq_of_beq q.2;rwa[v ⟨by lia,by lia⟩]
 show wpAny _ _ (if (((sIx c.size 0 lo:Nat):Int) == 0&&(1:Int) == 1&&(sIx c.size c.size hi-sIx c.size 0 lo) == c.size)=Kj then _ else _) _ _ s;rw[y6 i,VY]
 first
  | exact b7 (m:=CF _) (AA (d9 ⟨_,rfl,d9 h⟩) d)
  | exact b7 (m:=CF _) (AA (b7 (d9 (d9 ⟨_,rfl,d9 h⟩))) d)
  | exact b7 (b7 (m:=CF _) (AA (d9 (d9 ⟨_,rfl,d9 h⟩)) d))
  | exact b7 (b7 (m:=CF _) (AA (d9 ⟨_,rfl,d9 h⟩) d))
end
end HT

namespace L2

abbrev TO:=St->Hp->(Option Int->Hp->Prop)->Prop
def PO(X:Cx)(e:Option AD)(t:TO):Prop :=
 ∀(d:List (b9×BP))(s:c8)(c:St)(H:Hp)(Q:Option Int->Hp->Prop),Inv X d c H s->t c H Q ->
  wpAny (model X.prog X.w) X.A (evalPart e X.env) (λu g=>∃ o f,Inv X d c f g/\G9 u o/\Q o f) X.xe s
def Su:TO:=λ_ H Q=>Q Ki H
def tPart(t:TE):TO:=λc H Q=>t c H λx d=>∃ i,x=.int i/\Q (Kh i) d

def wj{ns:List Int} : ∀{c:List c5},yW (ns.map V.int) c->CK c ns:=by
 induction ns with
 | nil=>intro c r; rw[ED] at r; cases r; rwa[.nil]
 | cons n ns d =>
  intro c r;rw[i4] at r;cases r with
  | cons r1 r2 =>
   obtain⟨t,e⟩:=r1;subst e;rwa[.cons n t (d r2)]

section
variable{X:Cx}{e:AD}{te:TE}{lo hi:Option AD}{tl th:TO}{pos p2:Ea}

def vh:PO X Ki Su:=by
 intro d s c H Q I h;rw[evalPart_none];rwa[d9 ⟨Ki,H,I,.none,h⟩]
def yd(h:PE X e te):PO X (Kh e) (tPart te):=by
 intro g s c H Q I f;rw[evalPart_some];erw[thn (h g s c H _ I f) λu m ⟨x,l,j,r1,d⟩=>?_];obtain⟨i,rfl,q⟩:=d;obtain⟨t,rfl⟩:=r1;rwa[Kh i,l,j,.int i t,q]

def SlR(X:Cx)(r:V->Option Int->Option Int->Hp->VK->Prop):Prop :=
 ∀(h:List (b9×BP))(s:c8)(c:St)(H:Hp)(x:V)(v f d:c5)(lo hi:Option Int)(g:b9)(Q:VK),Inv X h c H s->xZ x v->s.heap.IsSliceOf g f d .none->G9 f lo->G9 d hi->r x lo hi H Q ->
  ∃ T id,typeLookup (.type T) "__getitem__" = pure (Kh (.builtin id))/\s.TypeIs v T/\wpAny (model X.prog X.w) X.A (getItem v (.ref g)) (EP X h c Q) X.xe s
def tSl(r:V->Option Int->Option Int->Hp->VK->Prop)(te:TE)(tl th:TO):TE:=λc H Q=>te c H λx g=>tl c g λl f=>th c f λu d=>r x l u d Q
def wq{r:V->Option Int->Option Int->Hp->VK->Prop}(E:SlR X r)(L:PE X e te)(G:PO X lo tl)(C:PO X hi th):PE X (.Subscript e (.Slice lo hi Ki p2) pos) (tSl r te tl th):=by
 intro f s d H Q I h;erw[Ha (thn (L f s d H _ I h) λv n ⟨x,Y,R,r1,y⟩=>?_)];erw[wpAny_Slice (thn (G f n d Y _ R y) λi m ⟨l,S,P,B,p⟩=>thn (C f m d S _ P p) λg c ⟨u,j,O,z,o⟩=>?_)];rw[evalPart_none];erw[d9 ?_];have N:Inv X f d j { c with heap:=c.heap.push { cls:=.type "slice",data:=.fields #[i,g,.none] } }:=O.kept (t':=c.toks) λb ob q=>c9 _ q;obtain⟨T,id,M,D,J⟩:=E f { c with heap:=c.heap.push { cls:=.type "slice",data:=.fields #[i,g,.none] } } d j x v i g l u c.heap.objs.size Q N r1 (Hb ..) B z o;show wpAny (model X.prog X.w) X.A (subscriptTail e (.Slice lo hi Ki p2) v (.ref c.heap.objs.size)) (EP X f d Q) X.xe { c with heap:=c.heap.push { cls:=.type "slice",data:=.fields #[i,g,.none] } };rwa[tail_any (ops:=[.ref c.heap.objs.size,v]) D M J (by with_unfolding_all rfl)]

def yg(xs:List V)(lo hi:Option Int):List V:=(xs.drop (HT.sIx xs.length 0 lo)).take (HT.sIx xs.length xs.length hi-HT.sIx xs.length 0 lo)
def lT(xs:List V)(lo hi:Option Int):(yg xs lo hi).length<=xs.length:=by
 unfold yg;rw[g8,Ai];lia
def rSlT(K:b6):V->Option Int->Option Int->Hp->VK->Prop:=λx lo hi H Q=>E2 λa xs=>A4 (x=.ref a) (SqT K H a xs) (¬ (HT.sIx xs.length 0 lo=0/\HT.sIx xs.length xs.length hi=xs.length)) (∀ p,H p=Ki->Q (.ref p) (upd H p (.tup (yg xs lo hi))))
def TF:SlR X (rSlT X.K):=by
 intro A s u H x v y w lo hi z Q I i p l j h;obtain⟨a,xs,rfl,m,n,q⟩:=h;cases i;obtain⟨d,r,g,f⟩:=I.tuple m;have c:d.toArray.size=xs.length:=by rw[g6]; rwa[r.length.symm]
 exists "tuple",_,CJ.lookup,g.typeIs;erw[HT.getItem_tuple_cut g p l j (by rw[c]; rwa[n]) ?_ (by rw[c]; rwa[f])];rw[c];erw[.ref s.heap.objs.size,_,I.laid (t':=s.toks) (o:=.tup (yg xs lo hi)) (λb ob q=>c9 _ q) (f6 _) ?_,rfl,q _ (I.hok.fresh (f6 _))];rwa[g7 (lT xs lo hi) f,_,(r.drop (HT.sIx xs.length 0 lo)).take (HT.sIx xs.length xs.length hi-HT.sIx xs.length 0 lo),Jz _ _]

end
end L2

namespace L2

def ixN(n:Nat)(i:Int):Option Nat:=if 0<=i then(if i<n then Kh i.toNat else Ki) else if -(n:Int)<=i then Kh (i+n).toNat else Ki
def atI{c:Type}(xs:List c)(i:Int):Option c:=(ixN xs.length i).bind λj=>xs[j]?
def Rv{n:Nat}{i:Int}{j:Nat}(h:ixN n i=Kh j):seqIndex? i n=Kh j/\j<n/\-(n:Int)<=i/\i<n:=by
 unfold ixN at h;by_cases h0:0<=i
 ·rw[y7 h0] at h;by_cases h1:i<n
  ·rw[y7 h1] at h;have e:i.toNat=j:=x6 h;rwa[by rw[seqIndex_of h0 h1,e],by lia,by lia,h1]
  ·rw[y6 h1] at h; cases h
 ·rw[y6 h0] at h;by_cases h1 : -(n:Int)<=i
  ·rw[y7 h1] at h;have e:(i+n).toNat=j:=x6 h;rwa[by rw[seqIndex_neg (by lia) h1,e],by lia,h1,by lia]
  ·rw[y6 h1] at h; cases h
def cJ{c:Type}{xs:List c}{i:Int}{v:c}(h:atI xs i=Kh v):∃ j,seqIndex? i xs.length=Kh j/\xs[j]?=Kh v/\j<xs.length/\-(xs.length:Int)<=i/\i<xs.length:=by
 unfold atI at h;cases e:ixN xs.length i with
 | none=>rw[e] at h; cases h
 | some j =>
  rw[e] at h;obtain⟨h1,h2,h3,h4⟩:=Rv e;rwa[j,h1,h,h2,h3,h4]
def vF{c:Type}{xs:List c}{j:Nat}{v:c}(h:xs[j]?=Kh v):atI xs (j:Int)=Kh v:=by
 have d:j<xs.length:=(c6.mp h).1;have e:ixN xs.length (j:Int)=Kh j:=by
  unfold ixN;rw[y7 (by lia),y7 (by lia)]; simp
 unfold atI; rw[e]; rwa[h]
def bT{c:Type}(xs:List c)(v:c):atI (xs++[v]) (-1)=Kh v:=by
 have d:(xs++[v]).length=xs.length+1:=by simp
 have e:ixN (xs++[v]).length (-1)=Kh xs.length:=by
  unfold ixN;rw[d,y6 (by decide),y7 (by lia)]
  congr 1
  lia
 unfold atI;rw[e];show(xs++[v])[xs.length]?=Kh v;simp

def Wm(b:AD):Prop:=∀ o i,subscripted b Kk o i=operate [o,i] (getItem o i)
def IxR(X:Cx)(r:R2):Prop :=
 ∀(value slice:AD)(d:List (b9×BP))(s:c8)(c:St)(H:Hp)(x y:V)(v u:c5)(Q:VK),Inv X d c H s->xZ x v->xZ y u->r x y H Q ->
  subscripted slice Kk v u=operate [v,u] (getItem v u)->wpAny (model X.prog X.w) X.A (subscriptTail value slice v u) (EP X d c Q) X.xe s
def MtR(X:Cx)(id:String)(r:V->List V->Hp->VK->Prop):Prop :=
 ∀(e:List (b9×BP))(s:c8)(c:St)(H:Hp)(x:V)(xs:List V)(v:c5)(d:List c5)(Q:VK),Inv X e c H s->xZ x v->yW xs d->r x xs H Q ->
  wpAny (model X.prog X.w) X.A (call (.builtin id) (v::d)) (EP X e c Q) X.xe s
section
variable{X:Cx}{a b:AD}{ta tb:TE}{pos:Ea}
def Yp(i:IxR X r)(l:PE X a ta)(j:PE X b tb)(g:Wm b):PE X (.Subscript a b pos) (tOp r ta tb):=by
 intro m s c H Q I h;rwa[Ha (Oj l j I h λv u d x y o n f e q=>i a b m d c o x y v u Q n f e q (g _ _))]

def rIxL(K:b6):R2:=λx y H Q=>E4 λp xs i v=>A5 (x=.ref p) (y=.int i) (SqL K H p xs) (atI xs i=Kh v) (Q v H)
def rIxT(K:b6):R2:=λx y H Q=>E4 λp xs i v=>A5 (x=.ref p) (y=.int i) (SqT K H p xs) (atI xs i=Kh v) (Q v H)
def rIxS:R2:=λx y H Q=>E3 λz i c=>A5 (x=.str z) (y=.int i) (z.length<=sizeLine) (atI z.cps.toList i=Kh c) (Q (.str ⟨#[c]⟩) H)
def RJ:IxR X (rIxL X.K):=by
 intro value slice o s l H x y v u Q I C B h m;obtain⟨p,xs,i,z,rfl,rfl,D,G,q⟩:=h;cases C;obtain⟨t,rfl⟩:=B;obtain⟨f,r,e,J⟩:=I.list D;obtain⟨j,h1,h2,h3,h4,h5⟩:=cJ G;obtain⟨w,n,d⟩:=r.get h2;have E:=r.length;have L:=gF;have c:EP X o l Q w s:=⟨z,H,I,d,q⟩;by_cases h0:0<=i
 ·have g:i.toNat=j:=by
   rw[seqIndex_of h0 h5] at h1;rwa[x6 h1]
  exact item_listR e.isList h0 (by lia) (by rw[g]; simpa using n) c m
 ·have g:(i+(f.toArray.size:Int)).toNat=j:=by
   rw[seqIndex_neg (by lia) h4] at h1;rw[g6,<- E];rwa[x6 h1]
  exact subscriptTail_builtinR (x:=w) e.isList.typeIs slot_list_getitem.lookup
   (wpAny_getItem_list_neg (Q:=λr A=>r=w/\EP X o l Q r A) e.isList (by lia) (by rw[g6] <;> lia) (by lia) (by rw[g]; simpa using n) ⟨rfl,c⟩) m
def Pw:IxR X (rIxT X.K):=by
 intro value slice g s e H x y v u Q I n m h A;obtain⟨p,xs,i,z,rfl,rfl,B,D,q⟩:=h;cases n;obtain⟨t,rfl⟩:=m;obtain⟨o,r,f,G⟩:=I.tuple B;obtain⟨j,h1,h2,h3,h4,h5⟩:=cJ D;obtain⟨w,E,c⟩:=r.get h2;have C:=r.length;have J:=gF;have d:EP X g e Q w s:=⟨z,H,I,c,q⟩;exact subscriptTail_builtinR (x:=w) f.typeIs slot_tuple_getitem.lookup
  (getItem_tuple (j:=j) (Q:=λr l=>r=w/\EP X g e Q r l) f (by lia) (by lia) (by rw[g6,<- C]; rwa[h1]) (by simpa using E) ⟨rfl,d⟩) A
def UU:IxR X rIxS:=by
 intro value slice A s o H x y v u Q I e d h f;obtain⟨z,i,c,rfl,rfl,r,l,q⟩:=h;obtain⟨t,rfl⟩:=e;obtain⟨p,rfl⟩:=d;obtain⟨j,h1,h2,h3,h4,h5⟩:=cJ l;have g:z.cps.toList.length=z.length:=by simp[Str.length]
 rw[g] at h1 h4 h5;have w:=gF;exact tail_any (typeIs_str s z t) slot_str_getitem.lookup (getItem_str (c:=c) (by
  have n:decide (i < -(2^63:Int))=false:=y9 (by lia);have m:decide (i >= 2^63)=false:=y9 (by lia);rw[n,m,Bool.or_false]) (by rw[h1]; simpa using h2) ⟨.str ⟨#[c]⟩,H,I.tok _,⟨_,rfl⟩,q⟩) f
def fu(lo hi:Option Int)(n:Nat):(sliceBounds lo hi Ki n).1=((HT.sIx n 0 lo:Nat):Int)/\(sliceBounds lo hi Ki n).2.1=((HT.sIx n n hi:Nat):Int)/\(sliceBounds lo hi Ki n).2.2=1:=by
 erw[?_,?_,rfl]
 ·cases lo with
  | none=>simp[sliceBounds,HT.sIx]
  | some i =>
   simp only[sliceBounds,HT.sIx,HR,show(1:Int)>0 by decide,if_true];by_cases h:i<0
   ·simp only[h,if_true] <;> lia
   ·simp only[h,if_false] <;> lia
 ·cases hi with
  | none=>simp[sliceBounds,HT.sIx]
  | some i =>
   simp only[sliceBounds,HT.sIx,HR,show(1:Int)>0 by decide,if_true];by_cases h:i<0
   ·simp only[h,if_true] <;> lia
   ·simp only[h,if_false] <;> lia
def gw(c:List c5)(lo hi:Option Int):slicePick c.toArray lo hi Ki=((c.drop (HT.sIx c.length 0 lo)).take (HT.sIx c.length c.length hi-HT.sIx c.length 0 lo)).toArray:=by
 obtain⟨h1,h2,h3⟩:=fu lo hi c.toArray.size;unfold slicePick;rw[h1,h2,h3];simp only[sliceRange_one,pick_run,g6] <;> rfl
def rSlL(K:b6):V->Option Int->Option Int->Hp->VK->Prop:=λx lo hi H Q=>E2 λa xs=>A3 (x=.ref a) (SqL K H a xs) (∀ p,H p=Ki->Q (.ref p) (upd H p (.lst (yg xs lo hi))))
def Yd:SlR X (rSlL X.K):=by
 intro y s n H x v u p lo hi w Q I e m g f h;obtain⟨a,xs,rfl,l,q⟩:=h;cases e;obtain⟨i,r,d,j⟩:=I.list l;have c:=r.length;exists "list",_,slot_list_getitem.lookup,d.isList.typeIs;erw[FG d.isList m g f .none (by simp) ?_ (by rw[g6] <;> lia)];rw[gw,<- c];erw[.ref s.heap.objs.size,_,I.laid (t':=s.toks) (o:=.lst (yg xs lo hi)) (λb ob q=>c9 _ q) (f6 _) ?_,rfl,q _ (I.hok.fresh (f6 _))];rwa[g7 (lT xs lo hi) j,_,0,(r.drop (HT.sIx xs.length 0 lo)).take (HT.sIx xs.length xs.length hi-HT.sIx xs.length 0 lo),i7 _ rfl]

def iH:V->Bool
 | .non=>Kj
 | .bl _=>Kj
 | .int _=>Kj
 | .str _=>Kj
 | _=>Kk
def eqV:V->V->Bool
 | .non,.non=>Kj
 | .bl a,.bl b=>a == b
 | .bl a,.int b=>(if a then 1 else 0) == b
 | .int a,.bl b=>a ==(if b then 1 else 0)
 | .int a,.int b=>a == b
 | .str a,.str b=>a == b
 | _,_=>Kk
def QR(e:xZ y u)(c:xZ x v)(g:iH y=Kj)(f:iH x=Kj):F7 A s u v (eqV y x):=by
 cases y with
 | non =>
  cases e;cases x with
  | non=>cases c; rwa[Iu _]
  | bl b=>cases c; rwa[SeqAt.EqAt.none_bool b]
  | int b=>obtain⟨t,rfl⟩:=c; rwa[SeqAt.EqAt.none_int b t]
  | str b=>obtain⟨t,rfl⟩:=c; rwa[SeqAt.EqAt.none_str b t]
  | _=>exact x4 (show Kk=Kj from f) l5
 | bl a =>
  cases e;cases x with
  | non=>cases c; rwa[SeqAt.EqAt.bool_none a]
  | bl b=>cases c; rwa[SeqAt.EqAt.bool_bool a b]
  | int b=>obtain⟨t,rfl⟩:=c; rwa[SeqAt.EqAt.bool_int a b t]
  | str b=>obtain⟨t,rfl⟩:=c; rwa[SeqAt.EqAt.bool_str a b t]
  | _=>exact x4 (show Kk=Kj from f) l5
 | int a =>
  obtain⟨d,rfl⟩:=e;cases x with
  | non=>cases c; rwa[SeqAt.EqAt.int_none a d]
  | bl b=>cases c; rwa[SeqAt.EqAt.int_bool a d b]
  | int b=>obtain⟨t,rfl⟩:=c; rwa[DK a d b t]
  | str b=>obtain⟨t,rfl⟩:=c; rwa[G2 a d b t]
  | _=>exact x4 (show Kk=Kj from f) l5
 | str a =>
  obtain⟨d,rfl⟩:=e;cases x with
  | non=>cases c; rwa[SeqAt.EqAt.str_none a d]
  | bl b=>cases c; rwa[SeqAt.EqAt.str_bool a d b]
  | int b=>obtain⟨t,rfl⟩:=c; rwa[G3 a d b t]
  | str b=>obtain⟨t,rfl⟩:=c; rwa[Hc a d b t]
  | _=>exact x4 (show Kk=Kj from f) l5
 | _=>exact x4 (show Kk=Kj from g) l5
def eqU(x:V)(u:c5):Bool:=match u with
 | .none=>eqV .non x
 | .bool b=>eqV (.bl b) x
 | .int i _=>eqV (.int i) x
 | .str z _=>eqV (.str z) x
 | _=>Kk
def UR(r:xZ y u)(f:iH y=Kj):eqU x u=eqV y x:=by
 cases y with
 | non=>cases r; rfl
 | bl b=>cases r; rfl
 | int i=>obtain⟨t,rfl⟩:=r; rfl
 | str z=>obtain⟨t,rfl⟩:=r; rfl
 | _=>exact x4 (show Kk=Kj from f) l5
def mJ : ∀{xs:List V}{c:List c5},yW xs c->xs.all iH=Kj->c.any (eqU x)=xs.any λy=>eqV y x
 | _,_,.nil,_=>rfl
 | y::xs,u::c,.cons r t,f=>by
  rw[Eg,Bb] at f;rw[CG,CG,UR r f.1,mJ t f.2]
def rq(e:xZ x v)(g:iH x=Kj):∀{xs:List V}{d:List c5},yW xs d->xs.all iH=Kj->∀ u∈d,F7 A s u v (eqU x u)
 | _,_,.nil,_=>λu c=>by cases c
 | y::xs,u::d,.cons r t,f=>λh c=>by
  rw[Eg,Bb] at f;rcases j5.mp c with rfl | c
  ·rw[UR r f.1]; rwa[QR r e f.1 g]
  ·rwa[rq e g t f.2 h c]
def inV(x:V)(xs:List V):Bool:=xs.any λy=>eqV y x
def rIn(K:b6)(neg:Bool):R2:=λx y H Q=>E2 λp xs=>A5 (y=.ref p) (SqL K H p xs\/SqT K H p xs) (iH x=Kj) (xs.all iH=Kj) (Q (.bl (if neg then !inV x xs else inV x xs)) H)
def mj:OpR X (compareOp .In) (rIn X.K Kk):=by
 intro n s m H x y v u Q I g j h;obtain⟨p,xs,rfl,d,i,fs,q⟩:=h;cases j;rcases d with d | d
 ·obtain⟨c,r,e,l⟩:=I.list d;refine SeqAt.in_listAt (eqU x) e.isList (λw f=>rq g i r fs w (by simpa using f)) ⟨.bl _,H,I,rfl,?_⟩;rw[show c.toArray.any (eqU x)=c.any (eqU x) by simp,mJ r fs];rwa[q]
 ·obtain⟨c,r,e,l⟩:=I.tuple d;refine SeqAt.in_tupleAt (eqU x) e (λw f=>rq g i r fs w (by simpa using f)) ⟨.bl _,H,I,rfl,?_⟩;rw[show c.toArray.any (eqU x)=c.any (eqU x) by simp,mJ r fs];rwa[q]
def gE:OpR X (compareOp .NotIn) (rIn X.K Kj):=by
 intro n s m H x y v u Q I g j h;obtain⟨p,xs,rfl,d,i,fs,q⟩:=h;cases j;rcases d with d | d
 ·obtain⟨c,r,e,l⟩:=I.list d;refine SeqAt.notIn_listAt (eqU x) e.isList (λw f=>rq g i r fs w (by simpa using f)) ⟨.bl _,H,I,rfl,?_⟩;rw[show c.toArray.any (eqU x)=c.any (eqU x) by simp,mJ r fs];rwa[q]
 ·obtain⟨c,r,e,l⟩:=I.tuple d;refine SeqAt.notIn_tupleAt (eqU x) e (λw f=>rq g i r fs w (by simpa using f)) ⟨.bl _,H,I,rfl,?_⟩;rw[show c.toArray.any (eqU x)=c.any (eqU x) by simp,mJ r fs];rwa[q]
def rC:uK X (.builtin "len") (λxs H Q=>E2 λp d=>A3 (xs=[.ref p]) (SqL X.K H p d\/SqT X.K H p d) (Q (.int d.length) H)):=by
 intro v s m H xs n Q I r h;obtain⟨p,d,rfl,e,q⟩:=h;obtain⟨u,rfl,j⟩:=lX r;cases j;have o:=gF;rcases e with e | e
 ·obtain⟨i,f,g,l⟩:=I.list e;have c:=f.length;rwa[Calls.call_len_list g.isList (by simp only[g6] <;> lia) ⟨.int d.length,H,I.tok _,⟨s.toks+1,by rw[g6,c]⟩,q⟩]
 ·obtain⟨i,f,g,l⟩:=I.tuple e;have c:=f.length;rwa[len_tuple g (by simp only[g6] <;> lia) ⟨.int d.length,H,I.tok _,⟨s.toks+1,by rw[g6,c]⟩,q⟩]
def oj:uK X (.builtin "len") (λxs H Q=>∃ z,A3 (xs=[.str z]) (z.length<=sizeLine) (Q (.int z.length) H)):=by
 intro g s c H xs d Q I r h;obtain⟨z,rfl,e,q⟩:=h;obtain⟨u,rfl,t,rfl⟩:=lX r;have f:=gF;rwa[len_str (by lia) ⟨.int z.length,H,I.tok _,⟨_,rfl⟩,q⟩]
def uK.or{r g:List V->Hp->VK->Prop}(h:uK X f r)(j:uK X f g):uK X f (λxs H Q=>r xs H Q\/g xs H Q):=by
 intro i s c H xs d Q I e q;rcases q with q | q
 ·rwa[h i s c H xs d Q I e q]
 ·rwa[j i s c H xs d Q I e q]
def fW:uK X (.type "list") (λxs H Q=>E2 λp f=>A3 (xs=[.ref p]) (SqL X.K H p f\/SqT X.K H p f) (∀ l,H l=Ki->Q (.ref l) (upd H l (.lst f)))):=by
 intro E s C H xs G Q I r h;obtain⟨p,f,rfl,m,q⟩:=h;obtain⟨u,rfl,D⟩:=lX r;cases D;have x:∀(c:List c5),yW f c->f.length<=sizeLine->∀(d:Ae)(i:Nat),(∀ b B,s.heap.get? b=Kh B->d.get? b=Kh B) ->
   d.get? s.heap.objs.size=Kh { cls:=.type "list",dict:=Ki,data:=.seq c.toArray i,slots:=#[] }->EP X E C Q (.ref s.heap.objs.size) { s with heap:=d }:=λc g j d i kp e =>
  ⟨.ref s.heap.objs.size,_,I.laid (t':=s.toks) kp (f6 _) (show uL X.prog X.w _ d _ (.lst f) from⟨j,c,i,g,e⟩),rfl,q _ (I.hok.fresh (f6 _))⟩
 rcases m with m | m
 ·obtain⟨c,g,y,j⟩:=I.list m;have v:=g.length;obtain⟨o,z,A,n,hd⟩:=y.isList;rwa[call_list_seq p (.inl rfl) z A hd (λd i kp e=>x c g j d i kp e) (by simp only[g6] <;> lia)]
 ·obtain⟨c,g,y,j⟩:=I.tuple m;have v:=g.length;obtain⟨o,z,A,n,hd⟩:=y;rwa[call_list_seq p (.inr rfl) z A hd (λd i kp e=>x c g j d i kp e) (by simp only[g6] <;> lia)]
def uo:uK X (.type "tuple") (λxs H Q=>E2 λp d=>xs=[.ref p]/\((SqL X.K H p d/\∀ l,H l=Ki->Q (.ref l) (upd H l (.tup d)))\/(SqT X.K H p d/\Q (.ref p) H))):=by
 intro x s m H xs B Q I r h;obtain⟨p,d,rfl,h⟩:=h;obtain⟨u,rfl,z⟩:=lX r;cases z;rcases h with ⟨j,q⟩ | ⟨j,q⟩
 ·obtain⟨c,g,i,n⟩:=I.list j;have v:=g.length;refine call_tuple_list i.isList (λf kp=>?_) (by simp only[g6] <;> lia);have y:Inv X x m H { s with heap:=f }:=I.kept (t':=s.toks) kp;have A:Inv X x m (upd H f.objs.size (.tup d)) { s with heap:=f.push { cls:=.type "tuple",data:=.seq c.toArray } } :=
   y.laid (t':=s.toks) (λb o e=>c9 _ e) (f6 _) (show uL X.prog X.w _ _ _ (.tup d) from⟨n,c,g,Jz _ _⟩)
  rwa[.ref f.objs.size,_,A,rfl,q _ (y.hok.fresh (f6 _))]
 ·obtain⟨c,g,i,n⟩:=I.tuple j;rwa[call_tuple_same i ⟨.ref p,H,I,rfl,q⟩]

def tyV(K:b6)(T:String)(x:V)(H:Hp):Prop:=match x with
 | .str _=>T = "str"
 | .int _=>T = "int"
 | .ref p=>(T = "list" /\ ∃ xs,SqL K H p xs)\/(T = "tuple" /\ ∃ o,K.lookup p=Kh o/\o.cls=.type "tuple" /\ o.dict=Ki) \/
   (T = "dict" /\ ((∃ c,H p=Kh (.dK c))\/∃ c,H p=Kh (.dT c)))\/(T = "set" /\ ∃ S n,H p=Kh (.set S n))
 | _=>False
def Ta{j:St}{H:Hp}(I:Inv X u j H s)(r:xZ x v)(ty:tyV X.K T x H) :
  s.TypeIs v T/\∀ a,v=.ref a->∃ ob,s.heap.get? a=Kh ob/\ob.dict=none:=by
 cases x with
 | str z =>
  obtain⟨t,rfl⟩:=r;cases (show T = "str" from ty);exact⟨typeIs_str s z t,λ_ e=>nomatch e⟩
 | int i =>
  obtain⟨t,rfl⟩:=r;cases (show T = "int" from ty);exact⟨typeIs_int s i t,λ_ e=>nomatch e⟩
 | ref p =>
  cases r;rcases ty with ⟨rfl,xs,m⟩ | ⟨rfl,o,d,q,hd⟩ | ⟨rfl,d⟩ | ⟨rfl,S,n,d⟩
  ·obtain⟨l,_,h,_⟩:=I.list m;erw[h.isList.typeIs,λa e=>?_];cases e;obtain⟨o,n,e,c,hd,_⟩:=h;rwa[o,e,hd]
  ·erw[⟨o,I.kIn p o d,q⟩,λa e=>?_];cases e;rwa[o,I.kIn _ o d,hd]
  ·have z:∃ o,s.heap.get? p=Kh o/\o.ExactDict:=by
    rcases d with ⟨f,d⟩ | ⟨f,d⟩
    ·obtain⟨_,_,_,_,o,_,_,e,ex,_⟩:=I.hok p _ d;rwa[o,e,ex]
    ·obtain⟨_,_,_,_,o,_,_,e,ex,_⟩:=I.hok p _ d;rwa[o,e,ex]
   obtain⟨o,e,ex⟩:=z;erw[⟨o,e,ex.1⟩,λa g=>?_];cases g;rwa[o,e,ex.2.1]
  ·obtain⟨o,_,_,_,e,ex,_⟩:=I.hok p _ d;erw[⟨o,e,ex.1⟩,λa g=>?_];cases g;rwa[o,e,ex.2.1]
 | _=>rwa[Bm ty]
def tBM0(K:b6)(T:String)(r:V->List V->Hp->VK->Prop)(to:TE):TE:=λd H Q=>to d H λx c=>tyV K T x c/\r x [] c Q
def tBM(K:b6)(T:String)(r:V->List V->Hp->VK->Prop)(to:TE)(t:TA):TE:=λc H Q=>to c H λx d=>tyV K T x d/\t c d λxs e=>r x xs e Q
variable{o e:AD}{es:List AD}{to:TE}{t:TA}{name:j4}{apos cpos:Ea}{T id:String}{r:V->List V->Hp->VK->Prop}
def PV(pa:PlainAttrs T)(slot:Slot T name id)(f:typeOf (.builtin id)=pure (.type "method_descriptor"))(p:MtR X id r)(n:PE X o to)
  (d:attributeBase o name X.env (eval o X.env)=eval o X.env:=by rfl) (c:(apos.endLine == cpos.line)=true:=by rfl):PE X (.Call (.Attribute o name apos) [] [] cpos) (tBM0 X.K T r to):=by
 intro i s g H Q I h;erw[wpAny_Call_method0_late d c (thn (n i s g H _ I h) λv l ⟨x,q,j,r1,ty,m⟩=>?_)];obtain⟨h1,h2⟩:=Ta j r1 ty;rwa[T,id,pa,slot,f,h1,h2,DU rfl (GR (p i l g q x [] v [] Q j r1 .nil m))]
def XV(pa:PlainAttrs T)(slot:Slot T name id)(j:typeOf (.builtin id)=pure (.type "method_descriptor"))(C:MtR X id r)(B:PE X o to)(D:PA X (e::es) t)
  (f:attributeBase o name X.env (eval o X.env)=eval o X.env:=by rfl)
  (g:((backTo cpos (starEach (e::es) X.env)).all (λx=>!x.1)&&(backToKw cpos (keywordEach [] X.env)).all (λx=>x.1.isSome)
   && decide ((e::es).length+([]:List Fs).length+(if ([]:List Fs).isEmpty then 0 else 1)<30))=true:=by rfl)
  (d:(apos.endLine == cpos.line)=true:=by rfl) (A:starEach (e::es) X.env=(Kk,eval e X.env)::starEach es X.env:=by rfl) (c:(backTo cpos (starEach es X.env)).any (·.1)=false:=by rfl) :
  PE X (.Call (.Attribute o name apos) (e::es) [] cpos) (tBM X.K T r to t):=by
 intro l s i H Q I h;erw[wpAny_Call_method_late f g d rfl (thn (B l s i H _ I h) λv w ⟨x,J,n,r1,ty,z⟩=>?_)];obtain⟨h1,h2⟩:=Ta n r1 ty;exists T,id,pa,slot,j,h1,h2;have m:=D cpos l w i J _ n z;rw[A] at m ⊢;refine DU (by show(Kk||(backTo cpos (starEach es X.env)).any (·.1))=Kk; rw[c] <;> rfl) (Ej ?_);rwa[thn m λq u ⟨p,G,E,r2,y⟩=>C l u i G x p v q Q E r1 r2 y]
end
end L2

namespace L2

def MtM(X:Cx)(id:String)(r:V->List V->Hp->VK->Prop):Prop :=
 ∀(e:List (b9×BP))(s:c8)(c:St)(H:Hp)(x:V)(xs:List V)(v:c5)(d:List c5)(Q:VK),Inv X e c H s->xZ x v->yW xs d->r x xs H Q ->
  wpAny (model X.prog X.w) X.A (call (.builtin id) (v::d)) (EP X e c Q) X.xe s

def yW.one:∀{x:V}{c:List c5},yW [x] c->∃ u,c=[u]/\xZ x u
 | _,_,.cons r .nil=>⟨_,rfl,r⟩
def yW.zero:∀{c:List c5},yW [] c->c=[]
 | _,.nil=>rfl
def yW.dropLast(h:yW xs c):yW xs.dropLast c.dropLast:=by
 induction h with
 | nil=>rwa[.nil]
 | cons r t d =>
  cases t with
  | nil=>rwa[.nil]
  | cons q e=>rwa[.cons r d]
def ZP{c:Type}(l:List c):l.eraseIdx (l.length-1)=l.dropLast:=by
 induction l with
 | nil=>rfl
 | cons a r d =>
  cases r with
  | nil=>rfl
  | cons b r =>
   have e:(a::b::r).length-1=((b::r).length-1)+1:=by
    have h1:(a::b::r).length=r.length+2:=rfl;have h2:(b::r).length=r.length+1:=rfl;lia
   rw[e,List.eraseIdx_cons_succ,d]
   all_goals rfl
section
variable{X:Cx}{Kl:List (b9×BP)}{σ:St}{H:Hp}{s:c8}{l b:b9}{xs ys zs:List V}

def Inv.lset{c its':List c5}{n:Nat}{f:Array c5->Array c5}{t':Nat}(I:Inv X Kl σ H s)(m:H l=Kh (.lst xs))
  (e:s.heap.get? l=Kh { cls:=.type "list",data:=.seq c.toArray n }) (i:f c.toArray=its'.toArray) (g:yW ys its') (d:ys.length<=sizeLine) :
  Inv X Kl σ (upd H l (.lst ys)) { s with heap:=s.heap.update l (AX f),toks:=t' }:=by
 have q:=PySem.IsL.update e f;rw[i] at q;erw[I.write (x:=l) (e:=l) (by rw[m]; rwa[trivial]) (.inl rfl) (λo u j h=>(AY s.heap (AX f) (BA j)).trans h) ⟨_,q⟩ ?_];rwa[d,its',_,g,q]
def Inv.lnew{t':Nat}(I:Inv X Kl σ H s)(e:yW ys c)(d:ys.length<=sizeLine) :
  Inv X Kl σ (upd H s.heap.objs.size (.lst ys)) { s with heap:=s.heap.push { cls:=.type "list",data:=.seq c.toArray },toks:=t' } :=
 I.laid (λ_ _ q=>c9 _ q) (f6 _) ⟨d,c,0,e,i7 _ rfl⟩
def Inv.fresh(I:Inv X Kl σ H s):H s.heap.objs.size=none:=I.hok.fresh (f6 _)
def Inv.lstM(I:Inv X Kl σ H s)(d:H l=Kh (.lst xs)):xs.length<=sizeLine/\∃(c:List c5)(n:Nat),yW xs c/\xs.length=c.length/\s.heap.get? l=Kh { cls:=.type "list",data:=.seq c.toArray n }:=by
 obtain⟨z,c,n,r,e⟩:=I.hok l _ d;rwa[z,c,n,r,r.length,e]

def Ve{n:Nat}(h:n<=sizeLine):DA n=false:=by
 unfold DA;rwa[y9 (by lia)]
end

section
variable{X:Cx}

def Yt:V->List V->Hp->VK->Prop:=λx c H Q=>E3 λl xs y=>A5 (x=.ref l) (c=[y]) (H l=Kh (.lst xs)) (xs.length<sizeLine) (Q .non (upd H l (.lst (xs++[y]))))
def kK:MtM X "list.append" Yt:=by
 intro w s i H x j v m Q I f g h;obtain⟨l,xs,y,rfl,rfl,d,o,q⟩:=h;cases f;obtain⟨u,rfl,ru⟩:=g.one;obtain⟨z,c,n,r,p,e⟩:=I.lstM d;erw[call_meets F.slot_list_append ⟨_,e,rfl⟩ F.entry_list_append (F.args_list_append_2 _ _) (PySem.list_append l c.toArray n u (by rw[g6]; lia)) ⟨e,?_⟩];erw[.non,_,I.lset (its':=c++[u]) d e (by simp) (r.append (.cons ru .nil)) ?_,rfl,q];rw[f8,As];lia

def SD:V->List V->Hp->VK->Prop:=λx d H Q=>E4 λl b xs c=>A6 (x=.ref l) (d=[.ref b]) (H l=Kh (.lst xs)) (H b=Kh (.lst c)) (xs.length+c.length<=sizeLine) (Q .non (upd H l (.lst (xs++c))))
def kQ:MtM X "list.extend" SD:=by
 intro J s y H x C v D Q I j m h;obtain⟨l,b,xs,A,rfl,rfl,i,p,E,q⟩:=h;cases j;obtain⟨u,rfl,ru⟩:=m.one;cases ru;obtain⟨z,d,n,r,G,e⟩:=I.lstM i;obtain⟨B,c,n2,r2,o,w⟩:=I.lstM p;have g:d.toArray.size+c.toArray.size<=sizeLine:=by rw[g6,g6]; lia
 have f:¬ (!d.toArray.isEmpty&&DA (d.toArray.size+c.toArray.size))=true:=by
  rw[Ve g,II];rwa[l5]
 refine call_meets DD ⟨_,e,rfl⟩ F.entry_list_extend (F.args_list_extend_2 _ _)
  (AutoSeq1.list_extend_list_list_0 l d.toArray n b c.toArray n2 f (by rw[g6]; lia) (by lia)) ⟨e,w,?_⟩
 erw[.non,_,I.lset (its':=d++c) i e (by simp) (r.append r2) ?_,rfl,q];rw[f8];lia

def rPop:V->List V->Hp->VK->Prop:=λx c H Q=>E3 λl xs y=>A5 (x=.ref l) (c=[]) (H l=Kh (.lst xs)) (xs[xs.length-1]?=Kh y) (Q y (upd H l (.lst xs.dropLast)))
def Qb:MtM X "list.pop" rPop:=by
 intro C s w H x A v B Q I i j h;obtain⟨l,xs,y,rfl,rfl,g,m,q⟩:=h;cases i;have f:=j.zero;subst f;obtain⟨z,c,n,r,p,e⟩:=I.lstM g;obtain⟨u,o,ru⟩:=r.get m;have d:c.toArray[c.toArray.size-1]?=Kh u:=by
  show c.toArray[c.length-1]?=Kh u;rw[<- AL,<- p];rwa[o]
 erw[call_meets F.slot_list_pop ⟨_,e,rfl⟩ F.entry_list_pop (F.args_list_pop_1 _) (MeetsSeq.list_pop_last l c.toArray n u d (by rw[g6]; lia)) ⟨e,?_⟩];erw[y,_,I.lset (its':=c.dropLast) g e ?_ r.dropLast ?_,ru,q]
 ·show c.toArray.eraseIdxIfInBounds (c.toArray.size-1)=c.dropLast.toArray;rw[g6,List.eraseIdxIfInBounds_toArray,ZP]
 ·rw[List.length_dropLast];lia

def rCat:R2:=λx y H Q=>E4 λl b xs c=>A6 (x=.ref l) (y=.ref b) (H l=Kh (.lst xs)) (H b=Kh (.lst c)) (xs.length+c.length<=sizeLine) (∀ p,H p=Ki->Q (.ref p) (upd H p (.lst (xs++c))))
def Xa:OpR X (binaryOp .Add) rCat:=by
 intro E s w H x y v u Q I g f h;obtain⟨l,b,xs,A,rfl,rfl,j,m,C,q⟩:=h;cases g;cases f;obtain⟨z,d,n,r,D,e⟩:=I.lstM j;obtain⟨B,c,n2,r2,i,p⟩:=I.lstM m;erw[PySem.P.add_list e p ?_ (by rw[g6,g6]; lia)];have o:d.toArray++c.toArray=(d++c).toArray:=by simp
 rw[o];rwa[.ref _,_,I.lnew (t':=s.toks) (r.append r2) (by rw[f8]; lia),rfl,q _ I.fresh]
end


end L2

namespace Att
open PySem PySem.W PySem.Calls PyProof.Rows

def lE : ∀(ns:List Int)(c:List c5),WellAll P h c (ns.map Kf)->CK c ns:=by
 intro ns
 induction ns with
 | nil =>
  intro c w;rw[ED] at w;cases w;rwa[.nil]
 | cons n ns d =>
  intro c w;rw[i4] at w;cases w with
  | cons a b =>
   cases a;rwa[.cons _ _ (d _ b)]

def Xc{l:Gk}{n:Nat}(v:l.most=Kh n)
  (e:l.row.toRowW.claim.pre c=Kj) (i:WellAll P h vals c) :
  ∃ a m ns,vals=[r6 a]/\c=[WData.list (ns.map Kf)]/\h.get? a=Kh { cls:=.type "list",data:=.seq m.toArray }/\CK m ns/\ns.length<=n:=by
 have j:WShape.hasAll [] c [.list .int]=true:=(pre_splitW e).1;have o:l.pre.holds [] { args:=c }=true:=(pre_splitW e).2;obtain⟨d,r,rfl,h1,h2⟩:=hasAllW_cons j;obtain rfl:=hasAllW_nil h2;obtain⟨xs,rfl,h3⟩:=hasW_list h1;obtain⟨ns,rfl⟩:=items_int h3;have f:ns.length<=n:=by
  unfold OpenLaw.pre at o;have h4:(WTm.not (.lt (.lit (.int (n:Int))) (.len (.arg 0)))).holds [] { args:=[.list (ns.map .int)] }=true:=by
   have h4:=(holds_andW o).1;rw[v] at h4;rwa[h4]
  have h5:=condW_of h4 (w_not (w_lt w_lit (w_len_list (w_arg rfl))));rw[b5] at h5;erw[HS λq=>?_];have s:(n:Int)<((ns.length:Nat):Int):=by lia
  first
   | (rw[y8 s] at h5; rwa[x4 h5 (by decide)])
   | (simp at h5; lia)
 cases i with
 | cons w1 p =>
  cases p;cases w1 with
  | list u g=>rwa[_,_,ns,rfl,rfl,u,lE ns _ g,f]

def YM(l:Gk)(c:List WData):l.row.toRowW.claim.post c (.bool Kj) c=true :=
 postW_of (r:=l.row.toRowW) (X:=(Kj == Kj))
  (show Ka [] (.bool Kj) .bool=Kj by first | rfl | decide | simp[Ka,WShape.arms,WShape.armsAll])
  (show(WTm.eq .res (.lit (.bool Kj))).value [] { args:=c,res:=Kh (.bool Kj),after:=c }=Kh (.bool (Kj == Kj)) from w_eq_bool (w_res rfl) w_lit) rfl

def attach_call{l:Gk}{n:Nat}{I:(j4->Option c5)->Ae->Prop}{H:o9->Ae->Prop}{d:DefRec}
  (N:l.most=Kh n) (A:d.params.defaults=[])
  (call:∀(w:o9)(s₀ c:c8)(mg x:j4->Option c5)(s:b9)(o:BP)(pm v h:c5)(a:b9)(i:List c5)(ns:List Int),
   Ground q e [] I w s₀ mg x c.heap->H w c.heap ->
   c.heap.get? s=Kh o->o.data=.func (docDef d.name d.params d.body d.scope pm v h)->c.heap.CodeRec v d.name->mg d.name=Kh (.ref s) ->
   c.heap.get? a=Kh { cls:=.type "list",data:=.seq i.toArray }->CK i ns->ns.length<=n->c.gens = #[] ->
   codeAny (model l.prog w) callerA (.call (.ref s) ⟨[.ref a],[]⟩) (λr u=>r=.ok (.ret (.bool Kj))/\OldK c.heap u.heap/\u.os=c.os/\EA u.gens) c) :
  Jv q e I H l.row.toRowW d [] (λf i=>IJ f i):=by
 intro w s₀ c mg x G Y s o pm v h R kV M hd B D z Q E vals as j C J y P;obtain rfl:R=.none:=Dflts.none D A;obtain rfl:kV=.none:=Dflts.noKw D;obtain⟨a,i,ns,rfl,rfl,m,g,p⟩:=Xc N j y;erw[enter_call (codeAny_mono (call w s₀ c mg x s o pm v h a i ns G Y M (fd_plain hd) B z m g p Q) λr u L=>?_)];obtain⟨rfl,h2,h3,h4⟩:=L;exact⟨.inl ⟨.bool Kj,.bool Kj,[],rfl,λ_=>rfl,.bool Kj,YM l _,λ_=>⟨Kd,λ_ O=>(nomatch O)⟩⟩,h2,h3,h4⟩

section
variable{prog:j9}{w:o9}{A:Ad}{E:c5->c8->Prop}{s:c8}{K:b6}

end
end Att

namespace L2

def tf:∀{c:List c5}{ns:List Int},CK c ns->yW (ns.map V.int) c
 | _,_,.nil=>.nil
 | _,_,.cons n t h=>.cons ⟨t,rfl⟩ (tf h)

def Only(H:Hp):Prop:=∀ b,H b=Ki\/∃ o xs,H b=Kh (.frz o (.lst xs))

def Vg{K:b6}{mg N:j4->Option c5}{CX:CXT}{k:Nat}{x:j4}{sp:Sp}{c:c8}{p:List c5}
  (KX:K.In c.heap) (D:c.heap.Ns mainGlobals mg) (g:c.heap.Ns builtinsNs N) (R:∀ x:j4,x ≠ "__name__" -> N x=bootBuiltins x) (E:c.heap.NoLimit) (hg:c.gens = #[])
  (L:c.heap.get? a=Kh { cls:=.type "list",data:=.seq p.toArray }) (hi:CK p ns) (Z:ns.length<=sizeLine) (hr:zd k callerA)
  (F:∀ base:Ae,K.In base->base.Ns mainGlobals mg->yS P w K mg base CX k T fd [x] sp) (y:∀(s:c8)(u:c5),F5 s fd ⟨[u],[]⟩ [(x,u)])
  (O:∀ H:Hp,Only H->SqL K H a (ns.map V.int)->sp [.ref a] H (λv _=>v=.bl Kj) λ_ _ _=>False)
  (S:∀ H e i,CX [] H c (λ_ _ _=>False) e i->False) :
  codeAny (model P w) callerA (.call (.ref T) ⟨[.ref a],[]⟩) (λr i=>r=.ok (.ret (.bool Kj))/\OldK c.heap i.heap/\i.os=c.os/\EA i.gens) c:=by
 have Y:=tf hi;have B:=hi.length;have l:∀ H:Hp,Only H->SqL K H a (ns.map V.int)->HOk P w H c.heap->(∀ b,H b≠Ki->b=a)->(H a≠Ki->K.lookup a=Ki) ->
   codeAny (model P w) callerA (.call (.ref T) ⟨[.ref a],[]⟩) (λr i=>r=.ok (.ret (.bool Kj))/\OldK c.heap i.heap/\i.os=c.os/\EA i.gens) c:=by
  intro H hO hS hok hA hK;have f:∀{b:b9}{o:BP},c.heap.get? b=Kh o->H b=Ki->(UF c.heap H).get? b=Kh o:=λe n=>VT e n;have M:∀{b:b9}{o:BP}{I:Array C4}{J:Nat},c.heap.get? b=Kh o->o.data=.dict I J->H b=none:=λ{b o I J} e d=>by
   cases q:H b with
   | none=>rfl
   | some u =>
    have X:b=a:=hA b (by rw[q]; simp);subst X;rw[L] at e; cases e;have d':Data.seq p.toArray _=Data.dict I J:=d;cases d'
  have j:∀{b:b9}{m:j4->Option c5},c.heap.Ns b m->(UF c.heap H).Ns b m:=λ{b m} ⟨o,I,J,e,d,r⟩=>⟨o,I,J,f e (M e d),d,r⟩;have G:K.In (UF c.heap H):=λb o e=>f (KX b o e) (by
   cases q:H b with
   | none=>rfl
   | some u =>
    have X:b=a:=hA b (by rw[q]; simp);subst X;rw[hK (by rw[q]; simp)] at e; cases e)
  have hM:Mod K mg (UF c.heap H):=⟨G,j D,⟨N,j g,R⟩,let ⟨mc,h1,h2⟩:=E;⟨mc,j h1,h2⟩⟩;have e0:Ts P w K mg (UF c.heap H) callerA [] c H:=⟨rfl,hM,λb o e=>Sw e,EC (Xo _ _),trivial,λb g=>x4 (show b∈([]:List b9) from g) (by simp),hok,.of_eq hg⟩;erw[codeAny_mono ((F _ G (j D)).run callerA [] c H ⟨[.ref a],[]⟩ [.ref a] [.ref a] _ _ hr e0 (y c (.ref a)) (.cons rfl .nil) (O H hO hS)) λr i h=>?_];cases r with
  | error e=>exact(S H e i h).elim
  | ok fl =>
   cases fl with
   | next=>rwa[Bm h]
   | brk=>rwa[Bm h]
   | cont=>rwa[Bm h]
   | ret u =>
    obtain⟨v,H',os,bare,un,C,r',q⟩:=h;have q':v=.bl true:=q;subst q';obtain rfl:u=F1 true:=r';erw[rfl,OldK.of_keep λb o e=>?_,os,bare];cases q:H b with
    | none=>exact un.keep b o e q (by intro z; exact x4 (show b∈([]:List b9) from z) (by simp)) (by simp)
    | some u =>
     rcases hO b with z | ⟨ob,xs,z⟩
     ·rw[q] at z; cases z
     ·have z2:=un.frzs b ob _ z;obtain⟨e1,_⟩:=hok b _ z;obtain⟨e2,_⟩:=C b _ z2;rw[e] at e1; cases e1;rwa[e2]
 cases Q:K.lookup a with
 | some o =>
  have e:=KX a o Q;rw[L] at e;cases e;refine l (λ_=>Ki) (λ_=>.inl rfl) (.inr ⟨_,p.toArray,_,Q,rfl,rfl,rfl,by rw[g6,B]; exact Z,by simpa using Y⟩) (λb u z=>by have A:(Ki:Option HO)=Kh u:=z; cases A) (λb z=>x4 rfl z) λz=>x4 rfl z
 | none =>
  refine l (λb=>if b=a then Kh (.frz { cls:=.type "list",data:=.seq p.toArray } (.lst (ns.map V.int))) else Ki) (λb=>?_) (.inl (.inr ⟨{ cls:=.type "list",data:=.seq p.toArray },y7 rfl⟩)) (λb u z=>?_) (λb z=>?_) λ_=>Q
  ·by_cases g:b=a
   ·rwa[.inr ⟨_,_,y7 g⟩]
   ·rwa[.inl (y6 g)]
  ·by_cases g:b=a
   ·have A:=(y7 g).symm.trans z;cases A;subst g;rwa[L,by rw[b5]; exact Z,p,_,Y,L]
   ·have A:=(y6 g).symm.trans z;cases A
  ·by_cases g:b=a
   ·rwa[g]
   ·rwa[x4 (y6 g) z]
end L2

namespace L2

end L2

namespace L2


abbrev CX0:CXT:=λ_ _ _ _ _ _=>False
abbrev E0:XK:=λ_ _ _=>False
def Zf : dD CX0 X E0:=λ_ _ _ _ _ _ _ h=>h.elim

structure Fun(K:b6)(x qual:j4)(st:Ar)(f:b9)(fd:AZ):Prop where
 ex:∃(oc:c5)(od:Option b9)(kV doc pm:c5)(an:Option b9)(cdv ct:c5)(osl:Array (Option c5)),
  fd=AN x qual (uG st) (wE st) (zF st) .none kV doc pm an cdv ct/\K.lookup f=Kh ⟨oc,od,.func fd,osl⟩/\Dg K cdv qual=Kj
 kp:AT K (.ref f)=Kj
section
variable{P:j9}{w:o9}{K:b6}{mg:j4->Option c5}{base:Ae}
def Fun.ok{st:Ar}{fd:AZ}{k:Nat}{sp:Sp}(F:Fun K x c st f fd)(S:zI N i (zF st))(len:∀ e H Q E,sp e H Q E->e.length=i.length)
  (g:∀(d:c5)(A:Ad)(outer:List EM)(s:c8)(H:Hp)(e:List V)(Q:VK)(E:XK),zd k (A.deeper (envOfC c (zF st) s.heap.objs.size f d))->sp e H Q E ->
   ∃ t,PSs (cxOf CX0 P w K mg base N c (zF st) f d A outer s H E).nox (wE st) t/\t { nx:=λ_ p=>Q .non p,rt:=Q } (iG N e) H):yS P w K mg base CX0 (k+1) f fd i sp:=by
 obtain⟨u,r,kV,o,pm,v,d,ct,m,rfl,lk,l⟩:=F.ex;erw[Pf lk l S len λA outer s H e Q E n j=>?_];obtain⟨t,h,q⟩:=g d A outer s H e Q E n j;rwa[t,h.nox,q]
def Fun.binds{st:Ar}{fd:AZ}{i:List j4}(F:Fun K x c st f fd)
  (h:∀(kV d pm:c5)(j:Option b9)(e ct:c5)(g:List c5),g.length=i.length->bindArgs (AN x c (uG st) (wE st) (zF st) .none kV d pm j e ct) ⟨g,[]⟩=pure (i.zip g)):pL K fd i []:=by
 obtain⟨o,n,kV,d,pm,j,e,ct,l,rfl,lk,m⟩:=F.ex;rwa[.all (h kV d pm j e ct)]
def Tv{st:Ar}{m:c5}{j i:Option b9}{h:Array (Option c5)}{kV g pm e ct:c5}(l:K.lookup f=Kh ⟨m,j,.func (AN x d (uG st) (wE st) (zF st) .none kV g pm i e ct),h⟩)
  (c:Dg K e d=Kj) (k:AT K (.ref f)=Kj):Fun K x d st f (AN x d (uG st) (wE st) (zF st) .none kV g pm i e ct):=⟨⟨m,j,kV,g,pm,i,e,ct,h,rfl,l,c⟩,k⟩
end
def yT{k:Nat}(c:zd k A):A.units+1<cLine:=Am (Dv (by decide:1<=64) _) c.units
def zJ{n:Nat}(h:n<=1000):n<sizeLine:=Am h (by decide)

section
variable{X:Cx}
def pv(i:Nat)(e:X.N[i]?=Kh x:=by rfl)(d:Vis X.env.scope x:=by first | exact BD rfl | exact HU (BD rfl) | exact HU (HU rfl))(hd:(x ==("__debug__" : j4))=false:=by decide)
  (c:(x ==("__classdict__" : j4))=false:=by decide):PE X (.Name x pos) (RY i):=QT e d hd c
end

def vf{A B:Prop}(h:B):if Kk=Kj then A else B:=by
 rw[y6 l5];rwa[h]
def dI{A B:Prop}(h:A):if Kj=Kj then A else B:=by
 rw[y7 rfl];rwa[h]
def ite2{c A B:Prop}[Decidable c](h1:c->A)(h2:¬ c->B):if c then A else B:=by
 by_cases h:c
 ·rw[y7 h];rwa[h1 h]
 ·rw[y6 h];rwa[h2 h]
def Same(H c:Hp):Prop:=∀ b o,H b=Kh o->c b=Kh o
def Same.refl(H:Hp):Same H H:=λ_ _ h=>h
def Same.trans{H e d:Hp}(a:Same H e)(b:Same e d):Same H d:=λc o h=>b c o (a c o h)
def Same.free{H c:Hp}(e:Same H c)(h:c l=JY):H l=JY:=by
 cases q:H l with
 | none=>rfl
 | some o =>
  rw[e l o q] at h;cases h
def Same.seq{K:b6}{H c:Hp}(e:Same H c)(h:SqL K H a xs):SqL K c a xs:=by
 rcases h with (h | ⟨o,h⟩) | h
 ·rwa[.inl (.inl (e _ _ h))]
 ·rwa[.inl (.inr ⟨o,e _ _ h⟩)]
 ·rwa[.inr h]

end L2

namespace Sea
def yR(ns:List Int):Nat:=ns.foldl (λg n=>Ab g n.natAbs) 0
def eK(ns:List Int)(n:Int):yR (ns++[n])=Ab (yR ns) n.natAbs:=by
 unfold yR;rw[Fu];rfl
def ar:∀(ns:List Int)(g:Nat),ns.foldl (λg n=>Ab g n.natAbs) g ∣ g/\∀ n∈ns,ns.foldl (λg n=>Ab g n.natAbs) g ∣ n.natAbs
 | [],g=>⟨Nat.dvd_refl g,λ_ h=>nomatch h⟩
 | x::r,g=>by
  obtain⟨h1,h2⟩:=ar r (Ab g x.natAbs);erw[Jr h1 (Nat.gcd_dvd_left _ _),λn c=>?_];rcases j5.mp c with e | e
  ·rw[e];rwa[Jr h1 (Nat.gcd_dvd_right _ _)]
  ·rwa[h2 n e]
def wm{ns:List Int}{n:Int}(h:n∈ns):yR ns ∣ n.natAbs:=(ar ns 0).2 n h
def wQ{ns:List Int}{n:Int}(h:n∈ns):(yR ns:Int) ∣ n:=Int.ofNat_dvd_left.mpr (wm h)
def bo{d:Nat} : ∀(ns:List Int)(g:Nat),d ∣ g->(∀ n∈ns,d ∣ n.natAbs)->d ∣ ns.foldl (λg n=>Ab g n.natAbs) g
 | [],_,h,_=>h
 | x::r,g,h,c=>bo r _ (Il h (c x o4)) λn e=>c n (v9 _ e)
def VJ{d:Nat}{ns:List Int}(h:∀ n∈ns,d ∣ n.natAbs):d ∣ yR ns:=bo ns 0 (Nat.dvd_zero d) h
def wJ{ns:List Int}{n:Int}(h:n∈ns)(h0:n≠0):0<yR ns:=by
 rcases Hd (yR ns) with e | e
 ·have q:=wm h;rw[e,Nat.zero_dvd] at q;lia
 ·rwa[e]
def pA{ns:List Int}{n:Int}(h:n∈ns)(h0:n≠0):(yR ns:Int)<=n.natAbs:=by
 have q:=G0 (by lia) (wm h);lia
def qH(ns:List Int):List Int:=ns.map λn=>n/(yR ns:Int)
def xE{ns:List Int}{n:Int}(h:n∈ns):n/(yR ns:Int)*(yR ns:Int)=n:=Int.ediv_mul_cancel (wQ h)
def li(h:0<yR ns):yR (qH ns)=1:=by
 have d:yR ns*yR (qH ns) ∣ yR ns:=by
  erw[VJ λn f=>?_];have h1:yR (qH ns) ∣ (n/(yR ns:Int)).natAbs:=wm (g9.mpr ⟨n,f,rfl⟩);obtain⟨c,e⟩:=h1;have h2:=congrArg Int.natAbs (xE f);rw[Cn,Int.natAbs_natCast,e] at h2;rw[<- h2];rwa[c,by rw[JI,Js]]
 obtain⟨c,e⟩:=d;have h3:yR ns*(yR (qH ns)*c)=yR ns*1:=by
  rw[<- Js,<- e,JZ]
 have h4:=Nat.eq_of_mul_eq_mul_left h h3;rwa[Nat.dvd_one.mp ⟨c,h4.symm⟩]
def aq(x y:Int):yR [x,y]=Ab x.natAbs y.natAbs:=by
 show Ab (Ab 0 x.natAbs) y.natAbs=_;rw[Ho]
def Zq(x y z:Int):yR [x,y,z]=Ab (Ab x.natAbs y.natAbs) z.natAbs:=by
 show Ab (Ab (Ab 0 x.natAbs) y.natAbs) z.natAbs=_;rw[Ho]
def av(ns:List Int):yR (ns.map λn=>-n)=yR ns:=by
 have c:∀(l:List Int)(g:Nat),(l.map λn=>-n).foldl (λg n=>Ab g n.natAbs) g=l.foldl (λg n=>Ab g n.natAbs) g:=by
  intro l
  induction l with
  | nil=>intro g; rfl
  | cons x r d =>
   intro g;show(r.map λn=>-n).foldl _ (Ab g (-x).natAbs)=r.foldl _ (Ab g x.natAbs);rw[d,GD]
 rwa[c ns 0]
def ae{a b:Int}(d:0<=a)(c:0<b):Ab b.toNat (a%b).toNat=Ab a.toNat b.toNat:=by
 obtain⟨m,rfl⟩:=CO d;obtain⟨n,rfl⟩:=CO (v8 c);have e:((m:Int)%(n:Int)).toNat=m%n:=by
  rw[<- Int.natCast_emod];rfl
 show Ab n ((m:Int)%(n:Int)).toNat=Ab m n;rw[e,JJ m n,Nat.gcd_rec n m,JJ]
def TM(i:Int):(if i<0 then -i else i)=(i.natAbs:Int):=by
 split <;> lia
structure Tj(t b x y:Int):Prop where
 pos:1<=y
 low:Ab x.natAbs y.natAbs=1
 eq:x*b=y*t
 xle:x.natAbs<=t.natAbs
 yle:y.natAbs<=b.natAbs
def uH(n:Int){g:Int}(e:0<g)(h:g ∣ n):(n/g).natAbs<=n.natAbs:=by
 obtain⟨c,d⟩:=h;subst d;rw[Int.mul_ediv_cancel_left c (by lia),Cn];rwa[Nat.le_mul_of_pos_left _ (by lia)]
def RT(t:Int){b:Int}(f:b≠0):∃ x y:Int,(qH (if b<0 then [t,b].map (λn=>-n) else [t,b]))=[x,y]/\Tj t b x y:=by
 have c:∀(t b:Int),0<b->∃ x y:Int,qH [t,b]=[x,y]/\Tj t b x y:=λt b f=>by
  have l:0<yR [t,b]:=wJ (n:=b) (by simp) (by lia);have j:=xE (ns:=[t,b]) (n:=t) (by simp);have i:=xE (ns:=[t,b]) (n:=b) (by simp);have d:(0:Int)<(yR [t,b]:Int):=by lia
  erw[t/(yR [t,b]:Int),b/(yR [t,b]:Int),rfl,?_,?_,?_,uH t d (wQ (by simp)),uH b d (wQ (by simp))]
  ·rwa[ES f (v8 d) (wQ (by simp))]
  ·have h3:=li l;rw[<- aq];rwa[h3]
  ·generalize (yR [t,b]:Int)=g at j i
   calc t/g*b=t/g*(b/g*g):=by rw[i]
    _=b/g*(t/g*g):=by rw[<- AI,<- AI,o0 (t/g)]
    _=b/g*t:=by rw[j]
 by_cases h:b<0
 ·rw[y7 h];obtain⟨x,y,e,p⟩:=c (-t) (-b) (by lia);refine⟨x,y,e,p.pos,p.low,?_,by have:=p.xle; lia,by have:=p.yle; lia⟩;have q:=p.eq;rw[Cf,Cf] at q;lia
 ·rw[y6 h];rwa[c t b (by lia)]
def zT(a b:Int){m n:Nat}(d:a.natAbs<=m)(c:b.natAbs<=n):(a*b).natAbs<=m*n:=by
 rw[Cn];rwa[IK d c]
def Qz{b:Int}(h:b.natAbs<=10^40):b.natAbs<10^500:=Am h (by ac_nf)
def dir_low{X Y:Int}(h:X≠0\/Y≠0):∃ x y:Int,qH [X,Y]=[x,y]/\0<yR [X,Y]/\(yR [X,Y]<=X.natAbs\/yR [X,Y]<=Y.natAbs)/\Ab x.natAbs y.natAbs=1/\x*Y-y*X=0/\0<x*X+y*Y/\x.natAbs<=X.natAbs/\y.natAbs<=Y.natAbs:=by
 have f:0<yR [X,Y]:=by
  rcases h with h | h
  ·rwa[wJ (n:=X) (by simp) h]
  ·rwa[wJ (n:=Y) (by simp) h]
 have e:(0:Int)<(yR [X,Y]:Int):=by lia
 have d:=xE (ns:=[X,Y]) (n:=X) (by simp);have c:=xE (ns:=[X,Y]) (n:=Y) (by simp);erw[X/(yR [X,Y]:Int),Y/(yR [X,Y]:Int),rfl,f,?_,?_,?_,?_,uH X e (wQ (by simp)),uH Y e (wQ (by simp))]
 ·rcases h with h | h
  ·rwa[.inl (G0 (by lia) (wm (by simp)))]
  ·rwa[.inr (G0 (by lia) (wm (by simp)))]
 ·rw[<- aq];rwa[li f]
 ·generalize (yR [X,Y]:Int)=g at d c;generalize X/g=x at d;generalize Y/g=y at c;rw[<- d,<- c,<- AI,<- AI,o0 x y];lia
 ·generalize (yR [X,Y]:Int)=g at d c e;have j:0<=X/g*X:=by
   have:X/g*X=X/g*(X/g)*g:=by rw[AI,d]
   rw[this];rwa[z7 (by rw[<- Dw]; exact Co _) (v8 e)]
  have i:0<=Y/g*Y:=by
   have:Y/g*Y=Y/g*(Y/g)*g:=by rw[AI,c]
   rw[this];rwa[z7 (by rw[<- Dw]; exact Co _) (v8 e)]
  rcases h with h | h
  ·have:X/g*X≠0:=C3 (λz=>h (by rw[<- d,z,z8])) h;lia
  ·have:Y/g*Y≠0:=C3 (λz=>h (by rw[<- c,z,z8])) h;lia
def upL(X Y W:Int):List Int:=if W<0 then [-X,-Y,-W] else [X,Y,W]
def Sz{X Y W:Int}(h:W≠0):upL (-X) (-Y) (-W)=upL X Y W:=by
 unfold upL;by_cases c:W<0
 ·rw[y7 c,y6 (by lia)]
 ·rw[y6 c,y7 (by lia),Im,Im,Im]
structure Wy(X Y W x y w:Int):Prop where
 pos:1<=w
 low:Ab (Ab x.natAbs y.natAbs) w.natAbs=1
 ex:x*W=X*w
 ey:y*W=Y*w
 xle:x.natAbs<=X.natAbs
 yle:y.natAbs<=Y.natAbs
 wle:w.natAbs<=W.natAbs
def bY{X Y W:Int}(h:0<W):∃ x y w:Int,qH [X,Y,W]=[x,y,w]/\Wy X Y W x y w:=by
 have i:0<yR [X,Y,W]:=wJ (n:=W) (by simp) (by lia);have d:(0:Int)<(yR [X,Y,W]:Int):=by lia
 have f:=xE (ns:=[X,Y,W]) (n:=X) (by simp);have e:=xE (ns:=[X,Y,W]) (n:=Y) (by simp);have c:=xE (ns:=[X,Y,W]) (n:=W) (by simp);have lo:=li i;erw[X/(yR [X,Y,W]:Int),Y/(yR [X,Y,W]:Int),W/(yR [X,Y,W]:Int),rfl,ES h (v8 d) (wQ (by simp)),?_,?_,?_,uH X d (wQ (by simp)),uH Y d (wQ (by simp)),uH W d (wQ (by simp))]
 ·rw[<- Zq];rwa[lo]
 ·generalize (yR [X,Y,W]:Int)=g at f c;generalize X/g=x at f;generalize W/g=w at c;rw[<- f,<- c,AI,o0 g w]
 ·generalize (yR [X,Y,W]:Int)=g at e c;generalize Y/g=y at e;generalize W/g=w at c;rw[<- e,<- c,AI,o0 g w]
def iR{X Y W:Int}(h:W≠0):∃ x y w:Int,qH (upL X Y W)=[x,y,w]/\Wy X Y W x y w:=by
 unfold upL;by_cases c:W<0
 ·rw[y7 c];obtain⟨x,y,w,e,p⟩:=bY (X:=-X) (Y:=-Y) (W:=-W) (by lia);refine⟨x,y,w,e,p.pos,p.low,?_,?_,by have:=p.xle; lia,by have:=p.yle; lia,by have:=p.wle; lia⟩
  ·have q:=p.ex;rw[Cf,AM] at q;lia
  ·have q:=p.ey;rw[Cf,AM] at q;lia
 ·rw[y6 c];rwa[bY (by lia)]
def iV{A B C X Y W x y w:Int}(h:W≠0)(p:Wy X Y W x y w)(e:A*X+B*Y=C*W):A*x+B*y=C*w:=by
 erw[Dh h ?_];have d:(A*x+B*y)*W=A*(x*W)+B*(y*W):=by rw[AE,AI,AI]
 have c:A*(X*w)+B*(Y*w)=(A*X+B*Y)*w:=by rw[AE,AI,AI]
 rw[d,p.ex,p.ey,c,e,AI,o0 W w,<- AI]
def Wl(e d c h g f:Int):e*(c*g-d*f)+d*(e*f-c*h)=c*(e*g-d*h):=by
 simp only[BH,o0,Au];lia
def Yq(h g f e d c:Int):e*(f*d-g*c)+d*(h*c-f*e)=c*(h*d-g*e):=by
 simp only[BH,o0,Au];lia
end Sea

namespace Sea
def Tn{a b:Int}(h:a≠0\/b≠0):1<=a*a+b*b:=by
 have d:0<=a*a:=by rw[<- Dw]; rwa[Co _]
 have c:0<=b*b:=by rw[<- Dw]; rwa[Co _]
 rcases h with h | h
 ·have:a*a≠0:=C3 h h;lia
 ·have:b*b≠0:=C3 h h;lia
end Sea

namespace Sea
abbrev SpT:=Nat×Int×Int×Int
def ahB(s t:SpT):Bool:=if s.2.1*t.2.2.2-t.2.1*s.2.2.2=0 then decide (s.2.2.1*t.2.2.2<t.2.2.1*s.2.2.2) else decide (s.2.1*t.2.2.2-t.2.1*s.2.2.2<0)
def xM:List SpT->List SpT->List SpT
 | xs,[]=>xs
 | xs,o::r=>xs.takeWhile (λx=>!ahB o x)++o::xM (xs.dropWhile λx=>!ahB o x) r
def qW:∀(c xs:List SpT),(xM xs c).Perm (xs++c)
 | [],xs=>by rw[xM,AJ]
 | o::r,xs=>by
  rw[xM];have h:=qW r (xs.dropWhile λx=>!ahB o x);have e:xs.takeWhile (λx=>!ahB o x)++xs.dropWhile (λx=>!ahB o x)=xs:=List.takeWhile_append_dropWhile;refine((h.cons o).append_left _).trans ?_;conv=>rhs; rw[<- e]
  rw[l9];erw[Al _ ?_];exact(FO).symm
def we:Nat->List SpT->List SpT
 | 0,xs=>xs
 | n+1,xs=>if xs.length<2 then xs else xM (we n (xs.take (xs.length/2))) (we n (xs.drop (xs.length/2)))
def vJ:∀(n:Nat)(xs:List SpT),(we n xs).Perm xs
 | 0,_=>ET _
 | n+1,xs=>by
  rw[we];split
  ·rwa[ET _]
  ·refine(qW _ _).trans (((vJ n _).append (vJ n _)).trans ?_);rw[AH]
end Sea

namespace L2

structure CC where
 C:b9
 s:c8
 H:Hp
 fp:List b9

def qf(env:EM):List (j4×Df)->List (j4×b9)->List (j4×b9)
 | [],c=>c
 | (n,k)::r,c=>qf env r (if (k == Av)=Kj then(n,(env.cells.lookup n).getD 0)::c else c)
def Wz{d:DR}{env:EM}(h:∀ x∈d.names,x.2=.free->∃ c,env.cells.lookup x.1=Kh c):closureFor d env=pure (qf env d.names []):=by
 simp only[closureFor];have m:∀(names:List (j4×Df))(f:List (j4×b9)),(∀ x∈names,x.2=.free->∃ c,env.cells.lookup x.1=Kh c) ->
  (forIn names f (λ(x:j4×Df) (r:List (j4×b9))=>match x with | (g,kind)=>if (kind == Av)=Kj then(do let a <- cellOf env g; pure (BI ((g,a)::r))) else pure (BI r)):Fi (List (j4×b9)))=pure (qf env names f):=by
  intro names
  induction names with
  | nil=>intro f _; rfl
  | cons x r q =>
   intro f o;obtain⟨n,k⟩:=x;rw[List.forIn_cons];have j:=q (if (k == Av)=Kj then(n,(env.cells.lookup n).getD 0)::f else f) λy s=>o y (v9 _ s);by_cases i:(k == Av)=Kj
   ·obtain⟨c,p⟩:=o (n,k) o4 (by simpa using i);have e:cellOf env n=pure c:=by unfold cellOf; rw[p]
    rw[y7 i] at j;have l:env.cells.lookup n=Kh c:=p;rw[l] at j;show(((if (k == Av)=Kj then(do let a <- cellOf env n; pure (BI ((n,a)::f))) else pure (BI f)):Fi _) >>= _)=_;rw[y7 i,e];erw[Eq.trans ?_ (j.trans ?_)]
    ·rfl
    ·rw[qf,y7 i,l]
   ·rw[y6 i] at j;show(((if (k == Av)=Kj then(do let a <- cellOf env n; pure (BI ((n,a)::f))) else pure (BI f)):Fi _) >>= _)=_;rw[y6 i];erw[Eq.trans ?_ (j.trans ?_)]
    ·rfl
    ·rw[qf,y6 i]
 rwa[congrArg (λ(z:Fi (List (j4×b9)))=>z >>= λf=>pure f) (m d.names [] h)]
def zq{env:EM} : ∀(names:List (j4×Df))(l:List (j4×b9)),(∀ x∈names,x.2=.free->∃ c,env.cells.lookup x.1=Kh c) ->
  (∀ x c,l.lookup x=Kh c->env.cells.lookup x=Kh c)->∀ x c,(qf env names l).lookup x=Kh c->env.cells.lookup x=Kh c
 | [],_,_,g=>g
 | (n,k)::r,l,h,g=>by
  erw[zq r _ (λy m=>h y (v9 _ m)) λx c=>?_];by_cases j:(k == Av)=Kj
  ·rw[y7 j];obtain⟨d,hd⟩:=h (n,k) o4 (by simpa using j);have f:env.cells.lookup n=Kh d:=hd;intro e;rw[Ac] at e;cases i:x == n with
   | true =>
    rw[i,f] at e;have ex:x=n:=by simpa using i
    rw[ex,f];rwa[e]
   | false =>
    rw[i] at e;rwa[g x c e]
  ·rw[y6 j];rwa[g x c]
def kB : ∀(names:List (j4×Df))(g:List (j4×b9))(x:j4),((x,Av)∈names\/∃ c,g.lookup x=Kh c)->∃ c,(qf env names g).lookup x=Kh c
 | [],_,_,h=>h.elim (λz=>nomatch z) id
 | (n,k)::r,g,x,h=>by
  erw[kB r _ x ?_];by_cases f:(k == Av)=Kj
  ·rw[y7 f];cases d:x == n with
   | true=>rwa[.inr ⟨_,by rw[Ac,d]⟩]
   | false =>
    rcases h with h | ⟨c,h⟩
    ·rcases j5.mp h with e | e
     ·injection e with e1 _
      subst e1;simp at d
     ·rwa[.inl e]
    ·rwa[.inr ⟨c,by rw[Ac,d]; exact h⟩]
  ·rw[y6 f];rcases h with h | h
   ·rcases j5.mp h with e | e
    ·injection e with _ e2
     subst e2;rwa[x4 rfl f]
    ·rwa[.inl e]
   ·rwa[.inr h]
def oG{env:EM} : ∀{names:List (j4×Df)}{x:j4},names.lookup x=Kh .free ->
  (names.map λ(n,k)=>if (k == Av&&env.scope.kind == .function&&env.kindOf n == Kh .cell) then(n,C5) else(n,k)).lookup x=Kh .cell \/
  (names.map λ(n,k)=>if (k == Av&&env.scope.kind == .function&&env.kindOf n == Kh .cell) then(n,C5) else(n,k)).lookup x=Kh .free
 | [],_,h=>by simp at h
 | (n,k)::r,x,h=>by
  have d:=@oG env r x;show Az x ((if (k == Av&&env.scope.kind == .function&&env.kindOf n == Kh .cell)=Kj then(n,C5) else(n,k))::_)=_\/Az x ((if (k == Av&&env.scope.kind == .function&&env.kindOf n == Kh .cell)=Kj then(n,C5) else(n,k))::_)=_;by_cases e:(k == Av&&env.scope.kind == .function&&env.kindOf n == Kh .cell)=Kj
  ·rw[y7 e];cases c:x == n with
   | true=>rwa[.inl (by rw[Ac,c])]
   | false =>
    rw[Ac,c] at h;rw[Ac,c];rwa[d h]
  ·rw[y6 e];cases c:x == n with
   | true =>
    rw[Ac,c] at h;rwa[.inr (by rw[Ac,c]; exact h)]
   | false =>
    rw[Ac,c] at h;rw[Ac,c];rwa[d h]
def yo{env:EM} : ∀{names:List (j4×Df)}{x:j4}{j:Df},(∀ y∈names,y.2≠.cell)->(j=.cell\/j=.free) ->
  (names.map λ(n,k)=>if (k == Av&&env.scope.kind == .function&&env.kindOf n == Kh .cell) then(n,C5) else(n,k)).lookup x=Kh j->(x,Av)∈names
 | [],_,_,_,_,h=>by simp at h
 | (n,k)::r,x,j,i,d,h=>by
  have g:=@yo env r x j (λy l=>i y (v9 _ l)) d;have f:k≠.cell:=i (n,k) o4
  replace h:Az x ((if (k == Av&&env.scope.kind == .function&&env.kindOf n == Kh .cell)=Kj then(n,C5) else(n,k))::(r.map λ(n,k)=>if (k == Av&&env.scope.kind == .function&&env.kindOf n == Kh .cell) then(n,C5) else(n,k)))=Kh j:=h
  by_cases e:(k == Av&&env.scope.kind == .function&&env.kindOf n == Kh .cell)=Kj
  ·rw[y7 e] at h;have m:k=.free:=by
    simp only[Bb] at e;simpa using e.1.1
   cases c:x == n with
   | true =>
    have ex:x=n:=by simpa using c
    subst ex;rw[<- m];rwa[o4]
   | false =>
    rw[Ac,c] at h;rwa[v9 _ (g h)]
  ·rw[y6 e] at h;cases c:x == n with
   | true =>
    rw[Ac,c] at h;have ex:x=n:=by simpa using c
    have ek:k=j:=x6 h;subst ex;rcases d with d | d
    ·rwa[x4 (ek.trans d) f]
    ·rw[<- d,<- ek];rwa[o4]
   | false =>
    rw[Ac,c] at h;rwa[v9 _ (g h)]

def cxComp(X:Cx)(N:List j4)(d:DR)(c:CC):Cx where
 prog:=X.prog
 w:=X.w
 K:=X.K
 mg:=X.mg
 base:=X.base
 A:=X.A
 N:=N
 s₀:=c.s
 H₀:=c.H
 env:=compEnvC d (qf X.env d.names []) c.C X.env
 outer:=X.stack
 stack:=X.stack
 ex:=c.fp
 fn:=λ_=>Kk
 calm:=X.calm
 pn:=[]
 xe:=λ_ _=>False

def jn(X:Cx)(c:DR):List (j4×Nat)->Prop
 | []=>True
 | p::r=>(X.N[p.2]?=Kh p.1/\c.names.lookup p.1=Kh .free/\(X.env.kindOf p.1=Kh .cell\/X.env.kindOf p.1=Kh .free))/\jn X c r
def jn.mem : ∀{d:List (j4×Nat)},jn X c d->∀ p∈d,X.N[p.2]?=Kh p.1/\c.names.lookup p.1=Kh .free/\(X.env.kindOf p.1=Kh .cell\/X.env.kindOf p.1=Kh .free)
 | [],_,_,h=>nomatch h
 | q::r,h,p,f=>by
  rcases j5.mp f with e | e
  ·rw[e]; rwa[h.1]
  ·rwa[jn.mem h.2 p e]
structure zb(X:Cx)(caps:List (j4×Nat))(scope:DR):Prop where
 kind:scope.kind=.function
 nocell:∀ y∈scope.names,y.2≠.cell
 loc:∀ y∈scope.names,y.2=.local->scope.names.lookup y.1=Kh .local
 clos:(scope.names.all λx=>!(x.2 == .free)||(X.env.cells.lookup x.1).isSome)=Kj
 cap:jn X scope caps
def zb.cells(S:zb X e d):∀ x∈d.names,x.2=.free->∃ c,X.env.cells.lookup x.1=Kh c:=λx f g=>by
 have h:=AG.mp S.clos x f;rw[g] at h;simp only[Bool.or_eq_true] at h;rcases h with h | h
 ·rwa[x4 h (by decide)]
 ·rwa[m9.mp h]

def gD(c:List (j4×Nat))(e:Nat)(d:St):St:=CN e Ki++c.map λp=>(d[p.2]?).join

def Op(Y:Cx)(e:List AD)(t:TT):Prop :=
 ∀(f:List (b9×BP))(s:c8)(d:St)(H:Hp)(Q:Bool->Hp->Prop),Inv Y f d H s->t d H Q ->
  wpAny (model Y.prog Y.w) Y.A (forIn e Kj λc r=>if r=Kj then do let ok <- isTrue c Y.env (eval c Y.env); pure (BI ok) else pure (BI r)) (TP Y f d Q) Y.xe s
def RX:TT:=λ_ H Q=>Q Kj H
def yD : Op Y [] RX:=λ_ _ _ H _ I h=>wpAny_tests_nil ⟨H,I,h⟩
def ur(h:PT Y c t):Op Y [c] t:=λe s d H Q I q=>wpAny_tests_one (h e s d H Q I q)

def oV(J:It)(D:b9)(g:TG)(q:TT)(r:TE)(h:St)(u:Hp)(Q:VK):Prop :=
 ∃ W:Nat->Nat->St->List V->Hp->Prop,(∃ m,W 0 m h [] (upd u D (.lst [])))/\∀ i m j d H,W i m j d H->H D=Kh (.lst d) /\
  ((J.stop i H/\Q (.ref D) H)\/(J.go i H/\∃ N:St->List V->Hp->Prop,(∀ e l f,N e l f->∃ n,n<m/\W (i+1) n e l f)/\∀ x f,J.yld i H x f->g x j f λc s=>q c s λb p =>
   if b=Kj then r c p λy o=>o D=Kh (.lst d)/\d.length<sizeLine/\N c (d++[y]) (upd o D (.lst (d++[y]))) else N c d p))
def tComp(l:Nat)(d:List (j4×Nat))(h:TI)(g:CC->TG)(i:CC->TT)(j:CC->TE):TE:=λe H Q =>
 h e H λJ f=>∀(c:CC)(D:b9),f D=Ki->oV J D (g c) (i c) (j c) (gD d l e) f Q

def Xh{c:Type}{t:Fi c}{Q d:c->c8->Prop}{M:Hi}{A:Ad}{E:c5->c8->Prop}{s:c8}(h:wpAny M A t Q (λ_ _=>False) s)(e:∀ a s,Q a s->d a s):wpAny M A t d E s:=BC h e λ_ _ x=>x.elim
def Un.same{H g:Hp}(u:Un fs ex H g h h1)(d:BQ C h1 h2)(l:h.get? C=Ki):Un fs ex H g h h2:=by
 have ne:∀ b o,h.get? b=Kh o->b≠C:=λb o e z=>by rw[z,l] at e; cases e
 erw[λb o e n f c=>(d.2 b (ne b o e)).trans (u.keep b o e n f c),λb o e n f c=>?_,u.free,λb o e c=>?_,u.tups,u.frzs,u.tbls]
 ·obtain⟨i,q⟩:=u.slot b o e n f c;rwa[i,(d.2 b (ne b o e)).trans q]
 ·obtain⟨j,q⟩:=u.there b o e c;rwa[j,(d.2 b (ne b o e)).trans q]
def HOk.same{H:Hp}(k:HOk P w H h)(g:BQ C h f)(d:H C=Ki):HOk P w H f:=λb o e=>by
 refine(k b o e).stay (λc v i q=>(g.2 c ?_).trans q) (λ_ q=>q) λ_ _ q=>q;rintro rfl;rcases i with z | z
 ·rw[z,e] at d; cases d
 ·rw[d] at z; cases z

section
variable{X:Cx}{T:List j4}{caps:List (j4×Nat)}{scope:DR}{elt target iter:AD}{ifs:List AD}{pos:Ea}{wi:TI}{g:CC->TG}{tt:CC->TT}{te:CC->TE}

def jM{I:St}{H:Hp}{fp:List b9}{C D:b9}{h1:Ae}{tk:Nat}{m:j4->Option c5}(S:zb X caps scope)(f:Inv X Kl I H w)(O:∀ b∈fp,ZJ X Kl H b)
  (hfp:∀ b∈fp,b<w.heap.objs.size) (N:w.heap.objs.size<=D) (hC:w.heap.objs.size<=C) (hDC:C≠D) (r:∀ b o,w.heap.get? b=Kh o->h1.get? b=Kh o)
  (acc:∃ n,h1.get? D=Kh { cls:=.type "list",data:=.seq ([]:List c5).toArray n }) (hn:h1.Ns C m) :
  Inv (cxComp X (T++caps.map (·.1)) scope ⟨C,w,H,fp⟩) [] (gD caps T.length I) (upd H D (.lst [])) { w with heap:=h1,toks:=tk }:=by
 have G:=zq (env:=X.env) scope.names [] S.cells (λ_ _ z=>by cases z);have j:∀ x c,X.env.cells.lookup x=Kh c->c<w.heap.objs.size:=λx c e=>by
  obtain⟨v,q⟩:=f.cell x c e;rwa[q.lt]
 have A:∀ b∈fp,b ∉ frs X.stack:=λb E z=>by
  rcases j5.mp (f.stkSub b z) with e | e
  ·exact(O b E).2.1 e
  ·exact(O b E).2.2.1 e
 have fr:H D=none:=f.hok.fresh N;refine⟨⟨f.ok.mod,S.kind,f.ok.glob,f.ok.blt,hC,λx y c e1 s=>f.ok.inj x y c (G x c e1) (G y c s),λx hx=>?_,λ_ _ z=>x4 (show Kk=Kj from z) l5,f.ok.hd,f.ok.frames,.inl rfl,λb E=>⟨?_,λx c e=>(O b E).2.2.2.2.1 x c (G x c e)⟩,
  λb o e=>f.bs b o e,g7 f.ok.bsz f.sz,λb o e E=>?_,A,f.stack,f.stkFree⟩,rfl,f.bare,?_,⟨m,hn,λi x v e1 s e3=>?_⟩,λx c e=>?_,?_,λx c e=>?_,λp J=>x4 (show p∈([]:List (b9×BP)) from J) (by simp),?_,?_⟩
 ·have Q:(x,Av)∈scope.names:=by
   rcases hx with z | z
   ·rwa[yo S.nocell (.inl rfl) z]
   ·rwa[yo S.nocell (.inr rfl) z]
  rwa[kB scope.names [] x (.inl Q)]
 ·rwa[m7 (n9 (hfp b E) hC)]
 ·rcases (O b E).2.2.2.1 with z | z
  ·rwa[f.ok.noex b o e z]
  ·exact x4 (n9 (i5 (show X.base.get? b=Kh o from e)) (g7 f.ok.bsz z)) (BB _)
 ·rwa[Un.laid r N fr]
 ·have Z:¬ i<T.length:=λhi=>by
   unfold gD at s;rw[Aq (by simpa using hi),FM,y7 hi] at s;cases s
  have L:T.length<=i:=HS Z;have h:(T++caps.map (·.1))[i]?=Kh x:=e1;rw[x9 L,c7] at h;unfold gD at s;rw[x9 (by simpa using L),Cs,c7] at s;cases J:caps[i-T.length]? with
  | none=>rw[J] at h; cases h
  | some p =>
   rw[J] at h s;have ex:p.1=x:=x6 h;have P:(I[p.2]?).join=Kh v:=x6 s;obtain⟨hN,hf,hk⟩:=S.cap.mem p (f7 J);have ev':I[p.2]?=Kh (Kh v):=by
    cases hq:I[p.2]? with
    | none=>rw[hq] at P; cases P
    | some o =>
     rw[hq] at P;rwa[congrArg Kh P]
   obtain⟨m2,_,hl2⟩:=f.loc;obtain⟨u,ru,l⟩:=hl2 p.2 p.1 v hN ev' (hk.elim (λz=>.inr (.inl z)) λz=>.inr (.inr z));erw[u,ru,.inr ⟨?_,?_⟩]
   ·rw[<- ex];rwa[oG (env:=X.env) hf]
   ·rcases l with ⟨kl,_⟩ | ⟨_,c,ec,B⟩
    ·rcases hk with z | z <;>(rw[kl] at z; cases z)
    ·obtain⟨d,hd⟩:=kB (env:=X.env) scope.names [] p.1 (.inl (Ca hf));have M:=G p.1 d hd;rw[ec] at M;cases M;obtain⟨o,Y,R⟩:=B;rwa[c,by rw[<- ex]; exact hd,o,r c o Y,R]
 ·obtain⟨v,o,Y,hd⟩:=f.cell x c (G x c e);rwa[v,o,r c o Y,hd]
 ·show upd H D (.lst []) C=Ki;rw[zH hDC];rwa[f.hok.fresh hC]
 ·show upd H D (.lst []) c=Ki;rw[zH (m7 (n9 (j x c (G x c e)) N))];rwa[f.freeC x c (G x c e)]
 ·obtain⟨n,e⟩:=acc;rwa[f.hok.laid r N ⟨t9 _,[],n,.nil,e⟩]
 ·show(gD caps T.length I).length=(T++caps.map (·.1)).length;unfold gD;rw[f8,f8,b5,b5,Cs]

def yP(S:zb X caps scope)(hc:X.calm=Kj)(hi:PI X target iter wi)(hg:∀ c,PG (cxComp X (T++caps.map (·.1)) scope c) target (g c))(ht:∀ c,Op (cxComp X (T++caps.map (·.1)) scope c) ifs (tt c))(he:∀ c,PE (cxComp X (T++caps.map (·.1)) scope c) elt (te c))
  (hs:∀ x,foldedSetIterable iter X.env x=pure x:=by intro _; rfl):PE X (.ListComp elt [⟨target,iter,ifs,0⟩] scope pos) (tComp T.length caps wi g tt te):=by
 intro Kl s σ H Q I h;rw[eval_ListComp];erw[FH (use:=Ki) rfl hs (Wz S.cells) S.kind S.loc (thn (hi Kl s σ H _ I h) λv s1 h1=>thn h1 λitv f h2=>?_)];obtain⟨it,fp,tn,J,P,e,I2,TT,st2,f2,q2⟩:=h2;subst e;refine AA (GE S.nocell (by intro y hy; simp at hy) (λh1 hn M=>?_) S.kind);dsimp only at hn M ⊢;generalize hg2:f.heap.push { cls:=.type "list",dict:=Ki,data:=.seq ([]:List c5).toArray }=G at hn M ⊢;have hCv:G.objs.size=f.heap.objs.size+1:=by rw[<- hg2,BW]
 have hDC:G.objs.size≠f.heap.objs.size:=by rw[hCv]; rwa[HV _]
 have l:f.heap.objs.size<=G.objs.size:=by rw[hCv]; rwa[Bi _]
 have old:∀ b o,f.heap.get? b=Kh o->h1.get? b=Kh o:=λb o e=>M.extBut b o (m7 (n9 (i5 e) l)) (c9 _ (hg2 ▸ c9 _ e));have hacc:∃ n,h1.get? f.heap.objs.size=Kh { cls:=.type "list",data:=.seq ([]:List c5).toArray n }:=⟨_,M.extBut _ _ (BA hDC) (c9 _ (hg2 ▸ i7 _ rfl))⟩;have hfp:∀ b∈fp,b<f.heap.objs.size:=λb j=>by
  obtain⟨o,e,_⟩:=TT.obj _ _ st2 b j;rwa[i5 e]
 have cs:=zq (env:=X.env) scope.names [] S.cells (λ_ _ z=>by cases z);have I0:=jM (T:=T) (tk:=f.toks+([]:List (j4×c5)).length) S I2 f2 hfp (f6 _) l hDC old hacc hn;have st0:tn 0 h1:=TT.keep _ _ _ st2 λb _ o e=>old b o e;obtain⟨W,⟨m0,w0⟩,turn⟩:=q2 ⟨G.objs.size,f,P,fp⟩ f.heap.objs.size (I2.hok.fresh (f6 _));have fr0:∀ b∈fp,upd P f.heap.objs.size (.lst []) b=none:=λb j=>by
  rw[zH (m7 (hfp b j))];exact(f2 b j).1
 have C:∀{D:Hp},(∀ b∈fp,D b=Ki)->∀ b∈fp,ZJ (cxComp X (T++caps.map (·.1)) scope ⟨G.objs.size,f,P,fp⟩) [] D b:=λ{D} hn' b j =>
  ⟨hn' b j,m7 (n9 (hfp b j) l),I0.ok.exfs b j,.inl j,λx c e=>(f2 b j).2.2.2.2.1 x c (cs x c e),λp hp=>x4 (show p∈([]:List (b9×BP)) from hp) (by simp)⟩
 have O:codeAny (model X.prog X.w) X.A (.compLoop (.ListComp elt [⟨target,iter,ifs,0⟩] scope pos) 0 (.ref it) (.ref f.heap.objs.size) (compEnvC scope (qf X.env scope.names []) G.objs.size X.env))
   (compPost (model X.prog X.w) X.A X.xe Ki (EP X Kl σ Q) (.ref f.heap.objs.size) G.objs.size) { f with heap:=h1,toks:=f.toks+([]:List (j4×c5)).length }:=by
  erw[codeAny_loop rfl (λn s'=>∃ i B R D,Inv (cxComp X (T++caps.map (·.1)) scope ⟨G.objs.size,f,P,fp⟩) [] B D s'/\tn i s'.heap/\(∀ b∈fp,D b=Ki)/\W i n B R D) (λn s3 hI=>?_) m0 ⟨0,_,[],_,I0,st0,fr0,w0⟩];obtain⟨i,L,R,H3,I3,st3,fr3,w3⟩:=hI;show wpAny _ X.A ((compTurn (.ListComp elt [⟨target,iter,ifs,0⟩] scope pos) 0 (.ref it) (.ref f.heap.objs.size) (compEnvC scope (qf X.env scope.names []) G.objs.size X.env)).onRaise (λx=>do noteFrame x (compEnvC scope (qf X.env scope.names []) G.objs.size X.env); theTreesLotGoes x)) _ _ s3;erw[wpAny_noted ?_];rw[compTurn_list];erw[b7 (GZ (b7 ?_))];obtain⟨hD3,Y⟩:=turn i n L R H3 w3;rcases Y with ⟨stop,qn⟩ | ⟨go,N,hN,step⟩
  ·erw[Xh (TT.done (cxComp X (T++caps.map (·.1)) scope ⟨G.objs.size,f,P,fp⟩) rfl rfl rfl hc i [] s3 L H3 _ I3 (C fr3) st3 stop) λr s4 ⟨hr,I4⟩=>?_];subst hr;erw[d9 ?_];show ∃ m,s4.heap.Ns G.objs.size m/\∀ h',BQ G.objs.size s4.heap h'->EP X Kl σ Q (.ref f.heap.objs.size) { s4 with heap:=h' };obtain⟨m4,hn4,_⟩:=I4.loc;erw[m4,hn4,λh' sb=>⟨.ref f.heap.objs.size,H3,?_,rfl,qn⟩];refine I2.call' (s':={ s4 with heap:=h' }) (ch:=fp) I4.os (Un.same I4.base sb (Ei l)) (HOk.same I4.hok sb I4.free) I4.bare λb j=>?_;obtain⟨_,f1,_,f3,f4,f5⟩:=f2 b j;rwa[f3,f1,f4,f5]
  ·refine Xh (TT.item (cxComp X (T++caps.map (·.1)) scope ⟨G.objs.size,f,P,fp⟩) rfl rfl rfl hc i [] s3 L H3 _ I3 (C fr3) st3 go) λr s4 ⟨u,hr,h4⟩=>?_;subst hr;refine b7 (Xh h4 λ_ s5 ⟨x,H5,I5,r5,y5,Z,fr5⟩=>?_);have I5':=I5.pinned (C fr5) (TT.obj _ _ Z);refine b7 (Xh (hg _ _ s5 L H5 x u _ I5' r5 (step x H5 y5)) λ_ s6 ⟨E,H6,I6,q6⟩=>?_);have again:∀{s7:c8}{q:St}{zs:List V}{H7:Hp},Inv (cxComp X (T++caps.map (·.1)) scope ⟨G.objs.size,f,P,fp⟩) ([]++jG fp s5.heap) q H7 s7->N q zs H7 ->
     ∃ m,m<n/\∃ i B R D,Inv (cxComp X (T++caps.map (·.1)) scope ⟨G.objs.size,f,P,fp⟩) [] B D s7/\tn i s7.heap/\(∀ b∈fp,D b=Ki)/\W i m B R D:=λ{s7 q zs H7} I7 n7=>by
    obtain⟨m',hm,w7⟩:=hN q zs H7 n7;erw[m',hm,i+1,q,zs,H7,I7.unpinned,TT.keep _ _ _ Z λb j o e=>(I7.pin (b,o) (t7 _ (t7 _ (tY j e)))).1,λb j=>?_,w7];obtain⟨o,e,d⟩:=TT.obj _ _ Z b j;exact(I7.pin (b,o) (t7 _ (t7 _ (tY j e)))).2.1
   erw[b7 (Xh (ht _ _ s6 E H6 _ I6 q6) λok s7 ⟨H7,I7,q7⟩=>?_)];cases ok with
   | false=>rwa[d9 ⟨rfl,again I7 q7⟩]
   | true =>
    erw[b7 (b7 (Xh (he _ _ s7 E H7 _ I7 q7) λy s8 ⟨yv,H8,I8,r8,hD8,hl8,q8⟩=>?_))];erw[b7 (Xh (kK _ s8 E H8 (.ref f.heap.objs.size) [yv] (.ref f.heap.objs.size) [y] (λ_ H9=>N E (R++[yv]) H9) I8 rfl (.cons r8 .nil) ⟨_,R,yv,rfl,rfl,hD8,hl8,q8⟩) λ_ s9 ⟨_,H9,I9,_,q9⟩=>?_)];rwa[d9 (d9 ⟨rfl,again I9 q9⟩)]
 rwa[codeAny_compStart_list O (TT.self _ 0 _ _ _ st0 O)]
end
end L2

namespace L2

def sk:bootBuiltins "len" = Kh (.builtin "len"):=by ac_nf
def Qq:bootBuiltins "abs" = Kh (.builtin "abs"):=by ac_nf
def Wj:bootBuiltins "all" = Kh (.builtin "all"):=by ac_nf
def Qv:bootBuiltins "max" = Kh (.builtin "max"):=by ac_nf
def TR:bootBuiltins "min" = Kh (.builtin "min"):=by ac_nf
def Tc:bootBuiltins "int" = Kh (.type "int"):=by ac_nf
def pP:bootBuiltins "list" = Kh (.type "list"):=by ac_nf
def iA:bootBuiltins "tuple" = Kh (.type "tuple"):=by ac_nf
def Has(P:j9)(w:o9)(K:b6)(mg:j4->Option c5)(base:Ae)(x:j4)(n:Nat)(c:List j4)(sp:Sp):Prop :=
 ∃(f:b9)(fd:AZ),yS P w K mg base CX0 n f fd c sp/\pL K fd c []/\AT K (.ref f)=Kj/\mg x=Kh (.ref f)
section
variable{X:Cx}{x:j4}{p pos:Ea}{e:AD}{es:List AD}{t:TA}{n:Nat}{ps:List j4}{sp:Sp}
def yX(h:Has X.prog X.w X.K X.mg X.base x n ps sp)(g:zd n X.A)(i:Gl X x)(l:PA X (e::es) t)(d:(x ==("__debug__" : j4))=false:=by decide)
  (j:starEach (e::es) X.env=(Kk,eval e X.env)::starEach es X.env:=by rfl) (c:(backTo pos (starEach es X.env)).any (·.1)=false:=by rfl):PE X (.Call (.Name x p) (e::es) [] pos) (Zt sp [] E0 t):=by
 obtain⟨f,fd,F,b,k,m⟩:=h;rwa[RL F g i m k b .nil Zf l d j c]
end

section
variable{X:Cx}
def qa(i j:Int):Prop:=0<j/\j.natAbs<2^4096
def Uc:OpR X (binaryOp .FloorDiv) (rI qa λi j=>.int (i/j)):=opI λi j _ _ _ _ _ c q=>by
 have h1:(0:Int)<j:=c.1;have h3:j.natAbs.log2<9000:=JK ((J0 (by lia)).mpr c.2) (by decide);rwa[floordiv_int (by lia) (by rw[Int.fdiv_eq_ediv_of_nonneg i (by lia)]; exact q) (.inl (PyProof.noPylong_of_log2 h3))]
def qa.of{i j:Int}(h:0<j)(h2:j<10^600):qa i j:=by
 exists h;have e:(10:Nat)^600<2^4096:=by ac_nf
 lia
def Xg(i j:Int):Prop:=i.natAbs<2^4096/\j.natAbs<2^4096
def jo{i:Int}(h:i.natAbs<2^4096):GS i<=2^20:=by
 unfold GS;split
 ·rwa[t9 _]
 ·have q:i.natAbs.log2<4096:=by
   rcases Hd i.natAbs with h0 | c
   ·rw[h0]; decide
   ·exact(J0 (DT c)).mpr h
  have e:(2:Nat)^20=1048576:=by decide
  lia
def ix:OpR X (binaryOp .Mult) (rI Xg λi j=>.int (i*j)):=opI λ_ _ _ _ _ _ _ c q=>mul_int q (IntMulOk.of_bits (jo c.1) (jo c.2))

def Sq(K:b6)(H:Hp)(p:b9)(xs:List V):Prop:=SqL K H p xs\/SqT K H p xs
inductive RIx(K:b6)(x y:V)(H:Hp)(Q:VK):Prop where
 | mk (p:b9) (xs:List V) (i:Int) (v:V) (ex:x=.ref p) (ey:y=.int i) (sq:Sq K H p xs) (at':atI xs i=Kh v) (q:Q v H)
def Oi(K:b6):R2:=λx y H Q=>RIx K x y H Q
def XB:IxR X (Oi X.K):=by
 intro value slice m s d H x y v u Q I f e q g;obtain⟨p,xs,i,z,l,j,c,h,q⟩:=q;rcases c with c | c
 ·rwa[RJ value slice m s d H x y v u Q I f e ⟨p,xs,i,z,l,j,c,h,q⟩ g]
 ·rwa[Pw value slice m s d H x y v u Q I f e ⟨p,xs,i,z,l,j,c,h,q⟩ g]
def iSeq(K:b6)(tl:TE):TI:=λd H R=>tl d H λx c=>∃ a,x=.ref a/\(((∃ xs,SqL K c a xs)/\R (Itl K a) c)\/((∃ xs,SqT K c a xs)/\R (Itt K a) c))
def yQ{tl:TE}(z:PE X l tl):PI X r l (iSeq X.K tl):=by
 intro m s n H R I h;refine thn (z m s n H _ I h) λv c ⟨x,i,d,r1,w⟩=>?_;obtain⟨a,e,q⟩:=w;subst e;cases r1;have own:∀ b,b∈[c.heap.objs.size]->ZJ X m i b:=λb j=>by
  rw[e9] at j;subst j;rwa[d.fpOk (f6 _) (d.hok.fresh (f6 _))]
 rcases q with ⟨⟨xs,g⟩,q⟩ | ⟨⟨xs,g⟩,q⟩
 ·obtain⟨f,u,p,y⟩:=d.list g;rwa[Da p.isList ⟨c.heap.objs.size,[c.heap.objs.size],_,_,i,rfl,d.kept (t':=c.toks) λb o e=>c9 _ e,de a _,⟨_,i7 _ rfl,rfl,rfl⟩,own,q⟩]
 ·obtain⟨f,u,p,y⟩:=d.tuple g;exact wpAny_pyIter_tuple (show c.heap.IsTuple a f.toArray from p) ⟨c.heap.objs.size,[c.heap.objs.size],_,_,i,rfl,d.kept (t':=c.toks) λb o e=>c9 _ e,Zx a _,⟨_,i7 _ rfl,rfl,rfl⟩,own,q⟩
end

section
variable{K:b6}{a D:b9}{xs:List V}{g:TG}{tt:TT}{te:TE}{σ0:St}{H1:Hp}{Q:VK}
def xx(h:Nat->St->List V->Hp->Prop)(h0:h 0 σ0 [] (upd H1 D (.lst [])))(u:∀ i d c H,i<=xs.length->h i d c H->SqL K H a xs/\H D=Kh (.lst c))
  (s:∀ i x d c H,xs[i]?=Kh x->h i d c H->g x d H λf v=>tt f v λb n =>
   if b=Kj then te f n λy l=>l D=Kh (.lst c)/\c.length<sizeLine/\h (i+1) f (c++[y]) (upd l D (.lst (c++[y]))) else h (i+1) f c n)
  (hd:∀ d c H,h xs.length d c H->Q (.ref D) H):oV (Itl K a) D g tt te σ0 H1 Q:=by
 exists λi m d c H=>m=xs.length-i/\i<=xs.length/\h i d c H,⟨xs.length,by simp,t9 _,h0⟩;rintro i m d c H ⟨rfl,hi,p⟩;obtain⟨q,r⟩:=u i d c H hi p;exists r;by_cases j:i<xs.length
 ·erw[.inr ⟨⟨xs,xs[i],q,by simp[j]⟩,h (i+1),λo A w z=>⟨xs.length-(i+1),by lia,rfl,j,z⟩,λx w y=>?_⟩];obtain⟨e,y⟩:=y;subst e;rwa[s i x d c _ (y xs q) p]
 ·have e:i=xs.length:=by lia
  subst e;rwa[.inl ⟨⟨xs,q,f6 _⟩,hd d c H p⟩]
def Vx(h:Nat->St->List V->Hp->Prop)(h0:h 0 σ0 [] (upd H1 D (.lst [])))(u:∀ i d c H,i<=xs.length->h i d c H->SqT K H a xs/\H D=Kh (.lst c))
  (s:∀ i x d c H,xs[i]?=Kh x->h i d c H->g x d H λf v=>tt f v λb n =>
   if b=Kj then te f n λy l=>l D=Kh (.lst c)/\c.length<sizeLine/\h (i+1) f (c++[y]) (upd l D (.lst (c++[y]))) else h (i+1) f c n)
  (hd:∀ d c H,h xs.length d c H->Q (.ref D) H):oV (Itt K a) D g tt te σ0 H1 Q:=by
 exists λi m d c H=>m=xs.length-i/\i<=xs.length/\h i d c H,⟨xs.length,by simp,t9 _,h0⟩;rintro i m d c H ⟨rfl,hi,p⟩;obtain⟨q,r⟩:=u i d c H hi p;exists r;by_cases j:i<xs.length
 ·erw[.inr ⟨⟨xs,xs[i],q,by simp[j]⟩,h (i+1),λo A w z=>⟨xs.length-(i+1),by lia,rfl,j,z⟩,λx w y=>?_⟩];obtain⟨e,y⟩:=y;subst e;rwa[s i x d c _ (y xs q) p]
 ·have e:i=xs.length:=by lia
  subst e;rwa[.inl ⟨⟨xs,q,f6 _⟩,hd d c H p⟩]
def jj{lo:Int}{n:Nat}(h:Nat->St->List V->Hp->Prop)(h0:h 0 σ0 [] (upd H1 D (.lst [])))(u:∀ i d c H,i<=n->h i d c H->H D=Kh (.lst c))
  (s:∀ i d c H,i<n->h i d c H->g (.int (lo+i)) d H λf v=>tt f v λb o =>
   if b=Kj then te f o λy l=>l D=Kh (.lst c)/\c.length<sizeLine/\h (i+1) f (c++[y]) (upd l D (.lst (c++[y]))) else h (i+1) f c o)
  (hd:∀ d c H,h n d c H->Q (.ref D) H):oV (Itr lo n) D g tt te σ0 H1 Q:=by
 exists λi m d c H=>m=n-i/\i<=n/\h i d c H,⟨n,by simp,t9 _,h0⟩;rintro i m d c H ⟨rfl,hi,p⟩;have r:=u i d c H hi p;exists r;by_cases j:i<n
 ·erw[.inr ⟨j,h (i+1),λq A w z=>⟨n-(i+1),by lia,rfl,j,z⟩,λx w y=>?_⟩];obtain⟨e,y⟩:=y;subst e y;rwa[s i d c _ j p]
 ·have e:i=n:=by lia
  subst e;rwa[.inl ⟨f6 _,hd d c H p⟩]
end
section
variable{K:b6}{a D:b9}{xs:List V}{g:TG}{te:TE}{σ0:St}{H1:Hp}{Q:VK}
def yG(f:Nat->St->List V->Hp->Prop)(h0:f 0 σ0 [] (upd H1 D (.lst [])))(m:∀ i d c H,i<=xs.length->f i d c H->SqL K H a xs/\H D=Kh (.lst c))
  (l:∀ i x d c H,xs[i]?=Kh x->f i d c H->g x d H λh n=>te h n λy j=>j D=Kh (.lst c)/\c.length<sizeLine/\f (i+1) h (c++[y]) (upd j D (.lst (c++[y]))))
  (hd:∀ d c H,f xs.length d c H->Q (.ref D) H):oV (Itl K a) D g RX te σ0 H1 Q:=xx f h0 m (λi x d c H e p=>l i x d c H e p) hd
def lW(f:Nat->St->List V->Hp->Prop)(h0:f 0 σ0 [] (upd H1 D (.lst [])))(m:∀ i d c H,i<=xs.length->f i d c H->SqT K H a xs/\H D=Kh (.lst c))
  (l:∀ i x d c H,xs[i]?=Kh x->f i d c H->g x d H λh n=>te h n λy j=>j D=Kh (.lst c)/\c.length<sizeLine/\f (i+1) h (c++[y]) (upd j D (.lst (c++[y]))))
  (hd:∀ d c H,f xs.length d c H->Q (.ref D) H):oV (Itt K a) D g RX te σ0 H1 Q:=Vx f h0 m (λi x d c H e p=>l i x d c H e p) hd
def vb{lo:Int}{n:Nat}(f:Nat->St->List V->Hp->Prop)(h0:f 0 σ0 [] (upd H1 D (.lst [])))(m:∀ i d c H,i<=n->f i d c H->H D=Kh (.lst c))
  (l:∀ i d c H,i<n->f i d c H->g (.int (lo+i)) d H λh o=>te h o λy j=>j D=Kh (.lst c)/\c.length<sizeLine/\f (i+1) h (c++[y]) (upd j D (.lst (c++[y]))))
  (hd:∀ d c H,f n d c H->Q (.ref D) H):oV (Itr lo n) D g RX te σ0 H1 Q:=jj f h0 m (λi d c H e p=>l i d c H e p) hd
end
end L2

namespace L2
def Yj:∀ bs:List Bool,(Ay bs.length).all (λi=>(bs[i]?).getD Kj)=bs.all id:=by
 intro bs;rw[C0,AG,AG];constructor
 ·intro h b d;obtain⟨i,hi,e⟩:=AO d;have q:=h i (BV.mpr hi);rw[b8 hi,e] at q;rwa[q]
 ·intro h i hi;have c:=BV.mp hi;rw[b8 c];rwa[h _ (r9 c)]
def Uy{bs:List Bool}(r:yW (bs.map V.bl) c){i:Nat}(h:c[i]?=Kh v):v=.bool ((bs[i]?).getD Kj):=by
 have f:=r.length;rw[b5] at f;have hi:i<c.length:=(c6.mp h).1;have d:i<bs.length:=by lia
 obtain⟨u,e,ru⟩:=r.get (i:=i) (x:=.bl bs[i]) (by rw[c7,b8 d]; rfl);rw[e] at h;cases h;rw[b8 d];rwa[ru]
section
variable{X:Cx}
def mW(n:X.calm=Kj):uK X (.builtin "all") (λxs H Q=>E2 λ(p:b9) (bs:List Bool)=>A3 (xs=[.ref p]) (SqL X.K H p (bs.map V.bl)) (Q (.bl (bs.all id)) H)):=by
 intro J s B H xs C Q I r h;obtain⟨p,bs,rfl,m,q⟩:=h;obtain⟨u,rfl,ru⟩:=yW.one r;cases ru;obtain⟨c,g,f,D⟩:=I.list m;have d:p<s.heap.objs.size:=by
  obtain⟨_,e,_⟩:=f.isList;rwa[i5 e]
 erw[call_all_walk (Da f.isList ?_)];refine⟨s.heap.objs.size,_,_,_,_,_,λi=>(bs[i]?).getD Kj,U,IL (A:=X.A.in1) (show X.A.in1.handled=Ki from I.ok.hd n) _ p (m7 d) c.toArray,⟨⟨_,i7 _ rfl,U,U⟩,Heap.IsList.push f.isList _⟩,λi v s Q E y x=>?_,λG l k=>?_⟩
 ·have e:=Uy g (by simpa using y);subst e;rwa[Cy x]
 ·have e:(Ay c.toArray.size).all (λi=>(bs[i]?).getD Kj)=bs.all id:=by
   have j:=g.length;rw[b5] at j;rw[g6,<- j];rwa[Yj bs]
  rw[e];exact⟨.bl (bs.all id),H,I.kept (t':=l) λb o z=>k b o (λw=>by rw[e9] at w; rwa[BB _ (w ▸ i5 z)]) (c9 _ z),rfl,q⟩
end
end L2

namespace L2

end L2

namespace L2
end L2

namespace L2
def ifD{p A B:Prop}[Decidable p](h1:p->A)(h2:¬ p->B):if decide p=Kj then A else B:=by
 by_cases h:p
 ·rw[y7 (y8 h)]; rwa[h1 h]
 ·rw[y6 (by rw[y9 h]; rwa[l5])]; rwa[h2 h]
def ifN{p A B:Prop}[Decidable p](h1:¬ p->A)(h2:p->B):if (!decide p)=Kj then A else B:=by
 by_cases h:p
 ·rw[y6 (by rw[y8 h]; rwa[l5])]; rwa[h2 h]
 ·rw[y7 (by rw[y9 h]; rfl)]; rwa[h1 h]
def ifE{x y:Int}{A B:Prop}(h1:x=y->A)(h2:x≠y->B):if decide (V.int x=V.int y)=Kj then A else B :=
 ifD (λh=>h1 (V.int.inj h)) λh=>h2 λe=>h (congrArg V.int e)
def Ou{x y:Int}{A B:Prop}(h1:x≠y->A)(h2:x=y->B):if (!decide (V.int x=V.int y))=Kj then A else B :=
 ifN (λh=>h1 λe=>h (congrArg V.int e)) λh=>h2 (V.int.inj h)
def zC{H:Hp}(h:H p=Ki)(o:HO):Same H (upd H p o):=λb u q=>by rw[zH (zE q h)]; rwa[q]
def Sq.same{K:b6}{H c:Hp}(h:Sq K H a xs)(e:Same H c):Sq K c a xs:=by
 rcases h with h | h
 ·rwa[.inl (e.seq h)]
 ·erw[.inr ?_];rcases h with h | h
  ·rcases h with h | ⟨o,h⟩
   ·rwa[.inl (.inl (e _ _ h))]
   ·rwa[.inl (.inr ⟨o,e _ _ h⟩)]
  ·rwa[.inr h]
def uI{ns:List Int}{i:Nat}(h:(ns.map V.int)[i]?=Kh x):∃ n,ns[i]?=Kh n/\x=.int n:=by
 rw[c7] at h;cases e:ns[i]? with
 | none=>rw[e] at h; cases h
 | some n=>rw[e] at h; rwa[n,rfl,(x6 h).symm]
def xK{c:Type}{l:List c}{i:Nat}{x:c}(h:l[i]?=Kh x):l.take (i+1)=l.take i++[x]:=by
 rw[o3,h]; rfl
def mv{n:Nat}(h:n<=1000):n<=sizeLine:=Bq (zJ h)
def SqT.same{K:b6}{H c:Hp}(h:SqT K H a xs)(e:Same H c):SqT K c a xs:=by
 rcases h with h | h
 ·rcases h with h | ⟨o,h⟩
  ·rwa[.inl (.inl (e _ _ h))]
  ·rwa[.inl (.inr ⟨o,e _ _ h⟩)]
 ·rwa[.inr h]
def cm(t:TT):Prop:=∀(c:St)(H:Hp)(Q d:Bool->Hp->Prop),(∀ b e,Q b e->d b e)->t c H Q->t c H d
def jy(t:TE):Prop:=∀(c:St)(H:Hp)(Q d:VK),(∀ b e,Q b e->d b e)->t c H Q->t c H d
def Ye(t:TA):Prop:=∀(c:St)(H:Hp)(Q d:List V->Hp->Prop),(∀ b e,Q b e->d b e)->t c H Q->t c H d
def SS(r:R2):Prop:=∀(x y:V)(H:Hp)(Q c:VK),(∀ b d,Q b d->c b d)->r x y H Q->r x y H c
def Pi(r:List V->Hp->VK->Prop):Prop:=∀(xs:List V)(H:Hp)(Q c:VK),(∀ b d,Q b d->c b d)->r xs H Q->r xs H c
def vy{i:Nat} : jy (RY i):=λ_ _ _ _ c ⟨v,e,z⟩=>⟨v,e,c _ _ z⟩
def mo_c : jy (tC v):=λ_ _ _ _ c z=>c _ _ z
def XZ{e d:TE}(f:SS r)(i:jy e)(h:jy d):jy (tOp r e d):=λc _ _ _ g z=>i c _ _ _ (λ_ _ z=>h c _ _ _ (λ_ _ z=>f _ _ _ _ _ g z) z) z
def Vr{g:Int->Int->V} : SS (rI0 g):=λ_ _ _ _ _ c ⟨i,j,e,d,z⟩=>⟨i,j,e,d,c _ _ z⟩
def Qw{K:b6} : SS (Oi K):=λ_ _ _ _ _ e ⟨p,xs,i,v,a,b,c,d,z⟩=>⟨p,xs,i,v,a,b,c,d,e _ _ z⟩
def ii{t:TE}(h:jy t):cm (Vj t):=λc _ _ _ d z=>h c _ _ _ (λ_ _ ⟨k,e,z⟩=>⟨k,e,d _ _ z⟩) z
def mo_b{t:TE}(h:jy t):cm (tB t):=λc _ _ _ d z=>h c _ _ _ (λ_ _ ⟨k,e,z⟩=>⟨k,e,d _ _ z⟩) z
def PY(h:cm t):cm (tNot t):=λc _ _ _ d z=>h c _ _ _ (λ_ _ z=>d _ _ z) z
def Ti(h:cm t)(e:cm u):cm (tAnd t u):=λc _ _ _ d z=>h c _ _ _ (λb _ z=>by
 cases b with
 | true=>rwa[e c _ _ _ d z]
 | false=>rwa[d _ _ z]) z
def az:Ye Qg:=λ_ _ _ _ c z=>c _ _ z
def kj{d:TE}(h:jy d)(g:Ye e):Ye (Sh d e):=λc _ _ _ f z=>h c _ _ _ (λ_ _ z=>g c _ _ _ (λ_ _ z=>f _ _ z) z) z
def SI{r:List V->Hp->VK->Prop}(d:Pi r)(h:Ye t):jy (tCB r t):=λc _ _ _ e z=>h c _ _ _ (λ_ _ z=>d _ _ _ _ e z) z
def YX{K:b6} : Pi (λxs H Q=>E2 λp c=>A3 (xs=[.ref p]) (SqL K H p c\/SqT K H p c) (Q (.int c.length) H)):=λ_ _ _ _ d ⟨p,c,e,s,z⟩=>⟨p,c,e,s,d _ _ z⟩
def kH(ns:List Int)(lo hi:Option Int):yg (ns.map V.int) lo hi=((ns.drop (HT.sIx ns.length 0 lo)).take (HT.sIx ns.length ns.length hi-HT.sIx ns.length 0 lo)).map V.int:=by
 unfold yg;rw[b5,Cg,C6]
def ifTF{b:Bool}{A B:Prop}(h1:b=Kj->A)(h2:b=Kk->B):if b=Kj then A else B:=by
 cases b with
 | true=>rwa[h1 rfl]
 | false=>rwa[h2 rfl]
end L2

namespace L2
def Qf{xs c:List Int}(r1:yW (xs.map V.int) e)(r2:yW (c.map V.int) d):∀ j (h1:j<e.toArray.size) (h2:j<d.toArray.size),
  F7 A s e.toArray[j] d.toArray[j] (decide (xs[j]?=c[j]?)):=λj h1 h2=>by
 have m:=r1.length;have l:=r2.length;rw[b5] at m l;have q:j<e.length:=by simpa using h1
 have p:j<d.length:=by simpa using h2
 have k1:j<xs.length:=by lia
 have k2:j<c.length:=by lia
 obtain⟨u,o,t,ru⟩:=r1.get (i:=j) (x:=.int xs[j]) (by rw[c7,b8 k1]; rfl);obtain⟨w,n,g,f⟩:=r2.get (i:=j) (x:=.int c[j]) (by rw[c7,b8 k2]; rfl);have y:e.toArray[j]=.int xs[j] t:=by
  have z:=b8 q;rw[o] at z;rw[GF,<- x6 z,ru]
 have v:d.toArray[j]=.int c[j] g:=by
  have z:=b8 p;rw[n] at z;rw[GF,<- x6 z,f]
 rw[y,v];have r:decide (xs[j]?=c[j]?)=(xs[j] == c[j]):=by
  rw[b8 k1,b8 k2];by_cases h:xs[j]=c[j]
  ·rw[h]; simp
  ·rw[y9 (λz=>h (x6 z))];exact(x5.mpr h).symm
 rw[r];rwa[DK _ _ _ _]
def Sg{xs c:List Int} : ((Ay (min xs.length c.length)).all (λj=>decide (xs[j]?=c[j]?))&&xs.length == c.length)=decide (xs=c):=by
 by_cases h:xs=c
 ·subst h;rw[y8 rfl,Bb];rwa[AG.mpr λj _=>y8 rfl,by simp]
 ·rw[y9 h,Bool.and_eq_false_iff];by_cases d:xs.length=c.length
  ·left;rw[Fv];intro z;apply h;rw[AG] at z;erw[Db λj=>?_];by_cases e:j<xs.length
   ·rwa[of_decide_eq_true (z j (BV.mpr (by lia)))]
   ·rw[Be (by lia),Be (by lia)]
  ·right;rwa[x5.mpr d]
section
variable{X:Cx}
def rEqT(K:b6)(neg:Bool):R2:=λx y H Q=>E4 λ(a b:b9) (xs c:List Int)=>A5 (x=.ref a) (y=.ref b) (SqT K H a (xs.map V.int)) (SqT K H b (c.map V.int)) (Q (.bl (if neg then !decide (xs=c) else decide (xs=c))) H)
def Wq(n:X.A.units<cLine):OpR X (compareOp .Eq) (rEqT X.K Kk):=by
 intro p s o H x y v u Q I m l h;obtain⟨a,b,xs,c,rfl,rfl,h1,h2,q⟩:=h;cases m;cases l;obtain⟨i,r1,p1,_⟩:=I.tuple h1;obtain⟨g,r2,p2,_⟩:=I.tuple h2;refine SeqAt.eq_tupleAt (e:=λj=>decide (xs[j]?=c[j]?)) (show s.heap.IsTuple a i.toArray from p1) (show s.heap.IsTuple b g.toArray from p2) n (Qf r1 r2) ?_;have f:=r1.length;have d:=r2.length;rw[b5] at f d;rw[g6,g6,<- f,<- d,Sg];rwa[.bl (decide (xs=c)),H,I,rfl,q]
end
def wS{rows:List Int}{P:Int->Prop}(bd:∀ x∈rows,P x){k:Int}(d:0<=k)(k1:k<rows.length):∃ v:Int,atI (rows.map V.int) k=Kh (.int v)/\P v:=by
 have c:k.toNat<rows.length:=by lia
 erw[rows[k.toNat],?_,bd _ (r9 c)];have q:atI (rows.map V.int) ((k.toNat:Nat):Int)=Kh (.int rows[k.toNat]):=vF (by rw[c7,b8 c] <;> rfl);rw[show((k.toNat:Nat):Int)=k from by lia] at q;rwa[q]
def Xg.of{i j:Int}(hi:i.natAbs<=10^100)(c:j.natAbs<=10^100):Xg i j :=
 ⟨Am hi (by ac_nf),Am c (by ac_nf)⟩
def SH{n:Nat}(h:n<=10^40):n<=10^100:=g7 h (by ac_nf)
end L2

namespace L2
end L2

namespace L2
end L2

namespace L2
def lh:∀{c:List b9}{d:List c5},yW (c.map V.ref) d->d=c.map r6
 | [],_,r=>by cases r; rfl
 | a::c,_,r=>by
  cases r with
  | cons r1 r2 =>
   cases r1;rw[lh r2];rfl
section
variable{X:Cx}
def yt(n:Nat):(Ay n).all (λ_=>Kj)=true:=AG.mpr λ_ _=>rfl
end
def Same.putNew{H c:Hp}(s:Same H c)(h:H D=Ki):Same H (upd c D o):=λb u q=>by
 rw[zH (zE q h)];rwa[s _ _ q]
abbrev Pr:=b9×Int×Int
abbrev zl(c:List Pr):List V:=(c.map (·.1)).map V.ref
def PrOk(H:Hp)(M:Nat)(c:List Pr):Prop:=∀ t∈c,H t.1=Kh (.tup [.int t.2.1,.int t.2.2])/\t.2.1.natAbs<=M/\t.2.2.natAbs<=M
def rh(c:List Pr):(zl c).length=c.length:=by simp[zl]
def jV:∀{xs c:List Int},xs.map V.int=c.map V.int->xs=c
 | [],[],_=>rfl
 | [],_::_,h=>nomatch h
 | _::_,[],h=>nomatch h
 | x::xs,y::c,h=>by
  rw[i4,i4] at h;injection h with h1 h2
  rw[V.int.inj h1,jV h2]
end L2

namespace L2
def crs(p q r:Int×Int):Int:=(q.1-p.1)*(r.2-p.2)-(q.2-p.2)*(r.1-p.1)
def ptA(c:List (b9×Int×Int))(i:Nat):Int×Int:=((c[i]?).map (·.2)).getD (0,0)
def leftB(c:List (b9×Int×Int))(i k:Nat):Bool:=decide (0<crs (ptA c i) (ptA c ((i+1)%c.length)) (ptA c k))
def RK(c:List (b9×Int×Int))(i:Nat):Bool:=(Ay (c.length-2)).all λj=>leftB c i ((i+(2+j))%c.length)
def isB(c:List (b9×Int×Int)):Bool:=decide (3<=c.length)&&(decide (c.length<=8)&&(Ay c.length).all (RK c))
end L2

namespace PySem.W
open PySem PySem.Calls PyProof.Rows
section
variable{prog:j9}{w:o9}{A:Ad}{E:c5->c8->Prop}{s:c8}
def yi(h:Ae)(a:b9)(c:List c5):Ae:=((h.update a (AX λ_=>#[])).push (seqObj "tuple" c.toArray 0)).push (seqObj "list" #[] 0)
def cv{h:Ae}{a b:b9}(d:b≠a)(e:h.get? b=Kh o):(yi h a c).get? b=Kh o:=by
 unfold yi;erw[c9 _ (c9 _ ?_)];rw[GT _ _ _ _ d];rwa[e]
def vm(h:Ae)(c:List c5):Ae:=((h.push (seqObj "list" #[] 0)).update h.objs.size (AX (· ++ c.toArray))).push (seqObj "list" c.toArray 0)
def dW{h:Ae}(e:h.get? b=Kh o):(vm h d).get? b=Kh o:=by
 have c:b<h.objs.size:=i5 e;unfold vm;erw[c9 _ ?_];rw[GT _ _ _ _ (m7 c),Heap.get?_push_ne _ _ _ (m7 c)];rwa[e]
end
end PySem.W

namespace L2
open PySem PySem.Spec PyProof.Rows PySem.W
def fO:∀ a:List Int,HT.lexLt a a=Kk
 | []=>rfl
 | x::xs=>by rw[HT.lexLt_cons,y7 rfl]; rwa[fO xs]
def aw:∀ a b c:List Int,HT.lexLt a b=Kj->HT.lexLt b c=Kj->HT.lexLt a c=Kj
 | [],[],_,h,_=>nomatch h
 | [],_::_,[],_,h=>nomatch h
 | [],_::_,_::_,_,_=>rfl
 | _::_,[],_,h,_=>nomatch h
 | _::_,_::_,[],_,h=>nomatch h
 | x::xs,y::g,z::f,h1,h2=>by
  rw[HT.lexLt_cons] at h1 h2 ⊢;by_cases e:x=y
  ·rw[y7 e] at h1;by_cases d:y=z
   ·rw[y7 d] at h2;rw[y7 (e.trans d)];rwa[aw xs g f h1 h2]
   ·rw[y6 d] at h2;rw[y6 (by lia),e];rwa[h2]
  ·rw[y6 e] at h1;have j:=of_decide_eq_true h1;by_cases d:y=z
   ·rw[y6 (by lia),<- d];rwa[h1]
   ·rw[y6 d] at h2;have i:=of_decide_eq_true h2;rw[y6 (by lia)];rwa[y8 (by lia)]
def bq:∀ a b c:List Int,HT.lexLt a c=Kj->HT.lexLt a b=Kj\/HT.lexLt b c=Kj
 | [],_,[],h=>nomatch h
 | [],[],_::_,_=>.inr rfl
 | [],_::_,_::_,_=>.inl rfl
 | _::_,_,[],h=>nomatch h
 | _::_,[],_::_,_=>.inr rfl
 | x::xs,y::i,z::f,h=>by
  rw[HT.lexLt_cons] at h ⊢;rw[HT.lexLt_cons];by_cases e:x=y
  ·by_cases d:y=z
   ·rw[y7 (e.trans d)] at h;rw[y7 e,y7 d];rwa[bq xs i f h]
   ·rw[y6 (by lia)] at h;right;rw[y6 d,<- e];rwa[h]
  ·by_cases d:y=z
   ·rw[y6 (by lia)] at h;left;rw[y6 e,d];rwa[h]
   ·rw[y6 e,y6 d];by_cases g:x<y
    ·rwa[.inl (y8 g)]
    ·right;by_cases j:x=z
     ·rwa[y8 (by lia)]
     ·rw[y6 j] at h;have:=of_decide_eq_true h;rwa[y8 (by lia)]
def dj:∀ a b:List Int,HT.lexLt a b=Kk->HT.lexLt b a=Kk->a=b
 | [],[],_,_=>rfl
 | [],_::_,h,_=>nomatch h
 | _::_,[],_,h=>nomatch h
 | x::xs,y::c,h1,h2=>by
  rw[HT.lexLt_cons] at h1 h2;by_cases e:x=y
  ·rw[y7 e] at h1;rw[y7 e.symm] at h2;rw[e,dj xs c h1 h2]
  ·rw[y6 e] at h1;rw[y6 (λz=>e z.symm)] at h2;have f:=of_decide_eq_false h1;have d:=of_decide_eq_false h2;lia
def Yu(h:Ae)(v:c5)(ns:List Int):Prop:=∃(a:b9)(o:BP)(n:Nat)(c:List c5),v=.ref a/\h.get? a=Kh o/\o.cls=.type "tuple" /\ o.data=.seq c.toArray n/\yW (ns.map V.int) c
def Yu.keep{h d:Ae}(e:Yu h v t)(k:∀ b o,h.get? b=Kh o->d.get? b=Kh o):Yu d v t:=by
 obtain⟨a,o,n,c,i,g,f⟩:=e;rwa[a,o,n,c,i,k _ _ g,f]
def ui:∀ c:List b9,yW (c.map V.ref) (c.map r6)
 | []=>.nil
 | _::c=>.cons rfl (ui c)
section
variable{X:Cx}
def sX:bootBuiltins "sorted" = Kh (.builtin "sorted"):=by ac_nf
end
end L2

namespace Sea
def TV{a b c p q r:Int}(f:0<p)(e:0<q)(d:0<r)(h1:a*q<=b*p)(h2:b*r<=c*q):a*r<=c*p:=by
 have l:=BN h1 (v8 d);have j:=BN h2 (v8 f);have i:a*q*r=a*r*q:=o5 a q r;have h:b*p*r=b*r*p:=o5 b p r;have g:c*q*p=c*p*q:=o5 c q p;rwa[Int.le_of_mul_le_mul_right (by lia) e]
def TK{a b c p q r:Int}(f:0<p)(e:0<q)(d:0<r)(h1:a*q<b*p)(h2:b*r<=c*q):a*r<c*p:=by
 have l:=EF h1 d;have j:=BN h2 (v8 f);have i:a*q*r=a*r*q:=o5 a q r;have h:b*p*r=b*r*p:=o5 b p r;have g:c*q*p=c*p*q:=o5 c q p;rwa[EU (by lia) (v8 e)]
def Qs{a b c p q r:Int}(f:0<p)(e:0<q)(d:0<r)(h1:a*q<=b*p)(h2:b*r<c*q):a*r<c*p:=by
 have l:=BN h1 (v8 d);have j:=EF h2 f;have i:a*q*r=a*r*q:=o5 a q r;have h:b*p*r=b*r*p:=o5 b p r;have g:c*q*p=c*p*q:=o5 c q p;rwa[EU (by lia) (v8 e)]
def leS(s t:SpT):Prop:=ahB t s=Kk
def Wv(s t:SpT):leS s t↔s.2.1*t.2.2.2<t.2.1*s.2.2.2\/(s.2.1*t.2.2.2=t.2.1*s.2.2.2/\s.2.2.1*t.2.2.2<=t.2.2.1*s.2.2.2):=by
 unfold leS ahB;by_cases h:t.2.1*s.2.2.2-s.2.1*t.2.2.2=0
 ·rw[y7 h,decide_eq_false_iff_not];lia
 ·rw[y6 h,decide_eq_false_iff_not];lia
def YU(h:ahB s t=Kj):leS s t:=by
 rw[Wv];unfold ahB at h;by_cases e:s.2.1*t.2.2.2-t.2.1*s.2.2.2=0
 ·rw[y7 e] at h;have:=of_decide_eq_true h;lia
 ·rw[y6 e] at h;have:=of_decide_eq_true h;lia
def TD{s t u:SpT}(f:0<s.2.2.2)(e:0<t.2.2.2)(d:0<u.2.2.2)(h1:leS s t)(h2:leS t u):leS s u:=by
 rw[Wv] at h1 h2 ⊢;rcases h1 with h1 | ⟨h1,h⟩
 ·left;rcases h2 with h2 | ⟨h2,g⟩
  ·rwa[TK f e d h1 (v8 h2)]
  ·rwa[TK f e d h1 (Dm h2)]
 ·rcases h2 with h2 | ⟨h2,g⟩
  ·left;rwa[Qs f e d (Dm h1) h2]
  ·right;erw[Iv (TV f e d (Dm h1) (Dm h2)) ?_,TV f e d h g];have z:=TV (a:=u.2.1) (b:=t.2.1) (c:=s.2.1) d e f (Dm h2.symm) (Dm h1.symm);rwa[z]
def SW(xs:List SpT):Prop:=∀ t∈xs,0<t.2.2.2
def kE{p:SpT->Bool} : ∀{xs:List SpT}{x:SpT},x∈xs.takeWhile p->p x=Kj/\x∈xs
 | [],_,h=>nomatch h
 | y::d,x,h=>by
  by_cases c:p y=Kj
  ·rw[EV c] at h;rcases j5.mp h with rfl | h
   ·rwa[c,o4 ..]
   ·rwa[(kE h).1,v9 _ (kE h).2]
  ·rw[EW c] at h;exact nomatch h
def jH{p:SpT->Bool} : ∀{xs:List SpT},xs.dropWhile p=[]\/∃ y c,xs.dropWhile p=y::c/\p y=Kk
 | []=>.inl rfl
 | y::c=>by
  by_cases d:p y=Kj
  ·rw[EX d];rwa[jH]
  ·rw[EY d];exact .inr ⟨y,c,rfl,by simpa using d⟩
def lv:∀(j xs:List SpT),SW xs->SW j->xs.Pairwise leS->j.Pairwise leS->(xM xs j).Pairwise leS
 | [],xs,_,_,f,_=>by rw[xM]; rwa[f]
 | o::r,xs,v,u,f,H=>by
  rw[xM];have A:0<o.2.2.2:=u o (o4 ..);have w:SW r:=λt q=>u t (v9 _ q);obtain⟨s,I⟩:=Bs.mp H;have m:(xs.dropWhile λx=>!ahB o x).Sublist xs:=List.dropWhile_sublist _;have st:(xs.takeWhile λx=>!ahB o x).Sublist xs:=List.takeWhile_sublist _;have g:SW (xs.dropWhile λx=>!ahB o x):=λt q=>v t (m.subset q);have G:=lv r (xs.dropWhile λx=>!ahB o x) g w (f.sublist m) I;have E:∀ y∈xs.dropWhile (λx=>!ahB o x),leS o y:=λy c=>by
   rcases jH (p:=λx=>!ahB o x) (xs:=xs) with e | ⟨z,zs,e,hz⟩
   ·rw[e] at c;exact nomatch c
   ·have d:ahB o z=true:=by simpa using hz
    have pw:=f.sublist m;rw[e] at c pw;rcases j5.mp c with rfl | h
    ·rwa[YU d]
    ·have C:0<z.2.2.2:=g z (by rw[e]; rwa[o4 ..]);have l:0<y.2.2.2:=g y (by rw[e]; rwa[v9 _ h]);rwa[TD A C l (YU d) ((Bs.mp pw).1 y h)]
  have B:∀ y∈xM (xs.dropWhile λx=>!ahB o x) r,leS o y:=λy n=>by
   rcases i9.mp ((qW r _).mem_iff.mp n) with h | h
   ·rwa[E y h]
   ·rwa[s y h]
  rw[GG];refine⟨f.sublist st,Bs.mpr ⟨B,G⟩,λa J b i=>?_⟩;obtain⟨pa,ma⟩:=kE J;have la:leS a o:=by
   show ahB o a=Kk;simpa using pa
  rcases j5.mp i with rfl | i
  ·rwa[la]
  ·have D:0<b.2.2.2:=by
    rcases i9.mp ((qW r _).mem_iff.mp i) with h | h
    ·rwa[g b h]
    ·rwa[w b h]
   rwa[TD (v a ma) A D la (B b i)]
def pC:∀(n:Nat)(xs:List SpT),xs.length<=2^n->SW xs->(we n xs).Pairwise leS
 | 0,xs,h,_=>by
  rw[we]
  match xs,h with
  | [],_=>rwa[.nil]
  | [x],_=>rwa[CP ..]
  | _::_::_,h=>rw[f9,f9] at h; lia
 | n+1,xs,h,w=>by
  rw[we];split
  ·rename_i h2
   match xs,h2 with
   | [],_=>rwa[.nil]
   | [x],_=>rwa[CP ..]
   | _::_::_,h=>rw[f9,f9] at h; lia
  ·have e:2^(n+1)=2^n*2:=Hq 2 n;have w1:SW (xs.take (xs.length/2)):=λt c=>w t (Aj c);have d:SW (xs.drop (xs.length/2)):=λt c=>w t (AF c);erw[lv _ _ (λt c=>w1 t ((vJ n _).mem_iff.mp c)) (λt c=>d t ((vJ n _).mem_iff.mp c)) (pC n _ (by rw[g8]; lia) w1) (pC n _ (by rw[Ai]; lia) d)]
def WU:∀{xs c:List (List Int)},xs.Perm c->xs.Pairwise (λa b=>HT.lexLt b a=Kk)->c.Pairwise (λa b=>HT.lexLt b a=Kk)->xs=c
 | [],c,h,_,_=>(Jt.mp h).symm
 | x::xs,[],h,_,_=>x4 (Ju.mp h) (by simp)
 | x::xs,y::c,h,l,j=>by
  obtain⟨i,g⟩:=Bs.mp l;obtain⟨f,d⟩:=Bs.mp j;have e:x=y:=by
   have m1:x∈y::c:=h.mem_iff.mp (o4 ..);have m2:y∈x::xs:=h.mem_iff.mpr (o4 ..);rcases j5.mp m1 with e | m1
   ·rwa[e]
   ·rcases j5.mp m2 with e | m2
    ·rwa[e.symm]
    ·rwa[dj _ _ (f x m1) (i y m2)]
  subst e;rw[WU (EZ x |>.mp h) g d]
end Sea

namespace L2
section
variable{κ:Type}[DecidableEq κ]
def tZ(c:List (κ×V))(k:κ):Option V:=(c.find? λd=>decide (d.1=k)).map (·.2)
def qO(c:List (κ×V))(k:κ)(v:V):List (κ×V) :=
 if (c.any λd=>decide (d.1=k))=Kj then c.map (λd=>if d.1=k then(d.1,v) else d) else c++[(k,v)]
def iK(c:List (κ×V))(k:κ):List (κ×V):=c.filter λd=>decide (d.1≠k)

def wV{p:κ×V}{r:List (κ×V)}{k:κ}(e:p.1=k):tZ (p::r) k=Kh p.2:=by simp[tZ,AQ,e]
def wL{p:κ×V}{r:List (κ×V)}{k:κ}(e:¬ p.1=k):tZ (p::r) k=tZ r k:=by simp[tZ,AQ,e]
def nE(k:κ):∀ c:List (κ×V),(c.any λd=>decide (d.1=k))=(tZ c k).isSome
 | []=>rfl
 | p::r=>by
  rw[CG];by_cases e:p.1=k
  ·simp only[wV e,y8 e,Bool.true_or,Option.isSome_some]
  ·rw[wL e,y9 e,Bool.false_or]; rwa[nE k r]
def bG(k j:κ)(y:V):∀ c:List (κ×V),tZ (c.map λd=>if d.1=k then(d.1,y) else d) j=(tZ c j).map λx=>if j=k then y else x
 | []=>rfl
 | p::r=>by
  have f:=bG k j y r;rw[i4];by_cases h:p.1=k
  ·rw[y7 h];by_cases e:p.1=j
   ·rw[wV (p:=(p.1,y)) e,wV e,AR,y7 (e.symm.trans h)]
   ·rw[wL (p:=(p.1,y)) e,wL e,f]
  ·rw[y6 h];by_cases e:p.1=j
   ·rw[wV (p:=p) e,wV e,AR,y6 (λz=>h (e.trans z))]
   ·rw[wL (p:=p) e,wL e,f]
def fg(k j:κ)(y:V):∀ c:List (κ×V),tZ c k=Ki->tZ (c++[(k,y)]) j=if j=k then Kh y else tZ c j
 | [],_=>by
  by_cases e:k=j
  ·rw[y7 e.symm]; rwa[wV (p:=(k,y)) e]
  ·rw[y6 (λz=>e z.symm)]; rwa[wL (p:=(k,y)) e]
 | p::r,d=>by
  rw[FP];have f:¬ p.1=k:=λz=>by rw[wV z] at d; cases d
  rw[wL f] at d;have g:=fg k j y r d;by_cases e:p.1=j
  ·rw[wV e,wV e,y6 (λz=>f (e.trans z))]
  ·rw[wL e,wL e,g]
def xo(c:List (κ×V))(k j:κ)(y:V):tZ (qO c k y) j=if j=k then Kh y else tZ c j:=by
 unfold qO;by_cases a:(c.any λd=>decide (d.1=k))=Kj
 ·rw[y7 a,bG];rw[nE] at a;by_cases e:j=k
  ·obtain⟨x,f⟩:=m9.mp a;rw[y7 e,e,f,AR,y7 rfl]
  ·rw[y6 e];cases tZ c j with
   | none=>rfl
   | some x=>rw[AR,y6 e]
 ·rw[y6 a];erw[fg k j y c ?_];rw[nE] at a;cases q:tZ c k with
  | none=>rfl
  | some x=>rw[q] at a; exact(a rfl).elim
def zn(c:List (κ×V))(k:κ)(v:V):(qO c k v).length<=c.length+1:=by
 unfold qO;split
 ·rw[b5]; lia
 ·rw[f8,f9,Ao]; lia
def gB.isSome_eq(r:gB o u):o.isSome=u.isSome:=by
 cases o with
 | none=>cases u with
  | none=>rfl
  | some _=>exact(show False from r).elim
 | some _=>cases u with
  | none=>exact(show False from r).elim
  | some _=>rfl
def KV.val(r:KV c vs)(k:κ):gB (tZ c k) (valueAt vs k):=by
 unfold KV at r
 induction r with
 | nil=>rwa[x8]
 | @cons p q i d h t g =>
  obtain⟨h1,h2⟩:=h;by_cases e:p.1=k
  ·have f:q.1=k:=h1.symm.trans e;have b:valueAt (q::d) k=Kh q.2:=by simp[valueAt,AQ,f]
   rw[wV e,b]; rwa[h2]
  ·have f:¬ q.1=k:=λz=>e (h1.trans z);have b:valueAt (q::d) k=valueAt d k:=by simp[valueAt,AQ,f]
   rw[wL e,b]; rwa[g]
def KV.any(r:KV c vs)(k:κ):(c.any λd=>decide (d.1=k))=vs.any λd=>decide (d.1=k):=by
 unfold KV at r
 induction r with
 | nil=>rfl
 | cons h t e=>rw[CG,CG,e,h.1]
def KV.repl(r:KV d vs)(k:κ)(f:xZ y u) :
  KV (d.map λc=>if c.1=k then(c.1,y) else c) (vs.map λc=>if c.1=k then(c.1,u) else c):=by
 unfold KV at r ⊢
 induction r with
 | nil=>rwa[.nil]
 | @cons p q j i h t g =>
  rw[i4,i4];erw[.cons ?_ g];obtain⟨h1,h2⟩:=h;by_cases e:p.1=k
  ·rw[y7 e,y7 (h1.symm.trans e)]; rwa[h1,f]
  ·rw[y6 e,y6 (λz=>e (h1.trans z))]; rwa[h1,h2]
def KV.put(r:KV c vs)(k:κ)(d:xZ y u):KV (qO c k y) (stored vs k u):=by
 unfold qO stored;rw[r.any k];by_cases e:(vs.any λf=>decide (f.1=k))=Kj
 ·rw[y7 e,y7 e]; rwa[r.repl k d]
 ·rw[y6 e,y6 e]; rwa[J1 r ⟨rfl,d⟩]
def KV.drop(r:KV c vs)(k:κ):KV (iK c k) (without vs k):=by
 unfold KV at r ⊢;unfold iK without
 induction r with
 | nil=>rwa[.nil]
 | @cons p q i g h t d =>
  obtain⟨h1,h2⟩:=h;rw[BO,BO];by_cases e:p.1=k
  ·have a:¬ decide (p.1≠k)=true:=by simp[e]
   have b:¬ decide (q.1≠k)=true:=by simp[h1.symm.trans e]
   rw[y6 a,y6 b]; rwa[d]
  ·have f:¬ q.1=k:=λz=>e (h1.trans z);have a:decide (p.1≠k)=true:=by simp[e]
   have b:decide (q.1≠k)=true:=by simp[f]
   rw[y7 a,y7 b]; rwa[.cons ⟨h1,h2⟩ d]
def KV.length(r:KV c vs):c.length=vs.length:=FE r
def bI(c:List (κ×V))(k:κ):(iK c k).length<=c.length:=At _ _
end


def gj(r:xZ (kV k) u):(yZ P w).is k u=true:=by
 cases k with
 | inl i=>obtain⟨t,e⟩:=(show ∃ t,u=Cj i t from r); subst e; rwa[cT P w i t]
 | inr x=>obtain⟨t,e⟩:=(show ∃ t,u=DP x t from r); subst e; rwa[vi P w x t]
def fV : ∀{c:List Key}{d:List c5},yW (c.map kV) d->ItemsAre (yZ P w) c d
 | [],_,r=>by rw[ED] at r; cases r; rwa[.nil]
 | k::c,_,r=>by
  rw[i4] at r;cases r with
  | cons h t=>rwa[.cons (gj h) (fV t)]

abbrev KT(H:Hp):List (List Key×V)->List (List Key×b9×c5)->Prop:=HK λp q=>p.1=q.1/\H q.2.1=Kh (.tup (p.1.map kV))/\xZ p.2 q.2.2
def KT.val{H:Hp}(r:KT H c xs)(k:List Key):gB (tZ c k) ((atKey xs k).map (·.2)):=by
 induction r with
 | nil=>rwa[x8]
 | @cons p q i d h t g =>
  obtain⟨h1,_,h2⟩:=h;by_cases e:p.1=k
  ·have f:q.1=k:=h1.symm.trans e;have b:atKey (q::d) k=Kh q.2:=by simp[atKey,AQ,f]
   rw[wV e,b]; rwa[h2]
  ·have f:¬ q.1=k:=λz=>e (h1.trans z);have b:atKey (q::d) k=atKey d k:=by simp[atKey,AQ,f]
   rw[wL e,b]; rwa[g]
def KT.repl{H:Hp}(r:KT H c xs)(k:List Key)(f:xZ y u) :
  KT H (c.map λd=>if d.1=k then(d.1,y) else d) (xs.map (putAt k u)):=by
 induction r with
 | nil=>rwa[.nil]
 | @cons p q j i h t g =>
  rw[i4,i4];erw[.cons ?_ g];obtain⟨h1,h2,h3⟩:=h;unfold putAt;by_cases e:p.1=k
  ·rw[y7 e,y7 (h1.symm.trans e)]; rwa[h1,h2,f]
  ·rw[y6 e,y6 (λz=>e (h1.trans z))]; rwa[h1,h2,h3]
def KT.put{H:Hp}(r:KT H c xs)(k:List Key)(g:H b=Kh (.tup (k.map kV)))(d:xZ y u) :
  KT H (qO c k y) (storedH xs k b u):=by
 have e:(c.any λf=>decide (f.1=k))=(atKey xs k).isSome:=by
  rw[nE,(r.val k).isSome_eq,Dc]
 unfold qO storedH;rw[e];by_cases q:(atKey xs k).isSome=Kj
 ·rw[y7 q,y7 q]; rwa[r.repl k d]
 ·rw[y6 q,y6 q]; rwa[J1 r ⟨rfl,g,d⟩]
def KT.keeps{H e:Hp}(r:KT H c xs)(f:∀ b d,H b=Kh (.tup d)->e b=Kh (.tup d)):KT e c xs :=
 Paired.mapP r λ_ _ z=>⟨z.1,f _ _ z.2.1,z.2.2⟩

section
variable{P:j9}{w:o9}{H:Hp}{h:Ae}{a:b9}
def Ov(ok:HOk P w H h)(e:Rd H a u):uL P w H h a u:=e.ok ok
def iQ(ok:HOk P w H h)(e:Rd H a (.dK c)):c.length<=sizeLine/\(a == sysModules)=Kk/\∃ d,KV c d/\h.DictOf (yZ P w) a d :=
 show uL P w H h a (.dK c) from Ov ok e
def VU(ok:HOk P w H h)(e:H a=Kh (.dK c)):c.length<=sizeLine/\(a == sysModules)=Kk/\∃ d,KV c d/\h.DictOf (yZ P w) a d:=iQ ok (.inl e)
def gX{c:List Key}(ok:HOk P w H h)(e:H a=Kh (.tup (c.map kV))):(tupleKind (yZ P w)).is h c a:=by
 obtain⟨_,d,r,o,h1,h2,n,h3⟩:=(show uL P w H h a (.tup (c.map kV)) from ok a _ e);exact⟨o,d.toArray,n,h1,h2,h3,by simpa using fV r⟩
def ZM(ok:HOk P w H h)(e:Rd H a (.dT c)):c.length<=sizeLine/\(a == sysModules)=Kk /\
  ∃ xs,KT H c xs/\h.DictOfH (tupleKind (yZ P w)) a xs:=by
 obtain⟨z,y,xs,r,o,i,j,h1,h2,h3,h4,h5⟩:=(show uL P w H h a (.dT c) from Ov ok e);refine⟨z,y,xs,r,o,i,j,h1,h2,h3,h4,λx d=>?_,h5⟩;have all:∀{l:List (List Key×V)}{m:List (List Key×b9×c5)},KT H l m->∀ x∈m,(tupleKind (yZ P w)).is h x.1 x.2.1:=by
  intro l m q
  induction q with
  | nil=>intro x d; exact nomatch d
  | @cons p q s n f t g =>
   intro x d;rcases j5.mp d with e | d
   ·subst e;rwa[gX ok (by rw[<- f.1]; exact f.2.1)]
   ·rwa[g x d]
 rwa[all r x d]
def Ra(ok:HOk P w H h)(e:H a=Kh (.dT c)):c.length<=sizeLine/\(a == sysModules)=Kk /\
  ∃ xs,KT H c xs/\h.DictOfH (tupleKind (yZ P w)) a xs:=ZM ok (.inl e)
end

def YL(H:Hp)(a:b9)(y:V)(r:Option V):Prop :=
 (∃ c k,Rd H a (.dK c)/\y=kV k/\r=tZ c k)\/∃ c k b,Rd H a (.dT c)/\y=.ref b/\H b=Kh (.tup (k.map kV))/\r=tZ c k
def cR(H:Hp)(a:b9)(y v:V)(d:Hp):Prop :=
 (∃ c k,H a=Kh (.dK c)/\y=kV k/\c.length<sizeLine/\d=upd H a (.dK (qO c k v))) \/
 ∃ c k b,H a=Kh (.dT c)/\y=.ref b/\H b=Kh (.tup (k.map kV))/\c.length<sizeLine/\d=upd H a (.dT (qO c k v))
def YL.t{H:Hp}{k:List Key}(e:H a=Kh (.dT c))(d:H b=Kh (.tup (k.map kV))):YL H a (.ref b) (tZ c k):=.inr ⟨c,k,b,.inl e,rfl,d,rfl⟩
def cR.k{H:Hp}{k:Key}(e:H a=Kh (.dK c))(d:c.length<sizeLine):cR H a (kV k) v (upd H a (.dK (qO c k v))):=.inl ⟨c,k,e,rfl,d,rfl⟩
def cR.t{H:Hp}{k:List Key}(e:H a=Kh (.dT c))(f:H b=Kh (.tup (k.map kV)))(d:c.length<sizeLine) :
  cR H a (.ref b) v (upd H a (.dT (qO c k v))):=.inr ⟨c,k,b,e,rfl,f,d,rfl⟩


section
variable{X:Cx}{Kl:List (b9×BP)}{σ:St}{H:Hp}{s:c8}{a:b9}{y v:V}{u r:c5}{o:Option V}{A:Ad}{E:c5->c8->Prop}

def Inv.big(I:Inv X Kl σ H s):sysModules<s.heap.objs.size:=by
 have h:mainGlobals<s.heap.objs.size:=(I.mod.glob.keeps I.bk).lt;rwa[JK (by decide) h]

def WE{Q:c5->c8->Prop}(B:A.units+1<cLine)(I:Inv X Kl σ H s)(g:YL H a y (Kh v))(q:xZ y u)(h:∀ d n,Inv X Kl σ H n->xZ v d->Q d n) :
  wpAny (model X.prog X.w) A (getItem (.ref a) u) Q E s:=by
 rcases g with ⟨f,k,e,ey,l⟩ | ⟨f,k,b,e,ey,D,l⟩
 ·subst ey;obtain⟨z,hd,x,rel,m⟩:=iQ I.hok e;obtain⟨d,i,c⟩:=gB.some_of (v:=v) (o:=valueAt x k) (by rw[l]; rwa[rel.val k]);rwa[HW (gj q) m.mapOf i (h d _ (I.tok _) c)]
 ·subst ey;cases (show u=r6 b from q);obtain⟨z,hd,xs,rel,m⟩:=ZM I.hok e;obtain⟨d,i,c⟩:=gB.some_of (v:=v) (o:=(atKey xs k).map (·.2)) (by rw[l]; rwa[rel.val k]);obtain⟨p,C,j⟩:=j8.mp i;erw[wpAny_getItem_heap (tupleKind_room_in1 B) (gX I.hok D) m C ?_];rw[j];rwa[h d _ (I.tok _) c]
def d_in{Q:c5->c8->Prop}(j:A.units+1<cLine)(I:Inv X Kl σ H s)(g:YL H a y o)(i:xZ y u)(h:∀ f,Inv X Kl σ H f->Q (.bool o.isSome) f) :
  wpAny (model X.prog X.w) A (compareOp .In u (.ref a)) Q E s:=by
 rcases g with ⟨c,k,e,ey,l⟩ | ⟨c,k,b,e,ey,m,l⟩
 ·subst ey;obtain⟨z,hd,n,rel,d⟩:=iQ I.hok e;erw[wpAny_in_of (gj i) hd d.mapOf ?_];rw[<- (rel.val k).isSome_eq,<- l];rwa[h _ (I.tok _)]
 ·subst ey;cases (show u=r6 b from i);obtain⟨z,hd,xs,rel,d⟩:=ZM I.hok e;erw[wpAny_in_heap (tupleKind_room_in1 j) (gX I.hok m) hd d ?_];have q:=(rel.val k).isSome_eq;rw[Dc] at q;rw[<- q,<- l];rwa[h _ (I.tok _)]
def RF{Q:c5->c8->Prop}(j:A.units+1<cLine)(I:Inv X Kl σ H s)(g:YL H a y o)(i:xZ y u)(h:∀ f,Inv X Kl σ H f->Q (.bool (!o.isSome)) f) :
  wpAny (model X.prog X.w) A (compareOp .NotIn u (.ref a)) Q E s:=by
 rcases g with ⟨c,k,e,ey,l⟩ | ⟨c,k,b,e,ey,m,l⟩
 ·subst ey;obtain⟨z,hd,n,rel,d⟩:=iQ I.hok e;erw[wpAny_notIn_of (gj i) hd d.mapOf ?_];rw[<- (rel.val k).isSome_eq,<- l];rwa[h _ (I.tok _)]
 ·subst ey;cases (show u=r6 b from i);obtain⟨z,hd,xs,rel,d⟩:=ZM I.hok e;erw[wpAny_notIn_heap (tupleKind_room_in1 j) (gX I.hok m) hd d ?_];have q:=(rel.val k).isSome_eq;rw[Dc] at q;rw[<- q,<- l];rwa[h _ (I.tok _)]
def lS{d:Nat}(I:Inv X Kl σ H s)(f:Mut (H a))(g:BQ a s.heap c)(h:∃ q,c.get? a=Kh q)(new:uL X.prog X.w (upd H a ob) c a ob) :
  Inv X Kl σ (upd H a ob) { s with heap:=c,toks:=d } :=
 I.write (x:=a) (e:=a) f (.inl rfl) (λb q i z=>(g.2 b i).trans z) h new
def dm{g:Hp}{e:Ae}{c:List (Key×V)}(z:c.length<=sizeLine)(hd:(a == sysModules)=Kk)(rel:KV c d)(f:e.DictOf (yZ P w) a d) :
  uL P w g e a (.dK c):=⟨z,hd,d,rel,f⟩
def Ym{M:Hp}{Q:Unit->c8->Prop}(O:A.units+1<cLine)(I:Inv X Kl σ H s)(g:cR H a y v M)(C:xZ y u)(D:xZ v r)(h:∀ B,Inv X Kl σ M B->Q () B) :
  wpAny (model X.prog X.w) A (setItem (.ref a) u r) Q E s:=by
 rcases g with ⟨d,k,e,ey,l,p⟩ | ⟨d,k,b,e,ey,L,l,p⟩
 ·subst ey p;obtain⟨z,hd,N,rel,x⟩:=VU I.hok e;have j:N.length<=sizeLine:=by rw[<- rel.length]; rwa[z]
  have n:(qO d k v).length<=sizeLine:=by have:=zn d k v; lia
  erw[wpAny_setItem_pairs (hsz:=j) (gj C) x λG f m=>h _ ?_];have P:∃ q,G.get? a=Kh q:=let ⟨q,_,_,i,_⟩:=f;⟨q,i⟩;rwa[lS I (by rw[e]; exact x8) m P (dm n hd (rel.put k D) f)]
 ·subst ey p;cases (show u=r6 b from C);obtain⟨z,hd,xs,rel,x⟩:=Ra I.hok e;have j:xs.length<=sizeLine:=by rw[<- FE rel]; rwa[z]
  have n:(qO d k v).length<=sizeLine:=by have:=zn d k v; lia
  erw[wpAny_setItem_heap (hsz:=j) (tupleKind_room_in1 O) (gX I.hok L) x λG f m=>h _ ?_];obtain⟨q,R,S,i,h2,h3,h4,_,h5⟩:=f;erw[lS I (by rw[e]; rwa[x8]) m ⟨q,i⟩ ⟨n,hd,_,(rel.put k L D).keeps λc T J=>?_,q,R,S,i,h2,h3,h4,h5⟩];rw[zH (tR J e (λz=>nomatch z))];rwa[J]
end

section
variable{X:Cx}{Kl:List (b9×BP)}{σ:St}{H:Hp}{s:c8}{a:b9}{kvs:List (Key×V)}{k:Key}{u:c5}{A:Ad}{E:c5->c8->Prop}
def Pc{Q:Unit->c8->Prop}(I:Inv X Kl σ H s)(e:H a=Kh (.dK kvs))(i:xZ (kV k) u)(l:(tZ kvs k).isSome=Kj)(h:∀ f,Inv X Kl σ (upd H a (.dK (iK kvs k))) f->Q () f) :
  wpAny (model X.prog X.w) A (delItem (.ref a) u) Q E s:=by
 obtain⟨z,hd,g,rel,d⟩:=VU I.hok e;refine wpAny_delItem_slot d.typeIs (by decide) Fj
  (call_meetsIn Fj d.typeIs PySem.F.entry_dict_delitem (PySem.F.args_dict_delitem_2 _ _) (meets_dict_delitem_pairs (yZ X.prog X.w) a (gj i)) ⟨g,d,by rw[<- rel.length]; exact z,by rw[<- (rel.val k).isSome_eq]; exact l,λn c j=>h _ ?_⟩)
 have m:∃ q,n.get? a=Kh q:=let ⟨q,_,_,hq,_⟩:=c;⟨q,hq⟩;rwa[lS I (by rw[e]; exact x8) j m (dm (g7 (bI kvs k) z) hd (rel.drop k) c)]
def d_pop{more:List c5}{Q:c5->c8->Prop}(I:Inv X Kl σ H s)(e:H a=Kh (.dK kvs))(f:xZ (kV k) u)(l:tZ kvs k=Kh v)(n:more=[]\/∃ x,more=[x])
  (h:∀ c m,Inv X Kl σ (upd H a (.dK (iK kvs k))) m->xZ v c->Q c m):wpAny (model X.prog X.w) A (call (.builtin "dict.pop") (.ref a::u::more)) Q E s:=by
 obtain⟨z,hd,j,rel,p⟩:=VU I.hok e;obtain⟨c,r,g⟩:=gB.some_of (v:=v) (o:=valueAt j k) (by rw[<- l]; exact rel.val k);have B:(keyPart u).isSome=true:=by
  cases k with
  | inl i=>obtain⟨t,q⟩:=(show ∃ t,u=Cj i t from f); subst q; rfl
  | inr x=>obtain⟨t,q⟩:=(show ∃ t,u=DP x t from f); subst q; rfl
 have D:argsOk "dict.pop" ⟨.ref a::u::more,[]⟩:=by
  rcases n with q | ⟨x,q⟩
  ·subst q; rwa[PySem.F.args_dict_pop_2 _ _]
  ·subst q; rwa[PySem.F.args_dict_pop_3 _ _ _]
 refine call_meetsIn Gq p.typeIs PySem.F.entry_dict_pop D (meets_dict_pop_there (yZ X.prog X.w) a (gj f) more n B)
  ⟨j,c,p,by rw[<- rel.length]; exact z,r,λG d y=>h c _ ?_ g⟩
 have C:∃ q,G.get? a=Kh q:=let ⟨q,_,_,hq,_⟩:=d;⟨q,hq⟩;rwa[lS I (by rw[e]; exact x8) y C (dm (g7 (bI kvs k) z) hd (rel.drop k) d)]
def d_len{Q:c5->c8->Prop}(I:Inv X Kl σ H s)(e:Rd H a (.dK kvs))(h:∀ t c,Inv X Kl σ H c->Q (.int kvs.length t) c):wpAny (model X.prog X.w) A (call (.builtin "len") [.ref a]) Q E s:=by
 obtain⟨z,hd,f,rel,d⟩:=iQ I.hok e;refine call_len_dict hd d (by rw[<- rel.length]; rw[sizeLine_eq] at z; lia) ?_;rw[<- rel.length];rwa[h _ _ (I.tok _)]
end


def Oo(i:AD):Prop:=∀ c d,subscripted i Kk c d=operate [c,d] (getItem c d)
def cU{E:c5->c8->Prop}{T id:String}{Q:c5->c8->Prop}
  (p:typeLookup (.type T) "__getitem__" = pure (Kh (.builtin id))) (n:Oo slice)
  (h:wpAny (model prog w) A (eval value env) (λo f=>wpAny (model prog w) A (eval slice env) (λi c=>c.TypeIs o T/\wpAny (model prog w) A (getItem o i) Q E c) E f) E s) :
  wpAny (model prog w) A (eval (.Subscript value slice pos) env) Q E s:=by
 refine Ha (BC h (λo f l=>BC l (λi c d=>?_) λ_ _ x=>x) λ_ _ x=>x);obtain⟨m,d⟩:=d;unfold subscriptTail;refine b7 ?_;rw[getitemInPython_of_ne m.not_modules];refine b7 (Iw m p ?_);have g:wpAny (model prog w) A (subscripted slice Kk o i) (λr e=>wpAny (model prog w) A (letTemporaryGo value o r >>= λ_=>pure r) Q E e) E c:=by
  rw[n o i];rwa[wpAny_operating (BC d (λr e j=>b7 (wpAny_letTemporaryGo (d9 j))) λ_ _ x=>x)]
 first
  | exact d9 (b7 g)
  | exact b7 (d9 (b7 g))
  | exact b7 g

def cZ{f:St}{H:Hp}(I:Inv X h f H s)(g:YL H a y o):s.TypeIs (.ref a) "dict" := by
 rcases g with ⟨c,k,e,_,_⟩ | ⟨c,k,b,e,_,_,_⟩
 ·obtain⟨_,_,i,_,d⟩:=iQ I.hok e;rwa[d.typeIs]
 ·obtain⟨_,_,xs,_,d⟩:=ZM I.hok e;rwa[d.typeIs]
def tDGet(e ty:TE):TE:=λc H Q=>e c H λx f=>ty c f λy d=>E2 λa v=>A3 (x=.ref a) (YL d a y (Kh v)) (Q v d)
def tDIn(ty e:TE):TE:=λc H Q=>ty c H λy f=>e c f λx d=>E2 λa o=>A3 (x=.ref a) (YL d a y o) (Q (.bl o.isSome) d)
def SG(ty e:TE):TE:=λc H Q=>ty c H λy f=>e c f λx d=>E2 λa o=>A3 (x=.ref a) (YL d a y o) (Q (.bl (!o.isSome)) d)
def sDPut(f ty e:TE):TS:=λD c H=>e c H λv i=>f c i λx h=>ty c h λy g=>E2 λa d=>A3 (x=.ref a) (cR g a y v d) (D.nx c d)
section
variable{X:Cx}{o i e value:AD}{pos pos' tpos:Ea}{td ty tv:TE}
def zX(r:X.A.units+1<cLine)(z:PE X o td)(hi:PE X i ty)(w:Oo i):PE X (.Subscript o i pos) (tDGet td ty):=by
 intro f s d H Q I h;erw[cU Dq.lookup w (thn (z f s d H _ I h) λu l ⟨x,E,C,n,q⟩=>thn (hi f l d E _ C q) λM L ⟨y,D,j,m,a,v,ex,g,p⟩=>?_)];subst ex;obtain rfl:u=r6 a:=n;rwa[cZ j g,WE r j g m λG J B c=>⟨v,D,B,c,p⟩]
def Qp(q:X.A.units+1<cLine)(hi:PE X i ty)(r:PE X o td):PC X .In i o (tDIn ty td):=by
 intro d s c H Q I h;erw[thn (hi d s c H _ I h) λG f ⟨y,C,z,j,n⟩=>thn (r d f c C _ z n) λu E ⟨x,B,w,l,a,p,ex,g,m⟩=>?_];subst ex;obtain rfl:u=r6 a:=l;rwa[d_in q w g j λD v=>⟨.bl p.isSome,B,v,rfl,m⟩]
def df(q:X.A.units+1<cLine)(hi:PE X i ty)(r:PE X o td):PC X .NotIn i o (SG ty td):=by
 intro d s c H Q I h;erw[thn (hi d s c H _ I h) λG f ⟨y,C,z,j,n⟩=>thn (r d f c C _ z n) λu E ⟨x,B,w,l,a,p,ex,g,m⟩=>?_];subst ex;obtain rfl:u=r6 a:=l;rwa[RF q w g j λD v=>⟨.bl (!p.isSome),B,v,rfl,m⟩]
def qQ(B:X.A.units+1<cLine)(E:PE X o td)(hi:PE X i ty)(z:PE X value tv)(C:swapsWith value (Kh (.Subscript o i pos')) pos.line X.env=pure Kk) :
  PS X (.Assign [.Subscript o i pos'] value pos) (sDPut td ty tv):=by
 intro d s c H D I h;erw[wpAny_Assign_Subscript (thn (z d s c H _ I h) λr j ⟨v,P,M,n,w⟩=>thn (E d j c P _ M w) λu f ⟨x,O,L,m,q⟩=>thn (hi d f c O _ L q) λS R ⟨y,T,J,l,a,N,ex,g,p⟩=>?_) C];subst ex;obtain rfl:u=r6 a:=m;rwa[Ym B J g l n λQ G=>⟨c,N,G,p⟩]
end


def bM{H:Hp}(h:Ae)(c:sysModules<h.objs.size):uL P w H (h.push { cls:=.type "dict",data:=.dict #[] }) h.objs.size (.dK []) :=
 ⟨t9 _,x5.mpr (BA (m7 c)),[],.nil,Heap.DictOf.new h⟩
def UD{H:Hp}(h:Ae)(c:sysModules<h.objs.size):uL P w H (h.push { cls:=.type "dict",data:=.dict #[] }) h.objs.size (.dT []) :=
 ⟨t9 _,x5.mpr (BA (m7 c)),[],.nil,_,#[],0,i7 _ rfl,⟨rfl,rfl,rfl⟩,rfl,rfl,GH⟩
def QW:TE:=λ_ H Q=>∀ p,H p=Ki->Q (.ref p) (upd H p (.dK []))
def Qj:TE:=λ_ H Q=>∀ p,H p=Ki->Q (.ref p) (upd H p (.dT []))
section
variable{X:Cx}{pos:Ea}
def rH:PE X (.Dict [] [] pos) QW:=λd s c H Q I h =>
 HX ⟨.ref s.heap.objs.size,_,I.laid (a:=s.heap.objs.size) (o:=.dK []) (t':=s.toks) (λ_ _ q=>c9 _ q) (f6 _) (bM s.heap I.big),rfl,h _ (I.hok.fresh (f6 _))⟩
def io:PE X (.Dict [] [] pos) Qj:=λd s c H Q I h =>
 HX ⟨.ref s.heap.objs.size,_,I.laid (a:=s.heap.objs.size) (o:=.dT []) (t':=s.toks) (λ_ _ q=>c9 _ q) (f6 _) (UD s.heap I.big),rfl,h _ (I.hok.fresh (f6 _))⟩
end

def XU:List (TE×TE)->St->Hp->(List (V×V)->Hp->Prop)->Prop
 | [],_,H,Q=>Q [] H
 | (e,d)::r,c,H,Q=>e c H λx i=>d c i λy h=>XU r c h λf g=>Q ((x,y)::f) g
abbrev VV:List (V×V)->List (c5×c5)->Prop:=HK λp q=>xZ p.1 q.1/\xZ p.2 q.2
def PPs(X:Cx)(pos:Ea)(keys:List (Option AD))(c:List AD)(e:List (TE×TE)):Prop :=
 ∀(g:List (b9×BP))(s:c8)(d:St)(H:Hp)(Q:List (V×V)->Hp->Prop),Inv X g d H s->XU e d H Q ->
  wpAny (model X.prog X.w) X.A (evalPairs (pairTrees keys c X.env pos)) (λi j=>∃ f h,Inv X g d h j/\VV f i/\Q f h) X.xe s
def Yh : PPs X pos [] [] []:=λd s c H Q I h=>pairTrees_nil_walk ⟨[],H,I,.nil,h⟩
def vS{i g:TE}(B:PE X k i)(z:PE X v g)(A:PPs X pos j f c) :
  PPs X pos (Kh k::j) (v::f) ((i,g)::c):=λe s d H Q I h =>
 pairTrees_cons_walk (thn (B e s d H _ I h) λu m ⟨x,L,E,o,r⟩=>thn (z e m d L _ E r) λN l ⟨y,J,D,n,q⟩ =>
  thn (A e l d J _ D q) λM O ⟨w,G,C,rel,p⟩=>⟨(x,y)::w,G,C,.cons ⟨o,n⟩ rel,p⟩)

def mM(c more:List (Key×V)):List (Key×V):=more.foldl (λd e=>qO d e.1 e.2) c
def KV.merge:∀{more:List (Key×V)}{d:List (Key×c5)}{c:List (Key×V)}{vs:List (Key×c5)},KV more d->KV c vs->KV (mM c more) (merged vs d):=by
 intro more d c vs r;unfold KV at r
 induction r generalizing c vs with
 | nil=>intro q; rwa[q]
 | @cons p q j i h t g =>
  intro f;have e:KV (qO c p.1 p.2) (stored vs q.1 q.2):=by
   have:=f.put p.1 h.2;rw[<- h.1]; rwa[this]
  rwa[g e]
def tu:∀(more c:List (Key×V)),(mM c more).length<=c.length+more.length
 | [],c=>by show c.length<=c.length+0; lia
 | p::r,c=>by
  have h1:=tu r (qO c p.1 p.2);have h2:=zn c p.1 p.2;show(mM (qO c p.1 p.2) r).length<=_;rw[f9]; lia
def jU : ∀{d:List (Key×V)}{f:List (c5×c5)},VV (d.map λg=>(kV g.1,g.2)) f->∃ e,Carries (yZ P w) f e/\KV d e
 | [],_,r=>by rw[ED] at r; cases r; rwa[[],x8,.nil]
 | p::d,_,r=>by
  rw[i4] at r;cases r with
  | @cons a b as bs h t =>
   obtain⟨e,c,q⟩:=jU (P:=P) (w:=w) t;obtain⟨j,i⟩:=b;rwa[(p.1,i)::e,⟨gj h.1,rfl,c⟩,.cons ⟨rfl,h.2⟩ q]
def tDisp(d:List (TE×TE)):TE:=λg H Q=>∀ p,H p=Ki->XU d g (upd H p (.dK [])) λh f=>f p=Kh (.dK [])/\∃ c:List (Key×V),A3 (h=c.map (λe=>(kV e.1,e.2))) (c.length<=15) (Q (.ref p) (upd f p (.dK (mM [] c))))
def YA(h:PPs X pos keys d f)(i:keys.all (·.isSome)=Kj)(C:keys.length=d.length)(h0:keys≠[])
  (l:keys.length<=15):PE X (.Dict keys d pos) (tDisp f):=by
 intro J s p H Q I q;have B:=I.hok.fresh (f6 s.heap.objs.size);have L:=I.laid (a:=s.heap.objs.size) (o:=.dK []) (h':=s.heap.push { cls:=.type "dict",data:=.dict #[] }) (t':=s.toks) (λ_ _ q=>c9 _ q) (f6 _) (bM s.heap I.big);refine wpAny_Dict_walk (knd:=yZ X.prog X.w) i C h0 l (thn (h J _ p _ _ L (q _ B)) λM N ⟨O,R,n,rel,e,g,E,lk,x⟩=>?_);subst E;obtain⟨u,c,rk⟩:=jU (P:=X.prog) (w:=X.w) rel;obtain⟨z,hd,r,v,G⟩:=VU n.hok e;cases v;refine⟨u,c,G,λm j A=>⟨.ref s.heap.objs.size,_,?_,U,x⟩⟩;have y:(mM [] g).length<=sizeLine:=by
  have h1:=tu g [];rw[Ao] at h1;rw[sizeLine_eq]; lia
 have D:∃ q,m.get? s.heap.objs.size=Kh q:=let ⟨q,_,_,hq,_⟩:=j;⟨q,hq⟩;rwa[lS n (by rw[e]; exact x8) A D (dm y hd (rk.merge .nil) j)]



end L2

namespace L2
def Yw(h:Ae)(a:b9)(rows:Array C4)(c:Nat):Prop:=∃ ob,h.get? a=Kh ob/\ob.ExactDict/\ob.data=.dict rows c
def Yw.at{h d:Ae}{c:Nat}(x:Yw h a rows c)(e:∀ ob,h.get? a=Kh ob->d.get? a=Kh ob):Yw d a rows c:=let ⟨ob,g,r⟩:=x;⟨ob,e _ g,r⟩
def Yw.typeIs{z:c8}{d:Nat}(x:Yw z.heap a rows d):z.TypeIs (.ref a) "dict" := let ⟨ob,g,c,_⟩:=x;⟨ob,g,c.1⟩
section
variable{prog:j9}{w:o9}{A:Ad}{E:c5->c8->Prop}{z:c8}{it a:b9}{rows:Array C4}{age k:Nat}
def bR{R:c5->c8->Prop}(d:(a == sysModules)=Kk)(x:Yw z.heap a rows age)(e:R (.ref z.heap.objs.size) { z with heap:=z.heap.push { cls:=.type "dict_keyiterator",data:=.fields #[.ref a,.int 0 0,.int rows.size 0,.int age 0] } }) :
  wpAny (model prog w) A (pyIter (.ref a)) R E z:=by
 have ty:=x.typeIs;obtain⟨ob,g,_,c⟩:=x;erw[Fw ty HY (Ba HY ty F.entry_dict_iter ?walk (F.args_dict_iter_1 _))]
 case walk =>
  unfold Cw.«dict.__iter__» Jc;refine b7 (b7 (wpAny_notOrdered_dict ty (show wpAny _ _ (pure (r6 a)) _ _ z from d9 ?_)));show wpAny _ _ (Gr a >>= _) _ _ z;unfold Gr;rw[y6 (by rw[d]; decide)];erw[b7 (d9 (b7 (Fx g c (b7 (Gi g c ?_)))))];erw[b7 (AA (d9 ⟨_,rfl, "dict_keyiterator",_,⟨_,i7 _ rfl,rfl⟩,Br.lookup,?_⟩))];simpa [rawInt] using e
def bh{R:Option c5->c8->Prop}(i:z.heap.IsKeyIter it a k rows.size age)(x:Yw z.heap a rows age)(j:k<rows.size)
  (l:∀ h,h.IsKeyIter it a (k+1) rows.size age->BQ it z.heap h->R (Kh rows[k].key) { z with heap:=h }):wpAny (model prog w) A (pyNext (.ref it)) R E z:=by
 have ty:=i.typeIs;obtain⟨n,f,m,d⟩:=id i;obtain⟨ob,g,_,e⟩:=x;unfold pyNext;erw[b7 (DB (BZ (name:=CU "__next__") ty Br (Ba Br ty Ek ?walk (Ec _))))]
 case walk =>
  erw[b7 (d9 (b7 (b7 ?_)))]
  first | refine b7 (BX ty (d9 (b7 (Di f d ?_)))) | refine b7 (CH ty (d9 (b7 (Di f d ?_))))
  simp only[show Er "dict_keyiterator" = Kk by decide,Bt,if_false];show wpAny _ _ (if (r6 a == AW)=Kj then _ else _) _ _ z;rw[y6 (show ¬ ((r6 a == AW)=Kj) from l5)];erw[b7 (d9 (b7 (Fx g e ?_)))];rw[y6 (by simp)];erw[b7 (d9 (b7 (Gi g e ?_)))];rw[y6 (by simp)];erw[d9 ?_];simp only[show ¬ ((k:Int)<0) from by lia,if_false,j3,t6 j];erw[b7 ?_]
  first | refine b7 (BX ty (d9 (b7 (D7 ty ?_)))) | refine b7 (CH ty (d9 (b7 (D7 ty ?_))))
  show wpAny _ _ (setField (.ref it) 1 (rawInt ((k:Int)+1)) >>= _) _ _ z;refine b7 (Dj f d (by simp) ?_);have c:(z.heap.update it (Ch (·.setIfInBounds 1 (rawInt ((k:Int)+1))))).IsKeyIter it a (k+1) rows.size age :=
   ⟨_,C8 _ f (D8 (CV d _)),(Hr ..).trans m,by rw[CV d]; simp[rawInt]⟩
  refine b7 (BR (b7 (D7 (s:={ z with heap:=z.heap.update it (Ch (·.setIfInBounds 1 (rawInt ((k:Int)+1)))) }) c.typeIs ?_)));show wpAny _ _ (pure rows[k].key) _ _ _;rwa[d9 (d9 ⟨_,rfl,d9 (l _ c (Dx ..))⟩)]
def Ww{R:Option c5->c8->Prop}(j:A.handled=Ki)(f:z.heap.IsKeyIter it a k rows.size age)(x:Yw z.heap a rows age)(i:rows.size<=k)
  (l:∀ h,J2 it z.heap h->R Ki { z with heap:=h }):wpAny (model prog w) A (pyNext (.ref it)) R E z:=by
 have ty:=f.typeIs;obtain⟨n,d,o,e⟩:=id f;obtain⟨ob,g,_,c⟩:=x;unfold pyNext;erw[b7 (DB (BZ (name:=CU "__next__") ty Br (Ba Br ty Ek ?walk (Ec _))))]
 case walk =>
  erw[b7 (d9 (b7 (b7 ?_)))]
  first | refine b7 (BX ty (d9 (b7 (Di d e ?_)))) | refine b7 (CH ty (d9 (b7 (Di d e ?_))))
  simp only[show Er "dict_keyiterator" = Kk by decide,Bt,if_false];show wpAny _ _ (if (r6 a == AW)=Kj then _ else _) _ _ z;rw[y6 (show ¬ ((r6 a == AW)=Kj) from l5)];erw[b7 (d9 (b7 (Fx g c ?_)))];rw[y6 (by simp)];erw[b7 (d9 (b7 (Gi g c ?_)))];rw[y6 (by simp)];erw[d9 ?_];simp only[show ¬ ((k:Int)<0) from by lia,if_false,j3,CW i];erw[b7 ?_]
  first | refine b7 (BX ty (d9 ?_)) | refine b7 (CH ty (d9 ?_))
  show wpAny _ _ (setField (.ref it) 0 .none >>= _) _ _ z;refine b7 (Dj d e (by simp) (show wpAny _ _ (newExc (.type "StopIteration") [] >>= _) _ _ _ from b7 ?_));simp only[newExc,newTuple];refine b7 (AA (b7 (m:=firstArgMember _ _) (Io (a:=AW) (by first | rfl | (simp only[firstArgMember]; rfl)) (AA ?_ (by size_fits)))) (by size_fits));simp only[raiseNew];erw[b7 (wpAny_handled ?_)];rw[show A.in1.handled=Ki from j];erw[b7 (d9 (wpAny_throw ?_))];erw[b7 (FQ (T := "StopIteration") (b:=Kj) ⟨_,i7 _ rfl,rfl⟩ isSubtype_stop ?_)];rwa[d9 (l _ (((Dx ..).extBut.push _).push _))]
def WA(p:A.handled=Ki)(j:a≠it):Walks prog w A it [it,a] [it] rows.size (λi v=>∃ h:i<rows.size,v=rows[i].key) (λi h=>h.IsKeyIter it a i rows.size age/\Yw h a rows age) where
 sub:=λb c=>by simp at c; simp[c]
 frame:=λ_ _ _ st n=>⟨st.1.at λo e=>n it (by simp) o e,st.2.at λo e=>n a (by simp) o e⟩
 item:=λi s Q E hi st f=>bh st.1 st.2 hi λm g d =>
  f _ m s.toks ⟨hi,rfl⟩ ⟨g,st.2.at λo e=>d.extBut a o j e⟩ λb o c e=>d.extBut b o (λh=>c (by simp[h])) e
 done:=λs Q E st f=>Ww p st.1 st.2 (f6 _) λm l=>f m s.toks λb o c e=>l b o (λh=>c (by simp[h])) e
 self:=λ_ _ _ _ st f=>GI st.1 f
def Wb(d:(a == sysModules)=Kk):PySem.W.KdlSrc prog w "dict" a a rows.size (λi v=>∃ h:i<rows.size,v=rows[i].key) (λh=>Yw h a rows age) where
 type:=λ_ x=>x.typeIs
 there:=λ_ x=>let ⟨_,g,_⟩:=x;⟨i5 g,i5 g⟩
 keep:=λ_ _ x f=>x.at λo e=>f a (.inl rfl) o e
 notList:=by decide
 notTuple:=by decide
 hint:=λ_ _ _ _ x c=>PySem.W.kdl_hint_dict x.typeIs c
 iter:=λ_ s j x=>⟨_,_,(λ_ _ c=>bR d x c),WA j (let ⟨_,g,_⟩:=x; m7 (i5 g)),⟨⟨_,i7 _ rfl,rfl,rfl⟩,x.at λo e=>c9 _ e⟩⟩
end
section
variable{X:Cx}
def oa(hc:X.calm=Kj):uK X (.type "list") (λxs H Q=>E2 λ(d:b9) (i:List (List Key×V))=>A3 (xs=[.ref d]) (H d=Kh (.dT i)) (∀(p:b9)(E:List (b9×List Key)),H p=Ki->E.map (·.2)=i.map (·.1)->(∀ t∈E,H t.1=Kh (.tup (t.2.map kV)))->Q (.ref p) (upd H p (.lst ((E.map (·.1)).map V.ref))))):=by
 intro Kl s σ H xs us Q I r h;obtain⟨d,i,rfl,hd,q⟩:=h;obtain⟨u,rfl,ru⟩:=yW.one r;cases ru;obtain⟨G,J,n,rel,ob,O,D,g,ex,P,z,x⟩:=Ra I.hok hd;have m:O.size=n.length:=size_of_entries z;have l:i.length=n.length:=FE rel;refine HZ (Wb (rows:=O) (age:=D) J) (show X.A.handled=Ki from I.ok.hd hc) ⟨ob,g,ex,P⟩ (by rw[m,<- l]; exact G) λh' Y B c keep at' v=>?_;have C:B.toList=((n.map λy=>(y.2.1,y.1)).map (·.1)).map r6:=by
  erw[Db λj=>?_];by_cases N:j<n.length
  ·have S:j<B.size:=by rw[v.1,m]; rwa[N]
   obtain⟨M,e⟩:=v.2 j B[j] (by simp[S]);have ek:=entry_at z j;rw[t6 M,b8 N,AR] at ek;have ev:O[j].key=r6 n[j].2.1:=by rw[x6 ek]; rfl
   rw[AL,t6 S,e,ev,c7,c7,c7,b8 N];rfl
  ·rw[Be (by rw[j7,v.1,m]; lia),Be (by simp; lia)]
 have f:(n.map λy=>(y.2.1,y.1)).map (·.2)=i.map (·.1)/\∀ t∈n.map (λy=>(y.2.1,y.1)),H t.1=Kh (.tup (t.2.map kV)):=by
  clear z m l q C hd G x
  induction rel with
  | nil=>exact⟨rfl,λt Z=>nomatch Z⟩
  | @cons p y ps zs L t T =>
   erw[by rw[i4,i4,i4,T.1,L.1],λR w=>?_];rcases j5.mp w with e | w
   ·subst e;show H y.2.1=Kh (.tup (y.1.map kV));rw[<- L.1];rwa[L.2.1]
   ·rwa[T.2 R w]
 have fr:H s.heap.objs.size=none:=I.hok.fresh (f6 _);erw[.ref s.heap.objs.size,_,I.laid (t':=Y) (a:=s.heap.objs.size) (o:=.lst (((n.map λy=>(y.2.1,y.1)).map (·.1)).map V.ref)) keep (f6 _) ?_,rfl,q _ _ fr f.1 f.2];exists by rw[b5,b5,b5,<- l]; exact G,_,c,ui _;rw[<- C,El];rwa[at']
end
end L2

namespace Sea
abbrev Sd:=b9×Int×Int×Int
abbrev zS(c:List Sd):List V:=(c.map (·.1)).map V.ref
def jq(H:Hp)(c:List Sd):Prop:=∀ t∈c,H t.1=Kh (.tup [.int t.2.1,.int t.2.2.1,.int t.2.2.2])/\(t.2.1≠0\/t.2.2.1≠0)/\t.2.1.natAbs<=10^9/\t.2.2.1.natAbs<=10^9/\t.2.2.2.natAbs<=10^13
def jq.same{H e:Hp}(h:jq H c)(s:Same H e):jq e c:=λt d=>⟨s _ _ (h t d).1,(h t d).2⟩
def zQ(c:List Sd):(zS c).length=c.length:=by simp[zS]
def pO{i:Nat}(h:(zS c)[i]?=Kh v):∃ t,c[i]?=Kh t/\v=.ref t.1/\i<c.length:=by
 rw[c7,c7] at h;cases e:c[i]? with
 | none=>rw[e] at h; cases h
 | some t=>rw[e] at h; rwa[t,rfl,(x6 h).symm,(c6.mp e).1]
def uV{ss:List Sd}{i:Nat}{k:Int}(e:k=i)(h:i<ss.length):∃ t,t∈ss/\ss[i]?=Kh t/\atI (zS ss) k=Kh (.ref t.1):=by
 erw[ss[i],r9 h,b8 h,?_];rw[e];rwa[vF (by rw[c7,c7,b8 h] <;> rfl)]
def Sm(c:List Sd)(x y:Int):Bool:=c.all λt=>decide (t.2.1*x+t.2.2.1*y<=0)
def WK(c:List Sd)(n:Nat)(k:List Int):Prop:=∃ j t,j<n/\c[j]?=Kh t/\((k=qH [-t.2.2.1,t.2.1]/\Sm c (-t.2.2.1) t.2.1=Kj)\/(k=qH [t.2.2.1,-t.2.1]/\Sm c t.2.2.1 (-t.2.1)=Kj))
def UM{x y g:Int}(d:0<g):Sm ss (x*g) (y*g)=Sm ss x y:=by
 unfold Sm
 congr 1
 funext t
 erw[decide_eq_decide.mpr ?_];have e:t.2.1*(x*g)+t.2.2.1*(y*g)=(t.2.1*x+t.2.2.1*y)*g:=by rw[AE,AI,AI]
 rw[e];constructor
 ·intro h;by_cases c:t.2.1*x+t.2.2.1*y<=0
  ·rwa[c]
  ·have:=BY (show 0<t.2.1*x+t.2.2.1*y by lia) d;lia
 ·intro h;have:=z7 (show 0<=-(t.2.1*x+t.2.2.1*y) by lia) (v8 d);rw[AM] at this;lia
def way_low{x y:Int}(g:0<yR [x,y]):Sm c (x/(yR [x,y]:Int)) (y/(yR [x,y]:Int))=Sm c x y:=by
 have d:(0:Int)<(yR [x,y]:Int):=by lia
 have f:=xE (ns:=[x,y]) (n:=x) (by simp);have e:=xE (ns:=[x,y]) (n:=y) (by simp);have z:=UM (ss:=c) (x:=x/(yR [x,y]:Int)) (y:=y/(yR [x,y]:Int)) d;rw[f,e] at z;rwa[z.symm]
def qc(ns:List Int):List Key:=ns.map Dl
def vg(ns:List Int):(qc ns).map kV=ns.map V.int:=by
 unfold qc;rw[Ag];rfl
def iC(h:qc a=qc b):a=b:=by
 have z:=congrArg (List.map kV) h;rw[vg,vg] at z;rwa[jV z]
structure dL(kvs:List (List Key×V))(ks:List (List Int)):Prop where
 keys:kvs.map (·.1)=ks.map qc
 nodup:ks.Nodup
def dL.nil:dL [] []:=⟨rfl,GH⟩
def dL.put(h:dL d i)(k:List Int)(v:V):∃ j,dL (qO d (qc k) v) j/\(∀ x,x∈j↔x∈i\/x=k)/\j.length<=i.length+1:=by
 have p:∀ g∈d,∃ x∈i,g.1=qc x:=λg f=>by
  have z:g.1∈i.map qc:=by rw[<- h.keys]; rwa[t5 f]
  obtain⟨x,l,e⟩:=g9.mp z;rwa[x,l,e.symm]
 unfold qO;by_cases c:(d.any λg=>decide (g.1=qc k))=Kj
 ·rw[y7 c];obtain⟨g,f,e⟩:=Ed.mp c;obtain⟨x,l,ex⟩:=p g f;have m:x=k:=iC (ex.symm.trans (of_decide_eq_true e));erw[i,⟨?_,h.nodup⟩,λy=>⟨.inl,λz=>z.elim id λz=>by rw[z,<- m]; rwa[l]⟩,Bi _];rw[Ag,<- h.keys];erw[Dy λa _=>?_];show(if a.1=qc k then(a.1,v) else a).1=a.1;split <;> rfl
 ·rw[y6 c];have o:k ∉ i:=λq=>c (by
   have z:qc k∈d.map (·.1):=by rw[h.keys]; rwa[t5 q]
   obtain⟨g,f,e⟩:=g9.mp z;rwa[Ed.mpr ⟨g,f,y8 e⟩])
  erw[i++[k],⟨by rw[d5,d5,h.keys]; rfl,?_⟩,λy=>by rw[i9,e9],by rw[f8]; rwa[f6 _]];rw[DV];erw[h.nodup,by simp,λa r b n=>?_];rw[e9] at n;intro e;rwa[o (n ▸ e ▸ r)]
def dL.len(h:dL c d):c.length=d.length:=by
 have z:=congrArg z9 h.keys;(rw[b5,b5] at z;assumption)
def dL.refs{H:Hp}{f:List (b9×List Key)}(h:dL g c)(e:f.map (·.2)=g.map (·.1))(l:∀ t∈f,H t.1=Kh (.tup (t.2.map kV))) :
  ∃ d:List (b9×List Int),d.map (·.1)=f.map (·.1)/\d.map (·.2)=c/\∀ u∈d,H u.1=Kh (.tup (u.2.map V.int)):=by
 rw[h.keys] at e;clear h
 induction f generalizing c with
 | nil =>
  cases c with
  | nil=>exact⟨[],rfl,rfl,λu i=>nomatch i⟩
  | cons k c=>rwa[x4 e (by simp)]
 | cons t f n =>
  cases c with
  | nil=>rwa[x4 e (by simp)]
  | cons k c =>
   rw[i4,i4] at e;injection e with e1 e2
   obtain⟨d,h1,h2,h3⟩:=n e2 λm j=>l m (v9 _ j);erw[(t.1,k)::d,by rw[i4,i4,h1],by rw[i4,h2],λu i=>?_];rcases j5.mp i with rfl | i
   ·have z:=l t (o4 ..);rw[e1,vg] at z;rwa[z]
   ·rwa[h3 u i]
structure WaysAt(H:Hp)(l:b9)(ss:List Sd)(us:List (b9×List Int)):Prop where
 at':H l=Kh (.lst ((us.map (·.1)).map V.ref))
 all:∀ u∈us,H u.1=Kh (.tup (u.2.map V.int))
 rises:(us.map (·.2)).Pairwise (λa b=>HT.lexLt b a=Kk)
 nodup:(us.map (·.2)).Nodup
 mem:∀ k,k∈us.map (·.2)↔WK ss ss.length k
 few:us.length<=80
structure SdSt(H0:Hp)(D:b9)(ss:List Sd)(H:Hp):Prop where
 same:Same H0 H
 new:H0 D=Ki
 at':H D=Kh (.lst (zS ss))
 all:jq H ss
end Sea

namespace Sea
def vz{i j:Int}(h:i.natAbs<=10^18):RZ i j:=.inl ⟨by lia,by lia⟩
abbrev P3:=Int×Int×Int
abbrev wR(c:List (b9×P3)):List V:=(c.map (·.1)).map V.ref
def lF(H:Hp)(c:List (b9×P3)):Prop:=∀ t∈c,H t.1=Kh (.tup [.int t.2.1,.int t.2.2.1,.int t.2.2.2])/\0<t.2.2.2/\Ab (Ab t.2.1.natAbs t.2.2.1.natAbs) t.2.2.2.natAbs=1
def lF.same{H e:Hp}(h:lF H c)(s:Same H e):lF e c:=λt d=>⟨s _ _ (h t d).1,(h t d).2⟩
def sv(t p:P3):Int:=t.1*p.1+t.2.1*p.2.1-t.2.2*p.2.2
def tn(e s:P3):Int:=e.1*s.2.1-e.2.1*s.1
def dl(e p q:P3):Int:=e.1*(p.2.1*q.2.2-q.2.1*p.2.2)-e.2.1*(p.1*q.2.2-q.1*p.2.2)
def UX(a b u v X Y:Int):(a*a+b*b)*(u*X+v*Y)=(a*Y-b*X)*(a*v-b*u)+(a*X+b*Y)*(a*u+b*v):=by
 simp only[BH,Fy,CS,AE,o0,Au];lia
def lA(s p q:P3):sv s p*q.2.2-sv s q*p.2.2=s.1*(p.1*q.2.2-q.1*p.2.2)+s.2.1*(p.2.1*q.2.2-q.2.1*p.2.2):=by
 unfold sv;simp only[BH,Fy,AE,CS,o0,Au];lia
def WG(d:sv e p=0)(c:sv e q=0)(s:P3):(e.1*e.1+e.2.1*e.2.1)*(sv s p*q.2.2-sv s q*p.2.2)=dl e p q*tn e s:=by
 have z:=lA e p q;rw[d,c,z8,z8,JL] at z;rw[lA s p q,UX,<- z,z8,JM];rfl
def cF{x y h:Int}(c:h*h=1):(x*h)*(y*h)=x*y:=by
 have e:(x*h)*(y*h)=x*y*(h*h):=by simp only[o0,Au]
 rw[e,c,Fp]
def Wk{e p q:P3}{h:Int}(j:h*h=1)(l:0<e.1*e.1+e.2.1*e.2.1)(i:sv e p=0)(g:sv e q=0)(pw:0<p.2.2)(d:0<q.2.2)(s:P3)(f:(dl e p q*h)*(tn e s*h)<=0)(m:sv s q<=0):sv s p<=0:=by
 have k:=WG i g s;rw[<- cF (x:=dl e p q) (y:=tn e s) j] at k;rw[<- k] at f;have h1:sv s p*q.2.2-sv s q*p.2.2<=0:=by
  by_cases c:sv s p*q.2.2-sv s q*p.2.2<=0
  ·rwa[c]
  ·have:=BY l (show 0<sv s p*q.2.2-sv s q*p.2.2 by lia);lia
 have h2:sv s q*p.2.2<=0:=by
  have:=z7 (show 0<=-sv s q by lia) (v8 pw);rw[AM] at this;lia
 by_cases c:sv s p<=0
 ·rwa[c]
 ·have:=BY (show 0<sv s p by lia) d;lia
def ZH{e p q s:P3}{h:Int}(i:h*h=1)(j:0<e.1*e.1+e.2.1*e.2.1)(g:sv e p=0)(f:sv e q=0)(pw:0<p.2.2)(h0:sv s p=0)(l:sv s q<=0)(d:0<tn e s*h):0<=dl e p q*h:=by
 have k:=WG g f s;rw[h0,z8,<- cF (x:=dl e p q) (y:=tn e s) i] at k;have h2:0<=-sv s q*p.2.2:=z7 (by lia) (v8 pw);rw[AM] at h2;have h3:=z7 (v8 j) (show 0<=0-sv s q*p.2.2 by lia);rw[k] at h3;by_cases c:0<=dl e p q*h
 ·rwa[c]
 ·have:=BY (show 0 < -(dl e p q*h) by lia) d;rw[AM] at this;lia
def dl_le{e p q s:P3}{h:Int}(j:h*h=1)(l:0<e.1*e.1+e.2.1*e.2.1)(i:sv e p=0)(g:sv e q=0)(pw:0<p.2.2)(h0:sv s p=0)(d:0<sv s q)(f:0<tn e s*h):dl e p q*h<=0:=by
 have k:=WG i g s;rw[h0,z8,<- cF (x:=dl e p q) (y:=tn e s) j] at k;have h2:=BY d pw;have h3:=z7 (v8 l) (show 0<=sv s q*p.2.2 by lia);have h4:(e.1*e.1+e.2.1*e.2.1)*(0-sv s q*p.2.2) = -((e.1*e.1+e.2.1*e.2.1)*(sv s q*p.2.2)):=by rw[Int.zero_sub,Cf]
 rw[h4] at k;by_cases c:dl e p q*h<=0
 ·rwa[c]
 ·have:=BY (show 0<dl e p q*h by lia) f;lia
def pt3(l:List Int):P3:=match l with
 | [x,y,w]=>(x,y,w)
 | _=>(0,0,1)
def crL(e s:P3):List Int:=qH (upL (e.2.2*s.2.1-e.2.1*s.2.2) (e.1*s.2.2-e.2.2*s.1) (e.1*s.2.1-e.2.1*s.1))
def ftL(t:P3):List Int:=qH (upL (t.1*t.2.2) (t.2.1*t.2.2) (t.1*t.1+t.2.1*t.2.1))
structure YW(l:List Int)(p:P3):Prop where
 list:l=[p.1,p.2.1,p.2.2]
 pos:0<p.2.2
 low:Ab (Ab p.1.natAbs p.2.1.natAbs) p.2.2.natAbs=1
def ya(h:tn e s≠0):YW (crL e s) (pt3 (crL e s))/\sv e (pt3 (crL e s))=0/\sv s (pt3 (crL e s))=0:=by
 obtain⟨x,y,w,c,sp⟩:=iR (X:=e.2.2*s.2.1-e.2.1*s.2.2) (Y:=e.1*s.2.2-e.2.2*s.1) (W:=e.1*s.2.1-e.2.1*s.1) h;have d:crL e s=[x,y,w]:=c;rw[d];refine⟨⟨U,by have:=sp.pos; show 0<w; lia,sp.low⟩,?_,?_⟩
 ·have z:=iV (A:=e.1) (B:=e.2.1) (C:=e.2.2) h sp (Wl e.1 e.2.1 e.2.2 s.1 s.2.1 s.2.2);show e.1*x+e.2.1*y-e.2.2*w=0;lia
 ·have z:=iV (A:=s.1) (B:=s.2.1) (C:=s.2.2) h sp (Yq e.1 e.2.1 e.2.2 s.1 s.2.1 s.2.2);show s.1*x+s.2.1*y-s.2.2*w=0;lia
def oA{t:P3}(h:t.1≠0\/t.2.1≠0):0<t.1*t.1+t.2.1*t.2.1:=Tn h
def Vk{t:P3}(h:t.1≠0\/t.2.1≠0):YW (ftL t) (pt3 (ftL t))/\sv t (pt3 (ftL t))=0:=by
 have e:=oA h;obtain⟨x,y,w,c,sp⟩:=iR (X:=t.1*t.2.2) (Y:=t.2.1*t.2.2) (W:=t.1*t.1+t.2.1*t.2.1) (by lia);have d:ftL t=[x,y,w]:=c;rw[d];exists ⟨U,by have:=sp.pos; show 0<w; lia,sp.low⟩;have z:=iV (A:=t.1) (B:=t.2.1) (C:=t.2.2) (show t.1*t.1+t.2.1*t.2.1≠0 by lia) sp (by simp only[CS,o0,Au]);show t.1*x+t.2.1*y-t.2.2*w=0;lia
def inW(c:List Sd)(p:P3):Prop:=∀ t∈c,sv t.2 p<=0
def oM(c:List Sd)(e:P3)(h:Int):Option Nat->Prop
 | none=>∀ t∈c,tn e t.2*h<=0
 | some j=>∃ t,c[j]?=Kh t/\0<tn e t.2*h/\∀ u∈c,0<tn e u.2*h->sv u.2 (pt3 (crL e t.2))<=0
def xX{x h:Int}(h0:0<x*h):x≠0:=λz=>by rw[z,z8] at h0; rwa[x4 h0 (by decide)]
def QQ{e z:P3}{h:Int}{j:Nat}(i:h*h=1)(l:0<e.1*e.1+e.2.1*e.2.1)(f:sv e z=0)(n:0<z.2.2)(d:inW c z)(gt:c[j]?=Kh t)(h0:0<tn e t.2*h)(p:∀ u∈c,0<tn e u.2*h->sv u.2 (pt3 (crL e t.2))<=0):inW c (pt3 (crL e t.2)):=λu g=>by
 obtain⟨sp,m,c2⟩:=ya (xX h0);by_cases o:0<tn e u.2*h
 ·rwa[p u g o]
 ·have q:=ZH i l m f sp.pos c2 (d t (f7 gt)) h0;erw[Wk i l m f sp.pos n u.2 ?_ (d u g)];have:=z7 q (show 0<=-(tn e u.2*h) by lia);rw[Cf] at this;lia
def WP{e z p:P3}(l:0<e.1*e.1+e.2.1*e.2.1)(i:sv e z=0)(f:0<z.2.2)(g:inW c z)(j:sv e p=0)(pw:0<p.2.2)(n1:oM c e 1 Ki)(n2:oM c e (-1) Ki):inW c p:=λu d=>by
 have n:=n1 u d;have m:=n2 u d;rw[Fp] at n;have o:tn e u.2=0:=by
  rw[Cf,Fp] at m;lia
 erw[Wk (h:=1) (by decide) l j i pw f u.2 ?_ (g u d)];rw[o,z8,CY];rwa[Ci _]
end Sea

namespace L2
end L2
namespace Sea
def XA(h:tn e s≠0):crL e s=crL s e:=by
 unfold crL;have f:s.2.2*e.2.1-s.2.1*e.2.2 = -(e.2.2*s.2.1-e.2.1*s.2.2):=by rw[o0 s.2.2,o0 s.2.1]; lia
 have d:s.1*e.2.2-s.2.2*e.1 = -(e.1*s.2.2-e.2.2*s.1):=by rw[o0 s.1,o0 s.2.2]; lia
 have c:s.1*e.2.1-s.2.1*e.1 = -(e.1*s.2.1-e.2.1*s.1):=by rw[o0 s.1,o0 s.2.1]; lia
 rw[f,d,c,Sz (show e.1*s.2.1-e.2.1*s.1≠0 from h)]
end Sea

namespace Sea
def dP(e p q:P3):dl e p q = -dl e q p:=by
 unfold dl;simp only[BH];lia
def Qa{a b X Y:Int}(e:0<a*a+b*b)(h1:a*X+b*Y=0)(h2:a*Y-b*X=0):X=0/\Y=0:=by
 have d:(a*a+b*b)*X=a*(a*X+b*Y)-b*(a*Y-b*X):=by
  simp only[BH,CS,AE,o0,Au];lia
 have c:(a*a+b*b)*Y=b*(a*X+b*Y)+a*(a*Y-b*X):=by
  simp only[BH,CS,AE,o0,Au];lia
 rw[h1,h2,CY,CY] at d c;constructor
 ·rcases Cv.mp d with z | z
  ·lia
  ·rwa[z]
 ·rcases Cv.mp c with z | z
  ·lia
  ·rwa[z]
def jS{e p q:P3}(f:0<e.1*e.1+e.2.1*e.2.1)(d:sv e p=0)(c:sv e q=0)(hd:dl e p q=0):p.1*q.2.2=q.1*p.2.2/\p.2.1*q.2.2=q.2.1*p.2.2:=by
 have z:=lA e p q;rw[d,c,z8,z8,JL] at z;have w:=Qa f z.symm hd;lia
def jL{x y w e c v:Int}(i:0<v)(h1:x*v=e*w)(h2:y*v=c*w)(low:Ab (Ab x.natAbs y.natAbs) w.natAbs=1):w.natAbs ∣ v.natAbs:=by
 have h:w.natAbs ∣ v.natAbs*x.natAbs:=by
  rw[<- Cn,o0,h1,Cn];rwa[FR _ _]
 have g:w.natAbs ∣ v.natAbs*y.natAbs:=by
  rw[<- Cn,o0,h2,Cn];rwa[FR _ _]
 have f:w.natAbs ∣ v.natAbs*w.natAbs:=FR _ _;have d:=Il (Il h g) f;rw[Ia,Ia,low,JZ] at d;rwa[d]
def mK{p q:P3}(pp:0<p.2.2)(d:0<q.2.2)(lp:Ab (Ab p.1.natAbs p.2.1.natAbs) p.2.2.natAbs=1)(f:Ab (Ab q.1.natAbs q.2.1.natAbs) q.2.2.natAbs=1)(h1:p.1*q.2.2=q.1*p.2.2)(h2:p.2.1*q.2.2=q.2.1*p.2.2):p=q:=by
 have j:=jL d h1 h2 lp;have i:=jL pp h1.symm h2.symm f;have e:=Nat.dvd_antisymm j i;have c:p.2.2=q.2.2:=by lia
 rw[c] at h1 h2;have h:=Dh (by lia) h1;have g:=Dh (by lia) h2;rwa[GC h (GC g c)]
def Cor(c:List Sd)(P:P3):Prop:=∃ t∈c,∃ u∈c,tn t.2 u.2≠0/\P=pt3 (crL t.2 u.2)/\inW c P
def kZ(c:List Sd)(e:P3)(h:Int)(d:List P3):Prop:=oM c e h Ki\/∃(j:Nat)(t:Sd),c[j]?=Kh t/\0<tn e t.2*h/\(∀ u∈c,0<tn e u.2*h->sv u.2 (pt3 (crL e t.2))<=0)/\pt3 (crL e t.2)∈d
def kZ.app{h:Int}{d i:List P3}(f:kZ c e h d):kZ c e h (d++i):=by
 rcases f with f | ⟨j,t,g,p,a,m⟩
 ·rwa[.inl f]
 ·rwa[.inr ⟨j,t,g,p,a,Bg _ m⟩]
def Ry{c:List Sd}{e:P3}{s:Sd}{h:Int}(o:h*h=1)(q:0<e.1*e.1+e.2.1*e.2.1)(u:s∈c)(n:0<tn e s.2*h)(y:inW c (pt3 (crL e s.2)))(f:kZ c e h r):pt3 (crL e s.2)∈r:=by
 rcases f with f | ⟨j,t,g,p,a,m⟩
 ·have:=f s u;lia
 ·obtain⟨i,l,x⟩:=ya (xX n);obtain⟨d,r1,r2⟩:=ya (xX p);have D:=ZH o q l r1 i.pos x (a s u n) n;have B:=ZH o q r1 l d.pos r2 (y t (f7 g)) p;rw[dP,AM] at B;have C:dl e (pt3 (crL e s.2)) (pt3 (crL e t.2))*h=0:=by lia
  have A:dl e (pt3 (crL e s.2)) (pt3 (crL e t.2))=0:=by
   have z:dl e (pt3 (crL e s.2)) (pt3 (crL e t.2))*h*h=0:=by rw[C,z8]
   rw[AI,o,Fp] at z;rwa[z]
  obtain⟨w,v⟩:=jS q l r1 A;rw[mK i.pos d.pos i.low d.low w v];rwa[m]
def Rz{x:Int}(h:x≠0):∃ k:Int,(k=1\/k = -1)/\k*k=1/\0<x*k:=by
 by_cases c:0<x
 ·rwa[1,.inl rfl,by decide,by lia]
 ·rwa[-1,.inr rfl,by decide,by lia]
def VW(h:tn e s≠0)(i:e.1.natAbs<=10^9)(g:e.2.1.natAbs<=10^9)(f:e.2.2.natAbs<=10^13)(d:s.1.natAbs<=10^9)(c2:s.2.1.natAbs<=10^9)(c:s.2.2.natAbs<=10^13) :
  (pt3 (crL e s)).1.natAbs<=10^40/\(pt3 (crL e s)).2.1.natAbs<=10^40/\(pt3 (crL e s)).2.2.natAbs<=10^40:=by
 obtain⟨x,y,w,j,sp⟩:=iR (X:=e.2.2*s.2.1-e.2.1*s.2.2) (Y:=e.1*s.2.2-e.2.2*s.1) (W:=e.1*s.2.1-e.2.1*s.1) h;have l:crL e s=[x,y,w]:=j;rw[l];have r:=zT e.2.2 s.2.1 f c2;have q:=zT e.2.1 s.2.2 g c;have p:=zT e.1 s.2.2 i c;have o:=zT e.2.2 s.1 f d;have n:=zT e.1 s.2.1 i c2;have m:=zT e.2.1 s.1 g d;have z:=sp.xle;have v:=sp.yle;have u:=sp.wle;erw[?_,?_,?_]
 ·show x.natAbs<=10^40;lia
 ·show y.natAbs<=10^40;lia
 ·show w.natAbs<=10^40;lia
def au{d:Type}[DecidableEq d]:∀{xs ys:List d},xs.Nodup->(∀ a∈xs,a∈ys)->xs.length<=ys.length
 | [],_,_,_=>t9 _
 | x::xs,ys,g,h=>by
  have c:=DG.mp g;have m:x∈ys:=h x (o4 ..);have z:=au (ys:=ys.erase x) c.2 λa f=>by
   have ne:a≠x:=λe=>c.1 (by rw[<- e]; rwa[f]);exact(List.mem_erase_of_ne ne).mpr (h a (v9 _ f))
  have:=List.length_erase_of_mem m;have i:0<ys.length:=F9 m;rw[f9];lia
end Sea

namespace Sea
def ox(x:Int):Int:=if x<0 then -x else x
def vM(a b:Int):Int:=ox a+ox b
def kJ{a b:Int}(h:a≠0\/b≠0):0<vM a b:=by
 unfold vM ox;split <;> split <;> lia
def par{e1 e2 s1 s2:Int}(h:e1*s2=e2*s1)(e:e2*s2<=0):ox e2*s1+ox s2*e1=0:=by
 unfold ox;rw[o0 e1 s2] at h;by_cases c:e2<0
 ·rw[y7 c];by_cases d:s2<0
  ·have:=Fk c d;lia
  ·rw[y6 d,AM];lia
 ·rw[y6 c];by_cases d:s2<0
  ·rw[y7 d,AM];lia
  ·rw[y6 d];have z:e2*s2=0:=by
    have:=z7 (show 0<=e2 by lia) (show 0<=s2 by lia);lia
   rcases Cv.mp z with z | z
   ·rw[z,z8] at h;rw[z,z8,h];rfl
   ·rw[z,z8] at h;rw[z,z8,<- h];rfl
def Zj{x y:Int}(h:x+y<0)(e:0<=x*y):x<=0/\y<=0:=by
 by_cases d:x<=0
 ·by_cases c:y<=0
  ·rwa[d,c]
  ·by_cases f:x=0
   ·lia
   ·have:=BJ (show x<0 by lia) (show 0<y by lia);lia
 ·by_cases c:y<0
  ·have:=Fl (show 0<x by lia) c;lia
  ·lia
def sq_nn(x:Int):0<=x*x:=by
 by_cases h:0<=x
 ·rwa[z7 h h]
 ·rwa[v8 (Fk (by lia) (by lia))]
def UB{e s f P:P3}(o:tn e s=0)(x:0<e.1*e.1+e.2.1*e.2.1)(w:e.1≠0\/e.2.1≠0)(h:0<f.2.2)(pw:0<P.2.2)(h1:sv e f=0)(h2:0<sv s f)(h3:sv s P<=0)(h4:0<sv e P) :
  vM e.1 e.2.1*s.1+vM s.1 s.2.1*e.1=0/\vM e.1 e.2.1*s.2.1+vM s.1 s.2.1*e.2.1=0/\vM e.1 e.2.1*s.2.2+vM s.1 s.2.1*e.2.2<0:=by
 have p:=lA e P f;have z:=lA s P f;rw[h1,z8] at p;have p1:=BY h4 h;have p2:=BY h2 pw;have p3:sv s P*f.2.2<=0:=by
  have:=z7 (show 0<=-sv s P by lia) (v8 h);rw[AM] at this;lia
 have k:=UX e.1 e.2.1 s.1 s.2.1 (P.1*f.2.2-f.1*P.2.2) (P.2.1*f.2.2-f.2.1*P.2.2);rw[<- p,<- z,show e.1*s.2.1-e.2.1*s.1=0 from o,CY,Aw] at k;have n1:(e.1*e.1+e.2.1*e.2.1)*(sv s P*f.2.2-sv s f*P.2.2)<0:=Fl x (by lia);rw[k] at n1;have i:e.1*s.1+e.2.1*s.2.1<0:=by
  by_cases c:e.1*s.1+e.2.1*s.2.1<0
  ·rwa[c]
  ·have:=z7 (show 0<=sv e P*f.2.2-0 by lia) (show 0<=e.1*s.1+e.2.1*s.2.1 by lia);lia
 have j:e.1*s.2.1=e.2.1*s.1:=by unfold tn at o; lia
 have r:0<=(e.1*s.1)*(e.2.1*s.2.1):=by
  have y:(e.1*s.1)*(e.2.1*s.2.1)=(e.1*s.2.1)*(e.2.1*s.1):=by simp only[o0,Au]
  rw[y,<- j];rwa[sq_nn _]
 obtain⟨n,m⟩:=Zj i r;have E:=par (e1:=e.1) (e2:=e.1) (s1:=s.1) (s2:=s.1) rfl n;have D:=par (e1:=e.1) (e2:=e.2.1) (s1:=s.1) (s2:=s.2.1) j m;have C:=par (e1:=e.2.1) (e2:=e.1) (s1:=s.2.1) (s2:=s.1) j.symm n;have B:=par (e1:=e.2.1) (e2:=e.2.1) (s1:=s.2.1) (s2:=s.2.1) rfl m;have g:vM e.1 e.2.1*s.1+vM s.1 s.2.1*e.1=0:=by
  unfold vM;rw[AE,AE];lia
 have d:vM e.1 e.2.1*s.2.1+vM s.1 s.2.1*e.2.1=0:=by
  unfold vM;rw[AE,AE];lia
 exists g,d;have l:=kJ w;generalize vM e.1 e.2.1=u at g d l ⊢;generalize vM s.1 s.2.1=v at g d ⊢;have q:(u*s.2.2+v*e.2.2)*f.2.2=(u*s.1+v*e.1)*f.1+(u*s.2.1+v*e.2.1)*f.2.1-u*sv s f-v*sv e f:=by
  unfold sv;simp only[BH,CS,AE,o0,Au];lia
 rw[g,d,h1,z8,z8,CY] at q;have A:=BY l h2;by_cases c:u*s.2.2+v*e.2.2<0
 ·rwa[c]
 ·have:=z7 (show 0<=u*s.2.2+v*e.2.2 by lia) (v8 h);lia
structure Ox(ss:List Sd)(j:Nat)(e:Sd)(P:P3):Prop where
 at':ss[j]?=Kh e
 pos:0<P.2.2
 ahead:inW (ss.take j) P
 out:0<sv e.2 P
 no:∀ z:P3,sv e.2 z=0->0<z.2.2->¬ inW (ss.take j) z
def fL{e p f s:P3}(j:0<e.1*e.1+e.2.1*e.2.1)(g:sv e p=0)(i:sv e f=0)(pw:0<p.2.2)(l:0<f.2.2)(c:tn e s=0)(d:sv s f<=0):sv s p<=0:=by
 erw[Wk (h:=1) (by decide) j g i pw l s ?_ d];rw[c,z8,CY];rwa[Ci _]
def nL{x h:Int} : x * -h = -(x*h):=Cf _ _
def bn{e f:P3}{h:Int}(i:h*h=1)(x:0<e.1*e.1+e.2.1*e.2.1)(p:sv e f=0)(q:0<f.2.2)(no:∀ z:P3,sv e z=0->0<z.2.2->¬ inW g z)(d:∀ t∈g,tn e t.2=0->sv t.2 f<=0)(n:oM g e h Ki)(o:oM g e (-h) r):False:=by
 cases r with
 | none =>
  erw[no f p q λt m=>d t m ?_];have a:=n t m;have b:=o t m;rw[nL] at b;have z:tn e t.2*h=0:=by lia
  rcases Cv.mp z with z | z
  ·rwa[z]
  ·rw[z] at i;rwa[x4 i (by decide)]
 | some j =>
  obtain⟨t,gt,v,w⟩:=o;obtain⟨sp,s,c2⟩:=ya (xX v);erw[no _ s sp.pos λu l=>?_];by_cases c:0<tn e u.2 * -h
  ·rwa[w u l c]
  ·have a:=n u l;rw[nL] at c;have z:tn e u.2*h=0:=by lia
   rcases Cv.mp z with z | z
   ·rwa[fL x s p sp.pos q z (d u l z)]
   ·rw[z] at i;rwa[x4 i (by decide)]
def Sv{e f P:P3}{a b:Sd}{h:Int}(o:h*h=1)(r:0<e.1*e.1+e.2.1*e.2.1)(I:sv e f=0)(J:0<f.2.2)(no:∀ z:P3,sv e z=0->0<z.2.2->¬ inW g z)(s:∀ t∈g,tn e t.2=0->sv t.2 f<=0)
  (ma:a∈g) (H:b∈g) (m:0<tn e a.2*h) (q:0<tn e b.2 * -h) (E:∀ u∈g,0<tn e u.2*h->sv u.2 (pt3 (crL e a.2))<=0) (D:∀ u∈g,0<tn e u.2 * -h->sv u.2 (pt3 (crL e b.2))<=0)
  (pw:0<P.2.2) (v:inW g P) (G:0<sv e P) :
  0<tn b.2 e*h/\0<tn e a.2*h/\0<tn a.2 b.2*h/\(tn b.2 e*a.2.2.2+tn e a.2*b.2.2.2+tn a.2 b.2*e.2.2)*h<0:=by
 obtain⟨sa,l,Q⟩:=ya (xX m);obtain⟨w,x,O⟩:=ya (xX q);have j : -h * -h=1:=by rw[Int.neg_mul_neg]; rwa[o]
 have i:0<sv b.2 (pt3 (crL e a.2)):=by
  by_cases c:0<sv b.2 (pt3 (crL e a.2))
  ·rwa[c]
  ·erw[x4 ?_ (no _ l sa.pos)];have d:=ZH j r x l w.pos O (show sv b.2 (pt3 (crL e a.2))<=0 by lia) q;intro u n;by_cases N:0<tn e u.2*h
   ·rwa[E u n N]
   ·by_cases c2:0<tn e u.2 * -h
    ·erw[Wk j r l x sa.pos w.pos u.2 ?_ (D u n c2)];rw[dP,AM] ;have:=z7 d (v8 c2);rw[AM];lia
    ·rw[nL] at c2;have z:tn e u.2*h=0:=by lia
     rcases Cv.mp z with z | z
     ·rwa[fL r l I sa.pos J z (s u n z)]
     ·rw[z] at o;rwa[x4 o (by decide)]
 have A:0<tn b.2 e*h:=by
  rw[nL] at q;have z:tn b.2 e = -tn e b.2:=by unfold tn; rw[o0 b.2.1,o0 b.2.2.1]; lia
  rw[z,AM];lia
 have S:∀ z:P3,tn b.2 e*sv a.2 z+tn e a.2*sv b.2 z+tn a.2 b.2*sv e z = -((tn b.2 e*a.2.2.2+tn e a.2*b.2.2.2+tn a.2 b.2*e.2.2)*z.2.2):=λz=>by
  unfold tn sv;simp only[BH,Fy,CS,AE,o0,Au];lia
 have k1:=S (pt3 (crL e a.2));rw[l,Q,CY,CY,Aw,JM] at k1;have k2:=S P;generalize tn b.2 e*a.2.2.2+tn e a.2*b.2.2.2+tn a.2 b.2*e.2.2=M at k1 k2 ⊢;have m1:M*h<0:=by
  have p:=BY m i;have L:tn e a.2*h*sv b.2 (pt3 (crL e a.2)) = -(M*h*(pt3 (crL e a.2)).2.2):=by
   rw[o5,k1,AM,o5]
  rw[L] at p;by_cases c:M*h<0
  ·rwa[c]
  ·have:=z7 (show 0<=M*h by lia) (v8 sa.pos);lia
 refine⟨A,m,?_,m1⟩;have R:tn b.2 e*h*sv a.2 P+tn e a.2*h*sv b.2 P+tn a.2 b.2*h*sv e P = -(M*h*P.2.2):=by
  have z:(tn b.2 e*sv a.2 P+tn e a.2*sv b.2 P+tn a.2 b.2*sv e P)*h = -(M*P.2.2)*h:=by rw[k2]
  rw[AM,o5 M] at z;rw[<- z,AE,AE,o5,o5 (tn e a.2),o5 (tn a.2 b.2)]
 have C:=z7 (v8 A) (show 0<=-sv a.2 P by have:=v a ma; lia);have B:=z7 (v8 m) (show 0<=-sv b.2 P by have:=v b H; lia);have y:=BY (show 0 < -(M*h) by lia) pw;rw[Cf] at C B;rw[AM] at y;by_cases c:0<tn a.2 b.2*h
 ·rwa[c]
 ·have:=z7 (show 0<=-(tn a.2 b.2*h) by lia) (v8 G);rw[AM] at this;lia
def xV{x h:Int}(c:h=1\/h = -1)(d:0<x*h):ox x=x*h:=by
 unfold ox;rcases c with rfl | rfl
 ·rw[y6 (by lia)];lia
 ·rw[y7 (by lia)];lia
def ZD(a b e:P3):tn b e*a.1+tn e a*b.1+tn a b*e.1=0/\tn b e*a.2.1+tn e a*b.2.1+tn a b*e.2.1=0:=by
 unfold tn;constructor
 ·simp only[Fy,BH,o0,Au];lia
 ·simp only[Fy,BH,o0,Au];lia
def oJ(c:List Sd)(d:List (Int×Int)):Prop :=
 (∃(i j:Nat)(u v:Int)(s t:Sd),d=[((i:Int),u),((j:Int),v)]/\i<j/\c[i]?=Kh s/\c[j]?=Kh t/\0<u/\0<v/\u<=10^19/\v<=10^19 /\
  u*s.2.1+v*t.2.1=0/\u*s.2.2.1+v*t.2.2.1=0/\u*s.2.2.2+v*t.2.2.2<0) \/
 ∃(i j k:Nat)(u v x:Int)(s t r:Sd),d=[((i:Int),u),((j:Int),v),((k:Int),x)]/\i<j/\j<k/\c[i]?=Kh s/\c[j]?=Kh t/\c[k]?=Kh r/\0<u/\0<v/\0<x/\u<=10^19/\v<=10^19/\x<=10^19 /\
  u*s.2.1+v*t.2.1+x*r.2.1=0/\u*s.2.2.1+v*t.2.2.1+x*r.2.2.1=0/\u*s.2.2.2+v*t.2.2.2+x*r.2.2.2<0
def Om{x g:Int}(c:0<g)(h:x*g=0):x=0:=by
 rcases Cv.mp h with z | z
 ·rwa[z]
 ·lia
def n_of{x g:Int}(d:0<g)(h:x*g<0):x<0:=by
 by_cases c:x<0
 ·rwa[c]
 ·have:=z7 (show 0<=x by lia) (v8 d);lia
def Tf{ws:List Int}{n:Int}(h:n∈ws)(h0:0<n)(c:n<=10^30):0<yR ws/\(yR ws:Int)<10^600:=by
 exists wJ h (by lia);have h1:=pA h (show n≠0 by lia);exact E1 (show(yR ws:Int)<=10^30 by lia) (by ac_nf)
def lI{d:List Int}{n:Int}(h:n∈d)(h0:0<n):0<n/(yR d:Int)/\n/(yR d:Int)<=n:=by
 have f:=wJ h (show n≠0 by lia);have e:=xE h;have p:0<n/(yR d:Int):=by
  by_cases c:0<n/(yR d:Int)
  ·rwa[c]
  ·have:=z7 (show 0<=-(n/(yR d:Int)) by lia) (show(0:Int)<=(yR d:Int) by lia);rw[AM] at this;lia
 exists p;have:=Int.mul_le_mul_of_nonneg_left (show(1:Int)<=(yR d:Int) by lia) (v8 p);lia
def Yk{d:List Sd}{i j:Nat}{c V:Int}(f:i<j)(u:d[i]?=Kh s)(gt:d[j]?=Kh t)(r:0<c)(q:0<V)(y:c<=10^19)(x:V<=10^19)
  (p:c*s.2.1+V*t.2.1=0) (o:c*s.2.2.1+V*t.2.2.1=0) (n:c*s.2.2.2+V*t.2.2.2<0):oJ d ([(i:Int),(j:Int)].zip (qH [c,V])):=by
 have e:c∈[c,V]:=by simp
 have m:V∈[c,V]:=by simp
 have g:(0:Int)<(yR [c,V]:Int):=by have:=wJ e (show c≠0 by lia); lia
 have l:=lI e r;have h:=lI m q;have w:=xE e;have v:=xE m;have sum:∀ a b:Int,(c/(yR [c,V]:Int)*a+V/(yR [c,V]:Int)*b)*(yR [c,V]:Int)=c*a+V*b:=λa b=>by
  rw[AE,o5,w,o5,v]
 erw[.inl ⟨i,j,c/(yR [c,V]:Int),V/(yR [c,V]:Int),s,t,rfl,f,u,gt,l.1,h.1,BU l.2 y,BU h.2 x,?_,?_,?_⟩]
 ·rwa[Om g (by rw[sum]; exact p)]
 ·rwa[Om g (by rw[sum]; exact o)]
 ·rwa[n_of g (by rw[sum]; exact n)]
def bx{e:List Sd}{i j k:Nat}{d V X:Int}(h:i<j)(g:j<k)(A:e[i]?=Kh s)(gt:e[j]?=Kh t)(B:e[k]?=Kh r)(z:0<d)(y:0<V)(x:0<X)(I:d<=10^19)(H:V<=10^19)(G:X<=10^19)
  (w:d*s.2.1+V*t.2.1+X*r.2.1=0) (v:d*s.2.2.1+V*t.2.2.1+X*r.2.2.1=0) (u:d*s.2.2.2+V*t.2.2.2+X*r.2.2.2<0):oJ e ([(i:Int),(j:Int),(k:Int)].zip (qH [d,V,X])):=by
 have f:d∈[d,V,X]:=by simp
 have q:V∈[d,V,X]:=by simp
 have p:X∈[d,V,X]:=by simp
 have l:(0:Int)<(yR [d,V,X]:Int):=by have:=wJ f (show d≠0 by lia); lia
 have o:=lI f z;have n:=lI q y;have m:=lI p x;have E:=xE f;have D:=xE q;have C:=xE p;have sum:∀ a b c:Int,(d/(yR [d,V,X]:Int)*a+V/(yR [d,V,X]:Int)*b+X/(yR [d,V,X]:Int)*c)*(yR [d,V,X]:Int)=d*a+V*b+X*c:=λa b c=>by
  rw[AE,AE,o5,E,o5,D,o5,C]
 erw[.inr ⟨i,j,k,d/(yR [d,V,X]:Int),V/(yR [d,V,X]:Int),X/(yR [d,V,X]:Int),s,t,r,rfl,h,g,A,gt,B,o.1,n.1,m.1,BU o.2 I,BU n.2 H,BU m.2 G,?_,?_,?_⟩]
 ·rwa[Om l (by rw[sum]; exact w)]
 ·rwa[Om l (by rw[sum]; exact v)]
 ·rwa[n_of l (by rw[sum]; exact u)]
def sum2{u v:Int}{s t z:P3}(h1:u*s.1+v*t.1=0)(h2:u*s.2.1+v*t.2.1=0):u*sv s z+v*sv t z = -((u*s.2.2+v*t.2.2)*z.2.2):=by
 have e:u*sv s z+v*sv t z=(u*s.1+v*t.1)*z.1+(u*s.2.1+v*t.2.1)*z.2.1-(u*s.2.2+v*t.2.2)*z.2.2:=by
  unfold sv;simp only[BH,CS,AE,o0,Au];lia
 rw[e,h1,h2,z8,z8];lia
def sum3{u v x:Int}{s t r z:P3}(h1:u*s.1+v*t.1+x*r.1=0)(h2:u*s.2.1+v*t.2.1+x*r.2.1=0):u*sv s z+v*sv t z+x*sv r z = -((u*s.2.2+v*t.2.2+x*r.2.2)*z.2.2):=by
 have e:u*sv s z+v*sv t z+x*sv r z=(u*s.1+v*t.1+x*r.1)*z.1+(u*s.2.1+v*t.2.1+x*r.2.1)*z.2.1-(u*s.2.2+v*t.2.2+x*r.2.2)*z.2.2:=by
  unfold sv;simp only[BH,CS,AE,o0,Au];lia
 rw[e,h1,h2,z8,z8];lia
def vw{u x:Int}(c:0<u)(d:x<=0):u*x<=0:=by
 have:=z7 (v8 c) (show 0<=-x by lia);rw[Cf] at this;lia
def oJ.no(h:oJ p y)(z:P3)(o:0<z.2.2):¬ inW p z:=λc=>by
 rcases h with ⟨i,j,u,v,s,t,_,_,n,gt,m,l,_,_,g,f,d⟩ | ⟨i,j,k,u,v,x,s,t,r,_,_,_,n,gt,w,m,l,q,_,_,_,g,f,d⟩
 ·have e:=sum2 (z:=z) (s:=s.2) (t:=t.2) g f;have C:=vw m (c s (f7 n));have B:=vw l (c t (f7 gt));have A:=BJ d o;lia
 ·have e:=sum3 (z:=z) (s:=s.2) (t:=t.2) (r:=r.2) g f;have C:=vw m (c s (f7 n));have B:=vw l (c t (f7 gt));have D:=vw q (c r (f7 w));have A:=BJ d o;lia
def goB(d:List Sd):List (Int×Int)->Int->P3->Bool
 | [],_,T=>decide ([T.1,T.2.1]=[0,0])&&decide (T.2.2<0)
 | c::e,last,T=>if last<c.1/\c.1<d.length/\1<=c.2 then
   match d[c.1.toNat]? with
   | some t=>goB d e c.1 (T.1+c.2*t.2.1,T.2.1+c.2*t.2.2.1,T.2.2+c.2*t.2.2.2)
   | none=>Kk
  else Kk
def Yr(d:List Sd)(c:List (Int×Int)):Bool:=decide (2<=c.length)&&(decide (c.length<=3)&&goB d c (-1) (0,0,0))
def uv{c:List Sd}{n w last:Int}{d:List (Int×Int)}(h1:last<n)(h2:n<c.length)(h3:1<=w)(g:c[n.toNat]?=Kh t):goB c ((n,w)::d) last T=goB c d n (T.1+w*t.2.1,T.2.1+w*t.2.2.1,T.2.2+w*t.2.2.2):=by
 rw[goB,y7 ⟨h1,h2,h3⟩];show(match c[n.toNat]? with | some t=>goB c d n (T.1+w*t.2.1,T.2.1+w*t.2.2.1,T.2.2+w*t.2.2.2) | none=>Kk)=_;rw[g]
def oJ.b(h:oJ l n):Yr l n=true:=by
 rcases h with ⟨i,j,u,v,s,t,rfl,g,c,gt,p,o,_,_,f,e,d⟩ | ⟨i,j,k,u,v,x,s,t,r,rfl,g,q,c,gt,m,p,o,y,_,_,_,f,e,d⟩
 ·have hi:=(c6.mp c).1;have w:=(c6.mp gt).1;unfold Yr;rw[uv (t:=s) (by lia) (by lia) (by lia) (by rw[j3]; rwa[c]),uv (t:=t) (by lia) (by lia) (by lia) (by rw[j3]; rwa[gt]),goB];show(decide (2<=2)&&(decide (2<=3)&&(decide ([0+u*s.2.1+v*t.2.1,0+u*s.2.2.1+v*t.2.2.1]=[0,0])&&decide (0+u*s.2.2.2+v*t.2.2.2<0))))=Kj;rw[Aw,Aw,Aw,f,e,y8 d];rfl
 ·have hi:=(c6.mp c).1;have w:=(c6.mp gt).1;have z:=(c6.mp m).1;unfold Yr;rw[uv (t:=s) (by lia) (by lia) (by lia) (by rw[j3]; rwa[c]),uv (t:=t) (by lia) (by lia) (by lia) (by rw[j3]; rwa[gt]),uv (t:=r) (by lia) (by lia) (by lia) (by rw[j3]; rwa[m]),goB];show(decide (2<=3)&&(decide (3<=3)&&(decide ([0+u*s.2.1+v*t.2.1+x*r.2.1,0+u*s.2.2.1+v*t.2.2.1+x*r.2.2.1]=[0,0])&&decide (0+u*s.2.2.2+v*t.2.2.2+x*r.2.2.2<0))))=Kj;rw[Aw,Aw,Aw,f,e,y8 d];rfl
def oJ.range(h:oJ g e):(e.length=2\/e.length=3)/\∀ c∈e,0<=c.1/\c.1<g.length:=by
 rcases h with ⟨i,j,u,v,s,t,rfl,_,f,gt,_⟩ | ⟨i,j,k,u,v,x,s,t,r,rfl,_,_,f,gt,l,_⟩
 ·have h1:=(c6.mp f).1;have h2:=(c6.mp gt).1;erw[.inl rfl,λc d=>?_];simp only[j5,Bv,or_false] at d;rcases d with rfl | rfl
  ·exact⟨by show(0:Int)<=(i:Int); lia,by show(i:Int)<_; lia⟩
  ·exact⟨by show(0:Int)<=(j:Int); lia,by show(j:Int)<_; lia⟩
 ·have h1:=(c6.mp f).1;have h2:=(c6.mp gt).1;have h3:=(c6.mp l).1;erw[.inr rfl,λc d=>?_];simp only[j5,Bv,or_false] at d;rcases d with rfl | rfl | rfl
  ·exact⟨by show(0:Int)<=(i:Int); lia,by show(i:Int)<_; lia⟩
  ·exact⟨by show(0:Int)<=(j:Int); lia,by show(j:Int)<_; lia⟩
  ·exact⟨by show(0:Int)<=(k:Int); lia,by show(k:Int)<_; lia⟩
def oJ.own{d os:List Sd}(h:oJ d y)(g:∀ c∈y,∀ t,d[c.1.toNat]?=Kh t->t∈os)(z:P3)(w:0<z.2.2):¬ inW os z:=λf=>by
 rcases h with ⟨i,j,u,v,s,t,rfl,_,q,gt,p,o,_,_,n,m,l⟩ | ⟨i,j,k,u,v,x,s,t,r,rfl,_,_,q,gt,B,p,o,A,_,_,_,n,m,l⟩
 ·have e:=sum2 (z:=z) (s:=s.2) (t:=t.2) n m;have E:=vw p (f s (g ((i:Int),u) (by simp) s (by show d[(i:Int).toNat]?=_; rw[j3]; rwa[q])));have D:=vw o (f t (g ((j:Int),v) (by simp) t (by show d[(j:Int).toNat]?=_; rw[j3]; rwa[gt])));have C:=BJ l w;lia
 ·have e:=sum3 (z:=z) (s:=s.2) (t:=t.2) (r:=r.2) n m;have E:=vw p (f s (g ((i:Int),u) (by simp) s (by show d[(i:Int).toNat]?=_; rw[j3]; rwa[q])));have D:=vw o (f t (g ((j:Int),v) (by simp) t (by show d[(j:Int).toNat]?=_; rw[j3]; rwa[gt])));have G:=vw A (f r (g ((k:Int),x) (by simp) r (by show d[(k:Int).toNat]?=_; rw[j3]; rwa[B])));have C:=BJ l w;lia
def Oq(c:List Sd)(P:P3):Prop:=P=(0,0,1)\/(∃ t∈c,P=pt3 (ftL t.2))\/∃ t∈c,∃ u∈c,tn t.2 u.2≠0/\P=pt3 (crL t.2 u.2)
end Sea

namespace L2
open PySem PySem.Spec PyProof.Rows PySem.W
section
variable{X:Cx}
def gC:uK X (.builtin "sorted") (λxs H Q=>E2 λ(l:b9) (ns:List Int)=>A4 (xs=[.ref l]) (SqL X.K H l (ns.map V.int)) (ns.length<64) (∀(p:b9)(c:List Int),H p=Ki->c.Perm ns->c.Pairwise (·<=·)->Q (.ref p) (upd H p (.lst (c.map V.int))))):=by
 intro B s y H xs z Q I r h;obtain⟨l,ns,rfl,m,f,q⟩:=h;obtain⟨u,rfl,ru⟩:=yW.one r;cases ru;obtain⟨d,g,j,A⟩:=I.list m;have n:=g.length;rw[b5] at n;erw[sorted_ints (ns:=ns) j.isList (wj g) (by lia) λout c x i w=>?_];obtain⟨e,at'⟩:=sortedAll_at s.heap d out;have v:H (s.heap.objs.size+1)=none:=I.hok.fresh (Bi _);erw[.ref (s.heap.objs.size+1),_,I.laid (t':=s.toks) (a:=s.heap.objs.size+1) (o:=.lst (c.map V.int)) (λb ob q=>sortedAll_old q) (Bi _) ?_,rfl,q _ c v i w];refine⟨?_,out.toList,e,tf x,by simpa using at'⟩;rw[b5,i.length_eq];rwa[g7 (Bq f) (by rw[sizeLine_eq]; decide)]
end
def YG{ns:List Int}{i:Nat}{k:Int}(e:k=i)(h:i<ns.length):∃ n,ns[i]?=Kh n/\atI (ns.map V.int) k=Kh (.int n):=by
 erw[ns[i],b8 h,?_];rw[e];rwa[vF (by rw[c7,b8 h] <;> rfl)]
def Zd{a b:Int}{f:List Int}(h:f.Perm [a,b])(s:f.Pairwise (·<=·)):(f=[a,b]/\a<=b)\/(f=[b,a]/\b<=a):=by
 match f,h,s,h.length_eq with
 | [c,d],h,s,_ =>
  have le:c<=d:=by simpa using s
  have g:c∈[a,b]:=h.mem_iff.mp (o4 ..);rw[j5,e9] at g;rcases g with rfl | rfl
  ·have z:=EZ c |>.mp h
   have e:=GU.mp z;cases e;rwa[.inl ⟨rfl,le⟩]
  ·have z:=EZ c |>.mp (h.trans (List.Perm.swap c a []))
   have e:=GU.mp z;cases e;rwa[.inr ⟨rfl,le⟩]
def Tl(H:Hp)(c:List Pr):Prop:=∀ t∈c,H t.1=Kh (.tup [.int t.2.1,.int t.2.2])
def Tl.same{H d:Hp}(h:Tl H c)(s:Same H d):Tl d c:=λt e=>s _ _ (h t e)
end L2

namespace Sea
def dt(s g:P3):Int:=s.1*g.1+s.2.1*g.2.1
structure Bound(ss:List Sd)(g:P3):Prop where
 nz:∀ t∈ss,t.2.1≠0\/t.2.2.1≠0
 gz:g.1≠0\/g.2.1≠0
 ways:∀ t∈ss,∀ h:Int,(h=1\/h = -1)->(∀ s∈ss,tn t.2 s.2*h<=0)->tn t.2 g*h<=0
 lead:¬ ∀ s∈ss,dt s.2 g<=0
 one:∀ t∈ss,tn t.2 g=0->0<dt t.2 g->∀ P:P3,0<P.2.2->sv t.2 P=0->¬ inW ss P
end Sea

namespace L2
open PySem PySem.Spec PyProof.Rows PySem.W
def cut4{ok:b9->Int->Int->Hp->Prop}{G:Prop}{R:b9->Int->Int->Hp->Prop}(h1:(∀ p x y G,ok p x y G->R p x y G)->G)(h2:∀ p x y G,ok p x y G->R p x y G):G:=h1 h2
end L2

namespace L2

def Re(c:DR)(x:j4):Bool:=c.names.any λy=>y.1 == x&&y.2 == .cell
structure OwnScope(X:Cx)(caps:List (j4×Nat))(scope:DR):Prop where
 kind:scope.kind=.function
 dis:(scope.names.all λx=>!(x.2 == .free) || !Re scope x.1)=Kj
 loc:∀ y∈scope.names,y.2=.local->scope.names.lookup y.1=Kh .local
 clos:(scope.names.all λx=>!(x.2 == .free)||(X.env.cells.lookup x.1).isSome)=Kj
 cap:jn X scope caps
section
variable{X:Cx}{T:List j4}{caps:List (j4×Nat)}{scope:DR}{elt target iter:AD}{ifs:List AD}{pos cpos:Ea}{wi:TI}{g:CC->TG}{tt:CC->TT}{te:CC->TE}

def rEqE(K:b6):R2:=λx y H Q=>E3 λ(a b:b9) (c:List b9)=>A5 (x=.ref a) (y=.ref b) (SqL K H a (c.map V.ref)) (SqL K H b []) (Q (.bl c.isEmpty) H)
def UV(d:X.A.units<cLine):OpR X (compareOp .Eq) (rEqE X.K):=by
 intro z s n H x y v u Q I i f h;obtain⟨a,b,c,rfl,rfl,h1,h2,q⟩:=h;cases i;cases f;obtain⟨p,r1,p1,_⟩:=I.list h1;obtain⟨o,r2,p2,_⟩:=I.list h2;have m:=lh r1;have l:=yW.zero r2;subst m l;cases c with
 | nil =>
  erw[Ib (e:=λ_=>Kj) p1.isList p2.isList rfl d (λj g _=>x4 g (by simp)) X.prog X.w _ _ ?_];rwa[.bl Kj,H,I,rfl,q]
 | cons r c =>
  erw[FI p1.isList p2.isList (by simp) d X.prog X.w _ _ ?_];rwa[.bl Kk,H,I,rfl,q]
end
end L2

namespace Sea
def awB(N:Nat):List (Int×Int)->Int->Bool
 | [],_=>Kj
 | c::d,least=>if least<=c.1/\c.1<N/\1<=c.2 then awB N d (c.1+1) else Kk
def QO(c:List Sd)(f:Sd->Int)(n:Int):Int:=match c[n.toNat]? with
 | some t=>f t
 | none=>0
def SA(d:List Sd)(f:Sd->Int):List (Int×Int)->Int->Int
 | [],T=>T
 | c::e,T=>SA d f e (T+c.2*QO d f c.1)
def fAt(k:Int)(t:Sd):Int:=if k=0 then t.2.1 else if k=1 then t.2.2.1 else t.2.2.2
def ZU{i:Nat}(h:(zl c)[i]?=Kh v):∃ t,c[i]?=Kh t/\v=.ref t.1/\i<c.length:=by
 unfold zl at h;rw[c7,c7] at h;cases e:c[i]? with
 | none=>rw[e] at h; cases h
 | some t =>
  rw[e] at h;cases h;rwa[t,rfl,rfl,(c6.mp e).1]
structure PrSt(H0:Hp)(D:b9)(cs:List Pr)(H:Hp):Prop where
 same:Same H0 H
 new:H0 D=Ki
 at':H D=Kh (.lst (zl cs))
 all:Tl H cs
end Sea

namespace L2
def eW:bootBuiltins "sum" = Kh (.builtin "sum"):=by ac_nf
def jN(ns:List Int):∀ n,n<=ns.length->preSum (λi=>ns.getD i 0) n=(ns.take n).sum
 | 0,_=>by simp[preSum]
 | n+1,h=>by
  have c:n<ns.length:=h;rw[preSum,jN ns n (Bq c),o3,b8 c,List.sum_append];simp[List.getD,b8 c]
def lJ:∀{ns:List Int}{c:List c5},yW (ns.map V.int) c->∀(i:Nat)(v:c5),c[i]?=Kh v->∃ t,v=.int (ns.getD i 0) t
 | [],c,r,i,v,h=>by
  have e:=yW.zero r;subst e;simp at h
 | n::ns,c,r,i,v,h=>by
  cases r with
  | cons r1 r2 =>
   match i,h with
   | 0,h =>
    obtain⟨t,rfl⟩:=r1;rwa[t,(x6 h).symm]
   | i+1,h=>rwa[lJ r2 i v h]
section
variable{X:Cx}
def yx(g:X.calm=Kj):uK X (.builtin "sum") (λxs H Q=>E2 λ(p:b9) (ns:List Int)=>A3 (xs=[.ref p]) (SqL X.K H p (ns.map V.int)) (Q (.int ns.sum) H)):=by
 intro O s J H xs L Q I r h;obtain⟨p,ns,rfl,B,q⟩:=h;obtain⟨u,rfl,r1⟩:=lX r;cases r1;obtain⟨d,m,w,M⟩:=I.list B;have j:s.heap.IsList p d.toArray:=w.isList;have f:p<s.heap.objs.size:=by obtain⟨o,C,_⟩:=j; rwa[i5 C]
 have x:d.length=ns.length:=by
  have z:=m.length;rw[b5] at z;rwa[z.symm]
 refine call_sum_walkG (Da j ?_);refine⟨_,[_,p],[_],_,_,_,λi=>ns.getD i 0,U,IL (A:=X.A.in1) (I.ok.hd g) _ p (m7 f) d.toArray,
  ⟨⟨_,i7 _ rfl,rfl,rfl⟩,j.push _⟩,λc g=>?_,λi v y=>lJ m i v (by simpa using y),λN n l E=>?_⟩
 ·have sz:(s.heap.push { cls:=.type "list_iterator",data:=.fields #[.ref p,.int 0 0] }).objs.size=s.heap.objs.size+1:=BW ..;show c<(s.heap.push { cls:=.type "list_iterator",data:=.fields #[.ref p,.int 0 0] }).objs.size;rw[sz];simp only[j5,Bv,or_false] at g;rcases g with e | e
  ·rw[e]; rwa[Ck _]
  ·rw[e]; rwa[DW f]
 ·erw[.int ns.sum,H,I.kept (t':=n) λc o e=>E c o (λD=>?_) (c9 _ e),⟨l,?_⟩,q]
  ·have G:=e9.mp D;have z:=i5 e;rw[G] at z;rwa[BB _ z]
  ·have e:d.toArray.size=ns.length:=by simp[x]
   rw[e,jN ns ns.length (f6 _),i8]
end
end L2

namespace Sea
def RR(n:Nat)(d:List (Int×Int)):List (Int×Int):=d.filter λc=>decide (c.1<(n:Int))
structure Apart(ss es:List Sd)(cs:List (Int×Int)):Prop where
 out:∀ v:P3,0<v.2.2->inW es v->SA ss (fAt 2) (RR ss.length cs) 0*v.2.2<SA ss (fAt 0) (RR ss.length cs) 0*v.1+SA ss (fAt 1) (RR ss.length cs) 0*v.2.1
 ins:∀ v:P3,inW ss v->SA ss (fAt 0) (RR ss.length cs) 0*v.1+SA ss (fAt 1) (RR ss.length cs) 0*v.2.1<=SA ss (fAt 2) (RR ss.length cs) 0*v.2.2
 few:(∃ z:P3,0<z.2.2/\inW ss z)->(RR ss.length cs).length<=2
end Sea

namespace Sea
def bL{a b:Int}{m n:Nat}(h1:a.natAbs<=m)(h2:b.natAbs<=n):vM a b<=((m+n:Nat):Int):=by
 unfold vM ox;split <;> split <;> lia
structure PIb(t:TE)(σ:St)(i:Int)(n:Nat):Prop where
 rd:∀(H:Hp)(Q:VK),Q (.int i) H->t σ H Q
 le:i.natAbs<=n
abbrev Oy(xs:List (b9×List Pr)):List V:=(xs.map (·.1)).map V.ref
structure Leads(G:Hp)(lo:b9)(M:Nat)(xs:List (b9×List Pr)):Prop where
 at':G lo=Kh (.lst (Oy xs))
 all:∀ u∈xs,u.1≠lo/\G u.1=Kh (.lst (zl u.2))/\PrOk G M u.2
end Sea

namespace Sea
end Sea

namespace PyProof.Rows
abbrev YK:Bool->Ak->Array Ak->Nat->Nat->Nat->StateT t8 Fi (Option Nat):=sortPriv% PySem.Builtin.gallop
abbrev VB:Array Ak->Array Ak->StateT t8 Fi (Array Ak):=sortPriv% PySem.Builtin.mergeLo
abbrev Uv:Array Ak->Array Ak->StateT t8 Fi (Array Ak):=sortPriv% PySem.Builtin.mergeHi
def UE(prog:j9)(w:o9)(A:Ad)(s:c8)(d:Bw)(c:List Ak):Prop :=
 ∀ x y:Ak,x∈c->y∈c->∀ Q:Bool->c8->Prop,(∀ b,Q b s)->wpAny (model prog w) A (keyLt' d x.1 y.1) Q (λ_ _=>False) s
def uz(st c:t8):Prop:=kindOf c=kindOf st/\arrOf c=arrOf st/\pendingOf c=pendingOf st/\failedOf c=failedOf st
def uz.refl(st:t8):uz st st:=⟨rfl,rfl,rfl,rfl⟩
def uz.trans(h:uz a b)(k:uz b c):uz a c:=⟨k.1.trans h.1,k.2.1.trans h.2.1,k.2.2.1.trans h.2.2.1,k.2.2.2.trans h.2.2.2⟩
section
variable{prog:j9}{w:o9}{A:Ad}{E:c5->c8->Prop}{s:c8}{st:t8}{κ:Bw}{ys:List Ak}
def ud{c:Type}{m:Fi c}{Q:c->t8->Prop}(h:wpAny (model prog w) A m (λa d=>d=s/\Q a st) E s):wpS (model prog w) A E s (liftM m:StateT t8 Fi c) Q st:=by
 unfold wpS;show wpAny (model prog w) A ((StateT.lift m:StateT t8 Fi c).run st) _ E s;rw[StateT.run_lift];rwa[b7 (BC h (λa d f=>d9 f) λ_ _ e=>e)]
def dX(i:UE prog w A s κ ys)(g:kindOf st=κ){x y:Ak}(f:x∈ys)(d:y∈ys){Q:Option Bool->t8->Prop}(h:∀ b,Q (Kh b) st):wpS (model prog w) A E s (lt' x y) Q st:=by
 rw[lt'_eq];erw[wpS_bind (wpS_get ?_)];rw[g];erw[wpS_bind (ud (DB (BC (i x y f d (λb c=>c=s) λb=>rfl) (λb c e=>?_) λ_ _ e=>e.elim)))];rwa[e,wpS_pure (h b)]
def WD{c:Array Ak}{i:Nat}(hi:i<c.size){Q:Ak->t8->Prop}(h:Q c[i] st):wpS (model prog w) A E s (elem' c i) Q st:=by
 rw[elem'_eq,t6 hi];rwa[wpS_pure h]
def yB{d:Type}{c:Prop}[Decidable c]{m e:StateT t8 Fi d}{Q:d->t8->Prop}(h1:c->wpS (model prog w) A E s m Q st)(h2:¬ c->wpS (model prog w) A E s e Q st):wpS (model prog w) A E s (if c then m else e) Q st:=by
 split
 ·rwa[h1 (by assumption)]
 ·rwa[h2 (by assumption)]
def yN{c:Type}{x y:Nat}{m d:StateT t8 Fi c}{Q:c->t8->Prop}(h1:x=y->wpS (model prog w) A E s m Q st)(h2:x≠y->wpS (model prog w) A E s d Q st):wpS (model prog w) A E s (if (x == y)=Kj then m else d) Q st:=by
 refine yB (λe=>h1 (by simpa using e)) λe=>h2 (by simpa using e)
def zY{d:Type}{c:Array Ak}{i:Nat}(hi:i<c.size){f:Ak->StateT t8 Fi d}{Q:d->t8->Prop}(h:wpS (model prog w) A E s (f c[i]) Q st):wpS (model prog w) A E s (elem' c i >>= f) Q st:=wpS_bind (WD hi h)
def xF{g n:Type}{a b:Nat}{f:Nat->g->StateT t8 Fi (ForInStep g)}{k:g->StateT t8 Fi n}{R:n->t8->Prop}(I:Nat->g->t8->Prop)(Q:g->t8->Prop)
  (e:∀ i c st,a<=i->i<b->I i c st->wpS (model prog w) A E s (f i c) (λr d=>match r with | .done m=>Q m d | .yield m=>I (i+1) m d) st)
  (l:∀ c st,I (max a b) c st->Q c st) {c:g} (h:I a c st) (j:∀ c d,Q c d->wpS (model prog w) A E s (k c) R d):wpS (model prog w) A E s (forIn [a:b] c f >>= k) R st:=wpS_bind (wpS_mono (wpS_forRange (I:=I) (Q:=Q) e l h) j)
def qC{c:Type}{tag:String}{f:Unit->StateT t8 Fi c}{Q:c->t8->Prop}(h:wpS (model prog w) A E s (f ()) Q st):wpS (model prog w) A E s ((liftM (rule tag):StateT t8 Fi Unit) >>= f) Q st:=wpS_bind (ud (F3 ⟨rfl,h⟩))
def tW{c:Type}{f:t8->StateT t8 Fi c}{Q:c->t8->Prop}(h:wpS (model prog w) A E s (f st) Q st):wpS (model prog w) A E s ((get:StateT t8 Fi t8) >>= f) Q st:=wpS_bind (wpS_get h)
def rN{c:Type}{g:t8->t8}{f:PUnit->StateT t8 Fi c}{Q:c->t8->Prop}(h:wpS (model prog w) A E s (f ⟨⟩) Q (g st)):wpS (model prog w) A E s ((modify g:StateT t8 Fi PUnit) >>= f) Q st:=wpS_bind (wpS_modify h)
def YI{c:Type}(i:UE prog w A s κ ys)(g:kindOf st=κ){x y:Ak}(e:x∈ys)(d:y∈ys){f:Option Bool->StateT t8 Fi c}{Q:c->t8->Prop}(h:∀ b,wpS (model prog w) A E s (f (Kh b)) Q st):wpS (model prog w) A E s (lt' x y >>= f) Q st:=wpS_bind (dX i g e d h)
def Zz(D:UE prog w A s κ ys)(C:kindOf st=κ){left:Bool}{m:Ak}{p:Array Ak}{base n g:Nat}(u:m∈ys)(z:∀ i,i<n->∃ h:base+i<p.size,p[base+i]∈ys)(G:g<n)
  {Q:Option Nat->t8->Prop} (h:∀ k,k<=n->Q (Kh k) st):wpS (model prog w) A E s (YK left m p base n g) Q st:=by
 have j:∀(i:Nat),i<n->∀{B:Option Bool->t8->Prop},(∀ b,B (Kh b) st)->wpS (model prog w) A E s (do
   let x <- elem' p (base+i)
   if left=Kj then lt' x m else do
    let r <- lt' m x
    pure (Option.map (λx=>!x) r)) B st:=λi hi {B} q=>by
  obtain⟨h1,h2⟩:=z i hi;erw[zY h1 ?_];cases left with
  | true=>rwa[dX D C h2 u q]
  | false=>rwa[wpS_bind (dX D C u h2 λb=>wpS_pure (q _))]
 erw[wpS_bind (j g G λright=>?_)];dsimp only;cases right with
 | true =>
  simp only[if_true];erw[xF (I:=λ_ c d=>L2.E2 λl o=>d=st/\c=(Ki,l,o)) (Q:=λc d=>L2.E2 λl o=>d=st/\c=(Ki,l,o)) ?_ (λc d y=>y) ⟨_,_,rfl,rfl⟩ ?_]
  ·rintro i c d _ hi ⟨l,o,rfl,rfl⟩;dsimp only;split
   ·rwa[wpS_pure ⟨_,_,rfl,rfl⟩]
   ·erw[wpS_bind (j (g+o) (by lia) λb=>?_)];cases b with
    | true=>rwa[wpS_pure ⟨_,_,rfl,rfl⟩]
    | false=>rwa[wpS_pure ⟨_,_,rfl,rfl⟩]
  ·rintro c d ⟨l,o,rfl,rfl⟩;dsimp only;erw[xF (I:=λ_ c e=>L2.E2 λlo hi=>L2.A3 (e=d) (c=(Ki,lo,hi)) (hi<=n)) (Q:=λc e=>L2.E2 λlo hi=>L2.A3 (e=d) (c=(Ki,lo,hi)) (hi<=n)) ?_ (λc d y=>y) ⟨_,_,rfl,rfl,by lia⟩ ?_]
   ·rintro i c e _ hi ⟨lo,v,rfl,rfl,f⟩;dsimp only;split
    ·rwa[wpS_pure ⟨_,_,rfl,rfl,f⟩]
    ·erw[wpS_bind (j _ (by lia) λb=>?_)];cases b with
     | true=>rwa[wpS_pure ⟨_,_,rfl,rfl,f⟩]
     | false=>rwa[wpS_pure ⟨_,_,rfl,rfl,by lia⟩]
   ·rintro c e ⟨lo,v,rfl,rfl,f⟩;rwa[wpS_pure (h _ f)]
 | false =>
  simp only[Bt,if_false];erw[xF (I:=λ_ c d=>L2.E2 λl o=>d=st/\c=(Ki,l,o)) (Q:=λc d=>L2.E2 λl o=>d=st/\c=(Ki,l,o)) ?_ (λc d y=>y) ⟨_,_,rfl,rfl⟩ ?_]
  ·rintro i c d _ hi ⟨l,o,rfl,rfl⟩;dsimp only;split
   ·rwa[wpS_pure ⟨_,_,rfl,rfl⟩]
   ·erw[wpS_bind (j (g-o) (by lia) λb=>?_)];cases b with
    | true=>rwa[wpS_pure ⟨_,_,rfl,rfl⟩]
    | false=>rwa[wpS_pure ⟨_,_,rfl,rfl⟩]
  ·rintro c d ⟨l,o,rfl,rfl⟩;dsimp only;erw[xF (I:=λ_ c e=>L2.E2 λlo hi=>L2.A3 (e=d) (c=(Ki,lo,hi)) (hi<=n)) (Q:=λc e=>L2.E2 λlo hi=>L2.A3 (e=d) (c=(Ki,lo,hi)) (hi<=n)) ?_ (λc d y=>y) ⟨_,_,rfl,rfl,by lia⟩ ?_]
   ·rintro i c e _ hi ⟨lo,v,rfl,rfl,f⟩;dsimp only;split
    ·rwa[wpS_pure ⟨_,_,rfl,rfl,f⟩]
    ·erw[wpS_bind (j _ (by lia) λb=>?_)];cases b with
     | true=>rwa[wpS_pure ⟨_,_,rfl,rfl,f⟩]
     | false=>rwa[wpS_pure ⟨_,_,rfl,rfl,by lia⟩]
   ·rintro c e ⟨lo,v,rfl,rfl,f⟩;rwa[wpS_pure (h _ f)]
def pY{j:Type}(o:UE prog w A s κ ys)(l:kindOf st=κ){left:Bool}{d:Ak}{arr:Array Ak}{base n c:Nat}(e:d∈ys)(g:∀ i,i<n->∃ h:base+i<arr.size,arr[base+i]∈ys)(m:c<n)
  {f:Option Nat->StateT t8 Fi j} {Q:j->t8->Prop} (h:∀ k,k<=n->wpS (model prog w) A E s (f (Kh k)) Q st):wpS (model prog w) A E s (YK left d arr base n c >>= f) Q st:=wpS_bind (Zz o l e g m h)
end
structure nK(x y out:Array Ak)(ia ib:Nat):Prop where
 pm:out.toList.Perm (x.toList.take ia++y.toList.take ib)
 la:ia<=x.size
 lb:ib<=y.size
section
variable{x y out:Array Ak}{ia ib:Nat}
def fG{z:Array Ak}{i k:Nat}(h:i+k<=z.size):z.toList.take (i+k)=z.toList.take i++(z.extract i (i+k)).toList:=by
 rw[Cz,BL,Nat.add_sub_cancel_left,List.take_add]
def iN{z:Array Ak}{i:Nat}(h:i<z.size):z.toList.take (i+1)=z.toList.take i++[z[i]]:=by
 rw[Hs,b8 (by rw[j7]; rwa[h])];rfl
def nK.b(t:nK x y out ia ib)(h:ib<y.size):nK x y (out.push y[ib]) ia (ib+1):=by
 erw[?_,t.la,h];rw[CA,iN h,<- l9];rwa[t.pm.append_right _]
def nK.a(t:nK x y out ia ib)(h:ia<x.size):nK x y (out.push x[ia]) (ia+1) ib:=by
 erw[?_,h,t.lb];rw[CA,iN h];refine(t.pm.append_right _).trans ?_;rw[l9,l9];rwa[Al _ Bf]
def nK.as(t:nK x y out ia ib){k:Nat}(h:ia+k<=x.size):nK x y (out++x.extract ia (ia+k)) (ia+k) ib:=by
 erw[?_,h,t.lb];rw[Aa,fG h];refine(t.pm.append_right _).trans ?_;rw[l9,l9];rwa[Al _ Bf]
def nK.bs(t:nK x y out ia ib){k:Nat}(h:ib+k<=y.size):nK x y (out++y.extract ib (ib+k)) ia (ib+k):=by
 erw[?_,t.la,h];rw[Aa,fG h,<- l9];rwa[t.pm.append_right _]
def Xy(z:Array Ak)(i:Nat):(z.extract i z.size).toList=z.toList.drop i:=by
 rw[Cz,BL,Ax (by rw[Ai,j7]; rwa[f6 _])]
def nK.done(t:nK x y out ia ib):(out++x.extract ia x.size++y.extract ib y.size).toList.Perm (x.toList++y.toList):=by
 rw[Aa,Aa,Xy,Xy];have h:(x.toList++y.toList)=(x.toList.take ia++x.toList.drop ia)++(y.toList.take ib++y.toList.drop ib):=by rw[AH,AH]
 rw[h];refine((t.pm.append_right _).append_right _).trans ?_;simp only[l9];erw[Al _ ?_];rw[<- l9,<- l9];rwa[Bf.append_right _]
def nK.last(t:nK x y out ia ib):(out++y.extract ib y.size++x.extract ia x.size).toList.Perm (x.toList++y.toList):=by
 erw[Es ?_ t.done];rw[Aa,Aa,Aa,Aa,l9,l9];rwa[Al _ Bf]
end
section
variable{prog:j9}{w:o9}{A:Ad}{E:c5->c8->Prop}{s:c8}{st:t8}{κ:Bw}{ys:List Ak}
def jT{d:Type}{G:Prop}{code:Nat->StateT t8 Fi d}{P:Nat->t8->Prop}{Q:d->t8->Prop}(use:(∀ n c,P n c->wpS (model prog w) A E s (code n) Q c)->G)(H:∀ n c,P n c->wpS (model prog w) A E s (code n) Q c):G:=use H
def xf{c:Type}{G:Prop}{code:Array Ak->Nat->StateT t8 Fi c}{P:Array Ak->Nat->Prop}{Q:c->t8->Prop}(use:(∀ o n,P o n->wpS (model prog w) A E s (code o n) Q st)->G)(H:∀ o n,P o n->wpS (model prog w) A E s (code o n) Q st):G:=use H
def bu(ha:UE prog w A s κ ys)(hk:kindOf st=κ){a b:Array Ak}(hae:∀ u∈a.toList,u∈ys)(hbe:∀ u∈b.toList,u∈ys)(ha0:0<a.size)(L:0<b.size){Q:Array Ak->t8->Prop}
  (h:∀ out l,uz st l->out.toList.Perm (a.toList++b.toList)->Q out l):wpS (model prog w) A E s (VB a b) Q st:=by
 have am:∀ i,(hi:i<a.size)->a[i]∈ys:=λi hi=>hae _ (by rw[<- Bx]; rwa[r9 _]);have bm:∀ i,(hi:i<b.size)->b[i]∈ys:=λi hi=>hbe _ (by rw[<- Bx]; rwa[r9 _]);erw[qC ?_];erw[zY L ?_];have t0:nK a b #[b[0]] 0 1:=⟨by rw[iN L]; simp,t9 _,L⟩;erw[yN (λe=>?_) (λO=>?_)]
 ·rwa[wpS_pure (h _ _ (uz.refl _) t0.done)]
 erw[yN (λe=>?_) (λR=>?_)]
 ·rwa[wpS_pure (h _ _ (uz.refl _) t0.last)]
 have O:1<b.size:=DL L O;have R:1<a.size:=DL ha0 R;refine tW ?_;refine xF (I:=λi c l=>L2.E4 λout o n mg=>L2.A6 (uz st l) (c=(Ki,out,o,n,mg)) (nK a b out o n) (o+1<a.size) (n<b.size) (i+1<=o+n))
  (Q:=λc l=>L2.E5 λr out o n mg=>L2.A3 (uz st l) (c=(Kh r,out,o,n,mg)) (r.toList.Perm (a.toList++b.toList))) ?_ ?_ ⟨_,_,_,_,uz.refl _,rfl,t0,R,O,f6 _⟩ ?_
 ·rintro i c st1 _ hi ⟨out,o,n,mg,kp,rfl,q,la,lb,G⟩;refine xF (I:=λj c l=>L2.E5 λg d f D C=>L2.A6 (uz st l) (c=(Ki,g,d,f,D,C)) (nK a b g d f) (d+1<a.size) (f<b.size) (i+1+j<=d+f))
   (Q:=λc l=>L2.E6 λr g d f D C=>L2.A3 (uz st l) (c=(r,g,d,f,D,C)) ((∃ z,r=Kh z/\z.toList.Perm (a.toList++b.toList))\/(r=Ki/\nK a b g d f/\d+1<a.size/\f<b.size/\i+2<=d+f))) ?_ ?_ ⟨_,_,_,_,_,kp,rfl,q,la,lb,by lia⟩ ?_
  ·rintro j c st2 _ hj ⟨out,o,n,D,C,p,rfl,q,la,lb,G⟩;refine zY lb (zY (show o<a.size by lia) (YI ha (p.1.trans hk) (bm n lb) (am o (by lia)) λwin=>?_));cases win with
   | true =>
    erw[zY lb ?_];have m:=q.b lb;erw[yN (λe1=>?_) (λe1=>?_)]
    ·rwa[wpS_pure ⟨_,_,_,_,_,_,p,rfl,.inl ⟨_,rfl,m.done⟩⟩]
    ·have lb':n+1<b.size:=DL lb e1;erw[yB (λX=>?_) (λX=>?_)]
     ·rwa[wpS_pure ⟨Ki,_,o,n+1,0,C+1,p,rfl,.inr ⟨rfl,m,la,lb',by lia⟩⟩]
     ·rwa[wpS_pure ⟨_,o,n+1,0,C+1,p,rfl,m,la,lb',by lia⟩]
   | false =>
    refine zY (show o<a.size by lia) ?_;have m:=q.a (show o<a.size by lia);erw[yN (λe1=>?_) (λe1=>?_)]
    ·rwa[wpS_pure ⟨_,_,_,_,_,_,p,rfl,.inl ⟨_,rfl,m.last⟩⟩]
    ·have la':o+1+1<a.size:=DL la e1;erw[yB (λX=>?_) (λX=>?_)]
     ·rwa[wpS_pure ⟨Ki,_,o+1,n,D+1,0,p,rfl,.inr ⟨rfl,m,la',lb,by lia⟩⟩]
     ·rwa[wpS_pure ⟨_,o+1,n,D+1,0,p,rfl,m,la',lb,by lia⟩]
  ·rintro c st2 ⟨out,o,n,D,C,_,rfl,_,h1,h2,h3⟩;exfalso;have:a.size+b.size<=max 0 (a.size+b.size):=Ee _ _;lia
  ·rintro c st2 ⟨r,out,o,n,D,C,p,rfl,hr⟩;rcases hr with ⟨z,rfl,pm⟩ | ⟨rfl,q,la,lb,G⟩
   ·rwa[wpS_pure ⟨_,_,_,_,_,p,rfl,pm⟩]
   ·erw[qC ?_];erw[xF (I:=λ_ c l=>L2.E6 λg d f S Z Y=>L2.A6 (uz st l) (c=(Ki,g,d,f,S,Z,Y)) (nK a b g d f) (d+1<a.size) (f<b.size) (i+2<=d+f)) (Q:=λc l=>L2.E7 λr g d f S Z Y=>L2.A3 (uz st l) (c=(r,g,d,f,S,Z,Y)) ((∃ z,r=Kh z/\z.toList.Perm (a.toList++b.toList))\/(r=Ki/\nK a b g d f/\d+1<a.size/\f<b.size/\i+2<=d+f))) ?_ ?_ ⟨_,_,_,_,_,_,p,rfl,q,la,lb,G⟩ ?_]
    ·rintro j c N _ hj ⟨out,o,n,mg,D,C,x,rfl,q,la,lb,G⟩;dsimp only;revert mg;apply jT (prog:=prog) (w:=w) (A:=A) (E:=E) (s:=s) (P:=λ_ l=>uz st l)
     case use =>
      intro H mg;erw[yB (λe=>?_) (λe=>?_)];rotate_left
      ·rwa[H mg _ x]
      ·rwa[H _ _ x]
     clear x N;intro mg st4 v;erw[rN ?_];erw[zY lb ?_];erw[pY ha ?g0 ?g1 ?g2 ?g3 (λk1 hk1=>?_)]
     case g0=>rwa[v.1.trans hk]
     case g1=>rwa[bm _ lb]
     case g2=>exact(λi hi=>⟨by lia,am _ (by lia)⟩)
     case g3=>lia
     dsimp only;revert out o;apply xf (prog:=prog) (w:=w) (A:=A) (E:=E) (s:=s) (P:=λg d=>nK a b g d n/\d+1<a.size/\i+2<=d+n)
     case use =>
      intro H out o q la G hk1;erw[yB (λe=>?_) (λe=>?_)];rotate_left
      ·rwa[H out o ⟨q,la,G⟩]
      ·have m:=q.as (k:=k1) (by lia);erw[yN (λX=>?_) (λX=>?_)]
       ·rwa[wpS_pure ⟨_,_,_,_,_,_,_,v.trans ⟨rfl,rfl,rfl,rfl⟩,rfl,.inl ⟨_,rfl,m.last⟩⟩]
       erw[yN (λe3=>?_) (λe3=>?_)]
       ·rwa[wpS_pure ⟨_,_,_,_,_,_,_,v.trans ⟨rfl,rfl,rfl,rfl⟩,rfl,.inl ⟨_,rfl,m.done⟩⟩]
       rwa[H _ _ ⟨m,by lia,by lia⟩]
     rintro out d ⟨q,la,q5⟩;erw[zY lb ?_];have y:=q.b lb;erw[yN (λe=>?_) (λe=>?_)]
     ·rwa[wpS_pure ⟨_,_,_,_,_,_,_,v.trans ⟨rfl,rfl,rfl,rfl⟩,rfl,.inl ⟨_,rfl,y.done⟩⟩]
     have J:d<a.size:=by lia
     erw[zY J ?_];erw[pY ha ?g0 ?g1 ?g2 ?g3 (λk2 hk2=>?_)]
     case g0=>rwa[v.1.trans hk]
     case g1=>rwa[am _ J]
     case g2=>exact(λi hi=>⟨by lia,bm _ (by lia)⟩)
     case g3=>lia
     dsimp only;generalize out.push b[n]=B at y ⊢;clear q;have lb6:n+1<b.size:=by lia
     have q6:i+3<=d+(n+1):=by lia
     clear lb e q5;generalize n+1=T at *;revert B T;apply xf (prog:=prog) (w:=w) (A:=A) (E:=E) (s:=s) (P:=λg f=>nK a b g d f/\f<b.size/\i+3<=d+f)
     case use =>
      intro H;rintro B T
      intros
      rename_i hk2 y lb6 q6
      erw[yB (λe=>?_) (λe=>?_)];rotate_left
      ·rwa[H B T ⟨y,lb6,q6⟩]
      ·have m:=y.bs (k:=k2) (by lia);erw[yN (λX=>?_) (λX=>?_)]
       ·rwa[wpS_pure ⟨_,_,_,_,_,_,_,v.trans ⟨rfl,rfl,rfl,rfl⟩,rfl,.inl ⟨_,rfl,m.done⟩⟩]
       rwa[H _ _ ⟨m,by lia,by lia⟩]
     rintro out f ⟨q,lb7,q7⟩;erw[zY J ?_];have M:=q.a J;erw[yN (λe=>?_) (λe=>?_)]
     ·rwa[wpS_pure ⟨_,_,_,_,_,_,_,v.trans ⟨rfl,rfl,rfl,rfl⟩,rfl,.inl ⟨_,rfl,M.last⟩⟩]
     erw[yB (λe=>?_) (λe=>?_)]
     ·rwa[wpS_pure ⟨_,_,_,_,_,_,_,v.trans ⟨rfl,rfl,rfl,rfl⟩,rfl,.inr ⟨rfl,M,by lia,lb7,by lia⟩⟩]
     ·rwa[wpS_pure ⟨_,_,_,_,_,_,v.trans ⟨rfl,rfl,rfl,rfl⟩,rfl,M,by lia,lb7,by lia⟩]
    ·rintro c N ⟨out,o,n,mg,D,C,x,rfl,q,la,lb,G⟩;rwa[_,_,_,_,_,_,_,x,rfl,.inr ⟨rfl,q,la,lb,G⟩]
    ·rintro c N ⟨r,out,o,n,mg,D,C,x,rfl,hr⟩;rcases hr with ⟨z,rfl,pm⟩ | ⟨rfl,q,la,lb,G⟩
     ·rwa[wpS_pure ⟨_,_,_,_,_,x,rfl,pm⟩]
     ·erw[rN ?_];rwa[wpS_pure ⟨_,_,_,_,x.trans ⟨rfl,rfl,rfl,rfl⟩,rfl,q,la,lb,by lia⟩]
 ·rintro c l ⟨out,o,n,mg,_,rfl,_,h1,h2,h3⟩;exfalso;have:a.size+b.size<=max 0 (a.size+b.size):=Ee _ _;lia
 ·rintro c l ⟨r,out,o,n,mg,kp,rfl,pm⟩;rwa[wpS_pure (h _ _ kp pm)]
end
structure nN(x y out:Array Ak)(na nb:Nat):Prop where
 pm:out.toList.Perm (x.toList.drop na++y.toList.drop nb)
 la:na<=x.size
 lb:nb<=y.size
section
variable{x y out:Array Ak}{na nb:Nat}
def ir{z:Array Ak}{i:Nat}(h:0<i)(h2:i<=z.size):z.toList.drop (i-1)=z[i-1]'(by lia)::z.toList.drop i:=by
 have e:i-1<z.toList.length:=by rw[j7]; lia
 rw[AV e,show i-1+1=i by lia];rfl
def qy{z:Array Ak}{i k:Nat}(h:k<=i):z.toList.drop k=(z.extract k i).toList++z.toList.drop i:=by
 rw[Cz,BL];have e:=AH (i-k) (z.toList.drop k);rw[List.drop_drop,show k+(i-k)=i by lia] at e;rwa[e.symm]
def nN.a(t:nN x y out na nb)(h:0<na):nN x y (out.push (x[na-1]'(by have:=t.la; lia))) (na-1) nb:=by
 have:=t.la;erw[?_,by lia,t.lb];rw[CA,ir h t.la];refine(t.pm.append_right _).trans ?_;rw[FP];exact(Fa _ _)
def nN.b(t:nN x y out na nb)(h:0<nb):nN x y (out.push (y[nb-1]'(by have:=t.lb; lia))) na (nb-1):=by
 have:=t.lb;erw[?_,t.la,by lia];rw[CA,ir h t.lb];refine(t.pm.append_right _).trans ?_;rw[l9];rwa[Al _ (Fa _ _)]
def nN.as(t:nN x y out na nb){k:Nat}(h:k<=na):nN x y (out++(x.extract k na).reverse) k nb:=by
 have:=t.la;erw[?_,by lia,t.lb];rw[Aa,Em,qy h];refine((t.pm.append_right _).trans (Al _ (DY _))).trans ?_;erw[Bf.trans ?_];rw[l9]
def nN.bs(t:nN x y out na nb){k:Nat}(h:k<=nb):nN x y (out++(y.extract k nb).reverse) na k:=by
 have:=t.lb;erw[?_,t.la,by lia];rw[Aa,Em,qy h];refine((t.pm.append_right _).trans (Al _ (DY _))).trans ?_;rw[l9];rwa[Al _ Bf]
def dh(z:Array Ak)(i:Nat):(z.extract 0 i).toList=z.toList.take i:=by
 rw[Cz,BL,Ht,Fb]
def nN.done(t:nN x y out na nb):(x.extract 0 na++y.extract 0 nb++out.reverse).toList.Perm (x.toList++y.toList):=by
 rw[Aa,Aa,Em,dh,dh];have h:(x.toList++y.toList)=(x.toList.take na++x.toList.drop na)++(y.toList.take nb++y.toList.drop nb):=by rw[AH,AH]
 rw[h];refine(Al _ ((DY _).trans t.pm)).trans ?_;simp only[l9];erw[Al _ ?_];rw[<- l9,<- l9];rwa[Bf.append_right _]
def nN.first(t:nN x y out na nb):(y.extract 0 nb++x.extract 0 na++out.reverse).toList.Perm (x.toList++y.toList):=by
 erw[Es ?_ t.done];rw[Aa,Aa,Aa,Aa];rwa[Bf.append_right _]
end
section
variable{prog:j9}{w:o9}{A:Ad}{E:c5->c8->Prop}{s:c8}{st:t8}{κ:Bw}{ys:List Ak}
def cM(ha:UE prog w A s κ ys)(hk:kindOf st=κ){a b:Array Ak}(hae:∀ u∈a.toList,u∈ys)(hbe:∀ u∈b.toList,u∈ys)(ha0:0<a.size)(hb0:0<b.size){Q:Array Ak->t8->Prop}
  (h:∀ out l,uz st l->out.toList.Perm (a.toList++b.toList)->Q out l):wpS (model prog w) A E s (Uv a b) Q st:=by
 have am:∀ i,(hi:i<a.size)->a[i]∈ys:=λi hi=>hae _ (by rw[<- Bx]; exact r9 _);have bm:∀ i,(hi:i<b.size)->b[i]∈ys:=λi hi=>hbe _ (by rw[<- Bx]; exact r9 _);refine qC ?_;refine zY (show a.size-1<a.size by lia) ?_;have t0:nN a b #[a[a.size-1]'(by lia)] (a.size-1) b.size:=by
  erw[?_,by lia,f6 _];rw[ir ha0 (f6 _),Ga (by rw[j7]; rwa[f6 _]),Ga (by rw[j7]; rwa[f6 _])];rwa[ET _]
 erw[yN (λe=>?_) (λe1=>?_)]
 ·rwa[wpS_pure (h _ _ (uz.refl _) t0.done)]
 erw[yN (λe=>?_) (λD=>?_)]
 ·rwa[wpS_pure (h _ _ (uz.refl _) t0.first)]
 refine tW ?_;refine xF (I:=λi c l=>L2.E4 λout na nb mg=>L2.A6 (uz st l) (c=(Ki,na,nb,out,mg)) (nN a b out na nb) (0<na) (1<nb) (i+1+na+nb<=a.size+b.size))
  (Q:=λc l=>L2.E5 λr out na nb mg=>L2.A3 (uz st l) (c=(Kh r,na,nb,out,mg)) (r.toList.Perm (a.toList++b.toList))) ?_ ?_ ⟨_,_,_,_,uz.refl _,rfl,t0,by lia,by lia,by lia⟩ ?_
 ·rintro i c st1 _ hi ⟨out,na,nb,mg,kp,rfl,n,la,lb,C⟩;refine xF (I:=λj c l=>L2.E5 λf g d B y=>L2.A6 (uz st l) (c=(Ki,g,d,f,B,y)) (nN a b f g d) (0<g) (1<d) (i+1+j+g+d<=a.size+b.size))
   (Q:=λc l=>L2.E6 λr f g d B y=>L2.A3 (uz st l) (c=(r,g,d,f,B,y)) ((∃ z,r=Kh z/\z.toList.Perm (a.toList++b.toList))\/(r=Ki/\nN a b f g d/\0<g/\1<d/\i+2+g+d<=a.size+b.size))) ?_ ?_ ⟨_,_,_,_,_,kp,rfl,n,la,lb,by lia⟩ ?_
  ·rintro j c S _ hj ⟨out,na,nb,B,y,o,rfl,n,la,lb,C⟩;have l1:=n.la;have l2:=n.lb;refine zY (show nb-1<b.size by lia) (zY (show na-1<a.size by lia) (YI ha (o.1.trans hk) (bm _ (by lia)) (am _ (by lia)) λwin=>?_));cases win with
   | true =>
    refine zY (show na-1<a.size by lia) ?_;have m:=n.a la;erw[yN (λe=>?_) (λe=>?_)]
    ·rwa[wpS_pure ⟨_,_,_,_,_,_,o,rfl,.inl ⟨_,rfl,m.done⟩⟩]
    ·dsimp only at e;erw[yB (λD=>?_) (λD=>?_)]
     ·rwa[wpS_pure ⟨Ki,_,na-1,nb,B+1,0,o,rfl,.inr ⟨rfl,m,by lia,lb,by lia⟩⟩]
     ·rwa[wpS_pure ⟨_,na-1,nb,B+1,0,o,rfl,m,by lia,lb,by lia⟩]
   | false =>
    refine zY (show nb-1<b.size by lia) ?_;have m:=n.b (show 0<nb by lia);erw[yN (λe=>?_) (λe=>?_)]
    ·rwa[wpS_pure ⟨_,_,_,_,_,_,o,rfl,.inl ⟨_,rfl,m.first⟩⟩]
    ·dsimp only at e;erw[yB (λD=>?_) (λD=>?_)]
     ·rwa[wpS_pure ⟨Ki,_,na,nb-1,0,y+1,o,rfl,.inr ⟨rfl,m,la,by lia,by lia⟩⟩]
     ·rwa[wpS_pure ⟨_,na,nb-1,0,y+1,o,rfl,m,la,by lia,by lia⟩]
  ·rintro c S ⟨out,na,nb,B,y,_,rfl,n,h1,h2,h3⟩;exfalso;have:a.size+b.size<=max 0 (a.size+b.size):=Ee _ _;lia
  ·rintro c S ⟨r,out,na,nb,B,y,o,rfl,hr⟩;rcases hr with ⟨z,rfl,pm⟩ | ⟨rfl,n,la,lb,C⟩
   ·rwa[wpS_pure ⟨_,_,_,_,_,o,rfl,pm⟩]
   ·erw[qC ?_];erw[xF (I:=λ_ c l=>L2.E6 λf g d M R O=>L2.A6 (uz st l) (c=(Ki,g,d,f,M,R,O)) (nN a b f g d) (0<g) (1<d) (i+2+g+d<=a.size+b.size)) (Q:=λc l=>L2.E7 λr f g d M R O=>L2.A3 (uz st l) (c=(r,g,d,f,M,R,O)) ((∃ z,r=Kh z/\z.toList.Perm (a.toList++b.toList))\/(r=Ki/\nN a b f g d/\0<g/\1<d/\i+2+g+d<=a.size+b.size))) ?_ ?_ ⟨_,_,_,_,_,_,o,rfl,n,la,lb,C⟩ ?_]
    ·rintro j c J _ hj ⟨out,na,nb,mg,B,y,q,rfl,n,la,lb,C⟩;have l1:=n.la;have l2:=n.lb;dsimp only;revert mg;apply jT (prog:=prog) (w:=w) (A:=A) (E:=E) (s:=s) (P:=λ_ l=>uz st l)
     case use =>
      intro H mg;erw[yB (λe=>?_) (λe=>?_)];rotate_left
      ·rwa[H mg _ q]
      ·rwa[H _ _ q]
     clear q J;intro mg st4 p;have Y:nb-1<b.size:=by lia
     erw[rN ?_];erw[zY Y ?_];erw[pY ha ?g0 ?g1 ?g2 ?g3 (λk1 hk1=>?_)]
     case g0=>rwa[p.1.trans hk]
     case g1=>rwa[bm _ Y]
     case g2=>exact(λi hi=>⟨by lia,am _ (by lia)⟩)
     case g3=>lia
     dsimp only;generalize hac:na-k1=acn;revert out na;apply xf (prog:=prog) (w:=w) (A:=A) (E:=E) (s:=s) (P:=λf g=>nN a b f g nb/\0<g/\i+2+g+nb<=a.size+b.size)
     case use =>
      intro H out na
      intros
      rename_i n la C l1 hk1 hac
      erw[yB (λe=>?_) (λe=>?_)];rotate_left
      ·rwa[H out na ⟨n,la,C⟩]
      ·have m:=n.as (k:=k1) (by lia);erw[yN (λD=>?_) (λD=>?_)]
       ·rwa[wpS_pure ⟨_,_,_,_,_,_,_,p.trans ⟨rfl,rfl,rfl,rfl⟩,rfl,.inl ⟨_,rfl,m.done⟩⟩]
       rwa[H _ _ ⟨m,by lia,by lia⟩]
     rintro out na ⟨n,la,q5⟩;erw[zY Y ?_];have v:=n.b (show 0<nb by lia);erw[yN (λe=>?_) (λe=>?_)]
     ·rwa[wpS_pure ⟨_,_,_,_,_,_,_,p.trans ⟨rfl,rfl,rfl,rfl⟩,rfl,.inl ⟨_,rfl,v.first⟩⟩]
     have l1:=n.la;have Z:na-1<a.size:=by lia
     erw[zY Z ?_];erw[pY ha ?g0 ?g1 ?g2 ?g3 (λk2 N=>?_)]
     case g0=>rwa[p.1.trans hk]
     case g1=>rwa[am _ Z]
     case g2=>exact(λi hi=>⟨by lia,bm _ (by lia)⟩)
     case g3=>lia
     dsimp only;generalize out.push b[nb-1]=x at v ⊢;clear n;have X:1<nb-1:=by lia
     have q6:i+3+na+(nb-1)<=a.size+b.size:=by lia
     have N:k2<=nb-1:=N;have l6:=v.lb;generalize hbc:nb-1-k2=bcn;clear lb e q5 l2;clear Y;generalize nb-1=L at *;revert x L;apply xf (prog:=prog) (w:=w) (A:=A) (E:=E) (s:=s) (P:=λf d=>nN a b f na d/\1<d/\i+3+na+d<=a.size+b.size)
     case use =>
      intro H;rintro x L
      intros
      rename_i _ v X q6 N l6 hbc
      erw[yB (λe=>?_) (λe=>?_)];rotate_left
      ·rwa[H x L ⟨v,X,q6⟩]
      ·have m:=v.bs (k:=k2) (by lia);erw[yN (λD=>?_) (λD=>?_)]
       ·rwa[wpS_pure ⟨_,_,_,_,_,_,_,p.trans ⟨rfl,rfl,rfl,rfl⟩,rfl,.inl ⟨_,rfl,m.first⟩⟩]
       erw[yN (λe3=>?_) (λe3=>?_)]
       ·rwa[wpS_pure ⟨_,_,_,_,_,_,_,p.trans ⟨rfl,rfl,rfl,rfl⟩,rfl,.inl ⟨_,rfl,m.done⟩⟩]
       rwa[H _ _ ⟨m,by lia,by lia⟩]
     rintro out d ⟨n,T,q7⟩;erw[zY Z ?_];have G:=n.a la;erw[yN (λe=>?_) (λe=>?_)]
     ·rwa[wpS_pure ⟨_,_,_,_,_,_,_,p.trans ⟨rfl,rfl,rfl,rfl⟩,rfl,.inl ⟨_,rfl,G.done⟩⟩]
     erw[yB (λe=>?_) (λe=>?_)]
     ·rwa[wpS_pure ⟨_,_,_,_,_,_,_,p.trans ⟨rfl,rfl,rfl,rfl⟩,rfl,.inr ⟨rfl,G,by lia,T,by lia⟩⟩]
     ·rwa[wpS_pure ⟨_,_,_,_,_,_,p.trans ⟨rfl,rfl,rfl,rfl⟩,rfl,G,by lia,T,by lia⟩]
    ·rintro c J ⟨out,na,nb,mg,B,y,q,rfl,n,la,lb,C⟩;rwa[_,_,_,_,_,_,_,q,rfl,.inr ⟨rfl,n,la,lb,C⟩]
    ·rintro c J ⟨r,out,na,nb,mg,B,y,q,rfl,hr⟩;rcases hr with ⟨z,rfl,pm⟩ | ⟨rfl,n,la,lb,C⟩
     ·rwa[wpS_pure ⟨_,_,_,_,_,q,rfl,pm⟩]
     ·erw[rN ?_];rwa[wpS_pure ⟨_,_,_,_,q.trans ⟨rfl,rfl,rfl,rfl⟩,rfl,n,la,lb,by lia⟩]
 ·rintro c l ⟨out,na,nb,mg,_,rfl,n,h1,h2,h3⟩;exfalso;have:a.size+b.size<=max 0 (a.size+b.size):=Ee _ _;lia
 ·rintro c l ⟨r,out,na,nb,mg,kp,rfl,pm⟩;rwa[wpS_pure (h _ _ kp pm)]
end
end PyProof.Rows

namespace PyProof.Rows
structure xN(κ:Bw)(ys:List Ak)(st:t8):Prop where
 perm:(arrOf st).toList.Perm ys
 kind:kindOf st=κ
 failed:failedOf st=Ki
section
variable{prog:j9}{w:o9}{A:Ad}{E:c5->c8->Prop}{s:c8}{st st':t8}{κ:Bw}{ys:List Ak}
def xN.size(h:xN κ ys st):(arrOf st).size=ys.length:=by rw[<- j7]; rwa[h.perm.length_eq]
def xN.mem(h:xN κ ys st){i:Nat}(hi:i<(arrOf st).size):(arrOf st)[i]∈ys:=h.perm.mem_iff.mp (by rw[<- Bx]; rwa[r9 _])
def xN.set(h:xN κ ys st){xs:Array Ak}(c:xs.Perm (arrOf st)):xN κ ys (setArr st xs):=⟨(Array.perm_iff_toList_perm.mp c).trans h.perm,h.kind,h.failed⟩
def xN.keep(h:xN κ ys st)(k:uz st st'):xN κ ys st':=⟨by rw[k.2.1]; exact h.perm,k.1.trans h.kind,k.2.2.2.trans h.failed⟩
def kO{d:Type}{code:StateT t8 Fi d}{P:t8->Prop}{Q:d->t8->Prop}{m:StateT t8 Fi d}(use:(∀ c,P c->wpS (model prog w) A E s code Q c)->wpS (model prog w) A E s m Q st)(H:∀ c,P c->wpS (model prog w) A E s code Q c):wpS (model prog w) A E s m Q st:=use H
def jE{d:Type}{code:Nat->StateT t8 Fi d}{P:Nat->t8->Prop}{Q:d->t8->Prop}{m:StateT t8 Fi d}(use:(∀ n c,P n c->wpS (model prog w) A E s (code n) Q c)->wpS (model prog w) A E s m Q st)(H:∀ n c,P n c->wpS (model prog w) A E s (code n) Q c):wpS (model prog w) A E s m Q st:=use H
def Sk{Q:PUnit->t8->Prop}(h:Q ⟨⟩ c):wpS (model prog w) A E s (set c:StateT t8 Fi PUnit) Q st:=by
 unfold wpS; rw[StateT.run_set]; rwa[d9 ⟨rfl,h⟩]
end
def XH:∀(m:List Ak)(k o:Nat)(z:Array Ak),o+k+m.length<=z.size->((m.zipIdx k).foldl (λa (p:Ak×Nat)=>a.setIfInBounds (o+p.2) p.1) z).toList=z.toList.take (o+k)++m++z.toList.drop (o+k+m.length)
 | [],k,o,z,_=>by simp
 | x::m,k,o,z,h=>by
  have h:o+k+(m.length+1)<=z.size:=h;rw[FS,List.foldl_cons,XH m (k+1) o _ (by rw[Array.size_setIfInBounds]; lia),Fc];have c:o+k<z.toList.length:=by rw[j7]; lia
  rw[List.take_set,List.drop_set_of_lt (by lia)];rw[show o+(k+1)=(o+k)+1 by lia,Hs,b8 c,show o+k+1+m.length=o+k+(m.length+1) by lia];have d:(z.toList.take (o+k)).length=o+k:=by rw[g8]; lia
  show((z.toList.take (o+k))++[z.toList[o+k]]).set (o+k) x++m++_=_;rw[Gu _ _ (by lia),d,EG];simp
def uy:Nat->List (Nat×Nat×Nat)->Nat->Prop
 | a,[],b=>a=b
 | a,(x,n,_)::r,b=>x=a/\0<n/\uy (a+n) r b
def uy.le:∀{a:Nat}{l:List (Nat×Nat×Nat)}{b:Nat},uy a l b->a<=b
 | _,[],_,h=>EC h
 | _,_::_,_,h=>g7 (FT _ _) h.2.2.le
def uy.split:∀{l d:List (Nat×Nat×Nat)}{a b:Nat},uy a (l++d) b↔∃ c,uy a l c/\uy c d b
 | [],d,a,b=>⟨λh=>⟨a,rfl,h⟩,λ⟨c,e,h⟩=>by cases e; rwa[h]⟩
 | (x,n,p)::l,d,a,b=>⟨λ⟨h1,h2,h3⟩=>by obtain⟨c,f,c2⟩:=uy.split.mp h3; exact⟨c,⟨h1,h2,f⟩,c2⟩,λ⟨c,⟨h1,h2,h3⟩,h4⟩=>⟨h1,h2,uy.split.mpr ⟨c,h3,h4⟩⟩⟩
section
variable{prog:j9}{w:o9}{A:Ad}{E:c5->c8->Prop}{s:c8}{st st':t8}{κ:Bw}{ys:List Ak}
def ce(v:UE prog w A s κ ys)(g:xN κ ys st){i:Nat}{pre f:List (Nat×Nat×Nat)}{sa na pa d nb G:Nat}(y:(pendingOf st).toList=pre++(sa,na,pa)::(d,nb,G)::f)(hi:pre.length=i)
  (h1:0<na) (h2:0<nb) (h3:sa+na=d) (h4:d+nb<=ys.length) {Q:Bool->t8->Prop}
  (h:∀ st',xN κ ys st'->(pendingOf st').toList=pre++(sa,na+nb,pa)::f->Q Kj st'):wpS (model prog w) A E s (mergeAt' i) Q st:=by
 have M:(pendingOf st)[i]?=Kh (sa,na,pa):=by rw[<- AL,y,<- hi,x9 (f6 _),EG]; rfl
 have B:(pendingOf st)[i+1]?=Kh (d,nb,G):=by rw[<- AL,y,<- hi,x9 (Bi _),JN (f6 _),EG]; rfl
 have z:=g.size;refine tW ?_;rw[M,B];refine wpS_bind (Sk ?_);have I:(((pendingOf st).setIfInBounds i (sa,na+nb,pa)).eraseIdxIfInBounds (i+1)).toList=pre++(sa,na+nb,pa)::f:=by
  rw[Array.toList_eraseIdxIfInBounds,Fc,y,<- hi,Gu _ _ (f6 _),EG,List.eraseIdx_append_of_length_le (Bi _),JN (f6 _),EG];rfl
 have j:xN κ ys (setPending st (((pendingOf st).setIfInBounds i (sa,na+nb,pa)).eraseIdxIfInBounds (i+1))):=⟨g.perm,g.kind,g.failed⟩;have o:(pendingOf (setPending st (((pendingOf st).setIfInBounds i (sa,na+nb,pa)).eraseIdxIfInBounds (i+1)))).toList=pre++(sa,na+nb,pa)::f:=I;have D:arrOf (setPending st (((pendingOf st).setIfInBounds i (sa,na+nb,pa)).eraseIdxIfInBounds (i+1)))=arrOf st:=rfl;revert j o D;show _->_->_->wpS _ _ _ _ _ _ (setPending st (((pendingOf st).setIfInBounds i (sa,na+nb,pa)).eraseIdxIfInBounds (i+1)));generalize setPending st (((pendingOf st).setIfInBounds i (sa,na+nb,pa)).eraseIdxIfInBounds (i+1))=x;intro j o D;refine zY (show d<(arrOf st).size by lia) ?_;refine pY (arr:=arrOf st) (base:=sa) (n:=na) v j.kind (g.mem (show d<(arrOf st).size by lia)) (λi hi=>⟨by lia,g.mem _⟩) h1 λk P=>?_;dsimp only;refine yN (λe=>wpS_pure (h _ j o)) (λe=>?_);refine zY (show sa+k+(na-k)-1<(arrOf st).size by lia) ?_;refine pY (arr:=arrOf st) (base:=d) (n:=nb) v j.kind (g.mem (show sa+k+(na-k)-1<(arrOf st).size by lia)) (λi hi=>⟨by lia,g.mem _⟩) (show nb-1<nb by lia) λm O=>?_;dsimp only;refine yN (λe=>wpS_pure (h _ j o)) (λe=>?_);have r:∀{p q:Nat},∀ u∈((arrOf st).extract p q).toList,u∈ys:=λ{p q} u H=>by
  rw[Cz,BL] at H;rwa[g.perm.mem_iff.mp (AF (Aj H))]
 have l:∀(out:Array Ak) c,uz x c->out.toList.Perm (((arrOf st).extract (sa+k) d).toList++((arrOf st).extract d (d+m)).toList)->wpS (model prog w) A E s (do
   modify λs=>setArr s (out.toList.zipIdx.foldl (λa (p:Ak×Nat)=>a.setIfInBounds (sa+k+p.2) p.1) (arrOf s))
   return (failedOf (<- get)).isNone) Q c:=λout c kp pm=>by
  have R:out.toList.length=(na-k)+m:=by
   rw[pm.length_eq,f8,j7,j7,Fd,Fd];lia
  have N:arrOf c=arrOf st:=kp.2.1.trans D;have C:=j.keep kp;erw[rN (tW ?_)];have J:failedOf c=none:=C.failed;rw[show(failedOf (setArr c (out.toList.zipIdx.foldl (λa (p:Ak×Nat)=>a.setIfInBounds (sa+k+p.2) p.1) (arrOf c)))).isNone=Kj from by rw[show failedOf (setArr c _)=failedOf c from rfl,J]; rfl];erw[wpS_pure (h _ ⟨?_,C.kind,C.failed⟩ ?_)]
  ·show(out.toList.zipIdx.foldl (λa (p:Ak×Nat)=>a.setIfInBounds (sa+k+p.2) p.1) (arrOf c)).toList.Perm ys;rw[N,XH out.toList 0 (sa+k) _ (by lia)];refine Es ?_ g.perm;have L:((arrOf st).extract (sa+k) d).toList++((arrOf st).extract d (d+m)).toList++(arrOf st).toList.drop (d+m)=(arrOf st).toList.drop (sa+k):=by
    rw[l9,<- qy (by lia),<- qy (by lia)]
   erw[Es ?_ (Ix (AH (sa+k) (arrOf st).toList))];rw[<- L,l9,show sa+k+0+out.toList.length=d+m by lia];rwa[Al _ (pm.append_right _)]
  ·rw[show pendingOf (setArr c _)=pendingOf c from rfl,kp.2.2.1];rwa[o]
 erw[yB (λB=>wpS_bind (bu v j.kind r r ?_ ?_ λout c kp pm=>l _ _ kp pm)) (λB=>wpS_bind (cM v j.kind r r ?_ ?_ λout c kp pm=>l _ _ kp pm))]
 all_goals (rw[Fd]; lia)
def uy.power:∀{p:List (Nat×Nat×Nat)}{a b:Nat},uy a p b->∀(i pw:Nat),uy a (p.modify i λx=>(x.1,x.2.1,pw)) b
 | [],_,_,h,i,pw=>by cases i <;> rwa[h]
 | (x,n,q)::p,a,b,h,0,pw=>h
 | (x,n,q)::p,a,b,h,i+1,pw=>⟨h.1,h.2.1,h.2.2.power i pw⟩
def uy.two{b i:Nat}(h:uy 0 p b)(hi:i+1<p.length):∃ pre d sa na pa f nb g,p=pre++(sa,na,pa)::(f,nb,g)::d/\pre.length=i/\0<na/\0<nb/\sa+na=f/\f+nb<=b/\uy 0 (pre++(sa,na+nb,pa)::d) b:=by
 have e:p=p.take i++(p[i]::p[i+1]::p.drop (i+2)):=by
  rw[<- AV,<- AV,AH]
 rcases l:p[i] with ⟨sa,na,pa⟩
 rcases j:p[i+1] with ⟨f,nb,g⟩
 rw[l,j] at e;rw[e] at h;obtain⟨c,h1,h2,h3,h4,h5,h6⟩:=uy.split.mp h;subst h2 h4;erw[_,_,_,_,_,_,_,_,e,by rw[g8]; lia,h3,h5,rfl,h6.le,uy.split.mpr ⟨_,h1,rfl,by lia,?_⟩];rw[<- Nat.add_assoc];rwa[h6]
def uc(g:UE prog w A s κ ys)(j:xN κ ys st){i b:Nat}(f:uy 0 (pendingOf st).toList b)(p:b<=ys.length)(hi:i+1<(pendingOf st).size){Q:Bool->t8->Prop}
  (h:∀ st',xN κ ys st'->uy 0 (pendingOf st').toList b->(pendingOf st').size+1=(pendingOf st).size->Q Kj st'):wpS (model prog w) A E s (mergeAt' i) Q st:=by
 obtain⟨pre,c,sa,na,pa,n,nb,o,e,l,h1,h2,h3,h4,h5⟩:=f.two (i:=i) (by rw[j7]; rwa[hi]);erw[ce g j e l h1 h2 h3 (by lia) λst' m d=>h st' m (by rw[d]; rwa[h5]) ?_];rw[<- j7,<- j7,d,e,f8,f8,f9,f9,f9];lia
end
end PyProof.Rows

namespace PySem.W
open PySem PySem.Calls PyProof.Rows
end PySem.W
namespace L2
open PySem PySem.Spec PyProof.Rows PySem.W
section
variable{prog:j9}{w:o9}{A:Ad}{E:c5->c8->Prop}{s:c8}
def mH{M:Hi}{d:Type}{f:c5->Fi d}{R:d->Prop} : ∀{e:List c5}{Q:List d->c8->Prop},(∀ v∈e,∀ Q:d->c8->Prop,(∀ b,R b->Q b s)->wpAny M A (f v) Q E s)->(∀ bs,(∀ b∈bs,R b)->Q bs s)->wpAny M A (e.mapM f) Q E s
 | [],Q,_,h=>by rw[List.mapM_nil]; exact d9 (h [] λb n=>nomatch n)
 | v::e,Q,j,h=>by
  rw[List.mapM_cons];erw[b7 (j v (.head _) _ λb l=>b7 (mH (R:=R) (λu m=>j u (.tail _ m)) λbs i=>d9 (h _ λc g=>?_)))];rcases j5.mp g with rfl | g
  ·rwa[l]
  ·rwa[i c g]
def VP(h:Ae)(v:c5):Prop:=(∃ i t,v=.int i t)\/∃ a o,v=.ref a/\h.get? a=Kh o
def Sf(c:VP s.heap v){Q:c5->c8->Prop}(h:∀ b,Q b s):wpAny M A (typeOf v) Q E s:=by
 rcases c with ⟨i,t,rfl⟩ | ⟨a,o,rfl,d⟩
 ·rwa[d9 (h _)]
 ·exact J9 (show Looks M s.heap (typeOf (.ref a)) o.cls from(Looks.ld d).andThen .now) (h _)
def aJ{M:Hi}{c:List c5}(d:∀ v∈c,VP s.heap v){Q:Option c5->c8->Prop}(h:∀ b,Q b s):wpAny M A (oneTypeOnly' c.toArray) Q E s:=by
 rw[oneTypeOnly'_eq,Hu,map_eq_pure_bind];erw[b7 (b7 (mH (R:=λ_=>True) (λv f g e=>Sf (d v f) λb=>e b trivial) λbs _=>d9 ?_))];split
 ·rwa[d9 (h _)]
 ·rwa[d9 (h _)]
def Va{M:Hi}{d:List c5}(j:∀ v∈d,∃ ns,Yu s.heap v ns){Q:Bw->c8->Prop}(h:∀ l,Q l s):wpAny M A (keyKind' d.toArray) Q E s:=by
 have m:∀ v∈d,VP s.heap v:=λv g=>by
  obtain⟨ns,a,o,n,f,e,c,_⟩:=j v g;rwa[.inr ⟨a,o,e,c⟩]
 rw[kat_kind_eq,Hu,map_eq_pure_bind];erw[b7 (b7 (mH (R:=λb=>∀ v,b=Kh v->VP s.heap v) (λv x C u=>?_) λbs i=>d9 ?_))]
 ·obtain⟨ns,a,o,n,f,rfl,c,y,hd,r⟩:=j v x;rw[kas_first_eq];refine b7 (J9 (show Looks M s.heap (typeOf (.ref a)) o.cls from(Looks.ld c).andThen .now) ?_);rw[y,y6 (by first | decide | simp)];erw[b7 (listItems_at c hd (d9 (u _ λv e=>?_)))];cases ns with
  | nil =>
   cases r;cases e
  | cons k B =>
   cases r with
   | cons p q =>
    obtain⟨t,rfl⟩:=p;rw[Gv,List.getElem?_cons_zero] at e;cases e;rwa[.inl ⟨_,_,rfl⟩]
 ·split
  ·erw[b7 (F3 ?_)];have e:bs.toArray.filterMap id=(bs.filterMap id).toArray:=by simp
   rw[e];erw[b7 (aJ (λv g=>?_) λb=>d9 (h _))];obtain⟨b,z,e⟩:=DI.mp g;rwa[i b z v e]
  ·split
   ·rwa[d9 (h _)]
   ·rwa[b7 (aJ m λb=>d9 (h _))]
end
def fX{d o:Type}{f:d->o}{out m:List o}(h:out.Perm m):∀{l:List d},l.map f=m->∃ c:List d,c.Perm l/\c.map f=out:=by
 induction h with
 | nil=>rwa[λ{l} e=>⟨l,.refl _,e⟩]
 | cons x _ r =>
  intro l e;cases l with
  | nil=>cases e
  | cons a l =>
   obtain⟨c,p,v⟩:=r (FJ e).2;rwa[a::c,p.cons _,by rw[i4,v,(FJ e).1]]
 | swap x y t =>
  intro l e
  match l,e with
  | a::b::l,e =>
   obtain⟨n,j⟩:=FJ e;obtain⟨u,s⟩:=FJ j;rwa[b::a::l,.swap ..,by rw[i4,i4,n,u,s]]
 | trans _ _ i g =>
  intro l e;obtain⟨w,p2,j⟩:=g e;obtain⟨q,p1,n⟩:=i j;rwa[q,p1.trans p2,n]
end L2

namespace L2
def rA(H:Hp)(d:b9):Hp:=λb=>if b=d then Ki else H b
def qi{H:Hp} : rA H d d=none:=y7 rfl
def zy{H:Hp}{d b:b9}(h:b≠d):rA H d b=H b:=y6 h
def SJ{H:Hp}(h:rA H d b=Kh o):b≠d/\H b=Kh o:=by
 by_cases e:b=d
 ·rw[e,qi] at h; cases h
 ·rwa[e,by rw[<- h,zy e]]
def qB{H:Hp}(h:H b=Ki):rA H d b=none:=by
 by_cases e:b=d
 ·rw[e,qi]
 ·rw[zy e,h]
def qG{H:Hp}(hd:H d=Kh ob)(h:H b=Kh o)(n:ob≠o):rA H d b=Kh o:=by
 rw[zy λe=>n ?_]
 ·rwa[h]
 ·rw[e,hd] at h;rwa[x6 h]
def WT{H:Hp}{d D:b9}(hd:H d=Kh o)(n:D≠d):upd (upd (rA H d) D v) d o=upd H D v:=by
 funext b
 by_cases e:b=d
 ·rw[e,zA,zH (BA n),hd]
 ·rw[zH e];by_cases c:b=D
  ·rw[c,zA,zA]
  ·rw[zH c,zH c,zy e]
section
variable{X:Cx}{Kl:List (b9×BP)}{σ:St}{H H3:Hp}{s s3:c8}{d:b9}{kvs:List (List Key×V)}
def Inv.hide(I:Inv X Kl σ H s)(hd:H d=Kh (.dT kvs)):Inv X Kl σ (rA H d) s where
 ok:=I.ok
 os:=I.os
 bare:=I.bare
 base:=⟨I.base.keep,I.base.slot,λb o e n g=>qB (I.base.free b o e n g),I.base.there,λb xs e=>qG hd (I.base.tups b xs e) (λz=>nomatch z),λb o u e=>qG hd (I.base.frzs b o u e) (λz=>nomatch z),
  λb f e=>let ⟨more,q⟩:=I.base.tbls b f e;⟨more,qG hd q (λz=>nomatch z)⟩⟩
 loc:=I.loc
 cell:=I.cell
 free:=qB I.free
 freeC:=λx c e=>qB (I.freeC x c e)
 pin:=λp h=>let ⟨h1,h2,h3⟩:=I.pin p h;⟨h1,qB h2,h3⟩
 hok:=λb o e=>by
  obtain⟨_,i⟩:=SJ e;exact(I.hok b o i).stay (λc u _ q=>q) (λc q=>qG hd q (λz=>nomatch z)) λc xs q=>qG hd q (λz=>nomatch z)
 len:=I.len
def Inv.back(I:Inv X Kl σ H s)(hd:H d=Kh (.dT kvs))(J:Inv X Kl σ H3 s3)(v:H3 d=Ki)(same:∀ o,s.heap.get? d=Kh o->s3.heap.get? d=Kh o)(l:∀ b xs,H b=Kh (.tup xs)->H3 b=Kh (.tup xs)):Inv X Kl σ (upd H3 d (.dT kvs)) s3:=by
 have ne:∀{b:b9},H b=Ki->b≠d:=λ{b} n e=>by rw[e,hd] at n; cases n
 have f:∀{b:b9}{o:HO},H3 b=Kh o->upd H3 d (.dT kvs) b=Kh o:=λ{b o} e=>by
  rw[zH λz=>by rw[z,v] at e; cases e];rwa[e]
 refine⟨J.ok,J.os,J.bare,⟨J.base.keep,J.base.slot,λb o e n g=>?_,J.base.there,λb xs e=>f (J.base.tups b xs e),λb o u e=>f (J.base.frzs b o u e),λb m e=>let ⟨more,q⟩:=J.base.tbls b m e;⟨more,f q⟩⟩,J.loc,J.cell,?_,λx c e=>?_,λp h=>?_,λb o e=>?_,J.len⟩
 ·rw[zH (ne (I.base.free b o e n g))];rwa[J.base.free b o e n g]
 ·rw[zH (ne I.free)];rwa[J.free]
 ·rw[zH (ne (I.freeC x c e))];rwa[J.freeC x c e]
 ·obtain⟨h1,h2,h3⟩:=J.pin p h;rwa[h1,by rw[zH (ne (I.pin p h).2.1)]; exact h2,h3]
 ·by_cases i:b=d
  ·subst i;rw[zA] at e;cases e;obtain⟨z,y,xs,r,o,A,B,h1,h2⟩:=(show uL X.prog X.w H s.heap b (.dT kvs) from I.hok b _ hd);rwa[z,y,xs,KT.keeps r (λc j q=>f (l c j q)),o,A,B,same _ h1,h2]
  ·rw[zH i] at e;exact(J.hok b o e).stay (λc u _ q=>q) (λc q=>f q) λc xs q=>f q
def Itk(c:List (b9×List Key)):It:=⟨λk _=>k<c.length,λk H v e=>e=H/\∃ t,c[k]?=Kh t/\v=.ref t.1,λk _=>c.length<=k⟩
def QH(m:Nat)(e:List (j4×Nat))(tl:TE)(g:CC->TG)(j:CC->TT)(l:CC->TE):TE:=λσ H Q=>tl σ H λx f=>E2 λ(d:b9) (kvs:List (List Key×V))=>A3 (x=.ref d) (f d=Kh (.dT kvs)) (∀(h:List (b9×List Key)),h.map (·.2)=kvs.map (·.1)->(∀ t∈h,f t.1=Kh (.tup (t.2.map kV)))->∀(c:CC)(D:b9),f D=Ki->oV (Itk h) D (g c) (j c) (l c) (gD e m σ) (rA f d) (λv i=>i d=Ki->Q v (upd i d (.dT kvs))))
variable{T:List j4}{caps:List (j4×Nat)}{scope:DR}{elt target iter:AD}{ifs:List AD}{pos:Ea}{tl:TE}{g:CC->TG}{tt:CC->TT}{te:CC->TE}
def aP(S:zb X caps scope)(hc:X.calm=Kj)(hl:PE X iter tl)(hg:∀ c,PG (cxComp X (T++caps.map (·.1)) scope c) target (g c))(ht:∀ c,Op (cxComp X (T++caps.map (·.1)) scope c) ifs (tt c))(he:∀ c,PE (cxComp X (T++caps.map (·.1)) scope c) elt (te c))
  (hs:∀ x,foldedSetIterable iter X.env x=pure x:=by intro _; rfl):PE X (.ListComp elt [⟨target,iter,ifs,0⟩] scope pos) (QH T.length caps tl g tt te):=by
 intro Kl s σ H Q I h;rw[eval_ListComp];refine FH (use:=Ki) rfl hs (Wz S.cells) S.kind S.loc (thn (hl Kl s σ H _ I h) λv r ⟨x,M,I1,r1,q1⟩=>?_);obtain⟨d,kvs,e,hd,q⟩:=q1;subst e;cases r1;obtain⟨hz,hsm,O,rel,ob,L,l,gd,ex,dat,hes,hjunk⟩:=Ra I1.hok hd;have hsz:L.size=O.length:=size_of_entries hes;have P:(O.map λy=>(y.2.1,y.1)).map (·.2)=kvs.map (·.1)/\∀ t∈O.map (λy=>(y.2.1,y.1)),M t.1=Kh (.tup (t.2.map kV)):=by
  clear hes hsz q hd hz hjunk
  induction rel with
  | nil=>exact⟨rfl,λt ht=>nomatch ht⟩
  | @cons p y ps zs hp t ih =>
   erw[by rw[i4,i4,i4,ih.1,hp.1],λt' ht'=>?_];rcases j5.mp ht' with e | ht'
   ·subst e;show M y.2.1=Kh (.tup (y.1.map kV));rw[<- hp.1];rwa[hp.2.1]
   ·rwa[ih.2 t' ht']
 have keyAt:∀(k:Nat)(hk:k<L.size),∃ t,(O.map λy=>(y.2.1,y.1))[k]?=Kh t/\L[k].key=r6 t.1:=λk hk=>by
  have ek:=entry_at hes k;have hk':k<O.length:=by lia
  rw[t6 hk,b8 hk',AR] at ek;erw[_,by rw[c7,b8 hk']; rfl,?_];rw[x6 ek];rfl
 have q:=q _ P.1 P.2;have tlen:(O.map λy=>(y.2.1,y.1)).length=L.size:=by rw[b5,hsz]
 generalize (O.map λy=>(y.2.1,y.1))=ts at P keyAt q tlen;have raw1:Yw r.heap d L l:=⟨ob,gd,ex,dat⟩;refine bR hsm raw1 ?_;have I2:Inv X Kl σ (rA M d) { r with heap:=r.heap.push { cls:=.type "dict_keyiterator",data:=.fields #[.ref d,.int 0 0,.int L.size 0,.int l 0] } }:=(I1.hide hd).kept (t':=r.toks) λb o e=>c9 _ e;have ki0:({ r with heap:=r.heap.push { cls:=.type "dict_keyiterator",data:=.fields #[.ref d,.int 0 0,.int L.size 0,.int l 0] } } : c8).heap.IsKeyIter r.heap.objs.size d 0 L.size l:=⟨_,i7 _ rfl,rfl,rfl⟩;have gd2:({ r with heap:=r.heap.push { cls:=.type "dict_keyiterator",data:=.fields #[.ref d,.int 0 0,.int L.size 0,.int l 0] } } : c8).heap.get? d=Kh ob:=c9 _ gd;have f2:∀ b∈[r.heap.objs.size],ZJ X Kl (rA M d) b:=λb f=>by
  rw[e9] at f;subst f;rwa[I1.fpOk (f6 _) (qB (I1.hok.fresh (f6 _)))]
 have ndf:d ∉ frs X.stack:=λz=>by
  have:=I1.stkFree d z;rw[hd] at this;cases this
 have dlt:d<r.heap.objs.size:=i5 gd;have fr1:∀ b,r.heap.objs.size<=b->M b=none:=λb f=>I1.hok.fresh f;have q2:∀ c:CC,∀ D:b9,M D=Ki->oV (Itk ts) D (g c) (tt c) (te c) (gD caps T.length σ) (rA M d) (λv B=>B d=Ki->Q v (upd B d (.dT kvs))):=q;have hsize:({ r with heap:=r.heap.push { cls:=.type "dict_keyiterator",data:=.fields #[.ref d,.int 0 0,.int L.size 0,.int l 0] } } : c8).heap.objs.size=r.heap.objs.size+1:=by rw[BW]
 generalize ({ r with heap:=r.heap.push { cls:=.type "dict_keyiterator",data:=.fields #[.ref d,.int 0 0,.int L.size 0,.int l 0] } } : c8)=s2 at I2 hsize ki0 gd2 ⊢;have itlt:r.heap.objs.size<s2.heap.objs.size:=by rw[hsize]; rwa[Ck _]
 generalize r.heap.objs.size=j at ki0 itlt f2 dlt ⊢;refine AA (GE S.nocell (by intro y hy; simp at hy) (λh1 hn hsb=>?_) S.kind);dsimp only at hn hsb ⊢;generalize hg2:s2.heap.push { cls:=.type "list",dict:=Ki,data:=.seq ([]:List c5).toArray }=G at hn hsb ⊢;have hCv:G.objs.size=s2.heap.objs.size+1:=by rw[<- hg2,BW]
 have hDC:G.objs.size≠s2.heap.objs.size:=by rw[hCv]; rwa[HV _]
 have E:s2.heap.objs.size<=G.objs.size:=by rw[hCv]; rwa[Bi _]
 have old:∀ b o,s2.heap.get? b=Kh o->h1.get? b=Kh o:=λb o e=>hsb.extBut b o (m7 (n9 (i5 e) E)) (c9 _ (hg2 ▸ c9 _ e));have hacc:∃ n,h1.get? s2.heap.objs.size=Kh { cls:=.type "list",data:=.seq ([]:List c5).toArray n }:=⟨_,hsb.extBut _ _ (BA hDC) (c9 _ (hg2 ▸ i7 _ rfl))⟩;have hfp:∀ b∈[j],b<s2.heap.objs.size:=λb f=>by
  rw[e9] at f;subst f;rwa[itlt]
 have cs:=zq (env:=X.env) scope.names [] S.cells (λ_ _ z=>by cases z);have I0:=jM (T:=T) (tk:=s2.toks+([]:List (j4×c5)).length) S I2 f2 hfp (f6 _) E hDC old hacc hn;have st0:h1.IsKeyIter j d 0 L.size l:=ki0.at λo e=>old _ o e;have fresh2:rA M d s2.heap.objs.size=none:=I2.hok.fresh (f6 _);have dlt2:d<s2.heap.objs.size:=i5 gd2;obtain⟨W,⟨m0,w0⟩,turn⟩:=q2 ⟨G.objs.size,s2,rA M d,[j]⟩ s2.heap.objs.size (by rw[<- zy (H:=M) (DT dlt2)]; exact fresh2);have fr0:∀ b∈[j],upd (rA M d) s2.heap.objs.size (.lst []) b=none:=λb f=>by
  rw[zH (m7 (hfp b f))];exact(f2 b f).1
 have stat:∀{B:Hp},(∀ b∈[j],B b=Ki)->∀ b∈[j],ZJ (cxComp X (T++caps.map (·.1)) scope ⟨G.objs.size,s2,rA M d,[j]⟩) [] B b:=λ{B} hn' b f =>
  ⟨hn' b f,m7 (n9 (hfp b f) E),I0.ok.exfs b f,.inl f,λx c e=>(f2 b f).2.2.2.2.1 x c (cs x c e),λp hp=>x4 (show p∈([]:List (b9×BP)) from hp) (by simp)⟩
 have Z:d ∉ [j]:=λz=>by rw[e9] at z; rwa[x4 dlt (by rw[z]; exact BB _)]
 have rawAt:∀{pl:List (b9×BP)}{C:St}{B:Hp}{s':c8},Inv (cxComp X (T++caps.map (·.1)) scope ⟨G.objs.size,s2,rA M d,[j]⟩) pl C B s'->s'.heap.get? d=Kh ob/\B d=none:=λ{pl C B s'} I' =>
  ⟨I'.base.keep d ob gd2 qi ndf Z,I'.base.free d ob gd2 qi Z⟩
 have Y:∀{h':Ae}{k:Nat},h'.IsKeyIter j d k L.size l->∀ b∈[j],∃ o,h'.get? b=Kh o/\∀ v,o.data≠.cell v:=λ{h' k} ki b f=>by
  rw[e9] at f;subst f;obtain⟨o,e,_,d2⟩:=ki;exact⟨o,e,λv z=>by rw[d2] at z; cases z⟩
 have loop:codeAny (model X.prog X.w) X.A (.compLoop (.ListComp elt [⟨target,iter,ifs,0⟩] scope pos) 0 (.ref j) (.ref s2.heap.objs.size) (compEnvC scope (qf X.env scope.names []) G.objs.size X.env))
   (compPost (model X.prog X.w) X.A X.xe Ki (EP X Kl σ Q) (.ref s2.heap.objs.size) G.objs.size) { s2 with heap:=h1,toks:=s2.toks+([]:List (j4×c5)).length }:=by
  erw[codeAny_loop rfl (λn s'=>∃ i C O B,Inv (cxComp X (T++caps.map (·.1)) scope ⟨G.objs.size,s2,rA M d,[j]⟩) [] C B s'/\s'.heap.IsKeyIter j d i L.size l/\(∀ b∈[j],B b=Ki)/\W i n C O B) (λn s3 hI=>?_) m0 ⟨0,_,[],_,I0,st0,fr0,w0⟩];obtain⟨i,σ3,O,H3,I3,st3,fr3,w3⟩:=hI;show wpAny _ X.A ((compTurn (.ListComp elt [⟨target,iter,ifs,0⟩] scope pos) 0 (.ref j) (.ref s2.heap.objs.size) (compEnvC scope (qf X.env scope.names []) G.objs.size X.env)).onRaise (λx=>do noteFrame x (compEnvC scope (qf X.env scope.names []) G.objs.size X.env); theTreesLotGoes x)) _ _ s3;erw[wpAny_noted ?_];rw[compTurn_list];erw[b7 (GZ (b7 ?_))];obtain⟨hD3,turn3⟩:=turn i n σ3 O H3 w3;obtain⟨gd3,hd3⟩:=rawAt I3;have raw3:Yw s3.heap d L l:=⟨ob,gd3,ex,dat⟩;obtain⟨f0,f1,f2',f3,f4,f5⟩:=stat fr3 j (.head _);rcases turn3 with ⟨stop,qn⟩ | ⟨go,N,hN,step⟩
  ·have stop:ts.length<=i:=stop;refine Ww (I3.ok.hd hc) st3 raw3 (by lia) λh' eb=>?_;have I4:=I3.turned (t':=s3.toks) (λb o f q=>eb b o f q) f0 f1 f3 f4 f5;refine d9 ?_;show ∃ m,h'.Ns G.objs.size m/\∀ h'',BQ G.objs.size h' h''->EP X Kl σ Q (.ref s2.heap.objs.size) { s3 with heap:=h'' };obtain⟨m4,hn4,_⟩:=I4.loc;refine⟨m4,hn4,λh'' sb=>⟨.ref s2.heap.objs.size,upd H3 d (.dT kvs),?_,U,qn hd3⟩⟩;have J:Inv X Kl σ H3 { s3 with heap:=h'' }:=by
    refine I2.call' (s':={ s3 with heap:=h'' }) (ch:=[j]) I4.os (Un.same I4.base sb (Ei E)) (HOk.same I4.hok sb I4.free) I4.bare λb f=>?_;obtain⟨_,f1,_,f3,f4,f5⟩:=f2 b f;rwa[f3,f1,f4,f5]
   erw[I1.back hd J hd3 (λo e=>?_) λb xs e=>?_]
   ·rw[gd] at e;cases e;exact(sb.2 d (m7 (n9 dlt2 E))).trans (eb d ob (λz=>Z (by rw[z]; rwa[.head _])) gd3)
   ·exact I3.base.tups b xs (qG hd e (λz=>nomatch z))
  ·have go:i<ts.length:=go;have hi':i<L.size:=by lia
   obtain⟨t,gt,ek⟩:=keyAt i hi';refine bh st3 raw3 hi' λh' ki' hs'=>?_;have I4:=I3.turned (t':=s3.toks) (λb o f q=>hs'.extBut b o f q) f0 f1 f3 f4 f5;have go':∀{Q':Unit->c8->Prop}{E':c5->c8->Prop}{u:c5},Q' () { s3 with heap:=h' }->wpAny (model X.prog X.w) X.A (letOwnedTupleGo target (.ref j) u) Q' E' { s3 with heap:=h' }:=λ{Q' E' u} hq=>by
    obtain⟨o,e,c,d2⟩:=ki';rwa[Xl e c d2 (by decide) hq]
   refine b7 (go' ?_);have I5':=I4.pinned (stat fr3) (Y ki');rw[ek];refine b7 (Xh (hg _ _ _ σ3 H3 (.ref t.1) _ _ I5' rfl (step (.ref t.1) H3 ⟨rfl,t,gt,rfl⟩)) λ_ s6 ⟨σ6,H6,I6,q6⟩=>?_);have again:∀{s7:c8}{R:St}{zs:List V}{H7:Hp},Inv (cxComp X (T++caps.map (·.1)) scope ⟨G.objs.size,s2,rA M d,[j]⟩) ([]++jG [j] h') R H7 s7->N R zs H7 ->
     ∃ m,m<n/\∃ i C O B,Inv (cxComp X (T++caps.map (·.1)) scope ⟨G.objs.size,s2,rA M d,[j]⟩) [] C B s7/\s7.heap.IsKeyIter j d i L.size l/\(∀ b∈[j],B b=Ki)/\W i m C O B:=λ{s7 R zs H7} I7 n7=>by
    obtain⟨m',hm,w7⟩:=hN R zs H7 n7;erw[m',hm,i+1,R,zs,H7,I7.unpinned,ki'.at λo e=>(I7.pin (j,o) (t7 _ (t7 _ (tY (.head _) e)))).1,λb f=>?_,w7];obtain⟨o,e,d⟩:=Y ki' b f;exact(I7.pin (b,o) (t7 _ (t7 _ (tY f e)))).2.1
   erw[b7 (Xh (ht _ _ s6 σ6 H6 _ I6 q6) λok s7 ⟨H7,I7,q7⟩=>?_)];cases ok with
   | false=>rwa[d9 ⟨rfl,again I7 q7⟩]
   | true =>
    erw[b7 (b7 (Xh (he _ _ s7 σ6 H7 _ I7 q7) λy s8 ⟨yv,H8,I8,r8,hD8,hl8,q8⟩=>?_))];erw[b7 (Xh (kK _ s8 σ6 H8 (.ref s2.heap.objs.size) [yv] (.ref s2.heap.objs.size) [y] (λ_ H9=>N σ6 (O++[yv]) H9) I8 rfl (.cons r8 .nil) ⟨_,O,yv,rfl,rfl,hD8,hl8,q8⟩) λ_ s9 ⟨_,H9,I9,_,q9⟩=>?_)];rwa[d9 (d9 ⟨rfl,again I9 q9⟩)]
 rwa[codeAny_compStart_list loop (GI st0 loop)]
end
end L2

namespace L2
inductive Deep(K:b6)(H:Hp):Nat->V->V->Bool->Prop where
 | same (n:Nat) (a:b9):Deep K H n (.ref a) (.ref a) Kj
 | int (n:Nat) (i j:Int):Deep K H n (.int i) (.int j) (i == j)
 | str (n:Nat) (i j:j4):Deep K H n (.str i) (.str j) (i == j)
 | lst {n:Nat} {a b:b9} {xs ys:List V} {e:Nat->Bool} (ne:a≠b) (ha:SqL K H a xs) (hb:SqL K H b ys) (hl:xs.length=ys.length) (he:∀(j:Nat)(h1:j<xs.length)(h2:j<ys.length),Deep K H n xs[j] ys[j] (e j)):Deep K H (n+1) (.ref a) (.ref b) ((Ay xs.length).all e)
 | lstN {n:Nat} {a b:b9} {xs ys:List V} (ne:a≠b) (ha:SqL K H a xs) (hb:SqL K H b ys) (hl:xs.length≠ys.length):Deep K H (n+1) (.ref a) (.ref b) Kk
 | tup {n:Nat} {a b:b9} {xs ys:List V} {e:Nat->Bool} (ne:a≠b) (ha:SqT K H a xs) (hb:SqT K H b ys) (he:∀(j:Nat)(h1:j<xs.length)(h2:j<ys.length),Deep K H n xs[j] ys[j] (e j)):Deep K H (n+1) (.ref a) (.ref b) ((Ay (min xs.length ys.length)).all e&&xs.length == ys.length)
 | tl {n:Nat} {a b:b9} {xs ys:List V} (ne:a≠b) (ha:SqT K H a xs) (hb:SqL K H b ys):Deep K H (n+1) (.ref a) (.ref b) Kk
section
variable{X:Cx}{Kl:List (b9×BP)}{σ:St}{H:Hp}{s:c8}
def yW.at(r:yW xs c){j:Nat}(h1:j<xs.length)(h2:j<c.length):xZ xs[j] c[j]:=by
 obtain⟨u,e,ru⟩:=r.get (b8 h1);rw[b8 h2] at e;cases e;rwa[ru]
def Deep.at(I:Inv X Kl σ H s){n:Nat}(d:Deep X.K H n x y r):∀{A:Ad}{u v:c5},A.units+n<cLine->xZ x u->xZ y v->F7 A s u v r/\(u≠v->(∃ a,x=.ref a)->SeqAt.RcAt A s u v r):=by
 induction d with
 | same n a =>
  intro A u v o f c;cases f;cases c;rwa[Iu _,λh=>x4 rfl h]
 | int n i j =>
  intro A u v o f c;obtain⟨t,rfl⟩:=f;obtain⟨C,rfl⟩:=c;exact⟨DK _ _ _ _,λ_ ⟨a,e⟩=>nomatch e⟩
 | str n i j =>
  intro A u v o f c;obtain⟨t,rfl⟩:=f;obtain⟨C,rfl⟩:=c;exact⟨Hc _ _ _ _,λ_ ⟨a,e⟩=>nomatch e⟩
 | lst ne l g D E B =>
  intro A u v o f c;cases f;cases c;obtain⟨p,r1,k1,_⟩:=I.list l;obtain⟨w,r2,k2,_⟩:=I.list g;have m:=r1.length;have q:=r2.length;have z:=Ib (A:=A) (s:=s) k1.isList k2.isList (by rw[g6,g6]; lia) (by lia) (λj h1 h2=>(B j (by simpa [m] using h1) (by simpa [q] using h2) (A:=A.in1) (show A.units+1+_<cLine by lia) (r1.at _ (by simpa using h1)) (r2.at _ (by simpa using h2))).1);rw[g6,<- m] at z;rwa[DM ne z,λ_ _=>z]
 | lstN ne l g D =>
  intro A u v o f c;cases f;cases c;obtain⟨p,r1,k1,_⟩:=I.list l;obtain⟨w,r2,k2,_⟩:=I.list g;have m:=r1.length;have q:=r2.length;have z:=FI (A:=A) (s:=s) k1.isList k2.isList (by rw[g6,g6,bne_iff_ne]; lia) (by lia);rwa[DM ne z,λ_ _=>z]
 | tup ne l g E B =>
  intro A u v o f c;cases f;cases c;obtain⟨p,r1,k1,_⟩:=I.tuple l;obtain⟨w,r2,k2,_⟩:=I.tuple g;have m:=r1.length;have q:=r2.length;have z:=SeqAt.RcAt.tuples (A:=A) (s:=s) (show s.heap.IsTuple _ p.toArray from k1) (show s.heap.IsTuple _ w.toArray from k2) (by lia) (λj h1 h2=>(B j (by simpa [m] using h1) (by simpa [q] using h2) (A:=A.in1) (show A.units+1+_<cLine by lia) (r1.at _ (by simpa using h1)) (r2.at _ (by simpa using h2))).1);rw[g6,g6,<- m,<- q] at z;rwa[DM ne z,λ_ _=>z]
 | tl ne l g =>
  intro A u v o f c;cases f;cases c;obtain⟨p,r1,k1,_⟩:=I.tuple l;obtain⟨w,r2,k2,_⟩:=I.list g;have z:=SeqAt.RcAt.tuple_list (A:=A) (s:=s) (show s.heap.IsTuple _ p.toArray from k1) k2.isList (by lia);rwa[DM ne z,λ_ _=>z]
def rEqD(K:b6):R2:=λx y H Q=>E3 λ(a b:b9) (r:Bool)=>A5 (x=.ref a) (y=.ref b) (a≠b) (Deep K H 8 (.ref a) (.ref b) r) (Q (.bl r) H)
def Qc(g:X.A.units+64<cLine):OpR X (compareOp .Eq) (rEqD X.K):=by
 intro Kl s σ H x y v u Q I f c h;obtain⟨a,b,r,rfl,rfl,ne,d,q⟩:=h;cases f;cases c;refine(Deep.at I d (A:=X.A) (by lia) rfl rfl).2 (λe=>ne (by injection e)) ⟨a,rfl⟩ X.prog X.w _ _ ?_;rwa[.bl r,H,I,rfl,q]
def aB:∀(ns d:List Int),ns.length=d.length->(Ay ns.length).all (λj=>ns.getD j 0 == d.getD j 0)=decide (ns=d)
 | [],[],_=>rfl
 | [],_::_,h=>nomatch h
 | _::_,[],h=>nomatch h
 | x::xs,y::c,h=>by
  have i:=aB xs c (by simpa using h);rw[f9,List.range_succ_eq_map,Eg,DZ];have e:(Ay xs.length).all ((λj=>(x::xs).getD j 0 ==(y::c).getD j 0) ∘ Nat.succ)=decide (xs=c):=by
   rw[<- i];rfl
  rw[e];by_cases f:x=y
  ·by_cases g:xs=c
   ·simp[f,g]
   ·simp[f,g]
  ·simp[f]
def XJ{K:b6}{H:Hp}{a b:b9}{ns c:List Int}(n:Nat)(ne:a≠b)(h:SqL K H a (ns.map V.int))(g:SqL K H b (c.map V.int)):Deep K H (n+1) (.ref a) (.ref b) (decide (ns=c)):=by
 by_cases f:ns.length=c.length
 ·have d:=Deep.lst (n:=n) (e:=λj=>ns.getD j 0 == c.getD j 0) ne h g (by rw[b5,b5]; exact f) λj h1 h2=>by
   rw[Bc,Bc];have l:ns.getD j 0=ns[j]'(by simpa using h1):=by simp[show j<ns.length by simpa using h1]
   have i:c.getD j 0=c[j]'(by simpa using h2):=by simp[show j<c.length by simpa using h2]
   rw[l,i];rwa[.int _ _ _]
  rw[b5,aB ns c f] at d;rwa[d]
 ·rw[y9 (λe=>f (by rw[e]))];rwa[.lstN ne h g (by rw[b5,b5]; exact f)]
def Wr(A:X.calm=Kj):uK X (.builtin "min") (λxs H Q=>E2 λ(p:b9) (ns:List Int)=>A4 (xs=[.ref p]) (SqL X.K H p (ns.map V.int)) (ns≠[]) (∀ M:Int,M∈ns->(∀ a∈ns,M<=a)->Q (.int M) H)):=by
 intro Kl s σ H xs C Q I r h;obtain⟨p,ns,rfl,x,i,q⟩:=h;obtain⟨u,rfl,r1⟩:=lX r;cases r1;obtain⟨f,n,o,D⟩:=I.list x;have hi:CK f.toArray.toList ns:=wj n;obtain⟨d,e⟩:=hi.allInts.items;have c:ns=d.toList.map (·.1):=by rw[<- hi.numsOf,<- nums_intItems,<- e]
 have g:0<d.size:=by
  have h3:0<ns.length:=List.length_pos_iff.mpr i;rw[c,b5,j7] at h3;rwa[h3]
 have B:s.heap.IsList p (intItems d):=by rw[<- e]; rwa[o.isList]
 erw[min_intList (I.ok.hd A) B g λv E m w y=>?_];obtain⟨t,rfl⟩:=intItems_at w;obtain⟨h1,h2⟩:=argBest_lt (numAt d) (d.size-1);erw[.int _,H,I.kept (t':=m) y,⟨t,rfl⟩,q _ ?_ λa l=>?_]
 ·rw[c,numAt_eq]; rwa[getD_mem (by rw[b5,j7]; lia)]
 ·rw[c] at l;obtain⟨j,z,rfl⟩:=mem_getD l;rw[b5,j7] at z;rw[<- numAt_eq]; rwa[h2 j (by lia)]
end
end L2

namespace PyProof.Rows
def rk(r:Ak->Int)(xs:Array Ak)(i:Nat):Int:=(xs[i]?.map r).getD 0
section
variable{r:Ak->Int}{xs zs:Array Ak}{i j:Nat}
def VL(h:i<xs.size):rk r xs i=r xs[i]:=by unfold rk; rw[t6 h]; rfl
def sg(h:xs[i]?=zs[j]?):rk r xs i=rk r zs j:=by unfold rk; rw[h]
end
def Asc(r:Ak->Int)(xs:Array Ak)(lo hi:Nat):Prop:=∀ i j,lo<=i->i<=j->j<hi->rk r xs i<=rk r xs j
def lV(prog:j9)(w:o9)(A:Ad)(s:c8)(d:Bw)(c:List Ak)(r:Ak->Int):Prop :=
 ∀ x y:Ak,x∈c->y∈c->∀ Q:Bool->c8->Prop,Q (decide (r x<r y)) s->wpAny (model prog w) A (keyLt' d x.1 y.1) Q (λ_ _=>False) s
section
variable{prog:j9}{w:o9}{A:Ad}{E:c5->c8->Prop}{s:c8}{st:t8}{κ:Bw}{ys:List Ak}{r:Ak->Int}
def SY(i:lV prog w A s κ ys r)(g:kindOf st=κ){x y:Ak}(f:x∈ys)(d:y∈ys){Q:Option Bool->t8->Prop}(h:Q (Kh (decide (r x<r y))) st):wpS (model prog w) A E s (lt' x y) Q st:=by
 rw[lt'_eq];erw[wpS_bind (wpS_get ?_)];rw[g];erw[wpS_bind (ud (DB (BC (i x y f d (λb c=>c=s/\b=decide (r x<r y)) ⟨rfl,rfl⟩) (λb c e=>?_) λ_ _ e=>e.elim)))];obtain⟨j,rfl⟩:=e;rwa[j,wpS_pure h]
end
structure Mrg(R:Ak->Ak->Prop)(T o p q:List Ak):Prop where
 pm:(o++(p++q)).Perm T
 sp:(o++p).Pairwise R
 sq:(o++q).Pairwise R
section
variable{r:Ak->Int}{x y out:Array Ak}{ia ib na nb i:Nat}{c:Int}
structure TookR(r:Ak->Int)(x y out:Array Ak)(ia ib:Nat):Prop where
 m:Mrg (λu v=>r u<=r v) (x.toList++y.toList) out.toList (x.toList.drop ia) (y.toList.drop ib)
 la:ia<=x.size
 lb:ib<=y.size
structure LeftR(r:Ak->Int)(x y out:Array Ak)(na nb:Nat):Prop where
 m:Mrg (λu v=>r v<=r u) (x.toList++y.toList) out.toList (x.toList.take na).reverse (y.toList.take nb).reverse
 la:na<=x.size
 lb:nb<=y.size
end
end PyProof.Rows

namespace PyProof.Rows
section
variable{r:Ak->Int}{xs:Array Ak}{lo hi:Nat}
def Asc.snoc(h:Asc r xs lo hi)(d:lo<hi)(o:rk r xs (hi-1)<=rk r xs hi):Asc r xs lo (hi+1):=by
 intro i j h1 h2 h3;by_cases c:j<hi
 ·rwa[h i j h1 h2 c]
 ·have e:j=hi:=by lia
  subst e;by_cases c2:i=j
  ·subst c2;rwa[Ci _]
  ·rwa[BU (h i (j-1) h1 (by lia) (by lia)) o]
def Asc.one:Asc r xs lo (lo+1):=λi j h1 h2 h3=>by
 rw[show i=j by lia];rwa[Ci _]
def Dsc(r:Ak->Int)(xs:Array Ak)(lo hi:Nat):Prop:=∀ i j,lo<=i->i<=j->j<hi->rk r xs j<=rk r xs i
def Dsc.snoc(h:Dsc r xs lo hi)(d:lo<hi)(o:rk r xs hi<=rk r xs (hi-1)):Dsc r xs lo (hi+1):=by
 intro i j h1 h2 h3;by_cases c:j<hi
 ·rwa[h i j h1 h2 c]
 ·have e:j=hi:=by lia
  subst e;by_cases c2:i=j
  ·subst c2;rwa[Ci _]
  ·rwa[BU o (h i (j-1) h1 (by lia) (by lia))]
def Dsc.ranks(h:Dsc r xs lo hi)(e:∀ j,rk r c j=rk r xs j):Dsc r c lo hi:=λi j h1 h2 h3=>by
 rw[e i,e j];rwa[h i j h1 h2 h3]
def kz{i j:Nat}(c:j<=xs.size)(k:Nat):rk r (mirror xs i j ((j-i)/2)) k=if i<=k/\k<j then rk r xs (i+j-1-k) else rk r xs k:=by
 have e:=getElem?_mirror_all (i:=i) c k;by_cases h1:i<=k/\k<j
 ·rw[y7 h1] at e ⊢; rwa[sg e]
 ·rw[y6 h1] at e ⊢; rwa[sg e]
def sV{i j:Nat}(d:j<=xs.size)(c:∀ k,i<=k->k<j->rk r xs k=rk r xs (j-1))(k:Nat):rk r (mirror xs i j ((j-i)/2)) k=rk r xs k:=by
 rw[kz d];split
 ·rw[c _ (by lia) (by lia),c k (by lia) (by lia)]
 ·rfl
def Dsc.turn(h:Dsc r xs lo hi)(c:hi<=xs.size):Asc r (mirror xs lo hi ((hi-lo)/2)) lo hi:=λi j h1 h2 h3=>by
 rw[kz c,kz c,y7 ⟨h1,by lia⟩,y7 ⟨by lia,h3⟩];rwa[h _ _ (by lia) (by lia) (by lia)]
def fT{src d:Nat}(c:src<xs.size)(hd:d<=src)(k:Nat):rk r (bubble xs src d) k=if k=src-d then rk r xs src else if src-d<k/\k<=src then rk r xs (k-1) else rk r xs k:=by
 have e:=getElem?_bubble c d hd k;by_cases h1:k=src-d
 ·rw[y7 h1] at e ⊢; rwa[sg e]
 ·rw[y6 h1] at e ⊢;by_cases h2:src-d<k/\k<=src
  ·rw[y7 h2] at e ⊢; rwa[sg e]
  ·rw[y6 h2] at e ⊢; rwa[sg e]
def Sc(h:∀ i,lo<=i->i+1<hi->rk r xs i<=rk r xs (i+1)):Asc r xs lo hi:=λi j h1 h2 h3=>by
 obtain⟨d,rfl⟩:=Nat.le.dest h2
 induction d with
 | zero=>rwa[Ci _]
 | succ d c=>rwa[BU (c (FT _ _) (Nat.lt_of_succ_lt h3)) (h (i+d) (g7 h1 (FT _ _)) h3)]
def Zv{k l:Nat}(as:Asc r xs lo (lo+k))(d:lo+k<xs.size)(n:l<=k)(h:0<l->rk r xs (lo+(l-1))<=rk r xs (lo+k))(g:l<k->rk r xs (lo+k)<=rk r xs (lo+l)):Asc r (bubble xs (lo+k) (lo+k-(lo+l))) lo (lo+(k+1)):=Sc λi f m=>by
 have e:lo+k-(lo+k-(lo+l))=lo+l:=by lia
 rw[fT d (Nat.sub_le _ _),fT d (Nat.sub_le _ _),e];clear e;by_cases o:i+1<lo+l
 ·rw[y6 (by lia),y6 (by lia),y6 (by lia),y6 (by lia)];rwa[as _ _ f (Bi _) (by lia)]
 by_cases j:i+1=lo+l
 ·rw[y6 (by lia),y6 (by lia),y7 j];have z:=h (by lia);(rw[show lo+(l-1)=i by lia] at z;assumption)
 by_cases c:i=lo+l
 ·rw[y7 c,y6 (by lia),y7 ⟨by lia,by lia⟩,c];rwa[g (by lia)]
 ·rw[y6 c,y7 ⟨by lia,by lia⟩,y6 (by lia),y7 ⟨by lia,by lia⟩];rwa[as _ _ (by lia) (by lia) (by lia)]
end
section
variable{prog:j9}{w:o9}{A:Ad}{E:c5->c8->Prop}{s:c8}{st st':t8}{κ:Bw}{ys:List Ak}{r:Ak->Int}
def XR(f:lV prog w A s κ ys r)(e:xN κ ys st){i j:Nat}(hi:i<ys.length)(g:j<ys.length){Q:Option Bool->t8->Prop}(h:Q (Kh (decide (rk r (arrOf st) i<rk r (arrOf st) j))) st):wpS (model prog w) A E s (ltAt' i j) Q st:=by
 rw[ltAt'_eq];have z:=e.size;have d:i<(arrOf st).size:=by lia
 have c:j<(arrOf st).size:=by lia
 erw[tW ?_];erw[zY d ?_];erw[zY c ?_];rw[VL d,VL c] at h;rwa[SY f e.kind (e.mem _) (e.mem _) h]
def qA{c:Type}(e:lV prog w A s κ ys r)(g:xN κ ys st){i j:Nat}(hi:i<ys.length)(d:j<ys.length){f:Option Bool->StateT t8 Fi c}{Q:c->t8->Prop}(h:wpS (model prog w) A E s (f (Kh (decide (rk r (arrOf st) i<rk r (arrOf st) j)))) Q st):wpS (model prog w) A E s (ltAt' i j >>= f) Q st:=wpS_bind (XR e g hi d h)
structure uq(κ:Bw)(ys:List Ak)(lo:Nat)(st st':t8):Prop where
 base:xN κ ys st'
 pend:pendingOf st'=pendingOf st
 fix:∀ j,j<lo->(arrOf st')[j]?=(arrOf st)[j]?
def uq.rev{lo:Nat}(h:uq κ ys lo st st'){i j:Nat}(hi:lo<=i)(d:j<=ys.length):uq κ ys lo st (setArr st' (mirror (arrOf st') i j ((j-i)/2))):=by
 erw[h.base.set (mirror_perm _ _ _ _),h.pend,λk c=>?_];show(mirror (arrOf st') i j ((j-i)/2))[k]?=_;rw[getElem?_mirror_all (by rw[h.base.size]; rwa[d]),y6 (by lia)];rwa[h.fix k c]
def rn(J:lV prog w A s κ ys r)(O:xN κ ys st){lo d:Nat}(h1:1<=d)(hn:lo+d<=ys.length){Q:Option Nat->t8->Prop}
  (h:∀ m st',uq κ ys lo st st'->1<=m->m<=d->Asc r (arrOf st') lo (lo+m)->Q (Kh m) st'):wpS (model prog w) A E s (countRun' lo d) Q st:=by
 rw[countRun'_eq];erw[xF (I:=λx c st'=>st'=st/\c=(Ki,x)/\Asc r (arrOf st) lo (lo+x)) (Q:=λc st'=>∃ n,L2.A6 (st'=st) (c=(Ki,n)) (1<=n) (n<=d) (Asc r (arrOf st) lo (lo+n)) (n<d->rk r (arrOf st) (lo+n)<rk r (arrOf st) (lo+n-1))) ?_ ?_ ⟨rfl,rfl,Asc.one⟩ ?_]
 ·rintro x c st' B D ⟨rfl,rfl,as⟩;erw[qA J O (by dsimp only; lia) (by dsimp only; lia) ?_];by_cases c:rk r (arrOf st') (lo+x)<rk r (arrOf st') (lo+x-1)
  ·rw[y8 c];rwa[wpS_pure ⟨x,rfl,rfl,B,by lia,as,λ_=>c⟩]
  ·rw[y9 c];rwa[wpS_pure ⟨rfl,rfl,as.snoc (by lia) (Gb.mp c)⟩]
 ·rintro c st' ⟨rfl,rfl,as⟩;have e:max 1 d=d:=by lia
  rw[e] at as ⊢;rwa[_,rfl,rfl,by lia,by lia,as,λz=>x4 z (by lia)]
 rintro c f ⟨n,rfl,rfl,n1,n2,as,l⟩;dsimp only;have N:uq κ ys lo f f:=⟨O,rfl,λ_ _=>rfl⟩;have z1:=O.size;erw[yN (λe=>wpS_pure (h _ _ N n1 n2 as)) (λe1=>?_)];have l:=l (by lia);apply kO (prog:=prog) (w:=w) (A:=A) (E:=E) (s:=s) (P:=λy=>uq κ ys lo f y/\Dsc r (arrOf y) lo (lo+(n+1))) (Q:=Q)
 case use =>
  intro H;erw[yB (λX=>?_) (λX=>?_)]
  ·erw[qA J O (by lia) (by lia) ?_];by_cases c:rk r (arrOf f) lo<rk r (arrOf f) (lo+n-1)
   ·rw[y8 c];rwa[wpS_pure (h _ _ N n1 n2 as)]
   ·rw[y9 c];have eq:∀ k,lo<=k->k<lo+n->rk r (arrOf f) k=rk r (arrOf f) (lo+n-1):=λk k1 k2=>by
     have y1:=as lo k (f6 _) k1 k2;have y2:=as k (lo+n-1) k1 (by lia) (by lia);lia
    have v:=sV (r:=r) (xs:=arrOf f) (i:=lo) (j:=lo+n) (by lia) eq;have p:Dsc r (arrOf f) lo (lo+n):=λi j i1 i2 Z=>by
     rw[eq i i1 (by lia),eq j (by lia) Z];rwa[Ci _]
    erw[wpS_bind (wpS_reverse (H _ ⟨N.rev (f6 _) (by lia),?_⟩))];rwa[Dsc.ranks (p.snoc (by lia) (v8 l)) v]
  ·have e:n=1:=by lia
   subst e;refine H _ ⟨N,?_⟩;have p:Dsc r (arrOf f) lo (lo+1):=λi j i1 i2 Z=>by
    rw[show i=j by lia];rwa[Ci _]
   rwa[p.snoc (by lia) (v8 l)]
 intro y ⟨S,p⟩;erw[qC ?_];refine xF (I:=λx c st'=>∃ q,L2.A5 (uq κ ys lo f st') (c=(Ki,x,q)) (Dsc r (arrOf st') lo (lo+x)) (q+1<=x) (∀ j,lo+x-(q+1)<=j->j<lo+x->rk r (arrOf st') j=rk r (arrOf st') (lo+x-1))) (Q:=λc st'=>L2.E2 λm q=>L2.A7 (uq κ ys lo f st') (c=(Ki,m,q)) (1<=m) (m<=d) (Dsc r (arrOf st') lo (lo+m)) (q+1<=m) (∀ j,lo+m-(q+1)<=j->j<lo+m->rk r (arrOf st') j=rk r (arrOf st') (lo+m-1))) ?_ ?_ ⟨_,S,rfl,p,by lia,λj T R=>by rw[show j=lo+(n+1)-1 by lia]⟩ ?_
 ·rintro x c g B D ⟨q,o,rfl,p,G,eq⟩;have z3:=o.base.size;dsimp only;erw[qA J o.base (by lia) (by lia) ?_];by_cases c:rk r (arrOf g) (lo+x)<rk r (arrOf g) (lo+x-1)
  ·rw[y8 c];erw[yB (λ_=>?_) (λe=>x4 rfl e)];have M:=p.snoc (by lia) (v8 c);erw[yB (λe=>?_) (λe=>?_)]
   ·have v:=sV (r:=r) (xs:=arrOf g) (i:=lo+x-(q+1)) (j:=lo+x) (by lia) eq;exact wpS_bind (wpS_reverse (wpS_pure ⟨_,o.rev (by lia) (by lia),rfl,Dsc.ranks M v,by lia,λj T R=>by rw[show j=lo+(x+1)-1 by lia]⟩))
   ·exact wpS_pure ⟨_,o,rfl,M,by lia,λj T R=>by rw[show j=lo+(x+1)-1 by lia]⟩
  ·rw[y9 c];erw[qA J o.base (by lia) (by lia) ?_];by_cases c2:rk r (arrOf g) (lo+x-1)<rk r (arrOf g) (lo+x)
   ·rw[y8 c2];rwa[wpS_pure ⟨_,_,o,rfl,by lia,by lia,p,G,eq⟩]
   ·rw[y9 c2];have e0:rk r (arrOf g) (lo+x)=rk r (arrOf g) (lo+x-1):=by lia
    erw[wpS_pure ⟨_,o,rfl,p.snoc (by lia) (by lia),by lia,λj T R=>?_⟩];rw[show lo+(x+1)-1=lo+x by lia,e0];by_cases cj:j=lo+x
    ·rw[cj,e0]
    ·rwa[eq j (by lia) (by lia)]
 ·rintro c g ⟨q,o,rfl,p,G,eq⟩;have e:max (n+1) d=d:=by lia
  rw[e] at p G eq ⊢;rwa[_,_,o,rfl,by lia,by lia,p,G,eq]
 rintro c g ⟨m,q,o,rfl,m1,m2,L,G,eq⟩;have z3:=o.base.size;dsimp only;apply kO (prog:=prog) (w:=w) (A:=A) (E:=E) (s:=s) (P:=λu=>uq κ ys lo f u/\Dsc r (arrOf u) lo (lo+m)) (Q:=Q)
 case use =>
  intro H;erw[yB (λX=>?_) (λX=>?_)]
  ·have v:=sV (r:=r) (xs:=arrOf g) (i:=lo+m-(q+1)) (j:=lo+m) (by lia) eq;rwa[wpS_bind (wpS_reverse (H _ ⟨o.rev (by lia) (by lia),Dsc.ranks L v⟩))]
  ·rwa[H _ ⟨o,L⟩]
 intro u ⟨S4,ds4⟩;have z4:=S4.base.size;erw[wpS_bind (wpS_reverse ?_)];have S5:=S4.rev (i:=lo) (j:=lo+m) (f6 _) (by lia);have Y:Asc r (arrOf (setArr u (mirror (arrOf u) lo (lo+m) ((lo+m-lo)/2)))) lo (lo+m):=ds4.turn (by lia);erw[xF (I:=λx c st'=>uq κ ys lo f st'/\c=(Ki,x)/\Asc r (arrOf st') lo (lo+x)) (Q:=λc st'=>∃ n,L2.A5 (uq κ ys lo f st') (c=(Ki,n)) (1<=n) (n<=d) (Asc r (arrOf st') lo (lo+n))) ?_ ?_ ⟨S5,rfl,Y⟩ ?_]
 ·rintro x c st' B D ⟨C,rfl,as⟩;erw[qA J C.base (by dsimp only; lia) (by dsimp only; lia) ?_];by_cases c:rk r (arrOf st') (lo+x)<rk r (arrOf st') (lo+x-1)
  ·rw[y8 c];rwa[wpS_pure ⟨x,C,rfl,by lia,by lia,as⟩]
  ·rw[y9 c];rwa[wpS_pure ⟨C,rfl,as.snoc (by lia) (Gb.mp c)⟩]
 ·rintro c st' ⟨C,rfl,as⟩;have e:max m d=d:=by lia
  rw[e] at as ⊢;rwa[_,C,rfl,by lia,by lia,as]
 rintro c st6 ⟨k,C,rfl,r1,r2,as⟩;rwa[wpS_pure (h _ _ C r1 r2 as)]
def xt(z:lV prog w A s κ ys r)(B:xN κ ys st){lo n ok:Nat}(M:lo+n<=ys.length)(h1:1<=ok)(h2:ok<=n)(p:Asc r (arrOf st) lo (lo+ok)){Q:Bool->t8->Prop}
  (h:∀ st',uq κ ys lo st st'->Asc r (arrOf st') lo (lo+n)->Q Kj st'):wpS (model prog w) A E s (binarySort' lo n ok) Q st:=by
 rw[binarySort'_eq];have G:max ok 1=ok:=by lia
 rw[G];refine xF (I:=λk c st'=>c=(Ki,())/\uq κ ys lo st st'/\Asc r (arrOf st') lo (lo+k)) (Q:=λc st'=>c=(Ki,())/\uq κ ys lo st st'/\Asc r (arrOf st') lo (lo+n)) ?_ (λ_ _ h=>by rw[show max ok n=n by lia] at h; rwa[h]) ⟨rfl,⟨B,rfl,λ_ _=>rfl⟩,p⟩ ?_
 ·rintro k c d v u ⟨rfl,S,as⟩;have H:=S.base.size;erw[xF (I:=λx c st'=>L2.E2 λl q=>L2.A7 (st'=d) (c=(Ki,l,q)) (l<=q) (q<=k) (q-l<=k-x) (∀ j,j<l->rk r (arrOf d) (lo+j)<=rk r (arrOf d) (lo+k)) (∀ j,q<=j->j<k->rk r (arrOf d) (lo+k)<rk r (arrOf d) (lo+j))) (Q:=λc st'=>L2.E2 λl q=>L2.A6 (st'=d) (c=(Ki,l,q)) (l=q) (q<=k) (∀ j,j<l->rk r (arrOf d) (lo+j)<=rk r (arrOf d) (lo+k)) (∀ j,q<=j->j<k->rk r (arrOf d) (lo+k)<rk r (arrOf d) (lo+j))) ?_ ?_ ⟨_,_,rfl,rfl,t9 _,f6 _,by lia,λj h=>x4 h (Bj _),λj h1 h2=>x4 h2 (by lia)⟩ ?_]
  ·rintro x c f _ L ⟨l,q,rfl,rfl,D,m,C,i,g⟩;dsimp only;erw[yB (λe=>wpS_pure ⟨_,_,rfl,rfl,by lia,m,i,g⟩) (λe=>?_)];erw[qA z S.base (by lia) (by lia) ?_];by_cases c:rk r (arrOf f) (lo+k)<rk r (arrOf f) (lo+(l+q)/2)
   ·rw[y8 c];erw[wpS_pure ⟨_,_,rfl,rfl,by lia,by lia,by lia,i,λj o J=>?_⟩];rwa[Int.lt_of_lt_of_le c (as _ _ (by lia) (by lia) (by lia))]
   ·rw[y9 c];erw[wpS_pure ⟨_,_,rfl,rfl,by lia,by lia,by lia,λj o=>?_,g⟩];rwa[BU (as _ _ (by lia) (by lia) (by lia)) (Gb.mp c)]
  ·rintro c f ⟨l,q,rfl,rfl,D,m,C,i,g⟩;rwa[_,_,rfl,rfl,by lia,m,i,g]
  ·rintro c f ⟨l,q,rfl,rfl,rfl,m,i,g⟩;show wpS _ _ _ _ (do moveDown' (lo+k) (lo+l); pure (BI (Ki,()))) _ _;rw[moveDown'_eq];erw[rN (wpS_pure ⟨rfl,⟨S.base.set (bubble_perm _ _ _),S.pend,λj y=>?_⟩,?_⟩)]
   ·show(bubble (arrOf f) (lo+k) (lo+k-(lo+l)))[j]?=_;rw[getElem?_bubble (by lia) _ (by lia),y6 (by lia),y6 (by lia)];rwa[S.fix j y]
   ·rwa[Zv as (by lia) m (λh=>i _ (Nat.sub_lt h Nat.one_pos)) λh=>v8 (g l (f6 _) h)]
 ·rintro c d ⟨rfl,S,as⟩;rwa[wpS_pure (h _ S as)]
end
end PyProof.Rows

namespace HT
end HT
namespace PySem.W
open PySem PySem.Calls PyProof.Rows
section
variable{prog:j9}{w:o9}{A:Ad}{E:c5->c8->Prop}{s:c8}
def cw{c:List c5}{n:Nat}{P:Kg->c8->Prop}(G:Prop){p:c5->Int}(C:s.heap.get? a=Kh (seqObj "list" c.toArray n))(B:c.length<=sizeLine)
  (L:2<=c.length->∀ Q:Bw->c8->Prop,(∀ o,Q o { s with heap:=yi s.heap a c })->wpAny (model prog w) A (keyKind' c.toArray) Q E { s with heap:=yi s.heap a c })
  (run:2<=c.length->∀(o:Bw)(st:t8),xN o (c.zip c) st->pendingOf st = #[]->∀ Q:Unit->t8->Prop,(∀ d,xN o (c.zip c) d->(G->Asc (λx=>p x.2) (arrOf d) 0 (c.zip c).length)->Q () d)->wpS (model prog w) A E { s with heap:=yi s.heap a c } sortRuns' Q st)
  (h:∀ out:List c5,out.Perm c->(G->out.Pairwise (λu v=>p u<=p v))->P (.done (.ret .none)) { s with heap:=sortedHeap s.heap a c out.toArray }) :
  wpAny (model prog w) A (Cw.«list.sort» ⟨[.ref a],[]⟩) P E s:=by
 have N:a<s.heap.objs.size:=i5 C;obtain⟨J,r⟩:∃ J,(s.heap.update a (AX λ_=>(#[]:Array c5))).get? a=Kh (seqObj "list" #[] J):=⟨_,get?_update_seq C λ_=>#[]⟩;have l:(yi s.heap a c).get? a=Kh (seqObj "list" #[] J):=c9 _ (c9 _ r);rw[list_sort_plain];refine b7 (listItems_at C rfl ?_);refine b7 (listUpdate_at C rfl ?_ (by rw[g6]; exact B) (t9 _));refine b7 (seqEpoch_at r rfl ?_);refine b7 (wpAny_newTuple ?_ (by show c.length<=_; exact B));refine b7 (Eh ?_ (t9 _));refine BR ?_;show wpAny (model prog w) A _ P E { s with heap:=yi s.heap a c };dsimp only;have m:(c.toArray.zip c.toArray).map (·.2)=c.toArray:=by
  apply FU.mp;rw[Ic,Ie];rwa[FV (f6 _)]
 by_cases h2:c.toArray.size<2
 ·rw[y7 h2,y7 h2];rw[g6] at h2;refine b7 (d9 ?_);rw[Iy];refine b7 (d9 ?_);dsimp only;refine b7 (seqEpoch_at l rfl ?_);refine b7 (listUpdate_at l rfl ?_ (t9 _) (Hv (g7 (EC ((congrArg Array.size m).trans g6)) B)));simp only[bne_self_eq_false,Bt,if_false];refine d9 ?_;have q:=h c (ET _) (λ_=>by
   match c,h2 with
   | [],_=>rwa[.nil]
   | [x],_=>rwa[CP ..]
   | _::_::_,h=>rwa[x4 h (by simp)])
  rw[<- m] at q;rwa[q]
 ·rw[y6 h2,y6 h2];rw[g6] at h2;have y:2<=c.length:=by lia
  refine b7 (L y _ λo=>?_);refine b7 (BC (run y o _ ⟨by rw[show arrOf _=c.toArray.zip c.toArray from rfl,Ie],rfl,rfl⟩ rfl (λ_ d=>xN o (c.zip c) d/\(G->Asc (λx=>p x.2) (arrOf d) 0 (c.zip c).length)) λd b as=>⟨b,as⟩) ?_ λ_ _ e=>e);rintro⟨⟨⟩,d⟩ M ⟨rfl,b,as⟩;dsimp only;have pm:((arrOf d).map (·.2)).toList.Perm c:=by
   rw[Ic];refine(b.perm.map _).trans (Ix ?_);rwa[FV (f6 _)]
  have D:((arrOf d).map (·.2)).size<=sizeLine:=by
   rw[<- j7,pm.length_eq];rwa[B]
  have pw:G->((arrOf d).map (·.2)).toList.Pairwise (λu v=>p u<=p v):=λg=>by
   rw[Dr];intro i j hi H I;rw[j7,IM] at hi H;have z:=as g i j (t9 _) (Bq I) (by rw[<- b.size]; rwa[H]);rw[VL hi,VL H] at z;rw[Bx,Bx,Hw,Hw];rwa[z]
  erw[b7 (seqEpoch_at l rfl ?_)];erw[b7 (listUpdate_at l rfl ?_ (t9 _) (Hv D))];rw[b.failed];simp only[bne_self_eq_false,Bt,if_false];have q:=h _ pm pw;rw[El] at q;rwa[d9 q]
def Vm(G:Prop){c:List c5}{Q:c5->c8->Prop}{ρ:c5->Int}(z:s.heap.IsList l c.toArray)(n:c.length<=sizeLine)
  (B:2<=c.length->∀ f:c8,(∀ b o,s.heap.get? b=Kh o->f.heap.get? b=Kh o)->∀(q:c5->c8->Prop)(Q:Bw->c8->Prop),(∀ j,Q j f)->wpAny (model prog w) A.in1.in1 (keyKind' c.toArray) Q q f)
  (run:2<=c.length->∀ f:c8,(∀ b o,s.heap.get? b=Kh o->f.heap.get? b=Kh o)->∀(q:c5->c8->Prop)(j:Bw)(st:t8),xN j (c.zip c) st->pendingOf st = #[]->∀ Q:Unit->t8->Prop,(∀ d,xN j (c.zip c) d->(G->Asc (λx=>ρ x.2) (arrOf d) 0 (c.zip c).length)->Q () d)->wpS (model prog w) A.in1.in1 q f sortRuns' Q st)
  (h:∀ out:List c5,out.Perm c->(G->out.Pairwise (λu v=>ρ u<=ρ v))->Q (.ref (s.heap.objs.size+1)) { s with heap:=sortedAll s.heap c out.toArray }) :
  wpAny (model prog w) A (call (.builtin "sorted") [.ref l]) Q E s:=by
 refine Du kind_sorted plain_sorted entry_sorted (args_sorted1 _) ?_;unfold Cw.«sorted»;refine b7 (m:=checkCount "sorted" 1 1 _) (d9 ?_);refine b7 (collect_list z ?_ n);refine b7 (Eh ?_ n);have g:((s.heap.push (seqObj "list" #[] 0)).update s.heap.objs.size (AX (· ++ c.toArray))).objs.size=s.heap.objs.size+1:=by
  rw[Heap.size_update,size_push']
 have i:(vm s.heap c).get? (s.heap.objs.size+1)=Kh (seqObj "list" c.toArray 0):=by
  unfold vm;rw[<- g]; rwa[i7 _ rfl]
 have keep:∀ b o,s.heap.get? b=Kh o->(yi (vm s.heap c) (s.heap.objs.size+1) c).get? b=Kh o:=λb o e=>by
  have p:b<s.heap.objs.size:=i5 e;rwa[cv (m7 (DW p)) (dW e)]
 show wpAny _ _ _ _ _ { s with heap:=vm s.heap c };rw[g];erw[b7 (BR (Ba slot_list_sort ⟨_,i,rfl⟩ entry_list_sort ?body (args_list_sort _)))]
 case body =>
  exact cw G (s:={ s with heap:=vm s.heap c }) i n (λh2 D r=>B h2 _ keep _ D r) (λh2=>run h2 _ keep _) λout C y=>⟨_,rfl,d9 ⟨_,rfl,h out C y⟩⟩
end
end PySem.W
namespace L2
open PySem PySem.Spec PyProof.Rows PySem.W
def ik(all:List (List Int))(a:List Int):Int:=((all.filter λb=>HT.lexLt b a).length:Int)
def ml{d:Type}{p q:d->Bool} : ∀{l:List d},(∀ x∈l,p x=Kj->q x=Kj)->(l.filter p).length<=(l.filter q).length
 | [],_=>f6 _
 | x::l,h=>by
  have e:=ml (l:=l) λy f=>h y (.tail _ f);rw[BO,BO];by_cases c:p x=Kj
  ·rw[y7 c,y7 (h x (.head _) c),f9,f9];lia
  ·rw[y6 c];split
   ·rw[f9]; lia
   ·rwa[e]
def gH{d:Type}{p q:d->Bool} : ∀{l:List d}{z:d},(∀ x∈l,p x=Kj->q x=Kj)->z∈l->p z=Kk->q z=Kj->(l.filter p).length<(l.filter q).length
 | x::l,z,h,e,h1,h2=>by
  rw[BO,BO];rcases j5.mp e with rfl | e
  ·rw[y6 (by rw[h1]; decide),y7 h2,f9];have:=ml (l:=l) λy f=>h y (.tail _ f);lia
  ·have g:=gH (l:=l) (λy f=>h y (.tail _ f)) e h1 h2;by_cases c:p x=Kj
   ·rw[y7 c,y7 (h x (.head _) c),f9,f9];lia
   ·rw[y6 c];split
    ·rw[f9]; lia
    ·rwa[g]
def Xw{all:List (List Int)}{a b:List Int}(d:a∈all):decide (ik all a<ik all b)=HT.lexLt a b:=by
 unfold ik;cases e:HT.lexLt a b with
 | true =>
  erw[y8 (Int.ofNat_lt.mpr (gH (z:=a) (λx _ c=>aw x a b c e) d (fO a) e))]
 | false =>
  erw[y9 (Gb.mpr (JO.mpr (ml λx _ c=>?_)))];rcases bq x a b c with h | h
  ·rwa[h]
  ·rw[e] at h; cases h
def Rm{all:List (List Int)}{a b:List Int}(c:b∈all)(h:ik all a<=ik all b):HT.lexLt b a=false:=by
 have z:=Xw (b:=a) c;rw[y9 (Gb.mpr h)] at z;rwa[z.symm]
def aT(xs:List V):List Int:=xs.map λ| V.int i=>i | _=>0
def jC:∀ ns:List Int,aT (ns.map V.int)=ns
 | []=>rfl
 | x::ns=>by
  show x::aT (ns.map V.int)=_;rw[jC ns]
def Yg(H:Hp):c5->List Int
 | .ref a=>match H a with
  | some (.lst xs)=>aT xs
  | some (.tup xs)=>aT xs
  | _=>[]
 | _=>[]
def ue{H:Hp}{ns:List Int}(h:H a=Kh (.tup (ns.map V.int))):Yg H (.ref a)=ns:=by
 show(match H a with | some (.lst xs)=>aT xs | some (.tup xs)=>aT xs | _=>[])=_;rw[h];rwa[jC ns]
section
variable{prog:j9}{w:o9}{A:Ad}{E:c5->c8->Prop}{s:c8}
def gG{C:Bool->c8->Prop}{b d:Bool} : ∀{ns f:List Int}{j g:List c5}(_:yW (ns.map V.int) j)(_:yW (f.map V.int) g)(i:Nat)(_:d=decide (ns.length<f.length))(_:C (HT.lexLt ns f) s),KatLex prog w A b d C (j.zip g) i s
 | [],[],_,_,r1,r2,i,c,h=>by
  cases r1;cases r2;rw[c];rwa[kat_nil h]
 | [],_::_,_,_,r1,_,i,c,h=>by
  cases r1;rw[c];erw[kat_nil ?_];rwa[h]
 | _::_,[],_,_,r1,r2,i,c,h=>by
  cases r2;rw[c,G8];rwa[kat_nil h]
 | x::xs,y::n,_,_,r1,r2,i,c,h=>by
  cases r1 with
  | cons p1 m =>
   cases r2 with
   | cons p2 l =>
    obtain⟨t,rfl⟩:=p1;obtain⟨o,rfl⟩:=p2;rw[EQ];erw[kat_cons (FL ?_)];rw[HT.lexLt_cons] at h;by_cases e:x=y
    ·rw[y7 e] at h;rw[show(x == y)=Kj from by simpa using e];erw[kat_yes (gG m l (i+1) ?_ h)];rw[c,f9,f9];rwa[decide_eq_decide.mpr ⟨λz=>by lia,λz=>by lia⟩]
    ·rw[y6 e] at h;rw[show(x == y)=Kk from by simpa using e];erw[kat_no ?_];cases (b&&i == 0) with
     | true=>rwa[oneLt_int h]
     | false=>rwa[kat_one _ _ (wpAny_lt_int h)]
def ZB{g:List c5}{ρ:c5->Int}(M:A.units<cLine)(N:∀ v∈g,∃ ns,Yu s.heap v ns)(r:∀ u∈g,∀ v∈g,∀ ns d,Yu s.heap u ns->Yu s.heap v d->decide (ρ u<ρ v)=HT.lexLt ns d)(C:Bw):lV prog w A s C (g.zip g) λx=>ρ x.2:=λx y S R Q h=>by
 have p:=mem_zip_self S;have m:=mem_zip_self R;obtain⟨ns,j⟩:=N _ p.2;obtain⟨d,i⟩:=N _ m.2;have h:Q (HT.lexLt ns d) s:=by
  rw[<- r x.2 (by rw[<- p.1]; rwa[p.2]) y.2 (by rw[<- m.1]; rwa[m.2]) ns d (by rw[<- p.1]; rwa[j]) (by rw[<- m.1]; rwa[i])];rwa[h]
 obtain⟨a,o,n,G,X,l,z,hd,r1⟩:=j;obtain⟨b,H,I,D,T,e,f,c,r2⟩:=i;rw[X,T];have L:CK G.toArray.toList ns:=wj r1;have J:CK D.toArray.toList d:=wj r2;rcases C with _ | _ | Z
 ·show wpAny (model prog w) A (oneLt' Kk (.ref a) (.ref b)) Q _ s;exact kat_one _ _ (HT.lt_tupInts ⟨o,l,z,n,hd⟩ ⟨H,e,f,I,c⟩ L J M (by first | exact h | exact⟨_,U,h⟩))
 ·show wpAny (model prog w) A (oneLt' Kj (.ref a) (.ref b)) Q _ s;rw[oneLt'_eq];simp only[if_true];erw[b7 (wpAny_cRoomFor M ?_)];obtain⟨cls,Y,data,P⟩:=o;obtain⟨O,B,data2,q⟩:=H;simp only at z hd f c;subst z hd f c;erw[b7 (wpAny_callSpecialIfBound?_slot ⟨_,l,rfl⟩ D6 (call_meets D6 ⟨_,l,rfl⟩ F8 (FN _ _) (HT.tuple_lt_ints a b G.toArray D.toArray n I Y B P q ns d L J) ⟨l,e,?_⟩))];rwa[Cy h]
 ·have j:=r1.length;have i:=r2.length;rw[b5] at j i;rwa[kat_lt l hd e c (gG r1 r2 0 (by rw[g6,g6,<- j,<- i]) h)]
end
def Wi:∀{ns d:List Int}{c:List c5},yW (ns.map V.int) c->yW (d.map V.int) c->ns=d
 | [],[],_,_,_=>rfl
 | [],_::_,_,r1,r2=>by cases r1; cases r2
 | _::_,[],_,r1,r2=>by cases r2; cases r1
 | x::xs,y::h,_,r1,r2=>by
  cases r1 with
  | cons p1 g =>
   cases r2 with
   | cons p2 f =>
    obtain⟨t,rfl⟩:=p1;obtain⟨i,e⟩:=p2;cases e;rw[Wi g f]
def Yu.inj(a:Yu h v ns)(b:Yu h v f):ns=f:=by
 obtain⟨p,o,n,d,rfl,j,_,l,r1⟩:=a;obtain⟨q,m,r,c,e,g,_,i,r2⟩:=b;cases e;rw[j] at g;cases g;rw[l] at i;injection i with d3 d4
 have e:d=c:=by injection d3
 subst e;rwa[Wi r1 r2]
end L2

namespace PyProof.Rows
section
variable{prog:j9}{w:o9}{A:Ad}{E:c5->c8->Prop}{s:c8}{st st':t8}{κ:Bw}{ys:List Ak}{r:Ak->Int}
def gv(h2:2<=ys.length)(B:ys.length<64)(q:lV prog w A s κ ys r)(u:xN κ ys st)(p:pendingOf st = #[]){Q:Unit->t8->Prop}(h:∀ st',xN κ ys st'->Asc r (arrOf st') 0 ys.length->Q () st'):wpS (model prog w) A E s sortRuns' Q st:=by
 rw[sortRuns'_eq];refine wpS_bind (wpS_get ?_);dsimp only;rw[u.size];have em:minRun' ys.length ys.length 0=ys.length:=by
  obtain⟨k,e⟩:∃ k,ys.length=k+1:=⟨ys.length-1,by lia⟩;rw[e,minRun'_succ,y7 (by lia),JP]
 rw[em];erw[wpS_bind (wpS_mono (wpS_forRange (I:=λx c st'=>(x=0/\c=(Ki,0)/\st'=st)\/(1<=x/\c=(Ki,ys.length)/\xN κ ys st'/\Asc r (arrOf st') 0 ys.length/\(pendingOf st').size=1)) (Q:=λc st'=>c=(Ki,ys.length)/\xN κ ys st'/\Asc r (arrOf st') 0 ys.length/\(pendingOf st').size=1) ?_ ?_ (.inl ⟨rfl,rfl,rfl⟩)) ?_)]
 ·rintro x c g _ z (⟨rfl,rfl,rfl⟩ | ⟨y,rfl,m,f,p1⟩)
  ·dsimp only;erw[yB (λe=>x4 e (by lia)) (λe=>?_)];apply jE (prog:=prog) (w:=w) (A:=A) (E:=E) (s:=s) (P:=λn d=>n=ys.length/\xN κ ys d/\Asc r (arrOf d) 0 ys.length/\pendingOf d = #[])
   case use =>
    intro H;erw[wpS_bind (rn q u (by lia) (by lia) λn l S m1 m2 as=>?_)];rw[EH] at as;dsimp only;erw[yB (λD=>?_) (λD=>?_)];rotate_left
    ·have j:n=ys.length:=by lia
     rwa[H n _ ⟨j,S.base,by rw[<- j]; exact as,by rw[S.pend]; exact p⟩]
    ·erw[wpS_bind (ud (F3 ⟨rfl,?_⟩))];erw[wpS_bind (xt q S.base (by lia) m1 (by lia) (by rw[EH]; rwa[as]) λd v i=>?_)];refine yB (λe=>nomatch e) (λ_=>?_);have j:min (ys.length-0) ys.length=ys.length:=by lia
     exact H _ _ ⟨j,v.base,by rw[j,EH] at i; exact i,by rw[v.pend,S.pend]; rwa[p]⟩
   rintro n d ⟨j,o,i,p3⟩;erw[wpS_bind (wpS_get ?_)];have C:(pendingOf d).back?=none:=by rw[p3]; rfl
   rw[C];erw[wpS_bind (wpS_modify (wpS_pure (.inr ⟨by lia,by rw[j,EH],⟨o.perm,o.kind,o.failed⟩,i,?_⟩)))];show((pendingOf d).push _).size=1;rw[Array.size_push,p3];rfl
  ·dsimp only;erw[yB (λe=>wpS_pure ⟨rfl,m,f,p1⟩) (λe=>x4 (f6 _) e)]
 ·rintro c g (⟨h0,_⟩ | ⟨y,rfl,m,f,p1⟩)
  ·lia
  ·rwa[rfl,m,f,p1]
 ·rintro c g ⟨rfl,m,f,p1⟩;erw[wpS_bind (wpS_mono (wpS_forRange (I:=λ_ c st'=>c=(Ki,())/\st'=g) (Q:=λc st'=>c=(Ki,())/\st'=g) ?_ (λ_ _ h=>h) ⟨rfl,rfl⟩) ?_)]
  ·rintro x c l _ z ⟨rfl,rfl⟩;erw[wpS_bind (wpS_get ?_)];erw[yB (λe=>wpS_pure ⟨rfl,rfl⟩) (λe=>x4 (EC p1) e)]
  ·rintro c l ⟨rfl,rfl⟩;rwa[wpS_pure (h _ m f)]
end
end PyProof.Rows
namespace L2
open PySem PySem.Spec PyProof.Rows PySem.W
end L2

namespace Sea
structure Rel(b x y:Int)(P P':P3):Prop where
 pos:0<P.2.2
 pos':0<P'.2.2
 ex:(b*P.1+x*P.2.2)*P'.2.2=P'.1*P.2.2
 ey:(b*P.2.1+y*P.2.2)*P'.2.2=P'.2.1*P.2.2
def Wx(P:P3):Prop:=0<P.2.2/\Ab (Ab P.1.natAbs P.2.1.natAbs) P.2.2.natAbs=1
section
variable{b x y:Int}
def leP(P Q:P3):Prop:=leS (0,P) (0,Q)
def TY(P Q:P3):ahB (0,P) (0,Q)=Kj↔P.1*Q.2.2-Q.1*P.2.2<0\/(P.1*Q.2.2-Q.1*P.2.2=0/\P.2.1*Q.2.2-Q.2.1*P.2.2<0):=by
 unfold ahB;dsimp only;split
 ·rename_i h
  rw[decide_eq_true_iff];lia
 ·rename_i h
  rw[decide_eq_true_iff];lia
def Vp(d:Wx P)(c:Wx Q)(h1:leP P Q)(h2:leP Q P):P=Q:=by
 have n1:¬ ahB (0,Q) (0,P)=true:=by intro z; have h1:ahB (0,Q) (0,P)=false:=h1; rw[h1] at z; cases z
 have n2:¬ ahB (0,P) (0,Q)=true:=by intro z; have h2:ahB (0,P) (0,Q)=false:=h2; rw[h2] at z; cases z
 rw[TY] at n1 n2;rwa[mK d.1 c.1 d.2 c.2 (by lia) (by lia)]
def jc(c:Cor d P):Wx P:=by
 obtain⟨t,_,u,_,h,rfl,_⟩:=c;obtain⟨sp,_,_⟩:=ya h;rwa[sp.pos,sp.low]
def uniq{f:Type}{R:f->f->Prop} : ∀{xs d:List f},xs.Perm d->(∀ a∈xs,∀ c∈xs,R a c->R c a->a=c)->xs.Pairwise R->d.Pairwise R->xs=d
 | [],d,h,_,_,_=>(Jt.mp h).symm
 | u::m,[],h,_,_,_=>x4 (Ju.mp h) (by simp)
 | u::m,v::o,h,n,q,p=>by
  obtain⟨l,j⟩:=Bs.mp q;obtain⟨i,g⟩:=Bs.mp p;have e:u=v:=by
   have m1:u∈v::o:=h.mem_iff.mp (o4 ..);have m2:v∈u::m:=h.mem_iff.mpr (o4 ..);rcases j5.mp m1 with e | m1
   ·rwa[e]
   ·rcases j5.mp m2 with e | m2
    ·rwa[e.symm]
    ·rwa[n u (.head _) v (.tail _ m2) (l v m2) (i u m1)]
  subst e;rw[uniq (EZ u |>.mp h) (λa s c r=>n a (.tail _ s) c (.tail _ r)) j g]
end
end Sea

namespace L2
section
variable{X:Cx}
def rNeDT(K:b6):R2:=λx y H Q=>E5 λ(a b:b9) (xs c:List V) (e:Nat->Bool)=>A6 (x=.ref a) (y=.ref b) (SqT K H a xs) (SqT K H b c) (∀(j:Nat)(h1:j<xs.length)(h2:j<c.length),Deep K H 8 xs[j] c[j] (e j)) (Q (.bl (!((Ay (min xs.length c.length)).all e&&xs.length == c.length))) H)
def op_neDT(z:X.A.units+64<cLine):OpR X (compareOp .NotEq) (rNeDT X.K):=by
 intro B s p H x y v u Q I l i h;obtain⟨a,b,xs,r,e,rfl,rfl,o,n,m,q⟩:=h;cases l;cases i;obtain⟨g,r1,k1,_⟩:=I.tuple o;obtain⟨f,r2,k2,_⟩:=I.tuple n;have d:=r1.length;have c:=r2.length;refine J6 (e:=e) (show s.heap.IsTuple _ g.toArray from k1) (show s.heap.IsTuple _ f.toArray from k2) (show X.A.units<cLine by lia) (λj h1 h2=>?_) X.prog X.w _ _ ?_
 ·exact(Deep.at I (m j (by simpa [d] using h1) (by simpa [c] using h2)) (A:=X.A.in1) (show X.A.units+1+8<cLine by lia) (r1.at _ (by simpa using h1)) (r2.at _ (by simpa using h2))).1
 ·rw[g6,g6,<- d,<- c];rwa[.bl _,H,I,rfl,q]
def rNeDL(K:b6):R2:=λx y H Q=>E4 λ(a b:b9) (xs c:List V)=>A7 (x=.ref a) (y=.ref b) (SqL K H a xs) (SqL K H b c) (xs.length=c.length) (∀(j:Nat)(h1:j<xs.length)(h2:j<c.length),Deep K H 8 xs[j] c[j] Kj) (Q (.bl Kk) H)
def bv(z:X.A.units+64<cLine):OpR X (compareOp .NotEq) (rNeDL X.K):=by
 intro C s n H x y v u Q I d c h;obtain⟨a,b,xs,o,rfl,rfl,m,l,B,i,q⟩:=h;cases d;cases c;obtain⟨r,r1,k1,_⟩:=I.list m;obtain⟨p,r2,k2,_⟩:=I.list l;have g:=r1.length;have f:=r2.length;refine He (e:=λ_=>Kj) k1.isList k2.isList (by rw[g6,g6]; lia) (show X.A.units<cLine by lia) (λj h1 h2=>?_) X.prog X.w _ _ ?_
 ·exact(Deep.at I (i j (by simpa [g] using h1) (by simpa [f] using h2)) (A:=X.A.in1) (show X.A.units+1+8<cLine by lia) (r1.at _ (by simpa using h1)) (r2.at _ (by simpa using h2))).1
 ·rw[yt];rwa[.bl _,H,I,rfl,q]
end
end L2

namespace L2
def sz0:0<=sizeLine:=by decide
def sz1:1<=sizeLine:=by decide
def sz2:2<=sizeLine:=by decide
def sz3:3<=sizeLine:=by decide
def gt2:(0:Int)<2:=by decide
def gt3:(0:Int)<3:=by decide
def gt4:(0:Int)<4:=by decide
def gt5:(0:Int)<5:=by decide
section
variable{X:Cx}{x:j4}{p pos:Ea}{a b e c:AD}{es:List AD}{t:TA}{te ta tb:TE}{id T:String}{r:List V->Hp->VK->Prop}{n:Nat}{ps:List j4}{sp:Sp}
def QZ(h:starEach (e::es) X.env=(Kk,eval e X.env)::starEach es X.env)(f:PE X e te)(d:PA X es t):PA X (e::es) (Sh te t):=zG f d h
def Pz(h:PE X (.Name x pos) te):PE X (.Name x pos) te:=h
def m_sub(h:PE X (.Subscript a b pos) te):PE X (.Subscript a b pos) te:=h
def Pk(h:PE X (.Call (.Name x p) (e::es) [] pos) te):PE X (.Call (.Name x p) (e::es) [] pos) te:=h
def m_bin(h:PE X (.BinOp a d b pos) te):PE X (.BinOp a d b pos) te:=h
def m_cmp{d:IF}(h:PE X (.Compare a [d] [b] pos) te):PE X (.Compare a [d] [b] pos) te:=h
def Po{f:IF}(h:PT X (.Compare a [f] [b] pos) d):PT X (.Compare a [f] [b] pos) d:=h
def SX(h:PW X (.BoolOp f es pos) d):PT X (.BoolOp f es pos) d:=h.pt
def m_val{f:TE}(g:∀ d,isTrue e X.env d=(do let v <- d; standAt e.pos; holding [v] (truthy v)))(h:PE X e f):PT X e (tB f):=fY h g
def m_ix(d:Wm b)(g:PE X a ta)(f:PE X b tb):PE X (.Subscript a b pos) (tOp (Oi X.K) ta tb):=Yp XB g f d
def cG(m:uK X (.builtin id) r)(g:bootBuiltins x=Kh (.builtin id))(i:X.mg x=Ki)(j:Gl X x)(h:x ≠ "__name__")(f:(x ==("__debug__" : j4))=Kk)
  (l:starEach (e::es) X.env=(Kk,eval e X.env)::starEach es X.env) (d:(backTo pos (starEach es X.env)).any (·.1)=Kk) (o:PA X (e::es) t):PE X (.Call (.Name x p) (e::es) [] pos) (tCB r t):=yH m j i g o h f l d
def PX(m:uK X (.type T) r)(g:bootBuiltins x=Kh (.type T))(i:X.mg x=Ki)(j:Gl X x)(h:x ≠ "__name__")(f:(x ==("__debug__" : j4))=Kk)
  (l:starEach (e::es) X.env=(Kk,eval e X.env)::starEach es X.env) (d:(backTo pos (starEach es X.env)).any (·.1)=Kk) (o:PA X (e::es) t):PE X (.Call (.Name x p) (e::es) [] pos) (tCB r t):=uY m j i g o h f l d
def m_own{K:b6}{mg:j4->Option c5}(h:Has P w K mg B x n ps sp)(m:X.prog=P/\X.w=w/\X.K=K/\X.mg=mg/\X.base=B)(g:zd n X.A)(i:Gl X x)(f:(x ==("__debug__" : j4))=Kk)
  (j:starEach (e::es) X.env=(Kk,eval e X.env)::starEach es X.env) (d:(backTo pos (starEach es X.env)).any (·.1)=Kk) (l:PA X (e::es) t):PE X (.Call (.Name x p) (e::es) [] pos) (Zt sp [] E0 t):=by
 obtain⟨rfl,rfl,rfl,rfl,rfl⟩:=m;rwa[yX h g i l f j d]
def zO(i:Nat){te:TE}(j:X.N.Nodup)(h:PE X e te)(hi:X.N[i]?=Kh x:=by rfl)(d:Loc X.env.scope x:=by first | exact BD rfl | exact HU rfl)(f:swapsWith e (Kh (.Name x pos')) pos.line X.env=pure false:=by rfl)
  (g:X.fn x=Kj\/X.env.scope.names.lookup x=Kh .local:=by first | exact .inl rfl | exact .inr rfl | assumption):PS X (.Assign [.Name x pos'] e pos) (Ol te (Xb i)):=Yl j hi d h f g
def wO(i:Nat)(g:X.N.Nodup)(hi:X.N[i]?=Kh x:=by rfl)(d:Loc X.env.scope x:=by first | exact BD rfl | exact HU rfl)(f:X.fn x=Kj\/X.env.scope.names.lookup x=Kh .local:=by first | exact .inl rfl | exact .inr rfl | assumption) :
  PG X (.Name x pos) (Xb i):=jZ g hi d f
def vc{to:TE}{g d:Ea}(m:PE X o to)(q:PA X (e::es) t)
  (i:attributeBase o "append" X.env (eval o X.env)=eval o X.env:=by rfl)
  (j:((backTo d (starEach (e::es) X.env)).all (λx=>!x.1)&&(backToKw d (keywordEach [] X.env)).all (λx=>x.1.isSome)
   && decide ((e::es).length+([]:List Fs).length+(if ([]:List Fs).isEmpty then 0 else 1)<30))=true:=by rfl)
  (h:(g.endLine == d.line)=true:=by rfl) (l:starEach (e::es) X.env=(Kk,eval e X.env)::starEach es X.env:=by rfl) (f:(backTo d (starEach es X.env)).any (·.1)=false:=by rfl) :
  PE X (.Call (.Attribute o "append" g) (e::es) [] d) (tBM X.K "list" Yt to t):=XV B7 PySem.F.slot_list_append PySem.F.type_list_append kK m q i j h l f
end
end L2

namespace L2
def InB(B:Ae)(c:b6->Prop):Prop:=∃ K:b6,K.In B/\c K
abbrev Cx.withK(X:Cx)(K:b6):Cx:={ X with K:=K }
def Mod.withK{K c:b6}{mg:j4->Option c5}(m:Mod K mg B)(h:c.In B):Mod c mg B:={ m with kin:=h }
section
variable{X:Cx}{Kl:List (b9×BP)}{σ:St}{H:Hp}{s:c8}{K:b6}
def Cx.Ok.withK(ok:X.Ok)(h:K.In X.base):(X.withK K).Ok :=
 ⟨ok.mod.withK h,ok.kind,ok.glob,ok.blt,ok.above,ok.inj,ok.has,ok.cab,ok.hd,ok.frames,ok.stk,ok.exf,ok.bs,ok.bsz,ok.noex,ok.exfs,ok.funs,ok.frf⟩
def Cx.Ok.unK(ok:(X.withK K).Ok)(h:Mod X.K X.mg X.base):X.Ok :=
 ⟨h,ok.kind,ok.glob,ok.blt,ok.above,ok.inj,ok.has,ok.cab,ok.hd,ok.frames,ok.stk,ok.exf,ok.bs,ok.bsz,ok.noex,ok.exfs,ok.funs,ok.frf⟩
def Inv.withK(I:Inv X Kl σ H s)(h:K.In X.base):Inv (X.withK K) Kl σ H s:=⟨I.ok.withK h,I.os,I.bare,I.base,I.loc,I.cell,I.free,I.freeC,I.pin,I.hok,I.len⟩
def Inv.unK(I:Inv (X.withK K) Kl σ H s)(h:Mod X.K X.mg X.base):Inv X Kl σ H s:=⟨I.ok.unK h,I.os,I.bare,I.base,I.loc,I.cell,I.free,I.freeC,I.pin,I.hok,I.len⟩
end
section
variable{X:Cx}{o e value:AD}{es:List AD}{f m:j4}{pos pos' apos:Ea}{ta tv:TE}{t:TA}{C g:b9}{n:Nat}{ps:List j4}{sp:Sp}
inductive TFld(C:b9)(f:j4)(x:V)(H:Hp)(Q:VK):Prop where
 | mk (a dx:b9) (fs:List (j4×V)) (v:V) (ex:x=.ref a) (ea:H a=Kh (.ins C dx fs)) (l:fs.lookup f=Kh v) (q:Q v H)
def tFld2(C:b9)(f:j4)(ta:TE):TE:=λc H Q=>ta c H λx d=>TFld C f x d Q
def uU(p:InB X.base λK=>Cls K C/\vx K C f)(j:PE X e ta)(r:attributeBase e f X.env (eval e X.env)=eval e X.env:=by rfl):PE X (.Attribute e f pos) (tFld2 C f ta):=by
 obtain⟨K,z,c,n⟩:=p;intro y s d H Q I h;erw[Si r (thn (j y s d H _ I h) λu J ⟨x,D,B,i,a,L,fs,v,ex,w,l,q⟩=>?_)];subst ex;obtain rfl:u=r6 a:=i;rwa[aX (X:=X.withK K) (B.withK z) w c n l λE G A ru=>⟨v,D,A.unK I.ok.mod,ru,q⟩]
inductive SFld(C:b9)(f:j4)(y x:V)(H:Hp)(Q:Hp->Prop):Prop where
 | mk (a dx:b9) (fs:List (j4×V)) (ex:x=.ref a) (ea:H a=Kh (.ins C dx fs)) (l:fs.length<1000) (q:Q (upd H a (.ins C dx (nY f y fs))))
def sFld2(C:b9)(f:j4)(ta tv:TE):TS:=λD c H=>tv c H λy h=>ta c h λx d=>SFld C f y x d (D.nx c)
def pT(B:InB X.base λK=>Cls K C/\vx K C f)(E:PE X o ta)(z:PE X value tv)(A:swapsWith value (Kh (.Attribute o f pos')) pos.line X.env=pure false:=by rfl):PS X (.Assign [.Attribute o f pos'] value pos) (sFld2 C f ta tv):=by
 obtain⟨K,J,c,n⟩:=B;intro i s d H D I h;erw[plainObj_wpAny_Assign_Attribute (thn (z i s d H _ I h) λu j ⟨y,O,N,p,q⟩=>thn (E i j d O _ N q) λw Q ⟨x,S,M,r,a,R,fs,ex,G,l,v⟩=>?_) A];subst ex;obtain rfl:w=r6 a:=r;rwa[aZ (X:=X.withK K) (M.withK J) G c n l p λP L=>⟨d,_,L.unK I.ok.mod,v⟩]
def dE(h:Has X.prog X.w X.K X.mg X.base x n ps sp)(d:zd n X.A)(i:Gl X x)(c:(x ==("__debug__" : j4))=false:=by decide):PE X (.Call (.Name x p) [] [] pos) (Zt sp [] E0 Qg):=by
 obtain⟨f,fd,F,b,k,m⟩:=h;rwa[Vi F d i m k b .nil Zf c]
def jt(P:j9)(w:o9)(K:b6)(mg:j4->Option c5)(base:Ae)(g:b9)(n:Nat)(ps:List j4)(sp:Sp):Prop :=
 ∃ fd:AZ,yS P w K mg base CX0 n g fd ps sp/\∀ c:List c5,c.length=ps.length->bindArgs fd ⟨c,[]⟩=pure (ps.zip c)
inductive TMeth(C:b9)(m:j4)(x:V)(H:Hp)(q:Prop):Prop where
 | mk (a dx:b9) (fs:List (j4×V)) (ex:x=.ref a) (ea:H a=Kh (.ins C dx fs)) (l:fs.lookup m=Ki) (k:q)
def US(C:b9)(m:j4)(sp:Sp)(ta:TE)(t:TA):TE:=λc H Q=>ta c H λx d=>TMeth C m x d (t c d λh i=>sp (x::h) i Q E0)
def qU(S:InB X.base λK=>Cls K C/\Yv K C m g)(h:jt X.prog X.w X.K X.mg X.base g n ps sp)(P:zd n X.A)(R:PE X o ta)(T:PA X (e::es) t)
  (i:starEach (e::es) X.env=(Kk,eval e X.env)::starEach es X.env:=by rfl) (j:(backTo pos (starEach es X.env)).any (·.1)=false:=by rfl)
  (O:eval (.Call (.Attribute o m apos) (e::es) [] pos) X.env=(do
   let B <- eval o X.env
   standAt apos.atName
   let (f,first) <- holding [B] (getMethod B m d)
   callWith pos f first (backTo pos (starEach (e::es) X.env)) (backToKw pos (keywordEach [] X.env))):=by rfl) :
  PE X (.Call (.Attribute o m apos) (e::es) [] pos) (US C m sp ta t):=by
 obtain⟨K,p,c,D⟩:=S;obtain⟨fd,F,b⟩:=h;intro E s v H Q I h;erw[Gw (pl:=d) (thn (R E s v H _ I h) λu L ⟨x,Z,J,M,a,dx,fs,ex,Y,l,q⟩=>?_) O];subst ex;obtain rfl:u=r6 a:=M;erw[jr (X:=X.withK K) (J.withK p) Y c D l ?_];erw[DJ (first:=[.ref a]) (h₀:=X.base) (K:=K) p D.kp (thn (T pos E L v Z _ J q) λz s2 ⟨y,H2,G,r,N⟩=>⟨(G.withK p).kIn,?_⟩) i j];rwa[eF (us:=.ref a::z) (vs:=.ref a::y) (dvs:=[]) (ds:=[]) F P (.all b) .nil Zf G (.cons rfl r) (by rw[AJ]; exact N)]
def xQ(E:InB X.base λK=>Cls K C/\Yv K C m g)(h:jt X.prog X.w X.K X.mg X.base g n ps sp)(B:zd n X.A)(D:PE X o ta)
  (z:eval (.Call (.Attribute o m apos) [] [] pos) X.env=(do
   let j <- eval o X.env
   standAt apos.atName
   let (f,first) <- holding [j] (getMethod j m d)
   callWith pos f first (backTo pos (starEach [] X.env)) (backToKw pos (keywordEach [] X.env))):=by rfl) :
  PE X (.Call (.Attribute o m apos) [] [] pos) (US C m sp ta Qg):=by
 obtain⟨K,r,c,p⟩:=E;obtain⟨fd,F,b⟩:=h;intro J s v H Q I h;erw[Gw (pl:=d) (thn (D J s v H _ I h) λu L ⟨x,N,i,y,a,M,fs,ex,G,l,q⟩=>?_) z];subst ex;obtain rfl:u=r6 a:=y;erw[jr (X:=X.withK K) (i.withK r) G c p l ?_];rwa[Ey (first:=[.ref a]) (i.withK r).kIn p.kp (eF (us:=[.ref a]) (vs:=[.ref a]) (dvs:=[]) (ds:=[]) F B (.all b) .nil Zf i (.cons rfl .nil) q)]
def Pe(C:b9)(sp:Sp):TE:=λ_ H Q=>∀ x c,H x=Ki->H c=Ki->c≠x->sp [.ref x] (upd (upd H c (.own x)) x (.ins C c [])) (λv d=>v=.non/\Q (.ref x) d) E0
def yS.withK{K u:b6}{mg:j4->Option c5}{k:Nat}{f:b9}(F:yS P w K mg B CX0 k f fd ps sp)(h:K.In B):yS P w u mg B CX0 k f fd ps sp :=
 ⟨F.len,λA outer s H c l j Q E p i q r d=>F.run A outer s H c l j Q E p { i with mod:=i.mod.withK h } q r d⟩
def dF(l:InB X.base λK=>Mk K C g)(h:jt X.prog X.w X.K X.mg X.base g n ps sp)(d:zd (n+1) X.A)(i:X.mg x=Kh (.ref C))(j:Gl X x:=by rfl)(c:(x ==("__debug__" : j4))=false:=by decide) :
  PE X (.Call (.Name x p) [] [] pos) (Pe C sp):=by
 obtain⟨K,y,M⟩:=l;obtain⟨fd,F,b⟩:=h;intro L s E H Q I h;erw[Cm (yc I j i ?_ c)];have J:=I.withK y;erw[Ey J.kIn M.kp (BC (UK (X:=X.withK K) (us:=[]) (vs:=[]) (dvs:=[]) (ds:=[]) M (F.withK I.ok.mod.kin) d (.all b) .nil Zf J .nil h) (λu G ⟨v,D,B,r,q⟩=>⟨v,D,B.unK I.ok.mod,r,q⟩) λ_ _ z=>z)]
end
end L2

namespace L2
structure M1(X:Cx)(o:AD)(m:j4)(apos:Ea)(e:AD)(cpos:Ea):Prop where
 base:attributeBase o m X.env (eval o X.env)=eval o X.env
 few:((backTo cpos (starEach [e] X.env)).all (λx=>!x.1)&&(backToKw cpos (keywordEach [] X.env)).all (λx=>x.1.isSome)
  && decide (([e]:List AD).length+([]:List Fs).length+(if ([]:List Fs).isEmpty then 0 else 1)<30))=Kj
 line:(apos.endLine == cpos.line)=Kj
 trees:backTo cpos (starEach [e] X.env)=[(Kk,eval e X.env)]
structure M2(X:Cx)(o:AD)(m:j4)(apos:Ea)(e f:AD)(cpos:Ea):Prop where
 base:attributeBase o m X.env (eval o X.env)=eval o X.env
 few:((backTo cpos (starEach [e,f] X.env)).all (λx=>!x.1)&&(backToKw cpos (keywordEach [] X.env)).all (λx=>x.1.isSome)
  && decide (([e,f]:List AD).length+([]:List Fs).length+(if ([]:List Fs).isEmpty then 0 else 1)<30))=Kj
 line:(apos.endLine == cpos.line)=Kj
 trees:backTo cpos (starEach [e,f] X.env)=[(Kk,eval e X.env),(Kk,eval f X.env)]

def IsD(H:Hp)(a:b9):Prop:=(∃ c,Rd H a (.dK c))\/∃ c,Rd H a (.dT c)
def QY{g:St}{H:Hp}(I:Inv X h g H s)(d:IsD H a) :
  s.TypeIs (.ref a) "dict" /\ (∀ b,r6 a=.ref b->∃ ob,s.heap.get? b=Kh ob/\ob.dict=Ki)/\(a == sysModules)=false:=by
 rcases d with ⟨f,e⟩ | ⟨f,e⟩
 ·obtain⟨_,hd,i,_,c⟩:=iQ I.hok e;erw[c.typeIs,λb q=>?_,hd];cases q;obtain⟨ob,_,_,h1,h2,_⟩:=c;rwa[ob,h1,h2.2.1]
 ·obtain⟨_,hd,xs,_,c⟩:=ZM I.hok e;erw[c.typeIs,λb q=>?_,hd];cases q;obtain⟨ob,_,_,h1,h2,_⟩:=c;rwa[ob,h1,h2.2.1]


def PP(g ty:TE):TE:=λd H Q=>g d H λx f=>∃ a,A3 (x=.ref a) (IsD f a) (ty d f λy e=>E3 λc k v=>A4 (e a=Kh (.dK c)) (y=kV k) (tZ c k=Kh v) (Q v (upd e a (.dK (iK c k)))))
section
variable{X:Cx}{o e f:AD}{apos cpos:Ea}{td ty tx:TE}
def Vd(C:PE X o td)(D:PE X e ty)(m:M1 X o "pop" apos e cpos):PE X (.Call (.Attribute o "pop" apos) [e] [] cpos) (PP td ty):=by
 intro i s g H Q I h;erw[Hx m.base m.few m.line PySem.F.plainAttrs_dict Gq PySem.F.type_dict_pop (thn (C i s g H _ I h) λu q ⟨x,L,j,w,a,ex,d,A⟩=>?_)];subst ex;obtain rfl:u=r6 a:=w;obtain⟨p,n,_⟩:=QY j d;exists p,n;rw[m.trees];erw[DU rfl (Ej (G6 (thn (D i q g L _ j A) λP O ⟨y,R,J,r,B,k,v,E,ey,l,z⟩=>Hn ?_)))];subst ey;rwa[d_pop J E r l (.inl rfl) λM N G c=>⟨v,_,G,c,z⟩]
end

section
variable{X:Cx}{Kl:List (b9×BP)}{σ:St}{H:Hp}{s:c8}{a:b9}{kvs:List (Key×V)}{A:Ad}{E:c5->c8->Prop}
def VZ{Q:c5->c8->Prop}(I:Inv X Kl σ H s)(e:Rd H a (.dK kvs))(h:∀ p d,H p=Ki->Inv X Kl σ (upd H p (.dK kvs)) d->Q (.ref p) d):wpAny (model X.prog X.w) A (call (.type "dict") [.ref a]) Q E s:=by
 obtain⟨z,hd,j,rel,i⟩:=iQ I.hok e;erw[kt_call_dict hd i (by rw[<- rel.length]; rwa[z]) λl c g=>?_];erw[h _ _ (I.hok.fresh (f6 _)) (I.laid (a:=s.heap.objs.size) (o:=.dK kvs) (t':=s.toks) (λb q f=>?_) (f6 _) (dm z (x5.mpr (BA (m7 I.big))) rel c))];exact(g.2 b (m7 (i5 f))).trans (c9 _ f)
end


end L2


namespace L2
section
variable{X:Cx}{Kl:List (b9×BP)}{σ:St}{H:Hp}{s:c8}{d:b9}{kvs:List (Key×V)}
def KV.at{vs:List (Key×c5)} : ∀{kvs:List (Key×V)}{vs:List (Key×c5)}{i:Nat}{k:Key}{v:V},KV kvs vs->kvs[i]?=Kh (k,v)->∃ u,vs[i]?=Kh (k,u)/\xZ v u
 | _,_,_,_,_,.nil,e=>by simp at e
 | _,_,0,k,v,.cons (a:=a) (b:=b) ⟨r1,r2⟩ _,e=>by
  simp at e;subst e;exact⟨b.2,by rw[show(k,b.2)=b from by rw[show k=b.1 from r1]]; rfl,r2⟩
 | _,_,i+1,k,v,.cons _ t,e=>KV.at (vs:=[]) (i:=i) t (by simpa using e)
def Itc(c:Hp->Prop)(xs:List V):It:=⟨λi H=>c H/\i<xs.length,λi H x e=>e=H/\xs[i]?=Kh x,λi H=>c H/\xs.length<=i⟩
variable{tg l:AD}{te:TE}{apos pos:Ea}
end
end L2

namespace L2
section
variable{φ:Hp->Prop}{xs:List V}{g:TG}{tb:TS}{E:WW}{σ σ0:St}{H H1:Hp}{D:b9}{tt:TT}{te:TE}{Q:VK}
def for_c(c:Nat->St->Hp->Prop)(h0:c 0 σ H)(o:∀ i σ H,c i σ H->φ H)
  (r:∀ i x σ H,xs[i]?=Kh x->c i σ H->g x σ H λd l=>tb { E with nx:=c (i+1),ct:=c (i+1),bk:=E.nx } d l) (hd:∀ σ H,c xs.length σ H->E.nx σ H) :
  ∃ W:Nat->Nat->St->Hp->Prop,(∃ m,W 0 m σ H)/\∀ i m σ H,W i m σ H ->
   ((Itc φ xs).stop i H/\E.nx σ H)\/((Itc φ xs).go i H/\∃ N:St->Hp->Prop,(∀ f h,N f h->∃ n,n<m/\W (i+1) n f h)/\∀ x h,(Itc φ xs).yld i H x h->g x σ h λd l=>tb { E with nx:=N,ct:=N,bk:=E.nx } d l):=by
 exists λi m σ H=>m=xs.length-i/\i<=xs.length/\c i σ H,⟨xs.length,by simp,t9 _,h0⟩;rintro i m σ H ⟨rfl,hi,p⟩;by_cases j:i<xs.length
 ·erw[.inr ⟨⟨o i σ H p,j⟩,c (i+1),λf h q=>⟨xs.length-(i+1),by lia,rfl,j,q⟩,λx h ⟨e,y⟩=>?_⟩];subst e;rwa[r i x σ _ y p]
 ·have e:i=xs.length:=by lia
  subst e;rwa[.inl ⟨⟨o _ σ H p,f6 _⟩,hd σ H p⟩]
def Ph(f:Nat->St->List V->Hp->Prop)(h0:f 0 σ0 [] (upd H1 D (.lst [])))(s:∀ i σ c H,f i σ c H->φ H/\H D=Kh (.lst c))
  (r:∀ i x σ c H,xs[i]?=Kh x->f i σ c H->g x σ H λd u=>tt d u λb l =>
   if b=Kj then te d l λy j=>j D=Kh (.lst c)/\c.length<sizeLine/\f (i+1) d (c++[y]) (upd j D (.lst (c++[y]))) else f (i+1) d c l)
  (hd:∀ σ c H,f xs.length σ c H->Q (.ref D) H):oV (Itc φ xs) D g tt te σ0 H1 Q:=by
 exists λi m σ c H=>m=xs.length-i/\i<=xs.length/\f i σ c H,⟨xs.length,by simp,t9 _,h0⟩;rintro i m σ c H ⟨rfl,hi,p⟩;obtain⟨q,o⟩:=s i σ c H p;exists o;by_cases h:i<xs.length
 ·erw[.inr ⟨⟨q,h⟩,f (i+1),λn w v z=>⟨xs.length-(i+1),by lia,rfl,h,z⟩,λx v ⟨e,y⟩=>?_⟩];subst e;rwa[r i x σ c _ y p]
 ·have e:i=xs.length:=by lia
  subst e;rwa[.inl ⟨⟨q,f6 _⟩,hd σ c H p⟩]
def Rb(d:Nat->St->List V->Hp->Prop)(h0:d 0 σ0 [] (upd H1 D (.lst [])))(l:∀ i σ c H,d i σ c H->φ H/\H D=Kh (.lst c))
  (j:∀ i x σ c H,xs[i]?=Kh x->d i σ c H->g x σ H λf m=>te f m λy h=>h D=Kh (.lst c)/\c.length<sizeLine/\d (i+1) f (c++[y]) (upd h D (.lst (c++[y]))))
  (hd:∀ σ c H,d xs.length σ c H->Q (.ref D) H):oV (Itc φ xs) D g RX te σ0 H1 Q:=Ph d h0 l (λi x σ c H e p=>j i x σ c H e p) hd
end
section
variable{X:Cx}{x y:j4}{p pos:Ea}{i e:AD}{es:List AD}{ty:TE}{t:TA}
def ai{n:Int}(c:∃ k,X.mg x=Kh (.int n k))(d:Gl X x:=by rfl)(hd:(x ==("__debug__" : j4))=false:=by decide):PE X (.Name x pos) (tC (.int n)):=λ_ _ _ H _ I h=>by
 obtain⟨k,c⟩:=c;rwa[yc I d c ⟨.int n,H,I,⟨k,rfl⟩,h⟩ hd]
def RV(P:j9)(w:o9)(B:Ae)(a:b9)(c:List (Key×V)):Prop:=∃ d,KV c d/\B.DictOf (yZ P w) a d
def tGet(c:List (Key×V))(ty:TE):TE:=λd H Q=>ty d H λy f=>E2 λ(k:Key) (v:V)=>A3 (y=kV k) (tZ c k=Kh v) (Q v f)
def TB{j:St}{H:Hp}{E:c5->c8->Prop}{Q:c5->c8->Prop}(B:RV X.prog X.w X.base a c)(I:Inv X q j H s)(l:tZ c k=Kh v)(r:xZ (kV k) u)
  (h:∀ d n,Inv X q j H n->xZ v d->Q d n):s.TypeIs (.ref a) "dict" /\ wpAny (model X.prog X.w) X.A (getItem (.ref a) u) Q E s:=by
 obtain⟨m,rel,f⟩:=B;have f:s.heap.DictOf (yZ X.prog X.w) a m:=f.at λo e=>I.bk a o e;obtain⟨d,z,g⟩:=gB.some_of (v:=v) (o:=valueAt m k) (by rw[<- l]; rwa[rel.val k]);rwa[f.typeIs,HW (gj r) f.mapOf z (h d _ (I.tok _) g)]
def WY(q:RV X.prog X.w X.base a c)(n:X.mg x=Kh (.ref a))(hi:PE X i ty)(m:Oo i:=by exact λ_ _=>rfl)(o:Gl X x:=by rfl)(hd:(x ==("__debug__" : j4))=false:=by decide) :
  PE X (.Subscript (.Name x p) i pos) (tGet c ty):=by
 intro r s f H Q I h;erw[cU Dq.lookup m (yc I o n (thn (hi r s f H _ I h) λE D ⟨y,A,z,g,k,v,ey,l,j⟩=>?_) hd)];subst ey;rwa[TB q z l g λB C u d=>⟨v,A,u,d,j⟩]
structure Qe(P:j9)(w:o9)(K:b6)(mg:j4->Option c5)(B:Ae)(m:Nat)(kvs:List (Key×V))(k:Key)(sp:Sp):Prop where
 mk ::
 has:∃(x:j4)(f:b9)(n:Nat)(ps:List j4),tZ kvs k=Kh (.ref f)/\mg x=Kh (.ref f)/\Has P w K mg B x n ps sp/\n<=m
def tTab(tab:List (Key×Sp))(ty:TE)(t:TA):TE:=λc H Q=>ty c H λy g=>E2 λ(k:Key) (sp:Sp)=>A3 (y=kV k) ((k,sp)∈tab) (t c g λd f=>sp d f Q E0)
def QE{m:Nat}{tab:List (Key×Sp)}(R:RV X.prog X.w X.base a d)(N:X.mg x=Kh (.ref a))(T:∀ r∈tab,Qe X.prog X.w X.K X.mg X.base m d r.1 r.2)(L:zd m X.A)(hi:PE X i ty)(S:PA X (e::es) t)
  (J:Oo i:=by rwa[λ_ _=>rfl]) (O:Gl X x:=by rfl) (hd:(x ==("__debug__" : j4))=false:=by decide)
  (P:starEach (e::es) X.env=(Kk,eval e X.env)::starEach es X.env:=by rfl) (o:(backTo pos (starEach es X.env)).any (·.1)=false:=by rfl)
  (q:eval (.Call (.Subscript (.Name x p) i j) (e::es) [] pos) X.env=(do callWith pos (<- eval (.Subscript (.Name x p) i j) X.env) [] (backTo pos (starEach (e::es) X.env)) (backToKw pos (keywordEach [] X.env))):=by rfl) :
  PE X (.Call (.Subscript (.Name x p) i j) (e::es) [] pos) (tTab tab ty t):=by
 intro v s u H Q I h;erw[Call_ (cU Dq.lookup J (yc I O N (thn (hi v s u H _ I h) λiv s2 ⟨y,H2,Z,C,k,sp,ey,mem,E⟩=>?_) hd)) q];subst ey;obtain⟨x',f,n,ps,l,G,⟨f',fd,F,b,kp,c⟩,M⟩:=(T _ mem).has;rw[G] at c;cases c;erw[TB R Z l C λw' B Y g=>?_];cases g;erw[DJ (h₀:=X.base) I.ok.mod.kin kp (thn (S pos v B u H2 _ Y E) λus s4 ⟨vs,H4,z,r,D⟩=>⟨z.kIn,?_⟩) P o];rwa[eF (dvs:=[]) (ds:=[]) F (L.mono M) b .nil Zf z r (by rw[AJ]; exact D)]
end
def iX:bootBuiltins "dict" = Kh (.type "dict"):=by ac_nf
section
variable{X:Cx}
def lK:uK X (.type "dict") (λxs H Q=>E2 λ(a:b9) (c:List (Key×V))=>A3 (xs=[.ref a]) (Rd H a (.dK c)) (∀ p,H p=Ki->Q (.ref p) (upd H p (.dK c)))):=by
 intro l s g H xs i Q I r h;obtain⟨a,c,rfl,e,q⟩:=h;obtain⟨u,rfl,ru⟩:=lX r;cases ru;rwa[VZ I e λp j d f=>⟨.ref p,_,f,rfl,q p d⟩]
def qr:uK X (.builtin "len") (λxs H Q=>E2 λ(a:b9) (c:List (Key×V))=>A3 (xs=[.ref a]) (Rd H a (.dK c)) (Q (.int c.length) H)):=by
 intro j s f H xs g Q I r h;obtain⟨a,c,rfl,d,q⟩:=h;obtain⟨u,rfl,ru⟩:=lX r;cases ru;rwa[d_len I d λt i e=>⟨.int c.length,H,e,⟨t,rfl⟩,q⟩]
def fH : ∀{g:List C4}{c:List (Key×V)}{f:List (Key×c5)},KV c f->Pairs (yZ P w) g f->yW (c.map λh=>kV h.1) (g.map (·.key))
 | _,_,_,.nil,.nil=>.nil
 | _,_,_,.cons ⟨r1,_⟩ t,.cons i _ p=>by
  erw[.cons ?_ (fH t p)];dsimp only;rw[r1];rcases xB i with ⟨j,t,e,d⟩ | ⟨x,t,e,d⟩
  ·rw[e,d]; rwa[t,rfl]
  ·rw[e,d]; rwa[t,rfl]
def oh(N:X.calm=Kj):uK X (.type "list") (λxs H Q=>E2 λ(d:b9) (f:List (Key×V))=>A3 (xs=[.ref d]) (Rd H d (.dK f)) (∀ p,H p=Ki->Q (.ref p) (upd H p (.lst (f.map λv=>kV v.1))))):=by
 intro Z s O H xs R Q I r h;obtain⟨d,f,rfl,hd,q⟩:=h;obtain⟨u,rfl,ru⟩:=yW.one r;cases ru;obtain⟨E,x,P,rel,ob,n,m,g,ex,B,T,L,S⟩:=iQ I.hok hd;have C:=fH rel L;have w:n.size=f.length:=by
  have z:=C.length;rw[b5,b5,j7] at z;rwa[z.symm]
 refine HZ (Wb (rows:=n) (age:=m) x) (show X.A.handled=Ki from I.ok.hd N) ⟨ob,g,ex,B⟩ (by rw[w]; exact E) λY J l c keep at' i=>?_;have y:l.toList=n.toList.map (·.key):=by
  erw[Db λj=>?_];by_cases G:j<n.size
  ·have D:j<l.size:=by rw[i.1]; rwa[G]
   obtain⟨M,e⟩:=i.2 j l[j] (by simp[D]);rw[AL,t6 D,e,c7,AL,t6 G];rfl
  ·rw[Be (by rw[j7,i.1]; lia),Be (by simp; lia)]
 erw[.ref s.heap.objs.size,_,I.laid (t':=J) (a:=s.heap.objs.size) (o:=.lst (f.map λv=>kV v.1)) keep (f6 _) ?_,rfl,q _ (I.hok.fresh (f6 _))];exists by rw[b5]; exact E,_,c,C;rw[<- y,El];rwa[at']
end
end L2

namespace L2
def fJ(x:j4):List V:=x.cps.toList.map λc=>.str ⟨#[c]⟩
section
variable{X:Cx}{tg l:AD}{te:TE}
def Uu{K:b6}{tg:AD}(x:j4)(t:Je)(g:b9):Pl P w K tg (Itc (λ_=>True) (fJ x)) [g] g (λi h=>h.IsStrIter g "str_ascii_iterator" x t i) where
 mem:=by simp
 obj:=λi h st b j=>by
  have e:b=g:=by simpa using j
  subst e;obtain⟨o,e,c,d⟩:=st;exact⟨o,e,λv z=>by rw[d] at z; cases z⟩
 keep:=λi h p ⟨o,O,r⟩ k=>⟨o,k g (by simp) o O,r⟩
 item:=by
  intro X u q y L i M s J H E I n st ⟨_,hi⟩;subst u q y;have f:i<x.cps.size:=by unfold fJ at hi; rw[b5,j7] at hi; rwa[hi]
  obtain⟨G,D,Q,C,B,A⟩:=n g (by simp);erw[wpAny_pyNext_ascii_item st (c:=x.cps[i]) (t6 f) λp m N=>?_];have T:Inv X M J H { s with heap:=p,toks:=s.toks+1 }:=I.turned (t':=s.toks+1) (λb o j e=>(N.2 b j).trans e) G D C B A;obtain⟨o,e,c,S⟩:=id m;exact⟨_,U,Xl (s:={ s with heap:=p,toks:=s.toks+1 }) e c S (by decide) ⟨.str ⟨#[x.cps[i]]⟩,H,T,⟨_,U⟩,⟨U,by unfold fJ; rw[c7,AL,t6 f]; rfl⟩,m,λb j=>(n b j).1⟩⟩
 done:=by
  intro X u q y L i M s J H E I n st ⟨_,hi⟩;subst u q y;have f:x.cps.size<=i:=by unfold fJ at hi; rw[b5,j7] at hi; rwa[hi]
  obtain⟨G,D,Q,C,B,A⟩:=n g (by simp);rwa[wpAny_pyNext_ascii_end (I.ok.hd L) st (CW f) λp R=>⟨rfl,I.turned (t':=s.toks) (λb o j e=>R b o j e) G D C B A⟩]
 self:=λ_ _ _ _ _ st h=>wpAny_pyIter_striter_ascii st h
def iStr(te:TE):TI:=λc H R=>te c H λv d=>∃ x:j4,A3 (v=.str x) (x.cps.all (· < 128)=Kj) (R (Itc (λ_=>True) (fJ x)) d)
def Pd(g:PE X l te):PI X tg l (iStr te):=by
 intro m s f H R I h;erw[thn (g m s f H _ I h) λv c ⟨y,n,d,r1,x,e,j,q⟩=>?_];subst e;obtain⟨t,rfl⟩:=r1;erw[wpAny_pyIter_ascii j ?_];erw[c.heap.objs.size,[c.heap.objs.size],_,_,n,rfl,d.kept (t':=c.toks) λb o e=>c9 _ e,Uu x t _,⟨_,i7 _ rfl,rfl,rfl⟩,λb i=>?_,q];have e:b=c.heap.objs.size:=by simpa using i
 subst e;rwa[d.fpOk (f6 _) (d.hok.fresh (f6 _))]
def fN:OpR X (compareOp .LtE) (λx y H Q=>E2 λi j=>A3 (x=.str i) (y=.str j) (Q (.bl (!decide (j.cps.toList<i.cps.toList))) H)):=by
 intro g s e H x y v u Q I d c h;obtain⟨i,j,rfl,rfl,q⟩:=h;obtain⟨t,rfl⟩:=d;obtain⟨f,rfl⟩:=c;rwa[PySem.P.le_str (yV I q rfl)]
def Tw:SlR X (λx lo hi H Q=>∃ z:j4,x=.str z/\z.length<=sizeLine/\Q (.str (Dn z lo hi)) H):=by
 intro p s m H x v G E lo hi J Q I w B y n h;obtain⟨z,rfl,A,q⟩:=h;obtain⟨t,rfl⟩:=w;have c:∀(l u:Option (Int×Je)),l.map (·.1)=lo->u.map (·.1)=hi->(sliceMade z t l u Ki).post (EP X p m Q) s:=λl u D C=>by
  subst D C;rwa[post_val_or_str (t:=t) (s:=s) (Q:=EP X p m Q) ⟨g7 (Gc z _ _) A,λr k=>⟨.str (Dn z _ _),H,I.tok k,⟨r,rfl⟩,q⟩⟩]
 exists "str",_,F.slot_str_getitem.lookup,typeIs_str _ _ _;obtain⟨o,f,g,hd⟩:=B;cases y with
 | none =>
  cases n with
  | none=>rwa[CQ (l:=Ki) (u:=Ki) (st:=Ki) ⟨o,f,g,hd⟩ rfl (c Ki Ki rfl rfl)]
  | int j d=>rwa[CQ (l:=Ki) (u:=Kh (j,d)) (st:=Ki) ⟨o,f,g,hd⟩ rfl (c Ki (Kh (j,d)) rfl rfl)]
 | int i e =>
  cases n with
  | none=>rwa[CQ (l:=Kh (i,e)) (u:=Ki) (st:=Ki) ⟨o,f,g,hd⟩ rfl (c (Kh (i,e)) Ki rfl rfl)]
  | int j d=>rwa[CQ (l:=Kh (i,e)) (u:=Kh (j,d)) (st:=Ki) ⟨o,f,g,hd⟩ rfl (c (Kh (i,e)) (Kh (j,d)) rfl rfl)]
def eY:∀{c:List j4}{d:List c5},yW (c.map V.str) d->∃ l:List (j4×Je),d=strValues l/\l.map (·.1)=c
 | [],_,.nil=>⟨[],rfl,rfl⟩
 | x::c,_,.cons ⟨t,e⟩ r=>by
  obtain⟨l,g,f⟩:=eY r;subst e;rwa[(x,t)::l,by rw[g]; rfl,by rw[i4,f]]
def YE(c:j4):∀ d:List j4,(FW c d).length<=(d.map (·.length)).sum+d.length*c.length
 | []=>t9 _
 | [y]=>by
  show y.length<=_;simp
 | y::z::l=>by
  have f:=YE c (z::l);have e:(FW c (y::z::l)).length=y.length+c.length+(FW c (z::l)).length:=by
   show(y++c++FW c (z::l)).length=_;rw[strLen_append,strLen_append]
  rw[e];simp only[i4,G1,f9,Nat.succ_mul] at f ⊢;lia
def mC(c:j4)(d:List j4):Nat:=(d.map (·.length)).sum+d.length*c.length
def Ru:MtR X "str.join" (λx xs H Q=>∃(c:j4)(a:b9)(f:List j4),x=.str c/\xs=[.ref a]/\SqL X.K H a (f.map V.str)/\mC c f<=sizeLine/\Q (.str (Fz c f)) H):=by
 intro C s A H x xs v B Q I j m h;obtain⟨c,a,f,rfl,rfl,w,g,q⟩:=h;obtain⟨t,rfl⟩:=j;obtain⟨u,rfl,ru⟩:=yW.one m;cases ru;obtain⟨n,r,p,_⟩:=I.list w;obtain⟨l,rfl,d⟩:=eY r;have o:Builtin.Str.tooLong ((l.map (·.1)).toArray.foldl (· + ·.length+c.length) 0)=false:=by
  rw[d,JC];exact y9 (by unfold mC at g; lia)
 refine call_meets F.slot_str_join (typeIs_str _ _ _) F.entry_str_join (F.args_str_join_2 _ _) (meets_str_join_list c t a l o) ⟨p.isList,?_⟩;have i:∀ e:List j4,(Fz c e).length<=mC c e:=λe=>by
  rw[EI];rwa[YE c e]
 match l,d with
 | [],d =>
  subst d;rwa[g7 (i []) g,⟨.str _,H,I.tok _,⟨_,rfl⟩,q⟩]
 | [y],d =>
  subst d;rwa[.str y.1,H,I,⟨y.2,rfl⟩,q]
 | y::z::l,d =>
  subst d;rwa[g7 (i _) g,⟨.str _,H,I.tok _,⟨_,rfl⟩,q⟩]
end
end L2

namespace Sea
inductive Dt where
 | int (i:Int)
 | str (x:j4)
 | tup (l:List Dt)
mutual
def Rep(H:Hp):Dt->V->Prop
 | .int i,v=>v=.int i
 | .str x,v=>v=.str x
 | .tup l,v=>∃(a:b9)(xs:List V),v=.ref a/\H a=Kh (.tup xs)/\wB H l xs
def wB(H:Hp):List Dt->List V->Prop
 | [],xs=>xs=[]
 | d::l,xs=>∃(x:V)(r:List V),xs=x::r/\Rep H d x/\wB H l r
end
def vG(φ:b9->Prop)(H d:Hp):Prop:=∀ b o,¬ φ b->H b=Kh o->d b=Kh o\/∃(ob:BP)(c:List (Key×V)),o=.dK c/\d b=Kh (.frz ob (.dK c))
abbrev Sam(H c:Hp):Prop:=vG (λ_=>False) H c
section
variable{φ ψ:b9->Prop}{H H1 H2:Hp}{a:b9}{xs:List V}
def vG.of(s:Same H H1):vG φ H H1:=λb o _ e=>.inl (s b o e)
def vG.trans(s:vG φ H H1)(t:vG φ H1 H2):vG φ H H2:=λb o n e=>by
 rcases s b o n e with d | ⟨ob,c,g,d⟩
 ·rwa[t b o n d]
 ·subst g;rcases t b _ n d with f | ⟨_,_,z,_⟩
  ·rwa[.inr ⟨ob,c,rfl,f⟩]
  ·cases z
def vG.wider(s:vG φ H H1)(h:∀ b,φ b->ψ b):vG ψ H H1:=λb o n e=>s b o (λz=>n (h b z)) e
def vG.lst(s:vG φ H H1)(n:¬ φ a)(e:H a=Kh (.lst xs)):H1 a=Kh (.lst xs):=by
 rcases s a _ n e with z | ⟨_,_,z,_⟩
 ·rwa[z]
 ·cases z
def vG.tup(s:vG φ H H1)(n:¬ φ a)(e:H a=Kh (.tup xs)):H1 a=Kh (.tup xs):=by
 rcases s a _ n e with z | ⟨_,_,z,_⟩
 ·rwa[z]
 ·cases z
def vG.ins(s:vG φ H H1)(n:¬ φ a)(e:H a=Kh (.ins C c fs)):H1 a=Kh (.ins C c fs):=by
 rcases s a _ n e with z | ⟨_,_,z,_⟩
 ·rwa[z]
 ·cases z
def vG.rd(s:vG φ H H1)(n:¬ φ a)(e:Rd H a (.dK c)):Rd H1 a (.dK c):=by
 rcases e with e | ⟨ob,e⟩
 ·rcases s a _ n e with z | ⟨ob,d,z,w⟩
  ·rwa[.inl z]
  ·cases z;rwa[.inr ⟨ob,w⟩]
 ·rcases s a _ n e with z | ⟨_,_,z,_⟩
  ·rwa[.inr ⟨ob,z⟩]
  ·cases z
end
mutual
def Rep.sam{c:b9->Prop}{H g:Hp}(s:vG c H g)(f:∀ b xs,H b=Kh (.tup xs)->¬ c b):∀{d:Dt}{v:V},Rep H d v->Rep g d v
 | .int _,_,h=>by rw[Rep] at h ⊢; rwa[h]
 | .str _,_,h=>by rw[Rep] at h ⊢; rwa[h]
 | .tup l,v,h=>by
  rw[Rep] at h ⊢;obtain⟨a,xs,e,h1,h2⟩:=h;rwa[a,xs,e,s.tup (f a xs h1) h1,wB.sam s f h2]
def wB.sam{c:b9->Prop}{H g:Hp}(s:vG c H g)(f:∀ b xs,H b=Kh (.tup xs)->¬ c b):∀{l:List Dt}{xs:List V},wB H l xs->wB g l xs
 | [],_,h=>by rw[wB] at h ⊢; rwa[h]
 | d::l,xs,h=>by
  rw[wB] at h ⊢;obtain⟨x,r,e,h1,h2⟩:=h;rwa[x,r,e,Rep.sam s f h1,wB.sam s f h2]
end
section
variable{H H1:Hp}
def no_f{H:Hp} : ∀ b xs,H b=Kh (.tup xs)->¬ (λ_:b9=>False) b:=λ_ _ _ z=>z
def Rep.to(h:Rep H d v)(s:Sam H H1):Rep H1 d v:=h.sam s no_f
def wB.to(h:wB H l xs)(s:Sam H H1):wB H1 l xs:=h.sam s no_f
def xR{i:Int} : Rep H (.int i) v↔v=.int i:=by rw[Rep]
def xO : Rep H (.str x) v↔v=.str x:=by rw[Rep]
def uW : Rep H (.tup l) v↔∃(a:b9)(xs:List V),v=.ref a/\H a=Kh (.tup xs)/\wB H l xs:=by rw[Rep]
def yI : wB H [] xs↔xs=[]:=by rw[wB]
def zK{d:Dt}{l:List Dt} : wB H (d::l) xs↔∃(x:V)(r:List V),xs=x::r/\Rep H d x/\wB H l r:=by rw[wB]
def wB.length:∀{l:List Dt}{xs:List V},wB H l xs->xs.length=l.length
 | [],_,h=>by rw[yI.mp h]; rfl
 | d::l,_,h=>by
  obtain⟨x,r,e,_,h2⟩:=zK.mp h;rw[e,f9,f9,wB.length h2]
def wB.at:∀{l:List Dt}{xs:List V}{i:Nat}{d:Dt},wB H l xs->l[i]?=Kh d->∃ x,xs[i]?=Kh x/\Rep H d x
 | [],_,_,_,_,e=>by simp at e
 | d::l,_,0,_,h,e=>by
  obtain⟨x,r,ex,h1,_⟩:=zK.mp h;simp at e;subst e;rwa[x,by rw[ex]; rfl,h1]
 | d::l,_,i+1,c,h,e=>by
  obtain⟨x,r,ex,_,h2⟩:=zK.mp h;obtain⟨y,h3,h4⟩:=wB.at (i:=i) (d:=c) h2 (by simpa using e);exact⟨y,by rw[ex]; simpa using h3,h4⟩
def wB.back:∀{l:List Dt}{xs:List V}{i:Nat}{x:V},wB H l xs->xs[i]?=Kh x->∃ d,l[i]?=Kh d/\Rep H d x
 | [],_,i,x,h,e=>by rw[yI.mp h] at e; simp at e
 | d::l,_,0,x,h,e=>by
  obtain⟨y,r,ex,h1,_⟩:=zK.mp h;rw[ex] at e;simp at e;subst e;rwa[d,rfl,h1]
 | d::l,_,i+1,x,h,e=>by
  obtain⟨y,r,ex,_,h2⟩:=zK.mp h;rw[ex] at e;obtain⟨c,h3,h4⟩:=wB.back (i:=i) (x:=x) h2 (by simpa using e);exact⟨c,by simpa using h3,h4⟩
def wB.app:∀{l m:List Dt}{xs c:List V},wB H l xs->wB H m c->wB H (l++m) (xs++c)
 | [],_,_,_,h,k=>by rw[yI.mp h]; rwa[k]
 | d::l,_,_,_,h,k=>by
  obtain⟨x,r,e,h1,h2⟩:=zK.mp h;rw[e];rwa[zK.mpr ⟨x,_,rfl,h1,wB.app h2 k⟩]
def wB.one(h:Rep H d v):wB H [d] [v]:=zK.mpr ⟨v,[],rfl,h,yI.mpr rfl⟩
def wB.two(h:Rep H d v)(k:Rep H e u):wB H [d,e] [v,u]:=zK.mpr ⟨v,_,rfl,h,.one k⟩
end
structure wZ(H:Hp)(kvs:List (Key×V))(es:List (Key×Dt)):Prop where
 keys:kvs.map (·.1)=es.map (·.1)
 vals:wB H (es.map (·.2)) (kvs.map (·.2))
def xv(H:Hp)(a:b9)(d:List (Key×Dt)):Prop:=∃ c,Rd H a (.dK c)/\wZ H c d
def look(c:List (Key×Dt))(k:Key):Option Dt:=(c.find? λe=>decide (e.1=k)).map (·.2)
def On(c:List (Key×Dt))(k:Key)(d:Dt):List (Key×Dt):=if c.any (λe=>decide (e.1=k)) then c.map λe=>if e.1=k then(e.1,d) else e else c++[(k,d)]
def UC(c:List (Key×Dt))(k:Key):List (Key×Dt):=c.filter λe=>decide (e.1≠k)
def wZ.nil{H:Hp} : wZ H [] []:=⟨rfl,yI.mpr rfl⟩
def wZ.cons_iff{H:Hp}{k:Key}{d:Dt}{f:List (Key×Dt)} : wZ H c ((k,d)::f)↔∃(v:V)(r:List (Key×V)),c=(k,v)::r/\Rep H d v/\wZ H r f:=by
 constructor
 ·rintro⟨h1,h2⟩;cases c with
  | nil=>simp at h1
  | cons p r =>
   obtain⟨m,v⟩:=p;simp only[i4,Iz] at h1;obtain⟨j,i⟩:=h1;subst j;obtain⟨x,l,e,h3,h4⟩:=zK.mp h2;simp only[i4,Iz] at e;obtain⟨h,g⟩:=e;subst h g;rwa[v,r,rfl,h3,i,h4]
 ·rintro⟨v,r,rfl,h1,h2⟩;rwa[by simp[h2.keys],zK.mpr ⟨v,_,rfl,h1,h2.vals⟩]
def wZ.nil_iff{H:Hp}(h:wZ H c []):c=[]:=by
 have:=h.keys;simpa using this
def wZ.to{H e:Hp}(h:wZ H c d)(s:Sam H e):wZ e c d:=⟨h.keys,h.vals.to s⟩
def wZ.sam{d:b9->Prop}{H f:Hp}(h:wZ H c e)(s:vG d H f)(g:∀ b xs,H b=Kh (.tup xs)->¬ d b):wZ f c e:=⟨h.keys,h.vals.sam s g⟩
def xv.to{H d:Hp}(h:xv H a c)(s:Sam H d):xv d a c:=let ⟨kvs,h1,h2⟩:=h;⟨kvs,s.rd id h1,h2.to s⟩
def wZ.length{H:Hp}(h:wZ H c d):c.length=d.length:=by
 have:=congrArg z9 h.keys;simpa using this
def wZ.get{H:Hp} : ∀{f:List (Key×Dt)}{c:List (Key×V)}{d:Dt},wZ H c f->look f k=Kh d->∃ v,tZ c k=Kh v/\Rep H d v
 | [],_,_,_,e=>by simp[look] at e
 | (g,i)::f,c,d,h,e=>by
  obtain⟨v,r,rfl,h1,h2⟩:=wZ.cons_iff.mp h;by_cases z:g=k
  ·rw[wV z];simp only[look,AQ,y8 z,AR,CD] at e;subst e;rwa[v,rfl,h1]
  ·rw[wL z];erw[wZ.get h2 ?_];simp only[look,AQ,y9 z] at e;rwa[e]
def wZ.none{H:Hp} : ∀{d:List (Key×Dt)}{c:List (Key×V)},wZ H c d->look d k=Ki->tZ c k=Ki
 | [],_,h,_=>by rw[h.nil_iff]; rfl
 | (f,g)::d,c,h,e=>by
  obtain⟨v,r,rfl,h1,h2⟩:=wZ.cons_iff.mp h;by_cases z:f=k
  ·simp[look,AQ,z] at e
  ·rw[wL z];erw[wZ.none h2 ?_];simp only[look,AQ,y9 z] at e;rwa[e]
def wZ.isSome{H:Hp}(h:wZ H c f):(tZ c k).isSome=(look f k).isSome:=by
 cases e:look f k with
 | none=>rw[h.none e]; rfl
 | some d =>
  obtain⟨v,z,_⟩:=h.get e;rw[z];rfl
def wZ.any{H:Hp}{k:Key} : ∀{d:List (Key×Dt)}{c:List (Key×V)},wZ H c d->(c.any λe=>decide (e.1=k))=d.any λe=>decide (e.1=k)
 | [],_,h=>by rw[h.nil_iff]; rfl
 | (f,g)::d,c,h=>by
  obtain⟨v,r,rfl,h1,h2⟩:=wZ.cons_iff.mp h;rw[CG,CG,wZ.any h2]
def wZ.rep{H:Hp}{k:Key}(f:Rep H d v):∀{g:List (Key×Dt)}{c:List (Key×V)},wZ H c g->wZ H (c.map λe=>if e.1=k then(e.1,v) else e) (g.map λe=>if e.1=k then(e.1,d) else e)
 | [],_,h=>by rw[h.nil_iff]; rwa[.nil]
 | (i,j)::g,c,h=>by
  obtain⟨u,r,rfl,h1,h2⟩:=wZ.cons_iff.mp h;rw[i4,i4];by_cases z:i=k
  ·rw[y7 z,y7 z];rwa[wZ.cons_iff.mpr ⟨v,_,rfl,f,wZ.rep f h2⟩]
  ·rw[y6 z,y6 z];rwa[wZ.cons_iff.mpr ⟨u,_,rfl,h1,wZ.rep f h2⟩]
def wZ.app{H:Hp}{k:Key}(f:Rep H d v):∀{e:List (Key×Dt)}{c:List (Key×V)},wZ H c e->wZ H (c++[(k,v)]) (e++[(k,d)])
 | [],_,h=>by rw[h.nil_iff]; rwa[wZ.cons_iff.mpr ⟨v,[],rfl,f,.nil⟩]
 | (g,i)::e,c,h=>by
  obtain⟨u,r,rfl,h1,h2⟩:=wZ.cons_iff.mp h;rwa[wZ.cons_iff.mpr ⟨u,_,rfl,h1,wZ.app f h2⟩]
def wZ.put{H:Hp}(h:wZ H c f)(e:Rep H d v):wZ H (qO c k v) (On f k d):=by
 unfold qO On;rw[h.any];split
 ·rwa[h.rep e]
 ·rwa[h.app e]
def wZ.drop{H:Hp} : ∀{d:List (Key×Dt)}{c:List (Key×V)},wZ H c d->wZ H (iK c k) (UC d k)
 | [],_,h=>by rw[h.nil_iff]; rwa[.nil]
 | (e,f)::d,c,h=>by
  obtain⟨u,r,rfl,h1,h2⟩:=wZ.cons_iff.mp h;unfold iK UC;by_cases z:e=k
  ·rw[By (by simp[z]),By (by simp[z])];rwa[wZ.drop h2]
  ·rw[AU (by simp[z]),AU (by simp[z])];rwa[wZ.cons_iff.mpr ⟨u,_,rfl,h1,wZ.drop h2⟩]
end Sea

namespace Sea
inductive Deed where
 | mark (n:j4) (x y:Int)
 | move (n:j4) (x y:Int)
 | unmark (n:j4)
 | bank (n:j4) (cs:List (Int×Int))
 | level (n:j4)
 | sail (x y:Int)
 | right (k x y:Int)
 | bearing (m:Int) (n:j4) (a b c d:Int)
 | range (m:Int) (l r:j4)
 | strike (k:Int)
def ptD(p:Int×Int):Dt:=.tup [.int p.1,.int p.2]
def Deed.dt:Deed->Dt
 | .mark n x y=>.tup [.str "mark",.str n,.int x,.int y]
 | .move n x y=>.tup [.str "move",.str n,.int x,.int y]
 | .unmark n=>.tup [.str "unmark",.str n]
 | .bank n e=>.tup [.str "bank",.str n,.tup (e.map ptD)]
 | .level n=>.tup [.str "level",.str n]
 | .sail x y=>.tup [.str "sail",.int x,.int y]
 | .right k x y=>.tup [.str "right",.int k,.int x,.int y]
 | .bearing m n a b c d=>.tup [.str "bearing",.int m,.str n,ptD (a,b),ptD (c,d)]
 | .range m l r=>.tup [.str "range",.int m,.str l,.str r]
 | .strike k=>.tup [.str "strike",.int k]
structure BS where
 marks:List (j4×Int×Int)
 banks:List (j4×List (Int×Int))
 runs:List (Int×Int)
 notes:List (Int×Deed)
 coming:Int
def BS.nil:BS:=⟨[],[],[],[],1⟩
def mkE(l:List (j4×Int×Int)):List (Key×Dt):=l.map λe=>(.inr e.1,ptD e.2)
def bkE(l:List (j4×List (Int×Int))):List (Key×Dt):=l.map λe=>(.inr e.1,.tup (e.2.map ptD))
def rnE(l:List (Int×Int)):List (Key×Dt):=l.zipIdx.map λe=>(.inl (e.2:Int),ptD e.1)
def ntE(l:List (Int×Deed)):List (Key×Dt):=l.map λe=>(.inl e.1,e.2.dt)
def stK(m b r n:b9)(k:Int):List (Key×V):=[(.inr "marks",.ref m),(.inr "banks",.ref b),(.inr "runs",.ref r),(.inr "notes",.ref n),(.inr "coming",.int k)]
structure StA(H:Hp)(d m b r n:b9)(S:BS):Prop where
 at_:Rd H d (.dK (stK m b r n S.coming))
 ma:xv H m (mkE S.marks)
 ba:xv H b (bkE S.banks)
 ru:xv H r (rnE S.runs)
 no:xv H n (ntE S.notes)
def cf(H:Hp)(d:b9)(S:BS):Prop:=∃ m b r n,StA H d m b r n S
def StA.to{H c:Hp}(h:StA H d m b r n S)(s:Sam H c):StA c d m b r n S:=⟨s.rd id h.at_,h.ma.to s,h.ba.to s,h.ru.to s,h.no.to s⟩
def cf.to{H c:Hp}(h:cf H d S)(s:Sam H c):cf c d S:=let ⟨m,b,r,n,q⟩:=h;⟨m,b,r,n,q.to s⟩
def zN(S:BS)(n:j4):Option (Int×Int):=(S.marks.find? λe=>decide (e.1=n)).map (·.2)
def mL{S:BS} : look (mkE S.marks) (.inr n)=(zN S n).map ptD:=by
 unfold look mkE zN;rw[List.find?_map];have e:((λe:Key×Dt=>decide (e.1=Ef n)) ∘ λe:j4×Int×Int=>((Ef e.1,ptD e.2):Key×Dt))=λe=>decide (e.1=n):=by
  funext e
  simp
 rw[e];cases S.marks.find? λe=>decide (e.1=n) <;> rfl
structure Few(S:BS):Prop where
 ma:S.marks.length<=60
 ba:S.banks.length<=60
 ru:S.runs.length<=60
 no:S.notes.length<=60
def rP(x:j4):Prop:=1<=x.length/\x.length<=8/\∀ c∈x.cps.toList,97<=c/\c<=122
def qe(p:Int×Int):Prop:=-1000<=p.1/\p.1<=1000/\-1000<=p.2/\p.2<=1000
def qq(p:Int×Int):Prop:=p≠(0,0)/\-100<=p.1/\p.1<=100/\-100<=p.2/\p.2<=100
def aft(S:BS):Deed->BS
 | .mark n x y=>{ S with marks:=S.marks++[(n,x,y)] }
 | .move n x y=>{ S with marks:=S.marks.map λe=>if e.1=n then(e.1,x,y) else e }
 | .unmark n=>{ S with marks:=S.marks.filter λe=>decide (e.1≠n) }
 | .bank n f=>{ S with banks:=S.banks++[(n,f)] }
 | .level n=>{ S with banks:=S.banks.filter λe=>decide (e.1≠n) }
 | .sail x y=>{ S with runs:=S.runs++[(x,y)] }
 | .right k x y=>{ S with runs:=S.runs.set k.toNat (x,y) }
 | .bearing m n a b c d=>{ S with notes:=S.notes++[(S.coming,.bearing m n a b c d)],coming:=S.coming+1 }
 | .range m l r=>{ S with notes:=S.notes++[(S.coming,.range m l r)],coming:=S.coming+1 }
 | .strike k=>{ S with notes:=S.notes.filter λe=>decide (e.1≠k) }
def SE(S:BS):Deed->Prop
 | .bearing _ _ _ _ _ _=>True
 | .range _ l r=>∃ p u,zN S l=Kh p/\zN S r=Kh u/\p≠u
 | _=>False
def al(n:j4):Deed->Prop
 | .bearing _ k _ _ _ _=>k≠n
 | .range _ l r=>l≠n/\r≠n
 | _=>False
def isBk(d:List (Int×Int)):Bool:=isB (d.map λc=>(0,c))
def okD(S:BS):Deed->Prop
 | .mark n x y=>rP n/\zN S n=Ki/\qe (x,y)/\S.marks.length<20
 | .move n x y=>(zN S n).isSome=Kj/\qe (x,y)/\∀ e∈S.notes,SE (aft S (.move n x y)) e.2
 | .unmark n=>(zN S n).isSome=Kj/\∀ e∈S.notes,al n e.2
 | .bank n f=>rP n/\n ∉ S.banks.map (·.1)/\(∀ c∈f,qe c)/\isBk f=Kj/\S.banks.length<8
 | .level n=>n∈S.banks.map (·.1)
 | .sail x y=>qe (x,y)/\S.runs.length<12
 | .right k x y=>0<=k/\k<S.runs.length/\qe (x,y)
 | .bearing m n a b c d=>0<=m/\m<=S.runs.length/\(zN S n).isSome=Kj/\qq (a,b)/\qq (c,d)/\0<a*d-b*c/\S.notes.length<24
 | .range m l r=>0<=m/\m<=S.runs.length/\(zN S l).isSome=Kj/\(zN S r).isSome=Kj/\zN S l≠zN S r/\S.notes.length<24
 | .strike k=>k∈S.notes.map (·.1)
def Zc(S:BS):Prop:=∀ e∈S.notes,e.1<S.coming
def nP{es:List (Key×Dt)}{k:Key}(h:∀ e∈es,e.1≠k):On es k d=es++[(k,d)]:=by
 unfold On;rw[y6];intro z;obtain⟨e,c,q⟩:=Ed.mp z;rwa[h e c (of_decide_eq_true q)]
def Xj(l:List (j4×Int×Int))(n:j4)(x y:Int):mkE (l++[(n,x,y)])=mkE l++[(.inr n,ptD (x,y))]:=by
 unfold mkE;rw[d5];rfl
def Rp(l:List (Int×Int))(x y:Int):rnE (l++[(x,y)])=rnE l++[(.inl (l.length:Int),ptD (x,y))]:=by
 unfold rnE;rw[List.zipIdx_append,d5];simp
def Rk(l:List (Int×Deed))(k:Int)(D:Deed):ntE (l++[(k,D)])=ntE l++[(.inl k,D.dt)]:=by
 unfold ntE;rw[d5];rfl
def VN : ∀ e∈rnE l,e.1≠.inl (l.length:Int):=λe d z=>by
 unfold rnE at d;obtain⟨q,g,rfl⟩:=g9.mp d;obtain⟨h,f⟩:=q;have:=List.snd_lt_of_mem_zipIdx g;have c:(Dl (f:Int):Key)=Dl (l.length:Int):=z;injection c with c
 simp at this;lia
def Ue(h:Zc S):∀ e∈ntE S.notes,e.1≠.inl S.coming:=λe d z=>by
 unfold ntE at d;obtain⟨q,f,rfl⟩:=g9.mp d;have:=h q f;have c:(Dl q.1:Key)=Dl S.coming:=z;injection c with c
 lia
def bg(h:zN S n=Ki):∀ e∈mkE S.marks,e.1≠.inr n:=λe d z=>by
 unfold mkE at d;obtain⟨q,f,rfl⟩:=g9.mp d;have c:(Ef q.1:Key)=Ef n:=z;injection c with c
 unfold zN at h;rw[Gd,DN] at h;rwa[h q f (by simp[c])]
def Up(a b c d e:V):mM [] [(.inr "marks",a),(.inr "banks",b),(.inr "runs",c),(.inr "notes",d),(.inr "coming",e)]=[(.inr "marks",a),(.inr "banks",b),(.inr "runs",c),(.inr "notes",d),(.inr "coming",e)]:=by symm
def Uk(a b c d e:V):mM [] [(.inr "marks",a),(.inr "banks",b),(.inr "runs",c),(.inr "notes",d),(.inr "next",e)]=[(.inr "marks",a),(.inr "banks",b),(.inr "runs",c),(.inr "notes",d),(.inr "next",e)]:=by symm
def zu{k:Int} : tZ (stK m b r n k) (.inr "marks")=Kh (.ref m):=by symm
def pE{k:Int} : tZ (stK m b r n k) (.inr "runs")=Kh (.ref r):=by symm
def rf{k:Int} : tZ (stK m b r n k) (.inr "notes")=Kh (.ref n):=by symm
def lY{k:Int} : tZ (stK m b r n k) (.inr "coming")=Kh (.int k):=by symm
def XX{k:Int} : qO (stK m b r n k) (.inr "marks") (.ref c)=stK c b r n k:=by symm
def Uf{k:Int} : qO (stK m b r n k) (.inr "runs") (.ref c)=stK m b c n k:=by symm
def ft{k:Int} : qO (stK m b r n k) (.inr "notes") (.ref c)=stK m b r c k:=by symm
def ZW{k j:Int} : qO (stK m b r n k) (.inr "coming") (.int j)=stK m b r n j:=by symm
def Rd.same{H c:Hp}(h:Rd H a u)(s:Same H c):Rd c a u:=h.imp (s _ _) λ⟨o,e⟩=>⟨o,s _ _ e⟩
def xv.nil{H:Hp}(h:H a=Kh (.dK [])):xv H a []:=⟨[],.inl h,.nil⟩
def kC{H:Hp}(h:Rep H (ptD p) v):∃ a,v=.ref a/\H a=Kh (.tup [.int p.1,.int p.2]):=by
 obtain⟨a,xs,e,h1,h2⟩:=uW.mp h;obtain⟨x,r,rfl,h3,h4⟩:=zK.mp h2;obtain⟨y,c,rfl,h5,h6⟩:=zK.mp h4;rw[xR.mp h3,xR.mp h5,yI.mp h6] at h1;rwa[a,e,h1]
def mQ{H:Hp}{p:Int×Int}(h:H a=Kh (.tup [.int p.1,.int p.2])):Rep H (ptD p) (.ref a):=uW.mpr ⟨a,_,rfl,h,.two (xR.mpr rfl) (xR.mpr rfl)⟩
section
variable{H:Hp}{v:V}
def Xs{x y:Int}(h:Rep H (Deed.mark n x y).dt v):∃ a,v=.ref a/\H a=Kh (.tup [.str "mark",.str n,.int x,.int y]):=by
 obtain⟨a,xs,e,h1,h2⟩:=uW.mp h;obtain⟨_,_,rfl,k1,h2⟩:=zK.mp h2;obtain⟨_,_,rfl,k2,h2⟩:=zK.mp h2;obtain⟨_,_,rfl,k3,h2⟩:=zK.mp h2;obtain⟨_,_,rfl,k4,h2⟩:=zK.mp h2;rw[xO.mp k1,xO.mp k2,xR.mp k3,xR.mp k4,yI.mp h2] at h1;rwa[a,e,h1]
def XS{x y:Int}(h:Rep H (Deed.sail x y).dt v):∃ a,v=.ref a/\H a=Kh (.tup [.str "sail",.int x,.int y]):=by
 obtain⟨a,xs,e,h1,h2⟩:=uW.mp h;obtain⟨_,_,rfl,k1,h2⟩:=zK.mp h2;obtain⟨_,_,rfl,k3,h2⟩:=zK.mp h2;obtain⟨_,_,rfl,k4,h2⟩:=zK.mp h2;rw[xO.mp k1,xR.mp k3,xR.mp k4,yI.mp h2] at h1;rwa[a,e,h1]
def xc{m:Int}{a b c d:Int}(h:Rep H (Deed.bearing m n a b c d).dt v):∃ t p q,v=.ref t/\H t=Kh (.tup [.str "bearing",.int m,.str n,.ref p,.ref q])/\H p=Kh (.tup [.int a,.int b])/\H q=Kh (.tup [.int c,.int d]):=by
 obtain⟨t,xs,e,h1,h2⟩:=uW.mp h;obtain⟨_,_,rfl,k1,h3⟩:=zK.mp h2;obtain⟨_,_,rfl,k2,h4⟩:=zK.mp h3;obtain⟨_,_,rfl,k3,h5⟩:=zK.mp h4;obtain⟨_,_,rfl,k4,h6⟩:=zK.mp h5;obtain⟨_,_,rfl,f,h7⟩:=zK.mp h6;obtain⟨p,rfl,i⟩:=kC k4;obtain⟨q,rfl,g⟩:=kC f;have j:=yI.mp h7;rw[xO.mp k1,xR.mp k2,xO.mp k3,j] at h1;rwa[t,p,q,e,h1,i,g]
def nH{m:Int}(h:Rep H (Deed.range m l r).dt v):∃ t,v=.ref t/\H t=Kh (.tup [.str "range",.int m,.str l,.str r]):=by
 obtain⟨t,xs,e,h1,h2⟩:=uW.mp h;obtain⟨_,_,rfl,k1,h2⟩:=zK.mp h2;obtain⟨_,_,rfl,k2,h2⟩:=zK.mp h2;obtain⟨_,_,rfl,k3,h2⟩:=zK.mp h2;obtain⟨_,_,rfl,k4,h2⟩:=zK.mp h2;rw[xO.mp k1,xR.mp k2,xO.mp k3,xO.mp k4,yI.mp h2] at h1;rwa[t,e,h1]
end
def dk{H:Hp}{k:Int}(h:Rep H (Deed.strike k).dt v):∃ t,v=.ref t/\H t=Kh (.tup [.str "strike",.int k]):=by
 obtain⟨t,xs,e,h1,h2⟩:=uW.mp h;obtain⟨_,_,rfl,k1,h2⟩:=zK.mp h2;obtain⟨_,_,rfl,k2,h2⟩:=zK.mp h2;rw[xO.mp k1,xR.mp k2,yI.mp h2] at h1;rwa[t,e,h1]
def Ul(l:List (Int×Deed))(k:Int):UC (ntE l) (.inl k)=ntE (l.filter λe=>decide (e.1≠k)):=by
 unfold UC ntE;rw[List.filter_map]
 congr 1
 erw[FA λe _=>?_];simp
def Vw{l:List (Int×Deed)}{k:Int}(h:k∈l.map (·.1)):∃ d,look (ntE l) (.inl k)=Kh d:=by
 obtain⟨e,c,rfl⟩:=g9.mp h;unfold look;cases q:(ntE l).find? λx=>decide (x.1=Dl e.1) with
 | none =>
  have:=DN.mp q (.inl e.1,e.2.dt) (g9.mpr ⟨e,c,rfl⟩);simp at this
 | some x=>rwa[x.2,rfl]
def ZC(f:Deed->Prop):Sp:=λg H Q _=>E4 λ(d:b9) (v:V) (S:BS) (D:Deed)=>A8 (g=[.ref d,v]) (f D) (cf H d S) (Rep H D.dt v) (okD S D) (Few S) (Zc S) (∀(c:b9)(e:Hp),Sam H e->H c=Ki->cf e c (aft S D)->Q (.ref c) e)
def StA.stKlen{k:Int} : (stK m b r n k).length<=100:=by show 5<=100; decide
def wZ.le{H:Hp}(h:wZ H c d){n:Nat}(e:d.length<=n):c.length<=n:=by rw[h.length]; rwa[e]
def cN(l:List (j4×Int×Int)):(mkE l).length=l.length:=by unfold mkE; rw[b5]
def iY(l:List (Int×Int)):(rnE l).length=l.length:=by unfold rnE; rw[b5,List.length_zipIdx]
def Rc(l:List (Int×Deed)):(ntE l).length=l.length:=by unfold ntE; rw[b5]
end Sea

namespace Sea
def bkF(d p l:b9):List (j4×V):=[("state",.ref d),("past",.ref p),("later",.ref l)]
def zo : (bkF d p l).lookup ("state" : j4)=Kh (.ref d):=by symm
def gh : (bkF d p l).lookup ("past" : j4)=Kh (.ref p):=by symm
def hW : (bkF d p l).lookup ("later" : j4)=Kh (.ref l):=by symm
def ou : nY "state" (.ref c) (bkF d p l)=bkF c p l:=by symm
def fR : nY "later" (.ref c) (bkF d p l)=bkF d p c:=by symm
def Ri : nY "later" (.ref l) (nY "past" (.ref p) (nY "state" (.ref d) []))=bkF d p l:=by symm
def xY(H:Hp):List (Deed×BS)->List V->Prop
 | [],xs=>xs=[]
 | (D,S)::r,xs=>∃(t d:b9)(v:V)(c:List V),xs=.ref t::c/\H t=Kh (.tup [v,.ref d])/\Rep H D.dt v/\cf H d S/\xY H r c
structure BkA(C:b9)(H:Hp)(b p dx d l:b9)(ps ls:List V)(S:BS)(past later:List (Deed×BS)):Prop where
 ob:H b=Kh (.ins C dx (bkF d p l))
 st:cf H d S
 pa:H p=Kh (.lst ps)
 la:H l=Kh (.lst ls)
 pp:xY H past ps
 ll:xY H later ls
 ne:l≠p
def jA(C:b9)(H:Hp)(b p:b9)(S:BS)(past later:List (Deed×BS)):Prop:=∃ f d l c e,BkA C H b p f d l c e S past later
section
variable{φ:b9->Prop}{H H1:Hp}
def xv.samE(h:xv H a d)(s:vG φ H H1)(nd:∀ a c,Rd H a (.dK c)->¬ φ a)(e:∀ a xs,H a=Kh (.tup xs)->¬ φ a):xv H1 a d:=let ⟨c,h1,h2⟩:=h;⟨c,s.rd (nd _ _ h1) h1,h2.sam s e⟩
def cf.samE(h:cf H d S)(s:vG φ H H1)(nd:∀ a e,Rd H a (.dK e)->¬ φ a)(c:∀ a xs,H a=Kh (.tup xs)->¬ φ a):cf H1 d S :=
 let ⟨m,b,r,n,q⟩:=h;⟨m,b,r,n,s.rd (nd _ _ q.at_) q.at_,q.ma.samE s nd c,q.ba.samE s nd c,q.ru.samE s nd c,q.no.samE s nd c⟩
def xY.samE(s:vG φ H H1)(nd:∀ a f,Rd H a (.dK f)->¬ φ a)(c:∀ a xs,H a=Kh (.tup xs)->¬ φ a):∀{l:List (Deed×BS)}{xs:List V},xY H l xs->xY H1 l xs
 | [],_,h=>h
 | (D,S)::r,xs,h=>by
  obtain⟨t,d,v,g,e,h1,h2,h3,h4⟩:=h;rwa[t,d,v,g,e,s.tup (c _ _ h1) h1,h2.sam s c,h3.samE s nd c,xY.samE s nd c h4]
def xY.app{D:Deed}{v:V}(h1:H t=Kh (.tup [v,.ref d]))(h2:Rep H D.dt v)(h3:cf H d S):∀{l:List (Deed×BS)}{xs:List V},xY H l xs->xY H (l++[(D,S)]) (xs++[.ref t])
 | [],xs,h=>by
  have h:xs=[]:=h;rw[h];rwa[t,d,v,[],rfl,h1,h2,h3,rfl]
 | (D',p)::r,xs,h=>by
  obtain⟨f,n,c,o,e,m,j,i,g⟩:=h;rw[e];rwa[f,n,c,_,rfl,m,j,i,xY.app h1 h2 h3 g]
def xY.len:∀{l:List (Deed×BS)}{xs:List V},xY H l xs->xs.length=l.length
 | [],xs,h=>by have h:xs=[]:=h; rw[h]; rfl
 | (D,S)::r,xs,h=>by
  obtain⟨t,d,v,c,e,_,_,_,h4⟩:=h;rw[e,f9,f9,xY.len h4]
abbrev Bp(b p:b9):b9->Prop:=λx=>x=b\/x=p
def Pp(e:H b=Kh (.ins C g fs))(d:H p=Kh (.lst f)):∀ a c,Rd H a (.dK c)->¬ Bp b p a:=λa c h z=>by
 rcases z with z | z <;> subst z <;> rcases h with h | ⟨o,h⟩
 ·rw[e] at h; cases h
 ·rw[e] at h; cases h
 ·rw[d] at h; cases h
 ·rw[d] at h; cases h
def ZZ(e:H b=Kh (.ins C f fs))(d:H p=Kh (.lst c)):∀ a xs,H a=Kh (.tup xs)->¬ Bp b p a:=λa xs h z=>by
 rcases z with z | z <;> subst z
 ·rw[e] at h; cases h
 ·rw[d] at h; cases h
def BkA.to(k:BkA C H b p f d l c e S past later)(s:Sam H H1):BkA C H1 b p f d l c e S past later :=
 ⟨s.ins id k.ob,k.st.to s,s.lst id k.pa,s.lst id k.la,k.pp.samE s (λ_ _ _=>id) (λ_ _ _=>id),k.ll.samE s (λ_ _ _=>id) (λ_ _ _=>id),k.ne⟩
def jA.to(k:jA C H b p S past later)(s:Sam H H1):jA C H1 b p S past later:=let ⟨dx,d,l,ps,ls,q⟩:=k;⟨dx,d,l,ps,ls,q.to s⟩
def kN{m:j4}(h1:m ≠ "state")(h2:m ≠ "past")(h3:m ≠ "later"):(bkF d p l).lookup m=none:=by
 unfold bkF;rw[Ac,x5.mpr h1,Ac,x5.mpr h2,Ac,x5.mpr h3];rfl
end
end Sea

namespace Sea
def abc:j4 := "abcdefghijklmnopqrstuvwxyz"
def Vn:abc.cps.toList=(Ay 26).map (97 + ·):=by ac_nf
def Td{i:Int}(h0:0<=i)(h1:i<26):atI abc.cps.toList i=Kh (97+i.toNat):=by
 obtain⟨n,rfl⟩:=CO h0;erw[vF ?_];rw[Vn,c7,List.getElem?_range (by lia)];rfl
def chS(c:Nat):j4:=⟨#[c]⟩
def txt(l:List Nat):j4:=⟨l.toArray⟩
def zp(l:List Nat):(txt l).length=l.length:=by
 show l.toArray.size=_;rwa[g6]
def Sj(h:txt l=txt m):l=m:=by
 have:=congrArg (λx:j4=>x.cps.toList) h;simpa [txt] using this
def hZ(l m:List Nat):txt l++txt m=txt (l++m):=by
 show(⟨l.toArray++m.toArray⟩:j4)=⟨(l++m).toArray⟩;rw[List.append_toArray]
def Ws:∀ l:List Nat,FW "" (l.map chS)=txt l
 | []=>rfl
 | [c]=>rfl
 | c::d::l=>by
  show chS c++("" : j4)++FW "" ((d::l).map chS)=_;rw[Ws (d::l)];show txt [c]++txt []++txt (d::l)=_;rw[hZ,hZ];rfl
def Vt(l:List Nat):Fz "" (l.map chS)=txt l:=by
 rw[EI];rwa[Ws l]
def aV(l:List Nat):mC "" (l.map chS)=l.length:=by
 unfold mC;rw[show("" : j4).length=0 from by decide,Nat.mul_zero,JP]
 induction l with
 | nil=>rfl
 | cons c l d =>
  rw[i4,i4,G1,d,f9];show 1+l.length=_;lia
def ZG(l:List Nat)(k:Nat)(h:k<=l.length):Dn (txt l) Ki (Kh (k:Int))=txt (l.take k):=by
 have e:Ce Ki (Kh (k:Int)) 1 (txt l).length=Ay k:=by
  unfold Ce sliceRange;rw[zp];have n:¬ ((k:Int)<0):=by lia
  have c2:max 0 (min (k:Int) (l.length:Int))=k:=by lia
  simp only[n,if_false,show(1:Int)>0 by decide,if_true,c2];by_cases z:(0:Int)<k
  ·rw[y7 z];have g:(((k:Int)-0+1-1)/1).toNat=k:=by lia
   rw[g];erw[FX (by simp) λi h1 h2=>?_];simp
  ·have f:k=0:=by lia
   subst f;simp
 unfold Dn;rw[e,D3,zp];by_cases c:k=l.length
 ·rw[y7 (by simp[c]),Ax (by lia)]
 ·rw[y6 (by simp; rwa[c])];show(⟨_⟩:j4)=⟨_⟩
  congr 1
  congr 1
  refine Db λi=>?_;rw[Bu];have h2:(Ay k).filterMap (λj=>(txt l).cps[j]?)=l.take k:=by
   have:∀ m,m<=l.length->(Ay m).filterMap (λj=>(txt l).cps[j]?)=l.take m:=by
    intro m
    induction m with
    | zero=>intro _; simp
    | succ m d =>
     intro o;rw[Et,Gx,d (by lia),o3]
     congr 1
     rw[b8 (by lia)];simp[txt,BG,show m<l.length by lia]
   rwa[this k h]
  rw[h2,Bu]
def aS(l:List Nat)(k:Nat)(h:k<=l.length):Dn (txt l) (Kh (k:Int)) Ki=txt (l.drop k):=by
 have e:Ce (Kh (k:Int)) Ki 1 (txt l).length=(Ay (l.length-k)).map (k + ·):=by
  unfold Ce sliceRange;rw[zp];have n:¬ ((k:Int)<0):=by lia
  have c2:max 0 (min (k:Int) (l.length:Int))=k:=by lia
  simp only[n,if_false,show(1:Int)>0 by decide,if_true,c2];by_cases z:(k:Int)<l.length
  ·rw[y7 z];have g:(((l.length:Int)-k+1-1)/1).toNat=l.length-k:=by lia
   rw[g];erw[FX (by simp) λi h1 h2=>?_];simp;lia
  ·have f:l.length-k=0:=by lia
   rw[y6 z,f];rfl
 unfold Dn;rw[e,b5,D3,zp];by_cases c:k=0
 ·subst c;rw[y7 (by simp)];rfl
 ·by_cases o:l.length=0
  ·have:l=[]:=Bz.mp o;subst this;rw[y7 (by simp)];rw[List.drop_nil]
  rw[y6 (by simp; lia)];show(⟨_⟩:j4)=⟨_⟩
  congr 1
  congr 1
  have:∀ m,m<=l.length-k->((Ay m).map (k + ·)).filterMap (λj=>(txt l).cps[j]?)=(l.drop k).take m:=by
   intro m
   induction m with
   | zero=>intro _; simp
   | succ m d =>
    intro p;rw[Et,d5,Gx,d (by lia),o3]
    congr 1
    rw[List.getElem?_drop,b8 (by lia)];simp[txt,BG,show k+m<l.length by lia]
  rw[this _ (f6 _),Ax (by simp)]
def Vb{l:List Nat}{p c:Nat}(h:p<l.length):l.take p++[c]++l.drop (p+1)=l.set p c:=by
 rw[List.set_eq_take_append_cons_drop,y7 h];simp
def VX{l:List Nat}{p c:Nat}(h:p<l.length):Dn (txt l) Ki (Kh (p:Int))++chS c++Dn (txt l) (Kh ((p:Int)+1)) Ki=txt (l.set p c):=by
 rw[ZG l p (by lia),show((p:Int)+1)=((p+1:Nat):Int) from rfl,aS l (p+1) (by lia)];show txt _++txt [c]++txt _=_;rw[hZ,hZ,Vb h]
def aY{l:List Nat}(h1:1<=l.length)(h8:l.length<=8)(h:∀ c∈l,97<=c/\c<=122):rP (txt l):=⟨by rw[zp]; exact h1,by rw[zp]; exact h8,λc d=>h c (by simpa [txt] using d)⟩
def Ro{l:List Nat}{p r:Nat}(f:p<l.length){ws:List j4}(i:ws.length<26):¬ ∀ j,j<26->txt (l.set p (97+(r+j)%26))∈ws:=λh=>by
 have nd:((Ay 26).map λj=>txt (l.set p (97+(r+j)%26))).Nodup:=by
  erw[Cp.mpr (BE.mpr ?_)];erw[FK ?_ (Cp.mp List.nodup_range)];intro a b d c ne z;have d:=BV.mp d;have c:=BV.mp c;have z:=Sj z;have z:=congrArg (λm:List Nat=>m[p]?) z;simp only[DS f,CD] at z;lia
 have:=nd.length_le_of_subset (l₂:=ws) λx e=>by
  obtain⟨j,g,rfl⟩:=g9.mp e;rwa[h j (BV.mp g)]
 rw[b5,D3] at this;lia
def RQ(x y:j4):eqV (.str x) (.str y)=decide (x=y):=by
 unfold eqV
 first
  | rfl
  | simp
  | (by_cases h:x=y <;> simp[h])
def RG(x:j4)(ns:List j4):inV (.str x) (ns.map V.str)=decide (x∈ns):=by
 unfold inV
 induction ns with
 | nil=>simp
 | cons y ns c =>
  rw[i4,CG,c,RQ];by_cases h:x=y
  ·subst h; simp
  ·simp[h,BA h]
def XE(ns:List j4):(ns.map V.str).all iH=true:=by
 rw[DZ];rwa[AG.mpr λ_ _=>rfl]
end Sea

namespace Sea
def lwK(m b r n:b9)(k:Int):List (Key×V):=[(.inr "marks",.ref m),(.inr "banks",.ref b),(.inr "runs",.ref r),(.inr "notes",.ref n),(.inr "next",.int k)]
section
variable{m b r n c:b9}{k j:Int}
def ub:tZ (lwK m b r n k) (.inr "marks")=Kh (.ref m):=by symm
def dU:tZ (lwK m b r n k) (.inr "runs")=Kh (.ref r):=by symm
end
structure LwA(H:Hp)(d m b r n:b9)(S:BS):Prop where
 at_:Rd H d (.dK (lwK m b r n S.coming))
 ma:xv H m (mkE S.marks)
 ba:xv H b (bkE S.banks)
 ru:∃ rs,H r=Kh (.lst rs)/\wB H (S.runs.map ptD) rs
 no:xv H n (ntE S.notes)
def LwAt(H:Hp)(d:b9)(S:BS):Prop:=∃ m b r n,LwA H d m b r n S
section
variable{φ:b9->Prop}{H H1:Hp}{d m b r n:b9}{S:BS}
def LwA.samE(h:LwA H d m b r n S)(s:vG φ H H1)(nd:∀ a e,Rd H a (.dK e)->¬ φ a)(c:∀ a xs,H a=Kh (.tup xs)->¬ φ a)(f:∀ xs,H r=Kh (.lst xs)->¬ φ r):LwA H1 d m b r n S :=
 ⟨s.rd (nd _ _ h.at_) h.at_,h.ma.samE s nd c,h.ba.samE s nd c,let ⟨rs,h1,h2⟩:=h.ru;⟨rs,s.lst (f _ h1) h1,h2.sam s c⟩,h.no.samE s nd c⟩
def LwA.to(h:LwA H d m b r n S)(s:Sam H H1):LwA H1 d m b r n S:=h.samE s (λ_ _ _=>id) (λ_ _ _=>id) (λ_ _=>id)
def wB.drop:∀{l:List Dt}{xs:List V}(k:Nat),wB H l xs->wB H (l.drop k) (xs.drop k)
 | _,_,0,h=>h
 | [],_,k+1,h=>by rw[yI.mp h]; rwa[yI.mpr rfl]
 | d::l,_,k+1,h=>by
  obtain⟨x,r,e,_,h2⟩:=zK.mp h;rw[e];rwa[wB.drop k h2]
def wB.take:∀{l:List Dt}{xs:List V}(k:Nat),wB H l xs->wB H (l.take k) (xs.take k)
 | _,_,0,h=>yI.mpr rfl
 | [],_,k+1,h=>by rw[yI.mp h]; rwa[yI.mpr rfl]
 | d::l,_,k+1,h=>by
  obtain⟨x,r,e,h1,h2⟩:=zK.mp h;rw[e];rwa[zK.mpr ⟨x,_,rfl,h1,wB.take k h2⟩]
def iM{c:List (Int×Int)}{i:Nat}(h:wB H (c.map ptD) xs)(e:xs[i]?=Kh x):∃(p:Int×Int)(a:b9),c[i]?=Kh p/\x=.ref a/\H a=Kh (.tup [.int p.1,.int p.2]):=by
 obtain⟨d,g,hd⟩:=h.back e;rw[c7,j8] at g;obtain⟨p,f,rfl⟩:=g;obtain⟨a,l,j⟩:=kC hd;rwa[p,a,f,l,j]
end
def aL{xs:List V}{i j:Nat}(c:j<=xs.length)(hi:i<=xs.length):yg xs (Kh (i:Int)) (Kh (j:Int))=(xs.drop i).take (j-i):=by
 unfold yg;rw[HT.sIx_nat,HT.sIx_nat,Eu hi,Eu c]
def zc(runs:List (Int×Int))(i j:Nat):List (Int×Int):=(runs.drop (min i j)).take (max i j-min i j)
def sM(i j:Nat):Int:=if j<i then -1 else 1
def vH(runs:List (Int×Int))(i j:Nat):Int×Int:=(sM i j*((zc runs i j).map (·.1)).sum,sM i j*((zc runs i j).map (·.2)).sum)
def uf(runs:List (Int×Int))(i j:Nat):(zc runs i j).length<=runs.length:=by
 unfold zc;rw[g8,Ai];lia
def nZ:∀(l:List Int)(M:Nat),(∀ x∈l,x.natAbs<=M)->l.sum.natAbs<=l.length*M
 | [],_,_=>by simp
 | x::l,M,h=>by
  have d:=nZ l M λy c=>h y (.tail _ c);have e:=h x (.head _);rw[G1,f9,Nat.add_mul,Nat.one_mul];have:=FC x l.sum;lia
end Sea

namespace L2
def Zu{ns:List j4} : ∀{c:List c5},yW (ns.map V.str) c->StrsAre c ns:=by
 induction ns with
 | nil=>intro c r; rw[ED] at r; cases r; rwa[.nil]
 | cons n ns d =>
  intro c r;rw[i4] at r;cases r with
  | cons r1 r2 =>
   obtain⟨t,e⟩:=r1;subst e;rwa[.cons n t (d r2)]
def QP:∀{c:List c5}{ns:List j4},StrsAre c ns->yW (ns.map V.str) c
 | _,_,.nil=>.nil
 | _,_,.cons n t h=>.cons ⟨t,rfl⟩ (QP h)
section
variable{X:Cx}
def oz:uK X (.builtin "sorted") (λxs H Q=>E2 λ(l:b9) (ns:List j4)=>A4 (xs=[.ref l]) (SqL X.K H l (ns.map V.str)) (ns.length<64) (∀(p:b9)(c:List j4),H p=Ki->c.Perm ns->sortedS c=Kj->Q (.ref p) (upd H p (.lst (c.map V.str))))):=by
 intro B s y H xs z Q I r h;obtain⟨l,ns,rfl,m,f,q⟩:=h;obtain⟨u,rfl,ru⟩:=yW.one r;cases ru;obtain⟨d,g,j,A⟩:=I.list m;have n:=g.length;rw[b5] at n;erw[sorted_strs (ss:=ns) j.isList (Zu g) (by lia) λout c x i w=>?_];obtain⟨e,at'⟩:=sortedAll_at s.heap d out;have v:H (s.heap.objs.size+1)=none:=I.hok.fresh (Bi _);erw[.ref (s.heap.objs.size+1),_,I.laid (t':=s.toks) (a:=s.heap.objs.size+1) (o:=.lst (c.map V.str)) (λb ob q=>sortedAll_old q) (Bi _) ?_,rfl,q _ c v i w];refine⟨?_,out.toList,e,QP x,by simpa using at'⟩;rw[b5,i.length_eq];rwa[g7 (Bq f) (by rw[sizeLine_eq]; decide)]
end
def dw(v d:b9)(h:Ae):Prop:=h.IsItemsView v d
section
variable{X:Cx}{l:AD}{te:TE}{apos pos:Ea}
def Ow(te:TE):TE:=λf H Q=>te f H λx e=>E2 λ(d:b9) (c:List (Key×V))=>A3 (x=.ref d) (Rd e d (.dK c)) (∀ v,e v=Ki->Q (.ref v) (upd e v (.ext (dw v d))))
def Ux(u:PE X l te)(g:attributeBase l "items" X.env (eval l X.env)=eval l X.env:=by rfl)(f:(apos.endLine == pos.line)=true:=by rfl):PE X (.Call (.Attribute l "items" apos) [] [] pos) (Ow te):=by
 intro y s n H Q I h;erw[Hx (T := "dict") (id := "dict.items") g rfl f F.plainAttrs_dict Hy F.type_dict_items (thn (u y s n H _ I h) λv i ⟨x,A,m,r1,d,r,e,hd,q⟩=>?_)];subst e;cases r1;obtain⟨z,ns,p,rel,j⟩:=hd.ok m.hok;exists j.typeIs,j.mapOf.noDict;show wpAny _ _ (callWith pos (.builtin "dict.items") [.ref d] [] []) _ _ i;erw[method_meetsIn Hy F.entry_dict_items rfl (GR ⟨rfl,j.typeIs,F.args_dict_items_1 _,_,meets_dict_items (yZ X.prog X.w) d ns,⟨p,j⟩,?_⟩)];erw[.ref i.heap.objs.size,_,m.laid (t':=i.toks) (a:=i.heap.objs.size) (o:=.ext (dw i.heap.objs.size d)) (λb o e=>c9 _ e) (f6 _) ⟨⟨_,i7 _ rfl,rfl,rfl⟩,⟨_,i7 _ rfl⟩,λh1 h2 ⟨o,e,c⟩ k=>⟨o,k o e,c⟩⟩,rfl,q _ (m.hok.fresh (f6 _))]
end
def Inv.more{j:St}{H:Hp}(I:Inv X i j H s)(f:ZJ X i H a)(new:uL X.prog X.w (upd H a o) s.heap a o):Inv X i j (upd H a o) s:=by
 obtain⟨D,C,E,B,A,y⟩:=f;have d:∀{b:b9}{u:HO},H b=Kh u->upd H a o b=Kh u:=λ{b u} e=>by
  rw[zH (λz=>by rw[z,D] at e; cases e)];rwa[e]
 have g:∀{b:b9},b≠a->H b=Ki->upd H a o b=none:=λ{b} n e=>by rw[zH n]; rwa[e]
 have lo:∀{b:b9}{u:BP},X.s₀.heap.get? b=Kh u->b ∉ X.ex->b≠a:=λ{b u} e h z=>by
  rcases B with q | q
  ·rwa[h (by rw[z]; exact q)]
  ·rwa[x4 (i5 e) (Nat.not_lt.mpr (by rw[z]; exact q))]
 refine⟨I.ok,I.os,I.bare,⟨I.base.keep,I.base.slot,λb u e n h=>g (lo e h) (I.base.free b u e n h),I.base.there,λb xs e=>d (I.base.tups b xs e),λb u v e=>d (I.base.frzs b u v e),
  λb r e=>let ⟨more,q⟩:=I.base.tbls b r e;⟨more,d q⟩⟩,I.loc,I.cell,g (BA C) I.free,λx c e=>g (A x c e) (I.freeC x c e),λp l=>?_,λb u e=>?_,I.len⟩
 ·obtain⟨h1,h2,h3⟩:=I.pin p l;rwa[h1,g (y p l) h2,h3]
 ·by_cases m:b=a
  ·subst m;rw[zA] at e;cases e;rwa[new]
  ·rw[zH m] at e;exact(I.hok b u e).stay (λc v _ q=>q) (λc q=>d q) λc xs q=>d q
section
open PySem.W
variable{prog:j9}{w:o9}{A:Ad}{E:c5->c8->Prop}{s:c8}
def YV{c:Nat->Nat->(Bool->c8->Prop)->c8->Prop}{p:Array Nat}{Q:Nat->c8->Prop} : ∀(f m:Nat),(∀ i,m<=i->i<m+f->∀ C:Bool->c8->Prop,C Kk s->c (p.getD i 0) (p.getD (i-1) 0) C s)->Q (m+f) s->(kas_asc p f m).kasWp c Q s
 | 0,m,_,h=>h
 | f+1,m,d,h=>by
  erw[d m (f6 _) (by lia) _ ?_];show(if Kk=Kj then KasT.ret m else kas_asc p f (m+1)).kasWp c Q s;rw[y6 (by simp)];exact YV f (m+1) (λi h1 h2=>d i (by lia) (by lia)) (by rw[show m+1+f=m+(f+1) by lia]; rwa[h])
def bz{c:Nat->Nat->(Bool->c8->Prop)->c8->Prop}{n:Nat}{Q:Array Nat->c8->Prop}(h1:1<=n)(d:∀ i,1<=i->i<n->∀ C:Bool->c8->Prop,C Kk s->c i (i-1) C s)(h:Q (Ap (Ay n)) s) :
  (kas_sort n).kasWp c Q s:=by
 have g:∀{i:Nat},i<n->(Ap (Ay n)).getD i 0=i:=λ{i} hi=>by simp[hi]
 unfold kas_sort kas_count;rw[IA,IA];erw[YV (n-1) 1 (λi a b=>?_) ?_]
 ·rw[g (by lia),g (by lia)];rwa[d i a (by lia)]
 ·rw[show 1+(n-1)=n by lia,y7 (by simp)];show(if n<n then _ else KasT.ret (Ap (Ay n))).kasWp c Q s;rw[y6 (BB _)];rwa[h]
def oQ{d:List c5}{n:Nat}{P:Kg->c8->Prop}(x:s.heap.get? a=Kh (seqObj "list" d.toArray n))(I:d.length<64)
  (N:∀ l:Ae,(∀ b o,b≠a->s.heap.get? b=Kh o->l.get? b=Kh o)->2<=d.length->∃ m:Bw,(∀ Q:Bw->c8->Prop,Q m { s with heap:=l }->wpAny (model prog w) A (keyKind' d.toArray) Q E { s with heap:=l }) /\
   ∀ i,1<=i->i<d.length->∀ C:Bool->c8->Prop,C Kk { s with heap:=l }->kas_ask prog w A m d i (i-1) C { s with heap:=l })
  (h:∀(l:Ae)(c:Nat),(∀ b o,b≠a->s.heap.get? b=Kh o->l.get? b=Kh o)->l.get? a=Kh (seqObj "list" d.toArray c)->P (.done (.ret .none)) { s with heap:=l }) :
  wpAny (model prog w) A (Cw.«list.sort» ⟨[.ref a],[]⟩) P E s:=by
 have Z:a<s.heap.objs.size:=i5 x;obtain⟨L,u⟩:∃ L,(s.heap.update a (AX λ_=>(#[]:Array c5))).get? a=Kh (seqObj "list" #[] L):=⟨_,get?_update_seq x λ_=>#[]⟩;rw[list_sort_plain];refine b7 (listItems_at x rfl ?_);refine b7 (listUpdate_at x rfl ?_ (by rw[g6,sizeLine_eq]; lia) (t9 _));refine b7 (seqEpoch_at u rfl ?_);refine b7 (wpAny_newTuple ?_ (by show d.length<=_; rw[sizeLine_eq]; lia));refine b7 (Eh ?_ (t9 _));refine BR ?_;have g:(((s.heap.update a (AX λ_=>#[])).push (seqObj "tuple" d.toArray 0)).push (seqObj "list" #[] 0)).get? a=Kh (seqObj "list" #[] L):=c9 _ (c9 _ u);have kp:∀ b o,b≠a->s.heap.get? b=Kh o->(((s.heap.update a (AX λ_=>#[])).push (seqObj "tuple" d.toArray 0)).push (seqObj "list" #[] 0)).get? b=Kh o:=λb o y e =>
  c9 _ (c9 _ ((AY _ _ (BA y)).trans e))
 have J:∀ c,(((((s.heap.update a (AX λ_=>#[])).push (seqObj "tuple" d.toArray 0)).push (seqObj "list" #[] 0)).update a (AX λ_=>d.toArray))).get? a=Kh (seqObj "list" d.toArray c)->P (.done (.ret .none)) { s with heap:=((((s.heap.update a (AX λ_=>#[])).push (seqObj "tuple" d.toArray 0)).push (seqObj "list" #[] 0)).update a (AX λ_=>d.toArray)) }:=λc e =>
  h _ c (λb o y q=>(AY _ _ (BA y)).trans (kp b o y q)) e
 obtain⟨c2,H⟩:∃ c2,(((((s.heap.update a (AX λ_=>#[])).push (seqObj "tuple" d.toArray 0)).push (seqObj "list" #[] 0)).update a (AX λ_=>d.toArray))).get? a=Kh (seqObj "list" d.toArray c2):=⟨_,get?_update_seq g λ_=>d.toArray⟩;have done:=J c2 H;show wpAny (model prog w) A _ P E { s with heap:=((s.heap.update a (AX λ_=>#[])).push (seqObj "tuple" d.toArray 0)).push (seqObj "list" #[] 0) };dsimp only;have B:d.toArray.size=d.length:=by simp
 by_cases h2:d.toArray.size<2
 ·rw[y7 h2,y7 h2];refine b7 (d9 ?_);rw[Iy];refine b7 (d9 ?_);dsimp only;have em:(d.toArray.zip d.toArray).map (·.2)=d.toArray:=by
   apply FU.mp;simp;rwa[FV (f6 _)]
  erw[b7 (seqEpoch_at g rfl ?_)];refine b7 (listUpdate_at g rfl ?_ (hsz2:=by rw[IM]; show(pairsOf d).size<=_; rw[pairsOf_size,sizeLine_eq]; lia));simp only[bne_self_eq_false,Bt,if_false];erw[d9 ?_];show P _ { s with heap:=Heap.update _ a (AX λ_=>(d.toArray.zip d.toArray).map (·.2)) };rw[em];rwa[done]
 ·rw[y6 h2,y6 h2];have v:2<=d.length:=by lia
  obtain⟨m,z,D⟩:=N _ kp v;refine b7 (z _ ?_);refine b7 (BC (kat_run (s:={ s with heap:=((s.heap.update a (AX λ_=>#[])).push (seqObj "tuple" d.toArray 0)).push (seqObj "list" #[] 0) }) (κ:=m) (ks:=d) (vs:=d)
   (G:=λp r=>p=Ap (Ay d.length)/\r={ s with heap:=((s.heap.update a (AX λ_=>#[])).push (seqObj "tuple" d.toArray 0)).push (seqObj "list" #[] 0) })
   (Q:=λj r=>(arrOf j).map (·.2)=d.toArray/\failedOf j=Ki/\r={ s with heap:=((s.heap.update a (AX λ_=>#[])).push (seqObj "tuple" d.toArray 0)).push (seqObj "list" #[] 0) })
   rfl v I (λY j r a1 X T ⟨S,R⟩=>⟨?_,T,R⟩) (bz (by lia) D ⟨rfl,rfl⟩)) ?_ λ_ _ e=>e)
  ·rw[kat_snds rfl X,S];apply FU.mp;show(Ay d.length).map (λi=>d.getD i AW)=d;erw[FX (by simp) λi h1 h3=>?_];simp at h1;simp[h1]
  rintro⟨⟨⟩,j⟩ r ⟨M,O,rfl⟩;dsimp only;erw[b7 (seqEpoch_at g rfl ?_)];erw[b7 (listUpdate_at g rfl ?_ (hsz2:=by rw[M,B,sizeLine_eq]; lia))];rw[O,M];simp only[bne_self_eq_false,Bt,if_false];rwa[d9 done]
end
section
open PySem.W
variable{X:Cx}{Kl:List (b9×BP)}{σ:St}{H:Hp}{s:c8}
def Inv.tuples{lo:b9} : ∀{as:List b9}{H:Hp}(c:List (List V)),Inv X Kl σ H s->as.Pairwise (· < ·)->(∀ a∈as,ZJ X Kl H a)->as.length=c.length->(∀(j:Nat)(a:b9)(xs:List V),as[j]?=Kh a->c[j]?=Kh xs->∀ C,uL X.prog X.w C s.heap a (.tup xs)) ->
  ∃ d,Inv X Kl σ d s/\Same H d/\(∀(j:Nat)(a:b9)(xs:List V),as[j]?=Kh a->c[j]?=Kh xs->d a=Kh (.tup xs))/\∀ b,b ∉ as->d b=H b
 | [],H,[],I,_,_,_,_=>⟨H,I,Same.refl _,λj a xs e=>by simp at e,λ_ _=>rfl⟩
 | [],_,_::_,_,_,_,g,_=>by simp at g
 | _::_,_,[],_,_,_,g,_=>by simp at g
 | a::as,H,xs::c,I,u,q,g,p=>by
  have r:=q a (.head _);have f:=Bs.mp u;have B:=I.more (o:=.tup xs) r (p 0 a xs rfl rfl _);obtain⟨d,A,n,v,n2⟩:=Inv.tuples (lo:=lo) (as:=as) c B f.2 (λb h=>by
   obtain⟨y,x⟩:=q b (.tail _ h);rwa[by rw[zH (DT (f.1 b h))]; exact y,x]) (by simpa using g) (λj b m l i=>p (j+1) b m (by simpa using l) (by simpa using i))
  erw[d,A,(zC r.1 _).trans n,λj b m l i=>?_,λb h=>?_]
  ·cases j with
   | zero =>
    simp at l i;subst l i;rwa[n _ _ zA]
   | succ j=>exact v j b m (by simpa using l) (by simpa using i)
  ·rw[n2 b (λz=>h (.tail _ z)),zH (λz=>h (by rw[z]; rwa[.head _]))]
def jW{h:Ae} : ∀{as:List b9}{ns:List Int},as.length=ns.length->(∀(j:Nat)(a:b9)(n:Int),as[j]?=Kh a->ns[j]?=Kh n->∃ t x,h.get? a=Kh { cls:=.type "tuple",data:=.seq #[.int n t,x] }) ->
  ∃ fs,KatTups h (as.map r6) fs/\fs.length=ns.length/\∀ v∈fs,∃ n t,v=Cj n t
 | [],[],_,_=>⟨[],.nil,rfl,λv c=>nomatch c⟩
 | [],_::_,d,_=>by simp at d
 | _::_,[],d,_=>by simp at d
 | a::as,n::ns,d,g=>by
  obtain⟨t,x,e⟩:=g 0 a n rfl rfl;obtain⟨fs,k,l,f⟩:=jW (as:=as) (ns:=ns) (by simpa using d) λj b m h1 h2=>g (j+1) b m (by simpa using h1) (by simpa using h2);erw[.int n t::fs,.cons e rfl rfl rfl k,by simp[l],λv c=>?_];rcases j5.mp c with rfl | c
  ·rwa[n,t,rfl]
  ·rwa[f v c]
def gW(hc:X.calm=Kj):uK X (.builtin "sorted") (λxs H Q=>E3 λ(v d:b9) (f:List (Int×V))=>A6 (xs=[.ref v]) (H v=Kh (.ext (dw v d))) (Rd H d (.dK (f.map λe=>(.inl e.1,e.2)))) (f.length<64) ((f.map (·.1)).Pairwise (· < ·)) (∀(p:b9)(as:List b9)(H2:Hp),Same H H2->H p=Ki->as.length=f.length->H2 p=Kh (.lst (as.map V.ref))->(∀(j:Nat)(a:b9)(e:Int×V),as[j]?=Kh a->f[j]?=Kh e->H a=Ki/\H2 a=Kh (.tup [.int e.1,e.2]))->Q (.ref p) H2)):=by
 intro Kl s σ H xs us Q I r h;obtain⟨v,d,f,rfl,hv,hd,h64,hr,q⟩:=h;obtain⟨u,rfl,ru⟩:=yW.one r;cases ru;obtain⟨hz,ns,O,rel,da⟩:=hd.ok I.hok;obtain⟨o,es,ep,e,c,dt,hk,hp,Y⟩:=da;have hl:O.length=f.length:=by rw[<- rel.length,b5]
 have dat:s.heap.DictAt (yZ X.prog X.w) d O ep:=⟨o,es,e,c,dt,hk,hp,Y⟩;have M:s.heap.IsItemsView v d:=(show uL X.prog X.w H s.heap v (.ext (dw v d)) from I.hok v _ hv).1;have mv:f.length<=sizeLine:=by rw[sizeLine_eq]; lia
 have hh:X.A.in1.handled=none:=I.ok.hd hc;refine Du kind_sorted plain_sorted entry_sorted (args_sorted1 _) ?_;unfold Cw.«sorted»;refine b7 (m:=checkCount "sorted" 1 1 _) (d9 ?_);refine b7 (kdx_collect (knd:=yZ X.prog X.w) (kvs:=O) (ep:=ep) hh M dat (by rw[hl]; exact mv) λB J as keep la G=>?_);refine b7 (Eh ?_ (by rw[b5,la,hl]; exact mv));have L:as.length=f.length:=la.trans hl;have at_:∀(j:Nat)(a:b9)(e:Int×V),as[j]?=Kh a->f[j]?=Kh e->∃ t x,xZ e.2 x/\B.get? a=Kh { cls:=.type "tuple",data:=.seq #[.int e.1 t,x] }:=λj a e l z=>by
  obtain⟨key,k,x,E,D,Z⟩:=G.pairs j a l;obtain⟨u,hu,ru⟩:=KV.at (vs:=O) (i:=j) (k:=.inl e.1) (v:=e.2) rel (by rw[c7,z]; rfl);rw[hu] at E;cases E;have g2':cX (Dl e.1) key=true:=D;rcases xB g2' with ⟨i,t,R,N⟩ | ⟨y,t,R,N⟩
  ·cases R;rw[N] at Z;rwa[t,_,ru,Z]
  ·cases R
 have P:(B.push (seqObj "list" (as.map r6).toArray 0)).get? B.objs.size=Kh (seqObj "list" (as.map r6).toArray 0):=i7 _ rfl;show wpAny _ _ _ _ _ { s with heap:=B.push (seqObj "list" (as.map r6).toArray 0),toks:=J };erw[b7 (BR (Ba slot_list_sort ⟨_,P,rfl⟩ entry_list_sort ?body (args_list_sort _)))]
 case body =>
  refine oQ (s:={ s with heap:=B.push (seqObj "list" (as.map r6).toArray 0),toks:=J }) P (by rw[b5,L]; rwa[h64]) (λh2 k2 two=>?_) λh2 c k2 N=>⟨_,rfl,d9 ⟨_,rfl,?_⟩⟩
  ·have S:∀(j:Nat)(a:b9)(e:Int×V),as[j]?=Kh a->f[j]?=Kh e->∃ t x,xZ e.2 x/\h2.get? a=Kh { cls:=.type "tuple",data:=.seq #[.int e.1 t,x] }:=λj a e l z=>by
    obtain⟨t,x,E,D⟩:=at_ j a e l z;rwa[t,x,E,k2 a _ (m7 (i5 D)) (c9 _ D)]
   have one:∀ j,j<f.length->∃(a:b9)(t:Je)(x:c5),(as.map r6)[j]?=Kh (.ref a)/\h2.get? a=Kh { cls:=.type "tuple",data:=.seq #[.int (f[j]?.getD (0,V.int 0)).1 t,x] }:=λj hj=>by
    have ej:f[j]?=Kh f[j]:=b8 hj;have ea:as[j]?=Kh as[j]:=b8 (by lia);obtain⟨t,x,_,g⟩:=S j _ _ ea ej;rwa[as[j],t,x,by rw[c7,ea]; rfl,by rw[ej]; exact g]
   rw[b5,L] at two;erw[tuples' Kj,λQ' hq=>?_,λi h1 hi C hC=>?_]
   ·obtain⟨fs,kt,fl,fi⟩:=jW (h:=h2) (ns:=f.map (·.1)) (as:=as) (by rw[b5,L]) λj a n l Y=>by
     rw[c7,j8] at Y;obtain⟨e,z,rfl⟩:=Y;obtain⟨t,x,_,g⟩:=S j a e l z;rwa[t,x,g]
    exact kat_kind (T:=.type "int") kt (by rw[fl,b5]; lia) (λv hv=>let ⟨n,t,e⟩:=fi v hv; by rw[e]; rwa[.now]) (by decide) hq
   ·rw[b5,L] at hi;obtain⟨a,t,x,R,E⟩:=one i hi;obtain⟨b,u,y,N,D⟩:=one (i-1) (by lia);unfold kas_ask;rw[An,An,R,N];refine kat_lt E rfl D rfl (kat_cons (FL ?_));have lt:(f[i-1]?.getD (0,V.int 0)).1<(f[i]?.getD (0,V.int 0)).1:=by
     rw[b8 hi,b8 (show i-1<f.length by lia)];have:=Dr.mp hr (i-1) i (by rw[b5]; lia) (by rw[b5]; lia) (by lia);rw[Bc,Bc] at this;rwa[this]
    rw[show((f[i]?.getD (0,V.int 0)).1 ==(f[i-1]?.getD (0,V.int 0)).1)=Kk from by
     rw[x5];lia]
    erw[kat_no (oneLt_int ?_)];rw[y9 (by lia)];rwa[hC]
  ·have kp:∀ b o,s.heap.get? b=Kh o->h2.get? b=Kh o:=λb o e=>k2 b o (m7 (i5 (keep b o e))) (c9 _ (keep b o e));have I2:Inv X Kl σ H { s with heap:=h2,toks:=J }:=I.kept (t':=J) kp;have ab:∀ a∈as,s.heap.objs.size<=a:=λa l=>Bq (G.above a l);have I1:Inv X Kl σ H { s with heap:=B,toks:=J }:=I.kept (t':=J) keep;have fp:=I1.fpOk (H':=H) (f6 _) (I1.hok.fresh (f6 _));have I3:Inv X Kl σ (upd H B.objs.size (.lst (as.map V.ref))) { s with heap:=h2,toks:=J }:=I2.more fp ⟨by rw[b5,L]; exact mv,as.map r6,c,ui as,N⟩;obtain⟨H3,I4,s3,Z,n3⟩:=I3.tuples (lo:=0) (f.map λe=>[V.int e.1,e.2]) G.rise (λa l=>by
    refine I.fpOk (ab a l) ?_;rw[zH (m7 (G.there l))];exact I.hok.fresh (ab a l)) (by rw[b5,L]) λj a xs l hx H'=>by
     rw[c7,j8] at hx;obtain⟨e,z,rfl⟩:=hx;obtain⟨t,x,E,D⟩:=at_ j a e l z;exact⟨by show 2<=sizeLine; rw[sizeLine_eq]; decide,[.int e.1 t,x],.cons ⟨t,rfl⟩ (.cons E .nil),_,k2 a _ (m7 (i5 D)) (c9 _ D),rfl,_,rfl⟩
   rwa[.ref B.objs.size,H3,I4,rfl,q B.objs.size as H3 ((zC fp.1 _).trans s3) fp.1 L (s3 _ _ zA) λj a e l z=>⟨I.hok.fresh (ab a (f7 l)),Z j a _ l (by rw[c7,z]; rfl)⟩]
end
end L2

namespace Sea
section
variable{H H1:Hp}
def aO:∀{l:List (Int×Deed)}{c:List (Key×V)},wZ H c (ntE l)->∃ d:List (Int×V),c=d.map (λe=>(.inl e.1,e.2))/\d.map (·.1)=l.map (·.1)/\wB H (l.map (·.2.dt)) (d.map (·.2))
 | [],_,h=>⟨[],h.nil_iff,rfl,yI.mpr rfl⟩
 | (n,D)::l,_,h=>by
  obtain⟨v,r,rfl,h1,h2⟩:=wZ.cons_iff.mp h;obtain⟨d,rfl,e,h3⟩:=aO (l:=l) h2;rwa[(n,v)::d,rfl,by rw[i4,i4,e],zK.mpr ⟨v,_,rfl,h1,h3⟩]
def im:∀{l:List (j4×Int×Int)}{c:List (Key×V)},wZ H c (mkE l)->c.map (λd=>kV d.1)=(l.map (·.1)).map V.str
 | [],_,h=>by rw[h.nil_iff]; rfl
 | (n,p)::l,_,h=>by
  obtain⟨v,r,rfl,h1,h2⟩:=wZ.cons_iff.mp h;rw[i4,im h2];rfl
structure yk(H:Hp)(as:List b9)(l:List (Int×Deed)):Prop where
 len:as.length=l.length
 at_:∀(j:Nat)(a:b9)(e:Int×Deed),as[j]?=Kh a->l[j]?=Kh e->∃ v,H a=Kh (.tup [.int e.1,v])/\Rep H e.2.dt v
def yk.to(h:yk H as l)(s:Sam H H1):yk H1 as l:=⟨h.len,λj a e d c=>let ⟨v,h1,h2⟩:=h.at_ j a e d c;⟨v,s.tup id h1,h2.to s⟩⟩
def Tb(S:BS):Prop:=(S.notes.map (·.1)).Pairwise (· < ·)
def pH(h:zN S n=Kh p):(n,p)∈S.marks:=by
 unfold zN at h;rw[j8] at h;obtain⟨e,h1,rfl⟩:=h;have h2:=List.find?_some h1;have c:e.1=n:=of_decide_eq_true h2;rw[<- c];rwa[List.mem_of_find?_eq_some h1]
def qN{S:BS}{n:j4}(h:n∈S.marks.map (·.1)):∃ p,zN S n=Kh p:=by
 obtain⟨e,h1,h2⟩:=g9.mp h;unfold zN;cases q:S.marks.find? λe=>decide (e.1=n) with
 | none=>rwa[x4 (DN.mp q e h1) (by simp[h2])]
 | some c=>rwa[c.2,rfl]
def uk{S:BS}(h:xv H m (mkE S.marks))(e:zN S n=Kh p):∃(c:List (Key×V))(a:b9),Rd H m (.dK c)/\tZ c (.inr n)=Kh (.ref a)/\H a=Kh (.tup [.int p.1,.int p.2]):=by
 obtain⟨c,h1,h2⟩:=h;obtain⟨v,g,r⟩:=h2.get (k:=.inr n) (d:=ptD p) (by rw[mL,e]; rfl);obtain⟨a,rfl,f⟩:=kC r;rwa[c,a,h1,g,f]
def Xp:∀{l:List (Int×Int)}{k i:Nat}{p:Int×Int},l[i]?=Kh p->look ((l.zipIdx k).map λe=>((.inl (e.2:Int):Key),ptD e.1)) (.inl ((k+i:Nat):Int))=Kh (ptD p)
 | [],_,_,_,e=>by simp at e
 | q::l,k,0,p,e=>by
  simp at e;subst e;simp[look,FS]
 | q::l,k,i+1,p,e=>by
  have c:=Xp (l:=l) (k:=k+1) (i:=i) (p:=p) (by simpa using e);rw[FS,i4];unfold look at c ⊢;rw[AQ,y9 (by intro z; injection z with z; simp at z; lia)];rw[show k+1+i=k+(i+1) by lia] at c;rwa[c]
def VI{S:BS}{i:Nat}(h:xv H r (rnE S.runs))(e:S.runs[i]?=Kh p):∃(c:List (Key×V))(a:b9),Rd H r (.dK c)/\tZ c (.inl (i:Int))=Kh (.ref a)/\H a=Kh (.tup [.int p.1,.int p.2]):=by
 obtain⟨c,h1,h2⟩:=h;have:=Xp (k:=0) e;rw[EH] at this;obtain⟨v,g,r⟩:=h2.get (k:=.inl (i:Int)) (d:=ptD p) this;obtain⟨a,rfl,f⟩:=kC r;rwa[c,a,h1,g,f]
end
section
variable{H H1:Hp}{S:BS}
structure xw(H:Hp)(S:BS)(as:List b9)(ms:List j4):Prop where
 mk ::
 len:as.length=ms.length
 at_:∀(j:Nat)(a:b9)(n:j4),as[j]?=Kh a->ms[j]?=Kh n->∃ p:Int×Int,zN S n=Kh p/\H a=Kh (.tup [.str n,.int p.1,.int p.2])
def xw.samE{c:b9->Prop}(h:xw H S as d)(s:vG c H H1)(e:∀ a xs,H a=Kh (.tup xs)->¬ c a):xw H1 S as d :=
 ⟨h.len,λj a n g f=>let ⟨p,h1,h2⟩:=h.at_ j a n g f;⟨p,h1,s.tup (e _ _ h2) h2⟩⟩
def xw.app(h:xw H S as f)(h1:zN S n=Kh p)(h2:H a=Kh (.tup [.str n,.int p.1,.int p.2])):xw H S (as++[a]) (f++[n]) :=
 ⟨by rw[f8,f8,h.len]; rfl,λj b m c d=>by
  rcases HA j as.length with z | z
  ·rw[Aq z] at c;rw[Aq (by rw[<- h.len]; rwa[z])] at d;rwa[h.at_ j b m c d]
  ·rw[x9 z] at c;rw[x9 (by rw[<- h.len]; rwa[z]),<- h.len] at d;have e:j-as.length=0:=by have:=(c6.mp c).1; simp at this; lia
   rw[e] at c d;simp at c d;subst c d;rwa[p,h1,h2]⟩
def qh(H:Hp)(d:b9)(S:BS):Prop:=∃ c,Rd H d (.dK c)/\∀ n p,zN S n=Kh p->∃ a,tZ c (.inr n)=Kh (.ref a)/\H a=Kh (.tup [.int p.1,.int p.2])
def qh.to(h:qh H d S)(s:Sam H H1):qh H1 d S:=let ⟨kvs,h1,h2⟩:=h;⟨kvs,s.rd id h1,λn p e=>let ⟨a,h3,h4⟩:=h2 n p e;⟨a,h3,s.tup id h4⟩⟩
def wa(d:H D=Kh u):vG (λx=>x=D) H (upd H D o):=λx o c e=>.inl (by rw[zH c]; rwa[e])
def tN(d:H D=Kh (.lst c)):∀ b xs,H b=Kh (.tup xs)->¬ b=D:=λb xs e z=>by rw[z,d] at e; cases e
end
def Rq{i j:Nat}{c:St}{G:V->Hp->Prop}{H:Hp}(h:G (.int (sM i j)) H):if decide ((i:Int)<=j)=Kj then tC (.int 1) c H G else tUn (rU λi=>V.int (-i)) (tC (.int 1)) c H G:=by
 erw[ifD (λz=>?_) (λz=>?_)]
 ·have:sM i j=1:=by unfold sM; rw[y6 (by lia)]
  rw[this] at h;rwa[h]
 ·have:sM i j = -1:=by unfold sM; rw[y7 (by lia)]
  rw[this] at h;rwa[_,rfl,h]
end Sea

namespace Sea
structure xA(H:Hp)(as:List b9)(rows:List (List Int)):Prop where
 mk ::
 len:as.length=rows.length
 at_:∀(j:Nat)(a:b9)(r:List Int),as[j]?=Kh a->rows[j]?=Kh r->H a=Kh (.tup (r.map V.int))
def xT(S:BS)(n:j4):Int×Int:=(zN S n).getD (0,0)
def zj(S:BS):Deed->List (List Int)
 | .bearing _ n a b c d=>[qH [-b,a,a*(xT S n).2-b*(xT S n).1],qH [d,-c,(xT S n).1*d-(xT S n).2*c]]
 | .range _ l r=>[qH [(xT S l).2-(xT S r).2,(xT S r).1-(xT S l).1,(xT S r).1*(xT S l).2-(xT S r).2*(xT S l).1]]
 | _=>[]
def QK(x y:Int):List Int->List Int
 | [a,b,c]=>[a,b,c+a*x+b*y]
 | l=>l
def vY:Deed->Int
 | .bearing m _ _ _ _ _=>m
 | .range m _ _=>m
 | _=>0
def yL(S:BS)(j:Nat)(D:Deed):List (List Int):=(zj S D).map (QK (vH S.runs (vY D).toNat j).1 (vH S.runs (vY D).toNat j).2)
def sZ(S:BS):Deed->Prop
 | .bearing m n a b c d=>0<=m/\m<=S.runs.length/\(zN S n).isSome=Kj/\qq (a,b)/\qq (c,d)
 | .range m l r=>0<=m/\m<=S.runs.length/\(zN S l).isSome=Kj/\(zN S r).isSome=Kj/\zN S l≠zN S r
 | _=>False
structure kT(S:BS):Prop where
 few:Few S
 fresh:Zc S
 rise:Tb S
 mk_:∀ e∈S.marks,qe e.2
 way:∀ e∈S.runs,qe e
 note:∀ e∈S.notes,sZ S e.2
section
variable{H H1:Hp}{S:BS}
def xA.to(h:xA H as rows)(s:Sam H H1):xA H1 as rows:=⟨h.len,λj a r d c=>s.tup id (h.at_ j a r d c)⟩
def xA.samE{c:b9->Prop}(h:xA H as rows)(s:vG c H H1)(f:∀ a xs,H a=Kh (.tup xs)->¬ c a):xA H1 as rows:=⟨h.len,λj a r e d=>s.tup (f _ _ (h.at_ j a r e d)) (h.at_ j a r e d)⟩
def xA.nil:xA H [] []:=⟨rfl,λj a r e=>by simp at e⟩
def xA.one{r:List Int}(h:H a=Kh (.tup (r.map V.int))):xA H [a] [r]:=⟨rfl,λj b e c d=>by
 cases j with
 | zero=>simp at c d; subst c d; rwa[h]
 | succ j=>simp at c⟩
def xA.app(h:xA H as rows)(k:xA H bs more):xA H (as++bs) (rows++more):=⟨by rw[f8,f8,h.len,k.len],λj a r d c=>by
 rcases HA j as.length with z | z
 ·rw[Aq z] at d;rw[Aq (by rw[<- h.len]; rwa[z])] at c;rwa[h.at_ j a r d c]
 ·rw[x9 z] at d;rw[x9 (by rw[<- h.len]; rwa[z]),<- h.len] at c;rwa[k.at_ _ a r d c]⟩
def tJ(h:∀ e∈S.marks,qe e.2)(e:zN S n=Kh p):qe p:=h _ (pH e)
def uJ(e:zN S n=Kh p):xT S n=p:=by unfold xT; rw[e]; rfl
end
structure wK(H0 H:Hp)(gs:List b9)(rows:List (List (List Int))):Prop where
 mk ::
 len:gs.length=rows.length
 new:∀ g∈gs,H0 g=Ki
 at_:∀(j:Nat)(g:b9)(r:List (List Int)),gs[j]?=Kh g->rows[j]?=Kh r->∃ as:List b9,H g=Kh (.lst (as.map V.ref))/\xA H as r
section
variable{H0 H H1:Hp}{S:BS}
def wK.samE{c:b9->Prop}(h:wK H0 H d rows)(s:vG c H H1)(f:∀ a xs,H a=Kh (.tup xs)->¬ c a)(i:∀ g∈d,¬ c g):wK H0 H1 d rows :=
 ⟨h.len,h.new,λj g r e l=>let ⟨as,h1,h2⟩:=h.at_ j g r e l;⟨as,s.lst (i g (f7 e)) h1,h2.samE s f⟩⟩
def wK.nil:wK H0 H [] []:=⟨rfl,λg c=>(nomatch c),λj a r e=>by simp at e⟩
def wK.snoc{as:List b9}(h:wK H0 H f rows)(h0:H0 g=Ki)(h1:H g=Kh (.lst (as.map V.ref)))(h2:xA H as r):wK H0 H (f++[g]) (rows++[r]) :=
 ⟨by rw[f8,f8,h.len]; rfl,λx l=>by
  rcases i9.mp l with z | z
  ·rwa[h.new x z]
  ·rw[e9.mp z]; exact h0,λj a i c d=>by
  rcases HA j f.length with z | z
  ·rw[Aq z] at c;rw[Aq (by rw[<- h.len]; rwa[z])] at d;rwa[h.at_ j a i c d]
  ·rw[x9 z] at c;rw[x9 (by rw[<- h.len]; rwa[z]),<- h.len] at d;have e:j-f.length=0:=by have:=(c6.mp c).1; simp at this; lia
   rw[e] at c d;simp at c d;subst c d;rwa[as,h1,h2]⟩
def Rw{a b c:Int}{M:Nat}(e:a.natAbs<=M)(d:b.natAbs<=M):∃ x y z:Int,qH [a,b,c]=[x,y,z]/\x.natAbs<=M/\y.natAbs<=M :=
 ⟨_,_,_,rfl,g7 (BM _ _) e,g7 (BM _ _) d⟩
def gR(i:∀ e∈S.marks,qe e.2)(kn:sZ S D):∀ r∈zj S D,∃ x y z:Int,r=[x,y,z]/\x.natAbs<=10^4/\y.natAbs<=10^4:=by
 match D,kn with
 | .bearing m n a b c d,kn =>
  obtain⟨_,_,_,⟨_,w1,v,u,s⟩,⟨_,q,p,o,j⟩⟩:=kn;dsimp only at w1 v u s q p o j;intro r f;rcases j5.mp f with e | f
  ·rw[e]; rwa[Rw (by lia) (by lia)]
  ·rw[e9.mp f]; rwa[Rw (by lia) (by lia)]
 | .range m l r,kn =>
  obtain⟨_,_,h1,h2,_⟩:=kn;obtain⟨pt,h⟩:=m9.mp h1;obtain⟨A,g⟩:=m9.mp h2;obtain⟨n1,n2,n3,n4⟩:=tJ i h;obtain⟨G,E,C,B⟩:=tJ i g;intro w f;rw[e9.mp f,uJ h,uJ g];rwa[Rw (by lia) (by lia)]
def jX : (zj S D).length<=2:=by
 unfold zj;split <;> simp
def bt(kn:sZ S D)(h:Rep H D.dt v):∃(t:b9)(xs:List V),v=.ref t/\H t=Kh (.tup xs)/\atI xs 1=Kh (.int (vY D))/\0<=vY D/\vY D<=S.runs.length:=by
 match D,kn,h with
 | .bearing m n a b c d,kn,h =>
  obtain⟨t,_,_,e,f,_⟩:=xc h;rwa[t,_,e,f,rfl,kn.1,kn.2.1]
 | .range m l r,kn,h =>
  obtain⟨t,e,f⟩:=nH h;rwa[t,_,e,f,rfl,kn.1,kn.2.1]
end
def qg{c d:Type}(f:c->List d)(h:∀ x,(f x).length<=2):∀ l:List c,((l.map f).flatten).length<=2*l.length
 | []=>f6 _
 | x::l=>by
  have:=qg f h l;have:=h x;simp only[i4,HC,f8,f9];lia
def vL{j:Nat} : (yL S j D).length<=2:=by unfold yL; rw[b5]; rwa[jX]
def np_dk{H:Hp}(d:H D=Kh (.dK c)):∀ b xs,H b=Kh (.tup xs)->¬ b=D:=λb xs e z=>by rw[z,d] at e; cases e
def ZX{runs:List (Int×Int)}{j:Nat}(h:runs.length<=3)(g:∀ e∈runs,e.1.natAbs<=4/\e.2.natAbs<=4):(vH runs 0 j).1.natAbs<=12/\(vH runs 0 j).2.natAbs<=12:=by
 have f:∀ e∈zc runs 0 j,e∈runs:=λe c=>AF (Aj c);have l:=uf runs 0 j;have a:=nZ ((zc runs 0 j).map (·.1)) 4 λx d=>by
  obtain⟨e,c,rfl⟩:=g9.mp d;exact(g e (f e c)).1
 have b:=nZ ((zc runs 0 j).map (·.2)) 4 λx d=>by
  obtain⟨e,c,rfl⟩:=g9.mp d;exact(g e (f e c)).2
 rw[b5] at a b;unfold vH sM;split <;> rwa[by dsimp only; lia,by dsimp only; lia]
def af{k p q:Int}(d:1<=k)(h:¬ (p=0/\q=0)):0<(k*p+q)*(k*q+p)-(k*q-p)*(k*p-q):=by
 have e:(k*p+q)*(k*q+p)-(k*q-p)*(k*p-q)=2*k*(p*p+q*q):=by grind
 rw[e];have h1:0<=p*p:=by rcases JQ 0 p with z | z; rwa[z7 z z]; rwa[DO z z]
 have h2:0<=q*q:=by rcases JQ 0 q with z | z; rwa[z7 z z]; rwa[DO z z]
 have h3:0<p*p+q*q:=by
  rcases Ge (p=0) with z | z
  ·have c:q≠0:=λw=>h ⟨z,w⟩;have:q*q≠0:=C3 c c;lia
  ·have:p*p≠0:=C3 z z;lia
 rwa[BY (by lia) h3]
def sQ{H:Hp}{m:Int}{a b c d:Int}(e:H w=Kh (.tup [.str "bearing",.int m,.str n,.ref p,.ref q]))(g:H p=Kh (.tup [.int a,.int b]))(f:H q=Kh (.tup [.int c,.int d])):Rep H (Deed.bearing m n a b c d).dt (.ref w) :=
 uW.mpr ⟨w,_,rfl,e,zK.mpr ⟨_,_,rfl,xO.mpr rfl,zK.mpr ⟨_,_,rfl,xR.mpr rfl,zK.mpr ⟨_,_,rfl,xO.mpr rfl,.two (mQ (p:=(a,b)) g) (mQ (p:=(c,d)) f)⟩⟩⟩⟩
def Wt{H:Hp}{m:Int}(c:H w=Kh (.tup [.str "range",.int m,.str l,.str r])):Rep H (Deed.range m l r).dt (.ref w) :=
 uW.mpr ⟨w,_,rfl,c,zK.mpr ⟨_,_,rfl,xO.mpr rfl,zK.mpr ⟨_,_,rfl,xR.mpr rfl,.two (xO.mpr rfl) (xO.mpr rfl)⟩⟩⟩
def VF{H:Hp}{x y:Int}(c:H w=Kh (.tup [.str "mark",.str n,.int x,.int y])):Rep H (Deed.mark n x y).dt (.ref w) :=
 uW.mpr ⟨w,_,rfl,c,zK.mpr ⟨_,_,rfl,xO.mpr rfl,zK.mpr ⟨_,_,rfl,xO.mpr rfl,.two (xR.mpr rfl) (xR.mpr rfl)⟩⟩⟩
def aR{H:Hp}{k:Int}(c:H w=Kh (.tup [.str "strike",.int k])):Rep H (Deed.strike k).dt (.ref w) :=
 uW.mpr ⟨w,_,rfl,c,.two (xO.mpr rfl) (xR.mpr rfl)⟩
def Uj{H:Hp}{x y:Int}(c:H w=Kh (.tup [.str "sail",.int x,.int y])):Rep H (Deed.sail x y).dt (.ref w) :=
 uW.mpr ⟨w,_,rfl,c,zK.mpr ⟨_,_,rfl,xO.mpr rfl,.two (xR.mpr rfl) (xR.mpr rfl)⟩⟩
def eJ{a b c d:Int}(t:0<a*d-b*c)(h1:a.natAbs<=100)(h2:b.natAbs<=100)(h3:c.natAbs<=100)(h4:d.natAbs<=100):qq (a,b)/\qq (c,d):=by
 erw[⟨λz=>?_,by dsimp only; lia,by dsimp only; lia,by dsimp only; lia,by dsimp only; lia⟩,⟨λz=>?_,by dsimp only; lia,by dsimp only; lia,by dsimp only; lia,by dsimp only; lia⟩]
 ·injection z with z1 z2
  rw[z1,z2] at t;simp at t
 ·injection z with z1 z2
  rw[z1,z2] at t;simp at t
end Sea

namespace Sea
def qF{e:j4×Int×Int}(h:(zN S n).isSome=Kj):zN { S with marks:=S.marks++[e] } n=zN S n:=by
 unfold zN at h ⊢;dsimp only;rw[List.find?_append];cases q:S.marks.find? λe=>decide (e.1=n) with
 | none=>rw[q] at h; simp at h
 | some c=>rfl
def Zb{e:j4×Int×Int}(h:sZ S D):sZ { S with marks:=S.marks++[e] } D:=by
 match D,h with
 | .bearing m n a b c d,h=>rwa[h.1,h.2.1,by rw[qF h.2.2.1]; exact h.2.2.1,h.2.2.2]
 | .range m l r,h=>rwa[h.1,h.2.1,by rw[qF h.2.2.1]; exact h.2.2.1,by rw[qF h.2.2.2.1]; exact h.2.2.2.1,by rw[qF h.2.2.1,qF h.2.2.2.1]; exact h.2.2.2.2]
def WB{e:Int×Int}(h:sZ S D):sZ { S with runs:=S.runs++[e] } D:=by
 match D,h with
 | .bearing m n a b c d,h=>exact⟨h.1,by have:=h.2.1; dsimp only; rw[f8]; simp only[f9,Ao]; lia,h.2.2⟩
 | .range m l r,h=>exact⟨h.1,by have:=h.2.1; dsimp only; rw[f8]; simp only[f9,Ao]; lia,h.2.2⟩
def pF{l:List (Int×Deed)}{k:Int}(h:sZ S D):sZ { S with notes:=l,coming:=k } D:=by
 match D,h with
 | .bearing m n a b c d,h=>rwa[h]
 | .range m l r,h=>rwa[h]
def nU:kT BS.nil:=⟨⟨by decide,by decide,by decide,by decide⟩,λe c=>(nomatch c),.nil,λe c=>(nomatch c),λe c=>(nomatch c),λe c=>(nomatch c)⟩
def gK(g:kT S)(kn:sZ S D)(l:S.notes.length<24):kT { S with notes:=S.notes++[(S.coming,D)],coming:=S.coming+1 }:=by
 refine⟨⟨g.few.ma,g.few.ba,g.few.ru,by show(S.notes++[_]).length<=60; rw[f8]; simp only[f9,Ao]; lia⟩,λe c=>?_,?_,g.mk_,g.way,λe c=>?_⟩
 ·rcases i9.mp c with z | z
  ·have:=g.fresh e z;show e.1<S.coming+1;lia
  ·rw[e9.mp z];show S.coming<S.coming+1;lia
 ·show((S.notes++[(S.coming,D)]).map (·.1)).Pairwise (· < ·);rw[d5,GG];erw[g.rise,CP _ _,λx f y d=>?_];obtain⟨e,c,rfl⟩:=g9.mp f;rw[e9.mp d];rwa[g.fresh e c]
 ·rcases i9.mp c with z | z
  ·rwa[pF (g.note e z)]
  ·rw[e9.mp z];rwa[pF kn]
def pf{n k:j4}{x y:Int} : ∀{l:List (j4×Int×Int)},((l.map λe=>if e.1=n then(e.1,x,y) else e).find? λe=>decide (e.1=k)).map (·.2)=((l.find? λe=>decide (e.1=k)).map (·.2)).map λp=>if k=n then(x,y) else p
 | []=>rfl
 | (m,p)::l=>by
  rw[i4,AQ,AQ];by_cases d:m=n
  ·rw[y7 d];by_cases c:m=k
   ·subst d c;simp
   ·rw[y9 (show ¬ (m,x,y).1=k from c)];rwa[pf]
  ·rw[y6 d];by_cases c:m=k
   ·subst c;simp[d]
   ·rw[y9 (show ¬ (m,p).1=k from c)];rwa[pf]
def fk{x y:Int} : zN (aft S (.move n x y)) k=(zN S k).map λp=>if k=n then(x,y) else p:=pf
def uM{n k:j4}(h:k≠n):zN (aft S (.unmark n)) k=zN S k:=by
 unfold zN;show(List.find? _ (S.marks.filter _)).map _=_;rw[List.find?_filter]
 congr 2
 funext e
 by_cases z:e.1=k
 ·simp[z,h]
 ·simp[z]
def za{x y:Int}(h:(zN S k).isSome=Kj):(zN (aft S (.move n x y)) k).isSome=true:=by
 rw[fk,Dc];rwa[h]
def Zn{x y:Int}(h:sZ S D)(g:SE (aft S (.move n x y)) D):sZ (aft S (.move n x y)) D:=by
 match D,h,g with
 | .bearing m k a b c d,h,_=>rwa[h.1,h.2.1,za h.2.2.1,h.2.2.2]
 | .range m l r,h,⟨p,u,f,e,ne⟩=>rwa[h.1,h.2.1,za h.2.2.1,za h.2.2.2.1,by rw[f,e]; exact λz=>ne (x6 z)]
def eZ(h:sZ S D)(g:al n D):sZ (aft S (.unmark n)) D:=by
 match D,h,g with
 | .bearing m k a b c d,h,g=>rwa[h.1,h.2.1,by rw[uM g]; exact h.2.2.1,h.2.2.2]
 | .range m l r,h,g=>rwa[h.1,h.2.1,by rw[uM g.1]; exact h.2.2.1,by rw[uM g.2]; exact h.2.2.2.1,by rw[uM g.1,uM g.2]; exact h.2.2.2.2]
def ph{S f:BS}(h:sZ S D)(i:f.marks=S.marks)(g:f.runs.length=S.runs.length):sZ f D:=by
 have e:∀ n,zN f n=zN S n:=λn=>by unfold zN; rw[i]
 match D,h with
 | .bearing m k a b c d,h=>rwa[h.1,by rw[g]; exact h.2.1,by rw[e]; exact h.2.2.1,h.2.2.2]
 | .range m l r,h=>rwa[h.1,by rw[g]; exact h.2.1,by rw[e]; exact h.2.2.1,by rw[e]; exact h.2.2.2.1,by rw[e,e]; exact h.2.2.2.2]
def bi(g:kT S)(ok:okD S D):kT (aft S D):=by
 match D,ok with
 | .mark n x y,ok =>
  refine⟨⟨by show(S.marks++[_]).length<=60; rw[f8]; have:=ok.2.2.2; simp only[f9,Ao]; lia,g.few.ba,g.few.ru,g.few.no⟩,g.fresh,g.rise,λe f=>?_,g.way,λe f=>Zb (g.note e f)⟩;rcases i9.mp f with z | z
  ·rwa[g.mk_ e z]
  ·rw[e9.mp z];rwa[ok.2.2.1]
 | .sail x y,ok =>
  refine⟨⟨g.few.ma,g.few.ba,by show(S.runs++[_]).length<=60; rw[f8]; have:=ok.2; simp only[f9,Ao]; lia,g.few.no⟩,g.fresh,g.rise,g.mk_,λe f=>?_,λe f=>WB (g.note e f)⟩;rcases i9.mp f with z | z
  ·rwa[g.way e z]
  ·rw[e9.mp z];rwa[ok.1]
 | .bearing m n a b c d,ok=>rwa[gK g ⟨ok.1,ok.2.1,ok.2.2.1,ok.2.2.2.1,ok.2.2.2.2.1⟩ ok.2.2.2.2.2.2]
 | .range m l r,ok=>rwa[gK g ⟨ok.1,ok.2.1,ok.2.2.1,ok.2.2.2.1,ok.2.2.2.2.1⟩ ok.2.2.2.2.2]
 | .move n x y,ok =>
  refine⟨⟨by show(S.marks.map _).length<=60; rw[b5]; exact g.few.ma,g.few.ba,g.few.ru,g.few.no⟩,g.fresh,g.rise,λe f=>?_,g.way,λe f=>Zn (g.note e f) (ok.2.2 e f)⟩;obtain⟨h,h1,rfl⟩:=g9.mp f;by_cases z:h.1=n
  ·rw[y7 z];rwa[ok.2.1]
  ·rw[y6 z];rwa[g.mk_ h h1]
 | .unmark n,ok =>
  rwa[⟨g7 (At _ _) g.few.ma,g.few.ba,g.few.ru,g.few.no⟩,g.fresh,g.rise,λe f=>g.mk_ e (Af.mp f).1,g.way,λe f=>eZ (g.note e f) (ok.2 e f)]
 | .bank n i,ok =>
  exact⟨⟨g.few.ma,by show(S.banks++[_]).length<=60; rw[f8]; have:=ok.2.2.2.2; simp only[f9,Ao]; lia,g.few.ru,g.few.no⟩,g.fresh,g.rise,g.mk_,g.way,λe f=>ph (g.note e f) rfl rfl⟩
 | .level n,_ =>
  rwa[⟨g.few.ma,g7 (At _ _) g.few.ba,g.few.ru,g.few.no⟩,g.fresh,g.rise,g.mk_,g.way,λe f=>ph (g.note e f) rfl rfl]
 | .right k x y,ok =>
  refine⟨⟨g.few.ma,g.few.ba,by show(S.runs.set _ _).length<=60; rw[Gj]; exact g.few.ru,g.few.no⟩,g.fresh,g.rise,g.mk_,λe f=>?_,λe f=>ph (g.note e f) rfl (by show(S.runs.set _ _).length=_; rw[Gj])⟩;rcases Fm f with z | z
  ·rwa[g.way e z]
  ·rw[z];rwa[ok.2.2]
 | .strike k,_ =>
  erw[⟨g.few.ma,g.few.ba,g.few.ru,g7 (At _ _) g.few.no⟩,λe f=>g.fresh e (Af.mp f).1,?_,g.mk_,g.way,λe f=>pF (g.note e (Af.mp f).1)];rwa[g.rise.sublist (List.filter_sublist.map _)]
def wD:BS->List Deed->Prop
 | _,[]=>True
 | S,D::r=>okD S D/\wD (aft S D) r
def yM(S:BS)(l:List Deed):BS:=l.foldl aft S
def vO:∀{l:List Deed}{S:BS},kT S->wD S l->kT (yM S l)
 | [],_,g,_=>g
 | D::r,S,g,⟨h1,h2⟩=>show kT (yM (aft S D) r) from vO (bi g h1) h2
def kh:∀{l:List Deed}{S:BS}{D:Deed},wD S l->okD (yM S l) D->wD S (l++[D])
 | [],_,_,_,h=>⟨h,trivial⟩
 | _::_,_,_,⟨h1,h2⟩,h=>⟨h1,kh h2 h⟩
def pW:∀{l:List Deed}{S:BS}{i:Nat}{D:Deed},wD S l->l[i]?=Kh D->okD (yM S (l.take i)) D
 | [],_,_,_,_,e=>by simp at e
 | _::_,_,0,_,⟨h1,_⟩,e=>by
  simp at e;subst e;rwa[h1]
 | D'::l,S,i+1,D,⟨_,h2⟩,e=>pW (l:=l) (S:=aft S D') (i:=i) h2 (by simpa using e)
def ko{l:List Deed}{i:Nat}(e:l[i]?=Kh D):yM S (l.take (i+1))=aft (yM S (l.take i)) D:=by
 unfold yM;rw[o3,e,Fu];rfl
structure vq(no:List (Int×Deed))(k:Int)(i:Nat):Prop where
 mk ::
 len:no.length=i
 num:k=1+(i:Int)
 pos:∀ e∈no,1<=e.1
def vq.nil:vq [] 1 0:=⟨rfl,rfl,λe c=>(nomatch c)⟩
def vq.snoc{k:Int}{i:Nat}{D:Deed}(h:vq no k i):vq (no++[(k,D)]) (k+1) (i+1) :=
 ⟨by rw[f8,h.len]; rfl,by rw[h.num]; lia,λe c=>by
  rcases i9.mp c with z | z
  ·rwa[h.pos e z]
  ·rw[e9.mp z];have:=h.num;show 1<=k;lia⟩
def nj:Deed->Prop
 | .mark _ _ _ | .sail _ _ | .bearing _ _ _ _ _ _ | .range _ _ _=>True
 | _=>False
structure Ps(S:BS):Prop where
 mk ::
 lo:3<=S.marks.length
 hi:S.marks.length<=5
 bd:∀ e∈S.marks,e.2.1.natAbs<=860/\e.2.2.natAbs<=860
 bk:S.banks=[]
def Px:Sp:=λe H Q _=>E4 λ(a r:b9) (rows:List Int) (ns:List j4)=>A9 (e=[.ref a,.ref r]) (H a=Kh (.lst (rows.map V.int))) (90<=rows.length) (∀ x∈rows,0<=x/\x<1000003) (H r=Kh (.lst (ns.map V.str))) (ns.length=5) (∀ n∈ns,rP n) ns.Nodup (∀(l:b9)(xs:List V)(c:List Deed)(d:Hp),Same H d->H l=Ki->d l=Kh (.lst xs)->wB d (c.map Deed.dt) xs->c.length<=14->wD BS.nil c->(yM BS.nil c).runs.length<=3->(∀ D∈c,nj D)->(∃ i,i<=6/\vq (yM BS.nil c).notes (yM BS.nil c).coming i)->Ps (yM BS.nil c)->Q (.ref l) d)
def yn:∀{l:List Deed}{S:BS}{i:Nat},wD S l->wD S (l.take i)
 | [],_,_,_=>by rw[List.take_nil]; rwa[trivial]
 | _::_,_,0,_=>trivial
 | _::_,_,i+1,⟨h1,h2⟩=>⟨h1,yn (i:=i) h2⟩
end Sea

namespace Sea
def stN(l:List (j4×Int×Int))(c:List (Int×Int))(no:List (Int×Deed))(k:Int):BS:=⟨l,[],c,no,k⟩
section
variable{l:List (j4×Int×Int)}{rs:List (Int×Int)}{no:List (Int×Deed)}{k:Int}
def iJ{x y:Int} : aft (stN l rs no k) (.mark n x y)=stN (l++[(n,x,y)]) rs no k:=rfl
def iZ{x y:Int} : aft (stN l rs no k) (.sail x y)=stN l (rs++[(x,y)]) no k:=rfl
def vd{m:Int}{a b c d:Int} : aft (stN l rs no k) (.bearing m n a b c d)=stN l rs (no++[(k,.bearing m n a b c d)]) (k+1):=rfl
def md{m:Int} : aft (stN l rs no k) (.range m a b)=stN l rs (no++[(k,.range m a b)]) (k+1):=rfl
def jl{n:j4}(h:n ∉ l.map (·.1)):zN (stN l rs no k) n=none:=by
 unfold zN;rw[Gd,DN];intro e c z;rwa[h (g9.mpr ⟨e,c,of_decide_eq_true z⟩)]
def Sn{x y:Int}(d:rP n)(h:n ∉ l.map (·.1))(c:qe (x,y))(e:l.length<20):okD (stN l rs no k) (.mark n x y):=⟨d,jl h,c,e⟩
def RO{x y:Int}(c:qe (x,y))(d:rs.length<12):okD (stN l rs no k) (.sail x y):=⟨c,d⟩
def jY{m:Nat}{n:j4}{a b c d:Int}(i:m<=rs.length)(g:n∈l.map (·.1))(w1:qq (a,b))(f:qq (c,d))(t:0<a*d-b*c)(h:no.length<24):okD (stN l rs no k) (.bearing m n a b c d) :=
 ⟨by lia,by show(m:Int)<=(rs.length:Int); lia,by obtain⟨p,e⟩:=qN (S:=stN l rs no k) g; rw[e]; rfl,w1,f,t,h⟩
def VC{m:Nat}{a b:j4}(g:m<=rs.length)(f:a∈l.map (·.1))(d:b∈l.map (·.1))(ne:zN (stN l rs no k) a≠zN (stN l rs no k) b)(c:no.length<24):okD (stN l rs no k) (.range m a b) :=
 ⟨by lia,by show(m:Int)<=(rs.length:Int); lia,by obtain⟨p,e⟩:=qN (S:=stN l rs no k) f; rw[e]; rfl,by obtain⟨p,e⟩:=qN (S:=stN l rs no k) d; rw[e]; rfl,ne,c⟩
structure jd(Ds:List Deed)(l:List (j4×Int×Int))(rs:List (Int×Int))(no:List (Int×Deed))(k:Int):Prop where
 mk ::
 ok:wD BS.nil Ds
 at_:yM BS.nil Ds=stN l rs no k
 four:∀ D∈Ds,nj D
def Ur:jd [] [] [] [] 1:=⟨trivial,rfl,λD c=>(nomatch c)⟩
def se{c:List Deed}{D:Deed}(h:∀ D∈c,nj D)(k:nj D):∀ E∈c++[D],nj E:=λE d=>by
 rcases i9.mp d with z | z
 ·rwa[h E z]
 ·rw[e9.mp z]; rwa[k]
def jd.snoc(h:jd c l rs no k)(ok:okD (stN l rs no k) D):wD BS.nil (c++[D])/\yM BS.nil (c++[D])=aft (stN l rs no k) D:=by
 exists kh h.ok (by rw[h.at_]; rwa[ok]);have e:=h.at_;unfold yM at e ⊢;rw[Fu,e];rfl
def jd.mark{x y:Int}(h:jd c l rs no k)(ok:okD (stN l rs no k) (.mark n x y)):jd (c++[.mark n x y]) (l++[(n,x,y)]) rs no k:=let ⟨a,b⟩:=h.snoc ok;⟨a,b,se h.four trivial⟩
def jd.sail{x y:Int}(h:jd c l rs no k)(ok:okD (stN l rs no k) (.sail x y)):jd (c++[.sail x y]) l (rs++[(x,y)]) no k:=let ⟨a,b⟩:=h.snoc ok;⟨a,b,se h.four trivial⟩
def jd.bearing{m:Int}{a b c d:Int}(h:jd e l rs no k)(ok:okD (stN l rs no k) (.bearing m n a b c d)):jd (e++[.bearing m n a b c d]) l rs (no++[(k,.bearing m n a b c d)]) (k+1):=let ⟨x,y⟩:=h.snoc ok;⟨x,y,se h.four trivial⟩
def jd.range{m:Int}(h:jd c l rs no k)(ok:okD (stN l rs no k) (.range m a b)):jd (c++[.range m a b]) l rs (no++[(k,.range m a b)]) (k+1):=let ⟨x,y⟩:=h.snoc ok;⟨x,y,se h.four trivial⟩
end
def Zk{d:Type}{l:List d}{i:Nat}{x:d}(h:l.Nodup)(e:l[i]?=Kh x):x ∉ l.take i:=λm=>by
 obtain⟨j,c⟩:=List.mem_iff_getElem?.mp m;have lt:j<i:=by have:=(c6.mp c).1; rw[g8] at this; lia
 rw[Bu,y7 lt] at c;obtain⟨h1,g⟩:=c6.mp c;obtain⟨h2,f⟩:=c6.mp e;have:=(HM h).mp (g.trans f.symm);lia
def UY{c:List j4}{x:Int}(h:0<((c.map V.str).length:Int)):∃ n,n∈c/\atI (c.map V.str) (x%((c.map V.str).length:Int))=Kh (.str n):=by
 have h0:=AB x (show((c.map V.str).length:Int)≠0 by lia);have h1:=Ah x h;generalize x%((c.map V.str).length:Int)=y at h0 h1;obtain⟨k,rfl⟩:=CO h0;have d:k<c.length:=by rw[b5] at h1; lia
 rwa[c[k],r9 d,vF (by rw[c7,b8 d]; rfl)]
end Sea

namespace L2
def jw(o:BP)(f:Array c5->Array c5):(Ch f o).dict=o.dict:=by unfold Ch; split <;> rfl
def cb(h base:Ae)(e:b9)(cls i:c5):Prop :=
 ∃ c d T g f,h.get? e=Kh c/\(c.cls=cls/\c.dict=Ki/\d[2]?=Kh .none)/\c.data=.fields d/\d[1]?=Kh (.ref T)/\base.get? T=Ki/\T≠e/\h.get? T=Kh g/\g.data=.fields f/\f[3]?=Kh i
def xz(base:Ae)(l:List EM)(e:b9)(cls:c5)(h:Ae):Prop:=base.StaysIn h/\base.get? e=Ki/\h.FunFrames base l/\cb h base e cls .none
def UG(base:Ae)(l:List EM)(e:b9)(cls:c5)(L:b9)(h:Ae):Prop:=base.StaysIn h/\base.get? e=Ki/\h.FunFrames base l/\cb h base e cls (rawInt L)
section
variable{M:Hi}{A:Ad}{E:c5->c8->Prop}{s:c8}
def Te{env:EM}{outer:List EM}{head:c5}{Q:Unit->c8->Prop}
  (Y:A.frames=Kh (env::outer)) (P:s.heap.FunFrames base (env::outer)) (hf:env.frame=Kh L)
  (R:s.heap.get? e=Kh z) (X:base.StaysIn s.heap) (J:base.get? e=Ki) (hd:z.data=.fields u) (B:1<u.size) (Z:z.dict=Ki) (h0:u[2]?=Kh .none)
  (h:∀ h',UG base (env::outer) e z.cls L h'->s.heap.UpToSlots h'->Q () { s with heap:=h' }) :
  wpAny M A (do let a <- frameOf env; let y <- entryPlaceOf L r; let b <- GV head a .none (rawInt L) .none y; setField (.ref e) 1 b) Q E s:=by
 have I:e ∉ (env::outer).filterMap (·.frame):=λT=>by
  obtain⟨_,o,O,f⟩:=P.mem T;rw[R] at O; injection O with O; subst O; rwa[f u hd]
 erw[b7 (wpAny_frameOf_fun Y P hf λc d=>?_)];erw[b7 (wpAny_entryPlaceOf λy C=>?_)];unfold GV newFields;erw[b7 (AA ?_ (C.sizeOk5 _ _ _ _ _))];have n:c.get? e=Kh z:=(d.2.1 e I).trans R;have l:base.StaysIn c:=λb o g=>(d.2.1 b λT=>by rw[(P.mem T).1] at g; cases g).trans (X b o g);generalize H:({ cls:=.type "traceback",dict:=Ki,data:=.fields ([head,.ref L,.none,rawInt L,.none]++(if y.isEmpty then CN 6 AW else y)).toArray } : BP)=ob;have D:ob.isFreed=false:=by rw[<- H]; rfl
 have G:ob.data=.fields ([head,.ref L,.none,rawInt L,.none]++(if y.isEmpty then CN 6 AW else y)).toArray:=by rw[<- H]
 have m:=c9 (h:=c) ob n;erw[Dj m hd B (h _ ?_ ?_)]
 ·have N:c.objs.size≠e:=DT (i5 n);have p:=CV hd (·.setIfInBounds 1 (r6 c.objs.size));have v:=C8 (Ch (·.setIfInBounds 1 (r6 c.objs.size))) m (D8 p);have x:=(AY (c.push ob) (Ch (·.setIfInBounds 1 (r6 c.objs.size))) (BA N)).trans (i7 c D);have keep:∀ b o,b≠e->c.get? b=Kh o->((c.push ob).update e (Ch (·.setIfInBounds 1 (r6 c.objs.size)))).get? b=Kh o:=λb o w i=>by
   rw[AY _ _ (BA w)];rwa[c9 _ i]
  have j:∀ b o,s.heap.get? b=Kh o->(∀ u,o.data≠.fields u)->b≠e:=λb o i f q=>by
   rw[q,R] at i; injection i with i; subst i; rwa[f u hd]
  refine⟨λb o g=>keep b o (λq=>by rw[q,J] at g; cases g) (l b o g),J,P.of_keeps λb o i f=>?_,?_⟩
  ·obtain⟨sl,S⟩:=d.2.2 b o i;rwa[_,keep b _ (j b o i f) S,rfl]
  ·exact⟨_,_,c.objs.size,_,_,v,⟨Hr _ _,by rw[jw]; exact Z,by rw[Array.getElem?_setIfInBounds_ne (by decide)]; rwa[h0]⟩,p,by simp[B],l.fresh,N,x,G,by first | (simp; done) | (rcases C with rfl | ⟨_,_,_,_,_,_,_,rfl⟩ <;> simp)⟩
 ·intro b o i f;have w:b≠e:=λq=>by rw[q,R] at i; injection i with i; subst i; rwa[f u hd]
  obtain⟨sl,S⟩:=d.2.2 b o i;exists sl;rw[AY _ _ (BA w)];rwa[c9 _ S]
def dO{env:EM}{outer:List EM}{Q:Unit->c8->Prop}
  (g:A.frames=Kh (env::outer)) (o:s.heap.FunFrames base (env::outer)) (m:env.frame=Kh L)
  (n:s.heap.get? e=Kh c) (f:base.StaysIn s.heap) (i:base.get? e=Ki) (hd:c.data=.fields d) (h1:d[1]?=Kh .none) (j:c.dict=Ki) (h0:d[2]?=Kh .none)
  (h:∀ l,UG base (env::outer) e c.cls L l->s.heap.UpToSlots l->Q () { s with heap:=l }):wpAny M A (noteFrame (.ref e) env) Q E s:=by
 unfold noteFrame;simp only[m];erw[b7 (DQ n hd h1 ?_)];rw[y6 (by decide)];rwa[Te g o m n f i hd (Cq.mp h1).1 j h0 h]
def YZ{env:EM}{outer:List EM}{Q:Unit->c8->Prop}
  (p:A.frames=Kh (env::outer)) (z:env.frame=Kh L) (r:xz base (env::outer) e cls s.heap)
  (h:∀ l,UG base (env::outer) e cls L l->s.heap.UpToSlots l->Q () { s with heap:=l }):wpAny M A (noteFrame (.ref e) env) Q E s:=by
 obtain⟨n,u,H,I,y,T,J,G,B,⟨j,v,h0⟩,hd,h1,m,w,x,g,h3⟩:=r;subst j;unfold noteFrame;simp only[z];refine b7 (DQ B hd h1 ?_);rw[y7 (show(r6 T != AW)=Kj from by simp)];refine b7 (DQ x g h3 ?_);rw[y6 (show ¬ ((AW == rawInt L)=Kj) from by simp[rawInt])];refine b7 (Dj x g (Cq.mp h3).1 ?_);have other:∀ b,b≠T->(s.heap.update T (Ch (·.setIfInBounds 3 AW))).get? b=s.heap.get? b:=λb f=>AY _ _ (BA f);have c:∀ b o,s.heap.get? b=Kh o->(∀ y,o.data≠.fields y)->b≠T:=λb o f d q=>by
  rw[q,x] at f; injection f with f; subst f; rwa[d G g]
 refine Te p (H.of_keeps λb o f d=>⟨o,(other b (c b o f d)).trans f,rfl⟩) z ((other e (BA w)).trans B)
  (λb o i=>(other b λq=>by rw[q,m] at i; cases i).trans (n b o i)) u hd (Cq.mp h1).1 v h0
  λl D C=>h l D λb o f d=>C b o ((other b (c b o f d)).trans f) d
def Rj{base:Ae}{Q:Unit->c8->Prop}(G:base.StaysIn s.heap/\base.get? e=Ki/\s.heap.FunFrames base l/\cb s.heap base e cls H)
  (h:∀ y,xz base l e cls y->s.heap.UpToSlots y->Q () { s with heap:=y }):wpAny M A (setFlight (.ref e) Ki) Q E s:=by
 obtain⟨v,w,D,C,u,T,I,z,B,p,hd,h1,n,r,x,i,h3⟩:=G;have j:3<z.size:=(Cq.mp h3).1;have other:∀ b,b≠T->(s.heap.update T (Ch (·.setIfInBounds 3 ((Ki:Option b9).elim AW λf=>rawInt f)))).get? b=s.heap.get? b :=
  λb d=>AY _ _ (BA d)
 have c:∀ b o,s.heap.get? b=Kh o->(∀ u,o.data≠.fields u)->b≠T:=λb o d g q=>by
  rw[q,x] at d; injection d with d; subst d; rwa[g z i]
 unfold setFlight;refine b7 (DQ B hd h1 ?_);rw[y7 (show(r6 T != AW)=Kj from by simp)];refine Dj x i j (h _ ⟨λb o m=>(other b λq=>by rw[q,n] at m; cases m).trans (v b o m),w,
  D.of_keeps λb o d g=>⟨o,(other b (c b o d g)).trans d,rfl⟩,?_⟩ λb o d g=>⟨o.slots,(other b (c b o d g)).trans d⟩)
 rwa[C,u,T,_,_,(other e (BA r)).trans B,p,hd,h1,n,r,C8 _ x (D8 (CV i _)),CV i _,by simp[j]]
def UQ{Q:Unit->c8->Prop}(d:UG base l e cls L s.heap)
  (h:∀ c,xz base l e cls c->s.heap.UpToSlots c->Q () { s with heap:=c }):wpAny M A (setFlight (.ref e) Ki) Q E s:=Rj d h
def ZE{env:EM}{outer:List EM}{Q:Unit->c8->Prop}
  (c:A.frames=Kh (env::outer)) (j:env.frame=Kh L) (d:xz base (env::outer) e cls s.heap)
  (l:∀ f,xz base outer e cls f->s.heap.UpToSlots f->Q () { s with heap:=f }):wpAny M A (leaving env (.ref e)) Q E s:=by
 unfold leaving;erw[b7 (YZ c j d λh1 g i=>?_)];erw[UQ g λh2 ⟨k1,k2,⟨_,_,k3⟩,k4⟩ h=>l h2 ⟨k1,k2,k3,k4⟩ (i.trans h)]
def fj{base h:Ae}{env:EM}{outer:List EM}{Q:Unit->c8->Prop}
  (g:A.frames=Kh (env::outer)) (u:env.frame=Kh L) (c:base.StaysIn h) (r:h.FunFrames base (env::outer)) (f:IN h s.heap e cls args)
  (w:∀ i,xz base outer e cls i->s.heap.UpToSlots i->Q () { s with heap:=i }):wpAny M A (leaving env (.ref e)) Q E s:=by
 obtain⟨t,v,p,x⟩:=f.there;have fresh:∀ b,h.get? b=Ki->base.get? b=none:=λb d=>by
  cases q:base.get? b with
  | none=>rfl
  | some n=>have:=c b n q; rw[d] at this; cases this
 unfold leaving;erw[b7 (dO g (r.of_keeps λb o d _=>⟨o,f.keeps b o d,rfl⟩) u v (λb o d=>f.keeps b o (c b o d)) (fresh e f.new) rfl rfl rfl rfl λh1 j m=>?_)];erw[UQ j λh2 ⟨k1,k2,⟨_,_,k3⟩,k4⟩ l=>w h2 ⟨k1,k2,k3,k4⟩ (m.trans l)]
end
end L2

namespace L2
def uL.some{H:Hp}(x:uL P w H h a o):∃ ob,h.get? a=Kh ob:=by
 cases o with
 | lst xs=>obtain⟨_,_,_,_,e⟩:=x; rwa[_,e]
 | tup xs=>obtain⟨_,_,_,o,e,_⟩:=x; rwa[_,e]
 | dK c=>obtain⟨_,_,_,_,o,_,_,e,_⟩:=x; rwa[_,e]
 | dT c=>obtain⟨_,_,_,_,o,_,_,e,_⟩:=x; rwa[_,e]
 | set S n=>obtain⟨o,_,_,_,e,_⟩:=x; rwa[_,e]
 | ins C i fs=>obtain⟨_,_,_,e,_⟩:=x; rwa[_,e]
 | own y=>obtain⟨_,e⟩:=x; rwa[_,e]
 | xd fs=>obtain⟨_,⟨_,_,_,e,_⟩,_⟩:=x; rwa[_,e]
 | rng lo hi=>obtain⟨_,_,_,e⟩:=x; rwa[_,e]
 | frz ob u=>obtain⟨e,_⟩:=x; rwa[_,e]
 | tbl g=>rwa[_,x]
 | met f y=>rwa[_,x]
 | ext d=>obtain⟨_,⟨_,e⟩,_⟩:=x; rwa[_,e]
section
variable{fs:List b9}{H H':Hp}{h h2 h3 B:Ae}{P:j9}{w:o9}
def un_on(u:Un fs [] H H' h h2)(st:B.StaysIn h3)(m:∀ b o f,h.get? b=Kh f->h2.get? b=Kh o->b ∉ fs->B.get? b=Kh o)
  (l:∀ b∈fs,∀ o,h2.get? b=Kh o->∃ i,h3.get? b=Kh { o with slots:=i }):Un fs [] H H' h h3 where
 keep:=λb o q n c d=>st _ _ (m b o o q (u.keep b o q n c d) c)
 slot:=λb o q n c d=>by
  obtain⟨i,e⟩:=u.slot b o q n c d;obtain⟨g,j⟩:=l b c _ e;rwa[g,j]
 free:=u.free
 there:=λb o q d=>by
  obtain⟨f,e⟩:=u.there b o q d;by_cases c:b∈fs
  ·obtain⟨i,j⟩:=l b c _ e;rwa[_,j]
  ·rwa[f,st _ _ (m b f o q e c)]
 tups:=u.tups
 frzs:=u.frzs
 tbls:=u.tbls
def PM(ok:HOk P w H' h2)(st:B.StaysIn h3)(d:∀ b o u,H' b=Kh u->h2.get? b=Kh o->B.get? b=Kh o):HOk P w H' h3:=λa o e =>
 (ok a o e).stay (λb u c q=>st _ _ (by
  rcases c with rfl | c
  ·rwa[d _ u o e q]
  ·rwa[d b u _ c q])) (λ_ q=>q) λ_ _ q=>q
end
structure Us(P:j9)(w:o9)(outer:List EM)(H:Hp)(s:c8)(ea:b9)(cls:c5)(H':Hp)(B:Ae)(s':c8):Prop where
 mk ::
 os:s'.os=s.os
 bare:EA s'.gens
 un:Un (frs outer) [] H H' s.heap s'.heap
 hok:HOk P w H' s'.heap
 new:H' ea=Ki
 fresh:s.heap.get? ea=Ki
 fly:xz B outer ea cls s'.heap
 has:∀ b o,s'.heap.get? b=Kh o->((s.heap.get? b).isSome=Kj\/(H' b).isSome=Kj)->b ∉ frs outer->B.get? b=Kh o
def CX1(P:j9)(w:o9):CXT:=λouter H s E e f=>∃(c:b9)(cls:c5)(d:Hp)(B:Ae),e=.ref c/\Us P w outer H s c cls d B f/\E cls Ki d
def CX1.none{H:Hp}(h:CX1 P w outer H s E0 e c):False:=let ⟨_,_,_,_,_,_,z⟩:=h; z
def gZ{X:Cx}{v:St}{g:Hp}{B h3:Ae}{env:EM}{outer:List EM}(r:X.stack=env::outer)(E:X.outer=outer)(D:X.ex=[])(s:env.frame=Kh X.env.locals)(J:Inv X I v g s2)
  (p:∀ b o,s2.heap.get? b=Kh o->((X.s₀.heap.get? b).isSome=Kj\/(g b).isSome=Kj)->b ∉ frs (env::outer)->B.get? b=Kh o) (A:g i=Ki) (H:X.s₀.heap.get? i=Ki)
  (fly:xz B outer i cls h3) (x:s2.heap.UpToSlots h3):Us X.prog X.w outer X.H₀ X.s₀ i cls g B { s2 with heap:=h3 }:=by
 have st:=fly.1;have c:∀ b o,X.s₀.heap.get? b=Kh o->b ∉ frs outer->b ∉ frs (env::outer):=λb o q f z=>by
  rcases j5.mp (show b∈X.env.locals::frs outer by
   have:frs (env::outer)=X.env.locals::frs outer:=by unfold frs; rw[BG,s]
   rw[<- this]; rwa[z]) with e | e
  ·have l:=n9 (i5 q) J.ok.above;rw[e] at l;rwa[BB _ l]
  ·rwa[f e]
 have trk:∀ b u,g b=Kh u->b ∉ frs (env::outer):=λb u e z=>by
  have:=J.stkFree b (by rw[r]; rwa[z]);rw[e] at this;cases this
 have fs:X.fs=frs outer:=by show frs X.outer=_; rw[E]
 have G:∀ b∈frs outer,∀ o,s2.heap.get? b=Kh o->∃ y,h3.get? b=Kh { o with slots:=y }:=λb f o e=>by
  obtain⟨_,d,j,C⟩:=J.stack.mem (show b∈X.stack.filterMap (·.frame) by
   rw[r];show b∈frs (env::outer);have:frs (env::outer)=X.env.locals::frs outer:=by unfold frs; rw[BG,s]
   rw[this];rwa[.tail _ f])
  rw[e] at j;cases j;rwa[x b o e C]
 have un:Un (frs outer) [] X.H₀ g X.s₀.heap s2.heap:=by
  have:=J.base;rw[fs,D] at this;rwa[this]
 refine⟨J.os,J.bare,un_on un st (λb o d q e f=>p b o e (.inl (by rw[q]; rfl)) (c b d q f)) G,PM J.hok st λb o u e q=>p b o q (.inr (by rw[e]; rfl)) (trk b u e),A,H,fly,λb o e z f=>?_⟩;have m:∃ d,s2.heap.get? b=Kh d:=by
  rcases z with z | z
  ·obtain⟨d,q⟩:=m9.mp z;exact un.there b d q (λz=>nomatch z)
  ·obtain⟨u,q⟩:=m9.mp z;exact(J.hok b u q).some
 obtain⟨d,j⟩:=m;have n:b ∉ frs (env::outer):=by
  rcases z with z | z
  ·obtain⟨d,q⟩:=m9.mp z;rwa[c b d q f]
  ·obtain⟨u,q⟩:=m9.mp z;rwa[trk b u q]
 have h:=p b d j z n;have:=st _ _ h;rw[show({ s2 with heap:=h3 } : c8).heap=h3 from rfl] at e;rw[this] at e;cases e;rwa[h]
def Us.inv{c:St}{H g:Hp}(I:Inv X e c H s)(f:Us X.prog X.w X.stack H s h cls g B d):Inv X e c g d :=
 I.call' (ch:=[]) f.os f.un f.hok f.bare λb z=>x4 z (by simp)
def VH(X:Cx)(g:St->XK):Prop:=∀(f:List (b9×BP))(c:St)(H:Hp)(s:c8)(e:c5)(d:c8),Inv X f c H s->CX1 X.prog X.w X.stack H s (g c) e d->X.xe e d
def Qo(X:Cx)(h:St->XK):Prop:=∀(g:List (b9×BP))(c:St)(H:Hp)(s:c8)(d:Ae)(e:b9)(cls:c5)(f:List c5),Inv X g c H s->IN s.heap d e cls f->h c cls Ki H->X.xe (.ref e) { s with heap:=d }
def yr : VH X (λ_=>E0):=λ_ _ _ _ _ _ _ h=>h.none.elim
section
variable{P:j9}{w:o9}{K:b6}{mg:j4->Option c5}{base:Ae}{N:List j4}{qual:j4}{scope:DR}{f:b9}{cd:c5}{A:Ad}{outer:List EM}{s:c8}{H:Hp}{E:XK}
def sx:VH (cxOf (CX1 P w) P w K mg base N qual scope f cd A outer s H E) (λ_=>E):=by
 intro x r y v e u I h;obtain⟨g,cls,p,B,rfl,d,q⟩:=h;have J:=d.inv I;erw[ZE (base:=B) (cls:=cls) (L:=s.heap.objs.size) I.ok.frames rfl d.fly λh3 fly m=>?_];erw[g,cls,p,B,rfl,gZ (X:=cxOf (CX1 P w) P w K mg base N qual scope f cd A outer s H E) rfl rfl rfl rfl J (λb o e z n=>d.has b o e (z.imp (λz=>?_) id) n) d.new ?_ fly m,q]
 ·obtain⟨l,i⟩:=m9.mp z;obtain⟨j,c⟩:=I.base.there b l i (λz=>nomatch z);rw[c];rfl
 ·show s.heap.get? g=Ki;cases i:s.heap.get? g with
  | none=>rfl
  | some l =>
   obtain⟨j,c⟩:=I.base.there g l i (λz=>nomatch z);rw[d.fresh] at c;cases c
def UP:Qo (cxOf (CX1 P w) P w K mg base N qual scope f cd A outer s H E) (λ_=>E):=by
 intro J D m d G e cls p I j q;have l:∀ env∈(cxOf (CX1 P w) P w K mg base N qual scope f cd A outer s H E).stack,∀ b,env.frame=Kh b->b∈frs (cxOf (CX1 P w) P w K mg base N qual scope f cd A outer s H E).stack:=λenv C b i=>DI.mpr ⟨env,C,i⟩;have c:∀ b o,d.heap.get? b=Kh o->b ∉ frs (cxOf (CX1 P w) P w K mg base N qual scope f cd A outer s H E).stack->(Gf d.heap (frs (cxOf (CX1 P w) P w K mg base N qual scope f cd A outer s H E).stack)).get? b=Kh o:=λb o e i=>GQ _ e i;refine fj (h:=d.heap) (base:=Gf d.heap (frs (cxOf (CX1 P w) P w K mg base N qual scope f cd A outer s H E).stack)) (cls:=cls) (args:=p) (L:=s.heap.objs.size) I.ok.frames rfl (λb o q=>G4 _ q) (PySem.W.funFrames_hide I.stack l) j λh3 fly r=>?_;have B:m e=none:=by
  cases z:m e with
  | none=>rfl
  | some u =>
   obtain⟨ob,n⟩:=(I.hok e u z).some;rw[j.new] at n;cases n
 erw[e,cls,m,_,rfl,gZ (X:=cxOf (CX1 P w) P w K mg base N qual scope f cd A outer s H E) (s2:=d) rfl rfl rfl rfl I (λb o e _ i=>c b o e i) B ?_ fly ((JD j.keeps).trans r),q];show s.heap.get? e=Ki;cases v:s.heap.get? e with
 | none=>rfl
 | some y =>
  obtain⟨x,g⟩:=I.base.there e y v (λz=>nomatch z);rw[j.new] at g;cases g
def Fun.okX{x qual:j4}{st:Ar}{f:b9}{fd:AZ}{N g:List j4}{k:Nat}{sp:Sp}(F:Fun K x qual st f fd)(S:zI N g (zF st))(len:∀ d H Q E,sp d H Q E->d.length=g.length)
  (e:∀(c:c5)(A:Ad)(outer:List EM)(s:c8)(H:Hp)(d:List V)(Q:VK)(E:XK),zd k (A.deeper (envOfC qual (zF st) s.heap.objs.size f c))->sp d H Q E ->
   ∃ t,PSs (cxOf (CX1 P w) P w K mg base N qual (zF st) f c A outer s H E) (wE st) t/\t { nx:=λ_ n=>Q .non n,rt:=Q } (iG N d) H):yS P w K mg base (CX1 P w) (k+1) f fd g sp:=by
 obtain⟨p,o,kV,m,pm,q,c,ct,j,rfl,lk,i⟩:=F.ex;rwa[Pf lk i S len λA outer s H d Q E l h=>e c A outer s H d Q E l h]
end
def aD(P:j9)(w:o9)(K:b6)(mg:j4->Option c5)(base:Ae)(x:j4)(n:Nat)(c:List j4)(sp:Sp):Prop :=
 ∃(f:b9)(fd:AZ),yS P w K mg base (CX1 P w) n f fd c sp/\pL K fd c []/\AT K (.ref f)=Kj/\mg x=Kh (.ref f)
section
variable{X:Cx}{n:Nat}{f:b9}{fd:AZ}{ps:List j4}{sp:Sp}{x m:j4}{p pos apos:Ea}{e o:AD}{es:List AD}{ta:TE}{t:TA}{EE:St->XK}{C g:b9}
def RA{d:St}{H:Hp}{Q:VK}(F:yS X.prog X.w X.K X.mg X.base (CX1 X.prog X.w) n f fd ps sp)(z:zd n X.A)(D:pL X.K fd ps [])(y:VH X EE)
  (I:Inv X q d H s) (r:yW l c) (h:sp l H Q (EE d)):wpAny (model X.prog X.w) X.A (call (.ref f) c) (EP X q d Q) X.xe s:=by
 have B:c.length=ps.length:=by rw[<- r.length]; rwa[F.len _ _ _ _ h]
 have j:=D s c I.kIn (by rw[AJ]; rwa[B]);rw[AJ] at j;erw[G7 (codeAny_mono (F.run X.A X.stack s H ⟨c,[]⟩ c l Q (EE d) z I.env0 j r h) λr v i=>?_)];cases r with
 | error e=>rwa[y q d H s e v I i]
 | ok E =>
  cases E with
  | ret u=>rwa[I.after i]
  | next=>rwa[Bm i]
  | brk=>rwa[Bm i]
  | cont=>rwa[Bm i]
def QJ(sp:Sp)(EE:St->XK)(t:TA):TE:=λc H Q=>t c H λd h=>sp d h Q (EE c)
def wH(EE:St->XK)(h:aD X.prog X.w X.K X.mg X.base x n ps sp)(l:VH X EE)(u:zd n X.A)(z:Gl X x)
  (E:PA X (e::es) t) (d:(x ==("__debug__" : j4))=false:=by decide) (B:starEach (e::es) X.env=(Kk,eval e X.env)::starEach es X.env:=by rfl) (c:(backTo pos (starEach es X.env)).any (·.1)=false:=by rfl) :
  PE X (.Call (.Name x p) (e::es) [] pos) (QJ sp EE t):=by
 obtain⟨f,fd,F,D,y,v⟩:=h;intro G s j H Q I h;erw[Cm (yc I z v ?_ d)];erw[DJ (h₀:=X.base) I.ok.mod.kin y (thn (E pos G s j H _ I h) λL M ⟨J,N,i,r,q⟩=>⟨i.kIn,?_⟩) B c];rwa[RA F u D l i r q]
def PS.nox{st:Ar}{t:TS}(h:PS X.nox st t):PS X st t:=λi s c H D I d =>
 BC (h i s c H D (I.wish _) d) (λ_ _ q=>q.unwish) λ_ _ z=>Bm z
def Qh(cls:c5)(EE:St->XK)(t:TA):TS:=λ_ c H=>t c H λd h=>d.length<=sizeLine/\EE c cls Ki h
def Vq(EE:St->XK)(O:J7 x C u d X.mg X.base)(Fn:ExcBaseFacts Bn d z J)(G:u.contains (.type Bn)=Kj)(FB:ExcBaseFacts B w i u)(hx:Qo X EE)
   (ha:PA X (e::es) t) (hc:X.calm=true:=by rfl) (hg:Gl X x:=by rfl) (hd:(x ==("__debug__" : j4))=false:=by decide) (S:starEach (e::es) X.env=(Kk,eval e X.env)::starEach es X.env:=by rfl) (A:(backTo c (starEach es X.env)).any (·.1)=false:=by rfl) :
  PS X (.Raise (Kh (.Call (.Name x np) (e::es) [] c)) Ki pos) (Qh (.ref C) EE t):=by
 obtain⟨tl,N,nm,q,bs,j,M,sub,Z,l,Y,R,k1,k2,k3,Q,P,hC,hN,E,T⟩:=O.obj;intro Kl s L H D I h;refine wpAny_Raise_call_subU (C:=C) (nm:=nm) (q:=q) (N:=N) (bs:=bs) (bm:=tl) (hdct:=j) (sn:=M) (sub:=sub) (ab:=Z) (col:=l) (dd:=Y) (k0:=R) (k1:=k1) (k2:=k2) (k3:=k3) (k5:=Q)
  Fn G FB (mN:=P) (T.hasType FB.hasBase) (I.ok.hd hc) (by rw[S]; show(Kk||(backTo c (starEach es X.env)).any (·.1))=Kk; rw[A]; rfl) E (yc I hg O.bound ⟨rfl,?_⟩ hd)
 have h:=ha c Kl s L H _ I h;rw[S] at h ⊢;erw[Ej (BC h (λus s2 ⟨vs,H1,v,r,len,q⟩=>⟨rfl,?_,v.bk _ _ hC,hN.keeps v.bk,T.keeps v.bk,λh' e hm=>?_⟩) λ_ _ y=>y)]
 ·rw[<- r.length]; rwa[len]
 ·rwa[hx Kl L H1 s2 h' e _ _ v hm q]
end
end L2

namespace L2
abbrev TJ:=St->Hp->(Hp->Prop)->Prop
section
variable{X:Cx}{e:AD}{es:List AD}{t:TJ}{te:TE}{pos p:Ea}{n:Nat}
def PJ(X:Cx)(es:List AD)(n:Nat)(t:TJ):Prop:=∀(g:List (b9×BP))(s:c8)(d:St)(H:Hp)(k:Nat)(c:j4)(Q:j4->c8->Prop)(C:Hp->Prop),Inv X g d H s->c.length<=2000*k->k+n<=100 ->
 t d H C->(∀(h:Hp)(out:j4)(f:c8),C h->out.length<=200000->Inv X g d h f->Q out f)->Joins (model X.prog X.w) X.A X.xe (evalEach es X.env) c Q s
def QL:TJ:=λ_ H K=>K H
def PQ(te:TE)(t:TJ):TJ:=λc H K=>te c H λv d=>((∃ i,v=.int i/\i.natAbs.log2<1920)\/∃ x,v=.str x/\x.length<=1000)/\t c d K
def QI:PJ X [] 0 QL:=λ_ s _ H _ c _ _ I h d q z=>z H c s q (by lia) I
def PF{c:j4}{j:Nat}(g:PJ X es n t)(o:c.length<=1000:=by decide)(i:evalEach (.Constant (.str c) j p::es) X.env=eval (.Constant (.str c) j p) X.env::evalEach es X.env:=by rfl):PJ X (.Constant (.str c) j p::es) (n+1) t:=by
 intro l s f H k d Q C I h m q z;rw[i];erw[G5 ⟨c,_,rfl,?_,?_⟩]
 ·rw[strLen_append];show d.length+c.length<=2^24;lia
 ·rwa[g l _ f H (k+1) _ _ C (I.tok _) (by rw[strLen_append]; lia) (by lia) q z]
def QS(M:PE X e te)(D:PJ X es n t)(N:evalEach (.FormattedValue e (-1) Ki p::es) X.env=eval (.FormattedValue e (-1) Ki p) X.env::evalEach es X.env:=by rfl):PJ X (.FormattedValue e (-1) Ki p::es) (n+1) (PQ te t):=by
 intro o s j H k f Q C I h P q z;rw[N];erw[wpAny_FormattedValue_plain (thn (M o s j H _ I q) λu L ⟨v,G,E,r,c,B⟩=>?_)];rcases c with ⟨i,rfl,hi⟩ | ⟨x,rfl,O⟩
 ·obtain⟨J,rfl⟩:=(show ∃ t,u=Cj i t from r);have l:=int_text_length_le (k:=1920) (by decide) hi;rw[<- D9] at l;erw[wpAny_formatField_int hi ⟨_,_,rfl,?_,?_⟩]
  ·rw[strLen_append];show f.length+_<=2^24;lia
  ·rwa[D o _ j G (k+1) _ _ C (E.tok _) (by rw[strLen_append]; lia) (by lia) B z]
 ·obtain⟨J,rfl⟩:=(show ∃ t,u=DP x t from r);have m:∀(g:Je)(d:Nat),∃ y t,DP x g=.str y t/\(f++y).length<=sizeLine/\Joins (model X.prog X.w) X.A X.xe (evalEach es X.env) (f++y) Q { L with toks:=d }:=λg d =>
   ⟨x,g,rfl,by rw[strLen_append]; show f.length+x.length<=2^24; lia,D o _ j G (k+1) _ _ C (E.tok _) (by rw[strLen_append]; lia) (by lia) B z⟩
  exact formatField_str (λg d=>m g d) (by show x.length<=2^24; lia)
def QU(t:TJ):TE:=λc H Q=>t c H λd=>∀ x:j4,x.length<=200000->Q (.str x) d
def RH{a b:AD}(f:PJ X (a::b::es) n t)(o:n<=100:=by decide):PE X (.JoinedStr (a::b::es) pos) (QU t):=by
 intro g s d H Q I h;exact wpAny_JoinedStr (f g s d H 0 JB _ _ I (by decide) (by lia) h λj out m c l i=>⟨by show out.length<=2^24; lia,.str out,j,i.tok _,⟨_,rfl⟩,c out l⟩)
end
def bmV:List c5:=[.type "ValueError",.type "Exception",.type "BaseException",.type "object"]
end L2

namespace L2
def VA(w:o9)(x:j4):keyH w (.inr x)=EK w.params x:=rfl
def XN{w:o9}{B:Ae}{l:List (j4×Nat×V×c5)}{ep:Nat}(h:B.get? a=Kh ⟨.type "dict",Ki,.dict ((l.map λe=>(⟨EK w.params e.1,.str e.1 e.2.1,e.2.2.2⟩:C4)).toArray) ep,#[]⟩)
  (r:∀ e∈l,xZ e.2.2.1 e.2.2.2) (nd:(l.map (·.1)).Nodup):RV P w B a (l.map λe=>(.inr e.1,e.2.2.1)):=by
 erw[l.map λe=>(.inr e.1,e.2.2.2),?_,_,_,ep,h,⟨rfl,rfl,rfl⟩,rfl,λe c=>?_,?_,?_]
 ·clear h nd
  induction l with
  | nil=>rwa[.nil]
  | cons e l d=>rwa[.cons ⟨rfl,r e (.head _)⟩ (d λe c=>r e (.tail _ c))]
 ·have c:e∈l.map λe=>(⟨EK w.params e.1,.str e.1 e.2.1,e.2.2.2⟩:C4):=by simpa using c
  obtain⟨q,_,rfl⟩:=g9.mp c;rwa[.inr q.1,vi P w q.1 q.2.1,(VA w q.1).symm]
 ·rw[List.toList_toArray];clear h nd r
  induction l with
  | nil=>rwa[.nil]
  | cons e l d=>rwa[.cons (vi P w e.1 e.2.1) rfl d]
 ·rw[Ag];have:((λe:Key×c5=>e.1) ∘ λe:j4×Nat×V×c5=>((.inr e.1:Key),e.2.2.2))=(λx:j4=>(.inr x:Key)) ∘ λe=>e.1:=rfl;rw[this,<- Ag];erw[Cp.mpr (BE.mpr ((Cp.mp nd).imp λn z=>n ?_))];injection z
def TH(c:Array C4):Bool:=c.toList.all λe=>match e.key with | .str _ _=>Kj | _=>Kk
def YC(h:TH c=Kj):StrKeys c:=λe d=>by
 have:=AG.mp h e (by simpa using d);cases q:e.key <;> rw[q] at this <;> first | exact⟨_,_,U⟩ | cases this
def aC(K:b6)(N:b9):Bool:=match K.lookup N with
 | some ⟨_,_,.dict c _,_⟩=>TH c&&(nsFind c "__init__").isNone
 | _=>Kk
def gQ{K:b6}(X:K.In B)(h:aC K N=Kj):∃ m,B.Ns N m/\m "__init__" = none:=by
 unfold aC at h;split at h
 ·rename_i c d e f g q
  rw[Bb] at h;exact⟨nsFind e,⟨_,e,f,X _ _ q,U,YC h.1,λ_=>rfl⟩,by simpa using h.2⟩
 ·cases h
def aH(K:b6):List c5->Bool
 | []=>Kk
 | .ref A::tl=>(match K.lookup A with | some ⟨_,_,.cls c,_⟩=>aC K c.ns&&aH K tl | _=>Kk)
 | v::tl=>(v::tl) == bmV
def fQ{K:b6}(X:K.In B):∀{tl:List c5},aH K tl=Kj->OwnTail B bmV tl
 | [],h=>by cases h
 | .ref A::tl,h=>by
  unfold aH at h;split at h
  ·rename_i c d g f q
   rw[Bb] at h;obtain⟨m,h1,h2⟩:=gQ X h.1;rwa[.own (X _ _ q) h1 h2 (fQ X h.2)]
  ·cases h
 | .type T::tl,h=>by
  have e:(F2 T::tl)=bmV:=beq_iff_eq.mp h;rw[e];rwa[.base]
 | .none::tl,h=>by have e:(AW::tl)=bmV:=beq_iff_eq.mp h; rw[e]; rwa[.base]
 | .bool b::tl,h=>by have e:(F1 b::tl)=bmV:=beq_iff_eq.mp h; rw[e]; rwa[.base]
 | .int i t::tl,h=>by have e:(Cj i t::tl)=bmV:=beq_iff_eq.mp h; rw[e]; rwa[.base]
 | .float i t::tl,h=>by have e:(Ik i t::tl)=bmV:=beq_iff_eq.mp h; rw[e]; rwa[.base]
 | .str i t::tl,h=>by have e:(DP i t::tl)=bmV:=beq_iff_eq.mp h; rw[e]; rwa[.base]
 | .bytes i t::tl,h=>by have e:(Ij i t::tl)=bmV:=beq_iff_eq.mp h; rw[e]; rwa[.base]
 | .builtin i::tl,h=>by have e:(Value.builtin i::tl)=bmV:=beq_iff_eq.mp h; rw[e]; rwa[.base]
def Pb(K:b6)(C:b9):Bool:=match K.lookup C with
 | some ⟨.type "type",_,.cls c,d⟩=>(match c.mro,d.toList with
  | .ref f::e,[_,_,_,_,Kh (.builtin n),_]=>f == C&&(!c.hasDel&&(n == "ValueError.__new__" && (aC K c.ns&&aH K e)))
  | _,_=>Kk)
 | _=>Kk
def VD{K:b6}{mg:j4->Option c5}(X:K.In B)(u:mg x=Kh (.ref C))(q:Pb K C=Kj):J7 x C bmV "ValueError.__new__" mg B:=by
 unfold Pb at q;split at q
 ·rename_i w y g s
  split at q
  ·rename_i D z i k1 k2 k3 n h d j
   simp only[Bb,beq_iff_eq,Bool.not_eq_true'] at q;obtain⟨rfl,c,rfl,hi,r⟩:=q;obtain⟨nm,bs,mro,ns,p,hd,o,sub,A,f,v⟩:=y;dsimp only at d c hi;subst d c;have e:g = #[i,k1,k2,k3,Kh (.builtin "ValueError.__new__"),h]:=by
    obtain⟨l⟩:=g;simp only at j;rw[j]
   subst e;obtain⟨m,h1,h2⟩:=gQ X hi;rwa[u,z,ns,nm,p,bs,hd,o,sub,A,f,w,i,k1,k2,k3,h,m,X _ _ s,h1,h2,fQ X r]
  ·cases q
 ·cases q
def bJ{F K:b6} : Az a (F++K)=match Az a F with | some o=>Kh o | none=>Az a K:=by
 induction F with
 | nil=>rfl
 | cons e F c =>
  rw[FP,Ac,Ac];cases a == e.1 with
  | true=>rfl
  | false=>rwa[c]
def iW:∀{F:b6}{a:b9}{o:BP},Az a F=Kh o->(a,o)∈F
 | [],_,_,h=>by cases h
 | (b,u)::F,a,o,h=>by
  rw[Ac] at h;cases z:a == b with
  | true =>
   rw[z] at h;cases h;rw[beq_iff_eq.mp z];rwa[.head _]
  | false =>
   rw[z] at h;rwa[.tail _ (iW h)]
def Vs{F K:b6}(n:(F.map (·.1)).all (λa=>(Az a K).isNone)=Kj)(X:AS (F++K) h):AS K h:=λa o q=>X a o (by
 rw[bJ];cases z:Az a F with
 | none=>rwa[q]
 | some u =>
  have m:a∈F.map (·.1):=g9.mpr ⟨(a,u),iW z,rfl⟩;have:=AG.mp n a m;rw[q] at this;cases this)
def YT{F K:b6}(n:(F.map (·.2.cls)).all (λc=>!(c == .type "list"))=Kj)(h:Az a (F++K)=Kh o)(c:o.cls=.type "list"):Az a K=Kh o:=by
 rw[bJ] at h;cases z:Az a F with
 | none=>rw[z] at h; rwa[h]
 | some u =>
  rw[z] at h;have h:Kh u=Kh o:=h;injection h with h
  subst h;have:=AG.mp n u.cls (g9.mpr ⟨(a,u),iW z,rfl⟩);rw[c] at this;simp at this
def walk_of3{l:Gk}{n k:Nat}{XP:(j4->Option c5)->Ae->Prop}{L:o9->Ae->Prop}{d:DefRec}{KK:CT->b6}{K:b6}{sp:Sp}{x:j4}
  (O:l.most=Kh n) (B:n<=sizeLine) (D:d.params.defaults=[]) (N:zd k callerA)
  (S:∀(w:o9)(h:Ae),L w h->(KK w.params).In h) (sub:∀(p:CT)(h:Ae),(KK p).In h->K.In h) (past:∀(p:CT)(a:b9)(o:BP),Az a (KK p)=Kh o->o.cls=.type "list" -> Az a K=Kh o)
  (F:∀(w:o9)(mg:j4->Option c5)(r:b9)(h:Ae),(KK w.params).In h->h.Ns mainGlobals mg->mg d.name=Kh (.ref r) ->
   ∃ fd:AZ,(∀(s:c8)(u:c5),F5 s fd ⟨[u],[]⟩ [(x,u)]) /\
    ∀ base:Ae,(KK w.params).In base->base.Ns mainGlobals mg->yS l.prog w K mg base CX0 k r fd [x] sp)
  (A:∀(H:Hp)(a:b9)(ns:List Int),ns.length<=n->SqL K H a (ns.map V.int)->sp [.ref a] H (λv _=>v=.bl Kj) λ_ _ _=>False) :
  Jv q i XP L l.row.toRowW d [] (λf E=>IJ f E):=by
 erw[Att.attach_call O D λw s₀ I mg mb r o pm cd doc a E ns G Y ho hd Q C m j c P=>?_];have M:=S w _ Y;obtain⟨fd,R,hF⟩:=F w mg r _ M G.T.g C;erw[Vg (K:=KK w.params) M G.T.g G.T.b G.T.builtins G.T.nolimit P m j (g7 c B) N (λbase J Z=>(hF base J Z).withK (sub _ _ J)) R (λH hO X=>A H a ns c ?_) λH e s' z=>z];rcases X with h | ⟨o,y,n,h1,h2,h3⟩
 ·rwa[.inl h]
 ·rwa[.inr ⟨o,y,n,past _ _ _ h1 h2,h2,h3⟩]
end L2

namespace Sea
def YB{a b c:Int}{M N:Nat}(h:a≠0\/b≠0)(f:a.natAbs<=M)(e:b.natAbs<=M)(d:c.natAbs<=N):∃ x y z:Int,qH [a,b,c]=[x,y,z]/\(x≠0\/y≠0)/\x.natAbs<=M/\y.natAbs<=M/\z.natAbs<=N:=by
 erw[_,_,_,rfl,h.imp (λn z=>n ?_) (λn z=>n ?_),g7 (BM _ _) f,g7 (BM _ _) e,g7 (BM _ _) d]
 ·have:=xE (ns:=[a,b,c]) (n:=a) (.head _);rw[show _/_=(0:Int) from z,z8] at this;rwa[this.symm]
 ·have:=xE (ns:=[a,b,c]) (n:=b) (.tail _ (.head _));rw[show _/_=(0:Int) from z,z8] at this;rwa[this.symm]
def TQ{a b:Int}{M N:Nat}(d:a.natAbs<=M)(c:b.natAbs<=N):(a*b).natAbs<=M*N:=by
 rw[Cn];rwa[IK d c]
def UJ(M N:Nat)(r:List Int):Prop:=∃ x y z:Int,r=[x,y,z]/\(x≠0\/y≠0)/\x.natAbs<=M/\y.natAbs<=M/\z.natAbs<=N
section
variable{S:BS}{D:Deed}
def ZK(o:∀ e∈S.marks,qe e.2)(kn:sZ S D):∀ r∈zj S D,UJ 2000 (2000000) r:=by
 match D,kn with
 | .bearing m n a b c d,kn =>
  obtain⟨_,_,h1,⟨q,w1,A,y,x⟩,⟨p,w,v,u,s⟩⟩:=kn;dsimp only at w1 A y x w v u s;obtain⟨pt,f⟩:=m9.mp h1;obtain⟨n1,n2,n3,n4⟩:=tJ o f;rw[show zj S (.bearing m n a b c d)=[qH [-b,a,a*(xT S n).2-b*(xT S n).1],qH [d,-c,(xT S n).1*d-(xT S n).2*c]] from rfl,uJ f];have na:a≠0\/b≠0:=by
   by_cases e:a=0
   ·rwa[.inr λj=>q (by rw[e,j])]
   ·rwa[.inl e]
  have C:c≠0\/d≠0:=by
   by_cases e:c=0
   ·rwa[.inr λj=>p (by rw[e,j])]
   ·rwa[.inl e]
  have m1:=TQ (a:=a) (b:=pt.2) (M:=100) (N:=1000) (by lia) (by lia);have m2:=TQ (a:=b) (b:=pt.1) (M:=100) (N:=1000) (by lia) (by lia);have m3:=TQ (a:=pt.1) (b:=d) (M:=1000) (N:=100) (by lia) (by lia);have m4:=TQ (a:=pt.2) (b:=c) (M:=1000) (N:=100) (by lia) (by lia);intro r i;rcases j5.mp i with e | i
  ·rw[e];rwa[YB (by lia) (by lia) (by lia) (by lia)]
  ·rw[e9.mp i];rwa[YB (by lia) (by lia) (by lia) (by lia)]
 | .range m l r,kn =>
  obtain⟨_,_,h1,h2,ne⟩:=kn;obtain⟨pt,f⟩:=m9.mp h1;obtain⟨h,g⟩:=m9.mp h2;obtain⟨n1,n2,n3,n4⟩:=tJ o f;obtain⟨I,H,G,E⟩:=tJ o g;have ne:pt≠h:=λz=>ne (by rw[f,g,z]);have nz:pt.2-h.2≠0\/h.1-pt.1≠0:=by
   by_cases e:pt.2=h.2
   ·rwa[.inr λj=>ne (GC (by lia) e)]
   ·rwa[.inl (by lia)]
  have m1:=TQ (a:=h.1) (b:=pt.2) (M:=1000) (N:=1000) (by lia) (by lia);have m2:=TQ (a:=h.2) (b:=pt.1) (M:=1000) (N:=1000) (by lia) (by lia);intro B i;rw[e9.mp i,uJ f,uJ g];rwa[YB nz (by lia) (by lia) (by lia)]
def Ui{runs:List (Int×Int)}{i j:Nat}(h:runs.length<=60)(g:∀ e∈runs,qe e):(vH runs i j).1.natAbs<=60000/\(vH runs i j).2.natAbs<=60000:=by
 have f:∀ e∈zc runs i j,e∈runs:=λe c=>AF (Aj c);have l:=uf runs i j;have a:=nZ ((zc runs i j).map (·.1)) 1000 λx d=>by
  obtain⟨e,c,rfl⟩:=g9.mp d;obtain⟨n,m,_,_⟩:=g e (f e c);lia
 have b:=nZ ((zc runs i j).map (·.2)) 1000 λx d=>by
  obtain⟨e,c,rfl⟩:=g9.mp d;obtain⟨_,_,n,m⟩:=g e (f e c);lia
 rw[b5] at a b;unfold vH sM;split <;> rwa[by dsimp only; lia,by dsimp only; lia]
def yf{j:Nat}(g:kT S)(kn:sZ S D):∀ r∈yL S j D,UJ 2000 (10^9) r:=by
 intro r f;unfold yL at f;obtain⟨x,m,rfl⟩:=g9.mp f;obtain⟨a,b,c,rfl,nz,l,h,n⟩:=ZK g.mk_ kn x m;obtain⟨e,d⟩:=Ui (i:=(vY D).toNat) (j:=j) g.few.ru g.way;generalize vH S.runs (vY D).toNat j=ld at e d;have m1:=TQ l e;have m2:=TQ h d;exists a,b,c+a*ld.1+b*ld.2,U,nz,l,h;have:=FC (c+a*ld.1) (b*ld.2);have:=FC c (a*ld.1);lia
end
def p3:List Int->P3
 | [a,b,c]=>(a,b,c)
 | _=>(0,0,0)
def bW{H:Hp} : ∀{as:List b9}{rows:List (List Int)},xA H as rows->(∀ r∈rows,UJ 2000 (10^9) r)->∃ c:List Sd,c.map (·.1)=as/\jq H c/\c.map (·.2)=rows.map p3
 | [],[],_,_=>⟨[],rfl,λt d=>(nomatch d),rfl⟩
 | [],_::_,h,_=>by have:=h.len; simp at this
 | _::_,[],h,_=>by have:=h.len; simp at this
 | a::as,r::rows,h,ok=>by
  obtain⟨x,y,z,rfl,nz,m,l,i⟩:=ok r (.head _);have e:=h.at_ 0 a [x,y,z] rfl rfl;obtain⟨c,s,p,o⟩:=bW (as:=as) (rows:=rows) ⟨by have:=h.len; simpa using this,λj b g n f=>h.at_ (j+1) b g (by simpa using n) (by simpa using f)⟩ λr f=>ok r (.tail _ f);erw[(a,x,y,z)::c,by rw[i4,s],λt d=>?_,by rw[i4,i4,o]; rfl];rcases j5.mp d with q | q
  ·rw[q];rwa[e,nz,g7 m (by decide),g7 l (by decide),g7 i (by decide)]
  ·rwa[p t q]
def fK{A H:Hp} : ∀{gs:List b9}{rows:List (List (List Int))},wK A H gs rows->(∀ g∈rows,∀ r∈g,UJ 2000 (10^9) r)->∃ c:List (b9×List Sd),c.map (·.1)=gs/\(∀ g∈c,H g.1=Kh (.lst (zS g.2))/\jq H g.2)/\c.map (λg=>g.2.map (·.2))=rows.map λr=>r.map p3
 | [],[],_,_=>⟨[],rfl,λt f=>(nomatch f),rfl⟩
 | [],_::_,h,_=>by have:=h.len; simp at this
 | _::_,[],h,_=>by have:=h.len; simp at this
 | g::gs,r::rows,h,ok=>by
  obtain⟨as,e,i⟩:=h.at_ 0 g r rfl rfl;obtain⟨d,v,u,s⟩:=bW i (ok r (.head _));obtain⟨c,z,y,w⟩:=fK (gs:=gs) (rows:=rows) ⟨by have:=h.len; simpa using this,λx m=>h.new x (.tail _ m),λj b l p n=>h.at_ (j+1) b l (by simpa using p) (by simpa using n)⟩ λg o=>ok g (.tail _ o);refine⟨(g,d)::c,by rw[i4,z],λt f=>?_,by rw[i4,i4,w]; show d.map (·.2)::_=_; rw[s]⟩;rcases j5.mp f with q | q
  ·rw[q];erw[?_,u];show H g=Kh (.lst ((d.map (·.1)).map V.ref));rw[v];rwa[e]
  ·rwa[y t q]
end Sea

namespace Sea
def BkL(C:b9)(H:Hp)(b p l:b9)(S:BS)(past later:List (Deed×BS)):Prop:=∃ f d c e,BkA C H b p f d l c e S past later
abbrev Bl(b p l:b9):b9->Prop:=λx=>x=b\/x=p\/x=l
section
variable{H H1:Hp}
def BkL.to(k:BkL C H b p l S past later)(s:Sam H H1):BkL C H1 b p l S past later:=let ⟨dx,d,ps,ls,q⟩:=k;⟨dx,d,ps,ls,q.to s⟩
def BkL.at(k:BkL C H b p l S past later):jA C H b p S past later:=let ⟨dx,d,ps,ls,q⟩:=k;⟨dx,d,l,ps,ls,q⟩
def SQ(f:H b=Kh (.ins C j fs))(d:H p=Kh (.lst g))(e:H l=Kh (.lst i)):∀ a c,Rd H a (.dK c)->¬ Bl b p l a:=λa c h z=>by
 rcases z with z | z | z <;> subst z <;> rcases h with h | ⟨o,h⟩
 ·rw[f] at h; cases h
 ·rw[f] at h; cases h
 ·rw[d] at h; cases h
 ·rw[d] at h; cases h
 ·rw[e] at h; cases h
 ·rw[e] at h; cases h
def RN(g:H b=Kh (.ins C i fs))(e:H p=Kh (.lst c))(f:H l=Kh (.lst d)):∀ a xs,H a=Kh (.tup xs)->¬ Bl b p l a:=λa xs h z=>by
 rcases z with z | z | z <;> subst z
 ·rw[g] at h; cases h
 ·rw[e] at h; cases h
 ·rw[f] at h; cases h
def xY.split{D:Deed}{S:BS} : ∀{r:List (Deed×BS)}{xs:List V},xY H (r++[(D,S)]) xs->∃(c:List V)(t d:b9)(v:V),xs=c++[.ref t]/\xY H r c/\H t=Kh (.tup [v,.ref d])/\Rep H D.dt v/\cf H d S
 | [],xs,h=>by
  obtain⟨t,d,v,c,e,h1,h2,h3,h4⟩:=h;have h4:c=[]:=h4;subst h4;rwa[[],t,d,v,e,rfl,h1,h2,h3]
 | (D',p)::r,xs,h=>by
  obtain⟨f,n,g,o,e,m,l,j,i⟩:=h;obtain⟨c,t,d,v,rfl,k1,k2,k3,k4⟩:=xY.split i;rwa[.ref f::c,t,d,v,e,⟨f,n,g,c,rfl,m,l,j,k1⟩,k2,k3,k4]
def xY.refs:∀{r:List (Deed×BS)}{xs:List V},xY H r xs->∃ c:List b9,xs=c.map V.ref
 | [],xs,h=>⟨[],h⟩
 | (D,S)::r,xs,h=>by
  obtain⟨t,d,v,e,rfl,_,_,_,h4⟩:=h;obtain⟨c,rfl⟩:=xY.refs h4;rwa[t::c,rfl]
end
end Sea

namespace Sea
mutual
def qp:Dt->List j4
 | .int i=>[CU (toString i)]
 | .str x=>[x]
 | .tup l=>xu l
def xu:List Dt->List j4
 | []=>[]
 | d::l=>qp d++xu l
end
def Sa:Nat->Dt->Prop
 | _,.int i=>i.natAbs.log2<1920
 | _,.str x=>x.length<=1921
 | 0,.tup _=>False
 | n+1,.tup l=>l.length<=900/\∀ d∈l,Sa n d
mutual
def Wf:∀(n:Nat)(d:Dt),Sa n d->∀ w∈qp d,w.length<=1921
 | n,.int i,h,w,c=>by
  have h:i.natAbs.log2<1920:=by cases n <;> rwa[h]
  rw[qp] at c;rw[e9.mp c,D9];rwa[int_text_length_le (k:=1920) (by decide) h]
 | n,.str x,h,w,c=>by
  have h:x.length<=1921:=by cases n <;> rwa[h]
  rw[qp] at c;rw[e9.mp c];rwa[h]
 | 0,.tup _,h,_,_=>h.elim
 | n+1,.tup l,h,w,c=>by
  rw[qp] at c;rwa[jF n l h.2 w c]
def jF:∀(n:Nat)(l:List Dt),(∀ d∈l,Sa n d)->∀ w∈xu l,w.length<=1921
 | _,[],_,w,c=>by rw[xu] at c; exact nomatch c
 | n,d::l,h,w,c=>by
  rw[xu] at c;rcases i9.mp c with z | z
  ·rwa[Wf n d (h d (.head _)) w z]
  ·rwa[jF n l (λd hd=>h d (.tail _ hd)) w z]
end
mutual
def qP:Dt->List Dt
 | .int i=>[.int i]
 | .str x=>[.str x]
 | .tup l=>rG l
def rG:List Dt->List Dt
 | []=>[]
 | d::l=>qP d++rG l
end
def w1:Dt->j4
 | .int i=>CU (toString i)
 | .str x=>x
 | .tup _=>JB
mutual
def dA:∀ d:Dt,qp d=(qP d).map w1
 | .int i=>by rw[qp,qP]; rfl
 | .str x=>by rw[qp,qP]; rfl
 | .tup l=>by rw[qp,qP]; rwa[ql l]
def ql:∀ l:List Dt,xu l=(rG l).map w1
 | []=>by rw[xu,rG]; rfl
 | d::l=>by rw[xu,rG,d5,dA d,ql l]
end
mutual
def Ys:∀(n:Nat)(d:Dt),Sa n d->∀ e∈qP d,Sa 0 e
 | n,.int i,h,e,c=>by
  rw[qP] at c;rw[e9.mp c];cases n <;> rwa[h]
 | n,.str x,h,e,c=>by
  rw[qP] at c;rw[e9.mp c];cases n <;> rwa[h]
 | 0,.tup _,h,_,_=>h.elim
 | n+1,.tup l,h,e,c=>by
  rw[qP] at c;rwa[jf n l h.2 e c]
def jf:∀(n:Nat)(l:List Dt),(∀ d∈l,Sa n d)->∀ e∈rG l,Sa 0 e
 | _,[],_,e,c=>by rw[rG] at c; exact nomatch c
 | n,d::l,h,e,c=>by
  rw[rG] at c;rcases i9.mp c with z | z
  ·rwa[Ys n d (h d (.head _)) e z]
  ·rwa[jf n l (λd hd=>h d (.tail _ hd)) e z]
end
end Sea

namespace L2
section
variable{X:Cx}
def rNeA(K:b6):R2:=λx y H Q=>E3 λ(a b:b9) (xs:List V)=>A5 (x=.ref a) (y=.ref b) (SqL K H a xs) (SqL K H b []) (Q (.bl (!xs.isEmpty)) H)
def Qm(c:X.A.units<cLine):OpR X (compareOp .NotEq) (rNeA X.K):=by
 intro p s l H x y v u Q I f d h;obtain⟨a,b,xs,rfl,rfl,h1,h2,q⟩:=h;cases f;cases d;obtain⟨n,r1,p1,_⟩:=I.list h1;obtain⟨m,r2,p2,_⟩:=I.list h2;have i:=yW.zero r2;subst i;cases r1 with
 | nil =>
  erw[He (e:=λ_=>Kj) p1.isList p2.isList rfl c (λj g _=>x4 g (by simp)) X.prog X.w _ _ ?_];rwa[.bl Kk,H,I,rfl,q]
 | cons r o =>
  erw[IP p1.isList p2.isList (by simp) c X.prog X.w _ _ ?_];rwa[.bl Kj,H,I,rfl,q]
def aE:∀{xs:List V}{c:List c5},yW xs c->yW xs.reverse c.reverse
 | _,_,.nil=>.nil
 | _,_,.cons r1 r2=>by
  rw[HD,HD];exact(aE r2).append (.cons r1 .nil)
variable{e:AD}{te:TE}{st:AD}{ts:TO}{pos p2:Ea}
def tSlR(K:b6)(te:TE)(ts:TO):TE:=λd H Q=>te d H λx f=>ts d f λk c=>E2 λa xs=>A4 (x=.ref a) (SqL K c a xs) (k=Kh (-1)) (∀ p,c p=Ki->Q (.ref p) (upd c p (.lst xs.reverse)))
def YO(Z:PE X e te)(Y:PO X (Kh st) ts):PE X (.Subscript e (.Slice Ki Ki (Kh st) p2) pos) (tSlR X.K te ts):=by
 intro f s c H Q I h;erw[Ha (thn (Z f s c H _ I h) λv E ⟨x,H1,I1,r1,M⟩=>?_)];erw[wpAny_Slice (thn (vh (X:=X) f E c H1 (λl g=>l=Ki/\ts c g _) I1 ⟨rfl,M⟩) λn D ⟨l,g,I2,O,R,L⟩=>thn (vh (X:=X) f D c g (λl g=>l=Ki/\ts c g _) I2 ⟨rfl,L⟩) λm C ⟨u,H3,I3,N,B,J⟩=>thn (Y f C c H3 _ I3 J) λp d ⟨k,H4,I4,P,G⟩=>?_)];obtain⟨a,xs,rfl,T,h0,q⟩:=G;subst R B h0;cases r1;have j:Inv X f c H4 { d with heap:=d.heap.push { cls:=.type "slice",data:=.fields #[n,m,p] } }:=I4.kept (t':=d.toks) λb ob q=>c9 _ q;obtain⟨i,r,y,S⟩:=j.list T;have z:=r.length;show wpAny (model X.prog X.w) X.A (subscriptTail e (.Slice Ki Ki (Kh st) p2) (.ref a) (.ref d.heap.objs.size)) (EP X f c Q) X.xe { d with heap:=d.heap.push { cls:=.type "slice",data:=.fields #[n,m,p] } };erw[tail_any (ops:=[.ref a,.ref d.heap.objs.size]) y.isList.typeIs slot_list_getitem.lookup ?_ (by with_unfolding_all rfl)];erw[FG y.isList (Hb ..) O N P (by decide) ?_ (by rw[g6] <;> lia)];rw[PySem.W.krv_pick];erw[.ref _,_,j.laid (t':=d.toks) (o:=.lst xs.reverse) (λb ob q=>c9 _ q) (f6 _) ?_,rfl,q _ (j.hok.fresh (f6 _))];rwa[by rw[GW]; exact S,i.reverse,0,aE r,i7 _ rfl]
end
end L2

namespace Sea
structure Tame(S:BS)(k:Nat):Prop where
 mk ::
 ma:∀ e∈S.marks,rP e.1
 ba:∀ e∈S.banks,rP e.1
 ru:S.runs.length<=k
 no:∀ e∈S.notes,0<=e.1/\e.1<=S.coming
 co:0<=S.coming/\S.coming<=1+k
def Bd(S:BS)(B:Nat):Prop:=∀ e∈S.marks,e.2.1.natAbs<=B/\e.2.2.natAbs<=B
structure GrowD(S:BS)(D:Deed)(B:Nat):Prop where
 mk ::
 ok:okD S D
 bd:Bd (aft S D) (B+5)
 lo:S.marks.length<=(aft S D).marks.length
 hi:(aft S D).marks.length<=S.marks.length+1
 bk:(aft S D).banks=S.banks
def ifNB{b:Bool}{A B:Prop}(h1:b=Kk->A)(h2:b=Kj->B):if (!b)=Kj then A else B:=by
 cases b
 ·rwa[h1 rfl]
 ·rwa[h2 rfl]
end Sea

namespace L2
abbrev calmA(A:Ad):Ad:={ A with handled:=Ki }
structure FnOkH(P:j9)(w:o9)(K:b6)(mg:j4->Option c5)(base:Ae)(k:Nat)(f:b9)(fd:AZ)(ps:List j4)(sp:b9->Sp):Prop where
 mk ::
 len:∀ x vs H Q E,sp x vs H Q E->vs.length=ps.length
 run:∀(x:b9)(A:Ad)(outer:List EM)(s:c8)(H:Hp)(args:Args)(us:List c5)(vs:List V)(Q:VK),A.handled=Kh (.ref x)->zd k (calmA A)->Ts P w K mg base A outer s H->F5 s fd args (ps.zip us)->yW vs us->sp x vs H Q E0 ->
  codeAny (model P w) A (.call (.ref f) args) (CR CX0 outer P w H s Q E0) s
open PySem PySem.Spec PyProof.Rows PySem.W
end L2

namespace Sea
open PySem L2 PySem.Spec
open PyProof.Rows hiding St
mutual
def pd:Dt->PyData
 | .int i=>.int i
 | .str x=>.str x
 | .tup l=>.tuple (pds l)
def pds:List Dt->List PyData
 | []=>[]
 | d::l=>pd d::pds l
end
mutual
def shB:Dt->Nat
 | .int i=>i.natAbs.log2+3
 | .str x=>10*x.length+2
 | .tup l=>Qr l+4
def Qr:List Dt->Nat
 | []=>0
 | d::l=>shB d+2+Qr l
end
mutual
def okS:Dt->Prop
 | .int i=>i.natAbs.log2<1920
 | .str x=>∀ c∈x.cps.toList,c<16^8
 | .tup l=>RS l
def RS:List Dt->Prop
 | []=>True
 | d::l=>okS d/\RS l
end
def gO(c:List j4):(tupleText c).length<=piled c+4:=by
 unfold tupleText;rw[strLen_append,strLen_append];have h1:("(" : j4).length=1:=rfl;have h2:(CU (if c.length == 1 then ",)" else ")")).length<=2:=by split <;> decide
 have h3:(FW ", " c).length<=piled c:=by
  by_cases z:c=[]
  ·subst z; decide
  ·have:=join_length_add c z; lia
 lia
mutual
def Vo:∀ d:Dt,okS d->(pd d).shown.length<=shB d
 | .int i,h=>by
  rw[okS] at h;rw[pd,shB,HE];have:=int_text_length_le (k:=i.natAbs.log2+1) (by lia) (Ck i.natAbs.log2);rw[<- D9] at this;lia
 | .str x,h=>by
  rw[okS] at h;rw[pd,shB,HE];rwa[StrLaws.reprText_len x h]
 | .tup l,h=>by
  rw[okS] at h;rw[pd,shB,HE];have:=gO (Ev (pds l));have:=fZ l h;lia
def fZ:∀ l:List Dt,RS l->piled (Ev (pds l))<=Qr l
 | [],_=>by rw[pds,Ev,Qr]; decide
 | d::l,h=>by
  rw[RS] at h;rw[pds,Ev,Qr,piled_cons];have:=Vo d h.1;have:=fZ l h.2;lia
end
mutual
def UN:∀ d:Dt,okS d->(pd d).showable=Kj
 | .int i,h=>by rw[okS] at h; rw[pd,Gm]; rwa[y8 h]
 | .str x,_=>by rw[pd,Gm]
 | .tup l,h=>by rw[okS] at h; rw[pd,Gm]; rwa[fM l h]
def fM:∀ l:List Dt,RS l->Fe (pds l)=Kj
 | [],_=>by rw[pds,Fe]
 | d::l,h=>by rw[RS] at h; rw[pds,Fe,UN d h.1,fM l h.2]; rfl
end
mutual
def Rf:∀ d:Dt,(pd d).hasDict=Kk
 | .int i=>by rw[pd,GJ]
 | .str x=>by rw[pd,GJ]
 | .tup l=>by rw[pd,GJ]; rwa[aG l]
def aG:∀ l:List Dt,FD (pds l)=Kk
 | []=>by rw[pds,FD]
 | d::l=>by rw[pds,FD,Rf d,aG l]; rfl
end
section
variable{X:Cx}{Kl:List (b9×BP)}{σ:St}{H:Hp}{s:c8}
mutual
def UO(I:Inv X Kl σ H s):∀(d:Dt){v:V}{u:c5},Rep H d v->xZ v u->∃ as,Reads s.heap u (pd d) as
 | .int i,v,u,h,r=>by
  rw[xR.mp h] at r;obtain⟨t,rfl⟩:=(show ∃ t,u=Cj i t from r);rw[pd];rwa[_,.int i t]
 | .str x,v,u,h,r=>by
  rw[xO.mp h] at r;obtain⟨t,rfl⟩:=(show ∃ t,u=DP x t from r);rw[pd];rwa[_,.str x t]
 | .tup l,v,u,h,r=>by
  obtain⟨a,xs,rfl,j,e⟩:=uW.mp h;obtain rfl:u=r6 a:=r;obtain⟨g,c,⟨o,h1,h2,n,h3⟩,m⟩:=I.tuple (SqT.of j);obtain⟨as,f⟩:=fq I l e c;rw[pd];exact⟨_,.tuple h1 h2 h3 (by simpa using f)⟩
def fq(I:Inv X Kl σ H s):∀(l:List Dt){xs:List V}{c:List c5},wB H l xs->yW xs c->∃ as,ReadsAll s.heap c (pds l) as
 | [],xs,c,h,r=>by
  rw[yI.mp h] at r;cases r;rw[pds];rwa[_,.nil]
 | d::l,xs,c,h,r=>by
  obtain⟨x,g,rfl,h1,h2⟩:=zK.mp h;cases r with
  | cons r1 r2 =>
   obtain⟨as,f⟩:=UO I d h1 r1;obtain⟨bs,e⟩:=fq I l h2 r2;rw[pds];rwa[_,.cons f e]
end
end
end Sea
namespace L2
section
variable{X:Cx}{x y:j4}{p pos:Ea}{i e:AD}{es:List AD}{ty:TE}{t:TA}
structure TabAtX(P:j9)(w:o9)(K:b6)(mg:j4->Option c5)(B:Ae)(m:Nat)(kvs:List (Key×V))(k:Key)(sp:Sp):Prop where
 mk ::
 has:∃(x:j4)(f:b9)(n:Nat)(ps:List j4),tZ kvs k=Kh (.ref f)/\mg x=Kh (.ref f)/\aD P w K mg B x n ps sp/\n<=m
end
end L2

namespace Sea
inductive Cl where
 | badName | taken | badPlace | full | noMark | same | needed | badBank | noBank | badRun | noRun | noMoment | badWay | badTurn | noNote
 deriving DecidableEq
open Classical in
noncomputable def judge(S:BS):Deed->Option Cl
 | .mark n x y=>if ¬ rP n then Kh .badName else if (zN S n).isSome=Kj then Kh .taken else if ¬ qe (x,y) then Kh .badPlace else if 20<=S.marks.length then Kh .full else Ki
 | .move n x y=>if zN S n=Ki then Kh .noMark else if ¬ qe (x,y) then Kh .badPlace else if ∀ e∈S.notes,SE (aft S (.move n x y)) e.2 then Ki else Kh .same
 | .unmark n=>if zN S n=Ki then Kh .noMark else if ∀ e∈S.notes,al n e.2 then Ki else Kh .needed
 | .bank n f=>if ¬ rP n then Kh .badName else if n∈S.banks.map (·.1) then Kh .taken else if ¬ ∀ c∈f,qe c then Kh .badPlace else if isBk f=Kk then Kh .badBank else if 8<=S.banks.length then Kh .full else Ki
 | .level n=>if n∈S.banks.map (·.1) then Ki else Kh .noBank
 | .sail x y=>if ¬ qe (x,y) then Kh .badRun else if 12<=S.runs.length then Kh .full else Ki
 | .right k x y=>if 0<=k/\k<S.runs.length then(if qe (x,y) then Ki else Kh .badRun) else Kh .noRun
 | .bearing m n a b c d=>if ¬ (0<=m/\m<=S.runs.length) then Kh .noMoment else if zN S n=Ki then Kh .noMark else if ¬ qq (a,b) then Kh .badWay else if ¬ qq (c,d) then Kh .badWay else if a*d-b*c<=0 then Kh .badTurn else if 24<=S.notes.length then Kh .full else Ki
 | .range m l r=>if ¬ (0<=m/\m<=S.runs.length) then Kh .noMoment else if zN S l=Ki then Kh .noMark else if zN S r=Ki then Kh .noMark else if zN S l=zN S r then Kh .same else if 24<=S.notes.length then Kh .full else Ki
 | .strike k=>if k∈S.notes.map (·.1) then Ki else Kh .noNote
def TN(x:j4):Prop:=(∀ c∈x.cps.toList,c<128)/\x.length<=50
def dJ(i:Int):Prop:=i.natAbs.log2<200
def tameD:Deed->Prop
 | .mark n x y=>TN n/\dJ x/\dJ y
 | .move n x y=>TN n/\dJ x/\dJ y
 | .unmark n=>TN n
 | .bank n e=>TN n/\e.length<=12/\∀ c∈e,c.1.natAbs.log2<20/\c.2.natAbs.log2<20
 | .level n=>TN n
 | .sail x y=>dJ x/\dJ y
 | .right k x y=>dJ k/\dJ x/\dJ y
 | .bearing m n a b c d=>dJ m/\TN n/\dJ a/\dJ b/\dJ c/\dJ d
 | .range m l r=>dJ m/\TN l/\TN r
 | .strike k=>dJ k
structure Well(S:BS):Prop where
 mk ::
 good:kT S
 names:∀ e∈S.marks,rP e.1
structure RwAt(H:Hp)(ts:List b9)(ws:List (j4×Bool)):Prop where
 mk ::
 len:ts.length=ws.length
 at_:∀(j:Nat)(t:b9)(w:j4×Bool),ts[j]?=Kh t->ws[j]?=Kh w->H t=Kh (.tup [.str w.1,.bl w.2])
end Sea

namespace Sea
structure Neat(S:BS):Prop where
 mk ::
 well:Well S
 nm:(S.marks.map (·.1)).Nodup
 nb:(S.banks.map (·.1)).Nodup
 bk:∀ e∈S.banks,rP e.1/\e.2.length<=8/\∀ c∈e.2,qe c
end Sea

namespace Sea
def mkOf(e:j4×Int×Int):Deed:=.mark e.1 e.2.1 e.2.2
def bkOf(e:j4×List (Int×Int)):Deed:=.bank e.1 e.2
def slOf(e:Int×Int):Deed:=.sail e.1 e.2
def noteF(ns:List j4)(D:Deed):Prop:=(∃(m:Int)(i:Nat)(l r:j4),D=.range m l r/\0<=m/\m<=12/\i<18/\ns[i]?=Kh l/\ns[i+1]?=Kh r)\/∃(m k:Int)(i:Nat)(n:j4),D=.bearing m n 100 k (-k) 100/\0<=m/\m<=12/\0<=k/\k<24/\i<19/\ns[i]?=Kh n
structure FillD(ns:List j4)(Ds:List Deed)(l1:List (j4×Int×Int))(l2:List (j4×List (Int×Int)))(l3:List (Int×Int))(l4:List Deed)(c:Nat):Prop where
 mk ::
 eq:Ds=l1.map mkOf++l2.map bkOf++l3.map slOf++l4
 n1:l1.map (·.1)=ns.take 20
 p1:∀(j:Nat)(e:j4×Int×Int),l1[j]?=Kh e->qe e.2/\e.2.2=j
 c2:c<=2
 n2:l2.map (·.1)=(ns.drop c).take 8
 p2:∀(j:Nat)(e:j4×List (Int×Int)),l2[j]?=Kh e->j<8/\e.2=[((j:Int),0),((j:Int)+3,0),((j:Int),2)]
 n3:l3.length=12
 p3:∀ e∈l3,qe e
 n4:l4.length=24
 p4:∀ D∈l4,noteF ns D
noncomputable def stepD(S:BS)(D:Deed):BS:=match judge S D with
 | none=>aft S D
 | some _=>S
noncomputable def stepAll(S:BS)(l:List Deed):BS:=l.foldl stepD S
section
variable{S:BS}{D:Deed}
structure NotesF(S S':BS)(l:List Deed):Prop where
 mk ::
 m:S'.marks=S.marks
 b:S'.banks=S.banks
 r:S'.runs=S.runs
 c:S'.coming=S.coming+l.length
 n:S'.notes.map (·.2)=S.notes.map (·.2)++l
 k:∀ k:Int,(k∈S.notes.map (·.1)\/(S.coming<=k/\k<S'.coming))->k∈S'.notes.map (·.1)
structure Brim(ns:List j4)(n19:j4)(c:Nat)(S:BS):Prop where
 mk ::
 neat:Neat S
 m:S.marks.map (·.1)=ns.take 20
 c2:c<=2
 b:S.banks.map (·.1)=(ns.drop c).take 8
 r:S.runs.length=12
 n:S.notes.length=24
 all:∀ k:Int,1<=k->k<25->k∈S.notes.map (·.1)
 co:S.coming=25
 un:∀ e∈S.notes,al n19 e.2
end
end Sea

namespace Sea
def TW:Deed->j4
 | .mark _ _ _ => "mark"
 | .move _ _ _ => "move"
 | .unmark _ => "unmark"
 | .bank _ _ => "bank"
 | .level _ => "level"
 | .sail _ _ => "sail"
 | .right _ _ _ => "right"
 | .bearing _ _ _ _ _ _ => "bearing"
 | .range _ _ _ => "range"
 | .strike _ => "strike"
def RP{H:Hp}{D:Deed}(h:Rep H D.dt v):∃(t:b9)(xs:List V),v=.ref t/\H t=Kh (.tup (.str (TW D)::xs)):=by
 cases D <;>(obtain⟨t,xs,rfl,c,r⟩:=uW.mp h; obtain⟨_,_,rfl,k1,_⟩:=zK.mp r; rw[xO.mp k1] at c; rwa[_,_,rfl,c])
end Sea

namespace Sea
def LwO(H:Hp)(X:b9->Prop)(d:b9)(S:BS):Prop:=∃ m b r n,¬ X r/\LwA H d m b r n S
structure HL(H:Hp)(X:b9->Prop)(sl rl:b9)(Ss:List BS)(Ds:List Deed):Prop where
 mk ::
 n1:¬ X sl
 n2:¬ X rl
 s:∃ ss:List b9,H sl=Kh (.lst (ss.map V.ref))/\ss.length=Ss.length/\∀(i:Nat)(d:b9)(S:BS),ss[i]?=Kh d->Ss[i]?=Kh S->LwO H X d S
 r:∃ xs,H rl=Kh (.lst xs)/\wB H (Ds.map Deed.dt) xs
section
variable{φ X X':b9->Prop}{H H1:Hp}{C b p l l' sl rl tp:b9}{Ss:List BS}{Ds:List Deed}{j k:Nat}{S S':BS}{D:Deed}
def HL.sam(h:HL H X sl rl Ss Ds)(s:vG φ H H1)(nd:∀ a f,Rd H a (.dK f)->¬ φ a)(g:∀ a xs,H a=Kh (.tup xs)->¬ φ a)(c:∀ x xs,H x=Kh (.lst xs)->¬ X x->¬ φ x):HL H1 X sl rl Ss Ds:=by
 obtain⟨u,q,A,z⟩:=h.s;obtain⟨xs,o,y⟩:=h.r;erw[h.n1,h.n2,⟨u,s.lst (c _ _ q h.n1) q,A,λi d S w v=>?_⟩,xs,s.lst (c _ _ o h.n2) o,y.sam s g];obtain⟨m,b,r,n,r1,k⟩:=z i d S w v;rwa[m,b,r,n,r1,k.samE s nd g λxs e=>c r xs e r1]
structure HB(C:b9)(H:Hp)(b p l:b9)(X:b9->Prop)(tp:b9)(Ss:List BS)(Ds:List Deed)(j k:Nat):Prop where
 mk ::
 bk:∃ S,Ss[j]?=Kh S/\BkL C H b p l S ((Ds.zip Ss).take j) ((Ds.zip Ss.tail).drop j).reverse
 lp:∃ sl rl,H tp=Kh (.tup [.ref sl,.ref rl,.int j])/\HL H X sl rl Ss Ds
 xp:X p
 xl:X l
 len:Ss.length=Ds.length+1
 le:j<=Ds.length
 lk:Ds.length<=k
 st:∀ S∈Ss,Neat S/\1<=S.coming/\S.coming<=1+k
 tm:∀ D∈Ds,tameD D
end
end Sea

namespace Sea
def mkO:Deed->Option (j4×Int×Int)
 | .mark n x y=>Kh (n,x,y)
 | _=>Ki
def slO:Deed->Option (Int×Int)
 | .sail x y=>Kh (x,y)
 | _=>Ki
def aQ:Deed->Bool
 | .bearing _ _ _ _ _ _=>Kj
 | .range _ _ _=>Kj
 | _=>Kk
def iz(k:Int):List Deed->List (Int×Deed)
 | []=>[]
 | D::l=>(k,D)::iz (k+1) l
def iU:∀{l:List Deed}{k:Int}{e:Int×Deed},e∈iz k l->e.2∈l
 | [],_,_,h=>nomatch h
 | D::l,k,e,h=>by
  rcases j5.mp h with z | z
  ·rw[z]; rwa[.head _]
  ·rwa[.tail _ (iU z)]
def VR:∀{l:List Deed}{k:Int}{D:Deed},D∈l->∃ j,(j,D)∈iz k l
 | [],_,_,h=>nomatch h
 | E::l,k,D,h=>by
  rcases j5.mp h with z | z
  ·rw[z]; rwa[k,.head _]
  ·obtain⟨j,c⟩:=VR (k:=k+1) z;rwa[j,.tail _ c]
def ig:∀(l:List Deed)(k:Int),(iz k l).length=l.length
 | [],_=>rfl
 | D::l,k=>by rw[iz,f9,f9,ig l]
def parts:∀(e:List Deed)(l:List (j4×Int×Int))(f:List (Int×Int))(no:List (Int×Deed))(k:Int),(∀ D∈e,nj D) ->
  yM (stN l f no k) e=stN (l++e.filterMap mkO) (f++e.filterMap slO) (no++iz k (e.filter aQ)) (k+(e.filter aQ).length)
 | [],l,f,no,k,_=>by simp[yM,iz]
 | D::e,l,f,no,k,h=>by
  have j:=h D (.head _);have g:∀ D∈e,nj D:=λE i=>h E (.tail _ i);show yM (aft (stN l f no k) D) e=_
  match D,j with
  | .mark n x y,_ =>
   rw[iJ,parts e _ _ _ _ g,l9];rfl
  | .sail x y,_ =>
   rw[iZ,parts e _ _ _ _ g,l9];rfl
  | .bearing m n a b c d,_ =>
   rw[vd,parts e _ _ _ _ g,l9,AU (by rfl),f9,show k+1+((e.filter aQ).length:Int)=k+(((e.filter aQ).length+1:Nat):Int) by lia];rfl
  | .range m a b,_ =>
   rw[md,parts e _ _ _ _ g,l9,AU (by rfl),f9,show k+1+((e.filter aQ).length:Int)=k+(((e.filter aQ).length+1:Nat):Int) by lia];rfl
def WM:Deed->Prop
 | .bearing _ _ a b c d=>0<a*d-b*c
 | _=>True
def Uh(h:okD S D):WM D:=by
 cases D with
 | bearing m n a b c d=>rwa[h.2.2.2.2.2.1]
 | _=>trivial
def jm:∀{d:List Deed}{S:BS},wD S d->∀ D∈d,WM D
 | [],_,_,_,c=>nomatch c
 | _::_,_,⟨h1,h2⟩,D,c=>by
  rcases j5.mp c with z | z
  ·rw[z]; rwa[Uh h1]
  ·rwa[jm h2 D z]
def VG(kn:sZ S D)(f:WM D)(e:∀ n,zN g n=zN S n)(h:g.runs.length=S.runs.length)(i:g.notes.length<24):okD g D:=by
 match D,kn,f with
 | .bearing m n a b c d,⟨h1,h2,h3,h4,h5⟩,f=>rwa[h1,by rw[h]; exact h2,by rw[e]; exact h3,h4,h5,f,i]
 | .range m l r,⟨h1,h2,h3,h4,h5⟩,f=>rwa[h1,by rw[h]; exact h2,by rw[e]; exact h3,by rw[e]; exact h4,by rw[e,e]; exact h5,i]
def Ua{j:Nat}(e:∀ n,zN c n=zN S n)(d:c.runs=S.runs):yL c j D=yL S j D:=by
 unfold yL;rw[d]
 congr 1
 unfold zj xT;cases D <;> simp only[e]
end Sea

namespace PyProof.Rows
section
variable{prog:j9}{w:o9}{A:Ad}{E:c5->c8->Prop}{s:c8}{st st':t8}{κ:Bw}{ys:List Ak}{r:Ak->Int}
def lV.asks(e:lV prog w A s κ ys r):UE prog w A s κ ys:=λx y d c Q h=>e x y d c Q (h _)
def iB(p:lV prog w A s κ ys r)(D:xN κ ys st)(L:pendingOf st = #[]){Q:Unit->t8->Prop}(h:∀ st',xN κ ys st'->Q () st'):wpS (model prog w) A E s sortRuns' Q st:=by
 rw[sortRuns'_eq];erw[tW ?_];dsimp only;rw[D.size];generalize minRun' ys.length ys.length 0=Z;erw[xF (I:=λx c st'=>xN κ ys st'/\∃ lo,c=(Ki,lo)/\uy 0 (pendingOf st').toList lo/\lo<=ys.length/\x<=lo) (Q:=λc st'=>xN κ ys st'/\∃ lo,c=(Ki,lo)/\uy 0 (pendingOf st').toList ys.length) ?_ ?_ ⟨D,0,rfl,by rw[L]; rfl,t9 _,f6 _⟩ ?_]
 ·rintro x c o _ C ⟨m,lo,rfl,v,z,J⟩;dsimp only;erw[yB (λe=>wpS_pure ⟨m,_,rfl,?_⟩) (λe=>?_)]
  ·(rw[show ys.length=lo by lia];assumption)
  apply jE (prog:=prog) (w:=w) (A:=A) (E:=E) (s:=s) (P:=λn f=>xN κ ys f/\uy 0 (pendingOf f).toList lo/\1<=n/\lo+n<=ys.length)
  case use =>
   intro H;erw[wpS_bind (rn p m (by lia) (by lia) λn i st m1 m2 as=>?_)];have l:=st.base;have u:uy 0 (pendingOf i).toList lo:=by rw[st.pend]; rwa[v]
   clear st;dsimp only;erw[yB (λM=>?_) (λM=>?_)];rotate_left
   ·rwa[H n _ ⟨l,u,m1,by lia⟩]
   ·erw[qC ?_];erw[wpS_bind (xt p l (by lia) m1 (by lia) as λf st _=>?_)];refine yB (λe=>nomatch e) (λ_=>?_);rwa[H _ _ ⟨st.base,by rw[st.pend]; exact u,by lia,by lia⟩]
  intro n f ⟨y,q,k1,k2⟩;erw[tW ?_];apply kO (prog:=prog) (w:=w) (A:=A) (E:=E) (s:=s) (P:=λf=>xN κ ys f/\uy 0 (pendingOf f).toList lo)
  case use =>
   intro H;cases eb:(pendingOf f).back? with
   | none=>rwa[H _ ⟨y,q⟩]
   | some t =>
    obtain⟨Y,n1,X⟩:=t;dsimp only;erw[xF (I:=λ_ c st'=>c=(Ki,())/\xN κ ys st'/\uy 0 (pendingOf st').toList lo) (Q:=λc st'=>c=(Ki,())/\xN κ ys st'/\uy 0 (pendingOf st').toList lo) ?_ (λ_ _ h=>h) ⟨rfl,y,q⟩ ?_]
    ·rintro x c d _ C ⟨rfl,g,j⟩;erw[tW ?_];by_cases B:(pendingOf d).size>1
     ·rw[y7 B,t6 (show(pendingOf d).size-2<(pendingOf d).size by lia)];rcases (pendingOf d)[(pendingOf d).size-2] with ⟨T,S,R⟩
      erw[yB (λe=>wpS_pure ⟨rfl,g,j⟩) (λe=>?_)];erw[wpS_bind (uc p.asks g j z (by lia) λG O N _=>?_)];rwa[wpS_pure ⟨rfl,O,N⟩]
     ·rw[y6 B];rwa[wpS_pure ⟨rfl,g,j⟩]
    ·rintro c d ⟨rfl,g,j⟩;erw[rN (H _ ⟨⟨g.perm,g.kind,g.failed⟩,?_⟩)];show uy 0 ((pendingOf d).modify ((pendingOf d).size-1) _).toList lo;rw[Array.toList_modify];rwa[j.power _ _]
  intro d ⟨g,j⟩;erw[rN (wpS_pure ⟨⟨g.perm,g.kind,g.failed⟩,_,rfl,?_,k2,by lia⟩)];show uy 0 ((pendingOf d).push (lo,n,0)).toList (lo+n);rw[CA];rwa[uy.split.mpr ⟨_,j,rfl,by lia,rfl⟩]
 ·rintro c o ⟨m,lo,rfl,v,z,J⟩;exists m,_,rfl;(rw[show ys.length=lo by lia];assumption)
 ·rintro c o ⟨m,lo,rfl,v⟩;erw[xF (I:=λ_ c st'=>c=(Ki,())/\xN κ ys st'/\uy 0 (pendingOf st').toList ys.length) (Q:=λc st'=>c=(Ki,())/\xN κ ys st') ?_ (λ_ _ h=>⟨h.1,h.2.1⟩) ⟨rfl,m,v⟩ ?_]
  ·rintro x c i _ C ⟨rfl,l,u⟩;erw[tW ?_];erw[yB (λe=>wpS_pure ⟨rfl,l⟩) (λe=>?_)];erw[wpS_bind (uc p.asks l u (f6 _) ?_ λf y q _=>?_)]
   ·(repeat' split) <;> lia
   ·rwa[wpS_pure ⟨rfl,y,q⟩]
  ·rintro c i ⟨rfl,l⟩;rwa[wpS_pure (h _ l)]
def iE(h2:2<=ys.length)(e:lV prog w A s κ ys r)(f:xN κ ys st)(d:pendingOf st = #[]){Q:Unit->t8->Prop}(h:∀ st',xN κ ys st'->(ys.length<64->Asc r (arrOf st') 0 ys.length)->Q () st'):wpS (model prog w) A E s sortRuns' Q st:=by
 by_cases c:ys.length<64
 ·rwa[gv h2 c e f d λst' b as=>h st' b λ_=>as]
 ·rwa[iB e f d λst' b=>h st' b λz=>x4 z c]
end
end PyProof.Rows
namespace L2
open PySem PySem.Spec PyProof.Rows PySem.W
section
variable{X:Cx}
def gg(N:X.A.units+2<cLine):uK X (.builtin "sorted") (λxs H Q=>E2 λ(l:b9) (f:List (b9×List Int))=>A4 (xs=[.ref l]) (SqL X.K H l ((f.map (·.1)).map V.ref)) (∀ t∈f,H t.1=Kh (.tup (t.2.map V.int))) (∀(p:b9)(j:List (b9×List Int)),H p=Ki->j.Perm f->(f.length<64->j.Pairwise (λa b=>HT.lexLt b.2 a.2=Kk))->Q (.ref p) (upd H p (.lst ((j.map (·.1)).map V.ref))))):=by
 intro Kl s σ H xs j Q I r h;obtain⟨l,f,rfl,O,i,q⟩:=h;obtain⟨u,rfl,ru⟩:=yW.one r;cases ru;obtain⟨y,rv,pl,M⟩:=I.list O;have ei:=lh rv;subst ei;have T:∀ t∈f,Yu s.heap (.ref t.1) t.2:=λt w=>by
  obtain⟨y,r1,⟨o,e,c,n,d⟩,_⟩:=I.tuple (SqT.of (i t w));rwa[_,o,n,y,rfl,e,c,d,r1]
 have S:∀ v∈(f.map (·.1)).map r6,∃ t∈f,v=.ref t.1:=λv m=>by
  obtain⟨a,R,rfl⟩:=g9.mp m;obtain⟨t,w,rfl⟩:=g9.mp R;rwa[t,w,rfl]
 have Y:∀ v∈(f.map (·.1)).map r6,∃ ns,Yu s.heap v ns:=λv m=>by
  obtain⟨t,w,rfl⟩:=S v m;rwa[_,T t w]
 refine Vm (f.length<64) (ρ:=λv=>ik (f.map (·.2)) (Yg H v)) pl.isList ?_ (λ_ s' kp E' Q' O=>Va (λv m=>let ⟨ns,e⟩:=Y v m;⟨ns,e.keep kp⟩) O) (λh2 s' kp E' Z st B hp Q h=>iE (by rw[Gn,JR]; rwa[h2]) (ZB (ρ:=λv=>ik (f.map (·.2)) (Yg H v)) N (λv m=>let ⟨ns,e⟩:=Y v m;⟨ns,e.keep kp⟩) (λu N v m ns ms l1 l2=>?_) Z) B hp λJ b as=>h J b λg=>as (by rw[Gn,JR,b5,b5]; rwa[g])) λout pm pw=>?_
 ·rw[b5]; rw[b5] at M; rwa[M]
 ·obtain⟨t,w,rfl⟩:=S u N;obtain⟨G,C,rfl⟩:=S v m;rw[l1.inj ((T t w).keep kp),l2.inj ((T G C).keep kp)];rw[ue (i t w),ue (i G C)];rwa[Xw (t5 w)]
 ·rw[Ag] at pm;obtain⟨j,E,rfl⟩:=fX pm rfl;have e0:j.map (r6 ∘ λx:b9×List Int=>x.1)=(j.map (·.1)).map r6:=by rw[Ag]
  rw[e0];obtain⟨e,at'⟩:=sortedAll_at s.heap ((f.map (·.1)).map r6) ((j.map (·.1)).map r6).toArray;have fr:H (s.heap.objs.size+1)=none:=I.hok.fresh (Bi _);have L:f.length<64->j.Pairwise (λa b=>HT.lexLt b.2 a.2=Kk):=λg=>by
   have pw:=pw g;rw[BE] at pw;erw[pw.imp_of_mem λ{a b} R hb z=>?_];have P:=E.mem_iff.mp R;have D:=E.mem_iff.mp hb;have z:ik (f.map (·.2)) (Yg H (.ref a.1))<=ik (f.map (·.2)) (Yg H (.ref b.1)):=z;rw[ue (i a P),ue (i b D)] at z;rwa[Rm (t5 D) z]
  erw[.ref (s.heap.objs.size+1),_,I.laid (t':=s.toks) (a:=s.heap.objs.size+1) (o:=.lst ((j.map (·.1)).map V.ref)) (λb ob q=>sortedAll_old q) (Bi _) ?_,rfl,q _ _ fr E L];erw[?_,_,e,ui _,at'];rw[b5,b5,E.length_eq];simpa using M
end
end L2

namespace L2
open PySem PySem.Spec PyProof.Rows PySem.W
def jQ(xs:List Nat)(b:Bool):SetTable:=⟨7,xs.toArray,#[],0,b,0,Kj⟩
def TZ:List Nat->List (List Nat)
 | []=>[[]]
 | x::l=>(TZ l).map (x :: ·)++TZ l
def ip:List (List Nat):=TZ [1,2,3,4,5,6]
def YN(n:Nat)(xs:List Nat):List Nat:=xs.take (BF xs.toArray n)++n::xs.drop (BF xs.toArray n)
def Vf:∀ b:Bool,∀ n∈[1,2,3,4,5,6],∀ xs∈ip,xs.length<=2->n ∉ xs->(jQ xs b).freeSlot n=Kh (n,Kk)/\(jQ xs b).put n=(jQ (YN n xs) b,BF xs.toArray n)/\YN n xs∈ip/\(jQ (YN n xs) b).tooFull=false:=by ac_nf
def qJ:∀ b:Bool,∀ xs∈ip,(jQ xs b).fits xs.length=true:=by ac_nf
def lL:∀ xs∈ip,xs.Pairwise (· < ·)/\BF xs.toArray 0=0/\∀ i∈[0,1,2,3,4,5],i<xs.length->BF xs.toArray (xs.getD i 0+1)=i+1:=by ac_nf
def bZ:∀ xs∈ip,xs.length<=6:=by ac_nf
def Xi(n:Nat)(xs:List Nat):(YN n xs).Perm (n::xs):=by
 unfold YN;erw[FO.trans ?_];rw[AH]
def VQ:∀ xs∈ip,∀ n∈xs,n∈[1,2,3,4,5,6]:=by ac_nf
def eA:∀ n∈[1,2,3,4,5,6],hashInt ((n:Nat):Int)=n:=by ac_nf
def Vu(c:List (Int×c5))(xs:List Nat):Prop:=c.map (·.1)=xs.map Ig/\∀ e∈c,∃ t,e.2=.int e.1 t
def Yy(a:b9)(xs:List Nat)(b:Bool)(h:Ae):Prop:=∃ c d,h.get? a=Kh { cls:=.type "set",dict:=Ki,data:=.set c d (jQ xs b),slots:=#[] }/\Vu c.toList xs
section
variable{prog:j9}{w:o9}{A:Ad}{E:c5->c8->Prop}{s:c8}
def Vu.mem(h:Vu f xs){e:Int×c5}(d:e∈f):∃ n∈xs,∃ t,e=((n:Int),.int n t):=by
 have m:e.1∈xs.map Ig:=by rw[<- h.1]; rwa[t5 d]
 obtain⟨n,g,q⟩:=g9.mp m;obtain⟨t,c⟩:=h.2 e d;obtain⟨a,v⟩:=e;dsimp only at q c;rwa[n,g,t,by rw[c,<- q]; rfl]
def Vu.elems(h:Vu c xs)(d:xs∈ip):ElemsOf (CI prog w) c:=λe g=>by
 obtain⟨n,f,t,rfl⟩:=h.mem g;rwa[⟨n,intKind_is _ _ _ _,(eA n (VQ xs d n f)).symm⟩,rfl]
def RD{n:Nat}{xs:List Nat}{Q:Bool->c8->Prop}(J:n∈[1,2,3,4,5,6])(B:xs∈ip)(R:xs.length<=2)(Z:Yy S xs b s.heap)
  (h:∀(r:Bool)(H:Ae)(y:List Nat),BQ S s.heap H->y∈ip->y.length<=xs.length+1->(∀ k,k∈y↔k∈xs\/k=n)->Yy S y b H->Q r { s with heap:=H,toks:=s.toks+1 }) :
  wpAny (model prog w) A (setAdd S (.int n t)) Q E s:=by
 obtain⟨c,N,l,d⟩:=Z;unfold setAdd;refine BR (b7 ((CI prog w).pyHash (k:=(n:Int)) (intKind_is _ _ _ _) ?_));have p:ElemsOf (CI prog w) c.toList:=d.elems B;have g:c.size=xs.length:=by
  have:=congrArg z9 d.1;simpa using this
 have L:(jQ xs b).fits c.size=true:=by rw[g]; rwa[qJ b xs B]
 have Y:c.size<scanBound:=by rw[g]; unfold scanBound; lia
 unfold setAddHashed setAddHashedIn;refine BR (b7 (D4 (s:={ s with toks:=s.toks+1 }) l rfl L ?_));dsimp only;rw[byScan_of (x:=.int (n:Int) t) rfl Y p];simp only[↓reduceIte];unfold setAddByScan;erw[b7 ?_];erw[b7 (F3 ?_)];erw[b7 (wpAny_setScan_of (knd:=CI prog w) (k:=(n:Int)) (intKind_is _ _ _ _) l rfl L p ?_)];cases I:List.findIdx? (λe=>(CI prog w).is (n:Int) e.2) c.toList with
 | some j =>
  dsimp only;obtain⟨T,i,_⟩:=List.findIdx?_eq_some_iff_getElem.mp I;obtain⟨m,G,u,e⟩:=d.mem (r9 T);rw[e] at i;have en:(n:Int)=m:=(CI prog w).inj _ _ _ i (intKind_is _ _ _ _);erw[d9 (d9 (h Kk s.heap xs (Ke _ _) B (Bi _) (λk=>⟨.inl,λq=>q.elim id λz=>?_⟩) ⟨c,N,l,d⟩))];rw[z,show n=m by lia];rwa[G]
 | none =>
  dsimp only;have nx:n ∉ xs:=λG=>by
   have:(n:Int)∈c.toList.map (·.1):=by rw[d.1]; rwa[t5 G]
   obtain⟨e,o,q⟩:=g9.mp this;obtain⟨t',P⟩:=d.2 e o;have:=List.findIdx?_eq_none_iff.mp I e o;rw[P,q,intKind_is] at this;cases this
  obtain⟨f1,f2,M,f4⟩:=Vf b n J xs B R nx;have X:(CI prog w).hash (n:Int)=n:=eA n J;have C:=Xi n xs;have v:(HF c (BF xs.toArray n) ((n:Int),Cj n t)).size=(YN n xs).length:=by
   rw[<- j7,DC,C.length_eq];simp[g];lia
  have D:layNew (jQ xs b) c ((CI prog w).hash (n:Int)) (.int n t)=(HF c (BF xs.toArray n) ((n:Int),Cj n t),jQ (YN n xs) b,Kk,Kk):=by
   unfold layNew;rw[X,f1];dsimp only;rw[f2];dsimp only;rw[v];unfold SetTable.orStandIn;rw[qJ b _ M,y7 rfl];rfl
  rw[D];dsimp only;erw[b7 (d9 ?_)];show wpAny _ _ (hashByValue 8 (Cj n t) >>= _) _ _ _;rw[hashByValue_scannable 8 rfl];erw[b7 (d9 ?_)];show wpAny _ _ (storeSet S _ (jQ (YN n xs) b) >>= _) _ _ _;erw[b7 (wpAny_storeSet_of l rfl ?_ (by rw[v,C.length_eq,sizeLine_eq]; simp; lia))];have O:plainKind (Cj (n:Int) t)=true:=rfl;simp only[O,if_true,f4,II,Bt,if_false];erw[d9 ?_];dsimp only;erw[d9 (h Kj _ (YN n xs) (Dx _ _ _) M (by rw[C.length_eq]; simp) (λk=>by rw[C.mem_iff,j5]; rwa[or_comm]) ?_)];erw[_,N+1,C8 (Obj.putSet _ (jQ (YN n xs) b)) l rfl,?_,?_]
  ·rw[DC];unfold YN;rw[d5,d5,i4,i4,Cg,C6,d.1,Cg,C6];rfl
  ·intro e f;rw[DC] at f;rcases i9.mp f with f | f
   ·rwa[d.2 e (Aj f)]
   ·rcases j5.mp f with rfl | f
    ·rwa[t,rfl]
    ·rwa[d.2 e (AF f)]
def Vc{R:Result->c8->Prop}{G:Array ID->Array ID->Prop}{n:Nat}{P:Nat->c5->Prop}{St:Nat->c8->Prop}(W:WalksS prog w A.in1 I fp l G n P St)(S:b9)(y:S ∉ fp)(ns:List Nat)(b:Bool)
  (hv:∀ i v,P i v->∃(k:Nat)(t:Je),ns[i]?=Kh k/\v=.int k t) (h6:∀ k∈ns,k∈[1,2,3,4,5,6]) (h3:n<=3) :
  ∀(k i:Nat)(s:c8)(xs:List Nat),n-i=k->i<=n->St i s->xs∈ip->xs.length<=i->(∀ x,x∈xs↔x∈ns.take i)->Yy S xs b s.heap ->
   (∀ d xs,Moved (S::l) G s d->xs∈ip->xs.length<=n->(∀ x,x∈xs↔x∈ns.take n)->Yy S xs b d.heap->R (.ok (.ret .none)) d) ->
   codeAny (model prog w) A (.builtin "set.update.loop" ⟨[.ref S,.ref I],[]⟩) R s:=by
 have u:S ∉ l:=λh=>y (W.sub _ h);have f:∀ b∈l,b∈S::l:=λb hb=>v9 _ hb;intro k
 induction k with
 | zero =>
  intro i s xs hk hi g C hl H Q T;have J:i=n:=by lia
  subst J;erw[codeAny_builtin Dz ?_];rw[En Cc _];show wpAny _ A.in1 (pyNext (.ref I) >>= _) _ _ s;erw[b7 (W.done s _ _ g λd m=>?_)];show wpAny _ A.in1 (ret AW) _ _ d;erw[d9 (T d xs (m.mono f) C hl H ?_)];obtain⟨X,Y,D,L⟩:=Q;rwa[X,Y,m.heap S _ u D,L]
 | succ k ih =>
  intro i s xs hk hi g C hl H Q T;have q:i<n:=by lia
  refine codeAny_builtin Dz ?_;rw[En Cc _];show wpAny _ A.in1 (pyNext (.ref I) >>= _) _ _ s;refine b7 (W.item i s _ _ q g λv d hP p m=>?_);obtain⟨j,t,ej,rfl⟩:=hv i v hP;have O:Yy S xs b d.heap:=by
   obtain⟨X,Y,D,L⟩:=Q;rwa[X,Y,m.heap S _ u D,L]
  show wpAny _ A.in1 (holding [Cj j t] (setAdd S (.int j t)) >>= _) _ _ d;erw[b7 (BR ?_)];erw[RD (s:=d) (h6 j (f7 ej)) C (by lia) O λr h' ys Z hy yl ym N=>?_];erw[d9 ⟨plainId_quiet Cc _,ih (i+1) _ ys (by lia) q (W.frame _ d _ _ p (Bi _) λc M o e=>?_) hy (by lia) (λx=>?_) N λz zs B z1 z2 z3 z4=>?_⟩]
  ·rw[Z.2 c (λh:c=S=>y (by rw[<- h]; rwa[M]))]; rwa[e]
  ·rw[ym,H,o3,ej,i9];simp
  ·erw[T z zs (Moved.trans W.gtrans ((m.mono f).then_heap (Bi _) λc o M e=>?_) B) z1 z2 z3 z4];rw[Z.2 c (λh:c=S=>M (by rw[h]; rwa[o4]))]; rwa[e]
def TU(a:c5){Q₁:c5->c8->Prop}
  (h:Q₁ (.ref s.heap.objs.size) { s with heap:=s.heap.push { cls:=.type "set",dict:=Ki,data:=.set #[] 0 (.fresh 0 0 (!w.params.followText "set-order")) } }) :
  codeAny (model prog w) A (.call (.builtin "set.__new__") ⟨[.type "set",a],[]⟩) (wants Q₁ E) s:=by
 erw[codeAny_of_tree ?_];show wpAny _ A.in1 (do checkBuiltinCall "set.__new__" ⟨[.type "set",a],[]⟩; again (.builtin "set.__new__" ⟨[.type "set",a],[]⟩)) _ _ s;erw[b7 (Io (PySem.F.newCall_set_1 a) (d9 ⟨plainId_quiet IB _,codeAny_builtin F.entry_set_new ?_⟩))];rw[En IB _];unfold Cw.«set.__new__» IQ;have c:=sub_set_self;obtain⟨f,g,d,e,os⟩:=s;dsimp only
 wp_walk
 erw[Do (d9 ?_)];dsimp only;simp only[newObj];erw[b7 (wpAny_alloc (d9 ?_))];rwa[d9 h]
set_option maxHeartbeats 3200000 in
def cE{ns:List Nat}{Q:c5->c8->Prop}(hh:A.handled=Ki)(hl:s.heap.IsList l d)(hv:∀ (i:Nat) (v:c5),d[i]?=Kh v->∃ (k:Nat) (t:Je),ns[i]?=Kh k/\v=.int k t)(hsz:d.size=ns.length)(h3:ns.length<=3)(h6:∀ k∈ns,k∈[1,2,3,4,5,6])
  (h:∀(g:Ae)(L:Nat)(xs:List Nat),xs∈ip->xs.length<=3->(∀ x,x∈xs↔x∈ns)->Yy s.heap.objs.size xs (!w.params.followText "set-order") g->(∀ b o,s.heap.get? b=Kh o->g.get? b=Kh o)->Q (.ref s.heap.objs.size) { s with heap:=g,toks:=L }) :
  wpAny (model prog w) A (call (.type "set") [.ref l]) Q E s:=by
 generalize hb0:(!w.params.followText "set-order")=led at h;obtain⟨c,tl,hmro⟩:=CZ.mro;have Y:=CZ.made;have hsub:=CZ.sub;erw[G7 (codeAny_of_tree ?_)];show wpAny _ _ (callAny (.type "set") _) _ _ _;erw[d9 ⟨Code.quiet_builtin _ (by ac_nf),codeAny_builtin F.entry_type_call ?_⟩];rw[Around.under_plain (weight_type_call_type "set" [.ref l] []) rfl];have h1:=CZ.notType;have h2:=CZ.canCreate;have hct:=F.typeCall_set_1 (.ref l)
 repeat (any_goals (first | assumption | wp_step))
 refine codeAny_mono (TU (.ref l) (E:=E) (Q₁:=λobj n=>obj=.ref s.heap.objs.size/\n={ s with heap:=s.heap.push { cls:=.type "set",dict:=Ki,data:=.set #[] 0 (.fresh 0 0 led) } }) ⟨rfl,by rw[hb0]⟩) λr n X=>?_;cases r with
 | error e=>rwa[X]
 | ok fl =>
  cases fl with
  | ret obj =>
   obtain⟨rfl,rfl⟩:=X;have hS:(s.heap.push { cls:=.type "set",dict:=Ki,data:=.set #[] 0 (.fresh 0 0 led) }).get? s.heap.objs.size=Kh { cls:=.type "set",dict:=Ki,data:=.set #[] 0 (.fresh 0 0 led) }:=i7 _ rfl;have hT:Shared.TypeIs { s with heap:=s.heap.push { cls:=.type "set",dict:=Ki,data:=.set #[] 0 (.fresh 0 0 led) } } (.ref s.heap.objs.size) "set" :=⟨_,hS,rfl⟩;have hli:=CZ.init.lookup;have hbi:=CZ.init.bind (.ref s.heap.objs.size)
   repeat (any_goals (first | assumption | wp_step))
   refine codeAny_mono (codeAny_call_builtin (R:=wants (λr m=>r=.none/\∃ g L xs,m={ s with heap:=g,toks:=L }/\xs∈ip/\xs.length<=3/\(∀ x,x∈xs↔x∈ns)/\Yy s.heap.objs.size xs led g /\
     (∀ b o,s.heap.get? b=Kh o->g.get? b=Kh o)) E) CZ.init.plain F.entry_set_init (check_set_init_1 hT ?_)) λy m f=>?_
   ·obtain⟨ol,B,J,nl,I⟩:=hl;obtain⟨ocls,p,T,j⟩:=ol;simp only at J I;subst J; subst I;have z:(s.heap.push { cls:=.type "set",dict:=Ki,data:=.set #[] 0 (.fresh 0 0 led) }).get? l=Kh { cls:=.type "list",dict:=p,data:=.seq d nl,slots:=j }:=c9 _ B;have hsls:=F.sub_list_set;have hslf:=F.sub_list_frozenset;have hne:(F2 "list" == F2 "dict")=false:=by decide
    have G:(s.heap.push { cls:=.type "set",dict:=Ki,data:=.set #[] 0 (.fresh 0 0 led) }).IsList l d:=⟨_,z,rfl,nl,rfl⟩;unfold Cw.«set.__init__» noKeywords IC;generalize hPI:pyIter=PI
    wp_walk
    subst hPI;erw[Da G ?_];erw[b7 (wpAny_runValue ?_)];have D:l<s.heap.objs.size:=i5 B;have hh3:A.in1.in1.in1.handled=none:=by simp[hh]
    have C:l≠(s.heap.push { cls:=.type "set",dict:=Ki,data:=.set #[] 0 (.fresh 0 0 led) }).objs.size:=by
     rw[BW]; rwa[m7 (DW D)]
    have hSf:s.heap.objs.size ∉ [(s.heap.push { cls:=.type "set",dict:=Ki,data:=.set #[] 0 (.fresh 0 0 led) }).objs.size,l]:=by
     rw[BW]; simp only[j5,e9,Bv,or_false,not_or];rwa[m7 (Ck _),DT D]
    have H:((s.heap.push { cls:=.type "set",dict:=Ki,data:=.set #[] 0 (.fresh 0 0 led) }).push { cls:=.type "list_iterator",data:=.fields #[.ref l,.int 0 0] }).get? s.heap.objs.size
       = Kh { cls:=.type "set",dict:=Ki,data:=.set #[] 0 (.fresh 0 0 led) }:=c9 _ hS
    refine Vc ((IL hh3 _ l C d).toS) s.heap.objs.size hSf ns led hv h6 (by lia) (d.size-0) 0 _ [] (by lia) (t9 _)
     ⟨⟨_,i7 _ rfl,rfl,rfl⟩,(G.push _)⟩ (by decide) (t9 _) (λx=>by simp) ⟨#[],0,H,rfl,λe he=>by simp at he⟩ λs' xs M O x2 N q=>?_
    obtain⟨g,g',d',P,S⟩:=s';have eg:g'=s.gens:=M.gens;have ed:d'=s.drawn:=M.drawn;have eo:S=s.os:=M.os;subst eg; subst ed; subst eo;show wpAny _ _ _ _ _ _;refine d9 ?_;show wpAny _ _ (ret AW) _ _ _;refine d9 ⟨rfl,g,P,xs,rfl,O,by lia,λx=>by rw[N,Ax (by lia)],q,λb o e=>?_⟩;have hb:=i5 e;have hb1:b≠s.heap.objs.size:=m7 hb;have hb2:b≠(s.heap.push { cls:=.type "set",dict:=Ki,data:=.set #[] 0 (.fresh 0 0 led) }).objs.size:=by
     rw[BW]; rwa[m7 (DW hb)]
    rwa[M.heap b o (by simp only[j5,e9,Bv,or_false,not_or]; exact⟨hb1,hb2⟩) (c9 _ (c9 _ e))]
   ·cases y with
    | error e=>rwa[f]
    | ok u =>
     cases u with
     | ret r =>
      obtain⟨rfl,g,L,xs,rfl,O,x2,N,q,Z⟩:=f
      repeat (any_goals (first | assumption | wp_step))
      rwa[h _ _ xs O x2 N q Z]
     | _=>rwa[f.elim]
  | _=>rwa[X.elim]
end
def aj : ∀{ns:List Nat}{c:List c5}(i:Nat),yW (ns.map λk=>V.int (k:Nat)) c->c[i]?=Kh v->∃(k:Nat)(t:Je),ns[i]?=Kh k/\v=.int k t
 | [],_,i,.nil,e=>by simp at e
 | n::ns,_,0,.cons ⟨t,r⟩ _,e=>⟨n,t,rfl,by rw[<- r]; simpa using e.symm⟩
 | n::ns,_,i+1,.cons _ r,e=>by
  obtain⟨k,t,f,d⟩:=aj i r (by simpa using e);exact⟨k,t,by simpa using f,d⟩
def UZ:bootBuiltins "set" = Kh (.type "set"):=by ac_nf
section
variable{X:Cx}
def fv(J:X.calm=Kj):uK X (.type "set") (λxs H Q=>E2 λ(l:b9) (ns:List Nat)=>A5 (xs=[.ref l]) (SqL X.K H l (ns.map λk=>V.int (k:Nat))) (ns.length<=3) (∀ k∈ns,k∈[1,2,3,4,5,6]) (∀(p:b9)(c:List Nat),H p=Ki->c∈ip->c.length<=3->(∀ x,x∈c↔x∈ns)->Q (.ref p) (upd H p (.ext (Yy p c (!X.w.params.followText "set-order")))))):=by
 intro P s L H xs M Q I r h;obtain⟨l,ns,rfl,G,h3,h6,q⟩:=h;obtain⟨u,rfl,ru⟩:=yW.one r;cases ru;obtain⟨E,g,D,N⟩:=I.list G;have j:=g.length;rw[b5] at j;refine cE (ns:=ns) (show X.A.handled=Ki from I.ok.hd J) D.isList (λi v e=>?_) (by rw[g6]; rwa[j.symm]) h3 h6 λO C c B z y f keep=>?_
 ·exact aj i g (by simpa using e)
 erw[.ref s.heap.objs.size,_,I.laid (t':=C) (a:=s.heap.objs.size) (o:=.ext (Yy s.heap.objs.size c (!X.w.params.followText "set-order"))) keep (f6 _) ⟨f,?_,?_⟩,rfl,q _ c (I.hok.fresh (f6 _)) B z y]
 ·obtain⟨m,n,d,_⟩:=f;rwa[_,d]
 ·intro h1 h2 ⟨m,n,d,he⟩ k;rwa[m,n,k _ d,he]
end
def pi:Slot "set_iterator" "__next__" "set_iterator.__next__" :=
 .of (owner := "set_iterator") (n := "__next__") (by rw[typeLookup_type,builtinLookup_eq_fast]; symm) (by ac_nf) (by ac_nf) (by ac_nf)
  (by first | exact .inl (by ac_nf) | exact .inr (by ac_nf)) (by rw[isSubtype_type]; symm)
def aN:entryFor table "set_iterator.__next__" = Kh Cw.«set_iterator.__next__»:=entryFor_of_tree (by symm)
def ao:Manifest.owners.lookup (String.ofList ['r','o','t','a','r','e','t','i','_','t','e','s'].reverse)=Kh Manifest.sig_set_iterator:=by symm
def XT(a:c5):argsOk "set_iterator.__next__" ⟨[a],[]⟩:=by
 unfold argsOk; rw[signature?_of (id := "set_iterator.__next__") (n:=['_','_','t','x','e','n','_','_']) (o:=['r','o','t','a','r','e','t','i','_','t','e','s']) (by symm) ao]; symm
def XI:Slot "set_iterator" "__iter__" "set_iterator.__iter__" :=
 .of (owner := "set_iterator") (n := "__iter__") (by rw[typeLookup_type,builtinLookup_eq_fast]; symm) (by ac_nf) (by ac_nf) (by ac_nf)
  (by first | exact .inl (by ac_nf) | exact .inr (by ac_nf)) (by rw[isSubtype_type]; symm)
def VO:entryFor table "set_iterator.__iter__" = Kh Cw.«dict_keyiterator.__iter__»:=entryFor_alias (id' := "dict_keyiterator.__iter__") (by symm) rfl (by ac_nf) (by symm)
def SU(a:c5):argsOk "set_iterator.__iter__" ⟨[a],[]⟩:=by
 unfold argsOk; rw[signature?_of (id := "set_iterator.__iter__") (n:=['_','_','r','e','t','i','_','_']) (o:=['r','o','t','a','r','e','t','i','_','t','e','s']) (by symm) ao]; symm
def Ug:entryFor table "set.__iter__" = Kh Cw.«frozenset.__iter__»:=entryFor_alias (id' := "frozenset.__iter__") (by symm) rfl (by ac_nf) (by symm)

def fI{d:Type}(next:Nat->Nat):∀(f k:Nat)(l:List d)(out:Array d),l.length=f->(JS next f k l out).toList.Perm (out.toList++l)
 | 0,k,l,out,h=>by
  rw[Bz.mp h,AJ];rwa[.rfl]
 | f+1,k,l,out,h=>by
  have c:next k%l.length<l.length:=Nat.mod_lt _ (by lia)
  unfold JS;rw[b8 c];dsimp only;refine(fI next f (k+1) _ _ (by rw[List.length_eraseIdx_of_lt c]; lia)).trans ?_;rw[CA,l9];erw[Al _ ?_];rw[List.singleton_append];rw[List.eraseIdx_eq_take_drop_succ];erw[FO.symm.trans ?_];rw[<- AV c,AH]
def oS(w:o9)(a:b9)(c:Array (Int×c5))(d:Nat):Array (Int×c5):=if w.params.followText "set-order" = Kj then pickOrder (w.params.setOrder a d) c else c
def qb(w:o9)(a:b9)(c:Array (Int×c5))(d:Nat):(oS w a c d).toList.Perm c.toList:=by
 unfold oS;split
 ·rwa[fI _ _ _ _ _ (by simp)]
 ·rwa[.rfl]
def tM(w:o9)(xs:List Nat)(i:Nat):Nat:=if w.params.followText "set-order" = Kj then 0 else if i=0 then 0 else xs.getD (i-1) 0+1
section
variable{prog:j9}{w:o9}{A:Ad}{E:c5->c8->Prop}{s:c8}
def aI{m:Nat}{i:Nat}{Q:Option (c5×Nat)->c8->Prop}(o:s.heap.get? a=Kh { cls:=.type "set",dict:=Ki,data:=.set d m (jQ xs (!w.params.followText "set-order")),slots:=#[] })(v:Vu d.toList xs)(f:xs∈ip)(hi:i<=xs.length)
  (h:Q (((oS w a d m)[i]?).map λe=>(e.2,tM w xs (i+1))) s):wpAny (model prog w) A (setNext a (tM w xs i) i m) Q E s:=by
 have g:d.size=xs.length:=by
  have:=congrArg z9 v.1;simpa using this
 have q:(jQ xs (!w.params.followText "set-order")).fits d.size=true:=by rw[g]; rwa[qJ _ xs f]
 unfold setNext;erw[b7 (D4 o rfl q ?_)];dsimp only;unfold setsByText;erw[b7 (b7 (Do (d9 ?_)))];show wpAny _ _ (if w.params.followText "set-order" = Kj then _ else _) _ _ _;by_cases c:w.params.followText "set-order" = Kj
 ·rw[y7 c];erw[B9 (λz=>x4 z (by simp)) (λ_=>?_)];erw[b7 ?_];unfold setWalk;erw[b7 (D4 o rfl q ?_)];dsimp only;unfold setsByText;erw[b7 (b7 (Do (d9 ?_)))];show wpAny _ _ (if w.params.followText "set-order" = Kj then _ else _) _ _ _;rw[y7 c];erw[b7 (Do (d9 (d9 ?_)))];unfold oS tM at h;unfold tM;rw[y7 c] at h ⊢;rw[y7 c] at h;rwa[h]
 ·rw[y6 c];refine B9 (λz=>x4 (show Kk=Kj from z) (by simp)) (λ_=>?_);erw[b7 ?_];erw[B9 (λz=>?_) (λ_=>d9 ?_)]
  ·have n:(!(!w.params.followText "set-order") && !d.isEmpty)=true:=z;rw[Fv.mpr c] at n;rwa[x4 n (by simp)]
  erw[d9 ?_];obtain⟨_,r,w1⟩:=lL xs f;have h6:xs.length<=6:=bZ xs f;have u:tM w xs i=if i=0 then 0 else xs.getD (i-1) 0+1:=y6 c
  have l:tM w xs (i+1)=xs.getD i 0+1:=y6 c;have y:BF xs.toArray (tM w xs i)=i:=by
   rw[u];cases i with
   | zero=>rwa[r]
   | succ j =>
    rw[y6 (by simp)];rwa[w1 j (by simp; lia) hi]
  show Q (match d[BF xs.toArray (tM w xs i)]?,xs.toArray[BF xs.toArray (tM w xs i)]? with | some (_,x),Kh j=>Kh (x,j+1) | _,_=>Ki) s;rw[y];unfold oS at h;rw[y6 c] at h;by_cases p:i<xs.length
  ·rw[t6 (by lia)] at h ⊢;rw[Gv,b8 p];rw[l,An,b8 p] at h;rwa[h]
  ·rw[CW (by lia)] at h ⊢;rwa[h]
end
section
variable{prog:j9}{w:o9}{A:Ad}{E:c5->c8->Prop}{s:c8}
abbrev Wn(w:o9)(h:Ae)(c a:b9)(xs:List Nat)(i d:Nat):Prop :=
 h.get? c=Kh { cls:=.type "set_iterator",dict:=Ki,data:=.fields #[.int (tM w xs i) 0,.int i 0,.ref a,.int xs.length 0,.int d 0],slots:=#[] }
def SK{m:Nat}{i:Nat}{Q:Option c5->c8->Prop}(f:Wn w s.heap n a xs i m)(x:s.heap.get? a=Kh { cls:=.type "set",dict:=Ki,data:=.set l m (jQ xs (!w.params.followText "set-order")),slots:=#[] })(y:Vu l.toList xs)(u:xs∈ip)(hi:i<xs.length)
  (h:∀(e:Int×c5)(r:Ae),(oS w a l m)[i]?=Kh e->Wn w r n a xs (i+1) m->BQ n s.heap r->Q (Kh e.2) { s with heap:=r }) :
  wpAny (model prog w) A (pyNext (.ref n)) Q E s:=by
 have B:s.TypeIs (.ref n) "set_iterator" :=⟨_,f,rfl⟩;have q:l.size=xs.length:=by
  have:=congrArg z9 y.1;simpa using this
 have C:(jQ xs (!w.params.followText "set-order")).fits l.size=true:=by rw[q]; rwa[qJ _ xs u]
 have v:i<(oS w a l m).size:=by
  have:=(qb w a l m).length_eq;simp at this;lia
 unfold pyNext;erw[b7 (DB (BZ (name:=CU "__next__") B pi (Ba pi B aN ?_ (XT _))))];unfold Cw.«set_iterator.__next__»;erw[b7 (d9 ?_)];erw[b7 (Di f rfl ?_)];show wpAny _ _ (setEntries a >>= _) _ _ s;erw[b7 (Ez x rfl C ?_)];rw[q];erw[B9 (λz=>x4 z (by simp)) (λ_=>?_)];show wpAny _ _ (setNext a (FY (tM w xs i:Nat)) (FY (i:Nat)) (FY (m:Nat)) >>= _) _ _ s;rw[j3,j3,j3];erw[b7 (aI x y u (by lia) ?_)];rw[t6 v];show wpAny _ _ (setField (.ref n) 0 (rawInt ((tM w xs (i+1):Nat):Int)) >>= _) _ _ s;erw[b7 (Hf f (by simp) λp j d=>?_)];refine b7 (Hf (s:={ s with heap:=p }) j (by simp) λo g c=>?_);erw[d9 ⟨_,rfl,d9 (h _ o (t6 v) ?_ (Kb d c))⟩];have e:((i+1:Nat):Int)=(i:Int)+1:=by lia
 unfold Wn; rw[e]; simpa [rawInt] using g
def QF{g:Nat}{Q:Option c5->c8->Prop}(p:A.handled=Ki)(c:Wn w s.heap e a xs xs.length g)(i:s.heap.get? a=Kh { cls:=.type "set",dict:=Ki,data:=.set d g (jQ xs (!w.params.followText "set-order")),slots:=#[] })(j:Vu d.toList xs)(h:xs∈ip)
  (r:∀ n,J2 e s.heap n->Q Ki { s with heap:=n }):wpAny (model prog w) A (pyNext (.ref e)) Q E s:=by
 have l:s.TypeIs (.ref e) "set_iterator" :=⟨_,c,rfl⟩;have f:d.size=xs.length:=by
  have:=congrArg z9 j.1;simpa using this
 have q:(jQ xs (!w.params.followText "set-order")).fits d.size=true:=by rw[f]; rwa[qJ _ xs h]
 have o:(oS w a d g).size<=xs.length:=by
  have:=(qb w a d g).length_eq;simp at this;lia
 unfold pyNext;erw[b7 (DB (BZ (name:=CU "__next__") l pi (Ba pi l aN ?_ (XT _))))];unfold Cw.«set_iterator.__next__»;erw[b7 (d9 ?_)];erw[b7 (Di c rfl ?_)];show wpAny _ _ (setEntries a >>= _) _ _ s;erw[b7 (Ez i rfl q ?_)];rw[f];erw[B9 (λz=>x4 z (by simp)) (λ_=>?_)];show wpAny _ _ (setNext a (FY (tM w xs xs.length:Nat)) (FY (xs.length:Nat)) (FY (g:Nat)) >>= _) _ _ s;rw[j3,j3,j3];erw[b7 (aI i j h (f6 _) ?_)];rw[CW o];show wpAny _ _ (setField (.ref e) 2 .none >>= _) _ _ s;erw[b7 (Dj c rfl (by simp) ?_)];show wpAny _ _ (newExc (.type "StopIteration") [] >>= _) _ _ _;erw[b7 ?_];simp only[newExc,newTuple];erw[b7 (AA ?_ (by size_fits))];refine b7 (m:=firstArgMember _ _) (Io (a:=AW) (by first | rfl | (simp only[firstArgMember]; rfl)) ?_);erw[AA ?_ (by size_fits)];simp only[raiseNew];erw[b7 (wpAny_handled ?_)];rw[show A.in1.handled=Ki from p];erw[b7 (d9 (wpAny_throw ?_))];erw[b7 (FQ (T := "StopIteration") (b:=Kj) ⟨_,i7 _ rfl,rfl⟩ isSubtype_stop ?_)];rwa[d9 (r _ (((Dx ..).extBut.push _).push _))]
end
section
variable{prog:j9}{w:o9}{A:Ad}{E:c5->c8->Prop}{s:c8}
def Rn{Q:Bool->c8->Prop}(f:s.TypeIs (.ref r) "set")(h:Q Kk s):wpAny (model prog w) A (EJ (.ref r)) Q E s:=by
 unfold EJ;erw[b7 (Iw f PySem.F.slot_set_len.lookup ?_)];generalize d:("set.__len__" : String)=e
 wp_delta
 rw[show splitId e=Kh ("set","__len__") from by subst d; ac_nf];subst d;erw[b7 (FQ (T := "set") (b:=Kj) f (by rw[isSubtype_type]; symm) ?_)];erw[B9 (λc=>x4 c (by decide)) (λ_=>?_)];erw[B9 (λ_=>?_) (λc=>x4 (by ac_nf) c)];erw[b7 (wpAny_typeOf f ?_)];rwa[d9 h]
def Ql{j:Array (Int×c5)}{n:Nat}(x:Vu j.toList xs)(p:xs∈ip):KdlSrc prog w "set" a a xs.length (λi v=>∃ e,(oS w a j n)[i]?=Kh e/\v=e.2)
  (λh=>h.get? a=Kh { cls:=.type "set",dict:=Ki,data:=.set j n (jQ xs (!w.params.followText "set-order")),slots:=#[] }) where
 type:=λs h=>⟨_,h,rfl⟩
 there:=λh e=>⟨i5 e,i5 e⟩
 keep:=λh m e k=>k a (.inl rfl) _ e
 notList:=by decide
 notTuple:=by decide
 hint:=λA E s Q h q=>Rn ⟨_,h,rfl⟩ q
 iter:=λA s D d=>by
  have l:j.size=xs.length:=by
   have:=congrArg z9 x.1;simpa using this
  have u:(jQ xs (!w.params.followText "set-order")).fits j.size=true:=by rw[l]; rwa[qJ _ xs p]
  have r:a≠s.heap.objs.size:=m7 (i5 d);refine⟨{ cls:=.type "set_iterator",dict:=Ki,data:=.fields #[.int (tM w xs 0) 0,.int (0:Nat) 0,.ref a,.int xs.length 0,.int n 0],slots:=#[] },
   λi h=>Wn w h s.heap.objs.size a xs i n/\h.get? a=Kh { cls:=.type "set",dict:=Ki,data:=.set j n (jQ xs (!w.params.followText "set-order")),slots:=#[] },λE Q q=>?_,?_,?_⟩
  ·have g:s.TypeIs (.ref a) "set" :=⟨_,d,rfl⟩;refine Fw g Gy (Ba Gy g Ug ?_ (PySem.F.args_set_iter_1 _));unfold Cw.«frozenset.__iter__» JE;refine b7 (b7 (d9 (d9 ?_)));unfold Jw;refine b7 (b7 (Ez d rfl u (d9 ?_)));unfold setDrawn;refine b7 (b7 (D4 d rfl u ?_));unfold setsByText;refine b7 (b7 (Do (d9 (d9 ?_))));refine B9 (λz=>x4 (show(!w.params.followText "set-order" && Kk)=Kj from z) (by simp)) (λ_=>b7 (d9 ?_));refine b7 (wpAny_setEpoch_of d rfl u ?_);refine b7 (AA (d9 ⟨_,rfl, "set_iterator",_,⟨_,i7 _ rfl,rfl⟩,pi.lookup,?_⟩));have I:tM w xs 0=0:=by
    unfold tM;split <;> rfl
   rw[I] at q;rw[l];rwa[q]
  ·exact {
    sub:=λb f=>by simp at f; simp[f]
    frame:=λi h m st B=>⟨B _ (by simp) _ st.1,B _ (by simp) _ st.2⟩
    item:=λi c Q E hi st y=>SK st.1 st.2 x p hi λe m H G C=>y _ m c.toks ⟨e,H,rfl⟩ ⟨G,C.extBut _ _ r st.2⟩ λb o f q=>C.extBut b o (λz=>f (by simp[z])) q
    done:=λc Q E st y=>QF D st.1 st.2 x p λm e=>y m c.toks λb o f q=>e b o (λz=>f (by simp[z])) q
    self:=λi c Q E st q=>by
     have g:c.TypeIs (.ref s.heap.objs.size) "set_iterator" :=⟨_,st.1,rfl⟩;erw[Fw g XI (Ba XI g VO ?_ (SU _))];show wpAny _ _ (ret (.ref s.heap.objs.size)) _ _ c;rwa[d9 ⟨_,rfl, "set_iterator",_,g,pi.lookup,q⟩]}
  ·rwa[i7 _ rfl,c9 _ d]
end
section
variable{X:Cx}
def eh:∀{c:List (Int×c5)},(∀ e∈c,∃ t,e.2=.int e.1 t)->CK (c.map (·.2)) (c.map (·.1))
 | [],_=>.nil
 | (k,v)::c,h=>by
  obtain⟨t,e⟩:=h _ (.head _);dsimp only at e;subst e;rwa[.cons k t (eh λe d=>h e (.tail _ d))]
def gN(S:X.calm=Kj):uK X (.builtin "sorted") (λxs H Q=>E2 λ(v:b9) (d:List Nat)=>A4 (xs=[.ref v]) (H v=Kh (.ext (Yy v d (!X.w.params.followText "set-order")))) (d∈ip) (∀ p,H p=Ki->Q (.ref p) (upd H p (.lst (d.map λk=>V.int (k:Nat)))))):=by
 intro Kl s M H xs us Q I r h;obtain⟨v,d,rfl,N,B,q⟩:=h;obtain⟨u,rfl,ru⟩:=yW.one r;cases ru;obtain⟨y,z,O,x⟩:=(show uL X.prog X.w H s.heap v (.ext (Yy v d (!X.w.params.followText "set-order"))) from I.hok v _ N).1;have h6:=bZ d B;have mv:d.length<=sizeLine:=by rw[sizeLine_eq]; lia
 have R:X.A.in1.handled=none:=I.ok.hd S;refine Du kind_sorted plain_sorted entry_sorted (args_sorted1 _) ?_;unfold Cw.«sorted»;refine b7 (m:=checkCount "sorted" 1 1 _) (d9 ?_);refine b7 (kdu_collect (Ql x B) R O mv λf l c keep g=>?_);have C:=qb X.w v y z;have Z:c.toList=(oS X.w v y z).toList.map (·.2):=by
  refine Db λj=>?_;have hs:(oS X.w v y z).size=d.length:=by
   have E:=C.length_eq;have D:=congrArg z9 x.1;simp at E D;lia
  by_cases J:j<c.size
  ·obtain⟨e,e1,e2⟩:=g.2 j c[j] (by simp[J]);rw[AL,t6 J,e2,c7,AL,e1];rfl
  ·rw[Be (by rw[j7]; lia),Be (by have:=g.1; simp; lia)]
 have T:CK c.toList ((oS X.w v y z).toList.map (·.1)):=by
  rw[Z];rwa[eh λe m=>x.2 e (C.mem_iff.mp m)]
 have P:c.toList.length=d.length:=by rw[j7]; rwa[g.1]
 refine b7 (Eh ?_ (by rw[P]; exact mv));have i:(f.push (seqObj "list" c.toList.toArray 0)).get? f.objs.size=Kh (seqObj "list" c.toList.toArray 0):=i7 _ rfl;show wpAny _ _ _ _ _ { s with heap:=f.push (seqObj "list" c.toList.toArray 0),toks:=l };refine b7 (BR (Ba slot_list_sort ⟨_,i,rfl⟩ entry_list_sort (list_sort_tree (s:={ s with heap:=f.push (seqObj "list" c.toList.toArray 0),toks:=l }) i T (by lia) λout n E D a3=>⟨_,rfl,d9 ⟨_,rfl,?_⟩⟩) (args_list_sort _)));have Y:n=d.map Ig:=by
  have p2:n.Perm (d.map Ig):=by rw[<- x.1]; rwa[D.trans (C.map _)]
  erw[p2.eq_of_pairwise (le:=(·<=·)) (λa b _ _ h1 h2=>Iv h1 h2) a3 ?_];erw[BE.mpr ((lL d B).1.imp λh=>?_)];rwa[JO.mpr (Bq h)]
 have kp:∀ b o,s.heap.get? b=Kh o->(sortedHeap (f.push (seqObj "list" c.toList.toArray 0)) f.objs.size c.toList out).get? b=Kh o:=λb o e =>
  (sortedHeap_old (m7 (i5 (keep b o e))) (i5 (c9 _ (keep b o e)))).trans (c9 _ (keep b o e))
 obtain⟨e,at'⟩:=sortedHeap_at (out:=out) i;have L:Inv X Kl M H { s with heap:=f,toks:=l }:=I.kept (t':=l) keep;have fp:=L.fpOk (H':=H) (f6 _) (L.hok.fresh (f6 _));have G:=tf E;rw[Y,Ag] at G;exact⟨.ref f.objs.size,_,(I.kept (t':=l) kp).more (o:=.lst (d.map λk=>V.int (k:Nat))) fp ⟨by rw[b5]; exact mv,out.toList,e,G,by simpa using at'⟩,rfl,q _ fp.1⟩
end
end L2

namespace Sea
def flatJ(S:BS)(j:Nat):List (List Int):=(S.notes.map λe=>yL S j e.2).flatten
structure SidesJ(H:Hp)(l:b9)(ss:List Sd)(S:BS)(j:Nat):Prop where
 mk ::
 at_:H l=Kh (.lst (zS ss))
 ok:jq H ss
 rows:ss.map (·.2)=(flatJ S j).map p3
 few:ss.length<=2*S.notes.length
end Sea

-- LAW
namespace Sea
local macro_rules | `(tactic| ac_rfl) => `(tactic| exact ⟨rfl, rfl, rfl, by decide +kernel, rfl, by decide +kernel, by decide +kernel⟩)
structure Zs(mg:j4->Option c5):Prop where
 abs:mg "abs" = Ki
 all:mg "all" = Ki
 dict:mg "dict" = Ki
 int:mg "int" = Ki
 len:mg "len" = Ki
 list:mg "list" = Ki
 max:mg "max" = Ki
 min:mg "min" = Ki
 range:mg "range" = Ki
 set:mg "set" = Ki
 sorted:mg "sorted" = Ki
 sum:mg "sum" = Ki
 tuple:mg "tuple" = Ki
def yE:zI ["numbers","shared","number","rest","smaller"] ["numbers"] (zF wF):=by ac_rfl
def mG:zI ["numbers","shared"] ["numbers"] (zF ww):=by ac_rfl
def gY:zI ["numbers"] ["numbers"] (zF qX):=by ac_rfl
def WS:zI ["x","y","w"] ["x","y","w"] (zF nW):=by ac_rfl
def jR:zI ["one","other","east"] ["one","other"] (zF uu):=by ac_rfl
def sW:zI ["ones","others","told","taken","other"] ["ones","others"] (zF xg):=by ac_rfl
def ua:zI ["spots","middle"] ["spots"] (zF tH):=by ac_rfl
def WI:zI ["one","other"] ["one","other"] (zF nC):=by ac_rfl
def ZL:zI ["one","other"] ["one","other"] (zF si):=by ac_rfl
def mT:zI ["side"] ["side"] (zF vW):=by ac_rfl
def cW:zI ["side","spot"] ["side","spot"] (zF xj):=by ac_rfl
def ZR:zI ["side","spot"] ["side","spot"] (zF rj):=by ac_rfl
def tQ:zI ["one","other","w","x","y"] ["one","other"] (zF rB):=by ac_rfl
def bw:zI ["side","x","y"] ["side","x","y"] (zF wn):=by ac_rfl
def uR:zI ["place","one","other","first","second"] ["place","one","other"] (zF wN):=by ac_rfl
def mi:zI ["left","right"] ["left","right"] (zF tE):=by ac_rfl
def tw:zI ["sides","place","side"] ["sides","place"] (zF rF):=by ac_rfl
def YQ:zI ["side"] ["side"] (zF nR):=by ac_rfl
def xS:zI ["sides","edge","hand","found","place","number","side"] ["sides","edge","hand"] (zF rE):=by ac_rfl
def vp:zI ["sides","edge","numbers"] ["sides","edge"] (zF tX):=by ac_rfl
def rX:zI ["sides","edge","place"] ["sides","edge"] (zF wX):=by ac_rfl
def zx:zI ["sides","place","number"] ["sides"] (zF wk):=by ac_rfl
def rK:zI ["sides","found","edge","place"] ["sides"] (zF zz):=by ac_rfl
def WL:zI ["direction"] ["direction"] (zF nX):=by ac_rfl
def oC:zI ["numbers","weights","least"] ["numbers","weights"] (zF qZ):=by ac_rfl
def yJ:zI ["sides","last","edge","numbers","one","other","weights"] ["sides","last"] (zF wA):=by ac_rfl
def qD:zI ["sides","last","edge","number","side"] ["sides"] (zF qz):=by ac_rfl
def oU:zI [] [] (zF uN):=by ac_rfl
def oy:zI ["state","kind","key","value","fresh"] ["state","kind","key","value"] (zF qR):=by ac_rfl
def oB:zI ["state","kind","key","fresh"] ["state","kind","key"] (zF qV):=by ac_rfl
def cV:zI ["numbers","most"] ["numbers","most"] (zF wg):=by ac_rfl
def mq:zI ["name"] ["name"] (zF tF):=by ac_rfl
def lB:zI ["state","kind","name"] ["state","kind","name"] (zF vT):=by ac_rfl
def nq:zI ["place"] ["place"] (zF uP):=by ac_rfl
def kR:zI ["run"] ["run"] (zF tS):=by ac_rfl
def kF:zI ["state","kind"] ["state","kind"] (zF vR):=by ac_rfl
def kG:zI ["state","name"] ["state","name"] (zF vZ):=by ac_rfl
def pJ:zI ["moment","runs"] ["moment","runs"] (zF uA):=by ac_rfl
def ju:zI ["direction"] ["direction"] (zF tV):=by ac_rfl
def oR:zI ["state","left","right"] ["state","left","right"] (zF uT):=by ac_rfl
def sN:zI ["state","row","name","place"] ["state","row"] (zF vQ):=by ac_rfl
def yw:zI ["state","row","run"] ["state","row"] (zF vP):=by ac_rfl
def yj:zI ["state","row","fresh"] ["state","row"] (zF tD):=by ac_rfl
def qo:zI ["state","row"] ["state","row"] (zF wI):=by ac_rfl
def nh:zI ["state","row"] ["state","row"] (zF uS):=by ac_rfl
def qK:zI ["state","row","number"] ["state","row"] (zF uD):=by ac_rfl
def Ze:zI ["state","row"] ["state","row"] (zF um):=by ac_rfl
def gU:zI ["groups","place"] ["groups","place"] (zF qT):=by ac_rfl
def yF:zI ["groups","sides","group","places","number","other","place"] ["groups"] (zF wG):=by ac_rfl
def yY:zI ["groups","shown","place","least","told","choice"] ["groups"] (zF wT):=by ac_rfl
def fU:zI ["groups"] ["groups"] (zF qS):=by ac_rfl
def wW:zI ["book","one","other","runs","between","hand"] ["book","one","other"] (zF uQ):=by ac_rfl
def tL:zI ["book","places","mark"] ["book"] (zF uZ):=by ac_rfl
def iD:zI ["note","places"] ["note","places"] (zF rL):=by ac_rfl
def xH:zI ["book","moment","places","groups","pair","note","way"] ["book","moment"] (zF vA):=by ac_rfl
def sY:zI ["book","moment","sides","group"] ["book","moment"] (zF vX):=by ac_rfl
def pB:zI ["book","moment"] ["book","moment"] (zF uE):=by ac_rfl
def pI:zI ["book"] ["book"] (zF wY):=by ac_rfl
def xU:zI ["book","owners","numbers","groups","at"] ["book"] (zF vB):=by ac_rfl
def sC:zI ["book","told","owners"] ["book"] (zF vV):=by ac_rfl
def qE:zI ["book","numbers"] ["book"] (zF uC):=by ac_rfl
def ZF:zI ["_law_number"] ["_law_number"] (zF re):=by ac_rfl
def wM:zI ["_law_script","_law_many","_law_rows","_law_mix","_law_cell","_law_rest"] ["_law_script","_law_many"] (zF rm):=by ac_rfl
def Um:zI [] [] (zF iO):=by ac_rfl
def lC:zI ["_law_m","_law_one","_law_other","_law_steps","_law_sign"] ["_law_m","_law_one","_law_other"] (zF nT):=by ac_rfl
def nQ:zI ["_law_one","_law_two","_law_wide","_law_x","_law_y"] ["_law_one","_law_two","_law_wide"] (zF iS):=by ac_rfl
def cA:zI ["_law_one","_law_other"] ["_law_one","_law_other"] (zF wf):=by ac_rfl
def xW:zI ["_law_d","_law_wide","_law_one","_law_other"] ["_law_d","_law_wide"] (zF tU):=by ac_rfl
def zZ:zI ["_law_d","_law_m","_law_moment","_law_mark","_law_x","_law_y","_law_dx","_law_dy","_law_p","_law_q","_law_by","_law_one","_law_other"] ["_law_d","_law_m","_law_moment","_law_mark","_law_x","_law_y"] (zF uF):=by ac_rfl
def zW:zI ["_law_some","_law_names_here","_law_x","_law_y","_law_m","_law_deeds","_law_k","_law_known","_law_d","_law_moment","_law_one","_law_other","_law_deed"] ["_law_some","_law_names_here"] (zF vU):=by ac_rfl
def xI:zI ["_law_some","_law_many","_law_letters","_law_rows","_law_at","_law_raw","_law_size","_law_step","_law_word","_law_place","_law_k","_law_sign"] ["_law_some","_law_many"] (zF uj):=by ac_rfl
def sI:zI ["_law_script","_law_some","_law_deeds","_law_book","_law_other","_law_deed","_law_known","_law_gone","_law_number","_law_left","_law_note","_law_moment"] ["_law_script"] (zF cK):=by ac_rfl
def Xq:zI ["self"] ["self"] (zF nV):=by ac_rfl
def cC:zI ["self","number"] ["self","number"] (zF xi):=by ac_rfl
def kL:zI ["self","row","number","fresh"] ["self","row"] (zF nM):=by ac_rfl
def du:zI ["self","taken","given","pair"] ["self","taken","given"] (zF nO):=by ac_rfl
def Yn:zI ["self"] ["self"] (zF nF):=by ac_rfl
def YY:zI ["self"] ["self"] (zF nJ):=by ac_rfl
def jb:zI ["self","places"] ["self"] (zF sr):=by ac_rfl
def gJ:zI ["self","runs"] ["self"] (zF ng):=by ac_rfl
def ZI:zI ["self"] ["self"] (zF sy):=by ac_rfl
def cQ:zI ["self"] ["self"] (zF wt):=by ac_rfl
def zr:b9:=376
def bkC:b9:=766
def QM:b9:=427
def QX:List (Key×V):=[(.inr "marks",.int 20),(.inr "banks",.int 8),(.inr "runs",.int 12),(.inr "notes",.int 24)]
def Tu:b9:=592
def TL:List (Key×V):=[(.inr "mark",.ref 521),(.inr "move",.ref 528),(.inr "unmark",.ref 535),(.inr "bank",.ref 542),(.inr "level",.ref 549),(.inr "sail",.ref 556),(.inr "right",.ref 563),(.inr "bearing",.ref 577),(.inr "range",.ref 584),(.inr "strike",.ref 591)]
def cH:b9:=613
def mF:b9:=683
def iF:b9:=690
def iq:b9:=697
def dN:b9:=704
def cu:b9:=711
def gq:b9:=737
def lU:b9:=749
def qk:b9:=756
def qj:b9:=763
structure Cb(P:j9)(w:o9)(mg:j4->Option c5)(base:Ae):Prop where
 state:InB base λK=>Cls K bkC/\vx K bkC "state"
 past:InB base λK=>Cls K bkC/\vx K bkC "past"
 later:InB base λK=>Cls K bkC/\vx K bkC "later"
 m_strike:InB base λK=>Cls K bkC/\Yv K bkC "strike" mF
 m_deed:InB base λK=>Cls K bkC/\Yv K bkC "deed" iF
 m_step:InB base λK=>Cls K bkC/\Yv K bkC "step" iq
 m_undo:InB base λK=>Cls K bkC/\Yv K bkC "undo" dN
 m_redo:InB base λK=>Cls K bkC/\Yv K bkC "redo" cu
 m_marks:InB base λK=>Cls K bkC/\Yv K bkC "marks" gq
 m_runs:InB base λK=>Cls K bkC/\Yv K bkC "runs" lU
 m_notes:InB base λK=>Cls K bkC/\Yv K bkC "notes" qk
 m_coming:InB base λK=>Cls K bkC/\Yv K bkC "coming" qj
 make:InB base λK=>Mk K bkC cH
 gBook:mg "Book" = Kh (.ref bkC)
 dMOST:RV P w base QM QX
 gMOST:mg "MOST" = Kh (.ref QM)
 dAFTER:RV P w base Tu TL
 gAFTER:mg "AFTER" = Kh (.ref Tu)
 LONGEST_NAME:∃ k,mg "LONGEST_NAME" = Kh (.int 8 k)
 FARTHEST:∃ k,mg "FARTHEST" = Kh (.int 1000 k)
 LONGEST_WAY:∃ k,mg "LONGEST_WAY" = Kh (.int 100 k)
 t_mark:mg "after_mark" = Kh (.ref 521)
 t_sail:mg "after_sail" = Kh (.ref 556)
 t_bearing:mg "after_bearing" = Kh (.ref 577)
 t_range:mg "after_range" = Kh (.ref 584)
 t_strike:mg "after_strike" = Kh (.ref 591)
 e_NoMoment:J7 "NoMoment" zr bmV "ValueError.__new__" mg base
set_option hygiene false in
local macro_rules | `(tactic| fail) => `(tactic| first | (with_reducible first | exact uX | exact zL) | ((with_reducible apply QZ); exact rfl; fail; fail) | (with_reducible first | exact yC | exact ff | exact oF) | ((with_reducible apply Pz); first | ((with_reducible apply m_nm "dict"); exact pe_bltn (v := .ty "dict") rfl Z.dict iX rfl) | ((with_reducible apply m_nm "int"); exact pe_bltn (v := .ty "int") rfl Z.int Tc rfl) | ((with_reducible apply m_nm "list"); exact pe_bltn (v := .ty "list") rfl Z.list pP rfl) | ((with_reducible apply m_nm "tuple"); exact pe_bltn (v := .ty "tuple") rfl Z.tuple iA rfl) | exact pv 0 | exact pv 1 | exact pv 2 | exact pv 3 | exact pv 4 | exact pv 5 | exact pv 6 | exact pv 7 | exact pv 8 | exact pv 9 | exact pv 10 | exact pv 11 | exact pv 12) | ((with_reducible apply m_sub); first | ((with_reducible apply wq Yd); fail; fail; fail) | ((with_reducible apply m_ix); exact λ_ _ => rfl; fail; fail)) | ((with_reducible apply m_bin); (with_reducible first | apply tT aK | apply tT To | apply tT fz | apply tT Uc | apply tT UT | apply tT PR); fail; fail) | ((with_reducible apply Pk); first | ((with_reducible apply m_own); (with_reducible assumption); exact ⟨rfl, rfl, rfl, rfl, rfl⟩; exact hr.mono (by decide); exact rfl; decide; exact rfl; exact rfl; fail) | ((first | ((with_reducible apply cG UI Qq); exact Z.abs) | ((with_reducible apply cG (mW rfl) Wj); exact Z.all) | ((with_reducible apply cG rC sk); exact Z.len) | ((with_reducible apply cG (XM rfl) Qv); exact Z.max) | ((with_reducible apply cG (WQ rfl) TR); exact Z.min) | ((with_reducible apply cG call_sortedT sX); exact Z.sorted) | ((with_reducible apply cG (yx rfl) eW); exact Z.sum) | ((with_reducible apply PX lK iX); exact Z.dict) | ((with_reducible apply PX Xx Tc); exact Z.int) | ((with_reducible apply PX fW pP); exact Z.list) | ((with_reducible apply PX (fv rfl) UZ); exact Z.set) | ((with_reducible apply PX uo iA); exact Z.tuple)); exact rfl; decide; decide; exact rfl; exact rfl; fail)) | ((with_reducible first | apply ji | apply XW | apply pe_un Qn | apply pe_not); fail) | ((with_reducible apply m_cmp); (with_reducible first | apply rR SF | apply rR SB | apply rR Vv | apply rR Vz | apply rR VE | apply rR Sx | apply rR Tx | apply rR Yo); fail; fail; exact vC _) | ((with_reducible apply Po); (with_reducible first | apply yK SF | apply yK SB | apply yK Vv | apply yK Vz | apply yK VE | apply yK Sx | apply yK Tx | apply yK Yo); fail; fail; exact vC _) | ((with_reducible first | apply SX | apply YJ | apply jO); fail) | ((with_reducible first | apply Th | apply cS); fail; fail) | ((with_reducible first | apply dH | apply pe_one); fail) | ((with_reducible first | apply pe_and | apply pe_or); fail; fail) | ((with_reducible apply ak); fail; fail; fail) | with_reducible exact vh | ((with_reducible apply yd); fail) | ((with_reducible apply m_val); exact λ_ => rfl; fail))
set_option hygiene false in
local macro_rules | `(tactic| specialize $e) => `(tactic| refine F.ok $e (λvs H Q E h => ?_) (λcdv A outer s H vs Q E hr h => ?_))
def ZT : (assignEach [.Name x p,.Name y q] e).length=2:=rfl
def Zy : (assignEach [.Name x p,.Name y q,.Name z r] e).length=3:=rfl
local macro_rules | `(tactic| nofun) => `(tactic| ((any_goals fail); try dsimp only [L2.cxOf, L2.cxComp, L2.Cx.nox, ZT, Zy]))
section
variable{P:j9}{w:o9}{mg:j4->Option c5}{base:Ae}{f:b9}{fd:AZ}
def rJ(K:b6):Sp:=λc H Q _=>E2 λ(a:b9) (ns:List Int)=>A3 (c=[.ref a]) (Sq K H a (ns.map V.int)) (Q (.int (yR ns)) H)
def qu(F:Fun K "common_factor" "common_factor" wF f fd)(Z:Zs mg):yS P w K mg base CX0 1 f fd ["numbers"] (rJ K):=by
 specialize yE
 ·obtain⟨a,ns,rfl,_⟩:=h;rfl
 obtain⟨a,ns,rfl,o,q⟩:=h
 refine'⟨_,(zB (zO 1 yE.nd uX)
   (zB (xL m8 rfl (yQ (pv 0)) (wO 2 yE.nd) (zB (zO 3 yE.nd ?_)
   (zD (nS m8 ?_ (zB (zO 4 yE.nd ?_)
   (zB (zO 1 yE.nd (pv 3))
   (zD (zO 3 yE.nd (pv 4)))))))))
   (zD (zM (pv 1))))),?_⟩
 nofun
 have mono:∀(c:St)(H:Hp)(Q B:Bool->Hp->Prop),(∀ b l,Q b l->B b l)->Vj (tOp rNe (RY 3) (tC (.int 0))) c H Q->Vj (tOp rNe (RY 3) (tC (.int 0))) c H B:=λc H Q B G z=>by
  obtain⟨v,C,D,k,I,z⟩:=z;rwa[v,C,D,k,I,G _ _ z]
 rcases o with o | o
 ·erw[_,rfl,a,rfl,.inl ⟨⟨_,o⟩,xD (K:=K) (a:=a) (xs:=ns.map V.int) (λi c j=>j=H/\E3 λ(u v z:Option V)=>c=[Kh (.ref a),Kh (.int (yR (ns.take i))),u,v,z]) ⟨rfl,Ki,Ki,Ki,rfl⟩ (λi c j _ m=>by obtain⟨e,_⟩:=m; rw[e]; rwa[o]) ?_ ?_⟩]
  ·rintro i x c j hi ⟨rfl,u,v,z,rfl⟩;obtain⟨n,p,rfl⟩:=uI hi;exists _,U,n,rfl;refine sj (λc l=>l=j/\E3 λ(g r:Int) (y:Option V)=>A4 (c=[Kh (.ref a),Kh (.int g),Kh (.int n),Kh (.int r),y]) (0<=g) (0<=r) (Ab g.toNat r.toNat=yR (ns.take (i+1))))
    (λc _=>match c with | [_,_,_,Kh (.int r),_]=>r.toNat | _=>0) ⟨rfl,_,_,_,rfl,Co _,by split <;> lia,?_⟩ ?_ mono
   ·rw[xK p,eK,TM]; rfl
   ·rintro c l ⟨rfl,g,r,y,rfl,h1,h2,h3⟩;exists _,U,U,_,rfl;erw[Ou (λd=>?_) (λd=>?_)]
    ·refine⟨_,U,_,U,_,_,U,U,(by show(0:Int)<r; lia),_,rfl,_,rfl,⟨rfl,_,_,_,rfl,h2,AB g d,?_⟩,?_⟩
     ·rw[ae h1 (by lia)]; rwa[h3]
     ·have h4:=Ah g (show 0<r by lia);show(g%r).toNat<r.toNat;lia
    ·subst d;have h5:g=((yR (ns.take (i+1)):Nat):Int):=by
      rw[<- h3];show g=((Ab g.toNat 0:Nat):Int);rw[Hg];lia
     rwa[rfl,Kh (.int n),Kh (.int 0),y,by rw[h5]]
  ·rintro c j ⟨rfl,u,v,z,rfl⟩;exists _,rfl;rw[b5,i8];rwa[q]
 ·erw[_,rfl,a,rfl,.inr ⟨⟨_,o⟩,Rl (K:=K) (a:=a) (xs:=ns.map V.int) (λi c j=>j=H/\E3 λ(u v z:Option V)=>c=[Kh (.ref a),Kh (.int (yR (ns.take i))),u,v,z]) ⟨rfl,Ki,Ki,Ki,rfl⟩ (λi c j _ m=>by obtain⟨e,_⟩:=m; rw[e]; rwa[o]) ?_ ?_⟩]
  ·rintro i x c j hi ⟨rfl,u,v,z,rfl⟩;obtain⟨n,p,rfl⟩:=uI hi;exists _,U,n,rfl;refine sj (λc l=>l=j/\E3 λ(g r:Int) (y:Option V)=>A4 (c=[Kh (.ref a),Kh (.int g),Kh (.int n),Kh (.int r),y]) (0<=g) (0<=r) (Ab g.toNat r.toNat=yR (ns.take (i+1))))
    (λc _=>match c with | [_,_,_,Kh (.int r),_]=>r.toNat | _=>0) ⟨rfl,_,_,_,rfl,Co _,by split <;> lia,?_⟩ ?_ mono
   ·rw[xK p,eK,TM]; rfl
   ·rintro c l ⟨rfl,g,r,y,rfl,h1,h2,h3⟩;exists _,U,U,_,rfl;erw[Ou (λd=>?_) (λd=>?_)]
    ·refine⟨_,U,_,U,_,_,U,U,(by show(0:Int)<r; lia),_,rfl,_,rfl,⟨rfl,_,_,_,rfl,h2,AB g d,?_⟩,?_⟩
     ·rw[ae h1 (by lia)]; rwa[h3]
     ·have h4:=Ah g (show 0<r by lia);show(g%r).toNat<r.toNat;lia
    ·subst d;have h5:g=((yR (ns.take (i+1)):Nat):Int):=by
      rw[<- h3];show g=((Ab g.toNat 0:Nat):Int);rw[Hg];lia
     rwa[rfl,Kh (.int n),Kh (.int 0),y,by rw[h5]]
  ·rintro c j ⟨rfl,u,v,z,rfl⟩;exists _,rfl;rw[b5,i8];rwa[q]
def vK(K:b6):Sp:=λd H Q _=>E2 λ(a:b9) (ns:List Int)=>A6 (d=[.ref a]) (Sq K H a (ns.map V.int)) (ns.length<=1000) (0<yR ns) ((yR ns:Int)<10^600) (∀(p:b9)(c:Hp),Same H c->H p=Ki->c p=Kh (.tup ((qH ns).map V.int))->Q (.ref p) c)
def dM(F:Fun K "lowest" "lowest" ww f fd)(Z:Zs mg)(I:Cb P w mg base)(C:Has P w K mg base "common_factor" 1 ["numbers"] (rJ K)):yS P w K mg base CX0 2 f fd ["numbers"] (vK K):=by
 specialize mG
 ·obtain⟨a,ns,rfl,_⟩:=h;rfl
 obtain⟨a,ns,rfl,m,z,G,r,q⟩:=h
 refine'⟨_,(zB (zO 1 mG.nd ?_)
   (zD (zM (uY uo rfl Z.tuple iA (zG (yP (T:=["number"]) (caps:=[("shared",1)]) ⟨rfl,by ac_nf,by ac_nf,rfl,⟨⟨rfl,rfl,BD rfl⟩,x8⟩⟩ rfl (yQ (pv 0)) (λ_=>(wO 0 (show(["number","shared"]:List j4).Nodup by ac_nf))) (λ_=>yD) (λ_=>?_)) zL))))),?_⟩
 nofun
 exists _,U,a,ns,U,m;have v:∀(D:b9)(d:Hp),H D=Ki->Same H d->d D=Kh (.lst ((qH ns).map V.int))->∀ l,d l=Ki->Q (.ref l) (upd d l (.tup ((qH ns).map V.int))):=λD d o B e l z =>
  q l _ (B.trans (zC z _)) (B.free z) zA
 have len:∀ i,((ns.take i).map λn=>V.int (n/(yR ns:Int))).length<sizeLine:=λi=>zJ (by rw[b5,g8]; lia);rcases m with m | m
 ·refine⟨_,U,a,U,.inl ⟨⟨_,m⟩,λc D o=>yG (K:=K) (a:=a) (xs:=ns.map V.int) (λi j g d=>A3 (d=upd H D (.lst g)) (g=(ns.take i).map (λn=>V.int (n/(yR ns:Int)))) (∃ u,j=[u,Kh (.int (yR ns))]))
   ⟨rfl,rfl,Ki,rfl⟩ (λi j g d _ p=>by obtain⟨e,_⟩:=p; rw[e]; rwa[(zC o _).seq m,zA]) ?_ ?_⟩⟩
  ·rintro i x j g d hi ⟨rfl,rfl,u,rfl⟩;obtain⟨n,y,rfl⟩:=uI hi;exists _,U,_,U,_,_,U,U,qa.of (by lia) r,zA,len i;erw[ve,?_,_,rfl];rw[xK y,d5];rfl
  ·rintro j g d ⟨rfl,rfl,u,rfl⟩;rw[b5,i8];have e:(ns.map λn=>V.int (n/(yR ns:Int)))=(qH ns).map V.int:=by unfold qH; rw[Ag]; rfl
   rw[e];rwa[D,_,rfl,.inl ⟨SqL.of zA,v D _ o (zC o _) zA⟩]
 ·refine⟨_,U,a,U,.inr ⟨⟨_,m⟩,λc D o=>lW (K:=K) (a:=a) (xs:=ns.map V.int) (λi j g d=>A3 (d=upd H D (.lst g)) (g=(ns.take i).map (λn=>V.int (n/(yR ns:Int)))) (∃ u,j=[u,Kh (.int (yR ns))]))
   ⟨rfl,rfl,Ki,rfl⟩ (λi j g d _ p=>by obtain⟨e,_⟩:=p; rw[e]; rwa[SqT.same m (zC o _),zA]) ?_ ?_⟩⟩
  ·rintro i x j g d hi ⟨rfl,rfl,u,rfl⟩;obtain⟨n,y,rfl⟩:=uI hi;exists _,U,_,U,_,_,U,U,qa.of (by lia) r,zA,len i;erw[ve,?_,_,rfl];rw[xK y,d5];rfl
  ·rintro j g d ⟨rfl,rfl,u,rfl⟩;rw[b5,i8];have e:(ns.map λn=>V.int (n/(yR ns:Int)))=(qH ns).map V.int:=by unfold qH; rw[Ag]; rfl
   rw[e];rwa[D,_,rfl,.inl ⟨SqL.of zA,v D _ o (zC o _) zA⟩]
def yp(K:b6):Sp:=λd H Q _=>E3 λ(a:b9) (ns:List Int) (l:Int)=>A8 (d=[.ref a]) (Sq K H a (ns.map V.int)) (ns.length<=1000) (atI (ns.map V.int) (-1)=Kh (.int l)) (l∈ns) (l≠0) (l.natAbs<10^500) (∀(p:b9)(c:Hp),Same H c->H p=Ki->c p=Kh (.tup ((qH (if l<0 then ns.map (λn=>-n) else ns)).map V.int))->Q (.ref p) c)
def gT(F:Fun K "upright" "upright" qX f fd)(Z:Zs mg)(Y:Cb P w mg base)(z:Has P w K mg base "lowest" 2 ["numbers"] (vK K)):yS P w K mg base CX0 3 f fd ["numbers"] (yp K):=by
 specialize gY
 ·obtain⟨a,ns,l,rfl,_⟩:=h;rfl
 obtain⟨a,ns,l,rfl,o,O,I,N,h0,X,q⟩:=h
 refine'⟨_,(zB (xJ ?_ (zD (zM (yX z (hr.mono (by decide)) rfl (zG (yP (T:=["number"]) (caps:=[]) ⟨rfl,by ac_nf,by ac_nf,rfl,x8⟩ rfl (yQ (pv 0)) (λ_=>(wO 0 (show(["number"]:List j4).Nodup by ac_nf))) (λ_=>yD) (λ_=>?_)) zL)))) zU)
   (zD (zM ?_))),?_⟩
 nofun
 exists _,U,_,U,a,_,_,_,U,U,o,I,_,_,U,U,_,rfl;have R:0<yR ns:=wJ N h0;have S:(yR ns:Int)<10^600:=by
  have h1:=pA N h0;have h2:(10:Nat)^500<10^600:=by ac_nf
  have h3:((10:Int)^600)=((10^600:Nat):Int):=by rw[Int.natCast_pow]; rfl
  rw[h3];lia
 erw[ifD (λj=>?_) (λj=>?_)]
 ·have len:∀ i,((ns.take i).map λn=>V.int (-n)).length<sizeLine:=λi=>zJ (by rw[b5,g8]; lia);have y:∀(D:b9)(d:Hp),H D=Ki->Same H d->d D=Kh (.lst ((ns.map λn=>-n).map V.int))->vK K [.ref D] d Q E0:=λD d r M e=>by
   erw[D,ns.map λn=>-n,rfl,.inl (SqL.of e),by rw[b5]; exact O,by rw[av]; exact R,by rw[av]; exact S,λp L B C J=>?_];rwa[q p L (M.trans B) (M.free C) (by rw[y7 j]; exact J)]
  rcases o with o | o
  ·refine⟨_,U,a,U,.inl ⟨⟨_,o⟩,λc D r=>yG (K:=K) (a:=a) (xs:=ns.map V.int) (λi m g d=>A3 (d=upd H D (.lst g)) (g=(ns.take i).map (λn=>V.int (-n))) (∃ u,m=[u]))
    ⟨rfl,rfl,Ki,rfl⟩ (λi m g d _ v=>by obtain⟨e,_⟩:=v; rw[e]; rwa[(zC r _).seq o,zA]) ?_ ?_⟩⟩
   ·rintro i x m g d hi ⟨rfl,rfl,u,rfl⟩;obtain⟨n,G,rfl⟩:=uI hi;exists _,U,_,U,zA,len i;erw[ve,?_,_,rfl];rw[xK G,d5];rfl
   ·rintro m g d ⟨rfl,rfl,u,rfl⟩;rw[b5,i8];have e:(ns.map λn=>V.int (-n))=(ns.map λn=>-n).map V.int:=by rw[Ag]; rfl
    rw[e];rwa[y D _ r (zC r _) zA]
  ·refine⟨_,U,a,U,.inr ⟨⟨_,o⟩,λc D r=>lW (K:=K) (a:=a) (xs:=ns.map V.int) (λi m g d=>A3 (d=upd H D (.lst g)) (g=(ns.take i).map (λn=>V.int (-n))) (∃ u,m=[u]))
    ⟨rfl,rfl,Ki,rfl⟩ (λi m g d _ v=>by obtain⟨e,_⟩:=v; rw[e]; rwa[SqT.same o (zC r _),zA]) ?_ ?_⟩⟩
   ·rintro i x m g d hi ⟨rfl,rfl,u,rfl⟩;obtain⟨n,G,rfl⟩:=uI hi;exists _,U,_,U,zA,len i;erw[ve,?_,_,rfl];rw[xK G,d5];rfl
   ·rintro m g d ⟨rfl,rfl,u,rfl⟩;rw[b5,i8];have e:(ns.map λn=>V.int (-n))=(ns.map λn=>-n).map V.int:=by rw[Ag]; rfl
    rw[e];rwa[y D _ r (zC r _) zA]
 ·erw[_,rfl,a,ns,rfl,o,O,R,S,λp L B C J=>?_];rwa[q p L B C (by rw[y6 j]; exact J)]
def uh(K:b6):Sp:=λd H Q _=>E3 λ(X Y W:Int)=>A4 (d=[.int X,.int Y,.int W]) (W≠0) (W.natAbs<10^500) (∀(p:b9)(c:Hp),Same H c->H p=Ki->c p=Kh (.tup ((qH (upL X Y W)).map V.int))->Q (.ref p) c)
def Xr(F:Fun K "spot" "spot" nW f fd)(Z:Zs mg)(n:Cb P w mg base)(g:Has P w K mg base "upright" 3 ["numbers"] (yp K)):yS P w K mg base CX0 4 f fd ["x","y","w"] (uh K):=by
 specialize WS
 ·obtain⟨X,Y,W,rfl,_⟩:=h;rfl
 obtain⟨X,Y,W,rfl,j,c,q⟩:=h
 refine'⟨_,(zD (zM ?_)),?_⟩
 nofun
 refine⟨_,U,_,U,_,U,sz3,λp e=>⟨p,[X,Y,W],W,U,.inr (SqT.of zA),by show 3<=1000; decide,rfl,by simp,j,c,λr m i d l=>?_⟩⟩;rwa[q r m ((zC e _).trans i) ((zC e _).free d) l]
def cB{i j:Int}(hi:i.natAbs<=10^100)(c:j.natAbs<=10^100):Xg i j:=Xg.of hi c
def Yx(H:Hp)(t:SpT):Prop:=H t.1=Kh (.tup [.int t.2.1,.int t.2.2.1,.int t.2.2.2])/\t.2.1.natAbs<=10^100/\t.2.2.1.natAbs<=10^100/\t.2.2.2.natAbs<=10^100
def Yx.same{H c:Hp}(h:Yx H t)(e:Same H c):Yx c t:=⟨e _ _ h.1,h.2⟩
def wu(K:b6):Sp:=λc H Q _=>E2 λ(s t:SpT)=>A4 (c=[.ref s.1,.ref t.1]) (Yx H s) (Yx H t) (Q (.bl (ahB s t)) H)
def Zg(F:Fun K "ahead" "ahead" uu f fd)(Z:Zs mg)(z:Cb P w mg base)  : yS P w K mg base CX0 1 f fd ["one","other"] (wu K):=by
 specialize jR
 ·obtain⟨s,t,rfl,_⟩:=h;rfl
 obtain⟨⟨a,l,i,w1⟩,⟨b,j,g,d⟩,rfl,⟨r,y,x,o⟩,⟨p,v,u,n⟩,q⟩:=h
 refine'⟨_,(zB (zO 2 jR.nd (tT To (tT ix ?_ ?_) (tT ix ?_ ?_)))
   (zB (xJ ?_ (zD (zM ?_)) zU)
   (zD (zM (rR Vv (tT ix ?_ ?_) (tT ix ?_ ?_) (vC _)))))),?_⟩
 nofun
 have c:Sq K H a [.int l,.int i,.int w1]:=.inr (SqT.of r);have m:Sq K H b [.int j,.int g,.int d]:=.inr (SqT.of p);exists _,U,a,_,_,.int l,U,U,c,U,_,U,b,_,_,.int d,U,U,m,U,_,_,U,U,cB y n,_,U,b,_,_,.int j,U,U,m,U,_,U,a,_,_,.int w1,U,U,c,U,_,_,U,U,cB v o,_,_,U,rfl;exists _,U,U,_,rfl;erw[Ou (λh=>?_) (λh=>?_)]
 ·have e:ahB (a,l,i,w1) (b,j,g,d)=decide (l*d-j*w1<0):=y6 h;rw[e] at q;rwa[_,rfl,_,_,rfl,rfl,q]
 ·have e:ahB (a,l,i,w1) (b,j,g,d)=decide (i*d<g*w1):=y7 h;rw[e] at q;rwa[_,rfl,a,_,_,.int i,rfl,rfl,c,rfl,_,rfl,b,_,_,.int d,rfl,rfl,m,rfl,_,_,rfl,rfl,cB x n,_,rfl,b,_,_,.int g,rfl,rfl,m,rfl,_,rfl,a,_,_,.int w1,rfl,rfl,c,rfl,_,_,rfl,rfl,cB u o,_,_,rfl,rfl,q]
def Rx{sp:Sp}{E:XK}(j:∀ (d:List V) (H:Hp) (Q e:VK),(∀ v g,Q v g->e v g)->sp d H Q E->sp d H e E)(i:Ye t):jy (Zt sp c E t):=λh _ _ _ l z=>i h _ _ _ (λ_ _ z=>j _ _ _ _ l z) z
def Yz{K:b6} : ∀(d:List V)(H:Hp)(Q e:VK),(∀ v g,Q v g->e v g)->wu K d H Q E0->wu K d H e E0:=λ_ _ _ _ h ⟨s,t,a,b,c,z⟩=>⟨s,t,a,b,c,h _ _ z⟩
def yU(c:List SpT):List V:=c.map λt=>V.ref t.1
def vj(K:b6):Sp:=λe H Q _=>E4 λ(a b:b9) (xs c:List SpT)=>A7 (e=[.ref a,.ref b]) (H a=Kh (.lst (yU xs))) (H b=Kh (.lst (yU c))) (∀ t∈xs,Yx H t) (∀ t∈c,Yx H t) (xs.length+c.length<=5000) (∀(p:b9)(d:Hp),Same H d->H p=Ki->d p=Kh (.lst (yU (xM xs c)))->Q (.ref p) d)
def ZO{xs g:List SpT}{o:SpT}{r:List SpT}{k:Nat}(l:k<=xs.length){c:List SpT}(h:c++xM (xs.drop k) (o::r)=xM xs g)(i:xs[k]?=Kh x)(j:ahB o x=Kk):(c++[x])++xM (xs.drop (k+1)) (o::r)=xM xs g:=by
 rw[<- h];have d:k<xs.length:=(c6.mp i).1;have e:xs.drop k=x::xs.drop (k+1):=by
  rw[AV d]
  congr 1
  exact(c6.mp i).2
 rw[e,xM,xM,EV (by rw[j]; rfl),EX (by rw[j]; rfl),l9];rfl
def fh{xs i:List SpT}{o:SpT}{r:List SpT}{k:Nat}{c:List SpT}(h:c++xM (xs.drop k) (o::r)=xM xs i)(d:xs.length<=k\/∃ x,xs[k]?=Kh x/\ahB o x=Kj):(c++[o])++xM (xs.drop k) r=xM xs i:=by
 rw[<- h];rcases d with d | ⟨x,d,j⟩
 ·rw[List.drop_eq_nil_of_le d,xM,List.takeWhile_nil,List.dropWhile_nil,l9];rfl
 ·have g:k<xs.length:=(c6.mp d).1;have e:xs.drop k=x::xs.drop (k+1):=by
   rw[AV g]
   congr 1
   exact(c6.mp d).2
  rw[e,xM,EW (by rw[j]; decide),EY (by rw[j]; decide),l9];rfl
structure RW(H:Hp)(l:b9)(told:List SpT)(H':Hp):Prop where
 same:Same H H'
 at':H' l=Kh (.lst (yU told))
def RW.app{H g:Hp}{x:SpT}(d:RW H l c g)(h:H l=Ki):RW H l (c++[x]) (upd g l (.lst (yU c++[.ref x.1]))):=by
 erw[λb o e=>?_,?_]
 ·rw[zH (zE e h)];rwa[d.same b o e]
 ·rw[zA];unfold yU;rw[d5];rfl
def UA{c:List SpT}{i:Nat}(h:c[i]?=Kh x):(yU c)[i]?=Kh (.ref x.1):=by
 unfold yU;rw[c7,h];rfl
def lh{i:Nat}(h:(yU c)[i]?=Kh v):∃ x,c[i]?=Kh x/\v=.ref x.1:=by
 unfold yU at h;rw[c7] at h;cases e:c[i]? with
 | none=>rw[e] at h; cases h
 | some x=>rw[e] at h; rwa[x,rfl,(x6 h).symm]
def yO(c:List SpT):(yU c).length=c.length:=b5 _
def cY(F:Fun K "merged" "merged" xg f fd)(Z:Zs mg)(CB:Cb P w mg base)(yCj:Has P w K mg base "ahead" 1 ["one","other"] (wu K)):yS P w K mg base CX0 2 f fd ["ones","others"] (vj K):=by
 specialize sW
 ·obtain⟨a,b,xs,r,rfl,_⟩:=h;rfl
 obtain⟨a,b,xs,r,rfl,ha,hb,N,M,hlen,q⟩:=h
 refine'⟨_,(zB (zO 2 sW.nd ?_)
   (zB (zO 3 sW.nd uX)
   (zB (xL m8 rfl (yQ (pv 1)) (wO 4 sW.nd) (zB (nS m8 ?_ (zB (zV (vc (pv 2) ?_))
   (zD (zO 3 sW.nd ?_))))
   (zD (zV (vc (pv 2) (zG (pv 4) zL))))))
   (zD (zM (tT Xa (pv 2) ?_)))))),?_⟩
 nofun
 have big:∀ n:Nat,n<=5000->n<sizeLine:=λn hn=>Am hn (by decide);refine⟨sz0,λl I=>?_⟩;have D0:RW H l [] (upd H l (.lst [])):=⟨zC I _,zA⟩;refine⟨_,U,b,U,.inl ⟨⟨_,SqL.of (D0.same _ _ hb)⟩,xD (K:=K) (a:=b) (xs:=yU r) (λj m J=>E3 λ(e:List SpT) (k:Nat) (u:Option V)=>A5 (m=[Kh (.ref a),Kh (.ref b),Kh (.ref l),Kh (.int k),u]) (RW H l e J) (k<=xs.length) (e.length=k+j) (e++xM (xs.drop k) (r.drop j)=xM xs r))
  ⟨[],0,Ki,rfl,D0,t9 _,rfl,rfl⟩ (λj m J _ S=>by obtain⟨_,_,_,_,d,_⟩:=S; rwa[SqL.of (d.same _ _ hb)]) ?_ ?_⟩⟩
 ·rintro j v m J hj ⟨e,k,u,rfl,d,D,x,i⟩;obtain⟨o,T,rfl⟩:=lh hj;have X:j<r.length:=(c6.mp T).1;have O:=M o (f7 T);have eo:r.drop j=o::r.drop (j+1):=by
   rw[AV X]
   congr 1
   exact(c6.mp T).2
  rw[eo] at i;refine sj (λm H1=>E2 λ(e:List SpT) (k:Nat)=>A5 (m=[Kh (.ref a),Kh (.ref b),Kh (.ref l),Kh (.int k),Kh (.ref o.1)]) (RW H l e H1) (k<=xs.length) (e.length=k+j) (e++xM (xs.drop k) (o::r.drop (j+1))=xM xs r))
   (λm _=>match m with | [_,_,_,Kh (.int z),_]=>xs.length-z.toNat | _=>0) ⟨e,k,rfl,d,D,x,i⟩ ?_ (Ti (ii (XZ Vr vy (SI YX (kj vy az)))) (PY (mo_b (Rx Yz (kj vy (kj (XZ Qw vy vy) az))))))
  rintro m H1 ⟨e,k,rfl,d,D,x,i⟩;have G:Sq K H1 a (yU xs):=.inl (SqL.of (d.same _ _ ha));exists _,U,_,U,a,_,U,.inl (SqL.of (d.same _ _ ha)),_,_,U,U,_,rfl;erw[ifD (λy=>?_) (λy=>?_)]
  ·have g:(k:Int)<((yU xs).length:Int):=y;rw[yO] at g;have B:k<xs.length:=by lia
   have R:xs[k]?=Kh xs[k]:=b8 B;have at':atI (yU xs) (k:Int)=Kh (.ref (xs[k]).1):=vF (UA R);have okX:=N xs[k] (r9 B);exists _,U,_,U,_,U,a,_,_,_,U,U,G,at',o,xs[k],U,O.same d.same,okX.same d.same,_,rfl;erw[ifTF (λY=>?_) (λY=>?_)]
   ·have C:ahB o xs[k]=false:=by cases h:ahB o xs[k] <;> simp_all
    exists _,U,.inl ⟨U,_,SqL.of d.at'⟩,_,U,_,U,a,_,_,_,U,U,G,at',l,_,_,U,U,d.at',big _ (by rw[yO]; lia);exists _,U,_,_,U,U,⟨e++[xs[k]],k+1,U,d.app I,B,by rw[f8,As]; lia,ZO D i R C⟩;show xs.length-((k:Int)+1).toNat<xs.length-((k:Int)).toNat;lia
   ·have C:ahB o xs[k]=true:=by cases h:ahB o xs[k] <;> simp_all
    exists _,U,.inl ⟨U,_,SqL.of d.at'⟩,_,U,l,_,_,U,U,d.at',big _ (by rw[yO]; lia);rwa[e++[o],k,_,rfl,d.app I,D,by rw[f8,As]; lia,fh i (.inr ⟨_,R,C⟩)]
  ·have g:¬ (k:Int)<((yU xs).length:Int):=y;rw[yO] at g;erw[vf ?_];exists _,U,.inl ⟨U,_,SqL.of d.at'⟩,_,U,l,_,_,U,U,d.at',big _ (by rw[yO]; lia);rwa[e++[o],k,_,rfl,d.app I,D,by rw[f8,As]; lia,fh i (.inl (by lia))]
 ·rintro m J ⟨e,k,u,rfl,d,D,x,i⟩;rw[yO] at x i;rw[List.drop_length,xM] at i;refine⟨_,U,_,U,_,U,_,U,a,_,U,SqL.of (d.same _ _ ha),λc hc=>?_⟩;have L:=zC hc (.lst (yg (yU xs) (Kh (k:Int)) Ki));have ec:yg (yU xs) (Kh (k:Int)) Ki=yU (xs.drop k):=by
   unfold yg;rw[HT.sIx_nat,yO,show min k xs.length=k by lia,show HT.sIx xs.length xs.length Ki=xs.length from rfl,Ax (by rw[Ai,yO]; lia)];unfold yU;rw[C6]
  erw[l,c,_,_,rfl,rfl,L _ _ d.at',zA,?_,λp hp=>?_]
  ·rw[ec,yO,yO,Ai];rwa[Bq (big _ (by lia))]
  ·erw[q p _ (d.same.trans (L.trans (zC hp _))) ((d.same.trans L).free hp) ?_];rw[zA,ec,<- i];unfold yU;rw[d5]
def xy(K:b6):Nat->Sp
 | 0=>λ_ _ _ _=>False
 | n+1=>λd H Q _=>∃(a:b9)(xs:List SpT),d=[.ref a]/\SqL K H a (yU xs)/\(∀ t∈xs,Yx H t)/\xs.length<=2^n/\xs.length<=5000/\∀(p:b9)(c:Hp),Same H c->H p=Ki->c p=Kh (.lst (yU (we n xs)))->Q (.ref p) c
def ul(K:b6):Sp:=xy K 13
def oE{f:b9}{fd:AZ}(F:Fun K "in_order" "in_order" tH f fd)(Z:Zs mg)(CB:Cb P w mg base)(r:Has P w K mg base "merged" 2 ["ones","others"] (vj K))(O:pL K fd ["spots"] [])(N:AT K (.ref f)=Kj)(M:mg "in_order" = Kh (.ref f)) :
  ∀ n:Nat,yS P w K mg base CX0 (n+2) f fd ["spots"] (xy K n)
 | 0=>⟨λ_ _ _ _ h=>h.elim,λ_ _ _ _ _ _ _ _ _ _ _ _ _ h=>h.elim⟩
 | n+1=>by
  have Y:=oE F Z CB r O N M n;have u:Has P w K mg base "in_order" (n+2) ["spots"] (xy K n):=⟨f,fd,Y,O,N,M⟩;rw[show n+1+2=n+2+1 from by lia]
  specialize ua
  ·obtain⟨a,xs,rfl,_⟩:=h;rfl
  obtain⟨a,xs,rfl,z,ok,hl,hl5,q⟩:=h;have c:=hr;have x:zd 2 _:=hr.mono (Nat.le_add_left _ _)
  refine'⟨_,(zB (xJ ?_ (zD (zM ?_)) zU)
   (zB (zO 1 ua.nd ?_)
   (zD (zM (yX r x rfl (zG (yX u c rfl ?_) (zG (yX u c rfl ?_) zL))))))),?_⟩
  nofun
  have big:∀ n:Nat,n<=5000->n<sizeLine:=λn hn=>Am hn (by decide);exists _,U,a,_,U,.inl z,_,_,U,U,_,rfl;erw[ifD (λo=>?_) (λo=>?_)]
  ·have d:((yU xs).length:Int)<2:=o;rw[yO] at d;refine⟨_,U,a,_,U,.inl z,λl y=>?_⟩;refine q l _ (zC y _) y ?_;rw[zA];have e:we n xs=xs:=by
    cases n with
    | zero=>rfl
    | succ m=>rwa[y7 (by lia)]
   rw[e]
  ·have d:¬ ((yU xs).length:Int)<2:=o;rw[yO] at d;cases n with
   | zero=>exact x4 hl (by show ¬ xs.length<=1; lia)
   | succ m =>
    exists _,U,a,_,U,.inl z,_,_,U,U,qa.of (by decide) (by ac_nf);have g:((yU xs).length:Int)/2=((xs.length/2:Nat):Int):=by rw[yO]; rfl
    have e1:yg (yU xs) Ki (Kh (((yU xs).length:Int)/2))=yU (xs.take (xs.length/2)):=by
     rw[g];unfold yg;rw[HT.sIx_nat,yO,show HT.sIx xs.length 0 Ki=0 from rfl,Fb,show min (xs.length/2) xs.length-0=xs.length/2 by lia];unfold yU;rw[Cg]
    have e2:yg (yU xs) (Kh (((yU xs).length:Int)/2)) Ki=yU (xs.drop (xs.length/2)):=by
     rw[g];unfold yg;rw[HT.sIx_nat,yO,show min (xs.length/2) xs.length=xs.length/2 by lia,show HT.sIx xs.length xs.length Ki=xs.length from rfl,Ax (by rw[Ai,yO]; lia)];unfold yU;rw[C6]
    have p2:2^(m+1)=2*2^m:=by rw[Hq,JI]
    erw[_,rfl,_,rfl,_,rfl,a,_,rfl,z,λc1 G=>?_];have v:=zC G (.lst (yg (yU xs) Ki (Kh (((yU xs).length:Int)/2))));erw[c1,xs.take (xs.length/2),rfl,SqL.of (by rw[zA,e1]),λt j=>(ok t (Aj j)).same v,by rw[g8]; lia,by rw[g8]; lia,λr1 H1 X hr1 J=>?_];have C:=v.trans X;erw[_,rfl,_,rfl,_,rfl,a,_,rfl,C.seq z,λc2 D=>?_];have i:=zC D (.lst (yg (yU xs) (Kh (((yU xs).length:Int)/2)) Ki));erw[c2,xs.drop (xs.length/2),rfl,SqL.of (by rw[zA,e2]),λt j=>(ok t (AF j)).same (C.trans i),by rw[Ai]; lia,by rw[Ai]; lia,λr2 H2 L hr2 I=>?_];have B:=C.trans (i.trans L);have S:=vJ m (xs.take (xs.length/2));have R:=vJ m (xs.drop (xs.length/2));erw[r1,r2,we m (xs.take (xs.length/2)),we m (xs.drop (xs.length/2)),rfl,L _ _ (i _ _ J),I,λt j=>(ok t (Aj (S.mem_iff.mp j))).same B,λt j=>(ok t (AF (R.mem_iff.mp j))).same B,by rw[S.length_eq,R.length_eq,g8,Ai]; lia,λp H3 T hp e3=>?_];erw[q p H3 (B.trans T) (B.free hp) ?_];rw[e3];have e:we (m+1) xs=xM (we m (xs.take (xs.length/2))) (we m (xs.drop (xs.length/2))):=y6 (by lia);rw[e]
def iy(F:Fun K "in_order" "in_order" tH f fd)(Z:Zs mg)(h:Cb P w mg base)(c:Has P w K mg base "merged" 2 ["ones","others"] (vj K))(g:pL K fd ["spots"] [])(e:AT K (.ref f)=Kj)(d:mg "in_order" = Kh (.ref f)):yS P w K mg base CX0 15 f fd ["spots"] (ul K):=oE F Z h c g e d 13
def QD(K:b6):Sp:=λj H Q _=>E8 λ(a b:b9) (g e:List V) (d c i h:Int)=>A10 (j=[.ref a,.ref b]) (Sq K H a g) (Sq K H b e) (atI g 0=Kh (.int d)) (atI g 1=Kh (.int c)) (atI e 0=Kh (.int i)) (atI e 1=Kh (.int h)) (d.natAbs<=10^18) (c.natAbs<=10^18) (Q (.int (d*h-c*i)) H)
def tI(K:b6):Sp:=QD K
def Xe(F:Fun K "turn" "turn" nC f fd)(Z:Zs mg)(r:Cb P w mg base)  : yS P w K mg base CX0 1 f fd ["one","other"] (tI K):=by
 specialize WI
 ·obtain⟨a,b,n,l,g,d,e,c,rfl,_⟩:=h;rfl
 obtain⟨a,b,n,l,g,d,e,c,rfl,j,i,p,o,m,w1,m1,m2,q⟩:=h
 refine'⟨_,(zD (zM ?_)),?_⟩
 nofun
 exact⟨_,U,a,_,_,.int g,U,U,j,p,_,U,b,_,_,.int c,U,U,i,w1,_,_,U,U,vz (by lia),
  _,rfl,a,_,_,.int d,rfl,rfl,j,o,_,rfl,b,_,_,.int e,rfl,rfl,i,m,_,_,rfl,rfl,vz (by lia),_,_,rfl,rfl,q⟩
def je(K:b6):Sp:=λj H Q _=>E8 λ(a b:b9) (g e:List V) (d c i h:Int)=>A10 (j=[.ref a,.ref b]) (Sq K H a g) (Sq K H b e) (atI g 0=Kh (.int d)) (atI g 1=Kh (.int c)) (atI e 0=Kh (.int i)) (atI e 1=Kh (.int h)) (d.natAbs<=10^18) (c.natAbs<=10^18) (Q (.int (d*i+c*h)) H)
def ZY(F:Fun K "along" "along" si f fd)(Z:Zs mg)(r:Cb P w mg base)  : yS P w K mg base CX0 1 f fd ["one","other"] (je K):=by
 specialize ZL
 ·obtain⟨a,b,n,l,g,d,e,c,rfl,_⟩:=h;rfl
 obtain⟨a,b,n,l,g,d,e,c,rfl,j,i,p,o,m,w1,m1,m2,q⟩:=h
 refine'⟨_,(zD (zM ?_)),?_⟩
 nofun
 exact⟨_,U,a,_,_,.int g,U,U,j,p,_,U,b,_,_,.int e,U,U,i,m,_,_,U,U,vz (by lia),
  _,rfl,a,_,_,.int d,rfl,rfl,j,o,_,rfl,b,_,_,.int c,rfl,rfl,i,w1,_,_,rfl,rfl,vz (by lia),_,_,rfl,rfl,q⟩
def sS(K:b6):Sp:=vK K
def mP(F:Fun K "plain_side" "plain_side" vW f fd)(Z:Zs mg)(d:Cb P w mg base)(c:Has P w K mg base "lowest" 2 ["numbers"] (vK K)):yS P w K mg base CX0 3 f fd ["side"] (sS K):=by
 specialize mT
 ·obtain⟨a,ns,rfl,_⟩:=h;rfl
 obtain⟨a,ns,rfl,h1,h2,h3,h4,h5⟩:=h;rwa[_,(zD (zM (yX c (hr.mono (by decide)) rfl (zG (pv 0) zL)))),⟨_,rfl,a,ns,rfl,h1,h2,h3,h4,h5⟩]
def Tp(K:b6)(R:Int->Int->Int->Int->Int->Int->Hp->VK->Prop):Sp:=λc H Q _=>E8 λ(a b:b9) (A B C x y z:Int)=>A7 (c=[.ref a,.ref b]) (Sq K H a [.int A,.int B,.int C]) (Sq K H b [.int x,.int y,.int z]) (A.natAbs<=10^18) (B.natAbs<=10^18) (C.natAbs<=10^18) (R A B C x y z H Q)
def kI(K:b6):Sp:=Tp K λA B C x y z H Q=>Q (.int (A*x+B*y-C*z)) H
def cD(F:Fun K "beyond" "beyond" xj f fd)(Z:Zs mg)(g:Cb P w mg base)  : yS P w K mg base CX0 1 f fd ["side","spot"] (kI K):=by
 specialize cW
 ·obtain⟨a,b,A,B,C,x,y,z,rfl,_⟩:=h;rfl
 obtain⟨a,b,e,B,C,x,y,z,rfl,d,c,m1,m2,m3,q⟩:=h
 refine'⟨_,(zD (zM ?_)),?_⟩
 nofun
 rwa[_,rfl,a,_,_,.int e,rfl,rfl,d,rfl,_,rfl,b,_,_,.int x,rfl,rfl,c,rfl,_,_,rfl,rfl,vz (by lia),_,rfl,a,_,_,.int B,rfl,rfl,d,rfl,_,rfl,b,_,_,.int y,rfl,rfl,c,rfl,_,_,rfl,rfl,vz (by lia),_,_,rfl,rfl,_,rfl,a,_,_,.int C,rfl,rfl,d,rfl,_,rfl,b,_,_,.int z,rfl,rfl,c,rfl,_,_,rfl,rfl,vz (by lia),_,_,rfl,rfl,q]
def rZ(K:b6):Sp:=Tp K λA B C x y z H Q=>Q (.bl (decide (A*x+B*y-C*z<=0))) H
def Zm(F:Fun K "holds" "holds" rj f fd)(Z:Zs mg)(i:Cb P w mg base)(c:Has P w K mg base "beyond" 1 ["side","spot"] (kI K)):yS P w K mg base CX0 2 f fd ["side","spot"] (rZ K):=by
 specialize ZR
 ·obtain⟨a,b,A,B,C,x,y,z,rfl,_⟩:=h;rfl
 obtain⟨a,b,g,B,C,x,y,z,rfl,e,d,m1,m2,m3,q⟩:=h
 refine'⟨_,(zD (zM ?_)),?_⟩
 nofun
 rwa[_,rfl,_,rfl,a,b,g,B,C,x,y,z,rfl,e,d,m1,m2,m3,_,_,rfl,rfl,q]
def tP(K:b6):Sp:=λl H Q _=>E8 λ(a b:b9) (g d h e c j:Int)=>A10 (l=[.ref a,.ref b]) (Sq K H a [.int g,.int d,.int h]) (Sq K H b [.int e,.int c,.int j]) (g.natAbs<=10^18) (d.natAbs<=10^18) (h.natAbs<=10^18) (e.natAbs<=10^18) (c.natAbs<=10^18) (g*c-d*e=0->Q .non H) (g*c-d*e≠0->∀(p:b9)(i:Hp),Same H i->H p=Ki->i p=Kh (.tup ((qH (upL (h*c-d*j) (g*j-h*e) (g*c-d*e))).map V.int))->Q (.ref p) i)
def gf(F:Fun K "crossing" "crossing" rB f fd)(Z:Zs mg)(M:Cb P w mg base)(x:Has P w K mg base "upright" 3 ["numbers"] (yp K))(v:Has P w K mg base "turn" 1 ["one","other"] (tI K)):yS P w K mg base CX0 4 f fd ["one","other"] (tP K):=by
 specialize tQ
 ·obtain⟨a,b,g,d,m,e,c,l,rfl,_⟩:=h;rfl
 obtain⟨a,b,g,d,m,e,c,l,rfl,j,i,m1,m2,m3,m4,B,z,q⟩:=h
 refine'⟨_,(zB (zO 2 tQ.nd ?_)
   (zB (xJ ?_ (zD (zM oF)) zU)
   (zB (zO 3 tQ.nd ?_)
   (zB (zO 4 tQ.nd ?_)
   (zD (zM ?_)))))),?_⟩
 nofun
 exists _,U,_,U,a,b,_,_,g,d,e,c,U,j,i,U,U,U,U,m1,m2;exists _,U,U,_,rfl;erw[ifE (λn=>z n) (λn=>?_)];have J:=zT g c m1 B;have I:=zT d e m2 m4;have L:(10:Nat)^18*10^18=10^36:=by decide
 have G:(10:Nat)^36+10^36<=10^40:=by decide
 exists _,U,a,_,_,.int m,U,U,j,U,_,U,b,_,_,.int c,U,U,i,U,_,_,U,U,vz (by lia),_,U,a,_,_,.int d,U,U,j,U,_,U,b,_,_,.int l,U,U,i,U,_,_,U,U,vz (by lia),_,_,U,rfl;exists _,U,a,_,_,.int g,U,U,j,U,_,U,b,_,_,.int l,U,U,i,U,_,_,U,U,vz (by lia),_,U,a,_,_,.int m,U,U,j,U,_,U,b,_,_,.int e,U,U,i,U,_,_,U,U,vz (by lia),_,_,U,rfl;refine⟨_,U,_,U,_,U,sz3,λp u=>⟨p,[m*c-d*l,g*l-m*e,g*c-d*e],g*c-d*e,U,.inr (SqT.of zA),by show 3<=1000; decide,rfl,by simp,n,Qz (by lia),λr D y o C=>?_⟩⟩;rwa[q n r D ((zC u _).trans y) ((zC u _).free o) C]
def kM(K:b6):Sp:=λd H Q _=>E6 λ(a:b9) (A B C x y:Int)=>A5 (d=[.ref a,.int x,.int y]) (Sq K H a [.int A,.int B,.int C]) (A.natAbs<=10^18) (B.natAbs<=10^18) (∀(p:b9)(c:Hp),Same H c->H p=Ki->c p=Kh (.tup [.int A,.int B,.int (C+A*x+B*y)])->Q (.ref p) c)
def br(F:Fun K "pushed" "pushed" wn f fd)(Z:Zs mg)(g:Cb P w mg base)  : yS P w K mg base CX0 1 f fd ["side","x","y"] (kM K):=by
 specialize bw
 ·obtain⟨a,A,B,C,x,y,rfl,_⟩:=h;rfl
 obtain⟨a,e,B,C,x,y,rfl,c,m1,m2,q⟩:=h
 refine'⟨_,(zD (zM ?_)),?_⟩
 nofun
 refine⟨_,U,a,_,_,.int e,U,U,c,U,_,U,a,_,_,.int B,U,U,c,U,_,U,a,_,_,.int C,U,U,c,U,_,U,a,_,_,.int e,U,U,c,U,_,U,_,_,U,U,.inl ⟨by lia,by lia⟩,_,_,U,U,
  _,rfl,a,_,_,.int B,rfl,rfl,c,rfl,_,rfl,_,_,rfl,rfl,.inl ⟨by lia,by lia⟩,_,_,rfl,rfl,sz3,λp d=>?_⟩
 rwa[q p _ (zC d _) d zA]
def Wo{D0 D1 D2:Int}(n:D0≠0\/D1≠0)(d:D0.natAbs<=10^9)(m1:D1.natAbs<=10^9):0<yR [D0,D1,D2]/\(yR [D0,D1,D2]:Int)<=10^9/\(yR [D0,D1,D2]:Int)<10^600:=by
 have c:0<yR [D0,D1,D2]:=by
  rcases n with n | n
  ·rwa[wJ (n:=D0) (by simp) n]
  ·rwa[wJ (n:=D1) (by simp) n]
 have z:(yR [D0,D1,D2]:Int)<=10^9:=by
  rcases n with n | n
  ·have:=pA (ns:=[D0,D1,D2]) (n:=D0) (by simp) n;lia
  ·have:=pA (ns:=[D0,D1,D2]) (n:=D1) (by simp) n;lia
 rwa[c,z,E1 z (by ac_nf)]
def rM(K:b6):Sp:=λj H Q _=>E9 λ(m a b:b9) (i M1 h g e d:Int)=>A13 (j=[.ref m,.ref a,.ref b]) (SqT K H m [.int i,.int M1]) (SqT K H a [.int h,.int g]) (SqT K H b [.int e,.int d]) (i.natAbs<=10^6) (M1.natAbs<=10^6) (h.natAbs<=10^6) (g.natAbs<=10^6) (e.natAbs<=10^6) (d.natAbs<=10^6) (h≠0\/g≠0) (e≠0\/d≠0) (∀(l p q:b9)(c:Hp),Same H c->c l=Kh (.lst [.ref p,.ref q])->c p=Kh (.tup ((qH [-g,h,h*M1-g*i]).map V.int))->c q=Kh (.tup ((qH [d,-e,i*d-M1*e]).map V.int))->Q (.ref l) c)
def qm(F:Fun K "bearing_sides" "bearing_sides" wN f fd)(Z:Zs mg)(CB:Cb P w mg base)(I:Has P w K mg base "plain_side" 3 ["side"] (sS K))(G:Has P w K mg base "turn" 1 ["one","other"] (tI K)):yS P w K mg base CX0 4 f fd ["place","one","other"] (rM K):=by
 specialize uR
 ·obtain⟨m,a,b,c,M1,i,g,e,d,rfl,_⟩:=h;rfl
 obtain⟨m,a,b,c,M1,i,g,e,d,rfl,D,x,N,m1,m2,m3,m4,m5,m6,nA,nB,q⟩:=h
 refine'⟨_,(zB (zO 3 uR.nd ?_)
   (zB (zO 4 uR.nd ?_)
   (zD (zM ?_)))),?_⟩
 nofun
 obtain⟨T,_,S⟩:=Wo (D0:=-g) (D1:=i) (D2:=i*M1-g*c) (by lia) (by lia) (by lia);obtain⟨R,_,O⟩:=Wo (D0:=d) (D1:=-e) (D2:=c*d-M1*e) (by lia) (by lia) (by lia);erw[_,rfl,a,_,_,.int g,rfl,rfl,.inr x,rfl,_,rfl,_,rfl,a,_,_,.int i,rfl,rfl,.inr x,rfl,_,rfl,_,rfl,a,m,_,_,i,g,c,M1,rfl,.inr x,.inr D,rfl,rfl,rfl,rfl,by lia,by lia,sz3,λL u=>?_];have o:=zC u (.tup [.int (-g),.int i,.int (i*M1-g*c)]);have j:=SqT.same N o;have v:=SqT.same D o;erw[_,rfl,b,_,_,.int d,rfl,rfl,.inr j,rfl,_,rfl,b,_,_,.int e,rfl,rfl,.inr j,rfl,_,rfl,_,rfl,_,rfl,m,b,_,_,c,M1,e,d,rfl,.inr v,.inr j,rfl,rfl,rfl,rfl,by lia,by lia,sz3,λJ r=>?_];have B:=zC r (.tup [.int d,.int (-e),.int (c*d-M1*e)]);refine⟨_,U,L,[-g,i,i*M1-g*c],U,.inr (SqT.of (B _ _ zA)),by show 3<=1000; decide,T,S,λp H3 z hp Y=>?_⟩;refine⟨_,U,J,[d,-e,c*d-M1*e],U,.inr (SqT.of (z _ _ zA)),by show 3<=1000; decide,R,O,λC H4 y hq X=>?_⟩;erw[sz2,λl M=>?_];have n:=zC M (.lst [.ref p,.ref C]);rwa[q l p C _ (o.trans (B.trans (z.trans (y.trans n)))) zA (n _ _ (y _ _ Y)) (n _ _ X)]
def yy(K:b6):Sp:=λi H Q _=>E6 λ(a b:b9) (g e d c:Int)=>A9 (i=[.ref a,.ref b]) (Sq K H a [.int g,.int e]) (Sq K H b [.int d,.int c]) (g.natAbs<=10^6) (e.natAbs<=10^6) (d.natAbs<=10^6) (c.natAbs<=10^6) (e-c≠0\/d-g≠0) (∀(p:b9)(h:Hp),Same H h->H p=Ki->h p=Kh (.tup ((qH [e-c,d-g,d*e-c*g]).map V.int))->Q (.ref p) h)
def mI(F:Fun K "range_side" "range_side" tE f fd)(Z:Zs mg)(C:Cb P w mg base)(o:Has P w K mg base "plain_side" 3 ["side"] (sS K))(m:Has P w K mg base "turn" 1 ["one","other"] (tI K)):yS P w K mg base CX0 4 f fd ["left","right"] (yy K):=by
 specialize mi
 ·obtain⟨a,b,g,e,d,c,rfl,_⟩:=h;rfl
 obtain⟨a,b,g,e,d,c,rfl,j,i,m1,m2,m3,m4,n,q⟩:=h
 refine'⟨_,(zD (zM ?_)),?_⟩
 nofun
 have v:0<yR [e-c,d-g,d*e-c*g]:=by
  rcases n with n | n
  ·rwa[wJ (n:=e-c) (by simp) n]
  ·rwa[wJ (n:=d-g) (by simp) n]
 have x:(yR [e-c,d-g,d*e-c*g]:Int)<10^600:=by
  have z:(yR [e-c,d-g,d*e-c*g]:Int)<=10^7:=by
   rcases n with n | n
   ·have:=pA (ns:=[e-c,d-g,d*e-c*g]) (n:=e-c) (by simp) n;lia
   ·have:=pA (ns:=[e-c,d-g,d*e-c*g]) (n:=d-g) (by simp) n;lia
  rwa[E1 z (by ac_nf)]
 refine⟨_,U,a,_,_,.int e,U,U,j,U,_,U,b,_,_,.int c,U,U,i,U,_,_,U,U,_,U,b,_,_,.int d,U,U,i,U,_,U,a,_,_,.int g,U,U,j,U,_,_,U,U,_,U,_,U,b,a,_,_,d,c,g,e,U,i,j,U,U,U,U,by lia,by lia,sz3,λt l =>
  ⟨t,[e-c,d-g,d*e-c*g],rfl,.inr (SqT.of zA),by show 3<=1000; decide,v,x,λp B r u y=>?_⟩⟩
 rwa[q p B ((zC l _).trans r) ((zC l _).free u) y]
def jv(c:List Sd)(p:P3):Bool:=c.all λt=>decide (sv t.2 p<=0)
def uw : jv d p=Kj↔inW d p:=by
 unfold jv inW;rw[AG];rwa[λh t c=>of_decide_eq_true (h t c),λh t c=>y8 (h t c)]
def tO(K:b6):Sp:=λd H Q _=>E4 λ(l p:b9) (c:List Sd) (P:P3)=>A5 (d=[.ref l,.ref p]) (SqL K H l (zS c)) (jq H c) (Sq K H p [.int P.1,.int P.2.1,.int P.2.2]) (Q (.bl (jv c P)) H)
def ij(F:Fun K "in_water" "in_water" rF f fd)(Z:Zs mg)(S:Cb P w mg base)(C:Has P w K mg base "holds" 2 ["side","spot"] (rZ K)):yS P w K mg base CX0 3 f fd ["sides","place"] (tO K):=by
 specialize tw
 ·obtain⟨l,p,g,P,rfl,_⟩:=h;rfl
 obtain⟨l,p,g,P,rfl,B,ok,I,q⟩:=h
 refine'⟨_,(zB (xL m8 rfl (yQ (pv 0)) (wO 2 tw.nd) (zD (xJ ?_ (zD (zM ff)) zU)))
   (zD (zM ff))),?_⟩
 nofun
 refine⟨_,U,l,U,.inl ⟨⟨_,B⟩,xD (K:=K) (a:=l) (xs:=zS g) (λi r u=>A3 (H=u) (∀ j t,j<i->g[j]?=Kh t->sv t.2 P<=0) (∃ x:Option V,r=[Kh (.ref l),Kh (.ref p),x]))
  ⟨rfl,λj t o=>x4 o (Bj _),Ki,rfl⟩ (λi r u _ y=>by obtain⟨e,_⟩:=y; rw[<- e]; rwa[B]) ?_ ?_⟩⟩
 ·rintro i v r u hi ⟨rfl,c,x,rfl⟩;obtain⟨t,gt,rfl,J⟩:=pO hi;obtain⟨L,_,R,O,N⟩:=ok t (f7 gt);exists _,U,_,U,t.1,p,t.2.1,t.2.2.1,t.2.2.2,P.1,P.2.1,P.2.2,U,.inr (SqT.of L),I,by lia,by lia,by lia,_,rfl;erw[ifN (λm=>?_) (λn=>?_)]
  ·have e:jv g P=false:=by
    unfold jv;rw[Fv];intro z;rwa[m (of_decide_eq_true (AG.mp z t (f7 gt)))]
   rw[e] at q;rwa[q]
  ·erw[rfl,λj D o d=>?_,_,rfl];by_cases e:j=i
   ·rw[e,gt] at d;cases d;rwa[n]
   ·rwa[c j D (by lia) d]
 ·rintro r u ⟨rfl,c,x,rfl⟩;have e:jv g P=true:=uw.mpr λt G=>by
   obtain⟨j,o,M⟩:=AO G;rwa[c j t (by rw[zQ]; exact o) (by rw[b8 o,M])]
  rw[e] at q;rwa[q]
def ut(K:b6):Sp:=λd H Q _=>E2 λ(a:b9) (t:P3)=>A6 (d=[.ref a]) (Sq K H a [.int t.1,.int t.2.1,.int t.2.2]) (t.1≠0\/t.2.1≠0) (t.1.natAbs<=10^9) (t.2.1.natAbs<=10^9) (∀(p:b9)(c:Hp),Same H c->H p=Ki->c p=Kh (.tup ((ftL t).map V.int))->Q (.ref p) c)
def We(F:Fun K "foot" "foot" nR f fd)(Z:Zs mg)(v:Cb P w mg base)(g:Has P w K mg base "spot" 4 ["x","y","w"] (uh K))(i:Has P w K mg base "along" 1 ["one","other"] (je K)):yS P w K mg base CX0 5 f fd ["side"] (ut K):=by
 specialize YQ
 ·obtain⟨a,t,rfl,_⟩:=h;rfl
 obtain⟨a,t,rfl,c,m,e,d,q⟩:=h
 refine'⟨_,(zD (zM ?_)),?_⟩
 nofun
 have pos:=oA m;have u:=zT t.1 t.1 e e;have r:=zT t.2.1 t.2.1 d d;refine⟨_,U,a,_,_,.int t.1,U,U,c,U,_,U,a,_,_,.int t.2.2,U,U,c,U,_,_,U,U,vz (by lia),
  _,rfl,a,_,_,.int t.2.1,rfl,rfl,c,rfl,_,rfl,a,_,_,.int t.2.2,rfl,rfl,c,rfl,_,_,rfl,rfl,vz (by lia),
  _,rfl,_,rfl,a,a,_,_,t.1,t.2.1,t.1,t.2.1,rfl,c,c,rfl,rfl,rfl,rfl,by lia,by lia,
  t.1*t.2.2,t.2.1*t.2.2,t.1*t.1+t.2.1*t.2.1,rfl,by lia,Am (show(t.1*t.1+t.2.1*t.2.1).natAbs<=10^40 by lia) (by ac_nf),λp o j l n=>q p o j l n⟩
def iL:Option Nat->V
 | none=>.non
 | some j=>.int j
def xh{c:List Sd}{i:Nat}{t u:Sd}(gt:c[i]?=Kh t)(d:u∈c.take (i+1)):u∈c.take i\/u=t:=by
 rw[xK gt] at d;rcases i9.mp d with h | h
 ·rwa[.inl h]
 ·rwa[.inr (e9.mp h)]
def bD{c:List Sd}{i j:Nat}(h:(c.take i)[j]?=Kh t):(c.take (i+1))[j]?=Kh t:=by
 rw[Bu] at h ⊢;split at h
 ·rw[y7 (by lia)];rwa[h]
 ·cases h
def fA(c:List Sd)(e:P3)(h:Int)(H:Hp)(x y:V):Prop:=(x=.non/\y=.non/\oM c e h Ki)\/∃(j:Nat)(t:Sd)(p:b9),x=.int j/\y=.ref p/\H p=Kh (.tup ((crL e t.2).map V.int))/\c[j]?=Kh t/\0<tn e t.2*h/\∀ u∈c,0<tn e u.2*h->sv u.2 (pt3 (crL e t.2))<=0
def fA.skip{d:List Sd}{h:Int}{H:Hp}{i:Nat}(S:fA (d.take i) e h H x y)(gt:d[i]?=Kh t)(o:¬ 0<tn e t.2*h):fA (d.take (i+1)) e h H x y:=by
 rcases S with ⟨l,g,S⟩ | ⟨j,u,p,l,g,s,r,n,q⟩
 ·erw[.inl ⟨l,g,λv c=>?_⟩];rcases xh gt c with c | rfl
  ·rwa[S v c]
  ·lia
 ·erw[.inr ⟨j,u,p,l,g,s,bD r,n,λv c m=>?_⟩];rcases xh gt c with c | rfl
  ·rwa[q v c m]
  ·rwa[x4 m o]
def fA.keep{h:Int}{H d:Hp}(S:fA c e h H x y)(s:Same H d):fA c e h d x y:=by
 rcases S with S | ⟨j,u,p,l,i,g,r⟩
 ·rwa[.inl S]
 ·rwa[.inr ⟨j,u,p,l,i,s _ _ g,r⟩]
def qY(K:b6):Sp:=λg H Q _=>E5 λ(l a:b9) (c:List Sd) (e:P3) (h:Int)=>A11 (g=[.ref l,.ref a,.int h]) (SqL K H l (zS c)) (jq H c) (c.length<=1000) (Sq K H a [.int e.1,.int e.2.1,.int e.2.2]) (e.1≠0\/e.2.1≠0) (e.1.natAbs<=10^9) (e.2.1.natAbs<=10^9) (e.2.2.natAbs<=10^13) (h=1\/h = -1) (∀(r:Option Nat)(d:Hp),Same H d->oM c e h r->Q (iL r) d)
def iI(F:Fun K "edge_end" "edge_end" rE f fd)(Z:Zs mg)(CB:Cb P w mg base)(yCo:Has P w K mg base "turn" 1 ["one","other"] (tI K))(yCl:Has P w K mg base "holds" 2 ["side","spot"] (rZ K))(yBl:Has P w K mg base "crossing" 4 ["one","other"] (tP K)):yS P w K mg base CX0 5 f fd ["sides","edge","hand"] (qY K):=by
 specialize xS
 ·obtain⟨l,a,m,e,h,rfl,_⟩:=h;rfl
 obtain⟨l,a,m,e,hd,rfl,hl,ok,hlen,ha,hn,b1,b2,b3,h1,q⟩:=h;have hh:hd*hd=1:=by rcases h1 with rfl | rfl <;> rfl
 have hN:=oA hn
 refine'⟨_,(zB (zO 3 xS.nd oF)
   (zB (zO 4 xS.nd oF)
   (zB (xL m8 rfl (xC rfl Z.range ?_) (wO 5 xS.nd) (zB (zO 6 xS.nd ?_)
   (zD (xJ ?_ (zB (zO 3 xS.nd (pv 5))
   (zD (zO 4 xS.nd ?_))) zU))))
   (zD (zM (pv 3)))))),?_⟩
 nofun
 refine⟨_,U,l,_,U,.inl hl,_,U,(by rw[zQ]; lia),(by rw[zQ]; lia),wC (lo:=0) (n:=(((zS m).length:Nat):Int).toNat) (λi σ g=>Same H g/\E4 λ(x y:V) (u5 u6:Option V)=>fA (m.take i) e hd g x y/\σ=[Kh (.ref l),Kh (.ref a),Kh (.int hd),Kh x,Kh y,u5,u6])
  ⟨Same.refl _,.non,.non,Ki,Ki,.inl ⟨rfl,rfl,λt ht=>nomatch ht⟩,rfl⟩ ?_ ?_⟩
 ·rintro i σ g hi ⟨d,x,y,u5,u6,S,rfl⟩;have hil:i<m.length:=by rw[j3,zQ] at hi; rwa[hi]
  obtain⟨t,mt,gt,at'⟩:=uV (ss:=m) (i:=i) (k:=0+(i:Int)) (by lia) hil;obtain⟨et0,nt,c1,c2,c3⟩:=ok t mt;have Y:Sq K g t.1 [.int t.2.1,.int t.2.2.1,.int t.2.2.2]:=.inr (SqT.of (d _ _ et0));have G:=ha.same d;have z1:=zT e.1 t.2.2.1 b1 c2;have z2:=zT e.2.1 t.2.1 b2 c1;exists _,U,_,U,l,_,_,_,U,U,.inl (d.seq hl),at';exists _,U,_,U,a,t.1,_,_,e.1,e.2.1,t.2.1,t.2.2.1,U,G,Y,U,U,U,U,by lia,by lia,_,U,_,_,U,U,.inl ⟨by lia,by lia⟩,_,_,U,U,_,rfl;erw[ifD (λO=>?_) (λT=>?_)]
  ·have c:0<tn e t.2*hd:=O;have put:∀(r:Hp)(p:b9),Same g r->r p=Kh (.tup ((crL e t.2).map V.int))->(∀ u∈m.take i,0<tn e u.2*hd->sv u.2 (pt3 (crL e t.2))<=0)->fA (m.take (i+1)) e hd r (.int (0+(i:Int))) (.ref p):=λr p J X L=>by
    erw[.inr ⟨i,t,p,by rw[Aw],rfl,X,?_,c,λu o C=>?_⟩]
    ·rw[Bu,y7 (by lia)];rwa[gt]
    ·rcases xh gt o with o | rfl
     ·rwa[L u o C]
     ·rwa[Dm (ya (xX c)).2.2]
   rcases S with ⟨rfl,rfl,S⟩ | ⟨j,u,p,rfl,rfl,X,gu,o,L⟩
   ·exists _,U,U,_,rfl;erw[dI ?_];erw[_,rfl,_,rfl,_,rfl,a,t.1,e.1,e.2.1,e.2.2,t.2.1,t.2.2.1,t.2.2.2,rfl,G,Y,by lia,by lia,by lia,by lia,by lia,λz=>x4 z (xX c),λ_ p2 r J hp2 I=>?_];exact⟨d.trans J,_,_,_,_,put r p2 J I λv B C=>by have:=S v B; lia,rfl⟩
   ·obtain⟨N,q1,q2⟩:=ya (xX o);exists _,U,U,_,rfl;erw[vf ?_];have ep3:Sq K g p [.int (pt3 (crL e u.2)).1,.int (pt3 (crL e u.2)).2.1,.int (pt3 (crL e u.2)).2.2]:=.inr (SqT.of (by rw[X]; rw[N.list]; rfl));exists _,U,_,U,t.1,p,t.2.1,t.2.2.1,t.2.2.2,_,_,_,U,Y,ep3,by lia,by lia,by lia,_,rfl;erw[ifN (λR=>?_) (λhin=>?_)]
    ·have D:0<sv t.2 (pt3 (crL e u.2)):=by
      have:¬ sv t.2 (pt3 (crL e u.2))<=0:=R;lia
     erw[_,rfl,_,rfl,_,rfl,a,t.1,e.1,e.2.1,e.2.2,t.2.1,t.2.2.1,t.2.2.2,rfl,G,Y,by lia,by lia,by lia,by lia,by lia,λz=>x4 z (xX c),λ_ p2 r J hp2 I=>?_];obtain⟨M,r1,r2⟩:=ya (xX c);have d1:=dl_le hh hN r1 q1 M.pos r2 D c;erw[d.trans J,_,_,_,_,put r p2 J I λv B C=>?_,rfl];erw[Wk hh hN r1 q1 M.pos N.pos v.2 ?_ (L v B C)];have:=z7 (show 0<=-(dl e (pt3 (crL e t.2)) (pt3 (crL e u.2))*hd) by lia) (v8 C);rw[AM] at this;lia
    ·erw[d,_,_,_,_,.inr ⟨j,u,p,rfl,rfl,X,bD gu,o,λv B C=>?_⟩,rfl];rcases xh gt B with B | rfl
     ·rwa[L v B C]
     ·rwa[hin]
  ·erw[vf ?_];rwa[d,x,y,_,_,S.skip gt T,rfl]
 ·rintro σ g ⟨d,x,y,u5,u6,S,rfl⟩;rw[j3,zQ,i8] at S;rcases S with ⟨rfl,rfl,S⟩ | ⟨j,u,p,rfl,rfl,X,gu,o,L⟩
  ·rwa[_,rfl,q Ki g d S]
  ·rwa[_,rfl,q (Kh j) g d ⟨u,gu,o,L⟩]
structure Py(ss:List Sd)(e:P3)(qs:List (b9×P3)):Prop where
 each:∀ q∈qs,∃(h:Int)(j:Nat)(t:Sd),h*h=1/\ss[j]?=Kh t/\0<tn e t.2*h/\(∀ u∈ss,0<tn e u.2*h->sv u.2 (pt3 (crL e t.2))<=0)/\q.2=pt3 (crL e t.2)
 noend:qs=[]->oM ss e 1 Ki/\oM ss e (-1) Ki
 full:kZ ss e 1 (qs.map (·.2))/\kZ ss e (-1) (qs.map (·.2))
def rT(K:b6):Sp:=λh H Q _=>E4 λ(l a:b9) (c:List Sd) (e:P3)=>A10 (h=[.ref l,.ref a]) (SqL K H l (zS c)) (jq H c) (c.length<=1000) (Sq K H a [.int e.1,.int e.2.1,.int e.2.2]) (e.1≠0\/e.2.1≠0) (e.1.natAbs<=10^9) (e.2.1.natAbs<=10^9) (e.2.2.natAbs<=10^13) (∀(D:b9)(d:List (b9×P3))(g:Hp),Same H g->H D=Ki->g D=Kh (.lst (wR d))->lF g d->d.length<=2->Py c e d->Q (.ref D) g)
def jz(F:Fun K "edge_ends" "edge_ends" tX f fd)(Z:Zs mg)(CB:Cb P w mg base)(yBl:Has P w K mg base "crossing" 4 ["one","other"] (tP K))(yBp:Has P w K mg base "edge_end" 5 ["sides","edge","hand"] (qY K)):yS P w K mg base CX0 6 f fd ["sides","edge"] (rT K):=by
 specialize vp
 ·obtain⟨l,a,d,e,rfl,_⟩:=h;rfl
 obtain⟨l,a,d,e,rfl,hl,ok,y,ha,hn,b1,b2,b3,q⟩:=h
 refine'⟨_,(zB (zO 2 vp.nd ?_)
   (zD (zM (yP (T:=["number"]) (caps:=[("edge",1),("sides",0)]) ⟨rfl,by ac_nf,by ac_nf,rfl,⟨⟨rfl,rfl,BD rfl⟩,⟨rfl,rfl,BD rfl⟩,x8⟩⟩ rfl (yQ (pv 2)) (λ_=>(wO 0 (show(["number","edge","sides"]:List j4).Nodup by ac_nf))) (λ_=>(ur ?_)) (λ_=>?_))))),?_⟩
 nofun
 refine⟨_,U,_,U,_,U,l,a,d,e,-1,U,hl,ok,y,ha,hn,b1,b2,b3,.inr rfl,λr1 H1 s1 k1=>?_⟩;refine⟨_,U,_,U,l,a,d,e,1,U,s1.seq hl,ok.same s1,y,ha.same s1,hn,b1,b2,b3,.inl rfl,λr2 H2 s2 k2=>?_⟩;refine⟨sz2,λJ hnl=>?_⟩;have N:Same H2 (upd H2 J (.lst [iL r1,iL r2])):=zC hnl _;have G:upd H2 J (.lst [iL r1,iL r2]) J=Kh (.lst [iL r1,iL r2]):=zA;generalize upd H2 J (.lst [iL r1,iL r2])=H3 at N G ⊢;have s3:=(s1.trans s2).trans N;have one:∀(i:Nat)(v:V),[iL r1,iL r2][i]?=Kh v->(v=.non/\((i=0/\oM d e (-1) Ki)\/(i=1/\oM d e 1 Ki)))\/∃(j:Nat)(t:Sd)(h:Int),v=.int j/\((i=0/\h = -1)\/(i=1/\h=1))/\h*h=1/\d[j]?=Kh t/\0<tn e t.2*h/\∀ u∈d,0<tn e u.2*h->sv u.2 (pt3 (crL e t.2))<=0:=λi v S=>by
  match i,S with
  | 0,S =>
   cases S;cases r1 with
   | none=>rwa[.inl ⟨rfl,.inl ⟨rfl,k1⟩⟩]
   | some j=>obtain⟨t,g,p,r⟩:=k1; rwa[.inr ⟨j,t,-1,rfl,.inl ⟨rfl,rfl⟩,rfl,g,p,r⟩]
  | 1,S =>
   cases S;cases r2 with
   | none=>rwa[.inl ⟨rfl,.inr ⟨rfl,k2⟩⟩]
   | some j=>obtain⟨t,g,p,r⟩:=k2; rwa[.inr ⟨j,t,1,rfl,.inr ⟨rfl,rfl⟩,rfl,g,p,r⟩]
 refine⟨_,U,J,U,.inl ⟨⟨_,SqL.of G⟩,λc D hD=>xx (K:=K) (a:=J) (xs:=[iL r1,iL r2]) (λi σ M I=>A4 (Same H3 I) (I D=Kh (.lst M)) (∃ n:List (b9×P3),A5 (M=wR n) (n.length<=i) (lF I n) (∀ q∈n,∃(h:Int)(j:Nat)(t:Sd),h*h=1/\d[j]?=Kh t/\0<tn e t.2*h/\(∀ u∈d,0<tn e u.2*h->sv u.2 (pt3 (crL e t.2))<=0)/\q.2=pt3 (crL e t.2)) ((0<i->kZ d e (-1) (n.map (·.2)))/\(1<i->kZ d e 1 (n.map (·.2))))) (∃ u0:Option V,σ=[u0,Kh (.ref a),Kh (.ref l)]))
  ⟨zC hD _,zA,⟨[],rfl,f6 _,(λt ht=>nomatch ht),(λt ht=>nomatch ht),⟨λz=>x4 z (Bj _),λz=>x4 z (Bj _)⟩⟩,Ki,rfl⟩ (λi σ M I _ hq'=>by obtain⟨e1,e2,_⟩:=hq'; rwa[SqL.of (e1 _ _ G),e2]) ?_ ?_⟩⟩
 ·rintro i v σ M I hi ⟨O,L,⟨n,rfl,hq,x,each,non⟩,u0,rfl⟩;have hi2:i<2:=(c6.mp hi).1;rcases one i v hi with ⟨rfl,C⟩ | ⟨j,t,h,rfl,hih,hh,gt,hp,hb⟩
  ·exists _,U,U,_,rfl;erw[vf ?_];erw[O,L,⟨n,rfl,by lia,x,each,?_⟩,_,rfl];rcases C with ⟨rfl,k⟩ | ⟨rfl,k⟩
   ·rwa[λ_=>.inl k,λz'=>x4 z' (by decide)]
   ·rwa[λ_=>non.1 (by decide),λ_=>.inl k]
  ·exists _,U,U,_,rfl;refine dI ?_;have hj:j<d.length:=(c6.mp gt).1;obtain⟨t',mt,Y,at'⟩:=uV (ss:=d) (i:=j) (k:=(j:Int)) rfl hj;rw[gt] at Y;cases Y;obtain⟨et0,_,c1,c2,c3⟩:=ok t mt;have B:=s3.trans O;refine⟨_,U,_,U,_,U,l,_,_,_,U,U,.inl (B.seq hl),at',a,t.1,e.1,e.2.1,e.2.2,t.2.1,t.2.2.1,t.2.2.2,U,ha.same B,.inr (SqT.of (B _ _ et0)),by lia,by lia,by lia,by lia,by lia,λz=>x4 z (xX hp),λ_ p H5 R X ep5=>?_⟩;obtain⟨sp,_,_⟩:=ya (xX hp);have ep5':H5 p=Kh (.tup [.int (pt3 (crL e t.2)).1,.int (pt3 (crL e t.2)).2.1,.int (pt3 (crL e t.2)).2.2]):=by
    have z:H5 p=Kh (.tup ((crL e t.2).map V.int)):=ep5;rw[z,sp.list];rfl
   have npD:p≠D:=λz=>by rw[z,L] at X; cases X
   refine⟨R _ _ L,zJ (by simp only[b5]; lia),(O.trans R).putNew hD,zA,⟨n++[(p,pt3 (crL e t.2))],by simp[wR],by rw[f8]; show n.length+1<=i+1; lia,λu o=>?_,λu o=>?_,?_⟩,_,rfl⟩
   ·rcases i9.mp o with o | o
    ·obtain⟨g1,g2⟩:=x u o;rwa[by rw[zH (tR (R _ _ g1) (R _ _ L) (by intro z; cases z))]; exact R _ _ g1,g2]
    ·rw[e9] at o;subst o;erw[?_,sp.pos,sp.low];show upd H5 D _ p=_;rw[zH npD];rwa[ep5']
   ·rcases i9.mp o with o | o
    ·rwa[each u o]
    ·rw[e9] at o;subst o;rwa[h,j,t,hh,gt,hp,hb,rfl]
   ·have me:kZ d e h ((n++[(p,pt3 (crL e t.2))]).map (·.2)):=.inr ⟨j,t,gt,hp,hb,by rw[d5]; rwa[t7 _ (e9.mpr rfl)]⟩;rcases hih with ⟨rfl,rfl⟩ | ⟨rfl,rfl⟩
    ·rwa[λ_=>me,λz'=>x4 z' (by decide)]
    ·rwa[λ_=>by rw[d5]; exact(non.1 (by decide)).app,λ_=>me]
 ·rintro σ M I ⟨O,L,⟨n,rfl,hq,x,each,non⟩,u0,rfl⟩;have f1:=non.2 (by show 1<2; decide);have f2:=non.1 (by show 0<2; decide);erw[q D n I (s3.trans O) (s3.free hD) L x hq ⟨each,λz=>?_,f1,f2⟩];rw[z] at f1 f2;erw[?_,?_]
  ·rcases f1 with f | ⟨_,_,_,_,_,m⟩
   ·rwa[f]
   ·exact nomatch m
  ·rcases f2 with f | ⟨_,_,_,_,_,m⟩
   ·rwa[f]
   ·exact nomatch m
def SL(H:Hp)(p:b9)(P:P3):Prop:=H p=Kh (.tup [.int P.1,.int P.2.1,.int P.2.2])/\0<P.2.2/\Ab (Ab P.1.natAbs P.2.1.natAbs) P.2.2.natAbs=1
def SL.same{H c:Hp}{P:P3}(h:SL H p P)(s:Same H c):SL c p P:=⟨s _ _ h.1,h.2⟩
def qM(K:b6):Sp:=λg H Q _=>E4 λ(l a:b9) (c:List Sd) (e:P3)=>A11 (g=[.ref l,.ref a]) (SqL K H l (zS c)) (jq H c) (c.length<=900) (Sq K H a [.int e.1,.int e.2.1,.int e.2.2]) (e.1≠0\/e.2.1≠0) (e.1.natAbs<=10^9) (e.2.1.natAbs<=10^9) (e.2.2.natAbs<=10^13) (∀ d,Same H d->(∀ z:P3,sv e z=0->0<z.2.2->¬ inW c z)->Q .non d) (∀(p:b9)(P:P3)(d:Hp),Same H d->SL d p P->inW c P->sv e P=0->(P=pt3 (ftL e)\/∃ t∈c,tn e t.2≠0/\P=pt3 (crL e t.2))->Q (.ref p) d)
def pQ(F:Fun K "spot_on_edge" "spot_on_edge" wX f fd)(Z:Zs mg)(CB:Cb P w mg base)(yBi:Has P w K mg base "edge_ends" 6 ["sides","edge"] (rT K))(yCp:Has P w K mg base "foot" 5 ["side"] (ut K))(yBm:Has P w K mg base "in_water" 3 ["sides","place"] (tO K)):yS P w K mg base CX0 7 f fd ["sides","edge"] (qM K):=by
 specialize rX
 ·obtain⟨l,a,o,e,rfl,_⟩:=h;rfl
 obtain⟨l,a,o,e,rfl,hl,ok,hlen,ha,T,b1,b2,b3,qn,q⟩:=h;have hN:=oA T
 refine'⟨_,(zB (xL m8 rfl (yQ (tT Xa ?_ ?_)) (wO 2 rX.nd) (zD (xJ ?_ (zD (zM (pv 2))) zU)))
   (zD (zM oF))),?_⟩
 nofun
 refine⟨_,U,_,U,l,a,o,e,U,hl,ok,by lia,ha,T,b1,b2,b3,λD d H1 s1 hD eD okq hq m=>?_⟩;refine⟨_,U,a,e,U,ha.same s1,T,b1,b2,λfp M s2 hfp efp=>?_⟩;obtain⟨O,f1⟩:=Vk T;have I:M fp=Kh (.tup [.int (pt3 (ftL e)).1,.int (pt3 (ftL e)).2.1,.int (pt3 (ftL e)).2.2]):=by
  rw[efp,O.list];rfl
 erw[sz1,λG hfl=>?_];have p:Same M (upd M G (.lst [.ref fp])):=zC hfl _;have J:upd M G (.lst [.ref fp]) G=Kh (.lst [.ref fp]):=zA;generalize upd M G (.lst [.ref fp])=X at p J ⊢;refine⟨D,G,_,_,U,U,p _ _ (s2 _ _ eD),J,mv (by simp only[b5]; show d.length+1<=1000; lia),λL hL=>?_⟩;have sL:Same X (upd X L (.lst (wR d++[.ref fp]))):=zC hL _;have eL:upd X L (.lst (wR d++[.ref fp])) L=Kh (.lst (wR (d++[(fp,pt3 (ftL e))]))):=by rw[zA]; simp[wR]
 generalize upd X L (.lst (wR d++[.ref fp]))=H4 at sL eL ⊢;have r:=p.trans sL;have x:=s2.trans r;have n:=s1.trans x;have okA:lF H4 (d++[(fp,pt3 (ftL e))]):=λu c=>by
  rcases i9.mp c with c | c
  ·rwa[okq.same x u c]
  ·rw[e9] at c;subst c;rwa[r _ _ I,O.pos,O.low]
 refine⟨L,U,.inl ⟨⟨_,SqL.of eL⟩,xD (K:=K) (a:=L) (xs:=wR (d++[(fp,pt3 (ftL e))])) (λi N Y=>A3 (H4=Y) (∀ j u,j<i->(d++[(fp,pt3 (ftL e))])[j]?=Kh u->¬ inW o u.2) (∃ u2:Option V,N=[Kh (.ref l),Kh (.ref a),u2]))
  ⟨rfl,λj t B=>x4 B (Bj _),Ki,rfl⟩ (λi N Y _ hq'=>by obtain⟨e1,_⟩:=hq'; rw[<- e1]; rwa[SqL.of eL]) ?_ ?_⟩⟩
 ·rintro i v N Y hi ⟨rfl,g,u2,rfl⟩;rw[c7,c7] at hi;cases C:(d++[(fp,pt3 (ftL e))])[i]? with
  | none=>rw[C] at hi; cases hi
  | some u =>
   rw[C] at hi;cases hi;obtain⟨eu,pu,lu⟩:=okA u (f7 C);exists _,U,_,U,l,u.1,o,u.2,U,n.seq hl,ok.same n,.inr (SqT.of eu),_,rfl;by_cases R:jv o u.2=Kj
   ·rw[R];refine dI ?_;have on:sv e u.2=0/\(u.2=pt3 (ftL e)\/∃ t∈o,tn e t.2≠0/\u.2=pt3 (crL e t.2)):=by
     rcases i9.mp (f7 C) with c | c
     ·obtain⟨h,j,t,_,gt,S,_,eq⟩:=m.each u c;rw[eq];rwa[(ya (xX S)).2.1,.inr ⟨t,f7 gt,xX S,rfl⟩]
     ·rw[e9] at c;rw[c];rwa[f1,.inl rfl]
    rwa[_,rfl,q u.1 u.2 _ n ⟨eu,pu,lu⟩ (uw.mp R) on.1 on.2]
   ·have hw':jv o u.2=false:=by simpa using R
    rw[hw'];erw[vf ?_];erw[rfl,λj t B ht=>?_,_,rfl];by_cases ej:j=i
    ·rw[ej,C] at ht;cases ht;rwa[λz=>R (uw.mpr z)]
    ·rwa[g j t (by lia) ht]
 ·rintro N Y ⟨rfl,g,u2,rfl⟩;refine qn _ n λz hz zw wz=>?_;have y:∀ u∈d++[(fp,pt3 (ftL e))],¬ inW o u.2:=λu c=>by
   obtain⟨j,B,ej⟩:=AO c;rwa[g j u (by simp only[b5]; exact B) (by rw[b8 B,ej])]
  cases d with
  | nil =>
   obtain⟨n1,n2⟩:=m.noend rfl;rwa[y (fp,pt3 (ftL e)) (by simp) (WP hN hz zw wz f1 O.pos n1 n2)]
  | cons u us =>
   obtain⟨h,j,t,hh,gt,S,hb,eq⟩:=m.each u (o4 ..);erw[y u (by simp) ?_];rw[eq];rwa[QQ hh hN hz zw wz gt S hb]
def dQ(c:List Sd)(n:Nat):yg (zS c) Ki (Kh (n:Int))=zS (c.take n):=by
 unfold yg;rw[show HT.sIx (zS c).length 0 Ki=0 from rfl,HT.sIx_nat (zS c).length (zS c).length n,Fb,Ht];rw[zQ];simp only[zS,<- Cg]
 congr 2
 rw[List.take_eq_take_iff];lia
def lH(K:b6):Sp:=λg H Q _=>E2 λ(l:b9) (d:List Sd)=>A6 (g=[.ref l]) (SqL K H l (zS d)) (jq H d) (d.length<=900) (∀(t:b9)(j:Nat)(e:Sd)(P:P3)(c:Hp),Same H c->c t=Kh (.tup [.non,.int j])->Ox d j e P->Q (.ref t) c) (∀(t p:b9)(P:P3)(c:Hp),Same H c->c t=Kh (.tup [.ref p,.non])->SL c p P->inW d P->Oq d P->Q (.ref t) c)
def cz(F:Fun K "sought" "sought" wk f fd)(Z:Zs mg)(CB:Cb P w mg base)(yCl:Has P w K mg base "holds" 2 ["side","spot"] (rZ K))(yAj:Has P w K mg base "spot_on_edge" 7 ["sides","edge"] (qM K))(yCm:Has P w K mg base "spot" 4 ["x","y","w"] (uh K)):yS P w K mg base CX0 8 f fd ["sides"] (lH K):=by
 specialize zx
 ·obtain⟨l,e,rfl,_⟩:=h;rfl
 obtain⟨l,e,rfl,B,ok,hlen,qn,q⟩:=h
 refine'⟨_,(zB (zO 1 zx.nd ?_)
   (zB (xL m8 rfl (xC rfl Z.range ?_) (wO 2 zx.nd) (zD (xJ ?_ (zB (zO 1 zx.nd ?_)
   (zD (xJ ?_ (zD (zM ?_)) zU))) zU)))
   (zD (zM ?_)))),?_⟩
 nofun
 refine⟨0,0,1,U,by decide,by ac_nf,λp0 H1 s1 hp0 X=>?_⟩;have y:SL H1 p0 (0,0,1):=⟨X,by decide,by decide⟩;refine⟨_,U,l,_,U,.inl (s1.seq B),_,U,(by rw[zQ]; lia),(by rw[zQ]; lia),wC (lo:=0) (n:=(((zS e).length:Nat):Int).toNat) (λi C r=>Same H r/\E3 λ(p:b9) (P:P3) (G:Option V)=>A4 (SL r p P) (inW (e.take i) P) (Oq e P) (C=[Kh (.ref l),Kh (.ref p),G]))
  ⟨s1,p0,(0,0,1),Ki,y,(λt N=>nomatch N),.inl rfl,rfl⟩ ?_ ?_⟩
 ·rintro i C r hi ⟨j,p,P,G,z,v,cp,rfl⟩;have R:i<e.length:=by rw[j3,zQ] at hi; rwa[hi]
  obtain⟨t,mt,gt,at'⟩:=uV (ss:=e) (i:=i) (k:=0+(i:Int)) (by lia) R;obtain⟨S,nt,c1,c2,c3⟩:=ok t mt;have et:Sq K r t.1 [.int t.2.1,.int t.2.2.1,.int t.2.2.2]:=.inr (SqT.of (j _ _ S));exists _,U,_,U,l,_,_,_,U,U,.inl (j.seq B),at',_,U,t.1,p,t.2.1,t.2.2.1,t.2.2.2,P.1,P.2.1,P.2.2,U,et,.inr (SqT.of z.1),by lia,by lia,by lia,_,rfl;erw[ifN (λx=>?_) (λO=>?_)]
  ·have o:0<sv t.2 P:=by
    have:¬ sv t.2 P<=0:=x;lia
   erw[_,rfl,_,rfl,_,rfl,l,_,rfl,j.seq B,λc hc=>?_];rw[show(0:Int)+(i:Int)=((i:Nat):Int) from Aw _,dQ];have J:=zC hc (.lst (zS (e.take i)));have ec:upd r c (.lst (zS (e.take i))) c=Kh (.lst (zS (e.take i))):=zA;generalize upd r c (.lst (zS (e.take i)))=H2 at J ec ⊢;have g:=j.trans J;rw[show(0:Int)+(i:Int)=((i:Nat):Int) from Aw _] at at';erw[_,rfl,_,rfl,l,_,_,_,rfl,rfl,.inl (g.seq B),at',c,t.1,e.take i,t.2,rfl,SqL.of ec,(λu d=>ok.same g u (Aj d)),by rw[g8]; lia,et.same J,nt,c1,c2,c3,λH3 L no=>?_,λp3 P3' H3 L T D M Y=>?_]
   ·exists _,U,U,_,rfl;erw[dI ?_];erw[_,rfl,sz2,λI m=>?_];rwa[qn I i t P _ ((g.trans L).trans (zC m _)) zA ⟨gt,z.2.1,v,o,no⟩]
   ·exists _,U,U,_,rfl;erw[vf ?_];erw[g.trans L,p3,P3',_,T,λu d=>?_,?_,rfl]
    ·rw[xK gt] at d;rcases i9.mp d with d | d
     ·rwa[D u d]
     ·rw[e9] at d;rw[d,M];rwa[Ci _]
    ·rcases Y with h | ⟨u,d,N,h⟩
     ·rwa[.inr (.inl ⟨t,mt,h⟩)]
     ·rwa[.inr (.inr ⟨t,mt,u,Aj d,N,h⟩)]
  ·erw[j,p,P,_,z,λu d=>?_,cp,rfl];rw[xK gt] at d;rcases i9.mp d with d | d
   ·rwa[v u d]
   ·rw[e9] at d;rw[d];rwa[O]
 ·rintro C r ⟨j,p,P,G,z,v,cp,rfl⟩;rw[j3,zQ,i8] at v;erw[_,rfl,sz2,λI m=>?_];have st:=zC m (.tup [.ref p,.non]);rwa[q I p P _ (j.trans st) zA (z.same st) v cp]
structure CoK(ss:List Sd)(n:Nat)(ks:List (List Int)):Prop where
 each:∀ k∈ks,∃ P:P3,Cor ss P/\k=[P.1,P.2.1,P.2.2]
 all:∀(a:Nat)(t:Sd),a<n->ss[a]?=Kh t->∀ u∈ss,tn t.2 u.2≠0->inW ss (pt3 (crL t.2 u.2))->crL t.2 u.2∈ks
structure sU(H:Hp)(D:b9)(ss:List Sd)(ps:List SpT):Prop where
 at':H D=Kh (.lst (yU ps))
 ok:∀ t∈ps,Yx H t/\0<t.2.2.2/\Ab (Ab t.2.1.natAbs t.2.2.1.natAbs) t.2.2.2.natAbs=1
 nodup:(ps.map (·.2)).Nodup
 mem:∀ P:P3,P∈ps.map (·.2)↔Cor ss P
 rises:ps.Pairwise leS
 few:ps.length<=ss.length
def SO{P:P3}(c:Cor d P):0<P.2.2/\Ab (Ab P.1.natAbs P.2.1.natAbs) P.2.2.natAbs=1:=by
 obtain⟨t,_,u,_,h,rfl,_⟩:=c;obtain⟨sp,_,_⟩:=ya h;rwa[sp.pos,sp.low]
def SR{d:List Sd}(I:∀ t∈d,t.2.1≠0\/t.2.2.1≠0){p:List P3}(nd:p.Nodup)(J:∀ P∈p,Cor d P):p.length<=d.length:=by
 have ex:∀ e:Sd,∃ q:P3,e∈d->∀ u∈d,0<tn e.2 u.2*1->inW d (pt3 (crL e.2 u.2))->pt3 (crL e.2 u.2)=q:=λe=>by
  by_cases h:∃ u∈d,0<tn e.2 u.2*1/\inW d (pt3 (crL e.2 u.2))
  ·obtain⟨u,j,C,i⟩:=h;erw[pt3 (crL e.2 u.2),λA v s l r=>?_];have B:=oA (I e A);obtain⟨n,o,H⟩:=ya (xX l);obtain⟨m,r1,r2⟩:=ya (xX C);have N:=ZH (h:=1) (by decide) B o r1 n.pos H (i v s) l;have M:=ZH (h:=1) (by decide) B r1 o m.pos r2 (r u j) C;rw[dP] at M;obtain⟨G,E⟩:=jS B o r1 (by lia);rwa[mK n.pos m.pos n.low m.low G E]
  ·rwa[(0,0,1),λ_ v s l r=>x4 ⟨v,s,l,r⟩ h]
 have fn:∃ g:Sd->P3,∀ e∈d,∀ u∈d,0<tn e.2 u.2*1->inW d (pt3 (crL e.2 u.2))->pt3 (crL e.2 u.2)=g e:=⟨λe=>HJ (ex e),λe A=>Go (ex e) A⟩;obtain⟨g,D⟩:=fn;have z:=au (ys:=d.map g) nd λP L=>by
  obtain⟨t,y,u,j,h0,rfl,i⟩:=J P L;by_cases c:0<tn t.2 u.2
  ·rw[D t y u j (by lia) i];rwa[t5 y]
  ·have x:0<tn u.2 t.2*1:=by
    unfold tn at c h0 ⊢;rw[o0 u.2.1,o0 u.2.2.1];lia
   rw[XA h0] at i ⊢;rw[D u j t y x i];rwa[t5 j]
 (rw[b5] at z;assumption)
def Pa{ss:List Sd}{t u:Sd}(h:tn t.2 u.2≠0):crL t.2 u.2=[(pt3 (crL t.2 u.2)).1,(pt3 (crL t.2 u.2)).2.1,(pt3 (crL t.2 u.2)).2.2]:=(ya h).1.list
def og(K:b6):Sp:=λe H Q _=>E2 λ(l:b9) (c:List Sd)=>A5 (e=[.ref l]) (SqL K H l (zS c)) (jq H c) (c.length<=63) (∀(D:b9)(g:List SpT)(d:Hp),Same H d->H D=Ki->sU d D c g->Q (.ref D) d)
def fB(F:Fun K "corners" "corners" zz f fd)(Z:Zs mg)(CB:Cb P w mg base)(yBn:Has P w K mg base "in_order" 15 ["spots"] (ul K))(yBi:Has P w K mg base "edge_ends" 6 ["sides","edge"] (rT K))(yBm:Has P w K mg base "in_water" 3 ["sides","place"] (tO K)):yS P w K mg base CX0 16 f fd ["sides"] (og K):=by
 specialize rK
 ·obtain⟨l,G,rfl,_⟩:=h;rfl
 obtain⟨l,G,rfl,hl,ok,hlen,q⟩:=h;have hu1:=Am (Dv (show 1<=64 by decide) _) hr.units;have big:∀ n:Nat,n<=1000000->n<sizeLine:=λn hn=>Am hn (by decide)
 refine'⟨_,(zB (zO 1 rK.nd io)
   (zB (xL m8 rfl (yQ (pv 0)) (wO 2 rK.nd) (zD (xL m8 rfl (yQ ?_) (wO 3 rK.nd) (zD (xJ ?_ (zD (qQ (yT hr) (pv 1) (pv 3) ff rfl)) zU)))))
   (zD (zM (yX yBn (hr.mono (by decide)) rfl (zG (uY (oa rfl) rfl Z.list pP (zG (pv 1) zL)) zL)))))),?_⟩
 nofun
 refine λd hd=>?_;refine⟨_,U,l,U,.inl ⟨⟨_,(zC hd _).seq hl⟩,xD (K:=K) (a:=l) (xs:=zS G) (λi T o=>A3 (Same H o) (E2 λc g=>A4 (o d=Kh (.dT c)) (dL c g) (g.length<=2*i) (CoK G i g)) (E2 λ(u2 u3:Option V)=>T=[Kh (.ref l),Kh (.ref d),u2,u3]))
  ⟨zC hd _,⟨[],[],zA,.nil,f6 _,(λk hk=>nomatch hk),λa t ha=>x4 ha (Bj _)⟩,Ki,Ki,rfl⟩ (λi T o _ hq'=>by obtain⟨e,_⟩:=hq'; rwa[e.seq hl]) ?_ ?_⟩⟩
 ·rintro i v T o hi ⟨sH,⟨c,g,eD,S,hks,B⟩,u2,u3,rfl⟩;obtain⟨t,gt,rfl,hil⟩:=pO hi;obtain⟨et0,nt,b1,b2,b3⟩:=ok t (f7 gt);have hN:=oA (t:=t.2) nt;erw[_,rfl,_,rfl,l,t.1,G,t.2,rfl,sH.seq hl,ok.same sH,by lia,.inr (SqT.of (sH _ _ et0)),nt,b1,b2,b3,λL Y H2 s2 hL eL okq hq O=>?_];have eD2:=s2 _ _ eD;have nLd:L≠d:=λz=>by rw[z] at eL; rw[eL] at eD2; cases eD2
  refine⟨L,U,.inl ⟨⟨_,SqL.of eL⟩,xD (K:=K) (a:=L) (xs:=wR Y) (λj T o=>A5 (Same H o) (o L=Kh (.lst (wR Y))) (lF o Y) (E2 λc g=>A5 (o d=Kh (.dT c)) (dL c g) (g.length<=2*i+j) (CoK G i g) (∀ m x,m<j->Y[m]?=Kh x->inW G x.2->[x.2.1,x.2.2.1,x.2.2.2]∈g)) (∃ u3:Option V,T=[Kh (.ref l),Kh (.ref d),Kh (.ref t.1),u3]))
   ⟨sH.trans s2,eL,okq,⟨c,g,eD2,S,by lia,B,λm x hm=>x4 hm (Bj _)⟩,_,rfl⟩ (λj T o _ hq'=>by obtain⟨_,e,_⟩:=hq'; rwa[SqL.of e]) ?_ ?_⟩⟩
  ·rintro j v T H4 hj ⟨s4,eL4,I,⟨c,g,R,S,hks4,B,done⟩,u3,rfl⟩;rw[c7,c7] at hj;cases gx:Y[j]? with
   | none=>rw[gx] at hj; cases hj
   | some x =>
    rw[gx] at hj;cases hj;have hj2:j<Y.length:=(c6.mp gx).1;obtain⟨ex,px,lx⟩:=I x (f7 gx);exists _,U,_,U,l,x.1,G,x.2,U,s4.seq hl,ok.same s4,.inr (SqT.of ex),_,rfl;by_cases hw:jv G x.2=Kj
    ·rw[hw];refine dI ?_;obtain⟨ks',tk',C,len'⟩:=S.put [x.2.1,x.2.2.1,x.2.2.2] (.bl Kj);have kl:=S.len;exists _,U,_,U,d,_,U,cR.t (k:=qc [x.2.1,x.2.2.1,x.2.2.2]) R (by rw[vg]; exact ex) (by rw[kl]; exact big _ (by lia));have keepT:∀(b:b9)(xs:List V),H4 b=Kh (.tup xs)->upd H4 d (.dT (qO c (qc [x.2.1,x.2.2.1,x.2.2.2]) (.bl Kj))) b=Kh (.tup xs):=λb xs e=>by
      rw[zH (tR e R (by intro z; cases z))];rwa[e]
     erw[s4.putNew hd,by rw[zH nLd]; exact eL4,λy hy=>⟨keepT _ _ (I y hy).1,(I y hy).2⟩,⟨_,ks',zA,tk',by lia,⟨λk hk=>?_,λa t' ha r u M p J=>(C _).mpr (.inl (B.all a t' ha r u M p J))⟩,λm y hm gy hwy=>?_⟩,_,rfl]
     ·rcases (C k).mp hk with h | h
      ·rwa[B.each k h]
      ·obtain⟨hh,j',t',_,r,hp,_,eq⟩:=O.each x (f7 gx);erw[x.2,⟨t,f7 gt,t',f7 r,xX hp,eq,uw.mp hw⟩,h]
     ·by_cases e:m=j
      ·rw[e,gx] at gy;cases gy;exact(C _).mpr (.inr rfl)
      ·exact(C _).mpr (.inl (done m y (by lia) gy hwy))
    ·have hw':jv G x.2=false:=by simpa using hw
     rw[hw'];erw[vf ?_];erw[s4,eL4,I,⟨c,g,R,S,by lia,B,λm y hm gy hwy=>?_⟩,_,rfl];by_cases e:m=j
     ·rw[e,gx] at gy;cases gy;rwa[x4 (uw.mpr hwy) hw]
     ·rwa[done m y (by lia) gy hwy]
  ·rintro T H4 ⟨s4,eL4,I,⟨c,g,R,S,hks4,B,done⟩,u3,rfl⟩;have hq2:(wR Y).length=Y.length:=by simp
   rw[hq2] at hks4 done;erw[s4,⟨c,g,R,S,by lia,B.each,λa t' ha r u M p J=>?_⟩,_,_,rfl];by_cases e:a=i
   ·rw[e,gt] at r;cases r;obtain⟨k,hk1,hkk,hpos⟩:=Rz p;have f:kZ G t.2 k (Y.map (·.2)):=by
     rcases hk1 with rfl | rfl
     ·rwa[O.full.1]
     ·rwa[O.full.2]
    have m:=Ry hkk hN M hpos J f;obtain⟨y,hy,ey⟩:=g9.mp m;obtain⟨b,hb,eb⟩:=AO hy;have z:=done b y hb (by rw[b8 hb,eb]) (by rw[ey]; rwa[J]);rw[ey] at z;rw[Pa (ss:=G) p];rwa[z]
   ·rwa[B.all a t' (by lia) r u M p J]
 ·rintro T o ⟨sH,⟨c,g,eD,S,hks,B⟩,u2,u3,rfl⟩;rw[zQ] at hks B;erw[_,rfl,d,c,rfl,eD,λp1 ts hp1 ets hts=>?_];have X:Same o (upd o p1 (.lst ((ts.map (·.1)).map V.ref))):=zC hp1 _;have ep1:upd o p1 (.lst ((ts.map (·.1)).map V.ref)) p1=Kh (.lst ((ts.map (·.1)).map V.ref)):=zA;obtain⟨us,w1,w2,w3⟩:=S.refs ets hts;have w3':∀ u∈us,upd o p1 (.lst ((ts.map (·.1)).map V.ref)) u.1=Kh (.tup (u.2.map V.int)):=λu M=>X _ _ (w3 u M);generalize upd o p1 (.lst ((ts.map (·.1)).map V.ref))=H2 at X ep1 w3' ⊢
  let xs:List SpT:=us.map λu=>(u.1,pt3 u.2)
  have xk:xs.map (·.2)=g.map pt3:=by
   show(us.map λu=>((u.1,pt3 u.2):SpT)).map (·.2)=_;rw[<- w2,Ag,Ag];rfl
  have xr:yU xs=(ts.map (·.1)).map V.ref:=by
   show(us.map λu=>((u.1,pt3 u.2):SpT)).map (λt=>V.ref t.1)=_;rw[<- w1,Ag,Ag];rfl
  have xl:xs.length=g.length:=by
   have z:=congrArg z9 w2;rw[b5] at z;show(us.map λu=>((u.1,pt3 u.2):SpT)).length=_;rw[b5];rwa[z]
  have kc:∀ P∈g.map pt3,Cor G P:=λP hP=>by
   obtain⟨k,hk,rfl⟩:=g9.mp hP;obtain⟨P,cP,rfl⟩:=B.each k hk;rwa[cP]
  have knd:(g.map pt3).Nodup:=by
   rw[List.Nodup,BE];erw[FK (λ{k k'} hk hk' hne e=>?_) S.nodup];obtain⟨P,cP,rfl⟩:=B.each k hk;obtain⟨P',cP',rfl⟩:=B.each k' hk';have e':P=P':=e;rwa[hne (by rw[e'])]
  have few:=SR (λt N=>(ok t N).2.1) knd kc;rw[b5] at few;have okx:∀ t∈xs,Yx H2 t/\0<t.2.2.2/\Ab (Ab t.2.1.natAbs t.2.2.1.natAbs) t.2.2.2.natAbs=1:=λt N=>by
   obtain⟨u,M,rfl⟩:=g9.mp N;have huk:u.2∈g:=by rw[<- w2]; rwa[t5 M]
   obtain⟨P,cP,eP⟩:=B.each u.2 huk;have e0:=w3' u M;have lw:=SO cP;obtain⟨a,ha,b,hb,hab,rfl,_⟩:=cP;obtain⟨_,_,x1,x2,x3⟩:=ok a ha;obtain⟨_,_,y1,y2,y3⟩:=ok b hb;obtain⟨z1,z2,z3⟩:=VW hab x1 x2 x3 y1 y2 y3;rw[eP] at e0;have e1:pt3 u.2=pt3 (crL a.2 b.2):=by rw[eP]; rfl
   erw[⟨?_,?_⟩,?_]
   ·show H2 u.1=Kh (.tup [.int (pt3 u.2).1,.int (pt3 u.2).2.1,.int (pt3 u.2).2.2]);rw[e1];rwa[e0]
   ·show(pt3 u.2).1.natAbs<=10^100/\(pt3 u.2).2.1.natAbs<=10^100/\(pt3 u.2).2.2.natAbs<=10^100;rw[e1];rwa[SH z1,SH z2,SH z3]
   ·show 0<(pt3 u.2).2.2/\Ab (Ab (pt3 u.2).1.natAbs (pt3 u.2).2.1.natAbs) (pt3 u.2).2.2.natAbs=1;rw[e1];rwa[lw]
  refine⟨p1,xs,U,by rw[xr]; exact SqL.of ep1,λt N=>(okx t N).1,g7 (show xs.length<=63 by lia) (by decide),by lia,λD H3 s3 hD eD3=>?_⟩;have pm:=vJ 12 xs;have pm2:((we 12 xs).map (·.2)).Perm (g.map pt3):=by rw[<- xk]; rwa[pm.map _]
  refine q D (we 12 xs) H3 ((sH.trans X).trans s3) ((sH.trans X).free hD) ⟨eD3,λt N=>?_,pm2.nodup_iff.mpr knd,λP=>?_,pC 12 xs (g7 (show xs.length<=63 by lia) (by decide)) λt N=>(okx t N).2.1,?_⟩
  ·obtain⟨h1,h2⟩:=okx t (pm.mem_iff.mp N);rwa[h1.same s3,h2]
  ·rw[pm2.mem_iff];erw[kc P,λcP=>?_];obtain⟨t,N,u,M,p,rfl,hw⟩:=cP;obtain⟨a,ha,ea⟩:=AO N;rwa[t5 (B.all a t ha (by rw[b8 ha,ea]) u M p hw)]
  ·rw[pm.length_eq,xl];rwa[few]
def gM(K:b6):Sp:=λd H Q _=>E4 λ(a:b9) (c:List V) (x y:Int)=>A5 (d=[.ref a]) (Sq K H a c) (atI c 0=Kh (.int x)) (atI c 1=Kh (.int y)) (Q (.int (vM x y)) H)
def WC(F:Fun K "span" "span" nX f fd)(Z:Zs mg)(e:Cb P w mg base)  : yS P w K mg base CX0 1 f fd ["direction"] (gM K):=by
 specialize WL
 ·obtain⟨a,d,x,y,rfl,_⟩:=h;rfl
 obtain⟨a,d,x,y,rfl,c,h0,h1,q⟩:=h
 refine'⟨_,(zD (zM ?_)),?_⟩
 nofun
 rwa[_,rfl,a,_,_,.int x,rfl,rfl,c,h0,_,rfl,_,rfl,a,_,_,.int y,rfl,rfl,c,h1,_,rfl,_,_,rfl,rfl,q]
def yz(K:b6):Sp:=λg H Q _=>E4 λ(a b:b9) (ns c:List Int)=>A8 (g=[.ref a,.ref b]) (SqL K H a (ns.map V.int)) (SqL K H b (c.map V.int)) (ns.length=c.length) (c.length<=900) (0<yR c) ((yR c:Int)<10^600) (∀(D:b9)(e:List Pr)(d:Hp),Same H d->H D=Ki->d D=Kh (.lst (zl e))->Tl d e->e.map (·.2)=ns.zip (qH c)->Q (.ref D) d)
def eQ(F:Fun K "weighed" "weighed" qZ f fd)(Z:Zs mg)(CB:Cb P w mg base)(S:Has P w K mg base "lowest" 2 ["numbers"] (vK K)):yS P w K mg base CX0 3 f fd ["numbers","weights"] (yz K):=by
 specialize oC
 ·obtain⟨a,b,ns,j,rfl,_⟩:=h;rfl
 obtain⟨a,b,ns,j,rfl,ha,Y,hn,hl,X,N,q⟩:=h
 refine'⟨_,(zB (zO 2 oC.nd ?_)
   (zD (zM (yP (T:=["at"]) (caps:=[("least",2),("numbers",0)]) ⟨rfl,by ac_nf,by ac_nf,rfl,⟨⟨rfl,rfl,BD rfl⟩,⟨rfl,rfl,BD rfl⟩,x8⟩⟩ rfl (xC rfl Z.range ?_) (λ_=>(wO 0 (show(["at","least","numbers"]:List j4).Nodup by ac_nf))) (λ_=>yD) (λ_=>?_))))),?_⟩
 nofun
 erw[_,rfl,b,j,rfl,.inl Y,by lia,X,N,λp H1 J hp ep=>?_];have R:(qH j).length=j.length:=by unfold qH; rw[b5]
 have y:=J.seq ha;refine⟨_,U,a,_,U,.inl y,_,U,(by rw[b5]; lia),(by rw[b5]; lia),λcc D O=>vb (lo:=0) (n:=(((ns.map V.int).length:Nat):Int).toNat) (λi C l G=>A4 (Same H1 G) (G D=Kh (.lst l)) (∃ d:List Pr,A3 (l=zl d) (Tl G d) (d.map (·.2)=(ns.zip (qH j)).take i)) (∃ I:Option V,C=[I,Kh (.ref p),Kh (.ref a)]))
  ⟨zC O _,zA,⟨[],rfl,(λt v=>nomatch v),rfl⟩,Ki,rfl⟩ (λi C l G _ M=>by obtain⟨_,e,_⟩:=M; rwa[e]) ?_ ?_⟩
 ·rintro i C l G hi ⟨o,B,⟨d,rfl,c,r⟩,I,rfl⟩;rw[j3,b5] at hi;have lc:d.length<=i:=by
   have z:=congrArg z9 r;rw[b5,g8] at z;lia
  obtain⟨n,gn,an⟩:=YG (ns:=ns) (i:=i) (k:=0+(i:Int)) (by lia) hi;obtain⟨m,gm,am⟩:=YG (ns:=qH j) (i:=i) (k:=0+(i:Int)) (by lia) (by lia);erw[_,rfl,_,rfl,a,_,_,_,rfl,rfl,.inl (o.seq y),an,_,rfl,_,rfl,p,_,_,_,rfl,rfl,.inr (SqT.of (o _ _ ep)),am,sz2,λt v=>?_];have st:=zC v (.tup [.int n,.int m]);have L:t≠D:=λz=>by rw[z,B] at v; cases v
  erw[st _ _ B,zJ (by rw[rh]; lia),(o.trans st).putNew O,zA,⟨d++[(t,n,m)],by simp[zl],λu g=>?_,?_⟩,_,rfl]
  ·rcases i9.mp g with g | g
   ·rw[zH (tR (st _ _ (c u g)) (st _ _ B) (by intro z; cases z))];rwa[st _ _ (c u g)]
   ·rw[e9] at g;subst g;show upd _ D _ t=_;rw[zH L];rwa[zA]
  ·rw[d5,r,xK (x:=(n,m)) (by rw[List.getElem?_zip_eq_some]; rwa[gn,gm])];rfl
 ·rintro C l G ⟨o,B,⟨d,rfl,c,r⟩,I,rfl⟩;rw[j3,b5,Ax (by rw[Gn]; lia)] at r;rwa[q D d G (J.trans o) (J.free O) B c r]
def XY{a b c d:Int}(h:a.natAbs<=10^9)(g:b.natAbs<=10^9)(e:c.natAbs<=10^9)(hd:d.natAbs<=10^9):ox (a*b-c*d)<=10^19:=by
 have j:=zT a b h g;have i:=zT c d e hd;unfold ox;split <;> lia
def sF(K:b6):Sp:=λh H Q _=>E5 λ(l:b9) (c:List Sd) (j:Nat) (e:Sd) (P:P3)=>A7 (h=[.ref l,.int j]) (SqL K H l (zS c)) (jq H c) (c.length<=900) (Ox c j e P) (∀ t∈c.take j,tn e.2 t.2=0->sv t.2 (pt3 (ftL e.2))<=0) (∀(D:b9)(g:List Pr)(d:Hp),Same H d->H D=Ki->d D=Kh (.lst (zl g))->Tl d g->oJ c (g.map (·.2))->Q (.ref D) d)
def va(F:Fun K "clash_of_three" "clash_of_three" wA f fd)(Z:Zs mg)(CB:Cb P w mg base)(yBq:Has P w K mg base "weighed" 3 ["numbers","weights"] (yz K))(yCo:Has P w K mg base "turn" 1 ["one","other"] (tI K))(yBp:Has P w K mg base "edge_end" 5 ["sides","edge","hand"] (qY K)):yS P w K mg base CX0 6 f fd ["sides","last"] (sF K):=by
 specialize yJ
 ·obtain⟨l,n,j,e,P,rfl,_⟩:=h;rfl
 obtain⟨l,n,j,e,P,rfl,hl,ok,hlen,st,N,q⟩:=h;have hj:j<n.length:=(c6.mp st.at').1;obtain⟨e',me,ge,at'⟩:=uV (ss:=n) (i:=j) (k:=(j:Int)) rfl hj;rw[st.at'] at ge;cases ge;obtain⟨ee,ne,c1,c2,c3⟩:=ok e me;have hN:=oA ne;obtain⟨sf,f1⟩:=Vk ne
 refine'⟨_,(zB (zO 2 yJ.nd ?_)
   (zB (zO 3 yJ.nd (yH gC rfl Z.sorted sX ?_))
   (zB (zO 4 yJ.nd ?_)
   (zB (zO 5 yJ.nd ?_)
   (zB (zO 6 yJ.nd ?_)
   (zD (zM (yX yBq (hr.mono (by decide)) rfl (zG (tT Xa (pv 3) ?_) (zG (pv 6) zL)))))))))),?_⟩
 nofun
 exists _,U,_,U,l,_,_,_,U,U,.inl hl,at';refine⟨_,U,_,U,_,U,l,_,U,hl,λc hc=>?_⟩;rw[dQ];have sc:=zC hc (.lst (zS (n.take j)));have ec:upd H c (.lst (zS (n.take j))) c=Kh (.lst (zS (n.take j))):=zA;generalize upd H c (.lst (zS (n.take j)))=H1 at sc ec ⊢;refine⟨_,U,_,U,c,e.1,n.take j,e.2,-1,U,SqL.of ec,(λu hu=>ok.same sc u (Aj hu)),by rw[g8]; lia,.inr (SqT.of (sc _ _ ee)),ne,c1,c2,c3,.inr rfl,λr1 H2 s2 k1=>?_⟩;have S:=sc.trans s2;refine⟨_,U,_,U,_,U,l,_,U,S.seq hl,λd hd=>?_⟩;rw[dQ];have sd:=zC hd (.lst (zS (n.take j)));have ed:upd H2 d (.lst (zS (n.take j))) d=Kh (.lst (zS (n.take j))):=zA;generalize upd H2 d (.lst (zS (n.take j)))=H3 at sd ed ⊢;have J:=S.trans sd;refine⟨_,U,d,e.1,n.take j,e.2,1,U,SqL.of ed,(λu hu=>ok.same J u (Aj hu)),by rw[g8]; lia,.inr (SqT.of (J _ _ ee)),ne,c1,c2,c3,.inl rfl,λr2 H4 s4 k2=>?_⟩;have sH4:=J.trans s4;obtain⟨r,rfl⟩:∃ r,r1=Kh r:=by
  cases r1 with
  | some r=>rwa[r,rfl]
  | none=>exact(bn (h:=-1) (by decide) hN f1 sf.pos st.no N k1 (show oM (n.take j) e.2 (- -1) r2 from k2)).elim
 obtain⟨p,rfl⟩:∃ p,r2=Kh p:=by
  cases r2 with
  | some p=>rwa[p,rfl]
  | none=>exact(bn (h:=1) (by decide) hN f1 sf.pos st.no N k2 k1).elim
 obtain⟨a,ga,ha,ta⟩:=k1;obtain⟨b,gb,hb,tb⟩:=k2;refine⟨sz2,λX hnl=>?_⟩;have R:Same H4 (upd H4 X (.lst [iL (Kh r),iL (Kh p)])):=zC hnl _;have enl:upd H4 X (.lst [iL (Kh r),iL (Kh p)]) X=Kh (.lst ([(r:Int),(p:Int)].map V.int)):=zA;generalize upd H4 X (.lst [iL (Kh r),iL (Kh p)])=H5 at R enl ⊢;have sH5:=sH4.trans R;refine⟨X,[(r:Int),(p:Int)],U,SqL.of enl,(by show 2<64; decide),λI ms hsn pm pw=>?_⟩;have di:r≠p:=λz=>by
  rw[z,gb] at ga;cases ga;lia
 obtain⟨x,y,g,m,h,rfl,hxy,gx,gy,h1,hs1,ht1,as1,at1⟩:∃(x y:Nat)(g m:Sd)(h:Int),ms=[(x:Int),(y:Int)]/\x<y/\(n.take j)[x]?=Kh g/\(n.take j)[y]?=Kh m/\(h=1\/h = -1)/\0<tn e.2 g.2*h/\0<tn e.2 m.2 * -h /\
   (∀ u∈n.take j,0<tn e.2 u.2*h->sv u.2 (pt3 (crL e.2 g.2))<=0)/\(∀ u∈n.take j,0<tn e.2 u.2 * -h->sv u.2 (pt3 (crL e.2 m.2))<=0):=by
  rcases Zd pm pw with ⟨rfl,le⟩ | ⟨rfl,le⟩
  ·rwa[r,p,a,b,-1,rfl,by lia,ga,gb,.inr rfl,ha,hb,ta,tb]
  ·rwa[p,r,b,a,1,rfl,by lia,gb,ga,.inl rfl,hb,ha,tb,ta]
 have hh:h*h=1:=by rcases h1 with rfl | rfl <;> rfl
 obtain⟨A1,A2,A3,A4⟩:=Sv hh hN f1 sf.pos st.no N (f7 gx) (f7 gy) hs1 ht1 as1 at1 st.pos st.ahead st.out;have gx':n[x]?=Kh g/\x<j:=by
  rw[Bu] at gx;split at gx
  ·rwa[gx,by lia]
  ·cases gx
 have M:n[y]?=Kh m/\y<j:=by
  rw[Bu] at gy;split at gy
  ·rwa[gy,by lia]
  ·cases gy
 obtain⟨_,mx,gx2,atx⟩:=uV (ss:=n) (i:=x) (k:=(x:Int)) rfl (by lia);rw[gx'.1] at gx2;cases gx2;obtain⟨_,my,gy2,aty⟩:=uV (ss:=n) (i:=y) (k:=(y:Int)) rfl (by lia);rw[M.1] at gy2;cases gy2;obtain⟨es,ns,d1,d2,d3⟩:=ok g mx;obtain⟨et,nt,g1,g2,g3⟩:=ok m my;have O:Same H5 (upd H5 I (.lst ([(x:Int),(y:Int)].map V.int))):=zC hsn _;have B:upd H5 I (.lst ([(x:Int),(y:Int)].map V.int)) I=Kh (.lst ([(x:Int),(y:Int)].map V.int)):=zA;generalize upd H5 I (.lst ([(x:Int),(y:Int)].map V.int))=H6 at O B ⊢;have o:=sH5.trans O;have Y:Sq K H6 l (zS n):=.inl (o.seq hl);have ee6:Sq K H6 e.1 [.int e.2.1,.int e.2.2.1,.int e.2.2.2]:=.inr (SqT.of (o _ _ ee));have es6:Sq K H6 g.1 [.int g.2.1,.int g.2.2.1,.int g.2.2.2]:=.inr (SqT.of (o _ _ es));have et6:Sq K H6 m.1 [.int m.2.1,.int m.2.2.1,.int m.2.2.2]:=.inr (SqT.of (o _ _ et));exists _,U,_,U,I,_,_,.int (x:Int),U,U,.inl (SqL.of B),U,l,_,_,_,U,U,Y,atx;exists _,U,_,U,I,_,_,.int (y:Int),U,U,.inl (SqL.of B),U,l,_,_,_,U,U,Y,aty;refine⟨_,U,_,U,m.1,e.1,_,_,m.2.1,m.2.2.1,e.2.1,e.2.2.1,U,et6,ee6,U,U,U,U,by lia,by lia,_,U,
  _,rfl,_,rfl,e.1,g.1,_,_,e.2.1,e.2.2.1,g.2.1,g.2.2.1,rfl,ee6,es6,rfl,rfl,rfl,rfl,by lia,by lia,_,rfl,
  _,rfl,_,rfl,g.1,m.1,_,_,g.2.1,g.2.2.1,m.2.1,m.2.2.1,rfl,es6,et6,rfl,rfl,rfl,rfl,by lia,by lia,_,rfl,sz3,λwl hwl=>?_⟩
 erw[_,rfl,_,rfl,sz1,λol hol=>?_];have C:=zC hwl (.lst ([ox (tn m.2 e.2),ox (tn e.2 g.2),ox (tn g.2 m.2)].map V.int));have v:=zC hol (.lst [.int (j:Int)]);refine⟨I,ol,_,_,U,U,v _ _ (C _ _ B),zA,mv (by show 2+1<=1000; decide),λnc hnc=>?_⟩;have G:=zC hnc (.lst ([(x:Int),(y:Int),(j:Int)].map V.int));have pU:0<ox (tn m.2 e.2):=by rw[xV h1 A1]; rwa[A1]
 have pV:0<ox (tn e.2 g.2):=by rw[xV h1 A2]; rwa[A2]
 have pX:0<ox (tn g.2 m.2):=by rw[xV h1 A3]; rwa[A3]
 have bU:ox (tn m.2 e.2)<=10^19:=XY g1 c2 g2 c1;have bV:ox (tn e.2 g.2)<=10^19:=XY c1 d2 c2 d1;have bX:ox (tn g.2 m.2)<=10^19:=XY d1 g2 d2 g1;have gk:=Tf (ws:=[ox (tn m.2 e.2),ox (tn e.2 g.2),ox (tn g.2 m.2)]) (o4 ..) pU (by lia);refine⟨_,U,nc,wl,[(x:Int),(y:Int),(j:Int)],[ox (tn m.2 e.2),ox (tn e.2 g.2),ox (tn g.2 m.2)],U,SqL.of zA,SqL.of (G _ _ (v _ _ zA)),U,(by show 3<=900; decide),gk.1,gk.2,λD cs H' s' hD eD okc mc=>?_⟩;have T:=((C.trans v).trans G).trans s';have L:=(C.trans v).trans G;refine q D cs H' (o.trans T) (o.free (L.free hD)) eD okc ?_;rw[mc];obtain⟨w1,w2⟩:=ZD g.2 m.2 e.2;have f:∀ a b c:Int,tn m.2 e.2*h*a+tn e.2 g.2*h*b+tn g.2 m.2*h*c=(tn m.2 e.2*a+tn e.2 g.2*b+tn g.2 m.2*c)*h:=λa b c=>by
  rw[AE,AE,o5,o5 (tn e.2 g.2),o5 (tn g.2 m.2)]
 erw[bx hxy M.2 gx'.1 M.1 st.at' pU pV pX bU bV bX ?_ ?_ ?_]
 ·rw[xV h1 A1,xV h1 A2,xV h1 A3,f];have w1':tn m.2 e.2*g.2.1+tn e.2 g.2*m.2.1+tn g.2 m.2*e.2.1=0:=w1;rw[w1',z8]
 ·rw[xV h1 A1,xV h1 A2,xV h1 A3,f];have w2':tn m.2 e.2*g.2.2.1+tn e.2 g.2*m.2.2.1+tn g.2 m.2*e.2.2.1=0:=w2;rw[w2',z8]
 ·rw[xV h1 A1,xV h1 A2,xV h1 A3,f];rwa[A4]
def jI(K:b6):Sp:=λg H Q _=>E2 λ(l:b9) (d:List Sd)=>A6 (g=[.ref l]) (SqL K H l (zS d)) (jq H d) (d.length<=900) (∀(P:P3)(c:Hp),Same H c->0<P.2.2->inW d P->Oq d P->Q .non c) (∀(D:b9)(e:List Pr)(c:Hp),Same H c->H D=Ki->c D=Kh (.lst (zl e))->Tl c e->oJ d (e.map (·.2))->Q (.ref D) c)
def Zl(F:Fun K "clash" "clash" qz f fd)(Z:Zs mg)(CB:Cb P w mg base)(yAa:Has P w K mg base "clash_of_three" 6 ["sides","last"] (sF K))(yCo:Has P w K mg base "turn" 1 ["one","other"] (tI K))(yCl:Has P w K mg base "holds" 2 ["side","spot"] (rZ K))(yCp:Has P w K mg base "foot" 5 ["side"] (ut K))(yBq:Has P w K mg base "weighed" 3 ["numbers","weights"] (yz K))(yCn:Has P w K mg base "span" 1 ["direction"] (gM K))(yBy:Has P w K mg base "sought" 8 ["sides"] (lH K)):yS P w K mg base CX0 9 f fd ["sides"] (jI K):=by
 specialize qD
 ·obtain⟨l,d,rfl,_⟩:=h;rfl
 obtain⟨l,d,rfl,O,ok,m,qn,q⟩:=h
 refine'⟨_,(zB (zO 1 qD.nd ?_)
   (zB (xJ ?_ (zD (zM oF)) zU)
   (zB (zO 2 qD.nd ?_)
   (zB (xL m8 rfl (xC rfl Z.range (zG (pv 1) zL)) (wO 3 qD.nd) (zB (zO 4 qD.nd ?_)
   (zD (xJ ?_ (zD (zM ?_)) zU))))
   (zD (zM ?_)))))),?_⟩
 nofun
 erw[_,rfl,l,d,rfl,O,ok,m,λt j e P H1 I et st=>?_,λt p P H1 I et ep wp cp=>?_]
 ·exists t,_,_,.int j,U,U,.inr (SqT.of et),rfl;exists _,U,U,_,rfl;refine vf ?_;have hj:j<d.length:=(c6.mp st.at').1;obtain⟨e',me,ge,at'⟩:=uV (ss:=d) (i:=j) (k:=(j:Int)) rfl hj;rw[st.at'] at ge;cases ge;obtain⟨ee,ne,c1,c2,c3⟩:=ok e me;have hN:=oA ne;obtain⟨sf,f1⟩:=Vk ne;exists _,U,_,U,l,_,_,_,U,U,.inl (I.seq O),at';refine⟨_,U,_,U,(by lia),(by lia),wC (lo:=0) (n:=((j:Nat):Int).toNat) (λi S M=>A3 (Same H1 M) (∀ u∈d.take i,tn e.2 u.2=0->sv u.2 (pt3 (ftL e.2))<=0) (E2 λ(X T:Option V)=>S=[Kh (.ref l),Kh (.int j),Kh (.ref e.1),X,T]))
   ⟨Same.refl _,(λt ht=>nomatch ht),Ki,Ki,rfl⟩ ?_ ?_⟩
  ·rintro i S M hi ⟨C,c,X,T,rfl⟩;rw[j3] at hi;obtain⟨u,mu,R,atu⟩:=uV (ss:=d) (i:=i) (k:=0+(i:Int)) (by lia) (by lia);obtain⟨eu0,nu,d1,d2,d3⟩:=ok u mu;have g:=I.trans C;have eu:Sq K M u.1 [.int u.2.1,.int u.2.2.1,.int u.2.2.2]:=.inr (SqT.of (g _ _ eu0));have z:Sq K M e.1 [.int e.2.1,.int e.2.2.1,.int e.2.2.2]:=.inr (SqT.of (g _ _ ee));exists _,U,_,U,l,_,_,_,U,U,.inl (g.seq O),atu;exists _,U,_,U,e.1,u.1,_,_,e.2.1,e.2.2.1,u.2.1,u.2.2.1,U,z,eu,U,U,U,U,by lia,by lia,U,_,rfl;erw[ifE (λh0=>?_) (λh0=>?_)]
   ·have h0':tn e.2 u.2=0:=h0;refine⟨_,U,_,U,e.1,e.2,U,z,ne,c1,c2,λfp H2 G hfp efp=>?_⟩;have L:H2 fp=Kh (.tup [.int (pt3 (ftL e.2)).1,.int (pt3 (ftL e.2)).2.1,.int (pt3 (ftL e.2)).2.2]):=by
     rw[efp,sf.list];rfl
    exists u.1,fp,u.2.1,u.2.2.1,u.2.2.2,(pt3 (ftL e.2)).1,(pt3 (ftL e.2)).2.1,(pt3 (ftL e.2)).2.2,U,eu.same G,.inr (SqT.of L),by lia,by lia,by lia,_,rfl;erw[ifN (λJ=>?_) (λhin=>?_)]
    ·have y:0<sv u.2 (pt3 (ftL e.2)):=by
      have:¬ sv u.2 (pt3 (ftL e.2))<=0:=J;lia
     obtain⟨z1,z2,z3⟩:=UB h0' hN ne sf.pos st.pos f1 y (st.ahead u (f7 (i:=i) (by rw[Bu,y7 hi]; rwa[R]))) st.out;erw[_,rfl,_,rfl,sz2,λnl hnl=>?_];have o:=zC hnl (.lst ([0+(i:Int),(j:Int)].map V.int));erw[_,rfl,e.1,_,e.2.1,e.2.2.1,rfl,(z.same G).same o,rfl,rfl,_,rfl,u.1,_,u.2.1,u.2.2.1,rfl,(eu.same G).same o,rfl,rfl,sz2,λwl hwl=>?_];have B:=zC hwl (.lst ([vM e.2.1 e.2.2.1,vM u.2.1 u.2.2.1].map V.int));have pU:=kJ ne;have pV:=kJ nu;have bU:vM e.2.1 e.2.2.1<=10^19:=BU (bL c1 c2) (by decide);have bV:vM u.2.1 u.2.2.1<=10^19:=BU (bL d1 d2) (by decide);have gk:=Tf (ws:=[vM e.2.1 e.2.2.1,vM u.2.1 u.2.2.1]) (o4 ..) pU (by lia);refine⟨nl,wl,[0+(i:Int),(j:Int)],[vM e.2.1 e.2.2.1,vM u.2.1 u.2.2.1],U,SqL.of (B _ _ zA),SqL.of zA,U,(by show 2<=900; decide),gk.1,gk.2,λD cs H5 Y hD eD r mc=>?_⟩;have sB:=(g.trans G).trans (o.trans B);erw[q D cs H5 (sB.trans Y) (sB.free hD) eD r ?_];rw[mc,Aw];rwa[Yk hi R st.at' pU pV bU bV z1 z2 z3]
    ·erw[C.trans G,λv x N=>?_,_,_,rfl];rcases xh R x with x | rfl
     ·rwa[c v x N]
     ·rwa[hin]
   ·erw[vf ?_];erw[C,λv x N=>?_,_,_,rfl];rcases xh R x with x | rfl
    ·rwa[c v x N]
    ·rwa[x4 N h0]
  ·rintro S M ⟨C,c,X,T,rfl⟩;rw[j3] at c;have g:=I.trans C;rwa[_,rfl,_,rfl,l,d,j,e,P,rfl,g.seq O,ok.same g,m,st,c,λD cs H5 Y hD eD r cl=>q D cs H5 (g.trans Y) (g.free hD) eD r cl]
 ·exists t,_,_,.non,U,U,.inr (SqT.of et),rfl;exists _,U,U,_,rfl;erw[dI ?_];rwa[qn P H1 I ep.2.1 wp cp]
def zm(K:b6):Sp:=λe H Q _=>e=[]/\∀(d:b9)(c:Hp),Same H c->H d=Ki->cf c d BS.nil->Q (.ref d) c
def oN(F:Fun K "nothing_yet" "nothing_yet" uN f fd)(Z:Zs mg)(J:Cb P w mg base)  : yS P w K mg base CX0 1 f fd [] (zm K):=by
 specialize oU
 ·obtain⟨rfl,_⟩:=h;rfl
 obtain⟨rfl,q⟩:=h
 refine'⟨_,zD ?h,?_⟩
 rotate_left
 with_reducible refine' zM ?_
 rotate_left
 with_reducible exact YA (vS yC rH (vS yC rH (vS yC rH (vS yC rH (vS yC uX Yh))))) rfl rfl (λz=>nomatch z) (by decide)
 try dsimp only[L2.cxOf]
 intro p l m v b y r hr n u;have B:=zC l (.dK []);have j:=zC v (.dK []);have i:=zC y (.dK []);have g:=zC hr (.dK []);have d:=zC u (.dK []);have em:=(i.trans (g.trans d)) _ _ zA;have I:=(g.trans d) _ _ zA;have er:=d _ _ zA;have G:=(j.trans (i.trans (g.trans d))) _ _ zA;exists G,[(.inr "marks",.ref m),(.inr "banks",.ref b),(.inr "runs",.ref r),(.inr "notes",.ref n),(.inr "coming",.int 1)],U,(show 5<=15 by decide);rw[Up];have ne:∀{x:b9},(upd H p (.dK [])) x=Ki->x≠p:=λ{x} h z=>by rw[z,zA] at h; cases h
 have nb:=ne (j.free y);have C:=ne (j.free (i.free hr));have D:=ne (j.free (i.free (g.free u)));erw[q p _ (λc o e=>?_) l ⟨m,b,r,n,.inl zA,.nil ?_,.nil ?_,.nil ?_,.nil ?_⟩]
 ·rw[zH (zE e l)];exact(B.trans (j.trans (i.trans (g.trans d)))) c o e
 ·rw[zH (ne v)]; rwa[em]
 ·rw[zH nb]; rwa[I]
 ·rw[zH C]; rwa[er]
 ·rw[zH D]; rwa[zA]
def rD(K:b6):Sp:=λj H Q _=>E7 λ(d a:b9) (kind:j4) (g:Key) (v:V) (e i:List (Key×V))=>A7 (j=[.ref d,.str kind,kV g,v]) (Rd H d (.dK e)) (tZ e (.inr kind)=Kh (.ref a)) (Rd H a (.dK i)) (e.length<=100) (i.length<=100) (∀(f c:b9)(h:Hp),Same H h->H f=Ki->f≠c->h f=Kh (.dK (qO e (.inr kind) (.ref c)))->h c=Kh (.dK (qO i g v))->Q (.ref f) h)
def fc(F:Fun K "changed" "changed" qR f fd)(Z:Zs mg)(J:Cb P w mg base)  : yS P w K mg base CX0 1 f fd ["state","kind","key","value"] (rD K):=by
 specialize oy
 ·obtain⟨d,a,kind,m,v,g,j,rfl,_⟩:=h;rfl
 obtain⟨d,a,kind,m,v,g,j,rfl,hd,B,z,I,G,q⟩:=h
 refine'⟨_,(zB (zO 4 oy.nd ?_)
   (zB (qQ (yT hr) (pv 4) (pv 1) (uY lK rfl Z.dict iX (zG (zX (yT hr) (pv 0) (pv 1) (λ_ _=>rfl)) zL)) rfl)
   (zB (qQ (yT hr) (zX (yT hr) (pv 4) (pv 1) (λ_ _=>rfl)) (pv 2) (pv 3) rfl)
   (zD (zM (pv 4)))))),?_⟩
 nofun
 erw[_,rfl,d,g,rfl,hd,λp n=>?_];have l:=zC n (.dK g);have r:Rd (upd H p (.dK g)) d (.dK g):=hd.imp (l _ _) λ⟨o,e⟩=>⟨o,l _ _ e⟩;have x:Rd (upd H p (.dK g)) a (.dK j):=z.imp (l _ _) λ⟨o,e⟩=>⟨o,l _ _ e⟩;erw[_,rfl,_,rfl,d,.ref a,rfl,.inl ⟨g,.inr kind,r,rfl,B.symm⟩,a,j,rfl,x,λc u=>?_];have i:p≠c:=zE zA u;have y:=zC u (.dK j);have D:upd (upd H p (.dK g)) c (.dK j) p=Kh (.dK g):=y _ _ zA;exists _,U,_,U,p,_,U,cR.k (k:=.inr kind) D (zJ (by lia));have C:upd (upd (upd H p (.dK g)) c (.dK j)) p (.dK (qO g (.inr kind) (.ref c))) c=Kh (.dK j):=by rw[zH i.symm,zA]
 erw[_,rfl,_,rfl,_,rfl,p,.ref c,rfl,.inl ⟨_,.inr kind,.inl zA,rfl,?_⟩,_,rfl,c,_,rfl,cR.k C (zJ (by lia)),_,rfl,?_]
 ·rw[xo,y7 rfl]
 erw[q p c _ (λb o e=>?_) n i ?_ zA]
 ·have n1:=zE e n;have n2:=zE (l _ _ e) u;rw[zH n2,zH n1,zH n2,zH n1];rwa[e]
 ·rw[zH i,zA]
def oH(K:b6):Sp:=λj H Q _=>E7 λ(d a:b9) (kind:j4) (g:Key) (v:V) (e i:List (Key×V))=>A7 (j=[.ref d,.str kind,kV g]) (Rd H d (.dK e)) (tZ e (.inr kind)=Kh (.ref a)) (Rd H a (.dK i)) (tZ i g=Kh v) (e.length<=100) (∀(f c:b9)(h:Hp),Same H h->H f=Ki->f≠c->h f=Kh (.dK (qO e (.inr kind) (.ref c)))->h c=Kh (.dK (iK i g))->Q (.ref f) h)
def dG(F:Fun K "without" "without" qV f fd)(Z:Zs mg)(J:Cb P w mg base)  : yS P w K mg base CX0 1 f fd ["state","kind","key"] (oH K):=by
 specialize oB
 ·obtain⟨d,a,kind,m,v,g,i,rfl,_⟩:=h;rfl
 obtain⟨d,a,kind,m,v,g,i,rfl,hd,D,B,C,I,q⟩:=h
 refine'⟨_,(zB (zO 3 oB.nd ?_)
   (zB (qQ (yT hr) (pv 3) (pv 1) (uY lK rfl Z.dict iX (zG (zX (yT hr) (pv 0) (pv 1) (λ_ _=>rfl)) zL)) rfl)
   (zB (zV (Vd (zX (yT hr) (pv 3) (pv 1) (λ_ _=>rfl)) (pv 2) ⟨rfl,rfl,rfl,rfl⟩))
   (zD (zM (pv 3)))))),?_⟩
 nofun
 erw[_,rfl,d,g,rfl,hd,λp n=>?_];have l:=zC n (.dK g);have r:Rd (upd H p (.dK g)) d (.dK g):=hd.imp (l _ _) λ⟨o,e⟩=>⟨o,l _ _ e⟩;have x:Rd (upd H p (.dK g)) a (.dK i):=B.imp (l _ _) λ⟨o,e⟩=>⟨o,l _ _ e⟩;erw[_,rfl,_,rfl,d,.ref a,rfl,.inl ⟨g,.inr kind,r,rfl,D.symm⟩,a,i,rfl,x,λc u=>?_];have j:p≠c:=zE zA u;have z:=zC u (.dK i);have G:upd (upd H p (.dK g)) c (.dK i) p=Kh (.dK g):=z _ _ zA;exists _,U,_,U,p,_,U,cR.k (k:=.inr kind) G (zJ (by lia));have y:upd (upd (upd H p (.dK g)) c (.dK i)) p (.dK (qO g (.inr kind) (.ref c))) c=Kh (.dK i):=by rw[zH j.symm,zA]
 erw[_,rfl,_,rfl,p,.ref c,rfl,.inl ⟨_,.inr kind,.inl zA,rfl,?_⟩,c,rfl,.inl ⟨i,.inl y⟩,_,rfl,i,m,v,y,rfl,C,_,rfl,?_]
 ·rw[xo,y7 rfl]
 erw[q p c _ (λb o e=>?_) n j ?_ zA]
 ·have n1:=zE e n;have n2:=zE (l _ _ e) u;rw[zH n2,zH n1,zH n2,zH n1];rwa[e]
 ·rw[zH j,zA]
def gP(ns:List Int)(m:Int):Bool:=ns.all λn=>decide (-m<=n)&&decide (n<=m)
def zv(K:b6):Sp:=λd H Q _=>E3 λ(a:b9) (ns:List Int) (m:Int)=>A4 (d=[.ref a,.int m]) (H a=Kh (.tup (ns.map V.int))) (ns.length<=100) (∀ c,Same H c->Q (.bl (gP ns m)) c)
def cO(F:Fun K "within" "within" wg f fd)(Z:Zs mg)(I:Cb P w mg base)  : yS P w K mg base CX0 1 f fd ["numbers","most"] (zv K):=by
 specialize cV
 ·obtain⟨a,ns,m,rfl,_⟩:=h;rfl
 obtain⟨a,ns,m,rfl,z,G,q⟩:=h
 refine'⟨_,(zD (zM (yH (mW rfl) rfl Z.all Wj (zG (yP (T:=["number"]) (caps:=[("most",1)]) ⟨rfl,by ac_nf,by ac_nf,rfl,⟨⟨rfl,rfl,BD rfl⟩,x8⟩⟩ rfl (yQ (pv 0)) (λ_=>(wO 0 (show(["number","most"]:List j4).Nodup by ac_nf))) (λ_=>yD) (λ_=>(aF Vz Vz ?_ (pv 0) (pv 1)))) zL)))),?_⟩
 nofun
 refine⟨_,U,a,U,.inr ⟨⟨_,SqT.of z⟩,λc D y=>?_⟩⟩;refine lW (K:=K) (a:=a) (xs:=ns.map V.int) (λi o g l=>A4 (Same H l) (l D=Kh (.lst g)) (g=((ns.take i).map λn=>decide (-m<=n)&&decide (n<=m)).map V.bl) (∃ u:Option V,o=[u,Kh (.int m)]))
  ⟨zC y _,zA,rfl,Ki,rfl⟩ (λi o g l _ v=>by obtain⟨d,e,_⟩:=v; rwa[SqT.of (d _ _ z),e]) ?_ ?_
 ·rintro i x o g l hi ⟨d,p,rfl,u,rfl⟩;obtain⟨n,B,rfl⟩:=uI hi;have C:=(c6.mp B).1;have len:(((ns.take i).map λn=>decide (-m<=n)&&decide (n<=m)).map V.bl).length<sizeLine:=zJ (by rw[b5,b5,g8]; lia);have j:∀ b:Bool,b=(decide (-m<=n)&&decide (n<=m))->((ns.take i).map λn=>decide (-m<=n)&&decide (n<=m)).map V.bl++[V.bl b]=((ns.take (i+1)).map λn=>decide (-m<=n)&&decide (n<=m)).map V.bl:=λb e=>by
   rw[o3,B,e,d5,d5];rfl
  exists _,U,_,U,_,U,_,_,U,U,_,rfl;erw[ite2 (λh1=>?_) (λh1=>?_)]
  ·rwa[_,rfl,_,_,rfl,rfl,p,len,d.putNew y,zA,j _ (by rw[h1,Bool.true_and]),_,rfl]
  ·rwa[p,len,d.putNew y,zA,j _ (by rw[eq_false_of_ne_true h1,IG]),_,rfl]
 ·rintro o g l ⟨d,p,rfl,u,rfl⟩;exists D,_,U,SqL.of p;have r:=q _ d;rw[b5,i8,DZ];rwa[r]
def yq(K:b6):Sp:=λd H Q _=>∃ x:j4,A3 (d=[.str x]) (rP x) (∀ c,Same H c->Q .non c)
def Tg(a c:Nat):(!decide ((⟨#[c]⟩:j4).cps.toList<(⟨#[a]⟩:j4).cps.toList))=decide (a<=c):=by
 have e:([c]<[a])↔c<a:=by
  rw[List.cons_lt_cons_iff];simp
 show(!decide ([c]<[a]))=_;by_cases h:c<a
 ·rw[y8 (e.mpr h),y9 (by lia)];rfl
 ·rw[y9 (λz=>h (e.mp z)),y8 (by lia)];rfl
def mO(F:Fun K "check_name" "check_name" tF f fd)(Z:Zs mg)(M:Cb P w mg base)  : yS P w K mg base CX0 1 f fd ["name"] (yq K):=by
 specialize mq
 ·obtain⟨x,rfl,_⟩:=h;rfl
 obtain⟨x,rfl,⟨h1,h8,C⟩,q⟩:=h;exists _,(zD (xJ (PW.pt (cS (yK Vv (yH oj rfl Z.len sk (zG (pv 0) zL)) uX (vC _)) (cS (yK VE (yH oj rfl Z.len sk (zG (pv 0) zL)) (ai M.LONGEST_NAME) (vC _)) (jO (dH (fY (yH (mW rfl) rfl Z.all Wj (zG (yP (T:=["letter"]) (caps:=[]) ⟨rfl,by ac_nf,by ac_nf,rfl,x8⟩ rfl (Pd (pv 0)) (λ_=>(jZ (i:=0) (show(["letter"]:List j4).Nodup by ac_nf) rfl (BD rfl))) (λ_=>yD) (λ_=>(aF fN fN yC (pv 0) yC))) zL)))))))) (zD wU) zU))
 try dsimp only[L2.cxOf,L2.cxComp,L2.Cx.nox,ZT,Zy]
 have y:x.length<=sizeLine:=g7 h8 (by decide);exists _,U,x,U,y,_,_,U,U,_,rfl;refine ifD (λz=>x4 z (by lia)) (λ_=>?_);exists _,U,x,U,y,_,_,U,U,_,rfl;refine ifD (λz=>x4 z (by lia)) (λ_=>?_);have u:x.cps.all (· < 128)=true:=by
  rw[Array.all_eq_true'];intro c J;have:=C c (GA.mpr J);rwa[y8 (by lia)]
 refine⟨_,U,x,U,u,λc D G=>?_⟩;refine Rb (xs:=fJ x) (λi j d g=>A5 (Same H g) (g D=Kh (.lst d)) (d=(CN i Kj).map V.bl) (i<=x.length) (∃ l:Option V,j=[l]))
  ⟨zC G _,zA,rfl,t9 _,Ki,rfl⟩ (λi j d g o=>by obtain⟨_,e,_⟩:=o; rwa[x8,e]) ?_ ?_
 ·rintro i v j d g hi ⟨m,r,rfl,L,l,rfl⟩;unfold fJ at hi;rw[c7,j8] at hi;obtain⟨n,I,rfl⟩:=hi;have B:=C n (f7 I);have p:i<x.length:=by
   have:=(c6.mp I).1;rw[j7] at this;rwa[this]
  exists _,U,_,_,U,U,_,rfl;rw[show(!decide (((⟨#[n]⟩:j4).cps.toList)<(("a" : j4).cps.toList)))=Kj from(Tg 97 n).trans (y8 B.1)];erw[dI ?_];erw[_,_,rfl,rfl,r,zJ (by rw[b5,Cs]; lia),m.putNew G,zA,?_,p,_,rfl];rw[show(!decide ((("z" : j4).cps.toList)<((⟨#[n]⟩:j4).cps.toList)))=Kj from(Tg n 122).trans (y8 B.2),GK,d5];rfl
 ·rintro j d g ⟨m,r,rfl,_,l,rfl⟩;exists D,_,U,SqL.of r,_,rfl;rw[show(CN (fJ x).length Kj).all id=Kj from by simp];erw[vf ?_];rwa[q _ m]
def xq(K:b6):Sp:=λg H Q _=>E6 λ(d a:b9) (kind:j4) (n:j4) (c e:List (Key×V))=>A6 (g=[.ref d,.str kind,.str n]) (Rd H d (.dK c)) (tZ c (.inr kind)=Kh (.ref a)) (Rd H a (.dK e)) (tZ e (.inr n)=Ki) (Q .non H)
def mE(F:Fun K "check_free" "check_free" vT f fd)(Z:Zs mg)(l:Cb P w mg base)  : yS P w K mg base CX0 1 f fd ["state","kind","name"] (xq K):=by
 specialize lB
 ·obtain⟨d,a,kind,n,c,e,rfl,_⟩:=h;rfl
 obtain⟨d,a,kind,n,c,e,rfl,hd,j,g,i,q⟩:=h;exists _,(zD (xJ (Wp (Qp (yT hr) (pv 2) (zX (yT hr) (pv 0) (pv 1) (λ_ _=>rfl))) (by with_unfolding_all rfl)) (zD wU) zU))
 try dsimp only[L2.cxOf,L2.cxComp,L2.Cx.nox,ZT,Zy]
 exists _,U,_,U,_,U,d,.ref a,U,.inl ⟨c,.inr kind,hd,U,j.symm⟩,a,_,U,.inl ⟨e,.inr n,g,U,U⟩,_,rfl;rw[i];rwa[vf q]
def zi(K:b6):Sp:=λd H Q _=>E3 λ(a:b9) (x y:Int)=>A4 (d=[.ref a]) (H a=Kh (.tup [.int x,.int y])) (qe (x,y)) (∀ c,Same H c->Q .non c)
def Xm{x y:Int}(h:qe (x,y)):gP [x,y] 1000=true:=by
 obtain⟨h1,h2,h3,h4⟩:=h;simp only[gP,Eg,JT,Jx,Bb,decide_eq_true_eq];rwa[⟨h1,h2⟩,h3,h4]
def oO(F:Fun K "check_place" "check_place" uP f fd)(Z:Zs mg)(j:Cb P w mg base)(c:Has P w K mg base "within" 1 ["numbers","most"] (zv K)):yS P w K mg base CX0 2 f fd ["place"] (zi K):=by
 specialize nq
 ·obtain⟨a,x,y,rfl,_⟩:=h;rfl
 obtain⟨a,x,y,rfl,g,e,q⟩:=h;exists _,(zD (xJ (dH (fY (yX c (hr.mono (by decide)) rfl (zG (pv 0) (zG (ai j.FARTHEST) zL))))) (zD wU) zU))
 try dsimp only[L2.cxOf,L2.cxComp,L2.Cx.nox,ZT,Zy]
 refine⟨_,U,a,[x,y],1000,U,g,(by show 2<=100; decide),λi d=>⟨_,rfl,?_⟩⟩;rw[Xm e];rwa[vf (q i d)]
def vo(K:b6):Sp:=λd H Q _=>E3 λ(a:b9) (x y:Int)=>A4 (d=[.ref a]) (H a=Kh (.tup [.int x,.int y])) (qe (x,y)) (∀ c,Same H c->Q .non c)
def kU(F:Fun K "check_run" "check_run" tS f fd)(Z:Zs mg)(j:Cb P w mg base)(c:Has P w K mg base "within" 1 ["numbers","most"] (zv K)):yS P w K mg base CX0 2 f fd ["run"] (vo K):=by
 specialize kR
 ·obtain⟨a,x,y,rfl,_⟩:=h;rfl
 obtain⟨a,x,y,rfl,g,e,q⟩:=h;exists _,(zD (xJ (dH (fY (yX c (hr.mono (by decide)) rfl (zG (pv 0) (zG (ai j.FARTHEST) zL))))) (zD wU) zU))
 try dsimp only[L2.cxOf,L2.cxComp,L2.Cx.nox,ZT,Zy]
 refine⟨_,U,a,[x,y],1000,U,g,(by show 2<=100; decide),λi d=>⟨_,rfl,?_⟩⟩;rw[Xm e];rwa[vf (q i d)]
def uO(K:b6):Sp:=λh H Q _=>E6 λ(d a:b9) (kind:j4) (c g:List (Key×V)) (e:Int)=>A7 (h=[.ref d,.str kind]) (Rd H d (.dK c)) (tZ c (.inr kind)=Kh (.ref a)) (Rd H a (.dK g)) (tZ QX (.inr kind)=Kh (.int e)) ((g.length:Int)<e) (Q .non H)
def mf(F:Fun K "check_room" "check_room" vR f fd)(Z:Zs mg)(i:Cb P w mg base)  : yS P w K mg base CX0 1 f fd ["state","kind"] (uO K):=by
 specialize kF
 ·obtain⟨d,a,kind,c,g,e,rfl,_⟩:=h;rfl
 obtain⟨d,a,kind,c,g,e,rfl,hd,l,j,em,m,q⟩:=h;exists _,(zD (xJ (yK Sx (yH qr rfl Z.len sk (zG (zX (yT hr) (pv 0) (pv 1) (λ_ _=>rfl)) zL)) (WY i.dMOST i.gMOST (pv 1)) (vC _)) (zD wU) zU))
 try dsimp only[L2.cxOf,L2.cxComp,L2.Cx.nox,ZT,Zy]
 exists _,U,_,U,d,.ref a,U,.inl ⟨c,.inr kind,hd,U,l.symm⟩,a,g,U,j,_,U,.inr kind,.int e,U,em,_,_,U,U,_,rfl;rwa[ifD (λz=>x4 z (by lia)) (λ_=>q)]
def sO(K:b6):Sp:=λc H Q _=>E7 λ(d m b r n:b9) (S:BS) (x:j4)=>A4 (c=[.ref d,.str x]) (StA H d m b r n S) ((zN S x).isSome=Kj) (Q .non H)
def kA(F:Fun K "check_mark" "check_mark" vZ f fd)(Z:Zs mg)(j:Cb P w mg base)  : yS P w K mg base CX0 1 f fd ["state","name"] (sO K):=by
 specialize kG
 ·obtain⟨d,m,b,r,n,S,x,rfl,_⟩:=h;rfl
 obtain⟨d,m,b,r,n,S,x,rfl,st,g,q⟩:=h;obtain⟨c,i,e⟩:=st.ma;exists _,(zD (xJ (Wp (df (yT hr) (pv 1) (zX (yT hr) (pv 0) yC (λ_ _=>rfl))) (by with_unfolding_all rfl)) (zD wU) zU))
 try dsimp only[L2.cxOf,L2.cxComp,L2.Cx.nox,ZT,Zy]
 exists _,U,_,U,d,.ref m,U,.inl ⟨_,.inr "marks",st.at_,U,zu.symm⟩,m,_,U,.inl ⟨c,.inr x,i,U,U⟩,_,rfl;rw[e.isSome,mL,Dc,g];rwa[vf q]
def offM(n:Nat)(m:Int):Prop:=(m<0\/(n:Int)<m)/\m.natAbs.log2<1920
def xP(K:b6):Sp:=λd H Q E=>E3 λ(a:b9) (m:Int) (n:Nat)=>A3 (d=[.int m,.ref a]) ((∃ xs,SqL K H a xs/\xs.length=n)\/∃ c,Rd H a (.dK c)/\c.length=n) ((A3 (0<=m) (m<=n) (Q .non H))\/(offM n m/\E (.ref zr) Ki H))
def pc(F:Fun K "check_moment" "check_moment" uA f fd)(Z:Zs mg)(r:Cb P w mg base)  : yS P w K mg base (CX1 P w) 1 f fd ["moment","runs"] (xP K):=by
 erw[F.okX pJ (λe H Q E h=>?_) (λl A outer s H e Q E hr h=>?_)]
 ·obtain⟨a,m,n,rfl,_⟩:=h;rfl
 obtain⟨a,m,n,rfl,j,q⟩:=h
 refine'⟨_,(zD (xJ (PW.pt (cS ?_ (jO (yK VE (pv 0) (yH (uK.or rC qr) rfl Z.len sk (zG (pv 1) zL)) (vC _))))) (zD (Vq (λ_=>E) r.e_NoMoment Ff (by decide) Ff UP (zG (RH (PF (QS (pv 0) QI))) zL))) zU)),?_⟩
 nofun
 exists _,U,_,_,U,U,_,rfl;have go:¬ (0<=m/\m<=n)->QU (PQ (RY 0) QL) [Kh (.int m),Kh (.ref a)] H (λv p=>1<=sizeLine/\E (.ref zr) Ki p):=λz=>by
  rcases q with ⟨h0,i,_⟩ | ⟨⟨_,g⟩,q⟩
  ·rwa[x4 ⟨h0,i⟩ z]
  ·rwa[_,rfl,.inl ⟨m,rfl,g⟩,λx _=>⟨by decide,q⟩]
 erw[ifD (λz=>?_) (λz=>?_)]
 ·erw[dI ?_];rwa[go (λy=>x4 y.1 (by lia))]
 exists _,U,_,rfl;rcases j with ⟨xs,d,rfl⟩ | ⟨c,d,rfl⟩
 ·erw[.inl ⟨a,xs,rfl,.inl d,_,_,rfl,rfl,_,rfl,?_⟩];erw[ifD (λy=>go (λy=>x4 y.2 (by lia))) (λy=>?_)];rcases q with ⟨_,_,q⟩ | ⟨⟨o,_⟩,_⟩
  ·rwa[q]
  ·rwa[x4 o (by lia)]
 ·erw[.inr ⟨a,c,rfl,d,_,_,rfl,rfl,_,rfl,?_⟩];erw[ifD (λy=>go (λy=>x4 y.2 (by lia))) (λy=>?_)];rcases q with ⟨_,_,q⟩ | ⟨⟨o,_⟩,_⟩
  ·rwa[q]
  ·rwa[x4 o (by lia)]
def wc(K:b6):Sp:=λd H Q _=>E3 λ(a:b9) (x y:Int)=>A4 (d=[.ref a]) (H a=Kh (.tup [.int x,.int y])) (qq (x,y)) (∀ c,Same H c->Q .non c)
def Pj{x y:Int}(h:qq (x,y)):gP [x,y] 100=true:=by
 obtain⟨_,h1,h2,h3,h4⟩:=h;simp only[gP,Eg,JT,Jx,Bb,decide_eq_true_eq];rwa[⟨h1,h2⟩,h3,h4]
def kW(F:Fun K "check_way" "check_way" tV f fd)(Z:Zs mg)(m:Cb P w mg base)(d:Has P w K mg base "within" 1 ["numbers","most"] (zv K)):yS P w K mg base CX0 2 f fd ["direction"] (wc K):=by
 specialize ju
 ·obtain⟨a,x,y,rfl,_⟩:=h;rfl
 obtain⟨a,x,y,rfl,j,e,q⟩:=h
 refine'⟨_,(zD (xJ (PW.pt (cS (yK (Wq hr.units0) (pv 0) ?_ (vC _)) (jO (dH (fY (yX d (hr.mono (by decide)) rfl (zG (pv 0) (zG (ai m.LONGEST_WAY) zL)))))))) (zD wU) zU)),?_⟩
 nofun
 erw[_,rfl,sz2,λp i=>?_];have sp:=zC i (.tup [.int 0,.int 0]);have c:=sp _ _ j;exists a,p,[x,y],[0,0],U,U,SqT.of c,SqT.of zA,_,rfl;refine ifD (λz=>x4 (show(x,y)=(0,0) by simp at z; rw[z.1,z.2]) e.1) (λ_=>?_);refine⟨_,U,a,[x,y],100,U,c,(by show 2<=100; decide),λl g=>⟨_,rfl,?_⟩⟩;rw[Pj e];rwa[vf (q l (sp.trans g))]
def zf(K:b6):Sp:=λc H Q _=>E10 λ(d m b r n:b9) (S:BS) (x y:j4) (p u:Int×Int)=>A6 (c=[.ref d,.str x,.str y]) (StA H d m b r n S) (zN S x=Kh p) (zN S y=Kh u) (p≠u) (Q .non H)
def ny(F:Fun K "check_apart" "check_apart" uT f fd)(Z:Zs mg)(C:Cb P w mg base)  : yS P w K mg base CX0 1 f fd ["state","left","right"] (zf K):=by
 specialize oR
 ·obtain⟨d,m,b,r,n,S,x,y,p,u,rfl,_⟩:=h;rfl
 obtain⟨d,m,b,r,n,S,x,y,p,u,rfl,st,ex,ey,ne,q⟩:=h;obtain⟨c,g,e⟩:=st.ma;obtain⟨B,j,r1⟩:=e.get (k:=.inr x) (d:=ptD p) (by rw[mL,ex]; rfl);obtain⟨v,i,r2⟩:=e.get (k:=.inr y) (d:=ptD u) (by rw[mL,ey]; rfl);obtain⟨o,rfl,h1⟩:=kC r1;obtain⟨l,rfl,h2⟩:=kC r2;exists _,(zD (xJ (yK (Wq hr.units0) (zX (yT hr) (zX (yT hr) (pv 0) yC (λ_ _=>rfl)) (pv 1) (λ_ _=>rfl)) (zX (yT hr) (zX (yT hr) (pv 0) yC (λ_ _=>rfl)) (pv 2) (λ_ _=>rfl)) (vC _)) (zD wU) zU))
 try dsimp only[L2.cxOf,L2.cxComp,L2.Cx.nox,ZT,Zy]
 refine⟨_,U,d,.ref m,U,.inl ⟨_,.inr "marks",st.at_,U,zu.symm⟩,_,U,m,_,U,.inl ⟨c,.inr x,g,U,j.symm⟩,_,U,d,.ref m,U,.inl ⟨_,.inr "marks",st.at_,U,zu.symm⟩,_,U,m,_,U,.inl ⟨c,.inr y,g,U,i.symm⟩,
  o,l,[p.1,p.2],[u.1,u.2],rfl,rfl,SqT.of h1,SqT.of h2,_,rfl,?_⟩
 exact ifD (λz=>x4 (show p=u by simp at z; rwa[GC z.1 z.2]) ne) (λ_=>q)
def sT(_:b6):Sp:=ZC λD=>E3 λn x y=>D=.mark n x y
def mY(F:Fun K "after_mark" "after_mark" vQ f fd)(Z:Zs mg)(CB:Cb P w mg base)(O:Has P w K mg base "changed" 1 ["state","kind","key","value"] (rD K))(T:Has P w K mg base "check_room" 1 ["state","kind"] (uO K))(Y:Has P w K mg base "check_place" 2 ["place"] (zi K))(R:Has P w K mg base "check_free" 1 ["state","kind","name"] (xq K))(X:Has P w K mg base "check_name" 1 ["name"] (yq K)):yS P w K mg base CX0 3 f fd ["state","row"] (sT K):=by
 specialize sN
 ·obtain⟨d,v,S,D,rfl,_⟩:=h;rfl
 obtain⟨d,v,S,D,rfl,⟨n,x,y,rfl⟩,⟨m,b,r,t,st⟩,hv,⟨k1,k2,k3,k4⟩,few,_,q⟩:=h;obtain⟨a,rfl,J⟩:=Xs hv
 refine'⟨_,(zB (zO 2 sN.nd ?_)
   (zB (zO 3 sN.nd ?_)
   (zB (zV ?_)
   (zB (zV ?_)
   (zB (zV ?_)
   (zB (zV ?_)
   (zD (zM ?_)))))))),?_⟩
 nofun
 exists _,U,a,_,_,.str n,U,U,.inr (SqT.of J),rfl;erw[_,rfl,a,_,_,.int x,rfl,rfl,.inr (SqT.of J),rfl,_,rfl,a,_,_,.int y,rfl,rfl,.inr (SqT.of J),rfl,sz2,λp hp=>?_];have s1:=zC hp (.tup [.int x,.int y]);erw[_,rfl,n,rfl,k1,λH2 I=>?_];have u:=s1.trans I;have l:=st.to (.of u);obtain⟨i,L,C⟩:=l.ma;exists _,U,_,U,d,m, "marks",n,_,i,U,l.at_,zu,L,C.none (by rw[mL,k2]; rfl);erw[_,rfl,p,x,y,rfl,I _ _ zA,k3,λH3 B=>?_];have g:=u.trans B;have j:=st.to (.of g);have z:=Rd.same L B;erw[_,rfl,d,m, "marks",_,i,20,rfl,j.at_,zu,z,(by symm),by rw[C.length,cN]; lia,?_];erw[_,rfl,_,rfl,_,rfl,d,m, "marks",.inr n,.ref p,_,i,rfl,j.at_,zu,z,StA.stKlen,C.le (by rw[cN]; lia),λf c N G hf _ M ec=>?_];have o:=g.trans G;have e:=st.to (.of o);rw[XX] at M;erw[q f N (.of o) (g.free hf) ⟨c,b,r,t,.inl M,⟨_,.inl ec,?_⟩,e.ba,e.ru,e.no⟩];show wZ N _ (mkE (S.marks++[(n,x,y)]));rw[Xj,<- nP (bg k2)];exact(C.to (.of (B.trans G))).put (mQ ((I.trans (B.trans G)) _ _ zA))
def sR(_:b6):Sp:=ZC λD=>E2 λx y=>D=.sail x y
def ka(F:Fun K "after_sail" "after_sail" vP f fd)(Z:Zs mg)(CB:Cb P w mg base)(n:Has P w K mg base "changed" 1 ["state","kind","key","value"] (rD K))(L:Has P w K mg base "check_room" 1 ["state","kind"] (uO K))(J:Has P w K mg base "check_run" 2 ["run"] (vo K)):yS P w K mg base CX0 3 f fd ["state","row"] (sR K):=by
 specialize yw
 ·obtain⟨d,v,S,D,rfl,_⟩:=h;rfl
 obtain⟨d,v,S,D,rfl,⟨x,y,rfl⟩,⟨m,b,r,t,st⟩,O,⟨k1,k2⟩,few,_,q⟩:=h;obtain⟨a,rfl,C⟩:=XS O
 refine'⟨_,(zB (zO 2 yw.nd ?_)
   (zB (zV ?_)
   (zB (zV ?_)
   (zD (zM (yX n (hr.mono (by decide)) rfl (zG (pv 0) (zG yC (zG (yH qr rfl Z.len sk (zG (zX (yT hr) (pv 0) yC (λ_ _=>rfl)) zL)) (zG (pv 2) zL)))))))))),?_⟩
 nofun
 erw[_,rfl,a,_,_,.int x,rfl,rfl,.inr (SqT.of C),rfl,_,rfl,a,_,_,.int y,rfl,rfl,.inr (SqT.of C),rfl,sz2,λp R=>?_];have M:=zC R (.tup [.int x,.int y]);erw[_,rfl,p,x,y,rfl,zA,k1,λY z=>?_];have j:=M.trans z;have g:=st.to (.of j);obtain⟨e,u,B⟩:=g.ru;have N:e.length=S.runs.length:=by rw[B.length,iY]
 erw[_,rfl,d,r, "runs",_,e,12,rfl,g.at_,pE,u,(by symm),by lia,?_];erw[_,rfl,_,rfl,d,.ref r,rfl,.inl ⟨_,.inr "runs",g.at_,rfl,pE.symm⟩,r,e,rfl,u,_,rfl,d,r, "runs",.inl (e.length:Int),.ref p,_,e,rfl,g.at_,pE,u,StA.stKlen,by lia,λf c I o T _ G X=>?_];have l:=j.trans o;have i:=st.to (.of l);rw[Uf] at G;erw[q f I (.of l) (j.free T) ⟨m,b,c,t,.inl G,i.ma,i.ba,⟨_,.inl X,?_⟩,i.no⟩];show wZ I _ (rnE (S.runs++[(x,y)]));rw[Rp,<- nP VN,<- N];exact(B.to (.of o)).put (mQ ((z.trans o) _ _ zA))
def sP(_:b6):Sp:=λg H Q _=>E4 λ(d:b9) (v:V) (S:BS) (D:Deed)=>A6 (g=[.ref d,v]) (cf H d S) (Rep H D.dt v) (S.notes.length<24) (Zc S) (∀(c:b9)(e:Hp),Same H e->H c=Ki->cf e c { S with notes:=S.notes++[(S.coming,D)],coming:=S.coming+1 }->Q (.ref c) e)
def lN(F:Fun K "after_note" "after_note" tD f fd)(Z:Zs mg)(J:Cb P w mg base)(j:Has P w K mg base "changed" 1 ["state","kind","key","value"] (rD K))(y:Has P w K mg base "check_room" 1 ["state","kind"] (uO K)):yS P w K mg base CX0 2 f fd ["state","row"] (sP K):=by
 specialize yj
 ·obtain⟨d,v,S,D,rfl,_⟩:=h;rfl
 obtain⟨d,v,S,D,rfl,⟨m,b,r,t,st⟩,z,k1,B,q⟩:=h;obtain⟨g,p,o⟩:=st.no;have I:g.length=S.notes.length:=by rw[o.length,Rc]
 refine'⟨_,(zB (zV ?_)
   (zB (zO 2 yj.nd (yX j (hr.mono (by decide)) rfl (zG (pv 0) (zG yC (zG (zX (yT hr) (pv 0) yC (λ_ _=>rfl)) (zG (pv 1) zL))))))
   (zB (qQ (yT hr) (pv 2) yC (tT aK (zX (yT hr) (pv 0) yC (λ_ _=>rfl)) uX) rfl)
   (zD (zM (pv 2)))))),?_⟩
 nofun
 erw[_,rfl,d,t, "notes",_,g,24,rfl,st.at_,rf,p,(by symm),by lia,?_];erw[_,rfl,_,rfl,d,.int S.coming,rfl,.inl ⟨_,.inr "coming",st.at_,rfl,lY.symm⟩,_,rfl,d,t, "notes",.inl S.coming,v,_,g,rfl,st.at_,rf,p,StA.stKlen,by lia,λf c G n u ne x C=>?_];have l:=st.to (.of n);rw[ft] at x;exists _,U,d,.int S.coming,U,.inl ⟨_,.inr "coming",l.at_,U,lY.symm⟩,_,_,U,U,_,U,f,_,U,cR.k (k:=.inr "coming") x (zJ (g7 StA.stKlen (by decide))),_,rfl;rw[ZW];have i:Same H (upd G f (.dK (stK m b r c (S.coming+1)))):=n.putNew u;have e:=st.to (.of i);erw[q f _ i u ⟨m,b,r,c,.inl zA,e.ma,e.ba,e.ru,⟨_,.inl (by rw[zH ne.symm]; rwa[C]),?_⟩⟩];rw[Rk,<- nP (Ue B)];exact(o.to (.of i)).put (z.to (.of i))
def vE(_:b6):Sp:=ZC λD=>E6 λm n a b c d=>D=.bearing m n a b c d
def ug(F:Fun K "after_bearing" "after_bearing" wI f fd)(Z:Zs mg)(CB:Cb P w mg base)(X:Has P w K mg base "after_note" 2 ["state","row"] (sP K))(R:Has P w K mg base "turn" 1 ["one","other"] (tI K))(T:Has P w K mg base "check_way" 2 ["direction"] (wc K))(Y:Has P w K mg base "check_mark" 1 ["state","name"] (sO K))(n:aD P w K mg base "check_moment" 1 ["moment","runs"] (xP K)):yS P w K mg base CX0 3 f fd ["state","row"] (vE K):=by
 specialize qo
 ·obtain⟨d,v,S,D,rfl,_⟩:=h;rfl
 obtain⟨d,v,S,D,rfl,⟨G,nm,j,i,x,o,rfl⟩,⟨m,b,r,t,st⟩,M,⟨k1,k2,k3,k4,k5,k6,k7⟩,few,fr,q⟩:=h;obtain⟨a,p,u,rfl,l,O,N⟩:=xc M;obtain⟨C,I,kr⟩:=st.ru
 refine'⟨_,(zB (zV (wH (λ_=>E0) n yr (hr.mono (by decide)) rfl (zG ?_ (zG (zX (yT hr) (pv 0) yC (λ_ _=>rfl)) zL))))
   (zB (zV ?_)
   (zB (zV ?_)
   (zB (zV ?_)
   (zB (xJ ?_ (zD wU) zU)
   (zD (zM ?_))))))),?_⟩
 nofun
 erw[_,rfl,a,_,_,.int G,rfl,rfl,.inr (SqT.of l),rfl,_,rfl,d,.ref r,rfl,.inl ⟨_,.inr "runs",st.at_,rfl,pE.symm⟩,r,G,S.runs.length,rfl,.inr ⟨C,I,by rw[kr.length,iY]⟩,.inl ⟨k1,k2,?_⟩];exists _,U,_,U,a,_,_,.str nm,U,U,.inr (SqT.of l),U,d,m,b,r,t,S,nm,U,st,k3;erw[_,rfl,a,_,_,.ref p,rfl,rfl,.inr (SqT.of l),rfl,p,j,i,rfl,O,k4,λH2 B=>?_];have g:=B _ _ l;erw[_,rfl,a,_,_,.ref u,rfl,rfl,.inr (SqT.of g),rfl,u,x,o,rfl,B _ _ N,k5,λH3 L=>?_];have e:=L _ _ g;have c:=B.trans L;obtain⟨_,b1,b2,b3,b4⟩:=k4;have n1:j.natAbs<=10^18:=by simp at b1 b2; lia
 have n2:i.natAbs<=10^18:=by simp at b3 b4; lia
 exists _,U,a,_,_,.ref p,U,U,.inr (SqT.of e),U,_,U,a,_,_,.ref u,U,U,.inr (SqT.of e),U,p,u,_,_,j,i,x,o,U,.inr (SqT.of (c _ _ O)),.inr (SqT.of (c _ _ N)),U,U,U,U,n1,n2,_,_,U,U,_,rfl;erw[ifD (λz=>x4 z (by lia)) (λ_=>?_)];erw[_,rfl,_,rfl,d,.ref a,S,.bearing G nm j i x o,rfl,⟨m,b,r,t,st.to (.of c)⟩,M.to (.of c),k7,fr,λd' H4 s4 J y=>q d' H4 (.of (c.trans s4)) (c.free J) y]
def tK(_:b6):Sp:=ZC λD=>E3 λm l r=>D=.range m l r
def oY(F:Fun K "after_range" "after_range" uS f fd)(Z:Zs mg)(X:Cb P w mg base)(B:Has P w K mg base "after_note" 2 ["state","row"] (sP K))(G:Has P w K mg base "check_apart" 1 ["state","left","right"] (zf K))(C:Has P w K mg base "check_mark" 1 ["state","name"] (sO K))(i:aD P w K mg base "check_moment" 1 ["moment","runs"] (xP K)):yS P w K mg base CX0 3 f fd ["state","row"] (tK K):=by
 specialize nh
 ·obtain⟨d,v,S,D,rfl,_⟩:=h;rfl
 obtain⟨d,v,S,D,rfl,⟨n,g,e,rfl⟩,⟨m,b,r,t,st⟩,u,⟨k1,k2,k3,k4,M,L⟩,few,O,q⟩:=h;obtain⟨a,rfl,N⟩:=nH u;obtain⟨l,o,J⟩:=st.ru;obtain⟨p1,y⟩:=m9.mp k3;obtain⟨p2,x⟩:=m9.mp k4;have c:Sq K H a _:=.inr (SqT.of N)
 refine'⟨_,(zB (zV (wH (λ_=>E0) i yr (hr.mono (by decide)) rfl (zG ?_ (zG (zX (yT hr) (pv 0) yC (λ_ _=>rfl)) zL))))
   (zB (zV ?_)
   (zB (zV ?_)
   (zB (zV ?_)
   (zD (zM ?_)))))),?_⟩
 nofun
 erw[_,rfl,a,_,_,.int n,rfl,rfl,c,rfl,_,rfl,d,.ref r,rfl,.inl ⟨_,.inr "runs",st.at_,rfl,pE.symm⟩,r,n,S.runs.length,rfl,.inr ⟨l,o,by rw[J.length,iY]⟩,.inl ⟨k1,k2,?_⟩];exists _,U,_,U,a,_,_,.str g,U,U,c,U,d,m,b,r,t,S,g,U,st,k3;exists _,U,_,U,a,_,_,.str e,U,U,c,U,d,m,b,r,t,S,e,U,st,k4;exists _,U,_,U,a,_,_,.str g,U,U,c,U,_,U,a,_,_,.str e,U,U,c,U,d,m,b,r,t,S,g,e,p1,p2,U,st,y,x,λz=>M (by rw[y,x,z]);erw[_,rfl,_,rfl,d,.ref a,S,.range n g e,rfl,⟨m,b,r,t,st⟩,u,L,O,λR T I p j=>q R T (.of I) p j]
def vI(_:b6):Sp:=ZC λD=>∃ k,D=.strike k
def pD(F:Fun K "after_strike" "after_strike" uD f fd)(Z:Zs mg)(I:Cb P w mg base)(p:Has P w K mg base "without" 1 ["state","kind","key"] (oH K)):yS P w K mg base CX0 2 f fd ["state","row"] (vI K):=by
 specialize qK
 ·obtain⟨d,v,S,D,rfl,_⟩:=h;rfl
 obtain⟨d,v,S,D,rfl,⟨k,rfl⟩,⟨m,b,r,t,st⟩,u,ok,few,C,q⟩:=h;obtain⟨a,rfl,y⟩:=dk u;obtain⟨i,j,kn⟩:=st.no;obtain⟨G,lk⟩:=Vw (l:=S.notes) ok;obtain⟨v,n,_⟩:=kn.get lk
 refine'⟨_,(zB (zO 2 qK.nd ?_)
   (zB (xJ (Wp (df (yT hr) (pv 2) (zX (yT hr) (pv 0) yC (λ_ _=>rfl))) (by with_unfolding_all rfl)) (zD wU) zU)
   (zD (zM ?_)))),?_⟩
 nofun
 exists _,U,a,_,_,.int k,U,U,.inr (SqT.of y),U,_,U,_,U,d,.ref t,U,.inl ⟨_,.inr "notes",st.at_,U,rf.symm⟩,t,_,U,.inl ⟨i,.inl k,j,U,U⟩,_,rfl;rw[n];erw[vf ?_];erw[_,rfl,_,rfl,d,t, "notes",.inl k,v,_,i,rfl,st.at_,rf,j,n,StA.stKlen,λf c B g x ne o z=>?_];have e:=st.to (.of g);rw[ft] at o;erw[q f B (.of g) x ⟨m,b,r,c,.inl o,e.ma,e.ba,e.ru,⟨_,.inl z,?_⟩⟩];have:=(kn.to (.of g)).drop (k:=.inl k);rw[Ul] at this;rwa[this]
def SN:Deed->Prop
 | .mark .. | .sail .. | .bearing .. | .range .. | .strike ..=>True
 | _=>False
def jD(_:b6):Sp:=ZC SN
def tabL:List (Key×Sp):=[(.inr "mark",sT []),(.inr "sail",sR []),(.inr "bearing",vE []),(.inr "range",tK []),(.inr "strike",vI [])]
def ZQ(F:Fun K "after" "after" um f fd)(Z:Zs mg)(g:Cb P w mg base)(l:Has P w K mg base "after_mark" 3 ["state","row"] (sT K))(o:Has P w K mg base "after_sail" 3 ["state","row"] (sR K))(G:Has P w K mg base "after_bearing" 3 ["state","row"] (vE K))(B:Has P w K mg base "after_range" 3 ["state","row"] (tK K))(C:Has P w K mg base "after_strike" 2 ["state","row"] (vI K)):yS P w K mg base CX0 4 f fd ["state","row"] (jD K):=by
 specialize Ze
 ·obtain⟨d,v,S,D,rfl,_⟩:=h;rfl
 obtain⟨d,v,S,D,rfl,kd,st,c,ok,few,j,q⟩:=h;have i:∀ r∈tabL,Qe P w K mg base 3 TL r.1 r.2:=by
  intro r hr;simp only[tabL,j5,Bv,or_false] at hr;rcases hr with rfl | rfl | rfl | rfl | rfl
  ·rwa["after_mark",_,_,_,by symm,g.t_mark,l,by decide]
  ·rwa["after_sail",_,_,_,by symm,g.t_sail,o,by decide]
  ·rwa["after_bearing",_,_,_,by symm,g.t_bearing,G,by decide]
  ·rwa["after_range",_,_,_,by symm,g.t_range,B,by decide]
  ·rwa["after_strike",_,_,_,by symm,g.t_strike,C,by decide]
 refine'⟨_,(zD (zM (QE g.dAFTER g.gAFTER i (hr.mono (by decide)) ?_ (zG (pv 0) (zG (pv 1) zL))))),?_⟩
 nofun
 cases D with
 | mark n x y =>
  obtain⟨a,rfl,e⟩:=Xs c;rwa[_,rfl,a,_,_,.str "mark",rfl,rfl,.inr (SqT.of e),rfl,.inr "mark",_,rfl,.head _,_,rfl,_,rfl,d,.ref a,S,_,rfl,⟨n,x,y,rfl⟩,st,c,ok,few,j,q]
 | sail x y =>
  obtain⟨a,rfl,e⟩:=XS c;rwa[_,rfl,a,_,_,.str "sail",rfl,rfl,.inr (SqT.of e),rfl,.inr "sail",_,rfl,.tail _ (.head _),_,rfl,_,rfl,d,.ref a,S,_,rfl,⟨x,y,rfl⟩,st,c,ok,few,j,q]
 | bearing m n x y z t =>
  obtain⟨a,p,u,rfl,e,_⟩:=xc c;rwa[_,rfl,a,_,_,.str "bearing",rfl,rfl,.inr (SqT.of e),rfl,.inr "bearing",_,rfl,.tail _ (.tail _ (.head _)),_,rfl,_,rfl,d,.ref a,S,_,rfl,⟨_,_,_,_,_,_,rfl⟩,st,c,ok,few,j,q]
 | range m n k =>
  obtain⟨a,rfl,e⟩:=nH c;rwa[_,rfl,a,_,_,.str "range",rfl,rfl,.inr (SqT.of e),rfl,.inr "range",_,rfl,.tail _ (.tail _ (.tail _ (.head _))),_,rfl,_,rfl,d,.ref a,S,_,rfl,⟨_,_,_,rfl⟩,st,c,ok,few,j,q]
 | strike k =>
  obtain⟨a,rfl,e⟩:=dk c;rwa[_,rfl,a,_,_,.str "strike",rfl,rfl,.inr (SqT.of e),rfl,.inr "strike",_,rfl,.tail _ (.tail _ (.tail _ (.tail _ (.head _)))),_,rfl,_,rfl,d,.ref a,S,_,rfl,⟨_,rfl⟩,st,c,ok,few,j,q]
 | move | unmark | bank | level | right=>rwa[kd.elim]
def dbN(c:List (List Sd))(P:P3)(n:Nat):List Int:=((Ay n).filter λi=>!(jv (c.getD i []) P)).map λi=>((i:Nat):Int)
def WZ(c:List (List Sd))(P:P3)(n:Nat):dbN c P (n+1)=dbN c P n++(if jv (c.getD n []) P then [] else [(n:Int)]):=by
 unfold dbN;rw[Et,Cr,d5]
 congr 1
 rw[BO];cases jv (c.getD n []) P <;> rfl
def dZ(c:List (List Sd))(P:P3)(n:Nat):(dbN c P n).length<=n:=by
 unfold dbN;rw[b5];have z:=At (λi=>!(jv (c.getD i []) P)) (Ay n);(rw[D3] at z;assumption)
def db(c:List (List Sd))(P:P3):List Int:=dbN c P c.length
abbrev Grp:=b9×List Sd
def pZ(c:List Grp):List V:=c.map λg=>V.ref g.1
def tG(c:List Grp):(pZ c).length=c.length:=by unfold pZ; rw[b5]
def GrL(H:Hp)(c:List Grp):Prop:=∀ g∈c,H g.1=Kh (.lst (zS g.2))/\jq H g.2
def GrL.same{H e:Hp}(h:GrL H d)(s:Same H e):GrL e d:=λg c=>⟨s _ _ (h g c).1,(h g c).2.same s⟩
def Ub{c:List Grp}{i:Nat}{k:Int}(hi:i<c.length)(d:k=i):∃ g,c[i]?=Kh g/\g∈c/\atI (pZ c) k=Kh (.ref g.1)/\(c.map (·.2)).getD i []=g.2:=by
 subst d;erw[c[i],b8 hi,r9 hi,?_,by simp[hi]];rwa[vF (by unfold pZ; rw[c7,b8 hi]; rfl)]
structure Rws(H0:Hp)(D:b9)(rs:List (b9×List Int))(H:Hp):Prop where
 same:Same H0 H
 new:H0 D=Ki
 at':H D=Kh (.lst ((rs.map (·.1)).map V.ref))
 rows:∀ t∈rs,H t.1=Kh (.lst (t.2.map V.int))/\H0 t.1=Ki/\t.1≠D
def Rws.app{m H e:Hp}{k:List Int}(h:Rws m D g H)(j:Same H e)(i:H p=Ki)(q:e p=Kh (.lst (k.map V.int))) :
  Rws m D (g++[(p,k)]) (upd e D (.lst ((g.map (·.1)).map V.ref++[.ref p]))):=by
 have d:p≠D:=λz=>by rw[z,h.at'] at i; cases i
 erw[(h.same.trans j).putNew h.new,h.new,by rw[zA]; simp,λu c=>?_];rcases i9.mp c with c | c
 ·obtain⟨o,n,l⟩:=h.rows u c;rwa[by rw[zH l]; exact j _ _ o,n,l]
 ·rw[e9] at c;subst c;exact⟨by show upd e D _ p=_; rw[zH d]; exact q,h.same.free i,d⟩
def oq(K:b6):Sp:=λd H Q _=>E4 λ(l p:b9) (c:List Grp) (P:P3)=>A6 (d=[.ref l,.ref p]) (SqL K H l (pZ c)) (GrL H c) (c.length<=100) (Sq K H p [.int P.1,.int P.2.1,.int P.2.2]) (∀(D:b9),H D=Ki->Q (.ref D) (upd H D (.lst ((db (c.map (·.2)) P).map V.int))))
def fP(F:Fun K "doubted" "doubted" qT f fd)(Z:Zs mg)(O:Cb P w mg base)(B:Has P w K mg base "in_water" 3 ["sides","place"] (tO K)):yS P w K mg base CX0 4 f fd ["groups","place"] (oq K):=by
 specialize gU
 ·obtain⟨l,p,c,P,rfl,_⟩:=h;rfl
 obtain⟨l,p,c,P,rfl,y,ok,M,C,q⟩:=h
 refine'⟨_,(zD (zM (yP (T:=["number"]) (caps:=[("groups",0),("place",1)]) ⟨rfl,by ac_nf,by ac_nf,rfl,⟨⟨rfl,rfl,BD rfl⟩,⟨rfl,rfl,BD rfl⟩,x8⟩⟩ rfl (xC rfl Z.range ?_) (λ_=>(wO 0 (show(["number","groups","place"]:List j4).Nodup by ac_nf))) (λ_=>(ur ?_)) (λ_=>(pv 0))))),?_⟩
 nofun
 refine⟨_,U,l,pZ c,U,.inl y,_,U,by rw[tG]; lia,by rw[tG]; lia,λN D z=>jj (lo:=0) (n:=(pZ c).length) (λi j d o=>A3 (o=upd H D (.lst d)) (d=(dbN (c.map (·.2)) P i).map V.int) (∃ u:Option V,j=[u,Kh (.ref l),Kh (.ref p)]))
  ⟨rfl,rfl,Ki,rfl⟩ (λi j d o _ v=>by obtain⟨e,_⟩:=v; rw[e]; rwa[zA]) ?_ ?_⟩
 ·rintro i j d o hi ⟨rfl,rfl,u,rfl⟩;rw[tG] at hi;obtain⟨g,_,r,at',G⟩:=Ub hi (k:=0+(i:Int)) (by lia);obtain⟨J,I⟩:=ok g r;have m:=zC z (.lst ((dbN (c.map (·.2)) P i).map V.int));erw[_,rfl,_,rfl,l,_,_,_,rfl,rfl,.inl (m.seq y),at',_,rfl,g.1,p,g.2,P,rfl,SqL.of (m _ _ J),I.same m,?_,_,rfl,?_]
  ·rwa[C.same m]
  rw[<- G];have nx:=WZ (c.map (·.2)) P i;have L:=dZ (c.map (·.2)) P i;cases x:jv ((c.map (·.2)).getD i []) P with
  | true =>
   rw[x] at nx;erw[vf ⟨rfl,?_,_,rfl⟩];rw[nx];simp
  | false =>
   rw[x] at nx;erw[dI ⟨_,rfl,zA,zJ (by rw[b5]; lia),ve,?_,_,rfl⟩];rw[nx,d5];show _++[V.int (0+(i:Int))]=_++[V.int (i:Int)];rw[Aw]
 ·rintro j d o ⟨rfl,rfl,u,rfl⟩;rw[tG,show c.length=(c.map (·.2)).length by rw[b5]];rwa[q D z]
def pK{n:Nat}(h:n<=9000):n<sizeLine:=Am h (by decide)
def pz(c:List Sd)(P:P3):Prop:=P=(0,0,1)\/(∃ t∈c,P=pt3 (ftL t.2))\/∃ t∈c,∃ u∈c,tn t.2 u.2≠0/\P=pt3 (crL t.2 u.2)
def yA(c:List Grp):List Sd:=c.flatMap (·.2)
def VS(c:List Sd)(n:Nat):yg (zS c) Ki (Kh (n:Int))=zS (c.take n):=by
 unfold yg;rw[show HT.sIx (zS c).length 0 Ki=0 from rfl,HT.sIx_nat (zS c).length (zS c).length n,Fb,Ht];rw[zQ];unfold zS;rw[<- Cg,<- Cg];by_cases h:n<=c.length
 ·rw[Eu h]
 ·rw[Nat.min_eq_right (by lia),Ax (f6 _),Ax (by lia)]
structure Tr(ss:List Sd)(nf i j:Nat)(ps:List P3):Prop where
 each:∀ P∈ps,pz ss P
 zero:((0,0,1):P3)∈ps
 feet:∀(a:Nat)(t:Sd),a<nf->ss[a]?=Kh t->pt3 (ftL t.2)∈ps
 meet:∀(a b:Nat)(t u:Sd),b<a->(a<i\/(a=i/\b<j))->ss[a]?=Kh t->ss[b]?=Kh u->tn t.2 u.2≠0->pt3 (crL t.2 u.2)∈ps
def Tr.all(h:Tr c c.length c.length 0 o)(P:P3):P∈o↔pz c P:=by
 erw[h.each P,λz=>?_];rcases z with rfl | ⟨t,l,rfl⟩ | ⟨t,l,u,q,g,rfl⟩
 ·rwa[h.zero]
 ·obtain⟨a,d,n⟩:=AO l;rwa[h.feet a t d (by rw[b8 d,n])]
 ·obtain⟨a,d,n⟩:=AO l;obtain⟨b,p,r⟩:=AO q;have m:c[a]?=Kh t:=by rw[b8 d,n]
  have i:c[b]?=Kh u:=by rw[b8 p,r]
  by_cases h1:b<a
  ·rwa[h.meet a b t u h1 (.inl d) m i g]
  ·by_cases e:a=b
   ·subst e;rw[m] at i;cases i;rwa[x4 (by unfold tn; rw[o0]; lia) g]
   ·have j:tn u.2 t.2≠0:=λz=>g (by unfold tn at z ⊢; rw[o0 u.2.1,o0 u.2.2.1] at z; lia);rw[XA g];rwa[h.meet b a u t (by lia) (.inl p) i m j]
def Tr.foot{i:Nat}(h:Tr c i i 0 j)(gt:c[i]?=Kh t):Tr c (i+1) i 0 (j++[pt3 (ftL t.2)]):=by
 erw[λP n=>?_,Bg _ h.zero,λa u q g=>?_,λa b x y d m p o l=>Bg _ (h.meet a b x y d m p o l)]
 ·rcases i9.mp n with z | z
  ·rwa[h.each P z]
  ·rw[e9] at z;rwa[.inr (.inl ⟨t,f7 gt,z⟩)]
 ·by_cases e:a=i
  ·rw[e,gt] at g;cases g;rwa[t7 _ (.head _)]
  ·rwa[Bg _ (h.feet a u (by lia) g)]
def Tr.more{i j:Nat}{l c:List P3}(h:Tr g (i+1) i j l)(gt:g[i]?=Kh t)(p:g[j]?=Kh u)(sub:∀ P∈l,P∈c)(new:∀ P∈c,P∈l\/(tn t.2 u.2≠0/\P=pt3 (crL t.2 u.2)))(has:tn t.2 u.2≠0->pt3 (crL t.2 u.2)∈c):Tr g (i+1) i (j+1) c:=by
 erw[λP v=>?_,sub _ h.zero,λa x s d=>sub _ (h.feet a x s d),λa b x y m A d n o=>?_]
 ·rcases new P v with z | ⟨r,q⟩
  ·rwa[h.each P z]
  ·rwa[.inr (.inr ⟨t,f7 gt,u,f7 p,r,q⟩)]
 ·by_cases e:a=i/\b=j
  ·obtain⟨rfl,rfl⟩:=e;rw[gt] at d;rw[p] at n;cases d;cases n;rwa[has o]
  ·rwa[sub _ (h.meet a b x y m (by lia) d n o)]
def Tr.next{i:Nat}(h:Tr d (i+1) i i e):Tr d (i+1) (i+1) 0 e:=⟨h.each,h.zero,h.feet,λa b t u c l gt j g=>h.meet a b t u c (by lia) gt j g⟩
structure PlT(H0:Hp)(D:b9)(qs:List SpT)(H:Hp):Prop where
 same:Same H0 H
 new:H0 D=Ki
 at':H D=Kh (.lst (wR qs))
 ok:lF H qs
def PlT.app{n H e:Hp}{l:List Int}(h:PlT n D g H)(d:Same H e)(j:H p=Ki)(q:e p=Kh (.tup (l.map V.int)))(sp:YW l x) :
  PlT n D (g++[(p,x)]) (upd e D (.lst (wR g++[.ref p]))):=by
 have i:p≠D:=λz=>by rw[z,h.at'] at j; cases j
 erw[(h.same.trans d).putNew h.new,h.new,by rw[zA]; simp[wR],λu c=>?_];rcases i9.mp c with c | c
 ·obtain⟨m,o⟩:=h.ok u c;rwa[by rw[zH (tR (d _ _ m) (d _ _ h.at') (by intro z; cases z))]; exact d _ _ m,o]
 ·rw[e9] at c;subst c;erw[?_,sp.pos,sp.low];show upd e D _ p=_;rw[zH i,q,sp.list];rfl
def rO(K:b6):Sp:=λh H Q _=>E2 λ(l:b9) (c:List Grp)=>A6 (h=[.ref l]) (SqL K H l (pZ c)) (GrL H c) (c.length<=24) (∀ g∈c,g.2.length<=2) (∀(D:b9)(d:List SpT)(e:Hp),Same H e->H D=Ki->e D=Kh (.lst (wR d))->lF e d->(∀ P,P∈d.map (·.2)↔pz (yA c) P)->d.length<=9000->Q (.ref D) e)
def qx(F:Fun K "places_to_try" "places_to_try" wG f fd)(Z:Zs mg)(CB:Cb P w mg base)(yBl:Has P w K mg base "crossing" 4 ["one","other"] (tP K))(yCp:Has P w K mg base "foot" 5 ["side"] (ut K))(yCm:Has P w K mg base "spot" 4 ["x","y","w"] (uh K)):yS P w K mg base CX0 6 f fd ["groups"] (rO K):=by
 specialize yF
 ·obtain⟨l,m,rfl,_⟩:=h;rfl
 obtain⟨l,m,rfl,hl,ok,hn,h2,q⟩:=h
 refine'⟨_,(zB (zO 1 yF.nd ?_)
   (zB (xL m8 rfl (yQ (pv 0)) (wO 2 yF.nd) (zD (zV (XV B7 DD DE kQ (pv 1) (zG (pv 2) zL)))))
   (zB (zO 3 yF.nd ?_)
   (zB (xL m8 rfl (xC rfl Z.range ?_) (wO 4 yF.nd) (zB (zV (vc (pv 3) ?_))
   (zD (xL m8 rfl (ie ?_) (wO 5 yF.nd) (zB (zO 6 yF.nd ?_)
   (zD (xJ ?_ (zD (zV (vc (pv 3) (zG (pv 6) zL)))) zU)))))))
   (zD (zM (pv 3))))))),?_⟩
 nofun
 have len:∀ k,k<=m.length->(yA (m.take k)).length<=2*k:=λk=>by
  induction k with
  | zero=>intro _; simp[yA]
  | succ k ih =>
   intro hk;have hk':k<m.length:=by lia
   have z:=ih (by lia);have g2:=h2 m[k] (r9 hk');have e:yA (m.take (k+1))=yA (m.take k)++m[k].2:=by
    unfold yA;rw[D5 hk',GX];simp
   rw[e,f8];lia
 have okS:∀{x:Hp},GrL x m->jq x (yA m):=λ{x} o t ht=>by
  obtain⟨g,hg,htg⟩:=FZ.mp ht;exact(o g hg).2 t htg
 refine⟨t9 _,λd hd=>?_⟩;have T:∀ v,Same H (upd H d v):=λv=>zC hd v;refine⟨_,U,l,U,.inl ⟨⟨_,(T _).seq hl⟩,xD (K:=K) (a:=l) (xs:=pZ m) (λi C x=>x=upd H d (.lst (zS (yA (m.take i))))/\∃ u2:Option V,C=[Kh (.ref l),Kh (.ref d),u2,Ki,Ki,Ki,Ki])
  ⟨rfl,Ki,rfl⟩ (λi C x _ R=>by obtain⟨e,_⟩:=R; rw[e]; exact(T _).seq hl) ?_ ?_⟩⟩
 ·rintro i v C x hi ⟨rfl,u2,rfl⟩;unfold pZ at hi;rw[c7] at hi;cases X:m[i]? with
  | none=>rw[X] at hi; cases hi
  | some g =>
   rw[X] at hi;cases hi;have hil:i<m.length:=(c6.mp X).1;have eg:=(ok g (f7 X)).1;have lz:=len i (by lia);have g2:=h2 g (f7 X);erw[_,rfl,.inl ⟨rfl,_,SqL.of zA⟩,_,rfl,d,g.1,_,_,rfl,rfl,zA,T _ _ _ eg,?_,?_]
   ·rw[zQ,zQ];rwa[mv (by lia)]
   ·erw[?_,_,rfl];rw[ve]
    congr 2
    unfold yA;rw[D5 hil,GX,(c6.mp X).2];simp[zS]
 ·rintro C x ⟨rfl,u2,rfl⟩;rw[tG,i8];have lz:=len m.length (f6 _);rw[i8] at lz;have O:jq (upd H d (.lst (zS (yA m)))) (yA m):=okS (ok.same (T _));have s0:=T (.lst (zS (yA m)));have ed:upd H d (.lst (zS (yA m))) d=Kh (.lst (zS (yA m))):=zA;generalize upd H d (.lst (zS (yA m)))=H1 at O s0 ed ⊢;clear len okS T;generalize hss:yA m=y at O ed lz q;erw[0,0,1,rfl,by decide,by ac_nf,λp Y s2 hp ep=>?_];have e0:qH (upL 0 0 1)=[0,0,1]:=by ac_nf
  rw[e0] at ep;refine⟨by show 1<=sizeLine; decide,λD hD=>?_⟩;have P0:PlT Y D [(p,0,0,1)] (upd Y D (.lst [.ref p])):=by
   erw[zC hD _,hD,zA,λu hu=>?_];rw[e9] at hu;subst hu;exact⟨zC hD _ _ _ ep,by show(0:Int)<1; decide,by show Ab (Ab 0 0) 1=1; decide⟩
  have T0:Tr y 0 0 0 ([((p,0,0,1):SpT)].map (·.2)):=⟨λP hP=>by rw[e9.mp hP]; exact .inl rfl,.head _,λa t h=>x4 h (Bj _),λa b t u h1 h2=>x4 h2 (by lia)⟩;have hs12:Same H1 Y:=s2;have J:=s2 _ _ ed;have ok2:=O.same s2;refine⟨_,U,d,zS y,U,.inl ((zC hD _).seq (SqL.of J)),_,U,by rw[zQ]; lia,by rw[zQ]; lia,wC (lo:=0) (n:=(zS y).length) (λi C x=>∃ B:List SpT,A4 (PlT Y D B x) (Tr y i i 0 (B.map (·.2))) (B.length<=1+i*49) (E3 λ(u4 N M:Option V)=>C=[Kh (.ref l),Kh (.ref d),u2,Kh (.ref D),u4,N,M]))
   ⟨_,P0,T0,by show 1<=1+0*49; lia,Ki,Ki,Ki,rfl⟩ ?_ ?_⟩
  ·rintro i C x hi ⟨B,r,G,hq,u4,N,M,rfl⟩;rw[zQ] at hi;obtain⟨t,mt,gt,at'⟩:=uV (ss:=y) (i:=i) (k:=0+(i:Int)) (by lia) hi;have I:=ok2.same r.same;obtain⟨et,nt,b1,b2,b3⟩:=I t mt;have hq1:i*49<=48*49:=GL _ (by lia);erw[_,rfl,.inl ⟨rfl,_,SqL.of r.at'⟩,_,rfl,_,rfl,d,_,_,_,rfl,rfl,.inl (SqL.of (r.same _ _ J)),at',t.1,t.2,rfl,.inr (SqT.of et),nt,b1,b2,λp3 H3 s3 hp3 ep3=>?_];exists D,_,_,U,U,s3 _ _ r.at',pK (by simp only[wR,b5]; lia);have L:=r.app s3 hp3 ep3 (Vk nt).1;have T1:=G.foot gt;generalize upd H3 D (.lst (wR B++[.ref p3]))=H4 at L ⊢;erw[_,rfl,_,rfl,_,rfl,d,_,rfl,SqL.of (L.same _ _ J),λc hc=>?_];rw[Aw,VS];rw[Aw] at at';have sc:Same H4 (upd H4 c (.lst (zS (y.take i)))):=zC hc _;have ec:upd H4 c (.lst (zS (y.take i))) c=Kh (.lst (zS (y.take i))):=zA;have P2:PlT Y D (B++[(p3,pt3 (ftL t.2))]) (upd H4 c (.lst (zS (y.take i)))):=⟨L.same.trans sc,L.new,sc _ _ L.at',L.ok.same sc⟩;have ncD:c≠D:=λz=>by rw[z,L.at'] at hc; cases hc
   generalize upd H4 c (.lst (zS (y.take i)))=H5 at P2 ec ⊢;clear L sc hc;refine⟨c,U,⟨_,SqL.of ec⟩,xD (K:=K) (a:=c) (xs:=zS (y.take i)) (λj C x=>A3 (x c=Kh (.lst (zS (y.take i)))) (∃ B:List SpT,A3 (PlT Y D B x) (Tr y (i+1) i j (B.map (·.2))) (B.length<=2+i*49+j)) (E2 λ(N M:Option V)=>C=[Kh (.ref l),Kh (.ref d),u2,Kh (.ref D),Kh (.int i),N,M]))
    ⟨ec,⟨_,P2,by rw[d5]; exact T1,by rw[f8,As]; lia⟩,_,_,rfl⟩ (λj C x _ R=>by obtain⟨e,_⟩:=R; rwa[SqL.of e]) ?_ ?_⟩
   ·rintro j v C H6 hj ⟨S,⟨B,r,G,hq⟩,N,M,rfl⟩;obtain⟨u,gu0,rfl,hjl⟩:=pO hj;rw[g8] at hjl;have gu:y[j]?=Kh u:=by rw[FF (by lia)] at gu0; rwa[gu0]
    have I:=ok2.same r.same;obtain⟨et,nt,b1,b2,b3⟩:=I t mt;obtain⟨eu,nu,c1,c2,c3⟩:=I u (f7 gu);erw[_,rfl,_,rfl,d,_,_,_,rfl,rfl,.inl (SqL.of (r.same _ _ J)),at',_,rfl,t.1,u.1,t.2.1,t.2.2.1,t.2.2.2,u.2.1,u.2.2.1,u.2.2.2,rfl,.inr (SqT.of et),.inr (SqT.of eu),by lia,by lia,by lia,by lia,by lia,λh0=>?_,λh0 p7 H7 s7 hp7 ep7=>?_]
    ·exists _,U,U,_,rfl;erw[vf ?_];rwa[S,⟨B,r,G.more gt gu (λP h=>h) (λP h=>.inl h) λz=>x4 h0 z,by lia⟩,_,_,rfl]
    ·exists _,U,U,_,rfl;erw[dI ?_];have P7:=r.app (l:=crL t.2 u.2) s7 hp7 ep7 (ya h0).1;exists _,U,.inl ⟨U,_,SqL.of (s7 _ _ r.at')⟩,_,U,D,_,_,U,U,s7 _ _ r.at',pK (by simp only[wR,b5]; lia);erw[by rw[zH ncD]; exact s7 _ _ S,⟨_,P7,?_,by rw[f8,As]; lia⟩,_,_,rfl];rw[d5];rwa[G.more gt gu (λP h=>Bg _ h) (λP h=>(i9.mp h).imp id λz=>⟨h0,e9.mp z⟩) λ_=>t7 _ (.head _)]
   ·rintro C H6 ⟨S,⟨B,r,G,hq⟩,N,M,rfl⟩;rw[zQ,g8,Eu (by lia)] at G hq;rwa[B,r,G.next,by lia,_,_,_,rfl]
  ·rintro C x ⟨B,r,G,hq,u4,N,M,rfl⟩;rw[zQ] at G hq;erw[_,rfl,q D B x ((s0.trans s2).trans r.same) ((s0.trans s2).free r.new) r.at' r.ok (λP=>G.all P) ?_];have:y.length*49<=48*49:=GL _ (by lia);lia
def ye:∀{a b:List (List Int)},a.map qc=b.map qc->a=b
 | [],[],_=>rfl
 | [],_::_,h=>nomatch h
 | _::_,[],h=>nomatch h
 | x::a,y::b,h=>by
  rw[i4,i4] at h;injection h with h1 h2
  rw[iC h1,ye h2]
def dL.put_or(h:dL d g)(i:dL (qO d (qc k) v) c):c=g\/c=g++[k]:=by
 have e:=i.keys;unfold qO at e;split at e
 ·left;erw[ye ?_];rw[<- e,<- h.keys,Ag];erw[Dy λa _=>?_];show(if a.1=qc k then(a.1,v) else a).1=a.1;split <;> rfl
 ·right;erw[ye ?_];rw[<- e,d5,d5,h.keys];rfl
structure ZV(H:Hp)(gs:List Grp)(kvs:List (List Key×V))(ks:List (List Int)):Prop where
 tab:dL kvs ks
 spot:∀ k∈ks,∃ sp:SpT,tZ kvs (qc k)=Kh (.ref sp.1)/\lF H [sp]/\k=db (gs.map (·.2)) sp.2/\pz (yA gs) sp.2
structure PU(gs:List Grp)(ks:List (List Int)):Prop where
 ne:ks≠[]
 least:∀ k∈ks,∀ P,pz (yA gs) P->k.length<=(db (gs.map (·.2)) P).length
 all:∀ P,pz (yA gs) P->(∀ k∈ks,(db (gs.map (·.2)) P).length<=k.length)->db (gs.map (·.2)) P∈ks
def ZV.put{H H':Hp}(l:ZV H d g h){x:SpT}(v:lF H' [x])(q:pz (yA d) x.2)(keep:∀ b xs,H b=Kh (.tup xs)->H' b=Kh (.tup xs)) :
  ∃ c,ZV H' d (qO g (qc (db (d.map (·.2)) x.2)) (.ref x.1)) c/\(∀ k,k∈c↔k∈h\/k=db (d.map (·.2)) x.2)/\c.length<=h.length+1:=by
 obtain⟨c,s,j,r⟩:=l.tab.put (db (d.map (·.2)) x.2) (.ref x.1);erw[c,⟨s,λk y=>?_⟩,j,r];by_cases e:k=db (d.map (·.2)) x.2
 ·rwa[x,by rw[xo,y7 (by rw[e])],v,e,q]
 ·obtain⟨sp,p,i,o,n⟩:=l.spot k (((j k).mp y).resolve_right e);erw[sp,by rw[xo,y6 (λz=>e (iC z))]; exact p,λu m=>?_,o,n];rwa[keep _ _ (i u m).1,(i u m).2]
def jP{h:List (b9×List Key)}{g:TG}{q:TE}{n:St}{s:Hp}{Q:VK}(j:Nat->St->List V->Hp->Prop)(h0:j 0 n [] (upd s D (.lst [])))(A:∀ i d c H,j i d c H->H D=Kh (.lst c))
  (v:∀ i t d c H,h[i]?=Kh t->j i d c H->g (.ref t.1) d H λl B=>q l B λy r=>r D=Kh (.lst c)/\c.length<sizeLine/\j (i+1) l (c++[y]) (upd r D (.lst (c++[y]))))
  (hd:∀ d c H,j h.length d c H->Q (.ref D) H):oV (Itk h) D g RX q n s Q:=by
 exists λi m d c H=>m=h.length-i/\i<=h.length/\j i d c H,⟨_,U,t9 _,h0⟩;rintro i m d c H ⟨rfl,hi,p⟩;exists A i d c H p;by_cases o:i<h.length
 ·erw[.inr ⟨o,j (i+1),λu E C z=>⟨h.length-(i+1),by lia,rfl,o,z⟩,λx C y=>?_⟩];obtain⟨rfl,t,gt,rfl⟩:=y;rwa[v i t d c _ gt p]
 ·have e:i=h.length:=by lia
  subst e;rwa[.inl ⟨f6 _,hd d c H p⟩]
def WX:Nat->List (List Int)
 | 0=>[[]]
 | n+1=>WX n++(WX n).map (· ++ [(n:Int)])
def bE:∀ n,(WX n).length=2^n
 | 0=>rfl
 | n+1=>by rw[WX,f8,b5,bE n,Hq]; lia
def bF:∀ n,∃ r,WX n=[]::r
 | 0=>⟨[],rfl⟩
 | n+1=>by
  obtain⟨r,e⟩:=bF n;rwa[r++(WX n).map (· ++ [(n:Int)]),by rw[WX,e]; rfl]
def Wc(c:List (List Sd))(P:P3):∀ n,dbN c P n∈WX n
 | 0=>.head _
 | n+1=>by
  have d:=Wc c P n;have e:dbN c P (n+1)=dbN c P n++(if jv (c.getD n []) P=Kj then [] else [(n:Int)]):=by
   unfold dbN;rw[Et,Cr,d5]
   congr 1
   rw[BO];cases h:jv (c.getD n []) P <;> rfl
  rw[e,WX,i9];split
  ·rw[AJ]; rwa[.inl d]
  ·rwa[.inr (g9.mpr ⟨_,d,rfl⟩)]
def QC{c:List (List Sd)}(i:c.length<=6){d:List (List Int)}(nd:d.Nodup)(j:∀ k∈d,∃ P,k=db c P)(o:64<=d.length):[]∈d:=by
 refine Classical.byContradiction λno=>?_;obtain⟨r,e⟩:=bF c.length;have sub:d ⊆ r:=λk h=>by
  obtain⟨P,ek⟩:=j k h;have m:k∈WX c.length:=by rw[ek]; rwa[Wc c P _]
  rw[e] at m;rcases j5.mp m with z | z
  ·rw[z] at h; rwa[x4 h no]
  ·rwa[z]
 have n:=List.Nodup.length_le_of_subset nd sub;have g:=bE c.length;rw[e,f9] at g;have l:2^c.length<=2^6:=Nat.pow_le_pow_right (by decide) i;have:(2:Nat)^6=64:=rfl;lia
def qL(K:b6):Sp:=λi H Q _=>E2 λ(l:b9) (c:List Grp)=>A6 (i=[.ref l]) (SqL K H l (pZ c)) (GrL H c) (c.length<=6) (∀ g∈c,g.2.length<=2) (∀(D:b9)(d:List (List Key×V))(e:List (List Int))(h:Hp),Same H h->H D=Ki->h D=Kh (.dT d)->ZV h c d e->PU c e->e.Pairwise (λa b=>HT.lexLt b a=Kk)->e.length<=9000->Q (.ref D) h)
def pS(F:Fun K "least_doubts" "least_doubts" wT f fd)(Z:Zs mg)(CB:Cb P w mg base)(yAd:Has P w K mg base "places_to_try" 6 ["groups"] (rO K))(yBv:Has P w K mg base "doubted" 4 ["groups","place"] (oq K)):yS P w K mg base CX0 7 f fd ["groups"] (qL K):=by
 specialize yY
 ·obtain⟨l,B,rfl,_⟩:=h;rfl
 obtain⟨l,B,rfl,hl,ok,hn,h2,q⟩:=h;have hu1:=Am (Dv (show 1<=64 by decide) _) hr.units;have hu2:=Am (Dv (show 2<=64 by decide) _) hr.units
 refine'⟨_,(zB (zO 1 yY.nd io)
   (zB (xL m8 rfl (yQ ?_) (wO 2 yY.nd) (zD (qQ (yT hr) (pv 1) ?_ (pv 2) rfl)))
   (zB (zO 3 yY.nd (yH (Wr rfl) rfl Z.min TR (zG (aP (T:=["choice"]) (caps:=[]) ⟨rfl,by ac_nf,by ac_nf,rfl,x8⟩ rfl (pv 1) (λ_=>(wO 0 (show(["choice"]:List j4).Nodup by ac_nf))) (λ_=>yD) (λ_=>?_)) zL)))
   (zB (zO 4 yY.nd io)
   (zB (xL m8 rfl (yQ (yH (gg hu2) rfl Z.sorted sX (zG (uY (oa rfl) rfl Z.list pP (zG (pv 1) zL)) zL))) (wO 5 yY.nd) (zD (xJ ?_ (zD (qQ (yT hr) (pv 4) (pv 5) (zX (yT hr) (pv 1) (pv 5) (λ_ _=>rfl)) rfl)) zU)))
   (zD (zM (pv 4)))))))),?_⟩
 nofun
 refine λd hd=>?_;have s0:=zC hd (.dT []);refine⟨_,U,l,B,U,s0.seq hl,ok.same s0,(by lia),h2,λp1 qs H1 s1 hp1 ep1 okq mem hq=>?_⟩;have ed1:=s1 _ _ (show upd H d (.dT []) d=Kh (.dT []) from zA);refine⟨p1,U,.inl ⟨⟨_,SqL.of ep1⟩,xD (K:=K) (a:=p1) (xs:=wR qs) (λi O J=>A3 (∀ b o,H1 b=Kh o->b≠d->J b=Kh o) (E2 λr N=>A4 (J d=Kh (.dT r)) (ZV J B r N) (N.length<=i) (∀ j x,j<i->qs[j]?=Kh x->db (B.map (·.2)) x.2∈N)) (E4 λ(u2 u3 u4 u5:Option V)=>O=[Kh (.ref l),Kh (.ref d),u2,u3,u4,u5]))
  ⟨λb o e _=>e,⟨[],[],ed1,⟨.nil,λk R=>nomatch R⟩,f6 _,λj x h=>x4 h (Bj _)⟩,Ki,Ki,Ki,Ki,rfl⟩ (λi O J _ hq'=>SqL.of (hq'.1 _ _ ep1 ?_)) ?_ ?_⟩⟩
 ·rwa[tR ep1 ed1 (by intro z; cases z)]
 ·rintro i v O H2 hi ⟨kp,⟨r,N,eD,sh,R,done⟩,u2,u3,u4,u5,rfl⟩;rw[c7,c7] at hi;cases I:qs[i]? with
  | none=>rw[I] at hi; cases hi
  | some x =>
   rw[I] at hi;cases hi;have hx:=okq x (f7 I);have nxd:x.1≠d:=tR hx.1 ed1 (by intro z; cases z);have ex2:=kp _ _ hx.1 nxd;have ld:∀{b:b9}{o:HO},H b=Kh o->b≠d:=λ{b o} e z=>by rw[z,hd] at e; cases e
   have h12:∀{b:b9}{o:HO},H b=Kh o->H2 b=Kh o:=λ{b o} e=>kp _ _ (s1 _ _ (s0 _ _ e)) (ld e);have s02:Same H H2:=λb o e=>h12 e;refine⟨_,U,_,U,_,U,_,U,l,x.1,B,x.2,U,s02.seq hl,ok.same s02,by lia,.inr (SqT.of ex2),λD hD=>?_⟩;have sD:=zC hD (.lst ((db (B.map (·.2)) x.2).map V.int));refine⟨D,_,U,.inl ⟨SqL.of zA,λt ht=>?_⟩⟩;have st:=zC ht (.tup ((db (B.map (·.2)) x.2).map V.int));have eD4:=st _ _ (sD _ _ eD);have kl:=sh.tab.len;have L:=sD.trans st;have et:upd (upd H2 D (.lst ((db (B.map (·.2)) x.2).map V.int))) t (.tup ((db (B.map (·.2)) x.2).map V.int)) t=Kh (.tup ((db (B.map (·.2)) x.2).map V.int)):=zA;generalize upd (upd H2 D (.lst ((db (B.map (·.2)) x.2).map V.int))) t (.tup ((db (B.map (·.2)) x.2).map V.int))=H4 at L eD4 et ⊢;have hi2:i<qs.length:=(c6.mp I).1;exists d,_,U,cR.t (k:=qc (db (B.map (·.2)) x.2)) eD4 (by rw[vg]; exact et) (by rw[kl]; exact pK (by lia));have g:∀(b:b9)(xs:List V),H2 b=Kh (.tup xs)->upd H4 d (.dT (qO r (qc (db (B.map (·.2)) x.2)) (.ref x.1))) b=Kh (.tup xs):=λb xs e=>by
    rw[zH (tR (L _ _ e) eD4 (by intro z; cases z))];rwa[L _ _ e]
   obtain⟨ks',Y,G,len'⟩:=sh.put (H':=upd H4 d (.dT (qO r (qc (db (B.map (·.2)) x.2)) (.ref x.1)))) (x:=x) (λu hu=>by rw[e9] at hu; subst hu; rwa[g _ _ ex2,hx.2]) ((mem x.2).mp (t5 (f7 I))) g;erw[λb o e n=>by rw[zH n]; exact L _ _ (kp b o e n),⟨_,ks',zA,Y,by lia,λj y hj gy=>?_⟩,_,_,_,_,rfl];by_cases e:j=i
   ·rw[e,I] at gy;cases gy;exact(G _).mpr (.inr rfl)
   ·exact(G _).mpr (.inl (done j y (by lia) gy))
 ·rintro O H2 ⟨kp,⟨r,N,eD,sh,R,done⟩,u2,u3,u4,u5,rfl⟩;have lq:(wR qs).length=qs.length:=by simp
  rw[lq] at R done;have ld:∀{b:b9}{o:HO},H b=Kh o->b≠d:=λ{b o} e z=>by rw[z,hd] at e; cases e
  have s02:Same H H2:=λb o e=>kp _ _ (s1 _ _ (s0 _ _ e)) (ld e);have all:∀ P,pz (yA B) P->db (B.map (·.2)) P∈N:=λP hP=>by
   obtain⟨x,hx,e⟩:=g9.mp ((mem P).mpr hP);obtain⟨j,hj,ej⟩:=AO hx;rw[<- e];rwa[done j x hj (by rw[b8 hj,ej])]
  clear kp done okq mem;refine⟨_,U,d,r,U,eD,λts ets hts cc D hD=>jP (λi O ys J=>A3 (J=upd (rA H2 d) D (.lst ys)) (ys=((ts.take i).map λt=>V.int (t.2.length:Int))) (∃ u:Option V,O=[u]))
   ⟨rfl,rfl,Ki,rfl⟩ (λi O ys J hq'=>by obtain⟨e,_⟩:=hq'; rw[e]; rwa[zA]) ?_ ?_⟩
  ·rintro i t O ys J gt ⟨rfl,rfl,u,rfl⟩;have ht:=hts t (f7 gt);have htd:t.1≠d:=tR ht eD (by intro z; cases z);have htD:t.1≠D:=λz=>by rw[z,hD] at ht; cases ht
   have til:i<ts.length:=(c6.mp gt).1;have tl:ts.length=r.length:=by have z:=congrArg z9 ets; (rw[b5,b5] at z;assumption)
   have kl:=sh.tab.len;erw[_,rfl,t.1,_,rfl,.inr (SqT.of (by rw[zH htD,zy htd]; rwa[ht])),zA,pK (by rw[b5,g8]; lia),ve,?_,_,rfl];rw[xK gt,d5,b5];rfl
  ·rintro O ys J ⟨rfl,rfl,u,rfl⟩;erw[λ_=>?_];have nDd:D≠d:=λz=>by rw[z,eD] at hD; cases hD
   rw[WT eD nDd,i8];have lens:(ts.map λt=>(t.2.length:Int))=N.map λk=>(k.length:Int):=by
    have z:=congrArg (List.map λt:List Key=>(t.length:Int)) (ets.trans sh.tab.keys);rw[Ag,Ag] at z;erw[z.trans (Dy λk _=>?_)];show((qc k).length:Int)=_;unfold qc;rw[b5]
   have kne:N≠[]:=λz=>by have:=all (0,0,1) (.inl rfl); rw[z] at this; cases this
   erw[D,ts.map (λt=>(t.2.length:Int)),rfl,SqL.of (by rw[zA,Ag]; rfl),by rw[lens]; exact λz=>kne (List.map_eq_nil_iff.mp z),λM m1 m2=>?_];rw[lens] at m1 m2;obtain⟨k0,mk0,ek0⟩:=g9.mp m1;have m3:∀ k∈N,M<=(k.length:Int):=λk R=>m2 _ (t5 (f:=λk:List Int=>(k.length:Int)) R);have s3:=zC hD (.lst (ts.map λt=>V.int (t.2.length:Int)));generalize upd H2 D (.lst (ts.map λt=>V.int (t.2.length:Int)))=H3 at s3 ⊢;clear lens m1 m2 ets hts;erw[λX hd2=>?_];have s4:=zC hd2 (.dT []);have ed4:=(s3.trans s4) _ _ eD;have e24:upd H3 X (.dT []) X=Kh (.dT []):=zA;have ndd:d≠X:=λz=>by rw[<- z] at hd2; rw[s3 _ _ eD] at hd2; cases hd2
   have L:=s3.trans s4;have hd20:H2 X=none:=s3.free hd2;generalize upd H3 X (.dT [])=H4 at L ed4 e24 ⊢;clear s3 s4;erw[_,rfl,d,r,rfl,ed4,λp5 ts5 hp5 ets5 hts5=>?_];obtain⟨us,w1,w2,w3⟩:=sh.tab.refs ets5 hts5;have s5:=zC hp5 (.lst ((ts5.map (·.1)).map V.ref));have ep5:upd H4 p5 (.lst ((ts5.map (·.1)).map V.ref)) p5=Kh (.lst ((us.map (·.1)).map V.ref)):=by rw[zA,w1]
   generalize upd H4 p5 (.lst ((ts5.map (·.1)).map V.ref))=H5 at s5 ep5 ⊢;refine⟨p5,us,U,SqL.of ep5,λt ht=>s5 _ _ (w3 t ht),λp6 us6 hp6 pm pw=>?_⟩;have s6:=zC hp6 (.lst ((us6.map (·.1)).map V.ref));have ep6:upd H5 p6 (.lst ((us6.map (·.1)).map V.ref)) p6=Kh (.lst ((us6.map (·.1)).map V.ref)):=zA;generalize upd H5 p6 (.lst ((us6.map (·.1)).map V.ref))=H6 at s6 ep6 ⊢;have s46:=s5.trans s6;have eu6:∀ u∈us6,H6 u.1=Kh (.tup (u.2.map V.int)):=λu hu=>s46 _ _ (w3 u (pm.mem_iff.mp hu));have mu6:∀ k,k∈N↔∃ u∈us6,u.2=k:=λk=>by
    rw[<- w2,g9];rwa[λ⟨u,h1,h2⟩=>⟨u,pm.mem_iff.mpr h1,h2⟩,λ⟨u,h1,h2⟩=>⟨u,pm.mem_iff.mp h1,h2⟩]
   have lu:us6.length<=9000:=by
    have z:=congrArg z9 w2;rw[b5] at z;rw[pm.length_eq,z];lia
   have lk:us.length=N.length:=by have z:=congrArg z9 w2; (rw[b5] at z;assumption)
   have dbk:∀ k∈N,∃ P,k=db (B.map (·.2)) P:=λk R=>let ⟨sp,_,_,e,_⟩:=sh.spot k R;⟨_,e⟩;have ndk:=sh.tab.nodup;rw[lk] at pw;have e26:=s46 _ _ e24;have ed6:=s46 _ _ ed4;have s26:=L.trans s46;clear w1 w2 w3 pm ep5 s5 s6 hp5 hp6 ets5 hts5;refine⟨p6,U,.inl ⟨⟨_,SqL.of ep6⟩,xD (K:=K) (a:=p6) (xs:=(us6.map (·.1)).map V.ref) (λi O J=>A3 (∀ b o,H6 b=Kh o->b≠X->J b=Kh o) (E2 λc m=>A5 (J X=Kh (.dT c)) (ZV J B c m) (m.length<=i) (m.Sublist ((us6.take i).map (·.2))) (∀ k,k∈m↔∃ j u,j<i/\us6[j]?=Kh u/\u.2=k/\(k.length:Int)=M)) (∃ u5:Option V,O=[Kh (.ref l),Kh (.ref d),u2,Kh (.int M),Kh (.ref X),u5]))
    ⟨λb o e _=>e,⟨[],[],e26,⟨.nil,(λk R=>nomatch R)⟩,f6 _,Ih _,λk=>⟨(λh=>nomatch h),λ⟨j,u,h,_⟩=>x4 h (Bj _)⟩⟩,_,rfl⟩ (λi O J _ hq'=>by obtain⟨e,_⟩:=hq'; rwa[SqL.of (e _ _ ep6 (tR ep6 e26 (by intro z; cases z)))]) ?_ ?_⟩⟩
   ·rintro i v O H7 hi ⟨kp,⟨c,m,eD7,S,hk2,p,C⟩,u5,rfl⟩;rw[c7,c7] at hi;cases I:us6[i]? with
    | none=>rw[I] at hi; cases hi
    | some x =>
     rw[I] at hi;cases hi;have hx:=eu6 x (f7 I);have ex7:=kp _ _ hx (tR hx e26 (by intro z; cases z));have ed7:=kp _ _ ed6 ndd;have hi2:i<us6.length:=(c6.mp I).1;have xk:x.2∈N:=(mu6 x.2).mpr ⟨x,f7 I,rfl⟩;exists _,U,x.1,_,U,.inr (SqT.of ex7),_,U,U,_,rfl;rw[b5];erw[ifE (λhe=>?_) (λhe=>?_)]
     ·obtain⟨sp,v1,v2,v3,v4⟩:=sh.spot x.2 xk;have hsp:=v2 sp (.head _);have esp6:=s26 _ _ hsp.1;have esp7:=kp _ _ esp6 (tR esp6 e26 (by intro z; cases z));have kl:=S.tab.len;refine⟨_,U,_,U,d,.ref sp.1,U,by rw[<- v1]; exact YL.t (k:=qc x.2) ed7 (by rw[vg]; exact ex7),?_⟩;exists _,U,_,U,X,_,U,cR.t (k:=qc x.2) eD7 (by rw[vg]; exact ex7) (by rw[kl]; exact pK (by lia));have g:∀(b:b9)(xs:List V),H7 b=Kh (.tup xs)->upd H7 X (.dT (qO c (qc x.2) (.ref sp.1))) b=Kh (.tup xs):=λb xs e=>by
       rw[zH (tR e eD7 (by intro z; cases z))];rwa[e]
      obtain⟨ks',Y,G,len'⟩:=S.put (H':=upd H7 X (.dT (qO c (qc x.2) (.ref sp.1)))) (x:=sp) (λu hu=>by rw[e9] at hu; subst hu; rwa[g _ _ esp7,hsp.2]) v4 g;rw[<- v3] at Y G;erw[λb o e n=>by rw[zH n]; exact kp b o e n,⟨_,ks',zA,Y,by lia,?_,λk=>?_⟩,_,rfl]
      ·rw[xK I,d5];rcases dL.put_or S.tab Y.tab with e | e
       ·rw[e]; rwa[p.trans (DF _ _)]
       ·rw[e]; rwa[J8 p (HG _)]
      rw[G k,C k];erw[λz=>?_,λ⟨j,u,h1,h2,h3,h4⟩=>?_]
      ·rcases z with ⟨j,u,h1,h2⟩ | z
       ·rwa[j,u,by lia,h2]
       ·rwa[i,x,Ck _,I,z.symm,by rw[z]; exact he]
      ·by_cases e:j=i
       ·rw[e,I] at h2;cases h2;rwa[.inr h3.symm]
       ·rwa[.inl ⟨j,u,by lia,h2,h3,h4⟩]
     ·erw[kp,⟨c,m,eD7,S,by lia,by rw[xK I,d5]; exact p.trans (DF _ _),λk=>?_⟩,_,rfl];rw[C k];erw[λ⟨j,u,h1,h2⟩=>⟨j,u,by lia,h2⟩,λ⟨j,u,h1,h2,h3,h4⟩=>?_];by_cases e:j=i
      ·rw[e,I] at h2;cases h2;rw[h3] at he;rwa[x4 h4 he]
      ·rwa[j,u,by lia,h2,h3,h4]
   ·rintro O H7 ⟨kp,⟨c,m,eD7,S,hk2,p,C⟩,u5,rfl⟩;exists _,rfl;have n02:H X=none:=s02.free hd20;have same7:Same H H7:=λb o e=>kp _ _ (s26 _ _ (s02 _ _ e)) λz=>by rw[z,n02] at e; cases e
    have lu6:((us6.map (·.1)).map V.ref).length=us6.length:=by simp
    rw[lu6] at C;have in2:∀ k,k∈m↔k∈N/\(k.length:Int)=M:=λk=>by
     rw[C,mu6];erw[λ⟨j,u,h1,h2,h3,h4⟩=>⟨⟨u,f7 h2,h3⟩,h4⟩,λ⟨⟨u,h1,h2⟩,h3⟩=>?_];obtain⟨j,hj,ej⟩:=AO h1;rwa[j,u,hj,by rw[b8 hj,ej],h2,h3]
    erw[q X c m H7 same7 n02 eD7 S ⟨λz=>?_,λk R P hP=>?_,λP hP hall=>?_⟩ ?_ ?_]
    ·have:=(in2 k0).mpr ⟨mk0,ek0⟩;rw[z] at this;cases this
    ·have z1:=((in2 k).mp R).2;have z2:=m3 _ (all P hP);lia
    ·refine(in2 _).mpr ⟨all P hP,?_⟩;have z1:=hall k0 ((in2 k0).mpr ⟨mk0,ek0⟩);have z2:=m3 _ (all P hP);lia
    ·by_cases h64:N.length<64
     ·rw[lu6,i8] at p;erw[JU p ?_];rw[BE];rwa[pw h64]
     ·have z0:=m3 _ (QC (by rw[b5]; exact hn) ndk dbk (by lia));have e0:∀ k∈m,k=[]:=λk R=>by
       have z1:=((in2 k).mp R).2;have z2:(([]:List Int).length:Int)=0:=rfl;rwa[Bz.mp (by lia)]
      rw[Dr];intro i j hi hj _;rw[e0 _ (r9 hi),e0 _ (r9 hj)];rfl
    ·rw[lu6] at hk2;rwa[g7 hk2 lu]
def oo(K:b6):Sp:=λe H Q _=>E2 λ(l:b9) (c:List Grp)=>A6 (e=[.ref l]) (SqL K H l (pZ c)) (GrL H c) (c.length<=6) (∀ g∈c,g.2.length<=2) (∀(D:b9)(fs:List (b9×List Int))(d:Hp),Same H d->H D=Ki->d D=Kh (.lst ((fs.map (·.1)).map V.ref))->(∀ t∈fs,d t.1=Kh (.lst (t.2.map V.int))/\H t.1=Ki/\t.1≠D)->(∀ k∈fs.map (·.2),∃ P,pz (yA c) P/\k=db (c.map (·.2)) P)->PU c (fs.map (·.2))->(fs.map (·.2)).Nodup->(fs.map (·.2)).Pairwise (λa b=>HT.lexLt b a=Kk)->fs.length<=9000->Q (.ref D) d)
def eI(F:Fun K "choices" "choices" qS f fd)(Z:Zs mg)(CB:Cb P w mg base)(yAk:Has P w K mg base "least_doubts" 7 ["groups"] (qL K)):yS P w K mg base CX0 8 f fd ["groups"] (oo K):=by
 specialize fU
 ·obtain⟨l,gs,rfl,_⟩:=h;rfl
 obtain⟨l,gs,rfl,hl,ok,hn,h2,q⟩:=h
 refine'⟨_,(zD (zM (aP (T:=["choice"]) (caps:=[]) ⟨rfl,by ac_nf,by ac_nf,rfl,x8⟩ rfl ?_ (λ_=>(wO 0 (show(["choice"]:List j4).Nodup by ac_nf))) (λ_=>yD) (λ_=>?_)))),?_⟩
 nofun
 erw[_,rfl,l,gs,rfl,hl,ok,hn,h2,λd n L H1 I hd C G le pw lk=>?_];erw[d,n,rfl,C,λts O M cc D B=>?_];obtain⟨g,w1,w2,w3⟩:=G.tab.refs O M;have lt:ts.length=g.length:=by have z:=congrArg z9 w1; rw[b5,b5] at z; rwa[z.symm]
 have lu:g.length=L.length:=by have z:=congrArg z9 w2; (rw[b5] at z;assumption)
 have nDd:D≠d:=λz=>by rw[z,C] at B; cases B
 have v:rA H1 d D=none:=qB B;refine jP (λi x y p=>(∃ j:List (b9×List Int),A3 (y=(j.map (·.1)).map V.ref) (Rws (rA H1 d) D j p) (j.map (·.2)=L.take i))/\∃ u:Option V,x=[u])
  ⟨⟨[],rfl,⟨zC v _,v,zA,(λt N=>nomatch N)⟩,rfl⟩,Ki,rfl⟩ (λi x y p ⟨⟨j,e,R,_⟩,_⟩=>by rw[e]; rwa[R.at']) ?_ ?_
 ·rintro i t x y p gt ⟨⟨j,rfl,R,em⟩,u,rfl⟩;have hi:i<ts.length:=(c6.mp gt).1;have gu:g[i]?=Kh g[i]:=b8 (by lia);have Y:g[i].1=t.1:=by
   have z:=congrArg (λl:List b9=>l[i]?) w1;simp only[c7,gu,gt,AR] at z;rwa[x6 z]
  have ek:L[i]?=Kh g[i].2:=by
   have z:=congrArg (λl:List (List Int)=>l[i]?) w2;simp only[c7,gu,AR] at z;rwa[z.symm]
  have X:=w3 g[i] (r9 _);rw[Y] at X;have m:t.1≠d:=tR X C (by intro z; cases z);have S:=R.same _ _ ((zy m).trans X);have lr:j.length=i:=by have z:=congrArg z9 em; rw[b5,g8] at z; lia
  erw[_,rfl,t.1,_,rfl,.inr (SqT.of S),λc hc=>?_];have sc:=zC hc (.lst (g[i].2.map V.int));erw[sc _ _ R.at',pK (by simp only[b5]; lia),⟨_,by simp,R.app sc hc zA,?_⟩,_,rfl];rw[d5,em,xK ek];rfl
 ·rintro x y p ⟨⟨j,rfl,R,em⟩,u,rfl⟩ r;rw[lt,lu,i8] at em;have J:∀{b:b9}{o:HO},p b=Kh o->upd p d (.dT n) b=Kh o:=λ{b o} e=>by
   rw[zH λz=>by rw[z,r] at e; cases e];rwa[e]
  have sB:Same H1 (upd p d (.dT n)):=λb o e=>by
   by_cases c:b=d
   ·subst c;rw[C] at e;cases e;rwa[zA]
   ·rwa[J (R.same _ _ ((zy c).trans e))]
  erw[q D j _ (I.trans sB) (I.free B) (J R.at') (λt N=>?_) (λk hk=>?_) (by rw[em]; rwa[le]) (by rw[em]; rwa[G.tab.nodup]) (by rw[em]; rwa[pw]) ?_]
  ·obtain⟨r1,r2,r3⟩:=R.rows t N;have r4:=J r1;erw[r4,?_,r3];have m:t.1≠d:=λz=>by rw[z,r] at r1; cases r1
   rw[zy m] at r2;rwa[I.free r2]
  ·rw[em] at hk;obtain⟨sp,_,_,Y,e2⟩:=G.spot k hk;rwa[_,e2,Y]
  ·have z:=congrArg z9 em;rw[b5] at z;lia
def ux(_:b6):Sp:=λg H Q _=>E4 λ(d:b9) (v:V) (S:BS) (D:Deed)=>A6 (g=[v,.ref d]) (Rep H D.dt v) (qh H d S) (sZ S D) (∀ e∈S.marks,qe e.2) (∀(l:b9)(as:List b9)(c:Hp),Same H c->c l=Kh (.lst (as.map V.ref))->xA c as (zj S D)->Q (.ref l) c)
def iP(F:Fun K "sides_of" "sides_of" rL f fd)(Z:Zs mg)(CB:Cb P w mg base)(B:Has P w K mg base "range_side" 4 ["left","right"] (yy K))(C:Has P w K mg base "bearing_sides" 4 ["place","one","other"] (rM K)):yS P w K mg base CX0 5 f fd ["note","places"] (ux K):=by
 specialize iD
 ·obtain⟨d,v,S,D,rfl,_⟩:=h;rfl
 obtain⟨d,v,S,D,rfl,rep,⟨j,hd,M⟩,kn,N,q⟩:=h
 refine'⟨_,(zB (xJ ?_ (zD (zM (yX C (hr.mono (by decide)) rfl (zG (zX (yT hr) (pv 1) ?_ (λ_ _=>rfl)) (zG ?_ (zG ?_ zL)))))) zU)
   (zD (zM (XW (zG (yX B (hr.mono (by decide)) rfl (zG (zX (yT hr) (pv 1) ?_ (λ_ _=>rfl)) (zG (zX (yT hr) (pv 1) ?_ (λ_ _=>rfl)) zL))) zL))))),?_⟩
 nofun
 cases D with
 | bearing m n a b c e =>
  obtain⟨t,p1,p2,rfl,u,h1,h2⟩:=xc rep;obtain⟨_,_,hn,w1,w2⟩:=kn;obtain⟨pt,g⟩:=m9.mp hn;obtain⟨pa,T,R⟩:=M n pt g;obtain⟨n1,n2,n3,n4⟩:=tJ N g;exists _,U,t,_,0,.str "bearing",U,U,.inr (SqT.of u),U,U,_,rfl;erw[dI ?_];have o:Sq K H t _:=.inr (SqT.of u);exists _,U,_,U,t,_,2,.str n,U,U,o,U,d,.ref pa,U,.inl ⟨j,.inr n,hd,U,T.symm⟩,_,U,t,_,3,.ref p1,U,U,o,U,_,U,t,_,4,.ref p2,U,U,o,rfl;obtain⟨I,w11,w12,w13,w14⟩:=w1;obtain⟨G,w21,w22,w23,w24⟩:=w2;refine⟨pa,p1,p2,pt.1,pt.2,a,b,c,e,U,SqT.of R,SqT.of h1,SqT.of h2,(by lia),(by lia),(by dsimp only at *; lia),(by dsimp only at *; lia),(by dsimp only at *; lia),(by dsimp only at *; lia),?_,?_,λl p q' Y J X e2 e3=>?_⟩
  ·rcases Ge (a=0) with z | z
   ·rwa[.inr λx=>I (by rw[z,x])]
   ·rwa[.inl z]
  ·rcases Ge (c=0) with z | z
   ·rwa[.inr λx=>G (by rw[z,x])]
   ·rwa[.inl z]
  ·erw[q l [p,q'] Y J X ?_];show xA Y ([p]++[q']) ([_]++[_]);rw[uJ g];exact(xA.one e2).app (.one e3)
 | range m l r =>
  obtain⟨t,rfl,u⟩:=nH rep;obtain⟨_,_,hl,O,ne⟩:=kn;obtain⟨pt,g⟩:=m9.mp hl;obtain⟨y,i⟩:=m9.mp O;obtain⟨pa,T,R⟩:=M l pt g;obtain⟨pb,g3,g4⟩:=M r y i;obtain⟨n1,n2,n3,n4⟩:=tJ N g;obtain⟨n5,n6,n7,n8⟩:=tJ N i;exists _,U,t,_,0,.str "range",U,U,.inr (SqT.of u),U,U,_,rfl;erw[vf ?_];have o:Sq K H t _:=.inr (SqT.of u);exists _,U,_,U,t,_,2,.str l,U,U,o,U,d,.ref pa,U,.inl ⟨j,.inr l,hd,U,T.symm⟩,_,U,_,U,t,_,3,.str r,U,U,o,U,d,.ref pb,U,.inl ⟨j,.inr r,hd,U,g3.symm⟩;erw[pa,pb,pt.1,pt.2,y.1,y.2,rfl,.inr (SqT.of R),.inr (SqT.of g4),(by lia),(by lia),(by lia),(by lia),?_,λp Y J hp' X=>⟨sz1,λL hL=>?_⟩]
  ·rcases Ge (pt.2-y.2=0) with z | z
   ·erw[.inr λx=>ne ?_];rw[g,i];rwa[congrArg Kh (GC (by lia) (by lia))]
   ·rwa[.inl z]
  ·have sL:=zC hL (.lst [.ref p]);erw[q L [p] _ (J.trans sL) zA ?_];show xA _ [p] [_];rw[uJ g,uJ i];exact(xA.one X).to (.of sL)
 | _=>rwa[kn.elim]
def jk(_:b6):Sp:=λc H Q _=>∃(n:Int),c=[.int n]/\∀ v:Int,0<=v->v<1000003->Q (.int v) H
def ZA(F:Fun K "_law_power" "_law_power" re f fd)(Z:Zs mg):yS P w K mg base CX0 1 f fd ["_law_number"] (jk K):=by
 specialize ZF
 ·obtain⟨n,rfl,_⟩:=h;rfl
 obtain⟨n,rfl,q⟩:=h
 refine'⟨_,(zD (zM ?_)),?_⟩
 nofun
 have h1:=AB n (show(1000003:Int)≠0 by decide);have h2:=Ah n (show(0:Int)<1000003 by decide);exists _,U,_,_,U,U,(by show(0:Int)<1000003; decide),_,_,rfl,rfl,⟨by decide,by decide,by lia⟩,_,_,rfl,rfl,(by show(0:Int)<1000003; decide);rwa[q _ (AB _ (by decide)) (Ah _ (by decide))]
def jB(K:b6):Sp:=λe H Q _=>E3 λ(a:b9) (ns:List Int) (c:Int)=>A6 (e=[.ref a,.int c]) (SqL K H a (ns.map V.int)) (ns.length<=63) (0<=c) (c<=500) (∀(r:b9)(rows:List Int)(d:Hp),Same H d->H r=Ki->d r=Kh (.lst (rows.map V.int))->c<=rows.length->rows.length<=600->(∀ x∈rows,0<=x/\x<1000003)->Q (.ref r) d)
structure mR(H:Hp)(r c:b9)(ms:List Int)(H':Hp)(rows:List Int):Prop where
 same:Same H H'
 src:H' c=Kh (.lst (ms.map V.int))
 at':H' r=Kh (.lst (rows.map V.int))
 bd:∀ x∈rows,0<=x/\x<1000003
def mR.app{H i:Hp}{v:Int}(d:mR H r c h i rows)(l:H r=Ki)(g:c≠r)(h0:0<=v)(h1:v<1000003):mR H r c h (upd i r (.lst (rows.map V.int++[.int v]))) (rows++[v]):=by
 erw[λb o e=>?_,?_,?_,λx j=>?_]
 ·rw[zH (zE e l)];rwa[d.same b o e]
 ·rw[zH g];rwa[d.src]
 ·rw[zA,d5];rfl
 ·rcases i9.mp j with e | e
  ·rwa[d.bd x e]
  ·rw[e9] at e;rw[e];rwa[h0,h1]
def cutR{ok:Int->Hp->Prop}{G:Prop}{R:Int->Hp->Prop}(h1:(∀ m H,ok m H->R m H)->G)(h2:∀ m H,ok m H->R m H):G:=h1 h2
def aU(F:Fun K "_law_draws" "_law_draws" rm f fd)(Z:Zs mg)(CB:Cb P w mg base)(yCk:Has P w K mg base "_law_power" 1 ["_law_number"] (jk K)):yS P w K mg base CX0 2 f fd ["_law_script","_law_many"] (jB K):=by
 specialize wM
 ·obtain⟨a,ns,j,rfl,_⟩:=h;rfl
 obtain⟨a,ns,j,rfl,hS,hl,hm0,hm1,q⟩:=h
 refine'⟨_,(zB (zO 2 wM.nd ?_)
   (zB (zO 3 wM.nd uX)
   (zB (xL m8 rfl (ie ?_) (wO 4 wM.nd) (zB (zO 3 wM.nd ?_)
   (zB (zO 5 wM.nd ?_)
   (zB (xJ ?_ (zB (zV (vc (pv 2) ?_))
   (zD (zO 5 wM.nd uX))) zU)
   (zD (nS m8 ?_ (zB (zV (vc (pv 2) ?_))
   (zD (zO 5 wM.nd ?_)))))))))
   (zB (nS m8 ?_ (zB (zO 3 wM.nd ?_)
   (zD (zV (vc (pv 2) ?_)))))
   (zD (zM (pv 2))))))),?_⟩
 nofun
 refine⟨sz0,λr y=>?_⟩;have S1:=zC y (.lst []);refine⟨_,U,_,U,a,_,U,S1.seq hS,λc X=>⟨c,U,⟨_,SqL.of zA⟩,?_⟩⟩;rw[kH];generalize hms:((ns.drop (HT.sIx ns.length 0 Ki)).take (HT.sIx ns.length ns.length (Kh 63)-HT.sIx ns.length 0 Ki))=R;have hml:R.length<=63:=by
  rw[<- hms,g8,Ai];lia
 have C:c≠r:=λe=>by
  rw[e,zA] at X;cases X
 have hc0:H c=none:=S1.free X;refine xD (K:=K) (a:=c) (xs:=R.map V.int) (λi p I=>E4 λ(rows:List Int) (l:Int) (u v:Option V)=>A5 (p=[Kh (.ref a),Kh (.int j),Kh (.ref r),Kh (.int l),u,v]) (mR H r c R I rows) (0<=l) (l<2147483647) (rows.length<=j.toNat+i))
  ⟨[],7,Ki,Ki,rfl,⟨S1.trans (zC X _),zA,by rw[zH (BA C),zA]; rfl,λx hx=>nomatch hx⟩,by decide,by decide,t9 _⟩ (λi p I _ hq'=>by obtain⟨_,_,_,_,_,d,_⟩:=hq'; rwa[SqL.of d.src]) ?_ ?_
 ·rintro i x p I hi ⟨rows,l,u,v,rfl,d,L,J,M⟩;obtain⟨n,hn,rfl⟩:=uI hi;have hi63:i<63:=n9 (c6.mp hn).1 hml;exists _,U,_,_,U,U,.inr ⟨by decide,by decide⟩,_,U,_,_,U,U,_,_,U,U,(by show(0:Int)<2147483647; decide);have T:=AB (l*48271+n) (show(2147483647:Int)≠0 by decide);have m1:=Ah (l*48271+n) (show(0:Int)<2147483647 by decide);exists _,U,n,rfl;have a0:0<=(if n<0 then -n else n):=by split <;> lia
  generalize (if n<0 then -n else n)=g at a0 ⊢;revert I g;apply cutR (ok:=λg D=>0<=g/\∃ rows,mR H r c R D rows/\rows.length<=j.toNat+(i+1))
  ·intro G I d g a0;exists _,U,_,_,U,U,⟨by decide,by decide,by decide⟩,_,_,U,U,_,rfl;erw[ifD (λhsm=>?_) (λhsm=>?_)];rotate_left
   ·rwa[G g I ⟨a0,rows,d,by lia⟩]
   ·erw[_,rfl,.inl ⟨rfl,_,SqL.of d.at'⟩,_,rfl,_,rfl,r,_,rfl,.inl (SqL.of d.at'),_,_,rfl,rfl,.inl ⟨by decide,by decide⟩,_,_,rfl,rfl,_,rfl,λv O N=>?_];exists r,_,_,U,U,d.at',zJ (by rw[b5]; lia);rwa[G 0 _ ⟨Ci 0,_,d.app y C O N,by rw[f8,As]; lia⟩]
  clear M rows;rintro g I ⟨j0,rows,j1,j2⟩;refine sj (λp D=>E2 λ(rows:List Int) (g:Int)=>A4 (p=[Kh (.ref a),Kh (.int j),Kh (.ref r),Kh (.int ((l*48271+n)%2147483647)),Kh (.int n),Kh (.int g)]) (0<=g) (mR H r c R D rows) (rows.length<=j.toNat+(i+1)))
   (λp _=>match p with | [_,_,_,_,_,Kh (.int z)]=>z.toNat | _=>0) ⟨_,_,rfl,j0,j1,j2⟩ ?_ (Ti (ii (XZ Vr vy mo_c)) (ii (XZ Vr (SI YX (kj vy az)) vy)))
  rintro p D ⟨rows,g,rfl,r0,o,Y⟩;exists _,U,_,_,U,U,_,rfl;erw[ifD (λS=>?_) (λS=>?_)]
  ·exists _,U,r,_,U,.inl (SqL.of o.at'),_,U,_,_,U,U,_,rfl;erw[ifD (λB=>?_) (λB=>?_)]
   ·have m:((rows.map V.int).length:Int)<j:=B;rw[b5] at m;exists _,U,.inl ⟨U,_,SqL.of o.at'⟩,_,U,_,_,U,U,(by show(0:Int)<1000003; decide),r,_,_,rfl,rfl,o.at',zJ (by rw[b5]; lia);have O:=AB g (show(1000003:Int)≠0 by decide);have N:=Ah g (show(0:Int)<1000003 by decide);exists _,U,_,_,U,U,qa.of (by decide) (by ac_nf),⟨rows++[g%1000003],_,U,by lia,o.app y C O N,by rw[f8,As]; lia⟩;show(g/1000003).toNat<g.toNat;lia
   ·rwa[rows,_,_,_,rfl,o,T,m1,Y]
  ·rwa[rows,_,_,_,rfl,o,T,m1,Y]
 ·rintro p I ⟨rows,l,u,v,rfl,d,L,J,M⟩;rw[b5] at M;refine sj (λp D=>E2 λ(rows:List Int) (l:Int)=>A6 (p=[Kh (.ref a),Kh (.int j),Kh (.ref r),Kh (.int l),u,v]) (mR H r c R D rows) (0<=l) (l<2147483647) (rows.length<=j.toNat+63) (D r=Kh (.lst (rows.map V.int))))
   (λp D=>match D r with | some (.lst xs)=>j.toNat-xs.length | _=>0) ⟨rows,l,rfl,d,L,J,by lia,d.at'⟩ ?_ (ii (XZ Vr (SI YX (kj vy az)) vy))
  rintro p D ⟨rows,l,rfl,o,L,J,Y,ha2⟩;exists _,U,r,_,U,.inl (SqL.of o.at'),_,U,_,_,U,U,_,rfl;erw[ifD (λB=>?_) (λB=>?_)]
  ·have m:((rows.map V.int).length:Int)<j:=B;rw[b5] at m;exists _,U,_,_,U,U,.inr ⟨by decide,by decide⟩,_,_,U,U,_,_,U,U,(by show(0:Int)<2147483647; decide);have T:=AB (l*48271+11) (show(2147483647:Int)≠0 by decide);have m1:=Ah (l*48271+11) (show(0:Int)<2147483647 by decide);erw[_,rfl,.inl ⟨rfl,_,SqL.of o.at'⟩,_,rfl,_,rfl,λv O N=>?_];exists r,_,_,U,U,o.at',zJ (by rw[b5]; lia),⟨rows++[v],_,rfl,o.app y C O N,T,m1,by rw[f8,As]; lia,(o.app y C O N).at'⟩;rw[ha2,zA];show j.toNat-(rows.map V.int++[V.int v]).length<j.toNat-(rows.map V.int).length;rw[f8,b5,As];lia
  ·have m:¬ ((rows.map V.int).length:Int)<j:=B;rw[b5] at m;rwa[_,rfl,q r rows D o.same y o.at' (by lia) (by lia) o.bd]
def bj(_:b6):Sp:=λe H Q _=>e=[]/\∀(d m b r n:b9)(c:Hp),Same H c->H d=Ki->H m=Ki->H r=Ki->c d=Kh (.dK (lwK m b r n 1))->c m=Kh (.dK [])->c b=Kh (.dK [])->c r=Kh (.lst [])->c n=Kh (.dK [])->b≠m->n≠m->Q (.ref d) c
def Ud(F:Fun K "_law_new" "_law_new" iO f fd)(Z:Zs mg)(J:Cb P w mg base)  : yS P w K mg base CX0 1 f fd [] (bj K):=by
 specialize Um
 ·obtain⟨rfl,_⟩:=h;rfl
 obtain⟨rfl,q⟩:=h
 refine'⟨_,zD ?h,?_⟩
 rotate_left
 with_reducible refine' zM ?_
 rotate_left
 with_reducible exact YA (vS yC rH (vS yC rH (vS yC (XW zL) (vS yC rH (vS yC uX Yh))))) rfl rfl (λz=>nomatch z) (by decide)
 try dsimp only[L2.cxOf]
 intro p v m B b l;erw[sz0,λr hr n y=>?_];have u:=zC v (.dK []);have i:=zC B (.dK []);have d:=zC l (.dK []);have g:=zC hr (.lst []);have j:=zC y (.dK []);have em:=(d.trans (g.trans j)) _ _ zA;have I:=(g.trans j) _ _ zA;have er:=j _ _ zA;have G:=(i.trans (d.trans (g.trans j))) _ _ zA;exists G,[(.inr "marks",.ref m),(.inr "banks",.ref b),(.inr "runs",.ref r),(.inr "notes",.ref n),(.inr "next",.int 1)],U,(show 5<=15 by decide);rw[Uk];have ne:∀{x:b9},(upd H p (.dK [])) x=Ki->x≠p:=λ{x} h z=>by rw[z,zA] at h; cases h
 have nb:=ne (i.free l);have C:=ne (i.free (d.free hr));have D:=ne (i.free (d.free (g.free y)));refine q p m b r n _ (λc o e=>?_) v (u.free B) (u.free (i.free (d.free hr))) zA ?_ ?_ ?_ ?_ (λz=>by rw[z,zA] at l; cases l) (λz=>by have:=d.free (g.free y); rw[z,zA] at this; cases this)
 ·rw[zH (zE e v)];exact(u.trans (i.trans (d.trans (g.trans j)))) c o e
 ·rw[zH (ne B)]; rwa[em]
 ·rw[zH nb]; rwa[I]
 ·rw[zH C]; rwa[er]
 ·rw[zH D]; rwa[zA]
def fE(_:b6):Sp:=λe H Q _=>E4 λ(d:b9) (S:BS) (i j:Nat)=>A6 (e=[.ref d,.int i,.int j]) (LwAt H d S) (i<=S.runs.length) (j<=S.runs.length) (S.runs.length<=60) (∀(t:b9)(c:Hp),Same H c->H t=Ki->c t=Kh (.tup [.int (vH S.runs i j).1,.int (vH S.runs i j).2])->Q (.ref t) c)
def Yc(F:Fun K "_law_lead" "_law_lead" nT f fd)(Z:Zs mg)(CB:Cb P w mg base)  : yS P w K mg base CX0 1 f fd ["_law_m","_law_one","_law_other"] (fE K):=by
 specialize lC
 ·obtain⟨d,S,i,j,rfl,_⟩:=h;rfl
 obtain⟨d,S,l,g,rfl,⟨m,b,r,n,lw⟩,hi,hj,few,k⟩:=h;obtain⟨L,hr1,rep⟩:=lw.ru;have lrs:L.length=S.runs.length:=by rw[rep.length,b5]
 refine'⟨_,(zB (zO 3 lC.nd (wq Yd (zX (yT hr) (pv 0) yC (λ_ _=>rfl)) (yd ?_) (yd ?_)))
   (zB (zO 4 lC.nd ?_)
   (zD (zM (ji (zG (tT fz (pv 4) (yH (yx rfl) rfl Z.sum eW (zG (yP (T:=["_law_x","_law_y"]) (caps:=[]) ⟨rfl,by ac_nf,by ac_nf,rfl,x8⟩ rfl (yQ (pv 3)) (λ_=>(qt rfl (xG (wO 0 (show(["_law_x","_law_y"]:List j4).Nodup by ac_nf)) (xG (wO 1 (show(["_law_x","_law_y"]:List j4).Nodup by ac_nf)) zt)))) (λ_=>yD) (λ_=>(pv 0))) zL))) (zG (tT fz (pv 4) (yH (yx rfl) rfl Z.sum eW (zG (yP (T:=["_law_x","_law_y"]) (caps:=[]) ⟨rfl,by ac_nf,by ac_nf,rfl,x8⟩ rfl (yQ (pv 3)) (λ_=>(qt rfl (xG (wO 0 (show(["_law_x","_law_y"]:List j4).Nodup by ac_nf)) (xG (wO 1 (show(["_law_x","_law_y"]:List j4).Nodup by ac_nf)) zt)))) (λ_=>yD) (λ_=>(pv 1))) zL))) zL))))))),?_⟩
 nofun
 erw[_,rfl,d,.ref r,rfl,.inl ⟨_,.inr "runs",lw.at_,rfl,dU.symm⟩,_,rfl,_,rfl,_,_,rfl,_,rfl,_,rfl,_,rfl,_,_,rfl,_,rfl,r,L,rfl,SqL.of hr1,λq hq=>?_];have e1:(if (g:Int)<l then(g:Int) else l)=((min l g:Nat):Int):=by split <;> lia
 have e2:(if (g:Int)>l then(g:Int) else l)=((max l g:Nat):Int):=by split <;> lia
 have ec:yg L (Kh (if (g:Int)<l then(g:Int) else l)) (Kh (if (g:Int)>l then(g:Int) else l))=(L.drop (min l g)).take (max l g-min l g):=by
  rw[e1,e2,aL (by lia) (by lia)]
 generalize hcs:yg L (Kh (if (g:Int)<l then(g:Int) else l)) (Kh (if (g:Int)>l then(g:Int) else l))=G at hq;have sq:=zC hq (.lst G);have rc:wB (upd H q (.lst G)) ((zc S.runs l g).map ptD) G:=by
  have ecs:G=(L.drop (min l g)).take (max l g-min l g):=hcs.symm.trans ec;have:=((rep.drop (min l g)).take (max l g-min l g)).to (.of sq);rw[<- ecs,<- C6,<- Cg] at this;rwa[this]
 have ls:=uf S.runs l g;have N:(1:Int)-2*(if decide ((g:Int)<l) then 1 else 0)=sM l g:=by
  unfold sM;by_cases c:g<l
  ·rw[y7 c,y7 (y8 (by lia))]; rfl
  ·rw[y6 c,y6 (by simp; lia)]; rfl
 refine⟨_,U,_,U,_,_,U,U,.inr ⟨_,U,_,_,U,U,vz (by decide),_,_,U,U,?_⟩⟩;show Xb 4 (V.int (1-2*if decide ((g:Int)<l)=Kj then 1 else 0)) _ _ _;rw[N];have cmh:∀ y:Int,RZ (sM l g) y:=λy=>vz (by unfold sM; split <;> decide);refine⟨_,U,_,U,q,U,.inl ⟨⟨_,SqL.of zA⟩,λc D O=>?_⟩⟩;refine yG (K:=K) (a:=q) (xs:=G) (λi B z I=>A4 (Same (upd H q (.lst G)) I) (I D=Kh (.lst z)) (z=(((zc S.runs l g).take i).map (·.1)).map V.int) (E2 λ(u v:Option V)=>B=[u,v]))
  ⟨zC O _,zA,rfl,Ki,Ki,rfl⟩ (λi B z I _ J=>by obtain⟨C,e,_⟩:=J; rwa[SqL.of (C _ _ zA),e]) ?_ ?_
 ·rintro i x B z I hi ⟨C,Y,rfl,u,v,rfl⟩;obtain⟨p,a,R,rfl,ea⟩:=iM rc hi;have hil:=(c6.mp R).1;erw[a,_,rfl,SqT.of (C _ _ ea),rfl,.int p.1,_,rfl,.int p.2,_,rfl,rfl,_,rfl,Y,zJ (by rw[b5,b5,g8]; lia),C.putNew O,zA,?_,_,_,rfl];rw[o3,R,d5,d5];rfl
 rintro B z H2 ⟨s2,Y,rfl,u,v,rfl⟩;exists D,_,U,SqL.of Y,_,_,U,U,cmh _;have X:=s2 _ _ (zA (H:=H) (a:=q) (o:=.lst G));have rc2:=rc.to (.of s2);refine⟨_,U,_,U,q,U,.inl ⟨⟨_,SqL.of X⟩,λc D O=>?_⟩⟩;refine yG (K:=K) (a:=q) (xs:=G) (λi B z I=>A4 (Same H2 I) (I D=Kh (.lst z)) (z=(((zc S.runs l g).take i).map (·.2)).map V.int) (E2 λ(u v:Option V)=>B=[u,v]))
  ⟨zC O _,zA,rfl,Ki,Ki,rfl⟩ (λi B z I _ J=>by obtain⟨C,e,_⟩:=J; rwa[SqL.of (C _ _ X),e]) ?_ ?_
 ·rintro i x B z I hi ⟨C,Y,rfl,u,v,rfl⟩;obtain⟨p,a,R,rfl,ea⟩:=iM rc2 hi;have hil:=(c6.mp R).1;erw[a,_,rfl,SqT.of (C _ _ ea),rfl,.int p.1,_,rfl,.int p.2,_,rfl,rfl,_,rfl,Y,zJ (by rw[b5,b5,g8]; lia),C.putNew O,zA,?_,_,_,rfl];rw[o3,R,d5,d5];rfl
 rintro B z H3 ⟨s3,eD3,rfl,u,v,rfl⟩;erw[D,_,rfl,SqL.of eD3,_,_,rfl,rfl,cmh _,sz2,λt ht=>?_];have M:=s2.trans s3;erw[k t _ ((sq.trans M).trans (zC ht _)) (sq.free (M.free ht)) ?_];rw[zA,show G.length=(zc S.runs l g).length by rw[rc.length,b5],i8];rfl
def bO(_:b6):Sp:=λe H Q _=>E3 λ(o t c:Int)=>A4 (e=[.int o,.int t,.int c]) (1<=c) (c<=1000000) (∀(p:b9)(x y:Int)(d:Hp),Same H d->H p=Ki->d p=Kh (.tup [.int x,.int y])->(x≠0\/y≠0)->x.natAbs<=c.natAbs->y.natAbs<=c.natAbs->Q (.ref p) d)
def Uz(F:Fun K "_law_way" "_law_way" iS f fd)(Z:Zs mg)(r:Cb P w mg base)  : yS P w K mg base CX0 1 f fd ["_law_one","_law_two","_law_wide"] (bO K):=by
 specialize nQ
 ·obtain⟨o,t,d,rfl,_⟩:=h;rfl
 obtain⟨o,t,d,rfl,w1,n,q⟩:=h
 refine'⟨_,(zB (zO 3 nQ.nd ?_)
   (zB (zO 4 nQ.nd ?_)
   (zB (xJ ?_ (zD (zO 3 nQ.nd ?_)) zU)
   (zD (zM ?_))))),?_⟩
 nofun
 have m:=AB o (show 2*d+1≠0 by lia);have l:=Ah o (show 0<2*d+1 by lia);have j:=AB t (show 2*d+1≠0 by lia);have i:=Ah t (show 0<2*d+1 by lia);exists _,U,_,U,_,_,U,U,.inl ⟨by decide,by decide⟩,_,_,U,U,_,_,U,U,(by show 0<2*d+1; lia),_,rfl,_,_,rfl,rfl;exists _,U,_,U,_,_,U,U,.inl ⟨by decide,by decide⟩,_,_,U,U,_,_,U,U,(by show 0<2*d+1; lia),_,rfl,_,_,rfl,rfl;exists _,U,U,_,rfl;erw[ifE (λg=>?_) (λg=>?_)]
 ·exists _,U,U,_,rfl;erw[ifE (λe=>?_) (λe=>?_)]
  ·exists _,U,_,_,U,U,gt2,_,_,U,U,.inl ⟨by decide,by decide⟩,_,_,U,rfl;erw[_,rfl,_,rfl,sz2,λp c=>?_];rwa[q p _ _ _ (zC c _) c zA (by left; lia) (by lia) (by lia)]
  ·erw[_,rfl,_,rfl,sz2,λp c=>?_];rwa[q p _ _ _ (zC c _) c zA (.inr e) (by lia) (by lia)]
 ·erw[vf ?_];erw[_,rfl,_,rfl,sz2,λp c=>?_];rwa[q p _ _ _ (zC c _) c zA (.inl g) (by lia) (by lia)]
def ku(K:b6):Sp:=λj H Q _=>E8 λ(a b:b9) (g e:List V) (d c i h:Int)=>A10 (j=[.ref a,.ref b]) (Sq K H a g) (Sq K H b e) (atI g 0=Kh (.int d)) (atI g 1=Kh (.int c)) (atI e 0=Kh (.int i)) (atI e 1=Kh (.int h)) (d.natAbs<=10^18) (c.natAbs<=10^18) (Q (.int (d*h-c*i)) H)
def dR(F:Fun K "_law_turned" "_law_turned" wf f fd)(Z:Zs mg)(r:Cb P w mg base)  : yS P w K mg base CX0 1 f fd ["_law_one","_law_other"] (ku K):=by
 specialize cA
 ·obtain⟨a,b,n,l,g,d,e,c,rfl,_⟩:=h;rfl
 obtain⟨a,b,n,l,g,d,e,c,rfl,j,i,p,o,m,w1,m1,m2,q⟩:=h
 refine'⟨_,(zD (zM ?_)),?_⟩
 nofun
 exact⟨_,U,a,_,_,.int g,U,U,j,p,_,U,b,_,_,.int c,U,U,i,w1,_,_,U,U,vz (by lia),
  _,rfl,a,_,_,.int d,rfl,rfl,j,o,_,rfl,b,_,_,.int e,rfl,rfl,i,m,_,_,rfl,rfl,vz (by lia),_,_,rfl,rfl,q⟩
def vt(K:b6):Sp:=λj H Q _=>E3 λ(a:b9) (rows:List Int) (d:Int)=>A7 (j=[.ref a,.int d]) (SqL K H a (rows.map V.int)) (5<=rows.length) (∀ x∈rows,0<=x/\x<1000003) (1<=d) (d<=100) (∀(t p r:b9)(i h g e:Int)(c:Hp),Same H c->c t=Kh (.tup [.ref p,.ref r])->c p=Kh (.tup [.int i,.int h])->c r=Kh (.tup [.int g,.int e])->0<i*e-h*g->i.natAbs<=100->h.natAbs<=100->g.natAbs<=100->e.natAbs<=100->Q (.ref t) c)
def kY(F:Fun K "_law_left_pair" "_law_left_pair" tU f fd)(Z:Zs mg)(CB:Cb P w mg base)(T:Has P w K mg base "_law_turned" 1 ["_law_one","_law_other"] (ku K))(S:Has P w K mg base "_law_way" 1 ["_law_one","_law_two","_law_wide"] (bO K)):yS P w K mg base CX0 2 f fd ["_law_d","_law_wide"] (vt K):=by
 specialize xW
 ·obtain⟨a,rows,B,rfl,_⟩:=h;rfl
 obtain⟨a,rows,B,rfl,r,J,bd,w1,C,q⟩:=h
 refine'⟨_,(zB (zO 2 xW.nd ?_)
   (zB (zO 3 xW.nd ?_)
   (zB (xJ ?_ (zD (zO 3 xW.nd ?_)) zU)
   (zB (xJ ?_ (zD (bK (i:=2) (j:=3) rfl xW.nd rfl rfl (by decide) rfl rfl (zG (pv 3) (zG (pv 2) zL)) rfl)) zU)
   (zB (xJ ?_ (zD (zO 3 xW.nd ?_)) zU)
   (zD (zM ?_))))))),?_⟩
 nofun
 obtain⟨v0,a0,_⟩:=wS bd (k:=0) (by decide) (by lia);obtain⟨v1,a1,_⟩:=wS bd (k:=1) (by decide) (by lia);obtain⟨v2,a2,_⟩:=wS bd (k:=2) (by decide) (by lia);obtain⟨v3,a3,_⟩:=wS bd (k:=3) (by decide) (by lia);obtain⟨v4,a4,_⟩:=wS bd (k:=4) (by decide) (by lia);erw[_,rfl,a,_,_,_,rfl,rfl,.inl r,a0,_,rfl,a,_,_,_,rfl,rfl,.inl r,a1,_,rfl,v0,v1,B,rfl,w1,by lia,λp1 e c H2 I hp1 N n1 m1 m2=>?_];have k1:e.natAbs<=100:=by lia
 have k2:c.natAbs<=100:=by lia
 clear m1 m2;apply cut4 (ok:=λO X Y G=>A5 (Same H G) (G p1=Kh (.tup [.int e,.int c])) (G O=Kh (.tup [.int X,.int Y])) (X.natAbs<=100) (Y.natAbs<=100))
 ·intro l;erw[_,rfl,a,_,_,_,rfl,rfl,.inl (I.seq r),a2,_,rfl,a,_,_,_,rfl,rfl,.inl (I.seq r),a3,_,rfl,v2,v3,B,rfl,w1,by lia,λp2 x2 y2 H3 R hp2 e3 n2 m3 m4=>?_];have m:=I.trans R;have g:=R _ _ N;exists _,U,a,_,_,_,U,U,.inl (m.seq r),a4,_,_,U,U,gt4,U,_,rfl;erw[ifE (λ_=>?_) (λ_=>?_)];rotate_left
  ·rwa[l p2 x2 y2 H3 ⟨m,g,e3,by lia,by lia⟩]
  ·erw[_,rfl,p1,_,_,.int c,rfl,rfl,.inr (SqT.of g),rfl,_,rfl,_,rfl,p1,_,_,.int e,rfl,rfl,.inr (SqT.of g),rfl,sz2,λd hd=>?_];have n:=zC hd (.tup [.int (-c),.int e]);rwa[l d (-c) e _ ⟨m.trans n,n _ _ g,zA,by rw[GD]; exact k2,k1⟩]
 rintro O X Y G ⟨D,y,M,k3,k4⟩;have u:Sq K G p1 [.int e,.int c]:=.inr (SqT.of y);have L:Sq K G O [.int X,.int Y]:=.inr (SqT.of M);have x:e.natAbs<=10^18:=g7 k1 (by decide);have v:c.natAbs<=10^18:=g7 k2 (by decide);exists _,U,_,U,p1,O,_,_,e,c,X,Y,U,u,L,U,U,U,U,x,v,_,_,U,U,_,rfl;have eT:X*c-Y*e = -(e*Y-c*X):=by rw[o0 X c,o0 Y e]; lia
 erw[ifD (λp=>?_) (λp=>?_)]
 ·exists _,U,_,U,_,_,rfl;exists _,U,_,U,O,p1,_,_,X,Y,e,c,U,L,u,U,U,U,U,g7 k3 (by decide),g7 k4 (by decide),U,_,rfl;erw[ifE (λz=>x4 z (by clear k1 k2 k3 k4 x v w1 C J; lia)) (λ_=>?_)];erw[_,rfl,_,rfl,sz2,λt o=>?_];have st:=zC o (.tup [.ref O,.ref p1]);rwa[q t O p1 X Y e c _ ((D).trans st) zA (st _ _ M) (st _ _ y) (by clear k1 k2 k3 k4 x v w1 C J; lia) k3 k4 k1 k2]
 ·exists _,U,_,U,p1,O,_,_,e,c,X,Y,U,u,L,U,U,U,U,x,v,U,_,rfl;erw[ifE (λhz=>?_) (λhz=>?_)]
  ·erw[_,rfl,p1,_,_,.int c,rfl,rfl,u,rfl,_,rfl,_,rfl,p1,_,_,.int e,rfl,rfl,u,rfl,sz2,λd hd=>?_];have n:=zC hd (.tup [.int (-c),.int e]);erw[_,rfl,_,rfl,sz2,λt o=>?_];have st:=zC o (.tup [.ref p1,.ref d]);have sp:=Tn n1;rwa[q t p1 d e c (-c) e _ (D.trans (n.trans st)) zA (st _ _ (n _ _ y)) (st _ _ zA) (by rw[Cf]; lia) k1 k2 (by rw[GD]; exact k2) k1]
  ·erw[_,rfl,_,rfl,sz2,λt o=>?_];have st:=zC o (.tup [.ref p1,.ref O]);rwa[q t p1 O e c X Y _ (D.trans st) zA (st _ _ y) (st _ _ M) (by clear k1 k2 k3 k4 x v w1 C J; lia) k1 k2 k3 k4]
def qI(_:b6):Sp:=λi H Q _=>E9 λ(a d:b9) (rows:List Int) (S:BS) (g:Nat) (n:j4) (x y:Int) (pt:Int×Int)=>A12 (i=[.ref a,.ref d,.int g,.str n,.int x,.int y]) (H a=Kh (.lst (rows.map V.int))) (8<=rows.length) (∀ v∈rows,0<=v/\v<1000003) (LwAt H d S) (g<=S.runs.length) (S.runs.length<=3) (∀ e∈S.runs,e.1.natAbs<=4/\e.2.natAbs<=4) (zN S n=Kh pt) ((pt.1-x).natAbs<=10) ((pt.2-y).natAbs<=10) (∀(v:V)(a b c e:Int)(h:Hp),Same H h->Rep h (Deed.bearing g n a b c e).dt v->qq (a,b)->qq (c,e)->0<a*e-b*c->Q v h)
def pM(F:Fun K "_law_true_bearing" "_law_true_bearing" uF f fd)(Z:Zs mg)(CB:Cb P w mg base)(yBj:Has P w K mg base "_law_left_pair" 2 ["_law_d","_law_wide"] (vt K))(yCq:Has P w K mg base "_law_lead" 1 ["_law_m","_law_one","_law_other"] (fE K)):yS P w K mg base CX0 3 f fd ["_law_d","_law_m","_law_moment","_law_mark","_law_x","_law_y"] (qI K):=by
 specialize zZ
 ·obtain⟨a,d,rows,S,p,n,x,y,pt,rfl,_⟩:=h;rfl
 obtain⟨a,d,rows,S,p,n,x,y,pt,rfl,ha,l8,bd,T,hmo,l3,rb,hpt,hx,hy,q⟩:=h;obtain⟨m,b,r,nn,lw⟩:=id T;obtain⟨v2,a2,_⟩:=wS bd (k:=2) (by decide) (by lia);obtain⟨v3,a3,_⟩:=wS bd (k:=3) (by decide) (by lia)
 refine'⟨_,(zB (WO ?_ (qt rfl (xG (wO 6 zZ.nd) (xG (wO 7 zZ.nd) zt))))
   (zB (WO (zX (yT hr) (zX (yT hr) (pv 1) yC (λ_ _=>rfl)) (pv 3) (λ_ _=>rfl)) (qt rfl (xG (wO 8 zZ.nd) (xG (wO 9 zZ.nd) zt))))
   (zB (bK (i:=8) (j:=9) rfl zZ.nd rfl rfl (by decide) rfl rfl ?_ rfl)
   (zB (zO 10 zZ.nd ?_)
   (zB (xJ ?_ (zB (WO ?_ (qt rfl (xG (wO 11 zZ.nd) (xG (wO 12 zZ.nd) zt))))
   (zD (zM ?_))) zU)
   (zD (zM ?_))))))),?_⟩
 nofun
 erw[_,rfl,_,rfl,d,S,0,p,rfl,T,(by lia),hmo,(by lia),λt H1 B ht et=>?_];have lb:(vH S.runs 0 p).1.natAbs<=12/\(vH S.runs 0 p).2.natAbs<=12:=ZX l3 rb;generalize vH S.runs 0 p=ld at et lb;obtain⟨kvs,pa,hm,g1,g2⟩:=uk (lw.ma.to (.of B)) hpt;exists t,_,U,SqT.of et,U,.int ld.1,_,U,.int ld.2,_,U,rfl;exists _,U,d,.ref m,U,.inl ⟨_,.inr "marks",Rd.same lw.at_ B,U,ub.symm⟩,_,U,m,.ref pa,U,.inl ⟨kvs,.inr n,hm,U,g1.symm⟩,pa,_,U,SqT.of g2,U,.int pt.1,_,U,.int pt.2,_,U,rfl;exists _,U,_,U,_,_,U,U,_,U,_,_,U,U,_,U,_,U,_,_,U,U,_,U,_,_,U,U,_,_,rfl;have bP:(pt.1-x-ld.1).natAbs<=22:=by lia
 have bQ:(pt.2-y-ld.2).natAbs<=22:=by lia
 generalize pt.1-x-ld.1=P at bP ⊢;generalize pt.2-y-ld.2=R at bQ ⊢;have D:Sq K H1 a (rows.map V.int):=.inl (SqL.of (B _ _ ha));exists _,U,a,_,_,_,U,U,D,a3,_,_,U,U,gt3,_,_,U,rfl;have b1:1<=1+v3%3:=by lia
 have b2:1+v3%3<=3:=by lia
 generalize 1+v3%3=k at b1 b2;have g:yg (rows.map V.int) (Kh ((3:Nat):Int)) Ki=(rows.drop 3).map V.int:=by rw[kH,HT.sIx_nat rows.length 0 3,show min 3 rows.length=3 by lia,show HT.sIx rows.length rows.length Ki=rows.length from rfl,Ax (by rw[Ai]; lia)]
 have g:yg (rows.map V.int) (Kh 3) Ki=(rows.drop 3).map V.int:=g;have I:SqL K H1 a (rows.map V.int):=SqL.of (B _ _ ha);exists _,U,U,_,rfl;erw[ifE (λzP=>?_) (λzP=>?_)]
 ·exists _,U,U,_,rfl;erw[ifE (λzR=>?_) (λzR=>?_)]
  ·erw[dI ?_];erw[_,rfl,_,rfl,a,_,rfl,I,λc Y=>?_];have N:=zC Y (.lst (yg (rows.map V.int) (Kh 3) Ki));erw[c,rows.drop 3,3,rfl,SqL.of (by rw[zA,g]),(by rw[Ai]; lia),(λv X=>bd v (AF X)),(by decide),(by decide),λM p1 p2 A0 A1 B0 B1 H2 O o e1 e2 tn n1 n2 n3 n4=>?_];exists M,_,U,SqT.of o,U,.ref p1,_,U,.ref p2,_,U,rfl;refine⟨_,U,_,U,_,U,_,U,(by show 5<=sizeLine; decide),λw C=>?_⟩;have e:=zC C (.tup [.str "bearing",.int p,.str n,.ref p1,.ref p2]);obtain⟨w1,u⟩:=eJ tn (g7 n1 (by decide)) (g7 n2 (by decide)) (g7 n3 (by decide)) (g7 n4 (by decide));rwa[q (.ref w) A0 A1 B0 B1 _ (B.trans (N.trans (O.trans e))) (sQ zA (e _ _ e1) (e _ _ e2)) w1 u tn]
  ·exists _,U,a,_,_,_,U,U,D,a2,_,_,U,U,gt5,U,_,rfl;erw[ifE (λz5=>?_) (λz5=>?_)]
   ·
    erw[_,rfl,_,rfl,a,_,rfl,I,λc Y=>?_];have N:=zC Y (.lst (yg (rows.map V.int) (Kh 3) Ki));erw[c,rows.drop 3,3,rfl,SqL.of (by rw[zA,g]),(by rw[Ai]; lia),(λv X=>bd v (AF X)),(by decide),(by decide),λM p1 p2 A0 A1 B0 B1 H2 O o e1 e2 tn n1 n2 n3 n4=>?_];exists M,_,U,SqT.of o,U,.ref p1,_,U,.ref p2,_,U,rfl;refine⟨_,U,_,U,_,U,_,U,(by show 5<=sizeLine; decide),λw C=>?_⟩;have e:=zC C (.tup [.str "bearing",.int p,.str n,.ref p1,.ref p2]);obtain⟨w1,u⟩:=eJ tn (g7 n1 (by decide)) (g7 n2 (by decide)) (g7 n3 (by decide)) (g7 n4 (by decide));rwa[q (.ref w) A0 A1 B0 B1 _ (B.trans (N.trans (O.trans e))) (sQ zA (e _ _ e1) (e _ _ e2)) w1 u tn]
   ·have nz:¬ (P=0/\R=0):=λz=>zR z.2;erw[_,rfl,_,rfl,_,rfl,_,rfl,_,_,rfl,rfl,vz (by lia),_,rfl,_,_,rfl,rfl,_,rfl,_,rfl,_,_,rfl,rfl,vz (by lia),_,rfl,_,_,rfl,rfl,sz2,λp1 L=>?_];have G:=zC L (.tup [.int (k*P+R),.int (k*R-P)]);refine⟨_,U,_,U,_,_,U,U,vz (by lia),_,U,_,_,U,U,_,U,_,U,_,_,U,U,vz (by lia),_,U,_,_,U,U,sz2,λp2 J=>⟨(by show 5<=sizeLine; decide),λw C=>?_⟩⟩;have l:=zC J (.tup [.int (k*P-R),.int (k*R+P)]);have e:=zC C (.tup [.str "bearing",.int p,.str n,.ref p1,.ref p2]);have tn:=af b1 nz;have z1:=zT k P (show k.natAbs<=3 by lia) bP;have z2:=zT k R (show k.natAbs<=3 by lia) bQ;obtain⟨w1,u⟩:=eJ tn (by lia) (by lia) (by lia) (by lia);rwa[q (.ref w) _ _ _ _ _ (B.trans (G.trans (l.trans e))) (sQ zA (e _ _ (l _ _ zA)) (e _ _ zA)) w1 u tn]
 ·erw[vf ?_];exists _,U,a,_,_,_,U,U,D,a2,_,_,U,U,gt5,U,_,rfl;erw[ifE (λz5=>?_) (λz5=>?_)]
  ·
   erw[_,rfl,_,rfl,a,_,rfl,I,λc Y=>?_];have N:=zC Y (.lst (yg (rows.map V.int) (Kh 3) Ki));erw[c,rows.drop 3,3,rfl,SqL.of (by rw[zA,g]),(by rw[Ai]; lia),(λv X=>bd v (AF X)),(by decide),(by decide),λM p1 p2 A0 A1 B0 B1 H2 O o e1 e2 tn n1 n2 n3 n4=>?_];exists M,_,U,SqT.of o,U,.ref p1,_,U,.ref p2,_,U,rfl;refine⟨_,U,_,U,_,U,_,U,(by show 5<=sizeLine; decide),λw C=>?_⟩;have e:=zC C (.tup [.str "bearing",.int p,.str n,.ref p1,.ref p2]);obtain⟨w1,u⟩:=eJ tn (g7 n1 (by decide)) (g7 n2 (by decide)) (g7 n3 (by decide)) (g7 n4 (by decide));rwa[q (.ref w) A0 A1 B0 B1 _ (B.trans (N.trans (O.trans e))) (sQ zA (e _ _ e1) (e _ _ e2)) w1 u tn]
  ·have nz:¬ (P=0/\R=0):=λz=>zP z.1;erw[_,rfl,_,rfl,_,rfl,_,rfl,_,_,rfl,rfl,vz (by lia),_,rfl,_,_,rfl,rfl,_,rfl,_,rfl,_,_,rfl,rfl,vz (by lia),_,rfl,_,_,rfl,rfl,sz2,λp1 L=>?_];have G:=zC L (.tup [.int (k*P+R),.int (k*R-P)]);refine⟨_,U,_,U,_,_,U,U,vz (by lia),_,U,_,_,U,U,_,U,_,U,_,_,U,U,vz (by lia),_,U,_,_,U,U,sz2,λp2 J=>⟨(by show 5<=sizeLine; decide),λw C=>?_⟩⟩;have l:=zC J (.tup [.int (k*P-R),.int (k*R+P)]);have e:=zC C (.tup [.str "bearing",.int p,.str n,.ref p1,.ref p2]);have tn:=af b1 nz;have z1:=zT k P (show k.natAbs<=3 by lia) bP;have z2:=zT k R (show k.natAbs<=3 by lia) bQ;obtain⟨w1,u⟩:=eJ tn (by lia) (by lia) (by lia) (by lia);rwa[q (.ref w) _ _ _ _ _ (B.trans (G.trans (l.trans e))) (sQ zA (e _ _ (l _ _ zA)) (e _ _ zA)) w1 u tn]
def yb(_:b6):Sp:=Px
def mZ(F:Fun K "_law_some_deeds" "_law_some_deeds" vU f fd)(Z:Zs mg)(CB:Cb P w mg base)(yAg:Has P w K mg base "_law_true_bearing" 3 ["_law_d","_law_m","_law_moment","_law_mark","_law_x","_law_y"] (qI K))(yCr:Has P w K mg base "_law_new" 1 [] (bj K)):yS P w K mg base CX0 4 f fd ["_law_some","_law_names_here"] (yb K):=by
 specialize zW
 ·obtain⟨a,r,rows,ns,rfl,_⟩:=h;rfl
 obtain⟨a,R,rows,ns,rfl,ha,l90,bd,eR,ln,okn,nod,q⟩:=h;obtain⟨v5,a5,_⟩:=wS bd (k:=5) (by decide) (by lia);obtain⟨v6,a6,_⟩:=wS bd (k:=6) (by decide) (by lia);obtain⟨v7,a7,_⟩:=wS bd (k:=7) (by decide) (by lia);obtain⟨v18,a18,_⟩:=wS bd (k:=18) (by decide) (by lia);have sq:∀{H':Hp},H' a=Kh (.lst (rows.map V.int))->Sq K H' a (rows.map V.int):=λh=>.inl (SqL.of h)
 refine'⟨_,(zB (bK (i:=2) (j:=3) rfl zW.nd rfl rfl (by decide) rfl rfl ?_ rfl)
   (zB (zO 4 zW.nd (dE yCr (hr.mono (by decide)) rfl))
   (zB (zO 5 zW.nd ?_)
   (zB (xL m8 rfl (xC rfl Z.range ?_) (wO 6 zW.nd) (zB (zV (vc (pv 5) ?_))
   (zD (qQ (yT hr) (zX (yT hr) (pv 4) yC (λ_ _=>rfl)) ?_ (wq TF ?_ (yd uX) vh) rfl))))
   (zB (xL m8 rfl (xC rfl Z.range ?_) (wO 6 zW.nd) (zB (zV (vc (pv 5) ?_))
   (zD (zV (vc (zX (yT hr) (pv 4) yC (λ_ _=>rfl)) (zG (wq TF ?_ (yd uX) vh) zL))))))
   (zB (zO 7 zW.nd (yH oz rfl Z.sorted sX (zG (uY (oh rfl) rfl Z.list pP (zG (zX (yT hr) (pv 4) yC (λ_ _=>rfl)) zL)) zL)))
   (zB (xL m8 rfl (xC rfl Z.range ?_) (wO 6 zW.nd) (zB (zO 8 zW.nd ?_)
   (zB (zO 9 zW.nd (tT UT ?_ (tT aK (yH rC rfl Z.len sk (zG (zX (yT hr) (pv 4) yC (λ_ _=>rfl)) zL)) uX)))
   (zB (bK (i:=10) (j:=11) rfl zW.nd rfl rfl (by decide) rfl rfl ?_ rfl)
   (zB (zO 12 zW.nd ?_)
   (zB (xJ (PW.pt (cS ?_ (jO (yK (Wq hr.units0) (zX (yT hr) (zX (yT hr) (pv 4) yC (λ_ _=>rfl)) (pv 10) (λ_ _=>rfl)) (zX (yT hr) (zX (yT hr) (pv 4) yC (λ_ _=>rfl)) (pv 11) (λ_ _=>rfl)) (vC _))))) (zD (zO 12 zW.nd ?_)) zU)
   (zD (zV (vc (pv 5) (zG (pv 12) zL))))))))))
   (zD (zM (pv 5)))))))))),?_⟩
 nofun
 exists _,U,a,_,_,_,U,U,sq ha,a5,_,_,U,U,(by show(0:Int)<1701; decide),_,_,rfl,rfl,_,rfl,a,_,_,_,rfl,rfl,sq ha,a6,_,_,rfl,rfl,(by show(0:Int)<1701; decide),_,_,rfl,rfl,_,_,rfl;have x1:(v5%1701-850).natAbs<=850:=by lia
 have y1:(v6%1701-850).natAbs<=850:=by lia
 generalize v5%1701-850=X at x1 ⊢;generalize v6%1701-850=Y at y1 ⊢;erw[rfl,λd m b r n H1 s1 hd hm hr0 ed em eb er en nbm nnm=>?_];erw[sz0,λL hL=>?_];have sL:=zC hL (.lst []);have ndL:d≠L:=zE ed hL;have nmL:m≠L:=zE em hL;have nrL:r≠L:=zE er hL;have eL1:upd H1 L (.lst []) L=Kh (.lst []):=zA;have ha1:=sL _ _ (s1 _ _ ha);have eR1:=sL _ _ (s1 _ _ eR);have ed1:=sL _ _ ed;have em1:=sL _ _ em;have eb1:=sL _ _ eb;have er1:=sL _ _ er;have en1:=sL _ _ en;have s01:=s1.trans sL;have hL0:=s1.free hL;generalize upd H1 L (.lst [])=H2 at eL1 ha1 eR1 ed1 em1 eb1 er1 en1 s01 ⊢;have naL:a≠L:=λz=>by rw[z,hL0] at ha; cases ha
 have nam:a≠m:=λz=>by rw[z,hm] at ha; cases ha
 have nRL:R≠L:=λz=>by rw[z,hL0] at eR; cases eR
 have nRm:R≠m:=λz=>by rw[z,hm] at eR; cases eR
 have ndm:d≠m:=λz=>by rw[z,em1] at ed1; cases ed1
 exists _,U,a,_,_,_,U,U,sq ha1,a7,_,_,U,U,gt3,_,_,U,rfl;have k3:3<=3+v7%3:=by lia
 have k5:3+v7%3<=5:=by lia
 generalize 3+v7%3=M at k3 k5;refine⟨_,U,(by lia),(by lia),wC (lo:=0) (n:=M.toNat) (λi σ H'=>A3 (∀ x o,x≠L->x≠m->H2 x=Kh o->H' x=Kh o) (E4 λ(G:List Deed) (l:List (j4×Int×Int)) (xs:List V) (mk:List (Key×V))=>A8 (H' L=Kh (.lst xs)) (wB H' (G.map Deed.dt) xs) (G.length=i) (jd G l [] [] 1) (l.map (·.1)=ns.take i) (H' m=Kh (.dK mk)) (wZ H' mk (mkE l)) (∀ e∈l,(e.2.1-X).natAbs<=10/\(e.2.2-Y).natAbs<=10)) (∃ u:Option V,σ=[Kh (.ref a),Kh (.ref R),Kh (.int X),Kh (.int Y),Kh (.ref d),Kh (.ref L),u,Ki,Ki,Ki,Ki,Ki,Ki]))
  ⟨λ_ _ _ _ e=>e,⟨[],[],[],[],eL1,yI.mpr rfl,rfl,Ur,rfl,em1,.nil,λe he=>(nomatch he)⟩,Ki,rfl⟩ ?_ ?_⟩
 ·rintro i σ H3 hi ⟨sH,⟨G,l,xs,mk,eL,rp,lD,T,nms,eM,kv,pl⟩,u,rfl⟩;have hi5:i<ns.length:=by lia
  have hn:ns[i]?=Kh ns[i]:=b8 hi5;have ha3:=sH _ _ naL nam ha1;have eR3:=sH _ _ nRL nRm eR1;obtain⟨w1,b1,_⟩:=wS bd (k:=8+2*i) (by lia) (by lia);obtain⟨w2,b2,_⟩:=wS bd (k:=9+2*i) (by lia) (by lia);rw[Aw];have c1:atI (rows.map V.int) (8+2*(i:Int))=Kh (.int w1):=by rw[show 8+2*(i:Int)=((8+2*i:Nat):Int) by lia]; rwa[b1]
  have c2:atI (rows.map V.int) (9+2*(i:Int))=Kh (.int w2):=by rw[show 9+2*(i:Int)=((9+2*i:Nat):Int) by lia]; rwa[b2]
  have cn:atI (ns.map V.str) (i:Int)=Kh (.str ns[i]):=vF (by rw[c7,hn]; rfl);exists _,U,.inl ⟨U,_,SqL.of eL⟩,_,U,_,U,R,_,_,.str ns[i],U,U,.inl (SqL.of eR3),cn;exists _,U,_,U,_,U,_,_,U,U,vz (by lia),_,_,U,U,a,_,_,_,U,U,sq ha3,c1,_,_,U,U,(by show(0:Int)<21; decide),_,_,rfl,rfl,_,_,rfl,rfl;refine⟨_,U,_,U,_,U,_,_,U,U,vz (by lia),_,_,U,U,a,_,_,_,U,U,sq ha3,c2,_,_,U,U,(by show(0:Int)<21; decide),_,_,rfl,rfl,_,_,rfl,rfl,(by show 4<=sizeLine; decide),λt ht=>?_⟩;have x3:(X+w1%21-10-X).natAbs<=10:=by lia
  have y3:(Y+w2%21-10-Y).natAbs<=10:=by lia
  generalize X+w1%21-10=g at x3 ⊢;generalize Y+w2%21-10=W at y3 ⊢;have st:=zC ht (.tup [.str "mark",.str ns[i],.int g,.int W]);have eL3:=st _ _ eL;exists L,_,.ref t,U,U,eL3,zJ (by rw[rp.length,b5]; lia);have sE4:=wa (o:=.lst (xs++[.ref t])) eL3;have np4:=tN eL3;have ntL:t≠L:=λz=>by rw[z,eL] at ht; cases ht
  have rp4:wB (upd (upd H3 t (.tup [.str "mark",.str ns[i],.int g,.int W])) L (.lst (xs++[.ref t]))) ((G++[Deed.mark ns[i] g W]).map Deed.dt) (xs++[.ref t]):=by
   rw[d5];exact(wB.app (rp.to (.of st)) (.one (VF zA))).sam sE4 np4
  have kv4:=(kv.to (.of st)).sam sE4 np4;have k4:∀ x o,x≠L->H3 x=Kh o->upd (upd H3 t (.tup [.str "mark",.str ns[i],.int g,.int W])) L (.lst (xs++[.ref t])) x=Kh o:=λx o h e=>by rw[zH h]; rwa[st _ _ e]
  have eL4:upd (upd H3 t (.tup [.str "mark",.str ns[i],.int g,.int W])) L (.lst (xs++[.ref t])) L=Kh (.lst (xs++[.ref t])):=zA;have et4:upd (upd H3 t (.tup [.str "mark",.str ns[i],.int g,.int W])) L (.lst (xs++[.ref t])) t=Kh (.tup [.str "mark",.str ns[i],.int g,.int W]):=by rw[zH ntL,zA]
  generalize upd (upd H3 t (.tup [.str "mark",.str ns[i],.int g,.int W])) L (.lst (xs++[.ref t]))=H4 at rp4 kv4 k4 eL4 et4 ⊢;have eM4:=k4 _ _ nmL eM;have ed4:=k4 _ _ ndL (sH _ _ ndL ndm ed1);have eR4:=k4 _ _ nRL eR3;have lst1:atI (xs++[.ref t]) (-1)=Kh (.ref t):=bT xs (.ref t);refine⟨_,U,_,U,L,_,_,.ref t,U,U,.inl (SqL.of eL4),lst1,_,U,t,_,U,SqT.of et4,(λz=>x4 z.1 (by show ¬ HT.sIx 4 0 (Kh 2)=0; decide)),λc hc=>?_⟩;rw[show yg [V.str "mark",V.str ns[i],V.int g,V.int W] (Kh 2) Ki=[V.int g,V.int W] from rfl];have sc:=zC hc (.tup [.int g,.int W]);have eM5:=sc _ _ eM4;have lk:mk.length=l.length:=by rw[kv.length,cN]
  have ll:l.length=i:=by have:=congrArg z9 nms; rw[b5,g8] at this; lia
  exists _,U,d,.ref m,U,.inl ⟨_,.inr "marks",.inl (sc _ _ ed4),U,ub.symm⟩,_,U,_,U,R,_,_,.str ns[i],U,U,.inl (SqL.of (sc _ _ eR4)),cn,m,_,U,cR.k (k:=.inr ns[i]) eM5 (zJ (by lia));have sE5:=wa (o:=.dK (qO mk (.inr ns[i]) (.ref c))) eM5;have np5:=np_dk eM5;have nmem:ns[i] ∉ l.map (·.1):=by
   rw[nms];rwa[Zk nod hn]
  have nr5:qe (g,W):=⟨by dsimp only; lia,by dsimp only; lia,by dsimp only; lia,by dsimp only; lia⟩;erw[λx o h1 h2 e=>by rw[zH h2]; exact sc _ _ (k4 _ _ h1 (sH _ _ h1 h2 e)),⟨G++[.mark ns[i] g W],l++[(ns[i],g,W)],xs++[.ref t],_,?_,(rp4.to (.of sc)).sam sE5 np5,(by rw[f8,lD]; rfl),T.mark (Sn (okn _ (r9 hi5)) nmem nr5 (by lia)),?_,zA,?_,λe he=>?_⟩,_,rfl]
  ·rw[zH nmL.symm]; rwa[sc _ _ eL4]
  ·rw[d5,nms,o3,hn]; rfl
  ·have:=((kv4.to (.of sc)).put (k:=.inr ns[i]) (mQ (p:=(g,W)) zA)).sam sE5 np5;have pe:=nP (es:=mkE l) (k:=.inr ns[i]) (d:=ptD (g,W)) (bg (S:=stN l [] [] 1) (jl nmem));rw[pe] at this;rw[Xj];rwa[this]
  ·rcases i9.mp he with z | z
   ·rwa[pl e z]
   ·rw[e9.mp z]; rwa[x3,y3]
 ·rintro σ H3 ⟨sH,⟨G,l,xs,mk,eL,rp,lD,T,nms,eM,kv,pl⟩,u,rfl⟩;have nrm:r≠m:=λz=>by rw[z,em1] at er1; cases er1
  have nar:a≠r:=λz=>by rw[z,hr0] at ha; cases ha
  have ndr:d≠r:=λz=>by rw[z,er1] at ed1; cases ed1
  have nbL:b≠L:=zE eb hL;have nnL:n≠L:=zE en hL;have nbr:b≠r:=λz=>by rw[z,er1] at eb1; cases eb1
  have nnr:n≠r:=λz=>by rw[z,er1] at en1; cases en1
  have ha3:=sH _ _ naL nam ha1;have ed3:=sH _ _ ndL ndm ed1;have er3:=sH _ _ nrL nrm er1;have eb3:=sH _ _ nbL nbm eb1;have en3:=sH _ _ nnL nnm en1;have s03:∀ x o,H x=Kh o->H3 x=Kh o:=λx o e=>sH x o (zE e hL0) (zE e hm) (s01 _ _ e);have lM:l.length=M.toNat:=by have:=congrArg z9 nms; rw[b5,g8] at this; lia
  clear sH;exists _,U,a,_,_,_,U,U,sq ha3,a18,_,_,U,U,gt4;have n0:0<=v18%4:=by lia
  have n3:v18%4<=3:=by lia
  generalize v18%4=N at n0 n3;refine⟨_,U,(by lia),(by lia),wC (lo:=0) (n:=N.toNat) (λi σ H'=>A3 (∀ x o,x≠L->x≠r->H3 x=Kh o->H' x=Kh o) (E4 λ(G:List Deed) (I:List (Int×Int)) (xs ys:List V)=>A8 (H' L=Kh (.lst xs)) (wB H' (G.map Deed.dt) xs) (G.length=M.toNat+i) (jd G l I [] 1) (I.length=i) (H' r=Kh (.lst ys)) (wB H' (I.map ptD) ys) (∀ e∈I,e.1.natAbs<=4/\e.2.natAbs<=4)) (∃ u:Option V,σ=[Kh (.ref a),Kh (.ref R),Kh (.int X),Kh (.int Y),Kh (.ref d),Kh (.ref L),u,Ki,Ki,Ki,Ki,Ki,Ki]))
   ⟨λ_ _ _ _ e=>e,⟨G,[],xs,[],eL,rp,lD,T,rfl,er3,yI.mpr rfl,λe he=>(nomatch he)⟩,u,rfl⟩ ?_ ?_⟩
  ·clear lD rp T;rintro i σ H4 hi ⟨sK,⟨G,I,xs,ys,eL,rp,lD,T,lrs,er4,rr,rb⟩,u,rfl⟩;have ha4:=sK _ _ naL nar ha3;have ed4:=sK _ _ ndL ndr ed3;obtain⟨w1,b1,_⟩:=wS bd (k:=19+2*i) (by lia) (by lia);obtain⟨w2,b2,_⟩:=wS bd (k:=20+2*i) (by lia) (by lia);rw[Aw];have c1:atI (rows.map V.int) (19+2*(i:Int))=Kh (.int w1):=b1;have c2:atI (rows.map V.int) (20+2*(i:Int))=Kh (.int w2):=b2;exists _,U,.inl ⟨U,_,SqL.of eL⟩,_,U,_,U,_,_,U,U,vz (by lia),_,_,U,U,a,_,_,_,U,U,sq ha4,c1,_,_,U,U,(by show(0:Int)<9; decide),_,_,rfl,rfl;refine⟨_,U,_,U,_,_,U,U,vz (by lia),_,_,U,U,a,_,_,_,U,U,sq ha4,c2,_,_,U,U,(by show(0:Int)<9; decide),_,_,rfl,rfl,sz3,λt ht=>?_⟩;have x3:(w1%9-4).natAbs<=4:=by lia
   have y3:(w2%9-4).natAbs<=4:=by lia
   generalize w1%9-4=g at x3 ⊢;generalize w2%9-4=W at y3 ⊢;have st:=zC ht (.tup [.str "sail",.int g,.int W]);have eL3:=st _ _ eL;exists L,_,.ref t,U,U,eL3,zJ (by rw[rp.length,b5]; lia);have sE4:=wa (o:=.lst (xs++[.ref t])) eL3;have np4:=tN eL3;have ntL:t≠L:=λz=>by rw[z,eL] at ht; cases ht
   have rp4:wB (upd (upd H4 t (.tup [.str "sail",.int g,.int W])) L (.lst (xs++[.ref t]))) ((G++[Deed.sail g W]).map Deed.dt) (xs++[.ref t]):=by
    rw[d5];exact(wB.app (rp.to (.of st)) (.one (Uj zA))).sam sE4 np4
   have rr4:=(rr.to (.of st)).sam sE4 np4;have k4:∀ x o,x≠L->H4 x=Kh o->upd (upd H4 t (.tup [.str "sail",.int g,.int W])) L (.lst (xs++[.ref t])) x=Kh o:=λx o h e=>by rw[zH h]; rwa[st _ _ e]
   have eL4:upd (upd H4 t (.tup [.str "sail",.int g,.int W])) L (.lst (xs++[.ref t])) L=Kh (.lst (xs++[.ref t])):=zA;have et4:upd (upd H4 t (.tup [.str "sail",.int g,.int W])) L (.lst (xs++[.ref t])) t=Kh (.tup [.str "sail",.int g,.int W]):=by rw[zH ntL,zA]
   generalize upd (upd H4 t (.tup [.str "sail",.int g,.int W])) L (.lst (xs++[.ref t]))=H5 at rp4 rr4 k4 eL4 et4 ⊢;have er5:=k4 _ _ nrL er4;have ed5:=k4 _ _ ndL ed4;have lst1:atI (xs++[.ref t]) (-1)=Kh (.ref t):=bT xs (.ref t);refine⟨_,U,d,.ref r,U,.inl ⟨_,.inr "runs",.inl ed5,U,dU.symm⟩,.inl ⟨U,_,SqL.of er5⟩,_,U,_,U,L,_,_,.ref t,U,U,.inl (SqL.of eL4),lst1,_,U,t,_,U,SqT.of et4,(λz=>x4 z.1 (by show ¬ HT.sIx 3 0 (Kh 1)=0; decide)),λc hc=>?_⟩;rw[show yg [V.str "sail",V.int g,V.int W] (Kh 1) Ki=[V.int g,V.int W] from rfl];have sc:=zC hc (.tup [.int g,.int W]);have er6:=sc _ _ er5;have ly:ys.length=I.length:=by rw[rr.length,b5]
   exists r,_,.ref c,U,U,er6,zJ (by lia);have sE6:=wa (o:=.lst (ys++[.ref c])) er6;have np6:=tN er6;have nr5:qe (g,W):=⟨by dsimp only; lia,by dsimp only; lia,by dsimp only; lia,by dsimp only; lia⟩;erw[λx o h1 h2 e=>by rw[zH h2]; exact sc _ _ (k4 _ _ h1 (sK _ _ h1 h2 e)),⟨G++[.sail g W],I++[(g,W)],xs++[.ref t],ys++[.ref c],?_,(rp4.to (.of sc)).sam sE6 np6,(by rw[f8,lD]; rfl),T.sail (RO nr5 (by lia)),(by rw[f8,lrs]; rfl),zA,?_,λe he=>?_⟩,_,rfl]
   ·rw[zH nrL.symm]; rwa[sc _ _ eL4]
   ·rw[d5];exact(wB.app (rr4.to (.of sc)) (.one (mQ (p:=(g,W)) zA))).sam sE6 np6
   ·rcases i9.mp he with z | z
    ·rwa[rb e z]
    ·rw[e9.mp z]; rwa[x3,y3]
  ·rintro σ H4 ⟨sK,hh,u,rfl⟩;have sE4:vG (λx=>x=L\/x=r) H3 H4:=λx o hx e=>.inl (sK x o (λz=>hx (.inl z)) (λz=>hx (.inr z)) e);have np4:∀ b xs,H3 b=Kh (.tup xs)->¬ (b=L\/b=r):=λb xs e z=>z.elim (tN eL b xs e) (tN er3 b xs e);have kv4:=kv.sam sE4 np4;clear eL rp lD T;obtain⟨G,I,xs,ys,eL,rp,lD,T,lrs,er4,rr,rb⟩:=hh;have ha4:=sK _ _ naL nar ha3;have ed4:=sK _ _ ndL ndr ed3;have eM4:=sK _ _ nmL nrm.symm eM;have eb4:=sK _ _ nbL nbr eb3;have en4:=sK _ _ nnL nnr en3;have s04:∀ x o,H x=Kh o->H4 x=Kh o:=λx o e=>sK x o (zE e hL0) (zE e hr0) (s03 _ _ e);have lw4:LwA H4 d m b r n (stN l I [] 1):=⟨.inl ed4,⟨mk,.inl eM4,kv4⟩,.nil eb4,⟨ys,er4,rr⟩,.nil en4⟩;have lrm:(mk.map λkv=>kV kv.1)=(l.map (·.1)).map V.str:=im kv4;have ly:ys.length=I.length:=by rw[rr.length,b5]
   erw[_,rfl,d,.ref m,rfl,.inl ⟨_,.inr "marks",.inl ed4,rfl,ub.symm⟩,m,mk,rfl,.inl eM4,λp1 hp1=>?_];rw[lrm];have s5:=zC hp1 (.lst ((l.map (·.1)).map V.str));erw[p1,l.map (·.1),rfl,SqL.of zA,(by rw[b5]; lia),λp2 ms hp2 pm srt=>?_];have s6:=zC hp2 (.lst (ms.map V.str));have s46:=s5.trans s6;have ep2:upd (upd H4 p1 (.lst ((l.map (·.1)).map V.str))) p2 (.lst (ms.map V.str)) p2=Kh (.lst (ms.map V.str)):=zA;generalize upd (upd H4 p1 (.lst ((l.map (·.1)).map V.str))) p2 (.lst (ms.map V.str))=H6 at s46 ep2 ⊢;have lms:ms.length=M.toNat:=by rw[pm.length_eq,b5,lM]
   have np2:p2≠L:=λz=>by rw[z] at hp2; rw[s5 _ _ eL] at hp2; cases hp2
   have ha6:=s46 _ _ ha4;have lw6:=lw4.to (.of s46);have rp6:=rp.to (.of s46);have eL6:=s46 _ _ eL;have s06:∀ x o,H x=Kh o->H6 x=Kh o:=λx o e=>s46 _ _ (s04 _ _ e);exists _,U,a,_,_,_,U,U,sq ha6,a7,_,_,U,U,qa.of (by decide) (by ac_nf),_,_,U,U,(by show(0:Int)<7; decide);have j0:0<=v7/3%7:=by lia
   have j6:v7/3%7<=6:=by lia
   generalize v7/3%7=J at j0 j6;refine⟨_,U,(by lia),(by lia),wC (lo:=0) (n:=J.toNat) (λi σ H'=>A3 (∀ x o,x≠L->H6 x=Kh o->H' x=Kh o) (E4 λ(G:List Deed) (no:List (Int×Deed)) (k:Int) (xs:List V)=>A5 (H' L=Kh (.lst xs)) (wB H' (G.map Deed.dt) xs) (G.length=M.toNat+N.toNat+i) (jd G l I no k) (vq no k i)) (E6 λ(u1 u2 u3 u4 u5 u6:Option V)=>σ=[Kh (.ref a),Kh (.ref R),Kh (.int X),Kh (.int Y),Kh (.ref d),Kh (.ref L),u1,Kh (.ref p2),u2,u3,u4,u5,u6]))
    ⟨λ_ _ _ e=>e,⟨G,[],1,xs,eL6,rp6,lD,T,vq.nil⟩,u,Ki,Ki,Ki,Ki,Ki,rfl⟩ ?_ ?_⟩
   ·clear lD rp T rp6 eL6;rintro i σ H7 hi ⟨sJ,⟨G,no,k,xs,eL7,rp,lD,T,lno⟩,u1,u2,u3,u4,u5,u6,rfl⟩;have sE7:vG (λx=>x=L) H6 H7:=λx o hx e=>.inl (sJ x o hx e);have eLq:∃ zs,H6 L=Kh (.lst zs):=⟨_,s46 _ _ eL⟩;obtain⟨zs,eLq⟩:=eLq;have lw7:=lw6.samE sE7 (λa kvs h z=>by
     rw[z] at h;rcases h with h | ⟨o,h⟩ <;> rw[eLq] at h <;> cases h) (tN eLq) (λ_ _=>nrL)
    have ha7:=sJ _ _ naL ha6;have ep7:=sJ _ _ np2 ep2;rw[Aw];have cut:yg (rows.map V.int) (Kh (27+8*(i:Int))) Ki=(rows.drop (27+8*i)).map V.int:=by
     rw[show 27+8*(i:Int)=((27+8*i:Nat):Int) by lia,kH,HT.sIx_nat rows.length 0 (27+8*i),show min (27+8*i) rows.length=27+8*i by lia,show HT.sIx rows.length rows.length Ki=rows.length from rfl,Ax (by rw[Ai]; lia)]
    erw[_,rfl,_,rfl,_,_,rfl,rfl,vz (by lia),_,_,rfl,rfl,_,rfl,a,_,rfl,SqL.of ha7,λc hc=>?_];rw[cut];have bd8:∀ v∈rows.drop (27+8*i),0<=v/\v<1000003:=λv hv=>bd v (AF hv);have l8:8<=(rows.drop (27+8*i)).length:=by rw[Ai]; lia
    generalize rows.drop (27+8*i)=rw8 at bd8 l8 ⊢;have sc:=zC hc (.lst (rw8.map V.int));have ec:upd H7 c (.lst (rw8.map V.int)) c=Kh (.lst (rw8.map V.int)):=zA;have lw8:=lw7.to (.of sc);have rp8:=rp.to (.of sc);have eL8:=sc _ _ eL7;have ep8:=sc _ _ ep7;have k8:∀ x o,x≠L->H6 x=Kh o->upd H7 c (.lst (rw8.map V.int)) x=Kh o:=λx o h e=>sc _ _ (sJ x o h e);generalize upd H7 c (.lst (rw8.map V.int))=H8 at ec lw8 rp8 eL8 ep8 k8 ⊢;obtain⟨d0,g0,_⟩:=wS bd8 (k:=0) (by decide) (by lia);obtain⟨d1,g1,_⟩:=wS bd8 (k:=1) (by decide) (by lia);obtain⟨d2,g2,_⟩:=wS bd8 (k:=2) (by decide) (by lia);have cq:Sq K H8 c (rw8.map V.int):=.inl (SqL.of ec);obtain⟨ys8,er8,rr8⟩:=lw8.ru;have ly8:ys8.length=I.length:=by rw[rr8.length,b5]; rfl
    exists _,U,c,_,_,_,U,U,cq,g0,_,U,d,.ref r,U,.inl ⟨_,.inr "runs",lw8.at_,U,dU.symm⟩,r,ys8,U,.inl (SqL.of er8),_,_,U,U,_,_,U,U,(by show(0:Int)<(ys8.length:Int)+1; lia);rw[ly8];obtain⟨mo,emo⟩:∃ mo:Nat,d0%((I.length:Int)+1)=mo:=⟨(d0%((I.length:Int)+1)).toNat,(Cd (AB _ (by lia))).symm⟩;have hmo:mo<=I.length:=by have:=Ah d0 (show(0:Int)<(I.length:Int)+1 by lia); lia
    rw[emo];have lk:((ms.map V.str).length:Int)=M:=by rw[b5,lms]; lia
    obtain⟨i1,h1,g3⟩:∃ n1,n1∈ms/\atI (ms.map V.str) (d1%((ms.map V.str).length:Int))=Kh (.str n1):=UY (by lia);obtain⟨i2,h2,g4⟩:∃ n1,n1∈ms/\atI (ms.map V.str) (d2/5%((ms.map V.str).length:Int))=Kh (.str n1):=UY (by lia);have pq:Sq K H8 p2 (ms.map V.str):=.inl (SqL.of ep8);exists _,U,_,U,c,_,_,_,U,U,cq,g1,_,U,p2,_,U,.inl (SqL.of ep8),_,_,U,U,(by show(0:Int)<((ms.map V.str).length:Int); lia),p2,_,_,.str i1,rfl,rfl,pq,g3;exists _,U,_,U,c,_,_,_,U,U,cq,g2,_,_,U,U,qa.of (by decide) (by ac_nf),_,U,p2,_,U,.inl (SqL.of ep8),_,_,U,U,(by show(0:Int)<((ms.map V.str).length:Int); lia),p2,_,_,.str i2,rfl,rfl,pq,g4,_,_,rfl;refine⟨_,U,_,U,_,U,(by show 4<=sizeLine; decide),λt ht=>?_⟩;have st:=zC ht (.tup [.str "range",.int mo,.str i1,.str i2]);have et:upd H8 t (.tup [.str "range",.int mo,.str i1,.str i2]) t=Kh (.tup [.str "range",.int mo,.str i1,.str i2]):=zA;have ec9:=st _ _ ec;have lw9:=lw8.to (.of st);have rp9:=rp8.to (.of st);have eL9:=st _ _ eL8;have k9:∀ x o,x≠L->H6 x=Kh o->upd H8 t (.tup [.str "range",.int mo,.str i1,.str i2]) x=Kh o:=λx o h e=>st _ _ (k8 x o h e);have ntL:t≠L:=λz=>by rw[z,eL8] at ht; cases ht
    generalize upd H8 t (.tup [.str "range",.int mo,.str i1,.str i2])=H9 at et ec9 lw9 rp9 eL9 k9 ⊢;have m1:i1∈l.map (·.1):=pm.mem_iff.mp h1;have m2:i2∈l.map (·.1):=pm.mem_iff.mp h2;obtain⟨q1,f1⟩:=qN (S:=stN l I [] 1) m1;obtain⟨q2,f2⟩:=qN (S:=stN l I [] 1) m2;obtain⟨kvs,pa,hkv,t1,t2⟩:=uk lw9.ma f1;obtain⟨kvs',pb,hkv',t3,t4⟩:=uk lw9.ma f2;have pl1:=pl _ (pH f1);have cq9:Sq K H9 c (rw8.map V.int):=.inl (SqL.of ec9);have lx:xs.length=M.toNat+N.toNat+i:=by rw[rp.length,b5,lD]
    have fin:∀(v:V)(D:Deed)(no':List (Int×Deed))(k':Int)(Hz:Hp),Same H9 Hz->Rep Hz D.dt v->jd (G++[D]) l I no' k'->vq no' k' (i+1) ->
      Hz L=Kh (.lst xs)/\((∀ x o,x≠L->H6 x=Kh o->upd Hz L (.lst (xs++[v])) x=Kh o)/\(E4 λ(G:List Deed) (no:List (Int×Deed)) (k:Int) (ys:List V)=>A5 (upd Hz L (.lst (xs++[v])) L=Kh (.lst ys)) (wB (upd Hz L (.lst (xs++[v]))) (G.map Deed.dt) ys) (G.length=M.toNat+N.toNat+(i+1)) (jd G l I no k) (vq no k (i+1)))):=by
     intro v D no' k' Hz sz rv dz ln;have O:=sz _ _ eL9;erw[O,λx o h e=>by rw[zH h]; exact sz _ _ (k9 x o h e),G++[D],no',k',xs++[v],zA,?_,by rw[f8,lD]; rfl,dz,ln];rw[d5];exact(wB.app (rp9.to (.of sz)) (.one rv)).sam (wa O) (tN O)
    exists _,U,c,_,_,_,U,U,cq9,g2,_,_,U,U,gt5,_,_,U,U,_,rfl;erw[ifD (λz=>?_) (λz=>?_)]
    ·erw[dI ?_];refine⟨_,U,_,U,_,U,_,U,_,U,_,U,c,d,rw8,stN l I [] 1,mo,i1,X,Y,q1,U,ec9,l8,bd8,⟨m,b,r,n,lw9⟩,hmo,(by show I.length<=3; lia),rb,f1,pl1.1,pl1.2,λv A B C D Hz sz rv w1 w2 tn=>?_⟩;obtain⟨O,f3,f4⟩:=fin v _ _ _ Hz sz rv (T.bearing (jY hmo m1 w1 w2 tn (by rw[lno.len]; lia))) lno.snoc;erw[_,rfl,.inl ⟨rfl,_,SqL.of O⟩,_,rfl,L,_,v,rfl,rfl,O,zJ (by lia),f3,f4,_,_,_,_,_,_,rfl]
    ·refine⟨_,U,d,.ref m,U,.inl ⟨_,.inr "marks",lw9.at_,U,ub.symm⟩,_,U,m,_,U,.inl ⟨kvs,.inr i1,hkv,U,t1.symm⟩,_,U,d,.ref m,U,.inl ⟨_,.inr "marks",lw9.at_,U,ub.symm⟩,_,U,m,_,U,.inl ⟨kvs',.inr i2,hkv',U,t3.symm⟩,
      pa,pb,[q1.1,q1.2],[q2.1,q2.2],rfl,rfl,SqT.of t2,SqT.of t4,_,rfl,?_⟩
     erw[ifD (λz=>?_) (λz=>?_)]
     ·
      refine⟨_,U,_,U,_,U,_,U,_,U,_,U,c,d,rw8,stN l I [] 1,mo,i1,X,Y,q1,U,ec9,l8,bd8,⟨m,b,r,n,lw9⟩,hmo,(by show I.length<=3; lia),rb,f1,pl1.1,pl1.2,λv A B C D Hz sz rv w1 w2 tn=>?_⟩;obtain⟨O,f3,f4⟩:=fin v _ _ _ Hz sz rv (T.bearing (jY hmo m1 w1 w2 tn (by rw[lno.len]; lia))) lno.snoc;erw[_,rfl,.inl ⟨rfl,_,SqL.of O⟩,_,rfl,L,_,v,rfl,rfl,O,zJ (by lia),f3,f4,_,_,_,_,_,_,rfl]
     ·have ne:zN (stN l I no k) i1≠zN (stN l I no k) i2:=λy=>by
       have y:zN (stN l I [] 1) i1=zN (stN l I [] 1) i2:=y;rw[f1,f2] at y;injection y with y
       rwa[z (by rw[y])]
      obtain⟨O,f3,f4⟩:=fin (.ref t) _ _ _ H9 (Same.refl _) (Wt et) (T.range (VC hmo m1 m2 ne (by rw[lno.len]; lia))) lno.snoc;erw[_,rfl,.inl ⟨rfl,_,SqL.of O⟩,_,rfl,L,_,.ref t,rfl,rfl,O,zJ (by lia),f3,f4,_,_,_,_,_,_,rfl]
   ·clear lD rp T;rintro σ H7 ⟨sJ,⟨G,no,k,xs,eL7,rp,lD,T,lno⟩,u1,u2,u3,u4,u5,u6,rfl⟩;refine⟨_,U,q L xs G H7 (λx o e=>sJ x o (zE e hL0) (s06 _ _ e)) hL0 eL7 rp (by lia) T.ok (by rw[T.at_]; show I.length<=3; lia) T.four ⟨J.toNat,by lia,by rw[T.at_]; rwa[lno]⟩ (by rw[T.at_]; exact⟨by show 3<=l.length; lia,by show l.length<=5; lia,λe he=>by have:=pl e he; lia,rfl⟩)⟩
def jJ(K:b6):Sp:=λe H Q _=>E3 λ(a:b9) (rows:List Int) (c:Nat)=>A6 (e=[.ref a,.int c]) (SqL K H a (rows.map V.int)) (c<=rows.length) (c<=25) (∀ x∈rows,0<=x/\x<1000003) (∀(r:b9)(ns:List j4)(d:Hp),Same H d->H r=Ki->d r=Kh (.lst (ns.map V.str))->ns.length=c->(∀ n∈ns,rP n)->ns.Nodup->Q (.ref r) d)
def Zw(F:Fun K "_law_names" "_law_names" uj f fd)(Z:Zs mg)(CB:Cb P w mg base)  : yS P w K mg base CX0 1 f fd ["_law_some","_law_many"] (jJ K):=by
 specialize xI
 ·obtain⟨a,rows,d,rfl,_⟩:=h;rfl
 obtain⟨a,rows,d,rfl,ha,h1,h2,bd,q⟩:=h
 refine'⟨_,(zB (zO 2 xI.nd yC)
   (zB (zO 3 xI.nd ?_)
   (zB (xL m8 rfl (xC rfl Z.range (zG (pv 1) zL)) (wO 4 xI.nd) (zB (zO 5 xI.nd ?_)
   (zB (zO 6 xI.nd ?_)
   (zB (zO 7 xI.nd ?_)
   (zB (zO 8 xI.nd (XV PySem.F.plainAttrs_str PySem.F.slot_str_join PySem.F.type_str_join Ru yC (zG (yP (T:=["_law_k"]) (caps:=[("_law_letters",2),("_law_raw",5),("_law_step",7)]) ⟨rfl,by ac_nf,by ac_nf,rfl,⟨⟨rfl,rfl,BD rfl⟩,⟨rfl,rfl,BD rfl⟩,⟨rfl,rfl,BD rfl⟩,x8⟩⟩ rfl (xC rfl Z.range (zG (pv 6) zL)) (λ_=>(wO 0 (show(["_law_k","_law_letters","_law_raw","_law_step"]:List j4).Nodup by ac_nf))) (λ_=>yD) (λ_=>(Yp UU (pv 1) ?_ (λ_ _=>rfl)))) zL)))
   (zB (zO 9 xI.nd ?_)
   (zB (xL m8 rfl (xC rfl Z.range (zG uX zL)) (wO 10 xI.nd) (zD (xJ (yK mj (pv 8) (pv 3) (by with_unfolding_all rfl)) (zB (zO 11 xI.nd (Yp UU (pv 2) ?_ (λ_ _=>rfl)))
   (zD (zO 8 xI.nd (tT jp (tT jp (wq Tw (pv 8) vh (yd (pv 9))) (pv 11)) (wq Tw (pv 8) (yd ?_) vh))))) zU)))
   (zD (zV (vc (pv 3) (zG (pv 8) zL)))))))))))
   (zD (zM (pv 3)))))),?_⟩
 nofun
 refine⟨sz0,λr N=>?_⟩;have s0:=zC N (.lst []);refine⟨_,U,_,U,by lia,by lia,wC (lo:=0) (n:=((d:Nat):Int).toNat) (λi B I=>∃ ns:List j4,A6 (Same H I) (I r=Kh (.lst (ns.map V.str))) (ns.length=i) (∀ n∈ns,rP n) ns.Nodup (E8 λ(u4 u5 u6 u7 u8 u9 o g:Option V)=>B=[Kh (.ref a),Kh (.int d),Kh (.str abc),Kh (.ref r),u4,u5,u6,u7,u8,u9,o,g]))
  ⟨[],s0,zA,rfl,(λ_ z=>nomatch z),GH,Ki,Ki,Ki,Ki,Ki,Ki,Ki,Ki,rfl⟩ ?_ ?_⟩
 ·rintro i B H1 hi ⟨ns,s1,er,ln,M,nd,u4,u5,u6,u7,u8,u9,o,g,rfl⟩;rw[j3] at hi;obtain⟨x,ax,x0,x1⟩:=wS bd (k:=(0:Int)+i) (by lia) (by lia);exists _,U,_,U,a,_,_,_,U,U,.inl (s1.seq ha),ax;exists _,U,_,_,U,U,(by show(0:Int)<8; decide),_,_,rfl,rfl;exists _,U,_,_,U,U,qa.of (by decide) (by ac_nf),_,_,U,U,gt5;have z0:0<=x%8:=AB _ (by decide);have z1:x%8<8:=Ah _ (by decide);have t0:0<=x/8%5:=AB _ (by decide);have t1:x/8%5<5:=Ah _ (by decide);obtain⟨sz,esz⟩:∃ n:Nat,1+x%8=(n:Int):=⟨(1+x%8).toNat,by lia⟩;have w1:1<=sz:=by lia
  have Y:sz<=8:=by lia
  refine⟨U,_,U,_,U,by lia,by lia,λc D hD=>?_⟩;have sD:=zC hD (.lst []);refine vb (lo:=0) (n:=(1+x%8).toNat) (λj B X I=>A3 (Same H1 I) (I D=Kh (.lst X)) (∃ l:List Nat,A4 (X=(l.map chS).map V.str) (l.length=j) (∀ c∈l,97<=c/\c<=122) (∃ u0:Option V,B=[u0,Kh (.str abc),Kh (.int x),Kh (.int (x/8%5))])))
   ⟨sD,zA,[],rfl,rfl,(λ_ z=>nomatch z),Ki,rfl⟩ (λj B X I _ hq'=>by obtain⟨_,e,_⟩:=hq'; rwa[e]) ?_ ?_
  ·rintro j B X I hj ⟨sH,eD,l,rfl,lj,lc,u0,rfl⟩;have m0:0<=(x/40+((0:Int)+j)*(x/8%5))%26:=AB _ (by decide);have m1:(x/40+((0:Int)+j)*(x/8%5))%26<26:=Ah _ (by decide);exists _,U,_,U,_,_,U,U,qa.of (by decide) (by ac_nf),_,U,_,U,_,_,U,U,vz (by lia),_,_,U,U,_,_,U,U,(by show(0:Int)<26; decide),abc,_,_,rfl,rfl,(by decide),Td m0 m1;erw[eD,zJ (by rw[b5,b5]; lia),sH.putNew hD,zA,l++[97+((x/40+((0:Int)+j)*(x/8%5))%26).toNat],?_,by rw[f8,lj]; rfl,λc J=>?_,_,rfl]
   ·rw[d5,d5];rfl
   ·rcases i9.mp J with J | J
    ·rwa[lc c J]
    ·rw[e9] at J;lia
  ·rintro B X H2 ⟨s2,eD,l,rfl,lj,lc,u0,rfl⟩;have s12:=s1.trans s2;have O:=s2 _ _ er;have ll:l.length=sz:=by lia
   refine⟨"",D,l.map chS,U,U,SqL.of eD,by rw[aV,ll]; exact g7 Y (by decide),?_⟩;rw[Vt];obtain⟨L,epl⟩:∃ n:Nat,x/7%(1+x%8)=(n:Int):=⟨(x/7%(1+x%8)).toNat,by rw[Cd (AB _ (by lia))]⟩;have plt:L<l.length:=by
    have:=Ah (x/7) (show 0<1+x%8 by lia);lia
   exists _,U,_,_,U,U,qa.of (by decide) (by ac_nf),_,U,_,_,U,U,(by show(0:Int)<1+x%8; lia);obtain⟨R,exn⟩:∃ n:Nat,x=(n:Int):=⟨x.toNat,by lia⟩;refine⟨26,U,by decide,by decide,wC (lo:=0) (n:=26) (λk B I=>I=H2/\∃ m:List Nat,A5 (txt m ∉ ns\/((k=0\/∃ j,j+1=k/\m=l.set L (97+(R+j)%26))/\∀ j,j+1<k->txt (l.set L (97+(R+j)%26))∈ns)) (m.length=l.length) (∀ c,m.set L c=l.set L c) (∀ c∈m,97<=c/\c<=122) (E2 λ(o g:Option V)=>B=[Kh (.ref a),Kh (.int d),Kh (.str abc),Kh (.ref r),Kh (.int (0+i)),Kh (.int x),Kh (.int (1+x%8)),Kh (.int (x/8%5)),Kh (.str (txt m)),Kh (.int (x/7%(1+x%8))),o,g]))
    ⟨rfl,l,.inr ⟨.inl rfl,λj hj=>x4 hj (Bj _)⟩,rfl,λ_=>rfl,lc,o,g,rfl⟩ ?_ ?_⟩
   ·rintro k B I hk ⟨rfl,m,u,lm,C,mc,v10,v11,rfl⟩;exists _,U,_,U,r,_,U,.inl (SqL.of O),U,XE ns,_,rfl;show if inV (.str (txt m)) (ns.map V.str)=Kj then _ else _
    rw[RG];erw[ifD (λv=>?_) (λv=>?_)]
    ·have b0:0<=(x+((0:Int)+k))%26:=AB _ (by decide);have b1:(x+((0:Int)+k))%26<26:=Ah _ (by decide);exists _,U,_,U,_,U,_,_,U,U,_,_,U,U,(by show(0:Int)<26; decide),abc,_,_,rfl,rfl,(by decide),Td b0 b1;have lz:(txt m).length<=sizeLine:=by rw[zp,lm,ll]; rwa[g7 Y (by decide)]
     have es:(97+((x+((0:Int)+k))%26).toNat)=97+(R+k)%26:=by lia
     have c1:Dn (txt m) Ki (Kh (x/7%(1+x%8)))++chS (97+((x+((0:Int)+k))%26).toNat)++Dn (txt m) (Kh (x/7%(1+x%8)+1)) Ki=txt (l.set L (97+(R+k)%26)):=by
      rw[epl,VX (by lia),es,C]
     erw[_,rfl,_,rfl,_,rfl,txt m,rfl,lz,_,rfl,_,_,rfl,rfl,?_,_,rfl,_,rfl,_,_,rfl,rfl,_,rfl,txt m,rfl,lz,_,_,rfl,rfl,?_,?_]
     ·rwa[g7 (Fg (Gc _ _ _) (f6 1)) (by rw[zp,lm,ll]; exact g7 (GM Y 1) (by decide))]
     ·rw[strLen_append];rwa[g7 (Fg (Fg (Gc _ _ _) (f6 1)) (Gc _ _ _)) (by rw[zp,lm,ll]; exact g7 (Fg (GM Y 1) Y) (by decide))]
     ·erw[rfl,l.set L (97+(R+k)%26),.inr ⟨.inr ⟨k,rfl,rfl⟩,λj hj=>?_⟩,Gj,λc=>List.set_set _,λc J=>?_,_,_,by rw[<- c1]; rfl]
      ·rcases u with u | ⟨u,G⟩
       ·rwa[x4 v u]
       ·by_cases e:j+1=k
        ·rcases u with u | ⟨j0,e0,rfl⟩
         ·lia
         ·rw[show j=j0 by lia];rwa[v]
        ·rwa[G j (by lia)]
      ·rcases Fm J with J | J
       ·rwa[lc c J]
       ·lia
    ·rwa[rfl,m,.inl v,lm,C,mc,_,_,rfl]
   ·rintro B I ⟨rfl,m,u,lm,C,mc,v10,v11,rfl⟩;have out:txt m ∉ ns:=by
     rcases u with u | ⟨u,G⟩
     ·rwa[u]
     ·intro v;erw[Ro (l:=l) (p:=L) (r:=R) plt (ws:=ns) (by lia) λj hj=>?_];by_cases e:j+1<26
      ·rwa[G j e]
      ·rcases u with u | ⟨j0,e0,rfl⟩
       ·lia
       ·rw[show j=j0 by lia];rwa[v]
    exists _,U,.inl ⟨U,_,SqL.of O⟩,_,U,r,_,_,U,U,O,zJ (by rw[b5]; lia);erw[ns++[txt m],s12.putNew N,?_,by rw[f8,ln]; rfl,λn S=>?_,?_,_,_,_,_,_,_,_,_,rfl]
    ·rw[zA,d5];rfl
    ·rcases i9.mp S with S | S
     ·rwa[M n S]
     ·rw[e9] at S;rw[S];rwa[aY (by lia) (by lia) mc]
    ·erw[DV.mpr ⟨nd,by simp,λx hx y hy=>?_⟩];rw[e9] at hy;rw[hy];rwa[λz=>out (z ▸ hx)]
 ·rintro B H1 ⟨ns,s1,er,ln,M,nd,u4,u5,u6,u7,u8,u9,o,g,rfl⟩;rwa[_,rfl,q r ns H1 s1 N er (by rw[ln,j3]) M nd]
def gS(_:b6):Sp:=λd H Q _=>E2 λ(b e:b9)=>A3 (d=[.ref b]) (H b=Kh (.ins bkC e [])) (∀(p l:b9)(c:Hp),vG (λx=>x=b) H c->H p=Ki->H l=Ki->BkL bkC c b p l BS.nil [] []->Q .non c)
def XF(F:Fun K "__init__" "Book.__init__" nV f fd)(Z:Zs mg)(I:Cb P w mg base)(C:Has P w K mg base "nothing_yet" 1 [] (zm K)):yS P w K mg base CX0 2 f fd ["self"] (gS K):=by
 specialize Xq
 ·obtain⟨b,i,rfl,_⟩:=h;rfl
 obtain⟨b,i,rfl,M,q⟩:=h
 refine'⟨_,(zB (pT I.state (pv 0) (dE C (hr.mono (by decide)) rfl))
   (zB (pT I.past (pv 0) ?_)
   (zD (pT I.later (pv 0) ?_)))),?_⟩
 nofun
 refine⟨U,λd n B N st=>?_⟩;have m:=B _ _ M;exists _,U,b,i,[],U,m,(by show 0<1000; decide);refine⟨sz0,λp G=>?_⟩;have c:b≠p:=zE zA G;exists _,U,b,i,_,U,(by rw[zH c,zA]),(by show 1<1000; decide);refine⟨sz0,λl y=>?_⟩;have g:b≠l:=zE zA y;have j:p≠l:=λz=>by
  rw[<- z,zH c.symm,zA] at y;cases y
 exists _,U,b,i,_,U,(by rw[zH g,zA]),(by show 2<1000; decide);rw[Ri];have u:n p=none:=by rw[zH c.symm] at G; rwa[G]
 have v:n l=none:=by rw[zH g.symm,zH j.symm,zH g.symm] at y; rwa[y]
 have J:vG (λx=>x=b) n (upd (upd (upd (upd (upd n b (.ins bkC i (nY "state" (.ref d) []))) p (.lst [])) b (.ins bkC i (nY "past" (.ref p) (nY "state" (.ref d) [])))) l (.lst [])) b (.ins bkC i (bkF d p l))):=λx o D e=>by
  have n1:=zE e u;have n2:=zE e v;rw[zH D,zH n2,zH D,zH n1,zH D];rwa[.inl e]
 have nd:∀ a r,Rd n a (.dK r)->¬ a=b:=λa r h z=>by
  subst z;rcases h with h | ⟨o,h⟩ <;> rw[m] at h <;> cases h
 have L:∀ a xs,n a=Kh (.tup xs)->¬ a=b:=λa xs h z=>by
  subst z;rw[m] at h;cases h
 erw[q p l _ ((vG.of B).trans J) (B.free u) (B.free v) ⟨i,d,[],[],zA,st.samE J nd L,?_,?_,rfl,rfl,j.symm⟩]
 ·rw[zH c.symm,zH j,zH c.symm,zA]
 ·rw[zH g.symm,zA]
def lZ(_:b6):Sp:=λi H Q _=>E12 λ(b x y t g d h p l:b9) (v:V) (xs c:List V)=>A8 (i=[.ref b,.ref x,.ref y]) (H b=Kh (.ins bkC g (bkF d p l))) (H x=Kh (.lst (xs++[.ref t]))) (H y=Kh (.lst c)) (x≠y) (H t=Kh (.tup [v,.ref h])) (c.length<=500) (∀ e,H e=Ki->Q v (upd (upd (upd (upd H x (.lst xs)) e (.tup [v,.ref d])) y (.lst (c++[.ref e]))) b (.ins bkC g (bkF h p l))))
def WH(F:Fun K "step" "Book.step" nO f fd)(Z:Zs mg)(X:Cb P w mg base)  : yS P w K mg base CX0 1 f fd ["self","taken","given"] (lZ K):=by
 specialize du
 ·obtain⟨b,x,y,t,i,d,j,p,l,v,xs,g,rfl,_⟩:=h;rfl
 obtain⟨b,x,y,t,i,d,j,p,l,v,xs,g,rfl,o,u,r,D,n,hl,q⟩:=h
 refine'⟨_,(zB (zO 3 du.nd (PV B7 PySem.F.slot_list_pop PySem.F.type_list_pop Qb (pv 1)))
   (zB (zV (vc (pv 2) (zG (ji (zG ?_ (zG (uU X.state (pv 0)) zL))) zL)))
   (zB (pT X.state (pv 0) ?_)
   (zD (zM ?_))))),?_⟩
 nofun
 have L:b≠x:=tR o u (λz=>nomatch z);have J:b≠y:=tR o r (λz=>nomatch z);have I:t≠x:=tR n u (λz=>nomatch z);have G:t≠y:=tR n r (λz=>nomatch z);have M:b≠t:=tR o n (λz=>nomatch z);erw[_,rfl,.inl ⟨rfl,_,SqL.of u⟩,x,xs++[.ref t],.ref t,rfl,rfl,u,by simp,?_];rw[List.dropLast_concat];have T:upd H x (.lst xs) b=Kh (.ins bkC i (bkF d p l)):=by rw[zH L]; rwa[o]
 have N:upd H x (.lst xs) y=Kh (.lst g):=by rw[zH D.symm]; rwa[r]
 have R:upd H x (.lst xs) t=Kh (.tup [v,.ref j]):=by rw[zH I]; rwa[n]
 erw[_,rfl,.inl ⟨rfl,_,SqL.of N⟩,_,rfl,t,_,0,v,rfl,rfl,.inr (SqT.of R),rfl,_,rfl,b,i,_,_,rfl,T,zo,sz2,λc e=>?_];have m:c≠x:=λz=>by rw[z,zA] at e; cases e
 have B:H c=none:=by rw[zH m] at e; rwa[e]
 have C:=zC e (.tup [v,.ref d]);have nyt:y≠c:=zE r B;have S:b≠c:=zE o B;have ntt:t≠c:=zE n B;exists y,g,.ref c,U,U,C _ _ N,zJ (by lia);have O:upd (upd (upd H x (.lst xs)) c (.tup [v,.ref d])) y (.lst (g++[.ref c])) t=Kh (.tup [v,.ref j]):=by rw[zH G]; rwa[C _ _ R]
 have b3:upd (upd (upd H x (.lst xs)) c (.tup [v,.ref d])) y (.lst (g++[.ref c])) b=Kh (.ins bkC i (bkF d p l)):=by rw[zH J]; rwa[C _ _ T]
 exists _,U,t,_,1,.ref j,U,U,.inr (SqT.of O),U,_,U,b,i,_,U,b3,(by show 3<1000; decide);rw[ou];have Y:upd (upd (upd (upd H x (.lst xs)) c (.tup [v,.ref d])) y (.lst (g++[.ref c]))) b (.ins bkC i (bkF j p l)) t=Kh (.tup [v,.ref j]):=by rw[zH M.symm]; rwa[O]
 rwa[_,rfl,t,_,0,v,rfl,rfl,.inr (SqT.of Y),rfl,q c B]
def dC(_:b6):Sp:=λe H Q _=>E8 λ(b p l:b9) (S d:BS) (D:Deed) (past later:List (Deed×BS))=>A5 (e=[.ref b]) (BkL bkC H b p l S (past++[(D,d)]) later) (later.length<=400) (past.length<=400) (∀(v:V)(c:Hp),vG (Bl b p l) H c->BkL bkC c b p l d past (later++[(D,S)])->Rep c D.dt v->Q v c)
def XD(F:Fun K "undo" "Book.undo" nF f fd)(Z:Zs mg)(J:Cb P w mg base)(g:jt P w K mg base iq 1 ["self","taken","given"] (lZ K)):yS P w K mg base CX0 2 f fd ["self"] (dC K):=by
 specialize Yn
 ·obtain⟨b,p,l,S,S0,D,past,later,rfl,_⟩:=h;rfl
 obtain⟨b,p,l,S,S0,D,past,later,rfl,⟨y,d,ps,Y,k⟩,hl,hpl,q⟩:=h;obtain⟨L,t,d0,v,rfl,k1,k2,k3,k4⟩:=k.pp.split;have no:∀{d l:b9}{m:j4},m = "step" ->(bkF d p l).lookup m=none:=λ{d l m} e=>by subst e; rwa[kN (by ac_nf) (by ac_nf) (by ac_nf)]
 refine'⟨_,(zB (xJ (yK (UV hr.units0) (uU J.past (pv 0)) ?_ (vC _)) (zD wU) zU)
   (zD (zM (qU J.m_step g (hr.mono (by decide)) (pv 0) (zG (uU J.past (pv 0)) (zG (uU J.later (pv 0)) zL)))))),?_⟩
 nofun
 have r:=k.ne;have T:b≠p:=tR k.ob k.pa (λz=>nomatch z);have X:b≠l:=tR k.ob k.la (λz=>nomatch z);erw[_,rfl,b,y,_,_,rfl,k.ob,gh,sz0,λe he=>?_];have n:=zC he (.lst []);have c:=k.to (.of n);obtain⟨I,u⟩:=c.pp.refs;have G:=c.pa;rw[u] at G;exists p,e,I,U,U,SqL.of G,SqL.of zA,_,rfl;have R:I≠[]:=λz=>by rw[z] at u; simp at u
 have em:I.isEmpty=false:=by
  cases I with
  | nil=>rwa[x4 rfl R]
  | cons=>rfl
 rw[em];erw[vf ?_];erw[_,rfl,b,y,_,rfl,c.ob,no rfl,_,rfl,b,y,_,_,rfl,c.ob,gh,_,rfl,b,y,_,_,rfl,c.ob,hW,b,p,l,t,y,d,d0,p,l,v,L,Y,rfl,c.ob,c.pa,c.la,r.symm,n _ _ k2,by rw[k.ll.len]; lia,λB i=>?_];have M:B≠p:=λz=>by rw[z,c.pa] at i; cases i
 have N:l≠B:=zE c.la i;have O:b≠B:=zE c.ob i;have j:vG (Bl b p l) (upd H e (.lst [])) (upd (upd (upd (upd (upd H e (.lst [])) p (.lst L)) B (.tup [v,.ref d])) l (.lst (Y++[.ref B]))) b (.ins bkC y (bkF d0 p l))):=λx o hx h=>by
  have n1:x≠b:=λz=>hx (.inl z);have n2:x≠p:=λz=>hx (.inr (.inl z));have n3:x≠l:=λz=>hx (.inr (.inr z));rw[zH n1,zH n3,zH (zE h i),zH n2];rwa[.inl h]
 have nd:=SQ c.ob c.pa c.la;have C:=RN c.ob c.pa c.la;erw[q v _ ((vG.of n).trans j) ⟨y,d0,L,Y++[.ref B],zA,(k4.to (.of n)).samE j nd C,?_,?_,(k1.samE (.of n) (λ_ _ _=>id) (λ_ _ _=>id)).samE j nd C,xY.app ?_ ((k3.to (.of n)).sam j C) (c.st.samE j nd C) (c.ll.samE j nd C),r⟩ ((k3.to (.of n)).sam j C)]
 ·rw[zH T.symm,zH r.symm,zH M.symm,zA]
 ·rw[zH X.symm,zA]
 ·rw[zH O.symm,zH N.symm,zA]
def dq(_:b6):Sp:=λe H Q _=>E8 λ(b p l:b9) (S d:BS) (D:Deed) (past later:List (Deed×BS))=>A5 (e=[.ref b]) (BkL bkC H b p l S past (later++[(D,d)])) (later.length<=400) (past.length<=400) (∀(v:V)(c:Hp),vG (Bl b p l) H c->BkL bkC c b p l d (past++[(D,S)]) later->Rep c D.dt v->Q v c)
def WJ(F:Fun K "redo" "Book.redo" nJ f fd)(Z:Zs mg)(J:Cb P w mg base)(g:jt P w K mg base iq 1 ["self","taken","given"] (lZ K)):yS P w K mg base CX0 2 f fd ["self"] (dq K):=by
 specialize YY
 ·obtain⟨b,p,l,S,S0,D,past,later,rfl,_⟩:=h;rfl
 obtain⟨b,p,l,S,S0,D,past,later,rfl,⟨y,d,M,ls,k⟩,hl,hpl,q⟩:=h;have no:∀{d l:b9}{m:j4},m = "step" ->(bkF d p l).lookup m=none:=λ{d l m} e=>by subst e; rwa[kN (by ac_nf) (by ac_nf) (by ac_nf)]
 refine'⟨_,(zB (xJ (yK (UV hr.units0) (uU J.later (pv 0)) ?_ (vC _)) (zD wU) zU)
   (zD (zM (qU J.m_step g (hr.mono (by decide)) (pv 0) (zG (uU J.later (pv 0)) (zG (uU J.past (pv 0)) zL)))))),?_⟩
 nofun
 obtain⟨L,t,d0,v,rfl,k1,k2,k3,k4⟩:=k.ll.split;have r:=k.ne;have X:b≠p:=tR k.ob k.pa (λz=>nomatch z);have Y:b≠l:=tR k.ob k.la (λz=>nomatch z);erw[_,rfl,b,y,_,_,rfl,k.ob,hW,sz0,λe he=>?_];have n:=zC he (.lst []);have c:=k.to (.of n);obtain⟨I,u⟩:=c.ll.refs;have G:=c.la;rw[u] at G;exists l,e,I,U,U,SqL.of G,SqL.of zA,_,rfl;have T:I≠[]:=λz=>by rw[z] at u; simp at u
 have em:I.isEmpty=false:=by
  cases I with
  | nil=>rwa[x4 rfl T]
  | cons=>rfl
 rw[em];erw[vf ?_];erw[_,rfl,b,y,_,rfl,c.ob,no rfl,_,rfl,b,y,_,_,rfl,c.ob,hW,_,rfl,b,y,_,_,rfl,c.ob,gh,b,l,p,t,y,d,d0,p,l,v,L,M,rfl,c.ob,c.la,c.pa,r,n _ _ k2,by rw[k.pp.len]; lia,λB i=>?_];have O:B≠l:=λz=>by rw[z,c.la] at i; cases i
 have N:p≠B:=zE c.pa i;have R:b≠B:=zE c.ob i;have j:vG (Bl b p l) (upd H e (.lst [])) (upd (upd (upd (upd (upd H e (.lst [])) l (.lst L)) B (.tup [v,.ref d])) p (.lst (M++[.ref B]))) b (.ins bkC y (bkF d0 p l))):=λx o hx h=>by
  have n1:x≠b:=λz=>hx (.inl z);have n2:x≠p:=λz=>hx (.inr (.inl z));have n3:x≠l:=λz=>hx (.inr (.inr z));rw[zH n1,zH n2,zH (zE h i),zH n3];rwa[.inl h]
 have nd:=SQ c.ob c.pa c.la;have C:=RN c.ob c.pa c.la;erw[q v _ ((vG.of n).trans j) ⟨y,d0,M++[.ref B],L,zA,(k4.to (.of n)).samE j nd C,?_,?_,xY.app ?_ ((k3.to (.of n)).sam j C) (c.st.samE j nd C) (c.pp.samE j nd C),(k1.samE (.of n) (λ_ _ _=>id) (λ_ _ _=>id)).samE j nd C,r⟩ ((k3.to (.of n)).sam j C)]
 ·rw[zH X.symm,zA]
 ·rw[zH Y.symm,zH r,zH O.symm,zA]
 ·rw[zH R.symm,zH N.symm,zA]
def jh(_:b6):Sp:=λg H Q _=>E5 λ(b p:b9) (S:BS) (past later:List (Deed×BS))=>A4 (g=[.ref b]) (jA bkC H b p S past later) (Few S) (∀(c:b9)(as:List b9)(e:List j4)(d:Hp),Same H d->H c=Ki->d c=Kh (.lst (as.map V.ref))->e.Perm (S.marks.map (·.1))->J3 e=Kj->xw d S as e->Q (.ref c) d)
def Zh(F:Fun K "marks" "Book.marks" sr f fd)(Z:Zs mg)(CB:Cb P w mg base)  : yS P w K mg base CX0 1 f fd ["self"] (jh K):=by
 specialize jb
 ·obtain⟨b,p,S,past,later,rfl,_⟩:=h;rfl
 obtain⟨b,p,S,past,later,rfl,⟨dx,d,l,ps,ls,k⟩,few,q⟩:=h;obtain⟨m,bk,r,n,st⟩:=k.st;obtain⟨M,hm,kv⟩:=id st.ma;have fm:=few.ma;refine⟨_,(zB (Yl (i:=1) jb.nd rfl (HU rfl) (zX (yT hr) (uU CB.state (pv 0)) yC (λ_ _=>rfl)))
   (zD (zM (yP (T:=["name"]) (caps:=[("places",1)]) ⟨rfl,by ac_nf,by ac_nf,rfl,⟨⟨rfl,rfl,BD rfl⟩,x8⟩⟩ rfl (yQ (yH oz rfl Z.sorted sX (zG (uY (oh rfl) rfl Z.list pP (zG (pv 1) zL)) zL))) (λ_=>(jZ (i:=0) (show(["name","places"]:List j4).Nodup by ac_nf) rfl (BD rfl))) (λ_=>yD) (λ_=>(ji (zG (pv 0) (zG (Yp XB (zX (yT hr) (pv 1) (pv 0) (λ_ _=>rfl)) uX (λ_ _=>rfl)) (zG (Yp XB (zX (yT hr) (pv 1) (pv 0) (λ_ _=>rfl)) uX (λ_ _=>rfl)) zL))))))))),?_⟩
 try dsimp only[L2.cxOf,L2.cxComp,L2.Cx.nox,ZT,Zy]
 erw[_,rfl,b,dx,_,_,rfl,k.ob,zo,d,.ref m,rfl,.inl ⟨_,.inr "marks",st.at_,rfl,zu.symm⟩,_,rfl,m,M,rfl,hm,λg hg=>?_];rw[im kv];have s1:=zC hg (.lst ((S.marks.map (·.1)).map V.str));erw[g,_,rfl,SqL.of zA,(by rw[b5]; lia),λt v ht pm J=>?_];have G:=s1.trans (zC ht (.lst (v.map V.str)));have lm:v.length=S.marks.length:=by rw[pm.length_eq,b5]
 refine⟨t,U,.inl ⟨⟨_,SqL.of zA⟩,λcc D I=>?_⟩⟩;have s3:=G.trans (zC I (.lst []));refine yG (K:=K) (a:=t) (xs:=v.map V.str) (λi B y c=>A4 (Same (upd (upd H g (.lst ((S.marks.map (·.1)).map V.str))) t (.lst (v.map V.str))) c) (c D=Kh (.lst y)) (∃ as:List b9,y=as.map V.ref/\xw c S as (v.take i)) (∃ u:Option V,B=[u,Kh (.ref m)]))
  ⟨zC I _,zA,⟨[],rfl,rfl,λj a n e=>by simp at e⟩,Ki,rfl⟩ (λi B y c _ Y=>⟨SqL.of (Y.1 _ _ zA),Y.2⟩) ?_ ?_
 ·rintro i x B y c hi ⟨C,X,⟨as,rfl,ma⟩,u,rfl⟩;rw[c7,j8] at hi;obtain⟨x,O,rfl⟩:=hi;obtain⟨pt,z⟩:=qN (S:=S) (n:=x) (pm.mem_iff.mp (f7 O));obtain⟨N,a,g1,g2,g3⟩:=uk (st.ma.to (.of (G.trans C))) z;have hil:=(c6.mp O).1;have la:=ma.len;rw[g8] at la;have dg:YL c m (.str x) (Kh (.ref a)):=.inl ⟨N,.inr x,g1,rfl,g2.symm⟩;exists _,U,_,U,_,U,m,.ref a,U,dg;erw[a,_,0,.int pt.1,rfl,rfl,.inr (SqT.of g3),rfl,_,rfl,_,rfl,m,.ref a,rfl,dg,a,_,1,.int pt.2,rfl,rfl,.inr (SqT.of g3),rfl,sz3,λt3 R=>?_];have L:=zC R (.tup [.str x,.int pt.1,.int pt.2]);have o:=L _ _ X;erw[o,zJ (by rw[b5]; lia),(C.trans L).putNew I,zA,⟨as++[t3],by rw[d5]; rfl,?_⟩,_,rfl];rw[o3,O];exact((ma.samE (.of L) (λ_ _ _=>id)).app z zA).samE (wa o) (tN o)
 ·rintro B y c ⟨C,X,⟨as,rfl,ma⟩,u,rfl⟩;rw[b5,i8] at ma;rwa[q D as v c (G.trans C) (G.free I) X pm J ma]
def zk(_:b6):Sp:=λe H Q _=>E5 λ(b p:b9) (S:BS) (past later:List (Deed×BS))=>A4 (e=[.ref b]) (jA bkC H b p S past later) (Few S) (∀(d:b9)(c:Hp),Same H c->H d=Ki->qh c d S->Q (.ref d) c)
def oW(F:Fun K "mark_places" "mark_places" uZ f fd)(Z:Zs mg)(CB:Cb P w mg base)(j:jt P w K mg base gq 1 ["self"] (jh K)):yS P w K mg base CX0 2 f fd ["book"] (zk K):=by
 specialize tL
 ·obtain⟨b,p,S,past,later,rfl,_⟩:=h;rfl
 obtain⟨b,p,S,past,later,rfl,bk,few,q⟩:=h;have no:∀{d l:b9}{m:j4},m = "marks" ->(bkF d p l).lookup m=none:=λ{d l m} e=>by subst e; rwa[kN (by ac_nf) (by ac_nf) (by ac_nf)]
 refine'⟨_,(zB (zO 1 tL.nd rH)
   (zB (xL m8 rfl (yQ (xQ CB.m_marks j (hr.mono (by decide)) (pv 0))) (wO 2 tL.nd) (zD (qQ (yT hr) (pv 1) ?_ ?_ rfl)))
   (zD (zM (pv 1))))),?_⟩
 nofun
 intro D hD;have R:=zC hD (.dK []);obtain⟨dx,d,l,ps,ls,k⟩:=bk.to (.of R);erw[_,rfl,b,dx,_,rfl,k.ob,no rfl,b,p,S,past,later,rfl,bk.to (.of R),few,λc as r H1 s1 hc e1 pm srt ma=>?_];have fm:=few.ma;have lm:r.length=S.marks.length:=by rw[pm.length_eq,b5]
 have X:c≠D:=λz=>by rw[z,zA] at hc; cases hc
 have G:=s1 _ _ (zA (H:=H) (a:=D) (o:=.dK []));refine⟨c,U,.inl ⟨⟨_,SqL.of e1⟩,xD (K:=K) (a:=c) (xs:=as.map V.ref) (λi J y=>A3 (∀ x o,x≠D->H1 x=Kh o->y x=Kh o) (∃ g,A3 (y D=Kh (.dK g)) (g.length<=i) (∀ n∈r.take i,∃(p:Int×Int)(a:b9),zN S n=Kh p/\tZ g (.inr n)=Kh (.ref a)/\y a=Kh (.tup [.int p.1,.int p.2]))) (∃ u:Option V,J=[Kh (.ref b),Kh (.ref D),u]))
  ⟨λ_ _ _ e=>e,⟨[],G,f6 _,λn N=>by simp at N⟩,Ki,rfl⟩ (λi J y _ hq=>SqL.of (hq.1 _ _ X e1)) ?_ ?_⟩⟩
 ·rintro i x J y hi ⟨L,⟨g,I,lk,inv⟩,u,rfl⟩;rw[c7,j8] at hi;obtain⟨a,ha,rfl⟩:=hi;have hil:i<r.length:=by rw[<- ma.len]; exact(c6.mp ha).1
  have N:r[i]?=Kh r[i]:=b8 hil;obtain⟨pt,hpt,ea⟩:=ma.at_ i a _ ha N;have Y:a≠D:=λz=>by rw[z,G] at ea; cases ea
  have v:=L _ _ Y ea;erw[_,rfl,a,_,1,.int pt.1,rfl,rfl,.inr (SqT.of v),rfl,_,rfl,a,_,2,.int pt.2,rfl,rfl,.inr (SqT.of v),rfl,sz2,λt ht=>?_];have M:=zC ht (.tup [.int pt.1,.int pt.2]);exists _,U,_,U,a,_,0,.str r[i],U,U,.inr (SqT.of (M _ _ v)),U,D,_,U,cR.k (k:=.inr r[i]) (M _ _ I) (zJ (by lia));have T:t≠D:=λz=>by rw[z,I] at ht; cases ht
  refine⟨λx o n e=>by rw[zH n]; exact M _ _ (L x o n e),⟨_,zA,(by have:=zn g (.inr r[i]:Key) (.ref t); lia),λn h=>?_⟩,_,rfl⟩;rw[o3,N,i9] at h;by_cases z:n=r[i]
  ·rwa[pt,t,by rw[z]; exact hpt,by rw[xo,z,y7 rfl],by rw[zH T,zA]]
  ·obtain⟨p',a',O,g2,C⟩:=inv n (h.resolve_right (by simpa using z));have B:a'≠D:=λz=>by rw[z,I] at C; cases C
   exact⟨p',a',O,by rw[xo,y6 (by intro w; injection w with w; rwa[z w])]; exact g2,by rw[zH B]; rwa[M _ _ C]⟩
 ·rintro J y ⟨L,⟨g,I,lk,inv⟩,u,rfl⟩;rw[b5,ma.len,i8] at inv;erw[_,rfl,q D y (λx o e=>?_) hD ⟨g,.inl I,λn p e=>?_⟩]
  ·rwa[L x o (zE e hD) (s1 _ _ (R _ _ e))]
  ·obtain⟨p',a,O,g2,C⟩:=inv n (pm.mem_iff.mpr (g9.mpr ⟨(n,p),pH e,rfl⟩));rw[e] at O;cases O;rwa[a,g2,C]
def tz(_:b6):Sp:=λe H Q _=>E5 λ(b p:b9) (S:BS) (past later:List (Deed×BS))=>A4 (e=[.ref b]) (jA bkC H b p S past later) (Few S) (∀(c:b9)(xs:List V)(d:Hp),Same H d->H c=Ki->d c=Kh (.lst xs)->wB d (S.runs.map ptD) xs->Q (.ref c) d)
def Yi(F:Fun K "runs" "Book.runs" ng f fd)(Z:Zs mg)(CB:Cb P w mg base)  : yS P w K mg base CX0 1 f fd ["self"] (tz K):=by
 specialize gJ
 ·obtain⟨b,p,S,past,later,rfl,_⟩:=h;rfl
 obtain⟨b,p,S,past,later,rfl,⟨dx,d,l,ps,ls,k⟩,few,q⟩:=h;obtain⟨m,bk,r,n,st⟩:=k.st;obtain⟨g,G,O⟩:=id st.ru;have lr:g.length=S.runs.length:=by rw[O.length,iY]
 refine⟨_,(zB (Yl (i:=1) gJ.nd rfl (HU rfl) (zX (yT hr) (uU CB.state (pv 0)) yC (λ_ _=>rfl)))
   (zD (zM (yP (T:=["number"]) (caps:=[("runs",1)]) ⟨rfl,by ac_nf,by ac_nf,rfl,⟨⟨rfl,rfl,BD rfl⟩,x8⟩⟩ rfl (xC rfl Z.range (zG (yH qr rfl Z.len sk (zG (pv 1) zL)) zL)) (λ_=>(jZ (i:=0) (show(["number","runs"]:List j4).Nodup by ac_nf) rfl (BD rfl))) (λ_=>yD) (λ_=>(zX (yT hr) (pv 1) (pv 0) (λ_ _=>rfl))))))),?_⟩
 try dsimp only[L2.cxOf,L2.cxComp,L2.Cx.nox,ZT,Zy]
 exists _,U,b,dx,_,_,U,k.ob,zo,d,.ref r,U,.inl ⟨_,.inr "runs",st.at_,U,pE.symm⟩,_,U,r,g,U,G;refine⟨_,U,(by have:=few.ru; lia),(by have:=few.ru; lia),λcc D J=>vb (lo:=0) (n:=(g.length:Int).toNat) (λi v j c=>A4 (Same H c) (c D=Kh (.lst j)) (wB c ((S.runs.take i).map ptD) j) (∃ u:Option V,v=[u,Kh (.ref r)]))
  ⟨zC J _,zA,yI.mpr rfl,Ki,rfl⟩ (λi v j c _ X=>X.2) ?_ ?_⟩
 ·rintro i v j c hi ⟨y,B,rp,u,rfl⟩;have I:i<S.runs.length:=by lia
  have N:S.runs[i]?=Kh S.runs[i]:=b8 I;obtain⟨C,a,g1,g2,Y⟩:=VI (st.ru.to (.of y)) N;refine⟨_,U,_,U,r,.ref a,U,.inl ⟨C,.inl (i:Int),g1,by rw[Aw]; rfl,g2.symm⟩,B,zJ (by rw[rp.length,b5,g8]; have:=few.ru; lia),y.putNew J,zA,?_,_,rfl⟩;rw[o3,N,d5];have L:vG (λx=>x=D) c (upd c D (.lst (j++[.ref a]))):=λx o R e=>.inl (by rw[zH R]; rwa[e]);have M:∀ b xs,c b=Kh (.tup xs)->¬ b=D:=λb xs e z=>by rw[z,B] at e; cases e
  rwa[wB.app (rp.sam L M) (.one ((mQ Y).sam L M))]
 ·rintro v j c ⟨y,B,rp,u,rfl⟩;rw[show(g.length:Int).toNat=S.runs.length by lia,i8] at rp;rwa[q D j c y J B rp]
def RE(ask:b9->Int->List V->Prop):List V->Hp->XK->Prop:=λd H E=>∃(b p:b9)(S:BS)(past later:List (Deed×BS))(m:Int),ask b m d/\jA bkC H b p S past later/\Few S/\offM S.runs.length m/\∀ c:Hp,Same H c->E (.ref zr) Ki c
def askW(b:b9)(m:Int)(c:List V):Prop:=∃ o:Int,(c=[.ref b,.int m,.int o]\/c=[.ref b,.int o,.int m])/\o.natAbs.log2<1920
def zg(_:b6):Sp:=λd H Q E=>(E7 λ(b p:b9) (S:BS) (past later:List (Deed×BS)) (i j:Nat)=>A6 (d=[.ref b,.int i,.int j]) (jA bkC H b p S past later) (Few S) (i<=S.runs.length) (j<=S.runs.length) (∀(t:b9)(c:Hp),Same H c->H t=Ki->c t=Kh (.tup [.int (vH S.runs i j).1,.int (vH S.runs i j).2])->Q (.ref t) c))\/RE askW d H E
def oK(F:Fun K "way_between" "way_between" uQ f fd)(Z:Zs mg)(CB:Cb P w mg base)(Y:aD P w K mg base "check_moment" 1 ["moment","runs"] (xP K))(G:jt P w K mg base lU 1 ["self"] (tz K)):yS P w K mg base (CX1 P w) 2 f fd ["book","one","other"] (zg K):=by
 erw[F.okX wW (λvs H Q E h=>?_) (λcdv A outer s H vs Q E hr h=>?_)]
 ·rcases h with ⟨b,p,S,past,later,i,j,rfl,_⟩ | ⟨b,p,S,past,later,m,⟨o,rfl | rfl,_⟩,_⟩ <;> rfl
 refine'⟨_,(zB (PS.nox (zO 3 wW.nd (xQ CB.m_runs G (hr.mono (by decide)) (pv 0))))
   (zB (zV (wH (λ_=>E) Y sx (hr.mono (by decide)) rfl (zG (pv 1) (zG (pv 3) zL))))
   (zB (zV (wH (λ_=>E) Y sx (hr.mono (by decide)) rfl (zG (pv 2) (zG (pv 3) zL))))
   (zB (PS.nox (zO 4 wW.nd ?_))
   (zB (PS.nox (zO 5 wW.nd ?_))
   (zD (PS.nox (zM (ji (zG (tT fz (pv 5) (yH (yx rfl) rfl Z.sum eW (zG (yP (T:=["run"]) (caps:=[]) ⟨rfl,by ac_nf,by ac_nf,rfl,x8⟩ rfl (yQ (pv 4)) (λ_=>(wO 0 (show(["run"]:List j4).Nodup by ac_nf))) (λ_=>yD) (λ_=>?_)) zL))) (zG (tT fz (pv 5) (yH (yx rfl) rfl Z.sum eW (zG (yP (T:=["run"]) (caps:=[]) ⟨rfl,by ac_nf,by ac_nf,rfl,x8⟩ rfl (yQ (pv 4)) (λ_=>(wO 0 (show(["run"]:List j4).Nodup by ac_nf))) (λ_=>yD) (λ_=>?_)) zL))) zL))))))))))),?_⟩
 nofun
 rcases h with h | h
 rotate_left
 ·obtain⟨b,p,S,past,later,m,ask,bk,X,off,k⟩:=h;have few:=X.ru;obtain⟨dx,d,l,ps,ls,kk⟩:=id bk;have no:∀{d l:b9}{m:j4},m = "runs" ->(bkF d p l).lookup m=none:=λ{d l m} e=>by subst e; rwa[kN (by ac_nf) (by ac_nf) (by ac_nf)]
  obtain⟨o,e | e,so⟩:=ask
  ·subst e;erw[_,rfl,b,dx,_,rfl,kk.ob,no rfl,b,p,S,past,later,rfl,bk,X,λr B H1 O hr0 v rep=>?_];have C:B.length=S.runs.length:=by rw[rep.length,b5]
   rwa[_,rfl,_,rfl,r,m,S.runs.length,rfl,.inl ⟨B,SqL.of v,C⟩,.inr ⟨off,k _ O⟩]
  ·subst e;erw[_,rfl,b,dx,_,rfl,kk.ob,no rfl,b,p,S,past,later,rfl,bk,X,λr B H1 O hr0 v rep=>?_];have C:B.length=S.runs.length:=by rw[rep.length,b5]
   exists _,U,_,U,r,o,S.runs.length,U,.inl ⟨B,SqL.of v,C⟩;by_cases z:0<=o/\o<=(S.runs.length:Int)
   ·rwa[.inl ⟨z.1,z.2,_,rfl,_,rfl,r,m,S.runs.length,rfl,.inl ⟨B,SqL.of v,C⟩,.inr ⟨off,k _ O⟩⟩]
   ·rwa[.inr ⟨⟨by lia,so⟩,k _ O⟩]
 obtain⟨b,p,S,past,later,n,g,rfl,bk,X,hi,hj,k⟩:=h;have few:=X.ru;obtain⟨dx,d,l,ps,ls,kk⟩:=id bk;have no:∀{d l:b9}{m:j4},m = "runs" ->(bkF d p l).lookup m=none:=λ{d l m} e=>by subst e; rwa[kN (by ac_nf) (by ac_nf) (by ac_nf)]
 erw[_,rfl,b,dx,_,rfl,kk.ob,no rfl,b,p,S,past,later,rfl,bk,X,λr B H1 O hr0 v rep=>?_];have C:B.length=S.runs.length:=by rw[rep.length,b5]
 erw[_,rfl,_,rfl,r,n,S.runs.length,rfl,.inl ⟨B,SqL.of v,C⟩,.inl ⟨(by lia),(by lia),?_⟩];erw[_,rfl,_,rfl,r,g,S.runs.length,rfl,.inl ⟨B,SqL.of v,C⟩,.inl ⟨(by lia),(by lia),?_⟩];erw[_,rfl,_,rfl,_,rfl,_,_,rfl,_,rfl,_,rfl,_,rfl,_,_,rfl,_,rfl,r,B,rfl,SqL.of v,λq hq=>?_];have e1:(if (g:Int)<n then(g:Int) else n)=((min n g:Nat):Int):=by split <;> lia
 have e2:(if (g:Int)>n then(g:Int) else n)=((max n g:Nat):Int):=by split <;> lia
 have ec:yg B (Kh (if (g:Int)<n then(g:Int) else n)) (Kh (if (g:Int)>n then(g:Int) else n))=(B.drop (min n g)).take (max n g-min n g):=by
  rw[e1,e2,aL (by lia) (by lia)]
 generalize hcs:yg B (Kh (if (g:Int)<n then(g:Int) else n)) (Kh (if (g:Int)>n then(g:Int) else n))=M at hq;have sq:=zC hq (.lst M);have rc:wB (upd H1 q (.lst M)) ((zc S.runs n g).map ptD) M:=by
  have ecs:M=(B.drop (min n g)).take (max n g-min n g):=hcs.symm.trans ec;have:=((rep.drop (min n g)).take (max n g-min n g)).to (.of sq);rw[<- ecs,<- C6,<- Cg] at this;rwa[this]
 have ls:=uf S.runs n g;exists _,U,_,U,_,_,U,U,_,rfl;have cmh:∀ y:Int,RZ (sM n g) y:=λy=>vz (by unfold sM; split <;> decide);refine Rq (i:=n) (j:=g) ?_;refine⟨_,U,_,U,q,U,.inl ⟨⟨_,SqL.of zA⟩,λc D hD=>?_⟩⟩;refine yG (K:=K) (a:=q) (xs:=M) (λi J I N=>A4 (Same (upd H1 q (.lst M)) N) (N D=Kh (.lst I)) (I=(((zc S.runs n g).take i).map (·.1)).map V.int) (∃ u:Option V,J=[u]))
  ⟨zC hD _,zA,rfl,Ki,rfl⟩ (λi J I N _ R=>by obtain⟨L,e,_⟩:=R; rwa[SqL.of (L _ _ zA),e]) ?_ ?_
 ·rintro i x J I N hi ⟨L,eD,rfl,u,rfl⟩;obtain⟨p,a,gp,rfl,ea⟩:=iM rc hi;have hil:=(c6.mp gp).1;erw[_,rfl,a,_,0,.int p.1,rfl,rfl,.inr (SqT.of (L _ _ ea)),rfl,eD,zJ (by rw[b5,b5,g8]; lia),L.putNew hD,zA,?_,_,rfl];rw[o3,gp,d5,d5];rfl
 rintro J I H2 ⟨s2,eD,rfl,u,rfl⟩;exists D,_,U,SqL.of eD,_,_,U,U,cmh _;have eq2:=s2 _ _ (zA (H:=H1) (a:=q) (o:=.lst M));have rc2:=rc.to (.of s2);refine⟨_,U,_,U,q,U,.inl ⟨⟨_,SqL.of eq2⟩,λc D hD=>?_⟩⟩;refine yG (K:=K) (a:=q) (xs:=M) (λi J I N=>A4 (Same H2 N) (N D=Kh (.lst I)) (I=(((zc S.runs n g).take i).map (·.2)).map V.int) (∃ u:Option V,J=[u]))
  ⟨zC hD _,zA,rfl,Ki,rfl⟩ (λi J I N _ R=>by obtain⟨L,e,_⟩:=R; rwa[SqL.of (L _ _ eq2),e]) ?_ ?_
 ·rintro i x J I N hi ⟨L,eD,rfl,u,rfl⟩;obtain⟨p,a,gp,rfl,ea⟩:=iM rc2 hi;have hil:=(c6.mp gp).1;erw[_,rfl,a,_,1,.int p.2,rfl,rfl,.inr (SqT.of (L _ _ ea)),rfl,eD,zJ (by rw[b5,b5,g8]; lia),L.putNew hD,zA,?_,_,rfl];rw[o3,gp,d5,d5];rfl
 rintro J I H3 ⟨s3,eD3,rfl,u,rfl⟩;erw[D,_,rfl,SqL.of eD3,_,_,rfl,rfl,cmh _,sz2,λt ht=>?_];have s23:=s2.trans s3;erw[k t _ (O.trans ((sq.trans s23).trans (zC ht _))) (O.free (sq.free (s23.free ht))) ?_];rw[zA,show M.length=(zc S.runs n g).length by rw[rc.length,b5],i8];rfl
def wv(_:b6):Sp:=λe H Q _=>E5 λ(b p:b9) (S:BS) (past later:List (Deed×BS))=>A5 (e=[.ref b]) (jA bkC H b p S past later) (Few S) (Tb S) (∀(c:b9)(as:List b9)(d:Hp),Same H d->H c=Ki->d c=Kh (.lst (as.map V.ref))->yk d as S.notes->Q (.ref c) d)
def aW(F:Fun K "notes" "Book.notes" sy f fd)(Z:Zs mg)(X:Cb P w mg base)  : yS P w K mg base CX0 1 f fd ["self"] (wv K):=by
 specialize ZI
 ·obtain⟨b,p,S,past,later,rfl,_⟩:=h;rfl
 obtain⟨b,p,S,past,later,rfl,⟨R,d,l,Y,ls,k⟩,few,B,q⟩:=h;obtain⟨m,bk,r,n,st⟩:=k.st;obtain⟨C,z,D⟩:=st.no;obtain⟨g,rfl,ek,rp⟩:=aO D;have lk:g.length=S.notes.length:=by have:=congrArg z9 ek; simpa using this
 exists _,(zD (zM (yH (gW rfl) rfl Z.sorted sX (zG (Ux (zX (yT hr) (uU X.state (pv 0)) yC (λ_ _=>rfl))) zL))))
 try dsimp only[L2.cxOf,L2.cxComp,L2.Cx.nox,ZT,Zy]
 refine⟨_,U,b,R,_,_,U,k.ob,zo,d,.ref n,U,.inl ⟨_,.inr "notes",st.at_,U,rf.symm⟩,n,_,U,z,λv G=>?_⟩;have o:=zC G (.ext (dw v n));refine⟨v,n,g,U,zA,Rd.same z o,(by have:=few.no; lia),(by rw[ek]; exact B),λc as T y J I N L=>?_⟩;refine q c as T (o.trans y) (o.free J) N ⟨I.trans lk,λj a e h1 h2=>?_⟩;have hj:=(c6.mp h1).1;have u:g[j]?=Kh g[j]:=b8 (by lia);obtain⟨_,h3⟩:=L j a _ h1 u;obtain⟨x,h4,h5⟩:=(rp.to (.of (o.trans y))).at (i:=j) (d:=e.2.dt) (by rw[c7,h2]; rfl);rw[c7,u] at h4;have O:g[j].1=e.1:=by
  have:=congrArg (·[j]?) ek;simp only[c7,u,h2,AR,CD] at this;rwa[this]
 rw[O] at h3;have M:g[j].2=x:=by simpa using h4
 rwa[x,by rw[<- M]; exact h3,h5]
def askM(b:b9)(m:Int)(c:List V):Prop:=c=[.ref b,.int m]
def uB(_:b6):Sp:=λh H Q E=>(E6 λ(b p:b9) (S:BS) (past later:List (Deed×BS)) (j:Nat)=>A5 (h=[.ref b,.int j]) (jA bkC H b p S past later) (kT S) (j<=S.runs.length) (∀(l:b9)(d:List b9)(c:Hp),Same H c->H l=Ki->(∀ g∈d,g≠l)->c l=Kh (.lst (d.map V.ref))->wK H c d (S.notes.map λe=>yL S j e.2)->Q (.ref l) c))\/RE askM h H E
def ni(F:Fun K "note_groups" "note_groups" vA f fd)(Z:Zs mg)(CB:Cb P w mg base)(I:jt P w K mg base qk 1 ["self"] (wv K))(yBo:Has P w K mg base "sides_of" 5 ["note","places"] (ux K))(yBz:Has P w K mg base "pushed" 1 ["side","x","y"] (kM K))(yAt:aD P w K mg base "way_between" 2 ["book","one","other"] (zg K))(yAs:Has P w K mg base "mark_places" 2 ["book"] (zk K))(yAh:aD P w K mg base "check_moment" 1 ["moment","runs"] (xP K))(J:jt P w K mg base lU 1 ["self"] (tz K)):yS P w K mg base (CX1 P w) 6 f fd ["book","moment"] (uB K):=by
 erw[F.okX xH (λvs H Q E h=>?_) (λcdv A outer s H vs Q E hr h=>?_)]
 ·rcases h with ⟨b,p,S,past,later,j,rfl,_⟩ | ⟨b,p,S,past,later,m,rfl,_⟩ <;> rfl
 refine'⟨_,(zB (zV (wH (λ_=>E) yAh sx (hr.mono (by decide)) rfl (zG (pv 1) (zG (xQ CB.m_runs J (hr.mono (by decide)) (pv 0)) zL))))
   (zB (PS.nox (zO 2 xH.nd ?_))
   (zB (PS.nox (zO 3 xH.nd ?_))
   (zB (xL HH rfl (yQ (xQ CB.m_notes I (hr.mono (by decide)) (pv 0))) (wO 4 xH.nd) (zB (PS.nox (zO 5 xH.nd ?_))
   (zB (zO 6 xH.nd (wH (λ_=>E) yAt sx (hr.mono (by decide)) rfl ?_))
   (zD (PS.nox (zV (vc (pv 3) (zG (yP (T:=["side"]) (caps:=[("way",6)]) ⟨rfl,by ac_nf,by ac_nf,rfl,⟨⟨rfl,rfl,BD rfl⟩,x8⟩⟩ rfl (yQ ?_) (λ_=>(wO 0 (show(["side","way"]:List j4).Nodup by ac_nf))) (λ_=>yD) (λ_=>?_)) zL))))))))
   (zD (PS.nox (zM (pv 3)))))))),?_⟩
 nofun
 rcases h with h | h
 rotate_left
 ·obtain⟨b,p,S,past,later,m,rfl,bk,fw,off,k⟩:=h;obtain⟨dx,d,l,ps,ls,kk⟩:=id bk;have no:(bkF d p l).lookup ("runs" : j4)=none:=kN (by ac_nf) (by ac_nf) (by ac_nf);erw[_,rfl,_,rfl,b,dx,_,rfl,kk.ob,no,b,p,S,past,later,rfl,bk,fw,λr rs H1 s1 hr0 hr1 rep=>?_];rwa[r,m,S.runs.length,rfl,.inl ⟨rs,SqL.of hr1,by rw[rep.length,b5]⟩,.inr ⟨off,k _ s1⟩]
 obtain⟨b,p,S,past,later,j0,rfl,bk,gd,hj,q⟩:=h;have no:∀{d l:b9}{m:j4},m = "runs" \/ m = "notes" ->(bkF d p l).lookup m=none:=λ{d l m} e=>by rcases e with e | e <;> subst e <;> rwa[kN (by ac_nf) (by ac_nf) (by ac_nf)]
 obtain⟨dx,d,l,ps,ls,kk⟩:=id bk;erw[_,rfl,_,rfl,b,dx,_,rfl,kk.ob,no (.inl rfl),b,p,S,past,later,rfl,bk,gd.few,λr rs H1 s1 hr0 hr1 rep=>?_];have lrs:rs.length=S.runs.length:=by rw[rep.length,b5]
 erw[r,j0,S.runs.length,rfl,.inl ⟨rs,SqL.of hr1,lrs⟩,.inl ⟨(by lia),(by lia),?_⟩];have bk1:=bk.to (.of s1);erw[_,rfl,b,p,S,past,later,rfl,bk1,gd.few,λdd H2 s2 hdd pl=>?_];erw[sz0,λG hG=>?_];have s3:=zC hG (.lst []);have bk3:=bk1.to (.of (s2.trans s3));obtain⟨dx3,d3,l3,ps3,ls3,kk3⟩:=id bk3;erw[_,rfl,b,dx3,_,rfl,kk3.ob,no (.inr rfl),b,p,S,past,later,rfl,bk3,gd.few,gd.rise,λc as H4 s4 hc e4 na=>?_];have ncG:c≠G:=λz=>by rw[z,zA] at hc; cases hc
 have eG4:=s4 _ _ (zA (H:=H2) (a:=G) (o:=.lst []));have s14:Same H1 H4:=s2.trans (s3.trans s4);have fn:=gd.few.no;have nG:H G=none:=s1.free (s2.free hG);refine⟨c,U,.inl ⟨⟨_,SqL.of e4⟩,xD (K:=K) (a:=c) (xs:=as.map V.ref) (λi N M=>A3 (∀ x o,x≠G->H4 x=Kh o->M x=Kh o) (∃ X:List b9,A3 (M G=Kh (.lst (X.map V.ref))) (∀ g∈X,g≠G) (wK H M X ((S.notes.take i).map λe=>yL S j0 e.2))) (E3 λ(u1 u2 u3:Option V)=>N=[Kh (.ref b),Kh (.int j0),Kh (.ref dd),Kh (.ref G),u1,u2,u3]))
  ⟨λ_ _ _ e=>e,⟨[],eG4,λ_ h=>(nomatch h),wK.nil⟩,Ki,Ki,Ki,rfl⟩ (λi N M _ hq=>SqL.of (hq.1 _ _ ncG e4)) ?_ ?_⟩⟩
 ·rintro i x N H5 hi ⟨sH,⟨X,eG,R,ga⟩,u1,u2,u3,rfl⟩;rw[c7,j8] at hi;obtain⟨a,ha,rfl⟩:=hi;have hil:i<S.notes.length:=by rw[<- na.len]; exact(c6.mp ha).1
  have hn:S.notes[i]?=Kh S.notes[i]:=b8 hil;obtain⟨v,ea,rv⟩:=na.at_ i a _ ha hn;have kn:=gd.note _ (r9 hil);generalize S.notes[i]=O at hn ea rv kn;have sE:vG (λx=>x=G) H4 H5:=λx o hx e=>.inl (sH x o hx e);have npG:∀ a xs,H4 a=Kh (.tup xs)->¬ a=G:=tN eG4;have ea5:=sE.tup (npG _ _ ea) ea;have rv5:=rv.sam sE npG;obtain⟨t,xs,rfl,et,mo,m0,m1⟩:=bt kn rv5;exists _,U,a,_,1,.ref t,U,U,.inr (SqT.of ea5),rfl;have s05:Same H H5:=λx o e=>sH x o (zE e nG) (s14 _ _ (s1 _ _ e));have s25:Same H2 H5:=λx o e=>sH x o (zE e hG) ((s3.trans s4) _ _ e);erw[_,rfl,_,rfl,t,xs,1,_,rfl,rfl,.inr (SqT.of et),mo,_,rfl,.inl ⟨b,p,S,past,later,(vY O.2).toNat,j0,?_,bk.to (.of s05),gd.few,(by lia),hj,λw H6 s6 hw ew=>?_⟩]
  ·rwa[congrArg (λz=>[V.ref b,V.int z,V.int j0]) (Cd m0).symm]
  refine⟨_,U,.inl ⟨U,_,SqL.of (s6 _ _ eG)⟩,_,U,_,U,dd,.ref t,S,O.2,U,rv5.to (.of s6),pl.to (.of (s25.trans s6)),kn,gd.mk_,λL sd H7 s7 eL ts=>?_⟩;have Sv:=gR gd.mk_ kn;have two:=jX (S:=S) (D:=O.2);refine⟨L,U,.inl ⟨⟨_,SqL.of eL⟩,λcc B hB=>?_⟩⟩;have ew7:=s7 _ _ ew;refine yG (K:=K) (a:=L) (xs:=sd.map V.ref) (λi N zs M=>A4 (Same H7 M) (M B=Kh (.lst zs)) (∃ bs:List b9,zs=bs.map V.ref/\xA M bs (((zj S O.2).take i).map (QK (vH S.runs (vY O.2).toNat j0).1 (vH S.runs (vY O.2).toNat j0).2))) (∃ u:Option V,N=[u,Kh (.ref w)]))
   ⟨zC hB _,zA,⟨[],rfl,.nil⟩,Ki,rfl⟩ (λi N zs M _ hq=>⟨SqL.of (hq.1 _ _ eL),hq.2⟩) ?_ ?_
  ·rintro i x N zs M hi ⟨sH',eB,⟨bs,rfl,tb⟩,u,rfl⟩;rw[c7,j8] at hi;obtain⟨y,hy,rfl⟩:=hi;have hil':i<(zj S O.2).length:=by rw[<- ts.len]; exact(c6.mp hy).1
   have hr':(zj S O.2)[i]?=Kh (zj S O.2)[i]:=b8 hil';obtain⟨A,B',C,e3,bA,bB⟩:=Sv _ (r9 hil');have ey:=ts.at_ i y _ hy hr';rw[e3] at ey hr';have ewq:Sq K M w _:=.inr (SqT.of (sH' _ _ ew7));erw[_,rfl,_,rfl,w,_,0,_,rfl,rfl,ewq,rfl,_,rfl,w,_,1,_,rfl,rfl,ewq,rfl,y,A,B',C,_,_,rfl,.inr (SqT.of (sH' _ _ ey)),(by lia),(by lia),λz H8 s8 hz ez=>?_];have eB8:=s8 _ _ eB;erw[eB8,zJ (by rw[b5,tb.len,b5,g8]; lia),(sH'.trans s8).putNew hB,zA,⟨bs++[z],by rw[d5]; rfl,?_⟩,_,rfl];rw[o3,hr',d5];exact((tb.to (.of s8)).app (.one ez)).samE (wa eB8) (tN eB8)
  ·rintro N zs H8 ⟨s8,eB,⟨bs,rfl,tb⟩,u,rfl⟩;rw[b5,ts.len,i8] at tb;have s58:Same H5 H8:=s6.trans (s7.trans s8);have Y:=s58 _ _ eG;have nB5:H5 B=none:=s6.free (s7.free hB);have nBG:B≠G:=λz=>by rw[z,eG] at nB5; cases nB5
   exists G,_,.ref B,U,U,Y,zJ (by rw[b5,ga.len,b5,g8]; lia);have sG:=wa (o:=.lst (X.map V.ref++[.ref B])) Y;erw[λx o n e=>by rw[zH n]; exact s58 _ _ (sH x o n e),⟨X++[B],by rw[zA,d5]; rfl,λg hg=>?_,?_⟩,_,_,_,rfl]
   ·rcases i9.mp hg with z | z
    ·rwa[R g z]
    ·rw[e9.mp z]; rwa[nBG]
   ·rw[o3,hn,d5];have ga8:wK H H8 X _:=ga.samE (vG.of (φ:=λ_=>False) s58) (λ_ _ _=>id) (λ_ _=>id);exact(ga8.samE sG (tN Y) R).snoc (s05.free nB5) (by rw[zH nBG]; rwa[eB]) (tb.samE sG (tN Y))
 ·rintro N H5 ⟨sH,⟨X,eG,R,ga⟩,u1,u2,u3,rfl⟩;rw[b5,na.len,i8] at ga;rwa[_,rfl,q G X H5 (λx o e=>sH x o (zE e nG) (s14 _ _ (s1 _ _ e))) nG R eG ga]
def vD(_:b6):Sp:=λd H Q E=>(E6 λ(b p:b9) (S:BS) (past later:List (Deed×BS)) (j:Nat)=>A5 (d=[.ref b,.int j]) (jA bkC H b p S past later) (kT S) (j<=S.runs.length) (∀(l:b9)(as:List b9)(c:Hp),Same H c->H l=Ki->c l=Kh (.lst (as.map V.ref))->xA c as (S.notes.map λe=>yL S j e.2).flatten->Q (.ref l) c))\/RE askM d H E
def kP(F:Fun K "note_sides" "note_sides" vX f fd)(Z:Zs mg)(CB:Cb P w mg base)(O:aD P w K mg base "note_groups" 6 ["book","moment"] (uB K)):yS P w K mg base (CX1 P w) 7 f fd ["book","moment"] (vD K):=by
 erw[F.okX sY (λvs H Q E h=>?_) (λcdv A outer s H vs Q E hr h=>?_)]
 ·rcases h with ⟨b,p,S,past,later,j,rfl,_⟩ | ⟨b,p,S,past,later,m,rfl,_⟩ <;> rfl
 refine'⟨_,(zB (PS.nox (zO 2 sY.nd ?_))
   (zB (xL HH rfl (yQ (wH (λ_=>E) O sx (hr.mono (by decide)) rfl (zG (pv 0) (zG (pv 1) zL)))) (wO 3 sY.nd) (PSs.nox (zD (zV (XV B7 DD DE kQ (pv 2) (zG (pv 3) zL))))))
   (zD (PS.nox (zM (pv 2)))))),?_⟩
 nofun
 rcases h with h | h
 rotate_left
 ·obtain⟨b,p,S,past,later,m,rfl,bk,fw,T,k⟩:=h;erw[sz0,λL v=>?_];have l:=zC v (.lst []);rwa[_,rfl,_,rfl,.inr ⟨b,p,S,past,later,m,rfl,bk.to (.of l),fw,T,λB J=>k _ (l.trans J)⟩]
 obtain⟨b,p,S,past,later,c,rfl,bk,gd,hj,q⟩:=h;erw[sz0,λL v=>?_];have l:=zC v (.lst []);erw[_,rfl,_,rfl,.inl ⟨b,p,S,past,later,c,rfl,bk.to (.of l),gd,hj,λG gs H2 J hG _ eG M=>?_⟩];have y:=J _ _ (zA (H:=H) (a:=L) (o:=.lst []));have Y:G≠L:=λz=>by rw[z,zA] at hG; cases hG
 have X:∀ g∈gs,g≠L:=λg r z=>by
  have:=M.new g r;rw[z,zA] at this;cases this
 refine⟨G,U,.inl ⟨⟨_,SqL.of eG⟩,xD (K:=K) (a:=G) (xs:=gs.map V.ref) (λi C B=>A3 (∀ x o,x≠L->H2 x=Kh o->B x=Kh o) (∃ as:List b9,B L=Kh (.lst (as.map V.ref))/\xA B as ((S.notes.take i).map λe=>yL S c e.2).flatten) (∃ u:Option V,C=[Kh (.ref b),Kh (.int c),Kh (.ref L),u]))
  ⟨λ_ _ _ e=>e,⟨[],y,xA.nil⟩,Ki,rfl⟩ (λi C B _ hq=>SqL.of (hq.1 _ _ Y eG)) ?_ ?_⟩⟩
 ·rintro i x C N hi ⟨I,⟨as,eL,d⟩,u,rfl⟩;rw[c7,j8] at hi;obtain⟨g,r,rfl⟩:=hi;have hil:i<S.notes.length:=by
   have:=M.len;rw[b5] at this;rw[<- this];exact(c6.mp r).1
  have hn:S.notes[i]?=Kh S.notes[i]:=b8 hil;obtain⟨bs,eg,tb⟩:=M.at_ i g (yL S c S.notes[i].2) r (by rw[c7,hn]; rfl);have sE:vG (λx=>x=L) H2 N:=λx o hx e=>.inl (I x o hx e);have eg5:=sE.lst (X g (f7 r)) eg;have R:=tb.samE sE (tN y);have l1:=qg (λe:Int×Deed=>yL S c e.2) (λ_=>vL) (S.notes.take i);have l2:=vL (S:=S) (j:=c) (D:=S.notes[i].2);have l3:=d.len;have l4:=tb.len;have fn:=gd.few.no;rw[g8] at l1;exists _,U,.inl ⟨U,_,SqL.of eL⟩,_,U,L,g,_,_,U,U,eL,eg5,Bq (zJ (by rw[b5,b5]; lia));have sL:=wa (o:=.lst (as.map V.ref++bs.map V.ref)) eL;erw[λx o n e=>by rw[zH n]; exact I x o n e,⟨as++bs,by rw[zA,d5],?_⟩,_,rfl];rw[o3,hn,d5,GY];refine(d.app ?_).samE sL (tN eL);show xA N bs [yL S c S.notes[i].2].flatten;rw[List.flatten_singleton];rwa[R]
 ·rintro C N ⟨I,⟨as,eL,d⟩,u,rfl⟩;rw[b5,M.len,b5,i8] at d;rwa[_,rfl,q L as N (λx o e=>I x o (zE e v) (J _ _ (l _ _ e))) v eL d]
def csd(C:List P3):List Sd:=C.map λt=>(0,t)
def Rs(C:List P3):(csd C).map (·.2)=C:=by
 unfold csd;rw[Ag];rwa[J4 C]
def cI(S:BS)(j:Nat):List P3:=(S.notes.map λe=>yL S j e.2).flatten.map p3
def bp{g d:List Sd}(e:g.map (·.2)=d.map (·.2)){P:P3}(h:Cor g P):Cor d P:=by
 have go:∀ t∈g,∃ u∈d,u.2=t.2:=λt c=>by
  have z:=t5 (f:=λx:Sd=>x.2) c;rw[e] at z;rwa[g9.mp z]
 have back:∀ t∈d,∃ u∈g,u.2=t.2:=λt c=>by
  have z:=t5 (f:=λx:Sd=>x.2) c;rw[<- e] at z;rwa[g9.mp z]
 obtain⟨t,c,u,s,h1,h2,h3⟩:=h;obtain⟨q,l,n⟩:=go t c;obtain⟨p,j,m⟩:=go u s;erw[q,l,p,j,by rw[n,m]; exact h1,by rw[n,m]; exact h2,λv r=>?_];obtain⟨o,i,y⟩:=back v r;rw[<- y];rwa[h3 o i]
def sU.rows{H:Hp}{d c:List Sd}(e:d.map (·.2)=c.map (·.2))(h:sU H D d g):sU H D c g :=
 ⟨h.at',h.ok,h.nodup,λP=>(h.mem P).trans ⟨bp e,bp e.symm⟩,h.rises,by have:=congrArg z9 e; rw[b5,b5] at this; rw[<- this]; rwa[h.few]⟩
def Vh{j:Nat} : (cI S j).length<=2*S.notes.length:=by
 unfold cI;rw[b5];have:=qg (λe:Int×Deed=>yL S j e.2) (λ_=>vL) S.notes;lia
def Rt{H:Hp}{j:Nat}(gd:kT S)(h:xA H as (S.notes.map λe=>yL S j e.2).flatten):∃ c:List Sd,zS c=as.map V.ref/\jq H c/\c.map (·.2)=cI S j:=by
 obtain⟨c,n,ok,m⟩:=bW h λr d=>by
  obtain⟨g,i,d⟩:=F0.mp d;obtain⟨e,l,rfl⟩:=g9.mp i;rwa[yf gd (gd.note e l) r d]
 rwa[c,by rw[<- n],ok,m]
def rW(_:b6):Sp:=λd H Q _=>E6 λ(b p:b9) (S:BS) (past later:List (Deed×BS)) (j:Nat)=>A6 (d=[.ref b,.int j]) (jA bkC H b p S past later) (kT S) (j<=S.runs.length) (S.notes.length<=24) (∀(D:b9)(e:List SpT)(c:Hp),Same H c->H D=Ki->sU c D (csd (cI S j)) e->Q (.ref D) c)
def pR(F:Fun K "book_corners" "book_corners" uE f fd)(Z:Zs mg)(J:Cb P w mg base)(c:Has P w K mg base "corners" 16 ["sides"] (og K))(d:aD P w K mg base "note_sides" 7 ["book","moment"] (vD K)):yS P w K mg base CX0 17 f fd ["book","moment"] (rW K):=by
 specialize pB
 ·obtain⟨b,p,S,past,later,j,rfl,_⟩:=h;rfl
 obtain⟨b,p,S,past,later,j,rfl,bk,gd,u,C,q⟩:=h;exists _,(zD (zM (yX c (hr.mono (by decide)) rfl (zG (wH (λ_=>E0) d yr (hr.mono (by decide)) rfl (zG (pv 0) (zG (pv 1) zL))) zL))))
 try dsimp only[L2.cxOf,L2.cxComp,L2.Cx.nox,ZT,Zy]
 refine⟨_,U,_,U,.inl ⟨b,p,S,past,later,j,U,bk,gd,u,λl as I g G x m=>?_⟩⟩;obtain⟨e,y,ok,i⟩:=Rt gd m;have r:e.length<=63:=by
  have:=Vh (S:=S) (j:=j);rw[<- i,b5] at this;lia
 rwa[l,e,rfl,SqL.of (by rw[y]; exact x),ok,r,λD o B n v z=>q D o B (g.trans n) (g.free v) (z.rows (by rw[i,Rs]))]
def vN(_:b6):Sp:=λd H Q _=>E5 λ(b p:b9) (S:BS) (past later:List (Deed×BS))=>A4 (d=[.ref b]) (jA bkC H b p S past later) (kT S) (∀(l:b9)(c:Hp),Same H c->H l=Ki->c l=Kh (.lst ((S.notes.map (·.1)).map V.int))->Q (.ref l) c)
def pN(F:Fun K "note_numbers" "note_numbers" wY f fd)(Z:Zs mg)(R:Cb P w mg base)(e:jt P w K mg base qk 1 ["self"] (wv K)):yS P w K mg base CX0 2 f fd ["book"] (vN K):=by
 specialize pI
 ·obtain⟨b,p,S,past,later,rfl,_⟩:=h;rfl
 obtain⟨b,p,S,past,later,rfl,bk,gd,q⟩:=h;obtain⟨N,d,l,X,Y,L⟩:=id bk;have no:(bkF d p l).lookup ("notes" : j4)=none:=kN (by ac_nf) (by ac_nf) (by ac_nf)
 refine'⟨_,(zD (zM (yP (T:=["pair"]) (caps:=[]) ⟨rfl,by ac_nf,by ac_nf,rfl,x8⟩ rfl (yQ (xQ R.m_notes e (hr.mono (by decide)) (pv 0))) (λ_=>(wO 0 (show(["pair"]:List j4).Nodup by ac_nf))) (λ_=>yD) (λ_=>?_)))),?_⟩
 nofun
 refine⟨_,U,b,N,_,U,L.ob,no,b,p,S,past,later,U,bk,gd.few,gd.rise,λc as O z hc I na=>?_⟩;have fn:=gd.few.no;refine⟨c,U,.inl ⟨⟨_,SqL.of I⟩,λcc D r=>?_⟩⟩;refine yG (K:=K) (a:=c) (xs:=as.map V.ref) (λi j g y=>A4 (Same O y) (y D=Kh (.lst g)) (g=((S.notes.take i).map (·.1)).map V.int) (∃ u:Option V,j=[u]))
  ⟨zC r _,zA,rfl,Ki,rfl⟩ (λi j g y _ B=>⟨SqL.of (B.1 _ _ I),B.2⟩) ?_ ?_
 ·rintro i x j g J hi ⟨m,n,rfl,u,rfl⟩;rw[c7,j8] at hi;obtain⟨a,G,rfl⟩:=hi;have o:i<S.notes.length:=by rw[<- na.len]; exact(c6.mp G).1
  have C:S.notes[i]?=Kh S.notes[i]:=b8 o;obtain⟨v,M,_⟩:=na.at_ i a _ G C;erw[_,rfl,a,_,0,_,rfl,rfl,.inr (SqT.of (m _ _ M)),rfl,n,zJ (by rw[b5,b5,g8]; lia),m.putNew r,zA,?_,_,rfl];rw[o3,C,d5,d5];rfl
 ·rintro j g J ⟨m,n,rfl,u,rfl⟩;rw[b5,na.len,i8] at n;rwa[q D J (z.trans m) (z.free r) n]
def fF(S:BS)(n:Nat):List Int:=((S.notes.take n).map λe=>(yL S 0 e.2).map λ_=>e.1).flatten
def WF{S:BS}{n:Nat}(h:S.notes[n]?=Kh e):fF S (n+1)=fF S n++(yL S 0 e.2).map λ_=>e.1:=by
 unfold fF;rw[o3,h,d5,GY];rwa[congrArg _ (AJ _)]
def VM(n:Nat):(fF S n).length<=2*S.notes.length:=by
 have:=qg (λe:Int×Deed=>(yL S 0 e.2).map λ_=>e.1) (λ_=>by rw[b5]; rwa[vL]) (S.notes.take n);rw[g8] at this;unfold fF;lia
def ze(_:b6):Sp:=λd H Q _=>E5 λ(b p:b9) (S:BS) (past later:List (Deed×BS))=>A4 (d=[.ref b]) (jA bkC H b p S past later) (kT S) (∀(l:b9)(c:Hp),Same H c->H l=Ki->c l=Kh (.lst ((fF S S.notes.length).map V.int))->Q (.ref l) c)
def oX(F:Fun K "side_owners" "side_owners" vB f fd)(Z:Zs mg)(CB:Cb P w mg base)(R:aD P w K mg base "note_groups" 6 ["book","moment"] (uB K))(yAi:Has P w K mg base "note_numbers" 2 ["book"] (vN K)):yS P w K mg base CX0 7 f fd ["book"] (ze K):=by
 specialize xU
 ·obtain⟨b,p,S,past,later,rfl,_⟩:=h;rfl
 obtain⟨b,p,S,past,later,rfl,bk,gd,q⟩:=h
 refine'⟨_,(zB (zO 1 xU.nd ?_)
   (zB (zO 2 xU.nd ?_)
   (zB (zO 3 xU.nd (wH (λ_=>E0) R yr (hr.mono (by decide)) rfl (zG (pv 0) (zG uX zL))))
   (zB (xL m8 rfl (xC rfl Z.range ?_) (wO 4 xU.nd) (zD (zV (XV B7 DD DE kQ (pv 1) (zG (yP (T:=["side"]) (caps:=[("at",4),("numbers",2)]) ⟨rfl,by ac_nf,by ac_nf,rfl,⟨⟨rfl,rfl,BD rfl⟩,⟨rfl,rfl,BD rfl⟩,x8⟩⟩ rfl (ie ?_) (λ_=>(wO 0 (show(["side","at","numbers"]:List j4).Nodup by ac_nf))) (λ_=>yD) (λ_=>?_)) zL)))))
   (zD (zM (pv 1))))))),?_⟩
 nofun
 erw[sz0,λO hO=>?_];have s1:=zC hO (.lst []);erw[_,rfl,b,p,S,past,later,rfl,bk.to (.of s1),gd,λN H2 B hN eN=>?_];erw[_,rfl,.inl ⟨b,p,S,past,later,0,rfl,bk.to (.of (s1.trans B)),gd,t9 _,λG d H3 Y hG _ eG ga=>?_⟩];have eO3:=Y _ _ (B _ _ (zA (H:=H) (a:=O) (o:=.lst [])));have eN3:=Y _ _ eN;have s03:Same H H3:=s1.trans (B.trans Y);have nNO:N≠O:=λz=>by rw[z,zA] at hN; cases hN
 have nGO:G≠O:=λz=>by rw[z,B _ _ zA] at hG; cases hG
 have ngO:∀ g∈d,g≠O:=λg m z=>by
  have:=ga.new g m;rw[z,B _ _ zA] at this;cases this
 have lg:d.length=S.notes.length:=by rw[ga.len,b5]
 have fn:=gd.few.no;refine⟨_,U,G,d.map V.ref,U,.inl (SqL.of eG),_,U,by rw[b5]; lia,by rw[b5]; lia,wC (lo:=0) (n:=(((d.map V.ref).length:Nat):Int).toNat) (λi c r=>A3 (∀ x o,x≠O->H3 x=Kh o->r x=Kh o) (r O=Kh (.lst ((fF S i).map V.int))) (∃ X:Option V,c=[Kh (.ref b),Kh (.ref O),Kh (.ref N),Kh (.ref G),X]))
  ⟨λ_ _ _ e=>e,eO3,Ki,rfl⟩ ?_ ?_⟩
 ·rintro i c H5 hi ⟨l,I,X,rfl⟩;rw[j3,b5] at hi;have L:S.notes[i]?=Kh S.notes[i]:=b8 (by lia);have m:d[i]?=Kh d[i]:=b8 hi;generalize S.notes[i]=J at L;generalize d[i]=g at m;obtain⟨as,eg,ta⟩:=ga.at_ i g (yL S 0 J.2) m (by rw[c7,L]; rfl);have C:=l _ _ (ngO g (f7 m)) eg;have eN5:=l _ _ nNO eN3;have eG5:=l _ _ nGO eG;have a1:atI (d.map V.ref) (0+(i:Int))=Kh (.ref g):=by
   rw[Aw];rwa[vF (by rw[c7,m]; rfl)]
  have a2:atI ((S.notes.map (·.1)).map V.int) (0+(i:Int))=Kh (.int J.1):=by
   rw[Aw];rwa[vF (by rw[c7,c7,L]; rfl)]
  have two:=vL (S:=S) (j:=0) (D:=J.2);have la:=ta.len;refine⟨_,U,.inl ⟨U,_,SqL.of I⟩,_,U,_,U,G,_,_,_,U,U,.inl (SqL.of eG5),a1,g,U,⟨_,SqL.of C⟩,λcc D hD=>?_⟩;refine yG (K:=K) (a:=g) (xs:=as.map V.ref) (λj c v r=>A4 (Same H5 r) (r D=Kh (.lst v)) (v=(CN j J.1).map V.int) (∃ u:Option V,c=[u,Kh (.int (0+(i:Int))),Kh (.ref N)]))
   ⟨zC hD _,zA,rfl,Ki,rfl⟩ (λj c v r _ hq=>⟨SqL.of (hq.1 _ _ C),hq.2⟩) ?_ ?_
  ·rintro j x c v H6 hj ⟨y,M,rfl,u,rfl⟩;have hjl:=(c6.mp hj).1;rw[b5] at hjl;erw[_,rfl,_,rfl,N,_,_,_,rfl,rfl,.inl (SqL.of (y _ _ eN5)),a2,M,zJ (by rw[b5,Cs]; lia),y.putNew hD,zA,?_,_,rfl];rw[GK,d5];rfl
  ·rintro c v H6 ⟨y,M,rfl,u,rfl⟩;rw[b5,la,<- List.map_const'] at M;have eO6:=y _ _ I;have l1:=VM (S:=S) i;erw[O,D,_,_,rfl,rfl,eO6,M,Bq (zJ (by rw[b5,b5,b5]; lia)),λx o n e=>by rw[zH n]; exact y _ _ (l x o n e),?_,_,rfl];rw[zA,WF L,d5]
 ·rintro c H5 ⟨l,I,X,rfl⟩;rw[j3,b5,lg] at I;rwa[_,rfl,q O H5 (λx o e=>l x o (zE e hO) (s03 _ _ e)) hO I]
def UW{c d:Type}(f:c->List d)(g:c->Int):∀(l:List c)(k:Nat)(r:d),(l.map f).flatten[k]?=Kh r->∃ e∈l,((l.map λe=>(f e).map λ_=>g e).flatten)[k]?=Kh (g e)/\r∈f e
 | [],k,r,h=>by simp at h
 | a::l,k,r,h=>by
  rw[i4,HC] at h ⊢;by_cases i:k<(f a).length
  ·rw[Aq i] at h;erw[a,.head _,?_,f7 h];rw[Aq (by rw[b5]; rwa[i]),c7,h];rfl
  ·rw[x9 (by lia)] at h;obtain⟨e,j,h1,h2⟩:=UW f g l _ r h;erw[e,.tail _ j,?_,h2];rw[x9 (by rw[b5]; lia),b5];rwa[h1]
def mw(S:BS):List (List Int):=(S.notes.map λe=>yL S 0 e.2).flatten
def UL{k:Nat}(h:(mw S)[k]?=Kh r):∃ e∈S.notes,(fF S S.notes.length)[k]?=Kh e.1/\r∈yL S 0 e.2:=by
 obtain⟨e,c,h1,h2⟩:=UW (λe:Int×Deed=>yL S 0 e.2) (λe=>e.1) S.notes k r h;erw[e,c,?_,h2];unfold fF;rw[i8];rwa[h1]
structure Qy(H:Hp)(l:b9)(ss:List Sd)(S:BS):Prop where
 mk ::
 at_:H l=Kh (.lst (zS ss))
 ok:jq H ss
 rows:ss.map (·.2)=(mw S).map p3
 few:ss.length<=2*S.notes.length
def Pg{H:Hp}{as:List b9}(gd:kT S)(n:H l=Kh (.lst (as.map V.ref)))(i:xA H as (mw S)):∃ c,Qy H l c S:=by
 obtain⟨c,o,ok,h⟩:=bW i λr d=>by
  obtain⟨g,j,d⟩:=F0.mp d;obtain⟨e,m,rfl⟩:=g9.mp j;rwa[yf gd (gd.note e m) r d]
 erw[c,?_,ok,h,?_]
 ·rw[n,<- o]
 ·have:=congrArg z9 h;rw[b5,b5] at this;have p:=qg (λe:Int×Deed=>yL S 0 e.2) (λ_=>vL) S.notes;unfold mw at this;lia
structure PD(S:BS)(ys:List Nat):Prop where
 mk ::
 some_:1<=ys.length
 few:ys.length<=3
 rise:ys.Pairwise (· < ·)
 has:∀ y∈ys,((y:Nat):Int)∈S.notes.map (·.1)
 no:∀ os:List Sd,(∀ e∈S.notes,(∃ y∈ys,e.1=((y:Nat):Int))->∀ r∈yL S 0 e.2,∃ t∈os,t.2=p3 r)->∀ z:P3,0<z.2.2->¬ inW os z
def yh(_:b6):Sp:=λh H Q _=>E5 λ(b p:b9) (S:BS) (past later:List (Deed×BS))=>A6 (h=[.ref b]) (jA bkC H b p S past later) (kT S) (∀ e∈S.notes,1<=e.1/\e.1<=6) (∀(P:P3)(d:List Sd)(c:Hp),Same H c->d.map (·.2)=(mw S).map p3->0<P.2.2->inW d P->Oq d P->Q .non c) (∀(D:b9)(g:List Nat)(c:Hp),Same H c->H D=Ki->c D=Kh (.lst (g.map λk=>V.int (k:Nat)))->PD S g->Q (.ref D) c)
def mh(F:Fun K "book_clash" "book_clash" vV f fd)(Z:Zs mg)(CB:Cb P w mg base)(yAu:Has P w K mg base "side_owners" 7 ["book"] (ze K))(yCi:Has P w K mg base "clash" 9 ["sides"] (jI K))(yAx:aD P w K mg base "note_sides" 7 ["book","moment"] (vD K)):yS P w K mg base CX0 10 f fd ["book"] (yh K):=by
 specialize sC
 ·obtain⟨b,p,S,past,later,rfl,_⟩:=h;rfl
 obtain⟨b,p,S,past,later,rfl,bk,gd,i,qn,q⟩:=h;have fn:=gd.few.no
 refine'⟨_,(zB (zO 1 sC.nd (yX yCi (hr.mono (by decide)) rfl (zG (wH (λ_=>E0) yAx yr (hr.mono (by decide)) rfl (zG (pv 0) (zG uX zL))) zL)))
   (zB (xJ ?_ (zD (zM oF)) zU)
   (zB (zO 2 sC.nd ?_)
   (zD (zM (yH (gN rfl) rfl Z.sorted sX (zG (uY (fv rfl) rfl Z.set UZ (zG (yP (T:=["pair"]) (caps:=[("owners",2)]) ⟨rfl,by ac_nf,by ac_nf,rfl,⟨⟨rfl,rfl,BD rfl⟩,x8⟩⟩ rfl (yQ (pv 1)) (λ_=>(wO 0 (show(["pair","owners"]:List j4).Nodup by ac_nf))) (λ_=>yD) (λ_=>?_)) zL)) zL))))))),?_⟩
 nofun
 erw[_,rfl,.inl ⟨b,p,S,past,later,0,rfl,bk,gd,t9 _,λl as H1 s1 hl el ta=>?_⟩];obtain⟨n,o⟩:=Pg gd el ta;have fw:=o.few;erw[l,n,rfl,SqL.of o.at_,o.ok,by lia,λP H2 L p0 iw cd=>?_,λD X H2 L hD eD pr cl=>?_]
 ·exists _,U,U,_,rfl;erw[dI ?_];rwa[qn P n H2 (s1.trans L) o.rows p0 iw cd]
 ·exists _,U,U,_,rfl;refine vf ?_;refine⟨_,U,b,p,S,past,later,U,bk.to (.of (s1.trans L)),gd,λO H3 s3 hO eO=>?_⟩;have R:=s3 _ _ eD;have pr3:=pr.same s3;obtain⟨lc,rg⟩:=cl.range;rw[b5] at lc;have N:∀ c∈X,∃ e∈S.notes,(fF S S.notes.length)[c.2.1.toNat]?=Kh e.1/\∀ t,n[c.2.1.toNat]?=Kh t->∃ r∈yL S 0 e.2,t.2=p3 r:=λc d=>by
   obtain⟨g0,g1⟩:=rg c.2 (t5 d);have hk:c.2.1.toNat<n.length:=by lia
   have lf:=congrArg z9 o.rows;rw[b5,b5] at lf;have hr:(mw S)[c.2.1.toNat]?=Kh (mw S)[c.2.1.toNat]:=b8 (by lia);obtain⟨e,g,h1,h2⟩:=UL hr;erw[e,g,h1,λt C=>⟨_,h2,?_⟩];have z:=congrArg (λl=>l[c.2.1.toNat]?) o.rows;rw[c7,c7,C,hr] at z;rwa[x6 z]
  refine⟨_,U,D,U,.inl ⟨⟨_,SqL.of R⟩,λcc B hB=>?_⟩⟩;refine yG (K:=K) (a:=D) (xs:=zl X) (λj Y G H'=>A4 (Same H3 H') (H' B=Kh (.lst G)) (G=((X.take j).map λc=>((fF S S.notes.length).getD c.2.1.toNat 0).toNat).map (λk=>V.int (k:Nat))) (∃ u:Option V,Y=[u,Kh (.ref O)]))
   ⟨zC hB _,zA,rfl,Ki,rfl⟩ (λj Y G H' _ hq=>⟨SqL.of (hq.1 _ _ R),hq.2⟩) ?_ ?_
  ·rintro j x Y G H4 hj ⟨J,eB,rfl,u,rfl⟩;obtain⟨c,d,rfl,hjl⟩:=ZU hj;have v:=f7 d;obtain⟨e,g,h1,_⟩:=N c v;obtain⟨b0,b1⟩:=i e g;obtain⟨g0,g1⟩:=rg c.2 (t5 v);have a1:atI ((fF S S.notes.length).map V.int) c.2.1=Kh (.int e.1):=by
    rw[<- Cd g0];rwa[vF (by rw[c7,h1]; rfl)]
   erw[_,rfl,_,rfl,c.1,_,0,_,rfl,rfl,.inr (SqT.of (J _ _ (pr3 c v))),rfl,O,_,_,_,rfl,rfl,.inl (SqL.of (J _ _ eO)),a1,eB,zJ (by rw[b5,b5,g8]; lia),J.putNew hB,zA,?_,_,rfl];rw[o3,d,d5,d5];erw[congrArg _ ?_];show [V.int e.1]=[V.int ((((fF S S.notes.length).getD c.2.1.toNat 0).toNat:Nat):Int)];rw[An,h1,Ii,Cd (by lia)]
  ·rintro Y G H4 ⟨J,eB,rfl,u,rfl⟩;rw[rh,i8] at eB;have ow:∀ c∈X,∃ e∈S.notes,(((fF S S.notes.length).getD c.2.1.toNat 0).toNat:Int)=e.1/\∀ t,n[c.2.1.toNat]?=Kh t->∃ r∈yL S 0 e.2,t.2=p3 r:=λc d=>by
    obtain⟨e,g,h1,h2⟩:=N c d;erw[e,g,?_,h2];rw[An,h1,Ii,Cd (by have:=i e g; lia)]
   erw[B,_,rfl,SqL.of eB,by rw[b5]; lia,λk hk=>?_,λT I hT y1 y2 y3=>?_]
   ·obtain⟨c,d,rfl⟩:=g9.mp hk;obtain⟨e,g,h1,_⟩:=ow c d;obtain⟨b0,b1⟩:=i e g;generalize ((fF S S.notes.length).getD c.2.1.toNat 0).toNat=k at h1;simp;lia
   have s5:=J.trans (zC hT (.ext (Yy T I (!w.params.followText "set-order"))));erw[T,I,rfl,zA,y1,λp' M=>?_];have s6:=s5.trans (zC M (.lst (I.map λk=>V.int (k:Nat))));have s06:=(s1.trans L).trans (s3.trans s6);erw[q p' I _ s06 (((s1.trans L).trans (s3.trans s5)).free M) zA ⟨?_,y2,(lL I y1).1,λy hy=>?_,λos hos z z0 iw=>?_⟩]
   ·obtain⟨c,d⟩:∃ c,c∈X:=Eo (by lia);have m:=(y3 _).mpr (t5 (f:=λc:Pr=>((fF S S.notes.length).getD c.2.1.toNat 0).toNat) d);rwa[F9 m]
   ·obtain⟨c,d,rfl⟩:=g9.mp ((y3 y).mp hy);obtain⟨e,g,h1,_⟩:=ow c d;rw[h1];rwa[t5 g]
   ·erw[cl.own (os:=n.filter λt=>decide (sv t.2 z<=0)) (λc d t C=>?_) z z0 λt C=>of_decide_eq_true (Af.mp C).2];obtain⟨c,v,rfl⟩:=g9.mp d;obtain⟨e,g,h1,h2⟩:=ow c v;obtain⟨r,mr,er⟩:=h2 t C;obtain⟨t',mt,et⟩:=hos e g ⟨_,(y3 _).mpr (t5 (f:=λc:Pr=>((fF S S.notes.length).getD c.2.1.toNat 0).toNat) v),h1.symm⟩ r mr;erw[Af.mpr ⟨f7 C,y8 ?_⟩];rw[er,<- et];rwa[iw t' mt]
def cg(C:List (List P3)):List Grp:=C.map λr=>(0,r.map λt=>(0,t))
def co(c:List Grp):List (List P3):=c.map λg=>g.2.map (·.2)
def Tz{t:P3} : (∃ u∈yA e,u.2=t)↔∃ r∈co e,t∈r:=by
 unfold yA co;constructor
 ·rintro⟨u,c,rfl⟩;obtain⟨g,d,c⟩:=FZ.mp c;rwa[_,g9.mpr ⟨g,d,rfl⟩,g9.mpr ⟨u,c,rfl⟩]
 ·rintro⟨r,i,h⟩;obtain⟨g,d,rfl⟩:=g9.mp i;obtain⟨u,c,rfl⟩:=g9.mp h;rwa[u,FZ.mpr ⟨g,d,c⟩,rfl]
def nI(e:co m=co l){P:P3}(h:pz (yA m) P):pz (yA l) P:=by
 have go:∀ t∈yA m,∃ u∈yA l,u.2=t.2:=λt d=>by
  have:=Tz.mp ⟨t,d,rfl⟩;rw[e] at this;rwa[Tz.mpr this]
 rcases h with h | ⟨t,d,h⟩ | ⟨t,d,u,p,h1,h2⟩
 ·rwa[.inl h]
 ·obtain⟨i,c,g⟩:=go t d;rwa[.inr (.inl ⟨i,c,by rw[g]; exact h⟩)]
 ·obtain⟨i,c,g⟩:=go t d;obtain⟨o,j,n⟩:=go u p;rwa[.inr (.inr ⟨i,c,o,j,by rw[g,n]; exact h1,by rw[g,n]; exact h2⟩)]
def SC{d c:List Sd}(e:d.map (·.2)=c.map (·.2))(P:P3):jv d P=jv c P:=by
 have h:∀ l:List Sd,jv l P=(l.map (·.2)).all λt=>decide (sv t P<=0):=λl=>by
  unfold jv;rw[DZ];rfl
 rw[h,h,e]
def Xn(e:co c=co g)(P:P3):db (c.map (·.2)) P=db (g.map (·.2)) P:=by
 have l:c.length=g.length:=by have:=congrArg z9 e; simpa [co] using this
 unfold db dbN;rw[b5,b5,l]
 congr 1
 refine FA λi hi=>?_;have hi:=BV.mp hi;have m:∀ d:List Grp,(h:i<d.length)->(d.map (·.2)).getD i []=d[i].2:=λd h=>by
  rw[An,c7,b8 h];rfl
 rw[m c (by lia),m g hi];have j:=congrArg (λz:List (List P3)=>z[i]?) e;simp only[co,c7,b8 (show i<c.length by lia),b8 hi,AR,CD] at j;rw[SC j]
def iT(C:List (List P3)):co (cg C)=C:=by
 unfold co cg;rw[Ag];have:((λg:Grp=>g.2.map (·.2)) ∘ λr:List P3=>((0:b9),r.map λt=>((0:b9),t)))=id:=by
  funext r
  simp[Function.comp_def]
 rw[this,J4]
def QV{P:P3}{x:Int}(h:x∈db c P):∃ i:Nat,x=i/\i<c.length:=by
 unfold db dbN at h;obtain⟨i,hi,rfl⟩:=g9.mp h;rwa[i,rfl,BV.mp (Af.mp hi).1]
def PK(C:List (List P3))(k:List Int):Prop:=(∃ P,pz (yA (cg C)) P/\k=db ((cg C).map (·.2)) P)/\∀ P,pz (yA (cg C)) P->k.length<=(db ((cg C).map (·.2)) P).length
structure aM(C:List (List P3))(ks:List (List Int)):Prop where
 mk ::
 rows:∀ k,k∈ks↔PK C k
 nd:ks.Nodup
 pw:ks.Pairwise (λa b=>HT.lexLt b a=Kk)
 len:ks.length<=9000
def zh(ns:List Int)(k:Int):Int:=ns.getD k.toNat 0
def yu(S:BS):List (List P3):=S.notes.map λe=>(yL S 0 e.2).map p3
def rY(_:b6):Sp:=λd H Q _=>E5 λ(b p:b9) (S:BS) (past later:List (Deed×BS))=>A5 (d=[.ref b]) (jA bkC H b p S past later) (kT S) (S.notes.length<=6) (∀(D:b9)(fs:List (b9×List Int))(c:Hp),Same H c->H D=Ki->c D=Kh (.lst ((fs.map (·.1)).map V.ref))->(∀ t∈fs,c t.1=Kh (.lst ((t.2.map (zh (S.notes.map (·.1)))).map V.int))/\H t.1=Ki/\t.1≠D)->aM (yu S) (fs.map (·.2))->Q (.ref D) c)
def pj(F:Fun K "book_choices" "book_choices" uC f fd)(Z:Zs mg)(CB:Cb P w mg base)(yBu:Has P w K mg base "choices" 8 ["groups"] (oo K))(yAr:aD P w K mg base "note_groups" 6 ["book","moment"] (uB K))(yAi:Has P w K mg base "note_numbers" 2 ["book"] (vN K)):yS P w K mg base CX0 9 f fd ["book"] (rY K):=by
 specialize qE
 ·obtain⟨b,p,S,past,later,rfl,_⟩:=h;rfl
 obtain⟨b,p,S,past,later,rfl,bk,gd,l24,q⟩:=h
 refine'⟨_,(zB (zO 1 qE.nd ?_)
   (zD (zM (yP (T:=["choice"]) (caps:=[("numbers",1)]) ⟨rfl,by ac_nf,by ac_nf,rfl,⟨⟨rfl,rfl,BD rfl⟩,x8⟩⟩ rfl (yQ (yX yBu (hr.mono (by decide)) rfl (zG (wH (λ_=>E0) yAr yr (hr.mono (by decide)) rfl (zG (pv 0) (zG uX zL))) zL))) (λ_=>(wO 0 (show(["choice","numbers"]:List j4).Nodup by ac_nf))) (λ_=>yD) (λ_=>(yP (T:=["at"]) (caps:=[("numbers",1)]) ⟨rfl,by ac_nf,by ac_nf,rfl,⟨⟨rfl,rfl,BD rfl⟩,x8⟩⟩ rfl (yQ (pv 0)) (λ_=>(wO 0 (show(["at","numbers"]:List j4).Nodup by ac_nf))) (λ_=>yD) (λ_=>?_))))))),?_⟩
 nofun
 refine⟨_,U,b,p,S,past,later,U,bk,gd,λnl H1 s1 hnl enl=>?_⟩;refine⟨_,U,.inl ⟨b,p,S,past,later,0,U,bk.to (.of s1),gd,t9 _,λg gs H2 s2 hg ngg eg ga=>?_⟩⟩;obtain⟨R,e1,grl,c⟩:=fK ga (λr hr x M=>by
  obtain⟨e,he,rfl⟩:=g9.mp hr;rwa[yf gd (gd.note e he) x M])
 rw[Ag] at c;have c:co R=yu S:=c;have lG:R.length=S.notes.length:=by have:=congrArg z9 c; simpa [co,yu] using this
 have two:∀ g∈R,g.2.length<=2:=λg hg=>by
  have m:g.2.map (·.2)∈yu S:=by rw[<- c]; rwa[g9.mpr ⟨g,hg,rfl⟩]
  obtain⟨e,_,q⟩:=g9.mp m;have:=congrArg z9 q;rw[b5,b5] at this;rw[<- this];rwa[vL]
 have egr:gs.map V.ref=pZ R:=by rw[<- e1,Ag]; rfl
 rw[egr] at eg;refine⟨g,R,U,SqL.of eg,grl,by lia,two,λD fs H3 s3 hD eD of o le nd pw lf=>?_⟩;have cs:aM (yu S) (fs.map (·.2)):=by
  erw[λk=>⟨λhk=>?_,λhk=>?_⟩,nd,pw,by rw[b5]; rwa[lf]]
  ·obtain⟨P,hP,ek⟩:=o k hk;refine⟨⟨P,nI (c.trans (iT _).symm) hP,by rw[ek,Xn (c.trans (iT _).symm)]⟩,λP' O=>?_⟩;have:=le.least k hk P' (nI ((iT _).trans c.symm) O);(rw[Xn (c.trans (iT _).symm)] at this;assumption)
  ·obtain⟨⟨P,hP,ek⟩,h1⟩:=hk;have z:=le.all P (nI ((iT _).trans c.symm) hP) (λk' v=>by
    obtain⟨P',O,e'⟩:=o k' v;rw[Xn (c.trans (iT _).symm),<- ek,e',Xn (c.trans (iT _).symm)];rwa[h1 P' (nI (c.trans (iT _).symm) O)])
   (rw[Xn (c.trans (iT _).symm),<- ek] at z;assumption)
 have inN:∀ t∈fs,∀ x∈t.2,∃ i:Nat,x=i/\i<S.notes.length:=λt N x M=>by
  obtain⟨P,_,ek⟩:=o t.2 (g9.mpr ⟨t,N,rfl⟩);rw[ek] at M;obtain⟨i,e,hi⟩:=QV M;rw[b5] at hi;rwa[i,e,by lia]
 have L:∀ t∈fs,t.2.length<=24:=λt N=>by
  obtain⟨P,_,ek⟩:=o t.2 (g9.mpr ⟨t,N,rfl⟩);rw[ek];have z:=dZ (R.map (·.2)) P (R.map (·.2)).length;rwa[g7 z (by rw[b5]; lia)]
 have enl3:=s3 _ _ (s2 _ _ enl);refine⟨D,U,.inl ⟨⟨_,SqL.of eD⟩,λcc B hB=>?_⟩⟩;refine yG (K:=K) (a:=D) (xs:=(fs.map (·.1)).map V.ref) (λi n d G=>A4 (Same H3 G) (G B=Kh (.lst d)) (∃ C:List (b9×List Int),A3 (d=(C.map (·.1)).map V.ref) (C.map (·.2)=(fs.take i).map (·.2)) (∀ t∈C,G t.1=Kh (.lst ((t.2.map (zh (S.notes.map (·.1)))).map V.int))/\H3 t.1=Ki/\t.1≠B)) (∃ u:Option V,n=[u,Kh (.ref nl)]))
  ⟨zC hB _,zA,⟨[],rfl,rfl,λt N=>(nomatch N)⟩,Ki,rfl⟩ (λi n d G _ hq=>⟨SqL.of (hq.1 _ _ eD),hq.2⟩) ?_ ?_
 ·rintro i x n d H4 hi ⟨Y,eB,⟨C,rfl,l,J⟩,u,rfl⟩;rw[c7,c7] at hi;cases gx:fs[i]? with
  | none=>rw[gx] at hi; cases hi
  | some t =>
   rw[gx] at hi;cases hi;have mt:=f7 gx;have et:=Y _ _ (of t mt).1;have il:i<fs.length:=(c6.mp gx).1;have lrs:C.length=i:=by have:=congrArg z9 l; rw[b5,b5,g8] at this; lia
   refine⟨_,U,t.1,U,.inl ⟨⟨_,SqL.of et⟩,λc2 E hE=>?_⟩⟩;refine yG (K:=K) (a:=t.1) (xs:=t.2.map V.int) (λj n d G=>A4 (Same H4 G) (G E=Kh (.lst d)) (d=((t.2.take j).map (zh (S.notes.map (·.1)))).map V.int) (∃ u:Option V,n=[u,Kh (.ref nl)]))
    ⟨zC hE _,zA,rfl,Ki,rfl⟩ (λj n d G _ hq=>⟨SqL.of (hq.1 _ _ et),hq.2⟩) ?_ ?_
   ·rintro j y n d H5 hj ⟨X,eE,rfl,u,rfl⟩;rw[c7,j8] at hj;obtain⟨x,M,rfl⟩:=hj;obtain⟨k,rfl,hk⟩:=inN t mt x (f7 M);have v:k<(S.notes.map (·.1)).length:=by rw[b5]; rwa[hk]
    have enl5:=X _ _ (Y _ _ enl3);have atk:atI ((S.notes.map (·.1)).map V.int) (k:Int)=Kh (.int (zh (S.notes.map (·.1)) k)):=vF (by
     rw[c7,b8 v];unfold zh;rw[j3,An,b8 v];rfl)
    have l24':=L t mt;erw[_,rfl,_,rfl,nl,_,_,_,rfl,rfl,.inl (SqL.of enl5),atk,eE,zJ (by rw[b5,b5,g8]; lia),X.putNew hE,zA,?_,_,rfl];rw[o3,M,d5,d5];rfl
   ·rintro n d H5 ⟨X,eE,rfl,u,rfl⟩;rw[b5,i8] at eE;have eB5:=X _ _ eB;have nEB:E≠B:=λz=>by rw[z,eB] at hE; cases hE
    refine⟨eB5,Am (show _<=9000 by rw[b5,b5]; lia) (by decide),(Y.trans X).putNew hB,zA,⟨C++[(E,t.2)],by rw[d5,d5]; rfl,by rw[d5,l,o3,gx,d5]; rfl,λt' ht'=>?_⟩,_,rfl⟩;rcases i9.mp ht' with z | z
    ·obtain⟨z1,z2,z3⟩:=J t' z;rwa[by rw[zH z3]; exact X _ _ z1,z2,z3]
    ·rw[e9.mp z];rwa[by rw[zH nEB]; exact eE,Y.free hE,nEB]
 ·rintro n d H4 ⟨Y,eB,⟨C,rfl,l,J⟩,u,rfl⟩;rw[show((fs.map (·.1)).map V.ref).length=fs.length by rw[b5,b5],i8] at l;have I:=(s1.trans s2).trans s3;erw[q B C H4 (I.trans Y) (I.free hB) eB (λt N=>?_) (by rw[l]; rwa[cs])];obtain⟨z1,z2,z3⟩:=J t N;rwa[z1,I.free z2,z3]
def vn(_:b6):Sp:=λc H Q _=>E5 λ(b p:b9) (S:BS) (past later:List (Deed×BS))=>A3 (c=[.ref b]) (jA bkC H b p S past later) (Q (.int S.coming) H)
def cL(F:Fun K "coming" "Book.coming" wt f fd)(Z:Zs mg)(e:Cb P w mg base)  : yS P w K mg base CX0 1 f fd ["self"] (vn K):=by
 specialize cQ
 ·obtain⟨b,p,S,past,later,rfl,_⟩:=h;rfl
 obtain⟨b,p,S,past,later,rfl,⟨c,d,l,g,i,k⟩,q⟩:=h;obtain⟨m,bk,r,n,st⟩:=k.st;exists _,(zD (zM (zX (yT hr) (uU e.state (pv 0)) yC (λ_ _=>rfl))))
 try dsimp only[L2.cxOf,L2.cxComp,L2.Cx.nox,ZT,Zy]
 rwa[_,rfl,b,c,_,_,rfl,k.ob,zo,d,.int S.coming,rfl,.inl ⟨_,.inr "coming",st.at_,rfl,lY.symm⟩,q]
def lR(_:b6):Sp:=λe H Q _=>E7 λ(b p:b9) (v:V) (S:BS) (D:Deed) (past later:List (Deed×BS))=>A9 (e=[.ref b,v]) (jA bkC H b p S past later) (SN D) (Rep H D.dt v) (okD S D) (Few S) (Zc S) (past.length<=500) (∀(d:b9)(c:Hp),vG (Bp b p) H c->H d=Ki->BkL bkC c b p d (aft S D) (past++[(D,S)]) []->Q (if S.coming=(aft S D).coming then .non else .int S.coming) c)
def Xv(F:Fun K "deed" "Book.deed" nM f fd)(Z:Zs mg)(C:Cb P w mg base)(c:jt P w K mg base qj 1 ["self"] (vn K))(T:Has P w K mg base "after" 4 ["state","row"] (jD K)):yS P w K mg base CX0 5 f fd ["self","row"] (lR K):=by
 specialize kL
 ·obtain⟨b,p,v,S,D,past,later,rfl,_⟩:=h;rfl
 obtain⟨b,p,v,S,D,past,later,rfl,bk,kd,hv,ok,few,fr,hl,q⟩:=h;obtain⟨i,d,l,I,ls,k⟩:=bk;have no:∀{d l:b9}{m:j4},m = "coming" ->(bkF d p l).lookup m=none:=λ{d l m} e=>by subst e; rwa[kN (by ac_nf) (by ac_nf) (by ac_nf)]
 refine'⟨_,(zB (zO 2 kL.nd (xQ C.m_coming c (hr.mono (by decide)) (pv 0)))
   (zB (zO 3 kL.nd (yX T (hr.mono (by decide)) rfl (zG (uU C.state (pv 0)) (zG (pv 1) zL))))
   (zB (zV (vc (uU C.past (pv 0)) (zG (ji (zG (pv 1) (zG (uU C.state (pv 0)) zL))) zL)))
   (zB (pT C.state (pv 0) (pv 3))
   (zB (pT C.later (pv 0) ?_)
   (zD (zM (ak (yK SF (xQ C.m_coming c (hr.mono (by decide)) (pv 0)) (pv 2) (vC _)) oF (pv 2))))))))),?_⟩
 nofun
 exists _,U,b,i,_,U,k.ob,no rfl,b,p,S,past,later,U,⟨i,d,l,I,ls,k⟩;erw[_,rfl,b,i,_,_,rfl,k.ob,zo,_,rfl,d,v,S,D,rfl,kd,k.st,hv,ok,few,fr,λM N R hd' Y=>?_];have k1:=k.to R;have hv1:=hv.to R;erw[_,rfl,b,i,_,_,rfl,k1.ob,gh,.inl ⟨rfl,_,SqL.of k1.pa⟩,_,rfl,_,rfl,b,i,_,_,rfl,k1.ob,zo,sz2,λt ht=>?_];have O:=zC ht (.tup [v,.ref d]);have k2:=k1.to (.of O);exists p,I,.ref t,U,U,k2.pa,zJ (by rw[k2.pp.len]; lia);have r:b≠p:=tR k2.ob k2.pa (λz=>nomatch z);have e3:upd (upd N t (.tup [v,.ref d])) p (.lst (I++[.ref t])) b=Kh (.ins bkC i (bkF d p l)):=by rw[zH r]; rwa[k2.ob]
 exists _,U,_,U,b,i,_,U,e3,(by show 3<1000; decide);rw[ou];refine⟨sz0,λg L=>?_⟩;have B:b≠g:=zE zA L;have y:p≠g:=λz=>by
  rw[<- z,zH r.symm,zA] at L;cases L
 exists _,U,b,i,_,U,(by rw[zH B,zA]),(by show 3<1000; decide);rw[fR];have j:(upd N t (.tup [v,.ref d])) g=none:=by rw[zH B.symm,zH y.symm] at L; rwa[L]
 have G:vG (Bp b p) (upd N t (.tup [v,.ref d])) (upd (upd (upd (upd (upd N t (.tup [v,.ref d])) p (.lst (I++[.ref t]))) b (.ins bkC i (bkF M p l))) g (.lst [])) b (.ins bkC i (bkF M p g))):=λx o hx e=>by
  have n1:x≠b:=λz=>hx (.inl z);have n2:x≠p:=λz=>hx (.inr z);rw[zH n1,zH (zE e j),zH n1,zH n2];rwa[.inl e]
 have nd:=Pp k2.ob k2.pa;have J:=ZZ k2.ob k2.pa;have X:=Y.to (.of O);have BK:BkL bkC (upd (upd (upd (upd (upd N t (.tup [v,.ref d])) p (.lst (I++[.ref t]))) b (.ins bkC i (bkF M p l))) g (.lst [])) b (.ins bkC i (bkF M p g))) b p g (aft S D) (past++[(D,S)]) []:=by
  erw[i,M,I++[.ref t],[],zA,X.samE G nd J,?_,?_,?_,rfl,y.symm]
  ·rw[zH r.symm,zH y,zH r.symm,zA]
  ·rw[zH B.symm,zA]
  ·rwa[xY.app (G.tup (J _ _ zA) zA) ((hv1.to (.of O)).sam G J) (k2.st.samE G nd J) (k2.pp.samE G nd J)]
 have hg0:H g=none:=by
  cases e:H g with
  | none=>rfl
  | some o =>
   have n:g≠t:=λz=>by rw[z,zA] at j; cases j
   rw[zH n] at j;rcases R g o id e with z | ⟨_,_,_,z⟩ <;> · rw[j] at z; cases z
 have u:=q g _ (((R.trans (.of O)).wider (λ_ z=>z.elim)).trans G) hg0 BK;exists _,U,b,i,_,U,zA,no rfl,b,p,aft S D,_,[],U,BK.at,_,U,U,_,rfl;erw[ifE (λe=>?_) (λe=>?_)]
 ·rw[y7 e.symm] at u;rwa[u]
 ·rw[y6 (λz=>e z.symm)] at u;rwa[_,rfl,u]
def kD(_:b6):Sp:=λe H Q _=>E6 λ(b p:b9) (k:Int) (S:BS) (past later:List (Deed×BS))=>A7 (e=[.ref b,.int k]) (jA bkC H b p S past later) (okD S (.strike k)) (Few S) (Zc S) (past.length<=500) (∀(d:b9)(c:Hp),vG (Bp b p) H c->H d=Ki->BkL bkC c b p d (aft S (.strike k)) (past++[(.strike k,S)]) []->Q .non c)
def dS(F:Fun K "strike" "Book.strike" xi f fd)(Z:Zs mg)(B:Cb P w mg base)(c:jt P w K mg base iF 5 ["self","row"] (lR K)):yS P w K mg base CX0 6 f fd ["self","number"] (kD K):=by
 specialize cC
 ·obtain⟨b,p,k,S,past,later,rfl,_⟩:=h;rfl
 obtain⟨b,p,k,S,past,later,rfl,bk,ok,few,x,v,q⟩:=h;have no:∀{d l:b9}{m:j4},m = "deed" ->(bkF d p l).lookup m=none:=λ{d l m} e=>by subst e; rwa[kN (by ac_nf) (by ac_nf) (by ac_nf)]
 obtain⟨y,d,l,C,D,r⟩:=id bk
 refine'⟨_,(zD (zV (qU B.m_deed c (hr.mono (by decide)) (pv 0) ?_))),?_⟩
 nofun
 erw[_,rfl,b,y,_,rfl,r.ob,no rfl,_,rfl,sz2,λt u=>?_];have g:=zC u (.tup [.str "strike",.int k]);erw[b,p,.ref t,S,.strike k,past,later,rfl,bk.to (.of g),trivial,aR zA,ok,few,x,v,λo z n i j=>?_];rwa[q o z (vG.trans (vG.of g) n) (g.free i) j]
def BkL.other{H r:Hp}(k:BkL C H b p l S past later)(s:vG (Bp g c) H r)(m:H g=Kh (.ins C o n))(j:H c=Kh (.lst h))(n1:b≠g)(n2:p≠c)(n3:l≠c):BkL C r b p l S past later:=by
 obtain⟨y,d,u,v,q⟩:=k;have nd:=Pp m j;have i:=ZZ m j;have nb:∀{x:b9}{xs:List V},H x=Kh (.lst xs)->x≠g:=λe z=>by rw[z,m] at e; cases e
 exact⟨y,d,u,v,s.ins (λz=>z.elim n1 λz=>by have:=q.ob; rw[z,j] at this; cases this) q.ob,q.st.samE s nd i,s.lst (λz=>z.elim (nb q.pa) n2) q.pa,s.lst (λz=>z.elim (nb q.la) n3) q.la,q.pp.samE s nd i,q.ll.samE s nd i,q.ne⟩
def BkL.put{H:Hp}(k:BkL C H b p l S past later)(e:H D=Kh (.lst j))(n1:p≠D)(n2:l≠D):BkL C (upd H D (.lst i)) b p l S past later:=by
 obtain⟨r,d,m,n,q⟩:=k;have s:=wa (o:=.lst i) e;have g:=tN e;have nd:∀ a c,Rd H a (.dK c)->¬ a=D:=λa c h z=>by
  rw[z] at h;rcases h with h | ⟨o,h⟩ <;> rw[e] at h <;> cases h
 exact⟨r,d,m,n,s.ins (λz=>by have:=q.ob; rw[z,e] at this; cases this) q.ob,q.st.samE s nd g,s.lst n1 q.pa,s.lst n2 q.la,q.pp.samE s nd g,q.ll.samE s nd g,q.ne⟩
def Qt{ok:Hp->Prop}{G:Prop}{R:Hp->Prop}(h1:(∀ H,ok H->R H)->G)(h2:∀ H,ok H->R H):G:=h1 h2
structure Bas(H:Hp)(rr L:b9)(rows:List Int)(xs:List V)(Ds:List Deed):Prop where
 mk ::
 er:H rr=Kh (.lst (rows.map V.int))
 eL:H L=Kh (.lst xs)
 rp:wB H (Ds.map Deed.dt) xs
def Bas.samE{c:b9->Prop}{H e:Hp}(h:Bas H d L rows xs g)(s:vG c H e)(n1:¬ c d)(n2:¬ c L)(i:∀ a xs,H a=Kh (.tup xs)->¬ c a):Bas e d L rows xs g:=⟨s.lst n1 h.er,s.lst n2 h.eL,h.rp.sam s i⟩
def Bas.to{H d:Hp}(h:Bas H c L rows xs e)(s:Sam H d):Bas d c L rows xs e:=h.samE s id id λ_ _ _=>id
def Xu{K:b6}{H:Hp}{ns:List Int}(n:Nat)(g:H a=Kh (.tup (ns.map V.int)))(c:H b=Kh (.tup (ns.map V.int))):Deep K H (n+1) (.ref a) (.ref b) true:=by
 by_cases ne:a=b
 ·subst ne;rwa[.same _ _]
 ·have d:=Deep.tup (n:=n) (e:=λ_=>Kj) ne (SqT.of (K:=K) g) (SqT.of (K:=K) c) λj h1 h2=>by
   have z:=Deep.int (K:=K) (H:=H) n (ns[j]'(by simpa using h1)) (ns[j]'(by simpa using h1));rw[beq_self_eq_true] at z;rw[Bc];rwa[z]
  rw[yt,beq_self_eq_true] at d;rwa[d]
def So{K:b6}{H:Hp}{ns:List Int}(n:Nat)(e:H a=Kh (.lst (ns.map V.int)))(c:H b=Kh (.lst (ns.map V.int))):Deep K H (n+1) (.ref a) (.ref b) true:=by
 by_cases ne:a=b
 ·subst ne;rwa[.same _ _]
 ·have d:=XJ (K:=K) n ne (SqL.of e) (SqL.of c);rw[y8 rfl] at d;rwa[d]
def WV{K:b6}{H:Hp}(n:Nat)(c:xA H as rows)(d:xA H bs rows):(as.map V.ref).length=(bs.map V.ref).length/\∀(j:Nat)(h1:j<(as.map V.ref).length)(h2:j<(bs.map V.ref).length),Deep K H (n+1) (as.map V.ref)[j] (bs.map V.ref)[j] true:=by
 erw[by rw[b5,b5,c.len,d.len],λj h1 h2=>?_];rw[b5] at h1 h2;have h3:j<rows.length:=by rw[<- c.len]; rwa[h1]
 rw[Bc,Bc];rwa[Xu n (c.at_ j _ _ (b8 h1) (b8 h3)) (d.at_ j _ _ (b8 h2) (b8 h3))]
def ZN{H m:Hp}(h:sU H D g i)(e:sU m D' g d):i.map (·.2)=d.map (·.2):=by
 erw[uniq (R:=leP) ((Fh h.nodup e.nodup).mpr λP=>(h.mem P).trans (e.mem P).symm) (λa l c j h1 h2=>Vp (jc ((h.mem a).mp l)) (jc ((h.mem c).mp j)) h1 h2) ?_ ?_]
 ·rw[BE]; rwa[h.rises]
 ·rw[BE]; rwa[e.rises]
def ZS{K:b6}{H:Hp}{d c:List SpT}(n:Nat)(e:d.map (·.2)=c.map (·.2))(h:∀ t∈d,Yx H t)(i:∀ t∈c,Yx H t):(yU d).length=(yU c).length/\∀(j:Nat)(h1:j<(yU d).length)(h2:j<(yU c).length),Deep K H (n+1) (yU d)[j] (yU c)[j] true:=by
 have l:d.length=c.length:=by have:=congrArg z9 e; (rw[b5,b5] at this;assumption)
 erw[by rw[yO,yO,l],λj h1 h2=>?_];rw[yO] at h1 h2;have p:(yU d)[j]'(by rw[yO]; rwa[h1])=.ref d[j].1:=by unfold yU; rw[Bc]
 have o:(yU c)[j]'(by rw[yO]; rwa[h2])=.ref c[j].1:=by unfold yU; rw[Bc]
 rw[p,o];have m:d[j].2=c[j].2:=by
  have:=congrArg (λl:List P3=>l[j]?) e;simp only[c7,b8 h1,b8 h2,AR,CD] at this;rwa[this]
 have q:=(h _ (r9 h1)).1;have g:=(i _ (r9 h2)).1;rw[<- m] at g;rwa[Xu (ns:=[d[j].2.1,d[j].2.2.1,d[j].2.2.2]) n q g]
def Yb(h:aM C c)(k:aM C d):c=d :=
 WU ((Fh h.nd k.nd).mpr λx=>(h.rows x).trans (k.rows x).symm) h.pw k.pw
structure Apt(rr L kn bk p ot p2 l2:b9):Prop where
 mk ::
 n1:bk≠ot
 n2:p≠p2
 n3:p≠l2
 r1:rr≠bk
 r2:rr≠p
 r3:rr≠ot
 r4:rr≠p2
 m1:L≠bk
 m2:L≠p
 m3:L≠ot
 m4:L≠p2
 k1:kn≠bk
 k2:kn≠p
 k3:kn≠ot
 k4:kn≠p2
def yk.samE{c:b9->Prop}{H g:Hp}(h:yk H as l)(s:vG c H g)(d:∀ a xs,H a=Kh (.tup xs)->¬ c a):yk g as l :=
 ⟨h.len,λj a e m i=>let ⟨v,h1,h2⟩:=h.at_ j a e m i;⟨v,s.tup (d _ _ h1) h1,h2.sam s d⟩⟩
def ic(c:nj D):SN D:=by cases D <;> first | exact trivial | exact c.elim
structure W43(H:Hp)(rr L kn bk p l ot p2 l2:b9)(rows:List Int)(xs:List V)(Ds:List Deed)(as:List b9)(no:List (Int×Deed))(S:BS)(past later:List (Deed×BS))(O:BS)(pastO:List (Deed×BS)):Prop where
 mk ::
 bas:Bas H rr L rows xs Ds
 ek:H kn=Kh (.lst (as.map V.ref))
 na:yk H as no
 bk:BkL bkC H bk p l S past later
 ot:BkL bkC H ot p2 l2 O pastO []
section
variable{H H1:Hp}{rr L kn bk p l ot p2 l2:b9}{rows:List Int}{xs:List V}{Ds:List Deed}{as:List b9}{no:List (Int×Deed)}{S O:BS}{past later pastO:List (Deed×BS)}
def W43.to(h:W43 H rr L kn bk p l ot p2 l2 rows xs Ds as no S past later O pastO)(s:Same H H1):W43 H1 rr L kn bk p l ot p2 l2 rows xs Ds as no S past later O pastO :=
 ⟨h.bas.to (.of s),s _ _ h.ek,h.na.to (.of s),h.bk.to (.of s),h.ot.to (.of s)⟩
def W43.book(h:W43 H rr L kn bk p l ot p2 l2 rows xs Ds as no S past later O pastO)(a:Apt rr L kn bk p ot p2 l2)(s:vG (Bp bk p) H H1)(k:BkL bkC H1 bk p i j e c):W43 H1 rr L kn bk p i ot p2 l2 rows xs Ds as no j e c O pastO:=by
 obtain⟨o,d,m,n,q⟩:=id h.bk;have g:=ZZ q.ob q.pa;rwa[h.bas.samE s (λz=>z.elim a.r1 a.r2) (λz=>z.elim a.m1 a.m2) g,s.lst (λz=>z.elim a.k1 a.k2) h.ek,h.na.samE s g,k,h.ot.other s q.ob q.pa a.n1.symm a.n2.symm a.n3.symm]
def W43.other(h:W43 H rr L kn bk p l ot p2 l2 rows xs Ds as no S past later O pastO)(a:Apt rr L kn bk p ot p2 j)(n:l≠p2)(s:vG (Bp ot p2) H H1)(k:BkL bkC H1 ot p2 e i c []):W43 H1 rr L kn bk p l ot p2 e rows xs Ds as no S past later i c:=by
 obtain⟨r,d,m,o,q⟩:=id h.ot;have g:=ZZ q.ob q.pa;rwa[h.bas.samE s (λz=>z.elim a.r3 a.r4) (λz=>z.elim a.m3 a.m4) g,s.lst (λz=>z.elim a.k3 a.k4) h.ek,h.na.samE s g,h.bk.other s q.ob q.pa a.n1 a.n2 n,k]
def W43.bookL(h:W43 H rr L kn bk p l ot p2 l2 rows xs Ds as no S past later O pastO)(a:Apt rr L kn bk p ot p2 l2)(n1:rr≠l)(n2:L≠l)(n3:kn≠l)(n4:p2≠l)(n:l2≠l)(s:vG (Bl bk p l) H H1)(k:BkL bkC H1 bk p l j g c):W43 H1 rr L kn bk p l ot p2 l2 rows xs Ds as no j g c O pastO:=by
 obtain⟨y,d,v,x,q⟩:=id h.bk;obtain⟨u,e,m,r,o⟩:=id h.ot;have i:=RN q.ob q.pa q.la;have nd:=SQ q.ob q.pa q.la;exists h.bas.samE s (λz=>z.elim a.r1 λz=>z.elim a.r2 n1) (λz=>z.elim a.m1 λz=>z.elim a.m2 n2) i,s.lst (λz=>z.elim a.k1 λz=>z.elim a.k2 n3) h.ek,h.na.samE s i,k,u,e,m,r;exact⟨s.ins (λz=>z.elim a.n1.symm λz=>z.elim (λz=>by have h:=(z ▸ o.ob:H p=_); rw[q.pa] at h; cases h) λz=>by have h:=(z ▸ o.ob:H l=_); rw[q.la] at h; cases h) o.ob,o.st.samE s nd i,s.lst (λz=>z.elim (λz=>by have:=(z ▸ o.pa:H bk=_); rw[q.ob] at this; cases this) λz=>z.elim a.n2.symm n4) o.pa,s.lst (λz=>z.elim (λz=>by have:=(z ▸ o.la:H bk=_); rw[q.ob] at this; cases this) λz=>z.elim a.n3.symm n) o.la,o.pp.samE s nd i,o.ll.samE s nd i,o.ne⟩
end
def cutA{ok:b9->Hp->Prop}{G:Prop}{R:b9->Hp->Prop}(h1:(∀ a H,ok a H->R a H)->G)(h2:∀ a H,ok a H->R a H):G:=h1 h2
def rS(S:BS)(G:List Int):BS:={ S with notes:=S.notes.filter λe=>decide (e.1 ∉ G) }
def aA(S:BS):rS S []=S:=by
 unfold rS;rw[List.filter_eq_self.mpr λe _=>y8 (Bv)]
def fe(S:BS)(G:List Int)(k:Int):aft (rS S G) (.strike k)=rS S (G++[k]):=by
 unfold rS;show({ S with notes:=_ } : BS)=_;rw[List.filter_filter]
 congr 1
 erw[FA λe _=>?_];rw[<- Bool.decide_and];erw[decide_eq_decide.mpr ?_];rw[i9,e9];rwa[λ⟨a,b⟩ c=>c.elim b a,λh=>⟨λz=>h (.inr z),λz=>h (.inl z)⟩]
def Xz{S:BS}{k:Int}(h:k∈S.notes.map (·.1))(n:k ∉ G):okD (rS S G) (.strike k):=by
 obtain⟨e,c,rfl⟩:=g9.mp h;rwa[g9.mpr ⟨e,Af.mpr ⟨c,y8 n⟩,rfl⟩]
def mz(gd:kT S):∀(n:Nat)(G:List Int),G.length=n->G.Nodup->(∀ k∈G,k∈S.notes.map (·.1))->kT (rS S G)
 | 0,G,h,_,_=>by rw[Bz.mp h,aA]; rwa[gd]
 | n+1,G,h,nd,m=>by
  rcases List.eq_nil_or_concat G with rfl | ⟨d,k,rfl⟩
  ·simp at h
  rw[List.concat_eq_append] at h nd m ⊢;rw[<- fe];have n2:=DV.mp nd;exact bi (mz gd n d (by rw[f8] at h; simpa using h) n2.1 λk c=>m k (Bg _ c)) (Xz (m k (t7 _ (e9.mpr rfl))) λz=>n2.2.2 k z k (e9.mpr rfl) rfl)
def XO{n:Int}{c:List Int} : inV (.int n) (c.map V.int)=decide (n∈c):=by
 unfold inV;rw[List.any_map];rw[C0,Ed,decide_eq_true_iff];constructor
 ·rintro⟨y,d,h⟩;rw[<- beq_iff_eq.mp (show(y == n)=Kj from h)];rwa[d]
 ·intro h;exact⟨n,h,show(n == n)=Kj from beq_self_eq_true n⟩
def ro:Deed->Bool
 | .mark .. | .sail ..=>Kj
 | _=>Kk
def YF:∀{e:List Deed}{M:List (j4×Int×Int)}{h:List (Int×Int)}{no:List (Int×Deed)}{k:Int},(∀ D∈e,nj D)->wD (stN M h no k) e->wD (stN M h [] 1) (e.filter ro)
 | [],_,_,_,_,_,_=>trivial
 | D::e,M,h,no,k,f,⟨ok,c⟩=>by
  have g:∀ D∈e,nj D:=λE i=>f E (.tail _ i);have j:=f D (.head _);cases D with
  | mark n x y =>
   rw[iJ] at c;rw[AU (by rfl)];rwa[ok,by rw[iJ]; exact YF g c]
  | sail x y =>
   rw[iZ] at c;rw[AU (by rfl)];rwa[ok,by rw[iZ]; exact YF g c]
  | bearing m n a b o d =>
   rw[vd] at c;rw[By (by simp[ro])];rwa[YF g c]
  | range m l r =>
   rw[md] at c;rw[By (by simp[ro])];rwa[YF g c]
  | _=>rwa[j.elim]
def gA : ∀{l:List Deed}{M:List (j4×Int×Int)}{e:List (Int×Int)}{no:List (Int×Deed)}{k:Int},(∀ n,zN (stN M e no k) n=zN S n)->e.length=S.runs.length->(∀ D∈l,sZ S D/\WM D)->no.length+l.length<=24->wD (stN M e no k) l
 | [],_,_,_,_,_,_,_,_=>trivial
 | D::l,M,e,no,k,i,g,h,p=>by
  rw[f9] at p;obtain⟨kn,o⟩:=h D (.head _);have ok:okD (stN M e no k) D:=VG kn o i g (by show no.length<24; lia);have j:∀ D∈l,sZ S D/\WM D:=λE q=>h E (.tail _ q);exists ok
  match D,kn with
  | .bearing m n a b c d,_ =>
   rw[vd];rwa[gA i g j (by rw[f8,As]; lia)]
  | .range m a b,_ =>
   rw[md];rwa[gA i g j (by rw[f8,As]; lia)]
def ah:∀{l:List Deed}{S:BS}{D:Deed},yM S (l++[D])=aft (yM S l) D
 | [],_,_=>rfl
 | E::l,S,D=>ah (l:=l) (S:=aft S E) (D:=D)
def jg:∀{l:List Deed}{S:BS}{D:Deed},wD S (l++[D])->okD (yM S l) D
 | [],_,_,h=>h.1
 | E::l,S,D,h=>jg (l:=l) (S:=aft S E) h.2
def bN:∀{Ds:List Deed},(∀ D∈Ds,nj D)->(Ds.filter ro).filterMap mkO=Ds.filterMap mkO/\(Ds.filter ro).filterMap slO=Ds.filterMap slO/\(Ds.filter ro).filter aQ=[]
 | [],_=>⟨rfl,rfl,rfl⟩
 | D::Ds,f=>by
  obtain⟨h1,h2,h3⟩:=bN (Ds:=Ds) λE e=>f E (.tail _ e);have g:=f D (.head _);cases D with
  | mark n x y=>rwa[congrArg ((n,x,y) :: ·) h1,h2,h3]
  | sail x y=>rwa[h1,congrArg ((x,y) :: ·) h2,h3]
  | bearing m n a b c d=>rwa[h1,h2,h3]
  | range m l r=>rwa[h1,h2,h3]
  | _=>rwa[g.elim]
def bH:∀(l:List Deed)(k:Int),(iz k l).map (·.2)=l
 | [],_=>rfl
 | D::l,k=>congrArg (D :: ·) (bH l (k+1))
def ag:∀{l:List Deed}{k:Int}{e:Int×Deed},e∈iz k l->k<=e.1/\e.1<k+l.length
 | D::l,k,e,h=>by
  rw[f9];rcases j5.mp h with rfl | z
  ·rwa[Ci _,by dsimp only; lia]
  ·have:=ag z;lia
def dB:∀{l:List Deed},(∀ D∈l,aQ D=Kj)->l.filterMap mkO=[]/\l.filterMap slO=[]/\l.filter aQ=l
 | [],_=>⟨rfl,rfl,rfl⟩
 | D::l,h=>by
  obtain⟨h1,h2,h3⟩:=dB (l:=l) λE e=>h E (.tail _ e);have g:=h D (.head _);cases D with
  | bearing m n a b c d=>rwa[h1,h2,congrArg (Deed.bearing m n a b c d :: ·) h3]
  | range m a b=>rwa[h1,h2,congrArg (Deed.range m a b :: ·) h3]
  | _=>cases g
def XG:∀(l:List Deed)(k:Int)(i:Nat),i<l.length->((iz k l).map (·.1))[i]?=Kh (k+i)
 | D::l,k,0,_=>by show Kh k=_; simp
 | D::l,k,i+1,h=>by
  show((iz (k+1) l).map (·.1))[i]?=_;rw[XG l (k+1) i (by simpa using h)]
  congr 1
  lia
def bC{c:List Sd}(er:c.map (·.2)=(mw S).map p3):∀ e∈S.notes,∀ r∈yL S 0 e.2,∃ t∈c,t.2=p3 r:=λe g r d=>by
 have m:p3 r∈c.map (·.2):=by
  rw[er];rwa[t5 (F0.mpr ⟨_,t5 (f:=λe:Int×Deed=>yL S 0 e.2) g,d⟩)]
 rwa[g9.mp m]
def sp_law(K:b6):Sp:=λc H Q _=>E2 λ(a:b9) (ns:List Int)=>A4 (c=[.ref a]) (SqL K H a (ns.map V.int)) (ns.length<=63) (∀ d,Q (.bl Kj) d)
def Qi(F:Fun K "law" "law" cK f fd)(Z:Zs mg)(CB:Cb P w mg base)(yAm:Has P w K mg base "book_choices" 9 ["book"] (rY K))(yAz:Has P w K mg base "book_clash" 10 ["book"] (yh K))(h_b_runs:jt P w K mg base lU 1 ["self"] (tz K))(yAl:Has P w K mg base "book_corners" 17 ["book","moment"] (rW K))(yAx:aD P w K mg base "note_sides" 7 ["book","moment"] (vD K))(h_b_notes:jt P w K mg base qk 1 ["self"] (wv K))(h_b_coming:jt P w K mg base qj 1 ["self"] (vn K))(h_b_deed:jt P w K mg base iF 5 ["self","row"] (lR K))(h_b_redo:jt P w K mg base cu 2 ["self"] (dq K))(h_b_undo:jt P w K mg base dN 2 ["self"] (dC K))(h_b_strike:jt P w K mg base mF 6 ["self","number"] (kD K))(h_b_init:jt P w K mg base cH 2 ["self"] (gS K))(yBb:Has P w K mg base "_law_some_deeds" 4 ["_law_some","_law_names_here"] (yb K))(yCg:Has P w K mg base "_law_names" 1 ["_law_some","_law_many"] (jJ K))(yCh:Has P w K mg base "_law_draws" 2 ["_law_script","_law_many"] (jB K)):yS P w K mg base CX0 18 f fd ["_law_script"] (sp_law K):=by
 specialize sI
 ·obtain⟨a,ns,rfl,_⟩:=h;rfl
 obtain⟨ad,ns,rfl,hS,hl,q⟩:=h;have hu64:=hr.units;have noD:∀{d p l:b9}{m:j4},m = "deed" \/ m = "notes" \/ m = "strike" \/ m = "undo" \/ m = "redo" \/ m = "coming" \/ m = "runs" ->(bkF d p l).lookup m=none:=λ{d p l m} e=>by rcases e with e | e | e | e | e | e | e <;> subst e <;> rwa[kN (by ac_nf) (by ac_nf) (by ac_nf)]
 refine'⟨_,(zB (zO 1 sI.nd ?_)
   (zB (zO 2 sI.nd ?_)
   (zB (zO 3 sI.nd (dF CB.make h_b_init (hr.mono (by decide)) CB.gBook))
   (zB (zO 4 sI.nd (dF CB.make h_b_init (hr.mono (by decide)) CB.gBook))
   (zB (xL m8 rfl (yQ (pv 2)) (wO 5 sI.nd) (zD (zV (qU CB.m_deed h_b_deed (hr.mono (by decide)) (pv 3) (zG (pv 5) zL)))))
   (zB (zO 6 sI.nd (xQ CB.m_notes h_b_notes (hr.mono (by decide)) (pv 3)))
   (zB (zO 7 sI.nd (yP (T:=["_law_number","_law_note"]) (caps:=[("_law_some",1)]) ⟨rfl,by ac_nf,by ac_nf,rfl,⟨⟨rfl,rfl,BD rfl⟩,x8⟩⟩ rfl (yQ (pv 6)) (λ_=>(qt rfl (xG (wO 0 (show(["_law_number","_law_note","_law_some"]:List j4).Nodup by ac_nf)) (xG (wO 1 (show(["_law_number","_law_note","_law_some"]:List j4).Nodup by ac_nf)) zt)))) (λ_=>(ur ?_)) (λ_=>(pv 0))))
   (zB (xJ ?_ (zD (zO 7 sI.nd (YO (pv 7) (yd ?_)))) zU)
   (zB (xL m8 rfl (yQ (pv 7)) (wO 8 sI.nd) (zD (zV (qU CB.m_strike h_b_strike (hr.mono (by decide)) (pv 3) (zG (pv 8) zL)))))
   (zB (xJ (PW.pt (Th (yK (Qm hr.units0) (pv 7) ?_ (vC _)) (YJ ?_))) (zB (zV (xQ CB.m_undo h_b_undo (hr.mono (by decide)) (pv 3)))
   (zD (zV (xQ CB.m_redo h_b_redo (hr.mono (by decide)) (pv 3))))) zU)
   (zB (zO 9 sI.nd (yP (T:=["_law_number","_law_note"]) (caps:=[("_law_gone",7)]) ⟨rfl,by ac_nf,by ac_nf,rfl,⟨⟨rfl,rfl,BD rfl⟩,x8⟩⟩ rfl (yQ (pv 6)) (λ_=>(qt rfl (xG (wO 0 (show(["_law_number","_law_note","_law_gone"]:List j4).Nodup by ac_nf)) (xG (wO 1 (show(["_law_number","_law_note","_law_gone"]:List j4).Nodup by ac_nf)) zt)))) (λ_=>(ur (yK gE (pv 0) (pv 2) (by with_unfolding_all rfl)))) (λ_=>(pv 0))))
   (zB (xL m8 rfl (ie (yP (T:=["_law_one"]) (caps:=[]) ⟨rfl,by ac_nf,by ac_nf,rfl,x8⟩ rfl (yQ (pv 2)) (λ_=>(wO 0 (show(["_law_one"]:List j4).Nodup by ac_nf))) (λ_=>(ur (yK mj ?_ ?_ (by with_unfolding_all rfl)))) (λ_=>(pv 0)))) (wO 5 sI.nd) (zD (zV (qU CB.m_deed h_b_deed (hr.mono (by decide)) (pv 4) (zG (pv 5) zL)))))
   (zB (xL m8 rfl (yQ (pv 6)) (qt rfl (xG (wO 8 sI.nd) (xG (wO 10 sI.nd) zt))) (zD (xJ (yK mj (pv 8) (pv 9) (by with_unfolding_all rfl)) (zD (zV (qU CB.m_deed h_b_deed (hr.mono (by decide)) (pv 4) (zG (pv 10) zL)))) zU)))
   (zB (xJ (PW.pt (cS (yK (bv hu64) (yP (T:=["_law_number","_law_note"]) (caps:=[]) ⟨rfl,by ac_nf,by ac_nf,rfl,x8⟩ rfl (yQ (xQ CB.m_notes h_b_notes (hr.mono (by decide)) (pv 3))) (λ_=>(qt rfl (xG (wO 0 (show(["_law_number","_law_note"]:List j4).Nodup by ac_nf)) (xG (wO 1 (show(["_law_number","_law_note"]:List j4).Nodup by ac_nf)) zt)))) (λ_=>yD) (λ_=>(pv 0))) (pv 9) (vC _)) (jO (yK SB (xQ CB.m_coming h_b_coming (hr.mono (by decide)) (pv 3)) ?_ (vC _))))) (zD (zM ff)) zU)
   (zB (xL m8 rfl (xC rfl Z.range (zG (tT aK (yH rC rfl Z.len sk (zG (xQ CB.m_runs h_b_runs (hr.mono (by decide)) (pv 3)) zL)) uX) zL)) (wO 11 sI.nd) (zB (xJ (yK (bv hu64) (wH (λ_=>E0) yAx yr (hr.mono (by decide)) rfl (zG (pv 3) (zG (pv 11) zL))) (wH (λ_=>E0) yAx yr (hr.mono (by decide)) rfl (zG (pv 4) (zG (pv 11) zL))) (vC _)) (zD (zM ff)) zU)
   (zD (xJ (yK (bv hu64) ?_ ?_ (vC _)) (zD (zM ff)) zU))))
   (zB (xJ ?_ (zD (zM ff)) zU)
   (zD (zM (rR (Qc hu64) ?_ (yP (T:=["_law_row"]) (caps:=[("_law_left",9)]) ⟨rfl,by ac_nf,by ac_nf,rfl,⟨⟨rfl,rfl,BD rfl⟩,x8⟩⟩ rfl (yQ ?_) (λ_=>(wO 0 (show(["_law_row","_law_left"]:List j4).Nodup by ac_nf))) (λ_=>yD) (λ_=>(yP (T:=["_law_at"]) (caps:=[("_law_left",1)]) ⟨rfl,by ac_nf,by ac_nf,rfl,⟨⟨rfl,rfl,BD rfl⟩,x8⟩⟩ rfl (yQ (pv 0)) (λ_=>(wO 0 (show(["_law_at","_law_left"]:List j4).Nodup by ac_nf))) (λ_=>yD) (λ_=>?_)))) (vC _)))))))))))))))))))),?_⟩
 nofun
 erw[_,rfl,ad,ns,96,rfl,hS,hl,by decide,by decide,λrr rows H1 s1 hr0 er1 l1 l2 bd=>?_];erw[_,rfl,_,rfl,rr,rows,5,rfl,SqL.of er1,(by lia),(by decide),bd,λR nms H2 s2 hR eR ln okn ndn=>?_];erw[rr,R,rows,nms,rfl,s2 _ _ er1,(by lia),bd,eR,ln,okn,ndn,λL xs r H3 s3 hL eL rp l14 ch l3 four sm mn=>?_];have B3:Bas H3 rr L rows xs r:=⟨s3 _ _ (s2 _ _ er1),eL,rp⟩;have lxs:xs.length=r.length:=by rw[rp.length,b5]
 clear s1 s2 s3 hr0 er1 hR eR hL eL rp;intro bk dx hb hdx nbd;erw[bk,dx,rfl,zA,λp l H4 s4 hp hl4 bk4=>⟨rfl,?_⟩];have s34:Same H3 (upd (upd H3 dx (.own bk)) bk (.ins bkC dx [])):=(zC hdx _).trans (zC (by rw[zH nbd.symm]; rwa[hb]) _);have nrb:rr≠bk:=zE B3.er hb;have nLb:L≠bk:=zE B3.eL hb;have nrp:rr≠p:=zE (s34 _ _ B3.er) hp;have nLp:L≠p:=zE (s34 _ _ B3.eL) hp;have B4:Bas H4 rr L rows xs r:=(B3.to (.of s34)).samE s4 nrb nLb λa xs h z=>by rw[z,zA] at h; cases h
 clear s4 s34 B3 hb hdx hp hl4 nbd;intro ot dy hb hdx nbd;obtain⟨dx4,d4,ps4,ls4,k4⟩:=id bk4;have s45:Same H4 (upd (upd H4 dy (.own ot)) ot (.ins bkC dy [])):=(zC hdx _).trans (zC (by rw[zH nbd.symm]; rwa[hb]) _);erw[ot,dy,rfl,zA,λp2 l2 H5 s5 hp2 hl2 ot5=>⟨rfl,?_⟩];have nro:rr≠ot:=zE B4.er hb;have nLo:L≠ot:=zE B4.eL hb;have nbo:bk≠ot:=zE k4.ob hb;have npo:p≠ot:=zE k4.pa hb;have nlo:l≠ot:=zE k4.la hb;have nr2:rr≠p2:=zE (s45 _ _ B4.er) hp2;have nL2:L≠p2:=zE (s45 _ _ B4.eL) hp2;have nb2:bk≠p2:=zE (s45 _ _ k4.ob) hp2;have npp:p≠p2:=zE (s45 _ _ k4.pa) hp2;have nlp:l≠p2:=zE (s45 _ _ k4.la) hp2;have npl:p≠l2:=zE (s45 _ _ k4.pa) hl2;have nll:l≠l2:=zE (s45 _ _ k4.la) hl2;have np0:∀ a xs,upd (upd H4 dy (.own ot)) ot (.ins bkC dy []) a=Kh (.tup xs)->¬ a=ot:=λa xs h z=>by rw[z,zA] at h; cases h
 have nd0:∀ a kvs,Rd (upd (upd H4 dy (.own ot)) ot (.ins bkC dy [])) a (.dK kvs)->¬ a=ot:=λa kvs h z=>by rcases h with h | ⟨_,h⟩ <;> · rw[z,zA] at h; cases h
 have B5:Bas H5 rr L rows xs r:=(B4.to (.of s45)).samE s5 nro nLo np0;have bk5:BkL bkC H5 bk p l BS.nil [] []:=by
  have k:=k4.to (.of s45);rwa[dx4,d4,ps4,ls4,s5.ins nbo k.ob,k.st.samE s5 nd0 np0,s5.lst npo k.pa,s5.lst nlo k.la,k.pp.samE s5 nd0 np0,k.ll.samE s5 nd0 np0,k.ne]
 clear s5 s45 B4 hb hdx hp2 hl2 nbd bk4 k4 np0 nd0;refine⟨_,U,L,U,.inl ⟨⟨_,SqL.of B5.eL⟩,xD (K:=K) (a:=L) (xs:=xs) (λi C N=>A4 (Bas N rr L rows xs r) (E2 λ(l:b9) (past:List (Deed×BS))=>A4 (BkL bkC N bk p l (yM BS.nil (r.take i)) past []) (past.length<=i) (l≠p2) (l≠l2)) (BkL bkC N ot p2 l2 BS.nil [] []) (∃ u:Option V,C=[Kh (.ref ad),Kh (.ref rr),Kh (.ref L),Kh (.ref bk),Kh (.ref ot),u,Ki,Ki,Ki,Ki,Ki,Ki]))
  ⟨B5,⟨l,[],bk5,f6 _,nlp,nll⟩,ot5,Ki,rfl⟩ (λi C N _ hq=>SqL.of hq.1.eL) ?_ ?_⟩⟩
 ·rintro i v C H6 hi ⟨B6,⟨l6,past,bk6,lp,nl6,nm6⟩,ot6,u,rfl⟩;have hil:i<r.length:=by rw[<- lxs]; exact(c6.mp hi).1
  have hD:r[i]?=Kh r[i]:=b8 hil;have f4:=four _ (r9 hil);generalize r[i]=D at hD f4;obtain⟨dt,g1,g2⟩:=B6.rp.back hi;rw[c7,hD] at g1;cases g1;have okd:=pW ch hD;have gd:=vO nU (yn (i:=i) ch);rw[ko hD];generalize yM BS.nil (r.take i)=S at bk6 okd gd;obtain⟨dx6,d6,ps6,ls6,k6⟩:=id bk6;erw[_,rfl,bk,dx6,_,rfl,k6.ob,noD (.inl rfl),_,rfl,bk,p,v,S,D,past,[],rfl,bk6.at,ic f4,g2,okd,gd.few,gd.fresh,(by lia),λl' H7 s7 hl' bk7=>?_];obtain⟨dx2,d2,ps2,ls2,k2⟩:=id ot6;exact⟨B6.samE s7 (λz=>z.elim nrb nrp) (λz=>z.elim nLb nLp) (ZZ k6.ob k6.pa),⟨l',_,bk7,by rw[f8]; simp only[f9,Ao]; lia,(λz=>by rw[z,k2.pa] at hl'; cases hl'),λz=>by rw[z,k2.la] at hl'; cases hl'⟩,ot6.other s7 k6.ob k6.pa nbo.symm npp.symm npl.symm,_,rfl⟩
 rintro C H6 ⟨B6,⟨l6,past,bk6,lp,nl6,nm6⟩,ot6,u5,rfl⟩;rw[lxs,i8] at bk6;clear B5 bk5 ot5;have gd:=vO nU ch;have eS:yM BS.nil r=stN (r.filterMap mkO) (r.filterMap slO) (iz 1 (r.filter aQ)) (1+(r.filter aQ).length):=by
  have:=parts r [] [] [] 1 four;show yM (stN [] [] [] 1) r=_;simpa using this
 generalize yM BS.nil r=S at bk6 gd eS sm;obtain⟨i6,hi6,sm⟩:=sm;have ln6:=sm.len;have num6:∀ e∈S.notes,1<=e.1/\e.1<=6:=λe X=>by
  have p1:=sm.pos e X;have p2:=gd.fresh e X;have p3:=sm.num;lia
 clear sm mn;obtain⟨dx6,d6,ps6,ls6,k6⟩:=id bk6;obtain⟨dy6,e6,qs6,ms6,o6⟩:=id ot6;refine⟨_,U,bk,dx6,_,U,k6.ob,noD (.inr (.inl rfl)),bk,p,S,past,[],U,bk6.at,gd.few,gd.rise,λkn as H7 s7 hkn ekn na=>?_⟩;have nkb:kn≠bk:=(zE k6.ob hkn).symm;have nkp:kn≠p:=(zE k6.pa hkn).symm;have nkl:kn≠l6:=(zE k6.la hkn).symm;have nko:kn≠ot:=(zE o6.ob hkn).symm;have nk2:kn≠p2:=(zE o6.pa hkn).symm;have w7:W43 H7 rr L kn bk p l6 ot p2 l2 rows xs r as S.notes S past [] BS.nil []:=⟨B6.to (.of s7),ekn,na,bk6.to (.of s7),ot6.to (.of s7)⟩;have las:as.length=S.notes.length:=na.len;have ap:Apt rr L kn bk p ot p2 l2:=⟨nbo,npp,npl,nrb,nrp,nro,nr2,nLb,nLp,nLo,nL2,nkb,nkp,nko,nk2⟩;clear s7 hkn ekn na B6 bk6 ot6 k6 o6;refine⟨_,U,kn,U,.inl ⟨⟨_,SqL.of w7.ek⟩,λcc D hD=>xx (K:=K) (a:=kn) (xs:=as.map V.ref) (λi C M N=>A4 (Same H7 N) (N D=Kh (.lst M)) (∃ G:List Int,M=G.map V.int/\G.Sublist ((S.notes.take i).map (·.1))) (E2 λ(u v:Option V)=>C=[u,v,Kh (.ref rr)]))
  ⟨zC hD _,zA,⟨[],rfl,Ih _⟩,Ki,Ki,rfl⟩ (λi C M N _ hq=>⟨SqL.of (hq.1 _ _ w7.ek),hq.2⟩) ?_ ?_⟩⟩
 ·rintro i x C M H8 hi ⟨s8,eD,⟨G,rfl,sub⟩,u,v,rfl⟩;rw[c7,j8] at hi;obtain⟨a,ha,rfl⟩:=hi;have hil:i<S.notes.length:=by rw[<- las]; exact(c6.mp ha).1
  have X:S.notes[i]?=Kh S.notes[i]:=b8 hil;generalize S.notes[i]=e at X;obtain⟨v,ea,_⟩:=w7.na.at_ i a e ha X;obtain⟨n1,n6⟩:=num6 e (f7 X);obtain⟨y,ay,_⟩:=wS bd (k:=83+e.1) (by lia) (by lia);have lG:G.length<=i:=g7 sub.length_le (by rw[b5,g8]; lia);have tk:(S.notes.take (i+1)).map (·.1)=(S.notes.take i).map (·.1)++[e.1]:=by rw[o3,X,d5]; rfl
  exists a,_,U,SqT.of (s8 _ _ ea),U,.int e.1,_,U,v,_,U,rfl;exists _,U,_,U,_,_,U,U,rr,_,_,_,U,U,.inl (SqL.of (s8 _ _ w7.bas.er)),ay,_,_,U,U,gt3,U,_,rfl;rw[tk];erw[ifE (λ_=>?_) (λ_=>?_)]
  ·rwa[_,rfl,eD,zJ (by rw[b5]; lia),s8.putNew hD,zA,⟨G++[e.1],by rw[d5]; rfl,sub.append (HG _)⟩,_,_,rfl]
  ·rwa[s8,eD,⟨G,rfl,sub.trans (DF _ _)⟩,_,_,rfl]
 rintro C M H8 ⟨s8,eD,⟨G,rfl,sub⟩,u1,v1,rfl⟩;rw[b5,las,i8] at sub;have w8:=w7.to s8;have ndS:(S.notes.map (·.1)).Nodup:=gd.rise.imp λh=>Int.ne_of_lt h;obtain⟨dx7,d7,ps7,ls7,k7⟩:=id w7.bk;obtain⟨dy7,e7,qs7,ms7,o7⟩:=id w7.ot;have nDp:D≠p:=(zE k7.pa hD).symm;have nD2:D≠p2:=(zE o7.pa hD).symm;have nDl:l6≠D:=zE k7.la hD;have memG:∀ k∈G,k∈S.notes.map (·.1):=λk hk=>sub.subset hk;have ndG:G.Nodup:=sub.nodup ndS;have lG:G.length<=6:=by have:=sub.length_le; rw[b5] at this; lia
 clear sub s8 w7 k7 o7 hD;obtain⟨v95,a95,_⟩:=wS bd (k:=95) (by decide) (by lia);apply cutA (ok:=λg H=>A5 (W43 H rr L kn bk p l6 ot p2 l2 rows xs r as S.notes S past [] BS.nil []) (g≠p) (g≠p2) (l6≠g) (∃ G:List Int,A4 (H g=Kh (.lst (G.map V.int))) G.Nodup (G.length<=6) (∀ k∈G,k∈S.notes.map (·.1))))
 ·intro main;exists _,U,rr,_,_,_,U,U,.inl (SqL.of w8.bas.er),a95,_,_,U,U,gt2,U,_,rfl;erw[ifE (λ_=>?_) (λ_=>?_)]
  ·erw[_,rfl,_,rfl,_,rfl,D,_,rfl,SqL.of eD,rfl,λg hg=>?_];rw[<- List.map_reverse];obtain⟨dx8,d8,ps8,ls8,k8⟩:=id w8.bk;obtain⟨dy8,e8,qs8,ms8,o8⟩:=id w8.ot;rwa[main g _ ⟨w8.to (zC hg _),(zE k8.pa hg).symm,(zE o8.pa hg).symm,zE k8.la hg,G.reverse,zA,(DY G).nodup_iff.mpr ndG,by rw[GW]; exact lG,λk hk=>memG k (List.mem_reverse.mp hk)⟩]
  ·rwa[main D H8 ⟨w8,nDp,nD2,nDl,G,eD,ndG,lG,memG⟩]
 clear w8 memG ndG eD nDp nD2 nDl lG;rintro g H9 ⟨w9,ngp,ng2,nlg,G,eg,ndG,lG,memG⟩;refine⟨_,U,g,U,.inl ⟨⟨_,SqL.of eg⟩,xD (K:=K) (a:=g) (xs:=G.map V.int) (λi C N=>A3 (N g=Kh (.lst (G.map V.int))) (E2 λ(l:b9) (J:List (Deed×BS))=>A6 (W43 N rr L kn bk p l ot p2 l2 rows xs r as S.notes (rS S (G.take i)) J [] BS.nil []) (J.length<=14+i) (l≠p2) (l≠l2) (l≠g) (0<i->∃ pre,J=pre++[(.strike (G.getD (i-1) 0),rS S (G.take (i-1)))])) (∃ u:Option V,C=[Kh (.ref ad),Kh (.ref rr),Kh (.ref L),Kh (.ref bk),Kh (.ref ot),u5,Kh (.ref kn),Kh (.ref g),u,Ki,Ki,Ki]))
  ⟨eg,⟨l6,past,by rw[List.take_zero,aA]; exact w9,by lia,nl6,nm6,nlg,λz=>x4 z (by lia)⟩,Ki,rfl⟩ (λi C N _ hq=>SqL.of hq.1) ?_ ?_⟩⟩
 ·rintro i x C H10 hi ⟨eg10,⟨l',J,w10,lp',nl2,nm2,nlg',_⟩,u,rfl⟩;rw[c7,j8] at hi;obtain⟨k,hk,rfl⟩:=hi;have mk:=memG k (f7 hk);have il:=(c6.mp hk).1;have tk:G.take (i+1)=G.take i++[k]:=by rw[o3,hk]; rfl
  have ndT:(G.take (i+1)).Nodup:=(Ft _ _).nodup ndG;rw[tk] at ndT;have nk:k ∉ G.take i:=λz=>(DV.mp ndT).2.2 k z k (e9.mpr rfl) rfl;have gd':=mz gd _ (G.take i) rfl ((Ft _ _).nodup ndG) λk hk=>memG k (Aj hk);obtain⟨dx10,d10,ps10,ls10,k10⟩:=id w10.bk;erw[_,rfl,bk,dx10,_,rfl,k10.ob,noD (.inr (.inr (.inl rfl))),_,rfl,bk,p,k,_,J,[],rfl,w10.bk.at,Xz mk nk,gd'.few,gd'.fresh,(by lia),λl'' H11 s11 hl'' bk11=>?_];rw[fe,<- tk] at bk11;obtain⟨dy10,e10,qs10,ms10,o10⟩:=id w10.ot;refine⟨s11.lst (λz=>z.elim (λz=>by rw[z,k10.ob] at eg10; cases eg10) ngp) eg10,⟨l'',_,w10.book ap s11 bk11,by rw[f8]; simp only[f9,Ao]; lia,(λz=>by rw[z,o10.pa] at hl''; cases hl''),(λz=>by rw[z,o10.la] at hl''; cases hl''),(λz=>by rw[z,eg10] at hl''; cases hl''),λ_=>⟨J,?_⟩⟩,_,rfl⟩;rw[Nat.add_sub_cancel,An,hk];rfl
 rintro C H10 ⟨eg10,⟨l7,J,w10,lp',nl2,nm2,nlg',ex⟩,u8,rfl⟩;rw[b5,i8] at w10;rw[b5] at ex lp';clear w9 eg;apply Qt (ok:=λH=>H g=Kh (.lst (G.map V.int))/\E2 λ(l:b9) (J:List (Deed×BS))=>A3 (W43 H rr L kn bk p l ot p2 l2 rows xs r as S.notes (rS S G) J [] BS.nil []) (J.length<=20) (l≠p2))
 ·intro main;erw[_,rfl,sz0,λe X=>?_];have sE:=zC X (.lst []);have w11:=w10.to sE;have eg11:=sE _ _ eg10;exists g,e,_,U,U,SqL.of eg11,SqL.of zA,_,rfl;generalize upd H10 e (.lst [])=H11 at sE w11 eg11 ⊢;clear sE X;erw[ifNB (λhne=>?_) (λ_=>?_)]
  ·have pG:0<G.length:=by
    cases h:G with
    | nil=>rw[h] at hne; cases hne
    | cons=>simp
   obtain⟨k0,hk0⟩:=Eo pG;exists _,U,rr,_,_,_,U,U,.inl (SqL.of w11.bas.er),a95,_,_,U,U,qa.of (by decide) (by ac_nf),_,_,U,U,gt2,U,_,rfl;erw[ifE (λ_=>?_) (λ_=>?_)];rotate_left
   ·rwa[main H11 ⟨eg11,l7,J,w11,by lia,nl2⟩]
   obtain⟨pre,ep⟩:=ex pG;subst ep;rw[f8] at lp';simp only[f9,Ao] at lp';obtain⟨dx11,d11,ps11,ls11,k11⟩:=id w11.bk;have ll0:ls11=[]:=k11.ll;have nrl:rr≠l7:=λz=>by
    have:=w11.bas.er;rw[z,k11.la,ll0] at this;cases rows with
    | nil=>simp at l1
    | cons=>cases this
   have neS:S.notes≠[]:=λz=>by
    have:=memG k0 hk0;rw[z] at this;cases this
   have nkl':kn≠l7:=λz=>by
    have:=w11.ek;rw[z,k11.la,ll0] at this;cases as with
    | nil=>rwa[neS (Bz.mp las.symm)]
    | cons=>cases this
   have nLl:L≠l7:=λz=>by
    have:=w11.bas.eL;rw[z,k11.la,ll0] at this;cases xs with
    | nil =>
     have:r=[]:=Bz.mp lxs.symm;rw[eS,this] at neS;rwa[neS rfl]
    | cons=>cases this
   erw[_,rfl,bk,dx11,_,rfl,k11.ob,noD (.inr (.inr (.inr (.inl rfl)))),bk,p,l7,rS S G,_,_,pre,[],rfl,w11.bk,t9 _,by lia,λv H12 s12 bk12 rep=>?_];have w12:=w11.bookL ap nrl nLl nkl' nl2.symm nm2.symm s12 bk12;have eg12:=s12.lst (λz=>z.elim (λz=>by rw[z,k11.ob] at eg11; cases eg11) λz=>z.elim ngp nlg'.symm) eg11;obtain⟨dx12,d12,ps12,ls12,k12⟩:=id w12.bk;erw[_,rfl,bk,dx12,_,rfl,k12.ob,noD (.inr (.inr (.inr (.inr (.inl rfl))))),bk,p,l7,_,rS S G,_,pre,[],rfl,w12.bk,t9 _,by lia,λv' H13 s13 bk13 rep'=>?_];exact main H13 ⟨s13.lst (λz=>z.elim (λz=>by rw[z,k12.ob] at eg12; cases eg12) λz=>z.elim ngp nlg'.symm) eg12,l7,_,w12.bookL ap nrl nLl nkl' nl2.symm nm2.symm s13 bk13,by rw[f8]; simp only[f9,Ao]; lia,nl2⟩
  ·rwa[main H11 ⟨eg11,l7,J,w11,by lia,nl2⟩]
 clear w10 eg10 ex lp' nl2 nm2 nlg';rintro H12 ⟨eg12,l8,I,w12,lp8,nl8⟩;refine⟨_,U,kn,U,.inl ⟨⟨_,SqL.of w12.ek⟩,λcc D hD=>xx (K:=K) (a:=kn) (xs:=as.map V.ref) (λi C M N=>A4 (Same H12 N) (N D=Kh (.lst M)) (M=(((S.notes.take i).filter λe=>decide (e.1 ∉ G)).map (·.1)).map V.int) (E2 λ(u v:Option V)=>C=[u,v,Kh (.ref g)]))
  ⟨zC hD _,zA,rfl,Ki,Ki,rfl⟩ (λi C M N _ hq=>⟨SqL.of (hq.1 _ _ w12.ek),hq.2⟩) ?_ ?_⟩⟩
 ·rintro i x C M H13 hi ⟨s13,eD,rfl,u,v,rfl⟩;rw[c7,j8] at hi;obtain⟨a,ha,rfl⟩:=hi;have hil:i<S.notes.length:=by rw[<- las]; exact(c6.mp ha).1
  have X:S.notes[i]?=Kh S.notes[i]:=b8 hil;generalize S.notes[i]=e at X;obtain⟨v,ea,_⟩:=w12.na.at_ i a e ha X;have lz:((((S.notes.take i).filter λe=>decide (e.1 ∉ G)).map (·.1)).map V.int).length<=i:=by
   rw[b5,b5];rwa[g7 (At _ _) (by rw[g8]; lia)]
  exists a,_,U,SqT.of (s13 _ _ ea),U,.int e.1,_,U,v,_,U,rfl;exists _,U,_,U,g,_,U,.inl (SqL.of (s13 _ _ eg12)),U,by rw[DZ]; exact AG.mpr λ_ _=>rfl,_,rfl;show if (!inV (V.int e.1) (G.map V.int))=Kj then _ else _
  rw[XO,o3,X,Cr];erw[ifN (λh=>?_) (λh=>?_)]
  ·erw[_,rfl,eD,zJ (by lia),s13.putNew hD,zA,?_,_,_,rfl];rw[show(GN e).toList=[e] from rfl,AU (by rwa[y8 h]),Ew,d5,d5];rfl
  ·erw[s13,eD,?_,_,_,rfl];rw[show(GN e).toList=[e] from rfl,By (by rw[y9 (λz=>z h)]; simp),Ew,AJ]
 rintro C M H13 ⟨s13,elf,rfl,u2,v2,rfl⟩
 rename b9=>lf
 rw[b5,las,i8] at elf;have w13:=w12.to s13;have hlf12:=hD;obtain⟨dx12,d12,ps12,ls12,k12⟩:=id w12.bk;obtain⟨dy12,e12,qs12,ms12,o12⟩:=id w12.ot;have nfp:lf≠p2:=(zE o12.pa hD).symm;clear hD s13 w12 k12 o12 eg12 hlf12;refine⟨_,U,L,U,.inl ⟨⟨_,SqL.of w13.bas.eL⟩,λcc qn hqn=>xx (K:=K) (a:=L) (xs:=xs) (λi C M N=>A4 (Same H13 N) (N qn=Kh (.lst M)) (wB N (((r.take i).filter ro).map Deed.dt) M) (∃ u:Option V,C=[u]))
  ⟨zC hqn _,zA,yI.mpr rfl,Ki,rfl⟩ (λi C M N _ hq=>⟨SqL.of (hq.1 _ _ w13.bas.eL),hq.2⟩) ?_ ?_⟩⟩
 ·rintro i v C M H14 hi ⟨s14,eD,rz,u,rfl⟩;have hil:i<r.length:=by rw[<- lxs]; exact(c6.mp hi).1
  have hE:r[i]?=Kh r[i]:=b8 hil;have f4:=four _ (r9 hil);generalize r[i]=E at hE f4;obtain⟨dt,g1,g2⟩:=w13.bas.rp.back hi;rw[c7,hE] at g1;cases g1;have g14:=g2.to (.of s14);rw[o3,hE];have lz:M.length<=14:=by rw[rz.length,b5]; rwa[g7 (At _ _) (by rw[g8]; lia)]
  obtain⟨t,vs,rfl,ht⟩:=RP g14;refine⟨_,U,t,_,0,.str (TW E),U,U,.inr (SqT.of ht),vF (xs:=.str (TW E)::vs) (j:=0) rfl,sz2,λz hz=>?_⟩;have sz:=zC hz (.tup [.str "mark",.str "sail"]);have eD':=sz _ _ eD;have s15:=s14.trans sz;have rz':=rz.to (.of sz);have g15:=g14.to (.of sz);have ez:upd H14 z (.tup [.str "mark",.str "sail"]) z=Kh (.tup [.str "mark",.str "sail"]):=zA;generalize upd H14 z (.tup [.str "mark",.str "sail"])=H15 at eD' s15 rz' g15 ez ⊢;exists z,_,U,.inr (SqT.of ez),U,U,_,rfl;have yes:ro E=Kj->(A4 (Same H13 (upd H15 qn (.lst (M++[.ref t])))) (upd H15 qn (.lst (M++[.ref t])) qn=Kh (.lst (M++[.ref t]))) (wB (upd H15 qn (.lst (M++[.ref t]))) ((GO ro (r.take i++(Kh E).toList)).map Deed.dt) (M++[.ref t])) (∃ u:Option V,[Kh (V.ref t)]=[u])):=λhN=>by
   erw[s15.putNew hqn,zA,?_,_,rfl];rw[Cr,d5];have su:vG (λz=>z=qn) H15 (upd H15 qn (.lst (M++[.ref t]))):=λz o n e=>.inl (by rw[zH n]; rwa[e]);have npn:∀ a xs,H15 a=Kh (.tup xs)->¬ a=qn:=tN eD';rw[show GO ro (Kh E).toList=[E] by simp[hN]];exact(rz'.sam su npn).app (.one (g15.sam su npn))
  have no:ro E=Kk->(A4 (Same H13 H15) (H15 qn=Kh (.lst M)) (wB H15 ((GO ro (r.take i++(Kh E).toList)).map Deed.dt) M) (∃ u:Option V,[Kh (V.ref t)]=[u])):=λhN=>by
   erw[s15,eD',?_,_,rfl];rw[Cr,show GO ro (Kh E).toList=[] by simp[hN],AJ];rwa[rz']
  match E,f4,yes,no with
  | .mark _ _ _,_,yes,_=>rwa[dI ⟨_,rfl,eD',zJ (by lia),yes rfl⟩]
  | .sail _ _,_,yes,_=>rwa[dI ⟨_,rfl,eD',zJ (by lia),yes rfl⟩]
  | .bearing _ _ _ _ _ _,_,_,no=>rwa[vf (no rfl)]
  | .range _ _ _,_,_,no=>rwa[vf (no rfl)]
 rintro C M H14 ⟨s14,eqn,rz,u14,rfl⟩;rw[lxs,i8] at rz;have w14:=w13.to s14;have elf14:=s14 _ _ elf;have msc:=YF four (show wD (stN [] [] [] 1) r from ch);have fms:∀ D∈r.filter ro,nj D:=λD hD=>four D (Af.mp hD).1;have lms:(r.filter ro).length<=14:=g7 (At _ _) l14;have lzs:M.length=(r.filter ro).length:=by rw[rz.length,b5]
 obtain⟨dy13,e13,qs13,ms13,o13⟩:=id w13.ot;have nqp:qn≠p2:=(zE o13.pa hqn).symm;clear s14 w13 elf o13 hqn;refine⟨qn,U,⟨_,SqL.of eqn⟩,xD (K:=K) (a:=qn) (xs:=M) (λi C N=>A5 (N qn=Kh (.lst M)) (N lf=Kh (.lst (((rS S G).notes.map (·.1)).map V.int))) (wB N ((r.filter ro).map Deed.dt) M) (E2 λ(l2':b9) (po:List (Deed×BS))=>W43 N rr L kn bk p l8 ot p2 l2' rows xs r as S.notes (rS S G) I [] (yM BS.nil ((r.filter ro).take i)) po/\po.length<=i) (∃ u:Option V,C=[Kh (.ref ad),Kh (.ref rr),Kh (.ref L),Kh (.ref bk),Kh (.ref ot),u,Kh (.ref kn),Kh (.ref g),u8,Kh (.ref lf),Ki,Ki]))
  ⟨eqn,elf14,rz,⟨l2,[],w14,f6 _⟩,_,rfl⟩ (λi C N _ hq=>SqL.of hq.1) ?_ ?_⟩
 ·rintro i v C H15 hi ⟨eq15,el15,rz15,⟨l2',po,w15,lpo⟩,u,rfl⟩;have hil:i<(r.filter ro).length:=by rw[<- lzs]; exact(c6.mp hi).1
  have hE:(r.filter ro)[i]?=Kh (r.filter ro)[i]:=b8 hil;have f4:=fms _ (r9 hil);generalize (r.filter ro)[i]=E at hE f4;obtain⟨dt,g1,g2⟩:=rz15.back hi;rw[c7,hE] at g1;cases g1;have okd:=pW msc hE;have gdo:=vO nU (yn (i:=i) msc);rw[ko hE];rw[show stN [] [] [] 1=BS.nil from rfl] at okd;generalize yM BS.nil ((r.filter ro).take i)=O at w15 okd gdo;obtain⟨dy,e,qs,ms,o⟩:=id w15.ot;erw[_,rfl,ot,dy,_,rfl,o.ob,noD (.inl rfl),_,rfl,ot,p2,v,O,E,po,[],rfl,w15.ot.at,ic f4,g2,okd,gdo.few,gdo.fresh,(by lia),λl' H16 s16 hl' ot16=>?_];have no2:∀{a:b9}{M:List V},H15 a=Kh (.lst M)->a≠p2->¬ Bp ot p2 a:=λe n z=>z.elim (λz=>by rw[z,o.ob] at e; cases e) n;rwa[s16.lst (no2 eq15 nqp) eq15,s16.lst (no2 el15 nfp) el15,rz15.sam s16 (ZZ o.ob o.pa),⟨l',_,w15.other ap nl8 s16 ot16,by rw[f8]; simp only[f9,Ao]; lia⟩,_,rfl]
 rintro C H15 ⟨eq15,el15,rz15,⟨l3',po,w15,lpo⟩,u15,rfl⟩;rw[lzs,i8] at w15;clear eqn eq15 rz15 rz w14 elf14;have eO:yM BS.nil (r.filter ro)=stN (r.filterMap mkO) (r.filterMap slO) [] 1:=by
  have h:=parts (r.filter ro) [] [] [] 1 fms;obtain⟨h1,h2,h3⟩:=bN four;rw[h1,h2,h3] at h;rwa[h]
 have gd0:=vO nU msc;rw[show yM BS.nil (r.filter ro)=yM (stN [] [] [] 1) (r.filter ro) from rfl] at eO;rw[show yM BS.nil (r.filter ro)=yM (stN [] [] [] 1) (r.filter ro) from rfl,eO] at w15 gd0;have hmk:∀ n,zN (stN (r.filterMap mkO) (r.filterMap slO) [] 1) n=zN S n:=λn=>by rw[eS]; rfl
 have hrn:(r.filterMap slO).length=S.runs.length:=by rw[eS]; rfl
 have inD:∀ e∈S.notes,e.2∈r:=λe X=>by
  rw[eS] at X;exact(Af.mp (iU X)).1
 have kcF:∀ l:List (Int×Deed),(∀ e∈l,e∈S.notes)->l.length<=24->wD (stN (r.filterMap mkO) (r.filterMap slO) [] 1) (l.map (·.2)):=λl hl h24 =>
  gA (S:=S) hmk hrn (λD hD=>by
   obtain⟨e,X,rfl⟩:=g9.mp hD;rwa[gd.note e (hl e X),jm ch _ (inD e (hl e X))]) (by rw[b5]; simpa using h24)
 have inL:∀ e∈S.notes,e.1∈(rS S G).notes.map (·.1)↔e.1 ∉ G:=λe X=>by
  constructor
  ·intro h;obtain⟨e',he',q⟩:=g9.mp h;rw[<- q];rwa[of_decide_eq_true (Af.mp he').2]
  ·intro h;rwa[g9.mpr ⟨e,Af.mpr ⟨X,y8 h⟩,rfl⟩]
 refine⟨_,U,kn,U,.inl ⟨⟨_,SqL.of w15.ek⟩,xD (K:=K) (a:=kn) (xs:=as.map V.ref) (λi C N=>A3 (N lf=Kh (.lst (((rS S G).notes.map (·.1)).map V.int))) (E2 λ(l2':b9) (po:List (Deed×BS))=>W43 N rr L kn bk p l8 ot p2 l2' rows xs r as S.notes (rS S G) I [] (yM (stN (r.filterMap mkO) (r.filterMap slO) [] 1) (((S.notes.take i).filter λe=>decide (e.1 ∉ G)).map (·.2))) po/\po.length<=14+i) (E3 λ(u v w:Option V)=>C=[Kh (.ref ad),Kh (.ref rr),Kh (.ref L),Kh (.ref bk),Kh (.ref ot),u,Kh (.ref kn),Kh (.ref g),v,Kh (.ref lf),w,Ki]))
  ⟨el15,⟨l3',po,w15,by lia⟩,_,_,_,rfl⟩ (λi C N _ hq=>by
   obtain⟨_,⟨_,_,w,_⟩,_⟩:=hq;rwa[SqL.of w.ek]) ?_ ?_⟩⟩
 ·rintro i x C H16 hi ⟨el16,⟨l2',po',w16,lpo'⟩,u,v,w,rfl⟩;rw[c7,j8] at hi;obtain⟨a,ha,rfl⟩:=hi;have hil:i<S.notes.length:=by rw[<- las]; exact(c6.mp ha).1
  have X:S.notes[i]?=Kh S.notes[i]:=b8 hil;generalize S.notes[i]=e at X;have me:=f7 X;obtain⟨nv,ea,rep⟩:=w16.na.at_ i a e ha X;exists a,_,U,SqT.of ea,U,.int e.1,_,U,nv,_,U,rfl;exists _,U,_,U,lf,_,U,.inl (SqL.of el16),U,by rw[DZ]; exact AG.mpr λ_ _=>rfl,_,rfl;show if inV (V.int e.1) (((rS S G).notes.map (·.1)).map V.int)=Kj then _ else _
  rw[XO,decide_eq_decide.mpr (inL e me),o3,X,Cr];erw[ifD (λh=>?_) (λh=>?_)];rotate_left
  ·rw[show(GN e).toList=[e] from rfl,By (by rw[y9 h]; simp),Ew,AJ];rwa[el16,⟨l2',po',w16,by lia⟩,_,_,_,rfl]
  rw[show(GN e).toList=[e] from rfl,AU (by exact y8 h),Ew,d5];have kc1:=kcF ((S.notes.take i).filter (λe=>decide (e.1 ∉ G))++[e]) (λx hx=>by
   rcases i9.mp hx with z | z
   ·rwa[Aj (Af.mp z).1]
   ·rw[e9.mp z]; rwa[me]) (by
   rw[f8];have:=At (λe:Int×Deed=>decide (e.1 ∉ G)) (S.notes.take i);rw[g8] at this;simp only[f9,Ao];lia)
  have kc0:=kcF ((S.notes.take i).filter (λe=>decide (e.1 ∉ G))) (λx hx=>Aj (Af.mp hx).1) (by
   have:=At (λe:Int×Deed=>decide (e.1 ∉ G)) (S.notes.take i);rw[g8] at this;lia)
  rw[d5] at kc1;have okd:=jg kc1;have gdo:=vO gd0 kc0;rw[show [e].map (·.2)=[e.2] from rfl,ah];generalize yM (stN (r.filterMap mkO) (r.filterMap slO) [] 1) (((S.notes.take i).filter λe=>decide (e.1 ∉ G)).map (·.2))=O at w16 okd gdo;obtain⟨dy,e',qs,ms,o⟩:=id w16.ot;erw[_,rfl,ot,dy,_,rfl,o.ob,noD (.inl rfl),_,rfl,ot,p2,nv,O,e.2,po',[],rfl,w16.ot.at,ic (four _ (inD e me)),rep,okd,gdo.few,gdo.fresh,(by lia),λl' H17 s17 hl' ot17=>?_];exact⟨s17.lst (λz=>z.elim (λz=>by rw[z,o.ob] at el16; cases el16) nfp) el16,⟨l',_,w16.other ap nl8 s17 ot17,by rw[f8]; simp only[f9,Ao]; lia⟩,_,_,_,rfl⟩
 rintro C H16 ⟨el16,⟨l2',po',w16,lpo'⟩,u16,v16,x16,rfl⟩;rw[b5,las,i8] at w16;clear w15 el15;have gd1:=mz gd _ G rfl ndG memG;have kcA:=kcF (rS S G).notes (λe X=>(Af.mp X).1) (by have:=At (λe:Int×Deed=>decide (e.1 ∉ G)) S.notes; show(S.notes.filter _).length<=24; lia);have gdO:=vO gd0 kcA;have n6':(rS S G).notes.length<=6:=by have:=At (λe:Int×Deed=>decide (e.1 ∉ G)) S.notes; show(S.notes.filter _).length<=6; lia
 have eO1:yM (stN (r.filterMap mkO) (r.filterMap slO) [] 1) ((rS S G).notes.map (·.2))=stN (r.filterMap mkO) (r.filterMap slO) (iz 1 ((rS S G).notes.map (·.2))) (1+((rS S G).notes.map (·.2)).length):=by
  have nt:∀ D∈(rS S G).notes.map (·.2),aQ D=true:=λD hD=>by
   obtain⟨e,X,rfl⟩:=g9.mp hD;have:=(Af.mp X).1;rw[eS] at this;exact(Af.mp (iU this)).2
  have h:=parts ((rS S G).notes.map (·.2)) (r.filterMap mkO) (r.filterMap slO) [] 1 λD hD=>by
   obtain⟨e,X,rfl⟩:=g9.mp hD;rwa[four _ (inD e (Af.mp X).1)]
  obtain⟨h1,h2,h3⟩:=dB nt;rw[h1,h2,h3,AJ,AJ] at h;rwa[h]
 have w16:W43 H16 rr L kn bk p l8 ot p2 l2' rows xs r as S.notes (rS S G) I [] (yM (stN (r.filterMap mkO) (r.filterMap slO) [] 1) ((rS S G).notes.map (·.2))) po':=w16;rw[eO1] at w16 gdO;have mkS:(rS S G).marks=r.filterMap mkO:=by show S.marks=_; rw[eS]; rfl
 have run3:(stN (r.filterMap mkO) (r.filterMap slO) (iz 1 ((rS S G).notes.map (·.2))) (1+((rS S G).notes.map (·.2)).length)).runs=(rS S G).runs:=by show r.filterMap slO=S.runs; rw[eS]; rfl
 have hmk3:∀ n,zN (stN (r.filterMap mkO) (r.filterMap slO) (iz 1 ((rS S G).notes.map (·.2))) (1+((rS S G).notes.map (·.2)).length)) n=zN (rS S G) n:=λn=>by rw[show zN (rS S G) n=zN S n from rfl,eS]; rfl
 have not3:(stN (r.filterMap mkO) (r.filterMap slO) (iz 1 ((rS S G).notes.map (·.2))) (1+((rS S G).notes.map (·.2)).length)).notes=iz 1 ((rS S G).notes.map (·.2)):=rfl;have com1:(rS S G).coming=1+(S.notes.length:Int):=by show S.coming=_; rw[eS]; show 1+((r.filter aQ).length:Int)=1+((iz 1 (r.filter aQ)).length:Int); rw[ig]
 generalize stN (r.filterMap mkO) (r.filterMap slO) (iz 1 ((rS S G).notes.map (·.2))) (1+((rS S G).notes.map (·.2)).length)=O at w16 gdO run3 hmk3 not3;have num1:∀ e∈(rS S G).notes,1<=e.1/\e.1<=6:=λe X=>num6 e (Af.mp X).1;clear eO1 kcA kcF hmk hrn inD inL gd0 eO mkS;generalize hS1:rS S G=Y at *;clear hS1;obtain⟨dx16,d16,ps16,ls16,k16⟩:=id w16.bk;refine⟨_,U,bk,dx16,_,U,k16.ob,noD (.inr (.inl rfl)),bk,p,Y,I,[],U,w16.bk.at,gd1.few,gd1.rise,λc as1 H17 s17 hc ec na1=>?_⟩;have w17:=w16.to s17;have el17:=s17 _ _ el16;refine⟨c,U,.inl ⟨⟨_,SqL.of ec⟩,λcc D hD=>yG (K:=K) (a:=c) (xs:=as1.map V.ref) (λi C M N=>A4 (Same H17 N) (N D=Kh (.lst M)) (M=((Y.notes.take i).map (·.1)).map V.int) (E2 λ(u v:Option V)=>C=[u,v]))
  ⟨zC hD _,zA,rfl,Ki,Ki,rfl⟩ (λi C M N _ hq=>⟨SqL.of (hq.1 _ _ ec),hq.2⟩) ?_ ?_⟩⟩
 ·rintro i x C M H18 hi ⟨s18,eD,rfl,u,v,rfl⟩;rw[c7,j8] at hi;obtain⟨a,ha,rfl⟩:=hi;have hil:i<Y.notes.length:=by rw[<- na1.len]; exact(c6.mp ha).1
  have X:Y.notes[i]?=Kh Y.notes[i]:=b8 hil;generalize Y.notes[i]=e at X;obtain⟨nv,ea,_⟩:=na1.at_ i a e ha X;exists a,_,U,SqT.of (s18 _ _ ea),U,.int e.1,_,U,nv,_,U,rfl;erw[_,rfl,eD,zJ (by rw[b5,b5,g8]; lia),s18.putNew hD,zA,?_,_,_,rfl];rw[o3,X,d5,d5];rfl
 rintro C M H18 ⟨s18,eD,rfl,u,v,rfl⟩;rw[b5,na1.len,i8] at eD;have w18:=w17.to s18;have el18:=s18 _ _ el17;erw[_,rfl,D,lf,_,_,rfl,rfl,SqL.of eD,SqL.of el18,rfl,λj h1 h2=>?_,_,rfl,?_]
 ·simp only[Bc];have:=Deep.int (K:=K) (H:=H18) 8 (Y.notes[j]'(by simpa using h1)).1 (Y.notes[j]'(by simpa using h1)).1;rw[beq_self_eq_true] at this;rwa[this]
 refine vf ?_;obtain⟨dx18,d18,ps18,ls18,k18⟩:=id w18.bk;exists _,U,bk,dx18,_,U,k18.ob,noD (.inr (.inr (.inr (.inr (.inr (.inl rfl)))))),bk,p,Y,I,[],U,w18.bk.at,_,U,kn,_,U,.inl (SqL.of w18.ek),_,_,U,U,U,_,rfl;refine Ou (λz=>x4 (by rw[com1,b5,las]; lia) z) (λ_=>?_);clear eD s18 s17 hc ec na1 w16 w17 el16 el17 hD k18 k16;have eG:∀ j:Nat,(O.notes.map λe=>yL O j e.2)=Y.notes.map λe=>yL Y j e.2:=λj=>by
  have h1:(O.notes.map λe=>yL O j e.2)=(O.notes.map (·.2)).map λD=>yL Y j D:=by
   rw[Ag];rwa[Dy λe _=>Ua hmk3 run3]
  rw[h1,not3,bH,Ag];rfl
 have n24:Y.notes.length<=24:=by lia
 have lO:O.notes.length=Y.notes.length:=by rw[not3,ig,b5]
 obtain⟨dx18,d18,ps18,ls18,k18⟩:=id w18.bk;erw[_,rfl,bk,dx18,_,rfl,k18.ob,noD (.inr (.inr (.inr (.inr (.inr (.inr rfl)))))),bk,p,Y,I,[],rfl,w18.bk.at,gd1.few,λc2 rs H19 s19 hc2 ec2 rep=>?_];have lrs:rs.length=Y.runs.length:=by rw[rep.length,b5]
 have few1:=gd1.few.ru;have w19:=w18.to s19;have el19:=s19 _ _ el18;clear w18 el18 k18 hc2 s19 rep;refine⟨c2,rs,U,.inl (SqL.of ec2),_,_,U,U,_,U,(by lia),(by lia),wC (lo:=0) (n:=((rs.length:Int)+1).toNat) (λi C N=>A3 (W43 N rr L kn bk p l8 ot p2 l2' rows xs r as S.notes Y I [] O po') (N lf=Kh (.lst ((Y.notes.map (·.1)).map V.int))) (∃ u:Option V,C=[Kh (.ref ad),Kh (.ref rr),Kh (.ref L),Kh (.ref bk),Kh (.ref ot),u16,Kh (.ref kn),Kh (.ref g),v16,Kh (.ref lf),x16,u]))
  ⟨w19,el19,Ki,rfl⟩ ?_ ?_⟩
 ·clear w19 el19;rintro i C H20 hi ⟨w20,el20,u,rfl⟩;rw[Aw];have hj:i<=Y.runs.length:=by lia
  have hj3:i<=O.runs.length:=by rw[run3]; rwa[hj]
  erw[_,rfl,_,rfl,.inl ⟨bk,p,Y,I,[],i,rfl,w20.bk.at,gd1,hj,λl as' H21 s21 hl el ta=>?_⟩];have w21:=w20.to s21;erw[_,rfl,_,rfl,.inl ⟨ot,p2,O,po',[],i,rfl,w21.ot.at,gdO,hj3,λl' as'' H22 s22 hl' el' ta'=>?_⟩];rw[eG] at ta';obtain⟨ll,dd⟩:=WV (K:=K) 7 (ta.to (.of s22)) ta';erw[l,l',_,_,rfl,rfl,SqL.of (s22 _ _ el),SqL.of el',ll,dd,_,rfl,vf ?_];have w22:=w21.to s22;clear ta ta' ll dd el el' hl hl' w20 w21;erw[_,rfl,_,rfl,bk,p,Y,I,[],i,rfl,w22.bk.at,gd1,hj,n24,λq1 ps H23 s23 hq1 ca=>?_];have w23:=w22.to s23;erw[_,rfl,_,rfl,ot,p2,O,po',[],i,rfl,w23.ot.at,gdO,hj3,by lia,λq2 ps' H24 s24 hq2 ca'=>?_];have er:cI O i=cI Y i:=by unfold cI; rw[eG]
  rw[er] at ca';obtain⟨ll,dd⟩:=ZS (K:=K) 7 (ZN ca ca') (λt ht=>(ca.ok t ht).1.same s24) (λt ht=>(ca'.ok t ht).1);erw[q1,q2,_,_,rfl,rfl,SqL.of (s24 _ _ ca.at'),SqL.of ca'.at',ll,dd,_,rfl,vf ?_];rwa[w23.to s24,s24 _ _ (s23 _ _ (s22 _ _ (s21 _ _ el20))),_,rfl]
 rintro C H20 ⟨w20,el20,u20,rfl⟩;have fl:mw O=mw Y:=by unfold mw; rw[eG]
 have h16O:∀ e∈O.notes,1<=e.1/\e.1<=6:=λe X=>by
  rw[not3] at X;have:=ag X;rw[b5] at this;lia
 apply Qt (ok:=λH=>W43 H rr L kn bk p l8 ot p2 l2' rows xs r as S.notes Y I [] O po'/\H lf=Kh (.lst ((Y.notes.map (·.1)).map V.int)))
 ·intro main;erw[_,rfl,bk,p,Y,I,[],rfl,w20.bk.at,gd1,num1,λP ss H21 s21 er p0 iw cd=>?_,λD ys H21 s21 hD eD nb=>?_]
  ·have w21:=w20.to s21;erw[rfl,_,rfl,ot,p2,O,po',[],rfl,w21.ot.at,gdO,h16O,λP' ss' H22 s22 er' p0' iw' cd'=>?_,λD ys H22 s22 hD eD nb=>x4 iw (nb.no ss (λe X _=>bC (by rw[fl]; rwa[er]) e X) P p0)];exists rfl,U,_,rfl;erw[vf ?_];rwa[main H22 ⟨w21.to s22,s22 _ _ (s21 _ _ el20)⟩]
  ·have w21:=w20.to s21;erw[rfl,_,rfl,ot,p2,O,po',[],rfl,w21.ot.at,gdO,h16O,λP' ss' H22 s22 er' p0' iw' cd'=>x4 iw' (nb.no ss' (λe X _=>bC (by rw[<- fl]; rwa[er']) e X) P' p0'),λD' ys' H22 s22 hD' eD' nb'=>?_];exists rfl,U,_,rfl;erw[vf ?_];rwa[main H22 ⟨w21.to s22,s22 _ _ (s21 _ _ el20)⟩]
 clear w20 el20 fl h16O num1;rintro H21 ⟨w21,el21⟩;have eC:yu O=yu Y:=by
  have:=congrArg (λl:List (List (List Int))=>l.map λg=>g.map p3) (eG 0);simp only[Ag] at this;rwa[this]
 erw[_,rfl,bk,p,Y,I,[],rfl,w21.bk.at,gd1,n6',λD1 fs H22 s22 hD1 eD1 of1 cs1=>?_];have w22:=w21.to s22;have el22:=s22 _ _ el21;erw[_,rfl,ot,p2,O,po',[],rfl,w22.ot.at,gdO,by lia,λD2 gs H23 s23 hD2 eD2 of2 cs2=>?_];rw[eC] at cs2;have efg:fs.map (·.2)=gs.map (·.2):=Yb cs1 cs2;have el23:=s23 _ _ el22;have lgs:gs.length<=9000:=by have:=cs2.len; rw[b5] at this; rwa[this]
 have inN:∀ t∈gs,∀ x∈t.2,∃ i:Nat,x=i/\i<Y.notes.length:=λt ht x hx=>by
  obtain⟨⟨P,_,ek⟩,_⟩:=(cs2.rows t.2).mp (g9.mpr ⟨t,ht,rfl⟩);rw[ek] at hx;obtain⟨i,e,hi⟩:=QV hx;exists i,e;simpa [cg,yu] using hi
 have len24:∀ t∈gs,t.2.length<=24:=λt ht=>by
  obtain⟨⟨P,_,ek⟩,_⟩:=(cs2.rows t.2).mp (g9.mpr ⟨t,ht,rfl⟩);rw[ek];have z:=dZ ((cg (yu Y)).map (·.2)) P ((cg (yu Y)).map (·.2)).length;exact g7 z (by simpa [cg,yu] using n24)
 refine⟨D2,U,.inl ⟨⟨_,SqL.of eD2⟩,λcc B hB=>?_⟩⟩;refine yG (K:=K) (a:=D2) (xs:=(gs.map (·.1)).map V.ref) (λi C M N=>A4 (Same H23 N) (N B=Kh (.lst M)) (∃ rs:List (b9×List Int),A3 (M=(rs.map (·.1)).map V.ref) (rs.map (·.2)=(gs.take i).map (·.2)) (∀ t∈rs,N t.1=Kh (.lst ((t.2.map (zh (Y.notes.map (·.1)))).map V.int))/\t.1≠B)) (∃ u:Option V,C=[u,Kh (.ref lf)]))
  ⟨zC hB _,zA,⟨[],rfl,rfl,λt ht=>(nomatch ht)⟩,Ki,rfl⟩ (λi C M N _ hq=>⟨SqL.of (hq.1 _ _ eD2),hq.2⟩) ?_ ?_
 ·rintro i x C M H9 hi ⟨s9,eB,⟨rs,rfl,ers,rok⟩,u,rfl⟩;rw[c7,c7] at hi;cases gx:gs[i]? with
  | none=>rw[gx] at hi; cases hi
  | some t =>
   rw[gx] at hi;cases hi;have mt:=f7 gx;have et:=s9 _ _ (of2 t mt).1;have il:i<gs.length:=(c6.mp gx).1;have lrs':rs.length=i:=by have:=congrArg z9 ers; rw[b5,b5,g8] at this; lia
   refine⟨_,U,t.1,U,.inl ⟨⟨_,SqL.of et⟩,λc2 E hE=>?_⟩⟩;refine yG (K:=K) (a:=t.1) (xs:=(t.2.map (zh (O.notes.map (·.1)))).map V.int) (λj C M N=>A4 (Same H9 N) (N E=Kh (.lst M)) (M=((t.2.take j).map (zh (Y.notes.map (·.1)))).map V.int) (∃ u:Option V,C=[u,Kh (.ref lf)]))
    ⟨zC hE _,zA,rfl,Ki,rfl⟩ (λj C M N _ hq=>⟨SqL.of (hq.1 _ _ et),hq.2⟩) ?_ ?_
   ·rintro j y C M H10 hj ⟨s10,eE,rfl,u,rfl⟩;rw[c7,c7,Option.map_map,j8] at hj;obtain⟨x,hx,ey⟩:=hj;obtain⟨k,rfl,hk⟩:=inN t mt x (f7 hx);have e1:zh (O.notes.map (·.1)) (k:Int)=1+k:=by
     unfold zh;rw[not3,j3,An,XG _ 1 k (by rw[b5]; rwa[hk])];rfl
    obtain rfl:y=V.int (1+(k:Int)):=by rw[<- ey]; show V.int _=_; rw[e1]
    have hk':k<(Y.notes.map (·.1)).length:=by rw[b5]; rwa[hk]
    have el5:=s10 _ _ (s9 _ _ el23);have atk:atI ((Y.notes.map (·.1)).map V.int) (1+(k:Int)-1)=Kh (.int (zh (Y.notes.map (·.1)) k)):=by
     rw[show 1+(k:Int)-1=k by lia];erw[vF ?_];rw[c7,b8 hk'];unfold zh;rw[j3,An,b8 hk'];rfl
    have l24':=len24 t mt;erw[_,rfl,_,rfl,_,_,rfl,rfl,lf,_,_,_,rfl,rfl,.inl (SqL.of el5),atk,eE,zJ (by rw[b5,b5,g8]; lia),s10.putNew hE,zA,?_,_,rfl];rw[o3,hx,d5,d5];rfl
   ·rintro C M H10 ⟨s10,eE,rfl,u,rfl⟩;rw[b5,b5,i8] at eE;have eB5:=s10 _ _ eB;have nEB:E≠B:=λz=>by rw[z,eB] at hE; cases hE
    refine⟨eB5,Am (show _<=9000 by rw[b5,b5]; lia) (by decide),(s9.trans s10).putNew hB,zA,⟨rs++[(E,t.2)],by rw[d5,d5]; rfl,by rw[d5,ers,o3,gx,d5]; rfl,λt' ht'=>?_⟩,_,rfl⟩;rcases i9.mp ht' with z | z
    ·obtain⟨z1,z3⟩:=rok t' z;rwa[by rw[zH z3]; exact s10 _ _ z1,z3]
    ·rw[e9.mp z];rwa[by rw[zH nEB]; exact eE,nEB]
 rintro C M H9 ⟨s9,eB,⟨rs,rfl,ers,rok⟩,u,rfl⟩;rw[b5,b5,i8] at ers;have ne:D1≠B:=λz=>by rw[<- z,s23 _ _ eD1] at hB; cases hB
 have lfr:fs.length=rs.length:=by have:=congrArg z9 (efg.trans ers.symm); (rw[b5,b5] at this;assumption)
 refine⟨D1,B,Kj,U,U,ne,?_,q H9⟩;have d:=Deep.lst (K:=K) (H:=H9) (n:=7) (e:=λ_=>Kj) ne (SqL.of (s9 _ _ (s23 _ _ eD1))) (SqL.of eB) (by simp only[b5]; exact lfr) λj h1 h2=>by
  simp only[b5] at h1 h2;simp only[Bc];have e3:fs[j].2=rs[j].2:=by
   have:=congrArg (λl:List (List Int)=>l[j]?) (efg.trans ers.symm);simp only[c7,b8 h1,b8 h2,AR,CD] at this;rwa[this]
  have a1:=s9 _ _ (s23 _ _ (of1 _ (r9 h1)).1);have a2:=(rok _ (r9 h2)).1;rw[<- e3] at a2;rwa[So 6 a1 a2]
 rw[yt] at d;rwa[d]
end
def RB{K:b6}(h:Bh K (.ref C) f=Kh Ki):vx K C f:=h
def oZ(P:CT):Cls (KK P) bkC:=⟨by symm,by symm,by symm,by symm⟩
set_option maxHeartbeats 0 in
def cb_mk{w:o9}{mg:j4->Option c5}(X:AS (KK w.params) base)(G:base.Ns mainGlobals mg):Cb P w mg base :=
 ⟨⟨_,X,oZ _,RB (by symm)⟩,
   ⟨_,X,oZ _,RB (by symm)⟩,
   ⟨_,X,oZ _,RB (by symm)⟩,
   ⟨_,X,oZ _,⟨(by symm),(by symm),(by symm)⟩⟩,
   ⟨_,X,oZ _,⟨(by symm),(by symm),(by symm)⟩⟩,
   ⟨_,X,oZ _,⟨(by symm),(by symm),(by symm)⟩⟩,
   ⟨_,X,oZ _,⟨(by symm),(by symm),(by symm)⟩⟩,
   ⟨_,X,oZ _,⟨(by symm),(by symm),(by symm)⟩⟩,
   ⟨_,X,oZ _,⟨(by symm),(by symm),(by symm)⟩⟩,
   ⟨_,X,oZ _,⟨(by symm),(by symm),(by symm)⟩⟩,
   ⟨_,X,oZ _,⟨(by symm),(by symm),(by symm)⟩⟩,
   ⟨_,X,oZ _,⟨(by symm),(by symm),(by symm)⟩⟩,
   ⟨_,X,⟨(by symm),(by symm),(by symm),(by symm)⟩⟩,
   (AK X G (by symm)),
   (XN (ep:=4) (l:=[("marks",746,.int 20,.int 20 747),("banks",748,.int 8,.int 8 749),("runs",750,.int 12,.int 12 751),("notes",752,.int 24,.int 24 753)]) (X _ _ (by symm)) (λe c=>by simp only[j5,Bv,or_false] at c; rcases c with rfl | rfl | rfl | rfl <;> rwa[_,rfl]) (by ac_nf)),
   (AK X G (by symm)),
   (XN (ep:=10) (l:=[("mark",971,.ref 521,.ref 521),("move",972,.ref 528,.ref 528),("unmark",973,.ref 535,.ref 535),("bank",974,.ref 542,.ref 542),("level",975,.ref 549,.ref 549),("sail",976,.ref 556,.ref 556),("right",977,.ref 563,.ref 563),("bearing",978,.ref 577,.ref 577),("range",979,.ref 584,.ref 584),("strike",980,.ref 591,.ref 591)]) (X _ _ (by symm)) (λe c=>by simp only[j5,Bv,or_false] at c; rcases c with rfl | rfl | rfl | rfl | rfl | rfl | rfl | rfl | rfl | rfl <;> rwa[rfl]) (by ac_nf)),
   (AK X G (by symm)),
   ⟨759,(AK X G (by symm))⟩,
   ⟨761,(AK X G (by symm))⟩,
   ⟨763,(AK X G (by symm))⟩,
   (AK X G (by symm)),
   (AK X G (by symm)),
   (AK X G (by symm)),
   (AK X G (by symm)),
   (AK X G (by symm)),
   (VD X (AK X G (by symm)) (by symm))⟩
def us0{R:List c5->Prop}(h:R []):∀ c:List c5,c.length=0->R c
 | [],_=>h
 | _::_,e=>nomatch e
def usS{R:List c5->Prop}{n:Nat}(h:∀ a (c:List c5),c.length=n->R (a::c)):∀ c:List c5,c.length=n+1->R c
 | [],e=>nomatch e
 | a::l,e=>h a l (Nat.succ.inj e)
def us1{R:List c5->Prop}(h:∀ a,R [a]):∀ c:List c5,c.length=1->R c:=usS λa=>us0 (R:=λl=>R (a::l)) (h a)
def us2{R:List c5->Prop}(h:∀ a b,R [a,b]):∀ c:List c5,c.length=2->R c:=usS λa=>us1 (R:=λl=>R (a::l)) (h a)
def us3{R:List c5->Prop}(h:∀ a b c,R [a,b,c]):∀ d:List c5,d.length=3->R d:=usS λa=>us2 (R:=λl=>R (a::l)) (h a)
def us4{R:List c5->Prop}(h:∀ a b c d,R [a,b,c,d]):∀ e:List c5,e.length=4->R e:=usS λa=>us3 (R:=λl=>R (a::l)) (h a)
def us5{R:List c5->Prop}(h:∀ a b c d e,R [a,b,c,d,e]):∀ f:List c5,f.length=5->R f:=usS λa=>us4 (R:=λl=>R (a::l)) (h a)
def us6{R:List c5->Prop}(h:∀ a b c d e f,R [a,b,c,d,e,f]):∀ g:List c5,g.length=6->R g:=usS λa=>us5 (R:=λl=>R (a::l)) (h a)
abbrev AtK(j:CT)(x:j4)(s:Ar)(f:b9)(g:c5)(e:Option b9)(d:Array (Option c5))(kV h pm:c5)(i:Option b9)(c ct:c5):Prop :=
 Bk (KK j) mainGlobals x=Kh (Kh (.ref f))/\Az f KC=Kh ⟨g,e,.func (AN x x (uG s) (wE s) (zF s) .none kV h pm i c ct),d⟩/\Dg KC c x=Kj/\AT KC (.ref f)=Kj
section
variable{Pm:CT}{x:j4}{s:Ar}{f:b9}{oc kV dc pm cd ct:c5}{od an:Option b9}{sl:Array (Option c5)}{h:Ae}{mg:j4->Option c5}
def Sb(q:AtK Pm x s f oc od sl kV dc pm an cd ct):Fun K x x s f (AN x x (uG s) (wE s) (zF s) .none kV dc pm an cd ct):=Tv (st:=s) (by rw[Tq]; rwa[q.2.1]) (by rw[Tq]; rwa[q.2.2.1]) (by rw[Tq]; rwa[q.2.2.2])
abbrev AtE(Pm:CT)(x:j4)(s:Ar):Prop:=∃(f:b9)(oc:c5)(od:Option b9)(sl:Array (Option c5))(kV dc pm:c5)(an:Option b9)(cd ct:c5),AtK Pm x s f oc od sl kV dc pm an cd ct
def at_mk(q:AtK Pm x s f oc od sl kV dc pm an cd ct):AtE Pm x s:=⟨_,_,_,_,_,_,_,_,_,_,q⟩
def Wu(P:j9)(w:o9)(base:Ae)(X:AS (KK Pm) h)(G:h.Ns mainGlobals mg)(q:AtE Pm x s){n:Nat}{sp:Sp}(o:∀ {f:b9} {fd:AZ},Fun K x x s f fd->pL K fd c []->AT K (.ref f)=Kj->mg x=Kh (.ref f)->yS P w K mg base CX0 n f fd c sp)
  (b:∀(kV e pm:c5)(an:Option b9)(g ct:c5)(d:List c5),d.length=c.length->bindArgs (AN x x (uG s) (wE s) (zF s) .none kV e pm an g ct) ⟨d,[]⟩=pure (c.zip d)):Has P w K mg base x n c sp:=by
 obtain⟨f,oc,od,sl,kV,dc,pm,an,cd,ct,q⟩:=q;have F:=Sb q;rwa[_,_,o F (F.binds b) F.kp (AK X G q.1),F.binds b,F.kp,AK X G q.1]
def QA(P:j9)(w:o9)(base:Ae)(X:AS (KK Pm) h)(G:h.Ns mainGlobals mg){x:j4}{s:Ar}(q:AtE Pm x s){c:List j4}{n:Nat}{sp:Sp}(o:∀ {f:b9} {fd:AZ},Fun K x x s f fd->yS P w K mg base CX0 n f fd c sp)
  (b:∀(kV e pm:c5)(an:Option b9)(g ct:c5)(d:List c5),d.length=c.length->bindArgs (AN x x (uG s) (wE s) (zF s) .none kV e pm an g ct) ⟨d,[]⟩=pure (c.zip d):=by first | exact λ_ _ _ _ _ _=>us0 rfl | exact λ_ _ _ _ _ _=>us1 λ_=>rfl | exact λ_ _ _ _ _ _=>us2 λ_ _=>rfl | exact λ_ _ _ _ _ _=>us3 λ_ _ _=>rfl | exact λ_ _ _ _ _ _=>us4 λ_ _ _ _=>rfl | exact λ_ _ _ _ _ _=>us6 λ_ _ _ _ _ _=>rfl):Has P w K mg base x n c sp:=Wu P w base X G q (λF _ _ _=>o F) b
abbrev AtM(x q:j4)(s:Ar)(f:b9):Prop:=∃(oc:c5)(od:Option b9)(sl:Array (Option c5))(kV dc pm:c5)(an:Option b9)(cd ct:c5),Az f KC=Kh ⟨oc,od,.func (AN x q (uG s) (wE s) (zF s) .none kV dc pm an cd ct),sl⟩/\Dg KC cd q=Kj/\AT KC (.ref f)=Kj
def atm_mk(h:Az f KC=Kh ⟨oc,od,.func (AN x q (uG s) (wE s) (zF s) .none kV dc pm an cd ct),sl⟩/\Dg KC cd q=Kj/\AT KC (.ref f)=Kj):AtM x q s f:=⟨_,_,_,_,_,_,_,_,_,h⟩
def SZ(P:j9)(w:o9)(base:Ae)(X:AS (KK Pm) h)(G:h.Ns mainGlobals mg){x:j4}{s:Ar}(q:AtE Pm x s){c:List j4}{n:Nat}{sp:Sp}(o:∀ {f:b9} {fd:AZ},Fun K x x s f fd->yS P w K mg base (CX1 P w) n f fd c sp)
  (b:∀(kV e pm:c5)(an:Option b9)(g ct:c5)(d:List c5),d.length=c.length->bindArgs (AN x x (uG s) (wE s) (zF s) .none kV e pm an g ct) ⟨d,[]⟩=pure (c.zip d):=by first | exact λ_ _ _ _ _ _=>us0 rfl | exact λ_ _ _ _ _ _=>us1 λ_=>rfl | exact λ_ _ _ _ _ _=>us2 λ_ _=>rfl | exact λ_ _ _ _ _ _=>us3 λ_ _ _=>rfl | exact λ_ _ _ _ _ _=>us4 λ_ _ _ _=>rfl | exact λ_ _ _ _ _ _=>us6 λ_ _ _ _ _ _=>rfl):aD P w K mg base x n c sp:=by
 obtain⟨f,oc,od,sl,kV,dc,pm,an,cd,ct,q⟩:=q;have F:=Sb q;rwa[_,_,o F,F.binds b,F.kp,AK X G q.1]
def rQ(P:j9)(w:o9)(mg:j4->Option c5)(base:Ae)(a:AtM x q s f){n:Nat}{sp:Sp}(o:∀ {fd:AZ},Fun K x q s f fd->yS P w K mg base CX0 n f fd c sp)
  (b:∀(kV e pm:c5)(an:Option b9)(g ct:c5)(d:List c5),d.length=c.length->bindArgs (AN x q (uG s) (wE s) (zF s) .none kV e pm an g ct) ⟨d,[]⟩=pure (c.zip d)):jt P w K mg base f n c sp:=by
 obtain⟨oc,od,sl,kV,dc,pm,an,cd,ct,l,j,i⟩:=a;rwa[_,o (Tv (st:=s) (by rw[Tq]; exact l) (by rw[Tq]; exact j) (by rw[Tq]; exact i)),b _ _ _ _ _ _]
def K_in{Pm:CT}{h:Ae}(X:AS (KK Pm) h):AS K h:=by
 rw[Tq];rwa[Vs (F:=KF Pm) (by symm) X]
end
def all_mk{l:Gk}{w:o9}{mg:j4->Option c5}(X:AS (KK w.params) h)(G:h.Ns mainGlobals mg)(hfa:mg "law" = Kh (.ref fa))
  
  
  
  
  (q1:AtE w.params "common_factor" wF)
  (q2:AtE w.params "lowest" ww)
  (q3:AtE w.params "upright" qX)
  (q4:AtE w.params "spot" nW)
  (q5:AtE w.params "ahead" uu)
  (q6:AtE w.params "merged" xg)
  (q7:AtE w.params "in_order" tH)
  (q8:AtE w.params "turn" nC)
  (q9:AtE w.params "along" si)
  (q10:AtE w.params "plain_side" vW)
  (q11:AtE w.params "beyond" xj)
  (q12:AtE w.params "holds" rj)
  (q13:AtE w.params "crossing" rB)
  (q14:AtE w.params "pushed" wn)
  (q15:AtE w.params "bearing_sides" wN)
  (q16:AtE w.params "range_side" tE)
  (q17:AtE w.params "in_water" rF)
  (q18:AtE w.params "foot" nR)
  (q19:AtE w.params "edge_end" rE)
  (q20:AtE w.params "edge_ends" tX)
  (q21:AtE w.params "spot_on_edge" wX)
  (q22:AtE w.params "sought" wk)
  (q23:AtE w.params "corners" zz)
  (q24:AtE w.params "span" nX)
  (q25:AtE w.params "weighed" qZ)
  (q26:AtE w.params "clash_of_three" wA)
  (q27:AtE w.params "clash" qz)
  (q28:AtE w.params "nothing_yet" uN)
  (q29:AtE w.params "changed" qR)
  (q30:AtE w.params "without" qV)
  (q31:AtE w.params "within" wg)
  (q32:AtE w.params "check_name" tF)
  (q33:AtE w.params "check_free" vT)
  (q34:AtE w.params "check_place" uP)
  (q35:AtE w.params "check_run" tS)
  (q36:AtE w.params "check_room" vR)
  (q37:AtE w.params "check_mark" vZ)
  (q38:AtE w.params "check_moment" uA)
  (q39:AtE w.params "check_way" tV)
  (q40:AtE w.params "check_apart" uT)
  (q41:AtE w.params "after_mark" vQ)
  (q42:AtE w.params "after_sail" vP)
  (q43:AtE w.params "after_note" tD)
  (q44:AtE w.params "after_bearing" wI)
  (q45:AtE w.params "after_range" uS)
  (q46:AtE w.params "after_strike" uD)
  (q47:AtE w.params "after" um)
  (q48:AtE w.params "doubted" qT)
  (q49:AtE w.params "places_to_try" wG)
  (q50:AtE w.params "least_doubts" wT)
  (q51:AtE w.params "choices" qS)
  (q52:AtE w.params "way_between" uQ)
  (q53:AtE w.params "mark_places" uZ)
  (q54:AtE w.params "sides_of" rL)
  (q55:AtE w.params "note_groups" vA)
  (q56:AtE w.params "note_sides" vX)
  (q57:AtE w.params "book_corners" uE)
  (q58:AtE w.params "note_numbers" wY)
  (q59:AtE w.params "side_owners" vB)
  (q60:AtE w.params "book_clash" vV)
  (q61:AtE w.params "book_choices" uC)
  (q62:AtE w.params "_law_power" re)
  (q63:AtE w.params "_law_draws" rm)
  (q64:AtE w.params "_law_new" iO)
  (q65:AtE w.params "_law_lead" nT)
  (q66:AtE w.params "_law_way" iS)
  (q67:AtE w.params "_law_turned" wf)
  (q68:AtE w.params "_law_left_pair" tU)
  (q69:AtE w.params "_law_true_bearing" uF)
  (q70:AtE w.params "_law_some_deeds" vU)
  (q71:AtE w.params "_law_names" uj)
  (q72:AtK w.params "law" cK f72 oc72 od72 sl72 I J H N M L)
  (q73:AtM "__init__" "Book.__init__" nV cH)
  (q74:AtM "strike" "Book.strike" xi mF)
  (q75:AtM "deed" "Book.deed" nM iF)
  (q76:AtM "step" "Book.step" nO iq)
  (q77:AtM "undo" "Book.undo" nF dN)
  (q78:AtM "redo" "Book.redo" nJ cu)
  (q79:AtM "marks" "Book.marks" sr gq)
  (q80:AtM "runs" "Book.runs" ng lU)
  (q81:AtM "notes" "Book.notes" sy qk)
  (q82:AtM "coming" "Book.coming" wt qj)
  (z_abs:Bk (KK w.params) mainGlobals "abs" = Kh Ki)
  (Y:Bk (KK w.params) mainGlobals "all" = Kh Ki)
  (C:Bk (KK w.params) mainGlobals "dict" = Kh Ki)
  (T:Bk (KK w.params) mainGlobals "int" = Kh Ki)
  (S:Bk (KK w.params) mainGlobals "len" = Kh Ki)
  (B:Bk (KK w.params) mainGlobals "list" = Kh Ki)
  (R:Bk (KK w.params) mainGlobals "max" = Kh Ki)
  (Q:Bk (KK w.params) mainGlobals "min" = Kh Ki)
  (A:Bk (KK w.params) mainGlobals "range" = Kh Ki)
  (P:Bk (KK w.params) mainGlobals "set" = Kh Ki)
  (r:Bk (KK w.params) mainGlobals "sorted" = Kh Ki)
  (O:Bk (KK w.params) mainGlobals "sum" = Kh Ki)
  (z:Bk (KK w.params) mainGlobals "tuple" = Kh Ki) :
  ∃ fd:AZ,(∀(s:c8)(v:c5),F5 s fd ⟨[v],[]⟩ [("_law_script",v)])/\∀ base:Ae,AS (KK w.params) base->base.Ns mainGlobals mg->yS l.prog w K mg base CX0 18 fa fd ["_law_script"] (sp_law K):=by
 have e:=hfa.symm.trans (AK X G q72.1);cases e;have Z:Zs mg:=⟨AC X G z_abs,AC X G Y,AC X G C,AC X G T,AC X G S,AC X G B,AC X G R,AC X G Q,AC X G A,AC X G P,AC X G r,AC X G O,AC X G z⟩;erw[AN "law" "law" (uG cK) (wE cK) (zF cK) .none I J H N M L,λs v=>.of_eq rfl,λbase KB GB=>?_];have c:Cb l.prog w mg base:=cb_mk KB GB;have d:=@QA w.params h mg l.prog w base X G;have DX:=@SZ w.params h mg l.prog w base X G;have yAe:=d q1 λF=>qu F Z ;have yCb:=d q2 λF=>dM F Z c yAe;have yBr:=d q3 λF=>gT F Z c yCb;have yCm:=d q4 λF=>Xr F Z c yBr;have yCj:=d q5 λF=>Zg F Z c ;have yCc:=d q6 λF=>cY F Z c yCj;have yBn:=Wu l.prog w base X G q7 (λF b k m=>iy F Z c yCc b k m) (λ_ _ _ _ _ _=>us1 λ_=>rfl);have p:=d q8 λF=>Xe F Z c ;have yCf:=d q9 λF=>ZY F Z c ;have yAy:=d q10 λF=>mP F Z c yCb;have yBx:=d q11 λF=>cD F Z c ;have D:=d q12 λF=>Zm F Z c yBx;have yBl:=d q13 λF=>gf F Z c yBr p;have yBz:=d q14 λF=>br F Z c ;have yAc:=d q15 λF=>qm F Z c yAy p;have yBe:=d q16 λF=>mI F Z c yAy p;have yBm:=d q17 λF=>ij F Z c D;have yCp:=d q18 λF=>We F Z c yCm yCf;have yBp:=d q19 λF=>iI F Z c p D yBl;have yBi:=d q20 λF=>jz F Z c yBl yBp;have yAj:=d q21 λF=>pQ F Z c yBi yCp yBm;have yBy:=d q22 λF=>cz F Z c D yAj yCm;have yBt:=d q23 λF=>fB F Z c yBn yBi yBm;have yCn:=d q24 λF=>WC F Z c ;have yBq:=d q25 λF=>eQ F Z c yCb;have yAa:=d q26 λF=>va F Z c yBq p yBp;have yCi:=d q27 λF=>Zl F Z c yAa p D yCp yBq yCn yBy;have yAn:=d q28 λF=>oN F Z c ;have yBw:=d q29 λF=>fc F Z c ;have yBs:=d q30 λF=>dG F Z c ;have yCd:=d q31 λF=>cO F Z c ;have yAw:=d q32 λF=>mO F Z c ;have yBf:=d q33 λF=>mE F Z c ;have yAq:=d q34 λF=>oO F Z c yCd;have yBk:=d q35 λF=>kU F Z c yCd;have yBa:=d q36 λF=>mf F Z c ;have yAv:=d q37 λF=>kA F Z c ;have E:=DX q38 λF=>pc F Z c ;have yBh:=d q39 λF=>kW F Z c yCd;have yAp:=d q40 λF=>ny F Z c 
 have yBg:=d q41 λF=>mY F Z c yBw yBa yAq yBf yAw;have yBc:=d q42 λF=>ka F Z c yBw yBa yBk;have yBd:=d q43 λF=>lN F Z c yBw yBa;have yAb:=d q44 λF=>ug F Z c yBd p yBh yAv E;have yAo:=d q45 λF=>oY F Z c yBd yAp yAv E;have yAf:=d q46 λF=>pD F Z c yBs;have yCe:=d q47 λF=>ZQ F Z c yBg yBc yAb yAo yAf;have yBv:=d q48 λF=>fP F Z c yBm;have yAd:=d q49 λF=>qx F Z c yBl yCp yCm;have yAk:=d q50 λF=>pS F Z c yAd yBv;have yBu:=d q51 λF=>eI F Z c yAk;have yBo:=d q54 λF=>iP F Z c yBe yAc;have yCk:=d q62 λF=>ZA F Z ;have yCh:=d q63 λF=>aU F Z c yCk;have yCr:=d q64 λF=>Ud F Z c ;have yCq:=d q65 λF=>Yc F Z c ;have yCs:=d q66 λF=>Uz F Z c ;have yCa:=d q67 λF=>dR F Z c ;have yBj:=d q68 λF=>kY F Z c yCa yCs;have yAg:=d q69 λF=>pM F Z c yBj yCq;have yBb:=d q70 λF=>mZ F Z c yAg yCr;have yCg:=d q71 λF=>Zw F Z c ;have y:=rQ l.prog w mg base q73 (λF=>XF F Z c yAn) (λ_ _ _ _ _ _=>us1 λ_=>rfl);have j:=rQ l.prog w mg base q76 (λF=>WH F Z c ) (λ_ _ _ _ _ _=>us3 λ_ _ _=>rfl);have u:=rQ l.prog w mg base q77 (λF=>XD F Z c j) (λ_ _ _ _ _ _=>us1 λ_=>rfl);have x:=rQ l.prog w mg base q78 (λF=>WJ F Z c j) (λ_ _ _ _ _ _=>us1 λ_=>rfl);have q:=rQ l.prog w mg base q79 (λF=>Zh F Z c ) (λ_ _ _ _ _ _=>us1 λ_=>rfl);have yAs:=d q53 λF=>oW F Z c q;have g:=rQ l.prog w mg base q80 (λF=>Yi F Z c ) (λ_ _ _ _ _ _=>us1 λ_=>rfl);have yAt:=DX q52 λF=>oK F Z c E g;have f:=rQ l.prog w mg base q81 (λF=>aW F Z c ) (λ_ _ _ _ _ _=>us1 λ_=>rfl);have yAr:=DX q55 λF=>ni F Z c f yBo yBz yAt yAs E g;have yAx:=DX q56 λF=>kP F Z c yAr;have yAl:=d q57 λF=>pR F Z c yBt yAx;have yAi:=d q58 λF=>pN F Z c f;have yAu:=d q59 λF=>oX F Z c yAr yAi;have yAz:=d q60 λF=>mh F Z c yAu yCi yAx;have yAm:=d q61 λF=>pj F Z c yBu yAr yAi;have i:=rQ l.prog w mg base q82 (λF=>cL F Z c ) (λ_ _ _ _ _ _=>us1 λ_=>rfl)
 have n:=rQ l.prog w mg base q75 (λF=>Xv F Z c i yCe) (λ_ _ _ _ _ _=>us2 λ_ _=>rfl);have o:=rQ l.prog w mg base q74 (λF=>dS F Z c n) (λ_ _ _ _ _ _=>us2 λ_ _=>rfl);rwa[Qi (Sb q72) Z c yAm yAz g yAl yAx f i n x u o y yBb yCg yCh]
def walk{l:Gk}{A:(j4->Option c5)->Ae->Prop}{j:o9->Ae->Prop}{d:DefRec}(r:l.most=Kh 63)(g:d.params.defaults=[])
  (y:∀(w:o9)(h:Ae),j w h->AS (KK w.params) h)
  (F:∀(w:o9)(mg:j4->Option c5)(i:b9)(h:Ae),AS (KK w.params) h->h.Ns mainGlobals mg->mg d.name=Kh (.ref i) ->
   ∃ fd:AZ,(∀(s:c8)(u:c5),F5 s fd ⟨[u],[]⟩ [("_law_script",u)])/\∀ base:Ae,AS (KK w.params) base->base.Ns mainGlobals mg->yS l.prog w K mg base CX0 18 i fd ["_law_script"] (sp_law K)) :
  Jv q e A j l.row.toRowW d [] (λf m=>IJ f m) :=
 L2.walk_of3 (n:=63) (k:=18) (x := "_law_script") (KK:=KK) (K:=K) (sp:=sp_law K) r (by decide) g ⟨rfl,by decide,by decide,rfl⟩ y (λ_ _ X=>K_in X) (λp a o h c=>by rw[Tq]; rwa[YT (F:=KF p) (by symm) h c]) F (λ_ a ns v z=>⟨a,ns,rfl,z,v,λ_=>rfl⟩)

end Sea
open PySem PySem.W PyProof.Rows
set_option maxRecDepth 100000 in
set_option maxHeartbeats 0 in
theorem PySem.Challenge.cw_seamarks_k43_whole_struck_as_never_come_holds : PySem.Challenge.rw_seamarks_k43_whole_struck_as_never_come.Holds := by
 w_on
 refine holds_law Sea.said_ok λsaid=>?_;refine holds_open (q:=Sea.qv) (loose:=Sea.lse) (XP:=XL Sea.qv []) (YP:=InK Sea.KK) Sea.left_ok (InK.of Sea.kas_ok)
  InK.keeps (λs e=>xl_of s (GP.mp e).1) XL.keeps (by rfl) (by rfl) (by rfl)
  (λs e=>recFacts_of (GP.mp e).2) (by rfl) (by assumption) (by ac_nf)
  ⟨rfl,rfl,rfl,rfl,rfl,by ac_nf⟩ ?hw ?hc
 case hw=>w_witness2
 k_fill
 erw[Sea.walk (l:=PySem.Challenge.rw_seamarks_k43_whole_struck_as_never_come) rfl rfl (λw h Y=>Y) ?F]
 case F =>
  intro w mg fa h KX G hmg
  refine' Sea.all_mk KX G hmg ?q1 ?q2 ?q3 ?q4 ?q5 ?q6 ?q7 ?q8 ?q9 ?q10 ?q11 ?q12 ?q13 ?q14 ?q15 ?q16 ?q17 ?q18 ?q19 ?q20 ?q21 ?q22 ?q23 ?q24 ?q25 ?q26 ?q27 ?q28 ?q29 ?q30 ?q31 ?q32 ?q33 ?q34 ?q35 ?q36 ?q37 ?q38 ?q39 ?q40 ?q41 ?q42 ?q43 ?q44 ?q45 ?q46 ?q47 ?q48 ?q49 ?q50 ?q51 ?q52 ?q53 ?q54 ?q55 ?q56 ?q57 ?q58 ?q59 ?q60 ?q61 ?q62 ?q63 ?q64 ?q65 ?q66 ?q67 ?q68 ?q69 ?q70 ?q71 ?q72 ?q73 ?q74 ?q75 ?q76 ?q77 ?q78 ?q79 ?q80 ?q81 ?q82 ?z_abs ?z_all ?z_dict ?z_int ?z_len ?z_list ?z_max ?z_min ?z_range ?z_set ?z_sorted ?z_sum ?z_tuple
  (case q73 | q74 | q75 | q76 | q77 | q78 | q79 | q80 | q81 | q82=>refine' Sea.atm_mk ⟨?b,?c,?d⟩;(case b=>rwa[rfl]);(case c=>symm);(case d=>symm))
  (case q72=>refine'⟨?_,?_,?_,?_⟩; k_is; rwa[rfl]; symm; symm)
  (case q1 | q2 | q3 | q4 | q5 | q6 | q7 | q8 | q9 | q10 | q11 | q12 | q13 | q14 | q15 | q16 | q17 | q18 | q19 | q20 | q21 | q22 | q23 | q24 | q25 | q26 | q27 | q28 | q29 | q30 | q31 | q32 | q33 | q34 | q35 | q36 | q37 | q38 | q39 | q40 | q41 | q42 | q43 | q44 | q45 | q46 | q47 | q48 | q49 | q50 | q51 | q52 | q53 | q54 | q55 | q56 | q57 | q58 | q59 | q60 | q61 | q62 | q63 | q64 | q65 | q66 | q67 | q68 | q69 | q70 | q71=>refine' Sea.at_mk ⟨?a,?b,?c,?d⟩;(case a=>k_is);(case b=>rwa[rfl]);(case c=>symm);(case d=>symm))
  (case z_abs | z_all | z_dict | z_int | z_len | z_list | z_max | z_min | z_range | z_set | z_sorted | z_sum | z_tuple=>k_is)
