import PyProof.Rows.All
import Wide.All
import OpenK.AllK
import Wide.FinOn
import Lean
import PyProof.EqAt
import PyProof.EqKinds
import PyProof.TupleCall
import PyProof.ZipIter
import PyProof.Rows.ZipGen
import PyProof.EnumFor
import PyProof.EnumStmt
import KE.KSortTup
import KE.KDictList
import KE.KItemsList
import KE.KTryMore
import PyProof.Rows.TopTwo
import PyProof.ExcBaseAll.ValueError
import PyProof.ExcAttrAll.ValueError
import PySem.Challenge.RW_seamarks_k55_rooms_that_are_full
set_option Elab.async false
set_option linter.all false
set_option maxRecDepth 100000
set_option maxHeartbeats 4000000
theorem nabs{a:Int}{n:Nat} : a.natAbs<=n↔-(n:Int)<=a/\a<=n:=by omega
local macro_rules | `(tactic| lia) => `(tactic| first | (simp only [nabs] at *; lia (config := {})) | lia (config := {}) | omega)
local macro_rules | `(tactic| exists $es,*) => `(tactic| refine ⟨$es,*, ?_⟩)
open PySem renaming wpAny_bind->aa,Value->af,Addr->ag,Shared->ai,wpAny_pure->ak,Str->aC,Program->aL,World->aT,Heap->aV,wpAny_newObj_type->aW,wpAny_field->bg,Expr->bj,Around->bu,wpAny_callSpecial?_slot->bB,wpAny_call_entry->bE,wpAny_holding->bI,FuncData->bJ,Stmt->bN,wpAny_truthy_bool->cf,Obj->cA,wpAny_seqItems->cR,wpAny_mono->cZ,wpAny_Call_Name_kw->c7,wpAny_setField->dk,wpAny_typeNameOfWhole_keyiter->dm,DictEntry->dn,mem_of_lookup->dy,wpAny_setField_rec->dF,wpAny_passesOwn->dM,wpAny_pyIter_list->dP,wpAny_attempt->dR,wpAny_typeNameOf_keyiter->dS,wpAny_getItem_str_slice->dY,Params->eE,ofString_length->eG,NameKind->eM,wpAny_of_eq->eP,IsPair->eQ,Builtin->eV,Pos->fg,wpAny_execs_nil->fk,Scope->fu,wpAny_Call_method->fF,wpAny_isOneOf_keyiter->fL,IsPart->fP,wpAny_isInstance->fR,wpAny_updateSeq_pair->fW,Env->gf,evalArgs_none->gj,OsState->gq,wpAny_pyIter_tuple->gF,wpAny_call->gH,wpAny_newFunctionEnv_cells->gJ,wpAny_fieldsOf->gN,wpAny_FormattedValue_plain->gO,Keyword->g6,wpAny_dictEntries->hG,wpAny_standAt->hZ,wpAny_comprehension_free->ic,wpAny_onRaise->ie,slot_listiter_next->ig,IsZip->ik,wpAny_pyNext_list_item->ir,BindsTo->ix,wpAny_rule->iA,wpAny_dictEpoch->iI,wpAny_isTrue_Compare1->iR,wpAny_pyIter_listiter->iS,wpAny_formatField_int->iW,wpAny_newFunctionEnv->i4,wpAny_handled->jp,wpAny_newList->jq,Within->jI,wpAny_sequenceKey->jR,wpAny_pyIter_slot->jT,wpAny_eqBool_int->ka,wpAny_eqBool_str->ke,Paired->kh,wpAny_execs_cons->ko,wpAny_pyIter_zip->kG,wpAny_getItem_of->kJ,CmpOp->kQ,wpAny_throw->kT,wpAny_letGo->kU,wpAny_specialOf->lh,wpAny_Name->lA,call->lC,Sem->lY,Model->mJ,Tok->nA
open List renaming length_map->ac,getElem?_eq_getElem->aj,length_append->al,toArray->ar,getElem?_map->av,mem_singleton->aw,getElem?_eq_some_iff->ay,map_append->aA,mem_map->aD,mem_of_getElem?->aF,size_toArray->aG,forall_mem_cons->aH,mem_cons->aI,map_cons->aM,mem_append->aN,length_cons->aS,mem_append_right->aU,lookup_cons->a6,getD_eq_getElem?_getD->bh,length_singleton->bq,all_eq_true->br,map_map->bw,range->bx,mem_cons_of_mem->bz,lookup->bA,take_succ->bC,append_nil->bF,length_take->bK,find?_cons->bL,not_mem_nil->bV,take_length->bW,mem_range->b7,filterMap_cons_some->cb,getElem?_eq_none->ce,append_assoc->cj,mem_cons_self->ck,length->cr,getElem?_append_right->cu,mem_map_of_mem->cz,mem_iff_getElem?->cF,replicate->cG,any_cons->cH,filterMap_cons_none->cJ,mem_filter->cK,length_drop->cO,filterMap_cons->cS,length_nil->cT,getElem?_append_left->cU,length_replicate->cX,zipIdx_cons->c9,length_range->dr,take_of_length_le->dB,find?_eq_none->dG,nodup_iff_pairwise_ne->dH,length_filter_le->dJ,nodup_cons->dN,mem_append_left->dO,getElem_inj->dX,getElem?_take->d6,mem_of_mem_take->eT,map_nil->eW,getElem_mem->eY,all_cons->fh,mem_filterMap->fo,getElem?_drop->fq,getElem?_replicate->fw,filter_cons_of_neg->fB,filter_cons_of_pos->fC,getElem?_set_self->fD,nodup_append->fJ,any_eq_true->fQ,of_mem_zip->fZ,length_set->f7,getElem?_eq_none_iff->gR,snd_lt_of_mem_zipIdx->gU,mem_or_eq_of_mem_set->gW,take_sublist->g7,ext_getElem?->g9,filter_congr->hV,ext_getElem->im,all_nil->iD,forIn_cons->iH,filter_map->iK,range_succ->iL,all_append->iQ,filterMap_append->iV,getElem?_set_ne->i3,getElem_toArray->i5,mem_of_mem_drop->i9,replicate_succ'->jd,getElem_of_mem->jh,filter_sublist->jj,map_congr_left->jl,filter_append->jH,any_eq_false->jJ,pairwise_map->jU,all_map->jV,reverse_cons->j9,cons_append->kH,filter_cons->kI,nodup_range->kL,map_snd_zip->kM,zipIdx_nil->lg,length_zip->lq,forIn_nil->lF,drop_zero->lI,sum_cons->mE
open PySem.W renaming Frag->ae,mg_of->aB,mg_none_of->a8,fnOf->bG,keepIn->bO,nsIn->bT,kia_one->b9,findIn->cm,emptyDict->cB,kitOne->cQ,instObj->du,callWith_K->dC,codeIn->eO,cellsFrom_some->fE,methodCall_KW->fM,plainGet->fO,plainGet_of->gg,callWith_K0->gh,lookIn->gG,methodObj->gY,hasDictIn->gZ,hideAll->iF,takerIn->iG,OpenLaw->iM,hideAll_get->jf,of_hideAll->ju,codeRec_of->jx,isFn->jK,plainOver->jL,specialIn->jM,kitx_list->jN,kitx_dict->jO,handedIn->ku,makesIn->kW,exmOne->lJ,KasT->lK,WalkO->mH,SharedT->mQ
open PySem.Heap renaming get?_push_of_some->ah,get?_push_size->ap,lt_size->az,get?_update_other->aX,get?_update_self->cD,SameBut->cP,size_push->dh,ExtBut->fA,get?_none_of_le->fT,get?_push_ne->j6,MadeExcOf->lH
open Nat renaming le_refl->am,le_trans->aO,ne_of_lt->aQ,lt_of_lt_of_le->aR,zero_le->bf,le_of_ble_eq_true->cE,lt_irrefl->db,lt_trans->de,le_of_lt->dZ,ne_of_gt->d3,gcd->eX,le_succ->fv,lt_of_le_of_lt->gL,add_le_add->gQ,lt_succ_self->ij,le_of_eq->iu,zero_add->iC,not_lt_zero->iP,add_le_add_right->jb,lt_succ_of_lt->j7,le_of_not_lt->kA,succ_ne_self->kC,dvd_trans->my,mul_assoc->mz,le_of_dvd->mC,sub_self->mW,log2_lt->ng
open PySem.F renaming excBase_ValueError->ao,slot_dict_keyiterator_next->cL,slot_tuple_iterator_next->dE,slot_dict_getitem->e7,slot_dict_items->fI,args_dict_keyiterator_next_1->fS,entry_dict_keyiterator_next->fX,slot_dict_itemiterator_iter->fY,args_tuple_iterator_next_1->f8,slot_zip_next->f9,entry_tuple_iterator_next->gu,slot_dict_delitem->gT,plainAttrs_dict->hJ,plainAttrs_str->iE,slot_dict_pop->iT,slot_str_join->iX,type_str_join->iY,args_dict_items_1->ji,slot_dict_values->jE,entry_dict_items->jF,args_zip_next_1->jS,type_dict_items->jW,attr_ValueError->jX,entry_zip_next->kF,slot_dict_iter->kK
open Classical renaming not_not->au,byContradiction->e9
open Bool renaming false_ne_true->aE,and_eq_true->aY,false_eq_true->cN,eq_iff_iff->eg,or_eq_false_iff->eU,false_and->gE,eq_false_iff->g8,and_true->ii,and_eq_true_iff->je,or_false->jo,true_and->jr,noConfusion->kN,or_eq_true->kZ,and_false->lB,not_true->mG
open Option renaming map_eq_some_iff->aJ,isSome_iff_exists->aP,isSome_map->bX,map_some->eh,map_eq_none_iff->fH,bind_eq_some_iff->io,getD_none->ky,toList->mI,none->m9
open PySem.Value renaming ref->aK,none->a7,str->cC,int->dL,builtin->fj,bool->iq,float->iZ,bytes->kP,type->lv,isStrOf->lX,isInt->mZ
open Option.some renaming inj->aZ,injEq->hU
open PyProof.Rows renaming OwnCls->a9,slot_tuple_getitem->bQ,callWith_type1->dz,AllBare->gr,Subscript_->jy,SortKind->j5,callWith_builtin1->kx,IntsAre->lu,IsTup->ly,Keyed->lG
open False renaming elim->be
open True renaming intro->bo
open PySem.Builtin.SmallTypes renaming nextOf->bp,ownedTupleIsFree->cI,ownedTupleHandOut->ff
open PySem.NameKind renaming free->bv,cell->eB
open PySem.Obj renaming mapSeq->bD,data_mapFields->cv,isFreed_of_fields->cY,mapFields->df,cls_mapFields->eJ
open PySem.Str renaming ofString->bH,join->il,empty->mL
open PySem.W.Frag renaming In->bM
open PySem.Builtin.Tuple renaming tupleExact->bP,tupleItemsOf->gK
open Array renaming length_toList->bR,getElem?_eq_getElem->cW,getElem?_eq_some_iff->dI,getElem?_eq_none->d4,getElem?_toList->fN,mem_toList_iff->fU,toArray_toList->i6,all_eq_true'->jG,getD->lL,toList->mR
open PySem.PassesOwn renaming never->bU,leaving->hX
open PySem.Builtin.Slice renaming slicePlaces->bY,sliceAdjust->cV,sliceApplied->dD,sliceFields->gS,slicePartIndex->kX
open Int renaming emod_lt_of_pos->bZ,toNat_natCast->cg,emod_nonneg->cM,eq_ofNat_of_zero_le->dq,mul_assoc->dQ,zero_add->fK,mul_nonneg->gM,le_of_lt->iz,natAbs_mul_self->jg,natCast_nonneg->jD,mul_neg->kR,mul_ne_zero->kY,natAbs_mul->lE,mul_comm->mU,zero_mul->mV,ne_of_lt->mX
open Ne renaming symm->cw
open Or renaming inl->dj,inr->kB
open ForInStep renaming yield->dw
open PySem.Builtin.Str renaming strSliceIndices->dA,glued->fG,occurrences->ip
open Sum renaming inl->dU,inr->dW
open PySem.World renaming withFollow_self->eF
open PySem.W.Fast renaming te14364793385576792824->eI,te2368527892694137696->eK,te5923862056798008813->gC
open PySem.Txt renaming slice->eZ,slice_le->iB
open PySem.Heap.SameBut renaming update->fe
open PySem.Builtin.List renaming listTooLong->fi
open PySem.Calls renaming evalArgs_plain->fV,Name_function_global->gD,call_function_entry->gX,callWith_builtin->iy,Constant_str->jv,spliced_cons->jw,spliced_nil->jQ
open PySem.Builtin.Dict_items renaming ownsTuple->gb
open PySem.PyData renaming shownAll->gc,keyHash->gB,showableAll->gP,hasDictAll->hW,showable->iN,depthAll->iO,hasDict->i8,shown->jY,depth->jZ
open PySem.StrLaws renaming glued_eq_join->gA,reprText_len->i7,joinTotal->mM
open PySem.Around renaming under->iw
open List.cons renaming injEq->iJ
open PySem.Builtin.Dict renaming showsAll->iU,dictSlotNone->lW
open PySem.EntryCells renaming newEntry->jk
open PySem.Paired renaming length->jm,snoc->ni
open PySem.SeqAt.EqAt renaming int_str->js,str_int->jt,int_int->jB,str_str->jC
open PySem.Heap.IsSliceOf renaming new->jz
open PySem.SeqAt renaming EqAt->jA,in_tupleAt->kz
open PySem.Code renaming isFrame->jP,isGuard->mT,frames->m5
open PySem.Heap.IsList renaming push->kE
open Sum.inr renaming inj->kO
open PySem.EqNone renaming eq_none_none->lM,eq_none_bool->lN,eq_bool_none->lO,ne_none_none->lR,ne_none_bool->lS,ne_bool_none->lT,eq_none_int->lZ,eq_none_str->md,eq_int_none->mf,eq_str_none->mi,ne_none_int->ml,ne_none_str->mm,ne_int_none->mn,ne_str_none->mr
open PySem.EqMixed renaming eq_bool_str->lP,eq_str_bool->lQ,ne_bool_str->lU,ne_str_bool->lV,eq_int_str->mh,eq_str_int->mj,ne_int_str->mq,ne_str_int->mv
open List.Pairwise renaming imp_of_mem->mF,nil->ny
open PySem.Builtin.Range renaming rangeSize->mK
open PySem.Heap.UpToSlots renaming of_keeps->mO
open And renaming intro->mP
open PySem.W.SharedT renaming abs->mY
open Prod renaming ext->m7
open PySem.Shared renaming heap->nh
open PySem.W.Looks renaming here->nj,ld->nD
open PySem.W.WShape renaming has->nq
open PySem.Walks renaming list->nu
open PySem.Within renaming cons->nv
open PyProof.Rows.IsTup renaming new->nB
open PySem.W.WData renaming int->nC
namespace L2
open PySem
def wA(s:bN):Arguments:=match s with
 | .FunctionDef _ a _ _ _ _ _ _ _ _=>a
 | _=>{ posonlyargs:=[],args:=[],vararg:=none,kwonlyargs:=[],kw_defaults:=[],kwarg:=none,defaults:=[] }
def xK(s:bN):List bN:=match s with
 | .FunctionDef _ _ b _ _ _ _ _ _ _=>b
 | _=>[]
def zI(s:bN):fu:=match s with
 | .FunctionDef _ _ _ _ _ _ sc _ _ _=>sc
 | _=>{ kind:=.function,names:=[],isGenerator:=false,isCoroutine:=false }
def zBf(s:bN)(j:Nat):bN:=match s with
 | .ClassDef _ _ _ body _ _ _ _ _ _ _=>body.getD j (.Pass ⟨0,0,0,0⟩)
 | _=>.Pass ⟨0,0,0,0⟩
end L2
namespace PySem.W
open PySem
noncomputable def zHq(tb:String->Option eV)(p:aL)(w:aT)(n₀:Nat)(ann:Option af):Nat->mQ->Thread->Option mQ
 | 0,_,_=>none
 | n+1,s,t=>match through t with
  | true=>some s
  | false=>match Fast.tw6613529449190102663 n₀ ann t with
   | false=>none
   | true=>match Fast.tw10156331382660048174 (Fast.tw11892475500146522536 tb) p w s t with
    | some (s',t')=>zHq tb p w n₀ ann n s' t'
    | none=>none
theorem zJd{tb:String->Option eV}{p:aL}{w:aT}{n₀:Nat}{ann:Option af} : ∀{n:Nat}{s s':mQ}{t:Thread},zHq tb p w n₀ ann n s t=some s'->topRun tb p w n₀ ann n s.abs t=some s'.abs
 | 0,_,_,_,h=>by cases h
 | n+1,s,s',t,h=>by
  unfold zHq at h;rw[<- Fast.te6613529449190102663,<- Fast.te10156331382660048174,<- Fast.te11892475500146522536] at h;unfold topRun;cases he:through t with
  | true=>rw[he] at h; cases h; rfl
  | false =>
   rw[he] at h;cases hk:stepOk n₀ ann t with
   | false=>rw[hk] at h; cases h
   | true =>
    rw[hk] at h;cases hs:stepT (denote tb) p w s t with
    | none=>rw[hs] at h; cases h
    | some r=>obtain⟨s₂,t₂⟩:=r; rw[hs] at h; rw[stepT_spec hs]; exact zJd h
noncomputable def zU4(P:eE):BT:=((boot_heap P).objs.toList.zipIdx).foldl (λt x=>t.ins x.2 x.1) .nil
theorem zTf(P:eE):absHeap (zU4 P) 11 (boot_heap P).life=boot_heap P:=by kernel_rfl
theorem zRa(P:eE):((boot_heap P).isNs mainGlobals,(boot_heap P).objs.size,(boot_heap P).nsMap mainGlobals "__annotations__")=(true,11,some (.ref 6)):=by kernel_rfl
noncomputable abbrev zZf(tb:String->Option eV)(p:aL)(N:Nat)(w:aT)(os:gq):Option mQ:=zHq tb p w 11 (some (.ref 6)) N ⟨zU4 w.params,11,(boot_heap w.params).life,#[],boot_drawn,boot_toks,os⟩ (topStub p)
theorem zTb{α β γ:Type}{x:Option α}{f:α->β×γ}{a:β}{b:γ}(h1:x.map (λs=>(f s).1)=some a)(h2:x.map (λs=>(f s).2)=some b):x.map f=some (a,b):=by
 cases x with
 | none=>cases h1
 | some s =>
  injection h1 with h1
  injection h2 with h2
  subst h1 h2;rfl
theorem zPi{p q:aL}{loose:List aC}{Xt:ai->Bool}{α:Type}{Yf:ai->α}{Ya:aT->α}{N:Nat}
  (open_:∀ w:aT,(fencedOpening treeTable p w N).map (λs=>(s.heap,s.gens,s.drawn,s.toks))=some (boot_heap w.params,Array.mk [],boot_drawn,boot_toks))
  (h1:∀ w os,(zZf treeTable p N w os).map (λs=>(staticsOk (importedModules p.main.body) (boot_heap w.params) s.abs.heap&&namesBound p s.abs.heap&&gensDone s.abs&&laidKept (boot_heap w.params) s.abs.heap))=some true)
  (h2:∀ w os,(zZf treeTable p N w os).map (λs=>openSeen q loose (importedModules p.main.body) Xt true s.abs)=some (openGood q loose))
  (h3:∀ w os,(zZf treeTable p N w os).map (λs=>Yf s.abs)=some (Ya w)):LeftO p q loose Xt Yf Ya N:=λw=>by
 obtain⟨⟨h,gs,d,k,os⟩,e,e'⟩:=aJ.mp (open_ w);obtain⟨rfl,rfl,rfl,rfl⟩:h=boot_heap w.params/\gs = #[]/\d=boot_drawn/\k=boot_toks:=by simpa using e'
 obtain⟨z1,z2,z3⟩ : _/\_/\_:=by simpa only[Prod.mk.injEq] using zRa w.params
 obtain⟨s,r1,l1⟩:=aJ.mp (h1 w os);obtain⟨s',r2,l2⟩:=aJ.mp (h2 w os);obtain⟨s'',r3,l3⟩:=aJ.mp (h3 w os);rw[r1] at r2 r3;cases r2;cases r3;have r:=zJd r1;rw[show mY ⟨zU4 w.params,11,(boot_heap w.params).life,#[],boot_drawn,boot_toks,os⟩=⟨boot_heap w.params,#[],boot_drawn,boot_toks,os⟩ from by unfold mY; rw[zTf]] at r;have t:topFrom treeTable p w N ⟨boot_heap w.params,#[],boot_drawn,boot_toks,os⟩=some s.abs:=by
  unfold topFrom;dsimp only;rw[z1,z2,z3,r];show(match staticsOk (importedModules p.main.body) (boot_heap w.params) s.abs.heap&&namesBound p s.abs.heap&&gensDone s.abs&&laidKept (boot_heap w.params) s.abs.heap with | true=>_ | false=>_)=_;rw[l1]
 unfold openEnds;rw[e];show(topFrom treeTable p w N _).map _=_;rw[t];show some (_,_)=_;rw[l2,l3]
end PySem.W
namespace Sea
open PySem L2
def top(i:Nat):Stmt:=PySem.Challenge.pw_seamarks_k55_rooms_that_are_full.main.body.getD i (.Pass ⟨0,0,0,0⟩)
abbrev zD6:bN:=top 2
abbrev uF:bN:=top 4
abbrev uI:bN:=top 5
abbrev rZ:bN:=top 6
abbrev uM:bN:=top 31
abbrev qC:bN:=top 32
abbrev rS:bN:=top 33
abbrev zAn:bN:=top 34
abbrev vJ:bN:=top 35
abbrev vA:bN:=top 36
abbrev uG:bN:=top 37
abbrev tG:bN:=top 38
abbrev vD:bN:=top 39
abbrev vB:bN:=top 40
abbrev wY:bN:=top 41
abbrev tJ:bN:=top 42
abbrev uD:bN:=top 43
abbrev vK:bN:=top 44
abbrev vL:bN:=top 45
abbrev wV:bN:=top 46
abbrev vH:bN:=top 47
abbrev uO:bN:=top 48
abbrev vI:bN:=top 49
abbrev uH:bN:=top 50
abbrev vG:bN:=top 51
abbrev wL:bN:=top 52
abbrev uT:bN:=top 53
abbrev wS:bN:=top 54
abbrev zBr:bN:=top 56
abbrev zB1:bN:=top 60
abbrev zBj:bN:=top 61
abbrev zCb:bN:=top 62
abbrev zHj:bN:=top 63
abbrev zAi:bN:=top 64
abbrev qB:bN:=top 65
abbrev zDz:bN:=top 66
abbrev tL:bN:=top 67
abbrev tK:bN:=top 68
abbrev sW:bN:=top 69
abbrev zAp:bN:=top 70
abbrev tF:bN:=top 71
abbrev zEe:bN:=top 72
abbrev zHl:bN:=top 73
abbrev zBy:bN:=top 74
abbrev qA:bN:=top 75
abbrev zD1:bN:=top 76
abbrev zB6:bN:=top 77
abbrev sR:bN:=top 78
abbrev zAj:bN:=top 79
abbrev wU:bN:=top 80
abbrev zAq:bN:=top 81
abbrev zK5:bN:=top 82
abbrev zD2:bN:=zBf (top 58) 0
abbrev zEa:bN:=zBf (top 58) 11
abbrev zCa:bN:=zBf (top 58) 18
abbrev zBk:bN:=zBf (top 58) 19
abbrev zD4:bN:=zBf (top 58) 20
abbrev zCc:bN:=zBf (top 58) 21
abbrev zAo:bN:=zBf (top 58) 22
noncomputable def qv:Program:={ PySem.Challenge.pw_seamarks_k55_rooms_that_are_full with main:={ PySem.Challenge.pw_seamarks_k55_rooms_that_are_full.main with body:=[top 2,top 4,top 5,top 6,top 31,top 32,top 33,top 34,top 35,top 36,top 37,top 38,top 39,top 40,top 41,top 42,top 43,top 44,top 45,top 46,top 47,top 48,top 49,top 50,top 51,top 52,top 53,top 54,top 56,top 60,top 61,top 62,top 63,top 64,top 65,top 66,top 67,top 68,top 69,top 70,top 71,top 72,top 73,top 74,top 75,top 76,top 77,top 78,top 79,top 80,top 81,top 82] } }
def lse:List aC:=("_wall" : aC)::("MarkError" : aC)::("BadName" : aC)::("Taken" : aC)::("BadPlace" : aC)::("Full" : aC)::("NoMark" : aC)::("Same" : aC)::("Needed" : aC)::("BadBank" : aC)::("NoBank" : aC)::("BadRun" : aC)::("NoRun" : aC)::("NoMoment" : aC)::("BadWay" : aC)::("BadTurn" : aC)::("NoNote" : aC)::("NothingLeft" : aC)::("BadRow" : aC)::("MOST" : aC)::("LONGEST_NAME" : aC)::("FARTHEST" : aC)::("LONGEST_WAY" : aC)::("AFTER" : aC)::("Book" : aC)::[]
noncomputable def kd(P:eE)(x:aC)(t:Nat)(v:af):dn:=⟨gB P x,.str x t,v⟩
noncomputable def kc(l:List af):cA:=⟨.type "code", none,.fields (ar l),ar []⟩
noncomputable def kq(x:aC)(a:Nat)(l g:Int)(r:Nat)(u v w y z:af)(h:Int)(b:Nat):cA:=kc [.str x a,.str x (a+1),.str "/claim/cut.py" (a+2),.int l 0,.int g 0,.int 0 0,.int 0 0,.int 3 0,.ref r,.bool true,.int 181 0,u,v,w,y,z,.int h 0,.int l 0,.str "/claim/cut.py" b]
noncomputable abbrev kf(x:aC)(s:bN)(kV doc pm cd ct:af):cA:=⟨.type "function", none,.func (bG x x (wA s) (xK s) (zI s) .none kV doc pm none cd ct),ar []⟩
noncomputable abbrev kg(x:aC)(s:bN)(m:aC)(t c:Nat):cA:=kf x s .none .none (.str m t) (.ref c) .none
noncomputable abbrev kf2(x q:aC)(s:bN)(kV doc pm cd ct:af):cA:=⟨.type "function", none,.func (bG x q (wA s) (xK s) (zI s) .none kV doc pm none cd ct),ar []⟩
noncomputable def kNs(P:eE):cA:=⟨.type "dict", none,.dict (ar (kd P "__name__" 165 (.str "law_seamarks_k55_rooms_that_are_full" 1001)::kd P "__doc__" 166 .none::kd P "__package__" 167 .none::kd P "__loader__" 168 (.builtin "__main__.__loader__#opaque")::kd P "__spec__" 169 .none::kd P "__annotations__" 170 (.ref 6)::kd P "__builtins__" 171 (.ref 4)::kd P "__file__" 173 (.str "/claim/cut.py" 172)::kd P "__cached__" 174 .none::kd P "_wall" 193 (.ref 21)::kd P "turn" 203 (.ref 28)::kd P "stretch_way" 213 (.ref 35)::kd P "all_left_of" 225 (.ref 42)::kd P "is_bank" 231 (.ref 47)::kd P "MarkError" 251 (.ref 57)::kd P "BadName" 267 (.ref 70)::kd P "Taken" 283 (.ref 82)::kd P "BadPlace" 299 (.ref 94)::kd P "Full" 315 (.ref 106)::kd P "NoMark" 331 (.ref 118)::kd P "Same" 347 (.ref 130)::kd P "Needed" 363 (.ref 142)::kd P "BadBank" 379 (.ref 154)::kd P "NoBank" 395 (.ref 166)::kd P "BadRun" 411 (.ref 178)::kd P "NoRun" 427 (.ref 190)::kd P "NoMoment" 443 (.ref 202)::kd P "BadWay" 459 (.ref 214)::kd P "BadTurn" 475 (.ref 226)::kd P "NoNote" 491 (.ref 238)::kd P "NothingLeft" 507 (.ref 250)::kd P "BadRow" 532 (.ref 269)::kd P "MOST" 547 (.ref 272)::kd P "LONGEST_NAME" 549 (.int 8 548)::kd P "FARTHEST" 551 (.int 1000 550)::kd P "LONGEST_WAY" 553 (.int 100 552)::kd P "nothing_yet" 559 (.ref 279)::kd P "changed" 570 (.ref 286)::kd P "without" 580 (.ref 293)::kd P "within" 586 (.ref 298)::kd P "check_name" 592 (.ref 303)::kd P "check_free" 601 (.ref 310)::kd P "check_place" 608 (.ref 317)::kd P "check_run" 615 (.ref 324)::kd P "check_room" 623 (.ref 331)::kd P "check_mark" 631 (.ref 338)::kd P "check_moment" 639 (.ref 345)::kd P "check_way" 646 (.ref 352)::kd P "check_apart" 655 (.ref 359)::kd P "after_mark" 665 (.ref 366)::kd P "after_move" 676 (.ref 373)::kd P "after_unmark" 686 (.ref 380)::kd P "after_bank" 697 (.ref 387)::kd P "after_level" 706 (.ref 394)::kd P "after_sail" 715 (.ref 401)::kd P "after_right" 725 (.ref 408)::kd P "after_note" 734 (.ref 415)::kd P "after_bearing" 742 (.ref 422)::kd P "after_range" 750 (.ref 429)::kd P "after_strike" 759 (.ref 436)::kd P "AFTER" 780 (.ref 437)::kd P "after" 788 (.ref 444)::kd P "Book" 1000 (.ref 611)::kd P "_law_power" 1009 (.ref 622)::kd P "_law_draws" 1021 (.ref 629)::kd P "_law_names" 1027 (.ref 634)::kd P "_law_new" 1033 (.ref 641)::kd P "_law_filled" 1045 (.ref 648)::kd P "_law_is_name" 1051 (.ref 653)::kd P "_law_near" 1059 (.ref 660)::kd P "_law_mark_word" 1065 (.ref 665)::kd P "_law_bank_word" 1071 (.ref 670)::kd P "_law_run_word" 1079 (.ref 677)::kd P "_law_turned" 1087 (.ref 684)::kd P "_law_note_word" 1097 (.ref 691)::kd P "_law_word" 1105 (.ref 698)::kd P "_law_due" 1114 (.ref 705)::kd P "_law_same" 1120 (.ref 710)::kd P "_law_refused" 1126 (.ref 715)::kd P "_law_done" 1135 (.ref 722)::kd P "_law_after" 1144 (.ref 729)::kd P "_law_marks_of" 1150 (.ref 734)::kd P "_law_stands" 1158 (.ref 741)::kd P "_law_round_enough" 1165 (.ref 748)::kd P "_law_beyond" 1175 (.ref 755)::kd P "law" 1188 (.ref 762)::[])) 86,ar []⟩
noncomputable def KG(P:eE):ae :=
 (nat_lit 56,⟨.type "dict", none,.dict (ar (kd P "__module__" 241 (.str "seamarks.errors" 232)::kd P "__firstlineno__" 245 (.int 23 244)::kd P "__static_attributes__" 246 (.ref 55)::kd P "__weakref__" 248 (.ref 58)::kd P "__doc__" 249 .none::[])) 3,ar []⟩) ::
 (nat_lit 69,⟨.type "dict", none,.dict (ar (kd P "__module__" 259 (.str "seamarks.errors" 232)::kd P "__firstlineno__" 263 (.int 25 262)::kd P "__static_attributes__" 264 (.ref 68)::kd P "__doc__" 265 .none::[])) 2,ar []⟩) ::
 (nat_lit 81,⟨.type "dict", none,.dict (ar (kd P "__module__" 275 (.str "seamarks.errors" 232)::kd P "__firstlineno__" 279 (.int 27 278)::kd P "__static_attributes__" 280 (.ref 80)::kd P "__doc__" 281 .none::[])) 2,ar []⟩) ::
 (nat_lit 93,⟨.type "dict", none,.dict (ar (kd P "__module__" 291 (.str "seamarks.errors" 232)::kd P "__firstlineno__" 295 (.int 29 294)::kd P "__static_attributes__" 296 (.ref 92)::kd P "__doc__" 297 .none::[])) 2,ar []⟩) ::
 (nat_lit 105,⟨.type "dict", none,.dict (ar (kd P "__module__" 307 (.str "seamarks.errors" 232)::kd P "__firstlineno__" 311 (.int 31 310)::kd P "__static_attributes__" 312 (.ref 104)::kd P "__doc__" 313 .none::[])) 2,ar []⟩) ::
 (nat_lit 117,⟨.type "dict", none,.dict (ar (kd P "__module__" 323 (.str "seamarks.errors" 232)::kd P "__firstlineno__" 327 (.int 33 326)::kd P "__static_attributes__" 328 (.ref 116)::kd P "__doc__" 329 .none::[])) 2,ar []⟩) ::
 (nat_lit 129,⟨.type "dict", none,.dict (ar (kd P "__module__" 339 (.str "seamarks.errors" 232)::kd P "__firstlineno__" 343 (.int 35 342)::kd P "__static_attributes__" 344 (.ref 128)::kd P "__doc__" 345 .none::[])) 2,ar []⟩) ::
 (nat_lit 141,⟨.type "dict", none,.dict (ar (kd P "__module__" 355 (.str "seamarks.errors" 232)::kd P "__firstlineno__" 359 (.int 37 358)::kd P "__static_attributes__" 360 (.ref 140)::kd P "__doc__" 361 .none::[])) 2,ar []⟩) ::
 (nat_lit 153,⟨.type "dict", none,.dict (ar (kd P "__module__" 371 (.str "seamarks.errors" 232)::kd P "__firstlineno__" 375 (.int 39 374)::kd P "__static_attributes__" 376 (.ref 152)::kd P "__doc__" 377 .none::[])) 2,ar []⟩) ::
 (nat_lit 165,⟨.type "dict", none,.dict (ar (kd P "__module__" 387 (.str "seamarks.errors" 232)::kd P "__firstlineno__" 391 (.int 41 390)::kd P "__static_attributes__" 392 (.ref 164)::kd P "__doc__" 393 .none::[])) 2,ar []⟩) ::
 (nat_lit 177,⟨.type "dict", none,.dict (ar (kd P "__module__" 403 (.str "seamarks.errors" 232)::kd P "__firstlineno__" 407 (.int 43 406)::kd P "__static_attributes__" 408 (.ref 176)::kd P "__doc__" 409 .none::[])) 2,ar []⟩) ::
 (nat_lit 189,⟨.type "dict", none,.dict (ar (kd P "__module__" 419 (.str "seamarks.errors" 232)::kd P "__firstlineno__" 423 (.int 45 422)::kd P "__static_attributes__" 424 (.ref 188)::kd P "__doc__" 425 .none::[])) 2,ar []⟩) ::
 (nat_lit 201,⟨.type "dict", none,.dict (ar (kd P "__module__" 435 (.str "seamarks.errors" 232)::kd P "__firstlineno__" 439 (.int 47 438)::kd P "__static_attributes__" 440 (.ref 200)::kd P "__doc__" 441 .none::[])) 2,ar []⟩) ::
 (nat_lit 213,⟨.type "dict", none,.dict (ar (kd P "__module__" 451 (.str "seamarks.errors" 232)::kd P "__firstlineno__" 455 (.int 49 454)::kd P "__static_attributes__" 456 (.ref 212)::kd P "__doc__" 457 .none::[])) 2,ar []⟩) ::
 (nat_lit 225,⟨.type "dict", none,.dict (ar (kd P "__module__" 467 (.str "seamarks.errors" 232)::kd P "__firstlineno__" 471 (.int 51 470)::kd P "__static_attributes__" 472 (.ref 224)::kd P "__doc__" 473 .none::[])) 2,ar []⟩) ::
 (nat_lit 237,⟨.type "dict", none,.dict (ar (kd P "__module__" 483 (.str "seamarks.errors" 232)::kd P "__firstlineno__" 487 (.int 53 486)::kd P "__static_attributes__" 488 (.ref 236)::kd P "__doc__" 489 .none::[])) 2,ar []⟩) ::
 (nat_lit 249,⟨.type "dict", none,.dict (ar (kd P "__module__" 499 (.str "seamarks.errors" 232)::kd P "__firstlineno__" 503 (.int 55 502)::kd P "__static_attributes__" 504 (.ref 248)::kd P "__doc__" 505 .none::[])) 2,ar []⟩) ::
 (nat_lit 268,⟨.type "dict", none,.dict (ar (kd P "__module__" 515 (.str "seamarks.errors" 232)::kd P "__firstlineno__" 519 (.int 57 518)::kd P "__init__" 527 (.ref 266)::kd P "__static_attributes__" 529 (.ref 267)::kd P "__doc__" 530 .none::[])) 2,ar []⟩) ::
 (nat_lit 272,⟨.type "dict", none,.dict (ar (kd P "marks" 535 (.int 20 536)::kd P "banks" 537 (.int 8 538)::kd P "runs" 539 (.int 12 540)::kd P "notes" 541 (.int 24 542)::[])) 4,ar []⟩) ::
 (nat_lit 437,⟨.type "dict", none,.dict (ar (kd P "mark" 760 (.ref 366)::kd P "move" 761 (.ref 373)::kd P "unmark" 762 (.ref 380)::kd P "bank" 763 (.ref 387)::kd P "level" 764 (.ref 394)::kd P "sail" 765 (.ref 401)::kd P "right" 766 (.ref 408)::kd P "bearing" 767 (.ref 422)::kd P "range" 768 (.ref 429)::kd P "strike" 769 (.ref 436)::[])) 10,ar []⟩) ::
 (nat_lit 610,⟨.type "dict", none,.dict (ar (kd P "__module__" 798 (.str "seamarks.book" 789)::kd P "__firstlineno__" 802 (.int 188 801)::kd P "__init__" 809 (.ref 458)::kd P "mark" 819 (.ref 465)::kd P "move" 829 (.ref 472)::kd P "unmark" 837 (.ref 479)::kd P "bank" 846 (.ref 486)::kd P "level" 854 (.ref 493)::kd P "sail" 863 (.ref 500)::kd P "right" 873 (.ref 507)::kd P "bearing" 884 (.ref 514)::kd P "range_note" 894 (.ref 521)::kd P "strike" 902 (.ref 528)::kd P "deed" 912 (.ref 535)::kd P "step" 921 (.ref 542)::kd P "undo" 928 (.ref 549)::kd P "redo" 935 (.ref 556)::kd P "deeds" 942 (.ref 563)::kd P "undone" 949 (.ref 570)::kd P "twin" 956 (.ref 577)::kd P "marks" 962 (.ref 582)::kd P "banks" 969 (.ref 589)::kd P "runs" 975 (.ref 594)::kd P "notes" 982 (.ref 601)::kd P "coming" 989 (.ref 608)::kd P "__static_attributes__" 993 (.ref 609)::kd P "__dict__" 995 (.ref 612)::kd P "__weakref__" 997 (.ref 613)::kd P "__doc__" 998 .none::[])) 4,ar []⟩)::[]
noncomputable abbrev KF(P:eE):ae:=(nat_lit 3,kNs P)::KG P
noncomputable def KC:ae :=
 (nat_lit 27,kq "turn" 196 5 2 22 (.ref 23) .none (.ref 24) (.ref 25) (.ref 26) 201 202) ::
 (nat_lit 28,kg "turn" zD6 "seamarks.sides" 194 27) ::
 (nat_lit 34,kq "stretch_way" 206 8 2 29 (.ref 30) .none (.ref 31) (.ref 32) (.ref 33) 211 212) ::
 (nat_lit 35,kg "stretch_way" uF "seamarks.banks" 204 34) ::
 (nat_lit 41,kq "all_left_of" 214 10 2 36 (.ref 37) .none (.ref 38) (.ref 39) (.ref 40) 223 224) ::
 (nat_lit 42,kg "all_left_of" uI "seamarks.banks" 204 41) ::
 (nat_lit 46,kq "is_bank" 226 18 1 43 (.ref 44) .none .none .none (.ref 45) 229 230) ::
 (nat_lit 47,kg "is_bank" rZ "seamarks.banks" 204 46) ::
 (nat_lit 57,(@PySem.Obj.mk (.type "type") none (@PySem.Data.cls (@PySem.ClassData.mk "MarkError" ((.type "ValueError")::[]) ((.ref 57)::((.type "ValueError")::((.type "Exception")::((.type "BaseException")::((.type "object")::[]))))) 56 "MarkError" true [] ((.ref 70)::((.ref 82)::((.ref 94)::((.ref 106)::((.ref 118)::((.ref 130)::((.ref 142)::((.ref 154)::((.ref 166)::((.ref 178)::((.ref 190)::((.ref 202)::((.ref 214)::((.ref 226)::((.ref 238)::((.ref 250)::((.ref 269)::[]))))))))))))))))) false none false)) (ar ((some (.ref 48))::(none::((some (.str "MarkError" 234))::((some (.str "MarkError" 242))::((some (.builtin "ValueError.__new__"))::((some (.bool true))::[]))))))))) ::
 (nat_lit 70,(@PySem.Obj.mk (.type "type") none (@PySem.Data.cls (@PySem.ClassData.mk "BadName" ((.ref 57)::[]) ((.ref 70)::((.ref 57)::((.type "ValueError")::((.type "Exception")::((.type "BaseException")::((.type "object")::[])))))) 69 "BadName" true [] [] false none false)) (ar ((some (.ref 61))::(none::((some (.str "BadName" 252))::((some (.str "BadName" 260))::((some (.builtin "ValueError.__new__"))::((some (.bool true))::[]))))))))) ::
 (nat_lit 82,(@PySem.Obj.mk (.type "type") none (@PySem.Data.cls (@PySem.ClassData.mk "Taken" ((.ref 57)::[]) ((.ref 82)::((.ref 57)::((.type "ValueError")::((.type "Exception")::((.type "BaseException")::((.type "object")::[])))))) 81 "Taken" true [] [] false none false)) (ar ((some (.ref 73))::(none::((some (.str "Taken" 268))::((some (.str "Taken" 276))::((some (.builtin "ValueError.__new__"))::((some (.bool true))::[]))))))))) ::
 (nat_lit 94,(@PySem.Obj.mk (.type "type") none (@PySem.Data.cls (@PySem.ClassData.mk "BadPlace" ((.ref 57)::[]) ((.ref 94)::((.ref 57)::((.type "ValueError")::((.type "Exception")::((.type "BaseException")::((.type "object")::[])))))) 93 "BadPlace" true [] [] false none false)) (ar ((some (.ref 85))::(none::((some (.str "BadPlace" 284))::((some (.str "BadPlace" 292))::((some (.builtin "ValueError.__new__"))::((some (.bool true))::[]))))))))) ::
 (nat_lit 106,(@PySem.Obj.mk (.type "type") none (@PySem.Data.cls (@PySem.ClassData.mk "Full" ((.ref 57)::[]) ((.ref 106)::((.ref 57)::((.type "ValueError")::((.type "Exception")::((.type "BaseException")::((.type "object")::[])))))) 105 "Full" true [] [] false none false)) (ar ((some (.ref 97))::(none::((some (.str "Full" 300))::((some (.str "Full" 308))::((some (.builtin "ValueError.__new__"))::((some (.bool true))::[]))))))))) ::
 (nat_lit 118,(@PySem.Obj.mk (.type "type") none (@PySem.Data.cls (@PySem.ClassData.mk "NoMark" ((.ref 57)::[]) ((.ref 118)::((.ref 57)::((.type "ValueError")::((.type "Exception")::((.type "BaseException")::((.type "object")::[])))))) 117 "NoMark" true [] [] false none false)) (ar ((some (.ref 109))::(none::((some (.str "NoMark" 316))::((some (.str "NoMark" 324))::((some (.builtin "ValueError.__new__"))::((some (.bool true))::[]))))))))) ::
 (nat_lit 130,(@PySem.Obj.mk (.type "type") none (@PySem.Data.cls (@PySem.ClassData.mk "Same" ((.ref 57)::[]) ((.ref 130)::((.ref 57)::((.type "ValueError")::((.type "Exception")::((.type "BaseException")::((.type "object")::[])))))) 129 "Same" true [] [] false none false)) (ar ((some (.ref 121))::(none::((some (.str "Same" 332))::((some (.str "Same" 340))::((some (.builtin "ValueError.__new__"))::((some (.bool true))::[]))))))))) ::
 (nat_lit 142,(@PySem.Obj.mk (.type "type") none (@PySem.Data.cls (@PySem.ClassData.mk "Needed" ((.ref 57)::[]) ((.ref 142)::((.ref 57)::((.type "ValueError")::((.type "Exception")::((.type "BaseException")::((.type "object")::[])))))) 141 "Needed" true [] [] false none false)) (ar ((some (.ref 133))::(none::((some (.str "Needed" 348))::((some (.str "Needed" 356))::((some (.builtin "ValueError.__new__"))::((some (.bool true))::[]))))))))) ::
 (nat_lit 154,(@PySem.Obj.mk (.type "type") none (@PySem.Data.cls (@PySem.ClassData.mk "BadBank" ((.ref 57)::[]) ((.ref 154)::((.ref 57)::((.type "ValueError")::((.type "Exception")::((.type "BaseException")::((.type "object")::[])))))) 153 "BadBank" true [] [] false none false)) (ar ((some (.ref 145))::(none::((some (.str "BadBank" 364))::((some (.str "BadBank" 372))::((some (.builtin "ValueError.__new__"))::((some (.bool true))::[]))))))))) ::
 (nat_lit 166,(@PySem.Obj.mk (.type "type") none (@PySem.Data.cls (@PySem.ClassData.mk "NoBank" ((.ref 57)::[]) ((.ref 166)::((.ref 57)::((.type "ValueError")::((.type "Exception")::((.type "BaseException")::((.type "object")::[])))))) 165 "NoBank" true [] [] false none false)) (ar ((some (.ref 157))::(none::((some (.str "NoBank" 380))::((some (.str "NoBank" 388))::((some (.builtin "ValueError.__new__"))::((some (.bool true))::[]))))))))) ::
 (nat_lit 178,(@PySem.Obj.mk (.type "type") none (@PySem.Data.cls (@PySem.ClassData.mk "BadRun" ((.ref 57)::[]) ((.ref 178)::((.ref 57)::((.type "ValueError")::((.type "Exception")::((.type "BaseException")::((.type "object")::[])))))) 177 "BadRun" true [] [] false none false)) (ar ((some (.ref 169))::(none::((some (.str "BadRun" 396))::((some (.str "BadRun" 404))::((some (.builtin "ValueError.__new__"))::((some (.bool true))::[]))))))))) ::
 (nat_lit 190,(@PySem.Obj.mk (.type "type") none (@PySem.Data.cls (@PySem.ClassData.mk "NoRun" ((.ref 57)::[]) ((.ref 190)::((.ref 57)::((.type "ValueError")::((.type "Exception")::((.type "BaseException")::((.type "object")::[])))))) 189 "NoRun" true [] [] false none false)) (ar ((some (.ref 181))::(none::((some (.str "NoRun" 412))::((some (.str "NoRun" 420))::((some (.builtin "ValueError.__new__"))::((some (.bool true))::[]))))))))) ::
 (nat_lit 202,(@PySem.Obj.mk (.type "type") none (@PySem.Data.cls (@PySem.ClassData.mk "NoMoment" ((.ref 57)::[]) ((.ref 202)::((.ref 57)::((.type "ValueError")::((.type "Exception")::((.type "BaseException")::((.type "object")::[])))))) 201 "NoMoment" true [] [] false none false)) (ar ((some (.ref 193))::(none::((some (.str "NoMoment" 428))::((some (.str "NoMoment" 436))::((some (.builtin "ValueError.__new__"))::((some (.bool true))::[]))))))))) ::
 (nat_lit 214,(@PySem.Obj.mk (.type "type") none (@PySem.Data.cls (@PySem.ClassData.mk "BadWay" ((.ref 57)::[]) ((.ref 214)::((.ref 57)::((.type "ValueError")::((.type "Exception")::((.type "BaseException")::((.type "object")::[])))))) 213 "BadWay" true [] [] false none false)) (ar ((some (.ref 205))::(none::((some (.str "BadWay" 444))::((some (.str "BadWay" 452))::((some (.builtin "ValueError.__new__"))::((some (.bool true))::[]))))))))) ::
 (nat_lit 226,(@PySem.Obj.mk (.type "type") none (@PySem.Data.cls (@PySem.ClassData.mk "BadTurn" ((.ref 57)::[]) ((.ref 226)::((.ref 57)::((.type "ValueError")::((.type "Exception")::((.type "BaseException")::((.type "object")::[])))))) 225 "BadTurn" true [] [] false none false)) (ar ((some (.ref 217))::(none::((some (.str "BadTurn" 460))::((some (.str "BadTurn" 468))::((some (.builtin "ValueError.__new__"))::((some (.bool true))::[]))))))))) ::
 (nat_lit 238,(@PySem.Obj.mk (.type "type") none (@PySem.Data.cls (@PySem.ClassData.mk "NoNote" ((.ref 57)::[]) ((.ref 238)::((.ref 57)::((.type "ValueError")::((.type "Exception")::((.type "BaseException")::((.type "object")::[])))))) 237 "NoNote" true [] [] false none false)) (ar ((some (.ref 229))::(none::((some (.str "NoNote" 476))::((some (.str "NoNote" 484))::((some (.builtin "ValueError.__new__"))::((some (.bool true))::[]))))))))) ::
 (nat_lit 250,(@PySem.Obj.mk (.type "type") none (@PySem.Data.cls (@PySem.ClassData.mk "NothingLeft" ((.ref 57)::[]) ((.ref 250)::((.ref 57)::((.type "ValueError")::((.type "Exception")::((.type "BaseException")::((.type "object")::[])))))) 249 "NothingLeft" true [] [] false none false)) (ar ((some (.ref 241))::(none::((some (.str "NothingLeft" 492))::((some (.str "NothingLeft" 500))::((some (.builtin "ValueError.__new__"))::((some (.bool true))::[]))))))))) ::
 (nat_lit 269,(@PySem.Obj.mk (.type "type") none (@PySem.Data.cls (@PySem.ClassData.mk "BadRow" ((.ref 57)::[]) ((.ref 269)::((.ref 57)::((.type "ValueError")::((.type "Exception")::((.type "BaseException")::((.type "object")::[])))))) 268 "BadRow" true [] [] false none false)) (ar ((some (.ref 253))::(none::((some (.str "BadRow" 508))::((some (.str "BadRow" 516))::((some (.builtin "ValueError.__new__"))::((some (.bool true))::[]))))))))) ::
 (nat_lit 278,kq "nothing_yet" 554 67 0 273 (.ref 274) .none (.ref 275) (.ref 276) (.ref 277) 557 558) ::
 (nat_lit 279,kg "nothing_yet" uM "seamarks.deeds" 533 278) ::
 (nat_lit 285,kq "changed" 560 69 4 280 (.ref 281) .none (.ref 282) (.ref 283) (.ref 284) 568 569) ::
 (nat_lit 286,kg "changed" qC "seamarks.deeds" 533 285) ::
 (nat_lit 292,kq "without" 571 74 3 287 (.ref 288) .none (.ref 289) (.ref 290) (.ref 291) 578 579) ::
 (nat_lit 293,kg "without" rS "seamarks.deeds" 533 292) ::
 (nat_lit 297,kq "within" 581 79 2 294 (.ref 295) .none .none .none (.ref 296) 584 585) ::
 (nat_lit 298,kg "within" zAn "seamarks.deeds" 533 297) ::
 (nat_lit 302,kq "check_name" 587 81 1 299 (.ref 300) .none .none .none (.ref 301) 590 591) ::
 (nat_lit 303,kg "check_name" vJ "seamarks.deeds" 533 302) ::
 (nat_lit 309,kq "check_free" 593 84 3 304 (.ref 305) .none (.ref 306) (.ref 307) (.ref 308) 599 600) ::
 (nat_lit 310,kg "check_free" vA "seamarks.deeds" 533 309) ::
 (nat_lit 316,kq "check_place" 602 87 1 311 (.ref 312) .none (.ref 313) (.ref 314) (.ref 315) 606 607) ::
 (nat_lit 317,kg "check_place" uG "seamarks.deeds" 533 316) ::
 (nat_lit 323,kq "check_run" 609 90 1 318 (.ref 319) .none (.ref 320) (.ref 321) (.ref 322) 613 614) ::
 (nat_lit 324,kg "check_run" tG "seamarks.deeds" 533 323) ::
 (nat_lit 330,kq "check_room" 616 93 2 325 (.ref 326) .none (.ref 327) (.ref 328) (.ref 329) 621 622) ::
 (nat_lit 331,kg "check_room" vD "seamarks.deeds" 533 330) ::
 (nat_lit 337,kq "check_mark" 624 96 2 332 (.ref 333) .none (.ref 334) (.ref 335) (.ref 336) 629 630) ::
 (nat_lit 338,kg "check_mark" vB "seamarks.deeds" 533 337) ::
 (nat_lit 344,kq "check_moment" 632 99 2 339 (.ref 340) .none (.ref 341) (.ref 342) (.ref 343) 637 638) ::
 (nat_lit 345,kg "check_moment" wY "seamarks.deeds" 533 344) ::
 (nat_lit 351,kq "check_way" 640 102 1 346 (.ref 347) .none (.ref 348) (.ref 349) (.ref 350) 644 645) ::
 (nat_lit 352,kg "check_way" tJ "seamarks.deeds" 533 351) ::
 (nat_lit 358,kq "check_apart" 647 105 3 353 (.ref 354) .none (.ref 355) (.ref 356) (.ref 357) 653 654) ::
 (nat_lit 359,kg "check_apart" uD "seamarks.deeds" 533 358) ::
 (nat_lit 365,kq "after_mark" 656 108 2 360 (.ref 361) .none (.ref 362) (.ref 363) (.ref 364) 663 664) ::
 (nat_lit 366,kg "after_mark" vK "seamarks.deeds" 533 365) ::
 (nat_lit 372,kq "after_move" 666 116 2 367 (.ref 368) .none (.ref 369) (.ref 370) (.ref 371) 674 675) ::
 (nat_lit 373,kg "after_move" vL "seamarks.deeds" 533 372) ::
 (nat_lit 379,kq "after_unmark" 677 125 2 374 (.ref 375) .none (.ref 376) (.ref 377) (.ref 378) 684 685) ::
 (nat_lit 380,kg "after_unmark" wV "seamarks.deeds" 533 379) ::
 (nat_lit 386,kq "after_bank" 687 132 2 381 (.ref 382) .none (.ref 383) (.ref 384) (.ref 385) 695 696) ::
 (nat_lit 387,kg "after_bank" vH "seamarks.deeds" 533 386) ::
 (nat_lit 393,kq "after_level" 698 143 2 388 (.ref 389) .none (.ref 390) (.ref 391) (.ref 392) 704 705) ::
 (nat_lit 394,kg "after_level" uO "seamarks.deeds" 533 393) ::
 (nat_lit 400,kq "after_sail" 707 148 2 395 (.ref 396) .none (.ref 397) (.ref 398) (.ref 399) 713 714) ::
 (nat_lit 401,kg "after_sail" vI "seamarks.deeds" 533 400) ::
 (nat_lit 407,kq "after_right" 716 153 2 402 (.ref 403) .none (.ref 404) (.ref 405) (.ref 406) 723 724) ::
 (nat_lit 408,kg "after_right" uH "seamarks.deeds" 533 407) ::
 (nat_lit 414,kq "after_note" 726 160 2 409 (.ref 410) .none (.ref 411) (.ref 412) (.ref 413) 732 733) ::
 (nat_lit 415,kg "after_note" vG "seamarks.deeds" 533 414) ::
 (nat_lit 421,kq "after_bearing" 735 165 2 416 (.ref 417) .none (.ref 418) (.ref 419) (.ref 420) 740 741) ::
 (nat_lit 422,kg "after_bearing" wL "seamarks.deeds" 533 421) ::
 (nat_lit 428,kq "after_range" 743 173 2 423 (.ref 424) .none (.ref 425) (.ref 426) (.ref 427) 748 749) ::
 (nat_lit 429,kg "after_range" uT "seamarks.deeds" 533 428) ::
 (nat_lit 435,kq "after_strike" 751 179 2 430 (.ref 431) .none (.ref 432) (.ref 433) (.ref 434) 757 758) ::
 (nat_lit 436,kg "after_strike" wS "seamarks.deeds" 533 435) ::
 (nat_lit 443,kq "after" 781 185 2 438 (.ref 439) .none (.ref 440) (.ref 441) (.ref 442) 786 787) ::
 (nat_lit 444,kg "after" zBr "seamarks.deeds" 533 443) ::
 (nat_lit 457,kc ((.str "__init__" 803)::((.str "Book.__init__" 804)::((.str "/claim/cut.py" 805)::((.int 190 0)::((.int 1 0)::((.int 0 0)::((.int 0 0)::((.int 3 0)::((.ref 452)::((.bool true)::((.int 181 0)::((.ref 453)::(.none::((.ref 454)::((.ref 455)::((.ref 456)::((.int 807 0)::((.int 190 0)::((.str "/claim/cut.py" 808)::[])))))))))))))))))))) ::
 (nat_lit 458,kf2 "__init__" "Book.__init__" zD2 .none .none (.str "seamarks.book" 789) (.ref 457) .none) ::
 (nat_lit 534,kc ((.str "deed" 903)::((.str "Book.deed" 904)::((.str "/claim/cut.py" 905)::((.int 225 0)::((.int 2 0)::((.int 0 0)::((.int 0 0)::((.int 3 0)::((.ref 529)::((.bool true)::((.int 181 0)::((.ref 530)::(.none::((.ref 531)::((.ref 532)::((.ref 533)::((.int 910 0)::((.int 225 0)::((.str "/claim/cut.py" 911)::[])))))))))))))))))))) ::
 (nat_lit 535,kf2 "deed" "Book.deed" zEa .none .none (.str "seamarks.book" 789) (.ref 534) .none) ::
 (nat_lit 581,kc ((.str "marks" 957)::((.str "Book.marks" 958)::((.str "/claim/cut.py" 959)::((.int 251 0)::((.int 1 0)::((.int 0 0)::((.int 0 0)::((.int 3 0)::((.ref 578)::((.bool true)::((.int 181 0)::((.ref 579)::(.none::(.none::(.none::((.ref 580)::((.int 960 0)::((.int 251 0)::((.str "/claim/cut.py" 961)::[])))))))))))))))))))) ::
 (nat_lit 582,kf2 "marks" "Book.marks" zCa .none .none (.str "seamarks.book" 789) (.ref 581) .none) ::
 (nat_lit 588,kc ((.str "banks" 963)::((.str "Book.banks" 964)::((.str "/claim/cut.py" 965)::((.int 255 0)::((.int 1 0)::((.int 0 0)::((.int 0 0)::((.int 3 0)::((.ref 583)::((.bool true)::((.int 181 0)::((.ref 584)::(.none::((.ref 585)::((.ref 586)::((.ref 587)::((.int 967 0)::((.int 255 0)::((.str "/claim/cut.py" 968)::[])))))))))))))))))))) ::
 (nat_lit 589,kf2 "banks" "Book.banks" zBk .none .none (.str "seamarks.book" 789) (.ref 588) .none) ::
 (nat_lit 593,kc ((.str "runs" 970)::((.str "Book.runs" 971)::((.str "/claim/cut.py" 972)::((.int 258 0)::((.int 1 0)::((.int 0 0)::((.int 0 0)::((.int 3 0)::((.ref 590)::((.bool true)::((.int 181 0)::((.ref 591)::(.none::(.none::(.none::((.ref 592)::((.int 973 0)::((.int 258 0)::((.str "/claim/cut.py" 974)::[])))))))))))))))))))) ::
 (nat_lit 594,kf2 "runs" "Book.runs" zD4 .none .none (.str "seamarks.book" 789) (.ref 593) .none) ::
 (nat_lit 600,kc ((.str "notes" 976)::((.str "Book.notes" 977)::((.str "/claim/cut.py" 978)::((.int 262 0)::((.int 1 0)::((.int 0 0)::((.int 0 0)::((.int 3 0)::((.ref 595)::((.bool true)::((.int 181 0)::((.ref 596)::(.none::((.ref 597)::((.ref 598)::((.ref 599)::((.int 980 0)::((.int 262 0)::((.str "/claim/cut.py" 981)::[])))))))))))))))))))) ::
 (nat_lit 601,kf2 "notes" "Book.notes" zCc .none .none (.str "seamarks.book" 789) (.ref 600) .none) ::
 (nat_lit 607,kc ((.str "coming" 983)::((.str "Book.coming" 984)::((.str "/claim/cut.py" 985)::((.int 265 0)::((.int 1 0)::((.int 0 0)::((.int 0 0)::((.int 3 0)::((.ref 602)::((.bool true)::((.int 181 0)::((.ref 603)::(.none::((.ref 604)::((.ref 605)::((.ref 606)::((.int 987 0)::((.int 265 0)::((.str "/claim/cut.py" 988)::[])))))))))))))))))))) ::
 (nat_lit 608,kf2 "coming" "Book.coming" zAo .none .none (.str "seamarks.book" 789) (.ref 607) .none) ::
 (nat_lit 611,(@PySem.Obj.mk (.type "type") none (@PySem.Data.cls (@PySem.ClassData.mk "Book" ((.type "object")::[]) ((.ref 611)::((.type "object")::[])) 610 "Book" true [] [] false none false)) (ar (none::(none::((some (.str "Book" 791))::((some (.str "Book" 799))::((some (.builtin "object.__new__"))::((some (.bool true))::[]))))))))) ::
 (nat_lit 621,kq "_law_power" 1003 268 1 616 (.ref 617) .none (.ref 618) (.ref 619) (.ref 620) 1007 1008) ::
 (nat_lit 622,kg "_law_power" zB1 "law_seamarks_k55_rooms_that_are_full" 1001 621) ::
 (nat_lit 628,kq "_law_draws" 1010 270 2 623 (.ref 624) .none (.ref 625) (.ref 626) (.ref 627) 1019 1020) ::
 (nat_lit 629,kg "_law_draws" zBj "law_seamarks_k55_rooms_that_are_full" 1001 628) ::
 (nat_lit 633,kq "_law_names" 1022 286 2 630 (.ref 631) .none .none .none (.ref 632) 1025 1026) ::
 (nat_lit 634,kg "_law_names" zCb "law_seamarks_k55_rooms_that_are_full" 1001 633) ::
 (nat_lit 640,kq "_law_new" 1028 301 0 635 (.ref 636) .none (.ref 637) (.ref 638) (.ref 639) 1031 1032) ::
 (nat_lit 641,kg "_law_new" zHj "law_seamarks_k55_rooms_that_are_full" 1001 640) ::
 (nat_lit 647,kq "_law_filled" 1034 303 2 642 (.ref 643) .none (.ref 644) (.ref 645) (.ref 646) 1043 1044) ::
 (nat_lit 648,kg "_law_filled" zAi "law_seamarks_k55_rooms_that_are_full" 1001 647) ::
 (nat_lit 652,kq "_law_is_name" 1046 318 1 649 (.ref 650) .none .none .none (.ref 651) 1049 1050) ::
 (nat_lit 653,kg "_law_is_name" qB "law_seamarks_k55_rooms_that_are_full" 1001 652) ::
 (nat_lit 659,kq "_law_near" 1052 320 2 654 (.ref 655) .none (.ref 656) (.ref 657) (.ref 658) 1057 1058) ::
 (nat_lit 660,kg "_law_near" zDz "law_seamarks_k55_rooms_that_are_full" 1001 659) ::
 (nat_lit 664,kq "_law_mark_word" 1060 322 2 661 (.ref 662) .none .none .none (.ref 663) 1063 1064) ::
 (nat_lit 665,kg "_law_mark_word" tL "law_seamarks_k55_rooms_that_are_full" 1001 664) ::
 (nat_lit 669,kq "_law_bank_word" 1066 344 2 666 (.ref 667) .none .none .none (.ref 668) 1069 1070) ::
 (nat_lit 670,kg "_law_bank_word" tK "law_seamarks_k55_rooms_that_are_full" 1001 669) ::
 (nat_lit 676,kq "_law_run_word" 1072 356 2 671 (.ref 672) .none (.ref 673) (.ref 674) (.ref 675) 1077 1078) ::
 (nat_lit 677,kg "_law_run_word" sW "law_seamarks_k55_rooms_that_are_full" 1001 676) ::
 (nat_lit 683,kq "_law_turned" 1080 364 2 678 (.ref 679) .none (.ref 680) (.ref 681) (.ref 682) 1085 1086) ::
 (nat_lit 684,kg "_law_turned" zAp "law_seamarks_k55_rooms_that_are_full" 1001 683) ::
 (nat_lit 690,kq "_law_note_word" 1088 366 2 685 (.ref 686) .none (.ref 687) (.ref 688) (.ref 689) 1095 1096) ::
 (nat_lit 691,kg "_law_note_word" tF "law_seamarks_k55_rooms_that_are_full" 1001 690) ::
 (nat_lit 697,kq "_law_word" 1098 382 2 692 (.ref 693) .none (.ref 694) (.ref 695) (.ref 696) 1103 1104) ::
 (nat_lit 698,kg "_law_word" zEe "law_seamarks_k55_rooms_that_are_full" 1001 697) ::
 (nat_lit 704,kq "_law_due" 1106 390 2 699 (.ref 700) .none (.ref 701) (.ref 702) (.ref 703) 1112 1113) ::
 (nat_lit 705,kg "_law_due" zHl "law_seamarks_k55_rooms_that_are_full" 1001 704) ::
 (nat_lit 709,kq "_law_same" 1115 395 2 706 (.ref 707) .none .none .none (.ref 708) 1118 1119) ::
 (nat_lit 710,kg "_law_same" zBy "law_seamarks_k55_rooms_that_are_full" 1001 709) ::
 (nat_lit 714,kq "_law_refused" 1121 403 1 711 (.ref 712) .none .none .none (.ref 713) 1124 1125) ::
 (nat_lit 715,kg "_law_refused" qA "law_seamarks_k55_rooms_that_are_full" 1001 714) ::
 (nat_lit 721,kq "_law_done" 1127 413 2 716 (.ref 717) .none (.ref 718) (.ref 719) (.ref 720) 1133 1134) ::
 (nat_lit 722,kg "_law_done" zD1 "law_seamarks_k55_rooms_that_are_full" 1001 721) ::
 (nat_lit 728,kq "_law_after" 1136 418 2 723 (.ref 724) .none (.ref 725) (.ref 726) (.ref 727) 1142 1143) ::
 (nat_lit 729,kg "_law_after" zB6 "law_seamarks_k55_rooms_that_are_full" 1001 728) ::
 (nat_lit 733,kq "_law_marks_of" 1145 440 1 730 (.ref 731) .none .none .none (.ref 732) 1148 1149) ::
 (nat_lit 734,kg "_law_marks_of" sR "law_seamarks_k55_rooms_that_are_full" 1001 733) ::
 (nat_lit 740,kq "_law_stands" 1151 442 2 735 (.ref 736) .none (.ref 737) (.ref 738) (.ref 739) 1156 1157) ::
 (nat_lit 741,kg "_law_stands" zAj "law_seamarks_k55_rooms_that_are_full" 1001 740) ::
 (nat_lit 747,kq "_law_round_enough" 1159 448 1 742 (.ref 743) .none (.ref 744) (.ref 745) (.ref 746) 1163 1164) ::
 (nat_lit 748,kg "_law_round_enough" wU "law_seamarks_k55_rooms_that_are_full" 1001 747) ::
 (nat_lit 754,kq "_law_beyond" 1166 450 2 749 (.ref 750) .none (.ref 751) (.ref 752) (.ref 753) 1173 1174) ::
 (nat_lit 755,kg "_law_beyond" zAq "law_seamarks_k55_rooms_that_are_full" 1001 754) ::
 (nat_lit 761,kq "law" 1176 461 1 756 (.ref 757) .none (.ref 758) (.ref 759) (.ref 760) 1186 1187) ::
 (nat_lit 762,kg "law" zK5 "law_seamarks_k55_rooms_that_are_full" 1001 761)::[]
noncomputable def KK(P:eE):ae:=(nat_lit 3,kNs P)::(KG P++KC)
noncomputable def K:ae:=Classical.choose (⟨KC,rfl⟩:∃ k,k=KC)
theorem zRq:K=KC:=Classical.choose_spec (⟨KC,rfl⟩:∃ k,k=KC)
noncomputable def kas:List Nat:=nat_lit 3::nat_lit 56::nat_lit 69::nat_lit 81::nat_lit 93::nat_lit 105::nat_lit 117::nat_lit 129::nat_lit 141::nat_lit 153::nat_lit 165::nat_lit 177::nat_lit 189::nat_lit 201::nat_lit 213::nat_lit 225::nat_lit 237::nat_lit 249::nat_lit 268::nat_lit 272::nat_lit 437::nat_lit 610::KC.map (·.1)
theorem kas_ok:∀ P:eE,kas=(KK P).map (·.1):=λ_=>by kernel_rfl
theorem zYp{a b:Bool}(h:a=true)(k:b=true):(a&&b)=true:=by rw[h,k]; rfl
set_option maxHeartbeats 0 in
open PySem.W in
theorem said_ok:PySem.Challenge.rw_seamarks_k55_rooms_that_are_full.wellSaid=true:=by
 unfold OpenLaw.wellSaid
 repeat' first | with_reducible apply zYp | unfold OpenRow.wellSaid | unfold OpenRow.partSaid | unfold looksOpen
 all_goals decide +kernel
open PySem.W in
noncomputable abbrev lkM:=Fast.tw5923862056798008813 (Fast.tw2368527892694137696 PySem.Challenge.rw_seamarks_k55_rooms_that_are_full).prog.main.body
open PySem.W in
noncomputable abbrev lkT(w:World)(os:OsState):=zZf Fast.tw14364793385576792824 (Fast.tw2368527892694137696 PySem.Challenge.rw_seamarks_k55_rooms_that_are_full).prog 90000 w os
open PySem.W in
noncomputable abbrev lkS(s:SharedT):=Fast.tw4187177175401517315 qv lse lkM (λs=>xlAt qv [] s&&recOk (Fast.tw2368527892694137696 PySem.Challenge.rw_seamarks_k55_rooms_that_are_full).records s) true s.abs
set_option maxHeartbeats 0 in
open PySem.W in
theorem zU3(u:World)(os:OsState):(lkT (u.withFollow "special-get-raises" true) os).map (λs=>(staticsOk lkM (boot_heap (u.withFollow "special-get-raises" true).params) s.abs.heap&&namesBound (Fast.tw2368527892694137696 PySem.Challenge.rw_seamarks_k55_rooms_that_are_full).prog s.abs.heap&&gensDone s.abs&&laidKept (boot_heap (u.withFollow "special-get-raises" true).params) s.abs.heap))=some true:=by kernel_rfl
set_option maxHeartbeats 0 in
open PySem.W in
theorem zV4(u:World)(os:OsState):(lkT (u.withFollow "special-get-raises" false) os).map (λs=>(staticsOk lkM (boot_heap (u.withFollow "special-get-raises" false).params) s.abs.heap&&namesBound (Fast.tw2368527892694137696 PySem.Challenge.rw_seamarks_k55_rooms_that_are_full).prog s.abs.heap&&gensDone s.abs&&laidKept (boot_heap (u.withFollow "special-get-raises" false).params) s.abs.heap))=some true:=by kernel_rfl
set_option maxHeartbeats 0 in
open PySem.W in
theorem zXt(w:World)(os:OsState):(lkT w os).map (λs=>(staticsOk lkM (boot_heap w.params) s.abs.heap&&namesBound (Fast.tw2368527892694137696 PySem.Challenge.rw_seamarks_k55_rooms_that_are_full).prog s.abs.heap&&gensDone s.abs&&laidKept (boot_heap w.params) s.abs.heap))=some true:=by
 have h:∀(b:Bool)(u:World),(λw:World=>(lkT w os).map (λs=>(staticsOk lkM (boot_heap w.params) s.abs.heap&&namesBound (Fast.tw2368527892694137696 PySem.Challenge.rw_seamarks_k55_rooms_that_are_full).prog s.abs.heap&&gensDone s.abs&&laidKept (boot_heap w.params) s.abs.heap))=some true) (u.withFollow "special-get-raises" b):=λb u=>by cases b; exact zV4 u os; exact zU3 u os
 have:=h (w.params.followText "special-get-raises") w;rwa[eF] at this
set_option maxHeartbeats 0 in
open PySem.W in
theorem zWr(u:aT)(os:gq):(lkT (u.withFollow "special-get-raises" true) os).map (λs=>(lkS s).1)=some (openGood qv lse).1:=by kernel_rfl
set_option maxHeartbeats 0 in
open PySem.W in
theorem zVd(u:aT)(os:gq):(lkT (u.withFollow "special-get-raises" false) os).map (λs=>(lkS s).1)=some (openGood qv lse).1:=by kernel_rfl
set_option maxHeartbeats 0 in
open PySem.W in
theorem zX2(w:aT)(os:gq):(lkT w os).map (λs=>(lkS s).1)=some (openGood qv lse).1:=by
 have h:∀(b:Bool)(u:aT),(λw:aT=>(lkT w os).map (λs=>(lkS s).1)=some (openGood qv lse).1) (u.withFollow "special-get-raises" b):=λb u=>by cases b; exact zVd u os; exact zWr u os
 have:=h (w.params.followText "special-get-raises") w;rwa[eF] at this
set_option maxHeartbeats 0 in
open PySem.W in
theorem zVx(u:aT)(os:gq):(lkT (u.withFollow "special-get-raises" true) os).map (λs=>(lkS s).2)=some (openGood qv lse).2:=by kernel_rfl
set_option maxHeartbeats 0 in
open PySem.W in
theorem zWp(u:aT)(os:gq):(lkT (u.withFollow "special-get-raises" false) os).map (λs=>(lkS s).2)=some (openGood qv lse).2:=by kernel_rfl
set_option maxHeartbeats 0 in
open PySem.W in
theorem zW7(w:aT)(os:gq):(lkT w os).map (λs=>(lkS s).2)=some (openGood qv lse).2:=by
 have h:∀(b:Bool)(u:aT),(λw:aT=>(lkT w os).map (λs=>(lkS s).2)=some (openGood qv lse).2) (u.withFollow "special-get-raises" b):=λb u=>by cases b; exact zWp u os; exact zVx u os
 have:=h (w.params.followText "special-get-raises") w;rwa[eF] at this
set_option maxHeartbeats 0 in
open PySem.W in
theorem zVw(u:aT)(os:gq):(lkT (u.withFollow "special-get-raises" true) os).map (λs=>kas.map s.abs.heap.get?)=some ((KK (u.withFollow "special-get-raises" true).params).map λp=>some p.2):=by kernel_rfl
set_option maxHeartbeats 0 in
open PySem.W in
theorem zVe(u:aT)(os:gq):(lkT (u.withFollow "special-get-raises" false) os).map (λs=>kas.map s.abs.heap.get?)=some ((KK (u.withFollow "special-get-raises" false).params).map λp=>some p.2):=by kernel_rfl
set_option maxHeartbeats 0 in
open PySem.W in
theorem zX7(w:aT)(os:gq):(lkT w os).map (λs=>kas.map s.abs.heap.get?)=some ((KK w.params).map λp=>some p.2):=by
 have h:∀(b:Bool)(u:aT),(λw:aT=>(lkT w os).map (λs=>kas.map s.abs.heap.get?)=some ((KK w.params).map λp=>some p.2)) (u.withFollow "special-get-raises" b):=λb u=>by cases b; exact zVe u os; exact zVw u os
 have:=h (w.params.followText "special-get-raises") w;rwa[eF] at this
set_option maxHeartbeats 0 in
open PySem.W in
theorem left_ok:LeftO PySem.Challenge.rw_seamarks_k55_rooms_that_are_full.row.prog qv lse (λs=>xlAt qv [] s&&recOk (RowW.records (OpenRow.toRowW PySem.Challenge.rw_seamarks_k55_rooms_that_are_full.row)) s)
  (λs=>kas.map s.heap.get?) (λw=>(KK w.params).map λp=>some p.2) 90000:=by
 refine zPi (boot_open (by kernel_rfl) (by decide) (λs=>by kernel_rfl)) ?a ?b ?c
 case a =>
  rw[gC,eK,eI];exact zXt
 case b =>
  rw[Fast.te4187177175401517315,gC,eK,eI];exact λw os=>zTb (f:=lkS) (zX2 w os) (zW7 w os)
 case c =>
  rw[eK,eI];exact zX7
end Sea
-- BASE
namespace L2
open PySem PySem.Spec PyProof.Rows

abbrev Key:=Sum Int aC
def zLp:Key->af->Bool
 | .inl k,v=>mZ k v
 | .inr x,v=>lX x v
def keyH(w:aT):Key->Int
 | .inl k=>hashInt k
 | .inr x=>hashStr w x
theorem yS:∀{k:Key}{v:af},zLp k v=true->(∃ i t,k=dU i/\v=dL i t)\/(∃ x t,k=dW x/\v=cC x t)
 | .inl i,v,h=>by
  obtain⟨t,e⟩:=Value.isInt_shape (k:=i) (v:=v) h;exact .inl ⟨i,t,rfl,e⟩
 | .inr x,v,h=>by
  obtain⟨t,e⟩:=Value.isStrOf_shape (x:=x) (v:=v) h;exact .inr ⟨x,t,rfl,e⟩
theorem zQ7(i:Int)(t:nA):zLp (.inl i) (.int i t)=true:=by simp[zLp,mZ]
theorem zPe(x:aC)(t:nA):zLp (.inr x) (.str x t)=true:=by simp[zLp,lX]
theorem zX9(a b:Int):decide ((dU a:Key)=dU b)=(a == b):=by
 by_cases e:a=b
 ·subst e; simp
 ·have h:¬ (dU a:Key)=dU b:=λq=>e (Sum.inl.inj q);rw[decide_eq_false h];exact(beq_eq_false_iff_ne.mpr e).symm
theorem zXv(a b:aC):decide ((dW a:Key)=dW b)=decide (a=b):=by
 by_cases e:a=b
 ·subst e; simp
 ·have h:¬ (dW a:Key)=dW b:=λq=>e (kO q);rw[decide_eq_false h,decide_eq_false e]
theorem zXu(a:Int)(b:aC):decide ((dU a:Key)=dW b)=false:=decide_eq_false (λq=>nomatch q)
theorem zYd(a:aC)(b:Int):decide ((dW a:Key)=dU b)=false:=decide_eq_false (λq=>nomatch q)

def yI(prog:aL)(w:aT):PySem.KeyKind prog w Key where
 is:=zLp
 hash:=keyH w
 inj:=λv a b ha hb=>by
  rcases yS ha with ⟨i,t,rfl,rfl⟩ | ⟨x,t,rfl,rfl⟩
  ·rcases yS hb with ⟨j,u,rfl,e⟩ | ⟨y,u,rfl,e⟩
   ·injection e with e1 _; rw[e1]
   ·exact nomatch e
  ·rcases yS hb with ⟨j,u,rfl,e⟩ | ⟨y,u,rfl,e⟩
   ·exact nomatch e
   ·injection e with e1 _; rw[e1]
 byValue:=λk v h=>by
  rcases yS h with ⟨i,t,rfl,rfl⟩ | ⟨x,t,rfl,rfl⟩ <;> rfl
 pyHash:=λhv h=>by
  rcases yS hv with ⟨i,t,rfl,rfl⟩ | ⟨x,t,rfl,rfl⟩
  ·exact wpAny_pyHash_int h
  ·exact wpAny_pyHash_str h
 eqBool:=λhu hv h=>by
  rcases yS hu with ⟨i,t,rfl,rfl⟩ | ⟨x,t,rfl,rfl⟩
  ·rcases yS hv with ⟨j,u,rfl,rfl⟩ | ⟨y,u,rfl,rfl⟩
   ·rw[zX9] at h; exact ka h
   ·rw[zXu] at h; exact js i t y u _ _ _ _ h
  ·rcases yS hv with ⟨j,u,rfl,rfl⟩ | ⟨y,u,rfl,rfl⟩
   ·rw[zYd] at h; exact jt x t j u _ _ _ _ h
   ·rw[zXv] at h; exact ke h
 «strs»:=λk x t v h=>by
  rcases yS h with ⟨i,u,rfl,e⟩ | ⟨y,u,rfl,e⟩
  ·exact nomatch e
  ·injection e with e1 _
   subst e1;cases v <;> rfl

theorem zLb(prog:aL)(w:aT)(i:Int)(t:nA):(yI prog w).is (.inl i) (.int i t)=true:=zQ7 i t
theorem zA4(prog:aL)(w:aT)(x:aC)(t:nA):(yI prog w).is (.inr x) (.str x t)=true:=zPe x t
end L2

namespace L2
open PySem PySem.Spec PyProof.Rows

inductive V where
 | non | bl (b:Bool) | int (i:Int) | str (x:aC) | byt (b:Array UInt8) | flt (b:UInt64) | ref (a:ag) | ty (n:String)
 deriving DecidableEq

def xI:V->af->Prop
 | .non,u=>u=a7
 | .bl b,u=>u=iq b
 | .int i,u=>∃ t,u=dL i t
 | .str x,u=>∃ t,u=cC x t
 | .byt b,u=>∃ t,u=kP b t
 | .flt b,u=>∃ t,u=iZ b t
 | .ref a,u=>u=aK a
 | .ty n,u=>u=lv n

abbrev yY:List V->List af->Prop:=kh xI
theorem yY.length{xs:List V}{us:List af}(r:yY xs us):xs.length=us.length:=jm r
theorem yY.get:∀{xs:List V}{us:List af}{i:Nat}{x:V},yY xs us->xs[i]?=some x->∃ u,us[i]?=some u/\xI x u
 | _,_,_,_,.nil,e=>by simp at e
 | _,_,0,_,.cons r _,e=>by simp at e; subst e; exact⟨_,rfl,r⟩
 | _,_,i+1,x,.cons _ t,e=>by
  obtain⟨u,h1,h2⟩:=yY.get (i:=i) (x:=x) t (by simpa using e);exact⟨u,by simpa using h1,h2⟩
theorem yY.set{x:V}{u:af}(r:xI x u):∀{xs:List V}{us:List af}(i:Nat),yY xs us->yY (xs.set i x) (us.set i u)
 | _,_,_,.nil=>.nil
 | _,_,0,.cons _ t=>.cons r t
 | _,_,i+1,.cons q t=>.cons q (yY.set r i t)
theorem yY.append:∀{xs ys:List V}{us ws:List af},yY xs us->yY ys ws->yY (xs++ys) (us++ws)
 | _,_,_,_,.nil,s=>s
 | _,_,_,_,.cons r t,s=>.cons r (yY.append t s)
theorem yY.take:∀{xs:List V}{us:List af}(n:Nat),yY xs us->yY (xs.take n) (us.take n)
 | _,_,0,_=>.nil
 | _,_,_+1,.nil=>.nil
 | _,_,n+1,.cons r t=>.cons r (yY.take n t)
theorem yY.drop:∀{xs:List V}{us:List af}(n:Nat),yY xs us->yY (xs.drop n) (us.drop n)
 | _,_,0,r=>r
 | _,_,_+1,.nil=>.nil
 | _,_,n+1,.cons _ t=>yY.drop n t
theorem yY.none_of:∀{xs:List V}{us:List af}{i:Nat},yY xs us->xs[i]?=none->us[i]?=none:=λ{xs us i} r e=>by
 have h1:=r.length;have h2:xs.length<=i:=gR.mp e;exact gR.mpr (by lia)

def zH7:Option V->Option af->Prop
 | some v,some u=>xI v u
 | none,none=>True
 | _,_=>False
def KV{κ:Type} : List (κ×V)->List (κ×af)->Prop:=kh λ(p:κ×V) (q:κ×af)=>p.1=q.1/\xI p.2 q.2

def kV:Key->V
 | .inl i=>.int i
 | .inr x=>.str x

inductive HO where
 | lst (xs:List V)
 | tup (xs:List V)
 | dK (kvs:List (Key×V)) | dT (kvs:List (List Key×V))
 | set (S:Int->Bool) (n:Nat)
 | ins (C dx:ag) (fs:List (aC×V))
 | own (x:ag)
 | xd (fs:List (aC×V))
 | met (f x:ag)
 | rng (lo hi:Int)
 | frz (o:cA) (u:HO)
 | tbl (ps:Array af)
 | ext (φ:aV->Prop)

abbrev Hp:=ag->Option HO
def upd(H:Hp)(a:ag)(o:HO):Hp:=λb=>if b=a then some o else H b
theorem zA{H:Hp}{a:ag}{o:HO} : upd H a o a=some o:=by unfold upd; rw[if_pos rfl]
theorem zG{H:Hp}{a b:ag}{o:HO}(h:b≠a):upd H a o b=H b:=by unfold upd; rw[if_neg h]
theorem zY5{H:Hp}{a b:ag}{o u:HO}(h:H a=some o)(h':H b=some u)(d:o≠u):a≠b:=by
 intro e; subst e; rw[h] at h'; exact d (aZ h')
theorem zK{H:Hp}{a b:ag}{o:HO}(h:H a=some o)(h':H b=none):a≠b:=by
 intro e; subst e; rw[h] at h'; cases h'

section
variable(P:aL)(w:aT)
def xL(H:Hp)(h:aV)(a:ag):HO->Prop
 | .lst xs=>xs.length<=sizeLine/\∃(its:List af)(n:Nat),yY xs its/\h.get? a=some { cls:=.type "list", data:=.seq its.toArray n }
 | .tup xs=>xs.length<=sizeLine/\∃ its:List af,yY xs its/\ly h a its.toArray
 | .dK kvs=>kvs.length<=sizeLine/\(a == sysModules)=false/\∃ vs,KV kvs vs/\h.DictOf (yI P w) a vs
 | .dT kvs=>kvs.length<=sizeLine/\(a == sysModules)=false/\∃ xs:List (List Key×ag×af),
   kh (λ(p:List Key×V) (q:List Key×ag×af)=>p.1=q.1/\H q.2.1=some (.tup (p.1.map kV))/\xI p.2 q.2.2) kvs xs /\
   ∃ o es ep,h.get? a=some o/\o.ExactDict/\o.data=.dict es ep/\es.toList=xs.map (entryOfKey (tupleKind (yI P w)))/\(xs.map (·.1)).Nodup
 | .set S n=>h.SetOf (intKind P w) a S n
 | .ins C dx fs=>H dx=some (.own a)/\fs.length<=1000/\dx≠a/\h.get? a=some (du C dx) /\
   ∃ mA,h.Ns1 dx mA/\(∀ f,zH7 (fs.lookup f) (mA f))/\jI mA (fs.map (·.1))
 | .own _=>∃ o,h.get? a=some o
 | .xd fs=>∃ mA,h.Ns1 a mA/\∀ f,zH7 (fs.lookup f) (mA f)
 | .rng lo hi=>∃ t u v,h.get? a=some { cls:=.type "range", data:=.fields #[.int lo t,.int hi u,.int 1 v] }
 | .frz o u=>h.get? a=some o/\xL H h a u
 | .tbl ps=>h.get? a=some { cls:=.none,data:=.fields ps }
 | .met f x=>h.get? a=some (gY (.ref f) (.ref x))
 | .ext φ=>φ h/\(∃ o,h.get? a=some o)/\∀ h1 h2:aV,φ h1->(∀ o,h1.get? a=some o->h2.get? a=some o)->φ h2
def HOk(H:Hp)(h:aV):Prop:=∀ a o,H a=some o->xL P w H h a o
end

section
variable{P:aL}{w:aT}{H H':Hp}{h h':aV}{a:ag}{o:HO}
theorem xL.lt(x:xL P w H h a o):a<h.objs.size:=by
 cases o with
 | lst xs=>obtain⟨_,_,_,_,e⟩:=x; exact az e
 | tup xs=>obtain⟨_,_,_,p⟩:=x; exact p.lt
 | dK kvs=>obtain⟨_,_,_,_,o,_,_,e,_⟩:=x; exact az e
 | dT kvs=>obtain⟨_,_,_,_,o,_,_,e,_⟩:=x; exact az e
 | set S n=>obtain⟨o,_,_,_,e,_⟩:=x; exact az e
 | ins C dx fs=>obtain⟨_,_,_,e,_⟩:=x; exact az e
 | own y=>obtain⟨_,e⟩:=x; exact az e
 | xd fs=>obtain⟨_,⟨_,_,_,e,_⟩,_⟩:=x; exact az e
 | rng lo hi=>obtain⟨_,_,_,e⟩:=x; exact az e
 | frz ob u=>obtain⟨e,_⟩:=x; exact az e
 | tbl ps=>exact az (show h.get? a=some _ from x)
 | met f y=>exact az (show h.get? a=some _ from x)
 | ext φ=>obtain⟨_,⟨_,e⟩,_⟩:=x; exact az e
theorem Paired.mapP{α β:Type}{F G:α->β->Prop} : ∀{l₁:List α}{l₂:List β},kh F l₁ l₂->(∀ a b,F a b->G a b)->kh G l₁ l₂
 | _,_,.nil,_=>.nil
 | _,_,.cons r t,f=>.cons (f _ _ r) (Paired.mapP t f)
theorem xL.stay(x:xL P w H h a o)(k:∀ b u,(b=a\/H b=some (.own a))->h.get? b=some u->h'.get? b=some u)
  (ho:∀ b,H b=some (.own a)->H' b=some (.own a)) (ht:∀ b xs,H b=some (.tup xs)->H' b=some (.tup xs)):xL P w H' h' a o:=by
 induction o with
 | lst xs=>obtain⟨z,its,n,r,e⟩:=x; exact⟨z,its,n,r,k _ _ (.inl rfl) e⟩
 | tup xs=>obtain⟨z,its,r,ob,e,c⟩:=x; exact⟨z,its,r,ob,k _ _ (.inl rfl) e,c⟩
 | dK kvs=>obtain⟨z,y,vs,r,ob,es,ep,e,c⟩:=x; exact⟨z,y,vs,r,ob,es,ep,k _ _ (.inl rfl) e,c⟩
 | dT kvs =>
  obtain⟨z,y,xs,r,ob,es,ep,e,c⟩:=x;exact⟨z,y,xs,Paired.mapP r λp q z=>⟨z.1,ht _ _ z.2.1,z.2.2⟩,ob,es,ep,k _ _ (.inl rfl) e,c⟩
 | set S n=>obtain⟨ob,es,ep,t,e,c⟩:=x; exact⟨ob,es,ep,t,k _ _ (.inl rfl) e,c⟩
 | ins C dx fs =>
  obtain⟨d,z,ne,e,mA,⟨od,es,ep,e2,c⟩,r⟩:=x;exact⟨ho _ d,z,ne,k _ _ (.inl rfl) e,mA,⟨od,es,ep,k _ _ (.inr d) e2,c⟩,r⟩
 | own y=>obtain⟨ob,e⟩:=x; exact⟨ob,k _ _ (.inl rfl) e⟩
 | xd fs=>obtain⟨mA,⟨od,es,ep,e,c⟩,r⟩:=x; exact⟨mA,⟨od,es,ep,k _ _ (.inl rfl) e,c⟩,r⟩
 | rng lo hi=>obtain⟨t,u,v,e⟩:=x; exact⟨t,u,v,k _ _ (.inl rfl) e⟩
 | frz ob u ih=>obtain⟨e,q⟩:=x; exact⟨k _ _ (.inl rfl) e,ih q⟩
 | tbl ps =>
  have e:h.get? a=some { cls:=.none,data:=.fields ps }:=x;show h'.get? a=some { cls:=.none,data:=.fields ps };exact k a _ (.inl rfl) e
 | met f y =>
  have e:h.get? a=some (gY (.ref f) (.ref y)):=x;show h'.get? a=some (gY (.ref f) (.ref y));exact k a _ (.inl rfl) e
 | ext φ=>obtain⟨p,⟨o,e⟩,st⟩:=x; exact⟨st _ _ p λo q=>k _ _ (.inl rfl) q,⟨o,k _ _ (.inl rfl) e⟩,st⟩
theorem HOk.lt(x:HOk P w H h)(e:H a=some o):a<h.objs.size:=(x a o e).lt
theorem HOk.fresh(x:HOk P w H h)(e:h.objs.size<=a):H a=none:=by
 cases q:H a with
 | none=>rfl
 | some u=>exact absurd (aR (x.lt q) e) (db _)
theorem HOk.kept(x:HOk P w H h)(k:∀ b u,h.get? b=some u->h'.get? b=some u):HOk P w H h':=λa o e =>
 (x a o e).stay (λb u _ q=>k b u q) (λ_ q=>q) λ_ _ q=>q
theorem HOk.laid(x:HOk P w H h)(k:∀ b u,h.get? b=some u->h'.get? b=some u)(hp:h.objs.size<=a)(new:xL P w (upd H a o) h' a o):HOk P w (upd H a o) h':=λb u e=>by
 have hn:=x.fresh hp;by_cases hb:b=a
 ·subst hb; rw[zA] at e; cases e; exact new
 ·rw[zG hb] at e;exact(x b u e).stay (λc v _ q=>k c v q) (λc q=>by rw[zG (zK q hn)]; exact q) λc xs q=>by rw[zG (zK q hn)]; exact q
end

def Rd(H:Hp)(a:ag)(u:HO):Prop:=H a=some u\/∃ o,H a=some (.frz o u)
theorem Rd.ok{P:aL}{w:aT}{H:Hp}{h:aV}{a:ag}{u:HO}(r:Rd H a u)(x:HOk P w H h):xL P w H h a u:=by
 rcases r with r | ⟨o,r⟩
 ·exact x a u r
 ·obtain⟨_,q⟩:=x a _ r;exact q
def Mut:Option HO->Prop
 | some (.lst _)=>True
 | some (.dK _)=>True
 | some (.dT _)=>True
 | some (.set _ _)=>True
 | some (.ins _ _ _)=>True
 | some (.ext _)=>True
 | _=>False
section
variable{P:aL}{w:aT}{H:Hp}{h h':aV}{x e:ag}{o':HO}
theorem HOk.write(ok:HOk P w H h)(mu:Mut (H x))(he:e=x\/H e=some (.own x))(k:∀ b u,b≠e->h.get? b=some u->h'.get? b=some u)(heo:∃ u,h'.get? e=some u)
  (new:xL P w (upd H x o') h' x o'):HOk P w (upd H x o') h':=λb u q=>by
 have nown:∀ c y,H c=some (.own y)->c≠x:=λc y r z=>by subst z; rw[r] at mu; exact mu
 have ntup:∀ c xs,H c=some (.tup xs)->c≠x:=λc xs r z=>by subst z; rw[r] at mu; exact mu
 by_cases hb:b=x
 ·subst hb; rw[zA] at q; cases q; exact new
 ·rw[zG hb] at q;by_cases hbe:b=e
  ·have q':H b=some (.own x):=by
    rcases he with z | z
    ·exact absurd (hbe.trans z) hb
    ·rw[hbe]; exact z
   rw[q] at q'; cases q';obtain⟨v,hv⟩:=heo;exact⟨v,by rw[hbe]; exact hv⟩
  ·refine(ok b u q).stay (λc v hc r=>k c v ?_ r) (λc r=>by rw[zG (nown c b r)]; exact r) λc xs r=>by rw[zG (ntup c xs r)]; exact r
   rcases hc with rfl | hc
   ·exact hbe
   ·rintro rfl;rcases he with z | z
    ·exact nown c b hc z
    ·rw[hc] at z; cases z; exact hb rfl
end

structure Un(fs ex:List ag)(H H':Hp)(h h':aV):Prop where
 keep:∀ b o,h.get? b=some o->H b=none->b ∉ fs->b ∉ ex->h'.get? b=some o
 slot:∀ b o,h.get? b=some o->H b=none->b∈fs->b ∉ ex->∃ sl,h'.get? b=some { o with slots:=sl }
 free:∀ b o,h.get? b=some o->H b=none->b ∉ ex->H' b=none
 there:∀ b o,h.get? b=some o->b ∉ ex->∃ o',h'.get? b=some o'
 tups:∀ b xs,H b=some (.tup xs)->H' b=some (.tup xs)
 frzs:∀ b o u,H b=some (.frz o u)->H' b=some (.frz o u)
 tbls:∀ b ps,H b=some (.tbl ps)->∃ more,H' b=some (.tbl (ps++more))
section
variable{fs fs' ex ex':List ag}{H H1 H2:Hp}{h h1 h2 h':aV}{a x e:ag}{o:HO}
theorem Un.any(u:Un fs ex H H1 h h1){b:ag}{ob:cA}(q:h.get? b=some ob)(n:H b=none)(hx:b ∉ ex):∃ sl,h1.get? b=some { ob with slots:=sl }:=by
 by_cases hb:b∈fs
 ·exact u.slot b ob q n hb hx
 ·exact⟨ob.slots,u.keep b ob q n hb hx⟩
theorem Un.kept(k:∀ b u,h.get? b=some u->h'.get? b=some u):Un fs ex H H h h' :=
 ⟨λb ob q _ _ _=>k b ob q,λb ob q _ _ _=>⟨ob.slots,k b ob q⟩,λ_ _ _ n _=>n,λb ob q _=>⟨ob,k b ob q⟩,λ_ _ q=>q,λ_ _ _ q=>q,λ_ ps q=>⟨#[],by rw[q]; simp⟩⟩
theorem Un.refl:Un fs ex H H h h:=Un.kept λ_ _ q=>q
theorem Un.laid(k:∀ b u,h.get? b=some u->h'.get? b=some u)(hp:h.objs.size<=a)(hn:H a=none):Un fs ex H (upd H a o) h h' where
 keep:=λb u q _ _ _=>k b u q
 slot:=λb u q _ _ _=>⟨u.slots,k b u q⟩
 free:=λb u q n _=>by rw[zG (aQ (aR (az q) hp))]; exact n
 there:=λb u q _=>⟨u,k b u q⟩
 tups:=λb xs q=>by rw[zG (zK q hn)]; exact q
 frzs:=λb u xs q=>by rw[zG (zK q hn)]; exact q
 tbls:=λb ps q=>⟨#[],by rw[zG (zK q hn),q]; simp⟩
theorem Un.write(mu:Mut (H x))(he:e=x\/H e=some (.own x))(k:∀ b u,b≠e->h.get? b=some u->h'.get? b=some u)(heo:∃ u,h'.get? e=some u):Un fs ex H (upd H x o) h h':=by
 have hx:∀ b,H b=none->b≠x:=λb n z=>by subst z; rw[n] at mu; exact mu
 have hb:∀ b,H b=none->b≠e:=λb n z=>by
  subst z;rcases he with r | r
  ·exact hx b n r
  ·rw[n] at r; cases r
 have hm:∀ b u,H b=some u->¬ Mut (some u)->b≠x:=λb u q nm z=>by subst z; rw[q] at mu; exact nm mu
 refine⟨λb u q n _ _=>k b u (hb b n) q,λb u q n _ _=>⟨u.slots,k b u (hb b n) q⟩,λb u q n _=>by rw[zG (hx b n)]; exact n,λb u q _=>?_,
  λb xs q=>by rw[zG (hm b _ q λz=>z)]; exact q,λb u xs q=>by rw[zG (hm b _ q λz=>z)]; exact q,λb ps q=>⟨#[],by rw[zG (hm b _ q λz=>z),q]; simp⟩⟩
 by_cases hbe:b=e
 ·subst hbe; exact heo
 ·exact⟨u,k b u hbe q⟩
end

def trk(h:aV)(H:Hp):List ag:=(bx h.objs.size).filter λa=>(H a).isSome
def zSn(h:aV)(H:Hp):aV:=iF h (trk h H)
theorem zQv(h:aV)(H:Hp):(zSn h H).objs.size=h.objs.size:=PySem.W.hideAll_size _ _
theorem zSc{h:aV}{H:Hp}{b:ag}{o:cA}(e:h.get? b=some o)(n:H b=none):(zSn h H).get? b=some o :=
 jf _ e λhm=>by
  have q:(H b).isSome=true:=(cK.mp hm).2;rw[n] at q; simp at q
theorem zVl{h:aV}{H:Hp}{b:ag}{o:cA}(e:(zSn h H).get? b=some o):h.get? b=some o/\H b=none:=by
 have e':h.get? b=some o:=ju (trk h H) e;exists e';cases q:H b with
 | none=>rfl
 | some x =>
  have hm:b∈trk h H:=cK.mpr ⟨b7.mpr (az e'),by simp[q]⟩;have z:(zSn h H).get? b=none:=PySem.W.hideAll_none (trk h H) hm;rw[z] at e; cases e

end L2

namespace L2
open PySem PySem.Spec PyProof.Rows

structure Mod(K:ae)(mg:aC->Option af)(base:aV):Prop where
 kin:K.In base
 glob:base.Ns mainGlobals mg
 blt:∃ mb,base.Ns builtinsNs mb/\∀ x:aC,x ≠ "__name__" -> mb x=bootBuiltins x
 nolimit:base.NoLimit

structure Cx where
 prog:aL
 w:aT
 K:ae
 mg:aC->Option af
 base:aV
 A:bu
 N:List aC
 s₀:ai
 H₀:Hp
 env:gf
 outer:List gf
 stack:List gf
 ex:List ag
 fn:aC->Bool
 calm:Bool
 pn:List (ag×cA)
 xe:af->ai->Prop
def frs(l:List gf):List ag:=l.filterMap (·.frame)
abbrev Cx.fs(X:Cx):List ag:=frs X.outer

def Vis(sc:fu)(x:aC):Prop:=sc.names.lookup x=some .local\/sc.names.lookup x=some .cell\/sc.names.lookup x=some .free
def Loc(sc:fu)(x:aC):Prop:=sc.names.lookup x=some .local\/sc.names.lookup x=some .cell
def Look(env:gf)(h:aV)(m:aC->Option af)(x:aC)(u:af):Prop :=
 (env.kindOf x=some .local/\m x=some u)\/((env.kindOf x=some .cell\/env.kindOf x=some .free)/\∃ c,env.cells.lookup x=some c/\h.IsCell c (some u))

structure Cx.Ok(X:Cx):Prop where
 mod:Mod X.K X.mg X.base
 kind:X.env.scope.kind=.function
 glob:X.env.globals=mainGlobals
 blt:X.env.builtins=builtinsNs
 above:X.s₀.heap.objs.size<=X.env.locals
 inj:∀ x y c,X.env.cells.lookup x=some c->X.env.cells.lookup y=some c->x=y
 has:∀ x,(X.env.kindOf x=some .cell\/X.env.kindOf x=some .free)->∃ c,X.env.cells.lookup x=some c
 cab:∀ x c,X.fn x=true->X.env.cells.lookup x=some c->X.s₀.heap.objs.size<=c
 hd:X.calm=true->X.A.handled=none
 frames:X.A.frames=some X.stack
 stk:X.stack=X.outer\/(X.stack=X.env::X.outer/\X.env.frame=some X.env.locals)
 exf:∀ b∈X.ex,b≠X.env.locals/\∀ x c,X.env.cells.lookup x=some c->c≠b
 bs:∀ b o,X.base.get? b=some o->X.s₀.heap.get? b=some o/\X.H₀ b=none
 bsz:X.base.objs.size<=X.s₀.heap.objs.size
 noex:∀ b o,X.base.get? b=some o->b ∉ X.ex
 exfs:∀ b∈X.ex,b ∉ X.fs
 funs:X.s₀.heap.FunFrames X.base X.outer
 frf:∀ b∈X.fs,X.H₀ b=none

structure Inv(X:Cx)(pins:List (ag×cA))(σ:List (Option V))(H:Hp)(s:ai):Prop where
 ok:X.Ok
 os:s.os=X.s₀.os
 bare:gr s.gens
 base:Un X.fs X.ex X.H₀ H X.s₀.heap s.heap
 loc:∃ m,s.heap.Ns X.env.locals m/\∀(i:Nat)(x:aC)(v:V),X.N[i]?=some x->σ[i]?=some (some v)->Vis X.env.scope x->∃ u,xI v u/\Look X.env s.heap m x u
 cell:∀ x c,X.env.cells.lookup x=some c->∃ v,s.heap.IsCell c v
 free:H X.env.locals=none
 freeC:∀ x c,X.env.cells.lookup x=some c->H c=none
 pin:∀ p∈X.pn++pins,s.heap.get? p.1=some p.2/\H p.1=none/\p.1≠X.env.locals/\p.1 ∉ X.fs/\∀ v,p.2.data≠.cell v
 hok:HOk X.prog X.w H s.heap
 len:σ.length=X.N.length

section
variable{X:Cx}{pins:List (ag×cA)}{σ:List (Option V)}{H H':Hp}{s:ai}{h':aV}

theorem Cx.Ok.nofr(ok:X.Ok){b:ag}{o:cA}(e:X.base.get? b=some o):b ∉ X.fs:=λhb=>by
 have:=(ok.funs.mem hb).1;rw[e] at this; cases this
theorem Inv.bs(I:Inv X pins σ H s):∀ b o,X.base.get? b=some o->s.heap.get? b=some o/\H b=none:=λb o e =>
 ⟨I.base.keep b o (I.ok.bs b o e).1 (I.ok.bs b o e).2 (I.ok.nofr e) (I.ok.noex b o e),I.base.free b o (I.ok.bs b o e).1 (I.ok.bs b o e).2 (I.ok.noex b o e)⟩
theorem Inv.bk(I:Inv X pins σ H s):∀ b o,X.base.get? b=some o->s.heap.get? b=some o:=λb o e=>(I.bs b o e).1
theorem Inv.mod(I:Inv X pins σ H s):Mod X.K X.mg X.base:=I.ok.mod
theorem Inv.kIn(I:Inv X pins σ H s):X.K.In s.heap:=I.ok.mod.kin.keeps I.bk
theorem Inv.lt(I:Inv X pins σ H s):X.env.locals<s.heap.objs.size:=let ⟨_,hn,_⟩:=I.loc; hn.lt
theorem Inv.sz(I:Inv X pins σ H s):X.s₀.heap.objs.size<=s.heap.objs.size:=aO I.ok.above (dZ I.lt)
theorem Inv.nofs(I:Inv X pins σ H s){a:ag}(h:s.heap.objs.size<=a):a ∉ X.fs:=λhb=>by
 obtain⟨_,o,ho,_⟩:=I.ok.funs.mem hb;exact absurd (aR (az ho) (aO I.sz h)) (db _)
theorem Inv.cne(I:Inv X pins σ H s):∀ x c,X.env.cells.lookup x=some c->c≠X.env.locals:=λx c e z=>by
 obtain⟨v,o,ho,hd⟩:=I.cell x c e;obtain⟨m,⟨o',es,ep,ho',hd',_⟩,_⟩:=I.loc;rw[z,ho'] at ho; cases ho; rw[hd'] at hd; cases hd
theorem Inv.funs(I:Inv X pins σ H s):s.heap.FunFrames X.base X.outer:=by
 have all:∀(l:List gf),(∀ b∈frs l,b∈X.fs)->X.s₀.heap.FunFrames X.base l->s.heap.FunFrames X.base l:=by
  intro l
  induction l with
  | nil=>intro _ _; trivial
  | cons env r ih =>
   intro hs hl;obtain⟨hk,⟨L,o,hf,hn,ho,hd⟩,hr⟩:=hl;have hL:L∈X.fs:=hs L (by unfold frs; rw[cS,hf]; exact ck);obtain⟨sl,e⟩:=I.base.slot L o ho (I.ok.frf L hL) hL λz=>I.ok.exfs L z hL;exact⟨hk,⟨L,_,hf,hn,e,hd⟩,ih (λb hb=>hs b (by unfold frs; rw[cS,hf]; exact bz _ hb)) hr⟩
 exact all X.outer (λ_ hb=>hb) I.ok.funs

theorem Inv.stack(I:Inv X pins σ H s):s.heap.FunFrames X.base X.stack:=by
 rcases I.ok.stk with e | ⟨e,hf⟩
 ·rw[e]; exact I.funs
 ·rw[e];obtain⟨m,hn,_⟩:=I.loc;refine .cons (by rw[I.ok.kind]; decide) hf hn ?_ I.funs;exact fT (aO I.ok.bsz I.ok.above)
theorem Inv.stkSub(I:Inv X pins σ H s):∀ b∈frs X.stack,b∈X.env.locals::X.fs:=λb hb=>by
 rcases I.ok.stk with e | ⟨e,hf⟩
 ·rw[e] at hb; exact bz _ hb
 ·rw[e] at hb;unfold frs at hb;rw[cS,hf] at hb;exact hb
theorem Inv.stkFree(I:Inv X pins σ H s):∀ b∈frs X.stack,H b=none:=λb hb=>by
 rcases aI.mp (I.stkSub b hb) with e | hb
 ·rw[e]; exact I.free
 ·obtain⟨_,o,ho,_⟩:=I.ok.funs.mem hb;exact I.base.free b o ho (I.ok.frf b hb) λz=>I.ok.exfs b z hb

theorem Inv.step{g':Array GenState}{t':Nat}{d':Drawn}{ch:List ag}(I:Inv X pins σ H s)
  (hch:∀ b∈ch,(b∈X.ex\/X.s₀.heap.objs.size<=b)/\b≠X.env.locals/\(∀ x c,X.env.cells.lookup x=some c->c≠b)/\∀ p∈X.pn++pins,p.1≠b)
  (keep:∀ b o,b≠X.env.locals->b ∉ X.fs->b ∉ ch->s.heap.get? b=some o->H b=none->h'.get? b=some o)
  (slot:∀ b o,b≠X.env.locals->b∈X.fs->b ∉ ch->s.heap.get? b=some o->H b=none->∃ sl,h'.get? b=some { o with slots:=sl }) (free:∀ b o,b ∉ ch->s.heap.get? b=some o->H b=none->H' b=none)
  (there:∀ b o,b ∉ ch->s.heap.get? b=some o->∃ o',h'.get? b=some o')
  (tups:∀ b xs,H b=some (.tup xs)->H' b=some (.tup xs)) (frzs:∀ b o u,H b=some (.frz o u)->H' b=some (.frz o u)) (tbls:∀ b ps,H b=some (.tbl ps)->∃ more,H' b=some (.tbl (ps++more)))
  (ns:∀ m,s.heap.Ns X.env.locals m->h'.Ns X.env.locals m) (hok:HOk X.prog X.w H' h') (hg:gr g') :
  Inv X pins σ H' { s with heap:=h',gens:=g',drawn:=d',toks:=t' }:=by
 have neL:∀ b o,X.s₀.heap.get? b=some o->b≠X.env.locals:=λb o e=>aQ (aR (az e) I.ok.above);have neC:∀ b o,X.s₀.heap.get? b=some o->b ∉ X.ex->b ∉ ch:=λb o e hx hb=>by
  rcases (hch b hb).1 with z | z
  ·exact hx z
  ·exact absurd (aR (az e) z) (db _)
 have cellK:∀ x c,X.env.cells.lookup x=some c->∀ v,s.heap.IsCell c v->h'.IsCell c v:=λx c e v ⟨o,ho,hd⟩=>by
  have nch:c ∉ ch:=λz=>(hch c z).2.2.1 x c e rfl;by_cases hc:c∈X.fs
  ·obtain⟨sl,q⟩:=slot c o (I.cne x c e) hc nch ho (I.freeC x c e);exact⟨_,q,hd⟩
  ·exact⟨o,keep c o (I.cne x c e) hc nch ho (I.freeC x c e),hd⟩
 refine⟨I.ok,I.os,hg,⟨λb o e n hb hx=>?_,λb o e n hb hx=>?_,λb o e n hx=>?_,λb o e hx=>?_,λb xs e=>tups b xs (I.base.tups b xs e),λb o xs e=>frzs b o xs (I.base.frzs b o xs e),λb ps e=>?_⟩,?_,λx c e=>?_,?_,λx c e=>?_,λp hp=>?_,hok,I.len⟩
 ·exact keep b o (neL b o e) hb (neC b o e hx) (I.base.keep b o e n hb hx) (I.base.free b o e n hx)
 ·obtain⟨sl,e1⟩:=I.base.slot b o e n hb hx;obtain⟨sl',e2⟩:=slot b _ (neL b o e) hb (neC b o e hx) e1 (I.base.free b o e n hx);exact⟨sl',e2⟩
 ·obtain⟨o',e1⟩:=I.base.there b o e hx;exact free b o' (neC b o e hx) e1 (I.base.free b o e n hx)
 ·obtain⟨o',e1⟩:=I.base.there b o e hx;exact there b o' (neC b o e hx) e1
 ·obtain⟨m1,e1⟩:=I.base.tbls b ps e;obtain⟨m2,e2⟩:=tbls b _ e1;exact⟨m1++m2,by rw[e2,Array.append_assoc]⟩
 ·obtain⟨m,hn,hl⟩:=I.loc;refine⟨m,ns m hn,λi x v e1 e2 e3=>?_⟩;obtain⟨u,r,l⟩:=hl i x v e1 e2 e3;exists u,r;rcases l with l | ⟨k,c,e,z⟩
  ·exact .inl l
  ·exact .inr ⟨k,c,e,cellK x c e _ z⟩
 ·obtain⟨v,z⟩:=I.cell x c e;exact⟨v,cellK x c e v z⟩
 ·obtain⟨m,⟨o,_,_,ho,_⟩,_⟩:=I.loc;exact free _ o (λz=>(hch _ z).2.1 rfl) ho I.free
 ·obtain⟨v,o,ho,hd⟩:=I.cell x c e;exact free c o (λz=>(hch c z).2.2.1 x c e rfl) ho (I.freeC x c e)
 ·obtain⟨e,n,ne,nf,d⟩:=I.pin p hp;have nch:p.1 ∉ ch:=λz=>(hch p.1 z).2.2.2 p hp rfl;exact⟨keep p.1 p.2 ne nf nch e n,free p.1 p.2 nch e n,ne,nf,d⟩
theorem Inv.un{t':Nat}(I:Inv X pins σ H s)(u:Un X.fs [] H H' s.heap h')(hok:HOk X.prog X.w H' h'):Inv X pins σ H' { s with heap:=h',toks:=t' }:=by
 obtain⟨m,⟨o,es,ep,ho,r⟩,_⟩:=id I.loc;obtain⟨sl,hL⟩:=u.any ho I.free (by simp);exact I.step (g':=s.gens) (d':=s.drawn) (ch:=[]) (λ_ z=>nomatch z) (λb o _ hb _ e n=>u.keep b o e n hb (by simp)) (λb o _ hb _ e n=>u.slot b o e n hb (by simp)) (λb o _ e n=>u.free b o e n (by simp)) (λb o _ e=>u.there b o e (by simp)) u.tups u.frzs u.tbls (λm' hm=>by
  obtain⟨o',es',ep',ho',r'⟩:=hm;rw[ho] at ho'; cases ho';exact⟨_,es',ep',hL,r'⟩) hok I.bare
theorem Inv.call{g':Array GenState}{t':Nat}{d':Drawn}{ch:List ag}(I:Inv X pins σ H s)(u:Un (frs X.stack) ch H H' s.heap h')(hok:HOk X.prog X.w H' h')(hg:gr g')
  (hch:∀ b∈ch,(b∈X.ex\/X.s₀.heap.objs.size<=b)/\b≠X.env.locals/\(∀ x c,X.env.cells.lookup x=some c->c≠b)/\∀ p∈X.pn++pins,p.1≠b) :
  Inv X pins σ H' { s with heap:=h',gens:=g',drawn:=d',toks:=t' }:=by
 obtain⟨m,⟨o,es,ep,ho,r⟩,_⟩:=id I.loc;obtain⟨sl,hL⟩:=u.any ho I.free λz=>(hch _ z).2.1 rfl;exact I.step (ch:=ch) hch (λb o hL hb hc e n=>u.keep b o e n (λz=>(aI.mp (I.stkSub b z)).elim hL hb) hc) (λb o _ _ hc e n=>u.any e n hc) (λb o hc e n=>u.free b o e n hc) (λb o hc e=>u.there b o e hc) u.tups u.frzs u.tbls (λm' hm=>by
  obtain⟨o',es',ep',ho',r'⟩:=hm;rw[ho] at ho'; cases ho';exact⟨_,es',ep',hL,r'⟩) hok hg
theorem Inv.turned{t':Nat}{it:ag}(I:Inv X pins σ H s)(k:∀ b o,b≠it->s.heap.get? b=some o->h'.get? b=some o)(hn:H it=none)(hL:it≠X.env.locals)
  (h1:it∈X.ex\/X.s₀.heap.objs.size<=it) (h2:∀ x c,X.env.cells.lookup x=some c->c≠it) (h3:∀ p∈X.pn++pins,p.1≠it):Inv X pins σ H { s with heap:=h',toks:=t' }:=by
 have nit:∀ b u,H b=some u->b≠it:=λb u e z=>by rw[z,hn] at e; cases e
 refine I.step (g':=s.gens) (d':=s.drawn) (ch:=[it]) (λb hb=>?_) (λb o _ _ hc e _=>k b o (λz=>hc (by simp[z])) e) (λb o _ _ hc e _=>⟨o.slots,k b o (λz=>hc (by simp[z])) e⟩) (λ_ _ _ _ n=>n)
  (λb o hc e=>⟨o,k b o (λz=>hc (by simp[z])) e⟩) (λ_ _ e=>e) (λ_ _ _ e=>e) (λb ps e=>⟨#[],by rw[e]; simp⟩) (λm hm=>?_) (λb u e=>?_) I.bare
 ·have e:b=it:=by simpa using hb
  subst e;exact⟨h1,hL,h2,h3⟩
 ·obtain⟨o,es,ep,ho,r⟩:=hm;exact⟨o,es,ep,k _ o (cw hL) ho,r⟩
 ·refine(I.hok b u e).stay (λc v hc q=>k c v ?_ q) (λ_ q=>q) λ_ _ q=>q;rcases hc with z | z
  ·rw[z]; exact nit b u e
  ·exact nit c _ z
theorem Inv.tok(I:Inv X pins σ H s)(t:Nat):Inv X pins σ H { s with toks:=t }:=I.un (h':=s.heap) (t':=t) Un.refl I.hok
theorem Inv.kept{t':Nat}(I:Inv X pins σ H s)(k:∀ b u,s.heap.get? b=some u->h'.get? b=some u):Inv X pins σ H { s with heap:=h',toks:=t' }:=I.un (Un.kept k) (I.hok.kept k)
theorem Inv.laid{a:ag}{o:HO}{t':Nat}(I:Inv X pins σ H s)(k:∀ b u,s.heap.get? b=some u->h'.get? b=some u)(hp:s.heap.objs.size<=a)(new:xL X.prog X.w (upd H a o) h' a o) :
  Inv X pins σ (upd H a o) { s with heap:=h',toks:=t' }:=I.un (Un.laid k hp (I.hok.fresh hp)) (I.hok.laid k hp new)
theorem Inv.write{x e:ag}{o:HO}{t':Nat}(I:Inv X pins σ H s)(mu:Mut (H x))(he:e=x\/H e=some (.own x))(k:∀ b u,b≠e->s.heap.get? b=some u->h'.get? b=some u)(heo:∃ u,h'.get? e=some u)
  (new:xL X.prog X.w (upd H x o) h' x o):Inv X pins σ (upd H x o) { s with heap:=h',toks:=t' }:=I.un (Un.write mu he k heo) (I.hok.write mu he k heo new)
theorem Inv.pins_of{pins':List (ag×cA)}(I:Inv X pins σ H s)(h:∀ p∈pins',s.heap.get? p.1=some p.2/\H p.1=none/\p.1≠X.env.locals/\p.1 ∉ X.fs/\∀ v,p.2.data≠.cell v):Inv X pins' σ H s :=
 ⟨I.ok,I.os,I.bare,I.base,I.loc,I.cell,I.free,I.freeC,λp hp=>(aN.mp hp).elim (λz=>I.pin p (dO _ z)) (h p),I.hok,I.len⟩

theorem zLw{N:List aC}(hN:N.Nodup){i j:Nat}{x:aC}(a:N[i]?=some x)(b:N[j]?=some x):i=j:=by
 obtain⟨h1,e1⟩:=ay.mp a;obtain⟨h2,e2⟩:=ay.mp b;exact(dX hN).mp (e1.trans e2.symm)

theorem zIf{M:mJ}{A:bu}{E:af->ai->Prop}{i:Nat}{x:aC}{v:V}{u:af}{Q:Unit->ai->Prop}(I:Inv X pins σ H s)(hN:X.N.Nodup)(hi:X.N[i]?=some x)(hx:Loc X.env.scope x)(r:xI v u)
  (h:∀ s',Inv X pins (σ.set i (some v)) H s'->(∃ a,cP a s.heap s'.heap/\(a=X.env.locals\/X.env.cells.lookup x=some a))->Q () s') (hf:X.fn x=true\/X.env.scope.names.lookup x=some .local:=by first | exact .inl rfl | exact .inr rfl | assumption):wpAny M A (storeName X.env x u) Q E s:=by
 obtain⟨m,hn,hl⟩:=id I.loc;have hcls:(X.env.scope.kind == .class||(X.env.scope.kind == .module&&X.env.locals != X.env.globals))=false:=by rw[I.ok.kind]; rfl
 have hiσ:i<σ.length:=by rw[I.len]; exact(ay.mp hi).1
 have cne:=I.cne;have tracked:∀{a:ag}{h':aV},(∃ o,s.heap.get? a=some o/\H a=none)->cP a s.heap h'->HOk X.prog X.w H h':=λ{a h'} ha hs b ob e=>by
  obtain⟨_,_,hfree⟩:=ha;refine(I.hok b ob e).stay (λc w' hc q=>(hs.2 c ?_).trans q) (λ_ q=>q) λ_ _ q=>q;rintro rfl;rcases hc with rfl | hc
  ·rw[hfree] at e; cases e
  ·rw[hfree] at hc; cases hc
 rcases hx with hk | hk
 ·refine wpAny_storeName_local hk hn (λh' hn' hs=>?_) hcls;obtain⟨oL,_,_,hoL,_⟩:=id hn;refine h _ ⟨I.ok,I.os,I.bare,⟨λb o e n hb hx=>?_,λb o e n hb hx=>?_,I.base.free,λb o e hx=>?_,I.base.tups,I.base.frzs,I.base.tbls⟩,⟨_,hn',λj y v' e1 e2 e3=>?_⟩,λy c e=>?_,I.free,I.freeC,λp hp=>?_,tracked ⟨oL,hoL,I.free⟩ hs,by simpa using I.len⟩ ⟨_,hs,.inl rfl⟩
  ·exact(hs.2 b (aQ (aR (az e) I.ok.above))).trans (I.base.keep b o e n hb hx)
  ·obtain⟨sl,e1⟩:=I.base.slot b o e n hb hx;exact⟨sl,(hs.2 b (aQ (aR (az e) I.ok.above))).trans e1⟩
  ·obtain⟨o',e1⟩:=I.base.there b o e hx;exact⟨o',(hs.2 b (aQ (aR (az e) I.ok.above))).trans e1⟩
  ·by_cases hj:j=i
   ·subst hj;rw[hi] at e1; cases e1;rw[fD hiσ] at e2;cases e2;exact⟨u,r,.inl ⟨hk,by simp⟩⟩
   ·rw[i3 (cw hj)] at e2;obtain⟨u',r',q⟩:=hl j y v' e1 e2 e3;exists u',r';rcases q with ⟨k,e⟩ | ⟨k,c,e,z⟩
    ·refine .inl ⟨k,?_⟩;have:y≠x:=λe=>hj (zLw hN e1 (e ▸ hi));simp[this,e]
    ·exact .inr ⟨k,c,e,z.sameBut hs (cne y c e)⟩
  ·obtain⟨w',z⟩:=I.cell y c e;exact⟨w',z.sameBut hs (cne y c e)⟩
  ·obtain⟨e,n,ne,nf,d⟩:=I.pin p hp;exact⟨(hs.2 p.1 ne).trans e,n,ne,nf,d⟩
 ·have hfn:X.fn x=true:=by
   rcases hf with z | z
   ·exact z
   ·rw[z] at hk; cases hk
  obtain⟨c,hc⟩:=I.ok.has x (.inl hk);obtain⟨w',z⟩:=I.cell x c hc;refine wpAny_storeName_cell I.ok.kind hk hc z (λh' hc' hs=>?_);obtain⟨oc,hoc,hocd⟩:=id z;refine h { s with heap:=h' } ⟨I.ok,I.os,I.bare,⟨λb o e n hb hx=>?_,λb o e n hb hx=>?_,I.base.free,λb o e hx=>?_,I.base.tups,I.base.frzs,I.base.tbls⟩,⟨m,hn.sameBut hs (cw (cne x c hc)),λj y v' e1 e2 e3=>?_⟩,λy c' e=>?_,I.free,I.freeC,λp hp=>?_,tracked ⟨oc,hoc,I.freeC x c hc⟩ hs,by simpa using I.len⟩ ⟨c,hs,.inr hc⟩
  ·exact(hs.2 b (aQ (aR (az e) (I.ok.cab x c hfn hc)))).trans (I.base.keep b o e n hb hx)
  ·obtain⟨sl,e1⟩:=I.base.slot b o e n hb hx;exact⟨sl,(hs.2 b (aQ (aR (az e) (I.ok.cab x c hfn hc)))).trans e1⟩
  ·obtain⟨o',e1⟩:=I.base.there b o e hx;exact⟨o',(hs.2 b (aQ (aR (az e) (I.ok.cab x c hfn hc)))).trans e1⟩
  ·by_cases hj:j=i
   ·subst hj;rw[hi] at e1; cases e1;rw[fD hiσ] at e2;cases e2;exact⟨u,r,.inr ⟨.inl hk,c,hc,hc'⟩⟩
   ·rw[i3 (cw hj)] at e2;obtain⟨u',r',q⟩:=hl j y v' e1 e2 e3;exists u',r';rcases q with q | ⟨k,c',e,z'⟩
    ·exact .inl q
    ·refine .inr ⟨k,c',e,z'.sameBut hs ?_⟩;rintro rfl;exact hj (zLw hN e1 (I.ok.inj _ _ _ e hc ▸ hi))
  ·by_cases hcc:c'=c
   ·subst hcc; exact⟨_,hc'⟩
   ·obtain⟨w2,z2⟩:=I.cell y c' e;exact⟨w2,z2.sameBut hs hcc⟩
  ·obtain⟨e,n,ne,nf,d⟩:=I.pin p hp;refine⟨(hs.2 p.1 ?_).trans e,n,ne,nf,d⟩;intro q;rw[q,hoc] at e;have q':oc=p.2:=aZ e;exact d w' (by rw[<- q']; exact hocd)
theorem zMw{M:mJ}{A:bu}{E:af->ai->Prop}{i:Nat}{x:aC}{v:V}{u:af}{Q:Unit->ai->Prop}(I:Inv X pins σ H s)(hN:X.N.Nodup)(hi:X.N[i]?=some x)(hx:Loc X.env.scope x)(r:xI v u)
  (h:∀ s',Inv X pins (σ.set i (some v)) H s'->Q () s') (hf:X.fn x=true\/X.env.scope.names.lookup x=some .local:=by first | exact .inl rfl | exact .inr rfl | assumption):wpAny M A (storeName X.env x u) Q E s :=
 zIf I hN hi hx r (λs' I' _=>h s' I') hf
theorem Inv.call'{s':ai}{ch:List ag}(I:Inv X pins σ H s)(ho:s'.os=s.os)(u:Un (frs X.stack) ch H H' s.heap s'.heap)(hok:HOk X.prog X.w H' s'.heap)(hg:gr s'.gens)
  (hch:∀ b∈ch,(b∈X.ex\/X.s₀.heap.objs.size<=b)/\b≠X.env.locals/\(∀ x c,X.env.cells.lookup x=some c->c≠b)/\∀ p∈X.pn++pins,p.1≠b):Inv X pins σ H' s':=by
 obtain⟨h',g',d',t',o'⟩:=s';have e:o'=s.os:=ho;subst e;exact I.call (g':=g') (t':=t') (d':=d') u hok hg hch
end

abbrev XK:=af->Option ag->Hp->Prop
abbrev St:=List (Option V)
abbrev VK:=V->Hp->Prop
abbrev TE:=St->Hp->VK->Prop
abbrev TT:=St->Hp->(Bool->Hp->Prop)->Prop
abbrev TA:=St->Hp->(List V->Hp->Prop)->Prop
structure zPd where
 nx:St->Hp->Prop
 rt:VK
 bk:St->Hp->Prop:=λ_ _=>False
 ct:St->Hp->Prop:=λ_ _=>False
abbrev TS:=zPd->St->Hp->Prop

def EP(X:Cx)(pins:List (ag×cA))(σ:St)(Q:VK)(u:af)(s':ai):Prop:=∃ v H',Inv X pins σ H' s'/\xI v u/\Q v H'
def TP(X:Cx)(pins:List (ag×cA))(σ:St)(Q:Bool->Hp->Prop)(b:Bool)(s':ai):Prop:=∃ H',Inv X pins σ H' s'/\Q b H'
def AP(X:Cx)(pins:List (ag×cA))(σ:St)(Q:List V->Hp->Prop)(us:List af)(s':ai):Prop:=∃ vs H',Inv X pins σ H' s'/\yY vs us/\Q vs H'
def SP(X:Cx)(pins:List (ag×cA))(D:zPd)(f:Flow)(s':ai):Prop :=
 match f with
 | .next=>∃ σ' H',Inv X pins σ' H' s'/\D.nx σ' H'
 | .brk=>∃ σ' H',Inv X pins σ' H' s'/\D.bk σ' H'
 | .cont=>∃ σ' H',Inv X pins σ' H' s'/\D.ct σ' H'
 | .ret u=>∃ v σ' H',Inv X pins σ' H' s'/\xI v u/\D.rt v H'

def PE(X:Cx)(e:bj)(t:TE):Prop :=
 ∀(pins:List (ag×cA))(s:ai)(σ:St)(H:Hp)(Q:VK),Inv X pins σ H s->t σ H Q->wpAny (model X.prog X.w) X.A (eval e X.env) (EP X pins σ Q) X.xe s
def PT(X:Cx)(e:bj)(t:TT):Prop :=
 ∀(pins:List (ag×cA))(s:ai)(σ:St)(H:Hp)(Q:Bool->Hp->Prop),Inv X pins σ H s->t σ H Q->wpAny (model X.prog X.w) X.A (isTrue e X.env (eval e X.env)) (TP X pins σ Q) X.xe s
def PW(X:Cx)(e:bj)(t:TT):Prop :=
 ∀(whole:lY af)(pins:List (ag×cA))(s:ai)(σ:St)(H:Hp)(Q:Bool->Hp->Prop),Inv X pins σ H s->t σ H Q->wpAny (model X.prog X.w) X.A (isTrue e X.env whole) (TP X pins σ Q) X.xe s
theorem PW.pt{X:Cx}{e:bj}{t:TT}(h:PW X e t):PT X e t:=h _
def PA(X:Cx)(es:List bj)(t:TA):Prop :=
 ∀(pos:fg)(pins:List (ag×cA))(s:ai)(σ:St)(H:Hp)(Q:List V->Hp->Prop),Inv X pins σ H s->t σ H Q->wpAny (model X.prog X.w) X.A (spliced (backTo pos (starEach es X.env))) (AP X pins σ Q) X.xe s
def PS(X:Cx)(st:bN)(t:TS):Prop :=
 ∀(pins:List (ag×cA))(s:ai)(σ:St)(H:Hp)(D:zPd),Inv X pins σ H s->t D σ H->wpAny (model X.prog X.w) X.A (exec st X.env) (SP X pins D) X.xe s
def PSs(X:Cx)(st:List bN)(t:TS):Prop :=
 ∀(pins:List (ag×cA))(s:ai)(σ:St)(H:Hp)(D:zPd),Inv X pins σ H s->t D σ H->wpAny (model X.prog X.w) X.A (execs st X.env) (SP X pins D) X.xe s
theorem thn{α:Type}{t:lY α}{Q Q':α->ai->Prop}{M:mJ}{A:bu}{E:af->ai->Prop}{s:ai}(h:wpAny M A t Q E s)(hQ:∀ a s,Q a s->Q' a s):wpAny M A t Q' E s:=cZ h hQ λ_ _ x=>x
end L2

namespace L2
open PySem PySem.Spec PyProof.Rows
section
variable{X:Cx}

theorem bin{a b:bj}{ta tb:TE}(ha:PE X a ta)(hb:PE X b tb){pins:List (ag×cA)}{s:ai}{σ:St}{H:Hp}{R:V->V->Hp->Prop}(I:Inv X pins σ H s)(h:ta σ H λx H1=>tb σ H1 λy H2=>R x y H2)
  {α:Type} {Q:α->ai->Prop} {f:af->af->lY α}
  (hf:∀ v u s2 x y H2,Inv X pins σ H2 s2->xI x v->xI y u->R x y H2->wpAny (model X.prog X.w) X.A (f v u) Q X.xe s2) :
  wpAny (model X.prog X.w) X.A (eval a X.env) (λv s₁=>wpAny (model X.prog X.w) X.A (eval b X.env) (λu s₂=>wpAny (model X.prog X.w) X.A (f v u) Q X.xe s₂) X.xe s₁) X.xe s:=by
 refine thn (ha pins s σ H _ I h) λv s1 ⟨x,H1,I1,r1,q1⟩=>?_;refine thn (hb pins s1 σ H1 _ I1 q1) λu s2 ⟨y,H2,I2,r2,q2⟩=>?_;exact hf v u s2 x y H2 I2 r1 r2 q2

inductive TVar(i:Nat)(σ:St)(H:Hp)(Q:VK):Prop where
 | mk (v:V) (e:σ[i]?=some (some v)) (q:Q v H)
def zWy(i:Nat):TE:=λσ H Q=>TVar i σ H Q
def tC(v:V):TE:=λ_ H Q=>Q v H
theorem zXw{i:Nat}{x:aC}{pos:fg}(hN:X.N[i]?=some x)(hv:Vis X.env.scope x)(hd:(x ==("__debug__" : aC))=false:=by decide)(hcd:(x ==("__classdict__" : aC))=false:=by decide):PE X (.Name x pos) (zWy i):=by
 intro pins s σ H Q I h;obtain⟨v,e,h⟩:=h;obtain⟨m,hn,hl⟩:=I.loc;obtain⟨u,r,l⟩:=hl i x v hN e hv;have fin:EP X pins σ Q u s:=⟨v,H,I,r,h⟩;rcases l with ⟨hk,hm⟩ | ⟨hk,c,hc,hcell⟩
 ·exact lA (wpAny_loadName_local I.ok.kind hk hn hm fin) hd
 ·rcases hk with hk | hk
  ·exact lA (wpAny_loadName_cell I.ok.kind hk hc hcell fin) hd
  ·exact lA (wpAny_loadName_free I.ok.kind hk hc hcell fin hcd) hd
theorem yW{i j pos} : PE X (.Constant (.int i) j pos) (tC (.int i)):=λ_ _ _ H _ I h=>wpAny_Constant_int ⟨.int i,H,I.tok _,⟨_,rfl⟩,h⟩
theorem zGd{b j pos} : PE X (.Constant (.bool b) j pos) (tC (.bl b)):=λ_ _ _ H _ I h=>Constant_bool ⟨.bl b,H,I,rfl,h⟩
theorem zQr{j pos} : PE X (.Constant .none j pos) (tC .non):=λ_ _ _ H _ I h=>Constant_none ⟨.non,H,I,rfl,h⟩
theorem zJ{x j pos} : PE X (.Constant (.str x) j pos) (tC (.str x)):=λ_ _ _ H _ I h=>jv ⟨.str x,H,I.tok _,⟨_,rfl⟩,h⟩

def Gl(X:Cx)(x:aC):Prop:=X.env.kindOf x=some .globalImplicit
theorem tS{E:af->ai->Prop}{pins:List (ag×cA)}{s:ai}{σ:St}{H:Hp}{x:aC}{u:af}{pos:fg}{Q:af->ai->Prop}(I:Inv X pins σ H s)(hg:Gl X x)(hm:X.mg x=some u)(h:Q u s)
  (hd:(x ==("__debug__" : aC))=false:=by decide):wpAny (model X.prog X.w) X.A (eval (.Name x pos) X.env) Q E s :=
 gD I.ok.kind hg (Calls.loadGlobal_global (by rw[I.ok.glob]; exact I.mod.glob.keeps I.bk) hm h) hd
theorem zGn{E:af->ai->Prop}{pins:List (ag×cA)}{s:ai}{σ:St}{H:Hp}{x:aC}{u:af}{pos:fg}{Q:af->ai->Prop}(I:Inv X pins σ H s)(hg:Gl X x)(hm:X.mg x=none)(hv:bootBuiltins x=some u)(h:Q u s)
  (hn:x ≠ "__name__" := by decide) (hd:(x ==("__debug__" : aC))=false:=by decide):wpAny (model X.prog X.w) X.A (eval (.Name x pos) X.env) Q E s:=by
 obtain⟨mb,h1,h2⟩:=I.mod.blt;exact gD I.ok.kind hg (Calls.loadGlobal_builtin (by rw[I.ok.glob]; exact I.mod.glob.keeps I.bk) hm (by rw[I.ok.blt]; exact h1.keeps I.bk) ((h2 x hn).trans hv) h) hd
theorem zA5{x:aC}{v:V}{u:af}{pos:fg}(hg:Gl X x)(hm:X.mg x=none)(hv:bootBuiltins x=some u)(r:xI v u)(hn:x ≠ "__name__" := by decide)(hd:(x ==("__debug__" : aC))=false:=by decide):PE X (.Name x pos) (tC v) :=
 λ_ _ _ H _ I h=>zGn I hg hm hv ⟨v,H,I,r,h⟩ hn hd

variable{a b:bj}{ta tb:TE}{pos:fg}
def PC(X:Cx)(op:kQ)(a b:bj)(t:TE):Prop :=
 ∀(pins:List (ag×cA))(s:ai)(σ:St)(H:Hp)(Q:VK),Inv X pins σ H s->t σ H Q ->
  wpAny (model X.prog X.w) X.A (eval a X.env) (λv s₁=>wpAny (model X.prog X.w) X.A (eval b X.env) (λu s₂=>wpAny (model X.prog X.w) X.A (compareOp op v u) (EP X pins σ Q) X.xe s₂) X.xe s₁) X.xe s
def tB(t:TE):TT:=λσ H Q=>t σ H λx H1=>∃ c,x=.bl c/\Q c H1
theorem qL{op:kQ}{t:TE}(h:PC X op a b t)(h1:behindInMarks op b=false:=by first | exact nobehind _ (by decide) (by decide) | rfl):PT X (.Compare a [op] [b] pos) (tB t):=by
 intro pins s σ H Q I hw;refine iR (thn (h pins s σ H _ I hw) λv s1 h1=>thn h1 λu s2 h2=>thn h2 λc s3 ⟨x,H1,I1,r1,q1⟩=>?_) h1;obtain⟨d,rfl,q⟩:=q1;cases r1;exact cf ⟨H1,I1,q⟩
theorem zAv{e:bj}{t:TE}(h:PE X e t)(he:∀ whole,isTrue e X.env whole=(do let v <- whole; standAt e.pos; holding [v] (truthy v)):=by intro _; rfl):PT X e (tB t):=by
 intro pins s σ H Q I hw;refine isTrue_plain (thn (h pins s σ H _ I hw) λv s1 ⟨x,H1,I1,r1,q1⟩=>?_) (he _);obtain⟨d,rfl,q⟩:=q1;cases r1;exact cf ⟨H1,I1,q⟩

variable{tA tB':TT}{rest:List bj}
def tAnd(t u:TT):TT:=λσ H Q=>t σ H λc H1=>if c=true then u σ H1 Q else Q false H1
def tOr(t u:TT):TT:=λσ H Q=>t σ H λc H1=>if c=true then Q true H1 else u σ H1 Q
def tNot(t:TT):TT:=λσ H Q=>t σ H λc H1=>Q (!c) H1
theorem zFb(ha:PT X a tA):PW X (.BoolOp .And [a] pos) tA:=by
 intro wh pins s σ H Q I h;refine isTrue_and (thn (ha pins s σ H Q I h) λc s1 e=>?_);cases c with
 | true=>exact isTrue_and_nil e
 | false=>exact e
theorem zIi(ha:PT X a tA):PW X (.BoolOp .Or [a] pos) tA:=by
 intro wh pins s σ H Q I h;refine isTrue_or (thn (ha pins s σ H Q I h) λc s1 e=>?_);cases c with
 | false=>exact isTrue_or_nil e
 | true=>exact e
theorem zId(ha:PT X a tA)(hb:PW X (.BoolOp .And (b::rest) pos) tB'):PW X (.BoolOp .And (a::b::rest) pos) (tAnd tA tB'):=by
 intro wh pins s σ H Q I h;refine isTrue_and (thn (ha pins s σ H _ I h) λc s1 ⟨H1,I1,q1⟩=>?_);cases c with
 | true=>exact hb wh pins s1 σ H1 Q I1 q1
 | false=>exact⟨H1,I1,q1⟩
theorem zOi(ha:PT X a tA)(hb:PW X (.BoolOp .Or (b::rest) pos) tB'):PW X (.BoolOp .Or (a::b::rest) pos) (tOr tA tB'):=by
 intro wh pins s σ H Q I h;refine isTrue_or (thn (ha pins s σ H _ I h) λc s1 ⟨H1,I1,q1⟩=>?_);cases c with
 | true=>exact⟨H1,I1,q1⟩
 | false=>exact hb wh pins s1 σ H1 Q I1 q1
theorem zAz(ha:PT X a tA):PT X (.UnaryOp .Not a pos) (tNot tA):=by
 intro pins s σ H Q I h;exact isTrue_not (ha pins s σ H (λc H1=>Q (!c) H1) I h)
def tAndV(ta tb:TE):TE:=λσ H Q=>ta σ H λx H1=>∃ c,x=.bl c/\if c=true then tb σ H1 Q else Q (.bl false) H1
def tNotV(ta:TE):TE:=λσ H Q=>ta σ H λx H1=>∃ c,x=.bl c/\Q (.bl (!c)) H1
theorem zMn{op}{t:TE}(h:PE X a t):PE X (.BoolOp op [a] pos) t:=λpins s σ H Q I hw=>BoolOp_one (h pins s σ H Q I hw)
theorem zM5(ha:PE X a ta)(hb:PE X (.BoolOp .And (b::rest) pos) tb):PE X (.BoolOp .And (a::b::rest) pos) (tAndV ta tb):=by
 intro pins s σ H Q I h;refine BoolOp_and (thn (ha pins s σ H _ I h) λv s1 ⟨x,H1,I1,r1,q1⟩=>?_);obtain⟨c,rfl,q1⟩:=q1;cases r1;refine cf ?_;cases c with
 | true=>exact hb pins s1 σ H1 Q I1 q1
 | false=>exact⟨.bl false,H1,I1,rfl,q1⟩
theorem zU1(ha:PE X a ta):PE X (.UnaryOp .Not a pos) (tNotV ta):=by
 intro pins s σ H Q I h;refine UnaryOp_ (thn (ha pins s σ H _ I h) λv s1 ⟨x,H1,I1,r1,q1⟩=>?_);obtain⟨c,rfl,q1⟩:=q1;cases r1;exact not_of (cf ⟨.bl (!c),H1,I1,rfl,q1⟩)
def tIf(t:TT)(ta tb:TE):TE:=λσ H Q=>t σ H λc H1=>if c=true then ta σ H1 Q else tb σ H1 Q
theorem tH{c:bj}(hc:PT X c tA)(ha:PE X a ta)(hb:PE X b tb):PE X (.IfExp c a b pos) (tIf tA ta tb):=by
 intro pins s σ H Q I h;refine wpAny_IfExp (thn (hc pins s σ H _ I h) λd s1 ⟨H1,I1,q1⟩=>?_);cases d with
 | true=>exact ha pins s1 σ H1 Q I1 q1
 | false=>exact hb pins s1 σ H1 Q I1 q1
end
end L2

namespace L2
open PySem PySem.Spec PyProof.Rows

def SqL(K:ae)(H:Hp)(a:ag)(xs:List V):Prop :=
 Rd H a (.lst xs) \/
  ∃(o:cA)(its:Array af)(n:Nat),K.lookup a=some o/\o.cls=.type "list" /\ o.dict=none/\o.data=.seq its n/\its.size<=sizeLine/\yY xs its.toList
def SqT(K:ae)(H:Hp)(a:ag)(xs:List V):Prop :=
 Rd H a (.tup xs) \/
  ∃(o:cA)(its:Array af)(n:Nat),K.lookup a=some o/\o.cls=.type "tuple" /\ o.data=.seq its n/\its.size<=sizeLine/\yY xs its.toList
def absV:af->Option V
 | .none=>some .non
 | .bool b=>some (.bl b)
 | .int i _=>some (.int i)
 | .str x _=>some (.str x)
 | .bytes b _=>some (.byt b)
 | .float b _=>some (.flt b)
 | .ref a=>some (.ref a)
 | .type n=>some (.ty n)
 | _=>none
theorem xI.abs{x:V}{u:af}(r:xI x u):absV u=some x:=by
 cases x with
 | non=>cases r; rfl
 | bl _=>cases r; rfl
 | int _=>obtain⟨t,rfl⟩:=r; rfl
 | str _=>obtain⟨t,rfl⟩:=r; rfl
 | byt _=>obtain⟨t,rfl⟩:=r; rfl
 | flt _=>obtain⟨t,rfl⟩:=r; rfl
 | ref _=>cases r; rfl
 | ty _=>cases r; rfl
theorem xI.inj{x y:V}{u:af}(r:xI x u)(q:xI y u):x=y:=aZ (r.abs.symm.trans q.abs)
theorem yY.inj:∀{xs ys:List V}{us:List af},yY xs us->yY ys us->xs=ys
 | _,_,_,.nil,.nil=>rfl
 | _,_,_,.cons r t,.cons r' t'=>by rw[r.inj r',yY.inj t t']
section
variable{X:Cx}{pins:List (ag×cA)}{σ:St}{H:Hp}{s:ai}{a:ag}{xs ys:List V}
theorem SqL.of{K:ae}(h:H a=some (.lst xs)):SqL K H a xs:=.inl (.inl h)
theorem SqT.of{K:ae}(h:H a=some (.tup xs)):SqT K H a xs:=.inl (.inl h)
theorem Inv.list(I:Inv X pins σ H s)(h:SqL X.K H a xs):∃ its:List af,yY xs its/\PlainL s.heap a its.toArray/\xs.length<=sizeLine:=by
 rcases h with h | ⟨o,its,n,hk,hc,hd,hs,hz,r⟩
 ·obtain⟨z,its,n,r,e⟩:=h.ok I.hok;exact⟨its,r,⟨_,n,e,rfl,rfl,rfl⟩,z⟩
 ·exists its.toList,r,⟨o,n,I.kIn a o hk,hc,hd,by simpa using hs⟩;have e:=r.length;simp only[bR] at e;lia
theorem Inv.tuple(I:Inv X pins σ H s)(h:SqT X.K H a xs):∃ its:List af,yY xs its/\ly s.heap a its.toArray/\xs.length<=sizeLine:=by
 rcases h with h | ⟨o,its,n,hk,hc,hs,hz,r⟩
 ·obtain⟨z,its,r,p⟩:=h.ok I.hok;exact⟨its,r,p,z⟩
 ·exists its.toList,r,⟨o,I.kIn a o hk,hc,n,by simpa using hs⟩;have e:=r.length;simp only[bR] at e;lia
theorem Inv.list_inj(I:Inv X pins σ H s)(h:SqL X.K H a xs)(h':SqL X.K H a ys):xs=ys:=by
 obtain⟨its,r,⟨o,n,e,_,_,d⟩,_⟩:=I.list h;obtain⟨its',r',⟨o',n',e',_,_,d'⟩,_⟩:=I.list h';rw[e] at e'; cases e';rw[d] at d';injection d' with d1 _
 have:its=its':=by simpa using congrArg mR d1
 subst this;exact r.inj r'
theorem Inv.tuple_inj(I:Inv X pins σ H s)(h:SqT X.K H a xs)(h':SqT X.K H a ys):xs=ys:=by
 obtain⟨its,r,⟨o,e,_,n,d⟩,_⟩:=I.tuple h;obtain⟨its',r',⟨o',e',_,n',d'⟩,_⟩:=I.tuple h';rw[e] at e'; cases e';rw[d] at d';injection d' with d1 _
 have:its=its':=by simpa using congrArg mR d1
 subst this;exact r.inj r'
end

abbrev Cx.wish(X:Cx)(E:af->ai->Prop):Cx:={ X with xe:=E }
abbrev Cx.nox(X:Cx):Cx:=X.wish λ_ _=>False
theorem Cx.Ok.wish{X:Cx}(ok:X.Ok)(E:af->ai->Prop):(X.wish E).Ok :=
 ⟨ok.mod,ok.kind,ok.glob,ok.blt,ok.above,ok.inj,ok.has,ok.cab,ok.hd,ok.frames,ok.stk,ok.exf,ok.bs,ok.bsz,ok.noex,ok.exfs,ok.funs,ok.frf⟩
theorem Cx.Ok.unwish{X:Cx}{E:af->ai->Prop}(ok:(X.wish E).Ok):X.Ok :=
 ⟨ok.mod,ok.kind,ok.glob,ok.blt,ok.above,ok.inj,ok.has,ok.cab,ok.hd,ok.frames,ok.stk,ok.exf,ok.bs,ok.bsz,ok.noex,ok.exfs,ok.funs,ok.frf⟩
section
variable{X:Cx}{pins:List (ag×cA)}{σ:St}{H:Hp}{s:ai}{E:af->ai->Prop}
theorem Inv.wish(I:Inv X pins σ H s)(E:af->ai->Prop):Inv (X.wish E) pins σ H s:=⟨I.ok.wish E,I.os,I.bare,I.base,I.loc,I.cell,I.free,I.freeC,I.pin,I.hok,I.len⟩
theorem Inv.unwish(I:Inv (X.wish E) pins σ H s):Inv X pins σ H s:=⟨I.ok.unwish,I.os,I.bare,I.base,I.loc,I.cell,I.free,I.freeC,I.pin,I.hok,I.len⟩
theorem SP.unwish{D:zPd}{f:Flow}{s':ai}(h:SP (X.wish E) pins D f s'):SP X pins D f s':=by
 cases f with
 | next=>obtain⟨σ',H',I,q⟩:=h; exact⟨σ',H',I.unwish,q⟩
 | brk=>obtain⟨σ',H',I,q⟩:=h; exact⟨σ',H',I.unwish,q⟩
 | cont=>obtain⟨σ',H',I,q⟩:=h; exact⟨σ',H',I.unwish,q⟩
 | ret u=>obtain⟨v,σ',H',I,r,q⟩:=h; exact⟨v,σ',H',I.unwish,r,q⟩
theorem PSs.nox{st:List bN}{t:TS}(h:PSs X.nox st t):PSs X st t:=λpins s σ H D I hw =>
 cZ (h pins s σ H D (I.wish _) hw) (λ_ _ q=>q.unwish) λ_ _ z=>be z
end

section
variable{X:Cx}{st:bN}{rest:List bN}{t u:TS}{e:bj}{te:TE}{pos:fg}
def tNext:TS:=λD σ H=>D.nx σ H
def tSeq(t u:TS):TS:=λD σ H=>t { D with nx:=u D } σ H
theorem zS:PSs X [] tNext:=λ_ _ σ H _ I h=>fk ⟨σ,H,I,h⟩
theorem zD(h1:PS X st t)(h2:PSs X rest u):PSs X (st::rest) (tSeq t u):=by
 intro pins s σ H D I h;refine ko (thn (h1 pins s σ H { D with nx:=u D } I h) λf s1 q=>?_);cases f with
 | next =>
  obtain⟨σ',H',I',q⟩:=q;exact h2 pins s1 σ' H' D I' q
 | ret v=>exact q
 | brk=>exact q
 | cont=>exact q
theorem zF(h1:PS X st t):PSs X [st] t:=by
 intro pins s σ H D I h;refine ko (thn (h1 pins s σ H D I h) λf s1 q=>?_);cases f with
 | next=>exact fk q
 | ret v=>exact q
 | brk=>exact q
 | cont=>exact q
theorem Inv.quiet{pins:List (ag×cA)}{σ:St}{H:Hp}{s:ai}(I:Inv X pins σ H s):interactive X.env=false:=by simp[interactive,I.ok.kind]
def tDrop(te:TE):TS:=λD σ H=>te σ H λ_ H1=>D.nx σ H1
theorem zX(he:PE X e te)(hs:swapsWith e none pos.line X.env=pure false:=by rfl):PS X (.Expr e pos) (tDrop te):=by
 intro pins s σ H D I h;exact wpAny_Expr_any (thn (he pins s σ H _ I h) λv s1 ⟨x,H1,I1,r1,q1⟩=>⟨σ,H1,I1,q1⟩) I.quiet hs
def tRet(te:TE):TS:=λD σ H=>te σ H D.rt
theorem zP(he:PE X e te):PS X (.Return (some e) pos) (tRet te):=by
 intro pins s σ H D I h;exact wpAny_Return_some (thn (he pins s σ H _ I h) λv s1 ⟨x,H1,I1,r1,q1⟩=>⟨x,σ,H1,I1,r1,q1⟩)
def tIfS(c:TT)(t u:TS):TS:=λD σ H=>c σ H λb H1=>if b=true then t D σ H1 else u D σ H1
theorem yH{c:bj}{a b:List bN}{tc:TT}(hc:PT X c tc)(ha:PSs X a t)(hb:PSs X b u):PS X (.If c a b pos) (tIfS tc t u):=by
 intro pins s σ H D I h;refine wpAny_If (thn (hc pins s σ H _ I h) λd s1 ⟨H1,I1,q1⟩=>?_);cases d with
 | true=>exact ha pins s1 σ H1 D I1 q1
 | false=>exact hb pins s1 σ H1 D I1 q1
end

abbrev TG:=V->St->Hp->(St->Hp->Prop)->Prop
abbrev TGs:=List V->St->Hp->(St->Hp->Prop)->Prop
def PG(X:Cx)(target:bj)(t:TG):Prop :=
 ∀(pins:List (ag×cA))(s:ai)(σ:St)(H:Hp)(v:V)(u:af)(Q:St->Hp->Prop),Inv X pins σ H s->xI v u->t v σ H Q ->
  wpAny (model X.prog X.w) X.A (assign target X.env u) (λ_ s'=>∃ σ' H',Inv X pins σ' H' s'/\Q σ' H') X.xe s
def PGs(X:Cx)(ts:List bj)(t:TGs):Prop :=
 ∀(pins:List (ag×cA))(s:ai)(σ:St)(H:Hp)(vs:List V)(us:List af)(Q:St->Hp->Prop),Inv X pins σ H s->yY vs us->t vs σ H Q ->
  wpAny (model X.prog X.w) X.A (assignInOrder ((assignEach ts X.env).map (·.2)) us) (λ_ s'=>∃ σ' H',Inv X pins σ' H' s'/\Q σ' H') X.xe s
abbrev zZr:=V->V->V->Hp->(Hp->Prop)->Prop
def PSet(X:Cx)(t:zZr):Prop :=
 ∀(pins:List (ag×cA))(s:ai)(σ:St)(H:Hp)(o i v:V)(ov iv u:af)(Q:Hp->Prop),Inv X pins σ H s->xI o ov->xI i iv->xI v u->t o i v H Q ->
  wpAny (model X.prog X.w) X.A (setItem ov iv u) (λ_ s'=>∃ H',Inv X pins σ H' s'/\Q H') X.xe s
section
variable{X:Cx}{pos:fg}
def zSz(i:Nat):TG:=λv σ H Q=>Q (σ.set i (some v)) H
theorem zA2{i:Nat}{x:aC}(hN:X.N.Nodup)(hi:X.N[i]?=some x)(hx:Loc X.env.scope x)(hf:X.fn x=true\/X.env.scope.names.lookup x=some .local:=by first | exact .inl rfl | exact .inr rfl | assumption):PG X (.Name x pos) (zSz i):=by
 intro pins s σ H v u Q I r h;exact wpAny_assign_Name (zMw I hN hi hx r (λs' I'=>⟨_,H,I',h⟩) hf)
def gNil:TGs:=λvs σ H Q=>vs=[]/\Q σ H
def gCons(t:TG)(u:TGs):TGs:=λvs σ H Q=>∃ v r,vs=v::r/\t v σ H λσ' H'=>u r σ' H' Q
theorem zFd:PGs X [] gNil:=by
 intro pins s σ H vs us Q I r h;obtain⟨e,h⟩:=h;subst e;cases r;exact assignInOrder_nil ⟨σ,H,I,h⟩
theorem vF{e:bj}{es:List bj}{t:TG}{u:TGs}(h1:PG X e t)(h2:PGs X es u)
  (hs:(assignEach (e::es) X.env).map (·.2)=assign e X.env::(assignEach es X.env).map (·.2):=by rfl):PGs X (e::es) (gCons t u):=by
 intro pins s σ H vs us Q I r h;obtain⟨v,vr,e1,h⟩:=h;subst e1;cases r with
 | cons r rr =>
  rw[hs];refine assignInOrder_cons (thn (h1 pins s σ H _ _ _ I r h) λ_ s1 ⟨σ1,H1,I1,q1⟩=>?_);exact h2 pins s1 σ1 H1 _ _ Q I1 rr q1
def gTup(K:ae)(n:Nat)(t:TGs):TG:=λv σ H Q=>∃ a xs,v=.ref a/\SqT K H a xs/\xs.length=n/\t xs σ H Q
theorem zMp{es:List bj}{k:Nat}{t:TGs}{n:Nat}(hc:X.calm=true)(h:PGs X es t)
  (hn:(assignEach es X.env).length=n:=by rfl) (hst:(assignEach es X.env).findIdx? (·.1)=none:=by rfl):PG X (.Tuple es k pos) (gTup X.K n t):=by
 intro pins s σ H v u Q I r hw;obtain⟨a,xs,e1,hq,hl,hw⟩:=hw;subst e1;cases r;obtain⟨its,rv,ht,hz⟩:=I.tuple hq;refine assign_Tuple_tuple (I.ok.hd hc) ht (by simp[hn,<- hl,rv.length]) hst λh' hx=>?_;have I1:Inv X pins σ H { s with heap:=h' }:=I.kept (t':=s.toks) λb o e=>hx b o (aQ (az e)) e;exact h pins _ σ H xs _ Q I1 (by simpa using rv) hw
def gSub(to ti:TE)(t:zZr):TG:=λv σ H Q=>to σ H λo H1=>ti σ H1 λi H2=>t o i v H2 λH3=>Q σ H3
theorem zYc{o i:bj}{to ti:TE}{t:zZr}(ho:PE X o to)(hi:PE X i ti)(hs:PSet X t)
  (ha:∀ v,assign (.Subscript o i pos) X.env v=(do
   let ov <- holding [v] (eval o X.env)
   let iv <- holding [v,ov] (eval i X.env)
   standAt pos
   holding [v,ov,iv] (setItem ov iv v)
   release [v,ov,iv] []):=by intro _; rfl):PG X (.Subscript o i pos) (gSub to ti t):=by
 intro pins s σ H v u Q I r h;rw[ha];refine aa (bI (thn (ho pins s σ H _ I h) λov s1 ⟨x,H1,I1,r1,q1⟩=>?_));refine aa (bI (thn (hi pins s1 σ H1 _ I1 q1) λiv s2 ⟨y,H2,I2,r2,q2⟩=>?_));refine aa (hZ (aa (bI (thn (hs pins s2 σ H2 x y v ov iv u _ I2 r1 r2 r q2) λ_ s3 ⟨H3,I3,q3⟩=>?_))));exact wpAny_release ⟨σ,H3,I3,q3⟩
def zZq(te:TE)(g:TG):TS:=λD σ H=>te σ H λx H1=>g x σ H1 D.nx
theorem zYu{tg e:bj}{te:TE}{g:TG}(he:PE X e te)(hg:PG X tg g)(hs:swapsWithSole [tg] e pos.line X.env=pure false:=by rfl)(hw:swappedStores [tg] e X.env=pure none:=by rfl)
  (h1:(assignEach [tg] X.env).map (·.2)=[assign tg X.env]:=by rfl):PS X (.Assign [tg] e pos) (zZq te g):=by
 intro pins s σ H D I h;refine wpAny_Assign_stores (thn (he pins s σ H _ I h) λv s1 ⟨x,H1,I1,r1,q1⟩=>?_) hs hw;rw[h1];exact thn (hg pins s1 σ H1 x v _ I1 r1 q1) λ_ s2 q=>q
theorem qN{i:Nat}{x:aC}{e:bj}{te:TE}{pos':fg}(hN:X.N.Nodup)(hi:X.N[i]?=some x)(hx:Loc X.env.scope x)(he:PE X e te)(hs:swapsWith e (some (.Name x pos')) pos.line X.env=pure false:=by rfl)(hf:X.fn x=true\/X.env.scope.names.lookup x=some .local:=by first | exact .inl rfl | exact .inr rfl | assumption) :
  PS X (.Assign [.Name x pos'] e pos) (zZq te (zSz i)):=by
 intro pins s σ H D I h;refine wpAny_Assign_Name (thn (he pins s σ H _ I h) λv s1 ⟨y,H1,I1,r1,q1⟩=>?_) hs;exact zMw I1 hN hi hx r1 (λs2 I2=>⟨_,H1,I2,q1⟩) hf
end

section
variable{X:Cx}{pos:fg}
def zUk(c:TT)(tb:TS):TS:=λD σ H=>∃ W:Nat->St->Hp->Prop,(∃ m,W m σ H)/\∀ m σ H,W m σ H ->
 c σ H λb H1=>if b=true then ∃ N:St->Hp->Prop,(∀ σ' H',N σ' H'->∃ m',m'<m/\W m' σ' H')/\tb { D with nx:=N,ct:=N,bk:=D.nx } σ H1 else D.nx σ H1
theorem zMu{c:bj}{body:List bN}{tc:TT}{tb:TS}(hp:PassesOwn (model X.prog X.w) X.A X.env X.xe)(hc:PT X c tc)(hb:PSs X body tb):PS X (.While c body [] pos) (zUk tc tb):=by
 intro pins s σ H D I h;obtain⟨W,⟨m0,w0⟩,turn⟩:=h;refine wpAny_While (codeAny_whileLoop (λn s'=>∃ σ' H',Inv X pins σ' H' s'/\W n σ' H') ?_ m0 ⟨σ,H,I,w0⟩);rintro n s1 ⟨σ1,H1,I1,w1⟩;refine dM hp (thn (hc pins s1 σ1 H1 _ I1 (turn n σ1 H1 w1)) λb s2 ⟨H2,I2,q2⟩=>?_);cases b with
 | true =>
  obtain⟨N,hN,q2⟩:=q2;rw[if_pos rfl];refine dM hp (thn (hb pins s2 σ1 H2 _ I2 q2) λf s3 q3=>?_);cases f with
  | next =>
   obtain⟨σ3,H3,I3,n3⟩:=q3;obtain⟨m',hm,w3⟩:=hN σ3 H3 n3;exact⟨m',hm,σ3,H3,I3,w3⟩
  | cont =>
   obtain⟨σ3,H3,I3,n3⟩:=q3;obtain⟨m',hm,w3⟩:=hN σ3 H3 n3;exact⟨m',hm,σ3,H3,I3,w3⟩
  | brk=>exact q3
  | ret v=>exact q3
 | false =>
  rw[if_neg aE];exact fk ⟨σ1,H2,I2,q2⟩
end

structure It where
 go:Nat->Hp->Prop
 yld:Nat->Hp->V->Hp->Prop
 stop:Nat->Hp->Prop
def zLa(X:Cx)(pins:List (ag×cA))(H:Hp)(b:ag):Prop :=
 H b=none/\b≠X.env.locals/\b ∉ X.fs/\(b∈X.ex\/X.s₀.heap.objs.size<=b)/\(∀ x c,X.env.cells.lookup x=some c->c≠b)/\∀ p∈X.pn++pins,p.1≠b
theorem Inv.fpOk{X:Cx}{pins:List (ag×cA)}{σ:St}{H H':Hp}{s:ai}{b:ag}(I:Inv X pins σ H s)(hb:s.heap.objs.size<=b)(hn:H' b=none):zLa X pins H' b:=by
 refine⟨hn,d3 (aR I.lt hb),I.nofs hb,.inr (aO I.sz hb),λx c e z=>?_,λp hp z=>?_⟩
 ·obtain⟨v,q⟩:=I.cell x c e;exact absurd (aR q.lt (by rw[z]; exact hb)) (db _)
 ·exact absurd (aR (az (I.pin p hp).1) (by rw[z]; exact hb)) (db _)
structure zUj(P:aL)(w:aT)(K:ae)(tg:bj)(J:It)(fp:List ag)(it:ag)(tn:Nat->aV->Prop):Prop where
 mem:it∈fp
 obj:∀ i h,tn i h->∀ b∈fp,∃ o,h.get? b=some o/\∀ v,o.data≠.cell v
 keep:∀ i h h',tn i h->(∀ b∈fp,∀ o,h.get? b=some o->h'.get? b=some o)->tn i h'
 item:∀(X:Cx),X.prog=P->X.w=w->X.K=K->X.calm=true->∀(i:Nat)(pins:List (ag×cA))(s:ai)(σ:St)(H:Hp)(E:af->ai->Prop),Inv X pins σ H s->(∀ b∈fp,zLa X pins H b)->tn i s.heap->J.go i H ->
  wpAny (model P w) X.A (pyNext (.ref it)) (λr s1=>∃ u,r=some u /\
   wpAny (model P w) X.A (letOwnedTupleGo tg (.ref it) u) (λ_ s2=>∃ x H',Inv X pins σ H' s2/\xI x u/\J.yld i H x H'/\tn (i+1) s2.heap/\∀ b∈fp,H' b=none) E s1) E s
 done:∀(X:Cx),X.prog=P->X.w=w->X.K=K->X.calm=true->∀(i:Nat)(pins:List (ag×cA))(s:ai)(σ:St)(H:Hp)(E:af->ai->Prop),Inv X pins σ H s->(∀ b∈fp,zLa X pins H b)->tn i s.heap->J.stop i H ->
  wpAny (model P w) X.A (pyNext (.ref it)) (λr s1=>r=none/\Inv X pins σ H s1) E s
 self:∀(A:bu)(i:Nat)(s:ai)(Q:af->ai->Prop)(E:af->ai->Prop),tn i s.heap->Q (.ref it) s->wpAny (model P w) A (pyIter (.ref it)) Q E s
abbrev TI:=St->Hp->(It->Hp->Prop)->Prop
def PIE(X:Cx)(pins:List (ag×cA))(σ:St)(tg:bj)(R:It->Hp->Prop)(itv:af)(s2:ai):Prop :=
 ∃(it:ag)(fp:List ag)(tn:Nat->aV->Prop)(J:It)(H':Hp),itv=.ref it/\Inv X pins σ H' s2/\zUj X.prog X.w X.K tg J fp it tn/\tn 0 s2.heap/\(∀ b∈fp,zLa X pins H' b)/\R J H'
def PI(X:Cx)(tg iter:bj)(wi:TI):Prop :=
 ∀(pins:List (ag×cA))(s:ai)(σ:St)(H:Hp)(R:It->Hp->Prop),Inv X pins σ H s->wi σ H R ->
  wpAny (model X.prog X.w) X.A (eval iter X.env) (λv s1=>wpAny (model X.prog X.w) X.A (pyIter v) (PIE X pins σ tg R) X.xe s1) X.xe s

theorem zOa{M:mJ}{A:bu}{E:af->ai->Prop}{s:ai}{tg:bj}{it:ag}{u:af}{o:cA}{n:String}{vs:Array af}{Q:Unit->ai->Prop}(ho:s.heap.get? it=some o)(hc:o.cls=.type n)(hd:o.data=.fields vs)
  (hn:["enumerate", "zip", "dict_itemiterator", "dict_reverseitemiterator", "odict_iterator", "itertools.zip_longest", "itertools.pairwise"].contains n=false) (hQ:Q () s):wpAny M A (letOwnedTupleGo tg (.ref it) u) Q E s:=by
 unfold letOwnedTupleGo;cases tg <;> first
  | exact ak hQ
  | (cases u <;> first
    | exact ak hQ
    | (refine aa (wpAny_load ho ?_)
       rw[hc,hd];show wpAny M A (if (["enumerate", "zip", "dict_itemiterator", "dict_reverseitemiterator", "odict_iterator", "itertools.zip_longest", "itertools.pairwise"].contains n&&vs[0]? == some (rawInt _))=true then _ else _) Q E s;rw[if_neg (by intro h; rw[hn,gE] at h; cases h)];exact ak hQ))

def Itl(K:ae)(a:ag):It :=
 ⟨λi H=>∃ xs x,SqL K H a xs/\xs[i]?=some x,λi H x H'=>H'=H/\∀ xs,SqL K H a xs->xs[i]?=some x,λi H=>∃ xs,SqL K H a xs/\xs.length<=i⟩
def Itt(K:ae)(a:ag):It :=
 ⟨λi H=>∃ xs x,SqT K H a xs/\xs[i]?=some x,λi H x H'=>H'=H/\∀ xs,SqT K H a xs->xs[i]?=some x,λi H=>∃ xs,SqT K H a xs/\xs.length<=i⟩
def Itr(lo:Int)(n:Nat):It:=⟨λi _=>i<n,λi H x H'=>H'=H/\x=.int (lo+i),λi _=>n<=i⟩
theorem zIz{P:aL}{w:aT}{K:ae}{tg:bj}(a it:ag):zUj P w K tg (Itl K a) [it] it (λi h=>h.IsListIter it a i) where
 mem:=by simp
 obj:=λi h st b hb=>by
  have e:b=it:=by simpa using hb
  subst e;obtain⟨o,e,c,d⟩:=st;exact⟨o,e,λv z=>by rw[d] at z; cases z⟩
 keep:=λi h h' st k=>st.at λo e=>k it (by simp) o e
 item:=by
  intro X hP hw hK hc i pins s σ H E I hf st hg;subst hP hw hK;obtain⟨xs,x,hq,hx⟩:=hg;obtain⟨its,rv,p,hz⟩:=I.list hq;obtain⟨u,hu,ru⟩:=rv.get hx;obtain⟨f0,f1,f2,f3,f4,f5⟩:=hf it (by simp);refine ir st p.isList (x:=u) (by simpa using hu) λh' st' sb=>?_;have I1:Inv X pins σ H { s with heap:=h' }:=I.turned (t':=s.toks) (λb o hb e=>(sb.2 b hb).trans e) f0 f1 f3 f4 f5;obtain⟨o,e,c,d⟩:=id st';exact⟨u,rfl,zOa (s:={ s with heap:=h' }) e c d (by decide) ⟨x,H,I1,ru,⟨rfl,λys hy=>by rw[I.list_inj hy hq]; exact hx⟩,st',λb hb=>(hf b hb).1⟩⟩
 done:=by
  intro X hP hw hK hc i pins s σ H E I hf st hg;subst hP hw hK;obtain⟨xs,hq,hx⟩:=hg;obtain⟨its,rv,p,hz⟩:=I.list hq;obtain⟨f0,f1,f2,f3,f4,f5⟩:=hf it (by simp);have hl:=rv.length;exact wpAny_pyNext_list_end (I.ok.hd hc) st p.isList (by simp; lia) λh' eb=>⟨rfl,I.turned (t':=s.toks) (λb o hb e=>eb b o hb e) f0 f1 f3 f4 f5⟩
 self:=λ_ _ _ _ _ st h=>iS st h
theorem zGh{P:aL}{w:aT}{K:ae}{tg:bj}(a it:ag):zUj P w K tg (Itt K a) [it] it (λi h=>h.IsTupleIter it a i) where
 mem:=by simp
 obj:=λi h st b hb=>by
  have e:b=it:=by simpa using hb
  subst e;obtain⟨o,e,c,d⟩:=st;exact⟨o,e,λv z=>by rw[d] at z; cases z⟩
 keep:=λi h h' st k=>st.at λo e=>k it (by simp) o e
 item:=by
  intro X hP hw hK hc i pins s σ H E I hf st hg;subst hP hw hK;obtain⟨xs,x,hq,hx⟩:=hg;obtain⟨its,rv,p,hz⟩:=I.tuple hq;obtain⟨u,hu,ru⟩:=rv.get hx;obtain⟨f0,f1,f2,f3,f4,f5⟩:=hf it (by simp);refine wpAny_pyNext_tuple_item st (show s.heap.IsTuple a its.toArray from p) (x:=u) (by simpa using hu) λh' st' sb=>?_;have I1:Inv X pins σ H { s with heap:=h' }:=I.turned (t':=s.toks) (λb o hb e=>(sb.2 b hb).trans e) f0 f1 f3 f4 f5;obtain⟨o,e,c,d⟩:=id st';exact⟨u,rfl,zOa (s:={ s with heap:=h' }) e c d (by decide) ⟨x,H,I1,ru,⟨rfl,λys hy=>by rw[I.tuple_inj hy hq]; exact hx⟩,st',λb hb=>(hf b hb).1⟩⟩
 done:=by
  intro X hP hw hK hc i pins s σ H E I hf st hg;subst hP hw hK;obtain⟨xs,hq,hx⟩:=hg;obtain⟨its,rv,p,hz⟩:=I.tuple hq;obtain⟨f0,f1,f2,f3,f4,f5⟩:=hf it (by simp);have hl:=rv.length;exact wpAny_pyNext_tuple_end (I.ok.hd hc) st (show s.heap.IsTuple a its.toArray from p) (by simp; lia) λh' eb=>⟨rfl,I.turned (t':=s.toks) (λb o hb e=>eb b o hb e) f0 f1 f3 f4 f5⟩
 self:=λ_ _ _ _ _ st h=>wpAny_pyIter_tupleiter st h
theorem zNr{P:aL}{w:aT}{K:ae}{tg:bj}(it:ag)(lo:Int)(n:Nat):zUj P w K tg (Itr lo n) [it] it (λi h=>IsRangeIter h it (lo+(i:Nat)*1) ((n:Int)-(i:Nat)) 1) where
 mem:=by simp
 obj:=λi h st b hb=>by
  have e:b=it:=by simpa using hb
  subst e;exact⟨_,st,λv z=>by
   have z':Data.fields _=Data.cell v:=z;cases z'⟩
 keep:=λi h h' st k=>k it (by simp) _ st
 item:=by
  intro X hP hw hK hc i pins s σ H E I hf st hg;subst hP hw hK;obtain⟨f0,f1,f2,f3,f4,f5⟩:=hf it (by simp);have W:=Walks.range (prog:=X.prog) (w:=X.w) (I.ok.hd hc) it lo 1 n;refine W.item i s _ _ hg st λv h' tk hv st' kk=>?_;obtain⟨t,rfl⟩:=hv;have I1:Inv X pins σ H { s with heap:=h',toks:=tk }:=I.turned (λb o hb e=>kk b o (by simpa using hb) e) f0 f1 f3 f4 f5;refine⟨_,rfl,zOa (s:={ s with heap:=h',toks:=tk }) (n := "range_iterator") st' rfl rfl (by decide) ⟨.int (lo+i),H,I1,⟨t,?_⟩,⟨rfl,rfl⟩,st',λb hb=>(hf b hb).1⟩⟩;rw[Int.mul_one]
 done:=by
  intro X hP hw hK hc i pins s σ H E I hf st hg;subst hP hw hK;obtain⟨f0,f1,f2,f3,f4,f5⟩:=hf it (by simp);exact wpAny_pyNext_range_end (I.ok.hd hc) st (by have:n<=i:=hg; lia) λh' eb=>⟨rfl,I.turned (t':=s.toks) (λb o hb e=>eb b o hb e) f0 f1 f3 f4 f5⟩
 self:=λ_ _ _ _ _ st h=>wpAny_pyIter_rangeiter st h
end L2

namespace L2
open PySem PySem.Spec PyProof.Rows
section
variable{X:Cx}{tg:bj}
def iList(K:ae)(tl:TE):TI:=λσ H R=>tl σ H λx H1=>∃ a,x=.ref a/\(∃ xs,SqL K H1 a xs)/\R (Itl K a) H1
def iTup(K:ae)(tl:TE):TI:=λσ H R=>tl σ H λx H1=>∃ a,x=.ref a/\(∃ xs,SqT K H1 a xs)/\R (Itt K a) H1
theorem zV0{l:bj}{tl:TE}(hl:PE X l tl):PI X tg l (iList X.K tl):=by
 intro pins s σ H R I h;refine thn (hl pins s σ H _ I h) λv s1 ⟨x,H1,I1,r1,q1⟩=>?_;obtain⟨a,e,⟨xs,hq⟩,q⟩:=q1;subst e;cases r1;obtain⟨its,rv,p,hz⟩:=I1.list hq;refine dP p.isList ?_;refine⟨s1.heap.objs.size,[s1.heap.objs.size],_,_,H1,rfl,I1.kept (t':=s1.toks) λb o e=>ah _ e,zIz a _,⟨_,ap _ rfl,rfl,rfl⟩,λb hb=>?_,q⟩;have e:b=s1.heap.objs.size:=by simpa using hb
 subst e;exact I1.fpOk (am _) (I1.hok.fresh (am _))
theorem zUm{l:bj}{tl:TE}(hl:PE X l tl):PI X tg l (iTup X.K tl):=by
 intro pins s σ H R I h;refine thn (hl pins s σ H _ I h) λv s1 ⟨x,H1,I1,r1,q1⟩=>?_;obtain⟨a,e,⟨xs,hq⟩,q⟩:=q1;subst e;cases r1;obtain⟨its,rv,p,hz⟩:=I1.tuple hq;refine gF (show s1.heap.IsTuple a its.toArray from p) ?_;refine⟨s1.heap.objs.size,[s1.heap.objs.size],_,_,H1,rfl,I1.kept (t':=s1.toks) λb o e=>ah _ e,zGh a _,⟨_,ap _ rfl,rfl,rfl⟩,λb hb=>?_,q⟩;have e:b=s1.heap.objs.size:=by simpa using hb
 subst e;exact I1.fpOk (am _) (I1.hok.fresh (am _))
theorem zLx{pins:List (ag×cA)}{σ:St}{H:Hp}{s:ai}{R:It->Hp->Prop}{E:af->ai->Prop}{lo hi:Int}{t u v:nA}{tk:Nat}(I:Inv X pins σ H s)(h1 : -(2^62)<=lo)(h2:lo<2^62)(h3 : -(2^62)<=hi)(h4:hi<2^62)
  (q:R (Itr lo (hi-lo).toNat) H):wpAny (model X.prog X.w) X.A (pyIter (.ref s.heap.objs.size)) (PIE X pins σ tg R) E { s with heap:=s.heap.push { cls:=.type "range", data:=.fields #[.int lo t,.int hi u,.int 1 v] },toks:=tk }:=by
 refine wpAny_pyIter_range (IsRange.new ..) (small_one h1 h2 h3 h4) ?_;have I1:Inv X pins σ H { s with heap:=s.heap.push { cls:=.type "range", data:=.fields #[.int lo t,.int hi u,.int 1 v] },toks:=tk }:=I.kept λb o e=>ah _ e;refine⟨(s.heap.push { cls:=.type "range", data:=.fields #[.int lo t,.int hi u,.int 1 v] }).objs.size,[(s.heap.push { cls:=.type "range", data:=.fields #[.int lo t,.int hi u,.int 1 v] }).objs.size],_,_,H,rfl,
  I1.kept (t':=tk) λb o e=>ah _ e,zNr _ lo (hi-lo).toNat,?_,λb hb=>?_,q⟩
 ·have e1:lo+((0:Nat):Int)*1=lo:=by simp
  have e2:(((hi-lo).toNat:Nat):Int)-((0:Nat):Int)=mK lo hi 1:=by rw[rangeSize_one]; split <;> lia
  show IsRangeIter _ _ (lo+((0:Nat):Int)*1) ((((hi-lo).toNat:Nat):Int)-((0:Nat):Int)) 1;rw[e1,e2];exact ap _ rfl
 ·have e:b=(s.heap.push { cls:=.type "range", data:=.fields #[.int lo t,.int hi u,.int 1 v] }).objs.size:=by simpa using hb
  subst e;exact I1.fpOk (am _) (I1.hok.fresh (am _))
def iRng1(ta:TA):TI:=λσ H R=>ta σ H λvs H1=>∃ j:Int,vs=[.int j]/\-(2^62)<=j/\j<2^62/\R (Itr 0 j.toNat) H1
def iRng2(ta:TA):TI:=λσ H R=>ta σ H λvs H1=>∃ i j:Int,vs=[.int i,.int j]/\(-(2^62)<=i/\i<2^62/\-(2^62)<=j/\j<2^62)/\R (Itr i (j-i).toNat) H1
theorem uR{a:bj}{ta:TA}{p pos:fg}(hg:Gl X "range")(hm:X.mg "range" = none)(ha:PA X [a] ta)(hs:starEach [a] X.env=[(false,eval a X.env)]:=by rfl):PI X tg (.Call (.Name "range" p) [a] [] pos) (iRng1 ta):=by
 intro pins s σ H R I h;refine Call_ (zGn I hg hm boot_range (dz (thn (ha pos pins s σ H _ I h) λus s1 ⟨vs,H1,I1,r1,q1⟩=>?_) hs rfl));obtain⟨j,e,q1,q2,q⟩:=q1;subst e;cases r1 with
 | cons r rr =>
  cases rr;obtain⟨t,rfl⟩:=r;exact call_range_1 (zLx I1 (by lia) (by lia) q1 q2 (by simpa using q))
theorem zOt{a b:bj}{ta:TA}{p pos:fg}(hg:Gl X "range")(hm:X.mg "range" = none)(ha:PA X [a,b] ta)(hs:starEach [a,b] X.env=[(false,eval a X.env),(false,eval b X.env)]:=by rfl)(hs2:starEach [b] X.env=[(false,eval b X.env)]:=by rfl) :
  PI X tg (.Call (.Name "range" p) [a,b] [] pos) (iRng2 ta):=by
 intro pins s σ H R I h;refine Call_ (zGn I hg hm boot_range (dz (thn (ha pos pins s σ H _ I h) λus s1 ⟨vs,H1,I1,r1,q1⟩=>?_) (by rw[hs,hs2]) (by rw[hs2]; rfl)));obtain⟨i,j,e,⟨q1,q2,q3,q4⟩,q⟩:=q1;subst e;cases r1 with
 | cons r rr =>
  cases rr with
  | cons r' rr =>
   cases rr;obtain⟨t,rfl⟩:=r;obtain⟨t',rfl⟩:=r';exact call_range_2 (zLx I1 q1 q2 q3 q4 q)

def tFor(wi:TI)(g:TG)(tb:TS):TS:=λD σ H=>wi σ H λJ H1=>∃ W:Nat->Nat->St->Hp->Prop,(∃ m,W 0 m σ H1)/\∀ i m σ H,W i m σ H ->
 (J.stop i H/\D.nx σ H)\/(J.go i H/\∃ N:St->Hp->Prop,(∀ σ' H',N σ' H'->∃ m',m'<m/\W (i+1) m' σ' H')/\∀ x H',J.yld i H x H'->g x σ H' λσ2 H2=>tb { D with nx:=N,ct:=N,bk:=D.nx } σ2 H2)
def zGp(fp:List ag)(h:aV):List (ag×cA):=fp.filterMap λb=>(h.get? b).map λo=>(b,o)
theorem tP{fp:List ag}{h:aV}{b:ag}{o:cA}(hb:b∈fp)(e:h.get? b=some o):(b,o)∈zGp fp h:=fo.mpr ⟨b,hb,by rw[e]; rfl⟩
theorem zQj{fp:List ag}{h:aV}{p:ag×cA}(hp:p∈zGp fp h):p.1∈fp/\h.get? p.1=some p.2:=by
 obtain⟨b,hb,e⟩:=fo.mp hp;cases q:h.get? b with
 | none=>rw[q] at e; cases e
 | some o =>
  rw[q] at e;have e':(b,o)=p:=aZ e;subst e';exact⟨hb,q⟩
theorem Inv.pinned{pins:List (ag×cA)}{σ:St}{H:Hp}{s:ai}{fp:List ag}(I:Inv X pins σ H s)(hf:∀ b∈fp,zLa X pins H b)(ho:∀ b∈fp,∃ o,s.heap.get? b=some o/\∀ v,o.data≠.cell v):Inv X (pins++zGp fp s.heap) σ H s :=
 I.pins_of λp hp=>(aN.mp hp).elim (λz=>I.pin p (aU _ z)) λz=>by
  obtain⟨hb,e⟩:=zQj z;obtain⟨f0,f1,f2,_⟩:=hf p.1 hb;obtain⟨o,e',d⟩:=ho p.1 hb;rw[e] at e'; cases e';exact⟨e,f0,f1,f2,d⟩
theorem Inv.unpinned{pins pl:List (ag×cA)}{σ:St}{H:Hp}{s:ai}(I:Inv X (pins++pl) σ H s):Inv X pins σ H s:=I.pins_of λp hp=>I.pin p (aU _ (dO _ hp))
theorem sV{iter:bj}{body:List bN}{wi:TI}{g:TG}{tb:TS}{pos:fg}(hp:PassesOwn (model X.prog X.w) X.A X.env X.xe)(hc:X.calm=true)(hi:PI X tg iter wi)(hg:PG X tg g)(hb:PSs X body tb)
  (hs:∀ x,foldedSetIterable iter X.env x=pure x:=by intro _; rfl):PS X (.For tg iter body [] pos) (tFor wi g tb):=by
 intro pins s σ H D I h;refine wpAny_For (thn (hi pins s σ H _ I h) λv s1 h1=>thn h1 λitv s2 h2=>?_) hs;obtain⟨it,fp,tn,J,H2,e,I2,T,st2,f2,W,⟨m0,w0⟩,turn⟩:=h2;subst e;have stat:∀{H':Hp},(∀ b∈fp,H' b=none)->∀ b∈fp,zLa X pins H' b:=λhn b hb=>⟨hn b hb,(f2 b hb).2⟩;refine codeAny_forLoop_any (λn s'=>∃ i σ' H',Inv X pins σ' H' s'/\tn i s'.heap/\(∀ b∈fp,H' b=none)/\W i n σ' H') ?_ m0 ⟨0,σ,H2,I2,st2,λb hb=>(f2 b hb).1,w0⟩;rintro n s3 ⟨i,σ3,H3,I3,st3,fr3,w3⟩;rcases turn i n σ3 H3 w3 with ⟨stop,qn⟩ | ⟨go,N,hN,step⟩
 ·refine dM hp (thn (T.done X rfl rfl rfl hc i pins s3 σ3 H3 X.xe I3 (stat fr3) st3 stop) λr s4 ⟨hr,I4⟩=>?_);subst hr;exact fk ⟨σ3,H3,I4,qn⟩
 ·refine dM hp (thn (T.item X rfl rfl rfl hc i pins s3 σ3 H3 X.xe I3 (stat fr3) st3 go) λr s4 ⟨u,hr,h4⟩=>?_);subst hr;refine dM hp (thn h4 λ_ s5 ⟨x,H5,I5,r5,y5,st5,fr5⟩=>?_);have I5':=I5.pinned (stat fr5) (T.obj _ _ st5);refine dM hp (thn (hg _ s5 σ3 H5 x u _ I5' r5 (step x H5 y5)) λ_ s6 ⟨σ6,H6,I6,q6⟩=>?_);refine dM hp (thn (hb _ s6 σ6 H6 _ I6 q6) λf s7 q7=>?_);have again:∀{σ7:St}{H7:Hp},Inv X (pins++zGp fp s5.heap) σ7 H7 s7->N σ7 H7->∃ m,m<n/\∃ i σ' H',Inv X pins σ' H' s7/\tn i s7.heap/\(∀ b∈fp,H' b=none)/\W i m σ' H':=λ{σ7 H7} I7 n7=>by
   obtain⟨m',hm,w7⟩:=hN σ7 H7 n7;refine⟨m',hm,i+1,σ7,H7,I7.unpinned,T.keep _ _ _ st5 λb hb o e=>(I7.pin (b,o) (aU _ (aU _ (tP hb e)))).1,λb hb=>?_,w7⟩;obtain⟨o,e,d⟩:=T.obj _ _ st5 b hb;exact(I7.pin (b,o) (aU _ (aU _ (tP hb e)))).2.1
  cases f with
  | next=>obtain⟨σ7,H7,I7,n7⟩:=q7; exact again I7 n7
  | cont=>obtain⟨σ7,H7,I7,n7⟩:=q7; exact again I7 n7
  | brk=>obtain⟨σ7,H7,I7,q7⟩:=q7; exact⟨σ7,H7,I7.unpinned,q7⟩
  | ret v=>obtain⟨x7,σ7,H7,I7,r7,q7⟩:=q7; exact⟨x7,σ7,H7,I7.unpinned,r7,q7⟩
end

theorem zM7{K:ae}{a:ag}{xs:List V}{g:TG}{tb:TS}{D:zPd}{σ:St}{H:Hp}(Pv:Nat->St->Hp->Prop)(h0:Pv 0 σ H)(hl:∀ i σ H,i<=xs.length->Pv i σ H->SqL K H a xs)
  (hs:∀ i x σ H,xs[i]?=some x->Pv i σ H->g x σ H λσ2 H2=>tb { D with nx:=Pv (i+1),ct:=Pv (i+1),bk:=D.nx } σ2 H2) (hd:∀ σ H,Pv xs.length σ H->D.nx σ H) :
  ∃ W:Nat->Nat->St->Hp->Prop,(∃ m,W 0 m σ H)/\∀ i m σ H,W i m σ H ->
   ((Itl K a).stop i H/\D.nx σ H)\/((Itl K a).go i H/\∃ N:St->Hp->Prop,(∀ σ' H',N σ' H'->∃ m',m'<m/\W (i+1) m' σ' H')/\∀ x H',(Itl K a).yld i H x H'->g x σ H' λσ2 H2=>tb { D with nx:=N,ct:=N,bk:=D.nx } σ2 H2):=by
 exists λi m σ H=>m=xs.length-i/\i<=xs.length/\Pv i σ H,⟨xs.length,by simp,bf _,h0⟩;rintro i m σ H ⟨rfl,hi,p⟩;have q:=hl i σ H hi p;by_cases hlt:i<xs.length
 ·refine .inr ⟨⟨xs,xs[i],q,by simp[hlt]⟩,Pv (i+1),λσ' H' p'=>⟨xs.length-(i+1),by lia,rfl,hlt,p'⟩,λx H' y=>?_⟩;obtain⟨e,y⟩:=y;subst e;exact hs i x σ _ (y xs q) p
 ·have e:i=xs.length:=by lia
  subst e;exact .inl ⟨⟨xs,q,am _⟩,hd σ H p⟩
theorem zQ8{K:ae}{a:ag}{xs:List V}{g:TG}{tb:TS}{D:zPd}{σ:St}{H:Hp}(Pv:Nat->St->Hp->Prop)(h0:Pv 0 σ H)(hl:∀ i σ H,i<=xs.length->Pv i σ H->SqT K H a xs)
  (hs:∀ i x σ H,xs[i]?=some x->Pv i σ H->g x σ H λσ2 H2=>tb { D with nx:=Pv (i+1),ct:=Pv (i+1),bk:=D.nx } σ2 H2) (hd:∀ σ H,Pv xs.length σ H->D.nx σ H) :
  ∃ W:Nat->Nat->St->Hp->Prop,(∃ m,W 0 m σ H)/\∀ i m σ H,W i m σ H ->
   ((Itt K a).stop i H/\D.nx σ H)\/((Itt K a).go i H/\∃ N:St->Hp->Prop,(∀ σ' H',N σ' H'->∃ m',m'<m/\W (i+1) m' σ' H')/\∀ x H',(Itt K a).yld i H x H'->g x σ H' λσ2 H2=>tb { D with nx:=N,ct:=N,bk:=D.nx } σ2 H2):=by
 exists λi m σ H=>m=xs.length-i/\i<=xs.length/\Pv i σ H,⟨xs.length,by simp,bf _,h0⟩;rintro i m σ H ⟨rfl,hi,p⟩;have q:=hl i σ H hi p;by_cases hlt:i<xs.length
 ·refine .inr ⟨⟨xs,xs[i],q,by simp[hlt]⟩,Pv (i+1),λσ' H' p'=>⟨xs.length-(i+1),by lia,rfl,hlt,p'⟩,λx H' y=>?_⟩;obtain⟨e,y⟩:=y;subst e;exact hs i x σ _ (y xs q) p
 ·have e:i=xs.length:=by lia
  subst e;exact .inl ⟨⟨xs,q,am _⟩,hd σ H p⟩
theorem sO{lo:Int}{n:Nat}{g:TG}{tb:TS}{D:zPd}{σ:St}{H:Hp}(Pv:Nat->St->Hp->Prop)(h0:Pv 0 σ H)
  (hs:∀ i σ H,i<n->Pv i σ H->g (.int (lo+i)) σ H λσ2 H2=>tb { D with nx:=Pv (i+1),ct:=Pv (i+1),bk:=D.nx } σ2 H2) (hd:∀ σ H,Pv n σ H->D.nx σ H) :
  ∃ W:Nat->Nat->St->Hp->Prop,(∃ m,W 0 m σ H)/\∀ i m σ H,W i m σ H ->
   ((Itr lo n).stop i H/\D.nx σ H)\/((Itr lo n).go i H/\∃ N:St->Hp->Prop,(∀ σ' H',N σ' H'->∃ m',m'<m/\W (i+1) m' σ' H')/\∀ x H',(Itr lo n).yld i H x H'->g x σ H' λσ2 H2=>tb { D with nx:=N,ct:=N,bk:=D.nx } σ2 H2):=by
 exists λi m σ H=>m=n-i/\i<=n/\Pv i σ H,⟨n,by simp,bf _,h0⟩;rintro i m σ H ⟨rfl,hi,p⟩;by_cases hlt:i<n
 ·refine .inr ⟨hlt,Pv (i+1),λσ' H' p'=>⟨n-(i+1),by lia,rfl,hlt,p'⟩,λx H' y=>?_⟩;obtain⟨e,y⟩:=y;subst e y;exact hs i σ _ hlt p
 ·have e:i=n:=by lia
  subst e;exact .inl ⟨am _,hd σ H p⟩
theorem zMm{c:TT}{tb:TS}{D:zPd}{σ:St}{H:Hp}(Pv:St->Hp->Prop)(μ:St->Hp->Nat)(h0:Pv σ H)
  (hs:∀ σ H,Pv σ H->c σ H λb H1=>if b=true then tb { D with nx:=λσ' H'=>Pv σ' H'/\μ σ' H'<μ σ H,ct:=λσ' H'=>Pv σ' H'/\μ σ' H'<μ σ H,bk:=D.nx } σ H1 else D.nx σ H1)
  (mono:∀ σ H Q Q',(∀ b H1,Q b H1->Q' b H1)->c σ H Q->c σ H Q'):zUk c tb D σ H:=by
 exists λm σ H=>m=μ σ H/\Pv σ H,⟨_,rfl,h0⟩;rintro m σ H ⟨rfl,p⟩;refine mono σ H _ _ (λb H1 q=>?_) (hs σ H p);cases b with
 | true=>exact⟨_,λσ' H' ⟨p',l⟩=>⟨_,l,rfl,p'⟩,q⟩
 | false=>exact q
end L2

namespace L2
open PySem PySem.Spec PyProof.Rows

abbrev R2:=V->V->Hp->VK->Prop
def OpR(X:Cx)(f:af->af->lY af)(r:R2):Prop :=
 ∀(pins:List (ag×cA))(s:ai)(σ:St)(H:Hp)(x y:V)(v u:af)(Q:VK),Inv X pins σ H s->xI x v->xI y u->r x y H Q ->
  wpAny (model X.prog X.w) X.A (f v u) (EP X pins σ Q) X.xe s
def UnR(X:Cx)(f:af->lY af)(r:V->Hp->VK->Prop):Prop :=
 ∀(pins:List (ag×cA))(s:ai)(σ:St)(H:Hp)(x:V)(v:af)(Q:VK),Inv X pins σ H s->xI x v->r x H Q ->
  wpAny (model X.prog X.w) X.A (f v) (EP X pins σ Q) X.xe s
def vV(X:Cx)(f:af)(r:List V->Hp->VK->Prop):Prop :=
 ∀(pins:List (ag×cA))(s:ai)(σ:St)(H:Hp)(xs:List V)(us:List af)(Q:VK),Inv X pins σ H s->yY xs us->r xs H Q ->
  wpAny (model X.prog X.w) X.A (call f us) (EP X pins σ Q) X.xe s
def tOp(r:R2)(ta tb:TE):TE:=λσ H Q=>ta σ H λx H1=>tb σ H1 λy H2=>r x y H2 Q
def tUn(r:V->Hp->VK->Prop)(ta:TE):TE:=λσ H Q=>ta σ H λx H1=>r x H1 Q
inductive RI(C:Int->Int->Prop)(g:Int->Int->V)(x y:V)(H:Hp)(Q:VK):Prop where
 | mk (i j:Int) (ex:x=.int i) (ey:y=.int j) (c:C i j) (q:Q (g i j) H)
def rI(C:Int->Int->Prop)(g:Int->Int->V):R2:=λx y H Q=>RI C g x y H Q
inductive RI0(g:Int->Int->V)(x y:V)(H:Hp)(Q:VK):Prop where
 | mk (i j:Int) (ex:x=.int i) (ey:y=.int j) (q:Q (g i j) H)
def rI0(g:Int->Int->V):R2:=λx y H Q=>RI0 g x y H Q
inductive RU(g:Int->V)(x:V)(H:Hp)(Q:VK):Prop where
 | mk (i:Int) (ex:x=.int i) (q:Q (g i) H)
def rU(g:Int->V):V->Hp->VK->Prop:=λx H Q=>RU g x H Q

section
variable{X:Cx}{a b c:bj}{ta tb tc:TE}{pos:fg}

theorem zZm(ha:PE X a ta)(hb:PE X b tb){pins:List (ag×cA)}{s:ai}{σ:St}{H:Hp}{R:V->V->Hp->Prop}(I:Inv X pins σ H s)
  (h:ta σ H λx H1=>tb σ H1 λy H2=>R x y H2) {Q:af->ai->Prop} {f:af->af->lY af}
  (hf:∀ v u s2 x y H2,Inv X pins σ H2 s2->xI x v->xI y u->R x y H2->wpAny (model X.prog X.w) X.A (f v u) Q X.xe s2) :
  wpAny (model X.prog X.w) X.A (eval a X.env) (λv s₁=>wpAny (model X.prog X.w) X.A (eval b X.env) (λu s₂=>wpAny (model X.prog X.w) X.A (f v u) Q X.xe s₂) X.xe s₁) X.xe s:=by
 refine thn (ha pins s σ H _ I h) λv s1 ⟨x,H1,I1,r1,q1⟩=>?_;refine thn (hb pins s1 σ H1 _ I1 q1) λu s2 ⟨y,H2,I2,r2,q2⟩=>?_;exact hf v u s2 x y H2 I2 r1 r2 q2

theorem vN{op:Operator}{r:R2}(ho:OpR X (binaryOp op) r)(ha:PE X a ta)(hb:PE X b tb):PE X (.BinOp a op b pos) (tOp r ta tb):=by
 intro pins s σ H Q I h;exact wpAny_BinOp (zZm ha hb I h λv u s2 x y H2 I2 rx ry q=>ho pins s2 σ H2 x y v u Q I2 rx ry q)
theorem pe_un{op:UnaryOp}{r:V->Hp->VK->Prop}(ho:UnR X (unaryOp op) r)(ha:PE X a ta):PE X (.UnaryOp op a pos) (tUn r ta):=by
 intro pins s σ H Q I h;exact UnaryOp_ (thn (ha pins s σ H _ I h) λv s1 ⟨x,H1,I1,r1,q1⟩=>ho pins s1 σ H1 x v Q I1 r1 q1)
theorem opI{f:af->af->lY af}{C:Int->Int->Prop}{g:Int->Int->Int}
  (rule:∀(i j:Int)(t u:nA)(s:ai)(Q:af->ai->Prop)(E:af->ai->Prop),C i j->Q (.int (g i j) s.toks) { s with toks:=s.toks+1 }->wpAny (model X.prog X.w) X.A (f (.int i t) (.int j u)) Q E s) :
  OpR X f (rI C λi j=>.int (g i j)):=by
 intro pins s σ H x y v u Q I rx ry h;obtain⟨i,j,rfl,rfl,hc,q⟩:=h;obtain⟨t,rfl⟩:=rx;obtain⟨t',rfl⟩:=ry;exact rule i j t t' s _ _ hc ⟨.int (g i j),H,I.tok _,⟨_,rfl⟩,q⟩
theorem opI0{f:af->af->lY af}{g:Int->Int->Int}
  (rule:∀(i j:Int)(t u:nA)(s:ai)(Q:af->ai->Prop)(E:af->ai->Prop),Q (.int (g i j) s.toks) { s with toks:=s.toks+1 }->wpAny (model X.prog X.w) X.A (f (.int i t) (.int j u)) Q E s) :
  OpR X f (rI0 λi j=>.int (g i j)):=by
 intro pins s σ H x y v u Q I rx ry h;obtain⟨i,j,rfl,rfl,q⟩:=h;obtain⟨t,rfl⟩:=rx;obtain⟨t',rfl⟩:=ry;exact rule i j t t' s _ _ ⟨.int (g i j),H,I.tok _,⟨_,rfl⟩,q⟩
theorem zZi{f:af->af->lY af}{g:Int->Int->Bool}
  (rule:∀(i j:Int)(t u:nA)(s:ai)(Q:af->ai->Prop)(E:af->ai->Prop),Q (.bool (g i j)) s->wpAny (model X.prog X.w) X.A (f (.int i t) (.int j u)) Q E s) :
  OpR X f (rI0 λi j=>.bl (g i j)):=by
 intro pins s σ H x y v u Q I rx ry h;obtain⟨i,j,rfl,rfl,q⟩:=h;obtain⟨t,rfl⟩:=rx;obtain⟨t',rfl⟩:=ry;exact rule i j t t' s _ _ ⟨.bl (g i j),H,I,rfl,q⟩

def CPow(i j:Int):Prop:=0<=j/\j<=1000000/\i.natAbs<2^64
def zZh(i j:Int):Prop:=(-(2^64)<i/\i<2^64)\/(-(2^64)<j/\j<2^64)
theorem zZh.ok{i j:Int}(h:zZh i j):IntMulOk i j:=by
 rcases h with ⟨h1,h2⟩ | ⟨h1,h2⟩
 ·exact .of_left (intBits_le_64 h1 h2)
 ·exact .of_right (intBits_le_64 h1 h2)
theorem zQf:OpR X (binaryOp .Add) (rI0 λi j=>.int (i+j)):=opI0 λ_ _ _ _ _ _ _ q=>add_int q
theorem zX1:OpR X (binaryOp .Sub) (rI0 λi j=>.int (i-j)):=opI0 λ_ _ _ _ _ _ _ q=>sub_int q
theorem zXn:OpR X (binaryOp .Mult) (rI zZh λi j=>.int (i*j)):=opI λ_ _ _ _ _ _ _ hc q=>mul_int q hc.ok
theorem zXe:OpR X (binaryOp .Mod) (rI (λ_ j=>0<j) λi j=>.int (i%j)):=opI λi j _ _ _ _ _ hc q=>by
 have h1:(0:Int)<j:=hc;exact mod_int' (by lia) (by rw[Int.fmod_eq_emod_of_nonneg i (by lia)]; exact q)
theorem zYl:OpR X (binaryOp .Pow) (rI CPow λi j=>.int (i^j.toNat)):=opI λ_ _ _ _ _ _ _ hc q=>pow_int_small hc.1 hc.2.1 hc.2.2 q
theorem unI{f:af->lY af}{g:Int->Int}
  (rule:∀(i:Int)(t:nA)(s:ai)(Q:af->ai->Prop)(E:af->ai->Prop),Q (.int (g i) s.toks) { s with toks:=s.toks+1 }->wpAny (model X.prog X.w) X.A (f (.int i t)) Q E s) :
  UnR X f (rU λi=>.int (g i)):=by
 intro pins s σ H x v Q I rx h;obtain⟨i,rfl,q⟩:=h;obtain⟨t,rfl⟩:=rx;exact rule i t s _ _ ⟨.int (g i),H,I.tok _,⟨_,rfl⟩,q⟩
theorem zXj:UnR X (unaryOp .USub) (rU λi=>.int (-i)):=unI λ_ _ _ _ _ q=>neg_int q
end

def zZc:V->V->Bool
 | .non,.non=>true | .non,.int _=>true | .int _,.non=>true | .non,.bl _=>true | .bl _,.non=>true | .non,.str _=>true | .str _,.non=>true
 | .int _,.int _=>true | .bl _,.bl _=>true | .str _,.str _=>true | .byt _,.byt _=>true
 | .int _,.str _=>true | .str _,.int _=>true | .bl _,.str _=>true | .str _,.bl _=>true
 | _,_=>false
def rEq:R2:=λx y H Q=>zZc x y=true/\Q (.bl (decide (x=y))) H
def rNe:R2:=λx y H Q=>zZc x y=true/\Q (.bl (!decide (x=y))) H

theorem zQs{i j:Int} : decide (V.int i=V.int j)=(i == j):=by
 rw[eg];simp
theorem zU0{i j:Bool} : decide (V.bl i=V.bl j)=(i == j):=by
 rw[eg];simp
theorem zPr{i j:aC} : decide (V.str i=V.str j)=(i == j):=by
 rw[eg];simp
theorem zPz{i j:Array UInt8} : decide (V.byt i=V.byt j)=(i.toList == j.toList):=by
 rw[eg];cases i;cases j;simp

section
variable{X:Cx}{a b c:bj}{ta tb tc:TE}{pos:fg}
theorem yX{pins:List (ag×cA)}{σ:St}{H:Hp}{s:ai}{Q:VK}{k k':Bool}(I:Inv X pins σ H s)(q:Q (.bl k) H)(e:k=k'):EP X pins σ Q (.bool k') s:=by
 subst e;exact⟨.bl k,H,I,rfl,q⟩
theorem zVq:OpR X (compareOp .Eq) rEq:=by
 intro pins s σ H x y v u Q I rx ry h;obtain⟨hs,q⟩:=h;cases x with
 | non =>
  cases rx;cases y with
  | non=>cases ry; exact lM (yX I q (by simp))
  | bl j=>cases ry; exact lN (yX I q (by simp))
  | int j=>obtain⟨t',rfl⟩:=ry; exact lZ (yX I q (by simp))
  | str j=>obtain⟨t',rfl⟩:=ry; exact md (yX I q (by simp))
  | _=>exact absurd (show false=true from hs) aE
 | bl i =>
  cases rx;cases y with
  | non=>cases ry; exact lO (yX I q (by simp))
  | bl j=>cases ry; exact eq_bool (yX I q zU0)
  | str j=>obtain⟨t',rfl⟩:=ry; exact lP (yX I q (by simp))
  | _=>exact absurd (show false=true from hs) aE
 | int i =>
  obtain⟨t,rfl⟩:=rx;cases y with
  | non=>cases ry; exact mf (yX I q (by simp))
  | int j=>obtain⟨t',rfl⟩:=ry; exact eq_int (yX I q zQs)
  | str j=>obtain⟨t',rfl⟩:=ry; exact mh (yX I q (by simp))
  | _=>exact absurd (show false=true from hs) aE
 | str i =>
  obtain⟨t,rfl⟩:=rx;cases y with
  | non=>cases ry; exact mi (yX I q (by simp))
  | bl j=>cases ry; exact lQ (yX I q (by simp))
  | int j=>obtain⟨t',rfl⟩:=ry; exact mj (yX I q (by simp))
  | str j=>obtain⟨t',rfl⟩:=ry; exact eq_str (yX I q zPr)
  | _=>exact absurd (show false=true from hs) aE
 | byt i =>
  obtain⟨t,rfl⟩:=rx;cases y with
  | byt j=>obtain⟨t',rfl⟩:=ry; exact PySem.W.eq_bytes (yX I q zPz)
  | _=>exact absurd (show false=true from hs) aE
 | _=>cases y <;> exact absurd (show false=true from hs) aE
theorem zXh:OpR X (compareOp .NotEq) rNe:=by
 intro pins s σ H x y v u Q I rx ry h;obtain⟨hs,q⟩:=h;cases x with
 | non =>
  cases rx;cases y with
  | non=>cases ry; exact lR (yX I q (by simp))
  | bl j=>cases ry; exact lS (yX I q (by simp))
  | int j=>obtain⟨t',rfl⟩:=ry; exact ml (yX I q (by simp))
  | str j=>obtain⟨t',rfl⟩:=ry; exact mm (yX I q (by simp))
  | _=>exact absurd (show false=true from hs) aE
 | bl i =>
  cases rx;cases y with
  | non=>cases ry; exact lT (yX I q (by simp))
  | bl j=>cases ry; exact ne_bool (yX I q (congrArg not zU0))
  | str j=>obtain⟨t',rfl⟩:=ry; exact lU (yX I q (by simp))
  | _=>exact absurd (show false=true from hs) aE
 | int i =>
  obtain⟨t,rfl⟩:=rx;cases y with
  | non=>cases ry; exact mn (yX I q (by simp))
  | int j=>obtain⟨t',rfl⟩:=ry; exact ne_int (yX I q (congrArg not zQs))
  | str j=>obtain⟨t',rfl⟩:=ry; exact mq (yX I q (by simp))
  | _=>exact absurd (show false=true from hs) aE
 | str i =>
  obtain⟨t,rfl⟩:=rx;cases y with
  | non=>cases ry; exact mr (yX I q (by simp))
  | bl j=>cases ry; exact lV (yX I q (by simp))
  | int j=>obtain⟨t',rfl⟩:=ry; exact mv (yX I q (by simp))
  | str j=>obtain⟨t',rfl⟩:=ry; exact ne_str (yX I q (congrArg not zPr))
  | _=>exact absurd (show false=true from hs) aE
 | byt i =>
  obtain⟨t,rfl⟩:=rx;cases y with
  | byt j=>obtain⟨t',rfl⟩:=ry; exact PySem.W.ne_bytes (yX I q (congrArg not zPz))
  | _=>exact absurd (show false=true from hs) aE
 | _=>cases y <;> exact absurd (show false=true from hs) aE

theorem zSo:OpR X (compareOp .Lt) (rI0 λi j=>.bl (decide (i<j))):=zZi λ_ _ _ _ _ _ _ q=>lt_int q
theorem zCj:OpR X (compareOp .LtE) (rI0 λi j=>.bl (decide (i<=j))):=zZi λ_ _ _ _ _ _ _ q=>le_int q
theorem zIs:OpR X (compareOp .Gt) (rI0 λi j=>.bl (decide (j<i))):=zZi λ_ _ _ _ _ _ _ q=>gt_int q
theorem zV2:OpR X (compareOp .GtE) (rI0 λi j=>.bl (decide (j<=i))):=zZi λ_ _ _ _ _ _ _ q=>ge_int q
theorem xB(b:bj){op:kQ}(h:op≠.In:=by decide)(h2:op≠.NotIn:=by decide):behindInMarks op b=false:=by
 have e1:(op == CmpOp.In)=false:=by cases op <;> first | rfl | exact absurd rfl h
 have e2:(op == CmpOp.NotIn)=false:=by cases op <;> first | rfl | exact absurd rfl h2
 cases b <;> simp[behindInMarks,e1,e2]
theorem tY{op:kQ}{r:R2}(ho:OpR X (compareOp op) r)(ha:PE X a ta)(hb:PE X b tb)(hm:behindInMarks op b=false):PE X (.Compare a [op] [b] pos) (tOp r ta tb):=by
 intro pins s σ H Q I h;exact wpAny_Compare1 (zZm ha hb I h λv u s2 x y H2 I2 rx ry q=>ho pins s2 σ H2 x y v u Q I2 rx ry q) hm
def zVf(t:TE):TT:=λσ H Q=>t σ H λx H'=>∃ k,x=.bl k/\Q k H'
theorem yK{op:kQ}{r:R2}(ho:OpR X (compareOp op) r)(ha:PE X a ta)(hb:PE X b tb)(hm:behindInMarks op b=false):PT X (.Compare a [op] [b] pos) (zVf (tOp r ta tb)):=by
 intro pins s σ H Q I h;refine iR (thn (ha pins s σ H _ I h) λv s1 ⟨x,H1,I1,r1,q1⟩=>thn (hb pins s1 σ H1 _ I1 q1) λu s2 ⟨y,H2,I2,r2,q2⟩ =>
  thn (ho pins s2 σ H2 x y v u _ I2 r1 r2 q2) λc s3 ⟨z,H3,I3,r3,k,e,q3⟩=>?_) hm
 subst e;cases r3;exact cf ⟨H3,I3,q3⟩
def zU2(r r':R2)(ta tb tc:TE):TE:=λσ H Q=>ta σ H λx H1=>tb σ H1 λy H2=>r x y H2 λz H3=>∃ k,z=.bl k /\
 (if k=true then tc σ H3 λw' H4=>r' y w' H4 Q else Q (.bl false) H3)
theorem zB9{op op':kQ}{r r':R2}(ho:OpR X (compareOp op) r)(ho':OpR X (compareOp op') r')(ha:PE X a ta)(hb:PE X b tb)(hc:PE X c tc)
  (hm:lastMarks [op,op'] [b,c]=false:=by with_unfolding_all rfl):PE X (.Compare a [op,op'] [b,c] pos) (zU2 r r' ta tb tc):=by
 intro pins s σ H Q I h;refine Compare_chain (thn (ha pins s σ H _ I h) λv s1 ⟨x,H1,I1,r1,q1⟩=>chain_link (thn (hb pins s1 σ H1 _ I1 q1) λu s2 ⟨y,H2,I2,r2,q2⟩ =>
  thn (ho pins s2 σ H2 x y v u _ I2 r1 r2 q2) λd s3 ⟨z,H3,I3,r3,k,e,q3⟩=>?_)) hm
 subst e;cases r3;refine cf ?_;cases k with
 | false=>exact ite_ff ⟨.bl false,H3,I3,rfl,q3⟩
 | true=>exact ite_tt (chain_last (thn (hc pins s3 σ H3 _ I3 q3) λw' s4 ⟨z',H4,I4,r4,q4⟩=>ho' pins s4 σ H4 y z' u w' Q I4 r2 r4 q4))
theorem zL3{op op':kQ}{r r':R2}(ho:OpR X (compareOp op) r)(ho':OpR X (compareOp op') r')(ha:PE X a ta)(hb:PE X b tb)(hc:PE X c tc)
  (hm:lastMarks [op,op'] [b,c]=false:=by with_unfolding_all rfl):PT X (.Compare a [op,op'] [b,c] pos) (zVf (zU2 r r' ta tb tc)):=by
 intro pins s σ H Q I h;refine isTrue_chain (thn (ha pins s σ H _ I h) λv s1 ⟨x,H1,I1,r1,q1⟩=>test_link (thn (hb pins s1 σ H1 _ I1 q1) λu s2 ⟨y,H2,I2,r2,q2⟩ =>
  thn (ho pins s2 σ H2 x y v u _ I2 r1 r2 q2) λd s3 ⟨z,H3,I3,r3,k,e,q3⟩=>?_)) hm
 subst e;cases r3;refine cf ?_;cases k with
 | false =>
  obtain⟨k',e',q'⟩:=q3;cases e';exact ite_ff ⟨H3,I3,q'⟩
 | true =>
  refine ite_tt (test_last (thn (hc pins s3 σ H3 _ I3 q3) λw' s4 ⟨z',H4,I4,r4,q4⟩=>thn (ho' pins s4 σ H4 y z' u w' _ I4 r2 r4 q4) λd' s5 ⟨z2,H5,I5,r5,k2,e2,q5⟩=>?_));subst e2;cases r5;exact cf ⟨H5,I5,q5⟩

theorem zGj:(sizeLine:Nat)<2^63:=by rw[sizeLine_eq]; decide
theorem zGz:OpR X (binaryOp .Add) (λx y H Q=>∃ i j,x=.str i/\y=.str j/\i.length+j.length<=sizeLine/\Q (.str (i++j)) H):=by
 intro pins s σ H x y v u Q I rx ry h;obtain⟨i,j,rfl,rfl,hz,q⟩:=h;obtain⟨t,rfl⟩:=rx;obtain⟨t',rfl⟩:=ry;exact add_str (λt' tk=>⟨.str (i++j),H,I.tok _,⟨_,rfl⟩,q⟩) hz
theorem zNa{x:V}{us:List af}(r:yY [x] us):∃ u,us=[u]/\xI x u:=by
 cases r with
 | cons r1 r2=>cases r2; exact⟨_,rfl,r1⟩
theorem zY2{x y:V}{us:List af}(r:yY [x,y] us):∃ u w',us=[u,w']/\xI x u/\xI y w':=by
 cases r with
 | cons r1 r2 =>
  cases r2 with
  | cons r3 r4=>cases r4; exact⟨_,_,rfl,r1,r3⟩
theorem zS4:vV X (.builtin "abs") (λxs H Q=>∃ i,xs=[.int i]/\Q (.int (if i<0 then -i else i)) H):=by
 intro pins s σ H xs us Q I r h;obtain⟨i,rfl,q⟩:=h;obtain⟨u,rfl,t,rfl⟩:=zNa r;exact call_abs_int λu tk=>⟨.int (if i<0 then -i else i),H,I.tok _,⟨_,rfl⟩,q⟩
theorem zO3(hc:X.calm=true):vV X (.builtin "max") (λxs H Q=>∃ i j,xs=[.int i,.int j]/\Q (.int (if j>i then j else i)) H):=by
 intro pins s σ H xs us Q I r h;obtain⟨i,j,rfl,q⟩:=h;obtain⟨u,w',rfl,⟨t,rfl⟩,⟨t',rfl⟩⟩:=zY2 r;refine max_two_ints (I.ok.hd hc) λh' tk k=>⟨_,H,I.kept k,?_,q⟩;by_cases hj:j>i
 ·rw[if_pos hj,if_pos hj]; exact⟨_,rfl⟩
 ·rw[if_neg hj,if_neg hj]; exact⟨_,rfl⟩
end
end L2

namespace L2
open PySem PySem.Spec PyProof.Rows

structure zV1(h:aV)(x dx C:ag)(mA:aC->Option af):Prop where
 obj:h.get? x=some (du C dx)
 ns:h.Ns1 dx mA
 ne:dx≠x

theorem zOp{h:aV}{dx:ag}{mA:aC->Option af}(n:h.Ns1 dx mA):∃ od,h.get? dx=some od/\∀ name,gG name od=some (mA name):=by
 obtain⟨o,es,ep,ho,hd,hk,_,hm⟩:=n;refine⟨o,ho,λname=>?_⟩;have e:=hm name;unfold nsFind findBy at e;rw[<- Array.find?_toList] at e;unfold gG;rw[hd];dsimp only;split
 ·rename_i y q
  rw[q] at e;exact congrArg some e
 ·rename_i q
  rw[q] at e;have a:es.toList.any (·.refKey)=false:=by
   rw[jJ];intro y hy;obtain⟨z,t,hkey⟩:=hk y (fU.mp hy);simp[DictEntry.refKey,hkey]
  have a':¬ es.toList.any (·.refKey)=true:=by rw[a]; exact aE
  rw[if_neg a'];exact congrArg some e

theorem zV1.look{h:aV}{x dx C:ag}{mA:aC->Option af}(I:zV1 h x dx C mA):∃ od,PySem.W.InstAt h x (du C dx) C (some od)/\∀ name,gG name od=some (mA name) :=
 let ⟨od,ho,hl⟩:=zOp I.ns
 ⟨od,⟨I.obj,rfl,rfl,ho⟩,hl⟩

section
variable{prog:aL}{w:aT}{A:bu}{E:af->ai->Prop}{s:ai}{K:ae}{x dx C f:ag}{mA:aC->Option af}{name:aC}{v:af}

theorem zWd{expr:Bool}{Q:af->ai->Prop}(X:K.In s.heap)(I:zV1 s.heap x dx C mA)(hg:fO K C name=true)(hh:gZ K C=true)
  (ha:cm K (.ref C) name=some none) (hv:mA name=some v) (hv':ku v=true) (h:Q v { s with toks:=s.toks+1 }) :
  wpAny (model prog w) A (getAttr (.ref x) name expr) Q E s:=by
 obtain⟨od,J,hl⟩:=I.look;exact PySem.W.get_value X J (gg hg).1 (PySem.W.findObj_own hh ha rfl (by rw[hl,hv])) hv' h

theorem zSy{pl:lY Bool}{Q:af×List af->ai->Prop}(X:K.In s.heap)(I:zV1 s.heap x dx C mA)(hg:fO K C name=true)
  (hf:cm K (.ref C) name=some (some (.ref f))) (ht:jK K (.ref f)=true) (hv:mA name=none) (h:Q (.ref f,[.ref x]) s) :
  wpAny (model prog w) A (getMethod (.ref x) name pl) Q E s:=by
 obtain⟨od,J,hl⟩:=I.look;exact PySem.W.method_fn X J (gg hg).1 (gg hg).2 hf (beq_iff_eq.mp ht) (by show(gG name od).map (·.isSome)=some false; rw[hl,hv]; rfl) h

theorem zV6{ns:List aC}{Q:Unit->ai->Prop}(X:K.In s.heap)(I:zV1 s.heap x dx C mA)
  (hs:cm K (.ref C) "__setattr__" = some (some (.builtin "object.__setattr__"))) (hp:jL K C=true) (ht:iG K C name=some none) (hh:gZ K C=true)
  (hw:jI mA ns) (hsz:ns.length<=sizeLine)
  (h:∀ h',zV1 h' x dx C (λy=>if y=name then some v else mA y)->cP dx s.heap h'->Q () { s with heap:=h',toks:=s.toks+2 }) :
  wpAny (model prog w) A (setAttr (.ref x) name v) Q E s:=by
 obtain⟨od,J,hl⟩:=I.look;refine PySem.W.set_plain X J hs (PySem.W.osa_open (s:={ s with toks:=s.toks+1 }) (r:=none) X J hp ht λb=>?_);obtain⟨cd,hc,hd'⟩:=PySem.W.any_some hh;have hx:s.heap.get? x=some ⟨.ref C,some dx,.plain,#[]⟩:=I.obj;refine aa (ak (aa (aa (wpAny_loadPart hx (aa (nj (s:={ s with toks:=s.toks+1 }) (PySem.W.looks_clsIn X hc) ?_))))));rw[hd'];refine ak (a:=some dx) (aa (ak (aa ?_)));refine wpAny_nsSet1 (s:={ s with toks:=s.toks+1 }) I.ns λh' hn2 hs2=>?_;obtain⟨oD,esD,epD,hoD,hdD,hcD⟩:=hn2.count (nv name v hw);refine aa (wpAny_lookBehind hoD (by rw[hdD]; exact pastItsLine_dict (aO hcD (by rw[aS]; lia))) ?_);exact ak (h _ ⟨(hs2.2 _ (cw I.ne)).trans I.obj,hn2,I.ne⟩ hs2)

theorem zS6{R:Result->ai->Prop}{vs:List af}{kw:List (aC×af)}(X:K.In s.heap)(hm:kW K C=true)
  (hi:cm K (.ref C) "__init__" = some (some (.ref f))) (hf:PySem.W.typeIn K (.ref f)=some (.type "function"))
  (h:codeAny (model prog w) (A.under (.builtin "type.__call__" ⟨.ref C::vs,kw⟩)) (.call (.ref f) ⟨.ref (s.heap.objs.size+1)::vs,kw⟩) (PySem.W.InitBack (s.heap.objs.size+1) R)
   { s with heap:=(s.heap.push cB).push (du C s.heap.objs.size) }) :
  codeAny (model prog w) A (.call (.ref C) ⟨vs,kw⟩) R s:=by
 obtain⟨hh,g,d,t,os⟩:=s;exact PySem.W.make_core (PySem.W.makes_of X hm) (PySem.W.looks_findIn X hi) (λself=>PySem.W.bind_fn X self hf) (.inl rfl) h
end

def zEd(f:aC)(v:V):List (aC×V)->List (aC×V)
 | []=>[(f,v)]
 | (g,x)::r=>if g=f then(g,v)::r else(g,x)::zEd f v r
theorem zE0(f g:aC)(v:V):∀ fs:List (aC×V),(zEd f v fs).lookup g=if g=f then some v else fs.lookup g
 | []=>by
  show bA g [(f,v)]=_;by_cases h:g=f
  ·have hb:(g == f)=true:=beq_iff_eq.mpr h;simp only[bA,hb,if_pos h]
  ·have hb:(g == f)=false:=beq_eq_false_iff_ne.mpr h;simp only[bA,hb,if_neg h]
 | (k,x)::r=>by
  have ih:=zE0 f g v r;rw[show zEd f v ((k,x)::r)=(if k=f then(k,v)::r else(k,x)::zEd f v r) from rfl];by_cases hk:k=f
  ·rw[if_pos hk];by_cases h:g=k
   ·have hb:(g == k)=true:=beq_iff_eq.mpr h;simp only[bA,hb,if_pos (h.trans hk)]
   ·have hb:(g == k)=false:=beq_eq_false_iff_ne.mpr h;simp only[bA,hb,if_neg (λe:g=f=>h (e.trans hk.symm))]
  ·rw[if_neg hk];by_cases h:g=k
   ·have hb:(g == k)=true:=beq_iff_eq.mpr h;simp only[bA,hb,if_neg (λe:g=f=>hk (h.symm.trans e))]
   ·have hb:(g == k)=false:=beq_eq_false_iff_ne.mpr h;simp only[bA,hb];exact ih
theorem zEm(f:aC)(v:V):∀ fs:List (aC×V),f∈(zEd f v fs).map (·.1)/\∀ g,g∈fs.map (·.1)->g∈(zEd f v fs).map (·.1)
 | []=>⟨by simp[zEd],λg h=>by simp at h⟩
 | (k,x)::r=>by
  obtain⟨i1,i2⟩:=zEm f v r;rw[show zEd f v ((k,x)::r)=(if k=f then(k,v)::r else(k,x)::zEd f v r) from rfl];by_cases hk:k=f
  ·rw[if_pos hk];subst hk;exact⟨by simp,λg h=>by simpa using h⟩
  ·rw[if_neg hk];refine⟨?_,λg h=>?_⟩
   ·rw[aM];exact bz _ i1
   ·rw[aM] at h ⊢;rcases aI.mp h with e | e
    ·exact aI.mpr (.inl e)
    ·exact bz _ (i2 g e)
theorem zFh(f:aC)(v:V):∀ fs:List (aC×V),(zEd f v fs).length<=fs.length+1
 | []=>by simp[zEd]
 | (k,x)::r=>by
  have ih:=zFh f v r;rw[show zEd f v ((k,x)::r)=(if k=f then(k,v)::r else(k,x)::zEd f v r) from rfl];by_cases hk:k=f
  ·rw[if_pos hk,aS,aS]; lia
  ·rw[if_neg hk,aS,aS]; lia

theorem zH7.some_of{v:V}{o:Option af}(r:zH7 (some v) o):∃ u,o=some u/\xI v u:=by
 cases o with
 | none=>exact(show False from r).elim
 | some u=>exact⟨u,rfl,r⟩
theorem zH7.none_of{o:Option af}(r:zH7 none o):o=none:=by
 cases o with
 | none=>rfl
 | some u=>exact(show False from r).elim
theorem zOy{v:V}{u:af}(r:xI v u):ku u=true:=by
 cases v with
 | non=>cases (show u=a7 from r); rfl
 | bl b=>cases (show u=iq b from r); rfl
 | int i=>obtain⟨t,e⟩:=(show ∃ t,u=dL i t from r); cases e; rfl
 | str x=>obtain⟨t,e⟩:=(show ∃ t,u=cC x t from r); cases e; rfl
 | byt b=>obtain⟨t,e⟩:=(show ∃ t,u=kP b t from r); cases e; rfl
 | flt b=>obtain⟨t,e⟩:=(show ∃ t,u=iZ b t from r); cases e; rfl
 | ref a=>cases (show u=aK a from r); rfl
 | ty n=>cases (show u=lv n from r); rfl

section
variable{P:aL}{w:aT}{H H':Hp}{h h':aV}{a C dx:ag}{fs fs':List (aC×V)}
theorem zG7(hok:HOk P w H h)(e:H a=some (.ins C dx fs)):∃ mA,zV1 h a dx C mA/\(∀ f,zH7 (fs.lookup f) (mA f))/\jI mA (fs.map (·.1))/\fs.length<=1000/\H dx=some (.own a):=by
 obtain⟨d,z,ne,ob,mA,n,r,q⟩:=(show xL P w H h a (.ins C dx fs) from hok a _ e);exact⟨mA,⟨ob,n,ne⟩,r,q,z,d⟩
end

structure Cls(K:ae)(C:ag):Prop where
 pg:fO K C mL=true
 hd:gZ K C=true
 po:jL K C=true
 sa:cm K (.ref C) "__setattr__" = some (some (.builtin "object.__setattr__"))
theorem Cls.get{K:ae}{C:ag}(c:Cls K C)(f:aC):fO K C f=true:=c.pg
def zAs(K:ae)(C:ag)(f:aC):Prop:=cm K (.ref C) f=some none
theorem zAs.taker{K:ae}{C:ag}{f:aC}(n:zAs K C f):iG K C f=some none:=by
 unfold iG;rw[show cm K (.ref C) f=some none from n];rfl
structure Con(K:ae)(C:ag)(f:aC)(v:V)(u:af):Prop where
 at_:cm K (.ref C) f=some (some u)
 rel:xI v u
 get:jM K u "__get__" = some none
 cp:PySem.W.copiedNames.contains f=false
structure zRt(K:ae)(C:ag)(m:aC)(f:ag):Prop where
 at_:cm K (.ref C) m=some (some (.ref f))
 fn:jK K (.ref f)=true
 kp:bO K (.ref f)=true

section
variable{X:Cx}{pins:List (ag×cA)}{σ:St}{H:Hp}{s:ai}{a C dx:ag}{fs:List (aC×V)}{f:aC}{v:V}{A:bu}{E:af->ai->Prop}

theorem zN9{b:Bool}{Q:af->ai->Prop}(I:Inv X pins σ H s)(e:H a=some (.ins C dx fs))(c:Cls X.K C)(n:zAs X.K C f)(l:fs.lookup f=some v)
  (h:∀ u s',Inv X pins σ H s'->xI v u->Q u s'):wpAny (model X.prog X.w) A (getAttr (.ref a) f b) Q E s:=by
 obtain⟨mA,O,r,_,_,_⟩:=zG7 I.hok e;obtain⟨u,hu,ru⟩:=zH7.some_of (v:=v) (o:=mA f) (by rw[<- l]; exact r f);exact zWd I.kIn O (c.get f) c.hd n hu (zOy ru) (h u _ (I.tok _) ru)

theorem zCr{m:aC}{g:ag}{pl:lY Bool}{Q:af×List af->ai->Prop}(I:Inv X pins σ H s)(e:H a=some (.ins C dx fs))(c:Cls X.K C)(k:zRt X.K C m g)(l:fs.lookup m=none)
  (h:Q (.ref g,[.ref a]) s):wpAny (model X.prog X.w) A (getMethod (.ref a) m pl) Q E s:=by
 obtain⟨mA,O,r,_,_,_⟩:=zG7 I.hok e;have hn:mA m=none:=zH7.none_of (by rw[<- l]; exact r m);exact zSy I.kIn O (c.get m) k.at_ k.fn hn h

theorem zNy{y:V}{u:af}{Q:Unit->ai->Prop}(I:Inv X pins σ H s)(e:H a=some (.ins C dx fs))(c:Cls X.K C)(n:zAs X.K C f)(hl:fs.length<1000)(ry:xI y u)
  (h:∀ s',Inv X pins σ (upd H a (.ins C dx (zEd f y fs))) s'->Q () s'):wpAny (model X.prog X.w) A (setAttr (.ref a) f u) Q E s:=by
 obtain⟨mA,O,r,wi,_,ho⟩:=zG7 I.hok e;have hz:(fs.map (·.1)).length<=sizeLine:=by rw[ac,sizeLine_eq]; lia
 refine zV6 I.kIn O c.sa c.po n.taker c.hd wi hz λh' O' sb=>h _ ?_;have hd:∃ o,h'.get? dx=some o:=let ⟨o,_,_,e',_⟩:=O'.ns;⟨o,e'⟩;refine I.write (x:=a) (e:=dx) (by rw[e]; exact bo) (.inr ho) (λb q hb z=>(sb.2 b hb).trans z) hd ?_;refine⟨by rw[zG O.ne]; exact ho,?_,O.ne,O'.obj,_,O'.ns,λg=>?_,λg hg=>?_⟩
 ·have:=zFh f y fs; lia
 ·show zH7 ((zEd f y fs).lookup g) (if g=f then some u else mA g);rw[zE0];by_cases q:g=f
  ·rw[if_pos q,if_pos q]; exact ry
  ·rw[if_neg q,if_neg q]; exact r g
 ·by_cases q:g=f
  ·rw[q]; exact(zEm f y fs).1
  ·refine(zEm f y fs).2 g (wi g λz=>hg ?_);show(if g=f then some u else mA g)=none;rw[if_neg q]; exact z

theorem Inv.made(I:Inv X pins σ H s):Inv X pins σ (upd (upd H s.heap.objs.size (.own (s.heap.objs.size+1))) (s.heap.objs.size+1) (.ins C s.heap.objs.size []))
  { s with heap:=(s.heap.push cB).push (du C s.heap.objs.size) }:=by
 have e1:(s.heap.push cB).get? s.heap.objs.size=some cB:=ap s.heap rfl;have e2:((s.heap.push cB).push (du C s.heap.objs.size)).get? (s.heap.objs.size+1)=some (du C s.heap.objs.size):=by
  have:=ap (s.heap.push cB) (o:=du C s.heap.objs.size) rfl;rwa[dh] at this
 have e3:(s.heap.push cB).Ns s.heap.objs.size (λ_=>none):=⟨cB,#[],_,e1,rfl,(λe he=>absurd he (by simp)),λ_=>rfl⟩;have I1:=I.laid (a:=s.heap.objs.size) (o:=.own (s.heap.objs.size+1)) (h':=s.heap.push cB) (t':=s.toks) (λb u q=>ah _ q) (am _) ⟨_,e1⟩;refine I1.laid (a:=s.heap.objs.size+1) (o:=.ins C s.heap.objs.size []) (t':=s.toks) (λb u q=>ah _ q) (iu (dh _ _)) ?_;have ne:s.heap.objs.size≠s.heap.objs.size+1:=aQ (ij _);refine⟨by rw[zG ne,zA],bf _,ne,e2,λ_=>none,(Heap.Ns1.of_empty e3).at λo q=>ah _ q,λ_=>bo,λy hy=>absurd rfl hy⟩

theorem zV5{prog:aL}{w:aT}{env:gf}{e:bj}{f:aC}{pos:fg}{s:ai}{Q:af->ai->Prop}(hb:attributeBase e f env (eval e env)=eval e env)
  (h:wpAny (model prog w) A (eval e env) (λo s₁=>wpAny (model prog w) A (getAttr o f true) Q E s₁) E s):wpAny (model prog w) A (eval (.Attribute e f pos) env) Q E s :=
 Attribute_any_ h (by rw[arm_eval_Attribute,hb])
end


section
variable{X:Cx}{pins:List (ag×cA)}{σ:St}{H:Hp}{s:ai}{A:bu}{E:af->ai->Prop}{Q:af->ai->Prop}{c:af}{b:Bool}
inductive TyOf(K:ae)(H:Hp):V->af->Prop where
 | non:TyOf K H .non (.type "NoneType")
 | bl (x:Bool):TyOf K H (.bl x) (.type "bool")
 | int (i:Int):TyOf K H (.int i) (.type "int")
 | str (x:aC):TyOf K H (.str x) (.type "str")
 | flt (x:UInt64):TyOf K H (.flt x) (.type "float")
 | lst {a:ag} {xs:List V} (e:H a=some (.lst xs)):TyOf K H (.ref a) (.type "list")
 | frz {a:ag} {o:cA} {xs:List V} (e:H a=some (.frz o (.lst xs))):TyOf K H (.ref a) (.type "list")
 | tup {a:ag} {xs:List V} (e:H a=some (.tup xs)):TyOf K H (.ref a) (.type "tuple")
 | dK {a:ag} {kvs:List (Key×V)} (e:H a=some (.dK kvs)):TyOf K H (.ref a) (.type "dict")
 | dT {a:ag} {kvs:List (List Key×V)} (e:H a=some (.dT kvs)):TyOf K H (.ref a) (.type "dict")
 | ins {a C dx:ag} {fs:List (aC×V)} (e:H a=some (.ins C dx fs)) (cl:Cls K C) (ha:cm K (.ref C) "__class__" = some (some (.builtin "object.__class__")))
   (hn:jM K (.builtin "object.__class__") "__get__" = some (some (.builtin "getset_descriptor.__get__"))) (htk:PySem.W.takesIn K (.builtin "object.__class__")=some true)
   (hm:PySem.W.mroIn K C (.type "object")=some true):TyOf K H (.ref a) (.ref C)
theorem zOz{x:V}{u t:af}(I:Inv X pins σ H s)(rx:xI x u)(ty:TyOf X.K H x t)(e:cQ X.K t c=some b)(h:∀ tk,Q (.bool b) { s with toks:=tk }) :
  wpAny (model X.prog X.w) A (call (.builtin "isinstance") [u,c]) Q E s:=by
 cases ty with
 | non=>cases (show u=a7 from rx); exact b9 PySem.W.kitx_none I.kIn bo e (λz=>nomatch z) h
 | bl y=>cases (show u=iq y from rx); exact b9 PySem.W.kitx_bool I.kIn bo e (λz=>nomatch z) h
 | int i=>obtain⟨t,q⟩:=(show ∃ t,u=dL i t from rx); cases q; exact b9 PySem.W.kitx_int I.kIn bo e (λz=>nomatch z) h
 | str y=>obtain⟨t,q⟩:=(show ∃ t,u=cC y t from rx); cases q; exact b9 PySem.W.kitx_str I.kIn bo e (λz=>nomatch z) h
 | flt y=>obtain⟨t,q⟩:=(show ∃ t,u=iZ y t from rx); cases q; exact b9 PySem.W.kitx_float I.kIn bo e (λz=>nomatch z) h
 | @lst a xs ea =>
  cases (show u=aK a from rx);obtain⟨_,_,n,_,h1⟩:=(show xL X.prog X.w H s.heap a (.lst xs) from I.hok a _ ea);exact b9 jN I.kIn ⟨_,h1,rfl⟩ e (λz=>nomatch z) h
 | @frz a ob xs ea =>
  cases (show u=aK a from rx);obtain⟨_,_,_,n,_,h1⟩:=(show xL X.prog X.w H s.heap a (.frz ob (.lst xs)) from I.hok a _ ea);exact b9 jN I.kIn ⟨_,h1,rfl⟩ e (λz=>nomatch z) h
 | @tup a xs ea =>
  cases (show u=aK a from rx);obtain⟨_,_,_,p⟩:=(show xL X.prog X.w H s.heap a (.tup xs) from I.hok a _ ea);obtain⟨o,h1,h2,_⟩:=p;exact b9 PySem.W.kitx_tuple I.kIn ⟨o,h1,h2⟩ e (λz=>nomatch z) h
 | @dK a kvs ea =>
  cases (show u=aK a from rx);obtain⟨_,_,vs,_,p⟩:=(show xL X.prog X.w H s.heap a (.dK kvs) from I.hok a _ ea);obtain⟨o,es,ep,h1,h2,_⟩:=p;exact b9 jO I.kIn ⟨o,h1,h2.1⟩ e (λz=>nomatch z) h
 | @dT a kvs ea =>
  cases (show u=aK a from rx);obtain⟨_,_,xs,_,o,es,ep,h1,h2,_⟩:=(show xL X.prog X.w H s.heap a (.dT kvs) from I.hok a _ ea);exact b9 jO I.kIn ⟨o,h1,h2.1⟩ e (λz=>nomatch z) h
 | @ins a C dx fs ea cl ha hn htk hm =>
  cases (show u=aK a from rx);obtain⟨mA,O,_⟩:=zG7 I.hok ea;obtain⟨od,J,_⟩:=O.look;exact b9 (PySem.W.kitx_own (cl.get _) cl.hd ha hn htk hm) I.kIn J e (λz=>nomatch z) h
end
end L2

namespace L2
open PySem PySem.Spec PyProof.Rows

structure rN(k:Nat)(A:bu):Prop where
 hd:A.handled=none
 dp:A.depth+3*k+5<recursionLimit
 un:A.units+16*k+200<cLine
 gd:A.guards=some []
theorem rN.mono{j k:Nat}{A:bu}(r:rN k A)(h:j<=k):rN j A:=⟨r.hd,by have:=r.dp; lia,by have:=r.un; lia,r.gd⟩
theorem rN.deeper{k:Nat}{A:bu}(r:rN (k+1) A)(env:gf):rN k (A.deeper env) :=
 ⟨r.hd,by have:=r.dp; show A.depth+1+3*k+5<_; lia,by have:=r.un; show A.units+3+16*k+200<_; lia,r.gd⟩
theorem zN6{A:bu}{C:ag}{us:List af}{kw:List (aC×af)} : (A.under (.builtin "type.__call__" ⟨.ref C::us,kw⟩)).depth=A.depth+1:=by
 first | rfl | simp[iw,Code.weight,Code.isCreation,mT,Code.isCaller,m5,jP,guardIds]
theorem zN8{A:bu}{C:ag}{us:List af}{kw:List (aC×af)} : (A.under (.builtin "type.__call__" ⟨.ref C::us,kw⟩)).units=A.units+1:=by
 first | rfl | simp[iw,Code.cUnits,m5,jP]
theorem rN.make{k:Nat}{A:bu}(r:rN (k+1) A)(C:ag)(us:List af)(kw:List (aC×af)):rN k (A.under (.builtin "type.__call__" ⟨.ref C::us,kw⟩)) :=
 ⟨r.hd,by have:=r.dp; rw[zN6]; lia,by have:=r.un; rw[zN8]; lia,by first | exact r.gd | (rw[iw]; simpa [pushGuards,Code.guards,mT,guardIds] using r.gd)⟩
theorem rN.depth{k:Nat}{A:bu}(r:rN k A):A.depth<recursionLimit:=by have:=r.dp; lia
theorem rN.units{k:Nat}{A:bu}(r:rN k A):A.units+64<cLine:=by have:=r.un; lia
theorem rN.units0{k:Nat}{A:bu}(r:rN k A):A.units<cLine:=by have:=r.un; lia

def zXp:TA:=λ_ H Q=>Q [] H
def zU5(ta:TE)(tr:TA):TA:=λσ H Q=>ta σ H λx H1=>tr σ H1 λxs H2=>Q (x::xs) H2
section
variable{X:Cx}{e:bj}{es:List bj}{te:TE}{t:TA}{pos:fg}
theorem zH:PA X [] zXp:=λ_ _ _ _ H Q I h=>jQ ⟨[],H,I,.nil,h⟩
theorem zC(ha:PE X e te)(hr:PA X es t)(hs:starEach (e::es) X.env=(false,eval e X.env)::starEach es X.env:=by rfl):PA X (e::es) (zU5 te t):=by
 intro pos pins s σ H Q I h;rw[hs];show wpAny _ _ (spliced ((false,eval e X.env)::backTo pos (starEach es X.env))) _ _ s;refine jw (thn (ha pins s σ H _ I h) λu s1 ⟨x,H1,I1,r1,q1⟩=>?_);exact thn (hr pos pins s1 σ H1 _ I1 q1) λus s2 ⟨xs,H2,I2,r2,q2⟩=>⟨x::xs,H2,I2,.cons r1 r2,q2⟩

def tTup(t:TA):TE:=λσ H Q=>t σ H λxs H1=>xs.length<=sizeLine/\∀ p,H1 p=none->Q (.ref p) (upd H1 p (.tup xs))
def tLst(t:TA):TE:=λσ H Q=>t σ H λxs H1=>xs.length<=sizeLine/\∀ p,H1 p=none->Q (.ref p) (upd H1 p (.lst xs))
theorem xV{x1}(h:PA X es t):PE X (.Tuple es x1 pos) (tTup t):=by
 intro pins s σ H Q I hq;refine wpAny_Tuple_spliced (thn (h pos pins s σ H _ I hq) λus s1 ⟨xs,H1,I1,r,z,q⟩=>⟨by rw[<- r.length]; exact z,?_⟩);have hf:H1 s1.heap.objs.size=none:=I1.hok.fresh (am _);refine⟨.ref s1.heap.objs.size,upd H1 s1.heap.objs.size (.tup xs),I1.laid (t':=s1.toks) (λb u e=>ah _ e) (am _) ?_,rfl,q _ hf⟩;exact⟨z,us,r,⟨_,ap _ rfl,rfl,_,rfl⟩⟩
theorem tE(h:PA X es t):PE X (.List es pos) (tLst t):=by
 intro pins s σ H Q I hq;refine wpAny_List_spliced (thn (h pos pins s σ H _ I hq) λus s1 ⟨xs,H1,I1,r,z,q⟩=>⟨by rw[<- r.length]; exact z,?_⟩);have hf:H1 s1.heap.objs.size=none:=I1.hok.fresh (am _);refine⟨.ref s1.heap.objs.size,upd H1 s1.heap.objs.size (.lst xs),I1.laid (t':=s1.toks) (λb u e=>ah _ e) (am _) ?_,rfl,q _ hf⟩;exact⟨z,us,0,r,ap _ rfl⟩
end

abbrev Sp:=List V->Hp->VK->XK->Prop
abbrev CXT:=List gf->Hp->ai->XK->af->ai->Prop

structure zS0(P:aL)(w:aT)(K:ae)(mg:aC->Option af)(base:aV)(A:bu)(outer:List gf)(s:ai)(H:Hp):Prop where
 frames:A.frames=some outer
 mod:Mod K mg base
 bs:∀ b o,base.get? b=some o->s.heap.get? b=some o/\H b=none
 bsz:base.objs.size<=s.heap.objs.size
 funs:s.heap.FunFrames base outer
 frf:∀ b∈frs outer,H b=none
 hok:HOk P w H s.heap
 bare:gr s.gens
def CE(outer:List gf)(P:aL)(w:aT)(H:Hp)(s:ai)(Q:VK)(u:af)(s':ai):Prop :=
 ∃ v H',s'.os=s.os/\gr s'.gens/\Un (frs outer) [] H H' s.heap s'.heap/\HOk P w H' s'.heap/\xI v u/\Q v H'
def CR(CX:CXT)(outer:List gf)(P:aL)(w:aT)(H:Hp)(s:ai)(Q:VK)(E:XK)(r:Result)(s':ai):Prop :=
 match r with
 | .ok (.ret u)=>CE outer P w H s Q u s'
 | .ok _=>False
 | .error e=>CX outer H s E e s'
structure xJ(P:aL)(w:aT)(K:ae)(mg:aC->Option af)(base:aV)(CX:CXT)(k:Nat)(f:ag)(fd:bJ)(ps:List aC)(sp:Sp):Prop where
 len:∀ vs H Q E,sp vs H Q E->vs.length=ps.length
 run:∀(A:bu)(outer:List gf)(s:ai)(H:Hp)(args:Args)(us:List af)(vs:List V)(Q:VK)(E:XK),rN k A->zS0 P w K mg base A outer s H->ix s fd args (ps.zip us)->yY vs us->sp vs H Q E ->
  codeAny (model P w) A (.call (.ref f) args) (CR CX outer P w H s Q E) s
theorem zS0.make{P:aL}{w:aT}{K:ae}{mg:aC->Option af}{base:aV}{A:bu}{outer:List gf}{s:ai}{H:Hp}(e:zS0 P w K mg base A outer s H)(C:ag)(us:List af)(kw:List (aC×af)) :
  zS0 P w K mg base (A.under (.builtin "type.__call__" ⟨.ref C::us,kw⟩)) outer s H:=⟨by first | exact e.frames | (simpa [iw,Code.envs,jP,pushEnvs] using e.frames),e.mod,e.bs,e.bsz,e.funs,e.frf,e.hok,e.bare⟩
section
variable{X:Cx}{pins:List (ag×cA)}{σ:St}{H:Hp}{s s':ai}
theorem Inv.env0(I:Inv X pins σ H s):zS0 X.prog X.w X.K X.mg X.base X.A X.stack s H :=
 ⟨I.ok.frames,I.ok.mod,I.bs,aO I.ok.bsz I.sz,I.stack,I.stkFree,I.hok,I.bare⟩
theorem Inv.after{Q:VK}{u:af}(I:Inv X pins σ H s)(h:CE X.stack X.prog X.w H s Q u s'):EP X pins σ Q u s':=by
 obtain⟨v,H',os,bare,un,hok,r,q⟩:=h;obtain⟨hh,g,d,t,os'⟩:=s';obtain rfl:os'=s.os:=os;exact⟨v,H',I.call (h':=hh) (g':=g) (d':=d) (t':=t) (ch:=[]) un hok bare (λb z=>absurd z (by simp)),r,q⟩
end

def zNc(sp:Sp)(dvs:List V)(E:XK)(t:TA):TE:=λσ H Q=>t σ H λvs H1=>sp (vs++dvs) H1 Q E
def zBl(K:ae)(fd:bJ)(ps:List aC)(ds:List af):Prop :=
 ∀(s:ai)(us:List af),K.In s.heap->(us++ds).length=ps.length->ix s fd ⟨us,[]⟩ (ps.zip (us++ds))
theorem zBl.all{K:ae}{fd:bJ}{ps:List aC}(h:∀ us:List af,us.length=ps.length->bindArgs fd ⟨us,[]⟩=pure (ps.zip us)):zBl K fd ps []:=λs us _ hl=>by
 rw[bF] at hl ⊢;exact .of_eq (h us hl)

def zJw(CX:CXT)(X:Cx)(E:XK):Prop:=∀(pins:List (ag×cA))(σ:St)(H:Hp)(s:ai)(e:af)(s':ai),Inv X pins σ H s->CX X.stack H s E e s'->X.xe e s'

section
variable{X:Cx}{CX:CXT}{k:Nat}{f C:ag}{fd:bJ}{ps:List aC}{sp:Sp}{dvs:List V}{ds:List af}{E:XK}{x m:aC}{p pos apos:fg}{e o:bj}{es:List bj}{ta:TE}{t:TA}

theorem zLr{pins:List (ag×cA)}{σ:St}{H:Hp}{s:ai}{Q:VK}{us:List af}{vs:List V}(F:xJ X.prog X.w X.K X.mg X.base CX k f fd ps sp)(hr:rN k X.A)(hb:zBl X.K fd ps ds)(hd:yY dvs ds)(hx:zJw CX X E)
  (I:Inv X pins σ H s) (r:yY vs us) (h:sp (vs++dvs) H Q E):wpAny (model X.prog X.w) X.A (call (.ref f) us) (EP X pins σ Q) X.xe s:=by
 have r2:yY (vs++dvs) (us++ds):=r.append hd;have hl:(us++ds).length=ps.length:=by rw[<- r2.length]; exact F.len _ _ _ _ h
 refine gH (codeAny_mono (F.run X.A X.stack s H ⟨us,[]⟩ (us++ds) (vs++dvs) Q E hr I.env0 (hb s us I.kIn hl) r2 h) λr s' hq=>?_);cases r with
 | error e=>exact hx pins σ H s e s' I hq
 | ok fl =>
  cases fl with
  | ret u=>exact I.after hq
  | next=>exact be hq
  | brk=>exact be hq
  | cont=>exact be hq

theorem zWj(F:xJ X.prog X.w X.K X.mg X.base CX k f fd ps sp)(hr:rN k X.A)(hg:Gl X x)(hm:X.mg x=some (.ref f))(hk:bO X.K (.ref f)=true)(hb:zBl X.K fd ps ds)(hd:yY dvs ds)(hx:zJw CX X E)
  (ha:PA X (e::es) t) (hdb:(x ==("__debug__" : aC))=false:=by decide) (he:starEach (e::es) X.env=(false,eval e X.env)::starEach es X.env:=by rfl) (hpl:(backTo pos (starEach es X.env)).any (·.1)=false:=by rfl) :
  PE X (.Call (.Name x p) (e::es) [] pos) (zNc sp dvs E t):=by
 intro pins s σ H Q I h;refine c7 (tS I hg hm ?_ hdb);refine dC (h₀:=X.base) I.ok.mod.kin hk (thn (ha pos pins s σ H _ I h) λus s1 ⟨vs,H1,I1,r,q⟩=>⟨I1.kIn,?_⟩) he hpl;exact zLr F hr hb hd hx I1 r q
theorem zRx(F:xJ X.prog X.w X.K X.mg X.base CX k f fd ps sp)(hr:rN k X.A)(hg:Gl X x)(hm:X.mg x=some (.ref f))(hk:bO X.K (.ref f)=true)(hb:zBl X.K fd ps ds)(hd:yY dvs ds)(hx:zJw CX X E)
  (hdb:(x ==("__debug__" : aC))=false:=by decide):PE X (.Call (.Name x p) [] [] pos) (zNc sp dvs E zXp):=by
 intro pins s σ H Q I h;refine c7 (tS I hg hm ?_ hdb);exact gh I.kIn hk (zLr (us:=[]) F hr hb hd hx I .nil h)

structure Mk(K:ae)(C f:ag):Prop where
 makes:kW K C=true
 init:cm K (.ref C) "__init__" = some (some (.ref f))
 fn:jK K (.ref f)=true
 kp:bO K (.ref C)=true

theorem zSl{pins:List (ag×cA)}{σ:St}{H:Hp}{s:ai}{Q:VK}{us:List af}{vs:List V}(M:Mk X.K C f)(F:xJ X.prog X.w X.K X.mg X.base CX k f fd ps sp)(hr:rN (k+1) X.A)(hb:zBl X.K fd ps ds)(hd:yY dvs ds)
  (hx:zJw CX X E) (I:Inv X pins σ H s) (r:yY vs us)
  (h:∀ x dx,H x=none->H dx=none->dx≠x->sp (.ref x::(vs++dvs)) (upd (upd H dx (.own x)) x (.ins C dx [])) (λv H2=>v=.non/\Q (.ref x) H2) E) :
  wpAny (model X.prog X.w) X.A (call (.ref C) us) (EP X pins σ Q) X.xe s:=by
 have hq:=h (s.heap.objs.size+1) s.heap.objs.size (I.hok.fresh (fv _)) (I.hok.fresh (am _)) (aQ (ij _));have I2:=Inv.made (C:=C) I;have r2:yY (V.ref (s.heap.objs.size+1)::(vs++dvs)) (aK (s.heap.objs.size+1)::(us++ds)):=.cons rfl (r.append hd);have hl:(aK (s.heap.objs.size+1)::us++ds).length=ps.length:=by
  have e:=r2.length;rw[F.len _ _ _ _ hq] at e;exact e.symm
 refine gH (zS6 (f:=f) I.kIn M.makes M.init (beq_iff_eq.mp M.fn) (codeAny_mono (F.run _ X.stack _ _ ⟨aK (s.heap.objs.size+1)::us,[]⟩ (aK (s.heap.objs.size+1)::(us++ds)) _ _ E (hr.make C us [])
  (I2.env0.make C us []) (hb _ (aK (s.heap.objs.size+1)::us) I2.kIn hl) r2 hq) λr s' hq'=>?_))
 cases r with
 | error e=>exact hx pins σ _ _ e s' I2 hq'
 | ok fl =>
  cases fl with
  | ret u =>
   obtain⟨v,H',I3,rv,ev,q3⟩:=I2.after hq';subst ev;exact⟨rv,⟨V.ref (s.heap.objs.size+1),H',I3,rfl,q3⟩⟩
  | next=>exact be hq'
  | brk=>exact be hq'
  | cont=>exact be hq'
end

section
variable{X:Cx}{CX:CXT}{k:Nat}{f C:ag}{fd:bJ}{ps ks:List aC}{sp:Sp}{E:XK}{x m:aC}{p pos apos kpos:fg}{e o:bj}{es:List bj}{kws:List g6}{te ta:TE}{t tk:TA}{nm:Option aC}
structure KBinds(K:ae)(fd:bJ)(ps ks:List aC)(g:List af->List af->List af)(gV:List V->List V->List V):Prop where
 to:∀(s:ai)(us ws:List af),K.In s.heap->(g us ws).length=ps.length->ix s fd ⟨us,ks.zip ws⟩ (ps.zip (g us ws))
 rel:∀{vs:List V}{us:List af}{zs:List V}{ws:List af},yY vs us->yY zs ws->yY (gV vs zs) (g us ws)
variable{g:List af->List af->List af}{gV:List V->List V->List V}
end

structure zO(N P:List aC)(sc:fu):Prop where
 kind:sc.kind=.function
 co:sc.isCoroutine=false
 gen:sc.isGenerator=false
 nd:N.Nodup
 pre:N.take P.length=P
 par:∀ x∈P,sc.names.lookup x=some .local\/sc.names.lookup x=some .cell
 nofree:∀ y∈sc.names,y.2≠.free

theorem zI4{kindOf:aC->Option eM}{x:aC} : ∀{binds:List (aC×af)}{m:aC->Option af},(∀ v,(x,v) ∉ binds)->bindL kindOf binds m x=m x
 | [],_,_=>rfl
 | (n,v)::r,m,h=>by
  unfold bindL;rw[zI4 λw hw=>h w (bz _ hw)];split
  ·have:x≠n:=by rintro rfl; exact h v ck
   simp[this]
  ·rfl
theorem zIg{kindOf:aC->Option eM}{x:aC} : ∀{binds:List (aC×af)}{m:aC->Option af},(∀ v,(x,v) ∉ binds)->bindC kindOf binds m x=m x
 | [],_,_=>rfl
 | (n,v)::r,m,h=>by
  unfold bindC;rw[zIg λw hw=>h w (bz _ hw)];split
  ·rfl
  ·have:x≠n:=by rintro rfl; exact h v ck
   simp[this]
theorem zIw{kindOf:aC->Option eM}{x:aC}{v:af} : ∀{P:List aC}{vs:List af}{i:Nat}{m:aC->Option af},P.Nodup->P[i]?=some x->vs[i]?=some v->kindOf x=some .local ->
  bindL kindOf (P.zip vs) m x=some v
 | [],_,_,_,_,h,_,_=>by simp at h
 | _::_,[],_,_,_,_,h,_=>by simp at h
 | p::P,w::vs,0,m,nd,h1,h2,hk=>by
  simp at h1 h2; subst h1; subst h2;show bindL kindOf ((p,w)::P.zip vs) m p=_;unfold bindL;rw[zI4 λv hv=>(dN.mp nd).1 (fZ hv).1,if_pos hk];simp
 | p::P,w::vs,i+1,m,nd,h1,h2,hk=>by
  show bindL kindOf ((p,w)::P.zip vs) m x=_;unfold bindL;exact zIw (i:=i) (dN.mp nd).2 (by simpa using h1) (by simpa using h2) hk
theorem zJ0{kindOf:aC->Option eM}{x:aC}{v:af} : ∀{P:List aC}{vs:List af}{i:Nat}{m:aC->Option af},P.Nodup->P[i]?=some x->vs[i]?=some v->kindOf x≠some .local ->
  bindC kindOf (P.zip vs) m x=some v
 | [],_,_,_,_,h,_,_=>by simp at h
 | _::_,[],_,_,_,_,h,_=>by simp at h
 | p::P,w::vs,0,m,nd,h1,h2,hk=>by
  simp at h1 h2; subst h1; subst h2;show bindC kindOf ((p,w)::P.zip vs) m p=_;unfold bindC;rw[zIg λv hv=>(dN.mp nd).1 (fZ hv).1,if_neg hk];simp
 | p::P,w::vs,i+1,m,nd,h1,h2,hk=>by
  show bindC kindOf ((p,w)::P.zip vs) m x=_;unfold bindC;exact zJ0 (i:=i) (dN.mp nd).2 (by simpa using h1) (by simpa using h2) hk

def start(N:List aC)(vs:List V):St:=vs.map some++cG (N.length-vs.length) none

def cxOf(CX:CXT)(P:aL)(w:aT)(K:ae)(mg:aC->Option af)(base:aV)(N:List aC)(qual:aC)(scope:fu)(f:ag)(cd:af)(A:bu)(outer:List gf)(s:ai)(H:Hp)(E:XK):Cx where
 prog:=P
 w:=w
 K:=K
 mg:=mg
 base:=base
 A:=A.deeper (envOfC qual scope s.heap.objs.size f cd)
 N:=N
 s₀:=s
 H₀:=H
 env:=envOfC qual scope s.heap.objs.size f cd
 outer:=outer
 stack:=envOfC qual scope s.heap.objs.size f cd::outer
 ex:=[]
 calm:=true
 fn:=λ_=>true
 pn:=[]
 xe:=λe s'=>wpAny (model P w) (A.deeper (envOfC qual scope s.heap.objs.size f cd)) (leaving (envOfC qual scope s.heap.objs.size f cd) e) (λ_ s''=>CX outer H s E e s'') (λe' s''=>CX outer H s E e' s'') s'

theorem zMl{sc:fu}{n:Nat}{x:aC}(h:sc.names.lookup x=some .cell):∃ c,(cellsFrom n sc.names []).lookup x=some c:=by
 have q:=fE sc.names n [] (.inl h);exact aP.mp q

theorem zJ8{CX:CXT}{P:aL}{w:aT}{K:ae}{mg:aC->Option af}{base:aV}{N ps:List aC}{qual:aC}{scope:fu}{f:ag}{cd:af}{A:bu}{outer:List gf}{s s1:ai}{H:Hp}{E:XK}{us:List af}{vs:List V}
  (S:zO N ps scope) (hd:A.handled=none) (e0:zS0 P w K mg base A outer s H) (hl:vs.length=ps.length) (r:yY vs us)
  (x:InCallC s s.heap.objs.size (bindL (envOfC qual scope s.heap.objs.size f cd).kindOf (ps.zip us) λ_=>none) (cellsFrom (s.heap.objs.size+1) scope.names []) (bindC (envOfC qual scope s.heap.objs.size f cd).kindOf (ps.zip us) λ_=>none) s1) :
  Inv (cxOf CX P w K mg base N qual scope f cd A outer s H E) [] (start N vs) H s1:=by
 have hpl:ps.length<=N.length:=by have:=congrArg cr S.pre; rw[bK] at this; lia
 obtain⟨h1,tk,rfl,hk⟩:=x.done;have noA:∀ b:ag,b ∉ (cxOf CX P w K mg base N qual scope f cd A outer s H E).ex:=λb z=>absurd (show b∈([]:List ag) from z) (by simp);refine⟨⟨e0.mod,S.kind,rfl,rfl,am _,λy z c h1 h2=>?_,λy hy=>?_,λy c _ h=>?_,λ_=>hd,Around.frames_deeper e0.frames,.inr ⟨rfl,rfl⟩,λb z=>absurd z (noA b),e0.bs,e0.bsz,λb _ _=>noA b,λb z=>absurd z (noA b),e0.funs,e0.frf⟩,
  rfl,e0.bare,Un.kept hk,⟨_,x.toInCall.ns,λi y v h1 h2 h3=>?_⟩,λy c h=>⟨_,x.cell y c h⟩,e0.hok.fresh (am _),λy c h=>?_,λp hp=>absurd (show p∈([]:List (ag×cA)) from hp) (by simp),e0.hok.kept hk,?_⟩
 ·exact name_of_addr x.apart (dy h1) (dy h2)
 ·have hy:scope.names.lookup y=some .cell\/scope.names.lookup y=some .free:=hy;rcases hy with hy | hy
  ·exact zMl hy
  ·exact absurd rfl (S.nofree _ (dy hy))
 ·exact dZ (x.above y c (dy h))
 ·have hi:i<vs.length:=by
   unfold start at h2;by_cases hi:i<vs.length
   ·exact hi
   ·rw[cu (by simpa using hi)] at h2;rw[fw] at h2;split at h2 <;> cases h2
  have ha:vs[i]?=some v:=by
   unfold start at h2;rw[cU (by simpa using hi),av] at h2;cases e:vs[i]? with
   | none=>rw[e] at h2; cases h2
   | some a=>rw[e] at h2; cases h2; rfl
  obtain⟨u,hu,rv⟩:=r.get ha;have hp:ps[i]?=some y:=by
   rw[<- S.pre,List.getElem?_take_of_lt (by lia)]; exact h1
  have ndP:ps.Nodup:=by rw[<- S.pre]; exact S.nd.sublist (g7 _ _)
  exists u,rv;rcases S.par y (aF hp) with k | k
  ·exact .inl ⟨k,zIw ndP hp hu k⟩
  ·obtain⟨c,e⟩:=zMl (n:=s.heap.objs.size+1) k;refine .inr ⟨.inl k,c,e,?_⟩;have q:=x.cell y c e;rw[zJ0 ndP hp hu (by show scope.names.lookup y≠_; rw[k]; decide)] at q;exact q
 ·exact e0.hok.fresh (dZ (x.above y c (dy h)))
 ·unfold start;show _=N.length;rw[al,ac,cX];lia

theorem zZe{CX:CXT}{P:aL}{w:aT}{K:ae}{mg:aC->Option af}{base:aV}{k:Nat}{f:ag}{name qual:aC}{params:Arguments}{body:List bN}{scope:fu}{dV kV doc pm cdv ct oc:af}{an od:Option ag}
  {osl:Array (Option af)} {N ps:List aC} {sp:Sp} (lk:K.lookup f=some ⟨oc,od,.func (bG name qual params body scope dV kV doc pm an cdv ct),osl⟩) (hcd:eO K cdv qual=true) (S:zO N ps scope)
  (len:∀ vs H Q E,sp vs H Q E->vs.length=ps.length)
  (hbody:∀(A:bu)(outer:List gf)(s:ai)(H:Hp)(vs:List V)(Q:VK)(E:XK),rN k (A.deeper (envOfC qual scope s.heap.objs.size f cdv))->sp vs H Q E ->
   ∃ t,PSs (cxOf CX P w K mg base N qual scope f cdv A outer s H E) body t/\t { nx:=λ_ H'=>Q .non H',rt:=Q } (start N vs) H) :
  xJ P w K mg base CX (k+1) f (bG name qual params body scope dV kV doc pm an cdv ct) ps sp:=by
 refine⟨len,λA outer s H args us vs Q E hr e0 hb r hsp=>?_⟩;have hl:=len _ _ _ _ hsp;have KX:K.In s.heap:=e0.mod.kin.keeps λb o e=>(e0.bs b o e).1;have lim:s.heap.NoLimit:=e0.mod.nolimit.keeps λb o e=>(e0.bs b o e).1;have hkind:∀ y∈ps.zip us,scope.names.lookup y.1=some .local\/(scope.names.lookup y.1=some .cell/\((cellsFrom (s.heap.objs.size+1) scope.names []).lookup y.1).isSome=true):=λ⟨n,v⟩ hy=>by
  rcases S.par n (fZ hy).1 with q | q
  ·exact .inl q
  ·exact .inr ⟨q,fE _ _ _ (.inl q)⟩
 refine codeAny_call_function hr.depth (KX _ _ lk) rfl S.co S.gen rfl (jx KX hcd) (hb _ _ _ _ ?_);refine gJ S.kind hkind λenv he s1 x=>?_;subst he;refine⟨lim.keeps x.toInCall.keep,codeAny_func ?_⟩;obtain⟨t,ht,hq⟩:=hbody A outer s H vs Q E (hr.deeper _) hsp;have I:Inv (cxOf CX P w K mg base N qual scope f cdv A outer s H E) [] (start N vs) H s1:=zJ8 S hr.hd e0 hl r x;refine cZ (ht [] s1 (start N vs) H _ I hq) (λfl s' hs=>?_) λe s' hs=>hs;have fin:∀{σ':St}{H':Hp}{v:V}{u:af},Inv (cxOf CX P w K mg base N qual scope f cdv A outer s H E) [] σ' H' s'->xI v u->Q v H'->CE outer P w H s Q u s' :=
  λ{σ' H' v u} J rv q=>⟨v,H',J.os,J.bare,J.base,J.hok,rv,q⟩
 cases fl with
 | ret u =>
  obtain⟨v,σ',H',J,rv,q⟩:=hs;exact fin J rv q
 | next =>
  obtain⟨σ',H',J,q⟩:=hs;exact fin (v:=V.non) (u:=a7) J rfl q
 | brk =>
  obtain⟨_,_,_,q⟩:=hs;exact be q
 | cont =>
  obtain⟨_,_,_,q⟩:=hs;exact be q
end L2

namespace L2
open PySem PySem.Spec PyProof.Rows
section
variable{X:Cx}{x:aC}{p pos:fg}{e:bj}{es:List bj}{t:TA}{id T:String}{r:List V->Hp->VK->Prop}

def tCB(r:List V->Hp->VK->Prop)(t:TA):TE:=λσ H Q=>t σ H λvs H1=>r vs H1 Q
theorem zQ(hc:vV X (.builtin id) r)(hg:Gl X x)(hm:X.mg x=none)(hv:bootBuiltins x=some (.builtin id))(ha:PA X (e::es) t)(hn:x ≠ "__name__" := by decide)(hdb:(x ==("__debug__" : aC))=false:=by decide)
  (he:starEach (e::es) X.env=(false,eval e X.env)::starEach es X.env:=by rfl) (hpl:(backTo pos (starEach es X.env)).any (·.1)=false:=by rfl):PE X (.Call (.Name x p) (e::es) [] pos) (tCB r t):=by
 intro pins s σ H Q I h;refine c7 (zGn I hg hm hv ?_ hn hdb);exact kx (thn (ha pos pins s σ H _ I h) λus s1 ⟨vs,H1,I1,r1,q1⟩=>hc pins s1 σ H1 vs us Q I1 r1 q1) he hpl
theorem wR(hc:vV X (.type T) r)(hg:Gl X x)(hm:X.mg x=none)(hv:bootBuiltins x=some (.type T))(ha:PA X (e::es) t)(hn:x ≠ "__name__" := by decide)(hdb:(x ==("__debug__" : aC))=false:=by decide)
  (he:starEach (e::es) X.env=(false,eval e X.env)::starEach es X.env:=by rfl) (hpl:(backTo pos (starEach es X.env)).any (·.1)=false:=by rfl):PE X (.Call (.Name x p) (e::es) [] pos) (tCB r t):=by
 intro pins s σ H Q I h;refine c7 (zGn I hg hm hv ?_ hn hdb);exact dz (thn (ha pos pins s σ H _ I h) λus s1 ⟨vs,H1,I1,r1,q1⟩=>hc pins s1 σ H1 vs us Q I1 r1 q1) he hpl
end
end L2

namespace HT
open PySem PyProof.Rows

def lexLt:List Int->List Int->Bool
 | [],[]=>false
 | [],_::_=>true
 | _::_,[]=>false
 | x::xs,y::ys=>if x=y then lexLt xs ys else decide (x<y)
section
open PySem.SeqAt
open PySem.AutoSeq1 (wpAny_loadPart')
open PySem.MeetsSeq PySem.MeetsSeq2 PySem.MeetsSeq3

end

section
variable{prog:aL}{w:aT}{A:bu}{E:af->ai->Prop}{s:ai}

def sIx(n d:Nat):Option Int->Nat
 | none=>d
 | some v=>if v<0 then(v+(n:Int)).toNat else min v.toNat n
theorem sIx_nat(n d k:Nat):sIx n d (some (k:Int))=min k n:=by
 show(if (k:Int)<0 then((k:Int)+(n:Int)).toNat else min (k:Int).toNat n)=min k n;rw[if_neg (by lia),cg]
theorem zX3(n d:Nat)(hd:d<=n)(o:Option Int):sIx n d o<=n:=by
 cases o with
 | none=>exact hd
 | some v =>
  show(if v<0 then(v+(n:Int)).toNat else min v.toNat n)<=n;by_cases hv:v<0
  ·rw[if_pos hv]; lia
  ·rw[if_neg hv]; exact Nat.min_le_right _ _
theorem zOr(v:Int)(n d:Nat):(if v<0 then max (v+(n:Int)) 0 else min v (n:Int))=((sIx n d (some v):Nat):Int):=by
 show(if v<0 then max (v+(n:Int)) 0 else min v (n:Int))=(((if v<0 then(v+(n:Int)).toNat else min v.toNat n):Nat):Int);by_cases hv:v<0
 ·simp only[if_pos hv]; lia
 ·simp only[if_neg hv]; lia
theorem zN1(lo hi:Option Int)(n:Nat):cV lo hi 1 (n:Int)=(((sIx n 0 lo:Nat):Int),((sIx n n hi:Nat):Int)):=by
 have h1:¬ ((1:Int)<0):=by lia
 unfold cV;simp only[h1,if_false];refine m7 ?_ ?_
 ·cases lo with
  | none=>rfl
  | some v=>exact zOr v n 0
 ·cases hi with
  | none=>rfl
  | some v=>exact zOr v n n
theorem zN4(i j:Nat):bY (i:Int) (j:Int) 1=j-i:=by
 unfold bY;have h1:(1:Int)>0:=by lia
 simp only[h1,if_true,Int.ediv_one];split <;> lia
theorem slicePart_{v:af}{o:Option Int}{Q:Option Int->ai->Prop}(p:fP v o)(h:Q o s):wpAny (model prog w) A (kX v) Q E s:=by
 cases p with
 | none=>exact slicePart_none h
 | int i t=>exact slicePart_int h
theorem zDq{sl:ag}{vl vu:af}{lo hi:Option Int}{n:Nat}{Q:Int×Int×Nat->ai->Prop}(hs:s.heap.IsSliceOf sl vl vu .none)(pl:fP vl lo)(pu:fP vu hi)
  (h:Q (((sIx n 0 lo:Nat):Int),1,sIx n n hi-sIx n 0 lo) s):wpAny (model prog w) A (dD (.ref sl) (pure (n:Int))) Q E s:=by
 obtain⟨os,hos,hcs,hds⟩:=id hs;unfold dD gS;refine aa (aa (bg hos hds (x:=vl) rfl (aa (bg hos hds (x:=vu) rfl (aa (bg hos hds (x:=.none) rfl (ak ?_)))))));refine aa (slicePart_none ?_);show wpAny _ _ (if ((1:Int) == 0)=true then _ else _) _ _ s;rw[if_neg (by decide)];refine aa (slicePart_ pl (aa (slicePart_ pu (aa (ak ?_)))));show wpAny _ _ (match cV lo hi 1 (n:Int) with | (lo,hi)=>pure (lo,(1:Int),bY lo hi 1)) _ _ s;rw[zN1 lo hi n];show wpAny _ _ (pure (((sIx n 0 lo:Nat):Int),(1:Int),bY ((sIx n 0 lo:Nat):Int) ((sIx n n hi:Nat):Int) 1)) _ _ s;rw[zN4];exact ak h
theorem zSi(xs:Array af)(i k:Nat):((bx k).filterMap λ(m:Nat)=>xs[((i:Int)+(m:Int)*1).toNat]?).toArray=((xs.toList.drop i).take k).toArray:=by
 have e:(λ(m:Nat)=>xs[((i:Int)+(m:Int)*1).toNat]?)=λm=>xs[i+m]?:=by
  funext m
  have:((i:Int)+(m:Int)*1).toNat=i+m:=by lia
  rw[this]
 rw[e];have:=pick_run xs i k;rw[List.filterMap_map] at this;have e2:((λx=>xs[x]?) ∘ λx=>i+x)=λm=>xs[i+m]?:=rfl;rw[e2] at this;rw[this]

theorem getItem_tuple_cut{t sl:ag}{items:Array af}{vl vu:af}{lo hi:Option Int}{Q:af->ai->Prop}(ht:ly s.heap t items)(hs:s.heap.IsSliceOf sl vl vu .none)(pl:fP vl lo)(pu:fP vu hi)
  (hw:¬ (sIx items.size 0 lo=0/\sIx items.size items.size hi=items.size))
  (h:Q (.ref s.heap.objs.size) { s with heap:=s.heap.push { cls:=.type "tuple", data:=.seq ((items.toList.drop (sIx items.size 0 lo)).take (sIx items.size items.size hi-sIx items.size 0 lo)).toArray } })
  (hsz:items.size<=sizeLine):wpAny (model prog w) A (getItem (.ref t) (.ref sl)) Q E s:=by
 have htake:sizeOk (.seq ((items.toList.drop (sIx items.size 0 lo)).take (sIx items.size items.size hi-sIx items.size 0 lo)).toArray):=by
  show((items.toList.drop (sIx items.size 0 lo)).take (sIx items.size items.size hi-sIx items.size 0 lo)).toArray.size<=sizeLine;rw[aG,bK,cO,bR];lia
 have hj:sIx items.size items.size hi<=items.size:=zX3 _ _ (am _) hi;obtain⟨os,hos,hcs,hds⟩:=id hs;have hTs:s.TypeIs (.ref sl) "slice" :=⟨os,hos,hcs⟩;unfold getItem
 try with_reducible refine bI ?_
 first | refine aa (ak ?_) | skip
 refine aa (jR ht.typeIs (by decide) ?_);refine aa (bB (name:=bH "__getitem__") ht.typeIs bQ
  (bE bQ ht.typeIs entry_tuple_getitem ?_ (args_tuple_getitem _ _)))
 show wpAny _ _ (gK (.ref t) >>= _) _ _ s;refine aa (tupleItemsOf_ ht ?_);refine aa (wpAny_typeOf hTs ?_);rw[if_pos (by decide)];refine aa (zDq hs pl pu ?_);have hno:¬ ((((sIx items.size 0 lo:Nat):Int) == 0&&(1:Int) == 1&&(sIx items.size items.size hi-sIx items.size 0 lo) == items.size)=true):=by
  intro q;rw[aY,aY] at q;have q1:((sIx items.size 0 lo:Nat):Int)=0:=eq_of_beq q.1.1;have q2:sIx items.size items.size hi-sIx items.size 0 lo=items.size:=eq_of_beq q.2;exact hw ⟨by lia,by lia⟩
 show wpAny _ _ (if (((sIx items.size 0 lo:Nat):Int) == 0&&(1:Int) == 1&&(sIx items.size items.size hi-sIx items.size 0 lo) == items.size)=true then _ else _) _ _ s;rw[if_neg hno,zSi]
 first
  | exact aa (m:=bP _) (aW (ak ⟨_,rfl,ak h⟩) htake)
  | exact aa (m:=bP _) (aW (aa (ak (ak ⟨_,rfl,ak h⟩))) htake)
  | exact aa (aa (m:=bP _) (aW (ak (ak ⟨_,rfl,ak h⟩)) htake))
  | exact aa (aa (m:=bP _) (aW (ak ⟨_,rfl,ak h⟩) htake))
end
end HT

namespace L2
open PySem PySem.Spec PyProof.Rows

abbrev TO:=St->Hp->(Option Int->Hp->Prop)->Prop
def PO(X:Cx)(e:Option bj)(t:TO):Prop :=
 ∀(pins:List (ag×cA))(s:ai)(σ:St)(H:Hp)(Q:Option Int->Hp->Prop),Inv X pins σ H s->t σ H Q ->
  wpAny (model X.prog X.w) X.A (evalPart e X.env) (λu s'=>∃ o H',Inv X pins σ H' s'/\fP u o/\Q o H') X.xe s
def zWa:TO:=λ_ H Q=>Q none H
def tPart(t:TE):TO:=λσ H Q=>t σ H λx H1=>∃ i,x=.int i/\Q (some i) H1

section
variable{X:Cx}{e:bj}{te:TE}{lo hi:Option bj}{tl th:TO}{pos p2:fg}

theorem uZ:PO X none zWa:=by
 intro pins s σ H Q I h;rw[evalPart_none];exact ak ⟨none,H,I,.none,h⟩
theorem vY(h:PE X e te):PO X (some e) (tPart te):=by
 intro pins s σ H Q I hw;rw[evalPart_some];refine thn (h pins s σ H _ I hw) λu s1 ⟨x,H1,I1,r1,q1⟩=>?_;obtain⟨i,rfl,q⟩:=q1;obtain⟨t,rfl⟩:=r1;exact⟨some i,H1,I1,.int i t,q⟩

def SlR(X:Cx)(r:V->Option Int->Option Int->Hp->VK->Prop):Prop :=
 ∀(pins:List (ag×cA))(s:ai)(σ:St)(H:Hp)(x:V)(v vl vu:af)(lo hi:Option Int)(sl:ag)(Q:VK),Inv X pins σ H s->xI x v->s.heap.IsSliceOf sl vl vu .none->fP vl lo->fP vu hi->r x lo hi H Q ->
  ∃ T id,typeLookup (.type T) "__getitem__" = pure (some (.builtin id))/\s.TypeIs v T/\wpAny (model X.prog X.w) X.A (getItem v (.ref sl)) (EP X pins σ Q) X.xe s
def tSl(r:V->Option Int->Option Int->Hp->VK->Prop)(te:TE)(tl th:TO):TE:=λσ H Q=>te σ H λx H1=>tl σ H1 λl H2=>th σ H2 λu H3=>r x l u H3 Q
theorem uL{r:V->Option Int->Option Int->Hp->VK->Prop}(hr:SlR X r)(he:PE X e te)(hl:PO X lo tl)(hu:PO X hi th):PE X (.Subscript e (.Slice lo hi none p2) pos) (tSl r te tl th):=by
 intro pins s σ H Q I h;refine jy (thn (he pins s σ H _ I h) λv s1 ⟨x,H1,I1,r1,q1⟩=>?_);refine wpAny_Slice (thn (hl pins s1 σ H1 _ I1 q1) λvl s2 ⟨l,H2,I2,pl,q2⟩=>thn (hu pins s2 σ H2 _ I2 q2) λvu s3 ⟨u,H3,I3,pu,q3⟩=>?_);rw[evalPart_none];refine ak ?_;have I4:Inv X pins σ H3 { s3 with heap:=s3.heap.push { cls:=.type "slice", data:=.fields #[vl,vu,.none] } }:=I3.kept (t':=s3.toks) λb ob q=>ah _ q;obtain⟨T,id,hT,ht,hg⟩:=hr pins { s3 with heap:=s3.heap.push { cls:=.type "slice", data:=.fields #[vl,vu,.none] } } σ H3 x v vl vu l u s3.heap.objs.size Q I4 r1 (jz ..) pl pu q3;show wpAny (model X.prog X.w) X.A (subscriptTail e (.Slice lo hi none p2) v (.ref s3.heap.objs.size)) (EP X pins σ Q) X.xe { s3 with heap:=s3.heap.push { cls:=.type "slice", data:=.fields #[vl,vu,.none] } };exact tail_any (ops:=[.ref s3.heap.objs.size,v]) ht hT hg (by with_unfolding_all rfl)

def zKo(xs:List V)(lo hi:Option Int):List V:=(xs.drop (HT.sIx xs.length 0 lo)).take (HT.sIx xs.length xs.length hi-HT.sIx xs.length 0 lo)
theorem zEn(xs:List V)(lo hi:Option Int):(zKo xs lo hi).length<=xs.length:=by
 unfold zKo;rw[bK,cO];lia
def rSlT(K:ae):V->Option Int->Option Int->Hp->VK->Prop:=λx lo hi H Q=>∃ a xs,x=.ref a/\SqT K H a xs /\
 ¬ (HT.sIx xs.length 0 lo=0/\HT.sIx xs.length xs.length hi=xs.length)/\∀ p,H p=none->Q (.ref p) (upd H p (.tup (zKo xs lo hi)))
theorem zC8:SlR X (rSlT X.K):=by
 intro pins s σ H x v vl vu lo hi sl Q I rx hs pl pu h;obtain⟨a,xs,rfl,hx,hw,q⟩:=h;cases rx;obtain⟨its,r,ht,hz⟩:=I.tuple hx;have hlen:its.toArray.size=xs.length:=by rw[aG]; exact r.length.symm
 exists "tuple", _,bQ.lookup,ht.typeIs;refine HT.getItem_tuple_cut ht hs pl pu (by rw[hlen]; exact hw) ?_ (by rw[hlen]; exact hz);rw[hlen];refine⟨.ref s.heap.objs.size,_,I.laid (t':=s.toks) (o:=.tup (zKo xs lo hi)) (λb ob q=>ah _ q) (am _) ?_,rfl,q _ (I.hok.fresh (am _))⟩;exact⟨aO (zEn xs lo hi) hz,_,(r.drop (HT.sIx xs.length 0 lo)).take (HT.sIx xs.length xs.length hi-HT.sIx xs.length 0 lo),nB _ _⟩

end
end L2

namespace L2
open PySem PySem.Spec PyProof.Rows

def ixN(n:Nat)(i:Int):Option Nat:=if 0<=i then(if i<n then some i.toNat else none) else if -(n:Int)<=i then some (i+n).toNat else none
def atI{α:Type}(xs:List α)(i:Int):Option α:=(ixN xs.length i).bind λj=>xs[j]?
theorem zQ9{n:Nat}{i:Int}{j:Nat}(h:ixN n i=some j):seqIndex? i n=some j/\j<n/\-(n:Int)<=i/\i<n:=by
 unfold ixN at h;by_cases h0:0<=i
 ·rw[if_pos h0] at h;by_cases h1:i<n
  ·rw[if_pos h1] at h;have e:i.toNat=j:=aZ h;exact⟨by rw[seqIndex_of h0 h1,e],by lia,by lia,h1⟩
  ·rw[if_neg h1] at h; cases h
 ·rw[if_neg h0] at h;by_cases h1 : -(n:Int)<=i
  ·rw[if_pos h1] at h;have e:(i+n).toNat=j:=aZ h;exact⟨by rw[seqIndex_neg (by lia) h1,e],by lia,h1,by lia⟩
  ·rw[if_neg h1] at h; cases h
theorem zK1{α:Type}{xs:List α}{i:Int}{v:α}(h:atI xs i=some v):∃ j,seqIndex? i xs.length=some j/\xs[j]?=some v/\j<xs.length/\-(xs.length:Int)<=i/\i<xs.length:=by
 unfold atI at h;cases e:ixN xs.length i with
 | none=>rw[e] at h; cases h
 | some j =>
  rw[e] at h;obtain⟨h1,h2,h3,h4⟩:=zQ9 e;exact⟨j,h1,h,h2,h3,h4⟩
theorem zFk{α:Type}{xs:List α}{j:Nat}{v:α}(h:xs[j]?=some v):atI xs (j:Int)=some v:=by
 have hj:j<xs.length:=(ay.mp h).1;have e:ixN xs.length (j:Int)=some j:=by
  unfold ixN;rw[if_pos (by lia),if_pos (by lia)]; simp
 unfold atI; rw[e]; exact h
def zQw(b:bj):Prop:=∀ o i,subscripted b false o i=operate [o,i] (getItem o i)
def IxR(X:Cx)(r:R2):Prop :=
 ∀(value slice:bj)(pins:List (ag×cA))(s:ai)(σ:St)(H:Hp)(x y:V)(v u:af)(Q:VK),Inv X pins σ H s->xI x v->xI y u->r x y H Q ->
  subscripted slice false v u=operate [v,u] (getItem v u)->wpAny (model X.prog X.w) X.A (subscriptTail value slice v u) (EP X pins σ Q) X.xe s
def MtR(X:Cx)(id:String)(r:V->List V->Hp->VK->Prop):Prop :=
 ∀(pins:List (ag×cA))(s:ai)(σ:St)(H:Hp)(x:V)(xs:List V)(v:af)(us:List af)(Q:VK),Inv X pins σ H s->xI x v->yY xs us->r x xs H Q ->
  wpAny (model X.prog X.w) X.A (call (.builtin id) (v::us)) (EP X pins σ Q) X.xe s
section
variable{X:Cx}{a b:bj}{ta tb:TE}{pos:fg}
theorem zQi{r:R2}(hr:IxR X r)(ha:PE X a ta)(hb:PE X b tb)(hs:zQw b):PE X (.Subscript a b pos) (tOp r ta tb):=by
 intro pins s σ H Q I h;exact jy (zZm ha hb I h λv u s2 x y H2 I2 rx ry q=>hr a b pins s2 σ H2 x y v u Q I2 rx ry q (hs _ _))

def rIxL(K:ae):R2:=λx y H Q=>∃ p xs i v,x=.ref p/\y=.int i/\SqL K H p xs/\atI xs i=some v/\Q v H
def rIxT(K:ae):R2:=λx y H Q=>∃ p xs i v,x=.ref p/\y=.int i/\SqT K H p xs/\atI xs i=some v/\Q v H
def rIxS:R2:=λx y H Q=>∃ z i c,x=.str z/\y=.int i/\z.length<=sizeLine/\atI z.cps.toList i=some c/\Q (.str ⟨#[c]⟩) H
theorem zWm:IxR X (rIxL X.K):=by
 intro value slice pins s σ H x y v u Q I rx ry h hs;obtain⟨p,xs,i,z,rfl,rfl,hq,he,q⟩:=h;cases rx;obtain⟨t,rfl⟩:=ry;obtain⟨its,r,pl,hz⟩:=I.list hq;obtain⟨j,h1,h2,h3,h4,h5⟩:=zK1 he;obtain⟨w,ew,rw'⟩:=r.get h2;have hl:=r.length;have hn:=zGj;have fin:EP X pins σ Q w s:=⟨z,H,I,rw',q⟩;by_cases h0:0<=i
 ·have hj:i.toNat=j:=by
   rw[seqIndex_of h0 h5] at h1;exact aZ h1
  exact item_listR pl.isList h0 (by lia) (by rw[hj]; simpa using ew) fin hs
 ·have hj:(i+(its.toArray.size:Int)).toNat=j:=by
   rw[seqIndex_neg (by lia) h4] at h1;rw[aG,<- hl];exact aZ h1
  exact subscriptTail_builtinR (x:=w) pl.isList.typeIs slot_list_getitem.lookup
   (wpAny_getItem_list_neg (Q:=λr s'=>r=w/\EP X pins σ Q r s') pl.isList (by lia) (by rw[aG] <;> lia) (by lia) (by rw[hj]; simpa using ew) ⟨rfl,fin⟩) hs
theorem zYf:IxR X (rIxT X.K):=by
 intro value slice pins s σ H x y v u Q I rx ry h hs;obtain⟨p,xs,i,z,rfl,rfl,hq,he,q⟩:=h;cases rx;obtain⟨t,rfl⟩:=ry;obtain⟨its,r,pl,hz⟩:=I.tuple hq;obtain⟨j,h1,h2,h3,h4,h5⟩:=zK1 he;obtain⟨w,ew,rw'⟩:=r.get h2;have hl:=r.length;have hn:=zGj;have fin:EP X pins σ Q w s:=⟨z,H,I,rw',q⟩;exact subscriptTail_builtinR (x:=w) pl.typeIs slot_tuple_getitem.lookup
  (getItem_tuple (j:=j) (Q:=λr s'=>r=w/\EP X pins σ Q r s') pl (by lia) (by lia) (by rw[aG,<- hl]; exact h1) (by simpa using ew) ⟨rfl,fin⟩) hs
theorem zUo:IxR X rIxS:=by
 intro value slice pins s σ H x y v u Q I rx ry h hs;obtain⟨z,i,c,rfl,rfl,hz,he,q⟩:=h;obtain⟨t,rfl⟩:=rx;obtain⟨t',rfl⟩:=ry;obtain⟨j,h1,h2,h3,h4,h5⟩:=zK1 he;have hl:z.cps.toList.length=z.length:=by simp[Str.length]
 rw[hl] at h1 h4 h5;have hn:=zGj;exact tail_any (typeIs_str s z t) slot_str_getitem.lookup (getItem_str (c:=c) (by
  have e1:decide (i < -(2^63:Int))=false:=decide_eq_false (by lia);have e2:decide (i >= 2^63)=false:=decide_eq_false (by lia);rw[e1,e2,jo]) (by rw[h1]; simpa using h2) ⟨.str ⟨#[c]⟩,H,I.tok _,⟨_,rfl⟩,q⟩) hs
theorem zOe(its:List af)(n j:Nat)(u:af):bD (·.setIfInBounds j u) { cls:=.type "list", data:=.seq its.toArray n }={ cls:=.type "list", data:=.seq (its.set j u).toArray n }:=by
 simp[bD]
theorem Inv.lst{pins:List (ag×cA)}{σ:St}{H:Hp}{s:ai}{p:ag}{xs:List V}(I:Inv X pins σ H s)(h:H p=some (.lst xs)) :
  ∃(its:List af)(n:Nat),yY xs its/\s.heap.get? p=some { cls:=.type "list", data:=.seq its.toArray n }/\xs.length<=sizeLine:=by
 obtain⟨z,its,n,r,e⟩:=I.hok p _ h;exact⟨its,n,r,e,z⟩
theorem Inv.lstUpd{pins:List (ag×cA)}{σ:St}{H:Hp}{s:ai}{p:ag}{xs ys:List V}{its its':List af}{n n':Nat}{f:cA->cA}(I:Inv X pins σ H s)(h:H p=some (.lst xs))
  (ho:s.heap.get? p=some { cls:=.type "list", data:=.seq its.toArray n }) (hf:f { cls:=.type "list", data:=.seq its.toArray n }={ cls:=.type "list", data:=.seq its'.toArray n' }) (r:yY ys its') (hz:ys.length<=sizeLine) (t:Nat) :
  Inv X pins σ (upd H p (.lst ys)) { s with heap:=s.heap.update p f,toks:=t }:=by
 have e:(s.heap.update p f).get? p=some { cls:=.type "list", data:=.seq its'.toArray n' }:=by
  rw[cD f ho (by rw[hf] <;> rfl),hf]
 refine I.write (x:=p) (e:=p) (by rw[h]; trivial) (.inl rfl) (λb u hb q=>(aX _ _ (cw hb)).trans q) ⟨_,e⟩ ?_;exact⟨hz,its',n',r,e⟩
def rSetL:V->V->V->Hp->(Hp->Prop)->Prop:=λo i v H Q=>∃ p xs k j,o=.ref p/\i=.int k/\H p=some (.lst xs)/\ixN xs.length k=some j/\Q (upd H p (.lst (xs.set j v)))
theorem zRv:PSet X rSetL:=by
 intro pins s σ H o i v ov iv u Q I ro ri rv h;obtain⟨p,xs,k,j,rfl,rfl,hp,hj,q⟩:=h;cases ro;obtain⟨t,rfl⟩:=ri;obtain⟨its,n,r,ho,hz⟩:=I.lst hp;obtain⟨h1,h2,h3,h4⟩:=zQ9 hj;have hl:=r.length;have hn:=zGj;have I':Inv X pins σ (upd H p (.lst (xs.set j v))) { s with heap:=s.heap.update p (bD (·.setIfInBounds j u)) } :=
  I.lstUpd hp ho (zOe its n j u) (r.set rv j) (by rw[f7]; exact hz) s.toks
 by_cases h0:0<=k
 ·have hk:k.toNat=j:=by
   rw[seqIndex_of h0 h4] at h1;exact aZ h1
  exact PySem.W.ki_setAt ho h0 (by lia) (by rw[aG,<- hl]; exact h4) (by rw[hk]; exact⟨_,I',q⟩)
 ·have hk:(k+(its.toArray.size:Int)).toNat=j:=by
   rw[seqIndex_neg (by lia) h3] at h1;rw[aG,<- hl];exact aZ h1
  exact PySem.W.ki_setBack ho (by lia) (by rw[aG,<- hl]; exact h3) (by lia) (by rw[hk]; exact⟨_,I',q⟩)

theorem zJt(lo hi:Option Int)(n:Nat):(sliceBounds lo hi none n).1=((HT.sIx n 0 lo:Nat):Int)/\(sliceBounds lo hi none n).2.1=((HT.sIx n n hi:Nat):Int)/\(sliceBounds lo hi none n).2.2=1:=by
 refine⟨?_,?_,rfl⟩
 ·cases lo with
  | none=>simp[sliceBounds,HT.sIx]
  | some i =>
   simp only[sliceBounds,HT.sIx,ky,show(1:Int)>0 by decide,if_true];by_cases h:i<0
   ·simp only[h,if_true] <;> lia
   ·simp only[h,if_false] <;> lia
 ·cases hi with
  | none=>simp[sliceBounds,HT.sIx]
  | some i =>
   simp only[sliceBounds,HT.sIx,ky,show(1:Int)>0 by decide,if_true];by_cases h:i<0
   ·simp only[h,if_true] <;> lia
   ·simp only[h,if_false] <;> lia
theorem zH4(its:List af)(lo hi:Option Int):slicePick its.toArray lo hi none=((its.drop (HT.sIx its.length 0 lo)).take (HT.sIx its.length its.length hi-HT.sIx its.length 0 lo)).toArray:=by
 obtain⟨h1,h2,h3⟩:=zJt lo hi its.toArray.size;unfold slicePick;rw[h1,h2,h3];simp only[sliceRange_one,pick_run,aG] <;> rfl
def rSlL(K:ae):V->Option Int->Option Int->Hp->VK->Prop:=λx lo hi H Q=>∃ a xs,x=.ref a/\SqL K H a xs/\∀ p,H p=none->Q (.ref p) (upd H p (.lst (zKo xs lo hi)))
theorem zVm:SlR X (rSlL X.K):=by
 intro pins s σ H x v vl vu lo hi sl Q I rx hs pl pu h;obtain⟨a,xs,rfl,hx,q⟩:=h;cases rx;obtain⟨its,r,ht,hz⟩:=I.list hx;have hlen:=r.length;exists "list", _,slot_list_getitem.lookup,ht.isList.typeIs;refine wpAny_getItem_list_slice ht.isList hs pl pu .none (by simp) ?_ (by rw[aG] <;> lia);rw[zH4,<- hlen];refine⟨.ref s.heap.objs.size,_,I.laid (t':=s.toks) (o:=.lst (zKo xs lo hi)) (λb ob q=>ah _ q) (am _) ?_,rfl,q _ (I.hok.fresh (am _))⟩;exact⟨aO (zEn xs lo hi) hz,_,0,(r.drop (HT.sIx xs.length 0 lo)).take (HT.sIx xs.length xs.length hi-HT.sIx xs.length 0 lo),ap _ rfl⟩

def zHn:V->Bool
 | .non=>true
 | .bl _=>true
 | .int _=>true
 | .str _=>true
 | _=>false
def eqV:V->V->Bool
 | .non,.non=>true
 | .bl a,.bl b=>a == b
 | .bl a,.int b=>(if a then 1 else 0) == b
 | .int a,.bl b=>a ==(if b then 1 else 0)
 | .int a,.int b=>a == b
 | .str a,.str b=>a == b
 | _,_=>false
theorem zW9{A:bu}{s:ai}{y x:V}{u v:af}(ry:xI y u)(rx:xI x v)(fy:zHn y=true)(fx:zHn x=true):jA A s u v (eqV y x):=by
 cases y with
 | non =>
  cases ry;cases x with
  | non=>cases rx; exact SeqAt.EqAt.same _
  | bl b=>cases rx; exact SeqAt.EqAt.none_bool b
  | int b=>obtain⟨t,rfl⟩:=rx; exact SeqAt.EqAt.none_int b t
  | str b=>obtain⟨t,rfl⟩:=rx; exact SeqAt.EqAt.none_str b t
  | _=>exact absurd (show false=true from fx) aE
 | bl a =>
  cases ry;cases x with
  | non=>cases rx; exact SeqAt.EqAt.bool_none a
  | bl b=>cases rx; exact SeqAt.EqAt.bool_bool a b
  | int b=>obtain⟨t,rfl⟩:=rx; exact SeqAt.EqAt.bool_int a b t
  | str b=>obtain⟨t,rfl⟩:=rx; exact SeqAt.EqAt.bool_str a b t
  | _=>exact absurd (show false=true from fx) aE
 | int a =>
  obtain⟨t',rfl⟩:=ry;cases x with
  | non=>cases rx; exact SeqAt.EqAt.int_none a t'
  | bl b=>cases rx; exact SeqAt.EqAt.int_bool a t' b
  | int b=>obtain⟨t,rfl⟩:=rx; exact jB a t' b t
  | str b=>obtain⟨t,rfl⟩:=rx; exact js a t' b t
  | _=>exact absurd (show false=true from fx) aE
 | str a =>
  obtain⟨t',rfl⟩:=ry;cases x with
  | non=>cases rx; exact SeqAt.EqAt.str_none a t'
  | bl b=>cases rx; exact SeqAt.EqAt.str_bool a t' b
  | int b=>obtain⟨t,rfl⟩:=rx; exact jt a t' b t
  | str b=>obtain⟨t,rfl⟩:=rx; exact jC a t' b t
  | _=>exact absurd (show false=true from fx) aE
 | _=>exact absurd (show false=true from fy) aE
def eqU(x:V)(u:af):Bool:=match u with
 | .none=>eqV .non x
 | .bool b=>eqV (.bl b) x
 | .int i _=>eqV (.int i) x
 | .str z _=>eqV (.str z) x
 | _=>false
theorem zUz{x y:V}{u:af}(r:xI y u)(f:zHn y=true):eqU x u=eqV y x:=by
 cases y with
 | non=>cases r; rfl
 | bl b=>cases r; rfl
 | int i=>obtain⟨t,rfl⟩:=r; rfl
 | str z=>obtain⟨t,rfl⟩:=r; rfl
 | _=>exact absurd (show false=true from f) aE
theorem zLf{x:V} : ∀{xs:List V}{us:List af},yY xs us->xs.all zHn=true->us.any (eqU x)=xs.any λy=>eqV y x
 | _,_,.nil,_=>rfl
 | y::xs,u::us,.cons r t,f=>by
  rw[fh,aY] at f;rw[cH,cH,zUz r f.1,zLf t f.2]
theorem zHy{A:bu}{s:ai}{x:V}{v:af}(rx:xI x v)(fx:zHn x=true):∀{xs:List V}{us:List af},yY xs us->xs.all zHn=true->∀ u∈us,jA A s u v (eqU x u)
 | _,_,.nil,_=>λu hu=>by cases hu
 | y::xs,u::us,.cons r t,f=>λu' hu=>by
  rw[fh,aY] at f;rcases aI.mp hu with rfl | hu
  ·rw[zUz r f.1]; exact zW9 r rx f.1 fx
  ·exact zHy rx fx t f.2 u' hu
def inV(x:V)(xs:List V):Bool:=xs.any λy=>eqV y x
def rIn(K:ae)(neg:Bool):R2:=λx y H Q=>∃ p xs,y=.ref p/\(SqL K H p xs\/SqT K H p xs)/\zHn x=true/\xs.all zHn=true/\Q (.bl (if neg then !inV x xs else inV x xs)) H
theorem rL:OpR X (compareOp .In) (rIn X.K false):=by
 intro pins s σ H x y v u Q I rx ry h;obtain⟨p,xs,rfl,hq,fx,fs,q⟩:=h;cases ry;rcases hq with hq | hq
 ·obtain⟨its,r,pl,hz⟩:=I.list hq;refine SeqAt.in_listAt (eqU x) pl.isList (λw hw=>zHy rx fx r fs w (by simpa using hw)) ⟨.bl _,H,I,rfl,?_⟩;rw[show its.toArray.any (eqU x)=its.any (eqU x) by simp,zLf r fs];exact q
 ·obtain⟨its,r,pl,hz⟩:=I.tuple hq;refine kz (eqU x) pl (λw hw=>zHy rx fx r fs w (by simpa using hw)) ⟨.bl _,H,I,rfl,?_⟩;rw[show its.toArray.any (eqU x)=its.any (eqU x) by simp,zLf r fs];exact q
theorem xE:vV X (.builtin "len") (λxs H Q=>∃ p ys,xs=[.ref p]/\(SqL X.K H p ys\/SqT X.K H p ys)/\Q (.int ys.length) H):=by
 intro pins s σ H xs us Q I r h;obtain⟨p,ys,rfl,hq,q⟩:=h;obtain⟨u,rfl,rx⟩:=zNa r;cases rx;have hn:=zGj;rcases hq with hq | hq
 ·obtain⟨its,r',pl,hz⟩:=I.list hq;have hlen:=r'.length;exact Calls.call_len_list pl.isList (by simp only[aG] <;> lia) ⟨.int ys.length,H,I.tok _,⟨s.toks+1,by rw[aG,hlen]⟩,q⟩
 ·obtain⟨its,r',pl,hz⟩:=I.tuple hq;have hlen:=r'.length;exact len_tuple pl (by simp only[aG] <;> lia) ⟨.int ys.length,H,I.tok _,⟨s.toks+1,by rw[aG,hlen]⟩,q⟩
theorem zAe:vV X (.builtin "len") (λxs H Q=>∃ z,xs=[.str z]/\z.length<=sizeLine/\Q (.int z.length) H):=by
 intro pins s σ H xs us Q I r h;obtain⟨z,rfl,hz,q⟩:=h;obtain⟨u,rfl,t,rfl⟩:=zNa r;have hn:=zGj;exact len_str (by lia) ⟨.int z.length,H,I.tok _,⟨_,rfl⟩,q⟩
theorem vV.or{f:af}{r r':List V->Hp->VK->Prop}(h:vV X f r)(h':vV X f r'):vV X f (λxs H Q=>r xs H Q\/r' xs H Q):=by
 intro pins s σ H xs us Q I rs q;rcases q with q | q
 ·exact h pins s σ H xs us Q I rs q
 ·exact h' pins s σ H xs us Q I rs q
theorem zDe:vV X (.type "list") (λxs H Q=>∃ p ys,xs=[.ref p]/\(SqL X.K H p ys\/SqT X.K H p ys)/\∀ l,H l=none->Q (.ref l) (upd H l (.lst ys))):=by
 intro pins s σ H xs us Q I r h;obtain⟨p,ys,rfl,hq,q⟩:=h;obtain⟨u,rfl,rx⟩:=zNa r;cases rx;have fin:∀(its:List af),yY ys its->ys.length<=sizeLine->∀(h':aV)(c':Nat),(∀ b o',s.heap.get? b=some o'->h'.get? b=some o') ->
   h'.get? s.heap.objs.size=some { cls:=.type "list", dict:=none,data:=.seq its.toArray c',slots:=#[] }->EP X pins σ Q (.ref s.heap.objs.size) { s with heap:=h' }:=λits r' hz h' c' kp e =>
  ⟨.ref s.heap.objs.size,_,I.laid (t':=s.toks) kp (am _) (show xL X.prog X.w _ h' _ (.lst ys) from⟨hz,its,c',r',e⟩),rfl,q _ (I.hok.fresh (am _))⟩
 rcases hq with hq | hq
 ·obtain⟨its,r',pl,hz⟩:=I.list hq;have hlen:=r'.length;obtain⟨o,ho,hc,n,hd⟩:=pl.isList;exact call_list_seq p (.inl rfl) ho hc hd (λh' c' kp e=>fin its r' hz h' c' kp e) (by simp only[aG] <;> lia)
 ·obtain⟨its,r',pl,hz⟩:=I.tuple hq;have hlen:=r'.length;obtain⟨o,ho,hc,n,hd⟩:=pl;exact call_list_seq p (.inr rfl) ho hc hd (λh' c' kp e=>fin its r' hz h' c' kp e) (by simp only[aG] <;> lia)
def tyV(K:ae)(T:String)(x:V)(H:Hp):Prop:=match x with
 | .str _=>T = "str"
 | .int _=>T = "int"
 | .ref p=>(T = "list" /\ ∃ xs,SqL K H p xs)\/(T = "tuple" /\ ∃ o,K.lookup p=some o/\o.cls=.type "tuple" /\ o.dict=none) \/
   (T = "dict" /\ ((∃ kvs,H p=some (.dK kvs))\/∃ kvs,H p=some (.dT kvs)))\/(T = "set" /\ ∃ S n,H p=some (.set S n))
 | _=>False
theorem zXc{pins:List (ag×cA)}{σ:St}{H:Hp}{s:ai}{T:String}{x:V}{v:af}(I:Inv X pins σ H s)(r:xI x v)(ty:tyV X.K T x H) :
  s.TypeIs v T/\∀ a,v=.ref a->∃ ob,s.heap.get? a=some ob/\ob.dict=none:=by
 cases x with
 | str z =>
  obtain⟨t,rfl⟩:=r;cases (show T = "str" from ty);exact⟨typeIs_str s z t,λ_ e=>nomatch e⟩
 | int i =>
  obtain⟨t,rfl⟩:=r;cases (show T = "int" from ty);exact⟨typeIs_int s i t,λ_ e=>nomatch e⟩
 | ref p =>
  cases r;rcases ty with ⟨rfl,xs,hq⟩ | ⟨rfl,o,hk,hc,hd⟩ | ⟨rfl,hk⟩ | ⟨rfl,S,n,hk⟩
  ·obtain⟨its,_,pl,_⟩:=I.list hq;refine⟨pl.isList.typeIs,λa e=>?_⟩;cases e;obtain⟨o,n,e,c,hd,_⟩:=pl;exact⟨o,e,hd⟩
  ·refine⟨⟨o,I.kIn p o hk,hc⟩,λa e=>?_⟩;cases e;exact⟨o,I.kIn _ o hk,hd⟩
  ·have z:∃ o,s.heap.get? p=some o/\o.ExactDict:=by
    rcases hk with ⟨kvs,hk⟩ | ⟨kvs,hk⟩
    ·obtain⟨_,_,_,_,o,_,_,e,ex,_⟩:=I.hok p _ hk;exact⟨o,e,ex⟩
    ·obtain⟨_,_,_,_,o,_,_,e,ex,_⟩:=I.hok p _ hk;exact⟨o,e,ex⟩
   obtain⟨o,e,ex⟩:=z;refine⟨⟨o,e,ex.1⟩,λa e2=>?_⟩;cases e2;exact⟨o,e,ex.2.1⟩
  ·obtain⟨o,_,_,_,e,ex,_⟩:=I.hok p _ hk;refine⟨⟨o,e,ex.1⟩,λa e2=>?_⟩;cases e2;exact⟨o,e,ex.2.1⟩
 | _=>exact be ty
def tBM(K:ae)(T:String)(r:V->List V->Hp->VK->Prop)(to:TE)(t:TA):TE:=λσ H Q=>to σ H λx H1=>tyV K T x H1/\t σ H1 λxs H2=>r x xs H2 Q
variable{o e:bj}{es:List bj}{to:TE}{t:TA}{name:aC}{apos cpos:fg}{T id:String}{r:V->List V->Hp->VK->Prop}
theorem zVy(pa:PlainAttrs T)(slot:Slot T name id)(hty:typeOf (.builtin id)=pure (.type "method_descriptor"))(hm:MtR X id r)(ho:PE X o to)(ha:PA X (e::es) t)
  (hbase:attributeBase o name X.env (eval o X.env)=eval o X.env:=by rfl)
  (hfew:((backTo cpos (starEach (e::es) X.env)).all (λx=>!x.1)&&(backToKw cpos (keywordEach [] X.env)).all (λx=>x.1.isSome)
   && decide ((e::es).length+([]:List g6).length+(if ([]:List g6).isEmpty then 0 else 1)<30))=true:=by rfl)
  (hline:(apos.endLine == cpos.line)=true:=by rfl) (hs:starEach (e::es) X.env=(false,eval e X.env)::starEach es X.env:=by rfl) (hplain:(backTo cpos (starEach es X.env)).any (·.1)=false:=by rfl) :
  PE X (.Call (.Attribute o name apos) (e::es) [] cpos) (tBM X.K T r to t):=by
 intro pins s σ H Q I h;refine wpAny_Call_method_late hbase hfew hline rfl (thn (ho pins s σ H _ I h) λv s1 ⟨x,H1,I1,r1,ty,q1⟩=>?_);obtain⟨h1,h2⟩:=zXc I1 r1 ty;exists T,id,pa,slot,hty,h1,h2;have hA:=ha cpos pins s1 σ H1 _ I1 q1;rw[hs] at hA ⊢;refine iy (by show(false||(backTo cpos (starEach es X.env)).any (·.1))=false; rw[hplain] <;> rfl) (fV ?_);exact thn hA λus s2 ⟨vs,H2,I2,r2,q2⟩=>hm pins s2 σ H2 x vs v us Q I2 r1 r2 q2
end
end L2

namespace L2
open PySem PySem.Spec PyProof.Rows

def MtM(X:Cx)(id:String)(r:V->List V->Hp->VK->Prop):Prop :=
 ∀(pins:List (ag×cA))(s:ai)(σ:St)(H:Hp)(x:V)(xs:List V)(v:af)(us:List af)(Q:VK),Inv X pins σ H s->xI x v->yY xs us->r x xs H Q ->
  wpAny (model X.prog X.w) X.A (call (.builtin id) (v::us)) (EP X pins σ Q) X.xe s

theorem yY.one:∀{x:V}{us:List af},yY [x] us->∃ u,us=[u]/\xI x u
 | _,_,.cons r .nil=>⟨_,rfl,r⟩
theorem yY.two:∀{x y:V}{us:List af},yY [x,y] us->∃ u v,us=[u,v]/\xI x u/\xI y v
 | _,_,_,.cons r (.cons q .nil)=>⟨_,_,rfl,r,q⟩
section
variable{X:Cx}{pins:List (ag×cA)}{σ:St}{H:Hp}{s:ai}{l b:ag}{xs ys zs:List V}

theorem Inv.lset{its its':List af}{n:Nat}{f:Array af->Array af}{t':Nat}(I:Inv X pins σ H s)(hH:H l=some (.lst xs))
  (e:s.heap.get? l=some { cls:=.type "list", data:=.seq its.toArray n }) (hf:f its.toArray=its'.toArray) (hv:yY ys its') (hz:ys.length<=sizeLine) :
  Inv X pins σ (upd H l (.lst ys)) { s with heap:=s.heap.update l (bD f),toks:=t' }:=by
 have q:=PySem.IsL.update e f;rw[hf] at q;refine I.write (x:=l) (e:=l) (by rw[hH]; exact trivial) (.inl rfl) (λb' u hb hu=>(aX s.heap (bD f) (cw hb)).trans hu) ⟨_,q⟩ ?_;exact⟨hz,its',_,hv,q⟩
theorem Inv.lnew{its:List af}{t':Nat}(I:Inv X pins σ H s)(hv:yY ys its)(hz:ys.length<=sizeLine) :
  Inv X pins σ (upd H s.heap.objs.size (.lst ys)) { s with heap:=s.heap.push { cls:=.type "list", data:=.seq its.toArray },toks:=t' } :=
 I.laid (λ_ _ q=>ah _ q) (am _) ⟨hz,its,0,hv,ap _ rfl⟩
theorem Inv.fresh(I:Inv X pins σ H s):H s.heap.objs.size=none:=I.hok.fresh (am _)
theorem Inv.lstM(I:Inv X pins σ H s)(hH:H l=some (.lst xs)):xs.length<=sizeLine/\∃(its:List af)(n:Nat),yY xs its/\xs.length=its.length/\s.heap.get? l=some { cls:=.type "list", data:=.seq its.toArray n }:=by
 obtain⟨z,its,n,r,e⟩:=I.hok l _ hH;exact⟨z,its,n,r,r.length,e⟩

theorem zSv{n:Nat}(h:n<=sizeLine):fi n=false:=by
 unfold fi;exact decide_eq_false (by lia)
end

section
variable{X:Cx}

def zPw:V->List V->Hp->VK->Prop:=λx vs H Q=>∃ l xs y,x=.ref l/\vs=[y]/\H l=some (.lst xs)/\xs.length<sizeLine/\Q .non (upd H l (.lst (xs++[y])))
theorem zEz:MtM X "list.append" zPw:=by
 intro pins s σ H x vs v us Q I rx rv h;obtain⟨l,xs,y,rfl,rfl,hH,hz,q⟩:=h;cases rx;obtain⟨u,rfl,ru⟩:=rv.one;obtain⟨z,its,n,r,hl,e⟩:=I.lstM hH;refine call_meets F.slot_list_append ⟨_,e,rfl⟩ F.entry_list_append (F.args_list_append_2 _ _) (PySem.list_append l its.toArray n u (by rw[aG]; lia)) ⟨e,?_⟩;refine⟨.non,_,I.lset (its':=its++[u]) hH e (by simp) (r.append (.cons ru .nil)) ?_,rfl,q⟩;rw[al,bq];lia

def zWb:V->List V->Hp->VK->Prop:=λx vs H Q=>∃ l b xs zs,x=.ref l/\vs=[.ref b]/\H l=some (.lst xs)/\H b=some (.lst zs)/\xs.length+zs.length<=sizeLine/\Q .non (upd H l (.lst (xs++zs)))
theorem zYs:MtM X "list.extend" zWb:=by
 intro pins s σ H x vs v us Q I rx rv h;obtain⟨l,b,xs,zs,rfl,rfl,hH,hB,hz,q⟩:=h;cases rx;obtain⟨u,rfl,ru⟩:=rv.one;cases ru;obtain⟨z,its,n,r,hl,e⟩:=I.lstM hH;obtain⟨z2,its2,n2,r2,hl2,e2⟩:=I.lstM hB;have hsz:its.toArray.size+its2.toArray.size<=sizeLine:=by rw[aG,aG]; lia
 have hlong:¬ (!its.toArray.isEmpty&&fi (its.toArray.size+its2.toArray.size))=true:=by
  rw[zSv hsz,lB];exact aE
 refine call_meets F.slot_list_extend ⟨_,e,rfl⟩ F.entry_list_extend (F.args_list_extend_2 _ _)
  (AutoSeq1.list_extend_list_list_0 l its.toArray n b its2.toArray n2 hlong (by rw[aG]; lia) (by lia)) ⟨e,e2,?_⟩
 refine⟨.non,_,I.lset (its':=its++its2) hH e (by simp) (r.append r2) ?_,rfl,q⟩;rw[al];lia

def rCat:R2:=λx y H Q=>∃ l b xs zs,x=.ref l/\y=.ref b/\H l=some (.lst xs)/\H b=some (.lst zs)/\xs.length+zs.length<=sizeLine/\∀ p,H p=none->Q (.ref p) (upd H p (.lst (xs++zs)))
theorem tD:OpR X (binaryOp .Add) rCat:=by
 intro pins s σ H x y v u Q I rx ry h;obtain⟨l,b,xs,zs,rfl,rfl,hH,hB,hz,q⟩:=h;cases rx;cases ry;obtain⟨z,its,n,r,hl,e⟩:=I.lstM hH;obtain⟨z2,its2,n2,r2,hl2,e2⟩:=I.lstM hB;refine PySem.P.add_list e e2 ?_ (by rw[aG,aG]; lia);have ea:its.toArray++its2.toArray=(its++its2).toArray:=by simp
 rw[ea];exact⟨.ref _,_,I.lnew (t':=s.toks) (r.append r2) (by rw[al]; lia),rfl,q _ I.fresh⟩
end


end L2

namespace Att
open PySem PySem.W PySem.Calls PyProof.Rows

theorem zFo{P:eE}{h:aV} : ∀(ns:List Int)(vs:List af),WellAll P h vs (ns.map nC)->lu vs ns:=by
 intro ns
 induction ns with
 | nil =>
  intro vs w;rw[eW] at w;cases w;exact .nil
 | cons n ns ih =>
  intro vs w;rw[aM] at w;cases w with
  | cons a b =>
   cases a;exact .cons _ _ (ih _ b)

theorem zPo{l:iM}{n:Nat}(hn:l.most=some n){P:eE}{h:aV}{args:List WData}{vals:List af}
  (hpre:l.row.toRowW.claim.pre args=true) (hwl:WellAll P h vals args) :
  ∃ a vs ns,vals=[aK a]/\args=[WData.list (ns.map nC)]/\h.get? a=some { cls:=.type "list", data:=.seq vs.toArray }/\lu vs ns/\ns.length<=n:=by
 have hsh:WShape.hasAll [] args [.list .int]=true:=(pre_splitW hpre).1;have hc:l.pre.holds [] { args:=args }=true:=(pre_splitW hpre).2;obtain⟨d,r,rfl,h1,h2⟩:=hasAllW_cons hsh;obtain rfl:=hasAllW_nil h2;obtain⟨xs,rfl,h3⟩:=hasW_list h1;obtain⟨ns,rfl⟩:=items_int h3;have hlen:ns.length<=n:=by
  unfold OpenLaw.pre at hc;have h4:(WTm.not (.lt (.lit (.int (n:Int))) (.len (.arg 0)))).holds [] { args:=[.list (ns.map .int)] }=true:=by
   have h4:=(holds_andW hc).1;rw[hn] at h4;exact h4
  have h5:=condW_of h4 (w_not (w_lt w_lit (w_len_list (w_arg rfl))));rw[ac] at h5;refine kA λq=>?_;have q':(n:Int)<((ns.length:Nat):Int):=by lia
  first
   | (rw[decide_eq_true q'] at h5; exact absurd h5 (by decide))
   | (simp at h5; lia)
 cases hwl with
 | cons w1 w2 =>
  cases w2;cases w1 with
  | list ho hall=>exact⟨_,_,ns,rfl,rfl,ho,zFo ns _ hall,hlen⟩

theorem zQh(l:iM)(args:List WData):l.row.toRowW.claim.post args (.bool true) args=true :=
 postW_of (r:=l.row.toRowW) (X:=(true == true))
  (show nq [] (.bool true) .bool=true by first | rfl | decide | simp[nq,WShape.arms,WShape.armsAll])
  (show(WTm.eq .res (.lit (.bool true))).value [] { args:=args,res:=some (.bool true),after:=args }=some (.bool (true == true)) from w_eq_bool (w_res rfl) w_lit) rfl

theorem attach_call{l:iM}{n:Nat}{q:aL}{loose:List aC}{XP:(aC->Option af)->aV->Prop}{YP:aT->aV->Prop}{d:DefRec}
  (hn:l.most=some n) (hdf:d.params.defaults=[])
  (call:∀(w:aT)(s₀ s₁:ai)(mg mb:aC->Option af)(fa:ag)(o:cA)(pm cd doc:af)(a:ag)(vs:List af)(ns:List Int),
   Ground q loose [] XP w s₀ mg mb s₁.heap->YP w s₁.heap ->
   s₁.heap.get? fa=some o->o.data=.func (docDef d.name d.params d.body d.scope pm cd doc)->s₁.heap.CodeRec cd d.name->mg d.name=some (.ref fa) ->
   s₁.heap.get? a=some { cls:=.type "list", data:=.seq vs.toArray }->lu vs ns->ns.length<=n->s₁.gens = #[] ->
   codeAny (model l.prog w) callerA (.call (.ref fa) ⟨[.ref a],[]⟩) (λr s'=>r=.ok (.ret (.bool true))/\OldK s₁.heap s'.heap/\s'.os=s₁.os/\gr s'.gens) s₁) :
  mH q loose XP YP l.row.toRowW d [] (λf vs=>lC f vs):=by
 intro w s₀ s₁ mg mb G Y fa o pm cd doc dV kV ho hd hcd hD hmg hg args vals as hpre hlay hrd hwl hlo;obtain rfl:dV=.none:=Dflts.none hD hdf;obtain rfl:kV=.none:=Dflts.noKw hD;obtain⟨a,vs,ns,rfl,rfl,hobj,hints,hlen⟩:=zPo hn hpre hwl;refine enter_call (codeAny_mono (call w s₀ s₁ mg mb fa o pm cd doc a vs ns G Y ho (fd_plain hd) hcd hmg hobj hints hlen hg) λr s' hq=>?_);obtain⟨rfl,h2,h3,h4⟩:=hq;exact⟨.inl ⟨.bool true,.bool true,[],rfl,λ_=>rfl,.bool true,zQh l _,λ_=>⟨ny,λ_ hm=>(nomatch hm)⟩⟩,h2,h3,h4⟩

section
variable{prog:aL}{w:aT}{A:bu}{E:af->ai->Prop}{s:ai}{K:ae}

end
end Att

namespace L2
open PySem PySem.Spec PyProof.Rows

theorem zI7:∀{vs:List af}{ns:List Int},lu vs ns->yY (ns.map V.int) vs
 | _,_,.nil=>.nil
 | _,_,.cons n t h=>.cons ⟨t,rfl⟩ (zI7 h)

def Only(H:Hp):Prop:=∀ b,H b=none\/∃ o xs,H b=some (.frz o (.lst xs))

theorem zSd{P:aL}{w:aT}{K:ae}{mg mb:aC->Option af}{CX:CXT}{k:Nat}{fa a:ag}{fd:bJ}{x:aC}{sp:Sp}{s₁:ai}{vs:List af}{ns:List Int}
  (KX:K.In s₁.heap) (hns:s₁.heap.Ns mainGlobals mg) (hb:s₁.heap.Ns builtinsNs mb) (hbb:∀ x:aC,x ≠ "__name__" -> mb x=bootBuiltins x) (hlim:s₁.heap.NoLimit) (hg:s₁.gens = #[])
  (ha:s₁.heap.get? a=some { cls:=.type "list", data:=.seq vs.toArray }) (hi:lu vs ns) (hl:ns.length<=sizeLine) (hr:rN k callerA)
  (F:∀ base:aV,K.In base->base.Ns mainGlobals mg->xJ P w K mg base CX k fa fd [x] sp) (hbind:∀(s:ai)(u:af),ix s fd ⟨[u],[]⟩ [(x,u)])
  (hsp:∀ H:Hp,Only H->SqL K H a (ns.map V.int)->sp [.ref a] H (λv _=>v=.bl true) λ_ _ _=>False)
  (hCX:∀ H e s',CX [] H s₁ (λ_ _ _=>False) e s'->False) :
  codeAny (model P w) callerA (.call (.ref fa) ⟨[.ref a],[]⟩) (λr s'=>r=.ok (.ret (.bool true))/\OldK s₁.heap s'.heap/\s'.os=s₁.os/\gr s'.gens) s₁:=by
 have rv:=zI7 hi;have lenV:=hi.length;have core:∀ H:Hp,Only H->SqL K H a (ns.map V.int)->HOk P w H s₁.heap->(∀ b,H b≠none->b=a)->(H a≠none->K.lookup a=none) ->
   codeAny (model P w) callerA (.call (.ref fa) ⟨[.ref a],[]⟩) (λr s'=>r=.ok (.ret (.bool true))/\OldK s₁.heap s'.heap/\s'.os=s₁.os/\gr s'.gens) s₁:=by
  intro H hO hS hok hA hK;have base_of:∀{b:ag}{o:cA},s₁.heap.get? b=some o->H b=none->(zSn s₁.heap H).get? b=some o:=λe n=>zSc e n;have noA:∀{b:ag}{o:cA}{es:Array dn}{ep:Nat},s₁.heap.get? b=some o->o.data=.dict es ep->H b=none:=λ{b o es ep} e d=>by
   cases q:H b with
   | none=>rfl
   | some u =>
    have e':b=a:=hA b (by rw[q]; simp);subst e';rw[ha] at e; cases e;have d':Data.seq vs.toArray _=Data.dict es ep:=d;cases d'
  have nsK:∀{b:ag}{m:aC->Option af},s₁.heap.Ns b m->(zSn s₁.heap H).Ns b m:=λ{b m} ⟨o,es,ep,e,d,r⟩=>⟨o,es,ep,base_of e (noA e d),d,r⟩;have hKb:K.In (zSn s₁.heap H):=λb o e=>base_of (KX b o e) (by
   cases q:H b with
   | none=>rfl
   | some u =>
    have e':b=a:=hA b (by rw[q]; simp);subst e';rw[hK (by rw[q]; simp)] at e; cases e)
  have hM:Mod K mg (zSn s₁.heap H):=⟨hKb,nsK hns,⟨mb,nsK hb,hbb⟩,let ⟨mc,h1,h2⟩:=hlim;⟨mc,nsK h1,h2⟩⟩;have e0:zS0 P w K mg (zSn s₁.heap H) callerA [] s₁ H:=⟨rfl,hM,λb o e=>zVl e,iu (zQv _ _),trivial,λb hb=>absurd (show b∈([]:List ag) from hb) (by simp),hok,.of_eq hg⟩;refine codeAny_mono ((F _ hKb (nsK hns)).run callerA [] s₁ H ⟨[.ref a],[]⟩ [.ref a] [.ref a] _ _ hr e0 (hbind s₁ (.ref a)) (.cons rfl .nil) (hsp H hO hS)) λr s' h=>?_;cases r with
  | error e=>exact(hCX H e s' h).elim
  | ok fl =>
   cases fl with
   | next=>exact be h
   | brk=>exact be h
   | cont=>exact be h
   | ret u =>
    obtain⟨v,H',os,bare,un,hok',r',q⟩:=h;have q':v=.bl true:=q;subst q';obtain rfl:u=iq true:=r';refine⟨rfl,OldK.of_keep λb o e=>?_,os,bare⟩;cases q:H b with
    | none=>exact un.keep b o e q (by intro z; exact absurd (show b∈([]:List ag) from z) (by simp)) (by simp)
    | some u =>
     rcases hO b with z | ⟨ob,xs,z⟩
     ·rw[q] at z; cases z
     ·have z2:=un.frzs b ob _ z;obtain⟨e1,_⟩:=hok b _ z;obtain⟨e2,_⟩:=hok' b _ z2;rw[e] at e1; cases e1;exact e2
 cases hk:K.lookup a with
 | some o =>
  have e:=KX a o hk;rw[ha] at e;cases e;refine core (λ_=>none) (λ_=>.inl rfl) (.inr ⟨_,vs.toArray,_,hk,rfl,rfl,rfl,by rw[aG,lenV]; exact hl,by simpa using rv⟩) (λb u z=>by have z':(none:Option HO)=some u:=z; cases z') (λb z=>absurd rfl z) λz=>absurd rfl z
 | none =>
  refine core (λb=>if b=a then some (.frz { cls:=.type "list", data:=.seq vs.toArray } (.lst (ns.map V.int))) else none) (λb=>?_) (.inl (.inr ⟨{ cls:=.type "list", data:=.seq vs.toArray },if_pos rfl⟩)) (λb u z=>?_) (λb z=>?_) λ_=>hk
  ·by_cases hb:b=a
   ·exact .inr ⟨_,_,if_pos hb⟩
   ·exact .inl (if_neg hb)
  ·by_cases hb:b=a
   ·have z':=(if_pos hb).symm.trans z;cases z';subst hb;exact⟨ha,by rw[ac]; exact hl,vs,_,rv,ha⟩
   ·have z':=(if_neg hb).symm.trans z;cases z'
  ·by_cases hb:b=a
   ·exact hb
   ·exact absurd (if_neg hb) z
end L2

namespace L2
open PySem PySem.Spec PyProof.Rows

end L2

namespace L2
open PySem PySem.Spec PyProof.Rows


abbrev CX0:CXT:=λ_ _ _ _ _ _=>False
abbrev E0:XK:=λ_ _ _=>False
theorem zRb{X:Cx} : zJw CX0 X E0:=λ_ _ _ _ _ _ _ h=>h.elim

structure Fun(K:ae)(x qual:aC)(st:bN)(f:ag)(fd:bJ):Prop where
 ex:∃(oc:af)(od:Option ag)(kV doc pm:af)(an:Option ag)(cdv ct:af)(osl:Array (Option af)),
  fd=bG x qual (wA st) (xK st) (zI st) .none kV doc pm an cdv ct/\K.lookup f=some ⟨oc,od,.func fd,osl⟩/\eO K cdv qual=true
 kp:bO K (.ref f)=true
section
variable{P:aL}{w:aT}{K:ae}{mg:aC->Option af}{base:aV}
theorem Fun.ok{x qual:aC}{st:bN}{f:ag}{fd:bJ}{N ps:List aC}{k:Nat}{sp:Sp}(F:Fun K x qual st f fd)(S:zO N ps (zI st))(len:∀ vs H Q E,sp vs H Q E->vs.length=ps.length)
  (hbody:∀(cdv:af)(A:bu)(outer:List gf)(s:ai)(H:Hp)(vs:List V)(Q:VK)(E:XK),rN k (A.deeper (envOfC qual (zI st) s.heap.objs.size f cdv))->sp vs H Q E ->
   ∃ t,PSs (cxOf CX0 P w K mg base N qual (zI st) f cdv A outer s H E).nox (xK st) t/\t { nx:=λ_ H'=>Q .non H',rt:=Q } (start N vs) H):xJ P w K mg base CX0 (k+1) f fd ps sp:=by
 obtain⟨oc,od,kV,doc,pm,an,cdv,ct,osl,rfl,lk,hcd⟩:=F.ex;refine zZe lk hcd S len λA outer s H vs Q E hr hsp=>?_;obtain⟨t,h,q⟩:=hbody cdv A outer s H vs Q E hr hsp;exact⟨t,h.nox,q⟩
theorem Fun.binds{x qual:aC}{st:bN}{f:ag}{fd:bJ}{ps:List aC}(F:Fun K x qual st f fd)
  (h:∀(kV doc pm:af)(an:Option ag)(cdv ct:af)(us:List af),us.length=ps.length->bindArgs (bG x qual (wA st) (xK st) (zI st) .none kV doc pm an cdv ct) ⟨us,[]⟩=pure (ps.zip us)):zBl K fd ps []:=by
 obtain⟨oc,od,kV,doc,pm,an,cdv,ct,osl,rfl,lk,hcd⟩:=F.ex;exact .all (h kV doc pm an cdv ct)
theorem zPb{x qual:aC}{st:bN}{f:ag}{oc:af}{od an:Option ag}{osl:Array (Option af)}{kV doc pm cdv ct:af}(l:K.lookup f=some ⟨oc,od,.func (bG x qual (wA st) (xK st) (zI st) .none kV doc pm an cdv ct),osl⟩)
  (c:eO K cdv qual=true) (k:bO K (.ref f)=true):Fun K x qual st f (bG x qual (wA st) (xK st) (zI st) .none kV doc pm an cdv ct):=⟨⟨oc,od,kV,doc,pm,an,cdv,ct,osl,rfl,l,c⟩,k⟩
end
theorem zV{A:bu}{k:Nat}(hr:rN k A):A.units+1<cLine:=gL (Nat.add_le_add_left (by decide:1<=64) _) hr.units
theorem zT{n:Nat}(h:n<=1000):n<sizeLine:=gL h (by decide)

section
variable{X:Cx}
theorem pv(i:Nat){x:aC}{pos:fg}(hN:X.N[i]?=some x:=by rfl)(hv:Vis X.env.scope x:=by first | exact dj rfl | exact kB (dj rfl) | exact kB (kB rfl))(hd:(x ==("__debug__" : aC))=false:=by decide)
  (hcd:(x ==("__classdict__" : aC))=false:=by decide):PE X (.Name x pos) (zWy i):=zXw hN hv hd hcd
end

theorem yR{A B:Prop}(h:B):if false=true then A else B:=by
 rw[if_neg aE];exact h
theorem wM{A B:Prop}(h:A):if true=true then A else B:=by
 rw[if_pos rfl];exact h
theorem ite2{c A B:Prop}[Decidable c](h1:c->A)(h2:¬ c->B):if c then A else B:=by
 by_cases h:c
 ·rw[if_pos h];exact h1 h
 ·rw[if_neg h];exact h2 h
def Same(H H':Hp):Prop:=∀ b o,H b=some o->H' b=some o
theorem Same.refl(H:Hp):Same H H:=λ_ _ h=>h
theorem Same.trans{H H1 H2:Hp}(a:Same H H1)(b:Same H1 H2):Same H H2:=λc o h=>b c o (a c o h)
theorem Same.free{H H':Hp}(e:Same H H'){l:ag}(h:H' l=m9):H l=m9:=by
 cases q:H l with
 | none=>rfl
 | some o =>
  rw[e l o q] at h;cases h
theorem Same.seq{K:ae}{H H':Hp}{a:ag}{xs:List V}(e:Same H H')(h:SqL K H a xs):SqL K H' a xs:=by
 rcases h with (h | ⟨o,h⟩) | h
 ·exact .inl (.inl (e _ _ h))
 ·exact .inl (.inr ⟨o,e _ _ h⟩)
 ·exact .inr h

end L2

namespace Sea
def rY(ns:List Int):Nat:=ns.foldl (λg n=>eX g n.natAbs) 0
theorem zMg:∀(ns:List Int)(g:Nat),ns.foldl (λg n=>eX g n.natAbs) g ∣ g/\∀ n∈ns,ns.foldl (λg n=>eX g n.natAbs) g ∣ n.natAbs
 | [],g=>⟨Nat.dvd_refl g,λ_ h=>nomatch h⟩
 | x::r,g=>by
  obtain⟨h1,h2⟩:=zMg r (eX g x.natAbs);refine⟨my h1 (Nat.gcd_dvd_left _ _),λn hn=>?_⟩;rcases aI.mp hn with e | e
  ·rw[e];exact my h1 (Nat.gcd_dvd_right _ _)
  ·exact h2 n e
theorem zB0{ns:List Int}{n:Int}(h:n∈ns):rY ns ∣ n.natAbs:=(zMg ns 0).2 n h
theorem rE{ns:List Int}{n:Int}(h:n∈ns):(rY ns:Int) ∣ n:=Int.ofNat_dvd_left.mpr (zB0 h)
theorem zM4{d:Nat} : ∀(ns:List Int)(g:Nat),d ∣ g->(∀ n∈ns,d ∣ n.natAbs)->d ∣ ns.foldl (λg n=>eX g n.natAbs) g
 | [],_,h,_=>h
 | x::r,g,h,hr=>zM4 r _ (Nat.dvd_gcd h (hr x ck)) λn hn=>hr n (bz _ hn)
theorem zSt{d:Nat}{ns:List Int}(h:∀ n∈ns,d ∣ n.natAbs):d ∣ rY ns:=zM4 ns 0 (Nat.dvd_zero d) h
theorem zG5{ns:List Int}{n:Int}(h:n∈ns)(h0:n≠0):0<rY ns:=by
 rcases Nat.eq_zero_or_pos (rY ns) with e | e
 ·have q:=zB0 h;rw[e,Nat.zero_dvd] at q;lia
 ·exact e
def zOo(ns:List Int):List Int:=ns.map λn=>n/(rY ns:Int)
theorem qE{ns:List Int}{n:Int}(h:n∈ns):n/(rY ns:Int)*(rY ns:Int)=n:=Int.ediv_mul_cancel (rE h)
theorem zJl{ns:List Int}(h:0<rY ns):rY (zOo ns)=1:=by
 have key:rY ns*rY (zOo ns) ∣ rY ns:=by
  refine zSt λn hn=>?_;have h1:rY (zOo ns) ∣ (n/(rY ns:Int)).natAbs:=zB0 (aD.mpr ⟨n,hn,rfl⟩);obtain⟨c,hc⟩:=h1;have h2:=congrArg Int.natAbs (qE hn);rw[lE,Int.natAbs_natCast,hc] at h2;rw[<- h2];exact⟨c,by rw[Nat.mul_comm,mz]⟩
 obtain⟨c,hc⟩:=key;have h3:rY ns*(rY (zOo ns)*c)=rY ns*1:=by
  rw[<- mz,<- hc,Nat.mul_one]
 have h4:=Nat.eq_of_mul_eq_mul_left h h3;exact Nat.dvd_one.mp ⟨c,h4.symm⟩
theorem zL8(x y:Int):rY [x,y]=eX x.natAbs y.natAbs:=by
 show eX (eX 0 x.natAbs) y.natAbs=_;rw[Nat.gcd_zero_left]
end Sea
namespace Sea
structure zUg(t b x y:Int):Prop where
 pos:1<=y
 low:eX x.natAbs y.natAbs=1
 eq:x*b=y*t
 xle:x.natAbs<=t.natAbs
 yle:y.natAbs<=b.natAbs
theorem rM(n:Int){g:Int}(hg:0<g)(h:g ∣ n):(n/g).natAbs<=n.natAbs:=by
 obtain⟨c,hc⟩:=h;subst hc;rw[Int.mul_ediv_cancel_left c (by lia),lE];exact Nat.le_mul_of_pos_left _ (by lia)
theorem zW0(t:Int){b:Int}(hb:b≠0):∃ x y:Int,(zOo (if b<0 then [t,b].map (λn=>-n) else [t,b]))=[x,y]/\zUg t b x y:=by
 have key:∀(t b:Int),0<b->∃ x y:Int,zOo [t,b]=[x,y]/\zUg t b x y:=λt b hb=>by
  have gp:0<rY [t,b]:=zG5 (n:=b) (by simp) (by lia);have e1:=qE (ns:=[t,b]) (n:=t) (by simp);have e2:=qE (ns:=[t,b]) (n:=b) (by simp);have gI:(0:Int)<(rY [t,b]:Int):=by lia
  refine⟨t/(rY [t,b]:Int),b/(rY [t,b]:Int),rfl,?_,?_,?_,rM t gI (rE (by simp)),rM b gI (rE (by simp))⟩
  ·exact Int.ediv_pos_of_pos_of_dvd hb (iz gI) (rE (by simp))
  ·have h3:=zJl gp;rw[<- zL8];exact h3
  ·generalize (rY [t,b]:Int)=g at e1 e2
   calc t/g*b=t/g*(b/g*g):=by rw[e2]
    _=b/g*(t/g*g):=by rw[<- dQ,<- dQ,mU (t/g)]
    _=b/g*t:=by rw[e1]
 by_cases h:b<0
 ·rw[if_pos h];obtain⟨x,y,e,p⟩:=key (-t) (-b) (by lia);refine⟨x,y,e,p.pos,p.low,?_,by have:=p.xle; lia,by have:=p.yle; lia⟩;have q:=p.eq;rw[kR,kR] at q;lia
 ·rw[if_neg h];exact key t b (by lia)
end Sea
namespace Sea
end Sea
namespace Sea
theorem dir_low{X Y:Int}(h:X≠0\/Y≠0):∃ x y:Int,zOo [X,Y]=[x,y]/\0<rY [X,Y]/\(rY [X,Y]<=X.natAbs\/rY [X,Y]<=Y.natAbs)/\eX x.natAbs y.natAbs=1/\x*Y-y*X=0/\0<x*X+y*Y/\x.natAbs<=X.natAbs/\y.natAbs<=Y.natAbs:=by
 have gp:0<rY [X,Y]:=by
  rcases h with h | h
  ·exact zG5 (n:=X) (by simp) h
  ·exact zG5 (n:=Y) (by simp) h
 have gI:(0:Int)<(rY [X,Y]:Int):=by lia
 have e1:=qE (ns:=[X,Y]) (n:=X) (by simp);have e2:=qE (ns:=[X,Y]) (n:=Y) (by simp);refine⟨X/(rY [X,Y]:Int),Y/(rY [X,Y]:Int),rfl,gp,?_,?_,?_,?_,rM X gI (rE (by simp)),rM Y gI (rE (by simp))⟩
 ·rcases h with h | h
  ·exact .inl (mC (by lia) (zB0 (by simp)))
  ·exact .inr (mC (by lia) (zB0 (by simp)))
 ·rw[<- zL8];exact zJl gp
 ·generalize (rY [X,Y]:Int)=g at e1 e2;generalize X/g=x at e1;generalize Y/g=y at e2;rw[<- e1,<- e2,<- dQ,<- dQ,mU x y];lia
 ·generalize (rY [X,Y]:Int)=g at e1 e2 gI;have f1:0<=X/g*X:=by
   have:X/g*X=X/g*(X/g)*g:=by rw[dQ,e1]
   rw[this];exact gM (by rw[<- jg]; exact jD _) (iz gI)
  have f2:0<=Y/g*Y:=by
   have:Y/g*Y=Y/g*(Y/g)*g:=by rw[dQ,e2]
   rw[this];exact gM (by rw[<- jg]; exact jD _) (iz gI)
  rcases h with h | h
  ·have:X/g*X≠0:=kY (λz=>h (by rw[<- e1,z,mV])) h;lia
  ·have:Y/g*Y≠0:=kY (λz=>h (by rw[<- e2,z,mV])) h;lia
end Sea
namespace Sea
end Sea
namespace Sea
structure SpotOf(X Y W x y w:Int):Prop where
 pos:1<=w
 low:eX (eX x.natAbs y.natAbs) w.natAbs=1
 ex:x*W=X*w
 ey:y*W=Y*w
 xle:x.natAbs<=X.natAbs
 yle:y.natAbs<=Y.natAbs
 wle:w.natAbs<=W.natAbs
end Sea
namespace Sea
end Sea

namespace Sea
end Sea
namespace Sea
end Sea

namespace Sea
end Sea

namespace L2
open PySem PySem.Spec PyProof.Rows

structure CC where
 C:ag
 s:ai
 H:Hp
 fp:List ag

def zBp(env:gf):List (aC×eM)->List (aC×ag)->List (aC×ag)
 | [],cs=>cs
 | (n,k)::r,cs=>zBp env r (if (k == bv)=true then(n,(env.cells.lookup n).getD 0)::cs else cs)
theorem zQu{scope:fu}{env:gf}(h:∀ x∈scope.names,x.2=.free->∃ c,env.cells.lookup x.1=some c):closureFor scope env=pure (zBp env scope.names []):=by
 simp only[closureFor];have key:∀(names:List (aC×eM))(cs:List (aC×ag)),(∀ x∈names,x.2=.free->∃ c,env.cells.lookup x.1=some c) ->
  (forIn names cs (λ(x:aC×eM) (r:List (aC×ag))=>match x with | (name,kind)=>if (kind == bv)=true then(do let a <- cellOf env name; pure (dw ((name,a)::r))) else pure (dw r)):lY (List (aC×ag)))=pure (zBp env names cs):=by
  intro names
  induction names with
  | nil=>intro cs _; rfl
  | cons x r ih =>
   intro cs hx;obtain⟨n,k⟩:=x;rw[iH];have hr:=ih (if (k == bv)=true then(n,(env.cells.lookup n).getD 0)::cs else cs) λy hy=>hx y (bz _ hy);by_cases hk:(k == bv)=true
   ·obtain⟨c,hc⟩:=hx (n,k) ck (by simpa using hk);have e:cellOf env n=pure c:=by unfold cellOf; rw[hc]
    rw[if_pos hk] at hr;have hc':env.cells.lookup n=some c:=hc;rw[hc'] at hr;show(((if (k == bv)=true then(do let a <- cellOf env n; pure (dw ((n,a)::cs))) else pure (dw cs)):lY _) >>= _)=_;rw[if_pos hk,e];refine Eq.trans ?_ (hr.trans ?_)
    ·rfl
    ·rw[zBp,if_pos hk,hc']
   ·rw[if_neg hk] at hr;show(((if (k == bv)=true then(do let a <- cellOf env n; pure (dw ((n,a)::cs))) else pure (dw cs)):lY _) >>= _)=_;rw[if_neg hk];refine Eq.trans ?_ (hr.trans ?_)
    ·rfl
    ·rw[zBp,if_neg hk]
 exact congrArg (λ(z:lY (List (aC×ag)))=>z >>= λcs=>pure cs) (key scope.names [] h)
theorem rV{env:gf} : ∀(names:List (aC×eM))(cs:List (aC×ag)),(∀ x∈names,x.2=.free->∃ c,env.cells.lookup x.1=some c) ->
  (∀ x c,cs.lookup x=some c->env.cells.lookup x=some c)->∀ x c,(zBp env names cs).lookup x=some c->env.cells.lookup x=some c
 | [],_,_,hc=>hc
 | (n,k)::r,cs,h,hc=>by
  refine rV r _ (λy hy=>h y (bz _ hy)) λx c=>?_;by_cases hk:(k == bv)=true
  ·rw[if_pos hk];obtain⟨d,hd⟩:=h (n,k) ck (by simpa using hk);have hd':env.cells.lookup n=some d:=hd;intro e;rw[a6] at e;cases hx:x == n with
   | true =>
    rw[hx,hd'] at e;have ex:x=n:=by simpa using hx
    rw[ex,hd'];exact e
   | false =>
    rw[hx] at e;exact hc x c e
  ·rw[if_neg hk];exact hc x c
theorem zE5{env:gf} : ∀(names:List (aC×eM))(cs:List (aC×ag))(x:aC),((x,bv)∈names\/∃ c,cs.lookup x=some c)->∃ c,(zBp env names cs).lookup x=some c
 | [],_,_,h=>h.elim (λz=>nomatch z) id
 | (n,k)::r,cs,x,h=>by
  refine zE5 r _ x ?_;by_cases hk:(k == bv)=true
  ·rw[if_pos hk];cases hx:x == n with
   | true=>exact .inr ⟨_,by rw[a6,hx]⟩
   | false =>
    rcases h with h | ⟨c,h⟩
    ·rcases aI.mp h with e | e
     ·injection e with e1 _
      subst e1;simp at hx
     ·exact .inl e
    ·exact .inr ⟨c,by rw[a6,hx]; exact h⟩
  ·rw[if_neg hk];rcases h with h | h
   ·rcases aI.mp h with e | e
    ·injection e with _ e2
     subst e2;exact absurd rfl hk
    ·exact .inl e
   ·exact .inr h
theorem zC4{env:gf} : ∀{names:List (aC×eM)}{x:aC},names.lookup x=some .free ->
  (names.map λ(n,k)=>if (k == bv&&env.scope.kind == .function&&env.kindOf n == some .cell) then(n,eB) else(n,k)).lookup x=some .cell \/
  (names.map λ(n,k)=>if (k == bv&&env.scope.kind == .function&&env.kindOf n == some .cell) then(n,eB) else(n,k)).lookup x=some .free
 | [],_,h=>by simp at h
 | (n,k)::r,x,h=>by
  have ih:=@zC4 env r x;show bA x ((if (k == bv&&env.scope.kind == .function&&env.kindOf n == some .cell)=true then(n,eB) else(n,k))::_)=_\/bA x ((if (k == bv&&env.scope.kind == .function&&env.kindOf n == some .cell)=true then(n,eB) else(n,k))::_)=_;by_cases hc:(k == bv&&env.scope.kind == .function&&env.kindOf n == some .cell)=true
  ·rw[if_pos hc];cases hx:x == n with
   | true=>exact .inl (by rw[a6,hx])
   | false =>
    rw[a6,hx] at h;rw[a6,hx];exact ih h
  ·rw[if_neg hc];cases hx:x == n with
   | true =>
    rw[a6,hx] at h;exact .inr (by rw[a6,hx]; exact h)
   | false =>
    rw[a6,hx] at h;rw[a6,hx];exact ih h
theorem qZ{env:gf} : ∀{names:List (aC×eM)}{x:aC}{j:eM},(∀ y∈names,y.2≠.cell)->(j=.cell\/j=.free) ->
  (names.map λ(n,k)=>if (k == bv&&env.scope.kind == .function&&env.kindOf n == some .cell) then(n,eB) else(n,k)).lookup x=some j->(x,bv)∈names
 | [],_,_,_,_,h=>by simp at h
 | (n,k)::r,x,j,hn,hj,h=>by
  have ih:=@qZ env r x j (λy hy=>hn y (bz _ hy)) hj;have hk0:k≠.cell:=hn (n,k) ck
  replace h:bA x ((if (k == bv&&env.scope.kind == .function&&env.kindOf n == some .cell)=true then(n,eB) else(n,k))::(r.map λ(n,k)=>if (k == bv&&env.scope.kind == .function&&env.kindOf n == some .cell) then(n,eB) else(n,k)))=some j:=h
  by_cases hc:(k == bv&&env.scope.kind == .function&&env.kindOf n == some .cell)=true
  ·rw[if_pos hc] at h;have hf:k=.free:=by
    simp only[aY] at hc;simpa using hc.1.1
   cases hx:x == n with
   | true =>
    have ex:x=n:=by simpa using hx
    subst ex;rw[<- hf];exact ck
   | false =>
    rw[a6,hx] at h;exact bz _ (ih h)
  ·rw[if_neg hc] at h;cases hx:x == n with
   | true =>
    rw[a6,hx] at h;have ex:x=n:=by simpa using hx
    have ek:k=j:=aZ h;subst ex;rcases hj with hj | hj
    ·exact absurd (ek.trans hj) hk0
    ·rw[<- hj,<- ek];exact ck
   | false =>
    rw[a6,hx] at h;exact bz _ (ih h)

def uE(X:Cx)(N:List aC)(scope:fu)(c:CC):Cx where
 prog:=X.prog
 w:=X.w
 K:=X.K
 mg:=X.mg
 base:=X.base
 A:=X.A
 N:=N
 s₀:=c.s
 H₀:=c.H
 env:=compEnvC scope (zBp X.env scope.names []) c.C X.env
 outer:=X.stack
 stack:=X.stack
 ex:=c.fp
 fn:=λ_=>false
 calm:=X.calm
 pn:=[]
 xe:=λ_ _=>False

def zGk(X:Cx)(scope:fu):List (aC×Nat)->Prop
 | []=>True
 | p::r=>(X.N[p.2]?=some p.1/\scope.names.lookup p.1=some .free/\(X.env.kindOf p.1=some .cell\/X.env.kindOf p.1=some .free))/\zGk X scope r
theorem zGk.mem{X:Cx}{scope:fu} : ∀{caps:List (aC×Nat)},zGk X scope caps->∀ p∈caps,X.N[p.2]?=some p.1/\scope.names.lookup p.1=some .free/\(X.env.kindOf p.1=some .cell\/X.env.kindOf p.1=some .free)
 | [],_,_,h=>nomatch h
 | q::r,h,p,hp=>by
  rcases aI.mp hp with e | e
  ·rw[e]; exact h.1
  ·exact zGk.mem h.2 p e
structure qP(X:Cx)(caps:List (aC×Nat))(scope:fu):Prop where
 kind:scope.kind=.function
 nocell:∀ y∈scope.names,y.2≠.cell
 loc:∀ y∈scope.names,y.2=.local->scope.names.lookup y.1=some .local
 clos:(scope.names.all λx=>!(x.2 == .free)||(X.env.cells.lookup x.1).isSome)=true
 cap:zGk X scope caps
theorem qP.cells{X:Cx}{caps:List (aC×Nat)}{scope:fu}(S:qP X caps scope):∀ x∈scope.names,x.2=.free->∃ c,X.env.cells.lookup x.1=some c:=λx hx hf=>by
 have h:=br.mp S.clos x hx;rw[hf] at h;simp only[kZ] at h;rcases h with h | h
 ·exact absurd h (by decide)
 ·exact aP.mp h

def zOj(caps:List (aC×Nat))(nt:Nat)(σ:St):St:=cG nt none++caps.map λp=>(σ[p.2]?).join

def zZj(Y:Cx)(ifs:List bj)(t:TT):Prop :=
 ∀(pins:List (ag×cA))(s:ai)(σ:St)(H:Hp)(Q:Bool->Hp->Prop),Inv Y pins σ H s->t σ H Q ->
  wpAny (model Y.prog Y.w) Y.A (forIn ifs true λc r=>if r=true then do let ok <- isTrue c Y.env (eval c Y.env); pure (dw ok) else pure (dw r)) (TP Y pins σ Q) Y.xe s
def zWu:TT:=λ_ H Q=>Q true H
theorem uC{Y:Cx} : zZj Y [] zWu:=λ_ _ _ H _ I h=>wpAny_tests_nil ⟨H,I,h⟩
theorem zTj{Y:Cx}{c:bj}{t:TT}(h:PT Y c t):zZj Y [c] t:=λpins s σ H Q I q=>wpAny_tests_one (h pins s σ H Q I q)

def zCv(J:It)(D:ag)(g:TG)(tt:TT)(te:TE)(σ0:St)(H1:Hp)(Q:VK):Prop :=
 ∃ W:Nat->Nat->St->List V->Hp->Prop,(∃ m,W 0 m σ0 [] (upd H1 D (.lst [])))/\∀ i m σ ys H,W i m σ ys H->H D=some (.lst ys) /\
  ((J.stop i H/\Q (.ref D) H)\/(J.go i H/\∃ N:St->List V->Hp->Prop,(∀ σ' zs H',N σ' zs H'->∃ m',m'<m/\W (i+1) m' σ' zs H')/\∀ x H',J.yld i H x H'->g x σ H' λσ2 H2=>tt σ2 H2 λb H3 =>
   if b=true then te σ2 H3 λy H4=>H4 D=some (.lst ys)/\ys.length<sizeLine/\N σ2 (ys++[y]) (upd H4 D (.lst (ys++[y]))) else N σ2 ys H3))
def zXg(nt:Nat)(caps:List (aC×Nat))(wi:TI)(g:CC->TG)(tt:CC->TT)(te:CC->TE):TE:=λσ H Q =>
 wi σ H λJ H1=>∀(c:CC)(D:ag),H1 D=none->zCv J D (g c) (tt c) (te c) (zOj caps nt σ) H1 Q

theorem zMt{α:Type}{t:lY α}{Q Q':α->ai->Prop}{M:mJ}{A:bu}{E:af->ai->Prop}{s:ai}(h:wpAny M A t Q (λ_ _=>False) s)(hQ:∀ a s,Q a s->Q' a s):wpAny M A t Q' E s:=cZ h hQ λ_ _ x=>x.elim
theorem Un.same{fs ex:List ag}{H H':Hp}{h h1 h2:aV}{C:ag}(u:Un fs ex H H' h h1)(sb:cP C h1 h2)(hC:h.get? C=none):Un fs ex H H' h h2:=by
 have ne:∀ b o,h.get? b=some o->b≠C:=λb o e z=>by rw[z,hC] at e; cases e
 refine⟨λb o e n hb hx=>(sb.2 b (ne b o e)).trans (u.keep b o e n hb hx),λb o e n hb hx=>?_,u.free,λb o e hx=>?_,u.tups,u.frzs,u.tbls⟩
 ·obtain⟨sl,q⟩:=u.slot b o e n hb hx;exact⟨sl,(sb.2 b (ne b o e)).trans q⟩
 ·obtain⟨o',q⟩:=u.there b o e hx;exact⟨o',(sb.2 b (ne b o e)).trans q⟩
theorem HOk.same{P:aL}{w:aT}{H:Hp}{h h':aV}{C:ag}(k:HOk P w H h)(sb:cP C h h')(hC:H C=none):HOk P w H h':=λb o e=>by
 refine(k b o e).stay (λc v hc q=>(sb.2 c ?_).trans q) (λ_ q=>q) λ_ _ q=>q;rintro rfl;rcases hc with z | z
 ·rw[z,e] at hC; cases hC
 ·rw[hC] at z; cases z

section
variable{X:Cx}{T:List aC}{caps:List (aC×Nat)}{scope:fu}{elt target iter:bj}{ifs:List bj}{pos:fg}{wi:TI}{g:CC->TG}{tt:CC->TT}{te:CC->TE}

theorem zG3{pins:List (ag×cA)}{σ:St}{H2:Hp}{s2:ai}{fp:List ag}{C D:ag}{h1:aV}{tk:Nat}{m:aC->Option af}(S:qP X caps scope)(I2:Inv X pins σ H2 s2)(f2:∀ b∈fp,zLa X pins H2 b)
  (hfp:∀ b∈fp,b<s2.heap.objs.size) (hD:s2.heap.objs.size<=D) (hC:s2.heap.objs.size<=C) (hDC:C≠D) (old:∀ b o,s2.heap.get? b=some o->h1.get? b=some o)
  (acc:∃ n,h1.get? D=some { cls:=.type "list", data:=.seq ([]:List af).toArray n }) (hn:h1.Ns C m) :
  Inv (uE X (T++caps.map (·.1)) scope ⟨C,s2,H2,fp⟩) [] (zOj caps T.length σ) (upd H2 D (.lst [])) { s2 with heap:=h1,toks:=tk }:=by
 have cs:=rV (env:=X.env) scope.names [] S.cells (λ_ _ z=>by cases z);have cellOld:∀ x c,X.env.cells.lookup x=some c->c<s2.heap.objs.size:=λx c e=>by
  obtain⟨v,q⟩:=I2.cell x c e;exact q.lt
 have stkNo:∀ b∈fp,b ∉ frs X.stack:=λb hb z=>by
  rcases aI.mp (I2.stkSub b z) with e | e
  ·exact(f2 b hb).2.1 e
  ·exact(f2 b hb).2.2.1 e
 have fr:H2 D=none:=I2.hok.fresh hD;refine⟨⟨I2.ok.mod,S.kind,I2.ok.glob,I2.ok.blt,hC,λx y c e1 e2=>I2.ok.inj x y c (cs x c e1) (cs y c e2),λx hx=>?_,λ_ _ z=>absurd (show false=true from z) aE,I2.ok.hd,I2.ok.frames,.inl rfl,λb hb=>⟨?_,λx c e=>(f2 b hb).2.2.2.2.1 x c (cs x c e)⟩,
  λb o e=>I2.bs b o e,aO I2.ok.bsz I2.sz,λb o e hb=>?_,stkNo,I2.stack,I2.stkFree⟩,rfl,I2.bare,?_,⟨m,hn,λi x v e1 e2 e3=>?_⟩,λx c e=>?_,?_,λx c e=>?_,λp hp=>absurd (show p∈([]:List (ag×cA)) from hp) (by simp),?_,?_⟩
 ·have hx':(x,bv)∈scope.names:=by
   rcases hx with z | z
   ·exact qZ S.nocell (.inl rfl) z
   ·exact qZ S.nocell (.inr rfl) z
  exact zE5 scope.names [] x (.inl hx')
 ·exact aQ (aR (hfp b hb) hC)
 ·rcases (f2 b hb).2.2.2.1 with z | z
  ·exact I2.ok.noex b o e z
  ·exact absurd (aR (az (show X.base.get? b=some o from e)) (aO I2.ok.bsz z)) (db _)
 ·exact Un.laid old hD fr
 ·have hlt:¬ i<T.length:=λhi=>by
   unfold zOj at e2;rw[cU (by simpa using hi),fw,if_pos hi] at e2;cases e2
  have hge:T.length<=i:=kA hlt;have e1':(T++caps.map (·.1))[i]?=some x:=e1;rw[cu hge,av] at e1';unfold zOj at e2;rw[cu (by simpa using hge),cX,av] at e2;cases hp:caps[i-T.length]? with
  | none=>rw[hp] at e1'; cases e1'
  | some p =>
   rw[hp] at e1' e2;have ex:p.1=x:=aZ e1';have ev:(σ[p.2]?).join=some v:=aZ e2;obtain⟨hN,hf,hk⟩:=S.cap.mem p (aF hp);have ev':σ[p.2]?=some (some v):=by
    cases hq:σ[p.2]? with
    | none=>rw[hq] at ev; cases ev
    | some o =>
     rw[hq] at ev;exact congrArg some ev
   obtain⟨m2,_,hl2⟩:=I2.loc;obtain⟨u,ru,l⟩:=hl2 p.2 p.1 v hN ev' (hk.elim (λz=>.inr (.inl z)) λz=>.inr (.inr z));refine⟨u,ru,.inr ⟨?_,?_⟩⟩
   ·rw[<- ex];exact zC4 (env:=X.env) hf
   ·rcases l with ⟨kl,_⟩ | ⟨_,c,ec,hcell⟩
    ·rcases hk with z | z <;>(rw[kl] at z; cases z)
    ·obtain⟨d,hd⟩:=zE5 (env:=X.env) scope.names [] p.1 (.inl (dy hf));have hd':=cs p.1 d hd;rw[ec] at hd';cases hd';obtain⟨o,ho,hod⟩:=hcell;exact⟨c,by rw[<- ex]; exact hd,o,old c o ho,hod⟩
 ·obtain⟨v,o,ho,hd⟩:=I2.cell x c (cs x c e);exact⟨v,o,old c o ho,hd⟩
 ·show upd H2 D (.lst []) C=none;rw[zG hDC];exact I2.hok.fresh hC
 ·show upd H2 D (.lst []) c=none;rw[zG (aQ (aR (cellOld x c (cs x c e)) hD))];exact I2.freeC x c (cs x c e)
 ·obtain⟨n,e⟩:=acc;exact I2.hok.laid old hD ⟨bf _,[],n,.nil,e⟩
 ·show(zOj caps T.length σ).length=(T++caps.map (·.1)).length;unfold zOj;rw[al,al,ac,ac,cX]

theorem sN(S:qP X caps scope)(hc:X.calm=true)(hi:PI X target iter wi)(hg:∀ c,PG (uE X (T++caps.map (·.1)) scope c) target (g c))(ht:∀ c,zZj (uE X (T++caps.map (·.1)) scope c) ifs (tt c))(he:∀ c,PE (uE X (T++caps.map (·.1)) scope c) elt (te c))
  (hs:∀ x,foldedSetIterable iter X.env x=pure x:=by intro _; rfl):PE X (.ListComp elt [⟨target,iter,ifs,0⟩] scope pos) (zXg T.length caps wi g tt te):=by
 intro pins s σ H Q I h;rw[eval_ListComp];refine ic (use:=none) rfl hs (zQu S.cells) S.kind S.loc (thn (hi pins s σ H _ I h) λv s1 h1=>thn h1 λitv s2 h2=>?_);obtain⟨it,fp,tn,J,H2,e,I2,TT,st2,f2,q2⟩:=h2;subst e;refine aW (i4 S.nocell (by intro y hy; simp at hy) (λh1 hn hsb=>?_) S.kind);dsimp only at hn hsb ⊢;generalize hg2:s2.heap.push { cls:=.type "list", dict:=none,data:=.seq ([]:List af).toArray }=G at hn hsb ⊢;have hCv:G.objs.size=s2.heap.objs.size+1:=by rw[<- hg2,dh]
 have hDC:G.objs.size≠s2.heap.objs.size:=by rw[hCv]; exact kC _
 have hCle:s2.heap.objs.size<=G.objs.size:=by rw[hCv]; exact fv _
 have old:∀ b o,s2.heap.get? b=some o->h1.get? b=some o:=λb o e=>hsb.extBut b o (aQ (aR (az e) hCle)) (ah _ (hg2 ▸ ah _ e));have hacc:∃ n,h1.get? s2.heap.objs.size=some { cls:=.type "list", data:=.seq ([]:List af).toArray n }:=⟨_,hsb.extBut _ _ (cw hDC) (ah _ (hg2 ▸ ap _ rfl))⟩;have hfp:∀ b∈fp,b<s2.heap.objs.size:=λb hb=>by
  obtain⟨o,e,_⟩:=TT.obj _ _ st2 b hb;exact az e
 have cs:=rV (env:=X.env) scope.names [] S.cells (λ_ _ z=>by cases z);have I0:=zG3 (T:=T) (tk:=s2.toks+([]:List (aC×af)).length) S I2 f2 hfp (am _) hCle hDC old hacc hn;have st0:tn 0 h1:=TT.keep _ _ _ st2 λb _ o e=>old b o e;obtain⟨W,⟨m0,w0⟩,turn⟩:=q2 ⟨G.objs.size,s2,H2,fp⟩ s2.heap.objs.size (I2.hok.fresh (am _));have fr0:∀ b∈fp,upd H2 s2.heap.objs.size (.lst []) b=none:=λb hb=>by
  rw[zG (aQ (hfp b hb))];exact(f2 b hb).1
 have stat:∀{H':Hp},(∀ b∈fp,H' b=none)->∀ b∈fp,zLa (uE X (T++caps.map (·.1)) scope ⟨G.objs.size,s2,H2,fp⟩) [] H' b:=λ{H'} hn' b hb =>
  ⟨hn' b hb,aQ (aR (hfp b hb) hCle),I0.ok.exfs b hb,.inl hb,λx c e=>(f2 b hb).2.2.2.2.1 x c (cs x c e),λp hp=>absurd (show p∈([]:List (ag×cA)) from hp) (by simp)⟩
 have loop:codeAny (model X.prog X.w) X.A (.compLoop (.ListComp elt [⟨target,iter,ifs,0⟩] scope pos) 0 (.ref it) (.ref s2.heap.objs.size) (compEnvC scope (zBp X.env scope.names []) G.objs.size X.env))
   (compPost (model X.prog X.w) X.A X.xe none (EP X pins σ Q) (.ref s2.heap.objs.size) G.objs.size) { s2 with heap:=h1,toks:=s2.toks+([]:List (aC×af)).length }:=by
  refine codeAny_loop rfl (λn s'=>∃ i σ' ys H',Inv (uE X (T++caps.map (·.1)) scope ⟨G.objs.size,s2,H2,fp⟩) [] σ' H' s'/\tn i s'.heap/\(∀ b∈fp,H' b=none)/\W i n σ' ys H') (λn s3 hI=>?_) m0 ⟨0,_,[],_,I0,st0,fr0,w0⟩;obtain⟨i,σ3,ys,H3,I3,st3,fr3,w3⟩:=hI;show wpAny _ X.A ((compTurn (.ListComp elt [⟨target,iter,ifs,0⟩] scope pos) 0 (.ref it) (.ref s2.heap.objs.size) (compEnvC scope (zBp X.env scope.names []) G.objs.size X.env)).onRaise (λx=>do noteFrame x (compEnvC scope (zBp X.env scope.names []) G.objs.size X.env); theTreesLotGoes x)) _ _ s3;refine wpAny_noted ?_;rw[compTurn_list];refine aa (hZ (aa ?_));obtain⟨hD3,turn3⟩:=turn i n σ3 ys H3 w3;rcases turn3 with ⟨stop,qn⟩ | ⟨go,N,hN,step⟩
  ·refine zMt (TT.done (uE X (T++caps.map (·.1)) scope ⟨G.objs.size,s2,H2,fp⟩) rfl rfl rfl hc i [] s3 σ3 H3 _ I3 (stat fr3) st3 stop) λr s4 ⟨hr,I4⟩=>?_;subst hr;refine ak ?_;show ∃ m,s4.heap.Ns G.objs.size m/\∀ h',cP G.objs.size s4.heap h'->EP X pins σ Q (.ref s2.heap.objs.size) { s4 with heap:=h' };obtain⟨m4,hn4,_⟩:=I4.loc;refine⟨m4,hn4,λh' sb=>⟨.ref s2.heap.objs.size,H3,?_,rfl,qn⟩⟩;refine I2.call' (s':={ s4 with heap:=h' }) (ch:=fp) I4.os (Un.same I4.base sb (fT hCle)) (HOk.same I4.hok sb I4.free) I4.bare λb hb=>?_;obtain⟨_,f1,_,f3,f4,f5⟩:=f2 b hb;exact⟨f3,f1,f4,f5⟩
  ·refine zMt (TT.item (uE X (T++caps.map (·.1)) scope ⟨G.objs.size,s2,H2,fp⟩) rfl rfl rfl hc i [] s3 σ3 H3 _ I3 (stat fr3) st3 go) λr s4 ⟨u,hr,h4⟩=>?_;subst hr;refine aa (zMt h4 λ_ s5 ⟨x,H5,I5,r5,y5,st5,fr5⟩=>?_);have I5':=I5.pinned (stat fr5) (TT.obj _ _ st5);refine aa (zMt (hg _ _ s5 σ3 H5 x u _ I5' r5 (step x H5 y5)) λ_ s6 ⟨σ6,H6,I6,q6⟩=>?_);have again:∀{s7:ai}{σ7:St}{zs:List V}{H7:Hp},Inv (uE X (T++caps.map (·.1)) scope ⟨G.objs.size,s2,H2,fp⟩) ([]++zGp fp s5.heap) σ7 H7 s7->N σ7 zs H7 ->
     ∃ m,m<n/\∃ i σ' ys H',Inv (uE X (T++caps.map (·.1)) scope ⟨G.objs.size,s2,H2,fp⟩) [] σ' H' s7/\tn i s7.heap/\(∀ b∈fp,H' b=none)/\W i m σ' ys H':=λ{s7 σ7 zs H7} I7 n7=>by
    obtain⟨m',hm,w7⟩:=hN σ7 zs H7 n7;refine⟨m',hm,i+1,σ7,zs,H7,I7.unpinned,TT.keep _ _ _ st5 λb hb o e=>(I7.pin (b,o) (aU _ (aU _ (tP hb e)))).1,λb hb=>?_,w7⟩;obtain⟨o,e,d⟩:=TT.obj _ _ st5 b hb;exact(I7.pin (b,o) (aU _ (aU _ (tP hb e)))).2.1
   refine aa (zMt (ht _ _ s6 σ6 H6 _ I6 q6) λok s7 ⟨H7,I7,q7⟩=>?_);cases ok with
   | false=>exact ak ⟨rfl,again I7 q7⟩
   | true =>
    refine aa (aa (zMt (he _ _ s7 σ6 H7 _ I7 q7) λy s8 ⟨yv,H8,I8,r8,hD8,hl8,q8⟩=>?_));refine aa (zMt (zEz _ s8 σ6 H8 (.ref s2.heap.objs.size) [yv] (.ref s2.heap.objs.size) [y] (λ_ H9=>N σ6 (ys++[yv]) H9) I8 rfl (.cons r8 .nil) ⟨_,ys,yv,rfl,rfl,hD8,hl8,q8⟩) λ_ s9 ⟨_,H9,I9,_,q9⟩=>?_);exact ak (ak ⟨rfl,again I9 q9⟩)
 exact codeAny_compStart_list loop (TT.self _ 0 _ _ _ st0 loop)
end
end L2

namespace L2
open PySem PySem.Spec PyProof.Rows

theorem uU:bootBuiltins "len" = some (.builtin "len"):=by decide +kernel
theorem zYb:bootBuiltins "abs" = some (.builtin "abs"):=by decide +kernel
theorem zFf:bootBuiltins "all" = some (.builtin "all"):=by decide +kernel
theorem zUi:bootBuiltins "any" = some (.builtin "any"):=by decide +kernel
theorem zZb:bootBuiltins "max" = some (.builtin "max"):=by decide +kernel
theorem zU:bootBuiltins "isinstance" = some (.builtin "isinstance"):=by decide +kernel
theorem zUr:bootBuiltins "int" = some (.type "int"):=by decide +kernel
theorem zP5:bootBuiltins "bool" = some (.type "bool"):=by decide +kernel
theorem zT1:bootBuiltins "str" = some (.type "str"):=by decide +kernel
theorem zCs:bootBuiltins "list" = some (.type "list"):=by decide +kernel
theorem zMh:bootBuiltins "tuple" = some (.type "tuple"):=by decide +kernel
theorem zXa:bootBuiltins "zip" = some (.type "zip"):=by decide +kernel

def Has(P:aL)(w:aT)(K:ae)(mg:aC->Option af)(base:aV)(x:aC)(n:Nat)(ps:List aC)(sp:Sp):Prop :=
 ∃(f:ag)(fd:bJ),xJ P w K mg base CX0 n f fd ps sp/\zBl K fd ps []/\bO K (.ref f)=true/\mg x=some (.ref f)
section
variable{X:Cx}{x:aC}{p pos:fg}{e:bj}{es:List bj}{t:TA}{n:Nat}{ps:List aC}{sp:Sp}
theorem vE(h:Has X.prog X.w X.K X.mg X.base x n ps sp)(hr:rN n X.A)(hg:Gl X x)(ha:PA X (e::es) t)(hdb:(x ==("__debug__" : aC))=false:=by decide)
  (he:starEach (e::es) X.env=(false,eval e X.env)::starEach es X.env:=by rfl) (hpl:(backTo pos (starEach es X.env)).any (·.1)=false:=by rfl):PE X (.Call (.Name x p) (e::es) [] pos) (zNc sp [] E0 t):=by
 obtain⟨f,fd,F,b,k,m⟩:=h;exact zWj F hr hg m k b .nil zRb ha hdb he hpl
end

section
variable{X:Cx}
def zLe(i j:Int):Prop:=0<j/\j.natAbs<2^4096
theorem zS9:OpR X (binaryOp .FloorDiv) (rI zLe λi j=>.int (i/j)):=opI λi j _ _ _ _ _ hc q=>by
 have h1:(0:Int)<j:=hc.1;have h3:j.natAbs.log2<9000:=de ((ng (by lia)).mpr hc.2) (by decide);exact floordiv_int (by lia) (by rw[Int.fdiv_eq_ediv_of_nonneg i (by lia)]; exact q) (.inl (PyProof.noPylong_of_log2 h3))
theorem zLe.of{i j:Int}(h:0<j)(h2:j<10^600):zLe i j:=by
 exists h;have e:(10:Nat)^600<2^4096:=by decide +kernel
 lia
theorem zLd:vV X (.builtin "isinstance") (λxs H Q=>∃ x T t b,xs=[x,.ty T]/\TyOf X.K H x t/\cQ X.K t (.type T)=some b/\Q (.bl b) H):=by
 intro pins s σ H xs us Q I r h;obtain⟨x,T,t,b,rfl,ty,e,q⟩:=h;obtain⟨u,v,rfl,ru,rv⟩:=yY.two r;cases rv;exact zOz I ru ty e λtk=>⟨.bl b,H,I.tok tk,rfl,q⟩

def Sq(K:ae)(H:Hp)(p:ag)(xs:List V):Prop:=SqL K H p xs\/SqT K H p xs
inductive RIx(K:ae)(x y:V)(H:Hp)(Q:VK):Prop where
 | mk (p:ag) (xs:List V) (i:Int) (v:V) (ex:x=.ref p) (ey:y=.int i) (sq:Sq K H p xs) (at':atI xs i=some v) (q:Q v H)
def rIxA(K:ae):R2:=λx y H Q=>RIx K x y H Q
theorem zPg:IxR X (rIxA X.K):=by
 intro value slice pins s σ H x y v u Q I rx ry q hs;obtain⟨p,xs,i,z,e1,e2,hq,ha,q⟩:=q;rcases hq with hq | hq
 ·exact zWm value slice pins s σ H x y v u Q I rx ry ⟨p,xs,i,z,e1,e2,hq,ha,q⟩ hs
 ·exact zYf value slice pins s σ H x y v u Q I rx ry ⟨p,xs,i,z,e1,e2,hq,ha,q⟩ hs
def iSeq(K:ae)(tl:TE):TI:=λσ H R=>tl σ H λx H1=>∃ a,x=.ref a/\(((∃ xs,SqL K H1 a xs)/\R (Itl K a) H1)\/((∃ xs,SqT K H1 a xs)/\R (Itt K a) H1))
theorem zLy{tg l:bj}{tl:TE}(hl:PE X l tl):PI X tg l (iSeq X.K tl):=by
 intro pins s σ H R I h;refine thn (hl pins s σ H _ I h) λv s1 ⟨x,H1,I1,r1,q1⟩=>?_;obtain⟨a,e,q⟩:=q1;subst e;cases r1;have own:∀ b,b∈[s1.heap.objs.size]->zLa X pins H1 b:=λb hb=>by
  rw[aw] at hb;subst hb;exact I1.fpOk (am _) (I1.hok.fresh (am _))
 rcases q with ⟨⟨xs,hq⟩,q⟩ | ⟨⟨xs,hq⟩,q⟩
 ·obtain⟨its,rv,p,hz⟩:=I1.list hq;exact dP p.isList ⟨s1.heap.objs.size,[s1.heap.objs.size],_,_,H1,rfl,I1.kept (t':=s1.toks) λb o e=>ah _ e,zIz a _,⟨_,ap _ rfl,rfl,rfl⟩,own,q⟩
 ·obtain⟨its,rv,p,hz⟩:=I1.tuple hq;exact gF (show s1.heap.IsTuple a its.toArray from p) ⟨s1.heap.objs.size,[s1.heap.objs.size],_,_,H1,rfl,I1.kept (t':=s1.toks) λb o e=>ah _ e,zGh a _,⟨_,ap _ rfl,rfl,rfl⟩,own,q⟩
end

section
variable{K:ae}{a D:ag}{xs:List V}{g:TG}{tt:TT}{te:TE}{σ0:St}{H1:Hp}{Q:VK}
theorem zO7(Pv:Nat->St->List V->Hp->Prop)(h0:Pv 0 σ0 [] (upd H1 D (.lst [])))(hl:∀ i σ ys H,i<=xs.length->Pv i σ ys H->SqL K H a xs/\H D=some (.lst ys))
  (hs:∀ i x σ ys H,xs[i]?=some x->Pv i σ ys H->g x σ H λσ2 H2=>tt σ2 H2 λb H3 =>
   if b=true then te σ2 H3 λy H4=>H4 D=some (.lst ys)/\ys.length<sizeLine/\Pv (i+1) σ2 (ys++[y]) (upd H4 D (.lst (ys++[y]))) else Pv (i+1) σ2 ys H3)
  (hd:∀ σ ys H,Pv xs.length σ ys H->Q (.ref D) H):zCv (Itl K a) D g tt te σ0 H1 Q:=by
 exists λi m σ ys H=>m=xs.length-i/\i<=xs.length/\Pv i σ ys H,⟨xs.length,by simp,bf _,h0⟩;rintro i m σ ys H ⟨rfl,hi,p⟩;obtain⟨q,qd⟩:=hl i σ ys H hi p;exists qd;by_cases hlt:i<xs.length
 ·refine .inr ⟨⟨xs,xs[i],q,by simp[hlt]⟩,Pv (i+1),λσ' zs H' z=>⟨xs.length-(i+1),by lia,rfl,hlt,z⟩,λx H' y=>?_⟩;obtain⟨e,y⟩:=y;subst e;exact hs i x σ ys _ (y xs q) p
 ·have e:i=xs.length:=by lia
  subst e;exact .inl ⟨⟨xs,q,am _⟩,hd σ ys H p⟩
theorem zTz(Pv:Nat->St->List V->Hp->Prop)(h0:Pv 0 σ0 [] (upd H1 D (.lst [])))(hl:∀ i σ ys H,i<=xs.length->Pv i σ ys H->SqT K H a xs/\H D=some (.lst ys))
  (hs:∀ i x σ ys H,xs[i]?=some x->Pv i σ ys H->g x σ H λσ2 H2=>tt σ2 H2 λb H3 =>
   if b=true then te σ2 H3 λy H4=>H4 D=some (.lst ys)/\ys.length<sizeLine/\Pv (i+1) σ2 (ys++[y]) (upd H4 D (.lst (ys++[y]))) else Pv (i+1) σ2 ys H3)
  (hd:∀ σ ys H,Pv xs.length σ ys H->Q (.ref D) H):zCv (Itt K a) D g tt te σ0 H1 Q:=by
 exists λi m σ ys H=>m=xs.length-i/\i<=xs.length/\Pv i σ ys H,⟨xs.length,by simp,bf _,h0⟩;rintro i m σ ys H ⟨rfl,hi,p⟩;obtain⟨q,qd⟩:=hl i σ ys H hi p;exists qd;by_cases hlt:i<xs.length
 ·refine .inr ⟨⟨xs,xs[i],q,by simp[hlt]⟩,Pv (i+1),λσ' zs H' z=>⟨xs.length-(i+1),by lia,rfl,hlt,z⟩,λx H' y=>?_⟩;obtain⟨e,y⟩:=y;subst e;exact hs i x σ ys _ (y xs q) p
 ·have e:i=xs.length:=by lia
  subst e;exact .inl ⟨⟨xs,q,am _⟩,hd σ ys H p⟩
theorem zN7{lo:Int}{n:Nat}(Pv:Nat->St->List V->Hp->Prop)(h0:Pv 0 σ0 [] (upd H1 D (.lst [])))(hl:∀ i σ ys H,i<=n->Pv i σ ys H->H D=some (.lst ys))
  (hs:∀ i σ ys H,i<n->Pv i σ ys H->g (.int (lo+i)) σ H λσ2 H2=>tt σ2 H2 λb H3 =>
   if b=true then te σ2 H3 λy H4=>H4 D=some (.lst ys)/\ys.length<sizeLine/\Pv (i+1) σ2 (ys++[y]) (upd H4 D (.lst (ys++[y]))) else Pv (i+1) σ2 ys H3)
  (hd:∀ σ ys H,Pv n σ ys H->Q (.ref D) H):zCv (Itr lo n) D g tt te σ0 H1 Q:=by
 exists λi m σ ys H=>m=n-i/\i<=n/\Pv i σ ys H,⟨n,by simp,bf _,h0⟩;rintro i m σ ys H ⟨rfl,hi,p⟩;have qd:=hl i σ ys H hi p;exists qd;by_cases hlt:i<n
 ·refine .inr ⟨hlt,Pv (i+1),λσ' zs H' z=>⟨n-(i+1),by lia,rfl,hlt,z⟩,λx H' y=>?_⟩;obtain⟨e,y⟩:=y;subst e y;exact hs i σ ys _ hlt p
 ·have e:i=n:=by lia
  subst e;exact .inl ⟨am _,hd σ ys H p⟩
end
section
variable{K:ae}{a D:ag}{xs:List V}{g:TG}{te:TE}{σ0:St}{H1:Hp}{Q:VK}
theorem zNn(Pv:Nat->St->List V->Hp->Prop)(h0:Pv 0 σ0 [] (upd H1 D (.lst [])))(hl:∀ i σ ys H,i<=xs.length->Pv i σ ys H->SqL K H a xs/\H D=some (.lst ys))
  (hs:∀ i x σ ys H,xs[i]?=some x->Pv i σ ys H->g x σ H λσ2 H2=>te σ2 H2 λy H4=>H4 D=some (.lst ys)/\ys.length<sizeLine/\Pv (i+1) σ2 (ys++[y]) (upd H4 D (.lst (ys++[y]))))
  (hd:∀ σ ys H,Pv xs.length σ ys H->Q (.ref D) H):zCv (Itl K a) D g zWu te σ0 H1 Q:=zO7 Pv h0 hl (λi x σ ys H e p=>hs i x σ ys H e p) hd
theorem zJs(Pv:Nat->St->List V->Hp->Prop)(h0:Pv 0 σ0 [] (upd H1 D (.lst [])))(hl:∀ i σ ys H,i<=xs.length->Pv i σ ys H->SqT K H a xs/\H D=some (.lst ys))
  (hs:∀ i x σ ys H,xs[i]?=some x->Pv i σ ys H->g x σ H λσ2 H2=>te σ2 H2 λy H4=>H4 D=some (.lst ys)/\ys.length<sizeLine/\Pv (i+1) σ2 (ys++[y]) (upd H4 D (.lst (ys++[y]))))
  (hd:∀ σ ys H,Pv xs.length σ ys H->Q (.ref D) H):zCv (Itt K a) D g zWu te σ0 H1 Q:=zTz Pv h0 hl (λi x σ ys H e p=>hs i x σ ys H e p) hd
theorem zBc{lo:Int}{n:Nat}(Pv:Nat->St->List V->Hp->Prop)(h0:Pv 0 σ0 [] (upd H1 D (.lst [])))(hl:∀ i σ ys H,i<=n->Pv i σ ys H->H D=some (.lst ys))
  (hs:∀ i σ ys H,i<n->Pv i σ ys H->g (.int (lo+i)) σ H λσ2 H2=>te σ2 H2 λy H4=>H4 D=some (.lst ys)/\ys.length<sizeLine/\Pv (i+1) σ2 (ys++[y]) (upd H4 D (.lst (ys++[y]))))
  (hd:∀ σ ys H,Pv n σ ys H->Q (.ref D) H):zCv (Itr lo n) D g zWu te σ0 H1 Q:=zN7 Pv h0 hl (λi σ ys H e p=>hs i σ ys H e p) hd
end
end L2

namespace L2
open PySem PySem.Spec PyProof.Rows
theorem zPk:∀ bs:List Bool,(bx bs.length).all (λi=>(bs[i]?).getD true)=bs.all id:=by
 intro bs;rw[eg,br,br];constructor
 ·intro h b hb;obtain⟨i,hi,e⟩:=jh hb;have q:=h i (b7.mpr hi);rw[aj hi,e] at q;exact q
 ·intro h i hi;have hi':=b7.mp hi;rw[aj hi'];exact h _ (eY hi')
theorem zPv:∀ bs:List Bool,(bx bs.length).any (λi=>(bs[i]?).getD true)=bs.any id:=by
 intro bs;rw[eg,fQ,fQ];constructor
 ·rintro⟨i,hi,q⟩;have hi':=b7.mp hi;rw[aj hi'] at q;exact⟨_,eY hi',q⟩
 ·rintro⟨b,hb,q⟩;obtain⟨i,hi,e⟩:=jh hb;exists i,b7.mpr hi;rw[aj hi,e];exact q
theorem zMq{bs:List Bool}{its:List af}(r:yY (bs.map V.bl) its){i:Nat}{v:af}(h:its[i]?=some v):v=.bool ((bs[i]?).getD true):=by
 have hl:=r.length;rw[ac] at hl;have hi:i<its.length:=(ay.mp h).1;have hb:i<bs.length:=by lia
 obtain⟨u,hu,ru⟩:=r.get (i:=i) (x:=.bl bs[i]) (by rw[av,aj hb]; rfl);rw[hu] at h;cases h;rw[aj hb];exact ru
section
variable{X:Cx}
theorem tV(hc:X.calm=true):vV X (.builtin "all") (λxs H Q=>∃(p:ag)(bs:List Bool),xs=[.ref p]/\SqL X.K H p (bs.map V.bl)/\Q (.bl (bs.all id)) H):=by
 intro pins s σ H xs us Q I r h;obtain⟨p,bs,rfl,hq,q⟩:=h;obtain⟨u,rfl,ru⟩:=yY.one r;cases ru;obtain⟨its,rv,pl,hz⟩:=I.list hq;have plt:p<s.heap.objs.size:=by
  obtain⟨_,e,_⟩:=pl.isList;exact az e
 refine call_all_walk (dP pl.isList ?_);refine⟨s.heap.objs.size,_,_,_,_,_,λi=>(bs[i]?).getD true,rfl,nu (A:=X.A.in1) (show X.A.in1.handled=none from I.ok.hd hc) _ p (aQ plt) its.toArray,⟨⟨_,ap _ rfl,rfl,rfl⟩,kE pl.isList _⟩,λi v s Q E hP hQ=>?_,λh' tk k=>?_⟩
 ·have e:=zMq rv (by simpa using hP);subst e;exact cf hQ
 ·have e:(bx its.toArray.size).all (λi=>(bs[i]?).getD true)=bs.all id:=by
   have hl:=rv.length;rw[ac] at hl;rw[aG,<- hl];exact zPk bs
  rw[e];exact⟨.bl (bs.all id),H,I.kept (t':=tk) λb o z=>k b o (λw=>by rw[aw] at w; exact db _ (w ▸ az z)) (ah _ z),rfl,q⟩
theorem zIo(hc:X.calm=true):vV X (.builtin "any") (λxs H Q=>∃(p:ag)(bs:List Bool),xs=[.ref p]/\SqL X.K H p (bs.map V.bl)/\Q (.bl (bs.any id)) H):=by
 intro pins s σ H xs us Q I r h;obtain⟨p,bs,rfl,hq,q⟩:=h;obtain⟨u,rfl,ru⟩:=yY.one r;cases ru;obtain⟨its,rv,pl,hz⟩:=I.list hq;have plt:p<s.heap.objs.size:=by
  obtain⟨_,e,_⟩:=pl.isList;exact az e
 refine call_any_walk (dP pl.isList ?_);refine⟨s.heap.objs.size,_,_,_,_,_,λi=>(bs[i]?).getD true,rfl,nu (A:=X.A.in1) (show X.A.in1.handled=none from I.ok.hd hc) _ p (aQ plt) its.toArray,⟨⟨_,ap _ rfl,rfl,rfl⟩,kE pl.isList _⟩,λi v s Q E hP hQ=>?_,λh' tk k=>?_⟩
 ·have e:=zMq rv (by simpa using hP);subst e;exact cf hQ
 ·have e:(bx its.toArray.size).any (λi=>(bs[i]?).getD true)=bs.any id:=by
   have hl:=rv.length;rw[ac] at hl;rw[aG,<- hl];exact zPv bs
  rw[e];exact⟨.bl (bs.any id),H,I.kept (t':=tk) λb o z=>k b o (λw=>by rw[aw] at w; exact db _ (w ▸ az z)) (ah _ z),rfl,q⟩
end
end L2

namespace L2
open PySem PySem.Spec PyProof.Rows

def SI(b:Bool)(h:aV)(i l:ag)(k:Nat):Prop:=match b with | true=>h.IsListIter i l k | false=>h.IsTupleIter i l k
def SS(b:Bool)(h:aV)(l:ag)(its:Array af):Prop:=match b with | true=>h.IsList l its | false=>h.IsTuple l its
def zJn(b:Bool):String:=match b with | true => "list_iterator" | false => "tuple_iterator"
theorem SI.obj{b:Bool}{h:aV}{i l:ag}{k:Nat}(x:SI b h i l k):∃ o,h.get? i=some o/\o.cls=.type (zJn b)/\o.data=.fields #[.ref l,.int k 0]:=by
 cases b <;> exact x
theorem SI.of{b:Bool}{h:aV}{i l:ag}{k:Nat}(x:∃ o,h.get? i=some o/\o.cls=.type (zJn b)/\o.data=.fields #[.ref l,.int k 0]):SI b h i l k:=by
 cases b <;> exact x
theorem SI.at{b:Bool}{h h':aV}{i l:ag}{k:Nat}(x:SI b h i l k)(e:∀ o,h.get? i=some o->h'.get? i=some o):SI b h' i l k:=by
 obtain⟨o,ho,r⟩:=x.obj;exact SI.of ⟨o,e o ho,r⟩
theorem SS.at{b:Bool}{h h':aV}{l:ag}{its:Array af}(x:SS b h l its)(e:∀ o,h.get? l=some o->h'.get? l=some o):SS b h' l its:=by
 cases b <;>(obtain⟨o,ho,r⟩:=x; exact⟨o,e o ho,r⟩)
theorem SS.obj{b:Bool}{h:aV}{l:ag}{its:Array af}(x:SS b h l its):∃ o,h.get? l=some o/\o.cls=.type (match b with | true => "list" | false => "tuple"):=by
 cases b <;>(obtain⟨o,ho,hc,_⟩:=x; exact⟨o,ho,hc⟩)
section
variable{prog:aL}{w:aT}{A:bu}{E:af->ai->Prop}{s:ai}
theorem zSj{i l:ag}{k:Nat}{its:Array af}{y:af}{Q:af->ai->Prop}(zi:s.heap.IsTupleIter i l k)(zl:s.heap.IsTuple l its)(zy:its[k]?=some y)
  (zq:∀ h',h'.IsTupleIter i l (k+1)->cP i s.heap h'->Q y { s with heap:=h' }):wpAny (model prog w) A (bp (.ref i)) Q E s:=by
 obtain⟨ob,zo,zc,zd⟩:=id zi;obtain⟨ot,zot,_,nt,zdt⟩:=zl;unfold bp;refine aa (bB (name:=bH "__next__") zi.typeIs dE (bE dE zi.typeIs gu ?_ (f8 _)));show wpAny _ _ (field (.ref i) 0 >>= _) _ _ s;refine aa (bg zo zd (x:=.ref l) rfl ?_);show wpAny _ _ (if (aK l == a7)=true then _ else _) _ _ s; rw[if_neg (show ¬ ((aK l == a7)=true) from aE)];show wpAny _ _ (field (.ref i) 1 >>= _) _ _ s;refine aa (bg zo zd (x:=.int k 0) rfl ?_);show wpAny _ _ (seqItems? (.ref l) >>= _) _ _ s; refine aa (cR zot zdt ?_);simp only[cg,zy];refine aa (dk zo zd (by simp) (ak ⟨y,rfl,ak (zq _ ?_ (fe ..))⟩));exact⟨_,cD _ zo (cY (cv zd _)),(eJ ..).trans zc,by rw[cv zd]; simp[rawInt]⟩
theorem zVj{i l:ag}{k:Nat}{its:Array af}{Q:af->ai->Prop}(hh:A.handled=none)(zi:s.heap.IsTupleIter i l k)(zl:s.heap.IsTuple l its)(zy:its[k]?=none)
  (zE:∀ h' e,fA i s.heap h'->(∃ o,h'.get? e=some o/\o.cls=.type "StopIteration")->E (.ref e) { s with heap:=h' }):wpAny (model prog w) A (bp (.ref i)) Q E s:=by
 obtain⟨ob,zo,zc,zd⟩:=id zi;obtain⟨ot,zot,_,nt,zdt⟩:=zl;unfold bp;refine aa (bB (name:=bH "__next__") zi.typeIs dE (bE dE zi.typeIs gu ?_ (f8 _)));show wpAny _ _ (field (.ref i) 0 >>= _) _ _ s;refine aa (bg zo zd (x:=.ref l) rfl ?_);show wpAny _ _ (if (aK l == a7)=true then _ else _) _ _ s; rw[if_neg (show ¬ ((aK l == a7)=true) from aE)];show wpAny _ _ (field (.ref i) 1 >>= _) _ _ s;refine aa (bg zo zd (x:=.int k 0) rfl ?_);show wpAny _ _ (seqItems? (.ref l) >>= _) _ _ s; refine aa (cR zot zdt ?_);simp only[cg,zy];refine aa (iA (aa (dk zo zd (by simp) ?_)));show wpAny _ _ (newExc (.type "StopIteration") [] >>= _) _ _ _; refine aa ?_; simp only[newExc,newTuple];refine aa (aW ?_ (by size_fits)); refine aa (m:=firstArgMember _ _) (eP (a:=a7) (by first | rfl | (simp only[firstArgMember]; rfl)) ?_);refine aW ?_ (by size_fits); simp only[raiseNew]; refine aa (jp ?_)
 first | rw[show A.in1.handled=none from hh] | rw[hh]
 refine aa (ak (kT ?_)); exact zE _ _ (((fe ..).extBut.push _).push _) ⟨_,ap _ rfl,rfl⟩
theorem zKz{b:Bool}{i l:ag}{k:Nat}{its:Array af}{y:af}{Q:af->ai->Prop}(zi:SI b s.heap i l k)(zl:SS b s.heap l its)(zy:its[k]?=some y)
  (zq:∀ h',SI b h' i l (k+1)->cP i s.heap h'->Q y { s with heap:=h' }):wpAny (model prog w) A (bp (.ref i)) Q E s:=by
 cases b
 ·exact zSj zi zl zy zq
 ·exact wpAny_nextOf_list_item zi zl zy zq
theorem zT2{b:Bool}{i l:ag}{k:Nat}{its:Array af}{Q:af->ai->Prop}(hh:A.handled=none)(zi:SI b s.heap i l k)(zl:SS b s.heap l its)(zy:its[k]?=none)
  (zE:∀ h' e,fA i s.heap h'->(∃ o,h'.get? e=some o/\o.cls=.type "StopIteration")->E (.ref e) { s with heap:=h' }):wpAny (model prog w) A (bp (.ref i)) Q E s:=by
 cases b
 ·exact zVj hh zi zl zy zE
 ·exact wpAny_nextOf_list_end hh zi zl zy zE
theorem zUe{b:Bool}{l:ag}{its:Array af}{Q:af->ai->Prop}(zl:SS b s.heap l its)(h:Q (.ref s.heap.objs.size) { s with heap:=s.heap.push { cls:=.type (zJn b),data:=.fields #[.ref l,.int 0 0] } }) :
  wpAny (model prog w) A (pyIter (.ref l)) Q E s:=by
 cases b
 ·exact gF zl h
 ·exact dP zl h

theorem zOv{b1 b2:Bool}{z TI TO i1 i2 l1 l2:ag}{k:Nat}{xs ys:Array af}{x y a b:af}{Q:af->ai->Prop}(D:ZipApart z TI TO i1 i2 l1 l2)
  (hz:ik s.heap z TI TO .none) (hI:eQ s.heap TI (.ref i1) (.ref i2)) (hO:eQ s.heap TO a b) (h1:SI b1 s.heap i1 l1 k) (h2:SI b2 s.heap i2 l2 k) (g1:SS b1 s.heap l1 xs) (g2:SS b2 s.heap l2 ys)
  (hx:xs[k]?=some x) (hy:ys[k]?=some y)
  (hQ:∀ h',ik h' z TI TO (rawInt s.heap.objs.size)->eQ h' TO x y->SI b1 h' i1 l1 (k+1)->SI b2 h' i2 l2 (k+1)->eQ h' s.heap.objs.size x y ->
   (∀ c o,c≠z->c≠TO->c≠i1->c≠i2->s.heap.get? c=some o->h'.get? c=some o)->Q (.ref s.heap.objs.size) { s with heap:=h' }) :
  wpAny (model prog w) A (eV.«zip.__next__» ⟨[.ref z],[]⟩) (λfin s'=>∃ v,fin=.done (.ret v)/\Q v s') E s:=by
 show wpAny _ _ (field (.ref z) 2 >>= _) _ _ _; refine aa (bg hz rfl (x:=.bool false) rfl ?_);show wpAny _ _ (field (.ref z) 3 >>= _) _ _ _; refine aa (bg hz rfl (x:=.ref TI) rfl ?_);refine aa (cR hI rfl ?_);show wpAny _ _ (cI (.ref z) >>= _) _ _ _; refine aa ?_; unfold cI;refine aa (bg hz rfl (x:=.none) rfl (ak ?_)); simp only[if_true];refine aa (iA ?_); refine aa (bg hz rfl (x:=.ref TO) rfl ?_);refine aa (dF hz (by simp) λk1 z1 s1=>?_); replace z1:ik k1 z TI TO .ellipsis:=z1;refine aa ?_; simp only[c9,lg,iH,lF];refine aa (aa (ie ?_)); show wpAny _ _ (bp (.ref i1) >>= _) _ _ _
 refine aa (zKz (h1.at λo e=>s1.extBut _ o D.i1z e) (g1.at λo e=>s1.extBut _ o D.l1z e) hx λk2 q2 s2=>ak ?_);have o2:eQ k2 TO a b:=s2.extBut _ _ D.TOi1 (s1.extBut _ _ D.TOz hO);refine aa (cR o2 rfl ?_);refine aa (fW o2 λk3 o3 s3=>?_); replace o3:eQ k3 TO x b:=o3;refine aa (kU (ak ?_)); refine aa (aa (ie ?_)); show wpAny _ _ (bp (.ref i2) >>= _) _ _ _
 refine aa (zKz (h2.at λo e=>s3.extBut _ o D.TOi2.symm (s2.extBut _ o D.i12.symm (s1.extBut _ o D.i2z e))) (g2.at λo e=>s3.extBut _ o D.l2TO (s2.extBut _ o D.l2i1 (s1.extBut _ o D.l2z e))) hy λk4 q4 s4=>ak ?_);have o4:eQ k4 TO x b:=s4.extBut _ _ D.TOi2 o3;refine aa (cR o4 rfl ?_);refine aa (fW o4 λk5 o5 s5=>?_); replace o5:eQ k5 TO x y:=o5;refine aa (kU (ak (ak ?_)));refine aa (cR o5 rfl ?_); refine aa (wpAny_newTuple ?_);have hsz:k5.objs.size=s.heap.objs.size:=by rw[s5.1,s4.1,s3.1,s2.1,s1.1]
 have z5:ik k5 z TI TO .ellipsis:=s5.extBut _ _ D.TOz.symm (s4.extBut _ _ D.i2z.symm (s3.extBut _ _ D.TOz.symm (s2.extBut _ _ D.i1z.symm z1)));have kp:∀ c o,c≠z->c≠TO->c≠i1->c≠i2->s.heap.get? c=some o->k5.get? c=some o:=λc o c1 c2 c3 c4 e=>s5.extBut _ _ c2 (s4.extBut _ _ c4 (s3.extBut _ _ c2 (s2.extBut _ _ c3 (s1.extBut _ _ c1 e))));have a5:SI b1 k5 i1 l1 (k+1):=q2.at λo e=>s5.extBut _ o D.TOi1.symm (s4.extBut _ o D.i12 (s3.extBut _ o D.TOi1.symm e));have b5:SI b2 k5 i2 l2 (k+1):=q4.at λo e=>s5.extBut _ o D.TOi2.symm e;have zlt:z<k5.objs.size:=az z5;show wpAny _ _ (ff (.ref z) (.ref k5.objs.size) >>= _) _ _ _; refine aa ?_; unfold ff;have z6:ik (k5.push { cls:=.type "tuple", data:=.seq #[x,y] }) z TI TO .ellipsis:=ah _ z5;refine aa (dF z6 (by simp) λk7 z7 s7=>?_); replace z7:ik k7 z TI TO (rawInt k5.objs.size):=z7;refine dF z7 (by simp) λk8 z8 s8=>?_; replace z8:ik k8 z TI TO (rawInt k5.objs.size):=z8;have up:∀ c o,c≠z->k5.get? c=some o->k8.get? c=some o:=λc o c1 e=>s8.extBut _ _ c1 (s7.extBut _ _ c1 (ah _ e));have t8:eQ k8 k5.objs.size x y:=s8.extBut _ _ (d3 zlt) (s7.extBut _ _ (d3 zlt) (ap _ rfl));rw[hsz] at z8 t8;refine ak ⟨_,rfl,?_⟩; show Q (.ref k5.objs.size) _
 rw[hsz];exact hQ k8 z8 (up _ _ D.TOz o5) (a5.at λo e=>up _ o D.i1z e) (b5.at λo e=>up _ o D.i2z e) t8 λc o c1 c2 c3 c4 e=>up c o c1 (kp c o c1 c2 c3 c4 e)
theorem zTr{b1 b2:Bool}{z TI TO i1 i2 l1 l2:ag}{k:Nat}{xs ys:Array af}{a b:af}{Q:Fin->ai->Prop}(hh:A.handled=none)(D:ZipApart z TI TO i1 i2 l1 l2)
  (hz:ik s.heap z TI TO .none) (hI:eQ s.heap TI (.ref i1) (.ref i2)) (hO:eQ s.heap TO a b) (h1:SI b1 s.heap i1 l1 k) (h2:SI b2 s.heap i2 l2 k) (g1:SS b1 s.heap l1 xs) (g2:SS b2 s.heap l2 ys)
  (hend:xs[k]?=none\/ys[k]?=none)
  (hE:∀ h' e,(∀ c o,c≠z->c≠TO->c≠i1->c≠i2->s.heap.get? c=some o->h'.get? c=some o)->(∃ o,h'.get? e=some o/\o.cls=.type "StopIteration")->E (.ref e) { s with heap:=h' }) :
  wpAny (model prog w) A (eV.«zip.__next__» ⟨[.ref z],[]⟩) Q E s:=by
 show wpAny _ _ (field (.ref z) 2 >>= _) _ _ _; refine aa (bg hz rfl (x:=.bool false) rfl ?_);show wpAny _ _ (field (.ref z) 3 >>= _) _ _ _; refine aa (bg hz rfl (x:=.ref TI) rfl ?_);refine aa (cR hI rfl ?_);show wpAny _ _ (cI (.ref z) >>= _) _ _ _; refine aa ?_; unfold cI;refine aa (bg hz rfl (x:=.none) rfl (ak ?_)); simp only[if_true];refine aa (iA ?_); refine aa (bg hz rfl (x:=.ref TO) rfl ?_);refine aa (dF hz (by simp) λk1 z1 s1=>?_); replace z1:ik k1 z TI TO .ellipsis:=z1;refine aa ?_; simp only[c9,lg,iH,lF];refine aa (aa (ie ?_)); show wpAny _ _ (bp (.ref i1) >>= _) _ _ _
 cases hx:xs[k]? with
 | none =>
  refine aa (zT2 hh (h1.at λo e=>s1.extBut _ o D.i1z e) (g1.at λo e=>s1.extBut _ o D.l1z e) hx λk2 e s2 he=>?_);obtain⟨oe,hoe,hce⟩:=he;have z2:ik k2 z TI TO .ellipsis:=s2 _ _ D.i1z.symm z1;have nez:e≠z:=λx=>by subst x; rw[z2] at hoe; cases hoe; simp at hce
  refine dF z2 (by simp) λk3 _ s3=>hE k3 e (λc o c1 _ c3 _ x=>s3.extBut _ _ c1 (s2 _ _ c3 (s1.extBut _ _ c1 x))) ⟨oe,s3.extBut _ _ nez hoe,hce⟩
 | some x =>
  have hy:ys[k]?=none:=by
   rcases hend with h | h
   ·rw[hx] at h; cases h
   ·exact h
  refine aa (zKz (h1.at λo e=>s1.extBut _ o D.i1z e) (g1.at λo e=>s1.extBut _ o D.l1z e) hx λk2 q2 s2=>ak ?_);have o2:eQ k2 TO a b:=s2.extBut _ _ D.TOi1 (s1.extBut _ _ D.TOz hO);refine aa (cR o2 rfl ?_); refine aa (fW o2 λk3 o3 s3=>?_);refine aa (kU (ak ?_)); refine aa (aa (ie ?_)); show wpAny _ _ (bp (.ref i2) >>= _) _ _ _
  refine aa (zT2 hh (h2.at λo e=>s3.extBut _ o D.TOi2.symm (s2.extBut _ o D.i12.symm (s1.extBut _ o D.i2z e))) (g2.at λo e=>s3.extBut _ o D.l2TO (s2.extBut _ o D.l2i1 (s1.extBut _ o D.l2z e))) hy λk4 e s4 he=>?_);obtain⟨oe,hoe,hce⟩:=he;have z4:ik k4 z TI TO .ellipsis:=s4 _ _ D.i2z.symm (s3.extBut _ _ D.TOz.symm (s2.extBut _ _ D.i1z.symm z1));have nez:e≠z:=λx=>by subst x; rw[z4] at hoe; cases hoe; simp at hce
  refine dF z4 (by simp) λk5 _ s5=>hE k5 e (λc o c1 c2 c3 c4 x=>s5.extBut _ _ c1 (s4 _ _ c4 (s3.extBut _ _ c2 (s2.extBut _ _ c3 (s1.extBut _ _ c1 x))))) ⟨oe,s5.extBut _ _ nez hoe,hce⟩
def zVn(b1 b2:Bool)(l1 l2:ag)(h:aV):aV :=
 ((((h.push { cls:=.type (zJn b1),data:=.fields #[.ref l1,.int 0 0] }).push { cls:=.type (zJn b2),data:=.fields #[.ref l2,.int 0 0] }).push { cls:=.type "tuple", data:=.seq #[.ref h.objs.size,.ref (h.objs.size+1)] }).push { cls:=.type "tuple", data:=.seq #[.none,.none] }).push { cls:=.type "zip", data:=.fields #[.none,.bool false,.bool false,.ref (h.objs.size+2),.ref (h.objs.size+3)] }
theorem zSs(b1 b2:Bool)(l1 l2:ag)(xs ys:Array af) :
  Meets (eV.«zip.__new__» ⟨[.type "zip", .ref l1,.ref l2],[]⟩) (λ_ R s=>SS b1 s.heap l1 xs/\SS b2 s.heap l2 ys /\
   R (.ok (.ret (.ref (s.heap.objs.size+4)))) { s with heap:=zVn b1 b2 l1 l2 s.heap }) :=
 .of_wp λprog w A R s h=>by
  obtain⟨hp,g,d,tk,os⟩:=s;obtain⟨hl1,hl2,h⟩:=h;have hsub:=sub_zip;have hL1:SS b1 (nh ⟨hp,g,d,tk,os⟩) l1 xs:=hl1;have hL2:SS b2 (nh ⟨hp.push { cls:=.type (zJn b1),data:=.fields #[.ref l1,.int 0 0] },g,d,tk,os⟩) l2 ys:=SS.at hl2 λo e=>ah _ e
  wp_walk using zUe hL1,zUe hL2
  exists _,rfl;simp only[zVn,dh] at h ⊢;exact h
theorem zPs{b1 b2:Bool}{l1 l2:ag}{xs ys:Array af}{Q:af->ai->Prop}(hl1:SS b1 s.heap l1 xs)(hl2:SS b2 s.heap l2 ys)
  (h:∀ h',ik h' (s.heap.objs.size+4) (s.heap.objs.size+2) (s.heap.objs.size+3) .none->eQ h' (s.heap.objs.size+2) (.ref s.heap.objs.size) (.ref (s.heap.objs.size+1))->eQ h' (s.heap.objs.size+3) .none .none ->
   SI b1 h' s.heap.objs.size l1 0->SI b2 h' (s.heap.objs.size+1) l2 0->(∀ c o,s.heap.get? c=some o->h'.get? c=some o)->Q (.ref (s.heap.objs.size+4)) { s with heap:=h' }) :
  wpAny (model prog w) A (call (.type "zip") [.ref l1,.ref l2]) Q E s:=by
 refine callType_new F.called_zip (by decide) (F.typeCall_zip_2 _ _) (F.newCall_zip_2 _ _) (λobj=>F.args_object_init_3 obj _ _) F.entry_zip_new (zSs b1 b2 l1 l2 xs ys) ⟨hl1,hl2,?_⟩;unfold zVn;generalize e1:s.heap.push { cls:=.type (zJn b1),data:=.fields #[.ref l1,.int 0 0] }=k1;have n1:k1.objs.size=s.heap.objs.size+1:=by rw[<- e1,dh]
 generalize e2:k1.push { cls:=.type (zJn b2),data:=.fields #[.ref l2,.int 0 0] }=k2;have n2:k2.objs.size=s.heap.objs.size+2:=by rw[<- e2,dh,n1]
 generalize e3:k2.push { cls:=.type "tuple", data:=.seq #[.ref s.heap.objs.size,.ref (s.heap.objs.size+1)] }=k3;have n3:k3.objs.size=s.heap.objs.size+3:=by rw[<- e3,dh,n2]
 generalize e4:k3.push { cls:=.type "tuple", data:=.seq #[.none,.none] }=k4;have n4:k4.objs.size=s.heap.objs.size+4:=by rw[<- e4,dh,n3]
 generalize e5:k4.push { cls:=.type "zip", data:=.fields #[.none,.bool false,.bool false,.ref (s.heap.objs.size+2),.ref (s.heap.objs.size+3)] }=k5;have u5:∀ c o,k4.get? c=some o->k5.get? c=some o:=λc o q=>e5 ▸ ah _ q;have u4:∀ c o,k3.get? c=some o->k5.get? c=some o:=λc o q=>u5 c o (e4 ▸ ah _ q);have u3:∀ c o,k2.get? c=some o->k5.get? c=some o:=λc o q=>u4 c o (e3 ▸ ah _ q);have u2:∀ c o,k1.get? c=some o->k5.get? c=some o:=λc o q=>u3 c o (e2 ▸ ah _ q);have u1:∀ c o,s.heap.get? c=some o->k5.get? c=some o:=λc o q=>u2 c o (e1 ▸ ah _ q);have g5:ik k5 (s.heap.objs.size+4) (s.heap.objs.size+2) (s.heap.objs.size+3) .none:=by
  rw[<- n4,<- e5];exact ap _ rfl
 have g4:eQ k5 (s.heap.objs.size+3) .none .none:=by
  rw[<- n3];exact u5 _ _ (by rw[<- e4]; exact ap _ rfl)
 have g3:eQ k5 (s.heap.objs.size+2) (.ref s.heap.objs.size) (.ref (s.heap.objs.size+1)):=by
  have q:=u4 k2.objs.size _ (by rw[<- e3]; exact ap _ rfl);rw[n2] at q;exact q
 have g2:SI b2 k5 (s.heap.objs.size+1) l2 0:=by
  rw[<- n1];exact SI.of ⟨_,u3 _ _ (by rw[<- e2]; exact ap _ rfl),rfl,rfl⟩
 have g1:SI b1 k5 s.heap.objs.size l1 0:=SI.of ⟨_,u2 _ _ (by rw[<- e1]; exact ap _ rfl),rfl,rfl⟩;exact⟨⟨_,g5,rfl⟩,h k5 g5 g3 g4 g1 g2 u1⟩
end
end L2

namespace L2
open PySem PySem.Spec PyProof.Rows
def SqB(b:Bool)(K:ae)(H:Hp)(l:ag)(xs:List V):Prop:=match b with | true=>SqL K H l xs | false=>SqT K H l xs
theorem Inv.sqB{X:Cx}{pins:List (ag×cA)}{σ:St}{H:Hp}{s:ai}{b:Bool}{l:ag}{xs:List V}(I:Inv X pins σ H s)(h:SqB b X.K H l xs):∃ its:List af,yY xs its/\SS b s.heap l its.toArray/\xs.length<=sizeLine:=by
 cases b with
 | true =>
  obtain⟨its,r,p,z⟩:=I.list h;exact⟨its,r,p.isList,z⟩
 | false =>
  obtain⟨its,r,p,z⟩:=I.tuple h;exact⟨its,r,p,z⟩
theorem Inv.sqB_inj{X:Cx}{pins:List (ag×cA)}{σ:St}{H:Hp}{s:ai}{b:Bool}{l:ag}{xs ys:List V}(I:Inv X pins σ H s)(h:SqB b X.K H l xs)(h':SqB b X.K H l ys):xs=ys:=by
 cases b with
 | true=>exact I.list_inj h h'
 | false=>exact I.tuple_inj h h'
def Itz(K:ae)(b1 b2:Bool)(l1 l2:ag):It :=
 ⟨λk H=>∃ xs ys x y,SqB b1 K H l1 xs/\SqB b2 K H l2 ys/\xs[k]?=some x/\ys[k]?=some y,
   λk H v H'=>∃ T x y,v=.ref T/\H T=none/\H'=upd H T (.tup [x,y])/\(∀ xs,SqB b1 K H l1 xs->xs[k]?=some x)/\(∀ ys,SqB b2 K H l2 ys->ys[k]?=some y),
   λk H=>∃ xs ys,SqB b1 K H l1 xs/\SqB b2 K H l2 ys/\(xs.length<=k\/ys.length<=k)⟩
theorem zSb{P:aL}{w:aT}{K:ae}{elts:List bj}{kt:Nat}{pt:fg}{b1 b2:Bool}{z TI TO i1 i2 l1 l2:ag}(D:ZipApart z TI TO i1 i2 l1 l2) :
  zUj P w K (.Tuple elts kt pt) (Itz K b1 b2 l1 l2) [z,TI,TO,i1,i2] z (λk h=>ik h z TI TO .none/\eQ h TI (.ref i1) (.ref i2)/\(∃ a b,eQ h TO a b)/\SI b1 h i1 l1 k/\SI b2 h i2 l2 k) where
 mem:=by simp
 obj:=λk h st b hb=>by
  obtain⟨hz,hI,⟨a',b',hO⟩,h1,h2⟩:=st;obtain⟨o1,g1,_,d1⟩:=h1.obj;obtain⟨o2,g2,_,d2⟩:=h2.obj;simp only[aI,bV,or_false] at hb;rcases hb with rfl | rfl | rfl | rfl | rfl
  ·exact⟨_,hz,λv e=>by cases e⟩
  ·exact⟨_,hI,λv e=>by cases e⟩
  ·exact⟨_,hO,λv e=>by cases e⟩
  ·exact⟨_,g1,λv e=>by rw[d1] at e; cases e⟩
  ·exact⟨_,g2,λv e=>by rw[d2] at e; cases e⟩
 keep:=λk h h' st kp=>by
  obtain⟨hz,hI,⟨a',b',hO⟩,h1,h2⟩:=st;exact⟨kp z (by simp) _ hz,kp TI (by simp) _ hI,⟨a',b',kp TO (by simp) _ hO⟩,h1.at λo e=>kp i1 (by simp) o e,h2.at λo e=>kp i2 (by simp) o e⟩
 item:=by
  intro X hP hw hK hc k pins s σ H E I hf st hg;subst hP hw hK;obtain⟨hz,hI,⟨a',b',hO⟩,h1,h2⟩:=st;obtain⟨xs,ys,x,y,q1,q2,hx,hy⟩:=hg;obtain⟨its1,r1,p1,_⟩:=I.sqB q1;obtain⟨its2,r2,p2,_⟩:=I.sqB q2;obtain⟨u1,e1,v1⟩:=r1.get hx;obtain⟨u2,e2,v2⟩:=r2.get hy;have hT:s.TypeIs (.ref z) "zip" :=⟨_,hz,rfl⟩;have fresh:H s.heap.objs.size=none:=I.hok.fresh (am _);unfold pyNext;refine aa (dR (bB (name:=bH "__next__") hT f9 (bE f9 hT kF (zOv D hz hI hO h1 h2 p1 p2 (by simpa using e1) (by simpa using e2) λh' z1 o1 j1 j2 t1 kp=>ak ?_) (jS _))));refine⟨_,rfl,wpAny_letOwnedTupleGo_zip z1 λh2' z2 sb=>?_⟩;have kp2:∀ c o,c ∉ [z,TO,i1,i2]->s.heap.get? c=some o->h2'.get? c=some o:=λc o hc e=>by
   simp only[aI,bV,or_false,not_or] at hc;exact sb.extBut c o hc.1 (kp c o hc.1 hc.2.1 hc.2.2.1 hc.2.2.2 e)
  have nH:∀ c∈[z,TO,i1,i2],c∈[z,TI,TO,i1,i2]:=λc hc=>by
   simp only[aI,bV,or_false] at hc ⊢;rcases hc with e | e | e | e <;> simp[e]
  have neT:∀ b o,s.heap.get? b=some o->b≠s.heap.objs.size:=λb o e=>aQ (az e);have neH:∀ b o,H b=some o->b ∉ [z,TO,i1,i2]:=λb o e hb=>by
   rw[(hf b (nH b hb)).1] at e;cases e
  have upn:∀ b o,H b=some o->upd H s.heap.objs.size (.tup [x,y]) b=some o:=λb o e=>by
   rw[zG (zK e fresh)];exact e
  refine⟨.ref s.heap.objs.size,upd H s.heap.objs.size (.tup [x,y]),?_,rfl,⟨_,x,y,rfl,fresh,rfl,λzs hz'=>by rw[I.sqB_inj hz' q1]; exact hx,λzs hz'=>by rw[I.sqB_inj hz' q2]; exact hy⟩,?_,λb hb=>?_⟩
  ·refine Inv.step (s:=s) (h':=h2') (g':=s.gens) (d':=s.drawn) (t':=s.toks) (ch:=[z,TO,i1,i2]) I (λb hb=>?_) (λb o _ _ hc e _=>kp2 b o hc e) (λb o _ _ hc e _=>⟨o.slots,kp2 b o hc e⟩) (λb o _ e n=>?_) (λb o hc e=>⟨o,kp2 b o hc e⟩)
    (λb zs e=>upn b _ e) (λb o zs e=>upn b _ e) (λb ps e=>⟨#[],by rw[upn b _ e]; simp⟩) (λm hm=>?_) (λb o e=>?_) I.bare
   ·obtain⟨_,f1,_,f3,f4,f5⟩:=hf b (nH b hb);exact⟨f3,f1,f4,f5⟩
   ·rw[zG (neT b o e)];exact n
   ·obtain⟨o,es,ep,ho,r⟩:=hm;refine⟨o,es,ep,kp2 _ o (λhb=>?_) ho,r⟩;exact(hf _ (nH _ hb)).2.1 rfl
   ·by_cases hb:b=s.heap.objs.size
    ·subst hb;rw[zA] at e;cases e;exact⟨by show 2<=sizeLine; decide,[u1,u2],.cons v1 (.cons v2 .nil),_,sb.extBut _ _ (d3 (az hz)) t1,rfl,_,rfl⟩
    ·rw[zG hb] at e;refine(I.hok b o e).stay (λc u hc q=>kp2 c u ?_ q) (λc q=>upn c _ q) λc zs q=>upn c _ q;rcases hc with hc | hc
     ·rw[hc]; exact neH b o e
     ·exact neH c _ hc
  ·exact⟨z2,sb.extBut _ _ D.TIz (kp _ _ D.TIz D.TITO D.TIi1 D.TIi2 hI),⟨_,_,sb.extBut _ _ D.TOz o1⟩,j1.at λo e=>sb.extBut _ o D.i1z e,j2.at λo e=>sb.extBut _ o D.i2z e⟩
  ·obtain⟨o,e,_⟩:∃ o,s.heap.get? b=some o/\True:=by
    obtain⟨o1,g1,_⟩:=h1.obj;obtain⟨o2,g2,_⟩:=h2.obj;simp only[aI,bV,or_false] at hb;rcases hb with rfl | rfl | rfl | rfl | rfl
    ·exact⟨_,hz,trivial⟩
    ·exact⟨_,hI,trivial⟩
    ·exact⟨_,hO,trivial⟩
    ·exact⟨_,g1,trivial⟩
    ·exact⟨_,g2,trivial⟩
   rw[zG (neT b o e)];exact(hf b hb).1
 done:=by
  intro X hP hw hK hc k pins s σ H E I hf st hg;subst hP hw hK;obtain⟨hz,hI,⟨a',b',hO⟩,h1,h2⟩:=st;obtain⟨xs,ys,q1,q2,hend⟩:=hg;obtain⟨its1,r1,p1,_⟩:=I.sqB q1;obtain⟨its2,r2,p2,_⟩:=I.sqB q2;have hT:s.TypeIs (.ref z) "zip" :=⟨_,hz,rfl⟩;have hend':its1.toArray[k]?=none\/its2.toArray[k]?=none:=by
   have l1':=r1.length;have l2':=r2.length;rcases hend with h | h
   ·exact .inl (d4 (by rw[aG]; lia))
   ·exact .inr (d4 (by rw[aG]; lia))
  have nH:∀ c∈[z,TO,i1,i2],c∈[z,TI,TO,i1,i2]:=λc hc=>by
   simp only[aI,bV,or_false] at hc ⊢;rcases hc with e | e | e | e <;> simp[e]
  have neH:∀ b o,H b=some o->b ∉ [z,TO,i1,i2]:=λb o e hb=>by
   rw[(hf b (nH b hb)).1] at e;cases e
  unfold pyNext;refine aa (dR (bB (name:=bH "__next__") hT f9 (bE f9 hT kF (zTr (I.ok.hd hc) D hz hI hO h1 h2 p1 p2 hend' λh' e kp he=>?_) (jS _))));obtain⟨oe,hoe,hce⟩:=he;refine aa (fR (T := "StopIteration") (b:=true) ⟨oe,hoe,hce⟩ isSubtype_stop (ak ⟨rfl,?_⟩));have kp2:∀ c o,c ∉ [z,TO,i1,i2]->s.heap.get? c=some o->h'.get? c=some o:=λc o hc e=>by
   simp only[aI,bV,or_false,not_or] at hc;exact kp c o hc.1 hc.2.1 hc.2.2.1 hc.2.2.2 e
  refine I.step (g':=s.gens) (d':=s.drawn) (t':=s.toks) (ch:=[z,TO,i1,i2]) (λb hb=>?_) (λb o _ _ hc e _=>kp2 b o hc e) (λb o _ _ hc e _=>⟨o.slots,kp2 b o hc e⟩) (λb o _ e n=>n) (λb o hc e=>⟨o,kp2 b o hc e⟩)
   (λb zs e=>e) (λb o zs e=>e) (λb ps e=>⟨#[],by rw[e]; simp⟩) (λm hm=>?_) (λb o e=>?_) I.bare
  ·obtain⟨_,f1,_,f3,f4,f5⟩:=hf b (nH b hb);exact⟨f3,f1,f4,f5⟩
  ·obtain⟨o,es,ep,ho,r⟩:=hm;refine⟨o,es,ep,kp2 _ o (λhb=>?_) ho,r⟩;exact(hf _ (nH _ hb)).2.1 rfl
  ·refine(I.hok b o e).stay (λc u hc q=>kp2 c u ?_ q) (λc q=>q) λc zs q=>q;rcases hc with hc | hc
   ·rw[hc]; exact neH b o e
   ·exact neH c _ hc
 self:=λ_ _ _ _ _ st h=>kG st.1 h
section
variable{X:Cx}
def iZip(K:ae)(ta:TA):TI:=λσ H R=>ta σ H λvs H1=>∃(b1 b2:Bool)(l1 l2:ag)(xs ys:List V),vs=[.ref l1,.ref l2]/\SqB b1 K H1 l1 xs/\SqB b2 K H1 l2 ys/\R (Itz K b1 b2 l1 l2) H1
theorem zXi{elts:List bj}{kt:Nat}{pt:fg}{a b:bj}{ta:TA}{p pos:fg}(hg:Gl X "zip")(hm:X.mg "zip" = none)(ha:PA X [a,b] ta)(hs:starEach [a,b] X.env=[(false,eval a X.env),(false,eval b X.env)]:=by rfl)(hs2:starEach [b] X.env=[(false,eval b X.env)]:=by rfl) :
  PI X (.Tuple elts kt pt) (.Call (.Name "zip" p) [a,b] [] pos) (iZip X.K ta):=by
 intro pins s σ H R I h;refine Call_ (zGn I hg hm zXa (dz (thn (ha pos pins s σ H _ I h) λus s1 ⟨vs,H1,I1,r1,q1⟩=>?_) (by rw[hs,hs2]) (by rw[hs2]; rfl)));obtain⟨b1,b2,l1,l2,xs,ys,e,g1,g2,q⟩:=q1;subst e;obtain⟨u1,u2,rfl,v1,v2⟩:=yY.two r1;cases v1;cases v2;obtain⟨its1,_,p1,_⟩:=I1.sqB g1;obtain⟨its2,_,p2,_⟩:=I1.sqB g2;have a1:l1<s1.heap.objs.size:=by
  obtain⟨o,e,_⟩:=p1.obj;exact az e
 have a2:l2<s1.heap.objs.size:=by
  obtain⟨o,e,_⟩:=p2.obj;exact az e
 refine zPs p1 p2 λh' hz hI hO j1 j2 kp=>?_;refine kG hz ?_;refine⟨_,_,_,_,H1,rfl,I1.kept (t':=s1.toks) kp,zSb (zipApart_new a1 a2),⟨hz,hI,⟨_,_,hO⟩,j1,j2⟩,λb hb=>?_,q⟩;have hge:s1.heap.objs.size<=b:=by
  simp only[aI,bV,or_false] at hb;rcases hb with rfl | rfl | rfl | rfl | rfl <;> lia
 exact I1.fpOk hge (I1.hok.fresh hge)
end
section
variable{K:ae}{b1 b2:Bool}{l1 l2 D:ag}{xs ys:List V}{g:TG}{tt:TT}{te:TE}{σ0:St}{H1:Hp}{Q:VK}
theorem zS5(Pv:Nat->St->List V->Hp->Prop)(h0:Pv 0 σ0 [] (upd H1 D (.lst [])))(hl:∀ i σ zs H,Pv i σ zs H->SqB b1 K H l1 xs/\SqB b2 K H l2 ys/\H D=some (.lst zs))
  (hs:∀ i x y T σ zs H,xs[i]?=some x->ys[i]?=some y->H T=none->Pv i σ zs H->g (.ref T) σ (upd H T (.tup [x,y])) λσ2 H2=>tt σ2 H2 λb H3 =>
   if b=true then te σ2 H3 λz H4=>H4 D=some (.lst zs)/\zs.length<sizeLine/\Pv (i+1) σ2 (zs++[z]) (upd H4 D (.lst (zs++[z]))) else Pv (i+1) σ2 zs H3)
  (hd:∀ σ zs H,Pv (min xs.length ys.length) σ zs H->Q (.ref D) H):zCv (Itz K b1 b2 l1 l2) D g tt te σ0 H1 Q:=by
 exists λi m σ zs H=>m=min xs.length ys.length-i/\i<=min xs.length ys.length/\Pv i σ zs H,⟨_,rfl,bf _,h0⟩;rintro i m σ zs H ⟨rfl,hi,p⟩;obtain⟨q1,q2,qd⟩:=hl i σ zs H p;exists qd;by_cases hlt:i<min xs.length ys.length
 ·have c1:i<xs.length:=by lia
  have c2:i<ys.length:=by lia
  refine .inr ⟨⟨xs,ys,xs[i],ys[i],q1,q2,by simp[c1],by simp[c2]⟩,Pv (i+1),λσ' zs' H' z=>⟨min xs.length ys.length-(i+1),by lia,rfl,hlt,z⟩,λv H' y=>?_⟩;obtain⟨T,x,y,rfl,hT,rfl,y1,y2⟩:=y;exact hs i x y T σ zs H (y1 xs q1) (y2 ys q2) hT p
 ·have e:i=min xs.length ys.length:=by lia
  subst e;exact .inl ⟨⟨xs,ys,q1,q2,by lia⟩,hd σ zs H p⟩
theorem zJ6(Pv:Nat->St->List V->Hp->Prop)(h0:Pv 0 σ0 [] (upd H1 D (.lst [])))(hl:∀ i σ zs H,Pv i σ zs H->SqB b1 K H l1 xs/\SqB b2 K H l2 ys/\H D=some (.lst zs))
  (hs:∀ i x y T σ zs H,xs[i]?=some x->ys[i]?=some y->H T=none->Pv i σ zs H->g (.ref T) σ (upd H T (.tup [x,y])) λσ2 H2=>te σ2 H2 λz H4=>H4 D=some (.lst zs)/\zs.length<sizeLine/\Pv (i+1) σ2 (zs++[z]) (upd H4 D (.lst (zs++[z]))))
  (hd:∀ σ zs H,Pv (min xs.length ys.length) σ zs H->Q (.ref D) H):zCv (Itz K b1 b2 l1 l2) D g zWu te σ0 H1 Q:=zS5 Pv h0 hl (λi x y T σ zs H e1 e2 e3 p=>hs i x y T σ zs H e1 e2 e3 p) hd
end
end L2

namespace L2
open PySem PySem.Spec PyProof.Rows
theorem ifD{p A B:Prop}[Decidable p](h1:p->A)(h2:¬ p->B):if decide p=true then A else B:=by
 by_cases h:p
 ·rw[if_pos (decide_eq_true h)]; exact h1 h
 ·rw[if_neg (by rw[decide_eq_false h]; exact aE)]; exact h2 h
theorem ifN{p A B:Prop}[Decidable p](h1:¬ p->A)(h2:p->B):if (!decide p)=true then A else B:=by
 by_cases h:p
 ·rw[if_neg (by rw[decide_eq_true h]; exact aE)]; exact h2 h
 ·rw[if_pos (by rw[decide_eq_false h]; rfl)]; exact h1 h
theorem ifE{x y:Int}{A B:Prop}(h1:x=y->A)(h2:x≠y->B):if decide (V.int x=V.int y)=true then A else B :=
 ifD (λh=>h1 (V.int.inj h)) λh=>h2 λe=>h (congrArg V.int e)
theorem decI{x y:Int}(h:x=y):decide (V.int x=V.int y)=true:=decide_eq_true (congrArg V.int h)
theorem zB{H:Hp}{p:ag}(h:H p=none)(o:HO):Same H (upd H p o):=λb u q=>by rw[zG (zK q h)]; exact q
theorem zCq{ns:List Int}{i:Nat}{x:V}(h:(ns.map V.int)[i]?=some x):∃ n,ns[i]?=some n/\x=.int n:=by
 rw[av] at h;cases e:ns[i]? with
 | none=>rw[e] at h; cases h
 | some n=>rw[e] at h; exact⟨n,rfl,(aZ h).symm⟩
theorem sQ{n:Nat}(h:n<=1000):n<=sizeLine:=dZ (zT h)
theorem SqT.same{K:ae}{H H':Hp}{a:ag}{xs:List V}(h:SqT K H a xs)(e:Same H H'):SqT K H' a xs:=by
 rcases h with h | h
 ·rcases h with h | ⟨o,h⟩
  ·exact .inl (.inl (e _ _ h))
  ·exact .inl (.inr ⟨o,e _ _ h⟩)
 ·exact .inr h
def zTp(t:TT):Prop:=∀(σ:St)(H:Hp)(Q Q':Bool->Hp->Prop),(∀ b H1,Q b H1->Q' b H1)->t σ H Q->t σ H Q'
def zJ5(t:TE):Prop:=∀(σ:St)(H:Hp)(Q Q':VK),(∀ b H1,Q b H1->Q' b H1)->t σ H Q->t σ H Q'
def zSk(t:TA):Prop:=∀(σ:St)(H:Hp)(Q Q':List V->Hp->Prop),(∀ b H1,Q b H1->Q' b H1)->t σ H Q->t σ H Q'
def zXf(r:R2):Prop:=∀(x y:V)(H:Hp)(Q Q':VK),(∀ b H1,Q b H1->Q' b H1)->r x y H Q->r x y H Q'
def zXx(r:List V->Hp->VK->Prop):Prop:=∀(xs:List V)(H:Hp)(Q Q':VK),(∀ b H1,Q b H1->Q' b H1)->r xs H Q->r xs H Q'
theorem zJx{i:Nat} : zJ5 (zWy i):=λ_ _ _ _ hq ⟨v,e,z⟩=>⟨v,e,hq _ _ z⟩
theorem mo_c{v:V} : zJ5 (tC v):=λ_ _ _ _ hq z=>hq _ _ z
theorem zVo{r:R2}{ta tb:TE}(hr:zXf r)(ha:zJ5 ta)(hb:zJ5 tb):zJ5 (tOp r ta tb):=λσ _ _ _ hq z=>ha σ _ _ _ (λ_ _ z=>hb σ _ _ _ (λ_ _ z=>hr _ _ _ _ _ hq z) z) z
theorem zVa{g:Int->Int->V} : zXf (rI0 g):=λ_ _ _ _ _ hq ⟨i,j,e1,e2,z⟩=>⟨i,j,e1,e2,hq _ _ z⟩
theorem zLl{t:TE}(h:zJ5 t):zTp (zVf t):=λσ _ _ _ hq z=>h σ _ _ _ (λ_ _ ⟨k,e,z⟩=>⟨k,e,hq _ _ z⟩) z
theorem zX0{t u:TT}(h:zTp t)(h':zTp u):zTp (tAnd t u):=λσ _ _ _ hq z=>h σ _ _ _ (λb _ z=>by
 cases b with
 | true=>exact h' σ _ _ _ hq z
 | false=>exact hq _ _ z) z
theorem zT5:zSk zXp:=λ_ _ _ _ hq z=>hq _ _ z
theorem zRj{te:TE}{ta:TA}(h:zJ5 te)(h':zSk ta):zSk (zU5 te ta):=λσ _ _ _ hq z=>h σ _ _ _ (λ_ _ z=>h' σ _ _ _ (λ_ _ z=>hq _ _ z) z) z
theorem zYh{r:List V->Hp->VK->Prop}{t:TA}(hr:zXx r)(h:zSk t):zJ5 (tCB r t):=λσ _ _ _ hq z=>h σ _ _ _ (λ_ _ z=>hr _ _ _ _ hq z) z
theorem zUw{K:ae} : zXx (λxs H Q=>∃ p ys,xs=[.ref p]/\(SqL K H p ys\/SqT K H p ys)/\Q (.int ys.length) H):=λ_ _ _ _ hq ⟨p,ys,e,s,z⟩=>⟨p,ys,e,s,hq _ _ z⟩
theorem zJ2(ns:List Int)(lo hi:Option Int):zKo (ns.map V.int) lo hi=((ns.drop (HT.sIx ns.length 0 lo)).take (HT.sIx ns.length ns.length hi-HT.sIx ns.length 0 lo)).map V.int:=by
 unfold zKo;rw[ac,List.map_take,List.map_drop]
end L2

namespace L2
open PySem PySem.Spec PyProof.Rows
theorem zUy{A:bu}{s:ai}{xs ys:List Int}{us ws:List af}(r1:yY (xs.map V.int) us)(r2:yY (ys.map V.int) ws):∀ j (h1:j<us.toArray.size) (h2:j<ws.toArray.size),
  jA A s us.toArray[j] ws.toArray[j] (decide (xs[j]?=ys[j]?)):=λj h1 h2=>by
 have l1:=r1.length;have l2:=r2.length;rw[ac] at l1 l2;have g1:j<us.length:=by simpa using h1
 have g2:j<ws.length:=by simpa using h2
 have k1:j<xs.length:=by lia
 have k2:j<ys.length:=by lia
 obtain⟨u,hu,t,ru⟩:=r1.get (i:=j) (x:=.int xs[j]) (by rw[av,aj k1]; rfl);obtain⟨w,hw,t',rw'⟩:=r2.get (i:=j) (x:=.int ys[j]) (by rw[av,aj k2]; rfl);have e1:us.toArray[j]=.int xs[j] t:=by
  have z:=aj g1;rw[hu] at z;rw[i5,<- aZ z,ru]
 have e2:ws.toArray[j]=.int ys[j] t':=by
  have z:=aj g2;rw[hw] at z;rw[i5,<- aZ z,rw']
 rw[e1,e2];have e3:decide (xs[j]?=ys[j]?)=(xs[j] == ys[j]):=by
  rw[aj k1,aj k2];by_cases h:xs[j]=ys[j]
  ·rw[h]; simp
  ·rw[decide_eq_false (λz=>h (aZ z))];exact(beq_eq_false_iff_ne.mpr h).symm
 rw[e3];exact jB _ _ _ _
theorem zU9{xs ys:List Int} : ((bx (min xs.length ys.length)).all (λj=>decide (xs[j]?=ys[j]?))&&xs.length == ys.length)=decide (xs=ys):=by
 by_cases h:xs=ys
 ·subst h;rw[decide_eq_true rfl,aY];exact⟨br.mpr λj _=>decide_eq_true rfl,by simp⟩
 ·rw[decide_eq_false h,Bool.and_eq_false_iff];by_cases hl:xs.length=ys.length
  ·left;rw[g8];intro z;apply h;rw[br] at z;refine g9 λj=>?_;by_cases hj:j<xs.length
   ·exact of_decide_eq_true (z j (b7.mpr (by lia)))
   ·rw[ce (by lia),ce (by lia)]
  ·right;exact beq_eq_false_iff_ne.mpr hl
section
variable{X:Cx}
def rEqT(K:ae)(neg:Bool):R2:=λx y H Q=>∃(a b:ag)(xs ys:List Int),x=.ref a/\y=.ref b/\SqT K H a (xs.map V.int)/\SqT K H b (ys.map V.int)/\Q (.bl (if neg then !decide (xs=ys) else decide (xs=ys))) H
theorem zMi(hu:X.A.units<cLine):OpR X (compareOp .Eq) (rEqT X.K false):=by
 intro pins s σ H x y v u Q I rx ry h;obtain⟨a,b,xs,ys,rfl,rfl,h1,h2,q⟩:=h;cases rx;cases ry;obtain⟨us,r1,p1,_⟩:=I.tuple h1;obtain⟨ws,r2,p2,_⟩:=I.tuple h2;refine SeqAt.eq_tupleAt (e:=λj=>decide (xs[j]?=ys[j]?)) (show s.heap.IsTuple a us.toArray from p1) (show s.heap.IsTuple b ws.toArray from p2) hu (zUy r1 r2) ?_;have l1:=r1.length;have l2:=r2.length;rw[ac] at l1 l2;rw[aG,aG,<- l1,<- l2,zU9];exact⟨.bl (decide (xs=ys)),H,I,rfl,q⟩
end
end L2
namespace L2
open PySem
theorem zGl{rows:List Int}{P:Int->Prop}(bd:∀ x∈rows,P x){k:Int}(k0:0<=k)(k1:k<rows.length):∃ v:Int,atI (rows.map V.int) k=some (.int v)/\P v:=by
 have hk:k.toNat<rows.length:=by lia
 refine⟨rows[k.toNat],?_,bd _ (eY hk)⟩;have q:atI (rows.map V.int) ((k.toNat:Nat):Int)=some (.int rows[k.toNat]):=zFk (by rw[av,aj hk] <;> rfl);rw[show((k.toNat:Nat):Int)=k from by lia] at q;exact q
end L2
namespace L2
end L2

namespace L2
open PySem PySem.Spec PyProof.Rows
end L2

namespace L2
open PySem PySem.Spec PyProof.Rows
end L2

namespace L2
open PySem PySem.Spec PyProof.Rows
theorem zEu{xs:List V}{us:List af}(r:yY xs us):∀ is:List Nat,yY (is.filterMap λi=>xs[i]?) (is.filterMap λi=>us[i]?)
 | []=>.nil
 | i::is=>by
  cases e:xs[i]? with
  | none =>
   rw[cJ e,cJ (yY.none_of r e)];exact zEu r is
  | some x =>
   obtain⟨u,eu,ru⟩:=r.get e;rw[cb e,cb eu];exact .cons ru (zEu r is)
theorem zQz:∀{rs:List ag}{us:List af},yY (rs.map V.ref) us->us=rs.map aK
 | [],_,r=>by cases r; rfl
 | a::rs,_,r=>by
  cases r with
  | cons r1 r2 =>
   cases r1;rw[zQz r2];rfl
section
variable{X:Cx}
theorem zI3(n:Nat):(bx n).all (λ_=>true)=true:=br.mpr λ_ _=>rfl
end
theorem Same.putNew{H H4:Hp}{D:ag}{o:HO}(s:Same H H4)(h:H D=none):Same H (upd H4 D o):=λb u q=>by
 rw[zG (zK q h)];exact s _ _ q
abbrev Pr:=ag×Int×Int
abbrev wQ(ps:List Pr):List V:=(ps.map (·.1)).map V.ref
def zW1(H:Hp)(M:Nat)(ps:List Pr):Prop:=∀ t∈ps,H t.1=some (.tup [.int t.2.1,.int t.2.2])/\t.2.1.natAbs<=M/\t.2.2.natAbs<=M
theorem zW1.same{H H':Hp}{M:Nat}{ps:List Pr}(h:zW1 H M ps)(s:Same H H'):zW1 H' M ps:=λt ht=>⟨s _ _ (h t ht).1,(h t ht).2⟩
theorem xN(ps:List Pr):(wQ ps).length=ps.length:=by simp[wQ]
theorem zFr{ps:List Pr}{i:Nat}{k:Int}(e:k=i)(h:i<ps.length):∃ t,t∈ps/\ps[i]?=some t/\atI (wQ ps) k=some (.ref t.1):=by
 refine⟨ps[i],eY h,aj h,?_⟩;rw[e];exact zFk (by rw[av,av,aj h] <;> rfl)
end L2

namespace L2
open PySem
def crs(p q r:Int×Int):Int:=(q.1-p.1)*(r.2-p.2)-(q.2-p.2)*(r.1-p.1)
def ptA(ps:List (ag×Int×Int))(i:Nat):Int×Int:=((ps[i]?).map (·.2)).getD (0,0)
theorem zQ4{ps:List (ag×Int×Int)}{i:Nat}{t:ag×Int×Int}(h:ps[i]?=some t):ptA ps i=t.2:=by
 unfold ptA;rw[h];rfl
def zPm(ps:List (ag×Int×Int))(i k:Nat):Bool:=decide (0<crs (ptA ps i) (ptA ps ((i+1)%ps.length)) (ptA ps k))
def tT(ps:List (ag×Int×Int))(i:Nat):Bool:=(bx (ps.length-2)).all λj=>zPm ps i ((i+(2+j))%ps.length)
def isB(ps:List (ag×Int×Int)):Bool:=decide (3<=ps.length)&&(decide (ps.length<=8)&&(bx ps.length).all (tT ps))
end L2

namespace PySem.W
open PySem PySem.Calls PyProof.Rows
section
variable{O:KeyOrd}(key:Nat->O.α)
structure PIn(n:Nat)(p:Array Nat):Prop where
 perm:p.Perm (ar (bx n))
variable{key}{n:Nat}
end
end PySem.W

namespace L2
open PySem PySem.Spec PyProof.Rows PySem.W
theorem zB3:∀ rs:List ag,yY (rs.map V.ref) (rs.map aK)
 | []=>.nil
 | _::rs=>.cons rfl (zB3 rs)
section
variable{X:Cx}
theorem sK:bootBuiltins "sorted" = some (.builtin "sorted"):=by decide +kernel
end
end L2
namespace L2
open PySem PySem.Spec PyProof.Rows
end L2

namespace L2
open PySem PySem.Spec PyProof.Rows
section
variable{κ:Type}[DecidableEq κ]
def wT(kvs:List (κ×V))(k:κ):Option V:=(kvs.find? λkv=>decide (kv.1=k)).map (·.2)
def sY(kvs:List (κ×V))(k:κ)(v:V):List (κ×V) :=
 if (kvs.any λkv=>decide (kv.1=k))=true then kvs.map (λkv=>if kv.1=k then(kv.1,v) else kv) else kvs++[(k,v)]
def zDk(kvs:List (κ×V))(k:κ):List (κ×V):=kvs.filter λkv=>decide (kv.1≠k)

theorem wX{p:κ×V}{r:List (κ×V)}{k:κ}(e:p.1=k):wT (p::r) k=some p.2:=by simp[wT,bL,e]
theorem wK{p:κ×V}{r:List (κ×V)}{k:κ}(e:¬ p.1=k):wT (p::r) k=wT r k:=by simp[wT,bL,e]
theorem zD7(k:κ):∀ kvs:List (κ×V),(kvs.any λkv=>decide (kv.1=k))=(wT kvs k).isSome
 | []=>rfl
 | p::r=>by
  rw[cH];by_cases e:p.1=k
  ·simp only[wX e,decide_eq_true e,Bool.true_or,Option.isSome_some]
  ·rw[wK e,decide_eq_false e,Bool.false_or]; exact zD7 k r
theorem zLu(k j:κ)(y:V):∀ kvs:List (κ×V),wT (kvs.map λkv=>if kv.1=k then(kv.1,y) else kv) j=(wT kvs j).map λx=>if j=k then y else x
 | []=>rfl
 | p::r=>by
  have ih:=zLu k j y r;rw[aM];by_cases h:p.1=k
  ·rw[if_pos h];by_cases e:p.1=j
   ·rw[wX (p:=(p.1,y)) e,wX e,eh,if_pos (e.symm.trans h)]
   ·rw[wK (p:=(p.1,y)) e,wK e,ih]
  ·rw[if_neg h];by_cases e:p.1=j
   ·rw[wX (p:=p) e,wX e,eh,if_neg (λz=>h (e.trans z))]
   ·rw[wK (p:=p) e,wK e,ih]
theorem zJe(k j:κ)(y:V):∀ kvs:List (κ×V),wT kvs k=none->wT (kvs++[(k,y)]) j=if j=k then some y else wT kvs j
 | [],_=>by
  by_cases e:k=j
  ·rw[if_pos e.symm]; exact wX (p:=(k,y)) e
  ·rw[if_neg (λz=>e z.symm)]; exact wK (p:=(k,y)) e
 | p::r,hn=>by
  rw[kH];have hk:¬ p.1=k:=λz=>by rw[wX z] at hn; cases hn
  rw[wK hk] at hn;have ih:=zJe k j y r hn;by_cases e:p.1=j
  ·rw[wX e,wX e,if_neg (λz=>hk (e.trans z))]
  ·rw[wK e,wK e,ih]
theorem zL4(kvs:List (κ×V))(k j:κ)(y:V):wT (sY kvs k y) j=if j=k then some y else wT kvs j:=by
 unfold sY;by_cases a:(kvs.any λkv=>decide (kv.1=k))=true
 ·rw[if_pos a,zLu];rw[zD7] at a;by_cases e:j=k
  ·obtain⟨x,hx⟩:=aP.mp a;rw[if_pos e,e,hx,eh,if_pos rfl]
  ·rw[if_neg e];cases wT kvs j with
   | none=>rfl
   | some x=>rw[eh,if_neg e]
 ·rw[if_neg a];refine zJe k j y kvs ?_;rw[zD7] at a;cases q:wT kvs k with
  | none=>rfl
  | some x=>rw[q] at a; exact(a rfl).elim
theorem zA1(kvs:List (κ×V))(k:κ)(v:V):(sY kvs k v).length<=kvs.length+1:=by
 unfold sY;split
 ·rw[ac]; lia
 ·rw[al,aS,cT]; lia
theorem zH7.isSome_eq{o:Option V}{u:Option af}(r:zH7 o u):o.isSome=u.isSome:=by
 cases o with
 | none=>cases u with
  | none=>rfl
  | some _=>exact(show False from r).elim
 | some _=>cases u with
  | none=>exact(show False from r).elim
  | some _=>rfl
theorem KV.val{kvs:List (κ×V)}{vs:List (κ×af)}(r:KV kvs vs)(k:κ):zH7 (wT kvs k) (valueAt vs k):=by
 unfold KV at r
 induction r with
 | nil=>exact bo
 | @cons p q ps qs h t ih =>
  obtain⟨h1,h2⟩:=h;by_cases e:p.1=k
  ·have e':q.1=k:=h1.symm.trans e;have b:valueAt (q::qs) k=some q.2:=by simp[valueAt,bL,e']
   rw[wX e,b]; exact h2
  ·have e':¬ q.1=k:=λz=>e (h1.trans z);have b:valueAt (q::qs) k=valueAt qs k:=by simp[valueAt,bL,e']
   rw[wK e,b]; exact ih
theorem KV.any{kvs:List (κ×V)}{vs:List (κ×af)}(r:KV kvs vs)(k:κ):(kvs.any λkv=>decide (kv.1=k))=vs.any λkv=>decide (kv.1=k):=by
 unfold KV at r
 induction r with
 | nil=>rfl
 | cons h t ih=>rw[cH,cH,ih,h.1]
theorem KV.repl{kvs:List (κ×V)}{vs:List (κ×af)}(r:KV kvs vs)(k:κ){y:V}{u:af}(ry:xI y u) :
  KV (kvs.map λkv=>if kv.1=k then(kv.1,y) else kv) (vs.map λkv=>if kv.1=k then(kv.1,u) else kv):=by
 unfold KV at r ⊢
 induction r with
 | nil=>exact .nil
 | @cons p q ps qs h t ih =>
  rw[aM,aM];refine .cons ?_ ih;obtain⟨h1,h2⟩:=h;by_cases e:p.1=k
  ·rw[if_pos e,if_pos (h1.symm.trans e)]; exact⟨h1,ry⟩
  ·rw[if_neg e,if_neg (λz=>e (h1.trans z))]; exact⟨h1,h2⟩
theorem KV.put{kvs:List (κ×V)}{vs:List (κ×af)}(r:KV kvs vs)(k:κ){y:V}{u:af}(ry:xI y u):KV (sY kvs k y) (stored vs k u):=by
 unfold sY stored;rw[r.any k];by_cases e:(vs.any λkv=>decide (kv.1=k))=true
 ·rw[if_pos e,if_pos e]; exact r.repl k ry
 ·rw[if_neg e,if_neg e]; exact ni r ⟨rfl,ry⟩
theorem KV.drop{kvs:List (κ×V)}{vs:List (κ×af)}(r:KV kvs vs)(k:κ):KV (zDk kvs k) (without vs k):=by
 unfold KV at r ⊢;unfold zDk without
 induction r with
 | nil=>exact .nil
 | @cons p q ps qs h t ih =>
  obtain⟨h1,h2⟩:=h;rw[kI,kI];by_cases e:p.1=k
  ·have a:¬ decide (p.1≠k)=true:=by simp[e]
   have b:¬ decide (q.1≠k)=true:=by simp[h1.symm.trans e]
   rw[if_neg a,if_neg b]; exact ih
  ·have e':¬ q.1=k:=λz=>e (h1.trans z);have a:decide (p.1≠k)=true:=by simp[e]
   have b:decide (q.1≠k)=true:=by simp[e']
   rw[if_pos a,if_pos b]; exact .cons ⟨h1,h2⟩ ih
theorem KV.length{kvs:List (κ×V)}{vs:List (κ×af)}(r:KV kvs vs):kvs.length=vs.length:=jm r
theorem zLv(kvs:List (κ×V))(k:κ):(zDk kvs k).length<=kvs.length:=dJ _ _
end


theorem zHp{P:aL}{w:aT}{k:Key}{u:af}(r:xI (kV k) u):(yI P w).is k u=true:=by
 cases k with
 | inl i=>obtain⟨t,e⟩:=(show ∃ t,u=dL i t from r); subst e; exact zLb P w i t
 | inr x=>obtain⟨t,e⟩:=(show ∃ t,u=cC x t from r); subst e; exact zA4 P w x t
theorem zJh{P:aL}{w:aT} : ∀{ks:List Key}{us:List af},yY (ks.map kV) us->ItemsAre (yI P w) ks us
 | [],_,r=>by rw[eW] at r; cases r; exact .nil
 | k::ks,_,r=>by
  rw[aM] at r;cases r with
  | cons h t=>exact .cons (zHp h) (zJh t)

abbrev KT(H:Hp):List (List Key×V)->List (List Key×ag×af)->Prop:=kh λp q=>p.1=q.1/\H q.2.1=some (.tup (p.1.map kV))/\xI p.2 q.2.2
theorem KT.val{H:Hp}{kvs:List (List Key×V)}{xs:List (List Key×ag×af)}(r:KT H kvs xs)(k:List Key):zH7 (wT kvs k) ((atKey xs k).map (·.2)):=by
 induction r with
 | nil=>exact bo
 | @cons p q ps qs h t ih =>
  obtain⟨h1,_,h2⟩:=h;by_cases e:p.1=k
  ·have e':q.1=k:=h1.symm.trans e;have b:atKey (q::qs) k=some q.2:=by simp[atKey,bL,e']
   rw[wX e,b]; exact h2
  ·have e':¬ q.1=k:=λz=>e (h1.trans z);have b:atKey (q::qs) k=atKey qs k:=by simp[atKey,bL,e']
   rw[wK e,b]; exact ih
theorem KT.repl{H:Hp}{kvs:List (List Key×V)}{xs:List (List Key×ag×af)}(r:KT H kvs xs)(k:List Key){y:V}{u:af}(ry:xI y u) :
  KT H (kvs.map λkv=>if kv.1=k then(kv.1,y) else kv) (xs.map (putAt k u)):=by
 induction r with
 | nil=>exact .nil
 | @cons p q ps qs h t ih =>
  rw[aM,aM];refine .cons ?_ ih;obtain⟨h1,h2,h3⟩:=h;unfold putAt;by_cases e:p.1=k
  ·rw[if_pos e,if_pos (h1.symm.trans e)]; exact⟨h1,h2,ry⟩
  ·rw[if_neg e,if_neg (λz=>e (h1.trans z))]; exact⟨h1,h2,h3⟩
theorem KT.put{H:Hp}{kvs:List (List Key×V)}{xs:List (List Key×ag×af)}(r:KT H kvs xs)(k:List Key){b:ag}{y:V}{u:af}(hb:H b=some (.tup (k.map kV)))(ry:xI y u) :
  KT H (sY kvs k y) (storedH xs k b u):=by
 have e:(kvs.any λkv=>decide (kv.1=k))=(atKey xs k).isSome:=by
  rw[zD7,(r.val k).isSome_eq,bX]
 unfold sY storedH;rw[e];by_cases q:(atKey xs k).isSome=true
 ·rw[if_pos q,if_pos q]; exact r.repl k ry
 ·rw[if_neg q,if_neg q]; exact ni r ⟨rfl,hb,ry⟩
theorem KT.keeps{H H':Hp}{kvs:List (List Key×V)}{xs:List (List Key×ag×af)}(r:KT H kvs xs)(ht:∀ b ys,H b=some (.tup ys)->H' b=some (.tup ys)):KT H' kvs xs :=
 Paired.mapP r λ_ _ z=>⟨z.1,ht _ _ z.2.1,z.2.2⟩

section
variable{P:aL}{w:aT}{H:Hp}{h:aV}{a:ag}
theorem zY4{u:HO}(ok:HOk P w H h)(e:Rd H a u):xL P w H h a u:=e.ok ok
theorem zH5{kvs:List (Key×V)}(ok:HOk P w H h)(e:Rd H a (.dK kvs)):kvs.length<=sizeLine/\(a == sysModules)=false/\∃ vs,KV kvs vs/\h.DictOf (yI P w) a vs :=
 show xL P w H h a (.dK kvs) from zY4 ok e
theorem zSe{kvs:List (Key×V)}(ok:HOk P w H h)(e:H a=some (.dK kvs)):kvs.length<=sizeLine/\(a == sysModules)=false/\∃ vs,KV kvs vs/\h.DictOf (yI P w) a vs:=zH5 ok (.inl e)
theorem zI2{ks:List Key}(ok:HOk P w H h)(e:H a=some (.tup (ks.map kV))):(tupleKind (yI P w)).is h ks a:=by
 obtain⟨_,its,r,o,h1,h2,n,h3⟩:=(show xL P w H h a (.tup (ks.map kV)) from ok a _ e);exact⟨o,its.toArray,n,h1,h2,h3,by simpa using zJh r⟩
theorem zNp{kvs:List (List Key×V)}(ok:HOk P w H h)(e:Rd H a (.dT kvs)):kvs.length<=sizeLine/\(a == sysModules)=false /\
  ∃ xs,KT H kvs xs/\h.DictOfH (tupleKind (yI P w)) a xs:=by
 obtain⟨z,y,xs,r,o,es,ep,h1,h2,h3,h4,h5⟩:=(show xL P w H h a (.dT kvs) from zY4 ok e);refine⟨z,y,xs,r,o,es,ep,h1,h2,h3,h4,λx hx=>?_,h5⟩;have all:∀{l:List (List Key×V)}{m:List (List Key×ag×af)},KT H l m->∀ x∈m,(tupleKind (yI P w)).is h x.1 x.2.1:=by
  intro l m q
  induction q with
  | nil=>intro x hx; exact nomatch hx
  | @cons p q ps qs hq t ih =>
   intro x hx;rcases aI.mp hx with e | hx
   ·subst e;exact zI2 ok (by rw[<- hq.1]; exact hq.2.1)
   ·exact ih x hx
 exact all r x hx
theorem dt_of{kvs:List (List Key×V)}(ok:HOk P w H h)(e:H a=some (.dT kvs)):kvs.length<=sizeLine/\(a == sysModules)=false /\
  ∃ xs,KT H kvs xs/\h.DictOfH (tupleKind (yI P w)) a xs:=zNp ok (.inl e)
end

def zR8(H:Hp)(a:ag)(y:V)(r:Option V):Prop :=
 (∃ kvs k,Rd H a (.dK kvs)/\y=kV k/\r=wT kvs k)\/∃ kvs k b,Rd H a (.dT kvs)/\y=.ref b/\H b=some (.tup (k.map kV))/\r=wT kvs k
def zKh(H:Hp)(a:ag)(y v:V)(H':Hp):Prop :=
 (∃ kvs k,H a=some (.dK kvs)/\y=kV k/\kvs.length<sizeLine/\H'=upd H a (.dK (sY kvs k v))) \/
 ∃ kvs k b,H a=some (.dT kvs)/\y=.ref b/\H b=some (.tup (k.map kV))/\kvs.length<sizeLine/\H'=upd H a (.dT (sY kvs k v))
theorem zKh.k{H:Hp}{a:ag}{kvs:List (Key×V)}{k:Key}{v:V}(e:H a=some (.dK kvs))(hl:kvs.length<sizeLine):zKh H a (kV k) v (upd H a (.dK (sY kvs k v))):=.inl ⟨kvs,k,e,rfl,hl,rfl⟩
section
variable{X:Cx}{pins:List (ag×cA)}{σ:St}{H:Hp}{s:ai}{a:ag}{y v:V}{u r:af}{o:Option V}{A:bu}{E:af->ai->Prop}

theorem Inv.big(I:Inv X pins σ H s):sysModules<s.heap.objs.size:=by
 have h:mainGlobals<s.heap.objs.size:=(I.mod.glob.keeps I.bk).lt;exact de (by decide) h

theorem zPt{Q:af->ai->Prop}(hu:A.units+1<cLine)(I:Inv X pins σ H s)(g:zR8 H a y (some v))(ry:xI y u)(h:∀ w' s',Inv X pins σ H s'->xI v w'->Q w' s') :
  wpAny (model X.prog X.w) A (getItem (.ref a) u) Q E s:=by
 rcases g with ⟨kvs,k,e,ey,l⟩ | ⟨kvs,k,b,e,ey,eb,l⟩
 ·subst ey;obtain⟨z,hd,vs,rel,dd⟩:=zH5 I.hok e;obtain⟨w',hw,rw'⟩:=zH7.some_of (v:=v) (o:=valueAt vs k) (by rw[l]; exact rel.val k);exact kJ (zHp ry) dd.mapOf hw (h w' _ (I.tok _) rw')
 ·subst ey;cases (show u=aK b from ry);obtain⟨z,hd,xs,rel,dd⟩:=zNp I.hok e;obtain⟨w',hw,rw'⟩:=zH7.some_of (v:=v) (o:=(atKey xs k).map (·.2)) (by rw[l]; exact rel.val k);obtain⟨p,hp,hp2⟩:=aJ.mp hw;refine wpAny_getItem_heap (tupleKind_room_in1 hu) (zI2 I.hok eb) dd hp ?_;rw[hp2];exact h w' _ (I.tok _) rw'
theorem d_in{Q:af->ai->Prop}(hu:A.units+1<cLine)(I:Inv X pins σ H s)(g:zR8 H a y o)(ry:xI y u)(h:∀ s',Inv X pins σ H s'->Q (.bool o.isSome) s') :
  wpAny (model X.prog X.w) A (compareOp .In u (.ref a)) Q E s:=by
 rcases g with ⟨kvs,k,e,ey,l⟩ | ⟨kvs,k,b,e,ey,eb,l⟩
 ·subst ey;obtain⟨z,hd,vs,rel,dd⟩:=zH5 I.hok e;refine wpAny_in_of (zHp ry) hd dd.mapOf ?_;rw[<- (rel.val k).isSome_eq,<- l];exact h _ (I.tok _)
 ·subst ey;cases (show u=aK b from ry);obtain⟨z,hd,xs,rel,dd⟩:=zNp I.hok e;refine wpAny_in_heap (tupleKind_room_in1 hu) (zI2 I.hok eb) hd dd ?_;have q:=(rel.val k).isSome_eq;rw[bX] at q;rw[<- q,<- l];exact h _ (I.tok _)
theorem zU8{Q:af->ai->Prop}(hu:A.units+1<cLine)(I:Inv X pins σ H s)(g:zR8 H a y o)(ry:xI y u)(h:∀ s',Inv X pins σ H s'->Q (.bool (!o.isSome)) s') :
  wpAny (model X.prog X.w) A (compareOp .NotIn u (.ref a)) Q E s:=by
 rcases g with ⟨kvs,k,e,ey,l⟩ | ⟨kvs,k,b,e,ey,eb,l⟩
 ·subst ey;obtain⟨z,hd,vs,rel,dd⟩:=zH5 I.hok e;refine wpAny_notIn_of (zHp ry) hd dd.mapOf ?_;rw[<- (rel.val k).isSome_eq,<- l];exact h _ (I.tok _)
 ·subst ey;cases (show u=aK b from ry);obtain⟨z,hd,xs,rel,dd⟩:=zNp I.hok e;refine wpAny_notIn_heap (tupleKind_room_in1 hu) (zI2 I.hok eb) hd dd ?_;have q:=(rel.val k).isSome_eq;rw[bX] at q;rw[<- q,<- l];exact h _ (I.tok _)
theorem zEw{h':aV}{t':Nat}{ob:HO}(I:Inv X pins σ H s)(mu:Mut (H a))(hs:cP a s.heap h')(he:∃ q,h'.get? a=some q)(new:xL X.prog X.w (upd H a ob) h' a ob) :
  Inv X pins σ (upd H a ob) { s with heap:=h',toks:=t' } :=
 I.write (x:=a) (e:=a) mu (.inl rfl) (λb q hb z=>(hs.2 b hb).trans z) he new
theorem zIr{P:aL}{w:aT}{H':Hp}{h':aV}{kvs:List (Key×V)}{vs:List (Key×af)}(z:kvs.length<=sizeLine)(hd:(a == sysModules)=false)(rel:KV kvs vs)(dd:h'.DictOf (yI P w) a vs) :
  xL P w H' h' a (.dK kvs):=⟨z,hd,vs,rel,dd⟩
theorem zQe{H':Hp}{Q:Unit->ai->Prop}(hu:A.units+1<cLine)(I:Inv X pins σ H s)(g:zKh H a y v H')(ry:xI y u)(rv:xI v r)(h:∀ s',Inv X pins σ H' s'->Q () s') :
  wpAny (model X.prog X.w) A (setItem (.ref a) u r) Q E s:=by
 rcases g with ⟨kvs,k,e,ey,l,eH⟩ | ⟨kvs,k,b,e,ey,eb,l,eH⟩
 ·subst ey eH;obtain⟨z,hd,vs,rel,dd⟩:=zSe I.hok e;have hz:vs.length<=sizeLine:=by rw[<- rel.length]; exact z
  have hl:(sY kvs k v).length<=sizeLine:=by have:=zA1 kvs k v; lia
  refine wpAny_setItem_pairs (hsz:=hz) (zHp ry) dd λh' dd' hs=>h _ ?_;have he:∃ q,h'.get? a=some q:=let ⟨q,_,_,hq,_⟩:=dd';⟨q,hq⟩;exact zEw I (by rw[e]; exact bo) hs he (zIr hl hd (rel.put k rv) dd')
 ·subst ey eH;cases (show u=aK b from ry);obtain⟨z,hd,xs,rel,dd⟩:=dt_of I.hok e;have hz:xs.length<=sizeLine:=by rw[<- jm rel]; exact z
  have hl:(sY kvs k v).length<=sizeLine:=by have:=zA1 kvs k v; lia
  refine wpAny_setItem_heap (hsz:=hz) (tupleKind_room_in1 hu) (zI2 I.hok eb) dd λh' dd' hs=>h _ ?_;obtain⟨q,es,ep,hq,h2,h3,h4,_,h5⟩:=dd';refine zEw I (by rw[e]; exact bo) hs ⟨q,hq⟩ ⟨hl,hd,_,(rel.put k eb rv).keeps λc ys ec=>?_,q,es,ep,hq,h2,h3,h4,h5⟩;rw[zG (zY5 ec e (λz=>nomatch z))];exact ec
end

section
variable{X:Cx}{pins:List (ag×cA)}{σ:St}{H:Hp}{s:ai}{a:ag}{kvs:List (Key×V)}{k:Key}{u:af}{A:bu}{E:af->ai->Prop}
theorem zY1{Q:Unit->ai->Prop}(I:Inv X pins σ H s)(e:H a=some (.dK kvs))(ry:xI (kV k) u)(l:(wT kvs k).isSome=true)(h:∀ s',Inv X pins σ (upd H a (.dK (zDk kvs k))) s'->Q () s') :
  wpAny (model X.prog X.w) A (delItem (.ref a) u) Q E s:=by
 obtain⟨z,hd,vs,rel,dd⟩:=zSe I.hok e;refine wpAny_delItem_slot dd.typeIs (by decide) gT
  (call_meetsIn gT dd.typeIs PySem.F.entry_dict_delitem (PySem.F.args_dict_delitem_2 _ _) (meets_dict_delitem_pairs (yI X.prog X.w) a (zHp ry)) ⟨vs,dd,by rw[<- rel.length]; exact z,by rw[<- (rel.val k).isSome_eq]; exact l,λh' dd' hs=>h _ ?_⟩)
 have he:∃ q,h'.get? a=some q:=let ⟨q,_,_,hq,_⟩:=dd';⟨q,hq⟩;exact zEw I (by rw[e]; exact bo) hs he (zIr (aO (zLv kvs k) z) hd (rel.drop k) dd')
theorem d_pop{v:V}{more:List af}{Q:af->ai->Prop}(I:Inv X pins σ H s)(e:H a=some (.dK kvs))(ry:xI (kV k) u)(l:wT kvs k=some v)(hm:more=[]\/∃ x,more=[x])
  (h:∀ w' s',Inv X pins σ (upd H a (.dK (zDk kvs k))) s'->xI v w'->Q w' s'):wpAny (model X.prog X.w) A (call (.builtin "dict.pop") (.ref a::u::more)) Q E s:=by
 obtain⟨z,hd,vs,rel,dd⟩:=zSe I.hok e;obtain⟨w',hw,rw'⟩:=zH7.some_of (v:=v) (o:=valueAt vs k) (by rw[<- l]; exact rel.val k);have hp:(keyPart u).isSome=true:=by
  cases k with
  | inl i=>obtain⟨t,q⟩:=(show ∃ t,u=dL i t from ry); subst q; rfl
  | inr x=>obtain⟨t,q⟩:=(show ∃ t,u=cC x t from ry); subst q; rfl
 have ha:argsOk "dict.pop" ⟨.ref a::u::more,[]⟩:=by
  rcases hm with q | ⟨x,q⟩
  ·subst q; exact PySem.F.args_dict_pop_2 _ _
  ·subst q; exact PySem.F.args_dict_pop_3 _ _ _
 refine call_meetsIn iT dd.typeIs PySem.F.entry_dict_pop ha (meets_dict_pop_there (yI X.prog X.w) a (zHp ry) more hm hp)
  ⟨vs,w',dd,by rw[<- rel.length]; exact z,hw,λh' dd' hs=>h w' _ ?_ rw'⟩
 have he:∃ q,h'.get? a=some q:=let ⟨q,_,_,hq,_⟩:=dd';⟨q,hq⟩;exact zEw I (by rw[e]; exact bo) hs he (zIr (aO (zLv kvs k) z) hd (rel.drop k) dd')
theorem d_len{Q:af->ai->Prop}(I:Inv X pins σ H s)(e:Rd H a (.dK kvs))(h:∀ t s',Inv X pins σ H s'->Q (.int kvs.length t) s'):wpAny (model X.prog X.w) A (call (.builtin "len") [.ref a]) Q E s:=by
 obtain⟨z,hd,vs,rel,dd⟩:=zH5 I.hok e;refine call_len_dict hd dd (by rw[<- rel.length]; rw[sizeLine_eq] at z; lia) ?_;rw[<- rel.length];exact h _ _ (I.tok _)
end


def zZk(i:bj):Prop:=∀ ov iv,subscripted i false ov iv=operate [ov,iv] (getItem ov iv)
theorem zK9{prog:aL}{w:aT}{A:bu}{E:af->ai->Prop}{s:ai}{env:gf}{value slice:bj}{pos:fg}{T id:String}{Q:af->ai->Prop}
  (hl:typeLookup (.type T) "__getitem__" = pure (some (.builtin id))) (hs:zZk slice)
  (h:wpAny (model prog w) A (eval value env) (λo s₁=>wpAny (model prog w) A (eval slice env) (λi s₂=>s₂.TypeIs o T/\wpAny (model prog w) A (getItem o i) Q E s₂) E s₁) E s) :
  wpAny (model prog w) A (eval (.Subscript value slice pos) env) Q E s:=by
 refine jy (cZ h (λo s₁ h₁=>cZ h₁ (λi s₂ h₂=>?_) λ_ _ x=>x) λ_ _ x=>x);obtain⟨hT,h₂⟩:=h₂;unfold subscriptTail;refine aa ?_;rw[getitemInPython_of_ne hT.not_modules];refine aa (lh hT hl ?_);have fin:wpAny (model prog w) A (subscripted slice false o i) (λr s₃=>wpAny (model prog w) A (letTemporaryGo value o r >>= λ_=>pure r) Q E s₃) E s₂:=by
  rw[hs o i];exact wpAny_operating (cZ h₂ (λr s₃ h₃=>aa (wpAny_letTemporaryGo (ak h₃))) λ_ _ x=>x)
 first
  | exact ak (aa fin)
  | exact aa (ak (aa fin))
  | exact aa fin

theorem zKw{X:Cx}{pins:List (ag×cA)}{σ:St}{H:Hp}{s:ai}{a:ag}{y:V}{o:Option V}(I:Inv X pins σ H s)(g:zR8 H a y o):s.TypeIs (.ref a) "dict" := by
 rcases g with ⟨kvs,k,e,_,_⟩ | ⟨kvs,k,b,e,_,_,_⟩
 ·obtain⟨_,_,vs,_,dd⟩:=zH5 I.hok e;exact dd.typeIs
 ·obtain⟨_,_,xs,_,dd⟩:=zNp I.hok e;exact dd.typeIs
def tDGet(td ty:TE):TE:=λσ H Q=>td σ H λx H1=>ty σ H1 λy H2=>∃ a v,x=.ref a/\zR8 H2 a y (some v)/\Q v H2
def tDIn(ty td:TE):TE:=λσ H Q=>ty σ H λy H1=>td σ H1 λx H2=>∃ a o,x=.ref a/\zR8 H2 a y o/\Q (.bl o.isSome) H2
def zVz(ty td:TE):TE:=λσ H Q=>ty σ H λy H1=>td σ H1 λx H2=>∃ a o,x=.ref a/\zR8 H2 a y o/\Q (.bl (!o.isSome)) H2
def sDPut(td ty tv:TE):TS:=λD σ H=>tv σ H λv H1=>td σ H1 λx H2=>ty σ H2 λy H3=>∃ a H4,x=.ref a/\zKh H3 a y v H4/\D.nx σ H4
section
variable{X:Cx}{o i e value:bj}{pos pos' tpos:fg}{td ty tv:TE}
theorem zN(hu:X.A.units+1<cLine)(ho:PE X o td)(hi:PE X i ty)(hs:zZk i):PE X (.Subscript o i pos) (tDGet td ty):=by
 intro pins s σ H Q I h;refine zK9 e7.lookup hs (thn (ho pins s σ H _ I h) λu s1 ⟨x,H1,I1,rx,q1⟩=>thn (hi pins s1 σ H1 _ I1 q1) λiv s2 ⟨y,H2,I2,ry,a,v,ex,g,q2⟩=>?_);subst ex;obtain rfl:u=aK a:=rx;exact⟨zKw I2 g,zPt hu I2 g ry λw' s3 I3 rw'=>⟨v,H2,I3,rw',q2⟩⟩
theorem zIh(hu:X.A.units+1<cLine)(hi:PE X i ty)(ho:PE X o td):PC X .In i o (tDIn ty td):=by
 intro pins s σ H Q I h;refine thn (hi pins s σ H _ I h) λiv s1 ⟨y,H1,I1,ry,q1⟩=>thn (ho pins s1 σ H1 _ I1 q1) λu s2 ⟨x,H2,I2,rx,a,ov,ex,g,q2⟩=>?_;subst ex;obtain rfl:u=aK a:=rx;exact d_in hu I2 g ry λs3 I3=>⟨.bl ov.isSome,H2,I3,rfl,q2⟩
theorem sI(hu:X.A.units+1<cLine)(hi:PE X i ty)(ho:PE X o td):PC X .NotIn i o (zVz ty td):=by
 intro pins s σ H Q I h;refine thn (hi pins s σ H _ I h) λiv s1 ⟨y,H1,I1,ry,q1⟩=>thn (ho pins s1 σ H1 _ I1 q1) λu s2 ⟨x,H2,I2,rx,a,ov,ex,g,q2⟩=>?_;subst ex;obtain rfl:u=aK a:=rx;exact zU8 hu I2 g ry λs3 I3=>⟨.bl (!ov.isSome),H2,I3,rfl,q2⟩
theorem rA(hu:X.A.units+1<cLine)(ho:PE X o td)(hi:PE X i ty)(hv:PE X value tv)(hs:swapsWith value (some (.Subscript o i pos')) pos.line X.env=pure false) :
  PS X (.Assign [.Subscript o i pos'] value pos) (sDPut td ty tv):=by
 intro pins s σ H D I h;refine wpAny_Assign_Subscript (thn (hv pins s σ H _ I h) λr s1 ⟨v,H1,I1,rv,q1⟩=>thn (ho pins s1 σ H1 _ I1 q1) λu s2 ⟨x,H2,I2,rx,q2⟩=>thn (hi pins s2 σ H2 _ I2 q2) λiv s3 ⟨y,H3,I3,ry,a,H4,ex,g,q3⟩=>?_) hs;subst ex;obtain rfl:u=aK a:=rx;exact zQe hu I3 g ry rv λs4 I4=>⟨σ,H4,I4,q3⟩
end


theorem zM9{P:aL}{w:aT}{H:Hp}(h:aV)(hb:sysModules<h.objs.size):xL P w H (h.push { cls:=.type "dict", data:=.dict #[] }) h.objs.size (.dK []) :=
 ⟨bf _,beq_eq_false_iff_ne.mpr (cw (aQ hb)),[],.nil,Heap.DictOf.new h⟩
def zY9:TE:=λ_ H Q=>∀ p,H p=none->Q (.ref p) (upd H p (.dK []))
section
variable{X:Cx}{pos:fg}
theorem rW:PE X (.Dict [] [] pos) zY9:=λpins s σ H Q I h =>
 wpAny_Dict_empty ⟨.ref s.heap.objs.size,_,I.laid (a:=s.heap.objs.size) (o:=.dK []) (t':=s.toks) (λ_ _ q=>ah _ q) (am _) (zM9 s.heap I.big),rfl,h _ (I.hok.fresh (am _))⟩
end

def zP3:List (TE×TE)->St->Hp->(List (V×V)->Hp->Prop)->Prop
 | [],_,H,Q=>Q [] H
 | (tk,tv)::r,σ,H,Q=>tk σ H λx H1=>tv σ H1 λy H2=>zP3 r σ H2 λps H3=>Q ((x,y)::ps) H3
abbrev VV:List (V×V)->List (af×af)->Prop:=kh λp q=>xI p.1 q.1/\xI p.2 q.2
def PPs(X:Cx)(pos:fg)(keys:List (Option bj))(values:List bj)(trs:List (TE×TE)):Prop :=
 ∀(pins:List (ag×cA))(s:ai)(σ:St)(H:Hp)(Q:List (V×V)->Hp->Prop),Inv X pins σ H s->zP3 trs σ H Q ->
  wpAny (model X.prog X.w) X.A (evalPairs (pairTrees keys values X.env pos)) (λvs s'=>∃ ps H',Inv X pins σ H' s'/\VV ps vs/\Q ps H') X.xe s
theorem zKr{X:Cx}{pos:fg} : PPs X pos [] [] []:=λpins s σ H Q I h=>pairTrees_nil_walk ⟨[],H,I,.nil,h⟩
theorem wO{X:Cx}{pos:fg}{k v:bj}{ks:List (Option bj)}{vs:List bj}{tk tv:TE}{trs:List (TE×TE)}(hk:PE X k tk)(hv:PE X v tv)(hr:PPs X pos ks vs trs) :
  PPs X pos (some k::ks) (v::vs) ((tk,tv)::trs):=λpins s σ H Q I h =>
 pairTrees_cons_walk (thn (hk pins s σ H _ I h) λu s1 ⟨x,H1,I1,rx,q1⟩=>thn (hv pins s1 σ H1 _ I1 q1) λw2 s2 ⟨y,H2,I2,ry,q2⟩ =>
  thn (hr pins s2 σ H2 _ I2 q2) λws s3 ⟨ps,H3,I3,rel,q3⟩=>⟨(x,y)::ps,H3,I3,.cons ⟨rx,ry⟩ rel,q3⟩)

def zC2(kvs more:List (Key×V)):List (Key×V):=more.foldl (λacc kv=>sY acc kv.1 kv.2) kvs
theorem KV.merge:∀{more:List (Key×V)}{rs:List (Key×af)}{kvs:List (Key×V)}{vs:List (Key×af)},KV more rs->KV kvs vs->KV (zC2 kvs more) (merged vs rs):=by
 intro more rs kvs vs r;unfold KV at r
 induction r generalizing kvs vs with
 | nil=>intro q; exact q
 | @cons p q ps qs h t ih =>
  intro r0;have e:KV (sY kvs p.1 p.2) (stored vs q.1 q.2):=by
   have:=r0.put p.1 h.2;rw[<- h.1]; exact this
  exact ih e
theorem zBm:∀(more kvs:List (Key×V)),(zC2 kvs more).length<=kvs.length+more.length
 | [],kvs=>by show kvs.length<=kvs.length+0; lia
 | p::r,kvs=>by
  have h1:=zBm r (sY kvs p.1 p.2);have h2:=zA1 kvs p.1 p.2;show(zC2 (sY kvs p.1 p.2) r).length<=_;rw[aS]; lia
theorem zGv{P:aL}{w:aT} : ∀{kvs:List (Key×V)}{ws:List (af×af)},VV (kvs.map λkv=>(kV kv.1,kv.2)) ws->∃ rs,Carries (yI P w) ws rs/\KV kvs rs
 | [],_,r=>by rw[eW] at r; cases r; exact⟨[],bo,.nil⟩
 | p::kvs,_,r=>by
  rw[aM] at r;cases r with
  | @cons a b as bs h t =>
   obtain⟨rs,c,q⟩:=zGv (P:=P) (w:=w) t;obtain⟨b1,b2⟩:=b;exact⟨(p.1,b2)::rs,⟨zHp h.1,rfl,c⟩,.cons ⟨rfl,h.2⟩ q⟩
def tDisp(trs:List (TE×TE)):TE:=λσ H Q=>∀ p,H p=none->zP3 trs σ (upd H p (.dK [])) λps H2=>H2 p=some (.dK [])/\∃ kvs:List (Key×V),ps=kvs.map (λkv=>(kV kv.1,kv.2))/\kvs.length<=15/\Q (.ref p) (upd H2 p (.dK (zC2 [] kvs)))
theorem zKu{X:Cx}{pos:fg}{keys:List (Option bj)}{values:List bj}{trs:List (TE×TE)}(h:PPs X pos keys values trs)(hall:keys.all (·.isSome)=true)(hl:keys.length=values.length)(h0:keys≠[])
  (h15:keys.length<=15):PE X (.Dict keys values pos) (tDisp trs):=by
 intro pins s σ H Q I q;have hn:=I.hok.fresh (am s.heap.objs.size);have I1:=I.laid (a:=s.heap.objs.size) (o:=.dK []) (h':=s.heap.push { cls:=.type "dict", data:=.dict #[] }) (t':=s.toks) (λ_ _ q=>ah _ q) (am _) (zM9 s.heap I.big);refine wpAny_Dict_walk (knd:=yI X.prog X.w) hall hl h0 h15 (thn (h pins _ σ _ _ I1 (q _ hn)) λws s2 ⟨ps,H2,I2,rel,e,kvs,ep,lk,q2⟩=>?_);subst ep;obtain⟨rs,c,rk⟩:=zGv (P:=X.prog) (w:=X.w) rel;obtain⟨z,hd,vs0,r0,dd⟩:=zSe I2.hok e;cases r0;refine⟨rs,c,dd,λh' dd' hs=>⟨.ref s.heap.objs.size,_,?_,rfl,q2⟩⟩;have hz:(zC2 [] kvs).length<=sizeLine:=by
  have h1:=zBm kvs [];rw[cT] at h1;rw[sizeLine_eq]; lia
 have he:∃ q,h'.get? s.heap.objs.size=some q:=let ⟨q,_,_,hq,_⟩:=dd';⟨q,hq⟩;exact zEw I2 (by rw[e]; exact bo) hs he (zIr hz hd (rk.merge .nil) dd')



end L2

namespace L2
open PySem PySem.Spec PyProof.Rows
def zRs(h:aV)(a:ag)(rows:Array dn)(age:Nat):Prop:=∃ ob,h.get? a=some ob/\ob.ExactDict/\ob.data=.dict rows age
theorem zRs.at{h h':aV}{a:ag}{rows:Array dn}{age:Nat}(x:zRs h a rows age)(e:∀ ob,h.get? a=some ob->h'.get? a=some ob):zRs h' a rows age:=let ⟨ob,g,r⟩:=x;⟨ob,e _ g,r⟩
theorem zRs.typeIs{z:ai}{a:ag}{rows:Array dn}{age:Nat}(x:zRs z.heap a rows age):z.TypeIs (.ref a) "dict" := let ⟨ob,g,c,_⟩:=x;⟨ob,g,c.1⟩
section
variable{prog:aL}{w:aT}{A:bu}{E:af->ai->Prop}{z:ai}{it a:ag}{rows:Array dn}{age k:Nat}
theorem zS2{R:af->ai->Prop}(hs:(a == sysModules)=false)(x:zRs z.heap a rows age)(hR:R (.ref z.heap.objs.size) { z with heap:=z.heap.push { cls:=.type "dict_keyiterator", data:=.fields #[.ref a,.int 0 0,.int rows.size 0,.int age 0] } }) :
  wpAny (model prog w) A (pyIter (.ref a)) R E z:=by
 have ty:=x.typeIs;obtain⟨ob,g,_,dat⟩:=x;refine jT ty kK (bE kK ty F.entry_dict_iter ?walk (F.args_dict_iter_1 _))
 case walk =>
  unfold eV.«dict.__iter__» lW;refine aa (aa (wpAny_notOrdered_dict ty (show wpAny _ _ (pure (aK a)) _ _ z from ak ?_)));show wpAny _ _ (iU a >>= _) _ _ z;unfold iU;rw[if_neg (by rw[hs]; decide)];refine aa (ak (aa (hG g dat (aa (iI g dat ?_)))));refine aa (aW (ak ⟨_,rfl, "dict_keyiterator", _,⟨_,ap _ rfl,rfl⟩,cL.lookup,?_⟩));simpa [rawInt] using hR
theorem zR7{R:Option af->ai->Prop}(ki:z.heap.IsKeyIter it a k rows.size age)(x:zRs z.heap a rows age)(hk:k<rows.size)
  (hR:∀ h',h'.IsKeyIter it a (k+1) rows.size age->cP it z.heap h'->R (some rows[k].key) { z with heap:=h' }):wpAny (model prog w) A (pyNext (.ref it)) R E z:=by
 have ty:=ki.typeIs;obtain⟨oi,gi,ci,di⟩:=id ki;obtain⟨ob,g,_,dat⟩:=x;unfold pyNext;refine aa (dR (bB (name:=bH "__next__") ty cL (bE cL ty fX ?walk (fS _))))
 case walk =>
  refine aa (ak (aa (aa ?_)))
  first | refine aa (dm ty (ak (aa (gN gi di ?_)))) | refine aa (dS ty (ak (aa (gN gi di ?_))))
  simp only[show gb "dict_keyiterator" = false by decide,cN,if_false];show wpAny _ _ (if (aK a == a7)=true then _ else _) _ _ z;rw[if_neg (show ¬ ((aK a == a7)=true) from aE)];refine aa (ak (aa (hG g dat ?_)));rw[if_neg (by simp)];refine aa (ak (aa (iI g dat ?_)));rw[if_neg (by simp)];refine ak ?_;simp only[show ¬ ((k:Int)<0) from by lia,if_false,cg,cW hk];refine aa ?_
  first | refine aa (dm ty (ak (aa (fL ty ?_)))) | refine aa (dS ty (ak (aa (fL ty ?_))))
  show wpAny _ _ (setField (.ref it) 1 (rawInt ((k:Int)+1)) >>= _) _ _ z;refine aa (dk gi di (by simp) ?_);have ki':(z.heap.update it (df (·.setIfInBounds 1 (rawInt ((k:Int)+1))))).IsKeyIter it a (k+1) rows.size age :=
   ⟨_,cD _ gi (cY (cv di _)),(eJ ..).trans ci,by rw[cv di]; simp[rawInt]⟩
  refine aa (bI (aa (fL (s:={ z with heap:=z.heap.update it (df (·.setIfInBounds 1 (rawInt ((k:Int)+1)))) }) ki'.typeIs ?_)));show wpAny _ _ (pure rows[k].key) _ _ _;exact ak (ak ⟨_,rfl,ak (hR _ ki' (fe ..))⟩)
theorem zWs{R:Option af->ai->Prop}(hh:A.handled=none)(ki:z.heap.IsKeyIter it a k rows.size age)(x:zRs z.heap a rows age)(hk:rows.size<=k)
  (hR:∀ h',fA it z.heap h'->R none { z with heap:=h' }):wpAny (model prog w) A (pyNext (.ref it)) R E z:=by
 have ty:=ki.typeIs;obtain⟨oi,gi,ci,di⟩:=id ki;obtain⟨ob,g,_,dat⟩:=x;unfold pyNext;refine aa (dR (bB (name:=bH "__next__") ty cL (bE cL ty fX ?walk (fS _))))
 case walk =>
  refine aa (ak (aa (aa ?_)))
  first | refine aa (dm ty (ak (aa (gN gi di ?_)))) | refine aa (dS ty (ak (aa (gN gi di ?_))))
  simp only[show gb "dict_keyiterator" = false by decide,cN,if_false];show wpAny _ _ (if (aK a == a7)=true then _ else _) _ _ z;rw[if_neg (show ¬ ((aK a == a7)=true) from aE)];refine aa (ak (aa (hG g dat ?_)));rw[if_neg (by simp)];refine aa (ak (aa (iI g dat ?_)));rw[if_neg (by simp)];refine ak ?_;simp only[show ¬ ((k:Int)<0) from by lia,if_false,cg,d4 hk];refine aa ?_
  first | refine aa (dm ty (ak ?_)) | refine aa (dS ty (ak ?_))
  show wpAny _ _ (setField (.ref it) 0 .none >>= _) _ _ z;refine aa (dk gi di (by simp) (show wpAny _ _ (newExc (.type "StopIteration") [] >>= _) _ _ _ from aa ?_));simp only[newExc,newTuple];refine aa (aW (aa (m:=firstArgMember _ _) (eP (a:=a7) (by first | rfl | (simp only[firstArgMember]; rfl)) (aW ?_ (by size_fits)))) (by size_fits));simp only[raiseNew];refine aa (jp ?_);rw[show A.in1.handled=none from hh];refine aa (ak (kT ?_));refine aa (fR (T := "StopIteration") (b:=true) ⟨_,ap _ rfl,rfl⟩ isSubtype_stop ?_);exact ak (hR _ (((fe ..).extBut.push _).push _))
theorem zQk(hh:A.handled=none)(hne:a≠it):Walks prog w A it [it,a] [it] rows.size (λi v=>∃ h:i<rows.size,v=rows[i].key) (λi h=>h.IsKeyIter it a i rows.size age/\zRs h a rows age) where
 sub:=λb hb=>by simp at hb; simp[hb]
 frame:=λ_ _ _ st hk=>⟨st.1.at λo e=>hk it (by simp) o e,st.2.at λo e=>hk a (by simp) o e⟩
 item:=λi s Q E hi st hQ=>zR7 st.1 st.2 hi λh' ki' hs' =>
  hQ _ h' s.toks ⟨hi,rfl⟩ ⟨ki',st.2.at λo e=>hs'.extBut a o hne e⟩ λb o hb e=>hs'.extBut b o (λh=>hb (by simp[h])) e
 done:=λs Q E st hQ=>zWs hh st.1 st.2 (am _) λh' he'=>hQ h' s.toks λb o hb e=>he' b o (λh=>hb (by simp[h])) e
 self:=λ_ _ _ _ st hQ=>wpAny_pyIter_keyiter st.1 hQ
theorem zVc(hs:(a == sysModules)=false):PySem.W.KdlSrc prog w "dict" a a rows.size (λi v=>∃ h:i<rows.size,v=rows[i].key) (λh=>zRs h a rows age) where
 type:=λ_ x=>x.typeIs
 there:=λ_ x=>let ⟨_,g,_⟩:=x;⟨az g,az g⟩
 keep:=λ_ _ x hk=>x.at λo e=>hk a (.inl rfl) o e
 notList:=by decide
 notTuple:=by decide
 hint:=λ_ _ _ _ x hq=>PySem.W.kdl_hint_dict x.typeIs hq
 iter:=λ_ s hh x=>⟨_,_,(λ_ _ hq=>zS2 hs x hq),zQk hh (let ⟨_,g,_⟩:=x; aQ (az g)),⟨⟨_,ap _ rfl,rfl,rfl⟩,x.at λo e=>ah _ e⟩⟩
end
end L2

namespace Sea
open PySem L2
abbrev Sd:=ag×Int×Int×Int
abbrev zXo(ss:List Sd):List V:=(ss.map (·.1)).map V.ref
def SdOk(H:Hp)(ss:List Sd):Prop:=∀ t∈ss,H t.1=some (.tup [.int t.2.1,.int t.2.2.1,.int t.2.2.2])/\(t.2.1≠0\/t.2.2.1≠0)/\t.2.1.natAbs<=10^9/\t.2.2.1.natAbs<=10^9/\t.2.2.2.natAbs<=10^13
def zVh(ss:List Sd)(x y:Int):Bool:=ss.all λt=>decide (t.2.1*x+t.2.2.1*y<=0)
def WK(ss:List Sd)(n:Nat)(k:List Int):Prop:=∃ j t,j<n/\ss[j]?=some t/\((k=zOo [-t.2.2.1,t.2.1]/\zVh ss (-t.2.2.1) t.2.1=true)\/(k=zOo [t.2.2.1,-t.2.1]/\zVh ss t.2.2.1 (-t.2.1)=true))
theorem zSg{ss:List Sd}{x y g:Int}(hg:0<g):zVh ss (x*g) (y*g)=zVh ss x y:=by
 unfold zVh
 congr 1
 funext t
 refine decide_eq_decide.mpr ?_;have e:t.2.1*(x*g)+t.2.2.1*(y*g)=(t.2.1*x+t.2.2.1*y)*g:=by rw[Int.add_mul,dQ,dQ]
 rw[e];constructor
 ·intro h;by_cases c:t.2.1*x+t.2.2.1*y<=0
  ·exact c
  ·have:=Int.mul_pos (show 0<t.2.1*x+t.2.2.1*y by lia) hg;lia
 ·intro h;have:=gM (show 0<=-(t.2.1*x+t.2.2.1*y) by lia) (iz hg);rw[Int.neg_mul] at this;lia
theorem way_low{ss:List Sd}{x y:Int}(gp:0<rY [x,y]):zVh ss (x/(rY [x,y]:Int)) (y/(rY [x,y]:Int))=zVh ss x y:=by
 have gI:(0:Int)<(rY [x,y]:Int):=by lia
 have e1:=qE (ns:=[x,y]) (n:=x) (by simp);have e2:=qE (ns:=[x,y]) (n:=y) (by simp);have z:=zSg (ss:=ss) (x:=x/(rY [x,y]:Int)) (y:=y/(rY [x,y]:Int)) gI;rw[e1,e2] at z;exact z.symm
def keyI(ns:List Int):List Key:=ns.map dU
structure TabK(kvs:List (List Key×V))(ks:List (List Int)):Prop where
 keys:kvs.map (·.1)=ks.map keyI
 nodup:ks.Nodup
structure WaysAt(H:Hp)(l:ag)(ss:List Sd)(us:List (ag×List Int)):Prop where
 at':H l=some (.lst ((us.map (·.1)).map V.ref))
 all:∀ u∈us,H u.1=some (.tup (u.2.map V.int))
 rises:(us.map (·.2)).Pairwise (λa b=>HT.lexLt b a=false)
 nodup:(us.map (·.2)).Nodup
 mem:∀ k,k∈us.map (·.2)↔WK ss ss.length k
 few:us.length<=80
structure SdSt(H0:Hp)(D:ag)(ss:List Sd)(H:Hp):Prop where
 same:Same H0 H
 new:H0 D=none
 at':H D=some (.lst (zXo ss))
 all:SdOk H ss
end Sea

namespace Sea
open PySem L2
theorem zW2{i j:Int}(h:i.natAbs<=10^18):zZh i j:=.inl ⟨by lia,by lia⟩
abbrev P3:=Int×Int×Int
def sv(t p:P3):Int:=t.1*p.1+t.2.1*p.2.1-t.2.2*p.2.2
def tn(e s:P3):Int:=e.1*s.2.1-e.2.1*s.1
structure IsSpot(l:List Int)(p:P3):Prop where
 list:l=[p.1,p.2.1,p.2.2]
 pos:0<p.2.2
 low:eX (eX p.1.natAbs p.2.1.natAbs) p.2.2.natAbs=1
def inW(ss:List Sd)(p:P3):Prop:=∀ t∈ss,sv t.2 p<=0
end Sea

namespace Sea
open PySem L2
end Sea

namespace L2
open PySem PySem.Spec PyProof.Rows PySem.W
def PrAt(H:Hp)(cs:List Pr):Prop:=∀ t∈cs,H t.1=some (.tup [.int t.2.1,.int t.2.2])
end L2

namespace Sea
open PySem L2
def dt(s g:P3):Int:=s.1*g.1+s.2.1*g.2.1
structure Bound(ss:List Sd)(g:P3):Prop where
 nz:∀ t∈ss,t.2.1≠0\/t.2.2.1≠0
 gz:g.1≠0\/g.2.1≠0
 ways:∀ t∈ss,∀ h:Int,(h=1\/h = -1)->(∀ s∈ss,tn t.2 s.2*h<=0)->tn t.2 g*h<=0
 lead:¬ ∀ s∈ss,dt s.2 g<=0
 one:∀ t∈ss,tn t.2 g=0->0<dt t.2 g->∀ P:P3,0<P.2.2->sv t.2 P=0->¬ inW ss P
end Sea

namespace L2
open PySem PySem.Spec PyProof.Rows PySem.W
theorem ifSf{a b:aC}{A B:Prop}(h:a≠b)(hB:B):if decide (V.str a=V.str b)=true then A else B:=by
 rw[decide_eq_false (λz=>h (by injection z))];exact hB
theorem ifSt{a:aC}{A B:Prop}(hA:A):if decide (V.str a=V.str a)=true then A else B:=by
 rw[decide_eq_true rfl];exact hA
end L2

namespace L2
open PySem PySem.Spec PyProof.Rows

def zVs(scope:fu)(x:aC):Bool:=scope.names.any λy=>y.1 == x&&y.2 == .cell
structure OwnScope(X:Cx)(caps:List (aC×Nat))(scope:fu):Prop where
 kind:scope.kind=.function
 dis:(scope.names.all λx=>!(x.2 == .free) || !zVs scope x.1)=true
 loc:∀ y∈scope.names,y.2=.local->scope.names.lookup y.1=some .local
 clos:(scope.names.all λx=>!(x.2 == .free)||(X.env.cells.lookup x.1).isSome)=true
 cap:zGk X scope caps
section
variable{X:Cx}{T:List aC}{caps:List (aC×Nat)}{scope:fu}{elt target iter:bj}{ifs:List bj}{pos cpos:fg}{wi:TI}{g:CC->TG}{tt:CC->TT}{te:CC->TE}

end
end L2

namespace Sea
open PySem L2
def awB(N:Nat):List (Int×Int)->Int->Bool
 | [],_=>true
 | c::cs,least=>if least<=c.1/\c.1<N/\1<=c.2 then awB N cs (c.1+1) else false
def zY0(ss:List Sd)(f:Sd->Int)(n:Int):Int:=match ss[n.toNat]? with
 | some t=>f t
 | none=>0
def zVp(ss:List Sd)(f:Sd->Int):List (Int×Int)->Int->Int
 | [],T=>T
 | c::cs,T=>zVp ss f cs (T+c.2*zY0 ss f c.1)
def fAt(k:Int)(t:Sd):Int:=if k=0 then t.2.1 else if k=1 then t.2.2.1 else t.2.2.2
structure PrSt(H0:Hp)(D:ag)(cs:List Pr)(H:Hp):Prop where
 same:Same H0 H
 new:H0 D=none
 at':H D=some (.lst (wQ cs))
 all:PrAt H cs
end Sea

namespace Sea
open PySem L2
def zVk(n:Nat)(cs:List (Int×Int)):List (Int×Int):=cs.filter λc=>decide (c.1<(n:Int))
structure Apart(ss es:List Sd)(cs:List (Int×Int)):Prop where
 out:∀ v:P3,0<v.2.2->inW es v->zVp ss (fAt 2) (zVk ss.length cs) 0*v.2.2<zVp ss (fAt 0) (zVk ss.length cs) 0*v.1+zVp ss (fAt 1) (zVk ss.length cs) 0*v.2.1
 ins:∀ v:P3,inW ss v->zVp ss (fAt 0) (zVk ss.length cs) 0*v.1+zVp ss (fAt 1) (zVk ss.length cs) 0*v.2.1<=zVp ss (fAt 2) (zVk ss.length cs) 0*v.2.2
 few:(∃ z:P3,0<z.2.2/\inW ss z)->(zVk ss.length cs).length<=2
end Sea

namespace Sea
open PySem L2
structure PIb(t:TE)(σ:St)(i:Int)(n:Nat):Prop where
 rd:∀(H:Hp)(Q:VK),Q (.int i) H->t σ H Q
 le:i.natAbs<=n
abbrev zYy(xs:List (ag×List Pr)):List V:=(xs.map (·.1)).map V.ref
structure Leads(G:Hp)(lo:ag)(M:Nat)(xs:List (ag×List Pr)):Prop where
 at':G lo=some (.lst (zYy xs))
 all:∀ u∈xs,u.1≠lo/\G u.1=some (.lst (wQ u.2))/\zW1 G M u.2
end Sea

namespace Sea
open PySem L2
end Sea

namespace PyProof.Rows
open PySem
structure Took(x y out:Array lG)(ia ib:Nat):Prop where
 pm:out.toList.Perm (x.toList.take ia++y.toList.take ib)
 la:ia<=x.size
 lb:ib<=y.size
structure Left(x y out:Array lG)(na nb:Nat):Prop where
 pm:out.toList.Perm (x.toList.drop na++y.toList.drop nb)
 la:na<=x.size
 lb:nb<=y.size
end PyProof.Rows

namespace PyProof.Rows
open PySem
def rk(r:lG->Int)(xs:Array lG)(i:Nat):Int:=(xs[i]?.map r).getD 0
structure TookR(r:lG->Int)(x y out:Array lG)(ia ib:Nat):Prop extends Took x y out ia ib where
 srt:∀ i j,i<=j->j<out.size->rk r out i<=rk r out j
 oa:∀ i j,i<out.size->ia<=j->j<x.size->rk r out i<=rk r x j
 ob:∀ i j,i<out.size->ib<=j->j<y.size->rk r out i<=rk r y j
structure LeftR(r:lG->Int)(x y out:Array lG)(na nb:Nat):Prop extends Left x y out na nb where
 srt:∀ i j,i<=j->j<out.size->rk r out j<=rk r out i
 oa:∀ i j,i<out.size->j<na->rk r x j<=rk r out i
 ob:∀ i j,i<out.size->j<nb->rk r y j<=rk r out i
end PyProof.Rows

namespace L2
open PySem PySem.Spec PyProof.Rows
theorem sz0:0<=sizeLine:=by decide
theorem sz1:1<=sizeLine:=by decide
theorem sz2:2<=sizeLine:=by decide
theorem sz3:3<=sizeLine:=by decide
theorem gt2:(0:Int)<2:=by decide
theorem gt3:(0:Int)<3:=by decide
theorem gt5:(0:Int)<5:=by decide
section
variable{X:Cx}{x:aC}{p pos:fg}{a b e c:bj}{es:List bj}{t:TA}{te ta tb:TE}{id T:String}{r:List V->Hp->VK->Prop}{n:Nat}{ps:List aC}{sp:Sp}
theorem zX4(h:starEach (e::es) X.env=(false,eval e X.env)::starEach es X.env)(ha:PE X e te)(hr:PA X es t):PA X (e::es) (zU5 te t):=zC ha hr h
theorem zX8(h:PE X (.Name x pos) te):PE X (.Name x pos) te:=h
theorem m_sub(h:PE X (.Subscript a b pos) te):PE X (.Subscript a b pos) te:=h
theorem zZa(h:PE X (.Call (.Name x p) (e::es) [] pos) te):PE X (.Call (.Name x p) (e::es) [] pos) te:=h
theorem m_bin{op:Operator}(h:PE X (.BinOp a op b pos) te):PE X (.BinOp a op b pos) te:=h
theorem m_cmp{op:kQ}(h:PE X (.Compare a [op] [b] pos) te):PE X (.Compare a [op] [b] pos) te:=h
theorem zX6{op:kQ}{tt:TT}(h:PT X (.Compare a [op] [b] pos) tt):PT X (.Compare a [op] [b] pos) tt:=h
theorem zV8{op:BoolOp}{tt:TT}(h:PW X (.BoolOp op es pos) tt):PT X (.BoolOp op es pos) tt:=h.pt
theorem m_val{tt:TE}(he:∀ whole,isTrue e X.env whole=(do let v <- whole; standAt e.pos; holding [v] (truthy v)))(h:PE X e tt):PT X e (tB tt):=zAv h he
theorem m_ix(hs:zQw b)(ha:PE X a ta)(hb:PE X b tb):PE X (.Subscript a b pos) (tOp (rIxA X.K) ta tb):=zQi zPg ha hb hs
theorem zW6(x:aC)(h:PE X (.Name x pos) te):PE X (.Name x pos) te:=h
theorem zKv(hc:vV X (.builtin id) r)(hv:bootBuiltins x=some (.builtin id))(hm:X.mg x=none)(hg:Gl X x)(hn:x ≠ "__name__")(hdb:(x ==("__debug__" : aC))=false)
  (he:starEach (e::es) X.env=(false,eval e X.env)::starEach es X.env) (hpl:(backTo pos (starEach es X.env)).any (·.1)=false) (ha:PA X (e::es) t):PE X (.Call (.Name x p) (e::es) [] pos) (tCB r t):=zQ hc hg hm hv ha hn hdb he hpl
theorem zWz(hc:vV X (.type T) r)(hv:bootBuiltins x=some (.type T))(hm:X.mg x=none)(hg:Gl X x)(hn:x ≠ "__name__")(hdb:(x ==("__debug__" : aC))=false)
  (he:starEach (e::es) X.env=(false,eval e X.env)::starEach es X.env) (hpl:(backTo pos (starEach es X.env)).any (·.1)=false) (ha:PA X (e::es) t):PE X (.Call (.Name x p) (e::es) [] pos) (tCB r t):=wR hc hg hm hv ha hn hdb he hpl
theorem m_own{P:aL}{w:aT}{K:ae}{mg:aC->Option af}{B:aV}(h:Has P w K mg B x n ps sp)(e1:X.prog=P/\X.w=w/\X.K=K/\X.mg=mg/\X.base=B)(hr:rN n X.A)(hg:Gl X x)(hdb:(x ==("__debug__" : aC))=false)
  (he:starEach (e::es) X.env=(false,eval e X.env)::starEach es X.env) (hpl:(backTo pos (starEach es X.env)).any (·.1)=false) (ha:PA X (e::es) t):PE X (.Call (.Name x p) (e::es) [] pos) (zNc sp [] E0 t):=by
 obtain⟨rfl,rfl,rfl,rfl,rfl⟩:=e1;exact vE h hr hg ha hdb he hpl
theorem yN(i:Nat){te:TE}{pos':fg}(hN:X.N.Nodup)(he:PE X e te)(hi:X.N[i]?=some x:=by rfl)(hx:Loc X.env.scope x:=by first | exact dj rfl | exact kB rfl)(hs:swapsWith e (some (.Name x pos')) pos.line X.env=pure false:=by rfl)
  (hf:X.fn x=true\/X.env.scope.names.lookup x=some .local:=by first | exact .inl rfl | exact .inr rfl | assumption):PS X (.Assign [.Name x pos'] e pos) (zZq te (zSz i)):=qN hN hi hx he hs hf
theorem zDh(i:Nat)(hN:X.N.Nodup)(hi:X.N[i]?=some x:=by rfl)(hx:Loc X.env.scope x:=by first | exact dj rfl | exact kB rfl)(hf:X.fn x=true\/X.env.scope.names.lookup x=some .local:=by first | exact .inl rfl | exact .inr rfl | assumption) :
  PG X (.Name x pos) (zSz i):=zA2 hN hi hx hf
theorem zF7{o:bj}{to:TE}{apos cpos:fg}(ho:PE X o to)(ha:PA X (e::es) t)
  (hbase:attributeBase o "append" X.env (eval o X.env)=eval o X.env:=by rfl)
  (hfew:((backTo cpos (starEach (e::es) X.env)).all (λx=>!x.1)&&(backToKw cpos (keywordEach [] X.env)).all (λx=>x.1.isSome)
   && decide ((e::es).length+([]:List g6).length+(if ([]:List g6).isEmpty then 0 else 1)<30))=true:=by rfl)
  (hline:(apos.endLine == cpos.line)=true:=by rfl) (hs:starEach (e::es) X.env=(false,eval e X.env)::starEach es X.env:=by rfl) (hplain:(backTo cpos (starEach es X.env)).any (·.1)=false:=by rfl) :
  PE X (.Call (.Attribute o "append" apos) (e::es) [] cpos) (tBM X.K "list" zPw to t):=zVy PySem.F.plainAttrs_list PySem.F.slot_list_append PySem.F.type_list_append zEz ho ha hbase hfew hline hs hplain
end
end L2

namespace L2
open PySem PySem.Spec PyProof.Rows
def InB(B:aV)(φ:ae->Prop):Prop:=∃ K:ae,K.In B/\φ K
abbrev Cx.withK(X:Cx)(K:ae):Cx:={ X with K:=K }
theorem Mod.withK{K K':ae}{mg:aC->Option af}{B:aV}(m:Mod K mg B)(h:K'.In B):Mod K' mg B:={ m with kin:=h }
section
variable{X:Cx}{pins:List (ag×cA)}{σ:St}{H:Hp}{s:ai}{K:ae}
theorem Cx.Ok.withK(ok:X.Ok)(h:K.In X.base):(X.withK K).Ok :=
 ⟨ok.mod.withK h,ok.kind,ok.glob,ok.blt,ok.above,ok.inj,ok.has,ok.cab,ok.hd,ok.frames,ok.stk,ok.exf,ok.bs,ok.bsz,ok.noex,ok.exfs,ok.funs,ok.frf⟩
theorem Cx.Ok.unK(ok:(X.withK K).Ok)(h:Mod X.K X.mg X.base):X.Ok :=
 ⟨h,ok.kind,ok.glob,ok.blt,ok.above,ok.inj,ok.has,ok.cab,ok.hd,ok.frames,ok.stk,ok.exf,ok.bs,ok.bsz,ok.noex,ok.exfs,ok.funs,ok.frf⟩
theorem Inv.withK(I:Inv X pins σ H s)(h:K.In X.base):Inv (X.withK K) pins σ H s:=⟨I.ok.withK h,I.os,I.bare,I.base,I.loc,I.cell,I.free,I.freeC,I.pin,I.hok,I.len⟩
theorem Inv.unK(I:Inv (X.withK K) pins σ H s)(h:Mod X.K X.mg X.base):Inv X pins σ H s:=⟨I.ok.unK h,I.os,I.bare,I.base,I.loc,I.cell,I.free,I.freeC,I.pin,I.hok,I.len⟩
end
section
variable{X:Cx}{o e value:bj}{es:List bj}{f m:aC}{pos pos' apos:fg}{ta tv:TE}{t:TA}{C g:ag}{n:Nat}{ps:List aC}{sp:Sp}
inductive TFld(C:ag)(f:aC)(x:V)(H:Hp)(Q:VK):Prop where
 | mk (a dx:ag) (fs:List (aC×V)) (v:V) (ex:x=.ref a) (ea:H a=some (.ins C dx fs)) (l:fs.lookup f=some v) (q:Q v H)
def tFld2(C:ag)(f:aC)(ta:TE):TE:=λσ H Q=>ta σ H λx H1=>TFld C f x H1 Q
theorem zAc(hb:InB X.base λK=>Cls K C/\zAs K C f)(he:PE X e ta)(ha:attributeBase e f X.env (eval e X.env)=eval e X.env:=by rfl):PE X (.Attribute e f pos) (tFld2 C f ta):=by
 obtain⟨K,KB,c,n⟩:=hb;intro pins s σ H Q I h;refine zV5 ha (thn (he pins s σ H _ I h) λu s1 ⟨x,H1,I1,rx,a,dx,fs,v,ex,ea,l,q⟩=>?_);subst ex;obtain rfl:u=aK a:=rx;exact zN9 (X:=X.withK K) (I1.withK KB) ea c n l λu' s2 I2 ru=>⟨v,H1,I2.unK I.ok.mod,ru,q⟩
inductive SFld(C:ag)(f:aC)(y x:V)(H:Hp)(Q:Hp->Prop):Prop where
 | mk (a dx:ag) (fs:List (aC×V)) (ex:x=.ref a) (ea:H a=some (.ins C dx fs)) (l:fs.length<1000) (q:Q (upd H a (.ins C dx (zEd f y fs))))
def sFld2(C:ag)(f:aC)(ta tv:TE):TS:=λD σ H=>tv σ H λy H1=>ta σ H1 λx H2=>SFld C f y x H2 (D.nx σ)
theorem zEt(hb:InB X.base λK=>Cls K C/\zAs K C f)(ha:PE X o ta)(hv:PE X value tv)(hs:swapsWith value (some (.Attribute o f pos')) pos.line X.env=pure false:=by rfl):PS X (.Assign [.Attribute o f pos'] value pos) (sFld2 C f ta tv):=by
 obtain⟨K,KB,c,n⟩:=hb;intro pins s σ H D I h;refine plainObj_wpAny_Assign_Attribute (thn (hv pins s σ H _ I h) λu s1 ⟨y,H1,I1,ry,q⟩=>thn (ha pins s1 σ H1 _ I1 q) λov s2 ⟨x,H2,I2,rx,a,dx,fs,ex,ea,l,q2⟩=>?_) hs;subst ex;obtain rfl:ov=aK a:=rx;exact zNy (X:=X.withK K) (I2.withK KB) ea c n l ry λs3 I3=>⟨σ,_,I3.unK I.ok.mod,q2⟩
theorem zJ7{x:aC}{p:fg}(h:Has X.prog X.w X.K X.mg X.base x n ps sp)(hr:rN n X.A)(hg:Gl X x)(hdb:(x ==("__debug__" : aC))=false:=by decide):PE X (.Call (.Name x p) [] [] pos) (zNc sp [] E0 zXp):=by
 obtain⟨f,fd,F,b,k,m⟩:=h;exact zRx F hr hg m k b .nil zRb hdb
def zLc(P:aL)(w:aT)(K:ae)(mg:aC->Option af)(base:aV)(g:ag)(n:Nat)(ps:List aC)(sp:Sp):Prop :=
 ∃ fd:bJ,xJ P w K mg base CX0 n g fd ps sp/\∀ us:List af,us.length=ps.length->bindArgs fd ⟨us,[]⟩=pure (ps.zip us)
inductive TMeth(C:ag)(m:aC)(x:V)(H:Hp)(q:Prop):Prop where
 | mk (a dx:ag) (fs:List (aC×V)) (ex:x=.ref a) (ea:H a=some (.ins C dx fs)) (l:fs.lookup m=none) (k:q)
def zUc(C:ag)(m:aC)(sp:Sp)(ta:TE)(t:TA):TE:=λσ H Q=>ta σ H λx H1=>TMeth C m x H1 (t σ H1 λvs H2=>sp (x::vs) H2 Q E0)
theorem pe_methH{pl:lY Bool}(hb:InB X.base λK=>Cls K C/\zRt K C m g)(h:zLc X.prog X.w X.K X.mg X.base g n ps sp)(hr:rN n X.A)(he:PE X o ta)(ha:PA X (e::es) t)
  (hst:starEach (e::es) X.env=(false,eval e X.env)::starEach es X.env:=by rfl) (hpl:(backTo pos (starEach es X.env)).any (·.1)=false:=by rfl)
  (ht:eval (.Call (.Attribute o m apos) (e::es) [] pos) X.env=(do
   let ov <- eval o X.env
   standAt apos.atName
   let (f,first) <- holding [ov] (getMethod ov m pl)
   callWith pos f first (backTo pos (starEach (e::es) X.env)) (backToKw pos (keywordEach [] X.env))):=by rfl) :
  PE X (.Call (.Attribute o m apos) (e::es) [] pos) (zUc C m sp ta t):=by
 obtain⟨K,KB,c,hm⟩:=hb;obtain⟨fd,F,b⟩:=h;intro pins s σ H Q I h;refine fM (pl:=pl) (thn (he pins s σ H _ I h) λu s1 ⟨x,H1,I1,rx,a,dx,fs,ex,ea,l,q⟩=>?_) ht;subst ex;obtain rfl:u=aK a:=rx;refine zCr (X:=X.withK K) (I1.withK KB) ea c hm l ?_;refine dC (first:=[.ref a]) (h₀:=X.base) (K:=K) KB hm.kp (thn (ha pos pins s1 σ H1 _ I1 q) λus s2 ⟨vs,H2,I2,r,q2⟩=>⟨(I2.withK KB).kIn,?_⟩) hst hpl;exact zLr (us:=.ref a::us) (vs:=.ref a::vs) (dvs:=[]) (ds:=[]) F hr (.all b) .nil zRb I2 (.cons rfl r) (by rw[bF]; exact q2)
theorem wH{pl:lY Bool}(hb:InB X.base λK=>Cls K C/\zRt K C m g)(h:zLc X.prog X.w X.K X.mg X.base g n ps sp)(hr:rN n X.A)(he:PE X o ta)
  (ht:eval (.Call (.Attribute o m apos) [] [] pos) X.env=(do
   let ov <- eval o X.env
   standAt apos.atName
   let (f,first) <- holding [ov] (getMethod ov m pl)
   callWith pos f first (backTo pos (starEach [] X.env)) (backToKw pos (keywordEach [] X.env))):=by rfl) :
  PE X (.Call (.Attribute o m apos) [] [] pos) (zUc C m sp ta zXp):=by
 obtain⟨K,KB,c,hm⟩:=hb;obtain⟨fd,F,b⟩:=h;intro pins s σ H Q I h;refine fM (pl:=pl) (thn (he pins s σ H _ I h) λu s1 ⟨x,H1,I1,rx,a,dx,fs,ex,ea,l,q⟩=>?_) ht;subst ex;obtain rfl:u=aK a:=rx;refine zCr (X:=X.withK K) (I1.withK KB) ea c hm l ?_;exact gh (first:=[.ref a]) (I1.withK KB).kIn hm.kp (zLr (us:=[.ref a]) (vs:=[.ref a]) (dvs:=[]) (ds:=[]) F hr (.all b) .nil zRb I1 (.cons rfl .nil) q)
def zYo(C:ag)(sp:Sp):TE:=λ_ H Q=>∀ x dx,H x=none->H dx=none->dx≠x->sp [.ref x] (upd (upd H dx (.own x)) x (.ins C dx [])) (λv H2=>v=.non/\Q (.ref x) H2) E0
theorem xJ.withK{P:aL}{w:aT}{K K':ae}{mg:aC->Option af}{B:aV}{k:Nat}{f:ag}{fd:bJ}(F:xJ P w K mg B CX0 k f fd ps sp)(h:K.In B):xJ P w K' mg B CX0 k f fd ps sp :=
 ⟨F.len,λA outer s H args us vs Q E hr e0 hb r hsp=>F.run A outer s H args us vs Q E hr { e0 with mod:=e0.mod.withK h } hb r hsp⟩
theorem zRe{x:aC}{p:fg}(hb:InB X.base λK=>Mk K C g)(h:zLc X.prog X.w X.K X.mg X.base g n ps sp)(hr:rN (n+1) X.A)(hm:X.mg x=some (.ref C))(hg:Gl X x:=by rfl)(hdb:(x ==("__debug__" : aC))=false:=by decide) :
  PE X (.Call (.Name x p) [] [] pos) (zYo C sp):=by
 obtain⟨K,KB,M⟩:=hb;obtain⟨fd,F,b⟩:=h;intro pins s σ H Q I h;refine c7 (tS I hg hm ?_ hdb);have J:=I.withK KB;refine gh J.kIn M.kp (cZ (zSl (X:=X.withK K) (us:=[]) (vs:=[]) (dvs:=[]) (ds:=[]) M (F.withK I.ok.mod.kin) hr (.all b) .nil zRb J .nil h) (λu s' ⟨v,H',I',r,q⟩=>⟨v,H',I'.unK I.ok.mod,r,q⟩) λ_ _ z=>z)
end
end L2

namespace L2
open PySem PySem.Spec PyProof.Rows
structure M1(X:Cx)(o:bj)(m:aC)(apos:fg)(e:bj)(cpos:fg):Prop where
 base:attributeBase o m X.env (eval o X.env)=eval o X.env
 few:((backTo cpos (starEach [e] X.env)).all (λx=>!x.1)&&(backToKw cpos (keywordEach [] X.env)).all (λx=>x.1.isSome)
  && decide (([e]:List bj).length+([]:List g6).length+(if ([]:List g6).isEmpty then 0 else 1)<30))=true
 line:(apos.endLine == cpos.line)=true
 trees:backTo cpos (starEach [e] X.env)=[(false,eval e X.env)]
structure M2(X:Cx)(o:bj)(m:aC)(apos:fg)(e f:bj)(cpos:fg):Prop where
 base:attributeBase o m X.env (eval o X.env)=eval o X.env
 few:((backTo cpos (starEach [e,f] X.env)).all (λx=>!x.1)&&(backToKw cpos (keywordEach [] X.env)).all (λx=>x.1.isSome)
  && decide (([e,f]:List bj).length+([]:List g6).length+(if ([]:List g6).isEmpty then 0 else 1)<30))=true
 line:(apos.endLine == cpos.line)=true
 trees:backTo cpos (starEach [e,f] X.env)=[(false,eval e X.env),(false,eval f X.env)]

def IsD(H:Hp)(a:ag):Prop:=(∃ kvs,Rd H a (.dK kvs))\/∃ kvs,Rd H a (.dT kvs)
theorem zXr{X:Cx}{pins:List (ag×cA)}{σ:St}{H:Hp}{s:ai}{a:ag}(I:Inv X pins σ H s)(d:IsD H a) :
  s.TypeIs (.ref a) "dict" /\ (∀ b,aK a=.ref b->∃ ob,s.heap.get? b=some ob/\ob.dict=none)/\(a == sysModules)=false:=by
 rcases d with ⟨kvs,e⟩ | ⟨kvs,e⟩
 ·obtain⟨_,hd,vs,_,dd⟩:=zH5 I.hok e;refine⟨dd.typeIs,λb q=>?_,hd⟩;cases q;obtain⟨ob,_,_,h1,h2,_⟩:=dd;exact⟨ob,h1,h2.2.1⟩
 ·obtain⟨_,hd,xs,_,dd⟩:=zNp I.hok e;refine⟨dd.typeIs,λb q=>?_,hd⟩;cases q;obtain⟨ob,_,_,h1,h2,_⟩:=dd;exact⟨ob,h1,h2.2.1⟩


def zXm(td ty:TE):TE:=λσ H Q=>td σ H λx H1=>∃ a,x=.ref a/\IsD H1 a/\ty σ H1 λy H2=>∃ kvs k v,H2 a=some (.dK kvs)/\y=kV k/\wT kvs k=some v/\Q v (upd H2 a (.dK (zDk kvs k)))
section
variable{X:Cx}{o e f:bj}{apos cpos:fg}{td ty tx:TE}
theorem zEb(ho:PE X o td)(he:PE X e ty)(m:M1 X o "pop" apos e cpos):PE X (.Call (.Attribute o "pop" apos) [e] [] cpos) (zXm td ty):=by
 intro pins s σ H Q I h;refine fF m.base m.few m.line hJ iT PySem.F.type_dict_pop (thn (ho pins s σ H _ I h) λu s1 ⟨x,H1,I1,rx,a,ex,d,q1⟩=>?_);subst ex;obtain rfl:u=aK a:=rx;obtain⟨t1,t2,_⟩:=zXr I1 d;exists t1,t2;rw[m.trees];refine iy rfl (fV (jw (thn (he pins s1 σ H1 _ I1 q1) λiv s2 ⟨y,H2,I2,ry,kvs,k,v,ea,ey,l,q2⟩=>jQ ?_)));subst ey;exact d_pop I2 ea ry l (.inl rfl) λw' s3 I3 rw'=>⟨v,_,I3,rw',q2⟩
end

section
variable{X:Cx}{pins:List (ag×cA)}{σ:St}{H:Hp}{s:ai}{a:ag}{kvs:List (Key×V)}{A:bu}{E:af->ai->Prop}
theorem zSr{Q:af->ai->Prop}(I:Inv X pins σ H s)(e:Rd H a (.dK kvs))(h:∀ p s',H p=none->Inv X pins σ (upd H p (.dK kvs)) s'->Q (.ref p) s'):wpAny (model X.prog X.w) A (call (.type "dict") [.ref a]) Q E s:=by
 obtain⟨z,hd,vs,rel,dd⟩:=zH5 I.hok e;refine kt_call_dict hd dd (by rw[<- rel.length]; exact z) λh' dd' hs=>?_;refine h _ _ (I.hok.fresh (am _)) (I.laid (a:=s.heap.objs.size) (o:=.dK kvs) (t':=s.toks) (λb q hq=>?_) (am _) (zIr z (beq_eq_false_iff_ne.mpr (cw (aQ I.big))) rel dd'));exact(hs.2 b (aQ (az hq))).trans (ah _ hq)
end


end L2


namespace L2
open PySem PySem.Spec PyProof.Rows
section
variable{X:Cx}{pins:List (ag×cA)}{σ:St}{H:Hp}{s:ai}{d:ag}{kvs:List (Key×V)}
theorem Inv.freeze(I:Inv X pins σ H s)(hd:H d=some (.dK kvs)){o:cA}(ho:s.heap.get? d=some o):Inv X pins σ (upd H d (.frz o (.dK kvs))) s:=by
 have ne:∀{b:ag},H b=none->b≠d:=λ{b} n e=>by rw[e,hd] at n; cases n
 have nk:∀{b:ag}{u:HO},H b=some u->u≠.dK kvs->upd H d (.frz o (.dK kvs)) b=some u:=λ{b u} e z=>by
  rw[zG (λq=>z (by rw[q,hd] at e; exact(aZ e).symm))];exact e
 have nn:∀{b:ag},H b=none->upd H d (.frz o (.dK kvs)) b=none:=λ{b} n=>by rw[zG (ne n)]; exact n
 have st:∀(b:ag)(u:HO),xL X.prog X.w H s.heap b u->xL X.prog X.w (upd H d (.frz o (.dK kvs))) s.heap b u:=λb u k =>
  k.stay (λc v _ q=>q) (λc q=>nk q (λz=>nomatch z)) λc xs q=>nk q (λz=>nomatch z)
 refine⟨I.ok,I.os,I.bare,⟨I.base.keep,I.base.slot,λb u e n hx=>nn (I.base.free b u e n hx),I.base.there,λb xs e=>nk (I.base.tups b xs e) (λz=>nomatch z),λb u v e=>nk (I.base.frzs b u v e) (λz=>nomatch z),
  λb ps e=>let ⟨more,q⟩:=I.base.tbls b ps e;⟨more,nk q (λz=>nomatch z)⟩⟩,I.loc,I.cell,nn I.free,λx c e=>nn (I.freeC x c e),λp hp=>?_,λb u e=>?_,I.len⟩
 ·obtain⟨h1,h2,h3⟩:=I.pin p hp;exact⟨h1,nn h2,h3⟩
 ·by_cases eb:b=d
  ·subst eb;rw[zA] at e;cases e;exact⟨ho,st b _ (I.hok b _ hd)⟩
  ·rw[zG eb] at e;exact st b u (I.hok b u e)
theorem Inv.frzAt(I:Inv X pins σ H s){o:cA}{es:Array dn}{ep:Nat}(hd:H d=some (.frz o (.dK kvs)))(ho:o.data=.dict es ep) :
  ∃ vs,KV kvs vs/\s.heap.DictAt (yI X.prog X.w) d vs ep/\kvs.length<=sizeLine/\(d == sysModules)=false:=by
 obtain⟨e,z,y,vs,r,o',es',ep',e',c,dt,k,p,n⟩:=(show xL X.prog X.w H s.heap d (.frz o (.dK kvs)) from I.hok d _ hd);rw[e] at e';cases e';rw[ho] at dt;injection dt with d1 d2
 subst d1 d2;exact⟨vs,r,⟨o,es,e,c,ho,k,p,n⟩,z,y⟩
theorem KV.at{vs:List (Key×af)} : ∀{kvs:List (Key×V)}{vs:List (Key×af)}{i:Nat}{k:Key}{v:V},KV kvs vs->kvs[i]?=some (k,v)->∃ u,vs[i]?=some (k,u)/\xI v u
 | _,_,_,_,_,.nil,e=>by simp at e
 | _,_,0,k,v,.cons (a:=a) (b:=b) ⟨r1,r2⟩ _,e=>by
  simp at e;subst e;exact⟨b.2,by rw[show(k,b.2)=b from by rw[show k=b.1 from r1]]; rfl,r2⟩
 | _,_,i+1,k,v,.cons _ t,e=>KV.at (vs:=[]) (i:=i) t (by simpa using e)
def Itc(φ:Hp->Prop)(xs:List V):It:=⟨λi H=>φ H/\i<xs.length,λi H x H'=>H'=H/\xs[i]?=some x,λi H=>φ H/\xs.length<=i⟩
abbrev zOh(d:ag)(o:cA)(kvs:List (Key×V))(H:Hp):Prop:=H d=some (.frz o (.dK kvs))
theorem zPx{P:aL}{w:aT}{K:ae}{tg:bj}{o:cA}{es:Array dn}{ep:Nat}(ho:o.data=.dict es ep)(it:ag) :
  zUj P w K tg (Itc (zOh d o kvs) (kvs.map (·.2))) [it] it (λi h=>h.IsValIter it d i kvs.length ep) where
 mem:=by simp
 obj:=λi h st b hb=>by
  have e:b=it:=by simpa using hb
  subst e;obtain⟨o,e,c,d⟩:=st;exact⟨o,e,λv z=>by rw[d] at z; cases z⟩
 keep:=λi h h' st k=>st.at λo e=>k it (by simp) o e
 item:=by
  intro X hP hw hK hc i pins s σ H E I hf st ⟨fz,hi⟩;subst hP hw hK;obtain⟨vs,r,da,_,_⟩:=I.frzAt fz ho;rw[ac] at hi;obtain⟨u,hu,ru⟩:=KV.at (vs:=vs) (k:=kvs[i].1) (v:=kvs[i].2) r (aj hi);obtain⟨f0,f1,f2,f3,f4,f5⟩:=hf it (by simp);have st':s.heap.IsValIter it d i vs.length ep:=by rw[<- r.length]; exact st
  refine wpAny_pyNext_values_item st' da hu λh' st2 sb=>?_;have I1:Inv X pins σ H { s with heap:=h' }:=I.turned (t':=s.toks) (λb o hb e=>(sb.2 b hb).trans e) f0 f1 f3 f4 f5;obtain⟨o,e,c,dd⟩:=id st2;rw[<- r.length] at st2;exact⟨u,rfl,zOa (s:={ s with heap:=h' }) e c dd (by decide) ⟨kvs[i].2,H,I1,ru,⟨rfl,by rw[av,aj hi]; rfl⟩,st2,λb hb=>(hf b hb).1⟩⟩
 done:=by
  intro X hP hw hK hc i pins s σ H E I hf st ⟨fz,hi⟩;subst hP hw hK;obtain⟨vs,r,da,_,_⟩:=I.frzAt fz ho;rw[ac] at hi;obtain⟨f0,f1,f2,f3,f4,f5⟩:=hf it (by simp);have st':s.heap.IsValIter it d i vs.length ep:=by rw[<- r.length]; exact st
  exact wpAny_pyNext_values_end (I.ok.hd hc) st' da (ce (by rw[<- r.length]; exact hi)) λh' eb=>⟨rfl,I.turned (t':=s.toks) (λb o hb e=>eb b o hb e) f0 f1 f3 f4 f5⟩
 self:=λ_ _ _ _ _ st h=>wpAny_pyIter_valiter st h
def zTn(d:ag)(o:cA)(kvs:List (Key×V))(H H2:Hp):Prop:=H2 d=some (.frz o (.dK kvs))/\(∀ b,b≠d->H2 b=H b)/\∀ o',H d=some (.frz o' (.dK kvs))->o'=o
theorem Inv.frozen(I:Inv X pins σ H s)(hd:Rd H d (.dK kvs)):∃(o:cA)(es:Array dn)(ep:Nat)(H2:Hp),o.data=.dict es ep/\zTn d o kvs H H2/\Inv X pins σ H2 s:=by
 obtain⟨z,y,vs,r,o,es,ep,e,c,dt,_⟩:=hd.ok I.hok;rcases hd with hd | ⟨o',hd⟩
 ·exact⟨o,es,ep,_,dt,⟨zA,λb hb=>zG hb,λo' e'=>by rw[hd] at e'; cases e'⟩,I.freeze hd e⟩
 ·obtain⟨e',_⟩:=(show xL X.prog X.w H s.heap d (.frz o' (.dK kvs)) from I.hok d _ hd);rw[e] at e';cases e';exact⟨o,es,ep,H,dt,⟨hd,λ_ _=>rfl,λo' e'=>by rw[hd] at e'; cases e'; rfl⟩,I⟩
def iVals(te:TE):TI:=λσ H R=>te σ H λx H1=>∃(d:ag)(kvs:List (Key×V)),x=.ref d/\Rd H1 d (.dK kvs)/\∀(o:cA)(H2:Hp),zTn d o kvs H1 H2->R (Itc (zOh d o kvs) (kvs.map (·.2))) H2
variable{tg l:bj}{te:TE}{apos pos:fg}
theorem zH2(hl:PE X l te)(hbase:attributeBase l "values" X.env (eval l X.env)=eval l X.env:=by rfl)(hline:(apos.endLine == pos.line)=true:=by rfl):PI X tg (.Call (.Attribute l "values" apos) [] [] pos) (iVals te):=by
 intro pins s σ H R I h;refine fF (T := "dict") (id := "dict.values") hbase rfl hline hJ jE F.type_dict_values (thn (hl pins s σ H _ I h) λv s1 ⟨x,H1,I1,r1,d,kvs,e,hd,q⟩=>?_);subst e;cases r1;obtain⟨o,es,ep,H2,ho,ft,I2⟩:=I1.frozen hd;obtain⟨vs,r,da,_,ns⟩:=I2.frzAt ft.1 ho;exists da.dictOf.typeIs,da.dictOf.mapOf.noDict;show wpAny _ _ (callWith pos (.builtin "dict.values") [.ref d] [] []) _ _ s1;refine method_meetsIn jE F.entry_dict_values rfl (gj ⟨rfl,da.dictOf.typeIs,F.args_dict_values_1 _,_,meets_dict_values (yI X.prog X.w) d ns,⟨vs,da.dictOf⟩,?_⟩);refine wpAny_pyIter_values (knd:=yI X.prog X.w) (d:=d) (kvs:=vs) (ep:=ep) ⟨_,ap _ rfl,rfl,rfl⟩ (da.push _) ?_;have I3:=I2.kept (t':=s1.toks) (h':=s1.heap.push { cls:=.type "dict_values", data:=.fields #[.ref d] }) λb o e=>ah _ e;have I4:=I3.kept (t':=s1.toks) (h':=(s1.heap.push { cls:=.type "dict_values", data:=.fields #[.ref d] }).push { cls:=.type "dict_valueiterator", data:=.fields #[.ref d,.int 0 0,.int vs.length 0,.int ep 0] }) λb o e=>ah _ e;refine⟨_,[_],_,_,H2,rfl,I4,zPx ho _,⟨_,ap _ rfl,rfl,by rw[r.length]; rfl⟩,λb hb=>?_,q o H2 ft⟩;have e:=aw.mp hb;subst e;exact I3.fpOk (am _) (I3.hok.fresh (am _))
end
end L2

namespace L2
open PySem PySem.Spec PyProof.Rows
section
variable{φ:Hp->Prop}{xs:List V}{g:TG}{tb:TS}{E:zPd}{σ σ0:St}{H H1:Hp}{D:ag}{tt:TT}{te:TE}{Q:VK}
theorem zYk(Pv:Nat->St->Hp->Prop)(h0:Pv 0 σ H)(hl:∀ i σ H,Pv i σ H->φ H)
  (hs:∀ i x σ H,xs[i]?=some x->Pv i σ H->g x σ H λσ2 H2=>tb { E with nx:=Pv (i+1),ct:=Pv (i+1),bk:=E.nx } σ2 H2) (hd:∀ σ H,Pv xs.length σ H->E.nx σ H) :
  ∃ W:Nat->Nat->St->Hp->Prop,(∃ m,W 0 m σ H)/\∀ i m σ H,W i m σ H ->
   ((Itc φ xs).stop i H/\E.nx σ H)\/((Itc φ xs).go i H/\∃ N:St->Hp->Prop,(∀ σ' H',N σ' H'->∃ m',m'<m/\W (i+1) m' σ' H')/\∀ x H',(Itc φ xs).yld i H x H'->g x σ H' λσ2 H2=>tb { E with nx:=N,ct:=N,bk:=E.nx } σ2 H2):=by
 exists λi m σ H=>m=xs.length-i/\i<=xs.length/\Pv i σ H,⟨xs.length,by simp,bf _,h0⟩;rintro i m σ H ⟨rfl,hi,p⟩;by_cases hlt:i<xs.length
 ·refine .inr ⟨⟨hl i σ H p,hlt⟩,Pv (i+1),λσ' H' p'=>⟨xs.length-(i+1),by lia,rfl,hlt,p'⟩,λx H' ⟨e,y⟩=>?_⟩;subst e;exact hs i x σ _ y p
 ·have e:i=xs.length:=by lia
  subst e;exact .inl ⟨⟨hl _ σ H p,am _⟩,hd σ H p⟩
theorem zYm(Pv:Nat->St->List V->Hp->Prop)(h0:Pv 0 σ0 [] (upd H1 D (.lst [])))(hl:∀ i σ ys H,Pv i σ ys H->φ H/\H D=some (.lst ys))
  (hs:∀ i x σ ys H,xs[i]?=some x->Pv i σ ys H->g x σ H λσ2 H2=>tt σ2 H2 λb H3 =>
   if b=true then te σ2 H3 λy H4=>H4 D=some (.lst ys)/\ys.length<sizeLine/\Pv (i+1) σ2 (ys++[y]) (upd H4 D (.lst (ys++[y]))) else Pv (i+1) σ2 ys H3)
  (hd:∀ σ ys H,Pv xs.length σ ys H->Q (.ref D) H):zCv (Itc φ xs) D g tt te σ0 H1 Q:=by
 exists λi m σ ys H=>m=xs.length-i/\i<=xs.length/\Pv i σ ys H,⟨xs.length,by simp,bf _,h0⟩;rintro i m σ ys H ⟨rfl,hi,p⟩;obtain⟨q,qd⟩:=hl i σ ys H p;exists qd;by_cases hlt:i<xs.length
 ·refine .inr ⟨⟨q,hlt⟩,Pv (i+1),λσ' zs H' z=>⟨xs.length-(i+1),by lia,rfl,hlt,z⟩,λx H' ⟨e,y⟩=>?_⟩;subst e;exact hs i x σ ys _ y p
 ·have e:i=xs.length:=by lia
  subst e;exact .inl ⟨⟨q,am _⟩,hd σ ys H p⟩
theorem zK4(Pv:Nat->St->List V->Hp->Prop)(h0:Pv 0 σ0 [] (upd H1 D (.lst [])))(hl:∀ i σ ys H,Pv i σ ys H->φ H/\H D=some (.lst ys))
  (hs:∀ i x σ ys H,xs[i]?=some x->Pv i σ ys H->g x σ H λσ2 H2=>te σ2 H2 λy H4=>H4 D=some (.lst ys)/\ys.length<sizeLine/\Pv (i+1) σ2 (ys++[y]) (upd H4 D (.lst (ys++[y]))))
  (hd:∀ σ ys H,Pv xs.length σ ys H->Q (.ref D) H):zCv (Itc φ xs) D g zWu te σ0 H1 Q:=zYm Pv h0 hl (λi x σ ys H e p=>hs i x σ ys H e p) hd
end
section
variable{X:Cx}{x y:aC}{p pos:fg}{i e:bj}{es:List bj}{ty:TE}{t:TA}
theorem zL6{n:Int}(hm:∃ k,X.mg x=some (.int n k))(hg:Gl X x:=by rfl)(hd:(x ==("__debug__" : aC))=false:=by decide):PE X (.Name x pos) (tC (.int n)):=λ_ _ _ H _ I h=>by
 obtain⟨k,hm⟩:=hm;exact tS I hg hm ⟨.int n,H,I,⟨k,rfl⟩,h⟩ hd
def zW5(P:aL)(w:aT)(B:aV)(a:ag)(kvs:List (Key×V)):Prop:=∃ vs,KV kvs vs/\B.DictOf (yI P w) a vs
def tGet(kvs:List (Key×V))(ty:TE):TE:=λσ H Q=>ty σ H λy H1=>∃(k:Key)(v:V),y=kV k/\wT kvs k=some v/\Q v H1
theorem zUn{pins:List (ag×cA)}{σ:St}{H:Hp}{s:ai}{a:ag}{kvs:List (Key×V)}{k:Key}{v:V}{u:af}{E:af->ai->Prop}{Q:af->ai->Prop}(hb:zW5 X.prog X.w X.base a kvs)(I:Inv X pins σ H s)(l:wT kvs k=some v)(r:xI (kV k) u)
  (h:∀ w' s',Inv X pins σ H s'->xI v w'->Q w' s'):s.TypeIs (.ref a) "dict" /\ wpAny (model X.prog X.w) X.A (getItem (.ref a) u) Q E s:=by
 obtain⟨vs,rel,dd⟩:=hb;have dd:s.heap.DictOf (yI X.prog X.w) a vs:=dd.at λo e=>I.bk a o e;obtain⟨w',hw,rw'⟩:=zH7.some_of (v:=v) (o:=valueAt vs k) (by rw[<- l]; exact rel.val k);exact⟨dd.typeIs,kJ (zHp r) dd.mapOf hw (h w' _ (I.tok _) rw')⟩
theorem zTa{a:ag}{kvs:List (Key×V)}(hb:zW5 X.prog X.w X.base a kvs)(hm:X.mg x=some (.ref a))(hi:PE X i ty)(hs:zZk i:=by exact λ_ _=>rfl)(hg:Gl X x:=by rfl)(hd:(x ==("__debug__" : aC))=false:=by decide) :
  PE X (.Subscript (.Name x p) i pos) (tGet kvs ty):=by
 intro pins s σ H Q I h;refine zK9 e7.lookup hs (tS I hg hm (thn (hi pins s σ H _ I h) λiv s2 ⟨y,H2,I2,ry,k,v,ey,l,q2⟩=>?_) hd);subst ey;exact zUn hb I2 l ry λw' s3 I3 rw'=>⟨v,H2,I3,rw',q2⟩
structure TabAt(P:aL)(w:aT)(K:ae)(mg:aC->Option af)(B:aV)(m:Nat)(kvs:List (Key×V))(k:Key)(sp:Sp):Prop where
 mk ::
 has:∃(x:aC)(f:ag)(n:Nat)(ps:List aC),wT kvs k=some (.ref f)/\mg x=some (.ref f)/\Has P w K mg B x n ps sp/\n<=m
end
theorem zA8:bootBuiltins "dict" = some (.type "dict"):=by decide +kernel
section
variable{X:Cx}
theorem rF:vV X (.type "dict") (λxs H Q=>∃(a:ag)(kvs:List (Key×V)),xs=[.ref a]/\Rd H a (.dK kvs)/\∀ p,H p=none->Q (.ref p) (upd H p (.dK kvs))):=by
 intro pins s σ H xs us Q I r h;obtain⟨a,kvs,rfl,ha,q⟩:=h;obtain⟨u,rfl,ru⟩:=zNa r;cases ru;exact zSr I ha λp s' hp I'=>⟨.ref p,_,I',rfl,q p hp⟩
theorem sC:vV X (.builtin "len") (λxs H Q=>∃(a:ag)(kvs:List (Key×V)),xs=[.ref a]/\Rd H a (.dK kvs)/\Q (.int kvs.length) H):=by
 intro pins s σ H xs us Q I r h;obtain⟨a,kvs,rfl,ha,q⟩:=h;obtain⟨u,rfl,ru⟩:=zNa r;cases ru;exact d_len I ha λt s' I'=>⟨.int kvs.length,H,I',⟨t,rfl⟩,q⟩
theorem zJ4{P:aL}{w:aT} : ∀{es:List dn}{kvs:List (Key×V)}{vs:List (Key×af)},KV kvs vs->Pairs (yI P w) es vs->yY (kvs.map λkv=>kV kv.1) (es.map (·.key))
 | _,_,_,.nil,.nil=>.nil
 | _,_,_,.cons ⟨r1,_⟩ t,.cons hk _ p=>by
  refine .cons ?_ (zJ4 t p);dsimp only;rw[r1];rcases yS hk with ⟨j,t,e1,e2⟩ | ⟨x,t,e1,e2⟩
  ·rw[e1,e2]; exact⟨t,rfl⟩
  ·rw[e1,e2]; exact⟨t,rfl⟩
theorem zJg(hc:X.calm=true):vV X (.type "list") (λxs H Q=>∃(d:ag)(kvs:List (Key×V)),xs=[.ref d]/\Rd H d (.dK kvs)/\∀ p,H p=none->Q (.ref p) (upd H p (.lst (kvs.map λkv=>kV kv.1)))):=by
 intro pins s σ H xs us Q I r h;obtain⟨d,kvs,rfl,hd,q⟩:=h;obtain⟨u,rfl,ru⟩:=yY.one r;cases ru;obtain⟨hz,hsm,vs,rel,ob,es,age,g,ex,dat,hk,hp,hn⟩:=zH5 I.hok hd;have vk:=zJ4 rel hp;have hsz:es.size=kvs.length:=by
  have z:=vk.length;rw[ac,ac,bR] at z;exact z.symm
 refine PySem.W.kdl_call (zVc (rows:=es) (age:=age) hsm) (show X.A.handled=none from I.ok.hd hc) ⟨ob,g,ex,dat⟩ (by rw[hsz]; exact hz) λh' tk acc c keep at' its=>?_;have eqs:acc.toList=es.toList.map (·.key):=by
  refine g9 λj=>?_;by_cases hj:j<es.size
  ·have ja:j<acc.size:=by rw[its.1]; exact hj
   obtain⟨hj',e⟩:=its.2 j acc[j] (by simp[ja]);rw[fN,cW ja,e,av,fN,cW hj];rfl
  ·rw[ce (by rw[bR,its.1]; lia),ce (by simp; lia)]
 refine⟨.ref s.heap.objs.size,_,I.laid (t':=tk) (a:=s.heap.objs.size) (o:=.lst (kvs.map λkv=>kV kv.1)) keep (am _) ?_,rfl,q _ (I.hok.fresh (am _))⟩;exists by rw[ac]; exact hz,_,c,vk;rw[<- eqs,i6];exact at'
end
end L2

namespace L2
open PySem PySem.Spec PyProof.Rows
def zE2(x:aC):List V:=x.cps.toList.map λc=>.str ⟨#[c]⟩
section
variable{X:Cx}{tg l:bj}{te:TE}
theorem zTl{P:aL}{w:aT}{K:ae}{tg:bj}(x:aC)(t:nA)(it:ag):zUj P w K tg (Itc (λ_=>True) (zE2 x)) [it] it (λi h=>h.IsStrIter it "str_ascii_iterator" x t i) where
 mem:=by simp
 obj:=λi h st b hb=>by
  have e:b=it:=by simpa using hb
  subst e;obtain⟨o,e,c,d⟩:=st;exact⟨o,e,λv z=>by rw[d] at z; cases z⟩
 keep:=λi h h' ⟨o,ho,r⟩ k=>⟨o,k it (by simp) o ho,r⟩
 item:=by
  intro X hP hw hK hc i pins s σ H E I hf st ⟨_,hi⟩;subst hP hw hK;have hi':i<x.cps.size:=by unfold zE2 at hi; rw[ac,bR] at hi; exact hi
  obtain⟨f0,f1,f2,f3,f4,f5⟩:=hf it (by simp);refine wpAny_pyNext_ascii_item st (c:=x.cps[i]) (cW hi') λh' st2 sb=>?_;have I1:Inv X pins σ H { s with heap:=h',toks:=s.toks+1 }:=I.turned (t':=s.toks+1) (λb o hb e=>(sb.2 b hb).trans e) f0 f1 f3 f4 f5;obtain⟨o,e,c,dd⟩:=id st2;exact⟨_,rfl,zOa (s:={ s with heap:=h',toks:=s.toks+1 }) e c dd (by decide) ⟨.str ⟨#[x.cps[i]]⟩,H,I1,⟨_,rfl⟩,⟨rfl,by unfold zE2; rw[av,fN,cW hi']; rfl⟩,st2,λb hb=>(hf b hb).1⟩⟩
 done:=by
  intro X hP hw hK hc i pins s σ H E I hf st ⟨_,hi⟩;subst hP hw hK;have hi':x.cps.size<=i:=by unfold zE2 at hi; rw[ac,bR] at hi; exact hi
  obtain⟨f0,f1,f2,f3,f4,f5⟩:=hf it (by simp);exact wpAny_pyNext_ascii_end (I.ok.hd hc) st (d4 hi') λh' eb=>⟨rfl,I.turned (t':=s.toks) (λb o hb e=>eb b o hb e) f0 f1 f3 f4 f5⟩
 self:=λ_ _ _ _ _ st h=>wpAny_pyIter_striter_ascii st h
def iStr(te:TE):TI:=λσ H R=>te σ H λv H1=>∃ x:aC,v=.str x/\x.cps.all (· < 128)=true/\R (Itc (λ_=>True) (zE2 x)) H1
theorem zT7(hl:PE X l te):PI X tg l (iStr te):=by
 intro pins s σ H R I h;refine thn (hl pins s σ H _ I h) λv s1 ⟨y,H1,I1,r1,x,e,ha,q⟩=>?_;subst e;obtain⟨t,rfl⟩:=r1;refine wpAny_pyIter_ascii ha ?_;refine⟨s1.heap.objs.size,[s1.heap.objs.size],_,_,H1,rfl,I1.kept (t':=s1.toks) λb o e=>ah _ e,zTl x t _,⟨_,ap _ rfl,rfl,rfl⟩,λb hb=>?_,q⟩;have e:b=s1.heap.objs.size:=by simpa using hb
 subst e;exact I1.fpOk (am _) (I1.hok.fresh (am _))
theorem zKc:OpR X (compareOp .LtE) (λx y H Q=>∃ i j,x=.str i/\y=.str j/\Q (.bl (!decide (j.cps.toList<i.cps.toList))) H):=by
 intro pins s σ H x y v u Q I rx ry h;obtain⟨i,j,rfl,rfl,q⟩:=h;obtain⟨t,rfl⟩:=rx;obtain⟨t',rfl⟩:=ry;exact PySem.P.le_str (yX I q rfl)
theorem zUu:SlR X (λx lo hi H Q=>∃ z:aC,x=.str z/\z.length<=sizeLine/\Q (.str (eZ z lo hi)) H):=by
 intro pins s σ H x v vl vu lo hi sl Q I rx hs pl pu h;obtain⟨z,rfl,hz,q⟩:=h;obtain⟨t,rfl⟩:=rx;have fin:∀(l u:Option (Int×nA)),l.map (·.1)=lo->u.map (·.1)=hi->(sliceMade z t l u none).post (EP X pins σ Q) s:=λl u e1 e2=>by
  subst e1 e2;exact post_val_or_str (t:=t) (s:=s) (Q:=EP X pins σ Q) ⟨aO (iB z _ _) hz,λt' k=>⟨.str (eZ z _ _),H,I.tok k,⟨t',rfl⟩,q⟩⟩
 exists "str", _,F.slot_str_getitem.lookup,typeIs_str _ _ _;obtain⟨o,ho,hc,hd⟩:=hs;cases pl with
 | none =>
  cases pu with
  | none=>exact dY (l:=none) (u:=none) (st:=none) ⟨o,ho,hc,hd⟩ rfl (fin none none rfl rfl)
  | int j tj=>exact dY (l:=none) (u:=some (j,tj)) (st:=none) ⟨o,ho,hc,hd⟩ rfl (fin none (some (j,tj)) rfl rfl)
 | int i ti =>
  cases pu with
  | none=>exact dY (l:=some (i,ti)) (u:=none) (st:=none) ⟨o,ho,hc,hd⟩ rfl (fin (some (i,ti)) none rfl rfl)
  | int j tj=>exact dY (l:=some (i,ti)) (u:=some (j,tj)) (st:=none) ⟨o,ho,hc,hd⟩ rfl (fin (some (i,ti)) (some (j,tj)) rfl rfl)
theorem zIe:∀{ts:List aC}{us:List af},yY (ts.map V.str) us->∃ l:List (aC×nA),us=strValues l/\l.map (·.1)=ts
 | [],_,.nil=>⟨[],rfl,rfl⟩
 | x::ts,_,.cons ⟨t,e⟩ r=>by
  obtain⟨l,e1,e2⟩:=zIe r;subst e;exact⟨(x,t)::l,by rw[e1]; rfl,by rw[aM,e2]⟩
theorem zRg(sep:aC):∀ zs:List aC,(il sep zs).length<=(zs.map (·.length)).sum+zs.length*sep.length
 | []=>bf _
 | [y]=>by
  show y.length<=_;simp
 | y::z::l=>by
  have ih:=zRg sep (z::l);have e:(il sep (y::z::l)).length=y.length+sep.length+(il sep (z::l)).length:=by
   show(y++sep++il sep (z::l)).length=_;rw[strLen_append,strLen_append]
  rw[e];simp only[aM,mE,aS,Nat.succ_mul] at ih ⊢;lia
def zCt(sep:aC)(ts:List aC):Nat:=(ts.map (·.length)).sum+ts.length*sep.length
theorem zP1:MtR X "str.join" (λx xs H Q=>∃(sep:aC)(a:ag)(ts:List aC),x=.str sep/\xs=[.ref a]/\SqL X.K H a (ts.map V.str)/\zCt sep ts<=sizeLine/\Q (.str (fG sep ts)) H):=by
 intro pins s σ H x xs v us Q I rx rv h;obtain⟨sep,a,ts,rfl,rfl,ha,hl,q⟩:=h;obtain⟨t,rfl⟩:=rx;obtain⟨u,rfl,ru⟩:=yY.one rv;cases ru;obtain⟨its,r,p,_⟩:=I.list ha;obtain⟨l,rfl,el⟩:=zIe r;have ht:Builtin.Str.tooLong ((l.map (·.1)).toArray.foldl (· + ·.length+sep.length) 0)=false:=by
  rw[el,mM];exact decide_eq_false (by unfold zCt at hl; lia)
 refine call_meets iX (typeIs_str _ _ _) F.entry_str_join (F.args_str_join_2 _ _) (meets_str_join_list sep t a l ht) ⟨p.isList,?_⟩;have gl:∀ zs:List aC,(fG sep zs).length<=zCt sep zs:=λzs=>by
  rw[gA];exact zRg sep zs
 match l,el with
 | [],el =>
  subst el;exact⟨aO (gl []) hl,⟨.str _,H,I.tok _,⟨_,rfl⟩,q⟩⟩
 | [y],el =>
  subst el;exact⟨.str y.1,H,I,⟨y.2,rfl⟩,q⟩
 | y::z::l,el =>
  subst el;exact⟨aO (gl _) hl,⟨.str _,H,I.tok _,⟨_,rfl⟩,q⟩⟩
end
end L2

namespace Sea
open PySem L2
inductive Dt where
 | int (i:Int)
 | str (x:aC)
 | tup (l:List Dt)
mutual
def Rep(H:Hp):Dt->V->Prop
 | .int i,v=>v=.int i
 | .str x,v=>v=.str x
 | .tup l,v=>∃(a:ag)(xs:List V),v=.ref a/\H a=some (.tup xs)/\xX H l xs
def xX(H:Hp):List Dt->List V->Prop
 | [],xs=>xs=[]
 | d::l,xs=>∃(x:V)(r:List V),xs=x::r/\Rep H d x/\xX H l r
end
def wE(φ:ag->Prop)(H H':Hp):Prop:=∀ b o,¬ φ b->H b=some o->H' b=some o\/∃(ob:cA)(kvs:List (Key×V)),o=.dK kvs/\H' b=some (.frz ob (.dK kvs))
abbrev Sam(H H':Hp):Prop:=wE (λ_=>False) H H'
section
variable{φ ψ:ag->Prop}{H H1 H2:Hp}{a:ag}{xs:List V}
theorem wE.of(s:Same H H1):wE φ H H1:=λb o _ e=>.inl (s b o e)
theorem wE.refl(H:Hp):wE φ H H:=λ_ _ _ e=>.inl e
theorem wE.trans(s:wE φ H H1)(t:wE φ H1 H2):wE φ H H2:=λb o n e=>by
 rcases s b o n e with e1 | ⟨ob,kvs,e0,e1⟩
 ·exact t b o n e1
 ·subst e0;rcases t b _ n e1 with e2 | ⟨_,_,z,_⟩
  ·exact .inr ⟨ob,kvs,rfl,e2⟩
  ·cases z
theorem wE.wider(s:wE φ H H1)(h:∀ b,φ b->ψ b):wE ψ H H1:=λb o n e=>s b o (λz=>n (h b z)) e
theorem wE.lst(s:wE φ H H1)(n:¬ φ a)(e:H a=some (.lst xs)):H1 a=some (.lst xs):=by
 rcases s a _ n e with z | ⟨_,_,z,_⟩
 ·exact z
 ·cases z
theorem wE.tup(s:wE φ H H1)(n:¬ φ a)(e:H a=some (.tup xs)):H1 a=some (.tup xs):=by
 rcases s a _ n e with z | ⟨_,_,z,_⟩
 ·exact z
 ·cases z
theorem wE.ins(s:wE φ H H1)(n:¬ φ a){C dx:ag}{fs:List (aC×V)}(e:H a=some (.ins C dx fs)):H1 a=some (.ins C dx fs):=by
 rcases s a _ n e with z | ⟨_,_,z,_⟩
 ·exact z
 ·cases z
theorem wE.rd(s:wE φ H H1)(n:¬ φ a){kvs:List (Key×V)}(e:Rd H a (.dK kvs)):Rd H1 a (.dK kvs):=by
 rcases e with e | ⟨ob,e⟩
 ·rcases s a _ n e with z | ⟨ob,kvs',z,w⟩
  ·exact .inl z
  ·cases z;exact .inr ⟨ob,w⟩
 ·rcases s a _ n e with z | ⟨_,_,z,_⟩
  ·exact .inr ⟨ob,z⟩
  ·cases z
theorem wE.some(s:wE φ H H1)(n:¬ φ a){o:HO}(e:H a=some o):∃ o',H1 a=some o':=by
 rcases s a _ n e with z | ⟨_,_,_,w⟩
 ·exact⟨_,z⟩
 ·exact⟨_,w⟩
theorem wE.free(s:wE φ H H1)(n:¬ φ a)(e:H1 a=none):H a=none:=by
 cases q:H a with
 | none=>rfl
 | some o =>
  obtain⟨o',z⟩:=s.some n q;rw[e] at z;cases z
theorem zHh{d:ag}{o:cA}{kvs:List (Key×V)}(hd:Rd H d (.dK kvs))(f:zTn d o kvs H H1):wE φ H H1:=λb u _ e=>by
 by_cases z:b=d
 ·subst z;rcases hd with hd | ⟨o',hd⟩
  ·rw[hd] at e;cases e;exact .inr ⟨o,kvs,rfl,f.1⟩
  ·rw[hd] at e;cases e;rw[<- f.2.2 o' hd] at f;exact .inl f.1
 ·exact .inl (by rw[f.2.1 b z]; exact e)
end
mutual
theorem Rep.sam{φ:ag->Prop}{H H1:Hp}(s:wE φ H H1)(np:∀ b xs,H b=some (.tup xs)->¬ φ b):∀{d:Dt}{v:V},Rep H d v->Rep H1 d v
 | .int _,_,h=>by rw[Rep] at h ⊢; exact h
 | .str _,_,h=>by rw[Rep] at h ⊢; exact h
 | .tup l,v,h=>by
  rw[Rep] at h ⊢;obtain⟨a,xs,e,h1,h2⟩:=h;exact⟨a,xs,e,s.tup (np a xs h1) h1,xX.sam s np h2⟩
theorem xX.sam{φ:ag->Prop}{H H1:Hp}(s:wE φ H H1)(np:∀ b xs,H b=some (.tup xs)->¬ φ b):∀{l:List Dt}{xs:List V},xX H l xs->xX H1 l xs
 | [],_,h=>by rw[xX] at h ⊢; exact h
 | d::l,xs,h=>by
  rw[xX] at h ⊢;obtain⟨x,r,e,h1,h2⟩:=h;exact⟨x,r,e,Rep.sam s np h1,xX.sam s np h2⟩
end
section
variable{H H1:Hp}
theorem no_f{H:Hp} : ∀ b xs,H b=some (.tup xs)->¬ (λ_:ag=>False) b:=λ_ _ _ z=>z
theorem Rep.to{d:Dt}{v:V}(h:Rep H d v)(s:Sam H H1):Rep H1 d v:=h.sam s no_f
theorem xX.to{l:List Dt}{xs:List V}(h:xX H l xs)(s:Sam H H1):xX H1 l xs:=h.sam s no_f
theorem yF{i:Int}{v:V} : Rep H (.int i) v↔v=.int i:=by rw[Rep]
theorem zW{x:aC}{v:V} : Rep H (.str x) v↔v=.str x:=by rw[Rep]
theorem yD{l:List Dt}{v:V} : Rep H (.tup l) v↔∃(a:ag)(xs:List V),v=.ref a/\H a=some (.tup xs)/\xX H l xs:=by rw[Rep]
theorem yA{xs:List V} : xX H [] xs↔xs=[]:=by rw[xX]
theorem zL{d:Dt}{l:List Dt}{xs:List V} : xX H (d::l) xs↔∃(x:V)(r:List V),xs=x::r/\Rep H d x/\xX H l r:=by rw[xX]
theorem xX.length:∀{l:List Dt}{xs:List V},xX H l xs->xs.length=l.length
 | [],_,h=>by rw[yA.mp h]; rfl
 | d::l,_,h=>by
  obtain⟨x,r,e,_,h2⟩:=zL.mp h;rw[e,aS,aS,xX.length h2]
theorem xX.back:∀{l:List Dt}{xs:List V}{i:Nat}{x:V},xX H l xs->xs[i]?=some x->∃ d,l[i]?=some d/\Rep H d x
 | [],_,i,x,h,e=>by rw[yA.mp h] at e; simp at e
 | d::l,_,0,x,h,e=>by
  obtain⟨y,r,ex,h1,_⟩:=zL.mp h;rw[ex] at e;simp at e;subst e;exact⟨d,rfl,h1⟩
 | d::l,_,i+1,x,h,e=>by
  obtain⟨y,r,ex,_,h2⟩:=zL.mp h;rw[ex] at e;obtain⟨d',h3,h4⟩:=xX.back (i:=i) (x:=x) h2 (by simpa using e);exact⟨d',by simpa using h3,h4⟩
theorem xX.app:∀{l m:List Dt}{xs ys:List V},xX H l xs->xX H m ys->xX H (l++m) (xs++ys)
 | [],_,_,_,h,k=>by rw[yA.mp h]; exact k
 | d::l,_,_,_,h,k=>by
  obtain⟨x,r,e,h1,h2⟩:=zL.mp h;rw[e];exact zL.mpr ⟨x,_,rfl,h1,xX.app h2 k⟩
theorem xX.one{d:Dt}{v:V}(h:Rep H d v):xX H [d] [v]:=zL.mpr ⟨v,[],rfl,h,yA.mpr rfl⟩
theorem xX.two{d e:Dt}{v u:V}(h:Rep H d v)(k:Rep H e u):xX H [d,e] [v,u]:=zL.mpr ⟨v,_,rfl,h,.one k⟩
end
structure xW(H:Hp)(kvs:List (Key×V))(es:List (Key×Dt)):Prop where
 keys:kvs.map (·.1)=es.map (·.1)
 vals:xX H (es.map (·.2)) (kvs.map (·.2))
def qQ(H:Hp)(a:ag)(es:List (Key×Dt)):Prop:=∃ kvs,Rd H a (.dK kvs)/\xW H kvs es
def look(es:List (Key×Dt))(k:Key):Option Dt:=(es.find? λe=>decide (e.1=k)).map (·.2)
def zT8(es:List (Key×Dt))(k:Key)(d:Dt):List (Key×Dt):=if es.any (λe=>decide (e.1=k)) then es.map λe=>if e.1=k then(e.1,d) else e else es++[(k,d)]
def zJy(es:List (Key×Dt))(k:Key):List (Key×Dt):=es.filter λe=>decide (e.1≠k)
theorem xW.nil{H:Hp} : xW H [] []:=⟨rfl,yA.mpr rfl⟩
theorem xW.cons_iff{H:Hp}{kvs:List (Key×V)}{k:Key}{d:Dt}{es:List (Key×Dt)} : xW H kvs ((k,d)::es)↔∃(v:V)(r:List (Key×V)),kvs=(k,v)::r/\Rep H d v/\xW H r es:=by
 constructor
 ·rintro⟨h1,h2⟩;cases kvs with
  | nil=>simp at h1
  | cons p r =>
   obtain⟨k',v⟩:=p;simp only[aM,iJ] at h1;obtain⟨e1,e2⟩:=h1;subst e1;obtain⟨x,r',e,h3,h4⟩:=zL.mp h2;simp only[aM,iJ] at e;obtain⟨e3,e4⟩:=e;subst e3 e4;exact⟨v,r,rfl,h3,e2,h4⟩
 ·rintro⟨v,r,rfl,h1,h2⟩;exact⟨by simp[h2.keys],zL.mpr ⟨v,_,rfl,h1,h2.vals⟩⟩
theorem xW.nil_iff{H:Hp}{kvs:List (Key×V)}(h:xW H kvs []):kvs=[]:=by
 have:=h.keys;simpa using this
theorem xW.to{H H1:Hp}{kvs:List (Key×V)}{es:List (Key×Dt)}(h:xW H kvs es)(s:Sam H H1):xW H1 kvs es:=⟨h.keys,h.vals.to s⟩
theorem xW.sam{φ:ag->Prop}{H H1:Hp}{kvs:List (Key×V)}{es:List (Key×Dt)}(h:xW H kvs es)(s:wE φ H H1)(np:∀ b xs,H b=some (.tup xs)->¬ φ b):xW H1 kvs es:=⟨h.keys,h.vals.sam s np⟩
theorem qQ.to{H H1:Hp}{a:ag}{es:List (Key×Dt)}(h:qQ H a es)(s:Sam H H1):qQ H1 a es:=let ⟨kvs,h1,h2⟩:=h;⟨kvs,s.rd id h1,h2.to s⟩
theorem xW.length{H:Hp}{kvs:List (Key×V)}{es:List (Key×Dt)}(h:xW H kvs es):kvs.length=es.length:=by
 have:=congrArg cr h.keys;simpa using this
theorem xW.get{H:Hp}{k:Key} : ∀{es:List (Key×Dt)}{kvs:List (Key×V)}{d:Dt},xW H kvs es->look es k=some d->∃ v,wT kvs k=some v/\Rep H d v
 | [],_,_,_,e=>by simp[look] at e
 | (k',d')::es,kvs,d,h,e=>by
  obtain⟨v,r,rfl,h1,h2⟩:=xW.cons_iff.mp h;by_cases z:k'=k
  ·rw[wX z];simp only[look,bL,decide_eq_true z,eh,hU] at e;subst e;exact⟨v,rfl,h1⟩
  ·rw[wK z];refine xW.get h2 ?_;simp only[look,bL,decide_eq_false z] at e;exact e
theorem xW.none{H:Hp}{k:Key} : ∀{es:List (Key×Dt)}{kvs:List (Key×V)},xW H kvs es->look es k=none->wT kvs k=none
 | [],_,h,_=>by rw[h.nil_iff]; rfl
 | (k',d')::es,kvs,h,e=>by
  obtain⟨v,r,rfl,h1,h2⟩:=xW.cons_iff.mp h;by_cases z:k'=k
  ·simp[look,bL,z] at e
  ·rw[wK z];refine xW.none h2 ?_;simp only[look,bL,decide_eq_false z] at e;exact e
theorem xW.isSome{H:Hp}{k:Key}{es:List (Key×Dt)}{kvs:List (Key×V)}(h:xW H kvs es):(wT kvs k).isSome=(look es k).isSome:=by
 cases e:look es k with
 | none=>rw[h.none e]; rfl
 | some d =>
  obtain⟨v,z,_⟩:=h.get e;rw[z];rfl
theorem xW.any{H:Hp}{k:Key} : ∀{es:List (Key×Dt)}{kvs:List (Key×V)},xW H kvs es->(kvs.any λe=>decide (e.1=k))=es.any λe=>decide (e.1=k)
 | [],_,h=>by rw[h.nil_iff]; rfl
 | (k',d')::es,kvs,h=>by
  obtain⟨v,r,rfl,h1,h2⟩:=xW.cons_iff.mp h;rw[cH,cH,xW.any h2]
theorem xW.rep{H:Hp}{k:Key}{v:V}{d:Dt}(hv:Rep H d v):∀{es:List (Key×Dt)}{kvs:List (Key×V)},xW H kvs es->xW H (kvs.map λe=>if e.1=k then(e.1,v) else e) (es.map λe=>if e.1=k then(e.1,d) else e)
 | [],_,h=>by rw[h.nil_iff]; exact .nil
 | (k',d')::es,kvs,h=>by
  obtain⟨u,r,rfl,h1,h2⟩:=xW.cons_iff.mp h;rw[aM,aM];by_cases z:k'=k
  ·rw[if_pos z,if_pos z];exact xW.cons_iff.mpr ⟨v,_,rfl,hv,xW.rep hv h2⟩
  ·rw[if_neg z,if_neg z];exact xW.cons_iff.mpr ⟨u,_,rfl,h1,xW.rep hv h2⟩
theorem xW.app{H:Hp}{k:Key}{v:V}{d:Dt}(hv:Rep H d v):∀{es:List (Key×Dt)}{kvs:List (Key×V)},xW H kvs es->xW H (kvs++[(k,v)]) (es++[(k,d)])
 | [],_,h=>by rw[h.nil_iff]; exact xW.cons_iff.mpr ⟨v,[],rfl,hv,.nil⟩
 | (k',d')::es,kvs,h=>by
  obtain⟨u,r,rfl,h1,h2⟩:=xW.cons_iff.mp h;exact xW.cons_iff.mpr ⟨u,_,rfl,h1,xW.app hv h2⟩
theorem xW.put{H:Hp}{k:Key}{v:V}{d:Dt}{es:List (Key×Dt)}{kvs:List (Key×V)}(h:xW H kvs es)(hv:Rep H d v):xW H (sY kvs k v) (zT8 es k d):=by
 unfold sY zT8;rw[h.any];split
 ·exact h.rep hv
 ·exact h.app hv
theorem xW.drop{H:Hp}{k:Key} : ∀{es:List (Key×Dt)}{kvs:List (Key×V)},xW H kvs es->xW H (zDk kvs k) (zJy es k)
 | [],_,h=>by rw[h.nil_iff]; exact .nil
 | (k',d')::es,kvs,h=>by
  obtain⟨u,r,rfl,h1,h2⟩:=xW.cons_iff.mp h;unfold zDk zJy;by_cases z:k'=k
  ·rw[fB (by simp[z]),fB (by simp[z])];exact xW.drop h2
  ·rw[fC (by simp[z]),fC (by simp[z])];exact xW.cons_iff.mpr ⟨u,_,rfl,h1,xW.drop h2⟩
end Sea

namespace Sea
open PySem L2
inductive Deed where
 | mark (n:aC) (x y:Int)
 | move (n:aC) (x y:Int)
 | unmark (n:aC)
 | bank (n:aC) (cs:List (Int×Int))
 | level (n:aC)
 | sail (x y:Int)
 | right (k x y:Int)
 | bearing (m:Int) (n:aC) (a b c d:Int)
 | range (m:Int) (l r:aC)
 | strike (k:Int)
def ptD(p:Int×Int):Dt:=.tup [.int p.1,.int p.2]
def Deed.dt:Deed->Dt
 | .mark n x y=>.tup [.str "mark", .str n,.int x,.int y]
 | .move n x y=>.tup [.str "move", .str n,.int x,.int y]
 | .unmark n=>.tup [.str "unmark", .str n]
 | .bank n cs=>.tup [.str "bank", .str n,.tup (cs.map ptD)]
 | .level n=>.tup [.str "level", .str n]
 | .sail x y=>.tup [.str "sail", .int x,.int y]
 | .right k x y=>.tup [.str "right", .int k,.int x,.int y]
 | .bearing m n a b c d=>.tup [.str "bearing", .int m,.str n,ptD (a,b),ptD (c,d)]
 | .range m l r=>.tup [.str "range", .int m,.str l,.str r]
 | .strike k=>.tup [.str "strike", .int k]
structure BS where
 marks:List (aC×Int×Int)
 banks:List (aC×List (Int×Int))
 runs:List (Int×Int)
 notes:List (Int×Deed)
 coming:Int
def BS.nil:BS:=⟨[],[],[],[],1⟩
def mkE(l:List (aC×Int×Int)):List (Key×Dt):=l.map λe=>(.inr e.1,ptD e.2)
def bkE(l:List (aC×List (Int×Int))):List (Key×Dt):=l.map λe=>(.inr e.1,.tup (e.2.map ptD))
def rnE(l:List (Int×Int)):List (Key×Dt):=l.zipIdx.map λe=>(.inl (e.2:Int),ptD e.1)
def ntE(l:List (Int×Deed)):List (Key×Dt):=l.map λe=>(.inl e.1,e.2.dt)
def stK(m b r n:ag)(k:Int):List (Key×V):=[(.inr "marks", .ref m),(.inr "banks", .ref b),(.inr "runs", .ref r),(.inr "notes", .ref n),(.inr "coming", .int k)]
structure StA(H:Hp)(d m b r n:ag)(S:BS):Prop where
 at_:Rd H d (.dK (stK m b r n S.coming))
 ma:qQ H m (mkE S.marks)
 ba:qQ H b (bkE S.banks)
 ru:qQ H r (rnE S.runs)
 no:qQ H n (ntE S.notes)
def zMd(H:Hp)(d:ag)(S:BS):Prop:=∃ m b r n,StA H d m b r n S
theorem StA.to{H H1:Hp}{d m b r n:ag}{S:BS}(h:StA H d m b r n S)(s:Sam H H1):StA H1 d m b r n S:=⟨s.rd id h.at_,h.ma.to s,h.ba.to s,h.ru.to s,h.no.to s⟩
theorem zMd.to{H H1:Hp}{d:ag}{S:BS}(h:zMd H d S)(s:Sam H H1):zMd H1 d S:=let ⟨m,b,r,n,q⟩:=h;⟨m,b,r,n,q.to s⟩
def zM(S:BS)(n:aC):Option (Int×Int):=(S.marks.find? λe=>decide (e.1=n)).map (·.2)
theorem uS{S:BS}{n:aC} : look (mkE S.marks) (.inr n)=(zM S n).map ptD:=by
 unfold look mkE zM;rw[List.find?_map];have e:((λe:Key×Dt=>decide (e.1=dW n)) ∘ λe:aC×Int×Int=>((dW e.1,ptD e.2):Key×Dt))=λe=>decide (e.1=n):=by
  funext e
  simp
 rw[e];cases S.marks.find? λe=>decide (e.1=n) <;> rfl
structure Few(S:BS):Prop where
 ma:S.marks.length<=60
 ba:S.banks.length<=60
 ru:S.runs.length<=60
 no:S.notes.length<=60
def wC(x:aC):Prop:=1<=x.length/\x.length<=8/\∀ c∈x.cps.toList,97<=c/\c<=122
def zAm(p:Int×Int):Prop:=-1000<=p.1/\p.1<=1000/\-1000<=p.2/\p.2<=1000
def rQ(p:Int×Int):Prop:=p≠(0,0)/\-100<=p.1/\p.1<=100/\-100<=p.2/\p.2<=100
def aft(S:BS):Deed->BS
 | .mark n x y=>{ S with marks:=S.marks++[(n,x,y)] }
 | .move n x y=>{ S with marks:=S.marks.map λe=>if e.1=n then(e.1,x,y) else e }
 | .unmark n=>{ S with marks:=S.marks.filter λe=>decide (e.1≠n) }
 | .bank n cs=>{ S with banks:=S.banks++[(n,cs)] }
 | .level n=>{ S with banks:=S.banks.filter λe=>decide (e.1≠n) }
 | .sail x y=>{ S with runs:=S.runs++[(x,y)] }
 | .right k x y=>{ S with runs:=S.runs.set k.toNat (x,y) }
 | .bearing m n a b c d=>{ S with notes:=S.notes++[(S.coming,.bearing m n a b c d)],coming:=S.coming+1 }
 | .range m l r=>{ S with notes:=S.notes++[(S.coming,.range m l r)],coming:=S.coming+1 }
 | .strike k=>{ S with notes:=S.notes.filter λe=>decide (e.1≠k) }
def zKp(S:BS):Deed->Prop
 | .bearing _ _ _ _ _ _=>True
 | .range _ l r=>∃ p u,zM S l=some p/\zM S r=some u/\p≠u
 | _=>False
def unlike(n:aC):Deed->Prop
 | .bearing _ k _ _ _ _=>k≠n
 | .range _ l r=>l≠n/\r≠n
 | _=>False
def zKn(cs:List (Int×Int)):Bool:=isB (cs.map λc=>(0,c))
def okD(S:BS):Deed->Prop
 | .mark n x y=>wC n/\zM S n=none/\zAm (x,y)/\S.marks.length<20
 | .move n x y=>(zM S n).isSome=true/\zAm (x,y)/\∀ e∈S.notes,zKp (aft S (.move n x y)) e.2
 | .unmark n=>(zM S n).isSome=true/\∀ e∈S.notes,unlike n e.2
 | .bank n cs=>wC n/\n ∉ S.banks.map (·.1)/\(∀ c∈cs,zAm c)/\zKn cs=true/\S.banks.length<8
 | .level n=>n∈S.banks.map (·.1)
 | .sail x y=>zAm (x,y)/\S.runs.length<12
 | .right k x y=>0<=k/\k<S.runs.length/\zAm (x,y)
 | .bearing m n a b c d=>0<=m/\m<=S.runs.length/\(zM S n).isSome=true/\rQ (a,b)/\rQ (c,d)/\0<a*d-b*c/\S.notes.length<24
 | .range m l r=>0<=m/\m<=S.runs.length/\(zM S l).isSome=true/\(zM S r).isSome=true/\zM S l≠zM S r/\S.notes.length<24
 | .strike k=>k∈S.notes.map (·.1)
def zSm(S:BS):Prop:=∀ e∈S.notes,e.1<S.coming
theorem sX{es:List (Key×Dt)}{k:Key}{d:Dt}(h:∀ e∈es,e.1≠k):zT8 es k d=es++[(k,d)]:=by
 unfold zT8;rw[if_neg];intro z;obtain⟨e,he,q⟩:=fQ.mp z;exact h e he (of_decide_eq_true q)
theorem zQx(l:List (aC×Int×Int))(n:aC)(x y:Int):mkE (l++[(n,x,y)])=mkE l++[(.inr n,ptD (x,y))]:=by
 unfold mkE;rw[aA];rfl
theorem zWn(l:List (Int×Int))(x y:Int):rnE (l++[(x,y)])=rnE l++[(.inl (l.length:Int),ptD (x,y))]:=by
 unfold rnE;rw[List.zipIdx_append,aA];simp
theorem zLq(l:List (Int×Deed))(k:Int)(D:Deed):ntE (l++[(k,D)])=ntE l++[(.inl k,D.dt)]:=by
 unfold ntE;rw[aA];rfl
theorem zTh{l:List (Int×Int)} : ∀ e∈rnE l,e.1≠.inl (l.length:Int):=λe he z=>by
 unfold rnE at he;obtain⟨q,hq,rfl⟩:=aD.mp he;obtain⟨q1,q2⟩:=q;have:=gU hq;have z':(dU (q2:Int):Key)=dU (l.length:Int):=z;injection z' with z'
 simp at this;lia
theorem zHs{S:BS}(h:zSm S):∀ e∈ntE S.notes,e.1≠.inl S.coming:=λe he z=>by
 unfold ntE at he;obtain⟨q,hq,rfl⟩:=aD.mp he;have:=h q hq;have z':(dU q.1:Key)=dU S.coming:=z;injection z' with z'
 lia
theorem zMe{S:BS}{n:aC}(h:zM S n=none):∀ e∈mkE S.marks,e.1≠.inr n:=λe he z=>by
 unfold mkE at he;obtain⟨q,hq,rfl⟩:=aD.mp he;have z':(dW q.1:Key)=dW n:=z;injection z' with z'
 unfold zM at h;rw[fH,dG] at h;exact h q hq (by simp[z'])
theorem zTi(a b c d e:V):zC2 [] [(.inr "marks", a),(.inr "banks", b),(.inr "runs", c),(.inr "notes", d),(.inr "coming", e)]=[(.inr "marks", a),(.inr "banks", b),(.inr "runs", c),(.inr "notes", d),(.inr "coming", e)]:=by kernel_rfl
theorem zR2(a b c d e:V):zC2 [] [(.inr "marks", a),(.inr "banks", b),(.inr "runs", c),(.inr "notes", d),(.inr "next", e)]=[(.inr "marks", a),(.inr "banks", b),(.inr "runs", c),(.inr "notes", d),(.inr "next", e)]:=by kernel_rfl
theorem tM{m b r n:ag}{k:Int} : wT (stK m b r n k) (.inr "marks")=some (.ref m):=by kernel_rfl
theorem zAh{m b r n:ag}{k:Int} : wT (stK m b r n k) (.inr "banks")=some (.ref b):=by kernel_rfl
theorem rC{m b r n:ag}{k:Int} : wT (stK m b r n k) (.inr "runs")=some (.ref r):=by kernel_rfl
theorem rP{m b r n:ag}{k:Int} : wT (stK m b r n k) (.inr "notes")=some (.ref n):=by kernel_rfl
theorem zEr{m b r n:ag}{k:Int} : wT (stK m b r n k) (.inr "coming")=some (.int k):=by kernel_rfl
theorem zE3{m b r n c:ag}{k:Int} : sY (stK m b r n k) (.inr "marks") (.ref c)=stK c b r n k:=by kernel_rfl
theorem zJo{m b r n c:ag}{k:Int} : sY (stK m b r n k) (.inr "banks") (.ref c)=stK m c r n k:=by kernel_rfl
theorem zMx{m b r n c:ag}{k:Int} : sY (stK m b r n k) (.inr "runs") (.ref c)=stK m b c n k:=by kernel_rfl
theorem zKd{m b r n c:ag}{k:Int} : sY (stK m b r n k) (.inr "notes") (.ref c)=stK m b r c k:=by kernel_rfl
theorem zNj{m b r n:ag}{k j:Int} : sY (stK m b r n k) (.inr "coming") (.int j)=stK m b r n j:=by kernel_rfl
theorem Rd.same{H H1:Hp}{a:ag}{u:HO}(h:Rd H a u)(s:Same H H1):Rd H1 a u:=h.imp (s _ _) λ⟨o,e⟩=>⟨o,s _ _ e⟩
theorem qQ.nil{H:Hp}{a:ag}(h:H a=some (.dK [])):qQ H a []:=⟨[],.inl h,.nil⟩
theorem zAx{H:Hp}{p:Int×Int}{v:V}(h:Rep H (ptD p) v):∃ a,v=.ref a/\H a=some (.tup [.int p.1,.int p.2]):=by
 obtain⟨a,xs,e,h1,h2⟩:=yD.mp h;obtain⟨x,r,rfl,h3,h4⟩:=zL.mp h2;obtain⟨y,r',rfl,h5,h6⟩:=zL.mp h4;rw[yF.mp h3,yF.mp h5,yA.mp h6] at h1;exact⟨a,e,h1⟩
theorem wD{H:Hp}{p:Int×Int}{a:ag}(h:H a=some (.tup [.int p.1,.int p.2])):Rep H (ptD p) (.ref a):=yD.mpr ⟨a,_,rfl,h,.two (yF.mpr rfl) (yF.mpr rfl)⟩
section
variable{H:Hp}{v:V}
theorem zCl{n:aC}{x y:Int}(h:Rep H (Deed.mark n x y).dt v):∃ a,v=.ref a/\H a=some (.tup [.str "mark", .str n,.int x,.int y]):=by
 obtain⟨a,xs,e,h1,h2⟩:=yD.mp h;obtain⟨_,_,rfl,k1,h2⟩:=zL.mp h2;obtain⟨_,_,rfl,k2,h2⟩:=zL.mp h2;obtain⟨_,_,rfl,k3,h2⟩:=zL.mp h2;obtain⟨_,_,rfl,k4,h2⟩:=zL.mp h2;rw[zW.mp k1,zW.mp k2,yF.mp k3,yF.mp k4,yA.mp h2] at h1;exact⟨a,e,h1⟩
theorem zCx{x y:Int}(h:Rep H (Deed.sail x y).dt v):∃ a,v=.ref a/\H a=some (.tup [.str "sail", .int x,.int y]):=by
 obtain⟨a,xs,e,h1,h2⟩:=yD.mp h;obtain⟨_,_,rfl,k1,h2⟩:=zL.mp h2;obtain⟨_,_,rfl,k3,h2⟩:=zL.mp h2;obtain⟨_,_,rfl,k4,h2⟩:=zL.mp h2;rw[zW.mp k1,yF.mp k3,yF.mp k4,yA.mp h2] at h1;exact⟨a,e,h1⟩
theorem wI{m:Int}{n:aC}{a b c d:Int}(h:Rep H (Deed.bearing m n a b c d).dt v):∃ t p q,v=.ref t/\H t=some (.tup [.str "bearing", .int m,.str n,.ref p,.ref q])/\H p=some (.tup [.int a,.int b])/\H q=some (.tup [.int c,.int d]):=by
 obtain⟨t,xs,e,h1,h2⟩:=yD.mp h;obtain⟨_,_,rfl,k1,h3⟩:=zL.mp h2;obtain⟨_,_,rfl,k2,h4⟩:=zL.mp h3;obtain⟨_,_,rfl,k3,h5⟩:=zL.mp h4;obtain⟨_,_,rfl,k4,h6⟩:=zL.mp h5;obtain⟨_,_,rfl,k5,h7⟩:=zL.mp h6;obtain⟨p,rfl,hp⟩:=zAx k4;obtain⟨q,rfl,hq⟩:=zAx k5;have e6:=yA.mp h7;rw[zW.mp k1,yF.mp k2,zW.mp k3,e6] at h1;exact⟨t,p,q,e,h1,hp,hq⟩
theorem tN{m:Int}{l r:aC}(h:Rep H (Deed.range m l r).dt v):∃ t,v=.ref t/\H t=some (.tup [.str "range", .int m,.str l,.str r]):=by
 obtain⟨t,xs,e,h1,h2⟩:=yD.mp h;obtain⟨_,_,rfl,k1,h2⟩:=zL.mp h2;obtain⟨_,_,rfl,k2,h2⟩:=zL.mp h2;obtain⟨_,_,rfl,k3,h2⟩:=zL.mp h2;obtain⟨_,_,rfl,k4,h2⟩:=zL.mp h2;rw[zW.mp k1,yF.mp k2,zW.mp k3,zW.mp k4,yA.mp h2] at h1;exact⟨t,e,h1⟩
end
theorem rD{H:Hp}{v:V}{k:Int}(h:Rep H (Deed.strike k).dt v):∃ t,v=.ref t/\H t=some (.tup [.str "strike", .int k]):=by
 obtain⟨t,xs,e,h1,h2⟩:=yD.mp h;obtain⟨_,_,rfl,k1,h2⟩:=zL.mp h2;obtain⟨_,_,rfl,k2,h2⟩:=zL.mp h2;rw[zW.mp k1,yF.mp k2,yA.mp h2] at h1;exact⟨t,e,h1⟩
theorem zMc(l:List (Int×Deed))(k:Int):zJy (ntE l) (.inl k)=ntE (l.filter λe=>decide (e.1≠k)):=by
 unfold zJy ntE;rw[iK]
 congr 1
 refine hV λe _=>?_;simp
theorem zMr{l:List (Int×Deed)}{k:Int}(h:k∈l.map (·.1)):∃ d,look (ntE l) (.inl k)=some d:=by
 obtain⟨e,he,rfl⟩:=aD.mp h;unfold look;cases q:(ntE l).find? λx=>decide (x.1=dU e.1) with
 | none =>
  have:=dG.mp q (.inl e.1,e.2.dt) (aD.mpr ⟨e,he,rfl⟩);simp at this
 | some x=>exact⟨x.2,rfl⟩
theorem StA.stKlen{m b r n:ag}{k:Int} : (stK m b r n k).length<=100:=by show 5<=100; decide
theorem xW.le{H:Hp}{kvs:List (Key×V)}{es:List (Key×Dt)}(h:xW H kvs es){n:Nat}(hn:es.length<=n):kvs.length<=n:=by rw[h.length]; exact hn
theorem zA3(l:List (aC×Int×Int)):(mkE l).length=l.length:=by unfold mkE; rw[ac]
theorem zBe(l:List (Int×Int)):(rnE l).length=l.length:=by unfold rnE; rw[ac,List.length_zipIdx]
theorem zO1(l:List (Int×Deed)):(ntE l).length=l.length:=by unfold ntE; rw[ac]
end Sea

namespace Sea
open PySem L2
def bkF(d p l:ag):List (aC×V):=[("state", .ref d),("past", .ref p),("later", .ref l)]
theorem qG{d p l:ag} : (bkF d p l).lookup ("state" : aC)=some (.ref d):=by kernel_rfl
theorem zVv{d p l:ag} : (bkF d p l).lookup ("past" : aC)=some (.ref p):=by kernel_rfl
theorem zIn{d p l c:ag} : zEd "state" (.ref c) (bkF d p l)=bkF c p l:=by kernel_rfl
theorem zKl{d p l c:ag} : zEd "later" (.ref c) (bkF d p l)=bkF d p c:=by kernel_rfl
theorem zWg{d p l:ag} : zEd "later" (.ref l) (zEd "past" (.ref p) (zEd "state" (.ref d) []))=bkF d p l:=by kernel_rfl
def sG(H:Hp):List (Deed×BS)->List V->Prop
 | [],xs=>xs=[]
 | (D,S)::r,xs=>∃(t d:ag)(v:V)(ys:List V),xs=.ref t::ys/\H t=some (.tup [v,.ref d])/\Rep H D.dt v/\zMd H d S/\sG H r ys
structure BkA(C:ag)(H:Hp)(b p dx d l:ag)(ps ls:List V)(S:BS)(past later:List (Deed×BS)):Prop where
 ob:H b=some (.ins C dx (bkF d p l))
 st:zMd H d S
 pa:H p=some (.lst ps)
 la:H l=some (.lst ls)
 pp:sG H past ps
 ll:sG H later ls
 ne:l≠p
def zKm(C:ag)(H:Hp)(b p:ag)(S:BS)(past later:List (Deed×BS)):Prop:=∃ dx d l ps ls,BkA C H b p dx d l ps ls S past later
section
variable{φ:ag->Prop}{H H1:Hp}
theorem qQ.samE{a:ag}{es:List (Key×Dt)}(h:qQ H a es)(s:wE φ H H1)(nd:∀ a kvs,Rd H a (.dK kvs)->¬ φ a)(np:∀ a xs,H a=some (.tup xs)->¬ φ a):qQ H1 a es:=let ⟨kvs,h1,h2⟩:=h;⟨kvs,s.rd (nd _ _ h1) h1,h2.sam s np⟩
theorem zMd.samE{d:ag}{S:BS}(h:zMd H d S)(s:wE φ H H1)(nd:∀ a kvs,Rd H a (.dK kvs)->¬ φ a)(np:∀ a xs,H a=some (.tup xs)->¬ φ a):zMd H1 d S :=
 let ⟨m,b,r,n,q⟩:=h;⟨m,b,r,n,s.rd (nd _ _ q.at_) q.at_,q.ma.samE s nd np,q.ba.samE s nd np,q.ru.samE s nd np,q.no.samE s nd np⟩
theorem sG.samE(s:wE φ H H1)(nd:∀ a kvs,Rd H a (.dK kvs)->¬ φ a)(np:∀ a xs,H a=some (.tup xs)->¬ φ a):∀{l:List (Deed×BS)}{xs:List V},sG H l xs->sG H1 l xs
 | [],_,h=>h
 | (D,S)::r,xs,h=>by
  obtain⟨t,d,v,ys,e,h1,h2,h3,h4⟩:=h;exact⟨t,d,v,ys,e,s.tup (np _ _ h1) h1,h2.sam s np,h3.samE s nd np,sG.samE s nd np h4⟩
theorem sG.app{D:Deed}{S:BS}{t d:ag}{v:V}(h1:H t=some (.tup [v,.ref d]))(h2:Rep H D.dt v)(h3:zMd H d S):∀{l:List (Deed×BS)}{xs:List V},sG H l xs->sG H (l++[(D,S)]) (xs++[.ref t])
 | [],xs,h=>by
  have h:xs=[]:=h;rw[h];exact⟨t,d,v,[],rfl,h1,h2,h3,rfl⟩
 | (D',S')::r,xs,h=>by
  obtain⟨t',d',v',ys,e,g1,g2,g3,g4⟩:=h;rw[e];exact⟨t',d',v',_,rfl,g1,g2,g3,sG.app h1 h2 h3 g4⟩
theorem sG.len:∀{l:List (Deed×BS)}{xs:List V},sG H l xs->xs.length=l.length
 | [],xs,h=>by have h:xs=[]:=h; rw[h]; rfl
 | (D,S)::r,xs,h=>by
  obtain⟨t,d,v,ys,e,_,_,_,h4⟩:=h;rw[e,aS,aS,sG.len h4]
abbrev Bp(b p:ag):ag->Prop:=λx=>x=b\/x=p
theorem zY7{b p:ag}{C dx:ag}{fs:List (aC×V)}{ps:List V}(hb:H b=some (.ins C dx fs))(hp:H p=some (.lst ps)):∀ a kvs,Rd H a (.dK kvs)->¬ Bp b p a:=λa kvs h z=>by
 rcases z with z | z <;> subst z <;> rcases h with h | ⟨o,h⟩
 ·rw[hb] at h; cases h
 ·rw[hb] at h; cases h
 ·rw[hp] at h; cases h
 ·rw[hp] at h; cases h
theorem zWk{b p:ag}{C dx:ag}{fs:List (aC×V)}{ps:List V}(hb:H b=some (.ins C dx fs))(hp:H p=some (.lst ps)):∀ a xs,H a=some (.tup xs)->¬ Bp b p a:=λa xs h z=>by
 rcases z with z | z <;> subst z
 ·rw[hb] at h; cases h
 ·rw[hp] at h; cases h
theorem BkA.to{C b p dx d l:ag}{ps ls:List V}{S:BS}{past later:List (Deed×BS)}(k:BkA C H b p dx d l ps ls S past later)(s:Sam H H1):BkA C H1 b p dx d l ps ls S past later :=
 ⟨s.ins id k.ob,k.st.to s,s.lst id k.pa,s.lst id k.la,k.pp.samE s (λ_ _ _=>id) (λ_ _ _=>id),k.ll.samE s (λ_ _ _=>id) (λ_ _ _=>id),k.ne⟩
theorem zKm.to{C b p:ag}{S:BS}{past later:List (Deed×BS)}(k:zKm C H b p S past later)(s:Sam H H1):zKm C H1 b p S past later:=let ⟨dx,d,l,ps,ls,q⟩:=k;⟨dx,d,l,ps,ls,q.to s⟩
theorem zRu{d p l:ag}{m:aC}(h1:m ≠ "state")(h2:m ≠ "past")(h3:m ≠ "later"):(bkF d p l).lookup m=none:=by
 unfold bkF;rw[a6,beq_eq_false_iff_ne.mpr h1,a6,beq_eq_false_iff_ne.mpr h2,a6,beq_eq_false_iff_ne.mpr h3];rfl
end
end Sea

namespace Sea
open PySem L2
def abc:aC := "abcdefghijklmnopqrstuvwxyz"
theorem zR5:abc.cps.toList=(bx 26).map (97 + ·):=by decide +kernel
theorem zUv{i:Int}(h0:0<=i)(h1:i<26):atI abc.cps.toList i=some (97+i.toNat):=by
 obtain⟨n,rfl⟩:=dq h0;refine zFk ?_;rw[zR5,av,List.getElem?_range (by lia)];rfl
def chS(c:Nat):aC:=⟨#[c]⟩
def txt(l:List Nat):aC:=⟨l.toArray⟩
theorem rR(l:List Nat):(txt l).length=l.length:=by
 show l.toArray.size=_;exact aG
theorem zVu{l m:List Nat}(h:txt l=txt m):l=m:=by
 have:=congrArg (λx:aC=>x.cps.toList) h;simpa [txt] using this
theorem zHg(l m:List Nat):txt l++txt m=txt (l++m):=by
 show(⟨l.toArray++m.toArray⟩:aC)=⟨(l++m).toArray⟩;rw[List.append_toArray]
theorem zQn:∀ l:List Nat,il "" (l.map chS)=txt l
 | []=>rfl
 | [c]=>rfl
 | c::d::l=>by
  show chS c++("" : aC)++il "" ((d::l).map chS)=_;rw[zQn (d::l)];show txt [c]++txt []++txt (d::l)=_;rw[zHg,zHg];rfl
theorem zSp(l:List Nat):fG "" (l.map chS)=txt l:=by
 rw[gA];exact zQn l
theorem zNx(l:List Nat):zCt "" (l.map chS)=l.length:=by
 unfold zCt;rw[show("" : aC).length=0 from by decide,Nat.mul_zero,Nat.add_zero]
 induction l with
 | nil=>rfl
 | cons c l ih =>
  rw[aM,aM,mE,ih,aS];show 1+l.length=_;lia
theorem zNv(l:List Nat)(k:Nat)(h:k<=l.length):eZ (txt l) none (some (k:Int))=txt (l.take k):=by
 have e:dA none (some (k:Int)) 1 (txt l).length=bx k:=by
  unfold dA sliceRange;rw[rR];have c1:¬ ((k:Int)<0):=by lia
  have c2:max 0 (min (k:Int) (l.length:Int))=k:=by lia
  simp only[c1,if_false,show(1:Int)>0 by decide,if_true,c2];by_cases z:(0:Int)<k
  ·rw[if_pos z];have c3:(((k:Int)-0+1-1)/1).toNat=k:=by lia
   rw[c3];refine im (by simp) λi h1 h2=>?_;simp
  ·have c4:k=0:=by lia
   subst c4;simp
 unfold eZ;rw[e,dr,rR];by_cases c:k=l.length
 ·rw[if_pos (by simp[c]),dB (by lia)]
 ·rw[if_neg (by simp; exact c)];show(⟨_⟩:aC)=⟨_⟩
  congr 1
  congr 1
  refine g9 λi=>?_;rw[d6];have h2:(bx k).filterMap (λj=>(txt l).cps[j]?)=l.take k:=by
   have:∀ m,m<=l.length->(bx m).filterMap (λj=>(txt l).cps[j]?)=l.take m:=by
    intro m
    induction m with
    | zero=>intro _; simp
    | succ m ih =>
     intro hm;rw[iL,iV,ih (by lia),bC]
     congr 1
     rw[aj (by lia)];simp[txt,cS,show m<l.length by lia]
   exact this k h
  rw[h2,d6]
theorem zOl(l:List Nat)(k:Nat)(h:k<=l.length):eZ (txt l) (some (k:Int)) none=txt (l.drop k):=by
 have e:dA (some (k:Int)) none 1 (txt l).length=(bx (l.length-k)).map (k + ·):=by
  unfold dA sliceRange;rw[rR];have c1:¬ ((k:Int)<0):=by lia
  have c2:max 0 (min (k:Int) (l.length:Int))=k:=by lia
  simp only[c1,if_false,show(1:Int)>0 by decide,if_true,c2];by_cases z:(k:Int)<l.length
  ·rw[if_pos z];have c3:(((l.length:Int)-k+1-1)/1).toNat=l.length-k:=by lia
   rw[c3];refine im (by simp) λi h1 h2=>?_;simp;lia
  ·have c4:l.length-k=0:=by lia
   rw[if_neg z,c4];rfl
 unfold eZ;rw[e,ac,dr,rR];by_cases c:k=0
 ·subst c;rw[if_pos (by simp)];rfl
 ·by_cases c0:l.length=0
  ·have:l=[]:=List.length_eq_zero_iff.mp c0;subst this;rw[if_pos (by simp)];rw[List.drop_nil]
  rw[if_neg (by simp; lia)];show(⟨_⟩:aC)=⟨_⟩
  congr 1
  congr 1
  have:∀ m,m<=l.length-k->((bx m).map (k + ·)).filterMap (λj=>(txt l).cps[j]?)=(l.drop k).take m:=by
   intro m
   induction m with
   | zero=>intro _; simp
   | succ m ih =>
    intro hm;rw[iL,aA,iV,ih (by lia),bC]
    congr 1
    rw[fq,aj (by lia)];simp[txt,cS,show k+m<l.length by lia]
  rw[this _ (am _),dB (by simp)]
theorem zSu{l:List Nat}{p c:Nat}(h:p<l.length):l.take p++[c]++l.drop (p+1)=l.set p c:=by
 rw[List.set_eq_take_append_cons_drop,if_pos h];simp
theorem zTk{l:List Nat}{p c:Nat}(h:p<l.length):eZ (txt l) none (some (p:Int))++chS c++eZ (txt l) (some ((p:Int)+1)) none=txt (l.set p c):=by
 rw[zNv l p (by lia),show((p:Int)+1)=((p+1:Nat):Int) from rfl,zOl l (p+1) (by lia)];show txt _++txt [c]++txt _=_;rw[zHg,zHg,zSu h]
theorem zOd{l:List Nat}(h1:1<=l.length)(h8:l.length<=8)(h:∀ c∈l,97<=c/\c<=122):wC (txt l):=⟨by rw[rR]; exact h1,by rw[rR]; exact h8,λc hc=>h c (by simpa [txt] using hc)⟩
theorem zWq{l:List Nat}{p r:Nat}(hp:p<l.length){ws:List aC}(hw:ws.length<26):¬ ∀ j,j<26->txt (l.set p (97+(r+j)%26))∈ws:=λh=>by
 have nd:((bx 26).map λj=>txt (l.set p (97+(r+j)%26))).Nodup:=by
  refine dH.mpr (jU.mpr ?_);refine mF ?_ (dH.mp kL);intro a b ha hb ne z;have ha:=b7.mp ha;have hb:=b7.mp hb;have z:=zVu z;have z:=congrArg (λm:List Nat=>m[p]?) z;simp only[fD hp,hU] at z;lia
 have:=nd.length_le_of_subset (l₂:=ws) λx hx=>by
  obtain⟨j,hj,rfl⟩:=aD.mp hx;exact h j (b7.mp hj)
 rw[ac,dr] at this;lia
theorem zWt(x y:aC):eqV (.str x) (.str y)=decide (x=y):=by
 unfold eqV
 first
  | rfl
  | simp
  | (by_cases h:x=y <;> simp[h])
theorem zWi(x:aC)(ns:List aC):inV (.str x) (ns.map V.str)=decide (x∈ns):=by
 unfold inV
 induction ns with
 | nil=>simp
 | cons y ns ih =>
  rw[aM,cH,ih,zWt];by_cases h:x=y
  ·subst h; simp
  ·simp[h,cw h]
theorem zPa(ns:List aC):(ns.map V.str).all zHn=true:=by
 rw[jV];exact br.mpr λ_ _=>rfl
end Sea

namespace Sea
open PySem L2
def lwK(m b r n:ag)(k:Int):List (Key×V):=[(.inr "marks", .ref m),(.inr "banks", .ref b),(.inr "runs", .ref r),(.inr "notes", .ref n),(.inr "next", .int k)]
section
variable{m b r n c:ag}{k j:Int}
theorem wJ:wT (lwK m b r n k) (.inr "marks")=some (.ref m):=by kernel_rfl
theorem rX:wT (lwK m b r n k) (.inr "banks")=some (.ref b):=by kernel_rfl
theorem zA6:wT (lwK m b r n k) (.inr "runs")=some (.ref r):=by kernel_rfl
theorem tI:wT (lwK m b r n k) (.inr "notes")=some (.ref n):=by kernel_rfl
theorem qS:wT (lwK m b r n k) (.inr "next")=some (.int k):=by kernel_rfl
theorem zFv:sY (lwK m b r n k) (.inr "next") (.int j)=lwK m b r n j:=by kernel_rfl
end
structure LwA(H:Hp)(d m b r n:ag)(S:BS):Prop where
 at_:Rd H d (.dK (lwK m b r n S.coming))
 ma:qQ H m (mkE S.marks)
 ba:qQ H b (bkE S.banks)
 ru:∃ rs,H r=some (.lst rs)/\xX H (S.runs.map ptD) rs
 no:qQ H n (ntE S.notes)
def zUx(H:Hp)(d:ag)(S:BS):Prop:=∃ m b r n,LwA H d m b r n S
section
variable{φ:ag->Prop}{H H1:Hp}{d m b r n:ag}{S:BS}
theorem LwA.samE(h:LwA H d m b r n S)(s:wE φ H H1)(nd:∀ a kvs,Rd H a (.dK kvs)->¬ φ a)(np:∀ a xs,H a=some (.tup xs)->¬ φ a)(nl:∀ xs,H r=some (.lst xs)->¬ φ r):LwA H1 d m b r n S :=
 ⟨s.rd (nd _ _ h.at_) h.at_,h.ma.samE s nd np,h.ba.samE s nd np,let ⟨rs,h1,h2⟩:=h.ru;⟨rs,s.lst (nl _ h1) h1,h2.sam s np⟩,h.no.samE s nd np⟩
theorem LwA.to(h:LwA H d m b r n S)(s:Sam H H1):LwA H1 d m b r n S:=h.samE s (λ_ _ _=>id) (λ_ _ _=>id) (λ_ _=>id)
theorem zUx.to(h:zUx H d S)(s:Sam H H1):zUx H1 d S:=let ⟨m,b,r,n,q⟩:=h;⟨m,b,r,n,q.to s⟩
end
end Sea

namespace L2
open PySem PySem.Spec PyProof.Rows
def zA0(v d:ag)(h:aV):Prop:=h.IsItemsView v d
section
variable{X:Cx}{l:bj}{te:TE}{apos pos:fg}
def zZd(te:TE):TE:=λσ H Q=>te σ H λx H1=>∃(d:ag)(kvs:List (Key×V)),x=.ref d/\Rd H1 d (.dK kvs)/\∀ v,H1 v=none->Q (.ref v) (upd H1 v (.ext (zA0 v d)))
theorem zDx(hl:PE X l te)(hbase:attributeBase l "items" X.env (eval l X.env)=eval l X.env:=by rfl)(hline:(apos.endLine == pos.line)=true:=by rfl):PE X (.Call (.Attribute l "items" apos) [] [] pos) (zZd te):=by
 intro pins s σ H Q I h;refine fF (T := "dict") (id := "dict.items") hbase rfl hline hJ fI jW (thn (hl pins s σ H _ I h) λv s1 ⟨x,H1,I1,r1,d,kvs,e,hd,q⟩=>?_);subst e;cases r1;obtain⟨hz,ns,vs,rel,da⟩:=hd.ok I1.hok;exists da.typeIs,da.mapOf.noDict;show wpAny _ _ (callWith pos (.builtin "dict.items") [.ref d] [] []) _ _ s1;refine method_meetsIn fI jF rfl (gj ⟨rfl,da.typeIs,ji _,_,meets_dict_items (yI X.prog X.w) d ns,⟨vs,da⟩,?_⟩);refine⟨.ref s1.heap.objs.size,_,I1.laid (t':=s1.toks) (a:=s1.heap.objs.size) (o:=.ext (zA0 s1.heap.objs.size d)) (λb o e=>ah _ e) (am _) ⟨⟨_,ap _ rfl,rfl,rfl⟩,⟨_,ap _ rfl⟩,λh1 h2 ⟨o,e,c⟩ k=>⟨o,k o e,c⟩⟩,rfl,q _ (I1.hok.fresh (am _))⟩
end
theorem Inv.more{X:Cx}{pins:List (ag×cA)}{σ:St}{H:Hp}{s:ai}{a:ag}{o:HO}(I:Inv X pins σ H s)(f:zLa X pins H a)(new:xL X.prog X.w (upd H a o) s.heap a o):Inv X pins σ (upd H a o) s:=by
 obtain⟨f0,f1,f2,f3,f4,f5⟩:=f;have nk:∀{b:ag}{u:HO},H b=some u->upd H a o b=some u:=λ{b u} e=>by
  rw[zG (λz=>by rw[z,f0] at e; cases e)];exact e
 have nn:∀{b:ag},b≠a->H b=none->upd H a o b=none:=λ{b} n e=>by rw[zG n]; exact e
 have lo:∀{b:ag}{u:cA},X.s₀.heap.get? b=some u->b ∉ X.ex->b≠a:=λ{b u} e hx z=>by
  rcases f3 with q | q
  ·exact hx (by rw[z]; exact q)
  ·exact absurd (az e) (Nat.not_lt.mpr (by rw[z]; exact q))
 refine⟨I.ok,I.os,I.bare,⟨I.base.keep,I.base.slot,λb u e n hx=>nn (lo e hx) (I.base.free b u e n hx),I.base.there,λb xs e=>nk (I.base.tups b xs e),λb u v e=>nk (I.base.frzs b u v e),
  λb ps e=>let ⟨more,q⟩:=I.base.tbls b ps e;⟨more,nk q⟩⟩,I.loc,I.cell,nn (cw f1) I.free,λx c e=>nn (f4 x c e) (I.freeC x c e),λp hp=>?_,λb u e=>?_,I.len⟩
 ·obtain⟨h1,h2,h3⟩:=I.pin p hp;exact⟨h1,nn (f5 p hp) h2,h3⟩
 ·by_cases eb:b=a
  ·subst eb;rw[zA] at e;cases e;exact new
  ·rw[zG eb] at e;exact(I.hok b u e).stay (λc v _ q=>q) (λc q=>nk q) λc xs q=>nk q
section
open PySem.W
variable{X:Cx}{pins:List (ag×cA)}{σ:St}{H:Hp}{s:ai}
theorem Inv.tuples{lo:ag} : ∀{as:List ag}{H:Hp}(xss:List (List V)),Inv X pins σ H s->as.Pairwise (· < ·)->(∀ a∈as,zLa X pins H a)->as.length=xss.length->(∀(j:Nat)(a:ag)(xs:List V),as[j]?=some a->xss[j]?=some xs->∀ H',xL X.prog X.w H' s.heap a (.tup xs)) ->
  ∃ H2,Inv X pins σ H2 s/\Same H H2/\(∀(j:Nat)(a:ag)(xs:List V),as[j]?=some a->xss[j]?=some xs->H2 a=some (.tup xs))/\∀ b,b ∉ as->H2 b=H b
 | [],H,[],I,_,_,_,_=>⟨H,I,Same.refl _,λj a xs e=>by simp at e,λ_ _=>rfl⟩
 | [],_,_::_,_,_,_,hl,_=>by simp at hl
 | _::_,_,[],_,_,_,hl,_=>by simp at hl
 | a::as,H,xs::xss,I,hr,hf,hl,ho=>by
  have fa:=hf a (.head _);have hr':=List.pairwise_cons.mp hr;have I1:=I.more (o:=.tup xs) fa (ho 0 a xs rfl rfl _);obtain⟨H2,I2,s2,g2,n2⟩:=Inv.tuples (lo:=lo) (as:=as) xss I1 hr'.2 (λb hb=>by
   obtain⟨f0,f1⟩:=hf b (.tail _ hb);exact⟨by rw[zG (d3 (hr'.1 b hb))]; exact f0,f1⟩) (by simpa using hl) (λj b ys e1 e2=>ho (j+1) b ys (by simpa using e1) (by simpa using e2))
  refine⟨H2,I2,(zB fa.1 _).trans s2,λj b ys e1 e2=>?_,λb hb=>?_⟩
  ·cases j with
   | zero =>
    simp at e1 e2;subst e1 e2;exact s2 _ _ zA
   | succ j=>exact g2 j b ys (by simpa using e1) (by simpa using e2)
  ·rw[n2 b (λz=>hb (.tail _ z)),zG (λz=>hb (by rw[z]; exact .head _))]
end
end L2

namespace Sea
open PySem L2
section
variable{H H1:Hp}
theorem zD0:∀{l:List (Int×Deed)}{kvs:List (Key×V)},xW H kvs (ntE l)->∃ ks:List (Int×V),kvs=ks.map (λe=>(.inl e.1,e.2))/\ks.map (·.1)=l.map (·.1)/\xX H (l.map (·.2.dt)) (ks.map (·.2))
 | [],_,h=>⟨[],h.nil_iff,rfl,yA.mpr rfl⟩
 | (n,D)::l,_,h=>by
  obtain⟨v,r,rfl,h1,h2⟩:=xW.cons_iff.mp h;obtain⟨ks,rfl,e,h3⟩:=zD0 (l:=l) h2;exact⟨(n,v)::ks,rfl,by rw[aM,aM,e],zL.mpr ⟨v,_,rfl,h1,h3⟩⟩
theorem zLs:∀{l:List (aC×Int×Int)}{kvs:List (Key×V)},xW H kvs (mkE l)->kvs.map (λkv=>kV kv.1)=(l.map (·.1)).map V.str
 | [],_,h=>by rw[h.nil_iff]; rfl
 | (n,p)::l,_,h=>by
  obtain⟨v,r,rfl,h1,h2⟩:=xW.cons_iff.mp h;rw[aM,zLs h2];rfl
structure NotesAt(H:Hp)(as:List ag)(l:List (Int×Deed)):Prop where
 len:as.length=l.length
 at_:∀(j:Nat)(a:ag)(e:Int×Deed),as[j]?=some a->l[j]?=some e->∃ v,H a=some (.tup [.int e.1,v])/\Rep H e.2.dt v
def zYi(S:BS):Prop:=(S.notes.map (·.1)).Pairwise (· < ·)
theorem zGy{S:BS}{n:aC}{p:Int×Int}(h:zM S n=some p):(n,p)∈S.marks:=by
 unfold zM at h;rw[aJ] at h;obtain⟨e,h1,rfl⟩:=h;have h2:=List.find?_some h1;have e1:e.1=n:=of_decide_eq_true h2;rw[<- e1];exact List.mem_of_find?_eq_some h1
theorem zEl{S:BS}{n:aC}(h:n∈S.marks.map (·.1)):∃ p,zM S n=some p:=by
 obtain⟨e,h1,h2⟩:=aD.mp h;unfold zM;cases q:S.marks.find? λe=>decide (e.1=n) with
 | none=>exact absurd (dG.mp q e h1) (by simp[h2])
 | some e'=>exact⟨e'.2,rfl⟩
theorem zQl{S:BS}{m:ag}{n:aC}{p:Int×Int}(h:qQ H m (mkE S.marks))(e:zM S n=some p):∃(kvs:List (Key×V))(a:ag),Rd H m (.dK kvs)/\wT kvs (.inr n)=some (.ref a)/\H a=some (.tup [.int p.1,.int p.2]):=by
 obtain⟨kvs,h1,h2⟩:=h;obtain⟨v,g,r⟩:=h2.get (k:=.inr n) (d:=ptD p) (by rw[uS,e]; rfl);obtain⟨a,rfl,ha⟩:=zAx r;exact⟨kvs,a,h1,g,ha⟩
theorem zHk:∀{l:List (Int×Int)}{k i:Nat}{p:Int×Int},l[i]?=some p->look ((l.zipIdx k).map λe=>((.inl (e.2:Int):Key),ptD e.1)) (.inl ((k+i:Nat):Int))=some (ptD p)
 | [],_,_,_,e=>by simp at e
 | q::l,k,0,p,e=>by
  simp at e;subst e;simp[look,c9]
 | q::l,k,i+1,p,e=>by
  have ih:=zHk (l:=l) (k:=k+1) (i:=i) (p:=p) (by simpa using e);rw[c9,aM];unfold look at ih ⊢;rw[bL,decide_eq_false (by intro z; injection z with z; simp at z; lia)];rw[show k+1+i=k+(i+1) by lia] at ih;exact ih
theorem zTq{S:BS}{r:ag}{i:Nat}{p:Int×Int}(h:qQ H r (rnE S.runs))(e:S.runs[i]?=some p):∃(kvs:List (Key×V))(a:ag),Rd H r (.dK kvs)/\wT kvs (.inl (i:Int))=some (.ref a)/\H a=some (.tup [.int p.1,.int p.2]):=by
 obtain⟨kvs,h1,h2⟩:=h;have:=zHk (k:=0) e;rw[iC] at this;obtain⟨v,g,r⟩:=h2.get (k:=.inl (i:Int)) (d:=ptD p) this;obtain⟨a,rfl,ha⟩:=zAx r;exact⟨kvs,a,h1,g,ha⟩
end
section
variable{H H1:Hp}{S:BS}
structure MarksAt(H:Hp)(S:BS)(as:List ag)(ms:List aC):Prop where
 mk ::
 len:as.length=ms.length
 at_:∀(j:Nat)(a:ag)(n:aC),as[j]?=some a->ms[j]?=some n->∃ p:Int×Int,zM S n=some p/\H a=some (.tup [.str n,.int p.1,.int p.2])
theorem uB{D:ag}{u o:HO}(eD:H D=some u):wE (λx=>x=D) H (upd H D o):=λx o hx e=>.inl (by rw[zG hx]; exact e)
theorem zC3{D:ag}{zs:List V}(eD:H D=some (.lst zs)):∀ b xs,H b=some (.tup xs)->¬ b=D:=λb xs e z=>by rw[z,eD] at e; cases e
end
end Sea

namespace Sea
open PySem L2
structure zYr(H:Hp)(as:List ag)(rows:List (List Int)):Prop where
 mk ::
 len:as.length=rows.length
 at_:∀(j:Nat)(a:ag)(r:List Int),as[j]?=some a->rows[j]?=some r->H a=some (.tup (r.map V.int))
def vS(S:BS)(n:aC):Int×Int:=(zM S n).getD (0,0)
def sidesN(S:BS):Deed->List (List Int)
 | .bearing _ n a b c d=>[zOo [-b,a,a*(vS S n).2-b*(vS S n).1],zOo [d,-c,(vS S n).1*d-(vS S n).2*c]]
 | .range _ l r=>[zOo [(vS S l).2-(vS S r).2,(vS S r).1-(vS S l).1,(vS S r).1*(vS S l).2-(vS S r).2*(vS S l).1]]
 | _=>[]
def zBn(S:BS):Deed->Prop
 | .bearing m n a b c d=>0<=m/\m<=S.runs.length/\(zM S n).isSome=true/\rQ (a,b)/\rQ (c,d)
 | .range m l r=>0<=m/\m<=S.runs.length/\(zM S l).isSome=true/\(zM S r).isSome=true/\zM S l≠zM S r
 | _=>False
structure zW3(S:BS):Prop where
 few:Few S
 fresh:zSm S
 rise:zYi S
 mk_:∀ e∈S.marks,zAm e.2
 way:∀ e∈S.runs,zAm e
 note:∀ e∈S.notes,zBn S e.2
structure GroupsAt(H0 H:Hp)(gs:List ag)(rows:List (List (List Int))):Prop where
 mk ::
 len:gs.length=rows.length
 new:∀ g∈gs,H0 g=none
 at_:∀(j:Nat)(g:ag)(r:List (List Int)),gs[j]?=some g->rows[j]?=some r->∃ as:List ag,H g=some (.lst (as.map V.ref))/\zYr H as r
theorem zRl(a b c:V):zC2 [] [(.inr "marks", a),(.inr "banks", b),(.inr "runs", c)]=[(.inr "marks", a),(.inr "banks", b),(.inr "runs", c)]:=by kernel_rfl
theorem zVb(a b c d:V):sY [((.inr "marks" : Key),a),(.inr "banks", b),(.inr "runs", c)] (.inr "notes") d=[(.inr "marks", a),(.inr "banks", b),(.inr "runs", c),(.inr "notes", d)]:=by kernel_rfl
theorem zVt(a b c d e:V):sY [((.inr "marks" : Key),a),(.inr "banks", b),(.inr "runs", c),(.inr "notes", d)] (.inr "next") e=[(.inr "marks", a),(.inr "banks", b),(.inr "runs", c),(.inr "notes", d),(.inr "next", e)]:=by kernel_rfl
theorem zF6{H:Hp}{D:ag}{kvs:List (Key×V)}(eD:H D=some (.dK kvs)):∀ b xs,H b=some (.tup xs)->¬ b=D:=λb xs e z=>by rw[z,eD] at e; cases e
theorem rO{H:Hp}{w p q:ag}{m:Int}{n:aC}{a b c d:Int}(hw:H w=some (.tup [.str "bearing", .int m,.str n,.ref p,.ref q]))(hp:H p=some (.tup [.int a,.int b]))(hq:H q=some (.tup [.int c,.int d])):Rep H (Deed.bearing m n a b c d).dt (.ref w) :=
 yD.mpr ⟨w,_,rfl,hw,zL.mpr ⟨_,_,rfl,zW.mpr rfl,zL.mpr ⟨_,_,rfl,yF.mpr rfl,zL.mpr ⟨_,_,rfl,zW.mpr rfl,.two (wD (p:=(a,b)) hp) (wD (p:=(c,d)) hq)⟩⟩⟩⟩
theorem qV{H:Hp}{w:ag}{m:Int}{l r:aC}(hw:H w=some (.tup [.str "range", .int m,.str l,.str r])):Rep H (Deed.range m l r).dt (.ref w) :=
 yD.mpr ⟨w,_,rfl,hw,zL.mpr ⟨_,_,rfl,zW.mpr rfl,zL.mpr ⟨_,_,rfl,yF.mpr rfl,.two (zW.mpr rfl) (zW.mpr rfl)⟩⟩⟩
theorem rT{H:Hp}{w:ag}{n:aC}{x y:Int}(hw:H w=some (.tup [.str "mark", .str n,.int x,.int y])):Rep H (Deed.mark n x y).dt (.ref w) :=
 yD.mpr ⟨w,_,rfl,hw,zL.mpr ⟨_,_,rfl,zW.mpr rfl,zL.mpr ⟨_,_,rfl,zW.mpr rfl,.two (yF.mpr rfl) (yF.mpr rfl)⟩⟩⟩
theorem zCk{H:Hp}{w:ag}{k:Int}(hw:H w=some (.tup [.str "strike", .int k])):Rep H (Deed.strike k).dt (.ref w) :=
 yD.mpr ⟨w,_,rfl,hw,.two (zW.mpr rfl) (yF.mpr rfl)⟩
theorem zHo{H:Hp}{w:ag}{x y:Int}(hw:H w=some (.tup [.str "sail", .int x,.int y])):Rep H (Deed.sail x y).dt (.ref w) :=
 yD.mpr ⟨w,_,rfl,hw,zL.mpr ⟨_,_,rfl,zW.mpr rfl,.two (yF.mpr rfl) (yF.mpr rfl)⟩⟩
end Sea

namespace Sea
open PySem L2
theorem rK{S:BS}{n:aC}{e:aC×Int×Int}(h:(zM S n).isSome=true):zM { S with marks:=S.marks++[e] } n=zM S n:=by
 unfold zM at h ⊢;dsimp only;rw[List.find?_append];cases q:S.marks.find? λe=>decide (e.1=n) with
 | none=>rw[q] at h; simp at h
 | some e'=>rfl
theorem zN3{S:BS}{D:Deed}{e:aC×Int×Int}(h:zBn S D):zBn { S with marks:=S.marks++[e] } D:=by
 match D,h with
 | .bearing m n a b c d,h=>exact⟨h.1,h.2.1,by rw[rK h.2.2.1]; exact h.2.2.1,h.2.2.2⟩
 | .range m l r,h=>exact⟨h.1,h.2.1,by rw[rK h.2.2.1]; exact h.2.2.1,by rw[rK h.2.2.2.1]; exact h.2.2.2.1,by rw[rK h.2.2.1,rK h.2.2.2.1]; exact h.2.2.2.2⟩
theorem zPy{S:BS}{D:Deed}{e:Int×Int}(h:zBn S D):zBn { S with runs:=S.runs++[e] } D:=by
 match D,h with
 | .bearing m n a b c d,h=>exact⟨h.1,by have:=h.2.1; dsimp only; rw[al]; simp only[aS,cT]; lia,h.2.2⟩
 | .range m l r,h=>exact⟨h.1,by have:=h.2.1; dsimp only; rw[al]; simp only[aS,cT]; lia,h.2.2⟩
theorem zCd{S:BS}{D:Deed}{l:List (Int×Deed)}{k:Int}(h:zBn S D):zBn { S with notes:=l,coming:=k } D:=by
 match D,h with
 | .bearing m n a b c d,h=>exact h
 | .range m l r,h=>exact h
theorem zTe:zW3 BS.nil:=⟨⟨by decide,by decide,by decide,by decide⟩,λe he=>(nomatch he),.nil,λe he=>(nomatch he),λe he=>(nomatch he),λe he=>(nomatch he)⟩
theorem zJp{S:BS}{D:Deed}(g:zW3 S)(kn:zBn S D)(l:S.notes.length<24):zW3 { S with notes:=S.notes++[(S.coming,D)],coming:=S.coming+1 }:=by
 refine⟨⟨g.few.ma,g.few.ba,g.few.ru,by show(S.notes++[_]).length<=60; rw[al]; simp only[aS,cT]; lia⟩,λe he=>?_,?_,g.mk_,g.way,λe he=>?_⟩
 ·rcases aN.mp he with z | z
  ·have:=g.fresh e z;show e.1<S.coming+1;lia
  ·rw[aw.mp z];show S.coming<S.coming+1;lia
 ·show((S.notes++[(S.coming,D)]).map (·.1)).Pairwise (· < ·);rw[aA,List.pairwise_append];refine⟨g.rise,List.pairwise_singleton _ _,λx hx y hy=>?_⟩;obtain⟨e,he,rfl⟩:=aD.mp hx;rw[aw.mp hy];exact g.fresh e he
 ·rcases aN.mp he with z | z
  ·exact zCd (g.note e z)
  ·rw[aw.mp z];exact zCd kn
theorem zCp{n k:aC}{x y:Int} : ∀{l:List (aC×Int×Int)},((l.map λe=>if e.1=n then(e.1,x,y) else e).find? λe=>decide (e.1=k)).map (·.2)=((l.find? λe=>decide (e.1=k)).map (·.2)).map λp=>if k=n then(x,y) else p
 | []=>rfl
 | (m,p)::l=>by
  rw[aM,bL,bL];by_cases e1:m=n
  ·rw[if_pos e1];by_cases e2:m=k
   ·subst e1 e2;simp
   ·rw[decide_eq_false (show ¬ (m,x,y).1=k from e2)];exact zCp
  ·rw[if_neg e1];by_cases e2:m=k
   ·subst e2;simp[e1]
   ·rw[decide_eq_false (show ¬ (m,p).1=k from e2)];exact zCp
theorem zJr{S:BS}{n k:aC}{x y:Int} : zM (aft S (.move n x y)) k=(zM S k).map λp=>if k=n then(x,y) else p:=zCp
theorem uN{S:BS}{n k:aC}(h:k≠n):zM (aft S (.unmark n)) k=zM S k:=by
 unfold zM;show(List.find? _ (S.marks.filter _)).map _=_;rw[List.find?_filter]
 congr 2
 funext e
 by_cases z:e.1=k
 ·simp[z,h]
 ·simp[z]
theorem vP{S:BS}{n k:aC}{x y:Int}(h:(zM S k).isSome=true):(zM (aft S (.move n x y)) k).isSome=true:=by
 rw[zJr,bX];exact h
theorem zOb{S:BS}{D:Deed}{n:aC}{x y:Int}(h:zBn S D)(g:zKp (aft S (.move n x y)) D):zBn (aft S (.move n x y)) D:=by
 match D,h,g with
 | .bearing m k a b c d,h,_=>exact⟨h.1,h.2.1,vP h.2.2.1,h.2.2.2⟩
 | .range m l r,h,⟨p,u,e1,e2,ne⟩=>exact⟨h.1,h.2.1,vP h.2.2.1,vP h.2.2.2.1,by rw[e1,e2]; exact λz=>ne (aZ z)⟩
theorem zJa{S:BS}{D:Deed}{n:aC}(h:zBn S D)(g:unlike n D):zBn (aft S (.unmark n)) D:=by
 match D,h,g with
 | .bearing m k a b c d,h,g=>exact⟨h.1,h.2.1,by rw[uN g]; exact h.2.2.1,h.2.2.2⟩
 | .range m l r,h,g=>exact⟨h.1,h.2.1,by rw[uN g.1]; exact h.2.2.1,by rw[uN g.2]; exact h.2.2.2.1,by rw[uN g.1,uN g.2]; exact h.2.2.2.2⟩
theorem zCu{S S':BS}{D:Deed}(h:zBn S D)(e1:S'.marks=S.marks)(e2:S'.runs.length=S.runs.length):zBn S' D:=by
 have e:∀ n,zM S' n=zM S n:=λn=>by unfold zM; rw[e1]
 match D,h with
 | .bearing m k a b c d,h=>exact⟨h.1,by rw[e2]; exact h.2.1,by rw[e]; exact h.2.2.1,h.2.2.2⟩
 | .range m l r,h=>exact⟨h.1,by rw[e2]; exact h.2.1,by rw[e]; exact h.2.2.1,by rw[e]; exact h.2.2.2.1,by rw[e,e]; exact h.2.2.2.2⟩
theorem zR4{S:BS}{D:Deed}(g:zW3 S)(ok:okD S D):zW3 (aft S D):=by
 match D,ok with
 | .mark n x y,ok =>
  refine⟨⟨by show(S.marks++[_]).length<=60; rw[al]; have:=ok.2.2.2; simp only[aS,cT]; lia,g.few.ba,g.few.ru,g.few.no⟩,g.fresh,g.rise,λe he=>?_,g.way,λe he=>zN3 (g.note e he)⟩;rcases aN.mp he with z | z
  ·exact g.mk_ e z
  ·rw[aw.mp z];exact ok.2.2.1
 | .sail x y,ok =>
  refine⟨⟨g.few.ma,g.few.ba,by show(S.runs++[_]).length<=60; rw[al]; have:=ok.2; simp only[aS,cT]; lia,g.few.no⟩,g.fresh,g.rise,g.mk_,λe he=>?_,λe he=>zPy (g.note e he)⟩;rcases aN.mp he with z | z
  ·exact g.way e z
  ·rw[aw.mp z];exact ok.1
 | .bearing m n a b c d,ok=>exact zJp g ⟨ok.1,ok.2.1,ok.2.2.1,ok.2.2.2.1,ok.2.2.2.2.1⟩ ok.2.2.2.2.2.2
 | .range m l r,ok=>exact zJp g ⟨ok.1,ok.2.1,ok.2.2.1,ok.2.2.2.1,ok.2.2.2.2.1⟩ ok.2.2.2.2.2
 | .move n x y,ok =>
  refine⟨⟨by show(S.marks.map _).length<=60; rw[ac]; exact g.few.ma,g.few.ba,g.few.ru,g.few.no⟩,g.fresh,g.rise,λe he=>?_,g.way,λe he=>zOb (g.note e he) (ok.2.2 e he)⟩;obtain⟨e',h1,rfl⟩:=aD.mp he;by_cases z:e'.1=n
  ·rw[if_pos z];exact ok.2.1
  ·rw[if_neg z];exact g.mk_ e' h1
 | .unmark n,ok =>
  exact⟨⟨aO (dJ _ _) g.few.ma,g.few.ba,g.few.ru,g.few.no⟩,g.fresh,g.rise,λe he=>g.mk_ e (cK.mp he).1,g.way,λe he=>zJa (g.note e he) (ok.2 e he)⟩
 | .bank n cs,ok =>
  exact⟨⟨g.few.ma,by show(S.banks++[_]).length<=60; rw[al]; have:=ok.2.2.2.2; simp only[aS,cT]; lia,g.few.ru,g.few.no⟩,g.fresh,g.rise,g.mk_,g.way,λe he=>zCu (g.note e he) rfl rfl⟩
 | .level n,_ =>
  exact⟨⟨g.few.ma,aO (dJ _ _) g.few.ba,g.few.ru,g.few.no⟩,g.fresh,g.rise,g.mk_,g.way,λe he=>zCu (g.note e he) rfl rfl⟩
 | .right k x y,ok =>
  refine⟨⟨g.few.ma,g.few.ba,by show(S.runs.set _ _).length<=60; rw[f7]; exact g.few.ru,g.few.no⟩,g.fresh,g.rise,g.mk_,λe he=>?_,λe he=>zCu (g.note e he) rfl (by show(S.runs.set _ _).length=_; rw[f7])⟩;rcases gW he with z | z
  ·exact g.way e z
  ·rw[z];exact ok.2.2
 | .strike k,_ =>
  refine⟨⟨g.few.ma,g.few.ba,g.few.ru,aO (dJ _ _) g.few.no⟩,λe he=>g.fresh e (cK.mp he).1,?_,g.mk_,g.way,λe he=>zCd (g.note e (cK.mp he).1)⟩;exact g.rise.sublist (jj.map _)
def zQc:BS->List Deed->Prop
 | _,[]=>True
 | S,D::r=>okD S D/\zQc (aft S D) r
def zXz(S:BS)(l:List Deed):BS:=l.foldl aft S
def LwN(H0 H:Hp)(d:ag)(S:BS):Prop:=∃ m b r n,H0 r=none/\LwA H d m b r n S
structure SmallN(no:List (Int×Deed))(k:Int)(i:Nat):Prop where
 mk ::
 len:no.length=i
 num:k=1+(i:Int)
 pos:∀ e∈no,1<=e.1
def fourK:Deed->Prop
 | .mark _ _ _ | .sail _ _ | .bearing _ _ _ _ _ _ | .range _ _ _=>True
 | _=>False
structure MarksN(S:BS):Prop where
 mk ::
 lo:3<=S.marks.length
 hi:S.marks.length<=5
 bd:∀ e∈S.marks,e.2.1.natAbs<=860/\e.2.2.natAbs<=860
 bk:S.banks=[]
end Sea

namespace Sea
open PySem L2
def stN(l:List (aC×Int×Int))(rs:List (Int×Int))(no:List (Int×Deed))(k:Int):BS:=⟨l,[],rs,no,k⟩
section
variable{l:List (aC×Int×Int)}{rs:List (Int×Int)}{no:List (Int×Deed)}{k:Int}
structure Done(Ds:List Deed)(l:List (aC×Int×Int))(rs:List (Int×Int))(no:List (Int×Deed))(k:Int):Prop where
 mk ::
 ok:zQc BS.nil Ds
 at_:zXz BS.nil Ds=stN l rs no k
 four:∀ D∈Ds,fourK D
end
end Sea

namespace L2
open PySem PySem.Spec PyProof.Rows
theorem zF4(o:cA)(f:Array af->Array af):(df f o).dict=o.dict:=by unfold df; split <;> rfl
def zLi(h base:aV)(e:ag)(cls fl:af):Prop :=
 ∃ oe vs T oT ts,h.get? e=some oe/\(oe.cls=cls/\oe.dict=none/\vs[2]?=some .none)/\oe.data=.fields vs/\vs[1]?=some (.ref T)/\base.get? T=none/\T≠e/\h.get? T=some oT/\oT.data=.fields ts/\ts[3]?=some fl
def uJ(base:aV)(l:List gf)(e:ag)(cls:af)(h:aV):Prop:=base.StaysIn h/\base.get? e=none/\h.FunFrames base l/\zLi h base e cls .none
def zS8(base:aV)(l:List gf)(e:ag)(cls:af)(L:ag)(h:aV):Prop:=base.StaysIn h/\base.get? e=none/\h.FunFrames base l/\zLi h base e cls (rawInt L)
def zJ3(a:ag)(cls:af)(h:aV):Prop:=∃ ob vs,h.get? a=some ob/\ob.cls=cls/\ob.dict=none/\ob.data=.fields vs/\vs[2]?=some .none
theorem uJ.there{base h:aV}{l:List gf}{e:ag}{cls:af}(x:uJ base l e cls h):zJ3 e cls h:=by
 obtain⟨_,_,_,oe,vs,_,_,_,he,hc,hd,_⟩:=x;exact⟨oe,vs,he,hc.1,hc.2.1,hd,hc.2.2⟩
section
variable{M:mJ}{A:bu}{E:af->ai->Prop}{s:ai}
theorem zUq{base:aV}{env:gf}{outer:List gf}{L e:ag}{oe:cA}{vs:Array af}{head:af}{hadNext:Bool}{Q:Unit->ai->Prop}
  (hfr:A.frames=some (env::outer)) (hl:s.heap.FunFrames base (env::outer)) (hf:env.frame=some L)
  (he:s.heap.get? e=some oe) (hkb:base.StaysIn s.heap) (hen:base.get? e=none) (hd:oe.data=.fields vs) (hsz:1<vs.size) (hdi:oe.dict=none) (h0:vs[2]?=some .none)
  (h:∀ h',zS8 base (env::outer) e oe.cls L h'->s.heap.UpToSlots h'->Q () { s with heap:=h' }) :
  wpAny M A (do let a <- frameOf env; let pl <- entryPlaceOf L hadNext; let b <- jk head a .none (rawInt L) .none pl; setField (.ref e) 1 b) Q E s:=by
 have hene:e ∉ (env::outer).filterMap (·.frame):=λhm=>by
  obtain⟨_,o,ho,hnf⟩:=hl.mem hm;rw[he] at ho; injection ho with ho; subst ho; exact hnf vs hd
 refine aa (wpAny_frameOf_fun hfr hl hf λh₁ hs₁=>?_);refine aa (wpAny_entryPlaceOf λpl hpl=>?_);unfold jk newFields;refine aa (aW ?_ (hpl.sizeOk5 _ _ _ _ _));have he₁:h₁.get? e=some oe:=(hs₁.2.1 e hene).trans he;have kb₁:base.StaysIn h₁:=λb o hbo=>(hs₁.2.1 b λhm=>by rw[(hl.mem hm).1] at hbo; cases hbo).trans (hkb b o hbo);generalize hob:({ cls:=.type "traceback", dict:=none,data:=.fields ([head,.ref L,.none,rawInt L,.none]++(if pl.isEmpty then cG 6 a7 else pl)).toArray } : cA)=ob;have hobf:ob.isFreed=false:=by rw[<- hob]; rfl
 have hobd:ob.data=.fields ([head,.ref L,.none,rawInt L,.none]++(if pl.isEmpty then cG 6 a7 else pl)).toArray:=by rw[<- hob]
 have he₂:=ah (h:=h₁) ob he₁;refine dk he₂ hd hsz (h _ ?_ ?_)
 ·have hTe:h₁.objs.size≠e:=d3 (az he₁);have hd₃:=cv hd (·.setIfInBounds 1 (aK h₁.objs.size));have he₃:=cD (df (·.setIfInBounds 1 (aK h₁.objs.size))) he₂ (cY hd₃);have hT₃:=(aX (h₁.push ob) (df (·.setIfInBounds 1 (aK h₁.objs.size))) (cw hTe)).trans (ap h₁ hobf);have keep:∀ b o,b≠e->h₁.get? b=some o->((h₁.push ob).update e (df (·.setIfInBounds 1 (aK h₁.objs.size)))).get? b=some o:=λb o hbe hb=>by
   rw[aX _ _ (cw hbe)];exact ah _ hb
  have noRecord:∀ b o,s.heap.get? b=some o->(∀ vs,o.data≠.fields vs)->b≠e:=λb o hb hnf q=>by
   rw[q,he] at hb; injection hb with hb; subst hb; exact hnf vs hd
  refine⟨λb o hbo=>keep b o (λq=>by rw[q,hen] at hbo; cases hbo) (kb₁ b o hbo),hen,hl.of_keeps λb o hb hnf=>?_,?_⟩
  ·obtain⟨sl,hs⟩:=hs₁.2.2 b o hb;exact⟨_,keep b _ (noRecord b o hb hnf) hs,rfl⟩
  ·exact⟨_,_,h₁.objs.size,_,_,he₃,⟨eJ _ _,by rw[zF4]; exact hdi,by rw[Array.getElem?_setIfInBounds_ne (by decide)]; exact h0⟩,hd₃,by simp[hsz],kb₁.fresh,hTe,hT₃,hobd,by first | (simp; done) | (rcases hpl with rfl | ⟨_,_,_,_,_,_,_,rfl⟩ <;> simp)⟩
 ·intro b o hb hnf;have hbe:b≠e:=λq=>by rw[q,he] at hb; injection hb with hb; subst hb; exact hnf vs hd
  obtain⟨sl,hs⟩:=hs₁.2.2 b o hb;exists sl;rw[aX _ _ (cw hbe)];exact ah _ hs
theorem zLn{base:aV}{env:gf}{outer:List gf}{L e:ag}{oe:cA}{vs:Array af}{Q:Unit->ai->Prop}
  (hfr:A.frames=some (env::outer)) (hl:s.heap.FunFrames base (env::outer)) (hf:env.frame=some L)
  (he:s.heap.get? e=some oe) (hkb:base.StaysIn s.heap) (hen:base.get? e=none) (hd:oe.data=.fields vs) (h1:vs[1]?=some .none) (hdi:oe.dict=none) (h0:vs[2]?=some .none)
  (h:∀ h',zS8 base (env::outer) e oe.cls L h'->s.heap.UpToSlots h'->Q () { s with heap:=h' }):wpAny M A (noteFrame (.ref e) env) Q E s:=by
 unfold noteFrame;simp only[hf];refine aa (bg he hd h1 ?_);rw[if_neg (by decide)];exact zUq hfr hl hf he hkb hen hd (dI.mp h1).1 hdi h0 h
theorem zI6{base:aV}{env:gf}{outer:List gf}{L e:ag}{cls:af}{Q:Unit->ai->Prop}
  (hfr:A.frames=some (env::outer)) (hf:env.frame=some L) (hfl:uJ base (env::outer) e cls s.heap)
  (h:∀ h',zS8 base (env::outer) e cls L h'->s.heap.UpToSlots h'->Q () { s with heap:=h' }):wpAny M A (noteFrame (.ref e) env) Q E s:=by
 obtain⟨hkb,hen,hl,oe,vs,T,oT,ts,he,⟨hcls,hdi,h0⟩,hd,h1,hnT,hTe,hT,hdT,h3⟩:=hfl;subst hcls;unfold noteFrame;simp only[hf];refine aa (bg he hd h1 ?_);rw[if_pos (show(aK T != a7)=true from by simp)];refine aa (bg hT hdT h3 ?_);rw[if_neg (show ¬ ((a7 == rawInt L)=true) from by simp[rawInt])];refine aa (dk hT hdT (dI.mp h3).1 ?_);have other:∀ b,b≠T->(s.heap.update T (df (·.setIfInBounds 3 a7))).get? b=s.heap.get? b:=λb hb=>aX _ _ (cw hb);have noRecord:∀ b o,s.heap.get? b=some o->(∀ vs,o.data≠.fields vs)->b≠T:=λb o hb hnf q=>by
  rw[q,hT] at hb; injection hb with hb; subst hb; exact hnf ts hdT
 refine zUq hfr (hl.of_keeps λb o hb hnf=>⟨o,(other b (noRecord b o hb hnf)).trans hb,rfl⟩) hf ((other e (cw hTe)).trans he)
  (λb o hbo=>(other b λq=>by rw[q,hnT] at hbo; cases hbo).trans (hkb b o hbo)) hen hd (dI.mp h1).1 hdi h0
  λh' x1 x2=>h h' x1 λb o hb hnf=>x2 b o ((other b (noRecord b o hb hnf)).trans hb) hnf
theorem zRd{base:aV}{l:List gf}{e:ag}{cls fl:af}{Q:Unit->ai->Prop}(hh:base.StaysIn s.heap/\base.get? e=none/\s.heap.FunFrames base l/\zLi s.heap base e cls fl)
  (h:∀ h',uJ base l e cls h'->s.heap.UpToSlots h'->Q () { s with heap:=h' }):wpAny M A (setFlight (.ref e) none) Q E s:=by
 obtain⟨hkb,hen,hl,oe,vs,T,oT,ts,he,hcls,hd,h1,hnT,hTe,hT,hdT,h3⟩:=hh;have hsz3:3<ts.size:=(dI.mp h3).1;have other:∀ b,b≠T->(s.heap.update T (df (·.setIfInBounds 3 ((none:Option ag).elim a7 λf=>rawInt f)))).get? b=s.heap.get? b :=
  λb hb=>aX _ _ (cw hb)
 have noRecord:∀ b o,s.heap.get? b=some o->(∀ vs,o.data≠.fields vs)->b≠T:=λb o hb hnf q=>by
  rw[q,hT] at hb; injection hb with hb; subst hb; exact hnf ts hdT
 unfold setFlight;refine aa (bg he hd h1 ?_);rw[if_pos (show(aK T != a7)=true from by simp)];refine dk hT hdT hsz3 (h _ ⟨λb o hbo=>(other b λq=>by rw[q,hnT] at hbo; cases hbo).trans (hkb b o hbo),hen,
  hl.of_keeps λb o hb hnf=>⟨o,(other b (noRecord b o hb hnf)).trans hb,rfl⟩,?_⟩ λb o hb hnf=>⟨o.slots,(other b (noRecord b o hb hnf)).trans hb⟩)
 exact⟨oe,vs,T,_,_,(other e (cw hTe)).trans he,hcls,hd,h1,hnT,hTe,cD _ hT (cY (cv hdT _)),cv hdT _,by simp[hsz3]⟩
theorem zRp{base:aV}{l:List gf}{e L:ag}{cls:af}{Q:Unit->ai->Prop}(hh:zS8 base l e cls L s.heap)
  (h:∀ h',uJ base l e cls h'->s.heap.UpToSlots h'->Q () { s with heap:=h' }):wpAny M A (setFlight (.ref e) none) Q E s:=zRd hh h
theorem zIm{base:aV}{l:List gf}{e:ag}{cls:af}{Q:Unit->ai->Prop}(hh:uJ base l e cls s.heap)
  (h:∀ h',uJ base l e cls h'->s.heap.UpToSlots h'->Q () { s with heap:=h' }):wpAny M A (setFlight (.ref e) none) Q E s:=zRd hh h
theorem zOg{base:aV}{env:gf}{outer:List gf}{L e:ag}{cls:af}{Q:Unit->ai->Prop}
  (hfr:A.frames=some (env::outer)) (hf:env.frame=some L) (hfl:uJ base (env::outer) e cls s.heap)
  (hQ:∀ h',uJ base outer e cls h'->s.heap.UpToSlots h'->Q () { s with heap:=h' }):wpAny M A (leaving env (.ref e)) Q E s:=by
 unfold leaving;refine aa (zI6 hfr hf hfl λh1 x1 u1=>?_);refine zRp x1 λh2 ⟨k1,k2,⟨_,_,k3⟩,k4⟩ u2=>hQ h2 ⟨k1,k2,k3,k4⟩ (u1.trans u2)
theorem zKa{base h:aV}{env:gf}{outer:List gf}{L e:ag}{cls:af}{args:List af}{Q:Unit->ai->Prop}
  (hfr:A.frames=some (env::outer)) (hf:env.frame=some L) (hkb:base.StaysIn h) (hl:h.FunFrames base (env::outer)) (hx:lH h s.heap e cls args)
  (hQ:∀ h',uJ base outer e cls h'->s.heap.UpToSlots h'->Q () { s with heap:=h' }):wpAny M A (leaving env (.ref e)) Q E s:=by
 obtain⟨t,he,htn,ht⟩:=hx.there;have fresh:∀ b,h.get? b=none->base.get? b=none:=λb hb=>by
  cases hq:base.get? b with
  | none=>rfl
  | some o'=>have:=hkb b o' hq; rw[hb] at this; cases this
 unfold leaving;refine aa (zLn hfr (hl.of_keeps λb o hb _=>⟨o,hx.keeps b o hb,rfl⟩) hf he (λb o hb=>hx.keeps b o (hkb b o hb)) (fresh e hx.new) rfl rfl rfl rfl λh1 x1 u1=>?_);refine zRp x1 λh2 ⟨k1,k2,⟨_,_,k3⟩,k4⟩ u2=>hQ h2 ⟨k1,k2,k3,k4⟩ (u1.trans u2)
end
end L2

namespace L2
open PySem PySem.Spec PyProof.Rows
theorem zG9:plainId "proto.unchain" = true:=by decide +kernel
theorem zH3:entryFor table "proto.unchain" = some eV.«proto.unchain»:=entryFor_of_tree (by kernel_rfl)
def zJ1(h:aV)(x:ag):Prop:=∃ ob vs,h.get? x=some ob/\ob.data=.fields vs/\vs[2]?=some .none
section
variable{prog:aL}{w:aT}{A:bu}{E:af->ai->Prop}{s:ai}
theorem zBu{α:Type}{x e:ag}{oe:cA}{ws:Array af}{Q:α->ai->Prop}(hh:A.handled=some (.ref x))(hne:x≠e)(ha:zJ1 s.heap x)(he:s.heap.get? e=some oe)(hde:oe.data=.fields ws)(hz:2<ws.size)
  (h:E (.ref e) { s with heap:=s.heap.update e (df (·.setIfInBounds 2 (.ref x))) }):wpAny (model prog w) A (raiseNew (.ref e):lY α) Q E s:=by
 obtain⟨ox,vs,hx,hd,h2⟩:=ha;unfold raiseNew;refine aa (jp ?_);rw[hh];dsimp only;rw[if_pos (show(aK x != aK e)=true by simpa using hne)];refine aa (bI (wpAny_runValue (codeAny_builtin zH3 ?_)));rw[Around.under_plainId zG9 _];unfold eV.«proto.unchain»;dsimp only;refine aa (bg hx hd h2 ?_);rw[if_pos (by rfl)];refine aa (ak (ak ?_));refine aa ?_;unfold updateField;refine aa (wpAny_load he ?_);rw[hde];dsimp only;rw[if_pos hz];exact wpAny_update he (kT h)
theorem zF1{x it l:ag}{i:Nat}{items:Array af}{Q:Option af->ai->Prop}(hh:A.handled=some (.ref x))(ha:zJ1 s.heap x)(hxi:x≠it)
  (hit:s.heap.IsListIter it l i) (hl:s.heap.IsList l items) (hx:items[i]?=none)
  (hQ:∀ h',fA it s.heap h'->Q none { s with heap:=h' }):wpAny (model prog w) A (pyNext (.ref it)) Q E s:=by
 obtain⟨o,ho,hc,hd⟩:=id hit;obtain⟨ol,hol,_,nl,hdl⟩:=hl;unfold pyNext;refine aa (dR (bB (name:=bH "__next__") hit.typeIs ig
  (bE ig hit.typeIs PySem.entry_listiter_next ?_ (PySem.args_listiter_next _))))
 show wpAny _ _ (field (.ref it) 0 >>= _) _ _ s;refine aa (bg ho hd (x:=.ref l) rfl ?_);show wpAny _ _ (if (aK l == a7)=true then _ else _) _ _ s;rw[if_neg (show ¬ ((aK l == a7)=true) from aE)];show wpAny _ _ (field (.ref it) 1 >>= _) _ _ s;refine aa (bg ho hd (x:=.int i 0) rfl ?_);show wpAny _ _ (seqItems? (.ref l) >>= _) _ _ s;refine aa (cR hol hdl ?_);simp only[cg,hx];refine aa (iA (aa (dk ho hd (by simp) ?_)));show wpAny _ _ (newExc (.type "StopIteration") [] >>= _) _ _ _;refine aa ?_;simp only[newExc,newTuple];refine aa (aW ?_ (by size_fits));refine aa (m:=firstArgMember _ _) (eP (a:=a7) (by first | rfl | (simp only[firstArgMember]; rfl)) ?_);refine aW ?_ (by size_fits);obtain⟨ox,vs,hox,hdx,h2x⟩:=ha;refine zBu (x:=x) (ws:=_) (by first | exact hh | (rw[show A.in1.handled=A.handled from rfl]; exact hh)) ?_ ⟨ox,vs,ah _ (ah _ ((aX _ _ (cw hxi)).trans hox)),hdx,h2x⟩ (ap _ rfl) rfl (by simp; lia) ?_
 ·exact λz=>absurd (az hox) (by rw[z]; simp)
 refine aa (fR (T := "StopIteration") (b:=true) ⟨_,cD _ (ap _ rfl) (cY (cv rfl _)),eJ _ _⟩ isSubtype_stop ?_);refine ak (hQ _ λb o hb e=>?_);rw[aX _ _ (λz=>absurd (az e) (by rw[<- z]; simp))];exact ah _ (ah _ ((aX _ _ (cw hb)).trans e))
theorem zFj{x it t:ag}{i:Nat}{items:Array af}{Q:Option af->ai->Prop}(hh:A.handled=some (.ref x))(ha:zJ1 s.heap x)(hxi:x≠it)
  (hit:IsTupIter s.heap it t i) (ht:ly s.heap t items) (hx:items[i]?=none)
  (hQ:∀ h',fA it s.heap h'->Q none { s with heap:=h' }):wpAny (model prog w) A (pyNext (.ref it)) Q E s:=by
 obtain⟨o,ho,hc,hd⟩:=id hit;obtain⟨ol,hol,_,nl,hdl⟩:=ht;unfold pyNext;refine aa (dR (bB (name:=bH "__next__") hit.typeIs slot_tupleiter_next
  (bE slot_tupleiter_next hit.typeIs entry_tupleiter_next ?_ (args_tupleiter_next _))))
 show wpAny _ _ (field (.ref it) 0 >>= _) _ _ s;refine aa (bg ho hd (x:=.ref t) rfl ?_);show wpAny _ _ (if (aK t == a7)=true then _ else _) _ _ s;rw[if_neg (show ¬ ((aK t == a7)=true) from aE)];show wpAny _ _ (field (.ref it) 1 >>= _) _ _ s;refine aa (bg ho hd (x:=.int i 0) rfl ?_);show wpAny _ _ (seqItems? (.ref t) >>= _) _ _ s;refine aa (cR hol hdl ?_);simp only[cg,hx];refine aa (iA (aa (dk ho hd (by simp) ?_)));show wpAny _ _ (newExc (.type "StopIteration") [] >>= _) _ _ _;refine aa ?_;simp only[newExc,newTuple];refine aa (aW ?_ (by size_fits));refine aa (m:=firstArgMember _ _) (eP (a:=a7) (by first | rfl | (simp only[firstArgMember]; rfl)) ?_);refine aW ?_ (by size_fits);obtain⟨ox,vs,hox,hdx,h2x⟩:=ha;refine zBu (x:=x) (ws:=_) (by first | exact hh | (rw[show A.in1.handled=A.handled from rfl]; exact hh)) ?_ ⟨ox,vs,ah _ (ah _ ((aX _ _ (cw hxi)).trans hox)),hdx,h2x⟩ (ap _ rfl) rfl (by simp; lia) ?_
 ·exact λz=>absurd (az hox) (by rw[z]; simp)
 refine aa (fR (T := "StopIteration") (b:=true) ⟨_,cD _ (ap _ rfl) (cY (cv rfl _)),eJ _ _⟩ isSubtype_stop ?_);refine ak (hQ _ λb o hb e=>?_);rw[aX _ _ (λz=>absurd (az e) (by rw[<- z]; simp))];exact ah _ (ah _ ((aX _ _ (cw hb)).trans e))
theorem zG6{x t:ag}{items:Array af}{targets:List (Bool×(af->lY Unit))}{Q:Unit->ai->Prop}(hh:A.handled=some (.ref x))(ha:zJ1 s.heap x)(ht:ly s.heap t items)
  (hn:targets.length=items.size) (hstar:targets.findIdx? (·.1)=none)
  (h:∀ h',fA s.heap.objs.size s.heap h'->wpAny (model prog w) A (assignInOrder (targets.map (·.2)) items.toList) Q E { s with heap:=h' }) :
  wpAny (model prog w) A (unpack (.ref t) targets) Q E s:=by
 have hlt:t≠s.heap.objs.size:=by obtain⟨o,ho,_⟩:=ht; exact aQ (az ho)
 have hlx:x≠s.heap.objs.size:=by obtain⟨o,_,ho,_⟩:=ha; exact aQ (az ho)
 unfold unpack;rw[hn,hstar];refine aa (bI ?_);unfold unpackItems;refine aa ?_;unfold notIterableAtAll;refine aa (lh ht.typeIs slot_tuple_iter.lookup ?_);refine ak ?_;simp only[cN,if_false];refine aa (bI (iter_tuple ht ?_));refine aa (bI (draw_tuple hlt items.size 0 _ _ ⟨_,ap _ rfl,rfl,rfl⟩ (ht.push _) (by lia) λh₁ hit₁ hs₁=>?_));have hall:List.take items.size (List.drop 0 items.toList)=items.toList:=by
  rw[lI]; exact dB (by simp)
 rw[hall];rw[if_neg (by simp)];have ht₁:ly h₁ t items:=(ht.push _).extBut hs₁.extBut hlt;have ha₁:zJ1 h₁ x:=by
  obtain⟨ob,vs,e1,e2,e3⟩:=ha;exact⟨ob,vs,hs₁.extBut _ _ hlx (ah _ e1),e2,e3⟩
 refine aa (bI (zFj hh ha₁ hlx hit₁ ht₁ (by simp) λh₂ he₂=>?_));simp only[Option.isSome_none,cN,if_false];exact ak (h h₂ λb o hb e=>he₂ b o hb (hs₁.extBut b o hb (ah _ e)))
theorem zHa{env:gf}{elts:List bj}{x1}{pos:fg}{x t:ag}{items:Array af}{Q:Unit->ai->Prop}(hh:A.handled=some (.ref x))(ha:zJ1 s.heap x)(ht:ly s.heap t items)
  (hn:(assignEach elts env).length=items.size) (hstar:(assignEach elts env).findIdx? (·.1)=none)
  (h:∀ h',fA s.heap.objs.size s.heap h'->wpAny (model prog w) A (assignInOrder ((assignEach elts env).map (·.2)) items.toList) Q E { s with heap:=h' }) :
  wpAny (model prog w) A (assign (.Tuple elts x1 pos) env (.ref t)) Q E s:=by
 rw[assign_Tuple];exact aa (hZ (zG6 hh ha ht hn hstar h))
end
end L2

namespace L2
open PySem PySem.Spec PyProof.Rows
theorem xL.some{P:aL}{w:aT}{H:Hp}{h:aV}{a:ag}{o:HO}(x:xL P w H h a o):∃ ob,h.get? a=some ob:=by
 cases o with
 | lst xs=>obtain⟨_,_,_,_,e⟩:=x; exact⟨_,e⟩
 | tup xs=>obtain⟨_,_,_,o,e,_⟩:=x; exact⟨_,e⟩
 | dK kvs=>obtain⟨_,_,_,_,o,_,_,e,_⟩:=x; exact⟨_,e⟩
 | dT kvs=>obtain⟨_,_,_,_,o,_,_,e,_⟩:=x; exact⟨_,e⟩
 | set S n=>obtain⟨o,_,_,_,e,_⟩:=x; exact⟨_,e⟩
 | ins C dx fs=>obtain⟨_,_,_,e,_⟩:=x; exact⟨_,e⟩
 | own y=>obtain⟨_,e⟩:=x; exact⟨_,e⟩
 | xd fs=>obtain⟨_,⟨_,_,_,e,_⟩,_⟩:=x; exact⟨_,e⟩
 | rng lo hi=>obtain⟨_,_,_,e⟩:=x; exact⟨_,e⟩
 | frz ob u=>obtain⟨e,_⟩:=x; exact⟨_,e⟩
 | tbl ps=>exact⟨_,x⟩
 | met f y=>exact⟨_,x⟩
 | ext φ=>obtain⟨_,⟨_,e⟩,_⟩:=x; exact⟨_,e⟩
section
variable{fs:List ag}{H H':Hp}{h h2 h3 B:aV}{P:aL}{w:aT}
theorem zY3(u:Un fs [] H H' h h2)(st:B.StaysIn h3)(hB:∀ b o o',h.get? b=some o'->h2.get? b=some o->b ∉ fs->B.get? b=some o)
  (hf:∀ b∈fs,∀ o,h2.get? b=some o->∃ sl,h3.get? b=some { o with slots:=sl }):Un fs [] H H' h h3 where
 keep:=λb o q n hb hx=>st _ _ (hB b o o q (u.keep b o q n hb hx) hb)
 slot:=λb o q n hb hx=>by
  obtain⟨sl,e⟩:=u.slot b o q n hb hx;obtain⟨sl',e'⟩:=hf b hb _ e;exact⟨sl',e'⟩
 free:=u.free
 there:=λb o q hx=>by
  obtain⟨o',e⟩:=u.there b o q hx;by_cases hb:b∈fs
  ·obtain⟨sl,e'⟩:=hf b hb _ e;exact⟨_,e'⟩
  ·exact⟨o',st _ _ (hB b o' o q e hb)⟩
 tups:=u.tups
 frzs:=u.frzs
 tbls:=u.tbls
theorem zT4(ok:HOk P w H' h2)(st:B.StaysIn h3)(hB:∀ b o u,H' b=some u->h2.get? b=some o->B.get? b=some o):HOk P w H' h3:=λa o e =>
 (ok a o e).stay (λb u hb q=>st _ _ (by
  rcases hb with rfl | hb
  ·exact hB _ u o e q
  ·exact hB b u _ hb q)) (λ_ q=>q) λ_ _ q=>q
end
structure zIu(P:aL)(w:aT)(outer:List gf)(H:Hp)(s:ai)(ea:ag)(cls:af)(H':Hp)(B:aV)(s':ai):Prop where
 mk ::
 os:s'.os=s.os
 bare:gr s'.gens
 un:Un (frs outer) [] H H' s.heap s'.heap
 hok:HOk P w H' s'.heap
 new:H' ea=none
 fresh:s.heap.get? ea=none
 fly:uJ B outer ea cls s'.heap
 has:∀ b o,s'.heap.get? b=some o->((s.heap.get? b).isSome=true\/(H' b).isSome=true)->b ∉ frs outer->B.get? b=some o
def CX1(P:aL)(w:aT):CXT:=λouter H s E e s'=>∃(ea:ag)(cls:af)(H':Hp)(B:aV),e=.ref ea/\zIu P w outer H s ea cls H' B s'/\E cls none H'
theorem zKe{X:Cx}{pins:List (ag×cA)}{σ:St}{H2:Hp}{s2:ai}{ea:ag}{cls:af}{B h3:aV}{env:gf}{outer:List gf}(hs:X.stack=env::outer)(ho:X.outer=outer)(hx:X.ex=[])(hl:env.frame=some X.env.locals)(J:Inv X pins σ H2 s2)
  (hB:∀ b o,s2.heap.get? b=some o->((X.s₀.heap.get? b).isSome=true\/(H2 b).isSome=true)->b ∉ frs (env::outer)->B.get? b=some o) (nw:H2 ea=none) (fr:X.s₀.heap.get? ea=none)
  (fly:uJ B outer ea cls h3) (up:s2.heap.UpToSlots h3):zIu X.prog X.w outer X.H₀ X.s₀ ea cls H2 B { s2 with heap:=h3 }:=by
 have st:=fly.1;have notin:∀ b o,X.s₀.heap.get? b=some o->b ∉ frs outer->b ∉ frs (env::outer):=λb o q hb z=>by
  rcases aI.mp (show b∈X.env.locals::frs outer by
   have:frs (env::outer)=X.env.locals::frs outer:=by unfold frs; rw[cS,hl]
   rw[<- this]; exact z) with e | e
  ·have l:=aR (az q) J.ok.above;rw[e] at l;exact db _ l
  ·exact hb e
 have trk:∀ b u,H2 b=some u->b ∉ frs (env::outer):=λb u e z=>by
  have:=J.stkFree b (by rw[hs]; exact z);rw[e] at this;cases this
 have fs:X.fs=frs outer:=by show frs X.outer=_; rw[ho]
 have hf:∀ b∈frs outer,∀ o,s2.heap.get? b=some o->∃ sl,h3.get? b=some { o with slots:=sl }:=λb hb o e=>by
  obtain⟨_,o',e',nf⟩:=J.stack.mem (show b∈X.stack.filterMap (·.frame) by
   rw[hs];show b∈frs (env::outer);have:frs (env::outer)=X.env.locals::frs outer:=by unfold frs; rw[cS,hl]
   rw[this];exact .tail _ hb)
  rw[e] at e';cases e';exact up b o e nf
 have un:Un (frs outer) [] X.H₀ H2 X.s₀.heap s2.heap:=by
  have:=J.base;rw[fs,hx] at this;exact this
 refine⟨J.os,J.bare,zY3 un st (λb o o' q e hb=>hB b o e (.inl (by rw[q]; rfl)) (notin b o' q hb)) hf,zT4 J.hok st λb o u e q=>hB b o q (.inr (by rw[e]; rfl)) (trk b u e),nw,fr,fly,λb o e z hb=>?_⟩;have key:∃ o',s2.heap.get? b=some o':=by
  rcases z with z | z
  ·obtain⟨o',q⟩:=aP.mp z;exact un.there b o' q (λz=>nomatch z)
  ·obtain⟨u,q⟩:=aP.mp z;exact(J.hok b u q).some
 obtain⟨o',e'⟩:=key;have hb':b ∉ frs (env::outer):=by
  rcases z with z | z
  ·obtain⟨o',q⟩:=aP.mp z;exact notin b o' q hb
  ·obtain⟨u,q⟩:=aP.mp z;exact trk b u q
 have hb2:=hB b o' e' z hb';have:=st _ _ hb2;rw[show({ s2 with heap:=h3 } : ai).heap=h3 from rfl] at e;rw[this] at e;cases e;exact hb2
theorem zIu.inv{X:Cx}{pins:List (ag×cA)}{σ:St}{H H':Hp}{s s':ai}{ea:ag}{cls:af}{B:aV}(I:Inv X pins σ H s)(f:zIu X.prog X.w X.stack H s ea cls H' B s'):Inv X pins σ H' s' :=
 I.call' (ch:=[]) f.os f.un f.hok f.bare λb z=>absurd z (by simp)
theorem zIu.on{P:aL}{w:aT}{outer:List gf}{base:aV}{H H':Hp}{s s':ai}{ea:ag}{cls:af}{B h3:aV}(hs:s'.heap.FunFrames base outer)(f:zIu P w outer H s ea cls H' B s')(hfree:∀ b∈frs outer,H' b=none)
  (fly:uJ B outer ea cls h3) (up:s'.heap.UpToSlots h3):zIu P w outer H s ea cls H' B { s' with heap:=h3 }:=by
 have st:=fly.1;have trk:∀ b u,H' b=some u->b ∉ frs outer:=λb u e z=>by
  have:=hfree b z;rw[e] at this;cases this
 refine⟨f.os,f.bare,zY3 f.un st (λb o o' q e hb=>f.has b o e (.inl (by rw[q]; rfl)) hb) (λb hb o e=>by
  obtain⟨_,o',e',nf⟩:=hs.mem hb;rw[e] at e';cases e';exact up b o e nf),zT4 f.hok st λb o u e q=>f.has b o q (.inr (by rw[e]; rfl)) (trk b u e),f.new,f.fresh,fly,λb o e z hb=>?_⟩
 have key:∃ o',s'.heap.get? b=some o':=by
  rcases z with z | z
  ·obtain⟨o',q⟩:=aP.mp z;exact f.un.there b o' q (λz=>nomatch z)
  ·obtain⟨u,q⟩:=aP.mp z;exact(f.hok b u q).some
 obtain⟨o',e'⟩:=key;have hb2:=f.has b o' e' z hb;have:=st _ _ hb2;rw[show({ s' with heap:=h3 } : ai).heap=h3 from rfl] at e;rw[this] at e;cases e;exact hb2
def zN2(X:Cx)(EE:St->XK):Prop:=∀(pins:List (ag×cA))(σ:St)(H:Hp)(s:ai)(e:af)(s':ai),Inv X pins σ H s->CX1 X.prog X.w X.stack H s (EE σ) e s'->X.xe e s'
def zYa(X:Cx)(EE:St->XK):Prop:=∀(pins:List (ag×cA))(σ:St)(H:Hp)(s:ai)(h':aV)(e:ag)(cls:af)(vs:List af),Inv X pins σ H s->lH s.heap h' e cls vs->EE σ cls none H->X.xe (.ref e) { s with heap:=h' }
section
variable{P:aL}{w:aT}{K:ae}{mg:aC->Option af}{base:aV}{N:List aC}{qual:aC}{scope:fu}{f:ag}{cd:af}{A:bu}{outer:List gf}{s:ai}{H:Hp}{E:XK}
theorem zZ:zN2 (cxOf (CX1 P w) P w K mg base N qual scope f cd A outer s H E) (λ_=>E):=by
 intro pins σ H1 s1 e s2 I h;obtain⟨ea,cls,H2,B,rfl,fl,q⟩:=h;have J:=fl.inv I;refine zOg (base:=B) (cls:=cls) (L:=s.heap.objs.size) I.ok.frames rfl fl.fly λh3 fly up=>?_;refine⟨ea,cls,H2,B,rfl,zKe (X:=cxOf (CX1 P w) P w K mg base N qual scope f cd A outer s H E) rfl rfl rfl rfl J (λb o e z hb=>fl.has b o e (z.imp (λz=>?_) id) hb) fl.new ?_ fly up,q⟩
 ·obtain⟨o',q'⟩:=aP.mp z;obtain⟨o'',q''⟩:=I.base.there b o' q' (λz=>nomatch z);rw[q''];rfl
 ·show s.heap.get? ea=none;cases q':s.heap.get? ea with
  | none=>rfl
  | some o' =>
   obtain⟨o'',q''⟩:=I.base.there ea o' q' (λz=>nomatch z);rw[fl.fresh] at q'';cases q''
theorem xO:zYa (cxOf (CX1 P w) P w K mg base N qual scope f cd A outer s H E) (λ_=>E):=by
 intro pins σ H1 s1 h' e cls vs I hx q;have hin:∀ env∈(cxOf (CX1 P w) P w K mg base N qual scope f cd A outer s H E).stack,∀ b,env.frame=some b->b∈frs (cxOf (CX1 P w) P w K mg base N qual scope f cd A outer s H E).stack:=λenv he b hb=>fo.mpr ⟨env,he,hb⟩;have notin:∀ b o,s1.heap.get? b=some o->b ∉ frs (cxOf (CX1 P w) P w K mg base N qual scope f cd A outer s H E).stack->(iF s1.heap (frs (cxOf (CX1 P w) P w K mg base N qual scope f cd A outer s H E).stack)).get? b=some o:=λb o e hb=>jf _ e hb;refine zKa (h:=s1.heap) (base:=iF s1.heap (frs (cxOf (CX1 P w) P w K mg base N qual scope f cd A outer s H E).stack)) (cls:=cls) (args:=vs) (L:=s.heap.objs.size) I.ok.frames rfl (λb o q=>ju _ q) (PySem.W.funFrames_hide I.stack hin) hx λh3 fly up=>?_;have nw:H1 e=none:=by
  cases z:H1 e with
  | none=>rfl
  | some u =>
   obtain⟨ob,eo⟩:=(I.hok e u z).some;rw[hx.new] at eo;cases eo
 refine⟨e,cls,H1,_,rfl,zKe (X:=cxOf (CX1 P w) P w K mg base N qual scope f cd A outer s H E) (s2:=s1) rfl rfl rfl rfl I (λb o e _ hb=>notin b o e hb) nw ?_ fly ((mO hx.keeps).trans up),q⟩;show s.heap.get? e=none;cases q':s.heap.get? e with
 | none=>rfl
 | some o' =>
  obtain⟨o'',q''⟩:=I.base.there e o' q' (λz=>nomatch z);rw[hx.new] at q'';cases q''
theorem Fun.okX{x qual:aC}{st:bN}{f:ag}{fd:bJ}{N ps:List aC}{k:Nat}{sp:Sp}(F:Fun K x qual st f fd)(S:zO N ps (zI st))(len:∀ vs H Q E,sp vs H Q E->vs.length=ps.length)
  (hbody:∀(cdv:af)(A:bu)(outer:List gf)(s:ai)(H:Hp)(vs:List V)(Q:VK)(E:XK),rN k (A.deeper (envOfC qual (zI st) s.heap.objs.size f cdv))->sp vs H Q E ->
   ∃ t,PSs (cxOf (CX1 P w) P w K mg base N qual (zI st) f cdv A outer s H E) (xK st) t/\t { nx:=λ_ H'=>Q .non H',rt:=Q } (start N vs) H):xJ P w K mg base (CX1 P w) (k+1) f fd ps sp:=by
 obtain⟨oc,od,kV,doc,pm,an,cdv,ct,osl,rfl,lk,hcd⟩:=F.ex;exact zZe lk hcd S len λA outer s H vs Q E hr hsp=>hbody cdv A outer s H vs Q E hr hsp
end
def qH(P:aL)(w:aT)(K:ae)(mg:aC->Option af)(base:aV)(x:aC)(n:Nat)(ps:List aC)(sp:Sp):Prop :=
 ∃(f:ag)(fd:bJ),xJ P w K mg base (CX1 P w) n f fd ps sp/\zBl K fd ps []/\bO K (.ref f)=true/\mg x=some (.ref f)
def zU7(P:aL)(w:aT)(K:ae)(mg:aC->Option af)(base:aV)(g:ag)(n:Nat)(ps:List aC)(sp:Sp):Prop :=
 ∃ fd:bJ,xJ P w K mg base (CX1 P w) n g fd ps sp/\∀ us:List af,us.length=ps.length->bindArgs fd ⟨us,[]⟩=pure (ps.zip us)
section
variable{X:Cx}{n:Nat}{f:ag}{fd:bJ}{ps:List aC}{sp:Sp}{x m:aC}{p pos apos:fg}{e o:bj}{es:List bj}{ta:TE}{t:TA}{EE:St->XK}{C g:ag}
theorem zKt{pins:List (ag×cA)}{σ:St}{H:Hp}{s:ai}{Q:VK}{us:List af}{vs:List V}(F:xJ X.prog X.w X.K X.mg X.base (CX1 X.prog X.w) n f fd ps sp)(hr:rN n X.A)(hb:zBl X.K fd ps [])(hx:zN2 X EE)
  (I:Inv X pins σ H s) (r:yY vs us) (h:sp vs H Q (EE σ)):wpAny (model X.prog X.w) X.A (call (.ref f) us) (EP X pins σ Q) X.xe s:=by
 have hl:us.length=ps.length:=by rw[<- r.length]; exact F.len _ _ _ _ h
 have hb':=hb s us I.kIn (by rw[bF]; exact hl);rw[bF] at hb';refine gH (codeAny_mono (F.run X.A X.stack s H ⟨us,[]⟩ us vs Q (EE σ) hr I.env0 hb' r h) λr s' hq=>?_);cases r with
 | error e=>exact hx pins σ H s e s' I hq
 | ok fl =>
  cases fl with
  | ret u=>exact I.after hq
  | next=>exact be hq
  | brk=>exact be hq
  | cont=>exact be hq
def zYg(sp:Sp)(EE:St->XK)(t:TA):TE:=λσ H Q=>t σ H λvs H1=>sp vs H1 Q (EE σ)
theorem yE(EE:St->XK)(h:qH X.prog X.w X.K X.mg X.base x n ps sp)(hx:zN2 X EE)(hr:rN n X.A)(hg:Gl X x)
  (ha:PA X (e::es) t) (hdb:(x ==("__debug__" : aC))=false:=by decide) (he:starEach (e::es) X.env=(false,eval e X.env)::starEach es X.env:=by rfl) (hpl:(backTo pos (starEach es X.env)).any (·.1)=false:=by rfl) :
  PE X (.Call (.Name x p) (e::es) [] pos) (zYg sp EE t):=by
 obtain⟨f,fd,F,hb,hk,hm⟩:=h;intro pins s σ H Q I h;refine c7 (tS I hg hm ?_ hdb);refine dC (h₀:=X.base) I.ok.mod.kin hk (thn (ha pos pins s σ H _ I h) λus s1 ⟨vs,H1,I1,r,q⟩=>⟨I1.kIn,?_⟩) he hpl;exact zKt F hr hb hx I1 r q
def zXb(C:ag)(m:aC)(sp:Sp)(EE:St->XK)(ta:TE)(t:TA):TE:=λσ H Q=>ta σ H λx H1=>TMeth C m x H1 (t σ H1 λvs H2=>sp (x::vs) H2 Q (EE σ))
theorem zT0(EE:St->XK){pl:lY Bool}(hb:InB X.base λK=>Cls K C/\zRt K C m g)(h:zU7 X.prog X.w X.K X.mg X.base g n ps sp)(hx:zN2 X EE)(hr:rN n X.A)(he:PE X o ta)(ha:PA X (e::es) t)
  (hst:starEach (e::es) X.env=(false,eval e X.env)::starEach es X.env:=by rfl) (hpl:(backTo pos (starEach es X.env)).any (·.1)=false:=by rfl)
  (ht:eval (.Call (.Attribute o m apos) (e::es) [] pos) X.env=(do
   let ov <- eval o X.env
   standAt apos.atName
   let (f,first) <- holding [ov] (getMethod ov m pl)
   callWith pos f first (backTo pos (starEach (e::es) X.env)) (backToKw pos (keywordEach [] X.env))):=by rfl) :
  PE X (.Call (.Attribute o m apos) (e::es) [] pos) (zXb C m sp EE ta t):=by
 obtain⟨K,KB,c,hm⟩:=hb;obtain⟨fd,F,b⟩:=h;intro pins s σ H Q I h;refine fM (pl:=pl) (thn (he pins s σ H _ I h) λu s1 ⟨x,H1,I1,rx,a,dx,fs,ex,ea,l,q⟩=>?_) ht;subst ex;obtain rfl:u=aK a:=rx;refine zCr (X:=X.withK K) (I1.withK KB) ea c hm l ?_;refine dC (first:=[.ref a]) (h₀:=X.base) (K:=K) KB hm.kp (thn (ha pos pins s1 σ H1 _ I1 q) λus s2 ⟨vs,H2,I2,r,q2⟩=>⟨(I2.withK KB).kIn,?_⟩) hst hpl;exact zKt (us:=.ref a::us) (vs:=.ref a::vs) F hr (.all b) hx I2 (.cons rfl r) q2
theorem PS.nox{st:bN}{t:TS}(h:PS X.nox st t):PS X st t:=λpins s σ H D I hw =>
 cZ (h pins s σ H D (I.wish _) hw) (λ_ _ q=>q.unwish) λ_ _ z=>be z
def zXk(cls:af)(EE:St->XK)(t:TA):TS:=λ_ σ H=>t σ H λvs H1=>vs.length<=sizeLine/\EE σ cls none H1
theorem xM(EE:St->XK){bm bmN:List af}{B Bn newId nid initId inN:String}(O:a9 x C bm newId X.mg X.base)(Fn:ExcBaseFacts Bn newId inN bmN)(hBn:bm.contains (.type Bn)=true)(FB:ExcBaseFacts B nid initId bm)(hx:zYa X EE)
  {cpos np:fg} (ha:PA X (e::es) t) (hc:X.calm=true:=by rfl) (hg:Gl X x:=by rfl) (hd:(x ==("__debug__" : aC))=false:=by decide) (he:starEach (e::es) X.env=(false,eval e X.env)::starEach es X.env:=by rfl) (hpl:(backTo cpos (starEach es X.env)).any (·.1)=false:=by rfl) :
  PS X (.Raise (some (.Call (.Name x np) (e::es) [] cpos)) none pos) (zXk (.ref C) EE t):=by
 obtain⟨tl,N,nm,q,bs,hdct,sn,sub,ab,col,dd,k0,k1,k2,k3,k5,mN,hC,hN,hni,T⟩:=O.obj;intro pins s σ H D I h;refine wpAny_Raise_call_subU (C:=C) (nm:=nm) (q:=q) (N:=N) (bs:=bs) (bm:=tl) (hdct:=hdct) (sn:=sn) (sub:=sub) (ab:=ab) (col:=col) (dd:=dd) (k0:=k0) (k1:=k1) (k2:=k2) (k3:=k3) (k5:=k5)
  Fn hBn FB (mN:=mN) (T.hasType FB.hasBase) (I.ok.hd hc) (by rw[he]; show(false||(backTo cpos (starEach es X.env)).any (·.1))=false; rw[hpl]; rfl) hni (tS I hg O.bound ⟨rfl,?_⟩ hd)
 have h:=ha cpos pins s σ H _ I h;rw[he] at h ⊢;refine fV (cZ h (λus s2 ⟨vs,H1,I1,r,len,q⟩=>⟨rfl,?_,I1.bk _ _ hC,hN.keeps I1.bk,T.keeps I1.bk,λh' e hm=>?_⟩) λ_ _ y=>y)
 ·rw[<- r.length]; exact len
 ·exact hx pins σ H1 s2 h' e _ _ I1 hm q
end
end L2

namespace L2
open PySem PySem.Spec PyProof.Rows
abbrev Cx.tr(X:Cx)(pins:List (ag×cA))(EE:St->XK):Cx :=
 { X with pn:=X.pn++pins,xe:=λe s'=>∃(σ:St)(H:Hp)(s:ai),Inv X pins σ H s/\CX1 X.prog X.w X.stack H s (EE σ) e s' }
abbrev Cx.hd(X:Cx)(e:af):Cx:={ X with A:=X.A.mark (some e),calm:=false,xe:=λ_ _=>False }
section
variable{X:Cx}{pins pins':List (ag×cA)}{σ:St}{H:Hp}{s:ai}{EE:St->XK}{e:af}
theorem Inv.tr(I:Inv X pins σ H s)(EE:St->XK):Inv (X.tr pins EE) [] σ H s :=
 ⟨⟨I.ok.mod,I.ok.kind,I.ok.glob,I.ok.blt,I.ok.above,I.ok.inj,I.ok.has,I.ok.cab,I.ok.hd,I.ok.frames,I.ok.stk,I.ok.exf,I.ok.bs,I.ok.bsz,I.ok.noex,I.ok.exfs,I.ok.funs,I.ok.frf⟩,I.os,I.bare,I.base,I.loc,I.cell,I.free,I.freeC,λp hp=>I.pin p (by rw[bF] at hp; exact hp),I.hok,I.len⟩
theorem Inv.untr(I:Inv (X.tr pins EE) pins' σ H s):Inv X pins σ H s :=
 ⟨⟨I.ok.mod,I.ok.kind,I.ok.glob,I.ok.blt,I.ok.above,I.ok.inj,I.ok.has,I.ok.cab,I.ok.hd,I.ok.frames,I.ok.stk,I.ok.exf,I.ok.bs,I.ok.bsz,I.ok.noex,I.ok.exfs,I.ok.funs,I.ok.frf⟩,I.os,I.bare,I.base,I.loc,I.cell,I.free,I.freeC,λp hp=>I.pin p (dO _ hp),I.hok,I.len⟩
theorem Inv.hd(I:Inv X pins σ H s)(e:af):Inv (X.hd e) pins σ H s :=
 ⟨⟨I.ok.mod,I.ok.kind,I.ok.glob,I.ok.blt,I.ok.above,I.ok.inj,I.ok.has,I.ok.cab,λz=>(nomatch z),I.ok.frames,I.ok.stk,I.ok.exf,I.ok.bs,I.ok.bsz,I.ok.noex,I.ok.exfs,I.ok.funs,I.ok.frf⟩,I.os,I.bare,I.base,I.loc,I.cell,I.free,I.freeC,I.pin,I.hok,I.len⟩
theorem Inv.unhd(I:Inv (X.hd e) pins σ H s)(hh:X.calm=true->X.A.handled=none):Inv X pins σ H s :=
 ⟨⟨I.ok.mod,I.ok.kind,I.ok.glob,I.ok.blt,I.ok.above,I.ok.inj,I.ok.has,I.ok.cab,hh,I.ok.frames,I.ok.stk,I.ok.exf,I.ok.bs,I.ok.bsz,I.ok.noex,I.ok.exfs,I.ok.funs,I.ok.frf⟩,I.os,I.bare,I.base,I.loc,I.cell,I.free,I.freeC,I.pin,I.hok,I.len⟩
theorem SP.untr{D:zPd}{f:Flow}{s':ai}(h:SP (X.tr pins EE) pins' D f s'):SP X pins D f s':=by
 cases f with
 | next=>obtain⟨σ',H',I,q⟩:=h; exact⟨σ',H',I.untr,q⟩
 | brk=>obtain⟨σ',H',I,q⟩:=h; exact⟨σ',H',I.untr,q⟩
 | cont=>obtain⟨σ',H',I,q⟩:=h; exact⟨σ',H',I.untr,q⟩
 | ret u=>obtain⟨v,σ',H',I,r,q⟩:=h; exact⟨v,σ',H',I.untr,r,q⟩
theorem zR3:zN2 (X.tr pins EE) EE:=λ_ σ H s _ _ I h=>⟨σ,H,s,I.untr,h⟩
theorem Inv.moreX{a:ag}{o:HO}(I:Inv X pins σ H s)(f0:H a=none)(f1:a≠X.env.locals)(f3:X.s₀.heap.get? a=none)(f4:∀ x c,X.env.cells.lookup x=some c->c≠a)(f5:∀ p∈X.pn++pins,p.1≠a)
  (new:xL X.prog X.w (upd H a o) s.heap a o):Inv X pins σ (upd H a o) s:=by
 have nk:∀{b:ag}{u:HO},H b=some u->upd H a o b=some u:=λ{b u} e=>by
  rw[zG (λz=>by rw[z,f0] at e; cases e)];exact e
 have nn:∀{b:ag},b≠a->H b=none->upd H a o b=none:=λ{b} n e=>by rw[zG n]; exact e
 have lo:∀{b:ag}{u:cA},X.s₀.heap.get? b=some u->b≠a:=λ{b u} e z=>by rw[z,f3] at e; cases e
 refine⟨I.ok,I.os,I.bare,⟨I.base.keep,I.base.slot,λb u e n hx=>nn (lo e) (I.base.free b u e n hx),I.base.there,λb xs e=>nk (I.base.tups b xs e),λb u v e=>nk (I.base.frzs b u v e),
  λb ps e=>let ⟨more,q⟩:=I.base.tbls b ps e;⟨more,nk q⟩⟩,I.loc,I.cell,nn (cw f1) I.free,λx c e=>nn (f4 x c e) (I.freeC x c e),λp hp=>?_,λb u e=>?_,I.len⟩
 ·obtain⟨h1,h2,h3⟩:=I.pin p hp;exact⟨h1,nn (f5 p hp) h2,h3⟩
 ·by_cases eb:b=a
  ·subst eb;rw[zA] at e;cases e;exact new
  ·rw[zG eb] at e;exact(I.hok b u e).stay (λc v _ q=>q) (λc q=>nk q) λc xs q=>nk q
theorem Inv.frame{h':aV}{t':Nat}{m':aC->Option af}(I:Inv X pins σ H s)(hs:cP X.env.locals s.heap h')(hn:h'.Ns X.env.locals m'):Inv X pins (cG X.N.length none) H { s with heap:=h',toks:=t' }:=by
 have k:∀ b o,b≠X.env.locals->s.heap.get? b=some o->h'.get? b=some o:=λb o n e=>(hs.2 b n).trans e;have lo:∀{b:ag}{u:cA},X.s₀.heap.get? b=some u->b≠X.env.locals:=λ{b u} e z=>by
  have l:=aR (az e) I.ok.above;rw[z] at l;exact db _ l
 obtain⟨oL,esL,epL,hoL,_⟩:=hn;have trk:∀{b:ag}{u:HO},H b=some u->b≠X.env.locals:=λ{b u} e z=>by rw[z,I.free] at e; cases e
 refine⟨I.ok,I.os,I.bare,⟨λb o q n hb hx=>k _ _ (lo q) (I.base.keep b o q n hb hx),λb o q n hb hx=>?_,I.base.free,λb o q hx=>?_,I.base.tups,I.base.frzs,I.base.tbls⟩,⟨m',⟨oL,esL,epL,hoL,by assumption⟩,λi x v _ hσ=>?_⟩,λx c e=>?_,I.free,I.freeC,λp hp=>?_,λa o e=>?_,by rw[cX]⟩
 ·obtain⟨sl,e⟩:=I.base.slot b o q n hb hx;exact⟨sl,k _ _ (lo q) e⟩
 ·obtain⟨o',e⟩:=I.base.there b o q hx;exact⟨o',k _ _ (lo q) e⟩
 ·rw[fw] at hσ;split at hσ <;> cases hσ
 ·obtain⟨v,o,ho,hd⟩:=I.cell x c e;exact⟨v,o,k _ _ (I.cne x c e) ho,hd⟩
 ·obtain⟨h1,h2,h3,h4⟩:=I.pin p hp;exact⟨k _ _ h3 h1,h2,h3,h4⟩
 ·refine(I.hok a o e).stay (λb u hb q=>k _ _ ?_ q) (λ_ q=>q) λ_ _ q=>q;rcases hb with rfl | hb
  ·exact trk e
  ·exact trk hb
end
def zTy(a:ag)(cls:af):HO:=.ext (zJ3 a cls)
theorem zV3{P:aL}{w:aT}{H:Hp}{h:aV}{a:ag}{cls:af}(e:zJ3 a cls h):xL P w H h a (zTy a cls) :=
 ⟨e,let ⟨ob,_,h1,_⟩:=e;⟨ob,h1⟩,λh1 h2 ⟨ob,vs,q,c⟩ k=>⟨ob,vs,k _ q,c⟩⟩
def zAr(B:aV)(cls:af)(D:ag):Prop:=InB B λK=>lJ K cls (.ref D)=some true
def sTry(B:aV)(D:ag)(i:Nat)(tb:(St->XK)->TS)(th:ag->TS):TS:=λE σ H =>
 tb (λσ' cls _ H'=>zAr B cls D/\∀ ea,H' ea=none->th ea { nx:=λ_ _=>False,rt:=E.rt } (σ'.set i (some (.ref ea))) (upd H' ea (zTy ea cls))) E σ H
section
variable{X:Cx}{x n:aC}{i:Nat}{D:ag}{body suite:List bN}{b₀:bN}{np hpos pos:fg}{tb:(St->XK)->TS}{th:TS}
theorem zPf{M:mJ}{K:ae}{h:aV}{a:ag}{cls:af}{b:Bool}{D:ag}(X:K.In h)(e:zJ3 a cls h)(hx:lJ K cls (.ref D)=some b):PySem.W.Looks M h (excMatches (.ref a) (.ref D)) b:=by
 obtain⟨ob,_,h1,h2,_⟩:=e;exact PySem.W.exm_one X (h2 ▸ (nD h1).andThen .now) hx
theorem zJz{pins:List (ag×cA)}{σ:St}{H H':Hp}{s s1:ai}{ea:ag}{cls:af}{B h:aV}(hx:X.ex=[])(I:Inv X pins σ H s)(fl:zIu X.prog X.w X.stack H s ea cls H' B s1)
  (fly:uJ B X.stack ea cls h) (up:s1.heap.UpToSlots h):Inv X pins σ H' { s1 with heap:=h }/\zJ3 ea cls h/\∀ o,xL X.prog X.w (upd H' ea o) h ea o->Inv X pins σ (upd H' ea o) { s1 with heap:=h }:=by
 have J:=fl.inv I;have f5:=fl.on J.stack J.stkFree fly up;have J5:=f5.inv I;have ne:∀{b:ag}{o:cA},s.heap.get? b=some o->b≠ea:=λ{b o} q z=>by rw[z,fl.fresh] at q; cases q
 refine⟨J5,fly.there,λo new=>J5.moreX fl.new ?_ ?_ (λx c e=>?_) (λp hp=>ne (I.pin p hp).1) new⟩
 ·obtain⟨m,⟨oL,_,_,hoL,_⟩,_⟩:=I.loc;exact(ne hoL).symm
 ·cases q:X.s₀.heap.get? ea with
  | none=>rfl
  | some o =>
   obtain⟨o',q'⟩:=I.base.there ea o q (by rw[hx]; exact λz=>nomatch z);exact absurd rfl (ne q')
 ·obtain⟨v,o,ho,_⟩:=I.cell x c e;exact ne ho
theorem zXd{th:ag->TS}(hb:∀ (pins:List (ag×cA)) (EE:St->XK),PSs (X.tr pins EE) body (tb EE))(hm:X.mg x=some (.ref D))(hN:X.N.Nodup)(hi:X.N[i]?=some n)(hl:X.env.scope.names.lookup n=some .local)(hh:∀ ea:ag,PSs (X.hd (.ref ea)) (b₀::suite) (th ea))
  (hst:X.stack=X.env::X.outer/\X.env.frame=some X.env.locals:=by exact⟨rfl,rfl⟩) (hex:X.ex=[]:=by rfl) (hg:Gl X x:=by rfl) (hd:(x ==("__debug__" : aC))=false:=by decide) :
  PS X (.Try body [.ExceptHandler (some (.Name x np)) (some n) (b₀::suite) hpos] [] [] pos) (sTry X.base D i tb th):=by
 intro pins s σ H E I h;refine wpAny_Try_except (cZ (hb pins _ [] s σ H E (I.tr _) h) (λf s1 q=>?_) λe s1 q=>?_)
 ·have q:=q.untr;cases f with
  | next=>exact fk q
  | ret v=>exact q
  | brk=>exact q
  | cont=>exact q
 ·obtain⟨σ',H0,s0,I0,ea,cls,H',B,rfl,fl,tk,hc⟩:=q;have fly0:=fl.fly;rw[hst.1] at fly0;refine zI6 (L:=X.env.locals) (by rw[I.ok.frames,hst.1]) hst.2 fly0 λh4 held4 up4=>?_;refine zRp held4 λh5 fly5 up5=>?_;have up:=up4.trans up5;rw[<- hst.1] at fly5;obtain⟨J5,ex5,_⟩:=zJz hex I0 fl fly5 up;obtain⟨K,KB,hK⟩:=tk;have K5:K.In h5:=KB.keeps J5.bk;refine wpAny_handleBy_cons (codeAny_handlers_test (tS (J5.hd (.ref ea)) hg hm ?_ hd)) (by intro q; cases q);refine(zPf K5 ex5 hK).here ?_;refine codeAny_handlers_suite_as ?_;refine zIm fly5 λh6 fly6 up6=>?_;obtain⟨J6,ex6,more⟩:=zJz hex I0 fl fly6 (up.trans up6);have J7:=(more (zTy ea cls) (zV3 ex6)).hd (.ref ea);refine zIf (X:=X.hd (.ref ea)) (v:=.ref ea) J7 hN hi (.inl hl) rfl (λs8 I8 _=>?_) (.inr hl);refine cZ (hh ea pins s8 _ _ { nx:=λ_ _=>False,rt:=E.rt } I8 (hc ea fl.new)) (λf s9 q=>?_) λ_ _ z=>be z;cases f with
  | next=>obtain⟨_,_,_,z⟩:=q; exact be z
  | brk=>obtain⟨_,_,_,z⟩:=q; exact be z
  | cont=>obtain⟨_,_,_,z⟩:=q; exact be z
  | ret u =>
   obtain⟨v,σ9,H9,I9,r,q⟩:=q;have I9:=I9.unhd I.ok.hd;obtain⟨m,hn,_⟩:=id I9.loc;refine wpAny_nameGoes (show X.env.kindOf n=some .local from hl) hn (by rw[I.ok.kind]; rfl) λh' m' hn' hs=>?_;exact⟨v,_,H9,I9.frame hs hn',r,q⟩
end
section
open PySem.W
structure zEk(K:ae)(D:ag):Prop where
 mk ::
 ga:findIn K (.ref D) "__getattribute__" = some (some (.builtin "BaseException.__getattribute__"))
 gx:findIn K (.ref D) "__getattr__" = some none
 fc:findObj K D none "__class__" = some (.bind (.builtin "getset_descriptor.__get__") (.builtin "object.__class__"))
 mB:mroIn K D (.type "BaseException")=some true
 mo:mroIn K D (.type "object")=some true
theorem zM0{h:aV}{a D:ag}(e:zJ3 a (.ref D) h):∃ ox,InstAt h a ox D none:=by
 obtain⟨ob,vs,h1,h2,h3,h4,_⟩:=e;refine⟨ob,h1,h2,?_,by rw[h3]; trivial⟩;unfold notCls;rw[h4]
theorem zPn{K:ae}{prog:aL}{w:aT}{A:bu}{E:af->ai->Prop}{s:ai}{a D:ag}{Q:Option af->ai->Prop}(X:K.In s.heap)(C:zEk K D)(e:zJ3 a (.ref D) s.heap)(h:Q (some (.ref D)) { s with toks:=s.toks+1 }) :
  wpAny (model prog w) A (getAttr? (.ref a) "__class__") Q E s:=by
 obtain⟨ox,I⟩:=zM0 e;obtain⟨hh,g,d,t,os⟩:=s;have L0:=I.type (M:=model prog w);have L1:=looks_findIn (M:=model prog w) X C.ga;have L2:=looks_findIn (M:=model prog w) X C.gx;have L3:=looks_mroIn (M:=model prog w) X C.mB;have L4:=looks_find (M:=model prog w) X I C.fc;have hx2:(fj "BaseException.__getattribute__" == fj "object.__getattribute__")=false:=by decide +kernel
 have hx1:(onTheHeap (aK D)&&fj "BaseException.__getattribute__" == fj "object.__getattribute__")=false:=by rw[hx2]; rfl
 unfold getAttr? getAttrBy? getAttrBy;refine aa (wpAny_mkText (aa (dR (bI (aa (L0.at (aa (L1.at ?_))))))));dsimp only;rw[hx1];simp only[cN,if_false];unfold getAttrByItsOwn hookBefore;refine aa ?_;rw[if_pos (show onTheHeap (aK D)=true from rfl)];refine L2.at ?_;refine aa (dR (bI ?_));unfold callGetattribute;rw[if_neg (by decide)];unfold boundAndCalled;refine aa (eP (jX.ga.bind (.ref a)) ?_);show wpAny _ _ (call (.builtin "BaseException.__getattribute__") [.ref a,_]) _ _ _;refine gH (codeAny_call_builtin jX.ga.plain F.entry_bexc_ga ?_);have hk:builtinKind "BaseException.__getattribute__" = some .slot:=by decide +kernel
 have hsplit:splitId "BaseException.__getattribute__" = some ("BaseException", "__getattribute__"):=by decide +kernel
 simp only[checkBuiltinCall,hk,hsplit];refine aa ?_;unfold isInstance;refine aa (L0.at (L3.at ?_));simp only[mG,cN,if_false];refine eP (F.args_bexc_ga (.ref a) _) ?_;unfold eV.«object.__getattribute__»;refine aa (eP (a:=(aK a,[cC (bH "__class__") t])) (by first | rfl | kernel_rfl) ?_);dsimp only;refine aa (eP (a:=(bH "__class__")) (by first | rfl | kernel_rfl) ?_);refine aa (L0.at (aa (L4.at ?_)));dsimp only;show wpAny _ _ (holding [fj "object.__class__"] (call (.builtin "getset_descriptor.__get__") [.builtin "object.__class__", .ref a,.ref D]) >>= ret) _ _ _;refine aa (bI (gH (class_get (s:=⟨hh,g,d,t+1,os⟩) X I C.mo ?_)));refine ak ?_;dsimp only;exact handed_on rfl (ak h)
theorem zWe{K:ae}{a D:ag}(C:zEk K D):KitX K (.ref a) (.ref D) (zJ3 a (.ref D)) where
 ty:=λM h _ e=>let ⟨_,I⟩:=zM0 e; I.type
 it:=λ_ _ X _=>by
  obtain⟨cdD,hcD,_⟩:=io.mp C.mo;unfold clsIn at hcD;split at hcD
  ·rename_i c' d' cd' sl' ho
   intro A' Q' E' s' k q;unfold isType loadHead;exact aa (wpAny_loadPart (k _ _ (X _ _ ho)) (ak q))
  ·cases hcD
 ne:=λh tp dd its n sl X htp=>by
  obtain⟨cdD,hcD,_⟩:=io.mp C.mo;refine g8.mpr λq=>?_;have e:D=tp:=Value.ref.inj (beq_iff_eq.mp q);subst e;unfold clsIn at hcD;split at hcD
  ·rename_i c' d' cd' sl' ho
   have z:=(X _ _ ho).symm.trans htp;cases z
  ·cases hcD
 ca:=λX e k=>zPn X C e k
end
section
variable{X:Cx}
theorem yG{B:aV}(hB:X.base=B):vV X (.builtin "isinstance") (λxs H Q=>∃(a D:ag)(v:V)(c:af)(b:Bool),xs=[.ref a,v]/\((∃ T,v=.ty T/\c=.type T)\/∃ C,v=.ref C/\c=.ref C)/\H a=some (zTy a (.ref D))/\(InB B λK=>cQ K (.ref D) c=some b/\zEk K D)/\Q (.bl b) H):=by
 subst hB;intro pins s σ H xs us Q I r h;obtain⟨a,D,v,c,b,rfl,hv,ha,⟨K,KB,e,C⟩,q⟩:=h;obtain⟨u,w,rfl,ru,rw_⟩:=zY2 r;cases ru;obtain⟨p,_⟩:=(show xL X.prog X.w H s.heap a (zTy a (.ref D)) from I.hok a _ ha);have hc:w=c:=by
  rcases hv with ⟨T,rfl,rfl⟩ | ⟨C,rfl,rfl⟩
  ·exact rw_
  ·exact rw_
 subst hc;exact b9 (zWe C) (KB.keeps I.bk) p e (λz=>nomatch z) λtk=>⟨.bl b,H,I.tok tk,rfl,q⟩
theorem vQ{x:aC}{pos:fg}{a:ag}(hm:X.mg x=some (.ref a))(hg:Gl X x:=by rfl)(hd:(x ==("__debug__" : aC))=false:=by decide):PE X (.Name x pos) (tC (.ref a)):=λ_ _ _ H _ I h=>tS I hg hm ⟨.ref a,H,I,rfl,h⟩ hd
theorem zHf:bootBuiltins "ValueError" = some (.type "ValueError"):=by decide +kernel
end
end L2

namespace L2
open PySem PySem.Spec PyProof.Rows
abbrev TJ:=St->Hp->(Hp->Prop)->Prop
section
variable{X:Cx}{e:bj}{es:List bj}{t:TJ}{te:TE}{pos p:fg}{n:Nat}
def PJ(X:Cx)(es:List bj)(n:Nat)(t:TJ):Prop:=∀(pins:List (ag×cA))(s:ai)(σ:St)(H:Hp)(k:Nat)(acc:aC)(Q:aC->ai->Prop)(C:Hp->Prop),Inv X pins σ H s->acc.length<=2000*k->k+n<=100 ->
 t σ H C->(∀(H':Hp)(out:aC)(s':ai),C H'->out.length<=200000->Inv X pins σ H' s'->Q out s')->Joins (model X.prog X.w) X.A X.xe (evalEach es X.env) acc Q s
def zPp:TJ:=λ_ H K=>K H
def zV9(te:TE)(t:TJ):TJ:=λσ H K=>te σ H λv H1=>((∃ i,v=.int i/\i.natAbs.log2<1920)\/∃ x,v=.str x/\x.length<=1000)/\t σ H1 K
theorem sP:PJ X [] 0 zPp:=λ_ s _ H _ acc _ _ I h hk q z=>z H acc s q (by lia) I
theorem uA{c:aC}{j:Nat}(ht:PJ X es n t)(hc:c.length<=1000:=by decide)(he:evalEach (.Constant (.str c) j p::es) X.env=eval (.Constant (.str c) j p) X.env::evalEach es X.env:=by rfl):PJ X (.Constant (.str c) j p::es) (n+1) t:=by
 intro pins s σ H k acc Q C I h hk q z;rw[he];refine jv ⟨c,_,rfl,?_,?_⟩
 ·rw[strLen_append];show acc.length+c.length<=2^24;lia
 ·exact ht pins _ σ H (k+1) _ _ C (I.tok _) (by rw[strLen_append]; lia) (by lia) q z
theorem zBs(hv:PE X e te)(ht:PJ X es n t)(he:evalEach (.FormattedValue e (-1) none p::es) X.env=eval (.FormattedValue e (-1) none p) X.env::evalEach es X.env:=by rfl):PJ X (.FormattedValue e (-1) none p::es) (n+1) (zV9 te t):=by
 intro pins s σ H k acc Q C I h hk q z;rw[he];refine gO (thn (hv pins s σ H _ I q) λu s1 ⟨v,H1,I1,r,c,q1⟩=>?_);rcases c with ⟨i,rfl,hi⟩ | ⟨x,rfl,hx⟩
 ·obtain⟨tk,rfl⟩:=(show ∃ t,u=dL i t from r);have l:=int_text_length_le (k:=1920) (by decide) hi;rw[<- eG] at l;refine iW hi ⟨_,_,rfl,?_,?_⟩
  ·rw[strLen_append];show acc.length+_<=2^24;lia
  ·exact ht pins _ σ H1 (k+1) _ _ C (I1.tok _) (by rw[strLen_append]; lia) (by lia) q1 z
 ·obtain⟨tk,rfl⟩:=(show ∃ t,u=cC x t from r);have key:∀(t':nA)(tk':Nat),∃ y t,cC x t'=.str y t/\(acc++y).length<=sizeLine/\Joins (model X.prog X.w) X.A X.xe (evalEach es X.env) (acc++y) Q { s1 with toks:=tk' }:=λt' tk' =>
   ⟨x,t',rfl,by rw[strLen_append]; show acc.length+x.length<=2^24; lia,ht pins _ σ H1 (k+1) _ _ C (I1.tok _) (by rw[strLen_append]; lia) (by lia) q1 z⟩
  exact formatField_str (λt' tk'=>key t' tk') (by show x.length<=2^24; lia)
def zO0(t:TJ):TE:=λσ H Q=>t σ H λH'=>∀ x:aC,x.length<=200000->Q (.str x) H'
theorem wZ{a b:bj}(ht:PJ X (a::b::es) n t)(hn:n<=100:=by decide):PE X (.JoinedStr (a::b::es) pos) (zO0 t):=by
 intro pins s σ H Q I h;exact wpAny_JoinedStr (ht pins s σ H 0 mL _ _ I (by decide) (by lia) h λH' out s' c l I'=>⟨by show out.length<=2^24; lia,.str out,H',I'.tok _,⟨_,rfl⟩,c out l⟩)
end
def bmV:List af:=[.type "ValueError", .type "Exception", .type "BaseException", .type "object"]
end L2

namespace L2
open PySem PySem.Spec PyProof.Rows
theorem zTc(w:aT)(x:aC):keyH w (.inr x)=gB w.params x:=rfl
theorem zRn{P:aL}{w:aT}{B:aV}{a:ag}{l:List (aC×Nat×V×af)}{ep:Nat}(h:B.get? a=some ⟨.type "dict", none,.dict ((l.map λe=>(⟨gB w.params e.1,.str e.1 e.2.1,e.2.2.2⟩:dn)).toArray) ep,#[]⟩)
  (r:∀ e∈l,xI e.2.2.1 e.2.2.2) (nd:(l.map (·.1)).Nodup):zW5 P w B a (l.map λe=>(.inr e.1,e.2.2.1)):=by
 refine⟨l.map λe=>(.inr e.1,e.2.2.2),?_,_,_,ep,h,⟨rfl,rfl,rfl⟩,rfl,λe he=>?_,?_,?_⟩
 ·clear h nd
  induction l with
  | nil=>exact .nil
  | cons e l ih=>exact .cons ⟨rfl,r e (.head _)⟩ (ih λe he=>r e (.tail _ he))
 ·have he:e∈l.map λe=>(⟨gB w.params e.1,.str e.1 e.2.1,e.2.2.2⟩:dn):=by simpa using he
  obtain⟨q,_,rfl⟩:=aD.mp he;exact⟨.inr q.1,zA4 P w q.1 q.2.1,(zTc w q.1).symm⟩
 ·rw[List.toList_toArray];clear h nd r
  induction l with
  | nil=>exact .nil
  | cons e l ih=>exact .cons (zA4 P w e.1 e.2.1) rfl ih
 ·rw[bw];have:((λe:Key×af=>e.1) ∘ λe:aC×Nat×V×af=>((.inr e.1:Key),e.2.2.2))=(λx:aC=>(.inr x:Key)) ∘ λe=>e.1:=rfl;rw[this,<- bw];refine dH.mpr (jU.mpr ((dH.mp nd).imp λn z=>n ?_));injection z
def zT3(es:Array dn):Bool:=es.toList.all λe=>match e.key with | .str _ _=>true | _=>false
theorem zQ5{es:Array dn}(h:zT3 es=true):StrKeys es:=λe he=>by
 have:=br.mp h e (by simpa using he);cases q:e.key <;> rw[q] at this <;> first | exact⟨_,_,rfl⟩ | cases this
def zMj(K:ae)(N:ag):Bool:=match K.lookup N with
 | some ⟨_,_,.dict es _,_⟩=>zT3 es&&(nsFind es "__init__").isNone
 | _=>false
theorem zJc{K:ae}{B:aV}{N:ag}(X:K.In B)(h:zMj K N=true):∃ m,B.Ns N m/\m "__init__" = none:=by
 unfold zMj at h;split at h
 ·rename_i c d es ep sl q
  rw[aY] at h;exact⟨nsFind es,⟨_,es,ep,X _ _ q,rfl,zQ5 h.1,λ_=>rfl⟩,by simpa using h.2⟩
 ·cases h
def zMb(K:ae):List af->Bool
 | []=>false
 | .ref A::tl=>(match K.lookup A with | some ⟨_,_,.cls cd,_⟩=>zMj K cd.ns&&zMb K tl | _=>false)
 | v::tl=>(v::tl) == bmV
theorem zIq{K:ae}{B:aV}(X:K.In B):∀{tl:List af},zMb K tl=true->OwnTail B bmV tl
 | [],h=>by cases h
 | .ref A::tl,h=>by
  unfold zMb at h;split at h
  ·rename_i c d cd sl q
   rw[aY] at h;obtain⟨m,h1,h2⟩:=zJc X h.1;exact .own (X _ _ q) h1 h2 (zIq X h.2)
  ·cases h
 | .type T::tl,h=>by
  have e:(lv T::tl)=bmV:=beq_iff_eq.mp h;rw[e];exact .base
 | .none::tl,h=>by have e:(a7::tl)=bmV:=beq_iff_eq.mp h; rw[e]; exact .base
 | .bool b::tl,h=>by have e:(iq b::tl)=bmV:=beq_iff_eq.mp h; rw[e]; exact .base
 | .int i t::tl,h=>by have e:(dL i t::tl)=bmV:=beq_iff_eq.mp h; rw[e]; exact .base
 | .float i t::tl,h=>by have e:(iZ i t::tl)=bmV:=beq_iff_eq.mp h; rw[e]; exact .base
 | .str i t::tl,h=>by have e:(cC i t::tl)=bmV:=beq_iff_eq.mp h; rw[e]; exact .base
 | .bytes i t::tl,h=>by have e:(kP i t::tl)=bmV:=beq_iff_eq.mp h; rw[e]; exact .base
 | .builtin i::tl,h=>by have e:(fj i::tl)=bmV:=beq_iff_eq.mp h; rw[e]; exact .base
def zYq(K:ae)(C:ag):Bool:=match K.lookup C with
 | some ⟨.type "type", _,.cls cd,sl⟩=>(match cd.mro,sl.toList with
  | .ref C'::bm,[_,_,_,_,some (.builtin n),_]=>C' == C&&(!cd.hasDel&&(n == "ValueError.__new__" && (zMj K cd.ns&&zMb K bm)))
  | _,_=>false)
 | _=>false
theorem xP{K:ae}{B:aV}{C:ag}{x:aC}{mg:aC->Option af}(X:K.In B)(hm:mg x=some (.ref C))(q:zYq K C=true):a9 x C bmV "ValueError.__new__" mg B:=by
 unfold zYq at q;split at q
 ·rename_i dd cd sl ho
  split at q
  ·rename_i C' bm k0 k1 k2 k3 n k5 hm' hs
   simp only[aY,beq_iff_eq,Bool.not_eq_true'] at q;obtain⟨rfl,hdel,rfl,hi,ht⟩:=q;obtain⟨nm,bs,mro,ns,qn,hd,sn,sub,ab,col,del⟩:=cd;dsimp only at hm' hdel hi;subst hm' hdel;have hsl:sl = #[k0,k1,k2,k3,some (.builtin "ValueError.__new__"),k5]:=by
    obtain⟨l⟩:=sl;simp only at hs;rw[hs]
   subst hsl;obtain⟨m,h1,h2⟩:=zJc X hi;exact⟨hm,bm,ns,nm,qn,bs,hd,sn,sub,ab,col,dd,k0,k1,k2,k3,k5,m,X _ _ ho,h1,h2,zIq X ht⟩
  ·cases q
 ·cases q
theorem zMf{F K:ae}{a:ag} : bA a (F++K)=match bA a F with | some o=>some o | none=>bA a K:=by
 induction F with
 | nil=>rfl
 | cons e F ih =>
  rw[kH,a6,a6];cases a == e.1 with
  | true=>rfl
  | false=>exact ih
theorem zH1:∀{F:ae}{a:ag}{o:cA},bA a F=some o->(a,o)∈F
 | [],_,_,h=>by cases h
 | (b,u)::F,a,o,h=>by
  rw[a6] at h;cases z:a == b with
  | true =>
   rw[z] at h;cases h;rw[beq_iff_eq.mp z];exact .head _
  | false =>
   rw[z] at h;exact .tail _ (zH1 h)
theorem zTx{F K:ae}{h:aV}(n:(F.map (·.1)).all (λa=>(bA a K).isNone)=true)(X:bM (F++K) h):bM K h:=λa o q=>X a o (by
 rw[zMf];cases z:bA a F with
 | none=>exact q
 | some u =>
  have m:a∈F.map (·.1):=aD.mpr ⟨(a,u),zH1 z,rfl⟩;have:=br.mp n a m;rw[q] at this;cases this)
theorem zPl{F K:ae}{a:ag}{o:cA}(n:(F.map (·.2.cls)).all (λc=>!(c == .type "list"))=true)(h:bA a (F++K)=some o)(c:o.cls=.type "list"):bA a K=some o:=by
 rw[zMf] at h;cases z:bA a F with
 | none=>rw[z] at h; exact h
 | some u =>
  rw[z] at h;have h:some u=some o:=h;injection h with h
  subst h;have:=br.mp n u.cls (aD.mpr ⟨(a,u),zH1 z,rfl⟩);rw[c] at this;simp at this
theorem walk_of3{l:iM}{n k:Nat}{q:aL}{loose:List aC}{XP:(aC->Option af)->aV->Prop}{YP:aT->aV->Prop}{d:DefRec}{KK:eE->ae}{K:ae}{sp:Sp}{x:aC}
  (hn:l.most=some n) (hn2:n<=sizeLine) (hdf:d.params.defaults=[]) (hr:rN k callerA)
  (hY:∀(w:aT)(h:aV),YP w h->(KK w.params).In h) (sub:∀(p:eE)(h:aV),(KK p).In h->K.In h) (past:∀(p:eE)(a:ag)(o:cA),bA a (KK p)=some o->o.cls=.type "list" -> bA a K=some o)
  (F:∀(w:aT)(mg:aC->Option af)(fa:ag)(h:aV),(KK w.params).In h->h.Ns mainGlobals mg->mg d.name=some (.ref fa) ->
   ∃ fd:bJ,(∀(s:ai)(u:af),ix s fd ⟨[u],[]⟩ [(x,u)]) /\
    ∀ base:aV,(KK w.params).In base->base.Ns mainGlobals mg->xJ l.prog w K mg base CX0 k fa fd [x] sp)
  (hsp:∀(H:Hp)(a:ag)(ns:List Int),ns.length<=n->SqL K H a (ns.map V.int)->sp [.ref a] H (λv _=>v=.bl true) λ_ _ _=>False) :
  mH q loose XP YP l.row.toRowW d [] (λf vs=>lC f vs):=by
 refine Att.attach_call hn hdf λw s₀ s₁ mg mb fa o pm cd doc a vs ns G Y ho hd hcd hmg hobj hints hlen hg=>?_;have KX:=hY w _ Y;obtain⟨fd,hb,hF⟩:=F w mg fa _ KX G.T.g hmg;refine zSd (K:=KK w.params) KX G.T.g G.T.b G.T.builtins G.T.nolimit hg hobj hints (aO hlen hn2) hr (λbase hK hN=>(hF base hK hN).withK (sub _ _ hK)) hb (λH hO hS=>hsp H a ns hlen ?_) λH e s' z=>z;rcases hS with h | ⟨o,its,n,h1,h2,h3⟩
 ·exact .inl h
 ·exact .inr ⟨o,its,n,past _ _ _ h1 h2,h2,h3⟩
end L2

namespace Sea
open PySem L2
section
variable{H:Hp}{v:V}
theorem zHm{n:aC}{x y:Int}(h:Rep H (Deed.move n x y).dt v):∃ a,v=.ref a/\H a=some (.tup [.str "move", .str n,.int x,.int y]):=by
 obtain⟨a,xs,e,h1,h2⟩:=yD.mp h;obtain⟨_,_,rfl,k1,h2⟩:=zL.mp h2;obtain⟨_,_,rfl,k2,h2⟩:=zL.mp h2;obtain⟨_,_,rfl,k3,h2⟩:=zL.mp h2;obtain⟨_,_,rfl,k4,h2⟩:=zL.mp h2;rw[zW.mp k1,zW.mp k2,yF.mp k3,yF.mp k4,yA.mp h2] at h1;exact⟨a,e,h1⟩
theorem rJ{n:aC}(h:Rep H (Deed.unmark n).dt v):∃ a,v=.ref a/\H a=some (.tup [.str "unmark", .str n]):=by
 obtain⟨a,xs,e,h1,h2⟩:=yD.mp h;obtain⟨_,_,rfl,k1,h2⟩:=zL.mp h2;obtain⟨_,_,rfl,k2,h2⟩:=zL.mp h2;rw[zW.mp k1,zW.mp k2,yA.mp h2] at h1;exact⟨a,e,h1⟩
theorem zAf{n:aC}(h:Rep H (Deed.level n).dt v):∃ a,v=.ref a/\H a=some (.tup [.str "level", .str n]):=by
 obtain⟨a,xs,e,h1,h2⟩:=yD.mp h;obtain⟨_,_,rfl,k1,h2⟩:=zL.mp h2;obtain⟨_,_,rfl,k2,h2⟩:=zL.mp h2;rw[zW.mp k1,zW.mp k2,yA.mp h2] at h1;exact⟨a,e,h1⟩
theorem zD9{k x y:Int}(h:Rep H (Deed.right k x y).dt v):∃ a,v=.ref a/\H a=some (.tup [.str "right", .int k,.int x,.int y]):=by
 obtain⟨a,xs,e,h1,h2⟩:=yD.mp h;obtain⟨_,_,rfl,k1,h2⟩:=zL.mp h2;obtain⟨_,_,rfl,k2,h2⟩:=zL.mp h2;obtain⟨_,_,rfl,k3,h2⟩:=zL.mp h2;obtain⟨_,_,rfl,k4,h2⟩:=zL.mp h2;rw[zW.mp k1,yF.mp k2,yF.mp k3,yF.mp k4,yA.mp h2] at h1;exact⟨a,e,h1⟩
structure zZg(H:Hp)(cs:List (Int×Int))(ps:List Pr):Prop where
 mk ::
 pt:ps.map (·.2)=cs
 at_:∀ t∈ps,H t.1=some (.tup [.int t.2.1,.int t.2.2])
theorem zG0:∀{cs:List (Int×Int)}{xs:List V},xX H (cs.map ptD) xs->∃ ps:List Pr,xs=wQ ps/\zZg H cs ps
 | [],_,h=>⟨[],yA.mp h,rfl,λt ht=>(nomatch ht)⟩
 | c::cs,_,h=>by
  obtain⟨x,r,rfl,h1,h2⟩:=zL.mp h;obtain⟨a,rfl,ha⟩:=zAx h1;obtain⟨ps,rfl,e,h3⟩:=zG0 h2;refine⟨(a,c)::ps,rfl,by rw[aM,e],λt ht=>?_⟩;rcases aI.mp ht with z | z
  ·rw[z]; exact ha
  ·exact h3 t z
theorem zA9{n:aC}{cs:List (Int×Int)}(h:Rep H (Deed.bank n cs).dt v):∃(a c:ag)(ps:List Pr),v=.ref a/\H a=some (.tup [.str "bank", .str n,.ref c])/\H c=some (.tup (wQ ps))/\zZg H cs ps/\Rep H (.tup (cs.map ptD)) (.ref c):=by
 obtain⟨a,xs,e,h1,h2⟩:=yD.mp h;obtain⟨_,_,rfl,k1,h2⟩:=zL.mp h2;obtain⟨_,_,rfl,k2,h2⟩:=zL.mp h2;obtain⟨_,_,rfl,k3,h6⟩:=zL.mp h2;obtain⟨c,ys,rfl,h3,h4⟩:=yD.mp k3;obtain⟨ps,rfl,h5⟩:=zG0 h4;have e6:=yA.mp h6;rw[zW.mp k1,zW.mp k2,e6] at h1;exact⟨a,c,ps,e,h1,h3,h5,k3⟩
end
theorem zYw{ps:List Pr} : isB ps=zKn (ps.map (·.2)):=by
 have e:∀ i,ptA ((ps.map (·.2)).map λc=>((0,c):ag×Int×Int)) i=ptA ps i:=λi=>by
  unfold ptA;rw[av,av];cases ps[i]? <;> rfl
 have l:((ps.map (·.2)).map λc=>((0,c):ag×Int×Int)).length=ps.length:=by rw[ac,ac]
 unfold zKn isB tT zPm;simp only[e,l]
theorem zQa{S:BS}{n:aC}{x y:Int}(h:(zM S n).isSome=true):zT8 (mkE S.marks) (.inr n) (ptD (x,y))=mkE (aft S (.move n x y)).marks:=by
 have any:(mkE S.marks).any (λe=>decide (e.1=.inr n))=true:=by
  obtain⟨p,e⟩:=aP.mp h;exact fQ.mpr ⟨(.inr n,ptD p),aD.mpr ⟨(n,p),zGy e,rfl⟩,by simp⟩
 unfold zT8;rw[if_pos any];show _=mkE (S.marks.map _);unfold mkE;rw[bw,bw];refine jl λe _=>?_;show(if (dW e.1:Key)=dW n then((dW e.1:Key),ptD (x,y)) else(dW e.1,ptD e.2))=_;by_cases z:e.1=n
 ·rw[if_pos (by rw[z])];show _=((dW (if e.1=n then(e.1,x,y) else e).1:Key),ptD (if e.1=n then(e.1,x,y) else e).2);rw[if_pos z]
 ·rw[if_neg (λq=>z (kO q))];show _=((dW (if e.1=n then(e.1,x,y) else e).1:Key),ptD (if e.1=n then(e.1,x,y) else e).2);rw[if_neg z]
theorem zMo(l:List (aC×Int×Int))(n:aC):zJy (mkE l) (.inr n)=mkE (l.filter λe=>decide (e.1≠n)):=by
 unfold zJy mkE;rw[iK]
 congr 1
 refine hV λe _=>?_;simp
theorem zHu(l:List (aC×List (Int×Int))):(bkE l).length=l.length:=by unfold bkE; rw[ac]
theorem zQg(l:List (aC×List (Int×Int)))(n:aC)(cs:List (Int×Int)):bkE (l++[(n,cs)])=bkE l++[(.inr n,.tup (cs.map ptD))]:=by
 unfold bkE;rw[aA];rfl
theorem zL9(l:List (aC×List (Int×Int)))(n:aC):zJy (bkE l) (.inr n)=bkE (l.filter λe=>decide (e.1≠n)):=by
 unfold zJy bkE;rw[iK]
 congr 1
 refine hV λe _=>?_;simp
theorem zG4{l:List (aC×List (Int×Int))}{n:aC}(h:n ∉ l.map (·.1)):∀ e∈bkE l,e.1≠.inr n:=λe he z=>by
 unfold bkE at he;obtain⟨q,hq,rfl⟩:=aD.mp he;exact h (aD.mpr ⟨q,hq,kO z⟩)
theorem zDy{es:List (Key×Dt)}{k:Key}(h:∀ e∈es,e.1≠k):look es k=none:=by
 unfold look;rw[fH,dG];exact λe he z=>h e he (of_decide_eq_true z)
theorem zVg{es:List (Key×Dt)}{k:Key}(h:k∈es.map (·.1)):∃ d,look es k=some d:=by
 obtain⟨e,he,rfl⟩:=aD.mp h;unfold look;cases q:es.find? λx=>decide (x.1=e.1) with
 | none=>exact absurd (dG.mp q e he) (by simp)
 | some x=>exact⟨x.2,rfl⟩
theorem zUt{l:List (aC×List (Int×Int))}{n:aC}(h:n∈l.map (·.1)):∃ d,look (bkE l) (.inr n)=some d:=zVg (by
 obtain⟨e,he,rfl⟩:=aD.mp h;exact aD.mpr ⟨_,aD.mpr ⟨e,he,rfl⟩,rfl⟩)
theorem zT9:∀{l:List (Int×Int)}{k i:Nat}{p:Int×Int},((l.zipIdx k).map λe=>((.inl (e.2:Int):Key),ptD e.1)).map (λe=>if e.1=.inl ((k+i:Nat):Int) then(e.1,ptD p) else e)=((l.set i p).zipIdx k).map λe=>((.inl (e.2:Int):Key),ptD e.1)
 | [],_,_,_=>rfl
 | q::l,k,0,p=>by
  rw[List.set_cons_zero,c9,c9,aM,aM,aM,if_pos (by rfl)]
  congr 1
  rw[jl (g:=id),List.map_id];intro e he;obtain⟨u,hu,rfl⟩:=aD.mp he;rw[if_neg]
  ·rfl
  intro z;injection z with z
  have:=List.le_snd_of_mem_zipIdx hu;simp at z;lia
 | q::l,k,i+1,p=>by
  have ih:=zT9 (l:=l) (k:=k+1) (i:=i) (p:=p);rw[show k+1+i=k+(i+1) by lia] at ih;rw[List.set_cons_succ,c9,c9,aM,aM,aM,ih,if_neg];intro z;injection z with z
  simp at z;lia
theorem zV7{l:List (Int×Int)}{i:Nat}{p:Int×Int}(h:i<l.length):zT8 (rnE l) (.inl (i:Int)) (ptD p)=rnE (l.set i p):=by
 have e:=zHk (k:=0) (aj h);rw[iC] at e;have any:(rnE l).any (λe=>decide (e.1=.inl (i:Int)))=true:=by
  cases q:(rnE l).any (λe=>decide (e.1=.inl (i:Int))) with
  | true=>rfl
  | false =>
   have:=zDy (es:=rnE l) (k:=.inl (i:Int)) λe he z=>by
    have:=jJ.mp q e he;simp[z] at this
   rw[show look (rnE l) (.inl (i:Int))=_ from e] at this;cases this
 unfold zT8;rw[if_pos any];have:=zT9 (l:=l) (k:=0) (i:=i) (p:=p);rw[iC] at this;exact this
theorem xX.set{H:Hp}{d:Dt}{v:V}(h:Rep H d v):∀{l:List Dt}{xs:List V}(i:Nat),xX H l xs->xX H (l.set i d) (xs.set i v)
 | [],_,i,q=>by rw[yA.mp q]; exact yA.mpr rfl
 | d'::l,_,0,q=>by
  obtain⟨x,r,rfl,h1,h2⟩:=zL.mp q;exact zL.mpr ⟨v,r,rfl,h,h2⟩
 | d'::l,_,i+1,q=>by
  obtain⟨x,r,rfl,h1,h2⟩:=zL.mp q;exact zL.mpr ⟨x,_,rfl,h1,xX.set h i h2⟩
theorem zY8{n i:Nat}(h:i<n):ixN n (i:Int)=some i:=by
 unfold ixN;simp;lia
end Sea

namespace L2
open PySem PySem.Spec PyProof.Rows
def isS(n:aC):V->Bool
 | .str z=>z == n
 | _=>false
def rInM(K:ae):R2:=λx y H Q=>∃(p:ag)(xs:List V)(n:aC),y=.ref p/\x=.str n/\SqT K H p xs/\(∀ v∈xs,(∃ z,v=.str z)\/∃ a ys,v=.ref a/\SqT K H a ys)/\Q (.bl (xs.any (isS n))) H
section
variable{X:Cx}
theorem zQ6(hu:X.A.units+1<cLine):OpR X (compareOp .In) (rInM X.K):=by
 intro pins s σ H x y v u Q I rx ry h;obtain⟨p,xs,n,rfl,rfl,hq,ok,q⟩:=h;cases ry;obtain⟨t,rfl⟩:=rx;obtain⟨its,r,pl,hz⟩:=I.tuple hq;have key:∀{xs:List V}{us:List af},yY xs us->(∀ v∈xs,(∃ z,v=.str z)\/∃ a ys,v=.ref a/\SqT X.K H a ys)->(∀ u∈us,jA X.A.in1 s u (.str n t) (eqU (.str n) u))/\us.any (eqU (.str n))=xs.any (isS n):=by
  intro xs us hv
  induction hv with
  | nil=>exact λ_=>⟨λu hu=>(nomatch hu),rfl⟩
  | @cons y u xs us r _ ih =>
   intro ok;obtain⟨h1,h2⟩:=ih λv hv=>ok v (.tail _ hv);rcases ok y (.head _) with ⟨z,rfl⟩ | ⟨a,ys,rfl,ha⟩
   ·obtain⟨t',rfl⟩:=r;refine⟨λw hw=>?_,by rw[cH,cH,h2]; rfl⟩;rcases aI.mp hw with rfl | hw
    ·exact jC z t' n t
    ·exact h1 w hw
   ·cases r;obtain⟨_,_,pa,_⟩:=I.tuple ha;refine⟨λw hw=>?_,by rw[cH,cH,h2]; rfl⟩;rcases aI.mp hw with rfl | hw
    ·exact SeqAt.EqAt.tuple_str n t pa hu
    ·exact h1 w hw
 obtain⟨h1,h2⟩:=key r ok;refine kz (eqU (.str n)) pl (λw hw=>h1 w (by simpa using hw)) ⟨.bl _,H,I,rfl,?_⟩;rw[show its.toArray.any (eqU (.str n))=its.any (eqU (.str n)) by simp,h2];exact q
end
theorem Same.seqT{K:ae}{H H':Hp}{a:ag}{xs:List V}(e:Same H H')(h:SqT K H a xs):SqT K H' a xs:=by
 rcases h with (h | ⟨o,h⟩) | h
 ·exact .inl (.inl (e _ _ h))
 ·exact .inl (.inr ⟨o,e _ _ h⟩)
 ·exact .inr h
theorem Same.sq{K:ae}{H H':Hp}{l:ag}{xs:List V}(s:Same H H')(h:Sq K H l xs):Sq K H' l xs:=by
 rcases h with h | h
 ·exact .inl (s.seq h)
 ·exact .inr (s.seqT h)
end L2

namespace Sea
open PySem L2
mutual
def zBi:Dt->List aC
 | .int i=>[bH (toString i)]
 | .str x=>[x]
 | .tup l=>qW l
def qW:List Dt->List aC
 | []=>[]
 | d::l=>zBi d++qW l
end
def zHr:Nat->Dt->Prop
 | _,.int i=>i.natAbs.log2<1920
 | _,.str x=>x.length<=1921
 | 0,.tup _=>False
 | n+1,.tup l=>l.length<=900/\∀ d∈l,zHr n d
mutual
theorem zRi:∀(n:Nat)(d:Dt),zHr n d->∀ w∈zBi d,w.length<=1921
 | n,.int i,h,w,hw=>by
  have h:i.natAbs.log2<1920:=by cases n <;> exact h
  rw[zBi] at hw;rw[aw.mp hw,eG];exact int_text_length_le (k:=1920) (by decide) h
 | n,.str x,h,w,hw=>by
  have h:x.length<=1921:=by cases n <;> exact h
  rw[zBi] at hw;rw[aw.mp hw];exact h
 | 0,.tup _,h,_,_=>h.elim
 | n+1,.tup l,h,w,hw=>by
  rw[zBi] at hw;exact zGw n l h.2 w hw
theorem zGw:∀(n:Nat)(l:List Dt),(∀ d∈l,zHr n d)->∀ w∈qW l,w.length<=1921
 | _,[],_,w,hw=>by rw[qW] at hw; exact nomatch hw
 | n,d::l,h,w,hw=>by
  rw[qW] at hw;rcases aN.mp hw with z | z
  ·exact zRi n d (h d (.head _)) w z
  ·exact zGw n l (λd hd=>h d (.tail _ hd)) w z
end
mutual
def qF:Dt->List Dt
 | .int i=>[.int i]
 | .str x=>[.str x]
 | .tup l=>sS l
def sS:List Dt->List Dt
 | []=>[]
 | d::l=>qF d++sS l
end
def w1:Dt->aC
 | .int i=>bH (toString i)
 | .str x=>x
 | .tup _=>mL
mutual
theorem zI0:∀ d:Dt,zBi d=(qF d).map w1
 | .int i=>by rw[zBi,qF]; rfl
 | .str x=>by rw[zBi,qF]; rfl
 | .tup l=>by rw[zBi,qF]; exact zBt l
theorem zBt:∀ l:List Dt,qW l=(sS l).map w1
 | []=>by rw[qW,sS]; rfl
 | d::l=>by rw[qW,sS,aA,zI0 d,zBt l]
end
mutual
theorem zQ0:∀(n:Nat)(d:Dt),zHr n d->∀ e∈qF d,zHr 0 e
 | n,.int i,h,e,he=>by
  rw[qF] at he;rw[aw.mp he];cases n <;> exact h
 | n,.str x,h,e,he=>by
  rw[qF] at he;rw[aw.mp he];cases n <;> exact h
 | 0,.tup _,h,_,_=>h.elim
 | n+1,.tup l,h,e,he=>by
  rw[qF] at he;exact zGr n l h.2 e he
theorem zGr:∀(n:Nat)(l:List Dt),(∀ d∈l,zHr n d)->∀ e∈sS l,zHr 0 e
 | _,[],_,e,he=>by rw[sS] at he; exact nomatch he
 | n,d::l,h,e,he=>by
  rw[sS] at he;rcases aN.mp he with z | z
  ·exact zQ0 n d (h d (.head _)) e z
  ·exact zGr n l (λd hd=>h d (.tail _ hd)) e z
end
end Sea

namespace Sea
open PySem L2
theorem zRz{n:Nat}{x:aC}(h:x.length<=8):zHr n (.str x):=by
 have:x.length<=1921:=by lia
 cases n <;> exact this
theorem zBz{n:Nat}{l:List Dt}(h:l.length<=900)(g:∀ d∈l,zHr n d):zHr (n+1) (.tup l):=⟨h,g⟩
structure Tame(S:BS)(k:Nat):Prop where
 mk ::
 ma:∀ e∈S.marks,wC e.1
 ba:∀ e∈S.banks,wC e.1
 ru:S.runs.length<=k
 no:∀ e∈S.notes,0<=e.1/\e.1<=S.coming
 co:0<=S.coming/\S.coming<=1+k
theorem dt2{P:Dt->Prop}{a b:Dt}(h1:P a)(h2:P b):∀ d∈[a,b],P d:=λd hd=>by
 rcases aI.mp hd with rfl | hd
 ·exact h1
 ·rw[aw.mp hd]; exact h2
theorem dt3{P:Dt->Prop}{a b c:Dt}(h1:P a)(h2:P b)(h3:P c):∀ d∈[a,b,c],P d:=λd hd=>by
 rcases aI.mp hd with rfl | hd
 ·exact h1
 ·exact dt2 h2 h3 d hd
theorem dt4{P:Dt->Prop}{a b c e:Dt}(h1:P a)(h2:P b)(h3:P c)(h4:P e):∀ d∈[a,b,c,e],P d:=λd hd=>by
 rcases aI.mp hd with rfl | hd
 ·exact h1
 ·exact dt3 h2 h3 h4 d hd
def Bd(S:BS)(B:Nat):Prop:=∀ e∈S.marks,e.2.1.natAbs<=B/\e.2.2.natAbs<=B
structure GrowD(S:BS)(D:Deed)(B:Nat):Prop where
 mk ::
 ok:okD S D
 bd:Bd (aft S D) (B+5)
 lo:S.marks.length<=(aft S D).marks.length
 hi:(aft S D).marks.length<=S.marks.length+1
 bk:(aft S D).banks=S.banks
theorem wE.over{φ:ag->Prop}{H H1 H2:Hp}{D:ag}(s:wE φ H H1)(t:wE (λx=>x=D) H1 H2)(n:H1 D=none):wE φ H H2:=λx o hx e=>by
 rcases s x o hx e with e1 | ⟨ob,kvs,e0,e1⟩
 ·exact t x o (λz=>by rw[z,n] at e1; cases e1) e1
 ·subst e0;rcases t x _ (λz=>by rw[z,n] at e1; cases e1) e1 with e2 | ⟨_,_,z,_⟩
  ·exact .inr ⟨ob,kvs,rfl,e2⟩
  ·cases z
theorem zLt{φ:ag->Prop}{H H':Hp}{a:ag}{o:cA}{u:HO}(s:wE φ H H')(n:¬ φ a)(e:H a=some (.frz o u)):H' a=some (.frz o u):=by
 rcases s a _ n e with z | ⟨_,_,z,_⟩
 ·exact z
 ·cases z
end Sea

namespace L2
open PySem PySem.Spec PyProof.Rows
theorem zNt{P:aL}{w:aT}{H:Hp}{h:aV}{x:ag}{cls:af}(ok:xL P w H h x (zTy x cls)):zJ1 h x:=by
 obtain⟨⟨ob,vs,h1,_,_,h4,h5⟩,_⟩:=ok;exact⟨ob,vs,h1,h4,h5⟩
def Exc(H:Hp)(x:ag):Prop:=∃ cls,H x=some (zTy x cls)
section
variable{X:Cx}{pos:fg}
theorem Inv.alone{pins:List (ag×cA)}{σ:St}{H:Hp}{s:ai}{x:ag}(I:Inv X pins σ H s)(e:Exc H x):zJ1 s.heap x:=let ⟨_,h⟩:=e; zNt (I.hok x _ h)
def gTupH(K:ae)(x:ag)(n:Nat)(t:TGs):TG:=λv σ H Q=>Exc H x/\gTup K n t v σ H Q
theorem zWo{es:List bj}{k:Nat}{t:TGs}{n:Nat}{x:ag}(hc:X.A.handled=some (.ref x))(h:PGs X es t)
  (hn:(assignEach es X.env).length=n:=by rfl) (hst:(assignEach es X.env).findIdx? (·.1)=none:=by rfl):PG X (.Tuple es k pos) (gTupH X.K x n t):=by
 intro pins s σ H v u Q I r hw;obtain⟨ex,a,xs,e1,hq,hl,hw⟩:=hw;subst e1;cases r;obtain⟨its,rv,ht,hz⟩:=I.tuple hq;refine zHa hc (I.alone ex) ht (by simp[hn,<- hl,rv.length]) hst λh' hx=>?_;have I1:Inv X pins σ H { s with heap:=h' }:=I.kept (t':=s.toks) λb o e=>hx b o (aQ (az e)) e;exact h pins _ σ H xs _ Q I1 (by simpa using rv) hw
end
def Itx(K:ae)(a x:ag):It:=⟨(Itl K a).go,(Itl K a).yld,λi H=>(Itl K a).stop i H/\Exc H x⟩
section
variable{X:Cx}{pins:List (ag×cA)}{s:ai}{σ:St}{H:Hp}{a it x:ag}{i:Nat}{tg:bj}{E:af->ai->Prop}
theorem zO4{h:aV}(st:h.IsListIter it a i):∀ b∈[it],∃ o,h.get? b=some o/\∀ v,o.data≠.cell v:=λb hb=>by
 rw[aw.mp hb];obtain⟨o,e,c,d⟩:=st;exact⟨o,e,λv z=>by rw[d] at z; cases z⟩
theorem zP9{h h':aV}(st:h.IsListIter it a i)(k:∀ b∈[it],∀ o,h.get? b=some o->h'.get? b=some o):h'.IsListIter it a i:=st.at λo e=>k it (by simp) o e
theorem zU6(I:Inv X pins σ H s)(hf:∀ b∈[it],zLa X pins H b)(st:s.heap.IsListIter it a i)(hg:(Itx X.K a x).go i H) :
  wpAny (model X.prog X.w) X.A (pyNext (.ref it)) (λr s1=>∃ u,r=some u /\
   wpAny (model X.prog X.w) X.A (letOwnedTupleGo tg (.ref it) u) (λ_ s2=>∃ y H',Inv X pins σ H' s2/\xI y u/\(Itx X.K a x).yld i H y H'/\s2.heap.IsListIter it a (i+1)/\∀ b∈[it],H' b=none) E s1) E s:=by
 obtain⟨xs,y,hq,hy⟩:=hg;obtain⟨its,rv,p,hz⟩:=I.list hq;obtain⟨u,hu,ru⟩:=rv.get hy;obtain⟨f0,f1,f2,f3,f4,f5⟩:=hf it (by simp);refine ir st p.isList (x:=u) (by simpa using hu) λh' st' sb=>?_;have I1:Inv X pins σ H { s with heap:=h' }:=I.turned (t':=s.toks) (λb o hb e=>(sb.2 b hb).trans e) f0 f1 f3 f4 f5;obtain⟨o,e,c,d⟩:=id st';exact⟨u,rfl,zOa (s:={ s with heap:=h' }) e c d (by decide) ⟨y,H,I1,ru,⟨rfl,λys hy'=>by rw[I.list_inj hy' hq]; exact hy⟩,st',λb hb=>(hf b hb).1⟩⟩
theorem zWc(hc:X.A.handled=some (.ref x))(I:Inv X pins σ H s)(hf:∀ b∈[it],zLa X pins H b)(st:s.heap.IsListIter it a i)(hg:(Itx X.K a x).stop i H) :
  wpAny (model X.prog X.w) X.A (pyNext (.ref it)) (λr s1=>r=none/\Inv X pins σ H s1) E s:=by
 obtain⟨⟨xs,hq,hy⟩,ex⟩:=hg;obtain⟨its,rv,p,hz⟩:=I.list hq;obtain⟨f0,f1,f2,f3,f4,f5⟩:=hf it (by simp);have hl:=rv.length;have hxi:x≠it:=λz=>by
  obtain⟨cls,e⟩:=ex;rw[z,f0] at e;cases e
 exact zF1 hc (I.alone ex) hxi st p.isList (by simp; lia) λh' eb=>⟨rfl,I.turned (t':=s.toks) (λb o hb e=>eb b o hb e) f0 f1 f3 f4 f5⟩
end
def PIH(X:Cx)(x:ag)(iter:bj)(wi:TI):Prop:=∀(pins:List (ag×cA))(s:ai)(σ:St)(H:Hp)(R:It->Hp->Prop),Inv X pins σ H s->wi σ H R ->
 wpAny (model X.prog X.w) X.A (eval iter X.env) (λv s1=>wpAny (model X.prog X.w) X.A (pyIter v) (λitv s2=>∃(it a:ag)(H':Hp),itv=.ref it/\Inv X pins σ H' s2/\s2.heap.IsListIter it a 0/\(∀ b∈[it],zLa X pins H' b)/\R (Itx X.K a x) H') X.xe s1) X.xe s
def zYx(K:ae)(x:ag)(tl:TE):TI:=λσ H R=>tl σ H λv H1=>∃ a,v=.ref a/\(∃ xs,SqL K H1 a xs)/\R (Itx K a x) H1
section
variable{X:Cx}
theorem zSx{l:bj}{tl:TE}(x:ag)(hl:PE X l tl):PIH X x l (zYx X.K x tl):=by
 intro pins s σ H R I h;refine thn (hl pins s σ H _ I h) λv s1 ⟨y,H1,I1,r1,q1⟩=>?_;obtain⟨a,e,⟨xs,hq⟩,q⟩:=q1;subst e;cases r1;obtain⟨its,rv,p,hz⟩:=I1.list hq;refine dP p.isList ?_;refine⟨s1.heap.objs.size,a,H1,rfl,I1.kept (t':=s1.toks) λb o e=>ah _ e,⟨_,ap _ rfl,rfl,rfl⟩,λb hb=>?_,q⟩;rw[aw.mp hb];exact I1.fpOk (am _) (I1.hok.fresh (am _))
end
section
variable{X:Cx}{T:List aC}{caps:List (aC×Nat)}{scope:fu}{elt target iter:bj}{ifs:List bj}{pos:fg}{wi:TI}{g:CC->TG}{tt:CC->TT}{te:CC->TE}
theorem zR0{x:ag}(S:qP X caps scope)(hc:X.A.handled=some (.ref x))(hi:PIH X x iter wi)(hg:∀ c,PG (uE X (T++caps.map (·.1)) scope c) target (g c))(ht:∀ c,zZj (uE X (T++caps.map (·.1)) scope c) ifs (tt c))(he:∀ c,PE (uE X (T++caps.map (·.1)) scope c) elt (te c))
  (hs:∀ x,foldedSetIterable iter X.env x=pure x:=by intro _; rfl):PE X (.ListComp elt [⟨target,iter,ifs,0⟩] scope pos) (zXg T.length caps wi g tt te):=by
 intro pins s σ H Q I h;rw[eval_ListComp];refine ic (use:=none) rfl hs (zQu S.cells) S.kind S.loc (thn (hi pins s σ H _ I h) λv s1 h1=>thn h1 λitv s2 h2=>?_);obtain⟨it,a,H2,e,I2,st2,f2,q2⟩:=h2;subst e;refine aW (i4 S.nocell (by intro y hy; simp at hy) (λh1 hn hsb=>?_) S.kind);dsimp only at hn hsb ⊢;generalize hg2:s2.heap.push { cls:=.type "list", dict:=none,data:=.seq ([]:List af).toArray }=G at hn hsb ⊢;have hCv:G.objs.size=s2.heap.objs.size+1:=by rw[<- hg2,dh]
 have hDC:G.objs.size≠s2.heap.objs.size:=by rw[hCv]; exact kC _
 have hCle:s2.heap.objs.size<=G.objs.size:=by rw[hCv]; exact fv _
 have old:∀ b o,s2.heap.get? b=some o->h1.get? b=some o:=λb o e=>hsb.extBut b o (aQ (aR (az e) hCle)) (ah _ (hg2 ▸ ah _ e));have hacc:∃ n,h1.get? s2.heap.objs.size=some { cls:=.type "list", data:=.seq ([]:List af).toArray n }:=⟨_,hsb.extBut _ _ (cw hDC) (ah _ (hg2 ▸ ap _ rfl))⟩;have hfp:∀ b∈[it],b<s2.heap.objs.size:=λb hb=>by
  obtain⟨o,e,_⟩:=zO4 st2 b hb;exact az e
 have cs:=rV (env:=X.env) scope.names [] S.cells (λ_ _ z=>by cases z);have I0:=zG3 (T:=T) (tk:=s2.toks+([]:List (aC×af)).length) S I2 f2 hfp (am _) hCle hDC old hacc hn;have st0:h1.IsListIter it a 0:=zP9 st2 λb _ o e=>old b o e;obtain⟨W,⟨m0,w0⟩,turn⟩:=q2 ⟨G.objs.size,s2,H2,[it]⟩ s2.heap.objs.size (I2.hok.fresh (am _));have fr0:∀ b∈[it],upd H2 s2.heap.objs.size (.lst []) b=none:=λb hb=>by
  rw[zG (aQ (hfp b hb))];exact(f2 b hb).1
 have stat:∀{H':Hp},(∀ b∈[it],H' b=none)->∀ b∈[it],zLa (uE X (T++caps.map (·.1)) scope ⟨G.objs.size,s2,H2,[it]⟩) [] H' b:=λ{H'} hn' b hb =>
  ⟨hn' b hb,aQ (aR (hfp b hb) hCle),I0.ok.exfs b hb,.inl hb,λx c e=>(f2 b hb).2.2.2.2.1 x c (cs x c e),λp hp=>absurd (show p∈([]:List (ag×cA)) from hp) (by simp)⟩
 have loop:codeAny (model X.prog X.w) X.A (.compLoop (.ListComp elt [⟨target,iter,ifs,0⟩] scope pos) 0 (.ref it) (.ref s2.heap.objs.size) (compEnvC scope (zBp X.env scope.names []) G.objs.size X.env))
   (compPost (model X.prog X.w) X.A X.xe none (EP X pins σ Q) (.ref s2.heap.objs.size) G.objs.size) { s2 with heap:=h1,toks:=s2.toks+([]:List (aC×af)).length }:=by
  refine codeAny_loop rfl (λn s'=>∃ i σ' ys H',Inv (uE X (T++caps.map (·.1)) scope ⟨G.objs.size,s2,H2,[it]⟩) [] σ' H' s'/\s'.heap.IsListIter it a i/\(∀ b∈[it],H' b=none)/\W i n σ' ys H') (λn s3 hI=>?_) m0 ⟨0,_,[],_,I0,st0,fr0,w0⟩;obtain⟨i,σ3,ys,H3,I3,st3,fr3,w3⟩:=hI;show wpAny _ X.A ((compTurn (.ListComp elt [⟨target,iter,ifs,0⟩] scope pos) 0 (.ref it) (.ref s2.heap.objs.size) (compEnvC scope (zBp X.env scope.names []) G.objs.size X.env)).onRaise (λx=>do noteFrame x (compEnvC scope (zBp X.env scope.names []) G.objs.size X.env); theTreesLotGoes x)) _ _ s3;refine wpAny_noted ?_;rw[compTurn_list];refine aa (hZ (aa ?_));obtain⟨hD3,turn3⟩:=turn i n σ3 ys H3 w3;rcases turn3 with ⟨stop,qn⟩ | ⟨go,N,hN,step⟩
  ·refine zMt (zWc (X:=uE X (T++caps.map (·.1)) scope ⟨G.objs.size,s2,H2,[it]⟩) hc I3 (stat fr3) st3 stop) λr s4 ⟨hr,I4⟩=>?_;subst hr;refine ak ?_;show ∃ m,s4.heap.Ns G.objs.size m/\∀ h',cP G.objs.size s4.heap h'->EP X pins σ Q (.ref s2.heap.objs.size) { s4 with heap:=h' };obtain⟨m4,hn4,_⟩:=I4.loc;refine⟨m4,hn4,λh' sb=>⟨.ref s2.heap.objs.size,H3,?_,rfl,qn⟩⟩;refine I2.call' (s':={ s4 with heap:=h' }) (ch:=[it]) I4.os (Un.same I4.base sb (fT hCle)) (HOk.same I4.hok sb I4.free) I4.bare λb hb=>?_;obtain⟨_,f1,_,f3,f4,f5⟩:=f2 b hb;exact⟨f3,f1,f4,f5⟩
  ·refine zMt (zU6 (tg:=target) (X:=uE X (T++caps.map (·.1)) scope ⟨G.objs.size,s2,H2,[it]⟩) I3 (stat fr3) st3 go) λr s4 ⟨u,hr,h4⟩=>?_;subst hr;refine aa (zMt h4 λ_ s5 ⟨x,H5,I5,r5,y5,st5,fr5⟩=>?_);have I5':=I5.pinned (stat fr5) (zO4 st5);refine aa (zMt (hg _ _ s5 σ3 H5 x u _ I5' r5 (step x H5 y5)) λ_ s6 ⟨σ6,H6,I6,q6⟩=>?_);have again:∀{s7:ai}{σ7:St}{zs:List V}{H7:Hp},Inv (uE X (T++caps.map (·.1)) scope ⟨G.objs.size,s2,H2,[it]⟩) ([]++zGp [it] s5.heap) σ7 H7 s7->N σ7 zs H7 ->
     ∃ m,m<n/\∃ i σ' ys H',Inv (uE X (T++caps.map (·.1)) scope ⟨G.objs.size,s2,H2,[it]⟩) [] σ' H' s7/\s7.heap.IsListIter it a i/\(∀ b∈[it],H' b=none)/\W i m σ' ys H':=λ{s7 σ7 zs H7} I7 n7=>by
    obtain⟨m',hm,w7⟩:=hN σ7 zs H7 n7;refine⟨m',hm,i+1,σ7,zs,H7,I7.unpinned,zP9 st5 λb hb o e=>(I7.pin (b,o) (aU _ (aU _ (tP hb e)))).1,λb hb=>?_,w7⟩;obtain⟨o,e,d⟩:=zO4 st5 b hb;exact(I7.pin (b,o) (aU _ (aU _ (tP hb e)))).2.1
   refine aa (zMt (ht _ _ s6 σ6 H6 _ I6 q6) λok s7 ⟨H7,I7,q7⟩=>?_);cases ok with
   | false=>exact ak ⟨rfl,again I7 q7⟩
   | true =>
    refine aa (aa (zMt (he _ _ s7 σ6 H7 _ I7 q7) λy s8 ⟨yv,H8,I8,r8,hD8,hl8,q8⟩=>?_));refine aa (zMt (zEz _ s8 σ6 H8 (.ref s2.heap.objs.size) [yv] (.ref s2.heap.objs.size) [y] (λ_ H9=>N σ6 (ys++[yv]) H9) I8 rfl (.cons r8 .nil) ⟨_,ys,yv,rfl,rfl,hD8,hl8,q8⟩) λ_ s9 ⟨_,H9,I9,_,q9⟩=>?_);exact ak (ak ⟨rfl,again I9 q9⟩)
 exact codeAny_compStart_list loop (iS st0 loop)
end
section
variable{K:ae}{a x D:ag}{xs:List V}{g:TG}{tt:TT}{te:TE}{σ0:St}{H1:Hp}{Q:VK}
theorem zNq(Pv:Nat->St->List V->Hp->Prop)(h0:Pv 0 σ0 [] (upd H1 D (.lst [])))(hl:∀ i σ ys H,i<=xs.length->Pv i σ ys H->SqL K H a xs/\H D=some (.lst ys)/\Exc H x)
  (hs:∀ i x σ ys H,xs[i]?=some x->Pv i σ ys H->g x σ H λσ2 H2=>tt σ2 H2 λb H3 =>
   if b=true then te σ2 H3 λy H4=>H4 D=some (.lst ys)/\ys.length<sizeLine/\Pv (i+1) σ2 (ys++[y]) (upd H4 D (.lst (ys++[y]))) else Pv (i+1) σ2 ys H3)
  (hd:∀ σ ys H,Pv xs.length σ ys H->Q (.ref D) H):zCv (Itx K a x) D g tt te σ0 H1 Q:=by
 exists λi m σ ys H=>m=xs.length-i/\i<=xs.length/\Pv i σ ys H,⟨xs.length,by simp,bf _,h0⟩;rintro i m σ ys H ⟨rfl,hi,p⟩;obtain⟨q,qd,qx⟩:=hl i σ ys H hi p;exists qd;by_cases hlt:i<xs.length
 ·refine .inr ⟨⟨xs,xs[i],q,by simp[hlt]⟩,Pv (i+1),λσ' zs H' z=>⟨xs.length-(i+1),by lia,rfl,hlt,z⟩,λx H' y=>?_⟩;obtain⟨e,y⟩:=y;subst e;exact hs i x σ ys _ (y xs q) p
 ·have e:i=xs.length:=by lia
  subst e;exact .inl ⟨⟨⟨xs,q,am _⟩,qx⟩,hd σ ys H p⟩
end
section
variable{X:Cx}{pins:List (ag×cA)}{σ:St}{H:Hp}{s:ai}
theorem Inv.stir(I:Inv X pins σ H s){A:bu}(hf:A.frames=X.A.frames):Inv { X with A:=A,calm:=false,xe:=λ_ _=>False } pins σ H s :=
 ⟨⟨I.ok.mod,I.ok.kind,I.ok.glob,I.ok.blt,I.ok.above,I.ok.inj,I.ok.has,I.ok.cab,λz=>(nomatch z),hf.trans I.ok.frames,I.ok.stk,I.ok.exf,I.ok.bs,I.ok.bsz,I.ok.noex,I.ok.exfs,I.ok.funs,I.ok.frf⟩,I.os,I.bare,I.base,I.loc,I.cell,I.free,I.freeC,I.pin,I.hok,I.len⟩
end
abbrev zTs(A:bu):bu:={ A with handled:=none }
abbrev cxH(P:aL)(w:aT)(K:ae)(mg:aC->Option af)(base:aV)(N:List aC)(qual:aC)(scope:fu)(f:ag)(cd:af)(A:bu)(outer:List gf)(s:ai)(H:Hp):Cx :=
 { cxOf CX0 P w K mg base N qual scope f cd A outer s H E0 with calm:=false,xe:=λ_ _=>False }
structure zSq(P:aL)(w:aT)(K:ae)(mg:aC->Option af)(base:aV)(k:Nat)(f:ag)(fd:bJ)(ps:List aC)(sp:ag->Sp):Prop where
 mk ::
 len:∀ x vs H Q E,sp x vs H Q E->vs.length=ps.length
 run:∀(x:ag)(A:bu)(outer:List gf)(s:ai)(H:Hp)(args:Args)(us:List af)(vs:List V)(Q:VK),A.handled=some (.ref x)->rN k (zTs A)->zS0 P w K mg base A outer s H->ix s fd args (ps.zip us)->yY vs us->sp x vs H Q E0 ->
  codeAny (model P w) A (.call (.ref f) args) (CR CX0 outer P w H s Q E0) s
section
variable{P:aL}{w:aT}{K:ae}{mg:aC->Option af}{base:aV}
theorem Fun.okH{x qual:aC}{st:bN}{f:ag}{fd:bJ}{N ps:List aC}{k:Nat}{sp:ag->Sp}(F:Fun K x qual st f fd)(S:zO N ps (zI st))(len:∀ x vs H Q E,sp x vs H Q E->vs.length=ps.length)
  (hbody:∀(x:ag)(cdv:af)(A:bu)(outer:List gf)(s:ai)(H:Hp)(vs:List V)(Q:VK),A.handled=some (.ref x)->rN k ((zTs A).deeper (envOfC qual (zI st) s.heap.objs.size f cdv))->sp x vs H Q E0 ->
   ∃ t,PSs (cxH P w K mg base N qual (zI st) f cdv A outer s H) (xK st) t/\t { nx:=λ_ H'=>Q .non H',rt:=Q } (start N vs) H):zSq P w K mg base (k+1) f fd ps sp:=by
 obtain⟨oc,od,kV,doc,pm,an,cdv,ct,osl,rfl,lk,hcd⟩:=F.ex;refine⟨len,λx A outer s H args us vs Q hx hr e0 hb r hsp=>?_⟩;have hl:=len _ _ _ _ _ hsp;have KX:K.In s.heap:=e0.mod.kin.keeps λb o e=>(e0.bs b o e).1;have lim:s.heap.NoLimit:=e0.mod.nolimit.keeps λb o e=>(e0.bs b o e).1;have hkind:∀ y∈ps.zip us,(zI st).names.lookup y.1=some .local\/((zI st).names.lookup y.1=some .cell/\((cellsFrom (s.heap.objs.size+1) (zI st).names []).lookup y.1).isSome=true):=λ⟨n,v⟩ hy=>by
  rcases S.par n (fZ hy).1 with q | q
  ·exact .inl q
  ·exact .inr ⟨q,fE _ _ _ (.inl q)⟩
 refine codeAny_call_function (show A.depth<recursionLimit from hr.depth) (KX _ _ lk) rfl S.co S.gen rfl (jx KX hcd) (hb _ _ _ _ ?_);refine gJ S.kind hkind λenv he s1 x1=>?_;subst he;refine⟨lim.keeps x1.toInCall.keep,codeAny_func ?_⟩;obtain⟨t,ht,hq⟩:=hbody x cdv A outer s H vs Q hx (hr.deeper _) hsp;have e1:zS0 P w K mg base (zTs A) outer s H:=⟨e0.frames,e0.mod,e0.bs,e0.bsz,e0.funs,e0.frf,e0.hok,e0.bare⟩;have I0:Inv (cxOf CX0 P w K mg base N qual (zI st) f cdv (zTs A) outer s H E0) [] (start N vs) H s1:=zJ8 S rfl e1 hl r x1;have I:Inv (cxH P w K mg base N qual (zI st) f cdv A outer s H) [] (start N vs) H s1:=I0.stir rfl;refine cZ (ht [] s1 (start N vs) H _ I hq) (λfl s' hs=>?_) λ_ _ z=>be z;have fin:∀{σ':St}{H':Hp}{v:V}{u:af},Inv (cxH P w K mg base N qual (zI st) f cdv A outer s H) [] σ' H' s'->xI v u->Q v H'->CE outer P w H s Q u s' :=
  λ{σ' H' v u} J rv q=>⟨v,H',J.os,J.bare,J.base,J.hok,rv,q⟩
 cases fl with
 | ret u =>
  obtain⟨v,σ',H',J,rv,q⟩:=hs;exact fin J rv q
 | next =>
  obtain⟨σ',H',J,q⟩:=hs;exact fin (v:=V.non) (u:=a7) J rfl q
 | brk =>
  obtain⟨_,_,_,q⟩:=hs;exact be q
 | cont =>
  obtain⟨_,_,_,q⟩:=hs;exact be q
end
def zZo(P:aL)(w:aT)(K:ae)(mg:aC->Option af)(base:aV)(x:aC)(n:Nat)(ps:List aC)(sp:ag->Sp):Prop :=
 ∃(f:ag)(fd:bJ),zSq P w K mg base n f fd ps sp/\zBl K fd ps []/\bO K (.ref f)=true/\mg x=some (.ref f)
section
variable{X:Cx}{x:aC}{p pos:fg}{e:bj}{es:List bj}{t:TA}{n:Nat}{ps:List aC}{sp:ag->Sp}
theorem zTv{ea:ag}(h:zZo X.prog X.w X.K X.mg X.base x n ps sp)(hr:rN n X.A)(hg:Gl X x)(ha:PA (X.hd (.ref ea)) (e::es) t)(hdb:(x ==("__debug__" : aC))=false:=by decide)
  (he:starEach (e::es) X.env=(false,eval e X.env)::starEach es X.env:=by rfl) (hpl:(backTo pos (starEach es X.env)).any (·.1)=false:=by rfl):PE (X.hd (.ref ea)) (.Call (.Name x p) (e::es) [] pos) (zNc (sp ea) [] E0 t):=by
 obtain⟨f,fd,F,hb,hk,hm⟩:=h;intro pins s σ H Q I h;refine c7 (tS I hg hm ?_ hdb);refine dC (h₀:=X.base) I.ok.mod.kin hk (thn (ha pos pins s σ H _ I h) λus s1 ⟨vs,H1,I1,r,q⟩=>⟨I1.kIn,?_⟩) he hpl;have q:sp ea (vs++[]) H1 Q E0:=q;rw[bF] at q;have hl:us.length=ps.length:=by rw[<- r.length]; exact F.len _ _ _ _ _ q
 have hb':=hb s1 us I1.kIn (by rw[bF]; exact hl);rw[bF] at hb';refine gH (codeAny_mono (F.run ea (X.hd (.ref ea)).A X.stack s1 H1 ⟨us,[]⟩ us vs Q rfl ⟨rfl,hr.dp,hr.un,hr.gd⟩ I1.env0 hb' r q) λr s' hq=>?_);cases r with
 | error e=>exact be hq
 | ok fl =>
  cases fl with
  | ret u=>exact I1.after hq
  | next=>exact be hq
  | brk=>exact be hq
  | cont=>exact be hq
end
end L2
namespace L2
open PySem PySem.Spec PyProof.Rows PySem.W
def zZp(K:ae)(D:ag):Bool :=
 (findIn K (.ref D) "__getattribute__" == some (some (.builtin "BaseException.__getattribute__")))&&(findIn K (.ref D) "__getattr__" == some none) &&
 (match findObj K D none "__class__" with | some (.bind g a)=>g == .builtin "getset_descriptor.__get__" && a == .builtin "object.__class__" | _=>false) &&
 (mroIn K D (.type "BaseException") == some true)&&(mroIn K D (.type "object") == some true)
theorem zWf{K:ae}{D:ag}(h:zZp K D=true):zEk K D:=by
 unfold zZp at h;simp only[aY] at h;obtain⟨⟨⟨⟨h1,h2⟩,h3⟩,h4⟩,h5⟩:=h;refine⟨eq_of_beq h1,eq_of_beq h2,?_,eq_of_beq h4,eq_of_beq h5⟩;split at h3
 ·rename_i g a e
  rw[aY] at h3;rw[e,eq_of_beq h3.1,eq_of_beq h3.2]
 ·cases h3
def zW4(K:ae)(Ds:List ag):Bool:=Ds.all λD=>zZp K D&&(kitOne K (.ref D) (.type "ValueError") == some true)&&Ds.all λc=>kitOne K (.ref D) (.ref c) == some (D == c)
section
variable{K:ae}{Ds:List ag}{D c:ag}
theorem zM2(h:zW4 K Ds=true)(hD:D∈Ds):zEk K D:=by
 have:=br.mp h D hD;simp only[aY] at this;exact zWf this.1.1
theorem zTd(h:zW4 K Ds=true)(hD:D∈Ds):kitOne K (.ref D) (.type "ValueError")=some true:=by
 have:=br.mp h D hD;simp only[aY] at this;exact eq_of_beq this.1.2
theorem zS7(h:zW4 K Ds=true)(hD:D∈Ds)(hc:c∈Ds):kitOne K (.ref D) (.ref c)=some (D == c):=by
 have:=br.mp h D hD;simp only[aY] at this;exact eq_of_beq (br.mp this.2 c hc)
end
end L2

namespace Sea
open PySem L2 PySem.Spec
open PyProof.Rows hiding St
mutual
def pd:Dt->PyData
 | .int i=>.int i
 | .str x=>.str x
 | .tup l=>.tuple (pds l)
def pds:List Dt->List PyData
 | []=>[]
 | d::l=>pd d::pds l
end
mutual
def shB:Dt->Nat
 | .int i=>i.natAbs.log2+3
 | .str x=>10*x.length+2
 | .tup l=>zNe l+4
def zNe:List Dt->Nat
 | []=>0
 | d::l=>shB d+2+zNe l
end
mutual
def okS:Dt->Prop
 | .int i=>i.natAbs.log2<1920
 | .str x=>∀ c∈x.cps.toList,c<16^8
 | .tup l=>zFy l
def zFy:List Dt->Prop
 | []=>True
 | d::l=>okS d/\zFy l
end
theorem zI1(ts:List aC):(tupleText ts).length<=piled ts+4:=by
 unfold tupleText;rw[strLen_append,strLen_append];have h1:("(" : aC).length=1:=rfl;have h2:(bH (if ts.length == 1 then ",)" else ")")).length<=2:=by split <;> decide
 have h3:(il ", " ts).length<=piled ts:=by
  by_cases z:ts=[]
  ·subst z; decide
  ·have:=join_length_add ts z; lia
 lia
mutual
theorem zMa:∀ d:Dt,okS d->(pd d).shown.length<=shB d
 | .int i,h=>by
  rw[okS] at h;rw[pd,shB,jY];have:=int_text_length_le (k:=i.natAbs.log2+1) (by lia) (ij i.natAbs.log2);rw[<- eG] at this;lia
 | .str x,h=>by
  rw[okS] at h;rw[pd,shB,jY];exact i7 x h
 | .tup l,h=>by
  rw[okS] at h;rw[pd,shB,jY];have:=zI1 (gc (pds l));have:=zJi l h;lia
theorem zJi:∀ l:List Dt,zFy l->piled (gc (pds l))<=zNe l
 | [],_=>by rw[pds,gc,zNe]; decide
 | d::l,h=>by
  rw[zFy] at h;rw[pds,gc,zNe,piled_cons];have:=zMa d h.1;have:=zJi l h.2;lia
end
mutual
theorem zMs:∀ d:Dt,okS d->(pd d).showable=true
 | .int i,h=>by rw[okS] at h; rw[pd,iN]; exact decide_eq_true h
 | .str x,_=>by rw[pd,iN]
 | .tup l,h=>by rw[okS] at h; rw[pd,iN]; exact zIv l h
theorem zIv:∀ l:List Dt,zFy l->gP (pds l)=true
 | [],_=>by rw[pds,gP]
 | d::l,h=>by rw[zFy] at h; rw[pds,gP,zMs d h.1,zIv l h.2]; rfl
end
mutual
theorem zO6:∀ d:Dt,(pd d).hasDict=false
 | .int i=>by rw[pd,i8]
 | .str x=>by rw[pd,i8]
 | .tup l=>by rw[pd,i8]; exact zM1 l
theorem zM1:∀ l:List Dt,hW (pds l)=false
 | []=>by rw[pds,hW]
 | d::l=>by rw[pds,hW,zO6 d,zM1 l]; rfl
end
theorem zFu{n:Nat} : ∀ l:List Dt,(∀ d∈l,(pd d).depth<=n)->iO (pds l)<=n
 | [],_=>by rw[pds,iO]; exact bf _
 | d::l,h=>by
  rw[pds,iO];have:=h d (.head _);have:=zFu l λd hd=>h d (.tail _ hd);lia
theorem zL0:∀(n:Nat)(d:Dt),zHr n d->(pd d).depth<=n
 | n,.int i,_=>by rw[pd,jZ]; exact bf _
 | n,.str x,_=>by rw[pd,jZ]; exact bf _
 | 0,.tup _,h=>h.elim
 | n+1,.tup l,h=>by
  rw[pd,jZ];have:=zFu (n:=n) l λd hd=>zL0 n d (h.2 d hd);lia
section
variable{X:Cx}{pins:List (ag×cA)}{σ:St}{H:Hp}{s:ai}
mutual
theorem zL1(I:Inv X pins σ H s):∀(d:Dt){v:V}{u:af},Rep H d v->xI v u->∃ as,Reads s.heap u (pd d) as
 | .int i,v,u,h,r=>by
  rw[yF.mp h] at r;obtain⟨t,rfl⟩:=(show ∃ t,u=dL i t from r);rw[pd];exact⟨_,.int i t⟩
 | .str x,v,u,h,r=>by
  rw[zW.mp h] at r;obtain⟨t,rfl⟩:=(show ∃ t,u=cC x t from r);rw[pd];exact⟨_,.str x t⟩
 | .tup l,v,u,h,r=>by
  obtain⟨a,xs,rfl,ha,rs⟩:=yD.mp h;obtain rfl:u=aK a:=r;obtain⟨its,rv,⟨o,h1,h2,n,h3⟩,hz⟩:=I.tuple (SqT.of ha);obtain⟨as,ra⟩:=zJf I l rs rv;rw[pd];exact⟨_,.tuple h1 h2 h3 (by simpa using ra)⟩
theorem zJf(I:Inv X pins σ H s):∀(l:List Dt){xs:List V}{us:List af},xX H l xs->yY xs us->∃ as,ReadsAll s.heap us (pds l) as
 | [],xs,us,h,r=>by
  rw[yA.mp h] at r;cases r;rw[pds];exact⟨_,.nil⟩
 | d::l,xs,us,h,r=>by
  obtain⟨x,xr,rfl,h1,h2⟩:=zL.mp h;cases r with
  | cons r1 r2 =>
   obtain⟨as,ra⟩:=zL1 I d h1 r1;obtain⟨bs,rb⟩:=zJf I l h2 r2;rw[pds];exact⟨_,.cons ra rb⟩
end
end
section
variable{X:Cx}{e:bj}{es:List bj}{t:TJ}{te:TE}{pos p:fg}{n:Nat}
def zXy(te:TE)(t:TJ):TJ:=λσ H K=>te σ H λv H1=>(∃ d,Rep H1 d v/\okS d/\zHr 4 d/\shB d<=2000)/\t σ H1 K
theorem zIa(hg:X.A.guards=some [])(hu:X.A.units+64<cLine)(hv:PE X e te)(ht:PJ X es n t)(he:evalEach (.FormattedValue e (-1) none p::es) X.env=eval (.FormattedValue e (-1) none p) X.env::evalEach es X.env:=by rfl):PJ X (.FormattedValue e (-1) none p::es) (n+1) (zXy te t):=by
 intro pins s σ H k acc Q C I h hk q z;rw[he];refine gO (thn (hv pins s σ H _ I q) λu s1 ⟨v,H1,I1,r,⟨d,rd,ok,sh,hb⟩,q1⟩=>?_);have hl:=zMa d ok;have fin:∀(y:aC)(s2:ai)(t':nA),y.length<=2000->Inv X pins σ H1 s2->∃ y' t,cC y t'=.str y' t/\(acc++y').length<=sizeLine/\Joins (model X.prog X.w) X.A X.xe (evalEach es X.env) (acc++y') Q s2:=λy s2 t' hy I2 =>
  ⟨y,t',rfl,by rw[strLen_append]; show acc.length+y.length<=2^24; lia,ht pins s2 σ H1 (k+1) _ _ C I2 (by rw[strLen_append]; lia) (by lia) q1 z⟩
 match d,rd,ok,hl with
 | .int i,rd,ok,hl =>
  rw[yF.mp rd] at r;obtain⟨tk,rfl⟩:=(show ∃ t,u=dL i t from r);rw[okS] at ok;have l:=int_text_length_le (k:=1920) (by decide) ok;rw[<- eG] at l;exact iW ok (fin _ _ _ (by lia) (I1.tok _))
 | .str x,rd,ok,hl =>
  rw[zW.mp rd] at r;obtain⟨tk,rfl⟩:=(show ∃ t,u=cC x t from r);rw[shB] at hb;exact formatField_str (λt' tk'=>fin x _ t' (by lia) (I1.tok _)) (by show x.length<=2^24; lia)
 | .tup l,rd,ok,hl =>
  obtain⟨as,ra⟩:=zL1 I1 _ rd r;obtain⟨a,xs,rfl,_⟩:=yD.mp rd;obtain rfl:u=aK a:=r;have dl:=zL0 4 _ sh;refine formatField_of_reads ra (zMs _ ok) (λz=>by rw[zO6] at z; cases z) hg (by lia) (λ_ _ e=>e) (λh' u tk hk=>?_) (by show _<=2^24; lia);exact fin _ _ _ (by lia) (I1.kept (t':=tk) hk)
def zXq(te:TE)(t:TJ):TJ:=λσ H K=>te σ H λv H1=>(∃ x:aC,v=.str x/\(∀ c∈x.cps.toList,c<16^8)/\x.length<=190)/\t σ H1 K
theorem zLj(hv:PE X e te)(ht:PJ X es n t)(he:evalEach (.FormattedValue e 114 none p::es) X.env=eval (.FormattedValue e 114 none p) X.env::evalEach es X.env:=by rfl):PJ X (.FormattedValue e 114 none p::es) (n+1) (zXq te t):=by
 intro pins s σ H k acc Q C I h hk q z;rw[he];refine wpAny_FormattedValue_repr (thn (hv pins s σ H _ I q) λu s1 ⟨v,H1,I1,r,⟨x,ex,cx,lx⟩,q1⟩=>?_);subst ex;obtain⟨tk,rfl⟩:=(show ∃ t,u=cC x t from r);have hl:=i7 x cx;refine wpAny_pyReprObj_str ?_ (by show _<=2^24; lia);refine formatField_str (λt' tk'=>?_) (by show _<=2^24; lia);exact⟨_,t',rfl,by rw[strLen_append]; show acc.length+_<=2^24; lia,ht pins _ σ H1 (k+1) _ _ C (I1.tok _) (by rw[strLen_append]; lia) (by lia) q1 z⟩
end
end Sea
namespace L2
open PySem PySem.Spec PyProof.Rows
section
variable{X:Cx}{x y:aC}{p pos:fg}{i e:bj}{es:List bj}{ty:TE}{t:TA}
structure zUf(P:aL)(w:aT)(K:ae)(mg:aC->Option af)(B:aV)(m:Nat)(kvs:List (Key×V))(k:Key)(sp:Sp):Prop where
 mk ::
 has:∃(x:aC)(f:ag)(n:Nat)(ps:List aC),wT kvs k=some (.ref f)/\mg x=some (.ref f)/\qH P w K mg B x n ps sp/\n<=m
def tTabX(tab:List (Key×Sp))(EE:St->XK)(ty:TE)(t:TA):TE:=λσ H Q=>ty σ H λy H1=>∃(k:Key)(sp:Sp),y=kV k/\(k,sp)∈tab/\t σ H1 λvs H2=>sp vs H2 Q (EE σ)
theorem zWl(EE:St->XK){a:ag}{m:Nat}{kvs:List (Key×V)}{tab:List (Key×Sp)}{p':fg}(hb:zW5 X.prog X.w X.base a kvs)(hm:X.mg x=some (.ref a))(hT:∀ r∈tab,zUf X.prog X.w X.K X.mg X.base m kvs r.1 r.2)(hx:zN2 X EE)(hr:rN m X.A)(hi:PE X i ty)(ha:PA X (e::es) t)
  (hs:zZk i:=by exact λ_ _=>rfl) (hg:Gl X x:=by rfl) (hd:(x ==("__debug__" : aC))=false:=by decide)
  (he:starEach (e::es) X.env=(false,eval e X.env)::starEach es X.env:=by rfl) (hpl:(backTo pos (starEach es X.env)).any (·.1)=false:=by rfl)
  (hev:eval (.Call (.Subscript (.Name x p) i p') (e::es) [] pos) X.env=(do callWith pos (<- eval (.Subscript (.Name x p) i p') X.env) [] (backTo pos (starEach (e::es) X.env)) (backToKw pos (keywordEach [] X.env))):=by rfl) :
  PE X (.Call (.Subscript (.Name x p) i p') (e::es) [] pos) (tTabX tab EE ty t):=by
 intro pins s σ H Q I h;refine Call_ (zK9 e7.lookup hs (tS I hg hm (thn (hi pins s σ H _ I h) λiv s2 ⟨y,H2,I2,ry,k,sp,ey,mem,q2⟩=>?_) hd)) hev;subst ey;obtain⟨x',f,n,ps,l,mx,⟨f',fd,F,b,kp,mx'⟩,hn⟩:=(hT _ mem).has;rw[mx] at mx';cases mx';refine zUn hb I2 l ry λw' s3 I3 rw'=>?_;cases rw';refine dC (h₀:=X.base) I.ok.mod.kin kp (thn (ha pos pins s3 σ H2 _ I3 q2) λus s4 ⟨vs,H4,I4,r,q4⟩=>⟨I4.kIn,?_⟩) he hpl;exact zKt F (hr.mono hn) b hx I4 r q4
end
section
variable{X:Cx}
theorem zR6:OpR X (compareOp .In) (λx y H Q=>∃ i j:aC,x=.str i/\y=.str j/\Q (.bl !(ip j i 0 j.length 1).isEmpty) H):=by
 intro pins s σ H x y v u Q I rx ry h;obtain⟨i,j,rfl,rfl,q⟩:=h;obtain⟨t,rfl⟩:=rx;obtain⟨t',rfl⟩:=ry;exact PySem.P.in_str (yX I q rfl)
theorem zYz:∀ c<128,(!(ip ("abcdefghijklmnopqrstuvwxyz" : aC) ⟨#[c]⟩ 0 ("abcdefghijklmnopqrstuvwxyz" : aC).length 1).isEmpty)=decide (97<=c/\c<=122):=by decide +kernel
end
end L2

namespace Sea
open PySem L2
inductive Cl where
 | badName | taken | badPlace | full | noMark | same | needed | badBank | noBank | badRun | noRun | noMoment | badWay | badTurn | noNote
 deriving DecidableEq
open Classical in
noncomputable def zR(S:BS):Deed->Option Cl
 | .mark n x y=>if ¬ wC n then some .badName else if (zM S n).isSome=true then some .taken else if ¬ zAm (x,y) then some .badPlace else if 20<=S.marks.length then some .full else none
 | .move n x y=>if zM S n=none then some .noMark else if ¬ zAm (x,y) then some .badPlace else if ∀ e∈S.notes,zKp (aft S (.move n x y)) e.2 then none else some .same
 | .unmark n=>if zM S n=none then some .noMark else if ∀ e∈S.notes,unlike n e.2 then none else some .needed
 | .bank n cs=>if ¬ wC n then some .badName else if n∈S.banks.map (·.1) then some .taken else if ¬ ∀ c∈cs,zAm c then some .badPlace else if zKn cs=false then some .badBank else if 8<=S.banks.length then some .full else none
 | .level n=>if n∈S.banks.map (·.1) then none else some .noBank
 | .sail x y=>if ¬ zAm (x,y) then some .badRun else if 12<=S.runs.length then some .full else none
 | .right k x y=>if 0<=k/\k<S.runs.length then(if zAm (x,y) then none else some .badRun) else some .noRun
 | .bearing m n a b c d=>if ¬ (0<=m/\m<=S.runs.length) then some .noMoment else if zM S n=none then some .noMark else if ¬ rQ (a,b) then some .badWay else if ¬ rQ (c,d) then some .badWay else if a*d-b*c<=0 then some .badTurn else if 24<=S.notes.length then some .full else none
 | .range m l r=>if ¬ (0<=m/\m<=S.runs.length) then some .noMoment else if zM S l=none then some .noMark else if zM S r=none then some .noMark else if zM S l=zM S r then some .same else if 24<=S.notes.length then some .full else none
 | .strike k=>if k∈S.notes.map (·.1) then none else some .noNote
theorem zAk{α:Type}{o:Option α}(h:¬ o=none):o.isSome=true:=by cases o <;> simp at h ⊢
theorem zD3{S:BS}{D:Deed}(h:zR S D=none):okD S D:=by
 cases D with
 | mark n x y =>
  simp only[zR] at h;split at h; · cases h
  split at h; · cases h
  split at h; · cases h
  split at h; · cases h
  rename_i h1 h2 h3 h4
  exact⟨au.mp h1,by cases e:zM S n <;> simp[e] at h2 ⊢,au.mp h3,by lia⟩
 | move n x y =>
  simp only[zR] at h;split at h; · cases h
  split at h; · cases h
  split at h
  ·rename_i h1 h2 h3; exact⟨zAk h1,au.mp h2,h3⟩
  ·cases h
 | unmark n =>
  simp only[zR] at h;split at h; · cases h
  split at h
  ·rename_i h1 h2; exact⟨zAk h1,h2⟩
  ·cases h
 | bank n cs =>
  simp only[zR] at h;split at h; · cases h
  split at h; · cases h
  split at h; · cases h
  split at h; · cases h
  split at h; · cases h
  rename_i h1 h2 h3 h4 h5
  exact⟨au.mp h1,h2,au.mp h3,by cases e:zKn cs <;> simp[e] at h4 ⊢,by lia⟩
 | level n =>
  simp only[zR] at h;split at h
  ·rename_i h1; exact h1
  ·cases h
 | sail x y =>
  simp only[zR] at h;split at h; · cases h
  split at h; · cases h
  rename_i h1 h2
  exact⟨au.mp h1,by lia⟩
 | right k x y =>
  simp only[zR] at h;split at h
  ·split at h
   ·rename_i h1 h2; exact⟨h1.1,h1.2,h2⟩
   ·cases h
  ·cases h
 | bearing m n a b c d =>
  simp only[zR] at h;split at h; · cases h
  split at h; · cases h
  split at h; · cases h
  split at h; · cases h
  split at h; · cases h
  split at h; · cases h
  rename_i h1 h2 h3 h4 h5 h6
  have h1:=au.mp h1;exact⟨h1.1,h1.2,zAk h2,au.mp h3,au.mp h4,by lia,by lia⟩
 | range m l r =>
  simp only[zR] at h;split at h; · cases h
  split at h; · cases h
  split at h; · cases h
  split at h; · cases h
  split at h; · cases h
  rename_i h1 h2 h3 h4 h5
  have h1:=au.mp h1;exact⟨h1.1,h1.2,zAk h2,zAk h3,h4,by lia⟩
 | strike k =>
  simp only[zR] at h;split at h
  ·rename_i h1; exact h1
  ·cases h
def zM3(ok:Prop)(Q:VK)(E:XK)(c:ag)(H:Hp):Prop:=(ok/\∀ H',Same H H'->Q .non H')\/(¬ ok/\∀ H',Same H H'->E (.ref c) none H')
section
variable{ok:Prop}{Q:VK}{E:XK}{c:ag}{H H':Hp}
theorem zM3.yes(h:zM3 ok Q E c H)(o:ok)(s:Same H H'):Q .non H':=by
 rcases h with ⟨_,h⟩ | ⟨n,_⟩
 ·exact h H' s
 ·exact absurd o n
theorem zM3.no(h:zM3 ok Q E c H)(o:¬ ok)(s:Same H H'):E (.ref c) none H':=by
 rcases h with ⟨y,_⟩ | ⟨_,h⟩
 ·exact absurd y o
 ·exact h H' s
theorem zM3.of(h1:ok->∀ H',Same H H'->Q .non H')(h2:¬ ok->∀ H',Same H H'->E (.ref c) none H'):zM3 ok Q E c H:=by
 by_cases o:ok
 ·exact .inl ⟨o,h1 o⟩
 ·exact .inr ⟨o,h2 o⟩
end
def zBg(x:aC):Prop:=(∀ c∈x.cps.toList,c<128)/\x.length<=50
theorem zBg.big{x:aC}(h:zBg x):∀ c∈x.cps.toList,c<16^8:=λc hc=>de (h.1 c hc) (by decide)
theorem wC.asc{x:aC}(h:wC x):zBg x:=⟨λc hc=>by have:=h.2.2 c hc; lia,by have:=h.2.1; lia⟩
def zCg(i:Int):Prop:=i.natAbs.log2<200
theorem zEx{p:Int×Int}(h1:zCg p.1)(h2:zCg p.2):okS (ptD p)/\zHr 4 (ptD p)/\shB (ptD p)<=2000:=by
 unfold zCg at h1 h2;refine⟨?_,zBz (by show 2<=900; decide) (dt2 (by show _<1920; lia) (by show _<1920; lia)),?_⟩
 ·unfold ptD;rw[okS,zFy,zFy,zFy,okS,okS];exact⟨by lia,by lia,trivial⟩
 ·unfold ptD;rw[shB,zNe,zNe,zNe,shB,shB];lia
def zK2:Deed->Prop
 | .mark n x y=>zBg n/\zCg x/\zCg y
 | .move n x y=>zBg n/\zCg x/\zCg y
 | .unmark n=>zBg n
 | .bank n cs=>zBg n/\cs.length<=12/\∀ c∈cs,c.1.natAbs.log2<20/\c.2.natAbs.log2<20
 | .level n=>zBg n
 | .sail x y=>zCg x/\zCg y
 | .right k x y=>zCg k/\zCg x/\zCg y
 | .bearing m n a b c d=>zCg m/\zBg n/\zCg a/\zCg b/\zCg c/\zCg d
 | .range m l r=>zCg m/\zBg l/\zBg r
 | .strike k=>zCg k
theorem zJu{m:Int}{n:aC}{a b c d:Int}(h:zK2 (.bearing m n a b c d)):okS (Deed.bearing m n a b c d).dt/\zHr 4 (Deed.bearing m n a b c d).dt/\shB (Deed.bearing m n a b c d).dt<=2000:=by
 obtain⟨h1,h2,h3,h4,h5,h6⟩:=h;obtain⟨s1,s2,_⟩:=zEx (p:=(a,b)) h3 h4;obtain⟨s4,s5,_⟩:=zEx (p:=(c,d)) h5 h6;unfold zCg at h1 h3 h4 h5 h6;have l7:(bH "bearing").length=7:=rfl;refine⟨?_,?_,?_⟩
 ·unfold Deed.dt;rw[okS,zFy,zFy,zFy,zFy,zFy,zFy,okS,okS,okS];exact⟨by decide,by lia,h2.big,s1,s4,trivial⟩
 ·unfold Deed.dt;refine zBz (cE rfl) λe he=>?_;rcases aI.mp he with rfl | he
  ·exact zRz (by decide)
  ·have p3:∀{p:Int×Int},p.1.natAbs.log2<200->p.2.natAbs.log2<200->zHr 3 (ptD p):=λ{p} h1 h2=>zBz (n:=2) (by show 2<=900; decide) (dt2 (by show _<1920; lia) (by show _<1920; lia));exact dt4 (P:=zHr 3) (by show _<1920; lia) (by show _<=1921; have:=h2.2; lia) (p3 h3 h4) (p3 h5 h6) e he
 ·unfold Deed.dt ptD;simp only[shB,zNe];have:=h2.2;lia
theorem zIk{cs:List (Int×Int)}(hl:cs.length<=12)(h:∀ c∈cs,c.1.natAbs.log2<20/\c.2.natAbs.log2<20):okS (.tup (cs.map ptD))/\zHr 4 (.tup (cs.map ptD))/\shB (.tup (cs.map ptD))<=2000:=by
 have k1:∀ l:List (Int×Int),(∀ c∈l,c.1.natAbs.log2<20/\c.2.natAbs.log2<20)->zFy (l.map ptD)/\zNe (l.map ptD)<=l.length*60:=by
  intro l
  induction l with
  | nil=>intro _; rw[eW,zFy,zNe]; exact⟨trivial,bf _⟩
  | cons c l ih =>
   intro h;obtain⟨i1,i2⟩:=ih λc hc=>h c (.tail _ hc);obtain⟨c1,c2⟩:=h c (.head _);have e1:okS (ptD c):=by
    unfold ptD;rw[okS,zFy,zFy,zFy,okS,okS];exact⟨by lia,by lia,trivial⟩
   have e2:shB (ptD c)<=58:=by
    unfold ptD;simp only[shB,zNe];lia
   rw[aM,zFy,zNe,aS];exact⟨⟨e1,i1⟩,by lia⟩
 obtain⟨g1,g2⟩:=k1 cs h;refine⟨by rw[okS]; exact g1,zBz (by rw[ac]; lia) λd hd=>?_,by rw[shB]; lia⟩;obtain⟨c,hc,rfl⟩:=aD.mp hd;obtain⟨c1,c2⟩:=h c hc;exact zBz (n:=2) (by show 2<=900; decide) (dt2 (by show _<1920; lia) (by show _<1920; lia))
structure zMk(S:BS):Prop where
 mk ::
 good:zW3 S
 names:∀ e∈S.marks,wC e.1
theorem zMk.nil:zMk BS.nil:=⟨zTe,λe he=>(nomatch he)⟩
theorem zMk.mark{S:BS}{n:aC}(h:zMk S)(k:(zM S n).isSome=true):wC n:=by
 obtain⟨p,e⟩:=aP.mp k;exact h.names _ (zGy e)
theorem zMk.aft{S:BS}{D:Deed}(h:zMk S)(ok:okD S D):zMk (aft S D):=by
 exists zR4 h.good ok
 match D,ok with
 | .mark n x y,ok =>
  intro e he;rcases aN.mp he with z | z
  ·exact h.names e z
  ·rw[aw.mp z]; exact ok.1
 | .move n x y,ok =>
  intro e he;obtain⟨e',h1,rfl⟩:=aD.mp he;have:=h.names e' h1;split <;> exact this
 | .unmark n,ok=>exact λe he=>h.names e (cK.mp he).1
 | .bank n cs,ok=>exact h.names
 | .level n,ok=>exact h.names
 | .sail x y,ok=>exact h.names
 | .right j x y,ok=>exact h.names
 | .bearing m n a b c d,ok=>exact h.names
 | .range m l r,ok=>exact h.names
 | .strike j,ok=>exact h.names
def zFc(ax:Cl->ag)(φ:Deed->Prop):Sp:=λvs H Q E=>∃(d:ag)(v:V)(S:BS)(D:Deed),vs=[.ref d,v]/\φ D/\zMd H d S/\Rep H D.dt v/\zK2 D/\zMk S /\
 (zR S D=none->∀(d':ag)(H':Hp),Sam H H'->H d'=none->zMd H' d' (aft S D)->Q (.ref d') H')/\∀ c,zR S D=some c->∀ H',Sam H H'->E (.ref (ax c)) none H'
section
variable{H:Hp}{S:BS}{kvs:List (Key×V)}
theorem zO2{n:aC}(h:xW H kvs (mkE S.marks)):wT kvs (.inr n)=none↔zM S n=none:=by
 have e:=h.isSome (k:=.inr n);rw[uS,bX] at e;cases h1:wT kvs (.inr n) <;> cases h2:zM S n <;> simp[h1,h2] at e ⊢
theorem zCh{n:aC}(h:xW H kvs (bkE S.banks)):wT kvs (.inr n)=none↔n ∉ S.banks.map (·.1):=by
 by_cases z:n∈S.banks.map (·.1)
 ·obtain⟨dv,lk⟩:=zUt (l:=S.banks) z;obtain⟨v,ev,_⟩:=h.get lk;simp[ev,z]
 ·simp[h.none (zDy (zG4 z)),z]
theorem zK7{k:Int}(h:xW H kvs (ntE S.notes)):wT kvs (.inl k)=none↔k ∉ S.notes.map (·.1):=by
 by_cases z:k∈S.notes.map (·.1)
 ·obtain⟨dv,lk⟩:=zMr (l:=S.notes) z;obtain⟨v,ev,_⟩:=h.get lk;simp[ev,z]
 ·refine⟨λ_=>z,λ_=>h.none (zDy λe he y=>z ?_)⟩;unfold ntE at he;obtain⟨q,hq,rfl⟩:=aD.mp he;have y:(dU q.1:Key)=dU k:=y;injection y with y
  exact aD.mpr ⟨q,hq,y⟩
theorem zQ3{k:Int}(h:xW H kvs (rnE S.runs)):wT kvs (.inl k)=none↔¬ (0<=k/\k<S.runs.length):=by
 by_cases z:0<=k/\k<S.runs.length
 ·obtain⟨i,rfl⟩:=dq z.1;have hi:i<S.runs.length:=by lia
  have lk:=zHk (k:=0) (aj hi);rw[iC] at lk;obtain⟨v,ev,_⟩:=h.get lk;exact⟨(λy=>by rw[ev] at y; cases y),λy=>absurd z y⟩
 ·refine⟨λ_=>z,λ_=>h.none (zDy λe he y=>z ?_)⟩;unfold rnE at he;obtain⟨⟨q1,q2⟩,hq,rfl⟩:=aD.mp he;have y:(dU (q2:Int):Key)=dU k:=y;injection y with y
  have:=gU hq;simp at this;lia
end
structure zQy(H:Hp)(ts:List ag)(ws:List (aC×Bool)):Prop where
 mk ::
 len:ts.length=ws.length
 at_:∀(j:Nat)(t:ag)(w:aC×Bool),ts[j]?=some t->ws[j]?=some w->H t=some (.tup [.str w.1,.bl w.2])
theorem zQy.nil{H:Hp} : zQy H [] []:=⟨rfl,λj t w h=>by simp at h⟩
theorem zQy.to{H H':Hp}{ts:List ag}{ws:List (aC×Bool)}(h:zQy H ts ws)(s:Same H H'):zQy H' ts ws:=⟨h.len,λj t w a b=>s _ _ (h.at_ j t w a b)⟩
theorem zQy.new{H:Hp}{ts:List ag}{ws:List (aC×Bool)}{t:ag}{x:aC}{b:Bool}(h:zQy H ts ws)(n:H t=none):zQy (upd H t (.tup [.str x,.bl b])) (ts++[t]) (ws++[(x,b)]):=by
 refine⟨by rw[al,al,h.len]; rfl,λj u w hu hw=>?_⟩;by_cases z:j<ts.length
 ·rw[cU z] at hu;rw[cU (by rw[<- h.len]; exact z)] at hw;exact zB n _ _ _ (h.at_ j u w hu hw)
 ·have zj:j=ts.length:=by
   have:=(ay.mp hu).1;rw[al] at this;simp at this;lia
  subst zj;rw[cu (am _),mW] at hu;rw[h.len,cu (am _),mW] at hw;simp at hu hw;subst hu hw;exact zA
theorem wF{B:aV}{Ds:List ag}{D C:ag}(h:InB B λK=>zW4 K Ds=true)(hD:D∈Ds)(hC:C∈Ds):InB B λK=>cQ K (.ref D) (.ref C)=some (D == C)/\zEk K D:=by
 obtain⟨K,KB,h⟩:=h;exact⟨K,KB,zS7 h hD hC,zM2 h hD⟩
theorem zWx{B:aV}{Ds:List ag}{D:ag}(h:InB B λK=>zW4 K Ds=true)(hD:D∈Ds):InB B λK=>cQ K (.ref D) (.type "ValueError")=some true/\zEk K D:=by
 obtain⟨K,KB,h⟩:=h;exact⟨K,KB,zTd h hD,zM2 h hD⟩
def zIt:Cl->aC
 | .badName => "BadName"
 | .taken => "Taken"
 | .badPlace => "BadPlace"
 | .full => "Full"
 | .noMark => "NoMark"
 | .same => "Same"
 | .needed => "Needed"
 | .badBank => "BadBank"
 | .noBank => "NoBank"
 | .badRun => "BadRun"
 | .noRun => "NoRun"
 | .noMoment => "NoMoment"
 | .badWay => "BadWay"
 | .badTurn => "BadTurn"
 | .noNote => "NoNote"
def zFz:Option Cl->aC
 | none => ""
 | some c=>zIt c
def zNh(S:BS)(D:Deed):V:=if S.coming=(aft S D).coming then .non else .int S.coming
end Sea

namespace PySem.W
open PySem PySem.Calls PyProof.Rows
def KasT.run{α:Type}(f:Nat->Nat->Bool):lK α->α
 | .ret a=>a
 | .ask i j k=>(k (f i j)).run f
def KasT.Okay{α:Type}(n:Nat)(Q:α->Prop):lK α->Prop
 | .ret a=>Q a
 | .ask i j k=>i<n/\j<n/\i≠j/\∀ b,(k b).Okay n Q
section
variable{α β:Type}{n:Nat}{f:Nat->Nat->Bool}{cmp:Nat->Nat->(Bool->ai->Prop)->ai->Prop}{s:ai}
theorem KasT.Okay.bind{g:α->lK β}{Q:β->Prop} : ∀{t:lK α},t.Okay n (λa=>(g a).Okay n Q)->(t.bind g).Okay n Q
 | .ret _,h=>h
 | .ask _ _ _,⟨h1,h2,h3,h4⟩=>⟨h1,h2,h3,λb=>KasT.Okay.bind (h4 b)⟩
theorem KasT.Okay.end{Q:α->Prop} : ∀{t:lK α},t.Okay n Q->Q (t.run f)
 | .ret _,h=>h
 | .ask i j k,⟨_,_,_,h4⟩=>show Q ((k (f i j)).run f) from KasT.Okay.end (h4 (f i j))
theorem KasT.Okay.wp{Q:α->Prop}{R:α->ai->Prop}(hc:∀ i j,i<n->j<n->i≠j->∀ C:Bool->ai->Prop,C (f i j) s->cmp i j C s):∀{t:lK α},t.Okay n Q->R (t.run f) s->t.kasWp cmp R s
 | .ret _,_,h=>h
 | .ask i j k,⟨h1,h2,h3,h4⟩,h=>hc i j h1 h2 h3 _ (KasT.Okay.wp hc (h4 (f i j)) h)
def IsP(n:Nat)(p:Array Nat):Prop:=p.toList.Perm (bx n)
variable{p:Array Nat}
theorem IsP.size(h:IsP n p):p.size=n:=by have:=h.length_eq; rw[dr,bR] at this; exact this
theorem IsP.lt(h:IsP n p){i:Nat}(hi:i<n):p.getD i 0<n:=by
 have hs:=h.size;have:p[i]'(by lia)∈p.toList:=by simp
 rw[lL,dif_pos (by lia)];exact b7.mp (h.mem_iff.mp this)
theorem IsP.ne(h:IsP n p){i j:Nat}(hi:i<n)(hj:j<n)(ne:i≠j):p.getD i 0≠p.getD j 0:=λz=>by
 have hs:=h.size;have nd:p.toList.Nodup:=h.nodup_iff.mpr kL;rw[lL,dif_pos (by lia),lL,dif_pos (by lia)] at z;refine ne ((dX (xs:=p.toList) (h₀:=by simpa using (by lia:i<p.size)) (h₁:=by simpa using (by lia:j<p.size)) nd).mp ?_);simpa using z
theorem IsP.of(h:IsP n p){q:Array Nat}(e:q.Perm p):IsP n q:=(Array.perm_iff_toList_perm.mp e).trans h
theorem IsP.rev(h:IsP n p)(i j:Nat):IsP n (kas_rev p i j):=h.of (mirror_perm _ _ _ _)
theorem IsP.ask(h:IsP n p){i j:Nat}(hi:i<n)(hj:j<n)(ne:i≠j){k:Bool->lK α}{Q:α->Prop}(hk:∀ b,(k b).Okay n Q):(KasT.ask (p.getD i 0) (p.getD j 0) k).Okay n Q:=⟨h.lt hi,h.lt hj,h.ne hi hj ne,hk⟩
theorem zPh(h:IsP n p){Q:Nat->Prop} : ∀(f m:Nat),1<=m->m+f<=n->(∀ m',m<=m'->m'<=m+f->Q m')->(kas_asc p f m).Okay n Q
 | 0,m,_,_,q=>q m (am _) (am _)
 | f+1,m,h1,h2,q=>h.ask (by lia) (by lia) (by lia) λb=>by
  cases b
  ·exact zPh h f (m+1) (by lia) (by lia) λm' a b=>q m' (by lia) (by lia)
  ·exact q m (am _) (by lia)
theorem zHx{Q:Array Nat×Nat×Nat->Prop} : ∀(f:Nat)(p:Array Nat)(m r:Nat),IsP n p->1<=m->m+f<=n->(∀ p' m' r',IsP n p'->m<=m'->m'<=m+f->Q (p',m',r'))->(kas_desc f p m r).Okay n Q
 | 0,p,m,r,h,_,_,q=>q p m r h (am _) (am _)
 | f+1,p,m,r,h,h1,h2,q=>h.ask (by lia) (by lia) (by lia) λb=>by
  have q':∀ p' m' r',IsP n p'->m+1<=m'->m'<=m+1+f->Q (p',m',r'):=λp' m' r' a b c=>q p' m' r' a (by lia) (by lia);cases b
  ·exact h.ask (by lia) (by lia) (by lia) λd=>by
    cases d
    ·exact zHx f p (m+1) _ h (by lia) (by lia) q'
    ·exact q p m r h (am _) (by lia)
  ·show(if r>0 then _ else _:lK _).Okay n Q;split
   ·exact zHx f _ (m+1) _ (h.rev _ _) (by lia) (by lia) q'
   ·exact zHx f p (m+1) _ h (by lia) (by lia) q'
theorem zMy(h:IsP n p){Q:Nat×Array Nat->Prop}{m:Nat}(h1:1<=m)(h2:m<=n)(q:∀ m' p',IsP n p'->Q (m',p')):(kas_tail3 m n p).Okay n Q :=
 .bind (zPh (h.rev _ _) _ _ h1 (by lia) λm' _ _=>q m' _ (h.rev _ _))
theorem zO9(h:IsP n p){Q:Nat×Array Nat->Prop}{m:Nat}(h1:1<=m)(h2:m+1<=n)(q:∀ m' p',IsP n p'->Q (m',p')):(kas_descPart m n p).Okay n Q:=by
 refine .bind (zHx _ _ _ _ h (by lia) (by lia) λp' m' r' a b c=>?_);show(if r'>0 then _ else _:lK _).Okay n Q;split
 ·exact zMy (m:=m') (a.rev _ _) (by lia) (by lia) q
 ·exact zMy (m:=m') a (by lia) (by lia) q
theorem zTu(h:IsP n p)(hn:2<=n){Q:Nat×Array Nat->Prop}(q:∀ m' p',IsP n p'->Q (m',p')):(kas_count n p).Okay n Q:=by
 refine .bind (zPh h _ _ (am _) (by lia) λm' a b=>?_);show(if (m' == n)=true then _ else if m'>1 then _ else _:lK _).Okay n Q;split
 ·exact q _ _ h
 ·rename_i z
  have z:m'≠n:=λe=>z (by simp[e]);split
  ·exact h.ask (by lia) (by lia) (by lia) λb=>by
    cases b
    ·exact zO9 (h.rev _ _) (by lia) (by lia) q
    ·exact q _ _ h
  ·exact zO9 h (by lia) (by lia) q
theorem zHc(h:IsP n p){k:Nat}(hk:k<n){Q:Nat->Prop}(q:∀ l,Q l):∀(f l r:Nat),r<=k->(kas_place p k f l r).Okay n Q
 | 0,l,r,_=>q l
 | f+1,l,r,hr=>by
  show(if l >= r then _ else _:lK _).Okay n Q;split
  ·exact q l
  ·rename_i z
   exact h.ask hk (by lia) (by lia) λb=>by
    cases b
    ·exact zHc h hk q f _ _ hr
    ·exact zHc h hk q f _ _ (by lia)
theorem zUl{Q:Array Nat->Prop}(q:∀ p,IsP n p->Q p):∀(f:Nat)(p:Array Nat)(k:Nat),IsP n p->k+f<=n->(kas_bin f p k).Okay n Q
 | 0,p,_,h,_=>q p h
 | f+1,p,k,h,hk=>.bind (zHc h (by lia) (λl=>zUl q f _ _ (h.of (bubble_perm _ _ _)) (by lia)) _ _ _ (am _))
theorem zP6(hn:2<=n):(kas_sort n).Okay n (IsP n):=by
 refine .bind (zTu (show IsP n (ar (bx n)) from .refl _) hn λm' p' h=>?_);show(if m'<n then _ else _:lK _).Okay n (IsP n);split
 ·exact zUl (λp h=>h) _ _ _ h (by lia)
 ·exact h
def zOn(n:Nat)(f:Nat->Nat->Bool):List Nat:=if n<2 then bx n else((kas_sort n).run f).toList
theorem zFt(n:Nat)(f:Nat->Nat->Bool):(zOn n f).Perm (bx n):=by
 unfold zOn;split
 ·exact .refl _
 ·exact(zP6 (by lia)).end
end
end PySem.W
namespace L2
open PySem PySem.Spec PyProof.Rows PySem.W
section
variable{prog:aL}{w:aT}{A:bu}{E:af->ai->Prop}{s:ai}
theorem zDa{f:Nat->Nat->Bool}{a:ag}{vs:List af}{n:Nat}{P:PySem.Fin->ai->Prop}(ho:s.heap.get? a=some (seqObj "list" vs.toArray n))(h64:vs.length<64)
  (hk:∀ h':aV,(∀ b o,b≠a->s.heap.get? b=some o->h'.get? b=some o)->2<=vs.length->∃ κ:j5,(∀ Q:j5->ai->Prop,Q κ { s with heap:=h' }->wpAny (model prog w) A (keyKind' vs.toArray) Q E { s with heap:=h' }) /\
   ∀ i j,i<vs.length->j<vs.length->i≠j->∀ C:Bool->ai->Prop,C (f i j) { s with heap:=h' }->kas_ask prog w A κ vs i j C { s with heap:=h' })
  (h:∀(h':aV)(c:Nat),(∀ b o,b≠a->s.heap.get? b=some o->h'.get? b=some o)->h'.get? a=some (seqObj "list" ((zOn vs.length f).map λi=>vs.getD i a7).toArray c)->P (.done (.ret .none)) { s with heap:=h' }) :
  wpAny (model prog w) A (eV.«list.sort» ⟨[.ref a],[]⟩) P E s:=by
 have ha:a<s.heap.objs.size:=az ho;obtain⟨e1,ho1⟩:∃ e1,(s.heap.update a (bD λ_=>(#[]:Array af))).get? a=some (seqObj "list" #[] e1):=⟨_,get?_update_seq ho λ_=>#[]⟩;rw[list_sort_plain];refine aa (listItems_at ho rfl ?_);refine aa (listUpdate_at ho rfl ?_ (by rw[aG,sizeLine_eq]; lia) (bf _));refine aa (seqEpoch_at ho1 rfl ?_);refine aa (wpAny_newTuple ?_ (by show vs.length<=_; rw[sizeLine_eq]; lia));refine aa (jq ?_ (bf _));refine bI ?_;have ho6:(((s.heap.update a (bD λ_=>#[])).push (seqObj "tuple" vs.toArray 0)).push (seqObj "list" #[] 0)).get? a=some (seqObj "list" #[] e1):=ah _ (ah _ ho1);have kp:∀ b o,b≠a->s.heap.get? b=some o->(((s.heap.update a (bD λ_=>#[])).push (seqObj "tuple" vs.toArray 0)).push (seqObj "list" #[] 0)).get? b=some o:=λb o hb e =>
  ah _ (ah _ ((aX _ _ (cw hb)).trans e))
 obtain⟨out,eo⟩:∃ out,out=(zOn vs.length f).map λi=>vs.getD i a7:=⟨_,rfl⟩;have lo:out.length=vs.length:=by rw[eo,ac,(zFt vs.length f).length_eq,dr]
 rw[<- eo] at h;have fin:∀ c,(((((s.heap.update a (bD λ_=>#[])).push (seqObj "tuple" vs.toArray 0)).push (seqObj "list" #[] 0)).update a (bD λ_=>out.toArray))).get? a=some (seqObj "list" out.toArray c)->P (.done (.ret .none)) { s with heap:=((((s.heap.update a (bD λ_=>#[])).push (seqObj "tuple" vs.toArray 0)).push (seqObj "list" #[] 0)).update a (bD λ_=>out.toArray)) }:=λc e =>
  h _ c (λb o hb q=>(aX _ _ (cw hb)).trans (kp b o hb q)) e
 obtain⟨c2,hc2⟩:∃ c2,(((((s.heap.update a (bD λ_=>#[])).push (seqObj "tuple" vs.toArray 0)).push (seqObj "list" #[] 0)).update a (bD λ_=>out.toArray))).get? a=some (seqObj "list" out.toArray c2):=⟨_,get?_update_seq ho6 λ_=>out.toArray⟩;have done:=fin c2 hc2;show wpAny (model prog w) A _ P E { s with heap:=((s.heap.update a (bD λ_=>#[])).push (seqObj "tuple" vs.toArray 0)).push (seqObj "list" #[] 0) };dsimp only;have hsz:vs.toArray.size=vs.length:=by simp
 by_cases h2:vs.toArray.size<2
 ·rw[if_pos h2,if_pos h2];refine aa (ak ?_);rw[StateT.run_pure];refine aa (ak ?_);dsimp only;have ev:out=vs:=by
   rw[eo];unfold zOn;rw[if_pos (by lia)];refine im (by simp) λi h1 h3=>?_;simp at h1;simp[h1]
  have em:(vs.toArray.zip vs.toArray).map (·.2)=out.toArray:=by
   rw[ev];apply Array.toList_inj.mp;simp;exact kM (am _)
  refine aa (seqEpoch_at ho6 rfl ?_);refine aa (listUpdate_at ho6 rfl ?_ (hsz2:=by rw[Array.size_map]; show(pairsOf vs).size<=_; rw[pairsOf_size,sizeLine_eq]; lia));simp only[bne_self_eq_false,cN,if_false];refine ak ?_;show P _ { s with heap:=Heap.update _ a (bD λ_=>(vs.toArray.zip vs.toArray).map (·.2)) };rw[em];exact done
 ·rw[if_neg h2,if_neg h2];have h2':2<=vs.length:=by lia
  obtain⟨κ,hκ,hlt⟩:=hk _ kp h2';refine aa (hκ _ ?_);refine aa (cZ (kat_run (s:={ s with heap:=((s.heap.update a (bD λ_=>#[])).push (seqObj "tuple" vs.toArray 0)).push (seqObj "list" #[] 0) }) (κ:=κ) (ks:=vs) (vs:=vs)
   (G:=λp s'=>p=(kas_sort vs.length).run f/\s'={ s with heap:=((s.heap.update a (bD λ_=>#[])).push (seqObj "tuple" vs.toArray 0)).push (seqObj "list" #[] 0) })
   (Q:=λst' s'=>(arrOf st').map (·.2)=out.toArray/\failedOf st'=none/\s'={ s with heap:=((s.heap.update a (bD λ_=>#[])).push (seqObj "tuple" vs.toArray 0)).push (seqObj "list" #[] 0) })
   rfl h2' h64 (λp' st' s' a1 a2 a3 ⟨a4,a5⟩=>⟨?_,a3,a5⟩) ((zP6 h2').wp hlt ⟨rfl,rfl⟩)) ?_ λ_ _ e=>e)
  ·rw[kat_snds rfl a2,a4,eo];unfold zOn;rw[if_neg (by lia)]
  rintro⟨⟨⟩,st'⟩ s' ⟨hp,hf,rfl⟩;dsimp only;refine aa (seqEpoch_at ho6 rfl ?_);refine aa (listUpdate_at ho6 rfl ?_ (hsz2:=by rw[hp,aG,lo,sizeLine_eq]; lia));rw[hf,hp];simp only[bne_self_eq_false,cN,if_false];exact ak done
end
def ltK:Key->Key->Bool
 | .inl a,.inl b=>decide (a<b)
 | .inr a,.inr b=>decide (a.cps.toList<b.cps.toList)
 | _,_=>false
def tO(ks:List Key):List Nat:=zOn ks.length λi j=>ltK (ks.getD i (.inl 0)) (ks.getD j (.inl 0))
def vM{α:Type}(o:List Nat)(l:List α):List α:=o.filterMap λi=>l[i]?
theorem zBv{α β:Type}(o:List Nat)(g:α->β)(l:List α):vM o (l.map g)=(vM o l).map g:=by
 unfold vM;rw[List.map_filterMap]
 congr 1
 funext i
 rw[av]
theorem qY{α:Type}{d:α}{l:List α} : ∀{o:List Nat},(∀ i∈o,i<l.length)->o.map (λi=>l.getD i d)=vM o l
 | [],_=>rfl
 | i::o,h=>by
  have hi:=h i (.head _);have e:l[i]?=some l[i]:=aj hi;unfold vM;rw[aM,cb e,qY λj hj=>h j (.tail _ hj),bh,e];rfl
theorem zB8{α:Type}{l:List α}{o:List Nat}(h:∀ i∈o,i<l.length):(vM o l).length=o.length:=by
 cases l with
 | nil=>cases o with
  | nil=>rfl
  | cons i o=>exact absurd (h i (.head _)) (iP _)
 | cons x l=>rw[<- qY (d:=x) h,ac]
theorem zAl{ks:List Key} : ∀ i∈tO ks,i<ks.length:=λi hi=>b7.mp ((zFt _ _).mem_iff.mp hi)
theorem zAd{ks:List Key} : (tO ks).length=ks.length:=by unfold tO; rw[(zFt _ _).length_eq,dr]
theorem zFg{α:Type}{l:List α}{o:List Nat}{x:α}(h:x∈vM o l):x∈l:=by
 obtain⟨i,_,e⟩:=fo.mp h;exact aF e
def zYe(ks:List Key):Prop:=(∃ ns:List Int,ks=ns.map .inl)\/∃ ns:List aC,ks=ns.map .inr
def zZn(h:aV)(v:af)(k:Key):Prop:=∃(a:ag)(o:cA)(n:Nat)(p:af)(r:List af),v=.ref a/\h.get? a=some o/\o.cls=.type "tuple" /\ o.data=.seq (p::r).toArray n/\xI (kV k) p
section
open PySem.W
variable{prog:aL}{w:aT}{A:bu}{E:af->ai->Prop}{s:ai}{vs:List af}{ks:List Key}
theorem zJm{h:aV} : ∀{vs:List af}{ks:List Key},vs.length=ks.length->(∀(j:Nat)(v:af)(k:Key),vs[j]?=some v->ks[j]?=some k->zZn h v k)->∃ fs,KatTups h vs fs/\fs.length=ks.length/\∀ v∈fs,∃ k∈ks,xI (kV k) v
 | [],[],_,_=>⟨[],.nil,rfl,λv hv=>nomatch hv⟩
 | [],_::_,hl,_=>by simp at hl
 | _::_,[],hl,_=>by simp at hl
 | v::vs,k::ks,hl,hh=>by
  obtain⟨a,o,n,p,r,rfl,e,c,d,rp⟩:=hh 0 v k rfl rfl;obtain⟨fs,t,l,f⟩:=zJm (vs:=vs) (ks:=ks) (by simpa using hl) λj b m h1 h2=>hh (j+1) b m (by simpa using h1) (by simpa using h2);refine⟨p::fs,.cons e c d rfl t,by simp[l],λv hv=>?_⟩;rcases aI.mp hv with rfl | hv
  ·exact⟨k,.head _,rp⟩
  ·obtain⟨k',hk,h⟩:=f v hv;exact⟨k',.tail _ hk,h⟩
theorem zJq(hl:vs.length=ks.length)(hT:∀ (j:Nat) (v:af) (k:Key),vs[j]?=some v->ks[j]?=some k->zZn s.heap v k)(one:zYe ks)(nd:ks.Nodup)(h2:2<=vs.length) :
  (∀ Q:j5->ai->Prop,Q (tuples' true) s->wpAny (model prog w) A (keyKind' vs.toArray) Q E s)/\∀ i j,i<vs.length->j<vs.length->i≠j->∀ C:Bool->ai->Prop,C (ltK (ks.getD i (.inl 0)) (ks.getD j (.inl 0))) s->kas_ask prog w A (tuples' true) vs i j C s:=by
 constructor
 ·intro Q hq;obtain⟨fs,t,l,f⟩:=zJm hl hT;rcases one with ⟨ns,rfl⟩ | ⟨ns,rfl⟩
  ·refine kat_kind (T:=.type "int") t (by lia) (λv hv=>?_) (by decide) hq;obtain⟨k,hk,r⟩:=f v hv;obtain⟨n,_,rfl⟩:=aD.mp hk;obtain⟨tk,rfl⟩:=(show ∃ tk,v=dL n tk from r);exact .now
  ·refine kat_kind (T:=.type "str") t (by lia) (λv hv=>?_) (by decide) hq;obtain⟨k,hk,r⟩:=f v hv;obtain⟨n,_,rfl⟩:=aD.mp hk;obtain⟨tk,rfl⟩:=(show ∃ tk,v=cC n tk from r);exact .now
 ·intro i j hi hj ne C hC;have vi:vs[i]?=some vs[i]:=aj hi;have vj:vs[j]?=some vs[j]:=aj hj;have ki:ks[i]?=some (ks[i]'(by lia)):=aj (by lia);have kj:ks[j]?=some (ks[j]'(by lia)):=aj (by lia);have nk:ks[i]'(by lia)≠ks[j]'(by lia):=λz=>ne ((dX nd).mp z);unfold kas_ask;rw[bh,bh,vi,vj];rw[bh,bh,ki,kj] at hC;obtain⟨a,o,n,p,r,e1,h1,_,d1,r1⟩:=hT i _ _ vi ki;obtain⟨a',o',n',p',r',e2,h2',_,d2,r2⟩:=hT j _ _ vj kj;show wpAny (model prog w) A (keyLt' (tuples' true) vs[i] vs[j]) C _ s;rw[e1,e2]
  replace hC:C (ltK (ks[i]'(by lia)) (ks[j]'(by lia))) s:=hC
  generalize ks[i]'(by lia)=k1 at *;generalize ks[j]'(by lia)=k2 at *;have m1:=aF ki;have m2:=aF kj;rcases one with ⟨ns,rfl⟩ | ⟨ns,rfl⟩
  ·obtain⟨x,_,rfl⟩:=aD.mp m1;obtain⟨y,_,rfl⟩:=aD.mp m2;obtain⟨tk,rfl⟩:=(show ∃ tk,p=dL x tk from r1);obtain⟨tk',rfl⟩:=(show ∃ tk,p'=dL y tk from r2);refine kat_lt h1 d1 h2' d2 (kat_cons (ka ?_));rw[show(x == y)=false from beq_eq_false_iff_ne.mpr λz=>nk (by rw[z])];exact kat_no (oneLt_int hC)
  ·obtain⟨x,_,rfl⟩:=aD.mp m1;obtain⟨y,_,rfl⟩:=aD.mp m2;obtain⟨tk,rfl⟩:=(show ∃ tk,p=cC x tk from r1);obtain⟨tk',rfl⟩:=(show ∃ tk,p'=cC y tk from r2);refine kat_lt h1 d1 h2' d2 (kat_cons (ke ?_));rw[show decide (x=y)=false from decide_eq_false λz=>nk (by rw[z])];exact kat_no (oneLt_str hC)
end
section
variable{prog:aL}{w:aT}{A:bu}{E:af->ai->Prop}{s:ai}
def AskF(prog:aL)(w:aT)(s:ai)(vs:List af)(f:Nat->Nat->Bool):Prop :=
 ∃ κ:j5,∀(A:bu)(E:af->ai->Prop),(∀ Q:j5->ai->Prop,Q κ s->wpAny (model prog w) A (keyKind' vs.toArray) Q E s)/\∀ i j,i<vs.length->j<vs.length->i≠j->∀ C:Bool->ai->Prop,C (f i j) s->kas_ask prog w A κ vs i j C s
theorem zJk{f:Nat->Nat->Bool}{l:ag}{vs:List af}{Q:af->ai->Prop}(hl:s.heap.IsList l vs.toArray)(h64:vs.length<64)
  (hk:∀ h':aV,(∀ b o,s.heap.get? b=some o->h'.get? b=some o)->2<=vs.length->AskF prog w { s with heap:=h' } vs f)
  (h:∀(h':aV)(c:Nat),(∀ b o,s.heap.get? b=some o->h'.get? b=some o)->h'.get? (s.heap.objs.size+1)=some (seqObj "list" ((zOn vs.length f).map λi=>vs.getD i a7).toArray c)->Q (.ref (s.heap.objs.size+1)) { s with heap:=h' }) :
  wpAny (model prog w) A (call (.builtin "sorted") [.ref l]) Q E s:=by
 refine gX kind_sorted plain_sorted entry_sorted (args_sorted1 _) ?_;unfold eV.«sorted»;refine aa (m:=checkCount "sorted" 1 1 _) (ak ?_);refine aa (collect_list hl ?_ (by rw[sizeLine_eq]; lia));refine aa (jq ?_ (by rw[sizeLine_eq]; lia));have hsz:((s.heap.push (seqObj "list" #[] 0)).update s.heap.objs.size (bD (· ++ vs.toArray))).objs.size=s.heap.objs.size+1:=by
  rw[Heap.size_update,size_push']
 have hoL:(((s.heap.push (seqObj "list" #[] 0)).update s.heap.objs.size (bD (· ++ vs.toArray))).push (seqObj "list" vs.toArray 0)).get? (s.heap.objs.size+1)=some (seqObj "list" vs.toArray 0):=by
  rw[<- hsz]; exact ap _ rfl
 have keep:∀ b o,s.heap.get? b=some o->(((s.heap.push (seqObj "list" #[] 0)).update s.heap.objs.size (bD (· ++ vs.toArray))).push (seqObj "list" vs.toArray 0)).get? b=some o:=λb o q=>by
  have hlt:b<s.heap.objs.size:=az q;rw[j6 _ _ _ (by rw[hsz]; exact aQ (j7 hlt)),Heap.get?_update_ne _ _ _ _ (aQ hlt),j6 _ _ _ (aQ hlt)];exact q
 have kp:∀ h':aV,(∀ b o,b≠s.heap.objs.size+1->(((s.heap.push (seqObj "list" #[] 0)).update s.heap.objs.size (bD (· ++ vs.toArray))).push (seqObj "list" vs.toArray 0)).get? b=some o->h'.get? b=some o)->∀ b o,s.heap.get? b=some o->h'.get? b=some o:=λh' k b o e=>k b o (aQ (j7 (az e))) (keep b o e);show wpAny _ _ _ _ _ { s with heap:=((s.heap.push (seqObj "list" #[] 0)).update s.heap.objs.size (bD (· ++ vs.toArray))).push (seqObj "list" vs.toArray 0) };rw[hsz];refine aa (bI (bE slot_list_sort ⟨_,hoL,rfl⟩ entry_list_sort ?body (args_list_sort _)))
 case body =>
  refine zDa (f:=f) (s:={ s with heap:=((s.heap.push (seqObj "list" #[] 0)).update s.heap.objs.size (bD (· ++ vs.toArray))).push (seqObj "list" vs.toArray 0) }) hoL h64 (λh2 k2 two=>?_) λh2 c k2 e2=>⟨_,rfl,ak ⟨_,rfl,h h2 c (kp h2 k2) e2⟩⟩;obtain⟨κ,hκ⟩:=hk h2 (kp h2 k2) two;exact⟨κ,hκ _ _⟩
end
theorem zM6:∀{xs:List V}{us:List af}{j:Nat}{v:V},yY xs us->xs[j]?=some v->∃ u,us[j]?=some u/\xI v u
 | _,_,_,_,.nil,e=>by simp at e
 | _,_,0,_,.cons r _,e=>by simp at e; subst e; exact⟨_,rfl,r⟩
 | _,_,j+1,_,.cons _ r,e=>by
  obtain⟨u,h1,h2⟩:=zM6 (j:=j) r (by simpa using e);exact⟨u,by simpa using h1,h2⟩
section
variable{X:Cx}
theorem zAb:vV X (.builtin "sorted") (λxs H Q=>∃(l:ag)(ts:List (ag×Key×List V)),xs=[.ref l]/\SqL X.K H l ((ts.map (·.1)).map V.ref)/\(∀ t∈ts,H t.1=some (.tup (kV t.2.1::t.2.2)))/\ts.length<64/\zYe (ts.map (·.2.1))/\(ts.map (·.2.1)).Nodup /\
  ∀ p:ag,H p=none->Q (.ref p) (upd H p (.lst ((vM (tO (ts.map (·.2.1))) (ts.map (·.1))).map V.ref)))):=by
 intro pins s σ H xs us Q I r h;obtain⟨l,ts,rfl,hq,hts,h64,one,nd,q⟩:=h;obtain⟨u,rfl,ru⟩:=yY.one r;cases ru;obtain⟨its,rv,pl,hz⟩:=I.list hq;have ei:=zQz rv;subst ei;have ll:((ts.map (·.1)).map aK).length=(ts.map (·.2.1)).length:=by simp
 have hT:∀ h':aV,(∀ b o,s.heap.get? b=some o->h'.get? b=some o)->∀(j:Nat)(v:af)(k:Key),((ts.map (·.1)).map aK)[j]?=some v->(ts.map (·.2.1))[j]?=some k->zZn h' v k:=λh' keep j v k e1 e2=>by
  rw[bw,av,aJ] at e1;obtain⟨t,et,rfl⟩:=e1;rw[av,et] at e2;cases e2;obtain⟨its,r1,⟨o,e,c,n,d⟩,_⟩:=I.tuple (SqT.of (hts t (aF et)));cases r1 with
  | cons r1 r2=>exact⟨t.1,o,n,_,_,rfl,keep _ _ e,c,d,r1⟩
 refine zJk (f:=λi j=>ltK ((ts.map (·.2.1)).getD i (.inl 0)) ((ts.map (·.2.1)).getD j (.inl 0))) pl.isList (by simpa using h64) (λh' keep two=>⟨tuples' true,λA E=>zJq ll (hT h' keep) one nd two⟩) λh' c keep e2=>?_;rw[ll,show zOn (ts.map (·.2.1)).length (λi j=>ltK ((ts.map (·.2.1)).getD i (.inl 0)) ((ts.map (·.2.1)).getD j (.inl 0)))=tO (ts.map (·.2.1)) from rfl,qY (λi hi=>by rw[ll]; exact zAl i hi),zBv] at e2;have I2:Inv X pins σ H { s with heap:=h' }:=I.kept (t':=s.toks) keep;have fr:H (s.heap.objs.size+1)=none:=I.hok.fresh (fv _);refine⟨.ref (s.heap.objs.size+1),_,I2.more (o:=.lst ((vM (tO (ts.map (·.2.1))) (ts.map (·.1))).map V.ref)) (I.fpOk (H':=H) (fv _) fr) ⟨?_,_,c,zB3 _,e2⟩,rfl,q _ fr⟩;rw[ac,zB8 (λi hi=>by have:=zAl i hi; simpa using this),zAd,ac,sizeLine_eq];lia
theorem zKj:vV X (.builtin "sorted") (λxs H Q=>∃(l:ag)(ns:List aC),xs=[.ref l]/\SqL X.K H l (ns.map V.str)/\ns.length<64 /\
  ∀ p:ag,H p=none->Q (.ref p) (upd H p (.lst ((vM (tO (ns.map .inr)) ns).map V.str)))):=by
 intro pins s σ H xs us Q I r h;obtain⟨l,ns,rfl,hq,h64,q⟩:=h;obtain⟨u,rfl,ru⟩:=yY.one r;cases ru;obtain⟨its,rv,pl,hz⟩:=I.list hq;have hn:its.length=ns.length:=by rw[<- rv.length,ac]
 have el:∀ j,j<ns.length->∃ t,its[j]?=some (cC (ns.getD j "") t):=λj hj=>by
  obtain⟨x,e1,e2⟩:=zM6 rv (j:=j) (v:=V.str (ns.getD j "")) (by rw[av,bh,aj hj]; rfl);obtain⟨t,rfl⟩:=(show ∃ t,x=cC _ t from e2);exact⟨t,e1⟩
 refine zJk (f:=λi j=>ltK ((ns.map (.inr:aC->Key)).getD i (.inl 0)) ((ns.map (.inr:aC->Key)).getD j (.inl 0))) pl.isList (by lia) (λh' keep two=>⟨oneType',λA E=>⟨λQ' hq'=>?_,λi j hi hj ne C hC=>?_⟩⟩) λh' c keep e2=>?_
 ·refine kas_kind (T:=.type "str") two (λv hv=>?_) (by decide) (by decide) hq';obtain⟨i,hi⟩:=cF.mp hv;obtain⟨t,e⟩:=el i (by rw[<- hn]; exact(ay.mp hi).1);rw[hi] at e;cases e;exact .now
 ·obtain⟨t1,e1⟩:=el i (by lia);obtain⟨t2,e2⟩:=el j (by lia);unfold kas_ask;rw[bh,bh,e1,e2];refine kas_lt_str ?_;have g:∀ k,k<ns.length->(ns.map (.inr:aC->Key)).getD k (.inl 0)=.inr (ns.getD k ""):=λk hk=>by
   rw[bh,av,bh,aj hk]; rfl
  have hC:C (ltK ((ns.map (.inr:aC->Key)).getD i (.inl 0)) ((ns.map (.inr:aC->Key)).getD j (.inl 0))) _:=hC;rw[g i (by lia),g j (by lia)] at hC;exact hC
 ·have lm:∀ i∈tO (ns.map (.inr:aC->Key)),i<ns.length:=λi hi=>by have:=zAl i hi; rwa[ac] at this
  have ec:((zOn its.length λi j=>ltK ((ns.map (.inr:aC->Key)).getD i (.inl 0)) ((ns.map (.inr:aC->Key)).getD j (.inl 0))).map λi=>its.getD i a7)=vM (tO (ns.map .inr)) its:=by
   rw[show zOn its.length (λi j=>ltK ((ns.map (.inr:aC->Key)).getD i (.inl 0)) ((ns.map (.inr:aC->Key)).getD j (.inl 0)))=tO (ns.map (.inr:aC->Key)) from by unfold tO; rw[ac,hn],qY λi hi=>by rw[hn]; exact lm i hi]
  rw[ec] at e2;have I2:Inv X pins σ H { s with heap:=h' }:=I.kept (t':=s.toks) keep;have fr:H (s.heap.objs.size+1)=none:=I.hok.fresh (fv _);refine⟨.ref (s.heap.objs.size+1),_,I2.more (o:=.lst ((vM (tO (ns.map .inr)) ns).map V.str)) (I.fpOk (H':=H) (fv _) fr) ⟨?_,_,c,?_,e2⟩,rfl,q _ fr⟩
  ·rw[ac,zB8 lm,zAd,ac,sizeLine_eq];lia
  ·rw[<- zBv];exact zEu rv _
end
theorem zLz{P:aL}{w:aT}{kvs:List (Key×V)}{vs:List (Key×af)}{lo:ag}{h':aV}{as:List ag}(rel:KV kvs vs)(G:KdxG (yI P w) vs lo h' as):∀(j:Nat)(a:ag)(e:Key×V),as[j]?=some a->kvs[j]?=some e->∃ key x,xI (kV e.1) key/\xI e.2 x/\h'.get? a=some { cls:=.type "tuple", data:=.seq #[key,x] }:=λj a e ha he=>by
 obtain⟨key,k,x,g1,g2,g3⟩:=G.pairs j a ha;obtain⟨u,hu,ru⟩:=KV.at (vs:=vs) (i:=j) (k:=e.1) (v:=e.2) rel he;rw[hu] at g1;cases g1;have g2':zLp e.1 key=true:=g2;refine⟨key,_,?_,ru,g3⟩;rcases yS g2' with ⟨i,t,e1,e2⟩ | ⟨y,t,e1,e2⟩ <;> rw[e1,e2] <;> exact⟨t,rfl⟩
section
variable{X:Cx}
theorem zDb(hc:X.calm=true):vV X (.builtin "sorted") (λxs H Q=>∃(v d:ag)(kvs:List (Key×V)),xs=[.ref v]/\H v=some (.ext (zA0 v d))/\Rd H d (.dK kvs)/\kvs.length<64/\zYe (kvs.map (·.1))/\(kvs.map (·.1)).Nodup /\
  ∀(p:ag)(as:List ag)(H2:Hp),Same H H2->H p=none->as.length=kvs.length->H2 p=some (.lst ((vM (tO (kvs.map (·.1))) as).map V.ref))->(∀(j:Nat)(a:ag)(e:Key×V),as[j]?=some a->kvs[j]?=some e->H a=none/\H2 a=some (.tup [kV e.1,e.2]))->Q (.ref p) H2):=by
 intro pins s σ H xs us Q I r h;obtain⟨v,d,kvs,rfl,hv,hd,h64,one,nd,q⟩:=h;obtain⟨u,rfl,ru⟩:=yY.one r;cases ru;obtain⟨hz,ns,vs,rel,da⟩:=hd.ok I.hok;obtain⟨o,es,ep,e,c,dt,hk,hp,hn⟩:=da;have hl:vs.length=kvs.length:=rel.length.symm;have dat:s.heap.DictAt (yI X.prog X.w) d vs ep:=⟨o,es,e,c,dt,hk,hp,hn⟩;have hview:s.heap.IsItemsView v d:=(show xL X.prog X.w H s.heap v (.ext (zA0 v d)) from I.hok v _ hv).1;have sQ:kvs.length<=sizeLine:=by rw[sizeLine_eq]; lia
 have hh:X.A.in1.handled=none:=I.ok.hd hc;refine gX kind_sorted plain_sorted entry_sorted (args_sorted1 _) ?_;unfold eV.«sorted»;refine aa (m:=checkCount "sorted" 1 1 _) (ak ?_);refine aa (kdx_collect (knd:=yI X.prog X.w) (kvs:=vs) (ep:=ep) hh hview dat (by rw[hl]; exact sQ) λh' tk as keep la G=>?_);refine aa (jq ?_ (by rw[ac,la,hl]; exact sQ));have ln:as.length=kvs.length:=la.trans hl;have at_:=zLz rel G;have hoL:(h'.push (seqObj "list" (as.map aK).toArray 0)).get? h'.objs.size=some (seqObj "list" (as.map aK).toArray 0):=ap _ rfl;have ll:(as.map aK).length=(kvs.map (·.1)).length:=by rw[ac,ac,ln]
 have lp:∀ i∈tO (kvs.map (·.1)),i<as.length:=λi hi=>by have:=zAl i hi; rw[ac] at this; lia
 show wpAny _ _ _ _ _ { s with heap:=h'.push (seqObj "list" (as.map aK).toArray 0),toks:=tk };refine aa (bI (bE slot_list_sort ⟨_,hoL,rfl⟩ entry_list_sort ?body (args_list_sort _)))
 case body =>
  refine zDa (f:=λi j=>ltK ((kvs.map (·.1)).getD i (.inl 0)) ((kvs.map (·.1)).getD j (.inl 0))) (s:={ s with heap:=h'.push (seqObj "list" (as.map aK).toArray 0),toks:=tk }) hoL (by rw[ac,ln]; exact h64) (λh2 k2 two=>⟨tuples' true,zJq ll (λj v k e1 e2=>?_) one nd two⟩) λh2 c k2 e2=>⟨_,rfl,ak ⟨_,rfl,?_⟩⟩
  ·rw[av,aJ] at e1 e2;obtain⟨a,ea,rfl⟩:=e1;obtain⟨e,ee,rfl⟩:=e2;obtain⟨key,x,g1,_,g3⟩:=at_ j a e ea ee;exact⟨a,_,_,key,[x],rfl,k2 a _ (aQ (az g3)) (ah _ g3),rfl,rfl,g1⟩
  ·rw[ll,show zOn (kvs.map (·.1)).length (λi j=>ltK ((kvs.map (·.1)).getD i (.inl 0)) ((kvs.map (·.1)).getD j (.inl 0)))=tO (kvs.map (·.1)) from rfl,qY (λi hi=>by rw[ac]; exact lp i hi),zBv] at e2;have kp:∀ b o,s.heap.get? b=some o->h2.get? b=some o:=λb o e=>k2 b o (aQ (az (keep b o e))) (ah _ (keep b o e));have I2:Inv X pins σ H { s with heap:=h2,toks:=tk }:=I.kept (t':=tk) kp;have ab:∀ a∈as,s.heap.objs.size<=a:=λa ha=>dZ (G.above a ha);have I1:Inv X pins σ H { s with heap:=h',toks:=tk }:=I.kept (t':=tk) keep;have fp:=I1.fpOk (H':=H) (am _) (I1.hok.fresh (am _));have I3:Inv X pins σ (upd H h'.objs.size (.lst ((vM (tO (kvs.map (·.1))) as).map V.ref))) { s with heap:=h2,toks:=tk }:=I2.more fp ⟨by rw[ac,zB8 lp,zAd,ac]; exact sQ,_,c,zB3 _,e2⟩;obtain⟨H3,I4,s3,g3,n3⟩:=I3.tuples (lo:=0) (kvs.map λe=>[kV e.1,e.2]) G.rise (λa ha=>by
    refine I.fpOk (ab a ha) ?_;rw[zG (aQ (G.there ha))];exact I.hok.fresh (ab a ha)) (by rw[ac,ln]) λj a xs ha hx H'=>by
     rw[av,aJ] at hx;obtain⟨e,he,rfl⟩:=hx;obtain⟨key,x,g1,g2,g3⟩:=at_ j a e ha he;exact⟨by show 2<=sizeLine; rw[sizeLine_eq]; decide,[key,x],.cons g1 (.cons g2 .nil),_,k2 a _ (aQ (az g3)) (ah _ g3),rfl,_,rfl⟩
   exact⟨.ref h'.objs.size,H3,I4,rfl,q h'.objs.size as H3 ((zB fp.1 _).trans s3) fp.1 ln (s3 _ _ zA) λj a e ha he=>⟨I.hok.fresh (ab a (aF ha)),g3 j a _ ha (by rw[av,he]; rfl)⟩⟩
theorem zGx(hc:X.calm=true):vV X (.type "list") (λxs H Q=>∃(v d:ag)(kvs:List (Key×V)),xs=[.ref v]/\H v=some (.ext (zA0 v d))/\Rd H d (.dK kvs)/\kvs.length<=1000 /\
  ∀(p:ag)(as:List ag)(H2:Hp),Same H H2->H p=none->as.length=kvs.length->H2 p=some (.lst (as.map V.ref))->(∀(j:Nat)(a:ag)(e:Key×V),as[j]?=some a->kvs[j]?=some e->H a=none/\H2 a=some (.tup [kV e.1,e.2]))->Q (.ref p) H2):=by
 intro pins s σ H xs us Q I r h;obtain⟨v,d,kvs,rfl,hv,hd,h64,q⟩:=h;obtain⟨u,rfl,ru⟩:=yY.one r;cases ru;obtain⟨hz,ns,vs,rel,da⟩:=hd.ok I.hok;obtain⟨o,es,ep,e,c,dt,hk,hp,hn⟩:=da;have hl:vs.length=kvs.length:=rel.length.symm;have dat:s.heap.DictAt (yI X.prog X.w) d vs ep:=⟨o,es,e,c,dt,hk,hp,hn⟩;have hview:s.heap.IsItemsView v d:=(show xL X.prog X.w H s.heap v (.ext (zA0 v d)) from I.hok v _ hv).1;have sQ:kvs.length<=sizeLine:=by rw[sizeLine_eq]; lia
 refine kdx_call (knd:=yI X.prog X.w) (kvs:=vs) (ep:=ep) (show X.A.handled=none from I.ok.hd hc) hview dat (by rw[hl]; exact sQ) λh' tk acc c as keep e2 la G ea=>?_;have ln:as.length=kvs.length:=la.trans hl;have at_:=zLz rel G;have I1:Inv X pins σ H { s with heap:=h',toks:=tk }:=I.kept (t':=tk) keep;have ab:∀ a∈as,s.heap.objs.size<a:=λa ha=>G.above a ha;have fp:=I.fpOk (H':=H) (am _) (I.hok.fresh (am _));have I3:Inv X pins σ (upd H s.heap.objs.size (.lst (as.map V.ref))) { s with heap:=h',toks:=tk }:=I1.more fp ⟨by rw[ac,ln]; exact sQ,as.map aK,c,zB3 as,by rw[<- ea,i6]; exact e2⟩;obtain⟨H3,I4,s3,g3,n3⟩:=I3.tuples (lo:=0) (kvs.map λe=>[kV e.1,e.2]) G.rise (λa ha=>by
  refine I.fpOk (dZ (ab a ha)) ?_;rw[zG (d3 (ab a ha))];exact I.hok.fresh (dZ (ab a ha))) (by rw[ac,ln]) λj a xs ha hx H'=>by
   rw[av,aJ] at hx;obtain⟨e,he,rfl⟩:=hx;obtain⟨key,x,g1,g2,g3⟩:=at_ j a e ha he;exact⟨by show 2<=sizeLine; rw[sizeLine_eq]; decide,[key,x],.cons g1 (.cons g2 .nil),_,g3,rfl,_,rfl⟩
 exact⟨.ref s.heap.objs.size,H3,I4,rfl,q _ as H3 ((zB fp.1 _).trans s3) fp.1 ln (s3 _ _ zA) λj a e ha he=>⟨I.hok.fresh (dZ (ab a (aF ha))),g3 j a _ ha (by rw[av,he]; rfl)⟩⟩
end
end L2

namespace L2
open PySem PySem.Spec PyProof.Rows
def Iti(φ:Hp->Prop)(kvs:List (Key×V)):It :=
 ⟨λi H=>φ H/\i<kvs.length,λi H v H'=>∃(T:ag)(e:Key×V),v=.ref T/\H T=none/\H'=upd H T (.tup [kV e.1,e.2])/\kvs[i]?=some e,λi H=>φ H/\kvs.length<=i⟩
theorem zF2:entryFor table "dict_itemiterator.__iter__" = some eV.«dict_keyiterator.__iter__»:=entryFor_alias (id' := "dict_keyiterator.__iter__") (by kernel_rfl) rfl (by decide +kernel) (by kernel_rfl)
theorem zEy{prog:aL}{w:aT}{A:bu}{E:af->ai->Prop}{s:ai}{it d:ag}{i n ep:Nat}{ok ov:af}{Q:af->ai->Prop}(hit:IsItemIter s.heap it d i n ep ok ov)(h:Q (.ref it) s):wpAny (model prog w) A (pyIter (.ref it)) Q E s:=by
 have ty:s.TypeIs (.ref it) "dict_itemiterator" :=⟨_,hit,rfl⟩;refine jT ty fY (bE fY ty zF2 ?_ (F.args_dict_itemiterator_iter_1 _));show wpAny _ _ (ret (.ref it)) _ _ s;exact ak ⟨_,rfl, "dict_itemiterator", _,ty,F.slot_dict_itemiterator_next.lookup,h⟩
theorem zNz{P:aL}{w:aT}{K:ae}{elts:List bj}{kt:Nat}{pt:fg}{d:ag}{kvs:List (Key×V)}{o:cA}{es:Array dn}{ep:Nat}(ho:o.data=.dict es ep)(it:ag) :
  zUj P w K (.Tuple elts kt pt) (Iti (zOh d o kvs) kvs) [it] it (λi h=>∃ ok ov,IsItemIter h it d i kvs.length ep ok ov) where
 mem:=by simp
 obj:=λi h st b hb=>by
  have e:b=it:=by simpa using hb
  subst e;obtain⟨ok,ov,e⟩:=st;exact⟨_,e,λv z=>by cases z⟩
 keep:=λi h h' ⟨ok,ov,st⟩ k=>⟨ok,ov,k it (by simp) _ st⟩
 item:=by
  intro X hP hw hK hc i pins s σ H E I hf st ⟨fz,hi⟩;subst hP hw hK;obtain⟨vs,r,da,_,_⟩:=I.frzAt fz ho;obtain⟨u,hu,ru⟩:=KV.at (vs:=vs) (k:=kvs[i].1) (v:=kvs[i].2) r (aj hi);obtain⟨ok,ov,st⟩:=st;rw[r.length] at st;have fresh:H s.heap.objs.size=none:=I.hok.fresh (am _);have litz:it<s.heap.objs.size:=az st;refine wpAny_pyNext_items_item st da hu λkey h' hk out ht hz kp=>⟨_,rfl,wpAny_letOwnedTupleGo_items out λh2 st2 sb=>?_⟩;rw[<- r.length] at st2;have rk:xI (kV kvs[i].1) key:=by
   rcases yS hk with ⟨j,t,e1,e2⟩ | ⟨x,t,e1,e2⟩
   ·rw[e1,e2]; exact⟨t,rfl⟩
   ·rw[e1,e2]; exact⟨t,rfl⟩
  have kp2:∀ c o,c ∉ [it]->s.heap.get? c=some o->h2.get? c=some o:=λc o hc e=>by
   have hc:c≠it:=by simpa using hc
   exact sb.extBut c o hc (kp c o hc e)
  have neT:∀ b o,s.heap.get? b=some o->b≠s.heap.objs.size:=λb o e=>aQ (az e);have neH:∀ b o,H b=some o->b ∉ [it]:=λb o e hb=>by
   rw[(hf b hb).1] at e;cases e
  have upn:∀ b u,H b=some u->upd H s.heap.objs.size (.tup [kV kvs[i].1,kvs[i].2]) b=some u:=λb u e=>by
   rw[zG (zK e fresh)];exact e
  refine⟨.ref s.heap.objs.size,upd H s.heap.objs.size (.tup [kV kvs[i].1,kvs[i].2]),?_,rfl,⟨_,kvs[i],rfl,fresh,rfl,aj hi⟩,⟨_,_,st2⟩,λb hb=>?_⟩
  ·refine Inv.step (s:=s) (h':=h2) (g':=s.gens) (d':=s.drawn) (t':=s.toks) (ch:=[it]) I (λb hb=>?_) (λb o _ _ hc e _=>kp2 b o hc e) (λb o _ _ hc e _=>⟨o.slots,kp2 b o hc e⟩) (λb o _ e n=>?_) (λb o hc e=>⟨o,kp2 b o hc e⟩)
    (λb zs e=>upn b _ e) (λb o zs e=>upn b _ e) (λb ps e=>⟨#[],by rw[upn b _ e]; simp⟩) (λm hm=>?_) (λb o e=>?_) I.bare
   ·obtain⟨_,f1,_,f3,f4,f5⟩:=hf b hb;exact⟨f3,f1,f4,f5⟩
   ·rw[zG (neT b o e)];exact n
   ·obtain⟨o,es,ep,ho,r⟩:=hm;refine⟨o,es,ep,kp2 _ o (λhb=>?_) ho,r⟩;exact(hf _ hb).2.1 rfl
   ·by_cases hb:b=s.heap.objs.size
    ·subst hb;rw[zA] at e;cases e;exact⟨by show 2<=sizeLine; decide,[key,u],.cons rk (.cons ru .nil),_,sb.extBut _ _ (d3 litz) ht,rfl,_,rfl⟩
    ·rw[zG hb] at e;refine(I.hok b o e).stay (λc u hc q=>kp2 c u ?_ q) (λc q=>upn c _ q) λc zs q=>upn c _ q;rcases hc with hc | hc
     ·rw[hc]; exact neH b o e
     ·exact neH c _ hc
  ·have e:b=it:=by simpa using hb
   subst e;rw[zG (aQ litz)];exact(hf b hb).1
 done:=by
  intro X hP hw hK hc i pins s σ H E I hf st ⟨fz,hi⟩;subst hP hw hK;obtain⟨vs,r,da,_,_⟩:=I.frzAt fz ho;obtain⟨f0,f1,f2,f3,f4,f5⟩:=hf it (by simp);obtain⟨ok,ov,st⟩:=st;rw[r.length] at st;exact wpAny_pyNext_items_end (I.ok.hd hc) st da (ce (by rw[<- r.length]; exact hi)) λh' eb=>⟨rfl,I.turned (t':=s.toks) (λb o hb e=>eb b o hb e) f0 f1 f3 f4 f5⟩
 self:=λ_ _ _ _ _ ⟨_,_,st⟩ h=>zEy st h
section
variable{X:Cx}{l:bj}{te:TE}{apos pos:fg}
def zXl(te:TE):TI:=λσ H R=>te σ H λx H1=>∃(d:ag)(kvs:List (Key×V)),x=.ref d/\Rd H1 d (.dK kvs)/\∀(o:cA)(H2:Hp),zTn d o kvs H1 H2->R (Iti (zOh d o kvs) kvs) H2
theorem zSf{elts:List bj}{kt:Nat}{pt:fg}(hl:PE X l te)(hbase:attributeBase l "items" X.env (eval l X.env)=eval l X.env:=by rfl)(hline:(apos.endLine == pos.line)=true:=by rfl):PI X (.Tuple elts kt pt) (.Call (.Attribute l "items" apos) [] [] pos) (zXl te):=by
 intro pins s σ H R I h;refine fF (T := "dict") (id := "dict.items") hbase rfl hline hJ fI jW (thn (hl pins s σ H _ I h) λv s1 ⟨x,H1,I1,r1,d,kvs,e,hd,q⟩=>?_);subst e;cases r1;obtain⟨o,es,ep,H2,ho,ft,I2⟩:=I1.frozen hd;obtain⟨vs,r,da,_,ns⟩:=I2.frzAt ft.1 ho;exists da.dictOf.typeIs,da.dictOf.mapOf.noDict;show wpAny _ _ (callWith pos (.builtin "dict.items") [.ref d] [] []) _ _ s1;refine method_meetsIn fI jF rfl (gj ⟨rfl,da.dictOf.typeIs,ji _,_,meets_dict_items (yI X.prog X.w) d ns,⟨vs,da.dictOf⟩,?_⟩);refine wpAny_pyIter_items (knd:=yI X.prog X.w) (d:=d) (kvs:=vs) (ep:=ep) ⟨_,ap _ rfl,rfl,rfl⟩ (da.push _) ?_;have I3:=I2.kept (t':=s1.toks) (h':=s1.heap.push { cls:=.type "dict_items", data:=.fields #[.ref d] }) λb o e=>ah _ e;have I4:=I3.kept (t':=s1.toks) (h':=(s1.heap.push { cls:=.type "dict_items", data:=.fields #[.ref d] }).push { cls:=.type "dict_itemiterator", data:=.fields #[.none,.bool false,.ref d,.int 0 0,.int vs.length 0,.int ep 0,.none,.none] }) λb o e=>ah _ e;refine⟨_,[_],_,_,H2,rfl,I4,zNz ho _,⟨_,_,by rw[r.length]; exact ap _ rfl⟩,λb hb=>?_,q o H2 ft⟩;have e:=aw.mp hb;subst e;exact I3.fpOk (am _) (I3.hok.fresh (am _))
end
section
variable{φ:Hp->Prop}{kvs:List (Key×V)}{g:TG}{σ0:St}{H1:Hp}{D:ag}{tt:TT}{te:TE}{Q:VK}
theorem zVi(Pv:Nat->St->List V->Hp->Prop)(h0:Pv 0 σ0 [] (upd H1 D (.lst [])))(hl:∀ i σ ys H,Pv i σ ys H->φ H/\H D=some (.lst ys))
  (hs:∀(i:Nat)(e:Key×V)(T:ag) σ ys H,kvs[i]?=some e->H T=none->Pv i σ ys H->g (.ref T) σ (upd H T (.tup [kV e.1,e.2])) λσ2 H2=>te σ2 H2 λy H4=>H4 D=some (.lst ys)/\ys.length<sizeLine/\Pv (i+1) σ2 (ys++[y]) (upd H4 D (.lst (ys++[y]))))
  (hd:∀ σ ys H,Pv kvs.length σ ys H->Q (.ref D) H):zCv (Iti φ kvs) D g zWu te σ0 H1 Q:=by
 exists λi m σ ys H=>m=kvs.length-i/\i<=kvs.length/\Pv i σ ys H,⟨kvs.length,by simp,bf _,h0⟩;rintro i m σ ys H ⟨rfl,hi,p⟩;obtain⟨q,qd⟩:=hl i σ ys H p;exists qd;by_cases hlt:i<kvs.length
 ·refine .inr ⟨⟨q,hlt⟩,Pv (i+1),λσ' zs H' z=>⟨kvs.length-(i+1),by lia,rfl,hlt,z⟩,λx H' ⟨T,e,ex,hT,eH,y⟩=>?_⟩;subst ex eH;exact hs i e T σ ys _ y hT p
 ·have e:i=kvs.length:=by lia
  subst e;exact .inl ⟨⟨q,am _⟩,hd σ ys H p⟩
end
end L2

namespace Sea
open PySem L2
def kD:Key->Dt
 | .inl i=>.int i
 | .inr x=>.str x
def zYj(e:Key×Dt):Dt:=.tup [kD e.1,e.2]
def zI5(es:List (Key×Dt)):List Dt:=(vM (tO (es.map (·.1))) es).map zYj
def mkD(e:aC×Int×Int):Dt:=.tup [.str e.1,.int e.2.1,.int e.2.2]
def zOc(S:BS):List Dt:=(vM (tO ((S.marks.map (·.1)).map .inr)) S.marks).map mkD
theorem zY6{H:Hp}{k:Key} : Rep H (kD k) (kV k):=by
 cases k
 ·exact yF.mpr rfl
 ·exact zW.mpr rfl
theorem xW.at{H:Hp}{kvs:List (Key×V)}{es:List (Key×Dt)}(h:xW H kvs es){j:Nat}{e:Key×V}(g:kvs[j]?=some e):∃ d,es[j]?=some (e.1,d)/\Rep H d e.2:=by
 obtain⟨d,g1,r⟩:=h.vals.back (i:=j) (x:=e.2) (by rw[av,g]; rfl);rw[av,aJ] at g1;obtain⟨e',ge,rfl⟩:=g1;have:=congrArg (·[j]?) h.keys;simp only[av,g,ge,eh,hU] at this;exact⟨e'.2,by rw[ge,this],r⟩
theorem qT{H:Hp}{kvs:List (Key×V)}{es:List (Key×Dt)}{as:List ag}(kv:xW H kvs es)(hl:as.length=kvs.length)(at_:∀ (j:Nat) (a:ag) (e:Key×V),as[j]?=some a->kvs[j]?=some e->H a=some (.tup [kV e.1,e.2])):∀ o:List Nat,xX H ((vM o es).map zYj) ((vM o as).map V.ref)
 | []=>yA.mpr rfl
 | i::o=>by
  have ih:=qT kv hl at_ o;have le:=kv.length;unfold vM at ih ⊢;by_cases hi:i<kvs.length
  ·have ga:as[i]?=some (as[i]'(by lia)):=aj (by lia);have gk:kvs[i]?=some kvs[i]:=aj hi;obtain⟨d,ge,r⟩:=kv.at gk;rw[cb ge,cb ga];exact zL.mpr ⟨_,_,rfl,yD.mpr ⟨_,_,rfl,at_ i _ _ ga gk,.two zY6 r⟩,ih⟩
  ·rw[cJ (ce (by lia)),cJ (ce (by lia))];exact ih
structure zBh(S:BS):Prop where
 mk ::
 well:zMk S
 nm:(S.marks.map (·.1)).Nodup
 nb:(S.banks.map (·.1)).Nodup
 bk:∀ e∈S.banks,wC e.1/\e.2.length<=8/\∀ c∈e.2,zAm c
theorem zBh.nil:zBh BS.nil:=⟨zMk.nil,.nil,.nil,λe he=>(nomatch he)⟩
theorem zR1{cs:List (Int×Int)}(h:zKn cs=true):cs.length<=8:=by
 unfold zKn isB at h;rw[aY,aY,ac] at h;exact of_decide_eq_true h.2.1
theorem zG2{α:Type}{l:List α}{x:α}(h:l.Nodup)(n:x ∉ l):(l++[x]).Nodup:=by
 rw[fJ];exact⟨h,by simp,λa ha b hb=>by rw[aw.mp hb]; exact λz=>n (z ▸ ha)⟩
theorem zC6{α β:Type}{f:α->β}{p:α->Bool}{l:List α}(h:(l.map f).Nodup):((l.filter p).map f).Nodup:=h.sublist ((jj (p:=p) (l:=l)).map f)
theorem zBh.aft{S:BS}{D:Deed}(h:zBh S)(ok:okD S D):zBh (aft S D):=by
 refine⟨h.well.aft ok,?_,?_,?_⟩
 ·match D,ok with
  | .mark n x y,ok =>
   show((S.marks++[(n,x,y)]).map (·.1)).Nodup;rw[aA];refine zG2 h.nm λz=>?_;obtain⟨p,e⟩:=zEl (S:=S) z;rw[ok.2.1] at e;cases e
  | .move n x y,ok =>
   show((S.marks.map λe=>if e.1=n then(e.1,x,y) else e).map (·.1)).Nodup;rw[bw,show((·.1) ∘ λe:aC×Int×Int=>if e.1=n then(e.1,x,y) else e)=(·.1) from funext λe=>by show(if e.1=n then(e.1,x,y) else e).1=e.1; split <;> rfl];exact h.nm
  | .unmark n,ok=>exact zC6 h.nm
  | .bank _ _,_=>exact h.nm
  | .level _,_=>exact h.nm
  | .sail _ _,_=>exact h.nm
  | .right _ _ _,_=>exact h.nm
  | .bearing _ _ _ _ _ _,_=>exact h.nm
  | .range _ _ _,_=>exact h.nm
  | .strike _,_=>exact h.nm
 ·match D,ok with
  | .bank n cs,ok =>
   show((S.banks++[(n,cs)]).map (·.1)).Nodup;rw[aA];exact zG2 h.nb ok.2.1
  | .level n,ok=>exact zC6 h.nb
  | .mark _ _ _,_=>exact h.nb
  | .move _ _ _,_=>exact h.nb
  | .unmark _,_=>exact h.nb
  | .sail _ _,_=>exact h.nb
  | .right _ _ _,_=>exact h.nb
  | .bearing _ _ _ _ _ _,_=>exact h.nb
  | .range _ _ _,_=>exact h.nb
  | .strike _,_=>exact h.nb
 ·match D,ok with
  | .bank n cs,ok =>
   intro e he;rcases aN.mp he with z | z
   ·exact h.bk e z
   ·rw[aw.mp z]; exact⟨ok.1,zR1 ok.2.2.2.1,ok.2.2.1⟩
  | .level n,ok=>exact λe he=>h.bk e (cK.mp he).1
  | .mark _ _ _,_=>exact h.bk
  | .move _ _ _,_=>exact h.bk
  | .unmark _,_=>exact h.bk
  | .sail _ _,_=>exact h.bk
  | .right _ _ _,_=>exact h.bk
  | .bearing _ _ _ _ _ _,_=>exact h.bk
  | .range _ _ _,_=>exact h.bk
  | .strike _,_=>exact h.bk
section
variable{S:BS}
theorem zH9(S:BS):(bkE S.banks).map (·.1)=(S.banks.map (·.1)).map .inr:=by unfold bkE; rw[bw,bw]; rfl
theorem zIx(S:BS):(ntE S.notes).map (·.1)=(S.notes.map (·.1)).map .inl:=by unfold ntE; rw[bw,bw]; rfl
theorem zIj{l:List aC}(h:l.Nodup):(l.map (.inr:aC->Key)).Nodup:=h.map _ λa b n z=>n (by injection z)
theorem zP7{l:List Int}(h:l.Nodup):(l.map (.inl:Int->Key)).Nodup:=h.map _ λa b n z=>n (by injection z)
theorem zBh.oneB(_:zBh S):zYe ((bkE S.banks).map (·.1)):=.inr ⟨_,zH9 S⟩
theorem zBh.ndB(h:zBh S):((bkE S.banks).map (·.1)).Nodup:=by rw[zH9]; exact zIj h.nb
theorem zBh.oneN(_:zBh S):zYe ((ntE S.notes).map (·.1)):=.inl ⟨_,zIx S⟩
theorem zBh.ndN(h:zBh S):((ntE S.notes).map (·.1)).Nodup:=by rw[zIx]; exact zP7 (h.well.good.rise.imp λz=>mX z)
theorem qX:∀{l:List (aC×Int×Int)}{e:aC×Int×Int},(l.map (·.1)).Nodup->e∈l->(l.find? λf=>decide (f.1=e.1)).map (·.2)=some e.2
 | f::l,e,nd,he=>by
  rcases aI.mp he with rfl | he
  ·simp
  ·have nf:f.1≠e.1:=λz=>(dN.mp nd).1 (aD.mpr ⟨e,he,z.symm⟩);rw[bL,decide_eq_false nf];exact qX (dN.mp nd).2 he
def dep:Nat->Dt->Prop
 | _,.int _=>True
 | _,.str _=>True
 | 0,.tup _=>False
 | n+1,.tup l=>l.length<=900/\∀ d∈l,dep n d
theorem zBa{n:Nat}{i:Int} : dep n (.int i):=by cases n <;> trivial
theorem zBd{n:Nat}{x:aC} : dep n (.str x):=by cases n <;> trivial
theorem zBb{n:Nat}{l:List Dt}(h:l.length<=900)(g:∀ d∈l,dep n d):dep (n+1) (.tup l):=⟨h,g⟩
theorem zL5{n:Nat}{p:Int×Int} : dep (n+1) (ptD p):=zBb (by show 2<=900; decide) (dt2 zBa zBa)
theorem zQo{n:Nat}{k:Key} : dep n (kD k):=by
 cases k
 ·exact zBa
 ·exact zBd
theorem zRf:∀ d∈zOc S,dep 3 d:=λd hd=>by
 obtain⟨e,he,rfl⟩:=aD.mp hd;exact zBb (cE rfl) (dt3 zBd zBa zBa)
theorem zO8(h:zBh S):∀ d∈zI5 (bkE S.banks),dep 3 d:=λd hd=>by
 obtain⟨e,he,rfl⟩:=aD.mp hd;have me:=zFg he;unfold bkE at me;obtain⟨e',me',rfl⟩:=aD.mp me;have l8:=(h.bk e' me').2.1;refine zBb (cE rfl) (dt2 zQo (zBb (by rw[ac]; lia) λd hd=>?_));obtain⟨c,hc,rfl⟩:=aD.mp hd;exact zL5
theorem zRk(h:zBh S):∀ d∈zI5 (ntE S.notes),dep 4 d:=λd hd=>by
 obtain⟨e,he,rfl⟩:=aD.mp hd;have me:=zFg he;unfold ntE at me;obtain⟨e',me',rfl⟩:=aD.mp me;have kn:=h.well.good.note e' me';refine zBb (cE rfl) (dt2 zQo ?_);show dep 3 e'.2.dt
 match e'.2,kn with
 | .bearing _ _ _ _ _ _,_=>exact zBb (cE rfl) λd hd=>(aI.mp hd).elim (λz=>z ▸ zBd) (dt4 zBa zBd zL5 zL5 d)
 | .range _ _ _,_=>exact zBb (cE rfl) (dt4 zBd zBa zBd zBd)
theorem zB7{es:List (Key×Dt)} : (zI5 es).length=es.length:=by
 unfold zI5;rw[ac,zB8 (λi hi=>by have:=zAl i hi; rwa[ac] at this),zAd,ac]
theorem zFs:(zOc S).length=S.marks.length:=by
 unfold zOc;rw[ac,zB8 (λi hi=>by have:=zAl i hi; rwa[ac,ac] at this),zAd,ac,ac]
end
end Sea

namespace L2
open PySem PySem.Spec PyProof.Rows HT
section
variable{prog:aL}{w:aT}{A:bu}{E:af->ai->Prop}{s:ai}
theorem zCf{sl:ag}{vl vu vk:af}{Q:Int×Int×Nat->ai->Prop}(hs:s.heap.IsSliceOf sl vl vu vk)(pl:fP vl none)(pu:fP vu none)(pk:fP vk (some (-1)))
  (h:Q (2,-1,3) s):wpAny (model prog w) A (dD (.ref sl) (pure (3:Int))) Q E s:=by
 obtain⟨os,hos,hcs,hds⟩:=id hs;unfold dD gS;refine aa (aa (bg hos hds (x:=vl) rfl (aa (bg hos hds (x:=vu) rfl (aa (bg hos hds (x:=vk) rfl (ak ?_)))))));refine aa (HT.slicePart_ pk ?_);show wpAny _ _ (if ((-1:Int) == 0)=true then _ else _) _ _ s;rw[if_neg (by decide)];refine aa (HT.slicePart_ pl (aa (HT.slicePart_ pu (aa (ak ?_)))));show wpAny _ _ (match cV none none (-1) (3:Int) with | (lo,hi)=>pure (lo,(-1:Int),bY lo hi (-1))) _ _ s;rw[show cV none none (-1) (3:Int)=(2,-1) from by decide];show wpAny _ _ (pure ((2:Int),(-1:Int),bY 2 (-1) (-1))) _ _ s;rw[show bY 2 (-1) (-1)=3 from by decide];exact ak h
theorem zBo{t sl:ag}{a b c:af}{vl vu vk:af}{Q:af->ai->Prop}(ht:ly s.heap t #[a,b,c])(hs:s.heap.IsSliceOf sl vl vu vk)(pl:fP vl none)(pu:fP vu none)(pk:fP vk (some (-1)))
  (h:Q (.ref s.heap.objs.size) { s with heap:=s.heap.push { cls:=.type "tuple", data:=.seq #[c,b,a] } }):wpAny (model prog w) A (getItem (.ref t) (.ref sl)) Q E s:=by
 obtain⟨os,hos,hcs,hds⟩:=id hs;have hTs:s.TypeIs (.ref sl) "slice" :=⟨os,hos,hcs⟩;unfold getItem
 try with_reducible refine bI ?_
 first | refine aa (ak ?_) | skip
 refine aa (jR ht.typeIs (by decide) ?_);refine aa (bB (name:=bH "__getitem__") ht.typeIs bQ
  (bE bQ ht.typeIs entry_tuple_getitem ?_ (args_tuple_getitem _ _)))
 show wpAny _ _ (gK (.ref t) >>= _) _ _ s;refine aa (tupleItemsOf_ ht ?_);refine aa (wpAny_typeOf hTs ?_);rw[if_pos (by decide)];refine aa (zCf hs pl pu pk ?_);show wpAny _ _ (if ((2:Int) == 0&&(-1:Int) == 1&&(3:Nat) == 3)=true then _ else _) _ _ s;rw[if_neg (by decide)];have hz:sizeOk (.seq #[c,b,a]):=by show 3<=sizeLine; decide
 rw[show((bx 3).filterMap λ(m:Nat)=>(#[a,b,c]:Array af)[((2:Int)+(m:Int)*(-1)).toNat]?).toArray = #[c,b,a] from rfl]
 first
  | exact aa (m:=bP _) (aW (ak ⟨_,rfl,ak h⟩) hz)
  | exact aa (m:=bP _) (aW (aa (ak (ak ⟨_,rfl,ak h⟩))) hz)
  | exact aa (aa (m:=bP _) (aW (ak (ak ⟨_,rfl,ak h⟩)) hz))
  | exact aa (aa (m:=bP _) (aW (ak ⟨_,rfl,ak h⟩) hz))
end
section
variable{X:Cx}{e st:bj}{te:TE}{ts:TO}{p2 pos:fg}
def tSlR3(K:ae)(te:TE)(ts:TO):TE:=λσ H Q=>te σ H λx H1=>ts σ H1 λk H4 =>
 ∃(a:ag)(x1 x2 x3:V),x=.ref a/\SqT K H4 a [x1,x2,x3]/\k=some (-1)/\∀ p,H4 p=none->Q (.ref p) (upd H4 p (.tup [x3,x2,x1]))
theorem zNs(he:PE X e te)(hk:PO X (some st) ts):PE X (.Subscript e (.Slice none none (some st) p2) pos) (tSlR3 X.K te ts):=by
 intro pins s σ H Q I h;refine jy (thn (he pins s σ H _ I h) λv s1 ⟨x,H1,I1,r1,q1⟩=>?_);refine wpAny_Slice (thn (uZ (X:=X) pins s1 σ H1 (λl H2=>l=none/\ts σ H2 _) I1 ⟨rfl,q1⟩) λvl s2 ⟨l,H2,I2,pl,l0,q2⟩=>thn (uZ (X:=X) pins s2 σ H2 (λl H2=>l=none/\ts σ H2 _) I2 ⟨rfl,q2⟩) λvu s3 ⟨u,H3,I3,pu,u0,q3⟩=>thn (hk pins s3 σ H3 _ I3 q3) λvk s4 ⟨k,H4,I4,pk,q4⟩=>?_);obtain⟨a,x1,x2,x3,rfl,hx,h0,q⟩:=q4;subst l0 u0 h0;cases r1;have I5:Inv X pins σ H4 { s4 with heap:=s4.heap.push { cls:=.type "slice", data:=.fields #[vl,vu,vk] } }:=I4.kept (t':=s4.toks) λb ob q=>ah _ q;obtain⟨its,r,ht,hz⟩:=I5.tuple hx;show wpAny (model X.prog X.w) X.A (subscriptTail e (.Slice none none (some st) p2) (.ref a) (.ref s4.heap.objs.size)) (EP X pins σ Q) X.xe { s4 with heap:=s4.heap.push { cls:=.type "slice", data:=.fields #[vl,vu,vk] } };refine tail_any (ops:=[.ref a,.ref s4.heap.objs.size]) ht.typeIs bQ.lookup ?_ (by with_unfolding_all rfl);obtain⟨u1,r',rfl,q1,r⟩:∃ u r',its=u::r'/\xI x1 u/\yY [x2,x3] r':=by cases r with | cons a b=>exact⟨_,_,rfl,a,b⟩
 obtain⟨u2,u3,rfl,q2',q3'⟩:=yY.two r;refine zBo ht (jz ..) pl pu pk ?_;refine⟨.ref _,_,I5.laid (t':=s4.toks) (o:=.tup [x3,x2,x1]) (λb ob q=>ah _ q) (am _) ?_,rfl,q _ (I5.hok.fresh (am _))⟩;exact⟨by show 3<=sizeLine; decide,[u3,u2,u1],.cons q3' (.cons q2' (.cons q1 .nil)),nB _ _⟩
end
section
variable{X:Cx}
theorem zXs(hu:X.A.units<cLine):OpR X (compareOp .Eq) (λx y H Q=>∃(a b:ag)(xs:List Int),x=.ref a/\y=.ref b/\SqL X.K H a (xs.map V.int)/\SqL X.K H b (xs.map V.int)/\Q (.bl true) H):=by
 intro pins s σ H x y v u Q I rx ry h;obtain⟨a,b,xs,rfl,rfl,h1,h2,q⟩:=h;cases rx;cases ry;obtain⟨us,r1,p1,_⟩:=I.list h1;obtain⟨ws,r2,p2,_⟩:=I.list h2;have l1:=r1.length;have l2:=r2.length;refine SeqAt.eq_listAt (e:=λj=>decide (xs[j]?=xs[j]?)) p1.isList p2.isList (by rw[aG,aG,<- l1,<- l2]) hu (zUy r1 r2) ?_;rw[show(λj=>decide (xs[j]?=xs[j]?))=λ_=>true from funext λj=>decide_eq_true rfl,zI3];exact⟨.bl true,H,I,rfl,q⟩
end
end L2

namespace Sea
open PySem L2
def zOu(cs:List (Int×Int)):Prop:=(∃ k:Int,0<=k/\k<8/\cs=[(k,0),(k+3,0),(k,2)])\/cs=[(0,2),(3,0),(0,0)]
theorem zHw{cs:List (Int×Int)}(h:zOu cs):∃ a b c:Int×Int,cs=[a,b,c]/\zKn cs=decide (a.2<c.2):=by
 rcases h with ⟨k,h0,h8,rfl⟩ | rfl
 ·exists _,_,_,rfl;have:∀ j:Fin 8,zKn [((j:Int),0),((j:Int)+3,0),((j:Int),2)]=true:=by decide
  obtain⟨j,rfl⟩:=dq h0;exact this ⟨j,by lia⟩
 ·exact⟨_,_,_,rfl,by decide⟩
def zOm(e:aC×Int×Int):Deed:=.mark e.1 e.2.1 e.2.2
def zN5(e:aC×List (Int×Int)):Deed:=.bank e.1 e.2
def zO5(e:Int×Int):Deed:=.sail e.1 e.2
def zNm(ns:List aC)(D:Deed):Prop:=(∃(m:Int)(i:Nat)(l r:aC),D=.range m l r/\0<=m/\m<=12/\i<18/\ns[i]?=some l/\ns[i+1]?=some r)\/∃(m k:Int)(i:Nat)(n:aC),D=.bearing m n 100 k (-k) 100/\0<=m/\m<=12/\0<=k/\k<24/\i<19/\ns[i]?=some n
structure zS1(ns:List aC)(Ds:List Deed)(l1:List (aC×Int×Int))(l2:List (aC×List (Int×Int)))(l3:List (Int×Int))(l4:List Deed)(c:Nat):Prop where
 mk ::
 eq:Ds=l1.map zOm++l2.map zN5++l3.map zO5++l4
 n1:l1.map (·.1)=ns.take 20
 p1:∀(j:Nat)(e:aC×Int×Int),l1[j]?=some e->zAm e.2/\e.2.2=j
 c2:c<=2
 n2:l2.map (·.1)=(ns.drop c).take 8
 p2:∀(j:Nat)(e:aC×List (Int×Int)),l2[j]?=some e->j<8/\e.2=[((j:Int),0),((j:Int)+3,0),((j:Int),2)]
 n3:l3.length=12
 p3:∀ e∈l3,zAm e
 n4:l4.length=24
 p4:∀ D∈l4,zNm ns D
def tQ(n0 n1 n2 n19 n20 n21:aC)(k:Int):List Deed :=
 [.mark n20 0 0,.mark n0 0 0,.mark n20 1001 0,.mark "" 0 0,
  .bank n20 [(0,0),(3,0),(0,2)],.bank n20 [(0,2),(3,0),(0,0)],.bank n2 [(0,0),(3,0),(0,2)],
  .sail 1 1,.sail 1 (-1001),.strike 25,.range 13 n0 n1,
  .range 0 n0 n1,.bearing 0 n0 1 0 0 1,
  .bearing 0 n0 1 0 1 0,.range 0 n0 n0,
  .strike k,.bearing 12 n0 1 0 0 1,
  .range 0 n0 n1,.level n2,.bank n20 [(0,0),(3,0),(0,2)],
  .bank n21 [(0,0),(3,0),(0,2)],.unmark n19,.mark n20 1000 (-1000),
  .mark n21 0 0,.unmark n0,.strike 26]
theorem zTm{S:BS}{D:Deed}(h:okD S D):zR S D=none:=by
 have nn:∀{α:Type}{o:Option α},o.isSome=true->¬ o=none:=λh z=>by rw[z] at h; cases h
 have yy:∀{p:Prop},p->¬ ¬ p:=λh z=>z h;cases D with
 | mark n x y=>obtain⟨h1,h2,h3,h4⟩:=h; simp only[zR,if_neg (yy h1),h2,if_neg (yy h3),if_neg (show ¬ 20<=S.marks.length by lia)]; rfl
 | move n x y=>obtain⟨h1,h2,h3⟩:=h; simp only[zR,if_neg (nn h1),if_neg (yy h2),if_pos h3]
 | unmark n=>obtain⟨h1,h2⟩:=h; simp only[zR,if_neg (nn h1),if_pos h2]
 | bank n cs=>obtain⟨h1,h2,h3,h4,h5⟩:=h; simp only[zR,if_neg (yy h1),if_neg h2,if_neg (yy h3),if_neg (show ¬ zKn cs=false by rw[h4]; exact kN),if_neg (show ¬ 8<=S.banks.length by lia)]
 | level n=>simp only[zR,if_pos (show n∈S.banks.map (·.1) from h)]
 | sail x y=>obtain⟨h1,h2⟩:=h; simp only[zR,if_neg (yy h1),if_neg (show ¬ 12<=S.runs.length by lia)]
 | right k x y=>obtain⟨h1,h2,h3⟩:=h; simp only[zR,if_pos (mP h1 h2),if_pos h3]
 | bearing m n a b c d=>obtain⟨h1,h2,h3,h4,h5,h6,h7⟩:=h; simp only[zR,if_neg (yy (mP h1 h2)),if_neg (nn h3),if_neg (yy h4),if_neg (yy h5),if_neg (show ¬ a*d-b*c<=0 by lia),if_neg (show ¬ 24<=S.notes.length by lia)]
 | range m l r=>obtain⟨h1,h2,h3,h4,h5,h6⟩:=h; simp only[zR,if_neg (yy (mP h1 h2)),if_neg (nn h3),if_neg (nn h4),if_neg h5,if_neg (show ¬ 24<=S.notes.length by lia)]
 | strike k=>simp only[zR,if_pos (show k∈S.notes.map (·.1) from h)]
noncomputable def zDm(S:BS)(D:Deed):BS:=match zR S D with
 | none=>aft S D
 | some _=>S
noncomputable def yL(S:BS)(l:List Deed):BS:=l.foldl zDm S
section
variable{S:BS}{D:Deed}
theorem sA(h:okD S D):zDm S D=aft S D:=by unfold zDm; rw[zTm h]
theorem vT(h:¬ okD S D):zDm S D=S:=by
 unfold zDm;cases e:zR S D with
 | none=>exact absurd (zD3 e) h
 | some c=>rfl
theorem zBh.step(h:zBh S):zBh (zDm S D):=by
 unfold zDm;cases e:zR S D with
 | none=>exact h.aft (zD3 e)
 | some c=>exact h
theorem all_cons{l:List Deed} : yL S (D::l)=yL (zDm S D) l:=rfl
theorem zEo{l m:List Deed} : yL S (l++m)=yL (yL S l) m:=List.foldl_append
theorem zEc:∀{l:List Deed}{S:BS},zBh S->zBh (yL S l)
 | [],_,h=>h
 | _::l,_,h=>zEc (l:=l) h.step
theorem zFe{n:aC}(h:n ∉ S.marks.map (·.1)):zM S n=none:=by
 unfold zM;rw[fH,dG];intro e he z;exact h (aD.mpr ⟨e,he,of_decide_eq_true z⟩)
theorem zGu:∀(l:List (aC×Int×Int))(S:BS),((S.marks++l).map (·.1)).Nodup->(∀ e∈l,wC e.1/\zAm e.2)->S.marks.length+l.length<=20->yL S (l.map zOm)={ S with marks:=S.marks++l }
 | [],S,_,_,_=>by rw[bF]; rfl
 | e::l,S,nd,ok,hl=>by
  rw[aS] at hl;have o:=ok e (.head _);have n1:e.1 ∉ S.marks.map (·.1):=λz=>by
   rw[aA,fJ] at nd;exact nd.2.2 _ z _ (.head _) rfl
  rw[aM,all_cons,sA (show okD S (zOm e) from⟨o.1,zFe n1,o.2,by lia⟩),zGu l _ (by show((S.marks++[e]++l).map (·.1)).Nodup; rw[cj]; exact nd) (λf hf=>ok f (.tail _ hf)) (by show(S.marks++[e]).length+l.length<=20; rw[al,bq]; lia)];show({ S with marks:=S.marks++[e]++l } : BS)=_;rw[cj];rfl
theorem zGq:∀(l:List (aC×List (Int×Int)))(S:BS),((S.banks++l).map (·.1)).Nodup->(∀ e∈l,wC e.1/\(∀ c∈e.2,zAm c)/\zKn e.2=true)->S.banks.length+l.length<=8->yL S (l.map zN5)={ S with banks:=S.banks++l }
 | [],S,_,_,_=>by rw[bF]; rfl
 | e::l,S,nd,ok,hl=>by
  rw[aS] at hl;have o:=ok e (.head _);have n1:e.1 ∉ S.banks.map (·.1):=λz=>by
   rw[aA,fJ] at nd;exact nd.2.2 _ z _ (.head _) rfl
  rw[aM,all_cons,sA (show okD S (zN5 e) from⟨o.1,n1,o.2.1,o.2.2,by lia⟩),zGq l _ (by show((S.banks++[e]++l).map (·.1)).Nodup; rw[cj]; exact nd) (λf hf=>ok f (.tail _ hf)) (by show(S.banks++[e]).length+l.length<=8; rw[al,bq]; lia)];show({ S with banks:=S.banks++[e]++l } : BS)=_;rw[cj];rfl
theorem zJb:∀(l:List (Int×Int))(S:BS),(∀ e∈l,zAm e)->S.runs.length+l.length<=12->yL S (l.map zO5)={ S with runs:=S.runs++l }
 | [],S,_,_=>by rw[bF]; rfl
 | e::l,S,ok,hl=>by
  rw[aS] at hl;rw[aM,all_cons,sA (show okD S (zO5 e) from⟨ok e (.head _),by lia⟩),zJb l _ (λf hf=>ok f (.tail _ hf)) (by show(S.runs++[e]).length+l.length<=12; rw[al,bq]; lia)];show({ S with runs:=S.runs++[e]++l } : BS)=_;rw[cj];rfl
def zRy(S:BS):Deed->Prop
 | .bearing m n a b c d=>0<=m/\m<=S.runs.length/\(zM S n).isSome=true/\rQ (a,b)/\rQ (c,d)/\0<a*d-b*c
 | .range m l r=>0<=m/\m<=S.runs.length/\(zM S l).isSome=true/\(zM S r).isSome=true/\zM S l≠zM S r
 | _=>False
theorem zRy.aft(h:zRy S D)(hl:S.notes.length<24):okD S D/\aft S D={ S with notes:=S.notes++[(S.coming,D)],coming:=S.coming+1 }:=by
 cases D with
 | bearing m n a b c d=>obtain⟨h1,h2,h3,h4,h5,h6⟩:=h; exact⟨⟨h1,h2,h3,h4,h5,h6,hl⟩,rfl⟩
 | range m l r=>obtain⟨h1,h2,h3,h4,h5⟩:=h; exact⟨⟨h1,h2,h3,h4,h5,hl⟩,rfl⟩
 | _=>exact h.elim
structure zYn(S S':BS)(l:List Deed):Prop where
 mk ::
 m:S'.marks=S.marks
 b:S'.banks=S.banks
 r:S'.runs=S.runs
 c:S'.coming=S.coming+l.length
 n:S'.notes.map (·.2)=S.notes.map (·.2)++l
 k:∀ k:Int,(k∈S.notes.map (·.1)\/(S.coming<=k/\k<S'.coming))->k∈S'.notes.map (·.1)
theorem zGo:∀(l:List Deed)(S:BS),(∀ D∈l,zRy S D)->S.notes.length+l.length<=24->zYn S (yL S l) l
 | [],S,_,_=>⟨rfl,rfl,rfl,by show S.coming=S.coming+0; lia,by rw[bF]; rfl,λk h=>h.elim id λh=>by have:k<S.coming:=h.2; lia⟩
 | D::l,S,ok,hl=>by
  rw[aS] at hl;obtain⟨o,e⟩:=(ok D (.head _)).aft (by lia);rw[all_cons,sA o,e];have ih:=zGo l { S with notes:=S.notes++[(S.coming,D)],coming:=S.coming+1 } (λf hf=>by
   have g:=ok f (.tail _ hf);cases f <;> exact g) (by show(S.notes++[_]).length+l.length<=24; rw[al,bq]; lia)
  refine⟨ih.m,ih.b,ih.r,?_,?_,λk h=>ih.k k ?_⟩
  ·rw[ih.c,aS];show S.coming+1+(l.length:Int)=S.coming+((l.length+1:Nat):Int);lia
  ·rw[ih.n];show(S.notes++[(S.coming,D)]).map (·.2)++l=_;rw[aA,cj];rfl
  ·show k∈(S.notes++[(S.coming,D)]).map (·.1)\/(S.coming+1<=k/\_);rw[aA,aN];rcases h with h | h
   ·exact .inl (.inl h)
   ·by_cases z:k=S.coming
    ·exact .inl (.inr (by rw[z]; exact .head _))
    ·exact .inr ⟨by lia,h.2⟩
theorem zAg{α β:Type}[DecidableEq β]{f:α->β}{k:β} : ∀{l:List α},(l.map f).Nodup->k∈l.map f->(l.filter λe=>decide (f e≠k)).length+1=l.length
 | x::l,nd,h=>by
  rw[aM,dN] at nd;by_cases z:f x=k
  ·have e:l.filter (λe=>decide (f e≠k))=l:=List.filter_eq_self.mpr λy hy=>decide_eq_true λw=>nd.1 (by rw[z,<- w]; exact cz hy);rw[fB (by simp[z]),e];rfl
  ·rw[fC (by simp[z]),aS,zAg nd.2 (by
    rcases aI.mp h with w | w
    ·exact absurd w.symm z
    ·exact w)]
   rfl
theorem zH0{α:Type}{l:List α}{i n:Nat}{x:α}(h:l[i]?=some x)(hi:i<n):x∈l.take n:=by
 have:(l.take n)[i]?=some x:=by rw[d6,if_pos hi]; exact h
 exact aF this
theorem zWh{α:Type}{l:List α}{i c n:Nat}{x:α}(h:l[i]?=some x)(h1:c<=i)(h2:i<c+n):x∈(l.drop c).take n:=by
 refine zH0 (i:=i-c) ?_ (by lia);rw[fq,show c+(i-c)=i by lia];exact h
theorem zPq{α:Type}{l:List α}{i c n:Nat}{x:α}(nd:l.Nodup)(h:l[i]?=some x)(h2:i<c\/c+n<=i):x ∉ (l.drop c).take n:=λz=>by
 obtain⟨j,hj⟩:=cF.mp z;rw[d6] at hj;split at hj
 ·rw[fq] at hj;have l1:=(ay.mp h).1;have l2:=(ay.mp hj).1;rw[aj l1] at h;rw[aj l2] at hj;have:i=c+j:=(dX nd).mp (by rw[aZ h,aZ hj]);lia
 ·cases hj
structure Brim(ns:List aC)(n19:aC)(c:Nat)(S:BS):Prop where
 mk ::
 neat:zBh S
 m:S.marks.map (·.1)=ns.take 20
 c2:c<=2
 b:S.banks.map (·.1)=(ns.drop c).take 8
 r:S.runs.length=12
 n:S.notes.length=24
 all:∀ k:Int,1<=k->k<25->k∈S.notes.map (·.1)
 co:S.coming=25
 un:∀ e∈S.notes,unlike n19 e.2
theorem zS3{ns:List aC}{n0 n1 n2 n19 n20 n21:aC}{c:Nat}{k:Int}(B:Brim ns n19 c S)(ln:ns.length=22)(nd:ns.Nodup)(okn:∀ n∈ns,wC n)(g0:ns[0]?=some n0)(g2:ns[2]?=some n2)(g19:ns[19]?=some n19)(g20:ns[20]?=some n20)(k1:1<=k)(k24:k<=24) :
  (yL S (tQ n0 n1 n2 n19 n20 n21 k)).marks.length=20/\(yL S (tQ n0 n1 n2 n19 n20 n21 k)).banks.length=8/\(yL S (tQ n0 n1 n2 n19 n20 n21 k)).runs.length=12/\(yL S (tQ n0 n1 n2 n19 n20 n21 k)).notes.length=24:=by
 have lm:S.marks.length=20:=by have:=congrArg cr B.m; rw[ac,bK] at this; lia
 have lb:S.banks.length=8:=by have:=congrArg cr B.b; rw[ac,bK,cO] at this; have:=B.c2; lia
 have gd:=B.neat.well.good;have noM:∀{n:aC}{x y:Int},¬ okD S (.mark n x y):=λh=>by have:=h.2.2.2; lia
 have noB:∀{n:aC}{cs:List (Int×Int)},¬ okD S (.bank n cs):=λh=>by have:=h.2.2.2.2; lia
 have noS:∀{x y:Int},¬ okD S (.sail x y):=λh=>by have:=h.2; have:=B.r; lia
 have noR:∀{m:Int}{l r:aC},¬ okD S (.range m l r):=λh=>by have:=h.2.2.2.2.2; have:=B.n; lia
 have noG:∀{m:Int}{n:aC}{a b c d:Int},¬ okD S (.bearing m n a b c d):=λh=>by have:=h.2.2.2.2.2.2; have:=B.n; lia
 have no25:¬ okD S (.strike 25):=λh=>by
  obtain⟨e,he,z⟩:=aD.mp (show(25:Int)∈S.notes.map (·.1) from h);have:=gd.fresh e he;have:=B.co;lia
 unfold tQ
 iterate 4 rw[all_cons,vT noM]
 iterate 3 rw[all_cons,vT noB]
 iterate 2 rw[all_cons,vT noS]
 rw[all_cons,vT no25]
 iterate 2 rw[all_cons,vT noR]
 iterate 2 rw[all_cons,vT noG]
 rw[all_cons,vT noR];have mk:=B.all k k1 (by lia);have N1:=B.neat.aft (D:=.strike k) mk;have ndn:(S.notes.map (·.1)).Nodup:=gd.rise.imp λz=>mX z;have l1:(aft S (.strike k)).notes.length+1=24:=by rw[<- B.n]; exact zAg (f:=λe:Int×Deed=>e.1) ndn mk
 rw[all_cons,sA (D:=.strike k) mk];have u1:∀ e∈(aft S (.strike k)).notes,unlike n19 e.2:=λe he=>B.un e (cK.mp he).1;have m1:(aft S (.strike k)).marks=S.marks:=rfl;have b1:(aft S (.strike k)).banks=S.banks:=rfl;have r1:(aft S (.strike k)).runs=S.runs:=rfl;have c1:(aft S (.strike k)).coming=25:=B.co;generalize aft S (.strike k)=S1 at *;have in0:n0∈S.marks.map (·.1):=by rw[B.m]; exact zH0 g0 (by decide)
 have i0:(zM S1 n0).isSome=true:=by
  obtain⟨p,e⟩:=zEl (S:=S1) (n:=n0) (by rw[m1]; exact in0);rw[e]; rfl
 have ok2:okD S1 (.bearing 12 n0 1 0 0 1):=⟨by decide,by rw[r1,B.r]; decide,i0,by unfold rQ; decide,by unfold rQ; decide,by decide,by lia⟩;have N2:=N1.aft ok2;rw[all_cons,sA ok2];have l2:(aft S1 (.bearing 12 n0 1 0 0 1)).notes.length=24:=by show(S1.notes++[_]).length=24; rw[al,bq]; exact l1
 have n019:n0≠n19:=λz=>by
  have h1:=(ay.mp g0);have h2:=(ay.mp g19);have:=(dX nd (h₀:=h1.1) (h₁:=h2.1)).mp (by rw[h1.2,h2.2,z]);lia
 have u2:∀ e∈(aft S1 (.bearing 12 n0 1 0 0 1)).notes,unlike n19 e.2:=λe he=>by
  rcases aN.mp he with z | z
  ·exact u1 e z
  ·rw[aw.mp z]; exact n019
 have h2:(S1.coming,Deed.bearing 12 n0 1 0 0 1)∈(aft S1 (.bearing 12 n0 1 0 0 1)).notes:=aU _ (.head _);have m2:(aft S1 (.bearing 12 n0 1 0 0 1)).marks=S.marks:=m1;have b2:(aft S1 (.bearing 12 n0 1 0 0 1)).banks=S.banks:=b1;have r2:(aft S1 (.bearing 12 n0 1 0 0 1)).runs=S.runs:=r1;have c2:(aft S1 (.bearing 12 n0 1 0 0 1)).coming=26:=by show S1.coming+1=26; lia
 generalize aft S1 (.bearing 12 n0 1 0 0 1)=S2 at *;rw[all_cons,vT (λh=>by have:=h.2.2.2.2.2; lia)];have mb:n2∈S2.banks.map (·.1):=by rw[b2,B.b]; exact zWh g2 B.c2 (by lia)
 have N3:=N2.aft (D:=.level n2) mb;rw[all_cons,sA (D:=.level n2) mb];have l3:(aft S2 (.level n2)).banks.length+1=8:=by rw[<- lb,<- b2]; exact zAg (f:=λe:aC×List (Int×Int)=>e.1) N2.nb mb
 have s3:∀ e∈(aft S2 (.level n2)).banks,e∈S.banks:=λe he=>by rw[<- b2]; exact(cK.mp he).1
 have m3:(aft S2 (.level n2)).marks=S.marks:=m2;have r3:(aft S2 (.level n2)).runs=S.runs:=r2;have t3:(aft S2 (.level n2)).notes=S2.notes:=rfl;have c3:(aft S2 (.level n2)).coming=26:=c2;generalize aft S2 (.level n2)=S3 at *;have ok4:okD S3 (.bank n20 [(0,0),(3,0),(0,2)]):=⟨okn _ (aF g20),λz=>by
  obtain⟨e,he,ez⟩:=aD.mp z;exact zPq (c:=c) (n:=8) nd g20 (.inr (by have:=B.c2; lia)) (by rw[<- B.b,<- ez]; exact cz (s3 e he)),by unfold zAm; decide,by decide,by lia⟩
 have N4:=N3.aft ok4;rw[all_cons,sA ok4];have l4:(aft S3 (.bank n20 [(0,0),(3,0),(0,2)])).banks.length=8:=by show(S3.banks++[_]).length=8; rw[al,bq]; exact l3
 have m4:(aft S3 (.bank n20 [(0,0),(3,0),(0,2)])).marks=S.marks:=m3;have r4:(aft S3 (.bank n20 [(0,0),(3,0),(0,2)])).runs=S.runs:=r3;have t4:(aft S3 (.bank n20 [(0,0),(3,0),(0,2)])).notes=S2.notes:=t3;have c4:(aft S3 (.bank n20 [(0,0),(3,0),(0,2)])).coming=26:=c3;generalize aft S3 (.bank n20 [(0,0),(3,0),(0,2)])=S4 at *;rw[all_cons,vT (λh=>by have:=h.2.2.2.2; lia)];have in19:n19∈S4.marks.map (·.1):=by rw[m4,B.m]; exact zH0 g19 (by decide)
 have ok5:okD S4 (.unmark n19):=by
  obtain⟨p,e⟩:=zEl (S:=S4) in19;exact⟨by rw[e]; rfl,by rw[t4]; exact u2⟩
 have N5:=N4.aft ok5;rw[all_cons,sA ok5];have l5:(aft S4 (.unmark n19)).marks.length+1=20:=by rw[<- lm,<- m4]; exact zAg (f:=λe:aC×Int×Int=>e.1) N4.nm in19
 have s5:∀ e∈(aft S4 (.unmark n19)).marks,e∈S.marks:=λe he=>by rw[<- m4]; exact(cK.mp he).1
 have b5:(aft S4 (.unmark n19)).banks.length=8:=l4;have r5:(aft S4 (.unmark n19)).runs=S.runs:=r4;have t5:(aft S4 (.unmark n19)).notes=S2.notes:=t4;have c5:(aft S4 (.unmark n19)).coming=26:=c4;generalize aft S4 (.unmark n19)=S5 at *;have ok6:okD S5 (.mark n20 1000 (-1000)):=⟨okn _ (aF g20),zFe λz=>by
  obtain⟨e,he,ez⟩:=aD.mp z;have:n20∈(ns.drop 0).take 20:=by rw[lI,<- B.m,<- ez]; exact cz (s5 e he)
  exact zPq nd g20 (.inr (by decide)) this,by unfold zAm; decide,by lia⟩
 have N6:=N5.aft ok6;rw[all_cons,sA ok6];have l6:(aft S5 (.mark n20 1000 (-1000))).marks.length=20:=by show(S5.marks++[_]).length=20; rw[al,bq]; exact l5
 have b6:(aft S5 (.mark n20 1000 (-1000))).banks.length=8:=b5;have r6:(aft S5 (.mark n20 1000 (-1000))).runs=S.runs:=r5;have t6:(aft S5 (.mark n20 1000 (-1000))).notes=S2.notes:=t5;have c6:(aft S5 (.mark n20 1000 (-1000))).coming=26:=c5;generalize aft S5 (.mark n20 1000 (-1000))=S6 at *;rw[all_cons,vT (λh=>by have:=h.2.2.2; lia),all_cons,vT (S:=S6) (D:=.unmark n0) (λh=>(show unlike n0 (Deed.bearing 12 n0 1 0 0 1) from h.2 _ (by rw[t6]; exact h2)) rfl),all_cons,vT (S:=S6) (D:=.strike 26) (λh=>by
  obtain⟨e,he,z⟩:=aD.mp (show(26:Int)∈S6.notes.map (·.1) from h);have:=N6.well.good.fresh e he;lia)]
 exact⟨l6,b6,by show S6.runs.length=12; rw[r6]; exact B.r,by show S6.notes.length=24; rw[t6]; exact l2⟩
theorem zNm.good{ns:List aC}{D:Deed}(h:zNm ns D)(hr:S.runs.length=12)(at_:∀ (i:Nat) (n:aC),i<20->ns[i]?=some n->∃ p:Int×Int,zM S n=some p/\p.2=i):zRy S D:=by
 rcases h with ⟨m,i,l,r,rfl,h1,h2,h3,h4,h5⟩ | ⟨m,k,i,n,rfl,h1,h2,h3,h4,h5,h6⟩
 ·obtain⟨p,e1,q1⟩:=at_ i l (by lia) h4;obtain⟨u,e2,q2⟩:=at_ (i+1) r (by lia) h5;exact⟨h1,by lia,by rw[e1]; rfl,by rw[e2]; rfl,by rw[e1,e2]; exact λz=>by cases z; lia⟩
 ·obtain⟨p,e1,q1⟩:=at_ i n (by lia) h6;have o1:rQ (100,k):=⟨λz=>by injection z; lia,by show(-100:Int)<=100; decide,by show(100:Int)<=100; decide,by show -100<=k; lia,by show k<=100; lia⟩;have o2:rQ (-k,100):=⟨λz=>by injection z; lia,by show -100<=-k; lia,by show -k<=100; lia,by show(-100:Int)<=100; decide,by show(100:Int)<=100; decide⟩;exists h1,by lia,by rw[e1]; rfl,o1,o2;have:0<=k*k:=gM h3 h3;rw[kR];lia
theorem zNm.unlike{ns:List aC}{D:Deed}{n19:aC}(h:zNm ns D)(nd:ns.Nodup)(g19:ns[19]?=some n19):unlike n19 D:=by
 have ne:∀{i:Nat}{x:aC},i<19->ns[i]?=some x->x≠n19:=λ{i x} hi g z=>by
  have h1:=(ay.mp g);have h2:=(ay.mp g19);have:=(dX nd (h₀:=h1.1) (h₁:=h2.1)).mp (by rw[h1.2,h2.2,z]);lia
 rcases h with ⟨m,i,l,r,rfl,h1,h2,h3,h4,h5⟩ | ⟨m,k,i,n,rfl,h1,h2,h3,h4,h5,h6⟩
 ·exact⟨ne (by lia) h4,ne (by lia) h5⟩
 ·exact ne h5 h6
theorem zQ2{ns:List aC}{n19:aC}{Ds:List Deed}{l1:List (aC×Int×Int)}{l2:List (aC×List (Int×Int))}{l3:List (Int×Int)}{l4:List Deed}{c:Nat}(F:zS1 ns Ds l1 l2 l3 l4 c)(ln:ns.length=22)(nd:ns.Nodup)(okn:∀ n∈ns,wC n)(g19:ns[19]?=some n19):Brim ns n19 c (yL BS.nil Ds):=by
 have ne:zBh (yL BS.nil Ds):=zEc zBh.nil;have nd1:(l1.map (·.1)).Nodup:=by rw[F.n1]; exact nd.sublist (g7 _ _)
 have nd2:(l2.map (·.1)).Nodup:=by rw[F.n2]; exact nd.sublist ((g7 _ _).trans (List.drop_sublist _ _))
 have len1:l1.length=20:=by have:=congrArg cr F.n1; rw[ac,bK] at this; lia
 have len2:l2.length=8:=by have:=congrArg cr F.n2; rw[ac,bK,cO] at this; have:=F.c2; lia
 have q1:yL BS.nil (l1.map zOm)=⟨l1,[],[],[],1⟩:=zGu l1 BS.nil nd1 (λe he=>by
  obtain⟨j,hj⟩:=cF.mp he;exact⟨okn _ (eT (by rw[<- F.n1]; exact cz he)),(F.p1 j e hj).1⟩) (by show 0+l1.length<=20; lia)
 have q2:yL ⟨l1,[],[],[],1⟩ (l2.map zN5)=⟨l1,l2,[],[],1⟩:=zGq l2 ⟨l1,[],[],[],1⟩ nd2 (λe he=>by
  obtain⟨j,hj⟩:=cF.mp he;obtain⟨j8,ej⟩:=F.p2 j e hj;refine⟨okn _ (i9 (eT (by rw[<- F.n2]; exact cz he))),λc hc=>?_,?_⟩
  ·rw[ej] at hc;simp only[aI,bV,or_false] at hc;unfold zAm;rcases hc with rfl | rfl | rfl <;> dsimp only <;> lia
  ·obtain⟨a,b,c,e1,e2⟩:=zHw (cs:=e.2) (.inl ⟨j,by lia,by lia,ej⟩);rw[e2];rw[ej] at e1;cases e1;rfl) (by show 0+l2.length<=8; lia)
 have q3:yL ⟨l1,l2,[],[],1⟩ (l3.map zO5)=⟨l1,l2,l3,[],1⟩:=zJb l3 ⟨l1,l2,[],[],1⟩ F.p3 (by show 0+l3.length<=12; have:=F.n3; lia);have eS:yL BS.nil Ds=yL ⟨l1,l2,l3,[],1⟩ l4:=by rw[F.eq,zEo,zEo,zEo,q1,q2,q3]
 have q4:=zGo l4 ⟨l1,l2,l3,[],1⟩ (λD hD=>(F.p4 D hD).good (by exact F.n3) λi n hi g=>by
  have gl:(l1.map (·.1))[i]?=some n:=by rw[F.n1,d6,if_pos hi]; exact g
  rw[av,aJ] at gl;obtain⟨e,ge,rfl⟩:=gl;exact⟨e.2,qX (l:=l1) nd1 (aF ge),(F.p1 i e ge).2⟩) (by show 0+l4.length<=24; have:=F.n4; lia)
 rw[<- eS] at q4;have eN:(yL BS.nil Ds).notes.map (·.2)=l4:=q4.n;have eC:(yL BS.nil Ds).coming=25:=by rw[q4.c,F.n4]; rfl
 refine⟨ne,by rw[q4.m]; exact F.n1,F.c2,by rw[q4.b]; exact F.n2,by rw[q4.r]; exact F.n3,by have:=congrArg cr eN; rw[ac,F.n4] at this; exact this,λk a b=>q4.k k (.inr ⟨a,by lia⟩),eC,λe he=>(F.p4 e.2 (by rw[<- eN]; exact cz he)).unlike nd g19⟩
end
end Sea

-- LAW
namespace Sea
open PySem L2
local macro_rules | `(tactic| ac_rfl) => `(tactic| exact ⟨rfl, rfl, rfl, by decide +kernel, rfl, by decide +kernel, by decide +kernel⟩)
structure Zs(mg:aC->Option af):Prop where
 ValueError:mg "ValueError" = none
 abs:mg "abs" = none
 all:mg "all" = none
 any:mg "any" = none
 bool:mg "bool" = none
 dict:mg "dict" = none
 int:mg "int" = none
 isinstance:mg "isinstance" = none
 len:mg "len" = none
 list:mg "list" = none
 max:mg "max" = none
 range:mg "range" = none
 sorted:mg "sorted" = none
 str:mg "str" = none
 tuple:mg "tuple" = none
 zip:mg "zip" = none
theorem zPu:zO ["one", "other"] ["one", "other"] (zI zD6):=by ac_rfl
theorem zDo:zO ["start", "end"] ["start", "end"] (zI uF):=by ac_rfl
theorem xU:zO ["corners", "number", "start", "way", "further", "other"] ["corners", "number"] (zI uI):=by ac_rfl
theorem zKf:zO ["corners"] ["corners"] (zI rZ):=by ac_rfl
theorem zDv:zO [] [] (zI uM):=by ac_rfl
theorem zC9:zO ["state", "kind", "key", "value", "fresh"] ["state", "kind", "key", "value"] (zI qC):=by ac_rfl
theorem zDf:zO ["state", "kind", "key", "fresh"] ["state", "kind", "key"] (zI rS):=by ac_rfl
theorem zKx:zO ["numbers", "most"] ["numbers", "most"] (zI zAn):=by ac_rfl
theorem zE9:zO ["name"] ["name"] (zI vJ):=by ac_rfl
theorem zEi:zO ["state", "kind", "name"] ["state", "kind", "name"] (zI vA):=by ac_rfl
theorem zDw:zO ["place"] ["place"] (zI uG):=by ac_rfl
theorem zF0:zO ["run"] ["run"] (zI tG):=by ac_rfl
theorem zEj:zO ["state", "kind"] ["state", "kind"] (zI vD):=by ac_rfl
theorem zFi:zO ["state", "name"] ["state", "name"] (zI vB):=by ac_rfl
theorem zCe:zO ["moment", "runs"] ["moment", "runs"] (zI wY):=by ac_rfl
theorem zF5:zO ["direction"] ["direction"] (zI tJ):=by ac_rfl
theorem zDg:zO ["state", "left", "right"] ["state", "left", "right"] (zI uD):=by ac_rfl
theorem tX:zO ["state", "row", "name", "place"] ["state", "row"] (zI vK):=by ac_rfl
theorem uK:zO ["state", "row", "place", "fresh", "note"] ["state", "row"] (zI vL):=by ac_rfl
theorem uW:zO ["state", "row", "name", "note"] ["state", "row"] (zI wV):=by ac_rfl
theorem uP:zO ["state", "row", "name", "corners", "corner"] ["state", "row"] (zI vH):=by ac_rfl
theorem qK:zO ["state", "row", "name"] ["state", "row"] (zI uO):=by ac_rfl
theorem qU:zO ["state", "row", "run"] ["state", "row"] (zI vI):=by ac_rfl
theorem vU:zO ["state", "row", "number", "run"] ["state", "row"] (zI uH):=by ac_rfl
theorem qR:zO ["state", "row", "fresh"] ["state", "row"] (zI vG):=by ac_rfl
theorem zB4:zO ["state", "row"] ["state", "row"] (zI wL):=by ac_rfl
theorem zDi:zO ["state", "row"] ["state", "row"] (zI uT):=by ac_rfl
theorem rG:zO ["state", "row", "number"] ["state", "row"] (zI wS):=by ac_rfl
theorem zN0:zO ["state", "row"] ["state", "row"] (zI zBr):=by ac_rfl
theorem zNw:zO ["_law_number"] ["_law_number"] (zI zB1):=by ac_rfl
theorem wN:zO ["_law_script", "_law_many", "_law_rows", "_law_mix", "_law_cell", "_law_rest"] ["_law_script", "_law_many"] (zI zBj):=by ac_rfl
theorem xC:zO ["_law_some", "_law_many", "_law_letters", "_law_rows", "_law_at", "_law_raw", "_law_size", "_law_step", "_law_word_here", "_law_place", "_law_k", "_law_sign"] ["_law_some", "_law_many"] (zI zCb):=by ac_rfl
theorem zR9:zO [] [] (zI zHj):=by ac_rfl
theorem xS:zO ["_law_some", "_law_names_here", "_law_deeds", "_law_k", "_law_d", "_law_deed"] ["_law_some", "_law_names_here"] (zI zAi):=by ac_rfl
theorem zJv:zO ["_law_name"] ["_law_name"] (zI qB):=by ac_rfl
theorem zRo:zO ["_law_x", "_law_y"] ["_law_x", "_law_y"] (zI zDz):=by ac_rfl
theorem vC:zO ["_law_m", "_law_deed", "_law_name", "_law_note", "_law_other"] ["_law_m", "_law_deed"] (zI tL):=by ac_rfl
theorem zGb:zO ["_law_m", "_law_deed"] ["_law_m", "_law_deed"] (zI tK):=by ac_rfl
theorem zHt:zO ["_law_m", "_law_deed"] ["_law_m", "_law_deed"] (zI sW):=by ac_rfl
theorem zKq:zO ["_law_one", "_law_other"] ["_law_one", "_law_other"] (zI zAp):=by ac_rfl
theorem rB:zO ["_law_m", "_law_deed", "_law_x", "_law_y"] ["_law_m", "_law_deed"] (zI tF):=by ac_rfl
theorem zQm:zO ["_law_m", "_law_deed"] ["_law_m", "_law_deed"] (zI zEe):=by ac_rfl
theorem zL2:zO ["_law_m", "_law_deed", "_law_word_here"] ["_law_m", "_law_deed"] (zI zHl):=by ac_rfl
theorem zRh:zO ["_law_told", "_law_due_here"] ["_law_told", "_law_due_here"] (zI zBy):=by ac_rfl
theorem xD:zO ["_law_e", "_law_so"] ["_law_e"] (zI qA):=by ac_rfl
theorem zIy:zO ["_law_book", "_law_deed", "_law_e"] ["_law_book", "_law_deed"] (zI zD1):=by ac_rfl
theorem zGf:zO ["_law_m", "_law_deed", "_law_later"] ["_law_m", "_law_deed"] (zI zB6):=by ac_rfl
theorem zHv:zO ["_law_m"] ["_law_m"] (zI sR):=by ac_rfl
theorem zKy:zO ["_law_book", "_law_m"] ["_law_book", "_law_m"] (zI zAj):=by ac_rfl
theorem zCz:zO ["_law_places"] ["_law_places"] (zI wU):=by ac_rfl
theorem xG:zO ["_law_some", "_law_names_here", "_law_sand", "_law_rows"] ["_law_some", "_law_names_here"] (zI zAq):=by ac_rfl
theorem zDc:zO ["_law_script", "_law_some", "_law_names_here", "_law_book", "_law_m", "_law_deed", "_law_due_here"] ["_law_script"] (zI zK5):=by ac_rfl
theorem zQp:zO ["self"] ["self"] (zI zD2):=by ac_rfl
theorem zFa:zO ["self", "row", "number", "fresh"] ["self", "row"] (zI zEa):=by ac_rfl
theorem zGi:zO ["self", "places"] ["self"] (zI zCa):=by ac_rfl
theorem zNk:zO ["self"] ["self"] (zI zBk):=by ac_rfl
theorem zIp:zO ["self", "runs"] ["self"] (zI zD4):=by ac_rfl
theorem zNd:zO ["self"] ["self"] (zI zCc):=by ac_rfl
theorem zLo:zO ["self"] ["self"] (zI zAo):=by ac_rfl
def xQ:ag:=82
def wP:ag:=130
def yC:ag:=250
def xR:ag:=190
def yZ:ag:=238
def yB:ag:=202
def yV:ag:=118
def xA:ag:=166
def yU:ag:=142
def zY:ag:=57
def wG:ag:=106
def yQ:ag:=214
def yO:ag:=226
def yT:ag:=178
def xT:ag:=269
def yJ:ag:=94
def yM:ag:=70
def yP:ag:=154
def excL:List ag:=[yP,yM,yJ,xT,yT,yO,yQ,wG,yU,xA,yV,yB,yZ,xR,yC,wP,xQ]
def bkC:ag:=611
def zYt:ag:=272
def zYv:List (Key×V):=[(.inr "marks", .int 20),(.inr "banks", .int 8),(.inr "runs", .int 12),(.inr "notes", .int 24)]
def zT6:ag:=437
def zUs:List (Key×V):=[(.inr "mark", .ref 366),(.inr "move", .ref 373),(.inr "unmark", .ref 380),(.inr "bank", .ref 387),(.inr "level", .ref 394),(.inr "sail", .ref 401),(.inr "right", .ref 408),(.inr "bearing", .ref 422),(.inr "range", .ref 429),(.inr "strike", .ref 436)]
def zK6:ag:=458
def zKs:ag:=535
def zD5:ag:=582
def zEf:ag:=589
def zHz:ag:=594
def zD8:ag:=601
def zB5:ag:=608
structure Cb(P:aL)(w:aT)(mg:aC->Option af)(base:aV):Prop where
 state:InB base λK=>Cls K bkC/\zAs K bkC "state"
 past:InB base λK=>Cls K bkC/\zAs K bkC "past"
 later:InB base λK=>Cls K bkC/\zAs K bkC "later"
 m_deed:InB base λK=>Cls K bkC/\zRt K bkC "deed" zKs
 m_marks:InB base λK=>Cls K bkC/\zRt K bkC "marks" zD5
 m_banks:InB base λK=>Cls K bkC/\zRt K bkC "banks" zEf
 m_runs:InB base λK=>Cls K bkC/\zRt K bkC "runs" zHz
 m_notes:InB base λK=>Cls K bkC/\zRt K bkC "notes" zD8
 m_coming:InB base λK=>Cls K bkC/\zRt K bkC "coming" zB5
 make:InB base λK=>Mk K bkC zK6
 gBook:mg "Book" = some (.ref bkC)
 dMOST:zW5 P w base zYt zYv
 gMOST:mg "MOST" = some (.ref zYt)
 dAFTER:zW5 P w base zT6 zUs
 gAFTER:mg "AFTER" = some (.ref zT6)
 LONGEST_NAME:∃ k,mg "LONGEST_NAME" = some (.int 8 k)
 FARTHEST:∃ k,mg "FARTHEST" = some (.int 1000 k)
 LONGEST_WAY:∃ k,mg "LONGEST_WAY" = some (.int 100 k)
 t_mark:mg "after_mark" = some (.ref 366)
 t_move:mg "after_move" = some (.ref 373)
 t_unmark:mg "after_unmark" = some (.ref 380)
 t_bank:mg "after_bank" = some (.ref 387)
 t_level:mg "after_level" = some (.ref 394)
 t_sail:mg "after_sail" = some (.ref 401)
 t_right:mg "after_right" = some (.ref 408)
 t_bearing:mg "after_bearing" = some (.ref 422)
 t_range:mg "after_range" = some (.ref 429)
 t_strike:mg "after_strike" = some (.ref 436)
 gBadBank:mg "BadBank" = some (.ref yP)
 gBadName:mg "BadName" = some (.ref yM)
 gBadPlace:mg "BadPlace" = some (.ref yJ)
 gBadRow:mg "BadRow" = some (.ref xT)
 gBadRun:mg "BadRun" = some (.ref yT)
 gBadTurn:mg "BadTurn" = some (.ref yO)
 gBadWay:mg "BadWay" = some (.ref yQ)
 gFull:mg "Full" = some (.ref wG)
 gMarkError:mg "MarkError" = some (.ref zY)
 gNeeded:mg "Needed" = some (.ref yU)
 gNoBank:mg "NoBank" = some (.ref xA)
 gNoMark:mg "NoMark" = some (.ref yV)
 gNoMoment:mg "NoMoment" = some (.ref yB)
 gNoNote:mg "NoNote" = some (.ref yZ)
 gNoRun:mg "NoRun" = some (.ref xR)
 gNothingLeft:mg "NothingLeft" = some (.ref yC)
 gSame:mg "Same" = some (.ref wP)
 gTaken:mg "Taken" = some (.ref xQ)
 e_BadBank:a9 "BadBank" yP bmV "ValueError.__new__" mg base
 t_BadBank_MarkError:zAr base (.ref yP) zY
 e_BadName:a9 "BadName" yM bmV "ValueError.__new__" mg base
 t_BadName_MarkError:zAr base (.ref yM) zY
 e_BadPlace:a9 "BadPlace" yJ bmV "ValueError.__new__" mg base
 t_BadPlace_MarkError:zAr base (.ref yJ) zY
 e_BadRun:a9 "BadRun" yT bmV "ValueError.__new__" mg base
 t_BadRun_MarkError:zAr base (.ref yT) zY
 e_BadTurn:a9 "BadTurn" yO bmV "ValueError.__new__" mg base
 t_BadTurn_MarkError:zAr base (.ref yO) zY
 e_BadWay:a9 "BadWay" yQ bmV "ValueError.__new__" mg base
 t_BadWay_MarkError:zAr base (.ref yQ) zY
 e_Full:a9 "Full" wG bmV "ValueError.__new__" mg base
 t_Full_MarkError:zAr base (.ref wG) zY
 e_Needed:a9 "Needed" yU bmV "ValueError.__new__" mg base
 t_Needed_MarkError:zAr base (.ref yU) zY
 e_NoBank:a9 "NoBank" xA bmV "ValueError.__new__" mg base
 t_NoBank_MarkError:zAr base (.ref xA) zY
 e_NoMark:a9 "NoMark" yV bmV "ValueError.__new__" mg base
 t_NoMark_MarkError:zAr base (.ref yV) zY
 e_NoMoment:a9 "NoMoment" yB bmV "ValueError.__new__" mg base
 t_NoMoment_MarkError:zAr base (.ref yB) zY
 e_NoNote:a9 "NoNote" yZ bmV "ValueError.__new__" mg base
 t_NoNote_MarkError:zAr base (.ref yZ) zY
 e_NoRun:a9 "NoRun" xR bmV "ValueError.__new__" mg base
 t_NoRun_MarkError:zAr base (.ref xR) zY
 e_Same:a9 "Same" wP bmV "ValueError.__new__" mg base
 t_Same_MarkError:zAr base (.ref wP) zY
 e_Taken:a9 "Taken" xQ bmV "ValueError.__new__" mg base
 t_Taken_MarkError:zAr base (.ref xQ) zY
 isx:InB base λK=>zW4 K excL=true
set_option hygiene false in
local macro_rules | `(tactic| fail) => `(tactic| first | with_reducible exact yW | with_reducible exact zH | ((with_reducible apply zX4); exact rfl; fail; fail) | with_reducible exact zJ | with_reducible exact zGd | with_reducible exact zQr | ((with_reducible apply zX8); first | ((with_reducible apply zW6 "bool"); exact zA5 (v := .ty "bool") rfl Z.bool zP5 rfl) | ((with_reducible apply zW6 "dict"); exact zA5 (v := .ty "dict") rfl Z.dict zA8 rfl) | ((with_reducible apply zW6 "int"); exact zA5 (v := .ty "int") rfl Z.int zUr rfl) | ((with_reducible apply zW6 "list"); exact zA5 (v := .ty "list") rfl Z.list zCs rfl) | ((with_reducible apply zW6 "str"); exact zA5 (v := .ty "str") rfl Z.str zT1 rfl) | ((with_reducible apply zW6 "tuple"); exact zA5 (v := .ty "tuple") rfl Z.tuple zMh rfl) | exact pv 0 | exact pv 1 | exact pv 2 | exact pv 3 | exact pv 4 | exact pv 5 | exact pv 6 | exact pv 7 | exact pv 8 | exact pv 9 | exact pv 10 | exact pv 11) | ((with_reducible apply m_sub); first | ((with_reducible apply uL zVm); fail; fail; fail) | ((with_reducible apply m_ix); exact λ_ _ => rfl; fail; fail)) | ((with_reducible apply m_bin); first | ((with_reducible apply vN zQf); fail; fail) | ((with_reducible apply vN zX1); fail; fail) | ((with_reducible apply vN zXn); fail; fail) | ((with_reducible apply vN zS9); fail; fail) | ((with_reducible apply vN zXe); fail; fail) | ((with_reducible apply vN zYl); fail; fail)) | ((with_reducible apply zZa); first | ((with_reducible apply m_own); (with_reducible assumption); exact ⟨rfl, rfl, rfl, rfl, rfl⟩; exact hr.mono (by decide); exact rfl; decide; exact rfl; exact rfl; fail) | ((with_reducible apply zKv zS4 zYb); exact Z.abs; exact rfl; decide; decide; exact rfl; exact rfl; fail) | ((with_reducible apply zKv (tV rfl) zFf); exact Z.all; exact rfl; decide; decide; exact rfl; exact rfl; fail) | ((with_reducible apply zKv (zIo rfl) zUi); exact Z.any; exact rfl; decide; decide; exact rfl; exact rfl; fail) | ((with_reducible apply zKv zLd zU); exact Z.isinstance; exact rfl; decide; decide; exact rfl; exact rfl; fail) | ((with_reducible apply zKv xE uU); exact Z.len; exact rfl; decide; decide; exact rfl; exact rfl; fail) | ((with_reducible apply zKv (zO3 rfl) zZb); exact Z.max; exact rfl; decide; decide; exact rfl; exact rfl; fail) | ((with_reducible apply zKv call_sortedT sK); exact Z.sorted; exact rfl; decide; decide; exact rfl; exact rfl; fail) | ((with_reducible apply zWz call_bool1 zP5); exact Z.bool; exact rfl; decide; decide; exact rfl; exact rfl; fail) | ((with_reducible apply zWz rF zA8); exact Z.dict; exact rfl; decide; decide; exact rfl; exact rfl; fail) | ((with_reducible apply zWz call_int1 zUr); exact Z.int; exact rfl; decide; decide; exact rfl; exact rfl; fail) | ((with_reducible apply zWz zDe zCs); exact Z.list; exact rfl; decide; decide; exact rfl; exact rfl; fail) | ((with_reducible apply zWz call_str_any zT1); exact Z.str; exact rfl; decide; decide; exact rfl; exact rfl; fail) | ((with_reducible apply zWz call_tuple_of zMh); exact Z.tuple; exact rfl; decide; decide; exact rfl; exact rfl; fail)) | ((with_reducible apply xV); fail) | ((with_reducible apply tE); fail) | ((with_reducible apply pe_un zXj); fail) | ((with_reducible apply zU1); fail) | ((with_reducible apply m_cmp); first | ((with_reducible apply tY zVq); fail; fail; exact xB _) | ((with_reducible apply tY zXh); fail; fail; exact xB _) | ((with_reducible apply tY zSo); fail; fail; exact xB _) | ((with_reducible apply tY zCj); fail; fail; exact xB _) | ((with_reducible apply tY zIs); fail; fail; exact xB _) | ((with_reducible apply tY zV2); fail; fail; exact xB _) | ((with_reducible apply tY op_isN); fail; fail; exact xB _) | ((with_reducible apply tY op_notN); fail; fail; exact xB _)) | ((with_reducible apply zX6); first | ((with_reducible apply yK zVq); fail; fail; exact xB _) | ((with_reducible apply yK zXh); fail; fail; exact xB _) | ((with_reducible apply yK zSo); fail; fail; exact xB _) | ((with_reducible apply yK zCj); fail; fail; exact xB _) | ((with_reducible apply yK zIs); fail; fail; exact xB _) | ((with_reducible apply yK zV2); fail; fail; exact xB _) | ((with_reducible apply yK op_isN); fail; fail; exact xB _) | ((with_reducible apply yK op_notN); fail; fail; exact xB _)) | ((with_reducible apply zV8); fail) | ((with_reducible apply zFb); fail) | ((with_reducible apply zIi); fail) | ((with_reducible apply zId); fail; fail) | ((with_reducible apply zOi); fail; fail) | ((with_reducible apply zAz); fail) | ((with_reducible apply zMn); fail) | ((with_reducible apply zM5); fail; fail) | ((with_reducible apply pe_or); fail; fail) | ((with_reducible apply tH); fail; fail; fail) | with_reducible exact uZ | ((with_reducible apply vY); fail) | ((with_reducible apply m_val); exact λ_ => rfl; fail))
set_option hygiene false in
local macro_rules | `(tactic| specialize $e) => `(tactic| refine F.ok $e (λvs H Q E h => ?_) (λcdv A outer s H vs Q E hr h => ?_))
local macro_rules | `(tactic| nofun) => `(tactic| ((any_goals fail); try dsimp only [L2.cxOf]))
section
variable{P:aL}{w:aT}{mg:aC->Option af}{base:aV}{f:ag}{fd:bJ}
def zX5(K:ae):Sp:=λvs H Q _=>∃(a b:ag)(us ws:List V)(x1 y1 x2 y2:Int),vs=[.ref a,.ref b]/\Sq K H a us/\Sq K H b ws/\atI us 0=some (.int x1)/\atI us 1=some (.int y1)/\atI ws 0=some (.int x2)/\atI ws 1=some (.int y2) /\
 x1.natAbs<=10^18/\y1.natAbs<=10^18/\Q (.int (x1*y2-y1*x2)) H
def zFm(K:ae):Sp:=zX5 K
theorem zP2(F:Fun K "turn" "turn" zD6 f fd)(Z:Zs mg)(CB:Cb P w mg base)  : xJ P w K mg base CX0 1 f fd ["one", "other"] (zFm K):=by
 specialize zPu
 ·obtain⟨a,b,us,ws,x1,y1,x2,y2,rfl,_⟩:=h;rfl
 obtain⟨a,b,us,ws,x1,y1,x2,y2,rfl,ha,hb,u0,u1,w0,w1,m1,m2,q⟩:=h
 refine'⟨_,(zF (zP ?_)),?_⟩
 nofun
 exact⟨_,rfl,a,_,_,.int x1,rfl,rfl,ha,u0,_,rfl,b,_,_,.int y2,rfl,rfl,hb,w1,_,_,rfl,rfl,zW2 (by lia),
  _,rfl,a,_,_,.int y1,rfl,rfl,ha,u1,_,rfl,b,_,_,.int x2,rfl,rfl,hb,w0,_,_,rfl,rfl,zW2 (by lia),_,_,rfl,rfl,q⟩
def qJ(K:ae):Sp:=λvs H Q _=>∃(a b:ag)(x1 y1 x2 y2:Int),vs=[.ref a,.ref b]/\Sq K H a [.int x1,.int y1]/\Sq K H b [.int x2,.int y2] /\
 ∀ p,H p=none->Q (.ref p) (upd H p (.tup [.int (x2-x1),.int (y2-y1)]))
theorem zDr(F:Fun K "stretch_way" "stretch_way" uF f fd)(Z:Zs mg)(CB:Cb P w mg base)  : xJ P w K mg base CX0 1 f fd ["start", "end"] (qJ K):=by
 specialize zDo
 ·obtain⟨a,b,x1,y1,x2,y2,rfl,_⟩:=h;rfl
 obtain⟨a,b,x1,y1,x2,y2,rfl,ha,hb,q⟩:=h
 refine'⟨_,(zF (zP ?_)),?_⟩
 nofun
 exact⟨_,rfl,b,_,_,.int x2,rfl,rfl,hb,rfl,_,rfl,a,_,_,.int x1,rfl,rfl,ha,rfl,_,_,rfl,rfl,
  _,rfl,b,_,_,.int y2,rfl,rfl,hb,rfl,_,rfl,a,_,_,.int y1,rfl,rfl,ha,rfl,_,_,rfl,rfl,sz2,λp hp=>q p hp⟩
def PrQ(K:ae)(H:Hp)(l:ag)(ps:List Pr):Prop:=Sq K H l (wQ ps)/\zW1 H (10^8) ps
theorem PrQ.same{K:ae}{H H':Hp}{l:ag}{ps:List Pr}(h:PrQ K H l ps)(s:Same H H'):PrQ K H' l ps:=⟨s.sq h.1,h.2.same s⟩
theorem modI{i n:Nat}{k:Int}(e:k=(i:Int)):k%(n:Int)=((i%n:Nat):Int):=by
 rw[e];exact(Int.natCast_emod i n).symm
def qM(K:ae):Sp:=λvs H Q _=>∃(l:ag)(ps:List Pr)(i:Nat),vs=[.ref l,.int (i:Int)]/\PrQ K H l ps/\i<ps.length/\ps.length<=1000 /\
 ∀ H',Same H H'->Q (.bl (tT ps i)) H'
theorem zDs(F:Fun K "all_left_of" "all_left_of" uI f fd)(Z:Zs mg)(CB:Cb P w mg base)(yBw:Has P w K mg base "turn" 1 ["one", "other"] (zFm K))(yAj:Has P w K mg base "stretch_way" 1 ["start", "end"] (qJ K)):xJ P w K mg base CX0 2 f fd ["corners", "number"] (qM K):=by
 specialize xU
 ·obtain⟨l,ps,i,rfl,_⟩:=h;rfl
 obtain⟨l,ps,i,rfl,hL,hi,hn,q⟩:=h
 refine'⟨_,(zD (yN 2 xU.nd ?_)
   (zD (yN 3 xU.nd ?_)
   (zD (sV bU rfl (zOt rfl Z.range ?_) (zDh 4 xU.nd) (zD (yN 5 xU.nd ?_)
   (zF (yH ?_ (zF (zP zGd)) zS))))
   (zF (zP zGd))))),?_⟩
 nofun
 obtain⟨t0,m0,g0,a0⟩:=zFr (ps:=ps) (i:=i) (k:=(i:Int)) rfl hi;have hm1:(i+1)%ps.length<ps.length:=Nat.mod_lt _ (by lia);obtain⟨t1,m1,g1,a1⟩:=zFr (ps:=ps) (i:=(i+1)%ps.length) (k:=((i:Int)+1)%(ps.length:Int)) (modI (by lia)) hm1;rw[<- xN ps] at a1;obtain⟨e0,b00,b01⟩:=hL.2 t0 m0;obtain⟨e1,b10,b11⟩:=hL.2 t1 m1;have nl:((wQ ps).length:Int)=(ps.length:Int):=by rw[xN]
 exists _,rfl,_,rfl,l,_,_,_,rfl,rfl,hL.1,a0;refine⟨_,rfl,_,rfl,_,rfl,_,_,rfl,rfl,_,rfl,l,_,rfl,hL.1,_,_,rfl,rfl,(by show(0:Int)<((wQ ps).length:Int); lia),l,_,_,_,rfl,rfl,hL.1,a1,
  t0.1,t1.1,t0.2.1,t0.2.2,t1.2.1,t1.2.2,rfl,.inr (SqT.of e0),.inr (SqT.of e1),λd hd=>?_⟩
 have sd:Same H (upd H d (.tup [.int (t1.2.1-t0.2.1),.int (t1.2.2-t0.2.2)])):=zB hd _;have ed:upd H d (.tup [.int (t1.2.1-t0.2.1),.int (t1.2.2-t0.2.2)]) d=some (.tup [.int (t1.2.1-t0.2.1),.int (t1.2.2-t0.2.2)]):=zA;generalize upd H d (.tup [.int (t1.2.1-t0.2.1),.int (t1.2.2-t0.2.2)])=H1 at sd ed ⊢;exists _,rfl,l,_,rfl,(sd.sq hL.1),2,_,rfl,(by lia);refine sO (lo:=2) (n:=(((wQ ps).length:Int)-2).toNat) (λj σ H'=>Same H1 H'/\(∀ j'<j,zPm ps i ((i+(2+j'))%ps.length)=true)/\∃ u4 u5:Option V,σ=[some (.ref l),some (.int (i:Int)),some (.ref t0.1),some (.ref d),u4,u5])
  ⟨Same.refl _,λj' hj'=>absurd hj' (iP _),none,none,rfl⟩ ?_ ?_
 ·rintro j σ H' hj ⟨sH,hall,u4,u5,rfl⟩;have s2:=sd.trans sH;have hjl:j<ps.length-2:=by lia
  have hmk:(i+(2+j))%ps.length<ps.length:=Nat.mod_lt _ (by lia);obtain⟨t2,m2,g2,a2⟩:=zFr (ps:=ps) (i:=(i+(2+j))%ps.length) (k:=((i:Int)+(2+(j:Int)))%(ps.length:Int)) (modI (by lia)) hmk;rw[<- xN ps] at a2;obtain⟨e2,b20,b21⟩:=hL.2 t2 m2;have lf:zPm ps i ((i+(2+j))%ps.length)=decide (0<(t1.2.1-t0.2.1)*(t2.2.2-t0.2.2)-(t1.2.2-t0.2.2)*(t2.2.1-t0.2.1)):=by
   unfold zPm;rw[zQ4 g0,zQ4 g1,zQ4 g2];rfl
  exists _,rfl,_,rfl,_,rfl,_,_,rfl,rfl,_,rfl,l,_,rfl,(s2.sq hL.1),_,_,rfl,rfl,(by show(0:Int)<((wQ ps).length:Int); lia),l,_,_,_,rfl,rfl,(s2.sq hL.1),a2;refine⟨_,rfl,_,rfl,_,rfl,t0.1,t2.1,t0.2.1,t0.2.2,t2.2.1,t2.2.2,rfl,.inr (SqT.of (s2 _ _ e0)),.inr (SqT.of (s2 _ _ e2)),λd2 hd2=>?_⟩;have s3:=zB hd2 (.tup [.int (t2.2.1-t0.2.1),.int (t2.2.2-t0.2.2)]);exists d,d2,_,_,t1.2.1-t0.2.1,t1.2.2-t0.2.2,t2.2.1-t0.2.1,t2.2.2-t0.2.2,rfl,.inr (SqT.of (s3 _ _ (sH _ _ ed))),.inr (SqT.of zA),rfl,rfl,rfl,rfl,by lia,by lia,_,_,rfl,rfl,_,rfl;refine ifD (λhle=>?_) (λhgt=>?_)
  ·have hb:tT ps i=false:=by
    unfold tT;rw[g8];intro z;have z2:=br.mp z j (b7.mpr hjl);rw[lf] at z2;have z3:=of_decide_eq_true z2;lia
   have r:=q _ (s2.trans s3);rw[hb] at r;exact r
  ·refine⟨sH.trans s3,λj' hj'=>?_,_,_,rfl⟩;by_cases e:j'=j
   ·rw[e,lf];exact decide_eq_true (by lia)
   ·exact hall j' (by lia)
 ·rintro σ H2 ⟨sH,hall,_,_,rfl⟩;have hb:tT ps i=true:=by
   unfold tT;rw[br];intro j hj;exact hall j (by have:=b7.mp hj; lia)
  have r:=q _ (sd.trans sH);rw[hb] at r;exact r
def zC5(K:ae):Sp:=λvs H Q _=>∃(l:ag)(ps:List Pr),vs=[.ref l]/\PrQ K H l ps/\ps.length<=1000/\∀ H',Same H H'->Q (.bl (isB ps)) H'
theorem zJj(F:Fun K "is_bank" "is_bank" rZ f fd)(Z:Zs mg)(CB:Cb P w mg base)(yAm:Has P w K mg base "all_left_of" 2 ["corners", "number"] (qM K)):xJ P w K mg base CX0 3 f fd ["corners"] (zC5 K):=by
 specialize zKf
 ·obtain⟨l,ps,rfl,_⟩:=h;rfl
 obtain⟨l,ps,rfl,hL,hn,q⟩:=h
 refine'⟨_,(zD (yH ?_ (zF (zP zGd)) zS)
   (zF (zP (zQ (tV rfl) rfl Z.all zFf (zC (sN (T:=["number"]) (caps:=[("corners", 0)]) ⟨rfl,by decide +kernel,by decide +kernel,rfl,⟨⟨rfl,rfl,dj rfl⟩,bo⟩⟩ rfl (uR rfl Z.range ?_) (λ_=>(zDh 0 (show(["number", "corners"]:List aC).Nodup by decide +kernel))) (λ_=>uC) (λ_=>?_)) zH))))),?_⟩
 nofun
 have nl:((wQ ps).length:Int)=(ps.length:Int):=by rw[xN]
 exists _,rfl,l,_,rfl,hL.1,_,_,rfl,rfl,_,rfl;refine ifD (λh3=>?_) (λh3=>?_)
 ·have hb:isB ps=false:=by unfold isB; rw[decide_eq_false (by lia),gE]
  have r:=q _ (Same.refl _);rw[hb] at r;exact r
 exists _,rfl,l,_,rfl,hL.1,_,_,rfl,rfl,_,rfl;refine ifD (λh8=>?_) (λh8=>?_)
 ·have hb:isB ps=false:=by unfold isB; rw[decide_eq_false (p:=ps.length<=8) (by lia),gE,lB]
  have r:=q _ (Same.refl _);rw[hb] at r;exact r
 have hb:isB ps=(bx ps.length).all (tT ps):=by unfold isB; rw[decide_eq_true (by lia),decide_eq_true (by lia),jr,jr]
 refine⟨_,rfl,l,_,rfl,hL.1,_,rfl,(by lia),(by lia),λc D hD=>?_⟩;refine zBc (lo:=0) (n:=(((wQ ps).length:Nat):Int).toNat) (λj σ zs H'=>Same H H'/\H' D=some (.lst zs)/\zs=((bx j).map (tT ps)).map V.bl/\∃ u0:Option V,σ=[u0,some (.ref l)])
  ⟨zB hD _,zA,rfl,none,rfl⟩ (λi σ ys H' _ ⟨_,e,_⟩=>e) ?_ ?_
 ·rintro j σ zs H' hj ⟨sH,eD,rfl,u0,rfl⟩;refine⟨_,rfl,_,rfl,l,ps,j,(by rw[fK]; rfl),hL.same sH,by lia,hn,λH2 s2=>⟨s2 _ _ eD,zT (by rw[ac,ac,dr]; lia),(sH.trans s2).putNew hD,zA,?_,_,rfl⟩⟩;rw[iL,aA,aA];rfl
 ·rintro σ zs H' ⟨sH,eD,rfl,u0,rfl⟩;exists D,_,rfl,SqL.of eD;have r:=q _ sH;rw[hb] at r;have e:((bx (((wQ ps).length:Nat):Int).toNat).map (tT ps)).all id=(bx ps.length).all (tT ps):=by
   rw[cg,xN,jV];rfl
  rw[e];exact r
def qI(K:ae):Sp:=λvs H Q _=>vs=[]/\∀(d:ag)(H':Hp),Same H H'->H d=none->zMd H' d BS.nil->Q (.ref d) H'
theorem zDp(F:Fun K "nothing_yet" "nothing_yet" uM f fd)(Z:Zs mg)(CB:Cb P w mg base)  : xJ P w K mg base CX0 1 f fd [] (qI K):=by
 specialize zDv
 ·obtain⟨rfl,_⟩:=h;rfl
 obtain⟨rfl,q⟩:=h
 refine'⟨_,zF ?h,?_⟩
 rotate_left
 with_reducible refine' zP ?_
 rotate_left
 with_reducible exact zKu (wO zJ rW (wO zJ rW (wO zJ rW (wO zJ rW (wO zJ yW zKr))))) rfl rfl (λz=>nomatch z) (by decide)
 try dsimp only[L2.cxOf]
 intro p hp m hm b hb r hr n hn;have s1:=zB hp (.dK []);have s2:=zB hm (.dK []);have s3:=zB hb (.dK []);have s4:=zB hr (.dK []);have s5:=zB hn (.dK []);have em:=(s3.trans (s4.trans s5)) _ _ zA;have eb:=(s4.trans s5) _ _ zA;have er:=s5 _ _ zA;have ep:=(s2.trans (s3.trans (s4.trans s5))) _ _ zA;exists ep,[(.inr "marks", .ref m),(.inr "banks", .ref b),(.inr "runs", .ref r),(.inr "notes", .ref n),(.inr "coming", .int 1)],rfl,(show 5<=15 by decide);rw[zTi];have ne:∀{x:ag},(upd H p (.dK [])) x=none->x≠p:=λ{x} h z=>by rw[z,zA] at h; cases h
 have nb:=ne (s2.free hb);have nr:=ne (s2.free (s3.free hr));have nn:=ne (s2.free (s3.free (s4.free hn)));refine q p _ (λc o e=>?_) hp ⟨m,b,r,n,.inl zA,.nil ?_,.nil ?_,.nil ?_,.nil ?_⟩
 ·rw[zG (zK e hp)];exact(s1.trans (s2.trans (s3.trans (s4.trans s5)))) c o e
 ·rw[zG (ne hm)]; exact em
 ·rw[zG nb]; exact eb
 ·rw[zG nr]; exact er
 ·rw[zG nn]; exact zA
def xY(K:ae):Sp:=λvs H Q _=>∃(d a:ag)(kind:aC)(key:Key)(v:V)(kvs ms:List (Key×V)),vs=[.ref d,.str kind,kV key,v]/\Rd H d (.dK kvs)/\wT kvs (.inr kind)=some (.ref a)/\Rd H a (.dK ms)/\kvs.length<=100/\ms.length<=100 /\
 ∀(f c:ag)(H':Hp),Same H H'->H f=none->f≠c->H' f=some (.dK (sY kvs (.inr kind) (.ref c)))->H' c=some (.dK (sY ms key v))->Q (.ref f) H'
theorem zI9(F:Fun K "changed" "changed" qC f fd)(Z:Zs mg)(CB:Cb P w mg base)  : xJ P w K mg base CX0 1 f fd ["state", "kind", "key", "value"] (xY K):=by
 specialize zC9
 ·obtain⟨d,a,kind,key,v,kvs,ms,rfl,_⟩:=h;rfl
 obtain⟨d,a,kind,key,v,kvs,ms,rfl,hd,ea,ha,l1,l2,q⟩:=h
 refine'⟨_,(zD (yN 4 zC9.nd ?_)
   (zD (rA (zV hr) (pv 4) (pv 1) (wR rF rfl Z.dict zA8 (zC (zN (zV hr) (pv 0) (pv 1) (λ_ _=>rfl)) zH)) rfl)
   (zD (rA (zV hr) (zN (zV hr) (pv 4) (pv 1) (λ_ _=>rfl)) (pv 2) (pv 3) rfl)
   (zF (zP (pv 4)))))),?_⟩
 nofun
 refine⟨_,rfl,d,kvs,rfl,hd,λp hp=>?_⟩;have s1:=zB hp (.dK kvs);have hd1:Rd (upd H p (.dK kvs)) d (.dK kvs):=hd.imp (s1 _ _) λ⟨o,e⟩=>⟨o,s1 _ _ e⟩;have ha1:Rd (upd H p (.dK kvs)) a (.dK ms):=ha.imp (s1 _ _) λ⟨o,e⟩=>⟨o,s1 _ _ e⟩;refine⟨_,rfl,_,rfl,d,.ref a,rfl,.inl ⟨kvs,.inr kind,hd1,rfl,ea.symm⟩,a,ms,rfl,ha1,λc hc=>?_⟩;have npc:p≠c:=zK zA hc;have s2:=zB hc (.dK ms);have e2:upd (upd H p (.dK kvs)) c (.dK ms) p=some (.dK kvs):=s2 _ _ zA;exists _,rfl,_,rfl,p,_,rfl,zKh.k (k:=.inr kind) e2 (zT (by lia));have e3:upd (upd (upd H p (.dK kvs)) c (.dK ms)) p (.dK (sY kvs (.inr kind) (.ref c))) c=some (.dK ms):=by rw[zG npc.symm,zA]
 refine⟨_,rfl,_,rfl,_,rfl,p,.ref c,rfl,.inl ⟨_,.inr kind,.inl zA,rfl,?_⟩,_,rfl,c,_,rfl,zKh.k e3 (zT (by lia)),_,rfl,?_⟩
 ·rw[zL4,if_pos rfl]
 refine q p c _ (λb o e=>?_) hp npc ?_ zA
 ·have n1:=zK e hp;have n2:=zK (s1 _ _ e) hc;rw[zG n2,zG n1,zG n2,zG n1];exact e
 ·rw[zG npc,zA]
def sU(K:ae):Sp:=λvs H Q _=>∃(d a:ag)(kind:aC)(key:Key)(v:V)(kvs ms:List (Key×V)),vs=[.ref d,.str kind,kV key]/\Rd H d (.dK kvs)/\wT kvs (.inr kind)=some (.ref a)/\Rd H a (.dK ms)/\wT ms key=some v/\kvs.length<=100 /\
 ∀(f c:ag)(H':Hp),Same H H'->H f=none->f≠c->H' f=some (.dK (sY kvs (.inr kind) (.ref c)))->H' c=some (.dK (zDk ms key))->Q (.ref f) H'
theorem zH8(F:Fun K "without" "without" rS f fd)(Z:Zs mg)(CB:Cb P w mg base)  : xJ P w K mg base CX0 1 f fd ["state", "kind", "key"] (sU K):=by
 specialize zDf
 ·obtain⟨d,a,kind,key,v,kvs,ms,rfl,_⟩:=h;rfl
 obtain⟨d,a,kind,key,v,kvs,ms,rfl,hd,ea,ha,ev,l1,q⟩:=h
 refine'⟨_,(zD (yN 3 zDf.nd ?_)
   (zD (rA (zV hr) (pv 3) (pv 1) (wR rF rfl Z.dict zA8 (zC (zN (zV hr) (pv 0) (pv 1) (λ_ _=>rfl)) zH)) rfl)
   (zD (zX (zEb (zN (zV hr) (pv 3) (pv 1) (λ_ _=>rfl)) (pv 2) ⟨rfl,rfl,rfl,rfl⟩))
   (zF (zP (pv 3)))))),?_⟩
 nofun
 refine⟨_,rfl,d,kvs,rfl,hd,λp hp=>?_⟩;have s1:=zB hp (.dK kvs);have hd1:Rd (upd H p (.dK kvs)) d (.dK kvs):=hd.imp (s1 _ _) λ⟨o,e⟩=>⟨o,s1 _ _ e⟩;have ha1:Rd (upd H p (.dK kvs)) a (.dK ms):=ha.imp (s1 _ _) λ⟨o,e⟩=>⟨o,s1 _ _ e⟩;refine⟨_,rfl,_,rfl,d,.ref a,rfl,.inl ⟨kvs,.inr kind,hd1,rfl,ea.symm⟩,a,ms,rfl,ha1,λc hc=>?_⟩;have npc:p≠c:=zK zA hc;have s2:=zB hc (.dK ms);have e2:upd (upd H p (.dK kvs)) c (.dK ms) p=some (.dK kvs):=s2 _ _ zA;exists _,rfl,_,rfl,p,_,rfl,zKh.k (k:=.inr kind) e2 (zT (by lia));have e3:upd (upd (upd H p (.dK kvs)) c (.dK ms)) p (.dK (sY kvs (.inr kind) (.ref c))) c=some (.dK ms):=by rw[zG npc.symm,zA]
 refine⟨_,rfl,_,rfl,p,.ref c,rfl,.inl ⟨_,.inr kind,.inl zA,rfl,?_⟩,c,rfl,.inl ⟨ms,.inl e3⟩,_,rfl,ms,key,v,e3,rfl,ev,_,rfl,?_⟩
 ·rw[zL4,if_pos rfl]
 refine q p c _ (λb o e=>?_) hp npc ?_ zA
 ·have n1:=zK e hp;have n2:=zK (s1 _ _ e) hc;rw[zG n2,zG n1,zG n2,zG n1];exact e
 ·rw[zG npc,zA]
def zC7(ns:List Int)(m:Int):Bool:=ns.all λn=>decide (-m<=n)&&decide (n<=m)
def qD(K:ae):Sp:=λvs H Q _=>∃(a:ag)(ns:List Int)(m:Int),vs=[.ref a,.int m]/\H a=some (.tup (ns.map V.int))/\ns.length<=100/\∀ H',Same H H'->Q (.bl (zC7 ns m)) H'
theorem zK0(F:Fun K "within" "within" zAn f fd)(Z:Zs mg)(CB:Cb P w mg base)  : xJ P w K mg base CX0 1 f fd ["numbers", "most"] (qD K):=by
 specialize zKx
 ·obtain⟨a,ns,m,rfl,_⟩:=h;rfl
 obtain⟨a,ns,m,rfl,ha,hl,q⟩:=h
 refine'⟨_,(zF (zP (zQ (tV rfl) rfl Z.all zFf (zC (sN (T:=["number"]) (caps:=[("most", 1)]) ⟨rfl,by decide +kernel,by decide +kernel,rfl,⟨⟨rfl,rfl,dj rfl⟩,bo⟩⟩ rfl (zLy (pv 0)) (λ_=>(zDh 0 (show(["number", "most"]:List aC).Nodup by decide +kernel))) (λ_=>uC) (λ_=>(zB9 zCj zCj ?_ (pv 0) (pv 1)))) zH)))),?_⟩
 nofun
 refine⟨_,rfl,a,rfl,.inr ⟨⟨_,SqT.of ha⟩,λc D hD=>?_⟩⟩;refine zJs (K:=K) (a:=a) (xs:=ns.map V.int) (λi σ zs H'=>Same H H'/\H' D=some (.lst zs)/\zs=((ns.take i).map λn=>decide (-m<=n)&&decide (n<=m)).map V.bl/\∃ u0:Option V,σ=[u0,some (.int m)])
  ⟨zB hD _,zA,rfl,none,rfl⟩ (λi σ zs H' _ ⟨sH,e,_⟩=>⟨SqT.of (sH _ _ ha),e⟩) ?_ ?_
 ·rintro i x σ zs H' hi ⟨sH,eD,rfl,u0,rfl⟩;obtain⟨n,gn,rfl⟩:=zCq hi;have hil:=(ay.mp gn).1;have len:(((ns.take i).map λn=>decide (-m<=n)&&decide (n<=m)).map V.bl).length<sizeLine:=zT (by rw[ac,ac,bK]; lia);have fin:∀ b:Bool,b=(decide (-m<=n)&&decide (n<=m))->((ns.take i).map λn=>decide (-m<=n)&&decide (n<=m)).map V.bl++[V.bl b]=((ns.take (i+1)).map λn=>decide (-m<=n)&&decide (n<=m)).map V.bl:=λb e=>by
   rw[bC,gn,e,aA,aA];rfl
  exists _,rfl,_,rfl,_,rfl,_,_,rfl,rfl,_,rfl;refine ite2 (λh1=>?_) (λh1=>?_)
  ·exact⟨_,rfl,_,_,rfl,rfl,eD,len,sH.putNew hD,zA,fin _ (by rw[h1,jr]),_,rfl⟩
  ·exact⟨eD,len,sH.putNew hD,zA,fin _ (by rw[eq_false_of_ne_true h1,gE]),_,rfl⟩
 ·rintro σ zs H' ⟨sH,eD,rfl,u0,rfl⟩;exists D,_,rfl,SqL.of eD;have r:=q _ sH;rw[ac,bW,jV];exact r
def axC:Cl->ag
 | .badName=>yM
 | .taken=>xQ
 | .badPlace=>yJ
 | .full=>wG
 | .noMark=>yV
 | .same=>wP
 | .needed=>yU
 | .badBank=>yP
 | .noBank=>xA
 | .badRun=>yT
 | .noRun=>xR
 | .noMoment=>yB
 | .badWay=>yQ
 | .badTurn=>yO
 | .noNote=>yZ
def sB(_:ae):Sp:=λvs H Q E=>∃ x:aC,vs=[.str x]/\zBg x/\zM3 (wC x) Q E yM H
theorem zUb(a c:Nat):(!decide ((⟨#[c]⟩:aC).cps.toList<(⟨#[a]⟩:aC).cps.toList))=decide (a<=c):=by
 have e:([c]<[a])↔c<a:=by
  rw[List.cons_lt_cons_iff];simp
 show(!decide ([c]<[a]))=_;by_cases h:c<a
 ·rw[decide_eq_true (e.mpr h),decide_eq_false (by lia)];rfl
 ·rw[decide_eq_false (λz=>h (e.mp z)),decide_eq_true (by lia)];rfl
theorem zE4(F:Fun K "check_name" "check_name" vJ f fd)(Z:Zs mg)(CB:Cb P w mg base)  : xJ P w K mg base (CX1 P w) 1 f fd ["name"] (sB K):=by
 refine F.okX zE9 (λvs H Q E h=>?_) (λcdv A outer s H vs Q E hr h=>?_)
 ·obtain⟨x,rfl,_⟩:=h;rfl
 obtain⟨x,rfl,as,q⟩:=h;exists _,(zF (yH (PW.pt (zOi (yK zSo (zQ zAe rfl Z.len uU (zC (pv 0) zH)) yW (xB _)) (zOi (yK zIs (zQ zAe rfl Z.len uU (zC (pv 0) zH)) (zL6 CB.LONGEST_NAME) (xB _)) (zIi (zAz (zAv (zQ (tV rfl) rfl Z.all zFf (zC (sN (T:=["letter"]) (caps:=[]) ⟨rfl,by decide +kernel,by decide +kernel,rfl,bo⟩ rfl (zT7 (pv 0)) (λ_=>(zA2 (i:=0) (show(["letter"]:List aC).Nodup by decide +kernel) rfl (dj rfl))) (λ_=>uC) (λ_=>(zB9 zKc zKc zJ (pv 0) zJ))) zH)))))))) (zF (xM (λ_=>E) CB.e_BadName ao (by decide) ao xO (zC (wZ (zLj (pv 0) (uA sP))) zH))) zS))
 try dsimp only[L2.cxOf]
 have hz:x.length<=sizeLine:=aO as.2 (by decide);have go:∀ H',Same H H'->¬ wC x->zO0 (zXq (zWy 0) zPp) [some (.str x)] H' (λv H1=>1<=sizeLine/\E (.ref yM) none H1):=λH' s' z=>⟨_,rfl,⟨x,rfl,as.big,aO as.2 (by decide)⟩,λy _=>⟨by show 1<=sizeLine; decide,q.no z s'⟩⟩;exists _,rfl,x,rfl,hz,_,_,rfl,rfl,_,rfl;refine ifD (λz=>wM (go H (Same.refl _) λo=>absurd o.1 (by lia))) (λz1=>?_);exists _,rfl,x,rfl,hz,_,_,rfl,rfl,_,rfl;refine ifD (λz=>wM (go H (Same.refl _) λo=>absurd o.2.1 (by lia))) (λz2=>?_);have asc:x.cps.all (· < 128)=true:=by
  rw[jG];intro c hm;exact decide_eq_true (as.1 c (fU.mpr hm))
 refine⟨_,rfl,x,rfl,asc,λc D hD=>?_⟩;refine zK4 (xs:=zE2 x) (λi σ zs H'=>Same H H'/\H' D=some (.lst zs)/\(∃ bs:List Bool,zs=bs.map V.bl/\bs.length=i/\(bs.all id=true↔∀ c∈x.cps.toList.take i,97<=c/\c<=122))/\i<=x.length/\∃ u0:Option V,σ=[u0])
  ⟨zB hD _,zA,⟨[],rfl,rfl,by simp⟩,bf _,none,rfl⟩ (λi σ zs H' ⟨_,e,_⟩=>⟨bo,e⟩) ?_ ?_
 ·rintro i v σ zs H' hi ⟨sH,eD,⟨bs,rfl,lb,ab⟩,hi8,u0,rfl⟩;unfold zE2 at hi;rw[av,aJ] at hi;obtain⟨n,gn,rfl⟩:=hi;have hil:i<x.length:=by
   have:=(ay.mp gn).1;rw[bR] at this;exact this
  have fin:∀ b:Bool,(b=true↔97<=n/\n<=122)->H' D=some (.lst (bs.map V.bl))/\(bs.map V.bl).length<sizeLine/\Same H (upd H' D (.lst (bs.map V.bl++[.bl b])))/\upd H' D (.lst (bs.map V.bl++[.bl b])) D=some (.lst (bs.map V.bl++[.bl b]))/\(∃ cs:List Bool,bs.map V.bl++[.bl b]=cs.map V.bl/\cs.length=i+1/\(cs.all id=true↔∀ c∈x.cps.toList.take (i+1),97<=c/\c<=122))/\i+1<=x.length:=λb hb=>by
   refine⟨eD,zT (by rw[ac]; have:=as.2; lia),sH.putNew hD,zA,⟨bs++[b],by rw[aA]; rfl,by rw[al,lb]; rfl,?_⟩,hil⟩;rw[iQ,aY,ab,bC,gn];simp only[fh,iD,ii,id,hb,aN,mI,aw];constructor
   ·rintro⟨h1,h2⟩ c (h | rfl)
    ·exact h1 c h
    ·exact h2
   ·exact λh=>⟨λc hc=>h c (.inl hc),h n (.inr rfl)⟩
  exists _,rfl,_,_,rfl,rfl,_,rfl;rw[show(!decide (((⟨#[n]⟩:aC).cps.toList)<(("a" : aC).cps.toList)))=decide (97<=n) from zUb 97 n];refine ifD (λh1=>?_) (λh1=>?_)
  ·exists _,_,rfl,rfl;rw[show(!decide ((("z" : aC).cps.toList)<((⟨#[n]⟩:aC).cps.toList)))=decide (n<=122) from zUb n 122];obtain⟨f1,f2,f3,f4,f5,f6⟩:=fin (decide (n<=122)) (by simp[h1]);exact⟨f1,f2,f3,f4,f5,f6,_,rfl⟩
  ·obtain⟨f1,f2,f3,f4,f5,f6⟩:=fin false (by simp[h1]);exact⟨f1,f2,f3,f4,f5,f6,_,rfl⟩
 ·rintro σ zs H' ⟨sH,eD,⟨bs,rfl,lb,ab⟩,_,u0,rfl⟩;have lc:(zE2 x).length=x.cps.toList.length:=ac _;rw[lc,bW] at ab;exists D,bs,rfl,SqL.of eD,_,rfl;cases hb:bs.all id with
  | true=>exact yR (q.yes ⟨by lia,by lia,ab.mp hb⟩ sH)
  | false=>exact wM (go H' sH λo=>by rw[ab.mpr o.2.2] at hb; cases hb)
def sJ(K:ae):Sp:=λvs H Q E=>∃(d a:ag)(kind:aC)(n:aC)(kvs ms:List (Key×V)),vs=[.ref d,.str kind,.str n]/\Rd H d (.dK kvs)/\wT kvs (.inr kind)=some (.ref a)/\Rd H a (.dK ms)/\kind.length<=1000/\n.length<=1000/\zM3 (wT ms (.inr n)=none) Q E xQ H
theorem zFn(F:Fun K "check_free" "check_free" vA f fd)(Z:Zs mg)(CB:Cb P w mg base)  : xJ P w K mg base (CX1 P w) 1 f fd ["state", "kind", "name"] (sJ K):=by
 refine F.okX zEi (λvs H Q E h=>?_) (λcdv A outer s H vs Q E hr h=>?_)
 ·obtain⟨d,a,kind,n,kvs,ms,rfl,_⟩:=h;rfl
 obtain⟨d,a,kind,n,kvs,ms,rfl,hd,ea,ha,l1,l2,q⟩:=h;exists _,(zF (yH (qL (zIh (zV hr) (pv 2) (zN (zV hr) (pv 0) (pv 1) (λ_ _=>rfl))) (by with_unfolding_all rfl)) (zF (xM (λ_=>E) CB.e_Taken ao (by decide) ao xO (zC (wZ (uA (zBs (pv 1) (uA (zBs (pv 2) (uA sP)))))) zH))) zS))
 try dsimp only[L2.cxOf]
 exists _,rfl,_,rfl,_,rfl,d,.ref a,rfl,.inl ⟨kvs,.inr kind,hd,rfl,ea.symm⟩,a,_,rfl,.inl ⟨ms,.inr n,ha,rfl,rfl⟩,_,rfl;cases e:wT ms (.inr n) with
 | none=>exact yR (q.yes e (Same.refl _))
 | some v=>exact wM ⟨_,rfl,.inr ⟨kind,rfl,l1⟩,_,rfl,.inr ⟨n,rfl,l2⟩,λx _=>⟨by show 1<=sizeLine; decide,q.no (by rw[e]; exact λz=>nomatch z) (Same.refl _)⟩⟩
def wW(K:ae):Sp:=λvs H Q E=>∃(a:ag)(x y:Int),vs=[.ref a]/\H a=some (.tup [.int x,.int y])/\zCg x/\zCg y/\zM3 (zAm (x,y)) Q E yJ H
theorem zEg{x y:Int} : zC7 [x,y] 1000=true↔zAm (x,y):=by
 simp only[zC7,zAm,fh,iD,ii,aY,decide_eq_true_eq,and_assoc]
theorem zDj(F:Fun K "check_place" "check_place" uG f fd)(Z:Zs mg)(CB:Cb P w mg base)(yBi:Has P w K mg base "within" 1 ["numbers", "most"] (qD K)):xJ P w K mg base (CX1 P w) 2 f fd ["place"] (wW K):=by
 refine F.okX zDw (λvs H Q E h=>?_) (λcdv A outer s H vs Q E hr h=>?_)
 ·obtain⟨a,x,y,rfl,_⟩:=h;rfl
 obtain⟨a,x,y,rfl,ha,t1,t2,q⟩:=h;exists _,(zF (yH (zAz (zAv (vE yBi (hr.mono (by decide)) rfl (zC (pv 0) (zC (zL6 CB.FARTHEST) zH))))) (zF (xM (λ_=>E) CB.e_BadPlace ao (by decide) ao xO (zC (wZ (zIa hr.gd hr.units (pv 0) (uA sP))) zH))) zS))
 try dsimp only[L2.cxOf]
 refine⟨_,rfl,a,[x,y],1000,rfl,ha,(by show 2<=100; decide),λH' s'=>⟨_,rfl,?_⟩⟩;cases e:zC7 [x,y] 1000 with
 | true=>exact yR (q.yes (zEg.mp e) s')
 | false=>exact wM ⟨_,rfl,⟨ptD (x,y),wD (s' _ _ ha),zEx t1 t2⟩,λz _=>⟨by show 1<=sizeLine; decide,q.no (λz=>by rw[zEg.mpr z] at e; cases e) s'⟩⟩
def sZ(K:ae):Sp:=λvs H Q E=>∃(a:ag)(x y:Int),vs=[.ref a]/\H a=some (.tup [.int x,.int y])/\zCg x/\zCg y/\zM3 (zAm (x,y)) Q E yT H
theorem zF3(F:Fun K "check_run" "check_run" tG f fd)(Z:Zs mg)(CB:Cb P w mg base)(yBi:Has P w K mg base "within" 1 ["numbers", "most"] (qD K)):xJ P w K mg base (CX1 P w) 2 f fd ["run"] (sZ K):=by
 refine F.okX zF0 (λvs H Q E h=>?_) (λcdv A outer s H vs Q E hr h=>?_)
 ·obtain⟨a,x,y,rfl,_⟩:=h;rfl
 obtain⟨a,x,y,rfl,ha,t1,t2,q⟩:=h;exists _,(zF (yH (zAz (zAv (vE yBi (hr.mono (by decide)) rfl (zC (pv 0) (zC (zL6 CB.FARTHEST) zH))))) (zF (xM (λ_=>E) CB.e_BadRun ao (by decide) ao xO (zC (wZ (zIa hr.gd hr.units (pv 0) (uA sP))) zH))) zS))
 try dsimp only[L2.cxOf]
 refine⟨_,rfl,a,[x,y],1000,rfl,ha,(by show 2<=100; decide),λH' s'=>⟨_,rfl,?_⟩⟩;cases e:zC7 [x,y] 1000 with
 | true=>exact yR (q.yes (zEg.mp e) s')
 | false=>exact wM ⟨_,rfl,⟨ptD (x,y),wD (s' _ _ ha),zEx t1 t2⟩,λz _=>⟨by show 1<=sizeLine; decide,q.no (λz=>by rw[zEg.mpr z] at e; cases e) s'⟩⟩
def xZ(K:ae):Sp:=λvs H Q E=>∃(d a:ag)(kind:aC)(kvs ms:List (Key×V))(mx:Int),vs=[.ref d,.str kind]/\Rd H d (.dK kvs)/\wT kvs (.inr kind)=some (.ref a)/\Rd H a (.dK ms)/\wT zYv (.inr kind)=some (.int mx)/\kind.length<=1000/\zM3 ((ms.length:Int)<mx) Q E wG H
theorem zE7(F:Fun K "check_room" "check_room" vD f fd)(Z:Zs mg)(CB:Cb P w mg base)  : xJ P w K mg base (CX1 P w) 1 f fd ["state", "kind"] (xZ K):=by
 refine F.okX zEj (λvs H Q E h=>?_) (λcdv A outer s H vs Q E hr h=>?_)
 ·obtain⟨d,a,kind,kvs,ms,mx,rfl,_⟩:=h;rfl
 obtain⟨d,a,kind,kvs,ms,mx,rfl,hd,ea,ha,em,l1,q⟩:=h;exists _,(zF (yH (yK zV2 (zQ sC rfl Z.len uU (zC (zN (zV hr) (pv 0) (pv 1) (λ_ _=>rfl)) zH)) (zTa CB.dMOST CB.gMOST (pv 1)) (xB _)) (zF (xM (λ_=>E) CB.e_Full ao (by decide) ao xO (zC (wZ (uA (zBs (pv 1) (uA sP)))) zH))) zS))
 try dsimp only[L2.cxOf]
 exists _,rfl,_,rfl,d,.ref a,rfl,.inl ⟨kvs,.inr kind,hd,rfl,ea.symm⟩,a,ms,rfl,ha,_,rfl,.inr kind,.int mx,rfl,em,_,_,rfl,rfl,_,rfl;exact ifD (λz=>⟨_,rfl,.inr ⟨kind,rfl,l1⟩,λx _=>⟨by show 1<=sizeLine; decide,q.no (by lia) (Same.refl _)⟩⟩) (λz=>q.yes (by lia) (Same.refl _))
def wB(K:ae):Sp:=λvs H Q E=>∃(d m b r n:ag)(S:BS)(x:aC),vs=[.ref d,.str x]/\StA H d m b r n S/\zBg x/\zM3 ((zM S x).isSome=true) Q E yV H
theorem zEv(F:Fun K "check_mark" "check_mark" vB f fd)(Z:Zs mg)(CB:Cb P w mg base)  : xJ P w K mg base (CX1 P w) 1 f fd ["state", "name"] (wB K):=by
 refine F.okX zFi (λvs H Q E h=>?_) (λcdv A outer s H vs Q E hr h=>?_)
 ·obtain⟨d,m,b,r,n,S,x,rfl,_⟩:=h;rfl
 obtain⟨d,m,b,r,n,S,x,rfl,st,as,q⟩:=h;obtain⟨kvs,hm,kv⟩:=st.ma;exists _,(zF (yH (qL (sI (zV hr) (pv 1) (zN (zV hr) (pv 0) zJ (λ_ _=>rfl))) (by with_unfolding_all rfl)) (zF (xM (λ_=>E) CB.e_NoMark ao (by decide) ao xO (zC (wZ (uA (zLj (pv 1) sP))) zH))) zS))
 try dsimp only[L2.cxOf]
 exists _,rfl,_,rfl,d,.ref m,rfl,.inl ⟨_,.inr "marks", st.at_,rfl,tM.symm⟩,m,_,rfl,.inl ⟨kvs,.inr x,hm,rfl,rfl⟩,_,rfl;rw[kv.isSome,uS,bX];cases e:(zM S x).isSome with
 | true=>exact yR (q.yes e (Same.refl _))
 | false=>exact wM ⟨_,rfl,⟨x,rfl,as.big,aO as.2 (by decide)⟩,λy _=>⟨by show 1<=sizeLine; decide,q.no (by rw[e]; exact aE) (Same.refl _)⟩⟩
def offM(n:Nat)(m:Int):Prop:=(m<0\/(n:Int)<m)/\m.natAbs.log2<1920
def uX(K:ae):Sp:=λvs H Q E=>∃(a:ag)(m:Int)(n:Nat),vs=[.int m,.ref a]/\((∃ xs,SqL K H a xs/\xs.length=n)\/∃ kvs,Rd H a (.dK kvs)/\kvs.length=n)/\((0<=m/\m<=n/\Q .non H)\/(offM n m/\E (.ref yB) none H))
theorem zCi(F:Fun K "check_moment" "check_moment" wY f fd)(Z:Zs mg)(CB:Cb P w mg base)  : xJ P w K mg base (CX1 P w) 1 f fd ["moment", "runs"] (uX K):=by
 refine F.okX zCe (λvs H Q E h=>?_) (λcdv A outer s H vs Q E hr h=>?_)
 ·obtain⟨a,m,n,rfl,_⟩:=h;rfl
 obtain⟨a,m,n,rfl,ha,q⟩:=h
 refine'⟨_,(zF (yH (PW.pt (zOi ?_ (zIi (yK zIs (pv 0) (zQ (vV.or xE sC) rfl Z.len uU (zC (pv 1) zH)) (xB _))))) (zF (xM (λ_=>E) CB.e_NoMoment ao (by decide) ao xO (zC (wZ (uA (zBs (pv 0) sP))) zH))) zS)),?_⟩
 nofun
 exists _,rfl,_,_,rfl,rfl,_,rfl;have go:¬ (0<=m/\m<=n)->zO0 (zV9 (zWy 0) zPp) [some (.int m),some (.ref a)] H (λv H1=>1<=sizeLine/\E (.ref yB) none H1):=λz=>by
  rcases q with ⟨h0,hm,_⟩ | ⟨⟨_,sm⟩,q⟩
  ·exact absurd ⟨h0,hm⟩ z
  ·exact⟨_,rfl,.inl ⟨m,rfl,sm⟩,λx _=>⟨by decide,q⟩⟩
 refine ifD (λz=>?_) (λz=>?_)
 ·refine wM ?_;exact go (λy=>absurd y.1 (by lia))
 exists _,rfl,_,rfl;rcases ha with ⟨xs,hx,rfl⟩ | ⟨kvs,hx,rfl⟩
 ·refine .inl ⟨a,xs,rfl,.inl hx,_,_,rfl,rfl,_,rfl,?_⟩;refine ifD (λy=>go (λy=>absurd y.2 (by lia))) (λy=>?_);rcases q with ⟨_,_,q⟩ | ⟨⟨o,_⟩,_⟩
  ·exact q
  ·exact absurd o (by lia)
 ·refine .inr ⟨a,kvs,rfl,hx,_,_,rfl,rfl,_,rfl,?_⟩;refine ifD (λy=>go (λy=>absurd y.2 (by lia))) (λy=>?_);rcases q with ⟨_,_,q⟩ | ⟨⟨o,_⟩,_⟩
  ·exact q
  ·exact absurd o (by lia)
def zAu(K:ae):Sp:=λvs H Q E=>∃(a:ag)(x y:Int),vs=[.ref a]/\H a=some (.tup [.int x,.int y])/\zCg x/\zCg y/\zM3 (rQ (x,y)) Q E yQ H
theorem zQt{x y:Int} : zC7 [x,y] 100=true↔(-100<=x/\x<=100/\-100<=y/\y<=100):=by
 simp only[zC7,fh,iD,ii,aY,decide_eq_true_eq,and_assoc]
theorem zGa(F:Fun K "check_way" "check_way" tJ f fd)(Z:Zs mg)(CB:Cb P w mg base)(yBi:Has P w K mg base "within" 1 ["numbers", "most"] (qD K)):xJ P w K mg base (CX1 P w) 2 f fd ["direction"] (zAu K):=by
 refine F.okX zF5 (λvs H Q E h=>?_) (λcdv A outer s H vs Q E hr h=>?_)
 ·obtain⟨a,x,y,rfl,_⟩:=h;rfl
 obtain⟨a,x,y,rfl,ha,t1,t2,q⟩:=h
 refine'⟨_,(zF (yH (PW.pt (zOi (yK (zMi hr.units0) (pv 0) ?_ (xB _)) (zIi (zAz (zAv (vE yBi (hr.mono (by decide)) rfl (zC (pv 0) (zC (zL6 CB.LONGEST_WAY) zH)))))))) (zF (xM (λ_=>E) CB.e_BadWay ao (by decide) ao xO (zC (wZ (zIa hr.gd hr.units (pv 0) (uA sP))) zH))) zS)),?_⟩
 nofun
 refine⟨_,rfl,sz2,λp hp=>?_⟩;have sp:=zB hp (.tup [.int 0,.int 0]);have ha':=sp _ _ ha;have go:∀ H',Same H H'->¬ rQ (x,y)->zO0 (zXy (zWy 0) zPp) [some (.ref a)] H' (λv H1=>1<=sizeLine/\E (.ref yQ) none H1):=λH' s' z=>⟨_,rfl,⟨ptD (x,y),wD (s' _ _ ha),zEx t1 t2⟩,λy _=>⟨by show 1<=sizeLine; decide,q.no z s'⟩⟩;exists a,p,[x,y],[0,0],rfl,rfl,SqT.of ha',SqT.of zA,_,rfl;refine ifD (λz=>wM (go _ sp λo=>o.1 (show(x,y)=(0,0) by simp at z; rw[z.1,z.2]))) (λz=>?_);refine⟨_,rfl,a,[x,y],100,rfl,ha',(by show 2<=100; decide),λH' s'=>⟨_,rfl,?_⟩⟩;have s2:=sp.trans s';cases e:zC7 [x,y] 100 with
 | true=>exact yR (q.yes ⟨λy=>z (by injection y with y1 y2; rw[y1,y2]),zQt.mp e⟩ s2)
 | false=>exact wM (go _ s2 λo=>by rw[zQt.mpr o.2] at e; cases e)
def vW(K:ae):Sp:=λvs H Q E=>∃(d m b r n:ag)(S:BS)(x y:aC)(p u:Int×Int),vs=[.ref d,.str x,.str y]/\StA H d m b r n S/\zM S x=some p/\zM S y=some u/\x.length<=1000/\y.length<=1000/\zM3 (p≠u) Q E wP H
theorem zDn(F:Fun K "check_apart" "check_apart" uD f fd)(Z:Zs mg)(CB:Cb P w mg base)  : xJ P w K mg base (CX1 P w) 1 f fd ["state", "left", "right"] (vW K):=by
 refine F.okX zDg (λvs H Q E h=>?_) (λcdv A outer s H vs Q E hr h=>?_)
 ·obtain⟨d,m,b,r,n,S,x,y,p,u,rfl,_⟩:=h;rfl
 obtain⟨d,m,b,r,n,S,x,y,p,u,rfl,st,ex,ey,l1,l2,q⟩:=h;obtain⟨kvs,hm,kv⟩:=st.ma;obtain⟨v1,g1,r1⟩:=kv.get (k:=.inr x) (d:=ptD p) (by rw[uS,ex]; rfl);obtain⟨v2,g2,r2⟩:=kv.get (k:=.inr y) (d:=ptD u) (by rw[uS,ey]; rfl);obtain⟨a1,rfl,h1⟩:=zAx r1;obtain⟨a2,rfl,h2⟩:=zAx r2;exists _,(zF (yH (yK (zMi hr.units0) (zN (zV hr) (zN (zV hr) (pv 0) zJ (λ_ _=>rfl)) (pv 1) (λ_ _=>rfl)) (zN (zV hr) (zN (zV hr) (pv 0) zJ (λ_ _=>rfl)) (pv 2) (λ_ _=>rfl)) (xB _)) (zF (xM (λ_=>E) CB.e_Same ao (by decide) ao xO (zC (wZ (zBs (pv 1) (uA (zBs (pv 2) (uA sP))))) zH))) zS))
 try dsimp only[L2.cxOf]
 refine⟨_,rfl,d,.ref m,rfl,.inl ⟨_,.inr "marks", st.at_,rfl,tM.symm⟩,_,rfl,m,_,rfl,.inl ⟨kvs,.inr x,hm,rfl,g1.symm⟩,_,rfl,d,.ref m,rfl,.inl ⟨_,.inr "marks", st.at_,rfl,tM.symm⟩,_,rfl,m,_,rfl,.inl ⟨kvs,.inr y,hm,rfl,g2.symm⟩,
  a1,a2,[p.1,p.2],[u.1,u.2],rfl,rfl,SqT.of h1,SqT.of h2,_,rfl,?_⟩
 exact ifD (λz=>⟨_,rfl,.inr ⟨x,rfl,l1⟩,_,rfl,.inr ⟨y,rfl,l2⟩,λx _=>⟨by show 1<=sizeLine; decide,q.no (λne=>ne (by simp at z; exact m7 z.1 z.2)) (Same.refl _)⟩⟩) (λz=>q.yes (λe=>z (by rw[e])) (Same.refl _))
def tR(_:ae):Sp:=zFc axC λD=>∃ n x y,D=.mark n x y
theorem zE1(F:Fun K "after_mark" "after_mark" vK f fd)(Z:Zs mg)(CB:Cb P w mg base)(yBd:Has P w K mg base "changed" 1 ["state", "kind", "key", "value"] (xY K))(yAq:qH P w K mg base "check_room" 1 ["state", "kind"] (xZ K))(yAf:qH P w K mg base "check_place" 2 ["place"] (wW K))(yAt:qH P w K mg base "check_free" 1 ["state", "kind", "name"] (sJ K))(yAr:qH P w K mg base "check_name" 1 ["name"] (sB K)):xJ P w K mg base (CX1 P w) 3 f fd ["state", "row"] (tR K):=by
 refine F.okX tX (λvs H Q E h=>?_) (λcdv A outer s H vs Q E hr h=>?_)
 ·obtain⟨d,v,S,D,rfl,_⟩:=h;rfl
 obtain⟨d,v,S,D,rfl,⟨n,x,y,rfl⟩,⟨m,b,r,t,st⟩,hv,tm,wl,q,bad⟩:=h;obtain⟨a,rfl,ha⟩:=zCl hv;obtain⟨an,tx,ty⟩:=tm
 refine'⟨_,(zD (PS.nox (yN 2 tX.nd ?_))
   (zD (PS.nox (yN 3 tX.nd ?_))
   (zD (zX (yE (λ_=>E) yAr zZ (hr.mono (by decide)) rfl (zC (pv 2) zH)))
   (zD (zX (yE (λ_=>E) yAt zZ (hr.mono (by decide)) rfl (zC (pv 0) (zC zJ (zC (pv 2) zH)))))
   (zD (zX (yE (λ_=>E) yAf zZ (hr.mono (by decide)) rfl (zC (pv 3) zH)))
   (zD (zX (yE (λ_=>E) yAq zZ (hr.mono (by decide)) rfl (zC (pv 0) (zC zJ zH))))
   (zF (PS.nox (zP ?_))))))))),?_⟩
 nofun
 exists _,rfl,a,_,_,.str n,rfl,rfl,.inr (SqT.of ha),rfl;refine⟨_,rfl,a,_,_,.int x,rfl,rfl,.inr (SqT.of ha),rfl,_,rfl,a,_,_,.int y,rfl,rfl,.inr (SqT.of ha),rfl,sz2,λp hp=>?_⟩;have s1:=zB hp (.tup [.int x,.int y]);refine⟨_,rfl,n,rfl,an,.of (λk1 H2 s2=>?_) (λno H2 s2=>bad .badName (by simp[zR,no]) _ (.of (s1.trans s2)))⟩;have s12:=s1.trans s2;have st2:=st.to (.of s12);obtain⟨kvs,hm,kv⟩:=st2.ma;have ep:=s2 _ _ (show upd H p (.tup [.int x,.int y]) p=_ from zA);refine⟨_,rfl,_,rfl,d,m, "marks", n,_,kvs,rfl,st2.at_,tM,hm,(by decide),aO an.2 (by decide),.of (λk2 H3 s3=>?_) (λno H3 s3=>bad .taken (by
  have:¬ zM S n=none:=λz=>no ((zO2 kv).mpr z);simp[zR,k1,zAk this]) _ (.of (s12.trans s3)))⟩
 have k2:=(zO2 kv).mp k2;have s13:=s12.trans s3;refine⟨_,rfl,p,x,y,rfl,s3 _ _ ep,tx,ty,.of (λk3 H4 s4=>?_) (λno H4 s4=>bad .badPlace (by simp[zR,k1,k2,no]) _ (.of (s13.trans s4)))⟩;have s14:=s13.trans s4;have s24:=s3.trans s4;have st4:=st.to (.of s14);have hm4:=Rd.same hm s24;refine⟨_,rfl,d,m, "marks", _,kvs,20,rfl,st4.at_,tM,hm4,(by kernel_rfl),(by decide),.of (λk4 H5 s5=>?_) (λno H5 s5=>bad .full (by
  rw[kv.length,zA3] at no;simp[zR,k1,k2,k3,show 20<=S.marks.length by lia]) _ (.of (s14.trans s5)))⟩
 rw[kv.length,zA3] at k4;have s15:=s14.trans s5;have s25:=s24.trans s5;have st5:=st.to (.of s15);refine⟨_,rfl,_,rfl,_,rfl,d,m, "marks", .inr n,.ref p,_,kvs,rfl,st5.at_,tM,Rd.same hm s25,StA.stKlen,kv.le (by rw[zA3]; lia),λf c H6 s6 hf _ ef ec=>?_⟩;have s16:=s15.trans s6;have st6:=st.to (.of s16);rw[zE3] at ef;refine q (by simp[zR,k1,k2,k3]; lia) f H6 (.of s16) (s15.free hf) ⟨c,b,r,t,.inl ef,⟨_,.inl ec,?_⟩,st6.ba,st6.ru,st6.no⟩;show xW H6 _ (mkE (S.marks++[(n,x,y)]));rw[zQx,<- sX (zMe k2)];exact(kv.to (.of (s25.trans s6))).put (wD ((s25.trans s6) _ _ ep))
def tU(_:ae):Sp:=zFc axC λD=>∃ k x y,D=.move k x y
theorem zFl(F:Fun K "after_move" "after_move" vL f fd)(Z:Zs mg)(CB:Cb P w mg base)(yAl:qH P w K mg base "check_apart" 1 ["state", "left", "right"] (vW K))(yBd:Has P w K mg base "changed" 1 ["state", "kind", "key", "value"] (xY K))(yAf:qH P w K mg base "check_place" 2 ["place"] (wW K))(yAu:qH P w K mg base "check_mark" 1 ["state", "name"] (wB K)):xJ P w K mg base (CX1 P w) 3 f fd ["state", "row"] (tU K):=by
 refine F.okX uK (λvs H Q E h=>?_) (λcdv A outer s H vs Q E hr h=>?_)
 ·obtain⟨d,v,S,D,rfl,_⟩:=h;rfl
 obtain⟨d,v,S,D,rfl,⟨k,x,y,rfl⟩,⟨m,b,r,t,st⟩,hv,tm,wl,q,bad⟩:=h;obtain⟨a,rfl,ha⟩:=zHm hv;obtain⟨an,tx,ty⟩:=tm
 refine'⟨_,(zD (PS.nox (yN 2 uK.nd ?_))
   (zD (zX (yE (λ_=>E) yAu zZ (hr.mono (by decide)) rfl ?_))
   (zD (zX (yE (λ_=>E) yAf zZ (hr.mono (by decide)) rfl (zC (pv 2) zH)))
   (zD (PS.nox (yN 3 uK.nd ?_))
   (zD (sV hX rfl (zH2 (zN (zV hr) (pv 3) zJ (λ_ _=>rfl))) (zDh 4 uK.nd) (zF (yH ?_ (zF (zX (yE (λ_=>E) yAl zZ (hr.mono (by decide)) rfl ?_))) zS)))
   (zF (PS.nox (zP (pv 3))))))))),?_⟩
 nofun
 refine⟨_,rfl,a,_,_,.int x,rfl,rfl,.inr (SqT.of ha),rfl,_,rfl,a,_,_,.int y,rfl,rfl,.inr (SqT.of ha),rfl,sz2,λp hp=>?_⟩;have s1:=zB hp (.tup [.int x,.int y]);have ep1:upd H p (.tup [.int x,.int y]) p=some (.tup [.int x,.int y]):=zA;have st1:=st.to (.of s1);refine⟨_,rfl,_,rfl,a,_,_,.str k,rfl,rfl,.inr (SqT.of (s1 _ _ ha)),rfl,d,m,b,r,t,S,k,rfl,st1,an,.of (λk1 H2 s2=>?_) (λno H2 s2=>bad .noMark (by
  have:zM S k=none:=by cases e:zM S k <;> simp[e] at no ⊢
  simp only[zR,if_pos this]) _ (.of (s1.trans s2)))⟩
 have k1':¬ zM S k=none:=λz=>by rw[z] at k1; cases k1
 refine⟨_,rfl,p,x,y,rfl,s2 _ _ ep1,tx,ty,.of (λk2 H3 s3=>?_) (λno H3 s3=>bad .badPlace (by simp only[zR,if_neg k1',if_pos no]) _ (.of ((s1.trans s2).trans s3)))⟩;have s13:=(s1.trans s2).trans s3;have ep3:=s3 _ _ (s2 _ _ ep1);have st3:=st.to (.of s13);obtain⟨mvs,hm,km⟩:=st3.ma;refine⟨_,rfl,_,rfl,a,_,_,.str k,rfl,rfl,.inr (SqT.of (s13 _ _ ha)),rfl,_,rfl,d,m, "marks", .inr k,.ref p,_,mvs,rfl,st3.at_,tM,hm,StA.stKlen,km.le (by rw[zA3]; have:=wl.good.few.ma; lia),λf c H4 s4 hf _ ef ec=>?_⟩;have s14:=s13.trans s4;have st4:=st.to (.of s14);rw[zE3] at ef;have fst:StA H4 f c b r t (aft S (.move k x y)):=⟨.inl ef,⟨_,.inl ec,by rw[<- zQa k1]; exact(km.to (.of s4)).put (wD (p:=(x,y)) (s4 _ _ ep3))⟩,st4.ba,st4.ru,st4.no⟩;obtain⟨nk,hn,kn⟩:=fst.no;obtain⟨ks,rfl,e1,rk⟩:=zD0 kn;have lks:ks.length=S.notes.length:=by have:=congrArg cr e1; rw[ac,ac] at this; exact this
 refine⟨_,rfl,f,.ref t,rfl,.inl ⟨_,.inr "notes", fst.at_,rfl,rP.symm⟩,t,_,rfl,hn,λo H5 fz=>?_⟩;have s5:Sam H4 H5:=zHh hn fz;refine zYk (λi σ H'=>Sam H4 H'/\zOh t o (ks.map λe=>(.inl e.1,e.2)) H'/\(∀ e∈S.notes.take i,zKp (aft S (.move k x y)) e.2)/\∃ u:Option V,σ=[some (.ref d),some (.ref a),some (.ref p),some (.ref f),u])
  ⟨s5,fz.1,λe he=>(nomatch he),none,rfl⟩ (λi σ H' h=>h.2.1) ?_ ?_
 ·rintro i x' σ H' gx ⟨s6,fa,ul,u,rfl⟩;have gx':(ks.map (·.2))[i]?=some x':=by rw[bw] at gx; exact gx
  obtain⟨dt,gd,rd⟩:=rk.back gx';rw[av,aJ] at gd;obtain⟨e,ge,rfl⟩:=gd;have ge:S.notes[i]?=some e:=ge;have mem:=aF ge;have kn:=wl.good.note e mem;have rd3:=rd.to s6;have snoc:zKp (aft S (.move k x y)) e.2->∀ e'∈S.notes.take (i+1),zKp (aft S (.move k x y)) e'.2:=λh e' he'=>by
   rw[bC,ge] at he';rcases aN.mp he' with z | z
   ·exact ul e' z
   ·rw[aw.mp z]; exact h
  match hE:e.2,kn,rd3 with
  | .bearing mo n x1 y1 x2 y2,kn,rd3 =>
   obtain⟨c,c1,c2,rfl,hc,hc1,hc2⟩:=wI rd3;exists _,rfl,c,_,0,.str "bearing", rfl,rfl,.inr (SqT.of hc),rfl,rfl,_,rfl;exact yR ⟨s6,fa,snoc (by rw[hE]; trivial),_,rfl⟩
  | .range mo l1 r1,kn,rd3 =>
   obtain⟨c',rfl,hc⟩:=tN rd3;obtain⟨_,_,i1,i2,_⟩:=kn;have o1:=wl.mark i1;have o2:=wl.mark i2;obtain⟨p1,g1⟩:=aP.mp (vP (n:=k) (x:=x) (y:=y) i1);obtain⟨p2,g2⟩:=aP.mp (vP (n:=k) (x:=x) (y:=y) i2);exists _,rfl,c',_,0,.str "range", rfl,rfl,.inr (SqT.of hc),rfl,rfl,_,rfl;refine wM ?_;refine⟨_,rfl,_,rfl,c',_,2,.str l1,rfl,rfl,.inr (SqT.of hc),rfl,_,rfl,c',_,3,.str r1,rfl,rfl,.inr (SqT.of hc),rfl,f,_,_,_,_,_,l1,r1,p1,p2,rfl,fst.to s6,g1,g2,aO o1.2.1 (by decide),aO o2.2.1 (by decide),.of (λne H7 s7=>?_) (λno H7 s7=>bad .same (by
    have z:¬ ∀ e∈S.notes,zKp (aft S (.move k x y)) e.2:=λz=>by
     have z:=z e mem;rw[hE] at z;obtain⟨u1,u2,h1,h2,h3⟩:=z;rw[g1] at h1;rw[g2] at h2;cases h1;cases h2;exact no h3
    simp only[zR,if_neg k1',if_neg (au.mpr k2),if_neg z]) _ (((wE.of s14).trans s6).trans (.of s7)))⟩
   exact⟨s6.trans (.of s7),s7 _ _ fa,snoc (by rw[hE]; exact⟨p1,p2,g1,g2,ne⟩),_,rfl⟩
 ·rintro σ H' ⟨s6,fa,ul,u,rfl⟩;rw[ac,ac,lks,bW] at ul;exact⟨_,rfl,q (by simp only[zR,if_neg k1',if_neg (au.mpr k2),if_pos ul]) f H' ((wE.of s14).trans s6) (s13.free hf) ⟨_,_,_,_,fst.to s6⟩⟩
def uV(_:ae):Sp:=zFc axC λD=>∃ k,D=.unmark k
theorem zCm(F:Fun K "after_unmark" "after_unmark" wV f fd)(Z:Zs mg)(CB:Cb P w mg base)(yBh:Has P w K mg base "without" 1 ["state", "kind", "key"] (sU K))(yAu:qH P w K mg base "check_mark" 1 ["state", "name"] (wB K)):xJ P w K mg base (CX1 P w) 2 f fd ["state", "row"] (uV K):=by
 refine F.okX uW (λvs H Q E h=>?_) (λcdv A outer s H vs Q E hr h=>?_)
 ·obtain⟨d,v,S,D,rfl,_⟩:=h;rfl
 obtain⟨d,v,S,D,rfl,⟨k,rfl⟩,⟨m,b,r,t,st⟩,hv,tm,wl,q,bad⟩:=h;obtain⟨a,rfl,ha⟩:=rJ hv
 refine'⟨_,(zD (PS.nox (yN 2 uW.nd ?_))
   (zD (zX (yE (λ_=>E) yAu zZ (hr.mono (by decide)) rfl (zC (pv 0) (zC (pv 2) zH))))
   (zD (sV hX rfl (zH2 (zN (zV hr) (pv 0) zJ (λ_ _=>rfl))) (zDh 3 uW.nd) (zF (yH (yK (zQ6 (zV hr)) (pv 2) (uL zC8 (pv 3) (vY yW) uZ) (by with_unfolding_all rfl)) (zF (xM (λ_=>E) CB.e_Needed ao (by decide) ao xO (zC (wZ (uA (zBs (pv 2) sP))) zH))) zS)))
   (zF (PS.nox (zP ?_)))))),?_⟩
 nofun
 exists _,rfl,a,_,_,.str k,rfl,rfl,.inr (SqT.of ha),rfl;refine⟨_,rfl,_,rfl,d,m,b,r,t,S,k,rfl,st,tm,.of (λk1 H1 s1=>?_) (λno H1 s1=>bad .noMark (by
  have:zM S k=none:=by cases e:zM S k <;> simp[e] at no ⊢
  simp only[zR,if_pos this]) _ (.of s1))⟩
 have k1':¬ zM S k=none:=λz=>by rw[z] at k1; cases k1
 have st1:=st.to (.of s1);obtain⟨nk,hn,kn⟩:=st1.no;obtain⟨ks,rfl,e1,rk⟩:=zD0 kn;have lks:ks.length=S.notes.length:=by have:=congrArg cr e1; rw[ac,ac] at this; exact this
 refine⟨_,rfl,d,.ref t,rfl,.inl ⟨_,.inr "notes", st1.at_,rfl,rP.symm⟩,t,_,rfl,hn,λo H2 fz=>?_⟩;have s2:Sam H1 H2:=zHh hn fz;refine zYk (λi σ H'=>Sam H1 H'/\zOh t o (ks.map λe=>(.inl e.1,e.2)) H'/\(∀ e∈S.notes.take i,unlike k e.2)/\∃ u:Option V,σ=[some (.ref d),some (.ref a),some (.str k),u])
  ⟨s2,fz.1,λe he=>(nomatch he),none,rfl⟩ (λi σ H' h=>h.2.1) ?_ ?_
 ·rintro i x σ H' gx ⟨s3,fa,ul,u,rfl⟩;have gx':(ks.map (·.2))[i]?=some x:=by rw[bw] at gx; exact gx
  obtain⟨dt,gd,rd⟩:=rk.back gx';rw[av,aJ] at gd;obtain⟨e,ge,rfl⟩:=gd;have mem:=aF ge;have kn:=wl.good.note e mem;have rd3:=rd.to s3;have snoc:unlike k e.2->∀ e'∈S.notes.take (i+1),unlike k e'.2:=λh e' he'=>by
   rw[bC,ge] at he';rcases aN.mp he' with z | z
   ·exact ul e' z
   ·rw[aw.mp z]; exact h
  have needed:¬ unlike k e.2->∀ H4,Same H' H4->zO0 (zV9 (zWy 2) zPp) [some (.ref d),some (.ref a),some (.str k),some x] H4 (λv H1=>1<=sizeLine/\E (.ref yU) none H1):=λno H4 s4=>⟨_,rfl,.inr ⟨k,rfl,aO tm.2 (by decide)⟩,λy _=>⟨by show 1<=sizeLine; decide,bad .needed (by
   simp only[zR,if_neg k1',if_neg (show ¬ ∀ e∈S.notes,unlike k e.2 from λz=>no (z e mem))]) _ (((wE.of s1).trans s3).trans (.of s4))⟩⟩
  match hE:e.2,kn,rd3 with
  | .bearing mo n x1 y1 x2 y2,kn,rd3 =>
   obtain⟨c,c1,c2,rfl,hc,hc1,hc2⟩:=wI rd3;refine⟨_,rfl,_,rfl,_,rfl,c,_,rfl,SqT.of hc,(λz=>absurd z.1 (by show ¬ HT.sIx 5 0 (some 2)=0; decide)),λp hp=>?_⟩;have sp:=zB hp (.tup (zKo [.str "bearing", .int mo,.str n,.ref c1,.ref c2] (some 2) none));refine⟨p,[.str n,.ref c1,.ref c2],k,rfl,rfl,SqT.of zA,λv hv=>?_,_,rfl,?_⟩
   ·rcases aI.mp hv with z | hv
    ·exact .inl ⟨n,z⟩
    rcases aI.mp hv with z | hv
    ·exact .inr ⟨c1,_,z,SqT.of (sp _ _ hc1)⟩
    ·exact .inr ⟨c2,_,aw.mp hv,SqT.of (sp _ _ hc2)⟩
   have nn:([V.str n,.ref c1,.ref c2].any (isS k))=(n == k):=by
    show((n == k)||(false||(false||false)))=(n == k);cases n == k <;> rfl
   rw[nn];cases hb:n == k with
   | true=>exact wM (needed (by rw[hE]; exact λz=>z (eq_of_beq hb)) _ sp)
   | false=>exact yR ⟨s3.trans (.of sp),sp _ _ fa,snoc (by rw[hE]; exact beq_eq_false_iff_ne.mp hb),_,rfl⟩
  | .range mo l1 r1,kn,rd3 =>
   obtain⟨c,rfl,hc⟩:=tN rd3;refine⟨_,rfl,_,rfl,_,rfl,c,_,rfl,SqT.of hc,(λz=>absurd z.1 (by show ¬ HT.sIx 4 0 (some 2)=0; decide)),λp hp=>?_⟩;have sp:=zB hp (.tup (zKo [.str "range", .int mo,.str l1,.str r1] (some 2) none));refine⟨p,[.str l1,.str r1],k,rfl,rfl,SqT.of zA,λv hv=>?_,_,rfl,?_⟩
   ·rcases aI.mp hv with z | hv
    ·exact .inl ⟨l1,z⟩
    ·exact .inl ⟨r1,aw.mp hv⟩
   have nn:([V.str l1,.str r1].any (isS k))=(l1 == k||r1 == k):=by
    show((l1 == k)||((r1 == k)||false))=_;rw[jo]
   rw[nn];cases hb:(l1 == k||r1 == k) with
   | true=>exact wM (needed (by
     rw[hE];rintro⟨h1,h2⟩;rcases kZ _ _ |>.mp hb with z | z
     ·exact h1 (eq_of_beq z)
     ·exact h2 (eq_of_beq z)) _ sp)
   | false =>
    rw[eU] at hb;exact yR ⟨s3.trans (.of sp),sp _ _ fa,snoc (by rw[hE]; exact⟨beq_eq_false_iff_ne.mp hb.1,beq_eq_false_iff_ne.mp hb.2⟩),_,rfl⟩
 ·rintro σ H' ⟨s3,fa,ul,u,rfl⟩;rw[ac,ac,lks,bW] at ul;have st3:=st1.to s3;obtain⟨mvs,hm,km⟩:=st3.ma;obtain⟨p,ep⟩:=aP.mp k1;obtain⟨v,ev,_⟩:=km.get (k:=.inr k) (d:=ptD p) (by rw[uS,ep]; rfl);refine⟨_,rfl,_,rfl,d,m, "marks", .inr k,v,_,mvs,rfl,st3.at_,tM,hm,ev,StA.stKlen,λf c H4 s4 hf ne ef ec=>?_⟩;have st4:=st3.to (.of s4);have s03:=(wE.of s1).trans s3;rw[zE3] at ef;refine q (by simp only[zR,if_neg k1',if_pos ul]) f H4 (s03.trans (.of s4)) (s03.free id hf) ⟨c,b,r,t,.inl ef,⟨_,.inl ec,?_⟩,st4.ba,st4.ru,st4.no⟩;have:=(km.to (.of s4)).drop (k:=.inr k);rw[zMo] at this;exact this
def sM(_:ae):Sp:=zFc axC λD=>∃ n cs,D=.bank n cs
theorem cn_ok{H:Hp}{cs:List (Int×Int)}{ps:List Pr}(h:zZg H cs ps)(hn:∀ c∈cs,c.1.natAbs.log2<20/\c.2.natAbs.log2<20):zW1 H (10^8) ps:=λt ht=>by
 obtain⟨h1,h2⟩:=hn t.2 (by rw[<- h.pt]; exact aD.mpr ⟨t,ht,rfl⟩);have e1:=lt_two_pow_of_log2_lt h1;have e2:=lt_two_pow_of_log2_lt h2;have e3:(2:Nat)^20<=10^8:=by decide
 exact⟨h.at_ t ht,by lia,by lia⟩
theorem zFq(F:Fun K "after_bank" "after_bank" vH f fd)(Z:Zs mg)(CB:Cb P w mg base)(yBd:Has P w K mg base "changed" 1 ["state", "kind", "key", "value"] (xY K))(yAq:qH P w K mg base "check_room" 1 ["state", "kind"] (xZ K))(yBe:Has P w K mg base "is_bank" 3 ["corners"] (zC5 K))(yAf:qH P w K mg base "check_place" 2 ["place"] (wW K))(yAt:qH P w K mg base "check_free" 1 ["state", "kind", "name"] (sJ K))(yAr:qH P w K mg base "check_name" 1 ["name"] (sB K)):xJ P w K mg base (CX1 P w) 4 f fd ["state", "row"] (sM K):=by
 refine F.okX uP (λvs H Q E h=>?_) (λcdv A outer s H vs Q E hr h=>?_)
 ·obtain⟨d,v,S,D,rfl,_⟩:=h;rfl
 obtain⟨d,v,S,D,rfl,⟨n,cs,rfl⟩,⟨m,b,r,t,st⟩,hv,tm,wl,q,bad⟩:=h;obtain⟨a,cc,ps,rfl,ha,hc,cn,rc⟩:=zA9 hv;obtain⟨an,l12,tc⟩:=tm;have shw:=zIk l12 tc;have lps:ps.length<=12:=by rw[<- cn.pt,ac] at l12; exact l12
 refine'⟨_,(zD (PS.nox (yN 2 uP.nd ?_))
   (zD (PS.nox (yN 3 uP.nd ?_))
   (zD (zX (yE (λ_=>E) yAr zZ (hr.mono (by decide)) rfl (zC (pv 2) zH)))
   (zD (zX (yE (λ_=>E) yAt zZ (hr.mono (by decide)) rfl (zC (pv 0) (zC zJ (zC (pv 2) zH)))))
   (zD (sV hX rfl (zLy (pv 3)) (zDh 4 uP.nd) (zF (zX (yE (λ_=>E) yAf zZ (hr.mono (by decide)) rfl (zC (pv 4) zH)))))
   (zD (yH ?_ (zF (xM (λ_=>E) CB.e_BadBank ao (by decide) ao xO (zC (wZ (zIa hr.gd hr.units (pv 3) (uA sP))) zH))) zS)
   (zD (zX (yE (λ_=>E) yAq zZ (hr.mono (by decide)) rfl (zC (pv 0) (zC zJ zH))))
   (zF (PS.nox (zP ?_)))))))))),?_⟩
 nofun
 exists _,rfl,a,_,_,.str n,rfl,rfl,.inr (SqT.of ha),rfl;exists _,rfl,a,_,_,.ref cc,rfl,rfl,.inr (SqT.of ha),rfl;refine⟨_,rfl,n,rfl,an,.of (λk1 H1 s1=>?_) (λno H1 s1=>bad .badName (by simp only[zR,if_pos no]) _ (.of s1))⟩;have k1':=au.mpr k1;have st1:=st.to (.of s1);obtain⟨bvs,hb,kb⟩:=st1.ba;refine⟨_,rfl,_,rfl,d,b, "banks", n,_,bvs,rfl,st1.at_,zAh,hb,(by decide),aO an.2 (by decide),.of (λk2 H2 s2=>?_) (λno H2 s2=>bad .taken (by
  have:n∈S.banks.map (·.1):=au.mp λz=>no ((zCh kb).mpr z);simp only[zR,if_neg k1',if_pos this]) _ (.of (s1.trans s2)))⟩
 have k2:=(zCh kb).mp k2;have s12:=s1.trans s2;have hc2:=s12 _ _ hc;refine⟨_,rfl,cc,rfl,.inr ⟨⟨_,SqT.of hc2⟩,?_⟩⟩;refine zQ8 (K:=K) (a:=cc) (xs:=wQ ps) (λi σ H'=>Same H2 H'/\(∀ u∈ps.take i,zAm u.2)/\∃ u:Option V,σ=[some (.ref d),some (.ref a),some (.str n),some (.ref cc),u])
  ⟨Same.refl _,λu hu=>(nomatch hu),none,rfl⟩ (λi σ H' _ h=>SqT.of (h.1 _ _ hc2)) ?_ ?_
 ·rintro i x σ H' gx ⟨s3,nr,u,rfl⟩;rw[av,av,Option.map_map,aJ] at gx;obtain⟨tt,gt,rfl⟩:=gx;have mt:=aF gt;have mc:tt.2∈cs:=by rw[<- cn.pt]; exact aD.mpr ⟨tt,mt,rfl⟩
  obtain⟨c1,c2⟩:=tc _ mc;refine⟨_,rfl,tt.1,tt.2.1,tt.2.2,rfl,s3 _ _ (s12 _ _ (cn.at_ tt mt)),de c1 (by decide),de c2 (by decide),.of (λk3 H4 s4=>⟨s3.trans s4,λu hu=>?_,_,rfl⟩) (λno H4 s4=>bad .badPlace (by
   simp only[zR,if_neg k1',if_neg k2,if_pos (show ¬ ∀ c∈cs,zAm c from λz=>no (z _ mc))]) _ (.of (s12.trans (s3.trans s4))))⟩
  rw[bC,gt] at hu;rcases aN.mp hu with z | z
  ·exact nr u z
  ·rw[aw.mp z]; exact k3
 ·rintro σ H3 ⟨s3,nr,u,rfl⟩;rw[dB (by rw[xN]; exact am _)] at nr;have k3:∀ c∈cs,zAm c:=λc hc=>by
   rw[<- cn.pt] at hc;obtain⟨u,hu,rfl⟩:=aD.mp hc;exact nr u hu
  have k3':=au.mpr k3;have s13:=s12.trans s3;refine⟨_,rfl,cc,ps,rfl,⟨.inr (SqT.of (s3 _ _ hc2)),(cn_ok cn tc).same s13⟩,by lia,λH4 s4=>⟨_,rfl,?_⟩⟩;rw[zYw,cn.pt];have s14:=s13.trans s4;cases k4:zKn cs with
  | false=>exact wM ⟨_,rfl,⟨_,rc.to (.of s14),shw⟩,λy _=>⟨by show 1<=sizeLine; decide,bad .badBank (by simp only[zR,if_neg k1',if_neg k2,if_neg k3',if_pos k4]) _ (.of s14)⟩⟩
  | true =>
   have k4':¬ zKn cs=false:=by rw[k4]; exact λz=>nomatch z
   refine yR ?_;have st4:=st.to (.of s14);have hb4:=Rd.same hb ((s2.trans s3).trans s4);refine⟨_,rfl,d,b, "banks", _,bvs,8,rfl,st4.at_,zAh,hb4,(by kernel_rfl),(by decide),.of (λk5 H5 s5=>?_) (λno H5 s5=>bad .full (by
    rw[kb.length,zHu] at no;simp only[zR,if_neg k1',if_neg k2,if_neg k3',if_neg k4',if_pos (show 8<=S.banks.length by lia)]) _ (.of (s14.trans s5)))⟩
   rw[kb.length,zHu] at k5;have s15:=s14.trans s5;have st5:=st.to (.of s15);refine⟨_,rfl,_,rfl,_,rfl,d,b, "banks", .inr n,.ref cc,_,bvs,rfl,st5.at_,zAh,Rd.same hb4 s5,StA.stKlen,kb.le (by rw[zHu]; lia),λf c H6 s6 hf _ ef ec=>?_⟩;have s16:=s15.trans s6;have st6:=st.to (.of s16);rw[zJo] at ef;refine q (by simp only[zR,if_neg k1',if_neg k2,if_neg k3',if_neg k4',if_neg (show ¬ 8<=S.banks.length by lia)]) f H6 (.of s16) (s15.free hf) ⟨m,c,r,t,.inl ef,st6.ma,⟨_,.inl ec,?_⟩,st6.ru,st6.no⟩;show xW H6 _ (bkE (S.banks++[(n,cs)]));rw[zQg,<- sX (zG4 k2)];exact(kb.to (.of ((((s2.trans s3).trans s4).trans s5).trans s6))).put (rc.to (.of s16))
def vX(_:ae):Sp:=zFc axC λD=>∃ k,D=.level k
theorem zDl(F:Fun K "after_level" "after_level" uO f fd)(Z:Zs mg)(CB:Cb P w mg base)(yBh:Has P w K mg base "without" 1 ["state", "kind", "key"] (sU K)):xJ P w K mg base (CX1 P w) 2 f fd ["state", "row"] (vX K):=by
 refine F.okX qK (λvs H Q E h=>?_) (λcdv A outer s H vs Q E hr h=>?_)
 ·obtain⟨d,v,S,D,rfl,_⟩:=h;rfl
 obtain⟨d,v,S,D,rfl,⟨k,rfl⟩,⟨m,b,r,t,st⟩,hv,tm,wl,q,bad⟩:=h;obtain⟨a,rfl,ha⟩:=zAf hv;obtain⟨nk,hn,kn⟩:=st.ba
 refine'⟨_,(zD (PS.nox (yN 2 qK.nd ?_))
   (zD (yH (qL (sI (zV hr) (pv 2) (zN (zV hr) (pv 0) zJ (λ_ _=>rfl))) (by with_unfolding_all rfl)) (zF (xM (λ_=>E) CB.e_NoBank ao (by decide) ao xO (zC (wZ (uA (zLj (pv 2) sP))) zH))) zS)
   (zF (PS.nox (zP ?_))))),?_⟩
 nofun
 exists _,rfl,a,_,_,.str k,rfl,rfl,.inr (SqT.of ha),rfl,_,rfl,_,rfl,d,.ref b,rfl,.inl ⟨_,.inr "banks", st.at_,rfl,zAh.symm⟩,b,_,rfl,.inl ⟨nk,.inr k,hn,rfl,rfl⟩,_,rfl;cases ev:wT nk (.inr k) with
 | none=>exact wM ⟨_,rfl,⟨k,rfl,zBg.big tm,aO tm.2 (by decide)⟩,λy _=>⟨by show 1<=sizeLine; decide,bad .noBank (by simp only[zR,if_neg ((zCh kn).mp ev)]) H (.refl _)⟩⟩
 | some v =>
  have ok:k∈S.banks.map (·.1):=au.mp λz=>by rw[(zCh kn).mpr z] at ev; cases ev
  refine yR ?_;refine⟨_,rfl,_,rfl,d,b, "banks", .inr k,v,_,nk,rfl,st.at_,zAh,hn,ev,StA.stKlen,λf c H2 s2 hf ne ef ec=>?_⟩;have st2:=st.to (.of s2);rw[zJo] at ef;refine q (by simp only[zR,if_pos ok]) f H2 (.of s2) hf ⟨m,c,r,t,.inl ef,st2.ma,⟨_,.inl ec,?_⟩,st2.ru,st2.no⟩;have:=(kn.to (.of s2)).drop (k:=.inr k);rw[zL9] at this;exact this
def sF(_:ae):Sp:=zFc axC λD=>∃ x y,D=.sail x y
theorem zE6(F:Fun K "after_sail" "after_sail" vI f fd)(Z:Zs mg)(CB:Cb P w mg base)(yBd:Has P w K mg base "changed" 1 ["state", "kind", "key", "value"] (xY K))(yAq:qH P w K mg base "check_room" 1 ["state", "kind"] (xZ K))(yAw:qH P w K mg base "check_run" 2 ["run"] (sZ K)):xJ P w K mg base (CX1 P w) 3 f fd ["state", "row"] (sF K):=by
 refine F.okX qU (λvs H Q E h=>?_) (λcdv A outer s H vs Q E hr h=>?_)
 ·obtain⟨d,v,S,D,rfl,_⟩:=h;rfl
 obtain⟨d,v,S,D,rfl,⟨x,y,rfl⟩,⟨m,b,r,t,st⟩,hv,tm,wl,q,bad⟩:=h;obtain⟨a,rfl,ha⟩:=zCx hv;obtain⟨tx,ty⟩:=tm
 refine'⟨_,(zD (PS.nox (yN 2 qU.nd ?_))
   (zD (zX (yE (λ_=>E) yAw zZ (hr.mono (by decide)) rfl (zC (pv 2) zH)))
   (zD (zX (yE (λ_=>E) yAq zZ (hr.mono (by decide)) rfl (zC (pv 0) (zC zJ zH))))
   (zF (PS.nox (zP (vE yBd (hr.mono (by decide)) rfl (zC (pv 0) (zC zJ (zC (zQ sC rfl Z.len uU (zC (zN (zV hr) (pv 0) zJ (λ_ _=>rfl)) zH)) (zC (pv 2) zH))))))))))),?_⟩
 nofun
 refine⟨_,rfl,a,_,_,.int x,rfl,rfl,.inr (SqT.of ha),rfl,_,rfl,a,_,_,.int y,rfl,rfl,.inr (SqT.of ha),rfl,sz2,λp hp=>?_⟩;have s1:=zB hp (.tup [.int x,.int y]);refine⟨_,rfl,p,x,y,rfl,zA,tx,ty,.of (λk1 H2 s2=>?_) (λno H2 s2=>bad .badRun (by simp[zR,no]) _ (.of (s1.trans s2)))⟩;have s12:=s1.trans s2;have st2:=st.to (.of s12);obtain⟨kvs,hm,kv⟩:=st2.ru;have ln:kvs.length=S.runs.length:=by rw[kv.length,zBe]
 have ep:=s2 _ _ (show upd H p (.tup [.int x,.int y]) p=_ from zA);refine⟨_,rfl,d,r, "runs", _,kvs,12,rfl,st2.at_,rC,hm,(by kernel_rfl),(by decide),.of (λk2 H3 s3=>?_) (λno H3 s3=>bad .full (by simp[zR,k1,show 12<=S.runs.length by lia]) _ (.of (s12.trans s3)))⟩;have s13:=s12.trans s3;have st3:=st.to (.of s13);have hm3:=Rd.same hm s3;refine⟨_,rfl,_,rfl,d,.ref r,rfl,.inl ⟨_,.inr "runs", st3.at_,rfl,rC.symm⟩,r,kvs,rfl,hm3,_,rfl,d,r, "runs", .inl (kvs.length:Int),.ref p,_,kvs,rfl,st3.at_,rC,hm3,StA.stKlen,by lia,λf c H4 s4 hf _ ef ec=>?_⟩;have s14:=s13.trans s4;have st4:=st.to (.of s14);rw[zMx] at ef;refine q (by simp[zR,k1]; lia) f H4 (.of s14) (s13.free hf) ⟨m,b,c,t,.inl ef,st4.ma,st4.ba,⟨_,.inl ec,?_⟩,st4.no⟩;show xW H4 _ (rnE (S.runs++[(x,y)]));rw[zWn,<- sX zTh,<- ln];exact(kv.to (.of (s3.trans s4))).put (wD ((s3.trans s4) _ _ ep))
def vR(_:ae):Sp:=zFc axC λD=>∃ k x y,D=.right k x y
theorem zDt(F:Fun K "after_right" "after_right" uH f fd)(Z:Zs mg)(CB:Cb P w mg base)(yBd:Has P w K mg base "changed" 1 ["state", "kind", "key", "value"] (xY K))(yAw:qH P w K mg base "check_run" 2 ["run"] (sZ K)):xJ P w K mg base (CX1 P w) 3 f fd ["state", "row"] (vR K):=by
 refine F.okX vU (λvs H Q E h=>?_) (λcdv A outer s H vs Q E hr h=>?_)
 ·obtain⟨d,v,S,D,rfl,_⟩:=h;rfl
 obtain⟨d,v,S,D,rfl,⟨k,x,y,rfl⟩,⟨m,b,r,t,st⟩,hv,tm,wl,q,bad⟩:=h;obtain⟨a,rfl,ha⟩:=zD9 hv;obtain⟨tk,tx,ty⟩:=tm
 refine'⟨_,(zD (PS.nox (yN 2 vU.nd ?_))
   (zD (PS.nox (yN 3 vU.nd ?_))
   (zD (yH (qL (sI (zV hr) (pv 2) (zN (zV hr) (pv 0) zJ (λ_ _=>rfl))) (by with_unfolding_all rfl)) (zF (xM (λ_=>E) CB.e_NoRun ao (by decide) ao xO (zC (wZ (uA (zBs (pv 2) sP))) zH))) zS)
   (zD (zX (yE (λ_=>E) yAw zZ (hr.mono (by decide)) rfl (zC (pv 3) zH)))
   (zF (PS.nox (zP ?_))))))),?_⟩
 nofun
 exists _,rfl,a,_,_,.int k,rfl,rfl,.inr (SqT.of ha),rfl;refine⟨_,rfl,a,_,_,.int x,rfl,rfl,.inr (SqT.of ha),rfl,_,rfl,a,_,_,.int y,rfl,rfl,.inr (SqT.of ha),rfl,sz2,λp hp=>?_⟩;have s1:=zB hp (.tup [.int x,.int y]);have st1:=st.to (.of s1);obtain⟨rvs,hr1,kr⟩:=st1.ru;exists _,rfl,_,rfl,d,.ref r,rfl,.inl ⟨_,.inr "runs", st1.at_,rfl,rC.symm⟩,r,_,rfl,.inl ⟨rvs,.inl k,hr1,rfl,rfl⟩,_,rfl;cases ev:wT rvs (.inl k) with
 | none=>exact wM ⟨_,rfl,.inl ⟨k,rfl,de (show k.natAbs.log2<200 from tk) (by decide)⟩,λy _=>⟨by show 1<=sizeLine; decide,bad .noRun (by simp only[zR,if_neg ((zQ3 kr).mp ev)]) _ (.of s1)⟩⟩
 | some v =>
  have ok:0<=k/\k<S.runs.length:=au.mp λz=>by rw[(zQ3 kr).mpr z] at ev; cases ev
  refine yR ?_;obtain⟨i,rfl⟩:=dq ok.1;have hi:i<S.runs.length:=by lia
  refine⟨_,rfl,p,x,y,rfl,zA,tx,ty,.of (λk3 H3 s3=>?_) (λno H3 s3=>bad .badRun (by simp only[zR,if_pos ok,if_neg no]) _ (.of (s1.trans s3)))⟩;have st3:=st1.to (.of s3);have hr3:=Rd.same hr1 s3;refine⟨_,rfl,_,rfl,_,rfl,d,r, "runs", .inl (i:Int),.ref p,_,rvs,rfl,st3.at_,rC,hr3,StA.stKlen,kr.le (by rw[zBe]; have:=wl.good.few.ru; lia),λf c H4 s4 hf _ ef ec=>?_⟩;have s14:=(s1.trans s3).trans s4;have st4:=st.to (.of s14);rw[zMx] at ef;refine q (by simp only[zR,if_pos ok,if_pos k3]) f H4 (.of s14) ((s1.trans s3).free hf) ⟨m,b,c,t,.inl ef,st4.ma,st4.ba,⟨_,.inl ec,?_⟩,st4.no⟩;show xW H4 _ (rnE (S.runs.set i (x,y)));rw[<- zV7 hi];exact(kr.to (.of (s3.trans s4))).put (wD (p:=(x,y)) ((s3.trans s4) _ _ zA))
def tZ(_:ae):Sp:=λvs H Q E=>∃(d:ag)(v:V)(S:BS)(D:Deed),vs=[.ref d,v]/\zMd H d S/\Rep H D.dt v/\S.notes.length<=60/\zSm S /\
 (S.notes.length<24->∀(d':ag)(H':Hp),Same H H'->H d'=none->zMd H' d' { S with notes:=S.notes++[(S.coming,D)],coming:=S.coming+1 }->Q (.ref d') H')/\(24<=S.notes.length->∀ H',Same H H'->E (.ref wG) none H')
theorem zEp(F:Fun K "after_note" "after_note" vG f fd)(Z:Zs mg)(CB:Cb P w mg base)(yBd:Has P w K mg base "changed" 1 ["state", "kind", "key", "value"] (xY K))(yAq:qH P w K mg base "check_room" 1 ["state", "kind"] (xZ K)):xJ P w K mg base (CX1 P w) 2 f fd ["state", "row"] (tZ K):=by
 refine F.okX qR (λvs H Q E h=>?_) (λcdv A outer s H vs Q E hr h=>?_)
 ·obtain⟨d,v,S,D,rfl,_⟩:=h;rfl
 obtain⟨d,v,S,D,rfl,⟨m,b,r,t,st⟩,hv,l60,fr,q,bad⟩:=h;obtain⟨kvs,hm,kv⟩:=st.no;have ln:kvs.length=S.notes.length:=by rw[kv.length,zO1]
 refine⟨_,(zD (zX (yE (λ_=>E) yAq zZ (hr.mono (by decide)) rfl (zC (pv 0) (zC zJ zH))))
   (zD (PS.nox (qN (i:=2) qR.nd rfl (dj rfl) (vE yBd (hr.mono (by decide)) rfl (zC (pv 0) (zC zJ (zC (zN (zV hr) (pv 0) zJ (λ_ _=>rfl)) (zC (pv 1) zH)))))))
   (zD (PS.nox (rA (zV hr) (pv 2) zJ (vN zQf (zN (zV hr) (pv 0) zJ (λ_ _=>rfl)) yW) rfl))
   (zF (PS.nox (zP (pv 2))))))),?_⟩
 try dsimp only[L2.cxOf]
 refine⟨_,rfl,d,t, "notes", _,kvs,24,rfl,st.at_,rP,hm,(by kernel_rfl),(by decide),.of (λk1 H1 s1=>?_) (λno H1 s1=>bad (by lia) H1 s1)⟩;have st1:=st.to (.of s1);have hm1:=Rd.same hm s1;refine⟨_,rfl,_,rfl,d,.int S.coming,rfl,.inl ⟨_,.inr "coming", st1.at_,rfl,zEr.symm⟩,_,rfl,d,t, "notes", .inl S.coming,v,_,kvs,rfl,st1.at_,rP,hm1,StA.stKlen,by lia,λf c H2 s2 hf ne ef ec=>?_⟩;have s12:=s1.trans s2;have st2:=st.to (.of s12);rw[zKd] at ef;exists _,rfl,d,.int S.coming,rfl,.inl ⟨_,.inr "coming", st2.at_,rfl,zEr.symm⟩,_,_,rfl,rfl,_,rfl,f,_,rfl,zKh.k (k:=.inr "coming") ef (zT (aO StA.stKlen (by decide))),_,rfl;rw[zNj];have hf0:=s1.free hf;have s3:Same H (upd H2 f (.dK (stK m b r c (S.coming+1)))):=s12.putNew hf0;have st3:=st.to (.of s3);refine q (by lia) f _ s3 hf0 ⟨m,b,r,c,.inl zA,st3.ma,st3.ba,st3.ru,⟨_,.inl (by rw[zG ne.symm]; exact ec),?_⟩⟩;rw[zLq,<- sX (zHs fr)];exact(kv.to (.of s3)).put (hv.to (.of s3))
def uQ(_:ae):Sp:=zFc axC λD=>∃ mo nm x1 y1 x2 y2,D=.bearing mo nm x1 y1 x2 y2
theorem zB2(F:Fun K "after_bearing" "after_bearing" wL f fd)(Z:Zs mg)(CB:Cb P w mg base)(yAo:qH P w K mg base "after_note" 2 ["state", "row"] (tZ K))(yBw:Has P w K mg base "turn" 1 ["one", "other"] (zFm K))(yAx:qH P w K mg base "check_way" 2 ["direction"] (zAu K))(yAu:qH P w K mg base "check_mark" 1 ["state", "name"] (wB K))(yAe:qH P w K mg base "check_moment" 1 ["moment", "runs"] (uX K)):xJ P w K mg base (CX1 P w) 3 f fd ["state", "row"] (uQ K):=by
 refine F.okX zB4 (λvs H Q E h=>?_) (λcdv A outer s H vs Q E hr h=>?_)
 ·obtain⟨d,v,S,D,rfl,_⟩:=h;rfl
 obtain⟨d,v,S,D,rfl,⟨mo,nm,x1,y1,x2,y2,rfl⟩,⟨m,b,r,t,st⟩,hv,tm,wl,q,bad⟩:=h;obtain⟨a,p,u,rfl,ha,hp,hu⟩:=wI hv;obtain⟨rvs,hr1,kr⟩:=st.ru;have shw:=zJu tm;obtain⟨t1,an,tx1,ty1,tx2,ty2⟩:=tm
 refine'⟨_,(zD (zX (yE (λ_=>E) yAe zZ (hr.mono (by decide)) rfl (zC ?_ (zC (zN (zV hr) (pv 0) zJ (λ_ _=>rfl)) zH))))
   (zD (zX (yE (λ_=>E) yAu zZ (hr.mono (by decide)) rfl ?_))
   (zD (zX (yE (λ_=>E) yAx zZ (hr.mono (by decide)) rfl ?_))
   (zD (zX (yE (λ_=>E) yAx zZ (hr.mono (by decide)) rfl ?_))
   (zD (yH ?_ (zF (xM (λ_=>E) CB.e_BadTurn ao (by decide) ao xO (zC (wZ (uA (zIa hr.gd hr.units (pv 1) sP))) zH))) zS)
   (zF (zP (yE (λ_=>E) yAo zZ (hr.mono (by decide)) rfl (zC (pv 0) (zC (pv 1) zH)))))))))),?_⟩
 nofun
 by_cases k0:0<=mo/\mo<=S.runs.length
 rotate_left
 ·exact⟨_,rfl,a,_,_,.int mo,rfl,rfl,.inr (SqT.of ha),rfl,_,rfl,d,.ref r,rfl,.inl ⟨_,.inr "runs", st.at_,rfl,rC.symm⟩,r,mo,S.runs.length,rfl,.inr ⟨rvs,hr1,by rw[kr.length,zBe]⟩,.inr ⟨⟨by lia,de (show mo.natAbs.log2<200 from t1) (by decide)⟩,bad .noMoment (by simp only[zR,if_pos k0]) H (.refl _)⟩⟩
 refine⟨_,rfl,a,_,_,.int mo,rfl,rfl,.inr (SqT.of ha),rfl,_,rfl,d,.ref r,rfl,.inl ⟨_,.inr "runs", st.at_,rfl,rC.symm⟩,r,mo,S.runs.length,rfl,.inr ⟨rvs,hr1,by rw[kr.length,zBe]⟩,.inl ⟨k0.1,k0.2,?_⟩⟩;refine⟨_,rfl,_,rfl,a,_,_,.str nm,rfl,rfl,.inr (SqT.of ha),rfl,d,m,b,r,t,S,nm,rfl,st,an,.of (λk3 H1 s1=>?_) (λno H1 s1=>bad .noMark (by
  have:zM S nm=none:=by cases e:zM S nm <;> simp[e] at no ⊢
  simp only[zR,if_neg (au.mpr k0),if_pos this]) _ (.of s1))⟩
 have k3':¬ zM S nm=none:=λz=>by rw[z] at k3; cases k3
 have ha1:=s1 _ _ ha;refine⟨_,rfl,a,_,_,.ref p,rfl,rfl,.inr (SqT.of ha1),rfl,p,x1,y1,rfl,s1 _ _ hp,tx1,ty1,.of (λk4 H2 s2=>?_) (λno H2 s2=>bad .badWay (by simp only[zR,if_neg (au.mpr k0),if_neg k3',if_pos no]) _ (.of (s1.trans s2)))⟩;have s12:=s1.trans s2;have ha2:=s12 _ _ ha;refine⟨_,rfl,a,_,_,.ref u,rfl,rfl,.inr (SqT.of ha2),rfl,u,x2,y2,rfl,s12 _ _ hu,tx2,ty2,.of (λk5 H3 s3=>?_) (λno H3 s3=>bad .badWay (by simp only[zR,if_neg (au.mpr k0),if_neg k3',if_neg (au.mpr k4),if_pos no]) _ (.of (s12.trans s3)))⟩;have s23:=s12.trans s3;have ha3:=s23 _ _ ha;have b1:=k4.2.1;have b2:=k4.2.2.1;have b3:=k4.2.2.2.1;have b4:=k4.2.2.2.2;have n1:x1.natAbs<=10^18:=by simp at b1 b2; lia
 have n2:y1.natAbs<=10^18:=by simp at b3 b4; lia
 exists _,rfl,a,_,_,.ref p,rfl,rfl,.inr (SqT.of ha3),rfl,_,rfl,a,_,_,.ref u,rfl,rfl,.inr (SqT.of ha3),rfl,p,u,_,_,x1,y1,x2,y2,rfl,.inr (SqT.of (s23 _ _ hp)),.inr (SqT.of (s23 _ _ hu)),rfl,rfl,rfl,rfl,n1,n2,_,_,rfl,rfl,_,rfl;refine ifD (λz=>?_) (λk6=>?_)
 ·exact⟨_,rfl,⟨_,hv.to (.of s23),shw⟩,λy _=>⟨by show 1<=sizeLine; decide,bad .badTurn (by simp only[zR,if_neg (au.mpr k0),if_neg k3',if_neg (au.mpr k4),if_neg (au.mpr k5),if_pos z]) _ (.of s23)⟩⟩
 refine⟨_,rfl,_,rfl,d,.ref a,S,.bearing mo nm x1 y1 x2 y2,rfl,⟨m,b,r,t,st.to (.of s23)⟩,hv.to (.of s23),wl.good.few.no,wl.good.fresh,λk7 d' H4 s4 hd' st4=>q (by simp only[zR,if_neg (au.mpr k0),if_neg k3',if_neg (au.mpr k4),if_neg (au.mpr k5),if_neg k6,if_neg (show ¬ 24<=S.notes.length by lia)]) d' H4 (.of (s23.trans s4)) (s23.free hd') st4,
  λk7 H4 s4=>bad .full (by simp only[zR,if_neg (au.mpr k0),if_neg k3',if_neg (au.mpr k4),if_neg (au.mpr k5),if_neg k6,if_pos k7]) _ (.of (s23.trans s4))⟩
def vZ(_:ae):Sp:=zFc axC λD=>∃ mo l1 l2,D=.range mo l1 l2
theorem zDu(F:Fun K "after_range" "after_range" uT f fd)(Z:Zs mg)(CB:Cb P w mg base)(yAo:qH P w K mg base "after_note" 2 ["state", "row"] (tZ K))(yAl:qH P w K mg base "check_apart" 1 ["state", "left", "right"] (vW K))(yAu:qH P w K mg base "check_mark" 1 ["state", "name"] (wB K))(yAe:qH P w K mg base "check_moment" 1 ["moment", "runs"] (uX K)):xJ P w K mg base (CX1 P w) 3 f fd ["state", "row"] (vZ K):=by
 refine F.okX zDi (λvs H Q E h=>?_) (λcdv A outer s H vs Q E hr h=>?_)
 ·obtain⟨d,v,S,D,rfl,_⟩:=h;rfl
 obtain⟨d,v,S,D,rfl,⟨mo,l1,l2,rfl⟩,⟨m,b,r,t,st⟩,hv,tm,wl,q,bad⟩:=h;obtain⟨a,rfl,ha⟩:=tN hv;obtain⟨rvs,hr1,kr⟩:=st.ru;obtain⟨t1,a1,a2⟩:=tm
 refine'⟨_,(zD (zX (yE (λ_=>E) yAe zZ (hr.mono (by decide)) rfl (zC ?_ (zC (zN (zV hr) (pv 0) zJ (λ_ _=>rfl)) zH))))
   (zD (zX (yE (λ_=>E) yAu zZ (hr.mono (by decide)) rfl ?_))
   (zD (zX (yE (λ_=>E) yAu zZ (hr.mono (by decide)) rfl ?_))
   (zD (zX (yE (λ_=>E) yAl zZ (hr.mono (by decide)) rfl ?_))
   (zF (zP (yE (λ_=>E) yAo zZ (hr.mono (by decide)) rfl (zC (pv 0) (zC (pv 1) zH))))))))),?_⟩
 nofun
 by_cases k0:0<=mo/\mo<=S.runs.length
 rotate_left
 ·exact⟨_,rfl,a,_,_,.int mo,rfl,rfl,.inr (SqT.of ha),rfl,_,rfl,d,.ref r,rfl,.inl ⟨_,.inr "runs", st.at_,rfl,rC.symm⟩,r,mo,S.runs.length,rfl,.inr ⟨rvs,hr1,by rw[kr.length,zBe]⟩,.inr ⟨⟨by lia,de (show mo.natAbs.log2<200 from t1) (by decide)⟩,bad .noMoment (by simp only[zR,if_pos k0]) H (.refl _)⟩⟩
 refine⟨_,rfl,a,_,_,.int mo,rfl,rfl,.inr (SqT.of ha),rfl,_,rfl,d,.ref r,rfl,.inl ⟨_,.inr "runs", st.at_,rfl,rC.symm⟩,r,mo,S.runs.length,rfl,.inr ⟨rvs,hr1,by rw[kr.length,zBe]⟩,.inl ⟨k0.1,k0.2,?_⟩⟩;refine⟨_,rfl,_,rfl,a,_,_,.str l1,rfl,rfl,.inr (SqT.of ha),rfl,d,m,b,r,t,S,l1,rfl,st,a1,.of (λk3 H1 s1=>?_) (λno H1 s1=>bad .noMark (by
  have:zM S l1=none:=by cases e:zM S l1 <;> simp[e] at no ⊢
  simp only[zR,if_neg (au.mpr k0),if_pos this]) _ (.of s1))⟩
 have k3':¬ zM S l1=none:=λz=>by rw[z] at k3; cases k3
 have ha1:=s1 _ _ ha;refine⟨_,rfl,_,rfl,a,_,_,.str l2,rfl,rfl,.inr (SqT.of ha1),rfl,d,m,b,r,t,S,l2,rfl,st.to (.of s1),a2,.of (λk4 H2 s2=>?_) (λno H2 s2=>bad .noMark (by
  have:zM S l2=none:=by cases e:zM S l2 <;> simp[e] at no ⊢
  simp only[zR,if_neg (au.mpr k0),if_neg k3',if_pos this]) _ (.of (s1.trans s2)))⟩
 have k4':¬ zM S l2=none:=λz=>by rw[z] at k4; cases k4
 obtain⟨p1,e1⟩:=aP.mp k3;obtain⟨p2,e2⟩:=aP.mp k4;have s12:=s1.trans s2;have at2:Sq K H2 a _:=.inr (SqT.of (s12 _ _ ha));refine⟨_,rfl,_,rfl,a,_,_,.str l1,rfl,rfl,at2,rfl,_,rfl,a,_,_,.str l2,rfl,rfl,at2,rfl,d,m,b,r,t,S,l1,l2,p1,p2,rfl,st.to (.of s12),e1,e2,aO a1.2 (by decide),aO a2.2 (by decide),.of (λk5 H3 s3=>?_) (λno H3 s3=>bad .same (by
  have:zM S l1=zM S l2:=by rw[e1,e2,au.mp no]
  simp only[zR,if_neg (au.mpr k0),if_neg k3',if_neg k4',if_pos this]) _ (.of (s12.trans s3)))⟩
 have k5':¬ zM S l1=zM S l2:=λz=>k5 (by rw[e1,e2] at z; exact aZ z);have s23:=s12.trans s3;refine⟨_,rfl,_,rfl,d,.ref a,S,.range mo l1 l2,rfl,⟨m,b,r,t,st.to (.of s23)⟩,hv.to (.of s23),wl.good.few.no,wl.good.fresh,λk6 d' H4 s4 hd' st4=>q (by simp only[zR,if_neg (au.mpr k0),if_neg k3',if_neg k4',if_neg k5',if_neg (show ¬ 24<=S.notes.length by lia)]) d' H4 (.of (s23.trans s4)) (s23.free hd') st4,
  λk6 H4 s4=>bad .full (by simp only[zR,if_neg (au.mpr k0),if_neg k3',if_neg k4',if_neg k5',if_pos k6]) _ (.of (s23.trans s4))⟩
def uY(_:ae):Sp:=zFc axC λD=>∃ k,D=.strike k
theorem zCo(F:Fun K "after_strike" "after_strike" wS f fd)(Z:Zs mg)(CB:Cb P w mg base)(yBh:Has P w K mg base "without" 1 ["state", "kind", "key"] (sU K)):xJ P w K mg base (CX1 P w) 2 f fd ["state", "row"] (uY K):=by
 refine F.okX rG (λvs H Q E h=>?_) (λcdv A outer s H vs Q E hr h=>?_)
 ·obtain⟨d,v,S,D,rfl,_⟩:=h;rfl
 obtain⟨d,v,S,D,rfl,⟨k,rfl⟩,⟨m,b,r,t,st⟩,hv,tm,wl,q,bad⟩:=h;obtain⟨a,rfl,ha⟩:=rD hv;obtain⟨nk,hn,kn⟩:=st.no
 refine'⟨_,(zD (PS.nox (yN 2 rG.nd ?_))
   (zD (yH (qL (sI (zV hr) (pv 2) (zN (zV hr) (pv 0) zJ (λ_ _=>rfl))) (by with_unfolding_all rfl)) (zF (xM (λ_=>E) CB.e_NoNote ao (by decide) ao xO (zC (wZ (uA (zBs (pv 2) (uA sP)))) zH))) zS)
   (zF (PS.nox (zP ?_))))),?_⟩
 nofun
 exists _,rfl,a,_,_,.int k,rfl,rfl,.inr (SqT.of ha),rfl,_,rfl,_,rfl,d,.ref t,rfl,.inl ⟨_,.inr "notes", st.at_,rfl,rP.symm⟩,t,_,rfl,.inl ⟨nk,.inl k,hn,rfl,rfl⟩,_,rfl;cases ev:wT nk (.inl k) with
 | none=>exact wM ⟨_,rfl,.inl ⟨k,rfl,de (show k.natAbs.log2<200 from tm) (by decide)⟩,λy _=>⟨by show 1<=sizeLine; decide,bad .noNote (by simp only[zR,if_neg ((zK7 kn).mp ev)]) H (.refl _)⟩⟩
 | some v =>
  have ok:k∈S.notes.map (·.1):=au.mp λz=>by rw[(zK7 kn).mpr z] at ev; cases ev
  refine yR ?_;refine⟨_,rfl,_,rfl,d,t, "notes", .inl k,v,_,nk,rfl,st.at_,rP,hn,ev,StA.stKlen,λf c H2 s2 hf ne ef ec=>?_⟩;have st2:=st.to (.of s2);rw[zKd] at ef;refine q (by simp only[zR,if_pos ok]) f H2 (.of s2) hf ⟨m,b,r,c,.inl ef,st2.ma,st2.ba,st2.ru,⟨_,.inl ec,?_⟩⟩;have:=(kn.to (.of s2)).drop (k:=.inl k);rw[zMc] at this;exact this
def inTab(_:Deed):Prop:=True
def zGm(_:ae):Sp:=zFc axC inTab
def tabL:List (Key×Sp):=[(.inr "mark", tR []),(.inr "move", tU []),(.inr "unmark", uV []),(.inr "bank", sM []),(.inr "level", vX []),(.inr "sail", sF []),(.inr "right", vR []),(.inr "bearing", uQ []),(.inr "range", vZ []),(.inr "strike", uY [])]
theorem zOf(F:Fun K "after" "after" zBr f fd)(Z:Zs mg)(CB:Cb P w mg base)(yAp:qH P w K mg base "after_mark" 3 ["state", "row"] (tR K))(yAn:qH P w K mg base "after_move" 3 ["state", "row"] (tU K))(yAc:qH P w K mg base "after_unmark" 2 ["state", "row"] (uV K))(yAs:qH P w K mg base "after_bank" 4 ["state", "row"] (sM K))(yAg:qH P w K mg base "after_level" 2 ["state", "row"] (vX K))(yAv:qH P w K mg base "after_sail" 3 ["state", "row"] (sF K))(yAi:qH P w K mg base "after_right" 3 ["state", "row"] (vR K))(yAa:qH P w K mg base "after_bearing" 3 ["state", "row"] (uQ K))(yAh:qH P w K mg base "after_range" 3 ["state", "row"] (vZ K))(yAb:qH P w K mg base "after_strike" 2 ["state", "row"] (uY K)):xJ P w K mg base (CX1 P w) 5 f fd ["state", "row"] (zGm K):=by
 refine F.okX zN0 (λvs H Q E h=>?_) (λcdv A outer s H vs Q E hr h=>?_)
 ·obtain⟨d,v,S,D,rfl,_⟩:=h;rfl
 obtain⟨d,v,S,D,rfl,kd,st,hv,tm,wl,q,bad⟩:=h;have tabs:∀ r∈tabL,zUf P w K mg base 4 zUs r.1 r.2:=by
  intro r hr;simp only[tabL,aI,bV,or_false] at hr;rcases hr with rfl | rfl | rfl | rfl | rfl | rfl | rfl | rfl | rfl | rfl
  ·exact⟨"after_mark", _,_,_,by kernel_rfl,CB.t_mark,yAp,by decide⟩
  ·exact⟨"after_move", _,_,_,by kernel_rfl,CB.t_move,yAn,by decide⟩
  ·exact⟨"after_unmark", _,_,_,by kernel_rfl,CB.t_unmark,yAc,by decide⟩
  ·exact⟨"after_bank", _,_,_,by kernel_rfl,CB.t_bank,yAs,by decide⟩
  ·exact⟨"after_level", _,_,_,by kernel_rfl,CB.t_level,yAg,by decide⟩
  ·exact⟨"after_sail", _,_,_,by kernel_rfl,CB.t_sail,yAv,by decide⟩
  ·exact⟨"after_right", _,_,_,by kernel_rfl,CB.t_right,yAi,by decide⟩
  ·exact⟨"after_bearing", _,_,_,by kernel_rfl,CB.t_bearing,yAa,by decide⟩
  ·exact⟨"after_range", _,_,_,by kernel_rfl,CB.t_range,yAh,by decide⟩
  ·exact⟨"after_strike", _,_,_,by kernel_rfl,CB.t_strike,yAb,by decide⟩
 refine'⟨_,(zF (zP (zWl (λ_=>E) CB.dAFTER CB.gAFTER tabs zZ (hr.mono (by decide)) ?_ (zC (pv 0) (zC (pv 1) zH))))),?_⟩
 nofun
 cases D with
 | mark n x y =>
  obtain⟨a,rfl,ha⟩:=zCl hv;exact⟨_,rfl,a,_,_,.str "mark", rfl,rfl,.inr (SqT.of ha),rfl,.inr "mark", _,rfl,.head _,_,rfl,_,rfl,d,.ref a,S,_,rfl,⟨_,_,_,rfl⟩,st,hv,tm,wl,q,bad⟩
 | move n x y =>
  obtain⟨a,rfl,ha⟩:=zHm hv;exact⟨_,rfl,a,_,_,.str "move", rfl,rfl,.inr (SqT.of ha),rfl,.inr "move", _,rfl,.tail _ (.head _),_,rfl,_,rfl,d,.ref a,S,_,rfl,⟨_,_,_,rfl⟩,st,hv,tm,wl,q,bad⟩
 | unmark n =>
  obtain⟨a,rfl,ha⟩:=rJ hv;exact⟨_,rfl,a,_,_,.str "unmark", rfl,rfl,.inr (SqT.of ha),rfl,.inr "unmark", _,rfl,.tail _ (.tail _ (.head _)),_,rfl,_,rfl,d,.ref a,S,_,rfl,⟨_,rfl⟩,st,hv,tm,wl,q,bad⟩
 | bank n cs =>
  obtain⟨a,_,_,rfl,ha,_⟩:=zA9 hv;exact⟨_,rfl,a,_,_,.str "bank", rfl,rfl,.inr (SqT.of ha),rfl,.inr "bank", _,rfl,.tail _ (.tail _ (.tail _ (.head _))),_,rfl,_,rfl,d,.ref a,S,_,rfl,⟨_,_,rfl⟩,st,hv,tm,wl,q,bad⟩
 | level n =>
  obtain⟨a,rfl,ha⟩:=zAf hv;exact⟨_,rfl,a,_,_,.str "level", rfl,rfl,.inr (SqT.of ha),rfl,.inr "level", _,rfl,.tail _ (.tail _ (.tail _ (.tail _ (.head _)))),_,rfl,_,rfl,d,.ref a,S,_,rfl,⟨_,rfl⟩,st,hv,tm,wl,q,bad⟩
 | sail x y =>
  obtain⟨a,rfl,ha⟩:=zCx hv;exact⟨_,rfl,a,_,_,.str "sail", rfl,rfl,.inr (SqT.of ha),rfl,.inr "sail", _,rfl,.tail _ (.tail _ (.tail _ (.tail _ (.tail _ (.head _))))),_,rfl,_,rfl,d,.ref a,S,_,rfl,⟨_,_,rfl⟩,st,hv,tm,wl,q,bad⟩
 | right k x y =>
  obtain⟨a,rfl,ha⟩:=zD9 hv;exact⟨_,rfl,a,_,_,.str "right", rfl,rfl,.inr (SqT.of ha),rfl,.inr "right", _,rfl,.tail _ (.tail _ (.tail _ (.tail _ (.tail _ (.tail _ (.head _)))))),_,rfl,_,rfl,d,.ref a,S,_,rfl,⟨_,_,_,rfl⟩,st,hv,tm,wl,q,bad⟩
 | bearing m n x y z t =>
  obtain⟨a,p,u,rfl,ha,_⟩:=wI hv;exact⟨_,rfl,a,_,_,.str "bearing", rfl,rfl,.inr (SqT.of ha),rfl,.inr "bearing", _,rfl,.tail _ (.tail _ (.tail _ (.tail _ (.tail _ (.tail _ (.tail _ (.head _))))))),_,rfl,_,rfl,d,.ref a,S,_,rfl,⟨_,_,_,_,_,_,rfl⟩,st,hv,tm,wl,q,bad⟩
 | range m n k =>
  obtain⟨a,rfl,ha⟩:=tN hv;exact⟨_,rfl,a,_,_,.str "range", rfl,rfl,.inr (SqT.of ha),rfl,.inr "range", _,rfl,.tail _ (.tail _ (.tail _ (.tail _ (.tail _ (.tail _ (.tail _ (.tail _ (.head _)))))))),_,rfl,_,rfl,d,.ref a,S,_,rfl,⟨_,_,_,rfl⟩,st,hv,tm,wl,q,bad⟩
 | strike k =>
  obtain⟨a,rfl,ha⟩:=rD hv;exact⟨_,rfl,a,_,_,.str "strike", rfl,rfl,.inr (SqT.of ha),rfl,.inr "strike", _,rfl,.tail _ (.tail _ (.tail _ (.tail _ (.tail _ (.tail _ (.tail _ (.tail _ (.tail _ (.head _))))))))),_,rfl,_,rfl,d,.ref a,S,_,rfl,⟨_,rfl⟩,st,hv,tm,wl,q,bad⟩
def zGs(_:ae):Sp:=λvs H Q _=>∃(n:Int),vs=[.int n]/\∀ v:Int,0<=v->v<1000003->Q (.int v) H
theorem zNb(F:Fun K "_law_power" "_law_power" zB1 f fd)(Z:Zs mg):xJ P w K mg base CX0 1 f fd ["_law_number"] (zGs K):=by
 specialize zNw
 ·obtain⟨n,rfl,_⟩:=h;rfl
 obtain⟨n,rfl,q⟩:=h
 refine'⟨_,(zF (zP ?_)),?_⟩
 nofun
 have h1:=cM n (show(1000003:Int)≠0 by decide);have h2:=bZ n (show(0:Int)<1000003 by decide);exists _,rfl,_,_,rfl,rfl,(by show(0:Int)<1000003; decide),_,_,rfl,rfl,⟨by decide,by decide,by lia⟩,_,_,rfl,rfl,(by show(0:Int)<1000003; decide);exact q _ (cM _ (by decide)) (bZ _ (by decide))
def zGg(K:ae):Sp:=λvs H Q _=>∃(a:ag)(ns:List Int)(many:Int),vs=[.ref a,.int many]/\SqL K H a (ns.map V.int)/\ns.length<=63/\0<=many/\many<=500 /\
 ∀(r:ag)(rows:List Int)(H':Hp),Same H H'->H r=none->H' r=some (.lst (rows.map V.int))->many<=rows.length->rows.length<=600->(∀ x∈rows,0<=x/\x<1000003)->Q (.ref r) H'
structure zFp(H:Hp)(r c:ag)(ms:List Int)(H':Hp)(rows:List Int):Prop where
 same:Same H H'
 src:H' c=some (.lst (ms.map V.int))
 at':H' r=some (.lst (rows.map V.int))
 bd:∀ x∈rows,0<=x/\x<1000003
theorem zFp.app{H H':Hp}{r c:ag}{ms rows:List Int}{v:Int}(d:zFp H r c ms H' rows)(hr:H r=none)(hrc:c≠r)(h0:0<=v)(h1:v<1000003):zFp H r c ms (upd H' r (.lst (rows.map V.int++[.int v]))) (rows++[v]):=by
 refine⟨λb o e=>?_,?_,?_,λx hx=>?_⟩
 ·rw[zG (zK e hr)];exact d.same b o e
 ·rw[zG hrc];exact d.src
 ·rw[zA,aA];rfl
 ·rcases aN.mp hx with e | e
  ·exact d.bd x e
  ·rw[aw] at e;rw[e];exact⟨h0,h1⟩
theorem cutR{ok:Int->Hp->Prop}{G:Prop}{R:Int->Hp->Prop}(h1:(∀ m H,ok m H->R m H)->G)(h2:∀ m H,ok m H->R m H):G:=h1 h2
theorem zNl(F:Fun K "_law_draws" "_law_draws" zBj f fd)(Z:Zs mg)(CB:Cb P w mg base)(yBn:Has P w K mg base "_law_power" 1 ["_law_number"] (zGs K)):xJ P w K mg base CX0 2 f fd ["_law_script", "_law_many"] (zGg K):=by
 specialize wN
 ·obtain⟨a,ns,many,rfl,_⟩:=h;rfl
 obtain⟨a,ns,many,rfl,hS,hl,hm0,hm1,q⟩:=h
 refine'⟨_,(zD (yN 2 wN.nd ?_)
   (zD (yN 3 wN.nd yW)
   (zD (sV bU rfl (zV0 ?_) (zDh 4 wN.nd) (zD (yN 3 wN.nd ?_)
   (zD (yN 5 wN.nd ?_)
   (zD (yH ?_ (zD (zX (zF7 (pv 2) ?_))
   (zF (yN 5 wN.nd yW))) zS)
   (zF (zMu bU ?_ (zD (zX (zF7 (pv 2) ?_))
   (zF (yN 5 wN.nd ?_)))))))))
   (zD (zMu bU ?_ (zD (yN 3 wN.nd ?_)
   (zF (zX (zF7 (pv 2) ?_)))))
   (zF (zP (pv 2))))))),?_⟩
 nofun
 refine⟨sz0,λr hr0=>?_⟩;have S1:=zB hr0 (.lst []);refine⟨_,rfl,_,rfl,a,_,rfl,S1.seq hS,λc hc=>⟨c,rfl,⟨_,SqL.of zA⟩,?_⟩⟩;rw[zJ2];generalize hms:((ns.drop (HT.sIx ns.length 0 none)).take (HT.sIx ns.length ns.length (some 63)-HT.sIx ns.length 0 none))=ms;have hml:ms.length<=63:=by
  rw[<- hms,bK,cO];lia
 have hcr:c≠r:=λe=>by
  rw[e,zA] at hc;cases hc
 have hc0:H c=none:=S1.free hc;refine zM7 (K:=K) (a:=c) (xs:=ms.map V.int) (λi σ H'=>∃(rows:List Int)(mix:Int)(u v:Option V),σ=[some (.ref a),some (.int many),some (.ref r),some (.int mix),u,v]/\zFp H r c ms H' rows/\0<=mix/\mix<2147483647/\rows.length<=many.toNat+i)
  ⟨[],7,none,none,rfl,⟨S1.trans (zB hc _),zA,by rw[zG (cw hcr),zA]; rfl,λx hx=>nomatch hx⟩,by decide,by decide,bf _⟩ (λi σ H' _ ⟨_,_,_,_,_,d,_⟩=>SqL.of d.src) ?_ ?_
 ·rintro i x σ H' hi ⟨rows,mix,u,v,rfl,d,hx0,hx1,hrl⟩;obtain⟨n,hn,rfl⟩:=zCq hi;have hi63:i<63:=aR (ay.mp hn).1 hml;exists _,rfl,_,_,rfl,rfl,.inr ⟨by decide,by decide⟩,_,rfl,_,_,rfl,rfl,_,_,rfl,rfl,(by show(0:Int)<2147483647; decide);have m0:=cM (mix*48271+n) (show(2147483647:Int)≠0 by decide);have m1:=bZ (mix*48271+n) (show(0:Int)<2147483647 by decide);exists _,rfl,n,rfl;have a0:0<=(if n<0 then -n else n):=by split <;> lia
  generalize (if n<0 then -n else n)=rest at a0 ⊢;revert H' rest;apply cutR (ok:=λrest H2=>0<=rest/\∃ rows,zFp H r c ms H2 rows/\rows.length<=many.toNat+(i+1))
  ·intro main H' d rest a0;exists _,rfl,_,_,rfl,rfl,⟨by decide,by decide,by decide⟩,_,_,rfl,rfl,_,rfl;refine ifD (λhsm=>?_) (λhsm=>?_);rotate_left
   ·exact main rest H' ⟨a0,rows,d,by lia⟩
   ·refine⟨_,rfl,.inl ⟨rfl,_,SqL.of d.at'⟩,_,rfl,_,rfl,r,_,rfl,.inl (SqL.of d.at'),_,_,rfl,rfl,.inl ⟨by decide,by decide⟩,_,_,rfl,rfl,_,rfl,λv v0 v1=>?_⟩;exists r,_,_,rfl,rfl,d.at',zT (by rw[ac]; lia);exact main 0 _ ⟨Int.le_refl 0,_,d.app hr0 hcr v0 v1,by rw[al,bq]; lia⟩
  clear hrl rows;rintro rest H' ⟨j0,rows,j1,j2⟩;refine zMm (λσ H2=>∃(rows:List Int)(rest:Int),σ=[some (.ref a),some (.int many),some (.ref r),some (.int ((mix*48271+n)%2147483647)),some (.int n),some (.int rest)]/\0<=rest/\zFp H r c ms H2 rows/\rows.length<=many.toNat+(i+1))
   (λσ _=>match σ with | [_,_,_,_,_,some (.int z)]=>z.toNat | _=>0) ⟨_,_,rfl,j0,j1,j2⟩ ?_ (zX0 (zLl (zVo zVa zJx mo_c)) (zLl (zVo zVa (zYh zUw (zRj zJx zT5)) zJx)))
  rintro σ H2 ⟨rows,rest,rfl,r0,d2,l2⟩;exists _,rfl,_,_,rfl,rfl,_,rfl;refine ifD (λhpos=>?_) (λhpos=>?_)
  ·exists _,rfl,r,_,rfl,.inl (SqL.of d2.at'),_,rfl,_,_,rfl,rfl,_,rfl;refine ifD (λhlt=>?_) (λhlt=>?_)
   ·have hlt':((rows.map V.int).length:Int)<many:=hlt;rw[ac] at hlt';exists _,rfl,.inl ⟨rfl,_,SqL.of d2.at'⟩,_,rfl,_,_,rfl,rfl,(by show(0:Int)<1000003; decide),r,_,_,rfl,rfl,d2.at',zT (by rw[ac]; lia);have v0:=cM rest (show(1000003:Int)≠0 by decide);have v1:=bZ rest (show(0:Int)<1000003 by decide);exists _,rfl,_,_,rfl,rfl,zLe.of (by decide) (by decide +kernel),⟨rows++[rest%1000003],_,rfl,by lia,d2.app hr0 hcr v0 v1,by rw[al,bq]; lia⟩;show(rest/1000003).toNat<rest.toNat;lia
   ·exact⟨rows,_,_,_,rfl,d2,m0,m1,l2⟩
  ·exact⟨rows,_,_,_,rfl,d2,m0,m1,l2⟩
 ·rintro σ H' ⟨rows,mix,u,v,rfl,d,hx0,hx1,hrl⟩;rw[ac] at hrl;refine zMm (λσ H2=>∃(rows:List Int)(mix:Int),σ=[some (.ref a),some (.int many),some (.ref r),some (.int mix),u,v]/\zFp H r c ms H2 rows/\0<=mix/\mix<2147483647/\rows.length<=many.toNat+63/\H2 r=some (.lst (rows.map V.int)))
   (λσ H2=>match H2 r with | some (.lst xs)=>many.toNat-xs.length | _=>0) ⟨rows,mix,rfl,d,hx0,hx1,by lia,d.at'⟩ ?_ (zLl (zVo zVa (zYh zUw (zRj zJx zT5)) zJx))
  rintro σ H2 ⟨rows,mix,rfl,d2,hx0,hx1,l2,ha2⟩;exists _,rfl,r,_,rfl,.inl (SqL.of d2.at'),_,rfl,_,_,rfl,rfl,_,rfl;refine ifD (λhlt=>?_) (λhlt=>?_)
  ·have hlt':((rows.map V.int).length:Int)<many:=hlt;rw[ac] at hlt';exists _,rfl,_,_,rfl,rfl,.inr ⟨by decide,by decide⟩,_,_,rfl,rfl,_,_,rfl,rfl,(by show(0:Int)<2147483647; decide);have m0:=cM (mix*48271+11) (show(2147483647:Int)≠0 by decide);have m1:=bZ (mix*48271+11) (show(0:Int)<2147483647 by decide);refine⟨_,rfl,.inl ⟨rfl,_,SqL.of d2.at'⟩,_,rfl,_,rfl,λv v0 v1=>?_⟩;exists r,_,_,rfl,rfl,d2.at',zT (by rw[ac]; lia),⟨rows++[v],_,rfl,d2.app hr0 hcr v0 v1,m0,m1,by rw[al,bq]; lia,(d2.app hr0 hcr v0 v1).at'⟩;rw[ha2,zA];show many.toNat-(rows.map V.int++[V.int v]).length<many.toNat-(rows.map V.int).length;rw[al,ac,bq];lia
  ·have hlt':¬ ((rows.map V.int).length:Int)<many:=hlt;rw[ac] at hlt';exact⟨_,rfl,q r rows H2 d2.same hr0 d2.at' (by lia) (by lia) d2.bd⟩
def zG1(K:ae):Sp:=λvs H Q _=>∃(a:ag)(rows:List Int)(many:Nat),vs=[.ref a,.int many]/\SqL K H a (rows.map V.int)/\many<=rows.length/\many<=25/\(∀ x∈rows,0<=x/\x<1000003) /\
 ∀(r:ag)(ns:List aC)(H':Hp),Same H H'->H r=none->H' r=some (.lst (ns.map V.str))->ns.length=many->(∀ n∈ns,wC n)->ns.Nodup->Q (.ref r) H'
theorem zNf(F:Fun K "_law_names" "_law_names" zCb f fd)(Z:Zs mg)(CB:Cb P w mg base)  : xJ P w K mg base CX0 1 f fd ["_law_some", "_law_many"] (zG1 K):=by
 specialize xC
 ·obtain⟨a,rows,many,rfl,_⟩:=h;rfl
 obtain⟨a,rows,many,rfl,ha,h1,h2,bd,q⟩:=h
 refine'⟨_,(zD (yN 2 xC.nd zJ)
   (zD (yN 3 xC.nd ?_)
   (zD (sV bU rfl (uR rfl Z.range (zC (pv 1) zH)) (zDh 4 xC.nd) (zD (yN 5 xC.nd ?_)
   (zD (yN 6 xC.nd ?_)
   (zD (yN 7 xC.nd ?_)
   (zD (yN 8 xC.nd (zVy iE iX iY zP1 zJ (zC (sN (T:=["_law_k"]) (caps:=[("_law_letters", 2),("_law_raw", 5),("_law_step", 7)]) ⟨rfl,by decide +kernel,by decide +kernel,rfl,⟨⟨rfl,rfl,dj rfl⟩,⟨rfl,rfl,dj rfl⟩,⟨rfl,rfl,dj rfl⟩,bo⟩⟩ rfl (uR rfl Z.range (zC (pv 6) zH)) (λ_=>(zDh 0 (show(["_law_k", "_law_letters", "_law_raw", "_law_step"]:List aC).Nodup by decide +kernel))) (λ_=>uC) (λ_=>(zQi zUo (pv 1) ?_ (λ_ _=>rfl)))) zH)))
   (zD (yN 9 xC.nd ?_)
   (zD (sV bU rfl (uR rfl Z.range (zC yW zH)) (zDh 10 xC.nd) (zF (yH (yK rL (pv 8) (pv 3) (by with_unfolding_all rfl)) (zD (yN 11 xC.nd (zQi zUo (pv 2) ?_ (λ_ _=>rfl)))
   (zF (yN 8 xC.nd (vN zGz (vN zGz (uL zUu (pv 8) uZ (vY (pv 9))) (pv 11)) (uL zUu (pv 8) (vY ?_) uZ))))) zS)))
   (zF (zX (zF7 (pv 3) (zC (pv 8) zH)))))))))))
   (zF (zP (pv 3)))))),?_⟩
 nofun
 refine⟨sz0,λr hr0=>?_⟩;have s0:=zB hr0 (.lst []);refine⟨_,rfl,_,rfl,by lia,by lia,sO (lo:=0) (n:=((many:Nat):Int).toNat) (λi σ H'=>∃ ns:List aC,Same H H'/\H' r=some (.lst (ns.map V.str))/\ns.length=i/\(∀ n∈ns,wC n)/\ns.Nodup /\
   ∃ u4 u5 u6 u7 u8 u9 u10 u11:Option V,σ=[some (.ref a),some (.int many),some (.str abc),some (.ref r),u4,u5,u6,u7,u8,u9,u10,u11])
  ⟨[],s0,zA,rfl,(λ_ z=>nomatch z),List.nodup_nil,none,none,none,none,none,none,none,none,rfl⟩ ?_ ?_⟩
 ·rintro i σ H1 hi ⟨ns,s1,er,ln,okn,nd,u4,u5,u6,u7,u8,u9,u10,u11,rfl⟩;rw[cg] at hi;obtain⟨x,ax,x0,x1⟩:=zGl bd (k:=(0:Int)+i) (by lia) (by lia);exists _,rfl,_,rfl,a,_,_,_,rfl,rfl,.inl (s1.seq ha),ax;exists _,rfl,_,_,rfl,rfl,(by show(0:Int)<8; decide),_,_,rfl,rfl;exists _,rfl,_,_,rfl,rfl,zLe.of (by decide) (by decide +kernel),_,_,rfl,rfl,gt5;have z0:0<=x%8:=cM _ (by decide);have z1:x%8<8:=bZ _ (by decide);have t0:0<=x/8%5:=cM _ (by decide);have t1:x/8%5<5:=bZ _ (by decide);obtain⟨sz,esz⟩:∃ n:Nat,1+x%8=(n:Int):=⟨(1+x%8).toNat,by lia⟩;have w1:1<=sz:=by lia
  have w8:sz<=8:=by lia
  refine⟨rfl,_,rfl,_,rfl,by lia,by lia,λc D hD=>?_⟩;have sD:=zB hD (.lst []);refine zBc (lo:=0) (n:=(1+x%8).toNat) (λj σ zs H'=>Same H1 H'/\H' D=some (.lst zs)/\∃ l:List Nat,zs=(l.map chS).map V.str/\l.length=j/\(∀ c∈l,97<=c/\c<=122)/\∃ u0:Option V,σ=[u0,some (.str abc),some (.int x),some (.int (x/8%5))])
   ⟨sD,zA,[],rfl,rfl,(λ_ z=>nomatch z),none,rfl⟩ (λj σ zs H' _ ⟨_,e,_⟩=>e) ?_ ?_
  ·rintro j σ zs H' hj ⟨sH,eD,l,rfl,lj,lc,u0,rfl⟩;have m0:0<=(x/40+((0:Int)+j)*(x/8%5))%26:=cM _ (by decide);have m1:(x/40+((0:Int)+j)*(x/8%5))%26<26:=bZ _ (by decide);exists _,rfl,_,rfl,_,_,rfl,rfl,zLe.of (by decide) (by decide +kernel),_,rfl,_,rfl,_,_,rfl,rfl,zW2 (by lia),_,_,rfl,rfl,_,_,rfl,rfl,(by show(0:Int)<26; decide),abc,_,_,rfl,rfl,(by decide),zUv m0 m1;refine⟨eD,zT (by rw[ac,ac]; lia),sH.putNew hD,zA,l++[97+((x/40+((0:Int)+j)*(x/8%5))%26).toNat],?_,by rw[al,lj]; rfl,λc hc=>?_,_,rfl⟩
   ·rw[aA,aA];rfl
   ·rcases aN.mp hc with hc | hc
    ·exact lc c hc
    ·rw[aw] at hc;lia
  ·rintro σ zs H2 ⟨s2,eD,l,rfl,lj,lc,u0,rfl⟩;have s12:=s1.trans s2;have er2:=s2 _ _ er;have ll:l.length=sz:=by lia
   refine⟨"", D,l.map chS,rfl,rfl,SqL.of eD,by rw[zNx,ll]; exact aO w8 (by decide),?_⟩;rw[zSp];obtain⟨pl,epl⟩:∃ n:Nat,x/7%(1+x%8)=(n:Int):=⟨(x/7%(1+x%8)).toNat,by rw[Int.toNat_of_nonneg (cM _ (by lia))]⟩;have plt:pl<l.length:=by
    have:=bZ (x/7) (show 0<1+x%8 by lia);lia
   exists _,rfl,_,_,rfl,rfl,zLe.of (by decide) (by decide +kernel),_,rfl,_,_,rfl,rfl,(by show(0:Int)<1+x%8; lia);obtain⟨xn,exn⟩:∃ n:Nat,x=(n:Int):=⟨x.toNat,by lia⟩;refine⟨26,rfl,by decide,by decide,sO (lo:=0) (n:=26) (λk σ H'=>H'=H2/\∃ m:List Nat,(txt m ∉ ns\/((k=0\/∃ j,j+1=k/\m=l.set pl (97+(xn+j)%26))/\∀ j,j+1<k->txt (l.set pl (97+(xn+j)%26))∈ns))/\m.length=l.length/\(∀ c,m.set pl c=l.set pl c)/\(∀ c∈m,97<=c/\c<=122) /\
     ∃ u10 u11:Option V,σ=[some (.ref a),some (.int many),some (.str abc),some (.ref r),some (.int (0+i)),some (.int x),some (.int (1+x%8)),some (.int (x/8%5)),some (.str (txt m)),some (.int (x/7%(1+x%8))),u10,u11])
    ⟨rfl,l,.inr ⟨.inl rfl,λj hj=>absurd hj (iP _)⟩,rfl,λ_=>rfl,lc,u10,u11,rfl⟩ ?_ ?_⟩
   ·rintro k σ H' hk ⟨rfl,m,hm,lm,hset,mc,v10,v11,rfl⟩;exists _,rfl,_,rfl,r,_,rfl,.inl (SqL.of er2),rfl,zPa ns,_,rfl;show if inV (.str (txt m)) (ns.map V.str)=true then _ else _
    rw[zWi];refine ifD (λhin=>?_) (λhin=>?_)
    ·have b0:0<=(x+((0:Int)+k))%26:=cM _ (by decide);have b1:(x+((0:Int)+k))%26<26:=bZ _ (by decide);exists _,rfl,_,rfl,_,rfl,_,_,rfl,rfl,_,_,rfl,rfl,(by show(0:Int)<26; decide),abc,_,_,rfl,rfl,(by decide),zUv b0 b1;have lz:(txt m).length<=sizeLine:=by rw[rR,lm,ll]; exact aO w8 (by decide)
     have es:(97+((x+((0:Int)+k))%26).toNat)=97+(xn+k)%26:=by lia
     have c1:eZ (txt m) none (some (x/7%(1+x%8)))++chS (97+((x+((0:Int)+k))%26).toNat)++eZ (txt m) (some (x/7%(1+x%8)+1)) none=txt (l.set pl (97+(xn+k)%26)):=by
      rw[epl,zTk (by lia),es,hset]
     refine⟨_,rfl,_,rfl,_,rfl,txt m,rfl,lz,_,rfl,_,_,rfl,rfl,?_,_,rfl,_,rfl,_,_,rfl,rfl,_,rfl,txt m,rfl,lz,_,_,rfl,rfl,?_,?_⟩
     ·exact aO (gQ (iB _ _ _) (am 1)) (by rw[rR,lm,ll]; exact aO (jb w8 1) (by decide))
     ·rw[strLen_append];exact aO (gQ (gQ (iB _ _ _) (am 1)) (iB _ _ _)) (by rw[rR,lm,ll]; exact aO (gQ (jb w8 1) w8) (by decide))
     ·refine⟨rfl,l.set pl (97+(xn+k)%26),.inr ⟨.inr ⟨k,rfl,rfl⟩,λj hj=>?_⟩,f7,λc=>List.set_set _,λc hc=>?_,_,_,by rw[<- c1]; rfl⟩
      ·rcases hm with hm | ⟨hm,hall⟩
       ·exact absurd hin hm
       ·by_cases e:j+1=k
        ·rcases hm with hm | ⟨j0,e0,rfl⟩
         ·lia
         ·rw[show j=j0 by lia];exact hin
        ·exact hall j (by lia)
      ·rcases gW hc with hc | hc
       ·exact lc c hc
       ·lia
    ·exact⟨rfl,m,.inl hin,lm,hset,mc,_,_,rfl⟩
   ·rintro σ H' ⟨rfl,m,hm,lm,hset,mc,v10,v11,rfl⟩;have out:txt m ∉ ns:=by
     rcases hm with hm | ⟨hm,hall⟩
     ·exact hm
     ·intro hin;refine zWq (l:=l) (p:=pl) (r:=xn) plt (ws:=ns) (by lia) λj hj=>?_;by_cases e:j+1<26
      ·exact hall j e
      ·rcases hm with hm | ⟨j0,e0,rfl⟩
       ·lia
       ·rw[show j=j0 by lia];exact hin
    exists _,rfl,.inl ⟨rfl,_,SqL.of er2⟩,_,rfl,r,_,_,rfl,rfl,er2,zT (by rw[ac]; lia);refine⟨ns++[txt m],s12.putNew hr0,?_,by rw[al,ln]; rfl,λn hn=>?_,?_,_,_,_,_,_,_,_,_,rfl⟩
    ·rw[zA,aA];rfl
    ·rcases aN.mp hn with hn | hn
     ·exact okn n hn
     ·rw[aw] at hn;rw[hn];exact zOd (by lia) (by lia) mc
    ·refine fJ.mpr ⟨nd,by simp,λx hx y hy=>?_⟩;rw[aw] at hy;rw[hy];exact λz=>out (z ▸ hx)
 ·rintro σ H1 ⟨ns,s1,er,ln,okn,nd,u4,u5,u6,u7,u8,u9,u10,u11,rfl⟩;exact⟨_,rfl,q r ns H1 s1 hr0 er (by rw[ln,cg]) okn nd⟩
def zM8(_:ae):Sp:=λvs H Q _=>vs=[]/\∀(d m b r n:ag)(H':Hp),Same H H'->H d=none->H m=none->H r=none->H' d=some (.dK (lwK m b r n 1))->H' m=some (.dK [])->H' b=some (.dK [])->H' r=some (.lst [])->H' n=some (.dK [])->b≠m->n≠m->Q (.ref d) H'
theorem zSw(F:Fun K "_law_new" "_law_new" zHj f fd)(Z:Zs mg)(CB:Cb P w mg base)  : xJ P w K mg base CX0 1 f fd [] (zM8 K):=by
 specialize zR9
 ·obtain⟨rfl,_⟩:=h;rfl
 obtain⟨rfl,q⟩:=h
 refine'⟨_,zF ?h,?_⟩
 rotate_left
 with_reducible refine' zP ?_
 rotate_left
 with_reducible exact zKu (wO zJ rW (wO zJ rW (wO zJ (tE zH) (wO zJ rW (wO zJ yW zKr))))) rfl rfl (λz=>nomatch z) (by decide)
 try dsimp only[L2.cxOf]
 intro p hp m hm b hb;refine⟨sz0,λr hr n hn=>?_⟩;have s1:=zB hp (.dK []);have s2:=zB hm (.dK []);have s3:=zB hb (.dK []);have s4:=zB hr (.lst []);have s5:=zB hn (.dK []);have em:=(s3.trans (s4.trans s5)) _ _ zA;have eb:=(s4.trans s5) _ _ zA;have er:=s5 _ _ zA;have ep:=(s2.trans (s3.trans (s4.trans s5))) _ _ zA;exists ep,[(.inr "marks", .ref m),(.inr "banks", .ref b),(.inr "runs", .ref r),(.inr "notes", .ref n),(.inr "next", .int 1)],rfl,(show 5<=15 by decide);rw[zR2];have ne:∀{x:ag},(upd H p (.dK [])) x=none->x≠p:=λ{x} h z=>by rw[z,zA] at h; cases h
 have nb:=ne (s2.free hb);have nr:=ne (s2.free (s3.free hr));have nn:=ne (s2.free (s3.free (s4.free hn)));refine q p m b r n _ (λc o e=>?_) hp (s1.free hm) (s1.free (s2.free (s3.free hr))) zA ?_ ?_ ?_ ?_ (λz=>by rw[z,zA] at hb; cases hb) (λz=>by have:=s3.free (s4.free hn); rw[z,zA] at this; cases this)
 ·rw[zG (zK e hp)];exact(s1.trans (s2.trans (s3.trans (s4.trans s5)))) c o e
 ·rw[zG (ne hm)]; exact em
 ·rw[zG nb]; exact eb
 ·rw[zG nr]; exact er
 ·rw[zG nn]; exact zA
def zEs(_:ae):Sp:=λvs H Q _=>∃(a R:ag)(rows:List Int)(ns:List aC),vs=[.ref a,.ref R]/\H a=some (.lst (rows.map V.int))/\112<=rows.length/\(∀ v∈rows,0<=v/\v<1000003)/\H R=some (.lst (ns.map V.str))/\ns.length=22 /\
 ∀(L:ag)(xs:List V)(Ds:List Deed) l1 l2 l3 l4 c (H':Hp),Same H H'->H' L=some (.lst xs)->xX H' (Ds.map Deed.dt) xs->zS1 ns Ds l1 l2 l3 l4 c->Q (.ref L) H'
theorem zQq{α:Type}{P:Nat->α->Prop}{l:List α}{x:α}(h:∀ j e,l[j]?=some e->P j e)(hx:P l.length x):∀ j e,(l++[x])[j]?=some e->P j e:=λj e g=>by
 by_cases z:j<l.length
 ·rw[cU z] at g; exact h j e g
 ·rw[cu (by lia)] at g;have:j-l.length=0:=by
   have:=(ay.mp g).1;simp at this;lia
  rw[this] at g;cases g;rw[show j=l.length by lia];exact hx
theorem zKi{α:Type}{l:List α}{i:Nat}{x:α}(h:l[i]?=some x):l.take i++[x]=l.take (i+1):=by rw[bC,h]; rfl
theorem zK8(F:Fun K "_law_filled" "_law_filled" zAi f fd)(Z:Zs mg)(CB:Cb P w mg base)  : xJ P w K mg base CX0 1 f fd ["_law_some", "_law_names_here"] (zEs K):=by
 specialize xS
 ·obtain⟨a,R,rows,ns,rfl,_⟩:=h;rfl
 obtain⟨a,R,rows,ns,rfl,ha,l112,bd,eR,ln,q⟩:=h;obtain⟨v25,a25,_⟩:=zGl bd (k:=25) (by decide) (by lia);have sq:∀{H':Hp},H' a=some (.lst (rows.map V.int))->Sq K H' a (rows.map V.int):=λh=>.inl (SqL.of h);have row:∀{k:Nat}{j:Int},j=k->k<112->∃ v,atI (rows.map V.int) j=some (.int v):=λ{k j} e h=>by
  obtain⟨v,e1,_⟩:=zGl bd (k:=k) (by lia) (by lia);exact⟨v,by rw[e]; exact e1⟩
 have nam:∀{i:Nat}{j:Int},j=i->i<22->∃ x,ns[i]?=some x/\atI (ns.map V.str) j=some (.str x):=λ{i j} e h=>⟨ns[i]'(by lia),aj (by lia),by rw[e]; exact zFk (by rw[av,aj (by lia)]; rfl)⟩
 refine'⟨_,(zD (yN 2 xS.nd ?_)
   (zD (sV bU rfl (uR rfl Z.range (zC yW zH)) (zDh 3 xS.nd) (zF (zX (zF7 (pv 2) ?_))))
   (zD (sV bU rfl (uR rfl Z.range (zC yW zH)) (zDh 3 xS.nd) (zF (zX (zF7 (pv 2) ?_))))
   (zD (sV bU rfl (uR rfl Z.range (zC yW zH)) (zDh 3 xS.nd) (zF (zX (zF7 (pv 2) ?_))))
   (zD (sV bU rfl (uR rfl Z.range (zC yW zH)) (zDh 3 xS.nd) (zD (yN 4 xS.nd ?_)
   (zD (yN 5 xS.nd ?_)
   (zD (yH ?_ (zF (yN 5 xS.nd ?_)) zS)
   (zF (zX (zF7 (pv 2) (zC (pv 5) zH))))))))
   (zF (zP (pv 2)))))))),?_⟩
 nofun
 refine⟨sz0,λL hL=>?_⟩;have sL:=zB hL (.lst []);have naL:a≠L:=zK ha hL;have nRL:R≠L:=zK eR hL;have eL0:upd H L (.lst []) L=some (.lst []):=zA;have ha0:=sL _ _ ha;have eR0:=sL _ _ eR;generalize upd H L (.lst [])=H0 at sL eL0 ha0 eR0;refine⟨20,rfl,(by decide),(by decide),sO (lo:=0) (n:=20) (λi σ H'=>(∀ x o,x≠L->H0 x=some o->H' x=some o)/\(∃(l1:List (aC×Int×Int))(xs:List V),H' L=some (.lst xs)/\xX H' ((l1.map zOm).map Deed.dt) xs/\l1.length=i/\l1.map (·.1)=ns.take i/\∀(j:Nat)(e:aC×Int×Int),l1[j]?=some e->zAm e.2/\e.2.2=j)/\∃ u:Option V,σ=[some (.ref a),some (.ref R),some (.ref L),u,none,none])
  ⟨λ_ _ _ e=>e,⟨[],[],eL0,yA.mpr rfl,rfl,rfl,λj e h=>by simp at h⟩,none,rfl⟩ ?_ ?_⟩
 ·rintro i σ H1 hi ⟨sH,⟨l1,xs,eL,rp,lD,nms,pp⟩,u,rfl⟩;have ha1:=sH _ _ naL ha0;have eR1:=sH _ _ nRL eR0;rw[fK];obtain⟨x,gx,cx⟩:=nam (i:=i) (j:=(i:Int)) rfl (by lia);obtain⟨w1,b1⟩:=row (k:=30+i) (j:=30+(i:Int)) (by lia) (by lia);exists _,rfl,.inl ⟨rfl,_,SqL.of eL⟩,_,rfl,_,rfl,R,_,_,.str x,rfl,rfl,.inl (SqL.of eR1),cx;refine⟨_,rfl,_,rfl,_,_,rfl,rfl,a,_,_,_,rfl,rfl,sq ha1,b1,_,_,rfl,rfl,(by show(0:Int)<2001; decide),_,_,rfl,rfl,_,rfl,(by show 4<=sizeLine; decide),λt ht=>?_⟩;have st:=zB ht (.tup [.str "mark", .str x,.int (w1%2001-1000),.int i]);have lD:(l1.map zOm).length=i:=by rw[ac,lD]
  have eL3:=st _ _ eL;exists L,_,.ref t,rfl,rfl,eL3,zT (by rw[rp.length,ac,lD]; lia);have sE:=uB (o:=.lst (xs++[.ref t])) eL3;have np:=zC3 eL3;refine⟨λy o h e=>by rw[zG h]; exact st _ _ (sH _ _ h e),⟨l1++[(x,w1%2001-1000,(i:Int))],_,zA,?_,by rw[al]; rw[ac] at lD; rw[lD]; rfl,by rw[aA,nms]; exact zKi gx,zQq pp ?_⟩,_,rfl⟩
  ·rw[aA,aA];exact(xX.app (rp.to (.of st)) (.one (rT zA))).sam sE np
  ·rw[ac] at lD;exact⟨⟨by show -1000<=w1%2001-1000; lia,by show w1%2001-1000<=1000; lia,by show -1000<=(i:Int); lia,by show(i:Int)<=1000; lia⟩,by rw[lD]⟩
 rintro σ H1 ⟨sH,⟨l1,xs1,eL1,rp1,lD1,n1,p1⟩,u,rfl⟩;have ha1:=sH _ _ naL ha0;have eR1:=sH _ _ nRL eR0;obtain⟨c,hc,ec⟩:∃ c:Nat,c<=2/\v25%3=c:=⟨(v25%3).toNat,by lia,by lia⟩;refine⟨8,rfl,(by decide),(by decide),sO (lo:=0) (n:=8) (λi σ H'=>(∀ x o,x≠L->H1 x=some o->H' x=some o)/\(∃(l2:List (aC×List (Int×Int)))(xs:List V),H' L=some (.lst xs)/\xX H' ((l1.map zOm++l2.map zN5).map Deed.dt) xs/\l2.length=i/\l2.map (·.1)=(ns.drop c).take i/\∀(j:Nat)(e:aC×List (Int×Int)),l2[j]?=some e->j<8/\e.2=[((j:Int),0),((j:Int)+3,0),((j:Int),2)])/\∃ u:Option V,σ=[some (.ref a),some (.ref R),some (.ref L),u,none,none])
  ⟨λ_ _ _ e=>e,⟨[],xs1,eL1,by rw[eW,bF]; exact rp1,rfl,rfl,λj e h=>by simp at h⟩,_,rfl⟩ ?_ ?_⟩
 ·rintro i σ H2 hi ⟨sH2,⟨l2,xs,eL,rp,lD,nms,pp⟩,u,rfl⟩;have ha2:=sH2 _ _ naL ha1;have eR2:=sH2 _ _ nRL eR1;rw[fK];obtain⟨x,gx,cx⟩:=nam (i:=c+i) (j:=(i:Int)+v25%3) (by lia) (by lia);exists _,rfl,.inl ⟨rfl,_,SqL.of eL⟩,_,rfl,_,rfl,_,rfl,a,_,_,_,rfl,rfl,sq ha2,a25,_,_,rfl,rfl,gt3,_,_,rfl,rfl,R,_,_,.str x,rfl,rfl,.inl (SqL.of eR2),cx;refine⟨_,rfl,sz2,λq1 h1=>?_⟩;have s1:=zB h1 (.tup [.int i,.int 0]);refine⟨_,rfl,_,_,rfl,rfl,sz2,λq2 h2=>?_⟩;have s2:=zB h2 (.tup [.int ((i:Int)+3),.int 0]);refine⟨_,rfl,sz2,λq3 h3=>?_⟩;have s3:=zB h3 (.tup [.int i,.int 2]);refine⟨sz3,λcc hcc=>?_⟩;have s4:=zB hcc (.tup [.ref q1,.ref q2,.ref q3]);refine⟨sz3,λt ht=>?_⟩;have s5:=zB ht (.tup [.str "bank", .str x,.ref cc]);have s35:=s3.trans (s4.trans s5);have st:=s1.trans (s2.trans s35);have rt:Rep _ (Deed.bank x [((i:Int),0),((i:Int)+3,0),((i:Int),2)]).dt (.ref t):=yD.mpr ⟨t,_,rfl,zA,zL.mpr ⟨_,_,rfl,zW.mpr rfl,.two (zW.mpr rfl) (yD.mpr ⟨cc,_,rfl,s5 _ _ zA,zL.mpr ⟨_,_,rfl,wD (p:=((i:Int),0)) ((s2.trans s35) _ _ zA),.two (wD (p:=((i:Int)+3,0)) (s35 _ _ zA)) (wD (p:=((i:Int),2)) ((s4.trans s5) _ _ zA))⟩⟩)⟩⟩;have lD':=lD;have lD:(l1.map zOm++l2.map zN5).length=20+i:=by rw[al,ac,ac,lD,lD1]
  have eL3:=st _ _ eL;exists L,_,.ref t,rfl,rfl,eL3,zT (by rw[rp.length,ac,lD]; lia);have sE:=uB (o:=.lst (xs++[.ref t])) eL3;have np:=zC3 eL3;refine⟨λy o h e=>by rw[zG h]; exact st _ _ (sH2 _ _ h e),⟨l2++[(x,[((i:Int),0),((i:Int)+3,0),((i:Int),2)])],_,zA,?_,by rw[al,lD']; rfl,by rw[aA,nms]; exact zKi (by rw[fq]; exact gx),zQq pp (by rw[lD']; exact⟨hi,rfl⟩)⟩,_,rfl⟩;rw[show ∀ y,(l2++[y]).map zN5=l2.map zN5++[zN5 y] from λy=>aA,<- cj,aA];exact(xX.app (rp.to (.of st)) (.one rt)).sam sE np
 rintro σ H2 ⟨sH2,⟨l2,xs2,eL2,rp2,lD2,n2,p2⟩,u,rfl⟩;have ha2:=sH2 _ _ naL ha1;have eR2:=sH2 _ _ nRL eR1;refine⟨12,rfl,(by decide),(by decide),sO (lo:=0) (n:=12) (λi σ H'=>(∀ x o,x≠L->H2 x=some o->H' x=some o)/\(∃(l3:List (Int×Int))(xs:List V),H' L=some (.lst xs)/\xX H' ((l1.map zOm++l2.map zN5++l3.map zO5).map Deed.dt) xs/\l3.length=i/\∀ e∈l3,zAm e)/\∃ u:Option V,σ=[some (.ref a),some (.ref R),some (.ref L),u,none,none])
  ⟨λ_ _ _ e=>e,⟨[],xs2,eL2,by rw[eW,bF]; exact rp2,rfl,λe he=>(nomatch he)⟩,_,rfl⟩ ?_ ?_⟩
 ·rintro i σ H3 hi ⟨sH3,⟨l3,xs,eL,rp,lD,pp⟩,u,rfl⟩;have ha3:=sH3 _ _ naL ha2;rw[fK];obtain⟨w1,b1⟩:=row (k:=50+i) (j:=50+(i:Int)) (by lia) (by lia);obtain⟨v,at_,v1,v2⟩:∃ v,atI [V.int 1000,.int (-1000),.int (i:Int)] (w1%3)=some (.int v)/\-1000<=v/\v<=1000:=by
   rcases (by lia:w1%3=0\/w1%3=1\/w1%3=2) with z | z | z <;> rw[z]
   ·exact⟨1000,rfl,by decide,by decide⟩
   ·exact⟨-1000,rfl,by decide,by decide⟩
   ·exact⟨i,rfl,by lia,by lia⟩
  refine⟨_,rfl,.inl ⟨rfl,_,SqL.of eL⟩,_,rfl,_,rfl,_,_,rfl,rfl,a,_,_,_,rfl,rfl,sq ha3,b1,_,_,rfl,rfl,(by show(0:Int)<2001; decide),_,_,rfl,rfl,_,rfl,_,rfl,sz3,λm hm=>?_⟩;have sm:=zB hm (.lst [.int 1000,.int (-1000),.int i]);refine⟨_,rfl,_,rfl,_,_,rfl,rfl,a,_,_,_,rfl,rfl,sq (sm _ _ ha3),b1,_,_,rfl,rfl,gt3,m,_,_,.int v,rfl,rfl,.inl (SqL.of zA),at_,sz3,λt ht=>?_⟩;have s5:=zB ht (.tup [.str "sail", .int (w1%2001-1000),.int v]);have st:=sm.trans s5;have lD':=lD;have lD:(l1.map zOm++l2.map zN5++l3.map zO5).length=28+i:=by rw[al,al,ac,ac,ac,lD,lD1,lD2]
  have eL3:=st _ _ eL;exists L,_,.ref t,rfl,rfl,eL3,zT (by rw[rp.length,ac,lD]; lia);have sE:=uB (o:=.lst (xs++[.ref t])) eL3;have np:=zC3 eL3;refine⟨λy o h e=>by rw[zG h]; exact st _ _ (sH3 _ _ h e),⟨l3++[(w1%2001-1000,v)],_,zA,?_,by rw[al,lD']; rfl,λe he=>?_⟩,_,rfl⟩
  ·rw[show ∀ y,(l3++[y]).map zO5=l3.map zO5++[zO5 y] from λy=>aA,<- cj,aA];exact(xX.app (rp.to (.of st)) (.one (zHo zA))).sam sE np
  ·rcases aN.mp he with z | z
   ·exact pp e z
   ·rw[aw.mp z];exact⟨by show -1000<=w1%2001-1000; lia,by show w1%2001-1000<=1000; lia,v1,v2⟩
 rintro σ H3 ⟨sH3,⟨l3,xs3,eL3',rp3,lD3,p3⟩,u,rfl⟩;have ha3:=sH3 _ _ naL ha2;have eR3:=sH3 _ _ nRL eR2;refine⟨24,rfl,(by decide),(by decide),sO (lo:=0) (n:=24) (λi σ H'=>(∀ x o,x≠L->H3 x=some o->H' x=some o)/\(∃(l4:List Deed)(xs:List V),H' L=some (.lst xs)/\xX H' ((l1.map zOm++l2.map zN5++l3.map zO5++l4).map Deed.dt) xs/\l4.length=i/\∀ D∈l4,zNm ns D)/\∃ u v w:Option V,σ=[some (.ref a),some (.ref R),some (.ref L),u,v,w])
  ⟨λ_ _ _ e=>e,⟨[],xs3,eL3',by rw[bF]; exact rp3,rfl,λe he=>(nomatch he)⟩,_,_,_,rfl⟩ ?_ ?_⟩
 ·rintro i σ H4 hi ⟨sH4,⟨l4,xs,eL,rp,lD,pp⟩,u,v,w,rfl⟩;have ha4:=sH4 _ _ naL ha3;have eR4:=sH4 _ _ nRL eR3;rw[fK];obtain⟨d0,at0,_⟩:=zGl (rows:=rows.drop (62+2*i)) (P:=λ_=>True) (λ_ _=>trivial) (k:=0) (by decide) (by rw[cO]; lia);obtain⟨d1,at1,_⟩:=zGl (rows:=rows.drop (62+2*i)) (P:=λ_=>True) (λ_ _=>trivial) (k:=1) (by decide) (by rw[cO]; lia);refine⟨_,rfl,_,rfl,_,_,rfl,rfl,zW2 (by lia),_,_,rfl,rfl,_,rfl,a,_,rfl,SqL.of ha4,λp hp=>?_⟩;have ct:zKo (rows.map V.int) (some (62+2*(i:Int))) none=(rows.drop (62+2*i)).map V.int:=by
   rw[show 62+2*(i:Int)=((62+2*i:Nat):Int) by lia,zJ2,HT.sIx_nat rows.length 0 (62+2*i),Nat.min_eq_left (by lia),show HT.sIx rows.length rows.length none=rows.length from rfl,dB (by rw[cO]; lia)]
  rw[ct];have sp:=zB hp (.lst ((rows.drop (62+2*i)).map V.int));obtain⟨x,gx,cx⟩:=nam (i:=i%18) (j:=(i:Int)%18) (by lia) (by lia);obtain⟨y,gy,cy⟩:=nam (i:=i%18+1) (j:=(i:Int)%18+1) (by lia) (by lia);have eRp:=sp _ _ eR4;refine⟨_,rfl,_,_,rfl,rfl,(by show(0:Int)<13; decide),_,rfl,_,rfl,_,_,rfl,rfl,(by show(0:Int)<18; decide),R,_,_,.str x,rfl,rfl,.inl (SqL.of eRp),cx,_,rfl,_,rfl,_,_,rfl,rfl,(by show(0:Int)<18; decide),_,_,rfl,rfl,R,_,_,.str y,rfl,rfl,.inl (SqL.of eRp),cy,(by show 4<=sizeLine; decide),λt ht=>?_⟩;have s2:=zB ht (.tup [.str "range", .int ((i:Int)%13),.str x,.str y]);have ep2:=s2 _ _ (show upd H4 p (.lst ((rows.drop (62+2*i)).map V.int)) p=_ from zA);have eR2':=s2 _ _ eRp;exists _,rfl,p,_,0,.int d0,rfl,rfl,.inl (SqL.of ep2),at0,_,_,rfl,rfl,gt2,rfl,_,rfl;have lD':=lD;have lD:(l1.map zOm++l2.map zN5++l3.map zO5++l4).length=40+i:=by rw[al,al,al,ac,ac,ac,lD,lD1,lD2,lD3]
  refine ifE (λz=>?_) (λz=>?_)
  ·obtain⟨n,gn,cn⟩:=nam (i:=(d1%19).toNat) (j:=d1%19) (by lia) (by lia);refine⟨_,rfl,_,_,rfl,rfl,(by show(0:Int)<13; decide),_,_,rfl,rfl,_,rfl,_,rfl,p,_,1,.int d1,rfl,rfl,.inl (SqL.of ep2),at1,_,_,rfl,rfl,(by show(0:Int)<19; decide),R,_,_,.str n,rfl,rfl,.inl (SqL.of eR2'),cn,_,rfl,sz2,λg1 hg1=>?_⟩;have s3:=zB hg1 (.tup [.int 100,.int i]);refine⟨_,rfl,_,rfl,sz2,λg2 hg2=>?_⟩;have s4:=zB hg2 (.tup [.int (-(i:Int)),.int 100]);refine⟨(by show 5<=sizeLine; decide),λt2 ht2=>?_⟩;have s5:=zB ht2 (.tup [.str "bearing", .int (12-(i:Int)%13),.str n,.ref g1,.ref g2]);have st:=(sp.trans s2).trans (s3.trans (s4.trans s5));exists _,rfl,.inl ⟨rfl,_,SqL.of (st _ _ eL)⟩,_,rfl;have eL3:=st _ _ eL;exists L,_,.ref t2,rfl,rfl,eL3,zT (by rw[rp.length,ac,lD]; lia);have sE:=uB (o:=.lst (xs++[.ref t2])) eL3;have np:=zC3 eL3;refine⟨λy o h e=>by rw[zG h]; exact st _ _ (sH4 _ _ h e),⟨l4++[.bearing (12-(i:Int)%13) n 100 i (-(i:Int)) 100],_,zA,?_,by rw[al,lD']; rfl,λD hD=>?_⟩,_,_,_,rfl⟩
   ·rw[<- cj,aA];exact(xX.app (rp.to (.of st)) (.one (rO zA (s5 _ _ (s4 _ _ zA)) (s5 _ _ zA)))).sam sE np
   ·rcases aN.mp hD with z | z
    ·exact pp D z
    ·exact .inr ⟨_,i,_,n,aw.mp z,by lia,by lia,by lia,by lia,by lia,gn⟩
  ·have st:=sp.trans s2;exists _,rfl,.inl ⟨rfl,_,SqL.of (st _ _ eL)⟩,_,rfl;have eL3:=st _ _ eL;exists L,_,.ref t,rfl,rfl,eL3,zT (by rw[rp.length,ac,lD]; lia);have sE:=uB (o:=.lst (xs++[.ref t])) eL3;have np:=zC3 eL3;refine⟨λy o h e=>by rw[zG h]; exact st _ _ (sH4 _ _ h e),⟨l4++[.range ((i:Int)%13) x y],_,zA,?_,by rw[al,lD']; rfl,λD hD=>?_⟩,_,_,_,rfl⟩
   ·rw[<- cj,aA];exact(xX.app (rp.to (.of st)) (.one (qV zA))).sam sE np
   ·rcases aN.mp hD with z | z
    ·exact pp D z
    ·exact .inl ⟨_,_,x,y,aw.mp z,by lia,by lia,by lia,gx,gy⟩
 ·rintro σ H4 ⟨sH4,⟨l4,xs,eL,rp,lD,pp⟩,u,v,w,rfl⟩;refine⟨_,rfl,q L xs _ l1 l2 l3 l4 c H4 (λx o e=>?_) eL rp ⟨rfl,n1,p1,hc,n2,p2,lD3,p3,lD,pp⟩⟩;have n:=zK e hL;exact sH4 _ _ n (sH3 _ _ n (sH2 _ _ n (sH _ _ n (sL _ _ e))))
def zAa(_:ae):Sp:=λvs H Q _=>∃ x:aC,vs=[.str x]/\zBg x/\∀(b:Bool)(H':Hp),(b=true↔wC x)->Same H H'->Q (.bl b) H'
theorem zKg(F:Fun K "_law_is_name" "_law_is_name" qB f fd)(Z:Zs mg)(CB:Cb P w mg base)  : xJ P w K mg base CX0 1 f fd ["_law_name"] (zAa K):=by
 specialize zJv
 ·obtain⟨x,rfl,_⟩:=h;rfl
 obtain⟨x,rfl,as,q⟩:=h;exists _,(zF (zP (zM5 (zB9 zCj zCj yW (zQ zAe rfl Z.len uU (zC (pv 0) zH)) yW) (zMn (zQ (tV rfl) rfl Z.all zFf (zC (sN (T:=["_law_sign"]) (caps:=[]) ⟨rfl,by decide +kernel,by decide +kernel,rfl,bo⟩ rfl (zT7 (pv 0)) (λ_=>(zA2 (i:=0) (show(["_law_sign"]:List aC).Nodup by decide +kernel) rfl (dj rfl))) (λ_=>uC) (λ_=>(tY zR6 (pv 0) zJ (by with_unfolding_all rfl)))) zH))))))
 try dsimp only[L2.cxOf]
 have hz:x.length<=sizeLine:=aO as.2 (by decide);have no:¬ wC x->Q (.bl false) H:=λz=>q false H (iff_of_false nofun z) (Same.refl _);exists _,rfl,x,rfl,hz,_,_,rfl,rfl,_,rfl;refine ifD (λh1=>?_) (λh1=>⟨_,rfl,yR (no λz=>h1 (by have:=z.1; lia))⟩);exists _,_,rfl,rfl,_,rfl;refine ifD (λh2=>?_) (λh2=>no λz=>h2 (by have:=z.2.1; lia));have asc:x.cps.all (· < 128)=true:=by
  rw[jG];intro c hm;exact decide_eq_true (as.1 c (fU.mpr hm))
 refine⟨_,rfl,x,rfl,asc,λc D hD=>?_⟩;refine zK4 (xs:=zE2 x) (λi σ zs H'=>Same H H'/\H' D=some (.lst zs)/\(∃ bs:List Bool,zs=bs.map V.bl/\bs.length=i/\(bs.all id=true↔∀ c∈x.cps.toList.take i,97<=c/\c<=122))/\i<=x.length/\∃ u0:Option V,σ=[u0])
  ⟨zB hD _,zA,⟨[],rfl,rfl,by simp⟩,bf _,none,rfl⟩ (λi σ zs H' ⟨_,e,_⟩=>⟨bo,e⟩) ?_ ?_
 ·rintro i v σ zs H' hi ⟨sH,eD,⟨bs,rfl,lb,ab⟩,hi8,u0,rfl⟩;unfold zE2 at hi;rw[av,aJ] at hi;obtain⟨n,gn,rfl⟩:=hi;have hil:i<x.length:=by
   have:=(ay.mp gn).1;rw[bR] at this;exact this
  have hn:n<128:=as.1 n (aF gn);exists _,rfl,_,_,rfl,rfl;rw[zYz n hn];refine⟨eD,zT (by rw[ac]; have:=as.2; lia),sH.putNew hD,zA,⟨bs++[decide (97<=n/\n<=122)],by rw[aA]; rfl,by rw[al,lb]; rfl,?_⟩,hil,_,rfl⟩;rw[iQ,aY,ab,bC,gn];simp only[fh,iD,ii,id,decide_eq_true_eq,aN,mI,aw];constructor
  ·rintro⟨h1,h2⟩ c (h | rfl)
   ·exact h1 c h
   ·exact h2
  ·exact λh=>⟨λc hc=>h c (.inl hc),h n (.inr rfl)⟩
 ·rintro σ zs H' ⟨sH,eD,⟨bs,rfl,lb,ab⟩,_,u0,rfl⟩;have lc:(zE2 x).length=x.cps.toList.length:=ac _;rw[lc,bW] at ab;exact⟨D,bs,rfl,SqL.of eD,q _ _ (ab.trans ⟨λh=>⟨by lia,by lia,h⟩,λh=>h.2.2⟩) sH⟩
def zBw(_:ae):Sp:=λvs H Q _=>∃ x y:Int,vs=[.int x,.int y]/\∀ b:Bool,(b=true↔zAm (x,y))->Q (.bl b) H
theorem zOq(F:Fun K "_law_near" "_law_near" zDz f fd)(Z:Zs mg)(CB:Cb P w mg base)  : xJ P w K mg base CX0 1 f fd ["_law_x", "_law_y"] (zBw K):=by
 specialize zRo
 ·obtain⟨x,y,rfl,_⟩:=h;rfl
 obtain⟨x,y,rfl,q⟩:=h
 refine'⟨_,(zF (zP (zM5 (zB9 zCj zCj ?_ (pv 0) yW) (zMn (zB9 zCj zCj ?_ (pv 1) yW))))),?_⟩
 nofun
 have no:¬ zAm (x,y)->Q (.bl false) H:=λz=>q false (iff_of_false nofun z);exists _,rfl,_,rfl,_,_,rfl,rfl,_,rfl;refine ifD (λh1=>?_) (λh1=>⟨_,rfl,yR (no λz=>h1 z.1)⟩);exists _,_,rfl,rfl,_,rfl;refine ifD (λh2=>?_) (λh2=>no λz=>h2 z.2.1);exists _,rfl,_,rfl,_,_,rfl,rfl,_,rfl;refine ifD (λh3=>?_) (λh3=>no λz=>h3 z.2.2.1);exact⟨_,_,rfl,rfl,q _ (by rw[decide_eq_true_eq]; exact⟨λh4=>⟨h1,h2,h3,h4⟩,λz=>z.2.2.2⟩)⟩
def zRw:Deed->Prop
 | .mark _ _ _=>True
 | .unmark _=>True
 | _=>False
def zIl(φ:Deed->Prop):Sp:=λvs H Q _=>∃(d:ag)(v:V)(S:BS)(D:Deed),vs=[.ref d,v]/\zUx H d S/\Rep H D.dt v/\zK2 D/\zMk S/\φ D/\∀ H',Sam H H'->Q (.str (zFz (zR S D))) H'
theorem zRw.cases{D:Deed}(h:zRw D):(∃ n x y,D=.mark n x y)\/∃ n,D=.unmark n:=by
 cases D <;> first | exact h.elim | exact .inl ⟨_,_,_,rfl⟩ | exact .inr ⟨_,rfl⟩
theorem qO{b:Bool}{p:Prop}(h:b=true↔p)(e:b=false):¬ p:=λz=>by rw[h.mpr z] at e; cases e
def zAy(_:ae):Sp:=zIl zRw
theorem zGc(F:Fun K "_law_mark_word" "_law_mark_word" tL f fd)(Z:Zs mg)(CB:Cb P w mg base)(yBt:Has P w K mg base "_law_near" 1 ["_law_x", "_law_y"] (zBw K))(yBg:Has P w K mg base "_law_is_name" 1 ["_law_name"] (zAa K)):xJ P w K mg base CX0 2 f fd ["_law_m", "_law_deed"] (zAy K):=by
 specialize vC
 ·obtain⟨d,v,S,D,rfl,_⟩:=h;rfl
 obtain⟨d,v,S,D,rfl,⟨m,b,r,n,lw⟩,hv,tm,wl,mk,q⟩:=h;have say:∀(o:Option Cl)(H':Hp),zR S D=o->Sam H H'->Q (.str (zFz o)) H':=λo H' e s=>e ▸ q _ s;obtain⟨mk',hm,km⟩:=lw.ma;have lmk:mk'.length=S.marks.length:=by rw[km.length,zA3]
 refine'⟨_,(zD (yN 2 vC.nd ?_)
   (zD (yH ?_ (zD (yH ?_ (zF (zP zJ)) zS)
   (zD (yH (qL (zIh (zV hr) (pv 2) (zN (zV hr) (pv 0) zJ (λ_ _=>rfl))) (by with_unfolding_all rfl)) (zF (zP zJ)) zS)
   (zD (yH ?_ (zF (zP zJ)) zS)
   (zF (zP (tH (yK zIs (zQ sC rfl Z.len uU (zC (zN (zV hr) (pv 0) zJ (λ_ _=>rfl)) zH)) yW (xB _)) zJ zJ)))))) zS)
   (zD (yH (qL (sI (zV hr) (pv 2) (zN (zV hr) (pv 0) zJ (λ_ _=>rfl))) (by with_unfolding_all rfl)) (zF (zP zJ)) zS)
   (zD (yH ?_ (zF (zP (tH (zAv (zQ (zIo rfl) rfl Z.any zUi (zC (sN (T:=["_law_note"]) (caps:=[("_law_name", 2)]) ⟨rfl,by decide +kernel,by decide +kernel,rfl,⟨⟨rfl,rfl,dj rfl⟩,bo⟩⟩ rfl (zH2 (zN (zV hr) (pv 0) zJ (λ_ _=>rfl))) (λ_=>(zDh 0 (show(["_law_note", "_law_name"]:List aC).Nodup by decide +kernel))) (λ_=>uC) (λ_=>(tY (zQ6 (zV hr)) (pv 1) (uL zC8 (pv 0) (vY yW) uZ) (by with_unfolding_all rfl)))) zH))) zJ zJ))) zS)
   (zD (yH ?_ (zF (zP zJ)) zS)
   (zD (sV bU rfl (zH2 (zN (zV hr) (pv 0) zJ (λ_ _=>rfl))) (zDh 3 vC.nd) (zF (yH (PW.pt (zId ?_ (zFb (yK (zQ6 (zV hr)) (pv 2) (uL zC8 (pv 3) (vY yW) uZ) (by with_unfolding_all rfl))))) (zD (yN 4 vC.nd ?_)
   (zF (yH (yK (zMi hr.units0) (zN (zV hr) (zN (zV hr) (pv 0) zJ (λ_ _=>rfl)) (pv 4) (λ_ _=>rfl)) (uL zC8 (pv 1) (vY yW) uZ) (xB _)) (zF (zP zJ)) zS))) zS)))
   (zF (zP zJ)))))))),?_⟩
 nofun
 rcases mk.cases with ⟨nm,x,y,rfl⟩ | ⟨nm,rfl⟩
 ·clear mk q;obtain⟨t,rfl,ht⟩:=zCl hv;have tq:Sq K H t [.str "mark", .str nm,.int x,.int y]:=.inr (SqT.of ht);exists _,rfl,t,_,1,.str nm,rfl,rfl,tq,rfl,_,rfl,t,_,0,.str "mark", rfl,rfl,tq,rfl,rfl,_,rfl;refine wM ?_;refine⟨_,rfl,nm,rfl,tm.1,λbb H1 hb s1=>⟨_,rfl,?_⟩⟩;cases bb with
  | false=>exact wM (say (some .badName) _ (by simp only[zR,if_pos (qO hb rfl)]) (.of s1))
  | true =>
  have j1:=au.mpr (hb.mp rfl);refine yR ?_;have hd1:=Rd.same lw.at_ s1;have tq1:Sq K H1 t [.str "mark", .str nm,.int x,.int y]:=.inr (SqT.of (s1 _ _ ht));exists _,rfl,_,rfl,d,.ref m,rfl,.inl ⟨_,.inr "marks", hd1,rfl,wJ.symm⟩,m,_,rfl,.inl ⟨mk',.inr nm,Rd.same hm s1,rfl,rfl⟩,_,rfl;rw[km.isSome,uS,bX];cases e:(zM S nm).isSome with
  | true=>exact wM (say (some .taken) _ (by simp only[zR,if_neg j1,if_pos e]) (.of s1))
  | false =>
  have j2:¬ (zM S nm).isSome=true:=by rw[e]; exact aE
  refine yR ?_;refine⟨_,rfl,t,_,2,.int x,rfl,rfl,tq1,rfl,_,rfl,t,_,3,.int y,rfl,rfl,tq1,rfl,x,y,rfl,λbb hb2=>⟨_,rfl,?_⟩⟩;cases bb with
  | false=>exact wM (say (some .badPlace) _ (by simp only[zR,if_neg j1,if_neg j2,if_pos (qO hb2 rfl)]) (.of s1))
  | true =>
  have j3:=au.mpr (hb2.mp rfl);refine yR ?_;exists _,rfl,d,.ref m,rfl,.inl ⟨_,.inr "marks", hd1,rfl,wJ.symm⟩,m,mk',rfl,Rd.same hm s1,_,_,rfl,rfl,_,rfl;refine ifD (λz=>say (some .full) _ (by simp only[zR,if_neg j1,if_neg j2,if_neg j3,if_pos (show 20<=S.marks.length by lia)]) (.of s1)) (λz=>say (none) _ (by simp only[zR,if_neg j1,if_neg j2,if_neg j3,if_neg (show ¬ 20<=S.marks.length by lia)]) (.of s1))
 ·clear mk q;obtain⟨t,rfl,ht⟩:=rJ hv;have tq:Sq K H t [.str "unmark", .str nm]:=.inr (SqT.of ht);exists _,rfl,t,_,1,.str nm,rfl,rfl,tq,rfl,_,rfl,t,_,0,.str "unmark", rfl,rfl,tq,rfl,rfl,_,rfl;refine yR ?_;exists _,rfl,_,rfl,d,.ref m,rfl,.inl ⟨_,.inr "marks", lw.at_,rfl,wJ.symm⟩,m,_,rfl,.inl ⟨mk',.inr nm,hm,rfl,rfl⟩,_,rfl;rw[km.isSome,uS,bX];cases e:(zM S nm).isSome with
  | false=>exact wM (say (some .noMark) _ (by simp only[zR,if_pos (show zM S nm=none by cases h:zM S nm <;> simp[h] at e ⊢)]) (.refl _))
  | true =>
  have j1:¬ zM S nm=none:=λz=>by rw[z] at e; cases e
  refine yR ?_;exists _,rfl,t,_,0,.str "unmark", rfl,rfl,tq,rfl,rfl,_,rfl;refine wM ?_;obtain⟨nk,hnk,kn⟩:=lw.no;obtain⟨ks,rfl,e1,rk⟩:=zD0 kn;have lks:ks.length=S.notes.length:=by have:=congrArg cr e1; rw[ac,ac] at this; exact this
  have few:=wl.good.few;refine⟨_,rfl,d,.ref n,rfl,.inl ⟨_,.inr "notes", lw.at_,rfl,tI.symm⟩,n,_,rfl,hnk,λo2 H2 fz2=>?_⟩;have s2:Sam H H2:=zHh hnk fz2;have rk2:=rk.to s2;refine λcc2 D2 hD2=>zK4 (λj σ2 zs2 H''=>wE (λx=>x=D2) H2 H''/\H'' D2=some (.lst zs2)/\(∃ bs:List Bool,zs2=bs.map V.bl/\bs.length=j/\(bs.any id=false↔∀ e∈S.notes.take j,unlike nm e.2))/\∃ u2:Option V,σ2=[u2,some (.str nm)])
   ⟨.of (zB hD2 _),zA,⟨[],rfl,rfl,iff_of_true rfl λe he=>(nomatch he)⟩,none,rfl⟩ (λj σ2 zs2 H'' hP=>⟨zLt hP.1 (λz=>by have:=fz2.1; rw[z,hD2] at this; cases this) fz2.1,hP.2.1⟩) ?_ ?_
  ·rintro j x2 σ2 zs2 H'' gx2 ⟨s3,eD3,⟨bs,rfl,lb,ab⟩,u2,rfl⟩;have gx':(ks.map (·.2))[j]?=some x2:=by rw[bw] at gx2; exact gx2
   have npD2:∀ b xs,H2 b=some (.tup xs)->¬ b=D2:=λb xs e z=>by rw[z,hD2] at e; cases e
   obtain⟨dt,gdt,rd⟩:=(rk2.sam s3 npD2).back gx';rw[av,aJ] at gdt;obtain⟨e,ge,rfl⟩:=gdt;have kn':=wl.good.note e (aF ge);have lj:j<60:=by have:=(ay.mp ge).1; have:=few.no; lia
   have fin:∀(y:Bool)(Hz:Hp),Same H'' Hz->(y=false↔unlike nm e.2)->Hz D2=some (.lst (bs.map V.bl))/\(bs.map V.bl).length<sizeLine/\wE (λx=>x=D2) H2 (upd Hz D2 (.lst (bs.map V.bl++[.bl y])))/\upd Hz D2 (.lst (bs.map V.bl++[.bl y])) D2=some (.lst (bs.map V.bl++[.bl y]))/\(∃ cs:List Bool,bs.map V.bl++[.bl y]=cs.map V.bl/\cs.length=j+1/\(cs.any id=false↔∀ e∈S.notes.take (j+1),unlike nm e.2)):=by
    intro y Hz sz hy;have ez:=sz _ _ eD3;refine⟨ez,gL (by rw[ac]; lia : _<=60) (by decide),(s3.trans (.of sz)).trans (uB ez),zA,bs++[y],by rw[aA]; rfl,by rw[al,lb]; rfl,?_⟩;rw[List.any_append,eU,ab,bC,ge,show [y].any id=y from by cases y <;> rfl,hy];exact⟨λh e' he'=>(aN.mp he').elim (h.1 e') λz=>by rw[aw.mp z]; exact h.2,λh=>⟨λe' z=>h e' (dO _ z),h e (aU _ (.head _))⟩⟩
   match hE:e.2,kn',rd with
   | .bearing mo k' x1 y1 x2 y2,kn',rd =>
    obtain⟨c,c1,c2,rfl,hc,hc1,hc2⟩:=wI rd;refine⟨_,rfl,_,rfl,_,rfl,c,_,rfl,SqT.of hc,(λz=>absurd z.1 (by show ¬ HT.sIx 5 0 (some 2)=0; decide)),λp hp=>?_⟩;have sp:=zB hp (.tup (zKo [.str "bearing", .int mo,.str k',.ref c1,.ref c2] (some 2) none));refine⟨p,[.str k',.ref c1,.ref c2],nm,rfl,rfl,SqT.of zA,λv hv=>?_,?_⟩
    ·rcases aI.mp hv with z | hv
     ·exact .inl ⟨k',z⟩
     rcases aI.mp hv with z | hv
     ·exact .inr ⟨c1,_,z,SqT.of (sp _ _ hc1)⟩
     ·exact .inr ⟨c2,_,aw.mp hv,SqT.of (sp _ _ hc2)⟩
    obtain⟨f1,f2,f3,f4,f5⟩:=fin ([V.str k',.ref c1,.ref c2].any (isS nm)) _ sp (by
     rw[hE];show((k' == nm)||(false||(false||false)))=false↔k'≠nm;rw[eU,beq_eq_false_iff_ne];exact and_iff_left rfl)
    exact⟨f1,f2,f3,f4,f5,_,rfl⟩
   | .range mo l1 r1,kn',rd =>
    obtain⟨c,rfl,hc⟩:=tN rd;refine⟨_,rfl,_,rfl,_,rfl,c,_,rfl,SqT.of hc,(λz=>absurd z.1 (by show ¬ HT.sIx 4 0 (some 2)=0; decide)),λp hp=>?_⟩;have sp:=zB hp (.tup (zKo [.str "range", .int mo,.str l1,.str r1] (some 2) none));refine⟨p,[.str l1,.str r1],nm,rfl,rfl,SqT.of zA,λv hv=>?_,?_⟩
    ·rcases aI.mp hv with z | hv
     ·exact .inl ⟨l1,z⟩
     ·exact .inl ⟨r1,aw.mp hv⟩
    obtain⟨f1,f2,f3,f4,f5⟩:=fin ([V.str l1,.str r1].any (isS nm)) _ sp (by
     rw[hE];show((l1 == nm)||((r1 == nm)||false))=false↔l1≠nm/\r1≠nm;rw[jo,eU,beq_eq_false_iff_ne,beq_eq_false_iff_ne])
    exact⟨f1,f2,f3,f4,f5,_,rfl⟩
  ·rintro σ2 zs2 H'' ⟨s3,eD3,⟨bs,rfl,lb,ab⟩,u2,rfl⟩;have lnl:((ks.map λe=>((.inl e.1:Key),e.2)).map (·.2)).length=S.notes.length:=by rw[ac,ac,lks]
   rw[lnl,bW] at ab;have s23:Sam H H'':=wE.over s2 s3 hD2;exists D2,bs,rfl,SqL.of eD3,_,rfl;cases hb:bs.any id with
   | true=>exact wM (say (some .needed) _ (by simp only[zR,if_neg j1,if_neg (show ¬ ∀ e∈S.notes,unlike nm e.2 from λz=>by rw[ab.mpr z] at hb; cases hb)]) s23)
   | false=>exact yR (say (none) _ (by simp only[zR,if_neg j1,if_pos (ab.mp hb)]) s23)
def zZl:Deed->Prop
 | .sail _ _=>True
 | _=>False
theorem zZl.cases{D:Deed}(h:zZl D):∃ x y,D=.sail x y:=by
 cases D <;> first | exact h.elim | exact⟨_,_,rfl⟩
def zBx(_:ae):Sp:=zIl zZl
theorem zHd(F:Fun K "_law_run_word" "_law_run_word" sW f fd)(Z:Zs mg)(CB:Cb P w mg base)(yBt:Has P w K mg base "_law_near" 1 ["_law_x", "_law_y"] (zBw K)):xJ P w K mg base CX0 2 f fd ["_law_m", "_law_deed"] (zBx K):=by
 specialize zHt
 ·obtain⟨d,v,S,D,rfl,_⟩:=h;rfl
 obtain⟨d,v,S,D,rfl,⟨m,b,r,n,lw⟩,hv,tm,wl,mk,q⟩:=h;obtain⟨rs,hrs,kr⟩:=lw.ru;have lrs:rs.length=S.runs.length:=by rw[kr.length,ac]
 refine'⟨_,(zD (yH ?_ (zD (yH ?_ (zF (zP zJ)) zS)
   (zF (zP (tH (yK zIs (zQ xE rfl Z.len uU (zC (zN (zV hr) (pv 0) zJ (λ_ _=>rfl)) zH)) yW (xB _)) zJ zJ)))) zS)
   (zD (yH (zAz (zL3 zCj zSo yW ?_ (zQ xE rfl Z.len uU (zC (zN (zV hr) (pv 0) zJ (λ_ _=>rfl)) zH)))) (zF (zP zJ)) zS)
   (zF (zP ?_)))),?_⟩
 nofun
 obtain⟨x,y,rfl⟩:=mk.cases
 ·clear mk;have say:∀(o:Option Cl),zR S (.sail x y)=o->Q (.str (zFz o)) H:=λo e=>e ▸ q H (.refl _);obtain⟨t,rfl,ht⟩:=zCx hv;have tq:Sq K H t [.str "sail", .int x,.int y]:=.inr (SqT.of ht);exists _,rfl,t,_,0,.str "sail", rfl,rfl,tq,rfl,rfl,_,rfl;refine wM ?_;refine⟨_,rfl,t,_,1,.int x,rfl,rfl,tq,rfl,_,rfl,t,_,2,.int y,rfl,rfl,tq,rfl,x,y,rfl,λbb hb=>⟨_,rfl,?_⟩⟩;cases bb with
  | false=>exact wM (say (some .badRun) (by simp only[zR,if_pos (qO hb rfl)]))
  | true =>
  have j1:=au.mpr (hb.mp rfl);refine yR ?_;exists _,rfl,d,.ref r,rfl,.inl ⟨_,.inr "runs", lw.at_,rfl,zA6.symm⟩,r,_,rfl,.inl (SqL.of hrs),_,_,rfl,rfl,_,rfl;exact ifD (λz=>say (some .full) (by simp only[zR,if_neg j1,if_pos (show 12<=S.runs.length by lia)])) (λz=>say none (by simp only[zR,if_neg j1,if_neg (show ¬ 12<=S.runs.length by lia)]))
def zFw(K:ae):Sp:=λvs H Q _=>∃(a b:ag)(us ws:List V)(x1 y1 x2 y2:Int),vs=[.ref a,.ref b]/\Sq K H a us/\Sq K H b ws/\atI us 0=some (.int x1)/\atI us 1=some (.int y1)/\atI ws 0=some (.int x2)/\atI ws 1=some (.int y2) /\
 x1.natAbs<=10^18/\y1.natAbs<=10^18/\Q (.int (x1*y2-y1*x2)) H
theorem zLg(F:Fun K "_law_turned" "_law_turned" zAp f fd)(Z:Zs mg)(CB:Cb P w mg base)  : xJ P w K mg base CX0 1 f fd ["_law_one", "_law_other"] (zFw K):=by
 specialize zKq
 ·obtain⟨a,b,us,ws,x1,y1,x2,y2,rfl,_⟩:=h;rfl
 obtain⟨a,b,us,ws,x1,y1,x2,y2,rfl,ha,hb,u0,u1,w0,w1,m1,m2,q⟩:=h
 refine'⟨_,(zF (zP ?_)),?_⟩
 nofun
 exact⟨_,rfl,a,_,_,.int x1,rfl,rfl,ha,u0,_,rfl,b,_,_,.int y2,rfl,rfl,hb,w1,_,_,rfl,rfl,zW2 (by lia),
  _,rfl,a,_,_,.int y1,rfl,rfl,ha,u1,_,rfl,b,_,_,.int x2,rfl,rfl,hb,w0,_,_,rfl,rfl,zW2 (by lia),_,_,rfl,rfl,q⟩
def zTw:Deed->Prop
 | .bearing _ _ _ _ _ _=>True
 | .range _ _ _=>True
 | .strike _=>True
 | _=>False
theorem zTw.cases{D:Deed}(h:zTw D):(∃ k,D=.strike k)\/(∃ m n a b c d,D=.bearing m n a b c d)\/∃ m l r,D=.range m l r:=by
 cases D <;> first | exact h.elim | exact .inl ⟨_,rfl⟩ | exact .inr (.inl ⟨_,_,_,_,_,_,rfl⟩) | exact .inr (.inr ⟨_,_,_,rfl⟩)
theorem cutX{A G B:Prop}(h1:(A->B)->G)(h2:A->B):G:=h1 h2
def zAt(_:ae):Sp:=zIl zTw
theorem zF8(F:Fun K "_law_note_word" "_law_note_word" tF f fd)(Z:Zs mg)(CB:Cb P w mg base)(yBj:Has P w K mg base "_law_turned" 1 ["_law_one", "_law_other"] (zFw K)):xJ P w K mg base CX0 2 f fd ["_law_m", "_law_deed"] (zAt K):=by
 specialize rB
 ·obtain⟨d,v,S,D,rfl,_⟩:=h;rfl
 obtain⟨d,v,S,D,rfl,⟨m,b,r,n,lw⟩,hv,tm,wl,mk,q⟩:=h;have say:∀(o:Option Cl)(H':Hp),zR S D=o->Sam H H'->Q (.str (zFz o)) H':=λo H' e s=>e ▸ q _ s;obtain⟨rs,hrs,kr⟩:=lw.ru;have lrs:rs.length=S.runs.length:=by rw[kr.length,ac]
 obtain⟨mk',hm,km⟩:=lw.ma;obtain⟨nk',hn,kn⟩:=lw.no;have lnk:nk'.length=S.notes.length:=by rw[kn.length]; unfold ntE; rw[ac]
 refine'⟨_,(zD (yH ?_ (zF (zP (tH (qL (zIh (zV hr) ?_ (zN (zV hr) (pv 0) zJ (λ_ _=>rfl))) (by with_unfolding_all rfl)) zJ zJ))) zS)
   (zD (yH (zAz (zL3 zCj zCj yW ?_ (zQ xE rfl Z.len uU (zC (zN (zV hr) (pv 0) zJ (λ_ _=>rfl)) zH)))) (zF (zP zJ)) zS)
   (zD (yH (PW.pt (zOi (qL (sI (zV hr) ?_ (zN (zV hr) (pv 0) zJ (λ_ _=>rfl))) (by with_unfolding_all rfl)) (zIi (PW.pt (zId ?_ (zFb (qL (sI (zV hr) ?_ (zN (zV hr) (pv 0) zJ (λ_ _=>rfl))) (by with_unfolding_all rfl)))))))) (zF (zP zJ)) zS)
   (zD (yH (PW.pt (zId ?_ (zFb (yK (zMi hr.units0) (zN (zV hr) (zN (zV hr) (pv 0) zJ (λ_ _=>rfl)) ?_ (λ_ _=>rfl)) (zN (zV hr) (zN (zV hr) (pv 0) zJ (λ_ _=>rfl)) ?_ (λ_ _=>rfl)) (xB _))))) (zF (zP zJ)) zS)
   (zD (yH ?_ (zD (sV bU rfl (zUm (uL zC8 (pv 1) (vY yW) uZ)) (zMp rfl (vF (zDh 2 rB.nd) (vF (zDh 3 rB.nd) zFd))) (zF (yH ?_ (zF (zP zJ)) zS)))
   (zF (yH ?_ (zF (zP zJ)) zS))) zS)
   (zF (zP (tH (yK zIs (zQ sC rfl Z.len uU (zC (zN (zV hr) (pv 0) zJ (λ_ _=>rfl)) zH)) yW (xB _)) zJ zJ)))))))),?_⟩
 nofun
 rcases mk.cases with ⟨k,rfl⟩ | ⟨mo,nm,x1,y1,x2,y2,rfl⟩ | ⟨mo,l1,r1,rfl⟩
 ·clear mk q;obtain⟨t,rfl,ht⟩:=rD hv;have tq:Sq K H t [.str "strike", .int k]:=.inr (SqT.of ht);exists _,rfl,t,_,0,.str "strike", rfl,rfl,tq,rfl,rfl,_,rfl;refine wM ?_;exists _,rfl,t,_,1,.int k,rfl,rfl,tq,rfl,_,rfl,d,.ref n,rfl,.inl ⟨_,.inr "notes", lw.at_,rfl,tI.symm⟩,n,_,rfl,.inl ⟨nk',.inl k,hn,rfl,rfl⟩,_,rfl;have bn:=zK7 (k:=k) kn;cases e:(wT nk' (.inl k)).isSome with
  | true=>exact wM (say none _ (by simp only[zR,if_pos (show k∈S.notes.map (·.1) from e9 λz=>by rw[bn.mpr z] at e; cases e)]) (.refl _))
  | false=>exact yR (say (some .noNote) _ (by simp only[zR,if_neg (bn.mp (by cases h:wT nk' (.inl k) <;> simp[h] at e ⊢))]) (.refl _))
 ·clear mk q;obtain⟨t,c1,c2,rfl,ht,hc1,hc2⟩:=wI hv;have tq:Sq K H t [.str "bearing", .int mo,.str nm,.ref c1,.ref c2]:=.inr (SqT.of ht);exists _,rfl,t,_,0,.str "bearing", rfl,rfl,tq,rfl,rfl,_,rfl;refine yR ?_;have nom:¬ (0<=mo/\mo<=S.runs.length)->Q (.str (zFz (some .noMoment))) H:=λz=>say _ _ (by simp only[zR,if_pos z]) (.refl _);exists _,rfl,t,_,1,.int mo,rfl,rfl,tq,rfl,_,_,rfl,rfl,_,rfl;refine ifD (λh1=>?_) (λh1=>⟨_,rfl,wM (nom λz=>h1 z.1)⟩);exists _,rfl,d,.ref r,rfl,.inl ⟨_,.inr "runs", lw.at_,rfl,zA6.symm⟩,r,_,rfl,.inl (SqL.of hrs),_,_,rfl,rfl,_,rfl;refine ifN (λh2=>nom λz=>h2 (by rw[lrs]; exact z.2)) (λh2=>?_);have j1:=au.mpr (show 0<=mo/\mo<=S.runs.length from⟨h1,by rw[lrs] at h2; exact h2⟩);exists _,rfl,t,_,2,.str nm,rfl,rfl,tq,rfl,_,rfl,d,.ref m,rfl,.inl ⟨_,.inr "marks", lw.at_,rfl,wJ.symm⟩,m,_,rfl,.inl ⟨mk',.inr nm,hm,rfl,rfl⟩,_,rfl;rw[km.isSome,uS,bX];cases e:(zM S nm).isSome with
  | false=>exact wM (wM (say (some .noMark) _ (by simp only[zR,if_neg j1,if_pos (show zM S nm=none by cases h:zM S nm <;> simp[h] at e ⊢)]) (.refl _)))
  | true =>
  have j2:¬ zM S nm=none:=λz=>by rw[z] at e; cases e
  refine yR ?_;exists _,rfl,t,_,0,.str "bearing", rfl,rfl,tq,rfl,rfl,_,rfl;refine yR (yR ?_);exists _,rfl,t,_,0,.str "bearing", rfl,rfl,tq,rfl,rfl,_,rfl;refine yR (yR ?_);exists _,rfl,t,_,0,.str "bearing", rfl,rfl,tq,rfl,rfl,_,rfl;refine wM ?_;refine⟨_,rfl,_,rfl,t,_,rfl,SqT.of ht,(λz=>absurd z.1 (by show ¬ HT.sIx 5 0 (some 3)=0; decide)),λp hp=>?_⟩;have sp:=zB hp (.tup (zKo [.str "bearing", .int mo,.str nm,.ref c1,.ref c2] (some 3) none));have ep:upd H p (.tup (zKo [.str "bearing", .int mo,.str nm,.ref c1,.ref c2] (some 3) none)) p=some (.tup [.ref c1,.ref c2]):=zA;generalize upd H p (.tup (zKo [.str "bearing", .int mo,.str nm,.ref c1,.ref c2] (some 3) none))=Hp at sp ep ⊢;exists p,rfl,⟨_,SqT.of ep⟩;have bad:∀ w∈[(x1,y1),(x2,y2)],¬ rQ w->zR S (.bearing mo nm x1 y1 x2 y2)=some .badWay:=λw hw nw=>by
   rcases aI.mp hw with rfl | hw
   ·simp only[zR,if_neg j1,if_neg j2,if_pos nw]
   ·rw[aw.mp hw] at nw;simp only[zR,if_neg j1,if_neg j2,if_pos nw,ite_self]
  refine zQ8 (K:=K) (a:=p) (xs:=[.ref c1,.ref c2]) (λi σ H'=>Same Hp H'/\(∀ w∈[(x1,y1),(x2,y2)].take i,rQ w)/\∃ u v:Option V,σ=[some (.ref d),some (.ref t),u,v])
   ⟨Same.refl _,λw hw=>(nomatch hw),_,_,rfl⟩ (λi σ H' _ h=>SqT.of (h.1 _ _ ep)) ?_ ?_
  ·rintro i v σ H' hi ⟨sH,ow,u1,u2,rfl⟩;obtain⟨c,xx,yy,rfl,hc,gw⟩:∃(c:ag)(xx yy:Int),v=.ref c/\Hp c=some (.tup [.int xx,.int yy])/\[(x1,y1),(x2,y2)][i]?=some (xx,yy):=by
    match i,hi with
    | 0,hi=>cases hi; exact⟨c1,x1,y1,rfl,sp _ _ hc1,rfl⟩
    | 1,hi=>cases hi; exact⟨c2,x2,y2,rfl,sp _ _ hc2,rfl⟩
   have mw:=aF gw;exists _,_,rfl,SqT.of (sH _ _ hc),rfl,_,_,rfl,_,_,rfl,rfl;exists _,rfl,rfl,_,rfl;have no:¬ rQ (xx,yy)->Q (.str (zFz (some .badWay))) H':=λz=>say _ _ (bad _ mw z) (.of (sp.trans sH));refine cutX (A:=xx≠0\/yy≠0) (λmx=>ifE (λhx=>⟨_,rfl,rfl,_,rfl,ifE (λhy=>wM (no λz=>z.1 (by rw[hx,hy]))) (λhy=>mx (.inr hy))⟩) (λhx=>mx (.inl hx))) (λnz=>?_);exists _,rfl,xx,rfl,_,rfl,yy,rfl,_,_,rfl,_,_,rfl,rfl,_,rfl;have far:¬ (100<if (if yy<0 then -yy else yy)>(if xx<0 then -xx else xx) then(if yy<0 then -yy else yy) else(if xx<0 then -xx else xx))↔(-100<=xx/\xx<=100/\-100<=yy/\yy<=100):=by
    split <;> split <;> split <;> lia
   refine ifD (λh=>no λz=>far.mpr z.2 h) (λh=>⟨sH,λw hw=>?_,_,_,rfl⟩);rw[bC,gw] at hw;rcases aN.mp hw with z | z
   ·exact ow w z
   ·rw[aw.mp z];exact⟨λy=>by injection y with y1 y2; exact nz.elim (· y1) (· y2),far.mp h⟩
  ·rintro σ H' ⟨sH,ow,u1,u2,rfl⟩;have w1:rQ (x1,y1):=ow _ (.head _);have w2:rQ (x2,y2):=ow _ (.tail _ (.head _));have j3:=au.mpr w1;have j4:=au.mpr w2;have s0:=sp.trans sH;have tq':Sq K H' t [.str "bearing", .int mo,.str nm,.ref c1,.ref c2]:=.inr (SqT.of (s0 _ _ ht));exists _,rfl,t,_,3,.ref c1,rfl,rfl,tq',rfl,_,rfl,t,_,4,.ref c2,rfl,rfl,tq',rfl,c1,c2,[.int x1,.int y1],[.int x2,.int y2],x1,y1,x2,y2,rfl,.inr (SqT.of (s0 _ _ hc1)),.inr (SqT.of (s0 _ _ hc2)),rfl,rfl,rfl,rfl,(by have:=w1.2; lia),(by have:=w1.2; lia),_,_,rfl,rfl,_,rfl;refine ifD (λh5=>say (some .badTurn) _ (by simp only[zR,if_neg j1,if_neg j2,if_neg j3,if_neg j4,if_pos h5]) (.of s0)) (λh5=>?_);exists _,rfl,d,.ref n,rfl,.inl ⟨_,.inr "notes", Rd.same lw.at_ s0,rfl,tI.symm⟩,n,nk',rfl,Rd.same hn s0,_,_,rfl,rfl,_,rfl;exact ifD (λz=>say (some .full) _ (by simp only[zR,if_neg j1,if_neg j2,if_neg j3,if_neg j4,if_neg h5,if_pos (show 24<=S.notes.length by lia)]) (.of s0)) (λz=>say none _ (by simp only[zR,if_neg j1,if_neg j2,if_neg j3,if_neg j4,if_neg h5,if_neg (show ¬ 24<=S.notes.length by lia)]) (.of s0))
 ·clear mk q;obtain⟨t,rfl,ht⟩:=tN hv;have tq:Sq K H t [.str "range", .int mo,.str l1,.str r1]:=.inr (SqT.of ht);exists _,rfl,t,_,0,.str "range", rfl,rfl,tq,rfl,rfl,_,rfl;refine yR ?_;have nom:¬ (0<=mo/\mo<=S.runs.length)->Q (.str (zFz (some .noMoment))) H:=λz=>say _ _ (by simp only[zR,if_pos z]) (.refl _);exists _,rfl,t,_,1,.int mo,rfl,rfl,tq,rfl,_,_,rfl,rfl,_,rfl;refine ifD (λh1=>?_) (λh1=>⟨_,rfl,wM (nom λz=>h1 z.1)⟩);exists _,rfl,d,.ref r,rfl,.inl ⟨_,.inr "runs", lw.at_,rfl,zA6.symm⟩,r,_,rfl,.inl (SqL.of hrs),_,_,rfl,rfl,_,rfl;refine ifN (λh2=>nom λz=>h2 (by rw[lrs]; exact z.2)) (λh2=>?_);have j1:=au.mpr (show 0<=mo/\mo<=S.runs.length from⟨h1,by rw[lrs] at h2; exact h2⟩);exists _,rfl,t,_,2,.str l1,rfl,rfl,tq,rfl,_,rfl,d,.ref m,rfl,.inl ⟨_,.inr "marks", lw.at_,rfl,wJ.symm⟩,m,_,rfl,.inl ⟨mk',.inr l1,hm,rfl,rfl⟩,_,rfl;rw[km.isSome,uS,bX];cases e1:zM S l1 with
  | none=>exact wM (wM (say (some .noMark) _ (by simp only[zR,if_neg j1,if_pos e1]) (.refl _)))
  | some p1 =>
  have j2:¬ zM S l1=none:=λz=>by rw[z] at e1; cases e1
  refine yR ?_;exists _,rfl,t,_,0,.str "range", rfl,rfl,tq,rfl,rfl,_,rfl;refine wM ?_;exists _,rfl,t,_,3,.str r1,rfl,rfl,tq,rfl,_,rfl,d,.ref m,rfl,.inl ⟨_,.inr "marks", lw.at_,rfl,wJ.symm⟩,m,_,rfl,.inl ⟨mk',.inr r1,hm,rfl,rfl⟩,_,rfl;rw[km.isSome,uS,bX];cases e2:zM S r1 with
  | none=>exact wM (say (some .noMark) _ (by simp only[zR,if_neg j1,if_neg j2,if_pos e2]) (.refl _))
  | some p2 =>
  have j3:¬ zM S r1=none:=λz=>by rw[z] at e2; cases e2
  refine yR ?_;exists _,rfl,t,_,0,.str "range", rfl,rfl,tq,rfl,rfl,_,rfl;refine wM ?_;obtain⟨v1,g1,q1⟩:=km.get (k:=.inr l1) (d:=ptD p1) (by rw[uS,e1]; rfl);obtain⟨v2,g2,q2⟩:=km.get (k:=.inr r1) (d:=ptD p2) (by rw[uS,e2]; rfl);obtain⟨a1,rfl,h1'⟩:=zAx q1;obtain⟨a2,rfl,h2'⟩:=zAx q2;refine⟨_,rfl,d,.ref m,rfl,.inl ⟨_,.inr "marks", lw.at_,rfl,wJ.symm⟩,_,rfl,t,_,2,.str l1,rfl,rfl,tq,rfl,m,_,rfl,.inl ⟨mk',.inr l1,hm,rfl,g1.symm⟩,_,rfl,d,.ref m,rfl,.inl ⟨_,.inr "marks", lw.at_,rfl,wJ.symm⟩,_,rfl,t,_,3,.str r1,rfl,rfl,tq,rfl,m,_,rfl,.inl ⟨mk',.inr r1,hm,rfl,g2.symm⟩,
   a1,a2,[p1.1,p1.2],[p2.1,p2.2],rfl,rfl,SqT.of h1',SqT.of h2',_,rfl,?_⟩
  refine ifD (λz=>say (some .same) _ (by
   have z:p1=p2:=by simp at z; exact m7 z.1 z.2
   simp only[zR,if_neg j1,if_neg j2,if_neg j3,if_pos (show zM S l1=zM S r1 by rw[e1,e2,z])]) (.refl _)) (λz=>?_)
  have j4:¬ zM S l1=zM S r1:=by
   rw[e1,e2];exact λy=>z (by cases y; rfl)
  exists _,rfl,t,_,0,.str "range", rfl,rfl,tq,rfl,rfl,_,rfl;refine yR ?_;exists _,rfl,d,.ref n,rfl,.inl ⟨_,.inr "notes", lw.at_,rfl,tI.symm⟩,n,nk',rfl,hn,_,_,rfl,rfl,_,rfl;exact ifD (λz=>say (some .full) _ (by simp only[zR,if_neg j1,if_neg j2,if_neg j3,if_neg j4,if_pos (show 24<=S.notes.length by lia)]) (.refl _)) (λz=>say none _ (by simp only[zR,if_neg j1,if_neg j2,if_neg j3,if_neg j4,if_neg (show ¬ 24<=S.notes.length by lia)]) (.refl _))
def DR(H:Hp):Nat->V->V->Prop
 | 0,x,y=>x=y/\((∃ i,x=.int i)\/(∃ b,x=.bl b)\/(∃ z,x=.str z)\/x=.non)
 | n+1,x,y=>(x=y/\((∃ i,x=.int i)\/(∃ b,x=.bl b)\/(∃ z,x=.str z)\/x=.non))\/∃(a b:ag)(xs ys:List V)(l:Bool),x=.ref a/\y=.ref b/\H a=some (if l then .lst xs else .tup xs)/\H b=some (if l then .lst ys else .tup ys)/\xs.length=ys.length/\xs.length<=1000 /\
   ∀(i:Nat)(u v:V),xs[i]?=some u->ys[i]?=some v->DR H n u v
theorem DR.same{H H':Hp}(e:Same H H'):∀{n:Nat}{x y:V},DR H n x y->DR H' n x y
 | 0,_,_,h=>h
 | n+1,x,y,h=>by
  rcases h with h | ⟨a,b,xs,ys,l,e1,e2,h1,h2,h3,h4,h5⟩
  ·exact .inl h
  ·exact .inr ⟨a,b,xs,ys,l,e1,e2,e _ _ h1,e _ _ h2,h3,h4,λi u v g1 g2=>DR.same e (h5 i u v g1 g2)⟩
theorem DR.int{H:Hp}{n:Nat}{x y:Int}(h:x=y):DR H n (.int x) (.int y):=by
 subst h;cases n with
 | zero=>exact⟨rfl,.inl ⟨x,rfl⟩⟩
 | succ m=>exact .inl ⟨rfl,.inl ⟨x,rfl⟩⟩
theorem DR.bl{H:Hp}{n:Nat}{x y:Bool}(h:x=y):DR H n (.bl x) (.bl y):=by
 subst h;cases n with
 | zero=>exact⟨rfl,.inr (.inl ⟨x,rfl⟩)⟩
 | succ m=>exact .inl ⟨rfl,.inr (.inl ⟨x,rfl⟩)⟩
theorem DR.tupI{H:Hp}{n:Nat}{a b:ag}{xs ys:List Int}(h1:H a=some (.tup (xs.map V.int)))(h2:H b=some (.tup (ys.map V.int)))(e:xs=ys)(hl:xs.length<=1000):DR H (n+1) (.ref a) (.ref b):=by
 subst e;refine .inr ⟨a,b,xs.map V.int,xs.map V.int,false,rfl,rfl,h1,h2,rfl,by rw[ac]; exact hl,λi u v g1 g2=>?_⟩;rw[g1] at g2;cases g2;obtain⟨m,_,rfl⟩:=zCq g1;exact DR.int rfl
theorem DR.str{H:Hp}{n:Nat}{x y:aC}(h:x=y):DR H n (.str x) (.str y):=by
 subst h;cases n with
 | zero=>exact⟨rfl,.inr (.inr (.inl ⟨x,rfl⟩))⟩
 | succ m=>exact .inl ⟨rfl,.inr (.inr (.inl ⟨x,rfl⟩))⟩
theorem DR.non{H:Hp}{n:Nat} : DR H n .non .non:=by
 cases n with
 | zero=>exact⟨rfl,.inr (.inr (.inr rfl))⟩
 | succ m=>exact .inl ⟨rfl,.inr (.inr (.inr rfl))⟩
theorem zUa{H:Hp} : ∀(n:Nat)(d:Dt){x y:V},zHr n d->Rep H d x->Rep H d y->DR H n x y
 | n,.int i,x,y,_,h1,h2=>by rw[yF.mp h1,yF.mp h2]; exact DR.int rfl
 | n,.str z,x,y,_,h1,h2=>by rw[zW.mp h1,zW.mp h2]; exact DR.str rfl
 | 0,.tup _,_,_,h,_,_=>h.elim
 | n+1,.tup l,x,y,h,h1,h2=>by
  obtain⟨a,xs,rfl,ha,ra⟩:=yD.mp h1;obtain⟨b,ys,rfl,hb,rb⟩:=yD.mp h2;have hl:l.length<=900:=h.1;refine .inr ⟨a,b,xs,ys,false,rfl,rfl,ha,hb,by rw[ra.length,rb.length],by rw[ra.length]; lia,λi u v g1 g2=>?_⟩;obtain⟨d,e1,r1⟩:=ra.back g1;obtain⟨d',e2,r2⟩:=rb.back g2;rw[e1] at e2;cases e2;exact zUa n d (h.2 d (aF e1)) r1 r2
theorem reps_dr{H:Hp}{n:Nat}{l:List Dt}{a b:ag}{xs ys:List V}(h:∀ d∈l,zHr n d)(hl:l.length<=900)(ha:H a=some (.lst xs))(hb:H b=some (.lst ys))(ra:xX H l xs)(rb:xX H l ys):DR H (n+1) (.ref a) (.ref b):=by
 refine .inr ⟨a,b,xs,ys,true,rfl,rfl,ha,hb,by rw[ra.length,rb.length],by rw[ra.length]; lia,λi u v g1 g2=>?_⟩;obtain⟨d,e1,r1⟩:=ra.back g1;obtain⟨d',e2,r2⟩:=rb.back g2;rw[e1] at e2;cases e2;exact zUa n d (h d (aF e1)) r1 r2
def zHb:Nat->Sp
 | 0=>λ_ _ _ _=>False
 | n+1=>λvs H Q _=>∃(x y:V),vs=[x,y]/\DR H n x y/\∀ H',Same H H'->Q (.bl true) H'
def zEq(_:ae):Sp:=zHb 6
structure KT(K:ae)(ty:af)(bb bi bl bt bs:Bool):Prop where
 b:cQ K ty (.type "bool")=some bb
 i:cQ K ty (.type "int")=some bi
 l:cQ K ty (.type "list")=some bl
 t:cQ K ty (.type "tuple")=some bt
 s:cQ K ty (.type "str")=some bs
theorem zL7{f:ag}{fd:bJ}(F:Fun K "_law_same" "_law_same" zBy f fd)(Z:Zs mg)(bS:zBl K fd ["_law_told", "_law_due_here"] [])(kS:bO K (.ref f)=true)(mS:mg "_law_same" = some (.ref f)) :
  ∀ n:Nat,xJ P w K mg base CX0 n f fd ["_law_told", "_law_due_here"] (zHb n)
 | 0=>⟨λ_ _ _ _ h=>h.elim,λ_ _ _ _ _ _ _ _ _ _ _ _ _ h=>h.elim⟩
 | n+1=>by
  have ih:=zL7 F Z bS kS mS n;have yBu:Has P w K mg base "_law_same" n ["_law_told", "_law_due_here"] (zHb n):=⟨f,fd,ih,bS,kS,mS⟩
  specialize zRh
  ·obtain⟨x,y,rfl,_⟩:=h;rfl
  obtain⟨x,y,rfl,hD,q⟩:=h;have hr_self:=hr
  refine'⟨_,(zD (yH ?_ (zF (zP zGd)) zS)
   (zD (yH ?_ (zF (zP zGd)) zS)
   (zD (yH ?_ (zF (zP ?_)) zS)
   (zF (zP (zM5 ?_ (zMn (zQ (tV rfl) rfl Z.all zFf (zC (sN (T:=["_law_one", "_law_other"]) (caps:=[]) ⟨rfl,by decide +kernel,by decide +kernel,rfl,bo⟩ rfl (zXi rfl Z.zip (zC (pv 0) (zC (pv 1) zH))) (λ_=>(zMp rfl (vF (zDh 0 (show(["_law_one", "_law_other"]:List aC).Nodup by decide +kernel)) (vF (zDh 1 (show(["_law_one", "_law_other"]:List aC).Nodup by decide +kernel)) zFd)))) (λ_=>uC) (λ_=>(vE yBu hr_self rfl (zC (pv 0) (zC (pv 1) zH))))) zH))))))))),?_⟩
  nofun
  have kinds:∃(t:af)(bb bi bl bt bs:Bool),TyOf K H x t/\TyOf K H y t/\KT K t bb bi bl bt bs/\((bl=false/\bt=false/\x=y/\((∃ i,x=.int i)\/(∃ b,x=.bl b)\/(∃ z,x=.str z)\/x=.non)) \/
    ∃(m:Nat)(a b:ag)(xs ys:List V)(l:Bool),bl=l/\bt = !l/\n=m+1/\x=.ref a/\y=.ref b/\H a=some (if l then .lst xs else .tup xs)/\H b=some (if l then .lst ys else .tup ys)/\xs.length=ys.length/\xs.length<=1000 /\
     ∀(i:Nat)(u v:V),xs[i]?=some u->ys[i]?=some v->DR H m u v):=by
   have zZc:(x=y/\((∃ i,x=.int i)\/(∃ b,x=.bl b)\/(∃ z,x=.str z)\/x=.non))->∃(t:af)(bb bi bl bt bs:Bool),TyOf K H x t/\TyOf K H y t/\KT K t bb bi bl bt bs/\(bl=false/\bt=false/\x=y/\((∃ i,x=.int i)\/(∃ b,x=.bl b)\/(∃ z,x=.str z)\/x=.non)):=λh=>by
    obtain⟨rfl,h⟩:=h;rcases h with ⟨i,rfl⟩ | ⟨b,rfl⟩ | ⟨z,rfl⟩ | rfl
    ·exact⟨_,_,_,_,_,_,.int i,.int i,⟨rfl,rfl,rfl,rfl,rfl⟩,rfl,rfl,rfl,.inl ⟨i,rfl⟩⟩
    ·exact⟨_,_,_,_,_,_,.bl b,.bl b,⟨rfl,rfl,rfl,rfl,rfl⟩,rfl,rfl,rfl,.inr (.inl ⟨b,rfl⟩)⟩
    ·exact⟨_,_,_,_,_,_,.str z,.str z,⟨rfl,rfl,rfl,rfl,rfl⟩,rfl,rfl,rfl,.inr (.inr (.inl ⟨z,rfl⟩))⟩
    ·exact⟨_,_,_,_,_,_,.non,.non,⟨rfl,rfl,rfl,rfl,rfl⟩,rfl,rfl,rfl,.inr (.inr (.inr rfl))⟩
   cases n with
   | zero =>
    obtain⟨t,bb,bi,bl,bt,bs,h1,h2,h3,h4⟩:=zZc hD;exact⟨t,bb,bi,bl,bt,bs,h1,h2,h3,.inl h4⟩
   | succ m =>
    rcases hD with h | ⟨a,b,xs,ys,l,e1,e2,h1,h2,h3,h4,h5⟩
    ·obtain⟨t,bb,bi,bl,bt,bs,h1,h2,h3,h4⟩:=zZc h;exact⟨t,bb,bi,bl,bt,bs,h1,h2,h3,.inl h4⟩
    ·subst e1 e2;cases l with
     | true=>exact⟨_,_,_,_,_,_,.lst h1,.lst h2,⟨rfl,rfl,rfl,rfl,rfl⟩,.inr ⟨m,a,b,xs,ys,true,rfl,rfl,rfl,rfl,rfl,h1,h2,h3,h4,h5⟩⟩
     | false=>exact⟨_,_,_,_,_,_,.tup h1,.tup h2,⟨rfl,rfl,rfl,rfl,rfl⟩,.inr ⟨m,a,b,xs,ys,false,rfl,rfl,rfl,rfl,rfl,h1,h2,h3,h4,h5⟩⟩
  obtain⟨t,bb,bi,bl,bt,bs,tx,ty,kt,rest⟩:=kinds;exists _,rfl,_, "bool", t,bb,rfl,tx,kt.b,_,rfl,_, "bool", t,bb,rfl,ty,kt.b,rfl,_,rfl;refine ifN (λz=>absurd rfl z) (λ_=>?_);exists _,rfl,_, "int", t,bi,rfl,tx,kt.i,_,rfl,_, "int", t,bi,rfl,ty,kt.i,rfl,_,rfl;refine ifN (λz=>absurd rfl z) (λ_=>?_);exists _,rfl,_, "list", t,bl,rfl,tx,kt.l,_,rfl,_, "list", t,bl,rfl,ty,kt.l,rfl,_,rfl;refine ifN (λz=>absurd rfl z) (λ_=>?_);exists _,rfl,_, "tuple", t,bt,rfl,tx,kt.t,_,rfl,_, "tuple", t,bt,rfl,ty,kt.t,rfl,_,rfl;refine ifN (λz=>absurd rfl z) (λ_=>?_);exists _,rfl,_, "list", t,bl,rfl,ty,kt.l,_,rfl;rcases rest with ⟨rfl,rfl,rfl,hs⟩ | ⟨m,a,b,xs,ys,l,rfl,rfl,rfl,rfl,rfl,ha,hb,hlen,h1000,hel⟩
  ·refine wM ?_;exists _,rfl,_, "tuple", t,false,rfl,ty,kt.t,_,rfl;refine wM ?_;exists _,rfl,_, "str", t,bs,rfl,tx,kt.s,_,rfl,_, "str", t,bs,rfl,ty,kt.s,rfl,_,rfl;rw[decide_eq_true rfl];refine wM ?_;refine⟨_,rfl,_,rfl,?_,?_⟩
   ·rcases hs with ⟨i,rfl⟩ | ⟨b,rfl⟩ | ⟨z,rfl⟩ | rfl <;> rfl
   ·rw[decide_eq_true rfl];exact q H (Same.refl H)
  ·have SA:SqB bl K H a xs:=by
    cases bl
    ·exact SqT.of ha
    ·exact SqL.of ha
   have SB:SqB bl K H b ys:=by
    cases bl
    ·exact SqT.of hb
    ·exact SqL.of hb
   have SA':SqL K H a xs\/SqT K H a xs:=by
    cases bl
    ·exact .inr SA
    ·exact .inl SA
   have SB':SqL K H b ys\/SqT K H b ys:=by
    cases bl
    ·exact .inr SB
    ·exact .inl SB
   have keep:∀(H':Hp),Same H H'->SqB bl K H' a xs/\SqB bl K H' b ys:=λH' e=>by
    cases bl
    ·exact⟨SqT.same SA e,SqT.same SB e⟩
    ·exact⟨e.seq SA,e.seq SB⟩
   cases hbl:bl with
   | true =>
    refine yR ?_;refine yR ?_;exists _,rfl,a,xs,rfl,SA',_,rfl,b,ys,rfl,SB',rfl,_,rfl;rw[decI (by rw[hlen])];refine wM ?_;refine⟨_,rfl,_,rfl,bl,bl,a,b,xs,ys,rfl,SA,SB,λc D hD=>zJ6 (K:=K) (xs:=xs) (ys:=ys) (λi σ zs H'=>Same H H'/\H' D=some (.lst zs)/\zs=(cG i true).map V.bl/\i<=xs.length/\∃ u v,σ=[u,v])
     ⟨zB hD _,zA,rfl,bf _,none,none,rfl⟩ (λi σ zs H' ⟨e,e2,_⟩=>⟨(keep H' e).1,(keep H' e).2,e2⟩) ?_ ?_⟩
    ·rintro i u v T σ zs H' hu hv hT ⟨e,e2,rfl,hi,o1,o2,rfl⟩;have hil:i<xs.length:=(ay.mp hu).1;have s2:=zB hT (.tup [u,v]);refine⟨T,[u,v],rfl,SqT.of zA,rfl,u,[v],rfl,v,[],rfl,rfl,_,rfl,_,rfl,u,v,rfl,(hel i u v hu hv).same (e.trans s2),λH4 s4=>?_⟩;have e4:=s4 _ _ (s2 _ _ e2);refine⟨e4,zT (by rw[ac,cX]; lia),λp o z=>?_,zA,?_,hil,_,_,rfl⟩
     ·rw[zG (zK z hD)];exact s4 _ _ (s2 _ _ (e _ _ z))
     ·rw[jd,aA];rfl
    ·rintro σ zs H' ⟨e,e2,rfl,hi,o1,o2,rfl⟩;exists D,cG (min xs.length ys.length) true,rfl,SqL.of e2;rw[show(cG (min xs.length ys.length) true).all id=true from by simp];exact q _ e
   | false =>
    refine wM ?_;exists _,rfl,_, "tuple", t,true,rfl,ty,kt.t.trans (by rw[hbl]; rfl),_,rfl;refine yR ?_;exists _,rfl,a,xs,rfl,SA',_,rfl,b,ys,rfl,SB',rfl,_,rfl;rw[decI (by rw[hlen])];refine wM ?_;refine⟨_,rfl,_,rfl,bl,bl,a,b,xs,ys,rfl,SA,SB,λc D hD=>zJ6 (K:=K) (xs:=xs) (ys:=ys) (λi σ zs H'=>Same H H'/\H' D=some (.lst zs)/\zs=(cG i true).map V.bl/\i<=xs.length/\∃ u v,σ=[u,v])
     ⟨zB hD _,zA,rfl,bf _,none,none,rfl⟩ (λi σ zs H' ⟨e,e2,_⟩=>⟨(keep H' e).1,(keep H' e).2,e2⟩) ?_ ?_⟩
    ·rintro i u v T σ zs H' hu hv hT ⟨e,e2,rfl,hi,o1,o2,rfl⟩;have hil:i<xs.length:=(ay.mp hu).1;have s2:=zB hT (.tup [u,v]);refine⟨T,[u,v],rfl,SqT.of zA,rfl,u,[v],rfl,v,[],rfl,rfl,_,rfl,_,rfl,u,v,rfl,(hel i u v hu hv).same (e.trans s2),λH4 s4=>?_⟩;have e4:=s4 _ _ (s2 _ _ e2);refine⟨e4,zT (by rw[ac,cX]; lia),λp o z=>?_,zA,?_,hil,_,_,rfl⟩
     ·rw[zG (zK z hD)];exact s4 _ _ (s2 _ _ (e _ _ z))
     ·rw[jd,aA];rfl
    ·rintro σ zs H' ⟨e,e2,rfl,hi,o1,o2,rfl⟩;exists D,cG (min xs.length ys.length) true,rfl,SqL.of e2;rw[show(cG (min xs.length ys.length) true).all id=true from by simp];exact q _ e
theorem zQb(F:Fun K "_law_same" "_law_same" zBy f fd)(Z:Zs mg)(bS:zBl K fd ["_law_told", "_law_due_here"] [])(kS:bO K (.ref f)=true)(mS:mg "_law_same" = some (.ref f)):xJ P w K mg base CX0 6 f fd ["_law_told", "_law_due_here"] (zEq K):=zL7 F Z bS kS mS 6
def zDd(_:ae)(x:ag):Sp:=λvs H Q _=>∃ c:Cl,vs=[.ref x]/\H x=some (zTy x (.ref (axC c)))/\∀ H',Same H H'->Q (.str (zIt c)) H'
theorem zJ9(F:Fun K "_law_refused" "_law_refused" qA f fd)(Z:Zs mg)(CB:Cb P w mg base)  : zSq P w K mg base 1 f fd ["_law_e"] (zDd K):=by
 refine F.okH xD (λx vs H Q E h=>?_) (λx cdv A outer s H vs Q hx hr h=>?_)
 ·obtain⟨c,rfl,_⟩:=h;rfl
 obtain⟨c,rfl,ex,q⟩:=h;have mD:axC c∈excL:=by cases c <;> decide
 refine⟨_,(zD (qN (i:=1) xD.nd rfl (dj rfl) (tE (zC (xV (zC zJ (zC (zQ (yG (B:=base) rfl) rfl Z.isinstance zU (zC (pv 0) (zC (vQ CB.gBadName) zH))) zH))) (zC (xV (zC zJ (zC (zQ (yG (B:=base) rfl) rfl Z.isinstance zU (zC (pv 0) (zC (vQ CB.gTaken) zH))) zH))) (zC (xV (zC zJ (zC (zQ (yG (B:=base) rfl) rfl Z.isinstance zU (zC (pv 0) (zC (vQ CB.gBadPlace) zH))) zH))) zH)))))
   (zD (qN (i:=1) xD.nd rfl (dj rfl) (vN tD (pv 1) (tE (zC (xV (zC zJ (zC (zQ (yG (B:=base) rfl) rfl Z.isinstance zU (zC (pv 0) (zC (vQ CB.gFull) zH))) zH))) (zC (xV (zC zJ (zC (zQ (yG (B:=base) rfl) rfl Z.isinstance zU (zC (pv 0) (zC (vQ CB.gNoMark) zH))) zH))) (zC (xV (zC zJ (zC (zQ (yG (B:=base) rfl) rfl Z.isinstance zU (zC (pv 0) (zC (vQ CB.gSame) zH))) zH))) zH))))))
   (zD (qN (i:=1) xD.nd rfl (dj rfl) (vN tD (pv 1) (tE (zC (xV (zC zJ (zC (zQ (yG (B:=base) rfl) rfl Z.isinstance zU (zC (pv 0) (zC (vQ CB.gNeeded) zH))) zH))) (zC (xV (zC zJ (zC (zQ (yG (B:=base) rfl) rfl Z.isinstance zU (zC (pv 0) (zC (vQ CB.gBadBank) zH))) zH))) zH)))))
   (zD (qN (i:=1) xD.nd rfl (dj rfl) (vN tD (pv 1) (tE (zC (xV (zC zJ (zC (zQ (yG (B:=base) rfl) rfl Z.isinstance zU (zC (pv 0) (zC (vQ CB.gNoBank) zH))) zH))) (zC (xV (zC zJ (zC (zQ (yG (B:=base) rfl) rfl Z.isinstance zU (zC (pv 0) (zC (vQ CB.gBadRun) zH))) zH))) (zC (xV (zC zJ (zC (zQ (yG (B:=base) rfl) rfl Z.isinstance zU (zC (pv 0) (zC (vQ CB.gNoRun) zH))) zH))) zH))))))
   (zD (qN (i:=1) xD.nd rfl (dj rfl) (vN tD (pv 1) (tE (zC (xV (zC zJ (zC (zQ (yG (B:=base) rfl) rfl Z.isinstance zU (zC (pv 0) (zC (vQ CB.gNoMoment) zH))) zH))) (zC (xV (zC zJ (zC (zQ (yG (B:=base) rfl) rfl Z.isinstance zU (zC (pv 0) (zC (vQ CB.gBadWay) zH))) zH))) zH)))))
   (zD (qN (i:=1) xD.nd rfl (dj rfl) (vN tD (pv 1) (tE (zC (xV (zC zJ (zC (zQ (yG (B:=base) rfl) rfl Z.isinstance zU (zC (pv 0) (zC (vQ CB.gBadTurn) zH))) zH))) (zC (xV (zC zJ (zC (zQ (yG (B:=base) rfl) rfl Z.isinstance zU (zC (pv 0) (zC (vQ CB.gNoNote) zH))) zH))) zH)))))
   (zD (qN (i:=1) xD.nd rfl (dj rfl) (vN tD (pv 1) (tE (zC (xV (zC zJ (zC (zQ (yG (B:=base) rfl) rfl Z.isinstance zU (zC (pv 0) (zC (vQ CB.gNothingLeft) zH))) zH))) (zC (xV (zC zJ (zC (zQ (yG (B:=base) rfl) rfl Z.isinstance zU (zC (pv 0) (zC (vQ CB.gBadRow) zH))) zH))) zH)))))
   (zD (qN (i:=1) xD.nd rfl (dj rfl) (vN tD (pv 1) (tE (zC (xV (zC zJ (zC (zU1 (zQ (yG (B:=base) rfl) rfl Z.isinstance zU (zC (pv 0) (zC (zA5 (v:=.ty "ValueError") rfl Z.ValueError zHf rfl) zH)))) zH))) zH))))
   (zF (zP (zVy iE iX iY zP1 zJ (zC (zR0 (T:=["_law_word_here", "_law_is_so"]) (caps:=[]) ⟨rfl,by decide +kernel,by decide +kernel,rfl,bo⟩ hx (zSx x (pv 1)) (λ_=>(zWo hx (vF (zA2 (i:=0) (show(["_law_word_here", "_law_is_so"]:List aC).Nodup by decide +kernel) rfl (dj rfl)) (vF (zA2 (i:=1) (show(["_law_word_here", "_law_is_so"]:List aC).Nodup by decide +kernel) rfl (dj rfl)) zFd)))) (λ_=>(zTj (zAv (pv 1)))) (λ_=>(pv 0))) zH)))))))))))),?_⟩
 try dsimp only[L2.cxOf]
 have R0:zQy H [] []:=zQy.nil;have S0:Same H H:=Same.refl H;refine⟨_,rfl,x,axC c,.ref yM,.ref yM,_,rfl,.inr ⟨_,rfl,rfl⟩,S0 _ _ ex,wF CB.isx mD (by decide),sz2,λt1 h1=>?_⟩;have S1:=S0.trans (zB h1 (.tup [.str "BadName", .bl (axC c == yM)]));have R1:=R0.new (x := "BadName") (b:=axC c == yM) h1;generalize upd H t1 (.tup [.str "BadName", .bl (axC c == yM)])=G1 at S1 R1 ⊢;clear S0 R0 h1;refine⟨_,rfl,x,axC c,.ref xQ,.ref xQ,_,rfl,.inr ⟨_,rfl,rfl⟩,S1 _ _ ex,wF CB.isx mD (by decide),sz2,λt2 h2=>?_⟩;have S2:=S1.trans (zB h2 (.tup [.str "Taken", .bl (axC c == xQ)]));have R2:=R1.new (x := "Taken") (b:=axC c == xQ) h2;generalize upd G1 t2 (.tup [.str "Taken", .bl (axC c == xQ)])=G2 at S2 R2 ⊢;clear S1 R1 h2;refine⟨_,rfl,x,axC c,.ref yJ,.ref yJ,_,rfl,.inr ⟨_,rfl,rfl⟩,S2 _ _ ex,wF CB.isx mD (by decide),sz2,λt3 h3=>?_⟩;have S3:=S2.trans (zB h3 (.tup [.str "BadPlace", .bl (axC c == yJ)]));have R3:=R2.new (x := "BadPlace") (b:=axC c == yJ) h3;generalize upd G2 t3 (.tup [.str "BadPlace", .bl (axC c == yJ)])=G3 at S3 R3 ⊢;clear S2 R2 h3;refine⟨sz3,λl1 hl1=>?_⟩
 replace S3:=S3.trans (zB hl1 (.lst [.ref t1,.ref t2,.ref t3]))
 replace R3:=R3.to (zB hl1 (.lst [.ref t1,.ref t2,.ref t3]))
 have L3:upd G3 l1 (.lst [.ref t1,.ref t2,.ref t3]) l1=some (.lst [.ref t1,.ref t2,.ref t3]):=zA;generalize upd G3 l1 (.lst [.ref t1,.ref t2,.ref t3])=J1 at S3 R3 L3 ⊢;refine⟨_,rfl,_,rfl,x,axC c,.ref wG,.ref wG,_,rfl,.inr ⟨_,rfl,rfl⟩,S3 _ _ ex,wF CB.isx mD (by decide),sz2,λt4 h4=>?_⟩;have S4:=S3.trans (zB h4 (.tup [.str "Full", .bl (axC c == wG)]));have R4:=R3.new (x := "Full") (b:=axC c == wG) h4;have L4:=zB h4 (.tup [.str "Full", .bl (axC c == wG)]) _ _ L3;generalize upd J1 t4 (.tup [.str "Full", .bl (axC c == wG)])=G4 at S4 R4 L4 ⊢;clear S3 R3 h4 L3;refine⟨_,rfl,x,axC c,.ref yV,.ref yV,_,rfl,.inr ⟨_,rfl,rfl⟩,S4 _ _ ex,wF CB.isx mD (by decide),sz2,λt5 h5=>?_⟩;have S5:=S4.trans (zB h5 (.tup [.str "NoMark", .bl (axC c == yV)]));have R5:=R4.new (x := "NoMark") (b:=axC c == yV) h5;have L5:=zB h5 (.tup [.str "NoMark", .bl (axC c == yV)]) _ _ L4;generalize upd G4 t5 (.tup [.str "NoMark", .bl (axC c == yV)])=G5 at S5 R5 L5 ⊢;clear S4 R4 h5 L4;refine⟨_,rfl,x,axC c,.ref wP,.ref wP,_,rfl,.inr ⟨_,rfl,rfl⟩,S5 _ _ ex,wF CB.isx mD (by decide),sz2,λt6 h6=>?_⟩;have S6:=S5.trans (zB h6 (.tup [.str "Same", .bl (axC c == wP)]));have R6:=R5.new (x := "Same") (b:=axC c == wP) h6;have L6:=zB h6 (.tup [.str "Same", .bl (axC c == wP)]) _ _ L5;generalize upd G5 t6 (.tup [.str "Same", .bl (axC c == wP)])=G6 at S6 R6 L6 ⊢;clear S5 R5 h6 L5;refine⟨sz3,λl2 hl2=>?_⟩;refine⟨l1,l2,[.ref t1,.ref t2,.ref t3],[.ref t4,.ref t5,.ref t6],rfl,rfl,zB hl2 _ _ _ L6,zA,sQ (by show 6<=1000; decide),λq2 hq2=>?_⟩;rw[show([.ref t1,.ref t2,.ref t3]++[.ref t4,.ref t5,.ref t6]:List V)=[.ref t1,.ref t2,.ref t3,.ref t4,.ref t5,.ref t6] from rfl]
 replace S6:=(S6.trans (zB hl2 (.lst [.ref t4,.ref t5,.ref t6]))).trans (zB hq2 (.lst [.ref t1,.ref t2,.ref t3,.ref t4,.ref t5,.ref t6]))
 replace R6:=(R6.to (zB hl2 (.lst [.ref t4,.ref t5,.ref t6]))).to (zB hq2 (.lst [.ref t1,.ref t2,.ref t3,.ref t4,.ref t5,.ref t6]))
 replace L6:upd (upd G6 l2 (.lst [.ref t4,.ref t5,.ref t6])) q2 (.lst [.ref t1,.ref t2,.ref t3,.ref t4,.ref t5,.ref t6]) q2=some (.lst [.ref t1,.ref t2,.ref t3,.ref t4,.ref t5,.ref t6]):=zA
 generalize upd (upd G6 l2 (.lst [.ref t4,.ref t5,.ref t6])) q2 (.lst [.ref t1,.ref t2,.ref t3,.ref t4,.ref t5,.ref t6])=J2 at S6 R6 L6 ⊢;refine⟨_,rfl,_,rfl,x,axC c,.ref yU,.ref yU,_,rfl,.inr ⟨_,rfl,rfl⟩,S6 _ _ ex,wF CB.isx mD (by decide),sz2,λt7 h7=>?_⟩;have S7:=S6.trans (zB h7 (.tup [.str "Needed", .bl (axC c == yU)]));have R7:=R6.new (x := "Needed") (b:=axC c == yU) h7;have L7:=zB h7 (.tup [.str "Needed", .bl (axC c == yU)]) _ _ L6;generalize upd J2 t7 (.tup [.str "Needed", .bl (axC c == yU)])=G7 at S7 R7 L7 ⊢;clear S6 R6 h7 L6;refine⟨_,rfl,x,axC c,.ref yP,.ref yP,_,rfl,.inr ⟨_,rfl,rfl⟩,S7 _ _ ex,wF CB.isx mD (by decide),sz2,λt8 h8=>?_⟩;have S8:=S7.trans (zB h8 (.tup [.str "BadBank", .bl (axC c == yP)]));have R8:=R7.new (x := "BadBank") (b:=axC c == yP) h8;have L8:=zB h8 (.tup [.str "BadBank", .bl (axC c == yP)]) _ _ L7;generalize upd G7 t8 (.tup [.str "BadBank", .bl (axC c == yP)])=G8 at S8 R8 L8 ⊢;clear S7 R7 h8 L7;refine⟨sz2,λl3 hl3=>?_⟩;refine⟨q2,l3,[.ref t1,.ref t2,.ref t3,.ref t4,.ref t5,.ref t6],[.ref t7,.ref t8],rfl,rfl,zB hl3 _ _ _ L8,zA,sQ (by show 8<=1000; decide),λq3 hq3=>?_⟩;rw[show([.ref t1,.ref t2,.ref t3,.ref t4,.ref t5,.ref t6]++[.ref t7,.ref t8]:List V)=[.ref t1,.ref t2,.ref t3,.ref t4,.ref t5,.ref t6,.ref t7,.ref t8] from rfl]
 replace S8:=(S8.trans (zB hl3 (.lst [.ref t7,.ref t8]))).trans (zB hq3 (.lst [.ref t1,.ref t2,.ref t3,.ref t4,.ref t5,.ref t6,.ref t7,.ref t8]))
 replace R8:=(R8.to (zB hl3 (.lst [.ref t7,.ref t8]))).to (zB hq3 (.lst [.ref t1,.ref t2,.ref t3,.ref t4,.ref t5,.ref t6,.ref t7,.ref t8]))
 replace L8:upd (upd G8 l3 (.lst [.ref t7,.ref t8])) q3 (.lst [.ref t1,.ref t2,.ref t3,.ref t4,.ref t5,.ref t6,.ref t7,.ref t8]) q3=some (.lst [.ref t1,.ref t2,.ref t3,.ref t4,.ref t5,.ref t6,.ref t7,.ref t8]):=zA
 generalize upd (upd G8 l3 (.lst [.ref t7,.ref t8])) q3 (.lst [.ref t1,.ref t2,.ref t3,.ref t4,.ref t5,.ref t6,.ref t7,.ref t8])=J3 at S8 R8 L8 ⊢;refine⟨_,rfl,_,rfl,x,axC c,.ref xA,.ref xA,_,rfl,.inr ⟨_,rfl,rfl⟩,S8 _ _ ex,wF CB.isx mD (by decide),sz2,λt9 h9=>?_⟩;have S9:=S8.trans (zB h9 (.tup [.str "NoBank", .bl (axC c == xA)]));have R9:=R8.new (x := "NoBank") (b:=axC c == xA) h9;have L9:=zB h9 (.tup [.str "NoBank", .bl (axC c == xA)]) _ _ L8;generalize upd J3 t9 (.tup [.str "NoBank", .bl (axC c == xA)])=G9 at S9 R9 L9 ⊢;clear S8 R8 h9 L8;refine⟨_,rfl,x,axC c,.ref yT,.ref yT,_,rfl,.inr ⟨_,rfl,rfl⟩,S9 _ _ ex,wF CB.isx mD (by decide),sz2,λt10 h10=>?_⟩;have S10:=S9.trans (zB h10 (.tup [.str "BadRun", .bl (axC c == yT)]));have R10:=R9.new (x := "BadRun") (b:=axC c == yT) h10;have L10:=zB h10 (.tup [.str "BadRun", .bl (axC c == yT)]) _ _ L9;generalize upd G9 t10 (.tup [.str "BadRun", .bl (axC c == yT)])=G10 at S10 R10 L10 ⊢;clear S9 R9 h10 L9;refine⟨_,rfl,x,axC c,.ref xR,.ref xR,_,rfl,.inr ⟨_,rfl,rfl⟩,S10 _ _ ex,wF CB.isx mD (by decide),sz2,λt11 h11=>?_⟩;have S11:=S10.trans (zB h11 (.tup [.str "NoRun", .bl (axC c == xR)]));have R11:=R10.new (x := "NoRun") (b:=axC c == xR) h11;have L11:=zB h11 (.tup [.str "NoRun", .bl (axC c == xR)]) _ _ L10;generalize upd G10 t11 (.tup [.str "NoRun", .bl (axC c == xR)])=G11 at S11 R11 L11 ⊢;clear S10 R10 h11 L10;refine⟨sz3,λl4 hl4=>?_⟩;refine⟨q3,l4,[.ref t1,.ref t2,.ref t3,.ref t4,.ref t5,.ref t6,.ref t7,.ref t8],[.ref t9,.ref t10,.ref t11],rfl,rfl,zB hl4 _ _ _ L11,zA,sQ (by show 11<=1000; decide),λq4 hq4=>?_⟩;rw[show([.ref t1,.ref t2,.ref t3,.ref t4,.ref t5,.ref t6,.ref t7,.ref t8]++[.ref t9,.ref t10,.ref t11]:List V)=[.ref t1,.ref t2,.ref t3,.ref t4,.ref t5,.ref t6,.ref t7,.ref t8,.ref t9,.ref t10,.ref t11] from rfl]
 replace S11:=(S11.trans (zB hl4 (.lst [.ref t9,.ref t10,.ref t11]))).trans (zB hq4 (.lst [.ref t1,.ref t2,.ref t3,.ref t4,.ref t5,.ref t6,.ref t7,.ref t8,.ref t9,.ref t10,.ref t11]))
 replace R11:=(R11.to (zB hl4 (.lst [.ref t9,.ref t10,.ref t11]))).to (zB hq4 (.lst [.ref t1,.ref t2,.ref t3,.ref t4,.ref t5,.ref t6,.ref t7,.ref t8,.ref t9,.ref t10,.ref t11]))
 replace L11:upd (upd G11 l4 (.lst [.ref t9,.ref t10,.ref t11])) q4 (.lst [.ref t1,.ref t2,.ref t3,.ref t4,.ref t5,.ref t6,.ref t7,.ref t8,.ref t9,.ref t10,.ref t11]) q4=some (.lst [.ref t1,.ref t2,.ref t3,.ref t4,.ref t5,.ref t6,.ref t7,.ref t8,.ref t9,.ref t10,.ref t11]):=zA
 generalize upd (upd G11 l4 (.lst [.ref t9,.ref t10,.ref t11])) q4 (.lst [.ref t1,.ref t2,.ref t3,.ref t4,.ref t5,.ref t6,.ref t7,.ref t8,.ref t9,.ref t10,.ref t11])=J4 at S11 R11 L11 ⊢;refine⟨_,rfl,_,rfl,x,axC c,.ref yB,.ref yB,_,rfl,.inr ⟨_,rfl,rfl⟩,S11 _ _ ex,wF CB.isx mD (by decide),sz2,λt12 h12=>?_⟩;have S12:=S11.trans (zB h12 (.tup [.str "NoMoment", .bl (axC c == yB)]));have R12:=R11.new (x := "NoMoment") (b:=axC c == yB) h12;have L12:=zB h12 (.tup [.str "NoMoment", .bl (axC c == yB)]) _ _ L11;generalize upd J4 t12 (.tup [.str "NoMoment", .bl (axC c == yB)])=G12 at S12 R12 L12 ⊢;clear S11 R11 h12 L11;refine⟨_,rfl,x,axC c,.ref yQ,.ref yQ,_,rfl,.inr ⟨_,rfl,rfl⟩,S12 _ _ ex,wF CB.isx mD (by decide),sz2,λt13 h13=>?_⟩;have S13:=S12.trans (zB h13 (.tup [.str "BadWay", .bl (axC c == yQ)]));have R13:=R12.new (x := "BadWay") (b:=axC c == yQ) h13;have L13:=zB h13 (.tup [.str "BadWay", .bl (axC c == yQ)]) _ _ L12;generalize upd G12 t13 (.tup [.str "BadWay", .bl (axC c == yQ)])=G13 at S13 R13 L13 ⊢;clear S12 R12 h13 L12;refine⟨sz2,λl5 hl5=>?_⟩;refine⟨q4,l5,[.ref t1,.ref t2,.ref t3,.ref t4,.ref t5,.ref t6,.ref t7,.ref t8,.ref t9,.ref t10,.ref t11],[.ref t12,.ref t13],rfl,rfl,zB hl5 _ _ _ L13,zA,sQ (by show 13<=1000; decide),λq5 hq5=>?_⟩;rw[show([.ref t1,.ref t2,.ref t3,.ref t4,.ref t5,.ref t6,.ref t7,.ref t8,.ref t9,.ref t10,.ref t11]++[.ref t12,.ref t13]:List V)=[.ref t1,.ref t2,.ref t3,.ref t4,.ref t5,.ref t6,.ref t7,.ref t8,.ref t9,.ref t10,.ref t11,.ref t12,.ref t13] from rfl]
 replace S13:=(S13.trans (zB hl5 (.lst [.ref t12,.ref t13]))).trans (zB hq5 (.lst [.ref t1,.ref t2,.ref t3,.ref t4,.ref t5,.ref t6,.ref t7,.ref t8,.ref t9,.ref t10,.ref t11,.ref t12,.ref t13]))
 replace R13:=(R13.to (zB hl5 (.lst [.ref t12,.ref t13]))).to (zB hq5 (.lst [.ref t1,.ref t2,.ref t3,.ref t4,.ref t5,.ref t6,.ref t7,.ref t8,.ref t9,.ref t10,.ref t11,.ref t12,.ref t13]))
 replace L13:upd (upd G13 l5 (.lst [.ref t12,.ref t13])) q5 (.lst [.ref t1,.ref t2,.ref t3,.ref t4,.ref t5,.ref t6,.ref t7,.ref t8,.ref t9,.ref t10,.ref t11,.ref t12,.ref t13]) q5=some (.lst [.ref t1,.ref t2,.ref t3,.ref t4,.ref t5,.ref t6,.ref t7,.ref t8,.ref t9,.ref t10,.ref t11,.ref t12,.ref t13]):=zA
 generalize upd (upd G13 l5 (.lst [.ref t12,.ref t13])) q5 (.lst [.ref t1,.ref t2,.ref t3,.ref t4,.ref t5,.ref t6,.ref t7,.ref t8,.ref t9,.ref t10,.ref t11,.ref t12,.ref t13])=J5 at S13 R13 L13 ⊢;refine⟨_,rfl,_,rfl,x,axC c,.ref yO,.ref yO,_,rfl,.inr ⟨_,rfl,rfl⟩,S13 _ _ ex,wF CB.isx mD (by decide),sz2,λt14 h14=>?_⟩;have S14:=S13.trans (zB h14 (.tup [.str "BadTurn", .bl (axC c == yO)]));have R14:=R13.new (x := "BadTurn") (b:=axC c == yO) h14;have L14:=zB h14 (.tup [.str "BadTurn", .bl (axC c == yO)]) _ _ L13;generalize upd J5 t14 (.tup [.str "BadTurn", .bl (axC c == yO)])=G14 at S14 R14 L14 ⊢;clear S13 R13 h14 L13;refine⟨_,rfl,x,axC c,.ref yZ,.ref yZ,_,rfl,.inr ⟨_,rfl,rfl⟩,S14 _ _ ex,wF CB.isx mD (by decide),sz2,λt15 h15=>?_⟩;have S15:=S14.trans (zB h15 (.tup [.str "NoNote", .bl (axC c == yZ)]));have R15:=R14.new (x := "NoNote") (b:=axC c == yZ) h15;have L15:=zB h15 (.tup [.str "NoNote", .bl (axC c == yZ)]) _ _ L14;generalize upd G14 t15 (.tup [.str "NoNote", .bl (axC c == yZ)])=G15 at S15 R15 L15 ⊢;clear S14 R14 h15 L14;refine⟨sz2,λl6 hl6=>?_⟩;refine⟨q5,l6,[.ref t1,.ref t2,.ref t3,.ref t4,.ref t5,.ref t6,.ref t7,.ref t8,.ref t9,.ref t10,.ref t11,.ref t12,.ref t13],[.ref t14,.ref t15],rfl,rfl,zB hl6 _ _ _ L15,zA,sQ (by show 15<=1000; decide),λq6 hq6=>?_⟩;rw[show([.ref t1,.ref t2,.ref t3,.ref t4,.ref t5,.ref t6,.ref t7,.ref t8,.ref t9,.ref t10,.ref t11,.ref t12,.ref t13]++[.ref t14,.ref t15]:List V)=[.ref t1,.ref t2,.ref t3,.ref t4,.ref t5,.ref t6,.ref t7,.ref t8,.ref t9,.ref t10,.ref t11,.ref t12,.ref t13,.ref t14,.ref t15] from rfl]
 replace S15:=(S15.trans (zB hl6 (.lst [.ref t14,.ref t15]))).trans (zB hq6 (.lst [.ref t1,.ref t2,.ref t3,.ref t4,.ref t5,.ref t6,.ref t7,.ref t8,.ref t9,.ref t10,.ref t11,.ref t12,.ref t13,.ref t14,.ref t15]))
 replace R15:=(R15.to (zB hl6 (.lst [.ref t14,.ref t15]))).to (zB hq6 (.lst [.ref t1,.ref t2,.ref t3,.ref t4,.ref t5,.ref t6,.ref t7,.ref t8,.ref t9,.ref t10,.ref t11,.ref t12,.ref t13,.ref t14,.ref t15]))
 replace L15:upd (upd G15 l6 (.lst [.ref t14,.ref t15])) q6 (.lst [.ref t1,.ref t2,.ref t3,.ref t4,.ref t5,.ref t6,.ref t7,.ref t8,.ref t9,.ref t10,.ref t11,.ref t12,.ref t13,.ref t14,.ref t15]) q6=some (.lst [.ref t1,.ref t2,.ref t3,.ref t4,.ref t5,.ref t6,.ref t7,.ref t8,.ref t9,.ref t10,.ref t11,.ref t12,.ref t13,.ref t14,.ref t15]):=zA
 generalize upd (upd G15 l6 (.lst [.ref t14,.ref t15])) q6 (.lst [.ref t1,.ref t2,.ref t3,.ref t4,.ref t5,.ref t6,.ref t7,.ref t8,.ref t9,.ref t10,.ref t11,.ref t12,.ref t13,.ref t14,.ref t15])=J6 at S15 R15 L15 ⊢;refine⟨_,rfl,_,rfl,x,axC c,.ref yC,.ref yC,_,rfl,.inr ⟨_,rfl,rfl⟩,S15 _ _ ex,wF CB.isx mD (by decide),sz2,λt16 h16=>?_⟩;have S16:=S15.trans (zB h16 (.tup [.str "NothingLeft", .bl (axC c == yC)]));have R16:=R15.new (x := "NothingLeft") (b:=axC c == yC) h16;have L16:=zB h16 (.tup [.str "NothingLeft", .bl (axC c == yC)]) _ _ L15;generalize upd J6 t16 (.tup [.str "NothingLeft", .bl (axC c == yC)])=G16 at S16 R16 L16 ⊢;clear S15 R15 h16 L15;refine⟨_,rfl,x,axC c,.ref xT,.ref xT,_,rfl,.inr ⟨_,rfl,rfl⟩,S16 _ _ ex,wF CB.isx mD (by decide),sz2,λt17 h17=>?_⟩;have S17:=S16.trans (zB h17 (.tup [.str "BadRow", .bl (axC c == xT)]));have R17:=R16.new (x := "BadRow") (b:=axC c == xT) h17;have L17:=zB h17 (.tup [.str "BadRow", .bl (axC c == xT)]) _ _ L16;generalize upd G16 t17 (.tup [.str "BadRow", .bl (axC c == xT)])=G17 at S17 R17 L17 ⊢;clear S16 R16 h17 L16;refine⟨sz2,λl7 hl7=>?_⟩;refine⟨q6,l7,[.ref t1,.ref t2,.ref t3,.ref t4,.ref t5,.ref t6,.ref t7,.ref t8,.ref t9,.ref t10,.ref t11,.ref t12,.ref t13,.ref t14,.ref t15],[.ref t16,.ref t17],rfl,rfl,zB hl7 _ _ _ L17,zA,sQ (by show 17<=1000; decide),λq7 hq7=>?_⟩;rw[show([.ref t1,.ref t2,.ref t3,.ref t4,.ref t5,.ref t6,.ref t7,.ref t8,.ref t9,.ref t10,.ref t11,.ref t12,.ref t13,.ref t14,.ref t15]++[.ref t16,.ref t17]:List V)=[.ref t1,.ref t2,.ref t3,.ref t4,.ref t5,.ref t6,.ref t7,.ref t8,.ref t9,.ref t10,.ref t11,.ref t12,.ref t13,.ref t14,.ref t15,.ref t16,.ref t17] from rfl]
 replace S17:=(S17.trans (zB hl7 (.lst [.ref t16,.ref t17]))).trans (zB hq7 (.lst [.ref t1,.ref t2,.ref t3,.ref t4,.ref t5,.ref t6,.ref t7,.ref t8,.ref t9,.ref t10,.ref t11,.ref t12,.ref t13,.ref t14,.ref t15,.ref t16,.ref t17]))
 replace R17:=(R17.to (zB hl7 (.lst [.ref t16,.ref t17]))).to (zB hq7 (.lst [.ref t1,.ref t2,.ref t3,.ref t4,.ref t5,.ref t6,.ref t7,.ref t8,.ref t9,.ref t10,.ref t11,.ref t12,.ref t13,.ref t14,.ref t15,.ref t16,.ref t17]))
 replace L17:upd (upd G17 l7 (.lst [.ref t16,.ref t17])) q7 (.lst [.ref t1,.ref t2,.ref t3,.ref t4,.ref t5,.ref t6,.ref t7,.ref t8,.ref t9,.ref t10,.ref t11,.ref t12,.ref t13,.ref t14,.ref t15,.ref t16,.ref t17]) q7=some (.lst [.ref t1,.ref t2,.ref t3,.ref t4,.ref t5,.ref t6,.ref t7,.ref t8,.ref t9,.ref t10,.ref t11,.ref t12,.ref t13,.ref t14,.ref t15,.ref t16,.ref t17]):=zA
 generalize upd (upd G17 l7 (.lst [.ref t16,.ref t17])) q7 (.lst [.ref t1,.ref t2,.ref t3,.ref t4,.ref t5,.ref t6,.ref t7,.ref t8,.ref t9,.ref t10,.ref t11,.ref t12,.ref t13,.ref t14,.ref t15,.ref t16,.ref t17])=J7 at S17 R17 L17 ⊢;refine⟨_,rfl,_,rfl,x,axC c,.ty "ValueError", .type "ValueError", true,rfl,.inl ⟨_,rfl,rfl⟩,S17 _ _ ex,zWx CB.isx mD,_,rfl,sz2,λt18 h18=>?_⟩;rw[mG];have S18:=S17.trans (zB h18 (.tup [.str "none", .bl false]));have R18:=R17.new (x := "none") (b:=false) h18;have L18:=zB h18 (.tup [.str "none", .bl false]) _ _ L17;refine⟨sz1,λl8 hl8=>?_⟩;have e8:=zB hl8 (.lst [.ref t18]) _ _ L18
 replace S18:=S18.trans (zB hl8 (.lst [.ref t18]))
 replace R18:=R18.to (zB hl8 (.lst [.ref t18]))
 refine⟨q7,l8,[.ref t1,.ref t2,.ref t3,.ref t4,.ref t5,.ref t6,.ref t7,.ref t8,.ref t9,.ref t10,.ref t11,.ref t12,.ref t13,.ref t14,.ref t15,.ref t16,.ref t17],[.ref t18],rfl,rfl,e8,zA,sQ (by show 18<=1000; decide),λso hso=>?_⟩;rw[show([.ref t1,.ref t2,.ref t3,.ref t4,.ref t5,.ref t6,.ref t7,.ref t8,.ref t9,.ref t10,.ref t11,.ref t12,.ref t13,.ref t14,.ref t15,.ref t16,.ref t17]++[.ref t18]:List V)=[.ref t1,.ref t2,.ref t3,.ref t4,.ref t5,.ref t6,.ref t7,.ref t8,.ref t9,.ref t10,.ref t11,.ref t12,.ref t13,.ref t14,.ref t15,.ref t16,.ref t17,.ref t18] from rfl]
 replace S18:=S18.trans (zB hso (.lst [.ref t1,.ref t2,.ref t3,.ref t4,.ref t5,.ref t6,.ref t7,.ref t8,.ref t9,.ref t10,.ref t11,.ref t12,.ref t13,.ref t14,.ref t15,.ref t16,.ref t17,.ref t18]))
 replace R18:=R18.to (zB hso (.lst [.ref t1,.ref t2,.ref t3,.ref t4,.ref t5,.ref t6,.ref t7,.ref t8,.ref t9,.ref t10,.ref t11,.ref t12,.ref t13,.ref t14,.ref t15,.ref t16,.ref t17,.ref t18]))
 have Lso:upd (upd (upd J7 t18 (.tup [.str "none", .bl false])) l8 (.lst [.ref t18])) so (.lst [.ref t1,.ref t2,.ref t3,.ref t4,.ref t5,.ref t6,.ref t7,.ref t8,.ref t9,.ref t10,.ref t11,.ref t12,.ref t13,.ref t14,.ref t15,.ref t16,.ref t17,.ref t18]) so=some (.lst [.ref t1,.ref t2,.ref t3,.ref t4,.ref t5,.ref t6,.ref t7,.ref t8,.ref t9,.ref t10,.ref t11,.ref t12,.ref t13,.ref t14,.ref t15,.ref t16,.ref t17,.ref t18]):=zA;generalize upd (upd (upd J7 t18 (.tup [.str "none", .bl false])) l8 (.lst [.ref t18])) so (.lst [.ref t1,.ref t2,.ref t3,.ref t4,.ref t5,.ref t6,.ref t7,.ref t8,.ref t9,.ref t10,.ref t11,.ref t12,.ref t13,.ref t14,.ref t15,.ref t16,.ref t17,.ref t18])=G at S18 R18 Lso ⊢;clear L18 e8;have R:zQy G [t1,t2,t3,t4,t5,t6,t7,t8,t9,t10,t11,t12,t13,t14,t15,t16,t17,t18] [("BadName", axC c == yM),("Taken", axC c == xQ),("BadPlace", axC c == yJ),("Full", axC c == wG),("NoMark", axC c == yV),("Same", axC c == wP),("Needed", axC c == yU),("BadBank", axC c == yP),("NoBank", axC c == xA),("BadRun", axC c == yT),("NoRun", axC c == xR),("NoMoment", axC c == yB),("BadWay", axC c == yQ),("BadTurn", axC c == yO),("NoNote", axC c == yZ),("NothingLeft", axC c == yC),("BadRow", axC c == xT),("none", false)]:=R18;have S:Same H G:=S18;have exG:=S _ _ ex;have wd:fG (bH " ") ((([("BadName", axC c == yM),("Taken", axC c == xQ),("BadPlace", axC c == yJ),("Full", axC c == wG),("NoMark", axC c == yV),("Same", axC c == wP),("Needed", axC c == yU),("BadBank", axC c == yP),("NoBank", axC c == xA),("BadRun", axC c == yT),("NoRun", axC c == xR),("NoMoment", axC c == yB),("BadWay", axC c == yQ),("BadTurn", axC c == yO),("NoNote", axC c == yZ),("NothingLeft", axC c == yC),("BadRow", axC c == xT),("none", false)]:List (aC×Bool)).filter (·.2)).map (·.1))=zIt c:=by cases c <;> kernel_rfl
 have l100:zCt (bH " ") ((([("BadName", axC c == yM),("Taken", axC c == xQ),("BadPlace", axC c == yJ),("Full", axC c == wG),("NoMark", axC c == yV),("Same", axC c == wP),("Needed", axC c == yU),("BadBank", axC c == yP),("NoBank", axC c == xA),("BadRun", axC c == yT),("NoRun", axC c == xR),("NoMoment", axC c == yB),("BadWay", axC c == yQ),("BadTurn", axC c == yO),("NoNote", axC c == yZ),("NothingLeft", axC c == yC),("BadRow", axC c == xT),("none", false)]:List (aC×Bool)).filter (·.2)).map (·.1))<=1000:=by cases c <;> decide +kernel
 have Lt:G so=some (.lst (([t1,t2,t3,t4,t5,t6,t7,t8,t9,t10,t11,t12,t13,t14,t15,t16,t17,t18]:List ag).map V.ref)):=Lso;have lt:([t1,t2,t3,t4,t5,t6,t7,t8,t9,t10,t11,t12,t13,t14,t15,t16,t17,t18]:List ag).length<=100:=by show 18<=100; decide
 generalize ([t1,t2,t3,t4,t5,t6,t7,t8,t9,t10,t11,t12,t13,t14,t15,t16,t17,t18]:List ag)=ts at R Lt lt;generalize ([("BadName", axC c == yM),("Taken", axC c == xQ),("BadPlace", axC c == yJ),("Full", axC c == wG),("NoMark", axC c == yV),("Same", axC c == wP),("Needed", axC c == yU),("BadBank", axC c == yP),("NoBank", axC c == xA),("BadRun", axC c == yT),("NoRun", axC c == xR),("NoMoment", axC c == yB),("BadWay", axC c == yQ),("BadTurn", axC c == yO),("NoNote", axC c == yZ),("NothingLeft", axC c == yC),("BadRow", axC c == xT),("none", false)]:List (aC×Bool))=ws at R wd l100;clear Lso;refine⟨rfl,_,rfl,so,rfl,⟨_,SqL.of Lt⟩,λcc D hD=>zNq (K:=K) (a:=so) (x:=x) (xs:=ts.map V.ref) (λi σ ys H'=>Same G H'/\H' D=some (.lst ys)/\ys=((ws.take i).filter (·.2)).map (λw=>V.str w.1)/\i<=ts.length/\∃ u v:Option V,σ=[u,v])
  ⟨zB hD _,zA,rfl,bf _,none,none,rfl⟩ (λi σ ys H' _ hP=>⟨SqL.of (hP.1 _ _ Lt),hP.2.1,⟨_,hP.1 _ _ exG⟩⟩) ?_ ?_⟩
 ·rintro i v σ ys H' gv ⟨sH,eD,rfl,hi,u1,u2,rfl⟩;rw[av,aJ] at gv;obtain⟨t,gt,rfl⟩:=gv;have hit:=(ay.mp gt).1;obtain⟨w,gw⟩:∃ w,ws[i]?=some w:=⟨_,aj (by rw[<- R.len]; exact hit)⟩;have et:=sH _ _ (R.at_ i t w gt gw);exists ⟨_,sH _ _ exG⟩,t,_,rfl,SqT.of et,rfl,.str w.1,_,rfl,.bl w.2,_,rfl,rfl,_,rfl,w.2,rfl;rw[bC,gw];cases hw:w.2 with
  | false=>exact yR ⟨sH,eD,by rw[jH]; simp[hw],hit,_,_,rfl⟩
  | true =>
   refine wM ⟨_,rfl,eD,zT ?_,sH.putNew hD,zA,by rw[jH,aA]; simp[hw],hit,_,_,rfl⟩;rw[ac];refine aO (dJ _ _) ?_;rw[bK];lia
 ·rintro σ ys H' ⟨sH,eD,rfl,_,u1,u2,rfl⟩;rw[ac,R.len,bW] at eD;have e1:(ws.filter (·.2)).map (λw=>V.str w.1)=((ws.filter (·.2)).map (·.1)).map V.str:=by rw[bw]; rfl
  rw[e1] at eD;refine⟨bH " ", D,_,rfl,rfl,SqL.of eD,by show _<=2^24; lia,?_⟩;rw[wd];exact q H' (S.trans sH)
def zGt(_:ae):Sp:=λvs H Q _=>∃(d:ag)(v:V)(S:BS)(D:Deed),vs=[.ref d,v]/\Rep H D.dt v/\zUx H d S/\okD S D/\Few S/\zSm S /\
 ∀(d':ag)(H':Hp),Same H H'->H d'=none->LwN H H' d' (aft S D)->Q (.ref d') H'
theorem zNu(F:Fun K "_law_after" "_law_after" zB6 f fd)(Z:Zs mg)(CB:Cb P w mg base)  : xJ P w K mg base CX0 1 f fd ["_law_m", "_law_deed"] (zGt K):=by
 specialize zGf
 ·obtain⟨d,v,S,D,rfl,_⟩:=h;rfl
 obtain⟨d,v,S,D,rfl,rep,⟨m,b,r,n,lw⟩,ok,few,fr,q⟩:=h;obtain⟨mk,hm,km⟩:=lw.ma;obtain⟨bk,hb,kb⟩:=lw.ba;obtain⟨rs,hr1,kr⟩:=lw.ru;obtain⟨nk,hn,kn⟩:=lw.no;have lm:mk.length=S.marks.length:=by rw[km.length,zA3]
 have ln:nk.length=S.notes.length:=by rw[kn.length,zO1]
 have lr:rs.length=S.runs.length:=by rw[kr.length,ac]
 have fm:=few.ma;have fr':=few.ru;have fn:=few.no;have fb:=few.ba;have lb:bk.length=S.banks.length:=by rw[kb.length,zHu]
 have dg:∀{H':Hp}{k:aC}{x:V},Same H H'->wT (lwK m b r n S.coming) (.inr k)=some x->zR8 H' d (.str k) (some x):=λ{H' k x} s e=>.inl ⟨_,.inr k,Rd.same lw.at_ s,rfl,e.symm⟩
 refine'⟨_,(zD (yN 2 zGf.nd (zKu (wO zJ (wR rF rfl Z.dict zA8 (zC (zN (zV hr) (pv 0) zJ (λ_ _=>rfl)) zH)) (wO zJ (wR rF rfl Z.dict zA8 (zC (zN (zV hr) (pv 0) zJ (λ_ _=>rfl)) zH)) (wO zJ (wR zDe rfl Z.list zCs (zC (zN (zV hr) (pv 0) zJ (λ_ _=>rfl)) zH)) zKr))) rfl rfl (λz=>nomatch z) (by decide)))
   (zD (rA (zV hr) (pv 2) zJ (wR rF rfl Z.dict zA8 (zC (zN (zV hr) (pv 0) zJ (λ_ _=>rfl)) zH)) rfl)
   (zD (rA (zV hr) (pv 2) zJ (zN (zV hr) (pv 0) zJ (λ_ _=>rfl)) rfl)
   (zD (yH (yK rL ?_ ?_ (by with_unfolding_all rfl)) (zF (rA (zV hr) (zN (zV hr) (pv 2) zJ (λ_ _=>rfl)) ?_ (uL zC8 (pv 1) (vY yW) uZ) rfl)) (zF (yH ?_ (zF (zX (zEb (zN (zV hr) (pv 2) zJ (λ_ _=>rfl)) ?_ ⟨rfl,rfl,rfl,rfl⟩))) (zF (yH ?_ (zF (rA (zV hr) (zN (zV hr) (pv 2) zJ (λ_ _=>rfl)) ?_ ?_ rfl)) (zF (yH ?_ (zF (zX (zEb (zN (zV hr) (pv 2) zJ (λ_ _=>rfl)) ?_ ⟨rfl,rfl,rfl,rfl⟩))) (zF (yH ?_ (zF (zX (zF7 (zN (zV hr) (pv 2) zJ (λ_ _=>rfl)) (zC (uL zC8 (pv 1) (vY yW) uZ) zH)))) (zF (yH ?_ (zF (zYu (uL zC8 (pv 1) (vY yW) uZ) (zYc (zN (zV hr) (pv 2) zJ (λ_ _=>rfl)) ?_ zRv))) (zF (yH ?_ (zF (zX (zEb (zN (zV hr) (pv 2) zJ (λ_ _=>rfl)) ?_ ⟨rfl,rfl,rfl,rfl⟩))) (zD (rA (zV hr) (zN (zV hr) (pv 2) zJ (λ_ _=>rfl)) (zN (zV hr) (pv 0) zJ (λ_ _=>rfl)) (pv 1) rfl)
   (zF (rA (zV hr) (pv 2) zJ (vN zQf (zN (zV hr) (pv 0) zJ (λ_ _=>rfl)) yW) rfl))))))))))))))))
   (zF (zP (pv 2))))))),?_⟩
 nofun
 intro p hp;have s1:=zB hp (.dK []);refine⟨_,rfl,d,.ref m,rfl,dg s1 wJ,m,mk,rfl,Rd.same hm s1,λmc hmc=>?_⟩;have s2:=s1.trans (zB hmc (.dK mk));refine⟨_,rfl,d,.ref b,rfl,dg s2 rX,b,bk,rfl,Rd.same hb s2,λbc hbc=>?_⟩;have s3:=s2.trans (zB hbc (.dK bk));refine⟨_,rfl,d,.ref r,rfl,dg s3 zA6,r,rs,rfl,.inl (SqL.of (s3 _ _ hr1)),λrc hrc=>?_⟩;have s4:=s3.trans (zB hrc (.lst rs));have ep1:upd H p (.dK []) p=some (.dK []):=zA;have npm:p≠mc:=zK ep1 hmc;have ep2:=(zB hmc (.dK mk)) _ _ ep1;have em2:upd (upd H p (.dK [])) mc (.dK mk) mc=some (.dK mk):=zA;have npb:p≠bc:=zK ep2 hbc;have nmb:mc≠bc:=zK em2 hbc;have ep3:=(zB hbc (.dK bk)) _ _ ep2;have em3:=(zB hbc (.dK bk)) _ _ em2;have eb3:upd (upd (upd H p (.dK [])) mc (.dK mk)) bc (.dK bk) bc=some (.dK bk):=zA;have npr:p≠rc:=zK ep3 hrc;have nmr:mc≠rc:=zK em3 hrc;have nbr:bc≠rc:=zK eb3 hrc;have ep4:=(zB hrc (.lst rs)) _ _ ep3;have em4:=(zB hrc (.lst rs)) _ _ em3;have eb4:=(zB hrc (.lst rs)) _ _ eb3;have er4:upd (upd (upd (upd H p (.dK [])) mc (.dK mk)) bc (.dK bk)) rc (.lst rs) rc=some (.lst rs):=zA;generalize upd (upd (upd (upd H p (.dK [])) mc (.dK mk)) bc (.dK bk)) rc (.lst rs)=H4 at s4 ep4 em4 eb4 er4;exists ep4,[(.inr "marks", .ref mc),(.inr "banks", .ref bc),(.inr "runs", .ref rc)],rfl,(show 3<=15 by decide);rw[zRl];have s5:Same H (upd H4 p (.dK [(.inr "marks", .ref mc),(.inr "banks", .ref bc),(.inr "runs", .ref rc)])):=λx o e=>by rw[zG (zK e hp)]; exact s4 x o e
 refine⟨_,rfl,d,.ref n,rfl,dg s5 tI,n,nk,rfl,Rd.same hn s5,λnc hnc=>?_⟩;have npn:p≠nc:=zK zA hnc;have hnc4:H4 nc=none:=by rw[zG npn.symm] at hnc; exact hnc
 have nmn:mc≠nc:=zK em4 hnc4;have nbn:bc≠nc:=zK eb4 hnc4;have nrn:rc≠nc:=zK er4 hnc4;have s6:=s5.trans (zB hnc (.dK nk));exists _,rfl,p,_,rfl,zKh.k (k:=.inr "notes") (by rw[zG npn,zA]) (zT (by show 3<=1000; decide));rw[zVb];have s7:Same H (upd (upd (upd H4 p (.dK [(.inr "marks", .ref mc),(.inr "banks", .ref bc),(.inr "runs", .ref rc)])) nc (.dK nk)) p (.dK [(.inr "marks", .ref mc),(.inr "banks", .ref bc),(.inr "runs", .ref rc),(.inr "notes", .ref nc)])):=λx o e=>by rw[zG (zK e hp)]; exact s6 x o e
 exists _,rfl,d,.int S.coming,rfl,dg s7 qS,_,rfl,p,_,rfl,zKh.k (k:=.inr "next") zA (zT (by show 4<=1000; decide));rw[zVt];have keep:∀ x o,x≠p->x≠nc->H4 x=some o->upd (upd (upd (upd H4 p (.dK [(.inr "marks", .ref mc),(.inr "banks", .ref bc),(.inr "runs", .ref rc)])) nc (.dK nk)) p (.dK [(.inr "marks", .ref mc),(.inr "banks", .ref bc),(.inr "runs", .ref rc),(.inr "notes", .ref nc)])) p (.dK [(.inr "marks", .ref mc),(.inr "banks", .ref bc),(.inr "runs", .ref rc),(.inr "notes", .ref nc),(.inr "next", .int S.coming)]) x=some o:=λx o h1 h2 e=>by
  rw[zG h1,zG h1,zG h2,zG h1]; exact e
 have em:=keep _ _ npm.symm nmn em4;have eb:=keep _ _ npb.symm nbn eb4;have er:=keep _ _ npr.symm nrn er4;have s8:Same H _:=λx o e=>keep x o (zK e hp) (zK (s5 _ _ e) hnc) (s4 _ _ e);have en:upd (upd (upd (upd H4 p (.dK [(.inr "marks", .ref mc),(.inr "banks", .ref bc),(.inr "runs", .ref rc)])) nc (.dK nk)) p (.dK [(.inr "marks", .ref mc),(.inr "banks", .ref bc),(.inr "runs", .ref rc),(.inr "notes", .ref nc)])) p (.dK [(.inr "marks", .ref mc),(.inr "banks", .ref bc),(.inr "runs", .ref rc),(.inr "notes", .ref nc),(.inr "next", .int S.coming)]) nc=some (.dK nk):=by rw[zG npn.symm,zG npn.symm,zA]
 have ep:upd (upd (upd (upd H4 p (.dK [(.inr "marks", .ref mc),(.inr "banks", .ref bc),(.inr "runs", .ref rc)])) nc (.dK nk)) p (.dK [(.inr "marks", .ref mc),(.inr "banks", .ref bc),(.inr "runs", .ref rc),(.inr "notes", .ref nc)])) p (.dK [(.inr "marks", .ref mc),(.inr "banks", .ref bc),(.inr "runs", .ref rc),(.inr "notes", .ref nc),(.inr "next", .int S.coming)]) p=some (.dK [(.inr "marks", .ref mc),(.inr "banks", .ref bc),(.inr "runs", .ref rc),(.inr "notes", .ref nc),(.inr "next", .int S.coming)]):=zA;clear keep s7 s6;generalize upd (upd (upd (upd H4 p (.dK [(.inr "marks", .ref mc),(.inr "banks", .ref bc),(.inr "runs", .ref rc)])) nc (.dK nk)) p (.dK [(.inr "marks", .ref mc),(.inr "banks", .ref bc),(.inr "runs", .ref rc),(.inr "notes", .ref nc)])) p (.dK [(.inr "marks", .ref mc),(.inr "banks", .ref bc),(.inr "runs", .ref rc),(.inr "notes", .ref nc),(.inr "next", .int S.coming)])=H8 at s8 ep em eb er en ⊢;have ep:H8 p=some (.dK (lwK mc bc rc nc S.coming)):=ep;have km8:=km.to (.of s8);have kb8:=kb.to (.of s8);have kr8:=kr.to (.of s8);have kn8:=kn.to (.of s8);have rep8:=rep.to (.of s8);have nmH:H mc=none:=s1.free hmc;have nrH:H rc=none:=s3.free hrc;have nbH:H bc=none:=s2.free hbc;have nnH:H nc=none:=s5.free hnc
 match D,rep8,ok,q with
 | .mark nm x y,rep8,ok,q =>
  obtain⟨t,rfl,ht⟩:=zCl rep8;refine⟨_,rfl,t,_,0,.str "mark", rfl,rfl,.inr (SqT.of ht),rfl,sz2,λz hz=>?_⟩;have sz:=zB hz (.tup [.str "mark", .str "move"]);exists z,_,rfl,.inr (SqT.of zA),rfl,rfl,_,rfl;have s9:=s8.trans sz;have ep9:=sz _ _ ep;have em9:=sz _ _ em;have eb9:=sz _ _ eb;have er9:=sz _ _ er;have en9:=sz _ _ en;have ht9:=sz _ _ ht;have km9:=km8.to (.of sz);have kb9:=kb8.to (.of sz);have kr9:=kr8.to (.of sz);have kn9:=kn8.to (.of sz);have rep9:=rep8.to (.of sz);generalize upd H8 z (.tup [.str "mark", .str "move"])=H9 at s9 ep9 em9 eb9 er9 en9 ht9 km9 kb9 kr9 kn9 rep9 ⊢;have tq:Sq K H9 t _:=.inr (SqT.of ht9);refine wM ?_;refine⟨_,rfl,_,rfl,t,_,rfl,SqT.of ht9,(λz=>absurd z.1 (by show ¬ HT.sIx 4 0 (some 2)=0; decide)),λc hc=>?_⟩;have sc:=zB hc (.tup [.int x,.int y]);have em10:=sc _ _ em9;exists _,rfl,p,.ref mc,rfl,.inl ⟨_,.inr "marks", .inl (sc _ _ ep9),rfl,wJ.symm⟩,_,rfl,t,_,1,.str nm,rfl,rfl,.inr (SqT.of (sc _ _ ht9)),rfl,mc,_,rfl,zKh.k (k:=.inr nm) em10 (zT (by lia)),_,rfl;have sE:=uB (o:=.dK (sY mk (.inr nm) (.ref c))) em10;have np:=zF6 em10;refine q p _ (λx o e=>by rw[zG (zK e nmH)]; exact sc _ _ (s9 _ _ e)) hp ⟨mc,bc,rc,nc,nrH,.inl ?_,⟨_,.inl zA,?_⟩,⟨bk,.inl ?_,(kb9.to (.of sc)).sam sE np⟩,⟨rs,?_,(kr9.to (.of sc)).sam sE np⟩,⟨nk,.inl ?_,(kn9.to (.of sc)).sam sE np⟩⟩
  ·rw[zG npm]; exact sc _ _ ep9
  ·have:=((km9.to (.of sc)).put (k:=.inr nm) (wD (p:=(x,y)) zA)).sam sE np;rw[sX (zMe ok.2.1)] at this;show xW _ _ (mkE (S.marks++[(nm,x,y)]));rw[zQx];exact this
  ·rw[zG nmb.symm]; exact sc _ _ eb9
  ·rw[zG nmr.symm]; exact sc _ _ er9
  ·rw[zG nmn.symm]; exact sc _ _ en9
 | .move nm x y,rep8,ok,q =>
  obtain⟨t,rfl,ht⟩:=zHm rep8;refine⟨_,rfl,t,_,0,.str "move", rfl,rfl,.inr (SqT.of ht),rfl,sz2,λz hz=>?_⟩;have sz:=zB hz (.tup [.str "mark", .str "move"]);exists z,_,rfl,.inr (SqT.of zA),rfl,rfl,_,rfl;have s9:=s8.trans sz;have ep9:=sz _ _ ep;have em9:=sz _ _ em;have eb9:=sz _ _ eb;have er9:=sz _ _ er;have en9:=sz _ _ en;have ht9:=sz _ _ ht;have km9:=km8.to (.of sz);have kb9:=kb8.to (.of sz);have kr9:=kr8.to (.of sz);have kn9:=kn8.to (.of sz);have rep9:=rep8.to (.of sz);generalize upd H8 z (.tup [.str "mark", .str "move"])=H9 at s9 ep9 em9 eb9 er9 en9 ht9 km9 kb9 kr9 kn9 rep9 ⊢;have tq:Sq K H9 t _:=.inr (SqT.of ht9);refine wM ?_;refine⟨_,rfl,_,rfl,t,_,rfl,SqT.of ht9,(λz=>absurd z.1 (by show ¬ HT.sIx 4 0 (some 2)=0; decide)),λc hc=>?_⟩;have sc:=zB hc (.tup [.int x,.int y]);have em10:=sc _ _ em9;exists _,rfl,p,.ref mc,rfl,.inl ⟨_,.inr "marks", .inl (sc _ _ ep9),rfl,wJ.symm⟩,_,rfl,t,_,1,.str nm,rfl,rfl,.inr (SqT.of (sc _ _ ht9)),rfl,mc,_,rfl,zKh.k (k:=.inr nm) em10 (zT (by lia)),_,rfl;have sE:=uB (o:=.dK (sY mk (.inr nm) (.ref c))) em10;have np:=zF6 em10;refine q p _ (λx o e=>by rw[zG (zK e nmH)]; exact sc _ _ (s9 _ _ e)) hp ⟨mc,bc,rc,nc,nrH,.inl ?_,⟨_,.inl zA,?_⟩,⟨bk,.inl ?_,(kb9.to (.of sc)).sam sE np⟩,⟨rs,?_,(kr9.to (.of sc)).sam sE np⟩,⟨nk,.inl ?_,(kn9.to (.of sc)).sam sE np⟩⟩
  ·rw[zG npm]; exact sc _ _ ep9
  ·have:=((km9.to (.of sc)).put (k:=.inr nm) (wD (p:=(x,y)) zA)).sam sE np;rw[zQa ok.1] at this;exact this
  ·rw[zG nmb.symm]; exact sc _ _ eb9
  ·rw[zG nmr.symm]; exact sc _ _ er9
  ·rw[zG nmn.symm]; exact sc _ _ en9
 | .unmark nm,rep8,ok,q =>
  obtain⟨t,rfl,ht⟩:=rJ rep8;refine⟨_,rfl,t,_,0,.str "unmark", rfl,rfl,.inr (SqT.of ht),rfl,sz2,λz hz=>?_⟩;have sz:=zB hz (.tup [.str "mark", .str "move"]);exists z,_,rfl,.inr (SqT.of zA),rfl,rfl,_,rfl;have s9:=s8.trans sz;have ep9:=sz _ _ ep;have em9:=sz _ _ em;have eb9:=sz _ _ eb;have er9:=sz _ _ er;have en9:=sz _ _ en;have ht9:=sz _ _ ht;have km9:=km8.to (.of sz);have kb9:=kb8.to (.of sz);have kr9:=kr8.to (.of sz);have kn9:=kn8.to (.of sz);have rep9:=rep8.to (.of sz);generalize upd H8 z (.tup [.str "mark", .str "move"])=H9 at s9 ep9 em9 eb9 er9 en9 ht9 km9 kb9 kr9 kn9 rep9 ⊢;have tq:Sq K H9 t _:=.inr (SqT.of ht9);refine yR ?_;exists _,rfl,t,_,0,.str "unmark", rfl,rfl,tq,rfl,rfl,_,rfl;refine wM ?_;obtain⟨pm,epm⟩:=aP.mp ok.1;obtain⟨v,ev,_⟩:=km9.get (k:=.inr nm) (d:=ptD pm) (by rw[uS,epm]; rfl);exists _,rfl,p,.ref mc,rfl,.inl ⟨_,.inr "marks", .inl ep9,rfl,wJ.symm⟩,mc,rfl,.inl ⟨mk,.inl em9⟩,_,rfl,t,_,1,.str nm,rfl,rfl,tq,rfl,mk,.inr nm,v,em9,rfl,ev,_,rfl;have sE:=uB (o:=.dK (zDk mk (.inr nm))) em9;have np:=zF6 em9;refine q p _ (λx o e=>by rw[zG (zK e nmH)]; exact s9 _ _ e) hp ⟨mc,bc,rc,nc,nrH,.inl ?_,⟨_,.inl zA,?_⟩,⟨bk,.inl ?_,kb9.sam sE np⟩,⟨rs,?_,kr9.sam sE np⟩,⟨nk,.inl ?_,kn9.sam sE np⟩⟩
  ·rw[zG npm]; exact ep9
  ·have:=(km9.drop (k:=.inr nm)).sam sE np;rw[zMo] at this;exact this
  ·rw[zG nmb.symm]; exact eb9
  ·rw[zG nmr.symm]; exact er9
  ·rw[zG nmn.symm]; exact en9
 | .bank nm cs,rep8,ok,q =>
  obtain⟨t,cc,ps,rfl,ht,hcc,cn,rc0⟩:=zA9 rep8;refine⟨_,rfl,t,_,0,.str "bank", rfl,rfl,.inr (SqT.of ht),rfl,sz2,λz hz=>?_⟩;have sz:=zB hz (.tup [.str "mark", .str "move"]);exists z,_,rfl,.inr (SqT.of zA),rfl,rfl,_,rfl;have s9:=s8.trans sz;have ep9:=sz _ _ ep;have em9:=sz _ _ em;have eb9:=sz _ _ eb;have er9:=sz _ _ er;have en9:=sz _ _ en;have ht9:=sz _ _ ht;have km9:=km8.to (.of sz);have kb9:=kb8.to (.of sz);have kr9:=kr8.to (.of sz);have kn9:=kn8.to (.of sz);have rep9:=rep8.to (.of sz);generalize upd H8 z (.tup [.str "mark", .str "move"])=H9 at s9 ep9 em9 eb9 er9 en9 ht9 km9 kb9 kr9 kn9 rep9 ⊢;have tq:Sq K H9 t _:=.inr (SqT.of ht9);refine yR ?_;exists _,rfl,t,_,0,.str "bank", rfl,rfl,tq,rfl,rfl,_,rfl;refine yR ?_;exists _,rfl,t,_,0,.str "bank", rfl,rfl,tq,rfl,rfl,_,rfl;refine wM ?_;obtain⟨_,_,_,e0,h0,_,_,rc9⟩:=zA9 rep9;cases e0;rw[ht9] at h0;cases h0;exists _,rfl,t,_,2,.ref cc,rfl,rfl,tq,rfl,_,rfl,p,.ref bc,rfl,.inl ⟨_,.inr "banks", .inl ep9,rfl,rX.symm⟩,_,rfl,t,_,1,.str nm,rfl,rfl,tq,rfl,bc,_,rfl,zKh.k (k:=.inr nm) eb9 (zT (by lia)),_,rfl;have sE:=uB (o:=.dK (sY bk (.inr nm) (.ref cc))) eb9;have np:=zF6 eb9;refine q p _ (λx o e=>by rw[zG (zK e nbH)]; exact s9 _ _ e) hp ⟨mc,bc,rc,nc,nrH,.inl ?_,⟨mk,.inl ?_,km9.sam sE np⟩,⟨_,.inl zA,?_⟩,⟨rs,?_,kr9.sam sE np⟩,⟨nk,.inl ?_,kn9.sam sE np⟩⟩
  ·rw[zG npb]; exact ep9
  ·rw[zG nmb]; exact em9
  ·have:=(kb9.put (k:=.inr nm) rc9).sam sE np;rw[sX (zG4 ok.2.1)] at this;show xW _ _ (bkE (S.banks++[(nm,cs)]));rw[zQg];exact this
  ·rw[zG nbr.symm]; exact er9
  ·rw[zG nbn.symm]; exact en9
 | .level nm,rep8,ok,q =>
  obtain⟨t,rfl,ht⟩:=zAf rep8;refine⟨_,rfl,t,_,0,.str "level", rfl,rfl,.inr (SqT.of ht),rfl,sz2,λz hz=>?_⟩;have sz:=zB hz (.tup [.str "mark", .str "move"]);exists z,_,rfl,.inr (SqT.of zA),rfl,rfl,_,rfl;have s9:=s8.trans sz;have ep9:=sz _ _ ep;have em9:=sz _ _ em;have eb9:=sz _ _ eb;have er9:=sz _ _ er;have en9:=sz _ _ en;have ht9:=sz _ _ ht;have km9:=km8.to (.of sz);have kb9:=kb8.to (.of sz);have kr9:=kr8.to (.of sz);have kn9:=kn8.to (.of sz);have rep9:=rep8.to (.of sz);generalize upd H8 z (.tup [.str "mark", .str "move"])=H9 at s9 ep9 em9 eb9 er9 en9 ht9 km9 kb9 kr9 kn9 rep9 ⊢;have tq:Sq K H9 t _:=.inr (SqT.of ht9);refine yR ?_;exists _,rfl,t,_,0,.str "level", rfl,rfl,tq,rfl,rfl,_,rfl;refine yR ?_;exists _,rfl,t,_,0,.str "level", rfl,rfl,tq,rfl,rfl,_,rfl;refine yR ?_;exists _,rfl,t,_,0,.str "level", rfl,rfl,tq,rfl,rfl,_,rfl;refine wM ?_;obtain⟨dv,lk⟩:=zUt (l:=S.banks) ok;obtain⟨v,ev,_⟩:=kb9.get lk;exists _,rfl,p,.ref bc,rfl,.inl ⟨_,.inr "banks", .inl ep9,rfl,rX.symm⟩,bc,rfl,.inl ⟨bk,.inl eb9⟩,_,rfl,t,_,1,.str nm,rfl,rfl,tq,rfl,bk,.inr nm,v,eb9,rfl,ev,_,rfl;have sE:=uB (o:=.dK (zDk bk (.inr nm))) eb9;have np:=zF6 eb9;refine q p _ (λx o e=>by rw[zG (zK e nbH)]; exact s9 _ _ e) hp ⟨mc,bc,rc,nc,nrH,.inl ?_,⟨mk,.inl ?_,km9.sam sE np⟩,⟨_,.inl zA,?_⟩,⟨rs,?_,kr9.sam sE np⟩,⟨nk,.inl ?_,kn9.sam sE np⟩⟩
  ·rw[zG npb]; exact ep9
  ·rw[zG nmb]; exact em9
  ·have:=(kb9.drop (k:=.inr nm)).sam sE np;rw[zL9] at this;exact this
  ·rw[zG nbr.symm]; exact er9
  ·rw[zG nbn.symm]; exact en9
 | .right k x y,rep8,ok,q =>
  obtain⟨t,rfl,ht⟩:=zD9 rep8;refine⟨_,rfl,t,_,0,.str "right", rfl,rfl,.inr (SqT.of ht),rfl,sz2,λz hz=>?_⟩;have sz:=zB hz (.tup [.str "mark", .str "move"]);exists z,_,rfl,.inr (SqT.of zA),rfl,rfl,_,rfl;have s9:=s8.trans sz;have ep9:=sz _ _ ep;have em9:=sz _ _ em;have eb9:=sz _ _ eb;have er9:=sz _ _ er;have en9:=sz _ _ en;have ht9:=sz _ _ ht;have km9:=km8.to (.of sz);have kb9:=kb8.to (.of sz);have kr9:=kr8.to (.of sz);have kn9:=kn8.to (.of sz);have rep9:=rep8.to (.of sz);generalize upd H8 z (.tup [.str "mark", .str "move"])=H9 at s9 ep9 em9 eb9 er9 en9 ht9 km9 kb9 kr9 kn9 rep9 ⊢;have tq:Sq K H9 t _:=.inr (SqT.of ht9);refine yR ?_;exists _,rfl,t,_,0,.str "right", rfl,rfl,tq,rfl,rfl,_,rfl;refine yR ?_;exists _,rfl,t,_,0,.str "right", rfl,rfl,tq,rfl,rfl,_,rfl;refine yR ?_;exists _,rfl,t,_,0,.str "right", rfl,rfl,tq,rfl,rfl,_,rfl;refine yR ?_;exists _,rfl,t,_,0,.str "right", rfl,rfl,tq,rfl,rfl,_,rfl;refine yR ?_;exists _,rfl,t,_,0,.str "right", rfl,rfl,tq,rfl,rfl,_,rfl;refine wM ?_;refine⟨_,rfl,_,rfl,t,_,rfl,SqT.of ht9,(λz=>absurd z.1 (by show ¬ HT.sIx 4 0 (some 2)=0; decide)),λc hc=>?_⟩;have sc:=zB hc (.tup [.int x,.int y]);have er10:=sc _ _ er9;obtain⟨i,rfl⟩:=dq ok.1;have hi:i<S.runs.length:=by have:=ok.2.1; lia
  exists _,rfl,p,.ref rc,rfl,.inl ⟨_,.inr "runs", .inl (sc _ _ ep9),rfl,zA6.symm⟩,_,rfl,t,_,1,.int (i:Int),rfl,rfl,.inr (SqT.of (sc _ _ ht9)),rfl,rc,rs,(i:Int),i,rfl,rfl,er10,zY8 (by rw[lr]; exact hi),_,rfl;have sE:=uB (o:=.lst (rs.set i (.ref c))) er10;have np:=zC3 er10;refine q p _ (λx o e=>by rw[zG (zK e nrH)]; exact sc _ _ (s9 _ _ e)) hp ⟨mc,bc,rc,nc,nrH,.inl ?_,⟨mk,.inl ?_,(km9.to (.of sc)).sam sE np⟩,⟨bk,.inl ?_,(kb9.to (.of sc)).sam sE np⟩,⟨_,zA,?_⟩,⟨nk,.inl ?_,(kn9.to (.of sc)).sam sE np⟩⟩
  ·rw[zG npr]; exact sc _ _ ep9
  ·rw[zG nmr]; exact sc _ _ em9
  ·rw[zG nbr]; exact sc _ _ eb9
  ·show xX _ ((S.runs.set i (x,y)).map ptD) _;rw[List.map_set];exact(xX.set (wD (p:=(x,y)) zA) i (kr9.to (.of sc))).sam sE np
  ·rw[zG nrn.symm]; exact sc _ _ en9
 | .sail x y,rep8,ok,q =>
  obtain⟨t,rfl,ht⟩:=zCx rep8;refine⟨_,rfl,t,_,0,.str "sail", rfl,rfl,.inr (SqT.of ht),rfl,sz2,λz hz=>?_⟩;have sz:=zB hz (.tup [.str "mark", .str "move"]);exists z,_,rfl,.inr (SqT.of zA),rfl,rfl,_,rfl;have s9:=s8.trans sz;have ep9:=sz _ _ ep;have em9:=sz _ _ em;have eb9:=sz _ _ eb;have er9:=sz _ _ er;have en9:=sz _ _ en;have ht9:=sz _ _ ht;have km9:=km8.to (.of sz);have kb9:=kb8.to (.of sz);have kr9:=kr8.to (.of sz);have kn9:=kn8.to (.of sz);have rep9:=rep8.to (.of sz);generalize upd H8 z (.tup [.str "mark", .str "move"])=H9 at s9 ep9 em9 eb9 er9 en9 ht9 km9 kb9 kr9 kn9 rep9 ⊢;have tq:Sq K H9 t _:=.inr (SqT.of ht9);refine yR ?_;exists _,rfl,t,_,0,.str "sail", rfl,rfl,tq,rfl,rfl,_,rfl;refine yR ?_;exists _,rfl,t,_,0,.str "sail", rfl,rfl,tq,rfl,rfl,_,rfl;refine yR ?_;exists _,rfl,t,_,0,.str "sail", rfl,rfl,tq,rfl,rfl,_,rfl;refine yR ?_;exists _,rfl,t,_,0,.str "sail", rfl,rfl,tq,rfl,rfl,_,rfl;refine wM ?_;refine⟨_,rfl,p,.ref rc,rfl,.inl ⟨_,.inr "runs", .inl ep9,rfl,zA6.symm⟩,.inl ⟨rfl,_,SqL.of er9⟩,_,rfl,_,rfl,t,_,rfl,SqT.of ht9,(λz=>absurd z.1 (by show ¬ HT.sIx 3 0 (some 1)=0; decide)),λc hc=>?_⟩;have sc:=zB hc (.tup [.int x,.int y]);have er10:=sc _ _ er9;exists rc,_,.ref c,rfl,rfl,er10,zT (by lia),_,rfl;have sE:=uB (o:=.lst (rs++[.ref c])) er10;have np:=zC3 er10;refine q p _ (λx o e=>by rw[zG (zK e nrH)]; exact sc _ _ (s9 _ _ e)) hp ⟨mc,bc,rc,nc,nrH,.inl ?_,⟨mk,.inl ?_,(km9.to (.of sc)).sam sE np⟩,⟨bk,.inl ?_,(kb9.to (.of sc)).sam sE np⟩,⟨_,zA,?_⟩,⟨nk,.inl ?_,(kn9.to (.of sc)).sam sE np⟩⟩
  ·rw[zG npr]; exact sc _ _ ep9
  ·rw[zG nmr]; exact sc _ _ em9
  ·rw[zG nbr]; exact sc _ _ eb9
  ·show xX _ ((S.runs++[(x,y)]).map ptD) _;rw[aA];exact(xX.app (kr9.to (.of sc)) (.one (wD (p:=(x,y)) zA))).sam sE np
  ·rw[zG nrn.symm]; exact sc _ _ en9
 | .bearing mo nm x1 y1 x2 y2,rep8,ok,q =>
  obtain⟨t,_,_,rfl,ht,_⟩:=wI rep8;refine⟨_,rfl,t,_,0,.str "bearing", rfl,rfl,.inr (SqT.of ht),rfl,sz2,λz hz=>?_⟩;have sz:=zB hz (.tup [.str "mark", .str "move"]);exists z,_,rfl,.inr (SqT.of zA),rfl,rfl,_,rfl;have s9:=s8.trans sz;have ep9:=sz _ _ ep;have em9:=sz _ _ em;have eb9:=sz _ _ eb;have er9:=sz _ _ er;have en9:=sz _ _ en;have ht9:=sz _ _ ht;have km9:=km8.to (.of sz);have kb9:=kb8.to (.of sz);have kr9:=kr8.to (.of sz);have kn9:=kn8.to (.of sz);have rep9:=rep8.to (.of sz);generalize upd H8 z (.tup [.str "mark", .str "move"])=H9 at s9 ep9 em9 eb9 er9 en9 ht9 km9 kb9 kr9 kn9 rep9 ⊢;have tq:Sq K H9 t _:=.inr (SqT.of ht9);refine yR ?_;exists _,rfl,t,_,0,.str "bearing", rfl,rfl,tq,rfl,rfl,_,rfl;refine yR ?_;exists _,rfl,t,_,0,.str "bearing", rfl,rfl,tq,rfl,rfl,_,rfl;refine yR ?_;exists _,rfl,t,_,0,.str "bearing", rfl,rfl,tq,rfl,rfl,_,rfl;refine yR ?_;exists _,rfl,t,_,0,.str "bearing", rfl,rfl,tq,rfl,rfl,_,rfl;refine yR ?_;exists _,rfl,t,_,0,.str "bearing", rfl,rfl,tq,rfl,rfl,_,rfl;refine yR ?_;exists _,rfl,t,_,0,.str "bearing", rfl,rfl,tq,rfl,rfl,_,rfl;refine yR ?_;exists _,rfl,_,rfl,p,.ref nc,rfl,.inl ⟨_,.inr "notes", .inl ep9,rfl,tI.symm⟩,_,rfl,d,.int S.coming,rfl,dg s9 qS,nc,_,rfl,zKh.k (k:=.inl S.coming) en9 (zT (by lia));have sE:=uB (o:=.dK (sY nk (.inl S.coming) (.ref t))) en9;have np:=zF6 en9;have s10:Same H (upd H9 nc (.dK (sY nk (.inl S.coming) (.ref t)))):=λx o e=>by rw[zG (zK e nnH)]; exact s9 _ _ e
  have ep10:upd H9 nc (.dK (sY nk (.inl S.coming) (.ref t))) p=some (.dK (lwK mc bc rc nc S.coming)):=by rw[zG npn]; exact ep9
  exists _,rfl,d,.int S.coming,rfl,dg s10 qS,_,_,rfl,rfl,_,rfl,p,_,rfl,zKh.k (k:=.inr "next") ep10 (zT (by show 5<=1000; decide)),_,rfl;rw[zFv];have sE2:=uB (o:=.dK (lwK mc bc rc nc (S.coming+1))) ep10;have np2:=zF6 ep10;refine q p _ (λx o e=>by rw[zG (zK e hp)]; exact s10 _ _ e) hp ⟨mc,bc,rc,nc,nrH,.inl zA,⟨mk,.inl ?_,(km9.sam sE np).sam sE2 np2⟩,⟨bk,.inl ?_,(kb9.sam sE np).sam sE2 np2⟩,⟨rs,?_,(kr9.sam sE np).sam sE2 np2⟩,⟨sY nk (.inl S.coming) (.ref t),.inl ?_,?_⟩⟩
  ·rw[zG npm.symm,zG nmn]; exact em9
  ·rw[zG npb.symm,zG nbn]; exact eb9
  ·rw[zG npr.symm,zG nrn]; exact er9
  ·rw[zG npn.symm,zA]
  ·have:=((kn9.put (k:=.inl S.coming) rep9).sam sE np).sam sE2 np2;rw[sX (zHs fr)] at this;show xW _ _ (ntE (S.notes++[(S.coming,_)]));rw[zLq];exact this
 | .range mo l1 r1,rep8,ok,q =>
  obtain⟨t,rfl,ht⟩:=tN rep8;refine⟨_,rfl,t,_,0,.str "range", rfl,rfl,.inr (SqT.of ht),rfl,sz2,λz hz=>?_⟩;have sz:=zB hz (.tup [.str "mark", .str "move"]);exists z,_,rfl,.inr (SqT.of zA),rfl,rfl,_,rfl;have s9:=s8.trans sz;have ep9:=sz _ _ ep;have em9:=sz _ _ em;have eb9:=sz _ _ eb;have er9:=sz _ _ er;have en9:=sz _ _ en;have ht9:=sz _ _ ht;have km9:=km8.to (.of sz);have kb9:=kb8.to (.of sz);have kr9:=kr8.to (.of sz);have kn9:=kn8.to (.of sz);have rep9:=rep8.to (.of sz);generalize upd H8 z (.tup [.str "mark", .str "move"])=H9 at s9 ep9 em9 eb9 er9 en9 ht9 km9 kb9 kr9 kn9 rep9 ⊢;have tq:Sq K H9 t _:=.inr (SqT.of ht9);refine yR ?_;exists _,rfl,t,_,0,.str "range", rfl,rfl,tq,rfl,rfl,_,rfl;refine yR ?_;exists _,rfl,t,_,0,.str "range", rfl,rfl,tq,rfl,rfl,_,rfl;refine yR ?_;exists _,rfl,t,_,0,.str "range", rfl,rfl,tq,rfl,rfl,_,rfl;refine yR ?_;exists _,rfl,t,_,0,.str "range", rfl,rfl,tq,rfl,rfl,_,rfl;refine yR ?_;exists _,rfl,t,_,0,.str "range", rfl,rfl,tq,rfl,rfl,_,rfl;refine yR ?_;exists _,rfl,t,_,0,.str "range", rfl,rfl,tq,rfl,rfl,_,rfl;refine yR ?_;exists _,rfl,_,rfl,p,.ref nc,rfl,.inl ⟨_,.inr "notes", .inl ep9,rfl,tI.symm⟩,_,rfl,d,.int S.coming,rfl,dg s9 qS,nc,_,rfl,zKh.k (k:=.inl S.coming) en9 (zT (by lia));have sE:=uB (o:=.dK (sY nk (.inl S.coming) (.ref t))) en9;have np:=zF6 en9;have s10:Same H (upd H9 nc (.dK (sY nk (.inl S.coming) (.ref t)))):=λx o e=>by rw[zG (zK e nnH)]; exact s9 _ _ e
  have ep10:upd H9 nc (.dK (sY nk (.inl S.coming) (.ref t))) p=some (.dK (lwK mc bc rc nc S.coming)):=by rw[zG npn]; exact ep9
  exists _,rfl,d,.int S.coming,rfl,dg s10 qS,_,_,rfl,rfl,_,rfl,p,_,rfl,zKh.k (k:=.inr "next") ep10 (zT (by show 5<=1000; decide)),_,rfl;rw[zFv];have sE2:=uB (o:=.dK (lwK mc bc rc nc (S.coming+1))) ep10;have np2:=zF6 ep10;refine q p _ (λx o e=>by rw[zG (zK e hp)]; exact s10 _ _ e) hp ⟨mc,bc,rc,nc,nrH,.inl zA,⟨mk,.inl ?_,(km9.sam sE np).sam sE2 np2⟩,⟨bk,.inl ?_,(kb9.sam sE np).sam sE2 np2⟩,⟨rs,?_,(kr9.sam sE np).sam sE2 np2⟩,⟨sY nk (.inl S.coming) (.ref t),.inl ?_,?_⟩⟩
  ·rw[zG npm.symm,zG nmn]; exact em9
  ·rw[zG npb.symm,zG nbn]; exact eb9
  ·rw[zG npr.symm,zG nrn]; exact er9
  ·rw[zG npn.symm,zA]
  ·have:=((kn9.put (k:=.inl S.coming) rep9).sam sE np).sam sE2 np2;rw[sX (zHs fr)] at this;show xW _ _ (ntE (S.notes++[(S.coming,_)]));rw[zLq];exact this
 | .strike k,rep8,ok,q =>
  obtain⟨t,rfl,ht⟩:=rD rep8;refine⟨_,rfl,t,_,0,.str "strike", rfl,rfl,.inr (SqT.of ht),rfl,sz2,λz hz=>?_⟩;have sz:=zB hz (.tup [.str "mark", .str "move"]);exists z,_,rfl,.inr (SqT.of zA),rfl,rfl,_,rfl;have s9:=s8.trans sz;have ep9:=sz _ _ ep;have em9:=sz _ _ em;have eb9:=sz _ _ eb;have er9:=sz _ _ er;have en9:=sz _ _ en;have ht9:=sz _ _ ht;have km9:=km8.to (.of sz);have kb9:=kb8.to (.of sz);have kr9:=kr8.to (.of sz);have kn9:=kn8.to (.of sz);have rep9:=rep8.to (.of sz);generalize upd H8 z (.tup [.str "mark", .str "move"])=H9 at s9 ep9 em9 eb9 er9 en9 ht9 km9 kb9 kr9 kn9 rep9 ⊢;have tq:Sq K H9 t _:=.inr (SqT.of ht9);refine yR ?_;exists _,rfl,t,_,0,.str "strike", rfl,rfl,tq,rfl,rfl,_,rfl;refine yR ?_;exists _,rfl,t,_,0,.str "strike", rfl,rfl,tq,rfl,rfl,_,rfl;refine yR ?_;exists _,rfl,t,_,0,.str "strike", rfl,rfl,tq,rfl,rfl,_,rfl;refine yR ?_;exists _,rfl,t,_,0,.str "strike", rfl,rfl,tq,rfl,rfl,_,rfl;refine yR ?_;exists _,rfl,t,_,0,.str "strike", rfl,rfl,tq,rfl,rfl,_,rfl;refine yR ?_;exists _,rfl,t,_,0,.str "strike", rfl,rfl,tq,rfl,rfl,_,rfl;refine wM ?_;obtain⟨dv,lk⟩:=zMr (l:=S.notes) ok;obtain⟨v,ev,_⟩:=kn9.get lk;exists _,rfl,p,.ref nc,rfl,.inl ⟨_,.inr "notes", .inl ep9,rfl,tI.symm⟩,nc,rfl,.inl ⟨nk,.inl en9⟩,_,rfl,t,_,1,.int k,rfl,rfl,tq,rfl,nk,.inl k,v,en9,rfl,ev,_,rfl;have sE:=uB (o:=.dK (zDk nk (.inl k))) en9;have np:=zF6 en9;refine q p _ (λx o e=>by rw[zG (zK e nnH)]; exact s9 _ _ e) hp ⟨mc,bc,rc,nc,nrH,.inl ?_,⟨mk,.inl ?_,km9.sam sE np⟩,⟨bk,.inl ?_,kb9.sam sE np⟩,⟨rs,?_,kr9.sam sE np⟩,⟨_,.inl zA,?_⟩⟩
  ·rw[zG npn]; exact ep9
  ·rw[zG nmn]; exact em9
  ·rw[zG nbn]; exact eb9
  ·rw[zG nrn]; exact er9
  ·have:=(kn9.drop (k:=.inl k)).sam sE np;rw[zMc] at this;exact this
def mkT(e:aC×Int×Int):Key×List V:=(.inr e.1,[.int e.2.1,.int e.2.2])
theorem zUd{H:Hp}{l:List (aC×Int×Int)}{ts:List (ag×Key×List V)}(e:ts.map (·.2)=l.map mkT)(at_:∀ t∈ts,H t.1=some (.tup (kV t.2.1::t.2.2))):∀ o:List Nat,xX H ((vM o l).map mkD) ((vM o (ts.map (·.1))).map V.ref)
 | []=>yA.mpr rfl
 | i::o=>by
  have ih:=zUd e at_ o;have ei:=congrArg (·[i]?) e;simp only[av] at ei;rw[zBv] at ih ⊢;unfold vM at ih ⊢;cases gt:ts[i]? with
  | none =>
   rw[gt] at ei;have gl:l[i]?=none:=by cases h:l[i]? <;> simp[h] at ei ⊢
   rw[cJ gt,cJ gl];exact ih
  | some t =>
   rw[gt] at ei;obtain⟨x,gl,ex⟩:=aJ.mp ei.symm;rw[cb gt,cb gl];have h:=at_ t (aF gt);rw[show t.2=mkT x from ex.symm] at h;exact zL.mpr ⟨_,_,rfl,yD.mpr ⟨_,_,rfl,h,zL.mpr ⟨_,_,rfl,zW.mpr rfl,.two (yF.mpr rfl) (yF.mpr rfl)⟩⟩,ih⟩
def zBq(_:ae):Sp:=λvs H Q _=>∃(d:ag)(S:BS),vs=[.ref d]/\zUx H d S/\zBh S /\
 ∀(c:ag)(zs:List V)(H':Hp),Sam H H'->H' c=some (.lst zs)->xX H' (zOc S) zs->Q (.ref c) H'
theorem zHe(F:Fun K "_law_marks_of" "_law_marks_of" sR f fd)(Z:Zs mg)(CB:Cb P w mg base)  : xJ P w K mg base CX0 1 f fd ["_law_m"] (zBq K):=by
 specialize zHv
 ·obtain⟨d,S,rfl,_⟩:=h;rfl
 obtain⟨d,S,rfl,⟨m,b,r,n,lw⟩,nt,q⟩:=h;obtain⟨kvs,hm,kv⟩:=lw.ma;have lk:kvs.length=S.marks.length:=by rw[kv.length,zA3]
 have fm:=nt.well.good.few.ma
 refine'⟨_,(zF (zP (zQ zAb rfl Z.sorted sK (zC (sN (T:=["_law_name", "_law_place"]) (caps:=[]) ⟨rfl,by decide +kernel,by decide +kernel,rfl,bo⟩ rfl (zSf (zN (zV hr) (pv 0) zJ (λ_ _=>rfl))) (λ_=>(zMp rfl (vF (zDh 0 (show(["_law_name", "_law_place"]:List aC).Nodup by decide +kernel)) (vF (zDh 1 (show(["_law_name", "_law_place"]:List aC).Nodup by decide +kernel)) zFd)))) (λ_=>uC) (λ_=>?_)) zH)))),?_⟩
 nofun
 refine⟨_,rfl,d,.ref m,rfl,.inl ⟨_,.inr "marks", lw.at_,rfl,wJ.symm⟩,m,kvs,rfl,hm,λo H2 fz cc D hD=>?_⟩;have sf:Sam H H2:=zHh hm fz;have kv2:=kv.to sf;have npD:∀ b xs,H2 b=some (.tup xs)->¬ b=D:=λb xs e z=>by rw[z,hD] at e; cases e
 refine zVi (λi σ zs H'=>wE (λx=>x=D) H2 H'/\H' D=some (.lst zs)/\(∃ ts:List (ag×Key×List V),zs=(ts.map (·.1)).map V.ref/\ts.map (·.2)=(S.marks.take i).map mkT/\∀ t∈ts,H' t.1=some (.tup (kV t.2.1::t.2.2)))/\∃ u0 u1:Option V,σ=[u0,u1])
  ⟨.of (zB hD _),zA,⟨[],rfl,rfl,λt ht=>(nomatch ht)⟩,none,none,rfl⟩ (λi σ zs H' hP=>⟨zLt hP.1 (λz=>by have:=fz.1; rw[z,hD] at this; cases this) fz.1,hP.2.1⟩) ?_ ?_
 ·rintro i e T σ zs H' ge hT ⟨sD,eD,⟨ts,rfl,et,at_⟩,u0,u1,rfl⟩;have sT:=zB hT (.tup [kV e.1,e.2]);obtain⟨dt,gd,rd⟩:=(kv2.sam sD npD).at ge;unfold mkE at gd;rw[av,aJ] at gd;obtain⟨em,gm,eq⟩:=gd;injection eq with e1 e2
  subst e2;obtain⟨a,ea,ha⟩:=zAx rd;have li:i<60:=by have:=(ay.mp gm).1; lia
  have lt:ts.length=i:=by
   have:=congrArg cr et;rw[ac,ac,bK] at this;have:=(ay.mp gm).1;lia
  exists _,_,rfl,SqT.of zA,rfl,_,_,rfl,_,_,rfl,rfl;rw[ea,<- e1];rw[ea,<- e1] at sT;have ha1:=sT _ _ ha;have aq:Sq K (upd H' T (.tup [kV (.inr em.1),.ref a])) a [.int em.2.1,.int em.2.2]:=.inr (SqT.of ha1);refine⟨_,rfl,_,rfl,a,_,0,.int em.2.1,rfl,rfl,aq,rfl,_,rfl,a,_,1,.int em.2.2,rfl,rfl,aq,rfl,sz3,λt3 ht3=>?_⟩;have s3:=zB ht3 (.tup [.str em.1,.int em.2.1,.int em.2.2]);have eD4:=s3 _ _ (sT _ _ eD);refine⟨eD4,zT (by rw[ac,ac]; lia),(sD.trans ((wE.of sT).trans (.of s3))).trans (uB eD4),zA,⟨ts++[(t3,mkT em)],by rw[aA,aA]; rfl,by rw[aA,et,bC,gm,aA]; rfl,λt ht=>?_⟩,_,_,rfl⟩;rcases aN.mp ht with z | z
  ·have h:=at_ t z;rw[zG (λy=>by rw[y,eD] at h; cases h)];exact s3 _ _ (sT _ _ h)
  ·rw[aw.mp z];show upd _ D _ t3=_;rw[zG (zK (sT _ _ eD) ht3).symm];exact zA
 ·rintro σ zs H' ⟨sD,eD,⟨ts,rfl,et,at_⟩,u0,u1,rfl⟩;rw[lk,bW] at et;have ek:ts.map (·.2.1)=(S.marks.map (·.1)).map .inr:=by
   have:=congrArg (List.map (·.1)) et;rw[bw,bw] at this;rw[bw];exact this
  have lt:ts.length=S.marks.length:=by have:=congrArg cr et; rwa[ac,ac] at this
  refine⟨D,ts,rfl,SqL.of eD,at_,by lia,.inr ⟨_,ek⟩,by rw[ek]; exact zIj nt.nm,λp hp=>?_⟩;have sp:=zB hp (.lst ((vM (tO (ts.map (·.2.1))) (ts.map (·.1))).map V.ref));refine q p _ _ ((wE.over sf sD hD).trans (.of sp)) zA ?_;rw[ek];rw[ek] at sp;exact(zUd et at_ _).to (.of sp)
def rH(_:ae):Sp:=λvs H Q _=>∃(c:ag)(ps:List Pr)(cs:List (Int×Int)),vs=[.ref c]/\H c=some (.tup (wQ ps))/\zZg H cs ps/\zOu cs/\Q (.bl (zKn cs)) H
theorem zC0(F:Fun K "_law_round_enough" "_law_round_enough" wU f fd)(Z:Zs mg)(CB:Cb P w mg base)  : xJ P w K mg base CX0 1 f fd ["_law_places"] (rH K):=by
 specialize zCz
 ·obtain⟨c,ps,cs,rfl,_⟩:=h;rfl
 obtain⟨c,ps,cs,rfl,hc,cn,sd,q⟩:=h;obtain⟨a1,a2,a3,rfl,e⟩:=zHw sd
 refine'⟨_,(zF (zP ?_)),?_⟩
 nofun
 obtain⟨pt,at_⟩:=cn
 match ps,pt with
 | [p1,p2,p3],pt =>
  simp only[aM,eW,iJ,and_true] at pt;obtain⟨rfl,rfl,rfl⟩:=pt;rw[e] at q;have h1:=at_ p1 (.head _);have h3:=at_ p3 (.tail _ (.tail _ (.head _)));have cq:Sq K H c (wQ [p1,p2,p3]):=.inr (SqT.of hc);exists _,rfl,c,_,rfl,.inr (SqT.of hc),rfl,_,rfl;refine wM ?_;exact⟨_,rfl,c,_,2,.ref p3.1,rfl,rfl,cq,rfl,p3.1,_,1,.int p3.2.2,rfl,rfl,.inr (SqT.of h3),rfl,_,rfl,c,_,0,.ref p1.1,rfl,rfl,cq,rfl,p1.1,_,1,.int p1.2.2,rfl,rfl,.inr (SqT.of h1),rfl,_,_,rfl,rfl,q⟩
def zSa:Deed->Prop
 | .bank _ cs=>zOu cs
 | .level _=>True
 | _=>False
theorem zSa.cases{D:Deed}(h:zSa D):(∃ n cs,D=.bank n cs/\zOu cs)\/∃ n,D=.level n:=by
 cases D <;> first | exact h.elim | exact .inl ⟨_,_,rfl,h⟩ | exact .inr ⟨_,rfl⟩
def zAw(_:ae):Sp:=zIl zSa
theorem zF9(F:Fun K "_law_bank_word" "_law_bank_word" tK f fd)(Z:Zs mg)(CB:Cb P w mg base)(yAd:Has P w K mg base "_law_round_enough" 1 ["_law_places"] (rH K))(yBt:Has P w K mg base "_law_near" 1 ["_law_x", "_law_y"] (zBw K))(yBg:Has P w K mg base "_law_is_name" 1 ["_law_name"] (zAa K)):xJ P w K mg base CX0 2 f fd ["_law_m", "_law_deed"] (zAw K):=by
 specialize zGb
 ·obtain⟨d,v,S,D,rfl,_⟩:=h;rfl
 obtain⟨d,v,S,D,rfl,⟨m,b,r,n,lw⟩,hv,tm,wl,mk,q⟩:=h;have say:∀(o:Option Cl)(H':Hp),zR S D=o->Sam H H'->Q (.str (zFz o)) H':=λo H' e s=>e ▸ q _ s;obtain⟨bk',hbk,kb⟩:=lw.ba;have lbk:bk'.length=S.banks.length:=by rw[kb.length]; unfold bkE; rw[ac]
 refine'⟨_,(zD (yH ?_ (zF (zP (tH (qL (zIh (zV hr) ?_ (zN (zV hr) (pv 0) zJ (λ_ _=>rfl))) (by with_unfolding_all rfl)) zJ zJ))) zS)
   (zD (yH ?_ (zF (zP zJ)) zS)
   (zD (yH (qL (zIh (zV hr) ?_ (zN (zV hr) (pv 0) zJ (λ_ _=>rfl))) (by with_unfolding_all rfl)) (zF (zP zJ)) zS)
   (zD (yH (zAz (zAv (zQ (tV rfl) rfl Z.all zFf (zC (sN (T:=["_law_x", "_law_y"]) (caps:=[]) ⟨rfl,by decide +kernel,by decide +kernel,rfl,bo⟩ rfl (zUm ?_) (λ_=>(zMp rfl (vF (zDh 0 (show(["_law_x", "_law_y"]:List aC).Nodup by decide +kernel)) (vF (zDh 1 (show(["_law_x", "_law_y"]:List aC).Nodup by decide +kernel)) zFd)))) (λ_=>uC) (λ_=>?_)) zH)))) (zF (zP zJ)) zS)
   (zD (yH ?_ (zF (zP zJ)) zS)
   (zF (zP (tH (yK zIs (zQ sC rfl Z.len uU (zC (zN (zV hr) (pv 0) zJ (λ_ _=>rfl)) zH)) yW (xB _)) zJ zJ)))))))),?_⟩
 nofun
 rcases mk.cases with ⟨nm,cs,rfl,sd⟩ | ⟨nm,rfl⟩
 ·clear mk q;obtain⟨t,c,ps,rfl,ht,hc,cn,rc⟩:=zA9 hv;have tq:Sq K H t [.str "bank", .str nm,.ref c]:=.inr (SqT.of ht);exists _,rfl,t,_,0,.str "bank", rfl,rfl,tq,rfl,rfl,_,rfl;refine yR ?_;refine⟨_,rfl,t,_,1,.str nm,rfl,rfl,tq,rfl,nm,rfl,tm.1,λbb H1 hb s1=>⟨_,rfl,?_⟩⟩;cases bb with
  | false=>exact wM (say (some .badName) _ (by simp only[zR,if_pos (qO hb rfl)]) (.of s1))
  | true =>
  have j1:=au.mpr (hb.mp rfl);refine yR ?_;have hd1:=Rd.same lw.at_ s1;have hc1:=s1 _ _ hc;have tq1:Sq K H1 t [.str "bank", .str nm,.ref c]:=.inr (SqT.of (s1 _ _ ht));exists _,rfl,t,_,1,.str nm,rfl,rfl,tq1,rfl,_,rfl,d,.ref b,rfl,.inl ⟨_,.inr "banks", hd1,rfl,rX.symm⟩,b,_,rfl,.inl ⟨bk',.inr nm,Rd.same hbk s1,rfl,rfl⟩,_,rfl;have bn:=zCh (n:=nm) kb;cases e:(wT bk' (.inr nm)).isSome with
  | true=>exact wM (say (some .taken) _ (by simp only[zR,if_neg j1,if_pos (show nm∈S.banks.map (·.1) from e9 λz=>by rw[bn.mpr z] at e; cases e)]) (.of s1))
  | false =>
  have j2:nm ∉ S.banks.map (·.1):=bn.mp (by cases h:wT bk' (.inr nm) <;> simp[h] at e ⊢);refine yR ?_;refine⟨_,rfl,t,_,2,.ref c,rfl,rfl,tq1,rfl,c,rfl,⟨_,SqT.of hc1⟩,λcc D hD=>?_⟩;obtain⟨c1,c2,c3,ec,eb⟩:=zHw sd;have l3:ps.length=3:=by have:=congrArg cr cn.pt; rw[ac,ec] at this; exact this
  refine zJs (K:=K) (a:=c) (xs:=wQ ps) (λi σ zs H'=>Same H1 H'/\H' D=some (.lst zs)/\(∃ bs:List Bool,zs=bs.map V.bl/\bs.length=i/\(bs.all id=true↔∀ p∈ps.take i,zAm p.2))/\∃ u0 u1:Option V,σ=[u0,u1])
   ⟨zB hD _,zA,⟨[],rfl,rfl,iff_of_true rfl λe he=>(nomatch he)⟩,none,none,rfl⟩ (λi σ zs H' _ ⟨sH,e,_⟩=>⟨SqT.of (sH _ _ hc1),e⟩) ?_ ?_
  ·rintro i v σ zs H' hi ⟨sH,eD,⟨bs,rfl,lb,ab⟩,u0,u1,rfl⟩;unfold wQ at hi;rw[bw,av,aJ] at hi;obtain⟨pp,gp,rfl⟩:=hi;have hp:=cn.at_ pp (aF gp);have hil:=(ay.mp gp).1;refine⟨_,_,rfl,SqT.of (sH _ _ (s1 _ _ hp)),rfl,_,_,rfl,_,_,rfl,rfl,_,rfl,_,rfl,pp.2.1,pp.2.2,rfl,λbb hb=>?_⟩;refine⟨eD,zT (by rw[ac]; lia),sH.putNew hD,zA,⟨bs++[bb],by rw[aA]; rfl,by rw[al,lb]; rfl,?_⟩,_,_,rfl⟩;rw[iQ,aY,ab,bC,gp,show [bb].all id=bb from by cases bb <;> rfl,hb];exact⟨λh e' he'=>(aN.mp he').elim (h.1 e') λz=>by rw[aw.mp z]; exact h.2,λh=>⟨λe' z=>h e' (dO _ z),h pp (aU _ (.head _))⟩⟩
  ·rintro σ zs H' ⟨sH,eD,⟨bs,rfl,lb,ab⟩,u0,u1,rfl⟩;have lr:(wQ ps).length=ps.length:=xN ps;rw[lr,bW] at ab;have ab:bs.all id=true↔∀ c∈cs,zAm c:=by
    rw[ab,<- cn.pt];exact⟨λh c hc=>let ⟨p,hp,e⟩:=aD.mp hc; e ▸ h p hp,λh p hp=>h _ (aD.mpr ⟨p,hp,rfl⟩)⟩
   have s1':=s1.trans sH;exists D,bs,rfl,SqL.of eD,_,rfl;cases hb:bs.all id with
   | false=>exact wM (say (some .badPlace) _ (by simp only[zR,if_neg j1,if_neg j2,if_pos (qO ab hb)]) (.of s1'))
   | true =>
   have j3:=au.mpr (ab.mp hb);refine yR ?_;have tq2:Sq K H' t [.str "bank", .str nm,.ref c]:=.inr (SqT.of (s1' _ _ ht));exists _,rfl,t,_,2,.ref c,rfl,rfl,tq2,rfl,c,ps,cs,rfl,s1' _ _ hc,⟨cn.pt,λt ht=>s1' _ _ (cn.at_ t ht)⟩,sd,_,rfl;cases hk:zKn cs with
   | false=>exact wM (say (some .badBank) _ (by simp only[zR,if_neg j1,if_neg j2,if_neg j3,if_pos hk]) (.of s1'))
   | true =>
   have j4:¬ zKn cs=false:=by rw[hk]; exact kN
   refine yR ?_;exists _,rfl,d,.ref b,rfl,.inl ⟨_,.inr "banks", Rd.same lw.at_ s1',rfl,rX.symm⟩,b,bk',rfl,Rd.same hbk s1',_,_,rfl,rfl,_,rfl;exact ifD (λz=>say (some .full) _ (by simp only[zR,if_neg j1,if_neg j2,if_neg j3,if_neg j4,if_pos (show 8<=S.banks.length by lia)]) (.of s1')) (λz=>say none _ (by simp only[zR,if_neg j1,if_neg j2,if_neg j3,if_neg j4,if_neg (show ¬ 8<=S.banks.length by lia)]) (.of s1'))
 ·clear mk q;obtain⟨t,rfl,ht⟩:=zAf hv;have tq:Sq K H t [.str "level", .str nm]:=.inr (SqT.of ht);exists _,rfl,t,_,0,.str "level", rfl,rfl,tq,rfl,rfl,_,rfl;refine wM ?_;exists _,rfl,t,_,1,.str nm,rfl,rfl,tq,rfl,_,rfl,d,.ref b,rfl,.inl ⟨_,.inr "banks", lw.at_,rfl,rX.symm⟩,b,_,rfl,.inl ⟨bk',.inr nm,hbk,rfl,rfl⟩,_,rfl;have bn:=zCh (n:=nm) kb;cases e:(wT bk' (.inr nm)).isSome with
  | true=>exact wM (say none _ (by simp only[zR,if_pos (show nm∈S.banks.map (·.1) from e9 λz=>by rw[bn.mpr z] at e; cases e)]) (.refl _))
  | false=>exact yR (say (some .noBank) _ (by simp only[zR,if_neg (bn.mp (by cases h:wT bk' (.inr nm) <;> simp[h] at e ⊢))]) (.refl _))
def zOs(D:Deed):Prop:=zRw D\/zSa D\/zZl D\/zTw D
def zKk(_:ae):Sp:=zIl zOs
theorem zP0(F:Fun K "_law_word" "_law_word" zEe f fd)(Z:Zs mg)(CB:Cb P w mg base)(yBa:Has P w K mg base "_law_note_word" 2 ["_law_m", "_law_deed"] (zAt K))(yBc:Has P w K mg base "_law_run_word" 2 ["_law_m", "_law_deed"] (zBx K))(yAz:Has P w K mg base "_law_bank_word" 2 ["_law_m", "_law_deed"] (zAw K))(yAy:Has P w K mg base "_law_mark_word" 2 ["_law_m", "_law_deed"] (zAy K)):xJ P w K mg base CX0 3 f fd ["_law_m", "_law_deed"] (zKk K):=by
 specialize zQm
 ·obtain⟨d,v,S,D,rfl,_⟩:=h;rfl
 obtain⟨d,v,S,D,rfl,lw,hv,tm,wl,mk,q⟩:=h
 refine'⟨_,(zD (yH (yK rL ?_ ?_ (by with_unfolding_all rfl)) (zF (zP ?_)) zS)
   (zD (yH (yK rL ?_ ?_ (by with_unfolding_all rfl)) (zF (zP ?_)) zS)
   (zD (yH (yK rL ?_ ?_ (by with_unfolding_all rfl)) (zF (zP ?_)) zS)
   (zF (zP ?_))))),?_⟩
 nofun
 match D,hv,tm,mk,q with
 | .mark _ _ _,hv,tm,mk,q =>
  obtain⟨t,rfl,ht⟩:=zCl hv;refine⟨_,rfl,t,_,0,.str "mark", rfl,rfl,.inr (SqT.of ht),rfl,sz3,λz1 hz1=>?_⟩;have sz:=zB hz1 (.tup [.str "mark", .str "move", .str "unmark"]);exists z1,_,rfl,.inr (SqT.of zA),rfl,rfl,_,rfl;exact wM ⟨_,rfl,_,rfl,d,.ref t,S,_,rfl,lw.to (.of sz),hv.to (.of sz),tm,wl,trivial,λH' s'=>q H' ((wE.of sz).trans s')⟩
 | .unmark _,hv,tm,mk,q =>
  obtain⟨t,rfl,ht⟩:=rJ hv;refine⟨_,rfl,t,_,0,.str "unmark", rfl,rfl,.inr (SqT.of ht),rfl,sz3,λz1 hz1=>?_⟩;have sz:=zB hz1 (.tup [.str "mark", .str "move", .str "unmark"]);exists z1,_,rfl,.inr (SqT.of zA),rfl,rfl,_,rfl;exact wM ⟨_,rfl,_,rfl,d,.ref t,S,_,rfl,lw.to (.of sz),hv.to (.of sz),tm,wl,trivial,λH' s'=>q H' ((wE.of sz).trans s')⟩
 | .bank _ _,hv,tm,mk,q =>
  obtain⟨t,_,_,rfl,ht,_⟩:=zA9 hv;refine⟨_,rfl,t,_,0,.str "bank", rfl,rfl,.inr (SqT.of ht),rfl,sz3,λz1 hz1=>?_⟩;have sz:=zB hz1 (.tup [.str "mark", .str "move", .str "unmark"]);exists z1,_,rfl,.inr (SqT.of zA),rfl,rfl,_,rfl;refine yR ?_;refine⟨_,rfl,t,_,0,.str "bank", rfl,rfl,.inr (SqT.of (sz _ _ ht)),rfl,sz2,λz2 hz2=>?_⟩
  replace sz:=sz.trans (zB hz2 (.tup [.str "bank", .str "level"]))
  exists z2,_,rfl,.inr (SqT.of zA),rfl,rfl,_,rfl;exact wM ⟨_,rfl,_,rfl,d,.ref t,S,_,rfl,lw.to (.of sz),hv.to (.of sz),tm,wl,(mk.elim be λh=>h.elim id λh=>h.elim be be),λH' s'=>q H' ((wE.of sz).trans s')⟩
 | .level _,hv,tm,mk,q =>
  obtain⟨t,rfl,ht⟩:=zAf hv;refine⟨_,rfl,t,_,0,.str "level", rfl,rfl,.inr (SqT.of ht),rfl,sz3,λz1 hz1=>?_⟩;have sz:=zB hz1 (.tup [.str "mark", .str "move", .str "unmark"]);exists z1,_,rfl,.inr (SqT.of zA),rfl,rfl,_,rfl;refine yR ?_;refine⟨_,rfl,t,_,0,.str "level", rfl,rfl,.inr (SqT.of (sz _ _ ht)),rfl,sz2,λz2 hz2=>?_⟩
  replace sz:=sz.trans (zB hz2 (.tup [.str "bank", .str "level"]))
  exists z2,_,rfl,.inr (SqT.of zA),rfl,rfl,_,rfl;exact wM ⟨_,rfl,_,rfl,d,.ref t,S,_,rfl,lw.to (.of sz),hv.to (.of sz),tm,wl,trivial,λH' s'=>q H' ((wE.of sz).trans s')⟩
 | .sail _ _,hv,tm,mk,q =>
  obtain⟨t,rfl,ht⟩:=zCx hv;refine⟨_,rfl,t,_,0,.str "sail", rfl,rfl,.inr (SqT.of ht),rfl,sz3,λz1 hz1=>?_⟩;have sz:=zB hz1 (.tup [.str "mark", .str "move", .str "unmark"]);exists z1,_,rfl,.inr (SqT.of zA),rfl,rfl,_,rfl;refine yR ?_;refine⟨_,rfl,t,_,0,.str "sail", rfl,rfl,.inr (SqT.of (sz _ _ ht)),rfl,sz2,λz2 hz2=>?_⟩
  replace sz:=sz.trans (zB hz2 (.tup [.str "bank", .str "level"]))
  exists z2,_,rfl,.inr (SqT.of zA),rfl,rfl,_,rfl;refine yR ?_;refine⟨_,rfl,t,_,0,.str "sail", rfl,rfl,.inr (SqT.of (sz _ _ ht)),rfl,sz2,λz2 hz2=>?_⟩
  replace sz:=sz.trans (zB hz2 (.tup [.str "sail", .str "right"]))
  exists z2,_,rfl,.inr (SqT.of zA),rfl,rfl,_,rfl;exact wM ⟨_,rfl,_,rfl,d,.ref t,S,_,rfl,lw.to (.of sz),hv.to (.of sz),tm,wl,trivial,λH' s'=>q H' ((wE.of sz).trans s')⟩
 | .bearing _ _ _ _ _ _,hv,tm,mk,q =>
  obtain⟨t,_,_,rfl,ht,_⟩:=wI hv;refine⟨_,rfl,t,_,0,.str "bearing", rfl,rfl,.inr (SqT.of ht),rfl,sz3,λz1 hz1=>?_⟩;have sz:=zB hz1 (.tup [.str "mark", .str "move", .str "unmark"]);exists z1,_,rfl,.inr (SqT.of zA),rfl,rfl,_,rfl;refine yR ?_;refine⟨_,rfl,t,_,0,.str "bearing", rfl,rfl,.inr (SqT.of (sz _ _ ht)),rfl,sz2,λz2 hz2=>?_⟩
  replace sz:=sz.trans (zB hz2 (.tup [.str "bank", .str "level"]))
  exists z2,_,rfl,.inr (SqT.of zA),rfl,rfl,_,rfl;refine yR ?_;refine⟨_,rfl,t,_,0,.str "bearing", rfl,rfl,.inr (SqT.of (sz _ _ ht)),rfl,sz2,λz2 hz2=>?_⟩
  replace sz:=sz.trans (zB hz2 (.tup [.str "sail", .str "right"]))
  exists z2,_,rfl,.inr (SqT.of zA),rfl,rfl,_,rfl;exact yR ⟨_,rfl,_,rfl,d,.ref t,S,_,rfl,lw.to (.of sz),hv.to (.of sz),tm,wl,trivial,λH' s'=>q H' ((wE.of sz).trans s')⟩
 | .range _ _ _,hv,tm,mk,q =>
  obtain⟨t,rfl,ht⟩:=tN hv;refine⟨_,rfl,t,_,0,.str "range", rfl,rfl,.inr (SqT.of ht),rfl,sz3,λz1 hz1=>?_⟩;have sz:=zB hz1 (.tup [.str "mark", .str "move", .str "unmark"]);exists z1,_,rfl,.inr (SqT.of zA),rfl,rfl,_,rfl;refine yR ?_;refine⟨_,rfl,t,_,0,.str "range", rfl,rfl,.inr (SqT.of (sz _ _ ht)),rfl,sz2,λz2 hz2=>?_⟩
  replace sz:=sz.trans (zB hz2 (.tup [.str "bank", .str "level"]))
  exists z2,_,rfl,.inr (SqT.of zA),rfl,rfl,_,rfl;refine yR ?_;refine⟨_,rfl,t,_,0,.str "range", rfl,rfl,.inr (SqT.of (sz _ _ ht)),rfl,sz2,λz2 hz2=>?_⟩
  replace sz:=sz.trans (zB hz2 (.tup [.str "sail", .str "right"]))
  exists z2,_,rfl,.inr (SqT.of zA),rfl,rfl,_,rfl;exact yR ⟨_,rfl,_,rfl,d,.ref t,S,_,rfl,lw.to (.of sz),hv.to (.of sz),tm,wl,trivial,λH' s'=>q H' ((wE.of sz).trans s')⟩
 | .strike _,hv,tm,mk,q =>
  obtain⟨t,rfl,ht⟩:=rD hv;refine⟨_,rfl,t,_,0,.str "strike", rfl,rfl,.inr (SqT.of ht),rfl,sz3,λz1 hz1=>?_⟩;have sz:=zB hz1 (.tup [.str "mark", .str "move", .str "unmark"]);exists z1,_,rfl,.inr (SqT.of zA),rfl,rfl,_,rfl;refine yR ?_;refine⟨_,rfl,t,_,0,.str "strike", rfl,rfl,.inr (SqT.of (sz _ _ ht)),rfl,sz2,λz2 hz2=>?_⟩
  replace sz:=sz.trans (zB hz2 (.tup [.str "bank", .str "level"]))
  exists z2,_,rfl,.inr (SqT.of zA),rfl,rfl,_,rfl;refine yR ?_;refine⟨_,rfl,t,_,0,.str "strike", rfl,rfl,.inr (SqT.of (sz _ _ ht)),rfl,sz2,λz2 hz2=>?_⟩
  replace sz:=sz.trans (zB hz2 (.tup [.str "sail", .str "right"]))
  exists z2,_,rfl,.inr (SqT.of zA),rfl,rfl,_,rfl;exact yR ⟨_,rfl,_,rfl,d,.ref t,S,_,rfl,lw.to (.of sz),hv.to (.of sz),tm,wl,trivial,λH' s'=>q H' ((wE.of sz).trans s')⟩
 | .move _ _ _,_,_,mk,_=>exact(mk.elim id λh=>h.elim id λh=>h.elim id id).elim
 | .right _ _ _,_,_,mk,_=>exact(mk.elim id λh=>h.elim id λh=>h.elim id id).elim
def numO(S:BS)(D:Deed):Option Cl->V
 | none=>zNh S D
 | some _=>.non
theorem vO{S:BS}{D:Deed}(h:(aft S D).coming=S.coming):zNh S D=.non:=by unfold zNh; rw[if_pos h.symm]
theorem zIb{S:BS}{D:Deed}(h:(aft S D).coming=S.coming+1):zNh S D=.int S.coming:=by unfold zNh; rw[if_neg (by lia)]
theorem zQ1(c:Cl):zIt c ≠ "" := by cases c <;> decide +kernel
def zMv(_:ae):Sp:=λvs H Q _=>∃(d:ag)(v:V)(S:BS)(D:Deed),vs=[.ref d,v]/\zUx H d S/\Rep H D.dt v/\zK2 D/\zMk S/\zOs D/\∀(t:ag)(H':Hp),Sam H H'->H' t=some (.tup [.str (zFz (zR S D)),numO S D (zR S D)])->Q (.ref t) H'
theorem zTg(F:Fun K "_law_due" "_law_due" zHl f fd)(Z:Zs mg)(CB:Cb P w mg base)(yBv:Has P w K mg base "_law_word" 3 ["_law_m", "_law_deed"] (zKk K)):xJ P w K mg base CX0 4 f fd ["_law_m", "_law_deed"] (zMv K):=by
 specialize zL2
 ·obtain⟨d,v,S,D,rfl,_⟩:=h;rfl
 obtain⟨d,v,S,D,rfl,lw,hv,tm,wl,mk,q⟩:=h
 refine'⟨_,(zD (yN 2 zL2.nd ?_)
   (zD (yH (PW.pt (zId ?_ (zFb (yK rL ?_ ?_ (by with_unfolding_all rfl))))) (zF (zP (xV (zC zJ (zC (zN (zV hr) (pv 0) zJ (λ_ _=>rfl)) zH))))) zS)
   (zF (zP ?_)))),?_⟩
 nofun
 refine⟨_,rfl,_,rfl,d,v,S,D,rfl,lw,hv,tm,wl,mk,λH1 s1=>⟨_,rfl,rfl,_,rfl,?_⟩⟩;have last:∀(H2:Hp),Sam H H2->numO S D (zR S D)=.non->2<=sizeLine/\∀ t:ag,H2 t=none->Q (.ref t) (upd H2 t (.tup [.str (zFz (zR S D)),.non])):=λH2 s2 e=>⟨by decide,λt ht=>q t _ (s2.trans (.of (zB ht _))) (by rw[zA,e])⟩;cases hj:zR S D with
 | some c =>
  rw[hj] at last;exact ifSf (zQ1 c) (yR ⟨_,rfl,last _ s1 rfl⟩)
 | none =>
  rw[hj] at last q;refine ifSt ?_;have hv1:=hv.to s1
  match D,hv1,q,last with
  | .mark _ _ _,hv1,q,last =>
   obtain⟨t,rfl,ht⟩:=zCl hv1;refine⟨_,rfl,t,_,0,.str "mark", rfl,rfl,.inr (SqT.of ht),rfl,sz2,λz1 hz1=>?_⟩;have sz:=zB hz1 (.tup [.str "bearing", .str "range"]);exists z1,_,rfl,.inr (SqT.of zA),rfl,rfl,_,rfl;exact yR ⟨_,rfl,last _ (s1.trans (.of sz)) (vO rfl)⟩
  | .unmark _,hv1,q,last =>
   obtain⟨t,rfl,ht⟩:=rJ hv1;refine⟨_,rfl,t,_,0,.str "unmark", rfl,rfl,.inr (SqT.of ht),rfl,sz2,λz1 hz1=>?_⟩;have sz:=zB hz1 (.tup [.str "bearing", .str "range"]);exists z1,_,rfl,.inr (SqT.of zA),rfl,rfl,_,rfl;exact yR ⟨_,rfl,last _ (s1.trans (.of sz)) (vO rfl)⟩
  | .bank _ _,hv1,q,last =>
   obtain⟨t,_,_,rfl,ht,_⟩:=zA9 hv1;refine⟨_,rfl,t,_,0,.str "bank", rfl,rfl,.inr (SqT.of ht),rfl,sz2,λz1 hz1=>?_⟩;have sz:=zB hz1 (.tup [.str "bearing", .str "range"]);exists z1,_,rfl,.inr (SqT.of zA),rfl,rfl,_,rfl;exact yR ⟨_,rfl,last _ (s1.trans (.of sz)) (vO rfl)⟩
  | .level _,hv1,q,last =>
   obtain⟨t,rfl,ht⟩:=zAf hv1;refine⟨_,rfl,t,_,0,.str "level", rfl,rfl,.inr (SqT.of ht),rfl,sz2,λz1 hz1=>?_⟩;have sz:=zB hz1 (.tup [.str "bearing", .str "range"]);exists z1,_,rfl,.inr (SqT.of zA),rfl,rfl,_,rfl;exact yR ⟨_,rfl,last _ (s1.trans (.of sz)) (vO rfl)⟩
  | .sail _ _,hv1,q,last =>
   obtain⟨t,rfl,ht⟩:=zCx hv1;refine⟨_,rfl,t,_,0,.str "sail", rfl,rfl,.inr (SqT.of ht),rfl,sz2,λz1 hz1=>?_⟩;have sz:=zB hz1 (.tup [.str "bearing", .str "range"]);exists z1,_,rfl,.inr (SqT.of zA),rfl,rfl,_,rfl;exact yR ⟨_,rfl,last _ (s1.trans (.of sz)) (vO rfl)⟩
  | .strike _,hv1,q,last =>
   obtain⟨t,rfl,ht⟩:=rD hv1;refine⟨_,rfl,t,_,0,.str "strike", rfl,rfl,.inr (SqT.of ht),rfl,sz2,λz1 hz1=>?_⟩;have sz:=zB hz1 (.tup [.str "bearing", .str "range"]);exists z1,_,rfl,.inr (SqT.of zA),rfl,rfl,_,rfl;exact yR ⟨_,rfl,last _ (s1.trans (.of sz)) (vO rfl)⟩
  | .move _ _ _,hv1,q,last =>
   obtain⟨t,rfl,ht⟩:=zHm hv1;refine⟨_,rfl,t,_,0,.str "move", rfl,rfl,.inr (SqT.of ht),rfl,sz2,λz1 hz1=>?_⟩;have sz:=zB hz1 (.tup [.str "bearing", .str "range"]);exists z1,_,rfl,.inr (SqT.of zA),rfl,rfl,_,rfl;exact yR ⟨_,rfl,last _ (s1.trans (.of sz)) (vO rfl)⟩
  | .right _ _ _,hv1,q,last =>
   obtain⟨t,rfl,ht⟩:=zD9 hv1;refine⟨_,rfl,t,_,0,.str "right", rfl,rfl,.inr (SqT.of ht),rfl,sz2,λz1 hz1=>?_⟩;have sz:=zB hz1 (.tup [.str "bearing", .str "range"]);exists z1,_,rfl,.inr (SqT.of zA),rfl,rfl,_,rfl;exact yR ⟨_,rfl,last _ (s1.trans (.of sz)) (vO rfl)⟩
  | .bearing _ _ _ _ _ _,hv1,q,last =>
   obtain⟨t,_,_,rfl,ht,_⟩:=wI hv1;refine⟨_,rfl,t,_,0,.str "bearing", rfl,rfl,.inr (SqT.of ht),rfl,sz2,λz1 hz1=>?_⟩;have sz:=zB hz1 (.tup [.str "bearing", .str "range"]);exists z1,_,rfl,.inr (SqT.of zA),rfl,rfl,_,rfl;refine wM ?_;obtain⟨m,b,r,n,lw⟩:=lw;have s2:=s1.trans (wE.of sz);refine⟨_,rfl,d,.int S.coming,rfl,.inl ⟨_,.inr "next", s2.rd id lw.at_,rfl,qS.symm⟩,sz2,λtt htt=>?_⟩;exact q tt _ (s2.trans (.of (zB htt _))) (by rw[zA]; show _=some (HO.tup [_,zNh S _]); rw[zIb rfl]; rfl)
  | .range _ _ _,hv1,q,last =>
   obtain⟨t,rfl,ht⟩:=tN hv1;refine⟨_,rfl,t,_,0,.str "range", rfl,rfl,.inr (SqT.of ht),rfl,sz2,λz1 hz1=>?_⟩;have sz:=zB hz1 (.tup [.str "bearing", .str "range"]);exists z1,_,rfl,.inr (SqT.of zA),rfl,rfl,_,rfl;refine wM ?_;obtain⟨m,b,r,n,lw⟩:=lw;have s2:=s1.trans (wE.of sz);refine⟨_,rfl,d,.int S.coming,rfl,.inl ⟨_,.inr "next", s2.rd id lw.at_,rfl,qS.symm⟩,sz2,λtt htt=>?_⟩;exact q tt _ (s2.trans (.of (zB htt _))) (by rw[zA]; show _=some (HO.tup [_,zNh S _]); rw[zIb rfl]; rfl)
structure Byd(H G:Hp)(a R sd q1 q2 q3:ag)(rows:List Int)(ns:List aC)(Ds:List Deed)(xs:List V):Prop where
 mk ::
 same:Same H G
 eA:G a=some (.lst (rows.map V.int))
 eR:G R=some (.lst (ns.map V.str))
 sd:G sd=some (.tup [.ref q1,.ref q2,.ref q3])
 p1:G q1=some (.tup [.int 0,.int 0])
 p2:G q2=some (.tup [.int 3,.int 0])
 p3:G q3=some (.tup [.int 0,.int 2])
 rp:xX G (Ds.reverse.map Deed.dt) xs.reverse
section
variable{H G:Hp}{a R sd q1 q2 q3 t:ag}{rows:List Int}{ns:List aC}{Ds:List Deed}{xs:List V}{o:HO}
theorem Byd.new(B:Byd H G a R sd q1 q2 q3 rows ns Ds xs)(n:G t=none):Byd H (upd G t o) a R sd q1 q2 q3 rows ns Ds xs :=
 let s:=zB n o
 ⟨B.same.trans s,s _ _ B.eA,s _ _ B.eR,s _ _ B.sd,s _ _ B.p1,s _ _ B.p2,s _ _ B.p3,B.rp.to (.of s)⟩
theorem Byd.add(B:Byd H G a R sd q1 q2 q3 rows ns Ds xs)(n:G t=none){D:Deed}(h:Rep (upd G t o) D.dt (.ref t)):Byd H (upd G t o) a R sd q1 q2 q3 rows ns (D::Ds) (.ref t::xs) :=
 let b:=B.new (o:=o) n
 ⟨b.same,b.eA,b.eR,b.sd,b.p1,b.p2,b.p3,by rw[j9,j9,aA]; exact b.rp.app (.one h)⟩
theorem Byd.bank(B:Byd H G a R sd q1 q2 q3 rows ns Ds xs){n:aC}(ht:G t=some (.tup [.str "bank", .str n,.ref sd])):Rep G (Deed.bank n [(0,0),(3,0),(0,2)]).dt (.ref t) :=
 yD.mpr ⟨t,_,rfl,ht,zL.mpr ⟨_,_,rfl,zW.mpr rfl,.two (zW.mpr rfl) (yD.mpr ⟨sd,_,rfl,B.sd,zL.mpr ⟨_,_,rfl,wD (p:=(0,0)) B.p1,.two (wD (p:=(3,0)) B.p2) (wD (p:=(0,2)) B.p3)⟩⟩)⟩⟩
theorem Byd.bankR(B:Byd H G a R sd q1 q2 q3 rows ns Ds xs){n:aC}{z:ag}(hz:G z=some (.tup [.ref q3,.ref q2,.ref q1]))(ht:G t=some (.tup [.str "bank", .str n,.ref z])):Rep G (Deed.bank n [(0,2),(3,0),(0,0)]).dt (.ref t) :=
 yD.mpr ⟨t,_,rfl,ht,zL.mpr ⟨_,_,rfl,zW.mpr rfl,.two (zW.mpr rfl) (yD.mpr ⟨z,_,rfl,hz,zL.mpr ⟨_,_,rfl,wD (p:=(0,2)) B.p3,.two (wD (p:=(3,0)) B.p2) (wD (p:=(0,0)) B.p1)⟩⟩)⟩⟩
theorem zLh{x n:aC}{D:Deed}(e:D.dt=.tup [.str x,.str n])(ht:G t=some (.tup [.str x,.str n])):Rep G D.dt (.ref t):=by rw[e]; exact yD.mpr ⟨t,_,rfl,ht,.two (zW.mpr rfl) (zW.mpr rfl)⟩
end
def zEh(_:ae):Sp:=λvs H Q _=>∃(a R:ag)(rows:List Int)(ns:List aC)(n0 n1 n2 n19 n20 n21:aC),vs=[.ref a,.ref R]/\H a=some (.lst (rows.map V.int))/\112<=rows.length/\(∀ v∈rows,0<=v/\v<1000003)/\H R=some (.lst (ns.map V.str))/\ns[0]?=some n0/\ns[1]?=some n1/\ns[2]?=some n2/\ns[19]?=some n19/\ns[20]?=some n20/\ns[21]?=some n21 /\
 ∀(L:ag)(xs:List V)(k:Int)(H':Hp),Same H H'->H' L=some (.lst xs)->xX H' ((tQ n0 n1 n2 n19 n20 n21 k).map Deed.dt) xs->1<=k->k<=24->Q (.ref L) H'
theorem zLm(F:Fun K "_law_beyond" "_law_beyond" zAq f fd)(Z:Zs mg)(CB:Cb P w mg base)  : xJ P w K mg base CX0 1 f fd ["_law_some", "_law_names_here"] (zEh K):=by
 specialize xG
 ·obtain⟨a,R,rows,ns,n0,n1,n2,n19,n20,n21,rfl,_⟩:=h;rfl
 obtain⟨a,R,rows,ns,n0,n1,n2,n19,n20,n21,rfl,ha,l112,bd,eR,g0,g1,g2,g19,g20,g21,q⟩:=h;obtain⟨v26,a26,_⟩:=zGl bd (k:=26) (by decide) (by lia);have cc:∀{i:Nat}{x:aC},ns[i]?=some x->atI (ns.map V.str) (i:Int)=some (.str x):=λ{i x} h=>zFk (by rw[av,h]; rfl);have c0:=cc g0;have c1:=cc g1;have c2:=cc g2;have c19:=cc g19;have c20:=cc g20;have c21:=cc g21
 refine'⟨_,(zD (yN 2 xG.nd ?_)
   (zD (yN 3 xG.nd ?_)
   (zD (yN 3 xG.nd (vN tD (pv 3) (tE (zC ?_ (zC (xV (zC zJ (zC ?_ (zC (zNs (pv 2) (vY ?_)) zH)))) (zC ?_ zH))))))
   (zD (yN 3 xG.nd (vN tD (pv 3) ?_))
   (zD (yN 3 xG.nd (vN tD (pv 3) ?_))
   (zD (yN 3 xG.nd (vN tD (pv 3) ?_))
   (zD (yN 3 xG.nd (vN tD (pv 3) ?_))
   (zD (yN 3 xG.nd (vN tD (pv 3) ?_))
   (zD (yN 3 xG.nd (vN tD (pv 3) ?_))
   (zF (zP (vN tD (pv 3) ?_)))))))))))),?_⟩
 nofun
 refine⟨sz2,λq1 hq1=>⟨sz2,λq2 hq2=>⟨sz2,λq3 hq3=>⟨sz3,λsd hsd=>?_⟩⟩⟩⟩;have s1:=zB hq1 (.tup [.int 0,.int 0]);have s2:=zB hq2 (.tup [.int 3,.int 0]);have s3:=zB hq3 (.tup [.int 0,.int 2]);have s4:=zB hsd (.tup [.ref q1,.ref q2,.ref q3]);have s34:=s3.trans s4;have s14:=s1.trans (s2.trans s34);have B:Byd H _ a R sd q1 q2 q3 rows ns [] []:=⟨s14,s14 _ _ ha,s14 _ _ eR,zA,(s2.trans s34) _ _ zA,s34 _ _ zA,s4 _ _ zA,yA.mpr rfl⟩;have L:True:=trivial;generalize upd (upd (upd (upd H q1 (.tup [.int 0,.int 0])) q2 (.tup [.int 3,.int 0])) q3 (.tup [.int 0,.int 2])) sd (.tup [.ref q1,.ref q2,.ref q3])=G0 at B ⊢;clear s14 s34 s4 s3 s2 s1 hq1 hq2 hq3 hsd;refine⟨_,rfl,R,_,_,.str n20,rfl,rfl,.inl (SqL.of B.eR),c20,(by show 4<=sizeLine; decide),λt1 ht1=>?_⟩
 replace B:=B.add (o:=.tup [.str "mark", .str n20,.int 0,.int 0]) ht1 (rT (n:=n20) (x:=0) (y:=0) zA)
 generalize upd G0 t1 (.tup [.str "mark", .str n20,.int 0,.int 0])=G1 at B ⊢;refine⟨_,rfl,R,_,_,.str n0,rfl,rfl,.inl (SqL.of B.eR),c0,(by show 4<=sizeLine; decide),λt2 ht2=>?_⟩
 replace B:=B.add (o:=.tup [.str "mark", .str n0,.int 0,.int 0]) ht2 (rT (n:=n0) (x:=0) (y:=0) zA)
 generalize upd G1 t2 (.tup [.str "mark", .str n0,.int 0,.int 0])=G2 at B ⊢;refine⟨_,rfl,R,_,_,.str n20,rfl,rfl,.inl (SqL.of B.eR),c20,(by show 4<=sizeLine; decide),λt3 ht3=>?_⟩
 replace B:=B.add (o:=.tup [.str "mark", .str n20,.int 1001,.int 0]) ht3 (rT (n:=n20) (x:=1001) (y:=0) zA)
 generalize upd G2 t3 (.tup [.str "mark", .str n20,.int 1001,.int 0])=G3 at B ⊢;refine⟨(by show 4<=sizeLine; decide),λt4 ht4=>?_⟩
 replace B:=B.add (o:=.tup [.str "mark", .str "", .int 0,.int 0]) ht4 (rT (n := "") (x:=0) (y:=0) zA)
 generalize upd G3 t4 (.tup [.str "mark", .str "", .int 0,.int 0])=G4 at B ⊢;refine⟨(by show 4<=sizeLine; decide),λl0 hl0=>?_⟩
 replace B:=B.new (o:=.lst [.ref t1,.ref t2,.ref t3,.ref t4]) hl0
 clear L;have L:upd G4 l0 (.lst [.ref t1,.ref t2,.ref t3,.ref t4]) l0=some (.lst [.ref t1,.ref t2,.ref t3,.ref t4]):=zA;generalize upd G4 l0 (.lst [.ref t1,.ref t2,.ref t3,.ref t4])=G5 at B L ⊢;refine⟨_,rfl,_,rfl,R,_,_,.str n20,rfl,rfl,.inl (SqL.of B.eR),c20,_,rfl,sz3,λt5 ht5=>?_⟩
 replace L:=zB ht5 (.tup [.str "bank", .str n20,.ref sd]) _ _ L
 replace B:=B.add (o:=.tup [.str "bank", .str n20,.ref sd]) ht5 ((B.new ht5).bank zA)
 generalize upd G5 t5 (.tup [.str "bank", .str n20,.ref sd])=G6 at B L ⊢;refine⟨_,rfl,R,_,_,.str n20,rfl,rfl,.inl (SqL.of B.eR),c20,_,rfl,_,rfl,_,rfl,sd,_,_,_,rfl,SqT.of B.sd,rfl,λz hz=>?_⟩
 replace L:=zB hz (.tup [.ref q3,.ref q2,.ref q1]) _ _ L
 replace B:=B.new (o:=.tup [.ref q3,.ref q2,.ref q1]) hz
 have ez:upd G6 z (.tup [.ref q3,.ref q2,.ref q1]) z=some (.tup [.ref q3,.ref q2,.ref q1]):=zA;generalize upd G6 z (.tup [.ref q3,.ref q2,.ref q1])=G7 at B L ez ⊢;refine⟨sz3,λt6 ht6=>?_⟩
 replace L:=zB ht6 (.tup [.str "bank", .str n20,.ref z]) _ _ L
 replace B:=B.add (o:=.tup [.str "bank", .str n20,.ref z]) ht6 ((B.new ht6).bankR (zB ht6 _ _ _ ez) zA)
 generalize upd G7 t6 (.tup [.str "bank", .str n20,.ref z])=G8 at B L ⊢;refine⟨_,rfl,R,_,_,.str n2,rfl,rfl,.inl (SqL.of B.eR),c2,_,rfl,sz3,λt7 ht7=>?_⟩
 replace L:=zB ht7 (.tup [.str "bank", .str n2,.ref sd]) _ _ L
 replace B:=B.add (o:=.tup [.str "bank", .str n2,.ref sd]) ht7 ((B.new ht7).bank zA)
 generalize upd G8 t7 (.tup [.str "bank", .str n2,.ref sd])=G9 at B L ⊢;refine⟨sz3,λl1 hl1=>?_⟩;refine⟨l0,l1,[.ref t1,.ref t2,.ref t3,.ref t4],[.ref t5,.ref t6,.ref t7],rfl,rfl,zB hl1 _ _ _ L,zA,sQ (by show 7<=1000; decide),λk1 hk1=>?_⟩;rw[show([.ref t1,.ref t2,.ref t3,.ref t4]++[.ref t5,.ref t6,.ref t7]:List V)=[.ref t1,.ref t2,.ref t3,.ref t4,.ref t5,.ref t6,.ref t7] from rfl]
 replace B:=(B.new (o:=.lst [.ref t5,.ref t6,.ref t7]) hl1).new (o:=.lst [.ref t1,.ref t2,.ref t3,.ref t4,.ref t5,.ref t6,.ref t7]) hk1
 clear L;have L:upd (upd G9 l1 (.lst [.ref t5,.ref t6,.ref t7])) k1 (.lst [.ref t1,.ref t2,.ref t3,.ref t4,.ref t5,.ref t6,.ref t7]) k1=some (.lst [.ref t1,.ref t2,.ref t3,.ref t4,.ref t5,.ref t6,.ref t7]):=zA;generalize upd (upd G9 l1 (.lst [.ref t5,.ref t6,.ref t7])) k1 (.lst [.ref t1,.ref t2,.ref t3,.ref t4,.ref t5,.ref t6,.ref t7])=G10 at B L ⊢;refine⟨_,rfl,sz3,λt8 ht8=>?_⟩
 replace L:=zB ht8 (.tup [.str "sail", .int 1,.int 1]) _ _ L
 replace B:=B.add (o:=.tup [.str "sail", .int 1,.int 1]) ht8 (zHo (x:=1) (y:=1) zA)
 generalize upd G10 t8 (.tup [.str "sail", .int 1,.int 1])=G11 at B L ⊢;refine⟨_,rfl,sz3,λt9 ht9=>?_⟩
 replace L:=zB ht9 (.tup [.str "sail", .int 1,.int (-1001)]) _ _ L
 replace B:=B.add (o:=.tup [.str "sail", .int 1,.int (-1001)]) ht9 (zHo (x:=1) (y:=(-1001)) zA)
 generalize upd G11 t9 (.tup [.str "sail", .int 1,.int (-1001)])=G12 at B L ⊢;refine⟨sz2,λt10 ht10=>?_⟩
 replace L:=zB ht10 (.tup [.str "strike", .int 25]) _ _ L
 replace B:=B.add (o:=.tup [.str "strike", .int 25]) ht10 (zCk (k:=25) zA)
 generalize upd G12 t10 (.tup [.str "strike", .int 25])=G13 at B L ⊢;refine⟨_,rfl,R,_,_,.str n0,rfl,rfl,.inl (SqL.of B.eR),c0,_,rfl,R,_,_,.str n1,rfl,rfl,.inl (SqL.of B.eR),c1,(by show 4<=sizeLine; decide),λt11 ht11=>?_⟩
 replace L:=zB ht11 (.tup [.str "range", .int 13,.str n0,.str n1]) _ _ L
 replace B:=B.add (o:=.tup [.str "range", .int 13,.str n0,.str n1]) ht11 (qV (m:=13) (l:=n0) (r:=n1) zA)
 generalize upd G13 t11 (.tup [.str "range", .int 13,.str n0,.str n1])=G14 at B L ⊢;refine⟨(by show 4<=sizeLine; decide),λl2 hl2=>?_⟩;refine⟨k1,l2,[.ref t1,.ref t2,.ref t3,.ref t4,.ref t5,.ref t6,.ref t7],[.ref t8,.ref t9,.ref t10,.ref t11],rfl,rfl,zB hl2 _ _ _ L,zA,sQ (by show 11<=1000; decide),λk2 hk2=>?_⟩;rw[show([.ref t1,.ref t2,.ref t3,.ref t4,.ref t5,.ref t6,.ref t7]++[.ref t8,.ref t9,.ref t10,.ref t11]:List V)=[.ref t1,.ref t2,.ref t3,.ref t4,.ref t5,.ref t6,.ref t7,.ref t8,.ref t9,.ref t10,.ref t11] from rfl]
 replace B:=(B.new (o:=.lst [.ref t8,.ref t9,.ref t10,.ref t11]) hl2).new (o:=.lst [.ref t1,.ref t2,.ref t3,.ref t4,.ref t5,.ref t6,.ref t7,.ref t8,.ref t9,.ref t10,.ref t11]) hk2
 clear L;have L:upd (upd G14 l2 (.lst [.ref t8,.ref t9,.ref t10,.ref t11])) k2 (.lst [.ref t1,.ref t2,.ref t3,.ref t4,.ref t5,.ref t6,.ref t7,.ref t8,.ref t9,.ref t10,.ref t11]) k2=some (.lst [.ref t1,.ref t2,.ref t3,.ref t4,.ref t5,.ref t6,.ref t7,.ref t8,.ref t9,.ref t10,.ref t11]):=zA;generalize upd (upd G14 l2 (.lst [.ref t8,.ref t9,.ref t10,.ref t11])) k2 (.lst [.ref t1,.ref t2,.ref t3,.ref t4,.ref t5,.ref t6,.ref t7,.ref t8,.ref t9,.ref t10,.ref t11])=G15 at B L ⊢;refine⟨_,rfl,_,rfl,R,_,_,.str n0,rfl,rfl,.inl (SqL.of B.eR),c0,_,rfl,R,_,_,.str n1,rfl,rfl,.inl (SqL.of B.eR),c1,(by show 4<=sizeLine; decide),λt12 ht12=>?_⟩
 replace L:=zB ht12 (.tup [.str "range", .int 0,.str n0,.str n1]) _ _ L
 replace B:=B.add (o:=.tup [.str "range", .int 0,.str n0,.str n1]) ht12 (qV (m:=0) (l:=n0) (r:=n1) zA)
 generalize upd G15 t12 (.tup [.str "range", .int 0,.str n0,.str n1])=G16 at B L ⊢;refine⟨_,rfl,R,_,_,.str n0,rfl,rfl,.inl (SqL.of B.eR),c0,sz2,λu13 hu13=>?_⟩
 replace L:=zB hu13 (.tup [.int 1,.int 0]) _ _ L
 replace B:=B.new (o:=.tup [.int 1,.int 0]) hu13
 have e13u:upd G16 u13 (.tup [.int 1,.int 0]) u13=some (.tup [.int 1,.int 0]):=zA;generalize upd G16 u13 (.tup [.int 1,.int 0])=G17 at B L e13u ⊢;refine⟨sz2,λw13 hw13=>?_⟩
 replace L:=zB hw13 (.tup [.int 0,.int 1]) _ _ L
 replace e13u:=zB hw13 (.tup [.int 0,.int 1]) _ _ e13u
 replace B:=B.new (o:=.tup [.int 0,.int 1]) hw13
 have e13w:upd G17 w13 (.tup [.int 0,.int 1]) w13=some (.tup [.int 0,.int 1]):=zA;generalize upd G17 w13 (.tup [.int 0,.int 1])=G18 at B L e13u e13w ⊢;refine⟨(by show 5<=sizeLine; decide),λt13 ht13=>?_⟩
 replace L:=zB ht13 (.tup [.str "bearing", .int 0,.str n0,.ref u13,.ref w13]) _ _ L
 replace B:=B.add (o:=.tup [.str "bearing", .int 0,.str n0,.ref u13,.ref w13]) ht13 (rO (m:=0) (n:=n0) zA (zB ht13 _ _ _ e13u) (zB ht13 _ _ _ e13w))
 generalize upd G18 t13 (.tup [.str "bearing", .int 0,.str n0,.ref u13,.ref w13])=G19 at B L ⊢;refine⟨sz2,λl3 hl3=>?_⟩;refine⟨k2,l3,[.ref t1,.ref t2,.ref t3,.ref t4,.ref t5,.ref t6,.ref t7,.ref t8,.ref t9,.ref t10,.ref t11],[.ref t12,.ref t13],rfl,rfl,zB hl3 _ _ _ L,zA,sQ (by show 13<=1000; decide),λk3 hk3=>?_⟩;rw[show([.ref t1,.ref t2,.ref t3,.ref t4,.ref t5,.ref t6,.ref t7,.ref t8,.ref t9,.ref t10,.ref t11]++[.ref t12,.ref t13]:List V)=[.ref t1,.ref t2,.ref t3,.ref t4,.ref t5,.ref t6,.ref t7,.ref t8,.ref t9,.ref t10,.ref t11,.ref t12,.ref t13] from rfl]
 replace B:=(B.new (o:=.lst [.ref t12,.ref t13]) hl3).new (o:=.lst [.ref t1,.ref t2,.ref t3,.ref t4,.ref t5,.ref t6,.ref t7,.ref t8,.ref t9,.ref t10,.ref t11,.ref t12,.ref t13]) hk3
 clear L;have L:upd (upd G19 l3 (.lst [.ref t12,.ref t13])) k3 (.lst [.ref t1,.ref t2,.ref t3,.ref t4,.ref t5,.ref t6,.ref t7,.ref t8,.ref t9,.ref t10,.ref t11,.ref t12,.ref t13]) k3=some (.lst [.ref t1,.ref t2,.ref t3,.ref t4,.ref t5,.ref t6,.ref t7,.ref t8,.ref t9,.ref t10,.ref t11,.ref t12,.ref t13]):=zA;generalize upd (upd G19 l3 (.lst [.ref t12,.ref t13])) k3 (.lst [.ref t1,.ref t2,.ref t3,.ref t4,.ref t5,.ref t6,.ref t7,.ref t8,.ref t9,.ref t10,.ref t11,.ref t12,.ref t13])=G20 at B L ⊢;refine⟨_,rfl,_,rfl,R,_,_,.str n0,rfl,rfl,.inl (SqL.of B.eR),c0,sz2,λu14 hu14=>?_⟩
 replace L:=zB hu14 (.tup [.int 1,.int 0]) _ _ L
 replace B:=B.new (o:=.tup [.int 1,.int 0]) hu14
 have e14u:upd G20 u14 (.tup [.int 1,.int 0]) u14=some (.tup [.int 1,.int 0]):=zA;generalize upd G20 u14 (.tup [.int 1,.int 0])=G21 at B L e14u ⊢;refine⟨sz2,λw14 hw14=>?_⟩
 replace L:=zB hw14 (.tup [.int 1,.int 0]) _ _ L
 replace e14u:=zB hw14 (.tup [.int 1,.int 0]) _ _ e14u
 replace B:=B.new (o:=.tup [.int 1,.int 0]) hw14
 have e14w:upd G21 w14 (.tup [.int 1,.int 0]) w14=some (.tup [.int 1,.int 0]):=zA;generalize upd G21 w14 (.tup [.int 1,.int 0])=G22 at B L e14u e14w ⊢;refine⟨(by show 5<=sizeLine; decide),λt14 ht14=>?_⟩
 replace L:=zB ht14 (.tup [.str "bearing", .int 0,.str n0,.ref u14,.ref w14]) _ _ L
 replace B:=B.add (o:=.tup [.str "bearing", .int 0,.str n0,.ref u14,.ref w14]) ht14 (rO (m:=0) (n:=n0) zA (zB ht14 _ _ _ e14u) (zB ht14 _ _ _ e14w))
 generalize upd G22 t14 (.tup [.str "bearing", .int 0,.str n0,.ref u14,.ref w14])=G23 at B L ⊢;refine⟨_,rfl,R,_,_,.str n0,rfl,rfl,.inl (SqL.of B.eR),c0,_,rfl,R,_,_,.str n0,rfl,rfl,.inl (SqL.of B.eR),c0,(by show 4<=sizeLine; decide),λt15 ht15=>?_⟩
 replace L:=zB ht15 (.tup [.str "range", .int 0,.str n0,.str n0]) _ _ L
 replace B:=B.add (o:=.tup [.str "range", .int 0,.str n0,.str n0]) ht15 (qV (m:=0) (l:=n0) (r:=n0) zA)
 generalize upd G23 t15 (.tup [.str "range", .int 0,.str n0,.str n0])=G24 at B L ⊢;refine⟨sz2,λl4 hl4=>?_⟩;refine⟨k3,l4,[.ref t1,.ref t2,.ref t3,.ref t4,.ref t5,.ref t6,.ref t7,.ref t8,.ref t9,.ref t10,.ref t11,.ref t12,.ref t13],[.ref t14,.ref t15],rfl,rfl,zB hl4 _ _ _ L,zA,sQ (by show 15<=1000; decide),λk4 hk4=>?_⟩;rw[show([.ref t1,.ref t2,.ref t3,.ref t4,.ref t5,.ref t6,.ref t7,.ref t8,.ref t9,.ref t10,.ref t11,.ref t12,.ref t13]++[.ref t14,.ref t15]:List V)=[.ref t1,.ref t2,.ref t3,.ref t4,.ref t5,.ref t6,.ref t7,.ref t8,.ref t9,.ref t10,.ref t11,.ref t12,.ref t13,.ref t14,.ref t15] from rfl]
 replace B:=(B.new (o:=.lst [.ref t14,.ref t15]) hl4).new (o:=.lst [.ref t1,.ref t2,.ref t3,.ref t4,.ref t5,.ref t6,.ref t7,.ref t8,.ref t9,.ref t10,.ref t11,.ref t12,.ref t13,.ref t14,.ref t15]) hk4
 clear L;have L:upd (upd G24 l4 (.lst [.ref t14,.ref t15])) k4 (.lst [.ref t1,.ref t2,.ref t3,.ref t4,.ref t5,.ref t6,.ref t7,.ref t8,.ref t9,.ref t10,.ref t11,.ref t12,.ref t13,.ref t14,.ref t15]) k4=some (.lst [.ref t1,.ref t2,.ref t3,.ref t4,.ref t5,.ref t6,.ref t7,.ref t8,.ref t9,.ref t10,.ref t11,.ref t12,.ref t13,.ref t14,.ref t15]):=zA;generalize upd (upd G24 l4 (.lst [.ref t14,.ref t15])) k4 (.lst [.ref t1,.ref t2,.ref t3,.ref t4,.ref t5,.ref t6,.ref t7,.ref t8,.ref t9,.ref t10,.ref t11,.ref t12,.ref t13,.ref t14,.ref t15])=G25 at B L ⊢;refine⟨_,rfl,_,rfl,a,_,_,_,rfl,rfl,.inl (SqL.of B.eA),a26,_,_,rfl,rfl,(by show(0:Int)<24; decide),_,_,rfl,rfl,sz2,λt16 ht16=>?_⟩
 replace L:=zB ht16 (.tup [.str "strike", .int (1+v26%24)]) _ _ L
 replace B:=B.add (o:=.tup [.str "strike", .int (1+v26%24)]) ht16 (zCk (k:=1+v26%24) zA)
 generalize upd G25 t16 (.tup [.str "strike", .int (1+v26%24)])=G26 at B L ⊢;refine⟨_,rfl,R,_,_,.str n0,rfl,rfl,.inl (SqL.of B.eR),c0,sz2,λu17 hu17=>?_⟩
 replace L:=zB hu17 (.tup [.int 1,.int 0]) _ _ L
 replace B:=B.new (o:=.tup [.int 1,.int 0]) hu17
 have e17u:upd G26 u17 (.tup [.int 1,.int 0]) u17=some (.tup [.int 1,.int 0]):=zA;generalize upd G26 u17 (.tup [.int 1,.int 0])=G27 at B L e17u ⊢;refine⟨sz2,λw17 hw17=>?_⟩
 replace L:=zB hw17 (.tup [.int 0,.int 1]) _ _ L
 replace e17u:=zB hw17 (.tup [.int 0,.int 1]) _ _ e17u
 replace B:=B.new (o:=.tup [.int 0,.int 1]) hw17
 have e17w:upd G27 w17 (.tup [.int 0,.int 1]) w17=some (.tup [.int 0,.int 1]):=zA;generalize upd G27 w17 (.tup [.int 0,.int 1])=G28 at B L e17u e17w ⊢;refine⟨(by show 5<=sizeLine; decide),λt17 ht17=>?_⟩
 replace L:=zB ht17 (.tup [.str "bearing", .int 12,.str n0,.ref u17,.ref w17]) _ _ L
 replace B:=B.add (o:=.tup [.str "bearing", .int 12,.str n0,.ref u17,.ref w17]) ht17 (rO (m:=12) (n:=n0) zA (zB ht17 _ _ _ e17u) (zB ht17 _ _ _ e17w))
 generalize upd G28 t17 (.tup [.str "bearing", .int 12,.str n0,.ref u17,.ref w17])=G29 at B L ⊢;refine⟨sz2,λl5 hl5=>?_⟩;refine⟨k4,l5,[.ref t1,.ref t2,.ref t3,.ref t4,.ref t5,.ref t6,.ref t7,.ref t8,.ref t9,.ref t10,.ref t11,.ref t12,.ref t13,.ref t14,.ref t15],[.ref t16,.ref t17],rfl,rfl,zB hl5 _ _ _ L,zA,sQ (by show 17<=1000; decide),λk5 hk5=>?_⟩;rw[show([.ref t1,.ref t2,.ref t3,.ref t4,.ref t5,.ref t6,.ref t7,.ref t8,.ref t9,.ref t10,.ref t11,.ref t12,.ref t13,.ref t14,.ref t15]++[.ref t16,.ref t17]:List V)=[.ref t1,.ref t2,.ref t3,.ref t4,.ref t5,.ref t6,.ref t7,.ref t8,.ref t9,.ref t10,.ref t11,.ref t12,.ref t13,.ref t14,.ref t15,.ref t16,.ref t17] from rfl]
 replace B:=(B.new (o:=.lst [.ref t16,.ref t17]) hl5).new (o:=.lst [.ref t1,.ref t2,.ref t3,.ref t4,.ref t5,.ref t6,.ref t7,.ref t8,.ref t9,.ref t10,.ref t11,.ref t12,.ref t13,.ref t14,.ref t15,.ref t16,.ref t17]) hk5
 clear L;have L:upd (upd G29 l5 (.lst [.ref t16,.ref t17])) k5 (.lst [.ref t1,.ref t2,.ref t3,.ref t4,.ref t5,.ref t6,.ref t7,.ref t8,.ref t9,.ref t10,.ref t11,.ref t12,.ref t13,.ref t14,.ref t15,.ref t16,.ref t17]) k5=some (.lst [.ref t1,.ref t2,.ref t3,.ref t4,.ref t5,.ref t6,.ref t7,.ref t8,.ref t9,.ref t10,.ref t11,.ref t12,.ref t13,.ref t14,.ref t15,.ref t16,.ref t17]):=zA;generalize upd (upd G29 l5 (.lst [.ref t16,.ref t17])) k5 (.lst [.ref t1,.ref t2,.ref t3,.ref t4,.ref t5,.ref t6,.ref t7,.ref t8,.ref t9,.ref t10,.ref t11,.ref t12,.ref t13,.ref t14,.ref t15,.ref t16,.ref t17])=G30 at B L ⊢;refine⟨_,rfl,_,rfl,R,_,_,.str n0,rfl,rfl,.inl (SqL.of B.eR),c0,_,rfl,R,_,_,.str n1,rfl,rfl,.inl (SqL.of B.eR),c1,(by show 4<=sizeLine; decide),λt18 ht18=>?_⟩
 replace L:=zB ht18 (.tup [.str "range", .int 0,.str n0,.str n1]) _ _ L
 replace B:=B.add (o:=.tup [.str "range", .int 0,.str n0,.str n1]) ht18 (qV (m:=0) (l:=n0) (r:=n1) zA)
 generalize upd G30 t18 (.tup [.str "range", .int 0,.str n0,.str n1])=G31 at B L ⊢;refine⟨_,rfl,R,_,_,.str n2,rfl,rfl,.inl (SqL.of B.eR),c2,sz2,λt19 ht19=>?_⟩
 replace L:=zB ht19 (.tup [.str "level", .str n2]) _ _ L
 replace B:=B.add (o:=.tup [.str "level", .str n2]) ht19 (zLh (D:=.level n2) rfl zA)
 generalize upd G31 t19 (.tup [.str "level", .str n2])=G32 at B L ⊢;refine⟨_,rfl,R,_,_,.str n20,rfl,rfl,.inl (SqL.of B.eR),c20,_,rfl,sz3,λt20 ht20=>?_⟩
 replace L:=zB ht20 (.tup [.str "bank", .str n20,.ref sd]) _ _ L
 replace B:=B.add (o:=.tup [.str "bank", .str n20,.ref sd]) ht20 ((B.new ht20).bank zA)
 generalize upd G32 t20 (.tup [.str "bank", .str n20,.ref sd])=G33 at B L ⊢;refine⟨sz3,λl6 hl6=>?_⟩;refine⟨k5,l6,[.ref t1,.ref t2,.ref t3,.ref t4,.ref t5,.ref t6,.ref t7,.ref t8,.ref t9,.ref t10,.ref t11,.ref t12,.ref t13,.ref t14,.ref t15,.ref t16,.ref t17],[.ref t18,.ref t19,.ref t20],rfl,rfl,zB hl6 _ _ _ L,zA,sQ (by show 20<=1000; decide),λk6 hk6=>?_⟩;rw[show([.ref t1,.ref t2,.ref t3,.ref t4,.ref t5,.ref t6,.ref t7,.ref t8,.ref t9,.ref t10,.ref t11,.ref t12,.ref t13,.ref t14,.ref t15,.ref t16,.ref t17]++[.ref t18,.ref t19,.ref t20]:List V)=[.ref t1,.ref t2,.ref t3,.ref t4,.ref t5,.ref t6,.ref t7,.ref t8,.ref t9,.ref t10,.ref t11,.ref t12,.ref t13,.ref t14,.ref t15,.ref t16,.ref t17,.ref t18,.ref t19,.ref t20] from rfl]
 replace B:=(B.new (o:=.lst [.ref t18,.ref t19,.ref t20]) hl6).new (o:=.lst [.ref t1,.ref t2,.ref t3,.ref t4,.ref t5,.ref t6,.ref t7,.ref t8,.ref t9,.ref t10,.ref t11,.ref t12,.ref t13,.ref t14,.ref t15,.ref t16,.ref t17,.ref t18,.ref t19,.ref t20]) hk6
 clear L;have L:upd (upd G33 l6 (.lst [.ref t18,.ref t19,.ref t20])) k6 (.lst [.ref t1,.ref t2,.ref t3,.ref t4,.ref t5,.ref t6,.ref t7,.ref t8,.ref t9,.ref t10,.ref t11,.ref t12,.ref t13,.ref t14,.ref t15,.ref t16,.ref t17,.ref t18,.ref t19,.ref t20]) k6=some (.lst [.ref t1,.ref t2,.ref t3,.ref t4,.ref t5,.ref t6,.ref t7,.ref t8,.ref t9,.ref t10,.ref t11,.ref t12,.ref t13,.ref t14,.ref t15,.ref t16,.ref t17,.ref t18,.ref t19,.ref t20]):=zA;generalize upd (upd G33 l6 (.lst [.ref t18,.ref t19,.ref t20])) k6 (.lst [.ref t1,.ref t2,.ref t3,.ref t4,.ref t5,.ref t6,.ref t7,.ref t8,.ref t9,.ref t10,.ref t11,.ref t12,.ref t13,.ref t14,.ref t15,.ref t16,.ref t17,.ref t18,.ref t19,.ref t20])=G34 at B L ⊢;refine⟨_,rfl,_,rfl,R,_,_,.str n21,rfl,rfl,.inl (SqL.of B.eR),c21,_,rfl,sz3,λt21 ht21=>?_⟩
 replace L:=zB ht21 (.tup [.str "bank", .str n21,.ref sd]) _ _ L
 replace B:=B.add (o:=.tup [.str "bank", .str n21,.ref sd]) ht21 ((B.new ht21).bank zA)
 generalize upd G34 t21 (.tup [.str "bank", .str n21,.ref sd])=G35 at B L ⊢;refine⟨_,rfl,R,_,_,.str n19,rfl,rfl,.inl (SqL.of B.eR),c19,sz2,λt22 ht22=>?_⟩
 replace L:=zB ht22 (.tup [.str "unmark", .str n19]) _ _ L
 replace B:=B.add (o:=.tup [.str "unmark", .str n19]) ht22 (zLh (D:=.unmark n19) rfl zA)
 generalize upd G35 t22 (.tup [.str "unmark", .str n19])=G36 at B L ⊢;refine⟨_,rfl,R,_,_,.str n20,rfl,rfl,.inl (SqL.of B.eR),c20,_,rfl,(by show 4<=sizeLine; decide),λt23 ht23=>?_⟩
 replace L:=zB ht23 (.tup [.str "mark", .str n20,.int 1000,.int (-1000)]) _ _ L
 replace B:=B.add (o:=.tup [.str "mark", .str n20,.int 1000,.int (-1000)]) ht23 (rT (n:=n20) (x:=1000) (y:=(-1000)) zA)
 generalize upd G36 t23 (.tup [.str "mark", .str n20,.int 1000,.int (-1000)])=G37 at B L ⊢;refine⟨sz3,λl7 hl7=>?_⟩;refine⟨k6,l7,[.ref t1,.ref t2,.ref t3,.ref t4,.ref t5,.ref t6,.ref t7,.ref t8,.ref t9,.ref t10,.ref t11,.ref t12,.ref t13,.ref t14,.ref t15,.ref t16,.ref t17,.ref t18,.ref t19,.ref t20],[.ref t21,.ref t22,.ref t23],rfl,rfl,zB hl7 _ _ _ L,zA,sQ (by show 23<=1000; decide),λk7 hk7=>?_⟩;rw[show([.ref t1,.ref t2,.ref t3,.ref t4,.ref t5,.ref t6,.ref t7,.ref t8,.ref t9,.ref t10,.ref t11,.ref t12,.ref t13,.ref t14,.ref t15,.ref t16,.ref t17,.ref t18,.ref t19,.ref t20]++[.ref t21,.ref t22,.ref t23]:List V)=[.ref t1,.ref t2,.ref t3,.ref t4,.ref t5,.ref t6,.ref t7,.ref t8,.ref t9,.ref t10,.ref t11,.ref t12,.ref t13,.ref t14,.ref t15,.ref t16,.ref t17,.ref t18,.ref t19,.ref t20,.ref t21,.ref t22,.ref t23] from rfl]
 replace B:=(B.new (o:=.lst [.ref t21,.ref t22,.ref t23]) hl7).new (o:=.lst [.ref t1,.ref t2,.ref t3,.ref t4,.ref t5,.ref t6,.ref t7,.ref t8,.ref t9,.ref t10,.ref t11,.ref t12,.ref t13,.ref t14,.ref t15,.ref t16,.ref t17,.ref t18,.ref t19,.ref t20,.ref t21,.ref t22,.ref t23]) hk7
 clear L;have L:upd (upd G37 l7 (.lst [.ref t21,.ref t22,.ref t23])) k7 (.lst [.ref t1,.ref t2,.ref t3,.ref t4,.ref t5,.ref t6,.ref t7,.ref t8,.ref t9,.ref t10,.ref t11,.ref t12,.ref t13,.ref t14,.ref t15,.ref t16,.ref t17,.ref t18,.ref t19,.ref t20,.ref t21,.ref t22,.ref t23]) k7=some (.lst [.ref t1,.ref t2,.ref t3,.ref t4,.ref t5,.ref t6,.ref t7,.ref t8,.ref t9,.ref t10,.ref t11,.ref t12,.ref t13,.ref t14,.ref t15,.ref t16,.ref t17,.ref t18,.ref t19,.ref t20,.ref t21,.ref t22,.ref t23]):=zA;generalize upd (upd G37 l7 (.lst [.ref t21,.ref t22,.ref t23])) k7 (.lst [.ref t1,.ref t2,.ref t3,.ref t4,.ref t5,.ref t6,.ref t7,.ref t8,.ref t9,.ref t10,.ref t11,.ref t12,.ref t13,.ref t14,.ref t15,.ref t16,.ref t17,.ref t18,.ref t19,.ref t20,.ref t21,.ref t22,.ref t23])=G38 at B L ⊢;refine⟨_,rfl,_,rfl,R,_,_,.str n21,rfl,rfl,.inl (SqL.of B.eR),c21,(by show 4<=sizeLine; decide),λt24 ht24=>?_⟩
 replace L:=zB ht24 (.tup [.str "mark", .str n21,.int 0,.int 0]) _ _ L
 replace B:=B.add (o:=.tup [.str "mark", .str n21,.int 0,.int 0]) ht24 (rT (n:=n21) (x:=0) (y:=0) zA)
 generalize upd G38 t24 (.tup [.str "mark", .str n21,.int 0,.int 0])=G39 at B L ⊢;refine⟨_,rfl,R,_,_,.str n0,rfl,rfl,.inl (SqL.of B.eR),c0,sz2,λt25 ht25=>?_⟩
 replace L:=zB ht25 (.tup [.str "unmark", .str n0]) _ _ L
 replace B:=B.add (o:=.tup [.str "unmark", .str n0]) ht25 (zLh (D:=.unmark n0) rfl zA)
 generalize upd G39 t25 (.tup [.str "unmark", .str n0])=G40 at B L ⊢;refine⟨sz2,λt26 ht26=>?_⟩
 replace L:=zB ht26 (.tup [.str "strike", .int 26]) _ _ L
 replace B:=B.add (o:=.tup [.str "strike", .int 26]) ht26 (zCk (k:=26) zA)
 generalize upd G40 t26 (.tup [.str "strike", .int 26])=G41 at B L ⊢;refine⟨sz3,λl8 hl8=>?_⟩;refine⟨k7,l8,[.ref t1,.ref t2,.ref t3,.ref t4,.ref t5,.ref t6,.ref t7,.ref t8,.ref t9,.ref t10,.ref t11,.ref t12,.ref t13,.ref t14,.ref t15,.ref t16,.ref t17,.ref t18,.ref t19,.ref t20,.ref t21,.ref t22,.ref t23],[.ref t24,.ref t25,.ref t26],rfl,rfl,zB hl8 _ _ _ L,zA,sQ (by show 26<=1000; decide),λk8 hk8=>?_⟩;rw[show([.ref t1,.ref t2,.ref t3,.ref t4,.ref t5,.ref t6,.ref t7,.ref t8,.ref t9,.ref t10,.ref t11,.ref t12,.ref t13,.ref t14,.ref t15,.ref t16,.ref t17,.ref t18,.ref t19,.ref t20,.ref t21,.ref t22,.ref t23]++[.ref t24,.ref t25,.ref t26]:List V)=[.ref t1,.ref t2,.ref t3,.ref t4,.ref t5,.ref t6,.ref t7,.ref t8,.ref t9,.ref t10,.ref t11,.ref t12,.ref t13,.ref t14,.ref t15,.ref t16,.ref t17,.ref t18,.ref t19,.ref t20,.ref t21,.ref t22,.ref t23,.ref t24,.ref t25,.ref t26] from rfl]
 replace B:=(B.new (o:=.lst [.ref t24,.ref t25,.ref t26]) hl8).new (o:=.lst [.ref t1,.ref t2,.ref t3,.ref t4,.ref t5,.ref t6,.ref t7,.ref t8,.ref t9,.ref t10,.ref t11,.ref t12,.ref t13,.ref t14,.ref t15,.ref t16,.ref t17,.ref t18,.ref t19,.ref t20,.ref t21,.ref t22,.ref t23,.ref t24,.ref t25,.ref t26]) hk8
 exact q k8 _ (1+v26%24) _ B.same zA B.rp (by lia) (by lia)
def zIc(_:ae):Sp:=λvs H Q _=>∃(b dx:ag),vs=[.ref b]/\H b=some (.ins bkC dx []) /\
 ∀(p:ag)(H':Hp),wE (λx=>x=b) H H'->H p=none->zKm bkC H' b p BS.nil [] []->Q .non H'
theorem zPc(F:Fun K "__init__" "Book.__init__" zD2 f fd)(Z:Zs mg)(CB:Cb P w mg base)(yAk:Has P w K mg base "nothing_yet" 1 [] (qI K)):xJ P w K mg base CX0 2 f fd ["self"] (zIc K):=by
 specialize zQp
 ·obtain⟨b,dx,rfl,_⟩:=h;rfl
 obtain⟨b,dx,rfl,hb,q⟩:=h
 refine'⟨_,(zD (zEt CB.state (pv 0) (zJ7 yAk (hr.mono (by decide)) rfl))
   (zD (zEt CB.past (pv 0) ?_)
   (zF (zEt CB.later (pv 0) ?_)))),?_⟩
 nofun
 refine⟨rfl,λd H1 s1 fd0 st=>?_⟩;have hb1:=s1 _ _ hb;exists _,rfl,b,dx,[],rfl,hb1,(by show 0<1000; decide);refine⟨sz0,λp hp=>?_⟩;have nbp:b≠p:=zK zA hp;exists _,rfl,b,dx,_,rfl,(by rw[zG nbp,zA]),(by show 1<1000; decide);refine⟨sz0,λl hl=>?_⟩;have nbl:b≠l:=zK zA hl;have npl:p≠l:=λz=>by
  rw[<- z,zG nbp.symm,zA] at hl;cases hl
 exists _,rfl,b,dx,_,rfl,(by rw[zG nbl,zA]),(by show 2<1000; decide);rw[zWg];have hp1:H1 p=none:=by rw[zG nbp.symm] at hp; exact hp
 have hl1:H1 l=none:=by rw[zG nbl.symm,zG npl.symm,zG nbl.symm] at hl; exact hl
 have sE:wE (λx=>x=b) H1 (upd (upd (upd (upd (upd H1 b (.ins bkC dx (zEd "state" (.ref d) []))) p (.lst [])) b (.ins bkC dx (zEd "past" (.ref p) (zEd "state" (.ref d) [])))) l (.lst [])) b (.ins bkC dx (bkF d p l))):=λx o hx e=>by
  have n1:=zK e hp1;have n2:=zK e hl1;rw[zG hx,zG n2,zG hx,zG n1,zG hx];exact .inl e
 have nd:∀ a kvs,Rd H1 a (.dK kvs)->¬ a=b:=λa kvs h z=>by
  subst z;rcases h with h | ⟨o,h⟩ <;> rw[hb1] at h <;> cases h
 have np:∀ a xs,H1 a=some (.tup xs)->¬ a=b:=λa xs h z=>by
  subst z;rw[hb1] at h;cases h
 refine q p _ ((wE.of s1).trans sE) (s1.free hp1) ⟨dx,d,l,[],[],zA,st.samE sE nd np,?_,?_,rfl,rfl,npl.symm⟩
 ·rw[zG nbp.symm,zG npl,zG nbp.symm,zA]
 ·rw[zG nbl.symm,zA]
def zCw(_:ae):Sp:=λvs H Q _=>∃(b p:ag)(S:BS)(past later:List (Deed×BS)),vs=[.ref b]/\zKm bkC H b p S past later/\zBh S /\
 ∀(c:ag)(zs:List V)(H':Hp),Same H H'->H' c=some (.lst zs)->xX H' (zOc S) zs->Q (.ref c) H'
theorem zNg(F:Fun K "marks" "Book.marks" zCa f fd)(Z:Zs mg)(CB:Cb P w mg base)  : xJ P w K mg base CX0 1 f fd ["self"] (zCw K):=by
 specialize zGi
 ·obtain⟨b,p,S,past,later,rfl,_⟩:=h;rfl
 obtain⟨b,p,S,past,later,rfl,⟨dx,d,l,ps,ls,k⟩,nt,q⟩:=h;obtain⟨m,bk,r,n,st⟩:=k.st;obtain⟨kvs,hm,kv⟩:=id st.ma;have fm:=nt.well.good.few.ma;refine⟨_,(zD (qN (i:=1) zGi.nd rfl (kB rfl) (zN (zV hr) (zAc CB.state (pv 0)) zJ (λ_ _=>rfl)))
   (zF (zP (sN (T:=["name"]) (caps:=[("places", 1)]) ⟨rfl,by decide +kernel,by decide +kernel,rfl,⟨⟨rfl,rfl,dj rfl⟩,bo⟩⟩ rfl (zLy (zQ zKj rfl Z.sorted sK (zC (wR (zJg rfl) rfl Z.list zCs (zC (pv 1) zH)) zH))) (λ_=>(zA2 (i:=0) (show(["name", "places"]:List aC).Nodup by decide +kernel) rfl (dj rfl))) (λ_=>uC) (λ_=>(xV (zC (pv 0) (zC (zQi zPg (zN (zV hr) (pv 1) (pv 0) (λ_ _=>rfl)) yW (λ_ _=>rfl)) (zC (zQi zPg (zN (zV hr) (pv 1) (pv 0) (λ_ _=>rfl)) yW (λ_ _=>rfl)) zH))))))))),?_⟩
 try dsimp only[L2.cxOf]
 refine⟨_,rfl,b,dx,_,_,rfl,k.ob,qG,d,.ref m,rfl,.inl ⟨_,.inr "marks", st.at_,rfl,tM.symm⟩,_,rfl,m,kvs,rfl,hm,λg hg=>?_⟩;rw[zLs kv];have s1:=zB hg (.lst ((S.marks.map (·.1)).map V.str));refine⟨g,_,rfl,SqL.of zA,(by rw[ac]; lia),λt ht=>?_⟩;rw[zBv];obtain⟨ms,hms⟩:∃ ms,ms=vM (tO ((S.marks.map (·.1)).map .inr)) S.marks:=⟨_,rfl⟩;rw[<- hms];have lm:ms.length<=60:=by
  have:=zFs (S:=S);unfold zOc at this;rw[<- hms,ac] at this;lia
 have s2:=s1.trans (zB ht (.lst ((ms.map (·.1)).map V.str)));refine⟨t,rfl,.inl ⟨⟨_,SqL.of zA⟩,λcc D hD=>?_⟩⟩;refine zNn (K:=K) (a:=t) (xs:=(ms.map (·.1)).map V.str) (λi σ zs H'=>Same (upd (upd H g (.lst ((S.marks.map (·.1)).map V.str))) t (.lst ((ms.map (·.1)).map V.str))) H'/\H' D=some (.lst zs)/\xX H' ((ms.take i).map mkD) zs/\zs.length=i/\∃ u:Option V,σ=[u,some (.ref m)])
  ⟨zB hD _,zA,yA.mpr rfl,rfl,none,rfl⟩ (λi σ zs H' _ hq=>⟨SqL.of (hq.1 _ _ zA),hq.2.1⟩) ?_ ?_
 ·rintro i x σ zs H' hi ⟨sH,eD,rp,lz,u,rfl⟩;rw[bw,av,aJ] at hi;obtain⟨e,hx,rfl⟩:=hi;have me:e∈S.marks:=zFg (by rw[<- hms]; exact aF hx);have hil:=(ay.mp hx).1;obtain⟨kv',a,g1,g2,g3⟩:=zQl (st.ma.to (.of (s2.trans sH))) (show zM S e.1=some e.2 from qX nt.nm me);have dg:zR8 H' m (.str e.1) (some (.ref a)):=.inl ⟨kv',.inr e.1,g1,rfl,g2.symm⟩;exists _,rfl,_,rfl,_,rfl,m,.ref a,rfl,dg;refine⟨a,_,0,.int e.2.1,rfl,rfl,.inr (SqT.of g3),rfl,_,rfl,_,rfl,m,.ref a,rfl,dg,a,_,1,.int e.2.2,rfl,rfl,.inr (SqT.of g3),rfl,sz3,λt3 ht3=>?_⟩;have s4:=zB ht3 (.tup [.str e.1,.int e.2.1,.int e.2.2]);have eD4:=s4 _ _ eD;refine⟨eD4,zT (by lia),(sH.trans s4).putNew hD,zA,?_,by rw[al,lz]; rfl,_,rfl⟩;rw[bC,hx,aA];refine(xX.app (rp.to (.of s4)) (.one (yD.mpr ⟨t3,_,rfl,zA,zL.mpr ⟨_,_,rfl,zW.mpr rfl,.two (yF.mpr rfl) (yF.mpr rfl)⟩⟩))).sam (uB eD4) (zC3 eD4)
 ·rintro σ zs H' ⟨sH,eD,rp,_,u,rfl⟩;rw[ac,ac,bW,hms] at rp;exact q D zs H' (s2.trans sH) eD rp
def zCy(_:ae):Sp:=λvs H Q _=>∃(b p:ag)(S:BS)(past later:List (Deed×BS)),vs=[.ref b]/\zKm bkC H b p S past later/\zBh S /\
 ∀(c:ag)(zs:List V)(H':Hp),Same H H'->H' c=some (.lst zs)->xX H' (zI5 (bkE S.banks)) zs->Q (.ref c) H'
theorem zOk(F:Fun K "banks" "Book.banks" zBk f fd)(Z:Zs mg)(CB:Cb P w mg base)  : xJ P w K mg base CX0 1 f fd ["self"] (zCy K):=by
 specialize zNk
 ·obtain⟨b,p,S,past,later,rfl,_⟩:=h;rfl
 obtain⟨b,p,S,past,later,rfl,⟨dx,d,l,ps,ls,k⟩,nt,q⟩:=h;obtain⟨m,bk,r,n,st⟩:=k.st;obtain⟨kvs,hb,kv⟩:=st.ba;have lk:kvs.length=S.banks.length:=by rw[kv.length]; unfold bkE; rw[ac]
 exists _,(zF (zP (zQ (zDb rfl) rfl Z.sorted sK (zC (zDx (zN (zV hr) (zAc CB.state (pv 0)) zJ (λ_ _=>rfl))) zH))))
 try dsimp only[L2.cxOf]
 refine⟨_,rfl,b,dx,_,_,rfl,k.ob,qG,d,.ref bk,rfl,.inl ⟨_,.inr "banks", st.at_,rfl,zAh.symm⟩,bk,_,rfl,hb,λv hv=>?_⟩;have s1:=zB hv (.ext (zA0 v bk));refine⟨v,bk,kvs,rfl,zA,Rd.same hb s1,(by have:=nt.well.good.few.ba; lia),(by rw[kv.keys]; exact nt.oneB),(by rw[kv.keys]; exact nt.ndB),λc as H' s2 hc hl e2 ha=>?_⟩;rw[kv.keys] at e2;exact q c _ H' (s1.trans s2) e2 (qT (kv.to (.of (s1.trans s2))) hl (λj a e h1 h2=>(ha j a e h1 h2).2) _)
def zFx(_:ae):Sp:=λvs H Q _=>∃(b p:ag)(S:BS)(past later:List (Deed×BS)),vs=[.ref b]/\zKm bkC H b p S past later/\Few S /\
 ∀(c:ag)(xs:List V)(H':Hp),Same H H'->H c=none->H' c=some (.lst xs)->xX H' (S.runs.map ptD) xs->Q (.ref c) H'
theorem zQd(F:Fun K "runs" "Book.runs" zD4 f fd)(Z:Zs mg)(CB:Cb P w mg base)  : xJ P w K mg base CX0 1 f fd ["self"] (zFx K):=by
 specialize zIp
 ·obtain⟨b,p,S,past,later,rfl,_⟩:=h;rfl
 obtain⟨b,p,S,past,later,rfl,⟨dx,d,l,ps,ls,k⟩,few,q⟩:=h;obtain⟨m,bk,r,n,st⟩:=k.st;obtain⟨kvs,hr1,kv⟩:=id st.ru;have lr:kvs.length=S.runs.length:=by rw[kv.length,zBe]
 refine⟨_,(zD (qN (i:=1) zIp.nd rfl (kB rfl) (zN (zV hr) (zAc CB.state (pv 0)) zJ (λ_ _=>rfl)))
   (zF (zP (sN (T:=["number"]) (caps:=[("runs", 1)]) ⟨rfl,by decide +kernel,by decide +kernel,rfl,⟨⟨rfl,rfl,dj rfl⟩,bo⟩⟩ rfl (uR rfl Z.range (zC (zQ sC rfl Z.len uU (zC (pv 1) zH)) zH)) (λ_=>(zA2 (i:=0) (show(["number", "runs"]:List aC).Nodup by decide +kernel) rfl (dj rfl))) (λ_=>uC) (λ_=>(zN (zV hr) (pv 1) (pv 0) (λ_ _=>rfl))))))),?_⟩
 try dsimp only[L2.cxOf]
 exists _,rfl,b,dx,_,_,rfl,k.ob,qG,d,.ref r,rfl,.inl ⟨_,.inr "runs", st.at_,rfl,rC.symm⟩,_,rfl,r,kvs,rfl,hr1;refine⟨_,rfl,(by have:=few.ru; lia),(by have:=few.ru; lia),λcc D hD=>zBc (lo:=0) (n:=(kvs.length:Int).toNat) (λi σ ys H'=>Same H H'/\H' D=some (.lst ys)/\xX H' ((S.runs.take i).map ptD) ys/\∃ u:Option V,σ=[u,some (.ref r)])
  ⟨zB hD _,zA,yA.mpr rfl,none,rfl⟩ (λi σ ys H' _ hq=>hq.2.1) ?_ ?_⟩
 ·rintro i σ ys H' hi ⟨sH,eD,rp,u,rfl⟩;have hi':i<S.runs.length:=by lia
  have gi:S.runs[i]?=some S.runs[i]:=aj hi';obtain⟨kv',a,g1,g2,g3⟩:=zTq (st.ru.to (.of sH)) gi;refine⟨_,rfl,_,rfl,r,.ref a,rfl,.inl ⟨kv',.inl (i:Int),g1,by rw[fK]; rfl,g2.symm⟩,eD,zT (by rw[rp.length,ac,bK]; have:=few.ru; lia),sH.putNew hD,zA,?_,_,rfl⟩;rw[bC,gi,aA];have sE:wE (λx=>x=D) H' (upd H' D (.lst (ys++[.ref a]))):=λx o hx e=>.inl (by rw[zG hx]; exact e);have np:∀ b xs,H' b=some (.tup xs)->¬ b=D:=λb xs e z=>by rw[z,eD] at e; cases e
  exact xX.app (rp.sam sE np) (.one ((wD g3).sam sE np))
 ·rintro σ ys H' ⟨sH,eD,rp,u,rfl⟩;rw[show(kvs.length:Int).toNat=S.runs.length by lia,bW] at rp;exact q D ys H' sH hD eD rp
def zCn(_:ae):Sp:=λvs H Q _=>∃(b p:ag)(S:BS)(past later:List (Deed×BS)),vs=[.ref b]/\zKm bkC H b p S past later/\zBh S /\
 ∀(c:ag)(zs:List V)(H':Hp),Same H H'->H' c=some (.lst zs)->xX H' (zI5 (ntE S.notes)) zs->Q (.ref c) H'
theorem zNi(F:Fun K "notes" "Book.notes" zCc f fd)(Z:Zs mg)(CB:Cb P w mg base)  : xJ P w K mg base CX0 1 f fd ["self"] (zCn K):=by
 specialize zNd
 ·obtain⟨b,p,S,past,later,rfl,_⟩:=h;rfl
 obtain⟨b,p,S,past,later,rfl,⟨dx,d,l,ps,ls,k⟩,nt,q⟩:=h;obtain⟨m,bk,r,n,st⟩:=k.st;obtain⟨kvs,hb,kv⟩:=st.no;have lk:kvs.length=S.notes.length:=by rw[kv.length]; unfold ntE; rw[ac]
 exists _,(zF (zP (zQ (zDb rfl) rfl Z.sorted sK (zC (zDx (zN (zV hr) (zAc CB.state (pv 0)) zJ (λ_ _=>rfl))) zH))))
 try dsimp only[L2.cxOf]
 refine⟨_,rfl,b,dx,_,_,rfl,k.ob,qG,d,.ref n,rfl,.inl ⟨_,.inr "notes", st.at_,rfl,rP.symm⟩,n,_,rfl,hb,λv hv=>?_⟩;have s1:=zB hv (.ext (zA0 v n));refine⟨v,n,kvs,rfl,zA,Rd.same hb s1,(by have:=nt.well.good.few.no; lia),(by rw[kv.keys]; exact nt.oneN),(by rw[kv.keys]; exact nt.ndN),λc as H' s2 hc hl e2 ha=>?_⟩;rw[kv.keys] at e2;exact q c _ H' (s1.trans s2) e2 (qT (kv.to (.of (s1.trans s2))) hl (λj a e h1 h2=>(ha j a e h1 h2).2) _)
def zA7(_:ae):Sp:=λvs H Q _=>∃(b p:ag)(S:BS)(past later:List (Deed×BS)),vs=[.ref b]/\zKm bkC H b p S past later/\Q (.int S.coming) H
theorem zK3(F:Fun K "coming" "Book.coming" zAo f fd)(Z:Zs mg)(CB:Cb P w mg base)  : xJ P w K mg base CX0 1 f fd ["self"] (zA7 K):=by
 specialize zLo
 ·obtain⟨b,p,S,past,later,rfl,_⟩:=h;rfl
 obtain⟨b,p,S,past,later,rfl,⟨dx,d,l,ps,ls,k⟩,q⟩:=h;obtain⟨m,bk,r,n,st⟩:=k.st;exists _,(zF (zP (zN (zV hr) (zAc CB.state (pv 0)) zJ (λ_ _=>rfl))))
 try dsimp only[L2.cxOf]
 exact⟨_,rfl,b,dx,_,_,rfl,k.ob,qG,d,.int S.coming,rfl,.inl ⟨_,.inr "coming", st.at_,rfl,zEr.symm⟩,q⟩
theorem zUh{H:Hp} : ∀(n:Nat)(d:Dt){x y:V},dep n d->Rep H d x->Rep H d y->DR H n x y
 | n,.int i,x,y,_,h1,h2=>by rw[yF.mp h1,yF.mp h2]; exact DR.int rfl
 | n,.str z,x,y,_,h1,h2=>by rw[zW.mp h1,zW.mp h2]; exact DR.str rfl
 | 0,.tup _,_,_,h,_,_=>h.elim
 | n+1,.tup l,x,y,h,h1,h2=>by
  obtain⟨a,xs,rfl,ha,ra⟩:=yD.mp h1;obtain⟨b,ys,rfl,hb,rb⟩:=yD.mp h2;have hl:l.length<=900:=h.1;refine .inr ⟨a,b,xs,ys,false,rfl,rfl,ha,hb,by rw[ra.length,rb.length],by rw[ra.length]; lia,λi u v g1 g2=>?_⟩;obtain⟨d,e1,r1⟩:=ra.back g1;obtain⟨d',e2,r2⟩:=rb.back g2;rw[e1] at e2;cases e2;exact zUh n d (h.2 d (aF e1)) r1 r2
theorem zG8{H:Hp}{n:Nat}{l:List Dt}{a b:ag}{xs ys:List V}(h:∀ d∈l,dep n d)(hl:l.length<=900)(ha:H a=some (.lst xs))(hb:H b=some (.lst ys))(ra:xX H l xs)(rb:xX H l ys):DR H (n+1) (.ref a) (.ref b):=by
 refine .inr ⟨a,b,xs,ys,true,rfl,rfl,ha,hb,by rw[ra.length,rb.length],by rw[ra.length]; lia,λi u v g1 g2=>?_⟩;obtain⟨d,e1,r1⟩:=ra.back g1;obtain⟨d',e2,r2⟩:=rb.back g2;rw[e1] at e2;cases e2;exact zUh n d (h d (aF e1)) r1 r2
theorem zUp{H:Hp}{n:Nat}{a b:ag}{x1 x2 y1 y2:V}(ha:H a=some (.lst [x1,x2]))(hb:H b=some (.lst [y1,y2]))(h1:DR H n x1 y1)(h2:DR H n x2 y2):DR H (n+1) (.ref a) (.ref b):=by
 refine .inr ⟨a,b,[x1,x2],[y1,y2],true,rfl,rfl,ha,hb,rfl,(by show 2<=1000; decide),λi u v g1 g2=>?_⟩
 match i,g1,g2 with
 | 0,g1,g2=>cases g1; cases g2; exact h1
 | 1,g1,g2=>cases g1; cases g2; exact h2
def zRr(as:List ag)(kvs:List (Key×V)):List (ag×Key×List V):=(as.zip kvs).map λx=>(x.1,x.2.1,[x.2.2])
theorem zMz{as:List ag}{kvs:List (Key×V)}(h:as.length=kvs.length):(zRr as kvs).map (·.1)=as:=by
 unfold zRr;rw[bw];exact List.map_fst_zip (iu h)
theorem zGe{as:List ag}{kvs:List (Key×V)}(h:as.length=kvs.length):(zRr as kvs).map (·.2.1)=kvs.map (·.1):=by
 unfold zRr;rw[bw];have e:=kM (l₁:=as) (l₂:=kvs) (iu h.symm);rw[<- congrArg (List.map (·.1)) e,bw];rfl
theorem zP4{H:Hp}{as:List ag}{kvs:List (Key×V)}(ha:∀ (j:Nat) (a:ag) (e:Key×V),as[j]?=some a->kvs[j]?=some e->H a=some (.tup [kV e.1,e.2])):∀ t∈zRr as kvs,H t.1=some (.tup (kV t.2.1::t.2.2)):=λt ht=>by
 unfold zRr at ht;obtain⟨x,hx,rfl⟩:=aD.mp ht;obtain⟨j,hj⟩:=cF.mp hx;rw[List.getElem?_zip_eq_some] at hj;exact ha j _ _ hj.1 hj.2
def zE8(_:ae):Sp:=λvs H Q _=>∃(b p d:ag)(S:BS)(past later:List (Deed×BS)),vs=[.ref b,.ref d]/\zKm bkC H b p S past later/\zUx H d S/\zBh S/\∀ H',Sam H H'->Q (.bl true) H'
theorem zLk(F:Fun K "_law_stands" "_law_stands" zAj f fd)(Z:Zs mg)(CB:Cb P w mg base)(yBu:Has P w K mg base "_law_same" 6 ["_law_told", "_law_due_here"] (zEq K))(h_b_notes:zLc P w K mg base zD8 1 ["self"] (zCn K))(h_b_coming:zLc P w K mg base zB5 1 ["self"] (zA7 K))(h_b_runs:zLc P w K mg base zHz 1 ["self"] (zFx K))(yBb:Has P w K mg base "_law_marks_of" 1 ["_law_m"] (zBq K))(h_b_banks:zLc P w K mg base zEf 1 ["self"] (zCy K))(h_b_marks:zLc P w K mg base zD5 1 ["self"] (zCw K)):xJ P w K mg base CX0 7 f fd ["_law_book", "_law_m"] (zE8 K):=by
 specialize zKy
 ·obtain⟨b,p,d,S,past,later,rfl,_⟩:=h;rfl
 obtain⟨b,p,d,S,past,later,rfl,bk,lw,nt,q⟩:=h;have no:∀{d l:ag}{m:aC},m = "marks" \/ m = "banks" \/ m = "runs" \/ m = "coming" \/ m = "notes" ->(bkF d p l).lookup m=none:=λ{d l m} e=>by rcases e with e | e | e | e | e <;> subst e <;> exact zRu (by decide +kernel) (by decide +kernel) (by decide +kernel)
 have few:=nt.well.good.few
 refine'⟨_,(zD (yH (zAz (zAv (vE yBu (hr.mono (by decide)) rfl (zC (tE (zC (wH CB.m_marks h_b_marks (hr.mono (by decide)) (pv 0)) (zC (wH CB.m_banks h_b_banks (hr.mono (by decide)) (pv 0)) zH))) (zC (tE (zC ?_ (zC (zQ zAb rfl Z.sorted sK (zC (wR (zGx rfl) rfl Z.list zCs (zC (zDx (zN (zV hr) (pv 1) zJ (λ_ _=>rfl))) zH)) zH)) zH))) zH))))) (zF (zP zGd)) zS)
   (zD (yH (zAz (zAv (vE yBu (hr.mono (by decide)) rfl (zC (tE (zC (wH CB.m_runs h_b_runs (hr.mono (by decide)) (pv 0)) (zC (wH CB.m_coming h_b_coming (hr.mono (by decide)) (pv 0)) zH))) (zC (tE (zC (zN (zV hr) (pv 1) zJ (λ_ _=>rfl)) (zC (zN (zV hr) (pv 1) zJ (λ_ _=>rfl)) zH))) zH))))) (zF (zP zGd)) zS)
   (zF (zP (vE yBu (hr.mono (by decide)) rfl (zC (wH CB.m_notes h_b_notes (hr.mono (by decide)) (pv 0)) (zC (zQ zAb rfl Z.sorted sK (zC (wR (zGx rfl) rfl Z.list zCs (zC (zDx (zN (zV hr) (pv 1) zJ (λ_ _=>rfl))) zH)) zH)) zH))))))),?_⟩
 nofun
 obtain⟨dx,_,_,_,_,k⟩:=id bk;refine⟨_,rfl,b,dx,_,rfl,k.ob,no (.inl rfl),b,p,S,past,later,rfl,bk,nt,λc1 z1 H1 s1 e1 r1=>?_⟩;have bk1:=bk.to (.of s1);obtain⟨dx1,_,_,_,_,k1⟩:=id bk1;refine⟨_,rfl,b,dx1,_,rfl,k1.ob,no (.inr (.inl rfl)),b,p,S,past,later,rfl,bk1,nt,λc2 z2 H2 s2 e2 r2=>?_⟩;refine⟨sz2,λL1 hL1=>?_⟩;have sL1:=zB hL1 (.lst [.ref c1,.ref c2]);have s12:=s1.trans (s2.trans sL1);have e1':=(s2.trans sL1) _ _ e1;have r1':=r1.to (.of (s2.trans sL1));have e2':=sL1 _ _ e2;have r2':=r2.to (.of sL1);have eL1:upd H2 L1 (.lst [.ref c1,.ref c2]) L1=some (.lst [.ref c1,.ref c2]):=zA;generalize upd H2 L1 (.lst [.ref c1,.ref c2])=H3 at sL1 s12 e1' r1' e2' r2' eL1 ⊢;refine⟨_,rfl,d,S,rfl,lw.to (.of s12),nt,λc3 z3 H4' s3 e3 r3=>?_⟩;have lw4:=(lw.to (.of s12)).to s3;obtain⟨m,bb,r,n,lwA⟩:=lw4;obtain⟨kvs,hb,kv⟩:=lwA.ba;have lk:kvs.length<=60:=by
  have:=nt.well.good.few.ba;rw[kv.length];unfold bkE;rw[ac];exact this
 refine⟨_,rfl,d,.ref bb,rfl,.inl ⟨_,.inr "banks", lwA.at_,rfl,rX.symm⟩,bb,kvs,rfl,hb,λv hv=>?_⟩;have sv:=zB hv (.ext (zA0 v bb));refine⟨v,bb,kvs,rfl,zA,Rd.same hb sv,(by lia),λc4 as H4 s4 hc4 hl e4 ha=>?_⟩;have sv4:=sv.trans s4;have kv4:=kv.to (.of sv4);have at4:∀(j:Nat)(a:ag)(e:Key×V),as[j]?=some a->kvs[j]?=some e->H4 a=some (.tup [kV e.1,e.2]):=λj a e h1 h2=>(ha j a e h1 h2).2;exists c4,zRr as kvs,rfl,SqL.of (by rw[zMz hl]; exact e4),zP4 at4,(by unfold zRr; rw[ac,lq]; lia),(by rw[zGe hl,kv.keys]; exact nt.oneB),(by rw[zGe hl,kv.keys]; exact nt.ndB);rw[zMz hl,zGe hl,kv.keys];intro c5 hc5;have s5:=zB hc5 (.lst ((vM (tO ((bkE S.banks).map (·.1))) as).map V.ref));have s45:=sv4.trans s5;have rr5:xX _ (zI5 (bkE S.banks)) _:=(qT kv4 hl at4 (tO ((bkE S.banks).map (·.1)))).to (.of s5);refine⟨sz2,λL2 hL2=>?_⟩;have sL2:=zB hL2 (.lst [.ref c3,.ref c5]);have sz:=s3.trans (wE.of (s45.trans sL2));refine⟨.ref L1,.ref L2,rfl,?_,λH5 s5'=>⟨_,rfl,yR ?_⟩⟩
 ·refine zUp (n:=4) (sz.lst id eL1) zA (zG8 (n:=3) zRf (by rw[zFs]; have:=few.ma; lia) (sz.lst id e1') (s45.trans sL2 _ _ (e3)) (r1'.to sz) (r3.to (.of (s45.trans sL2)))) (zG8 (n:=3) (zO8 nt) (by rw[zB7]; unfold bkE; rw[ac]; have:=few.ba; lia) (sz.lst id e2') (sL2 _ _ zA) (r2'.to sz) (rr5.to (.of sL2)))
 have s05:Sam H H5:=((wE.of s12).trans sz).trans (.of s5');clear sz s5' sL2 s45 rr5 s5 kv4 at4 sv4 e4 ha sv hv hb kv lwA r3 e3 s3 s12 e1' r1' e2' r2' eL1 sL1 hL1 hL2 hc5 r2 e2 s2 bk1 k1 r1 e1 s1 k hc4;have bk5:=bk.to s05;have lw5:=lw.to s05;obtain⟨dx5,_,_,_,_,k5⟩:=id bk5;refine⟨_,rfl,b,dx5,_,rfl,k5.ob,no (.inr (.inr (.inl rfl))),b,p,S,past,later,rfl,bk5,few,λc6 z6 H6 s6 _ e6 r6=>?_⟩;have bk6:=bk5.to (.of s6);obtain⟨dx6,_,_,_,_,k6⟩:=id bk6;exists _,rfl,b,dx6,_,rfl,k6.ob,no (.inr (.inr (.inr (.inl rfl)))),b,p,S,past,later,rfl,bk6;refine⟨sz2,λL3 hL3=>?_⟩;have sL3:=zB hL3 (.lst [.ref c6,.int S.coming]);obtain⟨m6,b6,r6',n6,lwA6⟩:=lw5.to (.of (s6.trans sL3));obtain⟨rs6,hrs6,rrs6⟩:=lwA6.ru;refine⟨_,rfl,d,.ref r6',rfl,.inl ⟨_,.inr "runs", lwA6.at_,rfl,zA6.symm⟩,_,rfl,d,.int S.coming,rfl,.inl ⟨_,.inr "next", lwA6.at_,rfl,qS.symm⟩,sz2,λL4 hL4=>?_⟩;have sL4:=zB hL4 (.lst [.ref r6',.int S.coming]);refine⟨.ref L3,.ref L4,rfl,?_,λH7 s7=>⟨_,rfl,yR ?_⟩⟩
 ·refine zUp (n:=4) (sL4 _ _ zA) zA (zG8 (n:=3) (λd hd=>?_) (by rw[ac]; have:=few.ru; lia) (sL4 _ _ (sL3 _ _ e6)) (sL4 _ _ hrs6) ((r6.to (.of sL3)).to (.of sL4)) (rrs6.to (.of sL4))) (DR.int rfl);obtain⟨c,_,rfl⟩:=aD.mp hd;exact zL5
 have s07:Sam H H7:=s05.trans (.of (s6.trans (sL3.trans (sL4.trans s7))));have bk7:=bk.to s07;have lw7:=lw.to s07;obtain⟨dx7,_,_,_,_,k7⟩:=id bk7;refine⟨_,rfl,b,dx7,_,rfl,k7.ob,no (.inr (.inr (.inr (.inr rfl)))),b,p,S,past,later,rfl,bk7,nt,λc8 z8 H8 s8 e8 r8=>?_⟩;have lw8:=lw7.to (.of s8);obtain⟨m,bb,r,n,lwA⟩:=lw8;obtain⟨kvs,hb,kv⟩:=lwA.no;have lk:kvs.length<=60:=by
  have:=nt.well.good.few.no;rw[kv.length];unfold ntE;rw[ac];exact this
 refine⟨_,rfl,d,.ref n,rfl,.inl ⟨_,.inr "notes", lwA.at_,rfl,tI.symm⟩,n,kvs,rfl,hb,λv hv=>?_⟩;have sv:=zB hv (.ext (zA0 v n));refine⟨v,n,kvs,rfl,zA,Rd.same hb sv,(by lia),λc4 as H4 s4 hc4 hl e4 ha=>?_⟩;have sv4:=sv.trans s4;have kv4:=kv.to (.of sv4);have at4:∀(j:Nat)(a:ag)(e:Key×V),as[j]?=some a->kvs[j]?=some e->H4 a=some (.tup [kV e.1,e.2]):=λj a e h1 h2=>(ha j a e h1 h2).2;exists c4,zRr as kvs,rfl,SqL.of (by rw[zMz hl]; exact e4),zP4 at4,(by unfold zRr; rw[ac,lq]; lia),(by rw[zGe hl,kv.keys]; exact nt.oneN),(by rw[zGe hl,kv.keys]; exact nt.ndN);rw[zMz hl,zGe hl,kv.keys];intro c5 hc5;have s5:=zB hc5 (.lst ((vM (tO ((ntE S.notes).map (·.1))) as).map V.ref));have s45:=sv4.trans s5;have rr5:xX _ (zI5 (ntE S.notes)) _:=(qT kv4 hl at4 (tO ((ntE S.notes).map (·.1)))).to (.of s5);exact⟨.ref c8,.ref c5,rfl,zG8 (n:=4) (zRk nt) (by rw[zB7]; unfold ntE; rw[ac]; have:=few.no; lia) (s45 _ _ e8) zA (r8.to (.of s45)) rr5,λH9 s9=>q H9 ((s07.trans (.of (s8.trans s45))).trans (.of s9))⟩
def zKb(_:ae):Sp:=λvs H Q E=>∃(b p:ag)(v:V)(S:BS)(D:Deed)(past later:List (Deed×BS)),vs=[.ref b,v]/\zKm bkC H b p S past later/\Rep H D.dt v/\zK2 D/\zMk S/\past.length<=500 /\
 (zR S D=none->∀(H':Hp),wE (Bp b p) H H'->zKm bkC H' b p (aft S D) (past++[(D,S)]) []->Q (if S.coming=(aft S D).coming then .non else .int S.coming) H')/\∀ c,zR S D=some c->∀ H',Sam H H'->E (.ref (axC c)) none H'
theorem zRc(F:Fun K "deed" "Book.deed" zEa f fd)(Z:Zs mg)(CB:Cb P w mg base)(h_b_coming:zLc P w K mg base zB5 1 ["self"] (zA7 K))(yBo:qH P w K mg base "after" 5 ["state", "row"] (zGm K)):xJ P w K mg base (CX1 P w) 6 f fd ["self", "row"] (zKb K):=by
 refine F.okX zFa (λvs H Q E h=>?_) (λcdv A outer s H vs Q E hr h=>?_)
 ·obtain⟨b,p,v,S,D,past,later,rfl,_⟩:=h;rfl
 obtain⟨b,p,v,S,D,past,later,rfl,bk,hv,tm,wl,hl,q,bad⟩:=h;obtain⟨dx,d,l,ps,ls,k⟩:=bk;have no:∀{d l:ag}{m:aC},m = "coming" ->(bkF d p l).lookup m=none:=λ{d l m} e=>by subst e; exact zRu (by decide +kernel) (by decide +kernel) (by decide +kernel)
 refine'⟨_,(zD (PS.nox (yN 2 zFa.nd (wH CB.m_coming h_b_coming (hr.mono (by decide)) (pv 0))))
   (zD (yN 3 zFa.nd (yE (λ_=>E) yBo zZ (hr.mono (by decide)) rfl (zC (zAc CB.state (pv 0)) (zC (pv 1) zH))))
   (zD (PS.nox (zX (zF7 (zAc CB.past (pv 0)) (zC (xV (zC (pv 1) (zC (zAc CB.state (pv 0)) zH))) zH))))
   (zD (PS.nox (zEt CB.state (pv 0) (pv 3)))
   (zD (PS.nox (zEt CB.later (pv 0) ?_))
   (zF (PS.nox (zP (tH (yK zVq (wH CB.m_coming h_b_coming (hr.mono (by decide)) (pv 0)) (pv 2) (xB _)) zQr (pv 2)))))))))),?_⟩
 nofun
 exists _,rfl,b,dx,_,rfl,k.ob,no rfl,b,p,S,past,later,rfl,⟨dx,d,l,ps,ls,k⟩;refine⟨_,rfl,b,dx,_,_,rfl,k.ob,qG,_,rfl,d,v,S,D,rfl,trivial,k.st,hv,tm,wl,λjn d' H1 s1 hd' st'=>?_,bad⟩;have k1:=k.to s1;have hv1:=hv.to s1;refine⟨_,rfl,b,dx,_,_,rfl,k1.ob,zVv,.inl ⟨rfl,_,SqL.of k1.pa⟩,_,rfl,_,rfl,b,dx,_,_,rfl,k1.ob,qG,sz2,λt ht=>?_⟩;have s2:=zB ht (.tup [v,.ref d]);have k2:=k1.to (.of s2);exists p,ps,.ref t,rfl,rfl,k2.pa,zT (by rw[k2.pp.len]; lia);have nbp:b≠p:=zY5 k2.ob k2.pa (λz=>nomatch z);have e3:upd (upd H1 t (.tup [v,.ref d])) p (.lst (ps++[.ref t])) b=some (.ins bkC dx (bkF d p l)):=by rw[zG nbp]; exact k2.ob
 exists _,rfl,_,rfl,b,dx,_,rfl,e3,(by show 3<1000; decide);rw[zIn];refine⟨sz0,λg hg=>?_⟩;have nbg:b≠g:=zK zA hg;have npg:p≠g:=λz=>by
  rw[<- z,zG nbp.symm,zA] at hg;cases hg
 exists _,rfl,b,dx,_,rfl,(by rw[zG nbg,zA]),(by show 3<1000; decide);rw[zKl];have hgt:(upd H1 t (.tup [v,.ref d])) g=none:=by rw[zG nbg.symm,zG npg.symm] at hg; exact hg
 have sE:wE (Bp b p) (upd H1 t (.tup [v,.ref d])) (upd (upd (upd (upd (upd H1 t (.tup [v,.ref d])) p (.lst (ps++[.ref t]))) b (.ins bkC dx (bkF d' p l))) g (.lst [])) b (.ins bkC dx (bkF d' p g))):=λx o hx e=>by
  have n1:x≠b:=λz=>hx (.inl z);have n2:x≠p:=λz=>hx (.inr z);rw[zG n1,zG (zK e hgt),zG n1,zG n2];exact .inl e
 have nd:=zY7 k2.ob k2.pa;have np:=zWk k2.ob k2.pa;have st2:=st'.to (.of s2);have BK:zKm bkC (upd (upd (upd (upd (upd H1 t (.tup [v,.ref d])) p (.lst (ps++[.ref t]))) b (.ins bkC dx (bkF d' p l))) g (.lst [])) b (.ins bkC dx (bkF d' p g))) b p (aft S D) (past++[(D,S)]) []:=by
  refine⟨dx,d',g,ps++[.ref t],[],zA,st2.samE sE nd np,?_,?_,?_,rfl,npg.symm⟩
  ·rw[zG nbp.symm,zG npg,zG nbp.symm,zA]
  ·rw[zG nbg.symm,zA]
  ·exact sG.app (sE.tup (np _ _ zA) zA) ((hv1.to (.of s2)).sam sE np) (k2.st.samE sE nd np) (k2.pp.samE sE nd np)
 have fin:=q jn _ (((s1.trans (.of s2)).wider (λ_ z=>z.elim)).trans sE) BK;exists _,rfl,b,dx,_,rfl,zA,no rfl,b,p,aft S D,_,[],rfl,BK,_,rfl,rfl,_,rfl;refine ifE (λe=>?_) (λe=>?_)
 ·rw[if_pos e.symm] at fin;exact fin
 ·rw[if_neg (λz=>e z.symm)] at fin;exact⟨_,rfl,fin⟩
def zI8(_:ae):Sp:=λvs H Q _=>∃(b p:ag)(v:V)(S:BS)(D:Deed)(past later:List (Deed×BS)),vs=[.ref b,v]/\zKm bkC H b p S past later/\Rep H D.dt v/\zK2 D/\zMk S/\past.length<=500 /\
 (zR S D=none->∀(t:ag)(H':Hp),wE (Bp b p) H H'->zKm bkC H' b p (aft S D) (past++[(D,S)]) []->H' t=some (.tup [.str "", zNh S D])->Q (.ref t) H') /\
 ∀ c,zR S D=some c->∀(t:ag)(H':Hp),Sam H H'->H' t=some (.tup [.str (zIt c),.non])->Q (.ref t) H'
theorem zOx(F:Fun K "_law_done" "_law_done" zD1 f fd)(Z:Zs mg)(CB:Cb P w mg base)(h_b_deed:zU7 P w K mg base zKs 6 ["self", "row"] (zKb K))(yBf:zZo P w K mg base "_law_refused" 1 ["_law_e"] (zDd K)):xJ P w K mg base CX0 7 f fd ["_law_book", "_law_deed"] (zI8 K):=by
 specialize zIy
 ·obtain⟨b,p,v,S,D,past,later,rfl,_⟩:=h;rfl
 obtain⟨b,p,v,S,D,past,later,rfl,bk,hv,tm,wl,hl,q,bad⟩:=h;obtain⟨dx,d,l,ps,ls,k⟩:=id bk;have no:∀{d l:ag}{m:aC},m = "deed" ->(bkF d p l).lookup m=none:=λ{d l m} e=>by subst e; exact zRu (by decide +kernel) (by decide +kernel) (by decide +kernel)
 exists _,(zF (zXd (i:=2) (λ_ EE=>(zF (zP (xV (zC zJ (zC (zT0 EE CB.m_deed h_b_deed zR3 (hr.mono (by decide)) (pv 0) (zC (pv 1) zH)) zH)))))) CB.gMarkError zIy.nd rfl rfl (λ_=>(zF (zP (xV (zC (zTv yBf (hr.mono (by decide)) rfl (zC (pv 2) zH)) (zC zQr zH))))))))
 try dsimp only[L2.cxOf]
 refine⟨_,rfl,b,dx,_,rfl,k.ob,no rfl,_,rfl,b,p,v,S,D,past,later,rfl,bk,hv,tm,wl,hl,λjn H1 s1 bk1=>?_,λc jc H1 s1=>?_⟩
 ·refine⟨sz2,λt ht=>?_⟩;have st:=zB ht (.tup [.str "", zNh S D]);exact q jn t _ (s1.trans (.of st)) (bk1.to (.of st)) zA
 ·refine⟨?_,λea he=>?_⟩
  ·cases c
   ·exact CB.t_BadName_MarkError
   ·exact CB.t_Taken_MarkError
   ·exact CB.t_BadPlace_MarkError
   ·exact CB.t_Full_MarkError
   ·exact CB.t_NoMark_MarkError
   ·exact CB.t_Same_MarkError
   ·exact CB.t_Needed_MarkError
   ·exact CB.t_BadBank_MarkError
   ·exact CB.t_NoBank_MarkError
   ·exact CB.t_BadRun_MarkError
   ·exact CB.t_NoRun_MarkError
   ·exact CB.t_NoMoment_MarkError
   ·exact CB.t_BadWay_MarkError
   ·exact CB.t_BadTurn_MarkError
   ·exact CB.t_NoNote_MarkError
  ·have se:=zB he (zTy ea (.ref (axC c)));refine⟨_,rfl,c,rfl,zA,λH2 s2=>⟨sz2,λt ht=>?_⟩⟩;have st:=zB ht (.tup [.str (zIt c),.non]);exact bad c jc t _ (s1.trans (.of ((se.trans s2).trans st))) zA
theorem zOw{i:Int}(h:i.natAbs<=2000):i.natAbs.log2<20:=by
 by_cases e:i.natAbs=0
 ·rw[e]; decide
 ·exact de ((ng e).mpr (show _<2^11 by lia)) (by decide)
theorem tW{i:Int}(h:i.natAbs<=2000):zCg i:=de (zOw h) (by decide)
def zHi(D:Deed):Prop:=zK2 D/\zOs D
theorem zHi.mark{n:aC}{x y:Int}(h:zBg n)(h1:x.natAbs<=2000)(h2:y.natAbs<=2000):zHi (.mark n x y):=⟨⟨h,tW h1,tW h2⟩,.inl trivial⟩
theorem zHi.bank{n:aC}{cs:List (Int×Int)}(h:zBg n)(h1:zOu cs):zHi (.bank n cs):=by
 refine⟨⟨h,?_,λc hc=>?_⟩,.inr (.inl h1)⟩
 ·rcases h1 with ⟨k,_,_,rfl⟩ | rfl <;> exact cE rfl
 ·rcases h1 with ⟨k,_,_,rfl⟩ | rfl <;> simp only[aI,bV,or_false] at hc <;> rcases hc with rfl | rfl | rfl <;> exact⟨zOw (by dsimp only; lia),zOw (by dsimp only; lia)⟩
theorem zHi.sail{x y:Int}(h1:x.natAbs<=2000)(h2:y.natAbs<=2000):zHi (.sail x y):=⟨⟨tW h1,tW h2⟩,.inr (.inr (.inl trivial))⟩
theorem zHi.range{m:Int}{l r:aC}(h:m.natAbs<=2000)(h1:zBg l)(h2:zBg r):zHi (.range m l r):=⟨⟨tW h,h1,h2⟩,.inr (.inr (.inr trivial))⟩
theorem zHi.bearing{m:Int}{n:aC}{a b c d:Int}(h:m.natAbs<=2000)(h1:zBg n)(h2:a.natAbs<=2000)(h3:b.natAbs<=2000)(h4:c.natAbs<=2000)(h5:d.natAbs<=2000):zHi (.bearing m n a b c d):=⟨⟨tW h,h1,tW h2,tW h3,tW h4,tW h5⟩,.inr (.inr (.inr trivial))⟩
theorem zHi.strike{k:Int}(h:k.natAbs<=2000):zHi (.strike k):=⟨tW h,.inr (.inr (.inr trivial))⟩
theorem zHi.unmark{n:aC}(h:zBg n):zHi (.unmark n):=⟨h,.inl trivial⟩
theorem zHi.level{n:aC}(h:zBg n):zHi (.level n):=⟨h,.inr (.inl trivial)⟩
theorem zS1.own{ns:List aC}{Ds:List Deed}{l1:List (aC×Int×Int)}{l2:List (aC×List (Int×Int))}{l3:List (Int×Int)}{l4:List Deed}{c:Nat}(F:zS1 ns Ds l1 l2 l3 l4 c)(okn:∀ n∈ns,wC n):∀ D∈Ds,zHi D:=by
 intro D hD;rw[F.eq] at hD;rcases aN.mp hD with hD | hD
 ·rcases aN.mp hD with hD | hD
  ·rcases aN.mp hD with hD | hD
   ·obtain⟨e,he,rfl⟩:=aD.mp hD;obtain⟨j,hj⟩:=cF.mp he;obtain⟨a1,a2,a3,a4⟩:=(F.p1 j e hj).1;exact .mark (okn _ (eT (by rw[<- F.n1]; exact cz he))).asc (by lia) (by lia)
   ·obtain⟨e,he,rfl⟩:=aD.mp hD;obtain⟨j,hj⟩:=cF.mp he;obtain⟨j8,ej⟩:=F.p2 j e hj;exact .bank (okn _ (i9 (eT (by rw[<- F.n2]; exact cz he)))).asc (.inl ⟨j,by lia,by lia,ej⟩)
  ·obtain⟨e,he,rfl⟩:=aD.mp hD;obtain⟨a1,a2,a3,a4⟩:=F.p3 e he;exact .sail (by lia) (by lia)
 ·rcases F.p4 D hD with ⟨m,i,l,r,rfl,h1,h2,h3,h4,h5⟩ | ⟨m,k,i,n,rfl,h1,h2,h3,h4,h5,h6⟩
  ·exact .range (by lia) (okn _ (aF h4)).asc (okn _ (aF h5)).asc
  ·exact .bearing (by lia) (okn _ (aF h6)).asc (by lia) (by lia) (by lia) (by lia)
theorem zVr:zBg "" :=⟨λc hc=>(nomatch hc),by decide⟩
theorem zNo{n0 n1 n2 n19 n20 n21:aC}{k:Int}(a0:zBg n0)(a1:zBg n1)(a2:zBg n2)(a19:zBg n19)(a20:zBg n20)(a21:zBg n21)(k1:1<=k)(k24:k<=24):∀ D∈tQ n0 n1 n2 n19 n20 n21 k,zHi D:=by
 unfold tQ;exact aH.mpr ⟨.mark a20 (by decide) (by decide),aH.mpr ⟨.mark a0 (by decide) (by decide),aH.mpr ⟨.mark a20 (by decide) (by decide),aH.mpr ⟨.mark zVr (by decide) (by decide),aH.mpr ⟨.bank a20 (.inl ⟨0,by decide,by decide,rfl⟩),aH.mpr ⟨.bank a20 (.inr rfl),aH.mpr ⟨.bank a2 (.inl ⟨0,by decide,by decide,rfl⟩),aH.mpr ⟨.sail (by decide) (by decide),aH.mpr ⟨.sail (by decide) (by decide),aH.mpr ⟨.strike (by decide),aH.mpr ⟨.range (by decide) a0 a1,aH.mpr ⟨.range (by decide) a0 a1,aH.mpr ⟨.bearing (by decide) a0 (by decide) (by decide) (by decide) (by decide),aH.mpr ⟨.bearing (by decide) a0 (by decide) (by decide) (by decide) (by decide),aH.mpr ⟨.range (by decide) a0 a0,aH.mpr ⟨.strike (by lia),aH.mpr ⟨.bearing (by decide) a0 (by decide) (by decide) (by decide) (by decide),aH.mpr ⟨.range (by decide) a0 a1,aH.mpr ⟨.level a2,aH.mpr ⟨.bank a20 (.inl ⟨0,by decide,by decide,rfl⟩),aH.mpr ⟨.bank a21 (.inl ⟨0,by decide,by decide,rfl⟩),aH.mpr ⟨.unmark a19,aH.mpr ⟨.mark a20 (by decide) (by decide),aH.mpr ⟨.mark a21 (by decide) (by decide),aH.mpr ⟨.unmark a0,aH.mpr ⟨.strike (by decide),(λD hD=>nomatch hD)⟩⟩⟩⟩⟩⟩⟩⟩⟩⟩⟩⟩⟩⟩⟩⟩⟩⟩⟩⟩⟩⟩⟩⟩⟩⟩
theorem zPj{H:Hp}{n:Nat}{a b:ag}{x:aC}{y:V}(hy:(∃ i,y=.int i)\/y=.non)(ha:H a=some (.tup [.str x,y]))(hb:H b=some (.tup [.str x,y])):DR H (n+1) (.ref a) (.ref b):=by
 refine .inr ⟨a,b,[.str x,y],[.str x,y],false,rfl,rfl,ha,hb,rfl,(by show 2<=1000; decide),λi u v g1 g2=>?_⟩
 match i,g1,g2 with
 | 0,g1,g2=>cases g1; cases g2; exact DR.str rfl
 | 1,g1,g2 =>
  cases g1; cases g2;rcases hy with ⟨i,rfl⟩ | rfl
  ·exact DR.int rfl
  ·cases n
   ·exact⟨rfl,.inr (.inr (.inr rfl))⟩
   ·exact .inl ⟨rfl,.inr (.inr (.inr rfl))⟩
theorem zP8{S:BS}{D:Deed} : (∃ i,zNh S D=.int i)\/zNh S D=.non:=by
 unfold zNh;split
 ·exact .inr rfl
 ·exact .inl ⟨_,rfl⟩
theorem zSh{S:BS}{l:List Deed}{i:Nat}{D:Deed}(h:l[i]?=some D):yL S (l.take (i+1))=zDm (yL S (l.take i)) D:=by
 rw[bC,h,zEo];rfl
def sp_law(K:ae):Sp:=λvs H Q _=>∃(a:ag)(ns:List Int),vs=[.ref a]/\SqL K H a (ns.map V.int)/\ns.length<=63/\∀ H',Q (.bl true) H'
theorem zW8(F:Fun K "law" "law" zK5 f fd)(Z:Zs mg)(CB:Cb P w mg base)(h_b_notes:zLc P w K mg base zD8 1 ["self"] (zCn K))(h_b_runs:zLc P w K mg base zHz 1 ["self"] (zFx K))(h_b_banks:zLc P w K mg base zEf 1 ["self"] (zCy K))(h_b_marks:zLc P w K mg base zD5 1 ["self"] (zCw K))(yBm:Has P w K mg base "_law_stands" 7 ["_law_book", "_law_m"] (zE8 K))(yBk:Has P w K mg base "_law_filled" 1 ["_law_some", "_law_names_here"] (zEs K))(yBl:Has P w K mg base "_law_beyond" 1 ["_law_some", "_law_names_here"] (zEh K))(yBq:Has P w K mg base "_law_after" 1 ["_law_m", "_law_deed"] (zGt K))(yBu:Has P w K mg base "_law_same" 6 ["_law_told", "_law_due_here"] (zEq K))(yBs:Has P w K mg base "_law_done" 7 ["_law_book", "_law_deed"] (zI8 K))(yBy:Has P w K mg base "_law_due" 4 ["_law_m", "_law_deed"] (zMv K))(yBx:Has P w K mg base "_law_new" 1 [] (zM8 K))(h_b_init:zLc P w K mg base zK6 2 ["self"] (zIc K))(yBp:Has P w K mg base "_law_names" 1 ["_law_some", "_law_many"] (zG1 K))(yBr:Has P w K mg base "_law_draws" 2 ["_law_script", "_law_many"] (zGg K)):xJ P w K mg base CX0 8 f fd ["_law_script"] (sp_law K):=by
 specialize zDc
 ·obtain⟨a,ns,rfl,_⟩:=h;rfl
 obtain⟨ad,ns,rfl,hS,hl,q⟩:=h
 refine'⟨_,(zD (yN 1 zDc.nd ?_)
   (zD (yN 2 zDc.nd ?_)
   (zD (yN 3 zDc.nd (zRe CB.make h_b_init (hr.mono (by decide)) CB.gBook))
   (zD (yN 4 zDc.nd (zJ7 yBx (hr.mono (by decide)) rfl))
   (zD (sV bU rfl (zLy (vN tD ?_ ?_)) (zDh 5 zDc.nd) (zD (yN 6 zDc.nd ?_)
   (zD (yH ?_ (zF (zP zGd)) zS)
   (zF (yH ?_ (zF (yN 4 zDc.nd ?_)) zS)))))
   (zD (yH ?_ (zF (zP zGd)) zS)
   (zF (zP (tY (zXs hr.units0) (tE (zC (zQ xE rfl Z.len uU (zC (wH CB.m_marks h_b_marks (hr.mono (by decide)) (pv 3)) zH)) (zC (zQ xE rfl Z.len uU (zC (wH CB.m_banks h_b_banks (hr.mono (by decide)) (pv 3)) zH)) (zC (zQ xE rfl Z.len uU (zC (wH CB.m_runs h_b_runs (hr.mono (by decide)) (pv 3)) zH)) (zC (zQ xE rfl Z.len uU (zC (wH CB.m_notes h_b_notes (hr.mono (by decide)) (pv 3)) zH)) zH))))) ?_ (xB _)))))))))),?_⟩
 nofun
 refine⟨_,rfl,ad,ns,112,rfl,hS,hl,by decide,by decide,λrr rows H1 s1 hr0 er1 l1 l2 bd=>?_⟩;refine⟨_,rfl,rr,rows,22,rfl,SqL.of er1,(by lia),(by decide),bd,λR nms H2 s2 hR eR ln okn nod=>?_⟩;have er2:=s2 _ _ er1;clear s2 s1 er1 hR hr0 hS hl;intro bk dx hb hdx nbd;refine⟨bk,dx,rfl,zA,λp H5 s5 hp bk5=>⟨rfl,?_⟩⟩;have nrb:rr≠bk:=zK er2 hb;have nRb:R≠bk:=zK eR hb;have sE5:wE (λx=>x=bk) H2 H5:=λx o hx e=>s5 x o hx (by rw[zG hx,zG (zK e hdx)]; exact e);have er5:=sE5.lst nrb er2;have eR5:=sE5.lst nRb eR;clear sE5 s5 hp hb hdx er2 eR nbd;refine⟨rfl,λd m b r n H6 s6 hd hm hrr ed em eb er en _ _=>?_⟩;have lw6:LwA H6 d m b r n BS.nil:=⟨.inl ed,.nil em,.nil eb,⟨[],er,yA.mpr rfl⟩,.nil en⟩;obtain⟨dx5,d5,l5,ps5,ls5,k5⟩:=id bk5;have nrp:r≠p:=λz=>by rw[z,k5.pa] at hrr; cases hrr
 have bk6:=bk5.to (.of s6);have er6:=s6 _ _ er5;have eR6:=s6 _ _ eR5;clear k5 bk5 er5 eR5 s6 hd hm hrr ed em eb er en;obtain⟨n0,g0⟩:∃ x,nms[0]?=some x:=⟨_,aj (by lia)⟩;obtain⟨n1,g1⟩:∃ x,nms[1]?=some x:=⟨_,aj (by lia)⟩;obtain⟨n2,g2⟩:∃ x,nms[2]?=some x:=⟨_,aj (by lia)⟩;obtain⟨n19,g19⟩:∃ x,nms[19]?=some x:=⟨_,aj (by lia)⟩;obtain⟨n20,g20⟩:∃ x,nms[20]?=some x:=⟨_,aj (by lia)⟩;obtain⟨n21,g21⟩:∃ x,nms[21]?=some x:=⟨_,aj (by lia)⟩;refine⟨_,rfl,_,rfl,rr,R,rows,nms,rfl,er6,(by lia),bd,eR6,ln,λL1 xs1 Ds l1' l2' l3' l4' c H7 s7 eL1 rp1 fd=>?_⟩;refine⟨_,rfl,_,rfl,rr,R,rows,nms,n0,n1,n2,n19,n20,n21,rfl,s7 _ _ er6,(by lia),bd,s7 _ _ eR6,g0,g1,g2,g19,g20,g21,λL2 xs2 k H8 s8 eL2 rp2 k1 k24=>?_⟩;have as:∀{i:Nat}{x:aC},nms[i]?=some x->zBg x:=λh=>(okn _ (aF h)).asc;have own:∀ D∈Ds++tQ n0 n1 n2 n19 n20 n21 k,zHi D:=λD hD=>(aN.mp hD).elim (fd.own okn D) (zNo (as g0) (as g1) (as g2) (as g19) (as g20) (as g21) k1 k24 D);have brim:=zS3 (zQ2 fd ln nod okn g19) ln nod okn (n1:=n1) (n21:=n21) g0 g2 g19 g20 k1 k24;rw[<- zEo] at brim;have lDs:Ds.length=64:=by
  have e1:=congrArg cr fd.eq;have e2:=congrArg cr fd.n1;have e3:=congrArg cr fd.n2;have:=fd.n3;have:=fd.n4;have:=fd.c2;simp only[al,ac,bK,cO] at e1 e2 e3;lia
 have rp1':=rp1.to (.of s8);have rp:=rp1'.app rp2;rw[<- aA] at rp;have lEs:(Ds++tQ n0 n1 n2 n19 n20 n21 k).length=90:=by rw[al,lDs]; rfl
 generalize Ds++tQ n0 n1 n2 n19 n20 n21 k=Es at own brim rp lEs;have lxs:(xs1++xs2).length=Es.length:=by rw[rp.length,ac]
 refine⟨L1,L2,xs1,xs2,rfl,rfl,s8 _ _ eL1,eL2,aO (show _<=90 by rw[al] at lxs; lia) (by decide),λL hL=>?_⟩;generalize xs1++xs2=xs at rp lxs hL ⊢;have sL:=zB hL (.lst xs);have bk9:=bk6.to (.of ((s7.trans s8).trans sL));have lw9:=lw6.to (.of ((s7.trans s8).trans sL));have rp9:=rp.to (.of sL);have eL:upd H8 L (.lst xs) L=some (.lst xs):=zA;obtain⟨dx8,d8,l8,ps8,ls8,k8⟩:=bk6.to (.of (s7.trans s8));have nLB:¬ Bp bk p L:=λz=>by
  rcases z with z | z
  ·have:=k8.ob; rw[<- z,hL] at this; cases this
  ·have:=k8.pa; rw[<- z,hL] at this; cases this
 generalize upd H8 L (.lst xs)=H9 at bk9 lw9 rp9 eL ⊢;clear sL hL k8 rp rp1 rp1' rp2 s7 s8 eL1 eL2 bk6 lw6 er6 eR6 fd;obtain⟨dx9,d9,l9,ps9,ls9,k9⟩:=id bk9;have np9:=zWk k9.ob k9.pa;refine⟨L,rfl,.inl ⟨⟨_,SqL.of eL⟩,zM7 (K:=K) (a:=L) (xs:=xs) (λi σ H'=>wE (Bp bk p) H9 H'/\∃(d':ag)(past:List (Deed×BS)),zKm bkC H' bk p (yL BS.nil (Es.take i)) past []/\past.length<=i/\(∃ m b' r n,r≠p/\LwA H' d' m b' r n (yL BS.nil (Es.take i)))/\∃ u u':Option V,σ=[some (.ref ad),some (.ref rr),some (.ref R),some (.ref bk),some (.ref d'),u,u'])
  ⟨wE.refl _,d,[],bk9,am _,⟨m,b,r,n,nrp,lw9⟩,none,none,rfl⟩ (λi σ H' _ hq=>SqL.of (hq.1.lst nLB eL)) ?_ ?_⟩⟩
 ·rintro i v σ H4 hi ⟨s4,d',past,bk4,lp,⟨m4,b4,r4,n4,nr4,lw4⟩,u,u',rfl⟩;have hil:i<Es.length:=by rw[<- lxs]; exact(ay.mp hi).1
  have hD:Es[i]?=some Es[i]:=aj hil;have ow:=own _ (eY hil);generalize Es[i]=D at hD ow;obtain⟨dt,q1,q2⟩:=rp9.back hi;rw[av,hD] at q1;cases q1;have nt:=zEc (l:=Es.take i) zBh.nil;rw[zSh hD];generalize yL BS.nil (Es.take i)=S at bk4 lw4 nt;have rv:=q2.sam s4 np9;refine⟨_,rfl,_,rfl,d',v,S,D,rfl,⟨m4,b4,r4,n4,lw4⟩,rv,ow.1,nt.well,ow.2,λt H5 s5 et=>?_⟩;have bk5:=bk4.to s5;have lw5:=lw4.to s5;have rv5:=rv.to s5;have s45:wE (Bp bk p) H9 H5:=s4.trans (s5.wider λ_ z=>z.elim);obtain⟨dx5,d5,l5,ps5,ls5,k5⟩:=id bk5;have nd5:=zY7 k5.ob k5.pa;have np5:=zWk k5.ob k5.pa;have nrB:¬ Bp bk p r4:=λz=>z.elim (λz=>by
   obtain⟨rs,e,_⟩:=lw5.ru;rw[z,k5.ob] at e;cases e) nr4
  refine⟨_,rfl,_,rfl,bk,p,v,S,D,past,[],rfl,bk5,rv5,ow.1,nt.well,(by lia),λjn t2 H6 s6 bk6 et2=>?_,λc jc t2 H6 s6 et2=>?_⟩
  ·rw[jn] at et;have et:H5 t=some (.tup [.str "", zNh S D]):=et;have et6:=s6.tup (np5 _ _ et) et;refine⟨_,rfl,.ref t2,.ref t,rfl,zPj zP8 et2 et6,λH7 s7=>⟨_,rfl,yR ?_⟩⟩;refine⟨_,rfl,t,_,0,.str "", rfl,rfl,.inr (SqT.of (s7 _ _ et6)),rfl,rfl,_,rfl,wM ?_⟩;have lw6:LwA H6 d' m4 b4 r4 n4 S:=lw5.samE s6 nd5 np5 (λ_ _=>nrB);have bk7:=bk6.to (.of s7);obtain⟨dx7,d7,l7,ps7,ls7,k7⟩:=id bk7;refine⟨_,rfl,_,rfl,d',v,S,D,rfl,(rv5.sam s6 np5).to (.of s7),⟨m4,b4,r4,n4,lw6.to (.of s7)⟩,zD3 jn,nt.well.good.few,nt.well.good.fresh,λd2 H8 s8 hd2 lwn=>?_⟩;obtain⟨m8,b8,r8,n8,hr8,lw8⟩:=lwn;have nr8:r8≠p:=λz=>by rw[z,k7.pa] at hr8; cases hr8
   rw[show zDm S D=aft S D from sA (zD3 jn)];exact⟨(s45.trans s6).trans (.of (s7.trans s8)),d2,_,bk7.to (.of s8),(by rw[al]; simp only[aS,cT]; lia),⟨m8,b8,r8,n8,nr8,lw8⟩,_,_,rfl⟩
  ·rw[jc] at et;have et:H5 t=some (.tup [.str (zIt c),.non]):=et;have et6:=s6.tup id et;refine⟨_,rfl,.ref t2,.ref t,rfl,zPj (.inr rfl) et2 et6,λH7 s7=>⟨_,rfl,yR ?_⟩⟩;refine⟨_,rfl,t,_,0,.str (zIt c),rfl,rfl,.inr (SqT.of (s7 _ _ et6)),rfl,rfl,_,rfl,ifSf (zQ1 c) ?_⟩;have s57:=s6.trans (.of s7);rw[show zDm S D=S by unfold zDm; rw[jc]];exact⟨s45.trans (s57.wider λ_ z=>z.elim),d',past,bk5.to s57,by lia,⟨m4,b4,r4,n4,nr4,lw5.to s57⟩,_,_,rfl⟩
 ·rintro σ H4 ⟨s4,d',past,bk4,lp,⟨m4,b4,r4,n4,nr4,lw4⟩,u,u',rfl⟩;rw[lxs,bW] at bk4 lw4;have nt:=zEc (l:=Es) zBh.nil;generalize yL BS.nil Es=S at bk4 lw4 nt brim;have no:∀{d l:ag}{m:aC},m = "marks" \/ m = "banks" \/ m = "runs" \/ m = "notes" ->(bkF d p l).lookup m=none:=λ{d l m} e=>by rcases e with e | e | e | e <;> subst e <;> exact zRu (by decide +kernel) (by decide +kernel) (by decide +kernel)
  refine⟨_,rfl,_,rfl,bk,p,d',S,past,[],rfl,bk4,⟨m4,b4,r4,n4,lw4⟩,nt,λH5 s5=>⟨_,rfl,yR ?_⟩⟩;have bk5:=bk4.to s5;obtain⟨dx5,_,_,_,_,k5⟩:=id bk5;refine⟨_,rfl,bk,dx5,_,rfl,k5.ob,no (.inl rfl),bk,p,S,past,[],rfl,bk5,nt,λc1 z1 H6 s6 e1 r1=>⟨c1,z1,rfl,.inl (SqL.of e1),?_⟩⟩;have bk6:=bk5.to (.of s6);obtain⟨dx6,_,_,_,_,k6⟩:=id bk6;refine⟨_,rfl,bk,dx6,_,rfl,k6.ob,no (.inr (.inl rfl)),bk,p,S,past,[],rfl,bk6,nt,λc2 z2 H7 s7 e2 r2=>⟨c2,z2,rfl,.inl (SqL.of e2),?_⟩⟩;have bk7:=bk6.to (.of s7);obtain⟨dx7,_,_,_,_,k7⟩:=id bk7;refine⟨_,rfl,bk,dx7,_,rfl,k7.ob,no (.inr (.inr (.inl rfl))),bk,p,S,past,[],rfl,bk7,nt.well.good.few,λc3 z3 H8 s8 _ e3 r3=>⟨c3,z3,rfl,.inl (SqL.of e3),?_⟩⟩;have bk8:=bk7.to (.of s8);obtain⟨dx8,_,_,_,_,k8⟩:=id bk8;refine⟨_,rfl,bk,dx8,_,rfl,k8.ob,no (.inr (.inr (.inr rfl))),bk,p,S,past,[],rfl,bk8,nt,λc4 z4 H10 s10 e4 r4'=>⟨c4,z4,rfl,.inl (SqL.of e4),?_⟩⟩;have h1:z1.length=20:=by rw[r1.length,zFs]; exact brim.1
  have h2:z2.length=8:=by rw[r2.length,zB7]; unfold bkE; rw[ac]; exact brim.2.1
  have h3:z3.length=12:=by rw[r3.length,ac]; exact brim.2.2.1
  have h4:z4.length=24:=by rw[r4'.length,zB7]; unfold ntE; rw[ac]; exact brim.2.2.2
  rw[h1,h2,h3,h4];refine⟨(by show 4<=sizeLine; decide),λa1 ha1=>⟨(by show 4<=sizeLine; decide),λa2 ha2=>?_⟩⟩;exact⟨a1,a2,[20,8,12,24],rfl,rfl,SqL.of (zB ha2 _ _ _ zA),SqL.of zA,q _⟩
end
theorem zWw{K:ae}{C:ag}{f:aC}(h:cm K (.ref C) f=some none):zAs K C f:=h
theorem zH6(P:eE):Cls (KK P) bkC:=⟨by kernel_rfl,by kernel_rfl,by kernel_rfl,by kernel_rfl⟩
set_option maxHeartbeats 0 in
theorem cb_mk{P:aL}{w:aT}{mg:aC->Option af}{base:aV}(X:bM (KK w.params) base)(G:base.Ns mainGlobals mg):Cb P w mg base :=
 ⟨⟨_,X,zH6 _,zWw (by kernel_rfl)⟩,
   ⟨_,X,zH6 _,zWw (by kernel_rfl)⟩,
   ⟨_,X,zH6 _,zWw (by kernel_rfl)⟩,
   ⟨_,X,zH6 _,⟨(by kernel_rfl),(by kernel_rfl),(by kernel_rfl)⟩⟩,
   ⟨_,X,zH6 _,⟨(by kernel_rfl),(by kernel_rfl),(by kernel_rfl)⟩⟩,
   ⟨_,X,zH6 _,⟨(by kernel_rfl),(by kernel_rfl),(by kernel_rfl)⟩⟩,
   ⟨_,X,zH6 _,⟨(by kernel_rfl),(by kernel_rfl),(by kernel_rfl)⟩⟩,
   ⟨_,X,zH6 _,⟨(by kernel_rfl),(by kernel_rfl),(by kernel_rfl)⟩⟩,
   ⟨_,X,zH6 _,⟨(by kernel_rfl),(by kernel_rfl),(by kernel_rfl)⟩⟩,
   ⟨_,X,⟨(by kernel_rfl),(by kernel_rfl),(by kernel_rfl),(by kernel_rfl)⟩⟩,
   (aB X G (by kernel_rfl)),
   (zRn (ep:=4) (l:=[("marks", 535,.int 20,.int 20 536),("banks", 537,.int 8,.int 8 538),("runs", 539,.int 12,.int 12 540),("notes", 541,.int 24,.int 24 542)]) (X _ _ (by kernel_rfl)) (λe he=>by simp only[aI,bV,or_false] at he; rcases he with rfl | rfl | rfl | rfl <;> exact⟨_,rfl⟩) (by decide +kernel)),
   (aB X G (by kernel_rfl)),
   (zRn (ep:=10) (l:=[("mark", 760,.ref 366,.ref 366),("move", 761,.ref 373,.ref 373),("unmark", 762,.ref 380,.ref 380),("bank", 763,.ref 387,.ref 387),("level", 764,.ref 394,.ref 394),("sail", 765,.ref 401,.ref 401),("right", 766,.ref 408,.ref 408),("bearing", 767,.ref 422,.ref 422),("range", 768,.ref 429,.ref 429),("strike", 769,.ref 436,.ref 436)]) (X _ _ (by kernel_rfl)) (λe he=>by simp only[aI,bV,or_false] at he; rcases he with rfl | rfl | rfl | rfl | rfl | rfl | rfl | rfl | rfl | rfl <;> exact rfl) (by decide +kernel)),
   (aB X G (by kernel_rfl)),
   ⟨548,(aB X G (by kernel_rfl))⟩,
   ⟨550,(aB X G (by kernel_rfl))⟩,
   ⟨552,(aB X G (by kernel_rfl))⟩,
   (aB X G (by kernel_rfl)),
   (aB X G (by kernel_rfl)),
   (aB X G (by kernel_rfl)),
   (aB X G (by kernel_rfl)),
   (aB X G (by kernel_rfl)),
   (aB X G (by kernel_rfl)),
   (aB X G (by kernel_rfl)),
   (aB X G (by kernel_rfl)),
   (aB X G (by kernel_rfl)),
   (aB X G (by kernel_rfl)),
   (aB X G (by kernel_rfl)),
   (aB X G (by kernel_rfl)),
   (aB X G (by kernel_rfl)),
   (aB X G (by kernel_rfl)),
   (aB X G (by kernel_rfl)),
   (aB X G (by kernel_rfl)),
   (aB X G (by kernel_rfl)),
   (aB X G (by kernel_rfl)),
   (aB X G (by kernel_rfl)),
   (aB X G (by kernel_rfl)),
   (aB X G (by kernel_rfl)),
   (aB X G (by kernel_rfl)),
   (aB X G (by kernel_rfl)),
   (aB X G (by kernel_rfl)),
   (aB X G (by kernel_rfl)),
   (aB X G (by kernel_rfl)),
   (aB X G (by kernel_rfl)),
   (aB X G (by kernel_rfl)),
   (xP X (aB X G (by kernel_rfl)) (by kernel_rfl)),
   ⟨_,X,(by kernel_rfl)⟩,
   (xP X (aB X G (by kernel_rfl)) (by kernel_rfl)),
   ⟨_,X,(by kernel_rfl)⟩,
   (xP X (aB X G (by kernel_rfl)) (by kernel_rfl)),
   ⟨_,X,(by kernel_rfl)⟩,
   (xP X (aB X G (by kernel_rfl)) (by kernel_rfl)),
   ⟨_,X,(by kernel_rfl)⟩,
   (xP X (aB X G (by kernel_rfl)) (by kernel_rfl)),
   ⟨_,X,(by kernel_rfl)⟩,
   (xP X (aB X G (by kernel_rfl)) (by kernel_rfl)),
   ⟨_,X,(by kernel_rfl)⟩,
   (xP X (aB X G (by kernel_rfl)) (by kernel_rfl)),
   ⟨_,X,(by kernel_rfl)⟩,
   (xP X (aB X G (by kernel_rfl)) (by kernel_rfl)),
   ⟨_,X,(by kernel_rfl)⟩,
   (xP X (aB X G (by kernel_rfl)) (by kernel_rfl)),
   ⟨_,X,(by kernel_rfl)⟩,
   (xP X (aB X G (by kernel_rfl)) (by kernel_rfl)),
   ⟨_,X,(by kernel_rfl)⟩,
   (xP X (aB X G (by kernel_rfl)) (by kernel_rfl)),
   ⟨_,X,(by kernel_rfl)⟩,
   (xP X (aB X G (by kernel_rfl)) (by kernel_rfl)),
   ⟨_,X,(by kernel_rfl)⟩,
   (xP X (aB X G (by kernel_rfl)) (by kernel_rfl)),
   ⟨_,X,(by kernel_rfl)⟩,
   (xP X (aB X G (by kernel_rfl)) (by kernel_rfl)),
   ⟨_,X,(by kernel_rfl)⟩,
   (xP X (aB X G (by kernel_rfl)) (by kernel_rfl)),
   ⟨_,X,(by kernel_rfl)⟩,
   ⟨_,X,(by kernel_rfl)⟩⟩
abbrev AtK(Pm:eE)(x:aC)(s:bN)(f:ag)(oc:af)(od:Option ag)(sl:Array (Option af))(kV dc pm:af)(an:Option ag)(cd ct:af):Prop :=
 bT (KK Pm) mainGlobals x=some (some (.ref f))/\bA f KC=some ⟨oc,od,.func (bG x x (wA s) (xK s) (zI s) .none kV dc pm an cd ct),sl⟩/\eO KC cd x=true/\bO KC (.ref f)=true
section
variable{Pm:eE}{x:aC}{s:bN}{f:ag}{oc kV dc pm cd ct:af}{od an:Option ag}{sl:Array (Option af)}{h:aV}{mg:aC->Option af}
theorem zTt(q:AtK Pm x s f oc od sl kV dc pm an cd ct):Fun K x x s f (bG x x (wA s) (xK s) (zI s) .none kV dc pm an cd ct):=zPb (st:=s) (by rw[zRq]; exact q.2.1) (by rw[zRq]; exact q.2.2.1) (by rw[zRq]; exact q.2.2.2)
abbrev AtE(Pm:eE)(x:aC)(s:bN):Prop:=∃(f:ag)(oc:af)(od:Option ag)(sl:Array (Option af))(kV dc pm:af)(an:Option ag)(cd ct:af),AtK Pm x s f oc od sl kV dc pm an cd ct
theorem at_mk(q:AtK Pm x s f oc od sl kV dc pm an cd ct):AtE Pm x s:=⟨_,_,_,_,_,_,_,_,_,_,q⟩
theorem zRm(P:aL)(w:aT)(base:aV)(X:bM (KK Pm) h)(G:h.Ns mainGlobals mg)(q:AtE Pm x s){ps:List aC}{n:Nat}{sp:Sp}(o:∀ {f:ag} {fd:bJ},Fun K x x s f fd->zBl K fd ps []->bO K (.ref f)=true->mg x=some (.ref f)->xJ P w K mg base CX0 n f fd ps sp)
  (b:∀(kV doc pm:af)(an:Option ag)(cdv ct:af)(us:List af),us.length=ps.length->bindArgs (bG x x (wA s) (xK s) (zI s) .none kV doc pm an cdv ct) ⟨us,[]⟩=pure (ps.zip us)):Has P w K mg base x n ps sp:=by
 obtain⟨f,oc,od,sl,kV,dc,pm,an,cd,ct,q⟩:=q;have F:=zTt q;exact⟨_,_,o F (F.binds b) F.kp (aB X G q.1),F.binds b,F.kp,aB X G q.1⟩
theorem xH(P:aL)(w:aT)(base:aV)(X:bM (KK Pm) h)(G:h.Ns mainGlobals mg)(q:AtE Pm x s){ps:List aC}{n:Nat}{sp:Sp}(o:∀ {f:ag} {fd:bJ},Fun K x x s f fd->xJ P w K mg base CX0 n f fd ps sp)
  (b:∀(kV doc pm:af)(an:Option ag)(cdv ct:af)(us:List af),us.length=ps.length->bindArgs (bG x x (wA s) (xK s) (zI s) .none kV doc pm an cdv ct) ⟨us,[]⟩=pure (ps.zip us)):Has P w K mg base x n ps sp:=zRm P w base X G q (λF _ _ _=>o F) b
abbrev AtM(x q:aC)(s:bN)(f:ag):Prop:=∃(oc:af)(od:Option ag)(sl:Array (Option af))(kV dc pm:af)(an:Option ag)(cd ct:af),bA f KC=some ⟨oc,od,.func (bG x q (wA s) (xK s) (zI s) .none kV dc pm an cd ct),sl⟩/\eO KC cd q=true/\bO KC (.ref f)=true
theorem atm_mk{q:aC}(h:bA f KC=some ⟨oc,od,.func (bG x q (wA s) (xK s) (zI s) .none kV dc pm an cd ct),sl⟩/\eO KC cd q=true/\bO KC (.ref f)=true):AtM x q s f:=⟨_,_,_,_,_,_,_,_,_,h⟩
theorem xF(P:aL)(w:aT)(base:aV)(X:bM (KK Pm) h)(G:h.Ns mainGlobals mg)(q:AtE Pm x s){ps:List aC}{n:Nat}{sp:Sp}(o:∀ {f:ag} {fd:bJ},Fun K x x s f fd->xJ P w K mg base (CX1 P w) n f fd ps sp)
  (b:∀(kV doc pm:af)(an:Option ag)(cdv ct:af)(us:List af),us.length=ps.length->bindArgs (bG x x (wA s) (xK s) (zI s) .none kV doc pm an cdv ct) ⟨us,[]⟩=pure (ps.zip us)):qH P w K mg base x n ps sp:=by
 obtain⟨f,oc,od,sl,kV,dc,pm,an,cd,ct,q⟩:=q;have F:=zTt q;exact⟨_,_,o F,F.binds b,F.kp,aB X G q.1⟩
theorem zWv(P:aL)(w:aT)(base:aV)(X:bM (KK Pm) h)(G:h.Ns mainGlobals mg)(q:AtE Pm x s){ps:List aC}{n:Nat}{sp:ag->Sp}(o:∀ {f:ag} {fd:bJ},Fun K x x s f fd->zSq P w K mg base n f fd ps sp)
  (b:∀(kV doc pm:af)(an:Option ag)(cdv ct:af)(us:List af),us.length=ps.length->bindArgs (bG x x (wA s) (xK s) (zI s) .none kV doc pm an cdv ct) ⟨us,[]⟩=pure (ps.zip us)):zZo P w K mg base x n ps sp:=by
 obtain⟨f,oc,od,sl,kV,dc,pm,an,cd,ct,q⟩:=q;have F:=zTt q;exact⟨_,_,o F,F.binds b,F.kp,aB X G q.1⟩
theorem zC1(P:aL)(w:aT)(mg:aC->Option af)(base:aV){q:aC}(a:AtM x q s f){ps:List aC}{n:Nat}{sp:Sp}(o:∀ {fd:bJ},Fun K x q s f fd->xJ P w K mg base CX0 n f fd ps sp)
  (b:∀(kV doc pm:af)(an:Option ag)(cdv ct:af)(us:List af),us.length=ps.length->bindArgs (bG x q (wA s) (xK s) (zI s) .none kV doc pm an cdv ct) ⟨us,[]⟩=pure (ps.zip us)):zLc P w K mg base f n ps sp:=by
 obtain⟨oc,od,sl,kV,dc,pm,an,cd,ct,a1,a2,a3⟩:=a;exact⟨_,o (zPb (st:=s) (by rw[zRq]; exact a1) (by rw[zRq]; exact a2) (by rw[zRq]; exact a3)),b _ _ _ _ _ _⟩
theorem zTo(P:aL)(w:aT)(mg:aC->Option af)(base:aV){q:aC}(a:AtM x q s f){ps:List aC}{n:Nat}{sp:Sp}(o:∀ {fd:bJ},Fun K x q s f fd->xJ P w K mg base (CX1 P w) n f fd ps sp)
  (b:∀(kV doc pm:af)(an:Option ag)(cdv ct:af)(us:List af),us.length=ps.length->bindArgs (bG x q (wA s) (xK s) (zI s) .none kV doc pm an cdv ct) ⟨us,[]⟩=pure (ps.zip us)):zU7 P w K mg base f n ps sp:=by
 obtain⟨oc,od,sl,kV,dc,pm,an,cd,ct,a1,a2,a3⟩:=a;exact⟨_,o (zPb (st:=s) (by rw[zRq]; exact a1) (by rw[zRq]; exact a2) (by rw[zRq]; exact a3)),b _ _ _ _ _ _⟩
theorem K_in{Pm:eE}{h:aV}(X:bM (KK Pm) h):bM K h:=by
 rw[zRq];exact zTx (F:=KF Pm) (by kernel_rfl) X
end
theorem us0{R:List af->Prop}(h:R []):∀ us:List af,us.length=0->R us
 | [],_=>h 
theorem us1{R:List af->Prop}(h:∀ a,R [a]):∀ us:List af,us.length=1->R us
 | [a],_=>h a
theorem us2{R:List af->Prop}(h:∀ a b,R [a,b]):∀ us:List af,us.length=2->R us
 | [a,b],_=>h a b
theorem us3{R:List af->Prop}(h:∀ a b c,R [a,b,c]):∀ us:List af,us.length=3->R us
 | [a,b,c],_=>h a b c
theorem us4{R:List af->Prop}(h:∀ a b c d,R [a,b,c,d]):∀ us:List af,us.length=4->R us
 | [a,b,c,d],_=>h a b c d
theorem all_mk{l:iM}{w:aT}{h:aV}{mg:aC->Option af}{fa:ag}(X:bM (KK w.params) h)(G:h.Ns mainGlobals mg)(hfa:mg "law" = some (.ref fa))
  {f52:ag}
  {oc52 kV52 dc52 pm52 cd52 ct52:af}
  {od52 an52:Option ag}
  {sl52:Array (Option af)}
  (q1:AtE w.params "turn" zD6)
  (q2:AtE w.params "stretch_way" uF)
  (q3:AtE w.params "all_left_of" uI)
  (q4:AtE w.params "is_bank" rZ)
  (q5:AtE w.params "nothing_yet" uM)
  (q6:AtE w.params "changed" qC)
  (q7:AtE w.params "without" rS)
  (q8:AtE w.params "within" zAn)
  (q9:AtE w.params "check_name" vJ)
  (q10:AtE w.params "check_free" vA)
  (q11:AtE w.params "check_place" uG)
  (q12:AtE w.params "check_run" tG)
  (q13:AtE w.params "check_room" vD)
  (q14:AtE w.params "check_mark" vB)
  (q15:AtE w.params "check_moment" wY)
  (q16:AtE w.params "check_way" tJ)
  (q17:AtE w.params "check_apart" uD)
  (q18:AtE w.params "after_mark" vK)
  (q19:AtE w.params "after_move" vL)
  (q20:AtE w.params "after_unmark" wV)
  (q21:AtE w.params "after_bank" vH)
  (q22:AtE w.params "after_level" uO)
  (q23:AtE w.params "after_sail" vI)
  (q24:AtE w.params "after_right" uH)
  (q25:AtE w.params "after_note" vG)
  (q26:AtE w.params "after_bearing" wL)
  (q27:AtE w.params "after_range" uT)
  (q28:AtE w.params "after_strike" wS)
  (q29:AtE w.params "after" zBr)
  (q30:AtE w.params "_law_power" zB1)
  (q31:AtE w.params "_law_draws" zBj)
  (q32:AtE w.params "_law_names" zCb)
  (q33:AtE w.params "_law_new" zHj)
  (q34:AtE w.params "_law_filled" zAi)
  (q35:AtE w.params "_law_is_name" qB)
  (q36:AtE w.params "_law_near" zDz)
  (q37:AtE w.params "_law_mark_word" tL)
  (q38:AtE w.params "_law_bank_word" tK)
  (q39:AtE w.params "_law_run_word" sW)
  (q40:AtE w.params "_law_turned" zAp)
  (q41:AtE w.params "_law_note_word" tF)
  (q42:AtE w.params "_law_word" zEe)
  (q43:AtE w.params "_law_due" zHl)
  (q44:AtE w.params "_law_same" zBy)
  (q45:AtE w.params "_law_refused" qA)
  (q46:AtE w.params "_law_done" zD1)
  (q47:AtE w.params "_law_after" zB6)
  (q48:AtE w.params "_law_marks_of" sR)
  (q49:AtE w.params "_law_stands" zAj)
  (q50:AtE w.params "_law_round_enough" wU)
  (q51:AtE w.params "_law_beyond" zAq)
  (q52:AtK w.params "law" zK5 f52 oc52 od52 sl52 kV52 dc52 pm52 an52 cd52 ct52)
  (q53:AtM "__init__" "Book.__init__" zD2 zK6)
  (q54:AtM "deed" "Book.deed" zEa zKs)
  (q55:AtM "marks" "Book.marks" zCa zD5)
  (q56:AtM "banks" "Book.banks" zBk zEf)
  (q57:AtM "runs" "Book.runs" zD4 zHz)
  (q58:AtM "notes" "Book.notes" zCc zD8)
  (q59:AtM "coming" "Book.coming" zAo zB5)
  (z_ValueError:bT (KK w.params) mainGlobals "ValueError" = some none)
  (z_abs:bT (KK w.params) mainGlobals "abs" = some none)
  (z_all:bT (KK w.params) mainGlobals "all" = some none)
  (z_any:bT (KK w.params) mainGlobals "any" = some none)
  (z_bool:bT (KK w.params) mainGlobals "bool" = some none)
  (z_dict:bT (KK w.params) mainGlobals "dict" = some none)
  (z_int:bT (KK w.params) mainGlobals "int" = some none)
  (z_isinstance:bT (KK w.params) mainGlobals "isinstance" = some none)
  (z_len:bT (KK w.params) mainGlobals "len" = some none)
  (z_list:bT (KK w.params) mainGlobals "list" = some none)
  (z_max:bT (KK w.params) mainGlobals "max" = some none)
  (z_range:bT (KK w.params) mainGlobals "range" = some none)
  (z_sorted:bT (KK w.params) mainGlobals "sorted" = some none)
  (z_str:bT (KK w.params) mainGlobals "str" = some none)
  (z_tuple:bT (KK w.params) mainGlobals "tuple" = some none)
  (z_zip:bT (KK w.params) mainGlobals "zip" = some none) :
  ∃ fd:bJ,(∀(s:ai)(v:af),ix s fd ⟨[v],[]⟩ [("_law_script", v)])/\∀ base:aV,bM (KK w.params) base->base.Ns mainGlobals mg->xJ l.prog w K mg base CX0 8 fa fd ["_law_script"] (sp_law K):=by
 have e:=hfa.symm.trans (aB X G q52.1);cases e;have Z:Zs mg:=⟨a8 X G z_ValueError,a8 X G z_abs,a8 X G z_all,a8 X G z_any,a8 X G z_bool,a8 X G z_dict,a8 X G z_int,a8 X G z_isinstance,a8 X G z_len,a8 X G z_list,a8 X G z_max,a8 X G z_range,a8 X G z_sorted,a8 X G z_str,a8 X G z_tuple,a8 X G z_zip⟩;refine⟨bG "law" "law" (wA zK5) (xK zK5) (zI zK5) .none kV52 dc52 pm52 an52 cd52 ct52,λs v=>.of_eq rfl,λbase KB GB=>?_⟩;have CB:Cb l.prog w mg base:=cb_mk KB GB;have yBw:=xH l.prog w base X G q1 (λF=>zP2 F Z CB ) (λ_ _ _ _ _ _=>us2 λ_ _=>rfl);have yAj:=xH l.prog w base X G q2 (λF=>zDr F Z CB ) (λ_ _ _ _ _ _=>us2 λ_ _=>rfl);have yAm:=xH l.prog w base X G q3 (λF=>zDs F Z CB yBw yAj) (λ_ _ _ _ _ _=>us2 λ_ _=>rfl);have yBe:=xH l.prog w base X G q4 (λF=>zJj F Z CB yAm) (λ_ _ _ _ _ _=>us1 λ_=>rfl);have yAk:=xH l.prog w base X G q5 (λF=>zDp F Z CB ) (λ_ _ _ _ _ _=>us0 rfl);have yBd:=xH l.prog w base X G q6 (λF=>zI9 F Z CB ) (λ_ _ _ _ _ _=>us4 λ_ _ _ _=>rfl);have yBh:=xH l.prog w base X G q7 (λF=>zH8 F Z CB ) (λ_ _ _ _ _ _=>us3 λ_ _ _=>rfl);have yBi:=xH l.prog w base X G q8 (λF=>zK0 F Z CB ) (λ_ _ _ _ _ _=>us2 λ_ _=>rfl);have yAr:=xF l.prog w base X G q9 (λF=>zE4 F Z CB ) (λ_ _ _ _ _ _=>us1 λ_=>rfl);have yAt:=xF l.prog w base X G q10 (λF=>zFn F Z CB ) (λ_ _ _ _ _ _=>us3 λ_ _ _=>rfl);have yAf:=xF l.prog w base X G q11 (λF=>zDj F Z CB yBi) (λ_ _ _ _ _ _=>us1 λ_=>rfl);have yAw:=xF l.prog w base X G q12 (λF=>zF3 F Z CB yBi) (λ_ _ _ _ _ _=>us1 λ_=>rfl);have yAq:=xF l.prog w base X G q13 (λF=>zE7 F Z CB ) (λ_ _ _ _ _ _=>us2 λ_ _=>rfl);have yAu:=xF l.prog w base X G q14 (λF=>zEv F Z CB ) (λ_ _ _ _ _ _=>us2 λ_ _=>rfl);have yAe:=xF l.prog w base X G q15 (λF=>zCi F Z CB ) (λ_ _ _ _ _ _=>us2 λ_ _=>rfl);have yAx:=xF l.prog w base X G q16 (λF=>zGa F Z CB yBi) (λ_ _ _ _ _ _=>us1 λ_=>rfl);have yAl:=xF l.prog w base X G q17 (λF=>zDn F Z CB ) (λ_ _ _ _ _ _=>us3 λ_ _ _=>rfl);have yAp:=xF l.prog w base X G q18 (λF=>zE1 F Z CB yBd yAq yAf yAt yAr) (λ_ _ _ _ _ _=>us2 λ_ _=>rfl);have yAn:=xF l.prog w base X G q19 (λF=>zFl F Z CB yAl yBd yAf yAu) (λ_ _ _ _ _ _=>us2 λ_ _=>rfl);have yAc:=xF l.prog w base X G q20 (λF=>zCm F Z CB yBh yAu) (λ_ _ _ _ _ _=>us2 λ_ _=>rfl);have yAs:=xF l.prog w base X G q21 (λF=>zFq F Z CB yBd yAq yBe yAf yAt yAr) (λ_ _ _ _ _ _=>us2 λ_ _=>rfl)
 have yAg:=xF l.prog w base X G q22 (λF=>zDl F Z CB yBh) (λ_ _ _ _ _ _=>us2 λ_ _=>rfl);have yAv:=xF l.prog w base X G q23 (λF=>zE6 F Z CB yBd yAq yAw) (λ_ _ _ _ _ _=>us2 λ_ _=>rfl);have yAi:=xF l.prog w base X G q24 (λF=>zDt F Z CB yBd yAw) (λ_ _ _ _ _ _=>us2 λ_ _=>rfl);have yAo:=xF l.prog w base X G q25 (λF=>zEp F Z CB yBd yAq) (λ_ _ _ _ _ _=>us2 λ_ _=>rfl);have yAa:=xF l.prog w base X G q26 (λF=>zB2 F Z CB yAo yBw yAx yAu yAe) (λ_ _ _ _ _ _=>us2 λ_ _=>rfl);have yAh:=xF l.prog w base X G q27 (λF=>zDu F Z CB yAo yAl yAu yAe) (λ_ _ _ _ _ _=>us2 λ_ _=>rfl);have yAb:=xF l.prog w base X G q28 (λF=>zCo F Z CB yBh) (λ_ _ _ _ _ _=>us2 λ_ _=>rfl);have yBo:=xF l.prog w base X G q29 (λF=>zOf F Z CB yAp yAn yAc yAs yAg yAv yAi yAa yAh yAb) (λ_ _ _ _ _ _=>us2 λ_ _=>rfl);have yBn:=xH l.prog w base X G q30 (λF=>zNb F Z ) (λ_ _ _ _ _ _=>us1 λ_=>rfl);have yBr:=xH l.prog w base X G q31 (λF=>zNl F Z CB yBn) (λ_ _ _ _ _ _=>us2 λ_ _=>rfl);have yBp:=xH l.prog w base X G q32 (λF=>zNf F Z CB ) (λ_ _ _ _ _ _=>us2 λ_ _=>rfl);have yBx:=xH l.prog w base X G q33 (λF=>zSw F Z CB ) (λ_ _ _ _ _ _=>us0 rfl);have yBk:=xH l.prog w base X G q34 (λF=>zK8 F Z CB ) (λ_ _ _ _ _ _=>us2 λ_ _=>rfl);have yBg:=xH l.prog w base X G q35 (λF=>zKg F Z CB ) (λ_ _ _ _ _ _=>us1 λ_=>rfl);have yBt:=xH l.prog w base X G q36 (λF=>zOq F Z CB ) (λ_ _ _ _ _ _=>us2 λ_ _=>rfl);have yAy:=xH l.prog w base X G q37 (λF=>zGc F Z CB yBt yBg) (λ_ _ _ _ _ _=>us2 λ_ _=>rfl);have yBc:=xH l.prog w base X G q39 (λF=>zHd F Z CB yBt) (λ_ _ _ _ _ _=>us2 λ_ _=>rfl);have yBj:=xH l.prog w base X G q40 (λF=>zLg F Z CB ) (λ_ _ _ _ _ _=>us2 λ_ _=>rfl);have yBa:=xH l.prog w base X G q41 (λF=>zF8 F Z CB yBj) (λ_ _ _ _ _ _=>us2 λ_ _=>rfl);have yBu:=zRm l.prog w base X G q44 (λF b k m=>zQb F Z  b k m) (λ_ _ _ _ _ _=>us2 λ_ _=>rfl);have yBf:=zWv l.prog w base X G q45 (λF=>zJ9 F Z CB ) (λ_ _ _ _ _ _=>us1 λ_=>rfl);have yBq:=xH l.prog w base X G q47 (λF=>zNu F Z CB ) (λ_ _ _ _ _ _=>us2 λ_ _=>rfl);have yBb:=xH l.prog w base X G q48 (λF=>zHe F Z CB ) (λ_ _ _ _ _ _=>us1 λ_=>rfl);have yAd:=xH l.prog w base X G q50 (λF=>zC0 F Z CB ) (λ_ _ _ _ _ _=>us1 λ_=>rfl);have yAz:=xH l.prog w base X G q38 (λF=>zF9 F Z CB yAd yBt yBg) (λ_ _ _ _ _ _=>us2 λ_ _=>rfl);have yBv:=xH l.prog w base X G q42 (λF=>zP0 F Z CB yBa yBc yAz yAy) (λ_ _ _ _ _ _=>us2 λ_ _=>rfl)
 have yBy:=xH l.prog w base X G q43 (λF=>zTg F Z CB yBv) (λ_ _ _ _ _ _=>us2 λ_ _=>rfl);have yBl:=xH l.prog w base X G q51 (λF=>zLm F Z CB ) (λ_ _ _ _ _ _=>us2 λ_ _=>rfl);have h_b_init:=zC1 l.prog w mg base q53 (λF=>zPc F Z CB yAk) (λ_ _ _ _ _ _=>us1 λ_=>rfl);have h_b_marks:=zC1 l.prog w mg base q55 (λF=>zNg F Z CB ) (λ_ _ _ _ _ _=>us1 λ_=>rfl);have h_b_banks:=zC1 l.prog w mg base q56 (λF=>zOk F Z CB ) (λ_ _ _ _ _ _=>us1 λ_=>rfl);have h_b_runs:=zC1 l.prog w mg base q57 (λF=>zQd F Z CB ) (λ_ _ _ _ _ _=>us1 λ_=>rfl);have h_b_notes:=zC1 l.prog w mg base q58 (λF=>zNi F Z CB ) (λ_ _ _ _ _ _=>us1 λ_=>rfl);have h_b_coming:=zC1 l.prog w mg base q59 (λF=>zK3 F Z CB ) (λ_ _ _ _ _ _=>us1 λ_=>rfl);have yBm:=xH l.prog w base X G q49 (λF=>zLk F Z CB yBu h_b_notes h_b_coming h_b_runs yBb h_b_banks h_b_marks) (λ_ _ _ _ _ _=>us2 λ_ _=>rfl);have h_b_deed:=zTo l.prog w mg base q54 (λF=>zRc F Z CB h_b_coming yBo) (λ_ _ _ _ _ _=>us2 λ_ _=>rfl);have yBs:=xH l.prog w base X G q46 (λF=>zOx F Z CB h_b_deed yBf) (λ_ _ _ _ _ _=>us2 λ_ _=>rfl);exact zW8 (zTt q52) Z CB h_b_notes h_b_runs h_b_banks h_b_marks yBm yBk yBl yBq yBu yBs yBy yBx h_b_init yBp yBr
theorem walk{l:iM}{q:aL}{loose:List aC}{XP:(aC->Option af)->aV->Prop}{YP:aT->aV->Prop}{d:DefRec}(hn:l.most=some 63)(hdf:d.params.defaults=[])
  (hY:∀(w:aT)(h:aV),YP w h->bM (KK w.params) h)
  (F:∀(w:aT)(mg:aC->Option af)(fa:ag)(h:aV),bM (KK w.params) h->h.Ns mainGlobals mg->mg d.name=some (.ref fa) ->
   ∃ fd:bJ,(∀(s:ai)(u:af),ix s fd ⟨[u],[]⟩ [("_law_script", u)])/\∀ base:aV,bM (KK w.params) base->base.Ns mainGlobals mg->xJ l.prog w K mg base CX0 8 fa fd ["_law_script"] (sp_law K)) :
  mH q loose XP YP l.row.toRowW d [] (λf vs=>lC f vs) :=
 L2.walk_of3 (n:=63) (k:=8) (x := "_law_script") (KK:=KK) (K:=K) (sp:=sp_law K) hn (by decide) hdf ⟨rfl,by decide,by decide,rfl⟩ hY (λ_ _ X=>K_in X) (λp a o h c=>by rw[zRq]; exact zPl (F:=KF p) (by kernel_rfl) h c) F (λ_ a ns hl hS=>⟨a,ns,rfl,hS,hl,λ_=>rfl⟩)

end Sea
open PySem PySem.W PyProof.Rows
set_option maxRecDepth 100000 in
set_option maxHeartbeats 0 in
theorem PySem.Challenge.cw_seamarks_k55_rooms_that_are_full_holds : PySem.Challenge.rw_seamarks_k55_rooms_that_are_full.Holds := by
 w_on
 refine holds_law Sea.said_ok λsaid=>?_;refine holds_open (q:=Sea.qv) (loose:=Sea.lse) (XP:=XL Sea.qv []) (YP:=InK Sea.KK) Sea.left_ok (InK.of Sea.kas_ok)
  InK.keeps (λs e=>xl_of s (je.mp e).1) XL.keeps (by rfl) (by rfl) (by rfl)
  (λs e=>recFacts_of (je.mp e).2) (by rfl) (by assumption) (by decide +kernel)
  ⟨rfl,rfl,rfl,rfl,rfl,by decide +kernel⟩ ?hw ?hc
 case hw=>w_witness2
 k_fill
 refine Sea.walk (l:=PySem.Challenge.rw_seamarks_k55_rooms_that_are_full) rfl rfl (λw h Y=>Y) ?F
 case F =>
  intro w mg fa h KX G hmg
  refine' Sea.all_mk KX G hmg ?q1 ?q2 ?q3 ?q4 ?q5 ?q6 ?q7 ?q8 ?q9 ?q10 ?q11 ?q12 ?q13 ?q14 ?q15 ?q16 ?q17 ?q18 ?q19 ?q20 ?q21 ?q22 ?q23 ?q24 ?q25 ?q26 ?q27 ?q28 ?q29 ?q30 ?q31 ?q32 ?q33 ?q34 ?q35 ?q36 ?q37 ?q38 ?q39 ?q40 ?q41 ?q42 ?q43 ?q44 ?q45 ?q46 ?q47 ?q48 ?q49 ?q50 ?q51 ?q52 ?q53 ?q54 ?q55 ?q56 ?q57 ?q58 ?q59 ?z_ValueError ?z_abs ?z_all ?z_any ?z_bool ?z_dict ?z_int ?z_isinstance ?z_len ?z_list ?z_max ?z_range ?z_sorted ?z_str ?z_tuple ?z_zip
  (case q53 | q54 | q55 | q56 | q57 | q58 | q59=>refine' Sea.atm_mk ⟨?b,?c,?d⟩;(case b=>exact rfl);(case c=>kernel_rfl);(case d=>kernel_rfl))
  (case q52=>refine'⟨?_,?_,?_,?_⟩; k_is; exact rfl; kernel_rfl; kernel_rfl)
  (case q1 | q2 | q3 | q4 | q5 | q6 | q7 | q8 | q9 | q10 | q11 | q12 | q13 | q14 | q15 | q16 | q17 | q18 | q19 | q20 | q21 | q22 | q23 | q24 | q25 | q26 | q27 | q28 | q29 | q30 | q31 | q32 | q33 | q34 | q35 | q36 | q37 | q38 | q39 | q40 | q41 | q42 | q43 | q44 | q45 | q46 | q47 | q48 | q49 | q50 | q51=>refine' Sea.at_mk ⟨?a,?b,?c,?d⟩;(case a=>k_is);(case b=>exact rfl);(case c=>kernel_rfl);(case d=>kernel_rfl))
  (case z_ValueError | z_abs | z_all | z_any | z_bool | z_dict | z_int | z_isinstance | z_len | z_list | z_max | z_range | z_sorted | z_str | z_tuple | z_zip=>k_is)
