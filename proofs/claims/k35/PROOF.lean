import PyProof.Rows.All
import Wide.All
import OpenK.AllK
import Wide.FinOn
import Lean
import PyProof.EqAt
import PyProof.EqKinds
import PyProof.TupleCall
import PyProof.ZipIter
import PyProof.Rows.ZipGen
import PyProof.EnumFor
import PyProof.EnumStmt
import KE.KSortTup
import KE.KDictList
import KE.KItemsList
import KE.KTryMore
import PyProof.Rows.TopTwo
import PyProof.ExcBaseAll.ValueError
import PyProof.ExcAttrAll.ValueError
import KE.KEqDict
import KE.KRevSl
import PySem.Challenge.RW_seamarks_k35_deeds_of_a_book
set_option Elab.async false
set_option linter.all false
set_option maxRecDepth 100000
set_option maxHeartbeats 4000000
theorem nabs{a:Int}{n:Nat} : a.natAbs<=n↔-(n:Int)<=a/\a<=n:=by omega
local macro_rules | `(tactic| lia) => `(tactic| first | (simp only [nabs] at *; lia (config := {})) | lia (config := {}) | omega)
local macro_rules | `(tactic| exists $es,*) => `(tactic| refine ⟨$es,*, ?_⟩)
open List renaming length_map->aa,getElem?_eq_getElem->aj,getElem?_map->ak,toArray->au,mem_singleton->av,mem_cons->aA,length_append->aC,size_toArray->aE,mem_map->aF,map_append->aG,mem_of_getElem?->aJ,getElem?_eq_some_iff->aM,map_cons->aN,mem_append->aS,all_eq_true->aT,length_cons->aW,mem_append_right->aY,mem_range->bg,lookup_cons->bo,range->bv,getD_eq_getElem?_getD->bz,not_mem_nil->bA,map_map->bD,replicate->bE,length_drop->bG,mem_cons_of_mem->bJ,lookup->bK,take_succ->bN,find?_cons->bV,take_length->b7,take_of_length_le->cg,length_take->cm,filterMap_cons_some->cr,getElem?_eq_none->cu,mem_cons_self->cA,any_cons->cH,filterMap_cons_none->cJ,length->cM,mem_of_mem_drop->cN,getElem?_append_right->cQ,filterMap_cons->cS,length_replicate->cV,getElem_mem->cZ,zipIdx_cons->c7,length_range->dn,append_nil->du,length_nil->dz,nodup_iff_pairwise_ne->dI,length_singleton->dL,length_filter_le->dM,getElem?_append_left->dN,mem_filter->dQ,mem_append_left->dU,map_nil->eA,find?_eq_none->eE,nodup_cons->eF,all_cons->fo,mem_filterMap->fA,getElem?_replicate->fE,length_eq_zero_iff->fG,getElem?_set_self->fH,any_eq_true->fR,of_mem_zip->f9,length_set->gb,replicate_succ->gB,getElem?_eq_none_iff->gU,snd_lt_of_mem_zipIdx->gX,mem_or_eq_of_mem_set->gY,ext_getElem?->g9,filter_congr->hV,getElem_inj->ii,filter_cons_of_neg->im,filter_cons_of_pos->io,ext_getElem->ip,all_nil->iH,forIn_cons->iL,filter_map->iP,range_succ->iQ,all_append->iU,filterMap_append->iZ,mem_iff_getElem?->i4,getElem?_set_ne->jb,getElem_toArray->jh,mem_of_mem_take->jm,replicate_succ'->jp,getElem_of_mem->js,getElem?_range->jt,filter_sublist->jv,map_congr_left->jx,length_reverse->jy,map_take->jC,map_drop->jD,getElem?_take->jT,filter_append->jW,any_eq_false->jY,flatten_cons->kh,pairwise_map->ky,all_map->kz,reverse_cons->kC,nodup_append->kJ,cons_append->k9,filter_cons->lh,nodup_range->lv,map_snd_zip->lA,map_reverse->lB,zipIdx_nil->lL,length_zip->lN,forIn_nil->lU,drop_zero->lV,sum_cons->mZ
open PySem renaming wpAny_bind->ac,Addr->af,Value->ag,Shared->ai,wpAny_pure->al,Str->az,Program->aK,World->aU,Heap->aX,wpAny_newObj_type->br,Expr->bx,Around->bI,wpAny_field->bL,Stmt->bP,wpAny_callSpecial?_slot->bR,FuncData->bT,wpAny_call_entry->bU,wpAny_holding->ce,wpAny_truthy_bool->cv,Obj->cD,wpAny_seqItems->cR,wpAny_mono->cX,wpAny_Call_Name_kw->cY,wpAny_setField->dj,wpAny_typeNameOfWhole_keyiter->dk,DictEntry->dm,mem_of_lookup->dA,wpAny_setField_rec->dH,wpAny_passesOwn->dR,wpAny_pyIter_list->dW,wpAny_attempt->dZ,wpAny_typeNameOf_keyiter->d0,wpAny_getItem_str_slice->d9,Params->eL,ofString_length->eN,NameKind->eS,wpAny_of_eq->eV,IsPair->eW,Builtin->eZ,Pos->fh,wpAny_execs_nil->fv,Scope->fD,wpAny_Call_method->fK,wpAny_isOneOf_keyiter->fN,wpAny_isInstance->fS,wpAny_standAt->fV,wpAny_updateSeq_pair->fZ,Env->gq,evalArgs_none->gC,OsState->gD,wpAny_rule->gL,wpAny_pyIter_tuple->gM,wpAny_call->gO,wpAny_newFunctionEnv_cells->gP,wpAny_fieldsOf->gR,wpAny_FormattedValue_plain->gS,Keyword->g8,wpAny_dictEntries->hG,wpAny_getItem_list_slice->hZ,wpAny_comprehension_free->h9,wpAny_onRaise->ic,slot_listiter_next->ie,IsZip->ik,wpAny_pyNext_list_item->iw,BindsTo->iz,wpAny_dictEpoch->iO,wpAny_isTrue_Compare1->iV,wpAny_pyIter_listiter->iW,wpAny_formatField_int->i0,wpAny_newFunctionEnv->jg,wpAny_handled->jB,wpAny_newList->jE,IsPart->jL,Within->jX,wpAny_pyIter_slot->kx,wpAny_eqBool_int->kK,wpAny_eqBool_str->kL,Paired->kM,wpAny_execs_cons->kN,wpAny_pyIter_zip->kZ,wpAny_getItem_of->lq,CmpOp->lE,wpAny_throw->lH,wpAny_letGo->lI,wpAny_specialOf->lM,wpAny_Name->lQ,call->lS,Sem->mH,Model->nj,Tok->nV
open PySem.W renaming Frag->ae,mg_of->ay,mg_none_of->bq,fnOf->bQ,keepIn->b9,nsIn->cf,kia_one->cj,findIn->cB,emptyDict->cE,kitOne->cP,instObj->dq,callWith_K->dF,codeIn->eU,cellsFrom_some->fI,methodCall_KW->fO,plainGet->fQ,plainGet_of->gy,callWith_K0->gA,lookIn->gN,methodObj->g6,hasDictIn->g7,hideAll->iJ,takerIn->iK,OpenLaw->iR,hideAll_get->jr,of_hideAll->jH,codeRec_of->jK,isFn->jZ,plainOver->j5,specialIn->j6,kitx_list->j7,kitx_dict->j8,handedIn->kO,makesIn->lJ,exmOne->lY,KasT->lZ,WalkO->ng,SharedT->nC
open PySem.Heap renaming get?_push_of_some->ah,get?_push_size->ap,lt_size->aw,get?_update_other->aZ,get?_update_self->cG,SameBut->cO,size_push->dh,ExtBut->fF,get?_none_of_le->fW,get?_push_ne->kH,MadeExcOf->lX
open Nat renaming le_refl->am,le_trans->aD,ne_of_lt->aP,le_of_ble_eq_true->aQ,lt_of_lt_of_le->aR,zero_le->bw,lt_irrefl->c9,lt_trans->de,le_of_lt->dB,le_succ->eg,ne_of_gt->ej,add_le_add->eX,gcd->e7,not_lt_zero->fw,lt_of_le_of_lt->fB,mod_eq_of_lt->fT,lt_succ_self->ij,le_of_eq->ix,zero_add->iG,add_le_add_right->jo,mod_lt->jR,mul_comm->ko,lt_succ_of_lt->kI,le_of_not_lt->kT,succ_ne_self->kW,log2_lt->lG,mul_le_mul->lT,dvd_trans->mW,mul_assoc->mX,le_of_dvd->mY,succ_mul->nF
open PySem.F renaming excBase_ValueError->ao,slot_dict_keyiterator_next->cK,slot_tuple_iterator_next->dG,slot_dict_getitem->ff,slot_dict_items->fM,args_dict_keyiterator_next_1->fU,entry_dict_keyiterator_next->f7,slot_dict_itemiterator_iter->f8,args_tuple_iterator_next_1->gf,slot_zip_next->gg,entry_tuple_iterator_next->gF,slot_dict_delitem->gW,plainAttrs_dict->hJ,plainAttrs_str->iI,slot_dict_pop->iX,slot_str_join->i7,type_str_join->i8,args_dict_items_1->ju,slot_dict_values->jS,entry_dict_items->jU,args_zip_next_1->ku,type_dict_items->kA,attr_ValueError->kB,entry_zip_next->kY,slot_dict_iter->lu
open Classical renaming not_not->ar,byContradiction->fg
open Bool renaming false_ne_true->aB,and_eq_true->be,false_eq_true->cL,false_and->dE,eq_iff_iff->dS,true_or->eC,true_and->eJ,false_or->eK,or_eq_false_iff->eY,eq_false_iff->fJ,and_true->ig,or_true->iD,or_eq_true->iM,and_false->jd,and_eq_true_iff->jq,or_false->jA
open Option renaming map_eq_some_iff->aH,isSome_iff_exists->aL,isSome_map->cb,map_some->eG,bind_eq_some_iff->iq,map_eq_none_iff->iF,getD_none->kQ,toList->nh,none->nM
open PySem.Value renaming ref->aI,none->bp,str->cF,int->dP,builtin->fu,bool->iu,float->i9,bytes->lD,type->lP,isStrOf->mG,isInt->nK
open PySem.Str renaming ofString->aO,join->il,empty->nv
open Int renaming emod_lt_of_pos->aV,emod_nonneg->bj,toNat_natCast->cw,eq_ofNat_of_zero_le->cy,mul_assoc->dY,natAbs_mul_self->fi,natCast_nonneg->fC,mul_ne_zero->gc,le_of_lt->iB,mul_comm->iC,natAbs_mul->je,mul_nonneg->jf,natAbs_neg->ji,mul_neg->lF,zero_mul->nG,zero_add->nI
open Option.some renaming inj->bh,injEq->hU
open PyProof.Rows renaming OwnCls->bu,callWith_type1->dC,slot_tuple_getitem->d6,AllBare->gE,Subscript_->jM,SortKind->kG,callWith_builtin1->kP,IntsAre->lO,Keyed->lW,IsTup->ni
open True renaming intro->bB
open PySem.Builtin.SmallTypes renaming nextOf->bC,ownedTupleIsFree->cI,ownedTupleHandOut->fk
open False renaming elim->bF
open PySem.NameKind renaming free->bH,cell->eI
open Array renaming length_toList->bM,getElem?_eq_getElem->cU,getElem?_eq_some_iff->dJ,getElem?_eq_none->eB,getElem?_toList->fP,mem_toList_iff->fX,toArray_toList->jj,all_eq_true'->jV,getD->mf,toList->nD
open PySem.Obj renaming mapSeq->bO,data_mapFields->cC,isFreed_of_fields->cW,mapFields->df,cls_mapFields->eP
open PySem.W.Frag renaming In->bW
open PySem.PassesOwn renaming never->bZ,leaving->hX
open Ne renaming symm->cz
open Or renaming inl->cT,inr->kU
open ForInStep renaming yield->dw
open PySem.Builtin.Str renaming strSliceIndices->dD,glued->fL,occurrences->ir
open PySem.Builtin.Slice renaming slicePlaces->dO,sliceAdjust->fe,sliceApplied->gQ,slicePartIndex->lK,sliceFields->mC
open PySem.Builtin.Tuple renaming tupleExact->dX,tupleItemsOf->lR
open Sum renaming inl->d7,inr->d8
open PySem.World renaming withFollow_self->eM
open PySem.W.Fast renaming te14364793385576792824->eO,te2368527892694137696->eQ,te5923862056798008813->gJ
open PySem.Txt renaming slice->e9,slice_le->iE
open PySem.Heap.SameBut renaming update->fj
open PySem.Builtin.List renaming listTooLong->fq
open PySem.Calls renaming evalArgs_plain->fY,Name_function_global->gK,call_function_entry->gZ,callWith_builtin->iA,Constant_str->jI,spliced_cons->jJ,spliced_nil->ka
open PySem.Builtin.Dict_items renaming ownsTuple->gh
open PySem.PyData renaming shownAll->gj,keyHash->gH,showableAll->gT,hasDictAll->hW,showable->iS,depthAll->iT,hasDict->jl,shown->kE,depth->kF
open PySem.StrLaws renaming glued_eq_join->gG,reprText_len->jk,joinTotal->ny
open PySem.Around renaming under->iy
open List.cons renaming injEq->iN
open PySem.Builtin.Dict renaming showsAll->iY,dictSlotNone->mE
open PySem.EntryCells renaming newEntry->jw
open PySem.Paired renaming length->jz,snoc->nO
open PySem.SeqAt.EqAt renaming int_str->jF,str_int->jG,int_int->jP,str_str->jQ
open PySem.Heap.IsSliceOf renaming new->jN
open PySem.SeqAt renaming EqAt->jO,in_tupleAt->kR
open PySem.Code renaming isFrame->j9,isGuard->nE,frames->nL
open Prod renaming ext->ke
open PySem.Heap.IsList renaming push->kX
open Sum.inr renaming inj->lC
open PySem.EqNone renaming eq_none_none->mh,eq_none_bool->mi,eq_bool_none->mj,ne_none_none->mq,ne_none_bool->mr,ne_bool_none->mv,eq_none_int->mI,eq_none_str->mJ,eq_int_none->mK,eq_str_none->mM,ne_none_int->mP,ne_none_str->mQ,ne_int_none->mR,ne_str_none->mU
open PySem.EqMixed renaming eq_bool_str->ml,eq_str_bool->mn,ne_bool_str->my,ne_str_bool->mz,eq_int_str->mL,eq_str_int->mO,ne_int_str->mT,ne_str_int->mV
open Prod.mk renaming injEq->mF
open List.Pairwise renaming imp_of_mem->m9,nil->nU
open PyProof.Rows.IsTup renaming new->nq
open PySem.Builtin.Range renaming rangeSize->nu
open PySem.Heap.UpToSlots renaming of_keeps->nA
open PySem.W.SharedT renaming abs->nJ
open PySem.Shared renaming heap->nN
open PySem.W.Looks renaming here->nP,ld->nX
open PySem.W.WShape renaming has->nQ
open PySem.Walks renaming list->nS
open PySem.Within renaming cons->nT
open PySem.W.WData renaming int->nW
theorem U{α:Sort _}{a:α}:a=a:=rfl
namespace L2
open PySem
def xS(s:bP):Arguments:=match s with
 | .FunctionDef _ a _ _ _ _ _ _ _ _=>a
 | _=>{ posonlyargs:=[],args:=[],vararg:=none,kwonlyargs:=[],kw_defaults:=[],kwarg:=none,defaults:=[] }
def xH(s:bP):List bP:=match s with
 | .FunctionDef _ _ b _ _ _ _ _ _ _=>b
 | _=>[]
def zI(s:bP):fD:=match s with
 | .FunctionDef _ _ _ _ _ _ sc _ _ _=>sc
 | _=>{ kind:=.function,names:=[],isGenerator:=false,isCoroutine:=false }
def zBm(s:bP)(j:Nat):bP:=match s with
 | .ClassDef _ _ _ body _ _ _ _ _ _ _=>body.getD j (.Pass ⟨0,0,0,0⟩)
 | _=>.Pass ⟨0,0,0,0⟩
end L2
namespace PySem.W
open PySem
noncomputable def zIu(tb:String->Option eZ)(p:aK)(w:aU)(n₀:Nat)(ann:Option ag):Nat->nC->Thread->Option nC
 | 0,_,_=>none
 | n+1,s,t=>match through t with
  | true=>some s
  | false=>match Fast.tw6613529449190102663 n₀ ann t with
   | false=>none
   | true=>match Fast.tw10156331382660048174 (Fast.tw11892475500146522536 tb) p w s t with
    | some (s',t')=>zIu tb p w n₀ ann n s' t'
    | none=>none
theorem zKk{tb:String->Option eZ}{p:aK}{w:aU}{n₀:Nat}{ann:Option ag} : ∀{n:Nat}{s s':nC}{t:Thread},zIu tb p w n₀ ann n s t=some s'->topRun tb p w n₀ ann n s.abs t=some s'.abs
 | 0,_,_,_,h=>by cases h
 | n+1,s,s',t,h=>by
  unfold zIu at h;rw[<- Fast.te6613529449190102663,<- Fast.te10156331382660048174,<- Fast.te11892475500146522536] at h;unfold topRun;cases he:through t with
  | true=>rw[he] at h; cases h; rfl
  | false =>
   rw[he] at h;cases hk:stepOk n₀ ann t with
   | false=>rw[hk] at h; cases h
   | true =>
    rw[hk] at h;cases hs:stepT (denote tb) p w s t with
    | none=>rw[hs] at h; cases h
    | some r=>obtain⟨s₂,t₂⟩:=r; rw[hs] at h; rw[stepT_spec hs]; exact zKk h
noncomputable def zYg(P:eL):BT:=((boot_heap P).objs.toList.zipIdx).foldl (λt x=>t.ins x.2 x.1) .nil
theorem zU3(P:eL):absHeap (zYg P) 11 (boot_heap P).life=boot_heap P:=by kernel_rfl
theorem zS4(P:eL):((boot_heap P).isNs mainGlobals,(boot_heap P).objs.size,(boot_heap P).nsMap mainGlobals "__annotations__")=(true,11,some (.ref 6)):=by kernel_rfl
noncomputable abbrev ye1(tb:String->Option eZ)(p:aK)(N:Nat)(w:aU)(os:gD):Option nC:=zIu tb p w 11 (some (.ref 6)) N ⟨zYg w.params,11,(boot_heap w.params).life,#[],boot_drawn,boot_toks,os⟩ (topStub p)
theorem zUf{α β γ:Type}{x:Option α}{f:α->β×γ}{a:β}{b:γ}(h1:x.map (λs=>(f s).1)=some a)(h2:x.map (λs=>(f s).2)=some b):x.map f=some (a,b):=by
 cases x with
 | none=>cases h1
 | some s =>
  injection h1 with h1
  injection h2 with h2
  subst h1 h2;rfl
theorem zS3{p q:aK}{loose:List az}{Xt:ai->Bool}{α:Type}{Yf:ai->α}{Ya:aU->α}{N:Nat}
  (open_:∀ w:aU,(fencedOpening treeTable p w N).map (λs=>(s.heap,s.gens,s.drawn,s.toks))=some (boot_heap w.params,Array.mk [],boot_drawn,boot_toks))
  (h1:∀ w os,(ye1 treeTable p N w os).map (λs=>(staticsOk (importedModules p.main.body) (boot_heap w.params) s.abs.heap&&namesBound p s.abs.heap&&gensDone s.abs&&laidKept (boot_heap w.params) s.abs.heap))=some true)
  (h2:∀ w os,(ye1 treeTable p N w os).map (λs=>openSeen q loose (importedModules p.main.body) Xt true s.abs)=some (openGood q loose))
  (h3:∀ w os,(ye1 treeTable p N w os).map (λs=>Yf s.abs)=some (Ya w)):LeftO p q loose Xt Yf Ya N:=λw=>by
 obtain⟨⟨h,gs,d,k,os⟩,e,e'⟩:=aH.mp (open_ w);obtain⟨rfl,rfl,rfl,rfl⟩:h=boot_heap w.params/\gs = #[]/\d=boot_drawn/\k=boot_toks:=by simpa using e'
 obtain⟨z1,z2,z3⟩ : _/\_/\_:=by simpa only[mF] using zS4 w.params
 obtain⟨s,r1,l1⟩:=aH.mp (h1 w os);obtain⟨s',r2,l2⟩:=aH.mp (h2 w os);obtain⟨s'',r3,l3⟩:=aH.mp (h3 w os);rw[r1] at r2 r3;cases r2;cases r3;have r:=zKk r1;rw[show nJ ⟨zYg w.params,11,(boot_heap w.params).life,#[],boot_drawn,boot_toks,os⟩=⟨boot_heap w.params,#[],boot_drawn,boot_toks,os⟩ from by unfold nJ; rw[zU3]] at r;have t:topFrom treeTable p w N ⟨boot_heap w.params,#[],boot_drawn,boot_toks,os⟩=some s.abs:=by
  unfold topFrom;dsimp only;rw[z1,z2,z3,r];show(match staticsOk (importedModules p.main.body) (boot_heap w.params) s.abs.heap&&namesBound p s.abs.heap&&gensDone s.abs&&laidKept (boot_heap w.params) s.abs.heap with | true=>_ | false=>_)=_;rw[l1]
 unfold openEnds;rw[e];show(topFrom treeTable p w N _).map _=_;rw[t];show some (_,_)=_;rw[l2,l3]
end PySem.W
namespace Sea
open PySem L2
def top(i:Nat):Stmt:=PySem.Challenge.pw_seamarks_k35_deeds_of_a_book.main.body.getD i (.Pass ⟨0,0,0,0⟩)
abbrev zEw:bP:=top 2
abbrev wW:bP:=top 4
abbrev uE:bP:=top 5
abbrev qH:bP:=top 6
abbrev uC:bP:=top 31
abbrev qC:bP:=top 32
abbrev qE:bP:=top 33
abbrev zA2:bP:=top 34
abbrev vE:bP:=top 35
abbrev uV:bP:=top 36
abbrev uB:bP:=top 37
abbrev tI:bP:=top 38
abbrev uX:bP:=top 39
abbrev uU:bP:=top 40
abbrev wD:bP:=top 41
abbrev tE:bP:=top 42
abbrev wX:bP:=top 43
abbrev uW:bP:=top 44
abbrev uY:bP:=top 45
abbrev wL:bP:=top 46
abbrev vC:bP:=top 47
abbrev uF:bP:=top 48
abbrev uS:bP:=top 49
abbrev wU:bP:=top 50
abbrev vB:bP:=top 51
abbrev wB:bP:=top 52
abbrev uJ:bP:=top 53
abbrev wH:bP:=top 54
abbrev zCb:bP:=top 56
abbrev zH3:bP:=top 60
abbrev zA0:bP:=top 61
abbrev vZ:bP:=top 62
abbrev zEs:bP:=top 63
abbrev sV:bP:=top 64
abbrev zCn:bP:=top 65
abbrev zCl:bP:=top 66
abbrev zCm:bP:=top 67
abbrev zJe:bP:=top 68
abbrev qP:bP:=top 69
abbrev zE6:bP:=top 70
abbrev uR:bP:=top 71
abbrev wK:bP:=top 72
abbrev zE2:bP:=top 73
abbrev qL:bP:=top 74
abbrev zE1:bP:=top 75
abbrev tH:bP:=top 76
abbrev tG:bP:=top 77
abbrev sS:bP:=top 78
abbrev tD:bP:=top 79
abbrev zE0:bP:=top 80
abbrev zI6:bP:=top 81
abbrev zCk:bP:=top 82
abbrev qK:bP:=top 83
abbrev zE5:bP:=top 84
abbrev zBz:bP:=top 85
abbrev sX:bP:=top 86
abbrev zA4:bP:=top 87
abbrev uZ:bP:=top 88
abbrev wI:bP:=top 89
abbrev zMi:bP:=top 90
abbrev zE7:bP:=zBm (top 58) 0
abbrev zE3:bP:=zBm (top 58) 11
abbrev zCo:bP:=zBm (top 58) 18
abbrev zCr:bP:=zBm (top 58) 19
abbrev zEo:bP:=zBm (top 58) 20
abbrev zCt:bP:=zBm (top 58) 21
abbrev zA3:bP:=zBm (top 58) 22
noncomputable def qv:Program:={ PySem.Challenge.pw_seamarks_k35_deeds_of_a_book with main:={ PySem.Challenge.pw_seamarks_k35_deeds_of_a_book.main with body:=[top 2,top 4,top 5,top 6,top 31,top 32,top 33,top 34,top 35,top 36,top 37,top 38,top 39,top 40,top 41,top 42,top 43,top 44,top 45,top 46,top 47,top 48,top 49,top 50,top 51,top 52,top 53,top 54,top 56,top 60,top 61,top 62,top 63,top 64,top 65,top 66,top 67,top 68,top 69,top 70,top 71,top 72,top 73,top 74,top 75,top 76,top 77,top 78,top 79,top 80,top 81,top 82,top 83,top 84,top 85,top 86,top 87,top 88,top 89,top 90] } }
def lse:List az:=("_wall" : az)::("MarkError" : az)::("BadName" : az)::("Taken" : az)::("BadPlace" : az)::("Full" : az)::("NoMark" : az)::("Same" : az)::("Needed" : az)::("BadBank" : az)::("NoBank" : az)::("BadRun" : az)::("NoRun" : az)::("NoMoment" : az)::("BadWay" : az)::("BadTurn" : az)::("NoNote" : az)::("NothingLeft" : az)::("BadRow" : az)::("MOST" : az)::("LONGEST_NAME" : az)::("FARTHEST" : az)::("LONGEST_WAY" : az)::("AFTER" : az)::("Book" : az)::[]
noncomputable def kd(P:eL)(x:az)(t:Nat)(v:ag):dm:=⟨gH P x,.str x t,v⟩
noncomputable def kc(l:List ag):cD:=⟨.type "code",none,.fields (au l),au []⟩
noncomputable def kq(x:az)(a:Nat)(l g:Int)(r:Nat)(u v w y z:ag)(h:Int)(b:Nat):cD:=kc [.str x a,.str x (a+1),.str "/claim/cut.py" (a+2),.int l 0,.int g 0,.int 0 0,.int 0 0,.int 3 0,.ref r,.bool true,.int 181 0,u,v,w,y,z,.int h 0,.int l 0,.str "/claim/cut.py" b]
noncomputable abbrev kf(x:az)(s:bP)(kV doc pm cd ct:ag):cD:=⟨.type "function",none,.func (bQ x x (xS s) (xH s) (zI s) .none kV doc pm none cd ct),au []⟩
noncomputable abbrev kg(x:az)(s:bP)(m:az)(t c:Nat):cD:=kf x s .none .none (.str m t) (.ref c) .none
noncomputable abbrev kf2(x q:az)(s:bP)(kV doc pm cd ct:ag):cD:=⟨.type "function",none,.func (bQ x q (xS s) (xH s) (zI s) .none kV doc pm none cd ct),au []⟩
noncomputable def kNs(P:eL):cD:=⟨.type "dict",none,.dict (au (kd P "__name__" 165 (.str "law_seamarks_k35_deeds_of_a_book" 1001)::kd P "__doc__" 166 .none::kd P "__package__" 167 .none::kd P "__loader__" 168 (.builtin "__main__.__loader__#opaque")::kd P "__spec__" 169 .none::kd P "__annotations__" 170 (.ref 6)::kd P "__builtins__" 171 (.ref 4)::kd P "__file__" 173 (.str "/claim/cut.py" 172)::kd P "__cached__" 174 .none::kd P "_wall" 193 (.ref 21)::kd P "turn" 203 (.ref 28)::kd P "stretch_way" 213 (.ref 35)::kd P "all_left_of" 225 (.ref 42)::kd P "is_bank" 231 (.ref 47)::kd P "MarkError" 251 (.ref 57)::kd P "BadName" 267 (.ref 70)::kd P "Taken" 283 (.ref 82)::kd P "BadPlace" 299 (.ref 94)::kd P "Full" 315 (.ref 106)::kd P "NoMark" 331 (.ref 118)::kd P "Same" 347 (.ref 130)::kd P "Needed" 363 (.ref 142)::kd P "BadBank" 379 (.ref 154)::kd P "NoBank" 395 (.ref 166)::kd P "BadRun" 411 (.ref 178)::kd P "NoRun" 427 (.ref 190)::kd P "NoMoment" 443 (.ref 202)::kd P "BadWay" 459 (.ref 214)::kd P "BadTurn" 475 (.ref 226)::kd P "NoNote" 491 (.ref 238)::kd P "NothingLeft" 507 (.ref 250)::kd P "BadRow" 532 (.ref 269)::kd P "MOST" 547 (.ref 272)::kd P "LONGEST_NAME" 549 (.int 8 548)::kd P "FARTHEST" 551 (.int 1000 550)::kd P "LONGEST_WAY" 553 (.int 100 552)::kd P "nothing_yet" 559 (.ref 279)::kd P "changed" 570 (.ref 286)::kd P "without" 580 (.ref 293)::kd P "within" 586 (.ref 298)::kd P "check_name" 592 (.ref 303)::kd P "check_free" 601 (.ref 310)::kd P "check_place" 608 (.ref 317)::kd P "check_run" 615 (.ref 324)::kd P "check_room" 623 (.ref 331)::kd P "check_mark" 631 (.ref 338)::kd P "check_moment" 639 (.ref 345)::kd P "check_way" 646 (.ref 352)::kd P "check_apart" 655 (.ref 359)::kd P "after_mark" 665 (.ref 366)::kd P "after_move" 676 (.ref 373)::kd P "after_unmark" 686 (.ref 380)::kd P "after_bank" 697 (.ref 387)::kd P "after_level" 706 (.ref 394)::kd P "after_sail" 715 (.ref 401)::kd P "after_right" 725 (.ref 408)::kd P "after_note" 734 (.ref 415)::kd P "after_bearing" 742 (.ref 422)::kd P "after_range" 750 (.ref 429)::kd P "after_strike" 759 (.ref 436)::kd P "AFTER" 780 (.ref 437)::kd P "after" 788 (.ref 444)::kd P "Book" 1000 (.ref 611)::kd P "_law_way" 1013 (.ref 622)::kd P "_law_turned" 1021 (.ref 629)::kd P "_law_left_pair" 1031 (.ref 636)::kd P "_law_bank" 1053 (.ref 643)::kd P "_law_is_round" 1069 (.ref 650)::kd P "_law_power" 1076 (.ref 657)::kd P "_law_draws" 1088 (.ref 664)::kd P "_law_names" 1094 (.ref 669)::kd P "_law_new" 1100 (.ref 676)::kd P "_law_strange" 1109 (.ref 683)::kd P "_law_pick" 1117 (.ref 690)::kd P "_law_far_number" 1124 (.ref 697)::kd P "_law_bearing_deed" 1139 (.ref 704)::kd P "_law_deed" 1152 (.ref 711)::kd P "_law_is_name" 1158 (.ref 716)::kd P "_law_near" 1166 (.ref 723)::kd P "_law_mark_word" 1172 (.ref 728)::kd P "_law_bank_word" 1178 (.ref 733)::kd P "_law_run_word" 1186 (.ref 740)::kd P "_law_note_word" 1196 (.ref 747)::kd P "_law_word" 1204 (.ref 754)::kd P "_law_due" 1213 (.ref 761)::kd P "_law_same" 1219 (.ref 766)::kd P "_law_refused" 1225 (.ref 771)::kd P "_law_done" 1234 (.ref 778)::kd P "_law_after" 1243 (.ref 785)::kd P "_law_marks_of" 1249 (.ref 790)::kd P "_law_stands" 1257 (.ref 797)::kd P "_law_drawn_bank" 1265 (.ref 804)::kd P "_law_round_enough" 1272 (.ref 811)::kd P "law" 1287 (.ref 818)::[])) 94,au []⟩
noncomputable def KG(P:eL):ae :=
 (nat_lit 56,⟨.type "dict",none,.dict (au (kd P "__module__" 241 (.str "seamarks.errors" 232)::kd P "__firstlineno__" 245 (.int 23 244)::kd P "__static_attributes__" 246 (.ref 55)::kd P "__weakref__" 248 (.ref 58)::kd P "__doc__" 249 .none::[])) 3,au []⟩) ::
 (nat_lit 69,⟨.type "dict",none,.dict (au (kd P "__module__" 259 (.str "seamarks.errors" 232)::kd P "__firstlineno__" 263 (.int 25 262)::kd P "__static_attributes__" 264 (.ref 68)::kd P "__doc__" 265 .none::[])) 2,au []⟩) ::
 (nat_lit 81,⟨.type "dict",none,.dict (au (kd P "__module__" 275 (.str "seamarks.errors" 232)::kd P "__firstlineno__" 279 (.int 27 278)::kd P "__static_attributes__" 280 (.ref 80)::kd P "__doc__" 281 .none::[])) 2,au []⟩) ::
 (nat_lit 93,⟨.type "dict",none,.dict (au (kd P "__module__" 291 (.str "seamarks.errors" 232)::kd P "__firstlineno__" 295 (.int 29 294)::kd P "__static_attributes__" 296 (.ref 92)::kd P "__doc__" 297 .none::[])) 2,au []⟩) ::
 (nat_lit 105,⟨.type "dict",none,.dict (au (kd P "__module__" 307 (.str "seamarks.errors" 232)::kd P "__firstlineno__" 311 (.int 31 310)::kd P "__static_attributes__" 312 (.ref 104)::kd P "__doc__" 313 .none::[])) 2,au []⟩) ::
 (nat_lit 117,⟨.type "dict",none,.dict (au (kd P "__module__" 323 (.str "seamarks.errors" 232)::kd P "__firstlineno__" 327 (.int 33 326)::kd P "__static_attributes__" 328 (.ref 116)::kd P "__doc__" 329 .none::[])) 2,au []⟩) ::
 (nat_lit 129,⟨.type "dict",none,.dict (au (kd P "__module__" 339 (.str "seamarks.errors" 232)::kd P "__firstlineno__" 343 (.int 35 342)::kd P "__static_attributes__" 344 (.ref 128)::kd P "__doc__" 345 .none::[])) 2,au []⟩) ::
 (nat_lit 141,⟨.type "dict",none,.dict (au (kd P "__module__" 355 (.str "seamarks.errors" 232)::kd P "__firstlineno__" 359 (.int 37 358)::kd P "__static_attributes__" 360 (.ref 140)::kd P "__doc__" 361 .none::[])) 2,au []⟩) ::
 (nat_lit 153,⟨.type "dict",none,.dict (au (kd P "__module__" 371 (.str "seamarks.errors" 232)::kd P "__firstlineno__" 375 (.int 39 374)::kd P "__static_attributes__" 376 (.ref 152)::kd P "__doc__" 377 .none::[])) 2,au []⟩) ::
 (nat_lit 165,⟨.type "dict",none,.dict (au (kd P "__module__" 387 (.str "seamarks.errors" 232)::kd P "__firstlineno__" 391 (.int 41 390)::kd P "__static_attributes__" 392 (.ref 164)::kd P "__doc__" 393 .none::[])) 2,au []⟩) ::
 (nat_lit 177,⟨.type "dict",none,.dict (au (kd P "__module__" 403 (.str "seamarks.errors" 232)::kd P "__firstlineno__" 407 (.int 43 406)::kd P "__static_attributes__" 408 (.ref 176)::kd P "__doc__" 409 .none::[])) 2,au []⟩) ::
 (nat_lit 189,⟨.type "dict",none,.dict (au (kd P "__module__" 419 (.str "seamarks.errors" 232)::kd P "__firstlineno__" 423 (.int 45 422)::kd P "__static_attributes__" 424 (.ref 188)::kd P "__doc__" 425 .none::[])) 2,au []⟩) ::
 (nat_lit 201,⟨.type "dict",none,.dict (au (kd P "__module__" 435 (.str "seamarks.errors" 232)::kd P "__firstlineno__" 439 (.int 47 438)::kd P "__static_attributes__" 440 (.ref 200)::kd P "__doc__" 441 .none::[])) 2,au []⟩) ::
 (nat_lit 213,⟨.type "dict",none,.dict (au (kd P "__module__" 451 (.str "seamarks.errors" 232)::kd P "__firstlineno__" 455 (.int 49 454)::kd P "__static_attributes__" 456 (.ref 212)::kd P "__doc__" 457 .none::[])) 2,au []⟩) ::
 (nat_lit 225,⟨.type "dict",none,.dict (au (kd P "__module__" 467 (.str "seamarks.errors" 232)::kd P "__firstlineno__" 471 (.int 51 470)::kd P "__static_attributes__" 472 (.ref 224)::kd P "__doc__" 473 .none::[])) 2,au []⟩) ::
 (nat_lit 237,⟨.type "dict",none,.dict (au (kd P "__module__" 483 (.str "seamarks.errors" 232)::kd P "__firstlineno__" 487 (.int 53 486)::kd P "__static_attributes__" 488 (.ref 236)::kd P "__doc__" 489 .none::[])) 2,au []⟩) ::
 (nat_lit 249,⟨.type "dict",none,.dict (au (kd P "__module__" 499 (.str "seamarks.errors" 232)::kd P "__firstlineno__" 503 (.int 55 502)::kd P "__static_attributes__" 504 (.ref 248)::kd P "__doc__" 505 .none::[])) 2,au []⟩) ::
 (nat_lit 268,⟨.type "dict",none,.dict (au (kd P "__module__" 515 (.str "seamarks.errors" 232)::kd P "__firstlineno__" 519 (.int 57 518)::kd P "__init__" 527 (.ref 266)::kd P "__static_attributes__" 529 (.ref 267)::kd P "__doc__" 530 .none::[])) 2,au []⟩) ::
 (nat_lit 272,⟨.type "dict",none,.dict (au (kd P "marks" 535 (.int 20 536)::kd P "banks" 537 (.int 8 538)::kd P "runs" 539 (.int 12 540)::kd P "notes" 541 (.int 24 542)::[])) 4,au []⟩) ::
 (nat_lit 437,⟨.type "dict",none,.dict (au (kd P "mark" 760 (.ref 366)::kd P "move" 761 (.ref 373)::kd P "unmark" 762 (.ref 380)::kd P "bank" 763 (.ref 387)::kd P "level" 764 (.ref 394)::kd P "sail" 765 (.ref 401)::kd P "right" 766 (.ref 408)::kd P "bearing" 767 (.ref 422)::kd P "range" 768 (.ref 429)::kd P "strike" 769 (.ref 436)::[])) 10,au []⟩) ::
 (nat_lit 610,⟨.type "dict",none,.dict (au (kd P "__module__" 798 (.str "seamarks.book" 789)::kd P "__firstlineno__" 802 (.int 188 801)::kd P "__init__" 809 (.ref 458)::kd P "mark" 819 (.ref 465)::kd P "move" 829 (.ref 472)::kd P "unmark" 837 (.ref 479)::kd P "bank" 846 (.ref 486)::kd P "level" 854 (.ref 493)::kd P "sail" 863 (.ref 500)::kd P "right" 873 (.ref 507)::kd P "bearing" 884 (.ref 514)::kd P "range_note" 894 (.ref 521)::kd P "strike" 902 (.ref 528)::kd P "deed" 912 (.ref 535)::kd P "step" 921 (.ref 542)::kd P "undo" 928 (.ref 549)::kd P "redo" 935 (.ref 556)::kd P "deeds" 942 (.ref 563)::kd P "undone" 949 (.ref 570)::kd P "twin" 956 (.ref 577)::kd P "marks" 962 (.ref 582)::kd P "banks" 969 (.ref 589)::kd P "runs" 975 (.ref 594)::kd P "notes" 982 (.ref 601)::kd P "coming" 989 (.ref 608)::kd P "__static_attributes__" 993 (.ref 609)::kd P "__dict__" 995 (.ref 612)::kd P "__weakref__" 997 (.ref 613)::kd P "__doc__" 998 .none::[])) 4,au []⟩)::[]
noncomputable abbrev KF(P:eL):ae:=(nat_lit 3,kNs P)::KG P
noncomputable def KC:ae :=
 (nat_lit 27,kq "turn" 196 5 2 22 (.ref 23) .none (.ref 24) (.ref 25) (.ref 26) 201 202) ::
 (nat_lit 28,kg "turn" zEw "seamarks.sides" 194 27) ::
 (nat_lit 34,kq "stretch_way" 206 8 2 29 (.ref 30) .none (.ref 31) (.ref 32) (.ref 33) 211 212) ::
 (nat_lit 35,kg "stretch_way" wW "seamarks.banks" 204 34) ::
 (nat_lit 41,kq "all_left_of" 214 10 2 36 (.ref 37) .none (.ref 38) (.ref 39) (.ref 40) 223 224) ::
 (nat_lit 42,kg "all_left_of" uE "seamarks.banks" 204 41) ::
 (nat_lit 46,kq "is_bank" 226 18 1 43 (.ref 44) .none .none .none (.ref 45) 229 230) ::
 (nat_lit 47,kg "is_bank" qH "seamarks.banks" 204 46) ::
 (nat_lit 57,(@PySem.Obj.mk (.type "type") none (@PySem.Data.cls (@PySem.ClassData.mk "MarkError" ((.type "ValueError")::[]) ((.ref 57)::((.type "ValueError")::((.type "Exception")::((.type "BaseException")::((.type "object")::[]))))) 56 "MarkError" true [] ((.ref 70)::((.ref 82)::((.ref 94)::((.ref 106)::((.ref 118)::((.ref 130)::((.ref 142)::((.ref 154)::((.ref 166)::((.ref 178)::((.ref 190)::((.ref 202)::((.ref 214)::((.ref 226)::((.ref 238)::((.ref 250)::((.ref 269)::[]))))))))))))))))) false none false)) (au ((some (.ref 48))::(none::((some (.str "MarkError" 234))::((some (.str "MarkError" 242))::((some (.builtin "ValueError.__new__"))::((some (.bool true))::[]))))))))) ::
 (nat_lit 70,(@PySem.Obj.mk (.type "type") none (@PySem.Data.cls (@PySem.ClassData.mk "BadName" ((.ref 57)::[]) ((.ref 70)::((.ref 57)::((.type "ValueError")::((.type "Exception")::((.type "BaseException")::((.type "object")::[])))))) 69 "BadName" true [] [] false none false)) (au ((some (.ref 61))::(none::((some (.str "BadName" 252))::((some (.str "BadName" 260))::((some (.builtin "ValueError.__new__"))::((some (.bool true))::[]))))))))) ::
 (nat_lit 82,(@PySem.Obj.mk (.type "type") none (@PySem.Data.cls (@PySem.ClassData.mk "Taken" ((.ref 57)::[]) ((.ref 82)::((.ref 57)::((.type "ValueError")::((.type "Exception")::((.type "BaseException")::((.type "object")::[])))))) 81 "Taken" true [] [] false none false)) (au ((some (.ref 73))::(none::((some (.str "Taken" 268))::((some (.str "Taken" 276))::((some (.builtin "ValueError.__new__"))::((some (.bool true))::[]))))))))) ::
 (nat_lit 94,(@PySem.Obj.mk (.type "type") none (@PySem.Data.cls (@PySem.ClassData.mk "BadPlace" ((.ref 57)::[]) ((.ref 94)::((.ref 57)::((.type "ValueError")::((.type "Exception")::((.type "BaseException")::((.type "object")::[])))))) 93 "BadPlace" true [] [] false none false)) (au ((some (.ref 85))::(none::((some (.str "BadPlace" 284))::((some (.str "BadPlace" 292))::((some (.builtin "ValueError.__new__"))::((some (.bool true))::[]))))))))) ::
 (nat_lit 106,(@PySem.Obj.mk (.type "type") none (@PySem.Data.cls (@PySem.ClassData.mk "Full" ((.ref 57)::[]) ((.ref 106)::((.ref 57)::((.type "ValueError")::((.type "Exception")::((.type "BaseException")::((.type "object")::[])))))) 105 "Full" true [] [] false none false)) (au ((some (.ref 97))::(none::((some (.str "Full" 300))::((some (.str "Full" 308))::((some (.builtin "ValueError.__new__"))::((some (.bool true))::[]))))))))) ::
 (nat_lit 118,(@PySem.Obj.mk (.type "type") none (@PySem.Data.cls (@PySem.ClassData.mk "NoMark" ((.ref 57)::[]) ((.ref 118)::((.ref 57)::((.type "ValueError")::((.type "Exception")::((.type "BaseException")::((.type "object")::[])))))) 117 "NoMark" true [] [] false none false)) (au ((some (.ref 109))::(none::((some (.str "NoMark" 316))::((some (.str "NoMark" 324))::((some (.builtin "ValueError.__new__"))::((some (.bool true))::[]))))))))) ::
 (nat_lit 130,(@PySem.Obj.mk (.type "type") none (@PySem.Data.cls (@PySem.ClassData.mk "Same" ((.ref 57)::[]) ((.ref 130)::((.ref 57)::((.type "ValueError")::((.type "Exception")::((.type "BaseException")::((.type "object")::[])))))) 129 "Same" true [] [] false none false)) (au ((some (.ref 121))::(none::((some (.str "Same" 332))::((some (.str "Same" 340))::((some (.builtin "ValueError.__new__"))::((some (.bool true))::[]))))))))) ::
 (nat_lit 142,(@PySem.Obj.mk (.type "type") none (@PySem.Data.cls (@PySem.ClassData.mk "Needed" ((.ref 57)::[]) ((.ref 142)::((.ref 57)::((.type "ValueError")::((.type "Exception")::((.type "BaseException")::((.type "object")::[])))))) 141 "Needed" true [] [] false none false)) (au ((some (.ref 133))::(none::((some (.str "Needed" 348))::((some (.str "Needed" 356))::((some (.builtin "ValueError.__new__"))::((some (.bool true))::[]))))))))) ::
 (nat_lit 154,(@PySem.Obj.mk (.type "type") none (@PySem.Data.cls (@PySem.ClassData.mk "BadBank" ((.ref 57)::[]) ((.ref 154)::((.ref 57)::((.type "ValueError")::((.type "Exception")::((.type "BaseException")::((.type "object")::[])))))) 153 "BadBank" true [] [] false none false)) (au ((some (.ref 145))::(none::((some (.str "BadBank" 364))::((some (.str "BadBank" 372))::((some (.builtin "ValueError.__new__"))::((some (.bool true))::[]))))))))) ::
 (nat_lit 166,(@PySem.Obj.mk (.type "type") none (@PySem.Data.cls (@PySem.ClassData.mk "NoBank" ((.ref 57)::[]) ((.ref 166)::((.ref 57)::((.type "ValueError")::((.type "Exception")::((.type "BaseException")::((.type "object")::[])))))) 165 "NoBank" true [] [] false none false)) (au ((some (.ref 157))::(none::((some (.str "NoBank" 380))::((some (.str "NoBank" 388))::((some (.builtin "ValueError.__new__"))::((some (.bool true))::[]))))))))) ::
 (nat_lit 178,(@PySem.Obj.mk (.type "type") none (@PySem.Data.cls (@PySem.ClassData.mk "BadRun" ((.ref 57)::[]) ((.ref 178)::((.ref 57)::((.type "ValueError")::((.type "Exception")::((.type "BaseException")::((.type "object")::[])))))) 177 "BadRun" true [] [] false none false)) (au ((some (.ref 169))::(none::((some (.str "BadRun" 396))::((some (.str "BadRun" 404))::((some (.builtin "ValueError.__new__"))::((some (.bool true))::[]))))))))) ::
 (nat_lit 190,(@PySem.Obj.mk (.type "type") none (@PySem.Data.cls (@PySem.ClassData.mk "NoRun" ((.ref 57)::[]) ((.ref 190)::((.ref 57)::((.type "ValueError")::((.type "Exception")::((.type "BaseException")::((.type "object")::[])))))) 189 "NoRun" true [] [] false none false)) (au ((some (.ref 181))::(none::((some (.str "NoRun" 412))::((some (.str "NoRun" 420))::((some (.builtin "ValueError.__new__"))::((some (.bool true))::[]))))))))) ::
 (nat_lit 202,(@PySem.Obj.mk (.type "type") none (@PySem.Data.cls (@PySem.ClassData.mk "NoMoment" ((.ref 57)::[]) ((.ref 202)::((.ref 57)::((.type "ValueError")::((.type "Exception")::((.type "BaseException")::((.type "object")::[])))))) 201 "NoMoment" true [] [] false none false)) (au ((some (.ref 193))::(none::((some (.str "NoMoment" 428))::((some (.str "NoMoment" 436))::((some (.builtin "ValueError.__new__"))::((some (.bool true))::[]))))))))) ::
 (nat_lit 214,(@PySem.Obj.mk (.type "type") none (@PySem.Data.cls (@PySem.ClassData.mk "BadWay" ((.ref 57)::[]) ((.ref 214)::((.ref 57)::((.type "ValueError")::((.type "Exception")::((.type "BaseException")::((.type "object")::[])))))) 213 "BadWay" true [] [] false none false)) (au ((some (.ref 205))::(none::((some (.str "BadWay" 444))::((some (.str "BadWay" 452))::((some (.builtin "ValueError.__new__"))::((some (.bool true))::[]))))))))) ::
 (nat_lit 226,(@PySem.Obj.mk (.type "type") none (@PySem.Data.cls (@PySem.ClassData.mk "BadTurn" ((.ref 57)::[]) ((.ref 226)::((.ref 57)::((.type "ValueError")::((.type "Exception")::((.type "BaseException")::((.type "object")::[])))))) 225 "BadTurn" true [] [] false none false)) (au ((some (.ref 217))::(none::((some (.str "BadTurn" 460))::((some (.str "BadTurn" 468))::((some (.builtin "ValueError.__new__"))::((some (.bool true))::[]))))))))) ::
 (nat_lit 238,(@PySem.Obj.mk (.type "type") none (@PySem.Data.cls (@PySem.ClassData.mk "NoNote" ((.ref 57)::[]) ((.ref 238)::((.ref 57)::((.type "ValueError")::((.type "Exception")::((.type "BaseException")::((.type "object")::[])))))) 237 "NoNote" true [] [] false none false)) (au ((some (.ref 229))::(none::((some (.str "NoNote" 476))::((some (.str "NoNote" 484))::((some (.builtin "ValueError.__new__"))::((some (.bool true))::[]))))))))) ::
 (nat_lit 250,(@PySem.Obj.mk (.type "type") none (@PySem.Data.cls (@PySem.ClassData.mk "NothingLeft" ((.ref 57)::[]) ((.ref 250)::((.ref 57)::((.type "ValueError")::((.type "Exception")::((.type "BaseException")::((.type "object")::[])))))) 249 "NothingLeft" true [] [] false none false)) (au ((some (.ref 241))::(none::((some (.str "NothingLeft" 492))::((some (.str "NothingLeft" 500))::((some (.builtin "ValueError.__new__"))::((some (.bool true))::[]))))))))) ::
 (nat_lit 269,(@PySem.Obj.mk (.type "type") none (@PySem.Data.cls (@PySem.ClassData.mk "BadRow" ((.ref 57)::[]) ((.ref 269)::((.ref 57)::((.type "ValueError")::((.type "Exception")::((.type "BaseException")::((.type "object")::[])))))) 268 "BadRow" true [] [] false none false)) (au ((some (.ref 253))::(none::((some (.str "BadRow" 508))::((some (.str "BadRow" 516))::((some (.builtin "ValueError.__new__"))::((some (.bool true))::[]))))))))) ::
 (nat_lit 278,kq "nothing_yet" 554 67 0 273 (.ref 274) .none (.ref 275) (.ref 276) (.ref 277) 557 558) ::
 (nat_lit 279,kg "nothing_yet" uC "seamarks.deeds" 533 278) ::
 (nat_lit 285,kq "changed" 560 69 4 280 (.ref 281) .none (.ref 282) (.ref 283) (.ref 284) 568 569) ::
 (nat_lit 286,kg "changed" qC "seamarks.deeds" 533 285) ::
 (nat_lit 292,kq "without" 571 74 3 287 (.ref 288) .none (.ref 289) (.ref 290) (.ref 291) 578 579) ::
 (nat_lit 293,kg "without" qE "seamarks.deeds" 533 292) ::
 (nat_lit 297,kq "within" 581 79 2 294 (.ref 295) .none .none .none (.ref 296) 584 585) ::
 (nat_lit 298,kg "within" zA2 "seamarks.deeds" 533 297) ::
 (nat_lit 302,kq "check_name" 587 81 1 299 (.ref 300) .none .none .none (.ref 301) 590 591) ::
 (nat_lit 303,kg "check_name" vE "seamarks.deeds" 533 302) ::
 (nat_lit 309,kq "check_free" 593 84 3 304 (.ref 305) .none (.ref 306) (.ref 307) (.ref 308) 599 600) ::
 (nat_lit 310,kg "check_free" uV "seamarks.deeds" 533 309) ::
 (nat_lit 316,kq "check_place" 602 87 1 311 (.ref 312) .none (.ref 313) (.ref 314) (.ref 315) 606 607) ::
 (nat_lit 317,kg "check_place" uB "seamarks.deeds" 533 316) ::
 (nat_lit 323,kq "check_run" 609 90 1 318 (.ref 319) .none (.ref 320) (.ref 321) (.ref 322) 613 614) ::
 (nat_lit 324,kg "check_run" tI "seamarks.deeds" 533 323) ::
 (nat_lit 330,kq "check_room" 616 93 2 325 (.ref 326) .none (.ref 327) (.ref 328) (.ref 329) 621 622) ::
 (nat_lit 331,kg "check_room" uX "seamarks.deeds" 533 330) ::
 (nat_lit 337,kq "check_mark" 624 96 2 332 (.ref 333) .none (.ref 334) (.ref 335) (.ref 336) 629 630) ::
 (nat_lit 338,kg "check_mark" uU "seamarks.deeds" 533 337) ::
 (nat_lit 344,kq "check_moment" 632 99 2 339 (.ref 340) .none (.ref 341) (.ref 342) (.ref 343) 637 638) ::
 (nat_lit 345,kg "check_moment" wD "seamarks.deeds" 533 344) ::
 (nat_lit 351,kq "check_way" 640 102 1 346 (.ref 347) .none (.ref 348) (.ref 349) (.ref 350) 644 645) ::
 (nat_lit 352,kg "check_way" tE "seamarks.deeds" 533 351) ::
 (nat_lit 358,kq "check_apart" 647 105 3 353 (.ref 354) .none (.ref 355) (.ref 356) (.ref 357) 653 654) ::
 (nat_lit 359,kg "check_apart" wX "seamarks.deeds" 533 358) ::
 (nat_lit 365,kq "after_mark" 656 108 2 360 (.ref 361) .none (.ref 362) (.ref 363) (.ref 364) 663 664) ::
 (nat_lit 366,kg "after_mark" uW "seamarks.deeds" 533 365) ::
 (nat_lit 372,kq "after_move" 666 116 2 367 (.ref 368) .none (.ref 369) (.ref 370) (.ref 371) 674 675) ::
 (nat_lit 373,kg "after_move" uY "seamarks.deeds" 533 372) ::
 (nat_lit 379,kq "after_unmark" 677 125 2 374 (.ref 375) .none (.ref 376) (.ref 377) (.ref 378) 684 685) ::
 (nat_lit 380,kg "after_unmark" wL "seamarks.deeds" 533 379) ::
 (nat_lit 386,kq "after_bank" 687 132 2 381 (.ref 382) .none (.ref 383) (.ref 384) (.ref 385) 695 696) ::
 (nat_lit 387,kg "after_bank" vC "seamarks.deeds" 533 386) ::
 (nat_lit 393,kq "after_level" 698 143 2 388 (.ref 389) .none (.ref 390) (.ref 391) (.ref 392) 704 705) ::
 (nat_lit 394,kg "after_level" uF "seamarks.deeds" 533 393) ::
 (nat_lit 400,kq "after_sail" 707 148 2 395 (.ref 396) .none (.ref 397) (.ref 398) (.ref 399) 713 714) ::
 (nat_lit 401,kg "after_sail" uS "seamarks.deeds" 533 400) ::
 (nat_lit 407,kq "after_right" 716 153 2 402 (.ref 403) .none (.ref 404) (.ref 405) (.ref 406) 723 724) ::
 (nat_lit 408,kg "after_right" wU "seamarks.deeds" 533 407) ::
 (nat_lit 414,kq "after_note" 726 160 2 409 (.ref 410) .none (.ref 411) (.ref 412) (.ref 413) 732 733) ::
 (nat_lit 415,kg "after_note" vB "seamarks.deeds" 533 414) ::
 (nat_lit 421,kq "after_bearing" 735 165 2 416 (.ref 417) .none (.ref 418) (.ref 419) (.ref 420) 740 741) ::
 (nat_lit 422,kg "after_bearing" wB "seamarks.deeds" 533 421) ::
 (nat_lit 428,kq "after_range" 743 173 2 423 (.ref 424) .none (.ref 425) (.ref 426) (.ref 427) 748 749) ::
 (nat_lit 429,kg "after_range" uJ "seamarks.deeds" 533 428) ::
 (nat_lit 435,kq "after_strike" 751 179 2 430 (.ref 431) .none (.ref 432) (.ref 433) (.ref 434) 757 758) ::
 (nat_lit 436,kg "after_strike" wH "seamarks.deeds" 533 435) ::
 (nat_lit 443,kq "after" 781 185 2 438 (.ref 439) .none (.ref 440) (.ref 441) (.ref 442) 786 787) ::
 (nat_lit 444,kg "after" zCb "seamarks.deeds" 533 443) ::
 (nat_lit 457,kc ((.str "__init__" 803)::((.str "Book.__init__" 804)::((.str "/claim/cut.py" 805)::((.int 190 0)::((.int 1 0)::((.int 0 0)::((.int 0 0)::((.int 3 0)::((.ref 452)::((.bool true)::((.int 181 0)::((.ref 453)::(.none::((.ref 454)::((.ref 455)::((.ref 456)::((.int 807 0)::((.int 190 0)::((.str "/claim/cut.py" 808)::[])))))))))))))))))))) ::
 (nat_lit 458,kf2 "__init__" "Book.__init__" zE7 .none .none (.str "seamarks.book" 789) (.ref 457) .none) ::
 (nat_lit 534,kc ((.str "deed" 903)::((.str "Book.deed" 904)::((.str "/claim/cut.py" 905)::((.int 225 0)::((.int 2 0)::((.int 0 0)::((.int 0 0)::((.int 3 0)::((.ref 529)::((.bool true)::((.int 181 0)::((.ref 530)::(.none::((.ref 531)::((.ref 532)::((.ref 533)::((.int 910 0)::((.int 225 0)::((.str "/claim/cut.py" 911)::[])))))))))))))))))))) ::
 (nat_lit 535,kf2 "deed" "Book.deed" zE3 .none .none (.str "seamarks.book" 789) (.ref 534) .none) ::
 (nat_lit 581,kc ((.str "marks" 957)::((.str "Book.marks" 958)::((.str "/claim/cut.py" 959)::((.int 251 0)::((.int 1 0)::((.int 0 0)::((.int 0 0)::((.int 3 0)::((.ref 578)::((.bool true)::((.int 181 0)::((.ref 579)::(.none::(.none::(.none::((.ref 580)::((.int 960 0)::((.int 251 0)::((.str "/claim/cut.py" 961)::[])))))))))))))))))))) ::
 (nat_lit 582,kf2 "marks" "Book.marks" zCo .none .none (.str "seamarks.book" 789) (.ref 581) .none) ::
 (nat_lit 588,kc ((.str "banks" 963)::((.str "Book.banks" 964)::((.str "/claim/cut.py" 965)::((.int 255 0)::((.int 1 0)::((.int 0 0)::((.int 0 0)::((.int 3 0)::((.ref 583)::((.bool true)::((.int 181 0)::((.ref 584)::(.none::((.ref 585)::((.ref 586)::((.ref 587)::((.int 967 0)::((.int 255 0)::((.str "/claim/cut.py" 968)::[])))))))))))))))))))) ::
 (nat_lit 589,kf2 "banks" "Book.banks" zCr .none .none (.str "seamarks.book" 789) (.ref 588) .none) ::
 (nat_lit 593,kc ((.str "runs" 970)::((.str "Book.runs" 971)::((.str "/claim/cut.py" 972)::((.int 258 0)::((.int 1 0)::((.int 0 0)::((.int 0 0)::((.int 3 0)::((.ref 590)::((.bool true)::((.int 181 0)::((.ref 591)::(.none::(.none::(.none::((.ref 592)::((.int 973 0)::((.int 258 0)::((.str "/claim/cut.py" 974)::[])))))))))))))))))))) ::
 (nat_lit 594,kf2 "runs" "Book.runs" zEo .none .none (.str "seamarks.book" 789) (.ref 593) .none) ::
 (nat_lit 600,kc ((.str "notes" 976)::((.str "Book.notes" 977)::((.str "/claim/cut.py" 978)::((.int 262 0)::((.int 1 0)::((.int 0 0)::((.int 0 0)::((.int 3 0)::((.ref 595)::((.bool true)::((.int 181 0)::((.ref 596)::(.none::((.ref 597)::((.ref 598)::((.ref 599)::((.int 980 0)::((.int 262 0)::((.str "/claim/cut.py" 981)::[])))))))))))))))))))) ::
 (nat_lit 601,kf2 "notes" "Book.notes" zCt .none .none (.str "seamarks.book" 789) (.ref 600) .none) ::
 (nat_lit 607,kc ((.str "coming" 983)::((.str "Book.coming" 984)::((.str "/claim/cut.py" 985)::((.int 265 0)::((.int 1 0)::((.int 0 0)::((.int 0 0)::((.int 3 0)::((.ref 602)::((.bool true)::((.int 181 0)::((.ref 603)::(.none::((.ref 604)::((.ref 605)::((.ref 606)::((.int 987 0)::((.int 265 0)::((.str "/claim/cut.py" 988)::[])))))))))))))))))))) ::
 (nat_lit 608,kf2 "coming" "Book.coming" zA3 .none .none (.str "seamarks.book" 789) (.ref 607) .none) ::
 (nat_lit 611,(@PySem.Obj.mk (.type "type") none (@PySem.Data.cls (@PySem.ClassData.mk "Book" ((.type "object")::[]) ((.ref 611)::((.type "object")::[])) 610 "Book" true [] [] false none false)) (au (none::(none::((some (.str "Book" 791))::((some (.str "Book" 799))::((some (.builtin "object.__new__"))::((some (.bool true))::[]))))))))) ::
 (nat_lit 621,kq "_law_way" 1003 268 3 616 (.ref 617) .none (.ref 618) (.ref 619) (.ref 620) 1011 1012) ::
 (nat_lit 622,kg "_law_way" zH3 "law_seamarks_k35_deeds_of_a_book" 1001 621) ::
 (nat_lit 628,kq "_law_turned" 1014 274 2 623 (.ref 624) .none (.ref 625) (.ref 626) (.ref 627) 1019 1020) ::
 (nat_lit 629,kg "_law_turned" zA0 "law_seamarks_k35_deeds_of_a_book" 1001 628) ::
 (nat_lit 635,kq "_law_left_pair" 1022 276 2 630 (.ref 631) .none (.ref 632) (.ref 633) (.ref 634) 1029 1030) ::
 (nat_lit 636,kg "_law_left_pair" vZ "law_seamarks_k35_deeds_of_a_book" 1001 635) ::
 (nat_lit 642,kq "_law_bank" 1032 286 2 637 (.ref 638) .none (.ref 639) (.ref 640) (.ref 641) 1051 1052) ::
 (nat_lit 643,kg "_law_bank" zEs "law_seamarks_k35_deeds_of_a_book" 1001 642) ::
 (nat_lit 649,kq "_law_is_round" 1054 302 1 644 (.ref 645) .none (.ref 646) (.ref 647) (.ref 648) 1067 1068) ::
 (nat_lit 650,kg "_law_is_round" sV "law_seamarks_k35_deeds_of_a_book" 1001 649) ::
 (nat_lit 656,kq "_law_power" 1070 315 1 651 (.ref 652) .none (.ref 653) (.ref 654) (.ref 655) 1074 1075) ::
 (nat_lit 657,kg "_law_power" zCn "law_seamarks_k35_deeds_of_a_book" 1001 656) ::
 (nat_lit 663,kq "_law_draws" 1077 317 2 658 (.ref 659) .none (.ref 660) (.ref 661) (.ref 662) 1086 1087) ::
 (nat_lit 664,kg "_law_draws" zCl "law_seamarks_k35_deeds_of_a_book" 1001 663) ::
 (nat_lit 668,kq "_law_names" 1089 333 2 665 (.ref 666) .none .none .none (.ref 667) 1092 1093) ::
 (nat_lit 669,kg "_law_names" zCm "law_seamarks_k35_deeds_of_a_book" 1001 668) ::
 (nat_lit 675,kq "_law_new" 1095 348 0 670 (.ref 671) .none (.ref 672) (.ref 673) (.ref 674) 1098 1099) ::
 (nat_lit 676,kg "_law_new" zJe "law_seamarks_k35_deeds_of_a_book" 1001 675) ::
 (nat_lit 682,kq "_law_strange" 1101 350 1 677 (.ref 678) .none (.ref 679) (.ref 680) (.ref 681) 1107 1108) ::
 (nat_lit 683,kg "_law_strange" qP "law_seamarks_k35_deeds_of_a_book" 1001 682) ::
 (nat_lit 689,kq "_law_pick" 1110 356 2 684 (.ref 685) .none (.ref 686) (.ref 687) (.ref 688) 1115 1116) ::
 (nat_lit 690,kg "_law_pick" zE6 "law_seamarks_k35_deeds_of_a_book" 1001 689) ::
 (nat_lit 696,kq "_law_far_number" 1118 360 1 691 (.ref 692) .none (.ref 693) (.ref 694) (.ref 695) 1122 1123) ::
 (nat_lit 697,kg "_law_far_number" uR "law_seamarks_k35_deeds_of_a_book" 1001 696) ::
 (nat_lit 703,kq "_law_bearing_deed" 1125 366 3 698 (.ref 699) .none (.ref 700) (.ref 701) (.ref 702) 1137 1138) ::
 (nat_lit 704,kg "_law_bearing_deed" wK "law_seamarks_k35_deeds_of_a_book" 1001 703) ::
 (nat_lit 710,kq "_law_deed" 1140 379 3 705 (.ref 706) .none (.ref 707) (.ref 708) (.ref 709) 1150 1151) ::
 (nat_lit 711,kg "_law_deed" zE2 "law_seamarks_k35_deeds_of_a_book" 1001 710) ::
 (nat_lit 715,kq "_law_is_name" 1153 402 1 712 (.ref 713) .none .none .none (.ref 714) 1156 1157) ::
 (nat_lit 716,kg "_law_is_name" qL "law_seamarks_k35_deeds_of_a_book" 1001 715) ::
 (nat_lit 722,kq "_law_near" 1159 404 2 717 (.ref 718) .none (.ref 719) (.ref 720) (.ref 721) 1164 1165) ::
 (nat_lit 723,kg "_law_near" zE1 "law_seamarks_k35_deeds_of_a_book" 1001 722) ::
 (nat_lit 727,kq "_law_mark_word" 1167 406 2 724 (.ref 725) .none .none .none (.ref 726) 1170 1171) ::
 (nat_lit 728,kg "_law_mark_word" tH "law_seamarks_k35_deeds_of_a_book" 1001 727) ::
 (nat_lit 732,kq "_law_bank_word" 1173 428 2 729 (.ref 730) .none .none .none (.ref 731) 1176 1177) ::
 (nat_lit 733,kg "_law_bank_word" tG "law_seamarks_k35_deeds_of_a_book" 1001 732) ::
 (nat_lit 739,kq "_law_run_word" 1179 440 2 734 (.ref 735) .none (.ref 736) (.ref 737) (.ref 738) 1184 1185) ::
 (nat_lit 740,kg "_law_run_word" sS "law_seamarks_k35_deeds_of_a_book" 1001 739) ::
 (nat_lit 746,kq "_law_note_word" 1187 448 2 741 (.ref 742) .none (.ref 743) (.ref 744) (.ref 745) 1194 1195) ::
 (nat_lit 747,kg "_law_note_word" tD "law_seamarks_k35_deeds_of_a_book" 1001 746) ::
 (nat_lit 753,kq "_law_word" 1197 464 2 748 (.ref 749) .none (.ref 750) (.ref 751) (.ref 752) 1202 1203) ::
 (nat_lit 754,kg "_law_word" zE0 "law_seamarks_k35_deeds_of_a_book" 1001 753) ::
 (nat_lit 760,kq "_law_due" 1205 472 2 755 (.ref 756) .none (.ref 757) (.ref 758) (.ref 759) 1211 1212) ::
 (nat_lit 761,kg "_law_due" zI6 "law_seamarks_k35_deeds_of_a_book" 1001 760) ::
 (nat_lit 765,kq "_law_same" 1214 477 2 762 (.ref 763) .none .none .none (.ref 764) 1217 1218) ::
 (nat_lit 766,kg "_law_same" zCk "law_seamarks_k35_deeds_of_a_book" 1001 765) ::
 (nat_lit 770,kq "_law_refused" 1220 485 1 767 (.ref 768) .none .none .none (.ref 769) 1223 1224) ::
 (nat_lit 771,kg "_law_refused" qK "law_seamarks_k35_deeds_of_a_book" 1001 770) ::
 (nat_lit 777,kq "_law_done" 1226 495 2 772 (.ref 773) .none (.ref 774) (.ref 775) (.ref 776) 1232 1233) ::
 (nat_lit 778,kg "_law_done" zE5 "law_seamarks_k35_deeds_of_a_book" 1001 777) ::
 (nat_lit 784,kq "_law_after" 1235 500 2 779 (.ref 780) .none (.ref 781) (.ref 782) (.ref 783) 1241 1242) ::
 (nat_lit 785,kg "_law_after" zBz "law_seamarks_k35_deeds_of_a_book" 1001 784) ::
 (nat_lit 789,kq "_law_marks_of" 1244 522 1 786 (.ref 787) .none .none .none (.ref 788) 1247 1248) ::
 (nat_lit 790,kg "_law_marks_of" sX "law_seamarks_k35_deeds_of_a_book" 1001 789) ::
 (nat_lit 796,kq "_law_stands" 1250 524 2 791 (.ref 792) .none (.ref 793) (.ref 794) (.ref 795) 1255 1256) ::
 (nat_lit 797,kg "_law_stands" zA4 "law_seamarks_k35_deeds_of_a_book" 1001 796) ::
 (nat_lit 803,kq "_law_drawn_bank" 1258 530 1 798 (.ref 799) .none (.ref 800) (.ref 801) (.ref 802) 1263 1264) ::
 (nat_lit 804,kg "_law_drawn_bank" uZ "law_seamarks_k35_deeds_of_a_book" 1001 803) ::
 (nat_lit 810,kq "_law_round_enough" 1266 535 1 805 (.ref 806) .none (.ref 807) (.ref 808) (.ref 809) 1270 1271) ::
 (nat_lit 811,kg "_law_round_enough" wI "law_seamarks_k35_deeds_of_a_book" 1001 810) ::
 (nat_lit 817,kq "law" 1273 537 1 812 (.ref 813) .none (.ref 814) (.ref 815) (.ref 816) 1285 1286) ::
 (nat_lit 818,kg "law" zMi "law_seamarks_k35_deeds_of_a_book" 1001 817)::[]
noncomputable def KK(P:eL):ae:=(nat_lit 3,kNs P)::(KG P++KC)
noncomputable def K:ae:=Classical.choose (⟨KC,rfl⟩:∃ k,k=KC)
theorem zSj:K=KC:=Classical.choose_spec (⟨KC,rfl⟩:∃ k,k=KC)
noncomputable def kas:List Nat:=nat_lit 3::nat_lit 56::nat_lit 69::nat_lit 81::nat_lit 93::nat_lit 105::nat_lit 117::nat_lit 129::nat_lit 141::nat_lit 153::nat_lit 165::nat_lit 177::nat_lit 189::nat_lit 201::nat_lit 213::nat_lit 225::nat_lit 237::nat_lit 249::nat_lit 268::nat_lit 272::nat_lit 437::nat_lit 610::KC.map (·.1)
theorem kas_ok:∀ P:eL,kas=(KK P).map (·.1):=λ_=>by kernel_rfl
theorem zZc{a b:Bool}(h:a=true)(k:b=true):(a&&b)=true:=by rw[h,k]; rfl
set_option maxHeartbeats 0 in
open PySem.W in
theorem said_ok:PySem.Challenge.rw_seamarks_k35_deeds_of_a_book.wellSaid=true:=by
 unfold OpenLaw.wellSaid
 repeat' first | with_reducible apply zZc | unfold OpenRow.wellSaid | unfold OpenRow.partSaid | unfold looksOpen
 all_goals decide +kernel
open PySem.W in
noncomputable abbrev lkM:=Fast.tw5923862056798008813 (Fast.tw2368527892694137696 PySem.Challenge.rw_seamarks_k35_deeds_of_a_book).prog.main.body
open PySem.W in
noncomputable abbrev lkT(w:World)(os:OsState):=ye1 Fast.tw14364793385576792824 (Fast.tw2368527892694137696 PySem.Challenge.rw_seamarks_k35_deeds_of_a_book).prog 90000 w os
open PySem.W in
noncomputable abbrev lkS(s:SharedT):=Fast.tw4187177175401517315 qv lse lkM (λs=>xlAt qv [] s&&recOk (Fast.tw2368527892694137696 PySem.Challenge.rw_seamarks_k35_deeds_of_a_book).records s) true s.abs
set_option maxHeartbeats 0 in
open PySem.W in
theorem zW8(u:World)(os:OsState):(lkT (u.withFollow "special-get-raises" true) os).map (λs=>(staticsOk lkM (boot_heap (u.withFollow "special-get-raises" true).params) s.abs.heap&&namesBound (Fast.tw2368527892694137696 PySem.Challenge.rw_seamarks_k35_deeds_of_a_book).prog s.abs.heap&&gensDone s.abs&&laidKept (boot_heap (u.withFollow "special-get-raises" true).params) s.abs.heap))=some true:=by kernel_rfl
set_option maxHeartbeats 0 in
open PySem.W in
theorem zXt(u:World)(os:OsState):(lkT (u.withFollow "special-get-raises" false) os).map (λs=>(staticsOk lkM (boot_heap (u.withFollow "special-get-raises" false).params) s.abs.heap&&namesBound (Fast.tw2368527892694137696 PySem.Challenge.rw_seamarks_k35_deeds_of_a_book).prog s.abs.heap&&gensDone s.abs&&laidKept (boot_heap (u.withFollow "special-get-raises" false).params) s.abs.heap))=some true:=by kernel_rfl
set_option maxHeartbeats 0 in
open PySem.W in
theorem zZ9(w:World)(os:OsState):(lkT w os).map (λs=>(staticsOk lkM (boot_heap w.params) s.abs.heap&&namesBound (Fast.tw2368527892694137696 PySem.Challenge.rw_seamarks_k35_deeds_of_a_book).prog s.abs.heap&&gensDone s.abs&&laidKept (boot_heap w.params) s.abs.heap))=some true:=by
 have h:∀(b:Bool)(u:World),(λw:World=>(lkT w os).map (λs=>(staticsOk lkM (boot_heap w.params) s.abs.heap&&namesBound (Fast.tw2368527892694137696 PySem.Challenge.rw_seamarks_k35_deeds_of_a_book).prog s.abs.heap&&gensDone s.abs&&laidKept (boot_heap w.params) s.abs.heap))=some true) (u.withFollow "special-get-raises" b):=λb u=>by cases b; exact zXt u os; exact zW8 u os
 have:=h (w.params.followText "special-get-raises") w;rwa[eM] at this
set_option maxHeartbeats 0 in
open PySem.W in
theorem zXb(u:aU)(os:gD):(lkT (u.withFollow "special-get-raises" true) os).map (λs=>(lkS s).1)=some (openGood qv lse).1:=by kernel_rfl
set_option maxHeartbeats 0 in
open PySem.W in
theorem zX9(u:aU)(os:gD):(lkT (u.withFollow "special-get-raises" false) os).map (λs=>(lkS s).1)=some (openGood qv lse).1:=by kernel_rfl
set_option maxHeartbeats 0 in
open PySem.W in
theorem yb0(w:aU)(os:gD):(lkT w os).map (λs=>(lkS s).1)=some (openGood qv lse).1:=by
 have h:∀(b:Bool)(u:aU),(λw:aU=>(lkT w os).map (λs=>(lkS s).1)=some (openGood qv lse).1) (u.withFollow "special-get-raises" b):=λb u=>by cases b; exact zX9 u os; exact zXb u os
 have:=h (w.params.followText "special-get-raises") w;rwa[eM] at this
set_option maxHeartbeats 0 in
open PySem.W in
theorem zXp(u:aU)(os:gD):(lkT (u.withFollow "special-get-raises" true) os).map (λs=>(lkS s).2)=some (openGood qv lse).2:=by kernel_rfl
set_option maxHeartbeats 0 in
open PySem.W in
theorem zX1(u:aU)(os:gD):(lkT (u.withFollow "special-get-raises" false) os).map (λs=>(lkS s).2)=some (openGood qv lse).2:=by kernel_rfl
set_option maxHeartbeats 0 in
open PySem.W in
theorem zZ4(w:aU)(os:gD):(lkT w os).map (λs=>(lkS s).2)=some (openGood qv lse).2:=by
 have h:∀(b:Bool)(u:aU),(λw:aU=>(lkT w os).map (λs=>(lkS s).2)=some (openGood qv lse).2) (u.withFollow "special-get-raises" b):=λb u=>by cases b; exact zX1 u os; exact zXp u os
 have:=h (w.params.followText "special-get-raises") w;rwa[eM] at this
set_option maxHeartbeats 0 in
open PySem.W in
theorem zXl(u:aU)(os:gD):(lkT (u.withFollow "special-get-raises" true) os).map (λs=>kas.map s.abs.heap.get?)=some ((KK (u.withFollow "special-get-raises" true).params).map λp=>some p.2):=by kernel_rfl
set_option maxHeartbeats 0 in
open PySem.W in
theorem zXn(u:aU)(os:gD):(lkT (u.withFollow "special-get-raises" false) os).map (λs=>kas.map s.abs.heap.get?)=some ((KK (u.withFollow "special-get-raises" false).params).map λp=>some p.2):=by kernel_rfl
set_option maxHeartbeats 0 in
open PySem.W in
theorem zZy(w:aU)(os:gD):(lkT w os).map (λs=>kas.map s.abs.heap.get?)=some ((KK w.params).map λp=>some p.2):=by
 have h:∀(b:Bool)(u:aU),(λw:aU=>(lkT w os).map (λs=>kas.map s.abs.heap.get?)=some ((KK w.params).map λp=>some p.2)) (u.withFollow "special-get-raises" b):=λb u=>by cases b; exact zXn u os; exact zXl u os
 have:=h (w.params.followText "special-get-raises") w;rwa[eM] at this
set_option maxHeartbeats 0 in
open PySem.W in
theorem left_ok:LeftO PySem.Challenge.rw_seamarks_k35_deeds_of_a_book.row.prog qv lse (λs=>xlAt qv [] s&&recOk (RowW.records (OpenRow.toRowW PySem.Challenge.rw_seamarks_k35_deeds_of_a_book.row)) s)
  (λs=>kas.map s.heap.get?) (λw=>(KK w.params).map λp=>some p.2) 90000:=by
 refine zS3 (boot_open (by kernel_rfl) (by decide) (λs=>by kernel_rfl)) ?a ?b ?c
 case a =>
  rw[gJ,eQ,eO];exact zZ9
 case b =>
  rw[Fast.te4187177175401517315,gJ,eQ,eO];exact λw os=>zUf (f:=lkS) (yb0 w os) (zZ4 w os)
 case c =>
  rw[eQ,eO];exact zZy
end Sea
-- BASE
namespace L2
open PySem PySem.Spec PyProof.Rows

abbrev Key:=Sum Int az
def zMk:Key->ag->Bool
 | .inl k,v=>nK k v
 | .inr x,v=>mG x v
def keyH(w:aU):Key->Int
 | .inl k=>hashInt k
 | .inr x=>hashStr w x
theorem yQ:∀{k:Key}{v:ag},zMk k v=true->(∃ i t,k=d7 i/\v=dP i t)\/(∃ x t,k=d8 x/\v=cF x t)
 | .inl i,v,h=>by
  obtain⟨t,e⟩:=Value.isInt_shape (k:=i) (v:=v) h;exact .inl ⟨i,t,rfl,e⟩
 | .inr x,v,h=>by
  obtain⟨t,e⟩:=Value.isStrOf_shape (x:=x) (v:=v) h;exact .inr ⟨x,t,rfl,e⟩
theorem zQt(i:Int)(t:nV):zMk (.inl i) (.int i t)=true:=by simp[zMk,nK]
theorem zRa(x:az)(t:nV):zMk (.inr x) (.str x t)=true:=by simp[zMk,mG]
theorem zZq(a b:Int):decide ((d7 a:Key)=d7 b)=(a == b):=by
 by_cases e:a=b
 ·subst e; simp
 ·have h:¬ (d7 a:Key)=d7 b:=λq=>e (Sum.inl.inj q);rw[decide_eq_false h];exact(beq_eq_false_iff_ne.mpr e).symm
theorem zY3(a b:az):decide ((d8 a:Key)=d8 b)=decide (a=b):=by
 by_cases e:a=b
 ·subst e; simp
 ·have h:¬ (d8 a:Key)=d8 b:=λq=>e (lC q);rw[decide_eq_false h,decide_eq_false e]
theorem zZ5(a:Int)(b:az):decide ((d7 a:Key)=d8 b)=false:=decide_eq_false (λq=>nomatch q)
theorem zZg(a:az)(b:Int):decide ((d8 a:Key)=d7 b)=false:=decide_eq_false (λq=>nomatch q)

def yL(prog:aK)(w:aU):PySem.KeyKind prog w Key where
 is:=zMk
 hash:=keyH w
 inj:=λv a b ha hb=>by
  rcases yQ ha with ⟨i,t,rfl,rfl⟩ | ⟨x,t,rfl,rfl⟩
  ·rcases yQ hb with ⟨j,u,rfl,e⟩ | ⟨y,u,rfl,e⟩
   ·injection e with e1 _; rw[e1]
   ·exact nomatch e
  ·rcases yQ hb with ⟨j,u,rfl,e⟩ | ⟨y,u,rfl,e⟩
   ·exact nomatch e
   ·injection e with e1 _; rw[e1]
 byValue:=λk v h=>by
  rcases yQ h with ⟨i,t,rfl,rfl⟩ | ⟨x,t,rfl,rfl⟩ <;> rfl
 pyHash:=λhv h=>by
  rcases yQ hv with ⟨i,t,rfl,rfl⟩ | ⟨x,t,rfl,rfl⟩
  ·exact wpAny_pyHash_int h
  ·exact wpAny_pyHash_str h
 eqBool:=λhu hv h=>by
  rcases yQ hu with ⟨i,t,rfl,rfl⟩ | ⟨x,t,rfl,rfl⟩
  ·rcases yQ hv with ⟨j,u,rfl,rfl⟩ | ⟨y,u,rfl,rfl⟩
   ·rw[zZq] at h; exact kK h
   ·rw[zZ5] at h; exact jF i t y u _ _ _ _ h
  ·rcases yQ hv with ⟨j,u,rfl,rfl⟩ | ⟨y,u,rfl,rfl⟩
   ·rw[zZg] at h; exact jG x t j u _ _ _ _ h
   ·rw[zY3] at h; exact kL h
 «strs»:=λk x t v h=>by
  rcases yQ h with ⟨i,u,rfl,e⟩ | ⟨y,u,rfl,e⟩
  ·exact nomatch e
  ·injection e with e1 _
   subst e1;cases v <;> rfl

theorem zM7(prog:aK)(w:aU)(i:Int)(t:nV):(yL prog w).is (.inl i) (.int i t)=true:=zQt i t
theorem zBi(prog:aK)(w:aU)(x:az)(t:nV):(yL prog w).is (.inr x) (.str x t)=true:=zRa x t
end L2

namespace L2
open PySem PySem.Spec PyProof.Rows

inductive V where
 | non | bl (b:Bool) | int (i:Int) | str (x:az) | byt (b:Array UInt8) | flt (b:UInt64) | ref (a:af) | ty (n:String)
 deriving DecidableEq

def xD:V->ag->Prop
 | .non,u=>u=bp
 | .bl b,u=>u=iu b
 | .int i,u=>∃ t,u=dP i t
 | .str x,u=>∃ t,u=cF x t
 | .byt b,u=>∃ t,u=lD b t
 | .flt b,u=>∃ t,u=i9 b t
 | .ref a,u=>u=aI a
 | .ty n,u=>u=lP n

abbrev yT:List V->List ag->Prop:=kM xD
theorem yT.length{xs:List V}{us:List ag}(r:yT xs us):xs.length=us.length:=jz r
theorem yT.get:∀{xs:List V}{us:List ag}{i:Nat}{x:V},yT xs us->xs[i]?=some x->∃ u,us[i]?=some u/\xD x u
 | _,_,_,_,.nil,e=>by simp at e
 | _,_,0,_,.cons r _,e=>by simp at e; subst e; exact⟨_,U,r⟩
 | _,_,i+1,x,.cons _ t,e=>by
  obtain⟨u,h1,h2⟩:=yT.get (i:=i) (x:=x) t (by simpa using e);exact⟨u,by simpa using h1,h2⟩
theorem yT.set{x:V}{u:ag}(r:xD x u):∀{xs:List V}{us:List ag}(i:Nat),yT xs us->yT (xs.set i x) (us.set i u)
 | _,_,_,.nil=>.nil
 | _,_,0,.cons _ t=>.cons r t
 | _,_,i+1,.cons q t=>.cons q (yT.set r i t)
theorem yT.append:∀{xs ys:List V}{us ws:List ag},yT xs us->yT ys ws->yT (xs++ys) (us++ws)
 | _,_,_,_,.nil,s=>s
 | _,_,_,_,.cons r t,s=>.cons r (yT.append t s)
theorem yT.take:∀{xs:List V}{us:List ag}(n:Nat),yT xs us->yT (xs.take n) (us.take n)
 | _,_,0,_=>.nil
 | _,_,_+1,.nil=>.nil
 | _,_,n+1,.cons r t=>.cons r (yT.take n t)
theorem yT.drop:∀{xs:List V}{us:List ag}(n:Nat),yT xs us->yT (xs.drop n) (us.drop n)
 | _,_,0,r=>r
 | _,_,_+1,.nil=>.nil
 | _,_,n+1,.cons _ t=>yT.drop n t
theorem yT.none_of:∀{xs:List V}{us:List ag}{i:Nat},yT xs us->xs[i]?=none->us[i]?=none:=λ{xs us i} r e=>by
 have h1:=r.length;have h2:xs.length<=i:=gU.mp e;exact gU.mpr (by lia)

def zJf:Option V->Option ag->Prop
 | some v,some u=>xD v u
 | none,none=>True
 | _,_=>False
def KV{κ:Type} : List (κ×V)->List (κ×ag)->Prop:=kM λ(p:κ×V) (q:κ×ag)=>p.1=q.1/\xD p.2 q.2

def kV:Key->V
 | .inl i=>.int i
 | .inr x=>.str x

inductive HO where
 | lst (xs:List V)
 | tup (xs:List V)
 | dK (kvs:List (Key×V)) | dT (kvs:List (List Key×V))
 | set (S:Int->Bool) (n:Nat)
 | ins (C dx:af) (fs:List (az×V))
 | own (x:af)
 | xd (fs:List (az×V))
 | met (f x:af)
 | rng (lo hi:Int)
 | frz (o:cD) (u:HO)
 | tbl (ps:Array ag)
 | ext (φ:aX->Prop)

abbrev Hp:=af->Option HO
def upd(H:Hp)(a:af)(o:HO):Hp:=λb=>if b=a then some o else H b
theorem zA{H:Hp}{a:af}{o:HO} : upd H a o a=some o:=by unfold upd; rw[if_pos rfl]
theorem zG{H:Hp}{a b:af}{o:HO}(h:b≠a):upd H a o b=H b:=by unfold upd; rw[if_neg h]
theorem zRg{H:Hp}{a b:af}{o u:HO}(h:H a=some o)(h':H b=some u)(d:o≠u):a≠b:=by
 intro e; subst e; rw[h] at h'; exact d (bh h')
theorem zL{H:Hp}{a b:af}{o:HO}(h:H a=some o)(h':H b=none):a≠b:=by
 intro e; subst e; rw[h] at h'; cases h'

section
variable(P:aK)(w:aU)
def xC(H:Hp)(h:aX)(a:af):HO->Prop
 | .lst xs=>xs.length<=sizeLine/\∃(its:List ag)(n:Nat),yT xs its/\h.get? a=some { cls:=.type "list",data:=.seq its.toArray n }
 | .tup xs=>xs.length<=sizeLine/\∃ its:List ag,yT xs its/\ni h a its.toArray
 | .dK kvs=>kvs.length<=sizeLine/\(a == sysModules)=false/\∃ vs,KV kvs vs/\h.DictOf (yL P w) a vs
 | .dT kvs=>kvs.length<=sizeLine/\(a == sysModules)=false/\∃ xs:List (List Key×af×ag),
   kM (λ(p:List Key×V) (q:List Key×af×ag)=>p.1=q.1/\H q.2.1=some (.tup (p.1.map kV))/\xD p.2 q.2.2) kvs xs /\
   ∃ o es ep,h.get? a=some o/\o.ExactDict/\o.data=.dict es ep/\es.toList=xs.map (entryOfKey (tupleKind (yL P w)))/\(xs.map (·.1)).Nodup
 | .set S n=>h.SetOf (intKind P w) a S n
 | .ins C dx fs=>H dx=some (.own a)/\fs.length<=1000/\dx≠a/\h.get? a=some (dq C dx) /\
   ∃ mA,h.Ns1 dx mA/\(∀ f,zJf (fs.lookup f) (mA f))/\jX mA (fs.map (·.1))
 | .own _=>∃ o,h.get? a=some o
 | .xd fs=>∃ mA,h.Ns1 a mA/\∀ f,zJf (fs.lookup f) (mA f)
 | .rng lo hi=>∃ t u v,h.get? a=some { cls:=.type "range",data:=.fields #[.int lo t,.int hi u,.int 1 v] }
 | .frz o u=>h.get? a=some o/\xC H h a u
 | .tbl ps=>h.get? a=some { cls:=.none,data:=.fields ps }
 | .met f x=>h.get? a=some (g6 (.ref f) (.ref x))
 | .ext φ=>φ h/\(∃ o,h.get? a=some o)/\∀ h1 h2:aX,φ h1->(∀ o,h1.get? a=some o->h2.get? a=some o)->φ h2
def HOk(H:Hp)(h:aX):Prop:=∀ a o,H a=some o->xC P w H h a o
end

section
variable{P:aK}{w:aU}{H H':Hp}{h h':aX}{a:af}{o:HO}
theorem xC.lt(x:xC P w H h a o):a<h.objs.size:=by
 cases o with
 | lst xs=>obtain⟨_,_,_,_,e⟩:=x; exact aw e
 | tup xs=>obtain⟨_,_,_,p⟩:=x; exact p.lt
 | dK kvs=>obtain⟨_,_,_,_,o,_,_,e,_⟩:=x; exact aw e
 | dT kvs=>obtain⟨_,_,_,_,o,_,_,e,_⟩:=x; exact aw e
 | set S n=>obtain⟨o,_,_,_,e,_⟩:=x; exact aw e
 | ins C dx fs=>obtain⟨_,_,_,e,_⟩:=x; exact aw e
 | own y=>obtain⟨_,e⟩:=x; exact aw e
 | xd fs=>obtain⟨_,⟨_,_,_,e,_⟩,_⟩:=x; exact aw e
 | rng lo hi=>obtain⟨_,_,_,e⟩:=x; exact aw e
 | frz ob u=>obtain⟨e,_⟩:=x; exact aw e
 | tbl ps=>exact aw (show h.get? a=some _ from x)
 | met f y=>exact aw (show h.get? a=some _ from x)
 | ext φ=>obtain⟨_,⟨_,e⟩,_⟩:=x; exact aw e
theorem Paired.mapP{α β:Type}{F G:α->β->Prop} : ∀{l₁:List α}{l₂:List β},kM F l₁ l₂->(∀ a b,F a b->G a b)->kM G l₁ l₂
 | _,_,.nil,_=>.nil
 | _,_,.cons r t,f=>.cons (f _ _ r) (Paired.mapP t f)
theorem xC.stay(x:xC P w H h a o)(k:∀ b u,(b=a\/H b=some (.own a))->h.get? b=some u->h'.get? b=some u)
  (ho:∀ b,H b=some (.own a)->H' b=some (.own a)) (ht:∀ b xs,H b=some (.tup xs)->H' b=some (.tup xs)):xC P w H' h' a o:=by
 induction o with
 | lst xs=>obtain⟨z,its,n,r,e⟩:=x; exact⟨z,its,n,r,k _ _ (.inl rfl) e⟩
 | tup xs=>obtain⟨z,its,r,ob,e,c⟩:=x; exact⟨z,its,r,ob,k _ _ (.inl rfl) e,c⟩
 | dK kvs=>obtain⟨z,y,vs,r,ob,es,ep,e,c⟩:=x; exact⟨z,y,vs,r,ob,es,ep,k _ _ (.inl rfl) e,c⟩
 | dT kvs =>
  obtain⟨z,y,xs,r,ob,es,ep,e,c⟩:=x;exact⟨z,y,xs,Paired.mapP r λp q z=>⟨z.1,ht _ _ z.2.1,z.2.2⟩,ob,es,ep,k _ _ (.inl rfl) e,c⟩
 | set S n=>obtain⟨ob,es,ep,t,e,c⟩:=x; exact⟨ob,es,ep,t,k _ _ (.inl rfl) e,c⟩
 | ins C dx fs =>
  obtain⟨d,z,ne,e,mA,⟨od,es,ep,e2,c⟩,r⟩:=x;exact⟨ho _ d,z,ne,k _ _ (.inl rfl) e,mA,⟨od,es,ep,k _ _ (.inr d) e2,c⟩,r⟩
 | own y=>obtain⟨ob,e⟩:=x; exact⟨ob,k _ _ (.inl rfl) e⟩
 | xd fs=>obtain⟨mA,⟨od,es,ep,e,c⟩,r⟩:=x; exact⟨mA,⟨od,es,ep,k _ _ (.inl rfl) e,c⟩,r⟩
 | rng lo hi=>obtain⟨t,u,v,e⟩:=x; exact⟨t,u,v,k _ _ (.inl rfl) e⟩
 | frz ob u ih=>obtain⟨e,q⟩:=x; exact⟨k _ _ (.inl rfl) e,ih q⟩
 | tbl ps =>
  have e:h.get? a=some { cls:=.none,data:=.fields ps }:=x;show h'.get? a=some { cls:=.none,data:=.fields ps };exact k a _ (.inl rfl) e
 | met f y =>
  have e:h.get? a=some (g6 (.ref f) (.ref y)):=x;show h'.get? a=some (g6 (.ref f) (.ref y));exact k a _ (.inl rfl) e
 | ext φ=>obtain⟨p,⟨o,e⟩,st⟩:=x; exact⟨st _ _ p λo q=>k _ _ (.inl rfl) q,⟨o,k _ _ (.inl rfl) e⟩,st⟩
theorem HOk.lt(x:HOk P w H h)(e:H a=some o):a<h.objs.size:=(x a o e).lt
theorem HOk.fresh(x:HOk P w H h)(e:h.objs.size<=a):H a=none:=by
 cases q:H a with
 | none=>rfl
 | some u=>exact absurd (aR (x.lt q) e) (c9 _)
theorem HOk.kept(x:HOk P w H h)(k:∀ b u,h.get? b=some u->h'.get? b=some u):HOk P w H h':=λa o e =>
 (x a o e).stay (λb u _ q=>k b u q) (λ_ q=>q) λ_ _ q=>q
theorem HOk.laid(x:HOk P w H h)(k:∀ b u,h.get? b=some u->h'.get? b=some u)(hp:h.objs.size<=a)(new:xC P w (upd H a o) h' a o):HOk P w (upd H a o) h':=λb u e=>by
 have hn:=x.fresh hp;by_cases hb:b=a
 ·subst hb; rw[zA] at e; cases e; exact new
 ·rw[zG hb] at e;exact(x b u e).stay (λc v _ q=>k c v q) (λc q=>by rw[zG (zL q hn)]; exact q) λc xs q=>by rw[zG (zL q hn)]; exact q
end

def Rd(H:Hp)(a:af)(u:HO):Prop:=H a=some u\/∃ o,H a=some (.frz o u)
theorem Rd.ok{P:aK}{w:aU}{H:Hp}{h:aX}{a:af}{u:HO}(r:Rd H a u)(x:HOk P w H h):xC P w H h a u:=by
 rcases r with r | ⟨o,r⟩
 ·exact x a u r
 ·obtain⟨_,q⟩:=x a _ r;exact q
def Mut:Option HO->Prop
 | some (.lst _)=>True
 | some (.dK _)=>True
 | some (.dT _)=>True
 | some (.set _ _)=>True
 | some (.ins _ _ _)=>True
 | some (.ext _)=>True
 | _=>False
section
variable{P:aK}{w:aU}{H:Hp}{h h':aX}{x e:af}{o':HO}
theorem HOk.write(ok:HOk P w H h)(mu:Mut (H x))(he:e=x\/H e=some (.own x))(k:∀ b u,b≠e->h.get? b=some u->h'.get? b=some u)(heo:∃ u,h'.get? e=some u)
  (new:xC P w (upd H x o') h' x o'):HOk P w (upd H x o') h':=λb u q=>by
 have nown:∀ c y,H c=some (.own y)->c≠x:=λc y r z=>by subst z; rw[r] at mu; exact mu
 have ntup:∀ c xs,H c=some (.tup xs)->c≠x:=λc xs r z=>by subst z; rw[r] at mu; exact mu
 by_cases hb:b=x
 ·subst hb; rw[zA] at q; cases q; exact new
 ·rw[zG hb] at q;by_cases hbe:b=e
  ·have q':H b=some (.own x):=by
    rcases he with z | z
    ·exact absurd (hbe.trans z) hb
    ·rw[hbe]; exact z
   rw[q] at q'; cases q';obtain⟨v,hv⟩:=heo;exact⟨v,by rw[hbe]; exact hv⟩
  ·refine(ok b u q).stay (λc v hc r=>k c v ?_ r) (λc r=>by rw[zG (nown c b r)]; exact r) λc xs r=>by rw[zG (ntup c xs r)]; exact r
   rcases hc with rfl | hc
   ·exact hbe
   ·rintro rfl;rcases he with z | z
    ·exact nown c b hc z
    ·rw[hc] at z; cases z; exact hb rfl
end

structure Un(fs ex:List af)(H H':Hp)(h h':aX):Prop where
 keep:∀ b o,h.get? b=some o->H b=none->b ∉ fs->b ∉ ex->h'.get? b=some o
 slot:∀ b o,h.get? b=some o->H b=none->b∈fs->b ∉ ex->∃ sl,h'.get? b=some { o with slots:=sl }
 free:∀ b o,h.get? b=some o->H b=none->b ∉ ex->H' b=none
 there:∀ b o,h.get? b=some o->b ∉ ex->∃ o',h'.get? b=some o'
 tups:∀ b xs,H b=some (.tup xs)->H' b=some (.tup xs)
 frzs:∀ b o u,H b=some (.frz o u)->H' b=some (.frz o u)
 tbls:∀ b ps,H b=some (.tbl ps)->∃ more,H' b=some (.tbl (ps++more))
section
variable{fs fs' ex ex':List af}{H H1 H2:Hp}{h h1 h2 h':aX}{a x e:af}{o:HO}
theorem Un.any(u:Un fs ex H H1 h h1){b:af}{ob:cD}(q:h.get? b=some ob)(n:H b=none)(hx:b ∉ ex):∃ sl,h1.get? b=some { ob with slots:=sl }:=by
 by_cases hb:b∈fs
 ·exact u.slot b ob q n hb hx
 ·exact⟨ob.slots,u.keep b ob q n hb hx⟩
theorem Un.kept(k:∀ b u,h.get? b=some u->h'.get? b=some u):Un fs ex H H h h' :=
 ⟨λb ob q _ _ _=>k b ob q,λb ob q _ _ _=>⟨ob.slots,k b ob q⟩,λ_ _ _ n _=>n,λb ob q _=>⟨ob,k b ob q⟩,λ_ _ q=>q,λ_ _ _ q=>q,λ_ ps q=>⟨#[],by rw[q]; simp⟩⟩
theorem Un.refl:Un fs ex H H h h:=Un.kept λ_ _ q=>q
theorem Un.laid(k:∀ b u,h.get? b=some u->h'.get? b=some u)(hp:h.objs.size<=a)(hn:H a=none):Un fs ex H (upd H a o) h h' where
 keep:=λb u q _ _ _=>k b u q
 slot:=λb u q _ _ _=>⟨u.slots,k b u q⟩
 free:=λb u q n _=>by rw[zG (aP (aR (aw q) hp))]; exact n
 there:=λb u q _=>⟨u,k b u q⟩
 tups:=λb xs q=>by rw[zG (zL q hn)]; exact q
 frzs:=λb u xs q=>by rw[zG (zL q hn)]; exact q
 tbls:=λb ps q=>⟨#[],by rw[zG (zL q hn),q]; simp⟩
theorem Un.write(mu:Mut (H x))(he:e=x\/H e=some (.own x))(k:∀ b u,b≠e->h.get? b=some u->h'.get? b=some u)(heo:∃ u,h'.get? e=some u):Un fs ex H (upd H x o) h h':=by
 have hx:∀ b,H b=none->b≠x:=λb n z=>by subst z; rw[n] at mu; exact mu
 have hb:∀ b,H b=none->b≠e:=λb n z=>by
  subst z;rcases he with r | r
  ·exact hx b n r
  ·rw[n] at r; cases r
 have hm:∀ b u,H b=some u->¬ Mut (some u)->b≠x:=λb u q nm z=>by subst z; rw[q] at mu; exact nm mu
 refine⟨λb u q n _ _=>k b u (hb b n) q,λb u q n _ _=>⟨u.slots,k b u (hb b n) q⟩,λb u q n _=>by rw[zG (hx b n)]; exact n,λb u q _=>?_,
  λb xs q=>by rw[zG (hm b _ q λz=>z)]; exact q,λb u xs q=>by rw[zG (hm b _ q λz=>z)]; exact q,λb ps q=>⟨#[],by rw[zG (hm b _ q λz=>z),q]; simp⟩⟩
 by_cases hbe:b=e
 ·subst hbe; exact heo
 ·exact⟨u,k b u hbe q⟩
end

def trk(h:aX)(H:Hp):List af:=(bv h.objs.size).filter λa=>(H a).isSome
def zUk(h:aX)(H:Hp):aX:=iJ h (trk h H)
theorem zQe(h:aX)(H:Hp):(zUk h H).objs.size=h.objs.size:=PySem.W.hideAll_size _ _
theorem zTp{h:aX}{H:Hp}{b:af}{o:cD}(e:h.get? b=some o)(n:H b=none):(zUk h H).get? b=some o :=
 jr _ e λhm=>by
  have q:(H b).isSome=true:=(dQ.mp hm).2;rw[n] at q; simp at q
theorem zW9{h:aX}{H:Hp}{b:af}{o:cD}(e:(zUk h H).get? b=some o):h.get? b=some o/\H b=none:=by
 have e':h.get? b=some o:=jH (trk h H) e;exists e';cases q:H b with
 | none=>rfl
 | some x =>
  have hm:b∈trk h H:=dQ.mpr ⟨bg.mpr (aw e'),by simp[q]⟩;have z:(zUk h H).get? b=none:=PySem.W.hideAll_none (trk h H) hm;rw[z] at e; cases e

end L2

namespace L2
open PySem PySem.Spec PyProof.Rows

structure Mod(K:ae)(mg:az->Option ag)(base:aX):Prop where
 kin:K.In base
 glob:base.Ns mainGlobals mg
 blt:∃ mb,base.Ns builtinsNs mb/\∀ x:az,x ≠ "__name__" -> mb x=bootBuiltins x
 nolimit:base.NoLimit

structure Cx where
 prog:aK
 w:aU
 K:ae
 mg:az->Option ag
 base:aX
 A:bI
 N:List az
 s₀:ai
 H₀:Hp
 env:gq
 outer:List gq
 stack:List gq
 ex:List af
 fn:az->Bool
 calm:Bool
 pn:List (af×cD)
 xe:ag->ai->Prop
def frs(l:List gq):List af:=l.filterMap (·.frame)
abbrev Cx.fs(X:Cx):List af:=frs X.outer

def Vis(sc:fD)(x:az):Prop:=sc.names.lookup x=some .local\/sc.names.lookup x=some .cell\/sc.names.lookup x=some .free
def Loc(sc:fD)(x:az):Prop:=sc.names.lookup x=some .local\/sc.names.lookup x=some .cell
def Look(env:gq)(h:aX)(m:az->Option ag)(x:az)(u:ag):Prop :=
 (env.kindOf x=some .local/\m x=some u)\/((env.kindOf x=some .cell\/env.kindOf x=some .free)/\∃ c,env.cells.lookup x=some c/\h.IsCell c (some u))

structure Cx.Ok(X:Cx):Prop where
 mod:Mod X.K X.mg X.base
 kind:X.env.scope.kind=.function
 glob:X.env.globals=mainGlobals
 blt:X.env.builtins=builtinsNs
 above:X.s₀.heap.objs.size<=X.env.locals
 inj:∀ x y c,X.env.cells.lookup x=some c->X.env.cells.lookup y=some c->x=y
 has:∀ x,(X.env.kindOf x=some .cell\/X.env.kindOf x=some .free)->∃ c,X.env.cells.lookup x=some c
 cab:∀ x c,X.fn x=true->X.env.cells.lookup x=some c->X.s₀.heap.objs.size<=c
 hd:X.calm=true->X.A.handled=none
 frames:X.A.frames=some X.stack
 stk:X.stack=X.outer\/(X.stack=X.env::X.outer/\X.env.frame=some X.env.locals)
 exf:∀ b∈X.ex,b≠X.env.locals/\∀ x c,X.env.cells.lookup x=some c->c≠b
 bs:∀ b o,X.base.get? b=some o->X.s₀.heap.get? b=some o/\X.H₀ b=none
 bsz:X.base.objs.size<=X.s₀.heap.objs.size
 noex:∀ b o,X.base.get? b=some o->b ∉ X.ex
 exfs:∀ b∈X.ex,b ∉ X.fs
 funs:X.s₀.heap.FunFrames X.base X.outer
 frf:∀ b∈X.fs,X.H₀ b=none

structure Inv(X:Cx)(pins:List (af×cD))(σ:List (Option V))(H:Hp)(s:ai):Prop where
 ok:X.Ok
 os:s.os=X.s₀.os
 bare:gE s.gens
 base:Un X.fs X.ex X.H₀ H X.s₀.heap s.heap
 loc:∃ m,s.heap.Ns X.env.locals m/\∀(i:Nat)(x:az)(v:V),X.N[i]?=some x->σ[i]?=some (some v)->Vis X.env.scope x->∃ u,xD v u/\Look X.env s.heap m x u
 cell:∀ x c,X.env.cells.lookup x=some c->∃ v,s.heap.IsCell c v
 free:H X.env.locals=none
 freeC:∀ x c,X.env.cells.lookup x=some c->H c=none
 pin:∀ p∈X.pn++pins,s.heap.get? p.1=some p.2/\H p.1=none/\p.1≠X.env.locals/\p.1 ∉ X.fs/\∀ v,p.2.data≠.cell v
 hok:HOk X.prog X.w H s.heap
 len:σ.length=X.N.length

section
variable{X:Cx}{pins:List (af×cD)}{σ:List (Option V)}{H H':Hp}{s:ai}{h':aX}

theorem Cx.Ok.nofr(ok:X.Ok){b:af}{o:cD}(e:X.base.get? b=some o):b ∉ X.fs:=λhb=>by
 have:=(ok.funs.mem hb).1;rw[e] at this; cases this
theorem Inv.bs(I:Inv X pins σ H s):∀ b o,X.base.get? b=some o->s.heap.get? b=some o/\H b=none:=λb o e =>
 ⟨I.base.keep b o (I.ok.bs b o e).1 (I.ok.bs b o e).2 (I.ok.nofr e) (I.ok.noex b o e),I.base.free b o (I.ok.bs b o e).1 (I.ok.bs b o e).2 (I.ok.noex b o e)⟩
theorem Inv.bk(I:Inv X pins σ H s):∀ b o,X.base.get? b=some o->s.heap.get? b=some o:=λb o e=>(I.bs b o e).1
theorem Inv.mod(I:Inv X pins σ H s):Mod X.K X.mg X.base:=I.ok.mod
theorem Inv.kIn(I:Inv X pins σ H s):X.K.In s.heap:=I.ok.mod.kin.keeps I.bk
theorem Inv.lt(I:Inv X pins σ H s):X.env.locals<s.heap.objs.size:=let ⟨_,hn,_⟩:=I.loc; hn.lt
theorem Inv.sz(I:Inv X pins σ H s):X.s₀.heap.objs.size<=s.heap.objs.size:=aD I.ok.above (dB I.lt)
theorem Inv.nofs(I:Inv X pins σ H s){a:af}(h:s.heap.objs.size<=a):a ∉ X.fs:=λhb=>by
 obtain⟨_,o,ho,_⟩:=I.ok.funs.mem hb;exact absurd (aR (aw ho) (aD I.sz h)) (c9 _)
theorem Inv.cne(I:Inv X pins σ H s):∀ x c,X.env.cells.lookup x=some c->c≠X.env.locals:=λx c e z=>by
 obtain⟨v,o,ho,hd⟩:=I.cell x c e;obtain⟨m,⟨o',es,ep,ho',hd',_⟩,_⟩:=I.loc;rw[z,ho'] at ho; cases ho; rw[hd'] at hd; cases hd
theorem Inv.funs(I:Inv X pins σ H s):s.heap.FunFrames X.base X.outer:=by
 have all:∀(l:List gq),(∀ b∈frs l,b∈X.fs)->X.s₀.heap.FunFrames X.base l->s.heap.FunFrames X.base l:=by
  intro l
  induction l with
  | nil=>intro _ _; trivial
  | cons env r ih =>
   intro hs hl;obtain⟨hk,⟨L,o,hf,hn,ho,hd⟩,hr⟩:=hl;have hL:L∈X.fs:=hs L (by unfold frs; rw[cS,hf]; exact cA);obtain⟨sl,e⟩:=I.base.slot L o ho (I.ok.frf L hL) hL λz=>I.ok.exfs L z hL;exact⟨hk,⟨L,_,hf,hn,e,hd⟩,ih (λb hb=>hs b (by unfold frs; rw[cS,hf]; exact bJ _ hb)) hr⟩
 exact all X.outer (λ_ hb=>hb) I.ok.funs

theorem Inv.stack(I:Inv X pins σ H s):s.heap.FunFrames X.base X.stack:=by
 rcases I.ok.stk with e | ⟨e,hf⟩
 ·rw[e]; exact I.funs
 ·rw[e];obtain⟨m,hn,_⟩:=I.loc;refine .cons (by rw[I.ok.kind]; decide) hf hn ?_ I.funs;exact fW (aD I.ok.bsz I.ok.above)
theorem Inv.stkSub(I:Inv X pins σ H s):∀ b∈frs X.stack,b∈X.env.locals::X.fs:=λb hb=>by
 rcases I.ok.stk with e | ⟨e,hf⟩
 ·rw[e] at hb; exact bJ _ hb
 ·rw[e] at hb;unfold frs at hb;rw[cS,hf] at hb;exact hb
theorem Inv.stkFree(I:Inv X pins σ H s):∀ b∈frs X.stack,H b=none:=λb hb=>by
 rcases aA.mp (I.stkSub b hb) with e | hb
 ·rw[e]; exact I.free
 ·obtain⟨_,o,ho,_⟩:=I.ok.funs.mem hb;exact I.base.free b o ho (I.ok.frf b hb) λz=>I.ok.exfs b z hb

theorem Inv.step{g':Array GenState}{t':Nat}{d':Drawn}{ch:List af}(I:Inv X pins σ H s)
  (hch:∀ b∈ch,(b∈X.ex\/X.s₀.heap.objs.size<=b)/\b≠X.env.locals/\(∀ x c,X.env.cells.lookup x=some c->c≠b)/\∀ p∈X.pn++pins,p.1≠b)
  (keep:∀ b o,b≠X.env.locals->b ∉ X.fs->b ∉ ch->s.heap.get? b=some o->H b=none->h'.get? b=some o)
  (slot:∀ b o,b≠X.env.locals->b∈X.fs->b ∉ ch->s.heap.get? b=some o->H b=none->∃ sl,h'.get? b=some { o with slots:=sl }) (free:∀ b o,b ∉ ch->s.heap.get? b=some o->H b=none->H' b=none)
  (there:∀ b o,b ∉ ch->s.heap.get? b=some o->∃ o',h'.get? b=some o')
  (tups:∀ b xs,H b=some (.tup xs)->H' b=some (.tup xs)) (frzs:∀ b o u,H b=some (.frz o u)->H' b=some (.frz o u)) (tbls:∀ b ps,H b=some (.tbl ps)->∃ more,H' b=some (.tbl (ps++more)))
  (ns:∀ m,s.heap.Ns X.env.locals m->h'.Ns X.env.locals m) (hok:HOk X.prog X.w H' h') (hg:gE g') :
  Inv X pins σ H' { s with heap:=h',gens:=g',drawn:=d',toks:=t' }:=by
 have neL:∀ b o,X.s₀.heap.get? b=some o->b≠X.env.locals:=λb o e=>aP (aR (aw e) I.ok.above);have neC:∀ b o,X.s₀.heap.get? b=some o->b ∉ X.ex->b ∉ ch:=λb o e hx hb=>by
  rcases (hch b hb).1 with z | z
  ·exact hx z
  ·exact absurd (aR (aw e) z) (c9 _)
 have cellK:∀ x c,X.env.cells.lookup x=some c->∀ v,s.heap.IsCell c v->h'.IsCell c v:=λx c e v ⟨o,ho,hd⟩=>by
  have nch:c ∉ ch:=λz=>(hch c z).2.2.1 x c e rfl;by_cases hc:c∈X.fs
  ·obtain⟨sl,q⟩:=slot c o (I.cne x c e) hc nch ho (I.freeC x c e);exact⟨_,q,hd⟩
  ·exact⟨o,keep c o (I.cne x c e) hc nch ho (I.freeC x c e),hd⟩
 refine⟨I.ok,I.os,hg,⟨λb o e n hb hx=>?_,λb o e n hb hx=>?_,λb o e n hx=>?_,λb o e hx=>?_,λb xs e=>tups b xs (I.base.tups b xs e),λb o xs e=>frzs b o xs (I.base.frzs b o xs e),λb ps e=>?_⟩,?_,λx c e=>?_,?_,λx c e=>?_,λp hp=>?_,hok,I.len⟩
 ·exact keep b o (neL b o e) hb (neC b o e hx) (I.base.keep b o e n hb hx) (I.base.free b o e n hx)
 ·obtain⟨sl,e1⟩:=I.base.slot b o e n hb hx;obtain⟨sl',e2⟩:=slot b _ (neL b o e) hb (neC b o e hx) e1 (I.base.free b o e n hx);exact⟨sl',e2⟩
 ·obtain⟨o',e1⟩:=I.base.there b o e hx;exact free b o' (neC b o e hx) e1 (I.base.free b o e n hx)
 ·obtain⟨o',e1⟩:=I.base.there b o e hx;exact there b o' (neC b o e hx) e1
 ·obtain⟨m1,e1⟩:=I.base.tbls b ps e;obtain⟨m2,e2⟩:=tbls b _ e1;exact⟨m1++m2,by rw[e2,Array.append_assoc]⟩
 ·obtain⟨m,hn,hl⟩:=I.loc;refine⟨m,ns m hn,λi x v e1 e2 e3=>?_⟩;obtain⟨u,r,l⟩:=hl i x v e1 e2 e3;exists u,r;rcases l with l | ⟨k,c,e,z⟩
  ·exact .inl l
  ·exact .inr ⟨k,c,e,cellK x c e _ z⟩
 ·obtain⟨v,z⟩:=I.cell x c e;exact⟨v,cellK x c e v z⟩
 ·obtain⟨m,⟨o,_,_,ho,_⟩,_⟩:=I.loc;exact free _ o (λz=>(hch _ z).2.1 rfl) ho I.free
 ·obtain⟨v,o,ho,hd⟩:=I.cell x c e;exact free c o (λz=>(hch c z).2.2.1 x c e rfl) ho (I.freeC x c e)
 ·obtain⟨e,n,ne,nf,d⟩:=I.pin p hp;have nch:p.1 ∉ ch:=λz=>(hch p.1 z).2.2.2 p hp rfl;exact⟨keep p.1 p.2 ne nf nch e n,free p.1 p.2 nch e n,ne,nf,d⟩
theorem Inv.un{t':Nat}(I:Inv X pins σ H s)(u:Un X.fs [] H H' s.heap h')(hok:HOk X.prog X.w H' h'):Inv X pins σ H' { s with heap:=h',toks:=t' }:=by
 obtain⟨m,⟨o,es,ep,ho,r⟩,_⟩:=id I.loc;obtain⟨sl,hL⟩:=u.any ho I.free (by simp);exact I.step (g':=s.gens) (d':=s.drawn) (ch:=[]) (λ_ z=>nomatch z) (λb o _ hb _ e n=>u.keep b o e n hb (by simp)) (λb o _ hb _ e n=>u.slot b o e n hb (by simp)) (λb o _ e n=>u.free b o e n (by simp)) (λb o _ e=>u.there b o e (by simp)) u.tups u.frzs u.tbls (λm' hm=>by
  obtain⟨o',es',ep',ho',r'⟩:=hm;rw[ho] at ho'; cases ho';exact⟨_,es',ep',hL,r'⟩) hok I.bare
theorem Inv.call{g':Array GenState}{t':Nat}{d':Drawn}{ch:List af}(I:Inv X pins σ H s)(u:Un (frs X.stack) ch H H' s.heap h')(hok:HOk X.prog X.w H' h')(hg:gE g')
  (hch:∀ b∈ch,(b∈X.ex\/X.s₀.heap.objs.size<=b)/\b≠X.env.locals/\(∀ x c,X.env.cells.lookup x=some c->c≠b)/\∀ p∈X.pn++pins,p.1≠b) :
  Inv X pins σ H' { s with heap:=h',gens:=g',drawn:=d',toks:=t' }:=by
 obtain⟨m,⟨o,es,ep,ho,r⟩,_⟩:=id I.loc;obtain⟨sl,hL⟩:=u.any ho I.free λz=>(hch _ z).2.1 rfl;exact I.step (ch:=ch) hch (λb o hL hb hc e n=>u.keep b o e n (λz=>(aA.mp (I.stkSub b z)).elim hL hb) hc) (λb o _ _ hc e n=>u.any e n hc) (λb o hc e n=>u.free b o e n hc) (λb o hc e=>u.there b o e hc) u.tups u.frzs u.tbls (λm' hm=>by
  obtain⟨o',es',ep',ho',r'⟩:=hm;rw[ho] at ho'; cases ho';exact⟨_,es',ep',hL,r'⟩) hok hg
theorem Inv.turned{t':Nat}{it:af}(I:Inv X pins σ H s)(k:∀ b o,b≠it->s.heap.get? b=some o->h'.get? b=some o)(hn:H it=none)(hL:it≠X.env.locals)
  (h1:it∈X.ex\/X.s₀.heap.objs.size<=it) (h2:∀ x c,X.env.cells.lookup x=some c->c≠it) (h3:∀ p∈X.pn++pins,p.1≠it):Inv X pins σ H { s with heap:=h',toks:=t' }:=by
 have nit:∀ b u,H b=some u->b≠it:=λb u e z=>by rw[z,hn] at e; cases e
 refine I.step (g':=s.gens) (d':=s.drawn) (ch:=[it]) (λb hb=>?_) (λb o _ _ hc e _=>k b o (λz=>hc (by simp[z])) e) (λb o _ _ hc e _=>⟨o.slots,k b o (λz=>hc (by simp[z])) e⟩) (λ_ _ _ _ n=>n)
  (λb o hc e=>⟨o,k b o (λz=>hc (by simp[z])) e⟩) (λ_ _ e=>e) (λ_ _ _ e=>e) (λb ps e=>⟨#[],by rw[e]; simp⟩) (λm hm=>?_) (λb u e=>?_) I.bare
 ·have e:b=it:=by simpa using hb
  subst e;exact⟨h1,hL,h2,h3⟩
 ·obtain⟨o,es,ep,ho,r⟩:=hm;exact⟨o,es,ep,k _ o (cz hL) ho,r⟩
 ·refine(I.hok b u e).stay (λc v hc q=>k c v ?_ q) (λ_ q=>q) λ_ _ q=>q;rcases hc with z | z
  ·rw[z]; exact nit b u e
  ·exact nit c _ z
theorem Inv.tok(I:Inv X pins σ H s)(t:Nat):Inv X pins σ H { s with toks:=t }:=I.un (h':=s.heap) (t':=t) Un.refl I.hok
theorem Inv.kept{t':Nat}(I:Inv X pins σ H s)(k:∀ b u,s.heap.get? b=some u->h'.get? b=some u):Inv X pins σ H { s with heap:=h',toks:=t' }:=I.un (Un.kept k) (I.hok.kept k)
theorem Inv.laid{a:af}{o:HO}{t':Nat}(I:Inv X pins σ H s)(k:∀ b u,s.heap.get? b=some u->h'.get? b=some u)(hp:s.heap.objs.size<=a)(new:xC X.prog X.w (upd H a o) h' a o) :
  Inv X pins σ (upd H a o) { s with heap:=h',toks:=t' }:=I.un (Un.laid k hp (I.hok.fresh hp)) (I.hok.laid k hp new)
theorem Inv.write{x e:af}{o:HO}{t':Nat}(I:Inv X pins σ H s)(mu:Mut (H x))(he:e=x\/H e=some (.own x))(k:∀ b u,b≠e->s.heap.get? b=some u->h'.get? b=some u)(heo:∃ u,h'.get? e=some u)
  (new:xC X.prog X.w (upd H x o) h' x o):Inv X pins σ (upd H x o) { s with heap:=h',toks:=t' }:=I.un (Un.write mu he k heo) (I.hok.write mu he k heo new)
theorem Inv.pins_of{pins':List (af×cD)}(I:Inv X pins σ H s)(h:∀ p∈pins',s.heap.get? p.1=some p.2/\H p.1=none/\p.1≠X.env.locals/\p.1 ∉ X.fs/\∀ v,p.2.data≠.cell v):Inv X pins' σ H s :=
 ⟨I.ok,I.os,I.bare,I.base,I.loc,I.cell,I.free,I.freeC,λp hp=>(aS.mp hp).elim (λz=>I.pin p (dU _ z)) (h p),I.hok,I.len⟩

theorem zN4{N:List az}(hN:N.Nodup){i j:Nat}{x:az}(a:N[i]?=some x)(b:N[j]?=some x):i=j:=by
 obtain⟨h1,e1⟩:=aM.mp a;obtain⟨h2,e2⟩:=aM.mp b;exact(ii hN).mp (e1.trans e2.symm)

theorem zJ4{M:nj}{A:bI}{E:ag->ai->Prop}{i:Nat}{x:az}{v:V}{u:ag}{Q:Unit->ai->Prop}(I:Inv X pins σ H s)(hN:X.N.Nodup)(hi:X.N[i]?=some x)(hx:Loc X.env.scope x)(r:xD v u)
  (h:∀ s',Inv X pins (σ.set i (some v)) H s'->(∃ a,cO a s.heap s'.heap/\(a=X.env.locals\/X.env.cells.lookup x=some a))->Q () s') (hf:X.fn x=true\/X.env.scope.names.lookup x=some .local:=by first | exact .inl rfl | exact .inr rfl | assumption):wpAny M A (storeName X.env x u) Q E s:=by
 obtain⟨m,hn,hl⟩:=id I.loc;have hcls:(X.env.scope.kind == .class||(X.env.scope.kind == .module&&X.env.locals != X.env.globals))=false:=by rw[I.ok.kind]; rfl
 have hiσ:i<σ.length:=by rw[I.len]; exact(aM.mp hi).1
 have cne:=I.cne;have tracked:∀{a:af}{h':aX},(∃ o,s.heap.get? a=some o/\H a=none)->cO a s.heap h'->HOk X.prog X.w H h':=λ{a h'} ha hs b ob e=>by
  obtain⟨_,_,hfree⟩:=ha;refine(I.hok b ob e).stay (λc w' hc q=>(hs.2 c ?_).trans q) (λ_ q=>q) λ_ _ q=>q;rintro rfl;rcases hc with rfl | hc
  ·rw[hfree] at e; cases e
  ·rw[hfree] at hc; cases hc
 rcases hx with hk | hk
 ·refine wpAny_storeName_local hk hn (λh' hn' hs=>?_) hcls;obtain⟨oL,_,_,hoL,_⟩:=id hn;refine h _ ⟨I.ok,I.os,I.bare,⟨λb o e n hb hx=>?_,λb o e n hb hx=>?_,I.base.free,λb o e hx=>?_,I.base.tups,I.base.frzs,I.base.tbls⟩,⟨_,hn',λj y v' e1 e2 e3=>?_⟩,λy c e=>?_,I.free,I.freeC,λp hp=>?_,tracked ⟨oL,hoL,I.free⟩ hs,by simpa using I.len⟩ ⟨_,hs,.inl rfl⟩
  ·exact(hs.2 b (aP (aR (aw e) I.ok.above))).trans (I.base.keep b o e n hb hx)
  ·obtain⟨sl,e1⟩:=I.base.slot b o e n hb hx;exact⟨sl,(hs.2 b (aP (aR (aw e) I.ok.above))).trans e1⟩
  ·obtain⟨o',e1⟩:=I.base.there b o e hx;exact⟨o',(hs.2 b (aP (aR (aw e) I.ok.above))).trans e1⟩
  ·by_cases hj:j=i
   ·subst hj;rw[hi] at e1; cases e1;rw[fH hiσ] at e2;cases e2;exact⟨u,r,.inl ⟨hk,by simp⟩⟩
   ·rw[jb (cz hj)] at e2;obtain⟨u',r',q⟩:=hl j y v' e1 e2 e3;exists u',r';rcases q with ⟨k,e⟩ | ⟨k,c,e,z⟩
    ·refine .inl ⟨k,?_⟩;have:y≠x:=λe=>hj (zN4 hN e1 (e ▸ hi));simp[this,e]
    ·exact .inr ⟨k,c,e,z.sameBut hs (cne y c e)⟩
  ·obtain⟨w',z⟩:=I.cell y c e;exact⟨w',z.sameBut hs (cne y c e)⟩
  ·obtain⟨e,n,ne,nf,d⟩:=I.pin p hp;exact⟨(hs.2 p.1 ne).trans e,n,ne,nf,d⟩
 ·have hfn:X.fn x=true:=by
   rcases hf with z | z
   ·exact z
   ·rw[z] at hk; cases hk
  obtain⟨c,hc⟩:=I.ok.has x (.inl hk);obtain⟨w',z⟩:=I.cell x c hc;refine wpAny_storeName_cell I.ok.kind hk hc z (λh' hc' hs=>?_);obtain⟨oc,hoc,hocd⟩:=id z;refine h { s with heap:=h' } ⟨I.ok,I.os,I.bare,⟨λb o e n hb hx=>?_,λb o e n hb hx=>?_,I.base.free,λb o e hx=>?_,I.base.tups,I.base.frzs,I.base.tbls⟩,⟨m,hn.sameBut hs (cz (cne x c hc)),λj y v' e1 e2 e3=>?_⟩,λy c' e=>?_,I.free,I.freeC,λp hp=>?_,tracked ⟨oc,hoc,I.freeC x c hc⟩ hs,by simpa using I.len⟩ ⟨c,hs,.inr hc⟩
  ·exact(hs.2 b (aP (aR (aw e) (I.ok.cab x c hfn hc)))).trans (I.base.keep b o e n hb hx)
  ·obtain⟨sl,e1⟩:=I.base.slot b o e n hb hx;exact⟨sl,(hs.2 b (aP (aR (aw e) (I.ok.cab x c hfn hc)))).trans e1⟩
  ·obtain⟨o',e1⟩:=I.base.there b o e hx;exact⟨o',(hs.2 b (aP (aR (aw e) (I.ok.cab x c hfn hc)))).trans e1⟩
  ·by_cases hj:j=i
   ·subst hj;rw[hi] at e1; cases e1;rw[fH hiσ] at e2;cases e2;exact⟨u,r,.inr ⟨.inl hk,c,hc,hc'⟩⟩
   ·rw[jb (cz hj)] at e2;obtain⟨u',r',q⟩:=hl j y v' e1 e2 e3;exists u',r';rcases q with q | ⟨k,c',e,z'⟩
    ·exact .inl q
    ·refine .inr ⟨k,c',e,z'.sameBut hs ?_⟩;rintro rfl;exact hj (zN4 hN e1 (I.ok.inj _ _ _ e hc ▸ hi))
  ·by_cases hcc:c'=c
   ·subst hcc; exact⟨_,hc'⟩
   ·obtain⟨w2,z2⟩:=I.cell y c' e;exact⟨w2,z2.sameBut hs hcc⟩
  ·obtain⟨e,n,ne,nf,d⟩:=I.pin p hp;refine⟨(hs.2 p.1 ?_).trans e,n,ne,nf,d⟩;intro q;rw[q,hoc] at e;have q':oc=p.2:=bh e;exact d w' (by rw[<- q']; exact hocd)
theorem zEt{M:nj}{A:bI}{E:ag->ai->Prop}{i:Nat}{x:az}{v:V}{u:ag}{Q:Unit->ai->Prop}(I:Inv X pins σ H s)(hN:X.N.Nodup)(hi:X.N[i]?=some x)(hx:Loc X.env.scope x)(r:xD v u)
  (h:∀ s',Inv X pins (σ.set i (some v)) H s'->Q () s') (hf:X.fn x=true\/X.env.scope.names.lookup x=some .local:=by first | exact .inl rfl | exact .inr rfl | assumption):wpAny M A (storeName X.env x u) Q E s :=
 zJ4 I hN hi hx r (λs' I' _=>h s' I') hf
theorem Inv.call'{s':ai}{ch:List af}(I:Inv X pins σ H s)(ho:s'.os=s.os)(u:Un (frs X.stack) ch H H' s.heap s'.heap)(hok:HOk X.prog X.w H' s'.heap)(hg:gE s'.gens)
  (hch:∀ b∈ch,(b∈X.ex\/X.s₀.heap.objs.size<=b)/\b≠X.env.locals/\(∀ x c,X.env.cells.lookup x=some c->c≠b)/\∀ p∈X.pn++pins,p.1≠b):Inv X pins σ H' s':=by
 obtain⟨h',g',d',t',o'⟩:=s';have e:o'=s.os:=ho;subst e;exact I.call (g':=g') (t':=t') (d':=d') u hok hg hch
end

abbrev XK:=ag->Option af->Hp->Prop
abbrev St:=List (Option V)
abbrev VK:=V->Hp->Prop
abbrev TE:=St->Hp->VK->Prop
abbrev TT:=St->Hp->(Bool->Hp->Prop)->Prop
abbrev TA:=St->Hp->(List V->Hp->Prop)->Prop
structure zMc where
 nx:St->Hp->Prop
 rt:VK
 bk:St->Hp->Prop:=λ_ _=>False
 ct:St->Hp->Prop:=λ_ _=>False
abbrev TS:=zMc->St->Hp->Prop

def EP(X:Cx)(pins:List (af×cD))(σ:St)(Q:VK)(u:ag)(s':ai):Prop:=∃ v H',Inv X pins σ H' s'/\xD v u/\Q v H'
def TP(X:Cx)(pins:List (af×cD))(σ:St)(Q:Bool->Hp->Prop)(b:Bool)(s':ai):Prop:=∃ H',Inv X pins σ H' s'/\Q b H'
def AP(X:Cx)(pins:List (af×cD))(σ:St)(Q:List V->Hp->Prop)(us:List ag)(s':ai):Prop:=∃ vs H',Inv X pins σ H' s'/\yT vs us/\Q vs H'
def SP(X:Cx)(pins:List (af×cD))(D:zMc)(f:Flow)(s':ai):Prop :=
 match f with
 | .next=>∃ σ' H',Inv X pins σ' H' s'/\D.nx σ' H'
 | .brk=>∃ σ' H',Inv X pins σ' H' s'/\D.bk σ' H'
 | .cont=>∃ σ' H',Inv X pins σ' H' s'/\D.ct σ' H'
 | .ret u=>∃ v σ' H',Inv X pins σ' H' s'/\xD v u/\D.rt v H'

def PE(X:Cx)(e:bx)(t:TE):Prop :=
 ∀(pins:List (af×cD))(s:ai)(σ:St)(H:Hp)(Q:VK),Inv X pins σ H s->t σ H Q->wpAny (model X.prog X.w) X.A (eval e X.env) (EP X pins σ Q) X.xe s
def PT(X:Cx)(e:bx)(t:TT):Prop :=
 ∀(pins:List (af×cD))(s:ai)(σ:St)(H:Hp)(Q:Bool->Hp->Prop),Inv X pins σ H s->t σ H Q->wpAny (model X.prog X.w) X.A (isTrue e X.env (eval e X.env)) (TP X pins σ Q) X.xe s
def PW(X:Cx)(e:bx)(t:TT):Prop :=
 ∀(whole:mH ag)(pins:List (af×cD))(s:ai)(σ:St)(H:Hp)(Q:Bool->Hp->Prop),Inv X pins σ H s->t σ H Q->wpAny (model X.prog X.w) X.A (isTrue e X.env whole) (TP X pins σ Q) X.xe s
theorem PW.pt{X:Cx}{e:bx}{t:TT}(h:PW X e t):PT X e t:=h _
def PA(X:Cx)(es:List bx)(t:TA):Prop :=
 ∀(pos:fh)(pins:List (af×cD))(s:ai)(σ:St)(H:Hp)(Q:List V->Hp->Prop),Inv X pins σ H s->t σ H Q->wpAny (model X.prog X.w) X.A (spliced (backTo pos (starEach es X.env))) (AP X pins σ Q) X.xe s
def PS(X:Cx)(st:bP)(t:TS):Prop :=
 ∀(pins:List (af×cD))(s:ai)(σ:St)(H:Hp)(D:zMc),Inv X pins σ H s->t D σ H->wpAny (model X.prog X.w) X.A (exec st X.env) (SP X pins D) X.xe s
def PSs(X:Cx)(st:List bP)(t:TS):Prop :=
 ∀(pins:List (af×cD))(s:ai)(σ:St)(H:Hp)(D:zMc),Inv X pins σ H s->t D σ H->wpAny (model X.prog X.w) X.A (execs st X.env) (SP X pins D) X.xe s
theorem thn{α:Type}{t:mH α}{Q Q':α->ai->Prop}{M:nj}{A:bI}{E:ag->ai->Prop}{s:ai}(h:wpAny M A t Q E s)(hQ:∀ a s,Q a s->Q' a s):wpAny M A t Q' E s:=cX h hQ λ_ _ x=>x
end L2

namespace L2
open PySem PySem.Spec PyProof.Rows
section
variable{X:Cx}

theorem bin{a b:bx}{ta tb:TE}(ha:PE X a ta)(hb:PE X b tb){pins:List (af×cD)}{s:ai}{σ:St}{H:Hp}{R:V->V->Hp->Prop}(I:Inv X pins σ H s)(h:ta σ H λx H1=>tb σ H1 λy H2=>R x y H2)
  {α:Type} {Q:α->ai->Prop} {f:ag->ag->mH α}
  (hf:∀ v u s2 x y H2,Inv X pins σ H2 s2->xD x v->xD y u->R x y H2->wpAny (model X.prog X.w) X.A (f v u) Q X.xe s2) :
  wpAny (model X.prog X.w) X.A (eval a X.env) (λv s₁=>wpAny (model X.prog X.w) X.A (eval b X.env) (λu s₂=>wpAny (model X.prog X.w) X.A (f v u) Q X.xe s₂) X.xe s₁) X.xe s:=by
 refine thn (ha pins s σ H _ I h) λv s1 ⟨x,H1,I1,r1,q1⟩=>?_;refine thn (hb pins s1 σ H1 _ I1 q1) λu s2 ⟨y,H2,I2,r2,q2⟩=>?_;exact hf v u s2 x y H2 I2 r1 r2 q2

inductive TVar(i:Nat)(σ:St)(H:Hp)(Q:VK):Prop where
 | mk (v:V) (e:σ[i]?=some (some v)) (q:Q v H)
def zMr(i:Nat):TE:=λσ H Q=>TVar i σ H Q
def tC(v:V):TE:=λ_ H Q=>Q v H
theorem yb2{i:Nat}{x:az}{pos:fh}(hN:X.N[i]?=some x)(hv:Vis X.env.scope x)(hd:(x ==("__debug__" : az))=false:=by decide)(hcd:(x ==("__classdict__" : az))=false:=by decide):PE X (.Name x pos) (zMr i):=by
 intro pins s σ H Q I h;obtain⟨v,e,h⟩:=h;obtain⟨m,hn,hl⟩:=I.loc;obtain⟨u,r,l⟩:=hl i x v hN e hv;have fin:EP X pins σ Q u s:=⟨v,H,I,r,h⟩;rcases l with ⟨hk,hm⟩ | ⟨hk,c,hc,hcell⟩
 ·exact lQ (wpAny_loadName_local I.ok.kind hk hn hm fin) hd
 ·rcases hk with hk | hk
  ·exact lQ (wpAny_loadName_cell I.ok.kind hk hc hcell fin) hd
  ·exact lQ (wpAny_loadName_free I.ok.kind hk hc hcell fin hcd) hd
theorem yN{i j pos} : PE X (.Constant (.int i) j pos) (tC (.int i)):=λ_ _ _ H _ I h=>wpAny_Constant_int ⟨.int i,H,I.tok _,⟨_,rfl⟩,h⟩
theorem zDi{b j pos} : PE X (.Constant (.bool b) j pos) (tC (.bl b)):=λ_ _ _ H _ I h=>Constant_bool ⟨.bl b,H,I,rfl,h⟩
theorem zS5{j pos} : PE X (.Constant .none j pos) (tC .non):=λ_ _ _ H _ I h=>Constant_none ⟨.non,H,I,rfl,h⟩
theorem zJ{x j pos} : PE X (.Constant (.str x) j pos) (tC (.str x)):=λ_ _ _ H _ I h=>jI ⟨.str x,H,I.tok _,⟨_,rfl⟩,h⟩

def Gl(X:Cx)(x:az):Prop:=X.env.kindOf x=some .globalImplicit
theorem tQ{E:ag->ai->Prop}{pins:List (af×cD)}{s:ai}{σ:St}{H:Hp}{x:az}{u:ag}{pos:fh}{Q:ag->ai->Prop}(I:Inv X pins σ H s)(hg:Gl X x)(hm:X.mg x=some u)(h:Q u s)
  (hd:(x ==("__debug__" : az))=false:=by decide):wpAny (model X.prog X.w) X.A (eval (.Name x pos) X.env) Q E s :=
 gK I.ok.kind hg (Calls.loadGlobal_global (by rw[I.ok.glob]; exact I.mod.glob.keeps I.bk) hm h) hd
theorem zHt{E:ag->ai->Prop}{pins:List (af×cD)}{s:ai}{σ:St}{H:Hp}{x:az}{u:ag}{pos:fh}{Q:ag->ai->Prop}(I:Inv X pins σ H s)(hg:Gl X x)(hm:X.mg x=none)(hv:bootBuiltins x=some u)(h:Q u s)
  (hn:x ≠ "__name__" := by decide) (hd:(x ==("__debug__" : az))=false:=by decide):wpAny (model X.prog X.w) X.A (eval (.Name x pos) X.env) Q E s:=by
 obtain⟨mb,h1,h2⟩:=I.mod.blt;exact gK I.ok.kind hg (Calls.loadGlobal_builtin (by rw[I.ok.glob]; exact I.mod.glob.keeps I.bk) hm (by rw[I.ok.blt]; exact h1.keeps I.bk) ((h2 x hn).trans hv) h) hd
theorem zBl{x:az}{v:V}{u:ag}{pos:fh}(hg:Gl X x)(hm:X.mg x=none)(hv:bootBuiltins x=some u)(r:xD v u)(hn:x ≠ "__name__" := by decide)(hd:(x ==("__debug__" : az))=false:=by decide):PE X (.Name x pos) (tC v) :=
 λ_ _ _ H _ I h=>zHt I hg hm hv ⟨v,H,I,r,h⟩ hn hd

variable{a b:bx}{ta tb:TE}{pos:fh}
def PC(X:Cx)(op:lE)(a b:bx)(t:TE):Prop :=
 ∀(pins:List (af×cD))(s:ai)(σ:St)(H:Hp)(Q:VK),Inv X pins σ H s->t σ H Q ->
  wpAny (model X.prog X.w) X.A (eval a X.env) (λv s₁=>wpAny (model X.prog X.w) X.A (eval b X.env) (λu s₂=>wpAny (model X.prog X.w) X.A (compareOp op v u) (EP X pins σ Q) X.xe s₂) X.xe s₁) X.xe s
def tB(t:TE):TT:=λσ H Q=>t σ H λx H1=>∃ c,x=.bl c/\Q c H1
theorem qU{op:lE}{t:TE}(h:PC X op a b t)(h1:behindInMarks op b=false:=by first | exact nobehind _ (by decide) (by decide) | rfl):PT X (.Compare a [op] [b] pos) (tB t):=by
 intro pins s σ H Q I hw;refine iV (thn (h pins s σ H _ I hw) λv s1 h1=>thn h1 λu s2 h2=>thn h2 λc s3 ⟨x,H1,I1,r1,q1⟩=>?_) h1;obtain⟨d,rfl,q⟩:=q1;cases r1;exact cv ⟨H1,I1,q⟩
theorem zA6{e:bx}{t:TE}(h:PE X e t)(he:∀ whole,isTrue e X.env whole=(do let v <- whole; standAt e.pos; holding [v] (truthy v)):=by intro _; rfl):PT X e (tB t):=by
 intro pins s σ H Q I hw;refine isTrue_plain (thn (h pins s σ H _ I hw) λv s1 ⟨x,H1,I1,r1,q1⟩=>?_) (he _);obtain⟨d,rfl,q⟩:=q1;cases r1;exact cv ⟨H1,I1,q⟩

variable{tA tB':TT}{rest:List bx}
def tAnd(t u:TT):TT:=λσ H Q=>t σ H λc H1=>if c=true then u σ H1 Q else Q false H1
def tOr(t u:TT):TT:=λσ H Q=>t σ H λc H1=>if c=true then Q true H1 else u σ H1 Q
def tNot(t:TT):TT:=λσ H Q=>t σ H λc H1=>Q (!c) H1
theorem zC4(ha:PT X a tA):PW X (.BoolOp .And [a] pos) tA:=by
 intro wh pins s σ H Q I h;refine isTrue_and (thn (ha pins s σ H Q I h) λc s1 e=>?_);cases c with
 | true=>exact isTrue_and_nil e
 | false=>exact e
theorem zKj(ha:PT X a tA):PW X (.BoolOp .Or [a] pos) tA:=by
 intro wh pins s σ H Q I h;refine isTrue_or (thn (ha pins s σ H Q I h) λc s1 e=>?_);cases c with
 | false=>exact isTrue_or_nil e
 | true=>exact e
theorem zG7(ha:PT X a tA)(hb:PW X (.BoolOp .And (b::rest) pos) tB'):PW X (.BoolOp .And (a::b::rest) pos) (tAnd tA tB'):=by
 intro wh pins s σ H Q I h;refine isTrue_and (thn (ha pins s σ H _ I h) λc s1 ⟨H1,I1,q1⟩=>?_);cases c with
 | true=>exact hb wh pins s1 σ H1 Q I1 q1
 | false=>exact⟨H1,I1,q1⟩
theorem zO9(ha:PT X a tA)(hb:PW X (.BoolOp .Or (b::rest) pos) tB'):PW X (.BoolOp .Or (a::b::rest) pos) (tOr tA tB'):=by
 intro wh pins s σ H Q I h;refine isTrue_or (thn (ha pins s σ H _ I h) λc s1 ⟨H1,I1,q1⟩=>?_);cases c with
 | true=>exact⟨H1,I1,q1⟩
 | false=>exact hb wh pins s1 σ H1 Q I1 q1
theorem zAf(ha:PT X a tA):PT X (.UnaryOp .Not a pos) (tNot tA):=by
 intro pins s σ H Q I h;exact isTrue_not (ha pins s σ H (λc H1=>Q (!c) H1) I h)
def tAndV(ta tb:TE):TE:=λσ H Q=>ta σ H λx H1=>∃ c,x=.bl c/\if c=true then tb σ H1 Q else Q (.bl false) H1
def tNotV(ta:TE):TE:=λσ H Q=>ta σ H λx H1=>∃ c,x=.bl c/\Q (.bl (!c)) H1
theorem zJ2{op}{t:TE}(h:PE X a t):PE X (.BoolOp op [a] pos) t:=λpins s σ H Q I hw=>BoolOp_one (h pins s σ H Q I hw)
theorem zKb(ha:PE X a ta)(hb:PE X (.BoolOp .And (b::rest) pos) tb):PE X (.BoolOp .And (a::b::rest) pos) (tAndV ta tb):=by
 intro pins s σ H Q I h;refine BoolOp_and (thn (ha pins s σ H _ I h) λv s1 ⟨x,H1,I1,r1,q1⟩=>?_);obtain⟨c,rfl,q1⟩:=q1;cases r1;refine cv ?_;cases c with
 | true=>exact hb pins s1 σ H1 Q I1 q1
 | false=>exact⟨.bl false,H1,I1,U,q1⟩
theorem zVl(ha:PE X a ta):PE X (.UnaryOp .Not a pos) (tNotV ta):=by
 intro pins s σ H Q I h;refine UnaryOp_ (thn (ha pins s σ H _ I h) λv s1 ⟨x,H1,I1,r1,q1⟩=>?_);obtain⟨c,rfl,q1⟩:=q1;cases r1;exact not_of (cv ⟨.bl (!c),H1,I1,rfl,q1⟩)
def tIf(t:TT)(ta tb:TE):TE:=λσ H Q=>t σ H λc H1=>if c=true then ta σ H1 Q else tb σ H1 Q
theorem vY{c:bx}(hc:PT X c tA)(ha:PE X a ta)(hb:PE X b tb):PE X (.IfExp c a b pos) (tIf tA ta tb):=by
 intro pins s σ H Q I h;refine wpAny_IfExp (thn (hc pins s σ H _ I h) λd s1 ⟨H1,I1,q1⟩=>?_);cases d with
 | true=>exact ha pins s1 σ H1 Q I1 q1
 | false=>exact hb pins s1 σ H1 Q I1 q1
end
end L2

namespace L2
open PySem PySem.Spec PyProof.Rows

def SqL(K:ae)(H:Hp)(a:af)(xs:List V):Prop :=
 Rd H a (.lst xs) \/
  ∃(o:cD)(its:Array ag)(n:Nat),K.lookup a=some o/\o.cls=.type "list" /\ o.dict=none/\o.data=.seq its n/\its.size<=sizeLine/\yT xs its.toList
def SqT(K:ae)(H:Hp)(a:af)(xs:List V):Prop :=
 Rd H a (.tup xs) \/
  ∃(o:cD)(its:Array ag)(n:Nat),K.lookup a=some o/\o.cls=.type "tuple" /\ o.data=.seq its n/\its.size<=sizeLine/\yT xs its.toList
def absV:ag->Option V
 | .none=>some .non
 | .bool b=>some (.bl b)
 | .int i _=>some (.int i)
 | .str x _=>some (.str x)
 | .bytes b _=>some (.byt b)
 | .float b _=>some (.flt b)
 | .ref a=>some (.ref a)
 | .type n=>some (.ty n)
 | _=>none
theorem xD.abs{x:V}{u:ag}(r:xD x u):absV u=some x:=by
 cases x with
 | non=>cases r; rfl
 | bl _=>cases r; rfl
 | int _=>obtain⟨t,rfl⟩:=r; rfl
 | str _=>obtain⟨t,rfl⟩:=r; rfl
 | byt _=>obtain⟨t,rfl⟩:=r; rfl
 | flt _=>obtain⟨t,rfl⟩:=r; rfl
 | ref _=>cases r; rfl
 | ty _=>cases r; rfl
theorem xD.inj{x y:V}{u:ag}(r:xD x u)(q:xD y u):x=y:=bh (r.abs.symm.trans q.abs)
theorem yT.inj:∀{xs ys:List V}{us:List ag},yT xs us->yT ys us->xs=ys
 | _,_,_,.nil,.nil=>rfl
 | _,_,_,.cons r t,.cons r' t'=>by rw[r.inj r',yT.inj t t']
section
variable{X:Cx}{pins:List (af×cD)}{σ:St}{H:Hp}{s:ai}{a:af}{xs ys:List V}
theorem SqL.of{K:ae}(h:H a=some (.lst xs)):SqL K H a xs:=.inl (.inl h)
theorem SqT.of{K:ae}(h:H a=some (.tup xs)):SqT K H a xs:=.inl (.inl h)
theorem Inv.list(I:Inv X pins σ H s)(h:SqL X.K H a xs):∃ its:List ag,yT xs its/\PlainL s.heap a its.toArray/\xs.length<=sizeLine:=by
 rcases h with h | ⟨o,its,n,hk,hc,hd,hs,hz,r⟩
 ·obtain⟨z,its,n,r,e⟩:=h.ok I.hok;exact⟨its,r,⟨_,n,e,U,U,U⟩,z⟩
 ·exists its.toList,r,⟨o,n,I.kIn a o hk,hc,hd,by simpa using hs⟩;have e:=r.length;simp only[bM] at e;lia
theorem Inv.tuple(I:Inv X pins σ H s)(h:SqT X.K H a xs):∃ its:List ag,yT xs its/\ni s.heap a its.toArray/\xs.length<=sizeLine:=by
 rcases h with h | ⟨o,its,n,hk,hc,hs,hz,r⟩
 ·obtain⟨z,its,r,p⟩:=h.ok I.hok;exact⟨its,r,p,z⟩
 ·exists its.toList,r,⟨o,I.kIn a o hk,hc,n,by simpa using hs⟩;have e:=r.length;simp only[bM] at e;lia
theorem Inv.list_inj(I:Inv X pins σ H s)(h:SqL X.K H a xs)(h':SqL X.K H a ys):xs=ys:=by
 obtain⟨its,r,⟨o,n,e,_,_,d⟩,_⟩:=I.list h;obtain⟨its',r',⟨o',n',e',_,_,d'⟩,_⟩:=I.list h';rw[e] at e'; cases e';rw[d] at d';injection d' with d1 _
 have:its=its':=by simpa using congrArg nD d1
 subst this;exact r.inj r'
theorem Inv.tuple_inj(I:Inv X pins σ H s)(h:SqT X.K H a xs)(h':SqT X.K H a ys):xs=ys:=by
 obtain⟨its,r,⟨o,e,_,n,d⟩,_⟩:=I.tuple h;obtain⟨its',r',⟨o',e',_,n',d'⟩,_⟩:=I.tuple h';rw[e] at e'; cases e';rw[d] at d';injection d' with d1 _
 have:its=its':=by simpa using congrArg nD d1
 subst this;exact r.inj r'
end

abbrev Cx.wish(X:Cx)(E:ag->ai->Prop):Cx:={ X with xe:=E }
abbrev Cx.nox(X:Cx):Cx:=X.wish λ_ _=>False
theorem Cx.Ok.wish{X:Cx}(ok:X.Ok)(E:ag->ai->Prop):(X.wish E).Ok :=
 ⟨ok.mod,ok.kind,ok.glob,ok.blt,ok.above,ok.inj,ok.has,ok.cab,ok.hd,ok.frames,ok.stk,ok.exf,ok.bs,ok.bsz,ok.noex,ok.exfs,ok.funs,ok.frf⟩
theorem Cx.Ok.unwish{X:Cx}{E:ag->ai->Prop}(ok:(X.wish E).Ok):X.Ok :=
 ⟨ok.mod,ok.kind,ok.glob,ok.blt,ok.above,ok.inj,ok.has,ok.cab,ok.hd,ok.frames,ok.stk,ok.exf,ok.bs,ok.bsz,ok.noex,ok.exfs,ok.funs,ok.frf⟩
section
variable{X:Cx}{pins:List (af×cD)}{σ:St}{H:Hp}{s:ai}{E:ag->ai->Prop}
theorem Inv.wish(I:Inv X pins σ H s)(E:ag->ai->Prop):Inv (X.wish E) pins σ H s:=⟨I.ok.wish E,I.os,I.bare,I.base,I.loc,I.cell,I.free,I.freeC,I.pin,I.hok,I.len⟩
theorem Inv.unwish(I:Inv (X.wish E) pins σ H s):Inv X pins σ H s:=⟨I.ok.unwish,I.os,I.bare,I.base,I.loc,I.cell,I.free,I.freeC,I.pin,I.hok,I.len⟩
theorem SP.unwish{D:zMc}{f:Flow}{s':ai}(h:SP (X.wish E) pins D f s'):SP X pins D f s':=by
 cases f with
 | next=>obtain⟨σ',H',I,q⟩:=h; exact⟨σ',H',I.unwish,q⟩
 | brk=>obtain⟨σ',H',I,q⟩:=h; exact⟨σ',H',I.unwish,q⟩
 | cont=>obtain⟨σ',H',I,q⟩:=h; exact⟨σ',H',I.unwish,q⟩
 | ret u=>obtain⟨v,σ',H',I,r,q⟩:=h; exact⟨v,σ',H',I.unwish,r,q⟩
theorem PSs.nox{st:List bP}{t:TS}(h:PSs X.nox st t):PSs X st t:=λpins s σ H D I hw =>
 cX (h pins s σ H D (I.wish _) hw) (λ_ _ q=>q.unwish) λ_ _ z=>bF z
end

section
variable{X:Cx}{st:bP}{rest:List bP}{t u:TS}{e:bx}{te:TE}{pos:fh}
def tNext:TS:=λD σ H=>D.nx σ H
def ya3(t u:TS):TS:=λD σ H=>t { D with nx:=u D } σ H
theorem zM:PSs X [] tNext:=λ_ _ σ H _ I h=>fv ⟨σ,H,I,h⟩
theorem zC(h1:PS X st t)(h2:PSs X rest u):PSs X (st::rest) (ya3 t u):=by
 intro pins s σ H D I h;refine kN (thn (h1 pins s σ H { D with nx:=u D } I h) λf s1 q=>?_);cases f with
 | next =>
  obtain⟨σ',H',I',q⟩:=q;exact h2 pins s1 σ' H' D I' q
 | ret v=>exact q
 | brk=>exact q
 | cont=>exact q
theorem zF(h1:PS X st t):PSs X [st] t:=by
 intro pins s σ H D I h;refine kN (thn (h1 pins s σ H D I h) λf s1 q=>?_);cases f with
 | next=>exact fv q
 | ret v=>exact q
 | brk=>exact q
 | cont=>exact q
def tCont:TS:=λD σ H=>D.ct σ H
theorem zMn:PS X (.Continue pos) tCont:=λ_ _ σ H _ I h=>wpAny_Continue ⟨σ,H,I,h⟩
theorem Inv.quiet{pins:List (af×cD)}{σ:St}{H:Hp}{s:ai}(I:Inv X pins σ H s):interactive X.env=false:=by simp[interactive,I.ok.kind]
def tDrop(te:TE):TS:=λD σ H=>te σ H λ_ H1=>D.nx σ H1
theorem yD(he:PE X e te)(hs:swapsWith e none pos.line X.env=pure false:=by rfl):PS X (.Expr e pos) (tDrop te):=by
 intro pins s σ H D I h;exact wpAny_Expr_any (thn (he pins s σ H _ I h) λv s1 ⟨x,H1,I1,r1,q1⟩=>⟨σ,H1,I1,q1⟩) I.quiet hs
def tRet(te:TE):TS:=λD σ H=>te σ H D.rt
theorem zN(he:PE X e te):PS X (.Return (some e) pos) (tRet te):=by
 intro pins s σ H D I h;exact wpAny_Return_some (thn (he pins s σ H _ I h) λv s1 ⟨x,H1,I1,r1,q1⟩=>⟨x,σ,H1,I1,r1,q1⟩)
def tIfS(c:TT)(t u:TS):TS:=λD σ H=>c σ H λb H1=>if b=true then t D σ H1 else u D σ H1
theorem zZ{c:bx}{a b:List bP}{tc:TT}(hc:PT X c tc)(ha:PSs X a t)(hb:PSs X b u):PS X (.If c a b pos) (tIfS tc t u):=by
 intro pins s σ H D I h;refine wpAny_If (thn (hc pins s σ H _ I h) λd s1 ⟨H1,I1,q1⟩=>?_);cases d with
 | true=>exact ha pins s1 σ H1 D I1 q1
 | false=>exact hb pins s1 σ H1 D I1 q1
end

abbrev TG:=V->St->Hp->(St->Hp->Prop)->Prop
abbrev TGs:=List V->St->Hp->(St->Hp->Prop)->Prop
def PG(X:Cx)(target:bx)(t:TG):Prop :=
 ∀(pins:List (af×cD))(s:ai)(σ:St)(H:Hp)(v:V)(u:ag)(Q:St->Hp->Prop),Inv X pins σ H s->xD v u->t v σ H Q ->
  wpAny (model X.prog X.w) X.A (assign target X.env u) (λ_ s'=>∃ σ' H',Inv X pins σ' H' s'/\Q σ' H') X.xe s
def PGs(X:Cx)(ts:List bx)(t:TGs):Prop :=
 ∀(pins:List (af×cD))(s:ai)(σ:St)(H:Hp)(vs:List V)(us:List ag)(Q:St->Hp->Prop),Inv X pins σ H s->yT vs us->t vs σ H Q ->
  wpAny (model X.prog X.w) X.A (assignInOrder ((assignEach ts X.env).map (·.2)) us) (λ_ s'=>∃ σ' H',Inv X pins σ' H' s'/\Q σ' H') X.xe s
abbrev yf2:=V->V->V->Hp->(Hp->Prop)->Prop
def PSet(X:Cx)(t:yf2):Prop :=
 ∀(pins:List (af×cD))(s:ai)(σ:St)(H:Hp)(o i v:V)(ov iv u:ag)(Q:Hp->Prop),Inv X pins σ H s->xD o ov->xD i iv->xD v u->t o i v H Q ->
  wpAny (model X.prog X.w) X.A (setItem ov iv u) (λ_ s'=>∃ H',Inv X pins σ H' s'/\Q H') X.xe s
section
variable{X:Cx}{pos:fh}
def zIz(i:Nat):TG:=λv σ H Q=>Q (σ.set i (some v)) H
theorem qB{i:Nat}{x:az}(hN:X.N.Nodup)(hi:X.N[i]?=some x)(hx:Loc X.env.scope x)(hf:X.fn x=true\/X.env.scope.names.lookup x=some .local:=by first | exact .inl rfl | exact .inr rfl | assumption):PG X (.Name x pos) (zIz i):=by
 intro pins s σ H v u Q I r h;exact wpAny_assign_Name (zEt I hN hi hx r (λs' I'=>⟨_,H,I',h⟩) hf)
def gNil:TGs:=λvs σ H Q=>vs=[]/\Q σ H
def gCons(t:TG)(u:TGs):TGs:=λvs σ H Q=>∃ v r,vs=v::r/\t v σ H λσ' H'=>u r σ' H' Q
theorem wY:PGs X [] gNil:=by
 intro pins s σ H vs us Q I r h;obtain⟨e,h⟩:=h;subst e;cases r;exact assignInOrder_nil ⟨σ,H,I,h⟩
theorem yG{e:bx}{es:List bx}{t:TG}{u:TGs}(h1:PG X e t)(h2:PGs X es u)
  (hs:(assignEach (e::es) X.env).map (·.2)=assign e X.env::(assignEach es X.env).map (·.2):=by rfl):PGs X (e::es) (gCons t u):=by
 intro pins s σ H vs us Q I r h;obtain⟨v,vr,e1,h⟩:=h;subst e1;cases r with
 | cons r rr =>
  rw[hs];refine assignInOrder_cons (thn (h1 pins s σ H _ _ _ I r h) λ_ s1 ⟨σ1,H1,I1,q1⟩=>?_);exact h2 pins s1 σ1 H1 _ _ Q I1 rr q1
def gTup(K:ae)(n:Nat)(t:TGs):TG:=λv σ H Q=>∃ a xs,v=.ref a/\SqT K H a xs/\xs.length=n/\t xs σ H Q
theorem rM{es:List bx}{k:Nat}{t:TGs}{n:Nat}(hc:X.calm=true)(h:PGs X es t)
  (hn:(assignEach es X.env).length=n:=by rfl) (hst:(assignEach es X.env).findIdx? (·.1)=none:=by rfl):PG X (.Tuple es k pos) (gTup X.K n t):=by
 intro pins s σ H v u Q I r hw;obtain⟨a,xs,e1,hq,hl,hw⟩:=hw;subst e1;cases r;obtain⟨its,rv,ht,hz⟩:=I.tuple hq;refine assign_Tuple_tuple (I.ok.hd hc) ht (by simp[hn,<- hl,rv.length]) hst λh' hx=>?_;have I1:Inv X pins σ H { s with heap:=h' }:=I.kept (t':=s.toks) λb o e=>hx b o (aP (aw e)) e;exact h pins _ σ H xs _ Q I1 (by simpa using rv) hw
def gSub(to ti:TE)(t:yf2):TG:=λv σ H Q=>to σ H λo H1=>ti σ H1 λi H2=>t o i v H2 λH3=>Q σ H3
theorem ya1{o i:bx}{to ti:TE}{t:yf2}(ho:PE X o to)(hi:PE X i ti)(hs:PSet X t)
  (ha:∀ v,assign (.Subscript o i pos) X.env v=(do
   let ov <- holding [v] (eval o X.env)
   let iv <- holding [v,ov] (eval i X.env)
   standAt pos
   holding [v,ov,iv] (setItem ov iv v)
   release [v,ov,iv] []):=by intro _; rfl):PG X (.Subscript o i pos) (gSub to ti t):=by
 intro pins s σ H v u Q I r h;rw[ha];refine ac (ce (thn (ho pins s σ H _ I h) λov s1 ⟨x,H1,I1,r1,q1⟩=>?_));refine ac (ce (thn (hi pins s1 σ H1 _ I1 q1) λiv s2 ⟨y,H2,I2,r2,q2⟩=>?_));refine ac (fV (ac (ce (thn (hs pins s2 σ H2 x y v ov iv u _ I2 r1 r2 r q2) λ_ s3 ⟨H3,I3,q3⟩=>?_))));exact wpAny_release ⟨σ,H3,I3,q3⟩
def zYm(te:TE)(g:TG):TS:=λD σ H=>te σ H λx H1=>g x σ H1 D.nx
theorem zB0{tg e:bx}{te:TE}{g:TG}(he:PE X e te)(hg:PG X tg g)(hs:swapsWithSole [tg] e pos.line X.env=pure false:=by rfl)(hw:swappedStores [tg] e X.env=pure none:=by rfl)
  (h1:(assignEach [tg] X.env).map (·.2)=[assign tg X.env]:=by rfl):PS X (.Assign [tg] e pos) (zYm te g):=by
 intro pins s σ H D I h;refine wpAny_Assign_stores (thn (he pins s σ H _ I h) λv s1 ⟨x,H1,I1,r1,q1⟩=>?_) hs hw;rw[h1];exact thn (hg pins s1 σ H1 x v _ I1 r1 q1) λ_ s2 q=>q
theorem qX{i:Nat}{x:az}{e:bx}{te:TE}{pos':fh}(hN:X.N.Nodup)(hi:X.N[i]?=some x)(hx:Loc X.env.scope x)(he:PE X e te)(hs:swapsWith e (some (.Name x pos')) pos.line X.env=pure false:=by rfl)(hf:X.fn x=true\/X.env.scope.names.lookup x=some .local:=by first | exact .inl rfl | exact .inr rfl | assumption) :
  PS X (.Assign [.Name x pos'] e pos) (zYm te (zIz i)):=by
 intro pins s σ H D I h;refine wpAny_Assign_Name (thn (he pins s σ H _ I h) λv s1 ⟨y,H1,I1,r1,q1⟩=>?_) hs;exact zEt I1 hN hi hx r1 (λs2 I2=>⟨_,H1,I2,q1⟩) hf
def tPar(i j:Nat)(ta:TA):TS:=λD σ H=>ta σ H λvs H1=>∃ v w,vs=[v,w]/\D.nx ((σ.set i (some v)).set j (some w)) H1
theorem zVn{i j:Nat}{x y:az}{a b:bx}{ta:TA}{px py pt:fh}{kt k2 pt2}(hc:X.calm=true)(hN:X.N.Nodup)(hi:X.N[i]?=some x)(hj:X.N[j]?=some y)(hij:i≠j)
  (hx:X.env.scope.names.lookup x=some .local) (hy:X.env.scope.names.lookup y=some .local) (ha:PA X [a,b] ta)
  (hw:swappedStores [.Tuple [.Name x px,.Name y py] kt pt] (.Tuple [a,b] k2 pt2) X.env=pure (some [x,y]))
  (hs:swapsWithSole [.Tuple [.Name x px,.Name y py] kt pt] (.Tuple [a,b] k2 pt2) pos.line X.env=pure false:=by rfl) :
  PS X (.Assign [.Tuple [.Name x px,.Name y py] kt pt] (.Tuple [a,b] k2 pt2) pos) (tPar i j ta):=by
 intro pins s σ H D I h;rw[exec_Assign_arm];refine ac (fV ?_);rw[hs];refine ac (al ?_);rw[if_neg (by decide)];refine ac (Tuple_ (thn (ha _ pins s σ H _ I h) λus s1 ⟨vs,H1,I1,r1,q1⟩=>?_));obtain⟨v,w,e1,q1⟩:=q1;subst e1;obtain⟨u1,u2,rfl,rv,rw'⟩:∃ u1 u2,us=[u1,u2]/\xD v u1/\xD w u2:=by
  cases r1 with
  | cons p q =>
   cases q with
   | cons p' q' =>
    cases q';exact⟨_,_,U,p,p'⟩
 refine br ?_ (by show 2<=sizeLine; decide);have I2:Inv X pins σ H1 { s1 with heap:=s1.heap.push { cls:=.type "tuple",data:=.seq [u1,u2].toArray } }:=I1.kept (t':=s1.toks) λb o e=>ah _ e;rw[hw];refine ac (al ?_);show wpAny (model X.prog X.w) X.A (do rule "assign.swapped-stores"; let items <- unpackItems (.ref s1.heap.objs.size) 2 none; assignInOrder [λv=>bindName X.env y v,λv=>bindName X.env x v] items.reverse; pure Flow.next) _ _ _;refine ac (gL (ac (unpackItems_tuple (items:=#[u1,u2]) (I.ok.hd hc) (nq s1.heap _) λh' hx'=>?_)));have I3:=I2.kept (h':=h') (t':=s1.toks) λb o e=>hx' b o (aP (aw e)) e;show wpAny _ _ (assignInOrder [λv=>bindName X.env y v,λv=>bindName X.env x v] [u2,u1] >>= λ_=>pure Flow.next) _ _ _;refine ac (assignInOrder_cons (wpAny_bindName (zEt I3 hN hj (.inl hy) rw' (λs2 I4=>?_) (.inr hy))));refine assignInOrder_cons (wpAny_bindName (zEt I4 hN hi (.inl hx) rv (λs3 I5=>assignInOrder_nil (al ?_)) (.inr hx)));rw[List.set_comm _ _ (cz hij)] at I5;exact⟨_,H1,I5,q1⟩
end

section
variable{X:Cx}{pos:fh}
def zWl(c:TT)(tb:TS):TS:=λD σ H=>∃ W:Nat->St->Hp->Prop,(∃ m,W m σ H)/\∀ m σ H,W m σ H ->
 c σ H λb H1=>if b=true then ∃ N:St->Hp->Prop,(∀ σ' H',N σ' H'->∃ m',m'<m/\W m' σ' H')/\tb { D with nx:=N,ct:=N,bk:=D.nx } σ H1 else D.nx σ H1
theorem zNl{c:bx}{body:List bP}{tc:TT}{tb:TS}(hp:PassesOwn (model X.prog X.w) X.A X.env X.xe)(hc:PT X c tc)(hb:PSs X body tb):PS X (.While c body [] pos) (zWl tc tb):=by
 intro pins s σ H D I h;obtain⟨W,⟨m0,w0⟩,turn⟩:=h;refine wpAny_While (codeAny_whileLoop (λn s'=>∃ σ' H',Inv X pins σ' H' s'/\W n σ' H') ?_ m0 ⟨σ,H,I,w0⟩);rintro n s1 ⟨σ1,H1,I1,w1⟩;refine dR hp (thn (hc pins s1 σ1 H1 _ I1 (turn n σ1 H1 w1)) λb s2 ⟨H2,I2,q2⟩=>?_);cases b with
 | true =>
  obtain⟨N,hN,q2⟩:=q2;rw[if_pos rfl];refine dR hp (thn (hb pins s2 σ1 H2 _ I2 q2) λf s3 q3=>?_);cases f with
  | next =>
   obtain⟨σ3,H3,I3,n3⟩:=q3;obtain⟨m',hm,w3⟩:=hN σ3 H3 n3;exact⟨m',hm,σ3,H3,I3,w3⟩
  | cont =>
   obtain⟨σ3,H3,I3,n3⟩:=q3;obtain⟨m',hm,w3⟩:=hN σ3 H3 n3;exact⟨m',hm,σ3,H3,I3,w3⟩
  | brk=>exact q3
  | ret v=>exact q3
 | false =>
  rw[if_neg aB];exact fv ⟨σ1,H2,I2,q2⟩
end

structure It where
 go:Nat->Hp->Prop
 yld:Nat->Hp->V->Hp->Prop
 stop:Nat->Hp->Prop
def zMx(X:Cx)(pins:List (af×cD))(H:Hp)(b:af):Prop :=
 H b=none/\b≠X.env.locals/\b ∉ X.fs/\(b∈X.ex\/X.s₀.heap.objs.size<=b)/\(∀ x c,X.env.cells.lookup x=some c->c≠b)/\∀ p∈X.pn++pins,p.1≠b
theorem Inv.fpOk{X:Cx}{pins:List (af×cD)}{σ:St}{H H':Hp}{s:ai}{b:af}(I:Inv X pins σ H s)(hb:s.heap.objs.size<=b)(hn:H' b=none):zMx X pins H' b:=by
 refine⟨hn,ej (aR I.lt hb),I.nofs hb,.inr (aD I.sz hb),λx c e z=>?_,λp hp z=>?_⟩
 ·obtain⟨v,q⟩:=I.cell x c e;exact absurd (aR q.lt (by rw[z]; exact hb)) (c9 _)
 ·exact absurd (aR (aw (I.pin p hp).1) (by rw[z]; exact hb)) (c9 _)
structure zV7(P:aK)(w:aU)(K:ae)(tg:bx)(J:It)(fp:List af)(it:af)(tn:Nat->aX->Prop):Prop where
 mem:it∈fp
 obj:∀ i h,tn i h->∀ b∈fp,∃ o,h.get? b=some o/\∀ v,o.data≠.cell v
 keep:∀ i h h',tn i h->(∀ b∈fp,∀ o,h.get? b=some o->h'.get? b=some o)->tn i h'
 item:∀(X:Cx),X.prog=P->X.w=w->X.K=K->X.calm=true->∀(i:Nat)(pins:List (af×cD))(s:ai)(σ:St)(H:Hp)(E:ag->ai->Prop),Inv X pins σ H s->(∀ b∈fp,zMx X pins H b)->tn i s.heap->J.go i H ->
  wpAny (model P w) X.A (pyNext (.ref it)) (λr s1=>∃ u,r=some u /\
   wpAny (model P w) X.A (letOwnedTupleGo tg (.ref it) u) (λ_ s2=>∃ x H',Inv X pins σ H' s2/\xD x u/\J.yld i H x H'/\tn (i+1) s2.heap/\∀ b∈fp,H' b=none) E s1) E s
 done:∀(X:Cx),X.prog=P->X.w=w->X.K=K->X.calm=true->∀(i:Nat)(pins:List (af×cD))(s:ai)(σ:St)(H:Hp)(E:ag->ai->Prop),Inv X pins σ H s->(∀ b∈fp,zMx X pins H b)->tn i s.heap->J.stop i H ->
  wpAny (model P w) X.A (pyNext (.ref it)) (λr s1=>r=none/\Inv X pins σ H s1) E s
 self:∀(A:bI)(i:Nat)(s:ai)(Q:ag->ai->Prop)(E:ag->ai->Prop),tn i s.heap->Q (.ref it) s->wpAny (model P w) A (pyIter (.ref it)) Q E s
abbrev TI:=St->Hp->(It->Hp->Prop)->Prop
def PIE(X:Cx)(pins:List (af×cD))(σ:St)(tg:bx)(R:It->Hp->Prop)(itv:ag)(s2:ai):Prop :=
 ∃(it:af)(fp:List af)(tn:Nat->aX->Prop)(J:It)(H':Hp),itv=.ref it/\Inv X pins σ H' s2/\zV7 X.prog X.w X.K tg J fp it tn/\tn 0 s2.heap/\(∀ b∈fp,zMx X pins H' b)/\R J H'
def PI(X:Cx)(tg iter:bx)(wi:TI):Prop :=
 ∀(pins:List (af×cD))(s:ai)(σ:St)(H:Hp)(R:It->Hp->Prop),Inv X pins σ H s->wi σ H R ->
  wpAny (model X.prog X.w) X.A (eval iter X.env) (λv s1=>wpAny (model X.prog X.w) X.A (pyIter v) (PIE X pins σ tg R) X.xe s1) X.xe s

theorem zPf{M:nj}{A:bI}{E:ag->ai->Prop}{s:ai}{tg:bx}{it:af}{u:ag}{o:cD}{n:String}{vs:Array ag}{Q:Unit->ai->Prop}(ho:s.heap.get? it=some o)(hc:o.cls=.type n)(hd:o.data=.fields vs)
  (hn:["enumerate","zip","dict_itemiterator","dict_reverseitemiterator","odict_iterator","itertools.zip_longest","itertools.pairwise"].contains n=false) (hQ:Q () s):wpAny M A (letOwnedTupleGo tg (.ref it) u) Q E s:=by
 unfold letOwnedTupleGo;cases tg <;> first
  | exact al hQ
  | (cases u <;> first
    | exact al hQ
    | (refine ac (wpAny_load ho ?_)
       rw[hc,hd];show wpAny M A (if (["enumerate","zip","dict_itemiterator","dict_reverseitemiterator","odict_iterator","itertools.zip_longest","itertools.pairwise"].contains n&&vs[0]? == some (rawInt _))=true then _ else _) Q E s;rw[if_neg (by intro h; rw[hn,dE] at h; cases h)];exact al hQ))

def Itl(K:ae)(a:af):It :=
 ⟨λi H=>∃ xs x,SqL K H a xs/\xs[i]?=some x,λi H x H'=>H'=H/\∀ xs,SqL K H a xs->xs[i]?=some x,λi H=>∃ xs,SqL K H a xs/\xs.length<=i⟩
def Itt(K:ae)(a:af):It :=
 ⟨λi H=>∃ xs x,SqT K H a xs/\xs[i]?=some x,λi H x H'=>H'=H/\∀ xs,SqT K H a xs->xs[i]?=some x,λi H=>∃ xs,SqT K H a xs/\xs.length<=i⟩
def Itr(lo:Int)(n:Nat):It:=⟨λi _=>i<n,λi H x H'=>H'=H/\x=.int (lo+i),λi _=>n<=i⟩
theorem zLy{P:aK}{w:aU}{K:ae}{tg:bx}(a it:af):zV7 P w K tg (Itl K a) [it] it (λi h=>h.IsListIter it a i) where
 mem:=by simp
 obj:=λi h st b hb=>by
  have e:b=it:=by simpa using hb
  subst e;obtain⟨o,e,c,d⟩:=st;exact⟨o,e,λv z=>by rw[d] at z; cases z⟩
 keep:=λi h h' st k=>st.at λo e=>k it (by simp) o e
 item:=by
  intro X hP hw hK hc i pins s σ H E I hf st hg;subst hP hw hK;obtain⟨xs,x,hq,hx⟩:=hg;obtain⟨its,rv,p,hz⟩:=I.list hq;obtain⟨u,hu,ru⟩:=rv.get hx;obtain⟨f0,f1,f2,f3,f4,f5⟩:=hf it (by simp);refine iw st p.isList (x:=u) (by simpa using hu) λh' st' sb=>?_;have I1:Inv X pins σ H { s with heap:=h' }:=I.turned (t':=s.toks) (λb o hb e=>(sb.2 b hb).trans e) f0 f1 f3 f4 f5;obtain⟨o,e,c,d⟩:=id st';exact⟨u,U,zPf (s:={ s with heap:=h' }) e c d (by decide) ⟨x,H,I1,ru,⟨U,λys hy=>by rw[I.list_inj hy hq]; exact hx⟩,st',λb hb=>(hf b hb).1⟩⟩
 done:=by
  intro X hP hw hK hc i pins s σ H E I hf st hg;subst hP hw hK;obtain⟨xs,hq,hx⟩:=hg;obtain⟨its,rv,p,hz⟩:=I.list hq;obtain⟨f0,f1,f2,f3,f4,f5⟩:=hf it (by simp);have hl:=rv.length;exact wpAny_pyNext_list_end (I.ok.hd hc) st p.isList (by simp; lia) λh' eb=>⟨rfl,I.turned (t':=s.toks) (λb o hb e=>eb b o hb e) f0 f1 f3 f4 f5⟩
 self:=λ_ _ _ _ _ st h=>iW st h
theorem zG9{P:aK}{w:aU}{K:ae}{tg:bx}(a it:af):zV7 P w K tg (Itt K a) [it] it (λi h=>h.IsTupleIter it a i) where
 mem:=by simp
 obj:=λi h st b hb=>by
  have e:b=it:=by simpa using hb
  subst e;obtain⟨o,e,c,d⟩:=st;exact⟨o,e,λv z=>by rw[d] at z; cases z⟩
 keep:=λi h h' st k=>st.at λo e=>k it (by simp) o e
 item:=by
  intro X hP hw hK hc i pins s σ H E I hf st hg;subst hP hw hK;obtain⟨xs,x,hq,hx⟩:=hg;obtain⟨its,rv,p,hz⟩:=I.tuple hq;obtain⟨u,hu,ru⟩:=rv.get hx;obtain⟨f0,f1,f2,f3,f4,f5⟩:=hf it (by simp);refine wpAny_pyNext_tuple_item st (show s.heap.IsTuple a its.toArray from p) (x:=u) (by simpa using hu) λh' st' sb=>?_;have I1:Inv X pins σ H { s with heap:=h' }:=I.turned (t':=s.toks) (λb o hb e=>(sb.2 b hb).trans e) f0 f1 f3 f4 f5;obtain⟨o,e,c,d⟩:=id st';exact⟨u,U,zPf (s:={ s with heap:=h' }) e c d (by decide) ⟨x,H,I1,ru,⟨U,λys hy=>by rw[I.tuple_inj hy hq]; exact hx⟩,st',λb hb=>(hf b hb).1⟩⟩
 done:=by
  intro X hP hw hK hc i pins s σ H E I hf st hg;subst hP hw hK;obtain⟨xs,hq,hx⟩:=hg;obtain⟨its,rv,p,hz⟩:=I.tuple hq;obtain⟨f0,f1,f2,f3,f4,f5⟩:=hf it (by simp);have hl:=rv.length;exact wpAny_pyNext_tuple_end (I.ok.hd hc) st (show s.heap.IsTuple a its.toArray from p) (by simp; lia) λh' eb=>⟨rfl,I.turned (t':=s.toks) (λb o hb e=>eb b o hb e) f0 f1 f3 f4 f5⟩
 self:=λ_ _ _ _ _ st h=>wpAny_pyIter_tupleiter st h
theorem zO1{P:aK}{w:aU}{K:ae}{tg:bx}(it:af)(lo:Int)(n:Nat):zV7 P w K tg (Itr lo n) [it] it (λi h=>IsRangeIter h it (lo+(i:Nat)*1) ((n:Int)-(i:Nat)) 1) where
 mem:=by simp
 obj:=λi h st b hb=>by
  have e:b=it:=by simpa using hb
  subst e;exact⟨_,st,λv z=>by
   have z':Data.fields _=Data.cell v:=z;cases z'⟩
 keep:=λi h h' st k=>k it (by simp) _ st
 item:=by
  intro X hP hw hK hc i pins s σ H E I hf st hg;subst hP hw hK;obtain⟨f0,f1,f2,f3,f4,f5⟩:=hf it (by simp);have W:=Walks.range (prog:=X.prog) (w:=X.w) (I.ok.hd hc) it lo 1 n;refine W.item i s _ _ hg st λv h' tk hv st' kk=>?_;obtain⟨t,rfl⟩:=hv;have I1:Inv X pins σ H { s with heap:=h',toks:=tk }:=I.turned (λb o hb e=>kk b o (by simpa using hb) e) f0 f1 f3 f4 f5;refine⟨_,U,zPf (s:={ s with heap:=h',toks:=tk }) (n := "range_iterator") st' rfl rfl (by decide) ⟨.int (lo+i),H,I1,⟨t,?_⟩,⟨U,U⟩,st',λb hb=>(hf b hb).1⟩⟩;rw[Int.mul_one]
 done:=by
  intro X hP hw hK hc i pins s σ H E I hf st hg;subst hP hw hK;obtain⟨f0,f1,f2,f3,f4,f5⟩:=hf it (by simp);exact wpAny_pyNext_range_end (I.ok.hd hc) st (by have:n<=i:=hg; lia) λh' eb=>⟨rfl,I.turned (t':=s.toks) (λb o hb e=>eb b o hb e) f0 f1 f3 f4 f5⟩
 self:=λ_ _ _ _ _ st h=>wpAny_pyIter_rangeiter st h
end L2

namespace L2
open PySem PySem.Spec PyProof.Rows
section
variable{X:Cx}{tg:bx}
def iList(K:ae)(tl:TE):TI:=λσ H R=>tl σ H λx H1=>∃ a,x=.ref a/\(∃ xs,SqL K H1 a xs)/\R (Itl K a) H1
def iTup(K:ae)(tl:TE):TI:=λσ H R=>tl σ H λx H1=>∃ a,x=.ref a/\(∃ xs,SqT K H1 a xs)/\R (Itt K a) H1
theorem zYq{l:bx}{tl:TE}(hl:PE X l tl):PI X tg l (iList X.K tl):=by
 intro pins s σ H R I h;refine thn (hl pins s σ H _ I h) λv s1 ⟨x,H1,I1,r1,q1⟩=>?_;obtain⟨a,e,⟨xs,hq⟩,q⟩:=q1;subst e;cases r1;obtain⟨its,rv,p,hz⟩:=I1.list hq;refine dW p.isList ?_;refine⟨s1.heap.objs.size,[s1.heap.objs.size],_,_,H1,U,I1.kept (t':=s1.toks) λb o e=>ah _ e,zLy a _,⟨_,ap _ rfl,U,U⟩,λb hb=>?_,q⟩;have e:b=s1.heap.objs.size:=by simpa using hb
 subst e;exact I1.fpOk (am _) (I1.hok.fresh (am _))
theorem zWf{l:bx}{tl:TE}(hl:PE X l tl):PI X tg l (iTup X.K tl):=by
 intro pins s σ H R I h;refine thn (hl pins s σ H _ I h) λv s1 ⟨x,H1,I1,r1,q1⟩=>?_;obtain⟨a,e,⟨xs,hq⟩,q⟩:=q1;subst e;cases r1;obtain⟨its,rv,p,hz⟩:=I1.tuple hq;refine gM (show s1.heap.IsTuple a its.toArray from p) ?_;refine⟨s1.heap.objs.size,[s1.heap.objs.size],_,_,H1,U,I1.kept (t':=s1.toks) λb o e=>ah _ e,zG9 a _,⟨_,ap _ rfl,U,U⟩,λb hb=>?_,q⟩;have e:b=s1.heap.objs.size:=by simpa using hb
 subst e;exact I1.fpOk (am _) (I1.hok.fresh (am _))
theorem zNs{pins:List (af×cD)}{σ:St}{H:Hp}{s:ai}{R:It->Hp->Prop}{E:ag->ai->Prop}{lo hi:Int}{t u v:nV}{tk:Nat}(I:Inv X pins σ H s)(h1 : -(2^62)<=lo)(h2:lo<2^62)(h3 : -(2^62)<=hi)(h4:hi<2^62)
  (q:R (Itr lo (hi-lo).toNat) H):wpAny (model X.prog X.w) X.A (pyIter (.ref s.heap.objs.size)) (PIE X pins σ tg R) E { s with heap:=s.heap.push { cls:=.type "range",data:=.fields #[.int lo t,.int hi u,.int 1 v] },toks:=tk }:=by
 refine wpAny_pyIter_range (IsRange.new ..) (small_one h1 h2 h3 h4) ?_;have I1:Inv X pins σ H { s with heap:=s.heap.push { cls:=.type "range",data:=.fields #[.int lo t,.int hi u,.int 1 v] },toks:=tk }:=I.kept λb o e=>ah _ e;refine⟨(s.heap.push { cls:=.type "range",data:=.fields #[.int lo t,.int hi u,.int 1 v] }).objs.size,[(s.heap.push { cls:=.type "range",data:=.fields #[.int lo t,.int hi u,.int 1 v] }).objs.size],_,_,H,U,
  I1.kept (t':=tk) λb o e=>ah _ e,zO1 _ lo (hi-lo).toNat,?_,λb hb=>?_,q⟩
 ·have e1:lo+((0:Nat):Int)*1=lo:=by simp
  have e2:(((hi-lo).toNat:Nat):Int)-((0:Nat):Int)=nu lo hi 1:=by rw[rangeSize_one]; split <;> lia
  show IsRangeIter _ _ (lo+((0:Nat):Int)*1) ((((hi-lo).toNat:Nat):Int)-((0:Nat):Int)) 1;rw[e1,e2];exact ap _ rfl
 ·have e:b=(s.heap.push { cls:=.type "range",data:=.fields #[.int lo t,.int hi u,.int 1 v] }).objs.size:=by simpa using hb
  subst e;exact I1.fpOk (am _) (I1.hok.fresh (am _))
def iRng1(ta:TA):TI:=λσ H R=>ta σ H λvs H1=>∃ j:Int,vs=[.int j]/\-(2^62)<=j/\j<2^62/\R (Itr 0 j.toNat) H1
def iRng2(ta:TA):TI:=λσ H R=>ta σ H λvs H1=>∃ i j:Int,vs=[.int i,.int j]/\(-(2^62)<=i/\i<2^62/\-(2^62)<=j/\j<2^62)/\R (Itr i (j-i).toNat) H1
theorem vK{a:bx}{ta:TA}{p pos:fh}(hg:Gl X "range")(hm:X.mg "range" = none)(ha:PA X [a] ta)(hs:starEach [a] X.env=[(false,eval a X.env)]:=by rfl):PI X tg (.Call (.Name "range" p) [a] [] pos) (iRng1 ta):=by
 intro pins s σ H R I h;refine Call_ (zHt I hg hm boot_range (dC (thn (ha pos pins s σ H _ I h) λus s1 ⟨vs,H1,I1,r1,q1⟩=>?_) hs rfl));obtain⟨j,e,q1,q2,q⟩:=q1;subst e;cases r1 with
 | cons r rr =>
  cases rr;obtain⟨t,rfl⟩:=r;exact call_range_1 (zNs I1 (by lia) (by lia) q1 q2 (by simpa using q))
theorem zL1{a b:bx}{ta:TA}{p pos:fh}(hg:Gl X "range")(hm:X.mg "range" = none)(ha:PA X [a,b] ta)(hs:starEach [a,b] X.env=[(false,eval a X.env),(false,eval b X.env)]:=by rfl)(hs2:starEach [b] X.env=[(false,eval b X.env)]:=by rfl) :
  PI X tg (.Call (.Name "range" p) [a,b] [] pos) (iRng2 ta):=by
 intro pins s σ H R I h;refine Call_ (zHt I hg hm boot_range (dC (thn (ha pos pins s σ H _ I h) λus s1 ⟨vs,H1,I1,r1,q1⟩=>?_) (by rw[hs,hs2]) (by rw[hs2]; rfl)));obtain⟨i,j,e,⟨q1,q2,q3,q4⟩,q⟩:=q1;subst e;cases r1 with
 | cons r rr =>
  cases rr with
  | cons r' rr =>
   cases rr;obtain⟨t,rfl⟩:=r;obtain⟨t',rfl⟩:=r';exact call_range_2 (zNs I1 q1 q2 q3 q4 q)

def tFor(wi:TI)(g:TG)(tb:TS):TS:=λD σ H=>wi σ H λJ H1=>∃ W:Nat->Nat->St->Hp->Prop,(∃ m,W 0 m σ H1)/\∀ i m σ H,W i m σ H ->
 (J.stop i H/\D.nx σ H)\/(J.go i H/\∃ N:St->Hp->Prop,(∀ σ' H',N σ' H'->∃ m',m'<m/\W (i+1) m' σ' H')/\∀ x H',J.yld i H x H'->g x σ H' λσ2 H2=>tb { D with nx:=N,ct:=N,bk:=D.nx } σ2 H2)
def zHh(fp:List af)(h:aX):List (af×cD):=fp.filterMap λb=>(h.get? b).map λo=>(b,o)
theorem tK{fp:List af}{h:aX}{b:af}{o:cD}(hb:b∈fp)(e:h.get? b=some o):(b,o)∈zHh fp h:=fA.mpr ⟨b,hb,by rw[e]; rfl⟩
theorem zQb{fp:List af}{h:aX}{p:af×cD}(hp:p∈zHh fp h):p.1∈fp/\h.get? p.1=some p.2:=by
 obtain⟨b,hb,e⟩:=fA.mp hp;cases q:h.get? b with
 | none=>rw[q] at e; cases e
 | some o =>
  rw[q] at e;have e':(b,o)=p:=bh e;subst e';exact⟨hb,q⟩
theorem Inv.pinned{pins:List (af×cD)}{σ:St}{H:Hp}{s:ai}{fp:List af}(I:Inv X pins σ H s)(hf:∀ b∈fp,zMx X pins H b)(ho:∀ b∈fp,∃ o,s.heap.get? b=some o/\∀ v,o.data≠.cell v):Inv X (pins++zHh fp s.heap) σ H s :=
 I.pins_of λp hp=>(aS.mp hp).elim (λz=>I.pin p (aY _ z)) λz=>by
  obtain⟨hb,e⟩:=zQb z;obtain⟨f0,f1,f2,_⟩:=hf p.1 hb;obtain⟨o,e',d⟩:=ho p.1 hb;rw[e] at e'; cases e';exact⟨e,f0,f1,f2,d⟩
theorem Inv.unpinned{pins pl:List (af×cD)}{σ:St}{H:Hp}{s:ai}(I:Inv X (pins++pl) σ H s):Inv X pins σ H s:=I.pins_of λp hp=>I.pin p (aY _ (dU _ hp))
theorem tO{iter:bx}{body:List bP}{wi:TI}{g:TG}{tb:TS}{pos:fh}(hp:PassesOwn (model X.prog X.w) X.A X.env X.xe)(hc:X.calm=true)(hi:PI X tg iter wi)(hg:PG X tg g)(hb:PSs X body tb)
  (hs:∀ x,foldedSetIterable iter X.env x=pure x:=by intro _; rfl):PS X (.For tg iter body [] pos) (tFor wi g tb):=by
 intro pins s σ H D I h;refine wpAny_For (thn (hi pins s σ H _ I h) λv s1 h1=>thn h1 λitv s2 h2=>?_) hs;obtain⟨it,fp,tn,J,H2,e,I2,T,st2,f2,W,⟨m0,w0⟩,turn⟩:=h2;subst e;have stat:∀{H':Hp},(∀ b∈fp,H' b=none)->∀ b∈fp,zMx X pins H' b:=λhn b hb=>⟨hn b hb,(f2 b hb).2⟩;refine codeAny_forLoop_any (λn s'=>∃ i σ' H',Inv X pins σ' H' s'/\tn i s'.heap/\(∀ b∈fp,H' b=none)/\W i n σ' H') ?_ m0 ⟨0,σ,H2,I2,st2,λb hb=>(f2 b hb).1,w0⟩;rintro n s3 ⟨i,σ3,H3,I3,st3,fr3,w3⟩;rcases turn i n σ3 H3 w3 with ⟨stop,qn⟩ | ⟨go,N,hN,step⟩
 ·refine dR hp (thn (T.done X rfl rfl rfl hc i pins s3 σ3 H3 X.xe I3 (stat fr3) st3 stop) λr s4 ⟨hr,I4⟩=>?_);subst hr;exact fv ⟨σ3,H3,I4,qn⟩
 ·refine dR hp (thn (T.item X rfl rfl rfl hc i pins s3 σ3 H3 X.xe I3 (stat fr3) st3 go) λr s4 ⟨u,hr,h4⟩=>?_);subst hr;refine dR hp (thn h4 λ_ s5 ⟨x,H5,I5,r5,y5,st5,fr5⟩=>?_);have I5':=I5.pinned (stat fr5) (T.obj _ _ st5);refine dR hp (thn (hg _ s5 σ3 H5 x u _ I5' r5 (step x H5 y5)) λ_ s6 ⟨σ6,H6,I6,q6⟩=>?_);refine dR hp (thn (hb _ s6 σ6 H6 _ I6 q6) λf s7 q7=>?_);have again:∀{σ7:St}{H7:Hp},Inv X (pins++zHh fp s5.heap) σ7 H7 s7->N σ7 H7->∃ m,m<n/\∃ i σ' H',Inv X pins σ' H' s7/\tn i s7.heap/\(∀ b∈fp,H' b=none)/\W i m σ' H':=λ{σ7 H7} I7 n7=>by
   obtain⟨m',hm,w7⟩:=hN σ7 H7 n7;refine⟨m',hm,i+1,σ7,H7,I7.unpinned,T.keep _ _ _ st5 λb hb o e=>(I7.pin (b,o) (aY _ (aY _ (tK hb e)))).1,λb hb=>?_,w7⟩;obtain⟨o,e,d⟩:=T.obj _ _ st5 b hb;exact(I7.pin (b,o) (aY _ (aY _ (tK hb e)))).2.1
  cases f with
  | next=>obtain⟨σ7,H7,I7,n7⟩:=q7; exact again I7 n7
  | cont=>obtain⟨σ7,H7,I7,n7⟩:=q7; exact again I7 n7
  | brk=>obtain⟨σ7,H7,I7,q7⟩:=q7; exact⟨σ7,H7,I7.unpinned,q7⟩
  | ret v=>obtain⟨x7,σ7,H7,I7,r7,q7⟩:=q7; exact⟨x7,σ7,H7,I7.unpinned,r7,q7⟩
end

theorem zOi{K:ae}{a:af}{xs:List V}{g:TG}{tb:TS}{D:zMc}{σ:St}{H:Hp}(Pv:Nat->St->Hp->Prop)(h0:Pv 0 σ H)(hl:∀ i σ H,i<=xs.length->Pv i σ H->SqL K H a xs)
  (hs:∀ i x σ H,xs[i]?=some x->Pv i σ H->g x σ H λσ2 H2=>tb { D with nx:=Pv (i+1),ct:=Pv (i+1),bk:=D.nx } σ2 H2) (hd:∀ σ H,Pv xs.length σ H->D.nx σ H) :
  ∃ W:Nat->Nat->St->Hp->Prop,(∃ m,W 0 m σ H)/\∀ i m σ H,W i m σ H ->
   ((Itl K a).stop i H/\D.nx σ H)\/((Itl K a).go i H/\∃ N:St->Hp->Prop,(∀ σ' H',N σ' H'->∃ m',m'<m/\W (i+1) m' σ' H')/\∀ x H',(Itl K a).yld i H x H'->g x σ H' λσ2 H2=>tb { D with nx:=N,ct:=N,bk:=D.nx } σ2 H2):=by
 exists λi m σ H=>m=xs.length-i/\i<=xs.length/\Pv i σ H,⟨xs.length,by simp,bw _,h0⟩;rintro i m σ H ⟨rfl,hi,p⟩;have q:=hl i σ H hi p;by_cases hlt:i<xs.length
 ·refine .inr ⟨⟨xs,xs[i],q,by simp[hlt]⟩,Pv (i+1),λσ' H' p'=>⟨xs.length-(i+1),by lia,rfl,hlt,p'⟩,λx H' y=>?_⟩;obtain⟨e,y⟩:=y;subst e;exact hs i x σ _ (y xs q) p
 ·have e:i=xs.length:=by lia
  subst e;exact .inl ⟨⟨xs,q,am _⟩,hd σ H p⟩
theorem zRn{K:ae}{a:af}{xs:List V}{g:TG}{tb:TS}{D:zMc}{σ:St}{H:Hp}(Pv:Nat->St->Hp->Prop)(h0:Pv 0 σ H)(hl:∀ i σ H,i<=xs.length->Pv i σ H->SqT K H a xs)
  (hs:∀ i x σ H,xs[i]?=some x->Pv i σ H->g x σ H λσ2 H2=>tb { D with nx:=Pv (i+1),ct:=Pv (i+1),bk:=D.nx } σ2 H2) (hd:∀ σ H,Pv xs.length σ H->D.nx σ H) :
  ∃ W:Nat->Nat->St->Hp->Prop,(∃ m,W 0 m σ H)/\∀ i m σ H,W i m σ H ->
   ((Itt K a).stop i H/\D.nx σ H)\/((Itt K a).go i H/\∃ N:St->Hp->Prop,(∀ σ' H',N σ' H'->∃ m',m'<m/\W (i+1) m' σ' H')/\∀ x H',(Itt K a).yld i H x H'->g x σ H' λσ2 H2=>tb { D with nx:=N,ct:=N,bk:=D.nx } σ2 H2):=by
 exists λi m σ H=>m=xs.length-i/\i<=xs.length/\Pv i σ H,⟨xs.length,by simp,bw _,h0⟩;rintro i m σ H ⟨rfl,hi,p⟩;have q:=hl i σ H hi p;by_cases hlt:i<xs.length
 ·refine .inr ⟨⟨xs,xs[i],q,by simp[hlt]⟩,Pv (i+1),λσ' H' p'=>⟨xs.length-(i+1),by lia,rfl,hlt,p'⟩,λx H' y=>?_⟩;obtain⟨e,y⟩:=y;subst e;exact hs i x σ _ (y xs q) p
 ·have e:i=xs.length:=by lia
  subst e;exact .inl ⟨⟨xs,q,am _⟩,hd σ H p⟩
theorem tV{lo:Int}{n:Nat}{g:TG}{tb:TS}{D:zMc}{σ:St}{H:Hp}(Pv:Nat->St->Hp->Prop)(h0:Pv 0 σ H)
  (hs:∀ i σ H,i<n->Pv i σ H->g (.int (lo+i)) σ H λσ2 H2=>tb { D with nx:=Pv (i+1),ct:=Pv (i+1),bk:=D.nx } σ2 H2) (hd:∀ σ H,Pv n σ H->D.nx σ H) :
  ∃ W:Nat->Nat->St->Hp->Prop,(∃ m,W 0 m σ H)/\∀ i m σ H,W i m σ H ->
   ((Itr lo n).stop i H/\D.nx σ H)\/((Itr lo n).go i H/\∃ N:St->Hp->Prop,(∀ σ' H',N σ' H'->∃ m',m'<m/\W (i+1) m' σ' H')/\∀ x H',(Itr lo n).yld i H x H'->g x σ H' λσ2 H2=>tb { D with nx:=N,ct:=N,bk:=D.nx } σ2 H2):=by
 exists λi m σ H=>m=n-i/\i<=n/\Pv i σ H,⟨n,by simp,bw _,h0⟩;rintro i m σ H ⟨rfl,hi,p⟩;by_cases hlt:i<n
 ·refine .inr ⟨hlt,Pv (i+1),λσ' H' p'=>⟨n-(i+1),by lia,rfl,hlt,p'⟩,λx H' y=>?_⟩;obtain⟨e,y⟩:=y;subst e y;exact hs i σ _ hlt p
 ·have e:i=n:=by lia
  subst e;exact .inl ⟨am _,hd σ H p⟩
theorem zNb{c:TT}{tb:TS}{D:zMc}{σ:St}{H:Hp}(Pv:St->Hp->Prop)(μ:St->Hp->Nat)(h0:Pv σ H)
  (hs:∀ σ H,Pv σ H->c σ H λb H1=>if b=true then tb { D with nx:=λσ' H'=>Pv σ' H'/\μ σ' H'<μ σ H,ct:=λσ' H'=>Pv σ' H'/\μ σ' H'<μ σ H,bk:=D.nx } σ H1 else D.nx σ H1)
  (mono:∀ σ H Q Q',(∀ b H1,Q b H1->Q' b H1)->c σ H Q->c σ H Q'):zWl c tb D σ H:=by
 exists λm σ H=>m=μ σ H/\Pv σ H,⟨_,U,h0⟩;rintro m σ H ⟨rfl,p⟩;refine mono σ H _ _ (λb H1 q=>?_) (hs σ H p);cases b with
 | true=>exact⟨_,λσ' H' ⟨p',l⟩=>⟨_,l,U,p'⟩,q⟩
 | false=>exact q
end L2

namespace L2
open PySem PySem.Spec PyProof.Rows

abbrev R2:=V->V->Hp->VK->Prop
def OpR(X:Cx)(f:ag->ag->mH ag)(r:R2):Prop :=
 ∀(pins:List (af×cD))(s:ai)(σ:St)(H:Hp)(x y:V)(v u:ag)(Q:VK),Inv X pins σ H s->xD x v->xD y u->r x y H Q ->
  wpAny (model X.prog X.w) X.A (f v u) (EP X pins σ Q) X.xe s
def UnR(X:Cx)(f:ag->mH ag)(r:V->Hp->VK->Prop):Prop :=
 ∀(pins:List (af×cD))(s:ai)(σ:St)(H:Hp)(x:V)(v:ag)(Q:VK),Inv X pins σ H s->xD x v->r x H Q ->
  wpAny (model X.prog X.w) X.A (f v) (EP X pins σ Q) X.xe s
def uL(X:Cx)(f:ag)(r:List V->Hp->VK->Prop):Prop :=
 ∀(pins:List (af×cD))(s:ai)(σ:St)(H:Hp)(xs:List V)(us:List ag)(Q:VK),Inv X pins σ H s->yT xs us->r xs H Q ->
  wpAny (model X.prog X.w) X.A (call f us) (EP X pins σ Q) X.xe s
def tOp(r:R2)(ta tb:TE):TE:=λσ H Q=>ta σ H λx H1=>tb σ H1 λy H2=>r x y H2 Q
def tUn(r:V->Hp->VK->Prop)(ta:TE):TE:=λσ H Q=>ta σ H λx H1=>r x H1 Q
inductive RI(C:Int->Int->Prop)(g:Int->Int->V)(x y:V)(H:Hp)(Q:VK):Prop where
 | mk (i j:Int) (ex:x=.int i) (ey:y=.int j) (c:C i j) (q:Q (g i j) H)
def rI(C:Int->Int->Prop)(g:Int->Int->V):R2:=λx y H Q=>RI C g x y H Q
inductive RI0(g:Int->Int->V)(x y:V)(H:Hp)(Q:VK):Prop where
 | mk (i j:Int) (ex:x=.int i) (ey:y=.int j) (q:Q (g i j) H)
def rI0(g:Int->Int->V):R2:=λx y H Q=>RI0 g x y H Q
inductive RU(g:Int->V)(x:V)(H:Hp)(Q:VK):Prop where
 | mk (i:Int) (ex:x=.int i) (q:Q (g i) H)
def rU(g:Int->V):V->Hp->VK->Prop:=λx H Q=>RU g x H Q

section
variable{X:Cx}{a b c:bx}{ta tb tc:TE}{pos:fh}

theorem ye5(ha:PE X a ta)(hb:PE X b tb){pins:List (af×cD)}{s:ai}{σ:St}{H:Hp}{R:V->V->Hp->Prop}(I:Inv X pins σ H s)
  (h:ta σ H λx H1=>tb σ H1 λy H2=>R x y H2) {Q:ag->ai->Prop} {f:ag->ag->mH ag}
  (hf:∀ v u s2 x y H2,Inv X pins σ H2 s2->xD x v->xD y u->R x y H2->wpAny (model X.prog X.w) X.A (f v u) Q X.xe s2) :
  wpAny (model X.prog X.w) X.A (eval a X.env) (λv s₁=>wpAny (model X.prog X.w) X.A (eval b X.env) (λu s₂=>wpAny (model X.prog X.w) X.A (f v u) Q X.xe s₂) X.xe s₁) X.xe s:=by
 refine thn (ha pins s σ H _ I h) λv s1 ⟨x,H1,I1,r1,q1⟩=>?_;refine thn (hb pins s1 σ H1 _ I1 q1) λu s2 ⟨y,H2,I2,r2,q2⟩=>?_;exact hf v u s2 x y H2 I2 r1 r2 q2

theorem xO{op:Operator}{r:R2}(ho:OpR X (binaryOp op) r)(ha:PE X a ta)(hb:PE X b tb):PE X (.BinOp a op b pos) (tOp r ta tb):=by
 intro pins s σ H Q I h;exact wpAny_BinOp (ye5 ha hb I h λv u s2 x y H2 I2 rx ry q=>ho pins s2 σ H2 x y v u Q I2 rx ry q)
theorem pe_un{op:UnaryOp}{r:V->Hp->VK->Prop}(ho:UnR X (unaryOp op) r)(ha:PE X a ta):PE X (.UnaryOp op a pos) (tUn r ta):=by
 intro pins s σ H Q I h;exact UnaryOp_ (thn (ha pins s σ H _ I h) λv s1 ⟨x,H1,I1,r1,q1⟩=>ho pins s1 σ H1 x v Q I1 r1 q1)
theorem opI{f:ag->ag->mH ag}{C:Int->Int->Prop}{g:Int->Int->Int}
  (rule:∀(i j:Int)(t u:nV)(s:ai)(Q:ag->ai->Prop)(E:ag->ai->Prop),C i j->Q (.int (g i j) s.toks) { s with toks:=s.toks+1 }->wpAny (model X.prog X.w) X.A (f (.int i t) (.int j u)) Q E s) :
  OpR X f (rI C λi j=>.int (g i j)):=by
 intro pins s σ H x y v u Q I rx ry h;obtain⟨i,j,rfl,rfl,hc,q⟩:=h;obtain⟨t,rfl⟩:=rx;obtain⟨t',rfl⟩:=ry;exact rule i j t t' s _ _ hc ⟨.int (g i j),H,I.tok _,⟨_,rfl⟩,q⟩
theorem opI0{f:ag->ag->mH ag}{g:Int->Int->Int}
  (rule:∀(i j:Int)(t u:nV)(s:ai)(Q:ag->ai->Prop)(E:ag->ai->Prop),Q (.int (g i j) s.toks) { s with toks:=s.toks+1 }->wpAny (model X.prog X.w) X.A (f (.int i t) (.int j u)) Q E s) :
  OpR X f (rI0 λi j=>.int (g i j)):=by
 intro pins s σ H x y v u Q I rx ry h;obtain⟨i,j,rfl,rfl,q⟩:=h;obtain⟨t,rfl⟩:=rx;obtain⟨t',rfl⟩:=ry;exact rule i j t t' s _ _ ⟨.int (g i j),H,I.tok _,⟨_,rfl⟩,q⟩
theorem ye0{f:ag->ag->mH ag}{g:Int->Int->Bool}
  (rule:∀(i j:Int)(t u:nV)(s:ai)(Q:ag->ai->Prop)(E:ag->ai->Prop),Q (.bool (g i j)) s->wpAny (model X.prog X.w) X.A (f (.int i t) (.int j u)) Q E s) :
  OpR X f (rI0 λi j=>.bl (g i j)):=by
 intro pins s σ H x y v u Q I rx ry h;obtain⟨i,j,rfl,rfl,q⟩:=h;obtain⟨t,rfl⟩:=rx;obtain⟨t',rfl⟩:=ry;exact rule i j t t' s _ _ ⟨.bl (g i j),H,I,rfl,q⟩

def yf1(i j:Int):Prop:=0<=j/\j<=1000000/\i.natAbs<2^64
def yc1(i j:Int):Prop:=(-(2^64)<i/\i<2^64)\/(-(2^64)<j/\j<2^64)
theorem yc1.ok{i j:Int}(h:yc1 i j):IntMulOk i j:=by
 rcases h with ⟨h1,h2⟩ | ⟨h1,h2⟩
 ·exact .of_left (intBits_le_64 h1 h2)
 ·exact .of_right (intBits_le_64 h1 h2)
theorem zA9:OpR X (binaryOp .Add) (rI0 λi j=>.int (i+j)):=opI0 λ_ _ _ _ _ _ _ q=>add_int q
theorem zVm:OpR X (binaryOp .Sub) (rI0 λi j=>.int (i-j)):=opI0 λ_ _ _ _ _ _ _ q=>sub_int q
theorem zY6:OpR X (binaryOp .Mult) (rI yc1 λi j=>.int (i*j)):=opI λ_ _ _ _ _ _ _ hc q=>mul_int q hc.ok
theorem zHv:OpR X (binaryOp .Mod) (rI (λ_ j=>0<j) λi j=>.int (i%j)):=opI λi j _ _ _ _ _ hc q=>by
 have h1:(0:Int)<j:=hc;exact mod_int' (by lia) (by rw[Int.fmod_eq_emod_of_nonneg i (by lia)]; exact q)
theorem yc9:OpR X (binaryOp .Pow) (rI yf1 λi j=>.int (i^j.toNat)):=opI λ_ _ _ _ _ _ _ hc q=>pow_int_small hc.1 hc.2.1 hc.2.2 q
theorem unI{f:ag->mH ag}{g:Int->Int}
  (rule:∀(i:Int)(t:nV)(s:ai)(Q:ag->ai->Prop)(E:ag->ai->Prop),Q (.int (g i) s.toks) { s with toks:=s.toks+1 }->wpAny (model X.prog X.w) X.A (f (.int i t)) Q E s) :
  UnR X f (rU λi=>.int (g i)):=by
 intro pins s σ H x v Q I rx h;obtain⟨i,rfl,q⟩:=h;obtain⟨t,rfl⟩:=rx;exact rule i t s _ _ ⟨.int (g i),H,I.tok _,⟨_,rfl⟩,q⟩
theorem zY4:UnR X (unaryOp .USub) (rU λi=>.int (-i)):=unI λ_ _ _ _ _ q=>neg_int q
end

def yb3:V->V->Bool
 | .non,.non=>true | .non,.int _=>true | .int _,.non=>true | .non,.bl _=>true | .bl _,.non=>true | .non,.str _=>true | .str _,.non=>true
 | .int _,.int _=>true | .bl _,.bl _=>true | .str _,.str _=>true | .byt _,.byt _=>true
 | .int _,.str _=>true | .str _,.int _=>true | .bl _,.str _=>true | .str _,.bl _=>true
 | _,_=>false
def rEq:R2:=λx y H Q=>yb3 x y=true/\Q (.bl (decide (x=y))) H
def rNe:R2:=λx y H Q=>yb3 x y=true/\Q (.bl (!decide (x=y))) H

theorem zQm{i j:Int} : decide (V.int i=V.int j)=(i == j):=by
 rw[dS];simp
theorem zWm{i j:Bool} : decide (V.bl i=V.bl j)=(i == j):=by
 rw[dS];simp
theorem zSw{i j:az} : decide (V.str i=V.str j)=(i == j):=by
 rw[dS];simp
theorem zSr{i j:Array UInt8} : decide (V.byt i=V.byt j)=(i.toList == j.toList):=by
 rw[dS];cases i;cases j;simp

section
variable{X:Cx}{a b c:bx}{ta tb tc:TE}{pos:fh}
theorem yU{pins:List (af×cD)}{σ:St}{H:Hp}{s:ai}{Q:VK}{k k':Bool}(I:Inv X pins σ H s)(q:Q (.bl k) H)(e:k=k'):EP X pins σ Q (.bool k') s:=by
 subst e;exact⟨.bl k,H,I,U,q⟩
theorem zW7:OpR X (compareOp .Eq) rEq:=by
 intro pins s σ H x y v u Q I rx ry h;obtain⟨hs,q⟩:=h;cases x with
 | non =>
  cases rx;cases y with
  | non=>cases ry; exact mh (yU I q (by simp))
  | bl j=>cases ry; exact mi (yU I q (by simp))
  | int j=>obtain⟨t',rfl⟩:=ry; exact mI (yU I q (by simp))
  | str j=>obtain⟨t',rfl⟩:=ry; exact mJ (yU I q (by simp))
  | _=>exact absurd (show false=true from hs) aB
 | bl i =>
  cases rx;cases y with
  | non=>cases ry; exact mj (yU I q (by simp))
  | bl j=>cases ry; exact eq_bool (yU I q zWm)
  | str j=>obtain⟨t',rfl⟩:=ry; exact ml (yU I q (by simp))
  | _=>exact absurd (show false=true from hs) aB
 | int i =>
  obtain⟨t,rfl⟩:=rx;cases y with
  | non=>cases ry; exact mK (yU I q (by simp))
  | int j=>obtain⟨t',rfl⟩:=ry; exact eq_int (yU I q zQm)
  | str j=>obtain⟨t',rfl⟩:=ry; exact mL (yU I q (by simp))
  | _=>exact absurd (show false=true from hs) aB
 | str i =>
  obtain⟨t,rfl⟩:=rx;cases y with
  | non=>cases ry; exact mM (yU I q (by simp))
  | bl j=>cases ry; exact mn (yU I q (by simp))
  | int j=>obtain⟨t',rfl⟩:=ry; exact mO (yU I q (by simp))
  | str j=>obtain⟨t',rfl⟩:=ry; exact eq_str (yU I q zSw)
  | _=>exact absurd (show false=true from hs) aB
 | byt i =>
  obtain⟨t,rfl⟩:=rx;cases y with
  | byt j=>obtain⟨t',rfl⟩:=ry; exact PySem.W.eq_bytes (yU I q zSr)
  | _=>exact absurd (show false=true from hs) aB
 | _=>cases y <;> exact absurd (show false=true from hs) aB
theorem yc2:OpR X (compareOp .NotEq) rNe:=by
 intro pins s σ H x y v u Q I rx ry h;obtain⟨hs,q⟩:=h;cases x with
 | non =>
  cases rx;cases y with
  | non=>cases ry; exact mq (yU I q (by simp))
  | bl j=>cases ry; exact mr (yU I q (by simp))
  | int j=>obtain⟨t',rfl⟩:=ry; exact mP (yU I q (by simp))
  | str j=>obtain⟨t',rfl⟩:=ry; exact mQ (yU I q (by simp))
  | _=>exact absurd (show false=true from hs) aB
 | bl i =>
  cases rx;cases y with
  | non=>cases ry; exact mv (yU I q (by simp))
  | bl j=>cases ry; exact ne_bool (yU I q (congrArg not zWm))
  | str j=>obtain⟨t',rfl⟩:=ry; exact my (yU I q (by simp))
  | _=>exact absurd (show false=true from hs) aB
 | int i =>
  obtain⟨t,rfl⟩:=rx;cases y with
  | non=>cases ry; exact mR (yU I q (by simp))
  | int j=>obtain⟨t',rfl⟩:=ry; exact ne_int (yU I q (congrArg not zQm))
  | str j=>obtain⟨t',rfl⟩:=ry; exact mT (yU I q (by simp))
  | _=>exact absurd (show false=true from hs) aB
 | str i =>
  obtain⟨t,rfl⟩:=rx;cases y with
  | non=>cases ry; exact mU (yU I q (by simp))
  | bl j=>cases ry; exact mz (yU I q (by simp))
  | int j=>obtain⟨t',rfl⟩:=ry; exact mV (yU I q (by simp))
  | str j=>obtain⟨t',rfl⟩:=ry; exact ne_str (yU I q (congrArg not zSw))
  | _=>exact absurd (show false=true from hs) aB
 | byt i =>
  obtain⟨t,rfl⟩:=rx;cases y with
  | byt j=>obtain⟨t',rfl⟩:=ry; exact PySem.W.ne_bytes (yU I q (congrArg not zSr))
  | _=>exact absurd (show false=true from hs) aB
 | _=>cases y <;> exact absurd (show false=true from hs) aB

theorem zUo:OpR X (compareOp .Lt) (rI0 λi j=>.bl (decide (i<j))):=ye0 λ_ _ _ _ _ _ _ q=>lt_int q
theorem zBu:OpR X (compareOp .LtE) (rI0 λi j=>.bl (decide (i<=j))):=ye0 λ_ _ _ _ _ _ _ q=>le_int q
theorem zI1:OpR X (compareOp .Gt) (rI0 λi j=>.bl (decide (j<i))):=ye0 λ_ _ _ _ _ _ _ q=>gt_int q
theorem zYu:OpR X (compareOp .GtE) (rI0 λi j=>.bl (decide (j<=i))):=ye0 λ_ _ _ _ _ _ _ q=>ge_int q
theorem yX(b:bx){op:lE}(h:op≠.In:=by decide)(h2:op≠.NotIn:=by decide):behindInMarks op b=false:=by
 have e1:(op == CmpOp.In)=false:=by cases op <;> first | rfl | exact absurd rfl h
 have e2:(op == CmpOp.NotIn)=false:=by cases op <;> first | rfl | exact absurd rfl h2
 cases b <;> simp[behindInMarks,e1,e2]
theorem sA{op:lE}{r:R2}(ho:OpR X (compareOp op) r)(ha:PE X a ta)(hb:PE X b tb)(hm:behindInMarks op b=false):PE X (.Compare a [op] [b] pos) (tOp r ta tb):=by
 intro pins s σ H Q I h;exact wpAny_Compare1 (ye5 ha hb I h λv u s2 x y H2 I2 rx ry q=>ho pins s2 σ H2 x y v u Q I2 rx ry q) hm
def zXd(t:TE):TT:=λσ H Q=>t σ H λx H'=>∃ k,x=.bl k/\Q k H'
theorem yM{op:lE}{r:R2}(ho:OpR X (compareOp op) r)(ha:PE X a ta)(hb:PE X b tb)(hm:behindInMarks op b=false):PT X (.Compare a [op] [b] pos) (zXd (tOp r ta tb)):=by
 intro pins s σ H Q I h;refine iV (thn (ha pins s σ H _ I h) λv s1 ⟨x,H1,I1,r1,q1⟩=>thn (hb pins s1 σ H1 _ I1 q1) λu s2 ⟨y,H2,I2,r2,q2⟩ =>
  thn (ho pins s2 σ H2 x y v u _ I2 r1 r2 q2) λc s3 ⟨z,H3,I3,r3,k,e,q3⟩=>?_) hm
 subst e;cases r3;exact cv ⟨H3,I3,q3⟩
def zV9(r r':R2)(ta tb tc:TE):TE:=λσ H Q=>ta σ H λx H1=>tb σ H1 λy H2=>r x y H2 λz H3=>∃ k,z=.bl k /\
 (if k=true then tc σ H3 λw' H4=>r' y w' H4 Q else Q (.bl false) H3)
theorem zBw{op op':lE}{r r':R2}(ho:OpR X (compareOp op) r)(ho':OpR X (compareOp op') r')(ha:PE X a ta)(hb:PE X b tb)(hc:PE X c tc)
  (hm:lastMarks [op,op'] [b,c]=false:=by with_unfolding_all rfl):PE X (.Compare a [op,op'] [b,c] pos) (zV9 r r' ta tb tc):=by
 intro pins s σ H Q I h;refine Compare_chain (thn (ha pins s σ H _ I h) λv s1 ⟨x,H1,I1,r1,q1⟩=>chain_link (thn (hb pins s1 σ H1 _ I1 q1) λu s2 ⟨y,H2,I2,r2,q2⟩ =>
  thn (ho pins s2 σ H2 x y v u _ I2 r1 r2 q2) λd s3 ⟨z,H3,I3,r3,k,e,q3⟩=>?_)) hm
 subst e;cases r3;refine cv ?_;cases k with
 | false=>exact ite_ff ⟨.bl false,H3,I3,rfl,q3⟩
 | true=>exact ite_tt (chain_last (thn (hc pins s3 σ H3 _ I3 q3) λw' s4 ⟨z',H4,I4,r4,q4⟩=>ho' pins s4 σ H4 y z' u w' Q I4 r2 r4 q4))
theorem zH5{op op':lE}{r r':R2}(ho:OpR X (compareOp op) r)(ho':OpR X (compareOp op') r')(ha:PE X a ta)(hb:PE X b tb)(hc:PE X c tc)
  (hm:lastMarks [op,op'] [b,c]=false:=by with_unfolding_all rfl):PT X (.Compare a [op,op'] [b,c] pos) (zXd (zV9 r r' ta tb tc)):=by
 intro pins s σ H Q I h;refine isTrue_chain (thn (ha pins s σ H _ I h) λv s1 ⟨x,H1,I1,r1,q1⟩=>test_link (thn (hb pins s1 σ H1 _ I1 q1) λu s2 ⟨y,H2,I2,r2,q2⟩ =>
  thn (ho pins s2 σ H2 x y v u _ I2 r1 r2 q2) λd s3 ⟨z,H3,I3,r3,k,e,q3⟩=>?_)) hm
 subst e;cases r3;refine cv ?_;cases k with
 | false =>
  obtain⟨k',e',q'⟩:=q3;cases e';exact ite_ff ⟨H3,I3,q'⟩
 | true =>
  refine ite_tt (test_last (thn (hc pins s3 σ H3 _ I3 q3) λw' s4 ⟨z',H4,I4,r4,q4⟩=>thn (ho' pins s4 σ H4 y z' u w' _ I4 r2 r4 q4) λd' s5 ⟨z2,H5,I5,r5,k2,e2,q5⟩=>?_));subst e2;cases r5;exact cv ⟨H5,I5,q5⟩

theorem zG6:(sizeLine:Nat)<2^63:=by rw[sizeLine_eq]; decide
theorem zHd:OpR X (binaryOp .Add) (λx y H Q=>∃ i j,x=.str i/\y=.str j/\i.length+j.length<=sizeLine/\Q (.str (i++j)) H):=by
 intro pins s σ H x y v u Q I rx ry h;obtain⟨i,j,rfl,rfl,hz,q⟩:=h;obtain⟨t,rfl⟩:=rx;obtain⟨t',rfl⟩:=ry;exact add_str (λt' tk=>⟨.str (i++j),H,I.tok _,⟨_,rfl⟩,q⟩) hz
theorem zIw{x:V}{us:List ag}(r:yT [x] us):∃ u,us=[u]/\xD x u:=by
 cases r with
 | cons r1 r2=>cases r2; exact⟨_,U,r1⟩
theorem zZ1{x y:V}{us:List ag}(r:yT [x,y] us):∃ u w',us=[u,w']/\xD x u/\xD y w':=by
 cases r with
 | cons r1 r2 =>
  cases r2 with
  | cons r3 r4=>cases r4; exact⟨_,_,U,r1,r3⟩
theorem zT4:uL X (.builtin "abs") (λxs H Q=>∃ i,xs=[.int i]/\Q (.int (if i<0 then -i else i)) H):=by
 intro pins s σ H xs us Q I r h;obtain⟨i,rfl,q⟩:=h;obtain⟨u,rfl,t,rfl⟩:=zIw r;exact call_abs_int λu tk=>⟨.int (if i<0 then -i else i),H,I.tok _,⟨_,rfl⟩,q⟩
theorem zQh(hc:X.calm=true):uL X (.builtin "max") (λxs H Q=>∃ i j,xs=[.int i,.int j]/\Q (.int (if j>i then j else i)) H):=by
 intro pins s σ H xs us Q I r h;obtain⟨i,j,rfl,q⟩:=h;obtain⟨u,w',rfl,⟨t,rfl⟩,⟨t',rfl⟩⟩:=zZ1 r;refine max_two_ints (I.ok.hd hc) λh' tk k=>⟨_,H,I.kept k,?_,q⟩;by_cases hj:j>i
 ·rw[if_pos hj,if_pos hj]; exact⟨_,U⟩
 ·rw[if_neg hj,if_neg hj]; exact⟨_,U⟩
theorem zK5:uL X (.type "int") (λxs H Q=>(∃ i,xs=[.int i]/\Q (.int i) H)\/∃ k,xs=[.bl k]/\Q (.int (if k then 1 else 0)) H):=by
 intro pins s σ H xs us Q I r h;rcases h with ⟨i,rfl,q⟩ | ⟨k,rfl,q⟩
 ·obtain⟨u,rfl,t,rfl⟩:=zIw r;exact call_int_int ⟨.int i,H,I,⟨_,rfl⟩,q⟩
 ·obtain⟨u,rfl,r1⟩:=zIw r;cases r1;exact call_int_bool ⟨.int (if k then 1 else 0),H,I.tok _,⟨_,rfl⟩,q⟩
end
end L2

namespace L2
open PySem PySem.Spec PyProof.Rows

structure zXy(h:aX)(x dx C:af)(mA:az->Option ag):Prop where
 obj:h.get? x=some (dq C dx)
 ns:h.Ns1 dx mA
 ne:dx≠x

theorem zRv{h:aX}{dx:af}{mA:az->Option ag}(n:h.Ns1 dx mA):∃ od,h.get? dx=some od/\∀ name,gN name od=some (mA name):=by
 obtain⟨o,es,ep,ho,hd,hk,_,hm⟩:=n;refine⟨o,ho,λname=>?_⟩;have e:=hm name;unfold nsFind findBy at e;rw[<- Array.find?_toList] at e;unfold gN;rw[hd];dsimp only;split
 ·rename_i y q
  rw[q] at e;exact congrArg some e
 ·rename_i q
  rw[q] at e;have a:es.toList.any (·.refKey)=false:=by
   rw[jY];intro y hy;obtain⟨z,t,hkey⟩:=hk y (fX.mp hy);simp[DictEntry.refKey,hkey]
  have a':¬ es.toList.any (·.refKey)=true:=by rw[a]; exact aB
  rw[if_neg a'];exact congrArg some e

theorem zXy.look{h:aX}{x dx C:af}{mA:az->Option ag}(I:zXy h x dx C mA):∃ od,PySem.W.InstAt h x (dq C dx) C (some od)/\∀ name,gN name od=some (mA name) :=
 let ⟨od,ho,hl⟩:=zRv I.ns
 ⟨od,⟨I.obj,rfl,rfl,ho⟩,hl⟩

section
variable{prog:aK}{w:aU}{A:bI}{E:ag->ai->Prop}{s:ai}{K:ae}{x dx C f:af}{mA:az->Option ag}{name:az}{v:ag}

theorem zWp{expr:Bool}{Q:ag->ai->Prop}(X:K.In s.heap)(I:zXy s.heap x dx C mA)(hg:fQ K C name=true)(hh:g7 K C=true)
  (ha:cB K (.ref C) name=some none) (hv:mA name=some v) (hv':kO v=true) (h:Q v { s with toks:=s.toks+1 }) :
  wpAny (model prog w) A (getAttr (.ref x) name expr) Q E s:=by
 obtain⟨od,J,hl⟩:=I.look;exact PySem.W.get_value X J (gy hg).1 (PySem.W.findObj_own hh ha rfl (by rw[hl,hv])) hv' h

theorem zTy{pl:mH Bool}{Q:ag×List ag->ai->Prop}(X:K.In s.heap)(I:zXy s.heap x dx C mA)(hg:fQ K C name=true)
  (hf:cB K (.ref C) name=some (some (.ref f))) (ht:jZ K (.ref f)=true) (hv:mA name=none) (h:Q (.ref f,[.ref x]) s) :
  wpAny (model prog w) A (getMethod (.ref x) name pl) Q E s:=by
 obtain⟨od,J,hl⟩:=I.look;exact PySem.W.method_fn X J (gy hg).1 (gy hg).2 hf (beq_iff_eq.mp ht) (by show(gN name od).map (·.isSome)=some false; rw[hl,hv]; rfl) h

theorem zXg{ns:List az}{Q:Unit->ai->Prop}(X:K.In s.heap)(I:zXy s.heap x dx C mA)
  (hs:cB K (.ref C) "__setattr__" = some (some (.builtin "object.__setattr__"))) (hp:j5 K C=true) (ht:iK K C name=some none) (hh:g7 K C=true)
  (hw:jX mA ns) (hsz:ns.length<=sizeLine)
  (h:∀ h',zXy h' x dx C (λy=>if y=name then some v else mA y)->cO dx s.heap h'->Q () { s with heap:=h',toks:=s.toks+2 }) :
  wpAny (model prog w) A (setAttr (.ref x) name v) Q E s:=by
 obtain⟨od,J,hl⟩:=I.look;refine PySem.W.set_plain X J hs (PySem.W.osa_open (s:={ s with toks:=s.toks+1 }) (r:=none) X J hp ht λb=>?_);obtain⟨cd,hc,hd'⟩:=PySem.W.any_some hh;have hx:s.heap.get? x=some ⟨.ref C,some dx,.plain,#[]⟩:=I.obj;refine ac (al (ac (ac (wpAny_loadPart hx (ac (nP (s:={ s with toks:=s.toks+1 }) (PySem.W.looks_clsIn X hc) ?_))))));rw[hd'];refine al (a:=some dx) (ac (al (ac ?_)));refine wpAny_nsSet1 (s:={ s with toks:=s.toks+1 }) I.ns λh' hn2 hs2=>?_;obtain⟨oD,esD,epD,hoD,hdD,hcD⟩:=hn2.count (nT name v hw);refine ac (wpAny_lookBehind hoD (by rw[hdD]; exact pastItsLine_dict (aD hcD (by rw[aW]; lia))) ?_);exact al (h _ ⟨(hs2.2 _ (cz I.ne)).trans I.obj,hn2,I.ne⟩ hs2)

theorem zTq{R:Result->ai->Prop}{vs:List ag}{kw:List (az×ag)}(X:K.In s.heap)(hm:lJ K C=true)
  (hi:cB K (.ref C) "__init__" = some (some (.ref f))) (hf:PySem.W.typeIn K (.ref f)=some (.type "function"))
  (h:codeAny (model prog w) (A.under (.builtin "type.__call__" ⟨.ref C::vs,kw⟩)) (.call (.ref f) ⟨.ref (s.heap.objs.size+1)::vs,kw⟩) (PySem.W.InitBack (s.heap.objs.size+1) R)
   { s with heap:=(s.heap.push cE).push (dq C s.heap.objs.size) }) :
  codeAny (model prog w) A (.call (.ref C) ⟨vs,kw⟩) R s:=by
 obtain⟨hh,g,d,t,os⟩:=s;exact PySem.W.make_core (PySem.W.makes_of X hm) (PySem.W.looks_findIn X hi) (λself=>PySem.W.bind_fn X self hf) (.inl rfl) h
end

def zEy(f:az)(v:V):List (az×V)->List (az×V)
 | []=>[(f,v)]
 | (g,x)::r=>if g=f then(g,v)::r else(g,x)::zEy f v r
theorem zF1(f g:az)(v:V):∀ fs:List (az×V),(zEy f v fs).lookup g=if g=f then some v else fs.lookup g
 | []=>by
  show bK g [(f,v)]=_;by_cases h:g=f
  ·have hb:(g == f)=true:=beq_iff_eq.mpr h;simp only[bK,hb,if_pos h]
  ·have hb:(g == f)=false:=beq_eq_false_iff_ne.mpr h;simp only[bK,hb,if_neg h]
 | (k,x)::r=>by
  have ih:=zF1 f g v r;rw[show zEy f v ((k,x)::r)=(if k=f then(k,v)::r else(k,x)::zEy f v r) from rfl];by_cases hk:k=f
  ·rw[if_pos hk];by_cases h:g=k
   ·have hb:(g == k)=true:=beq_iff_eq.mpr h;simp only[bK,hb,if_pos (h.trans hk)]
   ·have hb:(g == k)=false:=beq_eq_false_iff_ne.mpr h;simp only[bK,hb,if_neg (λe:g=f=>h (e.trans hk.symm))]
  ·rw[if_neg hk];by_cases h:g=k
   ·have hb:(g == k)=true:=beq_iff_eq.mpr h;simp only[bK,hb,if_neg (λe:g=f=>hk (h.symm.trans e))]
   ·have hb:(g == k)=false:=beq_eq_false_iff_ne.mpr h;simp only[bK,hb];exact ih
theorem zF8(f:az)(v:V):∀ fs:List (az×V),f∈(zEy f v fs).map (·.1)/\∀ g,g∈fs.map (·.1)->g∈(zEy f v fs).map (·.1)
 | []=>⟨by simp[zEy],λg h=>by simp at h⟩
 | (k,x)::r=>by
  obtain⟨i1,i2⟩:=zF8 f v r;rw[show zEy f v ((k,x)::r)=(if k=f then(k,v)::r else(k,x)::zEy f v r) from rfl];by_cases hk:k=f
  ·rw[if_pos hk];subst hk;exact⟨by simp,λg h=>by simpa using h⟩
  ·rw[if_neg hk];refine⟨?_,λg h=>?_⟩
   ·rw[aN];exact bJ _ i1
   ·rw[aN] at h ⊢;rcases aA.mp h with e | e
    ·exact aA.mpr (.inl e)
    ·exact bJ _ (i2 g e)
theorem zGe(f:az)(v:V):∀ fs:List (az×V),(zEy f v fs).length<=fs.length+1
 | []=>by simp[zEy]
 | (k,x)::r=>by
  have ih:=zGe f v r;rw[show zEy f v ((k,x)::r)=(if k=f then(k,v)::r else(k,x)::zEy f v r) from rfl];by_cases hk:k=f
  ·rw[if_pos hk,aW,aW]; lia
  ·rw[if_neg hk,aW,aW]; lia

theorem zJf.some_of{v:V}{o:Option ag}(r:zJf (some v) o):∃ u,o=some u/\xD v u:=by
 cases o with
 | none=>exact(show False from r).elim
 | some u=>exact⟨u,U,r⟩
theorem zJf.none_of{o:Option ag}(r:zJf none o):o=none:=by
 cases o with
 | none=>rfl
 | some u=>exact(show False from r).elim
theorem zQ6{v:V}{u:ag}(r:xD v u):kO u=true:=by
 cases v with
 | non=>cases (show u=bp from r); rfl
 | bl b=>cases (show u=iu b from r); rfl
 | int i=>obtain⟨t,e⟩:=(show ∃ t,u=dP i t from r); cases e; rfl
 | str x=>obtain⟨t,e⟩:=(show ∃ t,u=cF x t from r); cases e; rfl
 | byt b=>obtain⟨t,e⟩:=(show ∃ t,u=lD b t from r); cases e; rfl
 | flt b=>obtain⟨t,e⟩:=(show ∃ t,u=i9 b t from r); cases e; rfl
 | ref a=>cases (show u=aI a from r); rfl
 | ty n=>cases (show u=lP n from r); rfl

section
variable{P:aK}{w:aU}{H H':Hp}{h h':aX}{a C dx:af}{fs fs':List (az×V)}
theorem zIg(hok:HOk P w H h)(e:H a=some (.ins C dx fs)):∃ mA,zXy h a dx C mA/\(∀ f,zJf (fs.lookup f) (mA f))/\jX mA (fs.map (·.1))/\fs.length<=1000/\H dx=some (.own a):=by
 obtain⟨d,z,ne,ob,mA,n,r,q⟩:=(show xC P w H h a (.ins C dx fs) from hok a _ e);exact⟨mA,⟨ob,n,ne⟩,r,q,z,d⟩
end

structure Cls(K:ae)(C:af):Prop where
 pg:fQ K C nv=true
 hd:g7 K C=true
 po:j5 K C=true
 sa:cB K (.ref C) "__setattr__" = some (some (.builtin "object.__setattr__"))
theorem Cls.get{K:ae}{C:af}(c:Cls K C)(f:az):fQ K C f=true:=c.pg
def zA7(K:ae)(C:af)(f:az):Prop:=cB K (.ref C) f=some none
theorem zA7.taker{K:ae}{C:af}{f:az}(n:zA7 K C f):iK K C f=some none:=by
 unfold iK;rw[show cB K (.ref C) f=some none from n];rfl
structure Con(K:ae)(C:af)(f:az)(v:V)(u:ag):Prop where
 at_:cB K (.ref C) f=some (some u)
 rel:xD v u
 get:j6 K u "__get__" = some none
 cp:PySem.W.copiedNames.contains f=false
structure zS7(K:ae)(C:af)(m:az)(f:af):Prop where
 at_:cB K (.ref C) m=some (some (.ref f))
 fn:jZ K (.ref f)=true
 kp:b9 K (.ref f)=true

section
variable{X:Cx}{pins:List (af×cD)}{σ:St}{H:Hp}{s:ai}{a C dx:af}{fs:List (az×V)}{f:az}{v:V}{A:bI}{E:ag->ai->Prop}

theorem zPv{b:Bool}{Q:ag->ai->Prop}(I:Inv X pins σ H s)(e:H a=some (.ins C dx fs))(c:Cls X.K C)(n:zA7 X.K C f)(l:fs.lookup f=some v)
  (h:∀ u s',Inv X pins σ H s'->xD v u->Q u s'):wpAny (model X.prog X.w) A (getAttr (.ref a) f b) Q E s:=by
 obtain⟨mA,O,r,_,_,_⟩:=zIg I.hok e;obtain⟨u,hu,ru⟩:=zJf.some_of (v:=v) (o:=mA f) (by rw[<- l]; exact r f);exact zWp I.kIn O (c.get f) c.hd n hu (zQ6 ru) (h u _ (I.tok _) ru)

theorem zDf{m:az}{g:af}{pl:mH Bool}{Q:ag×List ag->ai->Prop}(I:Inv X pins σ H s)(e:H a=some (.ins C dx fs))(c:Cls X.K C)(k:zS7 X.K C m g)(l:fs.lookup m=none)
  (h:Q (.ref g,[.ref a]) s):wpAny (model X.prog X.w) A (getMethod (.ref a) m pl) Q E s:=by
 obtain⟨mA,O,r,_,_,_⟩:=zIg I.hok e;have hn:mA m=none:=zJf.none_of (by rw[<- l]; exact r m);exact zTy I.kIn O (c.get m) k.at_ k.fn hn h

theorem zO2{y:V}{u:ag}{Q:Unit->ai->Prop}(I:Inv X pins σ H s)(e:H a=some (.ins C dx fs))(c:Cls X.K C)(n:zA7 X.K C f)(hl:fs.length<1000)(ry:xD y u)
  (h:∀ s',Inv X pins σ (upd H a (.ins C dx (zEy f y fs))) s'->Q () s'):wpAny (model X.prog X.w) A (setAttr (.ref a) f u) Q E s:=by
 obtain⟨mA,O,r,wi,_,ho⟩:=zIg I.hok e;have hz:(fs.map (·.1)).length<=sizeLine:=by rw[aa,sizeLine_eq]; lia
 refine zXg I.kIn O c.sa c.po n.taker c.hd wi hz λh' O' sb=>h _ ?_;have hd:∃ o,h'.get? dx=some o:=let ⟨o,_,_,e',_⟩:=O'.ns;⟨o,e'⟩;refine I.write (x:=a) (e:=dx) (by rw[e]; exact bB) (.inr ho) (λb q hb z=>(sb.2 b hb).trans z) hd ?_;refine⟨by rw[zG O.ne]; exact ho,?_,O.ne,O'.obj,_,O'.ns,λg=>?_,λg hg=>?_⟩
 ·have:=zGe f y fs; lia
 ·show zJf ((zEy f y fs).lookup g) (if g=f then some u else mA g);rw[zF1];by_cases q:g=f
  ·rw[if_pos q,if_pos q]; exact ry
  ·rw[if_neg q,if_neg q]; exact r g
 ·by_cases q:g=f
  ·rw[q]; exact(zF8 f y fs).1
  ·refine(zF8 f y fs).2 g (wi g λz=>hg ?_);show(if g=f then some u else mA g)=none;rw[if_neg q]; exact z

theorem Inv.made(I:Inv X pins σ H s):Inv X pins σ (upd (upd H s.heap.objs.size (.own (s.heap.objs.size+1))) (s.heap.objs.size+1) (.ins C s.heap.objs.size []))
  { s with heap:=(s.heap.push cE).push (dq C s.heap.objs.size) }:=by
 have e1:(s.heap.push cE).get? s.heap.objs.size=some cE:=ap s.heap rfl;have e2:((s.heap.push cE).push (dq C s.heap.objs.size)).get? (s.heap.objs.size+1)=some (dq C s.heap.objs.size):=by
  have:=ap (s.heap.push cE) (o:=dq C s.heap.objs.size) rfl;rwa[dh] at this
 have e3:(s.heap.push cE).Ns s.heap.objs.size (λ_=>none):=⟨cE,#[],_,e1,rfl,(λe he=>absurd he (by simp)),λ_=>rfl⟩;have I1:=I.laid (a:=s.heap.objs.size) (o:=.own (s.heap.objs.size+1)) (h':=s.heap.push cE) (t':=s.toks) (λb u q=>ah _ q) (am _) ⟨_,e1⟩;refine I1.laid (a:=s.heap.objs.size+1) (o:=.ins C s.heap.objs.size []) (t':=s.toks) (λb u q=>ah _ q) (ix (dh _ _)) ?_;have ne:s.heap.objs.size≠s.heap.objs.size+1:=aP (ij _);refine⟨by rw[zG ne,zA],bw _,ne,e2,λ_=>none,(Heap.Ns1.of_empty e3).at λo q=>ah _ q,λ_=>bB,λy hy=>absurd rfl hy⟩

theorem zW6{prog:aK}{w:aU}{env:gq}{e:bx}{f:az}{pos:fh}{s:ai}{Q:ag->ai->Prop}(hb:attributeBase e f env (eval e env)=eval e env)
  (h:wpAny (model prog w) A (eval e env) (λo s₁=>wpAny (model prog w) A (getAttr o f true) Q E s₁) E s):wpAny (model prog w) A (eval (.Attribute e f pos) env) Q E s :=
 Attribute_any_ h (by rw[arm_eval_Attribute,hb])
end


section
variable{X:Cx}{pins:List (af×cD)}{σ:St}{H:Hp}{s:ai}{A:bI}{E:ag->ai->Prop}{Q:ag->ai->Prop}{c:ag}{b:Bool}
inductive TyOf(K:ae)(H:Hp):V->ag->Prop where
 | non:TyOf K H .non (.type "NoneType")
 | bl (x:Bool):TyOf K H (.bl x) (.type "bool")
 | int (i:Int):TyOf K H (.int i) (.type "int")
 | str (x:az):TyOf K H (.str x) (.type "str")
 | flt (x:UInt64):TyOf K H (.flt x) (.type "float")
 | lst {a:af} {xs:List V} (e:H a=some (.lst xs)):TyOf K H (.ref a) (.type "list")
 | frz {a:af} {o:cD} {xs:List V} (e:H a=some (.frz o (.lst xs))):TyOf K H (.ref a) (.type "list")
 | tup {a:af} {xs:List V} (e:H a=some (.tup xs)):TyOf K H (.ref a) (.type "tuple")
 | dK {a:af} {kvs:List (Key×V)} (e:H a=some (.dK kvs)):TyOf K H (.ref a) (.type "dict")
 | dT {a:af} {kvs:List (List Key×V)} (e:H a=some (.dT kvs)):TyOf K H (.ref a) (.type "dict")
 | ins {a C dx:af} {fs:List (az×V)} (e:H a=some (.ins C dx fs)) (cl:Cls K C) (ha:cB K (.ref C) "__class__" = some (some (.builtin "object.__class__")))
   (hn:j6 K (.builtin "object.__class__") "__get__" = some (some (.builtin "getset_descriptor.__get__"))) (htk:PySem.W.takesIn K (.builtin "object.__class__")=some true)
   (hm:PySem.W.mroIn K C (.type "object")=some true):TyOf K H (.ref a) (.ref C)
theorem zQ4{x:V}{u t:ag}(I:Inv X pins σ H s)(rx:xD x u)(ty:TyOf X.K H x t)(e:cP X.K t c=some b)(h:∀ tk,Q (.bool b) { s with toks:=tk }) :
  wpAny (model X.prog X.w) A (call (.builtin "isinstance") [u,c]) Q E s:=by
 cases ty with
 | non=>cases (show u=bp from rx); exact cj PySem.W.kitx_none I.kIn bB e (λz=>nomatch z) h
 | bl y=>cases (show u=iu y from rx); exact cj PySem.W.kitx_bool I.kIn bB e (λz=>nomatch z) h
 | int i=>obtain⟨t,q⟩:=(show ∃ t,u=dP i t from rx); cases q; exact cj PySem.W.kitx_int I.kIn bB e (λz=>nomatch z) h
 | str y=>obtain⟨t,q⟩:=(show ∃ t,u=cF y t from rx); cases q; exact cj PySem.W.kitx_str I.kIn bB e (λz=>nomatch z) h
 | flt y=>obtain⟨t,q⟩:=(show ∃ t,u=i9 y t from rx); cases q; exact cj PySem.W.kitx_float I.kIn bB e (λz=>nomatch z) h
 | @lst a xs ea =>
  cases (show u=aI a from rx);obtain⟨_,_,n,_,h1⟩:=(show xC X.prog X.w H s.heap a (.lst xs) from I.hok a _ ea);exact cj j7 I.kIn ⟨_,h1,rfl⟩ e (λz=>nomatch z) h
 | @frz a ob xs ea =>
  cases (show u=aI a from rx);obtain⟨_,_,_,n,_,h1⟩:=(show xC X.prog X.w H s.heap a (.frz ob (.lst xs)) from I.hok a _ ea);exact cj j7 I.kIn ⟨_,h1,rfl⟩ e (λz=>nomatch z) h
 | @tup a xs ea =>
  cases (show u=aI a from rx);obtain⟨_,_,_,p⟩:=(show xC X.prog X.w H s.heap a (.tup xs) from I.hok a _ ea);obtain⟨o,h1,h2,_⟩:=p;exact cj PySem.W.kitx_tuple I.kIn ⟨o,h1,h2⟩ e (λz=>nomatch z) h
 | @dK a kvs ea =>
  cases (show u=aI a from rx);obtain⟨_,_,vs,_,p⟩:=(show xC X.prog X.w H s.heap a (.dK kvs) from I.hok a _ ea);obtain⟨o,es,ep,h1,h2,_⟩:=p;exact cj j8 I.kIn ⟨o,h1,h2.1⟩ e (λz=>nomatch z) h
 | @dT a kvs ea =>
  cases (show u=aI a from rx);obtain⟨_,_,xs,_,o,es,ep,h1,h2,_⟩:=(show xC X.prog X.w H s.heap a (.dT kvs) from I.hok a _ ea);exact cj j8 I.kIn ⟨o,h1,h2.1⟩ e (λz=>nomatch z) h
 | @ins a C dx fs ea cl ha hn htk hm =>
  cases (show u=aI a from rx);obtain⟨mA,O,_⟩:=zIg I.hok ea;obtain⟨od,J,_⟩:=O.look;exact cj (PySem.W.kitx_own (cl.get _) cl.hd ha hn htk hm) I.kIn J e (λz=>nomatch z) h
end
end L2

namespace L2
open PySem PySem.Spec PyProof.Rows

structure rZ(k:Nat)(A:bI):Prop where
 hd:A.handled=none
 dp:A.depth+3*k+5<recursionLimit
 un:A.units+16*k+200<cLine
 gd:A.guards=some []
theorem rZ.mono{j k:Nat}{A:bI}(r:rZ k A)(h:j<=k):rZ j A:=⟨r.hd,by have:=r.dp; lia,by have:=r.un; lia,r.gd⟩
theorem rZ.deeper{k:Nat}{A:bI}(r:rZ (k+1) A)(env:gq):rZ k (A.deeper env) :=
 ⟨r.hd,by have:=r.dp; show A.depth+1+3*k+5<_; lia,by have:=r.un; show A.units+3+16*k+200<_; lia,r.gd⟩
theorem zO3{A:bI}{C:af}{us:List ag}{kw:List (az×ag)} : (A.under (.builtin "type.__call__" ⟨.ref C::us,kw⟩)).depth=A.depth+1:=by
 first | rfl | simp[iy,Code.weight,Code.isCreation,nE,Code.isCaller,nL,j9,guardIds]
theorem zO0{A:bI}{C:af}{us:List ag}{kw:List (az×ag)} : (A.under (.builtin "type.__call__" ⟨.ref C::us,kw⟩)).units=A.units+1:=by
 first | rfl | simp[iy,Code.cUnits,nL,j9]
theorem rZ.make{k:Nat}{A:bI}(r:rZ (k+1) A)(C:af)(us:List ag)(kw:List (az×ag)):rZ k (A.under (.builtin "type.__call__" ⟨.ref C::us,kw⟩)) :=
 ⟨r.hd,by have:=r.dp; rw[zO3]; lia,by have:=r.un; rw[zO0]; lia,by first | exact r.gd | (rw[iy]; simpa [pushGuards,Code.guards,nE,guardIds] using r.gd)⟩
theorem rZ.depth{k:Nat}{A:bI}(r:rZ k A):A.depth<recursionLimit:=by have:=r.dp; lia
theorem rZ.units{k:Nat}{A:bI}(r:rZ k A):A.units+64<cLine:=by have:=r.un; lia
theorem rZ.units0{k:Nat}{A:bI}(r:rZ k A):A.units<cLine:=by have:=r.un; lia

def zPk:TA:=λ_ H Q=>Q [] H
def tJ(ta:TE)(tr:TA):TA:=λσ H Q=>ta σ H λx H1=>tr σ H1 λxs H2=>Q (x::xs) H2
section
variable{X:Cx}{e:bx}{es:List bx}{te:TE}{t:TA}{pos:fh}
theorem zH:PA X [] zPk:=λ_ _ _ _ H Q I h=>ka ⟨[],H,I,.nil,h⟩
theorem zB(ha:PE X e te)(hr:PA X es t)(hs:starEach (e::es) X.env=(false,eval e X.env)::starEach es X.env:=by rfl):PA X (e::es) (tJ te t):=by
 intro pos pins s σ H Q I h;rw[hs];show wpAny _ _ (spliced ((false,eval e X.env)::backTo pos (starEach es X.env))) _ _ s;refine jJ (thn (ha pins s σ H _ I h) λu s1 ⟨x,H1,I1,r1,q1⟩=>?_);exact thn (hr pos pins s1 σ H1 _ I1 q1) λus s2 ⟨xs,H2,I2,r2,q2⟩=>⟨x::xs,H2,I2,.cons r1 r2,q2⟩

def ye4(t:TA):TE:=λσ H Q=>t σ H λxs H1=>xs.length<=sizeLine/\∀ p,H1 p=none->Q (.ref p) (upd H1 p (.tup xs))
def zEv(t:TA):TE:=λσ H Q=>t σ H λxs H1=>xs.length<=sizeLine/\∀ p,H1 p=none->Q (.ref p) (upd H1 p (.lst xs))
theorem xF{x1}(h:PA X es t):PE X (.Tuple es x1 pos) (ye4 t):=by
 intro pins s σ H Q I hq;refine wpAny_Tuple_spliced (thn (h pos pins s σ H _ I hq) λus s1 ⟨xs,H1,I1,r,z,q⟩=>⟨by rw[<- r.length]; exact z,?_⟩);have hf:H1 s1.heap.objs.size=none:=I1.hok.fresh (am _);refine⟨.ref s1.heap.objs.size,upd H1 s1.heap.objs.size (.tup xs),I1.laid (t':=s1.toks) (λb u e=>ah _ e) (am _) ?_,U,q _ hf⟩;exact⟨z,us,r,⟨_,ap _ rfl,U,_,U⟩⟩
theorem vW(h:PA X es t):PE X (.List es pos) (zEv t):=by
 intro pins s σ H Q I hq;refine wpAny_List_spliced (thn (h pos pins s σ H _ I hq) λus s1 ⟨xs,H1,I1,r,z,q⟩=>⟨by rw[<- r.length]; exact z,?_⟩);have hf:H1 s1.heap.objs.size=none:=I1.hok.fresh (am _);refine⟨.ref s1.heap.objs.size,upd H1 s1.heap.objs.size (.lst xs),I1.laid (t':=s1.toks) (λb u e=>ah _ e) (am _) ?_,U,q _ hf⟩;exact⟨z,us,0,r,ap _ rfl⟩
end

abbrev Sp:=List V->Hp->VK->XK->Prop
abbrev CXT:=List gq->Hp->ai->XK->ag->ai->Prop

structure zUt(P:aK)(w:aU)(K:ae)(mg:az->Option ag)(base:aX)(A:bI)(outer:List gq)(s:ai)(H:Hp):Prop where
 frames:A.frames=some outer
 mod:Mod K mg base
 bs:∀ b o,base.get? b=some o->s.heap.get? b=some o/\H b=none
 bsz:base.objs.size<=s.heap.objs.size
 funs:s.heap.FunFrames base outer
 frf:∀ b∈frs outer,H b=none
 hok:HOk P w H s.heap
 bare:gE s.gens
def CE(outer:List gq)(P:aK)(w:aU)(H:Hp)(s:ai)(Q:VK)(u:ag)(s':ai):Prop :=
 ∃ v H',s'.os=s.os/\gE s'.gens/\Un (frs outer) [] H H' s.heap s'.heap/\HOk P w H' s'.heap/\xD v u/\Q v H'
def CR(CX:CXT)(outer:List gq)(P:aK)(w:aU)(H:Hp)(s:ai)(Q:VK)(E:XK)(r:Result)(s':ai):Prop :=
 match r with
 | .ok (.ret u)=>CE outer P w H s Q u s'
 | .ok _=>False
 | .error e=>CX outer H s E e s'
structure yY(P:aK)(w:aU)(K:ae)(mg:az->Option ag)(base:aX)(CX:CXT)(k:Nat)(f:af)(fd:bT)(ps:List az)(sp:Sp):Prop where
 len:∀ vs H Q E,sp vs H Q E->vs.length=ps.length
 run:∀(A:bI)(outer:List gq)(s:ai)(H:Hp)(args:Args)(us:List ag)(vs:List V)(Q:VK)(E:XK),rZ k A->zUt P w K mg base A outer s H->iz s fd args (ps.zip us)->yT vs us->sp vs H Q E ->
  codeAny (model P w) A (.call (.ref f) args) (CR CX outer P w H s Q E) s
theorem zUt.make{P:aK}{w:aU}{K:ae}{mg:az->Option ag}{base:aX}{A:bI}{outer:List gq}{s:ai}{H:Hp}(e:zUt P w K mg base A outer s H)(C:af)(us:List ag)(kw:List (az×ag)) :
  zUt P w K mg base (A.under (.builtin "type.__call__" ⟨.ref C::us,kw⟩)) outer s H:=⟨by first | exact e.frames | (simpa [iy,Code.envs,j9,pushEnvs] using e.frames),e.mod,e.bs,e.bsz,e.funs,e.frf,e.hok,e.bare⟩
section
variable{X:Cx}{pins:List (af×cD)}{σ:St}{H:Hp}{s s':ai}
theorem Inv.env0(I:Inv X pins σ H s):zUt X.prog X.w X.K X.mg X.base X.A X.stack s H :=
 ⟨I.ok.frames,I.ok.mod,I.bs,aD I.ok.bsz I.sz,I.stack,I.stkFree,I.hok,I.bare⟩
theorem Inv.after{Q:VK}{u:ag}(I:Inv X pins σ H s)(h:CE X.stack X.prog X.w H s Q u s'):EP X pins σ Q u s':=by
 obtain⟨v,H',os,bare,un,hok,r,q⟩:=h;obtain⟨hh,g,d,t,os'⟩:=s';obtain rfl:os'=s.os:=os;exact⟨v,H',I.call (h':=hh) (g':=g) (d':=d) (t':=t) (ch:=[]) un hok bare (λb z=>absurd z (by simp)),r,q⟩
end

def zPs(sp:Sp)(dvs:List V)(E:XK)(t:TA):TE:=λσ H Q=>t σ H λvs H1=>sp (vs++dvs) H1 Q E
def zCe(K:ae)(fd:bT)(ps:List az)(ds:List ag):Prop :=
 ∀(s:ai)(us:List ag),K.In s.heap->(us++ds).length=ps.length->iz s fd ⟨us,[]⟩ (ps.zip (us++ds))
theorem zCe.all{K:ae}{fd:bT}{ps:List az}(h:∀ us:List ag,us.length=ps.length->bindArgs fd ⟨us,[]⟩=pure (ps.zip us)):zCe K fd ps []:=λs us _ hl=>by
 rw[du] at hl ⊢;exact .of_eq (h us hl)

def zLt(CX:CXT)(X:Cx)(E:XK):Prop:=∀(pins:List (af×cD))(σ:St)(H:Hp)(s:ai)(e:ag)(s':ai),Inv X pins σ H s->CX X.stack H s E e s'->X.xe e s'

section
variable{X:Cx}{CX:CXT}{k:Nat}{f C:af}{fd:bT}{ps:List az}{sp:Sp}{dvs:List V}{ds:List ag}{E:XK}{x m:az}{p pos apos:fh}{e o:bx}{es:List bx}{ta:TE}{t:TA}

theorem zOp{pins:List (af×cD)}{σ:St}{H:Hp}{s:ai}{Q:VK}{us:List ag}{vs:List V}(F:yY X.prog X.w X.K X.mg X.base CX k f fd ps sp)(hr:rZ k X.A)(hb:zCe X.K fd ps ds)(hd:yT dvs ds)(hx:zLt CX X E)
  (I:Inv X pins σ H s) (r:yT vs us) (h:sp (vs++dvs) H Q E):wpAny (model X.prog X.w) X.A (call (.ref f) us) (EP X pins σ Q) X.xe s:=by
 have r2:yT (vs++dvs) (us++ds):=r.append hd;have hl:(us++ds).length=ps.length:=by rw[<- r2.length]; exact F.len _ _ _ _ h
 refine gO (codeAny_mono (F.run X.A X.stack s H ⟨us,[]⟩ (us++ds) (vs++dvs) Q E hr I.env0 (hb s us I.kIn hl) r2 h) λr s' hq=>?_);cases r with
 | error e=>exact hx pins σ H s e s' I hq
 | ok fl =>
  cases fl with
  | ret u=>exact I.after hq
  | next=>exact bF hq
  | brk=>exact bF hq
  | cont=>exact bF hq

theorem zWr(F:yY X.prog X.w X.K X.mg X.base CX k f fd ps sp)(hr:rZ k X.A)(hg:Gl X x)(hm:X.mg x=some (.ref f))(hk:b9 X.K (.ref f)=true)(hb:zCe X.K fd ps ds)(hd:yT dvs ds)(hx:zLt CX X E)
  (ha:PA X (e::es) t) (hdb:(x ==("__debug__" : az))=false:=by decide) (he:starEach (e::es) X.env=(false,eval e X.env)::starEach es X.env:=by rfl) (hpl:(backTo pos (starEach es X.env)).any (·.1)=false:=by rfl) :
  PE X (.Call (.Name x p) (e::es) [] pos) (zPs sp dvs E t):=by
 intro pins s σ H Q I h;refine cY (tQ I hg hm ?_ hdb);refine dF (h₀:=X.base) I.ok.mod.kin hk (thn (ha pos pins s σ H _ I h) λus s1 ⟨vs,H1,I1,r,q⟩=>⟨I1.kIn,?_⟩) he hpl;exact zOp F hr hb hd hx I1 r q
theorem zTd(F:yY X.prog X.w X.K X.mg X.base CX k f fd ps sp)(hr:rZ k X.A)(hg:Gl X x)(hm:X.mg x=some (.ref f))(hk:b9 X.K (.ref f)=true)(hb:zCe X.K fd ps ds)(hd:yT dvs ds)(hx:zLt CX X E)
  (hdb:(x ==("__debug__" : az))=false:=by decide):PE X (.Call (.Name x p) [] [] pos) (zPs sp dvs E zPk):=by
 intro pins s σ H Q I h;refine cY (tQ I hg hm ?_ hdb);exact gA I.kIn hk (zOp (us:=[]) F hr hb hd hx I .nil h)

structure Mk(K:ae)(C f:af):Prop where
 makes:lJ K C=true
 init:cB K (.ref C) "__init__" = some (some (.ref f))
 fn:jZ K (.ref f)=true
 kp:b9 K (.ref C)=true

theorem zUl{pins:List (af×cD)}{σ:St}{H:Hp}{s:ai}{Q:VK}{us:List ag}{vs:List V}(M:Mk X.K C f)(F:yY X.prog X.w X.K X.mg X.base CX k f fd ps sp)(hr:rZ (k+1) X.A)(hb:zCe X.K fd ps ds)(hd:yT dvs ds)
  (hx:zLt CX X E) (I:Inv X pins σ H s) (r:yT vs us)
  (h:∀ x dx,H x=none->H dx=none->dx≠x->sp (.ref x::(vs++dvs)) (upd (upd H dx (.own x)) x (.ins C dx [])) (λv H2=>v=.non/\Q (.ref x) H2) E) :
  wpAny (model X.prog X.w) X.A (call (.ref C) us) (EP X pins σ Q) X.xe s:=by
 have hq:=h (s.heap.objs.size+1) s.heap.objs.size (I.hok.fresh (eg _)) (I.hok.fresh (am _)) (aP (ij _));have I2:=Inv.made (C:=C) I;have r2:yT (V.ref (s.heap.objs.size+1)::(vs++dvs)) (aI (s.heap.objs.size+1)::(us++ds)):=.cons rfl (r.append hd);have hl:(aI (s.heap.objs.size+1)::us++ds).length=ps.length:=by
  have e:=r2.length;rw[F.len _ _ _ _ hq] at e;exact e.symm
 refine gO (zTq (f:=f) I.kIn M.makes M.init (beq_iff_eq.mp M.fn) (codeAny_mono (F.run _ X.stack _ _ ⟨aI (s.heap.objs.size+1)::us,[]⟩ (aI (s.heap.objs.size+1)::(us++ds)) _ _ E (hr.make C us [])
  (I2.env0.make C us []) (hb _ (aI (s.heap.objs.size+1)::us) I2.kIn hl) r2 hq) λr s' hq'=>?_))
 cases r with
 | error e=>exact hx pins σ _ _ e s' I2 hq'
 | ok fl =>
  cases fl with
  | ret u =>
   obtain⟨v,H',I3,rv,ev,q3⟩:=I2.after hq';subst ev;exact⟨rv,⟨V.ref (s.heap.objs.size+1),H',I3,U,q3⟩⟩
  | next=>exact bF hq'
  | brk=>exact bF hq'
  | cont=>exact bF hq'
end

section
variable{X:Cx}{CX:CXT}{k:Nat}{f C:af}{fd:bT}{ps ks:List az}{sp:Sp}{E:XK}{x m:az}{p pos apos kpos:fh}{e o:bx}{es:List bx}{kws:List g8}{te ta:TE}{t tk:TA}{nm:Option az}
structure KBinds(K:ae)(fd:bT)(ps ks:List az)(g:List ag->List ag->List ag)(gV:List V->List V->List V):Prop where
 to:∀(s:ai)(us ws:List ag),K.In s.heap->(g us ws).length=ps.length->iz s fd ⟨us,ks.zip ws⟩ (ps.zip (g us ws))
 rel:∀{vs:List V}{us:List ag}{zs:List V}{ws:List ag},yT vs us->yT zs ws->yT (gV vs zs) (g us ws)
variable{g:List ag->List ag->List ag}{gV:List V->List V->List V}
end

structure zR(N P:List az)(sc:fD):Prop where
 kind:sc.kind=.function
 co:sc.isCoroutine=false
 gen:sc.isGenerator=false
 nd:N.Nodup
 pre:N.take P.length=P
 par:∀ x∈P,sc.names.lookup x=some .local\/sc.names.lookup x=some .cell
 nofree:∀ y∈sc.names,y.2≠.free

theorem zJn{kindOf:az->Option eS}{x:az} : ∀{binds:List (az×ag)}{m:az->Option ag},(∀ v,(x,v) ∉ binds)->bindL kindOf binds m x=m x
 | [],_,_=>rfl
 | (n,v)::r,m,h=>by
  unfold bindL;rw[zJn λw hw=>h w (bJ _ hw)];split
  ·have:x≠n:=by rintro rfl; exact h v cA
   simp[this]
  ·rfl
theorem zLg{kindOf:az->Option eS}{x:az} : ∀{binds:List (az×ag)}{m:az->Option ag},(∀ v,(x,v) ∉ binds)->bindC kindOf binds m x=m x
 | [],_,_=>rfl
 | (n,v)::r,m,h=>by
  unfold bindC;rw[zLg λw hw=>h w (bJ _ hw)];split
  ·rfl
  ·have:x≠n:=by rintro rfl; exact h v cA
   simp[this]
theorem zKy{kindOf:az->Option eS}{x:az}{v:ag} : ∀{P:List az}{vs:List ag}{i:Nat}{m:az->Option ag},P.Nodup->P[i]?=some x->vs[i]?=some v->kindOf x=some .local ->
  bindL kindOf (P.zip vs) m x=some v
 | [],_,_,_,_,h,_,_=>by simp at h
 | _::_,[],_,_,_,_,h,_=>by simp at h
 | p::P,w::vs,0,m,nd,h1,h2,hk=>by
  simp at h1 h2; subst h1; subst h2;show bindL kindOf ((p,w)::P.zip vs) m p=_;unfold bindL;rw[zJn λv hv=>(eF.mp nd).1 (f9 hv).1,if_pos hk];simp
 | p::P,w::vs,i+1,m,nd,h1,h2,hk=>by
  show bindL kindOf ((p,w)::P.zip vs) m x=_;unfold bindL;exact zKy (i:=i) (eF.mp nd).2 (by simpa using h1) (by simpa using h2) hk
theorem zK6{kindOf:az->Option eS}{x:az}{v:ag} : ∀{P:List az}{vs:List ag}{i:Nat}{m:az->Option ag},P.Nodup->P[i]?=some x->vs[i]?=some v->kindOf x≠some .local ->
  bindC kindOf (P.zip vs) m x=some v
 | [],_,_,_,_,h,_,_=>by simp at h
 | _::_,[],_,_,_,_,h,_=>by simp at h
 | p::P,w::vs,0,m,nd,h1,h2,hk=>by
  simp at h1 h2; subst h1; subst h2;show bindC kindOf ((p,w)::P.zip vs) m p=_;unfold bindC;rw[zLg λv hv=>(eF.mp nd).1 (f9 hv).1,if_neg hk];simp
 | p::P,w::vs,i+1,m,nd,h1,h2,hk=>by
  show bindC kindOf ((p,w)::P.zip vs) m x=_;unfold bindC;exact zK6 (i:=i) (eF.mp nd).2 (by simpa using h1) (by simpa using h2) hk

def start(N:List az)(vs:List V):St:=vs.map some++bE (N.length-vs.length) none

def cxOf(CX:CXT)(P:aK)(w:aU)(K:ae)(mg:az->Option ag)(base:aX)(N:List az)(qual:az)(scope:fD)(f:af)(cd:ag)(A:bI)(outer:List gq)(s:ai)(H:Hp)(E:XK):Cx where
 prog:=P
 w:=w
 K:=K
 mg:=mg
 base:=base
 A:=A.deeper (envOfC qual scope s.heap.objs.size f cd)
 N:=N
 s₀:=s
 H₀:=H
 env:=envOfC qual scope s.heap.objs.size f cd
 outer:=outer
 stack:=envOfC qual scope s.heap.objs.size f cd::outer
 ex:=[]
 calm:=true
 fn:=λ_=>true
 pn:=[]
 xe:=λe s'=>wpAny (model P w) (A.deeper (envOfC qual scope s.heap.objs.size f cd)) (leaving (envOfC qual scope s.heap.objs.size f cd) e) (λ_ s''=>CX outer H s E e s'') (λe' s''=>CX outer H s E e' s'') s'

theorem zN3{sc:fD}{n:Nat}{x:az}(h:sc.names.lookup x=some .cell):∃ c,(cellsFrom n sc.names []).lookup x=some c:=by
 have q:=fI sc.names n [] (.inl h);exact aL.mp q

theorem zKn{CX:CXT}{P:aK}{w:aU}{K:ae}{mg:az->Option ag}{base:aX}{N ps:List az}{qual:az}{scope:fD}{f:af}{cd:ag}{A:bI}{outer:List gq}{s s1:ai}{H:Hp}{E:XK}{us:List ag}{vs:List V}
  (S:zR N ps scope) (hd:A.handled=none) (e0:zUt P w K mg base A outer s H) (hl:vs.length=ps.length) (r:yT vs us)
  (x:InCallC s s.heap.objs.size (bindL (envOfC qual scope s.heap.objs.size f cd).kindOf (ps.zip us) λ_=>none) (cellsFrom (s.heap.objs.size+1) scope.names []) (bindC (envOfC qual scope s.heap.objs.size f cd).kindOf (ps.zip us) λ_=>none) s1) :
  Inv (cxOf CX P w K mg base N qual scope f cd A outer s H E) [] (start N vs) H s1:=by
 have hpl:ps.length<=N.length:=by have:=congrArg cM S.pre; rw[cm] at this; lia
 obtain⟨h1,tk,rfl,hk⟩:=x.done;have noA:∀ b:af,b ∉ (cxOf CX P w K mg base N qual scope f cd A outer s H E).ex:=λb z=>absurd (show b∈([]:List af) from z) (by simp);refine⟨⟨e0.mod,S.kind,U,U,am _,λy z c h1 h2=>?_,λy hy=>?_,λy c _ h=>?_,λ_=>hd,Around.frames_deeper e0.frames,.inr ⟨U,U⟩,λb z=>absurd z (noA b),e0.bs,e0.bsz,λb _ _=>noA b,λb z=>absurd z (noA b),e0.funs,e0.frf⟩,
  rfl,e0.bare,Un.kept hk,⟨_,x.toInCall.ns,λi y v h1 h2 h3=>?_⟩,λy c h=>⟨_,x.cell y c h⟩,e0.hok.fresh (am _),λy c h=>?_,λp hp=>absurd (show p∈([]:List (af×cD)) from hp) (by simp),e0.hok.kept hk,?_⟩
 ·exact name_of_addr x.apart (dA h1) (dA h2)
 ·have hy:scope.names.lookup y=some .cell\/scope.names.lookup y=some .free:=hy;rcases hy with hy | hy
  ·exact zN3 hy
  ·exact absurd rfl (S.nofree _ (dA hy))
 ·exact dB (x.above y c (dA h))
 ·have hi:i<vs.length:=by
   unfold start at h2;by_cases hi:i<vs.length
   ·exact hi
   ·rw[cQ (by simpa using hi)] at h2;rw[fE] at h2;split at h2 <;> cases h2
  have ha:vs[i]?=some v:=by
   unfold start at h2;rw[dN (by simpa using hi),ak] at h2;cases e:vs[i]? with
   | none=>rw[e] at h2; cases h2
   | some a=>rw[e] at h2; cases h2; rfl
  obtain⟨u,hu,rv⟩:=r.get ha;have hp:ps[i]?=some y:=by
   rw[<- S.pre,List.getElem?_take_of_lt (by lia)]; exact h1
  have ndP:ps.Nodup:=by rw[<- S.pre]; exact S.nd.sublist (List.take_sublist _ _)
  exists u,rv;rcases S.par y (aJ hp) with k | k
  ·exact .inl ⟨k,zKy ndP hp hu k⟩
  ·obtain⟨c,e⟩:=zN3 (n:=s.heap.objs.size+1) k;refine .inr ⟨.inl k,c,e,?_⟩;have q:=x.cell y c e;rw[zK6 ndP hp hu (by show scope.names.lookup y≠_; rw[k]; decide)] at q;exact q
 ·exact e0.hok.fresh (dB (x.above y c (dA h)))
 ·unfold start;show _=N.length;rw[aC,aa,cV];lia

theorem zZr{CX:CXT}{P:aK}{w:aU}{K:ae}{mg:az->Option ag}{base:aX}{k:Nat}{f:af}{name qual:az}{params:Arguments}{body:List bP}{scope:fD}{dV kV doc pm cdv ct oc:ag}{an od:Option af}
  {osl:Array (Option ag)} {N ps:List az} {sp:Sp} (lk:K.lookup f=some ⟨oc,od,.func (bQ name qual params body scope dV kV doc pm an cdv ct),osl⟩) (hcd:eU K cdv qual=true) (S:zR N ps scope)
  (len:∀ vs H Q E,sp vs H Q E->vs.length=ps.length)
  (hbody:∀(A:bI)(outer:List gq)(s:ai)(H:Hp)(vs:List V)(Q:VK)(E:XK),rZ k (A.deeper (envOfC qual scope s.heap.objs.size f cdv))->sp vs H Q E ->
   ∃ t,PSs (cxOf CX P w K mg base N qual scope f cdv A outer s H E) body t/\t { nx:=λ_ H'=>Q .non H',rt:=Q } (start N vs) H) :
  yY P w K mg base CX (k+1) f (bQ name qual params body scope dV kV doc pm an cdv ct) ps sp:=by
 refine⟨len,λA outer s H args us vs Q E hr e0 hb r hsp=>?_⟩;have hl:=len _ _ _ _ hsp;have KX:K.In s.heap:=e0.mod.kin.keeps λb o e=>(e0.bs b o e).1;have lim:s.heap.NoLimit:=e0.mod.nolimit.keeps λb o e=>(e0.bs b o e).1;have hkind:∀ y∈ps.zip us,scope.names.lookup y.1=some .local\/(scope.names.lookup y.1=some .cell/\((cellsFrom (s.heap.objs.size+1) scope.names []).lookup y.1).isSome=true):=λ⟨n,v⟩ hy=>by
  rcases S.par n (f9 hy).1 with q | q
  ·exact .inl q
  ·exact .inr ⟨q,fI _ _ _ (.inl q)⟩
 refine codeAny_call_function hr.depth (KX _ _ lk) rfl S.co S.gen rfl (jK KX hcd) (hb _ _ _ _ ?_);refine gP S.kind hkind λenv he s1 x=>?_;subst he;refine⟨lim.keeps x.toInCall.keep,codeAny_func ?_⟩;obtain⟨t,ht,hq⟩:=hbody A outer s H vs Q E (hr.deeper _) hsp;have I:Inv (cxOf CX P w K mg base N qual scope f cdv A outer s H E) [] (start N vs) H s1:=zKn S hr.hd e0 hl r x;refine cX (ht [] s1 (start N vs) H _ I hq) (λfl s' hs=>?_) λe s' hs=>hs;have fin:∀{σ':St}{H':Hp}{v:V}{u:ag},Inv (cxOf CX P w K mg base N qual scope f cdv A outer s H E) [] σ' H' s'->xD v u->Q v H'->CE outer P w H s Q u s' :=
  λ{σ' H' v u} J rv q=>⟨v,H',J.os,J.bare,J.base,J.hok,rv,q⟩
 cases fl with
 | ret u =>
  obtain⟨v,σ',H',J,rv,q⟩:=hs;exact fin J rv q
 | next =>
  obtain⟨σ',H',J,q⟩:=hs;exact fin (v:=V.non) (u:=bp) J rfl q
 | brk =>
  obtain⟨_,_,_,q⟩:=hs;exact bF q
 | cont =>
  obtain⟨_,_,_,q⟩:=hs;exact bF q
end L2

namespace L2
open PySem PySem.Spec PyProof.Rows
section
variable{X:Cx}{x:az}{p pos:fh}{e:bx}{es:List bx}{t:TA}{id T:String}{r:List V->Hp->VK->Prop}

def tCB(r:List V->Hp->VK->Prop)(t:TA):TE:=λσ H Q=>t σ H λvs H1=>r vs H1 Q
theorem zS(hc:uL X (.builtin id) r)(hg:Gl X x)(hm:X.mg x=none)(hv:bootBuiltins x=some (.builtin id))(ha:PA X (e::es) t)(hn:x ≠ "__name__" := by decide)(hdb:(x ==("__debug__" : az))=false:=by decide)
  (he:starEach (e::es) X.env=(false,eval e X.env)::starEach es X.env:=by rfl) (hpl:(backTo pos (starEach es X.env)).any (·.1)=false:=by rfl):PE X (.Call (.Name x p) (e::es) [] pos) (tCB r t):=by
 intro pins s σ H Q I h;refine cY (zHt I hg hm hv ?_ hn hdb);exact kP (thn (ha pos pins s σ H _ I h) λus s1 ⟨vs,H1,I1,r1,q1⟩=>hc pins s1 σ H1 vs us Q I1 r1 q1) he hpl
theorem xE(hc:uL X (.type T) r)(hg:Gl X x)(hm:X.mg x=none)(hv:bootBuiltins x=some (.type T))(ha:PA X (e::es) t)(hn:x ≠ "__name__" := by decide)(hdb:(x ==("__debug__" : az))=false:=by decide)
  (he:starEach (e::es) X.env=(false,eval e X.env)::starEach es X.env:=by rfl) (hpl:(backTo pos (starEach es X.env)).any (·.1)=false:=by rfl):PE X (.Call (.Name x p) (e::es) [] pos) (tCB r t):=by
 intro pins s σ H Q I h;refine cY (zHt I hg hm hv ?_ hn hdb);exact dC (thn (ha pos pins s σ H _ I h) λus s1 ⟨vs,H1,I1,r1,q1⟩=>hc pins s1 σ H1 vs us Q I1 r1 q1) he hpl
end
end L2

namespace HT
open PySem PyProof.Rows

def lexLt:List Int->List Int->Bool
 | [],[]=>false
 | [],_::_=>true
 | _::_,[]=>false
 | x::xs,y::ys=>if x=y then lexLt xs ys else decide (x<y)
section
open PySem.SeqAt
open PySem.AutoSeq1 (wpAny_loadPart')
open PySem.MeetsSeq PySem.MeetsSeq2 PySem.MeetsSeq3

end

section
variable{prog:aK}{w:aU}{A:bI}{E:ag->ai->Prop}{s:ai}

def sIx(n d:Nat):Option Int->Nat
 | none=>d
 | some v=>if v<0 then(v+(n:Int)).toNat else min v.toNat n
theorem sIx_nat(n d k:Nat):sIx n d (some (k:Int))=min k n:=by
 show(if (k:Int)<0 then((k:Int)+(n:Int)).toNat else min (k:Int).toNat n)=min k n;rw[if_neg (by lia),cw]
theorem zZb(n d:Nat)(hd:d<=n)(o:Option Int):sIx n d o<=n:=by
 cases o with
 | none=>exact hd
 | some v =>
  show(if v<0 then(v+(n:Int)).toNat else min v.toNat n)<=n;by_cases hv:v<0
  ·rw[if_pos hv]; lia
  ·rw[if_neg hv]; exact Nat.min_le_right _ _
theorem zRj(v:Int)(n d:Nat):(if v<0 then max (v+(n:Int)) 0 else min v (n:Int))=((sIx n d (some v):Nat):Int):=by
 show(if v<0 then max (v+(n:Int)) 0 else min v (n:Int))=(((if v<0 then(v+(n:Int)).toNat else min v.toNat n):Nat):Int);by_cases hv:v<0
 ·simp only[if_pos hv]; lia
 ·simp only[if_neg hv]; lia
theorem zPb(lo hi:Option Int)(n:Nat):fe lo hi 1 (n:Int)=(((sIx n 0 lo:Nat):Int),((sIx n n hi:Nat):Int)):=by
 have h1:¬ ((1:Int)<0):=by lia
 unfold fe;simp only[h1,if_false];refine ke ?_ ?_
 ·cases lo with
  | none=>rfl
  | some v=>exact zRj v n 0
 ·cases hi with
  | none=>rfl
  | some v=>exact zRj v n n
theorem zO6(i j:Nat):dO (i:Int) (j:Int) 1=j-i:=by
 unfold dO;have h1:(1:Int)>0:=by lia
 simp only[h1,if_true,Int.ediv_one];split <;> lia
theorem zHw{v:ag}{o:Option Int}{Q:Option Int->ai->Prop}(p:jL v o)(h:Q o s):wpAny (model prog w) A (lK v) Q E s:=by
 cases p with
 | none=>exact slicePart_none h
 | int i t=>exact slicePart_int h
theorem zEl{sl:af}{vl vu:ag}{lo hi:Option Int}{n:Nat}{Q:Int×Int×Nat->ai->Prop}(hs:s.heap.IsSliceOf sl vl vu .none)(pl:jL vl lo)(pu:jL vu hi)
  (h:Q (((sIx n 0 lo:Nat):Int),1,sIx n n hi-sIx n 0 lo) s):wpAny (model prog w) A (gQ (.ref sl) (pure (n:Int))) Q E s:=by
 obtain⟨os,hos,hcs,hds⟩:=id hs;unfold gQ mC;refine ac (ac (bL hos hds (x:=vl) rfl (ac (bL hos hds (x:=vu) rfl (ac (bL hos hds (x:=.none) rfl (al ?_)))))));refine ac (slicePart_none ?_);show wpAny _ _ (if ((1:Int) == 0)=true then _ else _) _ _ s;rw[if_neg (by decide)];refine ac (zHw pl (ac (zHw pu (ac (al ?_)))));show wpAny _ _ (match fe lo hi 1 (n:Int) with | (lo,hi)=>pure (lo,(1:Int),dO lo hi 1)) _ _ s;rw[zPb lo hi n];show wpAny _ _ (pure (((sIx n 0 lo:Nat):Int),(1:Int),dO ((sIx n 0 lo:Nat):Int) ((sIx n n hi:Nat):Int) 1)) _ _ s;rw[zO6];exact al h
theorem zU2(xs:Array ag)(i k:Nat):((bv k).filterMap λ(m:Nat)=>xs[((i:Int)+(m:Int)*1).toNat]?).toArray=((xs.toList.drop i).take k).toArray:=by
 have e:(λ(m:Nat)=>xs[((i:Int)+(m:Int)*1).toNat]?)=λm=>xs[i+m]?:=by
  funext m
  have:((i:Int)+(m:Int)*1).toNat=i+m:=by lia
  rw[this]
 rw[e];have:=pick_run xs i k;rw[List.filterMap_map] at this;have e2:((λx=>xs[x]?) ∘ λx=>i+x)=λm=>xs[i+m]?:=rfl;rw[e2] at this;rw[this]

theorem getItem_tuple_cut{t sl:af}{items:Array ag}{vl vu:ag}{lo hi:Option Int}{Q:ag->ai->Prop}(ht:ni s.heap t items)(hs:s.heap.IsSliceOf sl vl vu .none)(pl:jL vl lo)(pu:jL vu hi)
  (hw:¬ (sIx items.size 0 lo=0/\sIx items.size items.size hi=items.size))
  (h:Q (.ref s.heap.objs.size) { s with heap:=s.heap.push { cls:=.type "tuple",data:=.seq ((items.toList.drop (sIx items.size 0 lo)).take (sIx items.size items.size hi-sIx items.size 0 lo)).toArray } })
  (hsz:items.size<=sizeLine):wpAny (model prog w) A (getItem (.ref t) (.ref sl)) Q E s:=by
 have htake:sizeOk (.seq ((items.toList.drop (sIx items.size 0 lo)).take (sIx items.size items.size hi-sIx items.size 0 lo)).toArray):=by
  show((items.toList.drop (sIx items.size 0 lo)).take (sIx items.size items.size hi-sIx items.size 0 lo)).toArray.size<=sizeLine;rw[aE,cm,bG,bM];lia
 have hj:sIx items.size items.size hi<=items.size:=zZb _ _ (am _) hi;obtain⟨os,hos,hcs,hds⟩:=id hs;have hTs:s.TypeIs (.ref sl) "slice" :=⟨os,hos,hcs⟩;unfold getItem
 try with_reducible refine ce ?_
 first | refine ac (al ?_) | skip
 refine ac (wpAny_sequenceKey ht.typeIs (by decide) ?_);refine ac (bR (name:=aO "__getitem__") ht.typeIs d6
  (bU d6 ht.typeIs entry_tuple_getitem ?_ (args_tuple_getitem _ _)))
 show wpAny _ _ (lR (.ref t) >>= _) _ _ s;refine ac (tupleItemsOf_ ht ?_);refine ac (wpAny_typeOf hTs ?_);rw[if_pos (by decide)];refine ac (zEl hs pl pu ?_);have hno:¬ ((((sIx items.size 0 lo:Nat):Int) == 0&&(1:Int) == 1&&(sIx items.size items.size hi-sIx items.size 0 lo) == items.size)=true):=by
  intro q;rw[be,be] at q;have q1:((sIx items.size 0 lo:Nat):Int)=0:=eq_of_beq q.1.1;have q2:sIx items.size items.size hi-sIx items.size 0 lo=items.size:=eq_of_beq q.2;exact hw ⟨by lia,by lia⟩
 show wpAny _ _ (if (((sIx items.size 0 lo:Nat):Int) == 0&&(1:Int) == 1&&(sIx items.size items.size hi-sIx items.size 0 lo) == items.size)=true then _ else _) _ _ s;rw[if_neg hno,zU2]
 first
  | exact ac (m:=dX _) (br (al ⟨_,rfl,al h⟩) htake)
  | exact ac (m:=dX _) (br (ac (al (al ⟨_,rfl,al h⟩))) htake)
  | exact ac (ac (m:=dX _) (br (al (al ⟨_,rfl,al h⟩)) htake))
  | exact ac (ac (m:=dX _) (br (al ⟨_,rfl,al h⟩) htake))
end
end HT

namespace L2
open PySem PySem.Spec PyProof.Rows

abbrev TO:=St->Hp->(Option Int->Hp->Prop)->Prop
def PO(X:Cx)(e:Option bx)(t:TO):Prop :=
 ∀(pins:List (af×cD))(s:ai)(σ:St)(H:Hp)(Q:Option Int->Hp->Prop),Inv X pins σ H s->t σ H Q ->
  wpAny (model X.prog X.w) X.A (evalPart e X.env) (λu s'=>∃ o H',Inv X pins σ H' s'/\jL u o/\Q o H') X.xe s
def zXk:TO:=λ_ H Q=>Q none H
def tPart(t:TE):TO:=λσ H Q=>t σ H λx H1=>∃ i,x=.int i/\Q (some i) H1

section
variable{X:Cx}{e:bx}{te:TE}{lo hi:Option bx}{tl th:TO}{pos p2:fh}

theorem uQ:PO X none zXk:=by
 intro pins s σ H Q I h;rw[evalPart_none];exact al ⟨none,H,I,.none,h⟩
theorem vV(h:PE X e te):PO X (some e) (tPart te):=by
 intro pins s σ H Q I hw;rw[evalPart_some];refine thn (h pins s σ H _ I hw) λu s1 ⟨x,H1,I1,r1,q1⟩=>?_;obtain⟨i,rfl,q⟩:=q1;obtain⟨t,rfl⟩:=r1;exact⟨some i,H1,I1,.int i t,q⟩

def SlR(X:Cx)(r:V->Option Int->Option Int->Hp->VK->Prop):Prop :=
 ∀(pins:List (af×cD))(s:ai)(σ:St)(H:Hp)(x:V)(v vl vu:ag)(lo hi:Option Int)(sl:af)(Q:VK),Inv X pins σ H s->xD x v->s.heap.IsSliceOf sl vl vu .none->jL vl lo->jL vu hi->r x lo hi H Q ->
  ∃ T id,typeLookup (.type T) "__getitem__" = pure (some (.builtin id))/\s.TypeIs v T/\wpAny (model X.prog X.w) X.A (getItem v (.ref sl)) (EP X pins σ Q) X.xe s
def tSl(r:V->Option Int->Option Int->Hp->VK->Prop)(te:TE)(tl th:TO):TE:=λσ H Q=>te σ H λx H1=>tl σ H1 λl H2=>th σ H2 λu H3=>r x l u H3 Q
theorem wV{r:V->Option Int->Option Int->Hp->VK->Prop}(hr:SlR X r)(he:PE X e te)(hl:PO X lo tl)(hu:PO X hi th):PE X (.Subscript e (.Slice lo hi none p2) pos) (tSl r te tl th):=by
 intro pins s σ H Q I h;refine jM (thn (he pins s σ H _ I h) λv s1 ⟨x,H1,I1,r1,q1⟩=>?_);refine wpAny_Slice (thn (hl pins s1 σ H1 _ I1 q1) λvl s2 ⟨l,H2,I2,pl,q2⟩=>thn (hu pins s2 σ H2 _ I2 q2) λvu s3 ⟨u,H3,I3,pu,q3⟩=>?_);rw[evalPart_none];refine al ?_;have I4:Inv X pins σ H3 { s3 with heap:=s3.heap.push { cls:=.type "slice",data:=.fields #[vl,vu,.none] } }:=I3.kept (t':=s3.toks) λb ob q=>ah _ q;obtain⟨T,id,hT,ht,hg⟩:=hr pins { s3 with heap:=s3.heap.push { cls:=.type "slice",data:=.fields #[vl,vu,.none] } } σ H3 x v vl vu l u s3.heap.objs.size Q I4 r1 (jN ..) pl pu q3;show wpAny (model X.prog X.w) X.A (subscriptTail e (.Slice lo hi none p2) v (.ref s3.heap.objs.size)) (EP X pins σ Q) X.xe { s3 with heap:=s3.heap.push { cls:=.type "slice",data:=.fields #[vl,vu,.none] } };exact tail_any (ops:=[.ref s3.heap.objs.size,v]) ht hT hg (by with_unfolding_all rfl)

def rG(xs:List V)(lo hi:Option Int):List V:=(xs.drop (HT.sIx xs.length 0 lo)).take (HT.sIx xs.length xs.length hi-HT.sIx xs.length 0 lo)
theorem zFw(xs:List V)(lo hi:Option Int):(rG xs lo hi).length<=xs.length:=by
 unfold rG;rw[cm,bG];lia
def rSlT(K:ae):V->Option Int->Option Int->Hp->VK->Prop:=λx lo hi H Q=>∃ a xs,x=.ref a/\SqT K H a xs /\
 ¬ (HT.sIx xs.length 0 lo=0/\HT.sIx xs.length xs.length hi=xs.length)/\∀ p,H p=none->Q (.ref p) (upd H p (.tup (rG xs lo hi)))
theorem zD4:SlR X (rSlT X.K):=by
 intro pins s σ H x v vl vu lo hi sl Q I rx hs pl pu h;obtain⟨a,xs,rfl,hx,hw,q⟩:=h;cases rx;obtain⟨its,r,ht,hz⟩:=I.tuple hx;have hlen:its.toArray.size=xs.length:=by rw[aE]; exact r.length.symm
 exists "tuple",_,d6.lookup,ht.typeIs;refine HT.getItem_tuple_cut ht hs pl pu (by rw[hlen]; exact hw) ?_ (by rw[hlen]; exact hz);rw[hlen];refine⟨.ref s.heap.objs.size,_,I.laid (t':=s.toks) (o:=.tup (rG xs lo hi)) (λb ob q=>ah _ q) (am _) ?_,U,q _ (I.hok.fresh (am _))⟩;exact⟨aD (zFw xs lo hi) hz,_,(r.drop (HT.sIx xs.length 0 lo)).take (HT.sIx xs.length xs.length hi-HT.sIx xs.length 0 lo),nq _ _⟩

end
end L2

namespace L2
open PySem PySem.Spec PyProof.Rows

def ixN(n:Nat)(i:Int):Option Nat:=if 0<=i then(if i<n then some i.toNat else none) else if -(n:Int)<=i then some (i+n).toNat else none
def atI{α:Type}(xs:List α)(i:Int):Option α:=(ixN xs.length i).bind λj=>xs[j]?
theorem zQv{n:Nat}{i:Int}{j:Nat}(h:ixN n i=some j):seqIndex? i n=some j/\j<n/\-(n:Int)<=i/\i<n:=by
 unfold ixN at h;by_cases h0:0<=i
 ·rw[if_pos h0] at h;by_cases h1:i<n
  ·rw[if_pos h1] at h;have e:i.toNat=j:=bh h;exact⟨by rw[seqIndex_of h0 h1,e],by lia,by lia,h1⟩
  ·rw[if_neg h1] at h; cases h
 ·rw[if_neg h0] at h;by_cases h1 : -(n:Int)<=i
  ·rw[if_pos h1] at h;have e:(i+n).toNat=j:=bh h;exact⟨by rw[seqIndex_neg (by lia) h1,e],by lia,h1,by lia⟩
  ·rw[if_neg h1] at h; cases h
theorem zMy{α:Type}{xs:List α}{i:Int}{v:α}(h:atI xs i=some v):∃ j,seqIndex? i xs.length=some j/\xs[j]?=some v/\j<xs.length/\-(xs.length:Int)<=i/\i<xs.length:=by
 unfold atI at h;cases e:ixN xs.length i with
 | none=>rw[e] at h; cases h
 | some j =>
  rw[e] at h;obtain⟨h1,h2,h3,h4⟩:=zQv e;exact⟨j,h1,h,h2,h3,h4⟩
theorem vQ{α:Type}{xs:List α}{j:Nat}{v:α}(h:xs[j]?=some v):atI xs (j:Int)=some v:=by
 have hj:j<xs.length:=(aM.mp h).1;have e:ixN xs.length (j:Int)=some j:=by
  unfold ixN;rw[if_pos (by lia),if_pos (by lia)]; simp
 unfold atI; rw[e]; exact h
def zRk(b:bx):Prop:=∀ o i,subscripted b false o i=operate [o,i] (getItem o i)
def IxR(X:Cx)(r:R2):Prop :=
 ∀(value slice:bx)(pins:List (af×cD))(s:ai)(σ:St)(H:Hp)(x y:V)(v u:ag)(Q:VK),Inv X pins σ H s->xD x v->xD y u->r x y H Q ->
  subscripted slice false v u=operate [v,u] (getItem v u)->wpAny (model X.prog X.w) X.A (subscriptTail value slice v u) (EP X pins σ Q) X.xe s
def MtR(X:Cx)(id:String)(r:V->List V->Hp->VK->Prop):Prop :=
 ∀(pins:List (af×cD))(s:ai)(σ:St)(H:Hp)(x:V)(xs:List V)(v:ag)(us:List ag)(Q:VK),Inv X pins σ H s->xD x v->yT xs us->r x xs H Q ->
  wpAny (model X.prog X.w) X.A (call (.builtin id) (v::us)) (EP X pins σ Q) X.xe s
section
variable{X:Cx}{a b:bx}{ta tb:TE}{pos:fh}
theorem zLx{r:R2}(hr:IxR X r)(ha:PE X a ta)(hb:PE X b tb)(hs:zRk b):PE X (.Subscript a b pos) (tOp r ta tb):=by
 intro pins s σ H Q I h;exact jM (ye5 ha hb I h λv u s2 x y H2 I2 rx ry q=>hr a b pins s2 σ H2 x y v u Q I2 rx ry q (hs _ _))

def rIxL(K:ae):R2:=λx y H Q=>∃ p xs i v,x=.ref p/\y=.int i/\SqL K H p xs/\atI xs i=some v/\Q v H
def rIxT(K:ae):R2:=λx y H Q=>∃ p xs i v,x=.ref p/\y=.int i/\SqT K H p xs/\atI xs i=some v/\Q v H
def rIxS:R2:=λx y H Q=>∃ z i c,x=.str z/\y=.int i/\z.length<=sizeLine/\atI z.cps.toList i=some c/\Q (.str ⟨#[c]⟩) H
theorem zXj:IxR X (rIxL X.K):=by
 intro value slice pins s σ H x y v u Q I rx ry h hs;obtain⟨p,xs,i,z,rfl,rfl,hq,he,q⟩:=h;cases rx;obtain⟨t,rfl⟩:=ry;obtain⟨its,r,pl,hz⟩:=I.list hq;obtain⟨j,h1,h2,h3,h4,h5⟩:=zMy he;obtain⟨w,ew,rw'⟩:=r.get h2;have hl:=r.length;have hn:=zG6;have fin:EP X pins σ Q w s:=⟨z,H,I,rw',q⟩;by_cases h0:0<=i
 ·have hj:i.toNat=j:=by
   rw[seqIndex_of h0 h5] at h1;exact bh h1
  exact item_listR pl.isList h0 (by lia) (by rw[hj]; simpa using ew) fin hs
 ·have hj:(i+(its.toArray.size:Int)).toNat=j:=by
   rw[seqIndex_neg (by lia) h4] at h1;rw[aE,<- hl];exact bh h1
  exact subscriptTail_builtinR (x:=w) pl.isList.typeIs slot_list_getitem.lookup
   (wpAny_getItem_list_neg (Q:=λr s'=>r=w/\EP X pins σ Q r s') pl.isList (by lia) (by rw[aE] <;> lia) (by lia) (by rw[hj]; simpa using ew) ⟨rfl,fin⟩) hs
theorem zY5:IxR X (rIxT X.K):=by
 intro value slice pins s σ H x y v u Q I rx ry h hs;obtain⟨p,xs,i,z,rfl,rfl,hq,he,q⟩:=h;cases rx;obtain⟨t,rfl⟩:=ry;obtain⟨its,r,pl,hz⟩:=I.tuple hq;obtain⟨j,h1,h2,h3,h4,h5⟩:=zMy he;obtain⟨w,ew,rw'⟩:=r.get h2;have hl:=r.length;have hn:=zG6;have fin:EP X pins σ Q w s:=⟨z,H,I,rw',q⟩;exact subscriptTail_builtinR (x:=w) pl.typeIs slot_tuple_getitem.lookup
  (getItem_tuple (j:=j) (Q:=λr s'=>r=w/\EP X pins σ Q r s') pl (by lia) (by lia) (by rw[aE,<- hl]; exact h1) (by simpa using ew) ⟨rfl,fin⟩) hs
theorem zVu:IxR X rIxS:=by
 intro value slice pins s σ H x y v u Q I rx ry h hs;obtain⟨z,i,c,rfl,rfl,hz,he,q⟩:=h;obtain⟨t,rfl⟩:=rx;obtain⟨t',rfl⟩:=ry;obtain⟨j,h1,h2,h3,h4,h5⟩:=zMy he;have hl:z.cps.toList.length=z.length:=by simp[Str.length]
 rw[hl] at h1 h4 h5;have hn:=zG6;exact tail_any (typeIs_str s z t) slot_str_getitem.lookup (getItem_str (c:=c) (by
  have e1:decide (i < -(2^63:Int))=false:=decide_eq_false (by lia);have e2:decide (i >= 2^63)=false:=decide_eq_false (by lia);rw[e1,e2,jA]) (by rw[h1]; simpa using h2) ⟨.str ⟨#[c]⟩,H,I.tok _,⟨_,rfl⟩,q⟩) hs
theorem zPi(its:List ag)(n j:Nat)(u:ag):bO (·.setIfInBounds j u) { cls:=.type "list",data:=.seq its.toArray n }={ cls:=.type "list",data:=.seq (its.set j u).toArray n }:=by
 simp[bO]
theorem Inv.lst{pins:List (af×cD)}{σ:St}{H:Hp}{s:ai}{p:af}{xs:List V}(I:Inv X pins σ H s)(h:H p=some (.lst xs)) :
  ∃(its:List ag)(n:Nat),yT xs its/\s.heap.get? p=some { cls:=.type "list",data:=.seq its.toArray n }/\xs.length<=sizeLine:=by
 obtain⟨z,its,n,r,e⟩:=I.hok p _ h;exact⟨its,n,r,e,z⟩
theorem Inv.lstUpd{pins:List (af×cD)}{σ:St}{H:Hp}{s:ai}{p:af}{xs ys:List V}{its its':List ag}{n n':Nat}{f:cD->cD}(I:Inv X pins σ H s)(h:H p=some (.lst xs))
  (ho:s.heap.get? p=some { cls:=.type "list",data:=.seq its.toArray n }) (hf:f { cls:=.type "list",data:=.seq its.toArray n }={ cls:=.type "list",data:=.seq its'.toArray n' }) (r:yT ys its') (hz:ys.length<=sizeLine) (t:Nat) :
  Inv X pins σ (upd H p (.lst ys)) { s with heap:=s.heap.update p f,toks:=t }:=by
 have e:(s.heap.update p f).get? p=some { cls:=.type "list",data:=.seq its'.toArray n' }:=by
  rw[cG f ho (by rw[hf] <;> rfl),hf]
 refine I.write (x:=p) (e:=p) (by rw[h]; trivial) (.inl rfl) (λb u hb q=>(aZ _ _ (cz hb)).trans q) ⟨_,e⟩ ?_;exact⟨hz,its',n',r,e⟩
def rSetL:V->V->V->Hp->(Hp->Prop)->Prop:=λo i v H Q=>∃ p xs k j,o=.ref p/\i=.int k/\H p=some (.lst xs)/\ixN xs.length k=some j/\Q (upd H p (.lst (xs.set j v)))
theorem zTu:PSet X rSetL:=by
 intro pins s σ H o i v ov iv u Q I ro ri rv h;obtain⟨p,xs,k,j,rfl,rfl,hp,hj,q⟩:=h;cases ro;obtain⟨t,rfl⟩:=ri;obtain⟨its,n,r,ho,hz⟩:=I.lst hp;obtain⟨h1,h2,h3,h4⟩:=zQv hj;have hl:=r.length;have hn:=zG6;have I':Inv X pins σ (upd H p (.lst (xs.set j v))) { s with heap:=s.heap.update p (bO (·.setIfInBounds j u)) } :=
  I.lstUpd hp ho (zPi its n j u) (r.set rv j) (by rw[gb]; exact hz) s.toks
 by_cases h0:0<=k
 ·have hk:k.toNat=j:=by
   rw[seqIndex_of h0 h4] at h1;exact bh h1
  exact PySem.W.ki_setAt ho h0 (by lia) (by rw[aE,<- hl]; exact h4) (by rw[hk]; exact⟨_,I',q⟩)
 ·have hk:(k+(its.toArray.size:Int)).toNat=j:=by
   rw[seqIndex_neg (by lia) h3] at h1;rw[aE,<- hl];exact bh h1
  exact PySem.W.ki_setBack ho (by lia) (by rw[aE,<- hl]; exact h3) (by lia) (by rw[hk]; exact⟨_,I',q⟩)

theorem zLz(lo hi:Option Int)(n:Nat):(sliceBounds lo hi none n).1=((HT.sIx n 0 lo:Nat):Int)/\(sliceBounds lo hi none n).2.1=((HT.sIx n n hi:Nat):Int)/\(sliceBounds lo hi none n).2.2=1:=by
 refine⟨?_,?_,U⟩
 ·cases lo with
  | none=>simp[sliceBounds,HT.sIx]
  | some i =>
   simp only[sliceBounds,HT.sIx,kQ,show(1:Int)>0 by decide,if_true];by_cases h:i<0
   ·simp only[h,if_true] <;> lia
   ·simp only[h,if_false] <;> lia
 ·cases hi with
  | none=>simp[sliceBounds,HT.sIx]
  | some i =>
   simp only[sliceBounds,HT.sIx,kQ,show(1:Int)>0 by decide,if_true];by_cases h:i<0
   ·simp only[h,if_true] <;> lia
   ·simp only[h,if_false] <;> lia
theorem zH6(its:List ag)(lo hi:Option Int):slicePick its.toArray lo hi none=((its.drop (HT.sIx its.length 0 lo)).take (HT.sIx its.length its.length hi-HT.sIx its.length 0 lo)).toArray:=by
 obtain⟨h1,h2,h3⟩:=zLz lo hi its.toArray.size;unfold slicePick;rw[h1,h2,h3];simp only[sliceRange_one,pick_run,aE] <;> rfl
def rSlL(K:ae):V->Option Int->Option Int->Hp->VK->Prop:=λx lo hi H Q=>∃ a xs,x=.ref a/\SqL K H a xs/\∀ p,H p=none->Q (.ref p) (upd H p (.lst (rG xs lo hi)))
theorem zWw:SlR X (rSlL X.K):=by
 intro pins s σ H x v vl vu lo hi sl Q I rx hs pl pu h;obtain⟨a,xs,rfl,hx,q⟩:=h;cases rx;obtain⟨its,r,ht,hz⟩:=I.list hx;have hlen:=r.length;exists "list",_,slot_list_getitem.lookup,ht.isList.typeIs;refine hZ ht.isList hs pl pu .none (by simp) ?_ (by rw[aE] <;> lia);rw[zH6,<- hlen];refine⟨.ref s.heap.objs.size,_,I.laid (t':=s.toks) (o:=.lst (rG xs lo hi)) (λb ob q=>ah _ q) (am _) ?_,U,q _ (I.hok.fresh (am _))⟩;exact⟨aD (zFw xs lo hi) hz,_,0,(r.drop (HT.sIx xs.length 0 lo)).take (HT.sIx xs.length xs.length hi-HT.sIx xs.length 0 lo),ap _ rfl⟩

def zIk:V->Bool
 | .non=>true
 | .bl _=>true
 | .int _=>true
 | .str _=>true
 | _=>false
def eqV:V->V->Bool
 | .non,.non=>true
 | .bl a,.bl b=>a == b
 | .bl a,.int b=>(if a then 1 else 0) == b
 | .int a,.bl b=>a ==(if b then 1 else 0)
 | .int a,.int b=>a == b
 | .str a,.str b=>a == b
 | _,_=>false
theorem ya5{A:bI}{s:ai}{y x:V}{u v:ag}(ry:xD y u)(rx:xD x v)(fy:zIk y=true)(fx:zIk x=true):jO A s u v (eqV y x):=by
 cases y with
 | non =>
  cases ry;cases x with
  | non=>cases rx; exact SeqAt.EqAt.same _
  | bl b=>cases rx; exact SeqAt.EqAt.none_bool b
  | int b=>obtain⟨t,rfl⟩:=rx; exact SeqAt.EqAt.none_int b t
  | str b=>obtain⟨t,rfl⟩:=rx; exact SeqAt.EqAt.none_str b t
  | _=>exact absurd (show false=true from fx) aB
 | bl a =>
  cases ry;cases x with
  | non=>cases rx; exact SeqAt.EqAt.bool_none a
  | bl b=>cases rx; exact SeqAt.EqAt.bool_bool a b
  | int b=>obtain⟨t,rfl⟩:=rx; exact SeqAt.EqAt.bool_int a b t
  | str b=>obtain⟨t,rfl⟩:=rx; exact SeqAt.EqAt.bool_str a b t
  | _=>exact absurd (show false=true from fx) aB
 | int a =>
  obtain⟨t',rfl⟩:=ry;cases x with
  | non=>cases rx; exact SeqAt.EqAt.int_none a t'
  | bl b=>cases rx; exact SeqAt.EqAt.int_bool a t' b
  | int b=>obtain⟨t,rfl⟩:=rx; exact jP a t' b t
  | str b=>obtain⟨t,rfl⟩:=rx; exact jF a t' b t
  | _=>exact absurd (show false=true from fx) aB
 | str a =>
  obtain⟨t',rfl⟩:=ry;cases x with
  | non=>cases rx; exact SeqAt.EqAt.str_none a t'
  | bl b=>cases rx; exact SeqAt.EqAt.str_bool a t' b
  | int b=>obtain⟨t,rfl⟩:=rx; exact jG a t' b t
  | str b=>obtain⟨t,rfl⟩:=rx; exact jQ a t' b t
  | _=>exact absurd (show false=true from fx) aB
 | _=>exact absurd (show false=true from fy) aB
def eqU(x:V)(u:ag):Bool:=match u with
 | .none=>eqV .non x
 | .bool b=>eqV (.bl b) x
 | .int i _=>eqV (.int i) x
 | .str z _=>eqV (.str z) x
 | _=>false
theorem zVy{x y:V}{u:ag}(r:xD y u)(f:zIk y=true):eqU x u=eqV y x:=by
 cases y with
 | non=>cases r; rfl
 | bl b=>cases r; rfl
 | int i=>obtain⟨t,rfl⟩:=r; rfl
 | str z=>obtain⟨t,rfl⟩:=r; rfl
 | _=>exact absurd (show false=true from f) aB
theorem zFq{x:V} : ∀{xs:List V}{us:List ag},yT xs us->xs.all zIk=true->us.any (eqU x)=xs.any λy=>eqV y x
 | _,_,.nil,_=>rfl
 | y::xs,u::us,.cons r t,f=>by
  rw[fo,be] at f;rw[cH,cH,zVy r f.1,zFq t f.2]
theorem zB4{A:bI}{s:ai}{x:V}{v:ag}(rx:xD x v)(fx:zIk x=true):∀{xs:List V}{us:List ag},yT xs us->xs.all zIk=true->∀ u∈us,jO A s u v (eqU x u)
 | _,_,.nil,_=>λu hu=>by cases hu
 | y::xs,u::us,.cons r t,f=>λu' hu=>by
  rw[fo,be] at f;rcases aA.mp hu with rfl | hu
  ·rw[zVy r f.1]; exact ya5 r rx f.1 fx
  ·exact zB4 rx fx t f.2 u' hu
def inV(x:V)(xs:List V):Bool:=xs.any λy=>eqV y x
def rIn(K:ae)(neg:Bool):R2:=λx y H Q=>∃ p xs,y=.ref p/\(SqL K H p xs\/SqT K H p xs)/\zIk x=true/\xs.all zIk=true/\Q (.bl (if neg then !inV x xs else inV x xs)) H
theorem rX:OpR X (compareOp .In) (rIn X.K false):=by
 intro pins s σ H x y v u Q I rx ry h;obtain⟨p,xs,rfl,hq,fx,fs,q⟩:=h;cases ry;rcases hq with hq | hq
 ·obtain⟨its,r,pl,hz⟩:=I.list hq;refine SeqAt.in_listAt (eqU x) pl.isList (λw hw=>zB4 rx fx r fs w (by simpa using hw)) ⟨.bl _,H,I,rfl,?_⟩;rw[show its.toArray.any (eqU x)=its.any (eqU x) by simp,zFq r fs];exact q
 ·obtain⟨its,r,pl,hz⟩:=I.tuple hq;refine kR (eqU x) pl (λw hw=>zB4 rx fx r fs w (by simpa using hw)) ⟨.bl _,H,I,rfl,?_⟩;rw[show its.toArray.any (eqU x)=its.any (eqU x) by simp,zFq r fs];exact q
theorem zKf:OpR X (compareOp .NotIn) (rIn X.K true):=by
 intro pins s σ H x y v u Q I rx ry h;obtain⟨p,xs,rfl,hq,fx,fs,q⟩:=h;cases ry;rcases hq with hq | hq
 ·obtain⟨its,r,pl,hz⟩:=I.list hq;refine SeqAt.notIn_listAt (eqU x) pl.isList (λw hw=>zB4 rx fx r fs w (by simpa using hw)) ⟨.bl _,H,I,rfl,?_⟩;rw[show its.toArray.any (eqU x)=its.any (eqU x) by simp,zFq r fs];exact q
 ·obtain⟨its,r,pl,hz⟩:=I.tuple hq;refine SeqAt.notIn_tupleAt (eqU x) pl (λw hw=>zB4 rx fx r fs w (by simpa using hw)) ⟨.bl _,H,I,rfl,?_⟩;rw[show its.toArray.any (eqU x)=its.any (eqU x) by simp,zFq r fs];exact q
theorem yV:uL X (.builtin "len") (λxs H Q=>∃ p ys,xs=[.ref p]/\(SqL X.K H p ys\/SqT X.K H p ys)/\Q (.int ys.length) H):=by
 intro pins s σ H xs us Q I r h;obtain⟨p,ys,rfl,hq,q⟩:=h;obtain⟨u,rfl,rx⟩:=zIw r;cases rx;have hn:=zG6;rcases hq with hq | hq
 ·obtain⟨its,r',pl,hz⟩:=I.list hq;have hlen:=r'.length;exact Calls.call_len_list pl.isList (by simp only[aE] <;> lia) ⟨.int ys.length,H,I.tok _,⟨s.toks+1,by rw[aE,hlen]⟩,q⟩
 ·obtain⟨its,r',pl,hz⟩:=I.tuple hq;have hlen:=r'.length;exact len_tuple pl (by simp only[aE] <;> lia) ⟨.int ys.length,H,I.tok _,⟨s.toks+1,by rw[aE,hlen]⟩,q⟩
theorem zAu:uL X (.builtin "len") (λxs H Q=>∃ z,xs=[.str z]/\z.length<=sizeLine/\Q (.int z.length) H):=by
 intro pins s σ H xs us Q I r h;obtain⟨z,rfl,hz,q⟩:=h;obtain⟨u,rfl,t,rfl⟩:=zIw r;have hn:=zG6;exact len_str (by lia) ⟨.int z.length,H,I.tok _,⟨_,rfl⟩,q⟩
theorem uL.or{f:ag}{r r':List V->Hp->VK->Prop}(h:uL X f r)(h':uL X f r'):uL X f (λxs H Q=>r xs H Q\/r' xs H Q):=by
 intro pins s σ H xs us Q I rs q;rcases q with q | q
 ·exact h pins s σ H xs us Q I rs q
 ·exact h' pins s σ H xs us Q I rs q
theorem zD1:uL X (.type "list") (λxs H Q=>∃ p ys,xs=[.ref p]/\(SqL X.K H p ys\/SqT X.K H p ys)/\∀ l,H l=none->Q (.ref l) (upd H l (.lst ys))):=by
 intro pins s σ H xs us Q I r h;obtain⟨p,ys,rfl,hq,q⟩:=h;obtain⟨u,rfl,rx⟩:=zIw r;cases rx;have fin:∀(its:List ag),yT ys its->ys.length<=sizeLine->∀(h':aX)(c':Nat),(∀ b o',s.heap.get? b=some o'->h'.get? b=some o') ->
   h'.get? s.heap.objs.size=some { cls:=.type "list",dict:=none,data:=.seq its.toArray c',slots:=#[] }->EP X pins σ Q (.ref s.heap.objs.size) { s with heap:=h' }:=λits r' hz h' c' kp e =>
  ⟨.ref s.heap.objs.size,_,I.laid (t':=s.toks) kp (am _) (show xC X.prog X.w _ h' _ (.lst ys) from⟨hz,its,c',r',e⟩),rfl,q _ (I.hok.fresh (am _))⟩
 rcases hq with hq | hq
 ·obtain⟨its,r',pl,hz⟩:=I.list hq;have hlen:=r'.length;obtain⟨o,ho,hc,n,hd⟩:=pl.isList;exact call_list_seq p (.inl rfl) ho hc hd (λh' c' kp e=>fin its r' hz h' c' kp e) (by simp only[aE] <;> lia)
 ·obtain⟨its,r',pl,hz⟩:=I.tuple hq;have hlen:=r'.length;obtain⟨o,ho,hc,n,hd⟩:=pl;exact call_list_seq p (.inr rfl) ho hc hd (λh' c' kp e=>fin its r' hz h' c' kp e) (by simp only[aE] <;> lia)
theorem zCy:uL X (.type "tuple") (λxs H Q=>∃ p ys,xs=[.ref p]/\((SqL X.K H p ys/\∀ l,H l=none->Q (.ref l) (upd H l (.tup ys)))\/(SqT X.K H p ys/\Q (.ref p) H))):=by
 intro pins s σ H xs us Q I r h;obtain⟨p,ys,rfl,h⟩:=h;obtain⟨u,rfl,rx⟩:=zIw r;cases rx;rcases h with ⟨hq,q⟩ | ⟨hq,q⟩
 ·obtain⟨its,r',pl,hz⟩:=I.list hq;have hlen:=r'.length;refine call_tuple_list pl.isList (λh' kp=>?_) (by simp only[aE] <;> lia);have I1:Inv X pins σ H { s with heap:=h' }:=I.kept (t':=s.toks) kp;have I2:Inv X pins σ (upd H h'.objs.size (.tup ys)) { s with heap:=h'.push { cls:=.type "tuple",data:=.seq its.toArray } } :=
   I1.laid (t':=s.toks) (λb o e=>ah _ e) (am _) (show xC X.prog X.w _ _ _ (.tup ys) from⟨hz,its,r',nq _ _⟩)
  exact⟨.ref h'.objs.size,_,I2,U,q _ (I1.hok.fresh (am _))⟩
 ·obtain⟨its,r',pl,hz⟩:=I.tuple hq;exact call_tuple_same pl ⟨.ref p,H,I,rfl,q⟩

def tyV(K:ae)(T:String)(x:V)(H:Hp):Prop:=match x with
 | .str _=>T = "str"
 | .int _=>T = "int"
 | .ref p=>(T = "list" /\ ∃ xs,SqL K H p xs)\/(T = "tuple" /\ ∃ o,K.lookup p=some o/\o.cls=.type "tuple" /\ o.dict=none) \/
   (T = "dict" /\ ((∃ kvs,H p=some (.dK kvs))\/∃ kvs,H p=some (.dT kvs)))\/(T = "set" /\ ∃ S n,H p=some (.set S n))
 | _=>False
theorem yc3{pins:List (af×cD)}{σ:St}{H:Hp}{s:ai}{T:String}{x:V}{v:ag}(I:Inv X pins σ H s)(r:xD x v)(ty:tyV X.K T x H) :
  s.TypeIs v T/\∀ a,v=.ref a->∃ ob,s.heap.get? a=some ob/\ob.dict=none:=by
 cases x with
 | str z =>
  obtain⟨t,rfl⟩:=r;cases (show T = "str" from ty);exact⟨typeIs_str s z t,λ_ e=>nomatch e⟩
 | int i =>
  obtain⟨t,rfl⟩:=r;cases (show T = "int" from ty);exact⟨typeIs_int s i t,λ_ e=>nomatch e⟩
 | ref p =>
  cases r;rcases ty with ⟨rfl,xs,hq⟩ | ⟨rfl,o,hk,hc,hd⟩ | ⟨rfl,hk⟩ | ⟨rfl,S,n,hk⟩
  ·obtain⟨its,_,pl,_⟩:=I.list hq;refine⟨pl.isList.typeIs,λa e=>?_⟩;cases e;obtain⟨o,n,e,c,hd,_⟩:=pl;exact⟨o,e,hd⟩
  ·refine⟨⟨o,I.kIn p o hk,hc⟩,λa e=>?_⟩;cases e;exact⟨o,I.kIn _ o hk,hd⟩
  ·have z:∃ o,s.heap.get? p=some o/\o.ExactDict:=by
    rcases hk with ⟨kvs,hk⟩ | ⟨kvs,hk⟩
    ·obtain⟨_,_,_,_,o,_,_,e,ex,_⟩:=I.hok p _ hk;exact⟨o,e,ex⟩
    ·obtain⟨_,_,_,_,o,_,_,e,ex,_⟩:=I.hok p _ hk;exact⟨o,e,ex⟩
   obtain⟨o,e,ex⟩:=z;refine⟨⟨o,e,ex.1⟩,λa e2=>?_⟩;cases e2;exact⟨o,e,ex.2.1⟩
  ·obtain⟨o,_,_,_,e,ex,_⟩:=I.hok p _ hk;refine⟨⟨o,e,ex.1⟩,λa e2=>?_⟩;cases e2;exact⟨o,e,ex.2.1⟩
 | _=>exact bF ty
def tBM(K:ae)(T:String)(r:V->List V->Hp->VK->Prop)(to:TE)(t:TA):TE:=λσ H Q=>to σ H λx H1=>tyV K T x H1/\t σ H1 λxs H2=>r x xs H2 Q
variable{o e:bx}{es:List bx}{to:TE}{t:TA}{name:az}{apos cpos:fh}{T id:String}{r:V->List V->Hp->VK->Prop}
theorem zW1(pa:PlainAttrs T)(slot:Slot T name id)(hty:typeOf (.builtin id)=pure (.type "method_descriptor"))(hm:MtR X id r)(ho:PE X o to)(ha:PA X (e::es) t)
  (hbase:attributeBase o name X.env (eval o X.env)=eval o X.env:=by rfl)
  (hfew:((backTo cpos (starEach (e::es) X.env)).all (λx=>!x.1)&&(backToKw cpos (keywordEach [] X.env)).all (λx=>x.1.isSome)
   && decide ((e::es).length+([]:List g8).length+(if ([]:List g8).isEmpty then 0 else 1)<30))=true:=by rfl)
  (hline:(apos.endLine == cpos.line)=true:=by rfl) (hs:starEach (e::es) X.env=(false,eval e X.env)::starEach es X.env:=by rfl) (hplain:(backTo cpos (starEach es X.env)).any (·.1)=false:=by rfl) :
  PE X (.Call (.Attribute o name apos) (e::es) [] cpos) (tBM X.K T r to t):=by
 intro pins s σ H Q I h;refine wpAny_Call_method_late hbase hfew hline rfl (thn (ho pins s σ H _ I h) λv s1 ⟨x,H1,I1,r1,ty,q1⟩=>?_);obtain⟨h1,h2⟩:=yc3 I1 r1 ty;exists T,id,pa,slot,hty,h1,h2;have hA:=ha cpos pins s1 σ H1 _ I1 q1;rw[hs] at hA ⊢;refine iA (by show(false||(backTo cpos (starEach es X.env)).any (·.1))=false; rw[hplain] <;> rfl) (fY ?_);exact thn hA λus s2 ⟨vs,H2,I2,r2,q2⟩=>hm pins s2 σ H2 x vs v us Q I2 r1 r2 q2
end
end L2

namespace L2
open PySem PySem.Spec PyProof.Rows

def MtM(X:Cx)(id:String)(r:V->List V->Hp->VK->Prop):Prop :=
 ∀(pins:List (af×cD))(s:ai)(σ:St)(H:Hp)(x:V)(xs:List V)(v:ag)(us:List ag)(Q:VK),Inv X pins σ H s->xD x v->yT xs us->r x xs H Q ->
  wpAny (model X.prog X.w) X.A (call (.builtin id) (v::us)) (EP X pins σ Q) X.xe s

theorem yT.one:∀{x:V}{us:List ag},yT [x] us->∃ u,us=[u]/\xD x u
 | _,_,.cons r .nil=>⟨_,rfl,r⟩
theorem yT.two:∀{x y:V}{us:List ag},yT [x,y] us->∃ u v,us=[u,v]/\xD x u/\xD y v
 | _,_,_,.cons r (.cons q .nil)=>⟨_,_,rfl,r,q⟩
section
variable{X:Cx}{pins:List (af×cD)}{σ:St}{H:Hp}{s:ai}{l b:af}{xs ys zs:List V}

theorem Inv.lset{its its':List ag}{n:Nat}{f:Array ag->Array ag}{t':Nat}(I:Inv X pins σ H s)(hH:H l=some (.lst xs))
  (e:s.heap.get? l=some { cls:=.type "list",data:=.seq its.toArray n }) (hf:f its.toArray=its'.toArray) (hv:yT ys its') (hz:ys.length<=sizeLine) :
  Inv X pins σ (upd H l (.lst ys)) { s with heap:=s.heap.update l (bO f),toks:=t' }:=by
 have q:=PySem.IsL.update e f;rw[hf] at q;refine I.write (x:=l) (e:=l) (by rw[hH]; exact trivial) (.inl rfl) (λb' u hb hu=>(aZ s.heap (bO f) (cz hb)).trans hu) ⟨_,q⟩ ?_;exact⟨hz,its',_,hv,q⟩
theorem Inv.lnew{its:List ag}{t':Nat}(I:Inv X pins σ H s)(hv:yT ys its)(hz:ys.length<=sizeLine) :
  Inv X pins σ (upd H s.heap.objs.size (.lst ys)) { s with heap:=s.heap.push { cls:=.type "list",data:=.seq its.toArray },toks:=t' } :=
 I.laid (λ_ _ q=>ah _ q) (am _) ⟨hz,its,0,hv,ap _ rfl⟩
theorem Inv.fresh(I:Inv X pins σ H s):H s.heap.objs.size=none:=I.hok.fresh (am _)
theorem Inv.lstM(I:Inv X pins σ H s)(hH:H l=some (.lst xs)):xs.length<=sizeLine/\∃(its:List ag)(n:Nat),yT xs its/\xs.length=its.length/\s.heap.get? l=some { cls:=.type "list",data:=.seq its.toArray n }:=by
 obtain⟨z,its,n,r,e⟩:=I.hok l _ hH;exact⟨z,its,n,r,r.length,e⟩

theorem zVc{n:Nat}(h:n<=sizeLine):fq n=false:=by
 unfold fq;exact decide_eq_false (by lia)
end

section
variable{X:Cx}

def zP5:V->List V->Hp->VK->Prop:=λx vs H Q=>∃ l xs y,x=.ref l/\vs=[y]/\H l=some (.lst xs)/\xs.length<sizeLine/\Q .non (upd H l (.lst (xs++[y])))
theorem zFo:MtM X "list.append" zP5:=by
 intro pins s σ H x vs v us Q I rx rv h;obtain⟨l,xs,y,rfl,rfl,hH,hz,q⟩:=h;cases rx;obtain⟨u,rfl,ru⟩:=rv.one;obtain⟨z,its,n,r,hl,e⟩:=I.lstM hH;refine call_meets F.slot_list_append ⟨_,e,rfl⟩ F.entry_list_append (F.args_list_append_2 _ _) (PySem.list_append l its.toArray n u (by rw[aE]; lia)) ⟨e,?_⟩;refine⟨.non,_,I.lset (its':=its++[u]) hH e (by simp) (r.append (.cons ru .nil)) ?_,U,q⟩;rw[aC,dL];lia

def zW4:V->List V->Hp->VK->Prop:=λx vs H Q=>∃ l b xs zs,x=.ref l/\vs=[.ref b]/\H l=some (.lst xs)/\H b=some (.lst zs)/\xs.length+zs.length<=sizeLine/\Q .non (upd H l (.lst (xs++zs)))
theorem yb1:MtM X "list.extend" zW4:=by
 intro pins s σ H x vs v us Q I rx rv h;obtain⟨l,b,xs,zs,rfl,rfl,hH,hB,hz,q⟩:=h;cases rx;obtain⟨u,rfl,ru⟩:=rv.one;cases ru;obtain⟨z,its,n,r,hl,e⟩:=I.lstM hH;obtain⟨z2,its2,n2,r2,hl2,e2⟩:=I.lstM hB;have hsz:its.toArray.size+its2.toArray.size<=sizeLine:=by rw[aE,aE]; lia
 have hlong:¬ (!its.toArray.isEmpty&&fq (its.toArray.size+its2.toArray.size))=true:=by
  rw[zVc hsz,jd];exact aB
 refine call_meets F.slot_list_extend ⟨_,e,rfl⟩ F.entry_list_extend (F.args_list_extend_2 _ _)
  (AutoSeq1.list_extend_list_list_0 l its.toArray n b its2.toArray n2 hlong (by rw[aE]; lia) (by lia)) ⟨e,e2,?_⟩
 refine⟨.non,_,I.lset (its':=its++its2) hH e (by simp) (r.append r2) ?_,U,q⟩;rw[aC];lia

def ye9:R2:=λx y H Q=>∃ l b xs zs,x=.ref l/\y=.ref b/\H l=some (.lst xs)/\H b=some (.lst zs)/\xs.length+zs.length<=sizeLine/\∀ p,H p=none->Q (.ref p) (upd H p (.lst (xs++zs)))
theorem zAa:OpR X (binaryOp .Add) ye9:=by
 intro pins s σ H x y v u Q I rx ry h;obtain⟨l,b,xs,zs,rfl,rfl,hH,hB,hz,q⟩:=h;cases rx;cases ry;obtain⟨z,its,n,r,hl,e⟩:=I.lstM hH;obtain⟨z2,its2,n2,r2,hl2,e2⟩:=I.lstM hB;refine PySem.P.add_list e e2 ?_ (by rw[aE,aE]; lia);have ea:its.toArray++its2.toArray=(its++its2).toArray:=by simp
 rw[ea];exact⟨.ref _,_,I.lnew (t':=s.toks) (r.append r2) (by rw[aC]; lia),rfl,q _ I.fresh⟩
theorem zX7{α:Type}(xs:List α)(k:Nat):(bE k xs).flatten.length=k*xs.length:=by
 induction k with
 | zero=>simp
 | succ k ih=>rw[gB,kh,aC,ih,nF,Nat.add_comm]
end


end L2

namespace Att
open PySem PySem.W PySem.Calls PyProof.Rows

theorem zGl{P:eL}{h:aX} : ∀(ns:List Int)(vs:List ag),WellAll P h vs (ns.map nW)->lO vs ns:=by
 intro ns
 induction ns with
 | nil =>
  intro vs w;rw[eA] at w;cases w;exact .nil
 | cons n ns ih =>
  intro vs w;rw[aN] at w;cases w with
  | cons a b =>
   cases a;exact .cons _ _ (ih _ b)

theorem zSm{l:iR}{n:Nat}(hn:l.most=some n){P:eL}{h:aX}{args:List WData}{vals:List ag}
  (hpre:l.row.toRowW.claim.pre args=true) (hwl:WellAll P h vals args) :
  ∃ a vs ns,vals=[aI a]/\args=[WData.list (ns.map nW)]/\h.get? a=some { cls:=.type "list",data:=.seq vs.toArray }/\lO vs ns/\ns.length<=n:=by
 have hsh:WShape.hasAll [] args [.list .int]=true:=(pre_splitW hpre).1;have hc:l.pre.holds [] { args:=args }=true:=(pre_splitW hpre).2;obtain⟨d,r,rfl,h1,h2⟩:=hasAllW_cons hsh;obtain rfl:=hasAllW_nil h2;obtain⟨xs,rfl,h3⟩:=hasW_list h1;obtain⟨ns,rfl⟩:=items_int h3;have hlen:ns.length<=n:=by
  unfold OpenLaw.pre at hc;have h4:(WTm.not (.lt (.lit (.int (n:Int))) (.len (.arg 0)))).holds [] { args:=[.list (ns.map .int)] }=true:=by
   have h4:=(holds_andW hc).1;rw[hn] at h4;exact h4
  have h5:=condW_of h4 (w_not (w_lt w_lit (w_len_list (w_arg rfl))));rw[aa] at h5;refine kT λq=>?_;have q':(n:Int)<((ns.length:Nat):Int):=by lia
  first
   | (rw[decide_eq_true q'] at h5; exact absurd h5 (by decide))
   | (simp at h5; lia)
 cases hwl with
 | cons w1 w2 =>
  cases w2;cases w1 with
  | list ho hall=>exact⟨_,_,ns,U,U,ho,zGl ns _ hall,hlen⟩

theorem zQd(l:iR)(args:List WData):l.row.toRowW.claim.post args (.bool true) args=true :=
 postW_of (r:=l.row.toRowW) (X:=(true == true))
  (show nQ [] (.bool true) .bool=true by first | rfl | decide | simp[nQ,WShape.arms,WShape.armsAll])
  (show(WTm.eq .res (.lit (.bool true))).value [] { args:=args,res:=some (.bool true),after:=args }=some (.bool (true == true)) from w_eq_bool (w_res rfl) w_lit) rfl

theorem attach_call{l:iR}{n:Nat}{q:aK}{loose:List az}{XP:(az->Option ag)->aX->Prop}{YP:aU->aX->Prop}{d:DefRec}
  (hn:l.most=some n) (hdf:d.params.defaults=[])
  (call:∀(w:aU)(s₀ s₁:ai)(mg mb:az->Option ag)(fa:af)(o:cD)(pm cd doc:ag)(a:af)(vs:List ag)(ns:List Int),
   Ground q loose [] XP w s₀ mg mb s₁.heap->YP w s₁.heap ->
   s₁.heap.get? fa=some o->o.data=.func (docDef d.name d.params d.body d.scope pm cd doc)->s₁.heap.CodeRec cd d.name->mg d.name=some (.ref fa) ->
   s₁.heap.get? a=some { cls:=.type "list",data:=.seq vs.toArray }->lO vs ns->ns.length<=n->s₁.gens = #[] ->
   codeAny (model l.prog w) callerA (.call (.ref fa) ⟨[.ref a],[]⟩) (λr s'=>r=.ok (.ret (.bool true))/\OldK s₁.heap s'.heap/\s'.os=s₁.os/\gE s'.gens) s₁) :
  ng q loose XP YP l.row.toRowW d [] (λf vs=>lS f vs):=by
 intro w s₀ s₁ mg mb G Y fa o pm cd doc dV kV ho hd hcd hD hmg hg args vals as hpre hlay hrd hwl hlo;obtain rfl:dV=.none:=Dflts.none hD hdf;obtain rfl:kV=.none:=Dflts.noKw hD;obtain⟨a,vs,ns,rfl,rfl,hobj,hints,hlen⟩:=zSm hn hpre hwl;refine enter_call (codeAny_mono (call w s₀ s₁ mg mb fa o pm cd doc a vs ns G Y ho (fd_plain hd) hcd hmg hobj hints hlen hg) λr s' hq=>?_);obtain⟨rfl,h2,h3,h4⟩:=hq;exact⟨.inl ⟨.bool true,.bool true,[],rfl,λ_=>rfl,.bool true,zQd l _,λ_=>⟨nU,λ_ hm=>(nomatch hm)⟩⟩,h2,h3,h4⟩

section
variable{prog:aK}{w:aU}{A:bI}{E:ag->ai->Prop}{s:ai}{K:ae}

end
end Att

namespace L2
open PySem PySem.Spec PyProof.Rows

theorem zJr:∀{vs:List ag}{ns:List Int},lO vs ns->yT (ns.map V.int) vs
 | _,_,.nil=>.nil
 | _,_,.cons n t h=>.cons ⟨t,rfl⟩ (zJr h)

def Only(H:Hp):Prop:=∀ b,H b=none\/∃ o xs,H b=some (.frz o (.lst xs))

theorem zT0{P:aK}{w:aU}{K:ae}{mg mb:az->Option ag}{CX:CXT}{k:Nat}{fa a:af}{fd:bT}{x:az}{sp:Sp}{s₁:ai}{vs:List ag}{ns:List Int}
  (KX:K.In s₁.heap) (hns:s₁.heap.Ns mainGlobals mg) (hb:s₁.heap.Ns builtinsNs mb) (hbb:∀ x:az,x ≠ "__name__" -> mb x=bootBuiltins x) (hlim:s₁.heap.NoLimit) (hg:s₁.gens = #[])
  (ha:s₁.heap.get? a=some { cls:=.type "list",data:=.seq vs.toArray }) (hi:lO vs ns) (hl:ns.length<=sizeLine) (hr:rZ k callerA)
  (F:∀ base:aX,K.In base->base.Ns mainGlobals mg->yY P w K mg base CX k fa fd [x] sp) (hbind:∀(s:ai)(u:ag),iz s fd ⟨[u],[]⟩ [(x,u)])
  (hsp:∀ H:Hp,Only H->SqL K H a (ns.map V.int)->sp [.ref a] H (λv _=>v=.bl true) λ_ _ _=>False)
  (hCX:∀ H e s',CX [] H s₁ (λ_ _ _=>False) e s'->False) :
  codeAny (model P w) callerA (.call (.ref fa) ⟨[.ref a],[]⟩) (λr s'=>r=.ok (.ret (.bool true))/\OldK s₁.heap s'.heap/\s'.os=s₁.os/\gE s'.gens) s₁:=by
 have rv:=zJr hi;have lenV:=hi.length;have core:∀ H:Hp,Only H->SqL K H a (ns.map V.int)->HOk P w H s₁.heap->(∀ b,H b≠none->b=a)->(H a≠none->K.lookup a=none) ->
   codeAny (model P w) callerA (.call (.ref fa) ⟨[.ref a],[]⟩) (λr s'=>r=.ok (.ret (.bool true))/\OldK s₁.heap s'.heap/\s'.os=s₁.os/\gE s'.gens) s₁:=by
  intro H hO hS hok hA hK;have base_of:∀{b:af}{o:cD},s₁.heap.get? b=some o->H b=none->(zUk s₁.heap H).get? b=some o:=λe n=>zTp e n;have noA:∀{b:af}{o:cD}{es:Array dm}{ep:Nat},s₁.heap.get? b=some o->o.data=.dict es ep->H b=none:=λ{b o es ep} e d=>by
   cases q:H b with
   | none=>rfl
   | some u =>
    have e':b=a:=hA b (by rw[q]; simp);subst e';rw[ha] at e; cases e;have d':Data.seq vs.toArray _=Data.dict es ep:=d;cases d'
  have nsK:∀{b:af}{m:az->Option ag},s₁.heap.Ns b m->(zUk s₁.heap H).Ns b m:=λ{b m} ⟨o,es,ep,e,d,r⟩=>⟨o,es,ep,base_of e (noA e d),d,r⟩;have hKb:K.In (zUk s₁.heap H):=λb o e=>base_of (KX b o e) (by
   cases q:H b with
   | none=>rfl
   | some u =>
    have e':b=a:=hA b (by rw[q]; simp);subst e';rw[hK (by rw[q]; simp)] at e; cases e)
  have hM:Mod K mg (zUk s₁.heap H):=⟨hKb,nsK hns,⟨mb,nsK hb,hbb⟩,let ⟨mc,h1,h2⟩:=hlim;⟨mc,nsK h1,h2⟩⟩;have e0:zUt P w K mg (zUk s₁.heap H) callerA [] s₁ H:=⟨rfl,hM,λb o e=>zW9 e,ix (zQe _ _),trivial,λb hb=>absurd (show b∈([]:List af) from hb) (by simp),hok,.of_eq hg⟩;refine codeAny_mono ((F _ hKb (nsK hns)).run callerA [] s₁ H ⟨[.ref a],[]⟩ [.ref a] [.ref a] _ _ hr e0 (hbind s₁ (.ref a)) (.cons rfl .nil) (hsp H hO hS)) λr s' h=>?_;cases r with
  | error e=>exact(hCX H e s' h).elim
  | ok fl =>
   cases fl with
   | next=>exact bF h
   | brk=>exact bF h
   | cont=>exact bF h
   | ret u =>
    obtain⟨v,H',os,bare,un,hok',r',q⟩:=h;have q':v=.bl true:=q;subst q';obtain rfl:u=iu true:=r';refine⟨U,OldK.of_keep λb o e=>?_,os,bare⟩;cases q:H b with
    | none=>exact un.keep b o e q (by intro z; exact absurd (show b∈([]:List af) from z) (by simp)) (by simp)
    | some u =>
     rcases hO b with z | ⟨ob,xs,z⟩
     ·rw[q] at z; cases z
     ·have z2:=un.frzs b ob _ z;obtain⟨e1,_⟩:=hok b _ z;obtain⟨e2,_⟩:=hok' b _ z2;rw[e] at e1; cases e1;exact e2
 cases hk:K.lookup a with
 | some o =>
  have e:=KX a o hk;rw[ha] at e;cases e;refine core (λ_=>none) (λ_=>.inl rfl) (.inr ⟨_,vs.toArray,_,hk,rfl,rfl,rfl,by rw[aE,lenV]; exact hl,by simpa using rv⟩) (λb u z=>by have z':(none:Option HO)=some u:=z; cases z') (λb z=>absurd rfl z) λz=>absurd rfl z
 | none =>
  refine core (λb=>if b=a then some (.frz { cls:=.type "list",data:=.seq vs.toArray } (.lst (ns.map V.int))) else none) (λb=>?_) (.inl (.inr ⟨{ cls:=.type "list",data:=.seq vs.toArray },if_pos rfl⟩)) (λb u z=>?_) (λb z=>?_) λ_=>hk
  ·by_cases hb:b=a
   ·exact .inr ⟨_,_,if_pos hb⟩
   ·exact .inl (if_neg hb)
  ·by_cases hb:b=a
   ·have z':=(if_pos hb).symm.trans z;cases z';subst hb;exact⟨ha,by rw[aa]; exact hl,vs,_,rv,ha⟩
   ·have z':=(if_neg hb).symm.trans z;cases z'
  ·by_cases hb:b=a
   ·exact hb
   ·exact absurd (if_neg hb) z
end L2

namespace L2
open PySem PySem.Spec PyProof.Rows

end L2

namespace L2
open PySem PySem.Spec PyProof.Rows


abbrev CX0:CXT:=λ_ _ _ _ _ _=>False
abbrev E0:XK:=λ_ _ _=>False
theorem zR7{X:Cx} : zLt CX0 X E0:=λ_ _ _ _ _ _ _ h=>h.elim

structure Fun(K:ae)(x qual:az)(st:bP)(f:af)(fd:bT):Prop where
 ex:∃(oc:ag)(od:Option af)(kV doc pm:ag)(an:Option af)(cdv ct:ag)(osl:Array (Option ag)),
  fd=bQ x qual (xS st) (xH st) (zI st) .none kV doc pm an cdv ct/\K.lookup f=some ⟨oc,od,.func fd,osl⟩/\eU K cdv qual=true
 kp:b9 K (.ref f)=true
section
variable{P:aK}{w:aU}{K:ae}{mg:az->Option ag}{base:aX}
theorem Fun.ok{x qual:az}{st:bP}{f:af}{fd:bT}{N ps:List az}{k:Nat}{sp:Sp}(F:Fun K x qual st f fd)(S:zR N ps (zI st))(len:∀ vs H Q E,sp vs H Q E->vs.length=ps.length)
  (hbody:∀(cdv:ag)(A:bI)(outer:List gq)(s:ai)(H:Hp)(vs:List V)(Q:VK)(E:XK),rZ k (A.deeper (envOfC qual (zI st) s.heap.objs.size f cdv))->sp vs H Q E ->
   ∃ t,PSs (cxOf CX0 P w K mg base N qual (zI st) f cdv A outer s H E).nox (xH st) t/\t { nx:=λ_ H'=>Q .non H',rt:=Q } (start N vs) H):yY P w K mg base CX0 (k+1) f fd ps sp:=by
 obtain⟨oc,od,kV,doc,pm,an,cdv,ct,osl,rfl,lk,hcd⟩:=F.ex;refine zZr lk hcd S len λA outer s H vs Q E hr hsp=>?_;obtain⟨t,h,q⟩:=hbody cdv A outer s H vs Q E hr hsp;exact⟨t,h.nox,q⟩
theorem Fun.binds{x qual:az}{st:bP}{f:af}{fd:bT}{ps:List az}(F:Fun K x qual st f fd)
  (h:∀(kV doc pm:ag)(an:Option af)(cdv ct:ag)(us:List ag),us.length=ps.length->bindArgs (bQ x qual (xS st) (xH st) (zI st) .none kV doc pm an cdv ct) ⟨us,[]⟩=pure (ps.zip us)):zCe K fd ps []:=by
 obtain⟨oc,od,kV,doc,pm,an,cdv,ct,osl,rfl,lk,hcd⟩:=F.ex;exact .all (h kV doc pm an cdv ct)
theorem zQ3{x qual:az}{st:bP}{f:af}{oc:ag}{od an:Option af}{osl:Array (Option ag)}{kV doc pm cdv ct:ag}(l:K.lookup f=some ⟨oc,od,.func (bQ x qual (xS st) (xH st) (zI st) .none kV doc pm an cdv ct),osl⟩)
  (c:eU K cdv qual=true) (k:b9 K (.ref f)=true):Fun K x qual st f (bQ x qual (xS st) (xH st) (zI st) .none kV doc pm an cdv ct):=⟨⟨oc,od,kV,doc,pm,an,cdv,ct,osl,rfl,l,c⟩,k⟩
end
theorem zW{A:bI}{k:Nat}(hr:rZ k A):A.units+1<cLine:=fB (Nat.add_le_add_left (by decide:1<=64) _) hr.units
theorem zV{n:Nat}(h:n<=1000):n<sizeLine:=fB h (by decide)

section
variable{X:Cx}
theorem pv(i:Nat){x:az}{pos:fh}(hN:X.N[i]?=some x:=by rfl)(hv:Vis X.env.scope x:=by first | exact cT rfl | exact kU (cT rfl) | exact kU (kU rfl))(hd:(x ==("__debug__" : az))=false:=by decide)
  (hcd:(x ==("__classdict__" : az))=false:=by decide):PE X (.Name x pos) (zMr i):=yb2 hN hv hd hcd
end

theorem yW{A B:Prop}(h:B):if false=true then A else B:=by
 rw[if_neg aB];exact h
theorem xP{A B:Prop}(h:A):if true=true then A else B:=by
 rw[if_pos rfl];exact h
theorem ite2{c A B:Prop}[Decidable c](h1:c->A)(h2:¬ c->B):if c then A else B:=by
 by_cases h:c
 ·rw[if_pos h];exact h1 h
 ·rw[if_neg h];exact h2 h
def Same(H H':Hp):Prop:=∀ b o,H b=some o->H' b=some o
theorem Same.refl(H:Hp):Same H H:=λ_ _ h=>h
theorem Same.trans{H H1 H2:Hp}(a:Same H H1)(b:Same H1 H2):Same H H2:=λc o h=>b c o (a c o h)
theorem Same.free{H H':Hp}(e:Same H H'){l:af}(h:H' l=nM):H l=nM:=by
 cases q:H l with
 | none=>rfl
 | some o =>
  rw[e l o q] at h;cases h
theorem Same.seq{K:ae}{H H':Hp}{a:af}{xs:List V}(e:Same H H')(h:SqL K H a xs):SqL K H' a xs:=by
 rcases h with (h | ⟨o,h⟩) | h
 ·exact .inl (.inl (e _ _ h))
 ·exact .inl (.inr ⟨o,e _ _ h⟩)
 ·exact .inr h

end L2

namespace Sea
def rY(ns:List Int):Nat:=ns.foldl (λg n=>e7 g n.natAbs) 0
theorem zNd:∀(ns:List Int)(g:Nat),ns.foldl (λg n=>e7 g n.natAbs) g ∣ g/\∀ n∈ns,ns.foldl (λg n=>e7 g n.natAbs) g ∣ n.natAbs
 | [],g=>⟨Nat.dvd_refl g,λ_ h=>nomatch h⟩
 | x::r,g=>by
  obtain⟨h1,h2⟩:=zNd r (e7 g x.natAbs);refine⟨mW h1 (Nat.gcd_dvd_left _ _),λn hn=>?_⟩;rcases aA.mp hn with e | e
  ·rw[e];exact mW h1 (Nat.gcd_dvd_right _ _)
  ·exact h2 n e
theorem zB1{ns:List Int}{n:Int}(h:n∈ns):rY ns ∣ n.natAbs:=(zNd ns 0).2 n h
theorem rR{ns:List Int}{n:Int}(h:n∈ns):(rY ns:Int) ∣ n:=Int.ofNat_dvd_left.mpr (zB1 h)
theorem zNz{d:Nat} : ∀(ns:List Int)(g:Nat),d ∣ g->(∀ n∈ns,d ∣ n.natAbs)->d ∣ ns.foldl (λg n=>e7 g n.natAbs) g
 | [],_,h,_=>h
 | x::r,g,h,hr=>zNz r _ (Nat.dvd_gcd h (hr x cA)) λn hn=>hr n (bJ _ hn)
theorem zUe{d:Nat}{ns:List Int}(h:∀ n∈ns,d ∣ n.natAbs):d ∣ rY ns:=zNz ns 0 (Nat.dvd_zero d) h
theorem zIs{ns:List Int}{n:Int}(h:n∈ns)(h0:n≠0):0<rY ns:=by
 rcases Nat.eq_zero_or_pos (rY ns) with e | e
 ·have q:=zB1 h;rw[e,Nat.zero_dvd] at q;lia
 ·exact e
def zP0(ns:List Int):List Int:=ns.map λn=>n/(rY ns:Int)
theorem qA{ns:List Int}{n:Int}(h:n∈ns):n/(rY ns:Int)*(rY ns:Int)=n:=Int.ediv_mul_cancel (rR h)
theorem zJ0{ns:List Int}(h:0<rY ns):rY (zP0 ns)=1:=by
 have key:rY ns*rY (zP0 ns) ∣ rY ns:=by
  refine zUe λn hn=>?_;have h1:rY (zP0 ns) ∣ (n/(rY ns:Int)).natAbs:=zB1 (aF.mpr ⟨n,hn,rfl⟩);obtain⟨c,hc⟩:=h1;have h2:=congrArg Int.natAbs (qA hn);rw[je,Int.natAbs_natCast,hc] at h2;rw[<- h2];exact⟨c,by rw[ko,mX]⟩
 obtain⟨c,hc⟩:=key;have h3:rY ns*(rY (zP0 ns)*c)=rY ns*1:=by
  rw[<- mX,<- hc,Nat.mul_one]
 have h4:=Nat.eq_of_mul_eq_mul_left h h3;exact Nat.dvd_one.mp ⟨c,h4.symm⟩
theorem zOh(x y:Int):rY [x,y]=e7 x.natAbs y.natAbs:=by
 show e7 (e7 0 x.natAbs) y.natAbs=_;rw[Nat.gcd_zero_left]
end Sea
namespace Sea
structure zWk(t b x y:Int):Prop where
 pos:1<=y
 low:e7 x.natAbs y.natAbs=1
 eq:x*b=y*t
 xle:x.natAbs<=t.natAbs
 yle:y.natAbs<=b.natAbs
theorem qI(n:Int){g:Int}(hg:0<g)(h:g ∣ n):(n/g).natAbs<=n.natAbs:=by
 obtain⟨c,hc⟩:=h;subst hc;rw[Int.mul_ediv_cancel_left c (by lia),je];exact Nat.le_mul_of_pos_left _ (by lia)
theorem zYw(t:Int){b:Int}(hb:b≠0):∃ x y:Int,(zP0 (if b<0 then [t,b].map (λn=>-n) else [t,b]))=[x,y]/\zWk t b x y:=by
 have key:∀(t b:Int),0<b->∃ x y:Int,zP0 [t,b]=[x,y]/\zWk t b x y:=λt b hb=>by
  have gp:0<rY [t,b]:=zIs (n:=b) (by simp) (by lia);have e1:=qA (ns:=[t,b]) (n:=t) (by simp);have e2:=qA (ns:=[t,b]) (n:=b) (by simp);have gI:(0:Int)<(rY [t,b]:Int):=by lia
  refine⟨t/(rY [t,b]:Int),b/(rY [t,b]:Int),U,?_,?_,?_,qI t gI (rR (by simp)),qI b gI (rR (by simp))⟩
  ·exact Int.ediv_pos_of_pos_of_dvd hb (iB gI) (rR (by simp))
  ·have h3:=zJ0 gp;rw[<- zOh];exact h3
  ·generalize (rY [t,b]:Int)=g at e1 e2
   calc t/g*b=t/g*(b/g*g):=by rw[e2]
    _=b/g*(t/g*g):=by rw[<- dY,<- dY,iC (t/g)]
    _=b/g*t:=by rw[e1]
 by_cases h:b<0
 ·rw[if_pos h];obtain⟨x,y,e,p⟩:=key (-t) (-b) (by lia);refine⟨x,y,e,p.pos,p.low,?_,by have:=p.xle; lia,by have:=p.yle; lia⟩;have q:=p.eq;rw[lF,lF] at q;lia
 ·rw[if_neg h];exact key t b (by lia)
end Sea
namespace Sea
theorem zIt(a b:Int){m n:Nat}(ha:a.natAbs<=m)(hb:b.natAbs<=n):(a*b).natAbs<=m*n:=by
 rw[je];exact lT ha hb
end Sea
namespace Sea
theorem dir_low{X Y:Int}(h:X≠0\/Y≠0):∃ x y:Int,zP0 [X,Y]=[x,y]/\0<rY [X,Y]/\(rY [X,Y]<=X.natAbs\/rY [X,Y]<=Y.natAbs)/\e7 x.natAbs y.natAbs=1/\x*Y-y*X=0/\0<x*X+y*Y/\x.natAbs<=X.natAbs/\y.natAbs<=Y.natAbs:=by
 have gp:0<rY [X,Y]:=by
  rcases h with h | h
  ·exact zIs (n:=X) (by simp) h
  ·exact zIs (n:=Y) (by simp) h
 have gI:(0:Int)<(rY [X,Y]:Int):=by lia
 have e1:=qA (ns:=[X,Y]) (n:=X) (by simp);have e2:=qA (ns:=[X,Y]) (n:=Y) (by simp);refine⟨X/(rY [X,Y]:Int),Y/(rY [X,Y]:Int),U,gp,?_,?_,?_,?_,qI X gI (rR (by simp)),qI Y gI (rR (by simp))⟩
 ·rcases h with h | h
  ·exact .inl (mY (by lia) (zB1 (by simp)))
  ·exact .inr (mY (by lia) (zB1 (by simp)))
 ·rw[<- zOh];exact zJ0 gp
 ·generalize (rY [X,Y]:Int)=g at e1 e2;generalize X/g=x at e1;generalize Y/g=y at e2;rw[<- e1,<- e2,<- dY,<- dY,iC x y];lia
 ·generalize (rY [X,Y]:Int)=g at e1 e2 gI;have f1:0<=X/g*X:=by
   have:X/g*X=X/g*(X/g)*g:=by rw[dY,e1]
   rw[this];exact jf (by rw[<- fi]; exact fC _) (iB gI)
  have f2:0<=Y/g*Y:=by
   have:Y/g*Y=Y/g*(Y/g)*g:=by rw[dY,e2]
   rw[this];exact jf (by rw[<- fi]; exact fC _) (iB gI)
  rcases h with h | h
  ·have:X/g*X≠0:=gc (λz=>h (by rw[<- e1,z,nG])) h;lia
  ·have:Y/g*Y≠0:=gc (λz=>h (by rw[<- e2,z,nG])) h;lia
end Sea
namespace Sea
end Sea
namespace Sea
structure SpotOf(X Y W x y w:Int):Prop where
 pos:1<=w
 low:e7 (e7 x.natAbs y.natAbs) w.natAbs=1
 ex:x*W=X*w
 ey:y*W=Y*w
 xle:x.natAbs<=X.natAbs
 yle:y.natAbs<=Y.natAbs
 wle:w.natAbs<=W.natAbs
end Sea
namespace Sea
end Sea

namespace Sea
theorem yc7{a b:Int}(h:a≠0\/b≠0):1<=a*a+b*b:=by
 have s1:0<=a*a:=by rw[<- fi]; exact fC _
 have s2:0<=b*b:=by rw[<- fi]; exact fC _
 rcases h with h | h
 ·have:a*a≠0:=gc h h;lia
 ·have:b*b≠0:=gc h h;lia
end Sea
namespace Sea
end Sea

namespace Sea
end Sea

namespace L2
open PySem PySem.Spec PyProof.Rows

structure CC where
 C:af
 s:ai
 H:Hp
 fp:List af

def zCv(env:gq):List (az×eS)->List (az×af)->List (az×af)
 | [],cs=>cs
 | (n,k)::r,cs=>zCv env r (if (k == bH)=true then(n,(env.cells.lookup n).getD 0)::cs else cs)
theorem zRt{scope:fD}{env:gq}(h:∀ x∈scope.names,x.2=.free->∃ c,env.cells.lookup x.1=some c):closureFor scope env=pure (zCv env scope.names []):=by
 simp only[closureFor];have key:∀(names:List (az×eS))(cs:List (az×af)),(∀ x∈names,x.2=.free->∃ c,env.cells.lookup x.1=some c) ->
  (forIn names cs (λ(x:az×eS) (r:List (az×af))=>match x with | (name,kind)=>if (kind == bH)=true then(do let a <- cellOf env name; pure (dw ((name,a)::r))) else pure (dw r)):mH (List (az×af)))=pure (zCv env names cs):=by
  intro names
  induction names with
  | nil=>intro cs _; rfl
  | cons x r ih =>
   intro cs hx;obtain⟨n,k⟩:=x;rw[iL];have hr:=ih (if (k == bH)=true then(n,(env.cells.lookup n).getD 0)::cs else cs) λy hy=>hx y (bJ _ hy);by_cases hk:(k == bH)=true
   ·obtain⟨c,hc⟩:=hx (n,k) cA (by simpa using hk);have e:cellOf env n=pure c:=by unfold cellOf; rw[hc]
    rw[if_pos hk] at hr;have hc':env.cells.lookup n=some c:=hc;rw[hc'] at hr;show(((if (k == bH)=true then(do let a <- cellOf env n; pure (dw ((n,a)::cs))) else pure (dw cs)):mH _) >>= _)=_;rw[if_pos hk,e];refine Eq.trans ?_ (hr.trans ?_)
    ·rfl
    ·rw[zCv,if_pos hk,hc']
   ·rw[if_neg hk] at hr;show(((if (k == bH)=true then(do let a <- cellOf env n; pure (dw ((n,a)::cs))) else pure (dw cs)):mH _) >>= _)=_;rw[if_neg hk];refine Eq.trans ?_ (hr.trans ?_)
    ·rfl
    ·rw[zCv,if_neg hk]
 exact congrArg (λ(z:mH (List (az×af)))=>z >>= λcs=>pure cs) (key scope.names [] h)
theorem qG{env:gq} : ∀(names:List (az×eS))(cs:List (az×af)),(∀ x∈names,x.2=.free->∃ c,env.cells.lookup x.1=some c) ->
  (∀ x c,cs.lookup x=some c->env.cells.lookup x=some c)->∀ x c,(zCv env names cs).lookup x=some c->env.cells.lookup x=some c
 | [],_,_,hc=>hc
 | (n,k)::r,cs,h,hc=>by
  refine qG r _ (λy hy=>h y (bJ _ hy)) λx c=>?_;by_cases hk:(k == bH)=true
  ·rw[if_pos hk];obtain⟨d,hd⟩:=h (n,k) cA (by simpa using hk);have hd':env.cells.lookup n=some d:=hd;intro e;rw[bo] at e;cases hx:x == n with
   | true =>
    rw[hx,hd'] at e;have ex:x=n:=by simpa using hx
    rw[ex,hd'];exact e
   | false =>
    rw[hx] at e;exact hc x c e
  ·rw[if_neg hk];exact hc x c
theorem zGp{env:gq} : ∀(names:List (az×eS))(cs:List (az×af))(x:az),((x,bH)∈names\/∃ c,cs.lookup x=some c)->∃ c,(zCv env names cs).lookup x=some c
 | [],_,_,h=>h.elim (λz=>nomatch z) id
 | (n,k)::r,cs,x,h=>by
  refine zGp r _ x ?_;by_cases hk:(k == bH)=true
  ·rw[if_pos hk];cases hx:x == n with
   | true=>exact .inr ⟨_,by rw[bo,hx]⟩
   | false =>
    rcases h with h | ⟨c,h⟩
    ·rcases aA.mp h with e | e
     ·injection e with e1 _
      subst e1;simp at hx
     ·exact .inl e
    ·exact .inr ⟨c,by rw[bo,hx]; exact h⟩
  ·rw[if_neg hk];rcases h with h | h
   ·rcases aA.mp h with e | e
    ·injection e with _ e2
     subst e2;exact absurd rfl hk
    ·exact .inl e
   ·exact .inr h
theorem zDo{env:gq} : ∀{names:List (az×eS)}{x:az},names.lookup x=some .free ->
  (names.map λ(n,k)=>if (k == bH&&env.scope.kind == .function&&env.kindOf n == some .cell) then(n,eI) else(n,k)).lookup x=some .cell \/
  (names.map λ(n,k)=>if (k == bH&&env.scope.kind == .function&&env.kindOf n == some .cell) then(n,eI) else(n,k)).lookup x=some .free
 | [],_,h=>by simp at h
 | (n,k)::r,x,h=>by
  have ih:=@zDo env r x;show bK x ((if (k == bH&&env.scope.kind == .function&&env.kindOf n == some .cell)=true then(n,eI) else(n,k))::_)=_\/bK x ((if (k == bH&&env.scope.kind == .function&&env.kindOf n == some .cell)=true then(n,eI) else(n,k))::_)=_;by_cases hc:(k == bH&&env.scope.kind == .function&&env.kindOf n == some .cell)=true
  ·rw[if_pos hc];cases hx:x == n with
   | true=>exact .inl (by rw[bo,hx])
   | false =>
    rw[bo,hx] at h;rw[bo,hx];exact ih h
  ·rw[if_neg hc];cases hx:x == n with
   | true =>
    rw[bo,hx] at h;exact .inr (by rw[bo,hx]; exact h)
   | false =>
    rw[bo,hx] at h;rw[bo,hx];exact ih h
theorem zAe{env:gq} : ∀{names:List (az×eS)}{x:az}{j:eS},(∀ y∈names,y.2≠.cell)->(j=.cell\/j=.free) ->
  (names.map λ(n,k)=>if (k == bH&&env.scope.kind == .function&&env.kindOf n == some .cell) then(n,eI) else(n,k)).lookup x=some j->(x,bH)∈names
 | [],_,_,_,_,h=>by simp at h
 | (n,k)::r,x,j,hn,hj,h=>by
  have ih:=@zAe env r x j (λy hy=>hn y (bJ _ hy)) hj;have hk0:k≠.cell:=hn (n,k) cA
  replace h:bK x ((if (k == bH&&env.scope.kind == .function&&env.kindOf n == some .cell)=true then(n,eI) else(n,k))::(r.map λ(n,k)=>if (k == bH&&env.scope.kind == .function&&env.kindOf n == some .cell) then(n,eI) else(n,k)))=some j:=h
  by_cases hc:(k == bH&&env.scope.kind == .function&&env.kindOf n == some .cell)=true
  ·rw[if_pos hc] at h;have hf:k=.free:=by
    simp only[be] at hc;simpa using hc.1.1
   cases hx:x == n with
   | true =>
    have ex:x=n:=by simpa using hx
    subst ex;rw[<- hf];exact cA
   | false =>
    rw[bo,hx] at h;exact bJ _ (ih h)
  ·rw[if_neg hc] at h;cases hx:x == n with
   | true =>
    rw[bo,hx] at h;have ex:x=n:=by simpa using hx
    have ek:k=j:=bh h;subst ex;rcases hj with hj | hj
    ·exact absurd (ek.trans hj) hk0
    ·rw[<- hj,<- ek];exact cA
   | false =>
    rw[bo,hx] at h;exact bJ _ (ih h)

def uI(X:Cx)(N:List az)(scope:fD)(c:CC):Cx where
 prog:=X.prog
 w:=X.w
 K:=X.K
 mg:=X.mg
 base:=X.base
 A:=X.A
 N:=N
 s₀:=c.s
 H₀:=c.H
 env:=compEnvC scope (zCv X.env scope.names []) c.C X.env
 outer:=X.stack
 stack:=X.stack
 ex:=c.fp
 fn:=λ_=>false
 calm:=X.calm
 pn:=[]
 xe:=λ_ _=>False

def zHi(X:Cx)(scope:fD):List (az×Nat)->Prop
 | []=>True
 | p::r=>(X.N[p.2]?=some p.1/\scope.names.lookup p.1=some .free/\(X.env.kindOf p.1=some .cell\/X.env.kindOf p.1=some .free))/\zHi X scope r
theorem zHi.mem{X:Cx}{scope:fD} : ∀{caps:List (az×Nat)},zHi X scope caps->∀ p∈caps,X.N[p.2]?=some p.1/\scope.names.lookup p.1=some .free/\(X.env.kindOf p.1=some .cell\/X.env.kindOf p.1=some .free)
 | [],_,_,h=>nomatch h
 | q::r,h,p,hp=>by
  rcases aA.mp hp with e | e
  ·rw[e]; exact h.1
  ·exact zHi.mem h.2 p e
structure zAq(X:Cx)(caps:List (az×Nat))(scope:fD):Prop where
 kind:scope.kind=.function
 nocell:∀ y∈scope.names,y.2≠.cell
 loc:∀ y∈scope.names,y.2=.local->scope.names.lookup y.1=some .local
 clos:(scope.names.all λx=>!(x.2 == .free)||(X.env.cells.lookup x.1).isSome)=true
 cap:zHi X scope caps
theorem zAq.cells{X:Cx}{caps:List (az×Nat)}{scope:fD}(S:zAq X caps scope):∀ x∈scope.names,x.2=.free->∃ c,X.env.cells.lookup x.1=some c:=λx hx hf=>by
 have h:=aT.mp S.clos x hx;rw[hf] at h;simp only[iM] at h;rcases h with h | h
 ·exact absurd h (by decide)
 ·exact aL.mp h

def zPd(caps:List (az×Nat))(nt:Nat)(σ:St):St:=bE nt none++caps.map λp=>(σ[p.2]?).join

def yd6(Y:Cx)(ifs:List bx)(t:TT):Prop :=
 ∀(pins:List (af×cD))(s:ai)(σ:St)(H:Hp)(Q:Bool->Hp->Prop),Inv Y pins σ H s->t σ H Q ->
  wpAny (model Y.prog Y.w) Y.A (forIn ifs true λc r=>if r=true then do let ok <- isTrue c Y.env (eval c Y.env); pure (dw ok) else pure (dw r)) (TP Y pins σ Q) Y.xe s
def zW3:TT:=λ_ H Q=>Q true H
theorem uG{Y:Cx} : yd6 Y [] zW3:=λ_ _ _ H _ I h=>wpAny_tests_nil ⟨H,I,h⟩
theorem zTz{Y:Cx}{c:bx}{t:TT}(h:PT Y c t):yd6 Y [c] t:=λpins s σ H Q I q=>wpAny_tests_one (h pins s σ H Q I q)

def zDd(J:It)(D:af)(g:TG)(tt:TT)(te:TE)(σ0:St)(H1:Hp)(Q:VK):Prop :=
 ∃ W:Nat->Nat->St->List V->Hp->Prop,(∃ m,W 0 m σ0 [] (upd H1 D (.lst [])))/\∀ i m σ ys H,W i m σ ys H->H D=some (.lst ys) /\
  ((J.stop i H/\Q (.ref D) H)\/(J.go i H/\∃ N:St->List V->Hp->Prop,(∀ σ' zs H',N σ' zs H'->∃ m',m'<m/\W (i+1) m' σ' zs H')/\∀ x H',J.yld i H x H'->g x σ H' λσ2 H2=>tt σ2 H2 λb H3 =>
   if b=true then te σ2 H3 λy H4=>H4 D=some (.lst ys)/\ys.length<sizeLine/\N σ2 (ys++[y]) (upd H4 D (.lst (ys++[y]))) else N σ2 ys H3))
def ya7(nt:Nat)(caps:List (az×Nat))(wi:TI)(g:CC->TG)(tt:CC->TT)(te:CC->TE):TE:=λσ H Q =>
 wi σ H λJ H1=>∀(c:CC)(D:af),H1 D=none->zDd J D (g c) (tt c) (te c) (zPd caps nt σ) H1 Q

theorem zNr{α:Type}{t:mH α}{Q Q':α->ai->Prop}{M:nj}{A:bI}{E:ag->ai->Prop}{s:ai}(h:wpAny M A t Q (λ_ _=>False) s)(hQ:∀ a s,Q a s->Q' a s):wpAny M A t Q' E s:=cX h hQ λ_ _ x=>x.elim
theorem Un.same{fs ex:List af}{H H':Hp}{h h1 h2:aX}{C:af}(u:Un fs ex H H' h h1)(sb:cO C h1 h2)(hC:h.get? C=none):Un fs ex H H' h h2:=by
 have ne:∀ b o,h.get? b=some o->b≠C:=λb o e z=>by rw[z,hC] at e; cases e
 refine⟨λb o e n hb hx=>(sb.2 b (ne b o e)).trans (u.keep b o e n hb hx),λb o e n hb hx=>?_,u.free,λb o e hx=>?_,u.tups,u.frzs,u.tbls⟩
 ·obtain⟨sl,q⟩:=u.slot b o e n hb hx;exact⟨sl,(sb.2 b (ne b o e)).trans q⟩
 ·obtain⟨o',q⟩:=u.there b o e hx;exact⟨o',(sb.2 b (ne b o e)).trans q⟩
theorem HOk.same{P:aK}{w:aU}{H:Hp}{h h':aX}{C:af}(k:HOk P w H h)(sb:cO C h h')(hC:H C=none):HOk P w H h':=λb o e=>by
 refine(k b o e).stay (λc v hc q=>(sb.2 c ?_).trans q) (λ_ q=>q) λ_ _ q=>q;rintro rfl;rcases hc with z | z
 ·rw[z,e] at hC; cases hC
 ·rw[hC] at z; cases z

section
variable{X:Cx}{T:List az}{caps:List (az×Nat)}{scope:fD}{elt target iter:bx}{ifs:List bx}{pos:fh}{wi:TI}{g:CC->TG}{tt:CC->TT}{te:CC->TE}

theorem zHk{pins:List (af×cD)}{σ:St}{H2:Hp}{s2:ai}{fp:List af}{C D:af}{h1:aX}{tk:Nat}{m:az->Option ag}(S:zAq X caps scope)(I2:Inv X pins σ H2 s2)(f2:∀ b∈fp,zMx X pins H2 b)
  (hfp:∀ b∈fp,b<s2.heap.objs.size) (hD:s2.heap.objs.size<=D) (hC:s2.heap.objs.size<=C) (hDC:C≠D) (old:∀ b o,s2.heap.get? b=some o->h1.get? b=some o)
  (acc:∃ n,h1.get? D=some { cls:=.type "list",data:=.seq ([]:List ag).toArray n }) (hn:h1.Ns C m) :
  Inv (uI X (T++caps.map (·.1)) scope ⟨C,s2,H2,fp⟩) [] (zPd caps T.length σ) (upd H2 D (.lst [])) { s2 with heap:=h1,toks:=tk }:=by
 have cs:=qG (env:=X.env) scope.names [] S.cells (λ_ _ z=>by cases z);have cellOld:∀ x c,X.env.cells.lookup x=some c->c<s2.heap.objs.size:=λx c e=>by
  obtain⟨v,q⟩:=I2.cell x c e;exact q.lt
 have stkNo:∀ b∈fp,b ∉ frs X.stack:=λb hb z=>by
  rcases aA.mp (I2.stkSub b z) with e | e
  ·exact(f2 b hb).2.1 e
  ·exact(f2 b hb).2.2.1 e
 have fr:H2 D=none:=I2.hok.fresh hD;refine⟨⟨I2.ok.mod,S.kind,I2.ok.glob,I2.ok.blt,hC,λx y c e1 e2=>I2.ok.inj x y c (cs x c e1) (cs y c e2),λx hx=>?_,λ_ _ z=>absurd (show false=true from z) aB,I2.ok.hd,I2.ok.frames,.inl rfl,λb hb=>⟨?_,λx c e=>(f2 b hb).2.2.2.2.1 x c (cs x c e)⟩,
  λb o e=>I2.bs b o e,aD I2.ok.bsz I2.sz,λb o e hb=>?_,stkNo,I2.stack,I2.stkFree⟩,rfl,I2.bare,?_,⟨m,hn,λi x v e1 e2 e3=>?_⟩,λx c e=>?_,?_,λx c e=>?_,λp hp=>absurd (show p∈([]:List (af×cD)) from hp) (by simp),?_,?_⟩
 ·have hx':(x,bH)∈scope.names:=by
   rcases hx with z | z
   ·exact zAe S.nocell (.inl rfl) z
   ·exact zAe S.nocell (.inr rfl) z
  exact zGp scope.names [] x (.inl hx')
 ·exact aP (aR (hfp b hb) hC)
 ·rcases (f2 b hb).2.2.2.1 with z | z
  ·exact I2.ok.noex b o e z
  ·exact absurd (aR (aw (show X.base.get? b=some o from e)) (aD I2.ok.bsz z)) (c9 _)
 ·exact Un.laid old hD fr
 ·have hlt:¬ i<T.length:=λhi=>by
   unfold zPd at e2;rw[dN (by simpa using hi),fE,if_pos hi] at e2;cases e2
  have hge:T.length<=i:=kT hlt;have e1':(T++caps.map (·.1))[i]?=some x:=e1;rw[cQ hge,ak] at e1';unfold zPd at e2;rw[cQ (by simpa using hge),cV,ak] at e2;cases hp:caps[i-T.length]? with
  | none=>rw[hp] at e1'; cases e1'
  | some p =>
   rw[hp] at e1' e2;have ex:p.1=x:=bh e1';have ev:(σ[p.2]?).join=some v:=bh e2;obtain⟨hN,hf,hk⟩:=S.cap.mem p (aJ hp);have ev':σ[p.2]?=some (some v):=by
    cases hq:σ[p.2]? with
    | none=>rw[hq] at ev; cases ev
    | some o =>
     rw[hq] at ev;exact congrArg some ev
   obtain⟨m2,_,hl2⟩:=I2.loc;obtain⟨u,ru,l⟩:=hl2 p.2 p.1 v hN ev' (hk.elim (λz=>.inr (.inl z)) λz=>.inr (.inr z));refine⟨u,ru,.inr ⟨?_,?_⟩⟩
   ·rw[<- ex];exact zDo (env:=X.env) hf
   ·rcases l with ⟨kl,_⟩ | ⟨_,c,ec,hcell⟩
    ·rcases hk with z | z <;>(rw[kl] at z; cases z)
    ·obtain⟨d,hd⟩:=zGp (env:=X.env) scope.names [] p.1 (.inl (dA hf));have hd':=cs p.1 d hd;rw[ec] at hd';cases hd';obtain⟨o,ho,hod⟩:=hcell;exact⟨c,by rw[<- ex]; exact hd,o,old c o ho,hod⟩
 ·obtain⟨v,o,ho,hd⟩:=I2.cell x c (cs x c e);exact⟨v,o,old c o ho,hd⟩
 ·show upd H2 D (.lst []) C=none;rw[zG hDC];exact I2.hok.fresh hC
 ·show upd H2 D (.lst []) c=none;rw[zG (aP (aR (cellOld x c (cs x c e)) hD))];exact I2.freeC x c (cs x c e)
 ·obtain⟨n,e⟩:=acc;exact I2.hok.laid old hD ⟨bw _,[],n,.nil,e⟩
 ·show(zPd caps T.length σ).length=(T++caps.map (·.1)).length;unfold zPd;rw[aC,aC,aa,aa,cV]

theorem tT(S:zAq X caps scope)(hc:X.calm=true)(hi:PI X target iter wi)(hg:∀ c,PG (uI X (T++caps.map (·.1)) scope c) target (g c))(ht:∀ c,yd6 (uI X (T++caps.map (·.1)) scope c) ifs (tt c))(he:∀ c,PE (uI X (T++caps.map (·.1)) scope c) elt (te c))
  (hs:∀ x,foldedSetIterable iter X.env x=pure x:=by intro _; rfl):PE X (.ListComp elt [⟨target,iter,ifs,0⟩] scope pos) (ya7 T.length caps wi g tt te):=by
 intro pins s σ H Q I h;rw[eval_ListComp];refine h9 (use:=none) rfl hs (zRt S.cells) S.kind S.loc (thn (hi pins s σ H _ I h) λv s1 h1=>thn h1 λitv s2 h2=>?_);obtain⟨it,fp,tn,J,H2,e,I2,TT,st2,f2,q2⟩:=h2;subst e;refine br (jg S.nocell (by intro y hy; simp at hy) (λh1 hn hsb=>?_) S.kind);dsimp only at hn hsb ⊢;generalize hg2:s2.heap.push { cls:=.type "list",dict:=none,data:=.seq ([]:List ag).toArray }=G at hn hsb ⊢;have hCv:G.objs.size=s2.heap.objs.size+1:=by rw[<- hg2,dh]
 have hDC:G.objs.size≠s2.heap.objs.size:=by rw[hCv]; exact kW _
 have hCle:s2.heap.objs.size<=G.objs.size:=by rw[hCv]; exact eg _
 have old:∀ b o,s2.heap.get? b=some o->h1.get? b=some o:=λb o e=>hsb.extBut b o (aP (aR (aw e) hCle)) (ah _ (hg2 ▸ ah _ e));have hacc:∃ n,h1.get? s2.heap.objs.size=some { cls:=.type "list",data:=.seq ([]:List ag).toArray n }:=⟨_,hsb.extBut _ _ (cz hDC) (ah _ (hg2 ▸ ap _ rfl))⟩;have hfp:∀ b∈fp,b<s2.heap.objs.size:=λb hb=>by
  obtain⟨o,e,_⟩:=TT.obj _ _ st2 b hb;exact aw e
 have cs:=qG (env:=X.env) scope.names [] S.cells (λ_ _ z=>by cases z);have I0:=zHk (T:=T) (tk:=s2.toks+([]:List (az×ag)).length) S I2 f2 hfp (am _) hCle hDC old hacc hn;have st0:tn 0 h1:=TT.keep _ _ _ st2 λb _ o e=>old b o e;obtain⟨W,⟨m0,w0⟩,turn⟩:=q2 ⟨G.objs.size,s2,H2,fp⟩ s2.heap.objs.size (I2.hok.fresh (am _));have fr0:∀ b∈fp,upd H2 s2.heap.objs.size (.lst []) b=none:=λb hb=>by
  rw[zG (aP (hfp b hb))];exact(f2 b hb).1
 have stat:∀{H':Hp},(∀ b∈fp,H' b=none)->∀ b∈fp,zMx (uI X (T++caps.map (·.1)) scope ⟨G.objs.size,s2,H2,fp⟩) [] H' b:=λ{H'} hn' b hb =>
  ⟨hn' b hb,aP (aR (hfp b hb) hCle),I0.ok.exfs b hb,.inl hb,λx c e=>(f2 b hb).2.2.2.2.1 x c (cs x c e),λp hp=>absurd (show p∈([]:List (af×cD)) from hp) (by simp)⟩
 have loop:codeAny (model X.prog X.w) X.A (.compLoop (.ListComp elt [⟨target,iter,ifs,0⟩] scope pos) 0 (.ref it) (.ref s2.heap.objs.size) (compEnvC scope (zCv X.env scope.names []) G.objs.size X.env))
   (compPost (model X.prog X.w) X.A X.xe none (EP X pins σ Q) (.ref s2.heap.objs.size) G.objs.size) { s2 with heap:=h1,toks:=s2.toks+([]:List (az×ag)).length }:=by
  refine codeAny_loop rfl (λn s'=>∃ i σ' ys H',Inv (uI X (T++caps.map (·.1)) scope ⟨G.objs.size,s2,H2,fp⟩) [] σ' H' s'/\tn i s'.heap/\(∀ b∈fp,H' b=none)/\W i n σ' ys H') (λn s3 hI=>?_) m0 ⟨0,_,[],_,I0,st0,fr0,w0⟩;obtain⟨i,σ3,ys,H3,I3,st3,fr3,w3⟩:=hI;show wpAny _ X.A ((compTurn (.ListComp elt [⟨target,iter,ifs,0⟩] scope pos) 0 (.ref it) (.ref s2.heap.objs.size) (compEnvC scope (zCv X.env scope.names []) G.objs.size X.env)).onRaise (λx=>do noteFrame x (compEnvC scope (zCv X.env scope.names []) G.objs.size X.env); theTreesLotGoes x)) _ _ s3;refine wpAny_noted ?_;rw[compTurn_list];refine ac (fV (ac ?_));obtain⟨hD3,turn3⟩:=turn i n σ3 ys H3 w3;rcases turn3 with ⟨stop,qn⟩ | ⟨go,N,hN,step⟩
  ·refine zNr (TT.done (uI X (T++caps.map (·.1)) scope ⟨G.objs.size,s2,H2,fp⟩) rfl rfl rfl hc i [] s3 σ3 H3 _ I3 (stat fr3) st3 stop) λr s4 ⟨hr,I4⟩=>?_;subst hr;refine al ?_;show ∃ m,s4.heap.Ns G.objs.size m/\∀ h',cO G.objs.size s4.heap h'->EP X pins σ Q (.ref s2.heap.objs.size) { s4 with heap:=h' };obtain⟨m4,hn4,_⟩:=I4.loc;refine⟨m4,hn4,λh' sb=>⟨.ref s2.heap.objs.size,H3,?_,U,qn⟩⟩;refine I2.call' (s':={ s4 with heap:=h' }) (ch:=fp) I4.os (Un.same I4.base sb (fW hCle)) (HOk.same I4.hok sb I4.free) I4.bare λb hb=>?_;obtain⟨_,f1,_,f3,f4,f5⟩:=f2 b hb;exact⟨f3,f1,f4,f5⟩
  ·refine zNr (TT.item (uI X (T++caps.map (·.1)) scope ⟨G.objs.size,s2,H2,fp⟩) rfl rfl rfl hc i [] s3 σ3 H3 _ I3 (stat fr3) st3 go) λr s4 ⟨u,hr,h4⟩=>?_;subst hr;refine ac (zNr h4 λ_ s5 ⟨x,H5,I5,r5,y5,st5,fr5⟩=>?_);have I5':=I5.pinned (stat fr5) (TT.obj _ _ st5);refine ac (zNr (hg _ _ s5 σ3 H5 x u _ I5' r5 (step x H5 y5)) λ_ s6 ⟨σ6,H6,I6,q6⟩=>?_);have again:∀{s7:ai}{σ7:St}{zs:List V}{H7:Hp},Inv (uI X (T++caps.map (·.1)) scope ⟨G.objs.size,s2,H2,fp⟩) ([]++zHh fp s5.heap) σ7 H7 s7->N σ7 zs H7 ->
     ∃ m,m<n/\∃ i σ' ys H',Inv (uI X (T++caps.map (·.1)) scope ⟨G.objs.size,s2,H2,fp⟩) [] σ' H' s7/\tn i s7.heap/\(∀ b∈fp,H' b=none)/\W i m σ' ys H':=λ{s7 σ7 zs H7} I7 n7=>by
    obtain⟨m',hm,w7⟩:=hN σ7 zs H7 n7;refine⟨m',hm,i+1,σ7,zs,H7,I7.unpinned,TT.keep _ _ _ st5 λb hb o e=>(I7.pin (b,o) (aY _ (aY _ (tK hb e)))).1,λb hb=>?_,w7⟩;obtain⟨o,e,d⟩:=TT.obj _ _ st5 b hb;exact(I7.pin (b,o) (aY _ (aY _ (tK hb e)))).2.1
   refine ac (zNr (ht _ _ s6 σ6 H6 _ I6 q6) λok s7 ⟨H7,I7,q7⟩=>?_);cases ok with
   | false=>exact al ⟨rfl,again I7 q7⟩
   | true =>
    refine ac (ac (zNr (he _ _ s7 σ6 H7 _ I7 q7) λy s8 ⟨yv,H8,I8,r8,hD8,hl8,q8⟩=>?_));refine ac (zNr (zFo _ s8 σ6 H8 (.ref s2.heap.objs.size) [yv] (.ref s2.heap.objs.size) [y] (λ_ H9=>N σ6 (ys++[yv]) H9) I8 rfl (.cons r8 .nil) ⟨_,ys,yv,rfl,rfl,hD8,hl8,q8⟩) λ_ s9 ⟨_,H9,I9,_,q9⟩=>?_);exact al (al ⟨rfl,again I9 q9⟩)
 exact codeAny_compStart_list loop (TT.self _ 0 _ _ _ st0 loop)
end
end L2

namespace L2
open PySem PySem.Spec PyProof.Rows

theorem wQ:bootBuiltins "len" = some (.builtin "len"):=by decide +kernel
theorem zZw:bootBuiltins "abs" = some (.builtin "abs"):=by decide +kernel
theorem zGg:bootBuiltins "all" = some (.builtin "all"):=by decide +kernel
theorem zV2:bootBuiltins "any" = some (.builtin "any"):=by decide +kernel
theorem yd4:bootBuiltins "max" = some (.builtin "max"):=by decide +kernel
theorem zX:bootBuiltins "isinstance" = some (.builtin "isinstance"):=by decide +kernel
theorem zQn:bootBuiltins "int" = some (.type "int"):=by decide +kernel
theorem zQ7:bootBuiltins "bool" = some (.type "bool"):=by decide +kernel
theorem zVv:bootBuiltins "str" = some (.type "str"):=by decide +kernel
theorem zBj:bootBuiltins "list" = some (.type "list"):=by decide +kernel
theorem zI8:bootBuiltins "tuple" = some (.type "tuple"):=by decide +kernel
theorem zZf:bootBuiltins "zip" = some (.type "zip"):=by decide +kernel

def Has(P:aK)(w:aU)(K:ae)(mg:az->Option ag)(base:aX)(x:az)(n:Nat)(ps:List az)(sp:Sp):Prop :=
 ∃(f:af)(fd:bT),yY P w K mg base CX0 n f fd ps sp/\zCe K fd ps []/\b9 K (.ref f)=true/\mg x=some (.ref f)
section
variable{X:Cx}{x:az}{p pos:fh}{e:bx}{es:List bx}{t:TA}{n:Nat}{ps:List az}{sp:Sp}
theorem vA(h:Has X.prog X.w X.K X.mg X.base x n ps sp)(hr:rZ n X.A)(hg:Gl X x)(ha:PA X (e::es) t)(hdb:(x ==("__debug__" : az))=false:=by decide)
  (he:starEach (e::es) X.env=(false,eval e X.env)::starEach es X.env:=by rfl) (hpl:(backTo pos (starEach es X.env)).any (·.1)=false:=by rfl):PE X (.Call (.Name x p) (e::es) [] pos) (zPs sp [] E0 t):=by
 obtain⟨f,fd,F,b,k,m⟩:=h;exact zWr F hr hg m k b .nil zR7 ha hdb he hpl
end

section
variable{X:Cx}
def zC2(i j:Int):Prop:=0<j/\j.natAbs<2^4096
theorem zT7:OpR X (binaryOp .FloorDiv) (rI zC2 λi j=>.int (i/j)):=opI λi j _ _ _ _ _ hc q=>by
 have h1:(0:Int)<j:=hc.1;have h3:j.natAbs.log2<9000:=de ((lG (by lia)).mpr hc.2) (by decide);exact floordiv_int (by lia) (by rw[Int.fdiv_eq_ediv_of_nonneg i (by lia)]; exact q) (.inl (PyProof.noPylong_of_log2 h3))
theorem zC2.of{i j:Int}(h:0<j)(h2:j<10^600):zC2 i j:=by
 exists h;have e:(10:Nat)^600<2^4096:=by decide +kernel
 lia
theorem zMv:uL X (.builtin "isinstance") (λxs H Q=>∃ x T t b,xs=[x,.ty T]/\TyOf X.K H x t/\cP X.K t (.type T)=some b/\Q (.bl b) H):=by
 intro pins s σ H xs us Q I r h;obtain⟨x,T,t,b,rfl,ty,e,q⟩:=h;obtain⟨u,v,rfl,ru,rv⟩:=yT.two r;cases rv;exact zQ4 I ru ty e λtk=>⟨.bl b,H,I.tok tk,rfl,q⟩

def Sq(K:ae)(H:Hp)(p:af)(xs:List V):Prop:=SqL K H p xs\/SqT K H p xs
inductive RIx(K:ae)(x y:V)(H:Hp)(Q:VK):Prop where
 | mk (p:af) (xs:List V) (i:Int) (v:V) (ex:x=.ref p) (ey:y=.int i) (sq:Sq K H p xs) (at':atI xs i=some v) (q:Q v H)
def rIxA(K:ae):R2:=λx y H Q=>RIx K x y H Q
theorem zHz:IxR X (rIxA X.K):=by
 intro value slice pins s σ H x y v u Q I rx ry q hs;obtain⟨p,xs,i,z,e1,e2,hq,ha,q⟩:=q;rcases hq with hq | hq
 ·exact zXj value slice pins s σ H x y v u Q I rx ry ⟨p,xs,i,z,e1,e2,hq,ha,q⟩ hs
 ·exact zY5 value slice pins s σ H x y v u Q I rx ry ⟨p,xs,i,z,e1,e2,hq,ha,q⟩ hs
def iSeq(K:ae)(tl:TE):TI:=λσ H R=>tl σ H λx H1=>∃ a,x=.ref a/\(((∃ xs,SqL K H1 a xs)/\R (Itl K a) H1)\/((∃ xs,SqT K H1 a xs)/\R (Itt K a) H1))
theorem zNe{tg l:bx}{tl:TE}(hl:PE X l tl):PI X tg l (iSeq X.K tl):=by
 intro pins s σ H R I h;refine thn (hl pins s σ H _ I h) λv s1 ⟨x,H1,I1,r1,q1⟩=>?_;obtain⟨a,e,q⟩:=q1;subst e;cases r1;have own:∀ b,b∈[s1.heap.objs.size]->zMx X pins H1 b:=λb hb=>by
  rw[av] at hb;subst hb;exact I1.fpOk (am _) (I1.hok.fresh (am _))
 rcases q with ⟨⟨xs,hq⟩,q⟩ | ⟨⟨xs,hq⟩,q⟩
 ·obtain⟨its,rv,p,hz⟩:=I1.list hq;exact dW p.isList ⟨s1.heap.objs.size,[s1.heap.objs.size],_,_,H1,rfl,I1.kept (t':=s1.toks) λb o e=>ah _ e,zLy a _,⟨_,ap _ rfl,rfl,rfl⟩,own,q⟩
 ·obtain⟨its,rv,p,hz⟩:=I1.tuple hq;exact gM (show s1.heap.IsTuple a its.toArray from p) ⟨s1.heap.objs.size,[s1.heap.objs.size],_,_,H1,rfl,I1.kept (t':=s1.toks) λb o e=>ah _ e,zG9 a _,⟨_,ap _ rfl,rfl,rfl⟩,own,q⟩
end

section
variable{K:ae}{a D:af}{xs:List V}{g:TG}{tt:TT}{te:TE}{σ0:St}{H1:Hp}{Q:VK}
theorem zRx(Pv:Nat->St->List V->Hp->Prop)(h0:Pv 0 σ0 [] (upd H1 D (.lst [])))(hl:∀ i σ ys H,i<=xs.length->Pv i σ ys H->SqL K H a xs/\H D=some (.lst ys))
  (hs:∀ i x σ ys H,xs[i]?=some x->Pv i σ ys H->g x σ H λσ2 H2=>tt σ2 H2 λb H3 =>
   if b=true then te σ2 H3 λy H4=>H4 D=some (.lst ys)/\ys.length<sizeLine/\Pv (i+1) σ2 (ys++[y]) (upd H4 D (.lst (ys++[y]))) else Pv (i+1) σ2 ys H3)
  (hd:∀ σ ys H,Pv xs.length σ ys H->Q (.ref D) H):zDd (Itl K a) D g tt te σ0 H1 Q:=by
 exists λi m σ ys H=>m=xs.length-i/\i<=xs.length/\Pv i σ ys H,⟨xs.length,by simp,bw _,h0⟩;rintro i m σ ys H ⟨rfl,hi,p⟩;obtain⟨q,qd⟩:=hl i σ ys H hi p;exists qd;by_cases hlt:i<xs.length
 ·refine .inr ⟨⟨xs,xs[i],q,by simp[hlt]⟩,Pv (i+1),λσ' zs H' z=>⟨xs.length-(i+1),by lia,rfl,hlt,z⟩,λx H' y=>?_⟩;obtain⟨e,y⟩:=y;subst e;exact hs i x σ ys _ (y xs q) p
 ·have e:i=xs.length:=by lia
  subst e;exact .inl ⟨⟨xs,q,am _⟩,hd σ ys H p⟩
theorem zTb(Pv:Nat->St->List V->Hp->Prop)(h0:Pv 0 σ0 [] (upd H1 D (.lst [])))(hl:∀ i σ ys H,i<=xs.length->Pv i σ ys H->SqT K H a xs/\H D=some (.lst ys))
  (hs:∀ i x σ ys H,xs[i]?=some x->Pv i σ ys H->g x σ H λσ2 H2=>tt σ2 H2 λb H3 =>
   if b=true then te σ2 H3 λy H4=>H4 D=some (.lst ys)/\ys.length<sizeLine/\Pv (i+1) σ2 (ys++[y]) (upd H4 D (.lst (ys++[y]))) else Pv (i+1) σ2 ys H3)
  (hd:∀ σ ys H,Pv xs.length σ ys H->Q (.ref D) H):zDd (Itt K a) D g tt te σ0 H1 Q:=by
 exists λi m σ ys H=>m=xs.length-i/\i<=xs.length/\Pv i σ ys H,⟨xs.length,by simp,bw _,h0⟩;rintro i m σ ys H ⟨rfl,hi,p⟩;obtain⟨q,qd⟩:=hl i σ ys H hi p;exists qd;by_cases hlt:i<xs.length
 ·refine .inr ⟨⟨xs,xs[i],q,by simp[hlt]⟩,Pv (i+1),λσ' zs H' z=>⟨xs.length-(i+1),by lia,rfl,hlt,z⟩,λx H' y=>?_⟩;obtain⟨e,y⟩:=y;subst e;exact hs i x σ ys _ (y xs q) p
 ·have e:i=xs.length:=by lia
  subst e;exact .inl ⟨⟨xs,q,am _⟩,hd σ ys H p⟩
theorem zPu{lo:Int}{n:Nat}(Pv:Nat->St->List V->Hp->Prop)(h0:Pv 0 σ0 [] (upd H1 D (.lst [])))(hl:∀ i σ ys H,i<=n->Pv i σ ys H->H D=some (.lst ys))
  (hs:∀ i σ ys H,i<n->Pv i σ ys H->g (.int (lo+i)) σ H λσ2 H2=>tt σ2 H2 λb H3 =>
   if b=true then te σ2 H3 λy H4=>H4 D=some (.lst ys)/\ys.length<sizeLine/\Pv (i+1) σ2 (ys++[y]) (upd H4 D (.lst (ys++[y]))) else Pv (i+1) σ2 ys H3)
  (hd:∀ σ ys H,Pv n σ ys H->Q (.ref D) H):zDd (Itr lo n) D g tt te σ0 H1 Q:=by
 exists λi m σ ys H=>m=n-i/\i<=n/\Pv i σ ys H,⟨n,by simp,bw _,h0⟩;rintro i m σ ys H ⟨rfl,hi,p⟩;have qd:=hl i σ ys H hi p;exists qd;by_cases hlt:i<n
 ·refine .inr ⟨hlt,Pv (i+1),λσ' zs H' z=>⟨n-(i+1),by lia,rfl,hlt,z⟩,λx H' y=>?_⟩;obtain⟨e,y⟩:=y;subst e y;exact hs i σ ys _ hlt p
 ·have e:i=n:=by lia
  subst e;exact .inl ⟨am _,hd σ ys H p⟩
end
section
variable{K:ae}{a D:af}{xs:List V}{g:TG}{te:TE}{σ0:St}{H1:Hp}{Q:VK}
theorem zOt(Pv:Nat->St->List V->Hp->Prop)(h0:Pv 0 σ0 [] (upd H1 D (.lst [])))(hl:∀ i σ ys H,i<=xs.length->Pv i σ ys H->SqL K H a xs/\H D=some (.lst ys))
  (hs:∀ i x σ ys H,xs[i]?=some x->Pv i σ ys H->g x σ H λσ2 H2=>te σ2 H2 λy H4=>H4 D=some (.lst ys)/\ys.length<sizeLine/\Pv (i+1) σ2 (ys++[y]) (upd H4 D (.lst (ys++[y]))))
  (hd:∀ σ ys H,Pv xs.length σ ys H->Q (.ref D) H):zDd (Itl K a) D g zW3 te σ0 H1 Q:=zRx Pv h0 hl (λi x σ ys H e p=>hs i x σ ys H e p) hd
theorem zJl(Pv:Nat->St->List V->Hp->Prop)(h0:Pv 0 σ0 [] (upd H1 D (.lst [])))(hl:∀ i σ ys H,i<=xs.length->Pv i σ ys H->SqT K H a xs/\H D=some (.lst ys))
  (hs:∀ i x σ ys H,xs[i]?=some x->Pv i σ ys H->g x σ H λσ2 H2=>te σ2 H2 λy H4=>H4 D=some (.lst ys)/\ys.length<sizeLine/\Pv (i+1) σ2 (ys++[y]) (upd H4 D (.lst (ys++[y]))))
  (hd:∀ σ ys H,Pv xs.length σ ys H->Q (.ref D) H):zDd (Itt K a) D g zW3 te σ0 H1 Q:=zTb Pv h0 hl (λi x σ ys H e p=>hs i x σ ys H e p) hd
theorem zBr{lo:Int}{n:Nat}(Pv:Nat->St->List V->Hp->Prop)(h0:Pv 0 σ0 [] (upd H1 D (.lst [])))(hl:∀ i σ ys H,i<=n->Pv i σ ys H->H D=some (.lst ys))
  (hs:∀ i σ ys H,i<n->Pv i σ ys H->g (.int (lo+i)) σ H λσ2 H2=>te σ2 H2 λy H4=>H4 D=some (.lst ys)/\ys.length<sizeLine/\Pv (i+1) σ2 (ys++[y]) (upd H4 D (.lst (ys++[y]))))
  (hd:∀ σ ys H,Pv n σ ys H->Q (.ref D) H):zDd (Itr lo n) D g zW3 te σ0 H1 Q:=zPu Pv h0 hl (λi σ ys H e p=>hs i σ ys H e p) hd
end
end L2

namespace L2
open PySem PySem.Spec PyProof.Rows
theorem zSa:∀ bs:List Bool,(bv bs.length).all (λi=>(bs[i]?).getD true)=bs.all id:=by
 intro bs;rw[dS,aT,aT];constructor
 ·intro h b hb;obtain⟨i,hi,e⟩:=js hb;have q:=h i (bg.mpr hi);rw[aj hi,e] at q;exact q
 ·intro h i hi;have hi':=bg.mp hi;rw[aj hi'];exact h _ (cZ hi')
theorem zQx:∀ bs:List Bool,(bv bs.length).any (λi=>(bs[i]?).getD true)=bs.any id:=by
 intro bs;rw[dS,fR,fR];constructor
 ·rintro⟨i,hi,q⟩;have hi':=bg.mp hi;rw[aj hi'] at q;exact⟨_,cZ hi',q⟩
 ·rintro⟨b,hb,q⟩;obtain⟨i,hi,e⟩:=js hb;exists i,bg.mpr hi;rw[aj hi,e];exact q
theorem zNv{bs:List Bool}{its:List ag}(r:yT (bs.map V.bl) its){i:Nat}{v:ag}(h:its[i]?=some v):v=.bool ((bs[i]?).getD true):=by
 have hl:=r.length;rw[aa] at hl;have hi:i<its.length:=(aM.mp h).1;have hb:i<bs.length:=by lia
 obtain⟨u,hu,ru⟩:=r.get (i:=i) (x:=.bl bs[i]) (by rw[ak,aj hb]; rfl);rw[hu] at h;cases h;rw[aj hb];exact ru
section
variable{X:Cx}
theorem tX(hc:X.calm=true):uL X (.builtin "all") (λxs H Q=>∃(p:af)(bs:List Bool),xs=[.ref p]/\SqL X.K H p (bs.map V.bl)/\Q (.bl (bs.all id)) H):=by
 intro pins s σ H xs us Q I r h;obtain⟨p,bs,rfl,hq,q⟩:=h;obtain⟨u,rfl,ru⟩:=yT.one r;cases ru;obtain⟨its,rv,pl,hz⟩:=I.list hq;have plt:p<s.heap.objs.size:=by
  obtain⟨_,e,_⟩:=pl.isList;exact aw e
 refine call_all_walk (dW pl.isList ?_);refine⟨s.heap.objs.size,_,_,_,_,_,λi=>(bs[i]?).getD true,U,nS (A:=X.A.in1) (show X.A.in1.handled=none from I.ok.hd hc) _ p (aP plt) its.toArray,⟨⟨_,ap _ rfl,U,U⟩,kX pl.isList _⟩,λi v s Q E hP hQ=>?_,λh' tk k=>?_⟩
 ·have e:=zNv rv (by simpa using hP);subst e;exact cv hQ
 ·have e:(bv its.toArray.size).all (λi=>(bs[i]?).getD true)=bs.all id:=by
   have hl:=rv.length;rw[aa] at hl;rw[aE,<- hl];exact zSa bs
  rw[e];exact⟨.bl (bs.all id),H,I.kept (t':=tk) λb o z=>k b o (λw=>by rw[av] at w; exact c9 _ (w ▸ aw z)) (ah _ z),rfl,q⟩
theorem zLq(hc:X.calm=true):uL X (.builtin "any") (λxs H Q=>∃(p:af)(bs:List Bool),xs=[.ref p]/\SqL X.K H p (bs.map V.bl)/\Q (.bl (bs.any id)) H):=by
 intro pins s σ H xs us Q I r h;obtain⟨p,bs,rfl,hq,q⟩:=h;obtain⟨u,rfl,ru⟩:=yT.one r;cases ru;obtain⟨its,rv,pl,hz⟩:=I.list hq;have plt:p<s.heap.objs.size:=by
  obtain⟨_,e,_⟩:=pl.isList;exact aw e
 refine call_any_walk (dW pl.isList ?_);refine⟨s.heap.objs.size,_,_,_,_,_,λi=>(bs[i]?).getD true,U,nS (A:=X.A.in1) (show X.A.in1.handled=none from I.ok.hd hc) _ p (aP plt) its.toArray,⟨⟨_,ap _ rfl,U,U⟩,kX pl.isList _⟩,λi v s Q E hP hQ=>?_,λh' tk k=>?_⟩
 ·have e:=zNv rv (by simpa using hP);subst e;exact cv hQ
 ·have e:(bv its.toArray.size).any (λi=>(bs[i]?).getD true)=bs.any id:=by
   have hl:=rv.length;rw[aa] at hl;rw[aE,<- hl];exact zQx bs
  rw[e];exact⟨.bl (bs.any id),H,I.kept (t':=tk) λb o z=>k b o (λw=>by rw[av] at w; exact c9 _ (w ▸ aw z)) (ah _ z),rfl,q⟩
end
end L2

namespace L2
open PySem PySem.Spec PyProof.Rows

def SI(b:Bool)(h:aX)(i l:af)(k:Nat):Prop:=match b with | true=>h.IsListIter i l k | false=>h.IsTupleIter i l k
def SS(b:Bool)(h:aX)(l:af)(its:Array ag):Prop:=match b with | true=>h.IsList l its | false=>h.IsTuple l its
def zJs(b:Bool):String:=match b with | true => "list_iterator" | false => "tuple_iterator"
theorem SI.obj{b:Bool}{h:aX}{i l:af}{k:Nat}(x:SI b h i l k):∃ o,h.get? i=some o/\o.cls=.type (zJs b)/\o.data=.fields #[.ref l,.int k 0]:=by
 cases b <;> exact x
theorem SI.of{b:Bool}{h:aX}{i l:af}{k:Nat}(x:∃ o,h.get? i=some o/\o.cls=.type (zJs b)/\o.data=.fields #[.ref l,.int k 0]):SI b h i l k:=by
 cases b <;> exact x
theorem SI.at{b:Bool}{h h':aX}{i l:af}{k:Nat}(x:SI b h i l k)(e:∀ o,h.get? i=some o->h'.get? i=some o):SI b h' i l k:=by
 obtain⟨o,ho,r⟩:=x.obj;exact SI.of ⟨o,e o ho,r⟩
theorem SS.at{b:Bool}{h h':aX}{l:af}{its:Array ag}(x:SS b h l its)(e:∀ o,h.get? l=some o->h'.get? l=some o):SS b h' l its:=by
 cases b <;>(obtain⟨o,ho,r⟩:=x; exact⟨o,e o ho,r⟩)
theorem SS.obj{b:Bool}{h:aX}{l:af}{its:Array ag}(x:SS b h l its):∃ o,h.get? l=some o/\o.cls=.type (match b with | true => "list" | false => "tuple"):=by
 cases b <;>(obtain⟨o,ho,hc,_⟩:=x; exact⟨o,ho,hc⟩)
section
variable{prog:aK}{w:aU}{A:bI}{E:ag->ai->Prop}{s:ai}
theorem zTi{i l:af}{k:Nat}{its:Array ag}{y:ag}{Q:ag->ai->Prop}(zi:s.heap.IsTupleIter i l k)(zl:s.heap.IsTuple l its)(zy:its[k]?=some y)
  (zq:∀ h',h'.IsTupleIter i l (k+1)->cO i s.heap h'->Q y { s with heap:=h' }):wpAny (model prog w) A (bC (.ref i)) Q E s:=by
 obtain⟨ob,zo,zc,zd⟩:=id zi;obtain⟨ot,zot,_,nt,zdt⟩:=zl;unfold bC;refine ac (bR (name:=aO "__next__") zi.typeIs dG (bU dG zi.typeIs gF ?_ (gf _)));show wpAny _ _ (field (.ref i) 0 >>= _) _ _ s;refine ac (bL zo zd (x:=.ref l) rfl ?_);show wpAny _ _ (if (aI l == bp)=true then _ else _) _ _ s; rw[if_neg (show ¬ ((aI l == bp)=true) from aB)];show wpAny _ _ (field (.ref i) 1 >>= _) _ _ s;refine ac (bL zo zd (x:=.int k 0) rfl ?_);show wpAny _ _ (seqItems? (.ref l) >>= _) _ _ s; refine ac (cR zot zdt ?_);simp only[cw,zy];refine ac (dj zo zd (by simp) (al ⟨y,rfl,al (zq _ ?_ (fj ..))⟩));exact⟨_,cG _ zo (cW (cC zd _)),(eP ..).trans zc,by rw[cC zd]; simp[rawInt]⟩
theorem zXr{i l:af}{k:Nat}{its:Array ag}{Q:ag->ai->Prop}(hh:A.handled=none)(zi:s.heap.IsTupleIter i l k)(zl:s.heap.IsTuple l its)(zy:its[k]?=none)
  (zE:∀ h' e,fF i s.heap h'->(∃ o,h'.get? e=some o/\o.cls=.type "StopIteration")->E (.ref e) { s with heap:=h' }):wpAny (model prog w) A (bC (.ref i)) Q E s:=by
 obtain⟨ob,zo,zc,zd⟩:=id zi;obtain⟨ot,zot,_,nt,zdt⟩:=zl;unfold bC;refine ac (bR (name:=aO "__next__") zi.typeIs dG (bU dG zi.typeIs gF ?_ (gf _)));show wpAny _ _ (field (.ref i) 0 >>= _) _ _ s;refine ac (bL zo zd (x:=.ref l) rfl ?_);show wpAny _ _ (if (aI l == bp)=true then _ else _) _ _ s; rw[if_neg (show ¬ ((aI l == bp)=true) from aB)];show wpAny _ _ (field (.ref i) 1 >>= _) _ _ s;refine ac (bL zo zd (x:=.int k 0) rfl ?_);show wpAny _ _ (seqItems? (.ref l) >>= _) _ _ s; refine ac (cR zot zdt ?_);simp only[cw,zy];refine ac (gL (ac (dj zo zd (by simp) ?_)));show wpAny _ _ (newExc (.type "StopIteration") [] >>= _) _ _ _; refine ac ?_; simp only[newExc,newTuple];refine ac (br ?_ (by size_fits)); refine ac (m:=firstArgMember _ _) (eV (a:=bp) (by first | rfl | (simp only[firstArgMember]; rfl)) ?_);refine br ?_ (by size_fits); simp only[raiseNew]; refine ac (jB ?_)
 first | rw[show A.in1.handled=none from hh] | rw[hh]
 refine ac (al (lH ?_)); exact zE _ _ (((fj ..).extBut.push _).push _) ⟨_,ap _ rfl,rfl⟩
theorem zM1{b:Bool}{i l:af}{k:Nat}{its:Array ag}{y:ag}{Q:ag->ai->Prop}(zi:SI b s.heap i l k)(zl:SS b s.heap l its)(zy:its[k]?=some y)
  (zq:∀ h',SI b h' i l (k+1)->cO i s.heap h'->Q y { s with heap:=h' }):wpAny (model prog w) A (bC (.ref i)) Q E s:=by
 cases b
 ·exact zTi zi zl zy zq
 ·exact wpAny_nextOf_list_item zi zl zy zq
theorem zV3{b:Bool}{i l:af}{k:Nat}{its:Array ag}{Q:ag->ai->Prop}(hh:A.handled=none)(zi:SI b s.heap i l k)(zl:SS b s.heap l its)(zy:its[k]?=none)
  (zE:∀ h' e,fF i s.heap h'->(∃ o,h'.get? e=some o/\o.cls=.type "StopIteration")->E (.ref e) { s with heap:=h' }):wpAny (model prog w) A (bC (.ref i)) Q E s:=by
 cases b
 ·exact zXr hh zi zl zy zE
 ·exact wpAny_nextOf_list_end hh zi zl zy zE
theorem zV4{b:Bool}{l:af}{its:Array ag}{Q:ag->ai->Prop}(zl:SS b s.heap l its)(h:Q (.ref s.heap.objs.size) { s with heap:=s.heap.push { cls:=.type (zJs b),data:=.fields #[.ref l,.int 0 0] } }) :
  wpAny (model prog w) A (pyIter (.ref l)) Q E s:=by
 cases b
 ·exact gM zl h
 ·exact dW zl h

theorem zRd{b1 b2:Bool}{z TI TO i1 i2 l1 l2:af}{k:Nat}{xs ys:Array ag}{x y a b:ag}{Q:ag->ai->Prop}(D:ZipApart z TI TO i1 i2 l1 l2)
  (hz:ik s.heap z TI TO .none) (hI:eW s.heap TI (.ref i1) (.ref i2)) (hO:eW s.heap TO a b) (h1:SI b1 s.heap i1 l1 k) (h2:SI b2 s.heap i2 l2 k) (g1:SS b1 s.heap l1 xs) (g2:SS b2 s.heap l2 ys)
  (hx:xs[k]?=some x) (hy:ys[k]?=some y)
  (hQ:∀ h',ik h' z TI TO (rawInt s.heap.objs.size)->eW h' TO x y->SI b1 h' i1 l1 (k+1)->SI b2 h' i2 l2 (k+1)->eW h' s.heap.objs.size x y ->
   (∀ c o,c≠z->c≠TO->c≠i1->c≠i2->s.heap.get? c=some o->h'.get? c=some o)->Q (.ref s.heap.objs.size) { s with heap:=h' }) :
  wpAny (model prog w) A (eZ.«zip.__next__» ⟨[.ref z],[]⟩) (λfin s'=>∃ v,fin=.done (.ret v)/\Q v s') E s:=by
 show wpAny _ _ (field (.ref z) 2 >>= _) _ _ _; refine ac (bL hz rfl (x:=.bool false) rfl ?_);show wpAny _ _ (field (.ref z) 3 >>= _) _ _ _; refine ac (bL hz rfl (x:=.ref TI) rfl ?_);refine ac (cR hI rfl ?_);show wpAny _ _ (cI (.ref z) >>= _) _ _ _; refine ac ?_; unfold cI;refine ac (bL hz rfl (x:=.none) rfl (al ?_)); simp only[if_true];refine ac (gL ?_); refine ac (bL hz rfl (x:=.ref TO) rfl ?_);refine ac (dH hz (by simp) λk1 z1 s1=>?_); replace z1:ik k1 z TI TO .ellipsis:=z1;refine ac ?_; simp only[c7,lL,iL,lU];refine ac (ac (ic ?_)); show wpAny _ _ (bC (.ref i1) >>= _) _ _ _
 refine ac (zM1 (h1.at λo e=>s1.extBut _ o D.i1z e) (g1.at λo e=>s1.extBut _ o D.l1z e) hx λk2 q2 s2=>al ?_);have o2:eW k2 TO a b:=s2.extBut _ _ D.TOi1 (s1.extBut _ _ D.TOz hO);refine ac (cR o2 rfl ?_);refine ac (fZ o2 λk3 o3 s3=>?_); replace o3:eW k3 TO x b:=o3;refine ac (lI (al ?_)); refine ac (ac (ic ?_)); show wpAny _ _ (bC (.ref i2) >>= _) _ _ _
 refine ac (zM1 (h2.at λo e=>s3.extBut _ o D.TOi2.symm (s2.extBut _ o D.i12.symm (s1.extBut _ o D.i2z e))) (g2.at λo e=>s3.extBut _ o D.l2TO (s2.extBut _ o D.l2i1 (s1.extBut _ o D.l2z e))) hy λk4 q4 s4=>al ?_);have o4:eW k4 TO x b:=s4.extBut _ _ D.TOi2 o3;refine ac (cR o4 rfl ?_);refine ac (fZ o4 λk5 o5 s5=>?_); replace o5:eW k5 TO x y:=o5;refine ac (lI (al (al ?_)));refine ac (cR o5 rfl ?_); refine ac (wpAny_newTuple ?_);have hsz:k5.objs.size=s.heap.objs.size:=by rw[s5.1,s4.1,s3.1,s2.1,s1.1]
 have z5:ik k5 z TI TO .ellipsis:=s5.extBut _ _ D.TOz.symm (s4.extBut _ _ D.i2z.symm (s3.extBut _ _ D.TOz.symm (s2.extBut _ _ D.i1z.symm z1)));have kp:∀ c o,c≠z->c≠TO->c≠i1->c≠i2->s.heap.get? c=some o->k5.get? c=some o:=λc o c1 c2 c3 c4 e=>s5.extBut _ _ c2 (s4.extBut _ _ c4 (s3.extBut _ _ c2 (s2.extBut _ _ c3 (s1.extBut _ _ c1 e))));have a5:SI b1 k5 i1 l1 (k+1):=q2.at λo e=>s5.extBut _ o D.TOi1.symm (s4.extBut _ o D.i12 (s3.extBut _ o D.TOi1.symm e));have b5:SI b2 k5 i2 l2 (k+1):=q4.at λo e=>s5.extBut _ o D.TOi2.symm e;have zlt:z<k5.objs.size:=aw z5;show wpAny _ _ (fk (.ref z) (.ref k5.objs.size) >>= _) _ _ _; refine ac ?_; unfold fk;have z6:ik (k5.push { cls:=.type "tuple",data:=.seq #[x,y] }) z TI TO .ellipsis:=ah _ z5;refine ac (dH z6 (by simp) λk7 z7 s7=>?_); replace z7:ik k7 z TI TO (rawInt k5.objs.size):=z7;refine dH z7 (by simp) λk8 z8 s8=>?_; replace z8:ik k8 z TI TO (rawInt k5.objs.size):=z8;have up:∀ c o,c≠z->k5.get? c=some o->k8.get? c=some o:=λc o c1 e=>s8.extBut _ _ c1 (s7.extBut _ _ c1 (ah _ e));have t8:eW k8 k5.objs.size x y:=s8.extBut _ _ (ej zlt) (s7.extBut _ _ (ej zlt) (ap _ rfl));rw[hsz] at z8 t8;refine al ⟨_,rfl,?_⟩; show Q (.ref k5.objs.size) _
 rw[hsz];exact hQ k8 z8 (up _ _ D.TOz o5) (a5.at λo e=>up _ o D.i1z e) (b5.at λo e=>up _ o D.i2z e) t8 λc o c1 c2 c3 c4 e=>up c o c1 (kp c o c1 c2 c3 c4 e)
theorem zU9{b1 b2:Bool}{z TI TO i1 i2 l1 l2:af}{k:Nat}{xs ys:Array ag}{a b:ag}{Q:Fin->ai->Prop}(hh:A.handled=none)(D:ZipApart z TI TO i1 i2 l1 l2)
  (hz:ik s.heap z TI TO .none) (hI:eW s.heap TI (.ref i1) (.ref i2)) (hO:eW s.heap TO a b) (h1:SI b1 s.heap i1 l1 k) (h2:SI b2 s.heap i2 l2 k) (g1:SS b1 s.heap l1 xs) (g2:SS b2 s.heap l2 ys)
  (hend:xs[k]?=none\/ys[k]?=none)
  (hE:∀ h' e,(∀ c o,c≠z->c≠TO->c≠i1->c≠i2->s.heap.get? c=some o->h'.get? c=some o)->(∃ o,h'.get? e=some o/\o.cls=.type "StopIteration")->E (.ref e) { s with heap:=h' }) :
  wpAny (model prog w) A (eZ.«zip.__next__» ⟨[.ref z],[]⟩) Q E s:=by
 show wpAny _ _ (field (.ref z) 2 >>= _) _ _ _; refine ac (bL hz rfl (x:=.bool false) rfl ?_);show wpAny _ _ (field (.ref z) 3 >>= _) _ _ _; refine ac (bL hz rfl (x:=.ref TI) rfl ?_);refine ac (cR hI rfl ?_);show wpAny _ _ (cI (.ref z) >>= _) _ _ _; refine ac ?_; unfold cI;refine ac (bL hz rfl (x:=.none) rfl (al ?_)); simp only[if_true];refine ac (gL ?_); refine ac (bL hz rfl (x:=.ref TO) rfl ?_);refine ac (dH hz (by simp) λk1 z1 s1=>?_); replace z1:ik k1 z TI TO .ellipsis:=z1;refine ac ?_; simp only[c7,lL,iL,lU];refine ac (ac (ic ?_)); show wpAny _ _ (bC (.ref i1) >>= _) _ _ _
 cases hx:xs[k]? with
 | none =>
  refine ac (zV3 hh (h1.at λo e=>s1.extBut _ o D.i1z e) (g1.at λo e=>s1.extBut _ o D.l1z e) hx λk2 e s2 he=>?_);obtain⟨oe,hoe,hce⟩:=he;have z2:ik k2 z TI TO .ellipsis:=s2 _ _ D.i1z.symm z1;have nez:e≠z:=λx=>by subst x; rw[z2] at hoe; cases hoe; simp at hce
  refine dH z2 (by simp) λk3 _ s3=>hE k3 e (λc o c1 _ c3 _ x=>s3.extBut _ _ c1 (s2 _ _ c3 (s1.extBut _ _ c1 x))) ⟨oe,s3.extBut _ _ nez hoe,hce⟩
 | some x =>
  have hy:ys[k]?=none:=by
   rcases hend with h | h
   ·rw[hx] at h; cases h
   ·exact h
  refine ac (zM1 (h1.at λo e=>s1.extBut _ o D.i1z e) (g1.at λo e=>s1.extBut _ o D.l1z e) hx λk2 q2 s2=>al ?_);have o2:eW k2 TO a b:=s2.extBut _ _ D.TOi1 (s1.extBut _ _ D.TOz hO);refine ac (cR o2 rfl ?_); refine ac (fZ o2 λk3 o3 s3=>?_);refine ac (lI (al ?_)); refine ac (ac (ic ?_)); show wpAny _ _ (bC (.ref i2) >>= _) _ _ _
  refine ac (zV3 hh (h2.at λo e=>s3.extBut _ o D.TOi2.symm (s2.extBut _ o D.i12.symm (s1.extBut _ o D.i2z e))) (g2.at λo e=>s3.extBut _ o D.l2TO (s2.extBut _ o D.l2i1 (s1.extBut _ o D.l2z e))) hy λk4 e s4 he=>?_);obtain⟨oe,hoe,hce⟩:=he;have z4:ik k4 z TI TO .ellipsis:=s4 _ _ D.i2z.symm (s3.extBut _ _ D.TOz.symm (s2.extBut _ _ D.i1z.symm z1));have nez:e≠z:=λx=>by subst x; rw[z4] at hoe; cases hoe; simp at hce
  refine dH z4 (by simp) λk5 _ s5=>hE k5 e (λc o c1 c2 c3 c4 x=>s5.extBut _ _ c1 (s4 _ _ c4 (s3.extBut _ _ c2 (s2.extBut _ _ c3 (s1.extBut _ _ c1 x))))) ⟨oe,s5.extBut _ _ nez hoe,hce⟩
def zYr(b1 b2:Bool)(l1 l2:af)(h:aX):aX :=
 ((((h.push { cls:=.type (zJs b1),data:=.fields #[.ref l1,.int 0 0] }).push { cls:=.type (zJs b2),data:=.fields #[.ref l2,.int 0 0] }).push { cls:=.type "tuple",data:=.seq #[.ref h.objs.size,.ref (h.objs.size+1)] }).push { cls:=.type "tuple",data:=.seq #[.none,.none] }).push { cls:=.type "zip",data:=.fields #[.none,.bool false,.bool false,.ref (h.objs.size+2),.ref (h.objs.size+3)] }
theorem zTc(b1 b2:Bool)(l1 l2:af)(xs ys:Array ag) :
  Meets (eZ.«zip.__new__» ⟨[.type "zip",.ref l1,.ref l2],[]⟩) (λ_ R s=>SS b1 s.heap l1 xs/\SS b2 s.heap l2 ys /\
   R (.ok (.ret (.ref (s.heap.objs.size+4)))) { s with heap:=zYr b1 b2 l1 l2 s.heap }) :=
 .of_wp λprog w A R s h=>by
  obtain⟨hp,g,d,tk,os⟩:=s;obtain⟨hl1,hl2,h⟩:=h;have hsub:=sub_zip;have hL1:SS b1 (nN ⟨hp,g,d,tk,os⟩) l1 xs:=hl1;have hL2:SS b2 (nN ⟨hp.push { cls:=.type (zJs b1),data:=.fields #[.ref l1,.int 0 0] },g,d,tk,os⟩) l2 ys:=SS.at hl2 λo e=>ah _ e
  wp_walk using zV4 hL1,zV4 hL2
  exists _,rfl;simp only[zYr,dh] at h ⊢;exact h
theorem zQ5{b1 b2:Bool}{l1 l2:af}{xs ys:Array ag}{Q:ag->ai->Prop}(hl1:SS b1 s.heap l1 xs)(hl2:SS b2 s.heap l2 ys)
  (h:∀ h',ik h' (s.heap.objs.size+4) (s.heap.objs.size+2) (s.heap.objs.size+3) .none->eW h' (s.heap.objs.size+2) (.ref s.heap.objs.size) (.ref (s.heap.objs.size+1))->eW h' (s.heap.objs.size+3) .none .none ->
   SI b1 h' s.heap.objs.size l1 0->SI b2 h' (s.heap.objs.size+1) l2 0->(∀ c o,s.heap.get? c=some o->h'.get? c=some o)->Q (.ref (s.heap.objs.size+4)) { s with heap:=h' }) :
  wpAny (model prog w) A (call (.type "zip") [.ref l1,.ref l2]) Q E s:=by
 refine callType_new F.called_zip (by decide) (F.typeCall_zip_2 _ _) (F.newCall_zip_2 _ _) (λobj=>F.args_object_init_3 obj _ _) F.entry_zip_new (zTc b1 b2 l1 l2 xs ys) ⟨hl1,hl2,?_⟩;unfold zYr;generalize e1:s.heap.push { cls:=.type (zJs b1),data:=.fields #[.ref l1,.int 0 0] }=k1;have n1:k1.objs.size=s.heap.objs.size+1:=by rw[<- e1,dh]
 generalize e2:k1.push { cls:=.type (zJs b2),data:=.fields #[.ref l2,.int 0 0] }=k2;have n2:k2.objs.size=s.heap.objs.size+2:=by rw[<- e2,dh,n1]
 generalize e3:k2.push { cls:=.type "tuple",data:=.seq #[.ref s.heap.objs.size,.ref (s.heap.objs.size+1)] }=k3;have n3:k3.objs.size=s.heap.objs.size+3:=by rw[<- e3,dh,n2]
 generalize e4:k3.push { cls:=.type "tuple",data:=.seq #[.none,.none] }=k4;have n4:k4.objs.size=s.heap.objs.size+4:=by rw[<- e4,dh,n3]
 generalize e5:k4.push { cls:=.type "zip",data:=.fields #[.none,.bool false,.bool false,.ref (s.heap.objs.size+2),.ref (s.heap.objs.size+3)] }=k5;have u5:∀ c o,k4.get? c=some o->k5.get? c=some o:=λc o q=>e5 ▸ ah _ q;have u4:∀ c o,k3.get? c=some o->k5.get? c=some o:=λc o q=>u5 c o (e4 ▸ ah _ q);have u3:∀ c o,k2.get? c=some o->k5.get? c=some o:=λc o q=>u4 c o (e3 ▸ ah _ q);have u2:∀ c o,k1.get? c=some o->k5.get? c=some o:=λc o q=>u3 c o (e2 ▸ ah _ q);have u1:∀ c o,s.heap.get? c=some o->k5.get? c=some o:=λc o q=>u2 c o (e1 ▸ ah _ q);have g5:ik k5 (s.heap.objs.size+4) (s.heap.objs.size+2) (s.heap.objs.size+3) .none:=by
  rw[<- n4,<- e5];exact ap _ rfl
 have g4:eW k5 (s.heap.objs.size+3) .none .none:=by
  rw[<- n3];exact u5 _ _ (by rw[<- e4]; exact ap _ rfl)
 have g3:eW k5 (s.heap.objs.size+2) (.ref s.heap.objs.size) (.ref (s.heap.objs.size+1)):=by
  have q:=u4 k2.objs.size _ (by rw[<- e3]; exact ap _ rfl);rw[n2] at q;exact q
 have g2:SI b2 k5 (s.heap.objs.size+1) l2 0:=by
  rw[<- n1];exact SI.of ⟨_,u3 _ _ (by rw[<- e2]; exact ap _ rfl),rfl,rfl⟩
 have g1:SI b1 k5 s.heap.objs.size l1 0:=SI.of ⟨_,u2 _ _ (by rw[<- e1]; exact ap _ rfl),rfl,rfl⟩;exact⟨⟨_,g5,U⟩,h k5 g5 g3 g4 g1 g2 u1⟩
end
end L2

namespace L2
open PySem PySem.Spec PyProof.Rows
def SqB(b:Bool)(K:ae)(H:Hp)(l:af)(xs:List V):Prop:=match b with | true=>SqL K H l xs | false=>SqT K H l xs
theorem Inv.sqB{X:Cx}{pins:List (af×cD)}{σ:St}{H:Hp}{s:ai}{b:Bool}{l:af}{xs:List V}(I:Inv X pins σ H s)(h:SqB b X.K H l xs):∃ its:List ag,yT xs its/\SS b s.heap l its.toArray/\xs.length<=sizeLine:=by
 cases b with
 | true =>
  obtain⟨its,r,p,z⟩:=I.list h;exact⟨its,r,p.isList,z⟩
 | false =>
  obtain⟨its,r,p,z⟩:=I.tuple h;exact⟨its,r,p,z⟩
theorem Inv.sqB_inj{X:Cx}{pins:List (af×cD)}{σ:St}{H:Hp}{s:ai}{b:Bool}{l:af}{xs ys:List V}(I:Inv X pins σ H s)(h:SqB b X.K H l xs)(h':SqB b X.K H l ys):xs=ys:=by
 cases b with
 | true=>exact I.list_inj h h'
 | false=>exact I.tuple_inj h h'
def Itz(K:ae)(b1 b2:Bool)(l1 l2:af):It :=
 ⟨λk H=>∃ xs ys x y,SqB b1 K H l1 xs/\SqB b2 K H l2 ys/\xs[k]?=some x/\ys[k]?=some y,
   λk H v H'=>∃ T x y,v=.ref T/\H T=none/\H'=upd H T (.tup [x,y])/\(∀ xs,SqB b1 K H l1 xs->xs[k]?=some x)/\(∀ ys,SqB b2 K H l2 ys->ys[k]?=some y),
   λk H=>∃ xs ys,SqB b1 K H l1 xs/\SqB b2 K H l2 ys/\(xs.length<=k\/ys.length<=k)⟩
theorem zUr{P:aK}{w:aU}{K:ae}{elts:List bx}{kt:Nat}{pt:fh}{b1 b2:Bool}{z TI TO i1 i2 l1 l2:af}(D:ZipApart z TI TO i1 i2 l1 l2) :
  zV7 P w K (.Tuple elts kt pt) (Itz K b1 b2 l1 l2) [z,TI,TO,i1,i2] z (λk h=>ik h z TI TO .none/\eW h TI (.ref i1) (.ref i2)/\(∃ a b,eW h TO a b)/\SI b1 h i1 l1 k/\SI b2 h i2 l2 k) where
 mem:=by simp
 obj:=λk h st b hb=>by
  obtain⟨hz,hI,⟨a',b',hO⟩,h1,h2⟩:=st;obtain⟨o1,g1,_,d1⟩:=h1.obj;obtain⟨o2,g2,_,d2⟩:=h2.obj;simp only[aA,bA,or_false] at hb;rcases hb with rfl | rfl | rfl | rfl | rfl
  ·exact⟨_,hz,λv e=>by cases e⟩
  ·exact⟨_,hI,λv e=>by cases e⟩
  ·exact⟨_,hO,λv e=>by cases e⟩
  ·exact⟨_,g1,λv e=>by rw[d1] at e; cases e⟩
  ·exact⟨_,g2,λv e=>by rw[d2] at e; cases e⟩
 keep:=λk h h' st kp=>by
  obtain⟨hz,hI,⟨a',b',hO⟩,h1,h2⟩:=st;exact⟨kp z (by simp) _ hz,kp TI (by simp) _ hI,⟨a',b',kp TO (by simp) _ hO⟩,h1.at λo e=>kp i1 (by simp) o e,h2.at λo e=>kp i2 (by simp) o e⟩
 item:=by
  intro X hP hw hK hc k pins s σ H E I hf st hg;subst hP hw hK;obtain⟨hz,hI,⟨a',b',hO⟩,h1,h2⟩:=st;obtain⟨xs,ys,x,y,q1,q2,hx,hy⟩:=hg;obtain⟨its1,r1,p1,_⟩:=I.sqB q1;obtain⟨its2,r2,p2,_⟩:=I.sqB q2;obtain⟨u1,e1,v1⟩:=r1.get hx;obtain⟨u2,e2,v2⟩:=r2.get hy;have hT:s.TypeIs (.ref z) "zip" :=⟨_,hz,rfl⟩;have fresh:H s.heap.objs.size=none:=I.hok.fresh (am _);unfold pyNext;refine ac (dZ (bR (name:=aO "__next__") hT gg (bU gg hT kY (zRd D hz hI hO h1 h2 p1 p2 (by simpa using e1) (by simpa using e2) λh' z1 o1 j1 j2 t1 kp=>al ?_) (ku _))));refine⟨_,rfl,wpAny_letOwnedTupleGo_zip z1 λh2' z2 sb=>?_⟩;have kp2:∀ c o,c ∉ [z,TO,i1,i2]->s.heap.get? c=some o->h2'.get? c=some o:=λc o hc e=>by
   simp only[aA,bA,or_false,not_or] at hc;exact sb.extBut c o hc.1 (kp c o hc.1 hc.2.1 hc.2.2.1 hc.2.2.2 e)
  have nH:∀ c∈[z,TO,i1,i2],c∈[z,TI,TO,i1,i2]:=λc hc=>by
   simp only[aA,bA,or_false] at hc ⊢;rcases hc with e | e | e | e <;> simp[e]
  have neT:∀ b o,s.heap.get? b=some o->b≠s.heap.objs.size:=λb o e=>aP (aw e);have neH:∀ b o,H b=some o->b ∉ [z,TO,i1,i2]:=λb o e hb=>by
   rw[(hf b (nH b hb)).1] at e;cases e
  have upn:∀ b o,H b=some o->upd H s.heap.objs.size (.tup [x,y]) b=some o:=λb o e=>by
   rw[zG (zL e fresh)];exact e
  refine⟨.ref s.heap.objs.size,upd H s.heap.objs.size (.tup [x,y]),?_,U,⟨_,x,y,U,fresh,U,λzs hz'=>by rw[I.sqB_inj hz' q1]; exact hx,λzs hz'=>by rw[I.sqB_inj hz' q2]; exact hy⟩,?_,λb hb=>?_⟩
  ·refine Inv.step (s:=s) (h':=h2') (g':=s.gens) (d':=s.drawn) (t':=s.toks) (ch:=[z,TO,i1,i2]) I (λb hb=>?_) (λb o _ _ hc e _=>kp2 b o hc e) (λb o _ _ hc e _=>⟨o.slots,kp2 b o hc e⟩) (λb o _ e n=>?_) (λb o hc e=>⟨o,kp2 b o hc e⟩)
    (λb zs e=>upn b _ e) (λb o zs e=>upn b _ e) (λb ps e=>⟨#[],by rw[upn b _ e]; simp⟩) (λm hm=>?_) (λb o e=>?_) I.bare
   ·obtain⟨_,f1,_,f3,f4,f5⟩:=hf b (nH b hb);exact⟨f3,f1,f4,f5⟩
   ·rw[zG (neT b o e)];exact n
   ·obtain⟨o,es,ep,ho,r⟩:=hm;refine⟨o,es,ep,kp2 _ o (λhb=>?_) ho,r⟩;exact(hf _ (nH _ hb)).2.1 rfl
   ·by_cases hb:b=s.heap.objs.size
    ·subst hb;rw[zA] at e;cases e;exact⟨by show 2<=sizeLine; decide,[u1,u2],.cons v1 (.cons v2 .nil),_,sb.extBut _ _ (ej (aw hz)) t1,rfl,_,rfl⟩
    ·rw[zG hb] at e;refine(I.hok b o e).stay (λc u hc q=>kp2 c u ?_ q) (λc q=>upn c _ q) λc zs q=>upn c _ q;rcases hc with hc | hc
     ·rw[hc]; exact neH b o e
     ·exact neH c _ hc
  ·exact⟨z2,sb.extBut _ _ D.TIz (kp _ _ D.TIz D.TITO D.TIi1 D.TIi2 hI),⟨_,_,sb.extBut _ _ D.TOz o1⟩,j1.at λo e=>sb.extBut _ o D.i1z e,j2.at λo e=>sb.extBut _ o D.i2z e⟩
  ·obtain⟨o,e,_⟩:∃ o,s.heap.get? b=some o/\True:=by
    obtain⟨o1,g1,_⟩:=h1.obj;obtain⟨o2,g2,_⟩:=h2.obj;simp only[aA,bA,or_false] at hb;rcases hb with rfl | rfl | rfl | rfl | rfl
    ·exact⟨_,hz,trivial⟩
    ·exact⟨_,hI,trivial⟩
    ·exact⟨_,hO,trivial⟩
    ·exact⟨_,g1,trivial⟩
    ·exact⟨_,g2,trivial⟩
   rw[zG (neT b o e)];exact(hf b hb).1
 done:=by
  intro X hP hw hK hc k pins s σ H E I hf st hg;subst hP hw hK;obtain⟨hz,hI,⟨a',b',hO⟩,h1,h2⟩:=st;obtain⟨xs,ys,q1,q2,hend⟩:=hg;obtain⟨its1,r1,p1,_⟩:=I.sqB q1;obtain⟨its2,r2,p2,_⟩:=I.sqB q2;have hT:s.TypeIs (.ref z) "zip" :=⟨_,hz,rfl⟩;have hend':its1.toArray[k]?=none\/its2.toArray[k]?=none:=by
   have l1':=r1.length;have l2':=r2.length;rcases hend with h | h
   ·exact .inl (eB (by rw[aE]; lia))
   ·exact .inr (eB (by rw[aE]; lia))
  have nH:∀ c∈[z,TO,i1,i2],c∈[z,TI,TO,i1,i2]:=λc hc=>by
   simp only[aA,bA,or_false] at hc ⊢;rcases hc with e | e | e | e <;> simp[e]
  have neH:∀ b o,H b=some o->b ∉ [z,TO,i1,i2]:=λb o e hb=>by
   rw[(hf b (nH b hb)).1] at e;cases e
  unfold pyNext;refine ac (dZ (bR (name:=aO "__next__") hT gg (bU gg hT kY (zU9 (I.ok.hd hc) D hz hI hO h1 h2 p1 p2 hend' λh' e kp he=>?_) (ku _))));obtain⟨oe,hoe,hce⟩:=he;refine ac (fS (T := "StopIteration") (b:=true) ⟨oe,hoe,hce⟩ isSubtype_stop (al ⟨rfl,?_⟩));have kp2:∀ c o,c ∉ [z,TO,i1,i2]->s.heap.get? c=some o->h'.get? c=some o:=λc o hc e=>by
   simp only[aA,bA,or_false,not_or] at hc;exact kp c o hc.1 hc.2.1 hc.2.2.1 hc.2.2.2 e
  refine I.step (g':=s.gens) (d':=s.drawn) (t':=s.toks) (ch:=[z,TO,i1,i2]) (λb hb=>?_) (λb o _ _ hc e _=>kp2 b o hc e) (λb o _ _ hc e _=>⟨o.slots,kp2 b o hc e⟩) (λb o _ e n=>n) (λb o hc e=>⟨o,kp2 b o hc e⟩)
   (λb zs e=>e) (λb o zs e=>e) (λb ps e=>⟨#[],by rw[e]; simp⟩) (λm hm=>?_) (λb o e=>?_) I.bare
  ·obtain⟨_,f1,_,f3,f4,f5⟩:=hf b (nH b hb);exact⟨f3,f1,f4,f5⟩
  ·obtain⟨o,es,ep,ho,r⟩:=hm;refine⟨o,es,ep,kp2 _ o (λhb=>?_) ho,r⟩;exact(hf _ (nH _ hb)).2.1 rfl
  ·refine(I.hok b o e).stay (λc u hc q=>kp2 c u ?_ q) (λc q=>q) λc zs q=>q;rcases hc with hc | hc
   ·rw[hc]; exact neH b o e
   ·exact neH c _ hc
 self:=λ_ _ _ _ _ st h=>kZ st.1 h
section
variable{X:Cx}
def iZip(K:ae)(ta:TA):TI:=λσ H R=>ta σ H λvs H1=>∃(b1 b2:Bool)(l1 l2:af)(xs ys:List V),vs=[.ref l1,.ref l2]/\SqB b1 K H1 l1 xs/\SqB b2 K H1 l2 ys/\R (Itz K b1 b2 l1 l2) H1
theorem zY7{elts:List bx}{kt:Nat}{pt:fh}{a b:bx}{ta:TA}{p pos:fh}(hg:Gl X "zip")(hm:X.mg "zip" = none)(ha:PA X [a,b] ta)(hs:starEach [a,b] X.env=[(false,eval a X.env),(false,eval b X.env)]:=by rfl)(hs2:starEach [b] X.env=[(false,eval b X.env)]:=by rfl) :
  PI X (.Tuple elts kt pt) (.Call (.Name "zip" p) [a,b] [] pos) (iZip X.K ta):=by
 intro pins s σ H R I h;refine Call_ (zHt I hg hm zZf (dC (thn (ha pos pins s σ H _ I h) λus s1 ⟨vs,H1,I1,r1,q1⟩=>?_) (by rw[hs,hs2]) (by rw[hs2]; rfl)));obtain⟨b1,b2,l1,l2,xs,ys,e,g1,g2,q⟩:=q1;subst e;obtain⟨u1,u2,rfl,v1,v2⟩:=yT.two r1;cases v1;cases v2;obtain⟨its1,_,p1,_⟩:=I1.sqB g1;obtain⟨its2,_,p2,_⟩:=I1.sqB g2;have a1:l1<s1.heap.objs.size:=by
  obtain⟨o,e,_⟩:=p1.obj;exact aw e
 have a2:l2<s1.heap.objs.size:=by
  obtain⟨o,e,_⟩:=p2.obj;exact aw e
 refine zQ5 p1 p2 λh' hz hI hO j1 j2 kp=>?_;refine kZ hz ?_;refine⟨_,_,_,_,H1,U,I1.kept (t':=s1.toks) kp,zUr (zipApart_new a1 a2),⟨hz,hI,⟨_,_,hO⟩,j1,j2⟩,λb hb=>?_,q⟩;have hge:s1.heap.objs.size<=b:=by
  simp only[aA,bA,or_false] at hb;rcases hb with rfl | rfl | rfl | rfl | rfl <;> lia
 exact I1.fpOk hge (I1.hok.fresh hge)
end
section
variable{K:ae}{b1 b2:Bool}{l1 l2 D:af}{xs ys:List V}{g:TG}{tt:TT}{te:TE}{σ0:St}{H1:Hp}{Q:VK}
theorem zTa(Pv:Nat->St->List V->Hp->Prop)(h0:Pv 0 σ0 [] (upd H1 D (.lst [])))(hl:∀ i σ zs H,Pv i σ zs H->SqB b1 K H l1 xs/\SqB b2 K H l2 ys/\H D=some (.lst zs))
  (hs:∀ i x y T σ zs H,xs[i]?=some x->ys[i]?=some y->H T=none->Pv i σ zs H->g (.ref T) σ (upd H T (.tup [x,y])) λσ2 H2=>tt σ2 H2 λb H3 =>
   if b=true then te σ2 H3 λz H4=>H4 D=some (.lst zs)/\zs.length<sizeLine/\Pv (i+1) σ2 (zs++[z]) (upd H4 D (.lst (zs++[z]))) else Pv (i+1) σ2 zs H3)
  (hd:∀ σ zs H,Pv (min xs.length ys.length) σ zs H->Q (.ref D) H):zDd (Itz K b1 b2 l1 l2) D g tt te σ0 H1 Q:=by
 exists λi m σ zs H=>m=min xs.length ys.length-i/\i<=min xs.length ys.length/\Pv i σ zs H,⟨_,U,bw _,h0⟩;rintro i m σ zs H ⟨rfl,hi,p⟩;obtain⟨q1,q2,qd⟩:=hl i σ zs H p;exists qd;by_cases hlt:i<min xs.length ys.length
 ·have c1:i<xs.length:=by lia
  have c2:i<ys.length:=by lia
  refine .inr ⟨⟨xs,ys,xs[i],ys[i],q1,q2,by simp[c1],by simp[c2]⟩,Pv (i+1),λσ' zs' H' z=>⟨min xs.length ys.length-(i+1),by lia,rfl,hlt,z⟩,λv H' y=>?_⟩;obtain⟨T,x,y,rfl,hT,rfl,y1,y2⟩:=y;exact hs i x y T σ zs H (y1 xs q1) (y2 ys q2) hT p
 ·have e:i=min xs.length ys.length:=by lia
  subst e;exact .inl ⟨⟨xs,ys,q1,q2,by lia⟩,hd σ zs H p⟩
theorem zK8(Pv:Nat->St->List V->Hp->Prop)(h0:Pv 0 σ0 [] (upd H1 D (.lst [])))(hl:∀ i σ zs H,Pv i σ zs H->SqB b1 K H l1 xs/\SqB b2 K H l2 ys/\H D=some (.lst zs))
  (hs:∀ i x y T σ zs H,xs[i]?=some x->ys[i]?=some y->H T=none->Pv i σ zs H->g (.ref T) σ (upd H T (.tup [x,y])) λσ2 H2=>te σ2 H2 λz H4=>H4 D=some (.lst zs)/\zs.length<sizeLine/\Pv (i+1) σ2 (zs++[z]) (upd H4 D (.lst (zs++[z]))))
  (hd:∀ σ zs H,Pv (min xs.length ys.length) σ zs H->Q (.ref D) H):zDd (Itz K b1 b2 l1 l2) D g zW3 te σ0 H1 Q:=zTa Pv h0 hl (λi x y T σ zs H e1 e2 e3 p=>hs i x y T σ zs H e1 e2 e3 p) hd
end
end L2

namespace L2
open PySem PySem.Spec PyProof.Rows
theorem ifD{p A B:Prop}[Decidable p](h1:p->A)(h2:¬ p->B):if decide p=true then A else B:=by
 by_cases h:p
 ·rw[if_pos (decide_eq_true h)]; exact h1 h
 ·rw[if_neg (by rw[decide_eq_false h]; exact aB)]; exact h2 h
theorem ifN{p A B:Prop}[Decidable p](h1:¬ p->A)(h2:p->B):if (!decide p)=true then A else B:=by
 by_cases h:p
 ·rw[if_neg (by rw[decide_eq_true h]; exact aB)]; exact h2 h
 ·rw[if_pos (by rw[decide_eq_false h]; rfl)]; exact h1 h
theorem ifE{x y:Int}{A B:Prop}(h1:x=y->A)(h2:x≠y->B):if decide (V.int x=V.int y)=true then A else B :=
 ifD (λh=>h1 (V.int.inj h)) λh=>h2 λe=>h (congrArg V.int e)
theorem ifNe{x y:Int}{A B:Prop}(h1:x≠y->A)(h2:x=y->B):if (!decide (V.int x=V.int y))=true then A else B :=
 ifN (λh=>h1 λe=>h (congrArg V.int e)) λh=>h2 (V.int.inj h)
theorem decI{x y:Int}(h:x=y):decide (V.int x=V.int y)=true:=decide_eq_true (congrArg V.int h)
theorem zD{H:Hp}{p:af}(h:H p=none)(o:HO):Same H (upd H p o):=λb u q=>by rw[zG (zL q h)]; exact q
theorem zDg{ns:List Int}{i:Nat}{x:V}(h:(ns.map V.int)[i]?=some x):∃ n,ns[i]?=some n/\x=.int n:=by
 rw[ak] at h;cases e:ns[i]? with
 | none=>rw[e] at h; cases h
 | some n=>rw[e] at h; exact⟨n,U,(bh h).symm⟩
theorem zS2{α:Type}{l:List α}{i:Nat}{x:α}(h:l[i]?=some x):l.take (i+1)=l.take i++[x]:=by
 rw[bN,h]; rfl
theorem zC1{n:Nat}(h:n<=1000):n<=sizeLine:=dB (zV h)
theorem SqT.same{K:ae}{H H':Hp}{a:af}{xs:List V}(h:SqT K H a xs)(e:Same H H'):SqT K H' a xs:=by
 rcases h with h | h
 ·rcases h with h | ⟨o,h⟩
  ·exact .inl (.inl (e _ _ h))
  ·exact .inl (.inr ⟨o,e _ _ h⟩)
 ·exact .inr h
def zTf(t:TT):Prop:=∀(σ:St)(H:Hp)(Q Q':Bool->Hp->Prop),(∀ b H1,Q b H1->Q' b H1)->t σ H Q->t σ H Q'
def zKu(t:TE):Prop:=∀(σ:St)(H:Hp)(Q Q':VK),(∀ b H1,Q b H1->Q' b H1)->t σ H Q->t σ H Q'
def zTe(t:TA):Prop:=∀(σ:St)(H:Hp)(Q Q':List V->Hp->Prop),(∀ b H1,Q b H1->Q' b H1)->t σ H Q->t σ H Q'
def zZl(r:R2):Prop:=∀(x y:V)(H:Hp)(Q Q':VK),(∀ b H1,Q b H1->Q' b H1)->r x y H Q->r x y H Q'
def ya9(r:List V->Hp->VK->Prop):Prop:=∀(xs:List V)(H:Hp)(Q Q':VK),(∀ b H1,Q b H1->Q' b H1)->r xs H Q->r xs H Q'
theorem zJt{i:Nat} : zKu (zMr i):=λ_ _ _ _ hq ⟨v,e,z⟩=>⟨v,e,hq _ _ z⟩
theorem mo_c{v:V} : zKu (tC v):=λ_ _ _ _ hq z=>hq _ _ z
theorem zYc{r:R2}{ta tb:TE}(hr:zZl r)(ha:zKu ta)(hb:zKu tb):zKu (tOp r ta tb):=λσ _ _ _ hq z=>ha σ _ _ _ (λ_ _ z=>hb σ _ _ _ (λ_ _ z=>hr _ _ _ _ _ hq z) z) z
theorem zWz{g:Int->Int->V} : zZl (rI0 g):=λ_ _ _ _ _ hq ⟨i,j,e1,e2,z⟩=>⟨i,j,e1,e2,hq _ _ z⟩
theorem zMt{t:TE}(h:zKu t):zTf (zXd t):=λσ _ _ _ hq z=>h σ _ _ _ (λ_ _ ⟨k,e,z⟩=>⟨k,e,hq _ _ z⟩) z
theorem zZ0{t u:TT}(h:zTf t)(h':zTf u):zTf (tAnd t u):=λσ _ _ _ hq z=>h σ _ _ _ (λb _ z=>by
 cases b with
 | true=>exact h' σ _ _ _ hq z
 | false=>exact hq _ _ z) z
theorem zWi:zTe zPk:=λ_ _ _ _ hq z=>hq _ _ z
theorem zP8{te:TE}{ta:TA}(h:zKu te)(h':zTe ta):zTe (tJ te ta):=λσ _ _ _ hq z=>h σ _ _ _ (λ_ _ z=>h' σ _ _ _ (λ_ _ z=>hq _ _ z) z) z
theorem yd2{r:List V->Hp->VK->Prop}{t:TA}(hr:ya9 r)(h:zTe t):zKu (tCB r t):=λσ _ _ _ hq z=>h σ _ _ _ (λ_ _ z=>hr _ _ _ _ hq z) z
theorem zVt{K:ae} : ya9 (λxs H Q=>∃ p ys,xs=[.ref p]/\(SqL K H p ys\/SqT K H p ys)/\Q (.int ys.length) H):=λ_ _ _ _ hq ⟨p,ys,e,s,z⟩=>⟨p,ys,e,s,hq _ _ z⟩
theorem zBx(ns:List Int)(lo hi:Option Int):rG (ns.map V.int) lo hi=((ns.drop (HT.sIx ns.length 0 lo)).take (HT.sIx ns.length ns.length hi-HT.sIx ns.length 0 lo)).map V.int:=by
 unfold rG;rw[aa,jC,jD]
end L2

namespace L2
open PySem PySem.Spec PyProof.Rows
theorem yc5{A:bI}{s:ai}{xs ys:List Int}{us ws:List ag}(r1:yT (xs.map V.int) us)(r2:yT (ys.map V.int) ws):∀ j (h1:j<us.toArray.size) (h2:j<ws.toArray.size),
  jO A s us.toArray[j] ws.toArray[j] (decide (xs[j]?=ys[j]?)):=λj h1 h2=>by
 have l1:=r1.length;have l2:=r2.length;rw[aa] at l1 l2;have g1:j<us.length:=by simpa using h1
 have g2:j<ws.length:=by simpa using h2
 have k1:j<xs.length:=by lia
 have k2:j<ys.length:=by lia
 obtain⟨u,hu,t,ru⟩:=r1.get (i:=j) (x:=.int xs[j]) (by rw[ak,aj k1]; rfl);obtain⟨w,hw,t',rw'⟩:=r2.get (i:=j) (x:=.int ys[j]) (by rw[ak,aj k2]; rfl);have e1:us.toArray[j]=.int xs[j] t:=by
  have z:=aj g1;rw[hu] at z;rw[jh,<- bh z,ru]
 have e2:ws.toArray[j]=.int ys[j] t':=by
  have z:=aj g2;rw[hw] at z;rw[jh,<- bh z,rw']
 rw[e1,e2];have e3:decide (xs[j]?=ys[j]?)=(xs[j] == ys[j]):=by
  rw[aj k1,aj k2];by_cases h:xs[j]=ys[j]
  ·rw[h]; simp
  ·rw[decide_eq_false (λz=>h (bh z))];exact(beq_eq_false_iff_ne.mpr h).symm
 rw[e3];exact jP _ _ _ _
theorem zX0{xs ys:List Int} : ((bv (min xs.length ys.length)).all (λj=>decide (xs[j]?=ys[j]?))&&xs.length == ys.length)=decide (xs=ys):=by
 by_cases h:xs=ys
 ·subst h;rw[decide_eq_true rfl,be];exact⟨aT.mpr λj _=>decide_eq_true rfl,by simp⟩
 ·rw[decide_eq_false h,Bool.and_eq_false_iff];by_cases hl:xs.length=ys.length
  ·left;rw[fJ];intro z;apply h;rw[aT] at z;refine g9 λj=>?_;by_cases hj:j<xs.length
   ·exact of_decide_eq_true (z j (bg.mpr (by lia)))
   ·rw[cu (by lia),cu (by lia)]
  ·right;exact beq_eq_false_iff_ne.mpr hl
section
variable{X:Cx}
def rEqT(K:ae)(neg:Bool):R2:=λx y H Q=>∃(a b:af)(xs ys:List Int),x=.ref a/\y=.ref b/\SqT K H a (xs.map V.int)/\SqT K H b (ys.map V.int)/\Q (.bl (if neg then !decide (xs=ys) else decide (xs=ys))) H
theorem zN1(hu:X.A.units<cLine):OpR X (compareOp .Eq) (rEqT X.K false):=by
 intro pins s σ H x y v u Q I rx ry h;obtain⟨a,b,xs,ys,rfl,rfl,h1,h2,q⟩:=h;cases rx;cases ry;obtain⟨us,r1,p1,_⟩:=I.tuple h1;obtain⟨ws,r2,p2,_⟩:=I.tuple h2;refine SeqAt.eq_tupleAt (e:=λj=>decide (xs[j]?=ys[j]?)) (show s.heap.IsTuple a us.toArray from p1) (show s.heap.IsTuple b ws.toArray from p2) hu (yc5 r1 r2) ?_;have l1:=r1.length;have l2:=r2.length;rw[aa] at l1 l2;rw[aE,aE,<- l1,<- l2,zX0];exact⟨.bl (decide (xs=ys)),H,I,U,q⟩
end
end L2
namespace L2
open PySem
theorem xG{rows:List Int}{P:Int->Prop}(bd:∀ x∈rows,P x){k:Int}(k0:0<=k)(k1:k<rows.length):∃ v:Int,atI (rows.map V.int) k=some (.int v)/\P v:=by
 have hk:k.toNat<rows.length:=by lia
 refine⟨rows[k.toNat],?_,bd _ (cZ hk)⟩;have q:atI (rows.map V.int) ((k.toNat:Nat):Int)=some (.int rows[k.toNat]):=vQ (by rw[ak,aj hk] <;> rfl);rw[show((k.toNat:Nat):Int)=k from by lia] at q;exact q
end L2
namespace L2
end L2

namespace L2
open PySem PySem.Spec PyProof.Rows
end L2

namespace L2
open PySem PySem.Spec PyProof.Rows
end L2

namespace L2
open PySem PySem.Spec PyProof.Rows
theorem zFy{xs:List V}{us:List ag}(r:yT xs us):∀ is:List Nat,yT (is.filterMap λi=>xs[i]?) (is.filterMap λi=>us[i]?)
 | []=>.nil
 | i::is=>by
  cases e:xs[i]? with
  | none =>
   rw[cJ e,cJ (yT.none_of r e)];exact zFy r is
  | some x =>
   obtain⟨u,eu,ru⟩:=r.get e;rw[cr e,cr eu];exact .cons ru (zFy r is)
theorem zSi:∀{rs:List af}{us:List ag},yT (rs.map V.ref) us->us=rs.map aI
 | [],_,r=>by cases r; rfl
 | a::rs,_,r=>by
  cases r with
  | cons r1 r2 =>
   cases r1;rw[zSi r2];rfl
theorem Same.putNew{H H4:Hp}{D:af}{o:HO}(s:Same H H4)(h:H D=none):Same H (upd H4 D o):=λb u q=>by
 rw[zG (zL q h)];exact s _ _ q
abbrev Pr:=af×Int×Int
abbrev zQ(ps:List Pr):List V:=(ps.map (·.1)).map V.ref
def zCz(H:Hp)(M:Nat)(ps:List Pr):Prop:=∀ t∈ps,H t.1=some (.tup [.int t.2.1,.int t.2.2])/\t.2.1.natAbs<=M/\t.2.2.natAbs<=M
theorem zCz.same{H H':Hp}{M:Nat}{ps:List Pr}(h:zCz H M ps)(s:Same H H'):zCz H' M ps:=λt ht=>⟨s _ _ (h t ht).1,(h t ht).2⟩
theorem zCz.app{H:Hp}{M:Nat}{ps qs:List Pr}(h:zCz H M ps)(g:zCz H M qs):zCz H M (ps++qs):=λt ht=>(aS.mp ht).elim (h t) (g t)
theorem zCz.sub{H:Hp}{M:Nat}{ps qs:List Pr}(h:zCz H M ps)(g:∀ t∈qs,t∈ps):zCz H M qs:=λt ht=>h t (g t ht)
theorem zT(ps:List Pr):(zQ ps).length=ps.length:=by simp[zQ]
theorem zAw(ps qs:List Pr):zQ (ps++qs)=zQ ps++zQ qs:=by simp[zQ]
theorem rS{ps:List Pr}{i:Nat}{k:Int}(e:k=i)(h:i<ps.length):∃ t,t∈ps/\ps[i]?=some t/\atI (zQ ps) k=some (.ref t.1):=by
 refine⟨ps[i],cZ h,aj h,?_⟩;rw[e];exact vQ (by rw[ak,ak,aj h] <;> rfl)
theorem zMs{ps:List Pr}{i:Nat}{k:Int}(e:k=(i:Int)-ps.length)(h:i<ps.length):∃ t,t∈ps/\ps[i]?=some t/\atI (zQ ps) k=some (.ref t.1):=by
 refine⟨ps[i],cZ h,aj h,?_⟩;unfold atI ixN;rw[zT,if_neg (by lia),if_pos (by lia),show(k+(ps.length:Int)).toNat=i by lia];show(zQ ps)[i]?=_;rw[ak,ak,aj h];rfl
theorem zJb(ps:List Pr)(n:Nat):rG (zQ ps) none (some (n:Int))=zQ (ps.take n):=by
 unfold rG;rw[show HT.sIx (zQ ps).length 0 none=0 from rfl,HT.sIx_nat (zQ ps).length (zQ ps).length n,lV,Nat.sub_zero];rw[zT];simp only[zQ,<- jC]
 congr 2
 rw[List.take_eq_take_iff];lia
end L2

namespace L2
open PySem
def crs(p q r:Int×Int):Int:=(q.1-p.1)*(r.2-p.2)-(q.2-p.2)*(r.1-p.1)
def ptA(ps:List (af×Int×Int))(i:Nat):Int×Int:=((ps[i]?).map (·.2)).getD (0,0)
theorem zHg{ps:List (af×Int×Int)}{i:Nat}{t:af×Int×Int}(h:ps[i]?=some t):ptA ps i=t.2:=by
 unfold ptA;rw[h];rfl
def zDm(ps:List (af×Int×Int))(i k:Nat):Bool:=decide (0<crs (ptA ps i) (ptA ps ((i+1)%ps.length)) (ptA ps k))
def vS(ps:List (af×Int×Int))(i:Nat):Bool:=(bv (ps.length-2)).all λj=>zDm ps i ((i+(2+j))%ps.length)
def isB(ps:List (af×Int×Int)):Bool:=decide (3<=ps.length)&&(decide (ps.length<=8)&&(bv ps.length).all (vS ps))
def zCi(ps:List (af×Int×Int)):Bool:=decide (3<=ps.length)&&(decide (ps.length<=8)&&(bv ps.length).all λi=>(bv ps.length).all λk=>(decide (k=i)||decide (k=(i+1)%ps.length))||zDm ps i k)
theorem zZi{a n:Nat}(h:a<2*n):a%n=if a<n then a else a-n:=by
 by_cases h':a<n
 ·rw[if_pos h',fT h']
 ·rw[if_neg h',Nat.mod_eq_sub_mod (by lia),fT (by lia)]
theorem zP9(ps:List (af×Int×Int)):isB ps=zCi ps:=by
 unfold isB zCi;by_cases h3:3<=ps.length
 ·rw[decide_eq_true h3,eJ,eJ]
  congr 1
  rw[dS,aT,aT];constructor
  ·intro h i hi;have hi':=bg.mp hi;rw[aT];intro k hk;have hk':=bg.mp hk;by_cases e1:k=i
   ·rw[decide_eq_true e1,eC,eC]
   by_cases e2:k=(i+1)%ps.length
   ·rw[decide_eq_true e2,iD,eC]
   rw[decide_eq_false e1,decide_eq_false e2,eK,eK];rw[zZi (by lia)] at e2;have q:=aT.mp (h i hi) (if i<=k then k-i-2 else k+ps.length-i-2);by_cases hik:i<=k
   ·rw[if_pos hik] at q;have e3:(i+(2+(k-i-2)))%ps.length=k:=by
     have:k≠i+1:=by
      intro z;rw[if_pos (by lia)] at e2;exact e2 z
     rw[show i+(2+(k-i-2))=k by lia,fT hk']
    rw[e3] at q;exact q (bg.mpr (by lia))
   ·rw[if_neg hik] at q;have hne:¬ (i+1=ps.length/\k=0):=by
     rintro⟨z1,z2⟩;rw[if_neg (by lia)] at e2;lia
    have e3:(i+(2+(k+ps.length-i-2)))%ps.length=k:=by
     rw[zZi (by lia),if_neg (by lia)];lia
    rw[e3] at q;exact q (bg.mpr (by lia))
  ·intro h i hi;have hi':=bg.mp hi;unfold vS;rw[aT];intro j hj;have hj':=bg.mp hj;have hk:(i+(2+j))%ps.length<ps.length:=jR _ (by lia);have q:=aT.mp (h i hi) _ (bg.mpr hk);have e1:(i+(2+j))%ps.length≠i:=by
    rw[zZi (by lia)];split <;> lia
   have e2:(i+(2+j))%ps.length≠(i+1)%ps.length:=by
    rw[zZi (by lia),zZi (a:=i+1) (by lia)];split <;> split <;> lia
   rw[decide_eq_false e1,decide_eq_false e2,eK,eK] at q;exact q
 ·rw[decide_eq_false h3,dE,dE]
def zEk:Int×Int->List (Int×Int)->List (Int×Int)
 | _,[]=>[]
 | h,d::ds=>h::zEk (h.1+d.1,h.2+d.2) ds
def zU4:Int×Int->List (Int×Int)->Int×Int
 | h,[]=>h
 | h,d::ds=>zU4 (h.1+d.1,h.2+d.2) ds
theorem zHr:∀(ds:List (Int×Int))(h d:Int×Int),zEk h (ds++[d])=zEk h ds++[zU4 h ds]
 | [],_,_=>rfl
 | e::ds,h,d=>by
  show h::zEk _ (ds++[d])=h::(zEk _ ds++[zU4 _ ds]);rw[zHr ds]
theorem zKr:∀(ds:List (Int×Int))(h d:Int×Int),zU4 h (ds++[d])=((zU4 h ds).1+d.1,(zU4 h ds).2+d.2)
 | [],_,_=>rfl
 | e::ds,h,d=>by
  show zU4 _ (ds++[d])=_;rw[zKr ds];rfl
theorem zD2:∀(ds:List (Int×Int))(h:Int×Int),(zEk h ds).length=ds.length
 | [],_=>rfl
 | e::ds,h=>by
  show(zEk _ ds).length+1=ds.length+1;rw[zD2 ds]
def zE8(x y p q:Int):Nat->List (Int×Int)
 | 0=>[(x,y),(p-x,q-y),(-p,-q)]
 | 1=>[(x,y),(p,q),(-x,-y),(-p,-q)]
 | 2=>[(2*x,2*y),(p,q),(p-x,q-y),(-x,-y),(-2*p,-2*q)]
 | 3=>[(x,y),(x+p,y+q),(p,q),(-x,-y),(-x-p,-y-q),(-p,-q)]
 | 4=>[(x,y),(2*x+p,2*y+q),(x+2*p,y+2*q),(p,q),(-x,-y),(-2*x-p,-2*y-q),(-x-3*p,-y-3*q)]
 | _=>[(x,y),(2*x+p,2*y+q),(x+2*p,y+2*q),(p,q),(-x,-y),(-2*x-p,-2*y-q),(-x-2*p,-y-2*q),(-p,-q)]
def zYl:Nat->List (Int×Int)
 | 0=>[(0,0),(1,0),(0,1)]
 | 1=>[(0,0),(1,0),(1,1),(0,1)]
 | 2=>[(0,0),(2,0),(2,1),(1,2),(0,2)]
 | 3=>[(0,0),(1,0),(2,1),(2,2),(1,2),(0,1)]
 | 4=>[(0,0),(1,0),(3,1),(4,3),(4,4),(3,4),(1,3)]
 | _=>[(0,0),(1,0),(3,1),(4,3),(4,4),(3,4),(1,3),(0,1)]
def yc4(c:Nat)(hx hy x y p q:Int):List (Int×Int):=(zYl c).map λab=>(hx+ab.1*x+ab.2*p,hy+ab.1*y+ab.2*q)
theorem six{c:Nat}(h:c<6):c=0\/c=1\/c=2\/c=3\/c=4\/c=5:=by lia
theorem zNx{c:Nat}(hc:c<6)(hx hy x y p q:Int):zEk (hx,hy) (zE8 x y p q c)=yc4 c hx hy x y p q:=by
 rcases six hc with rfl | rfl | rfl | rfl | rfl | rfl <;>
  simp only[zE8,yc4,zYl,zEk,aN,eA,iN,mF,and_true,true_and] <;> lia
theorem zGc{c:Nat}(hc:c<6):3<=(zYl c).length/\(zYl c).length<=8:=by
 rcases six hc with rfl | rfl | rfl | rfl | rfl | rfl <;> exact⟨by decide,by decide⟩
def zYn(vs:List (Int×Int)):Prop:=∃(c k:Nat)(hx hy x y p q:Int),c<6/\k<(zYl c).length/\0<x*q-y*p/\vs=(yc4 c hx hy x y p q).drop k++(yc4 c hx hy x y p q).take k
theorem zYn.len{vs:List (Int×Int)}(h:zYn vs):3<=vs.length/\vs.length<=8:=by
 obtain⟨c,k,hx,hy,x,y,p,q,hc,hk,_,rfl⟩:=h;have:=zGc hc;rw[aC,bG,cm];unfold yc4;rw[aa];lia
end L2

namespace PySem.W
open PySem PySem.Calls PyProof.Rows
section
variable{O:KeyOrd}(key:Nat->O.α)
structure PIn(n:Nat)(p:Array Nat):Prop where
 perm:p.Perm (au (bv n))
variable{key}{n:Nat}
end
end PySem.W

namespace L2
open PySem PySem.Spec PyProof.Rows PySem.W
theorem zCf:∀ rs:List af,yT (rs.map V.ref) (rs.map aI)
 | []=>.nil
 | _::rs=>.cons rfl (zCf rs)
section
variable{X:Cx}
theorem vL:bootBuiltins "sorted" = some (.builtin "sorted"):=by decide +kernel
end
end L2
namespace L2
open PySem PySem.Spec PyProof.Rows
end L2

namespace L2
open PySem PySem.Spec PyProof.Rows
section
variable{κ:Type}[DecidableEq κ]
def wF(kvs:List (κ×V))(k:κ):Option V:=(kvs.find? λkv=>decide (kv.1=k)).map (·.2)
def rF(kvs:List (κ×V))(k:κ)(v:V):List (κ×V) :=
 if (kvs.any λkv=>decide (kv.1=k))=true then kvs.map (λkv=>if kv.1=k then(kv.1,v) else kv) else kvs++[(k,v)]
def zEi(kvs:List (κ×V))(k:κ):List (κ×V):=kvs.filter λkv=>decide (kv.1≠k)

theorem wE{p:κ×V}{r:List (κ×V)}{k:κ}(e:p.1=k):wF (p::r) k=some p.2:=by simp[wF,bV,e]
theorem wA{p:κ×V}{r:List (κ×V)}{k:κ}(e:¬ p.1=k):wF (p::r) k=wF r k:=by simp[wF,bV,e]
theorem zEz(k:κ):∀ kvs:List (κ×V),(kvs.any λkv=>decide (kv.1=k))=(wF kvs k).isSome
 | []=>rfl
 | p::r=>by
  rw[cH];by_cases e:p.1=k
  ·simp only[wE e,decide_eq_true e,eC,Option.isSome_some]
  ·rw[wA e,decide_eq_false e,eK]; exact zEz k r
theorem zOn(k j:κ)(y:V):∀ kvs:List (κ×V),wF (kvs.map λkv=>if kv.1=k then(kv.1,y) else kv) j=(wF kvs j).map λx=>if j=k then y else x
 | []=>rfl
 | p::r=>by
  have ih:=zOn k j y r;rw[aN];by_cases h:p.1=k
  ·rw[if_pos h];by_cases e:p.1=j
   ·rw[wE (p:=(p.1,y)) e,wE e,eG,if_pos (e.symm.trans h)]
   ·rw[wA (p:=(p.1,y)) e,wA e,ih]
  ·rw[if_neg h];by_cases e:p.1=j
   ·rw[wE (p:=p) e,wE e,eG,if_neg (λz=>h (e.trans z))]
   ·rw[wA (p:=p) e,wA e,ih]
theorem zKm(k j:κ)(y:V):∀ kvs:List (κ×V),wF kvs k=none->wF (kvs++[(k,y)]) j=if j=k then some y else wF kvs j
 | [],_=>by
  by_cases e:k=j
  ·rw[if_pos e.symm]; exact wE (p:=(k,y)) e
  ·rw[if_neg (λz=>e z.symm)]; exact wA (p:=(k,y)) e
 | p::r,hn=>by
  rw[k9];have hk:¬ p.1=k:=λz=>by rw[wE z] at hn; cases hn
  rw[wA hk] at hn;have ih:=zKm k j y r hn;by_cases e:p.1=j
  ·rw[wE e,wE e,if_neg (λz=>hk (e.trans z))]
  ·rw[wA e,wA e,ih]
theorem zNq(kvs:List (κ×V))(k j:κ)(y:V):wF (rF kvs k y) j=if j=k then some y else wF kvs j:=by
 unfold rF;by_cases a:(kvs.any λkv=>decide (kv.1=k))=true
 ·rw[if_pos a,zOn];rw[zEz] at a;by_cases e:j=k
  ·obtain⟨x,hx⟩:=aL.mp a;rw[if_pos e,e,hx,eG,if_pos rfl]
  ·rw[if_neg e];cases wF kvs j with
   | none=>rfl
   | some x=>rw[eG,if_neg e]
 ·rw[if_neg a];refine zKm k j y kvs ?_;rw[zEz] at a;cases q:wF kvs k with
  | none=>rfl
  | some x=>rw[q] at a; exact(a rfl).elim
theorem zBs(kvs:List (κ×V))(k:κ)(v:V):(rF kvs k v).length<=kvs.length+1:=by
 unfold rF;split
 ·rw[aa]; lia
 ·rw[aC,aW,dz]; lia
theorem zJf.isSome_eq{o:Option V}{u:Option ag}(r:zJf o u):o.isSome=u.isSome:=by
 cases o with
 | none=>cases u with
  | none=>rfl
  | some _=>exact(show False from r).elim
 | some _=>cases u with
  | none=>exact(show False from r).elim
  | some _=>rfl
theorem KV.val{kvs:List (κ×V)}{vs:List (κ×ag)}(r:KV kvs vs)(k:κ):zJf (wF kvs k) (valueAt vs k):=by
 unfold KV at r
 induction r with
 | nil=>exact bB
 | @cons p q ps qs h t ih =>
  obtain⟨h1,h2⟩:=h;by_cases e:p.1=k
  ·have e':q.1=k:=h1.symm.trans e;have b:valueAt (q::qs) k=some q.2:=by simp[valueAt,bV,e']
   rw[wE e,b]; exact h2
  ·have e':¬ q.1=k:=λz=>e (h1.trans z);have b:valueAt (q::qs) k=valueAt qs k:=by simp[valueAt,bV,e']
   rw[wA e,b]; exact ih
theorem KV.any{kvs:List (κ×V)}{vs:List (κ×ag)}(r:KV kvs vs)(k:κ):(kvs.any λkv=>decide (kv.1=k))=vs.any λkv=>decide (kv.1=k):=by
 unfold KV at r
 induction r with
 | nil=>rfl
 | cons h t ih=>rw[cH,cH,ih,h.1]
theorem KV.repl{kvs:List (κ×V)}{vs:List (κ×ag)}(r:KV kvs vs)(k:κ){y:V}{u:ag}(ry:xD y u) :
  KV (kvs.map λkv=>if kv.1=k then(kv.1,y) else kv) (vs.map λkv=>if kv.1=k then(kv.1,u) else kv):=by
 unfold KV at r ⊢
 induction r with
 | nil=>exact .nil
 | @cons p q ps qs h t ih =>
  rw[aN,aN];refine .cons ?_ ih;obtain⟨h1,h2⟩:=h;by_cases e:p.1=k
  ·rw[if_pos e,if_pos (h1.symm.trans e)]; exact⟨h1,ry⟩
  ·rw[if_neg e,if_neg (λz=>e (h1.trans z))]; exact⟨h1,h2⟩
theorem KV.put{kvs:List (κ×V)}{vs:List (κ×ag)}(r:KV kvs vs)(k:κ){y:V}{u:ag}(ry:xD y u):KV (rF kvs k y) (stored vs k u):=by
 unfold rF stored;rw[r.any k];by_cases e:(vs.any λkv=>decide (kv.1=k))=true
 ·rw[if_pos e,if_pos e]; exact r.repl k ry
 ·rw[if_neg e,if_neg e]; exact nO r ⟨rfl,ry⟩
theorem KV.drop{kvs:List (κ×V)}{vs:List (κ×ag)}(r:KV kvs vs)(k:κ):KV (zEi kvs k) (without vs k):=by
 unfold KV at r ⊢;unfold zEi without
 induction r with
 | nil=>exact .nil
 | @cons p q ps qs h t ih =>
  obtain⟨h1,h2⟩:=h;rw[lh,lh];by_cases e:p.1=k
  ·have a:¬ decide (p.1≠k)=true:=by simp[e]
   have b:¬ decide (q.1≠k)=true:=by simp[h1.symm.trans e]
   rw[if_neg a,if_neg b]; exact ih
  ·have e':¬ q.1=k:=λz=>e (h1.trans z);have a:decide (p.1≠k)=true:=by simp[e]
   have b:decide (q.1≠k)=true:=by simp[e']
   rw[if_pos a,if_pos b]; exact .cons ⟨h1,h2⟩ ih
theorem KV.length{kvs:List (κ×V)}{vs:List (κ×ag)}(r:KV kvs vs):kvs.length=vs.length:=jz r
theorem zNj(kvs:List (κ×V))(k:κ):(zEi kvs k).length<=kvs.length:=dM _ _
end


theorem zH2{P:aK}{w:aU}{k:Key}{u:ag}(r:xD (kV k) u):(yL P w).is k u=true:=by
 cases k with
 | inl i=>obtain⟨t,e⟩:=(show ∃ t,u=dP i t from r); subst e; exact zM7 P w i t
 | inr x=>obtain⟨t,e⟩:=(show ∃ t,u=cF x t from r); subst e; exact zBi P w x t
theorem zJq{P:aK}{w:aU} : ∀{ks:List Key}{us:List ag},yT (ks.map kV) us->ItemsAre (yL P w) ks us
 | [],_,r=>by rw[eA] at r; cases r; exact .nil
 | k::ks,_,r=>by
  rw[aN] at r;cases r with
  | cons h t=>exact .cons (zH2 h) (zJq t)

abbrev KT(H:Hp):List (List Key×V)->List (List Key×af×ag)->Prop:=kM λp q=>p.1=q.1/\H q.2.1=some (.tup (p.1.map kV))/\xD p.2 q.2.2
theorem KT.val{H:Hp}{kvs:List (List Key×V)}{xs:List (List Key×af×ag)}(r:KT H kvs xs)(k:List Key):zJf (wF kvs k) ((atKey xs k).map (·.2)):=by
 induction r with
 | nil=>exact bB
 | @cons p q ps qs h t ih =>
  obtain⟨h1,_,h2⟩:=h;by_cases e:p.1=k
  ·have e':q.1=k:=h1.symm.trans e;have b:atKey (q::qs) k=some q.2:=by simp[atKey,bV,e']
   rw[wE e,b]; exact h2
  ·have e':¬ q.1=k:=λz=>e (h1.trans z);have b:atKey (q::qs) k=atKey qs k:=by simp[atKey,bV,e']
   rw[wA e,b]; exact ih
theorem KT.repl{H:Hp}{kvs:List (List Key×V)}{xs:List (List Key×af×ag)}(r:KT H kvs xs)(k:List Key){y:V}{u:ag}(ry:xD y u) :
  KT H (kvs.map λkv=>if kv.1=k then(kv.1,y) else kv) (xs.map (putAt k u)):=by
 induction r with
 | nil=>exact .nil
 | @cons p q ps qs h t ih =>
  rw[aN,aN];refine .cons ?_ ih;obtain⟨h1,h2,h3⟩:=h;unfold putAt;by_cases e:p.1=k
  ·rw[if_pos e,if_pos (h1.symm.trans e)]; exact⟨h1,h2,ry⟩
  ·rw[if_neg e,if_neg (λz=>e (h1.trans z))]; exact⟨h1,h2,h3⟩
theorem KT.put{H:Hp}{kvs:List (List Key×V)}{xs:List (List Key×af×ag)}(r:KT H kvs xs)(k:List Key){b:af}{y:V}{u:ag}(hb:H b=some (.tup (k.map kV)))(ry:xD y u) :
  KT H (rF kvs k y) (storedH xs k b u):=by
 have e:(kvs.any λkv=>decide (kv.1=k))=(atKey xs k).isSome:=by
  rw[zEz,(r.val k).isSome_eq,cb]
 unfold rF storedH;rw[e];by_cases q:(atKey xs k).isSome=true
 ·rw[if_pos q,if_pos q]; exact r.repl k ry
 ·rw[if_neg q,if_neg q]; exact nO r ⟨rfl,hb,ry⟩
theorem KT.keeps{H H':Hp}{kvs:List (List Key×V)}{xs:List (List Key×af×ag)}(r:KT H kvs xs)(ht:∀ b ys,H b=some (.tup ys)->H' b=some (.tup ys)):KT H' kvs xs :=
 Paired.mapP r λ_ _ z=>⟨z.1,ht _ _ z.2.1,z.2.2⟩

section
variable{P:aK}{w:aU}{H:Hp}{h:aX}{a:af}
theorem zZ8{u:HO}(ok:HOk P w H h)(e:Rd H a u):xC P w H h a u:=e.ok ok
theorem zIh{kvs:List (Key×V)}(ok:HOk P w H h)(e:Rd H a (.dK kvs)):kvs.length<=sizeLine/\(a == sysModules)=false/\∃ vs,KV kvs vs/\h.DictOf (yL P w) a vs :=
 show xC P w H h a (.dK kvs) from zZ8 ok e
theorem zTw{kvs:List (Key×V)}(ok:HOk P w H h)(e:H a=some (.dK kvs)):kvs.length<=sizeLine/\(a == sysModules)=false/\∃ vs,KV kvs vs/\h.DictOf (yL P w) a vs:=zIh ok (.inl e)
theorem zJu{ks:List Key}(ok:HOk P w H h)(e:H a=some (.tup (ks.map kV))):(tupleKind (yL P w)).is h ks a:=by
 obtain⟨_,its,r,o,h1,h2,n,h3⟩:=(show xC P w H h a (.tup (ks.map kV)) from ok a _ e);exact⟨o,its.toArray,n,h1,h2,h3,by simpa using zJq r⟩
theorem zPo{kvs:List (List Key×V)}(ok:HOk P w H h)(e:Rd H a (.dT kvs)):kvs.length<=sizeLine/\(a == sysModules)=false /\
  ∃ xs,KT H kvs xs/\h.DictOfH (tupleKind (yL P w)) a xs:=by
 obtain⟨z,y,xs,r,o,es,ep,h1,h2,h3,h4,h5⟩:=(show xC P w H h a (.dT kvs) from zZ8 ok e);refine⟨z,y,xs,r,o,es,ep,h1,h2,h3,h4,λx hx=>?_,h5⟩;have all:∀{l:List (List Key×V)}{m:List (List Key×af×ag)},KT H l m->∀ x∈m,(tupleKind (yL P w)).is h x.1 x.2.1:=by
  intro l m q
  induction q with
  | nil=>intro x hx; exact nomatch hx
  | @cons p q ps qs hq t ih =>
   intro x hx;rcases aA.mp hx with e | hx
   ·subst e;exact zJu ok (by rw[<- hq.1]; exact hq.2.1)
   ·exact ih x hx
 exact all r x hx
theorem dt_of{kvs:List (List Key×V)}(ok:HOk P w H h)(e:H a=some (.dT kvs)):kvs.length<=sizeLine/\(a == sysModules)=false /\
  ∃ xs,KT H kvs xs/\h.DictOfH (tupleKind (yL P w)) a xs:=zPo ok (.inl e)
end

def zUz(H:Hp)(a:af)(y:V)(r:Option V):Prop :=
 (∃ kvs k,Rd H a (.dK kvs)/\y=kV k/\r=wF kvs k)\/∃ kvs k b,Rd H a (.dT kvs)/\y=.ref b/\H b=some (.tup (k.map kV))/\r=wF kvs k
def zK3(H:Hp)(a:af)(y v:V)(H':Hp):Prop :=
 (∃ kvs k,H a=some (.dK kvs)/\y=kV k/\kvs.length<sizeLine/\H'=upd H a (.dK (rF kvs k v))) \/
 ∃ kvs k b,H a=some (.dT kvs)/\y=.ref b/\H b=some (.tup (k.map kV))/\kvs.length<sizeLine/\H'=upd H a (.dT (rF kvs k v))
theorem zK3.k{H:Hp}{a:af}{kvs:List (Key×V)}{k:Key}{v:V}(e:H a=some (.dK kvs))(hl:kvs.length<sizeLine):zK3 H a (kV k) v (upd H a (.dK (rF kvs k v))):=.inl ⟨kvs,k,e,rfl,hl,rfl⟩
section
variable{X:Cx}{pins:List (af×cD)}{σ:St}{H:Hp}{s:ai}{a:af}{y v:V}{u r:ag}{o:Option V}{A:bI}{E:ag->ai->Prop}

theorem Inv.big(I:Inv X pins σ H s):sysModules<s.heap.objs.size:=by
 have h:mainGlobals<s.heap.objs.size:=(I.mod.glob.keeps I.bk).lt;exact de (by decide) h

theorem zSc{Q:ag->ai->Prop}(hu:A.units+1<cLine)(I:Inv X pins σ H s)(g:zUz H a y (some v))(ry:xD y u)(h:∀ w' s',Inv X pins σ H s'->xD v w'->Q w' s') :
  wpAny (model X.prog X.w) A (getItem (.ref a) u) Q E s:=by
 rcases g with ⟨kvs,k,e,ey,l⟩ | ⟨kvs,k,b,e,ey,eb,l⟩
 ·subst ey;obtain⟨z,hd,vs,rel,dd⟩:=zIh I.hok e;obtain⟨w',hw,rw'⟩:=zJf.some_of (v:=v) (o:=valueAt vs k) (by rw[l]; exact rel.val k);exact lq (zH2 ry) dd.mapOf hw (h w' _ (I.tok _) rw')
 ·subst ey;cases (show u=aI b from ry);obtain⟨z,hd,xs,rel,dd⟩:=zPo I.hok e;obtain⟨w',hw,rw'⟩:=zJf.some_of (v:=v) (o:=(atKey xs k).map (·.2)) (by rw[l]; exact rel.val k);obtain⟨p,hp,hp2⟩:=aH.mp hw;refine wpAny_getItem_heap (tupleKind_room_in1 hu) (zJu I.hok eb) dd hp ?_;rw[hp2];exact h w' _ (I.tok _) rw'
theorem d_in{Q:ag->ai->Prop}(hu:A.units+1<cLine)(I:Inv X pins σ H s)(g:zUz H a y o)(ry:xD y u)(h:∀ s',Inv X pins σ H s'->Q (.bool o.isSome) s') :
  wpAny (model X.prog X.w) A (compareOp .In u (.ref a)) Q E s:=by
 rcases g with ⟨kvs,k,e,ey,l⟩ | ⟨kvs,k,b,e,ey,eb,l⟩
 ·subst ey;obtain⟨z,hd,vs,rel,dd⟩:=zIh I.hok e;refine wpAny_in_of (zH2 ry) hd dd.mapOf ?_;rw[<- (rel.val k).isSome_eq,<- l];exact h _ (I.tok _)
 ·subst ey;cases (show u=aI b from ry);obtain⟨z,hd,xs,rel,dd⟩:=zPo I.hok e;refine wpAny_in_heap (tupleKind_room_in1 hu) (zJu I.hok eb) hd dd ?_;have q:=(rel.val k).isSome_eq;rw[cb] at q;rw[<- q,<- l];exact h _ (I.tok _)
theorem zW5{Q:ag->ai->Prop}(hu:A.units+1<cLine)(I:Inv X pins σ H s)(g:zUz H a y o)(ry:xD y u)(h:∀ s',Inv X pins σ H s'->Q (.bool (!o.isSome)) s') :
  wpAny (model X.prog X.w) A (compareOp .NotIn u (.ref a)) Q E s:=by
 rcases g with ⟨kvs,k,e,ey,l⟩ | ⟨kvs,k,b,e,ey,eb,l⟩
 ·subst ey;obtain⟨z,hd,vs,rel,dd⟩:=zIh I.hok e;refine wpAny_notIn_of (zH2 ry) hd dd.mapOf ?_;rw[<- (rel.val k).isSome_eq,<- l];exact h _ (I.tok _)
 ·subst ey;cases (show u=aI b from ry);obtain⟨z,hd,xs,rel,dd⟩:=zPo I.hok e;refine wpAny_notIn_heap (tupleKind_room_in1 hu) (zJu I.hok eb) hd dd ?_;have q:=(rel.val k).isSome_eq;rw[cb] at q;rw[<- q,<- l];exact h _ (I.tok _)
theorem zGd{h':aX}{t':Nat}{ob:HO}(I:Inv X pins σ H s)(mu:Mut (H a))(hs:cO a s.heap h')(he:∃ q,h'.get? a=some q)(new:xC X.prog X.w (upd H a ob) h' a ob) :
  Inv X pins σ (upd H a ob) { s with heap:=h',toks:=t' } :=
 I.write (x:=a) (e:=a) mu (.inl rfl) (λb q hb z=>(hs.2 b hb).trans z) he new
theorem zKz{P:aK}{w:aU}{H':Hp}{h':aX}{kvs:List (Key×V)}{vs:List (Key×ag)}(z:kvs.length<=sizeLine)(hd:(a == sysModules)=false)(rel:KV kvs vs)(dd:h'.DictOf (yL P w) a vs) :
  xC P w H' h' a (.dK kvs):=⟨z,hd,vs,rel,dd⟩
theorem zQg{H':Hp}{Q:Unit->ai->Prop}(hu:A.units+1<cLine)(I:Inv X pins σ H s)(g:zK3 H a y v H')(ry:xD y u)(rv:xD v r)(h:∀ s',Inv X pins σ H' s'->Q () s') :
  wpAny (model X.prog X.w) A (setItem (.ref a) u r) Q E s:=by
 rcases g with ⟨kvs,k,e,ey,l,eH⟩ | ⟨kvs,k,b,e,ey,eb,l,eH⟩
 ·subst ey eH;obtain⟨z,hd,vs,rel,dd⟩:=zTw I.hok e;have hz:vs.length<=sizeLine:=by rw[<- rel.length]; exact z
  have hl:(rF kvs k v).length<=sizeLine:=by have:=zBs kvs k v; lia
  refine wpAny_setItem_pairs (hsz:=hz) (zH2 ry) dd λh' dd' hs=>h _ ?_;have he:∃ q,h'.get? a=some q:=let ⟨q,_,_,hq,_⟩:=dd';⟨q,hq⟩;exact zGd I (by rw[e]; exact bB) hs he (zKz hl hd (rel.put k rv) dd')
 ·subst ey eH;cases (show u=aI b from ry);obtain⟨z,hd,xs,rel,dd⟩:=dt_of I.hok e;have hz:xs.length<=sizeLine:=by rw[<- jz rel]; exact z
  have hl:(rF kvs k v).length<=sizeLine:=by have:=zBs kvs k v; lia
  refine wpAny_setItem_heap (hsz:=hz) (tupleKind_room_in1 hu) (zJu I.hok eb) dd λh' dd' hs=>h _ ?_;obtain⟨q,es,ep,hq,h2,h3,h4,_,h5⟩:=dd';refine zGd I (by rw[e]; exact bB) hs ⟨q,hq⟩ ⟨hl,hd,_,(rel.put k eb rv).keeps λc ys ec=>?_,q,es,ep,hq,h2,h3,h4,h5⟩;rw[zG (zRg ec e (λz=>nomatch z))];exact ec
end

section
variable{X:Cx}{pins:List (af×cD)}{σ:St}{H:Hp}{s:ai}{a:af}{kvs:List (Key×V)}{k:Key}{u:ag}{A:bI}{E:ag->ai->Prop}
theorem zZm{Q:Unit->ai->Prop}(I:Inv X pins σ H s)(e:H a=some (.dK kvs))(ry:xD (kV k) u)(l:(wF kvs k).isSome=true)(h:∀ s',Inv X pins σ (upd H a (.dK (zEi kvs k))) s'->Q () s') :
  wpAny (model X.prog X.w) A (delItem (.ref a) u) Q E s:=by
 obtain⟨z,hd,vs,rel,dd⟩:=zTw I.hok e;refine wpAny_delItem_slot dd.typeIs (by decide) gW
  (call_meetsIn gW dd.typeIs PySem.F.entry_dict_delitem (PySem.F.args_dict_delitem_2 _ _) (meets_dict_delitem_pairs (yL X.prog X.w) a (zH2 ry)) ⟨vs,dd,by rw[<- rel.length]; exact z,by rw[<- (rel.val k).isSome_eq]; exact l,λh' dd' hs=>h _ ?_⟩)
 have he:∃ q,h'.get? a=some q:=let ⟨q,_,_,hq,_⟩:=dd';⟨q,hq⟩;exact zGd I (by rw[e]; exact bB) hs he (zKz (aD (zNj kvs k) z) hd (rel.drop k) dd')
theorem d_pop{v:V}{more:List ag}{Q:ag->ai->Prop}(I:Inv X pins σ H s)(e:H a=some (.dK kvs))(ry:xD (kV k) u)(l:wF kvs k=some v)(hm:more=[]\/∃ x,more=[x])
  (h:∀ w' s',Inv X pins σ (upd H a (.dK (zEi kvs k))) s'->xD v w'->Q w' s'):wpAny (model X.prog X.w) A (call (.builtin "dict.pop") (.ref a::u::more)) Q E s:=by
 obtain⟨z,hd,vs,rel,dd⟩:=zTw I.hok e;obtain⟨w',hw,rw'⟩:=zJf.some_of (v:=v) (o:=valueAt vs k) (by rw[<- l]; exact rel.val k);have hp:(keyPart u).isSome=true:=by
  cases k with
  | inl i=>obtain⟨t,q⟩:=(show ∃ t,u=dP i t from ry); subst q; rfl
  | inr x=>obtain⟨t,q⟩:=(show ∃ t,u=cF x t from ry); subst q; rfl
 have ha:argsOk "dict.pop" ⟨.ref a::u::more,[]⟩:=by
  rcases hm with q | ⟨x,q⟩
  ·subst q; exact PySem.F.args_dict_pop_2 _ _
  ·subst q; exact PySem.F.args_dict_pop_3 _ _ _
 refine call_meetsIn iX dd.typeIs PySem.F.entry_dict_pop ha (meets_dict_pop_there (yL X.prog X.w) a (zH2 ry) more hm hp)
  ⟨vs,w',dd,by rw[<- rel.length]; exact z,hw,λh' dd' hs=>h w' _ ?_ rw'⟩
 have he:∃ q,h'.get? a=some q:=let ⟨q,_,_,hq,_⟩:=dd';⟨q,hq⟩;exact zGd I (by rw[e]; exact bB) hs he (zKz (aD (zNj kvs k) z) hd (rel.drop k) dd')
theorem d_len{Q:ag->ai->Prop}(I:Inv X pins σ H s)(e:Rd H a (.dK kvs))(h:∀ t s',Inv X pins σ H s'->Q (.int kvs.length t) s'):wpAny (model X.prog X.w) A (call (.builtin "len") [.ref a]) Q E s:=by
 obtain⟨z,hd,vs,rel,dd⟩:=zIh I.hok e;refine call_len_dict hd dd (by rw[<- rel.length]; rw[sizeLine_eq] at z; lia) ?_;rw[<- rel.length];exact h _ _ (I.tok _)
end


def yd9(i:bx):Prop:=∀ ov iv,subscripted i false ov iv=operate [ov,iv] (getItem ov iv)
theorem zMj{prog:aK}{w:aU}{A:bI}{E:ag->ai->Prop}{s:ai}{env:gq}{value slice:bx}{pos:fh}{T id:String}{Q:ag->ai->Prop}
  (hl:typeLookup (.type T) "__getitem__" = pure (some (.builtin id))) (hs:yd9 slice)
  (h:wpAny (model prog w) A (eval value env) (λo s₁=>wpAny (model prog w) A (eval slice env) (λi s₂=>s₂.TypeIs o T/\wpAny (model prog w) A (getItem o i) Q E s₂) E s₁) E s) :
  wpAny (model prog w) A (eval (.Subscript value slice pos) env) Q E s:=by
 refine jM (cX h (λo s₁ h₁=>cX h₁ (λi s₂ h₂=>?_) λ_ _ x=>x) λ_ _ x=>x);obtain⟨hT,h₂⟩:=h₂;unfold subscriptTail;refine ac ?_;rw[getitemInPython_of_ne hT.not_modules];refine ac (lM hT hl ?_);have fin:wpAny (model prog w) A (subscripted slice false o i) (λr s₃=>wpAny (model prog w) A (letTemporaryGo value o r >>= λ_=>pure r) Q E s₃) E s₂:=by
  rw[hs o i];exact wpAny_operating (cX h₂ (λr s₃ h₃=>ac (wpAny_letTemporaryGo (al h₃))) λ_ _ x=>x)
 first
  | exact al (ac fin)
  | exact ac (al (ac fin))
  | exact ac fin

theorem zM2{X:Cx}{pins:List (af×cD)}{σ:St}{H:Hp}{s:ai}{a:af}{y:V}{o:Option V}(I:Inv X pins σ H s)(g:zUz H a y o):s.TypeIs (.ref a) "dict" := by
 rcases g with ⟨kvs,k,e,_,_⟩ | ⟨kvs,k,b,e,_,_,_⟩
 ·obtain⟨_,_,vs,_,dd⟩:=zIh I.hok e;exact dd.typeIs
 ·obtain⟨_,_,xs,_,dd⟩:=zPo I.hok e;exact dd.typeIs
def tDGet(td ty:TE):TE:=λσ H Q=>td σ H λx H1=>ty σ H1 λy H2=>∃ a v,x=.ref a/\zUz H2 a y (some v)/\Q v H2
def tDIn(ty td:TE):TE:=λσ H Q=>ty σ H λy H1=>td σ H1 λx H2=>∃ a o,x=.ref a/\zUz H2 a y o/\Q (.bl o.isSome) H2
def zYa(ty td:TE):TE:=λσ H Q=>ty σ H λy H1=>td σ H1 λx H2=>∃ a o,x=.ref a/\zUz H2 a y o/\Q (.bl (!o.isSome)) H2
def sDPut(td ty tv:TE):TS:=λD σ H=>tv σ H λv H1=>td σ H1 λx H2=>ty σ H2 λy H3=>∃ a H4,x=.ref a/\zK3 H3 a y v H4/\D.nx σ H4
section
variable{X:Cx}{o i e value:bx}{pos pos' tpos:fh}{td ty tv:TE}
theorem zO(hu:X.A.units+1<cLine)(ho:PE X o td)(hi:PE X i ty)(hs:yd9 i):PE X (.Subscript o i pos) (tDGet td ty):=by
 intro pins s σ H Q I h;refine zMj ff.lookup hs (thn (ho pins s σ H _ I h) λu s1 ⟨x,H1,I1,rx,q1⟩=>thn (hi pins s1 σ H1 _ I1 q1) λiv s2 ⟨y,H2,I2,ry,a,v,ex,g,q2⟩=>?_);subst ex;obtain rfl:u=aI a:=rx;exact⟨zM2 I2 g,zSc hu I2 g ry λw' s3 I3 rw'=>⟨v,H2,I3,rw',q2⟩⟩
theorem zKo(hu:X.A.units+1<cLine)(hi:PE X i ty)(ho:PE X o td):PC X .In i o (tDIn ty td):=by
 intro pins s σ H Q I h;refine thn (hi pins s σ H _ I h) λiv s1 ⟨y,H1,I1,ry,q1⟩=>thn (ho pins s1 σ H1 _ I1 q1) λu s2 ⟨x,H2,I2,rx,a,ov,ex,g,q2⟩=>?_;subst ex;obtain rfl:u=aI a:=rx;exact d_in hu I2 g ry λs3 I3=>⟨.bl ov.isSome,H2,I3,rfl,q2⟩
theorem sQ(hu:X.A.units+1<cLine)(hi:PE X i ty)(ho:PE X o td):PC X .NotIn i o (zYa ty td):=by
 intro pins s σ H Q I h;refine thn (hi pins s σ H _ I h) λiv s1 ⟨y,H1,I1,ry,q1⟩=>thn (ho pins s1 σ H1 _ I1 q1) λu s2 ⟨x,H2,I2,rx,a,ov,ex,g,q2⟩=>?_;subst ex;obtain rfl:u=aI a:=rx;exact zW5 hu I2 g ry λs3 I3=>⟨.bl (!ov.isSome),H2,I3,rfl,q2⟩
theorem rH(hu:X.A.units+1<cLine)(ho:PE X o td)(hi:PE X i ty)(hv:PE X value tv)(hs:swapsWith value (some (.Subscript o i pos')) pos.line X.env=pure false) :
  PS X (.Assign [.Subscript o i pos'] value pos) (sDPut td ty tv):=by
 intro pins s σ H D I h;refine wpAny_Assign_Subscript (thn (hv pins s σ H _ I h) λr s1 ⟨v,H1,I1,rv,q1⟩=>thn (ho pins s1 σ H1 _ I1 q1) λu s2 ⟨x,H2,I2,rx,q2⟩=>thn (hi pins s2 σ H2 _ I2 q2) λiv s3 ⟨y,H3,I3,ry,a,H4,ex,g,q3⟩=>?_) hs;subst ex;obtain rfl:u=aI a:=rx;exact zQg hu I3 g ry rv λs4 I4=>⟨σ,H4,I4,q3⟩
end


theorem zOm{P:aK}{w:aU}{H:Hp}(h:aX)(hb:sysModules<h.objs.size):xC P w H (h.push { cls:=.type "dict",data:=.dict #[] }) h.objs.size (.dK []) :=
 ⟨bw _,beq_eq_false_iff_ne.mpr (cz (aP hb)),[],.nil,Heap.DictOf.new h⟩
def yc0:TE:=λ_ H Q=>∀ p,H p=none->Q (.ref p) (upd H p (.dK []))
section
variable{X:Cx}{pos:fh}
theorem sY:PE X (.Dict [] [] pos) yc0:=λpins s σ H Q I h =>
 wpAny_Dict_empty ⟨.ref s.heap.objs.size,_,I.laid (a:=s.heap.objs.size) (o:=.dK []) (t':=s.toks) (λ_ _ q=>ah _ q) (am _) (zOm s.heap I.big),rfl,h _ (I.hok.fresh (am _))⟩
end

def zQk:List (TE×TE)->St->Hp->(List (V×V)->Hp->Prop)->Prop
 | [],_,H,Q=>Q [] H
 | (tk,tv)::r,σ,H,Q=>tk σ H λx H1=>tv σ H1 λy H2=>zQk r σ H2 λps H3=>Q ((x,y)::ps) H3
abbrev VV:List (V×V)->List (ag×ag)->Prop:=kM λp q=>xD p.1 q.1/\xD p.2 q.2
def PPs(X:Cx)(pos:fh)(keys:List (Option bx))(values:List bx)(trs:List (TE×TE)):Prop :=
 ∀(pins:List (af×cD))(s:ai)(σ:St)(H:Hp)(Q:List (V×V)->Hp->Prop),Inv X pins σ H s->zQk trs σ H Q ->
  wpAny (model X.prog X.w) X.A (evalPairs (pairTrees keys values X.env pos)) (λvs s'=>∃ ps H',Inv X pins σ H' s'/\VV ps vs/\Q ps H') X.xe s
theorem zL7{X:Cx}{pos:fh} : PPs X pos [] [] []:=λpins s σ H Q I h=>pairTrees_nil_walk ⟨[],H,I,.nil,h⟩
theorem xZ{X:Cx}{pos:fh}{k v:bx}{ks:List (Option bx)}{vs:List bx}{tk tv:TE}{trs:List (TE×TE)}(hk:PE X k tk)(hv:PE X v tv)(hr:PPs X pos ks vs trs) :
  PPs X pos (some k::ks) (v::vs) ((tk,tv)::trs):=λpins s σ H Q I h =>
 pairTrees_cons_walk (thn (hk pins s σ H _ I h) λu s1 ⟨x,H1,I1,rx,q1⟩=>thn (hv pins s1 σ H1 _ I1 q1) λw2 s2 ⟨y,H2,I2,ry,q2⟩ =>
  thn (hr pins s2 σ H2 _ I2 q2) λws s3 ⟨ps,H3,I3,rel,q3⟩=>⟨(x,y)::ps,H3,I3,.cons ⟨rx,ry⟩ rel,q3⟩)

def zDq(kvs more:List (Key×V)):List (Key×V):=more.foldl (λacc kv=>rF acc kv.1 kv.2) kvs
theorem KV.merge:∀{more:List (Key×V)}{rs:List (Key×ag)}{kvs:List (Key×V)}{vs:List (Key×ag)},KV more rs->KV kvs vs->KV (zDq kvs more) (merged vs rs):=by
 intro more rs kvs vs r;unfold KV at r
 induction r generalizing kvs vs with
 | nil=>intro q; exact q
 | @cons p q ps qs h t ih =>
  intro r0;have e:KV (rF kvs p.1 p.2) (stored vs q.1 q.2):=by
   have:=r0.put p.1 h.2;rw[<- h.1]; exact this
  exact ih e
theorem zCx:∀(more kvs:List (Key×V)),(zDq kvs more).length<=kvs.length+more.length
 | [],kvs=>by show kvs.length<=kvs.length+0; lia
 | p::r,kvs=>by
  have h1:=zCx r (rF kvs p.1 p.2);have h2:=zBs kvs p.1 p.2;show(zDq (rF kvs p.1 p.2) r).length<=_;rw[aW]; lia
theorem zHx{P:aK}{w:aU} : ∀{kvs:List (Key×V)}{ws:List (ag×ag)},VV (kvs.map λkv=>(kV kv.1,kv.2)) ws->∃ rs,Carries (yL P w) ws rs/\KV kvs rs
 | [],_,r=>by rw[eA] at r; cases r; exact⟨[],bB,.nil⟩
 | p::kvs,_,r=>by
  rw[aN] at r;cases r with
  | @cons a b as bs h t =>
   obtain⟨rs,c,q⟩:=zHx (P:=P) (w:=w) t;obtain⟨b1,b2⟩:=b;exact⟨(p.1,b2)::rs,⟨zH2 h.1,U,c⟩,.cons ⟨U,h.2⟩ q⟩
def tDisp(trs:List (TE×TE)):TE:=λσ H Q=>∀ p,H p=none->zQk trs σ (upd H p (.dK [])) λps H2=>H2 p=some (.dK [])/\∃ kvs:List (Key×V),ps=kvs.map (λkv=>(kV kv.1,kv.2))/\kvs.length<=15/\Q (.ref p) (upd H2 p (.dK (zDq [] kvs)))
theorem zMw{X:Cx}{pos:fh}{keys:List (Option bx)}{values:List bx}{trs:List (TE×TE)}(h:PPs X pos keys values trs)(hall:keys.all (·.isSome)=true)(hl:keys.length=values.length)(h0:keys≠[])
  (h15:keys.length<=15):PE X (.Dict keys values pos) (tDisp trs):=by
 intro pins s σ H Q I q;have hn:=I.hok.fresh (am s.heap.objs.size);have I1:=I.laid (a:=s.heap.objs.size) (o:=.dK []) (h':=s.heap.push { cls:=.type "dict",data:=.dict #[] }) (t':=s.toks) (λ_ _ q=>ah _ q) (am _) (zOm s.heap I.big);refine wpAny_Dict_walk (knd:=yL X.prog X.w) hall hl h0 h15 (thn (h pins _ σ _ _ I1 (q _ hn)) λws s2 ⟨ps,H2,I2,rel,e,kvs,ep,lk,q2⟩=>?_);subst ep;obtain⟨rs,c,rk⟩:=zHx (P:=X.prog) (w:=X.w) rel;obtain⟨z,hd,vs0,r0,dd⟩:=zTw I2.hok e;cases r0;refine⟨rs,c,dd,λh' dd' hs=>⟨.ref s.heap.objs.size,_,?_,U,q2⟩⟩;have hz:(zDq [] kvs).length<=sizeLine:=by
  have h1:=zCx kvs [];rw[dz] at h1;rw[sizeLine_eq]; lia
 have he:∃ q,h'.get? s.heap.objs.size=some q:=let ⟨q,_,_,hq,_⟩:=dd';⟨q,hq⟩;exact zGd I2 (by rw[e]; exact bB) hs he (zKz hz hd (rk.merge .nil) dd')



end L2

namespace L2
open PySem PySem.Spec PyProof.Rows
def zS8(h:aX)(a:af)(rows:Array dm)(age:Nat):Prop:=∃ ob,h.get? a=some ob/\ob.ExactDict/\ob.data=.dict rows age
theorem zS8.at{h h':aX}{a:af}{rows:Array dm}{age:Nat}(x:zS8 h a rows age)(e:∀ ob,h.get? a=some ob->h'.get? a=some ob):zS8 h' a rows age:=let ⟨ob,g,r⟩:=x;⟨ob,e _ g,r⟩
theorem zS8.typeIs{z:ai}{a:af}{rows:Array dm}{age:Nat}(x:zS8 z.heap a rows age):z.TypeIs (.ref a) "dict" := let ⟨ob,g,c,_⟩:=x;⟨ob,g,c.1⟩
section
variable{prog:aK}{w:aU}{A:bI}{E:ag->ai->Prop}{z:ai}{it a:af}{rows:Array dm}{age k:Nat}
theorem zTh{R:ag->ai->Prop}(hs:(a == sysModules)=false)(x:zS8 z.heap a rows age)(hR:R (.ref z.heap.objs.size) { z with heap:=z.heap.push { cls:=.type "dict_keyiterator",data:=.fields #[.ref a,.int 0 0,.int rows.size 0,.int age 0] } }) :
  wpAny (model prog w) A (pyIter (.ref a)) R E z:=by
 have ty:=x.typeIs;obtain⟨ob,g,_,dat⟩:=x;refine kx ty lu (bU lu ty F.entry_dict_iter ?walk (F.args_dict_iter_1 _))
 case walk =>
  unfold eZ.«dict.__iter__» mE;refine ac (ac (wpAny_notOrdered_dict ty (show wpAny _ _ (pure (aI a)) _ _ z from al ?_)));show wpAny _ _ (iY a >>= _) _ _ z;unfold iY;rw[if_neg (by rw[hs]; decide)];refine ac (al (ac (hG g dat (ac (iO g dat ?_)))));refine ac (br (al ⟨_,rfl, "dict_keyiterator",_,⟨_,ap _ rfl,rfl⟩,cK.lookup,?_⟩));simpa [rawInt] using hR
theorem zUg{R:Option ag->ai->Prop}(ki:z.heap.IsKeyIter it a k rows.size age)(x:zS8 z.heap a rows age)(hk:k<rows.size)
  (hR:∀ h',h'.IsKeyIter it a (k+1) rows.size age->cO it z.heap h'->R (some rows[k].key) { z with heap:=h' }):wpAny (model prog w) A (pyNext (.ref it)) R E z:=by
 have ty:=ki.typeIs;obtain⟨oi,gi,ci,di⟩:=id ki;obtain⟨ob,g,_,dat⟩:=x;unfold pyNext;refine ac (dZ (bR (name:=aO "__next__") ty cK (bU cK ty f7 ?walk (fU _))))
 case walk =>
  refine ac (al (ac (ac ?_)))
  first | refine ac (dk ty (al (ac (gR gi di ?_)))) | refine ac (d0 ty (al (ac (gR gi di ?_))))
  simp only[show gh "dict_keyiterator" = false by decide,cL,if_false];show wpAny _ _ (if (aI a == bp)=true then _ else _) _ _ z;rw[if_neg (show ¬ ((aI a == bp)=true) from aB)];refine ac (al (ac (hG g dat ?_)));rw[if_neg (by simp)];refine ac (al (ac (iO g dat ?_)));rw[if_neg (by simp)];refine al ?_;simp only[show ¬ ((k:Int)<0) from by lia,if_false,cw,cU hk];refine ac ?_
  first | refine ac (dk ty (al (ac (fN ty ?_)))) | refine ac (d0 ty (al (ac (fN ty ?_))))
  show wpAny _ _ (setField (.ref it) 1 (rawInt ((k:Int)+1)) >>= _) _ _ z;refine ac (dj gi di (by simp) ?_);have ki':(z.heap.update it (df (·.setIfInBounds 1 (rawInt ((k:Int)+1))))).IsKeyIter it a (k+1) rows.size age :=
   ⟨_,cG _ gi (cW (cC di _)),(eP ..).trans ci,by rw[cC di]; simp[rawInt]⟩
  refine ac (ce (ac (fN (s:={ z with heap:=z.heap.update it (df (·.setIfInBounds 1 (rawInt ((k:Int)+1)))) }) ki'.typeIs ?_)));show wpAny _ _ (pure rows[k].key) _ _ _;exact al (al ⟨_,rfl,al (hR _ ki' (fj ..))⟩)
theorem zWv{R:Option ag->ai->Prop}(hh:A.handled=none)(ki:z.heap.IsKeyIter it a k rows.size age)(x:zS8 z.heap a rows age)(hk:rows.size<=k)
  (hR:∀ h',fF it z.heap h'->R none { z with heap:=h' }):wpAny (model prog w) A (pyNext (.ref it)) R E z:=by
 have ty:=ki.typeIs;obtain⟨oi,gi,ci,di⟩:=id ki;obtain⟨ob,g,_,dat⟩:=x;unfold pyNext;refine ac (dZ (bR (name:=aO "__next__") ty cK (bU cK ty f7 ?walk (fU _))))
 case walk =>
  refine ac (al (ac (ac ?_)))
  first | refine ac (dk ty (al (ac (gR gi di ?_)))) | refine ac (d0 ty (al (ac (gR gi di ?_))))
  simp only[show gh "dict_keyiterator" = false by decide,cL,if_false];show wpAny _ _ (if (aI a == bp)=true then _ else _) _ _ z;rw[if_neg (show ¬ ((aI a == bp)=true) from aB)];refine ac (al (ac (hG g dat ?_)));rw[if_neg (by simp)];refine ac (al (ac (iO g dat ?_)));rw[if_neg (by simp)];refine al ?_;simp only[show ¬ ((k:Int)<0) from by lia,if_false,cw,eB hk];refine ac ?_
  first | refine ac (dk ty (al ?_)) | refine ac (d0 ty (al ?_))
  show wpAny _ _ (setField (.ref it) 0 .none >>= _) _ _ z;refine ac (dj gi di (by simp) (show wpAny _ _ (newExc (.type "StopIteration") [] >>= _) _ _ _ from ac ?_));simp only[newExc,newTuple];refine ac (br (ac (m:=firstArgMember _ _) (eV (a:=bp) (by first | rfl | (simp only[firstArgMember]; rfl)) (br ?_ (by size_fits)))) (by size_fits));simp only[raiseNew];refine ac (jB ?_);rw[show A.in1.handled=none from hh];refine ac (al (lH ?_));refine ac (fS (T := "StopIteration") (b:=true) ⟨_,ap _ rfl,rfl⟩ isSubtype_stop ?_);exact al (hR _ (((fj ..).extBut.push _).push _))
theorem zQj(hh:A.handled=none)(hne:a≠it):Walks prog w A it [it,a] [it] rows.size (λi v=>∃ h:i<rows.size,v=rows[i].key) (λi h=>h.IsKeyIter it a i rows.size age/\zS8 h a rows age) where
 sub:=λb hb=>by simp at hb; simp[hb]
 frame:=λ_ _ _ st hk=>⟨st.1.at λo e=>hk it (by simp) o e,st.2.at λo e=>hk a (by simp) o e⟩
 item:=λi s Q E hi st hQ=>zUg st.1 st.2 hi λh' ki' hs' =>
  hQ _ h' s.toks ⟨hi,rfl⟩ ⟨ki',st.2.at λo e=>hs'.extBut a o hne e⟩ λb o hb e=>hs'.extBut b o (λh=>hb (by simp[h])) e
 done:=λs Q E st hQ=>zWv hh st.1 st.2 (am _) λh' he'=>hQ h' s.toks λb o hb e=>he' b o (λh=>hb (by simp[h])) e
 self:=λ_ _ _ _ st hQ=>wpAny_pyIter_keyiter st.1 hQ
theorem zXh(hs:(a == sysModules)=false):PySem.W.KdlSrc prog w "dict" a a rows.size (λi v=>∃ h:i<rows.size,v=rows[i].key) (λh=>zS8 h a rows age) where
 type:=λ_ x=>x.typeIs
 there:=λ_ x=>let ⟨_,g,_⟩:=x;⟨aw g,aw g⟩
 keep:=λ_ _ x hk=>x.at λo e=>hk a (.inl rfl) o e
 notList:=by decide
 notTuple:=by decide
 hint:=λ_ _ _ _ x hq=>PySem.W.kdl_hint_dict x.typeIs hq
 iter:=λ_ s hh x=>⟨_,_,(λ_ _ hq=>zTh hs x hq),zQj hh (let ⟨_,g,_⟩:=x; aP (aw g)),⟨⟨_,ap _ rfl,rfl,rfl⟩,x.at λo e=>ah _ e⟩⟩
end
end L2

namespace Sea
open PySem L2
abbrev Sd:=af×Int×Int×Int
abbrev zZt(ss:List Sd):List V:=(ss.map (·.1)).map V.ref
def SdOk(H:Hp)(ss:List Sd):Prop:=∀ t∈ss,H t.1=some (.tup [.int t.2.1,.int t.2.2.1,.int t.2.2.2])/\(t.2.1≠0\/t.2.2.1≠0)/\t.2.1.natAbs<=10^9/\t.2.2.1.natAbs<=10^9/\t.2.2.2.natAbs<=10^13
def zX2(ss:List Sd)(x y:Int):Bool:=ss.all λt=>decide (t.2.1*x+t.2.2.1*y<=0)
def WK(ss:List Sd)(n:Nat)(k:List Int):Prop:=∃ j t,j<n/\ss[j]?=some t/\((k=zP0 [-t.2.2.1,t.2.1]/\zX2 ss (-t.2.2.1) t.2.1=true)\/(k=zP0 [t.2.2.1,-t.2.1]/\zX2 ss t.2.2.1 (-t.2.1)=true))
theorem zUa{ss:List Sd}{x y g:Int}(hg:0<g):zX2 ss (x*g) (y*g)=zX2 ss x y:=by
 unfold zX2
 congr 1
 funext t
 refine decide_eq_decide.mpr ?_;have e:t.2.1*(x*g)+t.2.2.1*(y*g)=(t.2.1*x+t.2.2.1*y)*g:=by rw[Int.add_mul,dY,dY]
 rw[e];constructor
 ·intro h;by_cases c:t.2.1*x+t.2.2.1*y<=0
  ·exact c
  ·have:=Int.mul_pos (show 0<t.2.1*x+t.2.2.1*y by lia) hg;lia
 ·intro h;have:=jf (show 0<=-(t.2.1*x+t.2.2.1*y) by lia) (iB hg);rw[Int.neg_mul] at this;lia
theorem way_low{ss:List Sd}{x y:Int}(gp:0<rY [x,y]):zX2 ss (x/(rY [x,y]:Int)) (y/(rY [x,y]:Int))=zX2 ss x y:=by
 have gI:(0:Int)<(rY [x,y]:Int):=by lia
 have e1:=qA (ns:=[x,y]) (n:=x) (by simp);have e2:=qA (ns:=[x,y]) (n:=y) (by simp);have z:=zUa (ss:=ss) (x:=x/(rY [x,y]:Int)) (y:=y/(rY [x,y]:Int)) gI;rw[e1,e2] at z;exact z.symm
def keyI(ns:List Int):List Key:=ns.map d7
structure TabK(kvs:List (List Key×V))(ks:List (List Int)):Prop where
 keys:kvs.map (·.1)=ks.map keyI
 nodup:ks.Nodup
structure WaysAt(H:Hp)(l:af)(ss:List Sd)(us:List (af×List Int)):Prop where
 at':H l=some (.lst ((us.map (·.1)).map V.ref))
 all:∀ u∈us,H u.1=some (.tup (u.2.map V.int))
 rises:(us.map (·.2)).Pairwise (λa b=>HT.lexLt b a=false)
 nodup:(us.map (·.2)).Nodup
 mem:∀ k,k∈us.map (·.2)↔WK ss ss.length k
 few:us.length<=80
structure SdSt(H0:Hp)(D:af)(ss:List Sd)(H:Hp):Prop where
 same:Same H0 H
 new:H0 D=none
 at':H D=some (.lst (zZt ss))
 all:SdOk H ss
end Sea

namespace Sea
open PySem L2
theorem zY0{i j:Int}(h:i.natAbs<=10^18):yc1 i j:=.inl ⟨by lia,by lia⟩
abbrev P3:=Int×Int×Int
def sv(t p:P3):Int:=t.1*p.1+t.2.1*p.2.1-t.2.2*p.2.2
def tn(e s:P3):Int:=e.1*s.2.1-e.2.1*s.1
structure IsSpot(l:List Int)(p:P3):Prop where
 list:l=[p.1,p.2.1,p.2.2]
 pos:0<p.2.2
 low:e7 (e7 p.1.natAbs p.2.1.natAbs) p.2.2.natAbs=1
def inW(ss:List Sd)(p:P3):Prop:=∀ t∈ss,sv t.2 p<=0
end Sea

namespace Sea
open PySem L2
end Sea

namespace L2
open PySem PySem.Spec PyProof.Rows PySem.W
def PrAt(H:Hp)(cs:List Pr):Prop:=∀ t∈cs,H t.1=some (.tup [.int t.2.1,.int t.2.2])
end L2

namespace Sea
open PySem L2
def dt(s g:P3):Int:=s.1*g.1+s.2.1*g.2.1
structure Bound(ss:List Sd)(g:P3):Prop where
 nz:∀ t∈ss,t.2.1≠0\/t.2.2.1≠0
 gz:g.1≠0\/g.2.1≠0
 ways:∀ t∈ss,∀ h:Int,(h=1\/h = -1)->(∀ s∈ss,tn t.2 s.2*h<=0)->tn t.2 g*h<=0
 lead:¬ ∀ s∈ss,dt s.2 g<=0
 one:∀ t∈ss,tn t.2 g=0->0<dt t.2 g->∀ P:P3,0<P.2.2->sv t.2 P=0->¬ inW ss P
end Sea

namespace L2
open PySem PySem.Spec PyProof.Rows PySem.W
theorem ye6{a b:az}{A B:Prop}(h:a≠b)(hB:B):if decide (V.str a=V.str b)=true then A else B:=by
 rw[decide_eq_false (λz=>h (by injection z))];exact hB
theorem ifSt{a:az}{A B:Prop}(hA:A):if decide (V.str a=V.str a)=true then A else B:=by
 rw[decide_eq_true rfl];exact hA
theorem cut4{ok:af->Int->Int->Hp->Prop}{G:Prop}{R:af->Int->Int->Hp->Prop}(h1:(∀ p x y G,ok p x y G->R p x y G)->G)(h2:∀ p x y G,ok p x y G->R p x y G):G:=h1 h2
end L2

namespace L2
open PySem PySem.Spec PyProof.Rows

def zXe(scope:fD)(x:az):Bool:=scope.names.any λy=>y.1 == x&&y.2 == .cell
structure OwnScope(X:Cx)(caps:List (az×Nat))(scope:fD):Prop where
 kind:scope.kind=.function
 dis:(scope.names.all λx=>!(x.2 == .free) || !zXe scope x.1)=true
 loc:∀ y∈scope.names,y.2=.local->scope.names.lookup y.1=some .local
 clos:(scope.names.all λx=>!(x.2 == .free)||(X.env.cells.lookup x.1).isSome)=true
 cap:zHi X scope caps
section
variable{X:Cx}{T:List az}{caps:List (az×Nat)}{scope:fD}{elt target iter:bx}{ifs:List bx}{pos cpos:fh}{wi:TI}{g:CC->TG}{tt:CC->TT}{te:CC->TE}

end
end L2

namespace Sea
open PySem L2
def awB(N:Nat):List (Int×Int)->Int->Bool
 | [],_=>true
 | c::cs,least=>if least<=c.1/\c.1<N/\1<=c.2 then awB N cs (c.1+1) else false
def yd1(ss:List Sd)(f:Sd->Int)(n:Int):Int:=match ss[n.toNat]? with
 | some t=>f t
 | none=>0
def zYe(ss:List Sd)(f:Sd->Int):List (Int×Int)->Int->Int
 | [],T=>T
 | c::cs,T=>zYe ss f cs (T+c.2*yd1 ss f c.1)
def fAt(k:Int)(t:Sd):Int:=if k=0 then t.2.1 else if k=1 then t.2.2.1 else t.2.2.2
structure PrSt(H0:Hp)(D:af)(cs:List Pr)(H:Hp):Prop where
 same:Same H0 H
 new:H0 D=none
 at':H D=some (.lst (zQ cs))
 all:PrAt H cs
end Sea

namespace Sea
open PySem L2
def zWn(n:Nat)(cs:List (Int×Int)):List (Int×Int):=cs.filter λc=>decide (c.1<(n:Int))
structure Apart(ss es:List Sd)(cs:List (Int×Int)):Prop where
 out:∀ v:P3,0<v.2.2->inW es v->zYe ss (fAt 2) (zWn ss.length cs) 0*v.2.2<zYe ss (fAt 0) (zWn ss.length cs) 0*v.1+zYe ss (fAt 1) (zWn ss.length cs) 0*v.2.1
 ins:∀ v:P3,inW ss v->zYe ss (fAt 0) (zWn ss.length cs) 0*v.1+zYe ss (fAt 1) (zWn ss.length cs) 0*v.2.1<=zYe ss (fAt 2) (zWn ss.length cs) 0*v.2.2
 few:(∃ z:P3,0<z.2.2/\inW ss z)->(zWn ss.length cs).length<=2
end Sea

namespace Sea
open PySem L2
structure PIb(t:TE)(σ:St)(i:Int)(n:Nat):Prop where
 rd:∀(H:Hp)(Q:VK),Q (.int i) H->t σ H Q
 le:i.natAbs<=n
section
variable{σ:St}{ta tb:TE}{i j:Int}{m n:Nat}
theorem PIb.var{k:Nat}(h:σ[k]?=some (some (.int i)))(hn:i.natAbs<=n):PIb (zMr k) σ i n:=⟨λ_ _ q=>⟨_,h,q⟩,hn⟩
theorem PIb.con(h:i.natAbs<=n):PIb (tC (.int i)) σ i n:=⟨λ_ _ q=>q,h⟩
theorem PIb.add(a:PIb ta σ i m)(b:PIb tb σ j n):PIb (tOp (rI0 λi j=>.int (i+j)) ta tb) σ (i+j) (m+n) :=
 ⟨λ_ _ q=>a.rd _ _ (b.rd _ _ ⟨i,j,rfl,rfl,q⟩),aD (Int.natAbs_add_le ..) (eX a.le b.le)⟩
theorem PIb.sub(a:PIb ta σ i m)(b:PIb tb σ j n):PIb (tOp (rI0 λi j=>.int (i-j)) ta tb) σ (i-j) (m+n) :=
 ⟨λ_ _ q=>a.rd _ _ (b.rd _ _ ⟨i,j,rfl,rfl,q⟩),aD (Int.natAbs_sub_le ..) (eX a.le b.le)⟩
theorem PIb.neg(a:PIb ta σ i m):PIb (tUn (rU λi=>.int (-i)) ta) σ (-i) m:=⟨λ_ _ q=>a.rd _ _ ⟨i,rfl,q⟩,by rw[ji]; exact a.le⟩
theorem PIb.mul(a:PIb ta σ i m)(b:PIb tb σ j n)(h:m<=10^9):PIb (tOp (rI yc1 λi j=>.int (i*j)) ta tb) σ (i*j) (m*n) :=
 ⟨λ_ _ q=>a.rd _ _ (b.rd _ _ ⟨i,j,rfl,rfl,.inl ⟨by have:=a.le; lia,by have:=a.le; lia⟩,q⟩),zIt i j a.le b.le⟩
end
def PPs(M:Nat)(ta:TA)(σ:St)(vs:List (Int×Int)):Prop:=∀(H:Hp)(Q:List V->Hp->Prop),(∀(ps:List Pr)(H':Hp),Same H H'->zCz H' M ps->ps.map (·.2)=vs->Q (zQ ps) H')->ta σ H Q
theorem PPs.nil{M:Nat}{σ:St} : PPs M zPk σ []:=λH _ q=>q [] H (Same.refl _) (λ_ ht=>nomatch ht) rfl
theorem PPs.cons{M m n:Nat}{σ:St}{ta tb:TE}{tr:TA}{i j:Int}{vs:List (Int×Int)}(a:PIb ta σ i m)(b:PIb tb σ j n)(r:PPs M tr σ vs)(hm:m<=M:=by decide)(hn:n<=M:=by decide):PPs M (tJ (ye4 (tJ ta (tJ tb zPk))) tr) σ ((i,j)::vs):=λ_ _ q =>
 a.rd _ _ (b.rd _ _ ⟨(by show 2<=sizeLine; decide),λp hp=>r _ _ λps _ s pk e=>q ((p,i,j)::ps) _ ((zD hp _).trans s) (λt ht=>by
  rcases aA.mp ht with h | h
  ·rw[h];exact⟨s _ _ zA,aD a.le hm,aD b.le hn⟩
  ·exact pk t h) (by rw[aN,e])⟩)
theorem zCh{M:Nat}{σ:St}{ta:TA}{vs:List (Int×Int)}(r:PPs M ta σ vs){H:Hp}{Q:VK}(n:vs.length<=1000)(q:∀ (l:af) (ps:List Pr) (H':Hp),Same H H'->H l=none->H' l=some (.lst (zQ ps))->zCz H' M ps->ps.map (·.2)=vs->Q (.ref l) H'):zEv ta σ H Q :=
 r _ _ λps _ s pk e=>⟨by
  rw[zT,<- aa (f:=(·.2)),e];exact dB (zV n),λl hl=>q l ps _ (s.trans (zD hl _)) (s.free hl) zA (pk.same (zD hl _)) e⟩
theorem zAx{M:Nat}{σ:St}{ta tr:TA}{vs:List (Int×Int)}(r:PPs M ta σ vs){H:Hp}{K:List V->Hp->Prop}(n:vs.length<=1000)(q:∀ (l:af) (ps:List Pr) (H':Hp),Same H H'->H l=none->H' l=some (.lst (zQ ps))->zCz H' M ps->ps.map (·.2)=vs->tr σ H' λxs H2=>K (.ref l::xs) H2):tJ (zEv ta) tr σ H K :=
 zCh (Q:=λx H1=>tr σ H1 λxs H2=>K (x::xs) H2) r n q
abbrev qS(xs:List (af×List Pr)):List V:=(xs.map (·.1)).map V.ref
structure zJ6(G:Hp)(lo:af)(M:Nat)(xs:List (af×List Pr)):Prop where
 at':G lo=some (.lst (qS xs))
 all:∀ u∈xs,u.1≠lo/\G u.1=some (.lst (zQ u.2))/\zCz G M u.2
theorem zJ6.same{G G2:Hp}{lo:af}{M:Nat}{xs:List (af×List Pr)}(L:zJ6 G lo M xs)(s:Same G G2):zJ6 G2 lo M xs:=⟨s _ _ L.at',λu hu=>⟨(L.all u hu).1,s _ _ (L.all u hu).2.1,(L.all u hu).2.2.same s⟩⟩
theorem zJ6.app{G:Hp}{lo l:af}{M:Nat}{xs:List (af×List Pr)}{ps:List Pr}(L:zJ6 G lo M xs)(n:l≠lo)(e:G l=some (.lst (zQ ps)))(pk:zCz G M ps):zJ6 (upd G lo (.lst (qS xs++[.ref l]))) lo M (xs++[(l,ps)]):=by
 have pr:∀{qs:List Pr}{o:HO},zCz G M qs->zCz (upd G lo o) M qs:=λh t ht=>⟨by rw[zG (zRg (h t ht).1 L.at' (by intro z; cases z))]; exact(h t ht).1,(h t ht).2⟩;refine⟨by rw[zA]; simp[qS],λu hu=>?_⟩;rcases aS.mp hu with h | h
 ·obtain⟨h1,h2,h3⟩:=L.all u h;exact⟨h1,by rw[zG h1]; exact h2,pr h3⟩
 ·rw[av] at h;subst h;exact⟨n,by show upd G lo _ l=_; rw[zG n]; exact e,pr pk⟩
theorem zVa{G:Hp}{lo:af}{M:Nat}{xs:List V}{qs:List Pr}(e:G lo=some (.lst xs))(h:zCz G M qs)(o:HO):zCz (upd G lo o) M qs:=λt ht=>⟨by rw[zG (zRg (h t ht).1 e (by intro z; cases z))]; exact(h t ht).1,(h t ht).2⟩
theorem zUj{M:Nat}{σ:St}{t0 t1 t2 t3:TA}{v0 v1 v2 v3:List (Int×Int)}(r0:PPs M t0 σ v0)(r1:PPs M t1 σ v1)(r2:PPs M t2 σ v2)(r3:PPs M t3 σ v3){H:Hp}{Q:VK}(n0:v0.length<=1000)(n1:v1.length<=1000)(n2:v2.length<=1000)(n3:v3.length<=1000)
  (q:∀(lo:af)(xs:List (af×List Pr))(H':Hp),Same H H'->H lo=none->zJ6 H' lo M xs->xs.map (λu=>u.2.map (·.2))=[v0,v1,v2,v3]->Q (.ref lo) H'):zEv (tJ (zEv t0) (tJ (zEv t1) (tJ (zEv t2) (tJ (zEv t3) zPk)))) σ H Q:=by
 show(tJ (zEv t0) (tJ (zEv t1) (tJ (zEv t2) (tJ (zEv t3) zPk)))) σ H (λxs H1=>xs.length<=sizeLine/\∀ p,H1 p=none->Q (.ref p) (upd H1 p (.lst xs)));refine zAx r0 n0 λl0 p0 G0 s0 h0 e0 k0 m0=>?_;refine zAx r1 n1 λl1 p1 G1 s1 h1 e1 k1 m1=>?_;refine zAx r2 n2 λl2 p2 G2 s2 h2 e2 k2 m2=>?_;refine zAx r3 n3 λl3 p3 G3 s3 h3 e3 k3 m3=>?_;refine⟨(by show 4<=sizeLine; decide),λlo hlo=>?_⟩;have so:=zD hlo (.lst [.ref l0,.ref l1,.ref l2,.ref l3]);have ne:∀{l:af}{o:HO},G3 l=some o->l≠lo:=λe z=>by rw[z,hlo] at e; cases e
 have f0:=s3 _ _ (s2 _ _ (s1 _ _ e0));have f1:=s3 _ _ (s2 _ _ e1);have f2:=s3 _ _ e2;refine q lo [(l0,p0),(l1,p1),(l2,p2),(l3,p3)] _ ((((s0.trans s1).trans s2).trans s3).trans so) ((((s0.trans s1).trans s2).trans s3).free hlo) ⟨zA,λu hu=>?_⟩ (by simp only[aN,eA,m0,m1,m2,m3]);simp only[aA,bA,or_false] at hu;rcases hu with rfl | rfl | rfl | rfl
 ·exact⟨ne f0,so _ _ f0,(((k0.same s1).same s2).same s3).same so⟩
 ·exact⟨ne f1,so _ _ f1,((k1.same s2).same s3).same so⟩
 ·exact⟨ne f2,so _ _ f2,(k2.same s3).same so⟩
 ·exact⟨ne e3,so _ _ e3,k3.same so⟩
theorem zTx{M:Nat}{σ:St}{t0 t1 t2 t3:TA}{v0 v1 v2 v3:List (Int×Int)}{H:Hp}{g:TG}{u:TS}{D:zMc}(r0:PPs M t0 σ v0)(r1:PPs M t1 σ v1)(r2:PPs M t2 σ v2)(r3:PPs M t3 σ v3)(n0:v0.length<=1000)(n1:v1.length<=1000)(n2:v2.length<=1000)(n3:v3.length<=1000)
  (q:∀(lo:af)(xs:List (af×List Pr))(H':Hp),Same H H'->H lo=none->zJ6 H' lo M xs->xs.map (λu=>u.2.map (·.2))=[v0,v1,v2,v3]->g (.ref lo) σ H' (u D)):ya3 (zYm (zEv (tJ (zEv t0) (tJ (zEv t1) (tJ (zEv t2) (tJ (zEv t3) zPk))))) g) u D σ H :=
 zUj (Q:=λx H1=>g x σ H1 (u D)) r0 r1 r2 r3 n0 n1 n2 n3 q
theorem zR5{M:Nat}{σ:St}{ta:TA}{vs:List (Int×Int)}{H:Hp}{g:TG}{u:TS}{D:zMc}(r:PPs M ta σ vs)(n:vs.length<=1000)(q:∀ (l:af) (ps:List Pr) (H':Hp),Same H H'->H l=none->H' l=some (.lst (zQ ps))->zCz H' M ps->ps.map (·.2)=vs->g (.ref l) σ H' (u D)):ya3 (zYm (zEv ta) g) u D σ H :=
 zCh (Q:=λx H1=>g x σ H1 (u D)) r n q
end Sea

namespace Sea
open PySem L2
end Sea

namespace PyProof.Rows
open PySem
structure Took(x y out:Array lW)(ia ib:Nat):Prop where
 pm:out.toList.Perm (x.toList.take ia++y.toList.take ib)
 la:ia<=x.size
 lb:ib<=y.size
structure Left(x y out:Array lW)(na nb:Nat):Prop where
 pm:out.toList.Perm (x.toList.drop na++y.toList.drop nb)
 la:na<=x.size
 lb:nb<=y.size
end PyProof.Rows

namespace PyProof.Rows
open PySem
def rk(r:lW->Int)(xs:Array lW)(i:Nat):Int:=(xs[i]?.map r).getD 0
structure TookR(r:lW->Int)(x y out:Array lW)(ia ib:Nat):Prop extends Took x y out ia ib where
 srt:∀ i j,i<=j->j<out.size->rk r out i<=rk r out j
 oa:∀ i j,i<out.size->ia<=j->j<x.size->rk r out i<=rk r x j
 ob:∀ i j,i<out.size->ib<=j->j<y.size->rk r out i<=rk r y j
structure LeftR(r:lW->Int)(x y out:Array lW)(na nb:Nat):Prop extends Left x y out na nb where
 srt:∀ i j,i<=j->j<out.size->rk r out j<=rk r out i
 oa:∀ i j,i<out.size->j<na->rk r x j<=rk r out i
 ob:∀ i j,i<out.size->j<nb->rk r y j<=rk r out i
end PyProof.Rows

namespace L2
open PySem PySem.Spec PyProof.Rows
theorem sz0:0<=sizeLine:=by decide
theorem sz1:1<=sizeLine:=by decide
theorem sz2:2<=sizeLine:=by decide
theorem sz3:3<=sizeLine:=by decide
theorem gt2:(0:Int)<2:=by decide
theorem gt3:(0:Int)<3:=by decide
theorem gt4:(0:Int)<4:=by decide
theorem gt5:(0:Int)<5:=by decide
section
variable{X:Cx}{x:az}{p pos:fh}{a b e c:bx}{es:List bx}{t:TA}{te ta tb:TE}{id T:String}{r:List V->Hp->VK->Prop}{n:Nat}{ps:List az}{sp:Sp}
theorem zZk(h:starEach (e::es) X.env=(false,eval e X.env)::starEach es X.env)(ha:PE X e te)(hr:PA X es t):PA X (e::es) (tJ te t):=zB ha hr h
theorem zZd(h:PE X (.Name x pos) te):PE X (.Name x pos) te:=h
theorem m_sub(h:PE X (.Subscript a b pos) te):PE X (.Subscript a b pos) te:=h
theorem zZh(h:PE X (.Call (.Name x p) (e::es) [] pos) te):PE X (.Call (.Name x p) (e::es) [] pos) te:=h
theorem m_bin{op:Operator}(h:PE X (.BinOp a op b pos) te):PE X (.BinOp a op b pos) te:=h
theorem m_cmp{op:lE}(h:PE X (.Compare a [op] [b] pos) te):PE X (.Compare a [op] [b] pos) te:=h
theorem ya8{op:lE}{tt:TT}(h:PT X (.Compare a [op] [b] pos) tt):PT X (.Compare a [op] [b] pos) tt:=h
theorem zXq{op:BoolOp}{tt:TT}(h:PW X (.BoolOp op es pos) tt):PT X (.BoolOp op es pos) tt:=h.pt
theorem m_val{tt:TE}(he:∀ whole,isTrue e X.env whole=(do let v <- whole; standAt e.pos; holding [v] (truthy v)))(h:PE X e tt):PT X e (tB tt):=zA6 h he
theorem m_ix(hs:zRk b)(ha:PE X a ta)(hb:PE X b tb):PE X (.Subscript a b pos) (tOp (rIxA X.K) ta tb):=zLx zHz ha hb hs
theorem zYv(x:az)(h:PE X (.Name x pos) te):PE X (.Name x pos) te:=h
theorem zMf(hc:uL X (.builtin id) r)(hv:bootBuiltins x=some (.builtin id))(hm:X.mg x=none)(hg:Gl X x)(hn:x ≠ "__name__")(hdb:(x ==("__debug__" : az))=false)
  (he:starEach (e::es) X.env=(false,eval e X.env)::starEach es X.env) (hpl:(backTo pos (starEach es X.env)).any (·.1)=false) (ha:PA X (e::es) t):PE X (.Call (.Name x p) (e::es) [] pos) (tCB r t):=zS hc hg hm hv ha hn hdb he hpl
theorem zYx(hc:uL X (.type T) r)(hv:bootBuiltins x=some (.type T))(hm:X.mg x=none)(hg:Gl X x)(hn:x ≠ "__name__")(hdb:(x ==("__debug__" : az))=false)
  (he:starEach (e::es) X.env=(false,eval e X.env)::starEach es X.env) (hpl:(backTo pos (starEach es X.env)).any (·.1)=false) (ha:PA X (e::es) t):PE X (.Call (.Name x p) (e::es) [] pos) (tCB r t):=xE hc hg hm hv ha hn hdb he hpl
theorem m_own{P:aK}{w:aU}{K:ae}{mg:az->Option ag}{B:aX}(h:Has P w K mg B x n ps sp)(e1:X.prog=P/\X.w=w/\X.K=K/\X.mg=mg/\X.base=B)(hr:rZ n X.A)(hg:Gl X x)(hdb:(x ==("__debug__" : az))=false)
  (he:starEach (e::es) X.env=(false,eval e X.env)::starEach es X.env) (hpl:(backTo pos (starEach es X.env)).any (·.1)=false) (ha:PA X (e::es) t):PE X (.Call (.Name x p) (e::es) [] pos) (zPs sp [] E0 t):=by
 obtain⟨rfl,rfl,rfl,rfl,rfl⟩:=e1;exact vA h hr hg ha hdb he hpl
theorem yE(i:Nat){te:TE}{pos':fh}(hN:X.N.Nodup)(he:PE X e te)(hi:X.N[i]?=some x:=by rfl)(hx:Loc X.env.scope x:=by first | exact cT rfl | exact kU rfl)(hs:swapsWith e (some (.Name x pos')) pos.line X.env=pure false:=by rfl)
  (hf:X.fn x=true\/X.env.scope.names.lookup x=some .local:=by first | exact .inl rfl | exact .inr rfl | assumption):PS X (.Assign [.Name x pos'] e pos) (zYm te (zIz i)):=qX hN hi hx he hs hf
theorem rO(i:Nat)(hN:X.N.Nodup)(hi:X.N[i]?=some x:=by rfl)(hx:Loc X.env.scope x:=by first | exact cT rfl | exact kU rfl)(hf:X.fn x=true\/X.env.scope.names.lookup x=some .local:=by first | exact .inl rfl | exact .inr rfl | assumption) :
  PG X (.Name x pos) (zIz i):=qB hN hi hx hf
theorem zJa{o:bx}{to:TE}{apos cpos:fh}(ho:PE X o to)(ha:PA X (e::es) t)
  (hbase:attributeBase o "append" X.env (eval o X.env)=eval o X.env:=by rfl)
  (hfew:((backTo cpos (starEach (e::es) X.env)).all (λx=>!x.1)&&(backToKw cpos (keywordEach [] X.env)).all (λx=>x.1.isSome)
   && decide ((e::es).length+([]:List g8).length+(if ([]:List g8).isEmpty then 0 else 1)<30))=true:=by rfl)
  (hline:(apos.endLine == cpos.line)=true:=by rfl) (hs:starEach (e::es) X.env=(false,eval e X.env)::starEach es X.env:=by rfl) (hplain:(backTo cpos (starEach es X.env)).any (·.1)=false:=by rfl) :
  PE X (.Call (.Attribute o "append" apos) (e::es) [] cpos) (tBM X.K "list" zP5 to t):=zW1 PySem.F.plainAttrs_list PySem.F.slot_list_append PySem.F.type_list_append zFo ho ha hbase hfew hline hs hplain
end
end L2

namespace L2
open PySem PySem.Spec PyProof.Rows
def InB(B:aX)(φ:ae->Prop):Prop:=∃ K:ae,K.In B/\φ K
abbrev Cx.withK(X:Cx)(K:ae):Cx:={ X with K:=K }
theorem Mod.withK{K K':ae}{mg:az->Option ag}{B:aX}(m:Mod K mg B)(h:K'.In B):Mod K' mg B:={ m with kin:=h }
section
variable{X:Cx}{pins:List (af×cD)}{σ:St}{H:Hp}{s:ai}{K:ae}
theorem Cx.Ok.withK(ok:X.Ok)(h:K.In X.base):(X.withK K).Ok :=
 ⟨ok.mod.withK h,ok.kind,ok.glob,ok.blt,ok.above,ok.inj,ok.has,ok.cab,ok.hd,ok.frames,ok.stk,ok.exf,ok.bs,ok.bsz,ok.noex,ok.exfs,ok.funs,ok.frf⟩
theorem Cx.Ok.unK(ok:(X.withK K).Ok)(h:Mod X.K X.mg X.base):X.Ok :=
 ⟨h,ok.kind,ok.glob,ok.blt,ok.above,ok.inj,ok.has,ok.cab,ok.hd,ok.frames,ok.stk,ok.exf,ok.bs,ok.bsz,ok.noex,ok.exfs,ok.funs,ok.frf⟩
theorem Inv.withK(I:Inv X pins σ H s)(h:K.In X.base):Inv (X.withK K) pins σ H s:=⟨I.ok.withK h,I.os,I.bare,I.base,I.loc,I.cell,I.free,I.freeC,I.pin,I.hok,I.len⟩
theorem Inv.unK(I:Inv (X.withK K) pins σ H s)(h:Mod X.K X.mg X.base):Inv X pins σ H s:=⟨I.ok.unK h,I.os,I.bare,I.base,I.loc,I.cell,I.free,I.freeC,I.pin,I.hok,I.len⟩
end
section
variable{X:Cx}{o e value:bx}{es:List bx}{f m:az}{pos pos' apos:fh}{ta tv:TE}{t:TA}{C g:af}{n:Nat}{ps:List az}{sp:Sp}
inductive TFld(C:af)(f:az)(x:V)(H:Hp)(Q:VK):Prop where
 | mk (a dx:af) (fs:List (az×V)) (v:V) (ex:x=.ref a) (ea:H a=some (.ins C dx fs)) (l:fs.lookup f=some v) (q:Q v H)
def tFld2(C:af)(f:az)(ta:TE):TE:=λσ H Q=>ta σ H λx H1=>TFld C f x H1 Q
theorem zAb(hb:InB X.base λK=>Cls K C/\zA7 K C f)(he:PE X e ta)(ha:attributeBase e f X.env (eval e X.env)=eval e X.env:=by rfl):PE X (.Attribute e f pos) (tFld2 C f ta):=by
 obtain⟨K,KB,c,n⟩:=hb;intro pins s σ H Q I h;refine zW6 ha (thn (he pins s σ H _ I h) λu s1 ⟨x,H1,I1,rx,a,dx,fs,v,ex,ea,l,q⟩=>?_);subst ex;obtain rfl:u=aI a:=rx;exact zPv (X:=X.withK K) (I1.withK KB) ea c n l λu' s2 I2 ru=>⟨v,H1,I2.unK I.ok.mod,ru,q⟩
inductive SFld(C:af)(f:az)(y x:V)(H:Hp)(Q:Hp->Prop):Prop where
 | mk (a dx:af) (fs:List (az×V)) (ex:x=.ref a) (ea:H a=some (.ins C dx fs)) (l:fs.length<1000) (q:Q (upd H a (.ins C dx (zEy f y fs))))
def sFld2(C:af)(f:az)(ta tv:TE):TS:=λD σ H=>tv σ H λy H1=>ta σ H1 λx H2=>SFld C f y x H2 (D.nx σ)
theorem zFt(hb:InB X.base λK=>Cls K C/\zA7 K C f)(ha:PE X o ta)(hv:PE X value tv)(hs:swapsWith value (some (.Attribute o f pos')) pos.line X.env=pure false:=by rfl):PS X (.Assign [.Attribute o f pos'] value pos) (sFld2 C f ta tv):=by
 obtain⟨K,KB,c,n⟩:=hb;intro pins s σ H D I h;refine plainObj_wpAny_Assign_Attribute (thn (hv pins s σ H _ I h) λu s1 ⟨y,H1,I1,ry,q⟩=>thn (ha pins s1 σ H1 _ I1 q) λov s2 ⟨x,H2,I2,rx,a,dx,fs,ex,ea,l,q2⟩=>?_) hs;subst ex;obtain rfl:ov=aI a:=rx;exact zO2 (X:=X.withK K) (I2.withK KB) ea c n l ry λs3 I3=>⟨σ,_,I3.unK I.ok.mod,q2⟩
theorem zKl{x:az}{p:fh}(h:Has X.prog X.w X.K X.mg X.base x n ps sp)(hr:rZ n X.A)(hg:Gl X x)(hdb:(x ==("__debug__" : az))=false:=by decide):PE X (.Call (.Name x p) [] [] pos) (zPs sp [] E0 zPk):=by
 obtain⟨f,fd,F,b,k,m⟩:=h;exact zTd F hr hg m k b .nil zR7 hdb
def zR2(P:aK)(w:aU)(K:ae)(mg:az->Option ag)(base:aX)(g:af)(n:Nat)(ps:List az)(sp:Sp):Prop :=
 ∃ fd:bT,yY P w K mg base CX0 n g fd ps sp/\∀ us:List ag,us.length=ps.length->bindArgs fd ⟨us,[]⟩=pure (ps.zip us)
inductive TMeth(C:af)(m:az)(x:V)(H:Hp)(q:Prop):Prop where
 | mk (a dx:af) (fs:List (az×V)) (ex:x=.ref a) (ea:H a=some (.ins C dx fs)) (l:fs.lookup m=none) (k:q)
def zVx(C:af)(m:az)(sp:Sp)(ta:TE)(t:TA):TE:=λσ H Q=>ta σ H λx H1=>TMeth C m x H1 (t σ H1 λvs H2=>sp (x::vs) H2 Q E0)
theorem pe_methH{pl:mH Bool}(hb:InB X.base λK=>Cls K C/\zS7 K C m g)(h:zR2 X.prog X.w X.K X.mg X.base g n ps sp)(hr:rZ n X.A)(he:PE X o ta)(ha:PA X (e::es) t)
  (hst:starEach (e::es) X.env=(false,eval e X.env)::starEach es X.env:=by rfl) (hpl:(backTo pos (starEach es X.env)).any (·.1)=false:=by rfl)
  (ht:eval (.Call (.Attribute o m apos) (e::es) [] pos) X.env=(do
   let ov <- eval o X.env
   standAt apos.atName
   let (f,first) <- holding [ov] (getMethod ov m pl)
   callWith pos f first (backTo pos (starEach (e::es) X.env)) (backToKw pos (keywordEach [] X.env))):=by rfl) :
  PE X (.Call (.Attribute o m apos) (e::es) [] pos) (zVx C m sp ta t):=by
 obtain⟨K,KB,c,hm⟩:=hb;obtain⟨fd,F,b⟩:=h;intro pins s σ H Q I h;refine fO (pl:=pl) (thn (he pins s σ H _ I h) λu s1 ⟨x,H1,I1,rx,a,dx,fs,ex,ea,l,q⟩=>?_) ht;subst ex;obtain rfl:u=aI a:=rx;refine zDf (X:=X.withK K) (I1.withK KB) ea c hm l ?_;refine dF (first:=[.ref a]) (h₀:=X.base) (K:=K) KB hm.kp (thn (ha pos pins s1 σ H1 _ I1 q) λus s2 ⟨vs,H2,I2,r,q2⟩=>⟨(I2.withK KB).kIn,?_⟩) hst hpl;exact zOp (us:=.ref a::us) (vs:=.ref a::vs) (dvs:=[]) (ds:=[]) F hr (.all b) .nil zR7 I2 (.cons rfl r) (by rw[du]; exact q2)
theorem tR{pl:mH Bool}(hb:InB X.base λK=>Cls K C/\zS7 K C m g)(h:zR2 X.prog X.w X.K X.mg X.base g n ps sp)(hr:rZ n X.A)(he:PE X o ta)
  (ht:eval (.Call (.Attribute o m apos) [] [] pos) X.env=(do
   let ov <- eval o X.env
   standAt apos.atName
   let (f,first) <- holding [ov] (getMethod ov m pl)
   callWith pos f first (backTo pos (starEach [] X.env)) (backToKw pos (keywordEach [] X.env))):=by rfl) :
  PE X (.Call (.Attribute o m apos) [] [] pos) (zVx C m sp ta zPk):=by
 obtain⟨K,KB,c,hm⟩:=hb;obtain⟨fd,F,b⟩:=h;intro pins s σ H Q I h;refine fO (pl:=pl) (thn (he pins s σ H _ I h) λu s1 ⟨x,H1,I1,rx,a,dx,fs,ex,ea,l,q⟩=>?_) ht;subst ex;obtain rfl:u=aI a:=rx;refine zDf (X:=X.withK K) (I1.withK KB) ea c hm l ?_;exact gA (first:=[.ref a]) (I1.withK KB).kIn hm.kp (zOp (us:=[.ref a]) (vs:=[.ref a]) (dvs:=[]) (ds:=[]) F hr (.all b) .nil zR7 I1 (.cons rfl .nil) q)
def yd5(C:af)(sp:Sp):TE:=λ_ H Q=>∀ x dx,H x=none->H dx=none->dx≠x->sp [.ref x] (upd (upd H dx (.own x)) x (.ins C dx [])) (λv H2=>v=.non/\Q (.ref x) H2) E0
theorem yY.withK{P:aK}{w:aU}{K K':ae}{mg:az->Option ag}{B:aX}{k:Nat}{f:af}{fd:bT}(F:yY P w K mg B CX0 k f fd ps sp)(h:K.In B):yY P w K' mg B CX0 k f fd ps sp :=
 ⟨F.len,λA outer s H args us vs Q E hr e0 hb r hsp=>F.run A outer s H args us vs Q E hr { e0 with mod:=e0.mod.withK h } hb r hsp⟩
theorem zRs{x:az}{p:fh}(hb:InB X.base λK=>Mk K C g)(h:zR2 X.prog X.w X.K X.mg X.base g n ps sp)(hr:rZ (n+1) X.A)(hm:X.mg x=some (.ref C))(hg:Gl X x:=by rfl)(hdb:(x ==("__debug__" : az))=false:=by decide) :
  PE X (.Call (.Name x p) [] [] pos) (yd5 C sp):=by
 obtain⟨K,KB,M⟩:=hb;obtain⟨fd,F,b⟩:=h;intro pins s σ H Q I h;refine cY (tQ I hg hm ?_ hdb);have J:=I.withK KB;refine gA J.kIn M.kp (cX (zUl (X:=X.withK K) (us:=[]) (vs:=[]) (dvs:=[]) (ds:=[]) M (F.withK I.ok.mod.kin) hr (.all b) .nil zR7 J .nil h) (λu s' ⟨v,H',I',r,q⟩=>⟨v,H',I'.unK I.ok.mod,r,q⟩) λ_ _ z=>z)
end
end L2

namespace L2
open PySem PySem.Spec PyProof.Rows
structure M1(X:Cx)(o:bx)(m:az)(apos:fh)(e:bx)(cpos:fh):Prop where
 base:attributeBase o m X.env (eval o X.env)=eval o X.env
 few:((backTo cpos (starEach [e] X.env)).all (λx=>!x.1)&&(backToKw cpos (keywordEach [] X.env)).all (λx=>x.1.isSome)
  && decide (([e]:List bx).length+([]:List g8).length+(if ([]:List g8).isEmpty then 0 else 1)<30))=true
 line:(apos.endLine == cpos.line)=true
 trees:backTo cpos (starEach [e] X.env)=[(false,eval e X.env)]
structure M2(X:Cx)(o:bx)(m:az)(apos:fh)(e f:bx)(cpos:fh):Prop where
 base:attributeBase o m X.env (eval o X.env)=eval o X.env
 few:((backTo cpos (starEach [e,f] X.env)).all (λx=>!x.1)&&(backToKw cpos (keywordEach [] X.env)).all (λx=>x.1.isSome)
  && decide (([e,f]:List bx).length+([]:List g8).length+(if ([]:List g8).isEmpty then 0 else 1)<30))=true
 line:(apos.endLine == cpos.line)=true
 trees:backTo cpos (starEach [e,f] X.env)=[(false,eval e X.env),(false,eval f X.env)]

def IsD(H:Hp)(a:af):Prop:=(∃ kvs,Rd H a (.dK kvs))\/∃ kvs,Rd H a (.dT kvs)
theorem zZn{X:Cx}{pins:List (af×cD)}{σ:St}{H:Hp}{s:ai}{a:af}(I:Inv X pins σ H s)(d:IsD H a) :
  s.TypeIs (.ref a) "dict" /\ (∀ b,aI a=.ref b->∃ ob,s.heap.get? b=some ob/\ob.dict=none)/\(a == sysModules)=false:=by
 rcases d with ⟨kvs,e⟩ | ⟨kvs,e⟩
 ·obtain⟨_,hd,vs,_,dd⟩:=zIh I.hok e;refine⟨dd.typeIs,λb q=>?_,hd⟩;cases q;obtain⟨ob,_,_,h1,h2,_⟩:=dd;exact⟨ob,h1,h2.2.1⟩
 ·obtain⟨_,hd,xs,_,dd⟩:=zPo I.hok e;refine⟨dd.typeIs,λb q=>?_,hd⟩;cases q;obtain⟨ob,_,_,h1,h2,_⟩:=dd;exact⟨ob,h1,h2.2.1⟩


def zZs(td ty:TE):TE:=λσ H Q=>td σ H λx H1=>∃ a,x=.ref a/\IsD H1 a/\ty σ H1 λy H2=>∃ kvs k v,H2 a=some (.dK kvs)/\y=kV k/\wF kvs k=some v/\Q v (upd H2 a (.dK (zEi kvs k)))
section
variable{X:Cx}{o e f:bx}{apos cpos:fh}{td ty tx:TE}
theorem zEn(ho:PE X o td)(he:PE X e ty)(m:M1 X o "pop" apos e cpos):PE X (.Call (.Attribute o "pop" apos) [e] [] cpos) (zZs td ty):=by
 intro pins s σ H Q I h;refine fK m.base m.few m.line hJ iX PySem.F.type_dict_pop (thn (ho pins s σ H _ I h) λu s1 ⟨x,H1,I1,rx,a,ex,d,q1⟩=>?_);subst ex;obtain rfl:u=aI a:=rx;obtain⟨t1,t2,_⟩:=zZn I1 d;exists t1,t2;rw[m.trees];refine iA rfl (fY (jJ (thn (he pins s1 σ H1 _ I1 q1) λiv s2 ⟨y,H2,I2,ry,kvs,k,v,ea,ey,l,q2⟩=>ka ?_)));subst ey;exact d_pop I2 ea ry l (.inl rfl) λw' s3 I3 rw'=>⟨v,_,I3,rw',q2⟩
end

section
variable{X:Cx}{pins:List (af×cD)}{σ:St}{H:Hp}{s:ai}{a:af}{kvs:List (Key×V)}{A:bI}{E:ag->ai->Prop}
theorem zU5{Q:ag->ai->Prop}(I:Inv X pins σ H s)(e:Rd H a (.dK kvs))(h:∀ p s',H p=none->Inv X pins σ (upd H p (.dK kvs)) s'->Q (.ref p) s'):wpAny (model X.prog X.w) A (call (.type "dict") [.ref a]) Q E s:=by
 obtain⟨z,hd,vs,rel,dd⟩:=zIh I.hok e;refine kt_call_dict hd dd (by rw[<- rel.length]; exact z) λh' dd' hs=>?_;refine h _ _ (I.hok.fresh (am _)) (I.laid (a:=s.heap.objs.size) (o:=.dK kvs) (t':=s.toks) (λb q hq=>?_) (am _) (zKz z (beq_eq_false_iff_ne.mpr (cz (aP I.big))) rel dd'));exact(hs.2 b (aP (aw hq))).trans (ah _ hq)
end


end L2


namespace L2
open PySem PySem.Spec PyProof.Rows
section
variable{X:Cx}{pins:List (af×cD)}{σ:St}{H:Hp}{s:ai}{d:af}{kvs:List (Key×V)}
theorem Inv.freeze(I:Inv X pins σ H s)(hd:H d=some (.dK kvs)){o:cD}(ho:s.heap.get? d=some o):Inv X pins σ (upd H d (.frz o (.dK kvs))) s:=by
 have ne:∀{b:af},H b=none->b≠d:=λ{b} n e=>by rw[e,hd] at n; cases n
 have nk:∀{b:af}{u:HO},H b=some u->u≠.dK kvs->upd H d (.frz o (.dK kvs)) b=some u:=λ{b u} e z=>by
  rw[zG (λq=>z (by rw[q,hd] at e; exact(bh e).symm))];exact e
 have nn:∀{b:af},H b=none->upd H d (.frz o (.dK kvs)) b=none:=λ{b} n=>by rw[zG (ne n)]; exact n
 have st:∀(b:af)(u:HO),xC X.prog X.w H s.heap b u->xC X.prog X.w (upd H d (.frz o (.dK kvs))) s.heap b u:=λb u k =>
  k.stay (λc v _ q=>q) (λc q=>nk q (λz=>nomatch z)) λc xs q=>nk q (λz=>nomatch z)
 refine⟨I.ok,I.os,I.bare,⟨I.base.keep,I.base.slot,λb u e n hx=>nn (I.base.free b u e n hx),I.base.there,λb xs e=>nk (I.base.tups b xs e) (λz=>nomatch z),λb u v e=>nk (I.base.frzs b u v e) (λz=>nomatch z),
  λb ps e=>let ⟨more,q⟩:=I.base.tbls b ps e;⟨more,nk q (λz=>nomatch z)⟩⟩,I.loc,I.cell,nn I.free,λx c e=>nn (I.freeC x c e),λp hp=>?_,λb u e=>?_,I.len⟩
 ·obtain⟨h1,h2,h3⟩:=I.pin p hp;exact⟨h1,nn h2,h3⟩
 ·by_cases eb:b=d
  ·subst eb;rw[zA] at e;cases e;exact⟨ho,st b _ (I.hok b _ hd)⟩
  ·rw[zG eb] at e;exact st b u (I.hok b u e)
theorem Inv.frzAt(I:Inv X pins σ H s){o:cD}{es:Array dm}{ep:Nat}(hd:H d=some (.frz o (.dK kvs)))(ho:o.data=.dict es ep) :
  ∃ vs,KV kvs vs/\s.heap.DictAt (yL X.prog X.w) d vs ep/\kvs.length<=sizeLine/\(d == sysModules)=false:=by
 obtain⟨e,z,y,vs,r,o',es',ep',e',c,dt,k,p,n⟩:=(show xC X.prog X.w H s.heap d (.frz o (.dK kvs)) from I.hok d _ hd);rw[e] at e';cases e';rw[ho] at dt;injection dt with d1 d2
 subst d1 d2;exact⟨vs,r,⟨o,es,e,c,ho,k,p,n⟩,z,y⟩
theorem KV.at{vs:List (Key×ag)} : ∀{kvs:List (Key×V)}{vs:List (Key×ag)}{i:Nat}{k:Key}{v:V},KV kvs vs->kvs[i]?=some (k,v)->∃ u,vs[i]?=some (k,u)/\xD v u
 | _,_,_,_,_,.nil,e=>by simp at e
 | _,_,0,k,v,.cons (a:=a) (b:=b) ⟨r1,r2⟩ _,e=>by
  simp at e;subst e;exact⟨b.2,by rw[show(k,b.2)=b from by rw[show k=b.1 from r1]]; rfl,r2⟩
 | _,_,i+1,k,v,.cons _ t,e=>KV.at (vs:=[]) (i:=i) t (by simpa using e)
def Itc(φ:Hp->Prop)(xs:List V):It:=⟨λi H=>φ H/\i<xs.length,λi H x H'=>H'=H/\xs[i]?=some x,λi H=>φ H/\xs.length<=i⟩
abbrev zM8(d:af)(o:cD)(kvs:List (Key×V))(H:Hp):Prop:=H d=some (.frz o (.dK kvs))
theorem zSv{P:aK}{w:aU}{K:ae}{tg:bx}{o:cD}{es:Array dm}{ep:Nat}(ho:o.data=.dict es ep)(it:af) :
  zV7 P w K tg (Itc (zM8 d o kvs) (kvs.map (·.2))) [it] it (λi h=>h.IsValIter it d i kvs.length ep) where
 mem:=by simp
 obj:=λi h st b hb=>by
  have e:b=it:=by simpa using hb
  subst e;obtain⟨o,e,c,d⟩:=st;exact⟨o,e,λv z=>by rw[d] at z; cases z⟩
 keep:=λi h h' st k=>st.at λo e=>k it (by simp) o e
 item:=by
  intro X hP hw hK hc i pins s σ H E I hf st ⟨fz,hi⟩;subst hP hw hK;obtain⟨vs,r,da,_,_⟩:=I.frzAt fz ho;rw[aa] at hi;obtain⟨u,hu,ru⟩:=KV.at (vs:=vs) (k:=kvs[i].1) (v:=kvs[i].2) r (aj hi);obtain⟨f0,f1,f2,f3,f4,f5⟩:=hf it (by simp);have st':s.heap.IsValIter it d i vs.length ep:=by rw[<- r.length]; exact st
  refine wpAny_pyNext_values_item st' da hu λh' st2 sb=>?_;have I1:Inv X pins σ H { s with heap:=h' }:=I.turned (t':=s.toks) (λb o hb e=>(sb.2 b hb).trans e) f0 f1 f3 f4 f5;obtain⟨o,e,c,dd⟩:=id st2;rw[<- r.length] at st2;exact⟨u,U,zPf (s:={ s with heap:=h' }) e c dd (by decide) ⟨kvs[i].2,H,I1,ru,⟨U,by rw[ak,aj hi]; rfl⟩,st2,λb hb=>(hf b hb).1⟩⟩
 done:=by
  intro X hP hw hK hc i pins s σ H E I hf st ⟨fz,hi⟩;subst hP hw hK;obtain⟨vs,r,da,_,_⟩:=I.frzAt fz ho;rw[aa] at hi;obtain⟨f0,f1,f2,f3,f4,f5⟩:=hf it (by simp);have st':s.heap.IsValIter it d i vs.length ep:=by rw[<- r.length]; exact st
  exact wpAny_pyNext_values_end (I.ok.hd hc) st' da (cu (by rw[<- r.length]; exact hi)) λh' eb=>⟨rfl,I.turned (t':=s.toks) (λb o hb e=>eb b o hb e) f0 f1 f3 f4 f5⟩
 self:=λ_ _ _ _ _ st h=>wpAny_pyIter_valiter st h
def zUi(d:af)(o:cD)(kvs:List (Key×V))(H H2:Hp):Prop:=H2 d=some (.frz o (.dK kvs))/\(∀ b,b≠d->H2 b=H b)/\∀ o',H d=some (.frz o' (.dK kvs))->o'=o
theorem Inv.frozen(I:Inv X pins σ H s)(hd:Rd H d (.dK kvs)):∃(o:cD)(es:Array dm)(ep:Nat)(H2:Hp),o.data=.dict es ep/\zUi d o kvs H H2/\Inv X pins σ H2 s:=by
 obtain⟨z,y,vs,r,o,es,ep,e,c,dt,_⟩:=hd.ok I.hok;rcases hd with hd | ⟨o',hd⟩
 ·exact⟨o,es,ep,_,dt,⟨zA,λb hb=>zG hb,λo' e'=>by rw[hd] at e'; cases e'⟩,I.freeze hd e⟩
 ·obtain⟨e',_⟩:=(show xC X.prog X.w H s.heap d (.frz o' (.dK kvs)) from I.hok d _ hd);rw[e] at e';cases e';exact⟨o,es,ep,H,dt,⟨hd,λ_ _=>rfl,λo' e'=>by rw[hd] at e'; cases e'; rfl⟩,I⟩
def iVals(te:TE):TI:=λσ H R=>te σ H λx H1=>∃(d:af)(kvs:List (Key×V)),x=.ref d/\Rd H1 d (.dK kvs)/\∀(o:cD)(H2:Hp),zUi d o kvs H1 H2->R (Itc (zM8 d o kvs) (kvs.map (·.2))) H2
variable{tg l:bx}{te:TE}{apos pos:fh}
theorem zIo(hl:PE X l te)(hbase:attributeBase l "values" X.env (eval l X.env)=eval l X.env:=by rfl)(hline:(apos.endLine == pos.line)=true:=by rfl):PI X tg (.Call (.Attribute l "values" apos) [] [] pos) (iVals te):=by
 intro pins s σ H R I h;refine fK (T := "dict") (id := "dict.values") hbase rfl hline hJ jS F.type_dict_values (thn (hl pins s σ H _ I h) λv s1 ⟨x,H1,I1,r1,d,kvs,e,hd,q⟩=>?_);subst e;cases r1;obtain⟨o,es,ep,H2,ho,ft,I2⟩:=I1.frozen hd;obtain⟨vs,r,da,_,ns⟩:=I2.frzAt ft.1 ho;exists da.dictOf.typeIs,da.dictOf.mapOf.noDict;show wpAny _ _ (callWith pos (.builtin "dict.values") [.ref d] [] []) _ _ s1;refine method_meetsIn jS F.entry_dict_values rfl (gC ⟨rfl,da.dictOf.typeIs,F.args_dict_values_1 _,_,meets_dict_values (yL X.prog X.w) d ns,⟨vs,da.dictOf⟩,?_⟩);refine wpAny_pyIter_values (knd:=yL X.prog X.w) (d:=d) (kvs:=vs) (ep:=ep) ⟨_,ap _ rfl,rfl,rfl⟩ (da.push _) ?_;have I3:=I2.kept (t':=s1.toks) (h':=s1.heap.push { cls:=.type "dict_values",data:=.fields #[.ref d] }) λb o e=>ah _ e;have I4:=I3.kept (t':=s1.toks) (h':=(s1.heap.push { cls:=.type "dict_values",data:=.fields #[.ref d] }).push { cls:=.type "dict_valueiterator",data:=.fields #[.ref d,.int 0 0,.int vs.length 0,.int ep 0] }) λb o e=>ah _ e;refine⟨_,[_],_,_,H2,U,I4,zSv ho _,⟨_,ap _ rfl,U,by rw[r.length]; rfl⟩,λb hb=>?_,q o H2 ft⟩;have e:=av.mp hb;subst e;exact I3.fpOk (am _) (I3.hok.fresh (am _))
end
end L2

namespace L2
open PySem PySem.Spec PyProof.Rows
section
variable{φ:Hp->Prop}{xs:List V}{g:TG}{tb:TS}{E:zMc}{σ σ0:St}{H H1:Hp}{D:af}{tt:TT}{te:TE}{Q:VK}
theorem zVd(Pv:Nat->St->Hp->Prop)(h0:Pv 0 σ H)(hl:∀ i σ H,Pv i σ H->φ H)
  (hs:∀ i x σ H,xs[i]?=some x->Pv i σ H->g x σ H λσ2 H2=>tb { E with nx:=Pv (i+1),ct:=Pv (i+1),bk:=E.nx } σ2 H2) (hd:∀ σ H,Pv xs.length σ H->E.nx σ H) :
  ∃ W:Nat->Nat->St->Hp->Prop,(∃ m,W 0 m σ H)/\∀ i m σ H,W i m σ H ->
   ((Itc φ xs).stop i H/\E.nx σ H)\/((Itc φ xs).go i H/\∃ N:St->Hp->Prop,(∀ σ' H',N σ' H'->∃ m',m'<m/\W (i+1) m' σ' H')/\∀ x H',(Itc φ xs).yld i H x H'->g x σ H' λσ2 H2=>tb { E with nx:=N,ct:=N,bk:=E.nx } σ2 H2):=by
 exists λi m σ H=>m=xs.length-i/\i<=xs.length/\Pv i σ H,⟨xs.length,by simp,bw _,h0⟩;rintro i m σ H ⟨rfl,hi,p⟩;by_cases hlt:i<xs.length
 ·refine .inr ⟨⟨hl i σ H p,hlt⟩,Pv (i+1),λσ' H' p'=>⟨xs.length-(i+1),by lia,rfl,hlt,p'⟩,λx H' ⟨e,y⟩=>?_⟩;subst e;exact hs i x σ _ y p
 ·have e:i=xs.length:=by lia
  subst e;exact .inl ⟨⟨hl _ σ H p,am _⟩,hd σ H p⟩
theorem zZ6(Pv:Nat->St->List V->Hp->Prop)(h0:Pv 0 σ0 [] (upd H1 D (.lst [])))(hl:∀ i σ ys H,Pv i σ ys H->φ H/\H D=some (.lst ys))
  (hs:∀ i x σ ys H,xs[i]?=some x->Pv i σ ys H->g x σ H λσ2 H2=>tt σ2 H2 λb H3 =>
   if b=true then te σ2 H3 λy H4=>H4 D=some (.lst ys)/\ys.length<sizeLine/\Pv (i+1) σ2 (ys++[y]) (upd H4 D (.lst (ys++[y]))) else Pv (i+1) σ2 ys H3)
  (hd:∀ σ ys H,Pv xs.length σ ys H->Q (.ref D) H):zDd (Itc φ xs) D g tt te σ0 H1 Q:=by
 exists λi m σ ys H=>m=xs.length-i/\i<=xs.length/\Pv i σ ys H,⟨xs.length,by simp,bw _,h0⟩;rintro i m σ ys H ⟨rfl,hi,p⟩;obtain⟨q,qd⟩:=hl i σ ys H p;exists qd;by_cases hlt:i<xs.length
 ·refine .inr ⟨⟨q,hlt⟩,Pv (i+1),λσ' zs H' z=>⟨xs.length-(i+1),by lia,rfl,hlt,z⟩,λx H' ⟨e,y⟩=>?_⟩;subst e;exact hs i x σ ys _ y p
 ·have e:i=xs.length:=by lia
  subst e;exact .inl ⟨⟨q,am _⟩,hd σ ys H p⟩
theorem zMd(Pv:Nat->St->List V->Hp->Prop)(h0:Pv 0 σ0 [] (upd H1 D (.lst [])))(hl:∀ i σ ys H,Pv i σ ys H->φ H/\H D=some (.lst ys))
  (hs:∀ i x σ ys H,xs[i]?=some x->Pv i σ ys H->g x σ H λσ2 H2=>te σ2 H2 λy H4=>H4 D=some (.lst ys)/\ys.length<sizeLine/\Pv (i+1) σ2 (ys++[y]) (upd H4 D (.lst (ys++[y]))))
  (hd:∀ σ ys H,Pv xs.length σ ys H->Q (.ref D) H):zDd (Itc φ xs) D g zW3 te σ0 H1 Q:=zZ6 Pv h0 hl (λi x σ ys H e p=>hs i x σ ys H e p) hd
end
section
variable{X:Cx}{x y:az}{p pos:fh}{i e:bx}{es:List bx}{ty:TE}{t:TA}
theorem zN6{n:Int}(hm:∃ k,X.mg x=some (.int n k))(hg:Gl X x:=by rfl)(hd:(x ==("__debug__" : az))=false:=by decide):PE X (.Name x pos) (tC (.int n)):=λ_ _ _ H _ I h=>by
 obtain⟨k,hm⟩:=hm;exact tQ I hg hm ⟨.int n,H,I,⟨k,rfl⟩,h⟩ hd
def zYz(P:aK)(w:aU)(B:aX)(a:af)(kvs:List (Key×V)):Prop:=∃ vs,KV kvs vs/\B.DictOf (yL P w) a vs
def tGet(kvs:List (Key×V))(ty:TE):TE:=λσ H Q=>ty σ H λy H1=>∃(k:Key)(v:V),y=kV k/\wF kvs k=some v/\Q v H1
theorem zVj{pins:List (af×cD)}{σ:St}{H:Hp}{s:ai}{a:af}{kvs:List (Key×V)}{k:Key}{v:V}{u:ag}{E:ag->ai->Prop}{Q:ag->ai->Prop}(hb:zYz X.prog X.w X.base a kvs)(I:Inv X pins σ H s)(l:wF kvs k=some v)(r:xD (kV k) u)
  (h:∀ w' s',Inv X pins σ H s'->xD v w'->Q w' s'):s.TypeIs (.ref a) "dict" /\ wpAny (model X.prog X.w) X.A (getItem (.ref a) u) Q E s:=by
 obtain⟨vs,rel,dd⟩:=hb;have dd:s.heap.DictOf (yL X.prog X.w) a vs:=dd.at λo e=>I.bk a o e;obtain⟨w',hw,rw'⟩:=zJf.some_of (v:=v) (o:=valueAt vs k) (by rw[<- l]; exact rel.val k);exact⟨dd.typeIs,lq (zH2 r) dd.mapOf hw (h w' _ (I.tok _) rw')⟩
theorem zU7{a:af}{kvs:List (Key×V)}(hb:zYz X.prog X.w X.base a kvs)(hm:X.mg x=some (.ref a))(hi:PE X i ty)(hs:yd9 i:=by exact λ_ _=>rfl)(hg:Gl X x:=by rfl)(hd:(x ==("__debug__" : az))=false:=by decide) :
  PE X (.Subscript (.Name x p) i pos) (tGet kvs ty):=by
 intro pins s σ H Q I h;refine zMj ff.lookup hs (tQ I hg hm (thn (hi pins s σ H _ I h) λiv s2 ⟨y,H2,I2,ry,k,v,ey,l,q2⟩=>?_) hd);subst ey;exact zVj hb I2 l ry λw' s3 I3 rw'=>⟨v,H2,I3,rw',q2⟩
structure TabAt(P:aK)(w:aU)(K:ae)(mg:az->Option ag)(B:aX)(m:Nat)(kvs:List (Key×V))(k:Key)(sp:Sp):Prop where
 mk ::
 has:∃(x:az)(f:af)(n:Nat)(ps:List az),wF kvs k=some (.ref f)/\mg x=some (.ref f)/\Has P w K mg B x n ps sp/\n<=m
end
theorem zBg:bootBuiltins "dict" = some (.type "dict"):=by decide +kernel
section
variable{X:Cx}
theorem rN:uL X (.type "dict") (λxs H Q=>∃(a:af)(kvs:List (Key×V)),xs=[.ref a]/\Rd H a (.dK kvs)/\∀ p,H p=none->Q (.ref p) (upd H p (.dK kvs))):=by
 intro pins s σ H xs us Q I r h;obtain⟨a,kvs,rfl,ha,q⟩:=h;obtain⟨u,rfl,ru⟩:=zIw r;cases ru;exact zU5 I ha λp s' hp I'=>⟨.ref p,_,I',rfl,q p hp⟩
theorem vM:uL X (.builtin "len") (λxs H Q=>∃(a:af)(kvs:List (Key×V)),xs=[.ref a]/\Rd H a (.dK kvs)/\Q (.int kvs.length) H):=by
 intro pins s σ H xs us Q I r h;obtain⟨a,kvs,rfl,ha,q⟩:=h;obtain⟨u,rfl,ru⟩:=zIw r;cases ru;exact d_len I ha λt s' I'=>⟨.int kvs.length,H,I',⟨t,rfl⟩,q⟩
theorem zL2{P:aK}{w:aU} : ∀{es:List dm}{kvs:List (Key×V)}{vs:List (Key×ag)},KV kvs vs->Pairs (yL P w) es vs->yT (kvs.map λkv=>kV kv.1) (es.map (·.key))
 | _,_,_,.nil,.nil=>.nil
 | _,_,_,.cons ⟨r1,_⟩ t,.cons hk _ p=>by
  refine .cons ?_ (zL2 t p);dsimp only;rw[r1];rcases yQ hk with ⟨j,t,e1,e2⟩ | ⟨x,t,e1,e2⟩
  ·rw[e1,e2]; exact⟨t,U⟩
  ·rw[e1,e2]; exact⟨t,U⟩
theorem zDu(hc:X.calm=true):uL X (.type "list") (λxs H Q=>∃(d:af)(kvs:List (Key×V)),xs=[.ref d]/\Rd H d (.dK kvs)/\∀ p,H p=none->Q (.ref p) (upd H p (.lst (kvs.map λkv=>kV kv.1)))):=by
 intro pins s σ H xs us Q I r h;obtain⟨d,kvs,rfl,hd,q⟩:=h;obtain⟨u,rfl,ru⟩:=yT.one r;cases ru;obtain⟨hz,hsm,vs,rel,ob,es,age,g,ex,dat,hk,hp,hn⟩:=zIh I.hok hd;have vk:=zL2 rel hp;have hsz:es.size=kvs.length:=by
  have z:=vk.length;rw[aa,aa,bM] at z;exact z.symm
 refine PySem.W.kdl_call (zXh (rows:=es) (age:=age) hsm) (show X.A.handled=none from I.ok.hd hc) ⟨ob,g,ex,dat⟩ (by rw[hsz]; exact hz) λh' tk acc c keep at' its=>?_;have eqs:acc.toList=es.toList.map (·.key):=by
  refine g9 λj=>?_;by_cases hj:j<es.size
  ·have ja:j<acc.size:=by rw[its.1]; exact hj
   obtain⟨hj',e⟩:=its.2 j acc[j] (by simp[ja]);rw[fP,cU ja,e,ak,fP,cU hj];rfl
  ·rw[cu (by rw[bM,its.1]; lia),cu (by simp; lia)]
 refine⟨.ref s.heap.objs.size,_,I.laid (t':=tk) (a:=s.heap.objs.size) (o:=.lst (kvs.map λkv=>kV kv.1)) keep (am _) ?_,U,q _ (I.hok.fresh (am _))⟩;exists by rw[aa]; exact hz,_,c,vk;rw[<- eqs,jj];exact at'
end
end L2

namespace L2
open PySem PySem.Spec PyProof.Rows
def zEa(x:az):List V:=x.cps.toList.map λc=>.str ⟨#[c]⟩
section
variable{X:Cx}{tg l:bx}{te:TE}
theorem zUx{P:aK}{w:aU}{K:ae}{tg:bx}(x:az)(t:nV)(it:af):zV7 P w K tg (Itc (λ_=>True) (zEa x)) [it] it (λi h=>h.IsStrIter it "str_ascii_iterator" x t i) where
 mem:=by simp
 obj:=λi h st b hb=>by
  have e:b=it:=by simpa using hb
  subst e;obtain⟨o,e,c,d⟩:=st;exact⟨o,e,λv z=>by rw[d] at z; cases z⟩
 keep:=λi h h' ⟨o,ho,r⟩ k=>⟨o,k it (by simp) o ho,r⟩
 item:=by
  intro X hP hw hK hc i pins s σ H E I hf st ⟨_,hi⟩;subst hP hw hK;have hi':i<x.cps.size:=by unfold zEa at hi; rw[aa,bM] at hi; exact hi
  obtain⟨f0,f1,f2,f3,f4,f5⟩:=hf it (by simp);refine wpAny_pyNext_ascii_item st (c:=x.cps[i]) (cU hi') λh' st2 sb=>?_;have I1:Inv X pins σ H { s with heap:=h',toks:=s.toks+1 }:=I.turned (t':=s.toks+1) (λb o hb e=>(sb.2 b hb).trans e) f0 f1 f3 f4 f5;obtain⟨o,e,c,dd⟩:=id st2;exact⟨_,U,zPf (s:={ s with heap:=h',toks:=s.toks+1 }) e c dd (by decide) ⟨.str ⟨#[x.cps[i]]⟩,H,I1,⟨_,U⟩,⟨U,by unfold zEa; rw[ak,fP,cU hi']; rfl⟩,st2,λb hb=>(hf b hb).1⟩⟩
 done:=by
  intro X hP hw hK hc i pins s σ H E I hf st ⟨_,hi⟩;subst hP hw hK;have hi':x.cps.size<=i:=by unfold zEa at hi; rw[aa,bM] at hi; exact hi
  obtain⟨f0,f1,f2,f3,f4,f5⟩:=hf it (by simp);exact wpAny_pyNext_ascii_end (I.ok.hd hc) st (eB hi') λh' eb=>⟨rfl,I.turned (t':=s.toks) (λb o hb e=>eb b o hb e) f0 f1 f3 f4 f5⟩
 self:=λ_ _ _ _ _ st h=>wpAny_pyIter_striter_ascii st h
def iStr(te:TE):TI:=λσ H R=>te σ H λv H1=>∃ x:az,v=.str x/\x.cps.all (· < 128)=true/\R (Itc (λ_=>True) (zEa x)) H1
theorem zQl(hl:PE X l te):PI X tg l (iStr te):=by
 intro pins s σ H R I h;refine thn (hl pins s σ H _ I h) λv s1 ⟨y,H1,I1,r1,x,e,ha,q⟩=>?_;subst e;obtain⟨t,rfl⟩:=r1;refine wpAny_pyIter_ascii ha ?_;refine⟨s1.heap.objs.size,[s1.heap.objs.size],_,_,H1,U,I1.kept (t':=s1.toks) λb o e=>ah _ e,zUx x t _,⟨_,ap _ rfl,U,U⟩,λb hb=>?_,q⟩;have e:b=s1.heap.objs.size:=by simpa using hb
 subst e;exact I1.fpOk (am _) (I1.hok.fresh (am _))
theorem zJ1:OpR X (compareOp .LtE) (λx y H Q=>∃ i j,x=.str i/\y=.str j/\Q (.bl (!decide (j.cps.toList<i.cps.toList))) H):=by
 intro pins s σ H x y v u Q I rx ry h;obtain⟨i,j,rfl,rfl,q⟩:=h;obtain⟨t,rfl⟩:=rx;obtain⟨t',rfl⟩:=ry;exact PySem.P.le_str (yU I q rfl)
theorem zV8:SlR X (λx lo hi H Q=>∃ z:az,x=.str z/\z.length<=sizeLine/\Q (.str (e9 z lo hi)) H):=by
 intro pins s σ H x v vl vu lo hi sl Q I rx hs pl pu h;obtain⟨z,rfl,hz,q⟩:=h;obtain⟨t,rfl⟩:=rx;have fin:∀(l u:Option (Int×nV)),l.map (·.1)=lo->u.map (·.1)=hi->(sliceMade z t l u none).post (EP X pins σ Q) s:=λl u e1 e2=>by
  subst e1 e2;exact post_val_or_str (t:=t) (s:=s) (Q:=EP X pins σ Q) ⟨aD (iE z _ _) hz,λt' k=>⟨.str (e9 z _ _),H,I.tok k,⟨t',rfl⟩,q⟩⟩
 exists "str",_,F.slot_str_getitem.lookup,typeIs_str _ _ _;obtain⟨o,ho,hc,hd⟩:=hs;cases pl with
 | none =>
  cases pu with
  | none=>exact d9 (l:=none) (u:=none) (st:=none) ⟨o,ho,hc,hd⟩ rfl (fin none none rfl rfl)
  | int j tj=>exact d9 (l:=none) (u:=some (j,tj)) (st:=none) ⟨o,ho,hc,hd⟩ rfl (fin none (some (j,tj)) rfl rfl)
 | int i ti =>
  cases pu with
  | none=>exact d9 (l:=some (i,ti)) (u:=none) (st:=none) ⟨o,ho,hc,hd⟩ rfl (fin (some (i,ti)) none rfl rfl)
  | int j tj=>exact d9 (l:=some (i,ti)) (u:=some (j,tj)) (st:=none) ⟨o,ho,hc,hd⟩ rfl (fin (some (i,ti)) (some (j,tj)) rfl rfl)
theorem zKg:∀{ts:List az}{us:List ag},yT (ts.map V.str) us->∃ l:List (az×nV),us=strValues l/\l.map (·.1)=ts
 | [],_,.nil=>⟨[],rfl,rfl⟩
 | x::ts,_,.cons ⟨t,e⟩ r=>by
  obtain⟨l,e1,e2⟩:=zKg r;subst e;exact⟨(x,t)::l,by rw[e1]; rfl,by rw[aN,e2]⟩
theorem zSp(sep:az):∀ zs:List az,(il sep zs).length<=(zs.map (·.length)).sum+zs.length*sep.length
 | []=>bw _
 | [y]=>by
  show y.length<=_;simp
 | y::z::l=>by
  have ih:=zSp sep (z::l);have e:(il sep (y::z::l)).length=y.length+sep.length+(il sep (z::l)).length:=by
   show(y++sep++il sep (z::l)).length=_;rw[strLen_append,strLen_append]
  rw[e];simp only[aN,mZ,aW,nF] at ih ⊢;lia
def zC5(sep:az)(ts:List az):Nat:=(ts.map (·.length)).sum+ts.length*sep.length
theorem zSx:MtR X "str.join" (λx xs H Q=>∃(sep:az)(a:af)(ts:List az),x=.str sep/\xs=[.ref a]/\SqL X.K H a (ts.map V.str)/\zC5 sep ts<=sizeLine/\Q (.str (fL sep ts)) H):=by
 intro pins s σ H x xs v us Q I rx rv h;obtain⟨sep,a,ts,rfl,rfl,ha,hl,q⟩:=h;obtain⟨t,rfl⟩:=rx;obtain⟨u,rfl,ru⟩:=yT.one rv;cases ru;obtain⟨its,r,p,_⟩:=I.list ha;obtain⟨l,rfl,el⟩:=zKg r;have ht:Builtin.Str.tooLong ((l.map (·.1)).toArray.foldl (· + ·.length+sep.length) 0)=false:=by
  rw[el,ny];exact decide_eq_false (by unfold zC5 at hl; lia)
 refine call_meets i7 (typeIs_str _ _ _) F.entry_str_join (F.args_str_join_2 _ _) (meets_str_join_list sep t a l ht) ⟨p.isList,?_⟩;have gl:∀ zs:List az,(fL sep zs).length<=zC5 sep zs:=λzs=>by
  rw[gG];exact zSp sep zs
 match l,el with
 | [],el =>
  subst el;exact⟨aD (gl []) hl,⟨.str _,H,I.tok _,⟨_,U⟩,q⟩⟩
 | [y],el =>
  subst el;exact⟨.str y.1,H,I,⟨y.2,U⟩,q⟩
 | y::z::l,el =>
  subst el;exact⟨aD (gl _) hl,⟨.str _,H,I.tok _,⟨_,U⟩,q⟩⟩
end
end L2

namespace Sea
open PySem L2
inductive Dt where
 | int (i:Int)
 | str (x:az)
 | tup (l:List Dt)
mutual
def Rep(H:Hp):Dt->V->Prop
 | .int i,v=>v=.int i
 | .str x,v=>v=.str x
 | .tup l,v=>∃(a:af)(xs:List V),v=.ref a/\H a=some (.tup xs)/\wG H l xs
def wG(H:Hp):List Dt->List V->Prop
 | [],xs=>xs=[]
 | d::l,xs=>∃(x:V)(r:List V),xs=x::r/\Rep H d x/\wG H l r
end
def xX(φ:af->Prop)(H H':Hp):Prop:=∀ b o,¬ φ b->H b=some o->H' b=some o\/∃(ob:cD)(kvs:List (Key×V)),o=.dK kvs/\H' b=some (.frz ob (.dK kvs))
abbrev Sam(H H':Hp):Prop:=xX (λ_=>False) H H'
section
variable{φ ψ:af->Prop}{H H1 H2:Hp}{a:af}{xs:List V}
theorem xX.of(s:Same H H1):xX φ H H1:=λb o _ e=>.inl (s b o e)
theorem xX.refl(H:Hp):xX φ H H:=λ_ _ _ e=>.inl e
theorem xX.trans(s:xX φ H H1)(t:xX φ H1 H2):xX φ H H2:=λb o n e=>by
 rcases s b o n e with e1 | ⟨ob,kvs,e0,e1⟩
 ·exact t b o n e1
 ·subst e0;rcases t b _ n e1 with e2 | ⟨_,_,z,_⟩
  ·exact .inr ⟨ob,kvs,rfl,e2⟩
  ·cases z
theorem xX.wider(s:xX φ H H1)(h:∀ b,φ b->ψ b):xX ψ H H1:=λb o n e=>s b o (λz=>n (h b z)) e
theorem xX.lst(s:xX φ H H1)(n:¬ φ a)(e:H a=some (.lst xs)):H1 a=some (.lst xs):=by
 rcases s a _ n e with z | ⟨_,_,z,_⟩
 ·exact z
 ·cases z
theorem xX.tup(s:xX φ H H1)(n:¬ φ a)(e:H a=some (.tup xs)):H1 a=some (.tup xs):=by
 rcases s a _ n e with z | ⟨_,_,z,_⟩
 ·exact z
 ·cases z
theorem xX.ins(s:xX φ H H1)(n:¬ φ a){C dx:af}{fs:List (az×V)}(e:H a=some (.ins C dx fs)):H1 a=some (.ins C dx fs):=by
 rcases s a _ n e with z | ⟨_,_,z,_⟩
 ·exact z
 ·cases z
theorem xX.rd(s:xX φ H H1)(n:¬ φ a){kvs:List (Key×V)}(e:Rd H a (.dK kvs)):Rd H1 a (.dK kvs):=by
 rcases e with e | ⟨ob,e⟩
 ·rcases s a _ n e with z | ⟨ob,kvs',z,w⟩
  ·exact .inl z
  ·cases z;exact .inr ⟨ob,w⟩
 ·rcases s a _ n e with z | ⟨_,_,z,_⟩
  ·exact .inr ⟨ob,z⟩
  ·cases z
theorem xX.some(s:xX φ H H1)(n:¬ φ a){o:HO}(e:H a=some o):∃ o',H1 a=some o':=by
 rcases s a _ n e with z | ⟨_,_,_,w⟩
 ·exact⟨_,z⟩
 ·exact⟨_,w⟩
theorem xX.free(s:xX φ H H1)(n:¬ φ a)(e:H1 a=none):H a=none:=by
 cases q:H a with
 | none=>rfl
 | some o =>
  obtain⟨o',z⟩:=s.some n q;rw[e] at z;cases z
theorem zFc{d:af}{o:cD}{kvs:List (Key×V)}(hd:Rd H d (.dK kvs))(f:zUi d o kvs H H1):xX φ H H1:=λb u _ e=>by
 by_cases z:b=d
 ·subst z;rcases hd with hd | ⟨o',hd⟩
  ·rw[hd] at e;cases e;exact .inr ⟨o,kvs,rfl,f.1⟩
  ·rw[hd] at e;cases e;rw[<- f.2.2 o' hd] at f;exact .inl f.1
 ·exact .inl (by rw[f.2.1 b z]; exact e)
end
mutual
theorem Rep.sam{φ:af->Prop}{H H1:Hp}(s:xX φ H H1)(np:∀ b xs,H b=some (.tup xs)->¬ φ b):∀{d:Dt}{v:V},Rep H d v->Rep H1 d v
 | .int _,_,h=>by rw[Rep] at h ⊢; exact h
 | .str _,_,h=>by rw[Rep] at h ⊢; exact h
 | .tup l,v,h=>by
  rw[Rep] at h ⊢;obtain⟨a,xs,e,h1,h2⟩:=h;exact⟨a,xs,e,s.tup (np a xs h1) h1,wG.sam s np h2⟩
theorem wG.sam{φ:af->Prop}{H H1:Hp}(s:xX φ H H1)(np:∀ b xs,H b=some (.tup xs)->¬ φ b):∀{l:List Dt}{xs:List V},wG H l xs->wG H1 l xs
 | [],_,h=>by rw[wG] at h ⊢; exact h
 | d::l,xs,h=>by
  rw[wG] at h ⊢;obtain⟨x,r,e,h1,h2⟩:=h;exact⟨x,r,e,Rep.sam s np h1,wG.sam s np h2⟩
end
section
variable{H H1:Hp}
theorem no_f{H:Hp} : ∀ b xs,H b=some (.tup xs)->¬ (λ_:af=>False) b:=λ_ _ _ z=>z
theorem Rep.to{d:Dt}{v:V}(h:Rep H d v)(s:Sam H H1):Rep H1 d v:=h.sam s no_f
theorem wG.to{l:List Dt}{xs:List V}(h:wG H l xs)(s:Sam H H1):wG H1 l xs:=h.sam s no_f
theorem yB{i:Int}{v:V} : Rep H (.int i) v↔v=.int i:=by rw[Rep]
theorem zY{x:az}{v:V} : Rep H (.str x) v↔v=.str x:=by rw[Rep]
theorem yJ{l:List Dt}{v:V} : Rep H (.tup l) v↔∃(a:af)(xs:List V),v=.ref a/\H a=some (.tup xs)/\wG H l xs:=by rw[Rep]
theorem yH{xs:List V} : wG H [] xs↔xs=[]:=by rw[wG]
theorem zK{d:Dt}{l:List Dt}{xs:List V} : wG H (d::l) xs↔∃(x:V)(r:List V),xs=x::r/\Rep H d x/\wG H l r:=by rw[wG]
theorem wG.length:∀{l:List Dt}{xs:List V},wG H l xs->xs.length=l.length
 | [],_,h=>by rw[yH.mp h]; rfl
 | d::l,_,h=>by
  obtain⟨x,r,e,_,h2⟩:=zK.mp h;rw[e,aW,aW,wG.length h2]
theorem wG.back:∀{l:List Dt}{xs:List V}{i:Nat}{x:V},wG H l xs->xs[i]?=some x->∃ d,l[i]?=some d/\Rep H d x
 | [],_,i,x,h,e=>by rw[yH.mp h] at e; simp at e
 | d::l,_,0,x,h,e=>by
  obtain⟨y,r,ex,h1,_⟩:=zK.mp h;rw[ex] at e;simp at e;subst e;exact⟨d,U,h1⟩
 | d::l,_,i+1,x,h,e=>by
  obtain⟨y,r,ex,_,h2⟩:=zK.mp h;rw[ex] at e;obtain⟨d',h3,h4⟩:=wG.back (i:=i) (x:=x) h2 (by simpa using e);exact⟨d',by simpa using h3,h4⟩
theorem wG.app:∀{l m:List Dt}{xs ys:List V},wG H l xs->wG H m ys->wG H (l++m) (xs++ys)
 | [],_,_,_,h,k=>by rw[yH.mp h]; exact k
 | d::l,_,_,_,h,k=>by
  obtain⟨x,r,e,h1,h2⟩:=zK.mp h;rw[e];exact zK.mpr ⟨x,_,rfl,h1,wG.app h2 k⟩
theorem wG.one{d:Dt}{v:V}(h:Rep H d v):wG H [d] [v]:=zK.mpr ⟨v,[],rfl,h,yH.mpr rfl⟩
theorem wG.two{d e:Dt}{v u:V}(h:Rep H d v)(k:Rep H e u):wG H [d,e] [v,u]:=zK.mpr ⟨v,_,rfl,h,.one k⟩
end
structure xM(H:Hp)(kvs:List (Key×V))(es:List (Key×Dt)):Prop where
 keys:kvs.map (·.1)=es.map (·.1)
 vals:wG H (es.map (·.2)) (kvs.map (·.2))
def zAt(H:Hp)(a:af)(es:List (Key×Dt)):Prop:=∃ kvs,Rd H a (.dK kvs)/\xM H kvs es
def look(es:List (Key×Dt))(k:Key):Option Dt:=(es.find? λe=>decide (e.1=k)).map (·.2)
def zWa(es:List (Key×Dt))(k:Key)(d:Dt):List (Key×Dt):=if es.any (λe=>decide (e.1=k)) then es.map λe=>if e.1=k then(e.1,d) else e else es++[(k,d)]
def zKp(es:List (Key×Dt))(k:Key):List (Key×Dt):=es.filter λe=>decide (e.1≠k)
theorem xM.nil{H:Hp} : xM H [] []:=⟨rfl,yH.mpr rfl⟩
theorem xM.cons_iff{H:Hp}{kvs:List (Key×V)}{k:Key}{d:Dt}{es:List (Key×Dt)} : xM H kvs ((k,d)::es)↔∃(v:V)(r:List (Key×V)),kvs=(k,v)::r/\Rep H d v/\xM H r es:=by
 constructor
 ·rintro⟨h1,h2⟩;cases kvs with
  | nil=>simp at h1
  | cons p r =>
   obtain⟨k',v⟩:=p;simp only[aN,iN] at h1;obtain⟨e1,e2⟩:=h1;subst e1;obtain⟨x,r',e,h3,h4⟩:=zK.mp h2;simp only[aN,iN] at e;obtain⟨e3,e4⟩:=e;subst e3 e4;exact⟨v,r,U,h3,e2,h4⟩
 ·rintro⟨v,r,rfl,h1,h2⟩;exact⟨by simp[h2.keys],zK.mpr ⟨v,_,U,h1,h2.vals⟩⟩
theorem xM.nil_iff{H:Hp}{kvs:List (Key×V)}(h:xM H kvs []):kvs=[]:=by
 have:=h.keys;simpa using this
theorem xM.to{H H1:Hp}{kvs:List (Key×V)}{es:List (Key×Dt)}(h:xM H kvs es)(s:Sam H H1):xM H1 kvs es:=⟨h.keys,h.vals.to s⟩
theorem xM.sam{φ:af->Prop}{H H1:Hp}{kvs:List (Key×V)}{es:List (Key×Dt)}(h:xM H kvs es)(s:xX φ H H1)(np:∀ b xs,H b=some (.tup xs)->¬ φ b):xM H1 kvs es:=⟨h.keys,h.vals.sam s np⟩
theorem zAt.to{H H1:Hp}{a:af}{es:List (Key×Dt)}(h:zAt H a es)(s:Sam H H1):zAt H1 a es:=let ⟨kvs,h1,h2⟩:=h;⟨kvs,s.rd id h1,h2.to s⟩
theorem xM.length{H:Hp}{kvs:List (Key×V)}{es:List (Key×Dt)}(h:xM H kvs es):kvs.length=es.length:=by
 have:=congrArg cM h.keys;simpa using this
theorem xM.get{H:Hp}{k:Key} : ∀{es:List (Key×Dt)}{kvs:List (Key×V)}{d:Dt},xM H kvs es->look es k=some d->∃ v,wF kvs k=some v/\Rep H d v
 | [],_,_,_,e=>by simp[look] at e
 | (k',d')::es,kvs,d,h,e=>by
  obtain⟨v,r,rfl,h1,h2⟩:=xM.cons_iff.mp h;by_cases z:k'=k
  ·rw[wE z];simp only[look,bV,decide_eq_true z,eG,hU] at e;subst e;exact⟨v,U,h1⟩
  ·rw[wA z];refine xM.get h2 ?_;simp only[look,bV,decide_eq_false z] at e;exact e
theorem xM.none{H:Hp}{k:Key} : ∀{es:List (Key×Dt)}{kvs:List (Key×V)},xM H kvs es->look es k=none->wF kvs k=none
 | [],_,h,_=>by rw[h.nil_iff]; rfl
 | (k',d')::es,kvs,h,e=>by
  obtain⟨v,r,rfl,h1,h2⟩:=xM.cons_iff.mp h;by_cases z:k'=k
  ·simp[look,bV,z] at e
  ·rw[wA z];refine xM.none h2 ?_;simp only[look,bV,decide_eq_false z] at e;exact e
theorem xM.isSome{H:Hp}{k:Key}{es:List (Key×Dt)}{kvs:List (Key×V)}(h:xM H kvs es):(wF kvs k).isSome=(look es k).isSome:=by
 cases e:look es k with
 | none=>rw[h.none e]; rfl
 | some d =>
  obtain⟨v,z,_⟩:=h.get e;rw[z];rfl
theorem xM.any{H:Hp}{k:Key} : ∀{es:List (Key×Dt)}{kvs:List (Key×V)},xM H kvs es->(kvs.any λe=>decide (e.1=k))=es.any λe=>decide (e.1=k)
 | [],_,h=>by rw[h.nil_iff]; rfl
 | (k',d')::es,kvs,h=>by
  obtain⟨v,r,rfl,h1,h2⟩:=xM.cons_iff.mp h;rw[cH,cH,xM.any h2]
theorem xM.rep{H:Hp}{k:Key}{v:V}{d:Dt}(hv:Rep H d v):∀{es:List (Key×Dt)}{kvs:List (Key×V)},xM H kvs es->xM H (kvs.map λe=>if e.1=k then(e.1,v) else e) (es.map λe=>if e.1=k then(e.1,d) else e)
 | [],_,h=>by rw[h.nil_iff]; exact .nil
 | (k',d')::es,kvs,h=>by
  obtain⟨u,r,rfl,h1,h2⟩:=xM.cons_iff.mp h;rw[aN,aN];by_cases z:k'=k
  ·rw[if_pos z,if_pos z];exact xM.cons_iff.mpr ⟨v,_,rfl,hv,xM.rep hv h2⟩
  ·rw[if_neg z,if_neg z];exact xM.cons_iff.mpr ⟨u,_,rfl,h1,xM.rep hv h2⟩
theorem xM.app{H:Hp}{k:Key}{v:V}{d:Dt}(hv:Rep H d v):∀{es:List (Key×Dt)}{kvs:List (Key×V)},xM H kvs es->xM H (kvs++[(k,v)]) (es++[(k,d)])
 | [],_,h=>by rw[h.nil_iff]; exact xM.cons_iff.mpr ⟨v,[],rfl,hv,.nil⟩
 | (k',d')::es,kvs,h=>by
  obtain⟨u,r,rfl,h1,h2⟩:=xM.cons_iff.mp h;exact xM.cons_iff.mpr ⟨u,_,rfl,h1,xM.app hv h2⟩
theorem xM.put{H:Hp}{k:Key}{v:V}{d:Dt}{es:List (Key×Dt)}{kvs:List (Key×V)}(h:xM H kvs es)(hv:Rep H d v):xM H (rF kvs k v) (zWa es k d):=by
 unfold rF zWa;rw[h.any];split
 ·exact h.rep hv
 ·exact h.app hv
theorem xM.drop{H:Hp}{k:Key} : ∀{es:List (Key×Dt)}{kvs:List (Key×V)},xM H kvs es->xM H (zEi kvs k) (zKp es k)
 | [],_,h=>by rw[h.nil_iff]; exact .nil
 | (k',d')::es,kvs,h=>by
  obtain⟨u,r,rfl,h1,h2⟩:=xM.cons_iff.mp h;unfold zEi zKp;by_cases z:k'=k
  ·rw[im (by simp[z]),im (by simp[z])];exact xM.drop h2
  ·rw[io (by simp[z]),io (by simp[z])];exact xM.cons_iff.mpr ⟨u,_,rfl,h1,xM.drop h2⟩
end Sea

namespace Sea
open PySem L2
inductive Deed where
 | mark (n:az) (x y:Int)
 | move (n:az) (x y:Int)
 | unmark (n:az)
 | bank (n:az) (cs:List (Int×Int))
 | level (n:az)
 | sail (x y:Int)
 | right (k x y:Int)
 | bearing (m:Int) (n:az) (a b c d:Int)
 | range (m:Int) (l r:az)
 | strike (k:Int)
def ptD(p:Int×Int):Dt:=.tup [.int p.1,.int p.2]
def Deed.dt:Deed->Dt
 | .mark n x y=>.tup [.str "mark",.str n,.int x,.int y]
 | .move n x y=>.tup [.str "move",.str n,.int x,.int y]
 | .unmark n=>.tup [.str "unmark",.str n]
 | .bank n cs=>.tup [.str "bank",.str n,.tup (cs.map ptD)]
 | .level n=>.tup [.str "level",.str n]
 | .sail x y=>.tup [.str "sail",.int x,.int y]
 | .right k x y=>.tup [.str "right",.int k,.int x,.int y]
 | .bearing m n a b c d=>.tup [.str "bearing",.int m,.str n,ptD (a,b),ptD (c,d)]
 | .range m l r=>.tup [.str "range",.int m,.str l,.str r]
 | .strike k=>.tup [.str "strike",.int k]
structure BS where
 marks:List (az×Int×Int)
 banks:List (az×List (Int×Int))
 runs:List (Int×Int)
 notes:List (Int×Deed)
 coming:Int
def BS.nil:BS:=⟨[],[],[],[],1⟩
def mkE(l:List (az×Int×Int)):List (Key×Dt):=l.map λe=>(.inr e.1,ptD e.2)
def bkE(l:List (az×List (Int×Int))):List (Key×Dt):=l.map λe=>(.inr e.1,.tup (e.2.map ptD))
def rnE(l:List (Int×Int)):List (Key×Dt):=l.zipIdx.map λe=>(.inl (e.2:Int),ptD e.1)
def ntE(l:List (Int×Deed)):List (Key×Dt):=l.map λe=>(.inl e.1,e.2.dt)
def stK(m b r n:af)(k:Int):List (Key×V):=[(.inr "marks",.ref m),(.inr "banks",.ref b),(.inr "runs",.ref r),(.inr "notes",.ref n),(.inr "coming",.int k)]
structure StA(H:Hp)(d m b r n:af)(S:BS):Prop where
 at_:Rd H d (.dK (stK m b r n S.coming))
 ma:zAt H m (mkE S.marks)
 ba:zAt H b (bkE S.banks)
 ru:zAt H r (rnE S.runs)
 no:zAt H n (ntE S.notes)
def zNu(H:Hp)(d:af)(S:BS):Prop:=∃ m b r n,StA H d m b r n S
theorem StA.to{H H1:Hp}{d m b r n:af}{S:BS}(h:StA H d m b r n S)(s:Sam H H1):StA H1 d m b r n S:=⟨s.rd id h.at_,h.ma.to s,h.ba.to s,h.ru.to s,h.no.to s⟩
theorem zNu.to{H H1:Hp}{d:af}{S:BS}(h:zNu H d S)(s:Sam H H1):zNu H1 d S:=let ⟨m,b,r,n,q⟩:=h;⟨m,b,r,n,q.to s⟩
def zP(S:BS)(n:az):Option (Int×Int):=(S.marks.find? λe=>decide (e.1=n)).map (·.2)
theorem wN{S:BS}{n:az} : look (mkE S.marks) (.inr n)=(zP S n).map ptD:=by
 unfold look mkE zP;rw[List.find?_map];have e:((λe:Key×Dt=>decide (e.1=d8 n)) ∘ λe:az×Int×Int=>((d8 e.1,ptD e.2):Key×Dt))=λe=>decide (e.1=n):=by
  funext e
  simp
 rw[e];cases S.marks.find? λe=>decide (e.1=n) <;> rfl
structure Few(S:BS):Prop where
 ma:S.marks.length<=60
 ba:S.banks.length<=60
 ru:S.runs.length<=60
 no:S.notes.length<=60
def wC(x:az):Prop:=1<=x.length/\x.length<=8/\∀ c∈x.cps.toList,97<=c/\c<=122
def zDy(p:Int×Int):Prop:=-1000<=p.1/\p.1<=1000/\-1000<=p.2/\p.2<=1000
def zDc(p:Int×Int):Prop:=p≠(0,0)/\-100<=p.1/\p.1<=100/\-100<=p.2/\p.2<=100
def aft(S:BS):Deed->BS
 | .mark n x y=>{ S with marks:=S.marks++[(n,x,y)] }
 | .move n x y=>{ S with marks:=S.marks.map λe=>if e.1=n then(e.1,x,y) else e }
 | .unmark n=>{ S with marks:=S.marks.filter λe=>decide (e.1≠n) }
 | .bank n cs=>{ S with banks:=S.banks++[(n,cs)] }
 | .level n=>{ S with banks:=S.banks.filter λe=>decide (e.1≠n) }
 | .sail x y=>{ S with runs:=S.runs++[(x,y)] }
 | .right k x y=>{ S with runs:=S.runs.set k.toNat (x,y) }
 | .bearing m n a b c d=>{ S with notes:=S.notes++[(S.coming,.bearing m n a b c d)],coming:=S.coming+1 }
 | .range m l r=>{ S with notes:=S.notes++[(S.coming,.range m l r)],coming:=S.coming+1 }
 | .strike k=>{ S with notes:=S.notes.filter λe=>decide (e.1≠k) }
def zC6(S:BS):Deed->Prop
 | .bearing _ _ _ _ _ _=>True
 | .range _ l r=>∃ p u,zP S l=some p/\zP S r=some u/\p≠u
 | _=>False
def rT(n:az):Deed->Prop
 | .bearing _ k _ _ _ _=>k≠n
 | .range _ l r=>l≠n/\r≠n
 | _=>False
def zPz(cs:List (Int×Int)):Bool:=isB (cs.map λc=>(0,c))
def okD(S:BS):Deed->Prop
 | .mark n x y=>wC n/\zP S n=none/\zDy (x,y)/\S.marks.length<20
 | .move n x y=>(zP S n).isSome=true/\zDy (x,y)/\∀ e∈S.notes,zC6 (aft S (.move n x y)) e.2
 | .unmark n=>(zP S n).isSome=true/\∀ e∈S.notes,rT n e.2
 | .bank n cs=>wC n/\n ∉ S.banks.map (·.1)/\(∀ c∈cs,zDy c)/\zPz cs=true/\S.banks.length<8
 | .level n=>n∈S.banks.map (·.1)
 | .sail x y=>zDy (x,y)/\S.runs.length<12
 | .right k x y=>0<=k/\k<S.runs.length/\zDy (x,y)
 | .bearing m n a b c d=>0<=m/\m<=S.runs.length/\(zP S n).isSome=true/\zDc (a,b)/\zDc (c,d)/\0<a*d-b*c/\S.notes.length<24
 | .range m l r=>0<=m/\m<=S.runs.length/\(zP S l).isSome=true/\(zP S r).isSome=true/\zP S l≠zP S r/\S.notes.length<24
 | .strike k=>k∈S.notes.map (·.1)
def zVh(S:BS):Prop:=∀ e∈S.notes,e.1<S.coming
theorem rA{es:List (Key×Dt)}{k:Key}{d:Dt}(h:∀ e∈es,e.1≠k):zWa es k d=es++[(k,d)]:=by
 unfold zWa;rw[if_neg];intro z;obtain⟨e,he,q⟩:=fR.mp z;exact h e he (of_decide_eq_true q)
theorem zQ8(l:List (az×Int×Int))(n:az)(x y:Int):mkE (l++[(n,x,y)])=mkE l++[(.inr n,ptD (x,y))]:=by
 unfold mkE;rw[aG];rfl
theorem zX6(l:List (Int×Int))(x y:Int):rnE (l++[(x,y)])=rnE l++[(.inl (l.length:Int),ptD (x,y))]:=by
 unfold rnE;rw[List.zipIdx_append,aG];simp
theorem zMp(l:List (Int×Deed))(k:Int)(D:Deed):ntE (l++[(k,D)])=ntE l++[(.inl k,D.dt)]:=by
 unfold ntE;rw[aG];rfl
theorem zUc{l:List (Int×Int)} : ∀ e∈rnE l,e.1≠.inl (l.length:Int):=λe he z=>by
 unfold rnE at he;obtain⟨q,hq,rfl⟩:=aF.mp he;obtain⟨q1,q2⟩:=q;have:=gX hq;have z':(d7 (q2:Int):Key)=d7 (l.length:Int):=z;injection z' with z'
 simp at this;lia
theorem zI5{S:BS}(h:zVh S):∀ e∈ntE S.notes,e.1≠.inl S.coming:=λe he z=>by
 unfold ntE at he;obtain⟨q,hq,rfl⟩:=aF.mp he;have:=h q hq;have z':(d7 q.1:Key)=d7 S.coming:=z;injection z' with z'
 lia
theorem zNy{S:BS}{n:az}(h:zP S n=none):∀ e∈mkE S.marks,e.1≠.inr n:=λe he z=>by
 unfold mkE at he;obtain⟨q,hq,rfl⟩:=aF.mp he;have z':(d8 q.1:Key)=d8 n:=z;injection z' with z'
 unfold zP at h;rw[iF,eE] at h;exact h q hq (by simp[z'])
theorem zUv(a b c d e:V):zDq [] [(.inr "marks",a),(.inr "banks",b),(.inr "runs",c),(.inr "notes",d),(.inr "coming",e)]=[(.inr "marks",a),(.inr "banks",b),(.inr "runs",c),(.inr "notes",d),(.inr "coming",e)]:=by kernel_rfl
theorem zTr(a b c d e:V):zDq [] [(.inr "marks",a),(.inr "banks",b),(.inr "runs",c),(.inr "notes",d),(.inr "next",e)]=[(.inr "marks",a),(.inr "banks",b),(.inr "runs",c),(.inr "notes",d),(.inr "next",e)]:=by kernel_rfl
theorem tF{m b r n:af}{k:Int} : wF (stK m b r n k) (.inr "marks")=some (.ref m):=by kernel_rfl
theorem zA1{m b r n:af}{k:Int} : wF (stK m b r n k) (.inr "banks")=some (.ref b):=by kernel_rfl
theorem rE{m b r n:af}{k:Int} : wF (stK m b r n k) (.inr "runs")=some (.ref r):=by kernel_rfl
theorem qO{m b r n:af}{k:Int} : wF (stK m b r n k) (.inr "notes")=some (.ref n):=by kernel_rfl
theorem zFb{m b r n:af}{k:Int} : wF (stK m b r n k) (.inr "coming")=some (.int k):=by kernel_rfl
theorem zF2{m b r n c:af}{k:Int} : rF (stK m b r n k) (.inr "marks") (.ref c)=stK c b r n k:=by kernel_rfl
theorem zLe{m b r n c:af}{k:Int} : rF (stK m b r n k) (.inr "banks") (.ref c)=stK m c r n k:=by kernel_rfl
theorem zN7{m b r n c:af}{k:Int} : rF (stK m b r n k) (.inr "runs") (.ref c)=stK m b c n k:=by kernel_rfl
theorem zLk{m b r n c:af}{k:Int} : rF (stK m b r n k) (.inr "notes") (.ref c)=stK m b r c k:=by kernel_rfl
theorem zPc{m b r n:af}{k j:Int} : rF (stK m b r n k) (.inr "coming") (.int j)=stK m b r n j:=by kernel_rfl
theorem Rd.same{H H1:Hp}{a:af}{u:HO}(h:Rd H a u)(s:Same H H1):Rd H1 a u:=h.imp (s _ _) λ⟨o,e⟩=>⟨o,s _ _ e⟩
theorem zAt.nil{H:Hp}{a:af}(h:H a=some (.dK [])):zAt H a []:=⟨[],.inl h,.nil⟩
theorem zBf{H:Hp}{p:Int×Int}{v:V}(h:Rep H (ptD p) v):∃ a,v=.ref a/\H a=some (.tup [.int p.1,.int p.2]):=by
 obtain⟨a,xs,e,h1,h2⟩:=yJ.mp h;obtain⟨x,r,rfl,h3,h4⟩:=zK.mp h2;obtain⟨y,r',rfl,h5,h6⟩:=zK.mp h4;rw[yB.mp h3,yB.mp h5,yH.mp h6] at h1;exact⟨a,e,h1⟩
theorem tW{H:Hp}{p:Int×Int}{a:af}(h:H a=some (.tup [.int p.1,.int p.2])):Rep H (ptD p) (.ref a):=yJ.mpr ⟨a,_,rfl,h,.two (yB.mpr rfl) (yB.mpr rfl)⟩
section
variable{H:Hp}{v:V}
theorem zIy{n:az}{x y:Int}(h:Rep H (Deed.mark n x y).dt v):∃ a,v=.ref a/\H a=some (.tup [.str "mark",.str n,.int x,.int y]):=by
 obtain⟨a,xs,e,h1,h2⟩:=yJ.mp h;obtain⟨_,_,rfl,k1,h2⟩:=zK.mp h2;obtain⟨_,_,rfl,k2,h2⟩:=zK.mp h2;obtain⟨_,_,rfl,k3,h2⟩:=zK.mp h2;obtain⟨_,_,rfl,k4,h2⟩:=zK.mp h2;rw[zY.mp k1,zY.mp k2,yB.mp k3,yB.mp k4,yH.mp h2] at h1;exact⟨a,e,h1⟩
theorem zJc{x y:Int}(h:Rep H (Deed.sail x y).dt v):∃ a,v=.ref a/\H a=some (.tup [.str "sail",.int x,.int y]):=by
 obtain⟨a,xs,e,h1,h2⟩:=yJ.mp h;obtain⟨_,_,rfl,k1,h2⟩:=zK.mp h2;obtain⟨_,_,rfl,k3,h2⟩:=zK.mp h2;obtain⟨_,_,rfl,k4,h2⟩:=zK.mp h2;rw[zY.mp k1,yB.mp k3,yB.mp k4,yH.mp h2] at h1;exact⟨a,e,h1⟩
theorem wP{m:Int}{n:az}{a b c d:Int}(h:Rep H (Deed.bearing m n a b c d).dt v):∃ t p q,v=.ref t/\H t=some (.tup [.str "bearing",.int m,.str n,.ref p,.ref q])/\H p=some (.tup [.int a,.int b])/\H q=some (.tup [.int c,.int d]):=by
 obtain⟨t,xs,e,h1,h2⟩:=yJ.mp h;obtain⟨_,_,rfl,k1,h3⟩:=zK.mp h2;obtain⟨_,_,rfl,k2,h4⟩:=zK.mp h3;obtain⟨_,_,rfl,k3,h5⟩:=zK.mp h4;obtain⟨_,_,rfl,k4,h6⟩:=zK.mp h5;obtain⟨_,_,rfl,k5,h7⟩:=zK.mp h6;obtain⟨p,rfl,hp⟩:=zBf k4;obtain⟨q,rfl,hq⟩:=zBf k5;have e6:=yH.mp h7;rw[zY.mp k1,yB.mp k2,zY.mp k3,e6] at h1;exact⟨t,p,q,e,h1,hp,hq⟩
theorem sW{m:Int}{l r:az}(h:Rep H (Deed.range m l r).dt v):∃ t,v=.ref t/\H t=some (.tup [.str "range",.int m,.str l,.str r]):=by
 obtain⟨t,xs,e,h1,h2⟩:=yJ.mp h;obtain⟨_,_,rfl,k1,h2⟩:=zK.mp h2;obtain⟨_,_,rfl,k2,h2⟩:=zK.mp h2;obtain⟨_,_,rfl,k3,h2⟩:=zK.mp h2;obtain⟨_,_,rfl,k4,h2⟩:=zK.mp h2;rw[zY.mp k1,yB.mp k2,zY.mp k3,zY.mp k4,yH.mp h2] at h1;exact⟨t,e,h1⟩
end
theorem zCg{H:Hp}{v:V}{k:Int}(h:Rep H (Deed.strike k).dt v):∃ t,v=.ref t/\H t=some (.tup [.str "strike",.int k]):=by
 obtain⟨t,xs,e,h1,h2⟩:=yJ.mp h;obtain⟨_,_,rfl,k1,h2⟩:=zK.mp h2;obtain⟨_,_,rfl,k2,h2⟩:=zK.mp h2;rw[zY.mp k1,yB.mp k2,yH.mp h2] at h1;exact⟨t,e,h1⟩
theorem zNp(l:List (Int×Deed))(k:Int):zKp (ntE l) (.inl k)=ntE (l.filter λe=>decide (e.1≠k)):=by
 unfold zKp ntE;rw[iP]
 congr 1
 refine hV λe _=>?_;simp
theorem zOo{l:List (Int×Deed)}{k:Int}(h:k∈l.map (·.1)):∃ d,look (ntE l) (.inl k)=some d:=by
 obtain⟨e,he,rfl⟩:=aF.mp h;unfold look;cases q:(ntE l).find? λx=>decide (x.1=d7 e.1) with
 | none =>
  have:=eE.mp q (.inl e.1,e.2.dt) (aF.mpr ⟨e,he,rfl⟩);simp at this
 | some x=>exact⟨x.2,U⟩
theorem StA.stKlen{m b r n:af}{k:Int} : (stK m b r n k).length<=100:=by show 5<=100; decide
theorem xM.le{H:Hp}{kvs:List (Key×V)}{es:List (Key×Dt)}(h:xM H kvs es){n:Nat}(hn:es.length<=n):kvs.length<=n:=by rw[h.length]; exact hn
theorem zAh(l:List (az×Int×Int)):(mkE l).length=l.length:=by unfold mkE; rw[aa]
theorem zBh(l:List (Int×Int)):(rnE l).length=l.length:=by unfold rnE; rw[aa,List.length_zipIdx]
theorem zQa(l:List (Int×Deed)):(ntE l).length=l.length:=by unfold ntE; rw[aa]
end Sea

namespace Sea
open PySem L2
def bkF(d p l:af):List (az×V):=[("state",.ref d),("past",.ref p),("later",.ref l)]
theorem qN{d p l:af} : (bkF d p l).lookup ("state" : az)=some (.ref d):=by kernel_rfl
theorem zXo{d p l:af} : (bkF d p l).lookup ("past" : az)=some (.ref p):=by kernel_rfl
theorem zK2{d p l c:af} : zEy "state" (.ref c) (bkF d p l)=bkF c p l:=by kernel_rfl
theorem zJm{d p l c:af} : zEy "later" (.ref c) (bkF d p l)=bkF d p c:=by kernel_rfl
theorem zX8{d p l:af} : zEy "later" (.ref l) (zEy "past" (.ref p) (zEy "state" (.ref d) []))=bkF d p l:=by kernel_rfl
def sN(H:Hp):List (Deed×BS)->List V->Prop
 | [],xs=>xs=[]
 | (D,S)::r,xs=>∃(t d:af)(v:V)(ys:List V),xs=.ref t::ys/\H t=some (.tup [v,.ref d])/\Rep H D.dt v/\zNu H d S/\sN H r ys
structure BkA(C:af)(H:Hp)(b p dx d l:af)(ps ls:List V)(S:BS)(past later:List (Deed×BS)):Prop where
 ob:H b=some (.ins C dx (bkF d p l))
 st:zNu H d S
 pa:H p=some (.lst ps)
 la:H l=some (.lst ls)
 pp:sN H past ps
 ll:sN H later ls
 ne:l≠p
def zL5(C:af)(H:Hp)(b p:af)(S:BS)(past later:List (Deed×BS)):Prop:=∃ dx d l ps ls,BkA C H b p dx d l ps ls S past later
section
variable{φ:af->Prop}{H H1:Hp}
theorem zAt.samE{a:af}{es:List (Key×Dt)}(h:zAt H a es)(s:xX φ H H1)(nd:∀ a kvs,Rd H a (.dK kvs)->¬ φ a)(np:∀ a xs,H a=some (.tup xs)->¬ φ a):zAt H1 a es:=let ⟨kvs,h1,h2⟩:=h;⟨kvs,s.rd (nd _ _ h1) h1,h2.sam s np⟩
theorem zNu.samE{d:af}{S:BS}(h:zNu H d S)(s:xX φ H H1)(nd:∀ a kvs,Rd H a (.dK kvs)->¬ φ a)(np:∀ a xs,H a=some (.tup xs)->¬ φ a):zNu H1 d S :=
 let ⟨m,b,r,n,q⟩:=h;⟨m,b,r,n,s.rd (nd _ _ q.at_) q.at_,q.ma.samE s nd np,q.ba.samE s nd np,q.ru.samE s nd np,q.no.samE s nd np⟩
theorem sN.samE(s:xX φ H H1)(nd:∀ a kvs,Rd H a (.dK kvs)->¬ φ a)(np:∀ a xs,H a=some (.tup xs)->¬ φ a):∀{l:List (Deed×BS)}{xs:List V},sN H l xs->sN H1 l xs
 | [],_,h=>h
 | (D,S)::r,xs,h=>by
  obtain⟨t,d,v,ys,e,h1,h2,h3,h4⟩:=h;exact⟨t,d,v,ys,e,s.tup (np _ _ h1) h1,h2.sam s np,h3.samE s nd np,sN.samE s nd np h4⟩
theorem sN.app{D:Deed}{S:BS}{t d:af}{v:V}(h1:H t=some (.tup [v,.ref d]))(h2:Rep H D.dt v)(h3:zNu H d S):∀{l:List (Deed×BS)}{xs:List V},sN H l xs->sN H (l++[(D,S)]) (xs++[.ref t])
 | [],xs,h=>by
  have h:xs=[]:=h;rw[h];exact⟨t,d,v,[],U,h1,h2,h3,U⟩
 | (D',S')::r,xs,h=>by
  obtain⟨t',d',v',ys,e,g1,g2,g3,g4⟩:=h;rw[e];exact⟨t',d',v',_,U,g1,g2,g3,sN.app h1 h2 h3 g4⟩
theorem sN.len:∀{l:List (Deed×BS)}{xs:List V},sN H l xs->xs.length=l.length
 | [],xs,h=>by have h:xs=[]:=h; rw[h]; rfl
 | (D,S)::r,xs,h=>by
  obtain⟨t,d,v,ys,e,_,_,_,h4⟩:=h;rw[e,aW,aW,sN.len h4]
abbrev Bp(b p:af):af->Prop:=λx=>x=b\/x=p
theorem zY8{b p:af}{C dx:af}{fs:List (az×V)}{ps:List V}(hb:H b=some (.ins C dx fs))(hp:H p=some (.lst ps)):∀ a kvs,Rd H a (.dK kvs)->¬ Bp b p a:=λa kvs h z=>by
 rcases z with z | z <;> subst z <;> rcases h with h | ⟨o,h⟩
 ·rw[hb] at h; cases h
 ·rw[hb] at h; cases h
 ·rw[hp] at h; cases h
 ·rw[hp] at h; cases h
theorem zZ3{b p:af}{C dx:af}{fs:List (az×V)}{ps:List V}(hb:H b=some (.ins C dx fs))(hp:H p=some (.lst ps)):∀ a xs,H a=some (.tup xs)->¬ Bp b p a:=λa xs h z=>by
 rcases z with z | z <;> subst z
 ·rw[hb] at h; cases h
 ·rw[hp] at h; cases h
theorem BkA.to{C b p dx d l:af}{ps ls:List V}{S:BS}{past later:List (Deed×BS)}(k:BkA C H b p dx d l ps ls S past later)(s:Sam H H1):BkA C H1 b p dx d l ps ls S past later :=
 ⟨s.ins id k.ob,k.st.to s,s.lst id k.pa,s.lst id k.la,k.pp.samE s (λ_ _ _=>id) (λ_ _ _=>id),k.ll.samE s (λ_ _ _=>id) (λ_ _ _=>id),k.ne⟩
theorem zL5.to{C b p:af}{S:BS}{past later:List (Deed×BS)}(k:zL5 C H b p S past later)(s:Sam H H1):zL5 C H1 b p S past later:=let ⟨dx,d,l,ps,ls,q⟩:=k;⟨dx,d,l,ps,ls,q.to s⟩
theorem zW0{d p l:af}{m:az}(h1:m ≠ "state")(h2:m ≠ "past")(h3:m ≠ "later"):(bkF d p l).lookup m=none:=by
 unfold bkF;rw[bo,beq_eq_false_iff_ne.mpr h1,bo,beq_eq_false_iff_ne.mpr h2,bo,beq_eq_false_iff_ne.mpr h3];rfl
end
end Sea

namespace Sea
open PySem L2
def abc:az := "abcdefghijklmnopqrstuvwxyz"
theorem zUw:abc.cps.toList=(bv 26).map (97 + ·):=by decide +kernel
theorem zVw{i:Int}(h0:0<=i)(h1:i<26):atI abc.cps.toList i=some (97+i.toNat):=by
 obtain⟨n,rfl⟩:=cy h0;refine vQ ?_;rw[zUw,ak,jt (by lia)];rfl
def chS(c:Nat):az:=⟨#[c]⟩
def txt(l:List Nat):az:=⟨l.toArray⟩
theorem qD(l:List Nat):(txt l).length=l.length:=by
 show l.toArray.size=_;exact aE
theorem zYj{l m:List Nat}(h:txt l=txt m):l=m:=by
 have:=congrArg (λx:az=>x.cps.toList) h;simpa [txt] using this
theorem zIc(l m:List Nat):txt l++txt m=txt (l++m):=by
 show(⟨l.toArray++m.toArray⟩:az)=⟨(l++m).toArray⟩;rw[List.append_toArray]
theorem zRe:∀ l:List Nat,il "" (l.map chS)=txt l
 | []=>rfl
 | [c]=>rfl
 | c::d::l=>by
  show chS c++("" : az)++il "" ((d::l).map chS)=_;rw[zRe (d::l)];show txt [c]++txt []++txt (d::l)=_;rw[zIc,zIc];rfl
theorem zTs(l:List Nat):fL "" (l.map chS)=txt l:=by
 rw[gG];exact zRe l
theorem zPj(l:List Nat):zC5 "" (l.map chS)=l.length:=by
 unfold zC5;rw[show("" : az).length=0 from by decide,Nat.mul_zero,Nat.add_zero]
 induction l with
 | nil=>rfl
 | cons c l ih =>
  rw[aN,aN,mZ,ih,aW];show 1+l.length=_;lia
theorem zPh(l:List Nat)(k:Nat)(h:k<=l.length):e9 (txt l) none (some (k:Int))=txt (l.take k):=by
 have e:dD none (some (k:Int)) 1 (txt l).length=bv k:=by
  unfold dD sliceRange;rw[qD];have c1:¬ ((k:Int)<0):=by lia
  have c2:max 0 (min (k:Int) (l.length:Int))=k:=by lia
  simp only[c1,if_false,show(1:Int)>0 by decide,if_true,c2];by_cases z:(0:Int)<k
  ·rw[if_pos z];have c3:(((k:Int)-0+1-1)/1).toNat=k:=by lia
   rw[c3];refine ip (by simp) λi h1 h2=>?_;simp
  ·have c4:k=0:=by lia
   subst c4;simp
 unfold e9;rw[e,dn,qD];by_cases c:k=l.length
 ·rw[if_pos (by simp[c]),cg (by lia)]
 ·rw[if_neg (by simp; exact c)];show(⟨_⟩:az)=⟨_⟩
  congr 1
  congr 1
  refine g9 λi=>?_;rw[jT];have h2:(bv k).filterMap (λj=>(txt l).cps[j]?)=l.take k:=by
   have:∀ m,m<=l.length->(bv m).filterMap (λj=>(txt l).cps[j]?)=l.take m:=by
    intro m
    induction m with
    | zero=>intro _; simp
    | succ m ih =>
     intro hm;rw[iQ,iZ,ih (by lia),bN]
     congr 1
     rw[aj (by lia)];simp[txt,cS,show m<l.length by lia]
   exact this k h
  rw[h2,jT]
theorem zO4(l:List Nat)(k:Nat)(h:k<=l.length):e9 (txt l) (some (k:Int)) none=txt (l.drop k):=by
 have e:dD (some (k:Int)) none 1 (txt l).length=(bv (l.length-k)).map (k + ·):=by
  unfold dD sliceRange;rw[qD];have c1:¬ ((k:Int)<0):=by lia
  have c2:max 0 (min (k:Int) (l.length:Int))=k:=by lia
  simp only[c1,if_false,show(1:Int)>0 by decide,if_true,c2];by_cases z:(k:Int)<l.length
  ·rw[if_pos z];have c3:(((l.length:Int)-k+1-1)/1).toNat=l.length-k:=by lia
   rw[c3];refine ip (by simp) λi h1 h2=>?_;simp;lia
  ·have c4:l.length-k=0:=by lia
   rw[if_neg z,c4];rfl
 unfold e9;rw[e,aa,dn,qD];by_cases c:k=0
 ·subst c;rw[if_pos (by simp)];rfl
 ·by_cases c0:l.length=0
  ·have:l=[]:=fG.mp c0;subst this;rw[if_pos (by simp)];rw[List.drop_nil]
  rw[if_neg (by simp; lia)];show(⟨_⟩:az)=⟨_⟩
  congr 1
  congr 1
  have:∀ m,m<=l.length-k->((bv m).map (k + ·)).filterMap (λj=>(txt l).cps[j]?)=(l.drop k).take m:=by
   intro m
   induction m with
   | zero=>intro _; simp
   | succ m ih =>
    intro hm;rw[iQ,aG,iZ,ih (by lia),bN]
    congr 1
    rw[List.getElem?_drop,aj (by lia)];simp[txt,cS,show k+m<l.length by lia]
  rw[this _ (am _),cg (by simp)]
theorem zT5{l:List Nat}{p c:Nat}(h:p<l.length):l.take p++[c]++l.drop (p+1)=l.set p c:=by
 rw[List.set_eq_take_append_cons_drop,if_pos h];simp
theorem zVg{l:List Nat}{p c:Nat}(h:p<l.length):e9 (txt l) none (some (p:Int))++chS c++e9 (txt l) (some ((p:Int)+1)) none=txt (l.set p c):=by
 rw[zPh l p (by lia),show((p:Int)+1)=((p+1:Nat):Int) from rfl,zO4 l (p+1) (by lia)];show txt _++txt [c]++txt _=_;rw[zIc,zIc,zT5 h]
theorem zOw{l:List Nat}(h1:1<=l.length)(h8:l.length<=8)(h:∀ c∈l,97<=c/\c<=122):wC (txt l):=⟨by rw[qD]; exact h1,by rw[qD]; exact h8,λc hc=>h c (by simpa [txt] using hc)⟩
theorem zYo{l:List Nat}{p r:Nat}(hp:p<l.length){ws:List az}(hw:ws.length<26):¬ ∀ j,j<26->txt (l.set p (97+(r+j)%26))∈ws:=λh=>by
 have nd:((bv 26).map λj=>txt (l.set p (97+(r+j)%26))).Nodup:=by
  refine dI.mpr (ky.mpr ?_);refine m9 ?_ (dI.mp lv);intro a b ha hb ne z;have ha:=bg.mp ha;have hb:=bg.mp hb;have z:=zYj z;have z:=congrArg (λm:List Nat=>m[p]?) z;simp only[fH hp,hU] at z;lia
 have:=nd.length_le_of_subset (l₂:=ws) λx hx=>by
  obtain⟨j,hj,rfl⟩:=aF.mp hx;exact h j (bg.mp hj)
 rw[aa,dn] at this;lia
theorem zYd(x y:az):eqV (.str x) (.str y)=decide (x=y):=by
 unfold eqV
 first
  | rfl
  | simp
  | (by_cases h:x=y <;> simp[h])
theorem zWs(x:az)(ns:List az):inV (.str x) (ns.map V.str)=decide (x∈ns):=by
 unfold inV
 induction ns with
 | nil=>simp
 | cons y ns ih =>
  rw[aN,cH,ih,zYd];by_cases h:x=y
  ·subst h; simp
  ·simp[h,cz h]
theorem zKd(ns:List az):(ns.map V.str).all zIk=true:=by
 rw[kz];exact aT.mpr λ_ _=>rfl
end Sea

namespace Sea
open PySem L2
def lwK(m b r n:af)(k:Int):List (Key×V):=[(.inr "marks",.ref m),(.inr "banks",.ref b),(.inr "runs",.ref r),(.inr "notes",.ref n),(.inr "next",.int k)]
section
variable{m b r n c:af}{k j:Int}
theorem yS:wF (lwK m b r n k) (.inr "marks")=some (.ref m):=by kernel_rfl
theorem qJ:wF (lwK m b r n k) (.inr "banks")=some (.ref b):=by kernel_rfl
theorem uA:wF (lwK m b r n k) (.inr "runs")=some (.ref r):=by kernel_rfl
theorem uT:wF (lwK m b r n k) (.inr "notes")=some (.ref n):=by kernel_rfl
theorem zAg:wF (lwK m b r n k) (.inr "next")=some (.int k):=by kernel_rfl
theorem zGn:rF (lwK m b r n k) (.inr "next") (.int j)=lwK m b r n j:=by kernel_rfl
end
structure LwA(H:Hp)(d m b r n:af)(S:BS):Prop where
 at_:Rd H d (.dK (lwK m b r n S.coming))
 ma:zAt H m (mkE S.marks)
 ba:zAt H b (bkE S.banks)
 ru:∃ rs,H r=some (.lst rs)/\wG H (S.runs.map ptD) rs
 no:zAt H n (ntE S.notes)
def zS6(H:Hp)(d:af)(S:BS):Prop:=∃ m b r n,LwA H d m b r n S
section
variable{φ:af->Prop}{H H1:Hp}{d m b r n:af}{S:BS}
theorem LwA.samE(h:LwA H d m b r n S)(s:xX φ H H1)(nd:∀ a kvs,Rd H a (.dK kvs)->¬ φ a)(np:∀ a xs,H a=some (.tup xs)->¬ φ a)(nl:∀ xs,H r=some (.lst xs)->¬ φ r):LwA H1 d m b r n S :=
 ⟨s.rd (nd _ _ h.at_) h.at_,h.ma.samE s nd np,h.ba.samE s nd np,let ⟨rs,h1,h2⟩:=h.ru;⟨rs,s.lst (nl _ h1) h1,h2.sam s np⟩,h.no.samE s nd np⟩
theorem LwA.to(h:LwA H d m b r n S)(s:Sam H H1):LwA H1 d m b r n S:=h.samE s (λ_ _ _=>id) (λ_ _ _=>id) (λ_ _=>id)
theorem zS6.to(h:zS6 H d S)(s:Sam H H1):zS6 H1 d S:=let ⟨m,b,r,n,q⟩:=h;⟨m,b,r,n,q.to s⟩
end
end Sea

namespace L2
open PySem PySem.Spec PyProof.Rows
theorem zOr{ns:List az} : ∀{us:List ag},yT (ns.map V.str) us->StrsAre us ns:=by
 induction ns with
 | nil=>intro us r; rw[eA] at r; cases r; exact .nil
 | cons n ns ih =>
  intro us r;rw[aN] at r;cases r with
  | cons r1 r2 =>
   obtain⟨t,e⟩:=r1;subst e;exact .cons n t (ih r2)
theorem yb7:∀{vs:List ag}{ns:List az},StrsAre vs ns->yT (ns.map V.str) vs
 | _,_,.nil=>.nil
 | _,_,.cons n t h=>.cons ⟨t,rfl⟩ (yb7 h)
section
variable{X:Cx}
theorem zLd:uL X (.builtin "sorted") (λxs H Q=>∃(l:af)(ns:List az),xs=[.ref l]/\SqL X.K H l (ns.map V.str)/\ns.length<64 /\
  ∀(p:af)(ms:List az),H p=none->ms.Perm ns->sortedS ms=true->Q (.ref p) (upd H p (.lst (ms.map V.str)))):=by
 intro pins s σ H xs us Q I r h;obtain⟨l,ns,rfl,hq,h64,q⟩:=h;obtain⟨u,rfl,ru⟩:=yT.one r;cases ru;obtain⟨its,rv,pl,hz⟩:=I.list hq;have hn:=rv.length;rw[aa] at hn;refine sorted_strs (ss:=ns) pl.isList (zOr rv) (by lia) λout ms a1 a2 a3=>?_;obtain⟨e,at'⟩:=sortedAll_at s.heap its out;have fr:H (s.heap.objs.size+1)=none:=I.hok.fresh (eg _);refine⟨.ref (s.heap.objs.size+1),_,I.laid (t':=s.toks) (a:=s.heap.objs.size+1) (o:=.lst (ms.map V.str)) (λb ob q=>sortedAll_old q) (eg _) ?_,U,q _ ms fr a2 a3⟩;refine⟨?_,out.toList,e,yb7 a1,by simpa using at'⟩;rw[aa,a2.length_eq];exact aD (dB h64) (by rw[sizeLine_eq]; decide)
end
def zA8(v d:af)(h:aX):Prop:=h.IsItemsView v d
section
variable{X:Cx}{l:bx}{te:TE}{apos pos:fh}
def zZz(te:TE):TE:=λσ H Q=>te σ H λx H1=>∃(d:af)(kvs:List (Key×V)),x=.ref d/\Rd H1 d (.dK kvs)/\∀ v,H1 v=none->Q (.ref v) (upd H1 v (.ext (zA8 v d)))
theorem zEx(hl:PE X l te)(hbase:attributeBase l "items" X.env (eval l X.env)=eval l X.env:=by rfl)(hline:(apos.endLine == pos.line)=true:=by rfl):PE X (.Call (.Attribute l "items" apos) [] [] pos) (zZz te):=by
 intro pins s σ H Q I h;refine fK (T := "dict") (id := "dict.items") hbase rfl hline hJ fM kA (thn (hl pins s σ H _ I h) λv s1 ⟨x,H1,I1,r1,d,kvs,e,hd,q⟩=>?_);subst e;cases r1;obtain⟨hz,ns,vs,rel,da⟩:=hd.ok I1.hok;exists da.typeIs,da.mapOf.noDict;show wpAny _ _ (callWith pos (.builtin "dict.items") [.ref d] [] []) _ _ s1;refine method_meetsIn fM jU rfl (gC ⟨rfl,da.typeIs,ju _,_,meets_dict_items (yL X.prog X.w) d ns,⟨vs,da⟩,?_⟩);refine⟨.ref s1.heap.objs.size,_,I1.laid (t':=s1.toks) (a:=s1.heap.objs.size) (o:=.ext (zA8 s1.heap.objs.size d)) (λb o e=>ah _ e) (am _) ⟨⟨_,ap _ rfl,U,U⟩,⟨_,ap _ rfl⟩,λh1 h2 ⟨o,e,c⟩ k=>⟨o,k o e,c⟩⟩,U,q _ (I1.hok.fresh (am _))⟩
end
theorem Inv.more{X:Cx}{pins:List (af×cD)}{σ:St}{H:Hp}{s:ai}{a:af}{o:HO}(I:Inv X pins σ H s)(f:zMx X pins H a)(new:xC X.prog X.w (upd H a o) s.heap a o):Inv X pins σ (upd H a o) s:=by
 obtain⟨f0,f1,f2,f3,f4,f5⟩:=f;have nk:∀{b:af}{u:HO},H b=some u->upd H a o b=some u:=λ{b u} e=>by
  rw[zG (λz=>by rw[z,f0] at e; cases e)];exact e
 have nn:∀{b:af},b≠a->H b=none->upd H a o b=none:=λ{b} n e=>by rw[zG n]; exact e
 have lo:∀{b:af}{u:cD},X.s₀.heap.get? b=some u->b ∉ X.ex->b≠a:=λ{b u} e hx z=>by
  rcases f3 with q | q
  ·exact hx (by rw[z]; exact q)
  ·exact absurd (aw e) (Nat.not_lt.mpr (by rw[z]; exact q))
 refine⟨I.ok,I.os,I.bare,⟨I.base.keep,I.base.slot,λb u e n hx=>nn (lo e hx) (I.base.free b u e n hx),I.base.there,λb xs e=>nk (I.base.tups b xs e),λb u v e=>nk (I.base.frzs b u v e),
  λb ps e=>let ⟨more,q⟩:=I.base.tbls b ps e;⟨more,nk q⟩⟩,I.loc,I.cell,nn (cz f1) I.free,λx c e=>nn (f4 x c e) (I.freeC x c e),λp hp=>?_,λb u e=>?_,I.len⟩
 ·obtain⟨h1,h2,h3⟩:=I.pin p hp;exact⟨h1,nn (f5 p hp) h2,h3⟩
 ·by_cases eb:b=a
  ·subst eb;rw[zA] at e;cases e;exact new
  ·rw[zG eb] at e;exact(I.hok b u e).stay (λc v _ q=>q) (λc q=>nk q) λc xs q=>nk q
section
open PySem.W
variable{X:Cx}{pins:List (af×cD)}{σ:St}{H:Hp}{s:ai}
theorem Inv.tuples{lo:af} : ∀{as:List af}{H:Hp}(xss:List (List V)),Inv X pins σ H s->as.Pairwise (· < ·)->(∀ a∈as,zMx X pins H a)->as.length=xss.length->(∀(j:Nat)(a:af)(xs:List V),as[j]?=some a->xss[j]?=some xs->∀ H',xC X.prog X.w H' s.heap a (.tup xs)) ->
  ∃ H2,Inv X pins σ H2 s/\Same H H2/\(∀(j:Nat)(a:af)(xs:List V),as[j]?=some a->xss[j]?=some xs->H2 a=some (.tup xs))/\∀ b,b ∉ as->H2 b=H b
 | [],H,[],I,_,_,_,_=>⟨H,I,Same.refl _,λj a xs e=>by simp at e,λ_ _=>rfl⟩
 | [],_,_::_,_,_,_,hl,_=>by simp at hl
 | _::_,_,[],_,_,_,hl,_=>by simp at hl
 | a::as,H,xs::xss,I,hr,hf,hl,ho=>by
  have fa:=hf a (.head _);have hr':=List.pairwise_cons.mp hr;have I1:=I.more (o:=.tup xs) fa (ho 0 a xs rfl rfl _);obtain⟨H2,I2,s2,g2,n2⟩:=Inv.tuples (lo:=lo) (as:=as) xss I1 hr'.2 (λb hb=>by
   obtain⟨f0,f1⟩:=hf b (.tail _ hb);exact⟨by rw[zG (ej (hr'.1 b hb))]; exact f0,f1⟩) (by simpa using hl) (λj b ys e1 e2=>ho (j+1) b ys (by simpa using e1) (by simpa using e2))
  refine⟨H2,I2,(zD fa.1 _).trans s2,λj b ys e1 e2=>?_,λb hb=>?_⟩
  ·cases j with
   | zero =>
    simp at e1 e2;subst e1 e2;exact s2 _ _ zA
   | succ j=>exact g2 j b ys (by simpa using e1) (by simpa using e2)
  ·rw[n2 b (λz=>hb (.tail _ z)),zG (λz=>hb (by rw[z]; exact .head _))]
end
end L2

namespace Sea
open PySem L2
section
variable{H H1:Hp}
theorem zBy:∀{l:List (Int×Deed)}{kvs:List (Key×V)},xM H kvs (ntE l)->∃ ks:List (Int×V),kvs=ks.map (λe=>(.inl e.1,e.2))/\ks.map (·.1)=l.map (·.1)/\wG H (l.map (·.2.dt)) (ks.map (·.2))
 | [],_,h=>⟨[],h.nil_iff,rfl,yH.mpr rfl⟩
 | (n,D)::l,_,h=>by
  obtain⟨v,r,rfl,h1,h2⟩:=xM.cons_iff.mp h;obtain⟨ks,rfl,e,h3⟩:=zBy (l:=l) h2;exact⟨(n,v)::ks,U,by rw[aN,aN,e],zK.mpr ⟨v,_,U,h1,h3⟩⟩
theorem zH9:∀{l:List (az×Int×Int)}{kvs:List (Key×V)},xM H kvs (mkE l)->kvs.map (λkv=>kV kv.1)=(l.map (·.1)).map V.str
 | [],_,h=>by rw[h.nil_iff]; rfl
 | (n,p)::l,_,h=>by
  obtain⟨v,r,rfl,h1,h2⟩:=xM.cons_iff.mp h;rw[aN,zH9 h2];rfl
structure NotesAt(H:Hp)(as:List af)(l:List (Int×Deed)):Prop where
 len:as.length=l.length
 at_:∀(j:Nat)(a:af)(e:Int×Deed),as[j]?=some a->l[j]?=some e->∃ v,H a=some (.tup [.int e.1,v])/\Rep H e.2.dt v
def yb5(S:BS):Prop:=(S.notes.map (·.1)).Pairwise (· < ·)
theorem zHm{S:BS}{n:az}{p:Int×Int}(h:zP S n=some p):(n,p)∈S.marks:=by
 unfold zP at h;rw[aH] at h;obtain⟨e,h1,rfl⟩:=h;have h2:=List.find?_some h1;have e1:e.1=n:=of_decide_eq_true h2;rw[<- e1];exact List.mem_of_find?_eq_some h1
theorem zRl{S:BS}{n:az}(h:n∈S.marks.map (·.1)):∃ p,zP S n=some p:=by
 obtain⟨e,h1,h2⟩:=aF.mp h;unfold zP;cases q:S.marks.find? λe=>decide (e.1=n) with
 | none=>exact absurd (eE.mp q e h1) (by simp[h2])
 | some e'=>exact⟨e'.2,U⟩
theorem zGj{S:BS}{m:af}{n:az}{p:Int×Int}(h:zAt H m (mkE S.marks))(e:zP S n=some p):∃(kvs:List (Key×V))(a:af),Rd H m (.dK kvs)/\wF kvs (.inr n)=some (.ref a)/\H a=some (.tup [.int p.1,.int p.2]):=by
 obtain⟨kvs,h1,h2⟩:=h;obtain⟨v,g,r⟩:=h2.get (k:=.inr n) (d:=ptD p) (by rw[wN,e]; rfl);obtain⟨a,rfl,ha⟩:=zBf r;exact⟨kvs,a,h1,g,ha⟩
theorem zJd:∀{l:List (Int×Int)}{k i:Nat}{p:Int×Int},l[i]?=some p->look ((l.zipIdx k).map λe=>((.inl (e.2:Int):Key),ptD e.1)) (.inl ((k+i:Nat):Int))=some (ptD p)
 | [],_,_,_,e=>by simp at e
 | q::l,k,0,p,e=>by
  simp at e;subst e;simp[look,c7]
 | q::l,k,i+1,p,e=>by
  have ih:=zJd (l:=l) (k:=k+1) (i:=i) (p:=p) (by simpa using e);rw[c7,aN];unfold look at ih ⊢;rw[bV,decide_eq_false (by intro z; injection z with z; simp at z; lia)];rw[show k+1+i=k+(i+1) by lia] at ih;exact ih
theorem zTg{S:BS}{r:af}{i:Nat}{p:Int×Int}(h:zAt H r (rnE S.runs))(e:S.runs[i]?=some p):∃(kvs:List (Key×V))(a:af),Rd H r (.dK kvs)/\wF kvs (.inl (i:Int))=some (.ref a)/\H a=some (.tup [.int p.1,.int p.2]):=by
 obtain⟨kvs,h1,h2⟩:=h;have:=zJd (k:=0) e;rw[iG] at this;obtain⟨v,g,r⟩:=h2.get (k:=.inl (i:Int)) (d:=ptD p) this;obtain⟨a,rfl,ha⟩:=zBf r;exact⟨kvs,a,h1,g,ha⟩
end
section
variable{H H1:Hp}{S:BS}
structure MarksAt(H:Hp)(S:BS)(as:List af)(ms:List az):Prop where
 mk ::
 len:as.length=ms.length
 at_:∀(j:Nat)(a:af)(n:az),as[j]?=some a->ms[j]?=some n->∃ p:Int×Int,zP S n=some p/\H a=some (.tup [.str n,.int p.1,.int p.2])
theorem sI{D:af}{u o:HO}(eD:H D=some u):xX (λx=>x=D) H (upd H D o):=λx o hx e=>.inl (by rw[zG hx]; exact e)
theorem zRr{D:af}{zs:List V}(eD:H D=some (.lst zs)):∀ b xs,H b=some (.tup xs)->¬ b=D:=λb xs e z=>by rw[z,eD] at e; cases e
end
end Sea

namespace Sea
open PySem L2
structure yb4(H:Hp)(as:List af)(rows:List (List Int)):Prop where
 mk ::
 len:as.length=rows.length
 at_:∀(j:Nat)(a:af)(r:List Int),as[j]?=some a->rows[j]?=some r->H a=some (.tup (r.map V.int))
def vT(S:BS)(n:az):Int×Int:=(zP S n).getD (0,0)
def sidesN(S:BS):Deed->List (List Int)
 | .bearing _ n a b c d=>[zP0 [-b,a,a*(vT S n).2-b*(vT S n).1],zP0 [d,-c,(vT S n).1*d-(vT S n).2*c]]
 | .range _ l r=>[zP0 [(vT S l).2-(vT S r).2,(vT S r).1-(vT S l).1,(vT S r).1*(vT S l).2-(vT S r).2*(vT S l).1]]
 | _=>[]
def zCw(S:BS):Deed->Prop
 | .bearing m n a b c d=>0<=m/\m<=S.runs.length/\(zP S n).isSome=true/\zDc (a,b)/\zDc (c,d)
 | .range m l r=>0<=m/\m<=S.runs.length/\(zP S l).isSome=true/\(zP S r).isSome=true/\zP S l≠zP S r
 | _=>False
structure zY2(S:BS):Prop where
 few:Few S
 fresh:zVh S
 rise:yb5 S
 mk_:∀ e∈S.marks,zDy e.2
 way:∀ e∈S.runs,zDy e
 note:∀ e∈S.notes,zCw S e.2
structure GroupsAt(H0 H:Hp)(gs:List af)(rows:List (List (List Int))):Prop where
 mk ::
 len:gs.length=rows.length
 new:∀ g∈gs,H0 g=none
 at_:∀(j:Nat)(g:af)(r:List (List Int)),gs[j]?=some g->rows[j]?=some r->∃ as:List af,H g=some (.lst (as.map V.ref))/\yb4 H as r
theorem zRy(a b c:V):zDq [] [(.inr "marks",a),(.inr "banks",b),(.inr "runs",c)]=[(.inr "marks",a),(.inr "banks",b),(.inr "runs",c)]:=by kernel_rfl
theorem zYi(a b c d:V):rF [((.inr "marks" : Key),a),(.inr "banks",b),(.inr "runs",c)] (.inr "notes") d=[(.inr "marks",a),(.inr "banks",b),(.inr "runs",c),(.inr "notes",d)]:=by kernel_rfl
theorem zYs(a b c d e:V):rF [((.inr "marks" : Key),a),(.inr "banks",b),(.inr "runs",c),(.inr "notes",d)] (.inr "next") e=[(.inr "marks",a),(.inr "banks",b),(.inr "runs",c),(.inr "notes",d),(.inr "next",e)]:=by kernel_rfl
theorem zGy{H:Hp}{D:af}{kvs:List (Key×V)}(eD:H D=some (.dK kvs)):∀ b xs,H b=some (.tup xs)->¬ b=D:=λb xs e z=>by rw[z,eD] at e; cases e
theorem zM6{H:Hp}{w p q:af}{m:Int}{n:az}{a b c d:Int}(hw:H w=some (.tup [.str "bearing",.int m,.str n,.ref p,.ref q]))(hp:H p=some (.tup [.int a,.int b]))(hq:H q=some (.tup [.int c,.int d])):Rep H (Deed.bearing m n a b c d).dt (.ref w) :=
 yJ.mpr ⟨w,_,rfl,hw,zK.mpr ⟨_,_,rfl,zY.mpr rfl,zK.mpr ⟨_,_,rfl,yB.mpr rfl,zK.mpr ⟨_,_,rfl,zY.mpr rfl,.two (tW (p:=(a,b)) hp) (tW (p:=(c,d)) hq)⟩⟩⟩⟩
theorem zKw{H:Hp}{w:af}{m:Int}{l r:az}(hw:H w=some (.tup [.str "range",.int m,.str l,.str r])):Rep H (Deed.range m l r).dt (.ref w) :=
 yJ.mpr ⟨w,_,rfl,hw,zK.mpr ⟨_,_,rfl,zY.mpr rfl,zK.mpr ⟨_,_,rfl,yB.mpr rfl,.two (zY.mpr rfl) (zY.mpr rfl)⟩⟩⟩
theorem zTl{H:Hp}{w:af}{n:az}{x y:Int}(hw:H w=some (.tup [.str "mark",.str n,.int x,.int y])):Rep H (Deed.mark n x y).dt (.ref w) :=
 yJ.mpr ⟨w,_,rfl,hw,zK.mpr ⟨_,_,rfl,zY.mpr rfl,zK.mpr ⟨_,_,rfl,zY.mpr rfl,.two (yB.mpr rfl) (yB.mpr rfl)⟩⟩⟩
theorem zPr{H:Hp}{w:af}{k:Int}(hw:H w=some (.tup [.str "strike",.int k])):Rep H (Deed.strike k).dt (.ref w) :=
 yJ.mpr ⟨w,_,rfl,hw,.two (zY.mpr rfl) (yB.mpr rfl)⟩
theorem zU6{H:Hp}{w:af}{x y:Int}(hw:H w=some (.tup [.str "sail",.int x,.int y])):Rep H (Deed.sail x y).dt (.ref w) :=
 yJ.mpr ⟨w,_,rfl,hw,zK.mpr ⟨_,_,rfl,zY.mpr rfl,.two (yB.mpr rfl) (yB.mpr rfl)⟩⟩
end Sea

namespace Sea
open PySem L2
theorem rL{S:BS}{n:az}{e:az×Int×Int}(h:(zP S n).isSome=true):zP { S with marks:=S.marks++[e] } n=zP S n:=by
 unfold zP at h ⊢;dsimp only;rw[List.find?_append];cases q:S.marks.find? λe=>decide (e.1=n) with
 | none=>rw[q] at h; simp at h
 | some e'=>rfl
theorem zOx{S:BS}{D:Deed}{e:az×Int×Int}(h:zCw S D):zCw { S with marks:=S.marks++[e] } D:=by
 match D,h with
 | .bearing m n a b c d,h=>exact⟨h.1,h.2.1,by rw[rL h.2.2.1]; exact h.2.2.1,h.2.2.2⟩
 | .range m l r,h=>exact⟨h.1,h.2.1,by rw[rL h.2.2.1]; exact h.2.2.1,by rw[rL h.2.2.2.1]; exact h.2.2.2.1,by rw[rL h.2.2.1,rL h.2.2.2.1]; exact h.2.2.2.2⟩
theorem zSk{S:BS}{D:Deed}{e:Int×Int}(h:zCw S D):zCw { S with runs:=S.runs++[e] } D:=by
 match D,h with
 | .bearing m n a b c d,h=>exact⟨h.1,by have:=h.2.1; dsimp only; rw[aC]; simp only[aW,dz]; lia,h.2.2⟩
 | .range m l r,h=>exact⟨h.1,by have:=h.2.1; dsimp only; rw[aC]; simp only[aW,dz]; lia,h.2.2⟩
theorem zC3{S:BS}{D:Deed}{l:List (Int×Deed)}{k:Int}(h:zCw S D):zCw { S with notes:=l,coming:=k } D:=by
 match D,h with
 | .bearing m n a b c d,h=>exact h
 | .range m l r,h=>exact h
theorem zUn:zY2 BS.nil:=⟨⟨by decide,by decide,by decide,by decide⟩,λe he=>(nomatch he),.nil,λe he=>(nomatch he),λe he=>(nomatch he),λe he=>(nomatch he)⟩
theorem zKx{S:BS}{D:Deed}(g:zY2 S)(kn:zCw S D)(l:S.notes.length<24):zY2 { S with notes:=S.notes++[(S.coming,D)],coming:=S.coming+1 }:=by
 refine⟨⟨g.few.ma,g.few.ba,g.few.ru,by show(S.notes++[_]).length<=60; rw[aC]; simp only[aW,dz]; lia⟩,λe he=>?_,?_,g.mk_,g.way,λe he=>?_⟩
 ·rcases aS.mp he with z | z
  ·have:=g.fresh e z;show e.1<S.coming+1;lia
  ·rw[av.mp z];show S.coming<S.coming+1;lia
 ·show((S.notes++[(S.coming,D)]).map (·.1)).Pairwise (· < ·);rw[aG,List.pairwise_append];refine⟨g.rise,List.pairwise_singleton _ _,λx hx y hy=>?_⟩;obtain⟨e,he,rfl⟩:=aF.mp hx;rw[av.mp hy];exact g.fresh e he
 ·rcases aS.mp he with z | z
  ·exact zC3 (g.note e z)
  ·rw[av.mp z];exact zC3 kn
theorem zC8{n k:az}{x y:Int} : ∀{l:List (az×Int×Int)},((l.map λe=>if e.1=n then(e.1,x,y) else e).find? λe=>decide (e.1=k)).map (·.2)=((l.find? λe=>decide (e.1=k)).map (·.2)).map λp=>if k=n then(x,y) else p
 | []=>rfl
 | (m,p)::l=>by
  rw[aN,bV,bV];by_cases e1:m=n
  ·rw[if_pos e1];by_cases e2:m=k
   ·subst e1 e2;simp
   ·rw[decide_eq_false (show ¬ (m,x,y).1=k from e2)];exact zC8
  ·rw[if_neg e1];by_cases e2:m=k
   ·subst e2;simp[e1]
   ·rw[decide_eq_false (show ¬ (m,p).1=k from e2)];exact zC8
theorem vF{S:BS}{n k:az}{x y:Int} : zP (aft S (.move n x y)) k=(zP S k).map λp=>if k=n then(x,y) else p:=zC8
theorem uK{S:BS}{n k:az}(h:k≠n):zP (aft S (.unmark n)) k=zP S k:=by
 unfold zP;show(List.find? _ (S.marks.filter _)).map _=_;rw[List.find?_filter]
 congr 2
 funext e
 by_cases z:e.1=k
 ·simp[z,h]
 ·simp[z]
theorem vI{S:BS}{n k:az}{x y:Int}(h:(zP S k).isSome=true):(zP (aft S (.move n x y)) k).isSome=true:=by
 rw[vF,cb];exact h
theorem zO8{S:BS}{D:Deed}{n:az}{x y:Int}(h:zCw S D)(g:zC6 (aft S (.move n x y)) D):zCw (aft S (.move n x y)) D:=by
 match D,h,g with
 | .bearing m k a b c d,h,_=>exact⟨h.1,h.2.1,vI h.2.2.1,h.2.2.2⟩
 | .range m l r,h,⟨p,u,e1,e2,ne⟩=>exact⟨h.1,h.2.1,vI h.2.2.1,vI h.2.2.2.1,by rw[e1,e2]; exact λz=>ne (bh z)⟩
theorem zK4{S:BS}{D:Deed}{n:az}(h:zCw S D)(g:rT n D):zCw (aft S (.unmark n)) D:=by
 match D,h,g with
 | .bearing m k a b c d,h,g=>exact⟨h.1,h.2.1,by rw[uK g]; exact h.2.2.1,h.2.2.2⟩
 | .range m l r,h,g=>exact⟨h.1,h.2.1,by rw[uK g.1]; exact h.2.2.1,by rw[uK g.2]; exact h.2.2.2.1,by rw[uK g.1,uK g.2]; exact h.2.2.2.2⟩
theorem zDa{S S':BS}{D:Deed}(h:zCw S D)(e1:S'.marks=S.marks)(e2:S'.runs.length=S.runs.length):zCw S' D:=by
 have e:∀ n,zP S' n=zP S n:=λn=>by unfold zP; rw[e1]
 match D,h with
 | .bearing m k a b c d,h=>exact⟨h.1,by rw[e2]; exact h.2.1,by rw[e]; exact h.2.2.1,h.2.2.2⟩
 | .range m l r,h=>exact⟨h.1,by rw[e2]; exact h.2.1,by rw[e]; exact h.2.2.1,by rw[e]; exact h.2.2.2.1,by rw[e,e]; exact h.2.2.2.2⟩
theorem zUq{S:BS}{D:Deed}(g:zY2 S)(ok:okD S D):zY2 (aft S D):=by
 match D,ok with
 | .mark n x y,ok =>
  refine⟨⟨by show(S.marks++[_]).length<=60; rw[aC]; have:=ok.2.2.2; simp only[aW,dz]; lia,g.few.ba,g.few.ru,g.few.no⟩,g.fresh,g.rise,λe he=>?_,g.way,λe he=>zOx (g.note e he)⟩;rcases aS.mp he with z | z
  ·exact g.mk_ e z
  ·rw[av.mp z];exact ok.2.2.1
 | .sail x y,ok =>
  refine⟨⟨g.few.ma,g.few.ba,by show(S.runs++[_]).length<=60; rw[aC]; have:=ok.2; simp only[aW,dz]; lia,g.few.no⟩,g.fresh,g.rise,g.mk_,λe he=>?_,λe he=>zSk (g.note e he)⟩;rcases aS.mp he with z | z
  ·exact g.way e z
  ·rw[av.mp z];exact ok.1
 | .bearing m n a b c d,ok=>exact zKx g ⟨ok.1,ok.2.1,ok.2.2.1,ok.2.2.2.1,ok.2.2.2.2.1⟩ ok.2.2.2.2.2.2
 | .range m l r,ok=>exact zKx g ⟨ok.1,ok.2.1,ok.2.2.1,ok.2.2.2.1,ok.2.2.2.2.1⟩ ok.2.2.2.2.2
 | .move n x y,ok =>
  refine⟨⟨by show(S.marks.map _).length<=60; rw[aa]; exact g.few.ma,g.few.ba,g.few.ru,g.few.no⟩,g.fresh,g.rise,λe he=>?_,g.way,λe he=>zO8 (g.note e he) (ok.2.2 e he)⟩;obtain⟨e',h1,rfl⟩:=aF.mp he;by_cases z:e'.1=n
  ·rw[if_pos z];exact ok.2.1
  ·rw[if_neg z];exact g.mk_ e' h1
 | .unmark n,ok =>
  exact⟨⟨aD (dM _ _) g.few.ma,g.few.ba,g.few.ru,g.few.no⟩,g.fresh,g.rise,λe he=>g.mk_ e (dQ.mp he).1,g.way,λe he=>zK4 (g.note e he) (ok.2 e he)⟩
 | .bank n cs,ok =>
  exact⟨⟨g.few.ma,by show(S.banks++[_]).length<=60; rw[aC]; have:=ok.2.2.2.2; simp only[aW,dz]; lia,g.few.ru,g.few.no⟩,g.fresh,g.rise,g.mk_,g.way,λe he=>zDa (g.note e he) rfl rfl⟩
 | .level n,_ =>
  exact⟨⟨g.few.ma,aD (dM _ _) g.few.ba,g.few.ru,g.few.no⟩,g.fresh,g.rise,g.mk_,g.way,λe he=>zDa (g.note e he) rfl rfl⟩
 | .right k x y,ok =>
  refine⟨⟨g.few.ma,g.few.ba,by show(S.runs.set _ _).length<=60; rw[gb]; exact g.few.ru,g.few.no⟩,g.fresh,g.rise,g.mk_,λe he=>?_,λe he=>zDa (g.note e he) rfl (by show(S.runs.set _ _).length=_; rw[gb])⟩;rcases gY he with z | z
  ·exact g.way e z
  ·rw[z];exact ok.2.2
 | .strike k,_ =>
  refine⟨⟨g.few.ma,g.few.ba,g.few.ru,aD (dM _ _) g.few.no⟩,λe he=>g.fresh e (dQ.mp he).1,?_,g.mk_,g.way,λe he=>zC3 (g.note e (dQ.mp he).1)⟩;exact g.rise.sublist (jv.map _)
def zSb:BS->List Deed->Prop
 | _,[]=>True
 | S,D::r=>okD S D/\zSb (aft S D) r
def ya4(S:BS)(l:List Deed):BS:=l.foldl aft S
def LwN(H0 H:Hp)(d:af)(S:BS):Prop:=∃ m b r n,H0 r=none/\LwA H d m b r n S
structure SmallN(no:List (Int×Deed))(k:Int)(i:Nat):Prop where
 mk ::
 len:no.length=i
 num:k=1+(i:Int)
 pos:∀ e∈no,1<=e.1
def fourK:Deed->Prop
 | .mark _ _ _ | .sail _ _ | .bearing _ _ _ _ _ _ | .range _ _ _=>True
 | _=>False
structure MarksN(S:BS):Prop where
 mk ::
 lo:3<=S.marks.length
 hi:S.marks.length<=5
 bd:∀ e∈S.marks,e.2.1.natAbs<=860/\e.2.2.natAbs<=860
 bk:S.banks=[]
end Sea

namespace Sea
open PySem L2
def stN(l:List (az×Int×Int))(rs:List (Int×Int))(no:List (Int×Deed))(k:Int):BS:=⟨l,[],rs,no,k⟩
section
variable{l:List (az×Int×Int)}{rs:List (Int×Int)}{no:List (Int×Deed)}{k:Int}
structure Done(Ds:List Deed)(l:List (az×Int×Int))(rs:List (Int×Int))(no:List (Int×Deed))(k:Int):Prop where
 mk ::
 ok:zSb BS.nil Ds
 at_:ya4 BS.nil Ds=stN l rs no k
 four:∀ D∈Ds,fourK D
end
theorem ya0{ms:List az}{x:Int}(h:0<((ms.map V.str).length:Int)):∃ n,n∈ms/\atI (ms.map V.str) (x%((ms.map V.str).length:Int))=some (.str n):=by
 have h0:=bj x (show((ms.map V.str).length:Int)≠0 by lia);have h1:=aV x h;generalize x%((ms.map V.str).length:Int)=y at h0 h1;obtain⟨k,rfl⟩:=cy h0;have hk:k<ms.length:=by rw[aa] at h1; lia
 exact⟨ms[k],cZ hk,vQ (by rw[ak,aj hk]; rfl)⟩
end Sea

namespace L2
open PySem PySem.Spec PyProof.Rows
theorem zGw(o:cD)(f:Array ag->Array ag):(df f o).dict=o.dict:=by unfold df; split <;> rfl
def zMh(h base:aX)(e:af)(cls fl:ag):Prop :=
 ∃ oe vs T oT ts,h.get? e=some oe/\(oe.cls=cls/\oe.dict=none/\vs[2]?=some .none)/\oe.data=.fields vs/\vs[1]?=some (.ref T)/\base.get? T=none/\T≠e/\h.get? T=some oT/\oT.data=.fields ts/\ts[3]?=some fl
def uH(base:aX)(l:List gq)(e:af)(cls:ag)(h:aX):Prop:=base.StaysIn h/\base.get? e=none/\h.FunFrames base l/\zMh h base e cls .none
def zTo(base:aX)(l:List gq)(e:af)(cls:ag)(L:af)(h:aX):Prop:=base.StaysIn h/\base.get? e=none/\h.FunFrames base l/\zMh h base e cls (rawInt L)
def zLl(a:af)(cls:ag)(h:aX):Prop:=∃ ob vs,h.get? a=some ob/\ob.cls=cls/\ob.dict=none/\ob.data=.fields vs/\vs[2]?=some .none
theorem uH.there{base h:aX}{l:List gq}{e:af}{cls:ag}(x:uH base l e cls h):zLl e cls h:=by
 obtain⟨_,_,_,oe,vs,_,_,_,he,hc,hd,_⟩:=x;exact⟨oe,vs,he,hc.1,hc.2.1,hd,hc.2.2⟩
section
variable{M:nj}{A:bI}{E:ag->ai->Prop}{s:ai}
theorem zWe{base:aX}{env:gq}{outer:List gq}{L e:af}{oe:cD}{vs:Array ag}{head:ag}{hadNext:Bool}{Q:Unit->ai->Prop}
  (hfr:A.frames=some (env::outer)) (hl:s.heap.FunFrames base (env::outer)) (hf:env.frame=some L)
  (he:s.heap.get? e=some oe) (hkb:base.StaysIn s.heap) (hen:base.get? e=none) (hd:oe.data=.fields vs) (hsz:1<vs.size) (hdi:oe.dict=none) (h0:vs[2]?=some .none)
  (h:∀ h',zTo base (env::outer) e oe.cls L h'->s.heap.UpToSlots h'->Q () { s with heap:=h' }) :
  wpAny M A (do let a <- frameOf env; let pl <- entryPlaceOf L hadNext; let b <- jw head a .none (rawInt L) .none pl; setField (.ref e) 1 b) Q E s:=by
 have hene:e ∉ (env::outer).filterMap (·.frame):=λhm=>by
  obtain⟨_,o,ho,hnf⟩:=hl.mem hm;rw[he] at ho; injection ho with ho; subst ho; exact hnf vs hd
 refine ac (wpAny_frameOf_fun hfr hl hf λh₁ hs₁=>?_);refine ac (wpAny_entryPlaceOf λpl hpl=>?_);unfold jw newFields;refine ac (br ?_ (hpl.sizeOk5 _ _ _ _ _));have he₁:h₁.get? e=some oe:=(hs₁.2.1 e hene).trans he;have kb₁:base.StaysIn h₁:=λb o hbo=>(hs₁.2.1 b λhm=>by rw[(hl.mem hm).1] at hbo; cases hbo).trans (hkb b o hbo);generalize hob:({ cls:=.type "traceback",dict:=none,data:=.fields ([head,.ref L,.none,rawInt L,.none]++(if pl.isEmpty then bE 6 bp else pl)).toArray } : cD)=ob;have hobf:ob.isFreed=false:=by rw[<- hob]; rfl
 have hobd:ob.data=.fields ([head,.ref L,.none,rawInt L,.none]++(if pl.isEmpty then bE 6 bp else pl)).toArray:=by rw[<- hob]
 have he₂:=ah (h:=h₁) ob he₁;refine dj he₂ hd hsz (h _ ?_ ?_)
 ·have hTe:h₁.objs.size≠e:=ej (aw he₁);have hd₃:=cC hd (·.setIfInBounds 1 (aI h₁.objs.size));have he₃:=cG (df (·.setIfInBounds 1 (aI h₁.objs.size))) he₂ (cW hd₃);have hT₃:=(aZ (h₁.push ob) (df (·.setIfInBounds 1 (aI h₁.objs.size))) (cz hTe)).trans (ap h₁ hobf);have keep:∀ b o,b≠e->h₁.get? b=some o->((h₁.push ob).update e (df (·.setIfInBounds 1 (aI h₁.objs.size)))).get? b=some o:=λb o hbe hb=>by
   rw[aZ _ _ (cz hbe)];exact ah _ hb
  have noRecord:∀ b o,s.heap.get? b=some o->(∀ vs,o.data≠.fields vs)->b≠e:=λb o hb hnf q=>by
   rw[q,he] at hb; injection hb with hb; subst hb; exact hnf vs hd
  refine⟨λb o hbo=>keep b o (λq=>by rw[q,hen] at hbo; cases hbo) (kb₁ b o hbo),hen,hl.of_keeps λb o hb hnf=>?_,?_⟩
  ·obtain⟨sl,hs⟩:=hs₁.2.2 b o hb;exact⟨_,keep b _ (noRecord b o hb hnf) hs,U⟩
  ·exact⟨_,_,h₁.objs.size,_,_,he₃,⟨eP _ _,by rw[zGw]; exact hdi,by rw[Array.getElem?_setIfInBounds_ne (by decide)]; exact h0⟩,hd₃,by simp[hsz],kb₁.fresh,hTe,hT₃,hobd,by first | (simp; done) | (rcases hpl with rfl | ⟨_,_,_,_,_,_,_,rfl⟩ <;> simp)⟩
 ·intro b o hb hnf;have hbe:b≠e:=λq=>by rw[q,he] at hb; injection hb with hb; subst hb; exact hnf vs hd
  obtain⟨sl,hs⟩:=hs₁.2.2 b o hb;exists sl;rw[aZ _ _ (cz hbe)];exact ah _ hs
theorem zM3{base:aX}{env:gq}{outer:List gq}{L e:af}{oe:cD}{vs:Array ag}{Q:Unit->ai->Prop}
  (hfr:A.frames=some (env::outer)) (hl:s.heap.FunFrames base (env::outer)) (hf:env.frame=some L)
  (he:s.heap.get? e=some oe) (hkb:base.StaysIn s.heap) (hen:base.get? e=none) (hd:oe.data=.fields vs) (h1:vs[1]?=some .none) (hdi:oe.dict=none) (h0:vs[2]?=some .none)
  (h:∀ h',zTo base (env::outer) e oe.cls L h'->s.heap.UpToSlots h'->Q () { s with heap:=h' }):wpAny M A (noteFrame (.ref e) env) Q E s:=by
 unfold noteFrame;simp only[hf];refine ac (bL he hd h1 ?_);rw[if_neg (by decide)];exact zWe hfr hl hf he hkb hen hd (dJ.mp h1).1 hdi h0 h
theorem zK9{base:aX}{env:gq}{outer:List gq}{L e:af}{cls:ag}{Q:Unit->ai->Prop}
  (hfr:A.frames=some (env::outer)) (hf:env.frame=some L) (hfl:uH base (env::outer) e cls s.heap)
  (h:∀ h',zTo base (env::outer) e cls L h'->s.heap.UpToSlots h'->Q () { s with heap:=h' }):wpAny M A (noteFrame (.ref e) env) Q E s:=by
 obtain⟨hkb,hen,hl,oe,vs,T,oT,ts,he,⟨hcls,hdi,h0⟩,hd,h1,hnT,hTe,hT,hdT,h3⟩:=hfl;subst hcls;unfold noteFrame;simp only[hf];refine ac (bL he hd h1 ?_);rw[if_pos (show(aI T != bp)=true from by simp)];refine ac (bL hT hdT h3 ?_);rw[if_neg (show ¬ ((bp == rawInt L)=true) from by simp[rawInt])];refine ac (dj hT hdT (dJ.mp h3).1 ?_);have other:∀ b,b≠T->(s.heap.update T (df (·.setIfInBounds 3 bp))).get? b=s.heap.get? b:=λb hb=>aZ _ _ (cz hb);have noRecord:∀ b o,s.heap.get? b=some o->(∀ vs,o.data≠.fields vs)->b≠T:=λb o hb hnf q=>by
  rw[q,hT] at hb; injection hb with hb; subst hb; exact hnf ts hdT
 refine zWe hfr (hl.of_keeps λb o hb hnf=>⟨o,(other b (noRecord b o hb hnf)).trans hb,rfl⟩) hf ((other e (cz hTe)).trans he)
  (λb o hbo=>(other b λq=>by rw[q,hnT] at hbo; cases hbo).trans (hkb b o hbo)) hen hd (dJ.mp h1).1 hdi h0
  λh' x1 x2=>h h' x1 λb o hb hnf=>x2 b o ((other b (noRecord b o hb hnf)).trans hb) hnf
theorem zQf{base:aX}{l:List gq}{e:af}{cls fl:ag}{Q:Unit->ai->Prop}(hh:base.StaysIn s.heap/\base.get? e=none/\s.heap.FunFrames base l/\zMh s.heap base e cls fl)
  (h:∀ h',uH base l e cls h'->s.heap.UpToSlots h'->Q () { s with heap:=h' }):wpAny M A (setFlight (.ref e) none) Q E s:=by
 obtain⟨hkb,hen,hl,oe,vs,T,oT,ts,he,hcls,hd,h1,hnT,hTe,hT,hdT,h3⟩:=hh;have hsz3:3<ts.size:=(dJ.mp h3).1;have other:∀ b,b≠T->(s.heap.update T (df (·.setIfInBounds 3 ((none:Option af).elim bp λf=>rawInt f)))).get? b=s.heap.get? b :=
  λb hb=>aZ _ _ (cz hb)
 have noRecord:∀ b o,s.heap.get? b=some o->(∀ vs,o.data≠.fields vs)->b≠T:=λb o hb hnf q=>by
  rw[q,hT] at hb; injection hb with hb; subst hb; exact hnf ts hdT
 unfold setFlight;refine ac (bL he hd h1 ?_);rw[if_pos (show(aI T != bp)=true from by simp)];refine dj hT hdT hsz3 (h _ ⟨λb o hbo=>(other b λq=>by rw[q,hnT] at hbo; cases hbo).trans (hkb b o hbo),hen,
  hl.of_keeps λb o hb hnf=>⟨o,(other b (noRecord b o hb hnf)).trans hb,rfl⟩,?_⟩ λb o hb hnf=>⟨o.slots,(other b (noRecord b o hb hnf)).trans hb⟩)
 exact⟨oe,vs,T,_,_,(other e (cz hTe)).trans he,hcls,hd,h1,hnT,hTe,cG _ hT (cW (cC hdT _)),cC hdT _,by simp[hsz3]⟩
theorem zP4{base:aX}{l:List gq}{e L:af}{cls:ag}{Q:Unit->ai->Prop}(hh:zTo base l e cls L s.heap)
  (h:∀ h',uH base l e cls h'->s.heap.UpToSlots h'->Q () { s with heap:=h' }):wpAny M A (setFlight (.ref e) none) Q E s:=zQf hh h
theorem zK0{base:aX}{l:List gq}{e:af}{cls:ag}{Q:Unit->ai->Prop}(hh:uH base l e cls s.heap)
  (h:∀ h',uH base l e cls h'->s.heap.UpToSlots h'->Q () { s with heap:=h' }):wpAny M A (setFlight (.ref e) none) Q E s:=zQf hh h
theorem zO7{base:aX}{env:gq}{outer:List gq}{L e:af}{cls:ag}{Q:Unit->ai->Prop}
  (hfr:A.frames=some (env::outer)) (hf:env.frame=some L) (hfl:uH base (env::outer) e cls s.heap)
  (hQ:∀ h',uH base outer e cls h'->s.heap.UpToSlots h'->Q () { s with heap:=h' }):wpAny M A (leaving env (.ref e)) Q E s:=by
 unfold leaving;refine ac (zK9 hfr hf hfl λh1 x1 u1=>?_);refine zP4 x1 λh2 ⟨k1,k2,⟨_,_,k3⟩,k4⟩ u2=>hQ h2 ⟨k1,k2,k3,k4⟩ (u1.trans u2)
theorem zLu{base h:aX}{env:gq}{outer:List gq}{L e:af}{cls:ag}{args:List ag}{Q:Unit->ai->Prop}
  (hfr:A.frames=some (env::outer)) (hf:env.frame=some L) (hkb:base.StaysIn h) (hl:h.FunFrames base (env::outer)) (hx:lX h s.heap e cls args)
  (hQ:∀ h',uH base outer e cls h'->s.heap.UpToSlots h'->Q () { s with heap:=h' }):wpAny M A (leaving env (.ref e)) Q E s:=by
 obtain⟨t,he,htn,ht⟩:=hx.there;have fresh:∀ b,h.get? b=none->base.get? b=none:=λb hb=>by
  cases hq:base.get? b with
  | none=>rfl
  | some o'=>have:=hkb b o' hq; rw[hb] at this; cases this
 unfold leaving;refine ac (zM3 hfr (hl.of_keeps λb o hb _=>⟨o,hx.keeps b o hb,rfl⟩) hf he (λb o hb=>hx.keeps b o (hkb b o hb)) (fresh e hx.new) rfl rfl rfl rfl λh1 x1 u1=>?_);refine zP4 x1 λh2 ⟨k1,k2,⟨_,_,k3⟩,k4⟩ u2=>hQ h2 ⟨k1,k2,k3,k4⟩ (u1.trans u2)
end
end L2

namespace L2
open PySem PySem.Spec PyProof.Rows
theorem zIr:plainId "proto.unchain" = true:=by decide +kernel
theorem zI4:entryFor table "proto.unchain" = some eZ.«proto.unchain»:=entryFor_of_tree (by kernel_rfl)
def zKh(h:aX)(x:af):Prop:=∃ ob vs,h.get? x=some ob/\ob.data=.fields vs/\vs[2]?=some .none
section
variable{prog:aK}{w:aU}{A:bI}{E:ag->ai->Prop}{s:ai}
theorem zB8{α:Type}{x e:af}{oe:cD}{ws:Array ag}{Q:α->ai->Prop}(hh:A.handled=some (.ref x))(hne:x≠e)(ha:zKh s.heap x)(he:s.heap.get? e=some oe)(hde:oe.data=.fields ws)(hz:2<ws.size)
  (h:E (.ref e) { s with heap:=s.heap.update e (df (·.setIfInBounds 2 (.ref x))) }):wpAny (model prog w) A (raiseNew (.ref e):mH α) Q E s:=by
 obtain⟨ox,vs,hx,hd,h2⟩:=ha;unfold raiseNew;refine ac (jB ?_);rw[hh];dsimp only;rw[if_pos (show(aI x != aI e)=true by simpa using hne)];refine ac (ce (wpAny_runValue (codeAny_builtin zI4 ?_)));rw[Around.under_plainId zIr _];unfold eZ.«proto.unchain»;dsimp only;refine ac (bL hx hd h2 ?_);rw[if_pos (by rfl)];refine ac (al (al ?_));refine ac ?_;unfold updateField;refine ac (wpAny_load he ?_);rw[hde];dsimp only;rw[if_pos hz];exact wpAny_update he (lH h)
theorem zG0{x it l:af}{i:Nat}{items:Array ag}{Q:Option ag->ai->Prop}(hh:A.handled=some (.ref x))(ha:zKh s.heap x)(hxi:x≠it)
  (hit:s.heap.IsListIter it l i) (hl:s.heap.IsList l items) (hx:items[i]?=none)
  (hQ:∀ h',fF it s.heap h'->Q none { s with heap:=h' }):wpAny (model prog w) A (pyNext (.ref it)) Q E s:=by
 obtain⟨o,ho,hc,hd⟩:=id hit;obtain⟨ol,hol,_,nl,hdl⟩:=hl;unfold pyNext;refine ac (dZ (bR (name:=aO "__next__") hit.typeIs ie
  (bU ie hit.typeIs PySem.entry_listiter_next ?_ (PySem.args_listiter_next _))))
 show wpAny _ _ (field (.ref it) 0 >>= _) _ _ s;refine ac (bL ho hd (x:=.ref l) rfl ?_);show wpAny _ _ (if (aI l == bp)=true then _ else _) _ _ s;rw[if_neg (show ¬ ((aI l == bp)=true) from aB)];show wpAny _ _ (field (.ref it) 1 >>= _) _ _ s;refine ac (bL ho hd (x:=.int i 0) rfl ?_);show wpAny _ _ (seqItems? (.ref l) >>= _) _ _ s;refine ac (cR hol hdl ?_);simp only[cw,hx];refine ac (gL (ac (dj ho hd (by simp) ?_)));show wpAny _ _ (newExc (.type "StopIteration") [] >>= _) _ _ _;refine ac ?_;simp only[newExc,newTuple];refine ac (br ?_ (by size_fits));refine ac (m:=firstArgMember _ _) (eV (a:=bp) (by first | rfl | (simp only[firstArgMember]; rfl)) ?_);refine br ?_ (by size_fits);obtain⟨ox,vs,hox,hdx,h2x⟩:=ha;refine zB8 (x:=x) (ws:=_) (by first | exact hh | (rw[show A.in1.handled=A.handled from rfl]; exact hh)) ?_ ⟨ox,vs,ah _ (ah _ ((aZ _ _ (cz hxi)).trans hox)),hdx,h2x⟩ (ap _ rfl) rfl (by simp; lia) ?_
 ·exact λz=>absurd (aw hox) (by rw[z]; simp)
 refine ac (fS (T := "StopIteration") (b:=true) ⟨_,cG _ (ap _ rfl) (cW (cC rfl _)),eP _ _⟩ isSubtype_stop ?_);refine al (hQ _ λb o hb e=>?_);rw[aZ _ _ (λz=>absurd (aw e) (by rw[<- z]; simp))];exact ah _ (ah _ ((aZ _ _ (cz hb)).trans e))
theorem zFm{x it t:af}{i:Nat}{items:Array ag}{Q:Option ag->ai->Prop}(hh:A.handled=some (.ref x))(ha:zKh s.heap x)(hxi:x≠it)
  (hit:IsTupIter s.heap it t i) (ht:ni s.heap t items) (hx:items[i]?=none)
  (hQ:∀ h',fF it s.heap h'->Q none { s with heap:=h' }):wpAny (model prog w) A (pyNext (.ref it)) Q E s:=by
 obtain⟨o,ho,hc,hd⟩:=id hit;obtain⟨ol,hol,_,nl,hdl⟩:=ht;unfold pyNext;refine ac (dZ (bR (name:=aO "__next__") hit.typeIs slot_tupleiter_next
  (bU slot_tupleiter_next hit.typeIs entry_tupleiter_next ?_ (args_tupleiter_next _))))
 show wpAny _ _ (field (.ref it) 0 >>= _) _ _ s;refine ac (bL ho hd (x:=.ref t) rfl ?_);show wpAny _ _ (if (aI t == bp)=true then _ else _) _ _ s;rw[if_neg (show ¬ ((aI t == bp)=true) from aB)];show wpAny _ _ (field (.ref it) 1 >>= _) _ _ s;refine ac (bL ho hd (x:=.int i 0) rfl ?_);show wpAny _ _ (seqItems? (.ref t) >>= _) _ _ s;refine ac (cR hol hdl ?_);simp only[cw,hx];refine ac (gL (ac (dj ho hd (by simp) ?_)));show wpAny _ _ (newExc (.type "StopIteration") [] >>= _) _ _ _;refine ac ?_;simp only[newExc,newTuple];refine ac (br ?_ (by size_fits));refine ac (m:=firstArgMember _ _) (eV (a:=bp) (by first | rfl | (simp only[firstArgMember]; rfl)) ?_);refine br ?_ (by size_fits);obtain⟨ox,vs,hox,hdx,h2x⟩:=ha;refine zB8 (x:=x) (ws:=_) (by first | exact hh | (rw[show A.in1.handled=A.handled from rfl]; exact hh)) ?_ ⟨ox,vs,ah _ (ah _ ((aZ _ _ (cz hxi)).trans hox)),hdx,h2x⟩ (ap _ rfl) rfl (by simp; lia) ?_
 ·exact λz=>absurd (aw hox) (by rw[z]; simp)
 refine ac (fS (T := "StopIteration") (b:=true) ⟨_,cG _ (ap _ rfl) (cW (cC rfl _)),eP _ _⟩ isSubtype_stop ?_);refine al (hQ _ λb o hb e=>?_);rw[aZ _ _ (λz=>absurd (aw e) (by rw[<- z]; simp))];exact ah _ (ah _ ((aZ _ _ (cz hb)).trans e))
theorem zI9{x t:af}{items:Array ag}{targets:List (Bool×(ag->mH Unit))}{Q:Unit->ai->Prop}(hh:A.handled=some (.ref x))(ha:zKh s.heap x)(ht:ni s.heap t items)
  (hn:targets.length=items.size) (hstar:targets.findIdx? (·.1)=none)
  (h:∀ h',fF s.heap.objs.size s.heap h'->wpAny (model prog w) A (assignInOrder (targets.map (·.2)) items.toList) Q E { s with heap:=h' }) :
  wpAny (model prog w) A (unpack (.ref t) targets) Q E s:=by
 have hlt:t≠s.heap.objs.size:=by obtain⟨o,ho,_⟩:=ht; exact aP (aw ho)
 have hlx:x≠s.heap.objs.size:=by obtain⟨o,_,ho,_⟩:=ha; exact aP (aw ho)
 unfold unpack;rw[hn,hstar];refine ac (ce ?_);unfold unpackItems;refine ac ?_;unfold notIterableAtAll;refine ac (lM ht.typeIs slot_tuple_iter.lookup ?_);refine al ?_;simp only[cL,if_false];refine ac (ce (iter_tuple ht ?_));refine ac (ce (draw_tuple hlt items.size 0 _ _ ⟨_,ap _ rfl,rfl,rfl⟩ (ht.push _) (by lia) λh₁ hit₁ hs₁=>?_));have hall:List.take items.size (List.drop 0 items.toList)=items.toList:=by
  rw[lV]; exact cg (by simp)
 rw[hall];rw[if_neg (by simp)];have ht₁:ni h₁ t items:=(ht.push _).extBut hs₁.extBut hlt;have ha₁:zKh h₁ x:=by
  obtain⟨ob,vs,e1,e2,e3⟩:=ha;exact⟨ob,vs,hs₁.extBut _ _ hlx (ah _ e1),e2,e3⟩
 refine ac (ce (zFm hh ha₁ hlx hit₁ ht₁ (by simp) λh₂ he₂=>?_));simp only[Option.isSome_none,cL,if_false];exact al (h h₂ λb o hb e=>he₂ b o hb (hs₁.extBut b o hb (ah _ e)))
theorem zIl{env:gq}{elts:List bx}{x1}{pos:fh}{x t:af}{items:Array ag}{Q:Unit->ai->Prop}(hh:A.handled=some (.ref x))(ha:zKh s.heap x)(ht:ni s.heap t items)
  (hn:(assignEach elts env).length=items.size) (hstar:(assignEach elts env).findIdx? (·.1)=none)
  (h:∀ h',fF s.heap.objs.size s.heap h'->wpAny (model prog w) A (assignInOrder ((assignEach elts env).map (·.2)) items.toList) Q E { s with heap:=h' }) :
  wpAny (model prog w) A (assign (.Tuple elts x1 pos) env (.ref t)) Q E s:=by
 rw[assign_Tuple];exact ac (fV (zI9 hh ha ht hn hstar h))
end
end L2

namespace L2
open PySem PySem.Spec PyProof.Rows
theorem xC.some{P:aK}{w:aU}{H:Hp}{h:aX}{a:af}{o:HO}(x:xC P w H h a o):∃ ob,h.get? a=some ob:=by
 cases o with
 | lst xs=>obtain⟨_,_,_,_,e⟩:=x; exact⟨_,e⟩
 | tup xs=>obtain⟨_,_,_,o,e,_⟩:=x; exact⟨_,e⟩
 | dK kvs=>obtain⟨_,_,_,_,o,_,_,e,_⟩:=x; exact⟨_,e⟩
 | dT kvs=>obtain⟨_,_,_,_,o,_,_,e,_⟩:=x; exact⟨_,e⟩
 | set S n=>obtain⟨o,_,_,_,e,_⟩:=x; exact⟨_,e⟩
 | ins C dx fs=>obtain⟨_,_,_,e,_⟩:=x; exact⟨_,e⟩
 | own y=>obtain⟨_,e⟩:=x; exact⟨_,e⟩
 | xd fs=>obtain⟨_,⟨_,_,_,e,_⟩,_⟩:=x; exact⟨_,e⟩
 | rng lo hi=>obtain⟨_,_,_,e⟩:=x; exact⟨_,e⟩
 | frz ob u=>obtain⟨e,_⟩:=x; exact⟨_,e⟩
 | tbl ps=>exact⟨_,x⟩
 | met f y=>exact⟨_,x⟩
 | ext φ=>obtain⟨_,⟨_,e⟩,_⟩:=x; exact⟨_,e⟩
section
variable{fs:List af}{H H':Hp}{h h2 h3 B:aX}{P:aK}{w:aU}
theorem yc6(u:Un fs [] H H' h h2)(st:B.StaysIn h3)(hB:∀ b o o',h.get? b=some o'->h2.get? b=some o->b ∉ fs->B.get? b=some o)
  (hf:∀ b∈fs,∀ o,h2.get? b=some o->∃ sl,h3.get? b=some { o with slots:=sl }):Un fs [] H H' h h3 where
 keep:=λb o q n hb hx=>st _ _ (hB b o o q (u.keep b o q n hb hx) hb)
 slot:=λb o q n hb hx=>by
  obtain⟨sl,e⟩:=u.slot b o q n hb hx;obtain⟨sl',e'⟩:=hf b hb _ e;exact⟨sl',e'⟩
 free:=u.free
 there:=λb o q hx=>by
  obtain⟨o',e⟩:=u.there b o q hx;by_cases hb:b∈fs
  ·obtain⟨sl,e'⟩:=hf b hb _ e;exact⟨_,e'⟩
  ·exact⟨o',st _ _ (hB b o' o q e hb)⟩
 tups:=u.tups
 frzs:=u.frzs
 tbls:=u.tbls
theorem zWg(ok:HOk P w H' h2)(st:B.StaysIn h3)(hB:∀ b o u,H' b=some u->h2.get? b=some o->B.get? b=some o):HOk P w H' h3:=λa o e =>
 (ok a o e).stay (λb u hb q=>st _ _ (by
  rcases hb with rfl | hb
  ·exact hB _ u o e q
  ·exact hB b u _ hb q)) (λ_ q=>q) λ_ _ q=>q
end
structure zKv(P:aK)(w:aU)(outer:List gq)(H:Hp)(s:ai)(ea:af)(cls:ag)(H':Hp)(B:aX)(s':ai):Prop where
 mk ::
 os:s'.os=s.os
 bare:gE s'.gens
 un:Un (frs outer) [] H H' s.heap s'.heap
 hok:HOk P w H' s'.heap
 new:H' ea=none
 fresh:s.heap.get? ea=none
 fly:uH B outer ea cls s'.heap
 has:∀ b o,s'.heap.get? b=some o->((s.heap.get? b).isSome=true\/(H' b).isSome=true)->b ∉ frs outer->B.get? b=some o
def CX1(P:aK)(w:aU):CXT:=λouter H s E e s'=>∃(ea:af)(cls:ag)(H':Hp)(B:aX),e=.ref ea/\zKv P w outer H s ea cls H' B s'/\E cls none H'
theorem zLb{X:Cx}{pins:List (af×cD)}{σ:St}{H2:Hp}{s2:ai}{ea:af}{cls:ag}{B h3:aX}{env:gq}{outer:List gq}(hs:X.stack=env::outer)(ho:X.outer=outer)(hx:X.ex=[])(hl:env.frame=some X.env.locals)(J:Inv X pins σ H2 s2)
  (hB:∀ b o,s2.heap.get? b=some o->((X.s₀.heap.get? b).isSome=true\/(H2 b).isSome=true)->b ∉ frs (env::outer)->B.get? b=some o) (nw:H2 ea=none) (fr:X.s₀.heap.get? ea=none)
  (fly:uH B outer ea cls h3) (up:s2.heap.UpToSlots h3):zKv X.prog X.w outer X.H₀ X.s₀ ea cls H2 B { s2 with heap:=h3 }:=by
 have st:=fly.1;have notin:∀ b o,X.s₀.heap.get? b=some o->b ∉ frs outer->b ∉ frs (env::outer):=λb o q hb z=>by
  rcases aA.mp (show b∈X.env.locals::frs outer by
   have:frs (env::outer)=X.env.locals::frs outer:=by unfold frs; rw[cS,hl]
   rw[<- this]; exact z) with e | e
  ·have l:=aR (aw q) J.ok.above;rw[e] at l;exact c9 _ l
  ·exact hb e
 have trk:∀ b u,H2 b=some u->b ∉ frs (env::outer):=λb u e z=>by
  have:=J.stkFree b (by rw[hs]; exact z);rw[e] at this;cases this
 have fs:X.fs=frs outer:=by show frs X.outer=_; rw[ho]
 have hf:∀ b∈frs outer,∀ o,s2.heap.get? b=some o->∃ sl,h3.get? b=some { o with slots:=sl }:=λb hb o e=>by
  obtain⟨_,o',e',nf⟩:=J.stack.mem (show b∈X.stack.filterMap (·.frame) by
   rw[hs];show b∈frs (env::outer);have:frs (env::outer)=X.env.locals::frs outer:=by unfold frs; rw[cS,hl]
   rw[this];exact .tail _ hb)
  rw[e] at e';cases e';exact up b o e nf
 have un:Un (frs outer) [] X.H₀ H2 X.s₀.heap s2.heap:=by
  have:=J.base;rw[fs,hx] at this;exact this
 refine⟨J.os,J.bare,yc6 un st (λb o o' q e hb=>hB b o e (.inl (by rw[q]; rfl)) (notin b o' q hb)) hf,zWg J.hok st λb o u e q=>hB b o q (.inr (by rw[e]; rfl)) (trk b u e),nw,fr,fly,λb o e z hb=>?_⟩;have key:∃ o',s2.heap.get? b=some o':=by
  rcases z with z | z
  ·obtain⟨o',q⟩:=aL.mp z;exact un.there b o' q (λz=>nomatch z)
  ·obtain⟨u,q⟩:=aL.mp z;exact(J.hok b u q).some
 obtain⟨o',e'⟩:=key;have hb':b ∉ frs (env::outer):=by
  rcases z with z | z
  ·obtain⟨o',q⟩:=aL.mp z;exact notin b o' q hb
  ·obtain⟨u,q⟩:=aL.mp z;exact trk b u q
 have hb2:=hB b o' e' z hb';have:=st _ _ hb2;rw[show({ s2 with heap:=h3 } : ai).heap=h3 from rfl] at e;rw[this] at e;cases e;exact hb2
theorem zKv.inv{X:Cx}{pins:List (af×cD)}{σ:St}{H H':Hp}{s s':ai}{ea:af}{cls:ag}{B:aX}(I:Inv X pins σ H s)(f:zKv X.prog X.w X.stack H s ea cls H' B s'):Inv X pins σ H' s' :=
 I.call' (ch:=[]) f.os f.un f.hok f.bare λb z=>absurd z (by simp)
theorem zKv.on{P:aK}{w:aU}{outer:List gq}{base:aX}{H H':Hp}{s s':ai}{ea:af}{cls:ag}{B h3:aX}(hs:s'.heap.FunFrames base outer)(f:zKv P w outer H s ea cls H' B s')(hfree:∀ b∈frs outer,H' b=none)
  (fly:uH B outer ea cls h3) (up:s'.heap.UpToSlots h3):zKv P w outer H s ea cls H' B { s' with heap:=h3 }:=by
 have st:=fly.1;have trk:∀ b u,H' b=some u->b ∉ frs outer:=λb u e z=>by
  have:=hfree b z;rw[e] at this;cases this
 refine⟨f.os,f.bare,yc6 f.un st (λb o o' q e hb=>f.has b o e (.inl (by rw[q]; rfl)) hb) (λb hb o e=>by
  obtain⟨_,o',e',nf⟩:=hs.mem hb;rw[e] at e';cases e';exact up b o e nf),zWg f.hok st λb o u e q=>f.has b o q (.inr (by rw[e]; rfl)) (trk b u e),f.new,f.fresh,fly,λb o e z hb=>?_⟩
 have key:∃ o',s'.heap.get? b=some o':=by
  rcases z with z | z
  ·obtain⟨o',q⟩:=aL.mp z;exact f.un.there b o' q (λz=>nomatch z)
  ·obtain⟨u,q⟩:=aL.mp z;exact(f.hok b u q).some
 obtain⟨o',e'⟩:=key;have hb2:=f.has b o' e' z hb;have:=st _ _ hb2;rw[show({ s' with heap:=h3 } : ai).heap=h3 from rfl] at e;rw[this] at e;cases e;exact hb2
def zPn(X:Cx)(EE:St->XK):Prop:=∀(pins:List (af×cD))(σ:St)(H:Hp)(s:ai)(e:ag)(s':ai),Inv X pins σ H s->CX1 X.prog X.w X.stack H s (EE σ) e s'->X.xe e s'
def zZe(X:Cx)(EE:St->XK):Prop:=∀(pins:List (af×cD))(σ:St)(H:Hp)(s:ai)(h':aX)(e:af)(cls:ag)(vs:List ag),Inv X pins σ H s->lX s.heap h' e cls vs->EE σ cls none H->X.xe (.ref e) { s with heap:=h' }
section
variable{P:aK}{w:aU}{K:ae}{mg:az->Option ag}{base:aX}{N:List az}{qual:az}{scope:fD}{f:af}{cd:ag}{A:bI}{outer:List gq}{s:ai}{H:Hp}{E:XK}
theorem yF:zPn (cxOf (CX1 P w) P w K mg base N qual scope f cd A outer s H E) (λ_=>E):=by
 intro pins σ H1 s1 e s2 I h;obtain⟨ea,cls,H2,B,rfl,fl,q⟩:=h;have J:=fl.inv I;refine zO7 (base:=B) (cls:=cls) (L:=s.heap.objs.size) I.ok.frames rfl fl.fly λh3 fly up=>?_;refine⟨ea,cls,H2,B,U,zLb (X:=cxOf (CX1 P w) P w K mg base N qual scope f cd A outer s H E) rfl rfl rfl rfl J (λb o e z hb=>fl.has b o e (z.imp (λz=>?_) id) hb) fl.new ?_ fly up,q⟩
 ·obtain⟨o',q'⟩:=aL.mp z;obtain⟨o'',q''⟩:=I.base.there b o' q' (λz=>nomatch z);rw[q''];rfl
 ·show s.heap.get? ea=none;cases q':s.heap.get? ea with
  | none=>rfl
  | some o' =>
   obtain⟨o'',q''⟩:=I.base.there ea o' q' (λz=>nomatch z);rw[fl.fresh] at q'';cases q''
theorem xJ:zZe (cxOf (CX1 P w) P w K mg base N qual scope f cd A outer s H E) (λ_=>E):=by
 intro pins σ H1 s1 h' e cls vs I hx q;have hin:∀ env∈(cxOf (CX1 P w) P w K mg base N qual scope f cd A outer s H E).stack,∀ b,env.frame=some b->b∈frs (cxOf (CX1 P w) P w K mg base N qual scope f cd A outer s H E).stack:=λenv he b hb=>fA.mpr ⟨env,he,hb⟩;have notin:∀ b o,s1.heap.get? b=some o->b ∉ frs (cxOf (CX1 P w) P w K mg base N qual scope f cd A outer s H E).stack->(iJ s1.heap (frs (cxOf (CX1 P w) P w K mg base N qual scope f cd A outer s H E).stack)).get? b=some o:=λb o e hb=>jr _ e hb;refine zLu (h:=s1.heap) (base:=iJ s1.heap (frs (cxOf (CX1 P w) P w K mg base N qual scope f cd A outer s H E).stack)) (cls:=cls) (args:=vs) (L:=s.heap.objs.size) I.ok.frames rfl (λb o q=>jH _ q) (PySem.W.funFrames_hide I.stack hin) hx λh3 fly up=>?_;have nw:H1 e=none:=by
  cases z:H1 e with
  | none=>rfl
  | some u =>
   obtain⟨ob,eo⟩:=(I.hok e u z).some;rw[hx.new] at eo;cases eo
 refine⟨e,cls,H1,_,U,zLb (X:=cxOf (CX1 P w) P w K mg base N qual scope f cd A outer s H E) (s2:=s1) rfl rfl rfl rfl I (λb o e _ hb=>notin b o e hb) nw ?_ fly ((nA hx.keeps).trans up),q⟩;show s.heap.get? e=none;cases q':s.heap.get? e with
 | none=>rfl
 | some o' =>
  obtain⟨o'',q''⟩:=I.base.there e o' q' (λz=>nomatch z);rw[hx.new] at q'';cases q''
theorem Fun.okX{x qual:az}{st:bP}{f:af}{fd:bT}{N ps:List az}{k:Nat}{sp:Sp}(F:Fun K x qual st f fd)(S:zR N ps (zI st))(len:∀ vs H Q E,sp vs H Q E->vs.length=ps.length)
  (hbody:∀(cdv:ag)(A:bI)(outer:List gq)(s:ai)(H:Hp)(vs:List V)(Q:VK)(E:XK),rZ k (A.deeper (envOfC qual (zI st) s.heap.objs.size f cdv))->sp vs H Q E ->
   ∃ t,PSs (cxOf (CX1 P w) P w K mg base N qual (zI st) f cdv A outer s H E) (xH st) t/\t { nx:=λ_ H'=>Q .non H',rt:=Q } (start N vs) H):yY P w K mg base (CX1 P w) (k+1) f fd ps sp:=by
 obtain⟨oc,od,kV,doc,pm,an,cdv,ct,osl,rfl,lk,hcd⟩:=F.ex;exact zZr lk hcd S len λA outer s H vs Q E hr hsp=>hbody cdv A outer s H vs Q E hr hsp
end
def qW(P:aK)(w:aU)(K:ae)(mg:az->Option ag)(base:aX)(x:az)(n:Nat)(ps:List az)(sp:Sp):Prop :=
 ∃(f:af)(fd:bT),yY P w K mg base (CX1 P w) n f fd ps sp/\zCe K fd ps []/\b9 K (.ref f)=true/\mg x=some (.ref f)
def zWo(P:aK)(w:aU)(K:ae)(mg:az->Option ag)(base:aX)(g:af)(n:Nat)(ps:List az)(sp:Sp):Prop :=
 ∃ fd:bT,yY P w K mg base (CX1 P w) n g fd ps sp/\∀ us:List ag,us.length=ps.length->bindArgs fd ⟨us,[]⟩=pure (ps.zip us)
section
variable{X:Cx}{n:Nat}{f:af}{fd:bT}{ps:List az}{sp:Sp}{x m:az}{p pos apos:fh}{e o:bx}{es:List bx}{ta:TE}{t:TA}{EE:St->XK}{C g:af}
theorem zL8{pins:List (af×cD)}{σ:St}{H:Hp}{s:ai}{Q:VK}{us:List ag}{vs:List V}(F:yY X.prog X.w X.K X.mg X.base (CX1 X.prog X.w) n f fd ps sp)(hr:rZ n X.A)(hb:zCe X.K fd ps [])(hx:zPn X EE)
  (I:Inv X pins σ H s) (r:yT vs us) (h:sp vs H Q (EE σ)):wpAny (model X.prog X.w) X.A (call (.ref f) us) (EP X pins σ Q) X.xe s:=by
 have hl:us.length=ps.length:=by rw[<- r.length]; exact F.len _ _ _ _ h
 have hb':=hb s us I.kIn (by rw[du]; exact hl);rw[du] at hb';refine gO (codeAny_mono (F.run X.A X.stack s H ⟨us,[]⟩ us vs Q (EE σ) hr I.env0 hb' r h) λr s' hq=>?_);cases r with
 | error e=>exact hx pins σ H s e s' I hq
 | ok fl =>
  cases fl with
  | ret u=>exact I.after hq
  | next=>exact bF hq
  | brk=>exact bF hq
  | cont=>exact bF hq
def yd3(sp:Sp)(EE:St->XK)(t:TA):TE:=λσ H Q=>t σ H λvs H1=>sp vs H1 Q (EE σ)
theorem yI(EE:St->XK)(h:qW X.prog X.w X.K X.mg X.base x n ps sp)(hx:zPn X EE)(hr:rZ n X.A)(hg:Gl X x)
  (ha:PA X (e::es) t) (hdb:(x ==("__debug__" : az))=false:=by decide) (he:starEach (e::es) X.env=(false,eval e X.env)::starEach es X.env:=by rfl) (hpl:(backTo pos (starEach es X.env)).any (·.1)=false:=by rfl) :
  PE X (.Call (.Name x p) (e::es) [] pos) (yd3 sp EE t):=by
 obtain⟨f,fd,F,hb,hk,hm⟩:=h;intro pins s σ H Q I h;refine cY (tQ I hg hm ?_ hdb);refine dF (h₀:=X.base) I.ok.mod.kin hk (thn (ha pos pins s σ H _ I h) λus s1 ⟨vs,H1,I1,r,q⟩=>⟨I1.kIn,?_⟩) he hpl;exact zL8 F hr hb hx I1 r q
def ya2(C:af)(m:az)(sp:Sp)(EE:St->XK)(ta:TE)(t:TA):TE:=λσ H Q=>ta σ H λx H1=>TMeth C m x H1 (t σ H1 λvs H2=>sp (x::vs) H2 Q (EE σ))
theorem zUs(EE:St->XK){pl:mH Bool}(hb:InB X.base λK=>Cls K C/\zS7 K C m g)(h:zWo X.prog X.w X.K X.mg X.base g n ps sp)(hx:zPn X EE)(hr:rZ n X.A)(he:PE X o ta)(ha:PA X (e::es) t)
  (hst:starEach (e::es) X.env=(false,eval e X.env)::starEach es X.env:=by rfl) (hpl:(backTo pos (starEach es X.env)).any (·.1)=false:=by rfl)
  (ht:eval (.Call (.Attribute o m apos) (e::es) [] pos) X.env=(do
   let ov <- eval o X.env
   standAt apos.atName
   let (f,first) <- holding [ov] (getMethod ov m pl)
   callWith pos f first (backTo pos (starEach (e::es) X.env)) (backToKw pos (keywordEach [] X.env))):=by rfl) :
  PE X (.Call (.Attribute o m apos) (e::es) [] pos) (ya2 C m sp EE ta t):=by
 obtain⟨K,KB,c,hm⟩:=hb;obtain⟨fd,F,b⟩:=h;intro pins s σ H Q I h;refine fO (pl:=pl) (thn (he pins s σ H _ I h) λu s1 ⟨x,H1,I1,rx,a,dx,fs,ex,ea,l,q⟩=>?_) ht;subst ex;obtain rfl:u=aI a:=rx;refine zDf (X:=X.withK K) (I1.withK KB) ea c hm l ?_;refine dF (first:=[.ref a]) (h₀:=X.base) (K:=K) KB hm.kp (thn (ha pos pins s1 σ H1 _ I1 q) λus s2 ⟨vs,H2,I2,r,q2⟩=>⟨(I2.withK KB).kIn,?_⟩) hst hpl;exact zL8 (us:=.ref a::us) (vs:=.ref a::vs) F hr (.all b) hx I2 (.cons rfl r) q2
theorem PS.nox{st:bP}{t:TS}(h:PS X.nox st t):PS X st t:=λpins s σ H D I hw =>
 cX (h pins s σ H D (I.wish _) hw) (λ_ _ q=>q.unwish) λ_ _ z=>bF z
def zZ7(cls:ag)(EE:St->XK)(t:TA):TS:=λ_ σ H=>t σ H λvs H1=>vs.length<=sizeLine/\EE σ cls none H1
theorem xI(EE:St->XK){bm bmN:List ag}{B Bn newId nid initId inN:String}(O:bu x C bm newId X.mg X.base)(Fn:ExcBaseFacts Bn newId inN bmN)(hBn:bm.contains (.type Bn)=true)(FB:ExcBaseFacts B nid initId bm)(hx:zZe X EE)
  {cpos np:fh} (ha:PA X (e::es) t) (hc:X.calm=true:=by rfl) (hg:Gl X x:=by rfl) (hd:(x ==("__debug__" : az))=false:=by decide) (he:starEach (e::es) X.env=(false,eval e X.env)::starEach es X.env:=by rfl) (hpl:(backTo cpos (starEach es X.env)).any (·.1)=false:=by rfl) :
  PS X (.Raise (some (.Call (.Name x np) (e::es) [] cpos)) none pos) (zZ7 (.ref C) EE t):=by
 obtain⟨tl,N,nm,q,bs,hdct,sn,sub,ab,col,dd,k0,k1,k2,k3,k5,mN,hC,hN,hni,T⟩:=O.obj;intro pins s σ H D I h;refine wpAny_Raise_call_subU (C:=C) (nm:=nm) (q:=q) (N:=N) (bs:=bs) (bm:=tl) (hdct:=hdct) (sn:=sn) (sub:=sub) (ab:=ab) (col:=col) (dd:=dd) (k0:=k0) (k1:=k1) (k2:=k2) (k3:=k3) (k5:=k5)
  Fn hBn FB (mN:=mN) (T.hasType FB.hasBase) (I.ok.hd hc) (by rw[he]; show(false||(backTo cpos (starEach es X.env)).any (·.1))=false; rw[hpl]; rfl) hni (tQ I hg O.bound ⟨rfl,?_⟩ hd)
 have h:=ha cpos pins s σ H _ I h;rw[he] at h ⊢;refine fY (cX h (λus s2 ⟨vs,H1,I1,r,len,q⟩=>⟨rfl,?_,I1.bk _ _ hC,hN.keeps I1.bk,T.keeps I1.bk,λh' e hm=>?_⟩) λ_ _ y=>y)
 ·rw[<- r.length]; exact len
 ·exact hx pins σ H1 s2 h' e _ _ I1 hm q
end
end L2

namespace L2
open PySem PySem.Spec PyProof.Rows
abbrev Cx.tr(X:Cx)(pins:List (af×cD))(EE:St->XK):Cx :=
 { X with pn:=X.pn++pins,xe:=λe s'=>∃(σ:St)(H:Hp)(s:ai),Inv X pins σ H s/\CX1 X.prog X.w X.stack H s (EE σ) e s' }
abbrev Cx.hd(X:Cx)(e:ag):Cx:={ X with A:=X.A.mark (some e),calm:=false,xe:=λ_ _=>False }
section
variable{X:Cx}{pins pins':List (af×cD)}{σ:St}{H:Hp}{s:ai}{EE:St->XK}{e:ag}
theorem Inv.tr(I:Inv X pins σ H s)(EE:St->XK):Inv (X.tr pins EE) [] σ H s :=
 ⟨⟨I.ok.mod,I.ok.kind,I.ok.glob,I.ok.blt,I.ok.above,I.ok.inj,I.ok.has,I.ok.cab,I.ok.hd,I.ok.frames,I.ok.stk,I.ok.exf,I.ok.bs,I.ok.bsz,I.ok.noex,I.ok.exfs,I.ok.funs,I.ok.frf⟩,I.os,I.bare,I.base,I.loc,I.cell,I.free,I.freeC,λp hp=>I.pin p (by rw[du] at hp; exact hp),I.hok,I.len⟩
theorem Inv.untr(I:Inv (X.tr pins EE) pins' σ H s):Inv X pins σ H s :=
 ⟨⟨I.ok.mod,I.ok.kind,I.ok.glob,I.ok.blt,I.ok.above,I.ok.inj,I.ok.has,I.ok.cab,I.ok.hd,I.ok.frames,I.ok.stk,I.ok.exf,I.ok.bs,I.ok.bsz,I.ok.noex,I.ok.exfs,I.ok.funs,I.ok.frf⟩,I.os,I.bare,I.base,I.loc,I.cell,I.free,I.freeC,λp hp=>I.pin p (dU _ hp),I.hok,I.len⟩
theorem Inv.hd(I:Inv X pins σ H s)(e:ag):Inv (X.hd e) pins σ H s :=
 ⟨⟨I.ok.mod,I.ok.kind,I.ok.glob,I.ok.blt,I.ok.above,I.ok.inj,I.ok.has,I.ok.cab,λz=>(nomatch z),I.ok.frames,I.ok.stk,I.ok.exf,I.ok.bs,I.ok.bsz,I.ok.noex,I.ok.exfs,I.ok.funs,I.ok.frf⟩,I.os,I.bare,I.base,I.loc,I.cell,I.free,I.freeC,I.pin,I.hok,I.len⟩
theorem Inv.unhd(I:Inv (X.hd e) pins σ H s)(hh:X.calm=true->X.A.handled=none):Inv X pins σ H s :=
 ⟨⟨I.ok.mod,I.ok.kind,I.ok.glob,I.ok.blt,I.ok.above,I.ok.inj,I.ok.has,I.ok.cab,hh,I.ok.frames,I.ok.stk,I.ok.exf,I.ok.bs,I.ok.bsz,I.ok.noex,I.ok.exfs,I.ok.funs,I.ok.frf⟩,I.os,I.bare,I.base,I.loc,I.cell,I.free,I.freeC,I.pin,I.hok,I.len⟩
theorem SP.untr{D:zMc}{f:Flow}{s':ai}(h:SP (X.tr pins EE) pins' D f s'):SP X pins D f s':=by
 cases f with
 | next=>obtain⟨σ',H',I,q⟩:=h; exact⟨σ',H',I.untr,q⟩
 | brk=>obtain⟨σ',H',I,q⟩:=h; exact⟨σ',H',I.untr,q⟩
 | cont=>obtain⟨σ',H',I,q⟩:=h; exact⟨σ',H',I.untr,q⟩
 | ret u=>obtain⟨v,σ',H',I,r,q⟩:=h; exact⟨v,σ',H',I.untr,r,q⟩
theorem zUd:zPn (X.tr pins EE) EE:=λ_ σ H s _ _ I h=>⟨σ,H,s,I.untr,h⟩
theorem Inv.moreX{a:af}{o:HO}(I:Inv X pins σ H s)(f0:H a=none)(f1:a≠X.env.locals)(f3:X.s₀.heap.get? a=none)(f4:∀ x c,X.env.cells.lookup x=some c->c≠a)(f5:∀ p∈X.pn++pins,p.1≠a)
  (new:xC X.prog X.w (upd H a o) s.heap a o):Inv X pins σ (upd H a o) s:=by
 have nk:∀{b:af}{u:HO},H b=some u->upd H a o b=some u:=λ{b u} e=>by
  rw[zG (λz=>by rw[z,f0] at e; cases e)];exact e
 have nn:∀{b:af},b≠a->H b=none->upd H a o b=none:=λ{b} n e=>by rw[zG n]; exact e
 have lo:∀{b:af}{u:cD},X.s₀.heap.get? b=some u->b≠a:=λ{b u} e z=>by rw[z,f3] at e; cases e
 refine⟨I.ok,I.os,I.bare,⟨I.base.keep,I.base.slot,λb u e n hx=>nn (lo e) (I.base.free b u e n hx),I.base.there,λb xs e=>nk (I.base.tups b xs e),λb u v e=>nk (I.base.frzs b u v e),
  λb ps e=>let ⟨more,q⟩:=I.base.tbls b ps e;⟨more,nk q⟩⟩,I.loc,I.cell,nn (cz f1) I.free,λx c e=>nn (f4 x c e) (I.freeC x c e),λp hp=>?_,λb u e=>?_,I.len⟩
 ·obtain⟨h1,h2,h3⟩:=I.pin p hp;exact⟨h1,nn (f5 p hp) h2,h3⟩
 ·by_cases eb:b=a
  ·subst eb;rw[zA] at e;cases e;exact new
  ·rw[zG eb] at e;exact(I.hok b u e).stay (λc v _ q=>q) (λc q=>nk q) λc xs q=>nk q
theorem Inv.frame{h':aX}{t':Nat}{m':az->Option ag}(I:Inv X pins σ H s)(hs:cO X.env.locals s.heap h')(hn:h'.Ns X.env.locals m'):Inv X pins (bE X.N.length none) H { s with heap:=h',toks:=t' }:=by
 have k:∀ b o,b≠X.env.locals->s.heap.get? b=some o->h'.get? b=some o:=λb o n e=>(hs.2 b n).trans e;have lo:∀{b:af}{u:cD},X.s₀.heap.get? b=some u->b≠X.env.locals:=λ{b u} e z=>by
  have l:=aR (aw e) I.ok.above;rw[z] at l;exact c9 _ l
 obtain⟨oL,esL,epL,hoL,_⟩:=hn;have trk:∀{b:af}{u:HO},H b=some u->b≠X.env.locals:=λ{b u} e z=>by rw[z,I.free] at e; cases e
 refine⟨I.ok,I.os,I.bare,⟨λb o q n hb hx=>k _ _ (lo q) (I.base.keep b o q n hb hx),λb o q n hb hx=>?_,I.base.free,λb o q hx=>?_,I.base.tups,I.base.frzs,I.base.tbls⟩,⟨m',⟨oL,esL,epL,hoL,by assumption⟩,λi x v _ hσ=>?_⟩,λx c e=>?_,I.free,I.freeC,λp hp=>?_,λa o e=>?_,by rw[cV]⟩
 ·obtain⟨sl,e⟩:=I.base.slot b o q n hb hx;exact⟨sl,k _ _ (lo q) e⟩
 ·obtain⟨o',e⟩:=I.base.there b o q hx;exact⟨o',k _ _ (lo q) e⟩
 ·rw[fE] at hσ;split at hσ <;> cases hσ
 ·obtain⟨v,o,ho,hd⟩:=I.cell x c e;exact⟨v,o,k _ _ (I.cne x c e) ho,hd⟩
 ·obtain⟨h1,h2,h3,h4⟩:=I.pin p hp;exact⟨k _ _ h3 h1,h2,h3,h4⟩
 ·refine(I.hok a o e).stay (λb u hb q=>k _ _ ?_ q) (λ_ q=>q) λ_ _ q=>q;rcases hb with rfl | hb
  ·exact trk e
  ·exact trk hb
end
def zU1(a:af)(cls:ag):HO:=.ext (zLl a cls)
theorem zWq{P:aK}{w:aU}{H:Hp}{h:aX}{a:af}{cls:ag}(e:zLl a cls h):xC P w H h a (zU1 a cls) :=
 ⟨e,let ⟨ob,_,h1,_⟩:=e;⟨ob,h1⟩,λh1 h2 ⟨ob,vs,q,c⟩ k=>⟨ob,vs,k _ q,c⟩⟩
def zA5(B:aX)(cls:ag)(D:af):Prop:=InB B λK=>lY K cls (.ref D)=some true
def sTry(B:aX)(D:af)(i:Nat)(tb:(St->XK)->TS)(th:af->TS):TS:=λE σ H =>
 tb (λσ' cls _ H'=>zA5 B cls D/\∀ ea,H' ea=none->th ea { nx:=λ_ _=>False,rt:=E.rt } (σ'.set i (some (.ref ea))) (upd H' ea (zU1 ea cls))) E σ H
section
variable{X:Cx}{x n:az}{i:Nat}{D:af}{body suite:List bP}{b₀:bP}{np hpos pos:fh}{tb:(St->XK)->TS}{th:TS}
theorem zR8{M:nj}{K:ae}{h:aX}{a:af}{cls:ag}{b:Bool}{D:af}(X:K.In h)(e:zLl a cls h)(hx:lY K cls (.ref D)=some b):PySem.W.Looks M h (excMatches (.ref a) (.ref D)) b:=by
 obtain⟨ob,_,h1,h2,_⟩:=e;exact PySem.W.exm_one X (h2 ▸ (nX h1).andThen .now) hx
theorem zKt{pins:List (af×cD)}{σ:St}{H H':Hp}{s s1:ai}{ea:af}{cls:ag}{B h:aX}(hx:X.ex=[])(I:Inv X pins σ H s)(fl:zKv X.prog X.w X.stack H s ea cls H' B s1)
  (fly:uH B X.stack ea cls h) (up:s1.heap.UpToSlots h):Inv X pins σ H' { s1 with heap:=h }/\zLl ea cls h/\∀ o,xC X.prog X.w (upd H' ea o) h ea o->Inv X pins σ (upd H' ea o) { s1 with heap:=h }:=by
 have J:=fl.inv I;have f5:=fl.on J.stack J.stkFree fly up;have J5:=f5.inv I;have ne:∀{b:af}{o:cD},s.heap.get? b=some o->b≠ea:=λ{b o} q z=>by rw[z,fl.fresh] at q; cases q
 refine⟨J5,fly.there,λo new=>J5.moreX fl.new ?_ ?_ (λx c e=>?_) (λp hp=>ne (I.pin p hp).1) new⟩
 ·obtain⟨m,⟨oL,_,_,hoL,_⟩,_⟩:=I.loc;exact(ne hoL).symm
 ·cases q:X.s₀.heap.get? ea with
  | none=>rfl
  | some o =>
   obtain⟨o',q'⟩:=I.base.there ea o q (by rw[hx]; exact λz=>nomatch z);exact absurd rfl (ne q')
 ·obtain⟨v,o,ho,_⟩:=I.cell x c e;exact ne ho
theorem zZa{th:af->TS}(hb:∀ (pins:List (af×cD)) (EE:St->XK),PSs (X.tr pins EE) body (tb EE))(hm:X.mg x=some (.ref D))(hN:X.N.Nodup)(hi:X.N[i]?=some n)(hl:X.env.scope.names.lookup n=some .local)(hh:∀ ea:af,PSs (X.hd (.ref ea)) (b₀::suite) (th ea))
  (hst:X.stack=X.env::X.outer/\X.env.frame=some X.env.locals:=by exact⟨U,U⟩) (hex:X.ex=[]:=by rfl) (hg:Gl X x:=by rfl) (hd:(x ==("__debug__" : az))=false:=by decide) :
  PS X (.Try body [.ExceptHandler (some (.Name x np)) (some n) (b₀::suite) hpos] [] [] pos) (sTry X.base D i tb th):=by
 intro pins s σ H E I h;refine wpAny_Try_except (cX (hb pins _ [] s σ H E (I.tr _) h) (λf s1 q=>?_) λe s1 q=>?_)
 ·have q:=q.untr;cases f with
  | next=>exact fv q
  | ret v=>exact q
  | brk=>exact q
  | cont=>exact q
 ·obtain⟨σ',H0,s0,I0,ea,cls,H',B,rfl,fl,tk,hc⟩:=q;have fly0:=fl.fly;rw[hst.1] at fly0;refine zK9 (L:=X.env.locals) (by rw[I.ok.frames,hst.1]) hst.2 fly0 λh4 held4 up4=>?_;refine zP4 held4 λh5 fly5 up5=>?_;have up:=up4.trans up5;rw[<- hst.1] at fly5;obtain⟨J5,ex5,_⟩:=zKt hex I0 fl fly5 up;obtain⟨K,KB,hK⟩:=tk;have K5:K.In h5:=KB.keeps J5.bk;refine wpAny_handleBy_cons (codeAny_handlers_test (tQ (J5.hd (.ref ea)) hg hm ?_ hd)) (by intro q; cases q);refine(zR8 K5 ex5 hK).here ?_;refine codeAny_handlers_suite_as ?_;refine zK0 fly5 λh6 fly6 up6=>?_;obtain⟨J6,ex6,more⟩:=zKt hex I0 fl fly6 (up.trans up6);have J7:=(more (zU1 ea cls) (zWq ex6)).hd (.ref ea);refine zJ4 (X:=X.hd (.ref ea)) (v:=.ref ea) J7 hN hi (.inl hl) rfl (λs8 I8 _=>?_) (.inr hl);refine cX (hh ea pins s8 _ _ { nx:=λ_ _=>False,rt:=E.rt } I8 (hc ea fl.new)) (λf s9 q=>?_) λ_ _ z=>bF z;cases f with
  | next=>obtain⟨_,_,_,z⟩:=q; exact bF z
  | brk=>obtain⟨_,_,_,z⟩:=q; exact bF z
  | cont=>obtain⟨_,_,_,z⟩:=q; exact bF z
  | ret u =>
   obtain⟨v,σ9,H9,I9,r,q⟩:=q;have I9:=I9.unhd I.ok.hd;obtain⟨m,hn,_⟩:=id I9.loc;refine wpAny_nameGoes (show X.env.kindOf n=some .local from hl) hn (by rw[I.ok.kind]; rfl) λh' m' hn' hs=>?_;exact⟨v,_,H9,I9.frame hs hn',r,q⟩
end
section
open PySem.W
structure zF9(K:ae)(D:af):Prop where
 mk ::
 ga:findIn K (.ref D) "__getattribute__" = some (some (.builtin "BaseException.__getattribute__"))
 gx:findIn K (.ref D) "__getattr__" = some none
 fc:findObj K D none "__class__" = some (.bind (.builtin "getset_descriptor.__get__") (.builtin "object.__class__"))
 mB:mroIn K D (.type "BaseException")=some true
 mo:mroIn K D (.type "object")=some true
theorem zNi{h:aX}{a D:af}(e:zLl a (.ref D) h):∃ ox,InstAt h a ox D none:=by
 obtain⟨ob,vs,h1,h2,h3,h4,_⟩:=e;refine⟨ob,h1,h2,?_,by rw[h3]; trivial⟩;unfold notCls;rw[h4]
theorem zRh{K:ae}{prog:aK}{w:aU}{A:bI}{E:ag->ai->Prop}{s:ai}{a D:af}{Q:Option ag->ai->Prop}(X:K.In s.heap)(C:zF9 K D)(e:zLl a (.ref D) s.heap)(h:Q (some (.ref D)) { s with toks:=s.toks+1 }) :
  wpAny (model prog w) A (getAttr? (.ref a) "__class__") Q E s:=by
 obtain⟨ox,I⟩:=zNi e;obtain⟨hh,g,d,t,os⟩:=s;have L0:=I.type (M:=model prog w);have L1:=looks_findIn (M:=model prog w) X C.ga;have L2:=looks_findIn (M:=model prog w) X C.gx;have L3:=looks_mroIn (M:=model prog w) X C.mB;have L4:=looks_find (M:=model prog w) X I C.fc;have hx2:(fu "BaseException.__getattribute__" == fu "object.__getattribute__")=false:=by decide +kernel
 have hx1:(onTheHeap (aI D)&&fu "BaseException.__getattribute__" == fu "object.__getattribute__")=false:=by rw[hx2]; rfl
 unfold getAttr? getAttrBy? getAttrBy;refine ac (wpAny_mkText (ac (dZ (ce (ac (L0.at (ac (L1.at ?_))))))));dsimp only;rw[hx1];simp only[cL,if_false];unfold getAttrByItsOwn hookBefore;refine ac ?_;rw[if_pos (show onTheHeap (aI D)=true from rfl)];refine L2.at ?_;refine ac (dZ (ce ?_));unfold callGetattribute;rw[if_neg (by decide)];unfold boundAndCalled;refine ac (eV (kB.ga.bind (.ref a)) ?_);show wpAny _ _ (call (.builtin "BaseException.__getattribute__") [.ref a,_]) _ _ _;refine gO (codeAny_call_builtin kB.ga.plain F.entry_bexc_ga ?_);have hk:builtinKind "BaseException.__getattribute__" = some .slot:=by decide +kernel
 have hsplit:splitId "BaseException.__getattribute__" = some ("BaseException","__getattribute__"):=by decide +kernel
 simp only[checkBuiltinCall,hk,hsplit];refine ac ?_;unfold isInstance;refine ac (L0.at (L3.at ?_));simp only[Bool.not_true,cL,if_false];refine eV (F.args_bexc_ga (.ref a) _) ?_;unfold eZ.«object.__getattribute__»;refine ac (eV (a:=(aI a,[cF (aO "__class__") t])) (by first | rfl | kernel_rfl) ?_);dsimp only;refine ac (eV (a:=(aO "__class__")) (by first | rfl | kernel_rfl) ?_);refine ac (L0.at (ac (L4.at ?_)));dsimp only;show wpAny _ _ (holding [fu "object.__class__"] (call (.builtin "getset_descriptor.__get__") [.builtin "object.__class__",.ref a,.ref D]) >>= ret) _ _ _;refine ac (ce (gO (class_get (s:=⟨hh,g,d,t+1,os⟩) X I C.mo ?_)));refine al ?_;dsimp only;exact handed_on rfl (al h)
theorem zXi{K:ae}{a D:af}(C:zF9 K D):KitX K (.ref a) (.ref D) (zLl a (.ref D)) where
 ty:=λM h _ e=>let ⟨_,I⟩:=zNi e; I.type
 it:=λ_ _ X _=>by
  obtain⟨cdD,hcD,_⟩:=iq.mp C.mo;unfold clsIn at hcD;split at hcD
  ·rename_i c' d' cd' sl' ho
   intro A' Q' E' s' k q;unfold isType loadHead;exact ac (wpAny_loadPart (k _ _ (X _ _ ho)) (al q))
  ·cases hcD
 ne:=λh tp dd its n sl X htp=>by
  obtain⟨cdD,hcD,_⟩:=iq.mp C.mo;refine fJ.mpr λq=>?_;have e:D=tp:=Value.ref.inj (beq_iff_eq.mp q);subst e;unfold clsIn at hcD;split at hcD
  ·rename_i c' d' cd' sl' ho
   have z:=(X _ _ ho).symm.trans htp;cases z
  ·cases hcD
 ca:=λX e k=>zRh X C e k
end
section
variable{X:Cx}
theorem yK{B:aX}(hB:X.base=B):uL X (.builtin "isinstance") (λxs H Q=>∃(a D:af)(v:V)(c:ag)(b:Bool),xs=[.ref a,v]/\((∃ T,v=.ty T/\c=.type T)\/∃ C,v=.ref C/\c=.ref C)/\H a=some (zU1 a (.ref D))/\(InB B λK=>cP K (.ref D) c=some b/\zF9 K D)/\Q (.bl b) H):=by
 subst hB;intro pins s σ H xs us Q I r h;obtain⟨a,D,v,c,b,rfl,hv,ha,⟨K,KB,e,C⟩,q⟩:=h;obtain⟨u,w,rfl,ru,rw_⟩:=zZ1 r;cases ru;obtain⟨p,_⟩:=(show xC X.prog X.w H s.heap a (zU1 a (.ref D)) from I.hok a _ ha);have hc:w=c:=by
  rcases hv with ⟨T,rfl,rfl⟩ | ⟨C,rfl,rfl⟩
  ·exact rw_
  ·exact rw_
 subst hc;exact cj (zXi C) (KB.keeps I.bk) p e (λz=>nomatch z) λtk=>⟨.bl b,H,I.tok tk,rfl,q⟩
theorem vH{x:az}{pos:fh}{a:af}(hm:X.mg x=some (.ref a))(hg:Gl X x:=by rfl)(hd:(x ==("__debug__" : az))=false:=by decide):PE X (.Name x pos) (tC (.ref a)):=λ_ _ _ H _ I h=>tQ I hg hm ⟨.ref a,H,I,rfl,h⟩ hd
theorem zIa:bootBuiltins "ValueError" = some (.type "ValueError"):=by decide +kernel
end
end L2

namespace L2
open PySem PySem.Spec PyProof.Rows
abbrev TJ:=St->Hp->(Hp->Prop)->Prop
section
variable{X:Cx}{e:bx}{es:List bx}{t:TJ}{te:TE}{pos p:fh}{n:Nat}
def PJ(X:Cx)(es:List bx)(n:Nat)(t:TJ):Prop:=∀(pins:List (af×cD))(s:ai)(σ:St)(H:Hp)(k:Nat)(acc:az)(Q:az->ai->Prop)(C:Hp->Prop),Inv X pins σ H s->acc.length<=2000*k->k+n<=100 ->
 t σ H C->(∀(H':Hp)(out:az)(s':ai),C H'->out.length<=200000->Inv X pins σ H' s'->Q out s')->Joins (model X.prog X.w) X.A X.xe (evalEach es X.env) acc Q s
def zQo:TJ:=λ_ H K=>K H
def zW2(te:TE)(t:TJ):TJ:=λσ H K=>te σ H λv H1=>((∃ i,v=.int i/\i.natAbs.log2<1920)\/∃ x,v=.str x/\x.length<=1000)/\t σ H1 K
theorem tS:PJ X [] 0 zQo:=λ_ s _ H _ acc _ _ I h hk q z=>z H acc s q (by lia) I
theorem wR{c:az}{j:Nat}(ht:PJ X es n t)(hc:c.length<=1000:=by decide)(he:evalEach (.Constant (.str c) j p::es) X.env=eval (.Constant (.str c) j p) X.env::evalEach es X.env:=by rfl):PJ X (.Constant (.str c) j p::es) (n+1) t:=by
 intro pins s σ H k acc Q C I h hk q z;rw[he];refine jI ⟨c,_,rfl,?_,?_⟩
 ·rw[strLen_append];show acc.length+c.length<=2^24;lia
 ·exact ht pins _ σ H (k+1) _ _ C (I.tok _) (by rw[strLen_append]; lia) (by lia) q z
theorem zB3(hv:PE X e te)(ht:PJ X es n t)(he:evalEach (.FormattedValue e (-1) none p::es) X.env=eval (.FormattedValue e (-1) none p) X.env::evalEach es X.env:=by rfl):PJ X (.FormattedValue e (-1) none p::es) (n+1) (zW2 te t):=by
 intro pins s σ H k acc Q C I h hk q z;rw[he];refine gS (thn (hv pins s σ H _ I q) λu s1 ⟨v,H1,I1,r,c,q1⟩=>?_);rcases c with ⟨i,rfl,hi⟩ | ⟨x,rfl,hx⟩
 ·obtain⟨tk,rfl⟩:=(show ∃ t,u=dP i t from r);have l:=int_text_length_le (k:=1920) (by decide) hi;rw[<- eN] at l;refine i0 hi ⟨_,_,rfl,?_,?_⟩
  ·rw[strLen_append];show acc.length+_<=2^24;lia
  ·exact ht pins _ σ H1 (k+1) _ _ C (I1.tok _) (by rw[strLen_append]; lia) (by lia) q1 z
 ·obtain⟨tk,rfl⟩:=(show ∃ t,u=cF x t from r);have key:∀(t':nV)(tk':Nat),∃ y t,cF x t'=.str y t/\(acc++y).length<=sizeLine/\Joins (model X.prog X.w) X.A X.xe (evalEach es X.env) (acc++y) Q { s1 with toks:=tk' }:=λt' tk' =>
   ⟨x,t',rfl,by rw[strLen_append]; show acc.length+x.length<=2^24; lia,ht pins _ σ H1 (k+1) _ _ C (I1.tok _) (by rw[strLen_append]; lia) (by lia) q1 z⟩
  exact formatField_str (λt' tk'=>key t' tk') (by show x.length<=2^24; lia)
def zSn(t:TJ):TE:=λσ H Q=>t σ H λH'=>∀ x:az,x.length<=200000->Q (.str x) H'
theorem wO{a b:bx}(ht:PJ X (a::b::es) n t)(hn:n<=100:=by decide):PE X (.JoinedStr (a::b::es) pos) (zSn t):=by
 intro pins s σ H Q I h;exact wpAny_JoinedStr (ht pins s σ H 0 nv _ _ I (by decide) (by lia) h λH' out s' c l I'=>⟨by show out.length<=2^24; lia,.str out,H',I'.tok _,⟨_,rfl⟩,c out l⟩)
end
def bmV:List ag:=[.type "ValueError",.type "Exception",.type "BaseException",.type "object"]
end L2

namespace L2
open PySem PySem.Spec PyProof.Rows
theorem zU8(w:aU)(x:az):keyH w (.inr x)=gH w.params x:=rfl
theorem zR3{P:aK}{w:aU}{B:aX}{a:af}{l:List (az×Nat×V×ag)}{ep:Nat}(h:B.get? a=some ⟨.type "dict",none,.dict ((l.map λe=>(⟨gH w.params e.1,.str e.1 e.2.1,e.2.2.2⟩:dm)).toArray) ep,#[]⟩)
  (r:∀ e∈l,xD e.2.2.1 e.2.2.2) (nd:(l.map (·.1)).Nodup):zYz P w B a (l.map λe=>(.inr e.1,e.2.2.1)):=by
 refine⟨l.map λe=>(.inr e.1,e.2.2.2),?_,_,_,ep,h,⟨U,U,U⟩,U,λe he=>?_,?_,?_⟩
 ·clear h nd
  induction l with
  | nil=>exact .nil
  | cons e l ih=>exact .cons ⟨rfl,r e (.head _)⟩ (ih λe he=>r e (.tail _ he))
 ·have he:e∈l.map λe=>(⟨gH w.params e.1,.str e.1 e.2.1,e.2.2.2⟩:dm):=by simpa using he
  obtain⟨q,_,rfl⟩:=aF.mp he;exact⟨.inr q.1,zBi P w q.1 q.2.1,(zU8 w q.1).symm⟩
 ·rw[List.toList_toArray];clear h nd r
  induction l with
  | nil=>exact .nil
  | cons e l ih=>exact .cons (zBi P w e.1 e.2.1) rfl ih
 ·rw[bD];have:((λe:Key×ag=>e.1) ∘ λe:az×Nat×V×ag=>((.inr e.1:Key),e.2.2.2))=(λx:az=>(.inr x:Key)) ∘ λe=>e.1:=rfl;rw[this,<- bD];refine dI.mpr (ky.mpr ((dI.mp nd).imp λn z=>n ?_));injection z
def zV1(es:Array dm):Bool:=es.toList.all λe=>match e.key with | .str _ _=>true | _=>false
theorem zQy{es:Array dm}(h:zV1 es=true):StrKeys es:=λe he=>by
 have:=aT.mp h e (by simpa using he);cases q:e.key <;> rw[q] at this <;> first | exact⟨_,_,U⟩ | cases this
def zNc(K:ae)(N:af):Bool:=match K.lookup N with
 | some ⟨_,_,.dict es _,_⟩=>zV1 es&&(nsFind es "__init__").isNone
 | _=>false
theorem zJ3{K:ae}{B:aX}{N:af}(X:K.In B)(h:zNc K N=true):∃ m,B.Ns N m/\m "__init__" = none:=by
 unfold zNc at h;split at h
 ·rename_i c d es ep sl q
  rw[be] at h;exact⟨nsFind es,⟨_,es,ep,X _ _ q,U,zQy h.1,λ_=>rfl⟩,by simpa using h.2⟩
 ·cases h
def zOf(K:ae):List ag->Bool
 | []=>false
 | .ref A::tl=>(match K.lookup A with | some ⟨_,_,.cls cd,_⟩=>zNc K cd.ns&&zOf K tl | _=>false)
 | v::tl=>(v::tl) == bmV
theorem zLs{K:ae}{B:aX}(X:K.In B):∀{tl:List ag},zOf K tl=true->OwnTail B bmV tl
 | [],h=>by cases h
 | .ref A::tl,h=>by
  unfold zOf at h;split at h
  ·rename_i c d cd sl q
   rw[be] at h;obtain⟨m,h1,h2⟩:=zJ3 X h.1;exact .own (X _ _ q) h1 h2 (zLs X h.2)
  ·cases h
 | .type T::tl,h=>by
  have e:(lP T::tl)=bmV:=beq_iff_eq.mp h;rw[e];exact .base
 | .none::tl,h=>by have e:(bp::tl)=bmV:=beq_iff_eq.mp h; rw[e]; exact .base
 | .bool b::tl,h=>by have e:(iu b::tl)=bmV:=beq_iff_eq.mp h; rw[e]; exact .base
 | .int i t::tl,h=>by have e:(dP i t::tl)=bmV:=beq_iff_eq.mp h; rw[e]; exact .base
 | .float i t::tl,h=>by have e:(i9 i t::tl)=bmV:=beq_iff_eq.mp h; rw[e]; exact .base
 | .str i t::tl,h=>by have e:(cF i t::tl)=bmV:=beq_iff_eq.mp h; rw[e]; exact .base
 | .bytes i t::tl,h=>by have e:(lD i t::tl)=bmV:=beq_iff_eq.mp h; rw[e]; exact .base
 | .builtin i::tl,h=>by have e:(fu i::tl)=bmV:=beq_iff_eq.mp h; rw[e]; exact .base
def yc8(K:ae)(C:af):Bool:=match K.lookup C with
 | some ⟨.type "type",_,.cls cd,sl⟩=>(match cd.mro,sl.toList with
  | .ref C'::bm,[_,_,_,_,some (.builtin n),_]=>C' == C&&(!cd.hasDel&&(n == "ValueError.__new__" && (zNc K cd.ns&&zOf K bm)))
  | _,_=>false)
 | _=>false
theorem xK{K:ae}{B:aX}{C:af}{x:az}{mg:az->Option ag}(X:K.In B)(hm:mg x=some (.ref C))(q:yc8 K C=true):bu x C bmV "ValueError.__new__" mg B:=by
 unfold yc8 at q;split at q
 ·rename_i dd cd sl ho
  split at q
  ·rename_i C' bm k0 k1 k2 k3 n k5 hm' hs
   simp only[be,beq_iff_eq,Bool.not_eq_true'] at q;obtain⟨rfl,hdel,rfl,hi,ht⟩:=q;obtain⟨nm,bs,mro,ns,qn,hd,sn,sub,ab,col,del⟩:=cd;dsimp only at hm' hdel hi;subst hm' hdel;have hsl:sl = #[k0,k1,k2,k3,some (.builtin "ValueError.__new__"),k5]:=by
    obtain⟨l⟩:=sl;simp only at hs;rw[hs]
   subst hsl;obtain⟨m,h1,h2⟩:=zJ3 X hi;exact⟨hm,bm,ns,nm,qn,bs,hd,sn,sub,ab,col,dd,k0,k1,k2,k3,k5,m,X _ _ ho,h1,h2,zLs X ht⟩
  ·cases q
 ·cases q
theorem zN9{F K:ae}{a:af} : bK a (F++K)=match bK a F with | some o=>some o | none=>bK a K:=by
 induction F with
 | nil=>rfl
 | cons e F ih =>
  rw[k9,bo,bo];cases a == e.1 with
  | true=>rfl
  | false=>exact ih
theorem zIv:∀{F:ae}{a:af}{o:cD},bK a F=some o->(a,o)∈F
 | [],_,_,h=>by cases h
 | (b,u)::F,a,o,h=>by
  rw[bo] at h;cases z:a == b with
  | true =>
   rw[z] at h;cases h;rw[beq_iff_eq.mp z];exact .head _
  | false =>
   rw[z] at h;exact .tail _ (zIv h)
theorem zT6{F K:ae}{h:aX}(n:(F.map (·.1)).all (λa=>(bK a K).isNone)=true)(X:bW (F++K) h):bW K h:=λa o q=>X a o (by
 rw[zN9];cases z:bK a F with
 | none=>exact q
 | some u =>
  have m:a∈F.map (·.1):=aF.mpr ⟨(a,u),zIv z,rfl⟩;have:=aT.mp n a m;rw[q] at this;cases this)
theorem zSd{F K:ae}{a:af}{o:cD}(n:(F.map (·.2.cls)).all (λc=>!(c == .type "list"))=true)(h:bK a (F++K)=some o)(c:o.cls=.type "list"):bK a K=some o:=by
 rw[zN9] at h;cases z:bK a F with
 | none=>rw[z] at h; exact h
 | some u =>
  rw[z] at h;have h:some u=some o:=h;injection h with h
  subst h;have:=aT.mp n u.cls (aF.mpr ⟨(a,u),zIv z,rfl⟩);rw[c] at this;simp at this
theorem walk_of3{l:iR}{n k:Nat}{q:aK}{loose:List az}{XP:(az->Option ag)->aX->Prop}{YP:aU->aX->Prop}{d:DefRec}{KK:eL->ae}{K:ae}{sp:Sp}{x:az}
  (hn:l.most=some n) (hn2:n<=sizeLine) (hdf:d.params.defaults=[]) (hr:rZ k callerA)
  (hY:∀(w:aU)(h:aX),YP w h->(KK w.params).In h) (sub:∀(p:eL)(h:aX),(KK p).In h->K.In h) (past:∀(p:eL)(a:af)(o:cD),bK a (KK p)=some o->o.cls=.type "list" -> bK a K=some o)
  (F:∀(w:aU)(mg:az->Option ag)(fa:af)(h:aX),(KK w.params).In h->h.Ns mainGlobals mg->mg d.name=some (.ref fa) ->
   ∃ fd:bT,(∀(s:ai)(u:ag),iz s fd ⟨[u],[]⟩ [(x,u)]) /\
    ∀ base:aX,(KK w.params).In base->base.Ns mainGlobals mg->yY l.prog w K mg base CX0 k fa fd [x] sp)
  (hsp:∀(H:Hp)(a:af)(ns:List Int),ns.length<=n->SqL K H a (ns.map V.int)->sp [.ref a] H (λv _=>v=.bl true) λ_ _ _=>False) :
  ng q loose XP YP l.row.toRowW d [] (λf vs=>lS f vs):=by
 refine Att.attach_call hn hdf λw s₀ s₁ mg mb fa o pm cd doc a vs ns G Y ho hd hcd hmg hobj hints hlen hg=>?_;have KX:=hY w _ Y;obtain⟨fd,hb,hF⟩:=F w mg fa _ KX G.T.g hmg;refine zT0 (K:=KK w.params) KX G.T.g G.T.b G.T.builtins G.T.nolimit hg hobj hints (aD hlen hn2) hr (λbase hK hN=>(hF base hK hN).withK (sub _ _ hK)) hb (λH hO hS=>hsp H a ns hlen ?_) λH e s' z=>z;rcases hS with h | ⟨o,its,n,h1,h2,h3⟩
 ·exact .inl h
 ·exact .inr ⟨o,its,n,past _ _ _ h1 h2,h2,h3⟩
end L2

namespace Sea
open PySem L2
section
variable{H:Hp}{v:V}
theorem zIm{n:az}{x y:Int}(h:Rep H (Deed.move n x y).dt v):∃ a,v=.ref a/\H a=some (.tup [.str "move",.str n,.int x,.int y]):=by
 obtain⟨a,xs,e,h1,h2⟩:=yJ.mp h;obtain⟨_,_,rfl,k1,h2⟩:=zK.mp h2;obtain⟨_,_,rfl,k2,h2⟩:=zK.mp h2;obtain⟨_,_,rfl,k3,h2⟩:=zK.mp h2;obtain⟨_,_,rfl,k4,h2⟩:=zK.mp h2;rw[zY.mp k1,zY.mp k2,yB.mp k3,yB.mp k4,yH.mp h2] at h1;exact⟨a,e,h1⟩
theorem zCu{n:az}(h:Rep H (Deed.unmark n).dt v):∃ a,v=.ref a/\H a=some (.tup [.str "unmark",.str n]):=by
 obtain⟨a,xs,e,h1,h2⟩:=yJ.mp h;obtain⟨_,_,rfl,k1,h2⟩:=zK.mp h2;obtain⟨_,_,rfl,k2,h2⟩:=zK.mp h2;rw[zY.mp k1,zY.mp k2,yH.mp h2] at h1;exact⟨a,e,h1⟩
theorem zEp{n:az}(h:Rep H (Deed.level n).dt v):∃ a,v=.ref a/\H a=some (.tup [.str "level",.str n]):=by
 obtain⟨a,xs,e,h1,h2⟩:=yJ.mp h;obtain⟨_,_,rfl,k1,h2⟩:=zK.mp h2;obtain⟨_,_,rfl,k2,h2⟩:=zK.mp h2;rw[zY.mp k1,zY.mp k2,yH.mp h2] at h1;exact⟨a,e,h1⟩
theorem zEu{k x y:Int}(h:Rep H (Deed.right k x y).dt v):∃ a,v=.ref a/\H a=some (.tup [.str "right",.int k,.int x,.int y]):=by
 obtain⟨a,xs,e,h1,h2⟩:=yJ.mp h;obtain⟨_,_,rfl,k1,h2⟩:=zK.mp h2;obtain⟨_,_,rfl,k2,h2⟩:=zK.mp h2;obtain⟨_,_,rfl,k3,h2⟩:=zK.mp h2;obtain⟨_,_,rfl,k4,h2⟩:=zK.mp h2;rw[zY.mp k1,yB.mp k2,yB.mp k3,yB.mp k4,yH.mp h2] at h1;exact⟨a,e,h1⟩
structure yd7(H:Hp)(cs:List (Int×Int))(ps:List Pr):Prop where
 mk ::
 pt:ps.map (·.2)=cs
 at_:∀ t∈ps,H t.1=some (.tup [.int t.2.1,.int t.2.2])
theorem zHo:∀{cs:List (Int×Int)}{xs:List V},wG H (cs.map ptD) xs->∃ ps:List Pr,xs=zQ ps/\yd7 H cs ps
 | [],_,h=>⟨[],yH.mp h,rfl,λt ht=>(nomatch ht)⟩
 | c::cs,_,h=>by
  obtain⟨x,r,rfl,h1,h2⟩:=zK.mp h;obtain⟨a,rfl,ha⟩:=zBf h1;obtain⟨ps,rfl,e,h3⟩:=zHo h2;refine⟨(a,c)::ps,U,by rw[aN,e],λt ht=>?_⟩;rcases aA.mp ht with z | z
  ·rw[z]; exact ha
  ·exact h3 t z
theorem zFi{n:az}{cs:List (Int×Int)}(h:Rep H (Deed.bank n cs).dt v):∃(a c:af)(ps:List Pr),v=.ref a/\H a=some (.tup [.str "bank",.str n,.ref c])/\H c=some (.tup (zQ ps))/\yd7 H cs ps/\Rep H (.tup (cs.map ptD)) (.ref c):=by
 obtain⟨a,xs,e,h1,h2⟩:=yJ.mp h;obtain⟨_,_,rfl,k1,h2⟩:=zK.mp h2;obtain⟨_,_,rfl,k2,h2⟩:=zK.mp h2;obtain⟨_,_,rfl,k3,h6⟩:=zK.mp h2;obtain⟨c,ys,rfl,h3,h4⟩:=yJ.mp k3;obtain⟨ps,rfl,h5⟩:=zHo h4;have e6:=yH.mp h6;rw[zY.mp k1,zY.mp k2,e6] at h1;exact⟨a,c,ps,e,h1,h3,h5,k3⟩
end
theorem zV5{ps:List Pr} : isB ps=zPz (ps.map (·.2)):=by
 have e:∀ i,ptA ((ps.map (·.2)).map λc=>((0,c):af×Int×Int)) i=ptA ps i:=λi=>by
  unfold ptA;rw[ak,ak];cases ps[i]? <;> rfl
 have l:((ps.map (·.2)).map λc=>((0,c):af×Int×Int)).length=ps.length:=by rw[aa,aa]
 unfold zPz isB vS zDm;simp only[e,l]
theorem zS1{S:BS}{n:az}{x y:Int}(h:(zP S n).isSome=true):zWa (mkE S.marks) (.inr n) (ptD (x,y))=mkE (aft S (.move n x y)).marks:=by
 have any:(mkE S.marks).any (λe=>decide (e.1=.inr n))=true:=by
  obtain⟨p,e⟩:=aL.mp h;exact fR.mpr ⟨(.inr n,ptD p),aF.mpr ⟨(n,p),zHm e,rfl⟩,by simp⟩
 unfold zWa;rw[if_pos any];show _=mkE (S.marks.map _);unfold mkE;rw[bD,bD];refine jx λe _=>?_;show(if (d8 e.1:Key)=d8 n then((d8 e.1:Key),ptD (x,y)) else(d8 e.1,ptD e.2))=_;by_cases z:e.1=n
 ·rw[if_pos (by rw[z])];show _=((d8 (if e.1=n then(e.1,x,y) else e).1:Key),ptD (if e.1=n then(e.1,x,y) else e).2);rw[if_pos z]
 ·rw[if_neg (λq=>z (lC q))];show _=((d8 (if e.1=n then(e.1,x,y) else e).1:Key),ptD (if e.1=n then(e.1,x,y) else e).2);rw[if_neg z]
theorem zNn(l:List (az×Int×Int))(n:az):zKp (mkE l) (.inr n)=mkE (l.filter λe=>decide (e.1≠n)):=by
 unfold zKp mkE;rw[iP]
 congr 1
 refine hV λe _=>?_;simp
theorem zI0(l:List (az×List (Int×Int))):(bkE l).length=l.length:=by unfold bkE; rw[aa]
theorem zSz(l:List (az×List (Int×Int)))(n:az)(cs:List (Int×Int)):bkE (l++[(n,cs)])=bkE l++[(.inr n,.tup (cs.map ptD))]:=by
 unfold bkE;rw[aG];rfl
theorem zOg(l:List (az×List (Int×Int)))(n:az):zKp (bkE l) (.inr n)=bkE (l.filter λe=>decide (e.1≠n)):=by
 unfold zKp bkE;rw[iP]
 congr 1
 refine hV λe _=>?_;simp
theorem zH8{l:List (az×List (Int×Int))}{n:az}(h:n ∉ l.map (·.1)):∀ e∈bkE l,e.1≠.inr n:=λe he z=>by
 unfold bkE at he;obtain⟨q,hq,rfl⟩:=aF.mp he;exact h (aF.mpr ⟨q,hq,lC z⟩)
theorem zEq{es:List (Key×Dt)}{k:Key}(h:∀ e∈es,e.1≠k):look es k=none:=by
 unfold look;rw[iF,eE];exact λe he z=>h e he (of_decide_eq_true z)
theorem zX4{es:List (Key×Dt)}{k:Key}(h:k∈es.map (·.1)):∃ d,look es k=some d:=by
 obtain⟨e,he,rfl⟩:=aF.mp h;unfold look;cases q:es.find? λx=>decide (x.1=e.1) with
 | none=>exact absurd (eE.mp q e he) (by simp)
 | some x=>exact⟨x.2,U⟩
theorem zWb{l:List (az×List (Int×Int))}{n:az}(h:n∈l.map (·.1)):∃ d,look (bkE l) (.inr n)=some d:=zX4 (by
 obtain⟨e,he,rfl⟩:=aF.mp h;exact aF.mpr ⟨_,aF.mpr ⟨e,he,rfl⟩,rfl⟩)
theorem zV6:∀{l:List (Int×Int)}{k i:Nat}{p:Int×Int},((l.zipIdx k).map λe=>((.inl (e.2:Int):Key),ptD e.1)).map (λe=>if e.1=.inl ((k+i:Nat):Int) then(e.1,ptD p) else e)=((l.set i p).zipIdx k).map λe=>((.inl (e.2:Int):Key),ptD e.1)
 | [],_,_,_=>rfl
 | q::l,k,0,p=>by
  rw[List.set_cons_zero,c7,c7,aN,aN,aN,if_pos (by rfl)]
  congr 1
  rw[jx (g:=id),List.map_id];intro e he;obtain⟨u,hu,rfl⟩:=aF.mp he;rw[if_neg]
  ·rfl
  intro z;injection z with z
  have:=List.le_snd_of_mem_zipIdx hu;simp at z;lia
 | q::l,k,i+1,p=>by
  have ih:=zV6 (l:=l) (k:=k+1) (i:=i) (p:=p);rw[show k+1+i=k+(i+1) by lia] at ih;rw[List.set_cons_succ,c7,c7,aN,aN,aN,ih,if_neg];intro z;injection z with z
  simp at z;lia
theorem zYk{l:List (Int×Int)}{i:Nat}{p:Int×Int}(h:i<l.length):zWa (rnE l) (.inl (i:Int)) (ptD p)=rnE (l.set i p):=by
 have e:=zJd (k:=0) (aj h);rw[iG] at e;have any:(rnE l).any (λe=>decide (e.1=.inl (i:Int)))=true:=by
  cases q:(rnE l).any (λe=>decide (e.1=.inl (i:Int))) with
  | true=>rfl
  | false =>
   have:=zEq (es:=rnE l) (k:=.inl (i:Int)) λe he z=>by
    have:=jY.mp q e he;simp[z] at this
   rw[show look (rnE l) (.inl (i:Int))=_ from e] at this;cases this
 unfold zWa;rw[if_pos any];have:=zV6 (l:=l) (k:=0) (i:=i) (p:=p);rw[iG] at this;exact this
theorem wG.set{H:Hp}{d:Dt}{v:V}(h:Rep H d v):∀{l:List Dt}{xs:List V}(i:Nat),wG H l xs->wG H (l.set i d) (xs.set i v)
 | [],_,i,q=>by rw[yH.mp q]; exact yH.mpr rfl
 | d'::l,_,0,q=>by
  obtain⟨x,r,rfl,h1,h2⟩:=zK.mp q;exact zK.mpr ⟨v,r,rfl,h,h2⟩
 | d'::l,_,i+1,q=>by
  obtain⟨x,r,rfl,h1,h2⟩:=zK.mp q;exact zK.mpr ⟨x,_,rfl,h1,wG.set h i h2⟩
theorem zZx{n i:Nat}(h:i<n):ixN n (i:Int)=some i:=by
 unfold ixN;simp;lia
end Sea

namespace L2
open PySem PySem.Spec PyProof.Rows
def isS(n:az):V->Bool
 | .str z=>z == n
 | _=>false
def rInM(K:ae):R2:=λx y H Q=>∃(p:af)(xs:List V)(n:az),y=.ref p/\x=.str n/\SqT K H p xs/\(∀ v∈xs,(∃ z,v=.str z)\/∃ a ys,v=.ref a/\SqT K H a ys)/\Q (.bl (xs.any (isS n))) H
section
variable{X:Cx}
theorem zRb(hu:X.A.units+1<cLine):OpR X (compareOp .In) (rInM X.K):=by
 intro pins s σ H x y v u Q I rx ry h;obtain⟨p,xs,n,rfl,rfl,hq,ok,q⟩:=h;cases ry;obtain⟨t,rfl⟩:=rx;obtain⟨its,r,pl,hz⟩:=I.tuple hq;have key:∀{xs:List V}{us:List ag},yT xs us->(∀ v∈xs,(∃ z,v=.str z)\/∃ a ys,v=.ref a/\SqT X.K H a ys)->(∀ u∈us,jO X.A.in1 s u (.str n t) (eqU (.str n) u))/\us.any (eqU (.str n))=xs.any (isS n):=by
  intro xs us hv
  induction hv with
  | nil=>exact λ_=>⟨λu hu=>(nomatch hu),rfl⟩
  | @cons y u xs us r _ ih =>
   intro ok;obtain⟨h1,h2⟩:=ih λv hv=>ok v (.tail _ hv);rcases ok y (.head _) with ⟨z,rfl⟩ | ⟨a,ys,rfl,ha⟩
   ·obtain⟨t',rfl⟩:=r;refine⟨λw hw=>?_,by rw[cH,cH,h2]; rfl⟩;rcases aA.mp hw with rfl | hw
    ·exact jQ z t' n t
    ·exact h1 w hw
   ·cases r;obtain⟨_,_,pa,_⟩:=I.tuple ha;refine⟨λw hw=>?_,by rw[cH,cH,h2]; rfl⟩;rcases aA.mp hw with rfl | hw
    ·exact SeqAt.EqAt.tuple_str n t pa hu
    ·exact h1 w hw
 obtain⟨h1,h2⟩:=key r ok;refine kR (eqU (.str n)) pl (λw hw=>h1 w (by simpa using hw)) ⟨.bl _,H,I,rfl,?_⟩;rw[show its.toArray.any (eqU (.str n))=its.any (eqU (.str n)) by simp,h2];exact q
end
theorem Same.seqT{K:ae}{H H':Hp}{a:af}{xs:List V}(e:Same H H')(h:SqT K H a xs):SqT K H' a xs:=by
 rcases h with (h | ⟨o,h⟩) | h
 ·exact .inl (.inl (e _ _ h))
 ·exact .inl (.inr ⟨o,e _ _ h⟩)
 ·exact .inr h
theorem Same.sq{K:ae}{H H':Hp}{l:af}{xs:List V}(s:Same H H')(h:Sq K H l xs):Sq K H' l xs:=by
 rcases h with h | h
 ·exact .inl (s.seq h)
 ·exact .inr (s.seqT h)
end L2

namespace Sea
open PySem L2
def BkL(C:af)(H:Hp)(b p l:af)(S:BS)(past later:List (Deed×BS)):Prop:=∃ dx d ps ls,BkA C H b p dx d l ps ls S past later
section
variable{H H1:Hp}
theorem BkL.to{C b p l:af}{S:BS}{past later:List (Deed×BS)}(k:BkL C H b p l S past later)(s:Sam H H1):BkL C H1 b p l S past later:=let ⟨dx,d,ps,ls,q⟩:=k;⟨dx,d,ps,ls,q.to s⟩
theorem BkL.at{C b p l:af}{S:BS}{past later:List (Deed×BS)}(k:BkL C H b p l S past later):zL5 C H b p S past later:=let ⟨dx,d,ps,ls,q⟩:=k;⟨dx,d,l,ps,ls,q⟩
end
end Sea

namespace Sea
open PySem L2
mutual
def zCd:Dt->List az
 | .int i=>[aO (toString i)]
 | .str x=>[x]
 | .tup l=>zAl l
def zAl:List Dt->List az
 | []=>[]
 | d::l=>zCd d++zAl l
end
def zH1:Nat->Dt->Prop
 | _,.int i=>i.natAbs.log2<1920
 | _,.str x=>x.length<=1921
 | 0,.tup _=>False
 | n+1,.tup l=>l.length<=900/\∀ d∈l,zH1 n d
mutual
theorem zRm:∀(n:Nat)(d:Dt),zH1 n d->∀ w∈zCd d,w.length<=1921
 | n,.int i,h,w,hw=>by
  have h:i.natAbs.log2<1920:=by cases n <;> exact h
  rw[zCd] at hw;rw[av.mp hw,eN];exact int_text_length_le (k:=1920) (by decide) h
 | n,.str x,h,w,hw=>by
  have h:x.length<=1921:=by cases n <;> exact h
  rw[zCd] at hw;rw[av.mp hw];exact h
 | 0,.tup _,h,_,_=>h.elim
 | n+1,.tup l,h,w,hw=>by
  rw[zCd] at hw;exact zHf n l h.2 w hw
theorem zHf:∀(n:Nat)(l:List Dt),(∀ d∈l,zH1 n d)->∀ w∈zAl l,w.length<=1921
 | _,[],_,w,hw=>by rw[zAl] at hw; exact nomatch hw
 | n,d::l,h,w,hw=>by
  rw[zAl] at hw;rcases aS.mp hw with z | z
  ·exact zRm n d (h d (.head _)) w z
  ·exact zHf n l (λd hd=>h d (.tail _ hd)) w z
end
mutual
def qM:Dt->List Dt
 | .int i=>[.int i]
 | .str x=>[.str x]
 | .tup l=>sU l
def sU:List Dt->List Dt
 | []=>[]
 | d::l=>qM d++sU l
end
def w1:Dt->az
 | .int i=>aO (toString i)
 | .str x=>x
 | .tup _=>nv
mutual
theorem zK7:∀ d:Dt,zCd d=(qM d).map w1
 | .int i=>by rw[zCd,qM]; rfl
 | .str x=>by rw[zCd,qM]; rfl
 | .tup l=>by rw[zCd,qM]; exact zB2 l
theorem zB2:∀ l:List Dt,zAl l=(sU l).map w1
 | []=>by rw[zAl,sU]; rfl
 | d::l=>by rw[zAl,sU,aG,zK7 d,zB2 l]
end
mutual
theorem zR9:∀(n:Nat)(d:Dt),zH1 n d->∀ e∈qM d,zH1 0 e
 | n,.int i,h,e,he=>by
  rw[qM] at he;rw[av.mp he];cases n <;> exact h
 | n,.str x,h,e,he=>by
  rw[qM] at he;rw[av.mp he];cases n <;> exact h
 | 0,.tup _,h,_,_=>h.elim
 | n+1,.tup l,h,e,he=>by
  rw[qM] at he;exact zHq n l h.2 e he
theorem zHq:∀(n:Nat)(l:List Dt),(∀ d∈l,zH1 n d)->∀ e∈sU l,zH1 0 e
 | _,[],_,e,he=>by rw[sU] at he; exact nomatch he
 | n,d::l,h,e,he=>by
  rw[sU] at he;rcases aS.mp he with z | z
  ·exact zR9 n d (h d (.head _)) e z
  ·exact zHq n l (λd hd=>h d (.tail _ hd)) e z
end
end Sea

namespace L2
open PySem PySem.Spec PyProof.Rows
section
variable{X:Cx}
def rNeDK:R2:=λx y H Q=>∃(a b:af)(kvs:List (Key×V)),x=.ref a/\y=.ref b/\Rd H a (.dK kvs)/\H b=some (.dK [])/\Q (.bl (!kvs.isEmpty)) H
theorem zYb(hu:X.A.units<cLine):OpR X (compareOp .NotEq) rNeDK:=by
 intro pins s σ H x y v u Q I rx ry h;obtain⟨a,b,kvs,rfl,rfl,ha,hb,q⟩:=h;cases rx;cases ry;obtain⟨_,na,vs,r,da⟩:=ha.ok I.hok;obtain⟨_,nb,us,r',db⟩:=(show Rd H b (.dK []) from .inl hb).ok I.hok;have e0:us=[]:=fG.mp (by rw[<- r'.length]; rfl);subst e0;have hl:=r.length;have e:(!(vs.length ==([]:List (Key×ag)).length&&true)) = !kvs.isEmpty:=by
  rw[<- hl];cases kvs <;> rfl
 refine PySem.W.keq_ne (r:=true) na nb da db hu (λz=>?_) ?_
 ·rw[fG.mp z];exact .nil
 ·rw[e];exact⟨.bl _,H,I,U,q⟩
theorem zNf:∀{xs:List V}{us:List ag},yT xs us->yT xs.reverse us.reverse
 | _,_,.nil=>.nil
 | _,_,.cons r1 r2=>by
  rw[kC,kC];exact(zNf r2).append (.cons r1 .nil)
variable{e:bx}{te:TE}{st:bx}{ts:TO}{pos p2:fh}
def tSlR(K:ae)(te:TE)(ts:TO):TE:=λσ H Q=>te σ H λx H1=>ts σ H1 λk H4 =>
 ∃ a xs,x=.ref a/\SqL K H4 a xs/\k=some (-1)/\∀ p,H4 p=none->Q (.ref p) (upd H4 p (.lst xs.reverse))
theorem zRz(he:PE X e te)(hk:PO X (some st) ts):PE X (.Subscript e (.Slice none none (some st) p2) pos) (tSlR X.K te ts):=by
 intro pins s σ H Q I h;refine jM (thn (he pins s σ H _ I h) λv s1 ⟨x,H1,I1,r1,q1⟩=>?_);refine wpAny_Slice (thn (uQ (X:=X) pins s1 σ H1 (λl H2=>l=none/\ts σ H2 _) I1 ⟨rfl,q1⟩) λvl s2 ⟨l,H2,I2,pl,l0,q2⟩=>thn (uQ (X:=X) pins s2 σ H2 (λl H2=>l=none/\ts σ H2 _) I2 ⟨rfl,q2⟩) λvu s3 ⟨u,H3,I3,pu,u0,q3⟩=>thn (hk pins s3 σ H3 _ I3 q3) λvk s4 ⟨k,H4,I4,pk,q4⟩=>?_);obtain⟨a,xs,rfl,hx,h0,q⟩:=q4;subst l0 u0 h0;cases r1;have I5:Inv X pins σ H4 { s4 with heap:=s4.heap.push { cls:=.type "slice",data:=.fields #[vl,vu,vk] } }:=I4.kept (t':=s4.toks) λb ob q=>ah _ q;obtain⟨its,r,ht,hz⟩:=I5.list hx;have hlen:=r.length;show wpAny (model X.prog X.w) X.A (subscriptTail e (.Slice none none (some st) p2) (.ref a) (.ref s4.heap.objs.size)) (EP X pins σ Q) X.xe { s4 with heap:=s4.heap.push { cls:=.type "slice",data:=.fields #[vl,vu,vk] } };refine tail_any (ops:=[.ref a,.ref s4.heap.objs.size]) ht.isList.typeIs slot_list_getitem.lookup ?_ (by with_unfolding_all rfl);refine hZ ht.isList (jN ..) pl pu pk (by decide) ?_ (by rw[aE] <;> lia);rw[PySem.W.krv_pick];refine⟨.ref _,_,I5.laid (t':=s4.toks) (o:=.lst xs.reverse) (λb ob q=>ah _ q) (am _) ?_,U,q _ (I5.hok.fresh (am _))⟩;exact⟨by rw[jy]; exact hz,its.reverse,0,zNf r,ap _ rfl⟩
end
end L2

namespace Sea
open PySem L2
theorem zTn{n:Nat}{x:az}(h:x.length<=8):zH1 n (.str x):=by
 have:x.length<=1921:=by lia
 cases n <;> exact this
theorem zCc{n:Nat}{l:List Dt}(h:l.length<=900)(g:∀ d∈l,zH1 n d):zH1 (n+1) (.tup l):=⟨h,g⟩
structure Tame(S:BS)(k:Nat):Prop where
 mk ::
 ma:∀ e∈S.marks,wC e.1
 ba:∀ e∈S.banks,wC e.1
 ru:S.runs.length<=k
 no:∀ e∈S.notes,0<=e.1/\e.1<=S.coming
 co:0<=S.coming/\S.coming<=1+k
theorem dt2{P:Dt->Prop}{a b:Dt}(h1:P a)(h2:P b):∀ d∈[a,b],P d:=λd hd=>by
 rcases aA.mp hd with rfl | hd
 ·exact h1
 ·rw[av.mp hd]; exact h2
theorem dt3{P:Dt->Prop}{a b c:Dt}(h1:P a)(h2:P b)(h3:P c):∀ d∈[a,b,c],P d:=λd hd=>by
 rcases aA.mp hd with rfl | hd
 ·exact h1
 ·exact dt2 h2 h3 d hd
theorem dt4{P:Dt->Prop}{a b c e:Dt}(h1:P a)(h2:P b)(h3:P c)(h4:P e):∀ d∈[a,b,c,e],P d:=λd hd=>by
 rcases aA.mp hd with rfl | hd
 ·exact h1
 ·exact dt3 h2 h3 h4 d hd
def Bd(S:BS)(B:Nat):Prop:=∀ e∈S.marks,e.2.1.natAbs<=B/\e.2.2.natAbs<=B
structure GrowD(S:BS)(D:Deed)(B:Nat):Prop where
 mk ::
 ok:okD S D
 bd:Bd (aft S D) (B+5)
 lo:S.marks.length<=(aft S D).marks.length
 hi:(aft S D).marks.length<=S.marks.length+1
 bk:(aft S D).banks=S.banks
theorem xX.over{φ:af->Prop}{H H1 H2:Hp}{D:af}(s:xX φ H H1)(t:xX (λx=>x=D) H1 H2)(n:H1 D=none):xX φ H H2:=λx o hx e=>by
 rcases s x o hx e with e1 | ⟨ob,kvs,e0,e1⟩
 ·exact t x o (λz=>by rw[z,n] at e1; cases e1) e1
 ·subst e0;rcases t x _ (λz=>by rw[z,n] at e1; cases e1) e1 with e2 | ⟨_,_,z,_⟩
  ·exact .inr ⟨ob,kvs,rfl,e2⟩
  ·cases z
theorem zN5{φ:af->Prop}{H H':Hp}{a:af}{o:cD}{u:HO}(s:xX φ H H')(n:¬ φ a)(e:H a=some (.frz o u)):H' a=some (.frz o u):=by
 rcases s a _ n e with z | ⟨_,_,z,_⟩
 ·exact z
 ·cases z
end Sea

namespace L2
open PySem PySem.Spec PyProof.Rows
theorem zPm{P:aK}{w:aU}{H:Hp}{h:aX}{x:af}{cls:ag}(ok:xC P w H h x (zU1 x cls)):zKh h x:=by
 obtain⟨⟨ob,vs,h1,_,_,h4,h5⟩,_⟩:=ok;exact⟨ob,vs,h1,h4,h5⟩
def Exc(H:Hp)(x:af):Prop:=∃ cls,H x=some (zU1 x cls)
section
variable{X:Cx}{pos:fh}
theorem Inv.alone{pins:List (af×cD)}{σ:St}{H:Hp}{s:ai}{x:af}(I:Inv X pins σ H s)(e:Exc H x):zKh s.heap x:=let ⟨_,h⟩:=e; zPm (I.hok x _ h)
def gTupH(K:ae)(x:af)(n:Nat)(t:TGs):TG:=λv σ H Q=>Exc H x/\gTup K n t v σ H Q
theorem zXz{es:List bx}{k:Nat}{t:TGs}{n:Nat}{x:af}(hc:X.A.handled=some (.ref x))(h:PGs X es t)
  (hn:(assignEach es X.env).length=n:=by rfl) (hst:(assignEach es X.env).findIdx? (·.1)=none:=by rfl):PG X (.Tuple es k pos) (gTupH X.K x n t):=by
 intro pins s σ H v u Q I r hw;obtain⟨ex,a,xs,e1,hq,hl,hw⟩:=hw;subst e1;cases r;obtain⟨its,rv,ht,hz⟩:=I.tuple hq;refine zIl hc (I.alone ex) ht (by simp[hn,<- hl,rv.length]) hst λh' hx=>?_;have I1:Inv X pins σ H { s with heap:=h' }:=I.kept (t':=s.toks) λb o e=>hx b o (aP (aw e)) e;exact h pins _ σ H xs _ Q I1 (by simpa using rv) hw
end
def Itx(K:ae)(a x:af):It:=⟨(Itl K a).go,(Itl K a).yld,λi H=>(Itl K a).stop i H/\Exc H x⟩
section
variable{X:Cx}{pins:List (af×cD)}{s:ai}{σ:St}{H:Hp}{a it x:af}{i:Nat}{tg:bx}{E:ag->ai->Prop}
theorem zQp{h:aX}(st:h.IsListIter it a i):∀ b∈[it],∃ o,h.get? b=some o/\∀ v,o.data≠.cell v:=λb hb=>by
 rw[av.mp hb];obtain⟨o,e,c,d⟩:=st;exact⟨o,e,λv z=>by rw[d] at z; cases z⟩
theorem zP7{h h':aX}(st:h.IsListIter it a i)(k:∀ b∈[it],∀ o,h.get? b=some o->h'.get? b=some o):h'.IsListIter it a i:=st.at λo e=>k it (by simp) o e
theorem zWy(I:Inv X pins σ H s)(hf:∀ b∈[it],zMx X pins H b)(st:s.heap.IsListIter it a i)(hg:(Itx X.K a x).go i H) :
  wpAny (model X.prog X.w) X.A (pyNext (.ref it)) (λr s1=>∃ u,r=some u /\
   wpAny (model X.prog X.w) X.A (letOwnedTupleGo tg (.ref it) u) (λ_ s2=>∃ y H',Inv X pins σ H' s2/\xD y u/\(Itx X.K a x).yld i H y H'/\s2.heap.IsListIter it a (i+1)/\∀ b∈[it],H' b=none) E s1) E s:=by
 obtain⟨xs,y,hq,hy⟩:=hg;obtain⟨its,rv,p,hz⟩:=I.list hq;obtain⟨u,hu,ru⟩:=rv.get hy;obtain⟨f0,f1,f2,f3,f4,f5⟩:=hf it (by simp);refine iw st p.isList (x:=u) (by simpa using hu) λh' st' sb=>?_;have I1:Inv X pins σ H { s with heap:=h' }:=I.turned (t':=s.toks) (λb o hb e=>(sb.2 b hb).trans e) f0 f1 f3 f4 f5;obtain⟨o,e,c,d⟩:=id st';exact⟨u,U,zPf (s:={ s with heap:=h' }) e c d (by decide) ⟨y,H,I1,ru,⟨U,λys hy'=>by rw[I.list_inj hy' hq]; exact hy⟩,st',λb hb=>(hf b hb).1⟩⟩
theorem zYt(hc:X.A.handled=some (.ref x))(I:Inv X pins σ H s)(hf:∀ b∈[it],zMx X pins H b)(st:s.heap.IsListIter it a i)(hg:(Itx X.K a x).stop i H) :
  wpAny (model X.prog X.w) X.A (pyNext (.ref it)) (λr s1=>r=none/\Inv X pins σ H s1) E s:=by
 obtain⟨⟨xs,hq,hy⟩,ex⟩:=hg;obtain⟨its,rv,p,hz⟩:=I.list hq;obtain⟨f0,f1,f2,f3,f4,f5⟩:=hf it (by simp);have hl:=rv.length;have hxi:x≠it:=λz=>by
  obtain⟨cls,e⟩:=ex;rw[z,f0] at e;cases e
 exact zG0 hc (I.alone ex) hxi st p.isList (by simp; lia) λh' eb=>⟨rfl,I.turned (t':=s.toks) (λb o hb e=>eb b o hb e) f0 f1 f3 f4 f5⟩
end
def PIH(X:Cx)(x:af)(iter:bx)(wi:TI):Prop:=∀(pins:List (af×cD))(s:ai)(σ:St)(H:Hp)(R:It->Hp->Prop),Inv X pins σ H s->wi σ H R ->
 wpAny (model X.prog X.w) X.A (eval iter X.env) (λv s1=>wpAny (model X.prog X.w) X.A (pyIter v) (λitv s2=>∃(it a:af)(H':Hp),itv=.ref it/\Inv X pins σ H' s2/\s2.heap.IsListIter it a 0/\(∀ b∈[it],zMx X pins H' b)/\R (Itx X.K a x) H') X.xe s1) X.xe s
def zY9(K:ae)(x:af)(tl:TE):TI:=λσ H R=>tl σ H λv H1=>∃ a,v=.ref a/\(∃ xs,SqL K H1 a xs)/\R (Itx K a x) H1
section
variable{X:Cx}
theorem zT2{l:bx}{tl:TE}(x:af)(hl:PE X l tl):PIH X x l (zY9 X.K x tl):=by
 intro pins s σ H R I h;refine thn (hl pins s σ H _ I h) λv s1 ⟨y,H1,I1,r1,q1⟩=>?_;obtain⟨a,e,⟨xs,hq⟩,q⟩:=q1;subst e;cases r1;obtain⟨its,rv,p,hz⟩:=I1.list hq;refine dW p.isList ?_;refine⟨s1.heap.objs.size,a,H1,U,I1.kept (t':=s1.toks) λb o e=>ah _ e,⟨_,ap _ rfl,U,U⟩,λb hb=>?_,q⟩;rw[av.mp hb];exact I1.fpOk (am _) (I1.hok.fresh (am _))
end
section
variable{X:Cx}{T:List az}{caps:List (az×Nat)}{scope:fD}{elt target iter:bx}{ifs:List bx}{pos:fh}{wi:TI}{g:CC->TG}{tt:CC->TT}{te:CC->TE}
theorem zUb{x:af}(S:zAq X caps scope)(hc:X.A.handled=some (.ref x))(hi:PIH X x iter wi)(hg:∀ c,PG (uI X (T++caps.map (·.1)) scope c) target (g c))(ht:∀ c,yd6 (uI X (T++caps.map (·.1)) scope c) ifs (tt c))(he:∀ c,PE (uI X (T++caps.map (·.1)) scope c) elt (te c))
  (hs:∀ x,foldedSetIterable iter X.env x=pure x:=by intro _; rfl):PE X (.ListComp elt [⟨target,iter,ifs,0⟩] scope pos) (ya7 T.length caps wi g tt te):=by
 intro pins s σ H Q I h;rw[eval_ListComp];refine h9 (use:=none) rfl hs (zRt S.cells) S.kind S.loc (thn (hi pins s σ H _ I h) λv s1 h1=>thn h1 λitv s2 h2=>?_);obtain⟨it,a,H2,e,I2,st2,f2,q2⟩:=h2;subst e;refine br (jg S.nocell (by intro y hy; simp at hy) (λh1 hn hsb=>?_) S.kind);dsimp only at hn hsb ⊢;generalize hg2:s2.heap.push { cls:=.type "list",dict:=none,data:=.seq ([]:List ag).toArray }=G at hn hsb ⊢;have hCv:G.objs.size=s2.heap.objs.size+1:=by rw[<- hg2,dh]
 have hDC:G.objs.size≠s2.heap.objs.size:=by rw[hCv]; exact kW _
 have hCle:s2.heap.objs.size<=G.objs.size:=by rw[hCv]; exact eg _
 have old:∀ b o,s2.heap.get? b=some o->h1.get? b=some o:=λb o e=>hsb.extBut b o (aP (aR (aw e) hCle)) (ah _ (hg2 ▸ ah _ e));have hacc:∃ n,h1.get? s2.heap.objs.size=some { cls:=.type "list",data:=.seq ([]:List ag).toArray n }:=⟨_,hsb.extBut _ _ (cz hDC) (ah _ (hg2 ▸ ap _ rfl))⟩;have hfp:∀ b∈[it],b<s2.heap.objs.size:=λb hb=>by
  obtain⟨o,e,_⟩:=zQp st2 b hb;exact aw e
 have cs:=qG (env:=X.env) scope.names [] S.cells (λ_ _ z=>by cases z);have I0:=zHk (T:=T) (tk:=s2.toks+([]:List (az×ag)).length) S I2 f2 hfp (am _) hCle hDC old hacc hn;have st0:h1.IsListIter it a 0:=zP7 st2 λb _ o e=>old b o e;obtain⟨W,⟨m0,w0⟩,turn⟩:=q2 ⟨G.objs.size,s2,H2,[it]⟩ s2.heap.objs.size (I2.hok.fresh (am _));have fr0:∀ b∈[it],upd H2 s2.heap.objs.size (.lst []) b=none:=λb hb=>by
  rw[zG (aP (hfp b hb))];exact(f2 b hb).1
 have stat:∀{H':Hp},(∀ b∈[it],H' b=none)->∀ b∈[it],zMx (uI X (T++caps.map (·.1)) scope ⟨G.objs.size,s2,H2,[it]⟩) [] H' b:=λ{H'} hn' b hb =>
  ⟨hn' b hb,aP (aR (hfp b hb) hCle),I0.ok.exfs b hb,.inl hb,λx c e=>(f2 b hb).2.2.2.2.1 x c (cs x c e),λp hp=>absurd (show p∈([]:List (af×cD)) from hp) (by simp)⟩
 have loop:codeAny (model X.prog X.w) X.A (.compLoop (.ListComp elt [⟨target,iter,ifs,0⟩] scope pos) 0 (.ref it) (.ref s2.heap.objs.size) (compEnvC scope (zCv X.env scope.names []) G.objs.size X.env))
   (compPost (model X.prog X.w) X.A X.xe none (EP X pins σ Q) (.ref s2.heap.objs.size) G.objs.size) { s2 with heap:=h1,toks:=s2.toks+([]:List (az×ag)).length }:=by
  refine codeAny_loop rfl (λn s'=>∃ i σ' ys H',Inv (uI X (T++caps.map (·.1)) scope ⟨G.objs.size,s2,H2,[it]⟩) [] σ' H' s'/\s'.heap.IsListIter it a i/\(∀ b∈[it],H' b=none)/\W i n σ' ys H') (λn s3 hI=>?_) m0 ⟨0,_,[],_,I0,st0,fr0,w0⟩;obtain⟨i,σ3,ys,H3,I3,st3,fr3,w3⟩:=hI;show wpAny _ X.A ((compTurn (.ListComp elt [⟨target,iter,ifs,0⟩] scope pos) 0 (.ref it) (.ref s2.heap.objs.size) (compEnvC scope (zCv X.env scope.names []) G.objs.size X.env)).onRaise (λx=>do noteFrame x (compEnvC scope (zCv X.env scope.names []) G.objs.size X.env); theTreesLotGoes x)) _ _ s3;refine wpAny_noted ?_;rw[compTurn_list];refine ac (fV (ac ?_));obtain⟨hD3,turn3⟩:=turn i n σ3 ys H3 w3;rcases turn3 with ⟨stop,qn⟩ | ⟨go,N,hN,step⟩
  ·refine zNr (zYt (X:=uI X (T++caps.map (·.1)) scope ⟨G.objs.size,s2,H2,[it]⟩) hc I3 (stat fr3) st3 stop) λr s4 ⟨hr,I4⟩=>?_;subst hr;refine al ?_;show ∃ m,s4.heap.Ns G.objs.size m/\∀ h',cO G.objs.size s4.heap h'->EP X pins σ Q (.ref s2.heap.objs.size) { s4 with heap:=h' };obtain⟨m4,hn4,_⟩:=I4.loc;refine⟨m4,hn4,λh' sb=>⟨.ref s2.heap.objs.size,H3,?_,U,qn⟩⟩;refine I2.call' (s':={ s4 with heap:=h' }) (ch:=[it]) I4.os (Un.same I4.base sb (fW hCle)) (HOk.same I4.hok sb I4.free) I4.bare λb hb=>?_;obtain⟨_,f1,_,f3,f4,f5⟩:=f2 b hb;exact⟨f3,f1,f4,f5⟩
  ·refine zNr (zWy (tg:=target) (X:=uI X (T++caps.map (·.1)) scope ⟨G.objs.size,s2,H2,[it]⟩) I3 (stat fr3) st3 go) λr s4 ⟨u,hr,h4⟩=>?_;subst hr;refine ac (zNr h4 λ_ s5 ⟨x,H5,I5,r5,y5,st5,fr5⟩=>?_);have I5':=I5.pinned (stat fr5) (zQp st5);refine ac (zNr (hg _ _ s5 σ3 H5 x u _ I5' r5 (step x H5 y5)) λ_ s6 ⟨σ6,H6,I6,q6⟩=>?_);have again:∀{s7:ai}{σ7:St}{zs:List V}{H7:Hp},Inv (uI X (T++caps.map (·.1)) scope ⟨G.objs.size,s2,H2,[it]⟩) ([]++zHh [it] s5.heap) σ7 H7 s7->N σ7 zs H7 ->
     ∃ m,m<n/\∃ i σ' ys H',Inv (uI X (T++caps.map (·.1)) scope ⟨G.objs.size,s2,H2,[it]⟩) [] σ' H' s7/\s7.heap.IsListIter it a i/\(∀ b∈[it],H' b=none)/\W i m σ' ys H':=λ{s7 σ7 zs H7} I7 n7=>by
    obtain⟨m',hm,w7⟩:=hN σ7 zs H7 n7;refine⟨m',hm,i+1,σ7,zs,H7,I7.unpinned,zP7 st5 λb hb o e=>(I7.pin (b,o) (aY _ (aY _ (tK hb e)))).1,λb hb=>?_,w7⟩;obtain⟨o,e,d⟩:=zQp st5 b hb;exact(I7.pin (b,o) (aY _ (aY _ (tK hb e)))).2.1
   refine ac (zNr (ht _ _ s6 σ6 H6 _ I6 q6) λok s7 ⟨H7,I7,q7⟩=>?_);cases ok with
   | false=>exact al ⟨rfl,again I7 q7⟩
   | true =>
    refine ac (ac (zNr (he _ _ s7 σ6 H7 _ I7 q7) λy s8 ⟨yv,H8,I8,r8,hD8,hl8,q8⟩=>?_));refine ac (zNr (zFo _ s8 σ6 H8 (.ref s2.heap.objs.size) [yv] (.ref s2.heap.objs.size) [y] (λ_ H9=>N σ6 (ys++[yv]) H9) I8 rfl (.cons r8 .nil) ⟨_,ys,yv,rfl,rfl,hD8,hl8,q8⟩) λ_ s9 ⟨_,H9,I9,_,q9⟩=>?_);exact al (al ⟨rfl,again I9 q9⟩)
 exact codeAny_compStart_list loop (iW st0 loop)
end
section
variable{K:ae}{a x D:af}{xs:List V}{g:TG}{tt:TT}{te:TE}{σ0:St}{H1:Hp}{Q:VK}
theorem zPp(Pv:Nat->St->List V->Hp->Prop)(h0:Pv 0 σ0 [] (upd H1 D (.lst [])))(hl:∀ i σ ys H,i<=xs.length->Pv i σ ys H->SqL K H a xs/\H D=some (.lst ys)/\Exc H x)
  (hs:∀ i x σ ys H,xs[i]?=some x->Pv i σ ys H->g x σ H λσ2 H2=>tt σ2 H2 λb H3 =>
   if b=true then te σ2 H3 λy H4=>H4 D=some (.lst ys)/\ys.length<sizeLine/\Pv (i+1) σ2 (ys++[y]) (upd H4 D (.lst (ys++[y]))) else Pv (i+1) σ2 ys H3)
  (hd:∀ σ ys H,Pv xs.length σ ys H->Q (.ref D) H):zDd (Itx K a x) D g tt te σ0 H1 Q:=by
 exists λi m σ ys H=>m=xs.length-i/\i<=xs.length/\Pv i σ ys H,⟨xs.length,by simp,bw _,h0⟩;rintro i m σ ys H ⟨rfl,hi,p⟩;obtain⟨q,qd,qx⟩:=hl i σ ys H hi p;exists qd;by_cases hlt:i<xs.length
 ·refine .inr ⟨⟨xs,xs[i],q,by simp[hlt]⟩,Pv (i+1),λσ' zs H' z=>⟨xs.length-(i+1),by lia,rfl,hlt,z⟩,λx H' y=>?_⟩;obtain⟨e,y⟩:=y;subst e;exact hs i x σ ys _ (y xs q) p
 ·have e:i=xs.length:=by lia
  subst e;exact .inl ⟨⟨⟨xs,q,am _⟩,qx⟩,hd σ ys H p⟩
end
section
variable{X:Cx}{pins:List (af×cD)}{σ:St}{H:Hp}{s:ai}
theorem Inv.stir(I:Inv X pins σ H s){A:bI}(hf:A.frames=X.A.frames):Inv { X with A:=A,calm:=false,xe:=λ_ _=>False } pins σ H s :=
 ⟨⟨I.ok.mod,I.ok.kind,I.ok.glob,I.ok.blt,I.ok.above,I.ok.inj,I.ok.has,I.ok.cab,λz=>(nomatch z),hf.trans I.ok.frames,I.ok.stk,I.ok.exf,I.ok.bs,I.ok.bsz,I.ok.noex,I.ok.exfs,I.ok.funs,I.ok.frf⟩,I.os,I.bare,I.base,I.loc,I.cell,I.free,I.freeC,I.pin,I.hok,I.len⟩
end
abbrev zTj(A:bI):bI:={ A with handled:=none }
abbrev cxH(P:aK)(w:aU)(K:ae)(mg:az->Option ag)(base:aX)(N:List az)(qual:az)(scope:fD)(f:af)(cd:ag)(A:bI)(outer:List gq)(s:ai)(H:Hp):Cx :=
 { cxOf CX0 P w K mg base N qual scope f cd A outer s H E0 with calm:=false,xe:=λ_ _=>False }
structure zTt(P:aK)(w:aU)(K:ae)(mg:az->Option ag)(base:aX)(k:Nat)(f:af)(fd:bT)(ps:List az)(sp:af->Sp):Prop where
 mk ::
 len:∀ x vs H Q E,sp x vs H Q E->vs.length=ps.length
 run:∀(x:af)(A:bI)(outer:List gq)(s:ai)(H:Hp)(args:Args)(us:List ag)(vs:List V)(Q:VK),A.handled=some (.ref x)->rZ k (zTj A)->zUt P w K mg base A outer s H->iz s fd args (ps.zip us)->yT vs us->sp x vs H Q E0 ->
  codeAny (model P w) A (.call (.ref f) args) (CR CX0 outer P w H s Q E0) s
section
variable{P:aK}{w:aU}{K:ae}{mg:az->Option ag}{base:aX}
theorem Fun.okH{x qual:az}{st:bP}{f:af}{fd:bT}{N ps:List az}{k:Nat}{sp:af->Sp}(F:Fun K x qual st f fd)(S:zR N ps (zI st))(len:∀ x vs H Q E,sp x vs H Q E->vs.length=ps.length)
  (hbody:∀(x:af)(cdv:ag)(A:bI)(outer:List gq)(s:ai)(H:Hp)(vs:List V)(Q:VK),A.handled=some (.ref x)->rZ k ((zTj A).deeper (envOfC qual (zI st) s.heap.objs.size f cdv))->sp x vs H Q E0 ->
   ∃ t,PSs (cxH P w K mg base N qual (zI st) f cdv A outer s H) (xH st) t/\t { nx:=λ_ H'=>Q .non H',rt:=Q } (start N vs) H):zTt P w K mg base (k+1) f fd ps sp:=by
 obtain⟨oc,od,kV,doc,pm,an,cdv,ct,osl,rfl,lk,hcd⟩:=F.ex;refine⟨len,λx A outer s H args us vs Q hx hr e0 hb r hsp=>?_⟩;have hl:=len _ _ _ _ _ hsp;have KX:K.In s.heap:=e0.mod.kin.keeps λb o e=>(e0.bs b o e).1;have lim:s.heap.NoLimit:=e0.mod.nolimit.keeps λb o e=>(e0.bs b o e).1;have hkind:∀ y∈ps.zip us,(zI st).names.lookup y.1=some .local\/((zI st).names.lookup y.1=some .cell/\((cellsFrom (s.heap.objs.size+1) (zI st).names []).lookup y.1).isSome=true):=λ⟨n,v⟩ hy=>by
  rcases S.par n (f9 hy).1 with q | q
  ·exact .inl q
  ·exact .inr ⟨q,fI _ _ _ (.inl q)⟩
 refine codeAny_call_function (show A.depth<recursionLimit from hr.depth) (KX _ _ lk) rfl S.co S.gen rfl (jK KX hcd) (hb _ _ _ _ ?_);refine gP S.kind hkind λenv he s1 x1=>?_;subst he;refine⟨lim.keeps x1.toInCall.keep,codeAny_func ?_⟩;obtain⟨t,ht,hq⟩:=hbody x cdv A outer s H vs Q hx (hr.deeper _) hsp;have e1:zUt P w K mg base (zTj A) outer s H:=⟨e0.frames,e0.mod,e0.bs,e0.bsz,e0.funs,e0.frf,e0.hok,e0.bare⟩;have I0:Inv (cxOf CX0 P w K mg base N qual (zI st) f cdv (zTj A) outer s H E0) [] (start N vs) H s1:=zKn S rfl e1 hl r x1;have I:Inv (cxH P w K mg base N qual (zI st) f cdv A outer s H) [] (start N vs) H s1:=I0.stir rfl;refine cX (ht [] s1 (start N vs) H _ I hq) (λfl s' hs=>?_) λ_ _ z=>bF z;have fin:∀{σ':St}{H':Hp}{v:V}{u:ag},Inv (cxH P w K mg base N qual (zI st) f cdv A outer s H) [] σ' H' s'->xD v u->Q v H'->CE outer P w H s Q u s' :=
  λ{σ' H' v u} J rv q=>⟨v,H',J.os,J.bare,J.base,J.hok,rv,q⟩
 cases fl with
 | ret u =>
  obtain⟨v,σ',H',J,rv,q⟩:=hs;exact fin J rv q
 | next =>
  obtain⟨σ',H',J,q⟩:=hs;exact fin (v:=V.non) (u:=bp) J rfl q
 | brk =>
  obtain⟨_,_,_,q⟩:=hs;exact bF q
 | cont =>
  obtain⟨_,_,_,q⟩:=hs;exact bF q
end
def ye3(P:aK)(w:aU)(K:ae)(mg:az->Option ag)(base:aX)(x:az)(n:Nat)(ps:List az)(sp:af->Sp):Prop :=
 ∃(f:af)(fd:bT),zTt P w K mg base n f fd ps sp/\zCe K fd ps []/\b9 K (.ref f)=true/\mg x=some (.ref f)
section
variable{X:Cx}{x:az}{p pos:fh}{e:bx}{es:List bx}{t:TA}{n:Nat}{ps:List az}{sp:af->Sp}
theorem zUm{ea:af}(h:ye3 X.prog X.w X.K X.mg X.base x n ps sp)(hr:rZ n X.A)(hg:Gl X x)(ha:PA (X.hd (.ref ea)) (e::es) t)(hdb:(x ==("__debug__" : az))=false:=by decide)
  (he:starEach (e::es) X.env=(false,eval e X.env)::starEach es X.env:=by rfl) (hpl:(backTo pos (starEach es X.env)).any (·.1)=false:=by rfl):PE (X.hd (.ref ea)) (.Call (.Name x p) (e::es) [] pos) (zPs (sp ea) [] E0 t):=by
 obtain⟨f,fd,F,hb,hk,hm⟩:=h;intro pins s σ H Q I h;refine cY (tQ I hg hm ?_ hdb);refine dF (h₀:=X.base) I.ok.mod.kin hk (thn (ha pos pins s σ H _ I h) λus s1 ⟨vs,H1,I1,r,q⟩=>⟨I1.kIn,?_⟩) he hpl;have q:sp ea (vs++[]) H1 Q E0:=q;rw[du] at q;have hl:us.length=ps.length:=by rw[<- r.length]; exact F.len _ _ _ _ _ q
 have hb':=hb s1 us I1.kIn (by rw[du]; exact hl);rw[du] at hb';refine gO (codeAny_mono (F.run ea (X.hd (.ref ea)).A X.stack s1 H1 ⟨us,[]⟩ us vs Q rfl ⟨rfl,hr.dp,hr.un,hr.gd⟩ I1.env0 hb' r q) λr s' hq=>?_);cases r with
 | error e=>exact bF hq
 | ok fl =>
  cases fl with
  | ret u=>exact I1.after hq
  | next=>exact bF hq
  | brk=>exact bF hq
  | cont=>exact bF hq
end
end L2
namespace L2
open PySem PySem.Spec PyProof.Rows PySem.W
def ye8(K:ae)(D:af):Bool :=
 (findIn K (.ref D) "__getattribute__" == some (some (.builtin "BaseException.__getattribute__")))&&(findIn K (.ref D) "__getattr__" == some none) &&
 (match findObj K D none "__class__" with | some (.bind g a)=>g == .builtin "getset_descriptor.__get__" && a == .builtin "object.__class__" | _=>false) &&
 (mroIn K D (.type "BaseException") == some true)&&(mroIn K D (.type "object") == some true)
theorem zXf{K:ae}{D:af}(h:ye8 K D=true):zF9 K D:=by
 unfold ye8 at h;simp only[be] at h;obtain⟨⟨⟨⟨h1,h2⟩,h3⟩,h4⟩,h5⟩:=h;refine⟨eq_of_beq h1,eq_of_beq h2,?_,eq_of_beq h4,eq_of_beq h5⟩;split at h3
 ·rename_i g a e
  rw[be] at h3;rw[e,eq_of_beq h3.1,eq_of_beq h3.2]
 ·cases h3
def zYy(K:ae)(Ds:List af):Bool:=Ds.all λD=>ye8 K D&&(kitOne K (.ref D) (.type "ValueError") == some true)&&Ds.all λc=>kitOne K (.ref D) (.ref c) == some (D == c)
section
variable{K:ae}{Ds:List af}{D c:af}
theorem zN0(h:zYy K Ds=true)(hD:D∈Ds):zF9 K D:=by
 have:=aT.mp h D hD;simp only[be] at this;exact zXf this.1.1
theorem zT1(h:zYy K Ds=true)(hD:D∈Ds):kitOne K (.ref D) (.type "ValueError")=some true:=by
 have:=aT.mp h D hD;simp only[be] at this;exact eq_of_beq this.1.2
theorem zT9(h:zYy K Ds=true)(hD:D∈Ds)(hc:c∈Ds):kitOne K (.ref D) (.ref c)=some (D == c):=by
 have:=aT.mp h D hD;simp only[be] at this;exact eq_of_beq (aT.mp this.2 c hc)
end
end L2

namespace Sea
open PySem L2 PySem.Spec
open PyProof.Rows hiding St
mutual
def pd:Dt->PyData
 | .int i=>.int i
 | .str x=>.str x
 | .tup l=>.tuple (pds l)
def pds:List Dt->List PyData
 | []=>[]
 | d::l=>pd d::pds l
end
mutual
def shB:Dt->Nat
 | .int i=>i.natAbs.log2+3
 | .str x=>10*x.length+2
 | .tup l=>zPy l+4
def zPy:List Dt->Nat
 | []=>0
 | d::l=>shB d+2+zPy l
end
mutual
def okS:Dt->Prop
 | .int i=>i.natAbs.log2<1920
 | .str x=>∀ c∈x.cps.toList,c<16^8
 | .tup l=>zGv l
def zGv:List Dt->Prop
 | []=>True
 | d::l=>okS d/\zGv l
end
theorem zKs(ts:List az):(tupleText ts).length<=piled ts+4:=by
 unfold tupleText;rw[strLen_append,strLen_append];have h1:("(" : az).length=1:=rfl;have h2:(aO (if ts.length == 1 then ",)" else ")")).length<=2:=by split <;> decide
 have h3:(il ", " ts).length<=piled ts:=by
  by_cases z:ts=[]
  ·subst z; decide
  ·have:=join_length_add ts z; lia
 lia
mutual
theorem zOj:∀ d:Dt,okS d->(pd d).shown.length<=shB d
 | .int i,h=>by
  rw[okS] at h;rw[pd,shB,kE];have:=int_text_length_le (k:=i.natAbs.log2+1) (by lia) (ij i.natAbs.log2);rw[<- eN] at this;lia
 | .str x,h=>by
  rw[okS] at h;rw[pd,shB,kE];exact jk x h
 | .tup l,h=>by
  rw[okS] at h;rw[pd,shB,kE];have:=zKs (gj (pds l));have:=zKq l h;lia
theorem zKq:∀ l:List Dt,zGv l->piled (gj (pds l))<=zPy l
 | [],_=>by rw[pds,gj,zPy]; decide
 | d::l,h=>by
  rw[zGv] at h;rw[pds,gj,zPy,piled_cons];have:=zOj d h.1;have:=zKq l h.2;lia
end
mutual
theorem zNh:∀ d:Dt,okS d->(pd d).showable=true
 | .int i,h=>by rw[okS] at h; rw[pd,iS]; exact decide_eq_true h
 | .str x,_=>by rw[pd,iS]
 | .tup l,h=>by rw[okS] at h; rw[pd,iS]; exact zLi l h
theorem zLi:∀ l:List Dt,zGv l->gT (pds l)=true
 | [],_=>by rw[pds,gT]
 | d::l,h=>by rw[zGv] at h; rw[pds,gT,zNh d h.1,zLi l h.2]; rfl
end
mutual
theorem zSf:∀ d:Dt,(pd d).hasDict=false
 | .int i=>by rw[pd,jl]
 | .str x=>by rw[pd,jl]
 | .tup l=>by rw[pd,jl]; exact zNw l
theorem zNw:∀ l:List Dt,hW (pds l)=false
 | []=>by rw[pds,hW]
 | d::l=>by rw[pds,hW,zSf d,zNw l]; rfl
end
theorem zFr{n:Nat} : ∀ l:List Dt,(∀ d∈l,(pd d).depth<=n)->iT (pds l)<=n
 | [],_=>by rw[pds,iT]; exact bw _
 | d::l,h=>by
  rw[pds,iT];have:=h d (.head _);have:=zFr l λd hd=>h d (.tail _ hd);lia
theorem zOa:∀(n:Nat)(d:Dt),zH1 n d->(pd d).depth<=n
 | n,.int i,_=>by rw[pd,kF]; exact bw _
 | n,.str x,_=>by rw[pd,kF]; exact bw _
 | 0,.tup _,h=>h.elim
 | n+1,.tup l,h=>by
  rw[pd,kF];have:=zFr (n:=n) l λd hd=>zOa n d (h.2 d hd);lia
section
variable{X:Cx}{pins:List (af×cD)}{σ:St}{H:Hp}{s:ai}
mutual
theorem zNk(I:Inv X pins σ H s):∀(d:Dt){v:V}{u:ag},Rep H d v->xD v u->∃ as,Reads s.heap u (pd d) as
 | .int i,v,u,h,r=>by
  rw[yB.mp h] at r;obtain⟨t,rfl⟩:=(show ∃ t,u=dP i t from r);rw[pd];exact⟨_,.int i t⟩
 | .str x,v,u,h,r=>by
  rw[zY.mp h] at r;obtain⟨t,rfl⟩:=(show ∃ t,u=cF x t from r);rw[pd];exact⟨_,.str x t⟩
 | .tup l,v,u,h,r=>by
  obtain⟨a,xs,rfl,ha,rs⟩:=yJ.mp h;obtain rfl:u=aI a:=r;obtain⟨its,rv,⟨o,h1,h2,n,h3⟩,hz⟩:=I.tuple (SqT.of ha);obtain⟨as,ra⟩:=zKc I l rs rv;rw[pd];exact⟨_,.tuple h1 h2 h3 (by simpa using ra)⟩
theorem zKc(I:Inv X pins σ H s):∀(l:List Dt){xs:List V}{us:List ag},wG H l xs->yT xs us->∃ as,ReadsAll s.heap us (pds l) as
 | [],xs,us,h,r=>by
  rw[yH.mp h] at r;cases r;rw[pds];exact⟨_,.nil⟩
 | d::l,xs,us,h,r=>by
  obtain⟨x,xr,rfl,h1,h2⟩:=zK.mp h;cases r with
  | cons r1 r2 =>
   obtain⟨as,ra⟩:=zNk I d h1 r1;obtain⟨bs,rb⟩:=zKc I l h2 r2;rw[pds];exact⟨_,.cons ra rb⟩
end
end
section
variable{X:Cx}{e:bx}{es:List bx}{t:TJ}{te:TE}{pos p:fh}{n:Nat}
def zZp(te:TE)(t:TJ):TJ:=λσ H K=>te σ H λv H1=>(∃ d,Rep H1 d v/\okS d/\zH1 4 d/\shB d<=2000)/\t σ H1 K
theorem zJy(hg:X.A.guards=some [])(hu:X.A.units+64<cLine)(hv:PE X e te)(ht:PJ X es n t)(he:evalEach (.FormattedValue e (-1) none p::es) X.env=eval (.FormattedValue e (-1) none p) X.env::evalEach es X.env:=by rfl):PJ X (.FormattedValue e (-1) none p::es) (n+1) (zZp te t):=by
 intro pins s σ H k acc Q C I h hk q z;rw[he];refine gS (thn (hv pins s σ H _ I q) λu s1 ⟨v,H1,I1,r,⟨d,rd,ok,sh,hb⟩,q1⟩=>?_);have hl:=zOj d ok;have fin:∀(y:az)(s2:ai)(t':nV),y.length<=2000->Inv X pins σ H1 s2->∃ y' t,cF y t'=.str y' t/\(acc++y').length<=sizeLine/\Joins (model X.prog X.w) X.A X.xe (evalEach es X.env) (acc++y') Q s2:=λy s2 t' hy I2 =>
  ⟨y,t',rfl,by rw[strLen_append]; show acc.length+y.length<=2^24; lia,ht pins s2 σ H1 (k+1) _ _ C I2 (by rw[strLen_append]; lia) (by lia) q1 z⟩
 match d,rd,ok,hl with
 | .int i,rd,ok,hl =>
  rw[yB.mp rd] at r;obtain⟨tk,rfl⟩:=(show ∃ t,u=dP i t from r);rw[okS] at ok;have l:=int_text_length_le (k:=1920) (by decide) ok;rw[<- eN] at l;exact i0 ok (fin _ _ _ (by lia) (I1.tok _))
 | .str x,rd,ok,hl =>
  rw[zY.mp rd] at r;obtain⟨tk,rfl⟩:=(show ∃ t,u=cF x t from r);rw[shB] at hb;exact formatField_str (λt' tk'=>fin x _ t' (by lia) (I1.tok _)) (by show x.length<=2^24; lia)
 | .tup l,rd,ok,hl =>
  obtain⟨as,ra⟩:=zNk I1 _ rd r;obtain⟨a,xs,rfl,_⟩:=yJ.mp rd;obtain rfl:u=aI a:=r;have dl:=zOa 4 _ sh;refine formatField_of_reads ra (zNh _ ok) (λz=>by rw[zSf] at z; cases z) hg (by lia) (λ_ _ e=>e) (λh' u tk hk=>?_) (by show _<=2^24; lia);exact fin _ _ _ (by lia) (I1.kept (t':=tk) hk)
def yb6(te:TE)(t:TJ):TJ:=λσ H K=>te σ H λv H1=>(∃ x:az,v=.str x/\(∀ c∈x.cps.toList,c<16^8)/\x.length<=190)/\t σ H1 K
theorem zM9(hv:PE X e te)(ht:PJ X es n t)(he:evalEach (.FormattedValue e 114 none p::es) X.env=eval (.FormattedValue e 114 none p) X.env::evalEach es X.env:=by rfl):PJ X (.FormattedValue e 114 none p::es) (n+1) (yb6 te t):=by
 intro pins s σ H k acc Q C I h hk q z;rw[he];refine wpAny_FormattedValue_repr (thn (hv pins s σ H _ I q) λu s1 ⟨v,H1,I1,r,⟨x,ex,cx,lx⟩,q1⟩=>?_);subst ex;obtain⟨tk,rfl⟩:=(show ∃ t,u=cF x t from r);have hl:=jk x cx;refine wpAny_pyReprObj_str ?_ (by show _<=2^24; lia);refine formatField_str (λt' tk'=>?_) (by show _<=2^24; lia);exact⟨_,t',U,by rw[strLen_append]; show acc.length+_<=2^24; lia,ht pins _ σ H1 (k+1) _ _ C (I1.tok _) (by rw[strLen_append]; lia) (by lia) q1 z⟩
end
end Sea
namespace L2
open PySem PySem.Spec PyProof.Rows
section
variable{X:Cx}{x y:az}{p pos:fh}{i e:bx}{es:List bx}{ty:TE}{t:TA}
structure zVq(P:aK)(w:aU)(K:ae)(mg:az->Option ag)(B:aX)(m:Nat)(kvs:List (Key×V))(k:Key)(sp:Sp):Prop where
 mk ::
 has:∃(x:az)(f:af)(n:Nat)(ps:List az),wF kvs k=some (.ref f)/\mg x=some (.ref f)/\qW P w K mg B x n ps sp/\n<=m
def tTabX(tab:List (Key×Sp))(EE:St->XK)(ty:TE)(t:TA):TE:=λσ H Q=>ty σ H λy H1=>∃(k:Key)(sp:Sp),y=kV k/\(k,sp)∈tab/\t σ H1 λvs H2=>sp vs H2 Q (EE σ)
theorem zXu(EE:St->XK){a:af}{m:Nat}{kvs:List (Key×V)}{tab:List (Key×Sp)}{p':fh}(hb:zYz X.prog X.w X.base a kvs)(hm:X.mg x=some (.ref a))(hT:∀ r∈tab,zVq X.prog X.w X.K X.mg X.base m kvs r.1 r.2)(hx:zPn X EE)(hr:rZ m X.A)(hi:PE X i ty)(ha:PA X (e::es) t)
  (hs:yd9 i:=by exact λ_ _=>rfl) (hg:Gl X x:=by rfl) (hd:(x ==("__debug__" : az))=false:=by decide)
  (he:starEach (e::es) X.env=(false,eval e X.env)::starEach es X.env:=by rfl) (hpl:(backTo pos (starEach es X.env)).any (·.1)=false:=by rfl)
  (hev:eval (.Call (.Subscript (.Name x p) i p') (e::es) [] pos) X.env=(do callWith pos (<- eval (.Subscript (.Name x p) i p') X.env) [] (backTo pos (starEach (e::es) X.env)) (backToKw pos (keywordEach [] X.env))):=by rfl) :
  PE X (.Call (.Subscript (.Name x p) i p') (e::es) [] pos) (tTabX tab EE ty t):=by
 intro pins s σ H Q I h;refine Call_ (zMj ff.lookup hs (tQ I hg hm (thn (hi pins s σ H _ I h) λiv s2 ⟨y,H2,I2,ry,k,sp,ey,mem,q2⟩=>?_) hd)) hev;subst ey;obtain⟨x',f,n,ps,l,mx,⟨f',fd,F,b,kp,mx'⟩,hn⟩:=(hT _ mem).has;rw[mx] at mx';cases mx';refine zVj hb I2 l ry λw' s3 I3 rw'=>?_;cases rw';refine dF (h₀:=X.base) I.ok.mod.kin kp (thn (ha pos pins s3 σ H2 _ I3 q2) λus s4 ⟨vs,H4,I4,r,q4⟩=>⟨I4.kIn,?_⟩) he hpl;exact zL8 F (hr.mono hn) b hx I4 r q4
end
section
variable{X:Cx}
theorem zUh:OpR X (compareOp .In) (λx y H Q=>∃ i j:az,x=.str i/\y=.str j/\Q (.bl !(ir j i 0 j.length 1).isEmpty) H):=by
 intro pins s σ H x y v u Q I rx ry h;obtain⟨i,j,rfl,rfl,q⟩:=h;obtain⟨t,rfl⟩:=rx;obtain⟨t',rfl⟩:=ry;exact PySem.P.in_str (yU I q rfl)
theorem yb9:∀ c<128,(!(ir ("abcdefghijklmnopqrstuvwxyz" : az) ⟨#[c]⟩ 0 ("abcdefghijklmnopqrstuvwxyz" : az).length 1).isEmpty)=decide (97<=c/\c<=122):=by decide +kernel
end
end L2

namespace Sea
open PySem L2
inductive Cl where
 | badName | taken | badPlace | full | noMark | same | needed | badBank | noBank | badRun | noRun | noMoment | badWay | badTurn | noNote
 deriving DecidableEq
open Classical in
noncomputable def zU(S:BS):Deed->Option Cl
 | .mark n x y=>if ¬ wC n then some .badName else if (zP S n).isSome=true then some .taken else if ¬ zDy (x,y) then some .badPlace else if 20<=S.marks.length then some .full else none
 | .move n x y=>if zP S n=none then some .noMark else if ¬ zDy (x,y) then some .badPlace else if ∀ e∈S.notes,zC6 (aft S (.move n x y)) e.2 then none else some .same
 | .unmark n=>if zP S n=none then some .noMark else if ∀ e∈S.notes,rT n e.2 then none else some .needed
 | .bank n cs=>if ¬ wC n then some .badName else if n∈S.banks.map (·.1) then some .taken else if ¬ ∀ c∈cs,zDy c then some .badPlace else if zPz cs=false then some .badBank else if 8<=S.banks.length then some .full else none
 | .level n=>if n∈S.banks.map (·.1) then none else some .noBank
 | .sail x y=>if ¬ zDy (x,y) then some .badRun else if 12<=S.runs.length then some .full else none
 | .right k x y=>if 0<=k/\k<S.runs.length then(if zDy (x,y) then none else some .badRun) else some .noRun
 | .bearing m n a b c d=>if ¬ (0<=m/\m<=S.runs.length) then some .noMoment else if zP S n=none then some .noMark else if ¬ zDc (a,b) then some .badWay else if ¬ zDc (c,d) then some .badWay else if a*d-b*c<=0 then some .badTurn else if 24<=S.notes.length then some .full else none
 | .range m l r=>if ¬ (0<=m/\m<=S.runs.length) then some .noMoment else if zP S l=none then some .noMark else if zP S r=none then some .noMark else if zP S l=zP S r then some .same else if 24<=S.notes.length then some .full else none
 | .strike k=>if k∈S.notes.map (·.1) then none else some .noNote
theorem zAz{α:Type}{o:Option α}(h:¬ o=none):o.isSome=true:=by cases o <;> simp at h ⊢
theorem zOe{S:BS}{D:Deed}(h:zU S D=none):okD S D:=by
 cases D with
 | mark n x y =>
  simp only[zU] at h;split at h; · cases h
  split at h; · cases h
  split at h; · cases h
  split at h; · cases h
  rename_i h1 h2 h3 h4
  exact⟨ar.mp h1,by cases e:zP S n <;> simp[e] at h2 ⊢,ar.mp h3,by lia⟩
 | move n x y =>
  simp only[zU] at h;split at h; · cases h
  split at h; · cases h
  split at h
  ·rename_i h1 h2 h3; exact⟨zAz h1,ar.mp h2,h3⟩
  ·cases h
 | unmark n =>
  simp only[zU] at h;split at h; · cases h
  split at h
  ·rename_i h1 h2; exact⟨zAz h1,h2⟩
  ·cases h
 | bank n cs =>
  simp only[zU] at h;split at h; · cases h
  split at h; · cases h
  split at h; · cases h
  split at h; · cases h
  split at h; · cases h
  rename_i h1 h2 h3 h4 h5
  exact⟨ar.mp h1,h2,ar.mp h3,by cases e:zPz cs <;> simp[e] at h4 ⊢,by lia⟩
 | level n =>
  simp only[zU] at h;split at h
  ·rename_i h1; exact h1
  ·cases h
 | sail x y =>
  simp only[zU] at h;split at h; · cases h
  split at h; · cases h
  rename_i h1 h2
  exact⟨ar.mp h1,by lia⟩
 | right k x y =>
  simp only[zU] at h;split at h
  ·split at h
   ·rename_i h1 h2; exact⟨h1.1,h1.2,h2⟩
   ·cases h
  ·cases h
 | bearing m n a b c d =>
  simp only[zU] at h;split at h; · cases h
  split at h; · cases h
  split at h; · cases h
  split at h; · cases h
  split at h; · cases h
  split at h; · cases h
  rename_i h1 h2 h3 h4 h5 h6
  have h1:=ar.mp h1;exact⟨h1.1,h1.2,zAz h2,ar.mp h3,ar.mp h4,by lia,by lia⟩
 | range m l r =>
  simp only[zU] at h;split at h; · cases h
  split at h; · cases h
  split at h; · cases h
  split at h; · cases h
  split at h; · cases h
  rename_i h1 h2 h3 h4 h5
  have h1:=ar.mp h1;exact⟨h1.1,h1.2,zAz h2,zAz h3,h4,by lia⟩
 | strike k =>
  simp only[zU] at h;split at h
  ·rename_i h1; exact h1
  ·cases h
def zNa(ok:Prop)(Q:VK)(E:XK)(c:af)(H:Hp):Prop:=(ok/\∀ H',Same H H'->Q .non H')\/(¬ ok/\∀ H',Same H H'->E (.ref c) none H')
section
variable{ok:Prop}{Q:VK}{E:XK}{c:af}{H H':Hp}
theorem zNa.yes(h:zNa ok Q E c H)(o:ok)(s:Same H H'):Q .non H':=by
 rcases h with ⟨_,h⟩ | ⟨n,_⟩
 ·exact h H' s
 ·exact absurd o n
theorem zNa.no(h:zNa ok Q E c H)(o:¬ ok)(s:Same H H'):E (.ref c) none H':=by
 rcases h with ⟨y,_⟩ | ⟨_,h⟩
 ·exact absurd y o
 ·exact h H' s
theorem zNa.of(h1:ok->∀ H',Same H H'->Q .non H')(h2:¬ ok->∀ H',Same H H'->E (.ref c) none H'):zNa ok Q E c H:=by
 by_cases o:ok
 ·exact .inl ⟨o,h1 o⟩
 ·exact .inr ⟨o,h2 o⟩
end
def zFd(x:az):Prop:=(∀ c∈x.cps.toList,c<128)/\x.length<=50
theorem zFd.big{x:az}(h:zFd x):∀ c∈x.cps.toList,c<16^8:=λc hc=>de (h.1 c hc) (by decide)
theorem wC.asc{x:az}(h:wC x):zFd x:=⟨λc hc=>by have:=h.2.2 c hc; lia,by have:=h.2.1; lia⟩
def qZ(i:Int):Prop:=i.natAbs.log2<200
theorem zF7{p:Int×Int}(h1:qZ p.1)(h2:qZ p.2):okS (ptD p)/\zH1 4 (ptD p)/\shB (ptD p)<=2000:=by
 unfold qZ at h1 h2;refine⟨?_,zCc (by show 2<=900; decide) (dt2 (by show _<1920; lia) (by show _<1920; lia)),?_⟩
 ·unfold ptD;rw[okS,zGv,zGv,zGv,okS,okS];exact⟨by lia,by lia,trivial⟩
 ·unfold ptD;rw[shB,zPy,zPy,zPy,shB,shB];lia
def zIn:Deed->Prop
 | .mark n x y=>zFd n/\qZ x/\qZ y
 | .move n x y=>zFd n/\qZ x/\qZ y
 | .unmark n=>zFd n
 | .bank n cs=>zFd n/\cs.length<=12/\∀ c∈cs,c.1.natAbs.log2<20/\c.2.natAbs.log2<20
 | .level n=>zFd n
 | .sail x y=>qZ x/\qZ y
 | .right k x y=>qZ k/\qZ x/\qZ y
 | .bearing m n a b c d=>qZ m/\zFd n/\qZ a/\qZ b/\qZ c/\qZ d
 | .range m l r=>qZ m/\zFd l/\zFd r
 | .strike k=>qZ k
theorem zJ7{m:Int}{n:az}{a b c d:Int}(h:zIn (.bearing m n a b c d)):okS (Deed.bearing m n a b c d).dt/\zH1 4 (Deed.bearing m n a b c d).dt/\shB (Deed.bearing m n a b c d).dt<=2000:=by
 obtain⟨h1,h2,h3,h4,h5,h6⟩:=h;obtain⟨s1,s2,_⟩:=zF7 (p:=(a,b)) h3 h4;obtain⟨s4,s5,_⟩:=zF7 (p:=(c,d)) h5 h6;unfold qZ at h1 h3 h4 h5 h6;have l7:(aO "bearing").length=7:=rfl;refine⟨?_,?_,?_⟩
 ·unfold Deed.dt;rw[okS,zGv,zGv,zGv,zGv,zGv,zGv,okS,okS,okS];exact⟨by decide,by lia,h2.big,s1,s4,trivial⟩
 ·unfold Deed.dt;refine zCc (aQ rfl) λe he=>?_;rcases aA.mp he with rfl | he
  ·exact zTn (by decide)
  ·have p3:∀{p:Int×Int},p.1.natAbs.log2<200->p.2.natAbs.log2<200->zH1 3 (ptD p):=λ{p} h1 h2=>zCc (n:=2) (by show 2<=900; decide) (dt2 (by show _<1920; lia) (by show _<1920; lia));exact dt4 (P:=zH1 3) (by show _<1920; lia) (by show _<=1921; have:=h2.2; lia) (p3 h3 h4) (p3 h5 h6) e he
 ·unfold Deed.dt ptD;simp only[shB,zPy];have:=h2.2;lia
theorem zLf{cs:List (Int×Int)}(hl:cs.length<=12)(h:∀ c∈cs,c.1.natAbs.log2<20/\c.2.natAbs.log2<20):okS (.tup (cs.map ptD))/\zH1 4 (.tup (cs.map ptD))/\shB (.tup (cs.map ptD))<=2000:=by
 have k1:∀ l:List (Int×Int),(∀ c∈l,c.1.natAbs.log2<20/\c.2.natAbs.log2<20)->zGv (l.map ptD)/\zPy (l.map ptD)<=l.length*60:=by
  intro l
  induction l with
  | nil=>intro _; rw[eA,zGv,zPy]; exact⟨trivial,bw _⟩
  | cons c l ih =>
   intro h;obtain⟨i1,i2⟩:=ih λc hc=>h c (.tail _ hc);obtain⟨c1,c2⟩:=h c (.head _);have e1:okS (ptD c):=by
    unfold ptD;rw[okS,zGv,zGv,zGv,okS,okS];exact⟨by lia,by lia,trivial⟩
   have e2:shB (ptD c)<=58:=by
    unfold ptD;simp only[shB,zPy];lia
   rw[aN,zGv,zPy,aW];exact⟨⟨e1,i1⟩,by lia⟩
 obtain⟨g1,g2⟩:=k1 cs h;refine⟨by rw[okS]; exact g1,zCc (by rw[aa]; lia) λd hd=>?_,by rw[shB]; lia⟩;obtain⟨c,hc,rfl⟩:=aF.mp hd;obtain⟨c1,c2⟩:=h c hc;exact zCc (n:=2) (by show 2<=900; decide) (dt2 (by show _<1920; lia) (by show _<1920; lia))
structure zL3(S:BS):Prop where
 mk ::
 good:zY2 S
 names:∀ e∈S.marks,wC e.1
theorem zL3.nil:zL3 BS.nil:=⟨zUn,λe he=>(nomatch he)⟩
theorem zL3.mark{S:BS}{n:az}(h:zL3 S)(k:(zP S n).isSome=true):wC n:=by
 obtain⟨p,e⟩:=aL.mp k;exact h.names _ (zHm e)
theorem zL3.aft{S:BS}{D:Deed}(h:zL3 S)(ok:okD S D):zL3 (aft S D):=by
 exists zUq h.good ok
 match D,ok with
 | .mark n x y,ok =>
  intro e he;rcases aS.mp he with z | z
  ·exact h.names e z
  ·rw[av.mp z]; exact ok.1
 | .move n x y,ok =>
  intro e he;obtain⟨e',h1,rfl⟩:=aF.mp he;have:=h.names e' h1;split <;> exact this
 | .unmark n,ok=>exact λe he=>h.names e (dQ.mp he).1
 | .bank n cs,ok=>exact h.names
 | .level n,ok=>exact h.names
 | .sail x y,ok=>exact h.names
 | .right j x y,ok=>exact h.names
 | .bearing m n a b c d,ok=>exact h.names
 | .range m l r,ok=>exact h.names
 | .strike j,ok=>exact h.names
def zF3(ax:Cl->af)(φ:Deed->Prop):Sp:=λvs H Q E=>∃(d:af)(v:V)(S:BS)(D:Deed),vs=[.ref d,v]/\φ D/\zNu H d S/\Rep H D.dt v/\zIn D/\zL3 S /\
 (zU S D=none->∀(d':af)(H':Hp),Sam H H'->H d'=none->zNu H' d' (aft S D)->Q (.ref d') H')/\∀ c,zU S D=some c->∀ H',Sam H H'->E (.ref (ax c)) none H'
section
variable{H:Hp}{S:BS}{kvs:List (Key×V)}
theorem zQq{n:az}(h:xM H kvs (mkE S.marks)):wF kvs (.inr n)=none↔zP S n=none:=by
 have e:=h.isSome (k:=.inr n);rw[wN,cb] at e;cases h1:wF kvs (.inr n) <;> cases h2:zP S n <;> simp[h1,h2] at e ⊢
theorem zDn{n:az}(h:xM H kvs (bkE S.banks)):wF kvs (.inr n)=none↔n ∉ S.banks.map (·.1):=by
 by_cases z:n∈S.banks.map (·.1)
 ·obtain⟨dv,lk⟩:=zWb (l:=S.banks) z;obtain⟨v,ev,_⟩:=h.get lk;simp[ev,z]
 ·simp[h.none (zEq (zH8 z)),z]
theorem zMo{k:Int}(h:xM H kvs (ntE S.notes)):wF kvs (.inl k)=none↔k ∉ S.notes.map (·.1):=by
 by_cases z:k∈S.notes.map (·.1)
 ·obtain⟨dv,lk⟩:=zOo (l:=S.notes) z;obtain⟨v,ev,_⟩:=h.get lk;simp[ev,z]
 ·refine⟨λ_=>z,λ_=>h.none (zEq λe he y=>z ?_)⟩;unfold ntE at he;obtain⟨q,hq,rfl⟩:=aF.mp he;have y:(d7 q.1:Key)=d7 k:=y;injection y with y
  exact aF.mpr ⟨q,hq,y⟩
theorem zQi{k:Int}(h:xM H kvs (rnE S.runs)):wF kvs (.inl k)=none↔¬ (0<=k/\k<S.runs.length):=by
 by_cases z:0<=k/\k<S.runs.length
 ·obtain⟨i,rfl⟩:=cy z.1;have hi:i<S.runs.length:=by lia
  have lk:=zJd (k:=0) (aj hi);rw[iG] at lk;obtain⟨v,ev,_⟩:=h.get lk;exact⟨(λy=>by rw[ev] at y; cases y),λy=>absurd z y⟩
 ·refine⟨λ_=>z,λ_=>h.none (zEq λe he y=>z ?_)⟩;unfold rnE at he;obtain⟨⟨q1,q2⟩,hq,rfl⟩:=aF.mp he;have y:(d7 (q2:Int):Key)=d7 k:=y;injection y with y
  have:=gX hq;simp at this;lia
end
structure zGq(H:Hp)(ts:List af)(ws:List (az×Bool)):Prop where
 mk ::
 len:ts.length=ws.length
 at_:∀(j:Nat)(t:af)(w:az×Bool),ts[j]?=some t->ws[j]?=some w->H t=some (.tup [.str w.1,.bl w.2])
theorem zGq.nil{H:Hp} : zGq H [] []:=⟨rfl,λj t w h=>by simp at h⟩
theorem zGq.to{H H':Hp}{ts:List af}{ws:List (az×Bool)}(h:zGq H ts ws)(s:Same H H'):zGq H' ts ws:=⟨h.len,λj t w a b=>s _ _ (h.at_ j t w a b)⟩
theorem xT{B:aX}{Ds:List af}{D C:af}(h:InB B λK=>zYy K Ds=true)(hD:D∈Ds)(hC:C∈Ds):InB B λK=>cP K (.ref D) (.ref C)=some (D == C)/\zF9 K D:=by
 obtain⟨K,KB,h⟩:=h;exact⟨K,KB,zT9 h hD hC,zN0 h hD⟩
theorem zX5{B:aX}{Ds:List af}{D:af}(h:InB B λK=>zYy K Ds=true)(hD:D∈Ds):InB B λK=>cP K (.ref D) (.type "ValueError")=some true/\zF9 K D:=by
 obtain⟨K,KB,h⟩:=h;exact⟨K,KB,zT1 h hD,zN0 h hD⟩
def zK1:Cl->az
 | .badName => "BadName"
 | .taken => "Taken"
 | .badPlace => "BadPlace"
 | .full => "Full"
 | .noMark => "NoMark"
 | .same => "Same"
 | .needed => "Needed"
 | .badBank => "BadBank"
 | .noBank => "NoBank"
 | .badRun => "BadRun"
 | .noRun => "NoRun"
 | .noMoment => "NoMoment"
 | .badWay => "BadWay"
 | .badTurn => "BadTurn"
 | .noNote => "NoNote"
def zF4:Option Cl->az
 | none => ""
 | some c=>zK1 c
def zM0(S:BS)(D:Deed):V:=if S.coming=(aft S D).coming then .non else .int S.coming
end Sea

namespace PySem.W
open PySem PySem.Calls PyProof.Rows
def KasT.run{α:Type}(f:Nat->Nat->Bool):lZ α->α
 | .ret a=>a
 | .ask i j k=>(k (f i j)).run f
def KasT.Okay{α:Type}(n:Nat)(Q:α->Prop):lZ α->Prop
 | .ret a=>Q a
 | .ask i j k=>i<n/\j<n/\i≠j/\∀ b,(k b).Okay n Q
section
variable{α β:Type}{n:Nat}{f:Nat->Nat->Bool}{cmp:Nat->Nat->(Bool->ai->Prop)->ai->Prop}{s:ai}
theorem KasT.Okay.bind{g:α->lZ β}{Q:β->Prop} : ∀{t:lZ α},t.Okay n (λa=>(g a).Okay n Q)->(t.bind g).Okay n Q
 | .ret _,h=>h
 | .ask _ _ _,⟨h1,h2,h3,h4⟩=>⟨h1,h2,h3,λb=>KasT.Okay.bind (h4 b)⟩
theorem KasT.Okay.end{Q:α->Prop} : ∀{t:lZ α},t.Okay n Q->Q (t.run f)
 | .ret _,h=>h
 | .ask i j k,⟨_,_,_,h4⟩=>show Q ((k (f i j)).run f) from KasT.Okay.end (h4 (f i j))
theorem KasT.Okay.wp{Q:α->Prop}{R:α->ai->Prop}(hc:∀ i j,i<n->j<n->i≠j->∀ C:Bool->ai->Prop,C (f i j) s->cmp i j C s):∀{t:lZ α},t.Okay n Q->R (t.run f) s->t.kasWp cmp R s
 | .ret _,_,h=>h
 | .ask i j k,⟨h1,h2,h3,h4⟩,h=>hc i j h1 h2 h3 _ (KasT.Okay.wp hc (h4 (f i j)) h)
def IsP(n:Nat)(p:Array Nat):Prop:=p.toList.Perm (bv n)
variable{p:Array Nat}
theorem IsP.size(h:IsP n p):p.size=n:=by have:=h.length_eq; rw[dn,bM] at this; exact this
theorem IsP.lt(h:IsP n p){i:Nat}(hi:i<n):p.getD i 0<n:=by
 have hs:=h.size;have:p[i]'(by lia)∈p.toList:=by simp
 rw[mf,dif_pos (by lia)];exact bg.mp (h.mem_iff.mp this)
theorem IsP.ne(h:IsP n p){i j:Nat}(hi:i<n)(hj:j<n)(ne:i≠j):p.getD i 0≠p.getD j 0:=λz=>by
 have hs:=h.size;have nd:p.toList.Nodup:=h.nodup_iff.mpr lv;rw[mf,dif_pos (by lia),mf,dif_pos (by lia)] at z;refine ne ((ii (xs:=p.toList) (h₀:=by simpa using (by lia:i<p.size)) (h₁:=by simpa using (by lia:j<p.size)) nd).mp ?_);simpa using z
theorem IsP.of(h:IsP n p){q:Array Nat}(e:q.Perm p):IsP n q:=(Array.perm_iff_toList_perm.mp e).trans h
theorem IsP.rev(h:IsP n p)(i j:Nat):IsP n (kas_rev p i j):=h.of (mirror_perm _ _ _ _)
theorem IsP.ask(h:IsP n p){i j:Nat}(hi:i<n)(hj:j<n)(ne:i≠j){k:Bool->lZ α}{Q:α->Prop}(hk:∀ b,(k b).Okay n Q):(KasT.ask (p.getD i 0) (p.getD j 0) k).Okay n Q:=⟨h.lt hi,h.lt hj,h.ne hi hj ne,hk⟩
theorem zSe(h:IsP n p){Q:Nat->Prop} : ∀(f m:Nat),1<=m->m+f<=n->(∀ m',m<=m'->m'<=m+f->Q m')->(kas_asc p f m).Okay n Q
 | 0,m,_,_,q=>q m (am _) (am _)
 | f+1,m,h1,h2,q=>h.ask (by lia) (by lia) (by lia) λb=>by
  cases b
  ·exact zSe h f (m+1) (by lia) (by lia) λm' a b=>q m' (by lia) (by lia)
  ·exact q m (am _) (by lia)
theorem zIi{Q:Array Nat×Nat×Nat->Prop} : ∀(f:Nat)(p:Array Nat)(m r:Nat),IsP n p->1<=m->m+f<=n->(∀ p' m' r',IsP n p'->m<=m'->m'<=m+f->Q (p',m',r'))->(kas_desc f p m r).Okay n Q
 | 0,p,m,r,h,_,_,q=>q p m r h (am _) (am _)
 | f+1,p,m,r,h,h1,h2,q=>h.ask (by lia) (by lia) (by lia) λb=>by
  have q':∀ p' m' r',IsP n p'->m+1<=m'->m'<=m+1+f->Q (p',m',r'):=λp' m' r' a b c=>q p' m' r' a (by lia) (by lia);cases b
  ·exact h.ask (by lia) (by lia) (by lia) λd=>by
    cases d
    ·exact zIi f p (m+1) _ h (by lia) (by lia) q'
    ·exact q p m r h (am _) (by lia)
  ·show(if r>0 then _ else _:lZ _).Okay n Q;split
   ·exact zIi f _ (m+1) _ (h.rev _ _) (by lia) (by lia) q'
   ·exact zIi f p (m+1) _ h (by lia) (by lia) q'
theorem zNt(h:IsP n p){Q:Nat×Array Nat->Prop}{m:Nat}(h1:1<=m)(h2:m<=n)(q:∀ m' p',IsP n p'->Q (m',p')):(kas_tail3 m n p).Okay n Q :=
 .bind (zSe (h.rev _ _) _ _ h1 (by lia) λm' _ _=>q m' _ (h.rev _ _))
theorem zQ9(h:IsP n p){Q:Nat×Array Nat->Prop}{m:Nat}(h1:1<=m)(h2:m+1<=n)(q:∀ m' p',IsP n p'->Q (m',p')):(kas_descPart m n p).Okay n Q:=by
 refine .bind (zIi _ _ _ _ h (by lia) (by lia) λp' m' r' a b c=>?_);show(if r'>0 then _ else _:lZ _).Okay n Q;split
 ·exact zNt (m:=m') (a.rev _ _) (by lia) (by lia) q
 ·exact zNt (m:=m') a (by lia) (by lia) q
theorem zTk(h:IsP n p)(hn:2<=n){Q:Nat×Array Nat->Prop}(q:∀ m' p',IsP n p'->Q (m',p')):(kas_count n p).Okay n Q:=by
 refine .bind (zSe h _ _ (am _) (by lia) λm' a b=>?_);show(if (m' == n)=true then _ else if m'>1 then _ else _:lZ _).Okay n Q;split
 ·exact q _ _ h
 ·rename_i z
  have z:m'≠n:=λe=>z (by simp[e]);split
  ·exact h.ask (by lia) (by lia) (by lia) λb=>by
    cases b
    ·exact zQ9 (h.rev _ _) (by lia) (by lia) q
    ·exact q _ _ h
  ·exact zQ9 h (by lia) (by lia) q
theorem zIx(h:IsP n p){k:Nat}(hk:k<n){Q:Nat->Prop}(q:∀ l,Q l):∀(f l r:Nat),r<=k->(kas_place p k f l r).Okay n Q
 | 0,l,r,_=>q l
 | f+1,l,r,hr=>by
  show(if l >= r then _ else _:lZ _).Okay n Q;split
  ·exact q l
  ·rename_i z
   exact h.ask hk (by lia) (by lia) λb=>by
    cases b
    ·exact zIx h hk q f _ _ hr
    ·exact zIx h hk q f _ _ (by lia)
theorem zVr{Q:Array Nat->Prop}(q:∀ p,IsP n p->Q p):∀(f:Nat)(p:Array Nat)(k:Nat),IsP n p->k+f<=n->(kas_bin f p k).Okay n Q
 | 0,p,_,h,_=>q p h
 | f+1,p,k,h,hk=>.bind (zIx h (by lia) (λl=>zVr q f _ _ (h.of (bubble_perm _ _ _)) (by lia)) _ _ _ (am _))
theorem zR0(hn:2<=n):(kas_sort n).Okay n (IsP n):=by
 refine .bind (zTk (show IsP n (au (bv n)) from .refl _) hn λm' p' h=>?_);show(if m'<n then _ else _:lZ _).Okay n (IsP n);split
 ·exact zVr (λp h=>h) _ _ _ h (by lia)
 ·exact h
def zP1(n:Nat)(f:Nat->Nat->Bool):List Nat:=if n<2 then bv n else((kas_sort n).run f).toList
theorem zGh(n:Nat)(f:Nat->Nat->Bool):(zP1 n f).Perm (bv n):=by
 unfold zP1;split
 ·exact .refl _
 ·exact(zR0 (by lia)).end
end
end PySem.W
namespace L2
open PySem PySem.Spec PyProof.Rows PySem.W
section
variable{prog:aK}{w:aU}{A:bI}{E:ag->ai->Prop}{s:ai}
theorem zDv{f:Nat->Nat->Bool}{a:af}{vs:List ag}{n:Nat}{P:PySem.Fin->ai->Prop}(ho:s.heap.get? a=some (seqObj "list" vs.toArray n))(h64:vs.length<64)
  (hk:∀ h':aX,(∀ b o,b≠a->s.heap.get? b=some o->h'.get? b=some o)->2<=vs.length->∃ κ:kG,(∀ Q:kG->ai->Prop,Q κ { s with heap:=h' }->wpAny (model prog w) A (keyKind' vs.toArray) Q E { s with heap:=h' }) /\
   ∀ i j,i<vs.length->j<vs.length->i≠j->∀ C:Bool->ai->Prop,C (f i j) { s with heap:=h' }->kas_ask prog w A κ vs i j C { s with heap:=h' })
  (h:∀(h':aX)(c:Nat),(∀ b o,b≠a->s.heap.get? b=some o->h'.get? b=some o)->h'.get? a=some (seqObj "list" ((zP1 vs.length f).map λi=>vs.getD i bp).toArray c)->P (.done (.ret .none)) { s with heap:=h' }) :
  wpAny (model prog w) A (eZ.«list.sort» ⟨[.ref a],[]⟩) P E s:=by
 have ha:a<s.heap.objs.size:=aw ho;obtain⟨e1,ho1⟩:∃ e1,(s.heap.update a (bO λ_=>(#[]:Array ag))).get? a=some (seqObj "list" #[] e1):=⟨_,get?_update_seq ho λ_=>#[]⟩;rw[list_sort_plain];refine ac (listItems_at ho rfl ?_);refine ac (listUpdate_at ho rfl ?_ (by rw[aE,sizeLine_eq]; lia) (bw _));refine ac (seqEpoch_at ho1 rfl ?_);refine ac (wpAny_newTuple ?_ (by show vs.length<=_; rw[sizeLine_eq]; lia));refine ac (jE ?_ (bw _));refine ce ?_;have ho6:(((s.heap.update a (bO λ_=>#[])).push (seqObj "tuple" vs.toArray 0)).push (seqObj "list" #[] 0)).get? a=some (seqObj "list" #[] e1):=ah _ (ah _ ho1);have kp:∀ b o,b≠a->s.heap.get? b=some o->(((s.heap.update a (bO λ_=>#[])).push (seqObj "tuple" vs.toArray 0)).push (seqObj "list" #[] 0)).get? b=some o:=λb o hb e =>
  ah _ (ah _ ((aZ _ _ (cz hb)).trans e))
 obtain⟨out,eo⟩:∃ out,out=(zP1 vs.length f).map λi=>vs.getD i bp:=⟨_,rfl⟩;have lo:out.length=vs.length:=by rw[eo,aa,(zGh vs.length f).length_eq,dn]
 rw[<- eo] at h;have fin:∀ c,(((((s.heap.update a (bO λ_=>#[])).push (seqObj "tuple" vs.toArray 0)).push (seqObj "list" #[] 0)).update a (bO λ_=>out.toArray))).get? a=some (seqObj "list" out.toArray c)->P (.done (.ret .none)) { s with heap:=((((s.heap.update a (bO λ_=>#[])).push (seqObj "tuple" vs.toArray 0)).push (seqObj "list" #[] 0)).update a (bO λ_=>out.toArray)) }:=λc e =>
  h _ c (λb o hb q=>(aZ _ _ (cz hb)).trans (kp b o hb q)) e
 obtain⟨c2,hc2⟩:∃ c2,(((((s.heap.update a (bO λ_=>#[])).push (seqObj "tuple" vs.toArray 0)).push (seqObj "list" #[] 0)).update a (bO λ_=>out.toArray))).get? a=some (seqObj "list" out.toArray c2):=⟨_,get?_update_seq ho6 λ_=>out.toArray⟩;have done:=fin c2 hc2;show wpAny (model prog w) A _ P E { s with heap:=((s.heap.update a (bO λ_=>#[])).push (seqObj "tuple" vs.toArray 0)).push (seqObj "list" #[] 0) };dsimp only;have hsz:vs.toArray.size=vs.length:=by simp
 by_cases h2:vs.toArray.size<2
 ·rw[if_pos h2,if_pos h2];refine ac (al ?_);rw[StateT.run_pure];refine ac (al ?_);dsimp only;have ev:out=vs:=by
   rw[eo];unfold zP1;rw[if_pos (by lia)];refine ip (by simp) λi h1 h3=>?_;simp at h1;simp[h1]
  have em:(vs.toArray.zip vs.toArray).map (·.2)=out.toArray:=by
   rw[ev];apply Array.toList_inj.mp;simp;exact lA (am _)
  refine ac (seqEpoch_at ho6 rfl ?_);refine ac (listUpdate_at ho6 rfl ?_ (hsz2:=by rw[Array.size_map]; show(pairsOf vs).size<=_; rw[pairsOf_size,sizeLine_eq]; lia));simp only[bne_self_eq_false,cL,if_false];refine al ?_;show P _ { s with heap:=Heap.update _ a (bO λ_=>(vs.toArray.zip vs.toArray).map (·.2)) };rw[em];exact done
 ·rw[if_neg h2,if_neg h2];have h2':2<=vs.length:=by lia
  obtain⟨κ,hκ,hlt⟩:=hk _ kp h2';refine ac (hκ _ ?_);refine ac (cX (kat_run (s:={ s with heap:=((s.heap.update a (bO λ_=>#[])).push (seqObj "tuple" vs.toArray 0)).push (seqObj "list" #[] 0) }) (κ:=κ) (ks:=vs) (vs:=vs)
   (G:=λp s'=>p=(kas_sort vs.length).run f/\s'={ s with heap:=((s.heap.update a (bO λ_=>#[])).push (seqObj "tuple" vs.toArray 0)).push (seqObj "list" #[] 0) })
   (Q:=λst' s'=>(arrOf st').map (·.2)=out.toArray/\failedOf st'=none/\s'={ s with heap:=((s.heap.update a (bO λ_=>#[])).push (seqObj "tuple" vs.toArray 0)).push (seqObj "list" #[] 0) })
   rfl h2' h64 (λp' st' s' a1 a2 a3 ⟨a4,a5⟩=>⟨?_,a3,a5⟩) ((zR0 h2').wp hlt ⟨rfl,rfl⟩)) ?_ λ_ _ e=>e)
  ·rw[kat_snds rfl a2,a4,eo];unfold zP1;rw[if_neg (by lia)]
  rintro⟨⟨⟩,st'⟩ s' ⟨hp,hf,rfl⟩;dsimp only;refine ac (seqEpoch_at ho6 rfl ?_);refine ac (listUpdate_at ho6 rfl ?_ (hsz2:=by rw[hp,aE,lo,sizeLine_eq]; lia));rw[hf,hp];simp only[bne_self_eq_false,cL,if_false];exact al done
end
def ltK:Key->Key->Bool
 | .inl a,.inl b=>decide (a<b)
 | .inr a,.inr b=>decide (a.cps.toList<b.cps.toList)
 | _,_=>false
def vX(ks:List Key):List Nat:=zP1 ks.length λi j=>ltK (ks.getD i (.inl 0)) (ks.getD j (.inl 0))
def vG{α:Type}(o:List Nat)(l:List α):List α:=o.filterMap λi=>l[i]?
theorem zB5{α β:Type}(o:List Nat)(g:α->β)(l:List α):vG o (l.map g)=(vG o l).map g:=by
 unfold vG;rw[List.map_filterMap]
 congr 1
 funext i
 rw[ak]
theorem zAr{α:Type}{d:α}{l:List α} : ∀{o:List Nat},(∀ i∈o,i<l.length)->o.map (λi=>l.getD i d)=vG o l
 | [],_=>rfl
 | i::o,h=>by
  have hi:=h i (.head _);have e:l[i]?=some l[i]:=aj hi;unfold vG;rw[aN,cr e,zAr λj hj=>h j (.tail _ hj),bz,e];rfl
theorem zB9{α:Type}{l:List α}{o:List Nat}(h:∀ i∈o,i<l.length):(vG o l).length=o.length:=by
 cases l with
 | nil=>cases o with
  | nil=>rfl
  | cons i o=>exact absurd (h i (.head _)) (fw _)
 | cons x l=>rw[<- zAr (d:=x) h,aa]
theorem zAv{ks:List Key} : ∀ i∈vX ks,i<ks.length:=λi hi=>bg.mp ((zGh _ _).mem_iff.mp hi)
theorem zAo{ks:List Key} : (vX ks).length=ks.length:=by unfold vX; rw[(zGh _ _).length_eq,dn]
theorem zE9{α:Type}{l:List α}{o:List Nat}{x:α}(h:x∈vG o l):x∈l:=by
 obtain⟨i,_,e⟩:=fA.mp h;exact aJ e
def zZo(ks:List Key):Prop:=(∃ ns:List Int,ks=ns.map .inl)\/∃ ns:List az,ks=ns.map .inr
def yf0(h:aX)(v:ag)(k:Key):Prop:=∃(a:af)(o:cD)(n:Nat)(p:ag)(r:List ag),v=.ref a/\h.get? a=some o/\o.cls=.type "tuple" /\ o.data=.seq (p::r).toArray n/\xD (kV k) p
section
open PySem.W
variable{prog:aK}{w:aU}{A:bI}{E:ag->ai->Prop}{s:ai}{vs:List ag}{ks:List Key}
theorem zKe{h:aX} : ∀{vs:List ag}{ks:List Key},vs.length=ks.length->(∀(j:Nat)(v:ag)(k:Key),vs[j]?=some v->ks[j]?=some k->yf0 h v k)->∃ fs,KatTups h vs fs/\fs.length=ks.length/\∀ v∈fs,∃ k∈ks,xD (kV k) v
 | [],[],_,_=>⟨[],.nil,rfl,λv hv=>nomatch hv⟩
 | [],_::_,hl,_=>by simp at hl
 | _::_,[],hl,_=>by simp at hl
 | v::vs,k::ks,hl,hh=>by
  obtain⟨a,o,n,p,r,rfl,e,c,d,rp⟩:=hh 0 v k rfl rfl;obtain⟨fs,t,l,f⟩:=zKe (vs:=vs) (ks:=ks) (by simpa using hl) λj b m h1 h2=>hh (j+1) b m (by simpa using h1) (by simpa using h2);refine⟨p::fs,.cons e c d rfl t,by simp[l],λv hv=>?_⟩;rcases aA.mp hv with rfl | hv
  ·exact⟨k,.head _,rp⟩
  ·obtain⟨k',hk,h⟩:=f v hv;exact⟨k',.tail _ hk,h⟩
theorem zLm(hl:vs.length=ks.length)(hT:∀ (j:Nat) (v:ag) (k:Key),vs[j]?=some v->ks[j]?=some k->yf0 s.heap v k)(one:zZo ks)(nd:ks.Nodup)(h2:2<=vs.length) :
  (∀ Q:kG->ai->Prop,Q (tuples' true) s->wpAny (model prog w) A (keyKind' vs.toArray) Q E s)/\∀ i j,i<vs.length->j<vs.length->i≠j->∀ C:Bool->ai->Prop,C (ltK (ks.getD i (.inl 0)) (ks.getD j (.inl 0))) s->kas_ask prog w A (tuples' true) vs i j C s:=by
 constructor
 ·intro Q hq;obtain⟨fs,t,l,f⟩:=zKe hl hT;rcases one with ⟨ns,rfl⟩ | ⟨ns,rfl⟩
  ·refine kat_kind (T:=.type "int") t (by lia) (λv hv=>?_) (by decide) hq;obtain⟨k,hk,r⟩:=f v hv;obtain⟨n,_,rfl⟩:=aF.mp hk;obtain⟨tk,rfl⟩:=(show ∃ tk,v=dP n tk from r);exact .now
  ·refine kat_kind (T:=.type "str") t (by lia) (λv hv=>?_) (by decide) hq;obtain⟨k,hk,r⟩:=f v hv;obtain⟨n,_,rfl⟩:=aF.mp hk;obtain⟨tk,rfl⟩:=(show ∃ tk,v=cF n tk from r);exact .now
 ·intro i j hi hj ne C hC;have vi:vs[i]?=some vs[i]:=aj hi;have vj:vs[j]?=some vs[j]:=aj hj;have ki:ks[i]?=some (ks[i]'(by lia)):=aj (by lia);have kj:ks[j]?=some (ks[j]'(by lia)):=aj (by lia);have nk:ks[i]'(by lia)≠ks[j]'(by lia):=λz=>ne ((ii nd).mp z);unfold kas_ask;rw[bz,bz,vi,vj];rw[bz,bz,ki,kj] at hC;obtain⟨a,o,n,p,r,e1,h1,_,d1,r1⟩:=hT i _ _ vi ki;obtain⟨a',o',n',p',r',e2,h2',_,d2,r2⟩:=hT j _ _ vj kj;show wpAny (model prog w) A (keyLt' (tuples' true) vs[i] vs[j]) C _ s;rw[e1,e2]
  replace hC:C (ltK (ks[i]'(by lia)) (ks[j]'(by lia))) s:=hC
  generalize ks[i]'(by lia)=k1 at *;generalize ks[j]'(by lia)=k2 at *;have m1:=aJ ki;have m2:=aJ kj;rcases one with ⟨ns,rfl⟩ | ⟨ns,rfl⟩
  ·obtain⟨x,_,rfl⟩:=aF.mp m1;obtain⟨y,_,rfl⟩:=aF.mp m2;obtain⟨tk,rfl⟩:=(show ∃ tk,p=dP x tk from r1);obtain⟨tk',rfl⟩:=(show ∃ tk,p'=dP y tk from r2);refine kat_lt h1 d1 h2' d2 (kat_cons (kK ?_));rw[show(x == y)=false from beq_eq_false_iff_ne.mpr λz=>nk (by rw[z])];exact kat_no (oneLt_int hC)
  ·obtain⟨x,_,rfl⟩:=aF.mp m1;obtain⟨y,_,rfl⟩:=aF.mp m2;obtain⟨tk,rfl⟩:=(show ∃ tk,p=cF x tk from r1);obtain⟨tk',rfl⟩:=(show ∃ tk,p'=cF y tk from r2);refine kat_lt h1 d1 h2' d2 (kat_cons (kL ?_));rw[show decide (x=y)=false from decide_eq_false λz=>nk (by rw[z])];exact kat_no (oneLt_str hC)
end
section
variable{prog:aK}{w:aU}{A:bI}{E:ag->ai->Prop}{s:ai}
def AskF(prog:aK)(w:aU)(s:ai)(vs:List ag)(f:Nat->Nat->Bool):Prop :=
 ∃ κ:kG,∀(A:bI)(E:ag->ai->Prop),(∀ Q:kG->ai->Prop,Q κ s->wpAny (model prog w) A (keyKind' vs.toArray) Q E s)/\∀ i j,i<vs.length->j<vs.length->i≠j->∀ C:Bool->ai->Prop,C (f i j) s->kas_ask prog w A κ vs i j C s
theorem zJv{f:Nat->Nat->Bool}{l:af}{vs:List ag}{Q:ag->ai->Prop}(hl:s.heap.IsList l vs.toArray)(h64:vs.length<64)
  (hk:∀ h':aX,(∀ b o,s.heap.get? b=some o->h'.get? b=some o)->2<=vs.length->AskF prog w { s with heap:=h' } vs f)
  (h:∀(h':aX)(c:Nat),(∀ b o,s.heap.get? b=some o->h'.get? b=some o)->h'.get? (s.heap.objs.size+1)=some (seqObj "list" ((zP1 vs.length f).map λi=>vs.getD i bp).toArray c)->Q (.ref (s.heap.objs.size+1)) { s with heap:=h' }) :
  wpAny (model prog w) A (call (.builtin "sorted") [.ref l]) Q E s:=by
 refine gZ kind_sorted plain_sorted entry_sorted (args_sorted1 _) ?_;unfold eZ.«sorted»;refine ac (m:=checkCount "sorted" 1 1 _) (al ?_);refine ac (collect_list hl ?_ (by rw[sizeLine_eq]; lia));refine ac (jE ?_ (by rw[sizeLine_eq]; lia));have hsz:((s.heap.push (seqObj "list" #[] 0)).update s.heap.objs.size (bO (· ++ vs.toArray))).objs.size=s.heap.objs.size+1:=by
  rw[Heap.size_update,size_push']
 have hoL:(((s.heap.push (seqObj "list" #[] 0)).update s.heap.objs.size (bO (· ++ vs.toArray))).push (seqObj "list" vs.toArray 0)).get? (s.heap.objs.size+1)=some (seqObj "list" vs.toArray 0):=by
  rw[<- hsz]; exact ap _ rfl
 have keep:∀ b o,s.heap.get? b=some o->(((s.heap.push (seqObj "list" #[] 0)).update s.heap.objs.size (bO (· ++ vs.toArray))).push (seqObj "list" vs.toArray 0)).get? b=some o:=λb o q=>by
  have hlt:b<s.heap.objs.size:=aw q;rw[kH _ _ _ (by rw[hsz]; exact aP (kI hlt)),Heap.get?_update_ne _ _ _ _ (aP hlt),kH _ _ _ (aP hlt)];exact q
 have kp:∀ h':aX,(∀ b o,b≠s.heap.objs.size+1->(((s.heap.push (seqObj "list" #[] 0)).update s.heap.objs.size (bO (· ++ vs.toArray))).push (seqObj "list" vs.toArray 0)).get? b=some o->h'.get? b=some o)->∀ b o,s.heap.get? b=some o->h'.get? b=some o:=λh' k b o e=>k b o (aP (kI (aw e))) (keep b o e);show wpAny _ _ _ _ _ { s with heap:=((s.heap.push (seqObj "list" #[] 0)).update s.heap.objs.size (bO (· ++ vs.toArray))).push (seqObj "list" vs.toArray 0) };rw[hsz];refine ac (ce (bU slot_list_sort ⟨_,hoL,rfl⟩ entry_list_sort ?body (args_list_sort _)))
 case body =>
  refine zDv (f:=f) (s:={ s with heap:=((s.heap.push (seqObj "list" #[] 0)).update s.heap.objs.size (bO (· ++ vs.toArray))).push (seqObj "list" vs.toArray 0) }) hoL h64 (λh2 k2 two=>?_) λh2 c k2 e2=>⟨_,rfl,al ⟨_,rfl,h h2 c (kp h2 k2) e2⟩⟩;obtain⟨κ,hκ⟩:=hk h2 (kp h2 k2) two;exact⟨κ,hκ _ _⟩
end
theorem zOb:∀{xs:List V}{us:List ag}{j:Nat}{v:V},yT xs us->xs[j]?=some v->∃ u,us[j]?=some u/\xD v u
 | _,_,_,_,.nil,e=>by simp at e
 | _,_,0,_,.cons r _,e=>by simp at e; subst e; exact⟨_,U,r⟩
 | _,_,j+1,_,.cons _ r,e=>by
  obtain⟨u,h1,h2⟩:=zOb (j:=j) r (by simpa using e);exact⟨u,by simpa using h1,h2⟩
section
variable{X:Cx}
theorem zAd:uL X (.builtin "sorted") (λxs H Q=>∃(l:af)(ts:List (af×Key×List V)),xs=[.ref l]/\SqL X.K H l ((ts.map (·.1)).map V.ref)/\(∀ t∈ts,H t.1=some (.tup (kV t.2.1::t.2.2)))/\ts.length<64/\zZo (ts.map (·.2.1))/\(ts.map (·.2.1)).Nodup /\
  ∀ p:af,H p=none->Q (.ref p) (upd H p (.lst ((vG (vX (ts.map (·.2.1))) (ts.map (·.1))).map V.ref)))):=by
 intro pins s σ H xs us Q I r h;obtain⟨l,ts,rfl,hq,hts,h64,one,nd,q⟩:=h;obtain⟨u,rfl,ru⟩:=yT.one r;cases ru;obtain⟨its,rv,pl,hz⟩:=I.list hq;have ei:=zSi rv;subst ei;have ll:((ts.map (·.1)).map aI).length=(ts.map (·.2.1)).length:=by simp
 have hT:∀ h':aX,(∀ b o,s.heap.get? b=some o->h'.get? b=some o)->∀(j:Nat)(v:ag)(k:Key),((ts.map (·.1)).map aI)[j]?=some v->(ts.map (·.2.1))[j]?=some k->yf0 h' v k:=λh' keep j v k e1 e2=>by
  rw[bD,ak,aH] at e1;obtain⟨t,et,rfl⟩:=e1;rw[ak,et] at e2;cases e2;obtain⟨its,r1,⟨o,e,c,n,d⟩,_⟩:=I.tuple (SqT.of (hts t (aJ et)));cases r1 with
  | cons r1 r2=>exact⟨t.1,o,n,_,_,U,keep _ _ e,c,d,r1⟩
 refine zJv (f:=λi j=>ltK ((ts.map (·.2.1)).getD i (.inl 0)) ((ts.map (·.2.1)).getD j (.inl 0))) pl.isList (by simpa using h64) (λh' keep two=>⟨tuples' true,λA E=>zLm ll (hT h' keep) one nd two⟩) λh' c keep e2=>?_;rw[ll,show zP1 (ts.map (·.2.1)).length (λi j=>ltK ((ts.map (·.2.1)).getD i (.inl 0)) ((ts.map (·.2.1)).getD j (.inl 0)))=vX (ts.map (·.2.1)) from rfl,zAr (λi hi=>by rw[ll]; exact zAv i hi),zB5] at e2;have I2:Inv X pins σ H { s with heap:=h' }:=I.kept (t':=s.toks) keep;have fr:H (s.heap.objs.size+1)=none:=I.hok.fresh (eg _);refine⟨.ref (s.heap.objs.size+1),_,I2.more (o:=.lst ((vG (vX (ts.map (·.2.1))) (ts.map (·.1))).map V.ref)) (I.fpOk (H':=H) (eg _) fr) ⟨?_,_,c,zCf _,e2⟩,U,q _ fr⟩;rw[aa,zB9 (λi hi=>by have:=zAv i hi; simpa using this),zAo,aa,sizeLine_eq];lia
theorem zJp:uL X (.builtin "sorted") (λxs H Q=>∃(l:af)(ns:List az),xs=[.ref l]/\SqL X.K H l (ns.map V.str)/\ns.length<64 /\
  ∀ p:af,H p=none->Q (.ref p) (upd H p (.lst ((vG (vX (ns.map .inr)) ns).map V.str)))):=by
 intro pins s σ H xs us Q I r h;obtain⟨l,ns,rfl,hq,h64,q⟩:=h;obtain⟨u,rfl,ru⟩:=yT.one r;cases ru;obtain⟨its,rv,pl,hz⟩:=I.list hq;have hn:its.length=ns.length:=by rw[<- rv.length,aa]
 have el:∀ j,j<ns.length->∃ t,its[j]?=some (cF (ns.getD j "") t):=λj hj=>by
  obtain⟨x,e1,e2⟩:=zOb rv (j:=j) (v:=V.str (ns.getD j "")) (by rw[ak,bz,aj hj]; rfl);obtain⟨t,rfl⟩:=(show ∃ t,x=cF _ t from e2);exact⟨t,e1⟩
 refine zJv (f:=λi j=>ltK ((ns.map (.inr:az->Key)).getD i (.inl 0)) ((ns.map (.inr:az->Key)).getD j (.inl 0))) pl.isList (by lia) (λh' keep two=>⟨oneType',λA E=>⟨λQ' hq'=>?_,λi j hi hj ne C hC=>?_⟩⟩) λh' c keep e2=>?_
 ·refine kas_kind (T:=.type "str") two (λv hv=>?_) (by decide) (by decide) hq';obtain⟨i,hi⟩:=i4.mp hv;obtain⟨t,e⟩:=el i (by rw[<- hn]; exact(aM.mp hi).1);rw[hi] at e;cases e;exact .now
 ·obtain⟨t1,e1⟩:=el i (by lia);obtain⟨t2,e2⟩:=el j (by lia);unfold kas_ask;rw[bz,bz,e1,e2];refine kas_lt_str ?_;have g:∀ k,k<ns.length->(ns.map (.inr:az->Key)).getD k (.inl 0)=.inr (ns.getD k ""):=λk hk=>by
   rw[bz,ak,bz,aj hk]; rfl
  have hC:C (ltK ((ns.map (.inr:az->Key)).getD i (.inl 0)) ((ns.map (.inr:az->Key)).getD j (.inl 0))) _:=hC;rw[g i (by lia),g j (by lia)] at hC;exact hC
 ·have lm:∀ i∈vX (ns.map (.inr:az->Key)),i<ns.length:=λi hi=>by have:=zAv i hi; rwa[aa] at this
  have ec:((zP1 its.length λi j=>ltK ((ns.map (.inr:az->Key)).getD i (.inl 0)) ((ns.map (.inr:az->Key)).getD j (.inl 0))).map λi=>its.getD i bp)=vG (vX (ns.map .inr)) its:=by
   rw[show zP1 its.length (λi j=>ltK ((ns.map (.inr:az->Key)).getD i (.inl 0)) ((ns.map (.inr:az->Key)).getD j (.inl 0)))=vX (ns.map (.inr:az->Key)) from by unfold vX; rw[aa,hn],zAr λi hi=>by rw[hn]; exact lm i hi]
  rw[ec] at e2;have I2:Inv X pins σ H { s with heap:=h' }:=I.kept (t':=s.toks) keep;have fr:H (s.heap.objs.size+1)=none:=I.hok.fresh (eg _);refine⟨.ref (s.heap.objs.size+1),_,I2.more (o:=.lst ((vG (vX (ns.map .inr)) ns).map V.str)) (I.fpOk (H':=H) (eg _) fr) ⟨?_,_,c,?_,e2⟩,U,q _ fr⟩
  ·rw[aa,zB9 lm,zAo,aa,sizeLine_eq];lia
  ·rw[<- zB5];exact zFy rv _
end
theorem zNo{P:aK}{w:aU}{kvs:List (Key×V)}{vs:List (Key×ag)}{lo:af}{h':aX}{as:List af}(rel:KV kvs vs)(G:KdxG (yL P w) vs lo h' as):∀(j:Nat)(a:af)(e:Key×V),as[j]?=some a->kvs[j]?=some e->∃ key x,xD (kV e.1) key/\xD e.2 x/\h'.get? a=some { cls:=.type "tuple",data:=.seq #[key,x] }:=λj a e ha he=>by
 obtain⟨key,k,x,g1,g2,g3⟩:=G.pairs j a ha;obtain⟨u,hu,ru⟩:=KV.at (vs:=vs) (i:=j) (k:=e.1) (v:=e.2) rel he;rw[hu] at g1;cases g1;have g2':zMk e.1 key=true:=g2;refine⟨key,_,?_,ru,g3⟩;rcases yQ g2' with ⟨i,t,e1,e2⟩ | ⟨y,t,e1,e2⟩ <;> rw[e1,e2] <;> exact⟨t,U⟩
section
variable{X:Cx}
theorem zDz(hc:X.calm=true):uL X (.builtin "sorted") (λxs H Q=>∃(v d:af)(kvs:List (Key×V)),xs=[.ref v]/\H v=some (.ext (zA8 v d))/\Rd H d (.dK kvs)/\kvs.length<64/\zZo (kvs.map (·.1))/\(kvs.map (·.1)).Nodup /\
  ∀(p:af)(as:List af)(H2:Hp),Same H H2->H p=none->as.length=kvs.length->H2 p=some (.lst ((vG (vX (kvs.map (·.1))) as).map V.ref))->(∀(j:Nat)(a:af)(e:Key×V),as[j]?=some a->kvs[j]?=some e->H a=none/\H2 a=some (.tup [kV e.1,e.2]))->Q (.ref p) H2):=by
 intro pins s σ H xs us Q I r h;obtain⟨v,d,kvs,rfl,hv,hd,h64,one,nd,q⟩:=h;obtain⟨u,rfl,ru⟩:=yT.one r;cases ru;obtain⟨hz,ns,vs,rel,da⟩:=hd.ok I.hok;obtain⟨o,es,ep,e,c,dt,hk,hp,hn⟩:=da;have hl:vs.length=kvs.length:=rel.length.symm;have dat:s.heap.DictAt (yL X.prog X.w) d vs ep:=⟨o,es,e,c,dt,hk,hp,hn⟩;have hview:s.heap.IsItemsView v d:=(show xC X.prog X.w H s.heap v (.ext (zA8 v d)) from I.hok v _ hv).1;have zC1:kvs.length<=sizeLine:=by rw[sizeLine_eq]; lia
 have hh:X.A.in1.handled=none:=I.ok.hd hc;refine gZ kind_sorted plain_sorted entry_sorted (args_sorted1 _) ?_;unfold eZ.«sorted»;refine ac (m:=checkCount "sorted" 1 1 _) (al ?_);refine ac (kdx_collect (knd:=yL X.prog X.w) (kvs:=vs) (ep:=ep) hh hview dat (by rw[hl]; exact zC1) λh' tk as keep la G=>?_);refine ac (jE ?_ (by rw[aa,la,hl]; exact zC1));have ln:as.length=kvs.length:=la.trans hl;have at_:=zNo rel G;have hoL:(h'.push (seqObj "list" (as.map aI).toArray 0)).get? h'.objs.size=some (seqObj "list" (as.map aI).toArray 0):=ap _ rfl;have ll:(as.map aI).length=(kvs.map (·.1)).length:=by rw[aa,aa,ln]
 have lp:∀ i∈vX (kvs.map (·.1)),i<as.length:=λi hi=>by have:=zAv i hi; rw[aa] at this; lia
 show wpAny _ _ _ _ _ { s with heap:=h'.push (seqObj "list" (as.map aI).toArray 0),toks:=tk };refine ac (ce (bU slot_list_sort ⟨_,hoL,rfl⟩ entry_list_sort ?body (args_list_sort _)))
 case body =>
  refine zDv (f:=λi j=>ltK ((kvs.map (·.1)).getD i (.inl 0)) ((kvs.map (·.1)).getD j (.inl 0))) (s:={ s with heap:=h'.push (seqObj "list" (as.map aI).toArray 0),toks:=tk }) hoL (by rw[aa,ln]; exact h64) (λh2 k2 two=>⟨tuples' true,zLm ll (λj v k e1 e2=>?_) one nd two⟩) λh2 c k2 e2=>⟨_,rfl,al ⟨_,rfl,?_⟩⟩
  ·rw[ak,aH] at e1 e2;obtain⟨a,ea,rfl⟩:=e1;obtain⟨e,ee,rfl⟩:=e2;obtain⟨key,x,g1,_,g3⟩:=at_ j a e ea ee;exact⟨a,_,_,key,[x],U,k2 a _ (aP (aw g3)) (ah _ g3),U,U,g1⟩
  ·rw[ll,show zP1 (kvs.map (·.1)).length (λi j=>ltK ((kvs.map (·.1)).getD i (.inl 0)) ((kvs.map (·.1)).getD j (.inl 0)))=vX (kvs.map (·.1)) from rfl,zAr (λi hi=>by rw[aa]; exact lp i hi),zB5] at e2;have kp:∀ b o,s.heap.get? b=some o->h2.get? b=some o:=λb o e=>k2 b o (aP (aw (keep b o e))) (ah _ (keep b o e));have I2:Inv X pins σ H { s with heap:=h2,toks:=tk }:=I.kept (t':=tk) kp;have ab:∀ a∈as,s.heap.objs.size<=a:=λa ha=>dB (G.above a ha);have I1:Inv X pins σ H { s with heap:=h',toks:=tk }:=I.kept (t':=tk) keep;have fp:=I1.fpOk (H':=H) (am _) (I1.hok.fresh (am _));have I3:Inv X pins σ (upd H h'.objs.size (.lst ((vG (vX (kvs.map (·.1))) as).map V.ref))) { s with heap:=h2,toks:=tk }:=I2.more fp ⟨by rw[aa,zB9 lp,zAo,aa]; exact zC1,_,c,zCf _,e2⟩;obtain⟨H3,I4,s3,g3,n3⟩:=I3.tuples (lo:=0) (kvs.map λe=>[kV e.1,e.2]) G.rise (λa ha=>by
    refine I.fpOk (ab a ha) ?_;rw[zG (aP (G.there ha))];exact I.hok.fresh (ab a ha)) (by rw[aa,ln]) λj a xs ha hx H'=>by
     rw[ak,aH] at hx;obtain⟨e,he,rfl⟩:=hx;obtain⟨key,x,g1,g2,g3⟩:=at_ j a e ha he;exact⟨by show 2<=sizeLine; rw[sizeLine_eq]; decide,[key,x],.cons g1 (.cons g2 .nil),_,k2 a _ (aP (aw g3)) (ah _ g3),rfl,_,rfl⟩
   exact⟨.ref h'.objs.size,H3,I4,U,q h'.objs.size as H3 ((zD fp.1 _).trans s3) fp.1 ln (s3 _ _ zA) λj a e ha he=>⟨I.hok.fresh (ab a (aJ ha)),g3 j a _ ha (by rw[ak,he]; rfl)⟩⟩
theorem zG8(hc:X.calm=true):uL X (.type "list") (λxs H Q=>∃(v d:af)(kvs:List (Key×V)),xs=[.ref v]/\H v=some (.ext (zA8 v d))/\Rd H d (.dK kvs)/\kvs.length<=1000 /\
  ∀(p:af)(as:List af)(H2:Hp),Same H H2->H p=none->as.length=kvs.length->H2 p=some (.lst (as.map V.ref))->(∀(j:Nat)(a:af)(e:Key×V),as[j]?=some a->kvs[j]?=some e->H a=none/\H2 a=some (.tup [kV e.1,e.2]))->Q (.ref p) H2):=by
 intro pins s σ H xs us Q I r h;obtain⟨v,d,kvs,rfl,hv,hd,h64,q⟩:=h;obtain⟨u,rfl,ru⟩:=yT.one r;cases ru;obtain⟨hz,ns,vs,rel,da⟩:=hd.ok I.hok;obtain⟨o,es,ep,e,c,dt,hk,hp,hn⟩:=da;have hl:vs.length=kvs.length:=rel.length.symm;have dat:s.heap.DictAt (yL X.prog X.w) d vs ep:=⟨o,es,e,c,dt,hk,hp,hn⟩;have hview:s.heap.IsItemsView v d:=(show xC X.prog X.w H s.heap v (.ext (zA8 v d)) from I.hok v _ hv).1;have zC1:kvs.length<=sizeLine:=by rw[sizeLine_eq]; lia
 refine kdx_call (knd:=yL X.prog X.w) (kvs:=vs) (ep:=ep) (show X.A.handled=none from I.ok.hd hc) hview dat (by rw[hl]; exact zC1) λh' tk acc c as keep e2 la G ea=>?_;have ln:as.length=kvs.length:=la.trans hl;have at_:=zNo rel G;have I1:Inv X pins σ H { s with heap:=h',toks:=tk }:=I.kept (t':=tk) keep;have ab:∀ a∈as,s.heap.objs.size<a:=λa ha=>G.above a ha;have fp:=I.fpOk (H':=H) (am _) (I.hok.fresh (am _));have I3:Inv X pins σ (upd H s.heap.objs.size (.lst (as.map V.ref))) { s with heap:=h',toks:=tk }:=I1.more fp ⟨by rw[aa,ln]; exact zC1,as.map aI,c,zCf as,by rw[<- ea,jj]; exact e2⟩;obtain⟨H3,I4,s3,g3,n3⟩:=I3.tuples (lo:=0) (kvs.map λe=>[kV e.1,e.2]) G.rise (λa ha=>by
  refine I.fpOk (dB (ab a ha)) ?_;rw[zG (ej (ab a ha))];exact I.hok.fresh (dB (ab a ha))) (by rw[aa,ln]) λj a xs ha hx H'=>by
   rw[ak,aH] at hx;obtain⟨e,he,rfl⟩:=hx;obtain⟨key,x,g1,g2,g3⟩:=at_ j a e ha he;exact⟨by show 2<=sizeLine; rw[sizeLine_eq]; decide,[key,x],.cons g1 (.cons g2 .nil),_,g3,rfl,_,rfl⟩
 exact⟨.ref s.heap.objs.size,H3,I4,U,q _ as H3 ((zD fp.1 _).trans s3) fp.1 ln (s3 _ _ zA) λj a e ha he=>⟨I.hok.fresh (dB (ab a (aJ ha))),g3 j a _ ha (by rw[ak,he]; rfl)⟩⟩
end
end L2

namespace L2
open PySem PySem.Spec PyProof.Rows
def Iti(φ:Hp->Prop)(kvs:List (Key×V)):It :=
 ⟨λi H=>φ H/\i<kvs.length,λi H v H'=>∃(T:af)(e:Key×V),v=.ref T/\H T=none/\H'=upd H T (.tup [kV e.1,e.2])/\kvs[i]?=some e,λi H=>φ H/\kvs.length<=i⟩
theorem zGu:entryFor table "dict_itemiterator.__iter__" = some eZ.«dict_keyiterator.__iter__»:=entryFor_alias (id' := "dict_keyiterator.__iter__") (by kernel_rfl) rfl (by decide +kernel) (by kernel_rfl)
theorem zGa{prog:aK}{w:aU}{A:bI}{E:ag->ai->Prop}{s:ai}{it d:af}{i n ep:Nat}{ok ov:ag}{Q:ag->ai->Prop}(hit:IsItemIter s.heap it d i n ep ok ov)(h:Q (.ref it) s):wpAny (model prog w) A (pyIter (.ref it)) Q E s:=by
 have ty:s.TypeIs (.ref it) "dict_itemiterator" :=⟨_,hit,rfl⟩;refine kx ty f8 (bU f8 ty zGu ?_ (F.args_dict_itemiterator_iter_1 _));show wpAny _ _ (ret (.ref it)) _ _ s;exact al ⟨_,rfl, "dict_itemiterator",_,ty,F.slot_dict_itemiterator_next.lookup,h⟩
theorem zOv{P:aK}{w:aU}{K:ae}{elts:List bx}{kt:Nat}{pt:fh}{d:af}{kvs:List (Key×V)}{o:cD}{es:Array dm}{ep:Nat}(ho:o.data=.dict es ep)(it:af) :
  zV7 P w K (.Tuple elts kt pt) (Iti (zM8 d o kvs) kvs) [it] it (λi h=>∃ ok ov,IsItemIter h it d i kvs.length ep ok ov) where
 mem:=by simp
 obj:=λi h st b hb=>by
  have e:b=it:=by simpa using hb
  subst e;obtain⟨ok,ov,e⟩:=st;exact⟨_,e,λv z=>by cases z⟩
 keep:=λi h h' ⟨ok,ov,st⟩ k=>⟨ok,ov,k it (by simp) _ st⟩
 item:=by
  intro X hP hw hK hc i pins s σ H E I hf st ⟨fz,hi⟩;subst hP hw hK;obtain⟨vs,r,da,_,_⟩:=I.frzAt fz ho;obtain⟨u,hu,ru⟩:=KV.at (vs:=vs) (k:=kvs[i].1) (v:=kvs[i].2) r (aj hi);obtain⟨ok,ov,st⟩:=st;rw[r.length] at st;have fresh:H s.heap.objs.size=none:=I.hok.fresh (am _);have litz:it<s.heap.objs.size:=aw st;refine wpAny_pyNext_items_item st da hu λkey h' hk out ht hz kp=>⟨_,rfl,wpAny_letOwnedTupleGo_items out λh2 st2 sb=>?_⟩;rw[<- r.length] at st2;have rk:xD (kV kvs[i].1) key:=by
   rcases yQ hk with ⟨j,t,e1,e2⟩ | ⟨x,t,e1,e2⟩
   ·rw[e1,e2]; exact⟨t,U⟩
   ·rw[e1,e2]; exact⟨t,U⟩
  have kp2:∀ c o,c ∉ [it]->s.heap.get? c=some o->h2.get? c=some o:=λc o hc e=>by
   have hc:c≠it:=by simpa using hc
   exact sb.extBut c o hc (kp c o hc e)
  have neT:∀ b o,s.heap.get? b=some o->b≠s.heap.objs.size:=λb o e=>aP (aw e);have neH:∀ b o,H b=some o->b ∉ [it]:=λb o e hb=>by
   rw[(hf b hb).1] at e;cases e
  have upn:∀ b u,H b=some u->upd H s.heap.objs.size (.tup [kV kvs[i].1,kvs[i].2]) b=some u:=λb u e=>by
   rw[zG (zL e fresh)];exact e
  refine⟨.ref s.heap.objs.size,upd H s.heap.objs.size (.tup [kV kvs[i].1,kvs[i].2]),?_,U,⟨_,kvs[i],U,fresh,U,aj hi⟩,⟨_,_,st2⟩,λb hb=>?_⟩
  ·refine Inv.step (s:=s) (h':=h2) (g':=s.gens) (d':=s.drawn) (t':=s.toks) (ch:=[it]) I (λb hb=>?_) (λb o _ _ hc e _=>kp2 b o hc e) (λb o _ _ hc e _=>⟨o.slots,kp2 b o hc e⟩) (λb o _ e n=>?_) (λb o hc e=>⟨o,kp2 b o hc e⟩)
    (λb zs e=>upn b _ e) (λb o zs e=>upn b _ e) (λb ps e=>⟨#[],by rw[upn b _ e]; simp⟩) (λm hm=>?_) (λb o e=>?_) I.bare
   ·obtain⟨_,f1,_,f3,f4,f5⟩:=hf b hb;exact⟨f3,f1,f4,f5⟩
   ·rw[zG (neT b o e)];exact n
   ·obtain⟨o,es,ep,ho,r⟩:=hm;refine⟨o,es,ep,kp2 _ o (λhb=>?_) ho,r⟩;exact(hf _ hb).2.1 rfl
   ·by_cases hb:b=s.heap.objs.size
    ·subst hb;rw[zA] at e;cases e;exact⟨by show 2<=sizeLine; decide,[key,u],.cons rk (.cons ru .nil),_,sb.extBut _ _ (ej litz) ht,rfl,_,rfl⟩
    ·rw[zG hb] at e;refine(I.hok b o e).stay (λc u hc q=>kp2 c u ?_ q) (λc q=>upn c _ q) λc zs q=>upn c _ q;rcases hc with hc | hc
     ·rw[hc]; exact neH b o e
     ·exact neH c _ hc
  ·have e:b=it:=by simpa using hb
   subst e;rw[zG (aP litz)];exact(hf b hb).1
 done:=by
  intro X hP hw hK hc i pins s σ H E I hf st ⟨fz,hi⟩;subst hP hw hK;obtain⟨vs,r,da,_,_⟩:=I.frzAt fz ho;obtain⟨f0,f1,f2,f3,f4,f5⟩:=hf it (by simp);obtain⟨ok,ov,st⟩:=st;rw[r.length] at st;exact wpAny_pyNext_items_end (I.ok.hd hc) st da (cu (by rw[<- r.length]; exact hi)) λh' eb=>⟨rfl,I.turned (t':=s.toks) (λb o hb e=>eb b o hb e) f0 f1 f3 f4 f5⟩
 self:=λ_ _ _ _ _ ⟨_,_,st⟩ h=>zGa st h
section
variable{X:Cx}{l:bx}{te:TE}{apos pos:fh}
def zZv(te:TE):TI:=λσ H R=>te σ H λx H1=>∃(d:af)(kvs:List (Key×V)),x=.ref d/\Rd H1 d (.dK kvs)/\∀(o:cD)(H2:Hp),zUi d o kvs H1 H2->R (Iti (zM8 d o kvs) kvs) H2
theorem zVf{elts:List bx}{kt:Nat}{pt:fh}(hl:PE X l te)(hbase:attributeBase l "items" X.env (eval l X.env)=eval l X.env:=by rfl)(hline:(apos.endLine == pos.line)=true:=by rfl):PI X (.Tuple elts kt pt) (.Call (.Attribute l "items" apos) [] [] pos) (zZv te):=by
 intro pins s σ H R I h;refine fK (T := "dict") (id := "dict.items") hbase rfl hline hJ fM kA (thn (hl pins s σ H _ I h) λv s1 ⟨x,H1,I1,r1,d,kvs,e,hd,q⟩=>?_);subst e;cases r1;obtain⟨o,es,ep,H2,ho,ft,I2⟩:=I1.frozen hd;obtain⟨vs,r,da,_,ns⟩:=I2.frzAt ft.1 ho;exists da.dictOf.typeIs,da.dictOf.mapOf.noDict;show wpAny _ _ (callWith pos (.builtin "dict.items") [.ref d] [] []) _ _ s1;refine method_meetsIn fM jU rfl (gC ⟨rfl,da.dictOf.typeIs,ju _,_,meets_dict_items (yL X.prog X.w) d ns,⟨vs,da.dictOf⟩,?_⟩);refine wpAny_pyIter_items (knd:=yL X.prog X.w) (d:=d) (kvs:=vs) (ep:=ep) ⟨_,ap _ rfl,rfl,rfl⟩ (da.push _) ?_;have I3:=I2.kept (t':=s1.toks) (h':=s1.heap.push { cls:=.type "dict_items",data:=.fields #[.ref d] }) λb o e=>ah _ e;have I4:=I3.kept (t':=s1.toks) (h':=(s1.heap.push { cls:=.type "dict_items",data:=.fields #[.ref d] }).push { cls:=.type "dict_itemiterator",data:=.fields #[.none,.bool false,.ref d,.int 0 0,.int vs.length 0,.int ep 0,.none,.none] }) λb o e=>ah _ e;refine⟨_,[_],_,_,H2,U,I4,zOv ho _,⟨_,_,by rw[r.length]; exact ap _ rfl⟩,λb hb=>?_,q o H2 ft⟩;have e:=av.mp hb;subst e;exact I3.fpOk (am _) (I3.hok.fresh (am _))
end
section
variable{φ:Hp->Prop}{kvs:List (Key×V)}{g:TG}{σ0:St}{H1:Hp}{D:af}{tt:TT}{te:TE}{Q:VK}
theorem zXm(Pv:Nat->St->List V->Hp->Prop)(h0:Pv 0 σ0 [] (upd H1 D (.lst [])))(hl:∀ i σ ys H,Pv i σ ys H->φ H/\H D=some (.lst ys))
  (hs:∀(i:Nat)(e:Key×V)(T:af) σ ys H,kvs[i]?=some e->H T=none->Pv i σ ys H->g (.ref T) σ (upd H T (.tup [kV e.1,e.2])) λσ2 H2=>te σ2 H2 λy H4=>H4 D=some (.lst ys)/\ys.length<sizeLine/\Pv (i+1) σ2 (ys++[y]) (upd H4 D (.lst (ys++[y]))))
  (hd:∀ σ ys H,Pv kvs.length σ ys H->Q (.ref D) H):zDd (Iti φ kvs) D g zW3 te σ0 H1 Q:=by
 exists λi m σ ys H=>m=kvs.length-i/\i<=kvs.length/\Pv i σ ys H,⟨kvs.length,by simp,bw _,h0⟩;rintro i m σ ys H ⟨rfl,hi,p⟩;obtain⟨q,qd⟩:=hl i σ ys H p;exists qd;by_cases hlt:i<kvs.length
 ·refine .inr ⟨⟨q,hlt⟩,Pv (i+1),λσ' zs H' z=>⟨kvs.length-(i+1),by lia,rfl,hlt,z⟩,λx H' ⟨T,e,ex,hT,eH,y⟩=>?_⟩;subst ex eH;exact hs i e T σ ys _ y hT p
 ·have e:i=kvs.length:=by lia
  subst e;exact .inl ⟨⟨q,am _⟩,hd σ ys H p⟩
end
end L2

namespace Sea
open PySem L2
def kD:Key->Dt
 | .inl i=>.int i
 | .inr x=>.str x
def zZu(e:Key×Dt):Dt:=.tup [kD e.1,e.2]
def zJk(es:List (Key×Dt)):List Dt:=(vG (vX (es.map (·.1))) es).map zZu
def mkD(e:az×Int×Int):Dt:=.tup [.str e.1,.int e.2.1,.int e.2.2]
def zPx(S:BS):List Dt:=(vG (vX ((S.marks.map (·.1)).map .inr)) S.marks).map mkD
theorem yd0{H:Hp}{k:Key} : Rep H (kD k) (kV k):=by
 cases k
 ·exact yB.mpr rfl
 ·exact zY.mpr rfl
theorem xM.at{H:Hp}{kvs:List (Key×V)}{es:List (Key×Dt)}(h:xM H kvs es){j:Nat}{e:Key×V}(g:kvs[j]?=some e):∃ d,es[j]?=some (e.1,d)/\Rep H d e.2:=by
 obtain⟨d,g1,r⟩:=h.vals.back (i:=j) (x:=e.2) (by rw[ak,g]; rfl);rw[ak,aH] at g1;obtain⟨e',ge,rfl⟩:=g1;have:=congrArg (·[j]?) h.keys;simp only[ak,g,ge,eG,hU] at this;exact⟨e'.2,by rw[ge,this],r⟩
theorem zAm{H:Hp}{kvs:List (Key×V)}{es:List (Key×Dt)}{as:List af}(kv:xM H kvs es)(hl:as.length=kvs.length)(at_:∀ (j:Nat) (a:af) (e:Key×V),as[j]?=some a->kvs[j]?=some e->H a=some (.tup [kV e.1,e.2])):∀ o:List Nat,wG H ((vG o es).map zZu) ((vG o as).map V.ref)
 | []=>yH.mpr rfl
 | i::o=>by
  have ih:=zAm kv hl at_ o;have le:=kv.length;unfold vG at ih ⊢;by_cases hi:i<kvs.length
  ·have ga:as[i]?=some (as[i]'(by lia)):=aj (by lia);have gk:kvs[i]?=some kvs[i]:=aj hi;obtain⟨d,ge,r⟩:=kv.at gk;rw[cr ge,cr ga];exact zK.mpr ⟨_,_,rfl,yJ.mpr ⟨_,_,rfl,at_ i _ _ ga gk,.two yd0 r⟩,ih⟩
  ·rw[cJ (cu (by lia)),cJ (cu (by lia))];exact ih
structure zEr(S:BS):Prop where
 mk ::
 well:zL3 S
 nm:(S.marks.map (·.1)).Nodup
 nb:(S.banks.map (·.1)).Nodup
 bk:∀ e∈S.banks,wC e.1/\e.2.length<=8/\∀ c∈e.2,zDy c
theorem zEr.nil:zEr BS.nil:=⟨zL3.nil,.nil,.nil,λe he=>(nomatch he)⟩
theorem zT3{cs:List (Int×Int)}(h:zPz cs=true):cs.length<=8:=by
 unfold zPz isB at h;rw[be,be,aa] at h;exact of_decide_eq_true h.2.1
theorem zG5{α:Type}{l:List α}{x:α}(h:l.Nodup)(n:x ∉ l):(l++[x]).Nodup:=by
 rw[kJ];exact⟨h,by simp,λa ha b hb=>by rw[av.mp hb]; exact λz=>n (z ▸ ha)⟩
theorem zDt{α β:Type}{f:α->β}{p:α->Bool}{l:List α}(h:(l.map f).Nodup):((l.filter p).map f).Nodup:=h.sublist ((jv (p:=p) (l:=l)).map f)
theorem zEr.aft{S:BS}{D:Deed}(h:zEr S)(ok:okD S D):zEr (aft S D):=by
 refine⟨h.well.aft ok,?_,?_,?_⟩
 ·match D,ok with
  | .mark n x y,ok =>
   show((S.marks++[(n,x,y)]).map (·.1)).Nodup;rw[aG];refine zG5 h.nm λz=>?_;obtain⟨p,e⟩:=zRl (S:=S) z;rw[ok.2.1] at e;cases e
  | .move n x y,ok =>
   show((S.marks.map λe=>if e.1=n then(e.1,x,y) else e).map (·.1)).Nodup;rw[bD,show((·.1) ∘ λe:az×Int×Int=>if e.1=n then(e.1,x,y) else e)=(·.1) from funext λe=>by show(if e.1=n then(e.1,x,y) else e).1=e.1; split <;> rfl];exact h.nm
  | .unmark n,ok=>exact zDt h.nm
  | .bank _ _,_=>exact h.nm
  | .level _,_=>exact h.nm
  | .sail _ _,_=>exact h.nm
  | .right _ _ _,_=>exact h.nm
  | .bearing _ _ _ _ _ _,_=>exact h.nm
  | .range _ _ _,_=>exact h.nm
  | .strike _,_=>exact h.nm
 ·match D,ok with
  | .bank n cs,ok =>
   show((S.banks++[(n,cs)]).map (·.1)).Nodup;rw[aG];exact zG5 h.nb ok.2.1
  | .level n,ok=>exact zDt h.nb
  | .mark _ _ _,_=>exact h.nb
  | .move _ _ _,_=>exact h.nb
  | .unmark _,_=>exact h.nb
  | .sail _ _,_=>exact h.nb
  | .right _ _ _,_=>exact h.nb
  | .bearing _ _ _ _ _ _,_=>exact h.nb
  | .range _ _ _,_=>exact h.nb
  | .strike _,_=>exact h.nb
 ·match D,ok with
  | .bank n cs,ok =>
   intro e he;rcases aS.mp he with z | z
   ·exact h.bk e z
   ·rw[av.mp z]; exact⟨ok.1,zT3 ok.2.2.2.1,ok.2.2.1⟩
  | .level n,ok=>exact λe he=>h.bk e (dQ.mp he).1
  | .mark _ _ _,_=>exact h.bk
  | .move _ _ _,_=>exact h.bk
  | .unmark _,_=>exact h.bk
  | .sail _ _,_=>exact h.bk
  | .right _ _ _,_=>exact h.bk
  | .bearing _ _ _ _ _ _,_=>exact h.bk
  | .range _ _ _,_=>exact h.bk
  | .strike _,_=>exact h.bk
section
variable{S:BS}
theorem zLa(S:BS):(bkE S.banks).map (·.1)=(S.banks.map (·.1)).map .inr:=by unfold bkE; rw[bD,bD]; rfl
theorem zKi(S:BS):(ntE S.notes).map (·.1)=(S.notes.map (·.1)).map .inl:=by unfold ntE; rw[bD,bD]; rfl
theorem zJo{l:List az}(h:l.Nodup):(l.map (.inr:az->Key)).Nodup:=h.map _ λa b n z=>n (by injection z)
theorem zSs{l:List Int}(h:l.Nodup):(l.map (.inl:Int->Key)).Nodup:=h.map _ λa b n z=>n (by injection z)
theorem zEr.oneB(_:zEr S):zZo ((bkE S.banks).map (·.1)):=.inr ⟨_,zLa S⟩
theorem zEr.ndB(h:zEr S):((bkE S.banks).map (·.1)).Nodup:=by rw[zLa]; exact zJo h.nb
theorem zEr.oneN(_:zEr S):zZo ((ntE S.notes).map (·.1)):=.inl ⟨_,zKi S⟩
theorem zEr.ndN(h:zEr S):((ntE S.notes).map (·.1)).Nodup:=by rw[zKi]; exact zSs (h.well.good.rise.imp λz=>Int.ne_of_lt z)
theorem zD3:∀{l:List (az×Int×Int)}{e:az×Int×Int},(l.map (·.1)).Nodup->e∈l->(l.find? λf=>decide (f.1=e.1)).map (·.2)=some e.2
 | f::l,e,nd,he=>by
  rcases aA.mp he with rfl | he
  ·simp
  ·have nf:f.1≠e.1:=λz=>(eF.mp nd).1 (aF.mpr ⟨e,he,z.symm⟩);rw[bV,decide_eq_false nf];exact zD3 (eF.mp nd).2 he
def dep:Nat->Dt->Prop
 | _,.int _=>True
 | _,.str _=>True
 | 0,.tup _=>False
 | n+1,.tup l=>l.length<=900/\∀ d∈l,dep n d
theorem zBk{n:Nat}{i:Int} : dep n (.int i):=by cases n <;> trivial
theorem zBt{n:Nat}{x:az} : dep n (.str x):=by cases n <;> trivial
theorem zBp{n:Nat}{l:List Dt}(h:l.length<=900)(g:∀ d∈l,dep n d):dep (n+1) (.tup l):=⟨h,g⟩
theorem zN8{n:Nat}{p:Int×Int} : dep (n+1) (ptD p):=zBp (by show 2<=900; decide) (dt2 zBk zBk)
theorem zR1{n:Nat}{k:Key} : dep n (kD k):=by
 cases k
 ·exact zBk
 ·exact zBt
theorem zSy:∀ d∈zPx S,dep 3 d:=λd hd=>by
 obtain⟨e,he,rfl⟩:=aF.mp hd;exact zBp (aQ rfl) (dt3 zBt zBk zBk)
theorem zRp(h:zEr S):∀ d∈zJk (bkE S.banks),dep 3 d:=λd hd=>by
 obtain⟨e,he,rfl⟩:=aF.mp hd;have me:=zE9 he;unfold bkE at me;obtain⟨e',me',rfl⟩:=aF.mp me;have l8:=(h.bk e' me').2.1;refine zBp (aQ rfl) (dt2 zR1 (zBp (by rw[aa]; lia) λd hd=>?_));obtain⟨c,hc,rfl⟩:=aF.mp hd;exact zN8
theorem zQw(h:zEr S):∀ d∈zJk (ntE S.notes),dep 4 d:=λd hd=>by
 obtain⟨e,he,rfl⟩:=aF.mp hd;have me:=zE9 he;unfold ntE at me;obtain⟨e',me',rfl⟩:=aF.mp me;have kn:=h.well.good.note e' me';refine zBp (aQ rfl) (dt2 zR1 ?_);show dep 3 e'.2.dt
 match e'.2,kn with
 | .bearing _ _ _ _ _ _,_=>exact zBp (aQ rfl) λd hd=>(aA.mp hd).elim (λz=>z ▸ zBt) (dt4 zBk zBt zN8 zN8 d)
 | .range _ _ _,_=>exact zBp (aQ rfl) (dt4 zBt zBk zBt zBt)
theorem zJj{es:List (Key×Dt)} : (zJk es).length=es.length:=by
 unfold zJk;rw[aa,zB9 (λi hi=>by have:=zAv i hi; rwa[aa] at this),zAo,aa]
theorem zJw:(zPx S).length=S.marks.length:=by
 unfold zPx;rw[aa,zB9 (λi hi=>by have:=zAv i hi; rwa[aa,aa] at this),zAo,aa,aa]
end
end Sea

namespace Sea
open PySem L2
def mkOf(e:az×Int×Int):Deed:=.mark e.1 e.2.1 e.2.2
def bkOf(e:az×List (Int×Int)):Deed:=.bank e.1 e.2
def slOf(e:Int×Int):Deed:=.sail e.1 e.2
def noteF(ns:List az)(D:Deed):Prop:=(∃(m:Int)(i:Nat)(l r:az),D=.range m l r/\0<=m/\m<=12/\i<18/\ns[i]?=some l/\ns[i+1]?=some r)\/∃(m k:Int)(i:Nat)(n:az),D=.bearing m n 100 k (-k) 100/\0<=m/\m<=12/\0<=k/\k<24/\i<19/\ns[i]?=some n
structure FillD(ns:List az)(Ds:List Deed)(l1:List (az×Int×Int))(l2:List (az×List (Int×Int)))(l3:List (Int×Int))(l4:List Deed)(c:Nat):Prop where
 mk ::
 eq:Ds=l1.map mkOf++l2.map bkOf++l3.map slOf++l4
 n1:l1.map (·.1)=ns.take 20
 p1:∀(j:Nat)(e:az×Int×Int),l1[j]?=some e->zDy e.2/\e.2.2=j
 c2:c<=2
 n2:l2.map (·.1)=(ns.drop c).take 8
 p2:∀(j:Nat)(e:az×List (Int×Int)),l2[j]?=some e->j<8/\e.2=[((j:Int),0),((j:Int)+3,0),((j:Int),2)]
 n3:l3.length=12
 p3:∀ e∈l3,zDy e
 n4:l4.length=24
 p4:∀ D∈l4,noteF ns D
noncomputable def stepD(S:BS)(D:Deed):BS:=match zU S D with
 | none=>aft S D
 | some _=>S
noncomputable def stepAll(S:BS)(l:List Deed):BS:=l.foldl stepD S
section
variable{S:BS}{D:Deed}
structure NotesF(S S':BS)(l:List Deed):Prop where
 mk ::
 m:S'.marks=S.marks
 b:S'.banks=S.banks
 r:S'.runs=S.runs
 c:S'.coming=S.coming+l.length
 n:S'.notes.map (·.2)=S.notes.map (·.2)++l
 k:∀ k:Int,(k∈S.notes.map (·.1)\/(S.coming<=k/\k<S'.coming))->k∈S'.notes.map (·.1)
structure Brim(ns:List az)(n19:az)(c:Nat)(S:BS):Prop where
 mk ::
 neat:zEr S
 m:S.marks.map (·.1)=ns.take 20
 c2:c<=2
 b:S.banks.map (·.1)=(ns.drop c).take 8
 r:S.runs.length=12
 n:S.notes.length=24
 all:∀ k:Int,1<=k->k<25->k∈S.notes.map (·.1)
 co:S.coming=25
 un:∀ e∈S.notes,rT n19 e.2
end
end Sea

namespace L2
open PySem
section
variable{X:Cx}
theorem zId(c:Array Nat):∀(k:Nat)(a:Array Nat),((bE k c).foldl (· ++ ·) a).toList=a.toList++(bE k c.toList).flatten
 | 0,a=>by simp
 | k+1,a=>by
  rw[gB,List.foldl_cons,zId c k,gB,kh,Array.toList_append,List.append_assoc]
def zXw(i:az)(n:Int):az:=if (n == 1||i.length == 0)=true then i else⟨(bE n.toNat i.cps).foldl (· ++ ·) #[]⟩
theorem zOq(c:Array Nat)(k:Nat):((bE k c).foldl (· ++ ·) #[]).size=k*c.size:=by
 rw[<- bM,zId,aC,zX7,bM];simp
theorem zVb{i:az}{n:Int}(h:1<=n):(zXw i n).length=i.length*n.toNat:=by
 unfold zXw;split
 ·rename_i e
  rw[iM,beq_iff_eq,beq_iff_eq] at e;rcases e with e | e
  ·rw[e]; simp
  ·rw[e]; simp
 ·show((bE n.toNat i.cps).foldl (· ++ ·) #[]).size=_;rw[zOq,ko];rfl
theorem zTm{i:az}{n:Int}{c:Nat}(h:c∈(zXw i n).cps.toList):c∈i.cps.toList:=by
 unfold zXw at h;split at h
 ·exact h
 ·have h:c∈((bE n.toNat i.cps).foldl (· ++ ·) #[]).toList:=h;rw[zId,aS] at h;rcases h with h | h
  ·simp at h
  ·obtain⟨l,hl,hc⟩:=List.mem_flatten.mp h;rw[(List.mem_replicate.mp hl).2] at hc;exact hc
theorem zKa:OpR X (binaryOp .Mult) (λx y H Q=>∃(i:az)(n:Int),x=.str i/\y=.int n/\1<=n/\n<=1000/\i.length<=1000/\Q (.str (zXw i n)) H):=by
 intro pins s σ H x y v u Q I rx ry h;obtain⟨i,n,rfl,rfl,h1,h2,h3,q⟩:=h;obtain⟨t,rfl⟩:=rx;obtain⟨t',rfl⟩:=ry;have n1:¬ n<1:=by lia
 have hl:i.length*n.toNat<=1000*1000:=lT h3 (by lia);have hs:i.length*n.toNat<=sizeLine:=aD hl (by decide);refine PySem.P.mul_str ?_ ?_ ?_ ?_
 ·rw[decide_eq_false (by lia),decide_eq_false (by lia)]; rfl
 ·intro _ _ z;have:(1000:Int)<=(2^63-1)/n:=by
   rw[Int.le_ediv_iff_mul_le (by lia)];lia
  lia
 ·intro _ _;exact decide_eq_false (by lia)
 ·rw[if_neg n1];have q':=q;unfold zXw at q';split
  ·rename_i e
   rw[if_pos e] at q';exact⟨.str i,H,I,⟨_,U⟩,q'⟩
  ·rename_i e
   rw[if_neg e] at q';refine⟨?_,.str _,H,I.tok _,⟨_,U⟩,q'⟩;show((bE n.toNat i.cps).foldl (· ++ ·) #[]).size<=sizeLine;rw[zOq,ko];exact hs
end
end L2

namespace Sea
open PySem L2
theorem xR{i:Int}(h:i.natAbs<=10^20):qZ i:=by
 unfold qZ;by_cases e:i.natAbs=0
 ·rw[e]; decide
 ·exact de ((lG e).mpr (show _<2^67 from fB h (by decide))) (by decide)
theorem asc_0:zFd "" :=⟨λc hc=>(nomatch hc),by decide⟩
theorem zY1{b:Bool}{A B:Prop}(h1:b=true->A)(h2:b=false->B):if b=true then A else B:=by
 cases b
 ·exact h2 rfl
 ·exact h1 rfl
theorem zC9{vs:List V}{x n:Int}(h:0<n)(hn:n=(vs.length:Int)):∃ v,v∈vs/\atI vs (x%n)=some v:=by
 have h0:=bj x (show n≠0 by lia);have h1:=aV x h;generalize x%n=y at h0 h1;obtain⟨k,rfl⟩:=cy h0;have hk:k<vs.length:=by lia
 exact⟨vs[k],cZ hk,vQ (aj hk)⟩
theorem zVp{vs:List V}{y:Int}(h0:0<=y)(h1:y<(vs.length:Int)):∃ v,v∈vs/\atI vs y=some v:=by
 obtain⟨k,rfl⟩:=cy h0;have hk:k<vs.length:=by lia
 exact⟨vs[k],cZ hk,vQ (aj hk)⟩
theorem cutIH{ok:Int->Hp->Prop}{G:Prop}{R:Int->Hp->Prop}(h1:(∀ m H,ok m H->R m H)->G)(h2:∀ m H,ok m H->R m H):G:=h1 h2
theorem cutSH{ok:az->Hp->Prop}{G:Prop}{R:az->Hp->Prop}(h1:(∀ m H,ok m H->R m H)->G)(h2:∀ m H,ok m H->R m H):G:=h1 h2
def Tin(H:Hp)(p:af):Prop:=∃ x y:Int,H p=some (.tup [.int x,.int y])/\qZ x/\qZ y
theorem Tin.to{H H':Hp}{p:af}(h:Tin H p)(s:Same H H'):Tin H' p:=let ⟨x,y,e,r⟩:=h;⟨x,y,s _ _ e,r⟩
theorem Tin.new{H:Hp}{p:af}{x y:Int}(h1:x.natAbs<=10^20)(h2:y.natAbs<=10^20):Tin (upd H p (.tup [.int x,.int y])) p:=⟨x,y,zA,xR h1,xR h2⟩
theorem zYh{c:Nat}{n:Int}(h:c<128)(h1:1<=n)(h8:n<=8):zFd (zXw ⟨#[c]⟩ n):=by
 refine⟨λd hd=>?_,?_⟩
 ·have:=zTm hd;simp at this;lia
 ·rw[zVb h1];show 1*n.toNat<=50;lia
end Sea

namespace Sea
open PySem L2
def MkR(σ:St)(H:Hp)(te:TE)(x:az)(b:Bool):Prop:=∀ G K,Same H G->(∀ t,G t=none->K (.ref t) (upd G t (.tup [.str x,.bl b])))->te σ G K
def MkA(σ:St)(H:Hp)(ta:TA)(ws:List (az×Bool)):Prop:=∀ G K,Same H G->(∀ ts G',Same G G'->zGq G' ts ws->K (ts.map V.ref) G')->ta σ G K
section
variable{σ:St}{H G:Hp}{te:TE}{ta:TA}{x:az}{b:Bool}{ws vs:List (az×Bool)}{K:VK}
theorem MkR.of{r:List V->Hp->VK->Prop}{n:az}{v:V}{y:af}(hv:σ[0]?=some (some (.ref y)))(h:∀ G Q,Same H G->Q (.bl b) G->r [.ref y,v] G Q):MkR σ H (ye4 (tJ (tC (.str n)) (tJ (tCB r (tJ (zMr 0) (tJ (tC v) zPk))) zPk))) n b :=
 λG _ s k=>⟨_,hv,h G _ s ⟨(by show 2<=sizeLine; decide),k⟩⟩
theorem zGq.cons{ts:List af}{t:af}(e:G t=some (.tup [.str x,.bl b]))(h:zGq G ts ws):zGq G (t::ts) ((x,b)::ws):=by
 refine⟨by rw[aW,aW,h.len],λj u w hu hw=>?_⟩;cases j with
 | zero=>cases hu; cases hw; exact e
 | succ j=>exact h.at_ j u w hu hw
theorem zGq.app{ts us:List af}(h:zGq G ts ws)(k:zGq G us vs):zGq G (ts++us) (ws++vs):=by
 refine⟨by rw[aC,aC,h.len,k.len],λj u w hu hw=>?_⟩;by_cases z:j<ts.length
 ·rw[dN z] at hu;rw[dN (by rw[<- h.len]; exact z)] at hw;exact h.at_ j u w hu hw
 ·rw[cQ (by lia)] at hu;rw[cQ (by rw[<- h.len]; lia),<- h.len] at hw;exact k.at_ _ u w hu hw
theorem MkA.nil:MkA σ H zPk []:=λG _ _ k=>k [] G (Same.refl G) zGq.nil
theorem MkA.cons(m:MkR σ H te x b)(h:MkA σ H ta ws):MkA σ H (tJ te ta) ((x,b)::ws):=λG _ s k =>
 m G _ s λt ht =>
  have st:=zD ht (.tup [.str x,.bl b])
  h _ _ (s.trans st) λts G' s' R=>k (t::ts) G' (st.trans s') (zGq.cons (s' _ _ zA) R)
theorem MkA.lst(h:MkA σ H ta ws)(hl:ws.length<=1000)(s:Same H G)(k:∀ l ts G',Same G G'->G' l=some (.lst (ts.map V.ref))->zGq G' ts ws->K (.ref l) G'):zEv ta σ G K :=
 h _ _ s λts G' s' R=>⟨zC1 (by rw[aa,R.len]; exact hl),λp hp =>
  have sp:=zD hp (.lst (ts.map V.ref))
  k p ts _ (s'.trans sp) zA (R.to sp)⟩
theorem MkA.cat{so:af}{ts:List af}(h:MkA σ H ta vs)(hl:vs.length<=100)(s:Same H G)(hv:σ[1]?=some (some (.ref so)))(e:G so=some (.lst (ts.map V.ref)))(R:zGq G ts ws)(hw:ws.length<=100)(k:∀ q ts' G',Same H G'->G' q=some (.lst (ts'.map V.ref))->zGq G' ts' (ws++vs)->K (.ref q) G'):tOp ye9 (zMr 1) (zEv ta) σ G K :=
 ⟨_,hv,h.lst (by lia) s λl us G' s' el Ru=>⟨so,l,_,_,rfl,rfl,s' _ _ e,el,zC1 (by rw[aa,aa,R.len,Ru.len]; lia),λq hq =>
  have sq:=zD hq (.lst (ts.map V.ref++us.map V.ref))
  k q (ts++us) _ ((s.trans s').trans sq) (by rw[zA,aG]) (((R.to s').app Ru).to sq)⟩⟩
theorem MkA.seqL{u:TS}{D:zMc}(h:MkA σ H ta ws)(hl:ws.length<=1000)(s:Same H G)(k:∀ l ts G',Same G G'->G' l=some (.lst (ts.map V.ref))->zGq G' ts ws->u D (σ.set 1 (some (.ref l))) G'):ya3 (zYm (zEv ta) (zIz 1)) u D σ G:=h.lst (K:=λx H1=>zIz 1 x σ H1 (u D)) hl s k
theorem MkA.seqC{u:TS}{D:zMc}{so:af}{ts:List af}(h:MkA σ H ta vs)(hl:vs.length<=100)(s:Same H G)(hv:σ[1]?=some (some (.ref so)))(e:G so=some (.lst (ts.map V.ref)))(R:zGq G ts ws)(hw:ws.length<=100)(k:∀ q ts' G',Same H G'->G' q=some (.lst (ts'.map V.ref))->zGq G' ts' (ws++vs)->u D (σ.set 1 (some (.ref q))) G'):ya3 (zYm (tOp ye9 (zMr 1) (zEv ta)) (zIz 1)) u D σ G:=h.cat (K:=λx H1=>zIz 1 x σ H1 (u D)) hl s hv e R hw k
end
def zFa:Deed->az
 | .mark _ _ _ => "mark"
 | .move _ _ _ => "move"
 | .unmark _ => "unmark"
 | .bank _ _ => "bank"
 | .level _ => "level"
 | .sail _ _ => "sail"
 | .right _ _ _ => "right"
 | .bearing _ _ _ _ _ _ => "bearing"
 | .range _ _ _ => "range"
 | .strike _ => "strike"
theorem zMm{H:Hp}{D:Deed}{v:V}(h:Rep H D.dt v):∃(t:af)(xs:List V),v=.ref t/\H t=some (.tup (.str (zFa D)::xs)):=by
 cases D <;>(obtain⟨t,xs,rfl,ht,r⟩:=yJ.mp h; obtain⟨_,_,rfl,k1,_⟩:=zK.mp r; rw[zY.mp k1] at ht; exact⟨_,_,U,ht⟩)
end Sea

-- LAW
namespace Sea
open PySem L2
local macro_rules | `(tactic| ac_rfl) => `(tactic| exact ⟨rfl, rfl, rfl, by decide +kernel, rfl, by decide +kernel, by decide +kernel⟩)
structure Zs(mg:az->Option ag):Prop where
 ValueError:mg "ValueError" = none
 abs:mg "abs" = none
 all:mg "all" = none
 any:mg "any" = none
 bool:mg "bool" = none
 dict:mg "dict" = none
 int:mg "int" = none
 isinstance:mg "isinstance" = none
 len:mg "len" = none
 list:mg "list" = none
 max:mg "max" = none
 range:mg "range" = none
 sorted:mg "sorted" = none
 str:mg "str" = none
 tuple:mg "tuple" = none
 zip:mg "zip" = none
theorem zR4:zR ["one","other"] ["one","other"] (zI zEw):=by ac_rfl
theorem zD7:zR ["start","end"] ["start","end"] (zI wW):=by ac_rfl
theorem xL:zR ["corners","number","start","way","further","other"] ["corners","number"] (zI uE):=by ac_rfl
theorem zLh:zR ["corners"] ["corners"] (zI qH):=by ac_rfl
theorem zEh:zR [] [] (zI uC):=by ac_rfl
theorem zDs:zR ["state","kind","key","value","fresh"] ["state","kind","key","value"] (zI qC):=by ac_rfl
theorem zDr:zR ["state","kind","key","fresh"] ["state","kind","key"] (zI qE):=by ac_rfl
theorem zMa:zR ["numbers","most"] ["numbers","most"] (zI zA2):=by ac_rfl
theorem zFk:zR ["name"] ["name"] (zI vE):=by ac_rfl
theorem zGf:zR ["state","kind","name"] ["state","kind","name"] (zI uV):=by ac_rfl
theorem zEe:zR ["place"] ["place"] (zI uB):=by ac_rfl
theorem zG2:zR ["run"] ["run"] (zI tI):=by ac_rfl
theorem zFl:zR ["state","kind"] ["state","kind"] (zI uX):=by ac_rfl
theorem zGm:zR ["state","name"] ["state","name"] (zI uU):=by ac_rfl
theorem zDh:zR ["moment","runs"] ["moment","runs"] (zI wD):=by ac_rfl
theorem zGs:zR ["direction"] ["direction"] (zI tE):=by ac_rfl
theorem zEf:zR ["state","left","right"] ["state","left","right"] (zI wX):=by ac_rfl
theorem tZ:zR ["state","row","name","place"] ["state","row"] (zI uW):=by ac_rfl
theorem wT:zR ["state","row","place","fresh","note"] ["state","row"] (zI uY):=by ac_rfl
theorem uP:zR ["state","row","name","note"] ["state","row"] (zI wL):=by ac_rfl
theorem wZ:zR ["state","row","name","corners","corner"] ["state","row"] (zI vC):=by ac_rfl
theorem qR:zR ["state","row","name"] ["state","row"] (zI uF):=by ac_rfl
theorem zAp:zR ["state","row","run"] ["state","row"] (zI uS):=by ac_rfl
theorem vP:zR ["state","row","number","run"] ["state","row"] (zI wU):=by ac_rfl
theorem zAj:zR ["state","row","fresh"] ["state","row"] (zI vB):=by ac_rfl
theorem zCs:zR ["state","row"] ["state","row"] (zI wB):=by ac_rfl
theorem zD9:zR ["state","row"] ["state","row"] (zI uJ):=by ac_rfl
theorem rQ:zR ["state","row","number"] ["state","row"] (zI wH):=by ac_rfl
theorem zPq:zR ["state","row"] ["state","row"] (zI zCb):=by ac_rfl
theorem zE4:zR ["_law_one","_law_two","_law_wide","_law_x","_law_y"] ["_law_one","_law_two","_law_wide"] (zI zH3):=by ac_rfl
theorem zL9:zR ["_law_one","_law_other"] ["_law_one","_law_other"] (zI zA0):=by ac_rfl
theorem xN:zR ["_law_d","_law_wide","_law_one","_law_other"] ["_law_d","_law_wide"] (zI vZ):=by ac_rfl
theorem yR:zR ["_law_d","_law_wide","_law_one","_law_other","_law_x","_law_y","_law_p","_law_q","_law_leads","_law_turned_here","_law_here","_law_row","_law_found","_law_dx","_law_dy","_law_at"] ["_law_d","_law_wide"] (zI zEs):=by ac_rfl
theorem yP:zR ["_law_places","_law_many","_law_at","_law_x","_law_y","_law_p","_law_q","_law_k","_law_r","_law_s"] ["_law_places"] (zI sV):=by ac_rfl
theorem zOs:zR ["_law_number"] ["_law_number"] (zI zCn):=by ac_rfl
theorem xY:zR ["_law_script","_law_many","_law_rows","_law_mix","_law_cell","_law_rest"] ["_law_script","_law_many"] (zI zCl):=by ac_rfl
theorem yZ:zR ["_law_some","_law_many","_law_letters","_law_rows","_law_at","_law_raw","_law_size","_law_step","_law_word_here","_law_place","_law_k","_law_sign"] ["_law_some","_law_many"] (zI zCm):=by ac_rfl
theorem zVe:zR [] [] (zI zJe):=by ac_rfl
theorem zAs:zR ["_law_names_here","_law_size","_law_letter"] ["_law_names_here"] (zI qP):=by ac_rfl
theorem zQ2:zR ["_law_raw","_law_names_here"] ["_law_raw","_law_names_here"] (zI zE6):=by ac_rfl
theorem zFh:zR ["_law_raw"] ["_law_raw"] (zI uR):=by ac_rfl
theorem yA:zR ["_law_d","_law_m","_law_names_here","_law_moment","_law_mark","_law_one","_law_other","_law_way_here","_law_menu"] ["_law_d","_law_m","_law_names_here"] (zI wK):=by ac_rfl
theorem zCp:zR ["_law_d","_law_m","_law_names_here","_law_way_here","_law_name","_law_x","_law_y"] ["_law_d","_law_m","_law_names_here"] (zI zE2):=by ac_rfl
theorem zJz:zR ["_law_name"] ["_law_name"] (zI qL):=by ac_rfl
theorem zSo:zR ["_law_x","_law_y"] ["_law_x","_law_y"] (zI zE1):=by ac_rfl
theorem vD:zR ["_law_m","_law_deed_here","_law_name","_law_note","_law_other"] ["_law_m","_law_deed_here"] (zI tH):=by ac_rfl
theorem zG4:zR ["_law_m","_law_deed_here"] ["_law_m","_law_deed_here"] (zI tG):=by ac_rfl
theorem zIb:zR ["_law_m","_law_deed_here"] ["_law_m","_law_deed_here"] (zI sS):=by ac_rfl
theorem rJ:zR ["_law_m","_law_deed_here","_law_x","_law_y"] ["_law_m","_law_deed_here"] (zI tD):=by ac_rfl
theorem zQr:zR ["_law_m","_law_deed_here"] ["_law_m","_law_deed_here"] (zI zE0):=by ac_rfl
theorem zNg:zR ["_law_m","_law_deed_here","_law_word_here"] ["_law_m","_law_deed_here"] (zI zI6):=by ac_rfl
theorem zRc:zR ["_law_told","_law_due_here"] ["_law_told","_law_due_here"] (zI zCk):=by ac_rfl
theorem xA:zR ["_law_e","_law_so"] ["_law_e"] (zI qK):=by ac_rfl
theorem zLp:zR ["_law_book","_law_deed_here","_law_e"] ["_law_book","_law_deed_here"] (zI zE5):=by ac_rfl
theorem zHs:zR ["_law_m","_law_deed_here","_law_later"] ["_law_m","_law_deed_here"] (zI zBz):=by ac_rfl
theorem zI3:zR ["_law_m"] ["_law_m"] (zI sX):=by ac_rfl
theorem zMz:zR ["_law_book","_law_m"] ["_law_book","_law_m"] (zI zA4):=by ac_rfl
theorem tP:zR ["_law_d","_law_places"] ["_law_d"] (zI uZ):=by ac_rfl
theorem zDb:zR ["_law_places"] ["_law_places"] (zI wI):=by ac_rfl
theorem zBd:zR ["_law_script","_law_some","_law_names_here","_law_book","_law_m","_law_k","_law_d","_law_deed_here","_law_due_here"] ["_law_script"] (zI zMi):=by ac_rfl
theorem zQ1:zR ["self"] ["self"] (zI zE7):=by ac_rfl
theorem zGi:zR ["self","row","number","fresh"] ["self","row"] (zI zE3):=by ac_rfl
theorem zHe:zR ["self","places"] ["self"] (zI zCo):=by ac_rfl
theorem zOy:zR ["self"] ["self"] (zI zCr):=by ac_rfl
theorem zJ8:zR ["self","runs"] ["self"] (zI zEo):=by ac_rfl
theorem zPw:zR ["self"] ["self"] (zI zCt):=by ac_rfl
theorem zM4:zR ["self"] ["self"] (zI zA3):=by ac_rfl
def qF:af:=82
def zBo:af:=130
def rB:af:=250
def zAy:af:=190
def rW:af:=238
def xU:af:=202
def sP:af:=118
def rV:af:=166
def sK:af:=142
def yC:af:=57
def zAn:af:=106
def vJ:af:=214
def tM:af:=226
def sF:af:=178
def zFx:af:=269
def wM:af:=94
def wS:af:=70
def tL:af:=154
def excL:List af:=[tL,wS,wM,zFx,sF,tM,vJ,zAn,sK,rV,sP,xU,rW,zAy,rB,zBo,qF]
def bkC:af:=611
def zZj:af:=272
def zZ2:List (Key×V):=[(.inr "marks",.int 20),(.inr "banks",.int 8),(.inr "runs",.int 12),(.inr "notes",.int 24)]
def zWd:af:=437
def zVz:List (Key×V):=[(.inr "mark",.ref 366),(.inr "move",.ref 373),(.inr "unmark",.ref 380),(.inr "bank",.ref 387),(.inr "level",.ref 394),(.inr "sail",.ref 401),(.inr "right",.ref 408),(.inr "bearing",.ref 422),(.inr "range",.ref 429),(.inr "strike",.ref 436)]
def zMe:af:=458
def zMg:af:=535
def zI7:af:=582
def zIj:af:=589
def zMb:af:=594
def zIq:af:=601
def zB6:af:=608
structure Cb(P:aK)(w:aU)(mg:az->Option ag)(base:aX):Prop where
 state:InB base λK=>Cls K bkC/\zA7 K bkC "state"
 past:InB base λK=>Cls K bkC/\zA7 K bkC "past"
 later:InB base λK=>Cls K bkC/\zA7 K bkC "later"
 m_deed:InB base λK=>Cls K bkC/\zS7 K bkC "deed" zMg
 m_marks:InB base λK=>Cls K bkC/\zS7 K bkC "marks" zI7
 m_banks:InB base λK=>Cls K bkC/\zS7 K bkC "banks" zIj
 m_runs:InB base λK=>Cls K bkC/\zS7 K bkC "runs" zMb
 m_notes:InB base λK=>Cls K bkC/\zS7 K bkC "notes" zIq
 m_coming:InB base λK=>Cls K bkC/\zS7 K bkC "coming" zB6
 make:InB base λK=>Mk K bkC zMe
 gBook:mg "Book" = some (.ref bkC)
 dMOST:zYz P w base zZj zZ2
 gMOST:mg "MOST" = some (.ref zZj)
 dAFTER:zYz P w base zWd zVz
 gAFTER:mg "AFTER" = some (.ref zWd)
 LONGEST_NAME:∃ k,mg "LONGEST_NAME" = some (.int 8 k)
 FARTHEST:∃ k,mg "FARTHEST" = some (.int 1000 k)
 LONGEST_WAY:∃ k,mg "LONGEST_WAY" = some (.int 100 k)
 t_mark:mg "after_mark" = some (.ref 366)
 t_move:mg "after_move" = some (.ref 373)
 t_unmark:mg "after_unmark" = some (.ref 380)
 t_bank:mg "after_bank" = some (.ref 387)
 t_level:mg "after_level" = some (.ref 394)
 t_sail:mg "after_sail" = some (.ref 401)
 t_right:mg "after_right" = some (.ref 408)
 t_bearing:mg "after_bearing" = some (.ref 422)
 t_range:mg "after_range" = some (.ref 429)
 t_strike:mg "after_strike" = some (.ref 436)
 gBadBank:mg "BadBank" = some (.ref tL)
 gBadName:mg "BadName" = some (.ref wS)
 gBadPlace:mg "BadPlace" = some (.ref wM)
 gBadRow:mg "BadRow" = some (.ref zFx)
 gBadRun:mg "BadRun" = some (.ref sF)
 gBadTurn:mg "BadTurn" = some (.ref tM)
 gBadWay:mg "BadWay" = some (.ref vJ)
 gFull:mg "Full" = some (.ref zAn)
 gMarkError:mg "MarkError" = some (.ref yC)
 gNeeded:mg "Needed" = some (.ref sK)
 gNoBank:mg "NoBank" = some (.ref rV)
 gNoMark:mg "NoMark" = some (.ref sP)
 gNoMoment:mg "NoMoment" = some (.ref xU)
 gNoNote:mg "NoNote" = some (.ref rW)
 gNoRun:mg "NoRun" = some (.ref zAy)
 gNothingLeft:mg "NothingLeft" = some (.ref rB)
 gSame:mg "Same" = some (.ref zBo)
 gTaken:mg "Taken" = some (.ref qF)
 e_BadBank:bu "BadBank" tL bmV "ValueError.__new__" mg base
 t_BadBank_MarkError:zA5 base (.ref tL) yC
 e_BadName:bu "BadName" wS bmV "ValueError.__new__" mg base
 t_BadName_MarkError:zA5 base (.ref wS) yC
 e_BadPlace:bu "BadPlace" wM bmV "ValueError.__new__" mg base
 t_BadPlace_MarkError:zA5 base (.ref wM) yC
 e_BadRun:bu "BadRun" sF bmV "ValueError.__new__" mg base
 t_BadRun_MarkError:zA5 base (.ref sF) yC
 e_BadTurn:bu "BadTurn" tM bmV "ValueError.__new__" mg base
 t_BadTurn_MarkError:zA5 base (.ref tM) yC
 e_BadWay:bu "BadWay" vJ bmV "ValueError.__new__" mg base
 t_BadWay_MarkError:zA5 base (.ref vJ) yC
 e_Full:bu "Full" zAn bmV "ValueError.__new__" mg base
 t_Full_MarkError:zA5 base (.ref zAn) yC
 e_Needed:bu "Needed" sK bmV "ValueError.__new__" mg base
 t_Needed_MarkError:zA5 base (.ref sK) yC
 e_NoBank:bu "NoBank" rV bmV "ValueError.__new__" mg base
 t_NoBank_MarkError:zA5 base (.ref rV) yC
 e_NoMark:bu "NoMark" sP bmV "ValueError.__new__" mg base
 t_NoMark_MarkError:zA5 base (.ref sP) yC
 e_NoMoment:bu "NoMoment" xU bmV "ValueError.__new__" mg base
 t_NoMoment_MarkError:zA5 base (.ref xU) yC
 e_NoNote:bu "NoNote" rW bmV "ValueError.__new__" mg base
 t_NoNote_MarkError:zA5 base (.ref rW) yC
 e_NoRun:bu "NoRun" zAy bmV "ValueError.__new__" mg base
 t_NoRun_MarkError:zA5 base (.ref zAy) yC
 e_Same:bu "Same" zBo bmV "ValueError.__new__" mg base
 t_Same_MarkError:zA5 base (.ref zBo) yC
 e_Taken:bu "Taken" qF bmV "ValueError.__new__" mg base
 t_Taken_MarkError:zA5 base (.ref qF) yC
 isx:InB base λK=>zYy K excL=true
set_option hygiene false in
local macro_rules | `(tactic| fail) => `(tactic| first | with_reducible exact yN | with_reducible exact zH | ((with_reducible apply zZk); exact rfl; fail; fail) | with_reducible exact zJ | with_reducible exact zDi | with_reducible exact zS5 | ((with_reducible apply zZd); first | ((with_reducible apply zYv "bool"); exact zBl (v := .ty "bool") rfl Z.bool zQ7 rfl) | ((with_reducible apply zYv "dict"); exact zBl (v := .ty "dict") rfl Z.dict zBg rfl) | ((with_reducible apply zYv "int"); exact zBl (v := .ty "int") rfl Z.int zQn rfl) | ((with_reducible apply zYv "list"); exact zBl (v := .ty "list") rfl Z.list zBj rfl) | ((with_reducible apply zYv "str"); exact zBl (v := .ty "str") rfl Z.str zVv rfl) | ((with_reducible apply zYv "tuple"); exact zBl (v := .ty "tuple") rfl Z.tuple zI8 rfl) | exact pv 0 | exact pv 1 | exact pv 2 | exact pv 3 | exact pv 4 | exact pv 5 | exact pv 6 | exact pv 7 | exact pv 8 | exact pv 9 | exact pv 10 | exact pv 11 | exact pv 12 | exact pv 13 | exact pv 14 | exact pv 15) | ((with_reducible apply m_sub); first | ((with_reducible apply wV zWw); fail; fail; fail) | ((with_reducible apply m_ix); exact λ_ _ => rfl; fail; fail)) | ((with_reducible apply m_bin); first | ((with_reducible apply xO zA9); fail; fail) | ((with_reducible apply xO zVm); fail; fail) | ((with_reducible apply xO zY6); fail; fail) | ((with_reducible apply xO zT7); fail; fail) | ((with_reducible apply xO zHv); fail; fail) | ((with_reducible apply xO yc9); fail; fail)) | ((with_reducible apply zZh); first | ((with_reducible apply m_own); (with_reducible assumption); exact ⟨rfl, rfl, rfl, rfl, rfl⟩; exact hr.mono (by decide); exact rfl; decide; exact rfl; exact rfl; fail) | ((with_reducible apply zMf zT4 zZw); exact Z.abs; exact rfl; decide; decide; exact rfl; exact rfl; fail) | ((with_reducible apply zMf (tX rfl) zGg); exact Z.all; exact rfl; decide; decide; exact rfl; exact rfl; fail) | ((with_reducible apply zMf (zLq rfl) zV2); exact Z.any; exact rfl; decide; decide; exact rfl; exact rfl; fail) | ((with_reducible apply zMf zMv zX); exact Z.isinstance; exact rfl; decide; decide; exact rfl; exact rfl; fail) | ((with_reducible apply zMf yV wQ); exact Z.len; exact rfl; decide; decide; exact rfl; exact rfl; fail) | ((with_reducible apply zMf (zQh rfl) yd4); exact Z.max; exact rfl; decide; decide; exact rfl; exact rfl; fail) | ((with_reducible apply zMf call_sortedT vL); exact Z.sorted; exact rfl; decide; decide; exact rfl; exact rfl; fail) | ((with_reducible apply zYx call_bool1 zQ7); exact Z.bool; exact rfl; decide; decide; exact rfl; exact rfl; fail) | ((with_reducible apply zYx rN zBg); exact Z.dict; exact rfl; decide; decide; exact rfl; exact rfl; fail) | ((with_reducible apply zYx zK5 zQn); exact Z.int; exact rfl; decide; decide; exact rfl; exact rfl; fail) | ((with_reducible apply zYx zD1 zBj); exact Z.list; exact rfl; decide; decide; exact rfl; exact rfl; fail) | ((with_reducible apply zYx call_str_any zVv); exact Z.str; exact rfl; decide; decide; exact rfl; exact rfl; fail) | ((with_reducible apply zYx zCy zI8); exact Z.tuple; exact rfl; decide; decide; exact rfl; exact rfl; fail)) | ((with_reducible apply xF); fail) | ((with_reducible apply vW); fail) | ((with_reducible apply pe_un zY4); fail) | ((with_reducible apply zVl); fail) | ((with_reducible apply m_cmp); first | ((with_reducible apply sA zW7); fail; fail; exact yX _) | ((with_reducible apply sA yc2); fail; fail; exact yX _) | ((with_reducible apply sA zUo); fail; fail; exact yX _) | ((with_reducible apply sA zBu); fail; fail; exact yX _) | ((with_reducible apply sA zI1); fail; fail; exact yX _) | ((with_reducible apply sA zYu); fail; fail; exact yX _) | ((with_reducible apply sA op_isN); fail; fail; exact yX _) | ((with_reducible apply sA op_notN); fail; fail; exact yX _)) | ((with_reducible apply ya8); first | ((with_reducible apply yM zW7); fail; fail; exact yX _) | ((with_reducible apply yM yc2); fail; fail; exact yX _) | ((with_reducible apply yM zUo); fail; fail; exact yX _) | ((with_reducible apply yM zBu); fail; fail; exact yX _) | ((with_reducible apply yM zI1); fail; fail; exact yX _) | ((with_reducible apply yM zYu); fail; fail; exact yX _) | ((with_reducible apply yM op_isN); fail; fail; exact yX _) | ((with_reducible apply yM op_notN); fail; fail; exact yX _)) | ((with_reducible apply zXq); fail) | ((with_reducible apply zC4); fail) | ((with_reducible apply zKj); fail) | ((with_reducible apply zG7); fail; fail) | ((with_reducible apply zO9); fail; fail) | ((with_reducible apply zAf); fail) | ((with_reducible apply zJ2); fail) | ((with_reducible apply zKb); fail; fail) | ((with_reducible apply pe_or); fail; fail) | ((with_reducible apply vY); fail; fail; fail) | with_reducible exact uQ | ((with_reducible apply vV); fail) | ((with_reducible apply m_val); exact λ_ => rfl; fail))
set_option hygiene false in
local macro_rules | `(tactic| specialize $e) => `(tactic| refine F.ok $e (λvs H Q E h => ?_) (λcdv A outer s H vs Q E hr h => ?_))
local macro_rules | `(tactic| nofun) => `(tactic| ((any_goals fail); try dsimp only [L2.cxOf]))
section
variable{P:aK}{w:aU}{mg:az->Option ag}{base:aX}{f:af}{fd:bT}
def yb8(K:ae):Sp:=λvs H Q _=>∃(a b:af)(us ws:List V)(x1 y1 x2 y2:Int),vs=[.ref a,.ref b]/\Sq K H a us/\Sq K H b ws/\atI us 0=some (.int x1)/\atI us 1=some (.int y1)/\atI ws 0=some (.int x2)/\atI ws 1=some (.int y2) /\
 x1.natAbs<=10^18/\y1.natAbs<=10^18/\Q (.int (x1*y2-y1*x2)) H
def zFs(K:ae):Sp:=yb8 K
theorem zQc(F:Fun K "turn" "turn" zEw f fd)(Z:Zs mg)(CB:Cb P w mg base)  : yY P w K mg base CX0 1 f fd ["one","other"] (zFs K):=by
 specialize zR4
 ·obtain⟨a,b,us,ws,x1,y1,x2,y2,rfl,_⟩:=h;rfl
 obtain⟨a,b,us,ws,x1,y1,x2,y2,rfl,ha,hb,u0,u1,w0,w1,m1,m2,q⟩:=h
 refine'⟨_,(zF (zN ?_)),?_⟩
 nofun
 exact⟨_,U,a,_,_,.int x1,U,U,ha,u0,_,U,b,_,_,.int y2,U,U,hb,w1,_,_,U,U,zY0 (by lia),
  _,rfl,a,_,_,.int y1,rfl,rfl,ha,u1,_,rfl,b,_,_,.int x2,rfl,rfl,hb,w0,_,_,rfl,rfl,zY0 (by lia),_,_,rfl,rfl,q⟩
def qV(K:ae):Sp:=λvs H Q _=>∃(a b:af)(x1 y1 x2 y2:Int),vs=[.ref a,.ref b]/\Sq K H a [.int x1,.int y1]/\Sq K H b [.int x2,.int y2] /\
 ∀ p,H p=none->Q (.ref p) (upd H p (.tup [.int (x2-x1),.int (y2-y1)]))
theorem zEc(F:Fun K "stretch_way" "stretch_way" wW f fd)(Z:Zs mg)(CB:Cb P w mg base)  : yY P w K mg base CX0 1 f fd ["start","end"] (qV K):=by
 specialize zD7
 ·obtain⟨a,b,x1,y1,x2,y2,rfl,_⟩:=h;rfl
 obtain⟨a,b,x1,y1,x2,y2,rfl,ha,hb,q⟩:=h
 refine'⟨_,(zF (zN ?_)),?_⟩
 nofun
 exact⟨_,U,b,_,_,.int x2,U,U,hb,U,_,U,a,_,_,.int x1,U,U,ha,U,_,_,U,U,
  _,rfl,b,_,_,.int y2,rfl,rfl,hb,rfl,_,rfl,a,_,_,.int y1,rfl,rfl,ha,rfl,_,_,rfl,rfl,sz2,λp hp=>q p hp⟩
def PrQ(K:ae)(H:Hp)(l:af)(ps:List Pr):Prop:=Sq K H l (zQ ps)/\zCz H (10^8) ps
theorem PrQ.same{K:ae}{H H':Hp}{l:af}{ps:List Pr}(h:PrQ K H l ps)(s:Same H H'):PrQ K H' l ps:=⟨s.sq h.1,h.2.same s⟩
theorem ye7{i n:Nat}{k:Int}(e:k=(i:Int)):k%(n:Int)=((i%n:Nat):Int):=by
 rw[e];exact(Int.natCast_emod i n).symm
def qY(K:ae):Sp:=λvs H Q _=>∃(l:af)(ps:List Pr)(i:Nat),vs=[.ref l,.int (i:Int)]/\PrQ K H l ps/\i<ps.length/\ps.length<=1000 /\
 ∀ H',Same H H'->Q (.bl (vS ps i)) H'
theorem zEd(F:Fun K "all_left_of" "all_left_of" uE f fd)(Z:Zs mg)(CB:Cb P w mg base)(yBz:Has P w K mg base "turn" 1 ["one","other"] (zFs K))(yAh:Has P w K mg base "stretch_way" 1 ["start","end"] (qV K)):yY P w K mg base CX0 2 f fd ["corners","number"] (qY K):=by
 specialize xL
 ·obtain⟨l,ps,i,rfl,_⟩:=h;rfl
 obtain⟨l,ps,i,rfl,hL,hi,hn,q⟩:=h
 refine'⟨_,(zC (yE 2 xL.nd ?_)
   (zC (yE 3 xL.nd ?_)
   (zC (tO bZ rfl (zL1 rfl Z.range ?_) (rO 4 xL.nd) (zC (yE 5 xL.nd ?_)
   (zF (zZ ?_ (zF (zN zDi)) zM))))
   (zF (zN zDi))))),?_⟩
 nofun
 obtain⟨t0,m0,g0,a0⟩:=rS (ps:=ps) (i:=i) (k:=(i:Int)) rfl hi;have hm1:(i+1)%ps.length<ps.length:=jR _ (by lia);obtain⟨t1,m1,g1,a1⟩:=rS (ps:=ps) (i:=(i+1)%ps.length) (k:=((i:Int)+1)%(ps.length:Int)) (ye7 (by lia)) hm1;rw[<- zT ps] at a1;obtain⟨e0,b00,b01⟩:=hL.2 t0 m0;obtain⟨e1,b10,b11⟩:=hL.2 t1 m1;have nl:((zQ ps).length:Int)=(ps.length:Int):=by rw[zT]
 exists _,U,_,U,l,_,_,_,U,U,hL.1,a0;refine⟨_,U,_,U,_,U,_,_,U,U,_,U,l,_,U,hL.1,_,_,U,U,(by show(0:Int)<((zQ ps).length:Int); lia),l,_,_,_,rfl,rfl,hL.1,a1,
  t0.1,t1.1,t0.2.1,t0.2.2,t1.2.1,t1.2.2,rfl,.inr (SqT.of e0),.inr (SqT.of e1),λd hd=>?_⟩
 have sd:Same H (upd H d (.tup [.int (t1.2.1-t0.2.1),.int (t1.2.2-t0.2.2)])):=zD hd _;have ed:upd H d (.tup [.int (t1.2.1-t0.2.1),.int (t1.2.2-t0.2.2)]) d=some (.tup [.int (t1.2.1-t0.2.1),.int (t1.2.2-t0.2.2)]):=zA;generalize upd H d (.tup [.int (t1.2.1-t0.2.1),.int (t1.2.2-t0.2.2)])=H1 at sd ed ⊢;exists _,U,l,_,U,(sd.sq hL.1),2,_,U,(by lia);refine tV (lo:=2) (n:=(((zQ ps).length:Int)-2).toNat) (λj σ H'=>Same H1 H'/\(∀ j'<j,zDm ps i ((i+(2+j'))%ps.length)=true)/\∃ u4 u5:Option V,σ=[some (.ref l),some (.int (i:Int)),some (.ref t0.1),some (.ref d),u4,u5])
  ⟨Same.refl _,λj' hj'=>absurd hj' (fw _),none,none,rfl⟩ ?_ ?_
 ·rintro j σ H' hj ⟨sH,hall,u4,u5,rfl⟩;have s2:=sd.trans sH;have hjl:j<ps.length-2:=by lia
  have hmk:(i+(2+j))%ps.length<ps.length:=jR _ (by lia);obtain⟨t2,m2,g2,a2⟩:=rS (ps:=ps) (i:=(i+(2+j))%ps.length) (k:=((i:Int)+(2+(j:Int)))%(ps.length:Int)) (ye7 (by lia)) hmk;rw[<- zT ps] at a2;obtain⟨e2,b20,b21⟩:=hL.2 t2 m2;have lf:zDm ps i ((i+(2+j))%ps.length)=decide (0<(t1.2.1-t0.2.1)*(t2.2.2-t0.2.2)-(t1.2.2-t0.2.2)*(t2.2.1-t0.2.1)):=by
   unfold zDm;rw[zHg g0,zHg g1,zHg g2];rfl
  exists _,U,_,U,_,U,_,_,U,U,_,U,l,_,U,(s2.sq hL.1),_,_,U,U,(by show(0:Int)<((zQ ps).length:Int); lia),l,_,_,_,rfl,rfl,(s2.sq hL.1),a2;refine⟨_,U,_,U,_,U,t0.1,t2.1,t0.2.1,t0.2.2,t2.2.1,t2.2.2,U,.inr (SqT.of (s2 _ _ e0)),.inr (SqT.of (s2 _ _ e2)),λd2 hd2=>?_⟩;have s3:=zD hd2 (.tup [.int (t2.2.1-t0.2.1),.int (t2.2.2-t0.2.2)]);exists d,d2,_,_,t1.2.1-t0.2.1,t1.2.2-t0.2.2,t2.2.1-t0.2.1,t2.2.2-t0.2.2,U,.inr (SqT.of (s3 _ _ (sH _ _ ed))),.inr (SqT.of zA),U,U,U,U,by lia,by lia,_,_,U,U,_,rfl;refine ifD (λhle=>?_) (λhgt=>?_)
  ·have hb:vS ps i=false:=by
    unfold vS;rw[fJ];intro z;have z2:=aT.mp z j (bg.mpr hjl);rw[lf] at z2;have z3:=of_decide_eq_true z2;lia
   have r:=q _ (s2.trans s3);rw[hb] at r;exact r
  ·refine⟨sH.trans s3,λj' hj'=>?_,_,_,U⟩;by_cases e:j'=j
   ·rw[e,lf];exact decide_eq_true (by lia)
   ·exact hall j' (by lia)
 ·rintro σ H2 ⟨sH,hall,_,_,rfl⟩;have hb:vS ps i=true:=by
   unfold vS;rw[aT];intro j hj;exact hall j (by have:=bg.mp hj; lia)
  have r:=q _ (sd.trans sH);rw[hb] at r;exact r
def zDw(K:ae):Sp:=λvs H Q _=>∃(l:af)(ps:List Pr),vs=[.ref l]/\PrQ K H l ps/\ps.length<=1000/\∀ H',Same H H'->Q (.bl (isB ps)) H'
theorem zL4(F:Fun K "is_bank" "is_bank" qH f fd)(Z:Zs mg)(CB:Cb P w mg base)(yAl:Has P w K mg base "all_left_of" 2 ["corners","number"] (qY K)):yY P w K mg base CX0 3 f fd ["corners"] (zDw K):=by
 specialize zLh
 ·obtain⟨l,ps,rfl,_⟩:=h;rfl
 obtain⟨l,ps,rfl,hL,hn,q⟩:=h
 refine'⟨_,(zC (zZ ?_ (zF (zN zDi)) zM)
   (zF (zN (zS (tX rfl) rfl Z.all zGg (zB (tT (T:=["number"]) (caps:=[("corners",0)]) ⟨rfl,by decide +kernel,by decide +kernel,rfl,⟨⟨rfl,rfl,cT rfl⟩,bB⟩⟩ rfl (vK rfl Z.range ?_) (λ_=>(rO 0 (show(["number","corners"]:List az).Nodup by decide +kernel))) (λ_=>uG) (λ_=>?_)) zH))))),?_⟩
 nofun
 have nl:((zQ ps).length:Int)=(ps.length:Int):=by rw[zT]
 exists _,U,l,_,U,hL.1,_,_,U,U,_,rfl;refine ifD (λh3=>?_) (λh3=>?_)
 ·have hb:isB ps=false:=by unfold isB; rw[decide_eq_false (by lia),dE]
  have r:=q _ (Same.refl _);rw[hb] at r;exact r
 exists _,U,l,_,U,hL.1,_,_,U,U,_,rfl;refine ifD (λh8=>?_) (λh8=>?_)
 ·have hb:isB ps=false:=by unfold isB; rw[decide_eq_false (p:=ps.length<=8) (by lia),dE,jd]
  have r:=q _ (Same.refl _);rw[hb] at r;exact r
 have hb:isB ps=(bv ps.length).all (vS ps):=by unfold isB; rw[decide_eq_true (by lia),decide_eq_true (by lia),eJ,eJ]
 refine⟨_,U,l,_,U,hL.1,_,U,(by lia),(by lia),λc D hD=>?_⟩;refine zBr (lo:=0) (n:=(((zQ ps).length:Nat):Int).toNat) (λj σ zs H'=>Same H H'/\H' D=some (.lst zs)/\zs=((bv j).map (vS ps)).map V.bl/\∃ u0:Option V,σ=[u0,some (.ref l)])
  ⟨zD hD _,zA,rfl,none,rfl⟩ (λi σ ys H' _ ⟨_,e,_⟩=>e) ?_ ?_
 ·rintro j σ zs H' hj ⟨sH,eD,rfl,u0,rfl⟩;refine⟨_,U,_,U,l,ps,j,(by rw[nI]; rfl),hL.same sH,by lia,hn,λH2 s2=>⟨s2 _ _ eD,zV (by rw[aa,aa,dn]; lia),(sH.trans s2).putNew hD,zA,?_,_,rfl⟩⟩;rw[iQ,aG,aG];rfl
 ·rintro σ zs H' ⟨sH,eD,rfl,u0,rfl⟩;exists D,_,U,SqL.of eD;have r:=q _ sH;rw[hb] at r;have e:((bv (((zQ ps).length:Nat):Int).toNat).map (vS ps)).all id=(bv ps.length).all (vS ps):=by
   rw[cw,zT,kz];rfl
  rw[e];exact r
def qT(K:ae):Sp:=λvs H Q _=>vs=[]/\∀(d:af)(H':Hp),Same H H'->H d=none->zNu H' d BS.nil->Q (.ref d) H'
theorem zEj(F:Fun K "nothing_yet" "nothing_yet" uC f fd)(Z:Zs mg)(CB:Cb P w mg base)  : yY P w K mg base CX0 1 f fd [] (qT K):=by
 specialize zEh
 ·obtain⟨rfl,_⟩:=h;rfl
 obtain⟨rfl,q⟩:=h
 refine'⟨_,zF ?h,?_⟩
 rotate_left
 with_reducible refine' zN ?_
 rotate_left
 with_reducible exact zMw (xZ zJ sY (xZ zJ sY (xZ zJ sY (xZ zJ sY (xZ zJ yN zL7))))) rfl rfl (λz=>nomatch z) (by decide)
 try dsimp only[L2.cxOf]
 intro p hp m hm b hb r hr n hn;have s1:=zD hp (.dK []);have s2:=zD hm (.dK []);have s3:=zD hb (.dK []);have s4:=zD hr (.dK []);have s5:=zD hn (.dK []);have em:=(s3.trans (s4.trans s5)) _ _ zA;have eb:=(s4.trans s5) _ _ zA;have er:=s5 _ _ zA;have ep:=(s2.trans (s3.trans (s4.trans s5))) _ _ zA;exists ep,[(.inr "marks",.ref m),(.inr "banks",.ref b),(.inr "runs",.ref r),(.inr "notes",.ref n),(.inr "coming",.int 1)],U,(show 5<=15 by decide);rw[zUv];have ne:∀{x:af},(upd H p (.dK [])) x=none->x≠p:=λ{x} h z=>by rw[z,zA] at h; cases h
 have nb:=ne (s2.free hb);have nr:=ne (s2.free (s3.free hr));have nn:=ne (s2.free (s3.free (s4.free hn)));refine q p _ (λc o e=>?_) hp ⟨m,b,r,n,.inl zA,.nil ?_,.nil ?_,.nil ?_,.nil ?_⟩
 ·rw[zG (zL e hp)];exact(s1.trans (s2.trans (s3.trans (s4.trans s5)))) c o e
 ·rw[zG (ne hm)]; exact em
 ·rw[zG nb]; exact eb
 ·rw[zG nr]; exact er
 ·rw[zG nn]; exact zA
def xQ(K:ae):Sp:=λvs H Q _=>∃(d a:af)(kind:az)(key:Key)(v:V)(kvs ms:List (Key×V)),vs=[.ref d,.str kind,kV key,v]/\Rd H d (.dK kvs)/\wF kvs (.inr kind)=some (.ref a)/\Rd H a (.dK ms)/\kvs.length<=100/\ms.length<=100 /\
 ∀(f c:af)(H':Hp),Same H H'->H f=none->f≠c->H' f=some (.dK (rF kvs (.inr kind) (.ref c)))->H' c=some (.dK (rF ms key v))->Q (.ref f) H'
theorem zLo(F:Fun K "changed" "changed" qC f fd)(Z:Zs mg)(CB:Cb P w mg base)  : yY P w K mg base CX0 1 f fd ["state","kind","key","value"] (xQ K):=by
 specialize zDs
 ·obtain⟨d,a,kind,key,v,kvs,ms,rfl,_⟩:=h;rfl
 obtain⟨d,a,kind,key,v,kvs,ms,rfl,hd,ea,ha,l1,l2,q⟩:=h
 refine'⟨_,(zC (yE 4 zDs.nd ?_)
   (zC (rH (zW hr) (pv 4) (pv 1) (xE rN rfl Z.dict zBg (zB (zO (zW hr) (pv 0) (pv 1) (λ_ _=>rfl)) zH)) rfl)
   (zC (rH (zW hr) (zO (zW hr) (pv 4) (pv 1) (λ_ _=>rfl)) (pv 2) (pv 3) rfl)
   (zF (zN (pv 4)))))),?_⟩
 nofun
 refine⟨_,U,d,kvs,U,hd,λp hp=>?_⟩;have s1:=zD hp (.dK kvs);have hd1:Rd (upd H p (.dK kvs)) d (.dK kvs):=hd.imp (s1 _ _) λ⟨o,e⟩=>⟨o,s1 _ _ e⟩;have ha1:Rd (upd H p (.dK kvs)) a (.dK ms):=ha.imp (s1 _ _) λ⟨o,e⟩=>⟨o,s1 _ _ e⟩;refine⟨_,U,_,U,d,.ref a,U,.inl ⟨kvs,.inr kind,hd1,U,ea.symm⟩,a,ms,U,ha1,λc hc=>?_⟩;have npc:p≠c:=zL zA hc;have s2:=zD hc (.dK ms);have e2:upd (upd H p (.dK kvs)) c (.dK ms) p=some (.dK kvs):=s2 _ _ zA;exists _,U,_,U,p,_,U,zK3.k (k:=.inr kind) e2 (zV (by lia));have e3:upd (upd (upd H p (.dK kvs)) c (.dK ms)) p (.dK (rF kvs (.inr kind) (.ref c))) c=some (.dK ms):=by rw[zG npc.symm,zA]
 refine⟨_,U,_,U,_,U,p,.ref c,U,.inl ⟨_,.inr kind,.inl zA,U,?_⟩,_,U,c,_,U,zK3.k e3 (zV (by lia)),_,U,?_⟩
 ·rw[zNq,if_pos rfl]
 refine q p c _ (λb o e=>?_) hp npc ?_ zA
 ·have n1:=zL e hp;have n2:=zL (s1 _ _ e) hc;rw[zG n2,zG n1,zG n2,zG n1];exact e
 ·rw[zG npc,zA]
def sZ(K:ae):Sp:=λvs H Q _=>∃(d a:af)(kind:az)(key:Key)(v:V)(kvs ms:List (Key×V)),vs=[.ref d,.str kind,kV key]/\Rd H d (.dK kvs)/\wF kvs (.inr kind)=some (.ref a)/\Rd H a (.dK ms)/\wF ms key=some v/\kvs.length<=100 /\
 ∀(f c:af)(H':Hp),Same H H'->H f=none->f≠c->H' f=some (.dK (rF kvs (.inr kind) (.ref c)))->H' c=some (.dK (zEi ms key))->Q (.ref f) H'
theorem zL0(F:Fun K "without" "without" qE f fd)(Z:Zs mg)(CB:Cb P w mg base)  : yY P w K mg base CX0 1 f fd ["state","kind","key"] (sZ K):=by
 specialize zDr
 ·obtain⟨d,a,kind,key,v,kvs,ms,rfl,_⟩:=h;rfl
 obtain⟨d,a,kind,key,v,kvs,ms,rfl,hd,ea,ha,ev,l1,q⟩:=h
 refine'⟨_,(zC (yE 3 zDr.nd ?_)
   (zC (rH (zW hr) (pv 3) (pv 1) (xE rN rfl Z.dict zBg (zB (zO (zW hr) (pv 0) (pv 1) (λ_ _=>rfl)) zH)) rfl)
   (zC (yD (zEn (zO (zW hr) (pv 3) (pv 1) (λ_ _=>rfl)) (pv 2) ⟨rfl,rfl,rfl,rfl⟩))
   (zF (zN (pv 3)))))),?_⟩
 nofun
 refine⟨_,U,d,kvs,U,hd,λp hp=>?_⟩;have s1:=zD hp (.dK kvs);have hd1:Rd (upd H p (.dK kvs)) d (.dK kvs):=hd.imp (s1 _ _) λ⟨o,e⟩=>⟨o,s1 _ _ e⟩;have ha1:Rd (upd H p (.dK kvs)) a (.dK ms):=ha.imp (s1 _ _) λ⟨o,e⟩=>⟨o,s1 _ _ e⟩;refine⟨_,U,_,U,d,.ref a,U,.inl ⟨kvs,.inr kind,hd1,U,ea.symm⟩,a,ms,U,ha1,λc hc=>?_⟩;have npc:p≠c:=zL zA hc;have s2:=zD hc (.dK ms);have e2:upd (upd H p (.dK kvs)) c (.dK ms) p=some (.dK kvs):=s2 _ _ zA;exists _,U,_,U,p,_,U,zK3.k (k:=.inr kind) e2 (zV (by lia));have e3:upd (upd (upd H p (.dK kvs)) c (.dK ms)) p (.dK (rF kvs (.inr kind) (.ref c))) c=some (.dK ms):=by rw[zG npc.symm,zA]
 refine⟨_,U,_,U,p,.ref c,U,.inl ⟨_,.inr kind,.inl zA,U,?_⟩,c,U,.inl ⟨ms,.inl e3⟩,_,U,ms,key,v,e3,U,ev,_,U,?_⟩
 ·rw[zNq,if_pos rfl]
 refine q p c _ (λb o e=>?_) hp npc ?_ zA
 ·have n1:=zL e hp;have n2:=zL (s1 _ _ e) hc;rw[zG n2,zG n1,zG n2,zG n1];exact e
 ·rw[zG npc,zA]
def zDx(ns:List Int)(m:Int):Bool:=ns.all λn=>decide (-m<=n)&&decide (n<=m)
def qQ(K:ae):Sp:=λvs H Q _=>∃(a:af)(ns:List Int)(m:Int),vs=[.ref a,.int m]/\H a=some (.tup (ns.map V.int))/\ns.length<=100/\∀ H',Same H H'->Q (.bl (zDx ns m)) H'
theorem zMl(F:Fun K "within" "within" zA2 f fd)(Z:Zs mg)(CB:Cb P w mg base)  : yY P w K mg base CX0 1 f fd ["numbers","most"] (qQ K):=by
 specialize zMa
 ·obtain⟨a,ns,m,rfl,_⟩:=h;rfl
 obtain⟨a,ns,m,rfl,ha,hl,q⟩:=h
 refine'⟨_,(zF (zN (zS (tX rfl) rfl Z.all zGg (zB (tT (T:=["number"]) (caps:=[("most",1)]) ⟨rfl,by decide +kernel,by decide +kernel,rfl,⟨⟨rfl,rfl,cT rfl⟩,bB⟩⟩ rfl (zNe (pv 0)) (λ_=>(rO 0 (show(["number","most"]:List az).Nodup by decide +kernel))) (λ_=>uG) (λ_=>(zBw zBu zBu ?_ (pv 0) (pv 1)))) zH)))),?_⟩
 nofun
 refine⟨_,U,a,U,.inr ⟨⟨_,SqT.of ha⟩,λc D hD=>?_⟩⟩;refine zJl (K:=K) (a:=a) (xs:=ns.map V.int) (λi σ zs H'=>Same H H'/\H' D=some (.lst zs)/\zs=((ns.take i).map λn=>decide (-m<=n)&&decide (n<=m)).map V.bl/\∃ u0:Option V,σ=[u0,some (.int m)])
  ⟨zD hD _,zA,rfl,none,rfl⟩ (λi σ zs H' _ ⟨sH,e,_⟩=>⟨SqT.of (sH _ _ ha),e⟩) ?_ ?_
 ·rintro i x σ zs H' hi ⟨sH,eD,rfl,u0,rfl⟩;obtain⟨n,gn,rfl⟩:=zDg hi;have hil:=(aM.mp gn).1;have len:(((ns.take i).map λn=>decide (-m<=n)&&decide (n<=m)).map V.bl).length<sizeLine:=zV (by rw[aa,aa,cm]; lia);have fin:∀ b:Bool,b=(decide (-m<=n)&&decide (n<=m))->((ns.take i).map λn=>decide (-m<=n)&&decide (n<=m)).map V.bl++[V.bl b]=((ns.take (i+1)).map λn=>decide (-m<=n)&&decide (n<=m)).map V.bl:=λb e=>by
   rw[bN,gn,e,aG,aG];rfl
  exists _,U,_,U,_,U,_,_,U,U,_,rfl;refine ite2 (λh1=>?_) (λh1=>?_)
  ·exact⟨_,U,_,_,U,U,eD,len,sH.putNew hD,zA,fin _ (by rw[h1,eJ]),_,U⟩
  ·exact⟨eD,len,sH.putNew hD,zA,fin _ (by rw[eq_false_of_ne_true h1,dE]),_,U⟩
 ·rintro σ zs H' ⟨sH,eD,rfl,u0,rfl⟩;exists D,_,U,SqL.of eD;have r:=q _ sH;rw[aa,b7,kz];exact r
def axC:Cl->af
 | .badName=>wS
 | .taken=>qF
 | .badPlace=>wM
 | .full=>zAn
 | .noMark=>sP
 | .same=>zBo
 | .needed=>sK
 | .badBank=>tL
 | .noBank=>rV
 | .badRun=>sF
 | .noRun=>zAy
 | .noMoment=>xU
 | .badWay=>vJ
 | .badTurn=>tM
 | .noNote=>rW
def tU(_:ae):Sp:=λvs H Q E=>∃ x:az,vs=[.str x]/\zFd x/\zNa (wC x) Q E wS H
theorem zVk(a c:Nat):(!decide ((⟨#[c]⟩:az).cps.toList<(⟨#[a]⟩:az).cps.toList))=decide (a<=c):=by
 have e:([c]<[a])↔c<a:=by
  rw[List.cons_lt_cons_iff];simp
 show(!decide ([c]<[a]))=_;by_cases h:c<a
 ·rw[decide_eq_true (e.mpr h),decide_eq_false (by lia)];rfl
 ·rw[decide_eq_false (λz=>h (e.mp z)),decide_eq_true (by lia)];rfl
theorem zFn(F:Fun K "check_name" "check_name" vE f fd)(Z:Zs mg)(CB:Cb P w mg base)  : yY P w K mg base (CX1 P w) 1 f fd ["name"] (tU K):=by
 refine F.okX zFk (λvs H Q E h=>?_) (λcdv A outer s H vs Q E hr h=>?_)
 ·obtain⟨x,rfl,_⟩:=h;rfl
 obtain⟨x,rfl,as,q⟩:=h;exists _,(zF (zZ (PW.pt (zO9 (yM zUo (zS zAu rfl Z.len wQ (zB (pv 0) zH)) yN (yX _)) (zO9 (yM zI1 (zS zAu rfl Z.len wQ (zB (pv 0) zH)) (zN6 CB.LONGEST_NAME) (yX _)) (zKj (zAf (zA6 (zS (tX rfl) rfl Z.all zGg (zB (tT (T:=["letter"]) (caps:=[]) ⟨rfl,by decide +kernel,by decide +kernel,rfl,bB⟩ rfl (zQl (pv 0)) (λ_=>(qB (i:=0) (show(["letter"]:List az).Nodup by decide +kernel) rfl (cT rfl))) (λ_=>uG) (λ_=>(zBw zJ1 zJ1 zJ (pv 0) zJ))) zH)))))))) (zF (xI (λ_=>E) CB.e_BadName ao (by decide) ao xJ (zB (wO (zM9 (pv 0) (wR tS))) zH))) zM))
 try dsimp only[L2.cxOf]
 have hz:x.length<=sizeLine:=aD as.2 (by decide);have go:∀ H',Same H H'->¬ wC x->zSn (yb6 (zMr 0) zQo) [some (.str x)] H' (λv H1=>1<=sizeLine/\E (.ref wS) none H1):=λH' s' z=>⟨_,rfl,⟨x,rfl,as.big,aD as.2 (by decide)⟩,λy _=>⟨by show 1<=sizeLine; decide,q.no z s'⟩⟩;exists _,U,x,U,hz,_,_,U,U,_,rfl;refine ifD (λz=>xP (go H (Same.refl _) λo=>absurd o.1 (by lia))) (λz1=>?_);exists _,U,x,U,hz,_,_,U,U,_,rfl;refine ifD (λz=>xP (go H (Same.refl _) λo=>absurd o.2.1 (by lia))) (λz2=>?_);have asc:x.cps.all (· < 128)=true:=by
  rw[jV];intro c hm;exact decide_eq_true (as.1 c (fX.mpr hm))
 refine⟨_,U,x,U,asc,λc D hD=>?_⟩;refine zMd (xs:=zEa x) (λi σ zs H'=>Same H H'/\H' D=some (.lst zs)/\(∃ bs:List Bool,zs=bs.map V.bl/\bs.length=i/\(bs.all id=true↔∀ c∈x.cps.toList.take i,97<=c/\c<=122))/\i<=x.length/\∃ u0:Option V,σ=[u0])
  ⟨zD hD _,zA,⟨[],rfl,rfl,by simp⟩,bw _,none,rfl⟩ (λi σ zs H' ⟨_,e,_⟩=>⟨bB,e⟩) ?_ ?_
 ·rintro i v σ zs H' hi ⟨sH,eD,⟨bs,rfl,lb,ab⟩,hi8,u0,rfl⟩;unfold zEa at hi;rw[ak,aH] at hi;obtain⟨n,gn,rfl⟩:=hi;have hil:i<x.length:=by
   have:=(aM.mp gn).1;rw[bM] at this;exact this
  have fin:∀ b:Bool,(b=true↔97<=n/\n<=122)->H' D=some (.lst (bs.map V.bl))/\(bs.map V.bl).length<sizeLine/\Same H (upd H' D (.lst (bs.map V.bl++[.bl b])))/\upd H' D (.lst (bs.map V.bl++[.bl b])) D=some (.lst (bs.map V.bl++[.bl b]))/\(∃ cs:List Bool,bs.map V.bl++[.bl b]=cs.map V.bl/\cs.length=i+1/\(cs.all id=true↔∀ c∈x.cps.toList.take (i+1),97<=c/\c<=122))/\i+1<=x.length:=λb hb=>by
   refine⟨eD,zV (by rw[aa]; have:=as.2; lia),sH.putNew hD,zA,⟨bs++[b],by rw[aG]; rfl,by rw[aC,lb]; rfl,?_⟩,hil⟩;rw[iU,be,ab,bN,gn];simp only[fo,iH,ig,id,hb,aS,nh,av];constructor
   ·rintro⟨h1,h2⟩ c (h | rfl)
    ·exact h1 c h
    ·exact h2
   ·exact λh=>⟨λc hc=>h c (.inl hc),h n (.inr rfl)⟩
  exists _,U,_,_,U,U,_,rfl;rw[show(!decide (((⟨#[n]⟩:az).cps.toList)<(("a" : az).cps.toList)))=decide (97<=n) from zVk 97 n];refine ifD (λh1=>?_) (λh1=>?_)
  ·exists _,_,U,rfl;rw[show(!decide ((("z" : az).cps.toList)<((⟨#[n]⟩:az).cps.toList)))=decide (n<=122) from zVk n 122];obtain⟨f1,f2,f3,f4,f5,f6⟩:=fin (decide (n<=122)) (by simp[h1]);exact⟨f1,f2,f3,f4,f5,f6,_,U⟩
  ·obtain⟨f1,f2,f3,f4,f5,f6⟩:=fin false (by simp[h1]);exact⟨f1,f2,f3,f4,f5,f6,_,U⟩
 ·rintro σ zs H' ⟨sH,eD,⟨bs,rfl,lb,ab⟩,_,u0,rfl⟩;have lc:(zEa x).length=x.cps.toList.length:=aa _;rw[lc,b7] at ab;exists D,bs,U,SqL.of eD,_,rfl;cases hb:bs.all id with
  | true=>exact yW (q.yes ⟨by lia,by lia,ab.mp hb⟩ sH)
  | false=>exact xP (go H' sH λo=>by rw[ab.mpr o.2.2] at hb; cases hb)
def sL(K:ae):Sp:=λvs H Q E=>∃(d a:af)(kind:az)(n:az)(kvs ms:List (Key×V)),vs=[.ref d,.str kind,.str n]/\Rd H d (.dK kvs)/\wF kvs (.inr kind)=some (.ref a)/\Rd H a (.dK ms)/\kind.length<=1000/\n.length<=1000/\zNa (wF ms (.inr n)=none) Q E qF H
theorem zFz(F:Fun K "check_free" "check_free" uV f fd)(Z:Zs mg)(CB:Cb P w mg base)  : yY P w K mg base (CX1 P w) 1 f fd ["state","kind","name"] (sL K):=by
 refine F.okX zGf (λvs H Q E h=>?_) (λcdv A outer s H vs Q E hr h=>?_)
 ·obtain⟨d,a,kind,n,kvs,ms,rfl,_⟩:=h;rfl
 obtain⟨d,a,kind,n,kvs,ms,rfl,hd,ea,ha,l1,l2,q⟩:=h;exists _,(zF (zZ (qU (zKo (zW hr) (pv 2) (zO (zW hr) (pv 0) (pv 1) (λ_ _=>rfl))) (by with_unfolding_all rfl)) (zF (xI (λ_=>E) CB.e_Taken ao (by decide) ao xJ (zB (wO (wR (zB3 (pv 1) (wR (zB3 (pv 2) (wR tS)))))) zH))) zM))
 try dsimp only[L2.cxOf]
 exists _,U,_,U,_,U,d,.ref a,U,.inl ⟨kvs,.inr kind,hd,U,ea.symm⟩,a,_,U,.inl ⟨ms,.inr n,ha,U,U⟩,_,rfl;cases e:wF ms (.inr n) with
 | none=>exact yW (q.yes e (Same.refl _))
 | some v=>exact xP ⟨_,rfl,.inr ⟨kind,rfl,l1⟩,_,rfl,.inr ⟨n,rfl,l2⟩,λx _=>⟨by show 1<=sizeLine; decide,q.no (by rw[e]; exact λz=>nomatch z) (Same.refl _)⟩⟩
def wJ(K:ae):Sp:=λvs H Q E=>∃(a:af)(x y:Int),vs=[.ref a]/\H a=some (.tup [.int x,.int y])/\qZ x/\qZ y/\zNa (zDy (x,y)) Q E wM H
theorem zEm{x y:Int} : zDx [x,y] 1000=true↔zDy (x,y):=by
 simp only[zDx,zDy,fo,iH,ig,be,decide_eq_true_eq,and_assoc]
theorem zD6(F:Fun K "check_place" "check_place" uB f fd)(Z:Zs mg)(CB:Cb P w mg base)(yBp:Has P w K mg base "within" 1 ["numbers","most"] (qQ K)):yY P w K mg base (CX1 P w) 2 f fd ["place"] (wJ K):=by
 refine F.okX zEe (λvs H Q E h=>?_) (λcdv A outer s H vs Q E hr h=>?_)
 ·obtain⟨a,x,y,rfl,_⟩:=h;rfl
 obtain⟨a,x,y,rfl,ha,t1,t2,q⟩:=h;exists _,(zF (zZ (zAf (zA6 (vA yBp (hr.mono (by decide)) rfl (zB (pv 0) (zB (zN6 CB.FARTHEST) zH))))) (zF (xI (λ_=>E) CB.e_BadPlace ao (by decide) ao xJ (zB (wO (zJy hr.gd hr.units (pv 0) (wR tS))) zH))) zM))
 try dsimp only[L2.cxOf]
 refine⟨_,U,a,[x,y],1000,U,ha,(by show 2<=100; decide),λH' s'=>⟨_,rfl,?_⟩⟩;cases e:zDx [x,y] 1000 with
 | true=>exact yW (q.yes (zEm.mp e) s')
 | false=>exact xP ⟨_,rfl,⟨ptD (x,y),tW (s' _ _ ha),zF7 t1 t2⟩,λz _=>⟨by show 1<=sizeLine; decide,q.no (λz=>by rw[zEm.mpr z] at e; cases e) s'⟩⟩
def rD(K:ae):Sp:=λvs H Q E=>∃(a:af)(x y:Int),vs=[.ref a]/\H a=some (.tup [.int x,.int y])/\qZ x/\qZ y/\zNa (zDy (x,y)) Q E sF H
theorem zGz(F:Fun K "check_run" "check_run" tI f fd)(Z:Zs mg)(CB:Cb P w mg base)(yBp:Has P w K mg base "within" 1 ["numbers","most"] (qQ K)):yY P w K mg base (CX1 P w) 2 f fd ["run"] (rD K):=by
 refine F.okX zG2 (λvs H Q E h=>?_) (λcdv A outer s H vs Q E hr h=>?_)
 ·obtain⟨a,x,y,rfl,_⟩:=h;rfl
 obtain⟨a,x,y,rfl,ha,t1,t2,q⟩:=h;exists _,(zF (zZ (zAf (zA6 (vA yBp (hr.mono (by decide)) rfl (zB (pv 0) (zB (zN6 CB.FARTHEST) zH))))) (zF (xI (λ_=>E) CB.e_BadRun ao (by decide) ao xJ (zB (wO (zJy hr.gd hr.units (pv 0) (wR tS))) zH))) zM))
 try dsimp only[L2.cxOf]
 refine⟨_,U,a,[x,y],1000,U,ha,(by show 2<=100; decide),λH' s'=>⟨_,rfl,?_⟩⟩;cases e:zDx [x,y] 1000 with
 | true=>exact yW (q.yes (zEm.mp e) s')
 | false=>exact xP ⟨_,rfl,⟨ptD (x,y),tW (s' _ _ ha),zF7 t1 t2⟩,λz _=>⟨by show 1<=sizeLine; decide,q.no (λz=>by rw[zEm.mpr z] at e; cases e) s'⟩⟩
def xV(K:ae):Sp:=λvs H Q E=>∃(d a:af)(kind:az)(kvs ms:List (Key×V))(mx:Int),vs=[.ref d,.str kind]/\Rd H d (.dK kvs)/\wF kvs (.inr kind)=some (.ref a)/\Rd H a (.dK ms)/\wF zZ2 (.inr kind)=some (.int mx)/\kind.length<=1000/\zNa ((ms.length:Int)<mx) Q E zAn H
theorem zFv(F:Fun K "check_room" "check_room" uX f fd)(Z:Zs mg)(CB:Cb P w mg base)  : yY P w K mg base (CX1 P w) 1 f fd ["state","kind"] (xV K):=by
 refine F.okX zFl (λvs H Q E h=>?_) (λcdv A outer s H vs Q E hr h=>?_)
 ·obtain⟨d,a,kind,kvs,ms,mx,rfl,_⟩:=h;rfl
 obtain⟨d,a,kind,kvs,ms,mx,rfl,hd,ea,ha,em,l1,q⟩:=h;exists _,(zF (zZ (yM zYu (zS vM rfl Z.len wQ (zB (zO (zW hr) (pv 0) (pv 1) (λ_ _=>rfl)) zH)) (zU7 CB.dMOST CB.gMOST (pv 1)) (yX _)) (zF (xI (λ_=>E) CB.e_Full ao (by decide) ao xJ (zB (wO (wR (zB3 (pv 1) (wR tS)))) zH))) zM))
 try dsimp only[L2.cxOf]
 exists _,U,_,U,d,.ref a,U,.inl ⟨kvs,.inr kind,hd,U,ea.symm⟩,a,ms,U,ha,_,U,.inr kind,.int mx,U,em,_,_,U,U,_,rfl;exact ifD (λz=>⟨_,rfl,.inr ⟨kind,rfl,l1⟩,λx _=>⟨by show 1<=sizeLine; decide,q.no (by lia) (Same.refl _)⟩⟩) (λz=>q.yes (by lia) (Same.refl _))
def xW(K:ae):Sp:=λvs H Q E=>∃(d m b r n:af)(S:BS)(x:az),vs=[.ref d,.str x]/\StA H d m b r n S/\zFd x/\zNa ((zP S x).isSome=true) Q E sP H
theorem zFg(F:Fun K "check_mark" "check_mark" uU f fd)(Z:Zs mg)(CB:Cb P w mg base)  : yY P w K mg base (CX1 P w) 1 f fd ["state","name"] (xW K):=by
 refine F.okX zGm (λvs H Q E h=>?_) (λcdv A outer s H vs Q E hr h=>?_)
 ·obtain⟨d,m,b,r,n,S,x,rfl,_⟩:=h;rfl
 obtain⟨d,m,b,r,n,S,x,rfl,st,as,q⟩:=h;obtain⟨kvs,hm,kv⟩:=st.ma;exists _,(zF (zZ (qU (sQ (zW hr) (pv 1) (zO (zW hr) (pv 0) zJ (λ_ _=>rfl))) (by with_unfolding_all rfl)) (zF (xI (λ_=>E) CB.e_NoMark ao (by decide) ao xJ (zB (wO (wR (zM9 (pv 1) tS))) zH))) zM))
 try dsimp only[L2.cxOf]
 exists _,U,_,U,d,.ref m,U,.inl ⟨_,.inr "marks",st.at_,U,tF.symm⟩,m,_,U,.inl ⟨kvs,.inr x,hm,U,U⟩,_,rfl;rw[kv.isSome,wN,cb];cases e:(zP S x).isSome with
 | true=>exact yW (q.yes e (Same.refl _))
 | false=>exact xP ⟨_,rfl,⟨x,rfl,as.big,aD as.2 (by decide)⟩,λy _=>⟨by show 1<=sizeLine; decide,q.no (by rw[e]; exact aB) (Same.refl _)⟩⟩
def offM(n:Nat)(m:Int):Prop:=(m<0\/(n:Int)<m)/\m.natAbs.log2<1920
def uN(K:ae):Sp:=λvs H Q E=>∃(a:af)(m:Int)(n:Nat),vs=[.int m,.ref a]/\((∃ xs,SqL K H a xs/\xs.length=n)\/∃ kvs,Rd H a (.dK kvs)/\kvs.length=n)/\((0<=m/\m<=n/\Q .non H)\/(offM n m/\E (.ref xU) none H))
theorem zC0(F:Fun K "check_moment" "check_moment" wD f fd)(Z:Zs mg)(CB:Cb P w mg base)  : yY P w K mg base (CX1 P w) 1 f fd ["moment","runs"] (uN K):=by
 refine F.okX zDh (λvs H Q E h=>?_) (λcdv A outer s H vs Q E hr h=>?_)
 ·obtain⟨a,m,n,rfl,_⟩:=h;rfl
 obtain⟨a,m,n,rfl,ha,q⟩:=h
 refine'⟨_,(zF (zZ (PW.pt (zO9 ?_ (zKj (yM zI1 (pv 0) (zS (uL.or yV vM) rfl Z.len wQ (zB (pv 1) zH)) (yX _))))) (zF (xI (λ_=>E) CB.e_NoMoment ao (by decide) ao xJ (zB (wO (wR (zB3 (pv 0) tS))) zH))) zM)),?_⟩
 nofun
 exists _,U,_,_,U,U,_,rfl;have go:¬ (0<=m/\m<=n)->zSn (zW2 (zMr 0) zQo) [some (.int m),some (.ref a)] H (λv H1=>1<=sizeLine/\E (.ref xU) none H1):=λz=>by
  rcases q with ⟨h0,hm,_⟩ | ⟨⟨_,sm⟩,q⟩
  ·exact absurd ⟨h0,hm⟩ z
  ·exact⟨_,U,.inl ⟨m,U,sm⟩,λx _=>⟨by decide,q⟩⟩
 refine ifD (λz=>?_) (λz=>?_)
 ·refine xP ?_;exact go (λy=>absurd y.1 (by lia))
 exists _,U,_,rfl;rcases ha with ⟨xs,hx,rfl⟩ | ⟨kvs,hx,rfl⟩
 ·refine .inl ⟨a,xs,rfl,.inl hx,_,_,rfl,rfl,_,rfl,?_⟩;refine ifD (λy=>go (λy=>absurd y.2 (by lia))) (λy=>?_);rcases q with ⟨_,_,q⟩ | ⟨⟨o,_⟩,_⟩
  ·exact q
  ·exact absurd o (by lia)
 ·refine .inr ⟨a,kvs,rfl,hx,_,_,rfl,rfl,_,rfl,?_⟩;refine ifD (λy=>go (λy=>absurd y.2 (by lia))) (λy=>?_);rcases q with ⟨_,_,q⟩ | ⟨⟨o,_⟩,_⟩
  ·exact q
  ·exact absurd o (by lia)
def zBb(K:ae):Sp:=λvs H Q E=>∃(a:af)(x y:Int),vs=[.ref a]/\H a=some (.tup [.int x,.int y])/\qZ x/\qZ y/\zNa (zDc (x,y)) Q E vJ H
theorem zSu{x y:Int} : zDx [x,y] 100=true↔(-100<=x/\x<=100/\-100<=y/\y<=100):=by
 simp only[zDx,fo,iH,ig,be,decide_eq_true_eq,and_assoc]
theorem zG3(F:Fun K "check_way" "check_way" tE f fd)(Z:Zs mg)(CB:Cb P w mg base)(yBp:Has P w K mg base "within" 1 ["numbers","most"] (qQ K)):yY P w K mg base (CX1 P w) 2 f fd ["direction"] (zBb K):=by
 refine F.okX zGs (λvs H Q E h=>?_) (λcdv A outer s H vs Q E hr h=>?_)
 ·obtain⟨a,x,y,rfl,_⟩:=h;rfl
 obtain⟨a,x,y,rfl,ha,t1,t2,q⟩:=h
 refine'⟨_,(zF (zZ (PW.pt (zO9 (yM (zN1 hr.units0) (pv 0) ?_ (yX _)) (zKj (zAf (zA6 (vA yBp (hr.mono (by decide)) rfl (zB (pv 0) (zB (zN6 CB.LONGEST_WAY) zH)))))))) (zF (xI (λ_=>E) CB.e_BadWay ao (by decide) ao xJ (zB (wO (zJy hr.gd hr.units (pv 0) (wR tS))) zH))) zM)),?_⟩
 nofun
 refine⟨_,U,sz2,λp hp=>?_⟩;have sp:=zD hp (.tup [.int 0,.int 0]);have ha':=sp _ _ ha;have go:∀ H',Same H H'->¬ zDc (x,y)->zSn (zZp (zMr 0) zQo) [some (.ref a)] H' (λv H1=>1<=sizeLine/\E (.ref vJ) none H1):=λH' s' z=>⟨_,rfl,⟨ptD (x,y),tW (s' _ _ ha),zF7 t1 t2⟩,λy _=>⟨by show 1<=sizeLine; decide,q.no z s'⟩⟩;exists a,p,[x,y],[0,0],U,U,SqT.of ha',SqT.of zA,_,rfl;refine ifD (λz=>xP (go _ sp λo=>o.1 (show(x,y)=(0,0) by simp at z; rw[z.1,z.2]))) (λz=>?_);refine⟨_,U,a,[x,y],100,U,ha',(by show 2<=100; decide),λH' s'=>⟨_,rfl,?_⟩⟩;have s2:=sp.trans s';cases e:zDx [x,y] 100 with
 | true=>exact yW (q.yes ⟨λy=>z (by injection y with y1 y2; rw[y1,y2]),zSu.mp e⟩ s2)
 | false=>exact xP (go _ s2 λo=>by rw[zSu.mpr o.2] at e; cases e)
def vU(K:ae):Sp:=λvs H Q E=>∃(d m b r n:af)(S:BS)(x y:az)(p u:Int×Int),vs=[.ref d,.str x,.str y]/\StA H d m b r n S/\zP S x=some p/\zP S y=some u/\x.length<=1000/\y.length<=1000/\zNa (p≠u) Q E zBo H
theorem zEg(F:Fun K "check_apart" "check_apart" wX f fd)(Z:Zs mg)(CB:Cb P w mg base)  : yY P w K mg base (CX1 P w) 1 f fd ["state","left","right"] (vU K):=by
 refine F.okX zEf (λvs H Q E h=>?_) (λcdv A outer s H vs Q E hr h=>?_)
 ·obtain⟨d,m,b,r,n,S,x,y,p,u,rfl,_⟩:=h;rfl
 obtain⟨d,m,b,r,n,S,x,y,p,u,rfl,st,ex,ey,l1,l2,q⟩:=h;obtain⟨kvs,hm,kv⟩:=st.ma;obtain⟨v1,g1,r1⟩:=kv.get (k:=.inr x) (d:=ptD p) (by rw[wN,ex]; rfl);obtain⟨v2,g2,r2⟩:=kv.get (k:=.inr y) (d:=ptD u) (by rw[wN,ey]; rfl);obtain⟨a1,rfl,h1⟩:=zBf r1;obtain⟨a2,rfl,h2⟩:=zBf r2;exists _,(zF (zZ (yM (zN1 hr.units0) (zO (zW hr) (zO (zW hr) (pv 0) zJ (λ_ _=>rfl)) (pv 1) (λ_ _=>rfl)) (zO (zW hr) (zO (zW hr) (pv 0) zJ (λ_ _=>rfl)) (pv 2) (λ_ _=>rfl)) (yX _)) (zF (xI (λ_=>E) CB.e_Same ao (by decide) ao xJ (zB (wO (zB3 (pv 1) (wR (zB3 (pv 2) (wR tS))))) zH))) zM))
 try dsimp only[L2.cxOf]
 refine⟨_,U,d,.ref m,U,.inl ⟨_,.inr "marks",st.at_,U,tF.symm⟩,_,U,m,_,U,.inl ⟨kvs,.inr x,hm,U,g1.symm⟩,_,U,d,.ref m,U,.inl ⟨_,.inr "marks",st.at_,U,tF.symm⟩,_,U,m,_,U,.inl ⟨kvs,.inr y,hm,U,g2.symm⟩,
  a1,a2,[p.1,p.2],[u.1,u.2],rfl,rfl,SqT.of h1,SqT.of h2,_,rfl,?_⟩
 exact ifD (λz=>⟨_,rfl,.inr ⟨x,rfl,l1⟩,_,rfl,.inr ⟨y,rfl,l2⟩,λx _=>⟨by show 1<=sizeLine; decide,q.no (λne=>ne (by simp at z; exact ke z.1 z.2)) (Same.refl _)⟩⟩) (λz=>q.yes (λe=>z (by rw[e])) (Same.refl _))
def sC(_:ae):Sp:=zF3 axC λD=>∃ n x y,D=.mark n x y
theorem zFj(F:Fun K "after_mark" "after_mark" uW f fd)(Z:Zs mg)(CB:Cb P w mg base)(yBi:Has P w K mg base "changed" 1 ["state","kind","key","value"] (xQ K))(yAv:qW P w K mg base "check_room" 1 ["state","kind"] (xV K))(yAj:qW P w K mg base "check_place" 2 ["place"] (wJ K))(yAs:qW P w K mg base "check_free" 1 ["state","kind","name"] (sL K))(yAr:qW P w K mg base "check_name" 1 ["name"] (tU K)):yY P w K mg base (CX1 P w) 3 f fd ["state","row"] (sC K):=by
 refine F.okX tZ (λvs H Q E h=>?_) (λcdv A outer s H vs Q E hr h=>?_)
 ·obtain⟨d,v,S,D,rfl,_⟩:=h;rfl
 obtain⟨d,v,S,D,rfl,⟨n,x,y,rfl⟩,⟨m,b,r,t,st⟩,hv,tm,wl,q,bad⟩:=h;obtain⟨a,rfl,ha⟩:=zIy hv;obtain⟨an,tx,ty⟩:=tm
 refine'⟨_,(zC (PS.nox (yE 2 tZ.nd ?_))
   (zC (PS.nox (yE 3 tZ.nd ?_))
   (zC (yD (yI (λ_=>E) yAr yF (hr.mono (by decide)) rfl (zB (pv 2) zH)))
   (zC (yD (yI (λ_=>E) yAs yF (hr.mono (by decide)) rfl (zB (pv 0) (zB zJ (zB (pv 2) zH)))))
   (zC (yD (yI (λ_=>E) yAj yF (hr.mono (by decide)) rfl (zB (pv 3) zH)))
   (zC (yD (yI (λ_=>E) yAv yF (hr.mono (by decide)) rfl (zB (pv 0) (zB zJ zH))))
   (zF (PS.nox (zN ?_))))))))),?_⟩
 nofun
 exists _,U,a,_,_,.str n,U,U,.inr (SqT.of ha),rfl;refine⟨_,U,a,_,_,.int x,U,U,.inr (SqT.of ha),U,_,U,a,_,_,.int y,U,U,.inr (SqT.of ha),U,sz2,λp hp=>?_⟩;have s1:=zD hp (.tup [.int x,.int y]);refine⟨_,U,n,U,an,.of (λk1 H2 s2=>?_) (λno H2 s2=>bad .badName (by simp[zU,no]) _ (.of (s1.trans s2)))⟩;have s12:=s1.trans s2;have st2:=st.to (.of s12);obtain⟨kvs,hm,kv⟩:=st2.ma;have ep:=s2 _ _ (show upd H p (.tup [.int x,.int y]) p=_ from zA);refine⟨_,U,_,U,d,m, "marks",n,_,kvs,U,st2.at_,tF,hm,(by decide),aD an.2 (by decide),.of (λk2 H3 s3=>?_) (λno H3 s3=>bad .taken (by
  have:¬ zP S n=none:=λz=>no ((zQq kv).mpr z);simp[zU,k1,zAz this]) _ (.of (s12.trans s3)))⟩
 have k2:=(zQq kv).mp k2;have s13:=s12.trans s3;refine⟨_,U,p,x,y,U,s3 _ _ ep,tx,ty,.of (λk3 H4 s4=>?_) (λno H4 s4=>bad .badPlace (by simp[zU,k1,k2,no]) _ (.of (s13.trans s4)))⟩;have s14:=s13.trans s4;have s24:=s3.trans s4;have st4:=st.to (.of s14);have hm4:=Rd.same hm s24;refine⟨_,U,d,m, "marks",_,kvs,20,U,st4.at_,tF,hm4,(by kernel_rfl),(by decide),.of (λk4 H5 s5=>?_) (λno H5 s5=>bad .full (by
  rw[kv.length,zAh] at no;simp[zU,k1,k2,k3,show 20<=S.marks.length by lia]) _ (.of (s14.trans s5)))⟩
 rw[kv.length,zAh] at k4;have s15:=s14.trans s5;have s25:=s24.trans s5;have st5:=st.to (.of s15);refine⟨_,U,_,U,_,U,d,m, "marks",.inr n,.ref p,_,kvs,U,st5.at_,tF,Rd.same hm s25,StA.stKlen,kv.le (by rw[zAh]; lia),λf c H6 s6 hf _ ef ec=>?_⟩;have s16:=s15.trans s6;have st6:=st.to (.of s16);rw[zF2] at ef;refine q (by simp[zU,k1,k2,k3]; lia) f H6 (.of s16) (s15.free hf) ⟨c,b,r,t,.inl ef,⟨_,.inl ec,?_⟩,st6.ba,st6.ru,st6.no⟩;show xM H6 _ (mkE (S.marks++[(n,x,y)]));rw[zQ8,<- rA (zNy k2)];exact(kv.to (.of (s25.trans s6))).put (tW ((s25.trans s6) _ _ ep))
def tY(_:ae):Sp:=zF3 axC λD=>∃ k x y,D=.move k x y
theorem zF5(F:Fun K "after_move" "after_move" uY f fd)(Z:Zs mg)(CB:Cb P w mg base)(yAn:qW P w K mg base "check_apart" 1 ["state","left","right"] (vU K))(yBi:Has P w K mg base "changed" 1 ["state","kind","key","value"] (xQ K))(yAj:qW P w K mg base "check_place" 2 ["place"] (wJ K))(yAq:qW P w K mg base "check_mark" 1 ["state","name"] (xW K)):yY P w K mg base (CX1 P w) 3 f fd ["state","row"] (tY K):=by
 refine F.okX wT (λvs H Q E h=>?_) (λcdv A outer s H vs Q E hr h=>?_)
 ·obtain⟨d,v,S,D,rfl,_⟩:=h;rfl
 obtain⟨d,v,S,D,rfl,⟨k,x,y,rfl⟩,⟨m,b,r,t,st⟩,hv,tm,wl,q,bad⟩:=h;obtain⟨a,rfl,ha⟩:=zIm hv;obtain⟨an,tx,ty⟩:=tm
 refine'⟨_,(zC (PS.nox (yE 2 wT.nd ?_))
   (zC (yD (yI (λ_=>E) yAq yF (hr.mono (by decide)) rfl ?_))
   (zC (yD (yI (λ_=>E) yAj yF (hr.mono (by decide)) rfl (zB (pv 2) zH)))
   (zC (PS.nox (yE 3 wT.nd ?_))
   (zC (tO hX rfl (zIo (zO (zW hr) (pv 3) zJ (λ_ _=>rfl))) (rO 4 wT.nd) (zF (zZ ?_ (zF (yD (yI (λ_=>E) yAn yF (hr.mono (by decide)) rfl ?_))) zM)))
   (zF (PS.nox (zN (pv 3))))))))),?_⟩
 nofun
 refine⟨_,U,a,_,_,.int x,U,U,.inr (SqT.of ha),U,_,U,a,_,_,.int y,U,U,.inr (SqT.of ha),U,sz2,λp hp=>?_⟩;have s1:=zD hp (.tup [.int x,.int y]);have ep1:upd H p (.tup [.int x,.int y]) p=some (.tup [.int x,.int y]):=zA;have st1:=st.to (.of s1);refine⟨_,U,_,U,a,_,_,.str k,U,U,.inr (SqT.of (s1 _ _ ha)),U,d,m,b,r,t,S,k,U,st1,an,.of (λk1 H2 s2=>?_) (λno H2 s2=>bad .noMark (by
  have:zP S k=none:=by cases e:zP S k <;> simp[e] at no ⊢
  simp only[zU,if_pos this]) _ (.of (s1.trans s2)))⟩
 have k1':¬ zP S k=none:=λz=>by rw[z] at k1; cases k1
 refine⟨_,U,p,x,y,U,s2 _ _ ep1,tx,ty,.of (λk2 H3 s3=>?_) (λno H3 s3=>bad .badPlace (by simp only[zU,if_neg k1',if_pos no]) _ (.of ((s1.trans s2).trans s3)))⟩;have s13:=(s1.trans s2).trans s3;have ep3:=s3 _ _ (s2 _ _ ep1);have st3:=st.to (.of s13);obtain⟨mvs,hm,km⟩:=st3.ma;refine⟨_,U,_,U,a,_,_,.str k,U,U,.inr (SqT.of (s13 _ _ ha)),U,_,U,d,m, "marks",.inr k,.ref p,_,mvs,U,st3.at_,tF,hm,StA.stKlen,km.le (by rw[zAh]; have:=wl.good.few.ma; lia),λf c H4 s4 hf _ ef ec=>?_⟩;have s14:=s13.trans s4;have st4:=st.to (.of s14);rw[zF2] at ef;have fst:StA H4 f c b r t (aft S (.move k x y)):=⟨.inl ef,⟨_,.inl ec,by rw[<- zS1 k1]; exact(km.to (.of s4)).put (tW (p:=(x,y)) (s4 _ _ ep3))⟩,st4.ba,st4.ru,st4.no⟩;obtain⟨nk,hn,kn⟩:=fst.no;obtain⟨ks,rfl,e1,rk⟩:=zBy kn;have lks:ks.length=S.notes.length:=by have:=congrArg cM e1; rw[aa,aa] at this; exact this
 refine⟨_,U,f,.ref t,U,.inl ⟨_,.inr "notes",fst.at_,U,qO.symm⟩,t,_,U,hn,λo H5 fz=>?_⟩;have s5:Sam H4 H5:=zFc hn fz;refine zVd (λi σ H'=>Sam H4 H'/\zM8 t o (ks.map λe=>(.inl e.1,e.2)) H'/\(∀ e∈S.notes.take i,zC6 (aft S (.move k x y)) e.2)/\∃ u:Option V,σ=[some (.ref d),some (.ref a),some (.ref p),some (.ref f),u])
  ⟨s5,fz.1,λe he=>(nomatch he),none,rfl⟩ (λi σ H' h=>h.2.1) ?_ ?_
 ·rintro i x' σ H' gx ⟨s6,fa,ul,u,rfl⟩;have gx':(ks.map (·.2))[i]?=some x':=by rw[bD] at gx; exact gx
  obtain⟨dt,gd,rd⟩:=rk.back gx';rw[ak,aH] at gd;obtain⟨e,ge,rfl⟩:=gd;have ge:S.notes[i]?=some e:=ge;have mem:=aJ ge;have kn:=wl.good.note e mem;have rd3:=rd.to s6;have snoc:zC6 (aft S (.move k x y)) e.2->∀ e'∈S.notes.take (i+1),zC6 (aft S (.move k x y)) e'.2:=λh e' he'=>by
   rw[bN,ge] at he';rcases aS.mp he' with z | z
   ·exact ul e' z
   ·rw[av.mp z]; exact h
  match hE:e.2,kn,rd3 with
  | .bearing mo n x1 y1 x2 y2,kn,rd3 =>
   obtain⟨c,c1,c2,rfl,hc,hc1,hc2⟩:=wP rd3;exists _,U,c,_,0,.str "bearing",U,U,.inr (SqT.of hc),U,U,_,rfl;exact yW ⟨s6,fa,snoc (by rw[hE]; trivial),_,rfl⟩
  | .range mo l1 r1,kn,rd3 =>
   obtain⟨c',rfl,hc⟩:=sW rd3;obtain⟨_,_,i1,i2,_⟩:=kn;have o1:=wl.mark i1;have o2:=wl.mark i2;obtain⟨p1,g1⟩:=aL.mp (vI (n:=k) (x:=x) (y:=y) i1);obtain⟨p2,g2⟩:=aL.mp (vI (n:=k) (x:=x) (y:=y) i2);exists _,U,c',_,0,.str "range",U,U,.inr (SqT.of hc),U,U,_,rfl;refine xP ?_;refine⟨_,U,_,U,c',_,2,.str l1,U,U,.inr (SqT.of hc),U,_,U,c',_,3,.str r1,U,U,.inr (SqT.of hc),U,f,_,_,_,_,_,l1,r1,p1,p2,U,fst.to s6,g1,g2,aD o1.2.1 (by decide),aD o2.2.1 (by decide),.of (λne H7 s7=>?_) (λno H7 s7=>bad .same (by
    have z:¬ ∀ e∈S.notes,zC6 (aft S (.move k x y)) e.2:=λz=>by
     have z:=z e mem;rw[hE] at z;obtain⟨u1,u2,h1,h2,h3⟩:=z;rw[g1] at h1;rw[g2] at h2;cases h1;cases h2;exact no h3
    simp only[zU,if_neg k1',if_neg (ar.mpr k2),if_neg z]) _ (((xX.of s14).trans s6).trans (.of s7)))⟩
   exact⟨s6.trans (.of s7),s7 _ _ fa,snoc (by rw[hE]; exact⟨p1,p2,g1,g2,ne⟩),_,U⟩
 ·rintro σ H' ⟨s6,fa,ul,u,rfl⟩;rw[aa,aa,lks,b7] at ul;exact⟨_,U,q (by simp only[zU,if_neg k1',if_neg (ar.mpr k2),if_pos ul]) f H' ((xX.of s14).trans s6) (s13.free hf) ⟨_,_,_,_,fst.to s6⟩⟩
def uO(_:ae):Sp:=zF3 axC λD=>∃ k,D=.unmark k
theorem zDk(F:Fun K "after_unmark" "after_unmark" wL f fd)(Z:Zs mg)(CB:Cb P w mg base)(yBm:Has P w K mg base "without" 1 ["state","kind","key"] (sZ K))(yAq:qW P w K mg base "check_mark" 1 ["state","name"] (xW K)):yY P w K mg base (CX1 P w) 2 f fd ["state","row"] (uO K):=by
 refine F.okX uP (λvs H Q E h=>?_) (λcdv A outer s H vs Q E hr h=>?_)
 ·obtain⟨d,v,S,D,rfl,_⟩:=h;rfl
 obtain⟨d,v,S,D,rfl,⟨k,rfl⟩,⟨m,b,r,t,st⟩,hv,tm,wl,q,bad⟩:=h;obtain⟨a,rfl,ha⟩:=zCu hv
 refine'⟨_,(zC (PS.nox (yE 2 uP.nd ?_))
   (zC (yD (yI (λ_=>E) yAq yF (hr.mono (by decide)) rfl (zB (pv 0) (zB (pv 2) zH))))
   (zC (tO hX rfl (zIo (zO (zW hr) (pv 0) zJ (λ_ _=>rfl))) (rO 3 uP.nd) (zF (zZ (yM (zRb (zW hr)) (pv 2) (wV zD4 (pv 3) (vV yN) uQ) (by with_unfolding_all rfl)) (zF (xI (λ_=>E) CB.e_Needed ao (by decide) ao xJ (zB (wO (wR (zB3 (pv 2) tS))) zH))) zM)))
   (zF (PS.nox (zN ?_)))))),?_⟩
 nofun
 exists _,U,a,_,_,.str k,U,U,.inr (SqT.of ha),rfl;refine⟨_,U,_,U,d,m,b,r,t,S,k,U,st,tm,.of (λk1 H1 s1=>?_) (λno H1 s1=>bad .noMark (by
  have:zP S k=none:=by cases e:zP S k <;> simp[e] at no ⊢
  simp only[zU,if_pos this]) _ (.of s1))⟩
 have k1':¬ zP S k=none:=λz=>by rw[z] at k1; cases k1
 have st1:=st.to (.of s1);obtain⟨nk,hn,kn⟩:=st1.no;obtain⟨ks,rfl,e1,rk⟩:=zBy kn;have lks:ks.length=S.notes.length:=by have:=congrArg cM e1; rw[aa,aa] at this; exact this
 refine⟨_,U,d,.ref t,U,.inl ⟨_,.inr "notes",st1.at_,U,qO.symm⟩,t,_,U,hn,λo H2 fz=>?_⟩;have s2:Sam H1 H2:=zFc hn fz;refine zVd (λi σ H'=>Sam H1 H'/\zM8 t o (ks.map λe=>(.inl e.1,e.2)) H'/\(∀ e∈S.notes.take i,rT k e.2)/\∃ u:Option V,σ=[some (.ref d),some (.ref a),some (.str k),u])
  ⟨s2,fz.1,λe he=>(nomatch he),none,rfl⟩ (λi σ H' h=>h.2.1) ?_ ?_
 ·rintro i x σ H' gx ⟨s3,fa,ul,u,rfl⟩;have gx':(ks.map (·.2))[i]?=some x:=by rw[bD] at gx; exact gx
  obtain⟨dt,gd,rd⟩:=rk.back gx';rw[ak,aH] at gd;obtain⟨e,ge,rfl⟩:=gd;have mem:=aJ ge;have kn:=wl.good.note e mem;have rd3:=rd.to s3;have snoc:rT k e.2->∀ e'∈S.notes.take (i+1),rT k e'.2:=λh e' he'=>by
   rw[bN,ge] at he';rcases aS.mp he' with z | z
   ·exact ul e' z
   ·rw[av.mp z]; exact h
  have needed:¬ rT k e.2->∀ H4,Same H' H4->zSn (zW2 (zMr 2) zQo) [some (.ref d),some (.ref a),some (.str k),some x] H4 (λv H1=>1<=sizeLine/\E (.ref sK) none H1):=λno H4 s4=>⟨_,rfl,.inr ⟨k,rfl,aD tm.2 (by decide)⟩,λy _=>⟨by show 1<=sizeLine; decide,bad .needed (by
   simp only[zU,if_neg k1',if_neg (show ¬ ∀ e∈S.notes,rT k e.2 from λz=>no (z e mem))]) _ (((xX.of s1).trans s3).trans (.of s4))⟩⟩
  match hE:e.2,kn,rd3 with
  | .bearing mo n x1 y1 x2 y2,kn,rd3 =>
   obtain⟨c,c1,c2,rfl,hc,hc1,hc2⟩:=wP rd3;refine⟨_,U,_,U,_,U,c,_,U,SqT.of hc,(λz=>absurd z.1 (by show ¬ HT.sIx 5 0 (some 2)=0; decide)),λp hp=>?_⟩;have sp:=zD hp (.tup (rG [.str "bearing",.int mo,.str n,.ref c1,.ref c2] (some 2) none));refine⟨p,[.str n,.ref c1,.ref c2],k,U,U,SqT.of zA,λv hv=>?_,_,U,?_⟩
   ·rcases aA.mp hv with z | hv
    ·exact .inl ⟨n,z⟩
    rcases aA.mp hv with z | hv
    ·exact .inr ⟨c1,_,z,SqT.of (sp _ _ hc1)⟩
    ·exact .inr ⟨c2,_,av.mp hv,SqT.of (sp _ _ hc2)⟩
   have nn:([V.str n,.ref c1,.ref c2].any (isS k))=(n == k):=by
    show((n == k)||(false||(false||false)))=(n == k);cases n == k <;> rfl
   rw[nn];cases hb:n == k with
   | true=>exact xP (needed (by rw[hE]; exact λz=>z (eq_of_beq hb)) _ sp)
   | false=>exact yW ⟨s3.trans (.of sp),sp _ _ fa,snoc (by rw[hE]; exact beq_eq_false_iff_ne.mp hb),_,rfl⟩
  | .range mo l1 r1,kn,rd3 =>
   obtain⟨c,rfl,hc⟩:=sW rd3;refine⟨_,U,_,U,_,U,c,_,U,SqT.of hc,(λz=>absurd z.1 (by show ¬ HT.sIx 4 0 (some 2)=0; decide)),λp hp=>?_⟩;have sp:=zD hp (.tup (rG [.str "range",.int mo,.str l1,.str r1] (some 2) none));refine⟨p,[.str l1,.str r1],k,U,U,SqT.of zA,λv hv=>?_,_,U,?_⟩
   ·rcases aA.mp hv with z | hv
    ·exact .inl ⟨l1,z⟩
    ·exact .inl ⟨r1,av.mp hv⟩
   have nn:([V.str l1,.str r1].any (isS k))=(l1 == k||r1 == k):=by
    show((l1 == k)||((r1 == k)||false))=_;rw[jA]
   rw[nn];cases hb:(l1 == k||r1 == k) with
   | true=>exact xP (needed (by
     rw[hE];rintro⟨h1,h2⟩;rcases iM _ _ |>.mp hb with z | z
     ·exact h1 (eq_of_beq z)
     ·exact h2 (eq_of_beq z)) _ sp)
   | false =>
    rw[eY] at hb;exact yW ⟨s3.trans (.of sp),sp _ _ fa,snoc (by rw[hE]; exact⟨beq_eq_false_iff_ne.mp hb.1,beq_eq_false_iff_ne.mp hb.2⟩),_,U⟩
 ·rintro σ H' ⟨s3,fa,ul,u,rfl⟩;rw[aa,aa,lks,b7] at ul;have st3:=st1.to s3;obtain⟨mvs,hm,km⟩:=st3.ma;obtain⟨p,ep⟩:=aL.mp k1;obtain⟨v,ev,_⟩:=km.get (k:=.inr k) (d:=ptD p) (by rw[wN,ep]; rfl);refine⟨_,U,_,U,d,m, "marks",.inr k,v,_,mvs,U,st3.at_,tF,hm,ev,StA.stKlen,λf c H4 s4 hf ne ef ec=>?_⟩;have st4:=st3.to (.of s4);have s03:=(xX.of s1).trans s3;rw[zF2] at ef;refine q (by simp only[zU,if_neg k1',if_pos ul]) f H4 (s03.trans (.of s4)) (s03.free id hf) ⟨c,b,r,t,.inl ef,⟨_,.inl ec,?_⟩,st4.ba,st4.ru,st4.no⟩;have:=(km.to (.of s4)).drop (k:=.inr k);rw[zNn] at this;exact this
def sJ(_:ae):Sp:=zF3 axC λD=>∃ n cs,D=.bank n cs
theorem cn_ok{H:Hp}{cs:List (Int×Int)}{ps:List Pr}(h:yd7 H cs ps)(hn:∀ c∈cs,c.1.natAbs.log2<20/\c.2.natAbs.log2<20):zCz H (10^8) ps:=λt ht=>by
 obtain⟨h1,h2⟩:=hn t.2 (by rw[<- h.pt]; exact aF.mpr ⟨t,ht,rfl⟩);have e1:=lt_two_pow_of_log2_lt h1;have e2:=lt_two_pow_of_log2_lt h2;have e3:(2:Nat)^20<=10^8:=by decide
 exact⟨h.at_ t ht,by lia,by lia⟩
theorem zFp(F:Fun K "after_bank" "after_bank" vC f fd)(Z:Zs mg)(CB:Cb P w mg base)(yBi:Has P w K mg base "changed" 1 ["state","kind","key","value"] (xQ K))(yAv:qW P w K mg base "check_room" 1 ["state","kind"] (xV K))(yBl:Has P w K mg base "is_bank" 3 ["corners"] (zDw K))(yAj:qW P w K mg base "check_place" 2 ["place"] (wJ K))(yAs:qW P w K mg base "check_free" 1 ["state","kind","name"] (sL K))(yAr:qW P w K mg base "check_name" 1 ["name"] (tU K)):yY P w K mg base (CX1 P w) 4 f fd ["state","row"] (sJ K):=by
 refine F.okX wZ (λvs H Q E h=>?_) (λcdv A outer s H vs Q E hr h=>?_)
 ·obtain⟨d,v,S,D,rfl,_⟩:=h;rfl
 obtain⟨d,v,S,D,rfl,⟨n,cs,rfl⟩,⟨m,b,r,t,st⟩,hv,tm,wl,q,bad⟩:=h;obtain⟨a,cc,ps,rfl,ha,hc,cn,rc⟩:=zFi hv;obtain⟨an,l12,tc⟩:=tm;have shw:=zLf l12 tc;have lps:ps.length<=12:=by rw[<- cn.pt,aa] at l12; exact l12
 refine'⟨_,(zC (PS.nox (yE 2 wZ.nd ?_))
   (zC (PS.nox (yE 3 wZ.nd ?_))
   (zC (yD (yI (λ_=>E) yAr yF (hr.mono (by decide)) rfl (zB (pv 2) zH)))
   (zC (yD (yI (λ_=>E) yAs yF (hr.mono (by decide)) rfl (zB (pv 0) (zB zJ (zB (pv 2) zH)))))
   (zC (tO hX rfl (zNe (pv 3)) (rO 4 wZ.nd) (zF (yD (yI (λ_=>E) yAj yF (hr.mono (by decide)) rfl (zB (pv 4) zH)))))
   (zC (zZ ?_ (zF (xI (λ_=>E) CB.e_BadBank ao (by decide) ao xJ (zB (wO (zJy hr.gd hr.units (pv 3) (wR tS))) zH))) zM)
   (zC (yD (yI (λ_=>E) yAv yF (hr.mono (by decide)) rfl (zB (pv 0) (zB zJ zH))))
   (zF (PS.nox (zN ?_)))))))))),?_⟩
 nofun
 exists _,U,a,_,_,.str n,U,U,.inr (SqT.of ha),rfl;exists _,U,a,_,_,.ref cc,U,U,.inr (SqT.of ha),rfl;refine⟨_,U,n,U,an,.of (λk1 H1 s1=>?_) (λno H1 s1=>bad .badName (by simp only[zU,if_pos no]) _ (.of s1))⟩;have k1':=ar.mpr k1;have st1:=st.to (.of s1);obtain⟨bvs,hb,kb⟩:=st1.ba;refine⟨_,U,_,U,d,b, "banks",n,_,bvs,U,st1.at_,zA1,hb,(by decide),aD an.2 (by decide),.of (λk2 H2 s2=>?_) (λno H2 s2=>bad .taken (by
  have:n∈S.banks.map (·.1):=ar.mp λz=>no ((zDn kb).mpr z);simp only[zU,if_neg k1',if_pos this]) _ (.of (s1.trans s2)))⟩
 have k2:=(zDn kb).mp k2;have s12:=s1.trans s2;have hc2:=s12 _ _ hc;refine⟨_,U,cc,U,.inr ⟨⟨_,SqT.of hc2⟩,?_⟩⟩;refine zRn (K:=K) (a:=cc) (xs:=zQ ps) (λi σ H'=>Same H2 H'/\(∀ u∈ps.take i,zDy u.2)/\∃ u:Option V,σ=[some (.ref d),some (.ref a),some (.str n),some (.ref cc),u])
  ⟨Same.refl _,λu hu=>(nomatch hu),none,rfl⟩ (λi σ H' _ h=>SqT.of (h.1 _ _ hc2)) ?_ ?_
 ·rintro i x σ H' gx ⟨s3,nr,u,rfl⟩;rw[ak,ak,Option.map_map,aH] at gx;obtain⟨tt,gt,rfl⟩:=gx;have mt:=aJ gt;have mc:tt.2∈cs:=by rw[<- cn.pt]; exact aF.mpr ⟨tt,mt,rfl⟩
  obtain⟨c1,c2⟩:=tc _ mc;refine⟨_,U,tt.1,tt.2.1,tt.2.2,U,s3 _ _ (s12 _ _ (cn.at_ tt mt)),de c1 (by decide),de c2 (by decide),.of (λk3 H4 s4=>⟨s3.trans s4,λu hu=>?_,_,U⟩) (λno H4 s4=>bad .badPlace (by
   simp only[zU,if_neg k1',if_neg k2,if_pos (show ¬ ∀ c∈cs,zDy c from λz=>no (z _ mc))]) _ (.of (s12.trans (s3.trans s4))))⟩
  rw[bN,gt] at hu;rcases aS.mp hu with z | z
  ·exact nr u z
  ·rw[av.mp z]; exact k3
 ·rintro σ H3 ⟨s3,nr,u,rfl⟩;rw[cg (by rw[zT]; exact am _)] at nr;have k3:∀ c∈cs,zDy c:=λc hc=>by
   rw[<- cn.pt] at hc;obtain⟨u,hu,rfl⟩:=aF.mp hc;exact nr u hu
  have k3':=ar.mpr k3;have s13:=s12.trans s3;refine⟨_,U,cc,ps,U,⟨.inr (SqT.of (s3 _ _ hc2)),(cn_ok cn tc).same s13⟩,by lia,λH4 s4=>⟨_,U,?_⟩⟩;rw[zV5,cn.pt];have s14:=s13.trans s4;cases k4:zPz cs with
  | false=>exact xP ⟨_,rfl,⟨_,rc.to (.of s14),shw⟩,λy _=>⟨by show 1<=sizeLine; decide,bad .badBank (by simp only[zU,if_neg k1',if_neg k2,if_neg k3',if_pos k4]) _ (.of s14)⟩⟩
  | true =>
   have k4':¬ zPz cs=false:=by rw[k4]; exact λz=>nomatch z
   refine yW ?_;have st4:=st.to (.of s14);have hb4:=Rd.same hb ((s2.trans s3).trans s4);refine⟨_,U,d,b, "banks",_,bvs,8,U,st4.at_,zA1,hb4,(by kernel_rfl),(by decide),.of (λk5 H5 s5=>?_) (λno H5 s5=>bad .full (by
    rw[kb.length,zI0] at no;simp only[zU,if_neg k1',if_neg k2,if_neg k3',if_neg k4',if_pos (show 8<=S.banks.length by lia)]) _ (.of (s14.trans s5)))⟩
   rw[kb.length,zI0] at k5;have s15:=s14.trans s5;have st5:=st.to (.of s15);refine⟨_,U,_,U,_,U,d,b, "banks",.inr n,.ref cc,_,bvs,U,st5.at_,zA1,Rd.same hb4 s5,StA.stKlen,kb.le (by rw[zI0]; lia),λf c H6 s6 hf _ ef ec=>?_⟩;have s16:=s15.trans s6;have st6:=st.to (.of s16);rw[zLe] at ef;refine q (by simp only[zU,if_neg k1',if_neg k2,if_neg k3',if_neg k4',if_neg (show ¬ 8<=S.banks.length by lia)]) f H6 (.of s16) (s15.free hf) ⟨m,c,r,t,.inl ef,st6.ma,⟨_,.inl ec,?_⟩,st6.ru,st6.no⟩;show xM H6 _ (bkE (S.banks++[(n,cs)]));rw[zSz,<- rA (zH8 k2)];exact(kb.to (.of ((((s2.trans s3).trans s4).trans s5).trans s6))).put (rc.to (.of s16))
def vN(_:ae):Sp:=zF3 axC λD=>∃ k,D=.level k
theorem zD5(F:Fun K "after_level" "after_level" uF f fd)(Z:Zs mg)(CB:Cb P w mg base)(yBm:Has P w K mg base "without" 1 ["state","kind","key"] (sZ K)):yY P w K mg base (CX1 P w) 2 f fd ["state","row"] (vN K):=by
 refine F.okX qR (λvs H Q E h=>?_) (λcdv A outer s H vs Q E hr h=>?_)
 ·obtain⟨d,v,S,D,rfl,_⟩:=h;rfl
 obtain⟨d,v,S,D,rfl,⟨k,rfl⟩,⟨m,b,r,t,st⟩,hv,tm,wl,q,bad⟩:=h;obtain⟨a,rfl,ha⟩:=zEp hv;obtain⟨nk,hn,kn⟩:=st.ba
 refine'⟨_,(zC (PS.nox (yE 2 qR.nd ?_))
   (zC (zZ (qU (sQ (zW hr) (pv 2) (zO (zW hr) (pv 0) zJ (λ_ _=>rfl))) (by with_unfolding_all rfl)) (zF (xI (λ_=>E) CB.e_NoBank ao (by decide) ao xJ (zB (wO (wR (zM9 (pv 2) tS))) zH))) zM)
   (zF (PS.nox (zN ?_))))),?_⟩
 nofun
 exists _,U,a,_,_,.str k,U,U,.inr (SqT.of ha),U,_,U,_,U,d,.ref b,U,.inl ⟨_,.inr "banks",st.at_,U,zA1.symm⟩,b,_,U,.inl ⟨nk,.inr k,hn,U,U⟩,_,rfl;cases ev:wF nk (.inr k) with
 | none=>exact xP ⟨_,rfl,⟨k,rfl,zFd.big tm,aD tm.2 (by decide)⟩,λy _=>⟨by show 1<=sizeLine; decide,bad .noBank (by simp only[zU,if_neg ((zDn kn).mp ev)]) H (.refl _)⟩⟩
 | some v =>
  have ok:k∈S.banks.map (·.1):=ar.mp λz=>by rw[(zDn kn).mpr z] at ev; cases ev
  refine yW ?_;refine⟨_,U,_,U,d,b, "banks",.inr k,v,_,nk,U,st.at_,zA1,hn,ev,StA.stKlen,λf c H2 s2 hf ne ef ec=>?_⟩;have st2:=st.to (.of s2);rw[zLe] at ef;refine q (by simp only[zU,if_pos ok]) f H2 (.of s2) hf ⟨m,c,r,t,.inl ef,st2.ma,⟨_,.inl ec,?_⟩,st2.ru,st2.no⟩;have:=(kn.to (.of s2)).drop (k:=.inr k);rw[zOg] at this;exact this
def tN(_:ae):Sp:=zF3 axC λD=>∃ x y,D=.sail x y
theorem zF0(F:Fun K "after_sail" "after_sail" uS f fd)(Z:Zs mg)(CB:Cb P w mg base)(yBi:Has P w K mg base "changed" 1 ["state","kind","key","value"] (xQ K))(yAv:qW P w K mg base "check_room" 1 ["state","kind"] (xV K))(yAz:qW P w K mg base "check_run" 2 ["run"] (rD K)):yY P w K mg base (CX1 P w) 3 f fd ["state","row"] (tN K):=by
 refine F.okX zAp (λvs H Q E h=>?_) (λcdv A outer s H vs Q E hr h=>?_)
 ·obtain⟨d,v,S,D,rfl,_⟩:=h;rfl
 obtain⟨d,v,S,D,rfl,⟨x,y,rfl⟩,⟨m,b,r,t,st⟩,hv,tm,wl,q,bad⟩:=h;obtain⟨a,rfl,ha⟩:=zJc hv;obtain⟨tx,ty⟩:=tm
 refine'⟨_,(zC (PS.nox (yE 2 zAp.nd ?_))
   (zC (yD (yI (λ_=>E) yAz yF (hr.mono (by decide)) rfl (zB (pv 2) zH)))
   (zC (yD (yI (λ_=>E) yAv yF (hr.mono (by decide)) rfl (zB (pv 0) (zB zJ zH))))
   (zF (PS.nox (zN (vA yBi (hr.mono (by decide)) rfl (zB (pv 0) (zB zJ (zB (zS vM rfl Z.len wQ (zB (zO (zW hr) (pv 0) zJ (λ_ _=>rfl)) zH)) (zB (pv 2) zH))))))))))),?_⟩
 nofun
 refine⟨_,U,a,_,_,.int x,U,U,.inr (SqT.of ha),U,_,U,a,_,_,.int y,U,U,.inr (SqT.of ha),U,sz2,λp hp=>?_⟩;have s1:=zD hp (.tup [.int x,.int y]);refine⟨_,U,p,x,y,U,zA,tx,ty,.of (λk1 H2 s2=>?_) (λno H2 s2=>bad .badRun (by simp[zU,no]) _ (.of (s1.trans s2)))⟩;have s12:=s1.trans s2;have st2:=st.to (.of s12);obtain⟨kvs,hm,kv⟩:=st2.ru;have ln:kvs.length=S.runs.length:=by rw[kv.length,zBh]
 have ep:=s2 _ _ (show upd H p (.tup [.int x,.int y]) p=_ from zA);refine⟨_,U,d,r, "runs",_,kvs,12,U,st2.at_,rE,hm,(by kernel_rfl),(by decide),.of (λk2 H3 s3=>?_) (λno H3 s3=>bad .full (by simp[zU,k1,show 12<=S.runs.length by lia]) _ (.of (s12.trans s3)))⟩;have s13:=s12.trans s3;have st3:=st.to (.of s13);have hm3:=Rd.same hm s3;refine⟨_,U,_,U,d,.ref r,U,.inl ⟨_,.inr "runs",st3.at_,U,rE.symm⟩,r,kvs,U,hm3,_,U,d,r, "runs",.inl (kvs.length:Int),.ref p,_,kvs,U,st3.at_,rE,hm3,StA.stKlen,by lia,λf c H4 s4 hf _ ef ec=>?_⟩;have s14:=s13.trans s4;have st4:=st.to (.of s14);rw[zN7] at ef;refine q (by simp[zU,k1]; lia) f H4 (.of s14) (s13.free hf) ⟨m,b,c,t,.inl ef,st4.ma,st4.ba,⟨_,.inl ec,?_⟩,st4.no⟩;show xM H4 _ (rnE (S.runs++[(x,y)]));rw[zX6,<- rA zUc,<- ln];exact(kv.to (.of (s3.trans s4))).put (tW ((s3.trans s4) _ _ ep))
def vO(_:ae):Sp:=zF3 axC λD=>∃ k x y,D=.right k x y
theorem zEb(F:Fun K "after_right" "after_right" wU f fd)(Z:Zs mg)(CB:Cb P w mg base)(yBi:Has P w K mg base "changed" 1 ["state","kind","key","value"] (xQ K))(yAz:qW P w K mg base "check_run" 2 ["run"] (rD K)):yY P w K mg base (CX1 P w) 3 f fd ["state","row"] (vO K):=by
 refine F.okX vP (λvs H Q E h=>?_) (λcdv A outer s H vs Q E hr h=>?_)
 ·obtain⟨d,v,S,D,rfl,_⟩:=h;rfl
 obtain⟨d,v,S,D,rfl,⟨k,x,y,rfl⟩,⟨m,b,r,t,st⟩,hv,tm,wl,q,bad⟩:=h;obtain⟨a,rfl,ha⟩:=zEu hv;obtain⟨tk,tx,ty⟩:=tm
 refine'⟨_,(zC (PS.nox (yE 2 vP.nd ?_))
   (zC (PS.nox (yE 3 vP.nd ?_))
   (zC (zZ (qU (sQ (zW hr) (pv 2) (zO (zW hr) (pv 0) zJ (λ_ _=>rfl))) (by with_unfolding_all rfl)) (zF (xI (λ_=>E) CB.e_NoRun ao (by decide) ao xJ (zB (wO (wR (zB3 (pv 2) tS))) zH))) zM)
   (zC (yD (yI (λ_=>E) yAz yF (hr.mono (by decide)) rfl (zB (pv 3) zH)))
   (zF (PS.nox (zN ?_))))))),?_⟩
 nofun
 exists _,U,a,_,_,.int k,U,U,.inr (SqT.of ha),rfl;refine⟨_,U,a,_,_,.int x,U,U,.inr (SqT.of ha),U,_,U,a,_,_,.int y,U,U,.inr (SqT.of ha),U,sz2,λp hp=>?_⟩;have s1:=zD hp (.tup [.int x,.int y]);have st1:=st.to (.of s1);obtain⟨rvs,hr1,kr⟩:=st1.ru;exists _,U,_,U,d,.ref r,U,.inl ⟨_,.inr "runs",st1.at_,U,rE.symm⟩,r,_,U,.inl ⟨rvs,.inl k,hr1,U,U⟩,_,rfl;cases ev:wF rvs (.inl k) with
 | none=>exact xP ⟨_,rfl,.inl ⟨k,rfl,de (show k.natAbs.log2<200 from tk) (by decide)⟩,λy _=>⟨by show 1<=sizeLine; decide,bad .noRun (by simp only[zU,if_neg ((zQi kr).mp ev)]) _ (.of s1)⟩⟩
 | some v =>
  have ok:0<=k/\k<S.runs.length:=ar.mp λz=>by rw[(zQi kr).mpr z] at ev; cases ev
  refine yW ?_;obtain⟨i,rfl⟩:=cy ok.1;have hi:i<S.runs.length:=by lia
  refine⟨_,U,p,x,y,U,zA,tx,ty,.of (λk3 H3 s3=>?_) (λno H3 s3=>bad .badRun (by simp only[zU,if_pos ok,if_neg no]) _ (.of (s1.trans s3)))⟩;have st3:=st1.to (.of s3);have hr3:=Rd.same hr1 s3;refine⟨_,U,_,U,_,U,d,r, "runs",.inl (i:Int),.ref p,_,rvs,U,st3.at_,rE,hr3,StA.stKlen,kr.le (by rw[zBh]; have:=wl.good.few.ru; lia),λf c H4 s4 hf _ ef ec=>?_⟩;have s14:=(s1.trans s3).trans s4;have st4:=st.to (.of s14);rw[zN7] at ef;refine q (by simp only[zU,if_pos ok,if_pos k3]) f H4 (.of s14) ((s1.trans s3).free hf) ⟨m,b,c,t,.inl ef,st4.ma,st4.ba,⟨_,.inl ec,?_⟩,st4.no⟩;show xM H4 _ (rnE (S.runs.set i (x,y)));rw[<- zYk hi];exact(kr.to (.of (s3.trans s4))).put (tW (p:=(x,y)) ((s3.trans s4) _ _ zA))
def sR(_:ae):Sp:=λvs H Q E=>∃(d:af)(v:V)(S:BS)(D:Deed),vs=[.ref d,v]/\zNu H d S/\Rep H D.dt v/\S.notes.length<=60/\zVh S /\
 (S.notes.length<24->∀(d':af)(H':Hp),Same H H'->H d'=none->zNu H' d' { S with notes:=S.notes++[(S.coming,D)],coming:=S.coming+1 }->Q (.ref d') H')/\(24<=S.notes.length->∀ H',Same H H'->E (.ref zAn) none H')
theorem zGk(F:Fun K "after_note" "after_note" vB f fd)(Z:Zs mg)(CB:Cb P w mg base)(yBi:Has P w K mg base "changed" 1 ["state","kind","key","value"] (xQ K))(yAv:qW P w K mg base "check_room" 1 ["state","kind"] (xV K)):yY P w K mg base (CX1 P w) 2 f fd ["state","row"] (sR K):=by
 refine F.okX zAj (λvs H Q E h=>?_) (λcdv A outer s H vs Q E hr h=>?_)
 ·obtain⟨d,v,S,D,rfl,_⟩:=h;rfl
 obtain⟨d,v,S,D,rfl,⟨m,b,r,t,st⟩,hv,l60,fr,q,bad⟩:=h;obtain⟨kvs,hm,kv⟩:=st.no;have ln:kvs.length=S.notes.length:=by rw[kv.length,zQa]
 refine⟨_,(zC (yD (yI (λ_=>E) yAv yF (hr.mono (by decide)) rfl (zB (pv 0) (zB zJ zH))))
   (zC (PS.nox (qX (i:=2) zAj.nd rfl (cT rfl) (vA yBi (hr.mono (by decide)) rfl (zB (pv 0) (zB zJ (zB (zO (zW hr) (pv 0) zJ (λ_ _=>rfl)) (zB (pv 1) zH)))))))
   (zC (PS.nox (rH (zW hr) (pv 2) zJ (xO zA9 (zO (zW hr) (pv 0) zJ (λ_ _=>rfl)) yN) rfl))
   (zF (PS.nox (zN (pv 2))))))),?_⟩
 try dsimp only[L2.cxOf]
 refine⟨_,U,d,t, "notes",_,kvs,24,U,st.at_,qO,hm,(by kernel_rfl),(by decide),.of (λk1 H1 s1=>?_) (λno H1 s1=>bad (by lia) H1 s1)⟩;have st1:=st.to (.of s1);have hm1:=Rd.same hm s1;refine⟨_,U,_,U,d,.int S.coming,U,.inl ⟨_,.inr "coming",st1.at_,U,zFb.symm⟩,_,U,d,t, "notes",.inl S.coming,v,_,kvs,U,st1.at_,qO,hm1,StA.stKlen,by lia,λf c H2 s2 hf ne ef ec=>?_⟩;have s12:=s1.trans s2;have st2:=st.to (.of s12);rw[zLk] at ef;exists _,U,d,.int S.coming,U,.inl ⟨_,.inr "coming",st2.at_,U,zFb.symm⟩,_,_,U,U,_,U,f,_,U,zK3.k (k:=.inr "coming") ef (zV (aD StA.stKlen (by decide))),_,rfl;rw[zPc];have hf0:=s1.free hf;have s3:Same H (upd H2 f (.dK (stK m b r c (S.coming+1)))):=s12.putNew hf0;have st3:=st.to (.of s3);refine q (by lia) f _ s3 hf0 ⟨m,b,r,c,.inl zA,st3.ma,st3.ba,st3.ru,⟨_,.inl (by rw[zG ne.symm]; exact ec),?_⟩⟩;rw[zMp,<- rA (zI5 fr)];exact(kv.to (.of s3)).put (hv.to (.of s3))
def uD(_:ae):Sp:=zF3 axC λD=>∃ mo nm x1 y1 x2 y2,D=.bearing mo nm x1 y1 x2 y2
theorem zCj(F:Fun K "after_bearing" "after_bearing" wB f fd)(Z:Zs mg)(CB:Cb P w mg base)(yAp:qW P w K mg base "after_note" 2 ["state","row"] (sR K))(yBz:Has P w K mg base "turn" 1 ["one","other"] (zFs K))(yBa:qW P w K mg base "check_way" 2 ["direction"] (zBb K))(yAq:qW P w K mg base "check_mark" 1 ["state","name"] (xW K))(yAb:qW P w K mg base "check_moment" 1 ["moment","runs"] (uN K)):yY P w K mg base (CX1 P w) 3 f fd ["state","row"] (uD K):=by
 refine F.okX zCs (λvs H Q E h=>?_) (λcdv A outer s H vs Q E hr h=>?_)
 ·obtain⟨d,v,S,D,rfl,_⟩:=h;rfl
 obtain⟨d,v,S,D,rfl,⟨mo,nm,x1,y1,x2,y2,rfl⟩,⟨m,b,r,t,st⟩,hv,tm,wl,q,bad⟩:=h;obtain⟨a,p,u,rfl,ha,hp,hu⟩:=wP hv;obtain⟨rvs,hr1,kr⟩:=st.ru;have shw:=zJ7 tm;obtain⟨t1,an,tx1,ty1,tx2,ty2⟩:=tm
 refine'⟨_,(zC (yD (yI (λ_=>E) yAb yF (hr.mono (by decide)) rfl (zB ?_ (zB (zO (zW hr) (pv 0) zJ (λ_ _=>rfl)) zH))))
   (zC (yD (yI (λ_=>E) yAq yF (hr.mono (by decide)) rfl ?_))
   (zC (yD (yI (λ_=>E) yBa yF (hr.mono (by decide)) rfl ?_))
   (zC (yD (yI (λ_=>E) yBa yF (hr.mono (by decide)) rfl ?_))
   (zC (zZ ?_ (zF (xI (λ_=>E) CB.e_BadTurn ao (by decide) ao xJ (zB (wO (wR (zJy hr.gd hr.units (pv 1) tS))) zH))) zM)
   (zF (zN (yI (λ_=>E) yAp yF (hr.mono (by decide)) rfl (zB (pv 0) (zB (pv 1) zH)))))))))),?_⟩
 nofun
 by_cases k0:0<=mo/\mo<=S.runs.length
 rotate_left
 ·exact⟨_,U,a,_,_,.int mo,U,U,.inr (SqT.of ha),U,_,U,d,.ref r,U,.inl ⟨_,.inr "runs",st.at_,U,rE.symm⟩,r,mo,S.runs.length,U,.inr ⟨rvs,hr1,by rw[kr.length,zBh]⟩,.inr ⟨⟨by lia,de (show mo.natAbs.log2<200 from t1) (by decide)⟩,bad .noMoment (by simp only[zU,if_pos k0]) H (.refl _)⟩⟩
 refine⟨_,U,a,_,_,.int mo,U,U,.inr (SqT.of ha),U,_,U,d,.ref r,U,.inl ⟨_,.inr "runs",st.at_,U,rE.symm⟩,r,mo,S.runs.length,U,.inr ⟨rvs,hr1,by rw[kr.length,zBh]⟩,.inl ⟨k0.1,k0.2,?_⟩⟩;refine⟨_,U,_,U,a,_,_,.str nm,U,U,.inr (SqT.of ha),U,d,m,b,r,t,S,nm,U,st,an,.of (λk3 H1 s1=>?_) (λno H1 s1=>bad .noMark (by
  have:zP S nm=none:=by cases e:zP S nm <;> simp[e] at no ⊢
  simp only[zU,if_neg (ar.mpr k0),if_pos this]) _ (.of s1))⟩
 have k3':¬ zP S nm=none:=λz=>by rw[z] at k3; cases k3
 have ha1:=s1 _ _ ha;refine⟨_,U,a,_,_,.ref p,U,U,.inr (SqT.of ha1),U,p,x1,y1,U,s1 _ _ hp,tx1,ty1,.of (λk4 H2 s2=>?_) (λno H2 s2=>bad .badWay (by simp only[zU,if_neg (ar.mpr k0),if_neg k3',if_pos no]) _ (.of (s1.trans s2)))⟩;have s12:=s1.trans s2;have ha2:=s12 _ _ ha;refine⟨_,U,a,_,_,.ref u,U,U,.inr (SqT.of ha2),U,u,x2,y2,U,s12 _ _ hu,tx2,ty2,.of (λk5 H3 s3=>?_) (λno H3 s3=>bad .badWay (by simp only[zU,if_neg (ar.mpr k0),if_neg k3',if_neg (ar.mpr k4),if_pos no]) _ (.of (s12.trans s3)))⟩;have s23:=s12.trans s3;have ha3:=s23 _ _ ha;have b1:=k4.2.1;have b2:=k4.2.2.1;have b3:=k4.2.2.2.1;have b4:=k4.2.2.2.2;have n1:x1.natAbs<=10^18:=by simp at b1 b2; lia
 have n2:y1.natAbs<=10^18:=by simp at b3 b4; lia
 exists _,U,a,_,_,.ref p,U,U,.inr (SqT.of ha3),U,_,U,a,_,_,.ref u,U,U,.inr (SqT.of ha3),U,p,u,_,_,x1,y1,x2,y2,U,.inr (SqT.of (s23 _ _ hp)),.inr (SqT.of (s23 _ _ hu)),U,U,U,U,n1,n2,_,_,U,U,_,rfl;refine ifD (λz=>?_) (λk6=>?_)
 ·exact⟨_,U,⟨_,hv.to (.of s23),shw⟩,λy _=>⟨by show 1<=sizeLine; decide,bad .badTurn (by simp only[zU,if_neg (ar.mpr k0),if_neg k3',if_neg (ar.mpr k4),if_neg (ar.mpr k5),if_pos z]) _ (.of s23)⟩⟩
 refine⟨_,U,_,U,d,.ref a,S,.bearing mo nm x1 y1 x2 y2,U,⟨m,b,r,t,st.to (.of s23)⟩,hv.to (.of s23),wl.good.few.no,wl.good.fresh,λk7 d' H4 s4 hd' st4=>q (by simp only[zU,if_neg (ar.mpr k0),if_neg k3',if_neg (ar.mpr k4),if_neg (ar.mpr k5),if_neg k6,if_neg (show ¬ 24<=S.notes.length by lia)]) d' H4 (.of (s23.trans s4)) (s23.free hd') st4,
  λk7 H4 s4=>bad .full (by simp only[zU,if_neg (ar.mpr k0),if_neg k3',if_neg (ar.mpr k4),if_neg (ar.mpr k5),if_neg k6,if_pos k7]) _ (.of (s23.trans s4))⟩
def vR(_:ae):Sp:=zF3 axC λD=>∃ mo l1 l2,D=.range mo l1 l2
theorem zD8(F:Fun K "after_range" "after_range" uJ f fd)(Z:Zs mg)(CB:Cb P w mg base)(yAp:qW P w K mg base "after_note" 2 ["state","row"] (sR K))(yAn:qW P w K mg base "check_apart" 1 ["state","left","right"] (vU K))(yAq:qW P w K mg base "check_mark" 1 ["state","name"] (xW K))(yAb:qW P w K mg base "check_moment" 1 ["moment","runs"] (uN K)):yY P w K mg base (CX1 P w) 3 f fd ["state","row"] (vR K):=by
 refine F.okX zD9 (λvs H Q E h=>?_) (λcdv A outer s H vs Q E hr h=>?_)
 ·obtain⟨d,v,S,D,rfl,_⟩:=h;rfl
 obtain⟨d,v,S,D,rfl,⟨mo,l1,l2,rfl⟩,⟨m,b,r,t,st⟩,hv,tm,wl,q,bad⟩:=h;obtain⟨a,rfl,ha⟩:=sW hv;obtain⟨rvs,hr1,kr⟩:=st.ru;obtain⟨t1,a1,a2⟩:=tm
 refine'⟨_,(zC (yD (yI (λ_=>E) yAb yF (hr.mono (by decide)) rfl (zB ?_ (zB (zO (zW hr) (pv 0) zJ (λ_ _=>rfl)) zH))))
   (zC (yD (yI (λ_=>E) yAq yF (hr.mono (by decide)) rfl ?_))
   (zC (yD (yI (λ_=>E) yAq yF (hr.mono (by decide)) rfl ?_))
   (zC (yD (yI (λ_=>E) yAn yF (hr.mono (by decide)) rfl ?_))
   (zF (zN (yI (λ_=>E) yAp yF (hr.mono (by decide)) rfl (zB (pv 0) (zB (pv 1) zH))))))))),?_⟩
 nofun
 by_cases k0:0<=mo/\mo<=S.runs.length
 rotate_left
 ·exact⟨_,U,a,_,_,.int mo,U,U,.inr (SqT.of ha),U,_,U,d,.ref r,U,.inl ⟨_,.inr "runs",st.at_,U,rE.symm⟩,r,mo,S.runs.length,U,.inr ⟨rvs,hr1,by rw[kr.length,zBh]⟩,.inr ⟨⟨by lia,de (show mo.natAbs.log2<200 from t1) (by decide)⟩,bad .noMoment (by simp only[zU,if_pos k0]) H (.refl _)⟩⟩
 refine⟨_,U,a,_,_,.int mo,U,U,.inr (SqT.of ha),U,_,U,d,.ref r,U,.inl ⟨_,.inr "runs",st.at_,U,rE.symm⟩,r,mo,S.runs.length,U,.inr ⟨rvs,hr1,by rw[kr.length,zBh]⟩,.inl ⟨k0.1,k0.2,?_⟩⟩;refine⟨_,U,_,U,a,_,_,.str l1,U,U,.inr (SqT.of ha),U,d,m,b,r,t,S,l1,U,st,a1,.of (λk3 H1 s1=>?_) (λno H1 s1=>bad .noMark (by
  have:zP S l1=none:=by cases e:zP S l1 <;> simp[e] at no ⊢
  simp only[zU,if_neg (ar.mpr k0),if_pos this]) _ (.of s1))⟩
 have k3':¬ zP S l1=none:=λz=>by rw[z] at k3; cases k3
 have ha1:=s1 _ _ ha;refine⟨_,U,_,U,a,_,_,.str l2,U,U,.inr (SqT.of ha1),U,d,m,b,r,t,S,l2,U,st.to (.of s1),a2,.of (λk4 H2 s2=>?_) (λno H2 s2=>bad .noMark (by
  have:zP S l2=none:=by cases e:zP S l2 <;> simp[e] at no ⊢
  simp only[zU,if_neg (ar.mpr k0),if_neg k3',if_pos this]) _ (.of (s1.trans s2)))⟩
 have k4':¬ zP S l2=none:=λz=>by rw[z] at k4; cases k4
 obtain⟨p1,e1⟩:=aL.mp k3;obtain⟨p2,e2⟩:=aL.mp k4;have s12:=s1.trans s2;have at2:Sq K H2 a _:=.inr (SqT.of (s12 _ _ ha));refine⟨_,U,_,U,a,_,_,.str l1,U,U,at2,U,_,U,a,_,_,.str l2,U,U,at2,U,d,m,b,r,t,S,l1,l2,p1,p2,U,st.to (.of s12),e1,e2,aD a1.2 (by decide),aD a2.2 (by decide),.of (λk5 H3 s3=>?_) (λno H3 s3=>bad .same (by
  have:zP S l1=zP S l2:=by rw[e1,e2,ar.mp no]
  simp only[zU,if_neg (ar.mpr k0),if_neg k3',if_neg k4',if_pos this]) _ (.of (s12.trans s3)))⟩
 have k5':¬ zP S l1=zP S l2:=λz=>k5 (by rw[e1,e2] at z; exact bh z);have s23:=s12.trans s3;refine⟨_,U,_,U,d,.ref a,S,.range mo l1 l2,U,⟨m,b,r,t,st.to (.of s23)⟩,hv.to (.of s23),wl.good.few.no,wl.good.fresh,λk6 d' H4 s4 hd' st4=>q (by simp only[zU,if_neg (ar.mpr k0),if_neg k3',if_neg k4',if_neg k5',if_neg (show ¬ 24<=S.notes.length by lia)]) d' H4 (.of (s23.trans s4)) (s23.free hd') st4,
  λk6 H4 s4=>bad .full (by simp only[zU,if_neg (ar.mpr k0),if_neg k3',if_neg k4',if_neg k5',if_pos k6]) _ (.of (s23.trans s4))⟩
def uM(_:ae):Sp:=zF3 axC λD=>∃ k,D=.strike k
theorem zDe(F:Fun K "after_strike" "after_strike" wH f fd)(Z:Zs mg)(CB:Cb P w mg base)(yBm:Has P w K mg base "without" 1 ["state","kind","key"] (sZ K)):yY P w K mg base (CX1 P w) 2 f fd ["state","row"] (uM K):=by
 refine F.okX rQ (λvs H Q E h=>?_) (λcdv A outer s H vs Q E hr h=>?_)
 ·obtain⟨d,v,S,D,rfl,_⟩:=h;rfl
 obtain⟨d,v,S,D,rfl,⟨k,rfl⟩,⟨m,b,r,t,st⟩,hv,tm,wl,q,bad⟩:=h;obtain⟨a,rfl,ha⟩:=zCg hv;obtain⟨nk,hn,kn⟩:=st.no
 refine'⟨_,(zC (PS.nox (yE 2 rQ.nd ?_))
   (zC (zZ (qU (sQ (zW hr) (pv 2) (zO (zW hr) (pv 0) zJ (λ_ _=>rfl))) (by with_unfolding_all rfl)) (zF (xI (λ_=>E) CB.e_NoNote ao (by decide) ao xJ (zB (wO (wR (zB3 (pv 2) (wR tS)))) zH))) zM)
   (zF (PS.nox (zN ?_))))),?_⟩
 nofun
 exists _,U,a,_,_,.int k,U,U,.inr (SqT.of ha),U,_,U,_,U,d,.ref t,U,.inl ⟨_,.inr "notes",st.at_,U,qO.symm⟩,t,_,U,.inl ⟨nk,.inl k,hn,U,U⟩,_,rfl;cases ev:wF nk (.inl k) with
 | none=>exact xP ⟨_,rfl,.inl ⟨k,rfl,de (show k.natAbs.log2<200 from tm) (by decide)⟩,λy _=>⟨by show 1<=sizeLine; decide,bad .noNote (by simp only[zU,if_neg ((zMo kn).mp ev)]) H (.refl _)⟩⟩
 | some v =>
  have ok:k∈S.notes.map (·.1):=ar.mp λz=>by rw[(zMo kn).mpr z] at ev; cases ev
  refine yW ?_;refine⟨_,U,_,U,d,t, "notes",.inl k,v,_,nk,U,st.at_,qO,hn,ev,StA.stKlen,λf c H2 s2 hf ne ef ec=>?_⟩;have st2:=st.to (.of s2);rw[zLk] at ef;refine q (by simp only[zU,if_pos ok]) f H2 (.of s2) hf ⟨m,b,r,c,.inl ef,st2.ma,st2.ba,st2.ru,⟨_,.inl ec,?_⟩⟩;have:=(kn.to (.of s2)).drop (k:=.inl k);rw[zNp] at this;exact this
def inTab(_:Deed):Prop:=True
def zHy(_:ae):Sp:=zF3 axC inTab
def tabL:List (Key×Sp):=[(.inr "mark",sC []),(.inr "move",tY []),(.inr "unmark",uO []),(.inr "bank",sJ []),(.inr "level",vN []),(.inr "sail",tN []),(.inr "right",vO []),(.inr "bearing",uD []),(.inr "range",vR []),(.inr "strike",uM [])]
theorem zPg(F:Fun K "after" "after" zCb f fd)(Z:Zs mg)(CB:Cb P w mg base)(yAo:qW P w K mg base "after_mark" 3 ["state","row"] (sC K))(yAu:qW P w K mg base "after_move" 3 ["state","row"] (tY K))(yAf:qW P w K mg base "after_unmark" 2 ["state","row"] (uO K))(yAy:qW P w K mg base "after_bank" 4 ["state","row"] (sJ K))(yAi:qW P w K mg base "after_level" 2 ["state","row"] (vN K))(yAt:qW P w K mg base "after_sail" 3 ["state","row"] (tN K))(yAk:qW P w K mg base "after_right" 3 ["state","row"] (vO K))(yAa:qW P w K mg base "after_bearing" 3 ["state","row"] (uD K))(yAm:qW P w K mg base "after_range" 3 ["state","row"] (vR K))(yAd:qW P w K mg base "after_strike" 2 ["state","row"] (uM K)):yY P w K mg base (CX1 P w) 5 f fd ["state","row"] (zHy K):=by
 refine F.okX zPq (λvs H Q E h=>?_) (λcdv A outer s H vs Q E hr h=>?_)
 ·obtain⟨d,v,S,D,rfl,_⟩:=h;rfl
 obtain⟨d,v,S,D,rfl,kd,st,hv,tm,wl,q,bad⟩:=h;have tabs:∀ r∈tabL,zVq P w K mg base 4 zVz r.1 r.2:=by
  intro r hr;simp only[tabL,aA,bA,or_false] at hr;rcases hr with rfl | rfl | rfl | rfl | rfl | rfl | rfl | rfl | rfl | rfl
  ·exact⟨"after_mark",_,_,_,by kernel_rfl,CB.t_mark,yAo,by decide⟩
  ·exact⟨"after_move",_,_,_,by kernel_rfl,CB.t_move,yAu,by decide⟩
  ·exact⟨"after_unmark",_,_,_,by kernel_rfl,CB.t_unmark,yAf,by decide⟩
  ·exact⟨"after_bank",_,_,_,by kernel_rfl,CB.t_bank,yAy,by decide⟩
  ·exact⟨"after_level",_,_,_,by kernel_rfl,CB.t_level,yAi,by decide⟩
  ·exact⟨"after_sail",_,_,_,by kernel_rfl,CB.t_sail,yAt,by decide⟩
  ·exact⟨"after_right",_,_,_,by kernel_rfl,CB.t_right,yAk,by decide⟩
  ·exact⟨"after_bearing",_,_,_,by kernel_rfl,CB.t_bearing,yAa,by decide⟩
  ·exact⟨"after_range",_,_,_,by kernel_rfl,CB.t_range,yAm,by decide⟩
  ·exact⟨"after_strike",_,_,_,by kernel_rfl,CB.t_strike,yAd,by decide⟩
 refine'⟨_,(zF (zN (zXu (λ_=>E) CB.dAFTER CB.gAFTER tabs yF (hr.mono (by decide)) ?_ (zB (pv 0) (zB (pv 1) zH))))),?_⟩
 nofun
 cases D with
 | mark n x y =>
  obtain⟨a,rfl,ha⟩:=zIy hv;exact⟨_,U,a,_,_,.str "mark",U,U,.inr (SqT.of ha),U,.inr "mark",_,U,.head _,_,U,_,U,d,.ref a,S,_,U,⟨_,_,_,U⟩,st,hv,tm,wl,q,bad⟩
 | move n x y =>
  obtain⟨a,rfl,ha⟩:=zIm hv;exact⟨_,U,a,_,_,.str "move",U,U,.inr (SqT.of ha),U,.inr "move",_,U,.tail _ (.head _),_,U,_,U,d,.ref a,S,_,U,⟨_,_,_,U⟩,st,hv,tm,wl,q,bad⟩
 | unmark n =>
  obtain⟨a,rfl,ha⟩:=zCu hv;exact⟨_,U,a,_,_,.str "unmark",U,U,.inr (SqT.of ha),U,.inr "unmark",_,U,.tail _ (.tail _ (.head _)),_,U,_,U,d,.ref a,S,_,U,⟨_,U⟩,st,hv,tm,wl,q,bad⟩
 | bank n cs =>
  obtain⟨a,_,_,rfl,ha,_⟩:=zFi hv;exact⟨_,U,a,_,_,.str "bank",U,U,.inr (SqT.of ha),U,.inr "bank",_,U,.tail _ (.tail _ (.tail _ (.head _))),_,U,_,U,d,.ref a,S,_,U,⟨_,_,U⟩,st,hv,tm,wl,q,bad⟩
 | level n =>
  obtain⟨a,rfl,ha⟩:=zEp hv;exact⟨_,U,a,_,_,.str "level",U,U,.inr (SqT.of ha),U,.inr "level",_,U,.tail _ (.tail _ (.tail _ (.tail _ (.head _)))),_,U,_,U,d,.ref a,S,_,U,⟨_,U⟩,st,hv,tm,wl,q,bad⟩
 | sail x y =>
  obtain⟨a,rfl,ha⟩:=zJc hv;exact⟨_,U,a,_,_,.str "sail",U,U,.inr (SqT.of ha),U,.inr "sail",_,U,.tail _ (.tail _ (.tail _ (.tail _ (.tail _ (.head _))))),_,U,_,U,d,.ref a,S,_,U,⟨_,_,U⟩,st,hv,tm,wl,q,bad⟩
 | right k x y =>
  obtain⟨a,rfl,ha⟩:=zEu hv;exact⟨_,U,a,_,_,.str "right",U,U,.inr (SqT.of ha),U,.inr "right",_,U,.tail _ (.tail _ (.tail _ (.tail _ (.tail _ (.tail _ (.head _)))))),_,U,_,U,d,.ref a,S,_,U,⟨_,_,_,U⟩,st,hv,tm,wl,q,bad⟩
 | bearing m n x y z t =>
  obtain⟨a,p,u,rfl,ha,_⟩:=wP hv;exact⟨_,U,a,_,_,.str "bearing",U,U,.inr (SqT.of ha),U,.inr "bearing",_,U,.tail _ (.tail _ (.tail _ (.tail _ (.tail _ (.tail _ (.tail _ (.head _))))))),_,U,_,U,d,.ref a,S,_,U,⟨_,_,_,_,_,_,U⟩,st,hv,tm,wl,q,bad⟩
 | range m n k =>
  obtain⟨a,rfl,ha⟩:=sW hv;exact⟨_,U,a,_,_,.str "range",U,U,.inr (SqT.of ha),U,.inr "range",_,U,.tail _ (.tail _ (.tail _ (.tail _ (.tail _ (.tail _ (.tail _ (.tail _ (.head _)))))))),_,U,_,U,d,.ref a,S,_,U,⟨_,_,_,U⟩,st,hv,tm,wl,q,bad⟩
 | strike k =>
  obtain⟨a,rfl,ha⟩:=zCg hv;exact⟨_,U,a,_,_,.str "strike",U,U,.inr (SqT.of ha),U,.inr "strike",_,U,.tail _ (.tail _ (.tail _ (.tail _ (.tail _ (.tail _ (.tail _ (.tail _ (.tail _ (.head _))))))))),_,U,_,U,d,.ref a,S,_,U,⟨_,U⟩,st,hv,tm,wl,q,bad⟩
def zOd(_:ae):Sp:=λvs H Q _=>∃(o t wd:Int),vs=[.int o,.int t,.int wd]/\1<=wd/\wd<=1000000 /\
 ∀(p:af)(x y:Int)(H':Hp),Same H H'->H p=none->H' p=some (.tup [.int x,.int y])->(x≠0\/y≠0)->x.natAbs<=wd.natAbs->y.natAbs<=wd.natAbs->Q (.ref p) H'
theorem zU0(F:Fun K "_law_way" "_law_way" zH3 f fd)(Z:Zs mg)(CB:Cb P w mg base)  : yY P w K mg base CX0 1 f fd ["_law_one","_law_two","_law_wide"] (zOd K):=by
 specialize zE4
 ·obtain⟨o,t,wd,rfl,_⟩:=h;rfl
 obtain⟨o,t,wd,rfl,w1,w2,q⟩:=h
 refine'⟨_,(zC (yE 3 zE4.nd ?_)
   (zC (yE 4 zE4.nd ?_)
   (zC (zZ ?_ (zF (yE 3 zE4.nd ?_)) zM)
   (zF (zN ?_))))),?_⟩
 nofun
 have x0:=bj o (show 2*wd+1≠0 by lia);have x1:=aV o (show 0<2*wd+1 by lia);have y0:=bj t (show 2*wd+1≠0 by lia);have y1:=aV t (show 0<2*wd+1 by lia);exists _,U,_,U,_,_,U,U,.inl ⟨by decide,by decide⟩,_,_,U,U,_,_,U,U,(by show 0<2*wd+1; lia),_,rfl,_,_,rfl,rfl;exists _,U,_,U,_,_,U,U,.inl ⟨by decide,by decide⟩,_,_,U,U,_,_,U,U,(by show 0<2*wd+1; lia),_,rfl,_,_,rfl,rfl;exists _,U,U,_,rfl;refine ifE (λhx=>?_) (λhx=>?_)
 ·exists _,U,U,_,rfl;refine ifE (λhy=>?_) (λhy=>?_)
  ·exists _,U,_,_,U,U,gt2,_,_,U,U,.inl ⟨by decide,by decide⟩,_,_,U,rfl;refine⟨_,U,_,U,sz2,λp hp=>?_⟩;exact q p _ _ _ (zD hp _) hp zA (by left; lia) (by lia) (by lia)
  ·refine⟨_,U,_,U,sz2,λp hp=>?_⟩;exact q p _ _ _ (zD hp _) hp zA (.inr hy) (by lia) (by lia)
 ·refine yW ?_;refine⟨_,U,_,U,sz2,λp hp=>?_⟩;exact q p _ _ _ (zD hp _) hp zA (.inl hx) (by lia) (by lia)
def zBq(K:ae):Sp:=λvs H Q _=>∃(a b:af)(us ws:List V)(x1 y1 x2 y2:Int),vs=[.ref a,.ref b]/\Sq K H a us/\Sq K H b ws/\atI us 0=some (.int x1)/\atI us 1=some (.int y1)/\atI ws 0=some (.int x2)/\atI ws 1=some (.int y2) /\
 x1.natAbs<=10^18/\y1.natAbs<=10^18/\Q (.int (x1*y2-y1*x2)) H
theorem zM5(F:Fun K "_law_turned" "_law_turned" zA0 f fd)(Z:Zs mg)(CB:Cb P w mg base)  : yY P w K mg base CX0 1 f fd ["_law_one","_law_other"] (zBq K):=by
 specialize zL9
 ·obtain⟨a,b,us,ws,x1,y1,x2,y2,rfl,_⟩:=h;rfl
 obtain⟨a,b,us,ws,x1,y1,x2,y2,rfl,ha,hb,u0,u1,w0,w1,m1,m2,q⟩:=h
 refine'⟨_,(zF (zN ?_)),?_⟩
 nofun
 exact⟨_,U,a,_,_,.int x1,U,U,ha,u0,_,U,b,_,_,.int y2,U,U,hb,w1,_,_,U,U,zY0 (by lia),
  _,rfl,a,_,_,.int y1,rfl,rfl,ha,u1,_,rfl,b,_,_,.int x2,rfl,rfl,hb,w0,_,_,rfl,rfl,zY0 (by lia),_,_,rfl,rfl,q⟩
def rC(K:ae):Sp:=λvs H Q _=>∃(a:af)(rows:List Int)(wd:Int),vs=[.ref a,.int wd]/\SqL K H a (rows.map V.int)/\5<=rows.length/\(∀ x∈rows,0<=x/\x<1000003)/\1<=wd/\wd<=100 /\
 ∀(t p r:af)(A0 A1 B0 B1:Int)(H':Hp),Same H H'->H' t=some (.tup [.ref p,.ref r])->H' p=some (.tup [.int A0,.int A1])->H' r=some (.tup [.int B0,.int B1])->0<A0*B1-A1*B0->A0.natAbs<=wd.natAbs->A1.natAbs<=wd.natAbs->B0.natAbs<=wd.natAbs->B1.natAbs<=wd.natAbs->Q (.ref t) H'
theorem zG1(F:Fun K "_law_left_pair" "_law_left_pair" vZ f fd)(Z:Zs mg)(CB:Cb P w mg base)(yBo:Has P w K mg base "_law_turned" 1 ["_law_one","_law_other"] (zBq K))(yCf:Has P w K mg base "_law_way" 1 ["_law_one","_law_two","_law_wide"] (zOd K)):yY P w K mg base CX0 2 f fd ["_law_d","_law_wide"] (rC K):=by
 specialize xN
 ·obtain⟨a,rows,wd,rfl,_⟩:=h;rfl
 obtain⟨a,rows,wd,rfl,hS,hl,bd,w1,w2,q⟩:=h
 refine'⟨_,(zC (yE 2 xN.nd ?_)
   (zC (yE 3 xN.nd ?_)
   (zC (zZ ?_ (zF (yE 3 xN.nd ?_)) zM)
   (zC (zZ ?_ (zF (zVn (i:=2) (j:=3) rfl xN.nd rfl rfl (by decide) rfl rfl (zB (pv 3) (zB (pv 2) zH)) rfl)) zM)
   (zC (zZ ?_ (zF (yE 3 xN.nd ?_)) zM)
   (zF (zN ?_))))))),?_⟩
 nofun
 obtain⟨v0,a0,_⟩:=xG bd (k:=0) (by decide) (by lia);obtain⟨v1,a1,_⟩:=xG bd (k:=1) (by decide) (by lia);obtain⟨v2,a2,_⟩:=xG bd (k:=2) (by decide) (by lia);obtain⟨v3,a3,_⟩:=xG bd (k:=3) (by decide) (by lia);obtain⟨v4,a4,_⟩:=xG bd (k:=4) (by decide) (by lia);refine⟨_,U,a,_,_,_,U,U,.inl hS,a0,_,U,a,_,_,_,U,U,.inl hS,a1,_,U,v0,v1,wd,U,w1,by lia,λp1 x1 y1 H2 s2 hp1 e1' n1 m1 m2=>?_⟩;have wb:wd.natAbs<=10^18:=by lia
 have k1:x1.natAbs<=wd.natAbs:=by lia
 have k2:y1.natAbs<=wd.natAbs:=by lia
 clear m1 m2;apply cut4 (ok:=λO X Y G=>Same H G/\G p1=some (.tup [.int x1,.int y1])/\G O=some (.tup [.int X,.int Y])/\X.natAbs<=wd.natAbs/\Y.natAbs<=wd.natAbs)
 ·intro main;refine⟨_,U,a,_,_,_,U,U,.inl (s2.seq hS),a2,_,U,a,_,_,_,U,U,.inl (s2.seq hS),a3,_,U,v2,v3,wd,U,w1,by lia,λp2 x2 y2 H3 s3 hp2 e3 n2 m3 m4=>?_⟩;have s23:=s2.trans s3;have e13:=s3 _ _ e1';exists _,U,a,_,_,_,U,U,.inl (s23.seq hS),a4,_,_,U,U,gt4,U,_,rfl;refine ifE (λ_=>?_) (λ_=>?_);rotate_left
  ·exact main p2 x2 y2 H3 ⟨s23,e13,e3,by lia,by lia⟩
  ·refine⟨_,U,p1,_,_,.int y1,U,U,.inr (SqT.of e13),U,_,U,_,U,p1,_,_,.int x1,U,U,.inr (SqT.of e13),U,sz2,λd hd=>?_⟩;have sd:=zD hd (.tup [.int (-y1),.int x1]);exact main d (-y1) x1 _ ⟨s23.trans sd,sd _ _ e13,zA,by rw[ji]; exact k2,k1⟩
 rintro O X Y G ⟨sH,e1,e2,k3,k4⟩;have f1:Sq K G p1 [.int x1,.int y1]:=.inr (SqT.of e1);have f2:Sq K G O [.int X,.int Y]:=.inr (SqT.of e2);have b1:x1.natAbs<=10^18:=aD k1 wb;have b2:y1.natAbs<=10^18:=aD k2 wb;exists _,U,_,U,p1,O,_,_,x1,y1,X,Y,U,f1,f2,U,U,U,U,b1,b2,_,_,U,U,_,rfl;have eT:X*y1-Y*x1 = -(x1*Y-y1*X):=by rw[iC X y1,iC Y x1]; lia
 refine ifD (λhneg=>?_) (λhneg=>?_)
 ·exists _,U,_,U,_,_,rfl;exists _,U,_,U,O,p1,_,_,X,Y,x1,y1,U,f2,f1,U,U,U,U,aD k3 wb,aD k4 wb,U,_,rfl;refine ifE (λz=>absurd z (by clear k1 k2 k3 k4 b1 b2 w1 w2 wb hl; lia)) (λ_=>?_);refine⟨_,U,_,U,sz2,λt ht=>?_⟩;have st:=zD ht (.tup [.ref O,.ref p1]);exact q t O p1 X Y x1 y1 _ ((sH).trans st) zA (st _ _ e2) (st _ _ e1) (by clear k1 k2 k3 k4 b1 b2 w1 w2 wb hl; lia) k3 k4 k1 k2
 ·exists _,U,_,U,p1,O,_,_,x1,y1,X,Y,U,f1,f2,U,U,U,U,b1,b2,U,_,rfl;refine ifE (λhz=>?_) (λhz=>?_)
  ·refine⟨_,U,p1,_,_,.int y1,U,U,f1,U,_,U,_,U,p1,_,_,.int x1,U,U,f1,U,sz2,λd hd=>?_⟩;have sd:=zD hd (.tup [.int (-y1),.int x1]);refine⟨_,U,_,U,sz2,λt ht=>?_⟩;have st:=zD ht (.tup [.ref p1,.ref d]);have sp:=yc7 n1;exact q t p1 d x1 y1 (-y1) x1 _ (sH.trans (sd.trans st)) zA (st _ _ (sd _ _ e1)) (st _ _ zA) (by rw[lF]; lia) k1 k2 (by rw[ji]; exact k2) k1
  ·refine⟨_,U,_,U,sz2,λt ht=>?_⟩;have st:=zD ht (.tup [.ref p1,.ref O]);exact q t p1 O x1 y1 X Y _ (sH.trans st) zA (st _ _ e1) (st _ _ e2) (by clear k1 k2 k3 k4 b1 b2 w1 w2 wb hl; lia) k1 k2 k3 k4
structure zVi(H0:Hp)(l:af)(ps:List Pr)(H:Hp):Prop where
 same:Same H0 H
 new:H0 l=none
 at':H l=some (.lst (zQ ps))
 all:zCz H 10000 ps
theorem zVi.on{H0 H H2:Hp}{l:af}{ps:List Pr}(P:zVi H0 l ps H)(s:Same H H2):zVi H0 l ps H2:=⟨P.same.trans s,P.new,s _ _ P.at',P.all.same s⟩
theorem zVi.app{H0 H:Hp}{l h:af}{ps:List Pr}{x y:Int}(P:zVi H0 l ps H)(eh:H h=some (.tup [.int x,.int y]))(hx:x.natAbs<=10000)(hy:y.natAbs<=10000) :
  zVi H0 l (ps++[(h,x,y)]) (upd H l (.lst (zQ ps++[.ref h])))/\upd H l (.lst (zQ ps++[.ref h])) h=some (.tup [.int x,.int y]):=by
 have k:∀(b:af)(xs:List V),H b=some (.tup xs)->upd H l (.lst (zQ ps++[.ref h])) b=some (.tup xs):=λb xs e=>by
  rw[zG (zRg e P.at' (by intro z; cases z))];exact e
 refine⟨⟨P.same.putNew P.new,P.new,by rw[zA,zAw] <;> rfl,λt ht=>?_⟩,k _ _ eh⟩;rcases aS.mp ht with h' | h'
 ·exact⟨k _ _ (P.all t h').1,(P.all t h').2⟩
 ·rw[av] at h';subst h';exact⟨k _ _ eh,hx,hy⟩
theorem zP6(ps:List Pr)(k:Nat):rG (zQ ps) (some (k:Int)) none=zQ (ps.drop k)/\rG (zQ ps) none (some (k:Int))=zQ (ps.take k):=by
 refine⟨?_,zJb ps k⟩;unfold rG;rw[HT.sIx_nat (zQ ps).length 0 k,show HT.sIx (zQ ps).length (zQ ps).length none=(zQ ps).length from rfl,cg (by rw[bG] <;> lia)];rw[zT];simp only[zQ,<- jD]
 congr 2
 by_cases h:k<=ps.length
 ·rw[Nat.min_eq_left h]
 ·rw[Nat.min_eq_right (by lia),List.drop_length,List.drop_eq_nil_of_le (by lia)]
def zLc(K:ae):Sp:=λvs H Q _=>∃(a:af)(rows:List Int)(wd:Int),vs=[.ref a,.int wd]/\SqL K H a (rows.map V.int)/\9<=rows.length/\(∀ x∈rows,0<=x/\x<1000003)/\1<=wd/\wd<=100 /\
 ∀(l:af)(qs:List Pr)(H':Hp),Same H H'->H l=none->H' l=some (.lst (zQ qs))->zCz H' 10000 qs->zYn (qs.map (·.2))->Q (.ref l) H'
theorem zRi(F:Fun K "_law_bank" "_law_bank" zEs f fd)(Z:Zs mg)(CB:Cb P w mg base)(yBe:Has P w K mg base "_law_left_pair" 2 ["_law_d","_law_wide"] (rC K)):yY P w K mg base CX0 3 f fd ["_law_d","_law_wide"] (zLc K):=by
 specialize yR
 ·obtain⟨a,rows,wd,rfl,_⟩:=h;rfl
 obtain⟨a,rows,wd,rfl,hS,hl,bd,w1,w2,q⟩:=h
 refine'⟨_,(zC (zB0 ?_ (rM rfl (yG (rO 2 yR.nd) (yG (rO 3 yR.nd) wY))))
   (zC (zB0 (pv 2) (rM rfl (yG (rO 4 yR.nd) (yG (rO 5 yR.nd) wY))))
   (zC (zB0 (pv 3) (rM rfl (yG (rO 6 yR.nd) (yG (rO 7 yR.nd) wY))))
   (zC (yE 8 yR.nd ?_)
   (zC (yE 9 yR.nd ?_)
   (zC (yD (zJa (pv 8) (zB (xO zAa (pv 9) ?_) zH)))
   (zC (yD (zJa (pv 8) (zB (xO zAa (pv 9) ?_) zH)))
   (zC (yE 10 yR.nd ?_)
   (zC (yE 11 yR.nd ?_)
   (zC (yE 12 yR.nd ?_)
   (zC (tO bZ rfl (zNe (pv 11)) (rM rfl (yG (rO 13 yR.nd) (yG (rO 14 yR.nd) wY))) (zC (yD (zJa (pv 12) (zB (pv 10) zH)))
   (zF (yE 10 yR.nd ?_))))
   (zC (yE 15 yR.nd ?_)
   (zF (zN (xO zAa ?_ ?_))))))))))))))),?_⟩
 nofun
 obtain⟨v5,a5,_⟩:=xG bd (k:=5) (by decide) (by lia);obtain⟨v6,a6,_⟩:=xG bd (k:=6) (by decide) (by lia);obtain⟨v7,a7,_⟩:=xG bd (k:=7) (by decide) (by lia);obtain⟨v8,a8,_⟩:=xG bd (k:=8) (by decide) (by lia);refine⟨_,U,_,U,a,rows,wd,U,hS,by lia,bd,w1,w2,λtp pa pb x y p q' G0 sG etp epa epb tpos k1 k2 k3 k4=>?_⟩;exists tp,_,U,SqT.of etp,U,.ref pa,_,U,.ref pb,_,U,rfl;exists _,U,pa,_,U,SqT.of epa,U,.int x,_,U,.int y,_,U,rfl;exists _,U,pb,_,U,SqT.of epb,U,.int p,_,U,.int q',_,U,rfl;clear etp epa epb
 replace k1:x.natAbs<=100:=by lia
 replace k2:y.natAbs<=100:=by lia
 replace k3:p.natAbs<=100:=by lia
 replace k4:q'.natAbs<=100:=by lia
 have W4:∀{σ:St},σ[4]?=some (some (.int x))->PIb (zMr 4) σ x 100:=λh=>.var h k1;have W5:∀{σ:St},σ[5]?=some (some (.int y))->PIb (zMr 5) σ y 100:=λh=>.var h k2;have W6:∀{σ:St},σ[6]?=some (some (.int p))->PIb (zMr 6) σ p 100:=λh=>.var h k3;have W7:∀{σ:St},σ[7]?=some (some (.int q'))->PIb (zMr 7) σ q' 100:=λh=>.var h k4;have c2:∀{σ:St},PIb (tC (.int 2)) σ 2 2:=.con (by decide);have c3:∀{σ:St},PIb (tC (.int 3)) σ 3 3:=.con (by decide);dsimp only;refine zTx (M:=1000)
  (.cons (W4 rfl) (W5 rfl) (.cons (.sub (W6 rfl) (W4 rfl)) (.sub (W7 rfl) (W5 rfl)) (.cons (.neg (W6 rfl)) (.neg (W7 rfl)) .nil)))
  (.cons (W4 rfl) (W5 rfl) (.cons (W6 rfl) (W7 rfl) (.cons (.neg (W4 rfl)) (.neg (W5 rfl)) (.cons (.neg (W6 rfl)) (.neg (W7 rfl)) .nil))))
  (.cons (.mul c2 (W4 rfl) (by decide)) (.mul c2 (W5 rfl) (by decide)) (.cons (W6 rfl) (W7 rfl) (.cons (.sub (W6 rfl) (W4 rfl)) (.sub (W7 rfl) (W5 rfl)) (.cons (.neg (W4 rfl)) (.neg (W5 rfl)) (.cons (.mul (.neg c2) (W6 rfl) (by decide)) (.mul (.neg c2) (W7 rfl) (by decide)) .nil)))))
  (.cons (W4 rfl) (W5 rfl) (.cons (.add (W4 rfl) (W6 rfl)) (.add (W5 rfl) (W7 rfl)) (.cons (W6 rfl) (W7 rfl) (.cons (.neg (W4 rfl)) (.neg (W5 rfl)) (.cons (.sub (.neg (W4 rfl)) (W6 rfl)) (.sub (.neg (W5 rfl)) (W7 rfl)) (.cons (.neg (W6 rfl)) (.neg (W7 rfl)) .nil))))))
  (by show 3<=1000; decide) (by show 4<=1000; decide) (by show 5<=1000; decide) (by show 6<=1000; decide) λlo xs G1 s1 hlo L1 m1=>?_
 unfold zIz;refine zR5 (M:=1000) (.cons (W4 rfl) (W5 rfl) (.cons (.add (.mul c2 (W4 rfl) (by decide)) (W6 rfl)) (.add (.mul c2 (W5 rfl) (by decide)) (W7 rfl)) (.cons (.add (W4 rfl) (.mul c2 (W6 rfl) (by decide))) (.add (W5 rfl) (.mul c2 (W7 rfl) (by decide))) (.cons (W6 rfl) (W7 rfl) (.cons (.neg (W4 rfl)) (.neg (W5 rfl)) .nil))))) (by show 5<=1000; decide) λl4 p4 G2 s2 hl4 el4 pk4 m4=>?_;have new:H lo=none:=sG.free hlo;have sG2:=(sG.trans s1).trans s2;have L2':=L1.same s2;have n4:l4≠lo:=λz=>by rw[z,L1.at'] at hl4; cases hl4
 clear sG s1 L1 s2 hl4;exists _,U,.inl ⟨U,_,SqL.of L2'.at'⟩,_,rfl;show zEv _ _ _ _;refine zCh (M:=1000) (.cons (.sub (.mul (.neg c2) (W4 rfl) (by decide)) (W6 rfl)) (.sub (.mul (.neg c2) (W5 rfl) (by decide)) (W7 rfl)) (.cons (.sub (.neg (W4 rfl)) (.mul c3 (W6 rfl) (by decide))) (.sub (.neg (W5 rfl)) (.mul c3 (W7 rfl) (by decide))) .nil)) (by show 2<=1000; decide) λl5 p5 G3 s3 _ el5 pk5 m5=>?_;have len4:p4.length=5:=by
  have z:=congrArg cM m4;rw[aa] at z;exact z
 have len5:p5.length=2:=by
  have z:=congrArg cM m5;rw[aa] at z;exact z
 have nx:xs.length=4:=by
  have z:=congrArg cM m1;rw[aa] at z;exact z
 have nr:∀ X:List (af×List Pr),(qS X).length=X.length:=λX=>by rw[aa,aa]
 refine⟨l4,l5,_,_,U,U,s3 _ _ el4,el5,zC1 (by rw[zT,zT]; lia),λl6 hl6=>?_⟩;have sl6:Same G3 (upd G3 l6 (.lst (zQ p4++zQ p5))):=zD hl6 _;have el6:upd G3 l6 (.lst (zQ p4++zQ p5)) l6=some (.lst (zQ (p4++p5))):=by rw[zA,zAw]
 have L4:=L2'.same (s3.trans sl6);have n6:l6≠lo:=λz=>by rw[z,(L2'.same s3).at'] at hl6; cases hl6
 generalize upd G3 l6 (.lst (zQ p4++zQ p5))=G4 at sl6 el6 L4 ⊢;exists lo,_,_,U,U,L4.at',zV (by rw[nr]; lia);have L5:=L4.app n6 el6 ((pk4.same (s3.trans sl6)).app (pk5.same sl6));have sO:=(sG2.trans (s3.trans sl6)).putNew (o:=.lst (qS xs++[.ref l6])) new;have f4:upd G4 lo (.lst (qS xs++[.ref l6])) l4=some (.lst (zQ p4)):=by
  rw[zG n4];exact(s3.trans sl6) _ _ el4
 have g4:=zVa L4.at' (pk4.same (s3.trans sl6)) (.lst (qS xs++[.ref l6]));generalize upd G4 lo (.lst (qS xs++[.ref l6]))=G5 at L5 sO f4 g4 ⊢;clear L4 L2' sG2 s3 el5 pk5 el6 sl6 n6 el4 pk4;exists _,U,.inl ⟨U,_,SqL.of L5.at'⟩,_,rfl;show zEv _ _ _ _;refine zCh (M:=1000) (.cons (.sub (.mul (.neg c2) (W4 rfl) (by decide)) (W6 rfl)) (.sub (.mul (.neg c2) (W5 rfl) (by decide)) (W7 rfl)) (.cons (.sub (.neg (W4 rfl)) (.mul c2 (W6 rfl) (by decide))) (.sub (.neg (W5 rfl)) (.mul c2 (W7 rfl) (by decide))) (.cons (.neg (W6 rfl)) (.neg (W7 rfl)) .nil))) (by show 3<=1000; decide) λl7 p7 G6 s6 _ el7 pk7 m7=>?_;have len7:p7.length=3:=by
  have z:=congrArg cM m7;rw[aa] at z;exact z
 refine⟨l4,l7,_,_,U,U,s6 _ _ f4,el7,zC1 (by rw[zT,zT]; lia),λl8 hl8=>?_⟩;have sl8:Same G6 (upd G6 l8 (.lst (zQ p4++zQ p7))):=zD hl8 _;have el8:upd G6 l8 (.lst (zQ p4++zQ p7)) l8=some (.lst (zQ (p4++p7))):=by rw[zA,zAw]
 have L8:=L5.same (s6.trans sl8);have n8:l8≠lo:=λz=>by rw[z,(L5.same s6).at'] at hl8; cases hl8
 generalize upd G6 l8 (.lst (zQ p4++zQ p7))=G8 at sl8 el8 L8 ⊢;exists lo,_,_,U,U,L8.at',zV (by rw[nr,aC]; show xs.length+1<=1000; lia);have L9:=L8.app n8 el8 ((g4.same (s6.trans sl8)).app (pk7.same sl8));have sG:=(sO.trans (s6.trans sl8)).putNew (o:=.lst (qS (xs++[(l6,p4++p5)])++[.ref l8])) new;generalize upd G8 lo (.lst (qS (xs++[(l6,p4++p5)])++[.ref l8]))=G40 at L9 sG ⊢;clear L8 L5 sO s6 f4 g4 el7 pk7 el8 sl8 n8 n4;have elo:=L9.at';have mm:(xs++[(l6,p4++p5)]++[(l8,p4++p7)]).map (λu=>u.2.map (·.2))=(bv 6).map (zE8 x y p q'):=by
  rw[aG,aG,m1];simp only[aN,eA,aG,m4,m5,m7];rfl
 have sq:Sq K G40 a (rows.map V.int):=.inl (sG.seq hS);refine⟨_,U,a,_,_,_,U,U,sq,a5,_,_,U,U,(by show(0:Int)<41; decide),_,_,rfl,rfl,_,rfl,a,_,_,_,rfl,rfl,sq,a6,_,_,rfl,rfl,(by show(0:Int)<41; decide),_,_,rfl,rfl,sz2,λh0 hh0=>?_⟩;obtain⟨c,lr,ls,hc,hat,elr,pls,els⟩:∃(c:Nat)(lr:af)(ls:List Pr),c<6/\atI (qS (xs++[(l6,p4++p5)]++[(l8,p4++p7)])) (v7%6)=some (.ref lr)/\G40 lr=some (.lst (zQ ls))/\zCz G40 1000 ls/\ls.map (·.2)=zE8 x y p q' c:=by
  generalize xs++[(l6,p4++p5)]++[(l8,p4++p7)]=X at L9 mm;have z0:=bj v7 (show(6:Int)≠0 by decide);have z1:=aV v7 (show(0:Int)<6 by decide);have z2:((v7%6).toNat:Int)=v7%6:=by lia
  have z3:(v7%6).toNat<6:=by lia
  have g:(X.map (λu=>u.2.map (·.2)))[(v7%6).toNat]?=((bv 6).map (zE8 x y p q'))[(v7%6).toNat]?:=by rw[mm]
  rw[ak,ak,jt z3] at g;cases gu:X[(v7%6).toNat]? with
  | none=>rw[gu] at g; cases g
  | some u =>
   rw[gu] at g;obtain⟨_,h2,h3⟩:=L9.all u (aJ gu);refine⟨(v7%6).toNat,u.1,u.2,z3,?_,h2,h3,bh g⟩;have k:atI (qS X) (((v7%6).toNat:Nat):Int)=some (V.ref u.1):=vQ (by rw[ak,ak,gu]; rfl);rw[z2] at k;exact k
 have bh0:(v5%41-20).natAbs<=20:=by lia
 have bh1:(v6%41-20).natAbs<=20:=by lia
 have s41:Same G40 (upd G40 h0 (.tup [.int (v5%41-20),.int (v6%41-20)])):=zD hh0 _;have eh:upd G40 h0 (.tup [.int (v5%41-20),.int (v6%41-20)]) h0=some (.tup [.int (v5%41-20),.int (v6%41-20)]):=zA;generalize upd G40 h0 (.tup [.int (v5%41-20),.int (v6%41-20)])=G41 at s41 eh ⊢;generalize v5%41-20=hx at bh0 eh;generalize v6%41-20=hy at bh1 eh
 replace sG:=sG.trans s41
 replace elr:=s41 _ _ elr
 replace pls:=pls.same s41
 replace elo:=s41 _ _ elo
 have hls:ls.length=(zYl c).length:=by
  have z:=congrArg cM (zNx hc hx hy x y p q');rw[zD2,<- els,aa] at z;rw[z];exact aa _
 have hl8:=zGc hc;exists _,U,_,U,a,_,_,_,U,U,.inl (sG.seq hS),a7,_,_,U,U,(by show(0:Int)<6; decide),lo,_,_,_,rfl,rfl,.inl (SqL.of elo),hat;refine⟨sz0,λl hl0=>?_⟩;have P0:zVi G41 l [] (upd G41 l (.lst [])):=⟨zD hl0 _,hl0,zA,λt ht=>nomatch ht⟩;have eh0:=zD hl0 (.lst []) _ _ eh;generalize upd G41 l (.lst [])=G42 at P0 eh0 ⊢;refine⟨_,U,lr,U,.inl ⟨⟨_,SqL.of (P0.same _ _ elr)⟩,zOi (K:=K) (a:=lr) (xs:=zQ ls) (λi σ G=>∃(ps:List Pr)(hh:af)(X Y:Int)(u13 u14:Option V),zVi G41 l ps G/\ps.length=i/\ps.map (·.2)=zEk (hx,hy) ((ls.take i).map (·.2))/\G hh=some (.tup [.int X,.int Y])/\(X,Y)=zU4 (hx,hy) ((ls.take i).map (·.2))/\X.natAbs<=20+1000*i/\Y.natAbs<=20+1000*i /\
   σ=[some (.ref a),some (.int wd),some (.ref pa),some (.ref pb),some (.int x),some (.int y),some (.int p),some (.int q'),some (.ref lo),some (.ref l4),some (.ref hh),some (.ref lr),some (.ref l),u13,u14,none])
  ⟨[],h0,hx,hy,none,none,P0,rfl,rfl,eh0,rfl,bh0,bh1,rfl⟩ (λi σ G _ ⟨_,_,_,_,_,_,e,_⟩=>SqL.of (e.same _ _ elr)) ?_ ?_⟩⟩
 ·rintro i v σ G hi ⟨ps,hh,X,Y,u13,u14,Pi,hpl,hmap,ehh,hend,bX,bY,rfl⟩;rw[ak,ak] at hi;cases ht:ls[i]? with
  | none=>rw[ht] at hi; cases hi
  | some t =>
   rw[ht] at hi;cases hi;obtain⟨e1,b1,b2⟩:=pls t (aJ ht);have hil:i<ls.length:=(aM.mp ht).1;have tk:=zS2 ht;exists t.1,_,U,SqT.of (Pi.same _ _ e1),U,_,_,U,_,_,U,rfl;exists _,U,.inl ⟨U,_,SqL.of Pi.at'⟩,_,U,l,_,_,U,U,Pi.at',zV (by rw[zT]; lia);obtain⟨P2,eh2⟩:=Pi.app ehh (by lia) (by lia);generalize upd G l (.lst (zQ ps++[.ref hh]))=G2 at P2 eh2 ⊢;refine⟨_,U,hh,_,_,.int X,U,U,.inr (SqT.of eh2),U,_,U,_,_,U,U,_,U,hh,_,_,.int Y,U,U,.inr (SqT.of eh2),U,_,U,_,_,U,U,sz2,λh2 hh2=>?_⟩;refine⟨ps++[(hh,X,Y)],h2,X+t.2.1,Y+t.2.2,_,_,P2.on (zD hh2 _),by rw[aC,hpl] <;> rfl,?_,zA,?_,by lia,by lia,rfl⟩
   ·rw[tk,aG,aG,hmap];show zEk (hx,hy) _++[(X,Y)]=zEk (hx,hy) (_++[t.2]);rw[zHr,hend]
   ·rw[tk,aG];show _=zU4 (hx,hy) (_++[t.2]);rw[zKr,<- hend]
 ·rintro σ G ⟨ps,hh,X,Y,u13,u14,Pi,hpl,hmap,ehh,hend,bX,bY,rfl⟩;rw[zT] at hpl hmap;rw[b7,els,zNx hc] at hmap;have hpn:ps.length=(zYl c).length:=by lia
  have pos:(0:Int)<((zQ ps).length:Int):=by rw[zT]; lia
  exists _,U,a,_,_,_,U,U,.inl ((sG.trans Pi.same).seq hS),a8,_,U,l,_,U,.inl (SqL.of Pi.at'),_,_,U,U,pos;obtain⟨k,ek,hk⟩:∃ k:Nat,v8%((zQ ps).length:Int)=(k:Int)/\k<ps.length:=by
   have z0:=bj v8 (show((zQ ps).length:Int)≠0 by lia);have z1:=aV v8 pos;rw[zT] at z0 z1 ⊢;exact⟨(v8%(ps.length:Int)).toNat,by lia,by lia⟩
  obtain⟨c1,c2⟩:=zP6 ps k;rw[<- ek] at c1 c2;refine⟨_,U,_,U,_,U,l,_,U,SqL.of Pi.at',λf1 hf1=>?_⟩;rw[c1];have sf1:Same G (upd G f1 (.lst (zQ (ps.drop k)))):=zD hf1 _;refine⟨_,U,_,U,_,U,l,_,U,SqL.of (sf1 _ _ Pi.at'),λf2 hf2=>?_⟩;rw[c2];have sf2:Same (upd G f1 (.lst (zQ (ps.drop k)))) (upd (upd G f1 (.lst (zQ (ps.drop k)))) f2 (.lst (zQ (ps.take k)))):=zD hf2 _;refine⟨f1,f2,_,_,U,U,sf2 _ _ zA,zA,zC1 (by rw[zT,zT,bG,cm]; lia),λf3 hf3=>?_⟩;have sf3:=zD hf3 (.lst (zQ (ps.drop k)++zQ (ps.take k)));have sAll:=(sf1.trans sf2).trans sf3;refine q f3 (ps.drop k++ps.take k) _ ((sG.trans Pi.same).trans sAll) ((sG.trans Pi.same).free ((sf1.trans sf2).free hf3)) (by rw[zA,zAw]) ((Pi.all.same sAll).sub λt ht=>?_) ?_
  ·rcases aS.mp ht with h | h
   ·exact cN h
   ·exact jm h
  ·exact⟨c,k,hx,hy,x,y,p,q',hc,by lia,tpos,by rw[aG,jD,jC,hmap]⟩
def zCq(K:ae):Sp:=λvs H Q _=>∃(l:af)(ps:List Pr),vs=[.ref l]/\SqT K H l (zQ ps)/\zCz H (10^8) ps/\ps.length<=1000/\Q (.bl (zCi ps)) H
theorem zI2(F:Fun K "_law_is_round" "_law_is_round" sV f fd)(Z:Zs mg)(CB:Cb P w mg base)  : yY P w K mg base CX0 1 f fd ["_law_places"] (zCq K):=by
 specialize yP
 ·obtain⟨l,ps,rfl,_⟩:=h;rfl
 obtain⟨l,ps,rfl,hL1,hL2,hn,q⟩:=h;have hL:=And.intro hL1 hL2
 refine'⟨_,(zC (yE 1 yP.nd ?_)
   (zC (zZ (zAf (zH5 zBu zBu yN (pv 1) yN)) (zF (zN zDi)) zM)
   (zC (tO bZ rfl (vK rfl Z.range (zB (pv 1) zH)) (rO 2 yP.nd) (zC (zB0 ?_ (rM rfl (yG (rO 3 yP.nd) (yG (rO 4 yP.nd) wY))))
   (zC (zB0 ?_ (rM rfl (yG (rO 5 yP.nd) (yG (rO 6 yP.nd) wY))))
   (zF (tO bZ rfl (vK rfl Z.range (zB (pv 1) zH)) (rO 7 yP.nd) (zF (zZ ?_ (zC (zB0 ?_ (rM rfl (yG (rO 8 yP.nd) (yG (rO 9 yP.nd) wY))))
   (zF (zZ ?_ (zF (zN zDi)) zM))) zM)))))))
   (zF (zN zDi))))),?_⟩
 nofun
 have nl:((zQ ps).length:Int)=(ps.length:Int):=by rw[zT]
 have bad:zCi ps=false->Q (.bl false) H:=λe=>by
  rw[<- e];exact q
 exists _,U,l,_,U,.inr hL.1;rw[nl];exists _,U,_,_,U,U,_,rfl;refine ifD (λh3=>?_) (λh3=>?_);rotate_left
 ·refine⟨_,U,xP ?_⟩;exact bad (by unfold zCi; rw[decide_eq_false (by lia),dE])
 exists _,_,U,U,_,rfl;refine ifN (λh8=>?_) (λh8=>?_)
 ·exact bad (by unfold zCi; rw[decide_eq_false (p:=ps.length<=8) (by lia),dE,jd])
 have rb:zCi ps=(bv ps.length).all λi=>(bv ps.length).all λk=>(decide (k=i)||decide (k=(i+1)%ps.length))||zDm ps i k:=by unfold zCi; rw[decide_eq_true (by lia),decide_eq_true (by lia),eJ,eJ]
 refine⟨_,U,_,U,(by lia),(by lia),tV (lo:=0) (n:=((ps.length:Nat):Int).toNat) (λi σ H'=>H=H'/\(∀ i'<i,∀ k<ps.length,k=i'\/k=(i'+1)%ps.length\/zDm ps i' k=true)/\∃ u2 u3 u4 u5 u6 u7 u8 u9:Option V,σ=[some (.ref l),some (.int (ps.length:Int)),u2,u3,u4,u5,u6,u7,u8,u9])
  ⟨rfl,λi' hi'=>absurd hi' (fw _),none,none,none,none,none,none,none,none,rfl⟩ ?_ ?_⟩
 ·rintro i σ H' hi ⟨rfl,hall,u2,u3,u4,u5,u6,u7,u8,u9,rfl⟩;have hi':i<ps.length:=by lia
  obtain⟨t0,m0,g0,a0⟩:=rS (ps:=ps) (i:=i) (k:=0+(i:Int)) (by lia) hi';have hm1:(i+1)%ps.length<ps.length:=jR _ (by lia);obtain⟨t1,m1,g1,a1⟩:∃ t,t∈ps/\ps[(i+1)%ps.length]?=some t/\atI (zQ ps) (0+(i:Int)-(ps.length:Int)+1)=some (.ref t.1):=by
   by_cases hw:i+1<ps.length
   ·rw[fT hw];exact zMs (by lia) hw
   ·have e:i+1=ps.length:=by lia
    rw[e,Nat.mod_self];exact rS (i:=0) (by lia) (by lia)
  obtain⟨e0,b00,b01⟩:=hL.2 t0 m0;obtain⟨e1,b10,b11⟩:=hL.2 t1 m1;exists _,U,_,U,l,_,_,_,U,U,.inr hL.1,a0,t0.1,_,U,SqT.of e0,U,_,_,U,_,_,U,rfl;exists _,U,_,U,_,U,_,_,U,U,_,_,U,U,l,_,_,_,U,U,.inr hL.1,a1,t1.1,_,U,SqT.of e1,U,_,_,U,_,_,U,rfl;refine⟨_,U,_,U,(by lia),(by lia),tV (lo:=0) (n:=((ps.length:Nat):Int).toNat) (λk σ H'=>H=H'/\(∀ k'<k,k'=i\/k'=(i+1)%ps.length\/zDm ps i k'=true)/\∃ u7 u8 u9:Option V,σ=[some (.ref l),some (.int (ps.length:Int)),some (.int (0+(i:Int))),some (.int t0.2.1),some (.int t0.2.2),some (.int t1.2.1),some (.int t1.2.2),u7,u8,u9])
   ⟨rfl,λi' hi'=>absurd hi' (fw _),_,_,_,rfl⟩ ?_ ?_⟩
  ·rintro k σ H' hk ⟨rfl,hin,u7,u8,u9,rfl⟩;have hk':k<ps.length:=by lia
   have step:(k=i\/k=(i+1)%ps.length\/zDm ps i k=true)->∀ k'<k+1,k'=i\/k'=(i+1)%ps.length\/zDm ps i k'=true:=λh k' hk2=>by
    by_cases e:k'=k
    ·rw[e]; exact h
    ·exact hin k' (by lia)
   exists _,U,_,U,U,_,rfl;refine ifNe (λhne=>?_) (λheq=>?_);rotate_left
   ·exact⟨U,step (.inl (by lia)),_,_,_,U⟩
   have md:(0+(i:Int)+1)%(ps.length:Int)=(((i+1)%ps.length:Nat):Int):=ye7 (by lia);exists _,U,_,U,_,_,U,U,_,U,_,_,U,U,(by lia),U,_,rfl;refine ifNe (λhne2=>?_) (λheq=>?_);rotate_left
   ·rw[md] at heq;exact⟨U,step (.inr (.inl (by lia))),_,_,_,U⟩
   obtain⟨t2,m2,g2,a2⟩:=rS (ps:=ps) (i:=k) (k:=0+(k:Int)) (by lia) hk';obtain⟨e2,b20,b21⟩:=hL.2 t2 m2;have lf:zDm ps i k=decide (0<(t1.2.1-t0.2.1)*(t2.2.2-t0.2.2)-(t1.2.2-t0.2.2)*(t2.2.1-t0.2.1)):=by
    unfold zDm;rw[zHg g0,zHg g1,zHg g2];rfl
   exists _,U,_,U,l,_,_,_,U,U,.inr hL.1,a2,t2.1,_,U,SqT.of e2,U,_,_,U,_,_,U,rfl;exists _,U,_,U,_,_,U,U,_,U,_,U,_,_,U,U,_,_,U,U,.inl ⟨by lia,by lia⟩,_,U,_,U,_,_,U,U,_,U,_,U,_,_,U,U,_,_,U,U,.inl ⟨by lia,by lia⟩,_,_,U,U,_,_,U,U,_,rfl;refine ifD (λhle=>?_) (λhgt=>?_)
   ·refine bad ?_;rw[rb,fJ];intro z;have z2:=aT.mp (aT.mp z i (bg.mpr hi')) k (bg.mpr hk');rw[lf,decide_eq_false (p:=k=i) (by lia),decide_eq_false (p:=k=(i+1)%ps.length) (by rw[md] at hne2; lia),eK,eK] at z2;have z3:=of_decide_eq_true z2;lia
   ·refine⟨U,step (.inr (.inr ?_)),_,_,_,U⟩;rw[lf];exact decide_eq_true (by lia)
  ·rintro σ H' ⟨rfl,hin,u7,u8,u9,rfl⟩;refine⟨U,λi' hi2 k hk=>?_,_,_,_,_,_,_,_,_,U⟩;by_cases e:i'=i
   ·rw[e]; exact hin k (by lia)
   ·exact hall i' (by lia) k hk
 ·rintro σ H' ⟨rfl,hall,_,_,_,_,_,_,_,_,rfl⟩;have e:zCi ps=true:=by
   rw[rb,aT];intro i hi;rw[aT];intro k hk;have hi':=bg.mp hi;have hk':=bg.mp hk;rcases hall i (by lia) k hk' with h | h | h
   ·rw[decide_eq_true h,eC,eC]
   ·rw[decide_eq_true h,iD,eC]
   ·rw[h,iD]
  rw[e] at q;exact q
def zHb(_:ae):Sp:=λvs H Q _=>∃(n:Int),vs=[.int n]/\∀ v:Int,0<=v->v<1000003->Q (.int v) H
theorem zOu(F:Fun K "_law_power" "_law_power" zCn f fd)(Z:Zs mg):yY P w K mg base CX0 1 f fd ["_law_number"] (zHb K):=by
 specialize zOs
 ·obtain⟨n,rfl,_⟩:=h;rfl
 obtain⟨n,rfl,q⟩:=h
 refine'⟨_,(zF (zN ?_)),?_⟩
 nofun
 have h1:=bj n (show(1000003:Int)≠0 by decide);have h2:=aV n (show(0:Int)<1000003 by decide);exists _,U,_,_,U,U,(by show(0:Int)<1000003; decide),_,_,rfl,rfl,⟨by decide,by decide,by lia⟩,_,_,rfl,rfl,(by show(0:Int)<1000003; decide);exact q _ (bj _ (by decide)) (aV _ (by decide))
def zHj(K:ae):Sp:=λvs H Q _=>∃(a:af)(ns:List Int)(many:Int),vs=[.ref a,.int many]/\SqL K H a (ns.map V.int)/\ns.length<=63/\0<=many/\many<=500 /\
 ∀(r:af)(rows:List Int)(H':Hp),Same H H'->H r=none->H' r=some (.lst (rows.map V.int))->many<=rows.length->rows.length<=600->(∀ x∈rows,0<=x/\x<1000003)->Q (.ref r) H'
structure zGb(H:Hp)(r c:af)(ms:List Int)(H':Hp)(rows:List Int):Prop where
 same:Same H H'
 src:H' c=some (.lst (ms.map V.int))
 at':H' r=some (.lst (rows.map V.int))
 bd:∀ x∈rows,0<=x/\x<1000003
theorem zGb.app{H H':Hp}{r c:af}{ms rows:List Int}{v:Int}(d:zGb H r c ms H' rows)(hr:H r=none)(hrc:c≠r)(h0:0<=v)(h1:v<1000003):zGb H r c ms (upd H' r (.lst (rows.map V.int++[.int v]))) (rows++[v]):=by
 refine⟨λb o e=>?_,?_,?_,λx hx=>?_⟩
 ·rw[zG (zL e hr)];exact d.same b o e
 ·rw[zG hrc];exact d.src
 ·rw[zA,aG];rfl
 ·rcases aS.mp hx with e | e
  ·exact d.bd x e
  ·rw[av] at e;rw[e];exact⟨h0,h1⟩
theorem cutR{ok:Int->Hp->Prop}{G:Prop}{R:Int->Hp->Prop}(h1:(∀ m H,ok m H->R m H)->G)(h2:∀ m H,ok m H->R m H):G:=h1 h2
theorem zPe(F:Fun K "_law_draws" "_law_draws" zCl f fd)(Z:Zs mg)(CB:Cb P w mg base)(yBr:Has P w K mg base "_law_power" 1 ["_law_number"] (zHb K)):yY P w K mg base CX0 2 f fd ["_law_script","_law_many"] (zHj K):=by
 specialize xY
 ·obtain⟨a,ns,many,rfl,_⟩:=h;rfl
 obtain⟨a,ns,many,rfl,hS,hl,hm0,hm1,q⟩:=h
 refine'⟨_,(zC (yE 2 xY.nd ?_)
   (zC (yE 3 xY.nd yN)
   (zC (tO bZ rfl (zYq ?_) (rO 4 xY.nd) (zC (yE 3 xY.nd ?_)
   (zC (yE 5 xY.nd ?_)
   (zC (zZ ?_ (zC (yD (zJa (pv 2) ?_))
   (zF (yE 5 xY.nd yN))) zM)
   (zF (zNl bZ ?_ (zC (yD (zJa (pv 2) ?_))
   (zF (yE 5 xY.nd ?_)))))))))
   (zC (zNl bZ ?_ (zC (yE 3 xY.nd ?_)
   (zF (yD (zJa (pv 2) ?_)))))
   (zF (zN (pv 2))))))),?_⟩
 nofun
 refine⟨sz0,λr hr0=>?_⟩;have S1:=zD hr0 (.lst []);refine⟨_,U,_,U,a,_,U,S1.seq hS,λc hc=>⟨c,U,⟨_,SqL.of zA⟩,?_⟩⟩;rw[zBx];generalize hms:((ns.drop (HT.sIx ns.length 0 none)).take (HT.sIx ns.length ns.length (some 63)-HT.sIx ns.length 0 none))=ms;have hml:ms.length<=63:=by
  rw[<- hms,cm,bG];lia
 have hcr:c≠r:=λe=>by
  rw[e,zA] at hc;cases hc
 have hc0:H c=none:=S1.free hc;refine zOi (K:=K) (a:=c) (xs:=ms.map V.int) (λi σ H'=>∃(rows:List Int)(mix:Int)(u v:Option V),σ=[some (.ref a),some (.int many),some (.ref r),some (.int mix),u,v]/\zGb H r c ms H' rows/\0<=mix/\mix<2147483647/\rows.length<=many.toNat+i)
  ⟨[],7,none,none,rfl,⟨S1.trans (zD hc _),zA,by rw[zG (cz hcr),zA]; rfl,λx hx=>nomatch hx⟩,by decide,by decide,bw _⟩ (λi σ H' _ ⟨_,_,_,_,_,d,_⟩=>SqL.of d.src) ?_ ?_
 ·rintro i x σ H' hi ⟨rows,mix,u,v,rfl,d,hx0,hx1,hrl⟩;obtain⟨n,hn,rfl⟩:=zDg hi;have hi63:i<63:=aR (aM.mp hn).1 hml;exists _,U,_,_,U,U,.inr ⟨by decide,by decide⟩,_,U,_,_,U,U,_,_,U,U,(by show(0:Int)<2147483647; decide);have m0:=bj (mix*48271+n) (show(2147483647:Int)≠0 by decide);have m1:=aV (mix*48271+n) (show(0:Int)<2147483647 by decide);exists _,U,n,rfl;have a0:0<=(if n<0 then -n else n):=by split <;> lia
  generalize (if n<0 then -n else n)=rest at a0 ⊢;revert H' rest;apply cutR (ok:=λrest H2=>0<=rest/\∃ rows,zGb H r c ms H2 rows/\rows.length<=many.toNat+(i+1))
  ·intro main H' d rest a0;exists _,U,_,_,U,U,⟨by decide,by decide,by decide⟩,_,_,U,U,_,rfl;refine ifD (λhsm=>?_) (λhsm=>?_);rotate_left
   ·exact main rest H' ⟨a0,rows,d,by lia⟩
   ·refine⟨_,U,.inl ⟨U,_,SqL.of d.at'⟩,_,U,_,U,r,_,U,.inl (SqL.of d.at'),_,_,U,U,.inl ⟨by decide,by decide⟩,_,_,U,U,_,U,λv v0 v1=>?_⟩;exists r,_,_,U,U,d.at',zV (by rw[aa]; lia);exact main 0 _ ⟨Int.le_refl 0,_,d.app hr0 hcr v0 v1,by rw[aC,dL]; lia⟩
  clear hrl rows;rintro rest H' ⟨j0,rows,j1,j2⟩;refine zNb (λσ H2=>∃(rows:List Int)(rest:Int),σ=[some (.ref a),some (.int many),some (.ref r),some (.int ((mix*48271+n)%2147483647)),some (.int n),some (.int rest)]/\0<=rest/\zGb H r c ms H2 rows/\rows.length<=many.toNat+(i+1))
   (λσ _=>match σ with | [_,_,_,_,_,some (.int z)]=>z.toNat | _=>0) ⟨_,_,rfl,j0,j1,j2⟩ ?_ (zZ0 (zMt (zYc zWz zJt mo_c)) (zMt (zYc zWz (yd2 zVt (zP8 zJt zWi)) zJt)))
  rintro σ H2 ⟨rows,rest,rfl,r0,d2,l2⟩;exists _,U,_,_,U,U,_,rfl;refine ifD (λhpos=>?_) (λhpos=>?_)
  ·exists _,U,r,_,U,.inl (SqL.of d2.at'),_,U,_,_,U,U,_,rfl;refine ifD (λhlt=>?_) (λhlt=>?_)
   ·have hlt':((rows.map V.int).length:Int)<many:=hlt;rw[aa] at hlt';exists _,U,.inl ⟨U,_,SqL.of d2.at'⟩,_,U,_,_,U,U,(by show(0:Int)<1000003; decide),r,_,_,rfl,rfl,d2.at',zV (by rw[aa]; lia);have v0:=bj rest (show(1000003:Int)≠0 by decide);have v1:=aV rest (show(0:Int)<1000003 by decide);exists _,U,_,_,U,U,zC2.of (by decide) (by decide +kernel),⟨rows++[rest%1000003],_,U,by lia,d2.app hr0 hcr v0 v1,by rw[aC,dL]; lia⟩;show(rest/1000003).toNat<rest.toNat;lia
   ·exact⟨rows,_,_,_,U,d2,m0,m1,l2⟩
  ·exact⟨rows,_,_,_,U,d2,m0,m1,l2⟩
 ·rintro σ H' ⟨rows,mix,u,v,rfl,d,hx0,hx1,hrl⟩;rw[aa] at hrl;refine zNb (λσ H2=>∃(rows:List Int)(mix:Int),σ=[some (.ref a),some (.int many),some (.ref r),some (.int mix),u,v]/\zGb H r c ms H2 rows/\0<=mix/\mix<2147483647/\rows.length<=many.toNat+63/\H2 r=some (.lst (rows.map V.int)))
   (λσ H2=>match H2 r with | some (.lst xs)=>many.toNat-xs.length | _=>0) ⟨rows,mix,rfl,d,hx0,hx1,by lia,d.at'⟩ ?_ (zMt (zYc zWz (yd2 zVt (zP8 zJt zWi)) zJt))
  rintro σ H2 ⟨rows,mix,rfl,d2,hx0,hx1,l2,ha2⟩;exists _,U,r,_,U,.inl (SqL.of d2.at'),_,U,_,_,U,U,_,rfl;refine ifD (λhlt=>?_) (λhlt=>?_)
  ·have hlt':((rows.map V.int).length:Int)<many:=hlt;rw[aa] at hlt';exists _,U,_,_,U,U,.inr ⟨by decide,by decide⟩,_,_,U,U,_,_,U,U,(by show(0:Int)<2147483647; decide);have m0:=bj (mix*48271+11) (show(2147483647:Int)≠0 by decide);have m1:=aV (mix*48271+11) (show(0:Int)<2147483647 by decide);refine⟨_,U,.inl ⟨U,_,SqL.of d2.at'⟩,_,U,_,U,λv v0 v1=>?_⟩;exists r,_,_,U,U,d2.at',zV (by rw[aa]; lia),⟨rows++[v],_,rfl,d2.app hr0 hcr v0 v1,m0,m1,by rw[aC,dL]; lia,(d2.app hr0 hcr v0 v1).at'⟩;rw[ha2,zA];show many.toNat-(rows.map V.int++[V.int v]).length<many.toNat-(rows.map V.int).length;rw[aC,aa,dL];lia
  ·have hlt':¬ ((rows.map V.int).length:Int)<many:=hlt;rw[aa] at hlt';exact⟨_,U,q r rows H2 d2.same hr0 d2.at' (by lia) (by lia) d2.bd⟩
def zHl(K:ae):Sp:=λvs H Q _=>∃(a:af)(rows:List Int)(many:Nat),vs=[.ref a,.int many]/\SqL K H a (rows.map V.int)/\many<=rows.length/\many<=25/\(∀ x∈rows,0<=x/\x<1000003) /\
 ∀(r:af)(ns:List az)(H':Hp),Same H H'->H r=none->H' r=some (.lst (ns.map V.str))->ns.length=many->(∀ n∈ns,wC n)->ns.Nodup->Q (.ref r) H'
theorem zPl(F:Fun K "_law_names" "_law_names" zCm f fd)(Z:Zs mg)(CB:Cb P w mg base)  : yY P w K mg base CX0 1 f fd ["_law_some","_law_many"] (zHl K):=by
 specialize yZ
 ·obtain⟨a,rows,many,rfl,_⟩:=h;rfl
 obtain⟨a,rows,many,rfl,ha,h1,h2,bd,q⟩:=h
 refine'⟨_,(zC (yE 2 yZ.nd zJ)
   (zC (yE 3 yZ.nd ?_)
   (zC (tO bZ rfl (vK rfl Z.range (zB (pv 1) zH)) (rO 4 yZ.nd) (zC (yE 5 yZ.nd ?_)
   (zC (yE 6 yZ.nd ?_)
   (zC (yE 7 yZ.nd ?_)
   (zC (yE 8 yZ.nd (zW1 iI i7 i8 zSx zJ (zB (tT (T:=["_law_k"]) (caps:=[("_law_letters",2),("_law_raw",5),("_law_step",7)]) ⟨rfl,by decide +kernel,by decide +kernel,rfl,⟨⟨rfl,rfl,cT rfl⟩,⟨rfl,rfl,cT rfl⟩,⟨rfl,rfl,cT rfl⟩,bB⟩⟩ rfl (vK rfl Z.range (zB (pv 6) zH)) (λ_=>(rO 0 (show(["_law_k","_law_letters","_law_raw","_law_step"]:List az).Nodup by decide +kernel))) (λ_=>uG) (λ_=>(zLx zVu (pv 1) ?_ (λ_ _=>rfl)))) zH)))
   (zC (yE 9 yZ.nd ?_)
   (zC (tO bZ rfl (vK rfl Z.range (zB yN zH)) (rO 10 yZ.nd) (zF (zZ (yM rX (pv 8) (pv 3) (by with_unfolding_all rfl)) (zC (yE 11 yZ.nd (zLx zVu (pv 2) ?_ (λ_ _=>rfl)))
   (zF (yE 8 yZ.nd (xO zHd (xO zHd (wV zV8 (pv 8) uQ (vV (pv 9))) (pv 11)) (wV zV8 (pv 8) (vV ?_) uQ))))) zM)))
   (zF (yD (zJa (pv 3) (zB (pv 8) zH)))))))))))
   (zF (zN (pv 3)))))),?_⟩
 nofun
 refine⟨sz0,λr hr0=>?_⟩;have s0:=zD hr0 (.lst []);refine⟨_,U,_,U,by lia,by lia,tV (lo:=0) (n:=((many:Nat):Int).toNat) (λi σ H'=>∃ ns:List az,Same H H'/\H' r=some (.lst (ns.map V.str))/\ns.length=i/\(∀ n∈ns,wC n)/\ns.Nodup /\
   ∃ u4 u5 u6 u7 u8 u9 u10 u11:Option V,σ=[some (.ref a),some (.int many),some (.str abc),some (.ref r),u4,u5,u6,u7,u8,u9,u10,u11])
  ⟨[],s0,zA,rfl,(λ_ z=>nomatch z),List.nodup_nil,none,none,none,none,none,none,none,none,rfl⟩ ?_ ?_⟩
 ·rintro i σ H1 hi ⟨ns,s1,er,ln,okn,nd,u4,u5,u6,u7,u8,u9,u10,u11,rfl⟩;rw[cw] at hi;obtain⟨x,ax,x0,x1⟩:=xG bd (k:=(0:Int)+i) (by lia) (by lia);exists _,U,_,U,a,_,_,_,U,U,.inl (s1.seq ha),ax;exists _,U,_,_,U,U,(by show(0:Int)<8; decide),_,_,rfl,rfl;exists _,U,_,_,U,U,zC2.of (by decide) (by decide +kernel),_,_,U,U,gt5;have z0:0<=x%8:=bj _ (by decide);have z1:x%8<8:=aV _ (by decide);have t0:0<=x/8%5:=bj _ (by decide);have t1:x/8%5<5:=aV _ (by decide);obtain⟨sz,esz⟩:∃ n:Nat,1+x%8=(n:Int):=⟨(1+x%8).toNat,by lia⟩;have w1:1<=sz:=by lia
  have w8:sz<=8:=by lia
  refine⟨U,_,U,_,U,by lia,by lia,λc D hD=>?_⟩;have sD:=zD hD (.lst []);refine zBr (lo:=0) (n:=(1+x%8).toNat) (λj σ zs H'=>Same H1 H'/\H' D=some (.lst zs)/\∃ l:List Nat,zs=(l.map chS).map V.str/\l.length=j/\(∀ c∈l,97<=c/\c<=122)/\∃ u0:Option V,σ=[u0,some (.str abc),some (.int x),some (.int (x/8%5))])
   ⟨sD,zA,[],rfl,rfl,(λ_ z=>nomatch z),none,rfl⟩ (λj σ zs H' _ ⟨_,e,_⟩=>e) ?_ ?_
  ·rintro j σ zs H' hj ⟨sH,eD,l,rfl,lj,lc,u0,rfl⟩;have m0:0<=(x/40+((0:Int)+j)*(x/8%5))%26:=bj _ (by decide);have m1:(x/40+((0:Int)+j)*(x/8%5))%26<26:=aV _ (by decide);exists _,U,_,U,_,_,U,U,zC2.of (by decide) (by decide +kernel),_,U,_,U,_,_,U,U,zY0 (by lia),_,_,U,U,_,_,U,U,(by show(0:Int)<26; decide),abc,_,_,rfl,rfl,(by decide),zVw m0 m1;refine⟨eD,zV (by rw[aa,aa]; lia),sH.putNew hD,zA,l++[97+((x/40+((0:Int)+j)*(x/8%5))%26).toNat],?_,by rw[aC,lj]; rfl,λc hc=>?_,_,rfl⟩
   ·rw[aG,aG];rfl
   ·rcases aS.mp hc with hc | hc
    ·exact lc c hc
    ·rw[av] at hc;lia
  ·rintro σ zs H2 ⟨s2,eD,l,rfl,lj,lc,u0,rfl⟩;have s12:=s1.trans s2;have er2:=s2 _ _ er;have ll:l.length=sz:=by lia
   refine⟨"",D,l.map chS,U,U,SqL.of eD,by rw[zPj,ll]; exact aD w8 (by decide),?_⟩;rw[zTs];obtain⟨pl,epl⟩:∃ n:Nat,x/7%(1+x%8)=(n:Int):=⟨(x/7%(1+x%8)).toNat,by rw[Int.toNat_of_nonneg (bj _ (by lia))]⟩;have plt:pl<l.length:=by
    have:=aV (x/7) (show 0<1+x%8 by lia);lia
   exists _,U,_,_,U,U,zC2.of (by decide) (by decide +kernel),_,U,_,_,U,U,(by show(0:Int)<1+x%8; lia);obtain⟨xn,exn⟩:∃ n:Nat,x=(n:Int):=⟨x.toNat,by lia⟩;refine⟨26,U,by decide,by decide,tV (lo:=0) (n:=26) (λk σ H'=>H'=H2/\∃ m:List Nat,(txt m ∉ ns\/((k=0\/∃ j,j+1=k/\m=l.set pl (97+(xn+j)%26))/\∀ j,j+1<k->txt (l.set pl (97+(xn+j)%26))∈ns))/\m.length=l.length/\(∀ c,m.set pl c=l.set pl c)/\(∀ c∈m,97<=c/\c<=122) /\
     ∃ u10 u11:Option V,σ=[some (.ref a),some (.int many),some (.str abc),some (.ref r),some (.int (0+i)),some (.int x),some (.int (1+x%8)),some (.int (x/8%5)),some (.str (txt m)),some (.int (x/7%(1+x%8))),u10,u11])
    ⟨rfl,l,.inr ⟨.inl rfl,λj hj=>absurd hj (fw _)⟩,rfl,λ_=>rfl,lc,u10,u11,rfl⟩ ?_ ?_⟩
   ·rintro k σ H' hk ⟨rfl,m,hm,lm,hset,mc,v10,v11,rfl⟩;exists _,U,_,U,r,_,U,.inl (SqL.of er2),U,zKd ns,_,rfl;show if inV (.str (txt m)) (ns.map V.str)=true then _ else _
    rw[zWs];refine ifD (λhin=>?_) (λhin=>?_)
    ·have b0:0<=(x+((0:Int)+k))%26:=bj _ (by decide);have b1:(x+((0:Int)+k))%26<26:=aV _ (by decide);exists _,U,_,U,_,U,_,_,U,U,_,_,U,U,(by show(0:Int)<26; decide),abc,_,_,rfl,rfl,(by decide),zVw b0 b1;have lz:(txt m).length<=sizeLine:=by rw[qD,lm,ll]; exact aD w8 (by decide)
     have es:(97+((x+((0:Int)+k))%26).toNat)=97+(xn+k)%26:=by lia
     have c1:e9 (txt m) none (some (x/7%(1+x%8)))++chS (97+((x+((0:Int)+k))%26).toNat)++e9 (txt m) (some (x/7%(1+x%8)+1)) none=txt (l.set pl (97+(xn+k)%26)):=by
      rw[epl,zVg (by lia),es,hset]
     refine⟨_,U,_,U,_,U,txt m,U,lz,_,U,_,_,U,U,?_,_,U,_,U,_,_,U,U,_,U,txt m,U,lz,_,_,U,U,?_,?_⟩
     ·exact aD (eX (iE _ _ _) (am 1)) (by rw[qD,lm,ll]; exact aD (jo w8 1) (by decide))
     ·rw[strLen_append];exact aD (eX (eX (iE _ _ _) (am 1)) (iE _ _ _)) (by rw[qD,lm,ll]; exact aD (eX (jo w8 1) w8) (by decide))
     ·refine⟨U,l.set pl (97+(xn+k)%26),.inr ⟨.inr ⟨k,U,U⟩,λj hj=>?_⟩,gb,λc=>List.set_set _,λc hc=>?_,_,_,by rw[<- c1]; rfl⟩
      ·rcases hm with hm | ⟨hm,hall⟩
       ·exact absurd hin hm
       ·by_cases e:j+1=k
        ·rcases hm with hm | ⟨j0,e0,rfl⟩
         ·lia
         ·rw[show j=j0 by lia];exact hin
        ·exact hall j (by lia)
      ·rcases gY hc with hc | hc
       ·exact lc c hc
       ·lia
    ·exact⟨U,m,.inl hin,lm,hset,mc,_,_,U⟩
   ·rintro σ H' ⟨rfl,m,hm,lm,hset,mc,v10,v11,rfl⟩;have out:txt m ∉ ns:=by
     rcases hm with hm | ⟨hm,hall⟩
     ·exact hm
     ·intro hin;refine zYo (l:=l) (p:=pl) (r:=xn) plt (ws:=ns) (by lia) λj hj=>?_;by_cases e:j+1<26
      ·exact hall j e
      ·rcases hm with hm | ⟨j0,e0,rfl⟩
       ·lia
       ·rw[show j=j0 by lia];exact hin
    exists _,U,.inl ⟨U,_,SqL.of er2⟩,_,U,r,_,_,U,U,er2,zV (by rw[aa]; lia);refine⟨ns++[txt m],s12.putNew hr0,?_,by rw[aC,ln]; rfl,λn hn=>?_,?_,_,_,_,_,_,_,_,_,rfl⟩
    ·rw[zA,aG];rfl
    ·rcases aS.mp hn with hn | hn
     ·exact okn n hn
     ·rw[av] at hn;rw[hn];exact zOw (by lia) (by lia) mc
    ·refine kJ.mpr ⟨nd,by simp,λx hx y hy=>?_⟩;rw[av] at hy;rw[hy];exact λz=>out (z ▸ hx)
 ·rintro σ H1 ⟨ns,s1,er,ln,okn,nd,u4,u5,u6,u7,u8,u9,u10,u11,rfl⟩;exact⟨_,U,q r ns H1 s1 hr0 er (by rw[ln,cw]) okn nd⟩
def zOl(_:ae):Sp:=λvs H Q _=>vs=[]/\∀(d m b r n:af)(H':Hp),Same H H'->H d=none->H m=none->H r=none->H' d=some (.dK (lwK m b r n 1))->H' m=some (.dK [])->H' b=some (.dK [])->H' r=some (.lst [])->H' n=some (.dK [])->b≠m->n≠m->Q (.ref d) H'
theorem zUy(F:Fun K "_law_new" "_law_new" zJe f fd)(Z:Zs mg)(CB:Cb P w mg base)  : yY P w K mg base CX0 1 f fd [] (zOl K):=by
 specialize zVe
 ·obtain⟨rfl,_⟩:=h;rfl
 obtain⟨rfl,q⟩:=h
 refine'⟨_,zF ?h,?_⟩
 rotate_left
 with_reducible refine' zN ?_
 rotate_left
 with_reducible exact zMw (xZ zJ sY (xZ zJ sY (xZ zJ (vW zH) (xZ zJ sY (xZ zJ yN zL7))))) rfl rfl (λz=>nomatch z) (by decide)
 try dsimp only[L2.cxOf]
 intro p hp m hm b hb;refine⟨sz0,λr hr n hn=>?_⟩;have s1:=zD hp (.dK []);have s2:=zD hm (.dK []);have s3:=zD hb (.dK []);have s4:=zD hr (.lst []);have s5:=zD hn (.dK []);have em:=(s3.trans (s4.trans s5)) _ _ zA;have eb:=(s4.trans s5) _ _ zA;have er:=s5 _ _ zA;have ep:=(s2.trans (s3.trans (s4.trans s5))) _ _ zA;exists ep,[(.inr "marks",.ref m),(.inr "banks",.ref b),(.inr "runs",.ref r),(.inr "notes",.ref n),(.inr "next",.int 1)],U,(show 5<=15 by decide);rw[zTr];have ne:∀{x:af},(upd H p (.dK [])) x=none->x≠p:=λ{x} h z=>by rw[z,zA] at h; cases h
 have nb:=ne (s2.free hb);have nr:=ne (s2.free (s3.free hr));have nn:=ne (s2.free (s3.free (s4.free hn)));refine q p m b r n _ (λc o e=>?_) hp (s1.free hm) (s1.free (s2.free (s3.free hr))) zA ?_ ?_ ?_ ?_ (λz=>by rw[z,zA] at hb; cases hb) (λz=>by have:=s3.free (s4.free hn); rw[z,zA] at this; cases this)
 ·rw[zG (zL e hp)];exact(s1.trans (s2.trans (s3.trans (s4.trans s5)))) c o e
 ·rw[zG (ne hm)]; exact em
 ·rw[zG nb]; exact eb
 ·rw[zG nr]; exact er
 ·rw[zG nn]; exact zA
def zDp(_:ae):Sp:=λvs H Q _=>∃(R:af)(ns:List az),vs=[.ref R]/\H R=some (.lst (ns.map V.str))/\∀ x:az,zFd x->Q (.str x) H
theorem zJh(F:Fun K "_law_strange" "_law_strange" qP f fd)(Z:Zs mg)(CB:Cb P w mg base)  : yY P w K mg base CX0 1 f fd ["_law_names_here"] (zDp K):=by
 specialize zAs
 ·obtain⟨R,ns,rfl,_⟩:=h;rfl
 obtain⟨R,ns,rfl,eR,q⟩:=h;refine⟨_,(zC (tO bZ rfl (zL1 rfl Z.range (zB yN (zB yN zH))) (qB (i:=1) zAs.nd rfl (cT rfl)) (zF (tO bZ rfl (zQl zJ) (qB (i:=2) zAs.nd rfl (cT rfl)) (zF (zZ (yM zKf (xO zKa (pv 2) (pv 1)) (pv 0) (by with_unfolding_all rfl)) (zF (zN (xO zKa (pv 2) (pv 1)))) zM)))))
   (zF (zN zJ))),?_⟩
 try dsimp only[L2.cxOf]
 refine⟨1,9,U,⟨by decide,by decide,by decide,by decide⟩,tV (lo:=1) (n:=8) (λi σ H'=>H'=H/\∃ u u':Option V,σ=[some (.ref R),u,u']) ⟨U,none,none,U⟩ ?_ ?_⟩
 ·rintro i σ H' hi ⟨rfl,u,u',rfl⟩;refine⟨_,U,(by decide +kernel),zVd (λj σ G=>G=H'/\∃ u':Option V,σ=[some (.ref R),some (.int (1+i)),u']) ⟨U,u',U⟩ (λ_ _ _ _=>trivial) ?_ ?_⟩
  ·rintro j x σ G gx ⟨rfl,v,rfl⟩;have mx:=aJ gx;unfold zEa at mx;obtain⟨c,hc,rfl⟩:=aF.mp mx;have c128:c<128:=by
    have:∀ c∈(aO "zyxwvutsrqponmlkjihgfedcba").cps.toList,c<128:=by decide +kernel
    exact this c hc
   exists _,U,_,U,⟨#[c]⟩,1+i,U,U,by lia,by lia,(by show 1<=1000; decide),_,rfl,R,_,rfl,.inl (SqL.of eR),rfl,zKd ns,_,rfl;refine zY1 (λz=>?_) (λz=>?_)
   ·exact⟨_,U,_,U,⟨#[c]⟩,1+i,U,U,by lia,by lia,(by show 1<=1000; decide),q _ (zYh c128 (by lia) (by lia))⟩
   ·exact⟨U,_,U⟩
  ·rintro σ G ⟨rfl,v,rfl⟩;exact⟨U,_,_,U⟩
 ·rintro σ H' ⟨rfl,u,u',rfl⟩;exact q _ asc_0
def zFu(_:ae):Sp:=λvs H Q _=>∃(k:Int)(R:af)(ns:List az),vs=[.int k,.ref R]/\0<=k/\k<1000003/\H R=some (.lst (ns.map V.str))/\1<=ns.length/\(∀ n∈ns,wC n)/\∀(x:az)(H':Hp),zFd x->Same H H'->Q (.str x) H'
theorem zQu(F:Fun K "_law_pick" "_law_pick" zE6 f fd)(Z:Zs mg)(CB:Cb P w mg base)(yBj:Has P w K mg base "_law_strange" 1 ["_law_names_here"] (zDp K)):yY P w K mg base CX0 2 f fd ["_law_raw","_law_names_here"] (zFu K):=by
 specialize zQ2
 ·obtain⟨k,R,ns,rfl,_⟩:=h;rfl
 obtain⟨k,R,ns,rfl,k0,k1,eR,l1,okn,q⟩:=h
 refine'⟨_,(zC (zZ ?_ (zF (zN ?_)) zM)
   (zF (zN ?_))),?_⟩
 nofun
 exists _,U,_,_,U,U,(by show(0:Int)<14; decide),rfl,_,rfl;refine ifE (λz=>?_) (λz=>?_)
 ·refine⟨_,U,R,ns,U,eR,λy hy=>?_⟩;refine⟨(by show 5<=sizeLine; decide),λp hp=>?_⟩;have sp:=zD hp (.lst [.str "",.str "A",.str "abcdefghi",.str "a b",.str y]);obtain⟨v,hv,e⟩:=zC9 (vs:=[.str "",.str "A",.str "abcdefghi",.str "a b",.str y]) (x:=k/14) (n:=5) (by decide) rfl;exists _,U,_,_,U,U,zC2.of (by decide) (by decide +kernel),_,_,U,U,gt5,p,_,_,v,U,U,.inl (SqL.of zA),e;have lit:∀ x:az,x∈[aO "",aO "A",aO "abcdefghi",aO "a b"]->zFd x:=by unfold zFd; decide +kernel
  have go:∀ x:az,zFd x->Q (.str x) _:=λx hx=>q x _ hx sp;simp only[aA,bA,or_false] at hv;rcases hv with rfl | rfl | rfl | rfl | rfl
  ·exact go _ (lit _ (.head _))
  ·exact go _ (lit _ (.tail _ (.head _)))
  ·exact go _ (lit _ (.tail _ (.tail _ (.head _))))
  ·exact go _ (lit _ (.tail _ (.tail _ (.tail _ (.head _)))))
  ·exact go _ hy
 ·obtain⟨n,hn,e⟩:=ya0 (ms:=ns) (x:=k/14) (by rw[aa]; lia);exact⟨_,U,_,U,_,_,U,U,zC2.of (by decide) (by decide +kernel),_,U,R,_,U,.inl (SqL.of eR),_,_,U,U,(by show(0:Int)<((ns.map V.str).length:Int); rw[aa]; lia),R,_,_,.str n,rfl,rfl,.inl (SqL.of eR),e,q n H (okn n hn).asc (Same.refl _)⟩
def zAc(_:ae):Sp:=λvs H Q _=>∃(k:Int),vs=[.int k]/\0<=k/\k<1000003/\∀(x:Int)(H':Hp),qZ x->Same H H'->Q (.int x) H'
theorem zFf(F:Fun K "_law_far_number" "_law_far_number" uR f fd)(Z:Zs mg)(CB:Cb P w mg base)  : yY P w K mg base CX0 1 f fd ["_law_raw"] (zAc K):=by
 specialize zFh
 ·obtain⟨k,rfl,_⟩:=h;rfl
 obtain⟨k,rfl,k0,k1,q⟩:=h
 refine'⟨_,(zC (zZ ?_ (zF (zN ?_)) zM)
   (zC (zZ ?_ (zF (zN ?_)) zM)
   (zF (zN ?_)))),?_⟩
 nofun
 exists _,U,_,_,U,U,(by show(0:Int)<9; decide),rfl,_,rfl;refine ifE (λz=>?_) (λz=>?_)
 ·refine⟨_,U,_,U,_,_,U,U,(by unfold yf1; decide),(by show 6<=sizeLine; decide),λp hp=>?_⟩;have sp:=zD hp (.lst [.int (-1000),.int 1000,.int 1001,.int (-1001),.int (10^20),.int 0]);obtain⟨v,hv,e⟩:=zC9 (vs:=[.int (-1000),.int 1000,.int 1001,.int (-1001),.int (10^20),.int 0]) (x:=k/9) (n:=6) (by decide) rfl;exists _,U,_,_,U,U,zC2.of (by decide) (by decide +kernel),_,_,U,U,(by show(0:Int)<6; decide),p,_,_,v,rfl,rfl,.inl (SqL.of zA),e;simp only[aA,bA,or_false] at hv;rcases hv with rfl | rfl | rfl | rfl | rfl | rfl <;> exact q _ _ (xR (by decide)) sp
 exists _,U,_,_,U,U,gt3,U,_,rfl;refine ifE (λz=>?_) (λz=>?_)
 ·exact⟨_,U,_,_,U,U,zC2.of (by decide) (by decide +kernel),_,_,U,U,(by show(0:Int)<2001; decide),_,_,rfl,rfl,q _ H (xR (by lia)) (Same.refl _)⟩
 ·exact⟨_,U,_,_,U,U,zC2.of (by decide) (by decide +kernel),_,_,U,U,(by show(0:Int)<31; decide),_,_,rfl,rfl,q _ H (xR (by lia)) (Same.refl _)⟩
structure Mn(H0 G:Hp)(p1 p2:af)(us:List V):Prop where
 mk ::
 same:Same H0 G
 t1:Tin G p1
 t2:Tin G p2
 all:∀ v∈us,∃ u p q:af,v=.ref u/\G u=some (.tup [.ref p,.ref q])/\Tin G p/\Tin G q
theorem Mn.new{H0 G:Hp}{p1 p2 t:af}{us:List V}{o:HO}(M:Mn H0 G p1 p2 us)(n:G t=none):Mn H0 (upd G t o) p1 p2 us :=
 have s:=zD n o
 ⟨M.same.trans s,M.t1.to s,M.t2.to s,λv hv=>let ⟨u,p,q,e,h,a,b⟩:=M.all v hv;⟨u,p,q,e,s _ _ h,a.to s,b.to s⟩⟩
theorem Mn.add{H0 G:Hp}{p1 p2 t a b:af}{us:List V}(M:Mn H0 G p1 p2 us)(n:G t=none)(ha:Tin G a)(hb:Tin G b):Mn H0 (upd G t (.tup [.ref a,.ref b])) p1 p2 (us++[.ref t]) :=
 have s:=zD n (.tup [.ref a,.ref b]);have m:=M.new (o:=.tup [.ref a,.ref b]) n
 ⟨m.same,m.t1,m.t2,λv hv=>(aS.mp hv).elim (m.all v) λz=>⟨t,a,b,av.mp z,zA,ha.to s,hb.to s⟩⟩
def rK(_:ae):Sp:=λvs H Q _=>∃(a d R:af)(rows:List Int)(ns:List az)(S:BS),vs=[.ref a,.ref d,.ref R]/\H a=some (.lst (rows.map V.int))/\10<=rows.length/\(∀ v∈rows,0<=v/\v<1000003)/\zS6 H d S/\zL3 S/\H R=some (.lst (ns.map V.str))/\1<=ns.length/\(∀ n∈ns,wC n) /\
 ∀(v:V)(m:Int)(n:az)(a b c d:Int)(H':Hp),Sam H H'->Rep H' (Deed.bearing m n a b c d).dt v->zIn (.bearing m n a b c d)->Q v H'
theorem zC7(F:Fun K "_law_bearing_deed" "_law_bearing_deed" wK f fd)(Z:Zs mg)(CB:Cb P w mg base)(yBe:Has P w K mg base "_law_left_pair" 2 ["_law_d","_law_wide"] (rC K))(yBx:Has P w K mg base "_law_pick" 2 ["_law_raw","_law_names_here"] (zFu K)):yY P w K mg base CX0 3 f fd ["_law_d","_law_m","_law_names_here"] (rK K):=by
 specialize yA
 ·obtain⟨a,d,R,rows,ns,S,rfl,_⟩:=h;rfl
 obtain⟨a,d,R,rows,ns,S,rfl,ha,l10,bd,⟨m,b,r,n,lw⟩,wl,eR,l1,okn,q⟩:=h;obtain⟨v1,a1,z1⟩:=xG bd (k:=1) (by decide) (by lia);obtain⟨v2,a2,z2⟩:=xG bd (k:=2) (by decide) (by lia);obtain⟨v3,a3,z3⟩:=xG bd (k:=3) (by decide) (by lia);obtain⟨v8,a8,z8⟩:=xG bd (k:=8) (by decide) (by lia);obtain⟨v9,a9,z9⟩:=xG bd (k:=9) (by decide) (by lia);have few:=wl.good.few;have sq:∀{H':Hp},H' a=some (.lst (rows.map V.int))->Sq K H' a (rows.map V.int):=λh=>.inl (SqL.of h);obtain⟨ys,er,rr⟩:=lw.ru;have ly:ys.length=S.runs.length:=by rw[rr.length,aa]
 have fr:=few.ru;obtain⟨mk,hmk,kv⟩:=lw.ma;have lrm:(mk.map λkv=>kV kv.1)=(S.marks.map (·.1)).map V.str:=zH9 kv;have lmk:mk.length=S.marks.length:=by rw[kv.length,zAh]
 refine'⟨_,(zC (yE 3 yA.nd (xO zHv ?_ (xO zA9 (zS yV rfl Z.len wQ (zB (zO (zW hr) (pv 1) zJ (λ_ _=>rfl)) zH)) yN)))
   (zC (zZ ?_ (zF (yE 3 yA.nd (zLx zHz (vW (zB ?_ (zB (xO zA9 (zS yV rfl Z.len wQ (zB (zO (zW hr) (pv 1) zJ (λ_ _=>rfl)) zH)) yN) (zB ?_ zH)))) ?_ (λ_ _=>rfl)))) zM)
   (zC (yE 4 yA.nd ?_)
   (zC (zZ (PW.pt (zG7 ?_ (zC4 (yM (zYb hr.units0) (zO (zW hr) (pv 1) zJ (λ_ _=>rfl)) sY (yX _))))) (zF (yE 4 yA.nd (zLx zHz (zS zLd rfl Z.sorted vL (zB (xE (zDu rfl) rfl Z.list zBj (zB (zO (zW hr) (pv 1) zJ (λ_ _=>rfl)) zH)) zH)) (xO zHv ?_ (zS vM rfl Z.len wQ (zB (zO (zW hr) (pv 1) zJ (λ_ _=>rfl)) zH))) (λ_ _=>rfl)))) zM)
   (zC (zB0 ?_ (rM rfl (yG (rO 5 yA.nd) (yG (rO 6 yA.nd) wY))))
   (zC (yE 7 yA.nd ?_)
   (zC (zZ ?_ (zC (yE 8 yA.nd ?_)
   (zF (zB0 ?_ (rM rfl (yG (rO 5 yA.nd) (yG (rO 6 yA.nd) wY)))))) zM)
   (zF (zN ?_))))))))),?_⟩
 nofun
 apply cutIH (ok:=λmo G=>Same H G/\qZ mo)
 ·intro rest;exists _,U,a,_,_,_,U,U,sq ha,a1,_,U,d,.ref r,U,.inl ⟨_,.inr "runs",lw.at_,U,uA.symm⟩,r,ys,U,.inl (SqL.of er),_,_,U,U,_,_,U,U,(by show(0:Int)<(ys.length:Int)+1; lia);have e0:=bj v1 (show(ys.length:Int)+1≠0 by lia);have e1:=aV v1 (show(0:Int)<(ys.length:Int)+1 by lia);have t0:qZ (v1%((ys.length:Int)+1)):=xR (by lia);generalize v1%((ys.length:Int)+1)=mo at t0 ⊢;exists _,U,a,_,_,_,U,U,sq ha,a2,_,_,U,U,(by show(0:Int)<17; decide),rfl,_,rfl;refine ifE (λz=>?_) (λz=>?_);rotate_left
  ·exact rest mo H ⟨Same.refl _,t0⟩
  ·refine⟨_,U,_,U,d,.ref r,U,.inl ⟨_,.inr "runs",lw.at_,U,uA.symm⟩,r,ys,U,.inl (SqL.of er),_,_,U,U,_,_,U,U,(by unfold yf1; decide),sz3,λp hp=>?_⟩;have sp:=zD hp (.lst [.int (-1),.int ((ys.length:Int)+1),.int (10^20)]);obtain⟨v,hv,e⟩:=zC9 (vs:=[.int (-1),.int ((ys.length:Int)+1),.int (10^20)]) (x:=v1) (n:=3) (by decide) rfl;exists _,U,a,_,_,_,U,U,sq (sp _ _ ha),a1,_,_,U,U,gt3,p,_,_,v,U,U,.inl (SqL.of zA),e;simp only[aA,bA,or_false] at hv;rcases hv with rfl | rfl | rfl
   ·exact rest (-1) _ ⟨sp,xR (by decide)⟩
   ·exact rest ((ys.length:Int)+1) _ ⟨sp,xR (by lia)⟩
   ·exact rest (10^20) _ ⟨sp,xR (by decide)⟩
 intro mo H1 ⟨s1,t1⟩;apply cutSH (ok:=λnm G=>Sam H G/\zFd nm)
 ·intro rest;refine⟨_,U,a,_,_,_,U,U,sq (s1 _ _ ha),a3,_,U,v3,R,ns,U,z3.1,z3.2,s1 _ _ eR,l1,okn,λnm H2 an s2=>?_⟩;have s12:=s1.trans s2;have ha2:=s12 _ _ ha;have lw2:=lw.to (.of s12);exists _,U,a,_,_,_,U,U,sq ha2,a3,_,_,U,U,gt5,_,_,U,U,_,rfl;refine ifD (λz=>?_) (λz=>?_);rotate_left
  ·exact yW (rest nm H2 ⟨.of s12,an⟩)
  ·have hmk2:=(Rd.same hmk s12:Rd H2 m (.dK mk));refine⟨_,U,d,.ref m,U,.inl ⟨_,.inr "marks",lw2.at_,U,yS.symm⟩,λp hp=>?_⟩;have sp:=zD hp (.dK []);exists m,p,mk,U,U,Rd.same hmk2 sp,zA,_,rfl;have s13:=s12.trans sp;generalize upd H2 p (.dK [])=G1 at s13 ⊢;cases hem:mk.isEmpty with
   | true=>exact yW (rest nm _ ⟨.of s13,an⟩)
   | false =>
   have lm1:1<=S.marks.length:=by cases mk with | nil=>cases hem | cons _ _=>rw[<- lmk]; exact Nat.le_add_left _ _
   refine xP ?_;have lw3:=lw.to (.of s13);refine⟨_,U,d,.ref m,U,.inl ⟨_,.inr "marks",lw3.at_,U,yS.symm⟩,m,mk,U,Rd.same hmk s13,λp1 hp1=>?_⟩;rw[lrm];have s4:=zD hp1 (.lst ((S.marks.map (·.1)).map V.str));refine⟨p1,S.marks.map (·.1),U,SqL.of zA,(by rw[aa]; have:=few.ma; lia),λp2 ms hp2 pm srt=>?_⟩;have s5:=s4.trans (zD hp2 (.lst (ms.map V.str)));have e5:upd (upd G1 p1 (.lst ((S.marks.map (·.1)).map V.str))) p2 (.lst (ms.map V.str)) p2=some (.lst (ms.map V.str)):=zA;generalize upd (upd G1 p1 (.lst ((S.marks.map (·.1)).map V.str))) p2 (.lst (ms.map V.str))=G2 at s5 e5 ⊢;have s15:=s13.trans s5;have lw5:=lw.to (.of s15);have lms:ms.length=S.marks.length:=by rw[pm.length_eq,aa]
   obtain⟨v,hv,e⟩:=zC9 (vs:=ms.map V.str) (x:=v3/5) (n:=(mk.length:Int)) (by lia) (by rw[aa,lms,lmk]);obtain⟨nn,hn,rfl⟩:=aF.mp hv;exists _,U,a,_,_,_,U,U,sq (s15 _ _ ha),a3,_,_,U,U,zC2.of (by decide) (by decide +kernel),_,U,d,.ref m,U,.inl ⟨_,.inr "marks",lw5.at_,U,yS.symm⟩,m,mk,U,Rd.same hmk s15,_,_,U,U,(by show(0:Int)<(mk.length:Int); lia),p2,_,_,.str nn,rfl,rfl,.inl (SqL.of e5),e;obtain⟨em,hem',enn⟩:=aF.mp (pm.mem_iff.mp hn);exact rest nn _ ⟨.of s15,enn ▸ (wl.names em hem').asc⟩
 intro nm H3 ⟨s3,an⟩;have ha3:=s3.lst id ha;have ct4:rG (rows.map V.int) (some ((4:Nat):Int)) none=(rows.drop 4).map V.int:=by rw[zBx,HT.sIx_nat rows.length 0 4,show min 4 rows.length=4 by lia,show HT.sIx rows.length rows.length none=rows.length from rfl,cg (by rw[bG]; lia)]
 have ct4:rG (rows.map V.int) (some 4) none=(rows.drop 4).map V.int:=ct4;have fin:∀(p1 p2:af)(G:Hp),Same H3 G->Tin G p1->Tin G p2->∀ w,G w=none->Q (.ref w) (upd G w (.tup [.str "bearing",.int mo,.str nm,.ref p1,.ref p2])):=by
  intro p1 p2 G s4 ⟨x1,y1,e1,tx1,ty1⟩ ⟨x2,y2,e2,tx2,ty2⟩ w hw;have sw:=zD hw (.tup [.str "bearing",.int mo,.str nm,.ref p1,.ref p2]);exact q (.ref w) mo nm x1 y1 x2 y2 _ (s3.trans (.of (s4.trans sw))) (zM6 zA (sw _ _ e1) (sw _ _ e2)) ⟨t1,an,tx1,ty1,tx2,ty2⟩
 refine⟨_,U,_,U,a,_,U,SqL.of ha3,λc hc=>?_⟩;have sc:=zD hc (.lst (rG (rows.map V.int) (some 4) none));refine⟨sz2,λe he=>?_⟩;have se:=zD he (.lst [.int 3,.int 100]);have sce:=sc.trans se;obtain⟨v,hv,e3⟩:=zC9 (vs:=[.int 3,.int 100]) (x:=v8) (n:=2) (by decide) rfl;obtain⟨wd,rfl,w1,w2⟩:∃ wd:Int,v=.int wd/\1<=wd/\wd<=100:=by
  simp only[aA,bA,or_false] at hv;rcases hv with rfl | rfl
  ·exact⟨3,U,by decide,by decide⟩
  ·exact⟨100,U,by decide,by decide⟩
 exists _,U,a,_,_,_,U,U,sq (sce _ _ ha3),a8,_,_,U,U,gt2,e,_,_,_,U,U,.inl (SqL.of zA),e3;refine⟨c,rows.drop 4,wd,U,SqL.of (by rw[se _ _ zA,ct4]),(by rw[bG]; lia),(λv hv=>bd v (cN hv)),w1,w2,λt2 p1 p2 A0 A1 B0 B1 H4 s4 et2 e1 e2 tn n1 n2 n3 n4=>?_⟩;have s34:=sce.trans s4;have ti1:Tin H4 p1:=⟨A0,A1,e1,xR (by lia),xR (by lia)⟩;have ti2:Tin H4 p2:=⟨B0,B1,e2,xR (by lia),xR (by lia)⟩;clear n1 n2 n3 n4 tn e1 e2 sce se sc;exists t2,_,U,SqT.of et2,U,.ref p1,_,U,.ref p2,_,U,rfl;exists _,U,a,_,_,_,U,U,sq (s34 _ _ ha3),a9,_,_,U,U,(by show(0:Int)<40; decide);have y0:0<=v9%40:=by lia
 generalize v9%40=W at y0 ⊢;exists _,U,_,_,U,U,_,rfl;refine ifD (λz=>?_) (λz=>?_);rotate_left
 ·exact⟨_,U,_,U,_,U,_,U,(by show 5<=sizeLine; decide),fin p1 p2 H4 s34 ti1 ti2⟩
 ·have M:Mn H3 H4 p1 p2 []:=⟨s34,ti1,ti2,λv hv=>nomatch hv⟩;refine⟨_,U,_,U,sz2,λu1 hu1=>?_⟩
  replace M:=M.add hu1 M.t2 M.t1
  refine⟨sz2,λi2 hi2=>⟨_,U,sz2,λu2 hu2=>?_⟩⟩
  replace M:=(M.new hi2).add hu2 (Tin.new (by decide) (by decide)) (M.new hi2).t2
  refine⟨_,U,sz2,λi3 hi3=>⟨sz2,λu3 hu3=>?_⟩⟩
  replace M:=(M.new hi3).add hu3 (M.new hi3).t1 (Tin.new (by decide) (by decide))
  refine⟨_,U,_,U,sz2,λu4 hu4=>?_⟩
  replace M:=M.add hu4 M.t1 M.t1
  refine⟨sz2,λi5 hi5=>⟨_,U,sz2,λu5 hu5=>?_⟩⟩
  replace M:=(M.new hi5).add hu5 (Tin.new (by decide) (by decide)) (M.new hi5).t2
  refine⟨_,U,_,U,sz2,λi6 hi6=>⟨sz2,λu6 hu6=>?_⟩⟩
  replace M:=(M.new hi6).add hu6 (M.new hi6).t1 (Tin.new (by decide) (by decide))
  refine⟨(by show 6<=sizeLine; decide),λL hL=>?_⟩
  replace M:=M.new (o:=.lst [.ref u1,.ref u2,.ref u3,.ref u4,.ref u5,.ref u6]) hL
  obtain⟨v,hv,e⟩:=zVp (vs:=[.ref u1,.ref u2,.ref u3,.ref u4,.ref u5,.ref u6]) y0 (show W<6 by lia);obtain⟨u,p,r',rfl,eu,tp,tr⟩:=M.all v hv;exact⟨_,U,_,U,L,_,_,_,U,U,.inl (SqL.of zA),e,u,_,U,SqT.of eu,U,.ref p,_,U,.ref r',_,U,U,_,U,_,U,_,U,_,U,(by show 5<=sizeLine; decide),fin p r' _ M.same tp tr⟩
def zAk(_:ae):Sp:=λvs H Q _=>∃ x:az,vs=[.str x]/\zFd x/\∀(b:Bool)(H':Hp),(b=true↔wC x)->Same H H'->Q (.bl b) H'
theorem zLw(F:Fun K "_law_is_name" "_law_is_name" qL f fd)(Z:Zs mg)(CB:Cb P w mg base)  : yY P w K mg base CX0 1 f fd ["_law_name"] (zAk K):=by
 specialize zJz
 ·obtain⟨x,rfl,_⟩:=h;rfl
 obtain⟨x,rfl,as,q⟩:=h;exists _,(zF (zN (zKb (zBw zBu zBu yN (zS zAu rfl Z.len wQ (zB (pv 0) zH)) yN) (zJ2 (zS (tX rfl) rfl Z.all zGg (zB (tT (T:=["_law_sign"]) (caps:=[]) ⟨U,by decide +kernel,by decide +kernel,U,bB⟩ rfl (zQl (pv 0)) (λ_=>(qB (i:=0) (show(["_law_sign"]:List az).Nodup by decide +kernel) rfl (cT rfl))) (λ_=>uG) (λ_=>(sA zUh (pv 0) zJ (by with_unfolding_all rfl)))) zH))))))
 try dsimp only[L2.cxOf]
 have hz:x.length<=sizeLine:=aD as.2 (by decide);have no:¬ wC x->Q (.bl false) H:=λz=>q false H (iff_of_false nofun z) (Same.refl _);exists _,U,x,U,hz,_,_,U,U,_,rfl;refine ifD (λh1=>?_) (λh1=>⟨_,rfl,yW (no λz=>h1 (by have:=z.1; lia))⟩);exists _,_,U,U,_,rfl;refine ifD (λh2=>?_) (λh2=>no λz=>h2 (by have:=z.2.1; lia));have asc:x.cps.all (· < 128)=true:=by
  rw[jV];intro c hm;exact decide_eq_true (as.1 c (fX.mpr hm))
 refine⟨_,U,x,U,asc,λc D hD=>?_⟩;refine zMd (xs:=zEa x) (λi σ zs H'=>Same H H'/\H' D=some (.lst zs)/\(∃ bs:List Bool,zs=bs.map V.bl/\bs.length=i/\(bs.all id=true↔∀ c∈x.cps.toList.take i,97<=c/\c<=122))/\i<=x.length/\∃ u0:Option V,σ=[u0])
  ⟨zD hD _,zA,⟨[],rfl,rfl,by simp⟩,bw _,none,rfl⟩ (λi σ zs H' ⟨_,e,_⟩=>⟨bB,e⟩) ?_ ?_
 ·rintro i v σ zs H' hi ⟨sH,eD,⟨bs,rfl,lb,ab⟩,hi8,u0,rfl⟩;unfold zEa at hi;rw[ak,aH] at hi;obtain⟨n,gn,rfl⟩:=hi;have hil:i<x.length:=by
   have:=(aM.mp gn).1;rw[bM] at this;exact this
  have hn:n<128:=as.1 n (aJ gn);exists _,U,_,_,U,rfl;rw[yb9 n hn];refine⟨eD,zV (by rw[aa]; have:=as.2; lia),sH.putNew hD,zA,⟨bs++[decide (97<=n/\n<=122)],by rw[aG]; rfl,by rw[aC,lb]; rfl,?_⟩,hil,_,rfl⟩;rw[iU,be,ab,bN,gn];simp only[fo,iH,ig,id,decide_eq_true_eq,aS,nh,av];constructor
  ·rintro⟨h1,h2⟩ c (h | rfl)
   ·exact h1 c h
   ·exact h2
  ·exact λh=>⟨λc hc=>h c (.inl hc),h n (.inr rfl)⟩
 ·rintro σ zs H' ⟨sH,eD,⟨bs,rfl,lb,ab⟩,_,u0,rfl⟩;have lc:(zEa x).length=x.cps.toList.length:=aa _;rw[lc,b7] at ab;exact⟨D,bs,U,SqL.of eD,q _ _ (ab.trans ⟨λh=>⟨by lia,by lia,h⟩,λh=>h.2.2⟩) sH⟩
def zBv(_:ae):Sp:=λvs H Q _=>∃ x y:Int,vs=[.int x,.int y]/\∀ b:Bool,(b=true↔zDy (x,y))->Q (.bl b) H
theorem zSl(F:Fun K "_law_near" "_law_near" zE1 f fd)(Z:Zs mg)(CB:Cb P w mg base)  : yY P w K mg base CX0 1 f fd ["_law_x","_law_y"] (zBv K):=by
 specialize zSo
 ·obtain⟨x,y,rfl,_⟩:=h;rfl
 obtain⟨x,y,rfl,q⟩:=h
 refine'⟨_,(zF (zN (zKb (zBw zBu zBu ?_ (pv 0) yN) (zJ2 (zBw zBu zBu ?_ (pv 1) yN))))),?_⟩
 nofun
 have no:¬ zDy (x,y)->Q (.bl false) H:=λz=>q false (iff_of_false nofun z);exists _,U,_,U,_,_,U,U,_,rfl;refine ifD (λh1=>?_) (λh1=>⟨_,rfl,yW (no λz=>h1 z.1)⟩);exists _,_,U,U,_,rfl;refine ifD (λh2=>?_) (λh2=>no λz=>h2 z.2.1);exists _,U,_,U,_,_,U,U,_,rfl;refine ifD (λh3=>?_) (λh3=>no λz=>h3 z.2.2.1);exact⟨_,_,U,U,q _ (by rw[decide_eq_true_eq]; exact⟨λh4=>⟨h1,h2,h3,h4⟩,λz=>z.2.2.2⟩)⟩
def zXv:Deed->Prop
 | .mark _ _ _=>True
 | .unmark _=>True
 | .move _ _ _=>True
 | _=>False
def zLn(φ:Deed->Prop):Sp:=λvs H Q _=>∃(d:af)(v:V)(S:BS)(D:Deed),vs=[.ref d,v]/\zS6 H d S/\Rep H D.dt v/\zIn D/\zL3 S/\φ D/\∀ H',Sam H H'->Q (.str (zF4 (zU S D))) H'
theorem zXv.cases{D:Deed}(h:zXv D):(∃ n x y,D=.mark n x y)\/(∃ n,D=.unmark n)\/∃ n x y,D=.move n x y:=by
 cases D <;> first | exact h.elim | exact .inl ⟨_,_,_,rfl⟩ | exact .inr (.inl ⟨_,rfl⟩) | exact .inr (.inr ⟨_,_,_,rfl⟩)
theorem sB{b:Bool}{p:Prop}(h:b=true↔p)(e:b=false):¬ p:=λz=>by rw[h.mpr z] at e; cases e
theorem zMu{S:BS}{nm l1 r1:az}{x y mo:Int}{pl pr:Int×Int}(gl:zP S l1=some pl)(gr:zP S r1=some pr):zC6 (aft S (.move nm x y)) (.range mo l1 r1)↔(if l1=nm then(x,y) else pl)≠(if r1=nm then(x,y) else pr):=by
 constructor
 ·rintro⟨p,u,h1,h2,h3⟩;rw[vF,gl] at h1;rw[vF,gr] at h2;cases h1;cases h2;exact h3
 ·exact λh=>⟨_,_,by rw[vF,gl]; rfl,by rw[vF,gr]; rfl,h⟩
def zBe(_:ae):Sp:=zLn zXv
theorem zGt(F:Fun K "_law_mark_word" "_law_mark_word" tH f fd)(Z:Zs mg)(CB:Cb P w mg base)(yCc:Has P w K mg base "_law_near" 1 ["_law_x","_law_y"] (zBv K))(yBk:Has P w K mg base "_law_is_name" 1 ["_law_name"] (zAk K)):yY P w K mg base CX0 2 f fd ["_law_m","_law_deed_here"] (zBe K):=by
 specialize vD
 ·obtain⟨d,v,S,D,rfl,_⟩:=h;rfl
 obtain⟨d,v,S,D,rfl,⟨m,b,r,n,lw⟩,hv,tm,wl,mk,q⟩:=h;have say:∀(o:Option Cl)(H':Hp),zU S D=o->Sam H H'->Q (.str (zF4 o)) H':=λo H' e s=>e ▸ q _ s;obtain⟨mk',hm,km⟩:=lw.ma;have lmk:mk'.length=S.marks.length:=by rw[km.length,zAh]
 refine'⟨_,(zC (yE 2 vD.nd ?_)
   (zC (zZ ?_ (zC (zZ ?_ (zF (zN zJ)) zM)
   (zC (zZ (qU (zKo (zW hr) (pv 2) (zO (zW hr) (pv 0) zJ (λ_ _=>rfl))) (by with_unfolding_all rfl)) (zF (zN zJ)) zM)
   (zC (zZ ?_ (zF (zN zJ)) zM)
   (zF (zN (vY (yM zI1 (zS vM rfl Z.len wQ (zB (zO (zW hr) (pv 0) zJ (λ_ _=>rfl)) zH)) yN (yX _)) zJ zJ)))))) zM)
   (zC (zZ (qU (sQ (zW hr) (pv 2) (zO (zW hr) (pv 0) zJ (λ_ _=>rfl))) (by with_unfolding_all rfl)) (zF (zN zJ)) zM)
   (zC (zZ ?_ (zF (zN (vY (zA6 (zS (zLq rfl) rfl Z.any zV2 (zB (tT (T:=["_law_note"]) (caps:=[("_law_name",2)]) ⟨rfl,by decide +kernel,by decide +kernel,rfl,⟨⟨rfl,rfl,cT rfl⟩,bB⟩⟩ rfl (zIo (zO (zW hr) (pv 0) zJ (λ_ _=>rfl))) (λ_=>(rO 0 (show(["_law_note","_law_name"]:List az).Nodup by decide +kernel))) (λ_=>uG) (λ_=>(sA (zRb (zW hr)) (pv 1) (wV zD4 (pv 0) (vV yN) uQ) (by with_unfolding_all rfl)))) zH))) zJ zJ))) zM)
   (zC (zZ ?_ (zF (zN zJ)) zM)
   (zC (tO bZ rfl (zIo (zO (zW hr) (pv 0) zJ (λ_ _=>rfl))) (rO 3 vD.nd) (zF (zZ (PW.pt (zG7 ?_ (zC4 (yM (zRb (zW hr)) (pv 2) (wV zD4 (pv 3) (vV yN) uQ) (by with_unfolding_all rfl))))) (zC (yE 4 vD.nd ?_)
   (zF (zZ (yM (zN1 hr.units0) (zO (zW hr) (zO (zW hr) (pv 0) zJ (λ_ _=>rfl)) (pv 4) (λ_ _=>rfl)) (wV zD4 (pv 1) (vV yN) uQ) (yX _)) (zF (zN zJ)) zM))) zM)))
   (zF (zN zJ)))))))),?_⟩
 nofun
 rcases mk.cases with ⟨nm,x,y,rfl⟩ | ⟨nm,rfl⟩ | ⟨nm,x,y,rfl⟩
 ·clear mk q;obtain⟨t,rfl,ht⟩:=zIy hv;have tq:Sq K H t [.str "mark",.str nm,.int x,.int y]:=.inr (SqT.of ht);exists _,U,t,_,1,.str nm,U,U,tq,U,_,U,t,_,0,.str "mark",U,U,tq,U,U,_,rfl;refine xP ?_;refine⟨_,U,nm,U,tm.1,λbb H1 hb s1=>⟨_,U,?_⟩⟩;cases bb with
  | false=>exact xP (say (some .badName) _ (by simp only[zU,if_pos (sB hb rfl)]) (.of s1))
  | true =>
  have j1:=ar.mpr (hb.mp rfl);refine yW ?_;have hd1:=Rd.same lw.at_ s1;have tq1:Sq K H1 t [.str "mark",.str nm,.int x,.int y]:=.inr (SqT.of (s1 _ _ ht));exists _,U,_,U,d,.ref m,U,.inl ⟨_,.inr "marks",hd1,U,yS.symm⟩,m,_,U,.inl ⟨mk',.inr nm,Rd.same hm s1,U,U⟩,_,rfl;rw[km.isSome,wN,cb];cases e:(zP S nm).isSome with
  | true=>exact xP (say (some .taken) _ (by simp only[zU,if_neg j1,if_pos e]) (.of s1))
  | false =>
  have j2:¬ (zP S nm).isSome=true:=by rw[e]; exact aB
  refine yW ?_;refine⟨_,U,t,_,2,.int x,U,U,tq1,U,_,U,t,_,3,.int y,U,U,tq1,U,x,y,U,λbb hb2=>⟨_,U,?_⟩⟩;cases bb with
  | false=>exact xP (say (some .badPlace) _ (by simp only[zU,if_neg j1,if_neg j2,if_pos (sB hb2 rfl)]) (.of s1))
  | true =>
  have j3:=ar.mpr (hb2.mp rfl);refine yW ?_;exists _,U,d,.ref m,U,.inl ⟨_,.inr "marks",hd1,U,yS.symm⟩,m,mk',U,Rd.same hm s1,_,_,U,U,_,rfl;refine ifD (λz=>say (some .full) _ (by simp only[zU,if_neg j1,if_neg j2,if_neg j3,if_pos (show 20<=S.marks.length by lia)]) (.of s1)) (λz=>say (none) _ (by simp only[zU,if_neg j1,if_neg j2,if_neg j3,if_neg (show ¬ 20<=S.marks.length by lia)]) (.of s1))
 ·clear mk q;obtain⟨t,rfl,ht⟩:=zCu hv;have tq:Sq K H t [.str "unmark",.str nm]:=.inr (SqT.of ht);exists _,U,t,_,1,.str nm,U,U,tq,U,_,U,t,_,0,.str "unmark",U,U,tq,U,U,_,rfl;refine yW ?_;exists _,U,_,U,d,.ref m,U,.inl ⟨_,.inr "marks",lw.at_,U,yS.symm⟩,m,_,U,.inl ⟨mk',.inr nm,hm,U,U⟩,_,rfl;rw[km.isSome,wN,cb];cases e:(zP S nm).isSome with
  | false=>exact xP (say (some .noMark) _ (by simp only[zU,if_pos (show zP S nm=none by cases h:zP S nm <;> simp[h] at e ⊢)]) (.refl _))
  | true =>
  have j1:¬ zP S nm=none:=λz=>by rw[z] at e; cases e
  refine yW ?_;exists _,U,t,_,0,.str "unmark",U,U,tq,U,U,_,rfl;refine xP ?_;obtain⟨nk,hnk,kn⟩:=lw.no;obtain⟨ks,rfl,e1,rk⟩:=zBy kn;have lks:ks.length=S.notes.length:=by have:=congrArg cM e1; rw[aa,aa] at this; exact this
  have few:=wl.good.few;refine⟨_,U,d,.ref n,U,.inl ⟨_,.inr "notes",lw.at_,U,uT.symm⟩,n,_,U,hnk,λo2 H2 fz2=>?_⟩;have s2:Sam H H2:=zFc hnk fz2;have rk2:=rk.to s2;refine λcc2 D2 hD2=>zMd (λj σ2 zs2 H''=>xX (λx=>x=D2) H2 H''/\H'' D2=some (.lst zs2)/\(∃ bs:List Bool,zs2=bs.map V.bl/\bs.length=j/\(bs.any id=false↔∀ e∈S.notes.take j,rT nm e.2))/\∃ u2:Option V,σ2=[u2,some (.str nm)])
   ⟨.of (zD hD2 _),zA,⟨[],rfl,rfl,iff_of_true rfl λe he=>(nomatch he)⟩,none,rfl⟩ (λj σ2 zs2 H'' hP=>⟨zN5 hP.1 (λz=>by have:=fz2.1; rw[z,hD2] at this; cases this) fz2.1,hP.2.1⟩) ?_ ?_
  ·rintro j x2 σ2 zs2 H'' gx2 ⟨s3,eD3,⟨bs,rfl,lb,ab⟩,u2,rfl⟩;have gx':(ks.map (·.2))[j]?=some x2:=by rw[bD] at gx2; exact gx2
   have npD2:∀ b xs,H2 b=some (.tup xs)->¬ b=D2:=λb xs e z=>by rw[z,hD2] at e; cases e
   obtain⟨dt,gdt,rd⟩:=(rk2.sam s3 npD2).back gx';rw[ak,aH] at gdt;obtain⟨e,ge,rfl⟩:=gdt;have kn':=wl.good.note e (aJ ge);have lj:j<60:=by have:=(aM.mp ge).1; have:=few.no; lia
   have fin:∀(y:Bool)(Hz:Hp),Same H'' Hz->(y=false↔rT nm e.2)->Hz D2=some (.lst (bs.map V.bl))/\(bs.map V.bl).length<sizeLine/\xX (λx=>x=D2) H2 (upd Hz D2 (.lst (bs.map V.bl++[.bl y])))/\upd Hz D2 (.lst (bs.map V.bl++[.bl y])) D2=some (.lst (bs.map V.bl++[.bl y]))/\(∃ cs:List Bool,bs.map V.bl++[.bl y]=cs.map V.bl/\cs.length=j+1/\(cs.any id=false↔∀ e∈S.notes.take (j+1),rT nm e.2)):=by
    intro y Hz sz hy;have ez:=sz _ _ eD3;refine⟨ez,fB (by rw[aa]; lia : _<=60) (by decide),(s3.trans (.of sz)).trans (sI ez),zA,bs++[y],by rw[aG]; rfl,by rw[aC,lb]; rfl,?_⟩;rw[List.any_append,eY,ab,bN,ge,show [y].any id=y from by cases y <;> rfl,hy];exact⟨λh e' he'=>(aS.mp he').elim (h.1 e') λz=>by rw[av.mp z]; exact h.2,λh=>⟨λe' z=>h e' (dU _ z),h e (aY _ (.head _))⟩⟩
   match hE:e.2,kn',rd with
   | .bearing mo k' x1 y1 x2 y2,kn',rd =>
    obtain⟨c,c1,c2,rfl,hc,hc1,hc2⟩:=wP rd;refine⟨_,U,_,U,_,U,c,_,U,SqT.of hc,(λz=>absurd z.1 (by show ¬ HT.sIx 5 0 (some 2)=0; decide)),λp hp=>?_⟩;have sp:=zD hp (.tup (rG [.str "bearing",.int mo,.str k',.ref c1,.ref c2] (some 2) none));refine⟨p,[.str k',.ref c1,.ref c2],nm,U,U,SqT.of zA,λv hv=>?_,?_⟩
    ·rcases aA.mp hv with z | hv
     ·exact .inl ⟨k',z⟩
     rcases aA.mp hv with z | hv
     ·exact .inr ⟨c1,_,z,SqT.of (sp _ _ hc1)⟩
     ·exact .inr ⟨c2,_,av.mp hv,SqT.of (sp _ _ hc2)⟩
    obtain⟨f1,f2,f3,f4,f5⟩:=fin ([V.str k',.ref c1,.ref c2].any (isS nm)) _ sp (by
     rw[hE];show((k' == nm)||(false||(false||false)))=false↔k'≠nm;rw[eY,beq_eq_false_iff_ne];exact and_iff_left rfl)
    exact⟨f1,f2,f3,f4,f5,_,U⟩
   | .range mo l1 r1,kn',rd =>
    obtain⟨c,rfl,hc⟩:=sW rd;refine⟨_,U,_,U,_,U,c,_,U,SqT.of hc,(λz=>absurd z.1 (by show ¬ HT.sIx 4 0 (some 2)=0; decide)),λp hp=>?_⟩;have sp:=zD hp (.tup (rG [.str "range",.int mo,.str l1,.str r1] (some 2) none));refine⟨p,[.str l1,.str r1],nm,U,U,SqT.of zA,λv hv=>?_,?_⟩
    ·rcases aA.mp hv with z | hv
     ·exact .inl ⟨l1,z⟩
     ·exact .inl ⟨r1,av.mp hv⟩
    obtain⟨f1,f2,f3,f4,f5⟩:=fin ([V.str l1,.str r1].any (isS nm)) _ sp (by
     rw[hE];show((l1 == nm)||((r1 == nm)||false))=false↔l1≠nm/\r1≠nm;rw[jA,eY,beq_eq_false_iff_ne,beq_eq_false_iff_ne])
    exact⟨f1,f2,f3,f4,f5,_,U⟩
  ·rintro σ2 zs2 H'' ⟨s3,eD3,⟨bs,rfl,lb,ab⟩,u2,rfl⟩;have lnl:((ks.map λe=>((.inl e.1:Key),e.2)).map (·.2)).length=S.notes.length:=by rw[aa,aa,lks]
   rw[lnl,b7] at ab;have s23:Sam H H'':=xX.over s2 s3 hD2;exists D2,bs,U,SqL.of eD3,_,rfl;cases hb:bs.any id with
   | true=>exact xP (say (some .needed) _ (by simp only[zU,if_neg j1,if_neg (show ¬ ∀ e∈S.notes,rT nm e.2 from λz=>by rw[ab.mpr z] at hb; cases hb)]) s23)
   | false=>exact yW (say (none) _ (by simp only[zU,if_neg j1,if_pos (ab.mp hb)]) s23)
 ·clear mk q;obtain⟨t,rfl,ht⟩:=zIm hv;have tq:Sq K H t [.str "move",.str nm,.int x,.int y]:=.inr (SqT.of ht);exists _,U,t,_,1,.str nm,U,U,tq,U,_,U,t,_,0,.str "move",U,U,tq,U,U,_,rfl;refine yW ?_;exists _,U,_,U,d,.ref m,U,.inl ⟨_,.inr "marks",lw.at_,U,yS.symm⟩,m,_,U,.inl ⟨mk',.inr nm,hm,U,U⟩,_,rfl;rw[km.isSome,wN,cb];cases e:(zP S nm).isSome with
  | false=>exact xP (say (some .noMark) _ (by simp only[zU,if_pos (show zP S nm=none by cases h:zP S nm <;> simp[h] at e ⊢)]) (.refl _))
  | true =>
  have j1:¬ zP S nm=none:=λz=>by rw[z] at e; cases e
  refine yW ?_;exists _,U,t,_,0,.str "move",U,U,tq,U,U,_,rfl;refine yW ?_;refine⟨_,U,t,_,2,.int x,U,U,tq,U,_,U,t,_,3,.int y,U,U,tq,U,x,y,U,λbb hb2=>⟨_,U,?_⟩⟩;cases bb with
  | false=>exact xP (say (some .badPlace) _ (by simp only[zU,if_neg j1,if_pos (sB hb2 rfl)]) (.refl _))
  | true =>
  have j2:=ar.mpr (hb2.mp rfl);refine yW ?_;obtain⟨nk,hnk,kn⟩:=lw.no;obtain⟨ks,rfl,e1,rk⟩:=zBy kn;have lks:ks.length=S.notes.length:=by have:=congrArg cM e1; rw[aa,aa] at this; exact this
  refine⟨_,U,d,.ref n,U,.inl ⟨_,.inr "notes",lw.at_,U,uT.symm⟩,n,_,U,hnk,λo2 H2 fz2=>?_⟩;have s2:Sam H H2:=zFc hnk fz2;refine zVd (λi σ H'=>Sam H H'/\zM8 n o2 (ks.map λe=>(.inl e.1,e.2)) H'/\(∀ e∈S.notes.take i,zC6 (aft S (.move nm x y)) e.2)/\∃ u u':Option V,σ=[some (.ref d),some (.ref t),some (.str nm),u,u'])
   ⟨s2,fz2.1,λe he=>(nomatch he),none,none,rfl⟩ (λi σ H' h=>h.2.1) ?_ ?_
  ·rintro i x' σ H' gx ⟨s6,fa,ul,u,u',rfl⟩;have gx':(ks.map (·.2))[i]?=some x':=by rw[bD] at gx; exact gx
   obtain⟨dt,gd,rd⟩:=rk.back gx';rw[ak,aH] at gd;obtain⟨e,ge,rfl⟩:=gd;have ge:S.notes[i]?=some e:=ge;have mem:=aJ ge;have kn:=wl.good.note e mem;have rd3:=rd.to s6;have snoc:zC6 (aft S (.move nm x y)) e.2->∀ e'∈S.notes.take (i+1),zC6 (aft S (.move nm x y)) e'.2:=λh e' he'=>by
    rw[bN,ge] at he';rcases aS.mp he' with z | z
    ·exact ul e' z
    ·rw[av.mp z]; exact h
   match hE:e.2,kn,rd3 with
   | .bearing mo n x1 y1 x2 y2,kn,rd3 =>
    obtain⟨c,c1,c2,rfl,hc,hc1,hc2⟩:=wP rd3;exists _,U,c,_,0,.str "bearing",U,U,.inr (SqT.of hc),U,U,_,rfl;exact yW ⟨s6,fa,snoc (by rw[hE]; trivial),_,_,rfl⟩
   | .range mo l1 r1,kn,rd3 =>
    obtain⟨c,rfl,hc⟩:=sW rd3;obtain⟨_,_,i1,i2,nlr⟩:=kn;obtain⟨pl,gl⟩:=aL.mp i1;obtain⟨pr,gr⟩:=aL.mp i2;have st:=zMu (mo:=mo) (nm:=nm) (x:=x) (y:=y) gl gr;have nlr:pl≠pr:=λz=>nlr (by rw[gl,gr,z]);have cq:Sq K H' c [.str "range",.int mo,.str l1,.str r1]:=.inr (SqT.of hc);exists _,U,c,_,0,.str "range",U,U,cq,U,U,_,rfl;refine xP ?_;refine⟨_,U,_,U,_,U,c,_,U,SqT.of hc,(λz=>absurd z.1 (by show ¬ HT.sIx 4 0 (some 2)=0; decide)),λp hp=>?_⟩;have sp:=zD hp (.tup (rG [.str "range",.int mo,.str l1,.str r1] (some 2) none));have hc7:=sp _ _ hc;have cq7:Sq K (upd H' p (.tup (rG [.str "range",.int mo,.str l1,.str r1] (some 2) none))) c [.str "range",.int mo,.str l1,.str r1]:=.inr (SqT.of hc7);have s7:=s6.trans (.of sp);have fa7:=sp _ _ fa;refine⟨p,[.str l1,.str r1],nm,U,U,SqT.of zA,λv hv=>?_,_,U,?_⟩
    ·rcases aA.mp hv with z | hv
     ·exact .inl ⟨l1,z⟩
     ·exact .inl ⟨r1,av.mp hv⟩
    by_cases z1:l1=nm
    ·subst z1;have z2:¬ r1=l1:=λz=>nlr (by rw[z,gl] at gr; exact bh gr);rw[if_pos rfl,if_neg z2] at st;rw[show [V.str l1,.str r1].any (isS l1)=true from by show((l1 == l1)||_)=true; rw[beq_self_eq_true]; rfl];refine xP ?_;refine⟨_,U,c,_,2,.str l1,U,U,cq7,U,_,U,U,_,U,ifSt ?_⟩;exists _,U,c,_,3,.str r1,U,U,cq7,rfl;obtain⟨kvs,pa,hkv,t1,t2⟩:=zGj (lw.to s7).ma gr;refine⟨_,U,d,.ref m,U,.inl ⟨_,.inr "marks",(lw.to s7).at_,U,yS.symm⟩,_,U,m,.ref pa,U,.inl ⟨kvs,.inr _,hkv,U,t1.symm⟩,_,U,_,U,t,_,U,SqT.of (s7.tup id ht),(λz=>absurd z.1 (by show ¬ HT.sIx 4 0 (some 2)=0; decide)),λp2 hp2=>?_⟩;have sp2:=zD hp2 (.tup (rG [.str "move",.str l1,.int x,.int y] (some 2) none));exists pa,p2,[pr.1,pr.2],[x,y],U,U,SqT.of (sp2 _ _ t2),SqT.of zA,_,rfl;refine ifD (λz=>?_) (λz=>?_)
     ·exact say (some .same) _ (by
       have bad:¬ ∀ e∈S.notes,zC6 (aft S (.move l1 x y)) e.2:=λw=>by
        have w:=w _ mem;rw[hE] at w;exact(λ(z:pr.1=x/\pr.2=y) w=>st.mp w (ke z.1.symm z.2.symm)) (by simpa using z) w
       simp only[zU,if_neg j1,if_neg j2,if_neg bad]) (s7.trans (.of sp2))
     ·exact⟨s7.trans (.of sp2),sp2 _ _ fa7,snoc (by rw[hE]; exact(λ(z:¬ (pr.1=x/\pr.2=y))=>st.mpr λw=>z ⟨congrArg (·.1) w.symm,congrArg (·.2) w.symm⟩) (λw=>z (by simpa using w))),_,_,rfl⟩
    by_cases z2:r1=nm
    ·subst z2;rw[if_pos rfl,if_neg z1] at st;rw[show [V.str l1,.str r1].any (isS r1)=true from by show((l1 == r1)||((r1 == r1)||false))=true; rw[beq_self_eq_true,eC,iD]];refine xP ?_;refine⟨_,U,c,_,2,.str l1,U,U,cq7,U,_,U,U,_,U,ye6 z1 ?_⟩;exists _,U,c,_,2,.str l1,U,U,cq7,rfl;obtain⟨kvs,pa,hkv,t1,t2⟩:=zGj (lw.to s7).ma gl;refine⟨_,U,d,.ref m,U,.inl ⟨_,.inr "marks",(lw.to s7).at_,U,yS.symm⟩,_,U,m,.ref pa,U,.inl ⟨kvs,.inr _,hkv,U,t1.symm⟩,_,U,_,U,t,_,U,SqT.of (s7.tup id ht),(λz=>absurd z.1 (by show ¬ HT.sIx 4 0 (some 2)=0; decide)),λp2 hp2=>?_⟩;have sp2:=zD hp2 (.tup (rG [.str "move",.str r1,.int x,.int y] (some 2) none));exists pa,p2,[pl.1,pl.2],[x,y],U,U,SqT.of (sp2 _ _ t2),SqT.of zA,_,rfl;refine ifD (λz=>?_) (λz=>?_)
     ·exact say (some .same) _ (by
       have bad:¬ ∀ e∈S.notes,zC6 (aft S (.move r1 x y)) e.2:=λw=>by
        have w:=w _ mem;rw[hE] at w;exact(λ(z:pl.1=x/\pl.2=y) w=>st.mp w (ke z.1 z.2)) (by simpa using z) w
       simp only[zU,if_neg j1,if_neg j2,if_neg bad]) (s7.trans (.of sp2))
     ·exact⟨s7.trans (.of sp2),sp2 _ _ fa7,snoc (by rw[hE]; exact(λ(z:¬ (pl.1=x/\pl.2=y))=>st.mpr λw=>z ⟨congrArg (·.1) w,congrArg (·.2) w⟩) (λw=>z (by simpa using w))),_,_,rfl⟩
    ·rw[if_neg z1,if_neg z2] at st;rw[show [V.str l1,.str r1].any (isS nm)=false from by show((l1 == nm)||((r1 == nm)||false))=false; rw[beq_eq_false_iff_ne.mpr z1,beq_eq_false_iff_ne.mpr z2]; rfl];exact yW ⟨s7,fa7,snoc (by rw[hE]; exact st.mpr nlr),_,_,rfl⟩
  ·rintro σ H' ⟨s6,fa,ul,u,u',rfl⟩;rw[aa,aa,lks,b7] at ul;exact say none _ (by simp only[zU,if_neg j1,if_neg j2,if_pos ul]) s6
def ye2:Deed->Prop
 | .sail _ _=>True
 | .right _ _ _=>True
 | _=>False
theorem ye2.cases{D:Deed}(h:ye2 D):(∃ x y,D=.sail x y)\/∃ k x y,D=.right k x y:=by
 cases D <;> first | exact h.elim | exact .inl ⟨_,_,rfl⟩ | exact .inr ⟨_,_,_,rfl⟩
def zB7(_:ae):Sp:=zLn ye2
theorem zIp(F:Fun K "_law_run_word" "_law_run_word" sS f fd)(Z:Zs mg)(CB:Cb P w mg base)(yCc:Has P w K mg base "_law_near" 1 ["_law_x","_law_y"] (zBv K)):yY P w K mg base CX0 2 f fd ["_law_m","_law_deed_here"] (zB7 K):=by
 specialize zIb
 ·obtain⟨d,v,S,D,rfl,_⟩:=h;rfl
 obtain⟨d,v,S,D,rfl,⟨m,b,r,n,lw⟩,hv,tm,wl,mk,q⟩:=h;obtain⟨rs,hrs,kr⟩:=lw.ru;have lrs:rs.length=S.runs.length:=by rw[kr.length,aa]
 refine'⟨_,(zC (zZ ?_ (zC (zZ ?_ (zF (zN zJ)) zM)
   (zF (zN (vY (yM zI1 (zS yV rfl Z.len wQ (zB (zO (zW hr) (pv 0) zJ (λ_ _=>rfl)) zH)) yN (yX _)) zJ zJ)))) zM)
   (zC (zZ (zAf (zH5 zBu zUo yN ?_ (zS yV rfl Z.len wQ (zB (zO (zW hr) (pv 0) zJ (λ_ _=>rfl)) zH)))) (zF (zN zJ)) zM)
   (zF (zN ?_)))),?_⟩
 nofun
 rcases mk.cases with ⟨x,y,rfl⟩ | ⟨k,x,y,rfl⟩
 ·clear mk;have say:∀(o:Option Cl),zU S (.sail x y)=o->Q (.str (zF4 o)) H:=λo e=>e ▸ q H (.refl _);obtain⟨t,rfl,ht⟩:=zJc hv;have tq:Sq K H t [.str "sail",.int x,.int y]:=.inr (SqT.of ht);exists _,U,t,_,0,.str "sail",U,U,tq,U,U,_,rfl;refine xP ?_;refine⟨_,U,t,_,1,.int x,U,U,tq,U,_,U,t,_,2,.int y,U,U,tq,U,x,y,U,λbb hb=>⟨_,U,?_⟩⟩;cases bb with
  | false=>exact xP (say (some .badRun) (by simp only[zU,if_pos (sB hb rfl)]))
  | true =>
  have j1:=ar.mpr (hb.mp rfl);refine yW ?_;exists _,U,d,.ref r,U,.inl ⟨_,.inr "runs",lw.at_,U,uA.symm⟩,r,_,U,.inl (SqL.of hrs),_,_,U,U,_,rfl;exact ifD (λz=>say (some .full) (by simp only[zU,if_neg j1,if_pos (show 12<=S.runs.length by lia)])) (λz=>say none (by simp only[zU,if_neg j1,if_neg (show ¬ 12<=S.runs.length by lia)]))
 ·clear mk;have say:∀(o:Option Cl),zU S (.right k x y)=o->Q (.str (zF4 o)) H:=λo e=>e ▸ q H (.refl _);obtain⟨t,rfl,ht⟩:=zEu hv;have tq:Sq K H t [.str "right",.int k,.int x,.int y]:=.inr (SqT.of ht);exists _,U,t,_,0,.str "right",U,U,tq,U,U,_,rfl;refine yW ?_;exists _,U,t,_,1,.int k,U,U,tq,U,_,_,U,rfl;exists _,rfl;by_cases k0:0<=k
  ·rw[decide_eq_true k0];refine xP ?_;exists _,U,d,.ref r,U,.inl ⟨_,.inr "runs",lw.at_,U,uA.symm⟩,r,_,U,.inl (SqL.of hrs),_,_,U,U,_,rfl;refine ifN (λz=>say (some .noRun) (by simp only[zU,if_neg (show ¬ (0<=k/\k<S.runs.length) by lia)])) (λz=>?_);have j1:0<=k/\k<S.runs.length:=by lia
   refine⟨_,U,t,_,2,.int x,U,U,tq,U,_,U,t,_,3,.int y,U,U,tq,U,x,y,U,λbb hb=>⟨_,U,?_⟩⟩;cases bb with
   | false=>exact yW (say (some .badRun) (by simp only[zU,if_pos j1,if_neg (sB hb rfl)]))
   | true=>exact xP (say none (by simp only[zU,if_pos j1,if_pos (hb.mp rfl)]))
  ·rw[decide_eq_false k0];exact yW ⟨_,rfl,xP (say (some .noRun) (by simp only[zU,if_neg (show ¬ (0<=k/\k<S.runs.length) by lia)]))⟩
def zWt:Deed->Prop
 | .bearing _ _ _ _ _ _=>True
 | .range _ _ _=>True
 | .strike _=>True
 | _=>False
theorem zWt.cases{D:Deed}(h:zWt D):(∃ k,D=.strike k)\/(∃ m n a b c d,D=.bearing m n a b c d)\/∃ m l r,D=.range m l r:=by
 cases D <;> first | exact h.elim | exact .inl ⟨_,rfl⟩ | exact .inr (.inl ⟨_,_,_,_,_,_,rfl⟩) | exact .inr (.inr ⟨_,_,_,rfl⟩)
theorem cutX{A G B:Prop}(h1:(A->B)->G)(h2:A->B):G:=h1 h2
def zBa(_:ae):Sp:=zLn zWt
theorem zGx(F:Fun K "_law_note_word" "_law_note_word" tD f fd)(Z:Zs mg)(CB:Cb P w mg base)(yBo:Has P w K mg base "_law_turned" 1 ["_law_one","_law_other"] (zBq K)):yY P w K mg base CX0 2 f fd ["_law_m","_law_deed_here"] (zBa K):=by
 specialize rJ
 ·obtain⟨d,v,S,D,rfl,_⟩:=h;rfl
 obtain⟨d,v,S,D,rfl,⟨m,b,r,n,lw⟩,hv,tm,wl,mk,q⟩:=h;have say:∀(o:Option Cl)(H':Hp),zU S D=o->Sam H H'->Q (.str (zF4 o)) H':=λo H' e s=>e ▸ q _ s;obtain⟨rs,hrs,kr⟩:=lw.ru;have lrs:rs.length=S.runs.length:=by rw[kr.length,aa]
 obtain⟨mk',hm,km⟩:=lw.ma;obtain⟨nk',hn,kn⟩:=lw.no;have lnk:nk'.length=S.notes.length:=by rw[kn.length]; unfold ntE; rw[aa]
 refine'⟨_,(zC (zZ ?_ (zF (zN (vY (qU (zKo (zW hr) ?_ (zO (zW hr) (pv 0) zJ (λ_ _=>rfl))) (by with_unfolding_all rfl)) zJ zJ))) zM)
   (zC (zZ (zAf (zH5 zBu zBu yN ?_ (zS yV rfl Z.len wQ (zB (zO (zW hr) (pv 0) zJ (λ_ _=>rfl)) zH)))) (zF (zN zJ)) zM)
   (zC (zZ (PW.pt (zO9 (qU (sQ (zW hr) ?_ (zO (zW hr) (pv 0) zJ (λ_ _=>rfl))) (by with_unfolding_all rfl)) (zKj (PW.pt (zG7 ?_ (zC4 (qU (sQ (zW hr) ?_ (zO (zW hr) (pv 0) zJ (λ_ _=>rfl))) (by with_unfolding_all rfl)))))))) (zF (zN zJ)) zM)
   (zC (zZ (PW.pt (zG7 ?_ (zC4 (yM (zN1 hr.units0) (zO (zW hr) (zO (zW hr) (pv 0) zJ (λ_ _=>rfl)) ?_ (λ_ _=>rfl)) (zO (zW hr) (zO (zW hr) (pv 0) zJ (λ_ _=>rfl)) ?_ (λ_ _=>rfl)) (yX _))))) (zF (zN zJ)) zM)
   (zC (zZ ?_ (zC (tO bZ rfl (zWf (wV zD4 (pv 1) (vV yN) uQ)) (rM rfl (yG (rO 2 rJ.nd) (yG (rO 3 rJ.nd) wY))) (zF (zZ ?_ (zF (zN zJ)) zM)))
   (zF (zZ ?_ (zF (zN zJ)) zM))) zM)
   (zF (zN (vY (yM zI1 (zS vM rfl Z.len wQ (zB (zO (zW hr) (pv 0) zJ (λ_ _=>rfl)) zH)) yN (yX _)) zJ zJ)))))))),?_⟩
 nofun
 rcases mk.cases with ⟨k,rfl⟩ | ⟨mo,nm,x1,y1,x2,y2,rfl⟩ | ⟨mo,l1,r1,rfl⟩
 ·clear mk q;obtain⟨t,rfl,ht⟩:=zCg hv;have tq:Sq K H t [.str "strike",.int k]:=.inr (SqT.of ht);exists _,U,t,_,0,.str "strike",U,U,tq,U,U,_,rfl;refine xP ?_;exists _,U,t,_,1,.int k,U,U,tq,U,_,U,d,.ref n,U,.inl ⟨_,.inr "notes",lw.at_,U,uT.symm⟩,n,_,U,.inl ⟨nk',.inl k,hn,U,U⟩,_,rfl;have bn:=zMo (k:=k) kn;cases e:(wF nk' (.inl k)).isSome with
  | true=>exact xP (say none _ (by simp only[zU,if_pos (show k∈S.notes.map (·.1) from fg λz=>by rw[bn.mpr z] at e; cases e)]) (.refl _))
  | false=>exact yW (say (some .noNote) _ (by simp only[zU,if_neg (bn.mp (by cases h:wF nk' (.inl k) <;> simp[h] at e ⊢))]) (.refl _))
 ·clear mk q;obtain⟨t,c1,c2,rfl,ht,hc1,hc2⟩:=wP hv;have tq:Sq K H t [.str "bearing",.int mo,.str nm,.ref c1,.ref c2]:=.inr (SqT.of ht);exists _,U,t,_,0,.str "bearing",U,U,tq,U,U,_,rfl;refine yW ?_;have nom:¬ (0<=mo/\mo<=S.runs.length)->Q (.str (zF4 (some .noMoment))) H:=λz=>say _ _ (by simp only[zU,if_pos z]) (.refl _);exists _,U,t,_,1,.int mo,U,U,tq,U,_,_,U,U,_,rfl;refine ifD (λh1=>?_) (λh1=>⟨_,rfl,xP (nom λz=>h1 z.1)⟩);exists _,U,d,.ref r,U,.inl ⟨_,.inr "runs",lw.at_,U,uA.symm⟩,r,_,U,.inl (SqL.of hrs),_,_,U,U,_,rfl;refine ifN (λh2=>nom λz=>h2 (by rw[lrs]; exact z.2)) (λh2=>?_);have j1:=ar.mpr (show 0<=mo/\mo<=S.runs.length from⟨h1,by rw[lrs] at h2; exact h2⟩);exists _,U,t,_,2,.str nm,U,U,tq,U,_,U,d,.ref m,U,.inl ⟨_,.inr "marks",lw.at_,U,yS.symm⟩,m,_,U,.inl ⟨mk',.inr nm,hm,U,U⟩,_,rfl;rw[km.isSome,wN,cb];cases e:(zP S nm).isSome with
  | false=>exact xP (xP (say (some .noMark) _ (by simp only[zU,if_neg j1,if_pos (show zP S nm=none by cases h:zP S nm <;> simp[h] at e ⊢)]) (.refl _)))
  | true =>
  have j2:¬ zP S nm=none:=λz=>by rw[z] at e; cases e
  refine yW ?_;exists _,U,t,_,0,.str "bearing",U,U,tq,U,U,_,rfl;refine yW (yW ?_);exists _,U,t,_,0,.str "bearing",U,U,tq,U,U,_,rfl;refine yW (yW ?_);exists _,U,t,_,0,.str "bearing",U,U,tq,U,U,_,rfl;refine xP ?_;refine⟨_,U,_,U,t,_,U,SqT.of ht,(λz=>absurd z.1 (by show ¬ HT.sIx 5 0 (some 3)=0; decide)),λp hp=>?_⟩;have sp:=zD hp (.tup (rG [.str "bearing",.int mo,.str nm,.ref c1,.ref c2] (some 3) none));have ep:upd H p (.tup (rG [.str "bearing",.int mo,.str nm,.ref c1,.ref c2] (some 3) none)) p=some (.tup [.ref c1,.ref c2]):=zA;generalize upd H p (.tup (rG [.str "bearing",.int mo,.str nm,.ref c1,.ref c2] (some 3) none))=Hp at sp ep ⊢;exists p,U,⟨_,SqT.of ep⟩;have bad:∀ w∈[(x1,y1),(x2,y2)],¬ zDc w->zU S (.bearing mo nm x1 y1 x2 y2)=some .badWay:=λw hw nw=>by
   rcases aA.mp hw with rfl | hw
   ·simp only[zU,if_neg j1,if_neg j2,if_pos nw]
   ·rw[av.mp hw] at nw;simp only[zU,if_neg j1,if_neg j2,if_pos nw,ite_self]
  refine zRn (K:=K) (a:=p) (xs:=[.ref c1,.ref c2]) (λi σ H'=>Same Hp H'/\(∀ w∈[(x1,y1),(x2,y2)].take i,zDc w)/\∃ u v:Option V,σ=[some (.ref d),some (.ref t),u,v])
   ⟨Same.refl _,λw hw=>(nomatch hw),_,_,rfl⟩ (λi σ H' _ h=>SqT.of (h.1 _ _ ep)) ?_ ?_
  ·rintro i v σ H' hi ⟨sH,ow,u1,u2,rfl⟩;obtain⟨c,xx,yy,rfl,hc,gw⟩:∃(c:af)(xx yy:Int),v=.ref c/\Hp c=some (.tup [.int xx,.int yy])/\[(x1,y1),(x2,y2)][i]?=some (xx,yy):=by
    match i,hi with
    | 0,hi=>cases hi; exact⟨c1,x1,y1,U,sp _ _ hc1,U⟩
    | 1,hi=>cases hi; exact⟨c2,x2,y2,U,sp _ _ hc2,U⟩
   have mw:=aJ gw;exists _,_,U,SqT.of (sH _ _ hc),U,_,_,U,_,_,U,rfl;exists _,U,U,_,rfl;have no:¬ zDc (xx,yy)->Q (.str (zF4 (some .badWay))) H':=λz=>say _ _ (bad _ mw z) (.of (sp.trans sH));refine cutX (A:=xx≠0\/yy≠0) (λmx=>ifE (λhx=>⟨_,rfl,rfl,_,rfl,ifE (λhy=>xP (no λz=>z.1 (by rw[hx,hy]))) (λhy=>mx (.inr hy))⟩) (λhx=>mx (.inl hx))) (λnz=>?_);exists _,U,xx,U,_,U,yy,U,_,_,U,_,_,U,U,_,rfl;have far:¬ (100<if (if yy<0 then -yy else yy)>(if xx<0 then -xx else xx) then(if yy<0 then -yy else yy) else(if xx<0 then -xx else xx))↔(-100<=xx/\xx<=100/\-100<=yy/\yy<=100):=by
    split <;> split <;> split <;> lia
   refine ifD (λh=>no λz=>far.mpr z.2 h) (λh=>⟨sH,λw hw=>?_,_,_,rfl⟩);rw[bN,gw] at hw;rcases aS.mp hw with z | z
   ·exact ow w z
   ·rw[av.mp z];exact⟨λy=>by injection y with y1 y2; exact nz.elim (· y1) (· y2),far.mp h⟩
  ·rintro σ H' ⟨sH,ow,u1,u2,rfl⟩;have w1:zDc (x1,y1):=ow _ (.head _);have w2:zDc (x2,y2):=ow _ (.tail _ (.head _));have j3:=ar.mpr w1;have j4:=ar.mpr w2;have s0:=sp.trans sH;have tq':Sq K H' t [.str "bearing",.int mo,.str nm,.ref c1,.ref c2]:=.inr (SqT.of (s0 _ _ ht));exists _,U,t,_,3,.ref c1,U,U,tq',U,_,U,t,_,4,.ref c2,U,U,tq',U,c1,c2,[.int x1,.int y1],[.int x2,.int y2],x1,y1,x2,y2,U,.inr (SqT.of (s0 _ _ hc1)),.inr (SqT.of (s0 _ _ hc2)),U,U,U,U,(by have:=w1.2; lia),(by have:=w1.2; lia),_,_,rfl,rfl,_,rfl;refine ifD (λh5=>say (some .badTurn) _ (by simp only[zU,if_neg j1,if_neg j2,if_neg j3,if_neg j4,if_pos h5]) (.of s0)) (λh5=>?_);exists _,U,d,.ref n,U,.inl ⟨_,.inr "notes",Rd.same lw.at_ s0,U,uT.symm⟩,n,nk',U,Rd.same hn s0,_,_,U,U,_,rfl;exact ifD (λz=>say (some .full) _ (by simp only[zU,if_neg j1,if_neg j2,if_neg j3,if_neg j4,if_neg h5,if_pos (show 24<=S.notes.length by lia)]) (.of s0)) (λz=>say none _ (by simp only[zU,if_neg j1,if_neg j2,if_neg j3,if_neg j4,if_neg h5,if_neg (show ¬ 24<=S.notes.length by lia)]) (.of s0))
 ·clear mk q;obtain⟨t,rfl,ht⟩:=sW hv;have tq:Sq K H t [.str "range",.int mo,.str l1,.str r1]:=.inr (SqT.of ht);exists _,U,t,_,0,.str "range",U,U,tq,U,U,_,rfl;refine yW ?_;have nom:¬ (0<=mo/\mo<=S.runs.length)->Q (.str (zF4 (some .noMoment))) H:=λz=>say _ _ (by simp only[zU,if_pos z]) (.refl _);exists _,U,t,_,1,.int mo,U,U,tq,U,_,_,U,U,_,rfl;refine ifD (λh1=>?_) (λh1=>⟨_,rfl,xP (nom λz=>h1 z.1)⟩);exists _,U,d,.ref r,U,.inl ⟨_,.inr "runs",lw.at_,U,uA.symm⟩,r,_,U,.inl (SqL.of hrs),_,_,U,U,_,rfl;refine ifN (λh2=>nom λz=>h2 (by rw[lrs]; exact z.2)) (λh2=>?_);have j1:=ar.mpr (show 0<=mo/\mo<=S.runs.length from⟨h1,by rw[lrs] at h2; exact h2⟩);exists _,U,t,_,2,.str l1,U,U,tq,U,_,U,d,.ref m,U,.inl ⟨_,.inr "marks",lw.at_,U,yS.symm⟩,m,_,U,.inl ⟨mk',.inr l1,hm,U,U⟩,_,rfl;rw[km.isSome,wN,cb];cases e1:zP S l1 with
  | none=>exact xP (xP (say (some .noMark) _ (by simp only[zU,if_neg j1,if_pos e1]) (.refl _)))
  | some p1 =>
  have j2:¬ zP S l1=none:=λz=>by rw[z] at e1; cases e1
  refine yW ?_;exists _,U,t,_,0,.str "range",U,U,tq,U,U,_,rfl;refine xP ?_;exists _,U,t,_,3,.str r1,U,U,tq,U,_,U,d,.ref m,U,.inl ⟨_,.inr "marks",lw.at_,U,yS.symm⟩,m,_,U,.inl ⟨mk',.inr r1,hm,U,U⟩,_,rfl;rw[km.isSome,wN,cb];cases e2:zP S r1 with
  | none=>exact xP (say (some .noMark) _ (by simp only[zU,if_neg j1,if_neg j2,if_pos e2]) (.refl _))
  | some p2 =>
  have j3:¬ zP S r1=none:=λz=>by rw[z] at e2; cases e2
  refine yW ?_;exists _,U,t,_,0,.str "range",U,U,tq,U,U,_,rfl;refine xP ?_;obtain⟨v1,g1,q1⟩:=km.get (k:=.inr l1) (d:=ptD p1) (by rw[wN,e1]; rfl);obtain⟨v2,g2,q2⟩:=km.get (k:=.inr r1) (d:=ptD p2) (by rw[wN,e2]; rfl);obtain⟨a1,rfl,h1'⟩:=zBf q1;obtain⟨a2,rfl,h2'⟩:=zBf q2;refine⟨_,U,d,.ref m,U,.inl ⟨_,.inr "marks",lw.at_,U,yS.symm⟩,_,U,t,_,2,.str l1,U,U,tq,U,m,_,U,.inl ⟨mk',.inr l1,hm,U,g1.symm⟩,_,U,d,.ref m,U,.inl ⟨_,.inr "marks",lw.at_,U,yS.symm⟩,_,U,t,_,3,.str r1,U,U,tq,U,m,_,U,.inl ⟨mk',.inr r1,hm,U,g2.symm⟩,
   a1,a2,[p1.1,p1.2],[p2.1,p2.2],rfl,rfl,SqT.of h1',SqT.of h2',_,rfl,?_⟩
  refine ifD (λz=>say (some .same) _ (by
   have z:p1=p2:=by simp at z; exact ke z.1 z.2
   simp only[zU,if_neg j1,if_neg j2,if_neg j3,if_pos (show zP S l1=zP S r1 by rw[e1,e2,z])]) (.refl _)) (λz=>?_)
  have j4:¬ zP S l1=zP S r1:=by
   rw[e1,e2];exact λy=>z (by cases y; rfl)
  exists _,U,t,_,0,.str "range",U,U,tq,U,U,_,rfl;refine yW ?_;exists _,U,d,.ref n,U,.inl ⟨_,.inr "notes",lw.at_,U,uT.symm⟩,n,nk',U,hn,_,_,U,U,_,rfl;exact ifD (λz=>say (some .full) _ (by simp only[zU,if_neg j1,if_neg j2,if_neg j3,if_neg j4,if_pos (show 24<=S.notes.length by lia)]) (.refl _)) (λz=>say none _ (by simp only[zU,if_neg j1,if_neg j2,if_neg j3,if_neg j4,if_neg (show ¬ 24<=S.notes.length by lia)]) (.refl _))
def DR(H:Hp):Nat->V->V->Prop
 | 0,x,y=>x=y/\((∃ i,x=.int i)\/(∃ b,x=.bl b)\/(∃ z,x=.str z)\/x=.non)
 | n+1,x,y=>(x=y/\((∃ i,x=.int i)\/(∃ b,x=.bl b)\/(∃ z,x=.str z)\/x=.non))\/∃(a b:af)(xs ys:List V)(l:Bool),x=.ref a/\y=.ref b/\H a=some (if l then .lst xs else .tup xs)/\H b=some (if l then .lst ys else .tup ys)/\xs.length=ys.length/\xs.length<=1000 /\
   ∀(i:Nat)(u v:V),xs[i]?=some u->ys[i]?=some v->DR H n u v
theorem DR.same{H H':Hp}(e:Same H H'):∀{n:Nat}{x y:V},DR H n x y->DR H' n x y
 | 0,_,_,h=>h
 | n+1,x,y,h=>by
  rcases h with h | ⟨a,b,xs,ys,l,e1,e2,h1,h2,h3,h4,h5⟩
  ·exact .inl h
  ·exact .inr ⟨a,b,xs,ys,l,e1,e2,e _ _ h1,e _ _ h2,h3,h4,λi u v g1 g2=>DR.same e (h5 i u v g1 g2)⟩
theorem DR.int{H:Hp}{n:Nat}{x y:Int}(h:x=y):DR H n (.int x) (.int y):=by
 subst h;cases n with
 | zero=>exact⟨U,.inl ⟨x,U⟩⟩
 | succ m=>exact .inl ⟨rfl,.inl ⟨x,rfl⟩⟩
theorem DR.bl{H:Hp}{n:Nat}{x y:Bool}(h:x=y):DR H n (.bl x) (.bl y):=by
 subst h;cases n with
 | zero=>exact⟨U,.inr (.inl ⟨x,U⟩)⟩
 | succ m=>exact .inl ⟨rfl,.inr (.inl ⟨x,rfl⟩)⟩
theorem DR.tupI{H:Hp}{n:Nat}{a b:af}{xs ys:List Int}(h1:H a=some (.tup (xs.map V.int)))(h2:H b=some (.tup (ys.map V.int)))(e:xs=ys)(hl:xs.length<=1000):DR H (n+1) (.ref a) (.ref b):=by
 subst e;refine .inr ⟨a,b,xs.map V.int,xs.map V.int,false,rfl,rfl,h1,h2,rfl,by rw[aa]; exact hl,λi u v g1 g2=>?_⟩;rw[g1] at g2;cases g2;obtain⟨m,_,rfl⟩:=zDg g1;exact DR.int rfl
theorem DR.str{H:Hp}{n:Nat}{x y:az}(h:x=y):DR H n (.str x) (.str y):=by
 subst h;cases n with
 | zero=>exact⟨U,.inr (.inr (.inl ⟨x,U⟩))⟩
 | succ m=>exact .inl ⟨rfl,.inr (.inr (.inl ⟨x,rfl⟩))⟩
theorem DR.non{H:Hp}{n:Nat} : DR H n .non .non:=by
 cases n with
 | zero=>exact⟨U,.inr (.inr (.inr rfl))⟩
 | succ m=>exact .inl ⟨rfl,.inr (.inr (.inr rfl))⟩
theorem zVs{H:Hp} : ∀(n:Nat)(d:Dt){x y:V},zH1 n d->Rep H d x->Rep H d y->DR H n x y
 | n,.int i,x,y,_,h1,h2=>by rw[yB.mp h1,yB.mp h2]; exact DR.int rfl
 | n,.str z,x,y,_,h1,h2=>by rw[zY.mp h1,zY.mp h2]; exact DR.str rfl
 | 0,.tup _,_,_,h,_,_=>h.elim
 | n+1,.tup l,x,y,h,h1,h2=>by
  obtain⟨a,xs,rfl,ha,ra⟩:=yJ.mp h1;obtain⟨b,ys,rfl,hb,rb⟩:=yJ.mp h2;have hl:l.length<=900:=h.1;refine .inr ⟨a,b,xs,ys,false,rfl,rfl,ha,hb,by rw[ra.length,rb.length],by rw[ra.length]; lia,λi u v g1 g2=>?_⟩;obtain⟨d,e1,r1⟩:=ra.back g1;obtain⟨d',e2,r2⟩:=rb.back g2;rw[e1] at e2;cases e2;exact zVs n d (h.2 d (aJ e1)) r1 r2
theorem reps_dr{H:Hp}{n:Nat}{l:List Dt}{a b:af}{xs ys:List V}(h:∀ d∈l,zH1 n d)(hl:l.length<=900)(ha:H a=some (.lst xs))(hb:H b=some (.lst ys))(ra:wG H l xs)(rb:wG H l ys):DR H (n+1) (.ref a) (.ref b):=by
 refine .inr ⟨a,b,xs,ys,true,rfl,rfl,ha,hb,by rw[ra.length,rb.length],by rw[ra.length]; lia,λi u v g1 g2=>?_⟩;obtain⟨d,e1,r1⟩:=ra.back g1;obtain⟨d',e2,r2⟩:=rb.back g2;rw[e1] at e2;cases e2;exact zVs n d (h d (aJ e1)) r1 r2
def zIf:Nat->Sp
 | 0=>λ_ _ _ _=>False
 | n+1=>λvs H Q _=>∃(x y:V),vs=[x,y]/\DR H n x y/\∀ H',Same H H'->Q (.bl true) H'
def zGo(_:ae):Sp:=zIf 6
structure KT(K:ae)(ty:ag)(bb bi bl bt bs:Bool):Prop where
 b:cP K ty (.type "bool")=some bb
 i:cP K ty (.type "int")=some bi
 l:cP K ty (.type "list")=some bl
 t:cP K ty (.type "tuple")=some bt
 s:cP K ty (.type "str")=some bs
theorem zN2{f:af}{fd:bT}(F:Fun K "_law_same" "_law_same" zCk f fd)(Z:Zs mg)(bS:zCe K fd ["_law_told","_law_due_here"] [])(kS:b9 K (.ref f)=true)(mS:mg "_law_same" = some (.ref f)) :
  ∀ n:Nat,yY P w K mg base CX0 n f fd ["_law_told","_law_due_here"] (zIf n)
 | 0=>⟨λ_ _ _ _ h=>h.elim,λ_ _ _ _ _ _ _ _ _ _ _ _ _ h=>h.elim⟩
 | n+1=>by
  have ih:=zN2 F Z bS kS mS n;have yCd:Has P w K mg base "_law_same" n ["_law_told","_law_due_here"] (zIf n):=⟨f,fd,ih,bS,kS,mS⟩
  specialize zRc
  ·obtain⟨x,y,rfl,_⟩:=h;rfl
  obtain⟨x,y,rfl,hD,q⟩:=h;have hr_self:=hr
  refine'⟨_,(zC (zZ ?_ (zF (zN zDi)) zM)
   (zC (zZ ?_ (zF (zN zDi)) zM)
   (zC (zZ ?_ (zF (zN ?_)) zM)
   (zF (zN (zKb ?_ (zJ2 (zS (tX rfl) rfl Z.all zGg (zB (tT (T:=["_law_one","_law_other"]) (caps:=[]) ⟨rfl,by decide +kernel,by decide +kernel,rfl,bB⟩ rfl (zY7 rfl Z.zip (zB (pv 0) (zB (pv 1) zH))) (λ_=>(rM rfl (yG (rO 0 (show(["_law_one","_law_other"]:List az).Nodup by decide +kernel)) (yG (rO 1 (show(["_law_one","_law_other"]:List az).Nodup by decide +kernel)) wY)))) (λ_=>uG) (λ_=>(vA yCd hr_self rfl (zB (pv 0) (zB (pv 1) zH))))) zH))))))))),?_⟩
  nofun
  have kinds:∃(t:ag)(bb bi bl bt bs:Bool),TyOf K H x t/\TyOf K H y t/\KT K t bb bi bl bt bs/\((bl=false/\bt=false/\x=y/\((∃ i,x=.int i)\/(∃ b,x=.bl b)\/(∃ z,x=.str z)\/x=.non)) \/
    ∃(m:Nat)(a b:af)(xs ys:List V)(l:Bool),bl=l/\bt = !l/\n=m+1/\x=.ref a/\y=.ref b/\H a=some (if l then .lst xs else .tup xs)/\H b=some (if l then .lst ys else .tup ys)/\xs.length=ys.length/\xs.length<=1000 /\
     ∀(i:Nat)(u v:V),xs[i]?=some u->ys[i]?=some v->DR H m u v):=by
   have yb3:(x=y/\((∃ i,x=.int i)\/(∃ b,x=.bl b)\/(∃ z,x=.str z)\/x=.non))->∃(t:ag)(bb bi bl bt bs:Bool),TyOf K H x t/\TyOf K H y t/\KT K t bb bi bl bt bs/\(bl=false/\bt=false/\x=y/\((∃ i,x=.int i)\/(∃ b,x=.bl b)\/(∃ z,x=.str z)\/x=.non)):=λh=>by
    obtain⟨rfl,h⟩:=h;rcases h with ⟨i,rfl⟩ | ⟨b,rfl⟩ | ⟨z,rfl⟩ | rfl
    ·exact⟨_,_,_,_,_,_,.int i,.int i,⟨U,U,U,U,U⟩,U,U,U,.inl ⟨i,U⟩⟩
    ·exact⟨_,_,_,_,_,_,.bl b,.bl b,⟨U,U,U,U,U⟩,U,U,U,.inr (.inl ⟨b,U⟩)⟩
    ·exact⟨_,_,_,_,_,_,.str z,.str z,⟨U,U,U,U,U⟩,U,U,U,.inr (.inr (.inl ⟨z,U⟩))⟩
    ·exact⟨_,_,_,_,_,_,.non,.non,⟨U,U,U,U,U⟩,U,U,U,.inr (.inr (.inr rfl))⟩
   cases n with
   | zero =>
    obtain⟨t,bb,bi,bl,bt,bs,h1,h2,h3,h4⟩:=yb3 hD;exact⟨t,bb,bi,bl,bt,bs,h1,h2,h3,.inl h4⟩
   | succ m =>
    rcases hD with h | ⟨a,b,xs,ys,l,e1,e2,h1,h2,h3,h4,h5⟩
    ·obtain⟨t,bb,bi,bl,bt,bs,h1,h2,h3,h4⟩:=yb3 h;exact⟨t,bb,bi,bl,bt,bs,h1,h2,h3,.inl h4⟩
    ·subst e1 e2;cases l with
     | true=>exact⟨_,_,_,_,_,_,.lst h1,.lst h2,⟨U,U,U,U,U⟩,.inr ⟨m,a,b,xs,ys,true,U,U,U,U,U,h1,h2,h3,h4,h5⟩⟩
     | false=>exact⟨_,_,_,_,_,_,.tup h1,.tup h2,⟨U,U,U,U,U⟩,.inr ⟨m,a,b,xs,ys,false,U,U,U,U,U,h1,h2,h3,h4,h5⟩⟩
  obtain⟨t,bb,bi,bl,bt,bs,tx,ty,kt,rest⟩:=kinds;exists _,U,_, "bool",t,bb,U,tx,kt.b,_,U,_, "bool",t,bb,U,ty,kt.b,U,_,rfl;refine ifN (λz=>absurd rfl z) (λ_=>?_);exists _,U,_, "int",t,bi,U,tx,kt.i,_,U,_, "int",t,bi,U,ty,kt.i,U,_,rfl;refine ifN (λz=>absurd rfl z) (λ_=>?_);exists _,U,_, "list",t,bl,U,tx,kt.l,_,U,_, "list",t,bl,U,ty,kt.l,U,_,rfl;refine ifN (λz=>absurd rfl z) (λ_=>?_);exists _,U,_, "tuple",t,bt,U,tx,kt.t,_,U,_, "tuple",t,bt,U,ty,kt.t,U,_,rfl;refine ifN (λz=>absurd rfl z) (λ_=>?_);exists _,U,_, "list",t,bl,U,ty,kt.l,_,rfl;rcases rest with ⟨rfl,rfl,rfl,hs⟩ | ⟨m,a,b,xs,ys,l,rfl,rfl,rfl,rfl,rfl,ha,hb,hlen,h1000,hel⟩
  ·refine xP ?_;exists _,U,_, "tuple",t,false,U,ty,kt.t,_,rfl;refine xP ?_;exists _,U,_, "str",t,bs,U,tx,kt.s,_,U,_, "str",t,bs,U,ty,kt.s,U,_,rfl;rw[decide_eq_true rfl];refine xP ?_;refine⟨_,U,_,U,?_,?_⟩
   ·rcases hs with ⟨i,rfl⟩ | ⟨b,rfl⟩ | ⟨z,rfl⟩ | rfl <;> rfl
   ·rw[decide_eq_true rfl];exact q H (Same.refl H)
  ·have SA:SqB bl K H a xs:=by
    cases bl
    ·exact SqT.of ha
    ·exact SqL.of ha
   have SB:SqB bl K H b ys:=by
    cases bl
    ·exact SqT.of hb
    ·exact SqL.of hb
   have SA':SqL K H a xs\/SqT K H a xs:=by
    cases bl
    ·exact .inr SA
    ·exact .inl SA
   have SB':SqL K H b ys\/SqT K H b ys:=by
    cases bl
    ·exact .inr SB
    ·exact .inl SB
   have keep:∀(H':Hp),Same H H'->SqB bl K H' a xs/\SqB bl K H' b ys:=λH' e=>by
    cases bl
    ·exact⟨SqT.same SA e,SqT.same SB e⟩
    ·exact⟨e.seq SA,e.seq SB⟩
   cases hbl:bl with
   | true =>
    refine yW ?_;refine yW ?_;exists _,U,a,xs,U,SA',_,U,b,ys,U,SB',U,_,rfl;rw[decI (by rw[hlen])];refine xP ?_;refine⟨_,U,_,U,bl,bl,a,b,xs,ys,U,SA,SB,λc D hD=>zK8 (K:=K) (xs:=xs) (ys:=ys) (λi σ zs H'=>Same H H'/\H' D=some (.lst zs)/\zs=(bE i true).map V.bl/\i<=xs.length/\∃ u v,σ=[u,v])
     ⟨zD hD _,zA,rfl,bw _,none,none,rfl⟩ (λi σ zs H' ⟨e,e2,_⟩=>⟨(keep H' e).1,(keep H' e).2,e2⟩) ?_ ?_⟩
    ·rintro i u v T σ zs H' hu hv hT ⟨e,e2,rfl,hi,o1,o2,rfl⟩;have hil:i<xs.length:=(aM.mp hu).1;have s2:=zD hT (.tup [u,v]);refine⟨T,[u,v],U,SqT.of zA,U,u,[v],U,v,[],U,U,_,U,_,U,u,v,U,(hel i u v hu hv).same (e.trans s2),λH4 s4=>?_⟩;have e4:=s4 _ _ (s2 _ _ e2);refine⟨e4,zV (by rw[aa,cV]; lia),λp o z=>?_,zA,?_,hil,_,_,rfl⟩
     ·rw[zG (zL z hD)];exact s4 _ _ (s2 _ _ (e _ _ z))
     ·rw[jp,aG];rfl
    ·rintro σ zs H' ⟨e,e2,rfl,hi,o1,o2,rfl⟩;exists D,bE (min xs.length ys.length) true,U,SqL.of e2;rw[show(bE (min xs.length ys.length) true).all id=true from by simp];exact q _ e
   | false =>
    refine xP ?_;exists _,U,_, "tuple",t,true,U,ty,kt.t.trans (by rw[hbl]; rfl),_,rfl;refine yW ?_;exists _,U,a,xs,U,SA',_,U,b,ys,U,SB',U,_,rfl;rw[decI (by rw[hlen])];refine xP ?_;refine⟨_,U,_,U,bl,bl,a,b,xs,ys,U,SA,SB,λc D hD=>zK8 (K:=K) (xs:=xs) (ys:=ys) (λi σ zs H'=>Same H H'/\H' D=some (.lst zs)/\zs=(bE i true).map V.bl/\i<=xs.length/\∃ u v,σ=[u,v])
     ⟨zD hD _,zA,rfl,bw _,none,none,rfl⟩ (λi σ zs H' ⟨e,e2,_⟩=>⟨(keep H' e).1,(keep H' e).2,e2⟩) ?_ ?_⟩
    ·rintro i u v T σ zs H' hu hv hT ⟨e,e2,rfl,hi,o1,o2,rfl⟩;have hil:i<xs.length:=(aM.mp hu).1;have s2:=zD hT (.tup [u,v]);refine⟨T,[u,v],U,SqT.of zA,U,u,[v],U,v,[],U,U,_,U,_,U,u,v,U,(hel i u v hu hv).same (e.trans s2),λH4 s4=>?_⟩;have e4:=s4 _ _ (s2 _ _ e2);refine⟨e4,zV (by rw[aa,cV]; lia),λp o z=>?_,zA,?_,hil,_,_,rfl⟩
     ·rw[zG (zL z hD)];exact s4 _ _ (s2 _ _ (e _ _ z))
     ·rw[jp,aG];rfl
    ·rintro σ zs H' ⟨e,e2,rfl,hi,o1,o2,rfl⟩;exists D,bE (min xs.length ys.length) true,U,SqL.of e2;rw[show(bE (min xs.length ys.length) true).all id=true from by simp];exact q _ e
theorem zQz(F:Fun K "_law_same" "_law_same" zCk f fd)(Z:Zs mg)(bS:zCe K fd ["_law_told","_law_due_here"] [])(kS:b9 K (.ref f)=true)(mS:mg "_law_same" = some (.ref f)):yY P w K mg base CX0 6 f fd ["_law_told","_law_due_here"] (zGo K):=zN2 F Z bS kS mS 6
def zD0(_:ae)(x:af):Sp:=λvs H Q _=>∃ c:Cl,vs=[.ref x]/\H x=some (zU1 x (.ref (axC c)))/\∀ H',Same H H'->Q (.str (zK1 c)) H'
theorem zLv(F:Fun K "_law_refused" "_law_refused" qK f fd)(Z:Zs mg)(CB:Cb P w mg base)  : zTt P w K mg base 1 f fd ["_law_e"] (zD0 K):=by
 refine F.okH xA (λx vs H Q E h=>?_) (λx cdv A outer s H vs Q hx hr h=>?_)
 ·obtain⟨c,rfl,_⟩:=h;rfl
 obtain⟨c,rfl,ex,q⟩:=h;have mD:axC c∈excL:=by cases c <;> decide
 refine⟨_,(zC (qX (i:=1) xA.nd rfl (cT rfl) (vW (zB (xF (zB zJ (zB (zS (yK (B:=base) rfl) rfl Z.isinstance zX (zB (pv 0) (zB (vH CB.gBadName) zH))) zH))) (zB (xF (zB zJ (zB (zS (yK (B:=base) rfl) rfl Z.isinstance zX (zB (pv 0) (zB (vH CB.gTaken) zH))) zH))) (zB (xF (zB zJ (zB (zS (yK (B:=base) rfl) rfl Z.isinstance zX (zB (pv 0) (zB (vH CB.gBadPlace) zH))) zH))) zH)))))
   (zC (qX (i:=1) xA.nd rfl (cT rfl) (xO zAa (pv 1) (vW (zB (xF (zB zJ (zB (zS (yK (B:=base) rfl) rfl Z.isinstance zX (zB (pv 0) (zB (vH CB.gFull) zH))) zH))) (zB (xF (zB zJ (zB (zS (yK (B:=base) rfl) rfl Z.isinstance zX (zB (pv 0) (zB (vH CB.gNoMark) zH))) zH))) (zB (xF (zB zJ (zB (zS (yK (B:=base) rfl) rfl Z.isinstance zX (zB (pv 0) (zB (vH CB.gSame) zH))) zH))) zH))))))
   (zC (qX (i:=1) xA.nd rfl (cT rfl) (xO zAa (pv 1) (vW (zB (xF (zB zJ (zB (zS (yK (B:=base) rfl) rfl Z.isinstance zX (zB (pv 0) (zB (vH CB.gNeeded) zH))) zH))) (zB (xF (zB zJ (zB (zS (yK (B:=base) rfl) rfl Z.isinstance zX (zB (pv 0) (zB (vH CB.gBadBank) zH))) zH))) zH)))))
   (zC (qX (i:=1) xA.nd rfl (cT rfl) (xO zAa (pv 1) (vW (zB (xF (zB zJ (zB (zS (yK (B:=base) rfl) rfl Z.isinstance zX (zB (pv 0) (zB (vH CB.gNoBank) zH))) zH))) (zB (xF (zB zJ (zB (zS (yK (B:=base) rfl) rfl Z.isinstance zX (zB (pv 0) (zB (vH CB.gBadRun) zH))) zH))) (zB (xF (zB zJ (zB (zS (yK (B:=base) rfl) rfl Z.isinstance zX (zB (pv 0) (zB (vH CB.gNoRun) zH))) zH))) zH))))))
   (zC (qX (i:=1) xA.nd rfl (cT rfl) (xO zAa (pv 1) (vW (zB (xF (zB zJ (zB (zS (yK (B:=base) rfl) rfl Z.isinstance zX (zB (pv 0) (zB (vH CB.gNoMoment) zH))) zH))) (zB (xF (zB zJ (zB (zS (yK (B:=base) rfl) rfl Z.isinstance zX (zB (pv 0) (zB (vH CB.gBadWay) zH))) zH))) zH)))))
   (zC (qX (i:=1) xA.nd rfl (cT rfl) (xO zAa (pv 1) (vW (zB (xF (zB zJ (zB (zS (yK (B:=base) rfl) rfl Z.isinstance zX (zB (pv 0) (zB (vH CB.gBadTurn) zH))) zH))) (zB (xF (zB zJ (zB (zS (yK (B:=base) rfl) rfl Z.isinstance zX (zB (pv 0) (zB (vH CB.gNoNote) zH))) zH))) zH)))))
   (zC (qX (i:=1) xA.nd rfl (cT rfl) (xO zAa (pv 1) (vW (zB (xF (zB zJ (zB (zS (yK (B:=base) rfl) rfl Z.isinstance zX (zB (pv 0) (zB (vH CB.gNothingLeft) zH))) zH))) (zB (xF (zB zJ (zB (zS (yK (B:=base) rfl) rfl Z.isinstance zX (zB (pv 0) (zB (vH CB.gBadRow) zH))) zH))) zH)))))
   (zC (qX (i:=1) xA.nd rfl (cT rfl) (xO zAa (pv 1) (vW (zB (xF (zB zJ (zB (zVl (zS (yK (B:=base) rfl) rfl Z.isinstance zX (zB (pv 0) (zB (zBl (v:=.ty "ValueError") rfl Z.ValueError zIa rfl) zH)))) zH))) zH))))
   (zF (zN (zW1 iI i7 i8 zSx zJ (zB (zUb (T:=["_law_word_here","_law_is_so"]) (caps:=[]) ⟨rfl,by decide +kernel,by decide +kernel,rfl,bB⟩ hx (zT2 x (pv 1)) (λ_=>(zXz hx (yG (qB (i:=0) (show(["_law_word_here","_law_is_so"]:List az).Nodup by decide +kernel) rfl (cT rfl)) (yG (qB (i:=1) (show(["_law_word_here","_law_is_so"]:List az).Nodup by decide +kernel) rfl (cT rfl)) wY)))) (λ_=>(zTz (zA6 (pv 1)))) (λ_=>(pv 0))) zH)))))))))))),?_⟩
 try dsimp only[L2.cxOf]
 refine MkA.seqL (H:=H) (.cons (.of rfl λG Q s k=>⟨x,axC c,_,_,_,rfl,.inr ⟨_,rfl,rfl⟩,s _ _ ex,xT CB.isx mD (by decide),k⟩) (.cons (.of rfl λG Q s k=>⟨x,axC c,_,_,_,rfl,.inr ⟨_,rfl,rfl⟩,s _ _ ex,xT CB.isx mD (by decide),k⟩) (.cons (.of rfl λG Q s k=>⟨x,axC c,_,_,_,rfl,.inr ⟨_,rfl,rfl⟩,s _ _ ex,xT CB.isx mD (by decide),k⟩) .nil))) (aQ rfl) (Same.refl _) λso ts G S Lt R=>?_;refine MkA.seqC (H:=H) (.cons (.of rfl λG Q s k=>⟨x,axC c,_,_,_,rfl,.inr ⟨_,rfl,rfl⟩,s _ _ ex,xT CB.isx mD (by decide),k⟩) (.cons (.of rfl λG Q s k=>⟨x,axC c,_,_,_,rfl,.inr ⟨_,rfl,rfl⟩,s _ _ ex,xT CB.isx mD (by decide),k⟩) (.cons (.of rfl λG Q s k=>⟨x,axC c,_,_,_,rfl,.inr ⟨_,rfl,rfl⟩,s _ _ ex,xT CB.isx mD (by decide),k⟩) .nil))) (aQ rfl) S rfl Lt R (aQ rfl) λso ts G S Lt R=>?_;refine MkA.seqC (H:=H) (.cons (.of rfl λG Q s k=>⟨x,axC c,_,_,_,rfl,.inr ⟨_,rfl,rfl⟩,s _ _ ex,xT CB.isx mD (by decide),k⟩) (.cons (.of rfl λG Q s k=>⟨x,axC c,_,_,_,rfl,.inr ⟨_,rfl,rfl⟩,s _ _ ex,xT CB.isx mD (by decide),k⟩) .nil)) (aQ rfl) S rfl Lt R (aQ rfl) λso ts G S Lt R=>?_;refine MkA.seqC (H:=H) (.cons (.of rfl λG Q s k=>⟨x,axC c,_,_,_,rfl,.inr ⟨_,rfl,rfl⟩,s _ _ ex,xT CB.isx mD (by decide),k⟩) (.cons (.of rfl λG Q s k=>⟨x,axC c,_,_,_,rfl,.inr ⟨_,rfl,rfl⟩,s _ _ ex,xT CB.isx mD (by decide),k⟩) (.cons (.of rfl λG Q s k=>⟨x,axC c,_,_,_,rfl,.inr ⟨_,rfl,rfl⟩,s _ _ ex,xT CB.isx mD (by decide),k⟩) .nil))) (aQ rfl) S rfl Lt R (aQ rfl) λso ts G S Lt R=>?_;refine MkA.seqC (H:=H) (.cons (.of rfl λG Q s k=>⟨x,axC c,_,_,_,rfl,.inr ⟨_,rfl,rfl⟩,s _ _ ex,xT CB.isx mD (by decide),k⟩) (.cons (.of rfl λG Q s k=>⟨x,axC c,_,_,_,rfl,.inr ⟨_,rfl,rfl⟩,s _ _ ex,xT CB.isx mD (by decide),k⟩) .nil)) (aQ rfl) S rfl Lt R (aQ rfl) λso ts G S Lt R=>?_;refine MkA.seqC (H:=H) (.cons (.of rfl λG Q s k=>⟨x,axC c,_,_,_,rfl,.inr ⟨_,rfl,rfl⟩,s _ _ ex,xT CB.isx mD (by decide),k⟩) (.cons (.of rfl λG Q s k=>⟨x,axC c,_,_,_,rfl,.inr ⟨_,rfl,rfl⟩,s _ _ ex,xT CB.isx mD (by decide),k⟩) .nil)) (aQ rfl) S rfl Lt R (aQ rfl) λso ts G S Lt R=>?_;refine MkA.seqC (H:=H) (.cons (.of rfl λG Q s k=>⟨x,axC c,_,_,_,rfl,.inr ⟨_,rfl,rfl⟩,s _ _ ex,xT CB.isx mD (by decide),k⟩) (.cons (.of rfl λG Q s k=>⟨x,axC c,_,_,_,rfl,.inr ⟨_,rfl,rfl⟩,s _ _ ex,xT CB.isx mD (by decide),k⟩) .nil)) (aQ rfl) S rfl Lt R (aQ rfl) λso ts G S Lt R=>?_;refine MkA.seqC (H:=H) (.cons (x := "none") (b:=false) (λG K s k=>⟨_,rfl,x,axC c,.ty "ValueError",.type "ValueError",true,rfl,.inl ⟨_,rfl,rfl⟩,s _ _ ex,zX5 CB.isx mD,_,rfl,sz2,k⟩) .nil) (aQ rfl) S rfl Lt R (aQ rfl) λso ts G S Lt R=>?_;have lt:ts.length<=100:=by rw[R.len]; show 18<=100; decide
 have exG:=S _ _ ex;obtain⟨ws,ews⟩:∃ ws,ws=([(aO "BadName",axC c == wS),(aO "Taken",axC c == qF),(aO "BadPlace",axC c == wM),(aO "Full",axC c == zAn),(aO "NoMark",axC c == sP),(aO "Same",axC c == zBo),(aO "Needed",axC c == sK),(aO "BadBank",axC c == tL),(aO "NoBank",axC c == rV),(aO "BadRun",axC c == sF),(aO "NoRun",axC c == zAy),(aO "NoMoment",axC c == xU),(aO "BadWay",axC c == vJ),(aO "BadTurn",axC c == tM),(aO "NoNote",axC c == rW),(aO "NothingLeft",axC c == rB),(aO "BadRow",axC c == zFx),(aO "none",false)]:List (az×Bool)):=⟨_,rfl⟩
 replace R:zGq G ts ws:=by rw[ews]; exact R
 have wd:fL (aO " ") ((ws.filter (·.2)).map (·.1))=zK1 c:=by rw[ews]; clear ews R; cases c <;> kernel_rfl
 have l100:zC5 (aO " ") ((ws.filter (·.2)).map (·.1))<=1000:=by rw[ews]; clear ews R wd; cases c <;> decide +kernel
 clear ews;refine⟨U,_,U,so,U,⟨_,SqL.of Lt⟩,λcc D hD=>zPp (K:=K) (a:=so) (x:=x) (xs:=ts.map V.ref) (λi σ ys H'=>Same G H'/\H' D=some (.lst ys)/\ys=((ws.take i).filter (·.2)).map (λw=>V.str w.1)/\i<=ts.length/\∃ u v:Option V,σ=[u,v])
  ⟨zD hD _,zA,rfl,bw _,none,none,rfl⟩ (λi σ ys H' _ hP=>⟨SqL.of (hP.1 _ _ Lt),hP.2.1,⟨_,hP.1 _ _ exG⟩⟩) ?_ ?_⟩
 ·rintro i v σ ys H' gv ⟨sH,eD,rfl,hi,u1,u2,rfl⟩;rw[ak,aH] at gv;obtain⟨t,gt,rfl⟩:=gv;have hit:=(aM.mp gt).1;obtain⟨w,gw⟩:∃ w,ws[i]?=some w:=⟨_,aj (by rw[<- R.len]; exact hit)⟩;have et:=sH _ _ (R.at_ i t w gt gw);exists ⟨_,sH _ _ exG⟩,t,_,U,SqT.of et,U,.str w.1,_,U,.bl w.2,_,U,U,_,U,w.2,rfl;rw[bN,gw];cases hw:w.2 with
  | false=>exact yW ⟨sH,eD,by rw[jW]; simp[hw],hit,_,_,rfl⟩
  | true =>
   refine xP ⟨_,rfl,eD,zV ?_,sH.putNew hD,zA,by rw[jW,aG]; simp[hw],hit,_,_,rfl⟩;rw[aa];refine aD (dM _ _) ?_;rw[cm];lia
 ·rintro σ ys H' ⟨sH,eD,rfl,_,u1,u2,rfl⟩;rw[aa,R.len,b7] at eD;have e1:(ws.filter (·.2)).map (λw=>V.str w.1)=((ws.filter (·.2)).map (·.1)).map V.str:=by rw[bD]; rfl
  rw[e1] at eD;refine⟨aO " ",D,_,U,U,SqL.of eD,by show _<=2^24; lia,?_⟩;rw[wd];exact q H' (S.trans sH)
def zHu(_:ae):Sp:=λvs H Q _=>∃(d:af)(v:V)(S:BS)(D:Deed),vs=[.ref d,v]/\Rep H D.dt v/\zS6 H d S/\okD S D/\Few S/\zVh S /\
 ∀(d':af)(H':Hp),Same H H'->H d'=none->LwN H H' d' (aft S D)->Q (.ref d') H'
theorem zPt(F:Fun K "_law_after" "_law_after" zBz f fd)(Z:Zs mg)(CB:Cb P w mg base)  : yY P w K mg base CX0 1 f fd ["_law_m","_law_deed_here"] (zHu K):=by
 specialize zHs
 ·obtain⟨d,v,S,D,rfl,_⟩:=h;rfl
 obtain⟨d,v,S,D,rfl,rep,⟨m,b,r,n,lw⟩,ok,few,fr,q⟩:=h;obtain⟨mk,hm,km⟩:=lw.ma;obtain⟨bk,hb,kb⟩:=lw.ba;obtain⟨rs,hr1,kr⟩:=lw.ru;obtain⟨nk,hn,kn⟩:=lw.no;have lm:mk.length=S.marks.length:=by rw[km.length,zAh]
 have ln:nk.length=S.notes.length:=by rw[kn.length,zQa]
 have lr:rs.length=S.runs.length:=by rw[kr.length,aa]
 have fm:=few.ma;have fr':=few.ru;have fn:=few.no;have fb:=few.ba;have lb:bk.length=S.banks.length:=by rw[kb.length,zI0]
 have dg:∀{H':Hp}{k:az}{x:V},Same H H'->wF (lwK m b r n S.coming) (.inr k)=some x->zUz H' d (.str k) (some x):=λ{H' k x} s e=>.inl ⟨_,.inr k,Rd.same lw.at_ s,rfl,e.symm⟩
 refine'⟨_,(zC (yE 2 zHs.nd (zMw (xZ zJ (xE rN rfl Z.dict zBg (zB (zO (zW hr) (pv 0) zJ (λ_ _=>rfl)) zH)) (xZ zJ (xE rN rfl Z.dict zBg (zB (zO (zW hr) (pv 0) zJ (λ_ _=>rfl)) zH)) (xZ zJ (xE zD1 rfl Z.list zBj (zB (zO (zW hr) (pv 0) zJ (λ_ _=>rfl)) zH)) zL7))) rfl rfl (λz=>nomatch z) (by decide)))
   (zC (rH (zW hr) (pv 2) zJ (xE rN rfl Z.dict zBg (zB (zO (zW hr) (pv 0) zJ (λ_ _=>rfl)) zH)) rfl)
   (zC (rH (zW hr) (pv 2) zJ (zO (zW hr) (pv 0) zJ (λ_ _=>rfl)) rfl)
   (zC (zZ (yM rX ?_ ?_ (by with_unfolding_all rfl)) (zF (rH (zW hr) (zO (zW hr) (pv 2) zJ (λ_ _=>rfl)) ?_ (wV zD4 (pv 1) (vV yN) uQ) rfl)) (zF (zZ ?_ (zF (yD (zEn (zO (zW hr) (pv 2) zJ (λ_ _=>rfl)) ?_ ⟨rfl,rfl,rfl,rfl⟩))) (zF (zZ ?_ (zF (rH (zW hr) (zO (zW hr) (pv 2) zJ (λ_ _=>rfl)) ?_ ?_ rfl)) (zF (zZ ?_ (zF (yD (zEn (zO (zW hr) (pv 2) zJ (λ_ _=>rfl)) ?_ ⟨rfl,rfl,rfl,rfl⟩))) (zF (zZ ?_ (zF (yD (zJa (zO (zW hr) (pv 2) zJ (λ_ _=>rfl)) (zB (wV zD4 (pv 1) (vV yN) uQ) zH)))) (zF (zZ ?_ (zF (zB0 (wV zD4 (pv 1) (vV yN) uQ) (ya1 (zO (zW hr) (pv 2) zJ (λ_ _=>rfl)) ?_ zTu))) (zF (zZ ?_ (zF (yD (zEn (zO (zW hr) (pv 2) zJ (λ_ _=>rfl)) ?_ ⟨rfl,rfl,rfl,rfl⟩))) (zC (rH (zW hr) (zO (zW hr) (pv 2) zJ (λ_ _=>rfl)) (zO (zW hr) (pv 0) zJ (λ_ _=>rfl)) (pv 1) rfl)
   (zF (rH (zW hr) (pv 2) zJ (xO zA9 (zO (zW hr) (pv 0) zJ (λ_ _=>rfl)) yN) rfl))))))))))))))))
   (zF (zN (pv 2))))))),?_⟩
 nofun
 intro p hp;have s1:=zD hp (.dK []);refine⟨_,U,d,.ref m,U,dg s1 yS,m,mk,U,Rd.same hm s1,λmc hmc=>?_⟩;have s2:=s1.trans (zD hmc (.dK mk));refine⟨_,U,d,.ref b,U,dg s2 qJ,b,bk,U,Rd.same hb s2,λbc hbc=>?_⟩;have s3:=s2.trans (zD hbc (.dK bk));refine⟨_,U,d,.ref r,U,dg s3 uA,r,rs,U,.inl (SqL.of (s3 _ _ hr1)),λrc hrc=>?_⟩;have s4:=s3.trans (zD hrc (.lst rs));have ep1:upd H p (.dK []) p=some (.dK []):=zA;have npm:p≠mc:=zL ep1 hmc;have ep2:=(zD hmc (.dK mk)) _ _ ep1;have em2:upd (upd H p (.dK [])) mc (.dK mk) mc=some (.dK mk):=zA;have npb:p≠bc:=zL ep2 hbc;have nmb:mc≠bc:=zL em2 hbc;have ep3:=(zD hbc (.dK bk)) _ _ ep2;have em3:=(zD hbc (.dK bk)) _ _ em2;have eb3:upd (upd (upd H p (.dK [])) mc (.dK mk)) bc (.dK bk) bc=some (.dK bk):=zA;have npr:p≠rc:=zL ep3 hrc;have nmr:mc≠rc:=zL em3 hrc;have nbr:bc≠rc:=zL eb3 hrc;have ep4:=(zD hrc (.lst rs)) _ _ ep3;have em4:=(zD hrc (.lst rs)) _ _ em3;have eb4:=(zD hrc (.lst rs)) _ _ eb3;have er4:upd (upd (upd (upd H p (.dK [])) mc (.dK mk)) bc (.dK bk)) rc (.lst rs) rc=some (.lst rs):=zA;generalize upd (upd (upd (upd H p (.dK [])) mc (.dK mk)) bc (.dK bk)) rc (.lst rs)=H4 at s4 ep4 em4 eb4 er4;exists ep4,[(.inr "marks",.ref mc),(.inr "banks",.ref bc),(.inr "runs",.ref rc)],U,(show 3<=15 by decide);rw[zRy];have s5:Same H (upd H4 p (.dK [(.inr "marks",.ref mc),(.inr "banks",.ref bc),(.inr "runs",.ref rc)])):=λx o e=>by rw[zG (zL e hp)]; exact s4 x o e
 refine⟨_,U,d,.ref n,U,dg s5 uT,n,nk,U,Rd.same hn s5,λnc hnc=>?_⟩;have npn:p≠nc:=zL zA hnc;have hnc4:H4 nc=none:=by rw[zG npn.symm] at hnc; exact hnc
 have nmn:mc≠nc:=zL em4 hnc4;have nbn:bc≠nc:=zL eb4 hnc4;have nrn:rc≠nc:=zL er4 hnc4;have s6:=s5.trans (zD hnc (.dK nk));exists _,U,p,_,U,zK3.k (k:=.inr "notes") (by rw[zG npn,zA]) (zV (by show 3<=1000; decide));rw[zYi];have s7:Same H (upd (upd (upd H4 p (.dK [(.inr "marks",.ref mc),(.inr "banks",.ref bc),(.inr "runs",.ref rc)])) nc (.dK nk)) p (.dK [(.inr "marks",.ref mc),(.inr "banks",.ref bc),(.inr "runs",.ref rc),(.inr "notes",.ref nc)])):=λx o e=>by rw[zG (zL e hp)]; exact s6 x o e
 exists _,U,d,.int S.coming,U,dg s7 zAg,_,U,p,_,U,zK3.k (k:=.inr "next") zA (zV (by show 4<=1000; decide));rw[zYs];have keep:∀ x o,x≠p->x≠nc->H4 x=some o->upd (upd (upd (upd H4 p (.dK [(.inr "marks",.ref mc),(.inr "banks",.ref bc),(.inr "runs",.ref rc)])) nc (.dK nk)) p (.dK [(.inr "marks",.ref mc),(.inr "banks",.ref bc),(.inr "runs",.ref rc),(.inr "notes",.ref nc)])) p (.dK [(.inr "marks",.ref mc),(.inr "banks",.ref bc),(.inr "runs",.ref rc),(.inr "notes",.ref nc),(.inr "next",.int S.coming)]) x=some o:=λx o h1 h2 e=>by
  rw[zG h1,zG h1,zG h2,zG h1]; exact e
 have em:=keep _ _ npm.symm nmn em4;have eb:=keep _ _ npb.symm nbn eb4;have er:=keep _ _ npr.symm nrn er4;have s8:Same H _:=λx o e=>keep x o (zL e hp) (zL (s5 _ _ e) hnc) (s4 _ _ e);have en:upd (upd (upd (upd H4 p (.dK [(.inr "marks",.ref mc),(.inr "banks",.ref bc),(.inr "runs",.ref rc)])) nc (.dK nk)) p (.dK [(.inr "marks",.ref mc),(.inr "banks",.ref bc),(.inr "runs",.ref rc),(.inr "notes",.ref nc)])) p (.dK [(.inr "marks",.ref mc),(.inr "banks",.ref bc),(.inr "runs",.ref rc),(.inr "notes",.ref nc),(.inr "next",.int S.coming)]) nc=some (.dK nk):=by rw[zG npn.symm,zG npn.symm,zA]
 have ep:upd (upd (upd (upd H4 p (.dK [(.inr "marks",.ref mc),(.inr "banks",.ref bc),(.inr "runs",.ref rc)])) nc (.dK nk)) p (.dK [(.inr "marks",.ref mc),(.inr "banks",.ref bc),(.inr "runs",.ref rc),(.inr "notes",.ref nc)])) p (.dK [(.inr "marks",.ref mc),(.inr "banks",.ref bc),(.inr "runs",.ref rc),(.inr "notes",.ref nc),(.inr "next",.int S.coming)]) p=some (.dK [(.inr "marks",.ref mc),(.inr "banks",.ref bc),(.inr "runs",.ref rc),(.inr "notes",.ref nc),(.inr "next",.int S.coming)]):=zA;clear keep s7 s6;generalize upd (upd (upd (upd H4 p (.dK [(.inr "marks",.ref mc),(.inr "banks",.ref bc),(.inr "runs",.ref rc)])) nc (.dK nk)) p (.dK [(.inr "marks",.ref mc),(.inr "banks",.ref bc),(.inr "runs",.ref rc),(.inr "notes",.ref nc)])) p (.dK [(.inr "marks",.ref mc),(.inr "banks",.ref bc),(.inr "runs",.ref rc),(.inr "notes",.ref nc),(.inr "next",.int S.coming)])=H8 at s8 ep em eb er en ⊢;have ep:H8 p=some (.dK (lwK mc bc rc nc S.coming)):=ep;have km8:=km.to (.of s8);have kb8:=kb.to (.of s8);have kr8:=kr.to (.of s8);have kn8:=kn.to (.of s8);have rep8:=rep.to (.of s8);have nmH:H mc=none:=s1.free hmc;have nrH:H rc=none:=s3.free hrc;have nbH:H bc=none:=s2.free hbc;have nnH:H nc=none:=s5.free hnc;obtain⟨t,xs,rfl,ht⟩:=zMm rep8;refine⟨_,U,t,_,0,.str (zFa D),U,U,.inr (SqT.of ht),vQ (xs:=.str (zFa D)::xs) (j:=0) rfl,sz2,λz hz=>?_⟩;have sz:=zD hz (.tup [.str "mark",.str "move"]);exists z,_,U,.inr (SqT.of zA),U,U,_,rfl;have s9:=s8.trans sz;have ep9:=sz _ _ ep;have em9:=sz _ _ em;have eb9:=sz _ _ eb;have er9:=sz _ _ er;have en9:=sz _ _ en;have km9:=km8.to (.of sz);have kb9:=kb8.to (.of sz);have kr9:=kr8.to (.of sz);have kn9:=kn8.to (.of sz);have rep9:=rep8.to (.of sz);generalize upd H8 z (.tup [.str "mark",.str "move"])=H9 at s9 ep9 em9 eb9 er9 en9 km9 kb9 kr9 kn9 rep9 ⊢
 match D,rep9,ok,q with
 | .mark nm x y,rep9,ok,q =>
  obtain⟨_,e0,ht9⟩:=zIy rep9;cases e0;have tq:Sq K H9 t _:=.inr (SqT.of ht9);refine xP ?_;refine⟨_,U,_,U,t,_,U,SqT.of ht9,(λz=>absurd z.1 (by show ¬ HT.sIx 4 0 (some 2)=0; decide)),λc hc=>?_⟩;have sc:=zD hc (.tup [.int x,.int y]);have em10:=sc _ _ em9;exists _,U,p,.ref mc,U,.inl ⟨_,.inr "marks",.inl (sc _ _ ep9),U,yS.symm⟩,_,U,t,_,1,.str nm,U,U,.inr (SqT.of (sc _ _ ht9)),U,mc,_,U,zK3.k (k:=.inr nm) em10 (zV (by lia)),_,rfl;have sE:=sI (o:=.dK (rF mk (.inr nm) (.ref c))) em10;have np:=zGy em10;refine q p _ (λx o e=>by rw[zG (zL e nmH)]; exact sc _ _ (s9 _ _ e)) hp ⟨mc,bc,rc,nc,nrH,.inl ?_,⟨_,.inl zA,?_⟩,⟨bk,.inl ?_,(kb9.to (.of sc)).sam sE np⟩,⟨rs,?_,(kr9.to (.of sc)).sam sE np⟩,⟨nk,.inl ?_,(kn9.to (.of sc)).sam sE np⟩⟩
  ·rw[zG npm]; exact sc _ _ ep9
  ·have:=((km9.to (.of sc)).put (k:=.inr nm) (tW (p:=(x,y)) zA)).sam sE np;rw[rA (zNy ok.2.1)] at this;show xM _ _ (mkE (S.marks++[(nm,x,y)]));rw[zQ8];exact this
  ·rw[zG nmb.symm]; exact sc _ _ eb9
  ·rw[zG nmr.symm]; exact sc _ _ er9
  ·rw[zG nmn.symm]; exact sc _ _ en9
 | .move nm x y,rep9,ok,q =>
  obtain⟨_,e0,ht9⟩:=zIm rep9;cases e0;have tq:Sq K H9 t _:=.inr (SqT.of ht9);refine xP ?_;refine⟨_,U,_,U,t,_,U,SqT.of ht9,(λz=>absurd z.1 (by show ¬ HT.sIx 4 0 (some 2)=0; decide)),λc hc=>?_⟩;have sc:=zD hc (.tup [.int x,.int y]);have em10:=sc _ _ em9;exists _,U,p,.ref mc,U,.inl ⟨_,.inr "marks",.inl (sc _ _ ep9),U,yS.symm⟩,_,U,t,_,1,.str nm,U,U,.inr (SqT.of (sc _ _ ht9)),U,mc,_,U,zK3.k (k:=.inr nm) em10 (zV (by lia)),_,rfl;have sE:=sI (o:=.dK (rF mk (.inr nm) (.ref c))) em10;have np:=zGy em10;refine q p _ (λx o e=>by rw[zG (zL e nmH)]; exact sc _ _ (s9 _ _ e)) hp ⟨mc,bc,rc,nc,nrH,.inl ?_,⟨_,.inl zA,?_⟩,⟨bk,.inl ?_,(kb9.to (.of sc)).sam sE np⟩,⟨rs,?_,(kr9.to (.of sc)).sam sE np⟩,⟨nk,.inl ?_,(kn9.to (.of sc)).sam sE np⟩⟩
  ·rw[zG npm]; exact sc _ _ ep9
  ·have:=((km9.to (.of sc)).put (k:=.inr nm) (tW (p:=(x,y)) zA)).sam sE np;rw[zS1 ok.1] at this;exact this
  ·rw[zG nmb.symm]; exact sc _ _ eb9
  ·rw[zG nmr.symm]; exact sc _ _ er9
  ·rw[zG nmn.symm]; exact sc _ _ en9
 | .unmark nm,rep9,ok,q =>
  obtain⟨_,e0,ht9⟩:=zCu rep9;cases e0;have tq:Sq K H9 t _:=.inr (SqT.of ht9);refine yW ?_;exists _,U,t,_,0,.str "unmark",U,U,tq,U,U,_,rfl;refine xP ?_;obtain⟨pm,epm⟩:=aL.mp ok.1;obtain⟨v,ev,_⟩:=km9.get (k:=.inr nm) (d:=ptD pm) (by rw[wN,epm]; rfl);exists _,U,p,.ref mc,U,.inl ⟨_,.inr "marks",.inl ep9,U,yS.symm⟩,mc,U,.inl ⟨mk,.inl em9⟩,_,U,t,_,1,.str nm,U,U,tq,U,mk,.inr nm,v,em9,U,ev,_,rfl;have sE:=sI (o:=.dK (zEi mk (.inr nm))) em9;have np:=zGy em9;refine q p _ (λx o e=>by rw[zG (zL e nmH)]; exact s9 _ _ e) hp ⟨mc,bc,rc,nc,nrH,.inl ?_,⟨_,.inl zA,?_⟩,⟨bk,.inl ?_,kb9.sam sE np⟩,⟨rs,?_,kr9.sam sE np⟩,⟨nk,.inl ?_,kn9.sam sE np⟩⟩
  ·rw[zG npm]; exact ep9
  ·have:=(km9.drop (k:=.inr nm)).sam sE np;rw[zNn] at this;exact this
  ·rw[zG nmb.symm]; exact eb9
  ·rw[zG nmr.symm]; exact er9
  ·rw[zG nmn.symm]; exact en9
 | .bank nm cs,rep9,ok,q =>
  obtain⟨_,cc,ps,e0,ht9,hcc,cn,rc0⟩:=zFi rep9;cases e0;have tq:Sq K H9 t _:=.inr (SqT.of ht9);refine yW ?_;exists _,U,t,_,0,.str "bank",U,U,tq,U,U,_,rfl;refine yW ?_;exists _,U,t,_,0,.str "bank",U,U,tq,U,U,_,rfl;refine xP ?_;obtain⟨_,_,_,e0,h0,_,_,rc9⟩:=zFi rep9;cases e0;rw[ht9] at h0;cases h0;exists _,U,t,_,2,.ref cc,U,U,tq,U,_,U,p,.ref bc,U,.inl ⟨_,.inr "banks",.inl ep9,U,qJ.symm⟩,_,U,t,_,1,.str nm,U,U,tq,U,bc,_,U,zK3.k (k:=.inr nm) eb9 (zV (by lia)),_,rfl;have sE:=sI (o:=.dK (rF bk (.inr nm) (.ref cc))) eb9;have np:=zGy eb9;refine q p _ (λx o e=>by rw[zG (zL e nbH)]; exact s9 _ _ e) hp ⟨mc,bc,rc,nc,nrH,.inl ?_,⟨mk,.inl ?_,km9.sam sE np⟩,⟨_,.inl zA,?_⟩,⟨rs,?_,kr9.sam sE np⟩,⟨nk,.inl ?_,kn9.sam sE np⟩⟩
  ·rw[zG npb]; exact ep9
  ·rw[zG nmb]; exact em9
  ·have:=(kb9.put (k:=.inr nm) rc9).sam sE np;rw[rA (zH8 ok.2.1)] at this;show xM _ _ (bkE (S.banks++[(nm,cs)]));rw[zSz];exact this
  ·rw[zG nbr.symm]; exact er9
  ·rw[zG nbn.symm]; exact en9
 | .level nm,rep9,ok,q =>
  obtain⟨_,e0,ht9⟩:=zEp rep9;cases e0;have tq:Sq K H9 t _:=.inr (SqT.of ht9);refine yW ?_;exists _,U,t,_,0,.str "level",U,U,tq,U,U,_,rfl;refine yW ?_;exists _,U,t,_,0,.str "level",U,U,tq,U,U,_,rfl;refine yW ?_;exists _,U,t,_,0,.str "level",U,U,tq,U,U,_,rfl;refine xP ?_;obtain⟨dv,lk⟩:=zWb (l:=S.banks) ok;obtain⟨v,ev,_⟩:=kb9.get lk;exists _,U,p,.ref bc,U,.inl ⟨_,.inr "banks",.inl ep9,U,qJ.symm⟩,bc,U,.inl ⟨bk,.inl eb9⟩,_,U,t,_,1,.str nm,U,U,tq,U,bk,.inr nm,v,eb9,U,ev,_,rfl;have sE:=sI (o:=.dK (zEi bk (.inr nm))) eb9;have np:=zGy eb9;refine q p _ (λx o e=>by rw[zG (zL e nbH)]; exact s9 _ _ e) hp ⟨mc,bc,rc,nc,nrH,.inl ?_,⟨mk,.inl ?_,km9.sam sE np⟩,⟨_,.inl zA,?_⟩,⟨rs,?_,kr9.sam sE np⟩,⟨nk,.inl ?_,kn9.sam sE np⟩⟩
  ·rw[zG npb]; exact ep9
  ·rw[zG nmb]; exact em9
  ·have:=(kb9.drop (k:=.inr nm)).sam sE np;rw[zOg] at this;exact this
  ·rw[zG nbr.symm]; exact er9
  ·rw[zG nbn.symm]; exact en9
 | .right k x y,rep9,ok,q =>
  obtain⟨_,e0,ht9⟩:=zEu rep9;cases e0;have tq:Sq K H9 t _:=.inr (SqT.of ht9);refine yW ?_;exists _,U,t,_,0,.str "right",U,U,tq,U,U,_,rfl;refine yW ?_;exists _,U,t,_,0,.str "right",U,U,tq,U,U,_,rfl;refine yW ?_;exists _,U,t,_,0,.str "right",U,U,tq,U,U,_,rfl;refine yW ?_;exists _,U,t,_,0,.str "right",U,U,tq,U,U,_,rfl;refine yW ?_;exists _,U,t,_,0,.str "right",U,U,tq,U,U,_,rfl;refine xP ?_;refine⟨_,U,_,U,t,_,U,SqT.of ht9,(λz=>absurd z.1 (by show ¬ HT.sIx 4 0 (some 2)=0; decide)),λc hc=>?_⟩;have sc:=zD hc (.tup [.int x,.int y]);have er10:=sc _ _ er9;obtain⟨i,rfl⟩:=cy ok.1;have hi:i<S.runs.length:=by have:=ok.2.1; lia
  exists _,U,p,.ref rc,U,.inl ⟨_,.inr "runs",.inl (sc _ _ ep9),U,uA.symm⟩,_,U,t,_,1,.int (i:Int),U,U,.inr (SqT.of (sc _ _ ht9)),U,rc,rs,(i:Int),i,U,U,er10,zZx (by rw[lr]; exact hi),_,rfl;have sE:=sI (o:=.lst (rs.set i (.ref c))) er10;have np:=zRr er10;refine q p _ (λx o e=>by rw[zG (zL e nrH)]; exact sc _ _ (s9 _ _ e)) hp ⟨mc,bc,rc,nc,nrH,.inl ?_,⟨mk,.inl ?_,(km9.to (.of sc)).sam sE np⟩,⟨bk,.inl ?_,(kb9.to (.of sc)).sam sE np⟩,⟨_,zA,?_⟩,⟨nk,.inl ?_,(kn9.to (.of sc)).sam sE np⟩⟩
  ·rw[zG npr]; exact sc _ _ ep9
  ·rw[zG nmr]; exact sc _ _ em9
  ·rw[zG nbr]; exact sc _ _ eb9
  ·show wG _ ((S.runs.set i (x,y)).map ptD) _;rw[List.map_set];exact(wG.set (tW (p:=(x,y)) zA) i (kr9.to (.of sc))).sam sE np
  ·rw[zG nrn.symm]; exact sc _ _ en9
 | .sail x y,rep9,ok,q =>
  obtain⟨_,e0,ht9⟩:=zJc rep9;cases e0;have tq:Sq K H9 t _:=.inr (SqT.of ht9);refine yW ?_;exists _,U,t,_,0,.str "sail",U,U,tq,U,U,_,rfl;refine yW ?_;exists _,U,t,_,0,.str "sail",U,U,tq,U,U,_,rfl;refine yW ?_;exists _,U,t,_,0,.str "sail",U,U,tq,U,U,_,rfl;refine yW ?_;exists _,U,t,_,0,.str "sail",U,U,tq,U,U,_,rfl;refine xP ?_;refine⟨_,U,p,.ref rc,U,.inl ⟨_,.inr "runs",.inl ep9,U,uA.symm⟩,.inl ⟨U,_,SqL.of er9⟩,_,U,_,U,t,_,U,SqT.of ht9,(λz=>absurd z.1 (by show ¬ HT.sIx 3 0 (some 1)=0; decide)),λc hc=>?_⟩;have sc:=zD hc (.tup [.int x,.int y]);have er10:=sc _ _ er9;exists rc,_,.ref c,U,U,er10,zV (by lia),_,rfl;have sE:=sI (o:=.lst (rs++[.ref c])) er10;have np:=zRr er10;refine q p _ (λx o e=>by rw[zG (zL e nrH)]; exact sc _ _ (s9 _ _ e)) hp ⟨mc,bc,rc,nc,nrH,.inl ?_,⟨mk,.inl ?_,(km9.to (.of sc)).sam sE np⟩,⟨bk,.inl ?_,(kb9.to (.of sc)).sam sE np⟩,⟨_,zA,?_⟩,⟨nk,.inl ?_,(kn9.to (.of sc)).sam sE np⟩⟩
  ·rw[zG npr]; exact sc _ _ ep9
  ·rw[zG nmr]; exact sc _ _ em9
  ·rw[zG nbr]; exact sc _ _ eb9
  ·show wG _ ((S.runs++[(x,y)]).map ptD) _;rw[aG];exact(wG.app (kr9.to (.of sc)) (.one (tW (p:=(x,y)) zA))).sam sE np
  ·rw[zG nrn.symm]; exact sc _ _ en9
 | .bearing mo nm x1 y1 x2 y2,rep9,ok,q =>
  obtain⟨_,_,_,e0,ht9,_⟩:=wP rep9;cases e0;have tq:Sq K H9 t _:=.inr (SqT.of ht9);refine yW ?_;exists _,U,t,_,0,.str "bearing",U,U,tq,U,U,_,rfl;refine yW ?_;exists _,U,t,_,0,.str "bearing",U,U,tq,U,U,_,rfl;refine yW ?_;exists _,U,t,_,0,.str "bearing",U,U,tq,U,U,_,rfl;refine yW ?_;exists _,U,t,_,0,.str "bearing",U,U,tq,U,U,_,rfl;refine yW ?_;exists _,U,t,_,0,.str "bearing",U,U,tq,U,U,_,rfl;refine yW ?_;exists _,U,t,_,0,.str "bearing",U,U,tq,U,U,_,rfl;refine yW ?_;exists _,U,_,U,p,.ref nc,U,.inl ⟨_,.inr "notes",.inl ep9,U,uT.symm⟩,_,U,d,.int S.coming,U,dg s9 zAg,nc,_,U,zK3.k (k:=.inl S.coming) en9 (zV (by lia));have sE:=sI (o:=.dK (rF nk (.inl S.coming) (.ref t))) en9;have np:=zGy en9;have s10:Same H (upd H9 nc (.dK (rF nk (.inl S.coming) (.ref t)))):=λx o e=>by rw[zG (zL e nnH)]; exact s9 _ _ e
  have ep10:upd H9 nc (.dK (rF nk (.inl S.coming) (.ref t))) p=some (.dK (lwK mc bc rc nc S.coming)):=by rw[zG npn]; exact ep9
  exists _,U,d,.int S.coming,U,dg s10 zAg,_,_,U,U,_,U,p,_,U,zK3.k (k:=.inr "next") ep10 (zV (by show 5<=1000; decide)),_,rfl;rw[zGn];have sE2:=sI (o:=.dK (lwK mc bc rc nc (S.coming+1))) ep10;have np2:=zGy ep10;refine q p _ (λx o e=>by rw[zG (zL e hp)]; exact s10 _ _ e) hp ⟨mc,bc,rc,nc,nrH,.inl zA,⟨mk,.inl ?_,(km9.sam sE np).sam sE2 np2⟩,⟨bk,.inl ?_,(kb9.sam sE np).sam sE2 np2⟩,⟨rs,?_,(kr9.sam sE np).sam sE2 np2⟩,⟨rF nk (.inl S.coming) (.ref t),.inl ?_,?_⟩⟩
  ·rw[zG npm.symm,zG nmn]; exact em9
  ·rw[zG npb.symm,zG nbn]; exact eb9
  ·rw[zG npr.symm,zG nrn]; exact er9
  ·rw[zG npn.symm,zA]
  ·have:=((kn9.put (k:=.inl S.coming) rep9).sam sE np).sam sE2 np2;rw[rA (zI5 fr)] at this;show xM _ _ (ntE (S.notes++[(S.coming,_)]));rw[zMp];exact this
 | .range mo l1 r1,rep9,ok,q =>
  obtain⟨_,e0,ht9⟩:=sW rep9;cases e0;have tq:Sq K H9 t _:=.inr (SqT.of ht9);refine yW ?_;exists _,U,t,_,0,.str "range",U,U,tq,U,U,_,rfl;refine yW ?_;exists _,U,t,_,0,.str "range",U,U,tq,U,U,_,rfl;refine yW ?_;exists _,U,t,_,0,.str "range",U,U,tq,U,U,_,rfl;refine yW ?_;exists _,U,t,_,0,.str "range",U,U,tq,U,U,_,rfl;refine yW ?_;exists _,U,t,_,0,.str "range",U,U,tq,U,U,_,rfl;refine yW ?_;exists _,U,t,_,0,.str "range",U,U,tq,U,U,_,rfl;refine yW ?_;exists _,U,_,U,p,.ref nc,U,.inl ⟨_,.inr "notes",.inl ep9,U,uT.symm⟩,_,U,d,.int S.coming,U,dg s9 zAg,nc,_,U,zK3.k (k:=.inl S.coming) en9 (zV (by lia));have sE:=sI (o:=.dK (rF nk (.inl S.coming) (.ref t))) en9;have np:=zGy en9;have s10:Same H (upd H9 nc (.dK (rF nk (.inl S.coming) (.ref t)))):=λx o e=>by rw[zG (zL e nnH)]; exact s9 _ _ e
  have ep10:upd H9 nc (.dK (rF nk (.inl S.coming) (.ref t))) p=some (.dK (lwK mc bc rc nc S.coming)):=by rw[zG npn]; exact ep9
  exists _,U,d,.int S.coming,U,dg s10 zAg,_,_,U,U,_,U,p,_,U,zK3.k (k:=.inr "next") ep10 (zV (by show 5<=1000; decide)),_,rfl;rw[zGn];have sE2:=sI (o:=.dK (lwK mc bc rc nc (S.coming+1))) ep10;have np2:=zGy ep10;refine q p _ (λx o e=>by rw[zG (zL e hp)]; exact s10 _ _ e) hp ⟨mc,bc,rc,nc,nrH,.inl zA,⟨mk,.inl ?_,(km9.sam sE np).sam sE2 np2⟩,⟨bk,.inl ?_,(kb9.sam sE np).sam sE2 np2⟩,⟨rs,?_,(kr9.sam sE np).sam sE2 np2⟩,⟨rF nk (.inl S.coming) (.ref t),.inl ?_,?_⟩⟩
  ·rw[zG npm.symm,zG nmn]; exact em9
  ·rw[zG npb.symm,zG nbn]; exact eb9
  ·rw[zG npr.symm,zG nrn]; exact er9
  ·rw[zG npn.symm,zA]
  ·have:=((kn9.put (k:=.inl S.coming) rep9).sam sE np).sam sE2 np2;rw[rA (zI5 fr)] at this;show xM _ _ (ntE (S.notes++[(S.coming,_)]));rw[zMp];exact this
 | .strike k,rep9,ok,q =>
  obtain⟨_,e0,ht9⟩:=zCg rep9;cases e0;have tq:Sq K H9 t _:=.inr (SqT.of ht9);refine yW ?_;exists _,U,t,_,0,.str "strike",U,U,tq,U,U,_,rfl;refine yW ?_;exists _,U,t,_,0,.str "strike",U,U,tq,U,U,_,rfl;refine yW ?_;exists _,U,t,_,0,.str "strike",U,U,tq,U,U,_,rfl;refine yW ?_;exists _,U,t,_,0,.str "strike",U,U,tq,U,U,_,rfl;refine yW ?_;exists _,U,t,_,0,.str "strike",U,U,tq,U,U,_,rfl;refine yW ?_;exists _,U,t,_,0,.str "strike",U,U,tq,U,U,_,rfl;refine xP ?_;obtain⟨dv,lk⟩:=zOo (l:=S.notes) ok;obtain⟨v,ev,_⟩:=kn9.get lk;exists _,U,p,.ref nc,U,.inl ⟨_,.inr "notes",.inl ep9,U,uT.symm⟩,nc,U,.inl ⟨nk,.inl en9⟩,_,U,t,_,1,.int k,U,U,tq,U,nk,.inl k,v,en9,U,ev,_,rfl;have sE:=sI (o:=.dK (zEi nk (.inl k))) en9;have np:=zGy en9;refine q p _ (λx o e=>by rw[zG (zL e nnH)]; exact s9 _ _ e) hp ⟨mc,bc,rc,nc,nrH,.inl ?_,⟨mk,.inl ?_,km9.sam sE np⟩,⟨bk,.inl ?_,kb9.sam sE np⟩,⟨rs,?_,kr9.sam sE np⟩,⟨_,.inl zA,?_⟩⟩
  ·rw[zG npn]; exact ep9
  ·rw[zG nmn]; exact em9
  ·rw[zG nbn]; exact eb9
  ·rw[zG nrn]; exact er9
  ·have:=(kn9.drop (k:=.inl k)).sam sE np;rw[zNp] at this;exact this
def mkT(e:az×Int×Int):Key×List V:=(.inr e.1,[.int e.2.1,.int e.2.2])
theorem zWc{H:Hp}{l:List (az×Int×Int)}{ts:List (af×Key×List V)}(e:ts.map (·.2)=l.map mkT)(at_:∀ t∈ts,H t.1=some (.tup (kV t.2.1::t.2.2))):∀ o:List Nat,wG H ((vG o l).map mkD) ((vG o (ts.map (·.1))).map V.ref)
 | []=>yH.mpr rfl
 | i::o=>by
  have ih:=zWc e at_ o;have ei:=congrArg (·[i]?) e;simp only[ak] at ei;rw[zB5] at ih ⊢;unfold vG at ih ⊢;cases gt:ts[i]? with
  | none =>
   rw[gt] at ei;have gl:l[i]?=none:=by cases h:l[i]? <;> simp[h] at ei ⊢
   rw[cJ gt,cJ gl];exact ih
  | some t =>
   rw[gt] at ei;obtain⟨x,gl,ex⟩:=aH.mp ei.symm;rw[cr gt,cr gl];have h:=at_ t (aJ gt);rw[show t.2=mkT x from ex.symm] at h;exact zK.mpr ⟨_,_,rfl,yJ.mpr ⟨_,_,rfl,h,zK.mpr ⟨_,_,rfl,zY.mpr rfl,.two (yB.mpr rfl) (yB.mpr rfl)⟩⟩,ih⟩
def zCa(_:ae):Sp:=λvs H Q _=>∃(d:af)(S:BS),vs=[.ref d]/\zS6 H d S/\zEr S /\
 ∀(c:af)(zs:List V)(H':Hp),Sam H H'->H' c=some (.lst zs)->wG H' (zPx S) zs->Q (.ref c) H'
theorem zH4(F:Fun K "_law_marks_of" "_law_marks_of" sX f fd)(Z:Zs mg)(CB:Cb P w mg base)  : yY P w K mg base CX0 1 f fd ["_law_m"] (zCa K):=by
 specialize zI3
 ·obtain⟨d,S,rfl,_⟩:=h;rfl
 obtain⟨d,S,rfl,⟨m,b,r,n,lw⟩,nt,q⟩:=h;obtain⟨kvs,hm,kv⟩:=lw.ma;have lk:kvs.length=S.marks.length:=by rw[kv.length,zAh]
 have fm:=nt.well.good.few.ma
 refine'⟨_,(zF (zN (zS zAd rfl Z.sorted vL (zB (tT (T:=["_law_name","_law_place"]) (caps:=[]) ⟨rfl,by decide +kernel,by decide +kernel,rfl,bB⟩ rfl (zVf (zO (zW hr) (pv 0) zJ (λ_ _=>rfl))) (λ_=>(rM rfl (yG (rO 0 (show(["_law_name","_law_place"]:List az).Nodup by decide +kernel)) (yG (rO 1 (show(["_law_name","_law_place"]:List az).Nodup by decide +kernel)) wY)))) (λ_=>uG) (λ_=>?_)) zH)))),?_⟩
 nofun
 refine⟨_,U,d,.ref m,U,.inl ⟨_,.inr "marks",lw.at_,U,yS.symm⟩,m,kvs,U,hm,λo H2 fz cc D hD=>?_⟩;have sf:Sam H H2:=zFc hm fz;have kv2:=kv.to sf;have npD:∀ b xs,H2 b=some (.tup xs)->¬ b=D:=λb xs e z=>by rw[z,hD] at e; cases e
 refine zXm (λi σ zs H'=>xX (λx=>x=D) H2 H'/\H' D=some (.lst zs)/\(∃ ts:List (af×Key×List V),zs=(ts.map (·.1)).map V.ref/\ts.map (·.2)=(S.marks.take i).map mkT/\∀ t∈ts,H' t.1=some (.tup (kV t.2.1::t.2.2)))/\∃ u0 u1:Option V,σ=[u0,u1])
  ⟨.of (zD hD _),zA,⟨[],rfl,rfl,λt ht=>(nomatch ht)⟩,none,none,rfl⟩ (λi σ zs H' hP=>⟨zN5 hP.1 (λz=>by have:=fz.1; rw[z,hD] at this; cases this) fz.1,hP.2.1⟩) ?_ ?_
 ·rintro i e T σ zs H' ge hT ⟨sD,eD,⟨ts,rfl,et,at_⟩,u0,u1,rfl⟩;have sT:=zD hT (.tup [kV e.1,e.2]);obtain⟨dt,gd,rd⟩:=(kv2.sam sD npD).at ge;unfold mkE at gd;rw[ak,aH] at gd;obtain⟨em,gm,eq⟩:=gd;injection eq with e1 e2
  subst e2;obtain⟨a,ea,ha⟩:=zBf rd;have li:i<60:=by have:=(aM.mp gm).1; lia
  have lt:ts.length=i:=by
   have:=congrArg cM et;rw[aa,aa,cm] at this;have:=(aM.mp gm).1;lia
  exists _,_,U,SqT.of zA,U,_,_,U,_,_,U,rfl;rw[ea,<- e1];rw[ea,<- e1] at sT;have ha1:=sT _ _ ha;have aq:Sq K (upd H' T (.tup [kV (.inr em.1),.ref a])) a [.int em.2.1,.int em.2.2]:=.inr (SqT.of ha1);refine⟨_,U,_,U,a,_,0,.int em.2.1,U,U,aq,U,_,U,a,_,1,.int em.2.2,U,U,aq,U,sz3,λt3 ht3=>?_⟩;have s3:=zD ht3 (.tup [.str em.1,.int em.2.1,.int em.2.2]);have eD4:=s3 _ _ (sT _ _ eD);refine⟨eD4,zV (by rw[aa,aa]; lia),(sD.trans ((xX.of sT).trans (.of s3))).trans (sI eD4),zA,⟨ts++[(t3,mkT em)],by rw[aG,aG]; rfl,by rw[aG,et,bN,gm,aG]; rfl,λt ht=>?_⟩,_,_,rfl⟩;rcases aS.mp ht with z | z
  ·have h:=at_ t z;rw[zG (λy=>by rw[y,eD] at h; cases h)];exact s3 _ _ (sT _ _ h)
  ·rw[av.mp z];show upd _ D _ t3=_;rw[zG (zL (sT _ _ eD) ht3).symm];exact zA
 ·rintro σ zs H' ⟨sD,eD,⟨ts,rfl,et,at_⟩,u0,u1,rfl⟩;rw[lk,b7] at et;have ek:ts.map (·.2.1)=(S.marks.map (·.1)).map .inr:=by
   have:=congrArg (List.map (·.1)) et;rw[bD,bD] at this;rw[bD];exact this
  have lt:ts.length=S.marks.length:=by have:=congrArg cM et; rwa[aa,aa] at this
  refine⟨D,ts,U,SqL.of eD,at_,by lia,.inr ⟨_,ek⟩,by rw[ek]; exact zJo nt.nm,λp hp=>?_⟩;have sp:=zD hp (.lst ((vG (vX (ts.map (·.2.1))) (ts.map (·.1))).map V.ref));refine q p _ _ ((xX.over sf sD hD).trans (.of sp)) zA ?_;rw[ek];rw[ek] at sp;exact(zWc et at_ _).to (.of sp)
def zV0(cs:List (Int×Int)):Prop:=cs.length<=12/\∀ c∈cs,c.1.natAbs<=10^8/\c.2.natAbs<=10^8
theorem zRq{i:Int}(h:i.natAbs<=10000):i.natAbs.log2<20:=by
 by_cases e:i.natAbs=0
 ·rw[e]; decide
 ·exact de ((lG e).mpr (show _<2^14 by lia)) (by decide)
theorem zJ9{H:Hp}{M:Nat} : ∀{qs:List Pr},zCz H M qs->wG H ((qs.map (·.2)).map ptD) (zQ qs)
 | [],_=>yH.mpr rfl
 | t::qs,h=>zK.mpr ⟨.ref t.1,zQ qs,rfl,tW (p:=t.2) (h t (.head _)).1,zJ9 λu hu=>h u (.tail _ hu)⟩
def zAi(_:ae):Sp:=λvs H Q _=>∃(a:af)(rows:List Int),vs=[.ref a]/\H a=some (.lst (rows.map V.int))/\9<=rows.length/\(∀ v∈rows,0<=v/\v<1000003) /\
 ∀(v:V)(cs:List (Int×Int))(H':Hp),Same H H'->Rep H' (.tup (cs.map ptD)) v->zV0 cs->cs.length<=12->(∀ c∈cs,c.1.natAbs.log2<20/\c.2.natAbs.log2<20)->Q v H'
theorem zFe(F:Fun K "_law_drawn_bank" "_law_drawn_bank" uZ f fd)(Z:Zs mg)(CB:Cb P w mg base)(yBy:Has P w K mg base "_law_bank" 3 ["_law_d","_law_wide"] (zLc K)):yY P w K mg base CX0 4 f fd ["_law_d"] (zAi K):=by
 specialize tP
 ·obtain⟨a,rows,rfl,_⟩:=h;rfl
 obtain⟨a,rows,rfl,ha,l9,bd,q⟩:=h;obtain⟨v1,a1,z1⟩:=xG bd (k:=1) (by decide) (by lia);obtain⟨v2,a2,z2⟩:=xG bd (k:=2) (by decide) (by lia);have sq:∀{H':Hp},H' a=some (.lst (rows.map V.int))->Sq K H' a (rows.map V.int):=λh=>.inl (SqL.of h);have fin:∀(qs:List Pr)(G:Hp),Same H G->zCz G 10000 qs->qs.length<=12->∀ t,G t=none->Q (.ref t) (upd G t (.tup (zQ qs))):=λqs G s pk l t ht=>by
  have st:=zD ht (.tup (zQ qs));refine q (.ref t) (qs.map (·.2)) _ (s.trans st) (yJ.mpr ⟨t,_,rfl,zA,zJ9 (pk.same st)⟩) ⟨by rw[aa]; exact l,λc hc=>?_⟩ (by rw[aa]; exact l) λc hc=>?_
  ·obtain⟨u,hu,rfl⟩:=aF.mp hc;exact⟨aD (pk u hu).2.1 (by decide),aD (pk u hu).2.2 (by decide)⟩
  ·obtain⟨u,hu,rfl⟩:=aF.mp hc;exact⟨zRq (pk u hu).2.1,zRq (pk u hu).2.2⟩
 refine'⟨_,(zC (yE 1 tP.nd ?_)
   (zC (zZ ?_ (zF (yE 1 tP.nd (zLx zHz (vW (zB (zRz (pv 1) (vV ?_)) (zB ?_ (zB (xO zAa ?_ ?_) zH)))) ?_ (λ_ _=>rfl)))) zM)
   (zF (zN (xE zCy rfl Z.tuple zI8 (zB (pv 1) zH)))))),?_⟩
 nofun
 refine⟨_,U,sz2,λe he=>?_⟩;have se:=zD he (.lst [.int 3,.int 40]);obtain⟨v,hv,e3⟩:=zC9 (vs:=[.int 3,.int 40]) (x:=v1) (n:=2) (by decide) rfl;obtain⟨wd,rfl,w1,w2⟩:∃ wd:Int,v=.int wd/\1<=wd/\wd<=100:=by
  simp only[aA,bA,or_false] at hv;rcases hv with rfl | rfl
  ·exact⟨3,U,by decide,by decide⟩
  ·exact⟨40,U,by decide,by decide⟩
 exists _,U,a,_,_,_,U,U,sq (se _ _ ha),a1,_,_,U,U,gt2,e,_,_,_,U,U,.inl (SqL.of zA),e3;refine⟨a,rows,wd,U,SqL.of (se _ _ ha),l9,bd,w1,w2,λl qs G s' hl el pk bs=>?_⟩;have l8:=bs.len.2;rw[aa] at l8;have sG:=se.trans s';have haG:=sG _ _ ha;clear bs hl se s' he e3 hv;exists _,U,a,_,_,_,U,U,sq haG,a2,_,_,U,U,(by show(0:Int)<8; decide),_,_,rfl,rfl,_,rfl;refine ifD (λz=>?_) (λz=>?_);rotate_left
 ·exact⟨_,U,l,_,U,.inl ⟨SqL.of el,fin qs G sG pk (by lia)⟩⟩
 have n0:0<=v2%8:=by lia
 refine⟨_,U,_,U,_,U,l,_,U,SqL.of el,U,λc1 hc1=>?_⟩;have s1:=zD hc1 (.lst (zQ qs).reverse);refine⟨_,U,_,U,l,_,U,SqL.of (s1 _ _ el),λc2 hc2=>?_⟩;have s2:=zD hc2 (.lst (rG (zQ qs) none (some 2)));refine⟨sz2,λp hp=>⟨sz1,λo ho=>?_⟩⟩;have s3:=zD hp (.tup [.int 1001,.int 0]);have s4:=zD ho (.lst [.ref p]);have el4:=s4 _ _ (s3 _ _ (s2 _ _ (s1 _ _ el)));refine⟨_,U,_,U,l,_,U,SqL.of el4,λc3 hc3=>?_⟩;have s5:=zD hc3 (.lst (rG (zQ qs) (some 1) none));have k1:=(zP6 qs 1).1;have k2:=(zP6 qs 2).2;have k1:rG (zQ qs) (some 1) none=zQ (qs.drop 1):=k1;have k2:rG (zQ qs) none (some 2)=zQ (qs.take 2):=k2;refine⟨o,c3,_,_,U,U,s5 _ _ zA,zA,zC1 (by rw[k1,zT,bG]; show 1+_<=_; lia),λc4 hc4=>?_⟩;have s6:=zD hc4 (.lst ([.ref p]++rG (zQ qs) (some 1) none));refine⟨sz3,λM hM=>?_⟩;have s7:=zD hM (.lst [.ref c1,.ref c2,.ref c4]);have t6:=s6.trans s7;have t5:=s5.trans t6;have t4:=s4.trans t5;have t3:=s3.trans t4;have t2:=s2.trans t3;have t1:=s1.trans t2;have E1:=t2 _ _ (zA (H:=G) (a:=c1) (o:=.lst (zQ qs).reverse));have E2 : _=some (HO.lst (rG (zQ qs) none (some 2))):=t3 c2 _ zA;have E3 : _=some (HO.tup [.int 1001,.int 0]):=t4 p _ zA;have E4 : _=some (HO.lst ([.ref p]++rG (zQ qs) (some 1) none)):=s7 c4 _ zA;have pk':=pk.same t1;have haM:=t1 _ _ haG;have sM:=sG.trans t1
 replace E1:=E1.trans (show some (HO.lst (zQ qs).reverse)=some (HO.lst (zQ qs.reverse)) by unfold zQ; rw[lB,lB])
 replace E2:=E2.trans (show _=some (HO.lst (zQ (qs.take 2))) by rw[k2])
 replace E4:=E4.trans (show _=some (HO.lst (zQ ((p,1001,0)::qs.drop 1))) by rw[k1]; rfl)
 obtain⟨v,hv,e⟩:=zVp (vs:=[.ref c1,.ref c2,.ref c4]) n0 (show v2%8<3 by lia);exists _,U,a,_,_,_,U,U,sq haM,a2,_,_,U,U,(by show(0:Int)<8; decide),M,_,_,v,rfl,rfl,.inl (SqL.of zA),e;simp only[aA,bA,or_false] at hv;rcases hv with rfl | rfl | rfl
 ·exact⟨_,U,c1,_,U,.inl ⟨SqL.of E1,fin qs.reverse _ sM (λt ht=>pk' t (List.mem_reverse.mp ht)) (by rw[jy]; lia)⟩⟩
 ·exact⟨_,U,c2,_,U,.inl ⟨SqL.of E2,fin (qs.take 2) _ sM (λt ht=>pk' t (jm ht)) (by rw[cm]; lia)⟩⟩
 ·exact⟨_,U,c4,_,U,.inl ⟨SqL.of E4,fin ((p,1001,0)::qs.drop 1) _ sM (λt ht=>(aA.mp ht).elim (λz=>z ▸ ⟨E3,(by show 1001<=10000; decide),(by show 0<=10000; decide)⟩) λz=>pk' t (cN z)) (by rw[aW,bG]; lia)⟩⟩
section
variable{H:Hp}{w:af}
theorem zXs{n:az}{x y:Int}(hw:H w=some (.tup [.str "move",.str n,.int x,.int y])):Rep H (Deed.move n x y).dt (.ref w) :=
 yJ.mpr ⟨w,_,rfl,hw,zK.mpr ⟨_,_,rfl,zY.mpr rfl,zK.mpr ⟨_,_,rfl,zY.mpr rfl,.two (yB.mpr rfl) (yB.mpr rfl)⟩⟩⟩
theorem zYf{k x y:Int}(hw:H w=some (.tup [.str "right",.int k,.int x,.int y])):Rep H (Deed.right k x y).dt (.ref w) :=
 yJ.mpr ⟨w,_,rfl,hw,zK.mpr ⟨_,_,rfl,zY.mpr rfl,zK.mpr ⟨_,_,rfl,yB.mpr rfl,.two (yB.mpr rfl) (yB.mpr rfl)⟩⟩⟩
theorem zXa{n:az}(hw:H w=some (.tup [.str "unmark",.str n])):Rep H (Deed.unmark n).dt (.ref w) :=
 yJ.mpr ⟨w,_,rfl,hw,.two (zY.mpr rfl) (zY.mpr rfl)⟩
theorem zX3{n:az}(hw:H w=some (.tup [.str "level",.str n])):Rep H (Deed.level n).dt (.ref w) :=
 yJ.mpr ⟨w,_,rfl,hw,.two (zY.mpr rfl) (zY.mpr rfl)⟩
theorem zSt{n:az}{v:V}{cs:List (Int×Int)}(hw:H w=some (.tup [.str "bank",.str n,v]))(hv:Rep H (.tup (cs.map ptD)) v):Rep H (Deed.bank n cs).dt (.ref w) :=
 yJ.mpr ⟨w,_,rfl,hw,zK.mpr ⟨_,_,rfl,zY.mpr rfl,.two (zY.mpr rfl) hv⟩⟩
end
def zWj:Deed->Prop
 | .bank _ cs=>zV0 cs
 | _=>True
def zJi(_:ae):Sp:=λvs H Q _=>∃(a d R:af)(rows:List Int)(ns:List az)(S:BS),vs=[.ref a,.ref d,.ref R]/\H a=some (.lst (rows.map V.int))/\11<=rows.length/\(∀ v∈rows,0<=v/\v<1000003)/\zS6 H d S/\zL3 S/\1<=S.coming/\S.coming<=1000/\H R=some (.lst (ns.map V.str))/\1<=ns.length/\(∀ n∈ns,wC n) /\
 ∀(v:V)(D:Deed)(H':Hp),Sam H H'->Rep H' D.dt v->zIn D->zWj D->Q v H'
theorem zQ0(F:Fun K "_law_deed" "_law_deed" zE2 f fd)(Z:Zs mg)(CB:Cb P w mg base)(yBx:Has P w K mg base "_law_pick" 2 ["_law_raw","_law_names_here"] (zFu K))(yAe:Has P w K mg base "_law_bearing_deed" 3 ["_law_d","_law_m","_law_names_here"] (rK K))(yAx:Has P w K mg base "_law_drawn_bank" 4 ["_law_d"] (zAi K))(yAw:Has P w K mg base "_law_far_number" 1 ["_law_raw"] (zAc K)):yY P w K mg base CX0 5 f fd ["_law_d","_law_m","_law_names_here"] (zJi K):=by
 specialize zCp
 ·obtain⟨a,d,R,rows,ns,S,rfl,_⟩:=h;rfl
 obtain⟨a,d,R,rows,ns,S,rfl,ha,l11,bd,lwt,wl,c1,c1000,eR,l1,okn,q⟩:=h;obtain⟨m,b,r,n,lw⟩:=id lwt;obtain⟨v0,a0,y0⟩:=xG bd (k:=0) (by decide) (by lia);obtain⟨v1,a1,y1⟩:=xG bd (k:=1) (by decide) (by lia);obtain⟨v2,a2,y2⟩:=xG bd (k:=2) (by decide) (by lia);obtain⟨v3,a3,y3⟩:=xG bd (k:=3) (by decide) (by lia);obtain⟨v4,a4,y4⟩:=xG bd (k:=4) (by decide) (by lia);obtain⟨v5,a5,y5⟩:=xG bd (k:=5) (by decide) (by lia);obtain⟨v6,a6,y6⟩:=xG bd (k:=6) (by decide) (by lia);have sq:∀{H':Hp},H' a=some (.lst (rows.map V.int))->Sq K H' a (rows.map V.int):=λh=>.inl (SqL.of h);obtain⟨ys,er,rr⟩:=lw.ru;have ly:ys.length=S.runs.length:=by rw[rr.length,aa]
 have fr:=wl.good.few.ru
 refine'⟨_,(zC (yE 3 zCp.nd ?_)
   (zC (yE 4 zCp.nd ?_)
   (zC (zVn (i:=5) (j:=6) rfl zCp.nd rfl rfl (by decide) rfl rfl ?_ rfl)
   (zC (zZ ?_ (zF (zN ?_)) zM)
   (zC (zZ ?_ (zF (zN ?_)) zM)
   (zC (zZ ?_ (zF (zN ?_)) zM)
   (zC (zZ ?_ (zF (zN ?_)) zM)
   (zC (zZ ?_ (zF (zN ?_)) zM)
   (zC (zZ ?_ (zF (zN ?_)) zM)
   (zC (zZ ?_ (zF (zN (xF (zB zJ (zB (xO zA9 (xO zVm (xO zHv ?_ (xO zA9 (zS yV rfl Z.len wQ (zB (zO (zW hr) (pv 1) zJ (λ_ _=>rfl)) zH)) yN)) yN) (xE zK5 rfl Z.int zQn (zB (zKb (sA zI1 (zS yV rfl Z.len wQ (zB (zO (zW hr) (pv 1) zJ (λ_ _=>rfl)) zH)) yN (yX _)) (zJ2 ?_)) zH))) (zB (pv 5) (zB (pv 6) zH))))))) zM)
   (zC (zZ ?_ (zF (zN ?_)) zM)
   (zC (zZ ?_ (zF (zN (xF (zB zJ (zB (xO zHv ?_ (xO zA9 (xO zA9 (zS yV rfl Z.len wQ (zB (zO (zW hr) (pv 1) zJ (λ_ _=>rfl)) zH)) yN) ?_)) (zB (pv 4) (zB ?_ zH))))))) zM)
   (zF (zN (xF (zB zJ (zB (xO zHv ?_ (xO zA9 (zO (zW hr) (pv 1) zJ (λ_ _=>rfl)) yN)) zH))))))))))))))))),?_⟩
 nofun
 exists _,U,a,_,_,_,U,U,sq ha,a0,_,_,U,U,(by show(0:Int)<18; decide);refine⟨_,U,a,_,_,_,U,U,sq ha,a1,_,U,v1,R,ns,U,y1.1,y1.2,eR,l1,okn,λnm H2 an s2=>?_⟩;refine⟨_,U,a,_,_,_,U,U,sq (s2 _ _ ha),a2,v2,U,y2.1,y2.2,λx H3 tx s3=>?_⟩;refine⟨_,U,a,_,_,_,U,U,sq (s3 _ _ (s2 _ _ ha)),a3,v3,U,y3.1,y3.2,λy H4 ty s4'=>⟨_,_,U,?_⟩⟩;have s4:=s2.trans (s3.trans s4');clear s2 s3 s4';have ha4:=s4 _ _ ha;have lw4:=lw.to (.of s4);have eR4:=s4 _ _ eR;generalize v0%18=W;exists _,U,_,_,U,U,_,rfl;refine ifD (λza=>?_) (λza=>?_)
 ·refine⟨_,U,_,U,_,U,(by show 4<=sizeLine; decide),λw hw=>?_⟩;have sw:=zD hw (.tup [.str "mark",.str nm,.int x,.int y]);exact q (.ref w) (.mark nm x y) _ (.of (s4.trans sw)) (zTl zA) (⟨an,tx,ty⟩) trivial
 exists _,U,U,_,rfl;refine ifE (λzb=>?_) (λzb=>?_)
 ·refine⟨_,U,_,U,_,U,(by show 4<=sizeLine; decide),λw hw=>?_⟩;have sw:=zD hw (.tup [.str "move",.str nm,.int x,.int y]);exact q (.ref w) (.move nm x y) _ (.of (s4.trans sw)) (zXs zA) (⟨an,tx,ty⟩) trivial
 exists _,U,U,_,rfl;refine ifE (λzc=>?_) (λzc=>?_)
 ·refine⟨_,U,sz2,λw hw=>?_⟩;have sw:=zD hw (.tup [.str "unmark",.str nm]);exact q (.ref w) (.unmark nm) _ (.of (s4.trans sw)) (zXa zA) (an) trivial
 have ct1:rG (rows.map V.int) (some ((1:Nat):Int)) none=(rows.drop 1).map V.int:=by rw[zBx,HT.sIx_nat rows.length 0 1,show min 1 rows.length=1 by lia,show HT.sIx rows.length rows.length none=rows.length from rfl,cg (by rw[bG]; lia)]
 have ct1:rG (rows.map V.int) (some 1) none=(rows.drop 1).map V.int:=ct1;exists _,U,U,_,rfl;refine ifE (λz5=>xP ?_) (λz5=>?_)
 ·skip
  refine⟨_,U,_,U,_,U,a,_,U,SqL.of ha4,λc hc=>?_⟩;have sc:=zD hc (.lst (rG (rows.map V.int) (some 1) none));refine⟨c,rows.drop 1,U,(by rw[zA,ct1]),(by rw[bG]; lia),(λv hv=>bd v (cN hv)),λv cs H5 s5 rv dc l12 lg=>?_⟩;refine⟨sz3,λw hw=>?_⟩;have sw:=zD hw (.tup [.str "bank",.str nm,v]);exact q (.ref w) (.bank nm cs) _ (.of (s4.trans (sc.trans (s5.trans sw)))) (zSt zA (rv.to (.of sw))) ⟨an,l12,lg⟩ dc
 exists _,U,U,_,rfl;refine ifE (λz6=>?_) (λz6=>?_)
 ·skip
  refine⟨_,U,_,U,_,U,a,_,U,SqL.of ha4,λc hc=>?_⟩;have sc:=zD hc (.lst (rG (rows.map V.int) (some 1) none));refine⟨c,rows.drop 1,U,(by rw[zA,ct1]),(by rw[bG]; lia),(λv hv=>bd v (cN hv)),λv cs H5 s5 rv dc l12 lg=>?_⟩;refine⟨sz3,λw hw=>?_⟩;have sw:=zD hw (.tup [.str "bank",.str nm,v]);exact q (.ref w) (.bank nm cs) _ (.of (s4.trans (sc.trans (s5.trans sw)))) (zSt zA (rv.to (.of sw))) ⟨an,l12,lg⟩ dc
 exists _,U,U,_,rfl;refine ifE (λz7=>?_) (λz7=>?_)
 ·refine⟨_,U,sz2,λw hw=>?_⟩;have sw:=zD hw (.tup [.str "level",.str nm]);exact q (.ref w) (.level nm) _ (.of (s4.trans sw)) (zX3 zA) (an) trivial
 exists _,U,_,_,U,U,_,rfl;refine ifD (λz8=>?_) (λz8=>?_)
 ·refine⟨_,U,_,U,sz3,λw hw=>?_⟩;have sw:=zD hw (.tup [.str "sail",.int x,.int y]);exact q (.ref w) (.sail x y) _ (.of (s4.trans sw)) (zU6 zA) (⟨tx,ty⟩) trivial
 exists _,U,U,_,rfl;refine ifE (λz9=>?_) (λz9=>?_)
 ·exists _,U,a,_,_,_,U,U,sq ha4,a4,_,U,d,.ref r,U,.inl ⟨_,.inr "runs",lw4.at_,U,uA.symm⟩,r,ys,U,.inl (SqL.of (s4 _ _ er)),_,_,U,U,_,_,U,U,(by show(0:Int)<(ys.length:Int)+2; lia),_,_,rfl,rfl;have fin2:∀ k:Int,0<=k/\k<=1->∀ w,H4 w=none->Q (.ref w) (upd H4 w (.tup [.str "right",.int (v4%((ys.length:Int)+2)-1+k),.int x,.int y])):=by
   intro k hk w hw;have e0:=bj v4 (show(ys.length:Int)+2≠0 by lia);have e1:=aV v4 (show(0:Int)<(ys.length:Int)+2 by lia);have tk:qZ (v4%((ys.length:Int)+2)-1+k):=xR (by lia);generalize v4%((ys.length:Int)+2)-1+k=kk at tk ⊢;have sw:=zD hw (.tup [.str "right",.int kk,.int x,.int y]);exact q (.ref w) (.right kk x y) _ (.of (s4.trans sw)) (zYf zA) (⟨tk,tx,ty⟩) trivial
  have k01:∀ c:Bool,(0:Int)<=(if c=true then 1 else 0)/\(if c=true then(1:Int) else 0)<=1:=λc=>by cases c <;> decide
  exists _,U,d,.ref r,U,.inl ⟨_,.inr "runs",lw4.at_,U,uA.symm⟩,r,ys,U,.inl (SqL.of (s4 _ _ er)),_,_,U,U,_,rfl;refine zY1 (λ_=>?_) (λ_=>?_)
  ·exact⟨_,U,a,_,_,_,U,U,sq ha4,a5,_,_,U,U,gt3,_,_,U,U,.inr ⟨_,U,_,_,U,U,_,U,_,U,(by show 4<=sizeLine; decide),fin2 _ (k01 _)⟩⟩
  ·exact .inr ⟨_,rfl,_,_,rfl,rfl,_,rfl,_,rfl,(by show 4<=sizeLine; decide),fin2 _ (k01 _)⟩
 exists _,U,_,_,U,U,_,rfl;refine ifD (λz10=>?_) (λz10=>?_)
 ·refine⟨_,U,_,U,_,U,a,d,R,rows,ns,S,U,ha4,(by lia),bd,⟨m,b,r,n,lw4⟩,wl,eR4,l1,okn,λv m n a b c d H' s' rp tm=>q v _ H' ((xX.of s4).trans s') rp tm trivial⟩
 exists _,U,U,_,rfl;refine ifE (λz12=>xP ?_) (λz12=>?_)
 ·skip
  refine⟨_,U,a,_,_,_,U,U,sq ha4,a4,_,U,d,.ref r,U,.inl ⟨_,.inr "runs",lw4.at_,U,uA.symm⟩,r,ys,U,.inl (SqL.of (s4 _ _ er)),_,_,U,U,_,U,a,_,_,_,U,U,sq ha4,a5,_,_,U,U,(by show(0:Int)<9; decide),rfl,.inr ⟨_,rfl,_,_,rfl,rfl,?_⟩⟩;have k01:(0:Int)<=(if decide (V.int (v5%9)=V.int 1)=true then 1 else 0)/\(if decide (V.int (v5%9)=V.int 1)=true then(1:Int) else 0)<=1:=by split <;> decide
  generalize (if decide (V.int (v5%9)=V.int 1)=true then(1:Int) else 0)=k at k01 ⊢;have e0:=bj v4 (show(ys.length:Int)+1+k≠0 by lia);have e1:=aV v4 (show(0:Int)<(ys.length:Int)+1+k by lia);have tk:qZ (v4%((ys.length:Int)+1+k)):=xR (by lia);refine⟨_,_,U,U,(by show(0:Int)<(ys.length:Int)+1+k; lia),_,rfl,_,rfl,a,_,_,_,rfl,rfl,sq ha4,a6,_,rfl,v6,R,ns,rfl,y6.1,y6.2,eR4,l1,okn,λnm2 H5 an2 s5=>?_⟩;refine⟨(by show 4<=sizeLine; decide),λw hw=>?_⟩;generalize v4%((ys.length:Int)+1+k)=kk at tk hw ⊢;have sw:=zD hw (.tup [.str "range",.int kk,.str nm,.str nm2]);exact q (.ref w) (.range kk nm nm2) _ (.of (s4.trans (s5.trans sw))) (zKw zA) ⟨tk,an,an2⟩ trivial
 exists _,U,U,_,rfl;refine ifE (λz13=>?_) (λz13=>?_)
 ·skip
  refine⟨_,U,a,_,_,_,U,U,sq ha4,a4,_,U,d,.ref r,U,.inl ⟨_,.inr "runs",lw4.at_,U,uA.symm⟩,r,ys,U,.inl (SqL.of (s4 _ _ er)),_,_,U,U,_,U,a,_,_,_,U,U,sq ha4,a5,_,_,U,U,(by show(0:Int)<9; decide),rfl,.inr ⟨_,rfl,_,_,rfl,rfl,?_⟩⟩;have k01:(0:Int)<=(if decide (V.int (v5%9)=V.int 1)=true then 1 else 0)/\(if decide (V.int (v5%9)=V.int 1)=true then(1:Int) else 0)<=1:=by split <;> decide
  generalize (if decide (V.int (v5%9)=V.int 1)=true then(1:Int) else 0)=k at k01 ⊢;have e0:=bj v4 (show(ys.length:Int)+1+k≠0 by lia);have e1:=aV v4 (show(0:Int)<(ys.length:Int)+1+k by lia);have tk:qZ (v4%((ys.length:Int)+1+k)):=xR (by lia);refine⟨_,_,U,U,(by show(0:Int)<(ys.length:Int)+1+k; lia),_,rfl,_,rfl,a,_,_,_,rfl,rfl,sq ha4,a6,_,rfl,v6,R,ns,rfl,y6.1,y6.2,eR4,l1,okn,λnm2 H5 an2 s5=>?_⟩;refine⟨(by show 4<=sizeLine; decide),λw hw=>?_⟩;generalize v4%((ys.length:Int)+1+k)=kk at tk hw ⊢;have sw:=zD hw (.tup [.str "range",.int kk,.str nm,.str nm2]);exact q (.ref w) (.range kk nm nm2) _ (.of (s4.trans (s5.trans sw))) (zKw zA) ⟨tk,an,an2⟩ trivial
 ·refine⟨_,U,a,_,_,_,U,U,sq ha4,a4,_,U,d,.int S.coming,U,.inl ⟨_,.inr "next",lw4.at_,U,zAg.symm⟩,_,_,U,U,_,_,U,U,(by show(0:Int)<S.coming+1; lia),sz2,λw hw=>?_⟩;have e0:=bj v4 (show S.coming+1≠0 by lia);have e1:=aV v4 (show(0:Int)<S.coming+1 by lia);have tk:qZ (v4%(S.coming+1)):=xR (by lia);generalize v4%(S.coming+1)=kk at tk hw ⊢;have sw:=zD hw (.tup [.str "strike",.int kk]);exact q (.ref w) (.strike kk) _ (.of (s4.trans sw)) (zPr zA) (tk) trivial
def yd8(cs:List (Int×Int)):Prop:=cs.length<=12/\∀ c∈cs,c.1.natAbs<=10^8/\c.2.natAbs<=10^8
def rP(_:ae):Sp:=λvs H Q _=>∃(c:af)(ps:List Pr)(cs:List (Int×Int)),vs=[.ref c]/\H c=some (.tup (zQ ps))/\yd7 H cs ps/\yd8 cs/\Q (.bl (zPz cs)) H
theorem zDj(F:Fun K "_law_round_enough" "_law_round_enough" wI f fd)(Z:Zs mg)(CB:Cb P w mg base)(yBf:Has P w K mg base "_law_is_round" 1 ["_law_places"] (zCq K)):yY P w K mg base CX0 2 f fd ["_law_places"] (rP K):=by
 specialize zDb
 ·obtain⟨c,ps,cs,rfl,_⟩:=h;rfl
 obtain⟨c,ps,cs,rfl,hc,⟨pt,at_⟩,⟨b1,b2⟩,q⟩:=h;subst pt
 refine'⟨_,(zF (zN ?_)),?_⟩
 nofun
 rw[<- zV5,zP9] at q;exact⟨_,U,c,ps,U,SqT.of hc,(λt ht=>⟨at_ t ht,b2 _ (List.mem_map_of_mem ht)⟩),(by rw[aa] at b1; lia),q⟩
def zXx:Deed->Prop
 | .bank _ cs=>yd8 cs
 | .level _=>True
 | _=>False
theorem zXx.cases{D:Deed}(h:zXx D):(∃ n cs,D=.bank n cs/\yd8 cs)\/∃ n,D=.level n:=by
 cases D <;> first | exact h.elim | exact .inl ⟨_,_,rfl,h⟩ | exact .inr ⟨_,rfl⟩
def zBc(_:ae):Sp:=zLn zXx
theorem zGr(F:Fun K "_law_bank_word" "_law_bank_word" tG f fd)(Z:Zs mg)(CB:Cb P w mg base)(yAc:Has P w K mg base "_law_round_enough" 2 ["_law_places"] (rP K))(yCc:Has P w K mg base "_law_near" 1 ["_law_x","_law_y"] (zBv K))(yBk:Has P w K mg base "_law_is_name" 1 ["_law_name"] (zAk K)):yY P w K mg base CX0 3 f fd ["_law_m","_law_deed_here"] (zBc K):=by
 specialize zG4
 ·obtain⟨d,v,S,D,rfl,_⟩:=h;rfl
 obtain⟨d,v,S,D,rfl,⟨m,b,r,n,lw⟩,hv,tm,wl,mk,q⟩:=h;have say:∀(o:Option Cl)(H':Hp),zU S D=o->Sam H H'->Q (.str (zF4 o)) H':=λo H' e s=>e ▸ q _ s;obtain⟨bk',hbk,kb⟩:=lw.ba;have lbk:bk'.length=S.banks.length:=by rw[kb.length]; unfold bkE; rw[aa]
 refine'⟨_,(zC (zZ ?_ (zF (zN (vY (qU (zKo (zW hr) ?_ (zO (zW hr) (pv 0) zJ (λ_ _=>rfl))) (by with_unfolding_all rfl)) zJ zJ))) zM)
   (zC (zZ ?_ (zF (zN zJ)) zM)
   (zC (zZ (qU (zKo (zW hr) ?_ (zO (zW hr) (pv 0) zJ (λ_ _=>rfl))) (by with_unfolding_all rfl)) (zF (zN zJ)) zM)
   (zC (zZ (zAf (zA6 (zS (tX rfl) rfl Z.all zGg (zB (tT (T:=["_law_x","_law_y"]) (caps:=[]) ⟨rfl,by decide +kernel,by decide +kernel,rfl,bB⟩ rfl (zWf ?_) (λ_=>(rM rfl (yG (rO 0 (show(["_law_x","_law_y"]:List az).Nodup by decide +kernel)) (yG (rO 1 (show(["_law_x","_law_y"]:List az).Nodup by decide +kernel)) wY)))) (λ_=>uG) (λ_=>?_)) zH)))) (zF (zN zJ)) zM)
   (zC (zZ ?_ (zF (zN zJ)) zM)
   (zF (zN (vY (yM zI1 (zS vM rfl Z.len wQ (zB (zO (zW hr) (pv 0) zJ (λ_ _=>rfl)) zH)) yN (yX _)) zJ zJ)))))))),?_⟩
 nofun
 rcases mk.cases with ⟨nm,cs,rfl,sd⟩ | ⟨nm,rfl⟩
 ·clear mk q;obtain⟨t,c,ps,rfl,ht,hc,cn,rc⟩:=zFi hv;have tq:Sq K H t [.str "bank",.str nm,.ref c]:=.inr (SqT.of ht);exists _,U,t,_,0,.str "bank",U,U,tq,U,U,_,rfl;refine yW ?_;refine⟨_,U,t,_,1,.str nm,U,U,tq,U,nm,U,tm.1,λbb H1 hb s1=>⟨_,U,?_⟩⟩;cases bb with
  | false=>exact xP (say (some .badName) _ (by simp only[zU,if_pos (sB hb rfl)]) (.of s1))
  | true =>
  have j1:=ar.mpr (hb.mp rfl);refine yW ?_;have hd1:=Rd.same lw.at_ s1;have hc1:=s1 _ _ hc;have tq1:Sq K H1 t [.str "bank",.str nm,.ref c]:=.inr (SqT.of (s1 _ _ ht));exists _,U,t,_,1,.str nm,U,U,tq1,U,_,U,d,.ref b,U,.inl ⟨_,.inr "banks",hd1,U,qJ.symm⟩,b,_,U,.inl ⟨bk',.inr nm,Rd.same hbk s1,U,U⟩,_,rfl;have bn:=zDn (n:=nm) kb;cases e:(wF bk' (.inr nm)).isSome with
  | true=>exact xP (say (some .taken) _ (by simp only[zU,if_neg j1,if_pos (show nm∈S.banks.map (·.1) from fg λz=>by rw[bn.mpr z] at e; cases e)]) (.of s1))
  | false =>
  have j2:nm ∉ S.banks.map (·.1):=bn.mp (by cases h:wF bk' (.inr nm) <;> simp[h] at e ⊢);refine yW ?_;refine⟨_,U,t,_,2,.ref c,U,U,tq1,U,c,U,⟨_,SqT.of hc1⟩,λcc D hD=>?_⟩;have l3:ps.length<=12:=by have:=congrArg cM cn.pt; rw[aa] at this; rw[this]; exact tm.2.1
  refine zJl (K:=K) (a:=c) (xs:=zQ ps) (λi σ zs H'=>Same H1 H'/\H' D=some (.lst zs)/\(∃ bs:List Bool,zs=bs.map V.bl/\bs.length=i/\(bs.all id=true↔∀ p∈ps.take i,zDy p.2))/\∃ u0 u1:Option V,σ=[u0,u1])
   ⟨zD hD _,zA,⟨[],rfl,rfl,iff_of_true rfl λe he=>(nomatch he)⟩,none,none,rfl⟩ (λi σ zs H' _ ⟨sH,e,_⟩=>⟨SqT.of (sH _ _ hc1),e⟩) ?_ ?_
  ·rintro i v σ zs H' hi ⟨sH,eD,⟨bs,rfl,lb,ab⟩,u0,u1,rfl⟩;unfold zQ at hi;rw[bD,ak,aH] at hi;obtain⟨pp,gp,rfl⟩:=hi;have hp:=cn.at_ pp (aJ gp);have hil:=(aM.mp gp).1;refine⟨_,_,U,SqT.of (sH _ _ (s1 _ _ hp)),U,_,_,U,_,_,U,U,_,U,_,U,pp.2.1,pp.2.2,U,λbb hb=>?_⟩;refine⟨eD,zV (by rw[aa]; lia),sH.putNew hD,zA,⟨bs++[bb],by rw[aG]; rfl,by rw[aC,lb]; rfl,?_⟩,_,_,rfl⟩;rw[iU,be,ab,bN,gp,show [bb].all id=bb from by cases bb <;> rfl,hb];exact⟨λh e' he'=>(aS.mp he').elim (h.1 e') λz=>by rw[av.mp z]; exact h.2,λh=>⟨λe' z=>h e' (dU _ z),h pp (aY _ (.head _))⟩⟩
  ·rintro σ zs H' ⟨sH,eD,⟨bs,rfl,lb,ab⟩,u0,u1,rfl⟩;have lr:(zQ ps).length=ps.length:=zT ps;rw[lr,b7] at ab;have ab:bs.all id=true↔∀ c∈cs,zDy c:=by
    rw[ab,<- cn.pt];exact⟨λh c hc=>let ⟨p,hp,e⟩:=aF.mp hc; e ▸ h p hp,λh p hp=>h _ (aF.mpr ⟨p,hp,rfl⟩)⟩
   have s1':=s1.trans sH;exists D,bs,U,SqL.of eD,_,rfl;cases hb:bs.all id with
   | false=>exact xP (say (some .badPlace) _ (by simp only[zU,if_neg j1,if_neg j2,if_pos (sB ab hb)]) (.of s1'))
   | true =>
   have j3:=ar.mpr (ab.mp hb);refine yW ?_;have tq2:Sq K H' t [.str "bank",.str nm,.ref c]:=.inr (SqT.of (s1' _ _ ht));exists _,U,t,_,2,.ref c,U,U,tq2,U,c,ps,cs,U,s1' _ _ hc,⟨cn.pt,λt ht=>s1' _ _ (cn.at_ t ht)⟩,sd,_,rfl;cases hk:zPz cs with
   | false=>exact xP (say (some .badBank) _ (by simp only[zU,if_neg j1,if_neg j2,if_neg j3,if_pos hk]) (.of s1'))
   | true =>
   have j4:¬ zPz cs=false:=by rw[hk]; exact Bool.noConfusion
   refine yW ?_;exists _,U,d,.ref b,U,.inl ⟨_,.inr "banks",Rd.same lw.at_ s1',U,qJ.symm⟩,b,bk',U,Rd.same hbk s1',_,_,U,U,_,rfl;exact ifD (λz=>say (some .full) _ (by simp only[zU,if_neg j1,if_neg j2,if_neg j3,if_neg j4,if_pos (show 8<=S.banks.length by lia)]) (.of s1')) (λz=>say none _ (by simp only[zU,if_neg j1,if_neg j2,if_neg j3,if_neg j4,if_neg (show ¬ 8<=S.banks.length by lia)]) (.of s1'))
 ·clear mk q;obtain⟨t,rfl,ht⟩:=zEp hv;have tq:Sq K H t [.str "level",.str nm]:=.inr (SqT.of ht);exists _,U,t,_,0,.str "level",U,U,tq,U,U,_,rfl;refine xP ?_;exists _,U,t,_,1,.str nm,U,U,tq,U,_,U,d,.ref b,U,.inl ⟨_,.inr "banks",lw.at_,U,qJ.symm⟩,b,_,U,.inl ⟨bk',.inr nm,hbk,U,U⟩,_,rfl;have bn:=zDn (n:=nm) kb;cases e:(wF bk' (.inr nm)).isSome with
  | true=>exact xP (say none _ (by simp only[zU,if_pos (show nm∈S.banks.map (·.1) from fg λz=>by rw[bn.mpr z] at e; cases e)]) (.refl _))
  | false=>exact yW (say (some .noBank) _ (by simp only[zU,if_neg (bn.mp (by cases h:wF bk' (.inr nm) <;> simp[h] at e ⊢))]) (.refl _))
def zYp:Deed->Prop
 | .bank _ cs=>yd8 cs
 | _=>True
def zJg(_:ae):Sp:=zLn zYp
theorem zRw(F:Fun K "_law_word" "_law_word" zE0 f fd)(Z:Zs mg)(CB:Cb P w mg base)(yBd:Has P w K mg base "_law_note_word" 2 ["_law_m","_law_deed_here"] (zBa K))(yBh:Has P w K mg base "_law_run_word" 2 ["_law_m","_law_deed_here"] (zB7 K))(yBc:Has P w K mg base "_law_bank_word" 3 ["_law_m","_law_deed_here"] (zBc K))(yBb:Has P w K mg base "_law_mark_word" 2 ["_law_m","_law_deed_here"] (zBe K)):yY P w K mg base CX0 4 f fd ["_law_m","_law_deed_here"] (zJg K):=by
 specialize zQr
 ·obtain⟨d,v,S,D,rfl,_⟩:=h;rfl
 obtain⟨d,v,S,D,rfl,lw,hv,tm,wl,mk,q⟩:=h;obtain⟨t,xs,rfl,ht⟩:=zMm hv
 refine'⟨_,(zC (zZ (yM rX ?_ ?_ (by with_unfolding_all rfl)) (zF (zN ?_)) zM)
   (zC (zZ (yM rX ?_ ?_ (by with_unfolding_all rfl)) (zF (zN ?_)) zM)
   (zC (zZ (yM rX ?_ ?_ (by with_unfolding_all rfl)) (zF (zN ?_)) zM)
   (zF (zN ?_))))),?_⟩
 nofun
 have sz:=Same.refl H;refine⟨_,U,t,_,0,.str (zFa D),U,U,.inr (SqT.of (sz _ _ ht)),vQ (xs:=.str (zFa D)::xs) (j:=0) rfl,(by show 3<=sizeLine; decide),λz hz=>?_⟩
 replace sz:=sz.trans (zD hz (.tup [.str "mark",.str "move",.str "unmark"]))
 refine⟨z,_,U,.inr (SqT.of zA),U,U,_,U,zY1 (λz3a=>?_) (λz3a=>?_)⟩
 ·skip
  exact⟨_,U,_,U,d,.ref t,S,D,U,lw.to (.of sz),hv.to (.of sz),tm,wl,(by cases D <;> first | exact trivial | exact nomatch (show false=true from z3a)),λH' s'=>q H' ((xX.of sz).trans s')⟩
 refine⟨_,U,t,_,0,.str (zFa D),U,U,.inr (SqT.of (sz _ _ ht)),vQ (xs:=.str (zFa D)::xs) (j:=0) rfl,(by show 2<=sizeLine; decide),λz hz=>?_⟩
 replace sz:=sz.trans (zD hz (.tup [.str "bank",.str "level"]))
 refine⟨z,_,U,.inr (SqT.of zA),U,U,_,U,zY1 (λz2b=>?_) (λz2b=>?_)⟩
 ·skip
  exact⟨_,U,_,U,d,.ref t,S,D,U,lw.to (.of sz),hv.to (.of sz),tm,wl,(by cases D <;> first | exact trivial | exact mk | exact nomatch (show false=true from z2b)),λH' s'=>q H' ((xX.of sz).trans s')⟩
 refine⟨_,U,t,_,0,.str (zFa D),U,U,.inr (SqT.of (sz _ _ ht)),vQ (xs:=.str (zFa D)::xs) (j:=0) rfl,(by show 2<=sizeLine; decide),λz hz=>?_⟩
 replace sz:=sz.trans (zD hz (.tup [.str "sail",.str "right"]))
 refine⟨z,_,U,.inr (SqT.of zA),U,U,_,U,zY1 (λz2c=>?_) (λz2c=>?_)⟩
 ·skip
  exact⟨_,U,_,U,d,.ref t,S,D,U,lw.to (.of sz),hv.to (.of sz),tm,wl,(by cases D <;> first | exact trivial | exact nomatch (show false=true from z2c)),λH' s'=>q H' ((xX.of sz).trans s')⟩
 ·skip
  exact⟨_,U,_,U,d,.ref t,S,D,U,lw.to (.of sz),hv.to (.of sz),tm,wl,(by cases D <;> first | exact trivial | exact nomatch (show true=false from z3a) | exact nomatch (show true=false from z2b) | exact nomatch (show true=false from z2c)),λH' s'=>q H' ((xX.of sz).trans s')⟩
def numO(S:BS)(D:Deed):Option Cl->V
 | none=>zM0 S D
 | some _=>.non
theorem zSg{S:BS}{D:Deed}(h:(aft S D).coming=S.coming):zM0 S D=.non:=by unfold zM0; rw[if_pos h.symm]
theorem zP3{S:BS}{D:Deed}(h:(aft S D).coming=S.coming+1):zM0 S D=.int S.coming:=by unfold zM0; rw[if_neg (by lia)]
theorem zRo(c:Cl):zK1 c ≠ "" := by cases c <;> decide +kernel
def zOc(_:ae):Sp:=λvs H Q _=>∃(d:af)(v:V)(S:BS)(D:Deed),vs=[.ref d,v]/\zS6 H d S/\Rep H D.dt v/\zIn D/\zL3 S/\zYp D/\∀(t:af)(H':Hp),Sam H H'->H' t=some (.tup [.str (zF4 (zU S D)),numO S D (zU S D)])->Q (.ref t) H'
theorem zUu(F:Fun K "_law_due" "_law_due" zI6 f fd)(Z:Zs mg)(CB:Cb P w mg base)(yBw:Has P w K mg base "_law_word" 4 ["_law_m","_law_deed_here"] (zJg K)):yY P w K mg base CX0 5 f fd ["_law_m","_law_deed_here"] (zOc K):=by
 specialize zNg
 ·obtain⟨d,v,S,D,rfl,_⟩:=h;rfl
 obtain⟨d,v,S,D,rfl,lw,hv,tm,wl,mk,q⟩:=h
 refine'⟨_,(zC (yE 2 zNg.nd ?_)
   (zC (zZ (PW.pt (zG7 ?_ (zC4 (yM rX ?_ ?_ (by with_unfolding_all rfl))))) (zF (zN (xF (zB zJ (zB (zO (zW hr) (pv 0) zJ (λ_ _=>rfl)) zH))))) zM)
   (zF (zN ?_)))),?_⟩
 nofun
 refine⟨_,U,_,U,d,v,S,D,U,lw,hv,tm,wl,mk,λH1 s1=>⟨_,U,U,_,U,?_⟩⟩;have last:∀(H2:Hp),Sam H H2->numO S D (zU S D)=.non->2<=sizeLine/\∀ t:af,H2 t=none->Q (.ref t) (upd H2 t (.tup [.str (zF4 (zU S D)),.non])):=λH2 s2 e=>⟨by decide,λt ht=>q t _ (s2.trans (.of (zD ht _))) (by rw[zA,e])⟩;cases hj:zU S D with
 | some c =>
  rw[hj] at last;exact ye6 (zRo c) (yW ⟨_,rfl,last _ s1 rfl⟩)
 | none =>
  rw[hj] at last q;refine ifSt ?_;have hv1:=hv.to s1;obtain⟨t,xs,rfl,ht⟩:=zMm hv1;refine⟨_,U,t,_,0,.str (zFa D),U,U,.inr (SqT.of ht),vQ (xs:=.str (zFa D)::xs) (j:=0) rfl,sz2,λz1 hz1=>?_⟩;have sz:=zD hz1 (.tup [.str "bearing",.str "range"]);have s2:=s1.trans (xX.of sz);refine⟨z1,_,U,.inr (SqT.of zA),U,U,_,U,zY1 (λz=>?_) (λz=>?_)⟩
  ·obtain⟨m,b,r,n,lw⟩:=lw;refine⟨_,U,d,.int S.coming,U,.inl ⟨_,.inr "next",s2.rd id lw.at_,U,zAg.symm⟩,sz2,λtt htt=>?_⟩;have e:(aft S D).coming=S.coming+1:=by cases D <;> first | rfl | exact nomatch (show false=true from z)
   exact q tt _ (s2.trans (.of (zD htt _))) (by rw[zA]; show _=some (HO.tup [_,zM0 S _]); rw[zP3 e]; rfl)
  ·exact⟨_,U,last _ s2 (zSg (by cases D <;> first | rfl | exact nomatch (show true=false from z)))⟩
def zLr(_:ae):Sp:=λvs H Q _=>∃(b dx:af),vs=[.ref b]/\H b=some (.ins bkC dx []) /\
 ∀(p l:af)(H':Hp),xX (λx=>x=b) H H'->H p=none->H l=none->BkL bkC H' b p l BS.nil [] []->Q .non H'
theorem zSq(F:Fun K "__init__" "Book.__init__" zE7 f fd)(Z:Zs mg)(CB:Cb P w mg base)(yAg:Has P w K mg base "nothing_yet" 1 [] (qT K)):yY P w K mg base CX0 2 f fd ["self"] (zLr K):=by
 specialize zQ1
 ·obtain⟨b,dx,rfl,_⟩:=h;rfl
 obtain⟨b,dx,rfl,hb,q⟩:=h
 refine'⟨_,(zC (zFt CB.state (pv 0) (zKl yAg (hr.mono (by decide)) rfl))
   (zC (zFt CB.past (pv 0) ?_)
   (zF (zFt CB.later (pv 0) ?_)))),?_⟩
 nofun
 refine⟨U,λd H1 s1 fd0 st=>?_⟩;have hb1:=s1 _ _ hb;exists _,U,b,dx,[],U,hb1,(by show 0<1000; decide);refine⟨sz0,λp hp=>?_⟩;have nbp:b≠p:=zL zA hp;exists _,U,b,dx,_,U,(by rw[zG nbp,zA]),(by show 1<1000; decide);refine⟨sz0,λl hl=>?_⟩;have nbl:b≠l:=zL zA hl;have npl:p≠l:=λz=>by
  rw[<- z,zG nbp.symm,zA] at hl;cases hl
 exists _,U,b,dx,_,U,(by rw[zG nbl,zA]),(by show 2<1000; decide);rw[zX8];have hp1:H1 p=none:=by rw[zG nbp.symm] at hp; exact hp
 have hl1:H1 l=none:=by rw[zG nbl.symm,zG npl.symm,zG nbl.symm] at hl; exact hl
 have sE:xX (λx=>x=b) H1 (upd (upd (upd (upd (upd H1 b (.ins bkC dx (zEy "state" (.ref d) []))) p (.lst [])) b (.ins bkC dx (zEy "past" (.ref p) (zEy "state" (.ref d) [])))) l (.lst [])) b (.ins bkC dx (bkF d p l))):=λx o hx e=>by
  have n1:=zL e hp1;have n2:=zL e hl1;rw[zG hx,zG n2,zG hx,zG n1,zG hx];exact .inl e
 have nd:∀ a kvs,Rd H1 a (.dK kvs)->¬ a=b:=λa kvs h z=>by
  subst z;rcases h with h | ⟨o,h⟩ <;> rw[hb1] at h <;> cases h
 have np:∀ a xs,H1 a=some (.tup xs)->¬ a=b:=λa xs h z=>by
  subst z;rw[hb1] at h;cases h
 refine q p l _ ((xX.of s1).trans sE) (s1.free hp1) (s1.free hl1) ⟨dx,d,[],[],zA,st.samE sE nd np,?_,?_,rfl,rfl,npl.symm⟩
 ·rw[zG nbp.symm,zG npl,zG nbp.symm,zA]
 ·rw[zG nbl.symm,zA]
def zHn(_:ae):Sp:=λvs H Q _=>∃(b p:af)(S:BS)(past later:List (Deed×BS)),vs=[.ref b]/\zL5 bkC H b p S past later/\zEr S /\
 ∀(c:af)(zs:List V)(H':Hp),Same H H'->H' c=some (.lst zs)->wG H' (zPx S) zs->Q (.ref c) H'
theorem zPa(F:Fun K "marks" "Book.marks" zCo f fd)(Z:Zs mg)(CB:Cb P w mg base)  : yY P w K mg base CX0 1 f fd ["self"] (zHn K):=by
 specialize zHe
 ·obtain⟨b,p,S,past,later,rfl,_⟩:=h;rfl
 obtain⟨b,p,S,past,later,rfl,⟨dx,d,l,ps,ls,k⟩,nt,q⟩:=h;obtain⟨m,bk,r,n,st⟩:=k.st;obtain⟨kvs,hm,kv⟩:=id st.ma;have fm:=nt.well.good.few.ma;refine⟨_,(zC (qX (i:=1) zHe.nd rfl (kU rfl) (zO (zW hr) (zAb CB.state (pv 0)) zJ (λ_ _=>rfl)))
   (zF (zN (tT (T:=["name"]) (caps:=[("places",1)]) ⟨rfl,by decide +kernel,by decide +kernel,rfl,⟨⟨rfl,rfl,cT rfl⟩,bB⟩⟩ rfl (zNe (zS zJp rfl Z.sorted vL (zB (xE (zDu rfl) rfl Z.list zBj (zB (pv 1) zH)) zH))) (λ_=>(qB (i:=0) (show(["name","places"]:List az).Nodup by decide +kernel) rfl (cT rfl))) (λ_=>uG) (λ_=>(xF (zB (pv 0) (zB (zLx zHz (zO (zW hr) (pv 1) (pv 0) (λ_ _=>rfl)) yN (λ_ _=>rfl)) (zB (zLx zHz (zO (zW hr) (pv 1) (pv 0) (λ_ _=>rfl)) yN (λ_ _=>rfl)) zH))))))))),?_⟩
 try dsimp only[L2.cxOf]
 refine⟨_,U,b,dx,_,_,U,k.ob,qN,d,.ref m,U,.inl ⟨_,.inr "marks",st.at_,U,tF.symm⟩,_,U,m,kvs,U,hm,λg hg=>?_⟩;rw[zH9 kv];have s1:=zD hg (.lst ((S.marks.map (·.1)).map V.str));refine⟨g,_,U,SqL.of zA,(by rw[aa]; lia),λt ht=>?_⟩;rw[zB5];obtain⟨ms,hms⟩:∃ ms,ms=vG (vX ((S.marks.map (·.1)).map .inr)) S.marks:=⟨_,rfl⟩;rw[<- hms];have lm:ms.length<=60:=by
  have:=zJw (S:=S);unfold zPx at this;rw[<- hms,aa] at this;lia
 have s2:=s1.trans (zD ht (.lst ((ms.map (·.1)).map V.str)));refine⟨t,U,.inl ⟨⟨_,SqL.of zA⟩,λcc D hD=>?_⟩⟩;refine zOt (K:=K) (a:=t) (xs:=(ms.map (·.1)).map V.str) (λi σ zs H'=>Same (upd (upd H g (.lst ((S.marks.map (·.1)).map V.str))) t (.lst ((ms.map (·.1)).map V.str))) H'/\H' D=some (.lst zs)/\wG H' ((ms.take i).map mkD) zs/\zs.length=i/\∃ u:Option V,σ=[u,some (.ref m)])
  ⟨zD hD _,zA,yH.mpr rfl,rfl,none,rfl⟩ (λi σ zs H' _ hq=>⟨SqL.of (hq.1 _ _ zA),hq.2.1⟩) ?_ ?_
 ·rintro i x σ zs H' hi ⟨sH,eD,rp,lz,u,rfl⟩;rw[bD,ak,aH] at hi;obtain⟨e,hx,rfl⟩:=hi;have me:e∈S.marks:=zE9 (by rw[<- hms]; exact aJ hx);have hil:=(aM.mp hx).1;obtain⟨kv',a,g1,g2,g3⟩:=zGj (st.ma.to (.of (s2.trans sH))) (show zP S e.1=some e.2 from zD3 nt.nm me);have dg:zUz H' m (.str e.1) (some (.ref a)):=.inl ⟨kv',.inr e.1,g1,rfl,g2.symm⟩;exists _,U,_,U,_,U,m,.ref a,U,dg;refine⟨a,_,0,.int e.2.1,U,U,.inr (SqT.of g3),U,_,U,_,U,m,.ref a,U,dg,a,_,1,.int e.2.2,U,U,.inr (SqT.of g3),U,sz3,λt3 ht3=>?_⟩;have s4:=zD ht3 (.tup [.str e.1,.int e.2.1,.int e.2.2]);have eD4:=s4 _ _ eD;refine⟨eD4,zV (by lia),(sH.trans s4).putNew hD,zA,?_,by rw[aC,lz]; rfl,_,rfl⟩;rw[bN,hx,aG];refine(wG.app (rp.to (.of s4)) (.one (yJ.mpr ⟨t3,_,rfl,zA,zK.mpr ⟨_,_,rfl,zY.mpr rfl,.two (yB.mpr rfl) (yB.mpr rfl)⟩⟩))).sam (sI eD4) (zRr eD4)
 ·rintro σ zs H' ⟨sH,eD,rp,_,u,rfl⟩;rw[aa,aa,b7,hms] at rp;exact q D zs H' (s2.trans sH) eD rp
def zHa(_:ae):Sp:=λvs H Q _=>∃(b p:af)(S:BS)(past later:List (Deed×BS)),vs=[.ref b]/\zL5 bkC H b p S past later/\zEr S /\
 ∀(c:af)(zs:List V)(H':Hp),Same H H'->H' c=some (.lst zs)->wG H' (zJk (bkE S.banks)) zs->Q (.ref c) H'
theorem zOz(F:Fun K "banks" "Book.banks" zCr f fd)(Z:Zs mg)(CB:Cb P w mg base)  : yY P w K mg base CX0 1 f fd ["self"] (zHa K):=by
 specialize zOy
 ·obtain⟨b,p,S,past,later,rfl,_⟩:=h;rfl
 obtain⟨b,p,S,past,later,rfl,⟨dx,d,l,ps,ls,k⟩,nt,q⟩:=h;obtain⟨m,bk,r,n,st⟩:=k.st;obtain⟨kvs,hb,kv⟩:=st.ba;have lk:kvs.length=S.banks.length:=by rw[kv.length]; unfold bkE; rw[aa]
 exists _,(zF (zN (zS (zDz rfl) rfl Z.sorted vL (zB (zEx (zO (zW hr) (zAb CB.state (pv 0)) zJ (λ_ _=>rfl))) zH))))
 try dsimp only[L2.cxOf]
 refine⟨_,U,b,dx,_,_,U,k.ob,qN,d,.ref bk,U,.inl ⟨_,.inr "banks",st.at_,U,zA1.symm⟩,bk,_,U,hb,λv hv=>?_⟩;have s1:=zD hv (.ext (zA8 v bk));refine⟨v,bk,kvs,U,zA,Rd.same hb s1,(by have:=nt.well.good.few.ba; lia),(by rw[kv.keys]; exact nt.oneB),(by rw[kv.keys]; exact nt.ndB),λc as H' s2 hc hl e2 ha=>?_⟩;rw[kv.keys] at e2;exact q c _ H' (s1.trans s2) e2 (zAm (kv.to (.of (s1.trans s2))) hl (λj a e h1 h2=>(ha j a e h1 h2).2) _)
def zLj(_:ae):Sp:=λvs H Q _=>∃(b p:af)(S:BS)(past later:List (Deed×BS)),vs=[.ref b]/\zL5 bkC H b p S past later/\Few S /\
 ∀(c:af)(xs:List V)(H':Hp),Same H H'->H c=none->H' c=some (.lst xs)->wG H' (S.runs.map ptD) xs->Q (.ref c) H'
theorem zRu(F:Fun K "runs" "Book.runs" zEo f fd)(Z:Zs mg)(CB:Cb P w mg base)  : yY P w K mg base CX0 1 f fd ["self"] (zLj K):=by
 specialize zJ8
 ·obtain⟨b,p,S,past,later,rfl,_⟩:=h;rfl
 obtain⟨b,p,S,past,later,rfl,⟨dx,d,l,ps,ls,k⟩,few,q⟩:=h;obtain⟨m,bk,r,n,st⟩:=k.st;obtain⟨kvs,hr1,kv⟩:=id st.ru;have lr:kvs.length=S.runs.length:=by rw[kv.length,zBh]
 refine⟨_,(zC (qX (i:=1) zJ8.nd rfl (kU rfl) (zO (zW hr) (zAb CB.state (pv 0)) zJ (λ_ _=>rfl)))
   (zF (zN (tT (T:=["number"]) (caps:=[("runs",1)]) ⟨rfl,by decide +kernel,by decide +kernel,rfl,⟨⟨rfl,rfl,cT rfl⟩,bB⟩⟩ rfl (vK rfl Z.range (zB (zS vM rfl Z.len wQ (zB (pv 1) zH)) zH)) (λ_=>(qB (i:=0) (show(["number","runs"]:List az).Nodup by decide +kernel) rfl (cT rfl))) (λ_=>uG) (λ_=>(zO (zW hr) (pv 1) (pv 0) (λ_ _=>rfl))))))),?_⟩
 try dsimp only[L2.cxOf]
 exists _,U,b,dx,_,_,U,k.ob,qN,d,.ref r,U,.inl ⟨_,.inr "runs",st.at_,U,rE.symm⟩,_,U,r,kvs,U,hr1;refine⟨_,U,(by have:=few.ru; lia),(by have:=few.ru; lia),λcc D hD=>zBr (lo:=0) (n:=(kvs.length:Int).toNat) (λi σ ys H'=>Same H H'/\H' D=some (.lst ys)/\wG H' ((S.runs.take i).map ptD) ys/\∃ u:Option V,σ=[u,some (.ref r)])
  ⟨zD hD _,zA,yH.mpr rfl,none,rfl⟩ (λi σ ys H' _ hq=>hq.2.1) ?_ ?_⟩
 ·rintro i σ ys H' hi ⟨sH,eD,rp,u,rfl⟩;have hi':i<S.runs.length:=by lia
  have gi:S.runs[i]?=some S.runs[i]:=aj hi';obtain⟨kv',a,g1,g2,g3⟩:=zTg (st.ru.to (.of sH)) gi;refine⟨_,U,_,U,r,.ref a,U,.inl ⟨kv',.inl (i:Int),g1,by rw[nI]; rfl,g2.symm⟩,eD,zV (by rw[rp.length,aa,cm]; have:=few.ru; lia),sH.putNew hD,zA,?_,_,rfl⟩;rw[bN,gi,aG];have sE:xX (λx=>x=D) H' (upd H' D (.lst (ys++[.ref a]))):=λx o hx e=>.inl (by rw[zG hx]; exact e);have np:∀ b xs,H' b=some (.tup xs)->¬ b=D:=λb xs e z=>by rw[z,eD] at e; cases e
  exact wG.app (rp.sam sE np) (.one ((tW g3).sam sE np))
 ·rintro σ ys H' ⟨sH,eD,rp,u,rfl⟩;rw[show(kvs.length:Int).toNat=S.runs.length by lia,b7] at rp;exact q D ys H' sH hD eD rp
def zH0(_:ae):Sp:=λvs H Q _=>∃(b p:af)(S:BS)(past later:List (Deed×BS)),vs=[.ref b]/\zL5 bkC H b p S past later/\zEr S /\
 ∀(c:af)(zs:List V)(H':Hp),Same H H'->H' c=some (.lst zs)->wG H' (zJk (ntE S.notes)) zs->Q (.ref c) H'
theorem zO5(F:Fun K "notes" "Book.notes" zCt f fd)(Z:Zs mg)(CB:Cb P w mg base)  : yY P w K mg base CX0 1 f fd ["self"] (zH0 K):=by
 specialize zPw
 ·obtain⟨b,p,S,past,later,rfl,_⟩:=h;rfl
 obtain⟨b,p,S,past,later,rfl,⟨dx,d,l,ps,ls,k⟩,nt,q⟩:=h;obtain⟨m,bk,r,n,st⟩:=k.st;obtain⟨kvs,hb,kv⟩:=st.no;have lk:kvs.length=S.notes.length:=by rw[kv.length]; unfold ntE; rw[aa]
 exists _,(zF (zN (zS (zDz rfl) rfl Z.sorted vL (zB (zEx (zO (zW hr) (zAb CB.state (pv 0)) zJ (λ_ _=>rfl))) zH))))
 try dsimp only[L2.cxOf]
 refine⟨_,U,b,dx,_,_,U,k.ob,qN,d,.ref n,U,.inl ⟨_,.inr "notes",st.at_,U,qO.symm⟩,n,_,U,hb,λv hv=>?_⟩;have s1:=zD hv (.ext (zA8 v n));refine⟨v,n,kvs,U,zA,Rd.same hb s1,(by have:=nt.well.good.few.no; lia),(by rw[kv.keys]; exact nt.oneN),(by rw[kv.keys]; exact nt.ndN),λc as H' s2 hc hl e2 ha=>?_⟩;rw[kv.keys] at e2;exact q c _ H' (s1.trans s2) e2 (zAm (kv.to (.of (s1.trans s2))) hl (λj a e h1 h2=>(ha j a e h1 h2).2) _)
def zBn(_:ae):Sp:=λvs H Q _=>∃(b p:af)(S:BS)(past later:List (Deed×BS)),vs=[.ref b]/\zL5 bkC H b p S past later/\Q (.int S.coming) H
theorem zL6(F:Fun K "coming" "Book.coming" zA3 f fd)(Z:Zs mg)(CB:Cb P w mg base)  : yY P w K mg base CX0 1 f fd ["self"] (zBn K):=by
 specialize zM4
 ·obtain⟨b,p,S,past,later,rfl,_⟩:=h;rfl
 obtain⟨b,p,S,past,later,rfl,⟨dx,d,l,ps,ls,k⟩,q⟩:=h;obtain⟨m,bk,r,n,st⟩:=k.st;exists _,(zF (zN (zO (zW hr) (zAb CB.state (pv 0)) zJ (λ_ _=>rfl))))
 try dsimp only[L2.cxOf]
 exact⟨_,U,b,dx,_,_,U,k.ob,qN,d,.int S.coming,U,.inl ⟨_,.inr "coming",st.at_,U,zFb.symm⟩,q⟩
theorem zWh{H:Hp} : ∀(n:Nat)(d:Dt){x y:V},dep n d->Rep H d x->Rep H d y->DR H n x y
 | n,.int i,x,y,_,h1,h2=>by rw[yB.mp h1,yB.mp h2]; exact DR.int rfl
 | n,.str z,x,y,_,h1,h2=>by rw[zY.mp h1,zY.mp h2]; exact DR.str rfl
 | 0,.tup _,_,_,h,_,_=>h.elim
 | n+1,.tup l,x,y,h,h1,h2=>by
  obtain⟨a,xs,rfl,ha,ra⟩:=yJ.mp h1;obtain⟨b,ys,rfl,hb,rb⟩:=yJ.mp h2;have hl:l.length<=900:=h.1;refine .inr ⟨a,b,xs,ys,false,rfl,rfl,ha,hb,by rw[ra.length,rb.length],by rw[ra.length]; lia,λi u v g1 g2=>?_⟩;obtain⟨d,e1,r1⟩:=ra.back g1;obtain⟨d',e2,r2⟩:=rb.back g2;rw[e1] at e2;cases e2;exact zWh n d (h.2 d (aJ e1)) r1 r2
theorem zIe{H:Hp}{n:Nat}{l:List Dt}{a b:af}{xs ys:List V}(h:∀ d∈l,dep n d)(hl:l.length<=900)(ha:H a=some (.lst xs))(hb:H b=some (.lst ys))(ra:wG H l xs)(rb:wG H l ys):DR H (n+1) (.ref a) (.ref b):=by
 refine .inr ⟨a,b,xs,ys,true,rfl,rfl,ha,hb,by rw[ra.length,rb.length],by rw[ra.length]; lia,λi u v g1 g2=>?_⟩;obtain⟨d,e1,r1⟩:=ra.back g1;obtain⟨d',e2,r2⟩:=rb.back g2;rw[e1] at e2;cases e2;exact zWh n d (h d (aJ e1)) r1 r2
theorem zVo{H:Hp}{n:Nat}{a b:af}{x1 x2 y1 y2:V}(ha:H a=some (.lst [x1,x2]))(hb:H b=some (.lst [y1,y2]))(h1:DR H n x1 y1)(h2:DR H n x2 y2):DR H (n+1) (.ref a) (.ref b):=by
 refine .inr ⟨a,b,[x1,x2],[y1,y2],true,rfl,rfl,ha,hb,rfl,(by show 2<=1000; decide),λi u v g1 g2=>?_⟩
 match i,g1,g2 with
 | 0,g1,g2=>cases g1; cases g2; exact h1
 | 1,g1,g2=>cases g1; cases g2; exact h2
def zS9(as:List af)(kvs:List (Key×V)):List (af×Key×List V):=(as.zip kvs).map λx=>(x.1,x.2.1,[x.2.2])
theorem zOk{as:List af}{kvs:List (Key×V)}(h:as.length=kvs.length):(zS9 as kvs).map (·.1)=as:=by
 unfold zS9;rw[bD];exact List.map_fst_zip (ix h)
theorem zHc{as:List af}{kvs:List (Key×V)}(h:as.length=kvs.length):(zS9 as kvs).map (·.2.1)=kvs.map (·.1):=by
 unfold zS9;rw[bD];have e:=lA (l₁:=as) (l₂:=kvs) (ix h.symm);rw[<- congrArg (List.map (·.1)) e,bD];rfl
theorem zR6{H:Hp}{as:List af}{kvs:List (Key×V)}(ha:∀ (j:Nat) (a:af) (e:Key×V),as[j]?=some a->kvs[j]?=some e->H a=some (.tup [kV e.1,e.2])):∀ t∈zS9 as kvs,H t.1=some (.tup (kV t.2.1::t.2.2)):=λt ht=>by
 unfold zS9 at ht;obtain⟨x,hx,rfl⟩:=aF.mp ht;obtain⟨j,hj⟩:=i4.mp hx;rw[List.getElem?_zip_eq_some] at hj;exact ha j _ _ hj.1 hj.2
def zF6(_:ae):Sp:=λvs H Q _=>∃(b p d:af)(S:BS)(past later:List (Deed×BS)),vs=[.ref b,.ref d]/\zL5 bkC H b p S past later/\zS6 H d S/\zEr S/\∀ H',Sam H H'->Q (.bl true) H'
theorem zMq(F:Fun K "_law_stands" "_law_stands" zA4 f fd)(Z:Zs mg)(CB:Cb P w mg base)(yCd:Has P w K mg base "_law_same" 6 ["_law_told","_law_due_here"] (zGo K))(h_b_notes:zR2 P w K mg base zIq 1 ["self"] (zH0 K))(h_b_coming:zR2 P w K mg base zB6 1 ["self"] (zBn K))(h_b_runs:zR2 P w K mg base zMb 1 ["self"] (zLj K))(yBg:Has P w K mg base "_law_marks_of" 1 ["_law_m"] (zCa K))(h_b_banks:zR2 P w K mg base zIj 1 ["self"] (zHa K))(h_b_marks:zR2 P w K mg base zI7 1 ["self"] (zHn K)):yY P w K mg base CX0 7 f fd ["_law_book","_law_m"] (zF6 K):=by
 specialize zMz
 ·obtain⟨b,p,d,S,past,later,rfl,_⟩:=h;rfl
 obtain⟨b,p,d,S,past,later,rfl,bk,lw,nt,q⟩:=h;have no:∀{d l:af}{m:az},m = "marks" \/ m = "banks" \/ m = "runs" \/ m = "coming" \/ m = "notes" ->(bkF d p l).lookup m=none:=λ{d l m} e=>by rcases e with e | e | e | e | e <;> subst e <;> exact zW0 (by decide +kernel) (by decide +kernel) (by decide +kernel)
 have few:=nt.well.good.few
 refine'⟨_,(zC (zZ (zAf (zA6 (vA yCd (hr.mono (by decide)) rfl (zB (vW (zB (tR CB.m_marks h_b_marks (hr.mono (by decide)) (pv 0)) (zB (tR CB.m_banks h_b_banks (hr.mono (by decide)) (pv 0)) zH))) (zB (vW (zB ?_ (zB (zS zAd rfl Z.sorted vL (zB (xE (zG8 rfl) rfl Z.list zBj (zB (zEx (zO (zW hr) (pv 1) zJ (λ_ _=>rfl))) zH)) zH)) zH))) zH))))) (zF (zN zDi)) zM)
   (zC (zZ (zAf (zA6 (vA yCd (hr.mono (by decide)) rfl (zB (vW (zB (tR CB.m_runs h_b_runs (hr.mono (by decide)) (pv 0)) (zB (tR CB.m_coming h_b_coming (hr.mono (by decide)) (pv 0)) zH))) (zB (vW (zB (zO (zW hr) (pv 1) zJ (λ_ _=>rfl)) (zB (zO (zW hr) (pv 1) zJ (λ_ _=>rfl)) zH))) zH))))) (zF (zN zDi)) zM)
   (zF (zN (vA yCd (hr.mono (by decide)) rfl (zB (tR CB.m_notes h_b_notes (hr.mono (by decide)) (pv 0)) (zB (zS zAd rfl Z.sorted vL (zB (xE (zG8 rfl) rfl Z.list zBj (zB (zEx (zO (zW hr) (pv 1) zJ (λ_ _=>rfl))) zH)) zH)) zH))))))),?_⟩
 nofun
 obtain⟨dx,_,_,_,_,k⟩:=id bk;refine⟨_,U,b,dx,_,U,k.ob,no (.inl rfl),b,p,S,past,later,U,bk,nt,λc1 z1 H1 s1 e1 r1=>?_⟩;have bk1:=bk.to (.of s1);obtain⟨dx1,_,_,_,_,k1⟩:=id bk1;refine⟨_,U,b,dx1,_,U,k1.ob,no (.inr (.inl rfl)),b,p,S,past,later,U,bk1,nt,λc2 z2 H2 s2 e2 r2=>?_⟩;refine⟨sz2,λL1 hL1=>?_⟩;have sL1:=zD hL1 (.lst [.ref c1,.ref c2]);have s12:=s1.trans (s2.trans sL1);have e1':=(s2.trans sL1) _ _ e1;have r1':=r1.to (.of (s2.trans sL1));have e2':=sL1 _ _ e2;have r2':=r2.to (.of sL1);have eL1:upd H2 L1 (.lst [.ref c1,.ref c2]) L1=some (.lst [.ref c1,.ref c2]):=zA;generalize upd H2 L1 (.lst [.ref c1,.ref c2])=H3 at sL1 s12 e1' r1' e2' r2' eL1 ⊢;refine⟨_,U,d,S,U,lw.to (.of s12),nt,λc3 z3 H4' s3 e3 r3=>?_⟩;have lw4:=(lw.to (.of s12)).to s3;obtain⟨m,bb,r,n,lwA⟩:=lw4;obtain⟨kvs,hb,kv⟩:=lwA.ba;have lk:kvs.length<=60:=by
  have:=nt.well.good.few.ba;rw[kv.length];unfold bkE;rw[aa];exact this
 refine⟨_,U,d,.ref bb,U,.inl ⟨_,.inr "banks",lwA.at_,U,qJ.symm⟩,bb,kvs,U,hb,λv hv=>?_⟩;have sv:=zD hv (.ext (zA8 v bb));refine⟨v,bb,kvs,U,zA,Rd.same hb sv,(by lia),λc4 as H4 s4 hc4 hl e4 ha=>?_⟩;have sv4:=sv.trans s4;have kv4:=kv.to (.of sv4);have at4:∀(j:Nat)(a:af)(e:Key×V),as[j]?=some a->kvs[j]?=some e->H4 a=some (.tup [kV e.1,e.2]):=λj a e h1 h2=>(ha j a e h1 h2).2;exists c4,zS9 as kvs,U,SqL.of (by rw[zOk hl]; exact e4),zR6 at4,(by unfold zS9; rw[aa,lN]; lia),(by rw[zHc hl,kv.keys]; exact nt.oneB),(by rw[zHc hl,kv.keys]; exact nt.ndB);rw[zOk hl,zHc hl,kv.keys];intro c5 hc5;have s5:=zD hc5 (.lst ((vG (vX ((bkE S.banks).map (·.1))) as).map V.ref));have s45:=sv4.trans s5;have rr5:wG _ (zJk (bkE S.banks)) _:=(zAm kv4 hl at4 (vX ((bkE S.banks).map (·.1)))).to (.of s5);refine⟨sz2,λL2 hL2=>?_⟩;have sL2:=zD hL2 (.lst [.ref c3,.ref c5]);have sz:=s3.trans (xX.of (s45.trans sL2));refine⟨.ref L1,.ref L2,U,?_,λH5 s5'=>⟨_,U,yW ?_⟩⟩
 ·refine zVo (n:=4) (sz.lst id eL1) zA (zIe (n:=3) zSy (by rw[zJw]; have:=few.ma; lia) (sz.lst id e1') (s45.trans sL2 _ _ (e3)) (r1'.to sz) (r3.to (.of (s45.trans sL2)))) (zIe (n:=3) (zRp nt) (by rw[zJj]; unfold bkE; rw[aa]; have:=few.ba; lia) (sz.lst id e2') (sL2 _ _ zA) (r2'.to sz) (rr5.to (.of sL2)))
 have s05:Sam H H5:=((xX.of s12).trans sz).trans (.of s5');clear sz s5' sL2 s45 rr5 s5 kv4 at4 sv4 e4 ha sv hv hb kv lwA r3 e3 s3 s12 e1' r1' e2' r2' eL1 sL1 hL1 hL2 hc5 r2 e2 s2 bk1 k1 r1 e1 s1 k hc4;have bk5:=bk.to s05;have lw5:=lw.to s05;obtain⟨dx5,_,_,_,_,k5⟩:=id bk5;refine⟨_,U,b,dx5,_,U,k5.ob,no (.inr (.inr (.inl rfl))),b,p,S,past,later,U,bk5,few,λc6 z6 H6 s6 _ e6 r6=>?_⟩;have bk6:=bk5.to (.of s6);obtain⟨dx6,_,_,_,_,k6⟩:=id bk6;exists _,U,b,dx6,_,U,k6.ob,no (.inr (.inr (.inr (.inl rfl)))),b,p,S,past,later,U,bk6;refine⟨sz2,λL3 hL3=>?_⟩;have sL3:=zD hL3 (.lst [.ref c6,.int S.coming]);obtain⟨m6,b6,r6',n6,lwA6⟩:=lw5.to (.of (s6.trans sL3));obtain⟨rs6,hrs6,rrs6⟩:=lwA6.ru;refine⟨_,U,d,.ref r6',U,.inl ⟨_,.inr "runs",lwA6.at_,U,uA.symm⟩,_,U,d,.int S.coming,U,.inl ⟨_,.inr "next",lwA6.at_,U,zAg.symm⟩,sz2,λL4 hL4=>?_⟩;have sL4:=zD hL4 (.lst [.ref r6',.int S.coming]);refine⟨.ref L3,.ref L4,U,?_,λH7 s7=>⟨_,U,yW ?_⟩⟩
 ·refine zVo (n:=4) (sL4 _ _ zA) zA (zIe (n:=3) (λd hd=>?_) (by rw[aa]; have:=few.ru; lia) (sL4 _ _ (sL3 _ _ e6)) (sL4 _ _ hrs6) ((r6.to (.of sL3)).to (.of sL4)) (rrs6.to (.of sL4))) (DR.int rfl);obtain⟨c,_,rfl⟩:=aF.mp hd;exact zN8
 have s07:Sam H H7:=s05.trans (.of (s6.trans (sL3.trans (sL4.trans s7))));have bk7:=bk.to s07;have lw7:=lw.to s07;obtain⟨dx7,_,_,_,_,k7⟩:=id bk7;refine⟨_,U,b,dx7,_,U,k7.ob,no (.inr (.inr (.inr (.inr rfl)))),b,p,S,past,later,U,bk7,nt,λc8 z8 H8 s8 e8 r8=>?_⟩;have lw8:=lw7.to (.of s8);obtain⟨m,bb,r,n,lwA⟩:=lw8;obtain⟨kvs,hb,kv⟩:=lwA.no;have lk:kvs.length<=60:=by
  have:=nt.well.good.few.no;rw[kv.length];unfold ntE;rw[aa];exact this
 refine⟨_,U,d,.ref n,U,.inl ⟨_,.inr "notes",lwA.at_,U,uT.symm⟩,n,kvs,U,hb,λv hv=>?_⟩;have sv:=zD hv (.ext (zA8 v n));refine⟨v,n,kvs,U,zA,Rd.same hb sv,(by lia),λc4 as H4 s4 hc4 hl e4 ha=>?_⟩;have sv4:=sv.trans s4;have kv4:=kv.to (.of sv4);have at4:∀(j:Nat)(a:af)(e:Key×V),as[j]?=some a->kvs[j]?=some e->H4 a=some (.tup [kV e.1,e.2]):=λj a e h1 h2=>(ha j a e h1 h2).2;exists c4,zS9 as kvs,U,SqL.of (by rw[zOk hl]; exact e4),zR6 at4,(by unfold zS9; rw[aa,lN]; lia),(by rw[zHc hl,kv.keys]; exact nt.oneN),(by rw[zHc hl,kv.keys]; exact nt.ndN);rw[zOk hl,zHc hl,kv.keys];intro c5 hc5;have s5:=zD hc5 (.lst ((vG (vX ((ntE S.notes).map (·.1))) as).map V.ref));have s45:=sv4.trans s5;have rr5:wG _ (zJk (ntE S.notes)) _:=(zAm kv4 hl at4 (vX ((ntE S.notes).map (·.1)))).to (.of s5);exact⟨.ref c8,.ref c5,U,zIe (n:=4) (zQw nt) (by rw[zJj]; unfold ntE; rw[aa]; have:=few.no; lia) (s45 _ _ e8) zA (r8.to (.of s45)) rr5,λH9 s9=>q H9 ((s07.trans (.of (s8.trans s45))).trans (.of s9))⟩
def BkF(H0 H:Hp)(b p:af)(S:BS)(past:List (Deed×BS)):Prop:=∃ l,H0 l=none/\BkL bkC H b p l S past []
theorem BkF.at{H0 H:Hp}{b p:af}{S:BS}{past:List (Deed×BS)}(h:BkF H0 H b p S past):zL5 bkC H b p S past []:=let ⟨_,_,k⟩:=h; k.at
theorem BkF.to{H0 H H1:Hp}{b p:af}{S:BS}{past:List (Deed×BS)}(h:BkF H0 H b p S past)(s:Sam H H1):BkF H0 H1 b p S past:=let ⟨l,e,k⟩:=h;⟨l,e,k.to s⟩
theorem BkF.from{H0 H1 H:Hp}{b p:af}{S:BS}{past:List (Deed×BS)}(h:BkF H1 H b p S past)(s:Sam H0 H1):BkF H0 H b p S past:=let ⟨l,e,k⟩:=h;⟨l,s.free id e,k⟩
def spBk(φ:List V->Hp->Deed->Prop):Sp:=λvs H Q E=>∃(b p:af)(xs:List V)(S:BS)(D:Deed)(past later:List (Deed×BS)),vs=.ref b::xs/\zL5 bkC H b p S past later/\φ xs H D/\zIn D/\zL3 S/\past.length<=500 /\
 (zU S D=none->∀(H':Hp),xX (Bp b p) H H'->BkF H H' b p (aft S D) (past++[(D,S)])->Q (zM0 S D) H')/\∀ c,zU S D=some c->∀ H',Sam H H'->E (.ref (axC c)) none H'
theorem numD_q{S:BS}{D:Deed}{Q:VK}{H:Hp}(h:(aft S D).coming=S.coming)(q:Q (zM0 S D) H):Q .non H:=by
 rw[zM0,if_pos h.symm] at q;exact q
def zJx(_:ae):Sp:=λvs H Q E=>∃(b p:af)(v:V)(S:BS)(D:Deed)(past later:List (Deed×BS)),vs=[.ref b,v]/\zL5 bkC H b p S past later/\Rep H D.dt v/\zIn D/\zL3 S/\past.length<=500 /\
 (zU S D=none->∀(H':Hp),xX (Bp b p) H H'->BkF H H' b p (aft S D) (past++[(D,S)])->Q (if S.coming=(aft S D).coming then .non else .int S.coming) H')/\∀ c,zU S D=some c->∀ H',Sam H H'->E (.ref (axC c)) none H'
theorem zRf(F:Fun K "deed" "Book.deed" zE3 f fd)(Z:Zs mg)(CB:Cb P w mg base)(h_b_coming:zR2 P w K mg base zB6 1 ["self"] (zBn K))(yBt:qW P w K mg base "after" 5 ["state","row"] (zHy K)):yY P w K mg base (CX1 P w) 6 f fd ["self","row"] (zJx K):=by
 refine F.okX zGi (λvs H Q E h=>?_) (λcdv A outer s H vs Q E hr h=>?_)
 ·obtain⟨b,p,v,S,D,past,later,rfl,_⟩:=h;rfl
 obtain⟨b,p,v,S,D,past,later,rfl,bk,hv,tm,wl,hl,q,bad⟩:=h;obtain⟨dx,d,l,ps,ls,k⟩:=bk;have no:∀{d l:af}{m:az},m = "coming" ->(bkF d p l).lookup m=none:=λ{d l m} e=>by subst e; exact zW0 (by decide +kernel) (by decide +kernel) (by decide +kernel)
 refine'⟨_,(zC (PS.nox (yE 2 zGi.nd (tR CB.m_coming h_b_coming (hr.mono (by decide)) (pv 0))))
   (zC (yE 3 zGi.nd (yI (λ_=>E) yBt yF (hr.mono (by decide)) rfl (zB (zAb CB.state (pv 0)) (zB (pv 1) zH))))
   (zC (PS.nox (yD (zJa (zAb CB.past (pv 0)) (zB (xF (zB (pv 1) (zB (zAb CB.state (pv 0)) zH))) zH))))
   (zC (PS.nox (zFt CB.state (pv 0) (pv 3)))
   (zC (PS.nox (zFt CB.later (pv 0) ?_))
   (zF (PS.nox (zN (vY (yM zW7 (tR CB.m_coming h_b_coming (hr.mono (by decide)) (pv 0)) (pv 2) (yX _)) zS5 (pv 2)))))))))),?_⟩
 nofun
 exists _,U,b,dx,_,U,k.ob,no rfl,b,p,S,past,later,U,⟨dx,d,l,ps,ls,k⟩;refine⟨_,U,b,dx,_,_,U,k.ob,qN,_,U,d,v,S,D,U,trivial,k.st,hv,tm,wl,λjn d' H1 s1 hd' st'=>?_,bad⟩;have k1:=k.to s1;have hv1:=hv.to s1;refine⟨_,U,b,dx,_,_,U,k1.ob,zXo,.inl ⟨U,_,SqL.of k1.pa⟩,_,U,_,U,b,dx,_,_,U,k1.ob,qN,sz2,λt ht=>?_⟩;have s2:=zD ht (.tup [v,.ref d]);have k2:=k1.to (.of s2);exists p,ps,.ref t,U,U,k2.pa,zV (by rw[k2.pp.len]; lia);have nbp:b≠p:=zRg k2.ob k2.pa (λz=>nomatch z);have e3:upd (upd H1 t (.tup [v,.ref d])) p (.lst (ps++[.ref t])) b=some (.ins bkC dx (bkF d p l)):=by rw[zG nbp]; exact k2.ob
 exists _,U,_,U,b,dx,_,U,e3,(by show 3<1000; decide);rw[zK2];refine⟨sz0,λg hg=>?_⟩;have nbg:b≠g:=zL zA hg;have npg:p≠g:=λz=>by
  rw[<- z,zG nbp.symm,zA] at hg;cases hg
 exists _,U,b,dx,_,U,(by rw[zG nbg,zA]),(by show 3<1000; decide);rw[zJm];have hgt:(upd H1 t (.tup [v,.ref d])) g=none:=by rw[zG nbg.symm,zG npg.symm] at hg; exact hg
 have sE:xX (Bp b p) (upd H1 t (.tup [v,.ref d])) (upd (upd (upd (upd (upd H1 t (.tup [v,.ref d])) p (.lst (ps++[.ref t]))) b (.ins bkC dx (bkF d' p l))) g (.lst [])) b (.ins bkC dx (bkF d' p g))):=λx o hx e=>by
  have n1:x≠b:=λz=>hx (.inl z);have n2:x≠p:=λz=>hx (.inr z);rw[zG n1,zG (zL e hgt),zG n1,zG n2];exact .inl e
 have nd:=zY8 k2.ob k2.pa;have np:=zZ3 k2.ob k2.pa;have st2:=st'.to (.of s2);have BK:BkL bkC (upd (upd (upd (upd (upd H1 t (.tup [v,.ref d])) p (.lst (ps++[.ref t]))) b (.ins bkC dx (bkF d' p l))) g (.lst [])) b (.ins bkC dx (bkF d' p g))) b p g (aft S D) (past++[(D,S)]) []:=by
  refine⟨dx,d',ps++[.ref t],[],zA,st2.samE sE nd np,?_,?_,?_,U,npg.symm⟩
  ·rw[zG nbp.symm,zG npg,zG nbp.symm,zA]
  ·rw[zG nbg.symm,zA]
  ·exact sN.app (sE.tup (np _ _ zA) zA) ((hv1.to (.of s2)).sam sE np) (k2.st.samE sE nd np) (k2.pp.samE sE nd np)
 have fin:=q jn _ (((s1.trans (.of s2)).wider (λ_ z=>z.elim)).trans sE) ⟨g,(s1.trans (.of s2)).free id hgt,BK⟩;exists _,U,b,dx,_,U,zA,no rfl,b,p,aft S D,_,[],U,BK.at,_,U,U,_,rfl;refine ifE (λe=>?_) (λe=>?_)
 ·rw[if_pos e.symm] at fin;exact fin
 ·rw[if_neg (λz=>e z.symm)] at fin;exact⟨_,U,fin⟩
def zJ5(_:ae):Sp:=λvs H Q _=>∃(b p:af)(v:V)(S:BS)(D:Deed)(past later:List (Deed×BS)),vs=[.ref b,v]/\zL5 bkC H b p S past later/\Rep H D.dt v/\zIn D/\zL3 S/\past.length<=500 /\
 (zU S D=none->∀(t:af)(H':Hp),xX (Bp b p) H H'->BkF H H' b p (aft S D) (past++[(D,S)])->H' t=some (.tup [.str "",zM0 S D])->Q (.ref t) H') /\
 ∀ c,zU S D=some c->∀(t:af)(H':Hp),Sam H H'->H' t=some (.tup [.str (zK1 c),.non])->Q (.ref t) H'
theorem zS0(F:Fun K "_law_done" "_law_done" zE5 f fd)(Z:Zs mg)(CB:Cb P w mg base)(h_b_deed:zWo P w K mg base zMg 6 ["self","row"] (zJx K))(yBn:ye3 P w K mg base "_law_refused" 1 ["_law_e"] (zD0 K)):yY P w K mg base CX0 7 f fd ["_law_book","_law_deed_here"] (zJ5 K):=by
 specialize zLp
 ·obtain⟨b,p,v,S,D,past,later,rfl,_⟩:=h;rfl
 obtain⟨b,p,v,S,D,past,later,rfl,bk,hv,tm,wl,hl,q,bad⟩:=h;obtain⟨dx,d,l,ps,ls,k⟩:=id bk;have no:∀{d l:af}{m:az},m = "deed" ->(bkF d p l).lookup m=none:=λ{d l m} e=>by subst e; exact zW0 (by decide +kernel) (by decide +kernel) (by decide +kernel)
 exists _,(zF (zZa (i:=2) (λ_ EE=>(zF (zN (xF (zB zJ (zB (zUs EE CB.m_deed h_b_deed zUd (hr.mono (by decide)) (pv 0) (zB (pv 1) zH)) zH)))))) CB.gMarkError zLp.nd rfl rfl (λ_=>(zF (zN (xF (zB (zUm yBn (hr.mono (by decide)) rfl (zB (pv 2) zH)) (zB zS5 zH))))))))
 try dsimp only[L2.cxOf]
 refine⟨_,U,b,dx,_,U,k.ob,no rfl,_,U,b,p,v,S,D,past,later,U,bk,hv,tm,wl,hl,λjn H1 s1 bk1=>?_,λc jc H1 s1=>?_⟩
 ·refine⟨sz2,λt ht=>?_⟩;have st:=zD ht (.tup [.str "",zM0 S D]);exact q jn t _ (s1.trans (.of st)) (bk1.to (.of st)) zA
 ·refine⟨?_,λea he=>?_⟩
  ·cases c
   ·exact CB.t_BadName_MarkError
   ·exact CB.t_Taken_MarkError
   ·exact CB.t_BadPlace_MarkError
   ·exact CB.t_Full_MarkError
   ·exact CB.t_NoMark_MarkError
   ·exact CB.t_Same_MarkError
   ·exact CB.t_Needed_MarkError
   ·exact CB.t_BadBank_MarkError
   ·exact CB.t_NoBank_MarkError
   ·exact CB.t_BadRun_MarkError
   ·exact CB.t_NoRun_MarkError
   ·exact CB.t_NoMoment_MarkError
   ·exact CB.t_BadWay_MarkError
   ·exact CB.t_BadTurn_MarkError
   ·exact CB.t_NoNote_MarkError
  ·have se:=zD he (zU1 ea (.ref (axC c)));refine⟨_,U,c,U,zA,λH2 s2=>⟨sz2,λt ht=>?_⟩⟩;have st:=zD ht (.tup [.str (zK1 c),.non]);exact bad c jc t _ (s1.trans (.of ((se.trans s2).trans st))) zA
theorem zQs{H:Hp}{n:Nat}{a b:af}{x:az}{y:V}(hy:(∃ i,y=.int i)\/y=.non)(ha:H a=some (.tup [.str x,y]))(hb:H b=some (.tup [.str x,y])):DR H (n+1) (.ref a) (.ref b):=by
 refine .inr ⟨a,b,[.str x,y],[.str x,y],false,rfl,rfl,ha,hb,rfl,(by show 2<=1000; decide),λi u v g1 g2=>?_⟩
 match i,g1,g2 with
 | 0,g1,g2=>cases g1; cases g2; exact DR.str rfl
 | 1,g1,g2 =>
  cases g1; cases g2;rcases hy with ⟨i,rfl⟩ | rfl
  ·exact DR.int rfl
  ·cases n
   ·exact⟨U,.inr (.inr (.inr rfl))⟩
   ·exact .inl ⟨rfl,.inr (.inr (.inr rfl))⟩
theorem zSh{S:BS}{D:Deed} : (∃ i,zM0 S D=.int i)\/zM0 S D=.non:=by
 unfold zM0;split
 ·exact .inr rfl
 ·exact .inl ⟨_,rfl⟩
theorem zHp{S:BS}{D:Deed} : (aft S D).coming=S.coming\/(aft S D).coming=S.coming+1:=by
 cases D <;> first | exact .inl rfl | exact .inr rfl
theorem zWu{D:Deed}(h:zWj D):zYp D:=by
 cases D <;> first | exact h | exact trivial
theorem zNm{H:Hp}{a x:af}{o:HO}(h:upd H a o x=none):H x=none:=by
 by_cases z:x=a
 ·rw[z,zA] at h; cases h
 ·rw[zG z] at h; exact h
theorem zT8{H H1:Hp}{b dx:af}{o o':HO}(s:xX (λx=>x=b) (upd (upd H dx o) b o') H1)(hb:H b=none)(hdx:H dx=none):Sam H H1:=λx v _ e=>by
 have n:x≠b:=zL e hb;exact s x v n (by rw[zG n,zG (zL e hdx)]; exact e)
theorem cutAH{ok:af->Hp->Prop}{G:Prop}{R:af->Hp->Prop}(h1:(∀ m H,ok m H->R m H)->G)(h2:∀ m H,ok m H->R m H):G:=h1 h2
def sp_law(K:ae):Sp:=λvs H Q _=>∃(a:af)(ns:List Int),vs=[.ref a]/\SqL K H a (ns.map V.int)/\ns.length<=63/\∀ H',Q (.bl true) H'
theorem ya6(F:Fun K "law" "law" zMi f fd)(Z:Zs mg)(CB:Cb P w mg base)(yBq:Has P w K mg base "_law_stands" 7 ["_law_book","_law_m"] (zF6 K))(yBu:Has P w K mg base "_law_after" 1 ["_law_m","_law_deed_here"] (zHu K))(yCd:Has P w K mg base "_law_same" 6 ["_law_told","_law_due_here"] (zGo K))(yCb:Has P w K mg base "_law_done" 7 ["_law_book","_law_deed_here"] (zJ5 K))(yCg:Has P w K mg base "_law_due" 5 ["_law_m","_law_deed_here"] (zOc K))(yCa:Has P w K mg base "_law_deed" 5 ["_law_d","_law_m","_law_names_here"] (zJi K))(yCe:Has P w K mg base "_law_new" 1 [] (zOl K))(h_b_init:zR2 P w K mg base zMe 2 ["self"] (zLr K))(yBv:Has P w K mg base "_law_names" 1 ["_law_some","_law_many"] (zHl K))(yBs:Has P w K mg base "_law_draws" 2 ["_law_script","_law_many"] (zHj K)):yY P w K mg base CX0 8 f fd ["_law_script"] (sp_law K):=by
 specialize zBd
 ·obtain⟨a,ns,rfl,_⟩:=h;rfl
 obtain⟨ad,ns,rfl,hS,hl,q⟩:=h
 refine'⟨_,(zC (yE 1 zBd.nd ?_)
   (zC (yE 2 zBd.nd ?_)
   (zC (yE 3 zBd.nd (zRs CB.make h_b_init (hr.mono (by decide)) CB.gBook))
   (zC (yE 4 zBd.nd (zKl yCe (hr.mono (by decide)) rfl))
   (zC (tO bZ rfl (vK rfl Z.range ?_) (rO 5 zBd.nd) (zC (yE 6 zBd.nd ?_)
   (zC (yE 7 zBd.nd ?_)
   (zC (yE 8 zBd.nd ?_)
   (zC (zZ ?_ (zF (zN zDi)) zM)
   (zC (zZ ?_ (zF (yE 4 zBd.nd ?_)) zM)
   (zC (zZ ?_ (zF zMn) zM)
   (zF (zZ ?_ (zF (zN zDi)) zM)))))))))
   (zF (zN ?_))))))),?_⟩
 nofun
 refine⟨_,U,ad,ns,290,U,hS,hl,by decide,by decide,λrr rows H1 s1 hr0 er1 l1 l2 bd=>?_⟩;obtain⟨v0,a0,y0⟩:=xG bd (k:=0) (by decide) (by lia);obtain⟨v1,a1,y1⟩:=xG bd (k:=1) (by decide) (by lia);obtain⟨v8,a8,y8⟩:=xG bd (k:=8) (by decide) (by lia);have cut:∀ k:Nat,k<=289->rG (rows.map V.int) (some (k:Int)) none=(rows.drop k).map V.int:=λk hk=>by rw[zBx,HT.sIx_nat rows.length 0 k,show min k rows.length=k by lia,show HT.sIx rows.length rows.length none=rows.length from rfl,cg (by rw[bG]; lia)]
 have sq:∀{H':Hp},H' rr=some (.lst (rows.map V.int))->Sq K H' rr (rows.map V.int):=λh=>.inl (SqL.of h);refine⟨_,U,_,U,rr,_,U,SqL.of er1,λc hc=>?_⟩;have ct2:rG (rows.map V.int) (some 2) none=(rows.drop 2).map V.int:=cut 2 (by decide);have sc:=zD hc (.lst (rG (rows.map V.int) (some 2) none));obtain⟨many,em⟩:∃ n:Nat,3+v0%4=(n:Int):=⟨(3+v0%4).toNat,by lia⟩;exists _,U,rr,_,_,_,U,U,sq (sc _ _ er1),a0,_,_,U,U,gt4,_,_,U,rfl;rw[em];refine⟨c,rows.drop 2,many,U,SqL.of (by rw[zA,ct2]),(by rw[bG]; lia),(by lia),(λv hv=>bd v (cN hv)),λR nms H2 s2 hR eR ln okn nod=>?_⟩;have er2:=s2 _ _ (sc _ _ er1);have ln1:1<=nms.length:=by lia
 clear s2 s1 er1 hR hr0 hS hl sc hc;intro bk dx hb hdx nbd;refine⟨bk,dx,U,zA,λp l0 H3 s3 hp hl0 bl=>⟨U,?_⟩⟩;have sA3:=zT8 s3 hb hdx;have fp:H2 p=none:=zNm (zNm hp);have nrr:rr≠p:=zL er2 fp;have nR:R≠p:=zL eR fp;have er3:=sA3.lst id er2;have eR3:=sA3.lst id eR;have bk3:=bl.at;clear sA3 s3 hp hl0 hb hdx nbd er2 eR fp bl;obtain⟨dy,dd,l3,ps,ls,k3⟩:=id bk3;refine⟨U,λd m b r n H5 s5 hd hm hrr ed em eb er en _ _=>?_⟩;have lw5:LwA H5 d m b r n BS.nil:=⟨.inl ed,.nil em,.nil eb,⟨[],er,yH.mpr rfl⟩,.nil en⟩;have nrp:r≠p:=(zL k3.pa hrr).symm;have er5:=s5 _ _ er3;have eR5:=s5 _ _ eR3;have bk5:=bk3.to (.of s5);have nB:∀{x:af}{xs:List V},H3 x=some (.lst xs)->x≠p->¬ Bp bk p x:=λe h z=>z.elim (λz=>by rw[z,k3.ob] at e; cases e) h;have nrrB:=nB er3 nrr;have nRB:=nB eR3 nR;clear nB k3 bk3 er3 eR3 s5 hd hm hrr ed em eb er en nrr nR;exists _,U,rr,_,_,_,U,U,sq er5,a1,_,_,U,U,(by show(0:Int)<25; decide);have n0:0<=v1%25:=by lia
 have n24:v1%25<=24:=by lia
 generalize v1%25=N at n0 n24 ⊢;refine⟨_,U,by lia,by lia,tV (lo:=0) (n:=N.toNat) (λi σ H'=>xX (Bp bk p) H5 H'/\∃(d':af)(S:BS)(past:List (Deed×BS)),zL5 bkC H' bk p S past []/\past.length<=i/\zEr S/\1<=S.coming/\S.coming<=1+i/\(∃ m b' r n,r≠p/\LwA H' d' m b' r n S)/\∃ u5 u6 u7 u8:Option V,σ=[some (.ref ad),some (.ref rr),some (.ref R),some (.ref bk),some (.ref d'),u5,u6,u7,u8])
  ⟨xX.refl _,d,BS.nil,[],bk5,am _,zEr.nil,by decide,by decide,⟨m,b,r,n,nrp,lw5⟩,none,none,none,none,rfl⟩ ?_ ?_⟩
 ·rintro i σ G hi ⟨sG,d',S,past,bkG,lp,nt,c1,c2,⟨m',b',r',n',nr',lwG⟩,u5,u6,u7,u8,rfl⟩;have erG:=sG.lst nrrB er5;have eRG:=sG.lst nRB eR5;have ck:rG (rows.map V.int) (some (9+11*(0+(i:Int)))) none=(rows.drop (9+11*i)).map V.int:=by
   rw[show 9+11*(0+(i:Int))=((9+11*i:Nat):Int) by lia];exact cut _ (by lia)
  refine⟨_,U,_,U,_,_,U,U,zY0 (by lia),_,_,U,U,_,U,rr,_,U,SqL.of erG,λc hc=>?_⟩;have sc:=zD hc (.lst (rG (rows.map V.int) (some (9+11*(0+(i:Int)))) none));refine⟨_,U,_,U,_,U,c,d',R,rows.drop (9+11*i),nms,S,U,(by rw[zA,ck]),(by rw[bG]; lia),(λv hv=>bd v (cN hv)),⟨m',b',r',n',lwG.to (.of sc)⟩,nt.well,c1,(by lia),sc _ _ eRG,ln1,okn,λv D G1 s1 rv tm dr=>?_⟩;have t1:=(xX.of sc).trans s1;clear sc hc ck erG eRG s1;refine⟨_,U,_,U,d',v,S,D,U,⟨m',b',r',n',lwG.to t1⟩,rv,tm,nt.well,zWu dr,λt G2 s2 et=>?_⟩;have t2:=t1.trans s2;have rv2:=rv.to s2;have bk2:=bkG.to t2;have lw2:=lwG.to t2;have sG2:xX (Bp bk p) H5 G2:=sG.trans (t2.wider λ_ z=>z.elim);clear t1 s2 rv bkG lwG sG t2;obtain⟨dx2,d2,l2,ps2,ls2,k2⟩:=id bk2;have nd2:=zY8 k2.ob k2.pa;have np2:=zZ3 k2.ob k2.pa;have nrB:¬ Bp bk p r':=λz=>z.elim (λz=>by
   obtain⟨rs,e,_⟩:=lw2.ru;rw[z,k2.ob] at e;cases e) nr'
  apply cutAH (ok:=λd3 G'=>xX (Bp bk p) H5 G'/\∃(S':BS)(past':List (Deed×BS)),zL5 bkC G' bk p S' past' []/\past'.length<=i+1/\zEr S'/\1<=S'.coming/\S'.coming<=1+(i+1:Nat)/\∃ m b' r n,r≠p/\LwA G' d3 m b' r n S')
  ·intro rest;refine⟨_,U,_,U,bk,p,v,S,D,past,[],U,bk2,rv2,tm,nt.well,(by lia),λjn t2 G3 s3 bf et2=>?_,λc jc t2 G3 s3 et2=>?_⟩
   ·rw[jn] at et;have et:G2 t=some (.tup [.str "",zM0 S D]):=et;have et3:=s3.tup (np2 _ _ et) et;refine⟨_,U,.ref t2,.ref t,U,zQs zSh et2 et3,λG4 s4=>⟨_,U,yW ?_⟩⟩;refine⟨_,U,t,_,0,.str "",U,U,.inr (SqT.of (s4 _ _ et3)),U,U,_,U,xP ?_⟩;have lw3:LwA G3 d' m' b' r' n' S:=lw2.samE s3 nd2 np2 (λ_ _=>nrB);have bk4:=bf.at.to (.of s4);obtain⟨dx4,d4,l4,ps4,ls4,k4⟩:=id bk4;refine⟨_,U,_,U,d',v,S,D,U,(rv2.sam s3 np2).to (.of s4),⟨m',b',r',n',lw3.to (.of s4)⟩,zOe jn,nt.well.good.few,nt.well.good.fresh,λd5 G5 s5 hd5 lwn=>?_⟩;obtain⟨m8,b8,r8,n8,hr8,lw8⟩:=lwn;refine rest d5 G5 ⟨(sG2.trans s3).trans (.of (s4.trans s5)),aft S D,_,bk4.to (.of s5),(by rw[aC]; exact Nat.succ_le_succ lp),nt.aft (zOe jn),?_,?_,m8,b8,r8,n8,(zL k4.pa hr8).symm,lw8⟩
    ·rcases zHp (S:=S) (D:=D) with e | e <;> rw[e] <;> lia
    ·rcases zHp (S:=S) (D:=D) with e | e <;> rw[e] <;> lia
   ·rw[jc] at et;have et:G2 t=some (.tup [.str (zK1 c),.non]):=et;have et3:=s3.tup id et;refine⟨_,U,.ref t2,.ref t,U,zQs (.inr rfl) et2 et3,λG4 s4=>⟨_,U,yW ?_⟩⟩;refine⟨_,U,t,_,0,.str (zK1 c),U,U,.inr (SqT.of (s4 _ _ et3)),U,U,_,U,ye6 (zRo c) ?_⟩;have s24:=s3.trans (.of s4);exact rest d' G4 ⟨sG2.trans (s24.wider λ_ z=>z.elim),S,past,bk2.to s24,by lia,nt,c1,by lia,m',b',r',n',nr',lw2.to s24⟩
  intro d3 G' ⟨sG',S',past',bk',lp',nt',c1',c2',m8,b8,r8,n8,nr8,lw8⟩;have er':=sG'.lst nrrB er5;apply cutX (A:=True)
  ·intro std;exists _,U,rr,_,_,_,U,U,sq er',a8,_,_,U,U,gt2,U,_,rfl;refine ifE (λz=>?_) (λz=>?_);rotate_left
   ·exact yW (std trivial)
   exists _,U,_,_,U,U,gt4,_,_,U,U,_,rfl;refine ifD (λz2=>?_) (λz2=>std trivial);exact⟨sG',d3,S',past',bk',lp',nt',c1',c2',⟨m8,b8,r8,n8,nr8,lw8⟩,_,_,_,_,U⟩
  intro _;exact⟨_,U,_,U,bk,p,d3,S',past',[],U,bk',⟨m8,b8,r8,n8,lw8⟩,nt',λH' s'=>⟨_,U,yW ⟨sG'.trans (s'.wider λ_ z=>z.elim),d3,S',past',bk'.to s',lp',nt',c1',c2',⟨m8,b8,r8,n8,nr8,lw8.to s'⟩,_,_,_,_,U⟩⟩⟩
 ·rintro σ G ⟨sG,d',S,past,bkG,lp,nt,c1,c2,⟨m',b',r',n',nr',lwG⟩,u5,u6,u7,u8,rfl⟩;exact⟨_,U,_,U,bk,p,d',S,past,[],U,bkG,⟨m',b',r',n',lwG⟩,nt,λH' _=>q H'⟩
end
theorem zWx{K:ae}{C:af}{f:az}(h:cB K (.ref C) f=some none):zA7 K C f:=h
theorem zH7(P:eL):Cls (KK P) bkC:=⟨by kernel_rfl,by kernel_rfl,by kernel_rfl,by kernel_rfl⟩
set_option maxHeartbeats 0 in
theorem cb_mk{P:aK}{w:aU}{mg:az->Option ag}{base:aX}(X:bW (KK w.params) base)(G:base.Ns mainGlobals mg):Cb P w mg base :=
 ⟨⟨_,X,zH7 _,zWx (by kernel_rfl)⟩,
   ⟨_,X,zH7 _,zWx (by kernel_rfl)⟩,
   ⟨_,X,zH7 _,zWx (by kernel_rfl)⟩,
   ⟨_,X,zH7 _,⟨(by kernel_rfl),(by kernel_rfl),(by kernel_rfl)⟩⟩,
   ⟨_,X,zH7 _,⟨(by kernel_rfl),(by kernel_rfl),(by kernel_rfl)⟩⟩,
   ⟨_,X,zH7 _,⟨(by kernel_rfl),(by kernel_rfl),(by kernel_rfl)⟩⟩,
   ⟨_,X,zH7 _,⟨(by kernel_rfl),(by kernel_rfl),(by kernel_rfl)⟩⟩,
   ⟨_,X,zH7 _,⟨(by kernel_rfl),(by kernel_rfl),(by kernel_rfl)⟩⟩,
   ⟨_,X,zH7 _,⟨(by kernel_rfl),(by kernel_rfl),(by kernel_rfl)⟩⟩,
   ⟨_,X,⟨(by kernel_rfl),(by kernel_rfl),(by kernel_rfl),(by kernel_rfl)⟩⟩,
   (ay X G (by kernel_rfl)),
   (zR3 (ep:=4) (l:=[("marks",535,.int 20,.int 20 536),("banks",537,.int 8,.int 8 538),("runs",539,.int 12,.int 12 540),("notes",541,.int 24,.int 24 542)]) (X _ _ (by kernel_rfl)) (λe he=>by simp only[aA,bA,or_false] at he; rcases he with rfl | rfl | rfl | rfl <;> exact⟨_,U⟩) (by decide +kernel)),
   (ay X G (by kernel_rfl)),
   (zR3 (ep:=10) (l:=[("mark",760,.ref 366,.ref 366),("move",761,.ref 373,.ref 373),("unmark",762,.ref 380,.ref 380),("bank",763,.ref 387,.ref 387),("level",764,.ref 394,.ref 394),("sail",765,.ref 401,.ref 401),("right",766,.ref 408,.ref 408),("bearing",767,.ref 422,.ref 422),("range",768,.ref 429,.ref 429),("strike",769,.ref 436,.ref 436)]) (X _ _ (by kernel_rfl)) (λe he=>by simp only[aA,bA,or_false] at he; rcases he with rfl | rfl | rfl | rfl | rfl | rfl | rfl | rfl | rfl | rfl <;> exact rfl) (by decide +kernel)),
   (ay X G (by kernel_rfl)),
   ⟨548,(ay X G (by kernel_rfl))⟩,
   ⟨550,(ay X G (by kernel_rfl))⟩,
   ⟨552,(ay X G (by kernel_rfl))⟩,
   (ay X G (by kernel_rfl)),
   (ay X G (by kernel_rfl)),
   (ay X G (by kernel_rfl)),
   (ay X G (by kernel_rfl)),
   (ay X G (by kernel_rfl)),
   (ay X G (by kernel_rfl)),
   (ay X G (by kernel_rfl)),
   (ay X G (by kernel_rfl)),
   (ay X G (by kernel_rfl)),
   (ay X G (by kernel_rfl)),
   (ay X G (by kernel_rfl)),
   (ay X G (by kernel_rfl)),
   (ay X G (by kernel_rfl)),
   (ay X G (by kernel_rfl)),
   (ay X G (by kernel_rfl)),
   (ay X G (by kernel_rfl)),
   (ay X G (by kernel_rfl)),
   (ay X G (by kernel_rfl)),
   (ay X G (by kernel_rfl)),
   (ay X G (by kernel_rfl)),
   (ay X G (by kernel_rfl)),
   (ay X G (by kernel_rfl)),
   (ay X G (by kernel_rfl)),
   (ay X G (by kernel_rfl)),
   (ay X G (by kernel_rfl)),
   (ay X G (by kernel_rfl)),
   (ay X G (by kernel_rfl)),
   (ay X G (by kernel_rfl)),
   (xK X (ay X G (by kernel_rfl)) (by kernel_rfl)),
   ⟨_,X,(by kernel_rfl)⟩,
   (xK X (ay X G (by kernel_rfl)) (by kernel_rfl)),
   ⟨_,X,(by kernel_rfl)⟩,
   (xK X (ay X G (by kernel_rfl)) (by kernel_rfl)),
   ⟨_,X,(by kernel_rfl)⟩,
   (xK X (ay X G (by kernel_rfl)) (by kernel_rfl)),
   ⟨_,X,(by kernel_rfl)⟩,
   (xK X (ay X G (by kernel_rfl)) (by kernel_rfl)),
   ⟨_,X,(by kernel_rfl)⟩,
   (xK X (ay X G (by kernel_rfl)) (by kernel_rfl)),
   ⟨_,X,(by kernel_rfl)⟩,
   (xK X (ay X G (by kernel_rfl)) (by kernel_rfl)),
   ⟨_,X,(by kernel_rfl)⟩,
   (xK X (ay X G (by kernel_rfl)) (by kernel_rfl)),
   ⟨_,X,(by kernel_rfl)⟩,
   (xK X (ay X G (by kernel_rfl)) (by kernel_rfl)),
   ⟨_,X,(by kernel_rfl)⟩,
   (xK X (ay X G (by kernel_rfl)) (by kernel_rfl)),
   ⟨_,X,(by kernel_rfl)⟩,
   (xK X (ay X G (by kernel_rfl)) (by kernel_rfl)),
   ⟨_,X,(by kernel_rfl)⟩,
   (xK X (ay X G (by kernel_rfl)) (by kernel_rfl)),
   ⟨_,X,(by kernel_rfl)⟩,
   (xK X (ay X G (by kernel_rfl)) (by kernel_rfl)),
   ⟨_,X,(by kernel_rfl)⟩,
   (xK X (ay X G (by kernel_rfl)) (by kernel_rfl)),
   ⟨_,X,(by kernel_rfl)⟩,
   (xK X (ay X G (by kernel_rfl)) (by kernel_rfl)),
   ⟨_,X,(by kernel_rfl)⟩,
   ⟨_,X,(by kernel_rfl)⟩⟩
abbrev AtK(Pm:eL)(x:az)(s:bP)(f:af)(oc:ag)(od:Option af)(sl:Array (Option ag))(kV dc pm:ag)(an:Option af)(cd ct:ag):Prop :=
 cf (KK Pm) mainGlobals x=some (some (.ref f))/\bK f KC=some ⟨oc,od,.func (bQ x x (xS s) (xH s) (zI s) .none kV dc pm an cd ct),sl⟩/\eU KC cd x=true/\b9 KC (.ref f)=true
section
variable{Pm:eL}{x:az}{s:bP}{f:af}{oc kV dc pm cd ct:ag}{od an:Option af}{sl:Array (Option ag)}{h:aX}{mg:az->Option ag}
theorem zTv(q:AtK Pm x s f oc od sl kV dc pm an cd ct):Fun K x x s f (bQ x x (xS s) (xH s) (zI s) .none kV dc pm an cd ct):=zQ3 (st:=s) (by rw[zSj]; exact q.2.1) (by rw[zSj]; exact q.2.2.1) (by rw[zSj]; exact q.2.2.2)
abbrev AtE(Pm:eL)(x:az)(s:bP):Prop:=∃(f:af)(oc:ag)(od:Option af)(sl:Array (Option ag))(kV dc pm:ag)(an:Option af)(cd ct:ag),AtK Pm x s f oc od sl kV dc pm an cd ct
theorem at_mk(q:AtK Pm x s f oc od sl kV dc pm an cd ct):AtE Pm x s:=⟨_,_,_,_,_,_,_,_,_,_,q⟩
theorem zP2(P:aK)(w:aU)(base:aX)(X:bW (KK Pm) h)(G:h.Ns mainGlobals mg)(q:AtE Pm x s){ps:List az}{n:Nat}{sp:Sp}(o:∀ {f:af} {fd:bT},Fun K x x s f fd->zCe K fd ps []->b9 K (.ref f)=true->mg x=some (.ref f)->yY P w K mg base CX0 n f fd ps sp)
  (b:∀(kV doc pm:ag)(an:Option af)(cdv ct:ag)(us:List ag),us.length=ps.length->bindArgs (bQ x x (xS s) (xH s) (zI s) .none kV doc pm an cdv ct) ⟨us,[]⟩=pure (ps.zip us)):Has P w K mg base x n ps sp:=by
 obtain⟨f,oc,od,sl,kV,dc,pm,an,cd,ct,q⟩:=q;have F:=zTv q;exact⟨_,_,o F (F.binds b) F.kp (ay X G q.1),F.binds b,F.kp,ay X G q.1⟩
theorem yO(P:aK)(w:aU)(base:aX)(X:bW (KK Pm) h)(G:h.Ns mainGlobals mg)(q:AtE Pm x s){ps:List az}{n:Nat}{sp:Sp}(o:∀ {f:af} {fd:bT},Fun K x x s f fd->yY P w K mg base CX0 n f fd ps sp)
  (b:∀(kV doc pm:ag)(an:Option af)(cdv ct:ag)(us:List ag),us.length=ps.length->bindArgs (bQ x x (xS s) (xH s) (zI s) .none kV doc pm an cdv ct) ⟨us,[]⟩=pure (ps.zip us)):Has P w K mg base x n ps sp:=zP2 P w base X G q (λF _ _ _=>o F) b
abbrev AtM(x q:az)(s:bP)(f:af):Prop:=∃(oc:ag)(od:Option af)(sl:Array (Option ag))(kV dc pm:ag)(an:Option af)(cd ct:ag),bK f KC=some ⟨oc,od,.func (bQ x q (xS s) (xH s) (zI s) .none kV dc pm an cd ct),sl⟩/\eU KC cd q=true/\b9 KC (.ref f)=true
theorem atm_mk{q:az}(h:bK f KC=some ⟨oc,od,.func (bQ x q (xS s) (xH s) (zI s) .none kV dc pm an cd ct),sl⟩/\eU KC cd q=true/\b9 KC (.ref f)=true):AtM x q s f:=⟨_,_,_,_,_,_,_,_,_,h⟩
theorem xB(P:aK)(w:aU)(base:aX)(X:bW (KK Pm) h)(G:h.Ns mainGlobals mg)(q:AtE Pm x s){ps:List az}{n:Nat}{sp:Sp}(o:∀ {f:af} {fd:bT},Fun K x x s f fd->yY P w K mg base (CX1 P w) n f fd ps sp)
  (b:∀(kV doc pm:ag)(an:Option af)(cdv ct:ag)(us:List ag),us.length=ps.length->bindArgs (bQ x x (xS s) (xH s) (zI s) .none kV doc pm an cdv ct) ⟨us,[]⟩=pure (ps.zip us)):qW P w K mg base x n ps sp:=by
 obtain⟨f,oc,od,sl,kV,dc,pm,an,cd,ct,q⟩:=q;have F:=zTv q;exact⟨_,_,o F,F.binds b,F.kp,ay X G q.1⟩
theorem zXc(P:aK)(w:aU)(base:aX)(X:bW (KK Pm) h)(G:h.Ns mainGlobals mg)(q:AtE Pm x s){ps:List az}{n:Nat}{sp:af->Sp}(o:∀ {f:af} {fd:bT},Fun K x x s f fd->zTt P w K mg base n f fd ps sp)
  (b:∀(kV doc pm:ag)(an:Option af)(cdv ct:ag)(us:List ag),us.length=ps.length->bindArgs (bQ x x (xS s) (xH s) (zI s) .none kV doc pm an cdv ct) ⟨us,[]⟩=pure (ps.zip us)):ye3 P w K mg base x n ps sp:=by
 obtain⟨f,oc,od,sl,kV,dc,pm,an,cd,ct,q⟩:=q;have F:=zTv q;exact⟨_,_,o F,F.binds b,F.kp,ay X G q.1⟩
theorem zDl(P:aK)(w:aU)(mg:az->Option ag)(base:aX){q:az}(a:AtM x q s f){ps:List az}{n:Nat}{sp:Sp}(o:∀ {fd:bT},Fun K x q s f fd->yY P w K mg base CX0 n f fd ps sp)
  (b:∀(kV doc pm:ag)(an:Option af)(cdv ct:ag)(us:List ag),us.length=ps.length->bindArgs (bQ x q (xS s) (xH s) (zI s) .none kV doc pm an cdv ct) ⟨us,[]⟩=pure (ps.zip us)):zR2 P w K mg base f n ps sp:=by
 obtain⟨oc,od,sl,kV,dc,pm,an,cd,ct,a1,a2,a3⟩:=a;exact⟨_,o (zQ3 (st:=s) (by rw[zSj]; exact a1) (by rw[zSj]; exact a2) (by rw[zSj]; exact a3)),b _ _ _ _ _ _⟩
theorem zUp(P:aK)(w:aU)(mg:az->Option ag)(base:aX){q:az}(a:AtM x q s f){ps:List az}{n:Nat}{sp:Sp}(o:∀ {fd:bT},Fun K x q s f fd->yY P w K mg base (CX1 P w) n f fd ps sp)
  (b:∀(kV doc pm:ag)(an:Option af)(cdv ct:ag)(us:List ag),us.length=ps.length->bindArgs (bQ x q (xS s) (xH s) (zI s) .none kV doc pm an cdv ct) ⟨us,[]⟩=pure (ps.zip us)):zWo P w K mg base f n ps sp:=by
 obtain⟨oc,od,sl,kV,dc,pm,an,cd,ct,a1,a2,a3⟩:=a;exact⟨_,o (zQ3 (st:=s) (by rw[zSj]; exact a1) (by rw[zSj]; exact a2) (by rw[zSj]; exact a3)),b _ _ _ _ _ _⟩
theorem K_in{Pm:eL}{h:aX}(X:bW (KK Pm) h):bW K h:=by
 rw[zSj];exact zT6 (F:=KF Pm) (by kernel_rfl) X
end
theorem us0{R:List ag->Prop}(h:R []):∀ us:List ag,us.length=0->R us
 | [],_=>h 
theorem us1{R:List ag->Prop}(h:∀ a,R [a]):∀ us:List ag,us.length=1->R us
 | [a],_=>h a
theorem us2{R:List ag->Prop}(h:∀ a b,R [a,b]):∀ us:List ag,us.length=2->R us
 | [a,b],_=>h a b
theorem us3{R:List ag->Prop}(h:∀ a b c,R [a,b,c]):∀ us:List ag,us.length=3->R us
 | [a,b,c],_=>h a b c
theorem us4{R:List ag->Prop}(h:∀ a b c d,R [a,b,c,d]):∀ us:List ag,us.length=4->R us
 | [a,b,c,d],_=>h a b c d
theorem all_mk{l:iR}{w:aU}{h:aX}{mg:az->Option ag}{fa:af}(X:bW (KK w.params) h)(G:h.Ns mainGlobals mg)(hfa:mg "law" = some (.ref fa))
  {f60:af}
  {oc60 kV60 dc60 pm60 cd60 ct60:ag}
  {od60 an60:Option af}
  {sl60:Array (Option ag)}
  (q1:AtE w.params "turn" zEw)
  (q2:AtE w.params "stretch_way" wW)
  (q3:AtE w.params "all_left_of" uE)
  (q4:AtE w.params "is_bank" qH)
  (q5:AtE w.params "nothing_yet" uC)
  (q6:AtE w.params "changed" qC)
  (q7:AtE w.params "without" qE)
  (q8:AtE w.params "within" zA2)
  (q9:AtE w.params "check_name" vE)
  (q10:AtE w.params "check_free" uV)
  (q11:AtE w.params "check_place" uB)
  (q12:AtE w.params "check_run" tI)
  (q13:AtE w.params "check_room" uX)
  (q14:AtE w.params "check_mark" uU)
  (q15:AtE w.params "check_moment" wD)
  (q16:AtE w.params "check_way" tE)
  (q17:AtE w.params "check_apart" wX)
  (q18:AtE w.params "after_mark" uW)
  (q19:AtE w.params "after_move" uY)
  (q20:AtE w.params "after_unmark" wL)
  (q21:AtE w.params "after_bank" vC)
  (q22:AtE w.params "after_level" uF)
  (q23:AtE w.params "after_sail" uS)
  (q24:AtE w.params "after_right" wU)
  (q25:AtE w.params "after_note" vB)
  (q26:AtE w.params "after_bearing" wB)
  (q27:AtE w.params "after_range" uJ)
  (q28:AtE w.params "after_strike" wH)
  (q29:AtE w.params "after" zCb)
  (q30:AtE w.params "_law_way" zH3)
  (q31:AtE w.params "_law_turned" zA0)
  (q32:AtE w.params "_law_left_pair" vZ)
  (q33:AtE w.params "_law_bank" zEs)
  (q34:AtE w.params "_law_is_round" sV)
  (q35:AtE w.params "_law_power" zCn)
  (q36:AtE w.params "_law_draws" zCl)
  (q37:AtE w.params "_law_names" zCm)
  (q38:AtE w.params "_law_new" zJe)
  (q39:AtE w.params "_law_strange" qP)
  (q40:AtE w.params "_law_pick" zE6)
  (q41:AtE w.params "_law_far_number" uR)
  (q42:AtE w.params "_law_bearing_deed" wK)
  (q43:AtE w.params "_law_deed" zE2)
  (q44:AtE w.params "_law_is_name" qL)
  (q45:AtE w.params "_law_near" zE1)
  (q46:AtE w.params "_law_mark_word" tH)
  (q47:AtE w.params "_law_bank_word" tG)
  (q48:AtE w.params "_law_run_word" sS)
  (q49:AtE w.params "_law_note_word" tD)
  (q50:AtE w.params "_law_word" zE0)
  (q51:AtE w.params "_law_due" zI6)
  (q52:AtE w.params "_law_same" zCk)
  (q53:AtE w.params "_law_refused" qK)
  (q54:AtE w.params "_law_done" zE5)
  (q55:AtE w.params "_law_after" zBz)
  (q56:AtE w.params "_law_marks_of" sX)
  (q57:AtE w.params "_law_stands" zA4)
  (q58:AtE w.params "_law_drawn_bank" uZ)
  (q59:AtE w.params "_law_round_enough" wI)
  (q60:AtK w.params "law" zMi f60 oc60 od60 sl60 kV60 dc60 pm60 an60 cd60 ct60)
  (q61:AtM "__init__" "Book.__init__" zE7 zMe)
  (q62:AtM "deed" "Book.deed" zE3 zMg)
  (q63:AtM "marks" "Book.marks" zCo zI7)
  (q64:AtM "banks" "Book.banks" zCr zIj)
  (q65:AtM "runs" "Book.runs" zEo zMb)
  (q66:AtM "notes" "Book.notes" zCt zIq)
  (q67:AtM "coming" "Book.coming" zA3 zB6)
  (z_ValueError:cf (KK w.params) mainGlobals "ValueError" = some none)
  (z_abs:cf (KK w.params) mainGlobals "abs" = some none)
  (z_all:cf (KK w.params) mainGlobals "all" = some none)
  (z_any:cf (KK w.params) mainGlobals "any" = some none)
  (z_bool:cf (KK w.params) mainGlobals "bool" = some none)
  (z_dict:cf (KK w.params) mainGlobals "dict" = some none)
  (z_int:cf (KK w.params) mainGlobals "int" = some none)
  (z_isinstance:cf (KK w.params) mainGlobals "isinstance" = some none)
  (z_len:cf (KK w.params) mainGlobals "len" = some none)
  (z_list:cf (KK w.params) mainGlobals "list" = some none)
  (z_max:cf (KK w.params) mainGlobals "max" = some none)
  (z_range:cf (KK w.params) mainGlobals "range" = some none)
  (z_sorted:cf (KK w.params) mainGlobals "sorted" = some none)
  (z_str:cf (KK w.params) mainGlobals "str" = some none)
  (z_tuple:cf (KK w.params) mainGlobals "tuple" = some none)
  (z_zip:cf (KK w.params) mainGlobals "zip" = some none) :
  ∃ fd:bT,(∀(s:ai)(v:ag),iz s fd ⟨[v],[]⟩ [("_law_script",v)])/\∀ base:aX,bW (KK w.params) base->base.Ns mainGlobals mg->yY l.prog w K mg base CX0 8 fa fd ["_law_script"] (sp_law K):=by
 have e:=hfa.symm.trans (ay X G q60.1);cases e;have Z:Zs mg:=⟨bq X G z_ValueError,bq X G z_abs,bq X G z_all,bq X G z_any,bq X G z_bool,bq X G z_dict,bq X G z_int,bq X G z_isinstance,bq X G z_len,bq X G z_list,bq X G z_max,bq X G z_range,bq X G z_sorted,bq X G z_str,bq X G z_tuple,bq X G z_zip⟩;refine⟨bQ "law" "law" (xS zMi) (xH zMi) (zI zMi) .none kV60 dc60 pm60 an60 cd60 ct60,λs v=>.of_eq rfl,λbase KB GB=>?_⟩;have CB:Cb l.prog w mg base:=cb_mk KB GB;have yBz:=yO l.prog w base X G q1 (λF=>zQc F Z CB ) (λ_ _ _ _ _ _=>us2 λ_ _=>rfl);have yAh:=yO l.prog w base X G q2 (λF=>zEc F Z CB ) (λ_ _ _ _ _ _=>us2 λ_ _=>rfl);have yAl:=yO l.prog w base X G q3 (λF=>zEd F Z CB yBz yAh) (λ_ _ _ _ _ _=>us2 λ_ _=>rfl);have yBl:=yO l.prog w base X G q4 (λF=>zL4 F Z CB yAl) (λ_ _ _ _ _ _=>us1 λ_=>rfl);have yAg:=yO l.prog w base X G q5 (λF=>zEj F Z CB ) (λ_ _ _ _ _ _=>us0 rfl);have yBi:=yO l.prog w base X G q6 (λF=>zLo F Z CB ) (λ_ _ _ _ _ _=>us4 λ_ _ _ _=>rfl);have yBm:=yO l.prog w base X G q7 (λF=>zL0 F Z CB ) (λ_ _ _ _ _ _=>us3 λ_ _ _=>rfl);have yBp:=yO l.prog w base X G q8 (λF=>zMl F Z CB ) (λ_ _ _ _ _ _=>us2 λ_ _=>rfl);have yAr:=xB l.prog w base X G q9 (λF=>zFn F Z CB ) (λ_ _ _ _ _ _=>us1 λ_=>rfl);have yAs:=xB l.prog w base X G q10 (λF=>zFz F Z CB ) (λ_ _ _ _ _ _=>us3 λ_ _ _=>rfl);have yAj:=xB l.prog w base X G q11 (λF=>zD6 F Z CB yBp) (λ_ _ _ _ _ _=>us1 λ_=>rfl);have yAz:=xB l.prog w base X G q12 (λF=>zGz F Z CB yBp) (λ_ _ _ _ _ _=>us1 λ_=>rfl);have yAv:=xB l.prog w base X G q13 (λF=>zFv F Z CB ) (λ_ _ _ _ _ _=>us2 λ_ _=>rfl);have yAq:=xB l.prog w base X G q14 (λF=>zFg F Z CB ) (λ_ _ _ _ _ _=>us2 λ_ _=>rfl);have yAb:=xB l.prog w base X G q15 (λF=>zC0 F Z CB ) (λ_ _ _ _ _ _=>us2 λ_ _=>rfl);have yBa:=xB l.prog w base X G q16 (λF=>zG3 F Z CB yBp) (λ_ _ _ _ _ _=>us1 λ_=>rfl);have yAn:=xB l.prog w base X G q17 (λF=>zEg F Z CB ) (λ_ _ _ _ _ _=>us3 λ_ _ _=>rfl);have yAo:=xB l.prog w base X G q18 (λF=>zFj F Z CB yBi yAv yAj yAs yAr) (λ_ _ _ _ _ _=>us2 λ_ _=>rfl);have yAu:=xB l.prog w base X G q19 (λF=>zF5 F Z CB yAn yBi yAj yAq) (λ_ _ _ _ _ _=>us2 λ_ _=>rfl);have yAf:=xB l.prog w base X G q20 (λF=>zDk F Z CB yBm yAq) (λ_ _ _ _ _ _=>us2 λ_ _=>rfl);have yAy:=xB l.prog w base X G q21 (λF=>zFp F Z CB yBi yAv yBl yAj yAs yAr) (λ_ _ _ _ _ _=>us2 λ_ _=>rfl)
 have yAi:=xB l.prog w base X G q22 (λF=>zD5 F Z CB yBm) (λ_ _ _ _ _ _=>us2 λ_ _=>rfl);have yAt:=xB l.prog w base X G q23 (λF=>zF0 F Z CB yBi yAv yAz) (λ_ _ _ _ _ _=>us2 λ_ _=>rfl);have yAk:=xB l.prog w base X G q24 (λF=>zEb F Z CB yBi yAz) (λ_ _ _ _ _ _=>us2 λ_ _=>rfl);have yAp:=xB l.prog w base X G q25 (λF=>zGk F Z CB yBi yAv) (λ_ _ _ _ _ _=>us2 λ_ _=>rfl);have yAa:=xB l.prog w base X G q26 (λF=>zCj F Z CB yAp yBz yBa yAq yAb) (λ_ _ _ _ _ _=>us2 λ_ _=>rfl);have yAm:=xB l.prog w base X G q27 (λF=>zD8 F Z CB yAp yAn yAq yAb) (λ_ _ _ _ _ _=>us2 λ_ _=>rfl);have yAd:=xB l.prog w base X G q28 (λF=>zDe F Z CB yBm) (λ_ _ _ _ _ _=>us2 λ_ _=>rfl);have yBt:=xB l.prog w base X G q29 (λF=>zPg F Z CB yAo yAu yAf yAy yAi yAt yAk yAa yAm yAd) (λ_ _ _ _ _ _=>us2 λ_ _=>rfl);have yCf:=yO l.prog w base X G q30 (λF=>zU0 F Z CB ) (λ_ _ _ _ _ _=>us3 λ_ _ _=>rfl);have yBo:=yO l.prog w base X G q31 (λF=>zM5 F Z CB ) (λ_ _ _ _ _ _=>us2 λ_ _=>rfl);have yBe:=yO l.prog w base X G q32 (λF=>zG1 F Z CB yBo yCf) (λ_ _ _ _ _ _=>us2 λ_ _=>rfl);have yBy:=yO l.prog w base X G q33 (λF=>zRi F Z CB yBe) (λ_ _ _ _ _ _=>us2 λ_ _=>rfl);have yBf:=yO l.prog w base X G q34 (λF=>zI2 F Z CB ) (λ_ _ _ _ _ _=>us1 λ_=>rfl);have yBr:=yO l.prog w base X G q35 (λF=>zOu F Z ) (λ_ _ _ _ _ _=>us1 λ_=>rfl);have yBs:=yO l.prog w base X G q36 (λF=>zPe F Z CB yBr) (λ_ _ _ _ _ _=>us2 λ_ _=>rfl);have yBv:=yO l.prog w base X G q37 (λF=>zPl F Z CB ) (λ_ _ _ _ _ _=>us2 λ_ _=>rfl);have yCe:=yO l.prog w base X G q38 (λF=>zUy F Z CB ) (λ_ _ _ _ _ _=>us0 rfl);have yBj:=yO l.prog w base X G q39 (λF=>zJh F Z CB ) (λ_ _ _ _ _ _=>us1 λ_=>rfl);have yBx:=yO l.prog w base X G q40 (λF=>zQu F Z CB yBj) (λ_ _ _ _ _ _=>us2 λ_ _=>rfl);have yAw:=yO l.prog w base X G q41 (λF=>zFf F Z CB ) (λ_ _ _ _ _ _=>us1 λ_=>rfl);have yAe:=yO l.prog w base X G q42 (λF=>zC7 F Z CB yBe yBx) (λ_ _ _ _ _ _=>us3 λ_ _ _=>rfl);have yBk:=yO l.prog w base X G q44 (λF=>zLw F Z CB ) (λ_ _ _ _ _ _=>us1 λ_=>rfl);have yCc:=yO l.prog w base X G q45 (λF=>zSl F Z CB ) (λ_ _ _ _ _ _=>us2 λ_ _=>rfl);have yBb:=yO l.prog w base X G q46 (λF=>zGt F Z CB yCc yBk) (λ_ _ _ _ _ _=>us2 λ_ _=>rfl);have yBh:=yO l.prog w base X G q48 (λF=>zIp F Z CB yCc) (λ_ _ _ _ _ _=>us2 λ_ _=>rfl)
 have yBd:=yO l.prog w base X G q49 (λF=>zGx F Z CB yBo) (λ_ _ _ _ _ _=>us2 λ_ _=>rfl);have yCd:=zP2 l.prog w base X G q52 (λF b k m=>zQz F Z  b k m) (λ_ _ _ _ _ _=>us2 λ_ _=>rfl);have yBn:=zXc l.prog w base X G q53 (λF=>zLv F Z CB ) (λ_ _ _ _ _ _=>us1 λ_=>rfl);have yBu:=yO l.prog w base X G q55 (λF=>zPt F Z CB ) (λ_ _ _ _ _ _=>us2 λ_ _=>rfl);have yBg:=yO l.prog w base X G q56 (λF=>zH4 F Z CB ) (λ_ _ _ _ _ _=>us1 λ_=>rfl);have yAx:=yO l.prog w base X G q58 (λF=>zFe F Z CB yBy) (λ_ _ _ _ _ _=>us1 λ_=>rfl);have yCa:=yO l.prog w base X G q43 (λF=>zQ0 F Z CB yBx yAe yAx yAw) (λ_ _ _ _ _ _=>us3 λ_ _ _=>rfl);have yAc:=yO l.prog w base X G q59 (λF=>zDj F Z CB yBf) (λ_ _ _ _ _ _=>us1 λ_=>rfl);have yBc:=yO l.prog w base X G q47 (λF=>zGr F Z CB yAc yCc yBk) (λ_ _ _ _ _ _=>us2 λ_ _=>rfl);have yBw:=yO l.prog w base X G q50 (λF=>zRw F Z CB yBd yBh yBc yBb) (λ_ _ _ _ _ _=>us2 λ_ _=>rfl);have yCg:=yO l.prog w base X G q51 (λF=>zUu F Z CB yBw) (λ_ _ _ _ _ _=>us2 λ_ _=>rfl);have h_b_init:=zDl l.prog w mg base q61 (λF=>zSq F Z CB yAg) (λ_ _ _ _ _ _=>us1 λ_=>rfl);have h_b_marks:=zDl l.prog w mg base q63 (λF=>zPa F Z CB ) (λ_ _ _ _ _ _=>us1 λ_=>rfl);have h_b_banks:=zDl l.prog w mg base q64 (λF=>zOz F Z CB ) (λ_ _ _ _ _ _=>us1 λ_=>rfl);have h_b_runs:=zDl l.prog w mg base q65 (λF=>zRu F Z CB ) (λ_ _ _ _ _ _=>us1 λ_=>rfl);have h_b_notes:=zDl l.prog w mg base q66 (λF=>zO5 F Z CB ) (λ_ _ _ _ _ _=>us1 λ_=>rfl);have h_b_coming:=zDl l.prog w mg base q67 (λF=>zL6 F Z CB ) (λ_ _ _ _ _ _=>us1 λ_=>rfl);have yBq:=yO l.prog w base X G q57 (λF=>zMq F Z CB yCd h_b_notes h_b_coming h_b_runs yBg h_b_banks h_b_marks) (λ_ _ _ _ _ _=>us2 λ_ _=>rfl);have h_b_deed:=zUp l.prog w mg base q62 (λF=>zRf F Z CB h_b_coming yBt) (λ_ _ _ _ _ _=>us2 λ_ _=>rfl);have yCb:=yO l.prog w base X G q54 (λF=>zS0 F Z CB h_b_deed yBn) (λ_ _ _ _ _ _=>us2 λ_ _=>rfl);exact ya6 (zTv q60) Z CB yBq yBu yCd yCb yCg yCa yCe h_b_init yBv yBs
theorem walk{l:iR}{q:aK}{loose:List az}{XP:(az->Option ag)->aX->Prop}{YP:aU->aX->Prop}{d:DefRec}(hn:l.most=some 63)(hdf:d.params.defaults=[])
  (hY:∀(w:aU)(h:aX),YP w h->bW (KK w.params) h)
  (F:∀(w:aU)(mg:az->Option ag)(fa:af)(h:aX),bW (KK w.params) h->h.Ns mainGlobals mg->mg d.name=some (.ref fa) ->
   ∃ fd:bT,(∀(s:ai)(u:ag),iz s fd ⟨[u],[]⟩ [("_law_script",u)])/\∀ base:aX,bW (KK w.params) base->base.Ns mainGlobals mg->yY l.prog w K mg base CX0 8 fa fd ["_law_script"] (sp_law K)) :
  ng q loose XP YP l.row.toRowW d [] (λf vs=>lS f vs) :=
 L2.walk_of3 (n:=63) (k:=8) (x := "_law_script") (KK:=KK) (K:=K) (sp:=sp_law K) hn (by decide) hdf ⟨rfl,by decide,by decide,rfl⟩ hY (λ_ _ X=>K_in X) (λp a o h c=>by rw[zSj]; exact zSd (F:=KF p) (by kernel_rfl) h c) F (λ_ a ns hl hS=>⟨a,ns,rfl,hS,hl,λ_=>rfl⟩)

end Sea
open PySem PySem.W PyProof.Rows
set_option maxRecDepth 100000 in
set_option maxHeartbeats 0 in
theorem PySem.Challenge.cw_seamarks_k35_deeds_of_a_book_holds : PySem.Challenge.rw_seamarks_k35_deeds_of_a_book.Holds := by
 w_on
 refine holds_law Sea.said_ok λsaid=>?_;refine holds_open (q:=Sea.qv) (loose:=Sea.lse) (XP:=XL Sea.qv []) (YP:=InK Sea.KK) Sea.left_ok (InK.of Sea.kas_ok)
  InK.keeps (λs e=>xl_of s (jq.mp e).1) XL.keeps (by rfl) (by rfl) (by rfl)
  (λs e=>recFacts_of (jq.mp e).2) (by rfl) (by assumption) (by decide +kernel)
  ⟨rfl,rfl,rfl,rfl,rfl,by decide +kernel⟩ ?hw ?hc
 case hw=>w_witness2
 k_fill
 refine Sea.walk (l:=PySem.Challenge.rw_seamarks_k35_deeds_of_a_book) rfl rfl (λw h Y=>Y) ?F
 case F =>
  intro w mg fa h KX G hmg
  refine' Sea.all_mk KX G hmg ?q1 ?q2 ?q3 ?q4 ?q5 ?q6 ?q7 ?q8 ?q9 ?q10 ?q11 ?q12 ?q13 ?q14 ?q15 ?q16 ?q17 ?q18 ?q19 ?q20 ?q21 ?q22 ?q23 ?q24 ?q25 ?q26 ?q27 ?q28 ?q29 ?q30 ?q31 ?q32 ?q33 ?q34 ?q35 ?q36 ?q37 ?q38 ?q39 ?q40 ?q41 ?q42 ?q43 ?q44 ?q45 ?q46 ?q47 ?q48 ?q49 ?q50 ?q51 ?q52 ?q53 ?q54 ?q55 ?q56 ?q57 ?q58 ?q59 ?q60 ?q61 ?q62 ?q63 ?q64 ?q65 ?q66 ?q67 ?z_ValueError ?z_abs ?z_all ?z_any ?z_bool ?z_dict ?z_int ?z_isinstance ?z_len ?z_list ?z_max ?z_range ?z_sorted ?z_str ?z_tuple ?z_zip
  (case q61 | q62 | q63 | q64 | q65 | q66 | q67=>refine' Sea.atm_mk ⟨?b,?c,?d⟩;(case b=>exact rfl);(case c=>kernel_rfl);(case d=>kernel_rfl))
  (case q60=>refine'⟨?_,?_,?_,?_⟩; k_is; exact rfl; kernel_rfl; kernel_rfl)
  (case q1 | q2 | q3 | q4 | q5 | q6 | q7 | q8 | q9 | q10 | q11 | q12 | q13 | q14 | q15 | q16 | q17 | q18 | q19 | q20 | q21 | q22 | q23 | q24 | q25 | q26 | q27 | q28 | q29 | q30 | q31 | q32 | q33 | q34 | q35 | q36 | q37 | q38 | q39 | q40 | q41 | q42 | q43 | q44 | q45 | q46 | q47 | q48 | q49 | q50 | q51 | q52 | q53 | q54 | q55 | q56 | q57 | q58 | q59=>refine' Sea.at_mk ⟨?a,?b,?c,?d⟩;(case a=>k_is);(case b=>exact rfl);(case c=>kernel_rfl);(case d=>kernel_rfl))
  (case z_ValueError | z_abs | z_all | z_any | z_bool | z_dict | z_int | z_isinstance | z_len | z_list | z_max | z_range | z_sorted | z_str | z_tuple | z_zip=>k_is)
