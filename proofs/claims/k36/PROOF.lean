import PyProof.Rows.All
import Wide.All
import OpenK.AllK
import Wide.FinOn
import Lean
import PyProof.EqAt
import PyProof.EqKinds
import PyProof.TupleCall
import PyProof.ZipIter
import PyProof.Rows.ZipGen
import PyProof.EnumFor
import PyProof.EnumStmt
import KE.KSortTup
import KE.KDictList
import KE.KItemsList
import KE.KTryMore
import PyProof.Rows.TopTwo
import PyProof.ExcBaseAll.ValueError
import PyProof.ExcAttrAll.ValueError
import KE.KEqDict
import KE.KRevSl
import PySem.Challenge.RW_seamarks_k36_methods_do_their_deeds
set_option Elab.async false
set_option linter.all false
set_option maxRecDepth 100000
set_option maxHeartbeats 4000000
theorem nabs{a:Int}{n:Nat} : a.natAbs<=n↔-(n:Int)<=a/\a<=n:=by omega
local macro_rules | `(tactic| lia) => `(tactic| first | (simp only [nabs] at *; lia (config := {})) | lia (config := {}) | omega)
local macro_rules | `(tactic| exists $es,*) => `(tactic| refine ⟨$es,*, ?_⟩)
open PySem renaming wpAny_bind->aa,Addr->af,Value->ag,Shared->ai,wpAny_pure->ak,Str->aA,Program->aK,World->aT,Heap->aV,wpAny_newObj_type->bj,Expr->bu,Stmt->bC,Around->bD,wpAny_field->bG,wpAny_callSpecial?_slot->bO,FuncData->bP,wpAny_call_entry->bQ,wpAny_holding->bX,wpAny_truthy_bool->cf,Obj->cz,wpAny_seqItems->cL,wpAny_mono->cT,wpAny_Call_Name_kw->cU,wpAny_setField->c9,wpAny_typeNameOfWhole_keyiter->de,DictEntry->df,mem_of_lookup->dn,wpAny_setField_rec->dA,wpAny_passesOwn->dJ,wpAny_pyIter_list->dN,wpAny_attempt->dR,wpAny_typeNameOf_keyiter->dS,wpAny_getItem_str_slice->dY,Params->eh,ofString_length->eA,NameKind->eF,wpAny_of_eq->eI,IsPair->eJ,Builtin->eL,Pos->eS,wpAny_execs_nil->e7,Scope->fg,wpAny_Call_method->fu,wpAny_isOneOf_keyiter->fA,wpAny_isInstance->fF,wpAny_standAt->fH,wpAny_updateSeq_pair->fL,Env->fV,evalArgs_none->fZ,OsState->f7,wpAny_rule->gh,wpAny_pyIter_tuple->gq,wpAny_call->gy,wpAny_newFunctionEnv_cells->gA,wpAny_fieldsOf->gC,wpAny_FormattedValue_plain->gD,Keyword->gO,wpAny_dictEntries->gR,wpAny_comprehension_free->gY,wpAny_onRaise->gZ,slot_listiter_next->g6,IsZip->hG,wpAny_pyNext_list_item->ic,BindsTo->ii,wpAny_dictEpoch->iA,wpAny_isTrue_Compare1->iJ,wpAny_pyIter_listiter->iK,wpAny_formatField_int->iO,wpAny_newFunctionEnv->iV,wpAny_handled->jj,wpAny_newList->jk,IsPart->jt,Within->jC,wpAny_pyIter_slot->jP,wpAny_eqBool_int->j5,wpAny_eqBool_str->j6,Paired->j7,wpAny_execs_cons->j8,wpAny_pyIter_zip->kA,wpAny_getItem_of->kE,CmpOp->kK,wpAny_throw->kN,wpAny_letGo->kO,wpAny_specialOf->kT,wpAny_Name->kY,call->lq,Sem->lU,Model->mC,Tok->nh
open List renaming length_map->ac,getElem?_eq_getElem->aj,toArray->ar,mem_singleton->au,getElem?_map->av,mem_map->aC,mem_cons->aD,size_toArray->aE,length_append->aF,map_append->aG,getElem?_eq_some_iff->aM,mem_of_getElem?->aN,map_cons->aQ,mem_append->aS,length_cons->aU,mem_append_right->aW,lookup_cons->be,map_map->bp,getD_eq_getElem?_getD->bw,replicate->bz,mem_cons_of_mem->bE,lookup->bF,all_eq_true->bH,not_mem_nil->bI,range->bJ,take_succ->bL,find?_cons->bR,take_length->bU,mem_range->bZ,length_drop->b9,filterMap_cons_some->cb,getElem?_eq_none->ce,mem_cons_self->cr,take_of_length_le->cy,any_cons->cD,filterMap_cons_none->cF,getElem?_append_right->cK,filterMap_cons->cM,length->cN,length_nil->cO,length_replicate->cR,length_take->cV,zipIdx_cons->cW,length_range->dh,append_nil->dk,getElem_mem->dw,nodup_iff_pairwise_ne->dB,length_singleton->dD,length_filter_le->dE,getElem?_append_left->dF,mem_filter->dI,mem_append_left->dM,mem_of_mem_drop->dO,find?_eq_none->d5,nodup_cons->d7,all_cons->eX,mem_filterMap->e9,getElem?_replicate->fh,length_eq_zero_iff->fj,getElem?_set_self->fk,map_nil->fq,any_eq_true->fE,of_mem_zip->fO,length_set->fP,replicate_succ->fY,getElem?_eq_none_iff->gG,snd_lt_of_mem_zipIdx->gJ,mem_or_eq_of_mem_set->gK,ext_getElem?->gQ,filter_congr->gU,getElem_inj->g8,filter_cons_of_neg->hU,filter_cons_of_pos->hV,ext_getElem->hW,all_nil->ir,forIn_cons->iy,filter_map->iC,range_succ->iD,all_append->iI,filterMap_append->iN,mem_iff_getElem?->iP,getElem?_set_ne->iT,getElem_toArray->iW,replicate_succ'->i4,getElem_of_mem->i9,filter_sublist->jd,map_congr_left->jg,getElem?_take->jy,filter_append->jB,any_eq_false->jD,flatten_cons->jM,pairwise_map->jQ,all_map->jR,nodup_append->jZ,cons_append->kB,filter_cons->kC,nodup_range->kG,map_snd_zip->kH,zipIdx_nil->kR,length_zip->kU,forIn_nil->lv,sum_cons->mq
open PySem.W renaming Frag->ae,mg_of->ay,mg_none_of->bh,fnOf->bN,keepIn->bV,nsIn->bY,kia_one->b7,findIn->cu,emptyDict->cA,kitOne->cJ,instObj->dj,callWith_K->dy,codeIn->eG,cellsFrom_some->fo,methodCall_KW->fB,plainGet->fD,plainGet_of->fW,callWith_K0->fX,lookIn->gu,methodObj->gM,hasDictIn->gN,hideAll->iw,takerIn->ix,OpenLaw->iE,hideAll_get->i8,of_hideAll->jp,codeRec_of->js,isFn->jE,plainOver->jF,specialIn->jG,kitx_list->jH,kitx_dict->jI,handedIn->j9,makesIn->kP,exmOne->lC,KasT->lE,WalkO->mv,SharedT->mJ
open PySem.Heap renaming get?_push_of_some->ah,get?_push_size->ap,lt_size->aw,get?_update_other->aY,get?_update_self->cC,SameBut->cI,size_push->c7,ExtBut->fi,get?_none_of_le->fI,get?_push_ne->jX,MadeExcOf->lB
open Nat renaming le_refl->al,le_of_ble_eq_true->az,le_trans->aJ,ne_of_lt->aP,lt_of_lt_of_le->aR,zero_le->br,lt_irrefl->cX,lt_trans->cY,le_of_lt->dL,le_succ->dZ,ne_of_gt->d3,gcd->eM,lt_of_le_of_lt->fe,add_le_add->gF,lt_succ_self->g9,le_of_eq->ie,zero_add->iq,not_lt_zero->iH,add_le_add_right->i0,mul_comm->jN,lt_succ_of_lt->jY,le_of_not_lt->ko,succ_ne_self->kx,log2_lt->kM,dvd_trans->ml,mul_assoc->mm,le_of_dvd->mn,succ_mul->mM
open PySem.F renaming excBase_ValueError->am,slot_dict_keyiterator_next->cG,slot_tuple_iterator_next->dz,slot_dict_getitem->eP,slot_dict_items->fw,args_dict_keyiterator_next_1->fG,entry_dict_keyiterator_next->fM,slot_dict_itemiterator_iter->fN,args_tuple_iterator_next_1->fR,slot_zip_next->fS,entry_tuple_iterator_next->f9,slot_dict_delitem->gH,plainAttrs_dict->gS,plainAttrs_str->iu,slot_dict_pop->iL,slot_str_join->iQ,type_str_join->iR,args_dict_items_1->jb,slot_dict_values->jx,entry_dict_items->jz,args_zip_next_1->jO,type_dict_items->jS,attr_ValueError->jT,entry_zip_next->kz,slot_dict_iter->kF
open Classical renaming not_not->ao,byContradiction->eQ
open Bool renaming false_ne_true->aB,and_eq_true->aZ,false_eq_true->cH,eq_iff_iff->d6,or_eq_false_iff->eK,false_and->gj,eq_false_iff->gP,and_true->g7,or_eq_true->iz,and_eq_true_iff->i7,or_false->ji,true_and->jl,and_false->lh,true_or->mP
open Option renaming map_eq_some_iff->aH,isSome_iff_exists->aL,isSome_map->bW,map_some->d8,bind_eq_some_iff->hX,map_eq_none_iff->ip,getD_none->ke,toList->my,none->mV
open PySem.Value renaming ref->aI,none->bg,str->cB,int->dH,builtin->eZ,bool->h9,float->iS,bytes->kJ,type->kX,isStrOf->lT,isInt->mT
open PySem.Str renaming ofString->aO,join->hJ,empty->mG
open Int renaming emod_lt_of_pos->aX,emod_nonneg->bq,toNat_natCast->cg,eq_ofNat_of_zero_le->cj,mul_assoc->dQ,natAbs_mul_self->eU,natCast_nonneg->ff,mul_ne_zero->fQ,le_of_lt->ik,mul_comm->im,mul_nonneg->iU,mul_neg->kL,natAbs_mul->lu,natAbs_neg->lG,zero_mul->mO,zero_add->mQ
open Option.some renaming inj->a7,injEq->gT
open PyProof.Rows renaming OwnCls->bo,callWith_type1->dq,slot_tuple_getitem->dU,AllBare->f8,SortKind->jW,callWith_builtin1->ka,IntsAre->kW,Subscript_->k9,Keyed->lA,IsTup->mz
open True renaming intro->bv
open PySem.Builtin.SmallTypes renaming nextOf->bx,ownedTupleIsFree->cE,ownedTupleHandOut->eW
open False renaming elim->bA
open PySem.NameKind renaming free->bB,cell->d9
open Array renaming length_toList->bK,getElem?_eq_getElem->cQ,getElem?_eq_some_iff->dC,getElem?_eq_none->d4,getElem?_toList->fC,mem_toList_iff->fJ,toArray_toList->iX,all_eq_true'->jA,getD->lF,toList->mK
open PySem.Obj renaming mapSeq->bM,data_mapFields->cv,isFreed_of_fields->cS,mapFields->cZ,cls_mapFields->eC
open PySem.W.Frag renaming In->bT
open Ne renaming symm->cm
open PySem.PassesOwn renaming never->cw,leaving->gX
open Or renaming inl->cP,inr->ku
open ForInStep renaming yield->dm
open PySem.Builtin.Str renaming strSliceIndices->du,glued->fv,occurrences->hZ
open PySem.Builtin.Slice renaming slicePlaces->dG,sliceAdjust->eO,sliceApplied->gB,slicePartIndex->kQ,sliceFields->lR
open PySem.Builtin.Tuple renaming tupleExact->dP,tupleItemsOf->kZ
open Sum renaming inl->dW,inr->dX
open PySem.World renaming withFollow_self->ej
open PySem.W.Fast renaming te14364793385576792824->eB,te2368527892694137696->eE,te5923862056798008813->gf
open PySem.Txt renaming slice->eN,slice_le->io
open PySem.Heap.SameBut renaming update->eV
open PySem.Builtin.List renaming listTooLong->eY
open PySem.Calls renaming evalArgs_plain->fK,Name_function_global->gg,call_function_entry->gL,callWith_builtin->ij,Constant_str->jq,spliced_cons->jr,spliced_nil->jK
open PySem.Builtin.Dict_items renaming ownsTuple->fT
open PySem.PyData renaming shownAll->fU,keyHash->gc,showableAll->gE,hasDictAll->gW,showable->iF,depthAll->iG,hasDict->iZ,shown->jU,depth->jV
open PySem.StrLaws renaming glued_eq_join->gb,reprText_len->iY,joinTotal->mH
open PySem.Around renaming under->ig
open List.cons renaming injEq->iB
open PySem.Builtin.Dict renaming showsAll->iM,dictSlotNone->lS
open PySem.EntryCells renaming newEntry->jf
open PySem.Paired renaming length->jh,snoc->mX
open PySem.SeqAt.EqAt renaming int_str->jm,str_int->jo,int_int->jv,str_str->jw
open PySem.SeqAt renaming EqAt->ju,in_tupleAt->kh
open PySem.Code renaming isFrame->jJ,isGuard->mL,frames->mU
open Prod renaming ext->jL
open PySem.Heap.IsList renaming push->ky
open Sum.inr renaming inj->kI
open PySem.EqNone renaming eq_none_none->lH,eq_none_bool->lI,eq_bool_none->lJ,ne_none_none->lM,ne_none_bool->lN,ne_bool_none->lO,eq_none_int->lV,eq_none_str->lW,eq_int_none->lX,eq_str_none->lZ,ne_none_int->l6,ne_none_str->md,ne_int_none->mf,ne_str_none->mi
open PySem.EqMixed renaming eq_bool_str->lK,eq_str_bool->lL,ne_bool_str->lP,ne_str_bool->lQ,eq_int_str->lY,eq_str_int->l5,ne_int_str->mh,ne_str_int->mj
open List.Pairwise renaming imp_of_mem->mr,nil->ng
open PyProof.Rows.IsTup renaming new->mE
open PySem.Builtin.Range renaming rangeSize->mF
open PySem.Heap.UpToSlots renaming of_keeps->mI
open PySem.W.SharedT renaming abs->mR
open PySem.Shared renaming heap->mW
open PySem.W.Looks renaming here->mY,ld->nj
open PySem.Heap.IsSliceOf renaming new->mZ
open PySem.W.WShape renaming has->m5
open PySem.Walks renaming list->m7
open PySem.Within renaming cons->m9
open PySem.W.WData renaming int->ni
theorem U{α:Sort _}{a:α}:a=a:=rfl
namespace L2
open PySem
def xW(s:bC):Arguments:=match s with
 | .FunctionDef _ a _ _ _ _ _ _ _ _=>a
 | _=>{ posonlyargs:=[],args:=[],vararg:=none,kwonlyargs:=[],kw_defaults:=[],kwarg:=none,defaults:=[] }
def xF(s:bC):List bC:=match s with
 | .FunctionDef _ _ b _ _ _ _ _ _ _=>b
 | _=>[]
def zG(s:bC):fg:=match s with
 | .FunctionDef _ _ _ _ _ _ sc _ _ _=>sc
 | _=>{ kind:=.function,names:=[],isGenerator:=false,isCoroutine:=false }
def xR(s:bC)(j:Nat):bC:=match s with
 | .ClassDef _ _ _ body _ _ _ _ _ _ _=>body.getD j (.Pass ⟨0,0,0,0⟩)
 | _=>.Pass ⟨0,0,0,0⟩
end L2
namespace PySem.W
open PySem
noncomputable def zI0(tb:String->Option eL)(p:aK)(w:aT)(n₀:Nat)(ann:Option ag):Nat->mJ->Thread->Option mJ
 | 0,_,_=>none
 | n+1,s,t=>match through t with
  | true=>some s
  | false=>match Fast.tw6613529449190102663 n₀ ann t with
   | false=>none
   | true=>match Fast.tw10156331382660048174 (Fast.tw11892475500146522536 tb) p w s t with
    | some (s',t')=>zI0 tb p w n₀ ann n s' t'
    | none=>none
theorem zKk{tb:String->Option eL}{p:aK}{w:aT}{n₀:Nat}{ann:Option ag} : ∀{n:Nat}{s s':mJ}{t:Thread},zI0 tb p w n₀ ann n s t=some s'->topRun tb p w n₀ ann n s.abs t=some s'.abs
 | 0,_,_,_,h=>by cases h
 | n+1,s,s',t,h=>by
  unfold zI0 at h;rw[<- Fast.te6613529449190102663,<- Fast.te10156331382660048174,<- Fast.te11892475500146522536] at h;unfold topRun;cases he:through t with
  | true=>rw[he] at h; cases h; rfl
  | false =>
   rw[he] at h;cases hk:stepOk n₀ ann t with
   | false=>rw[hk] at h; cases h
   | true =>
    rw[hk] at h;cases hs:stepT (denote tb) p w s t with
    | none=>rw[hs] at h; cases h
    | some r=>obtain⟨s₂,t₂⟩:=r; rw[hs] at h; rw[stepT_spec hs]; exact zKk h
noncomputable def zYy(P:eh):BT:=((boot_heap P).objs.toList.zipIdx).foldl (λt x=>t.ins x.2 x.1) .nil
theorem zUx(P:eh):absHeap (zYy P) 11 (boot_heap P).life=boot_heap P:=by kernel_rfl
theorem zS5(P:eh):((boot_heap P).isNs mainGlobals,(boot_heap P).objs.size,(boot_heap P).nsMap mainGlobals "__annotations__")=(true,11,some (.ref 6)):=by kernel_rfl
noncomputable abbrev yi0(tb:String->Option eL)(p:aK)(N:Nat)(w:aT)(os:f7):Option mJ:=zI0 tb p w 11 (some (.ref 6)) N ⟨zYy w.params,11,(boot_heap w.params).life,#[],boot_drawn,boot_toks,os⟩ (topStub p)
theorem zVn{α β γ:Type}{x:Option α}{f:α->β×γ}{a:β}{b:γ}(h1:x.map (λs=>(f s).1)=some a)(h2:x.map (λs=>(f s).2)=some b):x.map f=some (a,b):=by
 cases x with
 | none=>cases h1
 | some s =>
  injection h1 with h1
  injection h2 with h2
  subst h1 h2;rfl
theorem zTz{p q:aK}{loose:List aA}{Xt:ai->Bool}{α:Type}{Yf:ai->α}{Ya:aT->α}{N:Nat}
  (open_:∀ w:aT,(fencedOpening treeTable p w N).map (λs=>(s.heap,s.gens,s.drawn,s.toks))=some (boot_heap w.params,Array.mk [],boot_drawn,boot_toks))
  (h1:∀ w os,(yi0 treeTable p N w os).map (λs=>(staticsOk (importedModules p.main.body) (boot_heap w.params) s.abs.heap&&namesBound p s.abs.heap&&gensDone s.abs&&laidKept (boot_heap w.params) s.abs.heap))=some true)
  (h2:∀ w os,(yi0 treeTable p N w os).map (λs=>openSeen q loose (importedModules p.main.body) Xt true s.abs)=some (openGood q loose))
  (h3:∀ w os,(yi0 treeTable p N w os).map (λs=>Yf s.abs)=some (Ya w)):LeftO p q loose Xt Yf Ya N:=λw=>by
 obtain⟨⟨h,gs,d,k,os⟩,e,e'⟩:=aH.mp (open_ w);obtain⟨rfl,rfl,rfl,rfl⟩:h=boot_heap w.params/\gs = #[]/\d=boot_drawn/\k=boot_toks:=by simpa using e'
 obtain⟨z1,z2,z3⟩ : _/\_/\_:=by simpa only[Prod.mk.injEq] using zS5 w.params
 obtain⟨s,r1,l1⟩:=aH.mp (h1 w os);obtain⟨s',r2,l2⟩:=aH.mp (h2 w os);obtain⟨s'',r3,l3⟩:=aH.mp (h3 w os);rw[r1] at r2 r3;cases r2;cases r3;have r:=zKk r1;rw[show mR ⟨zYy w.params,11,(boot_heap w.params).life,#[],boot_drawn,boot_toks,os⟩=⟨boot_heap w.params,#[],boot_drawn,boot_toks,os⟩ from by unfold mR; rw[zUx]] at r;have t:topFrom treeTable p w N ⟨boot_heap w.params,#[],boot_drawn,boot_toks,os⟩=some s.abs:=by
  unfold topFrom;dsimp only;rw[z1,z2,z3,r];show(match staticsOk (importedModules p.main.body) (boot_heap w.params) s.abs.heap&&namesBound p s.abs.heap&&gensDone s.abs&&laidKept (boot_heap w.params) s.abs.heap with | true=>_ | false=>_)=_;rw[l1]
 unfold openEnds;rw[e];show(topFrom treeTable p w N _).map _=_;rw[t];show some (_,_)=_;rw[l2,l3]
end PySem.W
namespace Sea
open PySem L2
def top(i:Nat):Stmt:=PySem.Challenge.pw_seamarks_k36_methods_do_their_deeds.main.body.getD i (.Pass ⟨0,0,0,0⟩)
abbrev zFh:bC:=top 2
abbrev wY:bC:=top 4
abbrev uD:bC:=top 5
abbrev qG:bC:=top 6
abbrev uK:bC:=top 31
abbrev qE:bC:=top 32
abbrev rY:bC:=top 33
abbrev zBf:bC:=top 34
abbrev vD:bC:=top 35
abbrev vF:bC:=top 36
abbrev uC:bC:=top 37
abbrev tQ:bC:=top 38
abbrev vH:bC:=top 39
abbrev vC:bC:=top 40
abbrev wM:bC:=top 41
abbrev tS:bC:=top 42
abbrev uP:bC:=top 43
abbrev vN:bC:=top 44
abbrev vJ:bC:=top 45
abbrev wQ:bC:=top 46
abbrev vI:bC:=top 47
abbrev uF:bC:=top 48
abbrev vB:bC:=top 49
abbrev uQ:bC:=top 50
abbrev vM:bC:=top 51
abbrev wE:bC:=top 52
abbrev uN:bC:=top 53
abbrev wO:bC:=top 54
abbrev zCi:bC:=top 56
abbrev zBa:bC:=top 60
abbrev qP:bC:=top 61
abbrev zCf:bC:=top 62
abbrev zCo:bC:=top 63
abbrev zCg:bC:=top 64
abbrev zJo:bC:=top 65
abbrev rZ:bC:=top 66
abbrev zFc:bC:=top 67
abbrev vK:bC:=top 68
abbrev zI7:bC:=top 69
abbrev zBb:bC:=top 70
abbrev tL:bC:=top 71
abbrev wK:bC:=top 72
abbrev zE0:bC:=top 73
abbrev qT:bC:=top 74
abbrev zE1:bC:=top 75
abbrev tM:bC:=top 76
abbrev tO:bC:=top 77
abbrev rA:bC:=top 78
abbrev tK:bC:=top 79
abbrev zE5:bC:=top 80
abbrev zIw:bC:=top 81
abbrev zC7:bC:=top 82
abbrev zEx:bC:=top 83
abbrev zCj:bC:=top 84
abbrev rB:bC:=top 85
abbrev zA8:bC:=top 86
abbrev vL:bC:=top 87
abbrev wR:bC:=top 88
abbrev tJ:bC:=top 89
abbrev zM0:bC:=top 90
abbrev zE7:bC:=xR (top 58) 0
abbrev zFe:bC:=xR (top 58) 1
abbrev zFb:bC:=xR (top 58) 2
abbrev zA6:bC:=xR (top 58) 3
abbrev zE2:bC:=xR (top 58) 4
abbrev zCk:bC:=xR (top 58) 5
abbrev zFa:bC:=xR (top 58) 6
abbrev zCp:bC:=xR (top 58) 7
abbrev qD:bC:=xR (top 58) 8
abbrev vG:bC:=xR (top 58) 9
abbrev zA7:bC:=xR (top 58) 10
abbrev zEz:bC:=xR (top 58) 11
abbrev zCd:bC:=xR (top 58) 15
abbrev zCr:bC:=xR (top 58) 18
abbrev zCz:bC:=xR (top 58) 19
abbrev zE3:bC:=xR (top 58) 20
abbrev zC1:bC:=xR (top 58) 21
abbrev zBc:bC:=xR (top 58) 22
noncomputable def qv:Program:={ PySem.Challenge.pw_seamarks_k36_methods_do_their_deeds with main:={ PySem.Challenge.pw_seamarks_k36_methods_do_their_deeds.main with body:=[top 2,top 4,top 5,top 6,top 31,top 32,top 33,top 34,top 35,top 36,top 37,top 38,top 39,top 40,top 41,top 42,top 43,top 44,top 45,top 46,top 47,top 48,top 49,top 50,top 51,top 52,top 53,top 54,top 56,top 60,top 61,top 62,top 63,top 64,top 65,top 66,top 67,top 68,top 69,top 70,top 71,top 72,top 73,top 74,top 75,top 76,top 77,top 78,top 79,top 80,top 81,top 82,top 83,top 84,top 85,top 86,top 87,top 88,top 89,top 90] } }
def lse:List aA:=("_wall" : aA)::("MarkError" : aA)::("BadName" : aA)::("Taken" : aA)::("BadPlace" : aA)::("Full" : aA)::("NoMark" : aA)::("Same" : aA)::("Needed" : aA)::("BadBank" : aA)::("NoBank" : aA)::("BadRun" : aA)::("NoRun" : aA)::("NoMoment" : aA)::("BadWay" : aA)::("BadTurn" : aA)::("NoNote" : aA)::("NothingLeft" : aA)::("BadRow" : aA)::("MOST" : aA)::("LONGEST_NAME" : aA)::("FARTHEST" : aA)::("LONGEST_WAY" : aA)::("AFTER" : aA)::("Book" : aA)::[]
noncomputable def kd(P:eh)(x:aA)(t:Nat)(v:ag):df:=⟨gc P x,.str x t,v⟩
noncomputable def kc(l:List ag):cz:=⟨.type "code",none,.fields (ar l),ar []⟩
noncomputable def kq(x:aA)(a:Nat)(l g:Int)(r:Nat)(u v w y z:ag)(h:Int)(b:Nat):cz:=kc [.str x a,.str x (a+1),.str "/claim/cut.py" (a+2),.int l 0,.int g 0,.int 0 0,.int 0 0,.int 3 0,.ref r,.bool true,.int 181 0,u,v,w,y,z,.int h 0,.int l 0,.str "/claim/cut.py" b]
noncomputable abbrev kf(x:aA)(s:bC)(kV doc pm cd ct:ag):cz:=⟨.type "function",none,.func (bN x x (xW s) (xF s) (zG s) .none kV doc pm none cd ct),ar []⟩
noncomputable abbrev kg(x:aA)(s:bC)(m:aA)(t c:Nat):cz:=kf x s .none .none (.str m t) (.ref c) .none
noncomputable abbrev kf2(x q:aA)(s:bC)(kV doc pm cd ct:ag):cz:=⟨.type "function",none,.func (bN x q (xW s) (xF s) (zG s) .none kV doc pm none cd ct),ar []⟩
noncomputable def kNs(P:eh):cz:=⟨.type "dict",none,.dict (ar (kd P "__name__" 165 (.str "law_seamarks_k36_methods_do_their_deeds" 1000)::kd P "__doc__" 166 .none::kd P "__package__" 167 .none::kd P "__loader__" 168 (.builtin "__main__.__loader__#opaque")::kd P "__spec__" 169 .none::kd P "__annotations__" 170 (.ref 6)::kd P "__builtins__" 171 (.ref 4)::kd P "__file__" 173 (.str "/claim/cut.py" 172)::kd P "__cached__" 174 .none::kd P "_wall" 193 (.ref 21)::kd P "turn" 203 (.ref 28)::kd P "stretch_way" 213 (.ref 35)::kd P "all_left_of" 225 (.ref 42)::kd P "is_bank" 231 (.ref 47)::kd P "MarkError" 251 (.ref 57)::kd P "BadName" 267 (.ref 70)::kd P "Taken" 283 (.ref 82)::kd P "BadPlace" 299 (.ref 94)::kd P "Full" 315 (.ref 106)::kd P "NoMark" 331 (.ref 118)::kd P "Same" 347 (.ref 130)::kd P "Needed" 363 (.ref 142)::kd P "BadBank" 379 (.ref 154)::kd P "NoBank" 395 (.ref 166)::kd P "BadRun" 411 (.ref 178)::kd P "NoRun" 427 (.ref 190)::kd P "NoMoment" 443 (.ref 202)::kd P "BadWay" 459 (.ref 214)::kd P "BadTurn" 475 (.ref 226)::kd P "NoNote" 491 (.ref 238)::kd P "NothingLeft" 507 (.ref 250)::kd P "BadRow" 532 (.ref 269)::kd P "MOST" 547 (.ref 272)::kd P "LONGEST_NAME" 549 (.int 8 548)::kd P "FARTHEST" 551 (.int 1000 550)::kd P "LONGEST_WAY" 553 (.int 100 552)::kd P "nothing_yet" 559 (.ref 279)::kd P "changed" 570 (.ref 286)::kd P "without" 580 (.ref 293)::kd P "within" 586 (.ref 298)::kd P "check_name" 592 (.ref 303)::kd P "check_free" 601 (.ref 310)::kd P "check_place" 608 (.ref 317)::kd P "check_run" 615 (.ref 324)::kd P "check_room" 623 (.ref 331)::kd P "check_mark" 631 (.ref 338)::kd P "check_moment" 639 (.ref 345)::kd P "check_way" 646 (.ref 352)::kd P "check_apart" 655 (.ref 359)::kd P "after_mark" 665 (.ref 366)::kd P "after_move" 676 (.ref 373)::kd P "after_unmark" 686 (.ref 380)::kd P "after_bank" 697 (.ref 387)::kd P "after_level" 706 (.ref 394)::kd P "after_sail" 715 (.ref 401)::kd P "after_right" 725 (.ref 408)::kd P "after_note" 734 (.ref 415)::kd P "after_bearing" 742 (.ref 422)::kd P "after_range" 750 (.ref 429)::kd P "after_strike" 759 (.ref 436)::kd P "AFTER" 780 (.ref 437)::kd P "after" 788 (.ref 444)::kd P "Book" 999 (.ref 609)::kd P "_law_called" 1009 (.ref 620)::kd P "_law_refused" 1015 (.ref 625)::kd P "_law_power" 1022 (.ref 632)::kd P "_law_draws" 1034 (.ref 639)::kd P "_law_names" 1040 (.ref 644)::kd P "_law_new" 1046 (.ref 651)::kd P "_law_strange" 1055 (.ref 658)::kd P "_law_pick" 1063 (.ref 665)::kd P "_law_far_number" 1070 (.ref 672)::kd P "_law_way" 1081 (.ref 679)::kd P "_law_turned" 1089 (.ref 686)::kd P "_law_left_pair" 1099 (.ref 693)::kd P "_law_bearing_deed" 1114 (.ref 700)::kd P "_law_deed" 1127 (.ref 707)::kd P "_law_is_name" 1133 (.ref 712)::kd P "_law_near" 1141 (.ref 719)::kd P "_law_mark_word" 1147 (.ref 724)::kd P "_law_bank_word" 1153 (.ref 729)::kd P "_law_run_word" 1161 (.ref 736)::kd P "_law_note_word" 1171 (.ref 743)::kd P "_law_word" 1179 (.ref 750)::kd P "_law_due" 1188 (.ref 757)::kd P "_law_same" 1194 (.ref 762)::kd P "_law_done" 1203 (.ref 769)::kd P "_law_after" 1212 (.ref 776)::kd P "_law_marks_of" 1218 (.ref 781)::kd P "_law_stands" 1226 (.ref 788)::kd P "_law_drawn_bank" 1235 (.ref 795)::kd P "_law_round_enough" 1242 (.ref 802)::kd P "_law_by_method" 1251 (.ref 809)::kd P "law" 1267 (.ref 816)::[])) 94,ar []⟩
noncomputable def KG(P:eh):ae :=
 (nat_lit 56,⟨.type "dict",none,.dict (ar (kd P "__module__" 241 (.str "seamarks.errors" 232)::kd P "__firstlineno__" 245 (.int 23 244)::kd P "__static_attributes__" 246 (.ref 55)::kd P "__weakref__" 248 (.ref 58)::kd P "__doc__" 249 .none::[])) 3,ar []⟩) ::
 (nat_lit 69,⟨.type "dict",none,.dict (ar (kd P "__module__" 259 (.str "seamarks.errors" 232)::kd P "__firstlineno__" 263 (.int 25 262)::kd P "__static_attributes__" 264 (.ref 68)::kd P "__doc__" 265 .none::[])) 2,ar []⟩) ::
 (nat_lit 81,⟨.type "dict",none,.dict (ar (kd P "__module__" 275 (.str "seamarks.errors" 232)::kd P "__firstlineno__" 279 (.int 27 278)::kd P "__static_attributes__" 280 (.ref 80)::kd P "__doc__" 281 .none::[])) 2,ar []⟩) ::
 (nat_lit 93,⟨.type "dict",none,.dict (ar (kd P "__module__" 291 (.str "seamarks.errors" 232)::kd P "__firstlineno__" 295 (.int 29 294)::kd P "__static_attributes__" 296 (.ref 92)::kd P "__doc__" 297 .none::[])) 2,ar []⟩) ::
 (nat_lit 105,⟨.type "dict",none,.dict (ar (kd P "__module__" 307 (.str "seamarks.errors" 232)::kd P "__firstlineno__" 311 (.int 31 310)::kd P "__static_attributes__" 312 (.ref 104)::kd P "__doc__" 313 .none::[])) 2,ar []⟩) ::
 (nat_lit 117,⟨.type "dict",none,.dict (ar (kd P "__module__" 323 (.str "seamarks.errors" 232)::kd P "__firstlineno__" 327 (.int 33 326)::kd P "__static_attributes__" 328 (.ref 116)::kd P "__doc__" 329 .none::[])) 2,ar []⟩) ::
 (nat_lit 129,⟨.type "dict",none,.dict (ar (kd P "__module__" 339 (.str "seamarks.errors" 232)::kd P "__firstlineno__" 343 (.int 35 342)::kd P "__static_attributes__" 344 (.ref 128)::kd P "__doc__" 345 .none::[])) 2,ar []⟩) ::
 (nat_lit 141,⟨.type "dict",none,.dict (ar (kd P "__module__" 355 (.str "seamarks.errors" 232)::kd P "__firstlineno__" 359 (.int 37 358)::kd P "__static_attributes__" 360 (.ref 140)::kd P "__doc__" 361 .none::[])) 2,ar []⟩) ::
 (nat_lit 153,⟨.type "dict",none,.dict (ar (kd P "__module__" 371 (.str "seamarks.errors" 232)::kd P "__firstlineno__" 375 (.int 39 374)::kd P "__static_attributes__" 376 (.ref 152)::kd P "__doc__" 377 .none::[])) 2,ar []⟩) ::
 (nat_lit 165,⟨.type "dict",none,.dict (ar (kd P "__module__" 387 (.str "seamarks.errors" 232)::kd P "__firstlineno__" 391 (.int 41 390)::kd P "__static_attributes__" 392 (.ref 164)::kd P "__doc__" 393 .none::[])) 2,ar []⟩) ::
 (nat_lit 177,⟨.type "dict",none,.dict (ar (kd P "__module__" 403 (.str "seamarks.errors" 232)::kd P "__firstlineno__" 407 (.int 43 406)::kd P "__static_attributes__" 408 (.ref 176)::kd P "__doc__" 409 .none::[])) 2,ar []⟩) ::
 (nat_lit 189,⟨.type "dict",none,.dict (ar (kd P "__module__" 419 (.str "seamarks.errors" 232)::kd P "__firstlineno__" 423 (.int 45 422)::kd P "__static_attributes__" 424 (.ref 188)::kd P "__doc__" 425 .none::[])) 2,ar []⟩) ::
 (nat_lit 201,⟨.type "dict",none,.dict (ar (kd P "__module__" 435 (.str "seamarks.errors" 232)::kd P "__firstlineno__" 439 (.int 47 438)::kd P "__static_attributes__" 440 (.ref 200)::kd P "__doc__" 441 .none::[])) 2,ar []⟩) ::
 (nat_lit 213,⟨.type "dict",none,.dict (ar (kd P "__module__" 451 (.str "seamarks.errors" 232)::kd P "__firstlineno__" 455 (.int 49 454)::kd P "__static_attributes__" 456 (.ref 212)::kd P "__doc__" 457 .none::[])) 2,ar []⟩) ::
 (nat_lit 225,⟨.type "dict",none,.dict (ar (kd P "__module__" 467 (.str "seamarks.errors" 232)::kd P "__firstlineno__" 471 (.int 51 470)::kd P "__static_attributes__" 472 (.ref 224)::kd P "__doc__" 473 .none::[])) 2,ar []⟩) ::
 (nat_lit 237,⟨.type "dict",none,.dict (ar (kd P "__module__" 483 (.str "seamarks.errors" 232)::kd P "__firstlineno__" 487 (.int 53 486)::kd P "__static_attributes__" 488 (.ref 236)::kd P "__doc__" 489 .none::[])) 2,ar []⟩) ::
 (nat_lit 249,⟨.type "dict",none,.dict (ar (kd P "__module__" 499 (.str "seamarks.errors" 232)::kd P "__firstlineno__" 503 (.int 55 502)::kd P "__static_attributes__" 504 (.ref 248)::kd P "__doc__" 505 .none::[])) 2,ar []⟩) ::
 (nat_lit 268,⟨.type "dict",none,.dict (ar (kd P "__module__" 515 (.str "seamarks.errors" 232)::kd P "__firstlineno__" 519 (.int 57 518)::kd P "__init__" 527 (.ref 266)::kd P "__static_attributes__" 529 (.ref 267)::kd P "__doc__" 530 .none::[])) 2,ar []⟩) ::
 (nat_lit 272,⟨.type "dict",none,.dict (ar (kd P "marks" 535 (.int 20 536)::kd P "banks" 537 (.int 8 538)::kd P "runs" 539 (.int 12 540)::kd P "notes" 541 (.int 24 542)::[])) 4,ar []⟩) ::
 (nat_lit 437,⟨.type "dict",none,.dict (ar (kd P "mark" 760 (.ref 366)::kd P "move" 761 (.ref 373)::kd P "unmark" 762 (.ref 380)::kd P "bank" 763 (.ref 387)::kd P "level" 764 (.ref 394)::kd P "sail" 765 (.ref 401)::kd P "right" 766 (.ref 408)::kd P "bearing" 767 (.ref 422)::kd P "range" 768 (.ref 429)::kd P "strike" 769 (.ref 436)::[])) 10,ar []⟩) ::
 (nat_lit 608,⟨.type "dict",none,.dict (ar (kd P "__module__" 798 (.str "seamarks.book" 789)::kd P "__firstlineno__" 802 (.int 188 801)::kd P "__init__" 809 (.ref 458)::kd P "mark" 819 (.ref 465)::kd P "move" 829 (.ref 472)::kd P "unmark" 837 (.ref 479)::kd P "bank" 846 (.ref 486)::kd P "level" 854 (.ref 493)::kd P "sail" 863 (.ref 500)::kd P "right" 873 (.ref 507)::kd P "bearing" 884 (.ref 514)::kd P "range_note" 894 (.ref 521)::kd P "strike" 902 (.ref 528)::kd P "deed" 912 (.ref 535)::kd P "step" 921 (.ref 542)::kd P "undo" 928 (.ref 549)::kd P "redo" 935 (.ref 556)::kd P "deeds" 941 (.ref 561)::kd P "undone" 948 (.ref 568)::kd P "twin" 955 (.ref 575)::kd P "marks" 961 (.ref 580)::kd P "banks" 968 (.ref 587)::kd P "runs" 974 (.ref 592)::kd P "notes" 981 (.ref 599)::kd P "coming" 988 (.ref 606)::kd P "__static_attributes__" 992 (.ref 607)::kd P "__dict__" 994 (.ref 610)::kd P "__weakref__" 996 (.ref 611)::kd P "__doc__" 997 .none::[])) 4,ar []⟩)::[]
noncomputable abbrev KF(P:eh):ae:=(nat_lit 3,kNs P)::KG P
noncomputable def KC:ae :=
 (nat_lit 27,kq "turn" 196 5 2 22 (.ref 23) .none (.ref 24) (.ref 25) (.ref 26) 201 202) ::
 (nat_lit 28,kg "turn" zFh "seamarks.sides" 194 27) ::
 (nat_lit 34,kq "stretch_way" 206 8 2 29 (.ref 30) .none (.ref 31) (.ref 32) (.ref 33) 211 212) ::
 (nat_lit 35,kg "stretch_way" wY "seamarks.banks" 204 34) ::
 (nat_lit 41,kq "all_left_of" 214 10 2 36 (.ref 37) .none (.ref 38) (.ref 39) (.ref 40) 223 224) ::
 (nat_lit 42,kg "all_left_of" uD "seamarks.banks" 204 41) ::
 (nat_lit 46,kq "is_bank" 226 18 1 43 (.ref 44) .none .none .none (.ref 45) 229 230) ::
 (nat_lit 47,kg "is_bank" qG "seamarks.banks" 204 46) ::
 (nat_lit 57,(@PySem.Obj.mk (.type "type") none (@PySem.Data.cls (@PySem.ClassData.mk "MarkError" ((.type "ValueError")::[]) ((.ref 57)::((.type "ValueError")::((.type "Exception")::((.type "BaseException")::((.type "object")::[]))))) 56 "MarkError" true [] ((.ref 70)::((.ref 82)::((.ref 94)::((.ref 106)::((.ref 118)::((.ref 130)::((.ref 142)::((.ref 154)::((.ref 166)::((.ref 178)::((.ref 190)::((.ref 202)::((.ref 214)::((.ref 226)::((.ref 238)::((.ref 250)::((.ref 269)::[]))))))))))))))))) false none false)) (ar ((some (.ref 48))::(none::((some (.str "MarkError" 234))::((some (.str "MarkError" 242))::((some (.builtin "ValueError.__new__"))::((some (.bool true))::[]))))))))) ::
 (nat_lit 70,(@PySem.Obj.mk (.type "type") none (@PySem.Data.cls (@PySem.ClassData.mk "BadName" ((.ref 57)::[]) ((.ref 70)::((.ref 57)::((.type "ValueError")::((.type "Exception")::((.type "BaseException")::((.type "object")::[])))))) 69 "BadName" true [] [] false none false)) (ar ((some (.ref 61))::(none::((some (.str "BadName" 252))::((some (.str "BadName" 260))::((some (.builtin "ValueError.__new__"))::((some (.bool true))::[]))))))))) ::
 (nat_lit 82,(@PySem.Obj.mk (.type "type") none (@PySem.Data.cls (@PySem.ClassData.mk "Taken" ((.ref 57)::[]) ((.ref 82)::((.ref 57)::((.type "ValueError")::((.type "Exception")::((.type "BaseException")::((.type "object")::[])))))) 81 "Taken" true [] [] false none false)) (ar ((some (.ref 73))::(none::((some (.str "Taken" 268))::((some (.str "Taken" 276))::((some (.builtin "ValueError.__new__"))::((some (.bool true))::[]))))))))) ::
 (nat_lit 94,(@PySem.Obj.mk (.type "type") none (@PySem.Data.cls (@PySem.ClassData.mk "BadPlace" ((.ref 57)::[]) ((.ref 94)::((.ref 57)::((.type "ValueError")::((.type "Exception")::((.type "BaseException")::((.type "object")::[])))))) 93 "BadPlace" true [] [] false none false)) (ar ((some (.ref 85))::(none::((some (.str "BadPlace" 284))::((some (.str "BadPlace" 292))::((some (.builtin "ValueError.__new__"))::((some (.bool true))::[]))))))))) ::
 (nat_lit 106,(@PySem.Obj.mk (.type "type") none (@PySem.Data.cls (@PySem.ClassData.mk "Full" ((.ref 57)::[]) ((.ref 106)::((.ref 57)::((.type "ValueError")::((.type "Exception")::((.type "BaseException")::((.type "object")::[])))))) 105 "Full" true [] [] false none false)) (ar ((some (.ref 97))::(none::((some (.str "Full" 300))::((some (.str "Full" 308))::((some (.builtin "ValueError.__new__"))::((some (.bool true))::[]))))))))) ::
 (nat_lit 118,(@PySem.Obj.mk (.type "type") none (@PySem.Data.cls (@PySem.ClassData.mk "NoMark" ((.ref 57)::[]) ((.ref 118)::((.ref 57)::((.type "ValueError")::((.type "Exception")::((.type "BaseException")::((.type "object")::[])))))) 117 "NoMark" true [] [] false none false)) (ar ((some (.ref 109))::(none::((some (.str "NoMark" 316))::((some (.str "NoMark" 324))::((some (.builtin "ValueError.__new__"))::((some (.bool true))::[]))))))))) ::
 (nat_lit 130,(@PySem.Obj.mk (.type "type") none (@PySem.Data.cls (@PySem.ClassData.mk "Same" ((.ref 57)::[]) ((.ref 130)::((.ref 57)::((.type "ValueError")::((.type "Exception")::((.type "BaseException")::((.type "object")::[])))))) 129 "Same" true [] [] false none false)) (ar ((some (.ref 121))::(none::((some (.str "Same" 332))::((some (.str "Same" 340))::((some (.builtin "ValueError.__new__"))::((some (.bool true))::[]))))))))) ::
 (nat_lit 142,(@PySem.Obj.mk (.type "type") none (@PySem.Data.cls (@PySem.ClassData.mk "Needed" ((.ref 57)::[]) ((.ref 142)::((.ref 57)::((.type "ValueError")::((.type "Exception")::((.type "BaseException")::((.type "object")::[])))))) 141 "Needed" true [] [] false none false)) (ar ((some (.ref 133))::(none::((some (.str "Needed" 348))::((some (.str "Needed" 356))::((some (.builtin "ValueError.__new__"))::((some (.bool true))::[]))))))))) ::
 (nat_lit 154,(@PySem.Obj.mk (.type "type") none (@PySem.Data.cls (@PySem.ClassData.mk "BadBank" ((.ref 57)::[]) ((.ref 154)::((.ref 57)::((.type "ValueError")::((.type "Exception")::((.type "BaseException")::((.type "object")::[])))))) 153 "BadBank" true [] [] false none false)) (ar ((some (.ref 145))::(none::((some (.str "BadBank" 364))::((some (.str "BadBank" 372))::((some (.builtin "ValueError.__new__"))::((some (.bool true))::[]))))))))) ::
 (nat_lit 166,(@PySem.Obj.mk (.type "type") none (@PySem.Data.cls (@PySem.ClassData.mk "NoBank" ((.ref 57)::[]) ((.ref 166)::((.ref 57)::((.type "ValueError")::((.type "Exception")::((.type "BaseException")::((.type "object")::[])))))) 165 "NoBank" true [] [] false none false)) (ar ((some (.ref 157))::(none::((some (.str "NoBank" 380))::((some (.str "NoBank" 388))::((some (.builtin "ValueError.__new__"))::((some (.bool true))::[]))))))))) ::
 (nat_lit 178,(@PySem.Obj.mk (.type "type") none (@PySem.Data.cls (@PySem.ClassData.mk "BadRun" ((.ref 57)::[]) ((.ref 178)::((.ref 57)::((.type "ValueError")::((.type "Exception")::((.type "BaseException")::((.type "object")::[])))))) 177 "BadRun" true [] [] false none false)) (ar ((some (.ref 169))::(none::((some (.str "BadRun" 396))::((some (.str "BadRun" 404))::((some (.builtin "ValueError.__new__"))::((some (.bool true))::[]))))))))) ::
 (nat_lit 190,(@PySem.Obj.mk (.type "type") none (@PySem.Data.cls (@PySem.ClassData.mk "NoRun" ((.ref 57)::[]) ((.ref 190)::((.ref 57)::((.type "ValueError")::((.type "Exception")::((.type "BaseException")::((.type "object")::[])))))) 189 "NoRun" true [] [] false none false)) (ar ((some (.ref 181))::(none::((some (.str "NoRun" 412))::((some (.str "NoRun" 420))::((some (.builtin "ValueError.__new__"))::((some (.bool true))::[]))))))))) ::
 (nat_lit 202,(@PySem.Obj.mk (.type "type") none (@PySem.Data.cls (@PySem.ClassData.mk "NoMoment" ((.ref 57)::[]) ((.ref 202)::((.ref 57)::((.type "ValueError")::((.type "Exception")::((.type "BaseException")::((.type "object")::[])))))) 201 "NoMoment" true [] [] false none false)) (ar ((some (.ref 193))::(none::((some (.str "NoMoment" 428))::((some (.str "NoMoment" 436))::((some (.builtin "ValueError.__new__"))::((some (.bool true))::[]))))))))) ::
 (nat_lit 214,(@PySem.Obj.mk (.type "type") none (@PySem.Data.cls (@PySem.ClassData.mk "BadWay" ((.ref 57)::[]) ((.ref 214)::((.ref 57)::((.type "ValueError")::((.type "Exception")::((.type "BaseException")::((.type "object")::[])))))) 213 "BadWay" true [] [] false none false)) (ar ((some (.ref 205))::(none::((some (.str "BadWay" 444))::((some (.str "BadWay" 452))::((some (.builtin "ValueError.__new__"))::((some (.bool true))::[]))))))))) ::
 (nat_lit 226,(@PySem.Obj.mk (.type "type") none (@PySem.Data.cls (@PySem.ClassData.mk "BadTurn" ((.ref 57)::[]) ((.ref 226)::((.ref 57)::((.type "ValueError")::((.type "Exception")::((.type "BaseException")::((.type "object")::[])))))) 225 "BadTurn" true [] [] false none false)) (ar ((some (.ref 217))::(none::((some (.str "BadTurn" 460))::((some (.str "BadTurn" 468))::((some (.builtin "ValueError.__new__"))::((some (.bool true))::[]))))))))) ::
 (nat_lit 238,(@PySem.Obj.mk (.type "type") none (@PySem.Data.cls (@PySem.ClassData.mk "NoNote" ((.ref 57)::[]) ((.ref 238)::((.ref 57)::((.type "ValueError")::((.type "Exception")::((.type "BaseException")::((.type "object")::[])))))) 237 "NoNote" true [] [] false none false)) (ar ((some (.ref 229))::(none::((some (.str "NoNote" 476))::((some (.str "NoNote" 484))::((some (.builtin "ValueError.__new__"))::((some (.bool true))::[]))))))))) ::
 (nat_lit 250,(@PySem.Obj.mk (.type "type") none (@PySem.Data.cls (@PySem.ClassData.mk "NothingLeft" ((.ref 57)::[]) ((.ref 250)::((.ref 57)::((.type "ValueError")::((.type "Exception")::((.type "BaseException")::((.type "object")::[])))))) 249 "NothingLeft" true [] [] false none false)) (ar ((some (.ref 241))::(none::((some (.str "NothingLeft" 492))::((some (.str "NothingLeft" 500))::((some (.builtin "ValueError.__new__"))::((some (.bool true))::[]))))))))) ::
 (nat_lit 269,(@PySem.Obj.mk (.type "type") none (@PySem.Data.cls (@PySem.ClassData.mk "BadRow" ((.ref 57)::[]) ((.ref 269)::((.ref 57)::((.type "ValueError")::((.type "Exception")::((.type "BaseException")::((.type "object")::[])))))) 268 "BadRow" true [] [] false none false)) (ar ((some (.ref 253))::(none::((some (.str "BadRow" 508))::((some (.str "BadRow" 516))::((some (.builtin "ValueError.__new__"))::((some (.bool true))::[]))))))))) ::
 (nat_lit 278,kq "nothing_yet" 554 67 0 273 (.ref 274) .none (.ref 275) (.ref 276) (.ref 277) 557 558) ::
 (nat_lit 279,kg "nothing_yet" uK "seamarks.deeds" 533 278) ::
 (nat_lit 285,kq "changed" 560 69 4 280 (.ref 281) .none (.ref 282) (.ref 283) (.ref 284) 568 569) ::
 (nat_lit 286,kg "changed" qE "seamarks.deeds" 533 285) ::
 (nat_lit 292,kq "without" 571 74 3 287 (.ref 288) .none (.ref 289) (.ref 290) (.ref 291) 578 579) ::
 (nat_lit 293,kg "without" rY "seamarks.deeds" 533 292) ::
 (nat_lit 297,kq "within" 581 79 2 294 (.ref 295) .none .none .none (.ref 296) 584 585) ::
 (nat_lit 298,kg "within" zBf "seamarks.deeds" 533 297) ::
 (nat_lit 302,kq "check_name" 587 81 1 299 (.ref 300) .none .none .none (.ref 301) 590 591) ::
 (nat_lit 303,kg "check_name" vD "seamarks.deeds" 533 302) ::
 (nat_lit 309,kq "check_free" 593 84 3 304 (.ref 305) .none (.ref 306) (.ref 307) (.ref 308) 599 600) ::
 (nat_lit 310,kg "check_free" vF "seamarks.deeds" 533 309) ::
 (nat_lit 316,kq "check_place" 602 87 1 311 (.ref 312) .none (.ref 313) (.ref 314) (.ref 315) 606 607) ::
 (nat_lit 317,kg "check_place" uC "seamarks.deeds" 533 316) ::
 (nat_lit 323,kq "check_run" 609 90 1 318 (.ref 319) .none (.ref 320) (.ref 321) (.ref 322) 613 614) ::
 (nat_lit 324,kg "check_run" tQ "seamarks.deeds" 533 323) ::
 (nat_lit 330,kq "check_room" 616 93 2 325 (.ref 326) .none (.ref 327) (.ref 328) (.ref 329) 621 622) ::
 (nat_lit 331,kg "check_room" vH "seamarks.deeds" 533 330) ::
 (nat_lit 337,kq "check_mark" 624 96 2 332 (.ref 333) .none (.ref 334) (.ref 335) (.ref 336) 629 630) ::
 (nat_lit 338,kg "check_mark" vC "seamarks.deeds" 533 337) ::
 (nat_lit 344,kq "check_moment" 632 99 2 339 (.ref 340) .none (.ref 341) (.ref 342) (.ref 343) 637 638) ::
 (nat_lit 345,kg "check_moment" wM "seamarks.deeds" 533 344) ::
 (nat_lit 351,kq "check_way" 640 102 1 346 (.ref 347) .none (.ref 348) (.ref 349) (.ref 350) 644 645) ::
 (nat_lit 352,kg "check_way" tS "seamarks.deeds" 533 351) ::
 (nat_lit 358,kq "check_apart" 647 105 3 353 (.ref 354) .none (.ref 355) (.ref 356) (.ref 357) 653 654) ::
 (nat_lit 359,kg "check_apart" uP "seamarks.deeds" 533 358) ::
 (nat_lit 365,kq "after_mark" 656 108 2 360 (.ref 361) .none (.ref 362) (.ref 363) (.ref 364) 663 664) ::
 (nat_lit 366,kg "after_mark" vN "seamarks.deeds" 533 365) ::
 (nat_lit 372,kq "after_move" 666 116 2 367 (.ref 368) .none (.ref 369) (.ref 370) (.ref 371) 674 675) ::
 (nat_lit 373,kg "after_move" vJ "seamarks.deeds" 533 372) ::
 (nat_lit 379,kq "after_unmark" 677 125 2 374 (.ref 375) .none (.ref 376) (.ref 377) (.ref 378) 684 685) ::
 (nat_lit 380,kg "after_unmark" wQ "seamarks.deeds" 533 379) ::
 (nat_lit 386,kq "after_bank" 687 132 2 381 (.ref 382) .none (.ref 383) (.ref 384) (.ref 385) 695 696) ::
 (nat_lit 387,kg "after_bank" vI "seamarks.deeds" 533 386) ::
 (nat_lit 393,kq "after_level" 698 143 2 388 (.ref 389) .none (.ref 390) (.ref 391) (.ref 392) 704 705) ::
 (nat_lit 394,kg "after_level" uF "seamarks.deeds" 533 393) ::
 (nat_lit 400,kq "after_sail" 707 148 2 395 (.ref 396) .none (.ref 397) (.ref 398) (.ref 399) 713 714) ::
 (nat_lit 401,kg "after_sail" vB "seamarks.deeds" 533 400) ::
 (nat_lit 407,kq "after_right" 716 153 2 402 (.ref 403) .none (.ref 404) (.ref 405) (.ref 406) 723 724) ::
 (nat_lit 408,kg "after_right" uQ "seamarks.deeds" 533 407) ::
 (nat_lit 414,kq "after_note" 726 160 2 409 (.ref 410) .none (.ref 411) (.ref 412) (.ref 413) 732 733) ::
 (nat_lit 415,kg "after_note" vM "seamarks.deeds" 533 414) ::
 (nat_lit 421,kq "after_bearing" 735 165 2 416 (.ref 417) .none (.ref 418) (.ref 419) (.ref 420) 740 741) ::
 (nat_lit 422,kg "after_bearing" wE "seamarks.deeds" 533 421) ::
 (nat_lit 428,kq "after_range" 743 173 2 423 (.ref 424) .none (.ref 425) (.ref 426) (.ref 427) 748 749) ::
 (nat_lit 429,kg "after_range" uN "seamarks.deeds" 533 428) ::
 (nat_lit 435,kq "after_strike" 751 179 2 430 (.ref 431) .none (.ref 432) (.ref 433) (.ref 434) 757 758) ::
 (nat_lit 436,kg "after_strike" wO "seamarks.deeds" 533 435) ::
 (nat_lit 443,kq "after" 781 185 2 438 (.ref 439) .none (.ref 440) (.ref 441) (.ref 442) 786 787) ::
 (nat_lit 444,kg "after" zCi "seamarks.deeds" 533 443) ::
 (nat_lit 457,kc ((.str "__init__" 803)::((.str "Book.__init__" 804)::((.str "/claim/cut.py" 805)::((.int 190 0)::((.int 1 0)::((.int 0 0)::((.int 0 0)::((.int 3 0)::((.ref 452)::((.bool true)::((.int 181 0)::((.ref 453)::(.none::((.ref 454)::((.ref 455)::((.ref 456)::((.int 807 0)::((.int 190 0)::((.str "/claim/cut.py" 808)::[])))))))))))))))))))) ::
 (nat_lit 458,kf2 "__init__" "Book.__init__" zE7 .none .none (.str "seamarks.book" 789) (.ref 457) .none) ::
 (nat_lit 464,kc ((.str "mark" 810)::((.str "Book.mark" 811)::((.str "/claim/cut.py" 812)::((.int 195 0)::((.int 4 0)::((.int 0 0)::((.int 0 0)::((.int 3 0)::((.ref 459)::((.bool true)::((.int 181 0)::((.ref 460)::(.none::((.ref 461)::((.ref 462)::((.ref 463)::((.int 817 0)::((.int 195 0)::((.str "/claim/cut.py" 818)::[])))))))))))))))))))) ::
 (nat_lit 465,kf2 "mark" "Book.mark" zFe .none .none (.str "seamarks.book" 789) (.ref 464) .none) ::
 (nat_lit 471,kc ((.str "move" 820)::((.str "Book.move" 821)::((.str "/claim/cut.py" 822)::((.int 198 0)::((.int 4 0)::((.int 0 0)::((.int 0 0)::((.int 3 0)::((.ref 466)::((.bool true)::((.int 181 0)::((.ref 467)::(.none::((.ref 468)::((.ref 469)::((.ref 470)::((.int 827 0)::((.int 198 0)::((.str "/claim/cut.py" 828)::[])))))))))))))))))))) ::
 (nat_lit 472,kf2 "move" "Book.move" zFb .none .none (.str "seamarks.book" 789) (.ref 471) .none) ::
 (nat_lit 478,kc ((.str "unmark" 830)::((.str "Book.unmark" 831)::((.str "/claim/cut.py" 832)::((.int 201 0)::((.int 2 0)::((.int 0 0)::((.int 0 0)::((.int 3 0)::((.ref 473)::((.bool true)::((.int 181 0)::((.ref 474)::(.none::((.ref 475)::((.ref 476)::((.ref 477)::((.int 835 0)::((.int 201 0)::((.str "/claim/cut.py" 836)::[])))))))))))))))))))) ::
 (nat_lit 479,kf2 "unmark" "Book.unmark" zA6 .none .none (.str "seamarks.book" 789) (.ref 478) .none) ::
 (nat_lit 485,kc ((.str "bank" 838)::((.str "Book.bank" 839)::((.str "/claim/cut.py" 840)::((.int 204 0)::((.int 3 0)::((.int 0 0)::((.int 0 0)::((.int 3 0)::((.ref 480)::((.bool true)::((.int 181 0)::((.ref 481)::(.none::((.ref 482)::((.ref 483)::((.ref 484)::((.int 844 0)::((.int 204 0)::((.str "/claim/cut.py" 845)::[])))))))))))))))))))) ::
 (nat_lit 486,kf2 "bank" "Book.bank" zE2 .none .none (.str "seamarks.book" 789) (.ref 485) .none) ::
 (nat_lit 492,kc ((.str "level" 847)::((.str "Book.level" 848)::((.str "/claim/cut.py" 849)::((.int 207 0)::((.int 2 0)::((.int 0 0)::((.int 0 0)::((.int 3 0)::((.ref 487)::((.bool true)::((.int 181 0)::((.ref 488)::(.none::((.ref 489)::((.ref 490)::((.ref 491)::((.int 852 0)::((.int 207 0)::((.str "/claim/cut.py" 853)::[])))))))))))))))))))) ::
 (nat_lit 493,kf2 "level" "Book.level" zCk .none .none (.str "seamarks.book" 789) (.ref 492) .none) ::
 (nat_lit 499,kc ((.str "sail" 855)::((.str "Book.sail" 856)::((.str "/claim/cut.py" 857)::((.int 210 0)::((.int 3 0)::((.int 0 0)::((.int 0 0)::((.int 3 0)::((.ref 494)::((.bool true)::((.int 181 0)::((.ref 495)::(.none::((.ref 496)::((.ref 497)::((.ref 498)::((.int 861 0)::((.int 210 0)::((.str "/claim/cut.py" 862)::[])))))))))))))))))))) ::
 (nat_lit 500,kf2 "sail" "Book.sail" zFa .none .none (.str "seamarks.book" 789) (.ref 499) .none) ::
 (nat_lit 506,kc ((.str "right" 864)::((.str "Book.right" 865)::((.str "/claim/cut.py" 866)::((.int 213 0)::((.int 4 0)::((.int 0 0)::((.int 0 0)::((.int 3 0)::((.ref 501)::((.bool true)::((.int 181 0)::((.ref 502)::(.none::((.ref 503)::((.ref 504)::((.ref 505)::((.int 871 0)::((.int 213 0)::((.str "/claim/cut.py" 872)::[])))))))))))))))))))) ::
 (nat_lit 507,kf2 "right" "Book.right" zCp .none .none (.str "seamarks.book" 789) (.ref 506) .none) ::
 (nat_lit 513,kc ((.str "bearing" 874)::((.str "Book.bearing" 875)::((.str "/claim/cut.py" 876)::((.int 216 0)::((.int 5 0)::((.int 0 0)::((.int 0 0)::((.int 3 0)::((.ref 508)::((.bool true)::((.int 181 0)::((.ref 509)::(.none::((.ref 510)::((.ref 511)::((.ref 512)::((.int 882 0)::((.int 216 0)::((.str "/claim/cut.py" 883)::[])))))))))))))))))))) ::
 (nat_lit 514,kf2 "bearing" "Book.bearing" qD .none .none (.str "seamarks.book" 789) (.ref 513) .none) ::
 (nat_lit 520,kc ((.str "range_note" 885)::((.str "Book.range_note" 886)::((.str "/claim/cut.py" 887)::((.int 219 0)::((.int 4 0)::((.int 0 0)::((.int 0 0)::((.int 3 0)::((.ref 515)::((.bool true)::((.int 181 0)::((.ref 516)::(.none::((.ref 517)::((.ref 518)::((.ref 519)::((.int 892 0)::((.int 219 0)::((.str "/claim/cut.py" 893)::[])))))))))))))))))))) ::
 (nat_lit 521,kf2 "range_note" "Book.range_note" vG .none .none (.str "seamarks.book" 789) (.ref 520) .none) ::
 (nat_lit 527,kc ((.str "strike" 895)::((.str "Book.strike" 896)::((.str "/claim/cut.py" 897)::((.int 222 0)::((.int 2 0)::((.int 0 0)::((.int 0 0)::((.int 3 0)::((.ref 522)::((.bool true)::((.int 181 0)::((.ref 523)::(.none::((.ref 524)::((.ref 525)::((.ref 526)::((.int 900 0)::((.int 222 0)::((.str "/claim/cut.py" 901)::[])))))))))))))))))))) ::
 (nat_lit 528,kf2 "strike" "Book.strike" zA7 .none .none (.str "seamarks.book" 789) (.ref 527) .none) ::
 (nat_lit 534,kc ((.str "deed" 903)::((.str "Book.deed" 904)::((.str "/claim/cut.py" 905)::((.int 225 0)::((.int 2 0)::((.int 0 0)::((.int 0 0)::((.int 3 0)::((.ref 529)::((.bool true)::((.int 181 0)::((.ref 530)::(.none::((.ref 531)::((.ref 532)::((.ref 533)::((.int 910 0)::((.int 225 0)::((.str "/claim/cut.py" 911)::[])))))))))))))))))))) ::
 (nat_lit 535,kf2 "deed" "Book.deed" zEz .none .none (.str "seamarks.book" 789) (.ref 534) .none) ::
 (nat_lit 560,kc ((.str "deeds" 936)::((.str "Book.deeds" 937)::((.str "/claim/cut.py" 938)::((.int 242 0)::((.int 1 0)::((.int 0 0)::((.int 0 0)::((.int 3 0)::((.ref 557)::((.bool true)::((.int 181 0)::((.ref 558)::(.none::(.none::(.none::((.ref 559)::((.int 939 0)::((.int 242 0)::((.str "/claim/cut.py" 940)::[])))))))))))))))))))) ::
 (nat_lit 561,kf2 "deeds" "Book.deeds" zCd .none .none (.str "seamarks.book" 789) (.ref 560) .none) ::
 (nat_lit 579,kc ((.str "marks" 956)::((.str "Book.marks" 957)::((.str "/claim/cut.py" 958)::((.int 251 0)::((.int 1 0)::((.int 0 0)::((.int 0 0)::((.int 3 0)::((.ref 576)::((.bool true)::((.int 181 0)::((.ref 577)::(.none::(.none::(.none::((.ref 578)::((.int 959 0)::((.int 251 0)::((.str "/claim/cut.py" 960)::[])))))))))))))))))))) ::
 (nat_lit 580,kf2 "marks" "Book.marks" zCr .none .none (.str "seamarks.book" 789) (.ref 579) .none) ::
 (nat_lit 586,kc ((.str "banks" 962)::((.str "Book.banks" 963)::((.str "/claim/cut.py" 964)::((.int 255 0)::((.int 1 0)::((.int 0 0)::((.int 0 0)::((.int 3 0)::((.ref 581)::((.bool true)::((.int 181 0)::((.ref 582)::(.none::((.ref 583)::((.ref 584)::((.ref 585)::((.int 966 0)::((.int 255 0)::((.str "/claim/cut.py" 967)::[])))))))))))))))))))) ::
 (nat_lit 587,kf2 "banks" "Book.banks" zCz .none .none (.str "seamarks.book" 789) (.ref 586) .none) ::
 (nat_lit 591,kc ((.str "runs" 969)::((.str "Book.runs" 970)::((.str "/claim/cut.py" 971)::((.int 258 0)::((.int 1 0)::((.int 0 0)::((.int 0 0)::((.int 3 0)::((.ref 588)::((.bool true)::((.int 181 0)::((.ref 589)::(.none::(.none::(.none::((.ref 590)::((.int 972 0)::((.int 258 0)::((.str "/claim/cut.py" 973)::[])))))))))))))))))))) ::
 (nat_lit 592,kf2 "runs" "Book.runs" zE3 .none .none (.str "seamarks.book" 789) (.ref 591) .none) ::
 (nat_lit 598,kc ((.str "notes" 975)::((.str "Book.notes" 976)::((.str "/claim/cut.py" 977)::((.int 262 0)::((.int 1 0)::((.int 0 0)::((.int 0 0)::((.int 3 0)::((.ref 593)::((.bool true)::((.int 181 0)::((.ref 594)::(.none::((.ref 595)::((.ref 596)::((.ref 597)::((.int 979 0)::((.int 262 0)::((.str "/claim/cut.py" 980)::[])))))))))))))))))))) ::
 (nat_lit 599,kf2 "notes" "Book.notes" zC1 .none .none (.str "seamarks.book" 789) (.ref 598) .none) ::
 (nat_lit 605,kc ((.str "coming" 982)::((.str "Book.coming" 983)::((.str "/claim/cut.py" 984)::((.int 265 0)::((.int 1 0)::((.int 0 0)::((.int 0 0)::((.int 3 0)::((.ref 600)::((.bool true)::((.int 181 0)::((.ref 601)::(.none::((.ref 602)::((.ref 603)::((.ref 604)::((.int 986 0)::((.int 265 0)::((.str "/claim/cut.py" 987)::[])))))))))))))))))))) ::
 (nat_lit 606,kf2 "coming" "Book.coming" zBc .none .none (.str "seamarks.book" 789) (.ref 605) .none) ::
 (nat_lit 609,(@PySem.Obj.mk (.type "type") none (@PySem.Data.cls (@PySem.ClassData.mk "Book" ((.type "object")::[]) ((.ref 609)::((.type "object")::[])) 608 "Book" true [] [] false none false)) (ar (none::(none::((some (.str "Book" 791))::((some (.str "Book" 799))::((some (.builtin "object.__new__"))::((some (.bool true))::[]))))))))) ::
 (nat_lit 619,kq "_law_called" 1002 268 2 614 (.ref 615) .none (.ref 616) (.ref 617) (.ref 618) 1007 1008) ::
 (nat_lit 620,kg "_law_called" zBa "law_seamarks_k36_methods_do_their_deeds" 1000 619) ::
 (nat_lit 624,kq "_law_refused" 1010 288 1 621 (.ref 622) .none .none .none (.ref 623) 1013 1014) ::
 (nat_lit 625,kg "_law_refused" qP "law_seamarks_k36_methods_do_their_deeds" 1000 624) ::
 (nat_lit 631,kq "_law_power" 1016 298 1 626 (.ref 627) .none (.ref 628) (.ref 629) (.ref 630) 1020 1021) ::
 (nat_lit 632,kg "_law_power" zCf "law_seamarks_k36_methods_do_their_deeds" 1000 631) ::
 (nat_lit 638,kq "_law_draws" 1023 300 2 633 (.ref 634) .none (.ref 635) (.ref 636) (.ref 637) 1032 1033) ::
 (nat_lit 639,kg "_law_draws" zCo "law_seamarks_k36_methods_do_their_deeds" 1000 638) ::
 (nat_lit 643,kq "_law_names" 1035 316 2 640 (.ref 641) .none .none .none (.ref 642) 1038 1039) ::
 (nat_lit 644,kg "_law_names" zCg "law_seamarks_k36_methods_do_their_deeds" 1000 643) ::
 (nat_lit 650,kq "_law_new" 1041 331 0 645 (.ref 646) .none (.ref 647) (.ref 648) (.ref 649) 1044 1045) ::
 (nat_lit 651,kg "_law_new" zJo "law_seamarks_k36_methods_do_their_deeds" 1000 650) ::
 (nat_lit 657,kq "_law_strange" 1047 333 1 652 (.ref 653) .none (.ref 654) (.ref 655) (.ref 656) 1053 1054) ::
 (nat_lit 658,kg "_law_strange" rZ "law_seamarks_k36_methods_do_their_deeds" 1000 657) ::
 (nat_lit 664,kq "_law_pick" 1056 339 2 659 (.ref 660) .none (.ref 661) (.ref 662) (.ref 663) 1061 1062) ::
 (nat_lit 665,kg "_law_pick" zFc "law_seamarks_k36_methods_do_their_deeds" 1000 664) ::
 (nat_lit 671,kq "_law_far_number" 1064 343 1 666 (.ref 667) .none (.ref 668) (.ref 669) (.ref 670) 1068 1069) ::
 (nat_lit 672,kg "_law_far_number" vK "law_seamarks_k36_methods_do_their_deeds" 1000 671) ::
 (nat_lit 678,kq "_law_way" 1071 349 3 673 (.ref 674) .none (.ref 675) (.ref 676) (.ref 677) 1079 1080) ::
 (nat_lit 679,kg "_law_way" zI7 "law_seamarks_k36_methods_do_their_deeds" 1000 678) ::
 (nat_lit 685,kq "_law_turned" 1082 355 2 680 (.ref 681) .none (.ref 682) (.ref 683) (.ref 684) 1087 1088) ::
 (nat_lit 686,kg "_law_turned" zBb "law_seamarks_k36_methods_do_their_deeds" 1000 685) ::
 (nat_lit 692,kq "_law_left_pair" 1090 357 2 687 (.ref 688) .none (.ref 689) (.ref 690) (.ref 691) 1097 1098) ::
 (nat_lit 693,kg "_law_left_pair" tL "law_seamarks_k36_methods_do_their_deeds" 1000 692) ::
 (nat_lit 699,kq "_law_bearing_deed" 1100 367 3 694 (.ref 695) .none (.ref 696) (.ref 697) (.ref 698) 1112 1113) ::
 (nat_lit 700,kg "_law_bearing_deed" wK "law_seamarks_k36_methods_do_their_deeds" 1000 699) ::
 (nat_lit 706,kq "_law_deed" 1115 380 3 701 (.ref 702) .none (.ref 703) (.ref 704) (.ref 705) 1125 1126) ::
 (nat_lit 707,kg "_law_deed" zE0 "law_seamarks_k36_methods_do_their_deeds" 1000 706) ::
 (nat_lit 711,kq "_law_is_name" 1128 403 1 708 (.ref 709) .none .none .none (.ref 710) 1131 1132) ::
 (nat_lit 712,kg "_law_is_name" qT "law_seamarks_k36_methods_do_their_deeds" 1000 711) ::
 (nat_lit 718,kq "_law_near" 1134 405 2 713 (.ref 714) .none (.ref 715) (.ref 716) (.ref 717) 1139 1140) ::
 (nat_lit 719,kg "_law_near" zE1 "law_seamarks_k36_methods_do_their_deeds" 1000 718) ::
 (nat_lit 723,kq "_law_mark_word" 1142 407 2 720 (.ref 721) .none .none .none (.ref 722) 1145 1146) ::
 (nat_lit 724,kg "_law_mark_word" tM "law_seamarks_k36_methods_do_their_deeds" 1000 723) ::
 (nat_lit 728,kq "_law_bank_word" 1148 429 2 725 (.ref 726) .none .none .none (.ref 727) 1151 1152) ::
 (nat_lit 729,kg "_law_bank_word" tO "law_seamarks_k36_methods_do_their_deeds" 1000 728) ::
 (nat_lit 735,kq "_law_run_word" 1154 441 2 730 (.ref 731) .none (.ref 732) (.ref 733) (.ref 734) 1159 1160) ::
 (nat_lit 736,kg "_law_run_word" rA "law_seamarks_k36_methods_do_their_deeds" 1000 735) ::
 (nat_lit 742,kq "_law_note_word" 1162 449 2 737 (.ref 738) .none (.ref 739) (.ref 740) (.ref 741) 1169 1170) ::
 (nat_lit 743,kg "_law_note_word" tK "law_seamarks_k36_methods_do_their_deeds" 1000 742) ::
 (nat_lit 749,kq "_law_word" 1172 465 2 744 (.ref 745) .none (.ref 746) (.ref 747) (.ref 748) 1177 1178) ::
 (nat_lit 750,kg "_law_word" zE5 "law_seamarks_k36_methods_do_their_deeds" 1000 749) ::
 (nat_lit 756,kq "_law_due" 1180 473 2 751 (.ref 752) .none (.ref 753) (.ref 754) (.ref 755) 1186 1187) ::
 (nat_lit 757,kg "_law_due" zIw "law_seamarks_k36_methods_do_their_deeds" 1000 756) ::
 (nat_lit 761,kq "_law_same" 1189 478 2 758 (.ref 759) .none .none .none (.ref 760) 1192 1193) ::
 (nat_lit 762,kg "_law_same" zC7 "law_seamarks_k36_methods_do_their_deeds" 1000 761) ::
 (nat_lit 768,kq "_law_done" 1195 486 2 763 (.ref 764) .none (.ref 765) (.ref 766) (.ref 767) 1201 1202) ::
 (nat_lit 769,kg "_law_done" zEx "law_seamarks_k36_methods_do_their_deeds" 1000 768) ::
 (nat_lit 775,kq "_law_after" 1204 491 2 770 (.ref 771) .none (.ref 772) (.ref 773) (.ref 774) 1210 1211) ::
 (nat_lit 776,kg "_law_after" zCj "law_seamarks_k36_methods_do_their_deeds" 1000 775) ::
 (nat_lit 780,kq "_law_marks_of" 1213 513 1 777 (.ref 778) .none .none .none (.ref 779) 1216 1217) ::
 (nat_lit 781,kg "_law_marks_of" rB "law_seamarks_k36_methods_do_their_deeds" 1000 780) ::
 (nat_lit 787,kq "_law_stands" 1219 515 2 782 (.ref 783) .none (.ref 784) (.ref 785) (.ref 786) 1224 1225) ::
 (nat_lit 788,kg "_law_stands" zA8 "law_seamarks_k36_methods_do_their_deeds" 1000 787) ::
 (nat_lit 794,kq "_law_drawn_bank" 1227 521 1 789 (.ref 790) .none (.ref 791) (.ref 792) (.ref 793) 1233 1234) ::
 (nat_lit 795,kg "_law_drawn_bank" vL "law_seamarks_k36_methods_do_their_deeds" 1000 794) ::
 (nat_lit 801,kq "_law_round_enough" 1236 524 1 796 (.ref 797) .none (.ref 798) (.ref 799) (.ref 800) 1240 1241) ::
 (nat_lit 802,kg "_law_round_enough" wR "law_seamarks_k36_methods_do_their_deeds" 1000 801) ::
 (nat_lit 808,kq "_law_by_method" 1243 526 2 803 (.ref 804) .none (.ref 805) (.ref 806) (.ref 807) 1249 1250) ::
 (nat_lit 809,kg "_law_by_method" tJ "law_seamarks_k36_methods_do_their_deeds" 1000 808) ::
 (nat_lit 815,kq "law" 1252 531 1 810 (.ref 811) .none (.ref 812) (.ref 813) (.ref 814) 1265 1266) ::
 (nat_lit 816,kg "law" zM0 "law_seamarks_k36_methods_do_their_deeds" 1000 815)::[]
noncomputable def KK(P:eh):ae:=(nat_lit 3,kNs P)::(KG P++KC)
noncomputable def K:ae:=Classical.choose (⟨KC,rfl⟩:∃ k,k=KC)
theorem zTp:K=KC:=Classical.choose_spec (⟨KC,rfl⟩:∃ k,k=KC)
noncomputable def kas:List Nat:=nat_lit 3::nat_lit 56::nat_lit 69::nat_lit 81::nat_lit 93::nat_lit 105::nat_lit 117::nat_lit 129::nat_lit 141::nat_lit 153::nat_lit 165::nat_lit 177::nat_lit 189::nat_lit 201::nat_lit 213::nat_lit 225::nat_lit 237::nat_lit 249::nat_lit 268::nat_lit 272::nat_lit 437::nat_lit 608::KC.map (·.1)
theorem kas_ok:∀ P:eh,kas=(KK P).map (·.1):=λ_=>by kernel_rfl
theorem yb4{a b:Bool}(h:a=true)(k:b=true):(a&&b)=true:=by rw[h,k]; rfl
set_option maxHeartbeats 0 in
open PySem.W in
theorem said_ok:PySem.Challenge.rw_seamarks_k36_methods_do_their_deeds.wellSaid=true:=by
 unfold OpenLaw.wellSaid
 repeat' first | with_reducible apply yb4 | unfold OpenRow.wellSaid | unfold OpenRow.partSaid | unfold looksOpen
 all_goals decide +kernel
open PySem.W in
noncomputable abbrev lkM:=Fast.tw5923862056798008813 (Fast.tw2368527892694137696 PySem.Challenge.rw_seamarks_k36_methods_do_their_deeds).prog.main.body
open PySem.W in
noncomputable abbrev lkT(w:World)(os:OsState):=yi0 Fast.tw14364793385576792824 (Fast.tw2368527892694137696 PySem.Challenge.rw_seamarks_k36_methods_do_their_deeds).prog 90000 w os
open PySem.W in
noncomputable abbrev lkS(s:SharedT):=Fast.tw4187177175401517315 qv lse lkM (λs=>xlAt qv [] s&&recOk (Fast.tw2368527892694137696 PySem.Challenge.rw_seamarks_k36_methods_do_their_deeds).records s) true s.abs
set_option maxHeartbeats 0 in
open PySem.W in
theorem zZe(u:World)(os:OsState):(lkT (u.withFollow "special-get-raises" true) os).map (λs=>(staticsOk lkM (boot_heap (u.withFollow "special-get-raises" true).params) s.abs.heap&&namesBound (Fast.tw2368527892694137696 PySem.Challenge.rw_seamarks_k36_methods_do_their_deeds).prog s.abs.heap&&gensDone s.abs&&laidKept (boot_heap (u.withFollow "special-get-raises" true).params) s.abs.heap))=some true:=by kernel_rfl
set_option maxHeartbeats 0 in
open PySem.W in
theorem zXt(u:World)(os:OsState):(lkT (u.withFollow "special-get-raises" false) os).map (λs=>(staticsOk lkM (boot_heap (u.withFollow "special-get-raises" false).params) s.abs.heap&&namesBound (Fast.tw2368527892694137696 PySem.Challenge.rw_seamarks_k36_methods_do_their_deeds).prog s.abs.heap&&gensDone s.abs&&laidKept (boot_heap (u.withFollow "special-get-raises" false).params) s.abs.heap))=some true:=by kernel_rfl
set_option maxHeartbeats 0 in
open PySem.W in
theorem yc3(w:World)(os:OsState):(lkT w os).map (λs=>(staticsOk lkM (boot_heap w.params) s.abs.heap&&namesBound (Fast.tw2368527892694137696 PySem.Challenge.rw_seamarks_k36_methods_do_their_deeds).prog s.abs.heap&&gensDone s.abs&&laidKept (boot_heap w.params) s.abs.heap))=some true:=by
 have h:∀(b:Bool)(u:World),(λw:World=>(lkT w os).map (λs=>(staticsOk lkM (boot_heap w.params) s.abs.heap&&namesBound (Fast.tw2368527892694137696 PySem.Challenge.rw_seamarks_k36_methods_do_their_deeds).prog s.abs.heap&&gensDone s.abs&&laidKept (boot_heap w.params) s.abs.heap))=some true) (u.withFollow "special-get-raises" b):=λb u=>by cases b; exact zXt u os; exact zZe u os
 have:=h (w.params.followText "special-get-raises") w;rwa[ej] at this
set_option maxHeartbeats 0 in
open PySem.W in
theorem zXu(u:aT)(os:f7):(lkT (u.withFollow "special-get-raises" true) os).map (λs=>(lkS s).1)=some (openGood qv lse).1:=by kernel_rfl
set_option maxHeartbeats 0 in
open PySem.W in
theorem zX0(u:aT)(os:f7):(lkT (u.withFollow "special-get-raises" false) os).map (λs=>(lkS s).1)=some (openGood qv lse).1:=by kernel_rfl
set_option maxHeartbeats 0 in
open PySem.W in
theorem ye1(w:aT)(os:f7):(lkT w os).map (λs=>(lkS s).1)=some (openGood qv lse).1:=by
 have h:∀(b:Bool)(u:aT),(λw:aT=>(lkT w os).map (λs=>(lkS s).1)=some (openGood qv lse).1) (u.withFollow "special-get-raises" b):=λb u=>by cases b; exact zX0 u os; exact zXu u os
 have:=h (w.params.followText "special-get-raises") w;rwa[ej] at this
set_option maxHeartbeats 0 in
open PySem.W in
theorem zXy(u:aT)(os:f7):(lkT (u.withFollow "special-get-raises" true) os).map (λs=>(lkS s).2)=some (openGood qv lse).2:=by kernel_rfl
set_option maxHeartbeats 0 in
open PySem.W in
theorem zXz(u:aT)(os:f7):(lkT (u.withFollow "special-get-raises" false) os).map (λs=>(lkS s).2)=some (openGood qv lse).2:=by kernel_rfl
set_option maxHeartbeats 0 in
open PySem.W in
theorem yb7(w:aT)(os:f7):(lkT w os).map (λs=>(lkS s).2)=some (openGood qv lse).2:=by
 have h:∀(b:Bool)(u:aT),(λw:aT=>(lkT w os).map (λs=>(lkS s).2)=some (openGood qv lse).2) (u.withFollow "special-get-raises" b):=λb u=>by cases b; exact zXz u os; exact zXy u os
 have:=h (w.params.followText "special-get-raises") w;rwa[ej] at this
set_option maxHeartbeats 0 in
open PySem.W in
theorem zXq(u:aT)(os:f7):(lkT (u.withFollow "special-get-raises" true) os).map (λs=>kas.map s.abs.heap.get?)=some ((KK (u.withFollow "special-get-raises" true).params).map λp=>some p.2):=by kernel_rfl
set_option maxHeartbeats 0 in
open PySem.W in
theorem zZa(u:aT)(os:f7):(lkT (u.withFollow "special-get-raises" false) os).map (λs=>kas.map s.abs.heap.get?)=some ((KK (u.withFollow "special-get-raises" false).params).map λp=>some p.2):=by kernel_rfl
set_option maxHeartbeats 0 in
open PySem.W in
theorem yg1(w:aT)(os:f7):(lkT w os).map (λs=>kas.map s.abs.heap.get?)=some ((KK w.params).map λp=>some p.2):=by
 have h:∀(b:Bool)(u:aT),(λw:aT=>(lkT w os).map (λs=>kas.map s.abs.heap.get?)=some ((KK w.params).map λp=>some p.2)) (u.withFollow "special-get-raises" b):=λb u=>by cases b; exact zZa u os; exact zXq u os
 have:=h (w.params.followText "special-get-raises") w;rwa[ej] at this
set_option maxHeartbeats 0 in
open PySem.W in
theorem left_ok:LeftO PySem.Challenge.rw_seamarks_k36_methods_do_their_deeds.row.prog qv lse (λs=>xlAt qv [] s&&recOk (RowW.records (OpenRow.toRowW PySem.Challenge.rw_seamarks_k36_methods_do_their_deeds.row)) s)
  (λs=>kas.map s.heap.get?) (λw=>(KK w.params).map λp=>some p.2) 90000:=by
 refine zTz (boot_open (by kernel_rfl) (by decide) (λs=>by kernel_rfl)) ?a ?b ?c
 case a =>
  rw[gf,eE,eB];exact yc3
 case b =>
  rw[Fast.te4187177175401517315,gf,eE,eB];exact λw os=>zVn (f:=lkS) (ye1 w os) (yb7 w os)
 case c =>
  rw[eE,eB];exact yg1
end Sea
-- BASE
namespace L2
open PySem PySem.Spec PyProof.Rows

abbrev Key:=Sum Int aA
def zN1:Key->ag->Bool
 | .inl k,v=>mT k v
 | .inr x,v=>lT x v
def keyH(w:aT):Key->Int
 | .inl k=>hashInt k
 | .inr x=>hashStr w x
theorem yP:∀{k:Key}{v:ag},zN1 k v=true->(∃ i t,k=dW i/\v=dH i t)\/(∃ x t,k=dX x/\v=cB x t)
 | .inl i,v,h=>by
  obtain⟨t,e⟩:=Value.isInt_shape (k:=i) (v:=v) h;exact .inl ⟨i,t,rfl,e⟩
 | .inr x,v,h=>by
  obtain⟨t,e⟩:=Value.isStrOf_shape (x:=x) (v:=v) h;exact .inr ⟨x,t,rfl,e⟩
theorem zTn(i:Int)(t:nh):zN1 (.inl i) (.int i t)=true:=by simp[zN1,mT]
theorem zT1(x:aA)(t:nh):zN1 (.inr x) (.str x t)=true:=by simp[zN1,lT]
theorem zZ9(a b:Int):decide ((dW a:Key)=dW b)=(a == b):=by
 by_cases e:a=b
 ·subst e; simp
 ·have h:¬ (dW a:Key)=dW b:=λq=>e (Sum.inl.inj q);rw[decide_eq_false h];exact(beq_eq_false_iff_ne.mpr e).symm
theorem yf4(a b:aA):decide ((dX a:Key)=dX b)=decide (a=b):=by
 by_cases e:a=b
 ·subst e; simp
 ·have h:¬ (dX a:Key)=dX b:=λq=>e (kI q);rw[decide_eq_false h,decide_eq_false e]
theorem yh1(a:Int)(b:aA):decide ((dW a:Key)=dX b)=false:=decide_eq_false (λq=>nomatch q)
theorem yg3(a:aA)(b:Int):decide ((dX a:Key)=dW b)=false:=decide_eq_false (λq=>nomatch q)

def yK(prog:aK)(w:aT):PySem.KeyKind prog w Key where
 is:=zN1
 hash:=keyH w
 inj:=λv a b ha hb=>by
  rcases yP ha with ⟨i,t,rfl,rfl⟩ | ⟨x,t,rfl,rfl⟩
  ·rcases yP hb with ⟨j,u,rfl,e⟩ | ⟨y,u,rfl,e⟩
   ·injection e with e1 _; rw[e1]
   ·exact nomatch e
  ·rcases yP hb with ⟨j,u,rfl,e⟩ | ⟨y,u,rfl,e⟩
   ·exact nomatch e
   ·injection e with e1 _; rw[e1]
 byValue:=λk v h=>by
  rcases yP h with ⟨i,t,rfl,rfl⟩ | ⟨x,t,rfl,rfl⟩ <;> rfl
 pyHash:=λhv h=>by
  rcases yP hv with ⟨i,t,rfl,rfl⟩ | ⟨x,t,rfl,rfl⟩
  ·exact wpAny_pyHash_int h
  ·exact wpAny_pyHash_str h
 eqBool:=λhu hv h=>by
  rcases yP hu with ⟨i,t,rfl,rfl⟩ | ⟨x,t,rfl,rfl⟩
  ·rcases yP hv with ⟨j,u,rfl,rfl⟩ | ⟨y,u,rfl,rfl⟩
   ·rw[zZ9] at h; exact j5 h
   ·rw[yh1] at h; exact jm i t y u _ _ _ _ h
  ·rcases yP hv with ⟨j,u,rfl,rfl⟩ | ⟨y,u,rfl,rfl⟩
   ·rw[yg3] at h; exact jo x t j u _ _ _ _ h
   ·rw[yf4] at h; exact j6 h
 «strs»:=λk x t v h=>by
  rcases yP h with ⟨i,u,rfl,e⟩ | ⟨y,u,rfl,e⟩
  ·exact nomatch e
  ·injection e with e1 _
   subst e1;cases v <;> rfl

theorem zNh(prog:aK)(w:aT)(i:Int)(t:nh):(yK prog w).is (.inl i) (.int i t)=true:=zTn i t
theorem zBy(prog:aK)(w:aT)(x:aA)(t:nh):(yK prog w).is (.inr x) (.str x t)=true:=zT1 x t
end L2

namespace L2
open PySem PySem.Spec PyProof.Rows

inductive V where
 | non | bl (b:Bool) | int (i:Int) | str (x:aA) | byt (b:Array UInt8) | flt (b:UInt64) | ref (a:af) | ty (n:String)
 deriving DecidableEq

def xE:V->ag->Prop
 | .non,u=>u=bg
 | .bl b,u=>u=h9 b
 | .int i,u=>∃ t,u=dH i t
 | .str x,u=>∃ t,u=cB x t
 | .byt b,u=>∃ t,u=kJ b t
 | .flt b,u=>∃ t,u=iS b t
 | .ref a,u=>u=aI a
 | .ty n,u=>u=kX n

abbrev yV:List V->List ag->Prop:=j7 xE
theorem yV.length{xs:List V}{us:List ag}(r:yV xs us):xs.length=us.length:=jh r
theorem yV.get:∀{xs:List V}{us:List ag}{i:Nat}{x:V},yV xs us->xs[i]?=some x->∃ u,us[i]?=some u/\xE x u
 | _,_,_,_,.nil,e=>by simp at e
 | _,_,0,_,.cons r _,e=>by simp at e; subst e; exact⟨_,U,r⟩
 | _,_,i+1,x,.cons _ t,e=>by
  obtain⟨u,h1,h2⟩:=yV.get (i:=i) (x:=x) t (by simpa using e);exact⟨u,by simpa using h1,h2⟩
theorem yV.set{x:V}{u:ag}(r:xE x u):∀{xs:List V}{us:List ag}(i:Nat),yV xs us->yV (xs.set i x) (us.set i u)
 | _,_,_,.nil=>.nil
 | _,_,0,.cons _ t=>.cons r t
 | _,_,i+1,.cons q t=>.cons q (yV.set r i t)
theorem yV.append:∀{xs ys:List V}{us ws:List ag},yV xs us->yV ys ws->yV (xs++ys) (us++ws)
 | _,_,_,_,.nil,s=>s
 | _,_,_,_,.cons r t,s=>.cons r (yV.append t s)
theorem yV.take:∀{xs:List V}{us:List ag}(n:Nat),yV xs us->yV (xs.take n) (us.take n)
 | _,_,0,_=>.nil
 | _,_,_+1,.nil=>.nil
 | _,_,n+1,.cons r t=>.cons r (yV.take n t)
theorem yV.drop:∀{xs:List V}{us:List ag}(n:Nat),yV xs us->yV (xs.drop n) (us.drop n)
 | _,_,0,r=>r
 | _,_,_+1,.nil=>.nil
 | _,_,n+1,.cons _ t=>yV.drop n t
theorem yV.none_of:∀{xs:List V}{us:List ag}{i:Nat},yV xs us->xs[i]?=none->us[i]?=none:=λ{xs us i} r e=>by
 have h1:=r.length;have h2:xs.length<=i:=gG.mp e;exact gG.mpr (by lia)

def zJ3:Option V->Option ag->Prop
 | some v,some u=>xE v u
 | none,none=>True
 | _,_=>False
def KV{κ:Type} : List (κ×V)->List (κ×ag)->Prop:=j7 λ(p:κ×V) (q:κ×ag)=>p.1=q.1/\xE p.2 q.2

def kV:Key->V
 | .inl i=>.int i
 | .inr x=>.str x

inductive HO where
 | lst (xs:List V)
 | tup (xs:List V)
 | dK (kvs:List (Key×V)) | dT (kvs:List (List Key×V))
 | set (S:Int->Bool) (n:Nat)
 | ins (C dx:af) (fs:List (aA×V))
 | own (x:af)
 | xd (fs:List (aA×V))
 | met (f x:af)
 | rng (lo hi:Int)
 | frz (o:cz) (u:HO)
 | tbl (ps:Array ag)
 | ext (φ:aV->Prop)

abbrev Hp:=af->Option HO
def upd(H:Hp)(a:af)(o:HO):Hp:=λb=>if b=a then some o else H b
theorem zA{H:Hp}{a:af}{o:HO} : upd H a o a=some o:=by unfold upd; rw[if_pos rfl]
theorem zH{H:Hp}{a b:af}{o:HO}(h:b≠a):upd H a o b=H b:=by unfold upd; rw[if_neg h]
theorem yd2{H:Hp}{a b:af}{o u:HO}(h:H a=some o)(h':H b=some u)(d:o≠u):a≠b:=by
 intro e; subst e; rw[h] at h'; exact d (a7 h')
theorem zJ{H:Hp}{a b:af}{o:HO}(h:H a=some o)(h':H b=none):a≠b:=by
 intro e; subst e; rw[h] at h'; cases h'

section
variable(P:aK)(w:aT)
def xD(H:Hp)(h:aV)(a:af):HO->Prop
 | .lst xs=>xs.length<=sizeLine/\∃(its:List ag)(n:Nat),yV xs its/\h.get? a=some { cls:=.type "list",data:=.seq its.toArray n }
 | .tup xs=>xs.length<=sizeLine/\∃ its:List ag,yV xs its/\mz h a its.toArray
 | .dK kvs=>kvs.length<=sizeLine/\(a == sysModules)=false/\∃ vs,KV kvs vs/\h.DictOf (yK P w) a vs
 | .dT kvs=>kvs.length<=sizeLine/\(a == sysModules)=false/\∃ xs:List (List Key×af×ag),
   j7 (λ(p:List Key×V) (q:List Key×af×ag)=>p.1=q.1/\H q.2.1=some (.tup (p.1.map kV))/\xE p.2 q.2.2) kvs xs /\
   ∃ o es ep,h.get? a=some o/\o.ExactDict/\o.data=.dict es ep/\es.toList=xs.map (entryOfKey (tupleKind (yK P w)))/\(xs.map (·.1)).Nodup
 | .set S n=>h.SetOf (intKind P w) a S n
 | .ins C dx fs=>H dx=some (.own a)/\fs.length<=1000/\dx≠a/\h.get? a=some (dj C dx) /\
   ∃ mA,h.Ns1 dx mA/\(∀ f,zJ3 (fs.lookup f) (mA f))/\jC mA (fs.map (·.1))
 | .own _=>∃ o,h.get? a=some o
 | .xd fs=>∃ mA,h.Ns1 a mA/\∀ f,zJ3 (fs.lookup f) (mA f)
 | .rng lo hi=>∃ t u v,h.get? a=some { cls:=.type "range",data:=.fields #[.int lo t,.int hi u,.int 1 v] }
 | .frz o u=>h.get? a=some o/\xD H h a u
 | .tbl ps=>h.get? a=some { cls:=.none,data:=.fields ps }
 | .met f x=>h.get? a=some (gM (.ref f) (.ref x))
 | .ext φ=>φ h/\(∃ o,h.get? a=some o)/\∀ h1 h2:aV,φ h1->(∀ o,h1.get? a=some o->h2.get? a=some o)->φ h2
def HOk(H:Hp)(h:aV):Prop:=∀ a o,H a=some o->xD P w H h a o
end

section
variable{P:aK}{w:aT}{H H':Hp}{h h':aV}{a:af}{o:HO}
theorem xD.lt(x:xD P w H h a o):a<h.objs.size:=by
 cases o with
 | lst xs=>obtain⟨_,_,_,_,e⟩:=x; exact aw e
 | tup xs=>obtain⟨_,_,_,p⟩:=x; exact p.lt
 | dK kvs=>obtain⟨_,_,_,_,o,_,_,e,_⟩:=x; exact aw e
 | dT kvs=>obtain⟨_,_,_,_,o,_,_,e,_⟩:=x; exact aw e
 | set S n=>obtain⟨o,_,_,_,e,_⟩:=x; exact aw e
 | ins C dx fs=>obtain⟨_,_,_,e,_⟩:=x; exact aw e
 | own y=>obtain⟨_,e⟩:=x; exact aw e
 | xd fs=>obtain⟨_,⟨_,_,_,e,_⟩,_⟩:=x; exact aw e
 | rng lo hi=>obtain⟨_,_,_,e⟩:=x; exact aw e
 | frz ob u=>obtain⟨e,_⟩:=x; exact aw e
 | tbl ps=>exact aw (show h.get? a=some _ from x)
 | met f y=>exact aw (show h.get? a=some _ from x)
 | ext φ=>obtain⟨_,⟨_,e⟩,_⟩:=x; exact aw e
theorem Paired.mapP{α β:Type}{F G:α->β->Prop} : ∀{l₁:List α}{l₂:List β},j7 F l₁ l₂->(∀ a b,F a b->G a b)->j7 G l₁ l₂
 | _,_,.nil,_=>.nil
 | _,_,.cons r t,f=>.cons (f _ _ r) (Paired.mapP t f)
theorem xD.stay(x:xD P w H h a o)(k:∀ b u,(b=a\/H b=some (.own a))->h.get? b=some u->h'.get? b=some u)
  (ho:∀ b,H b=some (.own a)->H' b=some (.own a)) (ht:∀ b xs,H b=some (.tup xs)->H' b=some (.tup xs)):xD P w H' h' a o:=by
 induction o with
 | lst xs=>obtain⟨z,its,n,r,e⟩:=x; exact⟨z,its,n,r,k _ _ (.inl rfl) e⟩
 | tup xs=>obtain⟨z,its,r,ob,e,c⟩:=x; exact⟨z,its,r,ob,k _ _ (.inl rfl) e,c⟩
 | dK kvs=>obtain⟨z,y,vs,r,ob,es,ep,e,c⟩:=x; exact⟨z,y,vs,r,ob,es,ep,k _ _ (.inl rfl) e,c⟩
 | dT kvs =>
  obtain⟨z,y,xs,r,ob,es,ep,e,c⟩:=x;exact⟨z,y,xs,Paired.mapP r λp q z=>⟨z.1,ht _ _ z.2.1,z.2.2⟩,ob,es,ep,k _ _ (.inl rfl) e,c⟩
 | set S n=>obtain⟨ob,es,ep,t,e,c⟩:=x; exact⟨ob,es,ep,t,k _ _ (.inl rfl) e,c⟩
 | ins C dx fs =>
  obtain⟨d,z,ne,e,mA,⟨od,es,ep,e2,c⟩,r⟩:=x;exact⟨ho _ d,z,ne,k _ _ (.inl rfl) e,mA,⟨od,es,ep,k _ _ (.inr d) e2,c⟩,r⟩
 | own y=>obtain⟨ob,e⟩:=x; exact⟨ob,k _ _ (.inl rfl) e⟩
 | xd fs=>obtain⟨mA,⟨od,es,ep,e,c⟩,r⟩:=x; exact⟨mA,⟨od,es,ep,k _ _ (.inl rfl) e,c⟩,r⟩
 | rng lo hi=>obtain⟨t,u,v,e⟩:=x; exact⟨t,u,v,k _ _ (.inl rfl) e⟩
 | frz ob u ih=>obtain⟨e,q⟩:=x; exact⟨k _ _ (.inl rfl) e,ih q⟩
 | tbl ps =>
  have e:h.get? a=some { cls:=.none,data:=.fields ps }:=x;show h'.get? a=some { cls:=.none,data:=.fields ps };exact k a _ (.inl rfl) e
 | met f y =>
  have e:h.get? a=some (gM (.ref f) (.ref y)):=x;show h'.get? a=some (gM (.ref f) (.ref y));exact k a _ (.inl rfl) e
 | ext φ=>obtain⟨p,⟨o,e⟩,st⟩:=x; exact⟨st _ _ p λo q=>k _ _ (.inl rfl) q,⟨o,k _ _ (.inl rfl) e⟩,st⟩
theorem HOk.lt(x:HOk P w H h)(e:H a=some o):a<h.objs.size:=(x a o e).lt
theorem HOk.fresh(x:HOk P w H h)(e:h.objs.size<=a):H a=none:=by
 cases q:H a with
 | none=>rfl
 | some u=>exact absurd (aR (x.lt q) e) (cX _)
theorem HOk.kept(x:HOk P w H h)(k:∀ b u,h.get? b=some u->h'.get? b=some u):HOk P w H h':=λa o e =>
 (x a o e).stay (λb u _ q=>k b u q) (λ_ q=>q) λ_ _ q=>q
theorem HOk.laid(x:HOk P w H h)(k:∀ b u,h.get? b=some u->h'.get? b=some u)(hp:h.objs.size<=a)(new:xD P w (upd H a o) h' a o):HOk P w (upd H a o) h':=λb u e=>by
 have hn:=x.fresh hp;by_cases hb:b=a
 ·subst hb; rw[zA] at e; cases e; exact new
 ·rw[zH hb] at e;exact(x b u e).stay (λc v _ q=>k c v q) (λc q=>by rw[zH (zJ q hn)]; exact q) λc xs q=>by rw[zH (zJ q hn)]; exact q
end

def Rd(H:Hp)(a:af)(u:HO):Prop:=H a=some u\/∃ o,H a=some (.frz o u)
theorem Rd.ok{P:aK}{w:aT}{H:Hp}{h:aV}{a:af}{u:HO}(r:Rd H a u)(x:HOk P w H h):xD P w H h a u:=by
 rcases r with r | ⟨o,r⟩
 ·exact x a u r
 ·obtain⟨_,q⟩:=x a _ r;exact q
def Mut:Option HO->Prop
 | some (.lst _)=>True
 | some (.dK _)=>True
 | some (.dT _)=>True
 | some (.set _ _)=>True
 | some (.ins _ _ _)=>True
 | some (.ext _)=>True
 | _=>False
section
variable{P:aK}{w:aT}{H:Hp}{h h':aV}{x e:af}{o':HO}
theorem HOk.write(ok:HOk P w H h)(mu:Mut (H x))(he:e=x\/H e=some (.own x))(k:∀ b u,b≠e->h.get? b=some u->h'.get? b=some u)(heo:∃ u,h'.get? e=some u)
  (new:xD P w (upd H x o') h' x o'):HOk P w (upd H x o') h':=λb u q=>by
 have nown:∀ c y,H c=some (.own y)->c≠x:=λc y r z=>by subst z; rw[r] at mu; exact mu
 have ntup:∀ c xs,H c=some (.tup xs)->c≠x:=λc xs r z=>by subst z; rw[r] at mu; exact mu
 by_cases hb:b=x
 ·subst hb; rw[zA] at q; cases q; exact new
 ·rw[zH hb] at q;by_cases hbe:b=e
  ·have q':H b=some (.own x):=by
    rcases he with z | z
    ·exact absurd (hbe.trans z) hb
    ·rw[hbe]; exact z
   rw[q] at q'; cases q';obtain⟨v,hv⟩:=heo;exact⟨v,by rw[hbe]; exact hv⟩
  ·refine(ok b u q).stay (λc v hc r=>k c v ?_ r) (λc r=>by rw[zH (nown c b r)]; exact r) λc xs r=>by rw[zH (ntup c xs r)]; exact r
   rcases hc with rfl | hc
   ·exact hbe
   ·rintro rfl;rcases he with z | z
    ·exact nown c b hc z
    ·rw[hc] at z; cases z; exact hb rfl
end

structure Un(fs ex:List af)(H H':Hp)(h h':aV):Prop where
 keep:∀ b o,h.get? b=some o->H b=none->b ∉ fs->b ∉ ex->h'.get? b=some o
 slot:∀ b o,h.get? b=some o->H b=none->b∈fs->b ∉ ex->∃ sl,h'.get? b=some { o with slots:=sl }
 free:∀ b o,h.get? b=some o->H b=none->b ∉ ex->H' b=none
 there:∀ b o,h.get? b=some o->b ∉ ex->∃ o',h'.get? b=some o'
 tups:∀ b xs,H b=some (.tup xs)->H' b=some (.tup xs)
 frzs:∀ b o u,H b=some (.frz o u)->H' b=some (.frz o u)
 tbls:∀ b ps,H b=some (.tbl ps)->∃ more,H' b=some (.tbl (ps++more))
section
variable{fs fs' ex ex':List af}{H H1 H2:Hp}{h h1 h2 h':aV}{a x e:af}{o:HO}
theorem Un.any(u:Un fs ex H H1 h h1){b:af}{ob:cz}(q:h.get? b=some ob)(n:H b=none)(hx:b ∉ ex):∃ sl,h1.get? b=some { ob with slots:=sl }:=by
 by_cases hb:b∈fs
 ·exact u.slot b ob q n hb hx
 ·exact⟨ob.slots,u.keep b ob q n hb hx⟩
theorem Un.kept(k:∀ b u,h.get? b=some u->h'.get? b=some u):Un fs ex H H h h' :=
 ⟨λb ob q _ _ _=>k b ob q,λb ob q _ _ _=>⟨ob.slots,k b ob q⟩,λ_ _ _ n _=>n,λb ob q _=>⟨ob,k b ob q⟩,λ_ _ q=>q,λ_ _ _ q=>q,λ_ ps q=>⟨#[],by rw[q]; simp⟩⟩
theorem Un.refl:Un fs ex H H h h:=Un.kept λ_ _ q=>q
theorem Un.laid(k:∀ b u,h.get? b=some u->h'.get? b=some u)(hp:h.objs.size<=a)(hn:H a=none):Un fs ex H (upd H a o) h h' where
 keep:=λb u q _ _ _=>k b u q
 slot:=λb u q _ _ _=>⟨u.slots,k b u q⟩
 free:=λb u q n _=>by rw[zH (aP (aR (aw q) hp))]; exact n
 there:=λb u q _=>⟨u,k b u q⟩
 tups:=λb xs q=>by rw[zH (zJ q hn)]; exact q
 frzs:=λb u xs q=>by rw[zH (zJ q hn)]; exact q
 tbls:=λb ps q=>⟨#[],by rw[zH (zJ q hn),q]; simp⟩
theorem Un.write(mu:Mut (H x))(he:e=x\/H e=some (.own x))(k:∀ b u,b≠e->h.get? b=some u->h'.get? b=some u)(heo:∃ u,h'.get? e=some u):Un fs ex H (upd H x o) h h':=by
 have hx:∀ b,H b=none->b≠x:=λb n z=>by subst z; rw[n] at mu; exact mu
 have hb:∀ b,H b=none->b≠e:=λb n z=>by
  subst z;rcases he with r | r
  ·exact hx b n r
  ·rw[n] at r; cases r
 have hm:∀ b u,H b=some u->¬ Mut (some u)->b≠x:=λb u q nm z=>by subst z; rw[q] at mu; exact nm mu
 refine⟨λb u q n _ _=>k b u (hb b n) q,λb u q n _ _=>⟨u.slots,k b u (hb b n) q⟩,λb u q n _=>by rw[zH (hx b n)]; exact n,λb u q _=>?_,
  λb xs q=>by rw[zH (hm b _ q λz=>z)]; exact q,λb u xs q=>by rw[zH (hm b _ q λz=>z)]; exact q,λb ps q=>⟨#[],by rw[zH (hm b _ q λz=>z),q]; simp⟩⟩
 by_cases hbe:b=e
 ·subst hbe; exact heo
 ·exact⟨u,k b u hbe q⟩
end

def trk(h:aV)(H:Hp):List af:=(bJ h.objs.size).filter λa=>(H a).isSome
def zWi(h:aV)(H:Hp):aV:=iw h (trk h H)
theorem zS3(h:aV)(H:Hp):(zWi h H).objs.size=h.objs.size:=PySem.W.hideAll_size _ _
theorem zUr{h:aV}{H:Hp}{b:af}{o:cz}(e:h.get? b=some o)(n:H b=none):(zWi h H).get? b=some o :=
 i8 _ e λhm=>by
  have q:(H b).isSome=true:=(dI.mp hm).2;rw[n] at q; simp at q
theorem zYu{h:aV}{H:Hp}{b:af}{o:cz}(e:(zWi h H).get? b=some o):h.get? b=some o/\H b=none:=by
 have e':h.get? b=some o:=jp (trk h H) e;exists e';cases q:H b with
 | none=>rfl
 | some x =>
  have hm:b∈trk h H:=dI.mpr ⟨bZ.mpr (aw e'),by simp[q]⟩;have z:(zWi h H).get? b=none:=PySem.W.hideAll_none (trk h H) hm;rw[z] at e; cases e

end L2

namespace L2
open PySem PySem.Spec PyProof.Rows

structure Mod(K:ae)(mg:aA->Option ag)(base:aV):Prop where
 kin:K.In base
 glob:base.Ns mainGlobals mg
 blt:∃ mb,base.Ns builtinsNs mb/\∀ x:aA,x ≠ "__name__" -> mb x=bootBuiltins x
 nolimit:base.NoLimit

structure Cx where
 prog:aK
 w:aT
 K:ae
 mg:aA->Option ag
 base:aV
 A:bD
 N:List aA
 s₀:ai
 H₀:Hp
 env:fV
 outer:List fV
 stack:List fV
 ex:List af
 fn:aA->Bool
 calm:Bool
 pn:List (af×cz)
 xe:ag->ai->Prop
def frs(l:List fV):List af:=l.filterMap (·.frame)
abbrev Cx.fs(X:Cx):List af:=frs X.outer

def Vis(sc:fg)(x:aA):Prop:=sc.names.lookup x=some .local\/sc.names.lookup x=some .cell\/sc.names.lookup x=some .free
def Loc(sc:fg)(x:aA):Prop:=sc.names.lookup x=some .local\/sc.names.lookup x=some .cell
def Look(env:fV)(h:aV)(m:aA->Option ag)(x:aA)(u:ag):Prop :=
 (env.kindOf x=some .local/\m x=some u)\/((env.kindOf x=some .cell\/env.kindOf x=some .free)/\∃ c,env.cells.lookup x=some c/\h.IsCell c (some u))

structure Cx.Ok(X:Cx):Prop where
 mod:Mod X.K X.mg X.base
 kind:X.env.scope.kind=.function
 glob:X.env.globals=mainGlobals
 blt:X.env.builtins=builtinsNs
 above:X.s₀.heap.objs.size<=X.env.locals
 inj:∀ x y c,X.env.cells.lookup x=some c->X.env.cells.lookup y=some c->x=y
 has:∀ x,(X.env.kindOf x=some .cell\/X.env.kindOf x=some .free)->∃ c,X.env.cells.lookup x=some c
 cab:∀ x c,X.fn x=true->X.env.cells.lookup x=some c->X.s₀.heap.objs.size<=c
 hd:X.calm=true->X.A.handled=none
 frames:X.A.frames=some X.stack
 stk:X.stack=X.outer\/(X.stack=X.env::X.outer/\X.env.frame=some X.env.locals)
 exf:∀ b∈X.ex,b≠X.env.locals/\∀ x c,X.env.cells.lookup x=some c->c≠b
 bs:∀ b o,X.base.get? b=some o->X.s₀.heap.get? b=some o/\X.H₀ b=none
 bsz:X.base.objs.size<=X.s₀.heap.objs.size
 noex:∀ b o,X.base.get? b=some o->b ∉ X.ex
 exfs:∀ b∈X.ex,b ∉ X.fs
 funs:X.s₀.heap.FunFrames X.base X.outer
 frf:∀ b∈X.fs,X.H₀ b=none

structure Inv(X:Cx)(pins:List (af×cz))(σ:List (Option V))(H:Hp)(s:ai):Prop where
 ok:X.Ok
 os:s.os=X.s₀.os
 bare:f8 s.gens
 base:Un X.fs X.ex X.H₀ H X.s₀.heap s.heap
 loc:∃ m,s.heap.Ns X.env.locals m/\∀(i:Nat)(x:aA)(v:V),X.N[i]?=some x->σ[i]?=some (some v)->Vis X.env.scope x->∃ u,xE v u/\Look X.env s.heap m x u
 cell:∀ x c,X.env.cells.lookup x=some c->∃ v,s.heap.IsCell c v
 free:H X.env.locals=none
 freeC:∀ x c,X.env.cells.lookup x=some c->H c=none
 pin:∀ p∈X.pn++pins,s.heap.get? p.1=some p.2/\H p.1=none/\p.1≠X.env.locals/\p.1 ∉ X.fs/\∀ v,p.2.data≠.cell v
 hok:HOk X.prog X.w H s.heap
 len:σ.length=X.N.length

section
variable{X:Cx}{pins:List (af×cz)}{σ:List (Option V)}{H H':Hp}{s:ai}{h':aV}

theorem Cx.Ok.nofr(ok:X.Ok){b:af}{o:cz}(e:X.base.get? b=some o):b ∉ X.fs:=λhb=>by
 have:=(ok.funs.mem hb).1;rw[e] at this; cases this
theorem Inv.bs(I:Inv X pins σ H s):∀ b o,X.base.get? b=some o->s.heap.get? b=some o/\H b=none:=λb o e =>
 ⟨I.base.keep b o (I.ok.bs b o e).1 (I.ok.bs b o e).2 (I.ok.nofr e) (I.ok.noex b o e),I.base.free b o (I.ok.bs b o e).1 (I.ok.bs b o e).2 (I.ok.noex b o e)⟩
theorem Inv.bk(I:Inv X pins σ H s):∀ b o,X.base.get? b=some o->s.heap.get? b=some o:=λb o e=>(I.bs b o e).1
theorem Inv.mod(I:Inv X pins σ H s):Mod X.K X.mg X.base:=I.ok.mod
theorem Inv.kIn(I:Inv X pins σ H s):X.K.In s.heap:=I.ok.mod.kin.keeps I.bk
theorem Inv.lt(I:Inv X pins σ H s):X.env.locals<s.heap.objs.size:=let ⟨_,hn,_⟩:=I.loc; hn.lt
theorem Inv.sz(I:Inv X pins σ H s):X.s₀.heap.objs.size<=s.heap.objs.size:=aJ I.ok.above (dL I.lt)
theorem Inv.nofs(I:Inv X pins σ H s){a:af}(h:s.heap.objs.size<=a):a ∉ X.fs:=λhb=>by
 obtain⟨_,o,ho,_⟩:=I.ok.funs.mem hb;exact absurd (aR (aw ho) (aJ I.sz h)) (cX _)
theorem Inv.cne(I:Inv X pins σ H s):∀ x c,X.env.cells.lookup x=some c->c≠X.env.locals:=λx c e z=>by
 obtain⟨v,o,ho,hd⟩:=I.cell x c e;obtain⟨m,⟨o',es,ep,ho',hd',_⟩,_⟩:=I.loc;rw[z,ho'] at ho; cases ho; rw[hd'] at hd; cases hd
theorem Inv.funs(I:Inv X pins σ H s):s.heap.FunFrames X.base X.outer:=by
 have all:∀(l:List fV),(∀ b∈frs l,b∈X.fs)->X.s₀.heap.FunFrames X.base l->s.heap.FunFrames X.base l:=by
  intro l
  induction l with
  | nil=>intro _ _; trivial
  | cons env r ih =>
   intro hs hl;obtain⟨hk,⟨L,o,hf,hn,ho,hd⟩,hr⟩:=hl;have hL:L∈X.fs:=hs L (by unfold frs; rw[cM,hf]; exact cr);obtain⟨sl,e⟩:=I.base.slot L o ho (I.ok.frf L hL) hL λz=>I.ok.exfs L z hL;exact⟨hk,⟨L,_,hf,hn,e,hd⟩,ih (λb hb=>hs b (by unfold frs; rw[cM,hf]; exact bE _ hb)) hr⟩
 exact all X.outer (λ_ hb=>hb) I.ok.funs

theorem Inv.stack(I:Inv X pins σ H s):s.heap.FunFrames X.base X.stack:=by
 rcases I.ok.stk with e | ⟨e,hf⟩
 ·rw[e]; exact I.funs
 ·rw[e];obtain⟨m,hn,_⟩:=I.loc;refine .cons (by rw[I.ok.kind]; decide) hf hn ?_ I.funs;exact fI (aJ I.ok.bsz I.ok.above)
theorem Inv.stkSub(I:Inv X pins σ H s):∀ b∈frs X.stack,b∈X.env.locals::X.fs:=λb hb=>by
 rcases I.ok.stk with e | ⟨e,hf⟩
 ·rw[e] at hb; exact bE _ hb
 ·rw[e] at hb;unfold frs at hb;rw[cM,hf] at hb;exact hb
theorem Inv.stkFree(I:Inv X pins σ H s):∀ b∈frs X.stack,H b=none:=λb hb=>by
 rcases aD.mp (I.stkSub b hb) with e | hb
 ·rw[e]; exact I.free
 ·obtain⟨_,o,ho,_⟩:=I.ok.funs.mem hb;exact I.base.free b o ho (I.ok.frf b hb) λz=>I.ok.exfs b z hb

theorem Inv.step{g':Array GenState}{t':Nat}{d':Drawn}{ch:List af}(I:Inv X pins σ H s)
  (hch:∀ b∈ch,(b∈X.ex\/X.s₀.heap.objs.size<=b)/\b≠X.env.locals/\(∀ x c,X.env.cells.lookup x=some c->c≠b)/\∀ p∈X.pn++pins,p.1≠b)
  (keep:∀ b o,b≠X.env.locals->b ∉ X.fs->b ∉ ch->s.heap.get? b=some o->H b=none->h'.get? b=some o)
  (slot:∀ b o,b≠X.env.locals->b∈X.fs->b ∉ ch->s.heap.get? b=some o->H b=none->∃ sl,h'.get? b=some { o with slots:=sl }) (free:∀ b o,b ∉ ch->s.heap.get? b=some o->H b=none->H' b=none)
  (there:∀ b o,b ∉ ch->s.heap.get? b=some o->∃ o',h'.get? b=some o')
  (tups:∀ b xs,H b=some (.tup xs)->H' b=some (.tup xs)) (frzs:∀ b o u,H b=some (.frz o u)->H' b=some (.frz o u)) (tbls:∀ b ps,H b=some (.tbl ps)->∃ more,H' b=some (.tbl (ps++more)))
  (ns:∀ m,s.heap.Ns X.env.locals m->h'.Ns X.env.locals m) (hok:HOk X.prog X.w H' h') (hg:f8 g') :
  Inv X pins σ H' { s with heap:=h',gens:=g',drawn:=d',toks:=t' }:=by
 have neL:∀ b o,X.s₀.heap.get? b=some o->b≠X.env.locals:=λb o e=>aP (aR (aw e) I.ok.above);have neC:∀ b o,X.s₀.heap.get? b=some o->b ∉ X.ex->b ∉ ch:=λb o e hx hb=>by
  rcases (hch b hb).1 with z | z
  ·exact hx z
  ·exact absurd (aR (aw e) z) (cX _)
 have cellK:∀ x c,X.env.cells.lookup x=some c->∀ v,s.heap.IsCell c v->h'.IsCell c v:=λx c e v ⟨o,ho,hd⟩=>by
  have nch:c ∉ ch:=λz=>(hch c z).2.2.1 x c e rfl;by_cases hc:c∈X.fs
  ·obtain⟨sl,q⟩:=slot c o (I.cne x c e) hc nch ho (I.freeC x c e);exact⟨_,q,hd⟩
  ·exact⟨o,keep c o (I.cne x c e) hc nch ho (I.freeC x c e),hd⟩
 refine⟨I.ok,I.os,hg,⟨λb o e n hb hx=>?_,λb o e n hb hx=>?_,λb o e n hx=>?_,λb o e hx=>?_,λb xs e=>tups b xs (I.base.tups b xs e),λb o xs e=>frzs b o xs (I.base.frzs b o xs e),λb ps e=>?_⟩,?_,λx c e=>?_,?_,λx c e=>?_,λp hp=>?_,hok,I.len⟩
 ·exact keep b o (neL b o e) hb (neC b o e hx) (I.base.keep b o e n hb hx) (I.base.free b o e n hx)
 ·obtain⟨sl,e1⟩:=I.base.slot b o e n hb hx;obtain⟨sl',e2⟩:=slot b _ (neL b o e) hb (neC b o e hx) e1 (I.base.free b o e n hx);exact⟨sl',e2⟩
 ·obtain⟨o',e1⟩:=I.base.there b o e hx;exact free b o' (neC b o e hx) e1 (I.base.free b o e n hx)
 ·obtain⟨o',e1⟩:=I.base.there b o e hx;exact there b o' (neC b o e hx) e1
 ·obtain⟨m1,e1⟩:=I.base.tbls b ps e;obtain⟨m2,e2⟩:=tbls b _ e1;exact⟨m1++m2,by rw[e2,Array.append_assoc]⟩
 ·obtain⟨m,hn,hl⟩:=I.loc;refine⟨m,ns m hn,λi x v e1 e2 e3=>?_⟩;obtain⟨u,r,l⟩:=hl i x v e1 e2 e3;exists u,r;rcases l with l | ⟨k,c,e,z⟩
  ·exact .inl l
  ·exact .inr ⟨k,c,e,cellK x c e _ z⟩
 ·obtain⟨v,z⟩:=I.cell x c e;exact⟨v,cellK x c e v z⟩
 ·obtain⟨m,⟨o,_,_,ho,_⟩,_⟩:=I.loc;exact free _ o (λz=>(hch _ z).2.1 rfl) ho I.free
 ·obtain⟨v,o,ho,hd⟩:=I.cell x c e;exact free c o (λz=>(hch c z).2.2.1 x c e rfl) ho (I.freeC x c e)
 ·obtain⟨e,n,ne,nf,d⟩:=I.pin p hp;have nch:p.1 ∉ ch:=λz=>(hch p.1 z).2.2.2 p hp rfl;exact⟨keep p.1 p.2 ne nf nch e n,free p.1 p.2 nch e n,ne,nf,d⟩
theorem Inv.un{t':Nat}(I:Inv X pins σ H s)(u:Un X.fs [] H H' s.heap h')(hok:HOk X.prog X.w H' h'):Inv X pins σ H' { s with heap:=h',toks:=t' }:=by
 obtain⟨m,⟨o,es,ep,ho,r⟩,_⟩:=id I.loc;obtain⟨sl,hL⟩:=u.any ho I.free (by simp);exact I.step (g':=s.gens) (d':=s.drawn) (ch:=[]) (λ_ z=>nomatch z) (λb o _ hb _ e n=>u.keep b o e n hb (by simp)) (λb o _ hb _ e n=>u.slot b o e n hb (by simp)) (λb o _ e n=>u.free b o e n (by simp)) (λb o _ e=>u.there b o e (by simp)) u.tups u.frzs u.tbls (λm' hm=>by
  obtain⟨o',es',ep',ho',r'⟩:=hm;rw[ho] at ho'; cases ho';exact⟨_,es',ep',hL,r'⟩) hok I.bare
theorem Inv.call{g':Array GenState}{t':Nat}{d':Drawn}{ch:List af}(I:Inv X pins σ H s)(u:Un (frs X.stack) ch H H' s.heap h')(hok:HOk X.prog X.w H' h')(hg:f8 g')
  (hch:∀ b∈ch,(b∈X.ex\/X.s₀.heap.objs.size<=b)/\b≠X.env.locals/\(∀ x c,X.env.cells.lookup x=some c->c≠b)/\∀ p∈X.pn++pins,p.1≠b) :
  Inv X pins σ H' { s with heap:=h',gens:=g',drawn:=d',toks:=t' }:=by
 obtain⟨m,⟨o,es,ep,ho,r⟩,_⟩:=id I.loc;obtain⟨sl,hL⟩:=u.any ho I.free λz=>(hch _ z).2.1 rfl;exact I.step (ch:=ch) hch (λb o hL hb hc e n=>u.keep b o e n (λz=>(aD.mp (I.stkSub b z)).elim hL hb) hc) (λb o _ _ hc e n=>u.any e n hc) (λb o hc e n=>u.free b o e n hc) (λb o hc e=>u.there b o e hc) u.tups u.frzs u.tbls (λm' hm=>by
  obtain⟨o',es',ep',ho',r'⟩:=hm;rw[ho] at ho'; cases ho';exact⟨_,es',ep',hL,r'⟩) hok hg
theorem Inv.turned{t':Nat}{it:af}(I:Inv X pins σ H s)(k:∀ b o,b≠it->s.heap.get? b=some o->h'.get? b=some o)(hn:H it=none)(hL:it≠X.env.locals)
  (h1:it∈X.ex\/X.s₀.heap.objs.size<=it) (h2:∀ x c,X.env.cells.lookup x=some c->c≠it) (h3:∀ p∈X.pn++pins,p.1≠it):Inv X pins σ H { s with heap:=h',toks:=t' }:=by
 have nit:∀ b u,H b=some u->b≠it:=λb u e z=>by rw[z,hn] at e; cases e
 refine I.step (g':=s.gens) (d':=s.drawn) (ch:=[it]) (λb hb=>?_) (λb o _ _ hc e _=>k b o (λz=>hc (by simp[z])) e) (λb o _ _ hc e _=>⟨o.slots,k b o (λz=>hc (by simp[z])) e⟩) (λ_ _ _ _ n=>n)
  (λb o hc e=>⟨o,k b o (λz=>hc (by simp[z])) e⟩) (λ_ _ e=>e) (λ_ _ _ e=>e) (λb ps e=>⟨#[],by rw[e]; simp⟩) (λm hm=>?_) (λb u e=>?_) I.bare
 ·have e:b=it:=by simpa using hb
  subst e;exact⟨h1,hL,h2,h3⟩
 ·obtain⟨o,es,ep,ho,r⟩:=hm;exact⟨o,es,ep,k _ o (cm hL) ho,r⟩
 ·refine(I.hok b u e).stay (λc v hc q=>k c v ?_ q) (λ_ q=>q) λ_ _ q=>q;rcases hc with z | z
  ·rw[z]; exact nit b u e
  ·exact nit c _ z
theorem Inv.tok(I:Inv X pins σ H s)(t:Nat):Inv X pins σ H { s with toks:=t }:=I.un (h':=s.heap) (t':=t) Un.refl I.hok
theorem Inv.kept{t':Nat}(I:Inv X pins σ H s)(k:∀ b u,s.heap.get? b=some u->h'.get? b=some u):Inv X pins σ H { s with heap:=h',toks:=t' }:=I.un (Un.kept k) (I.hok.kept k)
theorem Inv.laid{a:af}{o:HO}{t':Nat}(I:Inv X pins σ H s)(k:∀ b u,s.heap.get? b=some u->h'.get? b=some u)(hp:s.heap.objs.size<=a)(new:xD X.prog X.w (upd H a o) h' a o) :
  Inv X pins σ (upd H a o) { s with heap:=h',toks:=t' }:=I.un (Un.laid k hp (I.hok.fresh hp)) (I.hok.laid k hp new)
theorem Inv.write{x e:af}{o:HO}{t':Nat}(I:Inv X pins σ H s)(mu:Mut (H x))(he:e=x\/H e=some (.own x))(k:∀ b u,b≠e->s.heap.get? b=some u->h'.get? b=some u)(heo:∃ u,h'.get? e=some u)
  (new:xD X.prog X.w (upd H x o) h' x o):Inv X pins σ (upd H x o) { s with heap:=h',toks:=t' }:=I.un (Un.write mu he k heo) (I.hok.write mu he k heo new)
theorem Inv.pins_of{pins':List (af×cz)}(I:Inv X pins σ H s)(h:∀ p∈pins',s.heap.get? p.1=some p.2/\H p.1=none/\p.1≠X.env.locals/\p.1 ∉ X.fs/\∀ v,p.2.data≠.cell v):Inv X pins' σ H s :=
 ⟨I.ok,I.os,I.bare,I.base,I.loc,I.cell,I.free,I.freeC,λp hp=>(aS.mp hp).elim (λz=>I.pin p (dM _ z)) (h p),I.hok,I.len⟩

theorem zPi{N:List aA}(hN:N.Nodup){i j:Nat}{x:aA}(a:N[i]?=some x)(b:N[j]?=some x):i=j:=by
 obtain⟨h1,e1⟩:=aM.mp a;obtain⟨h2,e2⟩:=aM.mp b;exact(g8 hN).mp (e1.trans e2.symm)

theorem zKd{M:mC}{A:bD}{E:ag->ai->Prop}{i:Nat}{x:aA}{v:V}{u:ag}{Q:Unit->ai->Prop}(I:Inv X pins σ H s)(hN:X.N.Nodup)(hi:X.N[i]?=some x)(hx:Loc X.env.scope x)(r:xE v u)
  (h:∀ s',Inv X pins (σ.set i (some v)) H s'->(∃ a,cI a s.heap s'.heap/\(a=X.env.locals\/X.env.cells.lookup x=some a))->Q () s') (hf:X.fn x=true\/X.env.scope.names.lookup x=some .local:=by first | exact .inl rfl | exact .inr rfl | assumption):wpAny M A (storeName X.env x u) Q E s:=by
 obtain⟨m,hn,hl⟩:=id I.loc;have hcls:(X.env.scope.kind == .class||(X.env.scope.kind == .module&&X.env.locals != X.env.globals))=false:=by rw[I.ok.kind]; rfl
 have hiσ:i<σ.length:=by rw[I.len]; exact(aM.mp hi).1
 have cne:=I.cne;have tracked:∀{a:af}{h':aV},(∃ o,s.heap.get? a=some o/\H a=none)->cI a s.heap h'->HOk X.prog X.w H h':=λ{a h'} ha hs b ob e=>by
  obtain⟨_,_,hfree⟩:=ha;refine(I.hok b ob e).stay (λc w' hc q=>(hs.2 c ?_).trans q) (λ_ q=>q) λ_ _ q=>q;rintro rfl;rcases hc with rfl | hc
  ·rw[hfree] at e; cases e
  ·rw[hfree] at hc; cases hc
 rcases hx with hk | hk
 ·refine wpAny_storeName_local hk hn (λh' hn' hs=>?_) hcls;obtain⟨oL,_,_,hoL,_⟩:=id hn;refine h _ ⟨I.ok,I.os,I.bare,⟨λb o e n hb hx=>?_,λb o e n hb hx=>?_,I.base.free,λb o e hx=>?_,I.base.tups,I.base.frzs,I.base.tbls⟩,⟨_,hn',λj y v' e1 e2 e3=>?_⟩,λy c e=>?_,I.free,I.freeC,λp hp=>?_,tracked ⟨oL,hoL,I.free⟩ hs,by simpa using I.len⟩ ⟨_,hs,.inl rfl⟩
  ·exact(hs.2 b (aP (aR (aw e) I.ok.above))).trans (I.base.keep b o e n hb hx)
  ·obtain⟨sl,e1⟩:=I.base.slot b o e n hb hx;exact⟨sl,(hs.2 b (aP (aR (aw e) I.ok.above))).trans e1⟩
  ·obtain⟨o',e1⟩:=I.base.there b o e hx;exact⟨o',(hs.2 b (aP (aR (aw e) I.ok.above))).trans e1⟩
  ·by_cases hj:j=i
   ·subst hj;rw[hi] at e1; cases e1;rw[fk hiσ] at e2;cases e2;exact⟨u,r,.inl ⟨hk,by simp⟩⟩
   ·rw[iT (cm hj)] at e2;obtain⟨u',r',q⟩:=hl j y v' e1 e2 e3;exists u',r';rcases q with ⟨k,e⟩ | ⟨k,c,e,z⟩
    ·refine .inl ⟨k,?_⟩;have:y≠x:=λe=>hj (zPi hN e1 (e ▸ hi));simp[this,e]
    ·exact .inr ⟨k,c,e,z.sameBut hs (cne y c e)⟩
  ·obtain⟨w',z⟩:=I.cell y c e;exact⟨w',z.sameBut hs (cne y c e)⟩
  ·obtain⟨e,n,ne,nf,d⟩:=I.pin p hp;exact⟨(hs.2 p.1 ne).trans e,n,ne,nf,d⟩
 ·have hfn:X.fn x=true:=by
   rcases hf with z | z
   ·exact z
   ·rw[z] at hk; cases hk
  obtain⟨c,hc⟩:=I.ok.has x (.inl hk);obtain⟨w',z⟩:=I.cell x c hc;refine wpAny_storeName_cell I.ok.kind hk hc z (λh' hc' hs=>?_);obtain⟨oc,hoc,hocd⟩:=id z;refine h { s with heap:=h' } ⟨I.ok,I.os,I.bare,⟨λb o e n hb hx=>?_,λb o e n hb hx=>?_,I.base.free,λb o e hx=>?_,I.base.tups,I.base.frzs,I.base.tbls⟩,⟨m,hn.sameBut hs (cm (cne x c hc)),λj y v' e1 e2 e3=>?_⟩,λy c' e=>?_,I.free,I.freeC,λp hp=>?_,tracked ⟨oc,hoc,I.freeC x c hc⟩ hs,by simpa using I.len⟩ ⟨c,hs,.inr hc⟩
  ·exact(hs.2 b (aP (aR (aw e) (I.ok.cab x c hfn hc)))).trans (I.base.keep b o e n hb hx)
  ·obtain⟨sl,e1⟩:=I.base.slot b o e n hb hx;exact⟨sl,(hs.2 b (aP (aR (aw e) (I.ok.cab x c hfn hc)))).trans e1⟩
  ·obtain⟨o',e1⟩:=I.base.there b o e hx;exact⟨o',(hs.2 b (aP (aR (aw e) (I.ok.cab x c hfn hc)))).trans e1⟩
  ·by_cases hj:j=i
   ·subst hj;rw[hi] at e1; cases e1;rw[fk hiσ] at e2;cases e2;exact⟨u,r,.inr ⟨.inl hk,c,hc,hc'⟩⟩
   ·rw[iT (cm hj)] at e2;obtain⟨u',r',q⟩:=hl j y v' e1 e2 e3;exists u',r';rcases q with q | ⟨k,c',e,z'⟩
    ·exact .inl q
    ·refine .inr ⟨k,c',e,z'.sameBut hs ?_⟩;rintro rfl;exact hj (zPi hN e1 (I.ok.inj _ _ _ e hc ▸ hi))
  ·by_cases hcc:c'=c
   ·subst hcc; exact⟨_,hc'⟩
   ·obtain⟨w2,z2⟩:=I.cell y c' e;exact⟨w2,z2.sameBut hs hcc⟩
  ·obtain⟨e,n,ne,nf,d⟩:=I.pin p hp;refine⟨(hs.2 p.1 ?_).trans e,n,ne,nf,d⟩;intro q;rw[q,hoc] at e;have q':oc=p.2:=a7 e;exact d w' (by rw[<- q']; exact hocd)
theorem zEy{M:mC}{A:bD}{E:ag->ai->Prop}{i:Nat}{x:aA}{v:V}{u:ag}{Q:Unit->ai->Prop}(I:Inv X pins σ H s)(hN:X.N.Nodup)(hi:X.N[i]?=some x)(hx:Loc X.env.scope x)(r:xE v u)
  (h:∀ s',Inv X pins (σ.set i (some v)) H s'->Q () s') (hf:X.fn x=true\/X.env.scope.names.lookup x=some .local:=by first | exact .inl rfl | exact .inr rfl | assumption):wpAny M A (storeName X.env x u) Q E s :=
 zKd I hN hi hx r (λs' I' _=>h s' I') hf
theorem Inv.call'{s':ai}{ch:List af}(I:Inv X pins σ H s)(ho:s'.os=s.os)(u:Un (frs X.stack) ch H H' s.heap s'.heap)(hok:HOk X.prog X.w H' s'.heap)(hg:f8 s'.gens)
  (hch:∀ b∈ch,(b∈X.ex\/X.s₀.heap.objs.size<=b)/\b≠X.env.locals/\(∀ x c,X.env.cells.lookup x=some c->c≠b)/\∀ p∈X.pn++pins,p.1≠b):Inv X pins σ H' s':=by
 obtain⟨h',g',d',t',o'⟩:=s';have e:o'=s.os:=ho;subst e;exact I.call (g':=g') (t':=t') (d':=d') u hok hg hch
end

abbrev XK:=ag->Option af->Hp->Prop
abbrev St:=List (Option V)
abbrev VK:=V->Hp->Prop
abbrev TE:=St->Hp->VK->Prop
abbrev TT:=St->Hp->(Bool->Hp->Prop)->Prop
abbrev TA:=St->Hp->(List V->Hp->Prop)->Prop
structure zPw where
 nx:St->Hp->Prop
 rt:VK
 bk:St->Hp->Prop:=λ_ _=>False
 ct:St->Hp->Prop:=λ_ _=>False
abbrev TS:=zPw->St->Hp->Prop

def EP(X:Cx)(pins:List (af×cz))(σ:St)(Q:VK)(u:ag)(s':ai):Prop:=∃ v H',Inv X pins σ H' s'/\xE v u/\Q v H'
def TP(X:Cx)(pins:List (af×cz))(σ:St)(Q:Bool->Hp->Prop)(b:Bool)(s':ai):Prop:=∃ H',Inv X pins σ H' s'/\Q b H'
def AP(X:Cx)(pins:List (af×cz))(σ:St)(Q:List V->Hp->Prop)(us:List ag)(s':ai):Prop:=∃ vs H',Inv X pins σ H' s'/\yV vs us/\Q vs H'
def SP(X:Cx)(pins:List (af×cz))(D:zPw)(f:Flow)(s':ai):Prop :=
 match f with
 | .next=>∃ σ' H',Inv X pins σ' H' s'/\D.nx σ' H'
 | .brk=>∃ σ' H',Inv X pins σ' H' s'/\D.bk σ' H'
 | .cont=>∃ σ' H',Inv X pins σ' H' s'/\D.ct σ' H'
 | .ret u=>∃ v σ' H',Inv X pins σ' H' s'/\xE v u/\D.rt v H'

def PE(X:Cx)(e:bu)(t:TE):Prop :=
 ∀(pins:List (af×cz))(s:ai)(σ:St)(H:Hp)(Q:VK),Inv X pins σ H s->t σ H Q->wpAny (model X.prog X.w) X.A (eval e X.env) (EP X pins σ Q) X.xe s
def PT(X:Cx)(e:bu)(t:TT):Prop :=
 ∀(pins:List (af×cz))(s:ai)(σ:St)(H:Hp)(Q:Bool->Hp->Prop),Inv X pins σ H s->t σ H Q->wpAny (model X.prog X.w) X.A (isTrue e X.env (eval e X.env)) (TP X pins σ Q) X.xe s
def PW(X:Cx)(e:bu)(t:TT):Prop :=
 ∀(whole:lU ag)(pins:List (af×cz))(s:ai)(σ:St)(H:Hp)(Q:Bool->Hp->Prop),Inv X pins σ H s->t σ H Q->wpAny (model X.prog X.w) X.A (isTrue e X.env whole) (TP X pins σ Q) X.xe s
theorem PW.pt{X:Cx}{e:bu}{t:TT}(h:PW X e t):PT X e t:=h _
def PA(X:Cx)(es:List bu)(t:TA):Prop :=
 ∀(pos:eS)(pins:List (af×cz))(s:ai)(σ:St)(H:Hp)(Q:List V->Hp->Prop),Inv X pins σ H s->t σ H Q->wpAny (model X.prog X.w) X.A (spliced (backTo pos (starEach es X.env))) (AP X pins σ Q) X.xe s
def PS(X:Cx)(st:bC)(t:TS):Prop :=
 ∀(pins:List (af×cz))(s:ai)(σ:St)(H:Hp)(D:zPw),Inv X pins σ H s->t D σ H->wpAny (model X.prog X.w) X.A (exec st X.env) (SP X pins D) X.xe s
def PSs(X:Cx)(st:List bC)(t:TS):Prop :=
 ∀(pins:List (af×cz))(s:ai)(σ:St)(H:Hp)(D:zPw),Inv X pins σ H s->t D σ H->wpAny (model X.prog X.w) X.A (execs st X.env) (SP X pins D) X.xe s
theorem thn{α:Type}{t:lU α}{Q Q':α->ai->Prop}{M:mC}{A:bD}{E:ag->ai->Prop}{s:ai}(h:wpAny M A t Q E s)(hQ:∀ a s,Q a s->Q' a s):wpAny M A t Q' E s:=cT h hQ λ_ _ x=>x
end L2

namespace L2
open PySem PySem.Spec PyProof.Rows
section
variable{X:Cx}

theorem bin{a b:bu}{ta tb:TE}(ha:PE X a ta)(hb:PE X b tb){pins:List (af×cz)}{s:ai}{σ:St}{H:Hp}{R:V->V->Hp->Prop}(I:Inv X pins σ H s)(h:ta σ H λx H1=>tb σ H1 λy H2=>R x y H2)
  {α:Type} {Q:α->ai->Prop} {f:ag->ag->lU α}
  (hf:∀ v u s2 x y H2,Inv X pins σ H2 s2->xE x v->xE y u->R x y H2->wpAny (model X.prog X.w) X.A (f v u) Q X.xe s2) :
  wpAny (model X.prog X.w) X.A (eval a X.env) (λv s₁=>wpAny (model X.prog X.w) X.A (eval b X.env) (λu s₂=>wpAny (model X.prog X.w) X.A (f v u) Q X.xe s₂) X.xe s₁) X.xe s:=by
 refine thn (ha pins s σ H _ I h) λv s1 ⟨x,H1,I1,r1,q1⟩=>?_;refine thn (hb pins s1 σ H1 _ I1 q1) λu s2 ⟨y,H2,I2,r2,q2⟩=>?_;exact hf v u s2 x y H2 I2 r1 r2 q2

inductive TVar(i:Nat)(σ:St)(H:Hp)(Q:VK):Prop where
 | mk (v:V) (e:σ[i]?=some (some v)) (q:Q v H)
def zUe(i:Nat):TE:=λσ H Q=>TVar i σ H Q
def tC(v:V):TE:=λ_ H Q=>Q v H
theorem zZ1{i:Nat}{x:aA}{pos:eS}(hN:X.N[i]?=some x)(hv:Vis X.env.scope x)(hd:(x ==("__debug__" : aA))=false:=by decide)(hcd:(x ==("__classdict__" : aA))=false:=by decide):PE X (.Name x pos) (zUe i):=by
 intro pins s σ H Q I h;obtain⟨v,e,h⟩:=h;obtain⟨m,hn,hl⟩:=I.loc;obtain⟨u,r,l⟩:=hl i x v hN e hv;have fin:EP X pins σ Q u s:=⟨v,H,I,r,h⟩;rcases l with ⟨hk,hm⟩ | ⟨hk,c,hc,hcell⟩
 ·exact kY (wpAny_loadName_local I.ok.kind hk hn hm fin) hd
 ·rcases hk with hk | hk
  ·exact kY (wpAny_loadName_cell I.ok.kind hk hc hcell fin) hd
  ·exact kY (wpAny_loadName_free I.ok.kind hk hc hcell fin hcd) hd
theorem yL{i j pos} : PE X (.Constant (.int i) j pos) (tC (.int i)):=λ_ _ _ H _ I h=>wpAny_Constant_int ⟨.int i,H,I.tok _,⟨_,rfl⟩,h⟩
theorem zHl{b j pos} : PE X (.Constant (.bool b) j pos) (tC (.bl b)):=λ_ _ _ H _ I h=>Constant_bool ⟨.bl b,H,I,rfl,h⟩
theorem zOs{j pos} : PE X (.Constant .none j pos) (tC .non):=λ_ _ _ H _ I h=>Constant_none ⟨.non,H,I,rfl,h⟩
theorem zK{x j pos} : PE X (.Constant (.str x) j pos) (tC (.str x)):=λ_ _ _ H _ I h=>jq ⟨.str x,H,I.tok _,⟨_,rfl⟩,h⟩

def Gl(X:Cx)(x:aA):Prop:=X.env.kindOf x=some .globalImplicit
theorem sO{E:ag->ai->Prop}{pins:List (af×cz)}{s:ai}{σ:St}{H:Hp}{x:aA}{u:ag}{pos:eS}{Q:ag->ai->Prop}(I:Inv X pins σ H s)(hg:Gl X x)(hm:X.mg x=some u)(h:Q u s)
  (hd:(x ==("__debug__" : aA))=false:=by decide):wpAny (model X.prog X.w) X.A (eval (.Name x pos) X.env) Q E s :=
 gg I.ok.kind hg (Calls.loadGlobal_global (by rw[I.ok.glob]; exact I.mod.glob.keeps I.bk) hm h) hd
theorem zH9{E:ag->ai->Prop}{pins:List (af×cz)}{s:ai}{σ:St}{H:Hp}{x:aA}{u:ag}{pos:eS}{Q:ag->ai->Prop}(I:Inv X pins σ H s)(hg:Gl X x)(hm:X.mg x=none)(hv:bootBuiltins x=some u)(h:Q u s)
  (hn:x ≠ "__name__" := by decide) (hd:(x ==("__debug__" : aA))=false:=by decide):wpAny (model X.prog X.w) X.A (eval (.Name x pos) X.env) Q E s:=by
 obtain⟨mb,h1,h2⟩:=I.mod.blt;exact gg I.ok.kind hg (Calls.loadGlobal_builtin (by rw[I.ok.glob]; exact I.mod.glob.keeps I.bk) hm (by rw[I.ok.blt]; exact h1.keeps I.bk) ((h2 x hn).trans hv) h) hd
theorem zB3{x:aA}{v:V}{u:ag}{pos:eS}(hg:Gl X x)(hm:X.mg x=none)(hv:bootBuiltins x=some u)(r:xE v u)(hn:x ≠ "__name__" := by decide)(hd:(x ==("__debug__" : aA))=false:=by decide):PE X (.Name x pos) (tC v) :=
 λ_ _ _ H _ I h=>zH9 I hg hm hv ⟨v,H,I,r,h⟩ hn hd

variable{a b:bu}{ta tb:TE}{pos:eS}
def PC(X:Cx)(op:kK)(a b:bu)(t:TE):Prop :=
 ∀(pins:List (af×cz))(s:ai)(σ:St)(H:Hp)(Q:VK),Inv X pins σ H s->t σ H Q ->
  wpAny (model X.prog X.w) X.A (eval a X.env) (λv s₁=>wpAny (model X.prog X.w) X.A (eval b X.env) (λu s₂=>wpAny (model X.prog X.w) X.A (compareOp op v u) (EP X pins σ Q) X.xe s₂) X.xe s₁) X.xe s
def tB(t:TE):TT:=λσ H Q=>t σ H λx H1=>∃ c,x=.bl c/\Q c H1
theorem zAe{op:kK}{t:TE}(h:PC X op a b t)(h1:behindInMarks op b=false:=by first | exact nobehind _ (by decide) (by decide) | rfl):PT X (.Compare a [op] [b] pos) (tB t):=by
 intro pins s σ H Q I hw;refine iJ (thn (h pins s σ H _ I hw) λv s1 h1=>thn h1 λu s2 h2=>thn h2 λc s3 ⟨x,H1,I1,r1,q1⟩=>?_) h1;obtain⟨d,rfl,q⟩:=q1;cases r1;exact cf ⟨H1,I1,q⟩
theorem zBl{e:bu}{t:TE}(h:PE X e t)(he:∀ whole,isTrue e X.env whole=(do let v <- whole; standAt e.pos; holding [v] (truthy v)):=by intro _; rfl):PT X e (tB t):=by
 intro pins s σ H Q I hw;refine isTrue_plain (thn (h pins s σ H _ I hw) λv s1 ⟨x,H1,I1,r1,q1⟩=>?_) (he _);obtain⟨d,rfl,q⟩:=q1;cases r1;exact cf ⟨H1,I1,q⟩

variable{tA tB':TT}{rest:List bu}
def tAnd(t u:TT):TT:=λσ H Q=>t σ H λc H1=>if c=true then u σ H1 Q else Q false H1
def tOr(t u:TT):TT:=λσ H Q=>t σ H λc H1=>if c=true then Q true H1 else u σ H1 Q
def tNot(t:TT):TT:=λσ H Q=>t σ H λc H1=>Q (!c) H1
theorem zDo(ha:PT X a tA):PW X (.BoolOp .And [a] pos) tA:=by
 intro wh pins s σ H Q I h;refine isTrue_and (thn (ha pins s σ H Q I h) λc s1 e=>?_);cases c with
 | true=>exact isTrue_and_nil e
 | false=>exact e
theorem zLd(ha:PT X a tA):PW X (.BoolOp .Or [a] pos) tA:=by
 intro wh pins s σ H Q I h;refine isTrue_or (thn (ha pins s σ H Q I h) λc s1 e=>?_);cases c with
 | false=>exact isTrue_or_nil e
 | true=>exact e
theorem zIi(ha:PT X a tA)(hb:PW X (.BoolOp .And (b::rest) pos) tB'):PW X (.BoolOp .And (a::b::rest) pos) (tAnd tA tB'):=by
 intro wh pins s σ H Q I h;refine isTrue_and (thn (ha pins s σ H _ I h) λc s1 ⟨H1,I1,q1⟩=>?_);cases c with
 | true=>exact hb wh pins s1 σ H1 Q I1 q1
 | false=>exact⟨H1,I1,q1⟩
theorem zP2(ha:PT X a tA)(hb:PW X (.BoolOp .Or (b::rest) pos) tB'):PW X (.BoolOp .Or (a::b::rest) pos) (tOr tA tB'):=by
 intro wh pins s σ H Q I h;refine isTrue_or (thn (ha pins s σ H _ I h) λc s1 ⟨H1,I1,q1⟩=>?_);cases c with
 | true=>exact⟨H1,I1,q1⟩
 | false=>exact hb wh pins s1 σ H1 Q I1 q1
theorem zBu(ha:PT X a tA):PT X (.UnaryOp .Not a pos) (tNot tA):=by
 intro pins s σ H Q I h;exact isTrue_not (ha pins s σ H (λc H1=>Q (!c) H1) I h)
def tAndV(ta tb:TE):TE:=λσ H Q=>ta σ H λx H1=>∃ c,x=.bl c/\if c=true then tb σ H1 Q else Q (.bl false) H1
def tNotV(ta:TE):TE:=λσ H Q=>ta σ H λx H1=>∃ c,x=.bl c/\Q (.bl (!c)) H1
theorem zLc{op}{t:TE}(h:PE X a t):PE X (.BoolOp op [a] pos) t:=λpins s σ H Q I hw=>BoolOp_one (h pins s σ H Q I hw)
theorem zKs(ha:PE X a ta)(hb:PE X (.BoolOp .And (b::rest) pos) tb):PE X (.BoolOp .And (a::b::rest) pos) (tAndV ta tb):=by
 intro pins s σ H Q I h;refine BoolOp_and (thn (ha pins s σ H _ I h) λv s1 ⟨x,H1,I1,r1,q1⟩=>?_);obtain⟨c,rfl,q1⟩:=q1;cases r1;refine cf ?_;cases c with
 | true=>exact hb pins s1 σ H1 Q I1 q1
 | false=>exact⟨.bl false,H1,I1,U,q1⟩
theorem zWr(ha:PE X a ta):PE X (.UnaryOp .Not a pos) (tNotV ta):=by
 intro pins s σ H Q I h;refine UnaryOp_ (thn (ha pins s σ H _ I h) λv s1 ⟨x,H1,I1,r1,q1⟩=>?_);obtain⟨c,rfl,q1⟩:=q1;cases r1;exact not_of (cf ⟨.bl (!c),H1,I1,rfl,q1⟩)
def tIf(t:TT)(ta tb:TE):TE:=λσ H Q=>t σ H λc H1=>if c=true then ta σ H1 Q else tb σ H1 Q
theorem tP{c:bu}(hc:PT X c tA)(ha:PE X a ta)(hb:PE X b tb):PE X (.IfExp c a b pos) (tIf tA ta tb):=by
 intro pins s σ H Q I h;refine wpAny_IfExp (thn (hc pins s σ H _ I h) λd s1 ⟨H1,I1,q1⟩=>?_);cases d with
 | true=>exact ha pins s1 σ H1 Q I1 q1
 | false=>exact hb pins s1 σ H1 Q I1 q1
end
end L2

namespace L2
open PySem PySem.Spec PyProof.Rows

def SqL(K:ae)(H:Hp)(a:af)(xs:List V):Prop :=
 Rd H a (.lst xs) \/
  ∃(o:cz)(its:Array ag)(n:Nat),K.lookup a=some o/\o.cls=.type "list" /\ o.dict=none/\o.data=.seq its n/\its.size<=sizeLine/\yV xs its.toList
def SqT(K:ae)(H:Hp)(a:af)(xs:List V):Prop :=
 Rd H a (.tup xs) \/
  ∃(o:cz)(its:Array ag)(n:Nat),K.lookup a=some o/\o.cls=.type "tuple" /\ o.data=.seq its n/\its.size<=sizeLine/\yV xs its.toList
def absV:ag->Option V
 | .none=>some .non
 | .bool b=>some (.bl b)
 | .int i _=>some (.int i)
 | .str x _=>some (.str x)
 | .bytes b _=>some (.byt b)
 | .float b _=>some (.flt b)
 | .ref a=>some (.ref a)
 | .type n=>some (.ty n)
 | _=>none
theorem xE.abs{x:V}{u:ag}(r:xE x u):absV u=some x:=by
 cases x with
 | non=>cases r; rfl
 | bl _=>cases r; rfl
 | int _=>obtain⟨t,rfl⟩:=r; rfl
 | str _=>obtain⟨t,rfl⟩:=r; rfl
 | byt _=>obtain⟨t,rfl⟩:=r; rfl
 | flt _=>obtain⟨t,rfl⟩:=r; rfl
 | ref _=>cases r; rfl
 | ty _=>cases r; rfl
theorem xE.inj{x y:V}{u:ag}(r:xE x u)(q:xE y u):x=y:=a7 (r.abs.symm.trans q.abs)
theorem yV.inj:∀{xs ys:List V}{us:List ag},yV xs us->yV ys us->xs=ys
 | _,_,_,.nil,.nil=>rfl
 | _,_,_,.cons r t,.cons r' t'=>by rw[r.inj r',yV.inj t t']
section
variable{X:Cx}{pins:List (af×cz)}{σ:St}{H:Hp}{s:ai}{a:af}{xs ys:List V}
theorem SqL.of{K:ae}(h:H a=some (.lst xs)):SqL K H a xs:=.inl (.inl h)
theorem SqT.of{K:ae}(h:H a=some (.tup xs)):SqT K H a xs:=.inl (.inl h)
theorem Inv.list(I:Inv X pins σ H s)(h:SqL X.K H a xs):∃ its:List ag,yV xs its/\PlainL s.heap a its.toArray/\xs.length<=sizeLine:=by
 rcases h with h | ⟨o,its,n,hk,hc,hd,hs,hz,r⟩
 ·obtain⟨z,its,n,r,e⟩:=h.ok I.hok;exact⟨its,r,⟨_,n,e,U,U,U⟩,z⟩
 ·exists its.toList,r,⟨o,n,I.kIn a o hk,hc,hd,by simpa using hs⟩;have e:=r.length;simp only[bK] at e;lia
theorem Inv.tuple(I:Inv X pins σ H s)(h:SqT X.K H a xs):∃ its:List ag,yV xs its/\mz s.heap a its.toArray/\xs.length<=sizeLine:=by
 rcases h with h | ⟨o,its,n,hk,hc,hs,hz,r⟩
 ·obtain⟨z,its,r,p⟩:=h.ok I.hok;exact⟨its,r,p,z⟩
 ·exists its.toList,r,⟨o,I.kIn a o hk,hc,n,by simpa using hs⟩;have e:=r.length;simp only[bK] at e;lia
theorem Inv.list_inj(I:Inv X pins σ H s)(h:SqL X.K H a xs)(h':SqL X.K H a ys):xs=ys:=by
 obtain⟨its,r,⟨o,n,e,_,_,d⟩,_⟩:=I.list h;obtain⟨its',r',⟨o',n',e',_,_,d'⟩,_⟩:=I.list h';rw[e] at e'; cases e';rw[d] at d';injection d' with d1 _
 have:its=its':=by simpa using congrArg mK d1
 subst this;exact r.inj r'
theorem Inv.tuple_inj(I:Inv X pins σ H s)(h:SqT X.K H a xs)(h':SqT X.K H a ys):xs=ys:=by
 obtain⟨its,r,⟨o,e,_,n,d⟩,_⟩:=I.tuple h;obtain⟨its',r',⟨o',e',_,n',d'⟩,_⟩:=I.tuple h';rw[e] at e'; cases e';rw[d] at d';injection d' with d1 _
 have:its=its':=by simpa using congrArg mK d1
 subst this;exact r.inj r'
end

abbrev Cx.wish(X:Cx)(E:ag->ai->Prop):Cx:={ X with xe:=E }
abbrev Cx.nox(X:Cx):Cx:=X.wish λ_ _=>False
theorem Cx.Ok.wish{X:Cx}(ok:X.Ok)(E:ag->ai->Prop):(X.wish E).Ok :=
 ⟨ok.mod,ok.kind,ok.glob,ok.blt,ok.above,ok.inj,ok.has,ok.cab,ok.hd,ok.frames,ok.stk,ok.exf,ok.bs,ok.bsz,ok.noex,ok.exfs,ok.funs,ok.frf⟩
theorem Cx.Ok.unwish{X:Cx}{E:ag->ai->Prop}(ok:(X.wish E).Ok):X.Ok :=
 ⟨ok.mod,ok.kind,ok.glob,ok.blt,ok.above,ok.inj,ok.has,ok.cab,ok.hd,ok.frames,ok.stk,ok.exf,ok.bs,ok.bsz,ok.noex,ok.exfs,ok.funs,ok.frf⟩
section
variable{X:Cx}{pins:List (af×cz)}{σ:St}{H:Hp}{s:ai}{E:ag->ai->Prop}
theorem Inv.wish(I:Inv X pins σ H s)(E:ag->ai->Prop):Inv (X.wish E) pins σ H s:=⟨I.ok.wish E,I.os,I.bare,I.base,I.loc,I.cell,I.free,I.freeC,I.pin,I.hok,I.len⟩
theorem Inv.unwish(I:Inv (X.wish E) pins σ H s):Inv X pins σ H s:=⟨I.ok.unwish,I.os,I.bare,I.base,I.loc,I.cell,I.free,I.freeC,I.pin,I.hok,I.len⟩
theorem SP.unwish{D:zPw}{f:Flow}{s':ai}(h:SP (X.wish E) pins D f s'):SP X pins D f s':=by
 cases f with
 | next=>obtain⟨σ',H',I,q⟩:=h; exact⟨σ',H',I.unwish,q⟩
 | brk=>obtain⟨σ',H',I,q⟩:=h; exact⟨σ',H',I.unwish,q⟩
 | cont=>obtain⟨σ',H',I,q⟩:=h; exact⟨σ',H',I.unwish,q⟩
 | ret u=>obtain⟨v,σ',H',I,r,q⟩:=h; exact⟨v,σ',H',I.unwish,r,q⟩
theorem PSs.nox{st:List bC}{t:TS}(h:PSs X.nox st t):PSs X st t:=λpins s σ H D I hw =>
 cT (h pins s σ H D (I.wish _) hw) (λ_ _ q=>q.unwish) λ_ _ z=>bA z
end

section
variable{X:Cx}{st:bC}{rest:List bC}{t u:TS}{e:bu}{te:TE}{pos:eS}
def tNext:TS:=λD σ H=>D.nx σ H
def yi8(t u:TS):TS:=λD σ H=>t { D with nx:=u D } σ H
theorem zN:PSs X [] tNext:=λ_ _ σ H _ I h=>e7 ⟨σ,H,I,h⟩
theorem zD(h1:PS X st t)(h2:PSs X rest u):PSs X (st::rest) (yi8 t u):=by
 intro pins s σ H D I h;refine j8 (thn (h1 pins s σ H { D with nx:=u D } I h) λf s1 q=>?_);cases f with
 | next =>
  obtain⟨σ',H',I',q⟩:=q;exact h2 pins s1 σ' H' D I' q
 | ret v=>exact q
 | brk=>exact q
 | cont=>exact q
theorem zF(h1:PS X st t):PSs X [st] t:=by
 intro pins s σ H D I h;refine j8 (thn (h1 pins s σ H D I h) λf s1 q=>?_);cases f with
 | next=>exact e7 q
 | ret v=>exact q
 | brk=>exact q
 | cont=>exact q
theorem Inv.quiet{pins:List (af×cz)}{σ:St}{H:Hp}{s:ai}(I:Inv X pins σ H s):interactive X.env=false:=by simp[interactive,I.ok.kind]
def tDrop(te:TE):TS:=λD σ H=>te σ H λ_ H1=>D.nx σ H1
theorem yA(he:PE X e te)(hs:swapsWith e none pos.line X.env=pure false:=by rfl):PS X (.Expr e pos) (tDrop te):=by
 intro pins s σ H D I h;exact wpAny_Expr_any (thn (he pins s σ H _ I h) λv s1 ⟨x,H1,I1,r1,q1⟩=>⟨σ,H1,I1,q1⟩) I.quiet hs
def tRet(te:TE):TS:=λD σ H=>te σ H D.rt
theorem zM(he:PE X e te):PS X (.Return (some e) pos) (tRet te):=by
 intro pins s σ H D I h;exact wpAny_Return_some (thn (he pins s σ H _ I h) λv s1 ⟨x,H1,I1,r1,q1⟩=>⟨x,σ,H1,I1,r1,q1⟩)
def tIfS(c:TT)(t u:TS):TS:=λD σ H=>c σ H λb H1=>if b=true then t D σ H1 else u D σ H1
theorem zY{c:bu}{a b:List bC}{tc:TT}(hc:PT X c tc)(ha:PSs X a t)(hb:PSs X b u):PS X (.If c a b pos) (tIfS tc t u):=by
 intro pins s σ H D I h;refine wpAny_If (thn (hc pins s σ H _ I h) λd s1 ⟨H1,I1,q1⟩=>?_);cases d with
 | true=>exact ha pins s1 σ H1 D I1 q1
 | false=>exact hb pins s1 σ H1 D I1 q1
end

abbrev TG:=V->St->Hp->(St->Hp->Prop)->Prop
abbrev TGs:=List V->St->Hp->(St->Hp->Prop)->Prop
def PG(X:Cx)(target:bu)(t:TG):Prop :=
 ∀(pins:List (af×cz))(s:ai)(σ:St)(H:Hp)(v:V)(u:ag)(Q:St->Hp->Prop),Inv X pins σ H s->xE v u->t v σ H Q ->
  wpAny (model X.prog X.w) X.A (assign target X.env u) (λ_ s'=>∃ σ' H',Inv X pins σ' H' s'/\Q σ' H') X.xe s
def PGs(X:Cx)(ts:List bu)(t:TGs):Prop :=
 ∀(pins:List (af×cz))(s:ai)(σ:St)(H:Hp)(vs:List V)(us:List ag)(Q:St->Hp->Prop),Inv X pins σ H s->yV vs us->t vs σ H Q ->
  wpAny (model X.prog X.w) X.A (assignInOrder ((assignEach ts X.env).map (·.2)) us) (λ_ s'=>∃ σ' H',Inv X pins σ' H' s'/\Q σ' H') X.xe s
abbrev yi2:=V->V->V->Hp->(Hp->Prop)->Prop
def PSet(X:Cx)(t:yi2):Prop :=
 ∀(pins:List (af×cz))(s:ai)(σ:St)(H:Hp)(o i v:V)(ov iv u:ag)(Q:Hp->Prop),Inv X pins σ H s->xE o ov->xE i iv->xE v u->t o i v H Q ->
  wpAny (model X.prog X.w) X.A (setItem ov iv u) (λ_ s'=>∃ H',Inv X pins σ H' s'/\Q H') X.xe s
section
variable{X:Cx}{pos:eS}
def zKw(i:Nat):TG:=λv σ H Q=>Q (σ.set i (some v)) H
theorem qK{i:Nat}{x:aA}(hN:X.N.Nodup)(hi:X.N[i]?=some x)(hx:Loc X.env.scope x)(hf:X.fn x=true\/X.env.scope.names.lookup x=some .local:=by first | exact .inl rfl | exact .inr rfl | assumption):PG X (.Name x pos) (zKw i):=by
 intro pins s σ H v u Q I r h;exact wpAny_assign_Name (zEy I hN hi hx r (λs' I'=>⟨_,H,I',h⟩) hf)
def gNil:TGs:=λvs σ H Q=>vs=[]/\Q σ H
def gCons(t:TG)(u:TGs):TGs:=λvs σ H Q=>∃ v r,vs=v::r/\t v σ H λσ' H'=>u r σ' H' Q
theorem zBw:PGs X [] gNil:=by
 intro pins s σ H vs us Q I r h;obtain⟨e,h⟩:=h;subst e;cases r;exact assignInOrder_nil ⟨σ,H,I,h⟩
theorem xS{e:bu}{es:List bu}{t:TG}{u:TGs}(h1:PG X e t)(h2:PGs X es u)
  (hs:(assignEach (e::es) X.env).map (·.2)=assign e X.env::(assignEach es X.env).map (·.2):=by rfl):PGs X (e::es) (gCons t u):=by
 intro pins s σ H vs us Q I r h;obtain⟨v,vr,e1,h⟩:=h;subst e1;cases r with
 | cons r rr =>
  rw[hs];refine assignInOrder_cons (thn (h1 pins s σ H _ _ _ I r h) λ_ s1 ⟨σ1,H1,I1,q1⟩=>?_);exact h2 pins s1 σ1 H1 _ _ Q I1 rr q1
def gTup(K:ae)(n:Nat)(t:TGs):TG:=λv σ H Q=>∃ a xs,v=.ref a/\SqT K H a xs/\xs.length=n/\t xs σ H Q
theorem zIl{es:List bu}{k:Nat}{t:TGs}{n:Nat}(hc:X.calm=true)(h:PGs X es t)
  (hn:(assignEach es X.env).length=n:=by rfl) (hst:(assignEach es X.env).findIdx? (·.1)=none:=by rfl):PG X (.Tuple es k pos) (gTup X.K n t):=by
 intro pins s σ H v u Q I r hw;obtain⟨a,xs,e1,hq,hl,hw⟩:=hw;subst e1;cases r;obtain⟨its,rv,ht,hz⟩:=I.tuple hq;refine assign_Tuple_tuple (I.ok.hd hc) ht (by simp[hn,<- hl,rv.length]) hst λh' hx=>?_;have I1:Inv X pins σ H { s with heap:=h' }:=I.kept (t':=s.toks) λb o e=>hx b o (aP (aw e)) e;exact h pins _ σ H xs _ Q I1 (by simpa using rv) hw
def gSub(to ti:TE)(t:yi2):TG:=λv σ H Q=>to σ H λo H1=>ti σ H1 λi H2=>t o i v H2 λH3=>Q σ H3
theorem yd3{o i:bu}{to ti:TE}{t:yi2}(ho:PE X o to)(hi:PE X i ti)(hs:PSet X t)
  (ha:∀ v,assign (.Subscript o i pos) X.env v=(do
   let ov <- holding [v] (eval o X.env)
   let iv <- holding [v,ov] (eval i X.env)
   standAt pos
   holding [v,ov,iv] (setItem ov iv v)
   release [v,ov,iv] []):=by intro _; rfl):PG X (.Subscript o i pos) (gSub to ti t):=by
 intro pins s σ H v u Q I r h;rw[ha];refine aa (bX (thn (ho pins s σ H _ I h) λov s1 ⟨x,H1,I1,r1,q1⟩=>?_));refine aa (bX (thn (hi pins s1 σ H1 _ I1 q1) λiv s2 ⟨y,H2,I2,r2,q2⟩=>?_));refine aa (fH (aa (bX (thn (hs pins s2 σ H2 x y v ov iv u _ I2 r1 r2 r q2) λ_ s3 ⟨H3,I3,q3⟩=>?_))));exact wpAny_release ⟨σ,H3,I3,q3⟩
def yc4(te:TE)(g:TG):TS:=λD σ H=>te σ H λx H1=>g x σ H1 D.nx
theorem zR7{tg e:bu}{te:TE}{g:TG}(he:PE X e te)(hg:PG X tg g)(hs:swapsWithSole [tg] e pos.line X.env=pure false:=by rfl)(hw:swappedStores [tg] e X.env=pure none:=by rfl)
  (h1:(assignEach [tg] X.env).map (·.2)=[assign tg X.env]:=by rfl):PS X (.Assign [tg] e pos) (yc4 te g):=by
 intro pins s σ H D I h;refine wpAny_Assign_stores (thn (he pins s σ H _ I h) λv s1 ⟨x,H1,I1,r1,q1⟩=>?_) hs hw;rw[h1];exact thn (hg pins s1 σ H1 x v _ I1 r1 q1) λ_ s2 q=>q
theorem qZ{i:Nat}{x:aA}{e:bu}{te:TE}{pos':eS}(hN:X.N.Nodup)(hi:X.N[i]?=some x)(hx:Loc X.env.scope x)(he:PE X e te)(hs:swapsWith e (some (.Name x pos')) pos.line X.env=pure false:=by rfl)(hf:X.fn x=true\/X.env.scope.names.lookup x=some .local:=by first | exact .inl rfl | exact .inr rfl | assumption) :
  PS X (.Assign [.Name x pos'] e pos) (yc4 te (zKw i)):=by
 intro pins s σ H D I h;refine wpAny_Assign_Name (thn (he pins s σ H _ I h) λv s1 ⟨y,H1,I1,r1,q1⟩=>?_) hs;exact zEy I1 hN hi hx r1 (λs2 I2=>⟨_,H1,I2,q1⟩) hf
def tPar(i j:Nat)(ta:TA):TS:=λD σ H=>ta σ H λvs H1=>∃ v w,vs=[v,w]/\D.nx ((σ.set i (some v)).set j (some w)) H1
theorem zTi{i j:Nat}{x y:aA}{a b:bu}{ta:TA}{px py pt:eS}{kt k2 pt2}(hc:X.calm=true)(hN:X.N.Nodup)(hi:X.N[i]?=some x)(hj:X.N[j]?=some y)(hij:i≠j)
  (hx:X.env.scope.names.lookup x=some .local) (hy:X.env.scope.names.lookup y=some .local) (ha:PA X [a,b] ta)
  (hw:swappedStores [.Tuple [.Name x px,.Name y py] kt pt] (.Tuple [a,b] k2 pt2) X.env=pure (some [x,y]))
  (hs:swapsWithSole [.Tuple [.Name x px,.Name y py] kt pt] (.Tuple [a,b] k2 pt2) pos.line X.env=pure false:=by rfl) :
  PS X (.Assign [.Tuple [.Name x px,.Name y py] kt pt] (.Tuple [a,b] k2 pt2) pos) (tPar i j ta):=by
 intro pins s σ H D I h;rw[exec_Assign_arm];refine aa (fH ?_);rw[hs];refine aa (ak ?_);rw[if_neg (by decide)];refine aa (Tuple_ (thn (ha _ pins s σ H _ I h) λus s1 ⟨vs,H1,I1,r1,q1⟩=>?_));obtain⟨v,w,e1,q1⟩:=q1;subst e1;obtain⟨u1,u2,rfl,rv,rw'⟩:∃ u1 u2,us=[u1,u2]/\xE v u1/\xE w u2:=by
  cases r1 with
  | cons p q =>
   cases q with
   | cons p' q' =>
    cases q';exact⟨_,_,U,p,p'⟩
 refine bj ?_ (by show 2<=sizeLine; decide);have I2:Inv X pins σ H1 { s1 with heap:=s1.heap.push { cls:=.type "tuple",data:=.seq [u1,u2].toArray } }:=I1.kept (t':=s1.toks) λb o e=>ah _ e;rw[hw];refine aa (ak ?_);show wpAny (model X.prog X.w) X.A (do rule "assign.swapped-stores"; let items <- unpackItems (.ref s1.heap.objs.size) 2 none; assignInOrder [λv=>bindName X.env y v,λv=>bindName X.env x v] items.reverse; pure Flow.next) _ _ _;refine aa (gh (aa (unpackItems_tuple (items:=#[u1,u2]) (I.ok.hd hc) (mE s1.heap _) λh' hx'=>?_)));have I3:=I2.kept (h':=h') (t':=s1.toks) λb o e=>hx' b o (aP (aw e)) e;show wpAny _ _ (assignInOrder [λv=>bindName X.env y v,λv=>bindName X.env x v] [u2,u1] >>= λ_=>pure Flow.next) _ _ _;refine aa (assignInOrder_cons (wpAny_bindName (zEy I3 hN hj (.inl hy) rw' (λs2 I4=>?_) (.inr hy))));refine assignInOrder_cons (wpAny_bindName (zEy I4 hN hi (.inl hx) rv (λs3 I5=>assignInOrder_nil (ak ?_)) (.inr hx)));rw[List.set_comm _ _ (cm hij)] at I5;exact⟨_,H1,I5,q1⟩
end

section
variable{X:Cx}{pos:eS}
def zW1(c:TT)(tb:TS):TS:=λD σ H=>∃ W:Nat->St->Hp->Prop,(∃ m,W m σ H)/\∀ m σ H,W m σ H ->
 c σ H λb H1=>if b=true then ∃ N:St->Hp->Prop,(∀ σ' H',N σ' H'->∃ m',m'<m/\W m' σ' H')/\tb { D with nx:=N,ct:=N,bk:=D.nx } σ H1 else D.nx σ H1
theorem zPj{c:bu}{body:List bC}{tc:TT}{tb:TS}(hp:PassesOwn (model X.prog X.w) X.A X.env X.xe)(hc:PT X c tc)(hb:PSs X body tb):PS X (.While c body [] pos) (zW1 tc tb):=by
 intro pins s σ H D I h;obtain⟨W,⟨m0,w0⟩,turn⟩:=h;refine wpAny_While (codeAny_whileLoop (λn s'=>∃ σ' H',Inv X pins σ' H' s'/\W n σ' H') ?_ m0 ⟨σ,H,I,w0⟩);rintro n s1 ⟨σ1,H1,I1,w1⟩;refine dJ hp (thn (hc pins s1 σ1 H1 _ I1 (turn n σ1 H1 w1)) λb s2 ⟨H2,I2,q2⟩=>?_);cases b with
 | true =>
  obtain⟨N,hN,q2⟩:=q2;rw[if_pos rfl];refine dJ hp (thn (hb pins s2 σ1 H2 _ I2 q2) λf s3 q3=>?_);cases f with
  | next =>
   obtain⟨σ3,H3,I3,n3⟩:=q3;obtain⟨m',hm,w3⟩:=hN σ3 H3 n3;exact⟨m',hm,σ3,H3,I3,w3⟩
  | cont =>
   obtain⟨σ3,H3,I3,n3⟩:=q3;obtain⟨m',hm,w3⟩:=hN σ3 H3 n3;exact⟨m',hm,σ3,H3,I3,w3⟩
  | brk=>exact q3
  | ret v=>exact q3
 | false =>
  rw[if_neg aB];exact e7 ⟨σ1,H2,I2,q2⟩
end

structure It where
 go:Nat->Hp->Prop
 yld:Nat->Hp->V->Hp->Prop
 stop:Nat->Hp->Prop
def zNn(X:Cx)(pins:List (af×cz))(H:Hp)(b:af):Prop :=
 H b=none/\b≠X.env.locals/\b ∉ X.fs/\(b∈X.ex\/X.s₀.heap.objs.size<=b)/\(∀ x c,X.env.cells.lookup x=some c->c≠b)/\∀ p∈X.pn++pins,p.1≠b
theorem Inv.fpOk{X:Cx}{pins:List (af×cz)}{σ:St}{H H':Hp}{s:ai}{b:af}(I:Inv X pins σ H s)(hb:s.heap.objs.size<=b)(hn:H' b=none):zNn X pins H' b:=by
 refine⟨hn,d3 (aR I.lt hb),I.nofs hb,.inr (aJ I.sz hb),λx c e z=>?_,λp hp z=>?_⟩
 ·obtain⟨v,q⟩:=I.cell x c e;exact absurd (aR q.lt (by rw[z]; exact hb)) (cX _)
 ·exact absurd (aR (aw (I.pin p hp).1) (by rw[z]; exact hb)) (cX _)
structure zWv(P:aK)(w:aT)(K:ae)(tg:bu)(J:It)(fp:List af)(it:af)(tn:Nat->aV->Prop):Prop where
 mem:it∈fp
 obj:∀ i h,tn i h->∀ b∈fp,∃ o,h.get? b=some o/\∀ v,o.data≠.cell v
 keep:∀ i h h',tn i h->(∀ b∈fp,∀ o,h.get? b=some o->h'.get? b=some o)->tn i h'
 item:∀(X:Cx),X.prog=P->X.w=w->X.K=K->X.calm=true->∀(i:Nat)(pins:List (af×cz))(s:ai)(σ:St)(H:Hp)(E:ag->ai->Prop),Inv X pins σ H s->(∀ b∈fp,zNn X pins H b)->tn i s.heap->J.go i H ->
  wpAny (model P w) X.A (pyNext (.ref it)) (λr s1=>∃ u,r=some u /\
   wpAny (model P w) X.A (letOwnedTupleGo tg (.ref it) u) (λ_ s2=>∃ x H',Inv X pins σ H' s2/\xE x u/\J.yld i H x H'/\tn (i+1) s2.heap/\∀ b∈fp,H' b=none) E s1) E s
 done:∀(X:Cx),X.prog=P->X.w=w->X.K=K->X.calm=true->∀(i:Nat)(pins:List (af×cz))(s:ai)(σ:St)(H:Hp)(E:ag->ai->Prop),Inv X pins σ H s->(∀ b∈fp,zNn X pins H b)->tn i s.heap->J.stop i H ->
  wpAny (model P w) X.A (pyNext (.ref it)) (λr s1=>r=none/\Inv X pins σ H s1) E s
 self:∀(A:bD)(i:Nat)(s:ai)(Q:ag->ai->Prop)(E:ag->ai->Prop),tn i s.heap->Q (.ref it) s->wpAny (model P w) A (pyIter (.ref it)) Q E s
abbrev TI:=St->Hp->(It->Hp->Prop)->Prop
def PIE(X:Cx)(pins:List (af×cz))(σ:St)(tg:bu)(R:It->Hp->Prop)(itv:ag)(s2:ai):Prop :=
 ∃(it:af)(fp:List af)(tn:Nat->aV->Prop)(J:It)(H':Hp),itv=.ref it/\Inv X pins σ H' s2/\zWv X.prog X.w X.K tg J fp it tn/\tn 0 s2.heap/\(∀ b∈fp,zNn X pins H' b)/\R J H'
def PI(X:Cx)(tg iter:bu)(wi:TI):Prop :=
 ∀(pins:List (af×cz))(s:ai)(σ:St)(H:Hp)(R:It->Hp->Prop),Inv X pins σ H s->wi σ H R ->
  wpAny (model X.prog X.w) X.A (eval iter X.env) (λv s1=>wpAny (model X.prog X.w) X.A (pyIter v) (PIE X pins σ tg R) X.xe s1) X.xe s

theorem zPv{M:mC}{A:bD}{E:ag->ai->Prop}{s:ai}{tg:bu}{it:af}{u:ag}{o:cz}{n:String}{vs:Array ag}{Q:Unit->ai->Prop}(ho:s.heap.get? it=some o)(hc:o.cls=.type n)(hd:o.data=.fields vs)
  (hn:["enumerate","zip","dict_itemiterator","dict_reverseitemiterator","odict_iterator","itertools.zip_longest","itertools.pairwise"].contains n=false) (hQ:Q () s):wpAny M A (letOwnedTupleGo tg (.ref it) u) Q E s:=by
 unfold letOwnedTupleGo;cases tg <;> first
  | exact ak hQ
  | (cases u <;> first
    | exact ak hQ
    | (refine aa (wpAny_load ho ?_)
       rw[hc,hd];show wpAny M A (if (["enumerate","zip","dict_itemiterator","dict_reverseitemiterator","odict_iterator","itertools.zip_longest","itertools.pairwise"].contains n&&vs[0]? == some (rawInt _))=true then _ else _) Q E s;rw[if_neg (by intro h; rw[hn,gj] at h; cases h)];exact ak hQ))

def Itl(K:ae)(a:af):It :=
 ⟨λi H=>∃ xs x,SqL K H a xs/\xs[i]?=some x,λi H x H'=>H'=H/\∀ xs,SqL K H a xs->xs[i]?=some x,λi H=>∃ xs,SqL K H a xs/\xs.length<=i⟩
def Itt(K:ae)(a:af):It :=
 ⟨λi H=>∃ xs x,SqT K H a xs/\xs[i]?=some x,λi H x H'=>H'=H/\∀ xs,SqT K H a xs->xs[i]?=some x,λi H=>∃ xs,SqT K H a xs/\xs.length<=i⟩
def Itr(lo:Int)(n:Nat):It:=⟨λi _=>i<n,λi H x H'=>H'=H/\x=.int (lo+i),λi _=>n<=i⟩
theorem zLt{P:aK}{w:aT}{K:ae}{tg:bu}(a it:af):zWv P w K tg (Itl K a) [it] it (λi h=>h.IsListIter it a i) where
 mem:=by simp
 obj:=λi h st b hb=>by
  have e:b=it:=by simpa using hb
  subst e;obtain⟨o,e,c,d⟩:=st;exact⟨o,e,λv z=>by rw[d] at z; cases z⟩
 keep:=λi h h' st k=>st.at λo e=>k it (by simp) o e
 item:=by
  intro X hP hw hK hc i pins s σ H E I hf st hg;subst hP hw hK;obtain⟨xs,x,hq,hx⟩:=hg;obtain⟨its,rv,p,hz⟩:=I.list hq;obtain⟨u,hu,ru⟩:=rv.get hx;obtain⟨f0,f1,f2,f3,f4,f5⟩:=hf it (by simp);refine ic st p.isList (x:=u) (by simpa using hu) λh' st' sb=>?_;have I1:Inv X pins σ H { s with heap:=h' }:=I.turned (t':=s.toks) (λb o hb e=>(sb.2 b hb).trans e) f0 f1 f3 f4 f5;obtain⟨o,e,c,d⟩:=id st';exact⟨u,U,zPv (s:={ s with heap:=h' }) e c d (by decide) ⟨x,H,I1,ru,⟨U,λys hy=>by rw[I.list_inj hy hq]; exact hx⟩,st',λb hb=>(hf b hb).1⟩⟩
 done:=by
  intro X hP hw hK hc i pins s σ H E I hf st hg;subst hP hw hK;obtain⟨xs,hq,hx⟩:=hg;obtain⟨its,rv,p,hz⟩:=I.list hq;obtain⟨f0,f1,f2,f3,f4,f5⟩:=hf it (by simp);have hl:=rv.length;exact wpAny_pyNext_list_end (I.ok.hd hc) st p.isList (by simp; lia) λh' eb=>⟨rfl,I.turned (t':=s.toks) (λb o hb e=>eb b o hb e) f0 f1 f3 f4 f5⟩
 self:=λ_ _ _ _ _ st h=>iK st h
theorem zIp{P:aK}{w:aT}{K:ae}{tg:bu}(a it:af):zWv P w K tg (Itt K a) [it] it (λi h=>h.IsTupleIter it a i) where
 mem:=by simp
 obj:=λi h st b hb=>by
  have e:b=it:=by simpa using hb
  subst e;obtain⟨o,e,c,d⟩:=st;exact⟨o,e,λv z=>by rw[d] at z; cases z⟩
 keep:=λi h h' st k=>st.at λo e=>k it (by simp) o e
 item:=by
  intro X hP hw hK hc i pins s σ H E I hf st hg;subst hP hw hK;obtain⟨xs,x,hq,hx⟩:=hg;obtain⟨its,rv,p,hz⟩:=I.tuple hq;obtain⟨u,hu,ru⟩:=rv.get hx;obtain⟨f0,f1,f2,f3,f4,f5⟩:=hf it (by simp);refine wpAny_pyNext_tuple_item st (show s.heap.IsTuple a its.toArray from p) (x:=u) (by simpa using hu) λh' st' sb=>?_;have I1:Inv X pins σ H { s with heap:=h' }:=I.turned (t':=s.toks) (λb o hb e=>(sb.2 b hb).trans e) f0 f1 f3 f4 f5;obtain⟨o,e,c,d⟩:=id st';exact⟨u,U,zPv (s:={ s with heap:=h' }) e c d (by decide) ⟨x,H,I1,ru,⟨U,λys hy=>by rw[I.tuple_inj hy hq]; exact hx⟩,st',λb hb=>(hf b hb).1⟩⟩
 done:=by
  intro X hP hw hK hc i pins s σ H E I hf st hg;subst hP hw hK;obtain⟨xs,hq,hx⟩:=hg;obtain⟨its,rv,p,hz⟩:=I.tuple hq;obtain⟨f0,f1,f2,f3,f4,f5⟩:=hf it (by simp);have hl:=rv.length;exact wpAny_pyNext_tuple_end (I.ok.hd hc) st (show s.heap.IsTuple a its.toArray from p) (by simp; lia) λh' eb=>⟨rfl,I.turned (t':=s.toks) (λb o hb e=>eb b o hb e) f0 f1 f3 f4 f5⟩
 self:=λ_ _ _ _ _ st h=>wpAny_pyIter_tupleiter st h
theorem zQn{P:aK}{w:aT}{K:ae}{tg:bu}(it:af)(lo:Int)(n:Nat):zWv P w K tg (Itr lo n) [it] it (λi h=>IsRangeIter h it (lo+(i:Nat)*1) ((n:Int)-(i:Nat)) 1) where
 mem:=by simp
 obj:=λi h st b hb=>by
  have e:b=it:=by simpa using hb
  subst e;exact⟨_,st,λv z=>by
   have z':Data.fields _=Data.cell v:=z;cases z'⟩
 keep:=λi h h' st k=>k it (by simp) _ st
 item:=by
  intro X hP hw hK hc i pins s σ H E I hf st hg;subst hP hw hK;obtain⟨f0,f1,f2,f3,f4,f5⟩:=hf it (by simp);have W:=Walks.range (prog:=X.prog) (w:=X.w) (I.ok.hd hc) it lo 1 n;refine W.item i s _ _ hg st λv h' tk hv st' kk=>?_;obtain⟨t,rfl⟩:=hv;have I1:Inv X pins σ H { s with heap:=h',toks:=tk }:=I.turned (λb o hb e=>kk b o (by simpa using hb) e) f0 f1 f3 f4 f5;refine⟨_,U,zPv (s:={ s with heap:=h',toks:=tk }) (n := "range_iterator") st' rfl rfl (by decide) ⟨.int (lo+i),H,I1,⟨t,?_⟩,⟨U,U⟩,st',λb hb=>(hf b hb).1⟩⟩;rw[Int.mul_one]
 done:=by
  intro X hP hw hK hc i pins s σ H E I hf st hg;subst hP hw hK;obtain⟨f0,f1,f2,f3,f4,f5⟩:=hf it (by simp);exact wpAny_pyNext_range_end (I.ok.hd hc) st (by have:n<=i:=hg; lia) λh' eb=>⟨rfl,I.turned (t':=s.toks) (λb o hb e=>eb b o hb e) f0 f1 f3 f4 f5⟩
 self:=λ_ _ _ _ _ st h=>wpAny_pyIter_rangeiter st h
end L2

namespace L2
open PySem PySem.Spec PyProof.Rows
section
variable{X:Cx}{tg:bu}
def iList(K:ae)(tl:TE):TI:=λσ H R=>tl σ H λx H1=>∃ a,x=.ref a/\(∃ xs,SqL K H1 a xs)/\R (Itl K a) H1
def iTup(K:ae)(tl:TE):TI:=λσ H R=>tl σ H λx H1=>∃ a,x=.ref a/\(∃ xs,SqT K H1 a xs)/\R (Itt K a) H1
theorem zYb{l:bu}{tl:TE}(hl:PE X l tl):PI X tg l (iList X.K tl):=by
 intro pins s σ H R I h;refine thn (hl pins s σ H _ I h) λv s1 ⟨x,H1,I1,r1,q1⟩=>?_;obtain⟨a,e,⟨xs,hq⟩,q⟩:=q1;subst e;cases r1;obtain⟨its,rv,p,hz⟩:=I1.list hq;refine dN p.isList ?_;refine⟨s1.heap.objs.size,[s1.heap.objs.size],_,_,H1,U,I1.kept (t':=s1.toks) λb o e=>ah _ e,zLt a _,⟨_,ap _ rfl,U,U⟩,λb hb=>?_,q⟩;have e:b=s1.heap.objs.size:=by simpa using hb
 subst e;exact I1.fpOk (al _) (I1.hok.fresh (al _))
theorem zWk{l:bu}{tl:TE}(hl:PE X l tl):PI X tg l (iTup X.K tl):=by
 intro pins s σ H R I h;refine thn (hl pins s σ H _ I h) λv s1 ⟨x,H1,I1,r1,q1⟩=>?_;obtain⟨a,e,⟨xs,hq⟩,q⟩:=q1;subst e;cases r1;obtain⟨its,rv,p,hz⟩:=I1.tuple hq;refine gq (show s1.heap.IsTuple a its.toArray from p) ?_;refine⟨s1.heap.objs.size,[s1.heap.objs.size],_,_,H1,U,I1.kept (t':=s1.toks) λb o e=>ah _ e,zIp a _,⟨_,ap _ rfl,U,U⟩,λb hb=>?_,q⟩;have e:b=s1.heap.objs.size:=by simpa using hb
 subst e;exact I1.fpOk (al _) (I1.hok.fresh (al _))
theorem zPp{pins:List (af×cz)}{σ:St}{H:Hp}{s:ai}{R:It->Hp->Prop}{E:ag->ai->Prop}{lo hi:Int}{t u v:nh}{tk:Nat}(I:Inv X pins σ H s)(h1 : -(2^62)<=lo)(h2:lo<2^62)(h3 : -(2^62)<=hi)(h4:hi<2^62)
  (q:R (Itr lo (hi-lo).toNat) H):wpAny (model X.prog X.w) X.A (pyIter (.ref s.heap.objs.size)) (PIE X pins σ tg R) E { s with heap:=s.heap.push { cls:=.type "range",data:=.fields #[.int lo t,.int hi u,.int 1 v] },toks:=tk }:=by
 refine wpAny_pyIter_range (IsRange.new ..) (small_one h1 h2 h3 h4) ?_;have I1:Inv X pins σ H { s with heap:=s.heap.push { cls:=.type "range",data:=.fields #[.int lo t,.int hi u,.int 1 v] },toks:=tk }:=I.kept λb o e=>ah _ e;refine⟨(s.heap.push { cls:=.type "range",data:=.fields #[.int lo t,.int hi u,.int 1 v] }).objs.size,[(s.heap.push { cls:=.type "range",data:=.fields #[.int lo t,.int hi u,.int 1 v] }).objs.size],_,_,H,U,
  I1.kept (t':=tk) λb o e=>ah _ e,zQn _ lo (hi-lo).toNat,?_,λb hb=>?_,q⟩
 ·have e1:lo+((0:Nat):Int)*1=lo:=by simp
  have e2:(((hi-lo).toNat:Nat):Int)-((0:Nat):Int)=mF lo hi 1:=by rw[rangeSize_one]; split <;> lia
  show IsRangeIter _ _ (lo+((0:Nat):Int)*1) ((((hi-lo).toNat:Nat):Int)-((0:Nat):Int)) 1;rw[e1,e2];exact ap _ rfl
 ·have e:b=(s.heap.push { cls:=.type "range",data:=.fields #[.int lo t,.int hi u,.int 1 v] }).objs.size:=by simpa using hb
  subst e;exact I1.fpOk (al _) (I1.hok.fresh (al _))
def iRng1(ta:TA):TI:=λσ H R=>ta σ H λvs H1=>∃ j:Int,vs=[.int j]/\-(2^62)<=j/\j<2^62/\R (Itr 0 j.toNat) H1
def iRng2(ta:TA):TI:=λσ H R=>ta σ H λvs H1=>∃ i j:Int,vs=[.int i,.int j]/\(-(2^62)<=i/\i<2^62/\-(2^62)<=j/\j<2^62)/\R (Itr i (j-i).toNat) H1
theorem rX{a:bu}{ta:TA}{p pos:eS}(hg:Gl X "range")(hm:X.mg "range" = none)(ha:PA X [a] ta)(hs:starEach [a] X.env=[(false,eval a X.env)]:=by rfl):PI X tg (.Call (.Name "range" p) [a] [] pos) (iRng1 ta):=by
 intro pins s σ H R I h;refine Call_ (zH9 I hg hm boot_range (dq (thn (ha pos pins s σ H _ I h) λus s1 ⟨vs,H1,I1,r1,q1⟩=>?_) hs rfl));obtain⟨j,e,q1,q2,q⟩:=q1;subst e;cases r1 with
 | cons r rr =>
  cases rr;obtain⟨t,rfl⟩:=r;exact call_range_1 (zPp I1 (by lia) (by lia) q1 q2 (by simpa using q))
theorem zLy{a b:bu}{ta:TA}{p pos:eS}(hg:Gl X "range")(hm:X.mg "range" = none)(ha:PA X [a,b] ta)(hs:starEach [a,b] X.env=[(false,eval a X.env),(false,eval b X.env)]:=by rfl)(hs2:starEach [b] X.env=[(false,eval b X.env)]:=by rfl) :
  PI X tg (.Call (.Name "range" p) [a,b] [] pos) (iRng2 ta):=by
 intro pins s σ H R I h;refine Call_ (zH9 I hg hm boot_range (dq (thn (ha pos pins s σ H _ I h) λus s1 ⟨vs,H1,I1,r1,q1⟩=>?_) (by rw[hs,hs2]) (by rw[hs2]; rfl)));obtain⟨i,j,e,⟨q1,q2,q3,q4⟩,q⟩:=q1;subst e;cases r1 with
 | cons r rr =>
  cases rr with
  | cons r' rr =>
   cases rr;obtain⟨t,rfl⟩:=r;obtain⟨t',rfl⟩:=r';exact call_range_2 (zPp I1 q1 q2 q3 q4 q)

def tFor(wi:TI)(g:TG)(tb:TS):TS:=λD σ H=>wi σ H λJ H1=>∃ W:Nat->Nat->St->Hp->Prop,(∃ m,W 0 m σ H1)/\∀ i m σ H,W i m σ H ->
 (J.stop i H/\D.nx σ H)\/(J.go i H/\∃ N:St->Hp->Prop,(∀ σ' H',N σ' H'->∃ m',m'<m/\W (i+1) m' σ' H')/\∀ x H',J.yld i H x H'->g x σ H' λσ2 H2=>tb { D with nx:=N,ct:=N,bk:=D.nx } σ2 H2)
def zHx(fp:List af)(h:aV):List (af×cz):=fp.filterMap λb=>(h.get? b).map λo=>(b,o)
theorem tT{fp:List af}{h:aV}{b:af}{o:cz}(hb:b∈fp)(e:h.get? b=some o):(b,o)∈zHx fp h:=e9.mpr ⟨b,hb,by rw[e]; rfl⟩
theorem zSm{fp:List af}{h:aV}{p:af×cz}(hp:p∈zHx fp h):p.1∈fp/\h.get? p.1=some p.2:=by
 obtain⟨b,hb,e⟩:=e9.mp hp;cases q:h.get? b with
 | none=>rw[q] at e; cases e
 | some o =>
  rw[q] at e;have e':(b,o)=p:=a7 e;subst e';exact⟨hb,q⟩
theorem Inv.pinned{pins:List (af×cz)}{σ:St}{H:Hp}{s:ai}{fp:List af}(I:Inv X pins σ H s)(hf:∀ b∈fp,zNn X pins H b)(ho:∀ b∈fp,∃ o,s.heap.get? b=some o/\∀ v,o.data≠.cell v):Inv X (pins++zHx fp s.heap) σ H s :=
 I.pins_of λp hp=>(aS.mp hp).elim (λz=>I.pin p (aW _ z)) λz=>by
  obtain⟨hb,e⟩:=zSm z;obtain⟨f0,f1,f2,_⟩:=hf p.1 hb;obtain⟨o,e',d⟩:=ho p.1 hb;rw[e] at e'; cases e';exact⟨e,f0,f1,f2,d⟩
theorem Inv.unpinned{pins pl:List (af×cz)}{σ:St}{H:Hp}{s:ai}(I:Inv X (pins++pl) σ H s):Inv X pins σ H s:=I.pins_of λp hp=>I.pin p (aW _ (dM _ hp))
theorem zAa{iter:bu}{body:List bC}{wi:TI}{g:TG}{tb:TS}{pos:eS}(hp:PassesOwn (model X.prog X.w) X.A X.env X.xe)(hc:X.calm=true)(hi:PI X tg iter wi)(hg:PG X tg g)(hb:PSs X body tb)
  (hs:∀ x,foldedSetIterable iter X.env x=pure x:=by intro _; rfl):PS X (.For tg iter body [] pos) (tFor wi g tb):=by
 intro pins s σ H D I h;refine wpAny_For (thn (hi pins s σ H _ I h) λv s1 h1=>thn h1 λitv s2 h2=>?_) hs;obtain⟨it,fp,tn,J,H2,e,I2,T,st2,f2,W,⟨m0,w0⟩,turn⟩:=h2;subst e;have stat:∀{H':Hp},(∀ b∈fp,H' b=none)->∀ b∈fp,zNn X pins H' b:=λhn b hb=>⟨hn b hb,(f2 b hb).2⟩;refine codeAny_forLoop_any (λn s'=>∃ i σ' H',Inv X pins σ' H' s'/\tn i s'.heap/\(∀ b∈fp,H' b=none)/\W i n σ' H') ?_ m0 ⟨0,σ,H2,I2,st2,λb hb=>(f2 b hb).1,w0⟩;rintro n s3 ⟨i,σ3,H3,I3,st3,fr3,w3⟩;rcases turn i n σ3 H3 w3 with ⟨stop,qn⟩ | ⟨go,N,hN,step⟩
 ·refine dJ hp (thn (T.done X rfl rfl rfl hc i pins s3 σ3 H3 X.xe I3 (stat fr3) st3 stop) λr s4 ⟨hr,I4⟩=>?_);subst hr;exact e7 ⟨σ3,H3,I4,qn⟩
 ·refine dJ hp (thn (T.item X rfl rfl rfl hc i pins s3 σ3 H3 X.xe I3 (stat fr3) st3 go) λr s4 ⟨u,hr,h4⟩=>?_);subst hr;refine dJ hp (thn h4 λ_ s5 ⟨x,H5,I5,r5,y5,st5,fr5⟩=>?_);have I5':=I5.pinned (stat fr5) (T.obj _ _ st5);refine dJ hp (thn (hg _ s5 σ3 H5 x u _ I5' r5 (step x H5 y5)) λ_ s6 ⟨σ6,H6,I6,q6⟩=>?_);refine dJ hp (thn (hb _ s6 σ6 H6 _ I6 q6) λf s7 q7=>?_);have again:∀{σ7:St}{H7:Hp},Inv X (pins++zHx fp s5.heap) σ7 H7 s7->N σ7 H7->∃ m,m<n/\∃ i σ' H',Inv X pins σ' H' s7/\tn i s7.heap/\(∀ b∈fp,H' b=none)/\W i m σ' H':=λ{σ7 H7} I7 n7=>by
   obtain⟨m',hm,w7⟩:=hN σ7 H7 n7;refine⟨m',hm,i+1,σ7,H7,I7.unpinned,T.keep _ _ _ st5 λb hb o e=>(I7.pin (b,o) (aW _ (aW _ (tT hb e)))).1,λb hb=>?_,w7⟩;obtain⟨o,e,d⟩:=T.obj _ _ st5 b hb;exact(I7.pin (b,o) (aW _ (aW _ (tT hb e)))).2.1
  cases f with
  | next=>obtain⟨σ7,H7,I7,n7⟩:=q7; exact again I7 n7
  | cont=>obtain⟨σ7,H7,I7,n7⟩:=q7; exact again I7 n7
  | brk=>obtain⟨σ7,H7,I7,q7⟩:=q7; exact⟨σ7,H7,I7.unpinned,q7⟩
  | ret v=>obtain⟨x7,σ7,H7,I7,r7,q7⟩:=q7; exact⟨x7,σ7,H7,I7.unpinned,r7,q7⟩
end

theorem zVh{K:ae}{a:af}{xs:List V}{g:TG}{tb:TS}{D:zPw}{σ:St}{H:Hp}(Pv:Nat->St->Hp->Prop)(h0:Pv 0 σ H)(hl:∀ i σ H,i<=xs.length->Pv i σ H->SqL K H a xs)
  (hs:∀ i x σ H,xs[i]?=some x->Pv i σ H->g x σ H λσ2 H2=>tb { D with nx:=Pv (i+1),ct:=Pv (i+1),bk:=D.nx } σ2 H2) (hd:∀ σ H,Pv xs.length σ H->D.nx σ H) :
  ∃ W:Nat->Nat->St->Hp->Prop,(∃ m,W 0 m σ H)/\∀ i m σ H,W i m σ H ->
   ((Itl K a).stop i H/\D.nx σ H)\/((Itl K a).go i H/\∃ N:St->Hp->Prop,(∀ σ' H',N σ' H'->∃ m',m'<m/\W (i+1) m' σ' H')/\∀ x H',(Itl K a).yld i H x H'->g x σ H' λσ2 H2=>tb { D with nx:=N,ct:=N,bk:=D.nx } σ2 H2):=by
 exists λi m σ H=>m=xs.length-i/\i<=xs.length/\Pv i σ H,⟨xs.length,by simp,br _,h0⟩;rintro i m σ H ⟨rfl,hi,p⟩;have q:=hl i σ H hi p;by_cases hlt:i<xs.length
 ·refine .inr ⟨⟨xs,xs[i],q,by simp[hlt]⟩,Pv (i+1),λσ' H' p'=>⟨xs.length-(i+1),by lia,rfl,hlt,p'⟩,λx H' y=>?_⟩;obtain⟨e,y⟩:=y;subst e;exact hs i x σ _ (y xs q) p
 ·have e:i=xs.length:=by lia
  subst e;exact .inl ⟨⟨xs,q,al _⟩,hd σ H p⟩
theorem zR5{K:ae}{a:af}{xs:List V}{g:TG}{tb:TS}{D:zPw}{σ:St}{H:Hp}(Pv:Nat->St->Hp->Prop)(h0:Pv 0 σ H)(hl:∀ i σ H,i<=xs.length->Pv i σ H->SqT K H a xs)
  (hs:∀ i x σ H,xs[i]?=some x->Pv i σ H->g x σ H λσ2 H2=>tb { D with nx:=Pv (i+1),ct:=Pv (i+1),bk:=D.nx } σ2 H2) (hd:∀ σ H,Pv xs.length σ H->D.nx σ H) :
  ∃ W:Nat->Nat->St->Hp->Prop,(∃ m,W 0 m σ H)/\∀ i m σ H,W i m σ H ->
   ((Itt K a).stop i H/\D.nx σ H)\/((Itt K a).go i H/\∃ N:St->Hp->Prop,(∀ σ' H',N σ' H'->∃ m',m'<m/\W (i+1) m' σ' H')/\∀ x H',(Itt K a).yld i H x H'->g x σ H' λσ2 H2=>tb { D with nx:=N,ct:=N,bk:=D.nx } σ2 H2):=by
 exists λi m σ H=>m=xs.length-i/\i<=xs.length/\Pv i σ H,⟨xs.length,by simp,br _,h0⟩;rintro i m σ H ⟨rfl,hi,p⟩;have q:=hl i σ H hi p;by_cases hlt:i<xs.length
 ·refine .inr ⟨⟨xs,xs[i],q,by simp[hlt]⟩,Pv (i+1),λσ' H' p'=>⟨xs.length-(i+1),by lia,rfl,hlt,p'⟩,λx H' y=>?_⟩;obtain⟨e,y⟩:=y;subst e;exact hs i x σ _ (y xs q) p
 ·have e:i=xs.length:=by lia
  subst e;exact .inl ⟨⟨xs,q,al _⟩,hd σ H p⟩
theorem zAq{lo:Int}{n:Nat}{g:TG}{tb:TS}{D:zPw}{σ:St}{H:Hp}(Pv:Nat->St->Hp->Prop)(h0:Pv 0 σ H)
  (hs:∀ i σ H,i<n->Pv i σ H->g (.int (lo+i)) σ H λσ2 H2=>tb { D with nx:=Pv (i+1),ct:=Pv (i+1),bk:=D.nx } σ2 H2) (hd:∀ σ H,Pv n σ H->D.nx σ H) :
  ∃ W:Nat->Nat->St->Hp->Prop,(∃ m,W 0 m σ H)/\∀ i m σ H,W i m σ H ->
   ((Itr lo n).stop i H/\D.nx σ H)\/((Itr lo n).go i H/\∃ N:St->Hp->Prop,(∀ σ' H',N σ' H'->∃ m',m'<m/\W (i+1) m' σ' H')/\∀ x H',(Itr lo n).yld i H x H'->g x σ H' λσ2 H2=>tb { D with nx:=N,ct:=N,bk:=D.nx } σ2 H2):=by
 exists λi m σ H=>m=n-i/\i<=n/\Pv i σ H,⟨n,by simp,br _,h0⟩;rintro i m σ H ⟨rfl,hi,p⟩;by_cases hlt:i<n
 ·refine .inr ⟨hlt,Pv (i+1),λσ' H' p'=>⟨n-(i+1),by lia,rfl,hlt,p'⟩,λx H' y=>?_⟩;obtain⟨e,y⟩:=y;subst e y;exact hs i σ _ hlt p
 ·have e:i=n:=by lia
  subst e;exact .inl ⟨al _,hd σ H p⟩
theorem zOn{c:TT}{tb:TS}{D:zPw}{σ:St}{H:Hp}(Pv:St->Hp->Prop)(μ:St->Hp->Nat)(h0:Pv σ H)
  (hs:∀ σ H,Pv σ H->c σ H λb H1=>if b=true then tb { D with nx:=λσ' H'=>Pv σ' H'/\μ σ' H'<μ σ H,ct:=λσ' H'=>Pv σ' H'/\μ σ' H'<μ σ H,bk:=D.nx } σ H1 else D.nx σ H1)
  (mono:∀ σ H Q Q',(∀ b H1,Q b H1->Q' b H1)->c σ H Q->c σ H Q'):zW1 c tb D σ H:=by
 exists λm σ H=>m=μ σ H/\Pv σ H,⟨_,U,h0⟩;rintro m σ H ⟨rfl,p⟩;refine mono σ H _ _ (λb H1 q=>?_) (hs σ H p);cases b with
 | true=>exact⟨_,λσ' H' ⟨p',l⟩=>⟨_,l,U,p'⟩,q⟩
 | false=>exact q
end L2

namespace L2
open PySem PySem.Spec PyProof.Rows

abbrev R2:=V->V->Hp->VK->Prop
def OpR(X:Cx)(f:ag->ag->lU ag)(r:R2):Prop :=
 ∀(pins:List (af×cz))(s:ai)(σ:St)(H:Hp)(x y:V)(v u:ag)(Q:VK),Inv X pins σ H s->xE x v->xE y u->r x y H Q ->
  wpAny (model X.prog X.w) X.A (f v u) (EP X pins σ Q) X.xe s
def UnR(X:Cx)(f:ag->lU ag)(r:V->Hp->VK->Prop):Prop :=
 ∀(pins:List (af×cz))(s:ai)(σ:St)(H:Hp)(x:V)(v:ag)(Q:VK),Inv X pins σ H s->xE x v->r x H Q ->
  wpAny (model X.prog X.w) X.A (f v) (EP X pins σ Q) X.xe s
def uS(X:Cx)(f:ag)(r:List V->Hp->VK->Prop):Prop :=
 ∀(pins:List (af×cz))(s:ai)(σ:St)(H:Hp)(xs:List V)(us:List ag)(Q:VK),Inv X pins σ H s->yV xs us->r xs H Q ->
  wpAny (model X.prog X.w) X.A (call f us) (EP X pins σ Q) X.xe s
def tOp(r:R2)(ta tb:TE):TE:=λσ H Q=>ta σ H λx H1=>tb σ H1 λy H2=>r x y H2 Q
def tUn(r:V->Hp->VK->Prop)(ta:TE):TE:=λσ H Q=>ta σ H λx H1=>r x H1 Q
inductive RI(C:Int->Int->Prop)(g:Int->Int->V)(x y:V)(H:Hp)(Q:VK):Prop where
 | mk (i j:Int) (ex:x=.int i) (ey:y=.int j) (c:C i j) (q:Q (g i j) H)
def rI(C:Int->Int->Prop)(g:Int->Int->V):R2:=λx y H Q=>RI C g x y H Q
inductive RI0(g:Int->Int->V)(x y:V)(H:Hp)(Q:VK):Prop where
 | mk (i j:Int) (ex:x=.int i) (ey:y=.int j) (q:Q (g i j) H)
def rI0(g:Int->Int->V):R2:=λx y H Q=>RI0 g x y H Q
inductive RU(g:Int->V)(x:V)(H:Hp)(Q:VK):Prop where
 | mk (i:Int) (ex:x=.int i) (q:Q (g i) H)
def rU(g:Int->V):V->Hp->VK->Prop:=λx H Q=>RU g x H Q

section
variable{X:Cx}{a b c:bu}{ta tb tc:TE}{pos:eS}

theorem yi6(ha:PE X a ta)(hb:PE X b tb){pins:List (af×cz)}{s:ai}{σ:St}{H:Hp}{R:V->V->Hp->Prop}(I:Inv X pins σ H s)
  (h:ta σ H λx H1=>tb σ H1 λy H2=>R x y H2) {Q:ag->ai->Prop} {f:ag->ag->lU ag}
  (hf:∀ v u s2 x y H2,Inv X pins σ H2 s2->xE x v->xE y u->R x y H2->wpAny (model X.prog X.w) X.A (f v u) Q X.xe s2) :
  wpAny (model X.prog X.w) X.A (eval a X.env) (λv s₁=>wpAny (model X.prog X.w) X.A (eval b X.env) (λu s₂=>wpAny (model X.prog X.w) X.A (f v u) Q X.xe s₂) X.xe s₁) X.xe s:=by
 refine thn (ha pins s σ H _ I h) λv s1 ⟨x,H1,I1,r1,q1⟩=>?_;refine thn (hb pins s1 σ H1 _ I1 q1) λu s2 ⟨y,H2,I2,r2,q2⟩=>?_;exact hf v u s2 x y H2 I2 r1 r2 q2

theorem wH{op:Operator}{r:R2}(ho:OpR X (binaryOp op) r)(ha:PE X a ta)(hb:PE X b tb):PE X (.BinOp a op b pos) (tOp r ta tb):=by
 intro pins s σ H Q I h;exact wpAny_BinOp (yi6 ha hb I h λv u s2 x y H2 I2 rx ry q=>ho pins s2 σ H2 x y v u Q I2 rx ry q)
theorem pe_un{op:UnaryOp}{r:V->Hp->VK->Prop}(ho:UnR X (unaryOp op) r)(ha:PE X a ta):PE X (.UnaryOp op a pos) (tUn r ta):=by
 intro pins s σ H Q I h;exact UnaryOp_ (thn (ha pins s σ H _ I h) λv s1 ⟨x,H1,I1,r1,q1⟩=>ho pins s1 σ H1 x v Q I1 r1 q1)
theorem opI{f:ag->ag->lU ag}{C:Int->Int->Prop}{g:Int->Int->Int}
  (rule:∀(i j:Int)(t u:nh)(s:ai)(Q:ag->ai->Prop)(E:ag->ai->Prop),C i j->Q (.int (g i j) s.toks) { s with toks:=s.toks+1 }->wpAny (model X.prog X.w) X.A (f (.int i t) (.int j u)) Q E s) :
  OpR X f (rI C λi j=>.int (g i j)):=by
 intro pins s σ H x y v u Q I rx ry h;obtain⟨i,j,rfl,rfl,hc,q⟩:=h;obtain⟨t,rfl⟩:=rx;obtain⟨t',rfl⟩:=ry;exact rule i j t t' s _ _ hc ⟨.int (g i j),H,I.tok _,⟨_,rfl⟩,q⟩
theorem opI0{f:ag->ag->lU ag}{g:Int->Int->Int}
  (rule:∀(i j:Int)(t u:nh)(s:ai)(Q:ag->ai->Prop)(E:ag->ai->Prop),Q (.int (g i j) s.toks) { s with toks:=s.toks+1 }->wpAny (model X.prog X.w) X.A (f (.int i t) (.int j u)) Q E s) :
  OpR X f (rI0 λi j=>.int (g i j)):=by
 intro pins s σ H x y v u Q I rx ry h;obtain⟨i,j,rfl,rfl,q⟩:=h;obtain⟨t,rfl⟩:=rx;obtain⟨t',rfl⟩:=ry;exact rule i j t t' s _ _ ⟨.int (g i j),H,I.tok _,⟨_,rfl⟩,q⟩
theorem yh5{f:ag->ag->lU ag}{g:Int->Int->Bool}
  (rule:∀(i j:Int)(t u:nh)(s:ai)(Q:ag->ai->Prop)(E:ag->ai->Prop),Q (.bool (g i j)) s->wpAny (model X.prog X.w) X.A (f (.int i t) (.int j u)) Q E s) :
  OpR X f (rI0 λi j=>.bl (g i j)):=by
 intro pins s σ H x y v u Q I rx ry h;obtain⟨i,j,rfl,rfl,q⟩:=h;obtain⟨t,rfl⟩:=rx;obtain⟨t',rfl⟩:=ry;exact rule i j t t' s _ _ ⟨.bl (g i j),H,I,rfl,q⟩

def yi3(i j:Int):Prop:=0<=j/\j<=1000000/\i.natAbs<2^64
def yh8(i j:Int):Prop:=(-(2^64)<i/\i<2^64)\/(-(2^64)<j/\j<2^64)
theorem yh8.ok{i j:Int}(h:yh8 i j):IntMulOk i j:=by
 rcases h with ⟨h1,h2⟩ | ⟨h1,h2⟩
 ·exact .of_left (intBits_le_64 h1 h2)
 ·exact .of_right (intBits_le_64 h1 h2)
theorem zBs:OpR X (binaryOp .Add) (rI0 λi j=>.int (i+j)):=opI0 λ_ _ _ _ _ _ _ q=>add_int q
theorem zWo:OpR X (binaryOp .Sub) (rI0 λi j=>.int (i-j)):=opI0 λ_ _ _ _ _ _ _ q=>sub_int q
theorem yc7:OpR X (binaryOp .Mult) (rI yh8 λi j=>.int (i*j)):=opI λ_ _ _ _ _ _ _ hc q=>mul_int q hc.ok
theorem zIq:OpR X (binaryOp .Mod) (rI (λ_ j=>0<j) λi j=>.int (i%j)):=opI λi j _ _ _ _ _ hc q=>by
 have h1:(0:Int)<j:=hc;exact mod_int' (by lia) (by rw[Int.fmod_eq_emod_of_nonneg i (by lia)]; exact q)
theorem zZ6:OpR X (binaryOp .Pow) (rI yi3 λi j=>.int (i^j.toNat)):=opI λ_ _ _ _ _ _ _ hc q=>pow_int_small hc.1 hc.2.1 hc.2.2 q
theorem unI{f:ag->lU ag}{g:Int->Int}
  (rule:∀(i:Int)(t:nh)(s:ai)(Q:ag->ai->Prop)(E:ag->ai->Prop),Q (.int (g i) s.toks) { s with toks:=s.toks+1 }->wpAny (model X.prog X.w) X.A (f (.int i t)) Q E s) :
  UnR X f (rU λi=>.int (g i)):=by
 intro pins s σ H x v Q I rx h;obtain⟨i,rfl,q⟩:=h;obtain⟨t,rfl⟩:=rx;exact rule i t s _ _ ⟨.int (g i),H,I.tok _,⟨_,rfl⟩,q⟩
theorem ya1:UnR X (unaryOp .USub) (rU λi=>.int (-i)):=unI λ_ _ _ _ _ q=>neg_int q
end

def ye8:V->V->Bool
 | .non,.non=>true | .non,.int _=>true | .int _,.non=>true | .non,.bl _=>true | .bl _,.non=>true | .non,.str _=>true | .str _,.non=>true
 | .int _,.int _=>true | .bl _,.bl _=>true | .str _,.str _=>true | .byt _,.byt _=>true
 | .int _,.str _=>true | .str _,.int _=>true | .bl _,.str _=>true | .str _,.bl _=>true
 | _,_=>false
def rEq:R2:=λx y H Q=>ye8 x y=true/\Q (.bl (decide (x=y))) H
def rNe:R2:=λx y H Q=>ye8 x y=true/\Q (.bl (!decide (x=y))) H

theorem zRx{i j:Int} : decide (V.int i=V.int j)=(i == j):=by
 rw[d6];simp
theorem zWx{i j:Bool} : decide (V.bl i=V.bl j)=(i == j):=by
 rw[d6];simp
theorem zRu{i j:aA} : decide (V.str i=V.str j)=(i == j):=by
 rw[d6];simp
theorem zTy{i j:Array UInt8} : decide (V.byt i=V.byt j)=(i.toList == j.toList):=by
 rw[d6];cases i;cases j;simp

section
variable{X:Cx}{a b c:bu}{ta tb tc:TE}{pos:eS}
theorem yU{pins:List (af×cz)}{σ:St}{H:Hp}{s:ai}{Q:VK}{k k':Bool}(I:Inv X pins σ H s)(q:Q (.bl k) H)(e:k=k'):EP X pins σ Q (.bool k') s:=by
 subst e;exact⟨.bl k,H,I,U,q⟩
theorem zZf:OpR X (compareOp .Eq) rEq:=by
 intro pins s σ H x y v u Q I rx ry h;obtain⟨hs,q⟩:=h;cases x with
 | non =>
  cases rx;cases y with
  | non=>cases ry; exact lH (yU I q (by simp))
  | bl j=>cases ry; exact lI (yU I q (by simp))
  | int j=>obtain⟨t',rfl⟩:=ry; exact lV (yU I q (by simp))
  | str j=>obtain⟨t',rfl⟩:=ry; exact lW (yU I q (by simp))
  | _=>exact absurd (show false=true from hs) aB
 | bl i =>
  cases rx;cases y with
  | non=>cases ry; exact lJ (yU I q (by simp))
  | bl j=>cases ry; exact eq_bool (yU I q zWx)
  | str j=>obtain⟨t',rfl⟩:=ry; exact lK (yU I q (by simp))
  | _=>exact absurd (show false=true from hs) aB
 | int i =>
  obtain⟨t,rfl⟩:=rx;cases y with
  | non=>cases ry; exact lX (yU I q (by simp))
  | int j=>obtain⟨t',rfl⟩:=ry; exact eq_int (yU I q zRx)
  | str j=>obtain⟨t',rfl⟩:=ry; exact lY (yU I q (by simp))
  | _=>exact absurd (show false=true from hs) aB
 | str i =>
  obtain⟨t,rfl⟩:=rx;cases y with
  | non=>cases ry; exact lZ (yU I q (by simp))
  | bl j=>cases ry; exact lL (yU I q (by simp))
  | int j=>obtain⟨t',rfl⟩:=ry; exact l5 (yU I q (by simp))
  | str j=>obtain⟨t',rfl⟩:=ry; exact eq_str (yU I q zRu)
  | _=>exact absurd (show false=true from hs) aB
 | byt i =>
  obtain⟨t,rfl⟩:=rx;cases y with
  | byt j=>obtain⟨t',rfl⟩:=ry; exact PySem.W.eq_bytes (yU I q zTy)
  | _=>exact absurd (show false=true from hs) aB
 | _=>cases y <;> exact absurd (show false=true from hs) aB
theorem ye4:OpR X (compareOp .NotEq) rNe:=by
 intro pins s σ H x y v u Q I rx ry h;obtain⟨hs,q⟩:=h;cases x with
 | non =>
  cases rx;cases y with
  | non=>cases ry; exact lM (yU I q (by simp))
  | bl j=>cases ry; exact lN (yU I q (by simp))
  | int j=>obtain⟨t',rfl⟩:=ry; exact l6 (yU I q (by simp))
  | str j=>obtain⟨t',rfl⟩:=ry; exact md (yU I q (by simp))
  | _=>exact absurd (show false=true from hs) aB
 | bl i =>
  cases rx;cases y with
  | non=>cases ry; exact lO (yU I q (by simp))
  | bl j=>cases ry; exact ne_bool (yU I q (congrArg not zWx))
  | str j=>obtain⟨t',rfl⟩:=ry; exact lP (yU I q (by simp))
  | _=>exact absurd (show false=true from hs) aB
 | int i =>
  obtain⟨t,rfl⟩:=rx;cases y with
  | non=>cases ry; exact mf (yU I q (by simp))
  | int j=>obtain⟨t',rfl⟩:=ry; exact ne_int (yU I q (congrArg not zRx))
  | str j=>obtain⟨t',rfl⟩:=ry; exact mh (yU I q (by simp))
  | _=>exact absurd (show false=true from hs) aB
 | str i =>
  obtain⟨t,rfl⟩:=rx;cases y with
  | non=>cases ry; exact mi (yU I q (by simp))
  | bl j=>cases ry; exact lQ (yU I q (by simp))
  | int j=>obtain⟨t',rfl⟩:=ry; exact mj (yU I q (by simp))
  | str j=>obtain⟨t',rfl⟩:=ry; exact ne_str (yU I q (congrArg not zRu))
  | _=>exact absurd (show false=true from hs) aB
 | byt i =>
  obtain⟨t,rfl⟩:=rx;cases y with
  | byt j=>obtain⟨t',rfl⟩:=ry; exact PySem.W.ne_bytes (yU I q (congrArg not zTy))
  | _=>exact absurd (show false=true from hs) aB
 | _=>cases y <;> exact absurd (show false=true from hs) aB

theorem zVv:OpR X (compareOp .Lt) (rI0 λi j=>.bl (decide (i<j))):=yh5 λ_ _ _ _ _ _ _ q=>lt_int q
theorem zDy:OpR X (compareOp .LtE) (rI0 λi j=>.bl (decide (i<=j))):=yh5 λ_ _ _ _ _ _ _ q=>le_int q
theorem zIx:OpR X (compareOp .Gt) (rI0 λi j=>.bl (decide (j<i))):=yh5 λ_ _ _ _ _ _ _ q=>gt_int q
theorem zX1:OpR X (compareOp .GtE) (rI0 λi j=>.bl (decide (j<=i))):=yh5 λ_ _ _ _ _ _ _ q=>ge_int q
theorem yW(b:bu){op:kK}(h:op≠.In:=by decide)(h2:op≠.NotIn:=by decide):behindInMarks op b=false:=by
 have e1:(op == CmpOp.In)=false:=by cases op <;> first | rfl | exact absurd rfl h
 have e2:(op == CmpOp.NotIn)=false:=by cases op <;> first | rfl | exact absurd rfl h2
 cases b <;> simp[behindInMarks,e1,e2]
theorem sX{op:kK}{r:R2}(ho:OpR X (compareOp op) r)(ha:PE X a ta)(hb:PE X b tb)(hm:behindInMarks op b=false):PE X (.Compare a [op] [b] pos) (tOp r ta tb):=by
 intro pins s σ H Q I h;exact wpAny_Compare1 (yi6 ha hb I h λv u s2 x y H2 I2 rx ry q=>ho pins s2 σ H2 x y v u Q I2 rx ry q) hm
def zYe(t:TE):TT:=λσ H Q=>t σ H λx H'=>∃ k,x=.bl k/\Q k H'
theorem yJ{op:kK}{r:R2}(ho:OpR X (compareOp op) r)(ha:PE X a ta)(hb:PE X b tb)(hm:behindInMarks op b=false):PT X (.Compare a [op] [b] pos) (zYe (tOp r ta tb)):=by
 intro pins s σ H Q I h;refine iJ (thn (ha pins s σ H _ I h) λv s1 ⟨x,H1,I1,r1,q1⟩=>thn (hb pins s1 σ H1 _ I1 q1) λu s2 ⟨y,H2,I2,r2,q2⟩ =>
  thn (ho pins s2 σ H2 x y v u _ I2 r1 r2 q2) λc s3 ⟨z,H3,I3,r3,k,e,q3⟩=>?_) hm
 subst e;cases r3;exact cf ⟨H3,I3,q3⟩
def zXh(r r':R2)(ta tb tc:TE):TE:=λσ H Q=>ta σ H λx H1=>tb σ H1 λy H2=>r x y H2 λz H3=>∃ k,z=.bl k /\
 (if k=true then tc σ H3 λw' H4=>r' y w' H4 Q else Q (.bl false) H3)
theorem zC3{op op':kK}{r r':R2}(ho:OpR X (compareOp op) r)(ho':OpR X (compareOp op') r')(ha:PE X a ta)(hb:PE X b tb)(hc:PE X c tc)
  (hm:lastMarks [op,op'] [b,c]=false:=by with_unfolding_all rfl):PE X (.Compare a [op,op'] [b,c] pos) (zXh r r' ta tb tc):=by
 intro pins s σ H Q I h;refine Compare_chain (thn (ha pins s σ H _ I h) λv s1 ⟨x,H1,I1,r1,q1⟩=>chain_link (thn (hb pins s1 σ H1 _ I1 q1) λu s2 ⟨y,H2,I2,r2,q2⟩ =>
  thn (ho pins s2 σ H2 x y v u _ I2 r1 r2 q2) λd s3 ⟨z,H3,I3,r3,k,e,q3⟩=>?_)) hm
 subst e;cases r3;refine cf ?_;cases k with
 | false=>exact ite_ff ⟨.bl false,H3,I3,rfl,q3⟩
 | true=>exact ite_tt (chain_last (thn (hc pins s3 σ H3 _ I3 q3) λw' s4 ⟨z',H4,I4,r4,q4⟩=>ho' pins s4 σ H4 y z' u w' Q I4 r2 r4 q4))
theorem zOd{op op':kK}{r r':R2}(ho:OpR X (compareOp op) r)(ho':OpR X (compareOp op') r')(ha:PE X a ta)(hb:PE X b tb)(hc:PE X c tc)
  (hm:lastMarks [op,op'] [b,c]=false:=by with_unfolding_all rfl):PT X (.Compare a [op,op'] [b,c] pos) (zYe (zXh r r' ta tb tc)):=by
 intro pins s σ H Q I h;refine isTrue_chain (thn (ha pins s σ H _ I h) λv s1 ⟨x,H1,I1,r1,q1⟩=>test_link (thn (hb pins s1 σ H1 _ I1 q1) λu s2 ⟨y,H2,I2,r2,q2⟩ =>
  thn (ho pins s2 σ H2 x y v u _ I2 r1 r2 q2) λd s3 ⟨z,H3,I3,r3,k,e,q3⟩=>?_)) hm
 subst e;cases r3;refine cf ?_;cases k with
 | false =>
  obtain⟨k',e',q'⟩:=q3;cases e';exact ite_ff ⟨H3,I3,q'⟩
 | true =>
  refine ite_tt (test_last (thn (hc pins s3 σ H3 _ I3 q3) λw' s4 ⟨z',H4,I4,r4,q4⟩=>thn (ho' pins s4 σ H4 y z' u w' _ I4 r2 r4 q4) λd' s5 ⟨z2,H5,I5,r5,k2,e2,q5⟩=>?_));subst e2;cases r5;exact cf ⟨H5,I5,q5⟩

theorem zHy:(sizeLine:Nat)<2^63:=by rw[sizeLine_eq]; decide
theorem zIn:OpR X (binaryOp .Add) (λx y H Q=>∃ i j,x=.str i/\y=.str j/\i.length+j.length<=sizeLine/\Q (.str (i++j)) H):=by
 intro pins s σ H x y v u Q I rx ry h;obtain⟨i,j,rfl,rfl,hz,q⟩:=h;obtain⟨t,rfl⟩:=rx;obtain⟨t',rfl⟩:=ry;exact add_str (λt' tk=>⟨.str (i++j),H,I.tok _,⟨_,rfl⟩,q⟩) hz
theorem zI8{x:V}{us:List ag}(r:yV [x] us):∃ u,us=[u]/\xE x u:=by
 cases r with
 | cons r1 r2=>cases r2; exact⟨_,U,r1⟩
theorem yg6{x y:V}{us:List ag}(r:yV [x,y] us):∃ u w',us=[u,w']/\xE x u/\xE y w':=by
 cases r with
 | cons r1 r2 =>
  cases r2 with
  | cons r3 r4=>cases r4; exact⟨_,_,U,r1,r3⟩
theorem zWb:uS X (.builtin "abs") (λxs H Q=>∃ i,xs=[.int i]/\Q (.int (if i<0 then -i else i)) H):=by
 intro pins s σ H xs us Q I r h;obtain⟨i,rfl,q⟩:=h;obtain⟨u,rfl,t,rfl⟩:=zI8 r;exact call_abs_int λu tk=>⟨.int (if i<0 then -i else i),H,I.tok _,⟨_,rfl⟩,q⟩
theorem zS2(hc:X.calm=true):uS X (.builtin "max") (λxs H Q=>∃ i j,xs=[.int i,.int j]/\Q (.int (if j>i then j else i)) H):=by
 intro pins s σ H xs us Q I r h;obtain⟨i,j,rfl,q⟩:=h;obtain⟨u,w',rfl,⟨t,rfl⟩,⟨t',rfl⟩⟩:=yg6 r;refine max_two_ints (I.ok.hd hc) λh' tk k=>⟨_,H,I.kept k,?_,q⟩;by_cases hj:j>i
 ·rw[if_pos hj,if_pos hj]; exact⟨_,U⟩
 ·rw[if_neg hj,if_neg hj]; exact⟨_,U⟩
theorem zK8:uS X (.type "int") (λxs H Q=>(∃ i,xs=[.int i]/\Q (.int i) H)\/∃ k,xs=[.bl k]/\Q (.int (if k then 1 else 0)) H):=by
 intro pins s σ H xs us Q I r h;rcases h with ⟨i,rfl,q⟩ | ⟨k,rfl,q⟩
 ·obtain⟨u,rfl,t,rfl⟩:=zI8 r;exact call_int_int ⟨.int i,H,I,⟨_,rfl⟩,q⟩
 ·obtain⟨u,rfl,r1⟩:=zI8 r;cases r1;exact call_int_bool ⟨.int (if k then 1 else 0),H,I.tok _,⟨_,rfl⟩,q⟩
end
end L2

namespace L2
open PySem PySem.Spec PyProof.Rows

structure zX5(h:aV)(x dx C:af)(mA:aA->Option ag):Prop where
 obj:h.get? x=some (dj C dx)
 ns:h.Ns1 dx mA
 ne:dx≠x

theorem zRi{h:aV}{dx:af}{mA:aA->Option ag}(n:h.Ns1 dx mA):∃ od,h.get? dx=some od/\∀ name,gu name od=some (mA name):=by
 obtain⟨o,es,ep,ho,hd,hk,_,hm⟩:=n;refine⟨o,ho,λname=>?_⟩;have e:=hm name;unfold nsFind findBy at e;rw[<- Array.find?_toList] at e;unfold gu;rw[hd];dsimp only;split
 ·rename_i y q
  rw[q] at e;exact congrArg some e
 ·rename_i q
  rw[q] at e;have a:es.toList.any (·.refKey)=false:=by
   rw[jD];intro y hy;obtain⟨z,t,hkey⟩:=hk y (fJ.mp hy);simp[DictEntry.refKey,hkey]
  have a':¬ es.toList.any (·.refKey)=true:=by rw[a]; exact aB
  rw[if_neg a'];exact congrArg some e

theorem zX5.look{h:aV}{x dx C:af}{mA:aA->Option ag}(I:zX5 h x dx C mA):∃ od,PySem.W.InstAt h x (dj C dx) C (some od)/\∀ name,gu name od=some (mA name) :=
 let ⟨od,ho,hl⟩:=zRi I.ns
 ⟨od,⟨I.obj,rfl,rfl,ho⟩,hl⟩

section
variable{prog:aK}{w:aT}{A:bD}{E:ag->ai->Prop}{s:ai}{K:ae}{x dx C f:af}{mA:aA->Option ag}{name:aA}{v:ag}

theorem zZh{expr:Bool}{Q:ag->ai->Prop}(X:K.In s.heap)(I:zX5 s.heap x dx C mA)(hg:fD K C name=true)(hh:gN K C=true)
  (ha:cu K (.ref C) name=some none) (hv:mA name=some v) (hv':j9 v=true) (h:Q v { s with toks:=s.toks+1 }) :
  wpAny (model prog w) A (getAttr (.ref x) name expr) Q E s:=by
 obtain⟨od,J,hl⟩:=I.look;exact PySem.W.get_value X J (fW hg).1 (PySem.W.findObj_own hh ha rfl (by rw[hl,hv])) hv' h

theorem zVk{pl:lU Bool}{Q:ag×List ag->ai->Prop}(X:K.In s.heap)(I:zX5 s.heap x dx C mA)(hg:fD K C name=true)
  (hf:cu K (.ref C) name=some (some (.ref f))) (ht:jE K (.ref f)=true) (hv:mA name=none) (h:Q (.ref f,[.ref x]) s) :
  wpAny (model prog w) A (getMethod (.ref x) name pl) Q E s:=by
 obtain⟨od,J,hl⟩:=I.look;exact PySem.W.method_fn X J (fW hg).1 (fW hg).2 hf (beq_iff_eq.mp ht) (by show(gu name od).map (·.isSome)=some false; rw[hl,hv]; rfl) h

theorem zYp{ns:List aA}{Q:Unit->ai->Prop}(X:K.In s.heap)(I:zX5 s.heap x dx C mA)
  (hs:cu K (.ref C) "__setattr__" = some (some (.builtin "object.__setattr__"))) (hp:jF K C=true) (ht:ix K C name=some none) (hh:gN K C=true)
  (hw:jC mA ns) (hsz:ns.length<=sizeLine)
  (h:∀ h',zX5 h' x dx C (λy=>if y=name then some v else mA y)->cI dx s.heap h'->Q () { s with heap:=h',toks:=s.toks+2 }) :
  wpAny (model prog w) A (setAttr (.ref x) name v) Q E s:=by
 obtain⟨od,J,hl⟩:=I.look;refine PySem.W.set_plain X J hs (PySem.W.osa_open (s:={ s with toks:=s.toks+1 }) (r:=none) X J hp ht λb=>?_);obtain⟨cd,hc,hd'⟩:=PySem.W.any_some hh;have hx:s.heap.get? x=some ⟨.ref C,some dx,.plain,#[]⟩:=I.obj;refine aa (ak (aa (aa (wpAny_loadPart hx (aa (mY (s:={ s with toks:=s.toks+1 }) (PySem.W.looks_clsIn X hc) ?_))))));rw[hd'];refine ak (a:=some dx) (aa (ak (aa ?_)));refine wpAny_nsSet1 (s:={ s with toks:=s.toks+1 }) I.ns λh' hn2 hs2=>?_;obtain⟨oD,esD,epD,hoD,hdD,hcD⟩:=hn2.count (m9 name v hw);refine aa (wpAny_lookBehind hoD (by rw[hdD]; exact pastItsLine_dict (aJ hcD (by rw[aU]; lia))) ?_);exact ak (h _ ⟨(hs2.2 _ (cm I.ne)).trans I.obj,hn2,I.ne⟩ hs2)

theorem zVd{R:Result->ai->Prop}{vs:List ag}{kw:List (aA×ag)}(X:K.In s.heap)(hm:kP K C=true)
  (hi:cu K (.ref C) "__init__" = some (some (.ref f))) (hf:PySem.W.typeIn K (.ref f)=some (.type "function"))
  (h:codeAny (model prog w) (A.under (.builtin "type.__call__" ⟨.ref C::vs,kw⟩)) (.call (.ref f) ⟨.ref (s.heap.objs.size+1)::vs,kw⟩) (PySem.W.InitBack (s.heap.objs.size+1) R)
   { s with heap:=(s.heap.push cA).push (dj C s.heap.objs.size) }) :
  codeAny (model prog w) A (.call (.ref C) ⟨vs,kw⟩) R s:=by
 obtain⟨hh,g,d,t,os⟩:=s;exact PySem.W.make_core (PySem.W.makes_of X hm) (PySem.W.looks_findIn X hi) (λself=>PySem.W.bind_fn X self hf) (.inl rfl) h
end

def zE9(f:aA)(v:V):List (aA×V)->List (aA×V)
 | []=>[(f,v)]
 | (g,x)::r=>if g=f then(g,v)::r else(g,x)::zE9 f v r
theorem zGn(f g:aA)(v:V):∀ fs:List (aA×V),(zE9 f v fs).lookup g=if g=f then some v else fs.lookup g
 | []=>by
  show bF g [(f,v)]=_;by_cases h:g=f
  ·have hb:(g == f)=true:=beq_iff_eq.mpr h;simp only[bF,hb,if_pos h]
  ·have hb:(g == f)=false:=beq_eq_false_iff_ne.mpr h;simp only[bF,hb,if_neg h]
 | (k,x)::r=>by
  have ih:=zGn f g v r;rw[show zE9 f v ((k,x)::r)=(if k=f then(k,v)::r else(k,x)::zE9 f v r) from rfl];by_cases hk:k=f
  ·rw[if_pos hk];by_cases h:g=k
   ·have hb:(g == k)=true:=beq_iff_eq.mpr h;simp only[bF,hb,if_pos (h.trans hk)]
   ·have hb:(g == k)=false:=beq_eq_false_iff_ne.mpr h;simp only[bF,hb,if_neg (λe:g=f=>h (e.trans hk.symm))]
  ·rw[if_neg hk];by_cases h:g=k
   ·have hb:(g == k)=true:=beq_iff_eq.mpr h;simp only[bF,hb,if_neg (λe:g=f=>hk (h.symm.trans e))]
   ·have hb:(g == k)=false:=beq_eq_false_iff_ne.mpr h;simp only[bF,hb];exact ih
theorem zFl(f:aA)(v:V):∀ fs:List (aA×V),f∈(zE9 f v fs).map (·.1)/\∀ g,g∈fs.map (·.1)->g∈(zE9 f v fs).map (·.1)
 | []=>⟨by simp[zE9],λg h=>by simp at h⟩
 | (k,x)::r=>by
  obtain⟨i1,i2⟩:=zFl f v r;rw[show zE9 f v ((k,x)::r)=(if k=f then(k,v)::r else(k,x)::zE9 f v r) from rfl];by_cases hk:k=f
  ·rw[if_pos hk];subst hk;exact⟨by simp,λg h=>by simpa using h⟩
  ·rw[if_neg hk];refine⟨?_,λg h=>?_⟩
   ·rw[aQ];exact bE _ i1
   ·rw[aQ] at h ⊢;rcases aD.mp h with e | e
    ·exact aD.mpr (.inl e)
    ·exact bE _ (i2 g e)
theorem zFv(f:aA)(v:V):∀ fs:List (aA×V),(zE9 f v fs).length<=fs.length+1
 | []=>by simp[zE9]
 | (k,x)::r=>by
  have ih:=zFv f v r;rw[show zE9 f v ((k,x)::r)=(if k=f then(k,v)::r else(k,x)::zE9 f v r) from rfl];by_cases hk:k=f
  ·rw[if_pos hk,aU,aU]; lia
  ·rw[if_neg hk,aU,aU]; lia

theorem zJ3.some_of{v:V}{o:Option ag}(r:zJ3 (some v) o):∃ u,o=some u/\xE v u:=by
 cases o with
 | none=>exact(show False from r).elim
 | some u=>exact⟨u,U,r⟩
theorem zJ3.none_of{o:Option ag}(r:zJ3 none o):o=none:=by
 cases o with
 | none=>rfl
 | some u=>exact(show False from r).elim
theorem zRe{v:V}{u:ag}(r:xE v u):j9 u=true:=by
 cases v with
 | non=>cases (show u=bg from r); rfl
 | bl b=>cases (show u=h9 b from r); rfl
 | int i=>obtain⟨t,e⟩:=(show ∃ t,u=dH i t from r); cases e; rfl
 | str x=>obtain⟨t,e⟩:=(show ∃ t,u=cB x t from r); cases e; rfl
 | byt b=>obtain⟨t,e⟩:=(show ∃ t,u=kJ b t from r); cases e; rfl
 | flt b=>obtain⟨t,e⟩:=(show ∃ t,u=iS b t from r); cases e; rfl
 | ref a=>cases (show u=aI a from r); rfl
 | ty n=>cases (show u=kX n from r); rfl

section
variable{P:aK}{w:aT}{H H':Hp}{h h':aV}{a C dx:af}{fs fs':List (aA×V)}
theorem zJp(hok:HOk P w H h)(e:H a=some (.ins C dx fs)):∃ mA,zX5 h a dx C mA/\(∀ f,zJ3 (fs.lookup f) (mA f))/\jC mA (fs.map (·.1))/\fs.length<=1000/\H dx=some (.own a):=by
 obtain⟨d,z,ne,ob,mA,n,r,q⟩:=(show xD P w H h a (.ins C dx fs) from hok a _ e);exact⟨mA,⟨ob,n,ne⟩,r,q,z,d⟩
end

structure Cls(K:ae)(C:af):Prop where
 pg:fD K C mG=true
 hd:gN K C=true
 po:jF K C=true
 sa:cu K (.ref C) "__setattr__" = some (some (.builtin "object.__setattr__"))
theorem Cls.get{K:ae}{C:af}(c:Cls K C)(f:aA):fD K C f=true:=c.pg
def zBj(K:ae)(C:af)(f:aA):Prop:=cu K (.ref C) f=some none
theorem zBj.taker{K:ae}{C:af}{f:aA}(n:zBj K C f):ix K C f=some none:=by
 unfold ix;rw[show cu K (.ref C) f=some none from n];rfl
structure Con(K:ae)(C:af)(f:aA)(v:V)(u:ag):Prop where
 at_:cu K (.ref C) f=some (some u)
 rel:xE v u
 get:jG K u "__get__" = some none
 cp:PySem.W.copiedNames.contains f=false
structure zHn(K:ae)(C:af)(m:aA)(f:af):Prop where
 at_:cu K (.ref C) m=some (some (.ref f))
 fn:jE K (.ref f)=true
 kp:bV K (.ref f)=true

section
variable{X:Cx}{pins:List (af×cz)}{σ:St}{H:Hp}{s:ai}{a C dx:af}{fs:List (aA×V)}{f:aA}{v:V}{A:bD}{E:ag->ai->Prop}

theorem zP3{b:Bool}{Q:ag->ai->Prop}(I:Inv X pins σ H s)(e:H a=some (.ins C dx fs))(c:Cls X.K C)(n:zBj X.K C f)(l:fs.lookup f=some v)
  (h:∀ u s',Inv X pins σ H s'->xE v u->Q u s'):wpAny (model X.prog X.w) A (getAttr (.ref a) f b) Q E s:=by
 obtain⟨mA,O,r,_,_,_⟩:=zJp I.hok e;obtain⟨u,hu,ru⟩:=zJ3.some_of (v:=v) (o:=mA f) (by rw[<- l]; exact r f);exact zZh I.kIn O (c.get f) c.hd n hu (zRe ru) (h u _ (I.tok _) ru)

theorem zDu{m:aA}{g:af}{pl:lU Bool}{Q:ag×List ag->ai->Prop}(I:Inv X pins σ H s)(e:H a=some (.ins C dx fs))(c:Cls X.K C)(k:zHn X.K C m g)(l:fs.lookup m=none)
  (h:Q (.ref g,[.ref a]) s):wpAny (model X.prog X.w) A (getMethod (.ref a) m pl) Q E s:=by
 obtain⟨mA,O,r,_,_,_⟩:=zJp I.hok e;have hn:mA m=none:=zJ3.none_of (by rw[<- l]; exact r m);exact zVk I.kIn O (c.get m) k.at_ k.fn hn h

theorem zQa{y:V}{u:ag}{Q:Unit->ai->Prop}(I:Inv X pins σ H s)(e:H a=some (.ins C dx fs))(c:Cls X.K C)(n:zBj X.K C f)(hl:fs.length<1000)(ry:xE y u)
  (h:∀ s',Inv X pins σ (upd H a (.ins C dx (zE9 f y fs))) s'->Q () s'):wpAny (model X.prog X.w) A (setAttr (.ref a) f u) Q E s:=by
 obtain⟨mA,O,r,wi,_,ho⟩:=zJp I.hok e;have hz:(fs.map (·.1)).length<=sizeLine:=by rw[ac,sizeLine_eq]; lia
 refine zYp I.kIn O c.sa c.po n.taker c.hd wi hz λh' O' sb=>h _ ?_;have hd:∃ o,h'.get? dx=some o:=let ⟨o,_,_,e',_⟩:=O'.ns;⟨o,e'⟩;refine I.write (x:=a) (e:=dx) (by rw[e]; exact bv) (.inr ho) (λb q hb z=>(sb.2 b hb).trans z) hd ?_;refine⟨by rw[zH O.ne]; exact ho,?_,O.ne,O'.obj,_,O'.ns,λg=>?_,λg hg=>?_⟩
 ·have:=zFv f y fs; lia
 ·show zJ3 ((zE9 f y fs).lookup g) (if g=f then some u else mA g);rw[zGn];by_cases q:g=f
  ·rw[if_pos q,if_pos q]; exact ry
  ·rw[if_neg q,if_neg q]; exact r g
 ·by_cases q:g=f
  ·rw[q]; exact(zFl f y fs).1
  ·refine(zFl f y fs).2 g (wi g λz=>hg ?_);show(if g=f then some u else mA g)=none;rw[if_neg q]; exact z

theorem Inv.made(I:Inv X pins σ H s):Inv X pins σ (upd (upd H s.heap.objs.size (.own (s.heap.objs.size+1))) (s.heap.objs.size+1) (.ins C s.heap.objs.size []))
  { s with heap:=(s.heap.push cA).push (dj C s.heap.objs.size) }:=by
 have e1:(s.heap.push cA).get? s.heap.objs.size=some cA:=ap s.heap rfl;have e2:((s.heap.push cA).push (dj C s.heap.objs.size)).get? (s.heap.objs.size+1)=some (dj C s.heap.objs.size):=by
  have:=ap (s.heap.push cA) (o:=dj C s.heap.objs.size) rfl;rwa[c7] at this
 have e3:(s.heap.push cA).Ns s.heap.objs.size (λ_=>none):=⟨cA,#[],_,e1,rfl,(λe he=>absurd he (by simp)),λ_=>rfl⟩;have I1:=I.laid (a:=s.heap.objs.size) (o:=.own (s.heap.objs.size+1)) (h':=s.heap.push cA) (t':=s.toks) (λb u q=>ah _ q) (al _) ⟨_,e1⟩;refine I1.laid (a:=s.heap.objs.size+1) (o:=.ins C s.heap.objs.size []) (t':=s.toks) (λb u q=>ah _ q) (ie (c7 _ _)) ?_;have ne:s.heap.objs.size≠s.heap.objs.size+1:=aP (g9 _);refine⟨by rw[zH ne,zA],br _,ne,e2,λ_=>none,(Heap.Ns1.of_empty e3).at λo q=>ah _ q,λ_=>bv,λy hy=>absurd rfl hy⟩

theorem zYo{prog:aK}{w:aT}{env:fV}{e:bu}{f:aA}{pos:eS}{s:ai}{Q:ag->ai->Prop}(hb:attributeBase e f env (eval e env)=eval e env)
  (h:wpAny (model prog w) A (eval e env) (λo s₁=>wpAny (model prog w) A (getAttr o f true) Q E s₁) E s):wpAny (model prog w) A (eval (.Attribute e f pos) env) Q E s :=
 Attribute_any_ h (by rw[arm_eval_Attribute,hb])
end


section
variable{X:Cx}{pins:List (af×cz)}{σ:St}{H:Hp}{s:ai}{A:bD}{E:ag->ai->Prop}{Q:ag->ai->Prop}{c:ag}{b:Bool}
inductive TyOf(K:ae)(H:Hp):V->ag->Prop where
 | non:TyOf K H .non (.type "NoneType")
 | bl (x:Bool):TyOf K H (.bl x) (.type "bool")
 | int (i:Int):TyOf K H (.int i) (.type "int")
 | str (x:aA):TyOf K H (.str x) (.type "str")
 | flt (x:UInt64):TyOf K H (.flt x) (.type "float")
 | lst {a:af} {xs:List V} (e:H a=some (.lst xs)):TyOf K H (.ref a) (.type "list")
 | frz {a:af} {o:cz} {xs:List V} (e:H a=some (.frz o (.lst xs))):TyOf K H (.ref a) (.type "list")
 | tup {a:af} {xs:List V} (e:H a=some (.tup xs)):TyOf K H (.ref a) (.type "tuple")
 | dK {a:af} {kvs:List (Key×V)} (e:H a=some (.dK kvs)):TyOf K H (.ref a) (.type "dict")
 | dT {a:af} {kvs:List (List Key×V)} (e:H a=some (.dT kvs)):TyOf K H (.ref a) (.type "dict")
 | ins {a C dx:af} {fs:List (aA×V)} (e:H a=some (.ins C dx fs)) (cl:Cls K C) (ha:cu K (.ref C) "__class__" = some (some (.builtin "object.__class__")))
   (hn:jG K (.builtin "object.__class__") "__get__" = some (some (.builtin "getset_descriptor.__get__"))) (htk:PySem.W.takesIn K (.builtin "object.__class__")=some true)
   (hm:PySem.W.mroIn K C (.type "object")=some true):TyOf K H (.ref a) (.ref C)
theorem zRk{x:V}{u t:ag}(I:Inv X pins σ H s)(rx:xE x u)(ty:TyOf X.K H x t)(e:cJ X.K t c=some b)(h:∀ tk,Q (.bool b) { s with toks:=tk }) :
  wpAny (model X.prog X.w) A (call (.builtin "isinstance") [u,c]) Q E s:=by
 cases ty with
 | non=>cases (show u=bg from rx); exact b7 PySem.W.kitx_none I.kIn bv e (λz=>nomatch z) h
 | bl y=>cases (show u=h9 y from rx); exact b7 PySem.W.kitx_bool I.kIn bv e (λz=>nomatch z) h
 | int i=>obtain⟨t,q⟩:=(show ∃ t,u=dH i t from rx); cases q; exact b7 PySem.W.kitx_int I.kIn bv e (λz=>nomatch z) h
 | str y=>obtain⟨t,q⟩:=(show ∃ t,u=cB y t from rx); cases q; exact b7 PySem.W.kitx_str I.kIn bv e (λz=>nomatch z) h
 | flt y=>obtain⟨t,q⟩:=(show ∃ t,u=iS y t from rx); cases q; exact b7 PySem.W.kitx_float I.kIn bv e (λz=>nomatch z) h
 | @lst a xs ea =>
  cases (show u=aI a from rx);obtain⟨_,_,n,_,h1⟩:=(show xD X.prog X.w H s.heap a (.lst xs) from I.hok a _ ea);exact b7 jH I.kIn ⟨_,h1,rfl⟩ e (λz=>nomatch z) h
 | @frz a ob xs ea =>
  cases (show u=aI a from rx);obtain⟨_,_,_,n,_,h1⟩:=(show xD X.prog X.w H s.heap a (.frz ob (.lst xs)) from I.hok a _ ea);exact b7 jH I.kIn ⟨_,h1,rfl⟩ e (λz=>nomatch z) h
 | @tup a xs ea =>
  cases (show u=aI a from rx);obtain⟨_,_,_,p⟩:=(show xD X.prog X.w H s.heap a (.tup xs) from I.hok a _ ea);obtain⟨o,h1,h2,_⟩:=p;exact b7 PySem.W.kitx_tuple I.kIn ⟨o,h1,h2⟩ e (λz=>nomatch z) h
 | @dK a kvs ea =>
  cases (show u=aI a from rx);obtain⟨_,_,vs,_,p⟩:=(show xD X.prog X.w H s.heap a (.dK kvs) from I.hok a _ ea);obtain⟨o,es,ep,h1,h2,_⟩:=p;exact b7 jI I.kIn ⟨o,h1,h2.1⟩ e (λz=>nomatch z) h
 | @dT a kvs ea =>
  cases (show u=aI a from rx);obtain⟨_,_,xs,_,o,es,ep,h1,h2,_⟩:=(show xD X.prog X.w H s.heap a (.dT kvs) from I.hok a _ ea);exact b7 jI I.kIn ⟨o,h1,h2.1⟩ e (λz=>nomatch z) h
 | @ins a C dx fs ea cl ha hn htk hm =>
  cases (show u=aI a from rx);obtain⟨mA,O,_⟩:=zJp I.hok ea;obtain⟨od,J,_⟩:=O.look;exact b7 (PySem.W.kitx_own (cl.get _) cl.hd ha hn htk hm) I.kIn J e (λz=>nomatch z) h
end
end L2

namespace L2
open PySem PySem.Spec PyProof.Rows

structure qO(k:Nat)(A:bD):Prop where
 hd:A.handled=none
 dp:A.depth+3*k+5<recursionLimit
 un:A.units+16*k+200<cLine
 gd:A.guards=some []
theorem qO.mono{j k:Nat}{A:bD}(r:qO k A)(h:j<=k):qO j A:=⟨r.hd,by have:=r.dp; lia,by have:=r.un; lia,r.gd⟩
theorem qO.deeper{k:Nat}{A:bD}(r:qO (k+1) A)(env:fV):qO k (A.deeper env) :=
 ⟨r.hd,by have:=r.dp; show A.depth+1+3*k+5<_; lia,by have:=r.un; show A.units+3+16*k+200<_; lia,r.gd⟩
theorem zQp{A:bD}{C:af}{us:List ag}{kw:List (aA×ag)} : (A.under (.builtin "type.__call__" ⟨.ref C::us,kw⟩)).depth=A.depth+1:=by
 first | rfl | simp[ig,Code.weight,Code.isCreation,mL,Code.isCaller,mU,jJ,guardIds]
theorem zPr{A:bD}{C:af}{us:List ag}{kw:List (aA×ag)} : (A.under (.builtin "type.__call__" ⟨.ref C::us,kw⟩)).units=A.units+1:=by
 first | rfl | simp[ig,Code.cUnits,mU,jJ]
theorem qO.make{k:Nat}{A:bD}(r:qO (k+1) A)(C:af)(us:List ag)(kw:List (aA×ag)):qO k (A.under (.builtin "type.__call__" ⟨.ref C::us,kw⟩)) :=
 ⟨r.hd,by have:=r.dp; rw[zQp]; lia,by have:=r.un; rw[zPr]; lia,by first | exact r.gd | (rw[ig]; simpa [pushGuards,Code.guards,mL,guardIds] using r.gd)⟩
theorem qO.depth{k:Nat}{A:bD}(r:qO k A):A.depth<recursionLimit:=by have:=r.dp; lia
theorem qO.units{k:Nat}{A:bD}(r:qO k A):A.units+64<cLine:=by have:=r.un; lia
theorem qO.units0{k:Nat}{A:bD}(r:qO k A):A.units<cLine:=by have:=r.un; lia

def zW6:TA:=λ_ H Q=>Q [] H
def zLu(ta:TE)(tr:TA):TA:=λσ H Q=>ta σ H λx H1=>tr σ H1 λxs H2=>Q (x::xs) H2
section
variable{X:Cx}{e:bu}{es:List bu}{te:TE}{t:TA}{pos:eS}
theorem zI:PA X [] zW6:=λ_ _ _ _ H Q I h=>jK ⟨[],H,I,.nil,h⟩
theorem zB(ha:PE X e te)(hr:PA X es t)(hs:starEach (e::es) X.env=(false,eval e X.env)::starEach es X.env:=by rfl):PA X (e::es) (zLu te t):=by
 intro pos pins s σ H Q I h;rw[hs];show wpAny _ _ (spliced ((false,eval e X.env)::backTo pos (starEach es X.env))) _ _ s;refine jr (thn (ha pins s σ H _ I h) λu s1 ⟨x,H1,I1,r1,q1⟩=>?_);exact thn (hr pos pins s1 σ H1 _ I1 q1) λus s2 ⟨xs,H2,I2,r2,q2⟩=>⟨x::xs,H2,I2,.cons r1 r2,q2⟩

def tTup(t:TA):TE:=λσ H Q=>t σ H λxs H1=>xs.length<=sizeLine/\∀ p,H1 p=none->Q (.ref p) (upd H1 p (.tup xs))
def ye3(t:TA):TE:=λσ H Q=>t σ H λxs H1=>xs.length<=sizeLine/\∀ p,H1 p=none->Q (.ref p) (upd H1 p (.lst xs))
theorem yX{x1}(h:PA X es t):PE X (.Tuple es x1 pos) (tTup t):=by
 intro pins s σ H Q I hq;refine wpAny_Tuple_spliced (thn (h pos pins s σ H _ I hq) λus s1 ⟨xs,H1,I1,r,z,q⟩=>⟨by rw[<- r.length]; exact z,?_⟩);have hf:H1 s1.heap.objs.size=none:=I1.hok.fresh (al _);refine⟨.ref s1.heap.objs.size,upd H1 s1.heap.objs.size (.tup xs),I1.laid (t':=s1.toks) (λb u e=>ah _ e) (al _) ?_,U,q _ hf⟩;exact⟨z,us,r,⟨_,ap _ rfl,U,_,U⟩⟩
theorem tI(h:PA X es t):PE X (.List es pos) (ye3 t):=by
 intro pins s σ H Q I hq;refine wpAny_List_spliced (thn (h pos pins s σ H _ I hq) λus s1 ⟨xs,H1,I1,r,z,q⟩=>⟨by rw[<- r.length]; exact z,?_⟩);have hf:H1 s1.heap.objs.size=none:=I1.hok.fresh (al _);refine⟨.ref s1.heap.objs.size,upd H1 s1.heap.objs.size (.lst xs),I1.laid (t':=s1.toks) (λb u e=>ah _ e) (al _) ?_,U,q _ hf⟩;exact⟨z,us,0,r,ap _ rfl⟩
end

abbrev Sp:=List V->Hp->VK->XK->Prop
abbrev CXT:=List fV->Hp->ai->XK->ag->ai->Prop

structure zUk(P:aK)(w:aT)(K:ae)(mg:aA->Option ag)(base:aV)(A:bD)(outer:List fV)(s:ai)(H:Hp):Prop where
 frames:A.frames=some outer
 mod:Mod K mg base
 bs:∀ b o,base.get? b=some o->s.heap.get? b=some o/\H b=none
 bsz:base.objs.size<=s.heap.objs.size
 funs:s.heap.FunFrames base outer
 frf:∀ b∈frs outer,H b=none
 hok:HOk P w H s.heap
 bare:f8 s.gens
def CE(outer:List fV)(P:aK)(w:aT)(H:Hp)(s:ai)(Q:VK)(u:ag)(s':ai):Prop :=
 ∃ v H',s'.os=s.os/\f8 s'.gens/\Un (frs outer) [] H H' s.heap s'.heap/\HOk P w H' s'.heap/\xE v u/\Q v H'
def CR(CX:CXT)(outer:List fV)(P:aK)(w:aT)(H:Hp)(s:ai)(Q:VK)(E:XK)(r:Result)(s':ai):Prop :=
 match r with
 | .ok (.ret u)=>CE outer P w H s Q u s'
 | .ok _=>False
 | .error e=>CX outer H s E e s'
structure yQ(P:aK)(w:aT)(K:ae)(mg:aA->Option ag)(base:aV)(CX:CXT)(k:Nat)(f:af)(fd:bP)(ps:List aA)(sp:Sp):Prop where
 len:∀ vs H Q E,sp vs H Q E->vs.length=ps.length
 run:∀(A:bD)(outer:List fV)(s:ai)(H:Hp)(args:Args)(us:List ag)(vs:List V)(Q:VK)(E:XK),qO k A->zUk P w K mg base A outer s H->ii s fd args (ps.zip us)->yV vs us->sp vs H Q E ->
  codeAny (model P w) A (.call (.ref f) args) (CR CX outer P w H s Q E) s
theorem zUk.make{P:aK}{w:aT}{K:ae}{mg:aA->Option ag}{base:aV}{A:bD}{outer:List fV}{s:ai}{H:Hp}(e:zUk P w K mg base A outer s H)(C:af)(us:List ag)(kw:List (aA×ag)) :
  zUk P w K mg base (A.under (.builtin "type.__call__" ⟨.ref C::us,kw⟩)) outer s H:=⟨by first | exact e.frames | (simpa [ig,Code.envs,jJ,pushEnvs] using e.frames),e.mod,e.bs,e.bsz,e.funs,e.frf,e.hok,e.bare⟩
section
variable{X:Cx}{pins:List (af×cz)}{σ:St}{H:Hp}{s s':ai}
theorem Inv.env0(I:Inv X pins σ H s):zUk X.prog X.w X.K X.mg X.base X.A X.stack s H :=
 ⟨I.ok.frames,I.ok.mod,I.bs,aJ I.ok.bsz I.sz,I.stack,I.stkFree,I.hok,I.bare⟩
theorem Inv.after{Q:VK}{u:ag}(I:Inv X pins σ H s)(h:CE X.stack X.prog X.w H s Q u s'):EP X pins σ Q u s':=by
 obtain⟨v,H',os,bare,un,hok,r,q⟩:=h;obtain⟨hh,g,d,t,os'⟩:=s';obtain rfl:os'=s.os:=os;exact⟨v,H',I.call (h':=hh) (g':=g) (d':=d) (t':=t) (ch:=[]) un hok bare (λb z=>absurd z (by simp)),r,q⟩
end

def zQ1(sp:Sp)(dvs:List V)(E:XK)(t:TA):TE:=λσ H Q=>t σ H λvs H1=>sp (vs++dvs) H1 Q E
def zC6(K:ae)(fd:bP)(ps:List aA)(ds:List ag):Prop :=
 ∀(s:ai)(us:List ag),K.In s.heap->(us++ds).length=ps.length->ii s fd ⟨us,[]⟩ (ps.zip (us++ds))
theorem zC6.all{K:ae}{fd:bP}{ps:List aA}(h:∀ us:List ag,us.length=ps.length->bindArgs fd ⟨us,[]⟩=pure (ps.zip us)):zC6 K fd ps []:=λs us _ hl=>by
 rw[dk] at hl ⊢;exact .of_eq (h us hl)

def zLe(CX:CXT)(X:Cx)(E:XK):Prop:=∀(pins:List (af×cz))(σ:St)(H:Hp)(s:ai)(e:ag)(s':ai),Inv X pins σ H s->CX X.stack H s E e s'->X.xe e s'

section
variable{X:Cx}{CX:CXT}{k:Nat}{f C:af}{fd:bP}{ps:List aA}{sp:Sp}{dvs:List V}{ds:List ag}{E:XK}{x m:aA}{p pos apos:eS}{e o:bu}{es:List bu}{ta:TE}{t:TA}

theorem zO4{pins:List (af×cz)}{σ:St}{H:Hp}{s:ai}{Q:VK}{us:List ag}{vs:List V}(F:yQ X.prog X.w X.K X.mg X.base CX k f fd ps sp)(hr:qO k X.A)(hb:zC6 X.K fd ps ds)(hd:yV dvs ds)(hx:zLe CX X E)
  (I:Inv X pins σ H s) (r:yV vs us) (h:sp (vs++dvs) H Q E):wpAny (model X.prog X.w) X.A (call (.ref f) us) (EP X pins σ Q) X.xe s:=by
 have r2:yV (vs++dvs) (us++ds):=r.append hd;have hl:(us++ds).length=ps.length:=by rw[<- r2.length]; exact F.len _ _ _ _ h
 refine gy (codeAny_mono (F.run X.A X.stack s H ⟨us,[]⟩ (us++ds) (vs++dvs) Q E hr I.env0 (hb s us I.kIn hl) r2 h) λr s' hq=>?_);cases r with
 | error e=>exact hx pins σ H s e s' I hq
 | ok fl =>
  cases fl with
  | ret u=>exact I.after hq
  | next=>exact bA hq
  | brk=>exact bA hq
  | cont=>exact bA hq

theorem zYc(F:yQ X.prog X.w X.K X.mg X.base CX k f fd ps sp)(hr:qO k X.A)(hg:Gl X x)(hm:X.mg x=some (.ref f))(hk:bV X.K (.ref f)=true)(hb:zC6 X.K fd ps ds)(hd:yV dvs ds)(hx:zLe CX X E)
  (ha:PA X (e::es) t) (hdb:(x ==("__debug__" : aA))=false:=by decide) (he:starEach (e::es) X.env=(false,eval e X.env)::starEach es X.env:=by rfl) (hpl:(backTo pos (starEach es X.env)).any (·.1)=false:=by rfl) :
  PE X (.Call (.Name x p) (e::es) [] pos) (zQ1 sp dvs E t):=by
 intro pins s σ H Q I h;refine cU (sO I hg hm ?_ hdb);refine dy (h₀:=X.base) I.ok.mod.kin hk (thn (ha pos pins s σ H _ I h) λus s1 ⟨vs,H1,I1,r,q⟩=>⟨I1.kIn,?_⟩) he hpl;exact zO4 F hr hb hd hx I1 r q
theorem zUw(F:yQ X.prog X.w X.K X.mg X.base CX k f fd ps sp)(hr:qO k X.A)(hg:Gl X x)(hm:X.mg x=some (.ref f))(hk:bV X.K (.ref f)=true)(hb:zC6 X.K fd ps ds)(hd:yV dvs ds)(hx:zLe CX X E)
  (hdb:(x ==("__debug__" : aA))=false:=by decide):PE X (.Call (.Name x p) [] [] pos) (zQ1 sp dvs E zW6):=by
 intro pins s σ H Q I h;refine cU (sO I hg hm ?_ hdb);exact fX I.kIn hk (zO4 (us:=[]) F hr hb hd hx I .nil h)

structure Mk(K:ae)(C f:af):Prop where
 makes:kP K C=true
 init:cu K (.ref C) "__init__" = some (some (.ref f))
 fn:jE K (.ref f)=true
 kp:bV K (.ref C)=true

theorem zWg{pins:List (af×cz)}{σ:St}{H:Hp}{s:ai}{Q:VK}{us:List ag}{vs:List V}(M:Mk X.K C f)(F:yQ X.prog X.w X.K X.mg X.base CX k f fd ps sp)(hr:qO (k+1) X.A)(hb:zC6 X.K fd ps ds)(hd:yV dvs ds)
  (hx:zLe CX X E) (I:Inv X pins σ H s) (r:yV vs us)
  (h:∀ x dx,H x=none->H dx=none->dx≠x->sp (.ref x::(vs++dvs)) (upd (upd H dx (.own x)) x (.ins C dx [])) (λv H2=>v=.non/\Q (.ref x) H2) E) :
  wpAny (model X.prog X.w) X.A (call (.ref C) us) (EP X pins σ Q) X.xe s:=by
 have hq:=h (s.heap.objs.size+1) s.heap.objs.size (I.hok.fresh (dZ _)) (I.hok.fresh (al _)) (aP (g9 _));have I2:=Inv.made (C:=C) I;have r2:yV (V.ref (s.heap.objs.size+1)::(vs++dvs)) (aI (s.heap.objs.size+1)::(us++ds)):=.cons rfl (r.append hd);have hl:(aI (s.heap.objs.size+1)::us++ds).length=ps.length:=by
  have e:=r2.length;rw[F.len _ _ _ _ hq] at e;exact e.symm
 refine gy (zVd (f:=f) I.kIn M.makes M.init (beq_iff_eq.mp M.fn) (codeAny_mono (F.run _ X.stack _ _ ⟨aI (s.heap.objs.size+1)::us,[]⟩ (aI (s.heap.objs.size+1)::(us++ds)) _ _ E (hr.make C us [])
  (I2.env0.make C us []) (hb _ (aI (s.heap.objs.size+1)::us) I2.kIn hl) r2 hq) λr s' hq'=>?_))
 cases r with
 | error e=>exact hx pins σ _ _ e s' I2 hq'
 | ok fl =>
  cases fl with
  | ret u =>
   obtain⟨v,H',I3,rv,ev,q3⟩:=I2.after hq';subst ev;exact⟨rv,⟨V.ref (s.heap.objs.size+1),H',I3,U,q3⟩⟩
  | next=>exact bA hq'
  | brk=>exact bA hq'
  | cont=>exact bA hq'
end

section
variable{X:Cx}{CX:CXT}{k:Nat}{f C:af}{fd:bP}{ps ks:List aA}{sp:Sp}{E:XK}{x m:aA}{p pos apos kpos:eS}{e o:bu}{es:List bu}{kws:List gO}{te ta:TE}{t tk:TA}{nm:Option aA}
structure KBinds(K:ae)(fd:bP)(ps ks:List aA)(g:List ag->List ag->List ag)(gV:List V->List V->List V):Prop where
 to:∀(s:ai)(us ws:List ag),K.In s.heap->(g us ws).length=ps.length->ii s fd ⟨us,ks.zip ws⟩ (ps.zip (g us ws))
 rel:∀{vs:List V}{us:List ag}{zs:List V}{ws:List ag},yV vs us->yV zs ws->yV (gV vs zs) (g us ws)
variable{g:List ag->List ag->List ag}{gV:List V->List V->List V}
end

structure zO(N P:List aA)(sc:fg):Prop where
 kind:sc.kind=.function
 co:sc.isCoroutine=false
 gen:sc.isGenerator=false
 nd:N.Nodup
 pre:N.take P.length=P
 par:∀ x∈P,sc.names.lookup x=some .local\/sc.names.lookup x=some .cell
 nofree:∀ y∈sc.names,y.2≠.free

theorem zLj{kindOf:aA->Option eF}{x:aA} : ∀{binds:List (aA×ag)}{m:aA->Option ag},(∀ v,(x,v) ∉ binds)->bindL kindOf binds m x=m x
 | [],_,_=>rfl
 | (n,v)::r,m,h=>by
  unfold bindL;rw[zLj λw hw=>h w (bE _ hw)];split
  ·have:x≠n:=by rintro rfl; exact h v cr
   simp[this]
  ·rfl
theorem zK7{kindOf:aA->Option eF}{x:aA} : ∀{binds:List (aA×ag)}{m:aA->Option ag},(∀ v,(x,v) ∉ binds)->bindC kindOf binds m x=m x
 | [],_,_=>rfl
 | (n,v)::r,m,h=>by
  unfold bindC;rw[zK7 λw hw=>h w (bE _ hw)];split
  ·rfl
  ·have:x≠n:=by rintro rfl; exact h v cr
   simp[this]
theorem zMq{kindOf:aA->Option eF}{x:aA}{v:ag} : ∀{P:List aA}{vs:List ag}{i:Nat}{m:aA->Option ag},P.Nodup->P[i]?=some x->vs[i]?=some v->kindOf x=some .local ->
  bindL kindOf (P.zip vs) m x=some v
 | [],_,_,_,_,h,_,_=>by simp at h
 | _::_,[],_,_,_,_,h,_=>by simp at h
 | p::P,w::vs,0,m,nd,h1,h2,hk=>by
  simp at h1 h2; subst h1; subst h2;show bindL kindOf ((p,w)::P.zip vs) m p=_;unfold bindL;rw[zLj λv hv=>(d7.mp nd).1 (fO hv).1,if_pos hk];simp
 | p::P,w::vs,i+1,m,nd,h1,h2,hk=>by
  show bindL kindOf ((p,w)::P.zip vs) m x=_;unfold bindL;exact zMq (i:=i) (d7.mp nd).2 (by simpa using h1) (by simpa using h2) hk
theorem zKp{kindOf:aA->Option eF}{x:aA}{v:ag} : ∀{P:List aA}{vs:List ag}{i:Nat}{m:aA->Option ag},P.Nodup->P[i]?=some x->vs[i]?=some v->kindOf x≠some .local ->
  bindC kindOf (P.zip vs) m x=some v
 | [],_,_,_,_,h,_,_=>by simp at h
 | _::_,[],_,_,_,_,h,_=>by simp at h
 | p::P,w::vs,0,m,nd,h1,h2,hk=>by
  simp at h1 h2; subst h1; subst h2;show bindC kindOf ((p,w)::P.zip vs) m p=_;unfold bindC;rw[zK7 λv hv=>(d7.mp nd).1 (fO hv).1,if_neg hk];simp
 | p::P,w::vs,i+1,m,nd,h1,h2,hk=>by
  show bindC kindOf ((p,w)::P.zip vs) m x=_;unfold bindC;exact zKp (i:=i) (d7.mp nd).2 (by simpa using h1) (by simpa using h2) hk

def start(N:List aA)(vs:List V):St:=vs.map some++bz (N.length-vs.length) none

def cxOf(CX:CXT)(P:aK)(w:aT)(K:ae)(mg:aA->Option ag)(base:aV)(N:List aA)(qual:aA)(scope:fg)(f:af)(cd:ag)(A:bD)(outer:List fV)(s:ai)(H:Hp)(E:XK):Cx where
 prog:=P
 w:=w
 K:=K
 mg:=mg
 base:=base
 A:=A.deeper (envOfC qual scope s.heap.objs.size f cd)
 N:=N
 s₀:=s
 H₀:=H
 env:=envOfC qual scope s.heap.objs.size f cd
 outer:=outer
 stack:=envOfC qual scope s.heap.objs.size f cd::outer
 ex:=[]
 calm:=true
 fn:=λ_=>true
 pn:=[]
 xe:=λe s'=>wpAny (model P w) (A.deeper (envOfC qual scope s.heap.objs.size f cd)) (leaving (envOfC qual scope s.heap.objs.size f cd) e) (λ_ s''=>CX outer H s E e s'') (λe' s''=>CX outer H s E e' s'') s'

theorem zPk{sc:fg}{n:Nat}{x:aA}(h:sc.names.lookup x=some .cell):∃ c,(cellsFrom n sc.names []).lookup x=some c:=by
 have q:=fo sc.names n [] (.inl h);exact aL.mp q

theorem zJ6{CX:CXT}{P:aK}{w:aT}{K:ae}{mg:aA->Option ag}{base:aV}{N ps:List aA}{qual:aA}{scope:fg}{f:af}{cd:ag}{A:bD}{outer:List fV}{s s1:ai}{H:Hp}{E:XK}{us:List ag}{vs:List V}
  (S:zO N ps scope) (hd:A.handled=none) (e0:zUk P w K mg base A outer s H) (hl:vs.length=ps.length) (r:yV vs us)
  (x:InCallC s s.heap.objs.size (bindL (envOfC qual scope s.heap.objs.size f cd).kindOf (ps.zip us) λ_=>none) (cellsFrom (s.heap.objs.size+1) scope.names []) (bindC (envOfC qual scope s.heap.objs.size f cd).kindOf (ps.zip us) λ_=>none) s1) :
  Inv (cxOf CX P w K mg base N qual scope f cd A outer s H E) [] (start N vs) H s1:=by
 have hpl:ps.length<=N.length:=by have:=congrArg cN S.pre; rw[cV] at this; lia
 obtain⟨h1,tk,rfl,hk⟩:=x.done;have noA:∀ b:af,b ∉ (cxOf CX P w K mg base N qual scope f cd A outer s H E).ex:=λb z=>absurd (show b∈([]:List af) from z) (by simp);refine⟨⟨e0.mod,S.kind,U,U,al _,λy z c h1 h2=>?_,λy hy=>?_,λy c _ h=>?_,λ_=>hd,Around.frames_deeper e0.frames,.inr ⟨U,U⟩,λb z=>absurd z (noA b),e0.bs,e0.bsz,λb _ _=>noA b,λb z=>absurd z (noA b),e0.funs,e0.frf⟩,
  rfl,e0.bare,Un.kept hk,⟨_,x.toInCall.ns,λi y v h1 h2 h3=>?_⟩,λy c h=>⟨_,x.cell y c h⟩,e0.hok.fresh (al _),λy c h=>?_,λp hp=>absurd (show p∈([]:List (af×cz)) from hp) (by simp),e0.hok.kept hk,?_⟩
 ·exact name_of_addr x.apart (dn h1) (dn h2)
 ·have hy:scope.names.lookup y=some .cell\/scope.names.lookup y=some .free:=hy;rcases hy with hy | hy
  ·exact zPk hy
  ·exact absurd rfl (S.nofree _ (dn hy))
 ·exact dL (x.above y c (dn h))
 ·have hi:i<vs.length:=by
   unfold start at h2;by_cases hi:i<vs.length
   ·exact hi
   ·rw[cK (by simpa using hi)] at h2;rw[fh] at h2;split at h2 <;> cases h2
  have ha:vs[i]?=some v:=by
   unfold start at h2;rw[dF (by simpa using hi),av] at h2;cases e:vs[i]? with
   | none=>rw[e] at h2; cases h2
   | some a=>rw[e] at h2; cases h2; rfl
  obtain⟨u,hu,rv⟩:=r.get ha;have hp:ps[i]?=some y:=by
   rw[<- S.pre,List.getElem?_take_of_lt (by lia)]; exact h1
  have ndP:ps.Nodup:=by rw[<- S.pre]; exact S.nd.sublist (List.take_sublist _ _)
  exists u,rv;rcases S.par y (aN hp) with k | k
  ·exact .inl ⟨k,zMq ndP hp hu k⟩
  ·obtain⟨c,e⟩:=zPk (n:=s.heap.objs.size+1) k;refine .inr ⟨.inl k,c,e,?_⟩;have q:=x.cell y c e;rw[zKp ndP hp hu (by show scope.names.lookup y≠_; rw[k]; decide)] at q;exact q
 ·exact e0.hok.fresh (dL (x.above y c (dn h)))
 ·unfold start;show _=N.length;rw[aF,ac,cR];lia

theorem yd8{CX:CXT}{P:aK}{w:aT}{K:ae}{mg:aA->Option ag}{base:aV}{k:Nat}{f:af}{name qual:aA}{params:Arguments}{body:List bC}{scope:fg}{dV kV doc pm cdv ct oc:ag}{an od:Option af}
  {osl:Array (Option ag)} {N ps:List aA} {sp:Sp} (lk:K.lookup f=some ⟨oc,od,.func (bN name qual params body scope dV kV doc pm an cdv ct),osl⟩) (hcd:eG K cdv qual=true) (S:zO N ps scope)
  (len:∀ vs H Q E,sp vs H Q E->vs.length=ps.length)
  (hbody:∀(A:bD)(outer:List fV)(s:ai)(H:Hp)(vs:List V)(Q:VK)(E:XK),qO k (A.deeper (envOfC qual scope s.heap.objs.size f cdv))->sp vs H Q E ->
   ∃ t,PSs (cxOf CX P w K mg base N qual scope f cdv A outer s H E) body t/\t { nx:=λ_ H'=>Q .non H',rt:=Q } (start N vs) H) :
  yQ P w K mg base CX (k+1) f (bN name qual params body scope dV kV doc pm an cdv ct) ps sp:=by
 refine⟨len,λA outer s H args us vs Q E hr e0 hb r hsp=>?_⟩;have hl:=len _ _ _ _ hsp;have KX:K.In s.heap:=e0.mod.kin.keeps λb o e=>(e0.bs b o e).1;have lim:s.heap.NoLimit:=e0.mod.nolimit.keeps λb o e=>(e0.bs b o e).1;have hkind:∀ y∈ps.zip us,scope.names.lookup y.1=some .local\/(scope.names.lookup y.1=some .cell/\((cellsFrom (s.heap.objs.size+1) scope.names []).lookup y.1).isSome=true):=λ⟨n,v⟩ hy=>by
  rcases S.par n (fO hy).1 with q | q
  ·exact .inl q
  ·exact .inr ⟨q,fo _ _ _ (.inl q)⟩
 refine codeAny_call_function hr.depth (KX _ _ lk) rfl S.co S.gen rfl (js KX hcd) (hb _ _ _ _ ?_);refine gA S.kind hkind λenv he s1 x=>?_;subst he;refine⟨lim.keeps x.toInCall.keep,codeAny_func ?_⟩;obtain⟨t,ht,hq⟩:=hbody A outer s H vs Q E (hr.deeper _) hsp;have I:Inv (cxOf CX P w K mg base N qual scope f cdv A outer s H E) [] (start N vs) H s1:=zJ6 S hr.hd e0 hl r x;refine cT (ht [] s1 (start N vs) H _ I hq) (λfl s' hs=>?_) λe s' hs=>hs;have fin:∀{σ':St}{H':Hp}{v:V}{u:ag},Inv (cxOf CX P w K mg base N qual scope f cdv A outer s H E) [] σ' H' s'->xE v u->Q v H'->CE outer P w H s Q u s' :=
  λ{σ' H' v u} J rv q=>⟨v,H',J.os,J.bare,J.base,J.hok,rv,q⟩
 cases fl with
 | ret u =>
  obtain⟨v,σ',H',J,rv,q⟩:=hs;exact fin J rv q
 | next =>
  obtain⟨σ',H',J,q⟩:=hs;exact fin (v:=V.non) (u:=bg) J rfl q
 | brk =>
  obtain⟨_,_,_,q⟩:=hs;exact bA q
 | cont =>
  obtain⟨_,_,_,q⟩:=hs;exact bA q
end L2

namespace L2
open PySem PySem.Spec PyProof.Rows
section
variable{X:Cx}{x:aA}{p pos:eS}{e:bu}{es:List bu}{t:TA}{id T:String}{r:List V->Hp->VK->Prop}

def tCB(r:List V->Hp->VK->Prop)(t:TA):TE:=λσ H Q=>t σ H λvs H1=>r vs H1 Q
theorem zR(hc:uS X (.builtin id) r)(hg:Gl X x)(hm:X.mg x=none)(hv:bootBuiltins x=some (.builtin id))(ha:PA X (e::es) t)(hn:x ≠ "__name__" := by decide)(hdb:(x ==("__debug__" : aA))=false:=by decide)
  (he:starEach (e::es) X.env=(false,eval e X.env)::starEach es X.env:=by rfl) (hpl:(backTo pos (starEach es X.env)).any (·.1)=false:=by rfl):PE X (.Call (.Name x p) (e::es) [] pos) (tCB r t):=by
 intro pins s σ H Q I h;refine cU (zH9 I hg hm hv ?_ hn hdb);exact ka (thn (ha pos pins s σ H _ I h) λus s1 ⟨vs,H1,I1,r1,q1⟩=>hc pins s1 σ H1 vs us Q I1 r1 q1) he hpl
theorem xB(hc:uS X (.type T) r)(hg:Gl X x)(hm:X.mg x=none)(hv:bootBuiltins x=some (.type T))(ha:PA X (e::es) t)(hn:x ≠ "__name__" := by decide)(hdb:(x ==("__debug__" : aA))=false:=by decide)
  (he:starEach (e::es) X.env=(false,eval e X.env)::starEach es X.env:=by rfl) (hpl:(backTo pos (starEach es X.env)).any (·.1)=false:=by rfl):PE X (.Call (.Name x p) (e::es) [] pos) (tCB r t):=by
 intro pins s σ H Q I h;refine cU (zH9 I hg hm hv ?_ hn hdb);exact dq (thn (ha pos pins s σ H _ I h) λus s1 ⟨vs,H1,I1,r1,q1⟩=>hc pins s1 σ H1 vs us Q I1 r1 q1) he hpl
end
end L2

namespace HT
open PySem PyProof.Rows

def lexLt:List Int->List Int->Bool
 | [],[]=>false
 | [],_::_=>true
 | _::_,[]=>false
 | x::xs,y::ys=>if x=y then lexLt xs ys else decide (x<y)
section
open PySem.SeqAt
open PySem.AutoSeq1 (wpAny_loadPart')
open PySem.MeetsSeq PySem.MeetsSeq2 PySem.MeetsSeq3

end

section
variable{prog:aK}{w:aT}{A:bD}{E:ag->ai->Prop}{s:ai}

def sIx(n d:Nat):Option Int->Nat
 | none=>d
 | some v=>if v<0 then(v+(n:Int)).toNat else min v.toNat n
theorem sIx_nat(n d k:Nat):sIx n d (some (k:Int))=min k n:=by
 show(if (k:Int)<0 then((k:Int)+(n:Int)).toNat else min (k:Int).toNat n)=min k n;rw[if_neg (by lia),cg]
theorem yg4(n d:Nat)(hd:d<=n)(o:Option Int):sIx n d o<=n:=by
 cases o with
 | none=>exact hd
 | some v =>
  show(if v<0 then(v+(n:Int)).toNat else min v.toNat n)<=n;by_cases hv:v<0
  ·rw[if_pos hv]; lia
  ·rw[if_neg hv]; exact Nat.min_le_right _ _
theorem zTj(v:Int)(n d:Nat):(if v<0 then max (v+(n:Int)) 0 else min v (n:Int))=((sIx n d (some v):Nat):Int):=by
 show(if v<0 then max (v+(n:Int)) 0 else min v (n:Int))=(((if v<0 then(v+(n:Int)).toNat else min v.toNat n):Nat):Int);by_cases hv:v<0
 ·simp only[if_pos hv]; lia
 ·simp only[if_neg hv]; lia
theorem zQz(lo hi:Option Int)(n:Nat):eO lo hi 1 (n:Int)=(((sIx n 0 lo:Nat):Int),((sIx n n hi:Nat):Int)):=by
 have h1:¬ ((1:Int)<0):=by lia
 unfold eO;simp only[h1,if_false];refine jL ?_ ?_
 ·cases lo with
  | none=>rfl
  | some v=>exact zTj v n 0
 ·cases hi with
  | none=>rfl
  | some v=>exact zTj v n n
theorem zP1(i j:Nat):dG (i:Int) (j:Int) 1=j-i:=by
 unfold dG;have h1:(1:Int)>0:=by lia
 simp only[h1,if_true,Int.ediv_one];split <;> lia
theorem zHv{v:ag}{o:Option Int}{Q:Option Int->ai->Prop}(p:jt v o)(h:Q o s):wpAny (model prog w) A (kQ v) Q E s:=by
 cases p with
 | none=>exact slicePart_none h
 | int i t=>exact slicePart_int h
theorem zEv{sl:af}{vl vu:ag}{lo hi:Option Int}{n:Nat}{Q:Int×Int×Nat->ai->Prop}(hs:s.heap.IsSliceOf sl vl vu .none)(pl:jt vl lo)(pu:jt vu hi)
  (h:Q (((sIx n 0 lo:Nat):Int),1,sIx n n hi-sIx n 0 lo) s):wpAny (model prog w) A (gB (.ref sl) (pure (n:Int))) Q E s:=by
 obtain⟨os,hos,hcs,hds⟩:=id hs;unfold gB lR;refine aa (aa (bG hos hds (x:=vl) rfl (aa (bG hos hds (x:=vu) rfl (aa (bG hos hds (x:=.none) rfl (ak ?_)))))));refine aa (slicePart_none ?_);show wpAny _ _ (if ((1:Int) == 0)=true then _ else _) _ _ s;rw[if_neg (by decide)];refine aa (zHv pl (aa (zHv pu (aa (ak ?_)))));show wpAny _ _ (match eO lo hi 1 (n:Int) with | (lo,hi)=>pure (lo,(1:Int),dG lo hi 1)) _ _ s;rw[zQz lo hi n];show wpAny _ _ (pure (((sIx n 0 lo:Nat):Int),(1:Int),dG ((sIx n 0 lo:Nat):Int) ((sIx n n hi:Nat):Int) 1)) _ _ s;rw[zP1];exact ak h
theorem zV5(xs:Array ag)(i k:Nat):((bJ k).filterMap λ(m:Nat)=>xs[((i:Int)+(m:Int)*1).toNat]?).toArray=((xs.toList.drop i).take k).toArray:=by
 have e:(λ(m:Nat)=>xs[((i:Int)+(m:Int)*1).toNat]?)=λm=>xs[i+m]?:=by
  funext m
  have:((i:Int)+(m:Int)*1).toNat=i+m:=by lia
  rw[this]
 rw[e];have:=pick_run xs i k;rw[List.filterMap_map] at this;have e2:((λx=>xs[x]?) ∘ λx=>i+x)=λm=>xs[i+m]?:=rfl;rw[e2] at this;rw[this]

theorem getItem_tuple_cut{t sl:af}{items:Array ag}{vl vu:ag}{lo hi:Option Int}{Q:ag->ai->Prop}(ht:mz s.heap t items)(hs:s.heap.IsSliceOf sl vl vu .none)(pl:jt vl lo)(pu:jt vu hi)
  (hw:¬ (sIx items.size 0 lo=0/\sIx items.size items.size hi=items.size))
  (h:Q (.ref s.heap.objs.size) { s with heap:=s.heap.push { cls:=.type "tuple",data:=.seq ((items.toList.drop (sIx items.size 0 lo)).take (sIx items.size items.size hi-sIx items.size 0 lo)).toArray } })
  (hsz:items.size<=sizeLine):wpAny (model prog w) A (getItem (.ref t) (.ref sl)) Q E s:=by
 have htake:sizeOk (.seq ((items.toList.drop (sIx items.size 0 lo)).take (sIx items.size items.size hi-sIx items.size 0 lo)).toArray):=by
  show((items.toList.drop (sIx items.size 0 lo)).take (sIx items.size items.size hi-sIx items.size 0 lo)).toArray.size<=sizeLine;rw[aE,cV,b9,bK];lia
 have hj:sIx items.size items.size hi<=items.size:=yg4 _ _ (al _) hi;obtain⟨os,hos,hcs,hds⟩:=id hs;have hTs:s.TypeIs (.ref sl) "slice" :=⟨os,hos,hcs⟩;unfold getItem
 try with_reducible refine bX ?_
 first | refine aa (ak ?_) | skip
 refine aa (wpAny_sequenceKey ht.typeIs (by decide) ?_);refine aa (bO (name:=aO "__getitem__") ht.typeIs dU
  (bQ dU ht.typeIs entry_tuple_getitem ?_ (args_tuple_getitem _ _)))
 show wpAny _ _ (kZ (.ref t) >>= _) _ _ s;refine aa (tupleItemsOf_ ht ?_);refine aa (wpAny_typeOf hTs ?_);rw[if_pos (by decide)];refine aa (zEv hs pl pu ?_);have hno:¬ ((((sIx items.size 0 lo:Nat):Int) == 0&&(1:Int) == 1&&(sIx items.size items.size hi-sIx items.size 0 lo) == items.size)=true):=by
  intro q;rw[aZ,aZ] at q;have q1:((sIx items.size 0 lo:Nat):Int)=0:=eq_of_beq q.1.1;have q2:sIx items.size items.size hi-sIx items.size 0 lo=items.size:=eq_of_beq q.2;exact hw ⟨by lia,by lia⟩
 show wpAny _ _ (if (((sIx items.size 0 lo:Nat):Int) == 0&&(1:Int) == 1&&(sIx items.size items.size hi-sIx items.size 0 lo) == items.size)=true then _ else _) _ _ s;rw[if_neg hno,zV5]
 first
  | exact aa (m:=dP _) (bj (ak ⟨_,rfl,ak h⟩) htake)
  | exact aa (m:=dP _) (bj (aa (ak (ak ⟨_,rfl,ak h⟩))) htake)
  | exact aa (aa (m:=dP _) (bj (ak (ak ⟨_,rfl,ak h⟩)) htake))
  | exact aa (aa (m:=dP _) (bj (ak ⟨_,rfl,ak h⟩) htake))
end
end HT

namespace L2
open PySem PySem.Spec PyProof.Rows

abbrev TO:=St->Hp->(Option Int->Hp->Prop)->Prop
def PO(X:Cx)(e:Option bu)(t:TO):Prop :=
 ∀(pins:List (af×cz))(s:ai)(σ:St)(H:Hp)(Q:Option Int->Hp->Prop),Inv X pins σ H s->t σ H Q ->
  wpAny (model X.prog X.w) X.A (evalPart e X.env) (λu s'=>∃ o H',Inv X pins σ H' s'/\jt u o/\Q o H') X.xe s
def zX2:TO:=λ_ H Q=>Q none H
def tPart(t:TE):TO:=λσ H Q=>t σ H λx H1=>∃ i,x=.int i/\Q (some i) H1

section
variable{X:Cx}{e:bu}{te:TE}{lo hi:Option bu}{tl th:TO}{pos p2:eS}

theorem sI:PO X none zX2:=by
 intro pins s σ H Q I h;rw[evalPart_none];exact ak ⟨none,H,I,.none,h⟩
theorem sP(h:PE X e te):PO X (some e) (tPart te):=by
 intro pins s σ H Q I hw;rw[evalPart_some];refine thn (h pins s σ H _ I hw) λu s1 ⟨x,H1,I1,r1,q1⟩=>?_;obtain⟨i,rfl,q⟩:=q1;obtain⟨t,rfl⟩:=r1;exact⟨some i,H1,I1,.int i t,q⟩

def SlR(X:Cx)(r:V->Option Int->Option Int->Hp->VK->Prop):Prop :=
 ∀(pins:List (af×cz))(s:ai)(σ:St)(H:Hp)(x:V)(v vl vu:ag)(lo hi:Option Int)(sl:af)(Q:VK),Inv X pins σ H s->xE x v->s.heap.IsSliceOf sl vl vu .none->jt vl lo->jt vu hi->r x lo hi H Q ->
  ∃ T id,typeLookup (.type T) "__getitem__" = pure (some (.builtin id))/\s.TypeIs v T/\wpAny (model X.prog X.w) X.A (getItem v (.ref sl)) (EP X pins σ Q) X.xe s
def tSl(r:V->Option Int->Option Int->Hp->VK->Prop)(te:TE)(tl th:TO):TE:=λσ H Q=>te σ H λx H1=>tl σ H1 λl H2=>th σ H2 λu H3=>r x l u H3 Q
theorem uJ{r:V->Option Int->Option Int->Hp->VK->Prop}(hr:SlR X r)(he:PE X e te)(hl:PO X lo tl)(hu:PO X hi th):PE X (.Subscript e (.Slice lo hi none p2) pos) (tSl r te tl th):=by
 intro pins s σ H Q I h;refine k9 (thn (he pins s σ H _ I h) λv s1 ⟨x,H1,I1,r1,q1⟩=>?_);refine wpAny_Slice (thn (hl pins s1 σ H1 _ I1 q1) λvl s2 ⟨l,H2,I2,pl,q2⟩=>thn (hu pins s2 σ H2 _ I2 q2) λvu s3 ⟨u,H3,I3,pu,q3⟩=>?_);rw[evalPart_none];refine ak ?_;have I4:Inv X pins σ H3 { s3 with heap:=s3.heap.push { cls:=.type "slice",data:=.fields #[vl,vu,.none] } }:=I3.kept (t':=s3.toks) λb ob q=>ah _ q;obtain⟨T,id,hT,ht,hg⟩:=hr pins { s3 with heap:=s3.heap.push { cls:=.type "slice",data:=.fields #[vl,vu,.none] } } σ H3 x v vl vu l u s3.heap.objs.size Q I4 r1 (mZ ..) pl pu q3;show wpAny (model X.prog X.w) X.A (subscriptTail e (.Slice lo hi none p2) v (.ref s3.heap.objs.size)) (EP X pins σ Q) X.xe { s3 with heap:=s3.heap.push { cls:=.type "slice",data:=.fields #[vl,vu,.none] } };exact tail_any (ops:=[.ref s3.heap.objs.size,v]) ht hT hg (by with_unfolding_all rfl)

def zB7(xs:List V)(lo hi:Option Int):List V:=(xs.drop (HT.sIx xs.length 0 lo)).take (HT.sIx xs.length xs.length hi-HT.sIx xs.length 0 lo)
theorem zGb(xs:List V)(lo hi:Option Int):(zB7 xs lo hi).length<=xs.length:=by
 unfold zB7;rw[cV,b9];lia
def rSlT(K:ae):V->Option Int->Option Int->Hp->VK->Prop:=λx lo hi H Q=>∃ a xs,x=.ref a/\SqT K H a xs /\
 ¬ (HT.sIx xs.length 0 lo=0/\HT.sIx xs.length xs.length hi=xs.length)/\∀ p,H p=none->Q (.ref p) (upd H p (.tup (zB7 xs lo hi)))
theorem zEe:SlR X (rSlT X.K):=by
 intro pins s σ H x v vl vu lo hi sl Q I rx hs pl pu h;obtain⟨a,xs,rfl,hx,hw,q⟩:=h;cases rx;obtain⟨its,r,ht,hz⟩:=I.tuple hx;have hlen:its.toArray.size=xs.length:=by rw[aE]; exact r.length.symm
 exists "tuple",_,dU.lookup,ht.typeIs;refine HT.getItem_tuple_cut ht hs pl pu (by rw[hlen]; exact hw) ?_ (by rw[hlen]; exact hz);rw[hlen];refine⟨.ref s.heap.objs.size,_,I.laid (t':=s.toks) (o:=.tup (zB7 xs lo hi)) (λb ob q=>ah _ q) (al _) ?_,U,q _ (I.hok.fresh (al _))⟩;exact⟨aJ (zGb xs lo hi) hz,_,(r.drop (HT.sIx xs.length 0 lo)).take (HT.sIx xs.length xs.length hi-HT.sIx xs.length 0 lo),mE _ _⟩

end
end L2

namespace L2
open PySem PySem.Spec PyProof.Rows

def ixN(n:Nat)(i:Int):Option Nat:=if 0<=i then(if i<n then some i.toNat else none) else if -(n:Int)<=i then some (i+n).toNat else none
def atI{α:Type}(xs:List α)(i:Int):Option α:=(ixN xs.length i).bind λj=>xs[j]?
theorem zSo{n:Nat}{i:Int}{j:Nat}(h:ixN n i=some j):seqIndex? i n=some j/\j<n/\-(n:Int)<=i/\i<n:=by
 unfold ixN at h;by_cases h0:0<=i
 ·rw[if_pos h0] at h;by_cases h1:i<n
  ·rw[if_pos h1] at h;have e:i.toNat=j:=a7 h;exact⟨by rw[seqIndex_of h0 h1,e],by lia,by lia,h1⟩
  ·rw[if_neg h1] at h; cases h
 ·rw[if_neg h0] at h;by_cases h1 : -(n:Int)<=i
  ·rw[if_pos h1] at h;have e:(i+n).toNat=j:=a7 h;exact⟨by rw[seqIndex_neg (by lia) h1,e],by lia,h1,by lia⟩
  ·rw[if_neg h1] at h; cases h
theorem zMz{α:Type}{xs:List α}{i:Int}{v:α}(h:atI xs i=some v):∃ j,seqIndex? i xs.length=some j/\xs[j]?=some v/\j<xs.length/\-(xs.length:Int)<=i/\i<xs.length:=by
 unfold atI at h;cases e:ixN xs.length i with
 | none=>rw[e] at h; cases h
 | some j =>
  rw[e] at h;obtain⟨h1,h2,h3,h4⟩:=zSo e;exact⟨j,h1,h,h2,h3,h4⟩
theorem zDm{α:Type}{xs:List α}{j:Nat}{v:α}(h:xs[j]?=some v):atI xs (j:Int)=some v:=by
 have hj:j<xs.length:=(aM.mp h).1;have e:ixN xs.length (j:Int)=some j:=by
  unfold ixN;rw[if_pos (by lia),if_pos (by lia)]; simp
 unfold atI; rw[e]; exact h
def zRq(b:bu):Prop:=∀ o i,subscripted b false o i=operate [o,i] (getItem o i)
def IxR(X:Cx)(r:R2):Prop :=
 ∀(value slice:bu)(pins:List (af×cz))(s:ai)(σ:St)(H:Hp)(x y:V)(v u:ag)(Q:VK),Inv X pins σ H s->xE x v->xE y u->r x y H Q ->
  subscripted slice false v u=operate [v,u] (getItem v u)->wpAny (model X.prog X.w) X.A (subscriptTail value slice v u) (EP X pins σ Q) X.xe s
def MtR(X:Cx)(id:String)(r:V->List V->Hp->VK->Prop):Prop :=
 ∀(pins:List (af×cz))(s:ai)(σ:St)(H:Hp)(x:V)(xs:List V)(v:ag)(us:List ag)(Q:VK),Inv X pins σ H s->xE x v->yV xs us->r x xs H Q ->
  wpAny (model X.prog X.w) X.A (call (.builtin id) (v::us)) (EP X pins σ Q) X.xe s
section
variable{X:Cx}{a b:bu}{ta tb:TE}{pos:eS}
theorem zNs{r:R2}(hr:IxR X r)(ha:PE X a ta)(hb:PE X b tb)(hs:zRq b):PE X (.Subscript a b pos) (tOp r ta tb):=by
 intro pins s σ H Q I h;exact k9 (yi6 ha hb I h λv u s2 x y H2 I2 rx ry q=>hr a b pins s2 σ H2 x y v u Q I2 rx ry q (hs _ _))

def rIxL(K:ae):R2:=λx y H Q=>∃ p xs i v,x=.ref p/\y=.int i/\SqL K H p xs/\atI xs i=some v/\Q v H
def rIxT(K:ae):R2:=λx y H Q=>∃ p xs i v,x=.ref p/\y=.int i/\SqT K H p xs/\atI xs i=some v/\Q v H
def rIxS:R2:=λx y H Q=>∃ z i c,x=.str z/\y=.int i/\z.length<=sizeLine/\atI z.cps.toList i=some c/\Q (.str ⟨#[c]⟩) H
theorem zY8:IxR X (rIxL X.K):=by
 intro value slice pins s σ H x y v u Q I rx ry h hs;obtain⟨p,xs,i,z,rfl,rfl,hq,he,q⟩:=h;cases rx;obtain⟨t,rfl⟩:=ry;obtain⟨its,r,pl,hz⟩:=I.list hq;obtain⟨j,h1,h2,h3,h4,h5⟩:=zMz he;obtain⟨w,ew,rw'⟩:=r.get h2;have hl:=r.length;have hn:=zHy;have fin:EP X pins σ Q w s:=⟨z,H,I,rw',q⟩;by_cases h0:0<=i
 ·have hj:i.toNat=j:=by
   rw[seqIndex_of h0 h5] at h1;exact a7 h1
  exact item_listR pl.isList h0 (by lia) (by rw[hj]; simpa using ew) fin hs
 ·have hj:(i+(its.toArray.size:Int)).toNat=j:=by
   rw[seqIndex_neg (by lia) h4] at h1;rw[aE,<- hl];exact a7 h1
  exact subscriptTail_builtinR (x:=w) pl.isList.typeIs slot_list_getitem.lookup
   (wpAny_getItem_list_neg (Q:=λr s'=>r=w/\EP X pins σ Q r s') pl.isList (by lia) (by rw[aE] <;> lia) (by lia) (by rw[hj]; simpa using ew) ⟨rfl,fin⟩) hs
theorem yd9:IxR X (rIxT X.K):=by
 intro value slice pins s σ H x y v u Q I rx ry h hs;obtain⟨p,xs,i,z,rfl,rfl,hq,he,q⟩:=h;cases rx;obtain⟨t,rfl⟩:=ry;obtain⟨its,r,pl,hz⟩:=I.tuple hq;obtain⟨j,h1,h2,h3,h4,h5⟩:=zMz he;obtain⟨w,ew,rw'⟩:=r.get h2;have hl:=r.length;have hn:=zHy;have fin:EP X pins σ Q w s:=⟨z,H,I,rw',q⟩;exact subscriptTail_builtinR (x:=w) pl.typeIs slot_tuple_getitem.lookup
  (getItem_tuple (j:=j) (Q:=λr s'=>r=w/\EP X pins σ Q r s') pl (by lia) (by lia) (by rw[aE,<- hl]; exact h1) (by simpa using ew) ⟨rfl,fin⟩) hs
theorem zWj:IxR X rIxS:=by
 intro value slice pins s σ H x y v u Q I rx ry h hs;obtain⟨z,i,c,rfl,rfl,hz,he,q⟩:=h;obtain⟨t,rfl⟩:=rx;obtain⟨t',rfl⟩:=ry;obtain⟨j,h1,h2,h3,h4,h5⟩:=zMz he;have hl:z.cps.toList.length=z.length:=by simp[Str.length]
 rw[hl] at h1 h4 h5;have hn:=zHy;exact tail_any (typeIs_str s z t) slot_str_getitem.lookup (getItem_str (c:=c) (by
  have e1:decide (i < -(2^63:Int))=false:=decide_eq_false (by lia);have e2:decide (i >= 2^63)=false:=decide_eq_false (by lia);rw[e1,e2,ji]) (by rw[h1]; simpa using h2) ⟨.str ⟨#[c]⟩,H,I.tok _,⟨_,rfl⟩,q⟩) hs
theorem zQb(its:List ag)(n j:Nat)(u:ag):bM (·.setIfInBounds j u) { cls:=.type "list",data:=.seq its.toArray n }={ cls:=.type "list",data:=.seq (its.set j u).toArray n }:=by
 simp[bM]
theorem Inv.lst{pins:List (af×cz)}{σ:St}{H:Hp}{s:ai}{p:af}{xs:List V}(I:Inv X pins σ H s)(h:H p=some (.lst xs)) :
  ∃(its:List ag)(n:Nat),yV xs its/\s.heap.get? p=some { cls:=.type "list",data:=.seq its.toArray n }/\xs.length<=sizeLine:=by
 obtain⟨z,its,n,r,e⟩:=I.hok p _ h;exact⟨its,n,r,e,z⟩
theorem Inv.lstUpd{pins:List (af×cz)}{σ:St}{H:Hp}{s:ai}{p:af}{xs ys:List V}{its its':List ag}{n n':Nat}{f:cz->cz}(I:Inv X pins σ H s)(h:H p=some (.lst xs))
  (ho:s.heap.get? p=some { cls:=.type "list",data:=.seq its.toArray n }) (hf:f { cls:=.type "list",data:=.seq its.toArray n }={ cls:=.type "list",data:=.seq its'.toArray n' }) (r:yV ys its') (hz:ys.length<=sizeLine) (t:Nat) :
  Inv X pins σ (upd H p (.lst ys)) { s with heap:=s.heap.update p f,toks:=t }:=by
 have e:(s.heap.update p f).get? p=some { cls:=.type "list",data:=.seq its'.toArray n' }:=by
  rw[cC f ho (by rw[hf] <;> rfl),hf]
 refine I.write (x:=p) (e:=p) (by rw[h]; trivial) (.inl rfl) (λb u hb q=>(aY _ _ (cm hb)).trans q) ⟨_,e⟩ ?_;exact⟨hz,its',n',r,e⟩
def rSetL:V->V->V->Hp->(Hp->Prop)->Prop:=λo i v H Q=>∃ p xs k j,o=.ref p/\i=.int k/\H p=some (.lst xs)/\ixN xs.length k=some j/\Q (upd H p (.lst (xs.set j v)))
theorem zVs:PSet X rSetL:=by
 intro pins s σ H o i v ov iv u Q I ro ri rv h;obtain⟨p,xs,k,j,rfl,rfl,hp,hj,q⟩:=h;cases ro;obtain⟨t,rfl⟩:=ri;obtain⟨its,n,r,ho,hz⟩:=I.lst hp;obtain⟨h1,h2,h3,h4⟩:=zSo hj;have hl:=r.length;have hn:=zHy;have I':Inv X pins σ (upd H p (.lst (xs.set j v))) { s with heap:=s.heap.update p (bM (·.setIfInBounds j u)) } :=
  I.lstUpd hp ho (zQb its n j u) (r.set rv j) (by rw[fP]; exact hz) s.toks
 by_cases h0:0<=k
 ·have hk:k.toNat=j:=by
   rw[seqIndex_of h0 h4] at h1;exact a7 h1
  exact PySem.W.ki_setAt ho h0 (by lia) (by rw[aE,<- hl]; exact h4) (by rw[hk]; exact⟨_,I',q⟩)
 ·have hk:(k+(its.toArray.size:Int)).toNat=j:=by
   rw[seqIndex_neg (by lia) h3] at h1;rw[aE,<- hl];exact a7 h1
  exact PySem.W.ki_setBack ho (by lia) (by rw[aE,<- hl]; exact h3) (by lia) (by rw[hk]; exact⟨_,I',q⟩)

theorem zJ5(lo hi:Option Int)(n:Nat):(sliceBounds lo hi none n).1=((HT.sIx n 0 lo:Nat):Int)/\(sliceBounds lo hi none n).2.1=((HT.sIx n n hi:Nat):Int)/\(sliceBounds lo hi none n).2.2=1:=by
 refine⟨?_,?_,U⟩
 ·cases lo with
  | none=>simp[sliceBounds,HT.sIx]
  | some i =>
   simp only[sliceBounds,HT.sIx,ke,show(1:Int)>0 by decide,if_true];by_cases h:i<0
   ·simp only[h,if_true] <;> lia
   ·simp only[h,if_false] <;> lia
 ·cases hi with
  | none=>simp[sliceBounds,HT.sIx]
  | some i =>
   simp only[sliceBounds,HT.sIx,ke,show(1:Int)>0 by decide,if_true];by_cases h:i<0
   ·simp only[h,if_true] <;> lia
   ·simp only[h,if_false] <;> lia
theorem zIu(its:List ag)(lo hi:Option Int):slicePick its.toArray lo hi none=((its.drop (HT.sIx its.length 0 lo)).take (HT.sIx its.length its.length hi-HT.sIx its.length 0 lo)).toArray:=by
 obtain⟨h1,h2,h3⟩:=zJ5 lo hi its.toArray.size;unfold slicePick;rw[h1,h2,h3];simp only[sliceRange_one,pick_run,aE] <;> rfl
def rSlL(K:ae):V->Option Int->Option Int->Hp->VK->Prop:=λx lo hi H Q=>∃ a xs,x=.ref a/\SqL K H a xs/\∀ p,H p=none->Q (.ref p) (upd H p (.lst (zB7 xs lo hi)))
theorem zYd:SlR X (rSlL X.K):=by
 intro pins s σ H x v vl vu lo hi sl Q I rx hs pl pu h;obtain⟨a,xs,rfl,hx,q⟩:=h;cases rx;obtain⟨its,r,ht,hz⟩:=I.list hx;have hlen:=r.length;exists "list",_,slot_list_getitem.lookup,ht.isList.typeIs;refine wpAny_getItem_list_slice ht.isList hs pl pu .none (by simp) ?_ (by rw[aE] <;> lia);rw[zIu,<- hlen];refine⟨.ref s.heap.objs.size,_,I.laid (t':=s.toks) (o:=.lst (zB7 xs lo hi)) (λb ob q=>ah _ q) (al _) ?_,U,q _ (I.hok.fresh (al _))⟩;exact⟨aJ (zGb xs lo hi) hz,_,0,(r.drop (HT.sIx xs.length 0 lo)).take (HT.sIx xs.length xs.length hi-HT.sIx xs.length 0 lo),ap _ rfl⟩

def zI3:V->Bool
 | .non=>true
 | .bl _=>true
 | .int _=>true
 | .str _=>true
 | _=>false
def eqV:V->V->Bool
 | .non,.non=>true
 | .bl a,.bl b=>a == b
 | .bl a,.int b=>(if a then 1 else 0) == b
 | .int a,.bl b=>a ==(if b then 1 else 0)
 | .int a,.int b=>a == b
 | .str a,.str b=>a == b
 | _,_=>false
theorem yf0{A:bD}{s:ai}{y x:V}{u v:ag}(ry:xE y u)(rx:xE x v)(fy:zI3 y=true)(fx:zI3 x=true):ju A s u v (eqV y x):=by
 cases y with
 | non =>
  cases ry;cases x with
  | non=>cases rx; exact SeqAt.EqAt.same _
  | bl b=>cases rx; exact SeqAt.EqAt.none_bool b
  | int b=>obtain⟨t,rfl⟩:=rx; exact SeqAt.EqAt.none_int b t
  | str b=>obtain⟨t,rfl⟩:=rx; exact SeqAt.EqAt.none_str b t
  | _=>exact absurd (show false=true from fx) aB
 | bl a =>
  cases ry;cases x with
  | non=>cases rx; exact SeqAt.EqAt.bool_none a
  | bl b=>cases rx; exact SeqAt.EqAt.bool_bool a b
  | int b=>obtain⟨t,rfl⟩:=rx; exact SeqAt.EqAt.bool_int a b t
  | str b=>obtain⟨t,rfl⟩:=rx; exact SeqAt.EqAt.bool_str a b t
  | _=>exact absurd (show false=true from fx) aB
 | int a =>
  obtain⟨t',rfl⟩:=ry;cases x with
  | non=>cases rx; exact SeqAt.EqAt.int_none a t'
  | bl b=>cases rx; exact SeqAt.EqAt.int_bool a t' b
  | int b=>obtain⟨t,rfl⟩:=rx; exact jv a t' b t
  | str b=>obtain⟨t,rfl⟩:=rx; exact jm a t' b t
  | _=>exact absurd (show false=true from fx) aB
 | str a =>
  obtain⟨t',rfl⟩:=ry;cases x with
  | non=>cases rx; exact SeqAt.EqAt.str_none a t'
  | bl b=>cases rx; exact SeqAt.EqAt.str_bool a t' b
  | int b=>obtain⟨t,rfl⟩:=rx; exact jo a t' b t
  | str b=>obtain⟨t,rfl⟩:=rx; exact jw a t' b t
  | _=>exact absurd (show false=true from fx) aB
 | _=>exact absurd (show false=true from fy) aB
def eqU(x:V)(u:ag):Bool:=match u with
 | .none=>eqV .non x
 | .bool b=>eqV (.bl b) x
 | .int i _=>eqV (.int i) x
 | .str z _=>eqV (.str z) x
 | _=>false
theorem zWu{x y:V}{u:ag}(r:xE y u)(f:zI3 y=true):eqU x u=eqV y x:=by
 cases y with
 | non=>cases r; rfl
 | bl b=>cases r; rfl
 | int i=>obtain⟨t,rfl⟩:=r; rfl
 | str z=>obtain⟨t,rfl⟩:=r; rfl
 | _=>exact absurd (show false=true from f) aB
theorem zGt{x:V} : ∀{xs:List V}{us:List ag},yV xs us->xs.all zI3=true->us.any (eqU x)=xs.any λy=>eqV y x
 | _,_,.nil,_=>rfl
 | y::xs,u::us,.cons r t,f=>by
  rw[eX,aZ] at f;rw[cD,cD,zWu r f.1,zGt t f.2]
theorem zC4{A:bD}{s:ai}{x:V}{v:ag}(rx:xE x v)(fx:zI3 x=true):∀{xs:List V}{us:List ag},yV xs us->xs.all zI3=true->∀ u∈us,ju A s u v (eqU x u)
 | _,_,.nil,_=>λu hu=>by cases hu
 | y::xs,u::us,.cons r t,f=>λu' hu=>by
  rw[eX,aZ] at f;rcases aD.mp hu with rfl | hu
  ·rw[zWu r f.1]; exact yf0 r rx f.1 fx
  ·exact zC4 rx fx t f.2 u' hu
def inV(x:V)(xs:List V):Bool:=xs.any λy=>eqV y x
def rIn(K:ae)(neg:Bool):R2:=λx y H Q=>∃ p xs,y=.ref p/\(SqL K H p xs\/SqT K H p xs)/\zI3 x=true/\xs.all zI3=true/\Q (.bl (if neg then !inV x xs else inV x xs)) H
theorem rS:OpR X (compareOp .In) (rIn X.K false):=by
 intro pins s σ H x y v u Q I rx ry h;obtain⟨p,xs,rfl,hq,fx,fs,q⟩:=h;cases ry;rcases hq with hq | hq
 ·obtain⟨its,r,pl,hz⟩:=I.list hq;refine SeqAt.in_listAt (eqU x) pl.isList (λw hw=>zC4 rx fx r fs w (by simpa using hw)) ⟨.bl _,H,I,rfl,?_⟩;rw[show its.toArray.any (eqU x)=its.any (eqU x) by simp,zGt r fs];exact q
 ·obtain⟨its,r,pl,hz⟩:=I.tuple hq;refine kh (eqU x) pl (λw hw=>zC4 rx fx r fs w (by simpa using hw)) ⟨.bl _,H,I,rfl,?_⟩;rw[show its.toArray.any (eqU x)=its.any (eqU x) by simp,zGt r fs];exact q
theorem zLi:OpR X (compareOp .NotIn) (rIn X.K true):=by
 intro pins s σ H x y v u Q I rx ry h;obtain⟨p,xs,rfl,hq,fx,fs,q⟩:=h;cases ry;rcases hq with hq | hq
 ·obtain⟨its,r,pl,hz⟩:=I.list hq;refine SeqAt.notIn_listAt (eqU x) pl.isList (λw hw=>zC4 rx fx r fs w (by simpa using hw)) ⟨.bl _,H,I,rfl,?_⟩;rw[show its.toArray.any (eqU x)=its.any (eqU x) by simp,zGt r fs];exact q
 ·obtain⟨its,r,pl,hz⟩:=I.tuple hq;refine SeqAt.notIn_tupleAt (eqU x) pl (λw hw=>zC4 rx fx r fs w (by simpa using hw)) ⟨.bl _,H,I,rfl,?_⟩;rw[show its.toArray.any (eqU x)=its.any (eqU x) by simp,zGt r fs];exact q
theorem yT:uS X (.builtin "len") (λxs H Q=>∃ p ys,xs=[.ref p]/\(SqL X.K H p ys\/SqT X.K H p ys)/\Q (.int ys.length) H):=by
 intro pins s σ H xs us Q I r h;obtain⟨p,ys,rfl,hq,q⟩:=h;obtain⟨u,rfl,rx⟩:=zI8 r;cases rx;have hn:=zHy;rcases hq with hq | hq
 ·obtain⟨its,r',pl,hz⟩:=I.list hq;have hlen:=r'.length;exact Calls.call_len_list pl.isList (by simp only[aE] <;> lia) ⟨.int ys.length,H,I.tok _,⟨s.toks+1,by rw[aE,hlen]⟩,q⟩
 ·obtain⟨its,r',pl,hz⟩:=I.tuple hq;have hlen:=r'.length;exact len_tuple pl (by simp only[aE] <;> lia) ⟨.int ys.length,H,I.tok _,⟨s.toks+1,by rw[aE,hlen]⟩,q⟩
theorem zAm:uS X (.builtin "len") (λxs H Q=>∃ z,xs=[.str z]/\z.length<=sizeLine/\Q (.int z.length) H):=by
 intro pins s σ H xs us Q I r h;obtain⟨z,rfl,hz,q⟩:=h;obtain⟨u,rfl,t,rfl⟩:=zI8 r;have hn:=zHy;exact len_str (by lia) ⟨.int z.length,H,I.tok _,⟨_,rfl⟩,q⟩
theorem uS.or{f:ag}{r r':List V->Hp->VK->Prop}(h:uS X f r)(h':uS X f r'):uS X f (λxs H Q=>r xs H Q\/r' xs H Q):=by
 intro pins s σ H xs us Q I rs q;rcases q with q | q
 ·exact h pins s σ H xs us Q I rs q
 ·exact h' pins s σ H xs us Q I rs q
theorem zAp:uS X (.type "list") (λxs H Q=>∃ p ys,xs=[.ref p]/\(SqL X.K H p ys\/SqT X.K H p ys)/\∀ l,H l=none->Q (.ref l) (upd H l (.lst ys))):=by
 intro pins s σ H xs us Q I r h;obtain⟨p,ys,rfl,hq,q⟩:=h;obtain⟨u,rfl,rx⟩:=zI8 r;cases rx;have fin:∀(its:List ag),yV ys its->ys.length<=sizeLine->∀(h':aV)(c':Nat),(∀ b o',s.heap.get? b=some o'->h'.get? b=some o') ->
   h'.get? s.heap.objs.size=some { cls:=.type "list",dict:=none,data:=.seq its.toArray c',slots:=#[] }->EP X pins σ Q (.ref s.heap.objs.size) { s with heap:=h' }:=λits r' hz h' c' kp e =>
  ⟨.ref s.heap.objs.size,_,I.laid (t':=s.toks) kp (al _) (show xD X.prog X.w _ h' _ (.lst ys) from⟨hz,its,c',r',e⟩),rfl,q _ (I.hok.fresh (al _))⟩
 rcases hq with hq | hq
 ·obtain⟨its,r',pl,hz⟩:=I.list hq;have hlen:=r'.length;obtain⟨o,ho,hc,n,hd⟩:=pl.isList;exact call_list_seq p (.inl rfl) ho hc hd (λh' c' kp e=>fin its r' hz h' c' kp e) (by simp only[aE] <;> lia)
 ·obtain⟨its,r',pl,hz⟩:=I.tuple hq;have hlen:=r'.length;obtain⟨o,ho,hc,n,hd⟩:=pl;exact call_list_seq p (.inr rfl) ho hc hd (λh' c' kp e=>fin its r' hz h' c' kp e) (by simp only[aE] <;> lia)
theorem zCu:uS X (.type "tuple") (λxs H Q=>∃ p ys,xs=[.ref p]/\((SqL X.K H p ys/\∀ l,H l=none->Q (.ref l) (upd H l (.tup ys)))\/(SqT X.K H p ys/\Q (.ref p) H))):=by
 intro pins s σ H xs us Q I r h;obtain⟨p,ys,rfl,h⟩:=h;obtain⟨u,rfl,rx⟩:=zI8 r;cases rx;rcases h with ⟨hq,q⟩ | ⟨hq,q⟩
 ·obtain⟨its,r',pl,hz⟩:=I.list hq;have hlen:=r'.length;refine call_tuple_list pl.isList (λh' kp=>?_) (by simp only[aE] <;> lia);have I1:Inv X pins σ H { s with heap:=h' }:=I.kept (t':=s.toks) kp;have I2:Inv X pins σ (upd H h'.objs.size (.tup ys)) { s with heap:=h'.push { cls:=.type "tuple",data:=.seq its.toArray } } :=
   I1.laid (t':=s.toks) (λb o e=>ah _ e) (al _) (show xD X.prog X.w _ _ _ (.tup ys) from⟨hz,its,r',mE _ _⟩)
  exact⟨.ref h'.objs.size,_,I2,U,q _ (I1.hok.fresh (al _))⟩
 ·obtain⟨its,r',pl,hz⟩:=I.tuple hq;exact call_tuple_same pl ⟨.ref p,H,I,rfl,q⟩

def tyV(K:ae)(T:String)(x:V)(H:Hp):Prop:=match x with
 | .str _=>T = "str"
 | .int _=>T = "int"
 | .ref p=>(T = "list" /\ ∃ xs,SqL K H p xs)\/(T = "tuple" /\ ∃ o,K.lookup p=some o/\o.cls=.type "tuple" /\ o.dict=none) \/
   (T = "dict" /\ ((∃ kvs,H p=some (.dK kvs))\/∃ kvs,H p=some (.dT kvs)))\/(T = "set" /\ ∃ S n,H p=some (.set S n))
 | _=>False
theorem zZ4{pins:List (af×cz)}{σ:St}{H:Hp}{s:ai}{T:String}{x:V}{v:ag}(I:Inv X pins σ H s)(r:xE x v)(ty:tyV X.K T x H) :
  s.TypeIs v T/\∀ a,v=.ref a->∃ ob,s.heap.get? a=some ob/\ob.dict=none:=by
 cases x with
 | str z =>
  obtain⟨t,rfl⟩:=r;cases (show T = "str" from ty);exact⟨typeIs_str s z t,λ_ e=>nomatch e⟩
 | int i =>
  obtain⟨t,rfl⟩:=r;cases (show T = "int" from ty);exact⟨typeIs_int s i t,λ_ e=>nomatch e⟩
 | ref p =>
  cases r;rcases ty with ⟨rfl,xs,hq⟩ | ⟨rfl,o,hk,hc,hd⟩ | ⟨rfl,hk⟩ | ⟨rfl,S,n,hk⟩
  ·obtain⟨its,_,pl,_⟩:=I.list hq;refine⟨pl.isList.typeIs,λa e=>?_⟩;cases e;obtain⟨o,n,e,c,hd,_⟩:=pl;exact⟨o,e,hd⟩
  ·refine⟨⟨o,I.kIn p o hk,hc⟩,λa e=>?_⟩;cases e;exact⟨o,I.kIn _ o hk,hd⟩
  ·have z:∃ o,s.heap.get? p=some o/\o.ExactDict:=by
    rcases hk with ⟨kvs,hk⟩ | ⟨kvs,hk⟩
    ·obtain⟨_,_,_,_,o,_,_,e,ex,_⟩:=I.hok p _ hk;exact⟨o,e,ex⟩
    ·obtain⟨_,_,_,_,o,_,_,e,ex,_⟩:=I.hok p _ hk;exact⟨o,e,ex⟩
   obtain⟨o,e,ex⟩:=z;refine⟨⟨o,e,ex.1⟩,λa e2=>?_⟩;cases e2;exact⟨o,e,ex.2.1⟩
  ·obtain⟨o,_,_,_,e,ex,_⟩:=I.hok p _ hk;refine⟨⟨o,e,ex.1⟩,λa e2=>?_⟩;cases e2;exact⟨o,e,ex.2.1⟩
 | _=>exact bA ty
def tBM(K:ae)(T:String)(r:V->List V->Hp->VK->Prop)(to:TE)(t:TA):TE:=λσ H Q=>to σ H λx H1=>tyV K T x H1/\t σ H1 λxs H2=>r x xs H2 Q
variable{o e:bu}{es:List bu}{to:TE}{t:TA}{name:aA}{apos cpos:eS}{T id:String}{r:V->List V->Hp->VK->Prop}
theorem zX9(pa:PlainAttrs T)(slot:Slot T name id)(hty:typeOf (.builtin id)=pure (.type "method_descriptor"))(hm:MtR X id r)(ho:PE X o to)(ha:PA X (e::es) t)
  (hbase:attributeBase o name X.env (eval o X.env)=eval o X.env:=by rfl)
  (hfew:((backTo cpos (starEach (e::es) X.env)).all (λx=>!x.1)&&(backToKw cpos (keywordEach [] X.env)).all (λx=>x.1.isSome)
   && decide ((e::es).length+([]:List gO).length+(if ([]:List gO).isEmpty then 0 else 1)<30))=true:=by rfl)
  (hline:(apos.endLine == cpos.line)=true:=by rfl) (hs:starEach (e::es) X.env=(false,eval e X.env)::starEach es X.env:=by rfl) (hplain:(backTo cpos (starEach es X.env)).any (·.1)=false:=by rfl) :
  PE X (.Call (.Attribute o name apos) (e::es) [] cpos) (tBM X.K T r to t):=by
 intro pins s σ H Q I h;refine wpAny_Call_method_late hbase hfew hline rfl (thn (ho pins s σ H _ I h) λv s1 ⟨x,H1,I1,r1,ty,q1⟩=>?_);obtain⟨h1,h2⟩:=zZ4 I1 r1 ty;exists T,id,pa,slot,hty,h1,h2;have hA:=ha cpos pins s1 σ H1 _ I1 q1;rw[hs] at hA ⊢;refine ij (by show(false||(backTo cpos (starEach es X.env)).any (·.1))=false; rw[hplain] <;> rfl) (fK ?_);exact thn hA λus s2 ⟨vs,H2,I2,r2,q2⟩=>hm pins s2 σ H2 x vs v us Q I2 r1 r2 q2
end
end L2

namespace L2
open PySem PySem.Spec PyProof.Rows

def MtM(X:Cx)(id:String)(r:V->List V->Hp->VK->Prop):Prop :=
 ∀(pins:List (af×cz))(s:ai)(σ:St)(H:Hp)(x:V)(xs:List V)(v:ag)(us:List ag)(Q:VK),Inv X pins σ H s->xE x v->yV xs us->r x xs H Q ->
  wpAny (model X.prog X.w) X.A (call (.builtin id) (v::us)) (EP X pins σ Q) X.xe s

theorem yV.one:∀{x:V}{us:List ag},yV [x] us->∃ u,us=[u]/\xE x u
 | _,_,.cons r .nil=>⟨_,rfl,r⟩
theorem yV.two:∀{x y:V}{us:List ag},yV [x,y] us->∃ u v,us=[u,v]/\xE x u/\xE y v
 | _,_,_,.cons r (.cons q .nil)=>⟨_,_,rfl,r,q⟩
section
variable{X:Cx}{pins:List (af×cz)}{σ:St}{H:Hp}{s:ai}{l b:af}{xs ys zs:List V}

theorem Inv.lset{its its':List ag}{n:Nat}{f:Array ag->Array ag}{t':Nat}(I:Inv X pins σ H s)(hH:H l=some (.lst xs))
  (e:s.heap.get? l=some { cls:=.type "list",data:=.seq its.toArray n }) (hf:f its.toArray=its'.toArray) (hv:yV ys its') (hz:ys.length<=sizeLine) :
  Inv X pins σ (upd H l (.lst ys)) { s with heap:=s.heap.update l (bM f),toks:=t' }:=by
 have q:=PySem.IsL.update e f;rw[hf] at q;refine I.write (x:=l) (e:=l) (by rw[hH]; exact trivial) (.inl rfl) (λb' u hb hu=>(aY s.heap (bM f) (cm hb)).trans hu) ⟨_,q⟩ ?_;exact⟨hz,its',_,hv,q⟩
theorem Inv.lnew{its:List ag}{t':Nat}(I:Inv X pins σ H s)(hv:yV ys its)(hz:ys.length<=sizeLine) :
  Inv X pins σ (upd H s.heap.objs.size (.lst ys)) { s with heap:=s.heap.push { cls:=.type "list",data:=.seq its.toArray },toks:=t' } :=
 I.laid (λ_ _ q=>ah _ q) (al _) ⟨hz,its,0,hv,ap _ rfl⟩
theorem Inv.fresh(I:Inv X pins σ H s):H s.heap.objs.size=none:=I.hok.fresh (al _)
theorem Inv.lstM(I:Inv X pins σ H s)(hH:H l=some (.lst xs)):xs.length<=sizeLine/\∃(its:List ag)(n:Nat),yV xs its/\xs.length=its.length/\s.heap.get? l=some { cls:=.type "list",data:=.seq its.toArray n }:=by
 obtain⟨z,its,n,r,e⟩:=I.hok l _ hH;exact⟨z,its,n,r,r.length,e⟩

theorem zVm{n:Nat}(h:n<=sizeLine):eY n=false:=by
 unfold eY;exact decide_eq_false (by lia)
end

section
variable{X:Cx}

def zTm:V->List V->Hp->VK->Prop:=λx vs H Q=>∃ l xs y,x=.ref l/\vs=[y]/\H l=some (.lst xs)/\xs.length<sizeLine/\Q .non (upd H l (.lst (xs++[y])))
theorem zGp:MtM X "list.append" zTm:=by
 intro pins s σ H x vs v us Q I rx rv h;obtain⟨l,xs,y,rfl,rfl,hH,hz,q⟩:=h;cases rx;obtain⟨u,rfl,ru⟩:=rv.one;obtain⟨z,its,n,r,hl,e⟩:=I.lstM hH;refine call_meets F.slot_list_append ⟨_,e,rfl⟩ F.entry_list_append (F.args_list_append_2 _ _) (PySem.list_append l its.toArray n u (by rw[aE]; lia)) ⟨e,?_⟩;refine⟨.non,_,I.lset (its':=its++[u]) hH e (by simp) (r.append (.cons ru .nil)) ?_,U,q⟩;rw[aF,dD];lia

def zZg:V->List V->Hp->VK->Prop:=λx vs H Q=>∃ l b xs zs,x=.ref l/\vs=[.ref b]/\H l=some (.lst xs)/\H b=some (.lst zs)/\xs.length+zs.length<=sizeLine/\Q .non (upd H l (.lst (xs++zs)))
theorem yf5:MtM X "list.extend" zZg:=by
 intro pins s σ H x vs v us Q I rx rv h;obtain⟨l,b,xs,zs,rfl,rfl,hH,hB,hz,q⟩:=h;cases rx;obtain⟨u,rfl,ru⟩:=rv.one;cases ru;obtain⟨z,its,n,r,hl,e⟩:=I.lstM hH;obtain⟨z2,its2,n2,r2,hl2,e2⟩:=I.lstM hB;have hsz:its.toArray.size+its2.toArray.size<=sizeLine:=by rw[aE,aE]; lia
 have hlong:¬ (!its.toArray.isEmpty&&eY (its.toArray.size+its2.toArray.size))=true:=by
  rw[zVm hsz,lh];exact aB
 refine call_meets F.slot_list_extend ⟨_,e,rfl⟩ F.entry_list_extend (F.args_list_extend_2 _ _)
  (AutoSeq1.list_extend_list_list_0 l its.toArray n b its2.toArray n2 hlong (by rw[aE]; lia) (by lia)) ⟨e,e2,?_⟩
 refine⟨.non,_,I.lset (its':=its++its2) hH e (by simp) (r.append r2) ?_,U,q⟩;rw[aF];lia

def yi7:R2:=λx y H Q=>∃ l b xs zs,x=.ref l/\y=.ref b/\H l=some (.lst xs)/\H b=some (.lst zs)/\xs.length+zs.length<=sizeLine/\∀ p,H p=none->Q (.ref p) (upd H p (.lst (xs++zs)))
theorem zFm:OpR X (binaryOp .Add) yi7:=by
 intro pins s σ H x y v u Q I rx ry h;obtain⟨l,b,xs,zs,rfl,rfl,hH,hB,hz,q⟩:=h;cases rx;cases ry;obtain⟨z,its,n,r,hl,e⟩:=I.lstM hH;obtain⟨z2,its2,n2,r2,hl2,e2⟩:=I.lstM hB;refine PySem.P.add_list e e2 ?_ (by rw[aE,aE]; lia);have ea:its.toArray++its2.toArray=(its++its2).toArray:=by simp
 rw[ea];exact⟨.ref _,_,I.lnew (t':=s.toks) (r.append r2) (by rw[aF]; lia),rfl,q _ I.fresh⟩
theorem zYj{α:Type}(xs:List α)(k:Nat):(bz k xs).flatten.length=k*xs.length:=by
 induction k with
 | zero=>simp
 | succ k ih=>rw[fY,jM,aF,ih,mM,Nat.add_comm]
end


end L2

namespace Att
open PySem PySem.W PySem.Calls PyProof.Rows

theorem zGx{P:eh}{h:aV} : ∀(ns:List Int)(vs:List ag),WellAll P h vs (ns.map ni)->kW vs ns:=by
 intro ns
 induction ns with
 | nil =>
  intro vs w;rw[fq] at w;cases w;exact .nil
 | cons n ns ih =>
  intro vs w;rw[aQ] at w;cases w with
  | cons a b =>
   cases a;exact .cons _ _ (ih _ b)

theorem zS4{l:iE}{n:Nat}(hn:l.most=some n){P:eh}{h:aV}{args:List WData}{vals:List ag}
  (hpre:l.row.toRowW.claim.pre args=true) (hwl:WellAll P h vals args) :
  ∃ a vs ns,vals=[aI a]/\args=[WData.list (ns.map ni)]/\h.get? a=some { cls:=.type "list",data:=.seq vs.toArray }/\kW vs ns/\ns.length<=n:=by
 have hsh:WShape.hasAll [] args [.list .int]=true:=(pre_splitW hpre).1;have hc:l.pre.holds [] { args:=args }=true:=(pre_splitW hpre).2;obtain⟨d,r,rfl,h1,h2⟩:=hasAllW_cons hsh;obtain rfl:=hasAllW_nil h2;obtain⟨xs,rfl,h3⟩:=hasW_list h1;obtain⟨ns,rfl⟩:=items_int h3;have hlen:ns.length<=n:=by
  unfold OpenLaw.pre at hc;have h4:(WTm.not (.lt (.lit (.int (n:Int))) (.len (.arg 0)))).holds [] { args:=[.list (ns.map .int)] }=true:=by
   have h4:=(holds_andW hc).1;rw[hn] at h4;exact h4
  have h5:=condW_of h4 (w_not (w_lt w_lit (w_len_list (w_arg rfl))));rw[ac] at h5;refine ko λq=>?_;have q':(n:Int)<((ns.length:Nat):Int):=by lia
  first
   | (rw[decide_eq_true q'] at h5; exact absurd h5 (by decide))
   | (simp at h5; lia)
 cases hwl with
 | cons w1 w2 =>
  cases w2;cases w1 with
  | list ho hall=>exact⟨_,_,ns,U,U,ho,zGx ns _ hall,hlen⟩

theorem zR2(l:iE)(args:List WData):l.row.toRowW.claim.post args (.bool true) args=true :=
 postW_of (r:=l.row.toRowW) (X:=(true == true))
  (show m5 [] (.bool true) .bool=true by first | rfl | decide | simp[m5,WShape.arms,WShape.armsAll])
  (show(WTm.eq .res (.lit (.bool true))).value [] { args:=args,res:=some (.bool true),after:=args }=some (.bool (true == true)) from w_eq_bool (w_res rfl) w_lit) rfl

theorem attach_call{l:iE}{n:Nat}{q:aK}{loose:List aA}{XP:(aA->Option ag)->aV->Prop}{YP:aT->aV->Prop}{d:DefRec}
  (hn:l.most=some n) (hdf:d.params.defaults=[])
  (call:∀(w:aT)(s₀ s₁:ai)(mg mb:aA->Option ag)(fa:af)(o:cz)(pm cd doc:ag)(a:af)(vs:List ag)(ns:List Int),
   Ground q loose [] XP w s₀ mg mb s₁.heap->YP w s₁.heap ->
   s₁.heap.get? fa=some o->o.data=.func (docDef d.name d.params d.body d.scope pm cd doc)->s₁.heap.CodeRec cd d.name->mg d.name=some (.ref fa) ->
   s₁.heap.get? a=some { cls:=.type "list",data:=.seq vs.toArray }->kW vs ns->ns.length<=n->s₁.gens = #[] ->
   codeAny (model l.prog w) callerA (.call (.ref fa) ⟨[.ref a],[]⟩) (λr s'=>r=.ok (.ret (.bool true))/\OldK s₁.heap s'.heap/\s'.os=s₁.os/\f8 s'.gens) s₁) :
  mv q loose XP YP l.row.toRowW d [] (λf vs=>lq f vs):=by
 intro w s₀ s₁ mg mb G Y fa o pm cd doc dV kV ho hd hcd hD hmg hg args vals as hpre hlay hrd hwl hlo;obtain rfl:dV=.none:=Dflts.none hD hdf;obtain rfl:kV=.none:=Dflts.noKw hD;obtain⟨a,vs,ns,rfl,rfl,hobj,hints,hlen⟩:=zS4 hn hpre hwl;refine enter_call (codeAny_mono (call w s₀ s₁ mg mb fa o pm cd doc a vs ns G Y ho (fd_plain hd) hcd hmg hobj hints hlen hg) λr s' hq=>?_);obtain⟨rfl,h2,h3,h4⟩:=hq;exact⟨.inl ⟨.bool true,.bool true,[],rfl,λ_=>rfl,.bool true,zR2 l _,λ_=>⟨ng,λ_ hm=>(nomatch hm)⟩⟩,h2,h3,h4⟩

section
variable{prog:aK}{w:aT}{A:bD}{E:ag->ai->Prop}{s:ai}{K:ae}

end
end Att

namespace L2
open PySem PySem.Spec PyProof.Rows

theorem zK1:∀{vs:List ag}{ns:List Int},kW vs ns->yV (ns.map V.int) vs
 | _,_,.nil=>.nil
 | _,_,.cons n t h=>.cons ⟨t,rfl⟩ (zK1 h)

def Only(H:Hp):Prop:=∀ b,H b=none\/∃ o xs,H b=some (.frz o (.lst xs))

theorem zU1{P:aK}{w:aT}{K:ae}{mg mb:aA->Option ag}{CX:CXT}{k:Nat}{fa a:af}{fd:bP}{x:aA}{sp:Sp}{s₁:ai}{vs:List ag}{ns:List Int}
  (KX:K.In s₁.heap) (hns:s₁.heap.Ns mainGlobals mg) (hb:s₁.heap.Ns builtinsNs mb) (hbb:∀ x:aA,x ≠ "__name__" -> mb x=bootBuiltins x) (hlim:s₁.heap.NoLimit) (hg:s₁.gens = #[])
  (ha:s₁.heap.get? a=some { cls:=.type "list",data:=.seq vs.toArray }) (hi:kW vs ns) (hl:ns.length<=sizeLine) (hr:qO k callerA)
  (F:∀ base:aV,K.In base->base.Ns mainGlobals mg->yQ P w K mg base CX k fa fd [x] sp) (hbind:∀(s:ai)(u:ag),ii s fd ⟨[u],[]⟩ [(x,u)])
  (hsp:∀ H:Hp,Only H->SqL K H a (ns.map V.int)->sp [.ref a] H (λv _=>v=.bl true) λ_ _ _=>False)
  (hCX:∀ H e s',CX [] H s₁ (λ_ _ _=>False) e s'->False) :
  codeAny (model P w) callerA (.call (.ref fa) ⟨[.ref a],[]⟩) (λr s'=>r=.ok (.ret (.bool true))/\OldK s₁.heap s'.heap/\s'.os=s₁.os/\f8 s'.gens) s₁:=by
 have rv:=zK1 hi;have lenV:=hi.length;have core:∀ H:Hp,Only H->SqL K H a (ns.map V.int)->HOk P w H s₁.heap->(∀ b,H b≠none->b=a)->(H a≠none->K.lookup a=none) ->
   codeAny (model P w) callerA (.call (.ref fa) ⟨[.ref a],[]⟩) (λr s'=>r=.ok (.ret (.bool true))/\OldK s₁.heap s'.heap/\s'.os=s₁.os/\f8 s'.gens) s₁:=by
  intro H hO hS hok hA hK;have base_of:∀{b:af}{o:cz},s₁.heap.get? b=some o->H b=none->(zWi s₁.heap H).get? b=some o:=λe n=>zUr e n;have noA:∀{b:af}{o:cz}{es:Array df}{ep:Nat},s₁.heap.get? b=some o->o.data=.dict es ep->H b=none:=λ{b o es ep} e d=>by
   cases q:H b with
   | none=>rfl
   | some u =>
    have e':b=a:=hA b (by rw[q]; simp);subst e';rw[ha] at e; cases e;have d':Data.seq vs.toArray _=Data.dict es ep:=d;cases d'
  have nsK:∀{b:af}{m:aA->Option ag},s₁.heap.Ns b m->(zWi s₁.heap H).Ns b m:=λ{b m} ⟨o,es,ep,e,d,r⟩=>⟨o,es,ep,base_of e (noA e d),d,r⟩;have hKb:K.In (zWi s₁.heap H):=λb o e=>base_of (KX b o e) (by
   cases q:H b with
   | none=>rfl
   | some u =>
    have e':b=a:=hA b (by rw[q]; simp);subst e';rw[hK (by rw[q]; simp)] at e; cases e)
  have hM:Mod K mg (zWi s₁.heap H):=⟨hKb,nsK hns,⟨mb,nsK hb,hbb⟩,let ⟨mc,h1,h2⟩:=hlim;⟨mc,nsK h1,h2⟩⟩;have e0:zUk P w K mg (zWi s₁.heap H) callerA [] s₁ H:=⟨rfl,hM,λb o e=>zYu e,ie (zS3 _ _),trivial,λb hb=>absurd (show b∈([]:List af) from hb) (by simp),hok,.of_eq hg⟩;refine codeAny_mono ((F _ hKb (nsK hns)).run callerA [] s₁ H ⟨[.ref a],[]⟩ [.ref a] [.ref a] _ _ hr e0 (hbind s₁ (.ref a)) (.cons rfl .nil) (hsp H hO hS)) λr s' h=>?_;cases r with
  | error e=>exact(hCX H e s' h).elim
  | ok fl =>
   cases fl with
   | next=>exact bA h
   | brk=>exact bA h
   | cont=>exact bA h
   | ret u =>
    obtain⟨v,H',os,bare,un,hok',r',q⟩:=h;have q':v=.bl true:=q;subst q';obtain rfl:u=h9 true:=r';refine⟨U,OldK.of_keep λb o e=>?_,os,bare⟩;cases q:H b with
    | none=>exact un.keep b o e q (by intro z; exact absurd (show b∈([]:List af) from z) (by simp)) (by simp)
    | some u =>
     rcases hO b with z | ⟨ob,xs,z⟩
     ·rw[q] at z; cases z
     ·have z2:=un.frzs b ob _ z;obtain⟨e1,_⟩:=hok b _ z;obtain⟨e2,_⟩:=hok' b _ z2;rw[e] at e1; cases e1;exact e2
 cases hk:K.lookup a with
 | some o =>
  have e:=KX a o hk;rw[ha] at e;cases e;refine core (λ_=>none) (λ_=>.inl rfl) (.inr ⟨_,vs.toArray,_,hk,rfl,rfl,rfl,by rw[aE,lenV]; exact hl,by simpa using rv⟩) (λb u z=>by have z':(none:Option HO)=some u:=z; cases z') (λb z=>absurd rfl z) λz=>absurd rfl z
 | none =>
  refine core (λb=>if b=a then some (.frz { cls:=.type "list",data:=.seq vs.toArray } (.lst (ns.map V.int))) else none) (λb=>?_) (.inl (.inr ⟨{ cls:=.type "list",data:=.seq vs.toArray },if_pos rfl⟩)) (λb u z=>?_) (λb z=>?_) λ_=>hk
  ·by_cases hb:b=a
   ·exact .inr ⟨_,_,if_pos hb⟩
   ·exact .inl (if_neg hb)
  ·by_cases hb:b=a
   ·have z':=(if_pos hb).symm.trans z;cases z';subst hb;exact⟨ha,by rw[ac]; exact hl,vs,_,rv,ha⟩
   ·have z':=(if_neg hb).symm.trans z;cases z'
  ·by_cases hb:b=a
   ·exact hb
   ·exact absurd (if_neg hb) z
end L2

namespace L2
open PySem PySem.Spec PyProof.Rows

end L2

namespace L2
open PySem PySem.Spec PyProof.Rows


abbrev CX0:CXT:=λ_ _ _ _ _ _=>False
abbrev E0:XK:=λ_ _ _=>False
theorem zSu{X:Cx} : zLe CX0 X E0:=λ_ _ _ _ _ _ _ h=>h.elim

structure Fun(K:ae)(x qual:aA)(st:bC)(f:af)(fd:bP):Prop where
 ex:∃(oc:ag)(od:Option af)(kV doc pm:ag)(an:Option af)(cdv ct:ag)(osl:Array (Option ag)),
  fd=bN x qual (xW st) (xF st) (zG st) .none kV doc pm an cdv ct/\K.lookup f=some ⟨oc,od,.func fd,osl⟩/\eG K cdv qual=true
 kp:bV K (.ref f)=true
section
variable{P:aK}{w:aT}{K:ae}{mg:aA->Option ag}{base:aV}
theorem Fun.ok{x qual:aA}{st:bC}{f:af}{fd:bP}{N ps:List aA}{k:Nat}{sp:Sp}(F:Fun K x qual st f fd)(S:zO N ps (zG st))(len:∀ vs H Q E,sp vs H Q E->vs.length=ps.length)
  (hbody:∀(cdv:ag)(A:bD)(outer:List fV)(s:ai)(H:Hp)(vs:List V)(Q:VK)(E:XK),qO k (A.deeper (envOfC qual (zG st) s.heap.objs.size f cdv))->sp vs H Q E ->
   ∃ t,PSs (cxOf CX0 P w K mg base N qual (zG st) f cdv A outer s H E).nox (xF st) t/\t { nx:=λ_ H'=>Q .non H',rt:=Q } (start N vs) H):yQ P w K mg base CX0 (k+1) f fd ps sp:=by
 obtain⟨oc,od,kV,doc,pm,an,cdv,ct,osl,rfl,lk,hcd⟩:=F.ex;refine yd8 lk hcd S len λA outer s H vs Q E hr hsp=>?_;obtain⟨t,h,q⟩:=hbody cdv A outer s H vs Q E hr hsp;exact⟨t,h.nox,q⟩
theorem Fun.binds{x qual:aA}{st:bC}{f:af}{fd:bP}{ps:List aA}(F:Fun K x qual st f fd)
  (h:∀(kV doc pm:ag)(an:Option af)(cdv ct:ag)(us:List ag),us.length=ps.length->bindArgs (bN x qual (xW st) (xF st) (zG st) .none kV doc pm an cdv ct) ⟨us,[]⟩=pure (ps.zip us)):zC6 K fd ps []:=by
 obtain⟨oc,od,kV,doc,pm,an,cdv,ct,osl,rfl,lk,hcd⟩:=F.ex;exact .all (h kV doc pm an cdv ct)
theorem zTg{x qual:aA}{st:bC}{f:af}{oc:ag}{od an:Option af}{osl:Array (Option ag)}{kV doc pm cdv ct:ag}(l:K.lookup f=some ⟨oc,od,.func (bN x qual (xW st) (xF st) (zG st) .none kV doc pm an cdv ct),osl⟩)
  (c:eG K cdv qual=true) (k:bV K (.ref f)=true):Fun K x qual st f (bN x qual (xW st) (xF st) (zG st) .none kV doc pm an cdv ct):=⟨⟨oc,od,kV,doc,pm,an,cdv,ct,osl,rfl,l,c⟩,k⟩
end
theorem zV{A:bD}{k:Nat}(hr:qO k A):A.units+1<cLine:=fe (Nat.add_le_add_left (by decide:1<=64) _) hr.units
theorem zW{n:Nat}(h:n<=1000):n<sizeLine:=fe h (by decide)

section
variable{X:Cx}
theorem pv(i:Nat){x:aA}{pos:eS}(hN:X.N[i]?=some x:=by rfl)(hv:Vis X.env.scope x:=by first | exact cP rfl | exact ku (cP rfl) | exact ku (ku rfl))(hd:(x ==("__debug__" : aA))=false:=by decide)
  (hcd:(x ==("__classdict__" : aA))=false:=by decide):PE X (.Name x pos) (zUe i):=zZ1 hN hv hd hcd
end

theorem yB{A B:Prop}(h:B):if false=true then A else B:=by
 rw[if_neg aB];exact h
theorem yY{A B:Prop}(h:A):if true=true then A else B:=by
 rw[if_pos rfl];exact h
theorem ite2{c A B:Prop}[Decidable c](h1:c->A)(h2:¬ c->B):if c then A else B:=by
 by_cases h:c
 ·rw[if_pos h];exact h1 h
 ·rw[if_neg h];exact h2 h
def Same(H H':Hp):Prop:=∀ b o,H b=some o->H' b=some o
theorem Same.refl(H:Hp):Same H H:=λ_ _ h=>h
theorem Same.trans{H H1 H2:Hp}(a:Same H H1)(b:Same H1 H2):Same H H2:=λc o h=>b c o (a c o h)
theorem Same.free{H H':Hp}(e:Same H H'){l:af}(h:H' l=mV):H l=mV:=by
 cases q:H l with
 | none=>rfl
 | some o =>
  rw[e l o q] at h;cases h
theorem Same.seq{K:ae}{H H':Hp}{a:af}{xs:List V}(e:Same H H')(h:SqL K H a xs):SqL K H' a xs:=by
 rcases h with (h | ⟨o,h⟩) | h
 ·exact .inl (.inl (e _ _ h))
 ·exact .inl (.inr ⟨o,e _ _ h⟩)
 ·exact .inr h

end L2

namespace Sea
def qF(ns:List Int):Nat:=ns.foldl (λg n=>eM g n.natAbs) 0
theorem zOx:∀(ns:List Int)(g:Nat),ns.foldl (λg n=>eM g n.natAbs) g ∣ g/\∀ n∈ns,ns.foldl (λg n=>eM g n.natAbs) g ∣ n.natAbs
 | [],g=>⟨Nat.dvd_refl g,λ_ h=>nomatch h⟩
 | x::r,g=>by
  obtain⟨h1,h2⟩:=zOx r (eM g x.natAbs);refine⟨ml h1 (Nat.gcd_dvd_left _ _),λn hn=>?_⟩;rcases aD.mp hn with e | e
  ·rw[e];exact ml h1 (Nat.gcd_dvd_right _ _)
  ·exact h2 n e
theorem zCm{ns:List Int}{n:Int}(h:n∈ns):qF ns ∣ n.natAbs:=(zOx ns 0).2 n h
theorem rP{ns:List Int}{n:Int}(h:n∈ns):(qF ns:Int) ∣ n:=Int.ofNat_dvd_left.mpr (zCm h)
theorem zO6{d:Nat} : ∀(ns:List Int)(g:Nat),d ∣ g->(∀ n∈ns,d ∣ n.natAbs)->d ∣ ns.foldl (λg n=>eM g n.natAbs) g
 | [],_,h,_=>h
 | x::r,g,h,hr=>zO6 r _ (Nat.dvd_gcd h (hr x cr)) λn hn=>hr n (bE _ hn)
theorem zVa{d:Nat}{ns:List Int}(h:∀ n∈ns,d ∣ n.natAbs):d ∣ qF ns:=zO6 ns 0 (Nat.dvd_zero d) h
theorem zJc{ns:List Int}{n:Int}(h:n∈ns)(h0:n≠0):0<qF ns:=by
 rcases Nat.eq_zero_or_pos (qF ns) with e | e
 ·have q:=zCm h;rw[e,Nat.zero_dvd] at q;lia
 ·exact e
def zQ6(ns:List Int):List Int:=ns.map λn=>n/(qF ns:Int)
theorem qN{ns:List Int}{n:Int}(h:n∈ns):n/(qF ns:Int)*(qF ns:Int)=n:=Int.ediv_mul_cancel (rP h)
theorem zKu{ns:List Int}(h:0<qF ns):qF (zQ6 ns)=1:=by
 have key:qF ns*qF (zQ6 ns) ∣ qF ns:=by
  refine zVa λn hn=>?_;have h1:qF (zQ6 ns) ∣ (n/(qF ns:Int)).natAbs:=zCm (aC.mpr ⟨n,hn,rfl⟩);obtain⟨c,hc⟩:=h1;have h2:=congrArg Int.natAbs (qN hn);rw[lu,Int.natAbs_natCast,hc] at h2;rw[<- h2];exact⟨c,by rw[jN,mm]⟩
 obtain⟨c,hc⟩:=key;have h3:qF ns*(qF (zQ6 ns)*c)=qF ns*1:=by
  rw[<- mm,<- hc,Nat.mul_one]
 have h4:=Nat.eq_of_mul_eq_mul_left h h3;exact Nat.dvd_one.mp ⟨c,h4.symm⟩
theorem zPo(x y:Int):qF [x,y]=eM x.natAbs y.natAbs:=by
 show eM (eM 0 x.natAbs) y.natAbs=_;rw[Nat.gcd_zero_left]
end Sea
namespace Sea
structure zWp(t b x y:Int):Prop where
 pos:1<=y
 low:eM x.natAbs y.natAbs=1
 eq:x*b=y*t
 xle:x.natAbs<=t.natAbs
 yle:y.natAbs<=b.natAbs
theorem qV(n:Int){g:Int}(hg:0<g)(h:g ∣ n):(n/g).natAbs<=n.natAbs:=by
 obtain⟨c,hc⟩:=h;subst hc;rw[Int.mul_ediv_cancel_left c (by lia),lu];exact Nat.le_mul_of_pos_left _ (by lia)
theorem zZ0(t:Int){b:Int}(hb:b≠0):∃ x y:Int,(zQ6 (if b<0 then [t,b].map (λn=>-n) else [t,b]))=[x,y]/\zWp t b x y:=by
 have key:∀(t b:Int),0<b->∃ x y:Int,zQ6 [t,b]=[x,y]/\zWp t b x y:=λt b hb=>by
  have gp:0<qF [t,b]:=zJc (n:=b) (by simp) (by lia);have e1:=qN (ns:=[t,b]) (n:=t) (by simp);have e2:=qN (ns:=[t,b]) (n:=b) (by simp);have gI:(0:Int)<(qF [t,b]:Int):=by lia
  refine⟨t/(qF [t,b]:Int),b/(qF [t,b]:Int),U,?_,?_,?_,qV t gI (rP (by simp)),qV b gI (rP (by simp))⟩
  ·exact Int.ediv_pos_of_pos_of_dvd hb (ik gI) (rP (by simp))
  ·have h3:=zKu gp;rw[<- zPo];exact h3
  ·generalize (qF [t,b]:Int)=g at e1 e2
   calc t/g*b=t/g*(b/g*g):=by rw[e2]
    _=b/g*(t/g*g):=by rw[<- dQ,<- dQ,im (t/g)]
    _=b/g*t:=by rw[e1]
 by_cases h:b<0
 ·rw[if_pos h];obtain⟨x,y,e,p⟩:=key (-t) (-b) (by lia);refine⟨x,y,e,p.pos,p.low,?_,by have:=p.xle; lia,by have:=p.yle; lia⟩;have q:=p.eq;rw[kL,kL] at q;lia
 ·rw[if_neg h];exact key t b (by lia)
end Sea
namespace Sea
end Sea
namespace Sea
theorem dir_low{X Y:Int}(h:X≠0\/Y≠0):∃ x y:Int,zQ6 [X,Y]=[x,y]/\0<qF [X,Y]/\(qF [X,Y]<=X.natAbs\/qF [X,Y]<=Y.natAbs)/\eM x.natAbs y.natAbs=1/\x*Y-y*X=0/\0<x*X+y*Y/\x.natAbs<=X.natAbs/\y.natAbs<=Y.natAbs:=by
 have gp:0<qF [X,Y]:=by
  rcases h with h | h
  ·exact zJc (n:=X) (by simp) h
  ·exact zJc (n:=Y) (by simp) h
 have gI:(0:Int)<(qF [X,Y]:Int):=by lia
 have e1:=qN (ns:=[X,Y]) (n:=X) (by simp);have e2:=qN (ns:=[X,Y]) (n:=Y) (by simp);refine⟨X/(qF [X,Y]:Int),Y/(qF [X,Y]:Int),U,gp,?_,?_,?_,?_,qV X gI (rP (by simp)),qV Y gI (rP (by simp))⟩
 ·rcases h with h | h
  ·exact .inl (mn (by lia) (zCm (by simp)))
  ·exact .inr (mn (by lia) (zCm (by simp)))
 ·rw[<- zPo];exact zKu gp
 ·generalize (qF [X,Y]:Int)=g at e1 e2;generalize X/g=x at e1;generalize Y/g=y at e2;rw[<- e1,<- e2,<- dQ,<- dQ,im x y];lia
 ·generalize (qF [X,Y]:Int)=g at e1 e2 gI;have f1:0<=X/g*X:=by
   have:X/g*X=X/g*(X/g)*g:=by rw[dQ,e1]
   rw[this];exact iU (by rw[<- eU]; exact ff _) (ik gI)
  have f2:0<=Y/g*Y:=by
   have:Y/g*Y=Y/g*(Y/g)*g:=by rw[dQ,e2]
   rw[this];exact iU (by rw[<- eU]; exact ff _) (ik gI)
  rcases h with h | h
  ·have:X/g*X≠0:=fQ (λz=>h (by rw[<- e1,z,mO])) h;lia
  ·have:Y/g*Y≠0:=fQ (λz=>h (by rw[<- e2,z,mO])) h;lia
end Sea
namespace Sea
end Sea
namespace Sea
structure SpotOf(X Y W x y w:Int):Prop where
 pos:1<=w
 low:eM (eM x.natAbs y.natAbs) w.natAbs=1
 ex:x*W=X*w
 ey:y*W=Y*w
 xle:x.natAbs<=X.natAbs
 yle:y.natAbs<=Y.natAbs
 wle:w.natAbs<=W.natAbs
end Sea
namespace Sea
end Sea

namespace Sea
theorem ya7{a b:Int}(h:a≠0\/b≠0):1<=a*a+b*b:=by
 have s1:0<=a*a:=by rw[<- eU]; exact ff _
 have s2:0<=b*b:=by rw[<- eU]; exact ff _
 rcases h with h | h
 ·have:a*a≠0:=fQ h h;lia
 ·have:b*b≠0:=fQ h h;lia
end Sea
namespace Sea
end Sea

namespace Sea
end Sea

namespace L2
open PySem PySem.Spec PyProof.Rows

structure CC where
 C:af
 s:ai
 H:Hp
 fp:List af

def zCs(env:fV):List (aA×eF)->List (aA×af)->List (aA×af)
 | [],cs=>cs
 | (n,k)::r,cs=>zCs env r (if (k == bB)=true then(n,(env.cells.lookup n).getD 0)::cs else cs)
theorem zSr{scope:fg}{env:fV}(h:∀ x∈scope.names,x.2=.free->∃ c,env.cells.lookup x.1=some c):closureFor scope env=pure (zCs env scope.names []):=by
 simp only[closureFor];have key:∀(names:List (aA×eF))(cs:List (aA×af)),(∀ x∈names,x.2=.free->∃ c,env.cells.lookup x.1=some c) ->
  (forIn names cs (λ(x:aA×eF) (r:List (aA×af))=>match x with | (name,kind)=>if (kind == bB)=true then(do let a <- cellOf env name; pure (dm ((name,a)::r))) else pure (dm r)):lU (List (aA×af)))=pure (zCs env names cs):=by
  intro names
  induction names with
  | nil=>intro cs _; rfl
  | cons x r ih =>
   intro cs hx;obtain⟨n,k⟩:=x;rw[iy];have hr:=ih (if (k == bB)=true then(n,(env.cells.lookup n).getD 0)::cs else cs) λy hy=>hx y (bE _ hy);by_cases hk:(k == bB)=true
   ·obtain⟨c,hc⟩:=hx (n,k) cr (by simpa using hk);have e:cellOf env n=pure c:=by unfold cellOf; rw[hc]
    rw[if_pos hk] at hr;have hc':env.cells.lookup n=some c:=hc;rw[hc'] at hr;show(((if (k == bB)=true then(do let a <- cellOf env n; pure (dm ((n,a)::cs))) else pure (dm cs)):lU _) >>= _)=_;rw[if_pos hk,e];refine Eq.trans ?_ (hr.trans ?_)
    ·rfl
    ·rw[zCs,if_pos hk,hc']
   ·rw[if_neg hk] at hr;show(((if (k == bB)=true then(do let a <- cellOf env n; pure (dm ((n,a)::cs))) else pure (dm cs)):lU _) >>= _)=_;rw[if_neg hk];refine Eq.trans ?_ (hr.trans ?_)
    ·rfl
    ·rw[zCs,if_neg hk]
 exact congrArg (λ(z:lU (List (aA×af)))=>z >>= λcs=>pure cs) (key scope.names [] h)
theorem qX{env:fV} : ∀(names:List (aA×eF))(cs:List (aA×af)),(∀ x∈names,x.2=.free->∃ c,env.cells.lookup x.1=some c) ->
  (∀ x c,cs.lookup x=some c->env.cells.lookup x=some c)->∀ x c,(zCs env names cs).lookup x=some c->env.cells.lookup x=some c
 | [],_,_,hc=>hc
 | (n,k)::r,cs,h,hc=>by
  refine qX r _ (λy hy=>h y (bE _ hy)) λx c=>?_;by_cases hk:(k == bB)=true
  ·rw[if_pos hk];obtain⟨d,hd⟩:=h (n,k) cr (by simpa using hk);have hd':env.cells.lookup n=some d:=hd;intro e;rw[be] at e;cases hx:x == n with
   | true =>
    rw[hx,hd'] at e;have ex:x=n:=by simpa using hx
    rw[ex,hd'];exact e
   | false =>
    rw[hx] at e;exact hc x c e
  ·rw[if_neg hk];exact hc x c
theorem zG8{env:fV} : ∀(names:List (aA×eF))(cs:List (aA×af))(x:aA),((x,bB)∈names\/∃ c,cs.lookup x=some c)->∃ c,(zCs env names cs).lookup x=some c
 | [],_,_,h=>h.elim (λz=>nomatch z) id
 | (n,k)::r,cs,x,h=>by
  refine zG8 r _ x ?_;by_cases hk:(k == bB)=true
  ·rw[if_pos hk];cases hx:x == n with
   | true=>exact .inr ⟨_,by rw[be,hx]⟩
   | false =>
    rcases h with h | ⟨c,h⟩
    ·rcases aD.mp h with e | e
     ·injection e with e1 _
      subst e1;simp at hx
     ·exact .inl e
    ·exact .inr ⟨c,by rw[be,hx]; exact h⟩
  ·rw[if_neg hk];rcases h with h | h
   ·rcases aD.mp h with e | e
    ·injection e with _ e2
     subst e2;exact absurd rfl hk
    ·exact .inl e
   ·exact .inr h
theorem zD6{env:fV} : ∀{names:List (aA×eF)}{x:aA},names.lookup x=some .free ->
  (names.map λ(n,k)=>if (k == bB&&env.scope.kind == .function&&env.kindOf n == some .cell) then(n,d9) else(n,k)).lookup x=some .cell \/
  (names.map λ(n,k)=>if (k == bB&&env.scope.kind == .function&&env.kindOf n == some .cell) then(n,d9) else(n,k)).lookup x=some .free
 | [],_,h=>by simp at h
 | (n,k)::r,x,h=>by
  have ih:=@zD6 env r x;show bF x ((if (k == bB&&env.scope.kind == .function&&env.kindOf n == some .cell)=true then(n,d9) else(n,k))::_)=_\/bF x ((if (k == bB&&env.scope.kind == .function&&env.kindOf n == some .cell)=true then(n,d9) else(n,k))::_)=_;by_cases hc:(k == bB&&env.scope.kind == .function&&env.kindOf n == some .cell)=true
  ·rw[if_pos hc];cases hx:x == n with
   | true=>exact .inl (by rw[be,hx])
   | false =>
    rw[be,hx] at h;rw[be,hx];exact ih h
  ·rw[if_neg hc];cases hx:x == n with
   | true =>
    rw[be,hx] at h;exact .inr (by rw[be,hx]; exact h)
   | false =>
    rw[be,hx] at h;rw[be,hx];exact ih h
theorem zA2{env:fV} : ∀{names:List (aA×eF)}{x:aA}{j:eF},(∀ y∈names,y.2≠.cell)->(j=.cell\/j=.free) ->
  (names.map λ(n,k)=>if (k == bB&&env.scope.kind == .function&&env.kindOf n == some .cell) then(n,d9) else(n,k)).lookup x=some j->(x,bB)∈names
 | [],_,_,_,_,h=>by simp at h
 | (n,k)::r,x,j,hn,hj,h=>by
  have ih:=@zA2 env r x j (λy hy=>hn y (bE _ hy)) hj;have hk0:k≠.cell:=hn (n,k) cr
  replace h:bF x ((if (k == bB&&env.scope.kind == .function&&env.kindOf n == some .cell)=true then(n,d9) else(n,k))::(r.map λ(n,k)=>if (k == bB&&env.scope.kind == .function&&env.kindOf n == some .cell) then(n,d9) else(n,k)))=some j:=h
  by_cases hc:(k == bB&&env.scope.kind == .function&&env.kindOf n == some .cell)=true
  ·rw[if_pos hc] at h;have hf:k=.free:=by
    simp only[aZ] at hc;simpa using hc.1.1
   cases hx:x == n with
   | true =>
    have ex:x=n:=by simpa using hx
    subst ex;rw[<- hf];exact cr
   | false =>
    rw[be,hx] at h;exact bE _ (ih h)
  ·rw[if_neg hc] at h;cases hx:x == n with
   | true =>
    rw[be,hx] at h;have ex:x=n:=by simpa using hx
    have ek:k=j:=a7 h;subst ex;rcases hj with hj | hj
    ·exact absurd (ek.trans hj) hk0
    ·rw[<- hj,<- ek];exact cr
   | false =>
    rw[be,hx] at h;exact bE _ (ih h)

def uE(X:Cx)(N:List aA)(scope:fg)(c:CC):Cx where
 prog:=X.prog
 w:=X.w
 K:=X.K
 mg:=X.mg
 base:=X.base
 A:=X.A
 N:=N
 s₀:=c.s
 H₀:=c.H
 env:=compEnvC scope (zCs X.env scope.names []) c.C X.env
 outer:=X.stack
 stack:=X.stack
 ex:=c.fp
 fn:=λ_=>false
 calm:=X.calm
 pn:=[]
 xe:=λ_ _=>False

def zHt(X:Cx)(scope:fg):List (aA×Nat)->Prop
 | []=>True
 | p::r=>(X.N[p.2]?=some p.1/\scope.names.lookup p.1=some .free/\(X.env.kindOf p.1=some .cell\/X.env.kindOf p.1=some .free))/\zHt X scope r
theorem zHt.mem{X:Cx}{scope:fg} : ∀{caps:List (aA×Nat)},zHt X scope caps->∀ p∈caps,X.N[p.2]?=some p.1/\scope.names.lookup p.1=some .free/\(X.env.kindOf p.1=some .cell\/X.env.kindOf p.1=some .free)
 | [],_,_,h=>nomatch h
 | q::r,h,p,hp=>by
  rcases aD.mp hp with e | e
  ·rw[e]; exact h.1
  ·exact zHt.mem h.2 p e
structure zAh(X:Cx)(caps:List (aA×Nat))(scope:fg):Prop where
 kind:scope.kind=.function
 nocell:∀ y∈scope.names,y.2≠.cell
 loc:∀ y∈scope.names,y.2=.local->scope.names.lookup y.1=some .local
 clos:(scope.names.all λx=>!(x.2 == .free)||(X.env.cells.lookup x.1).isSome)=true
 cap:zHt X scope caps
theorem zAh.cells{X:Cx}{caps:List (aA×Nat)}{scope:fg}(S:zAh X caps scope):∀ x∈scope.names,x.2=.free->∃ c,X.env.cells.lookup x.1=some c:=λx hx hf=>by
 have h:=bH.mp S.clos x hx;rw[hf] at h;simp only[iz] at h;rcases h with h | h
 ·exact absurd h (by decide)
 ·exact aL.mp h

def zQv(caps:List (aA×Nat))(nt:Nat)(σ:St):St:=bz nt none++caps.map λp=>(σ[p.2]?).join

def yh9(Y:Cx)(ifs:List bu)(t:TT):Prop :=
 ∀(pins:List (af×cz))(s:ai)(σ:St)(H:Hp)(Q:Bool->Hp->Prop),Inv Y pins σ H s->t σ H Q ->
  wpAny (model Y.prog Y.w) Y.A (forIn ifs true λc r=>if r=true then do let ok <- isTrue c Y.env (eval c Y.env); pure (dm ok) else pure (dm r)) (TP Y pins σ Q) Y.xe s
def zYm:TT:=λ_ H Q=>Q true H
theorem wP{Y:Cx} : yh9 Y [] zYm:=λ_ _ _ H _ I h=>wpAny_tests_nil ⟨H,I,h⟩
theorem zUl{Y:Cx}{c:bu}{t:TT}(h:PT Y c t):yh9 Y [c] t:=λpins s σ H Q I q=>wpAny_tests_one (h pins s σ H Q I q)

def zDn(J:It)(D:af)(g:TG)(tt:TT)(te:TE)(σ0:St)(H1:Hp)(Q:VK):Prop :=
 ∃ W:Nat->Nat->St->List V->Hp->Prop,(∃ m,W 0 m σ0 [] (upd H1 D (.lst [])))/\∀ i m σ ys H,W i m σ ys H->H D=some (.lst ys) /\
  ((J.stop i H/\Q (.ref D) H)\/(J.go i H/\∃ N:St->List V->Hp->Prop,(∀ σ' zs H',N σ' zs H'->∃ m',m'<m/\W (i+1) m' σ' zs H')/\∀ x H',J.yld i H x H'->g x σ H' λσ2 H2=>tt σ2 H2 λb H3 =>
   if b=true then te σ2 H3 λy H4=>H4 D=some (.lst ys)/\ys.length<sizeLine/\N σ2 (ys++[y]) (upd H4 D (.lst (ys++[y]))) else N σ2 ys H3))
def yf8(nt:Nat)(caps:List (aA×Nat))(wi:TI)(g:CC->TG)(tt:CC->TT)(te:CC->TE):TE:=λσ H Q =>
 wi σ H λJ H1=>∀(c:CC)(D:af),H1 D=none->zDn J D (g c) (tt c) (te c) (zQv caps nt σ) H1 Q

theorem zOu{α:Type}{t:lU α}{Q Q':α->ai->Prop}{M:mC}{A:bD}{E:ag->ai->Prop}{s:ai}(h:wpAny M A t Q (λ_ _=>False) s)(hQ:∀ a s,Q a s->Q' a s):wpAny M A t Q' E s:=cT h hQ λ_ _ x=>x.elim
theorem Un.same{fs ex:List af}{H H':Hp}{h h1 h2:aV}{C:af}(u:Un fs ex H H' h h1)(sb:cI C h1 h2)(hC:h.get? C=none):Un fs ex H H' h h2:=by
 have ne:∀ b o,h.get? b=some o->b≠C:=λb o e z=>by rw[z,hC] at e; cases e
 refine⟨λb o e n hb hx=>(sb.2 b (ne b o e)).trans (u.keep b o e n hb hx),λb o e n hb hx=>?_,u.free,λb o e hx=>?_,u.tups,u.frzs,u.tbls⟩
 ·obtain⟨sl,q⟩:=u.slot b o e n hb hx;exact⟨sl,(sb.2 b (ne b o e)).trans q⟩
 ·obtain⟨o',q⟩:=u.there b o e hx;exact⟨o',(sb.2 b (ne b o e)).trans q⟩
theorem HOk.same{P:aK}{w:aT}{H:Hp}{h h':aV}{C:af}(k:HOk P w H h)(sb:cI C h h')(hC:H C=none):HOk P w H h':=λb o e=>by
 refine(k b o e).stay (λc v hc q=>(sb.2 c ?_).trans q) (λ_ q=>q) λ_ _ q=>q;rintro rfl;rcases hc with z | z
 ·rw[z,e] at hC; cases hC
 ·rw[hC] at z; cases z

section
variable{X:Cx}{T:List aA}{caps:List (aA×Nat)}{scope:fg}{elt target iter:bu}{ifs:List bu}{pos:eS}{wi:TI}{g:CC->TG}{tt:CC->TT}{te:CC->TE}

theorem zH1{pins:List (af×cz)}{σ:St}{H2:Hp}{s2:ai}{fp:List af}{C D:af}{h1:aV}{tk:Nat}{m:aA->Option ag}(S:zAh X caps scope)(I2:Inv X pins σ H2 s2)(f2:∀ b∈fp,zNn X pins H2 b)
  (hfp:∀ b∈fp,b<s2.heap.objs.size) (hD:s2.heap.objs.size<=D) (hC:s2.heap.objs.size<=C) (hDC:C≠D) (old:∀ b o,s2.heap.get? b=some o->h1.get? b=some o)
  (acc:∃ n,h1.get? D=some { cls:=.type "list",data:=.seq ([]:List ag).toArray n }) (hn:h1.Ns C m) :
  Inv (uE X (T++caps.map (·.1)) scope ⟨C,s2,H2,fp⟩) [] (zQv caps T.length σ) (upd H2 D (.lst [])) { s2 with heap:=h1,toks:=tk }:=by
 have cs:=qX (env:=X.env) scope.names [] S.cells (λ_ _ z=>by cases z);have cellOld:∀ x c,X.env.cells.lookup x=some c->c<s2.heap.objs.size:=λx c e=>by
  obtain⟨v,q⟩:=I2.cell x c e;exact q.lt
 have stkNo:∀ b∈fp,b ∉ frs X.stack:=λb hb z=>by
  rcases aD.mp (I2.stkSub b z) with e | e
  ·exact(f2 b hb).2.1 e
  ·exact(f2 b hb).2.2.1 e
 have fr:H2 D=none:=I2.hok.fresh hD;refine⟨⟨I2.ok.mod,S.kind,I2.ok.glob,I2.ok.blt,hC,λx y c e1 e2=>I2.ok.inj x y c (cs x c e1) (cs y c e2),λx hx=>?_,λ_ _ z=>absurd (show false=true from z) aB,I2.ok.hd,I2.ok.frames,.inl rfl,λb hb=>⟨?_,λx c e=>(f2 b hb).2.2.2.2.1 x c (cs x c e)⟩,
  λb o e=>I2.bs b o e,aJ I2.ok.bsz I2.sz,λb o e hb=>?_,stkNo,I2.stack,I2.stkFree⟩,rfl,I2.bare,?_,⟨m,hn,λi x v e1 e2 e3=>?_⟩,λx c e=>?_,?_,λx c e=>?_,λp hp=>absurd (show p∈([]:List (af×cz)) from hp) (by simp),?_,?_⟩
 ·have hx':(x,bB)∈scope.names:=by
   rcases hx with z | z
   ·exact zA2 S.nocell (.inl rfl) z
   ·exact zA2 S.nocell (.inr rfl) z
  exact zG8 scope.names [] x (.inl hx')
 ·exact aP (aR (hfp b hb) hC)
 ·rcases (f2 b hb).2.2.2.1 with z | z
  ·exact I2.ok.noex b o e z
  ·exact absurd (aR (aw (show X.base.get? b=some o from e)) (aJ I2.ok.bsz z)) (cX _)
 ·exact Un.laid old hD fr
 ·have hlt:¬ i<T.length:=λhi=>by
   unfold zQv at e2;rw[dF (by simpa using hi),fh,if_pos hi] at e2;cases e2
  have hge:T.length<=i:=ko hlt;have e1':(T++caps.map (·.1))[i]?=some x:=e1;rw[cK hge,av] at e1';unfold zQv at e2;rw[cK (by simpa using hge),cR,av] at e2;cases hp:caps[i-T.length]? with
  | none=>rw[hp] at e1'; cases e1'
  | some p =>
   rw[hp] at e1' e2;have ex:p.1=x:=a7 e1';have ev:(σ[p.2]?).join=some v:=a7 e2;obtain⟨hN,hf,hk⟩:=S.cap.mem p (aN hp);have ev':σ[p.2]?=some (some v):=by
    cases hq:σ[p.2]? with
    | none=>rw[hq] at ev; cases ev
    | some o =>
     rw[hq] at ev;exact congrArg some ev
   obtain⟨m2,_,hl2⟩:=I2.loc;obtain⟨u,ru,l⟩:=hl2 p.2 p.1 v hN ev' (hk.elim (λz=>.inr (.inl z)) λz=>.inr (.inr z));refine⟨u,ru,.inr ⟨?_,?_⟩⟩
   ·rw[<- ex];exact zD6 (env:=X.env) hf
   ·rcases l with ⟨kl,_⟩ | ⟨_,c,ec,hcell⟩
    ·rcases hk with z | z <;>(rw[kl] at z; cases z)
    ·obtain⟨d,hd⟩:=zG8 (env:=X.env) scope.names [] p.1 (.inl (dn hf));have hd':=cs p.1 d hd;rw[ec] at hd';cases hd';obtain⟨o,ho,hod⟩:=hcell;exact⟨c,by rw[<- ex]; exact hd,o,old c o ho,hod⟩
 ·obtain⟨v,o,ho,hd⟩:=I2.cell x c (cs x c e);exact⟨v,o,old c o ho,hd⟩
 ·show upd H2 D (.lst []) C=none;rw[zH hDC];exact I2.hok.fresh hC
 ·show upd H2 D (.lst []) c=none;rw[zH (aP (aR (cellOld x c (cs x c e)) hD))];exact I2.freeC x c (cs x c e)
 ·obtain⟨n,e⟩:=acc;exact I2.hok.laid old hD ⟨br _,[],n,.nil,e⟩
 ·show(zQv caps T.length σ).length=(T++caps.map (·.1)).length;unfold zQv;rw[aF,aF,ac,ac,cR]

theorem vY(S:zAh X caps scope)(hc:X.calm=true)(hi:PI X target iter wi)(hg:∀ c,PG (uE X (T++caps.map (·.1)) scope c) target (g c))(ht:∀ c,yh9 (uE X (T++caps.map (·.1)) scope c) ifs (tt c))(he:∀ c,PE (uE X (T++caps.map (·.1)) scope c) elt (te c))
  (hs:∀ x,foldedSetIterable iter X.env x=pure x:=by intro _; rfl):PE X (.ListComp elt [⟨target,iter,ifs,0⟩] scope pos) (yf8 T.length caps wi g tt te):=by
 intro pins s σ H Q I h;rw[eval_ListComp];refine gY (use:=none) rfl hs (zSr S.cells) S.kind S.loc (thn (hi pins s σ H _ I h) λv s1 h1=>thn h1 λitv s2 h2=>?_);obtain⟨it,fp,tn,J,H2,e,I2,TT,st2,f2,q2⟩:=h2;subst e;refine bj (iV S.nocell (by intro y hy; simp at hy) (λh1 hn hsb=>?_) S.kind);dsimp only at hn hsb ⊢;generalize hg2:s2.heap.push { cls:=.type "list",dict:=none,data:=.seq ([]:List ag).toArray }=G at hn hsb ⊢;have hCv:G.objs.size=s2.heap.objs.size+1:=by rw[<- hg2,c7]
 have hDC:G.objs.size≠s2.heap.objs.size:=by rw[hCv]; exact kx _
 have hCle:s2.heap.objs.size<=G.objs.size:=by rw[hCv]; exact dZ _
 have old:∀ b o,s2.heap.get? b=some o->h1.get? b=some o:=λb o e=>hsb.extBut b o (aP (aR (aw e) hCle)) (ah _ (hg2 ▸ ah _ e));have hacc:∃ n,h1.get? s2.heap.objs.size=some { cls:=.type "list",data:=.seq ([]:List ag).toArray n }:=⟨_,hsb.extBut _ _ (cm hDC) (ah _ (hg2 ▸ ap _ rfl))⟩;have hfp:∀ b∈fp,b<s2.heap.objs.size:=λb hb=>by
  obtain⟨o,e,_⟩:=TT.obj _ _ st2 b hb;exact aw e
 have cs:=qX (env:=X.env) scope.names [] S.cells (λ_ _ z=>by cases z);have I0:=zH1 (T:=T) (tk:=s2.toks+([]:List (aA×ag)).length) S I2 f2 hfp (al _) hCle hDC old hacc hn;have st0:tn 0 h1:=TT.keep _ _ _ st2 λb _ o e=>old b o e;obtain⟨W,⟨m0,w0⟩,turn⟩:=q2 ⟨G.objs.size,s2,H2,fp⟩ s2.heap.objs.size (I2.hok.fresh (al _));have fr0:∀ b∈fp,upd H2 s2.heap.objs.size (.lst []) b=none:=λb hb=>by
  rw[zH (aP (hfp b hb))];exact(f2 b hb).1
 have stat:∀{H':Hp},(∀ b∈fp,H' b=none)->∀ b∈fp,zNn (uE X (T++caps.map (·.1)) scope ⟨G.objs.size,s2,H2,fp⟩) [] H' b:=λ{H'} hn' b hb =>
  ⟨hn' b hb,aP (aR (hfp b hb) hCle),I0.ok.exfs b hb,.inl hb,λx c e=>(f2 b hb).2.2.2.2.1 x c (cs x c e),λp hp=>absurd (show p∈([]:List (af×cz)) from hp) (by simp)⟩
 have loop:codeAny (model X.prog X.w) X.A (.compLoop (.ListComp elt [⟨target,iter,ifs,0⟩] scope pos) 0 (.ref it) (.ref s2.heap.objs.size) (compEnvC scope (zCs X.env scope.names []) G.objs.size X.env))
   (compPost (model X.prog X.w) X.A X.xe none (EP X pins σ Q) (.ref s2.heap.objs.size) G.objs.size) { s2 with heap:=h1,toks:=s2.toks+([]:List (aA×ag)).length }:=by
  refine codeAny_loop rfl (λn s'=>∃ i σ' ys H',Inv (uE X (T++caps.map (·.1)) scope ⟨G.objs.size,s2,H2,fp⟩) [] σ' H' s'/\tn i s'.heap/\(∀ b∈fp,H' b=none)/\W i n σ' ys H') (λn s3 hI=>?_) m0 ⟨0,_,[],_,I0,st0,fr0,w0⟩;obtain⟨i,σ3,ys,H3,I3,st3,fr3,w3⟩:=hI;show wpAny _ X.A ((compTurn (.ListComp elt [⟨target,iter,ifs,0⟩] scope pos) 0 (.ref it) (.ref s2.heap.objs.size) (compEnvC scope (zCs X.env scope.names []) G.objs.size X.env)).onRaise (λx=>do noteFrame x (compEnvC scope (zCs X.env scope.names []) G.objs.size X.env); theTreesLotGoes x)) _ _ s3;refine wpAny_noted ?_;rw[compTurn_list];refine aa (fH (aa ?_));obtain⟨hD3,turn3⟩:=turn i n σ3 ys H3 w3;rcases turn3 with ⟨stop,qn⟩ | ⟨go,N,hN,step⟩
  ·refine zOu (TT.done (uE X (T++caps.map (·.1)) scope ⟨G.objs.size,s2,H2,fp⟩) rfl rfl rfl hc i [] s3 σ3 H3 _ I3 (stat fr3) st3 stop) λr s4 ⟨hr,I4⟩=>?_;subst hr;refine ak ?_;show ∃ m,s4.heap.Ns G.objs.size m/\∀ h',cI G.objs.size s4.heap h'->EP X pins σ Q (.ref s2.heap.objs.size) { s4 with heap:=h' };obtain⟨m4,hn4,_⟩:=I4.loc;refine⟨m4,hn4,λh' sb=>⟨.ref s2.heap.objs.size,H3,?_,U,qn⟩⟩;refine I2.call' (s':={ s4 with heap:=h' }) (ch:=fp) I4.os (Un.same I4.base sb (fI hCle)) (HOk.same I4.hok sb I4.free) I4.bare λb hb=>?_;obtain⟨_,f1,_,f3,f4,f5⟩:=f2 b hb;exact⟨f3,f1,f4,f5⟩
  ·refine zOu (TT.item (uE X (T++caps.map (·.1)) scope ⟨G.objs.size,s2,H2,fp⟩) rfl rfl rfl hc i [] s3 σ3 H3 _ I3 (stat fr3) st3 go) λr s4 ⟨u,hr,h4⟩=>?_;subst hr;refine aa (zOu h4 λ_ s5 ⟨x,H5,I5,r5,y5,st5,fr5⟩=>?_);have I5':=I5.pinned (stat fr5) (TT.obj _ _ st5);refine aa (zOu (hg _ _ s5 σ3 H5 x u _ I5' r5 (step x H5 y5)) λ_ s6 ⟨σ6,H6,I6,q6⟩=>?_);have again:∀{s7:ai}{σ7:St}{zs:List V}{H7:Hp},Inv (uE X (T++caps.map (·.1)) scope ⟨G.objs.size,s2,H2,fp⟩) ([]++zHx fp s5.heap) σ7 H7 s7->N σ7 zs H7 ->
     ∃ m,m<n/\∃ i σ' ys H',Inv (uE X (T++caps.map (·.1)) scope ⟨G.objs.size,s2,H2,fp⟩) [] σ' H' s7/\tn i s7.heap/\(∀ b∈fp,H' b=none)/\W i m σ' ys H':=λ{s7 σ7 zs H7} I7 n7=>by
    obtain⟨m',hm,w7⟩:=hN σ7 zs H7 n7;refine⟨m',hm,i+1,σ7,zs,H7,I7.unpinned,TT.keep _ _ _ st5 λb hb o e=>(I7.pin (b,o) (aW _ (aW _ (tT hb e)))).1,λb hb=>?_,w7⟩;obtain⟨o,e,d⟩:=TT.obj _ _ st5 b hb;exact(I7.pin (b,o) (aW _ (aW _ (tT hb e)))).2.1
   refine aa (zOu (ht _ _ s6 σ6 H6 _ I6 q6) λok s7 ⟨H7,I7,q7⟩=>?_);cases ok with
   | false=>exact ak ⟨rfl,again I7 q7⟩
   | true =>
    refine aa (aa (zOu (he _ _ s7 σ6 H7 _ I7 q7) λy s8 ⟨yv,H8,I8,r8,hD8,hl8,q8⟩=>?_));refine aa (zOu (zGp _ s8 σ6 H8 (.ref s2.heap.objs.size) [yv] (.ref s2.heap.objs.size) [y] (λ_ H9=>N σ6 (ys++[yv]) H9) I8 rfl (.cons r8 .nil) ⟨_,ys,yv,rfl,rfl,hD8,hl8,q8⟩) λ_ s9 ⟨_,H9,I9,_,q9⟩=>?_);exact ak (ak ⟨rfl,again I9 q9⟩)
 exact codeAny_compStart_list loop (TT.self _ 0 _ _ _ st0 loop)
end
end L2

namespace L2
open PySem PySem.Spec PyProof.Rows

theorem wV:bootBuiltins "len" = some (.builtin "len"):=by decide +kernel
theorem yd0:bootBuiltins "abs" = some (.builtin "abs"):=by decide +kernel
theorem zGz:bootBuiltins "all" = some (.builtin "all"):=by decide +kernel
theorem zWl:bootBuiltins "any" = some (.builtin "any"):=by decide +kernel
theorem zZ8:bootBuiltins "max" = some (.builtin "max"):=by decide +kernel
theorem zX:bootBuiltins "isinstance" = some (.builtin "isinstance"):=by decide +kernel
theorem zTw:bootBuiltins "int" = some (.type "int"):=by decide +kernel
theorem zRf:bootBuiltins "bool" = some (.type "bool"):=by decide +kernel
theorem zW2:bootBuiltins "str" = some (.type "str"):=by decide +kernel
theorem zAl:bootBuiltins "list" = some (.type "list"):=by decide +kernel
theorem zJt:bootBuiltins "tuple" = some (.type "tuple"):=by decide +kernel
theorem yd1:bootBuiltins "zip" = some (.type "zip"):=by decide +kernel

def Has(P:aK)(w:aT)(K:ae)(mg:aA->Option ag)(base:aV)(x:aA)(n:Nat)(ps:List aA)(sp:Sp):Prop :=
 ∃(f:af)(fd:bP),yQ P w K mg base CX0 n f fd ps sp/\zC6 K fd ps []/\bV K (.ref f)=true/\mg x=some (.ref f)
section
variable{X:Cx}{x:aA}{p pos:eS}{e:bu}{es:List bu}{t:TA}{n:Nat}{ps:List aA}{sp:Sp}
theorem uB(h:Has X.prog X.w X.K X.mg X.base x n ps sp)(hr:qO n X.A)(hg:Gl X x)(ha:PA X (e::es) t)(hdb:(x ==("__debug__" : aA))=false:=by decide)
  (he:starEach (e::es) X.env=(false,eval e X.env)::starEach es X.env:=by rfl) (hpl:(backTo pos (starEach es X.env)).any (·.1)=false:=by rfl):PE X (.Call (.Name x p) (e::es) [] pos) (zQ1 sp [] E0 t):=by
 obtain⟨f,fd,F,b,k,m⟩:=h;exact zYc F hr hg m k b .nil zSu ha hdb he hpl
end

section
variable{X:Cx}
def zDi(i j:Int):Prop:=0<j/\j.natAbs<2^4096
theorem zV9:OpR X (binaryOp .FloorDiv) (rI zDi λi j=>.int (i/j)):=opI λi j _ _ _ _ _ hc q=>by
 have h1:(0:Int)<j:=hc.1;have h3:j.natAbs.log2<9000:=cY ((kM (by lia)).mpr hc.2) (by decide);exact floordiv_int (by lia) (by rw[Int.fdiv_eq_ediv_of_nonneg i (by lia)]; exact q) (.inl (PyProof.noPylong_of_log2 h3))
theorem zDi.of{i j:Int}(h:0<j)(h2:j<10^600):zDi i j:=by
 exists h;have e:(10:Nat)^600<2^4096:=by decide +kernel
 lia
theorem zNf:uS X (.builtin "isinstance") (λxs H Q=>∃ x T t b,xs=[x,.ty T]/\TyOf X.K H x t/\cJ X.K t (.type T)=some b/\Q (.bl b) H):=by
 intro pins s σ H xs us Q I r h;obtain⟨x,T,t,b,rfl,ty,e,q⟩:=h;obtain⟨u,v,rfl,ru,rv⟩:=yV.two r;cases rv;exact zRk I ru ty e λtk=>⟨.bl b,H,I.tok tk,rfl,q⟩

def Sq(K:ae)(H:Hp)(p:af)(xs:List V):Prop:=SqL K H p xs\/SqT K H p xs
inductive RIx(K:ae)(x y:V)(H:Hp)(Q:VK):Prop where
 | mk (p:af) (xs:List V) (i:Int) (v:V) (ex:x=.ref p) (ey:y=.int i) (sq:Sq K H p xs) (at':atI xs i=some v) (q:Q v H)
def rIxA(K:ae):R2:=λx y H Q=>RIx K x y H Q
theorem zMe:IxR X (rIxA X.K):=by
 intro value slice pins s σ H x y v u Q I rx ry q hs;obtain⟨p,xs,i,z,e1,e2,hq,ha,q⟩:=q;rcases hq with hq | hq
 ·exact zY8 value slice pins s σ H x y v u Q I rx ry ⟨p,xs,i,z,e1,e2,hq,ha,q⟩ hs
 ·exact yd9 value slice pins s σ H x y v u Q I rx ry ⟨p,xs,i,z,e1,e2,hq,ha,q⟩ hs
def iSeq(K:ae)(tl:TE):TI:=λσ H R=>tl σ H λx H1=>∃ a,x=.ref a/\(((∃ xs,SqL K H1 a xs)/\R (Itl K a) H1)\/((∃ xs,SqT K H1 a xs)/\R (Itt K a) H1))
theorem zO5{tg l:bu}{tl:TE}(hl:PE X l tl):PI X tg l (iSeq X.K tl):=by
 intro pins s σ H R I h;refine thn (hl pins s σ H _ I h) λv s1 ⟨x,H1,I1,r1,q1⟩=>?_;obtain⟨a,e,q⟩:=q1;subst e;cases r1;have own:∀ b,b∈[s1.heap.objs.size]->zNn X pins H1 b:=λb hb=>by
  rw[au] at hb;subst hb;exact I1.fpOk (al _) (I1.hok.fresh (al _))
 rcases q with ⟨⟨xs,hq⟩,q⟩ | ⟨⟨xs,hq⟩,q⟩
 ·obtain⟨its,rv,p,hz⟩:=I1.list hq;exact dN p.isList ⟨s1.heap.objs.size,[s1.heap.objs.size],_,_,H1,rfl,I1.kept (t':=s1.toks) λb o e=>ah _ e,zLt a _,⟨_,ap _ rfl,rfl,rfl⟩,own,q⟩
 ·obtain⟨its,rv,p,hz⟩:=I1.tuple hq;exact gq (show s1.heap.IsTuple a its.toArray from p) ⟨s1.heap.objs.size,[s1.heap.objs.size],_,_,H1,rfl,I1.kept (t':=s1.toks) λb o e=>ah _ e,zIp a _,⟨_,ap _ rfl,rfl,rfl⟩,own,q⟩
end

section
variable{K:ae}{a D:af}{xs:List V}{g:TG}{tt:TT}{te:TE}{σ0:St}{H1:Hp}{Q:VK}
theorem zRz(Pv:Nat->St->List V->Hp->Prop)(h0:Pv 0 σ0 [] (upd H1 D (.lst [])))(hl:∀ i σ ys H,i<=xs.length->Pv i σ ys H->SqL K H a xs/\H D=some (.lst ys))
  (hs:∀ i x σ ys H,xs[i]?=some x->Pv i σ ys H->g x σ H λσ2 H2=>tt σ2 H2 λb H3 =>
   if b=true then te σ2 H3 λy H4=>H4 D=some (.lst ys)/\ys.length<sizeLine/\Pv (i+1) σ2 (ys++[y]) (upd H4 D (.lst (ys++[y]))) else Pv (i+1) σ2 ys H3)
  (hd:∀ σ ys H,Pv xs.length σ ys H->Q (.ref D) H):zDn (Itl K a) D g tt te σ0 H1 Q:=by
 exists λi m σ ys H=>m=xs.length-i/\i<=xs.length/\Pv i σ ys H,⟨xs.length,by simp,br _,h0⟩;rintro i m σ ys H ⟨rfl,hi,p⟩;obtain⟨q,qd⟩:=hl i σ ys H hi p;exists qd;by_cases hlt:i<xs.length
 ·refine .inr ⟨⟨xs,xs[i],q,by simp[hlt]⟩,Pv (i+1),λσ' zs H' z=>⟨xs.length-(i+1),by lia,rfl,hlt,z⟩,λx H' y=>?_⟩;obtain⟨e,y⟩:=y;subst e;exact hs i x σ ys _ (y xs q) p
 ·have e:i=xs.length:=by lia
  subst e;exact .inl ⟨⟨xs,q,al _⟩,hd σ ys H p⟩
theorem zUu(Pv:Nat->St->List V->Hp->Prop)(h0:Pv 0 σ0 [] (upd H1 D (.lst [])))(hl:∀ i σ ys H,i<=xs.length->Pv i σ ys H->SqT K H a xs/\H D=some (.lst ys))
  (hs:∀ i x σ ys H,xs[i]?=some x->Pv i σ ys H->g x σ H λσ2 H2=>tt σ2 H2 λb H3 =>
   if b=true then te σ2 H3 λy H4=>H4 D=some (.lst ys)/\ys.length<sizeLine/\Pv (i+1) σ2 (ys++[y]) (upd H4 D (.lst (ys++[y]))) else Pv (i+1) σ2 ys H3)
  (hd:∀ σ ys H,Pv xs.length σ ys H->Q (.ref D) H):zDn (Itt K a) D g tt te σ0 H1 Q:=by
 exists λi m σ ys H=>m=xs.length-i/\i<=xs.length/\Pv i σ ys H,⟨xs.length,by simp,br _,h0⟩;rintro i m σ ys H ⟨rfl,hi,p⟩;obtain⟨q,qd⟩:=hl i σ ys H hi p;exists qd;by_cases hlt:i<xs.length
 ·refine .inr ⟨⟨xs,xs[i],q,by simp[hlt]⟩,Pv (i+1),λσ' zs H' z=>⟨xs.length-(i+1),by lia,rfl,hlt,z⟩,λx H' y=>?_⟩;obtain⟨e,y⟩:=y;subst e;exact hs i x σ ys _ (y xs q) p
 ·have e:i=xs.length:=by lia
  subst e;exact .inl ⟨⟨xs,q,al _⟩,hd σ ys H p⟩
theorem zQi{lo:Int}{n:Nat}(Pv:Nat->St->List V->Hp->Prop)(h0:Pv 0 σ0 [] (upd H1 D (.lst [])))(hl:∀ i σ ys H,i<=n->Pv i σ ys H->H D=some (.lst ys))
  (hs:∀ i σ ys H,i<n->Pv i σ ys H->g (.int (lo+i)) σ H λσ2 H2=>tt σ2 H2 λb H3 =>
   if b=true then te σ2 H3 λy H4=>H4 D=some (.lst ys)/\ys.length<sizeLine/\Pv (i+1) σ2 (ys++[y]) (upd H4 D (.lst (ys++[y]))) else Pv (i+1) σ2 ys H3)
  (hd:∀ σ ys H,Pv n σ ys H->Q (.ref D) H):zDn (Itr lo n) D g tt te σ0 H1 Q:=by
 exists λi m σ ys H=>m=n-i/\i<=n/\Pv i σ ys H,⟨n,by simp,br _,h0⟩;rintro i m σ ys H ⟨rfl,hi,p⟩;have qd:=hl i σ ys H hi p;exists qd;by_cases hlt:i<n
 ·refine .inr ⟨hlt,Pv (i+1),λσ' zs H' z=>⟨n-(i+1),by lia,rfl,hlt,z⟩,λx H' y=>?_⟩;obtain⟨e,y⟩:=y;subst e y;exact hs i σ ys _ hlt p
 ·have e:i=n:=by lia
  subst e;exact .inl ⟨al _,hd σ ys H p⟩
end
section
variable{K:ae}{a D:af}{xs:List V}{g:TG}{te:TE}{σ0:St}{H1:Hp}{Q:VK}
theorem zIc(Pv:Nat->St->List V->Hp->Prop)(h0:Pv 0 σ0 [] (upd H1 D (.lst [])))(hl:∀ i σ ys H,i<=xs.length->Pv i σ ys H->SqL K H a xs/\H D=some (.lst ys))
  (hs:∀ i x σ ys H,xs[i]?=some x->Pv i σ ys H->g x σ H λσ2 H2=>te σ2 H2 λy H4=>H4 D=some (.lst ys)/\ys.length<sizeLine/\Pv (i+1) σ2 (ys++[y]) (upd H4 D (.lst (ys++[y]))))
  (hd:∀ σ ys H,Pv xs.length σ ys H->Q (.ref D) H):zDn (Itl K a) D g zYm te σ0 H1 Q:=zRz Pv h0 hl (λi x σ ys H e p=>hs i x σ ys H e p) hd
theorem zMs(Pv:Nat->St->List V->Hp->Prop)(h0:Pv 0 σ0 [] (upd H1 D (.lst [])))(hl:∀ i σ ys H,i<=xs.length->Pv i σ ys H->SqT K H a xs/\H D=some (.lst ys))
  (hs:∀ i x σ ys H,xs[i]?=some x->Pv i σ ys H->g x σ H λσ2 H2=>te σ2 H2 λy H4=>H4 D=some (.lst ys)/\ys.length<sizeLine/\Pv (i+1) σ2 (ys++[y]) (upd H4 D (.lst (ys++[y]))))
  (hd:∀ σ ys H,Pv xs.length σ ys H->Q (.ref D) H):zDn (Itt K a) D g zYm te σ0 H1 Q:=zUu Pv h0 hl (λi x σ ys H e p=>hs i x σ ys H e p) hd
theorem zBz{lo:Int}{n:Nat}(Pv:Nat->St->List V->Hp->Prop)(h0:Pv 0 σ0 [] (upd H1 D (.lst [])))(hl:∀ i σ ys H,i<=n->Pv i σ ys H->H D=some (.lst ys))
  (hs:∀ i σ ys H,i<n->Pv i σ ys H->g (.int (lo+i)) σ H λσ2 H2=>te σ2 H2 λy H4=>H4 D=some (.lst ys)/\ys.length<sizeLine/\Pv (i+1) σ2 (ys++[y]) (upd H4 D (.lst (ys++[y]))))
  (hd:∀ σ ys H,Pv n σ ys H->Q (.ref D) H):zDn (Itr lo n) D g zYm te σ0 H1 Q:=zQi Pv h0 hl (λi σ ys H e p=>hs i σ ys H e p) hd
end
end L2

namespace L2
open PySem PySem.Spec PyProof.Rows
theorem zSx:∀ bs:List Bool,(bJ bs.length).all (λi=>(bs[i]?).getD true)=bs.all id:=by
 intro bs;rw[d6,bH,bH];constructor
 ·intro h b hb;obtain⟨i,hi,e⟩:=i9 hb;have q:=h i (bZ.mpr hi);rw[aj hi,e] at q;exact q
 ·intro h i hi;have hi':=bZ.mp hi;rw[aj hi'];exact h _ (dw hi')
theorem zSt:∀ bs:List Bool,(bJ bs.length).any (λi=>(bs[i]?).getD true)=bs.any id:=by
 intro bs;rw[d6,fE,fE];constructor
 ·rintro⟨i,hi,q⟩;have hi':=bZ.mp hi;rw[aj hi'] at q;exact⟨_,dw hi',q⟩
 ·rintro⟨b,hb,q⟩;obtain⟨i,hi,e⟩:=i9 hb;exists i,bZ.mpr hi;rw[aj hi,e];exact q
theorem zN9{bs:List Bool}{its:List ag}(r:yV (bs.map V.bl) its){i:Nat}{v:ag}(h:its[i]?=some v):v=.bool ((bs[i]?).getD true):=by
 have hl:=r.length;rw[ac] at hl;have hi:i<its.length:=(aM.mp h).1;have hb:i<bs.length:=by lia
 obtain⟨u,hu,ru⟩:=r.get (i:=i) (x:=.bl bs[i]) (by rw[av,aj hb]; rfl);rw[hu] at h;cases h;rw[aj hb];exact ru
section
variable{X:Cx}
theorem sS(hc:X.calm=true):uS X (.builtin "all") (λxs H Q=>∃(p:af)(bs:List Bool),xs=[.ref p]/\SqL X.K H p (bs.map V.bl)/\Q (.bl (bs.all id)) H):=by
 intro pins s σ H xs us Q I r h;obtain⟨p,bs,rfl,hq,q⟩:=h;obtain⟨u,rfl,ru⟩:=yV.one r;cases ru;obtain⟨its,rv,pl,hz⟩:=I.list hq;have plt:p<s.heap.objs.size:=by
  obtain⟨_,e,_⟩:=pl.isList;exact aw e
 refine call_all_walk (dN pl.isList ?_);refine⟨s.heap.objs.size,_,_,_,_,_,λi=>(bs[i]?).getD true,U,m7 (A:=X.A.in1) (show X.A.in1.handled=none from I.ok.hd hc) _ p (aP plt) its.toArray,⟨⟨_,ap _ rfl,U,U⟩,ky pl.isList _⟩,λi v s Q E hP hQ=>?_,λh' tk k=>?_⟩
 ·have e:=zN9 rv (by simpa using hP);subst e;exact cf hQ
 ·have e:(bJ its.toArray.size).all (λi=>(bs[i]?).getD true)=bs.all id:=by
   have hl:=rv.length;rw[ac] at hl;rw[aE,<- hl];exact zSx bs
  rw[e];exact⟨.bl (bs.all id),H,I.kept (t':=tk) λb o z=>k b o (λw=>by rw[au] at w; exact cX _ (w ▸ aw z)) (ah _ z),rfl,q⟩
theorem zK2(hc:X.calm=true):uS X (.builtin "any") (λxs H Q=>∃(p:af)(bs:List Bool),xs=[.ref p]/\SqL X.K H p (bs.map V.bl)/\Q (.bl (bs.any id)) H):=by
 intro pins s σ H xs us Q I r h;obtain⟨p,bs,rfl,hq,q⟩:=h;obtain⟨u,rfl,ru⟩:=yV.one r;cases ru;obtain⟨its,rv,pl,hz⟩:=I.list hq;have plt:p<s.heap.objs.size:=by
  obtain⟨_,e,_⟩:=pl.isList;exact aw e
 refine call_any_walk (dN pl.isList ?_);refine⟨s.heap.objs.size,_,_,_,_,_,λi=>(bs[i]?).getD true,U,m7 (A:=X.A.in1) (show X.A.in1.handled=none from I.ok.hd hc) _ p (aP plt) its.toArray,⟨⟨_,ap _ rfl,U,U⟩,ky pl.isList _⟩,λi v s Q E hP hQ=>?_,λh' tk k=>?_⟩
 ·have e:=zN9 rv (by simpa using hP);subst e;exact cf hQ
 ·have e:(bJ its.toArray.size).any (λi=>(bs[i]?).getD true)=bs.any id:=by
   have hl:=rv.length;rw[ac] at hl;rw[aE,<- hl];exact zSt bs
  rw[e];exact⟨.bl (bs.any id),H,I.kept (t':=tk) λb o z=>k b o (λw=>by rw[au] at w; exact cX _ (w ▸ aw z)) (ah _ z),rfl,q⟩
end
end L2

namespace L2
open PySem PySem.Spec PyProof.Rows

def SI(b:Bool)(h:aV)(i l:af)(k:Nat):Prop:=match b with | true=>h.IsListIter i l k | false=>h.IsTupleIter i l k
def SS(b:Bool)(h:aV)(l:af)(its:Array ag):Prop:=match b with | true=>h.IsList l its | false=>h.IsTuple l its
def zLw(b:Bool):String:=match b with | true => "list_iterator" | false => "tuple_iterator"
theorem SI.obj{b:Bool}{h:aV}{i l:af}{k:Nat}(x:SI b h i l k):∃ o,h.get? i=some o/\o.cls=.type (zLw b)/\o.data=.fields #[.ref l,.int k 0]:=by
 cases b <;> exact x
theorem SI.of{b:Bool}{h:aV}{i l:af}{k:Nat}(x:∃ o,h.get? i=some o/\o.cls=.type (zLw b)/\o.data=.fields #[.ref l,.int k 0]):SI b h i l k:=by
 cases b <;> exact x
theorem SI.at{b:Bool}{h h':aV}{i l:af}{k:Nat}(x:SI b h i l k)(e:∀ o,h.get? i=some o->h'.get? i=some o):SI b h' i l k:=by
 obtain⟨o,ho,r⟩:=x.obj;exact SI.of ⟨o,e o ho,r⟩
theorem SS.at{b:Bool}{h h':aV}{l:af}{its:Array ag}(x:SS b h l its)(e:∀ o,h.get? l=some o->h'.get? l=some o):SS b h' l its:=by
 cases b <;>(obtain⟨o,ho,r⟩:=x; exact⟨o,e o ho,r⟩)
theorem SS.obj{b:Bool}{h:aV}{l:af}{its:Array ag}(x:SS b h l its):∃ o,h.get? l=some o/\o.cls=.type (match b with | true => "list" | false => "tuple"):=by
 cases b <;>(obtain⟨o,ho,hc,_⟩:=x; exact⟨o,ho,hc⟩)
section
variable{prog:aK}{w:aT}{A:bD}{E:ag->ai->Prop}{s:ai}
theorem zUi{i l:af}{k:Nat}{its:Array ag}{y:ag}{Q:ag->ai->Prop}(zi:s.heap.IsTupleIter i l k)(zl:s.heap.IsTuple l its)(zy:its[k]?=some y)
  (zq:∀ h',h'.IsTupleIter i l (k+1)->cI i s.heap h'->Q y { s with heap:=h' }):wpAny (model prog w) A (bx (.ref i)) Q E s:=by
 obtain⟨ob,zo,zc,zd⟩:=id zi;obtain⟨ot,zot,_,nt,zdt⟩:=zl;unfold bx;refine aa (bO (name:=aO "__next__") zi.typeIs dz (bQ dz zi.typeIs f9 ?_ (fR _)));show wpAny _ _ (field (.ref i) 0 >>= _) _ _ s;refine aa (bG zo zd (x:=.ref l) rfl ?_);show wpAny _ _ (if (aI l == bg)=true then _ else _) _ _ s; rw[if_neg (show ¬ ((aI l == bg)=true) from aB)];show wpAny _ _ (field (.ref i) 1 >>= _) _ _ s;refine aa (bG zo zd (x:=.int k 0) rfl ?_);show wpAny _ _ (seqItems? (.ref l) >>= _) _ _ s; refine aa (cL zot zdt ?_);simp only[cg,zy];refine aa (c9 zo zd (by simp) (ak ⟨y,rfl,ak (zq _ ?_ (eV ..))⟩));exact⟨_,cC _ zo (cS (cv zd _)),(eC ..).trans zc,by rw[cv zd]; simp[rawInt]⟩
theorem zZd{i l:af}{k:Nat}{its:Array ag}{Q:ag->ai->Prop}(hh:A.handled=none)(zi:s.heap.IsTupleIter i l k)(zl:s.heap.IsTuple l its)(zy:its[k]?=none)
  (zE:∀ h' e,fi i s.heap h'->(∃ o,h'.get? e=some o/\o.cls=.type "StopIteration")->E (.ref e) { s with heap:=h' }):wpAny (model prog w) A (bx (.ref i)) Q E s:=by
 obtain⟨ob,zo,zc,zd⟩:=id zi;obtain⟨ot,zot,_,nt,zdt⟩:=zl;unfold bx;refine aa (bO (name:=aO "__next__") zi.typeIs dz (bQ dz zi.typeIs f9 ?_ (fR _)));show wpAny _ _ (field (.ref i) 0 >>= _) _ _ s;refine aa (bG zo zd (x:=.ref l) rfl ?_);show wpAny _ _ (if (aI l == bg)=true then _ else _) _ _ s; rw[if_neg (show ¬ ((aI l == bg)=true) from aB)];show wpAny _ _ (field (.ref i) 1 >>= _) _ _ s;refine aa (bG zo zd (x:=.int k 0) rfl ?_);show wpAny _ _ (seqItems? (.ref l) >>= _) _ _ s; refine aa (cL zot zdt ?_);simp only[cg,zy];refine aa (gh (aa (c9 zo zd (by simp) ?_)));show wpAny _ _ (newExc (.type "StopIteration") [] >>= _) _ _ _; refine aa ?_; simp only[newExc,newTuple];refine aa (bj ?_ (by size_fits)); refine aa (m:=firstArgMember _ _) (eI (a:=bg) (by first | rfl | (simp only[firstArgMember]; rfl)) ?_);refine bj ?_ (by size_fits); simp only[raiseNew]; refine aa (jj ?_)
 first | rw[show A.in1.handled=none from hh] | rw[hh]
 refine aa (ak (kN ?_)); exact zE _ _ (((eV ..).extBut.push _).push _) ⟨_,ap _ rfl,rfl⟩
theorem zNq{b:Bool}{i l:af}{k:Nat}{its:Array ag}{y:ag}{Q:ag->ai->Prop}(zi:SI b s.heap i l k)(zl:SS b s.heap l its)(zy:its[k]?=some y)
  (zq:∀ h',SI b h' i l (k+1)->cI i s.heap h'->Q y { s with heap:=h' }):wpAny (model prog w) A (bx (.ref i)) Q E s:=by
 cases b
 ·exact zUi zi zl zy zq
 ·exact wpAny_nextOf_list_item zi zl zy zq
theorem zXb{b:Bool}{i l:af}{k:Nat}{its:Array ag}{Q:ag->ai->Prop}(hh:A.handled=none)(zi:SI b s.heap i l k)(zl:SS b s.heap l its)(zy:its[k]?=none)
  (zE:∀ h' e,fi i s.heap h'->(∃ o,h'.get? e=some o/\o.cls=.type "StopIteration")->E (.ref e) { s with heap:=h' }):wpAny (model prog w) A (bx (.ref i)) Q E s:=by
 cases b
 ·exact zZd hh zi zl zy zE
 ·exact wpAny_nextOf_list_end hh zi zl zy zE
theorem zXf{b:Bool}{l:af}{its:Array ag}{Q:ag->ai->Prop}(zl:SS b s.heap l its)(h:Q (.ref s.heap.objs.size) { s with heap:=s.heap.push { cls:=.type (zLw b),data:=.fields #[.ref l,.int 0 0] } }) :
  wpAny (model prog w) A (pyIter (.ref l)) Q E s:=by
 cases b
 ·exact gq zl h
 ·exact dN zl h

theorem zT5{b1 b2:Bool}{z TI TO i1 i2 l1 l2:af}{k:Nat}{xs ys:Array ag}{x y a b:ag}{Q:ag->ai->Prop}(D:ZipApart z TI TO i1 i2 l1 l2)
  (hz:hG s.heap z TI TO .none) (hI:eJ s.heap TI (.ref i1) (.ref i2)) (hO:eJ s.heap TO a b) (h1:SI b1 s.heap i1 l1 k) (h2:SI b2 s.heap i2 l2 k) (g1:SS b1 s.heap l1 xs) (g2:SS b2 s.heap l2 ys)
  (hx:xs[k]?=some x) (hy:ys[k]?=some y)
  (hQ:∀ h',hG h' z TI TO (rawInt s.heap.objs.size)->eJ h' TO x y->SI b1 h' i1 l1 (k+1)->SI b2 h' i2 l2 (k+1)->eJ h' s.heap.objs.size x y ->
   (∀ c o,c≠z->c≠TO->c≠i1->c≠i2->s.heap.get? c=some o->h'.get? c=some o)->Q (.ref s.heap.objs.size) { s with heap:=h' }) :
  wpAny (model prog w) A (eL.«zip.__next__» ⟨[.ref z],[]⟩) (λfin s'=>∃ v,fin=.done (.ret v)/\Q v s') E s:=by
 show wpAny _ _ (field (.ref z) 2 >>= _) _ _ _; refine aa (bG hz rfl (x:=.bool false) rfl ?_);show wpAny _ _ (field (.ref z) 3 >>= _) _ _ _; refine aa (bG hz rfl (x:=.ref TI) rfl ?_);refine aa (cL hI rfl ?_);show wpAny _ _ (cE (.ref z) >>= _) _ _ _; refine aa ?_; unfold cE;refine aa (bG hz rfl (x:=.none) rfl (ak ?_)); simp only[if_true];refine aa (gh ?_); refine aa (bG hz rfl (x:=.ref TO) rfl ?_);refine aa (dA hz (by simp) λk1 z1 s1=>?_); replace z1:hG k1 z TI TO .ellipsis:=z1;refine aa ?_; simp only[cW,kR,iy,lv];refine aa (aa (gZ ?_)); show wpAny _ _ (bx (.ref i1) >>= _) _ _ _
 refine aa (zNq (h1.at λo e=>s1.extBut _ o D.i1z e) (g1.at λo e=>s1.extBut _ o D.l1z e) hx λk2 q2 s2=>ak ?_);have o2:eJ k2 TO a b:=s2.extBut _ _ D.TOi1 (s1.extBut _ _ D.TOz hO);refine aa (cL o2 rfl ?_);refine aa (fL o2 λk3 o3 s3=>?_); replace o3:eJ k3 TO x b:=o3;refine aa (kO (ak ?_)); refine aa (aa (gZ ?_)); show wpAny _ _ (bx (.ref i2) >>= _) _ _ _
 refine aa (zNq (h2.at λo e=>s3.extBut _ o D.TOi2.symm (s2.extBut _ o D.i12.symm (s1.extBut _ o D.i2z e))) (g2.at λo e=>s3.extBut _ o D.l2TO (s2.extBut _ o D.l2i1 (s1.extBut _ o D.l2z e))) hy λk4 q4 s4=>ak ?_);have o4:eJ k4 TO x b:=s4.extBut _ _ D.TOi2 o3;refine aa (cL o4 rfl ?_);refine aa (fL o4 λk5 o5 s5=>?_); replace o5:eJ k5 TO x y:=o5;refine aa (kO (ak (ak ?_)));refine aa (cL o5 rfl ?_); refine aa (wpAny_newTuple ?_);have hsz:k5.objs.size=s.heap.objs.size:=by rw[s5.1,s4.1,s3.1,s2.1,s1.1]
 have z5:hG k5 z TI TO .ellipsis:=s5.extBut _ _ D.TOz.symm (s4.extBut _ _ D.i2z.symm (s3.extBut _ _ D.TOz.symm (s2.extBut _ _ D.i1z.symm z1)));have kp:∀ c o,c≠z->c≠TO->c≠i1->c≠i2->s.heap.get? c=some o->k5.get? c=some o:=λc o c1 c2 c3 c4 e=>s5.extBut _ _ c2 (s4.extBut _ _ c4 (s3.extBut _ _ c2 (s2.extBut _ _ c3 (s1.extBut _ _ c1 e))));have a5:SI b1 k5 i1 l1 (k+1):=q2.at λo e=>s5.extBut _ o D.TOi1.symm (s4.extBut _ o D.i12 (s3.extBut _ o D.TOi1.symm e));have b5:SI b2 k5 i2 l2 (k+1):=q4.at λo e=>s5.extBut _ o D.TOi2.symm e;have zlt:z<k5.objs.size:=aw z5;show wpAny _ _ (eW (.ref z) (.ref k5.objs.size) >>= _) _ _ _; refine aa ?_; unfold eW;have z6:hG (k5.push { cls:=.type "tuple",data:=.seq #[x,y] }) z TI TO .ellipsis:=ah _ z5;refine aa (dA z6 (by simp) λk7 z7 s7=>?_); replace z7:hG k7 z TI TO (rawInt k5.objs.size):=z7;refine dA z7 (by simp) λk8 z8 s8=>?_; replace z8:hG k8 z TI TO (rawInt k5.objs.size):=z8;have up:∀ c o,c≠z->k5.get? c=some o->k8.get? c=some o:=λc o c1 e=>s8.extBut _ _ c1 (s7.extBut _ _ c1 (ah _ e));have t8:eJ k8 k5.objs.size x y:=s8.extBut _ _ (d3 zlt) (s7.extBut _ _ (d3 zlt) (ap _ rfl));rw[hsz] at z8 t8;refine ak ⟨_,rfl,?_⟩; show Q (.ref k5.objs.size) _
 rw[hsz];exact hQ k8 z8 (up _ _ D.TOz o5) (a5.at λo e=>up _ o D.i1z e) (b5.at λo e=>up _ o D.i2z e) t8 λc o c1 c2 c3 c4 e=>up c o c1 (kp c o c1 c2 c3 c4 e)
theorem zVr{b1 b2:Bool}{z TI TO i1 i2 l1 l2:af}{k:Nat}{xs ys:Array ag}{a b:ag}{Q:Fin->ai->Prop}(hh:A.handled=none)(D:ZipApart z TI TO i1 i2 l1 l2)
  (hz:hG s.heap z TI TO .none) (hI:eJ s.heap TI (.ref i1) (.ref i2)) (hO:eJ s.heap TO a b) (h1:SI b1 s.heap i1 l1 k) (h2:SI b2 s.heap i2 l2 k) (g1:SS b1 s.heap l1 xs) (g2:SS b2 s.heap l2 ys)
  (hend:xs[k]?=none\/ys[k]?=none)
  (hE:∀ h' e,(∀ c o,c≠z->c≠TO->c≠i1->c≠i2->s.heap.get? c=some o->h'.get? c=some o)->(∃ o,h'.get? e=some o/\o.cls=.type "StopIteration")->E (.ref e) { s with heap:=h' }) :
  wpAny (model prog w) A (eL.«zip.__next__» ⟨[.ref z],[]⟩) Q E s:=by
 show wpAny _ _ (field (.ref z) 2 >>= _) _ _ _; refine aa (bG hz rfl (x:=.bool false) rfl ?_);show wpAny _ _ (field (.ref z) 3 >>= _) _ _ _; refine aa (bG hz rfl (x:=.ref TI) rfl ?_);refine aa (cL hI rfl ?_);show wpAny _ _ (cE (.ref z) >>= _) _ _ _; refine aa ?_; unfold cE;refine aa (bG hz rfl (x:=.none) rfl (ak ?_)); simp only[if_true];refine aa (gh ?_); refine aa (bG hz rfl (x:=.ref TO) rfl ?_);refine aa (dA hz (by simp) λk1 z1 s1=>?_); replace z1:hG k1 z TI TO .ellipsis:=z1;refine aa ?_; simp only[cW,kR,iy,lv];refine aa (aa (gZ ?_)); show wpAny _ _ (bx (.ref i1) >>= _) _ _ _
 cases hx:xs[k]? with
 | none =>
  refine aa (zXb hh (h1.at λo e=>s1.extBut _ o D.i1z e) (g1.at λo e=>s1.extBut _ o D.l1z e) hx λk2 e s2 he=>?_);obtain⟨oe,hoe,hce⟩:=he;have z2:hG k2 z TI TO .ellipsis:=s2 _ _ D.i1z.symm z1;have nez:e≠z:=λx=>by subst x; rw[z2] at hoe; cases hoe; simp at hce
  refine dA z2 (by simp) λk3 _ s3=>hE k3 e (λc o c1 _ c3 _ x=>s3.extBut _ _ c1 (s2 _ _ c3 (s1.extBut _ _ c1 x))) ⟨oe,s3.extBut _ _ nez hoe,hce⟩
 | some x =>
  have hy:ys[k]?=none:=by
   rcases hend with h | h
   ·rw[hx] at h; cases h
   ·exact h
  refine aa (zNq (h1.at λo e=>s1.extBut _ o D.i1z e) (g1.at λo e=>s1.extBut _ o D.l1z e) hx λk2 q2 s2=>ak ?_);have o2:eJ k2 TO a b:=s2.extBut _ _ D.TOi1 (s1.extBut _ _ D.TOz hO);refine aa (cL o2 rfl ?_); refine aa (fL o2 λk3 o3 s3=>?_);refine aa (kO (ak ?_)); refine aa (aa (gZ ?_)); show wpAny _ _ (bx (.ref i2) >>= _) _ _ _
  refine aa (zXb hh (h2.at λo e=>s3.extBut _ o D.TOi2.symm (s2.extBut _ o D.i12.symm (s1.extBut _ o D.i2z e))) (g2.at λo e=>s3.extBut _ o D.l2TO (s2.extBut _ o D.l2i1 (s1.extBut _ o D.l2z e))) hy λk4 e s4 he=>?_);obtain⟨oe,hoe,hce⟩:=he;have z4:hG k4 z TI TO .ellipsis:=s4 _ _ D.i2z.symm (s3.extBut _ _ D.TOz.symm (s2.extBut _ _ D.i1z.symm z1));have nez:e≠z:=λx=>by subst x; rw[z4] at hoe; cases hoe; simp at hce
  refine dA z4 (by simp) λk5 _ s5=>hE k5 e (λc o c1 c2 c3 c4 x=>s5.extBut _ _ c1 (s4 _ _ c4 (s3.extBut _ _ c2 (s2.extBut _ _ c3 (s1.extBut _ _ c1 x))))) ⟨oe,s5.extBut _ _ nez hoe,hce⟩
def zX8(b1 b2:Bool)(l1 l2:af)(h:aV):aV :=
 ((((h.push { cls:=.type (zLw b1),data:=.fields #[.ref l1,.int 0 0] }).push { cls:=.type (zLw b2),data:=.fields #[.ref l2,.int 0 0] }).push { cls:=.type "tuple",data:=.seq #[.ref h.objs.size,.ref (h.objs.size+1)] }).push { cls:=.type "tuple",data:=.seq #[.none,.none] }).push { cls:=.type "zip",data:=.fields #[.none,.bool false,.bool false,.ref (h.objs.size+2),.ref (h.objs.size+3)] }
theorem zUj(b1 b2:Bool)(l1 l2:af)(xs ys:Array ag) :
  Meets (eL.«zip.__new__» ⟨[.type "zip",.ref l1,.ref l2],[]⟩) (λ_ R s=>SS b1 s.heap l1 xs/\SS b2 s.heap l2 ys /\
   R (.ok (.ret (.ref (s.heap.objs.size+4)))) { s with heap:=zX8 b1 b2 l1 l2 s.heap }) :=
 .of_wp λprog w A R s h=>by
  obtain⟨hp,g,d,tk,os⟩:=s;obtain⟨hl1,hl2,h⟩:=h;have hsub:=sub_zip;have hL1:SS b1 (mW ⟨hp,g,d,tk,os⟩) l1 xs:=hl1;have hL2:SS b2 (mW ⟨hp.push { cls:=.type (zLw b1),data:=.fields #[.ref l1,.int 0 0] },g,d,tk,os⟩) l2 ys:=SS.at hl2 λo e=>ah _ e
  wp_walk using zXf hL1,zXf hL2
  exists _,rfl;simp only[zX8,c7] at h ⊢;exact h
theorem zSs{b1 b2:Bool}{l1 l2:af}{xs ys:Array ag}{Q:ag->ai->Prop}(hl1:SS b1 s.heap l1 xs)(hl2:SS b2 s.heap l2 ys)
  (h:∀ h',hG h' (s.heap.objs.size+4) (s.heap.objs.size+2) (s.heap.objs.size+3) .none->eJ h' (s.heap.objs.size+2) (.ref s.heap.objs.size) (.ref (s.heap.objs.size+1))->eJ h' (s.heap.objs.size+3) .none .none ->
   SI b1 h' s.heap.objs.size l1 0->SI b2 h' (s.heap.objs.size+1) l2 0->(∀ c o,s.heap.get? c=some o->h'.get? c=some o)->Q (.ref (s.heap.objs.size+4)) { s with heap:=h' }) :
  wpAny (model prog w) A (call (.type "zip") [.ref l1,.ref l2]) Q E s:=by
 refine callType_new F.called_zip (by decide) (F.typeCall_zip_2 _ _) (F.newCall_zip_2 _ _) (λobj=>F.args_object_init_3 obj _ _) F.entry_zip_new (zUj b1 b2 l1 l2 xs ys) ⟨hl1,hl2,?_⟩;unfold zX8;generalize e1:s.heap.push { cls:=.type (zLw b1),data:=.fields #[.ref l1,.int 0 0] }=k1;have n1:k1.objs.size=s.heap.objs.size+1:=by rw[<- e1,c7]
 generalize e2:k1.push { cls:=.type (zLw b2),data:=.fields #[.ref l2,.int 0 0] }=k2;have n2:k2.objs.size=s.heap.objs.size+2:=by rw[<- e2,c7,n1]
 generalize e3:k2.push { cls:=.type "tuple",data:=.seq #[.ref s.heap.objs.size,.ref (s.heap.objs.size+1)] }=k3;have n3:k3.objs.size=s.heap.objs.size+3:=by rw[<- e3,c7,n2]
 generalize e4:k3.push { cls:=.type "tuple",data:=.seq #[.none,.none] }=k4;have n4:k4.objs.size=s.heap.objs.size+4:=by rw[<- e4,c7,n3]
 generalize e5:k4.push { cls:=.type "zip",data:=.fields #[.none,.bool false,.bool false,.ref (s.heap.objs.size+2),.ref (s.heap.objs.size+3)] }=k5;have u5:∀ c o,k4.get? c=some o->k5.get? c=some o:=λc o q=>e5 ▸ ah _ q;have u4:∀ c o,k3.get? c=some o->k5.get? c=some o:=λc o q=>u5 c o (e4 ▸ ah _ q);have u3:∀ c o,k2.get? c=some o->k5.get? c=some o:=λc o q=>u4 c o (e3 ▸ ah _ q);have u2:∀ c o,k1.get? c=some o->k5.get? c=some o:=λc o q=>u3 c o (e2 ▸ ah _ q);have u1:∀ c o,s.heap.get? c=some o->k5.get? c=some o:=λc o q=>u2 c o (e1 ▸ ah _ q);have g5:hG k5 (s.heap.objs.size+4) (s.heap.objs.size+2) (s.heap.objs.size+3) .none:=by
  rw[<- n4,<- e5];exact ap _ rfl
 have g4:eJ k5 (s.heap.objs.size+3) .none .none:=by
  rw[<- n3];exact u5 _ _ (by rw[<- e4]; exact ap _ rfl)
 have g3:eJ k5 (s.heap.objs.size+2) (.ref s.heap.objs.size) (.ref (s.heap.objs.size+1)):=by
  have q:=u4 k2.objs.size _ (by rw[<- e3]; exact ap _ rfl);rw[n2] at q;exact q
 have g2:SI b2 k5 (s.heap.objs.size+1) l2 0:=by
  rw[<- n1];exact SI.of ⟨_,u3 _ _ (by rw[<- e2]; exact ap _ rfl),rfl,rfl⟩
 have g1:SI b1 k5 s.heap.objs.size l1 0:=SI.of ⟨_,u2 _ _ (by rw[<- e1]; exact ap _ rfl),rfl,rfl⟩;exact⟨⟨_,g5,U⟩,h k5 g5 g3 g4 g1 g2 u1⟩
end
end L2

namespace L2
open PySem PySem.Spec PyProof.Rows
def SqB(b:Bool)(K:ae)(H:Hp)(l:af)(xs:List V):Prop:=match b with | true=>SqL K H l xs | false=>SqT K H l xs
theorem Inv.sqB{X:Cx}{pins:List (af×cz)}{σ:St}{H:Hp}{s:ai}{b:Bool}{l:af}{xs:List V}(I:Inv X pins σ H s)(h:SqB b X.K H l xs):∃ its:List ag,yV xs its/\SS b s.heap l its.toArray/\xs.length<=sizeLine:=by
 cases b with
 | true =>
  obtain⟨its,r,p,z⟩:=I.list h;exact⟨its,r,p.isList,z⟩
 | false =>
  obtain⟨its,r,p,z⟩:=I.tuple h;exact⟨its,r,p,z⟩
theorem Inv.sqB_inj{X:Cx}{pins:List (af×cz)}{σ:St}{H:Hp}{s:ai}{b:Bool}{l:af}{xs ys:List V}(I:Inv X pins σ H s)(h:SqB b X.K H l xs)(h':SqB b X.K H l ys):xs=ys:=by
 cases b with
 | true=>exact I.list_inj h h'
 | false=>exact I.tuple_inj h h'
def Itz(K:ae)(b1 b2:Bool)(l1 l2:af):It :=
 ⟨λk H=>∃ xs ys x y,SqB b1 K H l1 xs/\SqB b2 K H l2 ys/\xs[k]?=some x/\ys[k]?=some y,
   λk H v H'=>∃ T x y,v=.ref T/\H T=none/\H'=upd H T (.tup [x,y])/\(∀ xs,SqB b1 K H l1 xs->xs[k]?=some x)/\(∀ ys,SqB b2 K H l2 ys->ys[k]?=some y),
   λk H=>∃ xs ys,SqB b1 K H l1 xs/\SqB b2 K H l2 ys/\(xs.length<=k\/ys.length<=k)⟩
theorem zUq{P:aK}{w:aT}{K:ae}{elts:List bu}{kt:Nat}{pt:eS}{b1 b2:Bool}{z TI TO i1 i2 l1 l2:af}(D:ZipApart z TI TO i1 i2 l1 l2) :
  zWv P w K (.Tuple elts kt pt) (Itz K b1 b2 l1 l2) [z,TI,TO,i1,i2] z (λk h=>hG h z TI TO .none/\eJ h TI (.ref i1) (.ref i2)/\(∃ a b,eJ h TO a b)/\SI b1 h i1 l1 k/\SI b2 h i2 l2 k) where
 mem:=by simp
 obj:=λk h st b hb=>by
  obtain⟨hz,hI,⟨a',b',hO⟩,h1,h2⟩:=st;obtain⟨o1,g1,_,d1⟩:=h1.obj;obtain⟨o2,g2,_,d2⟩:=h2.obj;simp only[aD,bI,or_false] at hb;rcases hb with rfl | rfl | rfl | rfl | rfl
  ·exact⟨_,hz,λv e=>by cases e⟩
  ·exact⟨_,hI,λv e=>by cases e⟩
  ·exact⟨_,hO,λv e=>by cases e⟩
  ·exact⟨_,g1,λv e=>by rw[d1] at e; cases e⟩
  ·exact⟨_,g2,λv e=>by rw[d2] at e; cases e⟩
 keep:=λk h h' st kp=>by
  obtain⟨hz,hI,⟨a',b',hO⟩,h1,h2⟩:=st;exact⟨kp z (by simp) _ hz,kp TI (by simp) _ hI,⟨a',b',kp TO (by simp) _ hO⟩,h1.at λo e=>kp i1 (by simp) o e,h2.at λo e=>kp i2 (by simp) o e⟩
 item:=by
  intro X hP hw hK hc k pins s σ H E I hf st hg;subst hP hw hK;obtain⟨hz,hI,⟨a',b',hO⟩,h1,h2⟩:=st;obtain⟨xs,ys,x,y,q1,q2,hx,hy⟩:=hg;obtain⟨its1,r1,p1,_⟩:=I.sqB q1;obtain⟨its2,r2,p2,_⟩:=I.sqB q2;obtain⟨u1,e1,v1⟩:=r1.get hx;obtain⟨u2,e2,v2⟩:=r2.get hy;have hT:s.TypeIs (.ref z) "zip" :=⟨_,hz,rfl⟩;have fresh:H s.heap.objs.size=none:=I.hok.fresh (al _);unfold pyNext;refine aa (dR (bO (name:=aO "__next__") hT fS (bQ fS hT kz (zT5 D hz hI hO h1 h2 p1 p2 (by simpa using e1) (by simpa using e2) λh' z1 o1 j1 j2 t1 kp=>ak ?_) (jO _))));refine⟨_,rfl,wpAny_letOwnedTupleGo_zip z1 λh2' z2 sb=>?_⟩;have kp2:∀ c o,c ∉ [z,TO,i1,i2]->s.heap.get? c=some o->h2'.get? c=some o:=λc o hc e=>by
   simp only[aD,bI,or_false,not_or] at hc;exact sb.extBut c o hc.1 (kp c o hc.1 hc.2.1 hc.2.2.1 hc.2.2.2 e)
  have nH:∀ c∈[z,TO,i1,i2],c∈[z,TI,TO,i1,i2]:=λc hc=>by
   simp only[aD,bI,or_false] at hc ⊢;rcases hc with e | e | e | e <;> simp[e]
  have neT:∀ b o,s.heap.get? b=some o->b≠s.heap.objs.size:=λb o e=>aP (aw e);have neH:∀ b o,H b=some o->b ∉ [z,TO,i1,i2]:=λb o e hb=>by
   rw[(hf b (nH b hb)).1] at e;cases e
  have upn:∀ b o,H b=some o->upd H s.heap.objs.size (.tup [x,y]) b=some o:=λb o e=>by
   rw[zH (zJ e fresh)];exact e
  refine⟨.ref s.heap.objs.size,upd H s.heap.objs.size (.tup [x,y]),?_,U,⟨_,x,y,U,fresh,U,λzs hz'=>by rw[I.sqB_inj hz' q1]; exact hx,λzs hz'=>by rw[I.sqB_inj hz' q2]; exact hy⟩,?_,λb hb=>?_⟩
  ·refine Inv.step (s:=s) (h':=h2') (g':=s.gens) (d':=s.drawn) (t':=s.toks) (ch:=[z,TO,i1,i2]) I (λb hb=>?_) (λb o _ _ hc e _=>kp2 b o hc e) (λb o _ _ hc e _=>⟨o.slots,kp2 b o hc e⟩) (λb o _ e n=>?_) (λb o hc e=>⟨o,kp2 b o hc e⟩)
    (λb zs e=>upn b _ e) (λb o zs e=>upn b _ e) (λb ps e=>⟨#[],by rw[upn b _ e]; simp⟩) (λm hm=>?_) (λb o e=>?_) I.bare
   ·obtain⟨_,f1,_,f3,f4,f5⟩:=hf b (nH b hb);exact⟨f3,f1,f4,f5⟩
   ·rw[zH (neT b o e)];exact n
   ·obtain⟨o,es,ep,ho,r⟩:=hm;refine⟨o,es,ep,kp2 _ o (λhb=>?_) ho,r⟩;exact(hf _ (nH _ hb)).2.1 rfl
   ·by_cases hb:b=s.heap.objs.size
    ·subst hb;rw[zA] at e;cases e;exact⟨by show 2<=sizeLine; decide,[u1,u2],.cons v1 (.cons v2 .nil),_,sb.extBut _ _ (d3 (aw hz)) t1,rfl,_,rfl⟩
    ·rw[zH hb] at e;refine(I.hok b o e).stay (λc u hc q=>kp2 c u ?_ q) (λc q=>upn c _ q) λc zs q=>upn c _ q;rcases hc with hc | hc
     ·rw[hc]; exact neH b o e
     ·exact neH c _ hc
  ·exact⟨z2,sb.extBut _ _ D.TIz (kp _ _ D.TIz D.TITO D.TIi1 D.TIi2 hI),⟨_,_,sb.extBut _ _ D.TOz o1⟩,j1.at λo e=>sb.extBut _ o D.i1z e,j2.at λo e=>sb.extBut _ o D.i2z e⟩
  ·obtain⟨o,e,_⟩:∃ o,s.heap.get? b=some o/\True:=by
    obtain⟨o1,g1,_⟩:=h1.obj;obtain⟨o2,g2,_⟩:=h2.obj;simp only[aD,bI,or_false] at hb;rcases hb with rfl | rfl | rfl | rfl | rfl
    ·exact⟨_,hz,trivial⟩
    ·exact⟨_,hI,trivial⟩
    ·exact⟨_,hO,trivial⟩
    ·exact⟨_,g1,trivial⟩
    ·exact⟨_,g2,trivial⟩
   rw[zH (neT b o e)];exact(hf b hb).1
 done:=by
  intro X hP hw hK hc k pins s σ H E I hf st hg;subst hP hw hK;obtain⟨hz,hI,⟨a',b',hO⟩,h1,h2⟩:=st;obtain⟨xs,ys,q1,q2,hend⟩:=hg;obtain⟨its1,r1,p1,_⟩:=I.sqB q1;obtain⟨its2,r2,p2,_⟩:=I.sqB q2;have hT:s.TypeIs (.ref z) "zip" :=⟨_,hz,rfl⟩;have hend':its1.toArray[k]?=none\/its2.toArray[k]?=none:=by
   have l1':=r1.length;have l2':=r2.length;rcases hend with h | h
   ·exact .inl (d4 (by rw[aE]; lia))
   ·exact .inr (d4 (by rw[aE]; lia))
  have nH:∀ c∈[z,TO,i1,i2],c∈[z,TI,TO,i1,i2]:=λc hc=>by
   simp only[aD,bI,or_false] at hc ⊢;rcases hc with e | e | e | e <;> simp[e]
  have neH:∀ b o,H b=some o->b ∉ [z,TO,i1,i2]:=λb o e hb=>by
   rw[(hf b (nH b hb)).1] at e;cases e
  unfold pyNext;refine aa (dR (bO (name:=aO "__next__") hT fS (bQ fS hT kz (zVr (I.ok.hd hc) D hz hI hO h1 h2 p1 p2 hend' λh' e kp he=>?_) (jO _))));obtain⟨oe,hoe,hce⟩:=he;refine aa (fF (T := "StopIteration") (b:=true) ⟨oe,hoe,hce⟩ isSubtype_stop (ak ⟨rfl,?_⟩));have kp2:∀ c o,c ∉ [z,TO,i1,i2]->s.heap.get? c=some o->h'.get? c=some o:=λc o hc e=>by
   simp only[aD,bI,or_false,not_or] at hc;exact kp c o hc.1 hc.2.1 hc.2.2.1 hc.2.2.2 e
  refine I.step (g':=s.gens) (d':=s.drawn) (t':=s.toks) (ch:=[z,TO,i1,i2]) (λb hb=>?_) (λb o _ _ hc e _=>kp2 b o hc e) (λb o _ _ hc e _=>⟨o.slots,kp2 b o hc e⟩) (λb o _ e n=>n) (λb o hc e=>⟨o,kp2 b o hc e⟩)
   (λb zs e=>e) (λb o zs e=>e) (λb ps e=>⟨#[],by rw[e]; simp⟩) (λm hm=>?_) (λb o e=>?_) I.bare
  ·obtain⟨_,f1,_,f3,f4,f5⟩:=hf b (nH b hb);exact⟨f3,f1,f4,f5⟩
  ·obtain⟨o,es,ep,ho,r⟩:=hm;refine⟨o,es,ep,kp2 _ o (λhb=>?_) ho,r⟩;exact(hf _ (nH _ hb)).2.1 rfl
  ·refine(I.hok b o e).stay (λc u hc q=>kp2 c u ?_ q) (λc q=>q) λc zs q=>q;rcases hc with hc | hc
   ·rw[hc]; exact neH b o e
   ·exact neH c _ hc
 self:=λ_ _ _ _ _ st h=>kA st.1 h
section
variable{X:Cx}
def iZip(K:ae)(ta:TA):TI:=λσ H R=>ta σ H λvs H1=>∃(b1 b2:Bool)(l1 l2:af)(xs ys:List V),vs=[.ref l1,.ref l2]/\SqB b1 K H1 l1 xs/\SqB b2 K H1 l2 ys/\R (Itz K b1 b2 l1 l2) H1
theorem yd5{elts:List bu}{kt:Nat}{pt:eS}{a b:bu}{ta:TA}{p pos:eS}(hg:Gl X "zip")(hm:X.mg "zip" = none)(ha:PA X [a,b] ta)(hs:starEach [a,b] X.env=[(false,eval a X.env),(false,eval b X.env)]:=by rfl)(hs2:starEach [b] X.env=[(false,eval b X.env)]:=by rfl) :
  PI X (.Tuple elts kt pt) (.Call (.Name "zip" p) [a,b] [] pos) (iZip X.K ta):=by
 intro pins s σ H R I h;refine Call_ (zH9 I hg hm yd1 (dq (thn (ha pos pins s σ H _ I h) λus s1 ⟨vs,H1,I1,r1,q1⟩=>?_) (by rw[hs,hs2]) (by rw[hs2]; rfl)));obtain⟨b1,b2,l1,l2,xs,ys,e,g1,g2,q⟩:=q1;subst e;obtain⟨u1,u2,rfl,v1,v2⟩:=yV.two r1;cases v1;cases v2;obtain⟨its1,_,p1,_⟩:=I1.sqB g1;obtain⟨its2,_,p2,_⟩:=I1.sqB g2;have a1:l1<s1.heap.objs.size:=by
  obtain⟨o,e,_⟩:=p1.obj;exact aw e
 have a2:l2<s1.heap.objs.size:=by
  obtain⟨o,e,_⟩:=p2.obj;exact aw e
 refine zSs p1 p2 λh' hz hI hO j1 j2 kp=>?_;refine kA hz ?_;refine⟨_,_,_,_,H1,U,I1.kept (t':=s1.toks) kp,zUq (zipApart_new a1 a2),⟨hz,hI,⟨_,_,hO⟩,j1,j2⟩,λb hb=>?_,q⟩;have hge:s1.heap.objs.size<=b:=by
  simp only[aD,bI,or_false] at hb;rcases hb with rfl | rfl | rfl | rfl | rfl <;> lia
 exact I1.fpOk hge (I1.hok.fresh hge)
end
section
variable{K:ae}{b1 b2:Bool}{l1 l2 D:af}{xs ys:List V}{g:TG}{tt:TT}{te:TE}{σ0:St}{H1:Hp}{Q:VK}
theorem zVu(Pv:Nat->St->List V->Hp->Prop)(h0:Pv 0 σ0 [] (upd H1 D (.lst [])))(hl:∀ i σ zs H,Pv i σ zs H->SqB b1 K H l1 xs/\SqB b2 K H l2 ys/\H D=some (.lst zs))
  (hs:∀ i x y T σ zs H,xs[i]?=some x->ys[i]?=some y->H T=none->Pv i σ zs H->g (.ref T) σ (upd H T (.tup [x,y])) λσ2 H2=>tt σ2 H2 λb H3 =>
   if b=true then te σ2 H3 λz H4=>H4 D=some (.lst zs)/\zs.length<sizeLine/\Pv (i+1) σ2 (zs++[z]) (upd H4 D (.lst (zs++[z]))) else Pv (i+1) σ2 zs H3)
  (hd:∀ σ zs H,Pv (min xs.length ys.length) σ zs H->Q (.ref D) H):zDn (Itz K b1 b2 l1 l2) D g tt te σ0 H1 Q:=by
 exists λi m σ zs H=>m=min xs.length ys.length-i/\i<=min xs.length ys.length/\Pv i σ zs H,⟨_,U,br _,h0⟩;rintro i m σ zs H ⟨rfl,hi,p⟩;obtain⟨q1,q2,qd⟩:=hl i σ zs H p;exists qd;by_cases hlt:i<min xs.length ys.length
 ·have c1:i<xs.length:=by lia
  have c2:i<ys.length:=by lia
  refine .inr ⟨⟨xs,ys,xs[i],ys[i],q1,q2,by simp[c1],by simp[c2]⟩,Pv (i+1),λσ' zs' H' z=>⟨min xs.length ys.length-(i+1),by lia,rfl,hlt,z⟩,λv H' y=>?_⟩;obtain⟨T,x,y,rfl,hT,rfl,y1,y2⟩:=y;exact hs i x y T σ zs H (y1 xs q1) (y2 ys q2) hT p
 ·have e:i=min xs.length ys.length:=by lia
  subst e;exact .inl ⟨⟨xs,ys,q1,q2,by lia⟩,hd σ zs H p⟩
theorem zMc(Pv:Nat->St->List V->Hp->Prop)(h0:Pv 0 σ0 [] (upd H1 D (.lst [])))(hl:∀ i σ zs H,Pv i σ zs H->SqB b1 K H l1 xs/\SqB b2 K H l2 ys/\H D=some (.lst zs))
  (hs:∀ i x y T σ zs H,xs[i]?=some x->ys[i]?=some y->H T=none->Pv i σ zs H->g (.ref T) σ (upd H T (.tup [x,y])) λσ2 H2=>te σ2 H2 λz H4=>H4 D=some (.lst zs)/\zs.length<sizeLine/\Pv (i+1) σ2 (zs++[z]) (upd H4 D (.lst (zs++[z]))))
  (hd:∀ σ zs H,Pv (min xs.length ys.length) σ zs H->Q (.ref D) H):zDn (Itz K b1 b2 l1 l2) D g zYm te σ0 H1 Q:=zVu Pv h0 hl (λi x y T σ zs H e1 e2 e3 p=>hs i x y T σ zs H e1 e2 e3 p) hd
end
end L2

namespace L2
open PySem PySem.Spec PyProof.Rows
theorem ifD{p A B:Prop}[Decidable p](h1:p->A)(h2:¬ p->B):if decide p=true then A else B:=by
 by_cases h:p
 ·rw[if_pos (decide_eq_true h)]; exact h1 h
 ·rw[if_neg (by rw[decide_eq_false h]; exact aB)]; exact h2 h
theorem ifN{p A B:Prop}[Decidable p](h1:¬ p->A)(h2:p->B):if (!decide p)=true then A else B:=by
 by_cases h:p
 ·rw[if_neg (by rw[decide_eq_true h]; exact aB)]; exact h2 h
 ·rw[if_pos (by rw[decide_eq_false h]; rfl)]; exact h1 h
theorem ifE{x y:Int}{A B:Prop}(h1:x=y->A)(h2:x≠y->B):if decide (V.int x=V.int y)=true then A else B :=
 ifD (λh=>h1 (V.int.inj h)) λh=>h2 λe=>h (congrArg V.int e)
theorem decI{x y:Int}(h:x=y):decide (V.int x=V.int y)=true:=decide_eq_true (congrArg V.int h)
theorem zC{H:Hp}{p:af}(h:H p=none)(o:HO):Same H (upd H p o):=λb u q=>by rw[zH (zJ q h)]; exact q
theorem zDh{ns:List Int}{i:Nat}{x:V}(h:(ns.map V.int)[i]?=some x):∃ n,ns[i]?=some n/\x=.int n:=by
 rw[av] at h;cases e:ns[i]? with
 | none=>rw[e] at h; cases h
 | some n=>rw[e] at h; exact⟨n,U,(a7 h).symm⟩
theorem zI1{n:Nat}(h:n<=1000):n<=sizeLine:=dL (zW h)
theorem SqT.same{K:ae}{H H':Hp}{a:af}{xs:List V}(h:SqT K H a xs)(e:Same H H'):SqT K H' a xs:=by
 rcases h with h | h
 ·rcases h with h | ⟨o,h⟩
  ·exact .inl (.inl (e _ _ h))
  ·exact .inl (.inr ⟨o,e _ _ h⟩)
 ·exact .inr h
def zWd(t:TT):Prop:=∀(σ:St)(H:Hp)(Q Q':Bool->Hp->Prop),(∀ b H1,Q b H1->Q' b H1)->t σ H Q->t σ H Q'
def zMo(t:TE):Prop:=∀(σ:St)(H:Hp)(Q Q':VK),(∀ b H1,Q b H1->Q' b H1)->t σ H Q->t σ H Q'
def zU8(t:TA):Prop:=∀(σ:St)(H:Hp)(Q Q':List V->Hp->Prop),(∀ b H1,Q b H1->Q' b H1)->t σ H Q->t σ H Q'
def ye7(r:R2):Prop:=∀(x y:V)(H:Hp)(Q Q':VK),(∀ b H1,Q b H1->Q' b H1)->r x y H Q->r x y H Q'
def yf3(r:List V->Hp->VK->Prop):Prop:=∀(xs:List V)(H:Hp)(Q Q':VK),(∀ b H1,Q b H1->Q' b H1)->r xs H Q->r xs H Q'
theorem zKq{i:Nat} : zMo (zUe i):=λ_ _ _ _ hq ⟨v,e,z⟩=>⟨v,e,hq _ _ z⟩
theorem mo_c{v:V} : zMo (tC v):=λ_ _ _ _ hq z=>hq _ _ z
theorem zZc{r:R2}{ta tb:TE}(hr:ye7 r)(ha:zMo ta)(hb:zMo tb):zMo (tOp r ta tb):=λσ _ _ _ hq z=>ha σ _ _ _ (λ_ _ z=>hb σ _ _ _ (λ_ _ z=>hr _ _ _ _ _ hq z) z) z
theorem zXs{g:Int->Int->V} : ye7 (rI0 g):=λ_ _ _ _ _ hq ⟨i,j,e1,e2,z⟩=>⟨i,j,e1,e2,hq _ _ z⟩
theorem zM9{t:TE}(h:zMo t):zWd (zYe t):=λσ _ _ _ hq z=>h σ _ _ _ (λ_ _ ⟨k,e,z⟩=>⟨k,e,hq _ _ z⟩) z
theorem ya5{t u:TT}(h:zWd t)(h':zWd u):zWd (tAnd t u):=λσ _ _ _ hq z=>h σ _ _ _ (λb _ z=>by
 cases b with
 | true=>exact h' σ _ _ _ hq z
 | false=>exact hq _ _ z) z
theorem zWs:zU8 zW6:=λ_ _ _ _ hq z=>hq _ _ z
theorem zQ9{te:TE}{ta:TA}(h:zMo te)(h':zU8 ta):zU8 (zLu te ta):=λσ _ _ _ hq z=>h σ _ _ _ (λ_ _ z=>h' σ _ _ _ (λ_ _ z=>hq _ _ z) z) z
theorem yf6{r:List V->Hp->VK->Prop}{t:TA}(hr:yf3 r)(h:zU8 t):zMo (tCB r t):=λσ _ _ _ hq z=>h σ _ _ _ (λ_ _ z=>hr _ _ _ _ hq z) z
theorem zXi{K:ae} : yf3 (λxs H Q=>∃ p ys,xs=[.ref p]/\(SqL K H p ys\/SqT K H p ys)/\Q (.int ys.length) H):=λ_ _ _ _ hq ⟨p,ys,e,s,z⟩=>⟨p,ys,e,s,hq _ _ z⟩
theorem zCc(ns:List Int)(lo hi:Option Int):zB7 (ns.map V.int) lo hi=((ns.drop (HT.sIx ns.length 0 lo)).take (HT.sIx ns.length ns.length hi-HT.sIx ns.length 0 lo)).map V.int:=by
 unfold zB7;rw[ac,List.map_take,List.map_drop]
end L2

namespace L2
open PySem PySem.Spec PyProof.Rows
theorem zZ5{A:bD}{s:ai}{xs ys:List Int}{us ws:List ag}(r1:yV (xs.map V.int) us)(r2:yV (ys.map V.int) ws):∀ j (h1:j<us.toArray.size) (h2:j<ws.toArray.size),
  ju A s us.toArray[j] ws.toArray[j] (decide (xs[j]?=ys[j]?)):=λj h1 h2=>by
 have l1:=r1.length;have l2:=r2.length;rw[ac] at l1 l2;have g1:j<us.length:=by simpa using h1
 have g2:j<ws.length:=by simpa using h2
 have k1:j<xs.length:=by lia
 have k2:j<ys.length:=by lia
 obtain⟨u,hu,t,ru⟩:=r1.get (i:=j) (x:=.int xs[j]) (by rw[av,aj k1]; rfl);obtain⟨w,hw,t',rw'⟩:=r2.get (i:=j) (x:=.int ys[j]) (by rw[av,aj k2]; rfl);have e1:us.toArray[j]=.int xs[j] t:=by
  have z:=aj g1;rw[hu] at z;rw[iW,<- a7 z,ru]
 have e2:ws.toArray[j]=.int ys[j] t':=by
  have z:=aj g2;rw[hw] at z;rw[iW,<- a7 z,rw']
 rw[e1,e2];have e3:decide (xs[j]?=ys[j]?)=(xs[j] == ys[j]):=by
  rw[aj k1,aj k2];by_cases h:xs[j]=ys[j]
  ·rw[h]; simp
  ·rw[decide_eq_false (λz=>h (a7 z))];exact(beq_eq_false_iff_ne.mpr h).symm
 rw[e3];exact jv _ _ _ _
theorem zZp{xs ys:List Int} : ((bJ (min xs.length ys.length)).all (λj=>decide (xs[j]?=ys[j]?))&&xs.length == ys.length)=decide (xs=ys):=by
 by_cases h:xs=ys
 ·subst h;rw[decide_eq_true rfl,aZ];exact⟨bH.mpr λj _=>decide_eq_true rfl,by simp⟩
 ·rw[decide_eq_false h,Bool.and_eq_false_iff];by_cases hl:xs.length=ys.length
  ·left;rw[gP];intro z;apply h;rw[bH] at z;refine gQ λj=>?_;by_cases hj:j<xs.length
   ·exact of_decide_eq_true (z j (bZ.mpr (by lia)))
   ·rw[ce (by lia),ce (by lia)]
  ·right;exact beq_eq_false_iff_ne.mpr hl
section
variable{X:Cx}
def rEqT(K:ae)(neg:Bool):R2:=λx y H Q=>∃(a b:af)(xs ys:List Int),x=.ref a/\y=.ref b/\SqT K H a (xs.map V.int)/\SqT K H b (ys.map V.int)/\Q (.bl (if neg then !decide (xs=ys) else decide (xs=ys))) H
theorem zOq(hu:X.A.units<cLine):OpR X (compareOp .Eq) (rEqT X.K false):=by
 intro pins s σ H x y v u Q I rx ry h;obtain⟨a,b,xs,ys,rfl,rfl,h1,h2,q⟩:=h;cases rx;cases ry;obtain⟨us,r1,p1,_⟩:=I.tuple h1;obtain⟨ws,r2,p2,_⟩:=I.tuple h2;refine SeqAt.eq_tupleAt (e:=λj=>decide (xs[j]?=ys[j]?)) (show s.heap.IsTuple a us.toArray from p1) (show s.heap.IsTuple b ws.toArray from p2) hu (zZ5 r1 r2) ?_;have l1:=r1.length;have l2:=r2.length;rw[ac] at l1 l2;rw[aE,aE,<- l1,<- l2,zZp];exact⟨.bl (decide (xs=ys)),H,I,U,q⟩
end
end L2
namespace L2
open PySem
theorem xT{rows:List Int}{P:Int->Prop}(bd:∀ x∈rows,P x){k:Int}(k0:0<=k)(k1:k<rows.length):∃ v:Int,atI (rows.map V.int) k=some (.int v)/\P v:=by
 have hk:k.toNat<rows.length:=by lia
 refine⟨rows[k.toNat],?_,bd _ (dw hk)⟩;have q:atI (rows.map V.int) ((k.toNat:Nat):Int)=some (.int rows[k.toNat]):=zDm (by rw[av,aj hk] <;> rfl);rw[show((k.toNat:Nat):Int)=k from by lia] at q;exact q
end L2
namespace L2
end L2

namespace L2
open PySem PySem.Spec PyProof.Rows
end L2

namespace L2
open PySem PySem.Spec PyProof.Rows
end L2

namespace L2
open PySem PySem.Spec PyProof.Rows
theorem zFu{xs:List V}{us:List ag}(r:yV xs us):∀ is:List Nat,yV (is.filterMap λi=>xs[i]?) (is.filterMap λi=>us[i]?)
 | []=>.nil
 | i::is=>by
  cases e:xs[i]? with
  | none =>
   rw[cF e,cF (yV.none_of r e)];exact zFu r is
  | some x =>
   obtain⟨u,eu,ru⟩:=r.get e;rw[cb e,cb eu];exact .cons ru (zFu r is)
theorem zTc:∀{rs:List af}{us:List ag},yV (rs.map V.ref) us->us=rs.map aI
 | [],_,r=>by cases r; rfl
 | a::rs,_,r=>by
  cases r with
  | cons r1 r2 =>
   cases r1;rw[zTc r2];rfl
theorem Same.putNew{H H4:Hp}{D:af}{o:HO}(s:Same H H4)(h:H D=none):Same H (upd H4 D o):=λb u q=>by
 rw[zH (zJ q h)];exact s _ _ q
abbrev Pr:=af×Int×Int
abbrev wI(ps:List Pr):List V:=(ps.map (·.1)).map V.ref
def zZw(H:Hp)(M:Nat)(ps:List Pr):Prop:=∀ t∈ps,H t.1=some (.tup [.int t.2.1,.int t.2.2])/\t.2.1.natAbs<=M/\t.2.2.natAbs<=M
theorem zZw.same{H H':Hp}{M:Nat}{ps:List Pr}(h:zZw H M ps)(s:Same H H'):zZw H' M ps:=λt ht=>⟨s _ _ (h t ht).1,(h t ht).2⟩
theorem xL(ps:List Pr):(wI ps).length=ps.length:=by simp[wI]
theorem zGf{ps:List Pr}{i:Nat}{k:Int}(e:k=i)(h:i<ps.length):∃ t,t∈ps/\ps[i]?=some t/\atI (wI ps) k=some (.ref t.1):=by
 refine⟨ps[i],dw h,aj h,?_⟩;rw[e];exact zDm (by rw[av,av,aj h] <;> rfl)
end L2

namespace L2
open PySem
def crs(p q r:Int×Int):Int:=(q.1-p.1)*(r.2-p.2)-(q.2-p.2)*(r.1-p.1)
def ptA(ps:List (af×Int×Int))(i:Nat):Int×Int:=((ps[i]?).map (·.2)).getD (0,0)
theorem zTa{ps:List (af×Int×Int)}{i:Nat}{t:af×Int×Int}(h:ps[i]?=some t):ptA ps i=t.2:=by
 unfold ptA;rw[h];rfl
def zQj(ps:List (af×Int×Int))(i k:Nat):Bool:=decide (0<crs (ptA ps i) (ptA ps ((i+1)%ps.length)) (ptA ps k))
def tF(ps:List (af×Int×Int))(i:Nat):Bool:=(bJ (ps.length-2)).all λj=>zQj ps i ((i+(2+j))%ps.length)
def isB(ps:List (af×Int×Int)):Bool:=decide (3<=ps.length)&&(decide (ps.length<=8)&&(bJ ps.length).all (tF ps))
end L2

namespace PySem.W
open PySem PySem.Calls PyProof.Rows
section
variable{O:KeyOrd}(key:Nat->O.α)
structure PIn(n:Nat)(p:Array Nat):Prop where
 perm:p.Perm (ar (bJ n))
variable{key}{n:Nat}
end
end PySem.W

namespace L2
open PySem PySem.Spec PyProof.Rows PySem.W
theorem zCt:∀ rs:List af,yV (rs.map V.ref) (rs.map aI)
 | []=>.nil
 | _::rs=>.cons rfl (zCt rs)
section
variable{X:Cx}
theorem vP:bootBuiltins "sorted" = some (.builtin "sorted"):=by decide +kernel
end
end L2
namespace L2
open PySem PySem.Spec PyProof.Rows
end L2

namespace L2
open PySem PySem.Spec PyProof.Rows
section
variable{κ:Type}[DecidableEq κ]
def wL(kvs:List (κ×V))(k:κ):Option V:=(kvs.find? λkv=>decide (kv.1=k)).map (·.2)
def rE(kvs:List (κ×V))(k:κ)(v:V):List (κ×V) :=
 if (kvs.any λkv=>decide (kv.1=k))=true then kvs.map (λkv=>if kv.1=k then(kv.1,v) else kv) else kvs++[(k,v)]
def zEp(kvs:List (κ×V))(k:κ):List (κ×V):=kvs.filter λkv=>decide (kv.1≠k)

theorem wN{p:κ×V}{r:List (κ×V)}{k:κ}(e:p.1=k):wL (p::r) k=some p.2:=by simp[wL,bR,e]
theorem wF{p:κ×V}{r:List (κ×V)}{k:κ}(e:¬ p.1=k):wL (p::r) k=wL r k:=by simp[wL,bR,e]
theorem zFg(k:κ):∀ kvs:List (κ×V),(kvs.any λkv=>decide (kv.1=k))=(wL kvs k).isSome
 | []=>rfl
 | p::r=>by
  rw[cD];by_cases e:p.1=k
  ·simp only[wN e,decide_eq_true e,mP,Option.isSome_some]
  ·rw[wF e,decide_eq_false e,Bool.false_or]; exact zFg k r
theorem zOm(k j:κ)(y:V):∀ kvs:List (κ×V),wL (kvs.map λkv=>if kv.1=k then(kv.1,y) else kv) j=(wL kvs j).map λx=>if j=k then y else x
 | []=>rfl
 | p::r=>by
  have ih:=zOm k j y r;rw[aQ];by_cases h:p.1=k
  ·rw[if_pos h];by_cases e:p.1=j
   ·rw[wN (p:=(p.1,y)) e,wN e,d8,if_pos (e.symm.trans h)]
   ·rw[wF (p:=(p.1,y)) e,wF e,ih]
  ·rw[if_neg h];by_cases e:p.1=j
   ·rw[wN (p:=p) e,wN e,d8,if_neg (λz=>h (e.trans z))]
   ·rw[wF (p:=p) e,wF e,ih]
theorem zMl(k j:κ)(y:V):∀ kvs:List (κ×V),wL kvs k=none->wL (kvs++[(k,y)]) j=if j=k then some y else wL kvs j
 | [],_=>by
  by_cases e:k=j
  ·rw[if_pos e.symm]; exact wN (p:=(k,y)) e
  ·rw[if_neg (λz=>e z.symm)]; exact wF (p:=(k,y)) e
 | p::r,hn=>by
  rw[kB];have hk:¬ p.1=k:=λz=>by rw[wN z] at hn; cases hn
  rw[wF hk] at hn;have ih:=zMl k j y r hn;by_cases e:p.1=j
  ·rw[wN e,wN e,if_neg (λz=>hk (e.trans z))]
  ·rw[wF e,wF e,ih]
theorem zOt(kvs:List (κ×V))(k j:κ)(y:V):wL (rE kvs k y) j=if j=k then some y else wL kvs j:=by
 unfold rE;by_cases a:(kvs.any λkv=>decide (kv.1=k))=true
 ·rw[if_pos a,zOm];rw[zFg] at a;by_cases e:j=k
  ·obtain⟨x,hx⟩:=aL.mp a;rw[if_pos e,e,hx,d8,if_pos rfl]
  ·rw[if_neg e];cases wL kvs j with
   | none=>rfl
   | some x=>rw[d8,if_neg e]
 ·rw[if_neg a];refine zMl k j y kvs ?_;rw[zFg] at a;cases q:wL kvs k with
  | none=>rfl
  | some x=>rw[q] at a; exact(a rfl).elim
theorem zB4(kvs:List (κ×V))(k:κ)(v:V):(rE kvs k v).length<=kvs.length+1:=by
 unfold rE;split
 ·rw[ac]; lia
 ·rw[aF,aU,cO]; lia
theorem zJ3.isSome_eq{o:Option V}{u:Option ag}(r:zJ3 o u):o.isSome=u.isSome:=by
 cases o with
 | none=>cases u with
  | none=>rfl
  | some _=>exact(show False from r).elim
 | some _=>cases u with
  | none=>exact(show False from r).elim
  | some _=>rfl
theorem KV.val{kvs:List (κ×V)}{vs:List (κ×ag)}(r:KV kvs vs)(k:κ):zJ3 (wL kvs k) (valueAt vs k):=by
 unfold KV at r
 induction r with
 | nil=>exact bv
 | @cons p q ps qs h t ih =>
  obtain⟨h1,h2⟩:=h;by_cases e:p.1=k
  ·have e':q.1=k:=h1.symm.trans e;have b:valueAt (q::qs) k=some q.2:=by simp[valueAt,bR,e']
   rw[wN e,b]; exact h2
  ·have e':¬ q.1=k:=λz=>e (h1.trans z);have b:valueAt (q::qs) k=valueAt qs k:=by simp[valueAt,bR,e']
   rw[wF e,b]; exact ih
theorem KV.any{kvs:List (κ×V)}{vs:List (κ×ag)}(r:KV kvs vs)(k:κ):(kvs.any λkv=>decide (kv.1=k))=vs.any λkv=>decide (kv.1=k):=by
 unfold KV at r
 induction r with
 | nil=>rfl
 | cons h t ih=>rw[cD,cD,ih,h.1]
theorem KV.repl{kvs:List (κ×V)}{vs:List (κ×ag)}(r:KV kvs vs)(k:κ){y:V}{u:ag}(ry:xE y u) :
  KV (kvs.map λkv=>if kv.1=k then(kv.1,y) else kv) (vs.map λkv=>if kv.1=k then(kv.1,u) else kv):=by
 unfold KV at r ⊢
 induction r with
 | nil=>exact .nil
 | @cons p q ps qs h t ih =>
  rw[aQ,aQ];refine .cons ?_ ih;obtain⟨h1,h2⟩:=h;by_cases e:p.1=k
  ·rw[if_pos e,if_pos (h1.symm.trans e)]; exact⟨h1,ry⟩
  ·rw[if_neg e,if_neg (λz=>e (h1.trans z))]; exact⟨h1,h2⟩
theorem KV.put{kvs:List (κ×V)}{vs:List (κ×ag)}(r:KV kvs vs)(k:κ){y:V}{u:ag}(ry:xE y u):KV (rE kvs k y) (stored vs k u):=by
 unfold rE stored;rw[r.any k];by_cases e:(vs.any λkv=>decide (kv.1=k))=true
 ·rw[if_pos e,if_pos e]; exact r.repl k ry
 ·rw[if_neg e,if_neg e]; exact mX r ⟨rfl,ry⟩
theorem KV.drop{kvs:List (κ×V)}{vs:List (κ×ag)}(r:KV kvs vs)(k:κ):KV (zEp kvs k) (without vs k):=by
 unfold KV at r ⊢;unfold zEp without
 induction r with
 | nil=>exact .nil
 | @cons p q ps qs h t ih =>
  obtain⟨h1,h2⟩:=h;rw[kC,kC];by_cases e:p.1=k
  ·have a:¬ decide (p.1≠k)=true:=by simp[e]
   have b:¬ decide (q.1≠k)=true:=by simp[h1.symm.trans e]
   rw[if_neg a,if_neg b]; exact ih
  ·have e':¬ q.1=k:=λz=>e (h1.trans z);have a:decide (p.1≠k)=true:=by simp[e]
   have b:decide (q.1≠k)=true:=by simp[e']
   rw[if_pos a,if_pos b]; exact .cons ⟨h1,h2⟩ ih
theorem KV.length{kvs:List (κ×V)}{vs:List (κ×ag)}(r:KV kvs vs):kvs.length=vs.length:=jh r
theorem zO9(kvs:List (κ×V))(k:κ):(zEp kvs k).length<=kvs.length:=dE _ _
end


theorem zJe{P:aK}{w:aT}{k:Key}{u:ag}(r:xE (kV k) u):(yK P w).is k u=true:=by
 cases k with
 | inl i=>obtain⟨t,e⟩:=(show ∃ t,u=dH i t from r); subst e; exact zNh P w i t
 | inr x=>obtain⟨t,e⟩:=(show ∃ t,u=cB x t from r); subst e; exact zBy P w x t
theorem zK5{P:aK}{w:aT} : ∀{ks:List Key}{us:List ag},yV (ks.map kV) us->ItemsAre (yK P w) ks us
 | [],_,r=>by rw[fq] at r; cases r; exact .nil
 | k::ks,_,r=>by
  rw[aQ] at r;cases r with
  | cons h t=>exact .cons (zJe h) (zK5 t)

abbrev KT(H:Hp):List (List Key×V)->List (List Key×af×ag)->Prop:=j7 λp q=>p.1=q.1/\H q.2.1=some (.tup (p.1.map kV))/\xE p.2 q.2.2
theorem KT.val{H:Hp}{kvs:List (List Key×V)}{xs:List (List Key×af×ag)}(r:KT H kvs xs)(k:List Key):zJ3 (wL kvs k) ((atKey xs k).map (·.2)):=by
 induction r with
 | nil=>exact bv
 | @cons p q ps qs h t ih =>
  obtain⟨h1,_,h2⟩:=h;by_cases e:p.1=k
  ·have e':q.1=k:=h1.symm.trans e;have b:atKey (q::qs) k=some q.2:=by simp[atKey,bR,e']
   rw[wN e,b]; exact h2
  ·have e':¬ q.1=k:=λz=>e (h1.trans z);have b:atKey (q::qs) k=atKey qs k:=by simp[atKey,bR,e']
   rw[wF e,b]; exact ih
theorem KT.repl{H:Hp}{kvs:List (List Key×V)}{xs:List (List Key×af×ag)}(r:KT H kvs xs)(k:List Key){y:V}{u:ag}(ry:xE y u) :
  KT H (kvs.map λkv=>if kv.1=k then(kv.1,y) else kv) (xs.map (putAt k u)):=by
 induction r with
 | nil=>exact .nil
 | @cons p q ps qs h t ih =>
  rw[aQ,aQ];refine .cons ?_ ih;obtain⟨h1,h2,h3⟩:=h;unfold putAt;by_cases e:p.1=k
  ·rw[if_pos e,if_pos (h1.symm.trans e)]; exact⟨h1,h2,ry⟩
  ·rw[if_neg e,if_neg (λz=>e (h1.trans z))]; exact⟨h1,h2,h3⟩
theorem KT.put{H:Hp}{kvs:List (List Key×V)}{xs:List (List Key×af×ag)}(r:KT H kvs xs)(k:List Key){b:af}{y:V}{u:ag}(hb:H b=some (.tup (k.map kV)))(ry:xE y u) :
  KT H (rE kvs k y) (storedH xs k b u):=by
 have e:(kvs.any λkv=>decide (kv.1=k))=(atKey xs k).isSome:=by
  rw[zFg,(r.val k).isSome_eq,bW]
 unfold rE storedH;rw[e];by_cases q:(atKey xs k).isSome=true
 ·rw[if_pos q,if_pos q]; exact r.repl k ry
 ·rw[if_neg q,if_neg q]; exact mX r ⟨rfl,hb,ry⟩
theorem KT.keeps{H H':Hp}{kvs:List (List Key×V)}{xs:List (List Key×af×ag)}(r:KT H kvs xs)(ht:∀ b ys,H b=some (.tup ys)->H' b=some (.tup ys)):KT H' kvs xs :=
 Paired.mapP r λ_ _ z=>⟨z.1,ht _ _ z.2.1,z.2.2⟩

section
variable{P:aK}{w:aT}{H:Hp}{h:aV}{a:af}
theorem yb0{u:HO}(ok:HOk P w H h)(e:Rd H a u):xD P w H h a u:=e.ok ok
theorem zJv{kvs:List (Key×V)}(ok:HOk P w H h)(e:Rd H a (.dK kvs)):kvs.length<=sizeLine/\(a == sysModules)=false/\∃ vs,KV kvs vs/\h.DictOf (yK P w) a vs :=
 show xD P w H h a (.dK kvs) from yb0 ok e
theorem zVc{kvs:List (Key×V)}(ok:HOk P w H h)(e:H a=some (.dK kvs)):kvs.length<=sizeLine/\(a == sysModules)=false/\∃ vs,KV kvs vs/\h.DictOf (yK P w) a vs:=zJv ok (.inl e)
theorem zMu{ks:List Key}(ok:HOk P w H h)(e:H a=some (.tup (ks.map kV))):(tupleKind (yK P w)).is h ks a:=by
 obtain⟨_,its,r,o,h1,h2,n,h3⟩:=(show xD P w H h a (.tup (ks.map kV)) from ok a _ e);exact⟨o,its.toArray,n,h1,h2,h3,by simpa using zK5 r⟩
theorem zQs{kvs:List (List Key×V)}(ok:HOk P w H h)(e:Rd H a (.dT kvs)):kvs.length<=sizeLine/\(a == sysModules)=false /\
  ∃ xs,KT H kvs xs/\h.DictOfH (tupleKind (yK P w)) a xs:=by
 obtain⟨z,y,xs,r,o,es,ep,h1,h2,h3,h4,h5⟩:=(show xD P w H h a (.dT kvs) from yb0 ok e);refine⟨z,y,xs,r,o,es,ep,h1,h2,h3,h4,λx hx=>?_,h5⟩;have all:∀{l:List (List Key×V)}{m:List (List Key×af×ag)},KT H l m->∀ x∈m,(tupleKind (yK P w)).is h x.1 x.2.1:=by
  intro l m q
  induction q with
  | nil=>intro x hx; exact nomatch hx
  | @cons p q ps qs hq t ih =>
   intro x hx;rcases aD.mp hx with e | hx
   ·subst e;exact zMu ok (by rw[<- hq.1]; exact hq.2.1)
   ·exact ih x hx
 exact all r x hx
theorem dt_of{kvs:List (List Key×V)}(ok:HOk P w H h)(e:H a=some (.dT kvs)):kvs.length<=sizeLine/\(a == sysModules)=false /\
  ∃ xs,KT H kvs xs/\h.DictOfH (tupleKind (yK P w)) a xs:=zQs ok (.inl e)
end

def zUo(H:Hp)(a:af)(y:V)(r:Option V):Prop :=
 (∃ kvs k,Rd H a (.dK kvs)/\y=kV k/\r=wL kvs k)\/∃ kvs k b,Rd H a (.dT kvs)/\y=.ref b/\H b=some (.tup (k.map kV))/\r=wL kvs k
def zMb(H:Hp)(a:af)(y v:V)(H':Hp):Prop :=
 (∃ kvs k,H a=some (.dK kvs)/\y=kV k/\kvs.length<sizeLine/\H'=upd H a (.dK (rE kvs k v))) \/
 ∃ kvs k b,H a=some (.dT kvs)/\y=.ref b/\H b=some (.tup (k.map kV))/\kvs.length<sizeLine/\H'=upd H a (.dT (rE kvs k v))
theorem zMb.k{H:Hp}{a:af}{kvs:List (Key×V)}{k:Key}{v:V}(e:H a=some (.dK kvs))(hl:kvs.length<sizeLine):zMb H a (kV k) v (upd H a (.dK (rE kvs k v))):=.inl ⟨kvs,k,e,rfl,hl,rfl⟩
section
variable{X:Cx}{pins:List (af×cz)}{σ:St}{H:Hp}{s:ai}{a:af}{y v:V}{u r:ag}{o:Option V}{A:bD}{E:ag->ai->Prop}

theorem Inv.big(I:Inv X pins σ H s):sysModules<s.heap.objs.size:=by
 have h:mainGlobals<s.heap.objs.size:=(I.mod.glob.keeps I.bk).lt;exact cY (by decide) h

theorem zSk{Q:ag->ai->Prop}(hu:A.units+1<cLine)(I:Inv X pins σ H s)(g:zUo H a y (some v))(ry:xE y u)(h:∀ w' s',Inv X pins σ H s'->xE v w'->Q w' s') :
  wpAny (model X.prog X.w) A (getItem (.ref a) u) Q E s:=by
 rcases g with ⟨kvs,k,e,ey,l⟩ | ⟨kvs,k,b,e,ey,eb,l⟩
 ·subst ey;obtain⟨z,hd,vs,rel,dd⟩:=zJv I.hok e;obtain⟨w',hw,rw'⟩:=zJ3.some_of (v:=v) (o:=valueAt vs k) (by rw[l]; exact rel.val k);exact kE (zJe ry) dd.mapOf hw (h w' _ (I.tok _) rw')
 ·subst ey;cases (show u=aI b from ry);obtain⟨z,hd,xs,rel,dd⟩:=zQs I.hok e;obtain⟨w',hw,rw'⟩:=zJ3.some_of (v:=v) (o:=(atKey xs k).map (·.2)) (by rw[l]; exact rel.val k);obtain⟨p,hp,hp2⟩:=aH.mp hw;refine wpAny_getItem_heap (tupleKind_room_in1 hu) (zMu I.hok eb) dd hp ?_;rw[hp2];exact h w' _ (I.tok _) rw'
theorem d_in{Q:ag->ai->Prop}(hu:A.units+1<cLine)(I:Inv X pins σ H s)(g:zUo H a y o)(ry:xE y u)(h:∀ s',Inv X pins σ H s'->Q (.bool o.isSome) s') :
  wpAny (model X.prog X.w) A (compareOp .In u (.ref a)) Q E s:=by
 rcases g with ⟨kvs,k,e,ey,l⟩ | ⟨kvs,k,b,e,ey,eb,l⟩
 ·subst ey;obtain⟨z,hd,vs,rel,dd⟩:=zJv I.hok e;refine wpAny_in_of (zJe ry) hd dd.mapOf ?_;rw[<- (rel.val k).isSome_eq,<- l];exact h _ (I.tok _)
 ·subst ey;cases (show u=aI b from ry);obtain⟨z,hd,xs,rel,dd⟩:=zQs I.hok e;refine wpAny_in_heap (tupleKind_room_in1 hu) (zMu I.hok eb) hd dd ?_;have q:=(rel.val k).isSome_eq;rw[bW] at q;rw[<- q,<- l];exact h _ (I.tok _)
theorem zXx{Q:ag->ai->Prop}(hu:A.units+1<cLine)(I:Inv X pins σ H s)(g:zUo H a y o)(ry:xE y u)(h:∀ s',Inv X pins σ H s'->Q (.bool (!o.isSome)) s') :
  wpAny (model X.prog X.w) A (compareOp .NotIn u (.ref a)) Q E s:=by
 rcases g with ⟨kvs,k,e,ey,l⟩ | ⟨kvs,k,b,e,ey,eb,l⟩
 ·subst ey;obtain⟨z,hd,vs,rel,dd⟩:=zJv I.hok e;refine wpAny_notIn_of (zJe ry) hd dd.mapOf ?_;rw[<- (rel.val k).isSome_eq,<- l];exact h _ (I.tok _)
 ·subst ey;cases (show u=aI b from ry);obtain⟨z,hd,xs,rel,dd⟩:=zQs I.hok e;refine wpAny_notIn_heap (tupleKind_room_in1 hu) (zMu I.hok eb) hd dd ?_;have q:=(rel.val k).isSome_eq;rw[bW] at q;rw[<- q,<- l];exact h _ (I.tok _)
theorem zFy{h':aV}{t':Nat}{ob:HO}(I:Inv X pins σ H s)(mu:Mut (H a))(hs:cI a s.heap h')(he:∃ q,h'.get? a=some q)(new:xD X.prog X.w (upd H a ob) h' a ob) :
  Inv X pins σ (upd H a ob) { s with heap:=h',toks:=t' } :=
 I.write (x:=a) (e:=a) mu (.inl rfl) (λb q hb z=>(hs.2 b hb).trans z) he new
theorem zLv{P:aK}{w:aT}{H':Hp}{h':aV}{kvs:List (Key×V)}{vs:List (Key×ag)}(z:kvs.length<=sizeLine)(hd:(a == sysModules)=false)(rel:KV kvs vs)(dd:h'.DictOf (yK P w) a vs) :
  xD P w H' h' a (.dK kvs):=⟨z,hd,vs,rel,dd⟩
theorem zTs{H':Hp}{Q:Unit->ai->Prop}(hu:A.units+1<cLine)(I:Inv X pins σ H s)(g:zMb H a y v H')(ry:xE y u)(rv:xE v r)(h:∀ s',Inv X pins σ H' s'->Q () s') :
  wpAny (model X.prog X.w) A (setItem (.ref a) u r) Q E s:=by
 rcases g with ⟨kvs,k,e,ey,l,eH⟩ | ⟨kvs,k,b,e,ey,eb,l,eH⟩
 ·subst ey eH;obtain⟨z,hd,vs,rel,dd⟩:=zVc I.hok e;have hz:vs.length<=sizeLine:=by rw[<- rel.length]; exact z
  have hl:(rE kvs k v).length<=sizeLine:=by have:=zB4 kvs k v; lia
  refine wpAny_setItem_pairs (hsz:=hz) (zJe ry) dd λh' dd' hs=>h _ ?_;have he:∃ q,h'.get? a=some q:=let ⟨q,_,_,hq,_⟩:=dd';⟨q,hq⟩;exact zFy I (by rw[e]; exact bv) hs he (zLv hl hd (rel.put k rv) dd')
 ·subst ey eH;cases (show u=aI b from ry);obtain⟨z,hd,xs,rel,dd⟩:=dt_of I.hok e;have hz:xs.length<=sizeLine:=by rw[<- jh rel]; exact z
  have hl:(rE kvs k v).length<=sizeLine:=by have:=zB4 kvs k v; lia
  refine wpAny_setItem_heap (hsz:=hz) (tupleKind_room_in1 hu) (zMu I.hok eb) dd λh' dd' hs=>h _ ?_;obtain⟨q,es,ep,hq,h2,h3,h4,_,h5⟩:=dd';refine zFy I (by rw[e]; exact bv) hs ⟨q,hq⟩ ⟨hl,hd,_,(rel.put k eb rv).keeps λc ys ec=>?_,q,es,ep,hq,h2,h3,h4,h5⟩;rw[zH (yd2 ec e (λz=>nomatch z))];exact ec
end

section
variable{X:Cx}{pins:List (af×cz)}{σ:St}{H:Hp}{s:ai}{a:af}{kvs:List (Key×V)}{k:Key}{u:ag}{A:bD}{E:ag->ai->Prop}
theorem ya2{Q:Unit->ai->Prop}(I:Inv X pins σ H s)(e:H a=some (.dK kvs))(ry:xE (kV k) u)(l:(wL kvs k).isSome=true)(h:∀ s',Inv X pins σ (upd H a (.dK (zEp kvs k))) s'->Q () s') :
  wpAny (model X.prog X.w) A (delItem (.ref a) u) Q E s:=by
 obtain⟨z,hd,vs,rel,dd⟩:=zVc I.hok e;refine wpAny_delItem_slot dd.typeIs (by decide) gH
  (call_meetsIn gH dd.typeIs PySem.F.entry_dict_delitem (PySem.F.args_dict_delitem_2 _ _) (meets_dict_delitem_pairs (yK X.prog X.w) a (zJe ry)) ⟨vs,dd,by rw[<- rel.length]; exact z,by rw[<- (rel.val k).isSome_eq]; exact l,λh' dd' hs=>h _ ?_⟩)
 have he:∃ q,h'.get? a=some q:=let ⟨q,_,_,hq,_⟩:=dd';⟨q,hq⟩;exact zFy I (by rw[e]; exact bv) hs he (zLv (aJ (zO9 kvs k) z) hd (rel.drop k) dd')
theorem d_pop{v:V}{more:List ag}{Q:ag->ai->Prop}(I:Inv X pins σ H s)(e:H a=some (.dK kvs))(ry:xE (kV k) u)(l:wL kvs k=some v)(hm:more=[]\/∃ x,more=[x])
  (h:∀ w' s',Inv X pins σ (upd H a (.dK (zEp kvs k))) s'->xE v w'->Q w' s'):wpAny (model X.prog X.w) A (call (.builtin "dict.pop") (.ref a::u::more)) Q E s:=by
 obtain⟨z,hd,vs,rel,dd⟩:=zVc I.hok e;obtain⟨w',hw,rw'⟩:=zJ3.some_of (v:=v) (o:=valueAt vs k) (by rw[<- l]; exact rel.val k);have hp:(keyPart u).isSome=true:=by
  cases k with
  | inl i=>obtain⟨t,q⟩:=(show ∃ t,u=dH i t from ry); subst q; rfl
  | inr x=>obtain⟨t,q⟩:=(show ∃ t,u=cB x t from ry); subst q; rfl
 have ha:argsOk "dict.pop" ⟨.ref a::u::more,[]⟩:=by
  rcases hm with q | ⟨x,q⟩
  ·subst q; exact PySem.F.args_dict_pop_2 _ _
  ·subst q; exact PySem.F.args_dict_pop_3 _ _ _
 refine call_meetsIn iL dd.typeIs PySem.F.entry_dict_pop ha (meets_dict_pop_there (yK X.prog X.w) a (zJe ry) more hm hp)
  ⟨vs,w',dd,by rw[<- rel.length]; exact z,hw,λh' dd' hs=>h w' _ ?_ rw'⟩
 have he:∃ q,h'.get? a=some q:=let ⟨q,_,_,hq,_⟩:=dd';⟨q,hq⟩;exact zFy I (by rw[e]; exact bv) hs he (zLv (aJ (zO9 kvs k) z) hd (rel.drop k) dd')
theorem d_len{Q:ag->ai->Prop}(I:Inv X pins σ H s)(e:Rd H a (.dK kvs))(h:∀ t s',Inv X pins σ H s'->Q (.int kvs.length t) s'):wpAny (model X.prog X.w) A (call (.builtin "len") [.ref a]) Q E s:=by
 obtain⟨z,hd,vs,rel,dd⟩:=zJv I.hok e;refine call_len_dict hd dd (by rw[<- rel.length]; rw[sizeLine_eq] at z; lia) ?_;rw[<- rel.length];exact h _ _ (I.tok _)
end


def yh6(i:bu):Prop:=∀ ov iv,subscripted i false ov iv=operate [ov,iv] (getItem ov iv)
theorem zM7{prog:aK}{w:aT}{A:bD}{E:ag->ai->Prop}{s:ai}{env:fV}{value slice:bu}{pos:eS}{T id:String}{Q:ag->ai->Prop}
  (hl:typeLookup (.type T) "__getitem__" = pure (some (.builtin id))) (hs:yh6 slice)
  (h:wpAny (model prog w) A (eval value env) (λo s₁=>wpAny (model prog w) A (eval slice env) (λi s₂=>s₂.TypeIs o T/\wpAny (model prog w) A (getItem o i) Q E s₂) E s₁) E s) :
  wpAny (model prog w) A (eval (.Subscript value slice pos) env) Q E s:=by
 refine k9 (cT h (λo s₁ h₁=>cT h₁ (λi s₂ h₂=>?_) λ_ _ x=>x) λ_ _ x=>x);obtain⟨hT,h₂⟩:=h₂;unfold subscriptTail;refine aa ?_;rw[getitemInPython_of_ne hT.not_modules];refine aa (kT hT hl ?_);have fin:wpAny (model prog w) A (subscripted slice false o i) (λr s₃=>wpAny (model prog w) A (letTemporaryGo value o r >>= λ_=>pure r) Q E s₃) E s₂:=by
  rw[hs o i];exact wpAny_operating (cT h₂ (λr s₃ h₃=>aa (wpAny_letTemporaryGo (ak h₃))) λ_ _ x=>x)
 first
  | exact ak (aa fin)
  | exact aa (ak (aa fin))
  | exact aa fin

theorem zN2{X:Cx}{pins:List (af×cz)}{σ:St}{H:Hp}{s:ai}{a:af}{y:V}{o:Option V}(I:Inv X pins σ H s)(g:zUo H a y o):s.TypeIs (.ref a) "dict" := by
 rcases g with ⟨kvs,k,e,_,_⟩ | ⟨kvs,k,b,e,_,_,_⟩
 ·obtain⟨_,_,vs,_,dd⟩:=zJv I.hok e;exact dd.typeIs
 ·obtain⟨_,_,xs,_,dd⟩:=zQs I.hok e;exact dd.typeIs
def tDGet(td ty:TE):TE:=λσ H Q=>td σ H λx H1=>ty σ H1 λy H2=>∃ a v,x=.ref a/\zUo H2 a y (some v)/\Q v H2
def tDIn(ty td:TE):TE:=λσ H Q=>ty σ H λy H1=>td σ H1 λx H2=>∃ a o,x=.ref a/\zUo H2 a y o/\Q (.bl o.isSome) H2
def zZl(ty td:TE):TE:=λσ H Q=>ty σ H λy H1=>td σ H1 λx H2=>∃ a o,x=.ref a/\zUo H2 a y o/\Q (.bl (!o.isSome)) H2
def sDPut(td ty tv:TE):TS:=λD σ H=>tv σ H λv H1=>td σ H1 λx H2=>ty σ H2 λy H3=>∃ a H4,x=.ref a/\zMb H3 a y v H4/\D.nx σ H4
section
variable{X:Cx}{o i e value:bu}{pos pos' tpos:eS}{td ty tv:TE}
theorem zP(hu:X.A.units+1<cLine)(ho:PE X o td)(hi:PE X i ty)(hs:yh6 i):PE X (.Subscript o i pos) (tDGet td ty):=by
 intro pins s σ H Q I h;refine zM7 eP.lookup hs (thn (ho pins s σ H _ I h) λu s1 ⟨x,H1,I1,rx,q1⟩=>thn (hi pins s1 σ H1 _ I1 q1) λiv s2 ⟨y,H2,I2,ry,a,v,ex,g,q2⟩=>?_);subst ex;obtain rfl:u=aI a:=rx;exact⟨zN2 I2 g,zSk hu I2 g ry λw' s3 I3 rw'=>⟨v,H2,I3,rw',q2⟩⟩
theorem zJ8(hu:X.A.units+1<cLine)(hi:PE X i ty)(ho:PE X o td):PC X .In i o (tDIn ty td):=by
 intro pins s σ H Q I h;refine thn (hi pins s σ H _ I h) λiv s1 ⟨y,H1,I1,ry,q1⟩=>thn (ho pins s1 σ H1 _ I1 q1) λu s2 ⟨x,H2,I2,rx,a,ov,ex,g,q2⟩=>?_;subst ex;obtain rfl:u=aI a:=rx;exact d_in hu I2 g ry λs3 I3=>⟨.bl ov.isSome,H2,I3,rfl,q2⟩
theorem sG(hu:X.A.units+1<cLine)(hi:PE X i ty)(ho:PE X o td):PC X .NotIn i o (zZl ty td):=by
 intro pins s σ H Q I h;refine thn (hi pins s σ H _ I h) λiv s1 ⟨y,H1,I1,ry,q1⟩=>thn (ho pins s1 σ H1 _ I1 q1) λu s2 ⟨x,H2,I2,rx,a,ov,ex,g,q2⟩=>?_;subst ex;obtain rfl:u=aI a:=rx;exact zXx hu I2 g ry λs3 I3=>⟨.bl (!ov.isSome),H2,I3,rfl,q2⟩
theorem rG(hu:X.A.units+1<cLine)(ho:PE X o td)(hi:PE X i ty)(hv:PE X value tv)(hs:swapsWith value (some (.Subscript o i pos')) pos.line X.env=pure false) :
  PS X (.Assign [.Subscript o i pos'] value pos) (sDPut td ty tv):=by
 intro pins s σ H D I h;refine wpAny_Assign_Subscript (thn (hv pins s σ H _ I h) λr s1 ⟨v,H1,I1,rv,q1⟩=>thn (ho pins s1 σ H1 _ I1 q1) λu s2 ⟨x,H2,I2,rx,q2⟩=>thn (hi pins s2 σ H2 _ I2 q2) λiv s3 ⟨y,H3,I3,ry,a,H4,ex,g,q3⟩=>?_) hs;subst ex;obtain rfl:u=aI a:=rx;exact zTs hu I3 g ry rv λs4 I4=>⟨σ,H4,I4,q3⟩
end


theorem zN6{P:aK}{w:aT}{H:Hp}(h:aV)(hb:sysModules<h.objs.size):xD P w H (h.push { cls:=.type "dict",data:=.dict #[] }) h.objs.size (.dK []) :=
 ⟨br _,beq_eq_false_iff_ne.mpr (cm (aP hb)),[],.nil,Heap.DictOf.new h⟩
def yg2:TE:=λ_ H Q=>∀ p,H p=none->Q (.ref p) (upd H p (.dK []))
section
variable{X:Cx}{pos:eS}
theorem rD:PE X (.Dict [] [] pos) yg2:=λpins s σ H Q I h =>
 wpAny_Dict_empty ⟨.ref s.heap.objs.size,_,I.laid (a:=s.heap.objs.size) (o:=.dK []) (t':=s.toks) (λ_ _ q=>ah _ q) (al _) (zN6 s.heap I.big),rfl,h _ (I.hok.fresh (al _))⟩
end

def zR4:List (TE×TE)->St->Hp->(List (V×V)->Hp->Prop)->Prop
 | [],_,H,Q=>Q [] H
 | (tk,tv)::r,σ,H,Q=>tk σ H λx H1=>tv σ H1 λy H2=>zR4 r σ H2 λps H3=>Q ((x,y)::ps) H3
abbrev VV:List (V×V)->List (ag×ag)->Prop:=j7 λp q=>xE p.1 q.1/\xE p.2 q.2
def PPs(X:Cx)(pos:eS)(keys:List (Option bu))(values:List bu)(trs:List (TE×TE)):Prop :=
 ∀(pins:List (af×cz))(s:ai)(σ:St)(H:Hp)(Q:List (V×V)->Hp->Prop),Inv X pins σ H s->zR4 trs σ H Q ->
  wpAny (model X.prog X.w) X.A (evalPairs (pairTrees keys values X.env pos)) (λvs s'=>∃ ps H',Inv X pins σ H' s'/\VV ps vs/\Q ps H') X.xe s
theorem zNg{X:Cx}{pos:eS} : PPs X pos [] [] []:=λpins s σ H Q I h=>pairTrees_nil_walk ⟨[],H,I,.nil,h⟩
theorem wB{X:Cx}{pos:eS}{k v:bu}{ks:List (Option bu)}{vs:List bu}{tk tv:TE}{trs:List (TE×TE)}(hk:PE X k tk)(hv:PE X v tv)(hr:PPs X pos ks vs trs) :
  PPs X pos (some k::ks) (v::vs) ((tk,tv)::trs):=λpins s σ H Q I h =>
 pairTrees_cons_walk (thn (hk pins s σ H _ I h) λu s1 ⟨x,H1,I1,rx,q1⟩=>thn (hv pins s1 σ H1 _ I1 q1) λw2 s2 ⟨y,H2,I2,ry,q2⟩ =>
  thn (hr pins s2 σ H2 _ I2 q2) λws s3 ⟨ps,H3,I3,rel,q3⟩=>⟨(x,y)::ps,H3,I3,.cons ⟨rx,ry⟩ rel,q3⟩)

def zD8(kvs more:List (Key×V)):List (Key×V):=more.foldl (λacc kv=>rE acc kv.1 kv.2) kvs
theorem KV.merge:∀{more:List (Key×V)}{rs:List (Key×ag)}{kvs:List (Key×V)}{vs:List (Key×ag)},KV more rs->KV kvs vs->KV (zD8 kvs more) (merged vs rs):=by
 intro more rs kvs vs r;unfold KV at r
 induction r generalizing kvs vs with
 | nil=>intro q; exact q
 | @cons p q ps qs h t ih =>
  intro r0;have e:KV (rE kvs p.1 p.2) (stored vs q.1 q.2):=by
   have:=r0.put p.1 h.2;rw[<- h.1]; exact this
  exact ih e
theorem zC0:∀(more kvs:List (Key×V)),(zD8 kvs more).length<=kvs.length+more.length
 | [],kvs=>by show kvs.length<=kvs.length+0; lia
 | p::r,kvs=>by
  have h1:=zC0 r (rE kvs p.1 p.2);have h2:=zB4 kvs p.1 p.2;show(zD8 (rE kvs p.1 p.2) r).length<=_;rw[aU]; lia
theorem zH4{P:aK}{w:aT} : ∀{kvs:List (Key×V)}{ws:List (ag×ag)},VV (kvs.map λkv=>(kV kv.1,kv.2)) ws->∃ rs,Carries (yK P w) ws rs/\KV kvs rs
 | [],_,r=>by rw[fq] at r; cases r; exact⟨[],bv,.nil⟩
 | p::kvs,_,r=>by
  rw[aQ] at r;cases r with
  | @cons a b as bs h t =>
   obtain⟨rs,c,q⟩:=zH4 (P:=P) (w:=w) t;obtain⟨b1,b2⟩:=b;exact⟨(p.1,b2)::rs,⟨zJe h.1,U,c⟩,.cons ⟨U,h.2⟩ q⟩
def tDisp(trs:List (TE×TE)):TE:=λσ H Q=>∀ p,H p=none->zR4 trs σ (upd H p (.dK [])) λps H2=>H2 p=some (.dK [])/\∃ kvs:List (Key×V),ps=kvs.map (λkv=>(kV kv.1,kv.2))/\kvs.length<=15/\Q (.ref p) (upd H2 p (.dK (zD8 [] kvs)))
theorem zNp{X:Cx}{pos:eS}{keys:List (Option bu)}{values:List bu}{trs:List (TE×TE)}(h:PPs X pos keys values trs)(hall:keys.all (·.isSome)=true)(hl:keys.length=values.length)(h0:keys≠[])
  (h15:keys.length<=15):PE X (.Dict keys values pos) (tDisp trs):=by
 intro pins s σ H Q I q;have hn:=I.hok.fresh (al s.heap.objs.size);have I1:=I.laid (a:=s.heap.objs.size) (o:=.dK []) (h':=s.heap.push { cls:=.type "dict",data:=.dict #[] }) (t':=s.toks) (λ_ _ q=>ah _ q) (al _) (zN6 s.heap I.big);refine wpAny_Dict_walk (knd:=yK X.prog X.w) hall hl h0 h15 (thn (h pins _ σ _ _ I1 (q _ hn)) λws s2 ⟨ps,H2,I2,rel,e,kvs,ep,lk,q2⟩=>?_);subst ep;obtain⟨rs,c,rk⟩:=zH4 (P:=X.prog) (w:=X.w) rel;obtain⟨z,hd,vs0,r0,dd⟩:=zVc I2.hok e;cases r0;refine⟨rs,c,dd,λh' dd' hs=>⟨.ref s.heap.objs.size,_,?_,U,q2⟩⟩;have hz:(zD8 [] kvs).length<=sizeLine:=by
  have h1:=zC0 kvs [];rw[cO] at h1;rw[sizeLine_eq]; lia
 have he:∃ q,h'.get? s.heap.objs.size=some q:=let ⟨q,_,_,hq,_⟩:=dd';⟨q,hq⟩;exact zFy I2 (by rw[e]; exact bv) hs he (zLv hz hd (rk.merge .nil) dd')



end L2

namespace L2
open PySem PySem.Spec PyProof.Rows
def zUd(h:aV)(a:af)(rows:Array df)(age:Nat):Prop:=∃ ob,h.get? a=some ob/\ob.ExactDict/\ob.data=.dict rows age
theorem zUd.at{h h':aV}{a:af}{rows:Array df}{age:Nat}(x:zUd h a rows age)(e:∀ ob,h.get? a=some ob->h'.get? a=some ob):zUd h' a rows age:=let ⟨ob,g,r⟩:=x;⟨ob,e _ g,r⟩
theorem zUd.typeIs{z:ai}{a:af}{rows:Array df}{age:Nat}(x:zUd z.heap a rows age):z.TypeIs (.ref a) "dict" := let ⟨ob,g,c,_⟩:=x;⟨ob,g,c.1⟩
section
variable{prog:aK}{w:aT}{A:bD}{E:ag->ai->Prop}{z:ai}{it a:af}{rows:Array df}{age k:Nat}
theorem zUp{R:ag->ai->Prop}(hs:(a == sysModules)=false)(x:zUd z.heap a rows age)(hR:R (.ref z.heap.objs.size) { z with heap:=z.heap.push { cls:=.type "dict_keyiterator",data:=.fields #[.ref a,.int 0 0,.int rows.size 0,.int age 0] } }) :
  wpAny (model prog w) A (pyIter (.ref a)) R E z:=by
 have ty:=x.typeIs;obtain⟨ob,g,_,dat⟩:=x;refine jP ty kF (bQ kF ty F.entry_dict_iter ?walk (F.args_dict_iter_1 _))
 case walk =>
  unfold eL.«dict.__iter__» lS;refine aa (aa (wpAny_notOrdered_dict ty (show wpAny _ _ (pure (aI a)) _ _ z from ak ?_)));show wpAny _ _ (iM a >>= _) _ _ z;unfold iM;rw[if_neg (by rw[hs]; decide)];refine aa (ak (aa (gR g dat (aa (iA g dat ?_)))));refine aa (bj (ak ⟨_,rfl, "dict_keyiterator",_,⟨_,ap _ rfl,rfl⟩,cG.lookup,?_⟩));simpa [rawInt] using hR
theorem zV8{R:Option ag->ai->Prop}(ki:z.heap.IsKeyIter it a k rows.size age)(x:zUd z.heap a rows age)(hk:k<rows.size)
  (hR:∀ h',h'.IsKeyIter it a (k+1) rows.size age->cI it z.heap h'->R (some rows[k].key) { z with heap:=h' }):wpAny (model prog w) A (pyNext (.ref it)) R E z:=by
 have ty:=ki.typeIs;obtain⟨oi,gi,ci,di⟩:=id ki;obtain⟨ob,g,_,dat⟩:=x;unfold pyNext;refine aa (dR (bO (name:=aO "__next__") ty cG (bQ cG ty fM ?walk (fG _))))
 case walk =>
  refine aa (ak (aa (aa ?_)))
  first | refine aa (de ty (ak (aa (gC gi di ?_)))) | refine aa (dS ty (ak (aa (gC gi di ?_))))
  simp only[show fT "dict_keyiterator" = false by decide,cH,if_false];show wpAny _ _ (if (aI a == bg)=true then _ else _) _ _ z;rw[if_neg (show ¬ ((aI a == bg)=true) from aB)];refine aa (ak (aa (gR g dat ?_)));rw[if_neg (by simp)];refine aa (ak (aa (iA g dat ?_)));rw[if_neg (by simp)];refine ak ?_;simp only[show ¬ ((k:Int)<0) from by lia,if_false,cg,cQ hk];refine aa ?_
  first | refine aa (de ty (ak (aa (fA ty ?_)))) | refine aa (dS ty (ak (aa (fA ty ?_))))
  show wpAny _ _ (setField (.ref it) 1 (rawInt ((k:Int)+1)) >>= _) _ _ z;refine aa (c9 gi di (by simp) ?_);have ki':(z.heap.update it (cZ (·.setIfInBounds 1 (rawInt ((k:Int)+1))))).IsKeyIter it a (k+1) rows.size age :=
   ⟨_,cC _ gi (cS (cv di _)),(eC ..).trans ci,by rw[cv di]; simp[rawInt]⟩
  refine aa (bX (aa (fA (s:={ z with heap:=z.heap.update it (cZ (·.setIfInBounds 1 (rawInt ((k:Int)+1)))) }) ki'.typeIs ?_)));show wpAny _ _ (pure rows[k].key) _ _ _;exact ak (ak ⟨_,rfl,ak (hR _ ki' (eV ..))⟩)
theorem zYx{R:Option ag->ai->Prop}(hh:A.handled=none)(ki:z.heap.IsKeyIter it a k rows.size age)(x:zUd z.heap a rows age)(hk:rows.size<=k)
  (hR:∀ h',fi it z.heap h'->R none { z with heap:=h' }):wpAny (model prog w) A (pyNext (.ref it)) R E z:=by
 have ty:=ki.typeIs;obtain⟨oi,gi,ci,di⟩:=id ki;obtain⟨ob,g,_,dat⟩:=x;unfold pyNext;refine aa (dR (bO (name:=aO "__next__") ty cG (bQ cG ty fM ?walk (fG _))))
 case walk =>
  refine aa (ak (aa (aa ?_)))
  first | refine aa (de ty (ak (aa (gC gi di ?_)))) | refine aa (dS ty (ak (aa (gC gi di ?_))))
  simp only[show fT "dict_keyiterator" = false by decide,cH,if_false];show wpAny _ _ (if (aI a == bg)=true then _ else _) _ _ z;rw[if_neg (show ¬ ((aI a == bg)=true) from aB)];refine aa (ak (aa (gR g dat ?_)));rw[if_neg (by simp)];refine aa (ak (aa (iA g dat ?_)));rw[if_neg (by simp)];refine ak ?_;simp only[show ¬ ((k:Int)<0) from by lia,if_false,cg,d4 hk];refine aa ?_
  first | refine aa (de ty (ak ?_)) | refine aa (dS ty (ak ?_))
  show wpAny _ _ (setField (.ref it) 0 .none >>= _) _ _ z;refine aa (c9 gi di (by simp) (show wpAny _ _ (newExc (.type "StopIteration") [] >>= _) _ _ _ from aa ?_));simp only[newExc,newTuple];refine aa (bj (aa (m:=firstArgMember _ _) (eI (a:=bg) (by first | rfl | (simp only[firstArgMember]; rfl)) (bj ?_ (by size_fits)))) (by size_fits));simp only[raiseNew];refine aa (jj ?_);rw[show A.in1.handled=none from hh];refine aa (ak (kN ?_));refine aa (fF (T := "StopIteration") (b:=true) ⟨_,ap _ rfl,rfl⟩ isSubtype_stop ?_);exact ak (hR _ (((eV ..).extBut.push _).push _))
theorem zRp(hh:A.handled=none)(hne:a≠it):Walks prog w A it [it,a] [it] rows.size (λi v=>∃ h:i<rows.size,v=rows[i].key) (λi h=>h.IsKeyIter it a i rows.size age/\zUd h a rows age) where
 sub:=λb hb=>by simp at hb; simp[hb]
 frame:=λ_ _ _ st hk=>⟨st.1.at λo e=>hk it (by simp) o e,st.2.at λo e=>hk a (by simp) o e⟩
 item:=λi s Q E hi st hQ=>zV8 st.1 st.2 hi λh' ki' hs' =>
  hQ _ h' s.toks ⟨hi,rfl⟩ ⟨ki',st.2.at λo e=>hs'.extBut a o hne e⟩ λb o hb e=>hs'.extBut b o (λh=>hb (by simp[h])) e
 done:=λs Q E st hQ=>zYx hh st.1 st.2 (al _) λh' he'=>hQ h' s.toks λb o hb e=>he' b o (λh=>hb (by simp[h])) e
 self:=λ_ _ _ _ st hQ=>wpAny_pyIter_keyiter st.1 hQ
theorem zYl(hs:(a == sysModules)=false):PySem.W.KdlSrc prog w "dict" a a rows.size (λi v=>∃ h:i<rows.size,v=rows[i].key) (λh=>zUd h a rows age) where
 type:=λ_ x=>x.typeIs
 there:=λ_ x=>let ⟨_,g,_⟩:=x;⟨aw g,aw g⟩
 keep:=λ_ _ x hk=>x.at λo e=>hk a (.inl rfl) o e
 notList:=by decide
 notTuple:=by decide
 hint:=λ_ _ _ _ x hq=>PySem.W.kdl_hint_dict x.typeIs hq
 iter:=λ_ s hh x=>⟨_,_,(λ_ _ hq=>zUp hs x hq),zRp hh (let ⟨_,g,_⟩:=x; aP (aw g)),⟨⟨_,ap _ rfl,rfl,rfl⟩,x.at λo e=>ah _ e⟩⟩
end
end L2

namespace Sea
open PySem L2
abbrev Sd:=af×Int×Int×Int
abbrev ya4(ss:List Sd):List V:=(ss.map (·.1)).map V.ref
def SdOk(H:Hp)(ss:List Sd):Prop:=∀ t∈ss,H t.1=some (.tup [.int t.2.1,.int t.2.2.1,.int t.2.2.2])/\(t.2.1≠0\/t.2.2.1≠0)/\t.2.1.natAbs<=10^9/\t.2.2.1.natAbs<=10^9/\t.2.2.2.natAbs<=10^13
def zXn(ss:List Sd)(x y:Int):Bool:=ss.all λt=>decide (t.2.1*x+t.2.2.1*y<=0)
def WK(ss:List Sd)(n:Nat)(k:List Int):Prop:=∃ j t,j<n/\ss[j]?=some t/\((k=zQ6 [-t.2.2.1,t.2.1]/\zXn ss (-t.2.2.1) t.2.1=true)\/(k=zQ6 [t.2.2.1,-t.2.1]/\zXn ss t.2.2.1 (-t.2.1)=true))
theorem zUv{ss:List Sd}{x y g:Int}(hg:0<g):zXn ss (x*g) (y*g)=zXn ss x y:=by
 unfold zXn
 congr 1
 funext t
 refine decide_eq_decide.mpr ?_;have e:t.2.1*(x*g)+t.2.2.1*(y*g)=(t.2.1*x+t.2.2.1*y)*g:=by rw[Int.add_mul,dQ,dQ]
 rw[e];constructor
 ·intro h;by_cases c:t.2.1*x+t.2.2.1*y<=0
  ·exact c
  ·have:=Int.mul_pos (show 0<t.2.1*x+t.2.2.1*y by lia) hg;lia
 ·intro h;have:=iU (show 0<=-(t.2.1*x+t.2.2.1*y) by lia) (ik hg);rw[Int.neg_mul] at this;lia
theorem way_low{ss:List Sd}{x y:Int}(gp:0<qF [x,y]):zXn ss (x/(qF [x,y]:Int)) (y/(qF [x,y]:Int))=zXn ss x y:=by
 have gI:(0:Int)<(qF [x,y]:Int):=by lia
 have e1:=qN (ns:=[x,y]) (n:=x) (by simp);have e2:=qN (ns:=[x,y]) (n:=y) (by simp);have z:=zUv (ss:=ss) (x:=x/(qF [x,y]:Int)) (y:=y/(qF [x,y]:Int)) gI;rw[e1,e2] at z;exact z.symm
def keyI(ns:List Int):List Key:=ns.map dW
structure TabK(kvs:List (List Key×V))(ks:List (List Int)):Prop where
 keys:kvs.map (·.1)=ks.map keyI
 nodup:ks.Nodup
structure WaysAt(H:Hp)(l:af)(ss:List Sd)(us:List (af×List Int)):Prop where
 at':H l=some (.lst ((us.map (·.1)).map V.ref))
 all:∀ u∈us,H u.1=some (.tup (u.2.map V.int))
 rises:(us.map (·.2)).Pairwise (λa b=>HT.lexLt b a=false)
 nodup:(us.map (·.2)).Nodup
 mem:∀ k,k∈us.map (·.2)↔WK ss ss.length k
 few:us.length<=80
structure SdSt(H0:Hp)(D:af)(ss:List Sd)(H:Hp):Prop where
 same:Same H0 H
 new:H0 D=none
 at':H D=some (.lst (ya4 ss))
 all:SdOk H ss
end Sea

namespace Sea
open PySem L2
theorem zZx{i j:Int}(h:i.natAbs<=10^18):yh8 i j:=.inl ⟨by lia,by lia⟩
abbrev P3:=Int×Int×Int
def sv(t p:P3):Int:=t.1*p.1+t.2.1*p.2.1-t.2.2*p.2.2
def tn(e s:P3):Int:=e.1*s.2.1-e.2.1*s.1
structure IsSpot(l:List Int)(p:P3):Prop where
 list:l=[p.1,p.2.1,p.2.2]
 pos:0<p.2.2
 low:eM (eM p.1.natAbs p.2.1.natAbs) p.2.2.natAbs=1
def inW(ss:List Sd)(p:P3):Prop:=∀ t∈ss,sv t.2 p<=0
end Sea

namespace Sea
open PySem L2
end Sea

namespace L2
open PySem PySem.Spec PyProof.Rows PySem.W
def PrAt(H:Hp)(cs:List Pr):Prop:=∀ t∈cs,H t.1=some (.tup [.int t.2.1,.int t.2.2])
end L2

namespace Sea
open PySem L2
def dt(s g:P3):Int:=s.1*g.1+s.2.1*g.2.1
structure Bound(ss:List Sd)(g:P3):Prop where
 nz:∀ t∈ss,t.2.1≠0\/t.2.2.1≠0
 gz:g.1≠0\/g.2.1≠0
 ways:∀ t∈ss,∀ h:Int,(h=1\/h = -1)->(∀ s∈ss,tn t.2 s.2*h<=0)->tn t.2 g*h<=0
 lead:¬ ∀ s∈ss,dt s.2 g<=0
 one:∀ t∈ss,tn t.2 g=0->0<dt t.2 g->∀ P:P3,0<P.2.2->sv t.2 P=0->¬ inW ss P
end Sea

namespace L2
open PySem PySem.Spec PyProof.Rows PySem.W
theorem yi5{a b:aA}{A B:Prop}(h:a≠b)(hB:B):if decide (V.str a=V.str b)=true then A else B:=by
 rw[decide_eq_false (λz=>h (by injection z))];exact hB
theorem ifSt{a:aA}{A B:Prop}(hA:A):if decide (V.str a=V.str a)=true then A else B:=by
 rw[decide_eq_true rfl];exact hA
theorem cut4{ok:af->Int->Int->Hp->Prop}{G:Prop}{R:af->Int->Int->Hp->Prop}(h1:(∀ p x y G,ok p x y G->R p x y G)->G)(h2:∀ p x y G,ok p x y G->R p x y G):G:=h1 h2
end L2

namespace L2
open PySem PySem.Spec PyProof.Rows

def zYg(scope:fg)(x:aA):Bool:=scope.names.any λy=>y.1 == x&&y.2 == .cell
structure OwnScope(X:Cx)(caps:List (aA×Nat))(scope:fg):Prop where
 kind:scope.kind=.function
 dis:(scope.names.all λx=>!(x.2 == .free) || !zYg scope x.1)=true
 loc:∀ y∈scope.names,y.2=.local->scope.names.lookup y.1=some .local
 clos:(scope.names.all λx=>!(x.2 == .free)||(X.env.cells.lookup x.1).isSome)=true
 cap:zHt X scope caps
section
variable{X:Cx}{T:List aA}{caps:List (aA×Nat)}{scope:fg}{elt target iter:bu}{ifs:List bu}{pos cpos:eS}{wi:TI}{g:CC->TG}{tt:CC->TT}{te:CC->TE}

end
end L2

namespace Sea
open PySem L2
def awB(N:Nat):List (Int×Int)->Int->Bool
 | [],_=>true
 | c::cs,least=>if least<=c.1/\c.1<N/\1<=c.2 then awB N cs (c.1+1) else false
def yb3(ss:List Sd)(f:Sd->Int)(n:Int):Int:=match ss[n.toNat]? with
 | some t=>f t
 | none=>0
def zXm(ss:List Sd)(f:Sd->Int):List (Int×Int)->Int->Int
 | [],T=>T
 | c::cs,T=>zXm ss f cs (T+c.2*yb3 ss f c.1)
def fAt(k:Int)(t:Sd):Int:=if k=0 then t.2.1 else if k=1 then t.2.2.1 else t.2.2.2
structure PrSt(H0:Hp)(D:af)(cs:List Pr)(H:Hp):Prop where
 same:Same H0 H
 new:H0 D=none
 at':H D=some (.lst (wI cs))
 all:PrAt H cs
end Sea

namespace Sea
open PySem L2
def zYs(n:Nat)(cs:List (Int×Int)):List (Int×Int):=cs.filter λc=>decide (c.1<(n:Int))
structure Apart(ss es:List Sd)(cs:List (Int×Int)):Prop where
 out:∀ v:P3,0<v.2.2->inW es v->zXm ss (fAt 2) (zYs ss.length cs) 0*v.2.2<zXm ss (fAt 0) (zYs ss.length cs) 0*v.1+zXm ss (fAt 1) (zYs ss.length cs) 0*v.2.1
 ins:∀ v:P3,inW ss v->zXm ss (fAt 0) (zYs ss.length cs) 0*v.1+zXm ss (fAt 1) (zYs ss.length cs) 0*v.2.1<=zXm ss (fAt 2) (zYs ss.length cs) 0*v.2.2
 few:(∃ z:P3,0<z.2.2/\inW ss z)->(zYs ss.length cs).length<=2
end Sea

namespace Sea
open PySem L2
structure PIb(t:TE)(σ:St)(i:Int)(n:Nat):Prop where
 rd:∀(H:Hp)(Q:VK),Q (.int i) H->t σ H Q
 le:i.natAbs<=n
abbrev ye5(xs:List (af×List Pr)):List V:=(xs.map (·.1)).map V.ref
structure Leads(G:Hp)(lo:af)(M:Nat)(xs:List (af×List Pr)):Prop where
 at':G lo=some (.lst (ye5 xs))
 all:∀ u∈xs,u.1≠lo/\G u.1=some (.lst (wI u.2))/\zZw G M u.2
end Sea

namespace Sea
open PySem L2
end Sea

namespace PyProof.Rows
open PySem
structure Took(x y out:Array lA)(ia ib:Nat):Prop where
 pm:out.toList.Perm (x.toList.take ia++y.toList.take ib)
 la:ia<=x.size
 lb:ib<=y.size
structure Left(x y out:Array lA)(na nb:Nat):Prop where
 pm:out.toList.Perm (x.toList.drop na++y.toList.drop nb)
 la:na<=x.size
 lb:nb<=y.size
end PyProof.Rows

namespace PyProof.Rows
open PySem
def rk(r:lA->Int)(xs:Array lA)(i:Nat):Int:=(xs[i]?.map r).getD 0
structure TookR(r:lA->Int)(x y out:Array lA)(ia ib:Nat):Prop extends Took x y out ia ib where
 srt:∀ i j,i<=j->j<out.size->rk r out i<=rk r out j
 oa:∀ i j,i<out.size->ia<=j->j<x.size->rk r out i<=rk r x j
 ob:∀ i j,i<out.size->ib<=j->j<y.size->rk r out i<=rk r y j
structure LeftR(r:lA->Int)(x y out:Array lA)(na nb:Nat):Prop extends Left x y out na nb where
 srt:∀ i j,i<=j->j<out.size->rk r out j<=rk r out i
 oa:∀ i j,i<out.size->j<na->rk r x j<=rk r out i
 ob:∀ i j,i<out.size->j<nb->rk r y j<=rk r out i
end PyProof.Rows

namespace L2
open PySem PySem.Spec PyProof.Rows
theorem sz0:0<=sizeLine:=by decide
theorem sz2:2<=sizeLine:=by decide
theorem sz3:3<=sizeLine:=by decide
theorem gt2:(0:Int)<2:=by decide
theorem gt3:(0:Int)<3:=by decide
theorem gt4:(0:Int)<4:=by decide
theorem gt5:(0:Int)<5:=by decide
section
variable{X:Cx}{x:aA}{p pos:eS}{a b e c:bu}{es:List bu}{t:TA}{te ta tb:TE}{id T:String}{r:List V->Hp->VK->Prop}{n:Nat}{ps:List aA}{sp:Sp}
theorem yc0(h:starEach (e::es) X.env=(false,eval e X.env)::starEach es X.env)(ha:PE X e te)(hr:PA X es t):PA X (e::es) (zLu te t):=zB ha hr h
theorem yh0(h:PE X (.Name x pos) te):PE X (.Name x pos) te:=h
theorem m_sub(h:PE X (.Subscript a b pos) te):PE X (.Subscript a b pos) te:=h
theorem ya6(h:PE X (.Call (.Name x p) (e::es) [] pos) te):PE X (.Call (.Name x p) (e::es) [] pos) te:=h
theorem m_bin{op:Operator}(h:PE X (.BinOp a op b pos) te):PE X (.BinOp a op b pos) te:=h
theorem m_cmp{op:kK}(h:PE X (.Compare a [op] [b] pos) te):PE X (.Compare a [op] [b] pos) te:=h
theorem ye6{op:kK}{tt:TT}(h:PT X (.Compare a [op] [b] pos) tt):PT X (.Compare a [op] [b] pos) tt:=h
theorem zX6{op:BoolOp}{tt:TT}(h:PW X (.BoolOp op es pos) tt):PT X (.BoolOp op es pos) tt:=h.pt
theorem m_val{tt:TE}(he:∀ whole,isTrue e X.env whole=(do let v <- whole; standAt e.pos; holding [v] (truthy v)))(h:PE X e tt):PT X e (tB tt):=zBl h he
theorem m_ix(hs:zRq b)(ha:PE X a ta)(hb:PE X b tb):PE X (.Subscript a b pos) (tOp (rIxA X.K) ta tb):=zNs zMe ha hb hs
theorem zZt(x:aA)(h:PE X (.Name x pos) te):PE X (.Name x pos) te:=h
theorem zNt(hc:uS X (.builtin id) r)(hv:bootBuiltins x=some (.builtin id))(hm:X.mg x=none)(hg:Gl X x)(hn:x ≠ "__name__")(hdb:(x ==("__debug__" : aA))=false)
  (he:starEach (e::es) X.env=(false,eval e X.env)::starEach es X.env) (hpl:(backTo pos (starEach es X.env)).any (·.1)=false) (ha:PA X (e::es) t):PE X (.Call (.Name x p) (e::es) [] pos) (tCB r t):=zR hc hg hm hv ha hn hdb he hpl
theorem zZz(hc:uS X (.type T) r)(hv:bootBuiltins x=some (.type T))(hm:X.mg x=none)(hg:Gl X x)(hn:x ≠ "__name__")(hdb:(x ==("__debug__" : aA))=false)
  (he:starEach (e::es) X.env=(false,eval e X.env)::starEach es X.env) (hpl:(backTo pos (starEach es X.env)).any (·.1)=false) (ha:PA X (e::es) t):PE X (.Call (.Name x p) (e::es) [] pos) (tCB r t):=xB hc hg hm hv ha hn hdb he hpl
theorem m_own{P:aK}{w:aT}{K:ae}{mg:aA->Option ag}{B:aV}(h:Has P w K mg B x n ps sp)(e1:X.prog=P/\X.w=w/\X.K=K/\X.mg=mg/\X.base=B)(hr:qO n X.A)(hg:Gl X x)(hdb:(x ==("__debug__" : aA))=false)
  (he:starEach (e::es) X.env=(false,eval e X.env)::starEach es X.env) (hpl:(backTo pos (starEach es X.env)).any (·.1)=false) (ha:PA X (e::es) t):PE X (.Call (.Name x p) (e::es) [] pos) (zQ1 sp [] E0 t):=by
 obtain⟨rfl,rfl,rfl,rfl,rfl⟩:=e1;exact uB h hr hg ha hdb he hpl
theorem yI(i:Nat){te:TE}{pos':eS}(hN:X.N.Nodup)(he:PE X e te)(hi:X.N[i]?=some x:=by rfl)(hx:Loc X.env.scope x:=by first | exact cP rfl | exact ku rfl)(hs:swapsWith e (some (.Name x pos')) pos.line X.env=pure false:=by rfl)
  (hf:X.fn x=true\/X.env.scope.names.lookup x=some .local:=by first | exact .inl rfl | exact .inr rfl | assumption):PS X (.Assign [.Name x pos'] e pos) (yc4 te (zKw i)):=qZ hN hi hx he hs hf
theorem zD4(i:Nat)(hN:X.N.Nodup)(hi:X.N[i]?=some x:=by rfl)(hx:Loc X.env.scope x:=by first | exact cP rfl | exact ku rfl)(hf:X.fn x=true\/X.env.scope.names.lookup x=some .local:=by first | exact .inl rfl | exact .inr rfl | assumption) :
  PG X (.Name x pos) (zKw i):=qK hN hi hx hf
theorem zNm{o:bu}{to:TE}{apos cpos:eS}(ho:PE X o to)(ha:PA X (e::es) t)
  (hbase:attributeBase o "append" X.env (eval o X.env)=eval o X.env:=by rfl)
  (hfew:((backTo cpos (starEach (e::es) X.env)).all (λx=>!x.1)&&(backToKw cpos (keywordEach [] X.env)).all (λx=>x.1.isSome)
   && decide ((e::es).length+([]:List gO).length+(if ([]:List gO).isEmpty then 0 else 1)<30))=true:=by rfl)
  (hline:(apos.endLine == cpos.line)=true:=by rfl) (hs:starEach (e::es) X.env=(false,eval e X.env)::starEach es X.env:=by rfl) (hplain:(backTo cpos (starEach es X.env)).any (·.1)=false:=by rfl) :
  PE X (.Call (.Attribute o "append" apos) (e::es) [] cpos) (tBM X.K "list" zTm to t):=zX9 PySem.F.plainAttrs_list PySem.F.slot_list_append PySem.F.type_list_append zGp ho ha hbase hfew hline hs hplain
end
end L2

namespace L2
open PySem PySem.Spec PyProof.Rows
def InB(B:aV)(φ:ae->Prop):Prop:=∃ K:ae,K.In B/\φ K
abbrev Cx.withK(X:Cx)(K:ae):Cx:={ X with K:=K }
theorem Mod.withK{K K':ae}{mg:aA->Option ag}{B:aV}(m:Mod K mg B)(h:K'.In B):Mod K' mg B:={ m with kin:=h }
section
variable{X:Cx}{pins:List (af×cz)}{σ:St}{H:Hp}{s:ai}{K:ae}
theorem Cx.Ok.withK(ok:X.Ok)(h:K.In X.base):(X.withK K).Ok :=
 ⟨ok.mod.withK h,ok.kind,ok.glob,ok.blt,ok.above,ok.inj,ok.has,ok.cab,ok.hd,ok.frames,ok.stk,ok.exf,ok.bs,ok.bsz,ok.noex,ok.exfs,ok.funs,ok.frf⟩
theorem Cx.Ok.unK(ok:(X.withK K).Ok)(h:Mod X.K X.mg X.base):X.Ok :=
 ⟨h,ok.kind,ok.glob,ok.blt,ok.above,ok.inj,ok.has,ok.cab,ok.hd,ok.frames,ok.stk,ok.exf,ok.bs,ok.bsz,ok.noex,ok.exfs,ok.funs,ok.frf⟩
theorem Inv.withK(I:Inv X pins σ H s)(h:K.In X.base):Inv (X.withK K) pins σ H s:=⟨I.ok.withK h,I.os,I.bare,I.base,I.loc,I.cell,I.free,I.freeC,I.pin,I.hok,I.len⟩
theorem Inv.unK(I:Inv (X.withK K) pins σ H s)(h:Mod X.K X.mg X.base):Inv X pins σ H s:=⟨I.ok.unK h,I.os,I.bare,I.base,I.loc,I.cell,I.free,I.freeC,I.pin,I.hok,I.len⟩
end
section
variable{X:Cx}{o e value:bu}{es:List bu}{f m:aA}{pos pos' apos:eS}{ta tv:TE}{t:TA}{C g:af}{n:Nat}{ps:List aA}{sp:Sp}
inductive TFld(C:af)(f:aA)(x:V)(H:Hp)(Q:VK):Prop where
 | mk (a dx:af) (fs:List (aA×V)) (v:V) (ex:x=.ref a) (ea:H a=some (.ins C dx fs)) (l:fs.lookup f=some v) (q:Q v H)
def tFld2(C:af)(f:aA)(ta:TE):TE:=λσ H Q=>ta σ H λx H1=>TFld C f x H1 Q
theorem qJ(hb:InB X.base λK=>Cls K C/\zBj K C f)(he:PE X e ta)(ha:attributeBase e f X.env (eval e X.env)=eval e X.env:=by rfl):PE X (.Attribute e f pos) (tFld2 C f ta):=by
 obtain⟨K,KB,c,n⟩:=hb;intro pins s σ H Q I h;refine zYo ha (thn (he pins s σ H _ I h) λu s1 ⟨x,H1,I1,rx,a,dx,fs,v,ex,ea,l,q⟩=>?_);subst ex;obtain rfl:u=aI a:=rx;exact zP3 (X:=X.withK K) (I1.withK KB) ea c n l λu' s2 I2 ru=>⟨v,H1,I2.unK I.ok.mod,ru,q⟩
inductive SFld(C:af)(f:aA)(y x:V)(H:Hp)(Q:Hp->Prop):Prop where
 | mk (a dx:af) (fs:List (aA×V)) (ex:x=.ref a) (ea:H a=some (.ins C dx fs)) (l:fs.length<1000) (q:Q (upd H a (.ins C dx (zE9 f y fs))))
def sFld2(C:af)(f:aA)(ta tv:TE):TS:=λD σ H=>tv σ H λy H1=>ta σ H1 λx H2=>SFld C f y x H2 (D.nx σ)
theorem zGe(hb:InB X.base λK=>Cls K C/\zBj K C f)(ha:PE X o ta)(hv:PE X value tv)(hs:swapsWith value (some (.Attribute o f pos')) pos.line X.env=pure false:=by rfl):PS X (.Assign [.Attribute o f pos'] value pos) (sFld2 C f ta tv):=by
 obtain⟨K,KB,c,n⟩:=hb;intro pins s σ H D I h;refine plainObj_wpAny_Assign_Attribute (thn (hv pins s σ H _ I h) λu s1 ⟨y,H1,I1,ry,q⟩=>thn (ha pins s1 σ H1 _ I1 q) λov s2 ⟨x,H2,I2,rx,a,dx,fs,ex,ea,l,q2⟩=>?_) hs;subst ex;obtain rfl:ov=aI a:=rx;exact zQa (X:=X.withK K) (I2.withK KB) ea c n l ry λs3 I3=>⟨σ,_,I3.unK I.ok.mod,q2⟩
theorem zLq{x:aA}{p:eS}(h:Has X.prog X.w X.K X.mg X.base x n ps sp)(hr:qO n X.A)(hg:Gl X x)(hdb:(x ==("__debug__" : aA))=false:=by decide):PE X (.Call (.Name x p) [] [] pos) (zQ1 sp [] E0 zW6):=by
 obtain⟨f,fd,F,b,k,m⟩:=h;exact zUw F hr hg m k b .nil zSu hdb
def zQ4(P:aK)(w:aT)(K:ae)(mg:aA->Option ag)(base:aV)(g:af)(n:Nat)(ps:List aA)(sp:Sp):Prop :=
 ∃ fd:bP,yQ P w K mg base CX0 n g fd ps sp/\∀ us:List ag,us.length=ps.length->bindArgs fd ⟨us,[]⟩=pure (ps.zip us)
inductive TMeth(C:af)(m:aA)(x:V)(H:Hp)(q:Prop):Prop where
 | mk (a dx:af) (fs:List (aA×V)) (ex:x=.ref a) (ea:H a=some (.ins C dx fs)) (l:fs.lookup m=none) (k:q)
def zW8(C:af)(m:aA)(sp:Sp)(ta:TE)(t:TA):TE:=λσ H Q=>ta σ H λx H1=>TMeth C m x H1 (t σ H1 λvs H2=>sp (x::vs) H2 Q E0)
theorem pe_methH{pl:lU Bool}(hb:InB X.base λK=>Cls K C/\zHn K C m g)(h:zQ4 X.prog X.w X.K X.mg X.base g n ps sp)(hr:qO n X.A)(he:PE X o ta)(ha:PA X (e::es) t)
  (hst:starEach (e::es) X.env=(false,eval e X.env)::starEach es X.env:=by rfl) (hpl:(backTo pos (starEach es X.env)).any (·.1)=false:=by rfl)
  (ht:eval (.Call (.Attribute o m apos) (e::es) [] pos) X.env=(do
   let ov <- eval o X.env
   standAt apos.atName
   let (f,first) <- holding [ov] (getMethod ov m pl)
   callWith pos f first (backTo pos (starEach (e::es) X.env)) (backToKw pos (keywordEach [] X.env))):=by rfl) :
  PE X (.Call (.Attribute o m apos) (e::es) [] pos) (zW8 C m sp ta t):=by
 obtain⟨K,KB,c,hm⟩:=hb;obtain⟨fd,F,b⟩:=h;intro pins s σ H Q I h;refine fB (pl:=pl) (thn (he pins s σ H _ I h) λu s1 ⟨x,H1,I1,rx,a,dx,fs,ex,ea,l,q⟩=>?_) ht;subst ex;obtain rfl:u=aI a:=rx;refine zDu (X:=X.withK K) (I1.withK KB) ea c hm l ?_;refine dy (first:=[.ref a]) (h₀:=X.base) (K:=K) KB hm.kp (thn (ha pos pins s1 σ H1 _ I1 q) λus s2 ⟨vs,H2,I2,r,q2⟩=>⟨(I2.withK KB).kIn,?_⟩) hst hpl;exact zO4 (us:=.ref a::us) (vs:=.ref a::vs) (dvs:=[]) (ds:=[]) F hr (.all b) .nil zSu I2 (.cons rfl r) (by rw[dk]; exact q2)
theorem uM{pl:lU Bool}(hb:InB X.base λK=>Cls K C/\zHn K C m g)(h:zQ4 X.prog X.w X.K X.mg X.base g n ps sp)(hr:qO n X.A)(he:PE X o ta)
  (ht:eval (.Call (.Attribute o m apos) [] [] pos) X.env=(do
   let ov <- eval o X.env
   standAt apos.atName
   let (f,first) <- holding [ov] (getMethod ov m pl)
   callWith pos f first (backTo pos (starEach [] X.env)) (backToKw pos (keywordEach [] X.env))):=by rfl) :
  PE X (.Call (.Attribute o m apos) [] [] pos) (zW8 C m sp ta zW6):=by
 obtain⟨K,KB,c,hm⟩:=hb;obtain⟨fd,F,b⟩:=h;intro pins s σ H Q I h;refine fB (pl:=pl) (thn (he pins s σ H _ I h) λu s1 ⟨x,H1,I1,rx,a,dx,fs,ex,ea,l,q⟩=>?_) ht;subst ex;obtain rfl:u=aI a:=rx;refine zDu (X:=X.withK K) (I1.withK KB) ea c hm l ?_;exact fX (first:=[.ref a]) (I1.withK KB).kIn hm.kp (zO4 (us:=[.ref a]) (vs:=[.ref a]) (dvs:=[]) (ds:=[]) F hr (.all b) .nil zSu I1 (.cons rfl .nil) q)
def yd7(C:af)(sp:Sp):TE:=λ_ H Q=>∀ x dx,H x=none->H dx=none->dx≠x->sp [.ref x] (upd (upd H dx (.own x)) x (.ins C dx [])) (λv H2=>v=.non/\Q (.ref x) H2) E0
theorem yQ.withK{P:aK}{w:aT}{K K':ae}{mg:aA->Option ag}{B:aV}{k:Nat}{f:af}{fd:bP}(F:yQ P w K mg B CX0 k f fd ps sp)(h:K.In B):yQ P w K' mg B CX0 k f fd ps sp :=
 ⟨F.len,λA outer s H args us vs Q E hr e0 hb r hsp=>F.run A outer s H args us vs Q E hr { e0 with mod:=e0.mod.withK h } hb r hsp⟩
theorem zMm{x:aA}{p:eS}(hb:InB X.base λK=>Mk K C g)(h:zQ4 X.prog X.w X.K X.mg X.base g n ps sp)(hr:qO (n+1) X.A)(hm:X.mg x=some (.ref C))(hg:Gl X x:=by rfl)(hdb:(x ==("__debug__" : aA))=false:=by decide) :
  PE X (.Call (.Name x p) [] [] pos) (yd7 C sp):=by
 obtain⟨K,KB,M⟩:=hb;obtain⟨fd,F,b⟩:=h;intro pins s σ H Q I h;refine cU (sO I hg hm ?_ hdb);have J:=I.withK KB;refine fX J.kIn M.kp (cT (zWg (X:=X.withK K) (us:=[]) (vs:=[]) (dvs:=[]) (ds:=[]) M (F.withK I.ok.mod.kin) hr (.all b) .nil zSu J .nil h) (λu s' ⟨v,H',I',r,q⟩=>⟨v,H',I'.unK I.ok.mod,r,q⟩) λ_ _ z=>z)
end
end L2

namespace L2
open PySem PySem.Spec PyProof.Rows
structure M1(X:Cx)(o:bu)(m:aA)(apos:eS)(e:bu)(cpos:eS):Prop where
 base:attributeBase o m X.env (eval o X.env)=eval o X.env
 few:((backTo cpos (starEach [e] X.env)).all (λx=>!x.1)&&(backToKw cpos (keywordEach [] X.env)).all (λx=>x.1.isSome)
  && decide (([e]:List bu).length+([]:List gO).length+(if ([]:List gO).isEmpty then 0 else 1)<30))=true
 line:(apos.endLine == cpos.line)=true
 trees:backTo cpos (starEach [e] X.env)=[(false,eval e X.env)]
structure M2(X:Cx)(o:bu)(m:aA)(apos:eS)(e f:bu)(cpos:eS):Prop where
 base:attributeBase o m X.env (eval o X.env)=eval o X.env
 few:((backTo cpos (starEach [e,f] X.env)).all (λx=>!x.1)&&(backToKw cpos (keywordEach [] X.env)).all (λx=>x.1.isSome)
  && decide (([e,f]:List bu).length+([]:List gO).length+(if ([]:List gO).isEmpty then 0 else 1)<30))=true
 line:(apos.endLine == cpos.line)=true
 trees:backTo cpos (starEach [e,f] X.env)=[(false,eval e X.env),(false,eval f X.env)]

def IsD(H:Hp)(a:af):Prop:=(∃ kvs,Rd H a (.dK kvs))\/∃ kvs,Rd H a (.dT kvs)
theorem ye0{X:Cx}{pins:List (af×cz)}{σ:St}{H:Hp}{s:ai}{a:af}(I:Inv X pins σ H s)(d:IsD H a) :
  s.TypeIs (.ref a) "dict" /\ (∀ b,aI a=.ref b->∃ ob,s.heap.get? b=some ob/\ob.dict=none)/\(a == sysModules)=false:=by
 rcases d with ⟨kvs,e⟩ | ⟨kvs,e⟩
 ·obtain⟨_,hd,vs,_,dd⟩:=zJv I.hok e;refine⟨dd.typeIs,λb q=>?_,hd⟩;cases q;obtain⟨ob,_,_,h1,h2,_⟩:=dd;exact⟨ob,h1,h2.2.1⟩
 ·obtain⟨_,hd,xs,_,dd⟩:=zQs I.hok e;refine⟨dd.typeIs,λb q=>?_,hd⟩;cases q;obtain⟨ob,_,_,h1,h2,_⟩:=dd;exact⟨ob,h1,h2.2.1⟩


def ye9(td ty:TE):TE:=λσ H Q=>td σ H λx H1=>∃ a,x=.ref a/\IsD H1 a/\ty σ H1 λy H2=>∃ kvs k v,H2 a=some (.dK kvs)/\y=kV k/\wL kvs k=some v/\Q v (upd H2 a (.dK (zEp kvs k)))
section
variable{X:Cx}{o e f:bu}{apos cpos:eS}{td ty tx:TE}
theorem zE6(ho:PE X o td)(he:PE X e ty)(m:M1 X o "pop" apos e cpos):PE X (.Call (.Attribute o "pop" apos) [e] [] cpos) (ye9 td ty):=by
 intro pins s σ H Q I h;refine fu m.base m.few m.line gS iL PySem.F.type_dict_pop (thn (ho pins s σ H _ I h) λu s1 ⟨x,H1,I1,rx,a,ex,d,q1⟩=>?_);subst ex;obtain rfl:u=aI a:=rx;obtain⟨t1,t2,_⟩:=ye0 I1 d;exists t1,t2;rw[m.trees];refine ij rfl (fK (jr (thn (he pins s1 σ H1 _ I1 q1) λiv s2 ⟨y,H2,I2,ry,kvs,k,v,ea,ey,l,q2⟩=>jK ?_)));subst ey;exact d_pop I2 ea ry l (.inl rfl) λw' s3 I3 rw'=>⟨v,_,I3,rw',q2⟩
end

section
variable{X:Cx}{pins:List (af×cz)}{σ:St}{H:Hp}{s:ai}{a:af}{kvs:List (Key×V)}{A:bD}{E:ag->ai->Prop}
theorem zWf{Q:ag->ai->Prop}(I:Inv X pins σ H s)(e:Rd H a (.dK kvs))(h:∀ p s',H p=none->Inv X pins σ (upd H p (.dK kvs)) s'->Q (.ref p) s'):wpAny (model X.prog X.w) A (call (.type "dict") [.ref a]) Q E s:=by
 obtain⟨z,hd,vs,rel,dd⟩:=zJv I.hok e;refine kt_call_dict hd dd (by rw[<- rel.length]; exact z) λh' dd' hs=>?_;refine h _ _ (I.hok.fresh (al _)) (I.laid (a:=s.heap.objs.size) (o:=.dK kvs) (t':=s.toks) (λb q hq=>?_) (al _) (zLv z (beq_eq_false_iff_ne.mpr (cm (aP I.big))) rel dd'));exact(hs.2 b (aP (aw hq))).trans (ah _ hq)
end


end L2


namespace L2
open PySem PySem.Spec PyProof.Rows
section
variable{X:Cx}{pins:List (af×cz)}{σ:St}{H:Hp}{s:ai}{d:af}{kvs:List (Key×V)}
theorem Inv.freeze(I:Inv X pins σ H s)(hd:H d=some (.dK kvs)){o:cz}(ho:s.heap.get? d=some o):Inv X pins σ (upd H d (.frz o (.dK kvs))) s:=by
 have ne:∀{b:af},H b=none->b≠d:=λ{b} n e=>by rw[e,hd] at n; cases n
 have nk:∀{b:af}{u:HO},H b=some u->u≠.dK kvs->upd H d (.frz o (.dK kvs)) b=some u:=λ{b u} e z=>by
  rw[zH (λq=>z (by rw[q,hd] at e; exact(a7 e).symm))];exact e
 have nn:∀{b:af},H b=none->upd H d (.frz o (.dK kvs)) b=none:=λ{b} n=>by rw[zH (ne n)]; exact n
 have st:∀(b:af)(u:HO),xD X.prog X.w H s.heap b u->xD X.prog X.w (upd H d (.frz o (.dK kvs))) s.heap b u:=λb u k =>
  k.stay (λc v _ q=>q) (λc q=>nk q (λz=>nomatch z)) λc xs q=>nk q (λz=>nomatch z)
 refine⟨I.ok,I.os,I.bare,⟨I.base.keep,I.base.slot,λb u e n hx=>nn (I.base.free b u e n hx),I.base.there,λb xs e=>nk (I.base.tups b xs e) (λz=>nomatch z),λb u v e=>nk (I.base.frzs b u v e) (λz=>nomatch z),
  λb ps e=>let ⟨more,q⟩:=I.base.tbls b ps e;⟨more,nk q (λz=>nomatch z)⟩⟩,I.loc,I.cell,nn I.free,λx c e=>nn (I.freeC x c e),λp hp=>?_,λb u e=>?_,I.len⟩
 ·obtain⟨h1,h2,h3⟩:=I.pin p hp;exact⟨h1,nn h2,h3⟩
 ·by_cases eb:b=d
  ·subst eb;rw[zA] at e;cases e;exact⟨ho,st b _ (I.hok b _ hd)⟩
  ·rw[zH eb] at e;exact st b u (I.hok b u e)
theorem Inv.frzAt(I:Inv X pins σ H s){o:cz}{es:Array df}{ep:Nat}(hd:H d=some (.frz o (.dK kvs)))(ho:o.data=.dict es ep) :
  ∃ vs,KV kvs vs/\s.heap.DictAt (yK X.prog X.w) d vs ep/\kvs.length<=sizeLine/\(d == sysModules)=false:=by
 obtain⟨e,z,y,vs,r,o',es',ep',e',c,dt,k,p,n⟩:=(show xD X.prog X.w H s.heap d (.frz o (.dK kvs)) from I.hok d _ hd);rw[e] at e';cases e';rw[ho] at dt;injection dt with d1 d2
 subst d1 d2;exact⟨vs,r,⟨o,es,e,c,ho,k,p,n⟩,z,y⟩
theorem KV.at{vs:List (Key×ag)} : ∀{kvs:List (Key×V)}{vs:List (Key×ag)}{i:Nat}{k:Key}{v:V},KV kvs vs->kvs[i]?=some (k,v)->∃ u,vs[i]?=some (k,u)/\xE v u
 | _,_,_,_,_,.nil,e=>by simp at e
 | _,_,0,k,v,.cons (a:=a) (b:=b) ⟨r1,r2⟩ _,e=>by
  simp at e;subst e;exact⟨b.2,by rw[show(k,b.2)=b from by rw[show k=b.1 from r1]]; rfl,r2⟩
 | _,_,i+1,k,v,.cons _ t,e=>KV.at (vs:=[]) (i:=i) t (by simpa using e)
def Itc(φ:Hp->Prop)(xs:List V):It:=⟨λi H=>φ H/\i<xs.length,λi H x H'=>H'=H/\xs[i]?=some x,λi H=>φ H/\xs.length<=i⟩
abbrev zNw(d:af)(o:cz)(kvs:List (Key×V))(H:Hp):Prop:=H d=some (.frz o (.dK kvs))
theorem zRd{P:aK}{w:aT}{K:ae}{tg:bu}{o:cz}{es:Array df}{ep:Nat}(ho:o.data=.dict es ep)(it:af) :
  zWv P w K tg (Itc (zNw d o kvs) (kvs.map (·.2))) [it] it (λi h=>h.IsValIter it d i kvs.length ep) where
 mem:=by simp
 obj:=λi h st b hb=>by
  have e:b=it:=by simpa using hb
  subst e;obtain⟨o,e,c,d⟩:=st;exact⟨o,e,λv z=>by rw[d] at z; cases z⟩
 keep:=λi h h' st k=>st.at λo e=>k it (by simp) o e
 item:=by
  intro X hP hw hK hc i pins s σ H E I hf st ⟨fz,hi⟩;subst hP hw hK;obtain⟨vs,r,da,_,_⟩:=I.frzAt fz ho;rw[ac] at hi;obtain⟨u,hu,ru⟩:=KV.at (vs:=vs) (k:=kvs[i].1) (v:=kvs[i].2) r (aj hi);obtain⟨f0,f1,f2,f3,f4,f5⟩:=hf it (by simp);have st':s.heap.IsValIter it d i vs.length ep:=by rw[<- r.length]; exact st
  refine wpAny_pyNext_values_item st' da hu λh' st2 sb=>?_;have I1:Inv X pins σ H { s with heap:=h' }:=I.turned (t':=s.toks) (λb o hb e=>(sb.2 b hb).trans e) f0 f1 f3 f4 f5;obtain⟨o,e,c,dd⟩:=id st2;rw[<- r.length] at st2;exact⟨u,U,zPv (s:={ s with heap:=h' }) e c dd (by decide) ⟨kvs[i].2,H,I1,ru,⟨U,by rw[av,aj hi]; rfl⟩,st2,λb hb=>(hf b hb).1⟩⟩
 done:=by
  intro X hP hw hK hc i pins s σ H E I hf st ⟨fz,hi⟩;subst hP hw hK;obtain⟨vs,r,da,_,_⟩:=I.frzAt fz ho;rw[ac] at hi;obtain⟨f0,f1,f2,f3,f4,f5⟩:=hf it (by simp);have st':s.heap.IsValIter it d i vs.length ep:=by rw[<- r.length]; exact st
  exact wpAny_pyNext_values_end (I.ok.hd hc) st' da (ce (by rw[<- r.length]; exact hi)) λh' eb=>⟨rfl,I.turned (t':=s.toks) (λb o hb e=>eb b o hb e) f0 f1 f3 f4 f5⟩
 self:=λ_ _ _ _ _ st h=>wpAny_pyIter_valiter st h
def zV2(d:af)(o:cz)(kvs:List (Key×V))(H H2:Hp):Prop:=H2 d=some (.frz o (.dK kvs))/\(∀ b,b≠d->H2 b=H b)/\∀ o',H d=some (.frz o' (.dK kvs))->o'=o
theorem Inv.frozen(I:Inv X pins σ H s)(hd:Rd H d (.dK kvs)):∃(o:cz)(es:Array df)(ep:Nat)(H2:Hp),o.data=.dict es ep/\zV2 d o kvs H H2/\Inv X pins σ H2 s:=by
 obtain⟨z,y,vs,r,o,es,ep,e,c,dt,_⟩:=hd.ok I.hok;rcases hd with hd | ⟨o',hd⟩
 ·exact⟨o,es,ep,_,dt,⟨zA,λb hb=>zH hb,λo' e'=>by rw[hd] at e'; cases e'⟩,I.freeze hd e⟩
 ·obtain⟨e',_⟩:=(show xD X.prog X.w H s.heap d (.frz o' (.dK kvs)) from I.hok d _ hd);rw[e] at e';cases e';exact⟨o,es,ep,H,dt,⟨hd,λ_ _=>rfl,λo' e'=>by rw[hd] at e'; cases e'; rfl⟩,I⟩
def iVals(te:TE):TI:=λσ H R=>te σ H λx H1=>∃(d:af)(kvs:List (Key×V)),x=.ref d/\Rd H1 d (.dK kvs)/\∀(o:cz)(H2:Hp),zV2 d o kvs H1 H2->R (Itc (zNw d o kvs) (kvs.map (·.2))) H2
variable{tg l:bu}{te:TE}{apos pos:eS}
theorem zJi(hl:PE X l te)(hbase:attributeBase l "values" X.env (eval l X.env)=eval l X.env:=by rfl)(hline:(apos.endLine == pos.line)=true:=by rfl):PI X tg (.Call (.Attribute l "values" apos) [] [] pos) (iVals te):=by
 intro pins s σ H R I h;refine fu (T := "dict") (id := "dict.values") hbase rfl hline gS jx F.type_dict_values (thn (hl pins s σ H _ I h) λv s1 ⟨x,H1,I1,r1,d,kvs,e,hd,q⟩=>?_);subst e;cases r1;obtain⟨o,es,ep,H2,ho,ft,I2⟩:=I1.frozen hd;obtain⟨vs,r,da,_,ns⟩:=I2.frzAt ft.1 ho;exists da.dictOf.typeIs,da.dictOf.mapOf.noDict;show wpAny _ _ (callWith pos (.builtin "dict.values") [.ref d] [] []) _ _ s1;refine method_meetsIn jx F.entry_dict_values rfl (fZ ⟨rfl,da.dictOf.typeIs,F.args_dict_values_1 _,_,meets_dict_values (yK X.prog X.w) d ns,⟨vs,da.dictOf⟩,?_⟩);refine wpAny_pyIter_values (knd:=yK X.prog X.w) (d:=d) (kvs:=vs) (ep:=ep) ⟨_,ap _ rfl,rfl,rfl⟩ (da.push _) ?_;have I3:=I2.kept (t':=s1.toks) (h':=s1.heap.push { cls:=.type "dict_values",data:=.fields #[.ref d] }) λb o e=>ah _ e;have I4:=I3.kept (t':=s1.toks) (h':=(s1.heap.push { cls:=.type "dict_values",data:=.fields #[.ref d] }).push { cls:=.type "dict_valueiterator",data:=.fields #[.ref d,.int 0 0,.int vs.length 0,.int ep 0] }) λb o e=>ah _ e;refine⟨_,[_],_,_,H2,U,I4,zRd ho _,⟨_,ap _ rfl,U,by rw[r.length]; rfl⟩,λb hb=>?_,q o H2 ft⟩;have e:=au.mp hb;subst e;exact I3.fpOk (al _) (I3.hok.fresh (al _))
end
end L2

namespace L2
open PySem PySem.Spec PyProof.Rows
section
variable{φ:Hp->Prop}{xs:List V}{g:TG}{tb:TS}{E:zPw}{σ σ0:St}{H H1:Hp}{D:af}{tt:TT}{te:TE}{Q:VK}
theorem zU0(Pv:Nat->St->Hp->Prop)(h0:Pv 0 σ H)(hl:∀ i σ H,Pv i σ H->φ H)
  (hs:∀ i x σ H,xs[i]?=some x->Pv i σ H->g x σ H λσ2 H2=>tb { E with nx:=Pv (i+1),ct:=Pv (i+1),bk:=E.nx } σ2 H2) (hd:∀ σ H,Pv xs.length σ H->E.nx σ H) :
  ∃ W:Nat->Nat->St->Hp->Prop,(∃ m,W 0 m σ H)/\∀ i m σ H,W i m σ H ->
   ((Itc φ xs).stop i H/\E.nx σ H)\/((Itc φ xs).go i H/\∃ N:St->Hp->Prop,(∀ σ' H',N σ' H'->∃ m',m'<m/\W (i+1) m' σ' H')/\∀ x H',(Itc φ xs).yld i H x H'->g x σ H' λσ2 H2=>tb { E with nx:=N,ct:=N,bk:=E.nx } σ2 H2):=by
 exists λi m σ H=>m=xs.length-i/\i<=xs.length/\Pv i σ H,⟨xs.length,by simp,br _,h0⟩;rintro i m σ H ⟨rfl,hi,p⟩;by_cases hlt:i<xs.length
 ·refine .inr ⟨⟨hl i σ H p,hlt⟩,Pv (i+1),λσ' H' p'=>⟨xs.length-(i+1),by lia,rfl,hlt,p'⟩,λx H' ⟨e,y⟩=>?_⟩;subst e;exact hs i x σ _ y p
 ·have e:i=xs.length:=by lia
  subst e;exact .inl ⟨⟨hl _ σ H p,al _⟩,hd σ H p⟩
theorem ya0(Pv:Nat->St->List V->Hp->Prop)(h0:Pv 0 σ0 [] (upd H1 D (.lst [])))(hl:∀ i σ ys H,Pv i σ ys H->φ H/\H D=some (.lst ys))
  (hs:∀ i x σ ys H,xs[i]?=some x->Pv i σ ys H->g x σ H λσ2 H2=>tt σ2 H2 λb H3 =>
   if b=true then te σ2 H3 λy H4=>H4 D=some (.lst ys)/\ys.length<sizeLine/\Pv (i+1) σ2 (ys++[y]) (upd H4 D (.lst (ys++[y]))) else Pv (i+1) σ2 ys H3)
  (hd:∀ σ ys H,Pv xs.length σ ys H->Q (.ref D) H):zDn (Itc φ xs) D g tt te σ0 H1 Q:=by
 exists λi m σ ys H=>m=xs.length-i/\i<=xs.length/\Pv i σ ys H,⟨xs.length,by simp,br _,h0⟩;rintro i m σ ys H ⟨rfl,hi,p⟩;obtain⟨q,qd⟩:=hl i σ ys H p;exists qd;by_cases hlt:i<xs.length
 ·refine .inr ⟨⟨q,hlt⟩,Pv (i+1),λσ' zs H' z=>⟨xs.length-(i+1),by lia,rfl,hlt,z⟩,λx H' ⟨e,y⟩=>?_⟩;subst e;exact hs i x σ ys _ y p
 ·have e:i=xs.length:=by lia
  subst e;exact .inl ⟨⟨q,al _⟩,hd σ ys H p⟩
theorem zN4(Pv:Nat->St->List V->Hp->Prop)(h0:Pv 0 σ0 [] (upd H1 D (.lst [])))(hl:∀ i σ ys H,Pv i σ ys H->φ H/\H D=some (.lst ys))
  (hs:∀ i x σ ys H,xs[i]?=some x->Pv i σ ys H->g x σ H λσ2 H2=>te σ2 H2 λy H4=>H4 D=some (.lst ys)/\ys.length<sizeLine/\Pv (i+1) σ2 (ys++[y]) (upd H4 D (.lst (ys++[y]))))
  (hd:∀ σ ys H,Pv xs.length σ ys H->Q (.ref D) H):zDn (Itc φ xs) D g zYm te σ0 H1 Q:=ya0 Pv h0 hl (λi x σ ys H e p=>hs i x σ ys H e p) hd
end
section
variable{X:Cx}{x y:aA}{p pos:eS}{i e:bu}{es:List bu}{ty:TE}{t:TA}
theorem zO7{n:Int}(hm:∃ k,X.mg x=some (.int n k))(hg:Gl X x:=by rfl)(hd:(x ==("__debug__" : aA))=false:=by decide):PE X (.Name x pos) (tC (.int n)):=λ_ _ _ H _ I h=>by
 obtain⟨k,hm⟩:=hm;exact sO I hg hm ⟨.int n,H,I,⟨k,rfl⟩,h⟩ hd
def zZu(P:aK)(w:aT)(B:aV)(a:af)(kvs:List (Key×V)):Prop:=∃ vs,KV kvs vs/\B.DictOf (yK P w) a vs
def tGet(kvs:List (Key×V))(ty:TE):TE:=λσ H Q=>ty σ H λy H1=>∃(k:Key)(v:V),y=kV k/\wL kvs k=some v/\Q v H1
theorem zXd{pins:List (af×cz)}{σ:St}{H:Hp}{s:ai}{a:af}{kvs:List (Key×V)}{k:Key}{v:V}{u:ag}{E:ag->ai->Prop}{Q:ag->ai->Prop}(hb:zZu X.prog X.w X.base a kvs)(I:Inv X pins σ H s)(l:wL kvs k=some v)(r:xE (kV k) u)
  (h:∀ w' s',Inv X pins σ H s'->xE v w'->Q w' s'):s.TypeIs (.ref a) "dict" /\ wpAny (model X.prog X.w) X.A (getItem (.ref a) u) Q E s:=by
 obtain⟨vs,rel,dd⟩:=hb;have dd:s.heap.DictOf (yK X.prog X.w) a vs:=dd.at λo e=>I.bk a o e;obtain⟨w',hw,rw'⟩:=zJ3.some_of (v:=v) (o:=valueAt vs k) (by rw[<- l]; exact rel.val k);exact⟨dd.typeIs,kE (zJe r) dd.mapOf hw (h w' _ (I.tok _) rw')⟩
theorem zWc{a:af}{kvs:List (Key×V)}(hb:zZu X.prog X.w X.base a kvs)(hm:X.mg x=some (.ref a))(hi:PE X i ty)(hs:yh6 i:=by exact λ_ _=>rfl)(hg:Gl X x:=by rfl)(hd:(x ==("__debug__" : aA))=false:=by decide) :
  PE X (.Subscript (.Name x p) i pos) (tGet kvs ty):=by
 intro pins s σ H Q I h;refine zM7 eP.lookup hs (sO I hg hm (thn (hi pins s σ H _ I h) λiv s2 ⟨y,H2,I2,ry,k,v,ey,l,q2⟩=>?_) hd);subst ey;exact zXd hb I2 l ry λw' s3 I3 rw'=>⟨v,H2,I3,rw',q2⟩
structure TabAt(P:aK)(w:aT)(K:ae)(mg:aA->Option ag)(B:aV)(m:Nat)(kvs:List (Key×V))(k:Key)(sp:Sp):Prop where
 mk ::
 has:∃(x:aA)(f:af)(n:Nat)(ps:List aA),wL kvs k=some (.ref f)/\mg x=some (.ref f)/\Has P w K mg B x n ps sp/\n<=m
end
theorem zB2:bootBuiltins "dict" = some (.type "dict"):=by decide +kernel
section
variable{X:Cx}
theorem rR:uS X (.type "dict") (λxs H Q=>∃(a:af)(kvs:List (Key×V)),xs=[.ref a]/\Rd H a (.dK kvs)/\∀ p,H p=none->Q (.ref p) (upd H p (.dK kvs))):=by
 intro pins s σ H xs us Q I r h;obtain⟨a,kvs,rfl,ha,q⟩:=h;obtain⟨u,rfl,ru⟩:=zI8 r;cases ru;exact zWf I ha λp s' hp I'=>⟨.ref p,_,I',rfl,q p hp⟩
theorem vT:uS X (.builtin "len") (λxs H Q=>∃(a:af)(kvs:List (Key×V)),xs=[.ref a]/\Rd H a (.dK kvs)/\Q (.int kvs.length) H):=by
 intro pins s σ H xs us Q I r h;obtain⟨a,kvs,rfl,ha,q⟩:=h;obtain⟨u,rfl,ru⟩:=zI8 r;cases ru;exact d_len I ha λt s' I'=>⟨.int kvs.length,H,I',⟨t,rfl⟩,q⟩
theorem zL4{P:aK}{w:aT} : ∀{es:List df}{kvs:List (Key×V)}{vs:List (Key×ag)},KV kvs vs->Pairs (yK P w) es vs->yV (kvs.map λkv=>kV kv.1) (es.map (·.key))
 | _,_,_,.nil,.nil=>.nil
 | _,_,_,.cons ⟨r1,_⟩ t,.cons hk _ p=>by
  refine .cons ?_ (zL4 t p);dsimp only;rw[r1];rcases yP hk with ⟨j,t,e1,e2⟩ | ⟨x,t,e1,e2⟩
  ·rw[e1,e2]; exact⟨t,U⟩
  ·rw[e1,e2]; exact⟨t,U⟩
theorem zDz(hc:X.calm=true):uS X (.type "list") (λxs H Q=>∃(d:af)(kvs:List (Key×V)),xs=[.ref d]/\Rd H d (.dK kvs)/\∀ p,H p=none->Q (.ref p) (upd H p (.lst (kvs.map λkv=>kV kv.1)))):=by
 intro pins s σ H xs us Q I r h;obtain⟨d,kvs,rfl,hd,q⟩:=h;obtain⟨u,rfl,ru⟩:=yV.one r;cases ru;obtain⟨hz,hsm,vs,rel,ob,es,age,g,ex,dat,hk,hp,hn⟩:=zJv I.hok hd;have vk:=zL4 rel hp;have hsz:es.size=kvs.length:=by
  have z:=vk.length;rw[ac,ac,bK] at z;exact z.symm
 refine PySem.W.kdl_call (zYl (rows:=es) (age:=age) hsm) (show X.A.handled=none from I.ok.hd hc) ⟨ob,g,ex,dat⟩ (by rw[hsz]; exact hz) λh' tk acc c keep at' its=>?_;have eqs:acc.toList=es.toList.map (·.key):=by
  refine gQ λj=>?_;by_cases hj:j<es.size
  ·have ja:j<acc.size:=by rw[its.1]; exact hj
   obtain⟨hj',e⟩:=its.2 j acc[j] (by simp[ja]);rw[fC,cQ ja,e,av,fC,cQ hj];rfl
  ·rw[ce (by rw[bK,its.1]; lia),ce (by simp; lia)]
 refine⟨.ref s.heap.objs.size,_,I.laid (t':=tk) (a:=s.heap.objs.size) (o:=.lst (kvs.map λkv=>kV kv.1)) keep (al _) ?_,U,q _ (I.hok.fresh (al _))⟩;exists by rw[ac]; exact hz,_,c,vk;rw[<- eqs,iX];exact at'
end
end L2

namespace L2
open PySem PySem.Spec PyProof.Rows
def zEq(x:aA):List V:=x.cps.toList.map λc=>.str ⟨#[c]⟩
section
variable{X:Cx}{tg l:bu}{te:TE}
theorem zUg{P:aK}{w:aT}{K:ae}{tg:bu}(x:aA)(t:nh)(it:af):zWv P w K tg (Itc (λ_=>True) (zEq x)) [it] it (λi h=>h.IsStrIter it "str_ascii_iterator" x t i) where
 mem:=by simp
 obj:=λi h st b hb=>by
  have e:b=it:=by simpa using hb
  subst e;obtain⟨o,e,c,d⟩:=st;exact⟨o,e,λv z=>by rw[d] at z; cases z⟩
 keep:=λi h h' ⟨o,ho,r⟩ k=>⟨o,k it (by simp) o ho,r⟩
 item:=by
  intro X hP hw hK hc i pins s σ H E I hf st ⟨_,hi⟩;subst hP hw hK;have hi':i<x.cps.size:=by unfold zEq at hi; rw[ac,bK] at hi; exact hi
  obtain⟨f0,f1,f2,f3,f4,f5⟩:=hf it (by simp);refine wpAny_pyNext_ascii_item st (c:=x.cps[i]) (cQ hi') λh' st2 sb=>?_;have I1:Inv X pins σ H { s with heap:=h',toks:=s.toks+1 }:=I.turned (t':=s.toks+1) (λb o hb e=>(sb.2 b hb).trans e) f0 f1 f3 f4 f5;obtain⟨o,e,c,dd⟩:=id st2;exact⟨_,U,zPv (s:={ s with heap:=h',toks:=s.toks+1 }) e c dd (by decide) ⟨.str ⟨#[x.cps[i]]⟩,H,I1,⟨_,U⟩,⟨U,by unfold zEq; rw[av,fC,cQ hi']; rfl⟩,st2,λb hb=>(hf b hb).1⟩⟩
 done:=by
  intro X hP hw hK hc i pins s σ H E I hf st ⟨_,hi⟩;subst hP hw hK;have hi':x.cps.size<=i:=by unfold zEq at hi; rw[ac,bK] at hi; exact hi
  obtain⟨f0,f1,f2,f3,f4,f5⟩:=hf it (by simp);exact wpAny_pyNext_ascii_end (I.ok.hd hc) st (d4 hi') λh' eb=>⟨rfl,I.turned (t':=s.toks) (λb o hb e=>eb b o hb e) f0 f1 f3 f4 f5⟩
 self:=λ_ _ _ _ _ st h=>wpAny_pyIter_striter_ascii st h
def iStr(te:TE):TI:=λσ H R=>te σ H λv H1=>∃ x:aA,v=.str x/\x.cps.all (· < 128)=true/\R (Itc (λ_=>True) (zEq x)) H1
theorem zRy(hl:PE X l te):PI X tg l (iStr te):=by
 intro pins s σ H R I h;refine thn (hl pins s σ H _ I h) λv s1 ⟨y,H1,I1,r1,x,e,ha,q⟩=>?_;subst e;obtain⟨t,rfl⟩:=r1;refine wpAny_pyIter_ascii ha ?_;refine⟨s1.heap.objs.size,[s1.heap.objs.size],_,_,H1,U,I1.kept (t':=s1.toks) λb o e=>ah _ e,zUg x t _,⟨_,ap _ rfl,U,U⟩,λb hb=>?_,q⟩;have e:b=s1.heap.objs.size:=by simpa using hb
 subst e;exact I1.fpOk (al _) (I1.hok.fresh (al _))
theorem zKh:OpR X (compareOp .LtE) (λx y H Q=>∃ i j,x=.str i/\y=.str j/\Q (.bl (!decide (j.cps.toList<i.cps.toList))) H):=by
 intro pins s σ H x y v u Q I rx ry h;obtain⟨i,j,rfl,rfl,q⟩:=h;obtain⟨t,rfl⟩:=rx;obtain⟨t',rfl⟩:=ry;exact PySem.P.le_str (yU I q rfl)
theorem zXa:SlR X (λx lo hi H Q=>∃ z:aA,x=.str z/\z.length<=sizeLine/\Q (.str (eN z lo hi)) H):=by
 intro pins s σ H x v vl vu lo hi sl Q I rx hs pl pu h;obtain⟨z,rfl,hz,q⟩:=h;obtain⟨t,rfl⟩:=rx;have fin:∀(l u:Option (Int×nh)),l.map (·.1)=lo->u.map (·.1)=hi->(sliceMade z t l u none).post (EP X pins σ Q) s:=λl u e1 e2=>by
  subst e1 e2;exact post_val_or_str (t:=t) (s:=s) (Q:=EP X pins σ Q) ⟨aJ (io z _ _) hz,λt' k=>⟨.str (eN z _ _),H,I.tok k,⟨t',rfl⟩,q⟩⟩
 exists "str",_,F.slot_str_getitem.lookup,typeIs_str _ _ _;obtain⟨o,ho,hc,hd⟩:=hs;cases pl with
 | none =>
  cases pu with
  | none=>exact dY (l:=none) (u:=none) (st:=none) ⟨o,ho,hc,hd⟩ rfl (fin none none rfl rfl)
  | int j tj=>exact dY (l:=none) (u:=some (j,tj)) (st:=none) ⟨o,ho,hc,hd⟩ rfl (fin none (some (j,tj)) rfl rfl)
 | int i ti =>
  cases pu with
  | none=>exact dY (l:=some (i,ti)) (u:=none) (st:=none) ⟨o,ho,hc,hd⟩ rfl (fin (some (i,ti)) none rfl rfl)
  | int j tj=>exact dY (l:=some (i,ti)) (u:=some (j,tj)) (st:=none) ⟨o,ho,hc,hd⟩ rfl (fin (some (i,ti)) (some (j,tj)) rfl rfl)
theorem zK3:∀{ts:List aA}{us:List ag},yV (ts.map V.str) us->∃ l:List (aA×nh),us=strValues l/\l.map (·.1)=ts
 | [],_,.nil=>⟨[],rfl,rfl⟩
 | x::ts,_,.cons ⟨t,e⟩ r=>by
  obtain⟨l,e1,e2⟩:=zK3 r;subst e;exact⟨(x,t)::l,by rw[e1]; rfl,by rw[aQ,e2]⟩
theorem zRg(sep:aA):∀ zs:List aA,(hJ sep zs).length<=(zs.map (·.length)).sum+zs.length*sep.length
 | []=>br _
 | [y]=>by
  show y.length<=_;simp
 | y::z::l=>by
  have ih:=zRg sep (z::l);have e:(hJ sep (y::z::l)).length=y.length+sep.length+(hJ sep (z::l)).length:=by
   show(y++sep++hJ sep (z::l)).length=_;rw[strLen_append,strLen_append]
  rw[e];simp only[aQ,mq,aU,mM] at ih ⊢;lia
def zDk(sep:aA)(ts:List aA):Nat:=(ts.map (·.length)).sum+ts.length*sep.length
theorem zT2:MtR X "str.join" (λx xs H Q=>∃(sep:aA)(a:af)(ts:List aA),x=.str sep/\xs=[.ref a]/\SqL X.K H a (ts.map V.str)/\zDk sep ts<=sizeLine/\Q (.str (fv sep ts)) H):=by
 intro pins s σ H x xs v us Q I rx rv h;obtain⟨sep,a,ts,rfl,rfl,ha,hl,q⟩:=h;obtain⟨t,rfl⟩:=rx;obtain⟨u,rfl,ru⟩:=yV.one rv;cases ru;obtain⟨its,r,p,_⟩:=I.list ha;obtain⟨l,rfl,el⟩:=zK3 r;have ht:Builtin.Str.tooLong ((l.map (·.1)).toArray.foldl (· + ·.length+sep.length) 0)=false:=by
  rw[el,mH];exact decide_eq_false (by unfold zDk at hl; lia)
 refine call_meets iQ (typeIs_str _ _ _) F.entry_str_join (F.args_str_join_2 _ _) (meets_str_join_list sep t a l ht) ⟨p.isList,?_⟩;have gl:∀ zs:List aA,(fv sep zs).length<=zDk sep zs:=λzs=>by
  rw[gb];exact zRg sep zs
 match l,el with
 | [],el =>
  subst el;exact⟨aJ (gl []) hl,⟨.str _,H,I.tok _,⟨_,U⟩,q⟩⟩
 | [y],el =>
  subst el;exact⟨.str y.1,H,I,⟨y.2,U⟩,q⟩
 | y::z::l,el =>
  subst el;exact⟨aJ (gl _) hl,⟨.str _,H,I.tok _,⟨_,U⟩,q⟩⟩
end
end L2

namespace Sea
open PySem L2
inductive Dt where
 | int (i:Int)
 | str (x:aA)
 | tup (l:List Dt)
mutual
def Rep(H:Hp):Dt->V->Prop
 | .int i,v=>v=.int i
 | .str x,v=>v=.str x
 | .tup l,v=>∃(a:af)(xs:List V),v=.ref a/\H a=some (.tup xs)/\wC H l xs
def wC(H:Hp):List Dt->List V->Prop
 | [],xs=>xs=[]
 | d::l,xs=>∃(x:V)(r:List V),xs=x::r/\Rep H d x/\wC H l r
end
def yR(φ:af->Prop)(H H':Hp):Prop:=∀ b o,¬ φ b->H b=some o->H' b=some o\/∃(ob:cz)(kvs:List (Key×V)),o=.dK kvs/\H' b=some (.frz ob (.dK kvs))
abbrev Sam(H H':Hp):Prop:=yR (λ_=>False) H H'
section
variable{φ ψ:af->Prop}{H H1 H2:Hp}{a:af}{xs:List V}
theorem yR.of(s:Same H H1):yR φ H H1:=λb o _ e=>.inl (s b o e)
theorem yR.refl(H:Hp):yR φ H H:=λ_ _ _ e=>.inl e
theorem yR.trans(s:yR φ H H1)(t:yR φ H1 H2):yR φ H H2:=λb o n e=>by
 rcases s b o n e with e1 | ⟨ob,kvs,e0,e1⟩
 ·exact t b o n e1
 ·subst e0;rcases t b _ n e1 with e2 | ⟨_,_,z,_⟩
  ·exact .inr ⟨ob,kvs,rfl,e2⟩
  ·cases z
theorem yR.wider(s:yR φ H H1)(h:∀ b,φ b->ψ b):yR ψ H H1:=λb o n e=>s b o (λz=>n (h b z)) e
theorem yR.lst(s:yR φ H H1)(n:¬ φ a)(e:H a=some (.lst xs)):H1 a=some (.lst xs):=by
 rcases s a _ n e with z | ⟨_,_,z,_⟩
 ·exact z
 ·cases z
theorem yR.tup(s:yR φ H H1)(n:¬ φ a)(e:H a=some (.tup xs)):H1 a=some (.tup xs):=by
 rcases s a _ n e with z | ⟨_,_,z,_⟩
 ·exact z
 ·cases z
theorem yR.ins(s:yR φ H H1)(n:¬ φ a){C dx:af}{fs:List (aA×V)}(e:H a=some (.ins C dx fs)):H1 a=some (.ins C dx fs):=by
 rcases s a _ n e with z | ⟨_,_,z,_⟩
 ·exact z
 ·cases z
theorem yR.rd(s:yR φ H H1)(n:¬ φ a){kvs:List (Key×V)}(e:Rd H a (.dK kvs)):Rd H1 a (.dK kvs):=by
 rcases e with e | ⟨ob,e⟩
 ·rcases s a _ n e with z | ⟨ob,kvs',z,w⟩
  ·exact .inl z
  ·cases z;exact .inr ⟨ob,w⟩
 ·rcases s a _ n e with z | ⟨_,_,z,_⟩
  ·exact .inr ⟨ob,z⟩
  ·cases z
theorem yR.some(s:yR φ H H1)(n:¬ φ a){o:HO}(e:H a=some o):∃ o',H1 a=some o':=by
 rcases s a _ n e with z | ⟨_,_,_,w⟩
 ·exact⟨_,z⟩
 ·exact⟨_,w⟩
theorem yR.free(s:yR φ H H1)(n:¬ φ a)(e:H1 a=none):H a=none:=by
 cases q:H a with
 | none=>rfl
 | some o =>
  obtain⟨o',z⟩:=s.some n q;rw[e] at z;cases z
theorem zF2{d:af}{o:cz}{kvs:List (Key×V)}(hd:Rd H d (.dK kvs))(f:zV2 d o kvs H H1):yR φ H H1:=λb u _ e=>by
 by_cases z:b=d
 ·subst z;rcases hd with hd | ⟨o',hd⟩
  ·rw[hd] at e;cases e;exact .inr ⟨o,kvs,rfl,f.1⟩
  ·rw[hd] at e;cases e;rw[<- f.2.2 o' hd] at f;exact .inl f.1
 ·exact .inl (by rw[f.2.1 b z]; exact e)
end
mutual
theorem Rep.sam{φ:af->Prop}{H H1:Hp}(s:yR φ H H1)(np:∀ b xs,H b=some (.tup xs)->¬ φ b):∀{d:Dt}{v:V},Rep H d v->Rep H1 d v
 | .int _,_,h=>by rw[Rep] at h ⊢; exact h
 | .str _,_,h=>by rw[Rep] at h ⊢; exact h
 | .tup l,v,h=>by
  rw[Rep] at h ⊢;obtain⟨a,xs,e,h1,h2⟩:=h;exact⟨a,xs,e,s.tup (np a xs h1) h1,wC.sam s np h2⟩
theorem wC.sam{φ:af->Prop}{H H1:Hp}(s:yR φ H H1)(np:∀ b xs,H b=some (.tup xs)->¬ φ b):∀{l:List Dt}{xs:List V},wC H l xs->wC H1 l xs
 | [],_,h=>by rw[wC] at h ⊢; exact h
 | d::l,xs,h=>by
  rw[wC] at h ⊢;obtain⟨x,r,e,h1,h2⟩:=h;exact⟨x,r,e,Rep.sam s np h1,wC.sam s np h2⟩
end
section
variable{H H1:Hp}
theorem no_f{H:Hp} : ∀ b xs,H b=some (.tup xs)->¬ (λ_:af=>False) b:=λ_ _ _ z=>z
theorem Rep.to{d:Dt}{v:V}(h:Rep H d v)(s:Sam H H1):Rep H1 d v:=h.sam s no_f
theorem wC.to{l:List Dt}{xs:List V}(h:wC H l xs)(s:Sam H H1):wC H1 l xs:=h.sam s no_f
theorem zZ{i:Int}{v:V} : Rep H (.int i) v↔v=.int i:=by rw[Rep]
theorem zU{x:aA}{v:V} : Rep H (.str x) v↔v=.str x:=by rw[Rep]
theorem yD{l:List Dt}{v:V} : Rep H (.tup l) v↔∃(a:af)(xs:List V),v=.ref a/\H a=some (.tup xs)/\wC H l xs:=by rw[Rep]
theorem yF{xs:List V} : wC H [] xs↔xs=[]:=by rw[wC]
theorem zL{d:Dt}{l:List Dt}{xs:List V} : wC H (d::l) xs↔∃(x:V)(r:List V),xs=x::r/\Rep H d x/\wC H l r:=by rw[wC]
theorem wC.length:∀{l:List Dt}{xs:List V},wC H l xs->xs.length=l.length
 | [],_,h=>by rw[yF.mp h]; rfl
 | d::l,_,h=>by
  obtain⟨x,r,e,_,h2⟩:=zL.mp h;rw[e,aU,aU,wC.length h2]
theorem wC.back:∀{l:List Dt}{xs:List V}{i:Nat}{x:V},wC H l xs->xs[i]?=some x->∃ d,l[i]?=some d/\Rep H d x
 | [],_,i,x,h,e=>by rw[yF.mp h] at e; simp at e
 | d::l,_,0,x,h,e=>by
  obtain⟨y,r,ex,h1,_⟩:=zL.mp h;rw[ex] at e;simp at e;subst e;exact⟨d,U,h1⟩
 | d::l,_,i+1,x,h,e=>by
  obtain⟨y,r,ex,_,h2⟩:=zL.mp h;rw[ex] at e;obtain⟨d',h3,h4⟩:=wC.back (i:=i) (x:=x) h2 (by simpa using e);exact⟨d',by simpa using h3,h4⟩
theorem wC.app:∀{l m:List Dt}{xs ys:List V},wC H l xs->wC H m ys->wC H (l++m) (xs++ys)
 | [],_,_,_,h,k=>by rw[yF.mp h]; exact k
 | d::l,_,_,_,h,k=>by
  obtain⟨x,r,e,h1,h2⟩:=zL.mp h;rw[e];exact zL.mpr ⟨x,_,rfl,h1,wC.app h2 k⟩
theorem wC.one{d:Dt}{v:V}(h:Rep H d v):wC H [d] [v]:=zL.mpr ⟨v,[],rfl,h,yF.mpr rfl⟩
theorem wC.two{d e:Dt}{v u:V}(h:Rep H d v)(k:Rep H e u):wC H [d,e] [v,u]:=zL.mpr ⟨v,_,rfl,h,.one k⟩
end
structure xO(H:Hp)(kvs:List (Key×V))(es:List (Key×Dt)):Prop where
 keys:kvs.map (·.1)=es.map (·.1)
 vals:wC H (es.map (·.2)) (kvs.map (·.2))
def zA4(H:Hp)(a:af)(es:List (Key×Dt)):Prop:=∃ kvs,Rd H a (.dK kvs)/\xO H kvs es
def look(es:List (Key×Dt))(k:Key):Option Dt:=(es.find? λe=>decide (e.1=k)).map (·.2)
def zWy(es:List (Key×Dt))(k:Key)(d:Dt):List (Key×Dt):=if es.any (λe=>decide (e.1=k)) then es.map λe=>if e.1=k then(e.1,d) else e else es++[(k,d)]
def zLr(es:List (Key×Dt))(k:Key):List (Key×Dt):=es.filter λe=>decide (e.1≠k)
theorem xO.nil{H:Hp} : xO H [] []:=⟨rfl,yF.mpr rfl⟩
theorem xO.cons_iff{H:Hp}{kvs:List (Key×V)}{k:Key}{d:Dt}{es:List (Key×Dt)} : xO H kvs ((k,d)::es)↔∃(v:V)(r:List (Key×V)),kvs=(k,v)::r/\Rep H d v/\xO H r es:=by
 constructor
 ·rintro⟨h1,h2⟩;cases kvs with
  | nil=>simp at h1
  | cons p r =>
   obtain⟨k',v⟩:=p;simp only[aQ,iB] at h1;obtain⟨e1,e2⟩:=h1;subst e1;obtain⟨x,r',e,h3,h4⟩:=zL.mp h2;simp only[aQ,iB] at e;obtain⟨e3,e4⟩:=e;subst e3 e4;exact⟨v,r,U,h3,e2,h4⟩
 ·rintro⟨v,r,rfl,h1,h2⟩;exact⟨by simp[h2.keys],zL.mpr ⟨v,_,U,h1,h2.vals⟩⟩
theorem xO.nil_iff{H:Hp}{kvs:List (Key×V)}(h:xO H kvs []):kvs=[]:=by
 have:=h.keys;simpa using this
theorem xO.to{H H1:Hp}{kvs:List (Key×V)}{es:List (Key×Dt)}(h:xO H kvs es)(s:Sam H H1):xO H1 kvs es:=⟨h.keys,h.vals.to s⟩
theorem xO.sam{φ:af->Prop}{H H1:Hp}{kvs:List (Key×V)}{es:List (Key×Dt)}(h:xO H kvs es)(s:yR φ H H1)(np:∀ b xs,H b=some (.tup xs)->¬ φ b):xO H1 kvs es:=⟨h.keys,h.vals.sam s np⟩
theorem zA4.to{H H1:Hp}{a:af}{es:List (Key×Dt)}(h:zA4 H a es)(s:Sam H H1):zA4 H1 a es:=let ⟨kvs,h1,h2⟩:=h;⟨kvs,s.rd id h1,h2.to s⟩
theorem xO.length{H:Hp}{kvs:List (Key×V)}{es:List (Key×Dt)}(h:xO H kvs es):kvs.length=es.length:=by
 have:=congrArg cN h.keys;simpa using this
theorem xO.get{H:Hp}{k:Key} : ∀{es:List (Key×Dt)}{kvs:List (Key×V)}{d:Dt},xO H kvs es->look es k=some d->∃ v,wL kvs k=some v/\Rep H d v
 | [],_,_,_,e=>by simp[look] at e
 | (k',d')::es,kvs,d,h,e=>by
  obtain⟨v,r,rfl,h1,h2⟩:=xO.cons_iff.mp h;by_cases z:k'=k
  ·rw[wN z];simp only[look,bR,decide_eq_true z,d8,gT] at e;subst e;exact⟨v,U,h1⟩
  ·rw[wF z];refine xO.get h2 ?_;simp only[look,bR,decide_eq_false z] at e;exact e
theorem xO.none{H:Hp}{k:Key} : ∀{es:List (Key×Dt)}{kvs:List (Key×V)},xO H kvs es->look es k=none->wL kvs k=none
 | [],_,h,_=>by rw[h.nil_iff]; rfl
 | (k',d')::es,kvs,h,e=>by
  obtain⟨v,r,rfl,h1,h2⟩:=xO.cons_iff.mp h;by_cases z:k'=k
  ·simp[look,bR,z] at e
  ·rw[wF z];refine xO.none h2 ?_;simp only[look,bR,decide_eq_false z] at e;exact e
theorem xO.isSome{H:Hp}{k:Key}{es:List (Key×Dt)}{kvs:List (Key×V)}(h:xO H kvs es):(wL kvs k).isSome=(look es k).isSome:=by
 cases e:look es k with
 | none=>rw[h.none e]; rfl
 | some d =>
  obtain⟨v,z,_⟩:=h.get e;rw[z];rfl
theorem xO.any{H:Hp}{k:Key} : ∀{es:List (Key×Dt)}{kvs:List (Key×V)},xO H kvs es->(kvs.any λe=>decide (e.1=k))=es.any λe=>decide (e.1=k)
 | [],_,h=>by rw[h.nil_iff]; rfl
 | (k',d')::es,kvs,h=>by
  obtain⟨v,r,rfl,h1,h2⟩:=xO.cons_iff.mp h;rw[cD,cD,xO.any h2]
theorem xO.rep{H:Hp}{k:Key}{v:V}{d:Dt}(hv:Rep H d v):∀{es:List (Key×Dt)}{kvs:List (Key×V)},xO H kvs es->xO H (kvs.map λe=>if e.1=k then(e.1,v) else e) (es.map λe=>if e.1=k then(e.1,d) else e)
 | [],_,h=>by rw[h.nil_iff]; exact .nil
 | (k',d')::es,kvs,h=>by
  obtain⟨u,r,rfl,h1,h2⟩:=xO.cons_iff.mp h;rw[aQ,aQ];by_cases z:k'=k
  ·rw[if_pos z,if_pos z];exact xO.cons_iff.mpr ⟨v,_,rfl,hv,xO.rep hv h2⟩
  ·rw[if_neg z,if_neg z];exact xO.cons_iff.mpr ⟨u,_,rfl,h1,xO.rep hv h2⟩
theorem xO.app{H:Hp}{k:Key}{v:V}{d:Dt}(hv:Rep H d v):∀{es:List (Key×Dt)}{kvs:List (Key×V)},xO H kvs es->xO H (kvs++[(k,v)]) (es++[(k,d)])
 | [],_,h=>by rw[h.nil_iff]; exact xO.cons_iff.mpr ⟨v,[],rfl,hv,.nil⟩
 | (k',d')::es,kvs,h=>by
  obtain⟨u,r,rfl,h1,h2⟩:=xO.cons_iff.mp h;exact xO.cons_iff.mpr ⟨u,_,rfl,h1,xO.app hv h2⟩
theorem xO.put{H:Hp}{k:Key}{v:V}{d:Dt}{es:List (Key×Dt)}{kvs:List (Key×V)}(h:xO H kvs es)(hv:Rep H d v):xO H (rE kvs k v) (zWy es k d):=by
 unfold rE zWy;rw[h.any];split
 ·exact h.rep hv
 ·exact h.app hv
theorem xO.drop{H:Hp}{k:Key} : ∀{es:List (Key×Dt)}{kvs:List (Key×V)},xO H kvs es->xO H (zEp kvs k) (zLr es k)
 | [],_,h=>by rw[h.nil_iff]; exact .nil
 | (k',d')::es,kvs,h=>by
  obtain⟨u,r,rfl,h1,h2⟩:=xO.cons_iff.mp h;unfold zEp zLr;by_cases z:k'=k
  ·rw[hU (by simp[z]),hU (by simp[z])];exact xO.drop h2
  ·rw[hV (by simp[z]),hV (by simp[z])];exact xO.cons_iff.mpr ⟨u,_,rfl,h1,xO.drop h2⟩
end Sea

namespace Sea
open PySem L2
inductive Deed where
 | mark (n:aA) (x y:Int)
 | move (n:aA) (x y:Int)
 | unmark (n:aA)
 | bank (n:aA) (cs:List (Int×Int))
 | level (n:aA)
 | sail (x y:Int)
 | right (k x y:Int)
 | bearing (m:Int) (n:aA) (a b c d:Int)
 | range (m:Int) (l r:aA)
 | strike (k:Int)
def ptD(p:Int×Int):Dt:=.tup [.int p.1,.int p.2]
def Deed.dt:Deed->Dt
 | .mark n x y=>.tup [.str "mark",.str n,.int x,.int y]
 | .move n x y=>.tup [.str "move",.str n,.int x,.int y]
 | .unmark n=>.tup [.str "unmark",.str n]
 | .bank n cs=>.tup [.str "bank",.str n,.tup (cs.map ptD)]
 | .level n=>.tup [.str "level",.str n]
 | .sail x y=>.tup [.str "sail",.int x,.int y]
 | .right k x y=>.tup [.str "right",.int k,.int x,.int y]
 | .bearing m n a b c d=>.tup [.str "bearing",.int m,.str n,ptD (a,b),ptD (c,d)]
 | .range m l r=>.tup [.str "range",.int m,.str l,.str r]
 | .strike k=>.tup [.str "strike",.int k]
structure BS where
 marks:List (aA×Int×Int)
 banks:List (aA×List (Int×Int))
 runs:List (Int×Int)
 notes:List (Int×Deed)
 coming:Int
def BS.nil:BS:=⟨[],[],[],[],1⟩
def mkE(l:List (aA×Int×Int)):List (Key×Dt):=l.map λe=>(.inr e.1,ptD e.2)
def bkE(l:List (aA×List (Int×Int))):List (Key×Dt):=l.map λe=>(.inr e.1,.tup (e.2.map ptD))
def rnE(l:List (Int×Int)):List (Key×Dt):=l.zipIdx.map λe=>(.inl (e.2:Int),ptD e.1)
def ntE(l:List (Int×Deed)):List (Key×Dt):=l.map λe=>(.inl e.1,e.2.dt)
def stK(m b r n:af)(k:Int):List (Key×V):=[(.inr "marks",.ref m),(.inr "banks",.ref b),(.inr "runs",.ref r),(.inr "notes",.ref n),(.inr "coming",.int k)]
structure StA(H:Hp)(d m b r n:af)(S:BS):Prop where
 at_:Rd H d (.dK (stK m b r n S.coming))
 ma:zA4 H m (mkE S.marks)
 ba:zA4 H b (bkE S.banks)
 ru:zA4 H r (rnE S.runs)
 no:zA4 H n (ntE S.notes)
def zPb(H:Hp)(d:af)(S:BS):Prop:=∃ m b r n,StA H d m b r n S
theorem StA.to{H H1:Hp}{d m b r n:af}{S:BS}(h:StA H d m b r n S)(s:Sam H H1):StA H1 d m b r n S:=⟨s.rd id h.at_,h.ma.to s,h.ba.to s,h.ru.to s,h.no.to s⟩
theorem zPb.to{H H1:Hp}{d:af}{S:BS}(h:zPb H d S)(s:Sam H H1):zPb H1 d S:=let ⟨m,b,r,n,q⟩:=h;⟨m,b,r,n,q.to s⟩
def zQ(S:BS)(n:aA):Option (Int×Int):=(S.marks.find? λe=>decide (e.1=n)).map (·.2)
theorem wT{S:BS}{n:aA} : look (mkE S.marks) (.inr n)=(zQ S n).map ptD:=by
 unfold look mkE zQ;rw[List.find?_map];have e:((λe:Key×Dt=>decide (e.1=dX n)) ∘ λe:aA×Int×Int=>((dX e.1,ptD e.2):Key×Dt))=λe=>decide (e.1=n):=by
  funext e
  simp
 rw[e];cases S.marks.find? λe=>decide (e.1=n) <;> rfl
structure Few(S:BS):Prop where
 ma:S.marks.length<=60
 ba:S.banks.length<=60
 ru:S.runs.length<=60
 no:S.notes.length<=60
def wG(x:aA):Prop:=1<=x.length/\x.length<=8/\∀ c∈x.cps.toList,97<=c/\c<=122
def zD3(p:Int×Int):Prop:=-1000<=p.1/\p.1<=1000/\-1000<=p.2/\p.2<=1000
def zDx(p:Int×Int):Prop:=p≠(0,0)/\-100<=p.1/\p.1<=100/\-100<=p.2/\p.2<=100
def aft(S:BS):Deed->BS
 | .mark n x y=>{ S with marks:=S.marks++[(n,x,y)] }
 | .move n x y=>{ S with marks:=S.marks.map λe=>if e.1=n then(e.1,x,y) else e }
 | .unmark n=>{ S with marks:=S.marks.filter λe=>decide (e.1≠n) }
 | .bank n cs=>{ S with banks:=S.banks++[(n,cs)] }
 | .level n=>{ S with banks:=S.banks.filter λe=>decide (e.1≠n) }
 | .sail x y=>{ S with runs:=S.runs++[(x,y)] }
 | .right k x y=>{ S with runs:=S.runs.set k.toNat (x,y) }
 | .bearing m n a b c d=>{ S with notes:=S.notes++[(S.coming,.bearing m n a b c d)],coming:=S.coming+1 }
 | .range m l r=>{ S with notes:=S.notes++[(S.coming,.range m l r)],coming:=S.coming+1 }
 | .strike k=>{ S with notes:=S.notes.filter λe=>decide (e.1≠k) }
def zDe(S:BS):Deed->Prop
 | .bearing _ _ _ _ _ _=>True
 | .range _ l r=>∃ p u,zQ S l=some p/\zQ S r=some u/\p≠u
 | _=>False
def rO(n:aA):Deed->Prop
 | .bearing _ k _ _ _ _=>k≠n
 | .range _ l r=>l≠n/\r≠n
 | _=>False
def zKv(cs:List (Int×Int)):Bool:=isB (cs.map λc=>(0,c))
def okD(S:BS):Deed->Prop
 | .mark n x y=>wG n/\zQ S n=none/\zD3 (x,y)/\S.marks.length<20
 | .move n x y=>(zQ S n).isSome=true/\zD3 (x,y)/\∀ e∈S.notes,zDe (aft S (.move n x y)) e.2
 | .unmark n=>(zQ S n).isSome=true/\∀ e∈S.notes,rO n e.2
 | .bank n cs=>wG n/\n ∉ S.banks.map (·.1)/\(∀ c∈cs,zD3 c)/\zKv cs=true/\S.banks.length<8
 | .level n=>n∈S.banks.map (·.1)
 | .sail x y=>zD3 (x,y)/\S.runs.length<12
 | .right k x y=>0<=k/\k<S.runs.length/\zD3 (x,y)
 | .bearing m n a b c d=>0<=m/\m<=S.runs.length/\(zQ S n).isSome=true/\zDx (a,b)/\zDx (c,d)/\0<a*d-b*c/\S.notes.length<24
 | .range m l r=>0<=m/\m<=S.runs.length/\(zQ S l).isSome=true/\(zQ S r).isSome=true/\zQ S l≠zQ S r/\S.notes.length<24
 | .strike k=>k∈S.notes.map (·.1)
def zUm(S:BS):Prop:=∀ e∈S.notes,e.1<S.coming
theorem sZ{es:List (Key×Dt)}{k:Key}{d:Dt}(h:∀ e∈es,e.1≠k):zWy es k d=es++[(k,d)]:=by
 unfold zWy;rw[if_neg];intro z;obtain⟨e,he,q⟩:=fE.mp z;exact h e he (of_decide_eq_true q)
theorem zR0(l:List (aA×Int×Int))(n:aA)(x y:Int):mkE (l++[(n,x,y)])=mkE l++[(.inr n,ptD (x,y))]:=by
 unfold mkE;rw[aG];rfl
theorem zZm(l:List (Int×Int))(x y:Int):rnE (l++[(x,y)])=rnE l++[(.inl (l.length:Int),ptD (x,y))]:=by
 unfold rnE;rw[List.zipIdx_append,aG];simp
theorem zNl(l:List (Int×Deed))(k:Int)(D:Deed):ntE (l++[(k,D)])=ntE l++[(.inl k,D.dt)]:=by
 unfold ntE;rw[aG];rfl
theorem zVj{l:List (Int×Int)} : ∀ e∈rnE l,e.1≠.inl (l.length:Int):=λe he z=>by
 unfold rnE at he;obtain⟨q,hq,rfl⟩:=aC.mp he;obtain⟨q1,q2⟩:=q;have:=gJ hq;have z':(dW (q2:Int):Key)=dW (l.length:Int):=z;injection z' with z'
 simp at this;lia
theorem zJl{S:BS}(h:zUm S):∀ e∈ntE S.notes,e.1≠.inl S.coming:=λe he z=>by
 unfold ntE at he;obtain⟨q,hq,rfl⟩:=aC.mp he;have:=h q hq;have z':(dW q.1:Key)=dW S.coming:=z;injection z' with z'
 lia
theorem zPe{S:BS}{n:aA}(h:zQ S n=none):∀ e∈mkE S.marks,e.1≠.inr n:=λe he z=>by
 unfold mkE at he;obtain⟨q,hq,rfl⟩:=aC.mp he;have z':(dX q.1:Key)=dX n:=z;injection z' with z'
 unfold zQ at h;rw[ip,d5] at h;exact h q hq (by simp[z'])
theorem zUy(a b c d e:V):zD8 [] [(.inr "marks",a),(.inr "banks",b),(.inr "runs",c),(.inr "notes",d),(.inr "coming",e)]=[(.inr "marks",a),(.inr "banks",b),(.inr "runs",c),(.inr "notes",d),(.inr "coming",e)]:=by kernel_rfl
theorem zV4(a b c d e:V):zD8 [] [(.inr "marks",a),(.inr "banks",b),(.inr "runs",c),(.inr "notes",d),(.inr "next",e)]=[(.inr "marks",a),(.inr "banks",b),(.inr "runs",c),(.inr "notes",d),(.inr "next",e)]:=by kernel_rfl
theorem tN{m b r n:af}{k:Int} : wL (stK m b r n k) (.inr "marks")=some (.ref m):=by kernel_rfl
theorem zBd{m b r n:af}{k:Int} : wL (stK m b r n k) (.inr "banks")=some (.ref b):=by kernel_rfl
theorem rF{m b r n:af}{k:Int} : wL (stK m b r n k) (.inr "runs")=some (.ref r):=by kernel_rfl
theorem qS{m b r n:af}{k:Int} : wL (stK m b r n k) (.inr "notes")=some (.ref n):=by kernel_rfl
theorem zG2{m b r n:af}{k:Int} : wL (stK m b r n k) (.inr "coming")=some (.int k):=by kernel_rfl
theorem zGw{m b r n c:af}{k:Int} : rE (stK m b r n k) (.inr "marks") (.ref c)=stK c b r n k:=by kernel_rfl
theorem zKz{m b r n c:af}{k:Int} : rE (stK m b r n k) (.inr "banks") (.ref c)=stK m c r n k:=by kernel_rfl
theorem zOb{m b r n c:af}{k:Int} : rE (stK m b r n k) (.inr "runs") (.ref c)=stK m b c n k:=by kernel_rfl
theorem zMv{m b r n c:af}{k:Int} : rE (stK m b r n k) (.inr "notes") (.ref c)=stK m b r c k:=by kernel_rfl
theorem zQx{m b r n:af}{k j:Int} : rE (stK m b r n k) (.inr "coming") (.int j)=stK m b r n j:=by kernel_rfl
theorem Rd.same{H H1:Hp}{a:af}{u:HO}(h:Rd H a u)(s:Same H H1):Rd H1 a u:=h.imp (s _ _) λ⟨o,e⟩=>⟨o,s _ _ e⟩
theorem zA4.nil{H:Hp}{a:af}(h:H a=some (.dK [])):zA4 H a []:=⟨[],.inl h,.nil⟩
theorem zBv{H:Hp}{p:Int×Int}{v:V}(h:Rep H (ptD p) v):∃ a,v=.ref a/\H a=some (.tup [.int p.1,.int p.2]):=by
 obtain⟨a,xs,e,h1,h2⟩:=yD.mp h;obtain⟨x,r,rfl,h3,h4⟩:=zL.mp h2;obtain⟨y,r',rfl,h5,h6⟩:=zL.mp h4;rw[zZ.mp h3,zZ.mp h5,yF.mp h6] at h1;exact⟨a,e,h1⟩
theorem vO{H:Hp}{p:Int×Int}{a:af}(h:H a=some (.tup [.int p.1,.int p.2])):Rep H (ptD p) (.ref a):=yD.mpr ⟨a,_,rfl,h,.two (zZ.mpr rfl) (zZ.mpr rfl)⟩
section
variable{H:Hp}{v:V}
theorem zB6{n:aA}{x y:Int}(h:Rep H (Deed.mark n x y).dt v):∃ a,v=.ref a/\H a=some (.tup [.str "mark",.str n,.int x,.int y]):=by
 obtain⟨a,xs,e,h1,h2⟩:=yD.mp h;obtain⟨_,_,rfl,k1,h2⟩:=zL.mp h2;obtain⟨_,_,rfl,k2,h2⟩:=zL.mp h2;obtain⟨_,_,rfl,k3,h2⟩:=zL.mp h2;obtain⟨_,_,rfl,k4,h2⟩:=zL.mp h2;rw[zU.mp k1,zU.mp k2,zZ.mp k3,zZ.mp k4,yF.mp h2] at h1;exact⟨a,e,h1⟩
theorem zB0{x y:Int}(h:Rep H (Deed.sail x y).dt v):∃ a,v=.ref a/\H a=some (.tup [.str "sail",.int x,.int y]):=by
 obtain⟨a,xs,e,h1,h2⟩:=yD.mp h;obtain⟨_,_,rfl,k1,h2⟩:=zL.mp h2;obtain⟨_,_,rfl,k3,h2⟩:=zL.mp h2;obtain⟨_,_,rfl,k4,h2⟩:=zL.mp h2;rw[zU.mp k1,zZ.mp k3,zZ.mp k4,yF.mp h2] at h1;exact⟨a,e,h1⟩
theorem xG{m:Int}{n:aA}{a b c d:Int}(h:Rep H (Deed.bearing m n a b c d).dt v):∃ t p q,v=.ref t/\H t=some (.tup [.str "bearing",.int m,.str n,.ref p,.ref q])/\H p=some (.tup [.int a,.int b])/\H q=some (.tup [.int c,.int d]):=by
 obtain⟨t,xs,e,h1,h2⟩:=yD.mp h;obtain⟨_,_,rfl,k1,h3⟩:=zL.mp h2;obtain⟨_,_,rfl,k2,h4⟩:=zL.mp h3;obtain⟨_,_,rfl,k3,h5⟩:=zL.mp h4;obtain⟨_,_,rfl,k4,h6⟩:=zL.mp h5;obtain⟨_,_,rfl,k5,h7⟩:=zL.mp h6;obtain⟨p,rfl,hp⟩:=zBv k4;obtain⟨q,rfl,hq⟩:=zBv k5;have e6:=yF.mp h7;rw[zU.mp k1,zZ.mp k2,zU.mp k3,e6] at h1;exact⟨t,p,q,e,h1,hp,hq⟩
theorem wZ{m:Int}{l r:aA}(h:Rep H (Deed.range m l r).dt v):∃ t,v=.ref t/\H t=some (.tup [.str "range",.int m,.str l,.str r]):=by
 obtain⟨t,xs,e,h1,h2⟩:=yD.mp h;obtain⟨_,_,rfl,k1,h2⟩:=zL.mp h2;obtain⟨_,_,rfl,k2,h2⟩:=zL.mp h2;obtain⟨_,_,rfl,k3,h2⟩:=zL.mp h2;obtain⟨_,_,rfl,k4,h2⟩:=zL.mp h2;rw[zU.mp k1,zZ.mp k2,zU.mp k3,zU.mp k4,yF.mp h2] at h1;exact⟨t,e,h1⟩
end
theorem sJ{H:Hp}{v:V}{k:Int}(h:Rep H (Deed.strike k).dt v):∃ t,v=.ref t/\H t=some (.tup [.str "strike",.int k]):=by
 obtain⟨t,xs,e,h1,h2⟩:=yD.mp h;obtain⟨_,_,rfl,k1,h2⟩:=zL.mp h2;obtain⟨_,_,rfl,k2,h2⟩:=zL.mp h2;rw[zU.mp k1,zZ.mp k2,yF.mp h2] at h1;exact⟨t,e,h1⟩
theorem zN7(l:List (Int×Deed))(k:Int):zLr (ntE l) (.inl k)=ntE (l.filter λe=>decide (e.1≠k)):=by
 unfold zLr ntE;rw[iC]
 congr 1
 refine gU λe _=>?_;simp
theorem zOe{l:List (Int×Deed)}{k:Int}(h:k∈l.map (·.1)):∃ d,look (ntE l) (.inl k)=some d:=by
 obtain⟨e,he,rfl⟩:=aC.mp h;unfold look;cases q:(ntE l).find? λx=>decide (x.1=dW e.1) with
 | none =>
  have:=d5.mp q (.inl e.1,e.2.dt) (aC.mpr ⟨e,he,rfl⟩);simp at this
 | some x=>exact⟨x.2,U⟩
theorem StA.stKlen{m b r n:af}{k:Int} : (stK m b r n k).length<=100:=by show 5<=100; decide
theorem xO.le{H:Hp}{kvs:List (Key×V)}{es:List (Key×Dt)}(h:xO H kvs es){n:Nat}(hn:es.length<=n):kvs.length<=n:=by rw[h.length]; exact hn
theorem zAi(l:List (aA×Int×Int)):(mkE l).length=l.length:=by unfold mkE; rw[ac]
theorem zB8(l:List (Int×Int)):(rnE l).length=l.length:=by unfold rnE; rw[ac,List.length_zipIdx]
theorem zRt(l:List (Int×Deed)):(ntE l).length=l.length:=by unfold ntE; rw[ac]
end Sea

namespace Sea
open PySem L2
def bkF(d p l:af):List (aA×V):=[("state",.ref d),("past",.ref p),("later",.ref l)]
theorem qC{d p l:af} : (bkF d p l).lookup ("state" : aA)=some (.ref d):=by kernel_rfl
theorem zTr{d p l:af} : (bkF d p l).lookup ("past" : aA)=some (.ref p):=by kernel_rfl
theorem zLz{d p l c:af} : zE9 "state" (.ref c) (bkF d p l)=bkF c p l:=by kernel_rfl
theorem zMg{d p l c:af} : zE9 "later" (.ref c) (bkF d p l)=bkF d p c:=by kernel_rfl
theorem zZs{d p l:af} : zE9 "later" (.ref l) (zE9 "past" (.ref p) (zE9 "state" (.ref d) []))=bkF d p l:=by kernel_rfl
def uU(H:Hp):List (Deed×BS)->List V->Prop
 | [],xs=>xs=[]
 | (D,S)::r,xs=>∃(t d:af)(v:V)(ys:List V),xs=.ref t::ys/\H t=some (.tup [v,.ref d])/\Rep H D.dt v/\zPb H d S/\uU H r ys
structure BkA(C:af)(H:Hp)(b p dx d l:af)(ps ls:List V)(S:BS)(past later:List (Deed×BS)):Prop where
 ob:H b=some (.ins C dx (bkF d p l))
 st:zPb H d S
 pa:H p=some (.lst ps)
 la:H l=some (.lst ls)
 pp:uU H past ps
 ll:uU H later ls
 ne:l≠p
def zMx(C:af)(H:Hp)(b p:af)(S:BS)(past later:List (Deed×BS)):Prop:=∃ dx d l ps ls,BkA C H b p dx d l ps ls S past later
section
variable{φ:af->Prop}{H H1:Hp}
theorem zA4.samE{a:af}{es:List (Key×Dt)}(h:zA4 H a es)(s:yR φ H H1)(nd:∀ a kvs,Rd H a (.dK kvs)->¬ φ a)(np:∀ a xs,H a=some (.tup xs)->¬ φ a):zA4 H1 a es:=let ⟨kvs,h1,h2⟩:=h;⟨kvs,s.rd (nd _ _ h1) h1,h2.sam s np⟩
theorem zPb.samE{d:af}{S:BS}(h:zPb H d S)(s:yR φ H H1)(nd:∀ a kvs,Rd H a (.dK kvs)->¬ φ a)(np:∀ a xs,H a=some (.tup xs)->¬ φ a):zPb H1 d S :=
 let ⟨m,b,r,n,q⟩:=h;⟨m,b,r,n,s.rd (nd _ _ q.at_) q.at_,q.ma.samE s nd np,q.ba.samE s nd np,q.ru.samE s nd np,q.no.samE s nd np⟩
theorem uU.samE(s:yR φ H H1)(nd:∀ a kvs,Rd H a (.dK kvs)->¬ φ a)(np:∀ a xs,H a=some (.tup xs)->¬ φ a):∀{l:List (Deed×BS)}{xs:List V},uU H l xs->uU H1 l xs
 | [],_,h=>h
 | (D,S)::r,xs,h=>by
  obtain⟨t,d,v,ys,e,h1,h2,h3,h4⟩:=h;exact⟨t,d,v,ys,e,s.tup (np _ _ h1) h1,h2.sam s np,h3.samE s nd np,uU.samE s nd np h4⟩
theorem uU.app{D:Deed}{S:BS}{t d:af}{v:V}(h1:H t=some (.tup [v,.ref d]))(h2:Rep H D.dt v)(h3:zPb H d S):∀{l:List (Deed×BS)}{xs:List V},uU H l xs->uU H (l++[(D,S)]) (xs++[.ref t])
 | [],xs,h=>by
  have h:xs=[]:=h;rw[h];exact⟨t,d,v,[],U,h1,h2,h3,U⟩
 | (D',S')::r,xs,h=>by
  obtain⟨t',d',v',ys,e,g1,g2,g3,g4⟩:=h;rw[e];exact⟨t',d',v',_,U,g1,g2,g3,uU.app h1 h2 h3 g4⟩
theorem uU.len:∀{l:List (Deed×BS)}{xs:List V},uU H l xs->xs.length=l.length
 | [],xs,h=>by have h:xs=[]:=h; rw[h]; rfl
 | (D,S)::r,xs,h=>by
  obtain⟨t,d,v,ys,e,_,_,_,h4⟩:=h;rw[e,aU,aU,uU.len h4]
abbrev Bp(b p:af):af->Prop:=λx=>x=b\/x=p
theorem zU3{b p:af}{C dx:af}{fs:List (aA×V)}{ps:List V}(hb:H b=some (.ins C dx fs))(hp:H p=some (.lst ps)):∀ a kvs,Rd H a (.dK kvs)->¬ Bp b p a:=λa kvs h z=>by
 rcases z with z | z <;> subst z <;> rcases h with h | ⟨o,h⟩
 ·rw[hb] at h; cases h
 ·rw[hb] at h; cases h
 ·rw[hp] at h; cases h
 ·rw[hp] at h; cases h
theorem zVf{b p:af}{C dx:af}{fs:List (aA×V)}{ps:List V}(hb:H b=some (.ins C dx fs))(hp:H p=some (.lst ps)):∀ a xs,H a=some (.tup xs)->¬ Bp b p a:=λa xs h z=>by
 rcases z with z | z <;> subst z
 ·rw[hb] at h; cases h
 ·rw[hp] at h; cases h
theorem BkA.to{C b p dx d l:af}{ps ls:List V}{S:BS}{past later:List (Deed×BS)}(k:BkA C H b p dx d l ps ls S past later)(s:Sam H H1):BkA C H1 b p dx d l ps ls S past later :=
 ⟨s.ins id k.ob,k.st.to s,s.lst id k.pa,s.lst id k.la,k.pp.samE s (λ_ _ _=>id) (λ_ _ _=>id),k.ll.samE s (λ_ _ _=>id) (λ_ _ _=>id),k.ne⟩
theorem zMx.to{C b p:af}{S:BS}{past later:List (Deed×BS)}(k:zMx C H b p S past later)(s:Sam H H1):zMx C H1 b p S past later:=let ⟨dx,d,l,ps,ls,q⟩:=k;⟨dx,d,l,ps,ls,q.to s⟩
theorem zBi{d p l:af}{m:aA}(h1:m ≠ "state")(h2:m ≠ "past")(h3:m ≠ "later"):(bkF d p l).lookup m=none:=by
 unfold bkF;rw[be,beq_eq_false_iff_ne.mpr h1,be,beq_eq_false_iff_ne.mpr h2,be,beq_eq_false_iff_ne.mpr h3];rfl
end
end Sea

namespace Sea
open PySem L2
def abc:aA := "abcdefghijklmnopqrstuvwxyz"
theorem zUh:abc.cps.toList=(bJ 26).map (97 + ·):=by decide +kernel
theorem zWt{i:Int}(h0:0<=i)(h1:i<26):atI abc.cps.toList i=some (97+i.toNat):=by
 obtain⟨n,rfl⟩:=cj h0;refine zDm ?_;rw[zUh,av,List.getElem?_range (by lia)];rfl
def chS(c:Nat):aA:=⟨#[c]⟩
def txt(l:List Nat):aA:=⟨l.toArray⟩
theorem qL(l:List Nat):(txt l).length=l.length:=by
 show l.toArray.size=_;exact aE
theorem zZq{l m:List Nat}(h:txt l=txt m):l=m:=by
 have:=congrArg (λx:aA=>x.cps.toList) h;simpa [txt] using this
theorem zJd(l m:List Nat):txt l++txt m=txt (l++m):=by
 show(⟨l.toArray++m.toArray⟩:aA)=⟨(l++m).toArray⟩;rw[List.append_toArray]
theorem zSi:∀ l:List Nat,hJ "" (l.map chS)=txt l
 | []=>rfl
 | [c]=>rfl
 | c::d::l=>by
  show chS c++("" : aA)++hJ "" ((d::l).map chS)=_;rw[zSi (d::l)];show txt [c]++txt []++txt (d::l)=_;rw[zJd,zJd];rfl
theorem zVl(l:List Nat):fv "" (l.map chS)=txt l:=by
 rw[gb];exact zSi l
theorem zP0(l:List Nat):zDk "" (l.map chS)=l.length:=by
 unfold zDk;rw[show("" : aA).length=0 from by decide,Nat.mul_zero,Nat.add_zero]
 induction l with
 | nil=>rfl
 | cons c l ih =>
  rw[aQ,aQ,mq,ih,aU];show 1+l.length=_;lia
theorem zP8(l:List Nat)(k:Nat)(h:k<=l.length):eN (txt l) none (some (k:Int))=txt (l.take k):=by
 have e:du none (some (k:Int)) 1 (txt l).length=bJ k:=by
  unfold du sliceRange;rw[qL];have c1:¬ ((k:Int)<0):=by lia
  have c2:max 0 (min (k:Int) (l.length:Int))=k:=by lia
  simp only[c1,if_false,show(1:Int)>0 by decide,if_true,c2];by_cases z:(0:Int)<k
  ·rw[if_pos z];have c3:(((k:Int)-0+1-1)/1).toNat=k:=by lia
   rw[c3];refine hW (by simp) λi h1 h2=>?_;simp
  ·have c4:k=0:=by lia
   subst c4;simp
 unfold eN;rw[e,dh,qL];by_cases c:k=l.length
 ·rw[if_pos (by simp[c]),cy (by lia)]
 ·rw[if_neg (by simp; exact c)];show(⟨_⟩:aA)=⟨_⟩
  congr 1
  congr 1
  refine gQ λi=>?_;rw[jy];have h2:(bJ k).filterMap (λj=>(txt l).cps[j]?)=l.take k:=by
   have:∀ m,m<=l.length->(bJ m).filterMap (λj=>(txt l).cps[j]?)=l.take m:=by
    intro m
    induction m with
    | zero=>intro _; simp
    | succ m ih =>
     intro hm;rw[iD,iN,ih (by lia),bL]
     congr 1
     rw[aj (by lia)];simp[txt,cM,show m<l.length by lia]
   exact this k h
  rw[h2,jy]
theorem zQ2(l:List Nat)(k:Nat)(h:k<=l.length):eN (txt l) (some (k:Int)) none=txt (l.drop k):=by
 have e:du (some (k:Int)) none 1 (txt l).length=(bJ (l.length-k)).map (k + ·):=by
  unfold du sliceRange;rw[qL];have c1:¬ ((k:Int)<0):=by lia
  have c2:max 0 (min (k:Int) (l.length:Int))=k:=by lia
  simp only[c1,if_false,show(1:Int)>0 by decide,if_true,c2];by_cases z:(k:Int)<l.length
  ·rw[if_pos z];have c3:(((l.length:Int)-k+1-1)/1).toNat=l.length-k:=by lia
   rw[c3];refine hW (by simp) λi h1 h2=>?_;simp;lia
  ·have c4:l.length-k=0:=by lia
   rw[if_neg z,c4];rfl
 unfold eN;rw[e,ac,dh,qL];by_cases c:k=0
 ·subst c;rw[if_pos (by simp)];rfl
 ·by_cases c0:l.length=0
  ·have:l=[]:=fj.mp c0;subst this;rw[if_pos (by simp)];rw[List.drop_nil]
  rw[if_neg (by simp; lia)];show(⟨_⟩:aA)=⟨_⟩
  congr 1
  congr 1
  have:∀ m,m<=l.length-k->((bJ m).map (k + ·)).filterMap (λj=>(txt l).cps[j]?)=(l.drop k).take m:=by
   intro m
   induction m with
   | zero=>intro _; simp
   | succ m ih =>
    intro hm;rw[iD,aG,iN,ih (by lia),bL]
    congr 1
    rw[List.getElem?_drop,aj (by lia)];simp[txt,cM,show k+m<l.length by lia]
  rw[this _ (al _),cy (by simp)]
theorem zV3{l:List Nat}{p c:Nat}(h:p<l.length):l.take p++[c]++l.drop (p+1)=l.set p c:=by
 rw[List.set_eq_take_append_cons_drop,if_pos h];simp
theorem zUn{l:List Nat}{p c:Nat}(h:p<l.length):eN (txt l) none (some (p:Int))++chS c++eN (txt l) (some ((p:Int)+1)) none=txt (l.set p c):=by
 rw[zP8 l p (by lia),show((p:Int)+1)=((p+1:Nat):Int) from rfl,zQ2 l (p+1) (by lia)];show txt _++txt [c]++txt _=_;rw[zJd,zJd,zV3 h]
theorem zQt{l:List Nat}(h1:1<=l.length)(h8:l.length<=8)(h:∀ c∈l,97<=c/\c<=122):wG (txt l):=⟨by rw[qL]; exact h1,by rw[qL]; exact h8,λc hc=>h c (by simpa [txt] using hc)⟩
theorem zYf{l:List Nat}{p r:Nat}(hp:p<l.length){ws:List aA}(hw:ws.length<26):¬ ∀ j,j<26->txt (l.set p (97+(r+j)%26))∈ws:=λh=>by
 have nd:((bJ 26).map λj=>txt (l.set p (97+(r+j)%26))).Nodup:=by
  refine dB.mpr (jQ.mpr ?_);refine mr ?_ (dB.mp kG);intro a b ha hb ne z;have ha:=bZ.mp ha;have hb:=bZ.mp hb;have z:=zZq z;have z:=congrArg (λm:List Nat=>m[p]?) z;simp only[fk hp,gT] at z;lia
 have:=nd.length_le_of_subset (l₂:=ws) λx hx=>by
  obtain⟨j,hj,rfl⟩:=aC.mp hx;exact h j (bZ.mp hj)
 rw[ac,dh] at this;lia
theorem zXp(x y:aA):eqV (.str x) (.str y)=decide (x=y):=by
 unfold eqV
 first
  | rfl
  | simp
  | (by_cases h:x=y <;> simp[h])
theorem zY5(x:aA)(ns:List aA):inV (.str x) (ns.map V.str)=decide (x∈ns):=by
 unfold inV
 induction ns with
 | nil=>simp
 | cons y ns ih =>
  rw[aQ,cD,ih,zXp];by_cases h:x=y
  ·subst h; simp
  ·simp[h,cm h]
theorem zKr(ns:List aA):(ns.map V.str).all zI3=true:=by
 rw[jR];exact bH.mpr λ_ _=>rfl
end Sea

namespace Sea
open PySem L2
def lwK(m b r n:af)(k:Int):List (Key×V):=[(.inr "marks",.ref m),(.inr "banks",.ref b),(.inr "runs",.ref r),(.inr "notes",.ref n),(.inr "next",.int k)]
section
variable{m b r n c:af}{k j:Int}
theorem yS:wL (lwK m b r n k) (.inr "marks")=some (.ref m):=by kernel_rfl
theorem qW:wL (lwK m b r n k) (.inr "banks")=some (.ref b):=by kernel_rfl
theorem uL:wL (lwK m b r n k) (.inr "runs")=some (.ref r):=by kernel_rfl
theorem vA:wL (lwK m b r n k) (.inr "notes")=some (.ref n):=by kernel_rfl
theorem qQ:wL (lwK m b r n k) (.inr "next")=some (.int k):=by kernel_rfl
theorem zGl:rE (lwK m b r n k) (.inr "next") (.int j)=lwK m b r n j:=by kernel_rfl
end
structure LwA(H:Hp)(d m b r n:af)(S:BS):Prop where
 at_:Rd H d (.dK (lwK m b r n S.coming))
 ma:zA4 H m (mkE S.marks)
 ba:zA4 H b (bkE S.banks)
 ru:∃ rs,H r=some (.lst rs)/\wC H (S.runs.map ptD) rs
 no:zA4 H n (ntE S.notes)
def zSz(H:Hp)(d:af)(S:BS):Prop:=∃ m b r n,LwA H d m b r n S
section
variable{φ:af->Prop}{H H1:Hp}{d m b r n:af}{S:BS}
theorem LwA.samE(h:LwA H d m b r n S)(s:yR φ H H1)(nd:∀ a kvs,Rd H a (.dK kvs)->¬ φ a)(np:∀ a xs,H a=some (.tup xs)->¬ φ a)(nl:∀ xs,H r=some (.lst xs)->¬ φ r):LwA H1 d m b r n S :=
 ⟨s.rd (nd _ _ h.at_) h.at_,h.ma.samE s nd np,h.ba.samE s nd np,let ⟨rs,h1,h2⟩:=h.ru;⟨rs,s.lst (nl _ h1) h1,h2.sam s np⟩,h.no.samE s nd np⟩
theorem LwA.to(h:LwA H d m b r n S)(s:Sam H H1):LwA H1 d m b r n S:=h.samE s (λ_ _ _=>id) (λ_ _ _=>id) (λ_ _=>id)
theorem zSz.to(h:zSz H d S)(s:Sam H H1):zSz H1 d S:=let ⟨m,b,r,n,q⟩:=h;⟨m,b,r,n,q.to s⟩
end
end Sea

namespace L2
open PySem PySem.Spec PyProof.Rows
theorem zP7{ns:List aA} : ∀{us:List ag},yV (ns.map V.str) us->StrsAre us ns:=by
 induction ns with
 | nil=>intro us r; rw[fq] at r; cases r; exact .nil
 | cons n ns ih =>
  intro us r;rw[aQ] at r;cases r with
  | cons r1 r2 =>
   obtain⟨t,e⟩:=r1;subst e;exact .cons n t (ih r2)
theorem yc6:∀{vs:List ag}{ns:List aA},StrsAre vs ns->yV (ns.map V.str) vs
 | _,_,.nil=>.nil
 | _,_,.cons n t h=>.cons ⟨t,rfl⟩ (yc6 h)
section
variable{X:Cx}
theorem zLk:uS X (.builtin "sorted") (λxs H Q=>∃(l:af)(ns:List aA),xs=[.ref l]/\SqL X.K H l (ns.map V.str)/\ns.length<64 /\
  ∀(p:af)(ms:List aA),H p=none->ms.Perm ns->sortedS ms=true->Q (.ref p) (upd H p (.lst (ms.map V.str)))):=by
 intro pins s σ H xs us Q I r h;obtain⟨l,ns,rfl,hq,h64,q⟩:=h;obtain⟨u,rfl,ru⟩:=yV.one r;cases ru;obtain⟨its,rv,pl,hz⟩:=I.list hq;have hn:=rv.length;rw[ac] at hn;refine sorted_strs (ss:=ns) pl.isList (zP7 rv) (by lia) λout ms a1 a2 a3=>?_;obtain⟨e,at'⟩:=sortedAll_at s.heap its out;have fr:H (s.heap.objs.size+1)=none:=I.hok.fresh (dZ _);refine⟨.ref (s.heap.objs.size+1),_,I.laid (t':=s.toks) (a:=s.heap.objs.size+1) (o:=.lst (ms.map V.str)) (λb ob q=>sortedAll_old q) (dZ _) ?_,U,q _ ms fr a2 a3⟩;refine⟨?_,out.toList,e,yc6 a1,by simpa using at'⟩;rw[ac,a2.length_eq];exact aJ (dL h64) (by rw[sizeLine_eq]; decide)
end
def zBq(v d:af)(h:aV):Prop:=h.IsItemsView v d
section
variable{X:Cx}{l:bu}{te:TE}{apos pos:eS}
def ya9(te:TE):TE:=λσ H Q=>te σ H λx H1=>∃(d:af)(kvs:List (Key×V)),x=.ref d/\Rd H1 d (.dK kvs)/\∀ v,H1 v=none->Q (.ref v) (upd H1 v (.ext (zBq v d)))
theorem zE8(hl:PE X l te)(hbase:attributeBase l "items" X.env (eval l X.env)=eval l X.env:=by rfl)(hline:(apos.endLine == pos.line)=true:=by rfl):PE X (.Call (.Attribute l "items" apos) [] [] pos) (ya9 te):=by
 intro pins s σ H Q I h;refine fu (T := "dict") (id := "dict.items") hbase rfl hline gS fw jS (thn (hl pins s σ H _ I h) λv s1 ⟨x,H1,I1,r1,d,kvs,e,hd,q⟩=>?_);subst e;cases r1;obtain⟨hz,ns,vs,rel,da⟩:=hd.ok I1.hok;exists da.typeIs,da.mapOf.noDict;show wpAny _ _ (callWith pos (.builtin "dict.items") [.ref d] [] []) _ _ s1;refine method_meetsIn fw jz rfl (fZ ⟨rfl,da.typeIs,jb _,_,meets_dict_items (yK X.prog X.w) d ns,⟨vs,da⟩,?_⟩);refine⟨.ref s1.heap.objs.size,_,I1.laid (t':=s1.toks) (a:=s1.heap.objs.size) (o:=.ext (zBq s1.heap.objs.size d)) (λb o e=>ah _ e) (al _) ⟨⟨_,ap _ rfl,U,U⟩,⟨_,ap _ rfl⟩,λh1 h2 ⟨o,e,c⟩ k=>⟨o,k o e,c⟩⟩,U,q _ (I1.hok.fresh (al _))⟩
end
theorem Inv.more{X:Cx}{pins:List (af×cz)}{σ:St}{H:Hp}{s:ai}{a:af}{o:HO}(I:Inv X pins σ H s)(f:zNn X pins H a)(new:xD X.prog X.w (upd H a o) s.heap a o):Inv X pins σ (upd H a o) s:=by
 obtain⟨f0,f1,f2,f3,f4,f5⟩:=f;have nk:∀{b:af}{u:HO},H b=some u->upd H a o b=some u:=λ{b u} e=>by
  rw[zH (λz=>by rw[z,f0] at e; cases e)];exact e
 have nn:∀{b:af},b≠a->H b=none->upd H a o b=none:=λ{b} n e=>by rw[zH n]; exact e
 have lo:∀{b:af}{u:cz},X.s₀.heap.get? b=some u->b ∉ X.ex->b≠a:=λ{b u} e hx z=>by
  rcases f3 with q | q
  ·exact hx (by rw[z]; exact q)
  ·exact absurd (aw e) (Nat.not_lt.mpr (by rw[z]; exact q))
 refine⟨I.ok,I.os,I.bare,⟨I.base.keep,I.base.slot,λb u e n hx=>nn (lo e hx) (I.base.free b u e n hx),I.base.there,λb xs e=>nk (I.base.tups b xs e),λb u v e=>nk (I.base.frzs b u v e),
  λb ps e=>let ⟨more,q⟩:=I.base.tbls b ps e;⟨more,nk q⟩⟩,I.loc,I.cell,nn (cm f1) I.free,λx c e=>nn (f4 x c e) (I.freeC x c e),λp hp=>?_,λb u e=>?_,I.len⟩
 ·obtain⟨h1,h2,h3⟩:=I.pin p hp;exact⟨h1,nn (f5 p hp) h2,h3⟩
 ·by_cases eb:b=a
  ·subst eb;rw[zA] at e;cases e;exact new
  ·rw[zH eb] at e;exact(I.hok b u e).stay (λc v _ q=>q) (λc q=>nk q) λc xs q=>nk q
section
open PySem.W
variable{X:Cx}{pins:List (af×cz)}{σ:St}{H:Hp}{s:ai}
theorem Inv.tuples{lo:af} : ∀{as:List af}{H:Hp}(xss:List (List V)),Inv X pins σ H s->as.Pairwise (· < ·)->(∀ a∈as,zNn X pins H a)->as.length=xss.length->(∀(j:Nat)(a:af)(xs:List V),as[j]?=some a->xss[j]?=some xs->∀ H',xD X.prog X.w H' s.heap a (.tup xs)) ->
  ∃ H2,Inv X pins σ H2 s/\Same H H2/\(∀(j:Nat)(a:af)(xs:List V),as[j]?=some a->xss[j]?=some xs->H2 a=some (.tup xs))/\∀ b,b ∉ as->H2 b=H b
 | [],H,[],I,_,_,_,_=>⟨H,I,Same.refl _,λj a xs e=>by simp at e,λ_ _=>rfl⟩
 | [],_,_::_,_,_,_,hl,_=>by simp at hl
 | _::_,_,[],_,_,_,hl,_=>by simp at hl
 | a::as,H,xs::xss,I,hr,hf,hl,ho=>by
  have fa:=hf a (.head _);have hr':=List.pairwise_cons.mp hr;have I1:=I.more (o:=.tup xs) fa (ho 0 a xs rfl rfl _);obtain⟨H2,I2,s2,g2,n2⟩:=Inv.tuples (lo:=lo) (as:=as) xss I1 hr'.2 (λb hb=>by
   obtain⟨f0,f1⟩:=hf b (.tail _ hb);exact⟨by rw[zH (d3 (hr'.1 b hb))]; exact f0,f1⟩) (by simpa using hl) (λj b ys e1 e2=>ho (j+1) b ys (by simpa using e1) (by simpa using e2))
  refine⟨H2,I2,(zC fa.1 _).trans s2,λj b ys e1 e2=>?_,λb hb=>?_⟩
  ·cases j with
   | zero =>
    simp at e1 e2;subst e1 e2;exact s2 _ _ zA
   | succ j=>exact g2 j b ys (by simpa using e1) (by simpa using e2)
  ·rw[n2 b (λz=>hb (.tail _ z)),zH (λz=>hb (by rw[z]; exact .head _))]
end
end L2

namespace Sea
open PySem L2
section
variable{H H1:Hp}
theorem zCw:∀{l:List (Int×Deed)}{kvs:List (Key×V)},xO H kvs (ntE l)->∃ ks:List (Int×V),kvs=ks.map (λe=>(.inl e.1,e.2))/\ks.map (·.1)=l.map (·.1)/\wC H (l.map (·.2.dt)) (ks.map (·.2))
 | [],_,h=>⟨[],h.nil_iff,rfl,yF.mpr rfl⟩
 | (n,D)::l,_,h=>by
  obtain⟨v,r,rfl,h1,h2⟩:=xO.cons_iff.mp h;obtain⟨ks,rfl,e,h3⟩:=zCw (l:=l) h2;exact⟨(n,v)::ks,U,by rw[aQ,aQ,e],zL.mpr ⟨v,_,U,h1,h3⟩⟩
theorem zJf:∀{l:List (aA×Int×Int)}{kvs:List (Key×V)},xO H kvs (mkE l)->kvs.map (λkv=>kV kv.1)=(l.map (·.1)).map V.str
 | [],_,h=>by rw[h.nil_iff]; rfl
 | (n,p)::l,_,h=>by
  obtain⟨v,r,rfl,h1,h2⟩:=xO.cons_iff.mp h;rw[aQ,zJf h2];rfl
structure NotesAt(H:Hp)(as:List af)(l:List (Int×Deed)):Prop where
 len:as.length=l.length
 at_:∀(j:Nat)(a:af)(e:Int×Deed),as[j]?=some a->l[j]?=some e->∃ v,H a=some (.tup [.int e.1,v])/\Rep H e.2.dt v
def ye2(S:BS):Prop:=(S.notes.map (·.1)).Pairwise (· < ·)
theorem zIj{S:BS}{n:aA}{p:Int×Int}(h:zQ S n=some p):(n,p)∈S.marks:=by
 unfold zQ at h;rw[aH] at h;obtain⟨e,h1,rfl⟩:=h;have h2:=List.find?_some h1;have e1:e.1=n:=of_decide_eq_true h2;rw[<- e1];exact List.mem_of_find?_eq_some h1
theorem zRh{S:BS}{n:aA}(h:n∈S.marks.map (·.1)):∃ p,zQ S n=some p:=by
 obtain⟨e,h1,h2⟩:=aC.mp h;unfold zQ;cases q:S.marks.find? λe=>decide (e.1=n) with
 | none=>exact absurd (d5.mp q e h1) (by simp[h2])
 | some e'=>exact⟨e'.2,U⟩
theorem zFq{S:BS}{m:af}{n:aA}{p:Int×Int}(h:zA4 H m (mkE S.marks))(e:zQ S n=some p):∃(kvs:List (Key×V))(a:af),Rd H m (.dK kvs)/\wL kvs (.inr n)=some (.ref a)/\H a=some (.tup [.int p.1,.int p.2]):=by
 obtain⟨kvs,h1,h2⟩:=h;obtain⟨v,g,r⟩:=h2.get (k:=.inr n) (d:=ptD p) (by rw[wT,e]; rfl);obtain⟨a,rfl,ha⟩:=zBv r;exact⟨kvs,a,h1,g,ha⟩
theorem zIy:∀{l:List (Int×Int)}{k i:Nat}{p:Int×Int},l[i]?=some p->look ((l.zipIdx k).map λe=>((.inl (e.2:Int):Key),ptD e.1)) (.inl ((k+i:Nat):Int))=some (ptD p)
 | [],_,_,_,e=>by simp at e
 | q::l,k,0,p,e=>by
  simp at e;subst e;simp[look,cW]
 | q::l,k,i+1,p,e=>by
  have ih:=zIy (l:=l) (k:=k+1) (i:=i) (p:=p) (by simpa using e);rw[cW,aQ];unfold look at ih ⊢;rw[bR,decide_eq_false (by intro z; injection z with z; simp at z; lia)];rw[show k+1+i=k+(i+1) by lia] at ih;exact ih
theorem zWh{S:BS}{r:af}{i:Nat}{p:Int×Int}(h:zA4 H r (rnE S.runs))(e:S.runs[i]?=some p):∃(kvs:List (Key×V))(a:af),Rd H r (.dK kvs)/\wL kvs (.inl (i:Int))=some (.ref a)/\H a=some (.tup [.int p.1,.int p.2]):=by
 obtain⟨kvs,h1,h2⟩:=h;have:=zIy (k:=0) e;rw[iq] at this;obtain⟨v,g,r⟩:=h2.get (k:=.inl (i:Int)) (d:=ptD p) this;obtain⟨a,rfl,ha⟩:=zBv r;exact⟨kvs,a,h1,g,ha⟩
end
section
variable{H H1:Hp}{S:BS}
structure MarksAt(H:Hp)(S:BS)(as:List af)(ms:List aA):Prop where
 mk ::
 len:as.length=ms.length
 at_:∀(j:Nat)(a:af)(n:aA),as[j]?=some a->ms[j]?=some n->∃ p:Int×Int,zQ S n=some p/\H a=some (.tup [.str n,.int p.1,.int p.2])
theorem uT{D:af}{u o:HO}(eD:H D=some u):yR (λx=>x=D) H (upd H D o):=λx o hx e=>.inl (by rw[zH hx]; exact e)
theorem zIe{D:af}{zs:List V}(eD:H D=some (.lst zs)):∀ b xs,H b=some (.tup xs)->¬ b=D:=λb xs e z=>by rw[z,eD] at e; cases e
end
end Sea

namespace Sea
open PySem L2
structure yc5(H:Hp)(as:List af)(rows:List (List Int)):Prop where
 mk ::
 len:as.length=rows.length
 at_:∀(j:Nat)(a:af)(r:List Int),as[j]?=some a->rows[j]?=some r->H a=some (.tup (r.map V.int))
def vZ(S:BS)(n:aA):Int×Int:=(zQ S n).getD (0,0)
def sidesN(S:BS):Deed->List (List Int)
 | .bearing _ n a b c d=>[zQ6 [-b,a,a*(vZ S n).2-b*(vZ S n).1],zQ6 [d,-c,(vZ S n).1*d-(vZ S n).2*c]]
 | .range _ l r=>[zQ6 [(vZ S l).2-(vZ S r).2,(vZ S r).1-(vZ S l).1,(vZ S r).1*(vZ S l).2-(vZ S r).2*(vZ S l).1]]
 | _=>[]
def zCe(S:BS):Deed->Prop
 | .bearing m n a b c d=>0<=m/\m<=S.runs.length/\(zQ S n).isSome=true/\zDx (a,b)/\zDx (c,d)
 | .range m l r=>0<=m/\m<=S.runs.length/\(zQ S l).isSome=true/\(zQ S r).isSome=true/\zQ S l≠zQ S r
 | _=>False
structure zZy(S:BS):Prop where
 few:Few S
 fresh:zUm S
 rise:ye2 S
 mk_:∀ e∈S.marks,zD3 e.2
 way:∀ e∈S.runs,zD3 e
 note:∀ e∈S.notes,zCe S e.2
structure GroupsAt(H0 H:Hp)(gs:List af)(rows:List (List (List Int))):Prop where
 mk ::
 len:gs.length=rows.length
 new:∀ g∈gs,H0 g=none
 at_:∀(j:Nat)(g:af)(r:List (List Int)),gs[j]?=some g->rows[j]?=some r->∃ as:List af,H g=some (.lst (as.map V.ref))/\yc5 H as r
theorem zRm(a b c:V):zD8 [] [(.inr "marks",a),(.inr "banks",b),(.inr "runs",c)]=[(.inr "marks",a),(.inr "banks",b),(.inr "runs",c)]:=by kernel_rfl
theorem zXo(a b c d:V):rE [((.inr "marks" : Key),a),(.inr "banks",b),(.inr "runs",c)] (.inr "notes") d=[(.inr "marks",a),(.inr "banks",b),(.inr "runs",c),(.inr "notes",d)]:=by kernel_rfl
theorem zYz(a b c d e:V):rE [((.inr "marks" : Key),a),(.inr "banks",b),(.inr "runs",c),(.inr "notes",d)] (.inr "next") e=[(.inr "marks",a),(.inr "banks",b),(.inr "runs",c),(.inr "notes",d),(.inr "next",e)]:=by kernel_rfl
theorem zHe{H:Hp}{D:af}{kvs:List (Key×V)}(eD:H D=some (.dK kvs)):∀ b xs,H b=some (.tup xs)->¬ b=D:=λb xs e z=>by rw[z,eD] at e; cases e
theorem zG0{H:Hp}{w p q:af}{m:Int}{n:aA}{a b c d:Int}(hw:H w=some (.tup [.str "bearing",.int m,.str n,.ref p,.ref q]))(hp:H p=some (.tup [.int a,.int b]))(hq:H q=some (.tup [.int c,.int d])):Rep H (Deed.bearing m n a b c d).dt (.ref w) :=
 yD.mpr ⟨w,_,rfl,hw,zL.mpr ⟨_,_,rfl,zU.mpr rfl,zL.mpr ⟨_,_,rfl,zZ.mpr rfl,zL.mpr ⟨_,_,rfl,zU.mpr rfl,.two (vO (p:=(a,b)) hp) (vO (p:=(c,d)) hq)⟩⟩⟩⟩
theorem zGq{H:Hp}{w:af}{m:Int}{l r:aA}(hw:H w=some (.tup [.str "range",.int m,.str l,.str r])):Rep H (Deed.range m l r).dt (.ref w) :=
 yD.mpr ⟨w,_,rfl,hw,zL.mpr ⟨_,_,rfl,zU.mpr rfl,zL.mpr ⟨_,_,rfl,zZ.mpr rfl,.two (zU.mpr rfl) (zU.mpr rfl)⟩⟩⟩
theorem zOo{H:Hp}{w:af}{n:aA}{x y:Int}(hw:H w=some (.tup [.str "mark",.str n,.int x,.int y])):Rep H (Deed.mark n x y).dt (.ref w) :=
 yD.mpr ⟨w,_,rfl,hw,zL.mpr ⟨_,_,rfl,zU.mpr rfl,zL.mpr ⟨_,_,rfl,zU.mpr rfl,.two (zZ.mpr rfl) (zZ.mpr rfl)⟩⟩⟩
theorem zIa{H:Hp}{w:af}{k:Int}(hw:H w=some (.tup [.str "strike",.int k])):Rep H (Deed.strike k).dt (.ref w) :=
 yD.mpr ⟨w,_,rfl,hw,.two (zU.mpr rfl) (zZ.mpr rfl)⟩
theorem zPm{H:Hp}{w:af}{x y:Int}(hw:H w=some (.tup [.str "sail",.int x,.int y])):Rep H (Deed.sail x y).dt (.ref w) :=
 yD.mpr ⟨w,_,rfl,hw,zL.mpr ⟨_,_,rfl,zU.mpr rfl,.two (zZ.mpr rfl) (zZ.mpr rfl)⟩⟩
end Sea

namespace Sea
open PySem L2
theorem rN{S:BS}{n:aA}{e:aA×Int×Int}(h:(zQ S n).isSome=true):zQ { S with marks:=S.marks++[e] } n=zQ S n:=by
 unfold zQ at h ⊢;dsimp only;rw[List.find?_append];cases q:S.marks.find? λe=>decide (e.1=n) with
 | none=>rw[q] at h; simp at h
 | some e'=>rfl
theorem zQl{S:BS}{D:Deed}{e:aA×Int×Int}(h:zCe S D):zCe { S with marks:=S.marks++[e] } D:=by
 match D,h with
 | .bearing m n a b c d,h=>exact⟨h.1,h.2.1,by rw[rN h.2.2.1]; exact h.2.2.1,h.2.2.2⟩
 | .range m l r,h=>exact⟨h.1,h.2.1,by rw[rN h.2.2.1]; exact h.2.2.1,by rw[rN h.2.2.2.1]; exact h.2.2.2.1,by rw[rN h.2.2.1,rN h.2.2.2.1]; exact h.2.2.2.2⟩
theorem zSh{S:BS}{D:Deed}{e:Int×Int}(h:zCe S D):zCe { S with runs:=S.runs++[e] } D:=by
 match D,h with
 | .bearing m n a b c d,h=>exact⟨h.1,by have:=h.2.1; dsimp only; rw[aF]; simp only[aU,cO]; lia,h.2.2⟩
 | .range m l r,h=>exact⟨h.1,by have:=h.2.1; dsimp only; rw[aF]; simp only[aU,cO]; lia,h.2.2⟩
theorem zDg{S:BS}{D:Deed}{l:List (Int×Deed)}{k:Int}(h:zCe S D):zCe { S with notes:=l,coming:=k } D:=by
 match D,h with
 | .bearing m n a b c d,h=>exact h
 | .range m l r,h=>exact h
theorem zVz:zZy BS.nil:=⟨⟨by decide,by decide,by decide,by decide⟩,λe he=>(nomatch he),.nil,λe he=>(nomatch he),λe he=>(nomatch he),λe he=>(nomatch he)⟩
theorem zMh{S:BS}{D:Deed}(g:zZy S)(kn:zCe S D)(l:S.notes.length<24):zZy { S with notes:=S.notes++[(S.coming,D)],coming:=S.coming+1 }:=by
 refine⟨⟨g.few.ma,g.few.ba,g.few.ru,by show(S.notes++[_]).length<=60; rw[aF]; simp only[aU,cO]; lia⟩,λe he=>?_,?_,g.mk_,g.way,λe he=>?_⟩
 ·rcases aS.mp he with z | z
  ·have:=g.fresh e z;show e.1<S.coming+1;lia
  ·rw[au.mp z];show S.coming<S.coming+1;lia
 ·show((S.notes++[(S.coming,D)]).map (·.1)).Pairwise (· < ·);rw[aG,List.pairwise_append];refine⟨g.rise,List.pairwise_singleton _ _,λx hx y hy=>?_⟩;obtain⟨e,he,rfl⟩:=aC.mp hx;rw[au.mp hy];exact g.fresh e he
 ·rcases aS.mp he with z | z
  ·exact zDg (g.note e z)
  ·rw[au.mp z];exact zDg kn
theorem zDl{n k:aA}{x y:Int} : ∀{l:List (aA×Int×Int)},((l.map λe=>if e.1=n then(e.1,x,y) else e).find? λe=>decide (e.1=k)).map (·.2)=((l.find? λe=>decide (e.1=k)).map (·.2)).map λp=>if k=n then(x,y) else p
 | []=>rfl
 | (m,p)::l=>by
  rw[aQ,bR,bR];by_cases e1:m=n
  ·rw[if_pos e1];by_cases e2:m=k
   ·subst e1 e2;simp
   ·rw[decide_eq_false (show ¬ (m,x,y).1=k from e2)];exact zDl
  ·rw[if_neg e1];by_cases e2:m=k
   ·subst e2;simp[e1]
   ·rw[decide_eq_false (show ¬ (m,p).1=k from e2)];exact zDl
theorem vQ{S:BS}{n k:aA}{x y:Int} : zQ (aft S (.move n x y)) k=(zQ S k).map λp=>if k=n then(x,y) else p:=zDl
theorem uI{S:BS}{n k:aA}(h:k≠n):zQ (aft S (.unmark n)) k=zQ S k:=by
 unfold zQ;show(List.find? _ (S.marks.filter _)).map _=_;rw[List.find?_filter]
 congr 2
 funext e
 by_cases z:e.1=k
 ·simp[z,h]
 ·simp[z]
theorem vU{S:BS}{n k:aA}{x y:Int}(h:(zQ S k).isSome=true):(zQ (aft S (.move n x y)) k).isSome=true:=by
 rw[vQ,bW];exact h
theorem zQr{S:BS}{D:Deed}{n:aA}{x y:Int}(h:zCe S D)(g:zDe (aft S (.move n x y)) D):zCe (aft S (.move n x y)) D:=by
 match D,h,g with
 | .bearing m k a b c d,h,_=>exact⟨h.1,h.2.1,vU h.2.2.1,h.2.2.2⟩
 | .range m l r,h,⟨p,u,e1,e2,ne⟩=>exact⟨h.1,h.2.1,vU h.2.2.1,vU h.2.2.2.1,by rw[e1,e2]; exact λz=>ne (a7 z)⟩
theorem zMa{S:BS}{D:Deed}{n:aA}(h:zCe S D)(g:rO n D):zCe (aft S (.unmark n)) D:=by
 match D,h,g with
 | .bearing m k a b c d,h,g=>exact⟨h.1,h.2.1,by rw[uI g]; exact h.2.2.1,h.2.2.2⟩
 | .range m l r,h,g=>exact⟨h.1,h.2.1,by rw[uI g.1]; exact h.2.2.1,by rw[uI g.2]; exact h.2.2.2.1,by rw[uI g.1,uI g.2]; exact h.2.2.2.2⟩
theorem zDp{S S':BS}{D:Deed}(h:zCe S D)(e1:S'.marks=S.marks)(e2:S'.runs.length=S.runs.length):zCe S' D:=by
 have e:∀ n,zQ S' n=zQ S n:=λn=>by unfold zQ; rw[e1]
 match D,h with
 | .bearing m k a b c d,h=>exact⟨h.1,by rw[e2]; exact h.2.1,by rw[e]; exact h.2.2.1,h.2.2.2⟩
 | .range m l r,h=>exact⟨h.1,by rw[e2]; exact h.2.1,by rw[e]; exact h.2.2.1,by rw[e]; exact h.2.2.2.1,by rw[e,e]; exact h.2.2.2.2⟩
theorem zU7{S:BS}{D:Deed}(g:zZy S)(ok:okD S D):zZy (aft S D):=by
 match D,ok with
 | .mark n x y,ok =>
  refine⟨⟨by show(S.marks++[_]).length<=60; rw[aF]; have:=ok.2.2.2; simp only[aU,cO]; lia,g.few.ba,g.few.ru,g.few.no⟩,g.fresh,g.rise,λe he=>?_,g.way,λe he=>zQl (g.note e he)⟩;rcases aS.mp he with z | z
  ·exact g.mk_ e z
  ·rw[au.mp z];exact ok.2.2.1
 | .sail x y,ok =>
  refine⟨⟨g.few.ma,g.few.ba,by show(S.runs++[_]).length<=60; rw[aF]; have:=ok.2; simp only[aU,cO]; lia,g.few.no⟩,g.fresh,g.rise,g.mk_,λe he=>?_,λe he=>zSh (g.note e he)⟩;rcases aS.mp he with z | z
  ·exact g.way e z
  ·rw[au.mp z];exact ok.1
 | .bearing m n a b c d,ok=>exact zMh g ⟨ok.1,ok.2.1,ok.2.2.1,ok.2.2.2.1,ok.2.2.2.2.1⟩ ok.2.2.2.2.2.2
 | .range m l r,ok=>exact zMh g ⟨ok.1,ok.2.1,ok.2.2.1,ok.2.2.2.1,ok.2.2.2.2.1⟩ ok.2.2.2.2.2
 | .move n x y,ok =>
  refine⟨⟨by show(S.marks.map _).length<=60; rw[ac]; exact g.few.ma,g.few.ba,g.few.ru,g.few.no⟩,g.fresh,g.rise,λe he=>?_,g.way,λe he=>zQr (g.note e he) (ok.2.2 e he)⟩;obtain⟨e',h1,rfl⟩:=aC.mp he;by_cases z:e'.1=n
  ·rw[if_pos z];exact ok.2.1
  ·rw[if_neg z];exact g.mk_ e' h1
 | .unmark n,ok =>
  exact⟨⟨aJ (dE _ _) g.few.ma,g.few.ba,g.few.ru,g.few.no⟩,g.fresh,g.rise,λe he=>g.mk_ e (dI.mp he).1,g.way,λe he=>zMa (g.note e he) (ok.2 e he)⟩
 | .bank n cs,ok =>
  exact⟨⟨g.few.ma,by show(S.banks++[_]).length<=60; rw[aF]; have:=ok.2.2.2.2; simp only[aU,cO]; lia,g.few.ru,g.few.no⟩,g.fresh,g.rise,g.mk_,g.way,λe he=>zDp (g.note e he) rfl rfl⟩
 | .level n,_ =>
  exact⟨⟨g.few.ma,aJ (dE _ _) g.few.ba,g.few.ru,g.few.no⟩,g.fresh,g.rise,g.mk_,g.way,λe he=>zDp (g.note e he) rfl rfl⟩
 | .right k x y,ok =>
  refine⟨⟨g.few.ma,g.few.ba,by show(S.runs.set _ _).length<=60; rw[fP]; exact g.few.ru,g.few.no⟩,g.fresh,g.rise,g.mk_,λe he=>?_,λe he=>zDp (g.note e he) rfl (by show(S.runs.set _ _).length=_; rw[fP])⟩;rcases gK he with z | z
  ·exact g.way e z
  ·rw[z];exact ok.2.2
 | .strike k,_ =>
  refine⟨⟨g.few.ma,g.few.ba,g.few.ru,aJ (dE _ _) g.few.no⟩,λe he=>g.fresh e (dI.mp he).1,?_,g.mk_,g.way,λe he=>zDg (g.note e (dI.mp he).1)⟩;exact g.rise.sublist (jd.map _)
def zSj:BS->List Deed->Prop
 | _,[]=>True
 | S,D::r=>okD S D/\zSj (aft S D) r
def zZ2(S:BS)(l:List Deed):BS:=l.foldl aft S
def LwN(H0 H:Hp)(d:af)(S:BS):Prop:=∃ m b r n,H0 r=none/\LwA H d m b r n S
structure SmallN(no:List (Int×Deed))(k:Int)(i:Nat):Prop where
 mk ::
 len:no.length=i
 num:k=1+(i:Int)
 pos:∀ e∈no,1<=e.1
def fourK:Deed->Prop
 | .mark _ _ _ | .sail _ _ | .bearing _ _ _ _ _ _ | .range _ _ _=>True
 | _=>False
structure MarksN(S:BS):Prop where
 mk ::
 lo:3<=S.marks.length
 hi:S.marks.length<=5
 bd:∀ e∈S.marks,e.2.1.natAbs<=860/\e.2.2.natAbs<=860
 bk:S.banks=[]
end Sea

namespace Sea
open PySem L2
def stN(l:List (aA×Int×Int))(rs:List (Int×Int))(no:List (Int×Deed))(k:Int):BS:=⟨l,[],rs,no,k⟩
section
variable{l:List (aA×Int×Int)}{rs:List (Int×Int)}{no:List (Int×Deed)}{k:Int}
structure Done(Ds:List Deed)(l:List (aA×Int×Int))(rs:List (Int×Int))(no:List (Int×Deed))(k:Int):Prop where
 mk ::
 ok:zSj BS.nil Ds
 at_:zZ2 BS.nil Ds=stN l rs no k
 four:∀ D∈Ds,fourK D
end
theorem yd6{ms:List aA}{x:Int}(h:0<((ms.map V.str).length:Int)):∃ n,n∈ms/\atI (ms.map V.str) (x%((ms.map V.str).length:Int))=some (.str n):=by
 have h0:=bq x (show((ms.map V.str).length:Int)≠0 by lia);have h1:=aX x h;generalize x%((ms.map V.str).length:Int)=y at h0 h1;obtain⟨k,rfl⟩:=cj h0;have hk:k<ms.length:=by rw[ac] at h1; lia
 exact⟨ms[k],dw hk,zDm (by rw[av,aj hk]; rfl)⟩
end Sea

namespace L2
open PySem PySem.Spec PyProof.Rows
theorem zHi(o:cz)(f:Array ag->Array ag):(cZ f o).dict=o.dict:=by unfold cZ; split <;> rfl
def zM1(h base:aV)(e:af)(cls fl:ag):Prop :=
 ∃ oe vs T oT ts,h.get? e=some oe/\(oe.cls=cls/\oe.dict=none/\vs[2]?=some .none)/\oe.data=.fields vs/\vs[1]?=some (.ref T)/\base.get? T=none/\T≠e/\h.get? T=some oT/\oT.data=.fields ts/\ts[3]?=some fl
def uA(base:aV)(l:List fV)(e:af)(cls:ag)(h:aV):Prop:=base.StaysIn h/\base.get? e=none/\h.FunFrames base l/\zM1 h base e cls .none
def zVe(base:aV)(l:List fV)(e:af)(cls:ag)(L:af)(h:aV):Prop:=base.StaysIn h/\base.get? e=none/\h.FunFrames base l/\zM1 h base e cls (rawInt L)
def zL1(a:af)(cls:ag)(h:aV):Prop:=∃ ob vs,h.get? a=some ob/\ob.cls=cls/\ob.dict=none/\ob.data=.fields vs/\vs[2]?=some .none
theorem uA.there{base h:aV}{l:List fV}{e:af}{cls:ag}(x:uA base l e cls h):zL1 e cls h:=by
 obtain⟨_,_,_,oe,vs,_,_,_,he,hc,hd,_⟩:=x;exact⟨oe,vs,he,hc.1,hc.2.1,hd,hc.2.2⟩
section
variable{M:mC}{A:bD}{E:ag->ai->Prop}{s:ai}
theorem zXg{base:aV}{env:fV}{outer:List fV}{L e:af}{oe:cz}{vs:Array ag}{head:ag}{hadNext:Bool}{Q:Unit->ai->Prop}
  (hfr:A.frames=some (env::outer)) (hl:s.heap.FunFrames base (env::outer)) (hf:env.frame=some L)
  (he:s.heap.get? e=some oe) (hkb:base.StaysIn s.heap) (hen:base.get? e=none) (hd:oe.data=.fields vs) (hsz:1<vs.size) (hdi:oe.dict=none) (h0:vs[2]?=some .none)
  (h:∀ h',zVe base (env::outer) e oe.cls L h'->s.heap.UpToSlots h'->Q () { s with heap:=h' }) :
  wpAny M A (do let a <- frameOf env; let pl <- entryPlaceOf L hadNext; let b <- jf head a .none (rawInt L) .none pl; setField (.ref e) 1 b) Q E s:=by
 have hene:e ∉ (env::outer).filterMap (·.frame):=λhm=>by
  obtain⟨_,o,ho,hnf⟩:=hl.mem hm;rw[he] at ho; injection ho with ho; subst ho; exact hnf vs hd
 refine aa (wpAny_frameOf_fun hfr hl hf λh₁ hs₁=>?_);refine aa (wpAny_entryPlaceOf λpl hpl=>?_);unfold jf newFields;refine aa (bj ?_ (hpl.sizeOk5 _ _ _ _ _));have he₁:h₁.get? e=some oe:=(hs₁.2.1 e hene).trans he;have kb₁:base.StaysIn h₁:=λb o hbo=>(hs₁.2.1 b λhm=>by rw[(hl.mem hm).1] at hbo; cases hbo).trans (hkb b o hbo);generalize hob:({ cls:=.type "traceback",dict:=none,data:=.fields ([head,.ref L,.none,rawInt L,.none]++(if pl.isEmpty then bz 6 bg else pl)).toArray } : cz)=ob;have hobf:ob.isFreed=false:=by rw[<- hob]; rfl
 have hobd:ob.data=.fields ([head,.ref L,.none,rawInt L,.none]++(if pl.isEmpty then bz 6 bg else pl)).toArray:=by rw[<- hob]
 have he₂:=ah (h:=h₁) ob he₁;refine c9 he₂ hd hsz (h _ ?_ ?_)
 ·have hTe:h₁.objs.size≠e:=d3 (aw he₁);have hd₃:=cv hd (·.setIfInBounds 1 (aI h₁.objs.size));have he₃:=cC (cZ (·.setIfInBounds 1 (aI h₁.objs.size))) he₂ (cS hd₃);have hT₃:=(aY (h₁.push ob) (cZ (·.setIfInBounds 1 (aI h₁.objs.size))) (cm hTe)).trans (ap h₁ hobf);have keep:∀ b o,b≠e->h₁.get? b=some o->((h₁.push ob).update e (cZ (·.setIfInBounds 1 (aI h₁.objs.size)))).get? b=some o:=λb o hbe hb=>by
   rw[aY _ _ (cm hbe)];exact ah _ hb
  have noRecord:∀ b o,s.heap.get? b=some o->(∀ vs,o.data≠.fields vs)->b≠e:=λb o hb hnf q=>by
   rw[q,he] at hb; injection hb with hb; subst hb; exact hnf vs hd
  refine⟨λb o hbo=>keep b o (λq=>by rw[q,hen] at hbo; cases hbo) (kb₁ b o hbo),hen,hl.of_keeps λb o hb hnf=>?_,?_⟩
  ·obtain⟨sl,hs⟩:=hs₁.2.2 b o hb;exact⟨_,keep b _ (noRecord b o hb hnf) hs,U⟩
  ·exact⟨_,_,h₁.objs.size,_,_,he₃,⟨eC _ _,by rw[zHi]; exact hdi,by rw[Array.getElem?_setIfInBounds_ne (by decide)]; exact h0⟩,hd₃,by simp[hsz],kb₁.fresh,hTe,hT₃,hobd,by first | (simp; done) | (rcases hpl with rfl | ⟨_,_,_,_,_,_,_,rfl⟩ <;> simp)⟩
 ·intro b o hb hnf;have hbe:b≠e:=λq=>by rw[q,he] at hb; injection hb with hb; subst hb; exact hnf vs hd
  obtain⟨sl,hs⟩:=hs₁.2.2 b o hb;exists sl;rw[aY _ _ (cm hbe)];exact ah _ hs
theorem zNo{base:aV}{env:fV}{outer:List fV}{L e:af}{oe:cz}{vs:Array ag}{Q:Unit->ai->Prop}
  (hfr:A.frames=some (env::outer)) (hl:s.heap.FunFrames base (env::outer)) (hf:env.frame=some L)
  (he:s.heap.get? e=some oe) (hkb:base.StaysIn s.heap) (hen:base.get? e=none) (hd:oe.data=.fields vs) (h1:vs[1]?=some .none) (hdi:oe.dict=none) (h0:vs[2]?=some .none)
  (h:∀ h',zVe base (env::outer) e oe.cls L h'->s.heap.UpToSlots h'->Q () { s with heap:=h' }):wpAny M A (noteFrame (.ref e) env) Q E s:=by
 unfold noteFrame;simp only[hf];refine aa (bG he hd h1 ?_);rw[if_neg (by decide)];exact zXg hfr hl hf he hkb hen hd (dC.mp h1).1 hdi h0 h
theorem zLa{base:aV}{env:fV}{outer:List fV}{L e:af}{cls:ag}{Q:Unit->ai->Prop}
  (hfr:A.frames=some (env::outer)) (hf:env.frame=some L) (hfl:uA base (env::outer) e cls s.heap)
  (h:∀ h',zVe base (env::outer) e cls L h'->s.heap.UpToSlots h'->Q () { s with heap:=h' }):wpAny M A (noteFrame (.ref e) env) Q E s:=by
 obtain⟨hkb,hen,hl,oe,vs,T,oT,ts,he,⟨hcls,hdi,h0⟩,hd,h1,hnT,hTe,hT,hdT,h3⟩:=hfl;subst hcls;unfold noteFrame;simp only[hf];refine aa (bG he hd h1 ?_);rw[if_pos (show(aI T != bg)=true from by simp)];refine aa (bG hT hdT h3 ?_);rw[if_neg (show ¬ ((bg == rawInt L)=true) from by simp[rawInt])];refine aa (c9 hT hdT (dC.mp h3).1 ?_);have other:∀ b,b≠T->(s.heap.update T (cZ (·.setIfInBounds 3 bg))).get? b=s.heap.get? b:=λb hb=>aY _ _ (cm hb);have noRecord:∀ b o,s.heap.get? b=some o->(∀ vs,o.data≠.fields vs)->b≠T:=λb o hb hnf q=>by
  rw[q,hT] at hb; injection hb with hb; subst hb; exact hnf ts hdT
 refine zXg hfr (hl.of_keeps λb o hb hnf=>⟨o,(other b (noRecord b o hb hnf)).trans hb,rfl⟩) hf ((other e (cm hTe)).trans he)
  (λb o hbo=>(other b λq=>by rw[q,hnT] at hbo; cases hbo).trans (hkb b o hbo)) hen hd (dC.mp h1).1 hdi h0
  λh' x1 x2=>h h' x1 λb o hb hnf=>x2 b o ((other b (noRecord b o hb hnf)).trans hb) hnf
theorem zSw{base:aV}{l:List fV}{e:af}{cls fl:ag}{Q:Unit->ai->Prop}(hh:base.StaysIn s.heap/\base.get? e=none/\s.heap.FunFrames base l/\zM1 s.heap base e cls fl)
  (h:∀ h',uA base l e cls h'->s.heap.UpToSlots h'->Q () { s with heap:=h' }):wpAny M A (setFlight (.ref e) none) Q E s:=by
 obtain⟨hkb,hen,hl,oe,vs,T,oT,ts,he,hcls,hd,h1,hnT,hTe,hT,hdT,h3⟩:=hh;have hsz3:3<ts.size:=(dC.mp h3).1;have other:∀ b,b≠T->(s.heap.update T (cZ (·.setIfInBounds 3 ((none:Option af).elim bg λf=>rawInt f)))).get? b=s.heap.get? b :=
  λb hb=>aY _ _ (cm hb)
 have noRecord:∀ b o,s.heap.get? b=some o->(∀ vs,o.data≠.fields vs)->b≠T:=λb o hb hnf q=>by
  rw[q,hT] at hb; injection hb with hb; subst hb; exact hnf ts hdT
 unfold setFlight;refine aa (bG he hd h1 ?_);rw[if_pos (show(aI T != bg)=true from by simp)];refine c9 hT hdT hsz3 (h _ ⟨λb o hbo=>(other b λq=>by rw[q,hnT] at hbo; cases hbo).trans (hkb b o hbo),hen,
  hl.of_keeps λb o hb hnf=>⟨o,(other b (noRecord b o hb hnf)).trans hb,rfl⟩,?_⟩ λb o hb hnf=>⟨o.slots,(other b (noRecord b o hb hnf)).trans hb⟩)
 exact⟨oe,vs,T,_,_,(other e (cm hTe)).trans he,hcls,hd,h1,hnT,hTe,cC _ hT (cS (cv hdT _)),cv hdT _,by simp[hsz3]⟩
theorem zRj{base:aV}{l:List fV}{e L:af}{cls:ag}{Q:Unit->ai->Prop}(hh:zVe base l e cls L s.heap)
  (h:∀ h',uA base l e cls h'->s.heap.UpToSlots h'->Q () { s with heap:=h' }):wpAny M A (setFlight (.ref e) none) Q E s:=zSw hh h
theorem zMd{base:aV}{l:List fV}{e:af}{cls:ag}{Q:Unit->ai->Prop}(hh:uA base l e cls s.heap)
  (h:∀ h',uA base l e cls h'->s.heap.UpToSlots h'->Q () { s with heap:=h' }):wpAny M A (setFlight (.ref e) none) Q E s:=zSw hh h
theorem zPq{base:aV}{env:fV}{outer:List fV}{L e:af}{cls:ag}{Q:Unit->ai->Prop}
  (hfr:A.frames=some (env::outer)) (hf:env.frame=some L) (hfl:uA base (env::outer) e cls s.heap)
  (hQ:∀ h',uA base outer e cls h'->s.heap.UpToSlots h'->Q () { s with heap:=h' }):wpAny M A (leaving env (.ref e)) Q E s:=by
 unfold leaving;refine aa (zLa hfr hf hfl λh1 x1 u1=>?_);refine zRj x1 λh2 ⟨k1,k2,⟨_,_,k3⟩,k4⟩ u2=>hQ h2 ⟨k1,k2,k3,k4⟩ (u1.trans u2)
theorem zJ7{base h:aV}{env:fV}{outer:List fV}{L e:af}{cls:ag}{args:List ag}{Q:Unit->ai->Prop}
  (hfr:A.frames=some (env::outer)) (hf:env.frame=some L) (hkb:base.StaysIn h) (hl:h.FunFrames base (env::outer)) (hx:lB h s.heap e cls args)
  (hQ:∀ h',uA base outer e cls h'->s.heap.UpToSlots h'->Q () { s with heap:=h' }):wpAny M A (leaving env (.ref e)) Q E s:=by
 obtain⟨t,he,htn,ht⟩:=hx.there;have fresh:∀ b,h.get? b=none->base.get? b=none:=λb hb=>by
  cases hq:base.get? b with
  | none=>rfl
  | some o'=>have:=hkb b o' hq; rw[hb] at this; cases this
 unfold leaving;refine aa (zNo hfr (hl.of_keeps λb o hb _=>⟨o,hx.keeps b o hb,rfl⟩) hf he (λb o hb=>hx.keeps b o (hkb b o hb)) (fresh e hx.new) rfl rfl rfl rfl λh1 x1 u1=>?_);refine zRj x1 λh2 ⟨k1,k2,⟨_,_,k3⟩,k4⟩ u2=>hQ h2 ⟨k1,k2,k3,k4⟩ (u1.trans u2)
end
end L2

namespace L2
open PySem PySem.Spec PyProof.Rows
theorem zJy:plainId "proto.unchain" = true:=by decide +kernel
theorem zJr:entryFor table "proto.unchain" = some eL.«proto.unchain»:=entryFor_of_tree (by kernel_rfl)
def zL7(h:aV)(x:af):Prop:=∃ ob vs,h.get? x=some ob/\ob.data=.fields vs/\vs[2]?=some .none
section
variable{prog:aK}{w:aT}{A:bD}{E:ag->ai->Prop}{s:ai}
theorem zC2{α:Type}{x e:af}{oe:cz}{ws:Array ag}{Q:α->ai->Prop}(hh:A.handled=some (.ref x))(hne:x≠e)(ha:zL7 s.heap x)(he:s.heap.get? e=some oe)(hde:oe.data=.fields ws)(hz:2<ws.size)
  (h:E (.ref e) { s with heap:=s.heap.update e (cZ (·.setIfInBounds 2 (.ref x))) }):wpAny (model prog w) A (raiseNew (.ref e):lU α) Q E s:=by
 obtain⟨ox,vs,hx,hd,h2⟩:=ha;unfold raiseNew;refine aa (jj ?_);rw[hh];dsimp only;rw[if_pos (show(aI x != aI e)=true by simpa using hne)];refine aa (bX (wpAny_runValue (codeAny_builtin zJr ?_)));rw[Around.under_plainId zJy _];unfold eL.«proto.unchain»;dsimp only;refine aa (bG hx hd h2 ?_);rw[if_pos (by rfl)];refine aa (ak (ak ?_));refine aa ?_;unfold updateField;refine aa (wpAny_load he ?_);rw[hde];dsimp only;rw[if_pos hz];exact wpAny_update he (kN h)
theorem zHb{x it l:af}{i:Nat}{items:Array ag}{Q:Option ag->ai->Prop}(hh:A.handled=some (.ref x))(ha:zL7 s.heap x)(hxi:x≠it)
  (hit:s.heap.IsListIter it l i) (hl:s.heap.IsList l items) (hx:items[i]?=none)
  (hQ:∀ h',fi it s.heap h'->Q none { s with heap:=h' }):wpAny (model prog w) A (pyNext (.ref it)) Q E s:=by
 obtain⟨o,ho,hc,hd⟩:=id hit;obtain⟨ol,hol,_,nl,hdl⟩:=hl;unfold pyNext;refine aa (dR (bO (name:=aO "__next__") hit.typeIs g6
  (bQ g6 hit.typeIs PySem.entry_listiter_next ?_ (PySem.args_listiter_next _))))
 show wpAny _ _ (field (.ref it) 0 >>= _) _ _ s;refine aa (bG ho hd (x:=.ref l) rfl ?_);show wpAny _ _ (if (aI l == bg)=true then _ else _) _ _ s;rw[if_neg (show ¬ ((aI l == bg)=true) from aB)];show wpAny _ _ (field (.ref it) 1 >>= _) _ _ s;refine aa (bG ho hd (x:=.int i 0) rfl ?_);show wpAny _ _ (seqItems? (.ref l) >>= _) _ _ s;refine aa (cL hol hdl ?_);simp only[cg,hx];refine aa (gh (aa (c9 ho hd (by simp) ?_)));show wpAny _ _ (newExc (.type "StopIteration") [] >>= _) _ _ _;refine aa ?_;simp only[newExc,newTuple];refine aa (bj ?_ (by size_fits));refine aa (m:=firstArgMember _ _) (eI (a:=bg) (by first | rfl | (simp only[firstArgMember]; rfl)) ?_);refine bj ?_ (by size_fits);obtain⟨ox,vs,hox,hdx,h2x⟩:=ha;refine zC2 (x:=x) (ws:=_) (by first | exact hh | (rw[show A.in1.handled=A.handled from rfl]; exact hh)) ?_ ⟨ox,vs,ah _ (ah _ ((aY _ _ (cm hxi)).trans hox)),hdx,h2x⟩ (ap _ rfl) rfl (by simp; lia) ?_
 ·exact λz=>absurd (aw hox) (by rw[z]; simp)
 refine aa (fF (T := "StopIteration") (b:=true) ⟨_,cC _ (ap _ rfl) (cS (cv rfl _)),eC _ _⟩ isSubtype_stop ?_);refine ak (hQ _ λb o hb e=>?_);rw[aY _ _ (λz=>absurd (aw e) (by rw[<- z]; simp))];exact ah _ (ah _ ((aY _ _ (cm hb)).trans e))
theorem zFo{x it t:af}{i:Nat}{items:Array ag}{Q:Option ag->ai->Prop}(hh:A.handled=some (.ref x))(ha:zL7 s.heap x)(hxi:x≠it)
  (hit:IsTupIter s.heap it t i) (ht:mz s.heap t items) (hx:items[i]?=none)
  (hQ:∀ h',fi it s.heap h'->Q none { s with heap:=h' }):wpAny (model prog w) A (pyNext (.ref it)) Q E s:=by
 obtain⟨o,ho,hc,hd⟩:=id hit;obtain⟨ol,hol,_,nl,hdl⟩:=ht;unfold pyNext;refine aa (dR (bO (name:=aO "__next__") hit.typeIs slot_tupleiter_next
  (bQ slot_tupleiter_next hit.typeIs entry_tupleiter_next ?_ (args_tupleiter_next _))))
 show wpAny _ _ (field (.ref it) 0 >>= _) _ _ s;refine aa (bG ho hd (x:=.ref t) rfl ?_);show wpAny _ _ (if (aI t == bg)=true then _ else _) _ _ s;rw[if_neg (show ¬ ((aI t == bg)=true) from aB)];show wpAny _ _ (field (.ref it) 1 >>= _) _ _ s;refine aa (bG ho hd (x:=.int i 0) rfl ?_);show wpAny _ _ (seqItems? (.ref t) >>= _) _ _ s;refine aa (cL hol hdl ?_);simp only[cg,hx];refine aa (gh (aa (c9 ho hd (by simp) ?_)));show wpAny _ _ (newExc (.type "StopIteration") [] >>= _) _ _ _;refine aa ?_;simp only[newExc,newTuple];refine aa (bj ?_ (by size_fits));refine aa (m:=firstArgMember _ _) (eI (a:=bg) (by first | rfl | (simp only[firstArgMember]; rfl)) ?_);refine bj ?_ (by size_fits);obtain⟨ox,vs,hox,hdx,h2x⟩:=ha;refine zC2 (x:=x) (ws:=_) (by first | exact hh | (rw[show A.in1.handled=A.handled from rfl]; exact hh)) ?_ ⟨ox,vs,ah _ (ah _ ((aY _ _ (cm hxi)).trans hox)),hdx,h2x⟩ (ap _ rfl) rfl (by simp; lia) ?_
 ·exact λz=>absurd (aw hox) (by rw[z]; simp)
 refine aa (fF (T := "StopIteration") (b:=true) ⟨_,cC _ (ap _ rfl) (cS (cv rfl _)),eC _ _⟩ isSubtype_stop ?_);refine ak (hQ _ λb o hb e=>?_);rw[aY _ _ (λz=>absurd (aw e) (by rw[<- z]; simp))];exact ah _ (ah _ ((aY _ _ (cm hb)).trans e))
theorem zJg{x t:af}{items:Array ag}{targets:List (Bool×(ag->lU Unit))}{Q:Unit->ai->Prop}(hh:A.handled=some (.ref x))(ha:zL7 s.heap x)(ht:mz s.heap t items)
  (hn:targets.length=items.size) (hstar:targets.findIdx? (·.1)=none)
  (h:∀ h',fi s.heap.objs.size s.heap h'->wpAny (model prog w) A (assignInOrder (targets.map (·.2)) items.toList) Q E { s with heap:=h' }) :
  wpAny (model prog w) A (unpack (.ref t) targets) Q E s:=by
 have hlt:t≠s.heap.objs.size:=by obtain⟨o,ho,_⟩:=ht; exact aP (aw ho)
 have hlx:x≠s.heap.objs.size:=by obtain⟨o,_,ho,_⟩:=ha; exact aP (aw ho)
 unfold unpack;rw[hn,hstar];refine aa (bX ?_);unfold unpackItems;refine aa ?_;unfold notIterableAtAll;refine aa (kT ht.typeIs slot_tuple_iter.lookup ?_);refine ak ?_;simp only[cH,if_false];refine aa (bX (iter_tuple ht ?_));refine aa (bX (draw_tuple hlt items.size 0 _ _ ⟨_,ap _ rfl,rfl,rfl⟩ (ht.push _) (by lia) λh₁ hit₁ hs₁=>?_));have hall:List.take items.size (List.drop 0 items.toList)=items.toList:=by
  rw[List.drop_zero]; exact cy (by simp)
 rw[hall];rw[if_neg (by simp)];have ht₁:mz h₁ t items:=(ht.push _).extBut hs₁.extBut hlt;have ha₁:zL7 h₁ x:=by
  obtain⟨ob,vs,e1,e2,e3⟩:=ha;exact⟨ob,vs,hs₁.extBut _ _ hlx (ah _ e1),e2,e3⟩
 refine aa (bX (zFo hh ha₁ hlx hit₁ ht₁ (by simp) λh₂ he₂=>?_));simp only[Option.isSome_none,cH,if_false];exact ak (h h₂ λb o hb e=>he₂ b o hb (hs₁.extBut b o hb (ah _ e)))
theorem zJj{env:fV}{elts:List bu}{x1}{pos:eS}{x t:af}{items:Array ag}{Q:Unit->ai->Prop}(hh:A.handled=some (.ref x))(ha:zL7 s.heap x)(ht:mz s.heap t items)
  (hn:(assignEach elts env).length=items.size) (hstar:(assignEach elts env).findIdx? (·.1)=none)
  (h:∀ h',fi s.heap.objs.size s.heap h'->wpAny (model prog w) A (assignInOrder ((assignEach elts env).map (·.2)) items.toList) Q E { s with heap:=h' }) :
  wpAny (model prog w) A (assign (.Tuple elts x1 pos) env (.ref t)) Q E s:=by
 rw[assign_Tuple];exact aa (fH (zJg hh ha ht hn hstar h))
end
end L2

namespace L2
open PySem PySem.Spec PyProof.Rows
theorem xD.some{P:aK}{w:aT}{H:Hp}{h:aV}{a:af}{o:HO}(x:xD P w H h a o):∃ ob,h.get? a=some ob:=by
 cases o with
 | lst xs=>obtain⟨_,_,_,_,e⟩:=x; exact⟨_,e⟩
 | tup xs=>obtain⟨_,_,_,o,e,_⟩:=x; exact⟨_,e⟩
 | dK kvs=>obtain⟨_,_,_,_,o,_,_,e,_⟩:=x; exact⟨_,e⟩
 | dT kvs=>obtain⟨_,_,_,_,o,_,_,e,_⟩:=x; exact⟨_,e⟩
 | set S n=>obtain⟨o,_,_,_,e,_⟩:=x; exact⟨_,e⟩
 | ins C dx fs=>obtain⟨_,_,_,e,_⟩:=x; exact⟨_,e⟩
 | own y=>obtain⟨_,e⟩:=x; exact⟨_,e⟩
 | xd fs=>obtain⟨_,⟨_,_,_,e,_⟩,_⟩:=x; exact⟨_,e⟩
 | rng lo hi=>obtain⟨_,_,_,e⟩:=x; exact⟨_,e⟩
 | frz ob u=>obtain⟨e,_⟩:=x; exact⟨_,e⟩
 | tbl ps=>exact⟨_,x⟩
 | met f y=>exact⟨_,x⟩
 | ext φ=>obtain⟨_,⟨_,e⟩,_⟩:=x; exact⟨_,e⟩
section
variable{fs:List af}{H H':Hp}{h h2 h3 B:aV}{P:aK}{w:aT}
theorem yc8(u:Un fs [] H H' h h2)(st:B.StaysIn h3)(hB:∀ b o o',h.get? b=some o'->h2.get? b=some o->b ∉ fs->B.get? b=some o)
  (hf:∀ b∈fs,∀ o,h2.get? b=some o->∃ sl,h3.get? b=some { o with slots:=sl }):Un fs [] H H' h h3 where
 keep:=λb o q n hb hx=>st _ _ (hB b o o q (u.keep b o q n hb hx) hb)
 slot:=λb o q n hb hx=>by
  obtain⟨sl,e⟩:=u.slot b o q n hb hx;obtain⟨sl',e'⟩:=hf b hb _ e;exact⟨sl',e'⟩
 free:=u.free
 there:=λb o q hx=>by
  obtain⟨o',e⟩:=u.there b o q hx;by_cases hb:b∈fs
  ·obtain⟨sl,e'⟩:=hf b hb _ e;exact⟨_,e'⟩
  ·exact⟨o',st _ _ (hB b o' o q e hb)⟩
 tups:=u.tups
 frzs:=u.frzs
 tbls:=u.tbls
theorem zW7(ok:HOk P w H' h2)(st:B.StaysIn h3)(hB:∀ b o u,H' b=some u->h2.get? b=some o->B.get? b=some o):HOk P w H' h3:=λa o e =>
 (ok a o e).stay (λb u hb q=>st _ _ (by
  rcases hb with rfl | hb
  ·exact hB _ u o e q
  ·exact hB b u _ hb q)) (λ_ q=>q) λ_ _ q=>q
end
structure zMt(P:aK)(w:aT)(outer:List fV)(H:Hp)(s:ai)(ea:af)(cls:ag)(H':Hp)(B:aV)(s':ai):Prop where
 mk ::
 os:s'.os=s.os
 bare:f8 s'.gens
 un:Un (frs outer) [] H H' s.heap s'.heap
 hok:HOk P w H' s'.heap
 new:H' ea=none
 fresh:s.heap.get? ea=none
 fly:uA B outer ea cls s'.heap
 has:∀ b o,s'.heap.get? b=some o->((s.heap.get? b).isSome=true\/(H' b).isSome=true)->b ∉ frs outer->B.get? b=some o
def CX1(P:aK)(w:aT):CXT:=λouter H s E e s'=>∃(ea:af)(cls:ag)(H':Hp)(B:aV),e=.ref ea/\zMt P w outer H s ea cls H' B s'/\E cls none H'
theorem zK0{X:Cx}{pins:List (af×cz)}{σ:St}{H2:Hp}{s2:ai}{ea:af}{cls:ag}{B h3:aV}{env:fV}{outer:List fV}(hs:X.stack=env::outer)(ho:X.outer=outer)(hx:X.ex=[])(hl:env.frame=some X.env.locals)(J:Inv X pins σ H2 s2)
  (hB:∀ b o,s2.heap.get? b=some o->((X.s₀.heap.get? b).isSome=true\/(H2 b).isSome=true)->b ∉ frs (env::outer)->B.get? b=some o) (nw:H2 ea=none) (fr:X.s₀.heap.get? ea=none)
  (fly:uA B outer ea cls h3) (up:s2.heap.UpToSlots h3):zMt X.prog X.w outer X.H₀ X.s₀ ea cls H2 B { s2 with heap:=h3 }:=by
 have st:=fly.1;have notin:∀ b o,X.s₀.heap.get? b=some o->b ∉ frs outer->b ∉ frs (env::outer):=λb o q hb z=>by
  rcases aD.mp (show b∈X.env.locals::frs outer by
   have:frs (env::outer)=X.env.locals::frs outer:=by unfold frs; rw[cM,hl]
   rw[<- this]; exact z) with e | e
  ·have l:=aR (aw q) J.ok.above;rw[e] at l;exact cX _ l
  ·exact hb e
 have trk:∀ b u,H2 b=some u->b ∉ frs (env::outer):=λb u e z=>by
  have:=J.stkFree b (by rw[hs]; exact z);rw[e] at this;cases this
 have fs:X.fs=frs outer:=by show frs X.outer=_; rw[ho]
 have hf:∀ b∈frs outer,∀ o,s2.heap.get? b=some o->∃ sl,h3.get? b=some { o with slots:=sl }:=λb hb o e=>by
  obtain⟨_,o',e',nf⟩:=J.stack.mem (show b∈X.stack.filterMap (·.frame) by
   rw[hs];show b∈frs (env::outer);have:frs (env::outer)=X.env.locals::frs outer:=by unfold frs; rw[cM,hl]
   rw[this];exact .tail _ hb)
  rw[e] at e';cases e';exact up b o e nf
 have un:Un (frs outer) [] X.H₀ H2 X.s₀.heap s2.heap:=by
  have:=J.base;rw[fs,hx] at this;exact this
 refine⟨J.os,J.bare,yc8 un st (λb o o' q e hb=>hB b o e (.inl (by rw[q]; rfl)) (notin b o' q hb)) hf,zW7 J.hok st λb o u e q=>hB b o q (.inr (by rw[e]; rfl)) (trk b u e),nw,fr,fly,λb o e z hb=>?_⟩;have key:∃ o',s2.heap.get? b=some o':=by
  rcases z with z | z
  ·obtain⟨o',q⟩:=aL.mp z;exact un.there b o' q (λz=>nomatch z)
  ·obtain⟨u,q⟩:=aL.mp z;exact(J.hok b u q).some
 obtain⟨o',e'⟩:=key;have hb':b ∉ frs (env::outer):=by
  rcases z with z | z
  ·obtain⟨o',q⟩:=aL.mp z;exact notin b o' q hb
  ·obtain⟨u,q⟩:=aL.mp z;exact trk b u q
 have hb2:=hB b o' e' z hb';have:=st _ _ hb2;rw[show({ s2 with heap:=h3 } : ai).heap=h3 from rfl] at e;rw[this] at e;cases e;exact hb2
theorem zMt.inv{X:Cx}{pins:List (af×cz)}{σ:St}{H H':Hp}{s s':ai}{ea:af}{cls:ag}{B:aV}(I:Inv X pins σ H s)(f:zMt X.prog X.w X.stack H s ea cls H' B s'):Inv X pins σ H' s' :=
 I.call' (ch:=[]) f.os f.un f.hok f.bare λb z=>absurd z (by simp)
theorem zMt.on{P:aK}{w:aT}{outer:List fV}{base:aV}{H H':Hp}{s s':ai}{ea:af}{cls:ag}{B h3:aV}(hs:s'.heap.FunFrames base outer)(f:zMt P w outer H s ea cls H' B s')(hfree:∀ b∈frs outer,H' b=none)
  (fly:uA B outer ea cls h3) (up:s'.heap.UpToSlots h3):zMt P w outer H s ea cls H' B { s' with heap:=h3 }:=by
 have st:=fly.1;have trk:∀ b u,H' b=some u->b ∉ frs outer:=λb u e z=>by
  have:=hfree b z;rw[e] at this;cases this
 refine⟨f.os,f.bare,yc8 f.un st (λb o o' q e hb=>f.has b o e (.inl (by rw[q]; rfl)) hb) (λb hb o e=>by
  obtain⟨_,o',e',nf⟩:=hs.mem hb;rw[e] at e';cases e';exact up b o e nf),zW7 f.hok st λb o u e q=>f.has b o q (.inr (by rw[e]; rfl)) (trk b u e),f.new,f.fresh,fly,λb o e z hb=>?_⟩
 have key:∃ o',s'.heap.get? b=some o':=by
  rcases z with z | z
  ·obtain⟨o',q⟩:=aL.mp z;exact f.un.there b o' q (λz=>nomatch z)
  ·obtain⟨u,q⟩:=aL.mp z;exact(f.hok b u q).some
 obtain⟨o',e'⟩:=key;have hb2:=f.has b o' e' z hb;have:=st _ _ hb2;rw[show({ s' with heap:=h3 } : ai).heap=h3 from rfl] at e;rw[this] at e;cases e;exact hb2
def zP5(X:Cx)(EE:St->XK):Prop:=∀(pins:List (af×cz))(σ:St)(H:Hp)(s:ai)(e:ag)(s':ai),Inv X pins σ H s->CX1 X.prog X.w X.stack H s (EE σ) e s'->X.xe e s'
def yf9(X:Cx)(EE:St->XK):Prop:=∀(pins:List (af×cz))(σ:St)(H:Hp)(s:ai)(h':aV)(e:af)(cls:ag)(vs:List ag),Inv X pins σ H s->lB s.heap h' e cls vs->EE σ cls none H->X.xe (.ref e) { s with heap:=h' }
section
variable{P:aK}{w:aT}{K:ae}{mg:aA->Option ag}{base:aV}{N:List aA}{qual:aA}{scope:fg}{f:af}{cd:ag}{A:bD}{outer:List fV}{s:ai}{H:Hp}{E:XK}
theorem zS:zP5 (cxOf (CX1 P w) P w K mg base N qual scope f cd A outer s H E) (λ_=>E):=by
 intro pins σ H1 s1 e s2 I h;obtain⟨ea,cls,H2,B,rfl,fl,q⟩:=h;have J:=fl.inv I;refine zPq (base:=B) (cls:=cls) (L:=s.heap.objs.size) I.ok.frames rfl fl.fly λh3 fly up=>?_;refine⟨ea,cls,H2,B,U,zK0 (X:=cxOf (CX1 P w) P w K mg base N qual scope f cd A outer s H E) rfl rfl rfl rfl J (λb o e z hb=>fl.has b o e (z.imp (λz=>?_) id) hb) fl.new ?_ fly up,q⟩
 ·obtain⟨o',q'⟩:=aL.mp z;obtain⟨o'',q''⟩:=I.base.there b o' q' (λz=>nomatch z);rw[q''];rfl
 ·show s.heap.get? ea=none;cases q':s.heap.get? ea with
  | none=>rfl
  | some o' =>
   obtain⟨o'',q''⟩:=I.base.there ea o' q' (λz=>nomatch z);rw[fl.fresh] at q'';cases q''
theorem xJ:yf9 (cxOf (CX1 P w) P w K mg base N qual scope f cd A outer s H E) (λ_=>E):=by
 intro pins σ H1 s1 h' e cls vs I hx q;have hin:∀ env∈(cxOf (CX1 P w) P w K mg base N qual scope f cd A outer s H E).stack,∀ b,env.frame=some b->b∈frs (cxOf (CX1 P w) P w K mg base N qual scope f cd A outer s H E).stack:=λenv he b hb=>e9.mpr ⟨env,he,hb⟩;have notin:∀ b o,s1.heap.get? b=some o->b ∉ frs (cxOf (CX1 P w) P w K mg base N qual scope f cd A outer s H E).stack->(iw s1.heap (frs (cxOf (CX1 P w) P w K mg base N qual scope f cd A outer s H E).stack)).get? b=some o:=λb o e hb=>i8 _ e hb;refine zJ7 (h:=s1.heap) (base:=iw s1.heap (frs (cxOf (CX1 P w) P w K mg base N qual scope f cd A outer s H E).stack)) (cls:=cls) (args:=vs) (L:=s.heap.objs.size) I.ok.frames rfl (λb o q=>jp _ q) (PySem.W.funFrames_hide I.stack hin) hx λh3 fly up=>?_;have nw:H1 e=none:=by
  cases z:H1 e with
  | none=>rfl
  | some u =>
   obtain⟨ob,eo⟩:=(I.hok e u z).some;rw[hx.new] at eo;cases eo
 refine⟨e,cls,H1,_,U,zK0 (X:=cxOf (CX1 P w) P w K mg base N qual scope f cd A outer s H E) (s2:=s1) rfl rfl rfl rfl I (λb o e _ hb=>notin b o e hb) nw ?_ fly ((mI hx.keeps).trans up),q⟩;show s.heap.get? e=none;cases q':s.heap.get? e with
 | none=>rfl
 | some o' =>
  obtain⟨o'',q''⟩:=I.base.there e o' q' (λz=>nomatch z);rw[hx.new] at q'';cases q''
theorem Fun.okX{x qual:aA}{st:bC}{f:af}{fd:bP}{N ps:List aA}{k:Nat}{sp:Sp}(F:Fun K x qual st f fd)(S:zO N ps (zG st))(len:∀ vs H Q E,sp vs H Q E->vs.length=ps.length)
  (hbody:∀(cdv:ag)(A:bD)(outer:List fV)(s:ai)(H:Hp)(vs:List V)(Q:VK)(E:XK),qO k (A.deeper (envOfC qual (zG st) s.heap.objs.size f cdv))->sp vs H Q E ->
   ∃ t,PSs (cxOf (CX1 P w) P w K mg base N qual (zG st) f cdv A outer s H E) (xF st) t/\t { nx:=λ_ H'=>Q .non H',rt:=Q } (start N vs) H):yQ P w K mg base (CX1 P w) (k+1) f fd ps sp:=by
 obtain⟨oc,od,kV,doc,pm,an,cdv,ct,osl,rfl,lk,hcd⟩:=F.ex;exact yd8 lk hcd S len λA outer s H vs Q E hr hsp=>hbody cdv A outer s H vs Q E hr hsp
end
def qI(P:aK)(w:aT)(K:ae)(mg:aA->Option ag)(base:aV)(x:aA)(n:Nat)(ps:List aA)(sp:Sp):Prop :=
 ∃(f:af)(fd:bP),yQ P w K mg base (CX1 P w) n f fd ps sp/\zC6 K fd ps []/\bV K (.ref f)=true/\mg x=some (.ref f)
def sB(P:aK)(w:aT)(K:ae)(mg:aA->Option ag)(base:aV)(g:af)(n:Nat)(ps:List aA)(sp:Sp):Prop :=
 ∃ fd:bP,yQ P w K mg base (CX1 P w) n g fd ps sp/\∀ us:List ag,us.length=ps.length->bindArgs fd ⟨us,[]⟩=pure (ps.zip us)
section
variable{X:Cx}{n:Nat}{f:af}{fd:bP}{ps:List aA}{sp:Sp}{x m:aA}{p pos apos:eS}{e o:bu}{es:List bu}{ta:TE}{t:TA}{EE:St->XK}{C g:af}
theorem zN3{pins:List (af×cz)}{σ:St}{H:Hp}{s:ai}{Q:VK}{us:List ag}{vs:List V}(F:yQ X.prog X.w X.K X.mg X.base (CX1 X.prog X.w) n f fd ps sp)(hr:qO n X.A)(hb:zC6 X.K fd ps [])(hx:zP5 X EE)
  (I:Inv X pins σ H s) (r:yV vs us) (h:sp vs H Q (EE σ)):wpAny (model X.prog X.w) X.A (call (.ref f) us) (EP X pins σ Q) X.xe s:=by
 have hl:us.length=ps.length:=by rw[<- r.length]; exact F.len _ _ _ _ h
 have hb':=hb s us I.kIn (by rw[dk]; exact hl);rw[dk] at hb';refine gy (codeAny_mono (F.run X.A X.stack s H ⟨us,[]⟩ us vs Q (EE σ) hr I.env0 hb' r h) λr s' hq=>?_);cases r with
 | error e=>exact hx pins σ H s e s' I hq
 | ok fl =>
  cases fl with
  | ret u=>exact I.after hq
  | next=>exact bA hq
  | brk=>exact bA hq
  | cont=>exact bA hq
def yg7(sp:Sp)(EE:St->XK)(t:TA):TE:=λσ H Q=>t σ H λvs H1=>sp vs H1 Q (EE σ)
theorem yG(EE:St->XK)(h:qI X.prog X.w X.K X.mg X.base x n ps sp)(hx:zP5 X EE)(hr:qO n X.A)(hg:Gl X x)
  (ha:PA X (e::es) t) (hdb:(x ==("__debug__" : aA))=false:=by decide) (he:starEach (e::es) X.env=(false,eval e X.env)::starEach es X.env:=by rfl) (hpl:(backTo pos (starEach es X.env)).any (·.1)=false:=by rfl) :
  PE X (.Call (.Name x p) (e::es) [] pos) (yg7 sp EE t):=by
 obtain⟨f,fd,F,hb,hk,hm⟩:=h;intro pins s σ H Q I h;refine cU (sO I hg hm ?_ hdb);refine dy (h₀:=X.base) I.ok.mod.kin hk (thn (ha pos pins s σ H _ I h) λus s1 ⟨vs,H1,I1,r,q⟩=>⟨I1.kIn,?_⟩) he hpl;exact zN3 F hr hb hx I1 r q
def yg9(C:af)(m:aA)(sp:Sp)(EE:St->XK)(ta:TE)(t:TA):TE:=λσ H Q=>ta σ H λx H1=>TMeth C m x H1 (t σ H1 λvs H2=>sp (x::vs) H2 Q (EE σ))
theorem yM(EE:St->XK){pl:lU Bool}(hb:InB X.base λK=>Cls K C/\zHn K C m g)(h:sB X.prog X.w X.K X.mg X.base g n ps sp)(hx:zP5 X EE)(hr:qO n X.A)(he:PE X o ta)(ha:PA X (e::es) t)
  (hst:starEach (e::es) X.env=(false,eval e X.env)::starEach es X.env:=by rfl) (hpl:(backTo pos (starEach es X.env)).any (·.1)=false:=by rfl)
  (ht:eval (.Call (.Attribute o m apos) (e::es) [] pos) X.env=(do
   let ov <- eval o X.env
   standAt apos.atName
   let (f,first) <- holding [ov] (getMethod ov m pl)
   callWith pos f first (backTo pos (starEach (e::es) X.env)) (backToKw pos (keywordEach [] X.env))):=by rfl) :
  PE X (.Call (.Attribute o m apos) (e::es) [] pos) (yg9 C m sp EE ta t):=by
 obtain⟨K,KB,c,hm⟩:=hb;obtain⟨fd,F,b⟩:=h;intro pins s σ H Q I h;refine fB (pl:=pl) (thn (he pins s σ H _ I h) λu s1 ⟨x,H1,I1,rx,a,dx,fs,ex,ea,l,q⟩=>?_) ht;subst ex;obtain rfl:u=aI a:=rx;refine zDu (X:=X.withK K) (I1.withK KB) ea c hm l ?_;refine dy (first:=[.ref a]) (h₀:=X.base) (K:=K) KB hm.kp (thn (ha pos pins s1 σ H1 _ I1 q) λus s2 ⟨vs,H2,I2,r,q2⟩=>⟨(I2.withK KB).kIn,?_⟩) hst hpl;exact zN3 (us:=.ref a::us) (vs:=.ref a::vs) F hr (.all b) hx I2 (.cons rfl r) q2
theorem PS.nox{st:bC}{t:TS}(h:PS X.nox st t):PS X st t:=λpins s σ H D I hw =>
 cT (h pins s σ H D (I.wish _) hw) (λ_ _ q=>q.unwish) λ_ _ z=>bA z
def yf7(cls:ag)(EE:St->XK)(t:TA):TS:=λ_ σ H=>t σ H λvs H1=>vs.length<=sizeLine/\EE σ cls none H1
theorem xH(EE:St->XK){bm bmN:List ag}{B Bn newId nid initId inN:String}(O:bo x C bm newId X.mg X.base)(Fn:ExcBaseFacts Bn newId inN bmN)(hBn:bm.contains (.type Bn)=true)(FB:ExcBaseFacts B nid initId bm)(hx:yf9 X EE)
  {cpos np:eS} (ha:PA X (e::es) t) (hc:X.calm=true:=by rfl) (hg:Gl X x:=by rfl) (hd:(x ==("__debug__" : aA))=false:=by decide) (he:starEach (e::es) X.env=(false,eval e X.env)::starEach es X.env:=by rfl) (hpl:(backTo cpos (starEach es X.env)).any (·.1)=false:=by rfl) :
  PS X (.Raise (some (.Call (.Name x np) (e::es) [] cpos)) none pos) (yf7 (.ref C) EE t):=by
 obtain⟨tl,N,nm,q,bs,hdct,sn,sub,ab,col,dd,k0,k1,k2,k3,k5,mN,hC,hN,hni,T⟩:=O.obj;intro pins s σ H D I h;refine wpAny_Raise_call_subU (C:=C) (nm:=nm) (q:=q) (N:=N) (bs:=bs) (bm:=tl) (hdct:=hdct) (sn:=sn) (sub:=sub) (ab:=ab) (col:=col) (dd:=dd) (k0:=k0) (k1:=k1) (k2:=k2) (k3:=k3) (k5:=k5)
  Fn hBn FB (mN:=mN) (T.hasType FB.hasBase) (I.ok.hd hc) (by rw[he]; show(false||(backTo cpos (starEach es X.env)).any (·.1))=false; rw[hpl]; rfl) hni (sO I hg O.bound ⟨rfl,?_⟩ hd)
 have h:=ha cpos pins s σ H _ I h;rw[he] at h ⊢;refine fK (cT h (λus s2 ⟨vs,H1,I1,r,len,q⟩=>⟨rfl,?_,I1.bk _ _ hC,hN.keeps I1.bk,T.keeps I1.bk,λh' e hm=>?_⟩) λ_ _ y=>y)
 ·rw[<- r.length]; exact len
 ·exact hx pins σ H1 s2 h' e _ _ I1 hm q
end
end L2

namespace L2
open PySem PySem.Spec PyProof.Rows
abbrev Cx.tr(X:Cx)(pins:List (af×cz))(EE:St->XK):Cx :=
 { X with pn:=X.pn++pins,xe:=λe s'=>∃(σ:St)(H:Hp)(s:ai),Inv X pins σ H s/\CX1 X.prog X.w X.stack H s (EE σ) e s' }
abbrev Cx.hd(X:Cx)(e:ag):Cx:={ X with A:=X.A.mark (some e),calm:=false,xe:=λ_ _=>False }
section
variable{X:Cx}{pins pins':List (af×cz)}{σ:St}{H:Hp}{s:ai}{EE:St->XK}{e:ag}
theorem Inv.tr(I:Inv X pins σ H s)(EE:St->XK):Inv (X.tr pins EE) [] σ H s :=
 ⟨⟨I.ok.mod,I.ok.kind,I.ok.glob,I.ok.blt,I.ok.above,I.ok.inj,I.ok.has,I.ok.cab,I.ok.hd,I.ok.frames,I.ok.stk,I.ok.exf,I.ok.bs,I.ok.bsz,I.ok.noex,I.ok.exfs,I.ok.funs,I.ok.frf⟩,I.os,I.bare,I.base,I.loc,I.cell,I.free,I.freeC,λp hp=>I.pin p (by rw[dk] at hp; exact hp),I.hok,I.len⟩
theorem Inv.untr(I:Inv (X.tr pins EE) pins' σ H s):Inv X pins σ H s :=
 ⟨⟨I.ok.mod,I.ok.kind,I.ok.glob,I.ok.blt,I.ok.above,I.ok.inj,I.ok.has,I.ok.cab,I.ok.hd,I.ok.frames,I.ok.stk,I.ok.exf,I.ok.bs,I.ok.bsz,I.ok.noex,I.ok.exfs,I.ok.funs,I.ok.frf⟩,I.os,I.bare,I.base,I.loc,I.cell,I.free,I.freeC,λp hp=>I.pin p (dM _ hp),I.hok,I.len⟩
theorem Inv.hd(I:Inv X pins σ H s)(e:ag):Inv (X.hd e) pins σ H s :=
 ⟨⟨I.ok.mod,I.ok.kind,I.ok.glob,I.ok.blt,I.ok.above,I.ok.inj,I.ok.has,I.ok.cab,λz=>(nomatch z),I.ok.frames,I.ok.stk,I.ok.exf,I.ok.bs,I.ok.bsz,I.ok.noex,I.ok.exfs,I.ok.funs,I.ok.frf⟩,I.os,I.bare,I.base,I.loc,I.cell,I.free,I.freeC,I.pin,I.hok,I.len⟩
theorem Inv.unhd(I:Inv (X.hd e) pins σ H s)(hh:X.calm=true->X.A.handled=none):Inv X pins σ H s :=
 ⟨⟨I.ok.mod,I.ok.kind,I.ok.glob,I.ok.blt,I.ok.above,I.ok.inj,I.ok.has,I.ok.cab,hh,I.ok.frames,I.ok.stk,I.ok.exf,I.ok.bs,I.ok.bsz,I.ok.noex,I.ok.exfs,I.ok.funs,I.ok.frf⟩,I.os,I.bare,I.base,I.loc,I.cell,I.free,I.freeC,I.pin,I.hok,I.len⟩
theorem SP.untr{D:zPw}{f:Flow}{s':ai}(h:SP (X.tr pins EE) pins' D f s'):SP X pins D f s':=by
 cases f with
 | next=>obtain⟨σ',H',I,q⟩:=h; exact⟨σ',H',I.untr,q⟩
 | brk=>obtain⟨σ',H',I,q⟩:=h; exact⟨σ',H',I.untr,q⟩
 | cont=>obtain⟨σ',H',I,q⟩:=h; exact⟨σ',H',I.untr,q⟩
 | ret u=>obtain⟨v,σ',H',I,r,q⟩:=h; exact⟨v,σ',H',I.untr,r,q⟩
theorem zOa:zP5 (X.tr pins EE) EE:=λ_ σ H s _ _ I h=>⟨σ,H,s,I.untr,h⟩
theorem Inv.moreX{a:af}{o:HO}(I:Inv X pins σ H s)(f0:H a=none)(f1:a≠X.env.locals)(f3:X.s₀.heap.get? a=none)(f4:∀ x c,X.env.cells.lookup x=some c->c≠a)(f5:∀ p∈X.pn++pins,p.1≠a)
  (new:xD X.prog X.w (upd H a o) s.heap a o):Inv X pins σ (upd H a o) s:=by
 have nk:∀{b:af}{u:HO},H b=some u->upd H a o b=some u:=λ{b u} e=>by
  rw[zH (λz=>by rw[z,f0] at e; cases e)];exact e
 have nn:∀{b:af},b≠a->H b=none->upd H a o b=none:=λ{b} n e=>by rw[zH n]; exact e
 have lo:∀{b:af}{u:cz},X.s₀.heap.get? b=some u->b≠a:=λ{b u} e z=>by rw[z,f3] at e; cases e
 refine⟨I.ok,I.os,I.bare,⟨I.base.keep,I.base.slot,λb u e n hx=>nn (lo e) (I.base.free b u e n hx),I.base.there,λb xs e=>nk (I.base.tups b xs e),λb u v e=>nk (I.base.frzs b u v e),
  λb ps e=>let ⟨more,q⟩:=I.base.tbls b ps e;⟨more,nk q⟩⟩,I.loc,I.cell,nn (cm f1) I.free,λx c e=>nn (f4 x c e) (I.freeC x c e),λp hp=>?_,λb u e=>?_,I.len⟩
 ·obtain⟨h1,h2,h3⟩:=I.pin p hp;exact⟨h1,nn (f5 p hp) h2,h3⟩
 ·by_cases eb:b=a
  ·subst eb;rw[zA] at e;cases e;exact new
  ·rw[zH eb] at e;exact(I.hok b u e).stay (λc v _ q=>q) (λc q=>nk q) λc xs q=>nk q
theorem Inv.frame{h':aV}{t':Nat}{m':aA->Option ag}(I:Inv X pins σ H s)(hs:cI X.env.locals s.heap h')(hn:h'.Ns X.env.locals m'):Inv X pins (bz X.N.length none) H { s with heap:=h',toks:=t' }:=by
 have k:∀ b o,b≠X.env.locals->s.heap.get? b=some o->h'.get? b=some o:=λb o n e=>(hs.2 b n).trans e;have lo:∀{b:af}{u:cz},X.s₀.heap.get? b=some u->b≠X.env.locals:=λ{b u} e z=>by
  have l:=aR (aw e) I.ok.above;rw[z] at l;exact cX _ l
 obtain⟨oL,esL,epL,hoL,_⟩:=hn;have trk:∀{b:af}{u:HO},H b=some u->b≠X.env.locals:=λ{b u} e z=>by rw[z,I.free] at e; cases e
 refine⟨I.ok,I.os,I.bare,⟨λb o q n hb hx=>k _ _ (lo q) (I.base.keep b o q n hb hx),λb o q n hb hx=>?_,I.base.free,λb o q hx=>?_,I.base.tups,I.base.frzs,I.base.tbls⟩,⟨m',⟨oL,esL,epL,hoL,by assumption⟩,λi x v _ hσ=>?_⟩,λx c e=>?_,I.free,I.freeC,λp hp=>?_,λa o e=>?_,by rw[cR]⟩
 ·obtain⟨sl,e⟩:=I.base.slot b o q n hb hx;exact⟨sl,k _ _ (lo q) e⟩
 ·obtain⟨o',e⟩:=I.base.there b o q hx;exact⟨o',k _ _ (lo q) e⟩
 ·rw[fh] at hσ;split at hσ <;> cases hσ
 ·obtain⟨v,o,ho,hd⟩:=I.cell x c e;exact⟨v,o,k _ _ (I.cne x c e) ho,hd⟩
 ·obtain⟨h1,h2,h3,h4⟩:=I.pin p hp;exact⟨k _ _ h3 h1,h2,h3,h4⟩
 ·refine(I.hok a o e).stay (λb u hb q=>k _ _ ?_ q) (λ_ q=>q) λ_ _ q=>q;rcases hb with rfl | hb
  ·exact trk e
  ·exact trk hb
end
def zUf(a:af)(cls:ag):HO:=.ext (zL1 a cls)
theorem zZk{P:aK}{w:aT}{H:Hp}{h:aV}{a:af}{cls:ag}(e:zL1 a cls h):xD P w H h a (zUf a cls) :=
 ⟨e,let ⟨ob,_,h1,_⟩:=e;⟨ob,h1⟩,λh1 h2 ⟨ob,vs,q,c⟩ k=>⟨ob,vs,k _ q,c⟩⟩
def zBh(B:aV)(cls:ag)(D:af):Prop:=InB B λK=>lC K cls (.ref D)=some true
def sTry(B:aV)(D:af)(i:Nat)(tb:(St->XK)->TS)(th:af->TS):TS:=λE σ H =>
 tb (λσ' cls _ H'=>zBh B cls D/\∀ ea,H' ea=none->th ea { nx:=λ_ _=>False,rt:=E.rt } (σ'.set i (some (.ref ea))) (upd H' ea (zUf ea cls))) E σ H
section
variable{X:Cx}{x n:aA}{i:Nat}{D:af}{body suite:List bC}{b₀:bC}{np hpos pos:eS}{tb:(St->XK)->TS}{th:TS}
theorem zTo{M:mC}{K:ae}{h:aV}{a:af}{cls:ag}{b:Bool}{D:af}(X:K.In h)(e:zL1 a cls h)(hx:lC K cls (.ref D)=some b):PySem.W.Looks M h (excMatches (.ref a) (.ref D)) b:=by
 obtain⟨ob,_,h1,h2,_⟩:=e;exact PySem.W.exm_one X (h2 ▸ (nj h1).andThen .now) hx
theorem zLm{pins:List (af×cz)}{σ:St}{H H':Hp}{s s1:ai}{ea:af}{cls:ag}{B h:aV}(hx:X.ex=[])(I:Inv X pins σ H s)(fl:zMt X.prog X.w X.stack H s ea cls H' B s1)
  (fly:uA B X.stack ea cls h) (up:s1.heap.UpToSlots h):Inv X pins σ H' { s1 with heap:=h }/\zL1 ea cls h/\∀ o,xD X.prog X.w (upd H' ea o) h ea o->Inv X pins σ (upd H' ea o) { s1 with heap:=h }:=by
 have J:=fl.inv I;have f5:=fl.on J.stack J.stkFree fly up;have J5:=f5.inv I;have ne:∀{b:af}{o:cz},s.heap.get? b=some o->b≠ea:=λ{b o} q z=>by rw[z,fl.fresh] at q; cases q
 refine⟨J5,fly.there,λo new=>J5.moreX fl.new ?_ ?_ (λx c e=>?_) (λp hp=>ne (I.pin p hp).1) new⟩
 ·obtain⟨m,⟨oL,_,_,hoL,_⟩,_⟩:=I.loc;exact(ne hoL).symm
 ·cases q:X.s₀.heap.get? ea with
  | none=>rfl
  | some o =>
   obtain⟨o',q'⟩:=I.base.there ea o q (by rw[hx]; exact λz=>nomatch z);exact absurd rfl (ne q')
 ·obtain⟨v,o,ho,_⟩:=I.cell x c e;exact ne ho
theorem zXl{th:af->TS}(hb:∀ (pins:List (af×cz)) (EE:St->XK),PSs (X.tr pins EE) body (tb EE))(hm:X.mg x=some (.ref D))(hN:X.N.Nodup)(hi:X.N[i]?=some n)(hl:X.env.scope.names.lookup n=some .local)(hh:∀ ea:af,PSs (X.hd (.ref ea)) (b₀::suite) (th ea))
  (hst:X.stack=X.env::X.outer/\X.env.frame=some X.env.locals:=by exact⟨U,U⟩) (hex:X.ex=[]:=by rfl) (hg:Gl X x:=by rfl) (hd:(x ==("__debug__" : aA))=false:=by decide) :
  PS X (.Try body [.ExceptHandler (some (.Name x np)) (some n) (b₀::suite) hpos] [] [] pos) (sTry X.base D i tb th):=by
 intro pins s σ H E I h;refine wpAny_Try_except (cT (hb pins _ [] s σ H E (I.tr _) h) (λf s1 q=>?_) λe s1 q=>?_)
 ·have q:=q.untr;cases f with
  | next=>exact e7 q
  | ret v=>exact q
  | brk=>exact q
  | cont=>exact q
 ·obtain⟨σ',H0,s0,I0,ea,cls,H',B,rfl,fl,tk,hc⟩:=q;have fly0:=fl.fly;rw[hst.1] at fly0;refine zLa (L:=X.env.locals) (by rw[I.ok.frames,hst.1]) hst.2 fly0 λh4 held4 up4=>?_;refine zRj held4 λh5 fly5 up5=>?_;have up:=up4.trans up5;rw[<- hst.1] at fly5;obtain⟨J5,ex5,_⟩:=zLm hex I0 fl fly5 up;obtain⟨K,KB,hK⟩:=tk;have K5:K.In h5:=KB.keeps J5.bk;refine wpAny_handleBy_cons (codeAny_handlers_test (sO (J5.hd (.ref ea)) hg hm ?_ hd)) (by intro q; cases q);refine(zTo K5 ex5 hK).here ?_;refine codeAny_handlers_suite_as ?_;refine zMd fly5 λh6 fly6 up6=>?_;obtain⟨J6,ex6,more⟩:=zLm hex I0 fl fly6 (up.trans up6);have J7:=(more (zUf ea cls) (zZk ex6)).hd (.ref ea);refine zKd (X:=X.hd (.ref ea)) (v:=.ref ea) J7 hN hi (.inl hl) rfl (λs8 I8 _=>?_) (.inr hl);refine cT (hh ea pins s8 _ _ { nx:=λ_ _=>False,rt:=E.rt } I8 (hc ea fl.new)) (λf s9 q=>?_) λ_ _ z=>bA z;cases f with
  | next=>obtain⟨_,_,_,z⟩:=q; exact bA z
  | brk=>obtain⟨_,_,_,z⟩:=q; exact bA z
  | cont=>obtain⟨_,_,_,z⟩:=q; exact bA z
  | ret u =>
   obtain⟨v,σ9,H9,I9,r,q⟩:=q;have I9:=I9.unhd I.ok.hd;obtain⟨m,hn,_⟩:=id I9.loc;refine wpAny_nameGoes (show X.env.kindOf n=some .local from hl) hn (by rw[I.ok.kind]; rfl) λh' m' hn' hs=>?_;exact⟨v,_,H9,I9.frame hs hn',r,q⟩
end
section
open PySem.W
structure zFk(K:ae)(D:af):Prop where
 mk ::
 ga:findIn K (.ref D) "__getattribute__" = some (some (.builtin "BaseException.__getattribute__"))
 gx:findIn K (.ref D) "__getattr__" = some none
 fc:findObj K D none "__class__" = some (.bind (.builtin "getset_descriptor.__get__") (.builtin "object.__class__"))
 mB:mroIn K D (.type "BaseException")=some true
 mo:mroIn K D (.type "object")=some true
theorem zOz{h:aV}{a D:af}(e:zL1 a (.ref D) h):∃ ox,InstAt h a ox D none:=by
 obtain⟨ob,vs,h1,h2,h3,h4,_⟩:=e;refine⟨ob,h1,h2,?_,by rw[h3]; trivial⟩;unfold notCls;rw[h4]
theorem zS0{K:ae}{prog:aK}{w:aT}{A:bD}{E:ag->ai->Prop}{s:ai}{a D:af}{Q:Option ag->ai->Prop}(X:K.In s.heap)(C:zFk K D)(e:zL1 a (.ref D) s.heap)(h:Q (some (.ref D)) { s with toks:=s.toks+1 }) :
  wpAny (model prog w) A (getAttr? (.ref a) "__class__") Q E s:=by
 obtain⟨ox,I⟩:=zOz e;obtain⟨hh,g,d,t,os⟩:=s;have L0:=I.type (M:=model prog w);have L1:=looks_findIn (M:=model prog w) X C.ga;have L2:=looks_findIn (M:=model prog w) X C.gx;have L3:=looks_mroIn (M:=model prog w) X C.mB;have L4:=looks_find (M:=model prog w) X I C.fc;have hx2:(eZ "BaseException.__getattribute__" == eZ "object.__getattribute__")=false:=by decide +kernel
 have hx1:(onTheHeap (aI D)&&eZ "BaseException.__getattribute__" == eZ "object.__getattribute__")=false:=by rw[hx2]; rfl
 unfold getAttr? getAttrBy? getAttrBy;refine aa (wpAny_mkText (aa (dR (bX (aa (L0.at (aa (L1.at ?_))))))));dsimp only;rw[hx1];simp only[cH,if_false];unfold getAttrByItsOwn hookBefore;refine aa ?_;rw[if_pos (show onTheHeap (aI D)=true from rfl)];refine L2.at ?_;refine aa (dR (bX ?_));unfold callGetattribute;rw[if_neg (by decide)];unfold boundAndCalled;refine aa (eI (jT.ga.bind (.ref a)) ?_);show wpAny _ _ (call (.builtin "BaseException.__getattribute__") [.ref a,_]) _ _ _;refine gy (codeAny_call_builtin jT.ga.plain F.entry_bexc_ga ?_);have hk:builtinKind "BaseException.__getattribute__" = some .slot:=by decide +kernel
 have hsplit:splitId "BaseException.__getattribute__" = some ("BaseException","__getattribute__"):=by decide +kernel
 simp only[checkBuiltinCall,hk,hsplit];refine aa ?_;unfold isInstance;refine aa (L0.at (L3.at ?_));simp only[Bool.not_true,cH,if_false];refine eI (F.args_bexc_ga (.ref a) _) ?_;unfold eL.«object.__getattribute__»;refine aa (eI (a:=(aI a,[cB (aO "__class__") t])) (by first | rfl | kernel_rfl) ?_);dsimp only;refine aa (eI (a:=(aO "__class__")) (by first | rfl | kernel_rfl) ?_);refine aa (L0.at (aa (L4.at ?_)));dsimp only;show wpAny _ _ (holding [eZ "object.__class__"] (call (.builtin "getset_descriptor.__get__") [.builtin "object.__class__",.ref a,.ref D]) >>= ret) _ _ _;refine aa (bX (gy (class_get (s:=⟨hh,g,d,t+1,os⟩) X I C.mo ?_)));refine ak ?_;dsimp only;exact handed_on rfl (ak h)
theorem zY6{K:ae}{a D:af}(C:zFk K D):KitX K (.ref a) (.ref D) (zL1 a (.ref D)) where
 ty:=λM h _ e=>let ⟨_,I⟩:=zOz e; I.type
 it:=λ_ _ X _=>by
  obtain⟨cdD,hcD,_⟩:=hX.mp C.mo;unfold clsIn at hcD;split at hcD
  ·rename_i c' d' cd' sl' ho
   intro A' Q' E' s' k q;unfold isType loadHead;exact aa (wpAny_loadPart (k _ _ (X _ _ ho)) (ak q))
  ·cases hcD
 ne:=λh tp dd its n sl X htp=>by
  obtain⟨cdD,hcD,_⟩:=hX.mp C.mo;refine gP.mpr λq=>?_;have e:D=tp:=Value.ref.inj (beq_iff_eq.mp q);subst e;unfold clsIn at hcD;split at hcD
  ·rename_i c' d' cd' sl' ho
   have z:=(X _ _ ho).symm.trans htp;cases z
  ·cases hcD
 ca:=λX e k=>zS0 X C e k
end
section
variable{X:Cx}
theorem yH{B:aV}(hB:X.base=B):uS X (.builtin "isinstance") (λxs H Q=>∃(a D:af)(v:V)(c:ag)(b:Bool),xs=[.ref a,v]/\((∃ T,v=.ty T/\c=.type T)\/∃ C,v=.ref C/\c=.ref C)/\H a=some (zUf a (.ref D))/\(InB B λK=>cJ K (.ref D) c=some b/\zFk K D)/\Q (.bl b) H):=by
 subst hB;intro pins s σ H xs us Q I r h;obtain⟨a,D,v,c,b,rfl,hv,ha,⟨K,KB,e,C⟩,q⟩:=h;obtain⟨u,w,rfl,ru,rw_⟩:=yg6 r;cases ru;obtain⟨p,_⟩:=(show xD X.prog X.w H s.heap a (zUf a (.ref D)) from I.hok a _ ha);have hc:w=c:=by
  rcases hv with ⟨T,rfl,rfl⟩ | ⟨C,rfl,rfl⟩
  ·exact rw_
  ·exact rw_
 subst hc;exact b7 (zY6 C) (KB.keeps I.bk) p e (λz=>nomatch z) λtk=>⟨.bl b,H,I.tok tk,rfl,q⟩
theorem vS{x:aA}{pos:eS}{a:af}(hm:X.mg x=some (.ref a))(hg:Gl X x:=by rfl)(hd:(x ==("__debug__" : aA))=false:=by decide):PE X (.Name x pos) (tC (.ref a)):=λ_ _ _ H _ I h=>sO I hg hm ⟨.ref a,H,I,rfl,h⟩ hd
theorem zJs:bootBuiltins "ValueError" = some (.type "ValueError"):=by decide +kernel
end
end L2

namespace L2
open PySem PySem.Spec PyProof.Rows
abbrev TJ:=St->Hp->(Hp->Prop)->Prop
section
variable{X:Cx}{e:bu}{es:List bu}{t:TJ}{te:TE}{pos p:eS}{n:Nat}
def PJ(X:Cx)(es:List bu)(n:Nat)(t:TJ):Prop:=∀(pins:List (af×cz))(s:ai)(σ:St)(H:Hp)(k:Nat)(acc:aA)(Q:aA->ai->Prop)(C:Hp->Prop),Inv X pins σ H s->acc.length<=2000*k->k+n<=100 ->
 t σ H C->(∀(H':Hp)(out:aA)(s':ai),C H'->out.length<=200000->Inv X pins σ H' s'->Q out s')->Joins (model X.prog X.w) X.A X.xe (evalEach es X.env) acc Q s
def zSg:TJ:=λ_ H K=>K H
def zY0(te:TE)(t:TJ):TJ:=λσ H K=>te σ H λv H1=>((∃ i,v=.int i/\i.natAbs.log2<1920)\/∃ x,v=.str x/\x.length<=1000)/\t σ H1 K
theorem sU:PJ X [] 0 zSg:=λ_ s _ H _ acc _ _ I h hk q z=>z H acc s q (by lia) I
theorem wX{c:aA}{j:Nat}(ht:PJ X es n t)(hc:c.length<=1000:=by decide)(he:evalEach (.Constant (.str c) j p::es) X.env=eval (.Constant (.str c) j p) X.env::evalEach es X.env:=by rfl):PJ X (.Constant (.str c) j p::es) (n+1) t:=by
 intro pins s σ H k acc Q C I h hk q z;rw[he];refine jq ⟨c,_,rfl,?_,?_⟩
 ·rw[strLen_append];show acc.length+c.length<=2^24;lia
 ·exact ht pins _ σ H (k+1) _ _ C (I.tok _) (by rw[strLen_append]; lia) (by lia) q z
theorem zDb(hv:PE X e te)(ht:PJ X es n t)(he:evalEach (.FormattedValue e (-1) none p::es) X.env=eval (.FormattedValue e (-1) none p) X.env::evalEach es X.env:=by rfl):PJ X (.FormattedValue e (-1) none p::es) (n+1) (zY0 te t):=by
 intro pins s σ H k acc Q C I h hk q z;rw[he];refine gD (thn (hv pins s σ H _ I q) λu s1 ⟨v,H1,I1,r,c,q1⟩=>?_);rcases c with ⟨i,rfl,hi⟩ | ⟨x,rfl,hx⟩
 ·obtain⟨tk,rfl⟩:=(show ∃ t,u=dH i t from r);have l:=int_text_length_le (k:=1920) (by decide) hi;rw[<- eA] at l;refine iO hi ⟨_,_,rfl,?_,?_⟩
  ·rw[strLen_append];show acc.length+_<=2^24;lia
  ·exact ht pins _ σ H1 (k+1) _ _ C (I1.tok _) (by rw[strLen_append]; lia) (by lia) q1 z
 ·obtain⟨tk,rfl⟩:=(show ∃ t,u=cB x t from r);have key:∀(t':nh)(tk':Nat),∃ y t,cB x t'=.str y t/\(acc++y).length<=sizeLine/\Joins (model X.prog X.w) X.A X.xe (evalEach es X.env) (acc++y) Q { s1 with toks:=tk' }:=λt' tk' =>
   ⟨x,t',rfl,by rw[strLen_append]; show acc.length+x.length<=2^24; lia,ht pins _ σ H1 (k+1) _ _ C (I1.tok _) (by rw[strLen_append]; lia) (by lia) q1 z⟩
  exact formatField_str (λt' tk'=>key t' tk') (by show x.length<=2^24; lia)
def zRb(t:TJ):TE:=λσ H Q=>t σ H λH'=>∀ x:aA,x.length<=200000->Q (.str x) H'
theorem wU{a b:bu}(ht:PJ X (a::b::es) n t)(hn:n<=100:=by decide):PE X (.JoinedStr (a::b::es) pos) (zRb t):=by
 intro pins s σ H Q I h;exact wpAny_JoinedStr (ht pins s σ H 0 mG _ _ I (by decide) (by lia) h λH' out s' c l I'=>⟨by show out.length<=2^24; lia,.str out,H',I'.tok _,⟨_,rfl⟩,c out l⟩)
end
def bmV:List ag:=[.type "ValueError",.type "Exception",.type "BaseException",.type "object"]
end L2

namespace L2
open PySem PySem.Spec PyProof.Rows
theorem zU2(w:aT)(x:aA):keyH w (.inr x)=gc w.params x:=rfl
theorem zT8{P:aK}{w:aT}{B:aV}{a:af}{l:List (aA×Nat×V×ag)}{ep:Nat}(h:B.get? a=some ⟨.type "dict",none,.dict ((l.map λe=>(⟨gc w.params e.1,.str e.1 e.2.1,e.2.2.2⟩:df)).toArray) ep,#[]⟩)
  (r:∀ e∈l,xE e.2.2.1 e.2.2.2) (nd:(l.map (·.1)).Nodup):zZu P w B a (l.map λe=>(.inr e.1,e.2.2.1)):=by
 refine⟨l.map λe=>(.inr e.1,e.2.2.2),?_,_,_,ep,h,⟨U,U,U⟩,U,λe he=>?_,?_,?_⟩
 ·clear h nd
  induction l with
  | nil=>exact .nil
  | cons e l ih=>exact .cons ⟨rfl,r e (.head _)⟩ (ih λe he=>r e (.tail _ he))
 ·have he:e∈l.map λe=>(⟨gc w.params e.1,.str e.1 e.2.1,e.2.2.2⟩:df):=by simpa using he
  obtain⟨q,_,rfl⟩:=aC.mp he;exact⟨.inr q.1,zBy P w q.1 q.2.1,(zU2 w q.1).symm⟩
 ·rw[List.toList_toArray];clear h nd r
  induction l with
  | nil=>exact .nil
  | cons e l ih=>exact .cons (zBy P w e.1 e.2.1) rfl ih
 ·rw[bp];have:((λe:Key×ag=>e.1) ∘ λe:aA×Nat×V×ag=>((.inr e.1:Key),e.2.2.2))=(λx:aA=>(.inr x:Key)) ∘ λe=>e.1:=rfl;rw[this,<- bp];refine dB.mpr (jQ.mpr ((dB.mp nd).imp λn z=>n ?_));injection z
def zW4(es:Array df):Bool:=es.toList.all λe=>match e.key with | .str _ _=>true | _=>false
theorem zS9{es:Array df}(h:zW4 es=true):StrKeys es:=λe he=>by
 have:=bH.mp h e (by simpa using he);cases q:e.key <;> rw[q] at this <;> first | exact⟨_,_,U⟩ | cases this
def zO8(K:ae)(N:af):Bool:=match K.lookup N with
 | some ⟨_,_,.dict es _,_⟩=>zW4 es&&(nsFind es "__init__").isNone
 | _=>false
theorem zKx{K:ae}{B:aV}{N:af}(X:K.In B)(h:zO8 K N=true):∃ m,B.Ns N m/\m "__init__" = none:=by
 unfold zO8 at h;split at h
 ·rename_i c d es ep sl q
  rw[aZ] at h;exact⟨nsFind es,⟨_,es,ep,X _ _ q,U,zS9 h.1,λ_=>rfl⟩,by simpa using h.2⟩
 ·cases h
def zOj(K:ae):List ag->Bool
 | []=>false
 | .ref A::tl=>(match K.lookup A with | some ⟨_,_,.cls cd,_⟩=>zO8 K cd.ns&&zOj K tl | _=>false)
 | v::tl=>(v::tl) == bmV
theorem zLl{K:ae}{B:aV}(X:K.In B):∀{tl:List ag},zOj K tl=true->OwnTail B bmV tl
 | [],h=>by cases h
 | .ref A::tl,h=>by
  unfold zOj at h;split at h
  ·rename_i c d cd sl q
   rw[aZ] at h;obtain⟨m,h1,h2⟩:=zKx X h.1;exact .own (X _ _ q) h1 h2 (zLl X h.2)
  ·cases h
 | .type T::tl,h=>by
  have e:(kX T::tl)=bmV:=beq_iff_eq.mp h;rw[e];exact .base
 | .none::tl,h=>by have e:(bg::tl)=bmV:=beq_iff_eq.mp h; rw[e]; exact .base
 | .bool b::tl,h=>by have e:(h9 b::tl)=bmV:=beq_iff_eq.mp h; rw[e]; exact .base
 | .int i t::tl,h=>by have e:(dH i t::tl)=bmV:=beq_iff_eq.mp h; rw[e]; exact .base
 | .float i t::tl,h=>by have e:(iS i t::tl)=bmV:=beq_iff_eq.mp h; rw[e]; exact .base
 | .str i t::tl,h=>by have e:(cB i t::tl)=bmV:=beq_iff_eq.mp h; rw[e]; exact .base
 | .bytes i t::tl,h=>by have e:(kJ i t::tl)=bmV:=beq_iff_eq.mp h; rw[e]; exact .base
 | .builtin i::tl,h=>by have e:(eZ i::tl)=bmV:=beq_iff_eq.mp h; rw[e]; exact .base
def yb2(K:ae)(C:af):Bool:=match K.lookup C with
 | some ⟨.type "type",_,.cls cd,sl⟩=>(match cd.mro,sl.toList with
  | .ref C'::bm,[_,_,_,_,some (.builtin n),_]=>C' == C&&(!cd.hasDel&&(n == "ValueError.__new__" && (zO8 K cd.ns&&zOj K bm)))
  | _,_=>false)
 | _=>false
theorem xI{K:ae}{B:aV}{C:af}{x:aA}{mg:aA->Option ag}(X:K.In B)(hm:mg x=some (.ref C))(q:yb2 K C=true):bo x C bmV "ValueError.__new__" mg B:=by
 unfold yb2 at q;split at q
 ·rename_i dd cd sl ho
  split at q
  ·rename_i C' bm k0 k1 k2 k3 n k5 hm' hs
   simp only[aZ,beq_iff_eq,Bool.not_eq_true'] at q;obtain⟨rfl,hdel,rfl,hi,ht⟩:=q;obtain⟨nm,bs,mro,ns,qn,hd,sn,sub,ab,col,del⟩:=cd;dsimp only at hm' hdel hi;subst hm' hdel;have hsl:sl = #[k0,k1,k2,k3,some (.builtin "ValueError.__new__"),k5]:=by
    obtain⟨l⟩:=sl;simp only at hs;rw[hs]
   subst hsl;obtain⟨m,h1,h2⟩:=zKx X hi;exact⟨hm,bm,ns,nm,qn,bs,hd,sn,sub,ab,col,dd,k0,k1,k2,k3,k5,m,X _ _ ho,h1,h2,zLl X ht⟩
  ·cases q
 ·cases q
theorem zOp{F K:ae}{a:af} : bF a (F++K)=match bF a F with | some o=>some o | none=>bF a K:=by
 induction F with
 | nil=>rfl
 | cons e F ih =>
  rw[kB,be,be];cases a == e.1 with
  | true=>rfl
  | false=>exact ih
theorem zI4:∀{F:ae}{a:af}{o:cz},bF a F=some o->(a,o)∈F
 | [],_,_,h=>by cases h
 | (b,u)::F,a,o,h=>by
  rw[be] at h;cases z:a == b with
  | true =>
   rw[z] at h;cases h;rw[beq_iff_eq.mp z];exact .head _
  | false =>
   rw[z] at h;exact .tail _ (zI4 h)
theorem zVx{F K:ae}{h:aV}(n:(F.map (·.1)).all (λa=>(bF a K).isNone)=true)(X:bT (F++K) h):bT K h:=λa o q=>X a o (by
 rw[zOp];cases z:bF a F with
 | none=>exact q
 | some u =>
  have m:a∈F.map (·.1):=aC.mpr ⟨(a,u),zI4 z,rfl⟩;have:=bH.mp n a m;rw[q] at this;cases this)
theorem zRr{F K:ae}{a:af}{o:cz}(n:(F.map (·.2.cls)).all (λc=>!(c == .type "list"))=true)(h:bF a (F++K)=some o)(c:o.cls=.type "list"):bF a K=some o:=by
 rw[zOp] at h;cases z:bF a F with
 | none=>rw[z] at h; exact h
 | some u =>
  rw[z] at h;have h:some u=some o:=h;injection h with h
  subst h;have:=bH.mp n u.cls (aC.mpr ⟨(a,u),zI4 z,rfl⟩);rw[c] at this;simp at this
theorem walk_of3{l:iE}{n k:Nat}{q:aK}{loose:List aA}{XP:(aA->Option ag)->aV->Prop}{YP:aT->aV->Prop}{d:DefRec}{KK:eh->ae}{K:ae}{sp:Sp}{x:aA}
  (hn:l.most=some n) (hn2:n<=sizeLine) (hdf:d.params.defaults=[]) (hr:qO k callerA)
  (hY:∀(w:aT)(h:aV),YP w h->(KK w.params).In h) (sub:∀(p:eh)(h:aV),(KK p).In h->K.In h) (past:∀(p:eh)(a:af)(o:cz),bF a (KK p)=some o->o.cls=.type "list" -> bF a K=some o)
  (F:∀(w:aT)(mg:aA->Option ag)(fa:af)(h:aV),(KK w.params).In h->h.Ns mainGlobals mg->mg d.name=some (.ref fa) ->
   ∃ fd:bP,(∀(s:ai)(u:ag),ii s fd ⟨[u],[]⟩ [(x,u)]) /\
    ∀ base:aV,(KK w.params).In base->base.Ns mainGlobals mg->yQ l.prog w K mg base CX0 k fa fd [x] sp)
  (hsp:∀(H:Hp)(a:af)(ns:List Int),ns.length<=n->SqL K H a (ns.map V.int)->sp [.ref a] H (λv _=>v=.bl true) λ_ _ _=>False) :
  mv q loose XP YP l.row.toRowW d [] (λf vs=>lq f vs):=by
 refine Att.attach_call hn hdf λw s₀ s₁ mg mb fa o pm cd doc a vs ns G Y ho hd hcd hmg hobj hints hlen hg=>?_;have KX:=hY w _ Y;obtain⟨fd,hb,hF⟩:=F w mg fa _ KX G.T.g hmg;refine zU1 (K:=KK w.params) KX G.T.g G.T.b G.T.builtins G.T.nolimit hg hobj hints (aJ hlen hn2) hr (λbase hK hN=>(hF base hK hN).withK (sub _ _ hK)) hb (λH hO hS=>hsp H a ns hlen ?_) λH e s' z=>z;rcases hS with h | ⟨o,its,n,h1,h2,h3⟩
 ·exact .inl h
 ·exact .inr ⟨o,its,n,past _ _ _ h1 h2,h2,h3⟩
end L2

namespace Sea
open PySem L2
section
variable{H:Hp}{v:V}
theorem zCa{n:aA}{x y:Int}(h:Rep H (Deed.move n x y).dt v):∃ a,v=.ref a/\H a=some (.tup [.str "move",.str n,.int x,.int y]):=by
 obtain⟨a,xs,e,h1,h2⟩:=yD.mp h;obtain⟨_,_,rfl,k1,h2⟩:=zL.mp h2;obtain⟨_,_,rfl,k2,h2⟩:=zL.mp h2;obtain⟨_,_,rfl,k3,h2⟩:=zL.mp h2;obtain⟨_,_,rfl,k4,h2⟩:=zL.mp h2;rw[zU.mp k1,zU.mp k2,zZ.mp k3,zZ.mp k4,yF.mp h2] at h1;exact⟨a,e,h1⟩
theorem sQ{n:aA}(h:Rep H (Deed.unmark n).dt v):∃ a,v=.ref a/\H a=some (.tup [.str "unmark",.str n]):=by
 obtain⟨a,xs,e,h1,h2⟩:=yD.mp h;obtain⟨_,_,rfl,k1,h2⟩:=zL.mp h2;obtain⟨_,_,rfl,k2,h2⟩:=zL.mp h2;rw[zU.mp k1,zU.mp k2,yF.mp h2] at h1;exact⟨a,e,h1⟩
theorem qA{n:aA}(h:Rep H (Deed.level n).dt v):∃ a,v=.ref a/\H a=some (.tup [.str "level",.str n]):=by
 obtain⟨a,xs,e,h1,h2⟩:=yD.mp h;obtain⟨_,_,rfl,k1,h2⟩:=zL.mp h2;obtain⟨_,_,rfl,k2,h2⟩:=zL.mp h2;rw[zU.mp k1,zU.mp k2,yF.mp h2] at h1;exact⟨a,e,h1⟩
theorem qH{k x y:Int}(h:Rep H (Deed.right k x y).dt v):∃ a,v=.ref a/\H a=some (.tup [.str "right",.int k,.int x,.int y]):=by
 obtain⟨a,xs,e,h1,h2⟩:=yD.mp h;obtain⟨_,_,rfl,k1,h2⟩:=zL.mp h2;obtain⟨_,_,rfl,k2,h2⟩:=zL.mp h2;obtain⟨_,_,rfl,k3,h2⟩:=zL.mp h2;obtain⟨_,_,rfl,k4,h2⟩:=zL.mp h2;rw[zU.mp k1,zZ.mp k2,zZ.mp k3,zZ.mp k4,yF.mp h2] at h1;exact⟨a,e,h1⟩
structure yh4(H:Hp)(cs:List (Int×Int))(ps:List Pr):Prop where
 mk ::
 pt:ps.map (·.2)=cs
 at_:∀ t∈ps,H t.1=some (.tup [.int t.2.1,.int t.2.2])
theorem zId:∀{cs:List (Int×Int)}{xs:List V},wC H (cs.map ptD) xs->∃ ps:List Pr,xs=wI ps/\yh4 H cs ps
 | [],_,h=>⟨[],yF.mp h,rfl,λt ht=>(nomatch ht)⟩
 | c::cs,_,h=>by
  obtain⟨x,r,rfl,h1,h2⟩:=zL.mp h;obtain⟨a,rfl,ha⟩:=zBv h1;obtain⟨ps,rfl,e,h3⟩:=zId h2;refine⟨(a,c)::ps,U,by rw[aQ,e],λt ht=>?_⟩;rcases aD.mp ht with z | z
  ·rw[z]; exact ha
  ·exact h3 t z
theorem zAw{n:aA}{cs:List (Int×Int)}(h:Rep H (Deed.bank n cs).dt v):∃(a c:af)(ps:List Pr),v=.ref a/\H a=some (.tup [.str "bank",.str n,.ref c])/\H c=some (.tup (wI ps))/\yh4 H cs ps/\Rep H (.tup (cs.map ptD)) (.ref c):=by
 obtain⟨a,xs,e,h1,h2⟩:=yD.mp h;obtain⟨_,_,rfl,k1,h2⟩:=zL.mp h2;obtain⟨_,_,rfl,k2,h2⟩:=zL.mp h2;obtain⟨_,_,rfl,k3,h6⟩:=zL.mp h2;obtain⟨c,ys,rfl,h3,h4⟩:=yD.mp k3;obtain⟨ps,rfl,h5⟩:=zId h4;have e6:=yF.mp h6;rw[zU.mp k1,zU.mp k2,e6] at h1;exact⟨a,c,ps,e,h1,h3,h5,k3⟩
end
theorem yg8{ps:List Pr} : isB ps=zKv (ps.map (·.2)):=by
 have e:∀ i,ptA ((ps.map (·.2)).map λc=>((0,c):af×Int×Int)) i=ptA ps i:=λi=>by
  unfold ptA;rw[av,av];cases ps[i]? <;> rfl
 have l:((ps.map (·.2)).map λc=>((0,c):af×Int×Int)).length=ps.length:=by rw[ac,ac]
 unfold zKv isB tF zQj;simp only[e,l]
theorem zT3{S:BS}{n:aA}{x y:Int}(h:(zQ S n).isSome=true):zWy (mkE S.marks) (.inr n) (ptD (x,y))=mkE (aft S (.move n x y)).marks:=by
 have any:(mkE S.marks).any (λe=>decide (e.1=.inr n))=true:=by
  obtain⟨p,e⟩:=aL.mp h;exact fE.mpr ⟨(.inr n,ptD p),aC.mpr ⟨(n,p),zIj e,rfl⟩,by simp⟩
 unfold zWy;rw[if_pos any];show _=mkE (S.marks.map _);unfold mkE;rw[bp,bp];refine jg λe _=>?_;show(if (dX e.1:Key)=dX n then((dX e.1:Key),ptD (x,y)) else(dX e.1,ptD e.2))=_;by_cases z:e.1=n
 ·rw[if_pos (by rw[z])];show _=((dX (if e.1=n then(e.1,x,y) else e).1:Key),ptD (if e.1=n then(e.1,x,y) else e).2);rw[if_pos z]
 ·rw[if_neg (λq=>z (kI q))];show _=((dX (if e.1=n then(e.1,x,y) else e).1:Key),ptD (if e.1=n then(e.1,x,y) else e).2);rw[if_neg z]
theorem zPh(l:List (aA×Int×Int))(n:aA):zLr (mkE l) (.inr n)=mkE (l.filter λe=>decide (e.1≠n)):=by
 unfold zLr mkE;rw[iC]
 congr 1
 refine gU λe _=>?_;simp
theorem zI6(l:List (aA×List (Int×Int))):(bkE l).length=l.length:=by unfold bkE; rw[ac]
theorem zR3(l:List (aA×List (Int×Int)))(n:aA)(cs:List (Int×Int)):bkE (l++[(n,cs)])=bkE l++[(.inr n,.tup (cs.map ptD))]:=by
 unfold bkE;rw[aG];rfl
theorem zN8(l:List (aA×List (Int×Int)))(n:aA):zLr (bkE l) (.inr n)=bkE (l.filter λe=>decide (e.1≠n)):=by
 unfold zLr bkE;rw[iC]
 congr 1
 refine gU λe _=>?_;simp
theorem zJw{l:List (aA×List (Int×Int))}{n:aA}(h:n ∉ l.map (·.1)):∀ e∈bkE l,e.1≠.inr n:=λe he z=>by
 unfold bkE at he;obtain⟨q,hq,rfl⟩:=aC.mp he;exact h (aC.mpr ⟨q,hq,kI z⟩)
theorem zFd{es:List (Key×Dt)}{k:Key}(h:∀ e∈es,e.1≠k):look es k=none:=by
 unfold look;rw[ip,d5];exact λe he z=>h e he (of_decide_eq_true z)
theorem zYr{es:List (Key×Dt)}{k:Key}(h:k∈es.map (·.1)):∃ d,look es k=some d:=by
 obtain⟨e,he,rfl⟩:=aC.mp h;unfold look;cases q:es.find? λx=>decide (x.1=e.1) with
 | none=>exact absurd (d5.mp q e he) (by simp)
 | some x=>exact⟨x.2,U⟩
theorem zWw{l:List (aA×List (Int×Int))}{n:aA}(h:n∈l.map (·.1)):∃ d,look (bkE l) (.inr n)=some d:=zYr (by
 obtain⟨e,he,rfl⟩:=aC.mp h;exact aC.mpr ⟨_,aC.mpr ⟨e,he,rfl⟩,rfl⟩)
theorem zXe:∀{l:List (Int×Int)}{k i:Nat}{p:Int×Int},((l.zipIdx k).map λe=>((.inl (e.2:Int):Key),ptD e.1)).map (λe=>if e.1=.inl ((k+i:Nat):Int) then(e.1,ptD p) else e)=((l.set i p).zipIdx k).map λe=>((.inl (e.2:Int):Key),ptD e.1)
 | [],_,_,_=>rfl
 | q::l,k,0,p=>by
  rw[List.set_cons_zero,cW,cW,aQ,aQ,aQ,if_pos (by rfl)]
  congr 1
  rw[jg (g:=id),List.map_id];intro e he;obtain⟨u,hu,rfl⟩:=aC.mp he;rw[if_neg]
  ·rfl
  intro z;injection z with z
  have:=List.le_snd_of_mem_zipIdx hu;simp at z;lia
 | q::l,k,i+1,p=>by
  have ih:=zXe (l:=l) (k:=k+1) (i:=i) (p:=p);rw[show k+1+i=k+(i+1) by lia] at ih;rw[List.set_cons_succ,cW,cW,aQ,aQ,aQ,ih,if_neg];intro z;injection z with z
  simp at z;lia
theorem zXr{l:List (Int×Int)}{i:Nat}{p:Int×Int}(h:i<l.length):zWy (rnE l) (.inl (i:Int)) (ptD p)=rnE (l.set i p):=by
 have e:=zIy (k:=0) (aj h);rw[iq] at e;have any:(rnE l).any (λe=>decide (e.1=.inl (i:Int)))=true:=by
  cases q:(rnE l).any (λe=>decide (e.1=.inl (i:Int))) with
  | true=>rfl
  | false =>
   have:=zFd (es:=rnE l) (k:=.inl (i:Int)) λe he z=>by
    have:=jD.mp q e he;simp[z] at this
   rw[show look (rnE l) (.inl (i:Int))=_ from e] at this;cases this
 unfold zWy;rw[if_pos any];have:=zXe (l:=l) (k:=0) (i:=i) (p:=p);rw[iq] at this;exact this
theorem wC.set{H:Hp}{d:Dt}{v:V}(h:Rep H d v):∀{l:List Dt}{xs:List V}(i:Nat),wC H l xs->wC H (l.set i d) (xs.set i v)
 | [],_,i,q=>by rw[yF.mp q]; exact yF.mpr rfl
 | d'::l,_,0,q=>by
  obtain⟨x,r,rfl,h1,h2⟩:=zL.mp q;exact zL.mpr ⟨v,r,rfl,h,h2⟩
 | d'::l,_,i+1,q=>by
  obtain⟨x,r,rfl,h1,h2⟩:=zL.mp q;exact zL.mpr ⟨x,_,rfl,h1,wC.set h i h2⟩
theorem ya3{n i:Nat}(h:i<n):ixN n (i:Int)=some i:=by
 unfold ixN;simp;lia
end Sea

namespace L2
open PySem PySem.Spec PyProof.Rows
def isS(n:aA):V->Bool
 | .str z=>z == n
 | _=>false
def rInM(K:ae):R2:=λx y H Q=>∃(p:af)(xs:List V)(n:aA),y=.ref p/\x=.str n/\SqT K H p xs/\(∀ v∈xs,(∃ z,v=.str z)\/∃ a ys,v=.ref a/\SqT K H a ys)/\Q (.bl (xs.any (isS n))) H
section
variable{X:Cx}
theorem zQ8(hu:X.A.units+1<cLine):OpR X (compareOp .In) (rInM X.K):=by
 intro pins s σ H x y v u Q I rx ry h;obtain⟨p,xs,n,rfl,rfl,hq,ok,q⟩:=h;cases ry;obtain⟨t,rfl⟩:=rx;obtain⟨its,r,pl,hz⟩:=I.tuple hq;have key:∀{xs:List V}{us:List ag},yV xs us->(∀ v∈xs,(∃ z,v=.str z)\/∃ a ys,v=.ref a/\SqT X.K H a ys)->(∀ u∈us,ju X.A.in1 s u (.str n t) (eqU (.str n) u))/\us.any (eqU (.str n))=xs.any (isS n):=by
  intro xs us hv
  induction hv with
  | nil=>exact λ_=>⟨λu hu=>(nomatch hu),rfl⟩
  | @cons y u xs us r _ ih =>
   intro ok;obtain⟨h1,h2⟩:=ih λv hv=>ok v (.tail _ hv);rcases ok y (.head _) with ⟨z,rfl⟩ | ⟨a,ys,rfl,ha⟩
   ·obtain⟨t',rfl⟩:=r;refine⟨λw hw=>?_,by rw[cD,cD,h2]; rfl⟩;rcases aD.mp hw with rfl | hw
    ·exact jw z t' n t
    ·exact h1 w hw
   ·cases r;obtain⟨_,_,pa,_⟩:=I.tuple ha;refine⟨λw hw=>?_,by rw[cD,cD,h2]; rfl⟩;rcases aD.mp hw with rfl | hw
    ·exact SeqAt.EqAt.tuple_str n t pa hu
    ·exact h1 w hw
 obtain⟨h1,h2⟩:=key r ok;refine kh (eqU (.str n)) pl (λw hw=>h1 w (by simpa using hw)) ⟨.bl _,H,I,rfl,?_⟩;rw[show its.toArray.any (eqU (.str n))=its.any (eqU (.str n)) by simp,h2];exact q
end
theorem Same.seqT{K:ae}{H H':Hp}{a:af}{xs:List V}(e:Same H H')(h:SqT K H a xs):SqT K H' a xs:=by
 rcases h with (h | ⟨o,h⟩) | h
 ·exact .inl (.inl (e _ _ h))
 ·exact .inl (.inr ⟨o,e _ _ h⟩)
 ·exact .inr h
theorem Same.sq{K:ae}{H H':Hp}{l:af}{xs:List V}(s:Same H H')(h:Sq K H l xs):Sq K H' l xs:=by
 rcases h with h | h
 ·exact .inl (s.seq h)
 ·exact .inr (s.seqT h)
end L2

namespace Sea
open PySem L2
def BkL(C:af)(H:Hp)(b p l:af)(S:BS)(past later:List (Deed×BS)):Prop:=∃ dx d ps ls,BkA C H b p dx d l ps ls S past later
section
variable{H H1:Hp}
theorem BkL.to{C b p l:af}{S:BS}{past later:List (Deed×BS)}(k:BkL C H b p l S past later)(s:Sam H H1):BkL C H1 b p l S past later:=let ⟨dx,d,ps,ls,q⟩:=k;⟨dx,d,ps,ls,q.to s⟩
theorem BkL.at{C b p l:af}{S:BS}{past later:List (Deed×BS)}(k:BkL C H b p l S past later):zMx C H b p S past later:=let ⟨dx,d,ps,ls,q⟩:=k;⟨dx,d,l,ps,ls,q⟩
theorem uU.get:∀{r:List (Deed×BS)}{xs:List V}{i:Nat}{x:V},uU H r xs->xs[i]?=some x->∃(e:Deed×BS)(t d:af)(v:V),r[i]?=some e/\x=.ref t/\H t=some (.tup [v,.ref d])/\Rep H e.1.dt v
 | [],xs,i,x,h,e=>by
  have h:xs=[]:=h;rw[h] at e;simp at e
 | (D,S)::r,xs,0,x,h,e=>by
  obtain⟨t,d,v,ys,rfl,h1,h2,_⟩:=h;simp at e;exact⟨(D,S),t,d,v,U,e.symm,h1,h2⟩
 | (D,S)::r,xs,i+1,x,h,e=>by
  obtain⟨t,d,v,ys,rfl,_,_,_,h4⟩:=h;obtain⟨e',t',d',v',g,k⟩:=uU.get (i:=i) (x:=x) h4 (by simpa using e);exact⟨e',t',d',v',by simpa using g,k⟩
end
end Sea

namespace Sea
open PySem L2
mutual
def zDa:Dt->List aA
 | .int i=>[aO (toString i)]
 | .str x=>[x]
 | .tup l=>zAy l
def zAy:List Dt->List aA
 | []=>[]
 | d::l=>zDa d++zAy l
end
def zI5:Nat->Dt->Prop
 | _,.int i=>i.natAbs.log2<1920
 | _,.str x=>x.length<=1921
 | 0,.tup _=>False
 | n+1,.tup l=>l.length<=900/\∀ d∈l,zI5 n d
mutual
theorem zSb:∀(n:Nat)(d:Dt),zI5 n d->∀ w∈zDa d,w.length<=1921
 | n,.int i,h,w,hw=>by
  have h:i.natAbs.log2<1920:=by cases n <;> exact h
  rw[zDa] at hw;rw[au.mp hw,eA];exact int_text_length_le (k:=1920) (by decide) h
 | n,.str x,h,w,hw=>by
  have h:x.length<=1921:=by cases n <;> exact h
  rw[zDa] at hw;rw[au.mp hw];exact h
 | 0,.tup _,h,_,_=>h.elim
 | n+1,.tup l,h,w,hw=>by
  rw[zDa] at hw;exact zIf n l h.2 w hw
theorem zIf:∀(n:Nat)(l:List Dt),(∀ d∈l,zI5 n d)->∀ w∈zAy l,w.length<=1921
 | _,[],_,w,hw=>by rw[zAy] at hw; exact nomatch hw
 | n,d::l,h,w,hw=>by
  rw[zAy] at hw;rcases aS.mp hw with z | z
  ·exact zSb n d (h d (.head _)) w z
  ·exact zIf n l (λd hd=>h d (.tail _ hd)) w z
end
mutual
def qB:Dt->List Dt
 | .int i=>[.int i]
 | .str x=>[.str x]
 | .tup l=>sY l
def sY:List Dt->List Dt
 | []=>[]
 | d::l=>qB d++sY l
end
def w1:Dt->aA
 | .int i=>aO (toString i)
 | .str x=>x
 | .tup _=>mG
mutual
theorem zLn:∀ d:Dt,zDa d=(qB d).map w1
 | .int i=>by rw[zDa,qB]; rfl
 | .str x=>by rw[zDa,qB]; rfl
 | .tup l=>by rw[zDa,qB]; exact zCq l
theorem zCq:∀ l:List Dt,zAy l=(sY l).map w1
 | []=>by rw[zAy,sY]; rfl
 | d::l=>by rw[zAy,sY,aG,zLn d,zCq l]
end
mutual
theorem zRc:∀(n:Nat)(d:Dt),zI5 n d->∀ e∈qB d,zI5 0 e
 | n,.int i,h,e,he=>by
  rw[qB] at he;rw[au.mp he];cases n <;> exact h
 | n,.str x,h,e,he=>by
  rw[qB] at he;rw[au.mp he];cases n <;> exact h
 | 0,.tup _,h,_,_=>h.elim
 | n+1,.tup l,h,e,he=>by
  rw[qB] at he;exact zHu n l h.2 e he
theorem zHu:∀(n:Nat)(l:List Dt),(∀ d∈l,zI5 n d)->∀ e∈sY l,zI5 0 e
 | _,[],_,e,he=>by rw[sY] at he; exact nomatch he
 | n,d::l,h,e,he=>by
  rw[sY] at he;rcases aS.mp he with z | z
  ·exact zRc n d (h d (.head _)) e z
  ·exact zHu n l (λd hd=>h d (.tail _ hd)) e z
end
end Sea

namespace L2
open PySem PySem.Spec PyProof.Rows
section
variable{X:Cx}
def rNeDK:R2:=λx y H Q=>∃(a b:af)(kvs:List (Key×V)),x=.ref a/\y=.ref b/\Rd H a (.dK kvs)/\H b=some (.dK [])/\Q (.bl (!kvs.isEmpty)) H
theorem zZi(hu:X.A.units<cLine):OpR X (compareOp .NotEq) rNeDK:=by
 intro pins s σ H x y v u Q I rx ry h;obtain⟨a,b,kvs,rfl,rfl,ha,hb,q⟩:=h;cases rx;cases ry;obtain⟨_,na,vs,r,da⟩:=ha.ok I.hok;obtain⟨_,nb,us,r',db⟩:=(show Rd H b (.dK []) from .inl hb).ok I.hok;have e0:us=[]:=fj.mp (by rw[<- r'.length]; rfl);subst e0;have hl:=r.length;have e:(!(vs.length ==([]:List (Key×ag)).length&&true)) = !kvs.isEmpty:=by
  rw[<- hl];cases kvs <;> rfl
 refine PySem.W.keq_ne (r:=true) na nb da db hu (λz=>?_) ?_
 ·rw[fj.mp z];exact .nil
 ·rw[e];exact⟨.bl _,H,I,U,q⟩
variable{e:bu}{te:TE}{st:bu}{ts:TO}{pos p2:eS}
end
end L2

namespace Sea
open PySem L2
theorem zVi{n:Nat}{x:aA}(h:x.length<=8):zI5 n (.str x):=by
 have:x.length<=1921:=by lia
 cases n <;> exact this
theorem zCv{n:Nat}{l:List Dt}(h:l.length<=900)(g:∀ d∈l,zI5 n d):zI5 (n+1) (.tup l):=⟨h,g⟩
structure Tame(S:BS)(k:Nat):Prop where
 mk ::
 ma:∀ e∈S.marks,wG e.1
 ba:∀ e∈S.banks,wG e.1
 ru:S.runs.length<=k
 no:∀ e∈S.notes,0<=e.1/\e.1<=S.coming
 co:0<=S.coming/\S.coming<=1+k
theorem dt2{P:Dt->Prop}{a b:Dt}(h1:P a)(h2:P b):∀ d∈[a,b],P d:=λd hd=>by
 rcases aD.mp hd with rfl | hd
 ·exact h1
 ·rw[au.mp hd]; exact h2
theorem dt3{P:Dt->Prop}{a b c:Dt}(h1:P a)(h2:P b)(h3:P c):∀ d∈[a,b,c],P d:=λd hd=>by
 rcases aD.mp hd with rfl | hd
 ·exact h1
 ·exact dt2 h2 h3 d hd
theorem dt4{P:Dt->Prop}{a b c e:Dt}(h1:P a)(h2:P b)(h3:P c)(h4:P e):∀ d∈[a,b,c,e],P d:=λd hd=>by
 rcases aD.mp hd with rfl | hd
 ·exact h1
 ·exact dt3 h2 h3 h4 d hd
def Bd(S:BS)(B:Nat):Prop:=∀ e∈S.marks,e.2.1.natAbs<=B/\e.2.2.natAbs<=B
structure GrowD(S:BS)(D:Deed)(B:Nat):Prop where
 mk ::
 ok:okD S D
 bd:Bd (aft S D) (B+5)
 lo:S.marks.length<=(aft S D).marks.length
 hi:(aft S D).marks.length<=S.marks.length+1
 bk:(aft S D).banks=S.banks
theorem yR.over{φ:af->Prop}{H H1 H2:Hp}{D:af}(s:yR φ H H1)(t:yR (λx=>x=D) H1 H2)(n:H1 D=none):yR φ H H2:=λx o hx e=>by
 rcases s x o hx e with e1 | ⟨ob,kvs,e0,e1⟩
 ·exact t x o (λz=>by rw[z,n] at e1; cases e1) e1
 ·subst e0;rcases t x _ (λz=>by rw[z,n] at e1; cases e1) e1 with e2 | ⟨_,_,z,_⟩
  ·exact .inr ⟨ob,kvs,rfl,e2⟩
  ·cases z
theorem zPn{φ:af->Prop}{H H':Hp}{a:af}{o:cz}{u:HO}(s:yR φ H H')(n:¬ φ a)(e:H a=some (.frz o u)):H' a=some (.frz o u):=by
 rcases s a _ n e with z | ⟨_,_,z,_⟩
 ·exact z
 ·cases z
end Sea

namespace L2
open PySem PySem.Spec PyProof.Rows
theorem zPx{P:aK}{w:aT}{H:Hp}{h:aV}{x:af}{cls:ag}(ok:xD P w H h x (zUf x cls)):zL7 h x:=by
 obtain⟨⟨ob,vs,h1,_,_,h4,h5⟩,_⟩:=ok;exact⟨ob,vs,h1,h4,h5⟩
def Exc(H:Hp)(x:af):Prop:=∃ cls,H x=some (zUf x cls)
section
variable{X:Cx}{pos:eS}
theorem Inv.alone{pins:List (af×cz)}{σ:St}{H:Hp}{s:ai}{x:af}(I:Inv X pins σ H s)(e:Exc H x):zL7 s.heap x:=let ⟨_,h⟩:=e; zPx (I.hok x _ h)
def gTupH(K:ae)(x:af)(n:Nat)(t:TGs):TG:=λv σ H Q=>Exc H x/\gTup K n t v σ H Q
theorem zYa{es:List bu}{k:Nat}{t:TGs}{n:Nat}{x:af}(hc:X.A.handled=some (.ref x))(h:PGs X es t)
  (hn:(assignEach es X.env).length=n:=by rfl) (hst:(assignEach es X.env).findIdx? (·.1)=none:=by rfl):PG X (.Tuple es k pos) (gTupH X.K x n t):=by
 intro pins s σ H v u Q I r hw;obtain⟨ex,a,xs,e1,hq,hl,hw⟩:=hw;subst e1;cases r;obtain⟨its,rv,ht,hz⟩:=I.tuple hq;refine zJj hc (I.alone ex) ht (by simp[hn,<- hl,rv.length]) hst λh' hx=>?_;have I1:Inv X pins σ H { s with heap:=h' }:=I.kept (t':=s.toks) λb o e=>hx b o (aP (aw e)) e;exact h pins _ σ H xs _ Q I1 (by simpa using rv) hw
end
def Itx(K:ae)(a x:af):It:=⟨(Itl K a).go,(Itl K a).yld,λi H=>(Itl K a).stop i H/\Exc H x⟩
section
variable{X:Cx}{pins:List (af×cz)}{s:ai}{σ:St}{H:Hp}{a it x:af}{i:Nat}{tg:bu}{E:ag->ai->Prop}
theorem zSf{h:aV}(st:h.IsListIter it a i):∀ b∈[it],∃ o,h.get? b=some o/\∀ v,o.data≠.cell v:=λb hb=>by
 rw[au.mp hb];obtain⟨o,e,c,d⟩:=st;exact⟨o,e,λv z=>by rw[d] at z; cases z⟩
theorem zTk{h h':aV}(st:h.IsListIter it a i)(k:∀ b∈[it],∀ o,h.get? b=some o->h'.get? b=some o):h'.IsListIter it a i:=st.at λo e=>k it (by simp) o e
theorem zYt(I:Inv X pins σ H s)(hf:∀ b∈[it],zNn X pins H b)(st:s.heap.IsListIter it a i)(hg:(Itx X.K a x).go i H) :
  wpAny (model X.prog X.w) X.A (pyNext (.ref it)) (λr s1=>∃ u,r=some u /\
   wpAny (model X.prog X.w) X.A (letOwnedTupleGo tg (.ref it) u) (λ_ s2=>∃ y H',Inv X pins σ H' s2/\xE y u/\(Itx X.K a x).yld i H y H'/\s2.heap.IsListIter it a (i+1)/\∀ b∈[it],H' b=none) E s1) E s:=by
 obtain⟨xs,y,hq,hy⟩:=hg;obtain⟨its,rv,p,hz⟩:=I.list hq;obtain⟨u,hu,ru⟩:=rv.get hy;obtain⟨f0,f1,f2,f3,f4,f5⟩:=hf it (by simp);refine ic st p.isList (x:=u) (by simpa using hu) λh' st' sb=>?_;have I1:Inv X pins σ H { s with heap:=h' }:=I.turned (t':=s.toks) (λb o hb e=>(sb.2 b hb).trans e) f0 f1 f3 f4 f5;obtain⟨o,e,c,d⟩:=id st';exact⟨u,U,zPv (s:={ s with heap:=h' }) e c d (by decide) ⟨y,H,I1,ru,⟨U,λys hy'=>by rw[I.list_inj hy' hq]; exact hy⟩,st',λb hb=>(hf b hb).1⟩⟩
theorem zYh(hc:X.A.handled=some (.ref x))(I:Inv X pins σ H s)(hf:∀ b∈[it],zNn X pins H b)(st:s.heap.IsListIter it a i)(hg:(Itx X.K a x).stop i H) :
  wpAny (model X.prog X.w) X.A (pyNext (.ref it)) (λr s1=>r=none/\Inv X pins σ H s1) E s:=by
 obtain⟨⟨xs,hq,hy⟩,ex⟩:=hg;obtain⟨its,rv,p,hz⟩:=I.list hq;obtain⟨f0,f1,f2,f3,f4,f5⟩:=hf it (by simp);have hl:=rv.length;have hxi:x≠it:=λz=>by
  obtain⟨cls,e⟩:=ex;rw[z,f0] at e;cases e
 exact zHb hc (I.alone ex) hxi st p.isList (by simp; lia) λh' eb=>⟨rfl,I.turned (t':=s.toks) (λb o hb e=>eb b o hb e) f0 f1 f3 f4 f5⟩
end
def PIH(X:Cx)(x:af)(iter:bu)(wi:TI):Prop:=∀(pins:List (af×cz))(s:ai)(σ:St)(H:Hp)(R:It->Hp->Prop),Inv X pins σ H s->wi σ H R ->
 wpAny (model X.prog X.w) X.A (eval iter X.env) (λv s1=>wpAny (model X.prog X.w) X.A (pyIter v) (λitv s2=>∃(it a:af)(H':Hp),itv=.ref it/\Inv X pins σ H' s2/\s2.heap.IsListIter it a 0/\(∀ b∈[it],zNn X pins H' b)/\R (Itx X.K a x) H') X.xe s1) X.xe s
def yb5(K:ae)(x:af)(tl:TE):TI:=λσ H R=>tl σ H λv H1=>∃ a,v=.ref a/\(∃ xs,SqL K H1 a xs)/\R (Itx K a x) H1
section
variable{X:Cx}
theorem zWa{l:bu}{tl:TE}(x:af)(hl:PE X l tl):PIH X x l (yb5 X.K x tl):=by
 intro pins s σ H R I h;refine thn (hl pins s σ H _ I h) λv s1 ⟨y,H1,I1,r1,q1⟩=>?_;obtain⟨a,e,⟨xs,hq⟩,q⟩:=q1;subst e;cases r1;obtain⟨its,rv,p,hz⟩:=I1.list hq;refine dN p.isList ?_;refine⟨s1.heap.objs.size,a,H1,U,I1.kept (t':=s1.toks) λb o e=>ah _ e,⟨_,ap _ rfl,U,U⟩,λb hb=>?_,q⟩;rw[au.mp hb];exact I1.fpOk (al _) (I1.hok.fresh (al _))
end
section
variable{X:Cx}{T:List aA}{caps:List (aA×Nat)}{scope:fg}{elt target iter:bu}{ifs:List bu}{pos:eS}{wi:TI}{g:CC->TG}{tt:CC->TT}{te:CC->TE}
theorem zUz{x:af}(S:zAh X caps scope)(hc:X.A.handled=some (.ref x))(hi:PIH X x iter wi)(hg:∀ c,PG (uE X (T++caps.map (·.1)) scope c) target (g c))(ht:∀ c,yh9 (uE X (T++caps.map (·.1)) scope c) ifs (tt c))(he:∀ c,PE (uE X (T++caps.map (·.1)) scope c) elt (te c))
  (hs:∀ x,foldedSetIterable iter X.env x=pure x:=by intro _; rfl):PE X (.ListComp elt [⟨target,iter,ifs,0⟩] scope pos) (yf8 T.length caps wi g tt te):=by
 intro pins s σ H Q I h;rw[eval_ListComp];refine gY (use:=none) rfl hs (zSr S.cells) S.kind S.loc (thn (hi pins s σ H _ I h) λv s1 h1=>thn h1 λitv s2 h2=>?_);obtain⟨it,a,H2,e,I2,st2,f2,q2⟩:=h2;subst e;refine bj (iV S.nocell (by intro y hy; simp at hy) (λh1 hn hsb=>?_) S.kind);dsimp only at hn hsb ⊢;generalize hg2:s2.heap.push { cls:=.type "list",dict:=none,data:=.seq ([]:List ag).toArray }=G at hn hsb ⊢;have hCv:G.objs.size=s2.heap.objs.size+1:=by rw[<- hg2,c7]
 have hDC:G.objs.size≠s2.heap.objs.size:=by rw[hCv]; exact kx _
 have hCle:s2.heap.objs.size<=G.objs.size:=by rw[hCv]; exact dZ _
 have old:∀ b o,s2.heap.get? b=some o->h1.get? b=some o:=λb o e=>hsb.extBut b o (aP (aR (aw e) hCle)) (ah _ (hg2 ▸ ah _ e));have hacc:∃ n,h1.get? s2.heap.objs.size=some { cls:=.type "list",data:=.seq ([]:List ag).toArray n }:=⟨_,hsb.extBut _ _ (cm hDC) (ah _ (hg2 ▸ ap _ rfl))⟩;have hfp:∀ b∈[it],b<s2.heap.objs.size:=λb hb=>by
  obtain⟨o,e,_⟩:=zSf st2 b hb;exact aw e
 have cs:=qX (env:=X.env) scope.names [] S.cells (λ_ _ z=>by cases z);have I0:=zH1 (T:=T) (tk:=s2.toks+([]:List (aA×ag)).length) S I2 f2 hfp (al _) hCle hDC old hacc hn;have st0:h1.IsListIter it a 0:=zTk st2 λb _ o e=>old b o e;obtain⟨W,⟨m0,w0⟩,turn⟩:=q2 ⟨G.objs.size,s2,H2,[it]⟩ s2.heap.objs.size (I2.hok.fresh (al _));have fr0:∀ b∈[it],upd H2 s2.heap.objs.size (.lst []) b=none:=λb hb=>by
  rw[zH (aP (hfp b hb))];exact(f2 b hb).1
 have stat:∀{H':Hp},(∀ b∈[it],H' b=none)->∀ b∈[it],zNn (uE X (T++caps.map (·.1)) scope ⟨G.objs.size,s2,H2,[it]⟩) [] H' b:=λ{H'} hn' b hb =>
  ⟨hn' b hb,aP (aR (hfp b hb) hCle),I0.ok.exfs b hb,.inl hb,λx c e=>(f2 b hb).2.2.2.2.1 x c (cs x c e),λp hp=>absurd (show p∈([]:List (af×cz)) from hp) (by simp)⟩
 have loop:codeAny (model X.prog X.w) X.A (.compLoop (.ListComp elt [⟨target,iter,ifs,0⟩] scope pos) 0 (.ref it) (.ref s2.heap.objs.size) (compEnvC scope (zCs X.env scope.names []) G.objs.size X.env))
   (compPost (model X.prog X.w) X.A X.xe none (EP X pins σ Q) (.ref s2.heap.objs.size) G.objs.size) { s2 with heap:=h1,toks:=s2.toks+([]:List (aA×ag)).length }:=by
  refine codeAny_loop rfl (λn s'=>∃ i σ' ys H',Inv (uE X (T++caps.map (·.1)) scope ⟨G.objs.size,s2,H2,[it]⟩) [] σ' H' s'/\s'.heap.IsListIter it a i/\(∀ b∈[it],H' b=none)/\W i n σ' ys H') (λn s3 hI=>?_) m0 ⟨0,_,[],_,I0,st0,fr0,w0⟩;obtain⟨i,σ3,ys,H3,I3,st3,fr3,w3⟩:=hI;show wpAny _ X.A ((compTurn (.ListComp elt [⟨target,iter,ifs,0⟩] scope pos) 0 (.ref it) (.ref s2.heap.objs.size) (compEnvC scope (zCs X.env scope.names []) G.objs.size X.env)).onRaise (λx=>do noteFrame x (compEnvC scope (zCs X.env scope.names []) G.objs.size X.env); theTreesLotGoes x)) _ _ s3;refine wpAny_noted ?_;rw[compTurn_list];refine aa (fH (aa ?_));obtain⟨hD3,turn3⟩:=turn i n σ3 ys H3 w3;rcases turn3 with ⟨stop,qn⟩ | ⟨go,N,hN,step⟩
  ·refine zOu (zYh (X:=uE X (T++caps.map (·.1)) scope ⟨G.objs.size,s2,H2,[it]⟩) hc I3 (stat fr3) st3 stop) λr s4 ⟨hr,I4⟩=>?_;subst hr;refine ak ?_;show ∃ m,s4.heap.Ns G.objs.size m/\∀ h',cI G.objs.size s4.heap h'->EP X pins σ Q (.ref s2.heap.objs.size) { s4 with heap:=h' };obtain⟨m4,hn4,_⟩:=I4.loc;refine⟨m4,hn4,λh' sb=>⟨.ref s2.heap.objs.size,H3,?_,U,qn⟩⟩;refine I2.call' (s':={ s4 with heap:=h' }) (ch:=[it]) I4.os (Un.same I4.base sb (fI hCle)) (HOk.same I4.hok sb I4.free) I4.bare λb hb=>?_;obtain⟨_,f1,_,f3,f4,f5⟩:=f2 b hb;exact⟨f3,f1,f4,f5⟩
  ·refine zOu (zYt (tg:=target) (X:=uE X (T++caps.map (·.1)) scope ⟨G.objs.size,s2,H2,[it]⟩) I3 (stat fr3) st3 go) λr s4 ⟨u,hr,h4⟩=>?_;subst hr;refine aa (zOu h4 λ_ s5 ⟨x,H5,I5,r5,y5,st5,fr5⟩=>?_);have I5':=I5.pinned (stat fr5) (zSf st5);refine aa (zOu (hg _ _ s5 σ3 H5 x u _ I5' r5 (step x H5 y5)) λ_ s6 ⟨σ6,H6,I6,q6⟩=>?_);have again:∀{s7:ai}{σ7:St}{zs:List V}{H7:Hp},Inv (uE X (T++caps.map (·.1)) scope ⟨G.objs.size,s2,H2,[it]⟩) ([]++zHx [it] s5.heap) σ7 H7 s7->N σ7 zs H7 ->
     ∃ m,m<n/\∃ i σ' ys H',Inv (uE X (T++caps.map (·.1)) scope ⟨G.objs.size,s2,H2,[it]⟩) [] σ' H' s7/\s7.heap.IsListIter it a i/\(∀ b∈[it],H' b=none)/\W i m σ' ys H':=λ{s7 σ7 zs H7} I7 n7=>by
    obtain⟨m',hm,w7⟩:=hN σ7 zs H7 n7;refine⟨m',hm,i+1,σ7,zs,H7,I7.unpinned,zTk st5 λb hb o e=>(I7.pin (b,o) (aW _ (aW _ (tT hb e)))).1,λb hb=>?_,w7⟩;obtain⟨o,e,d⟩:=zSf st5 b hb;exact(I7.pin (b,o) (aW _ (aW _ (tT hb e)))).2.1
   refine aa (zOu (ht _ _ s6 σ6 H6 _ I6 q6) λok s7 ⟨H7,I7,q7⟩=>?_);cases ok with
   | false=>exact ak ⟨rfl,again I7 q7⟩
   | true =>
    refine aa (aa (zOu (he _ _ s7 σ6 H7 _ I7 q7) λy s8 ⟨yv,H8,I8,r8,hD8,hl8,q8⟩=>?_));refine aa (zOu (zGp _ s8 σ6 H8 (.ref s2.heap.objs.size) [yv] (.ref s2.heap.objs.size) [y] (λ_ H9=>N σ6 (ys++[yv]) H9) I8 rfl (.cons r8 .nil) ⟨_,ys,yv,rfl,rfl,hD8,hl8,q8⟩) λ_ s9 ⟨_,H9,I9,_,q9⟩=>?_);exact ak (ak ⟨rfl,again I9 q9⟩)
 exact codeAny_compStart_list loop (iK st0 loop)
end
section
variable{K:ae}{a x D:af}{xs:List V}{g:TG}{tt:TT}{te:TE}{σ0:St}{H1:Hp}{Q:VK}
theorem zQf(Pv:Nat->St->List V->Hp->Prop)(h0:Pv 0 σ0 [] (upd H1 D (.lst [])))(hl:∀ i σ ys H,i<=xs.length->Pv i σ ys H->SqL K H a xs/\H D=some (.lst ys)/\Exc H x)
  (hs:∀ i x σ ys H,xs[i]?=some x->Pv i σ ys H->g x σ H λσ2 H2=>tt σ2 H2 λb H3 =>
   if b=true then te σ2 H3 λy H4=>H4 D=some (.lst ys)/\ys.length<sizeLine/\Pv (i+1) σ2 (ys++[y]) (upd H4 D (.lst (ys++[y]))) else Pv (i+1) σ2 ys H3)
  (hd:∀ σ ys H,Pv xs.length σ ys H->Q (.ref D) H):zDn (Itx K a x) D g tt te σ0 H1 Q:=by
 exists λi m σ ys H=>m=xs.length-i/\i<=xs.length/\Pv i σ ys H,⟨xs.length,by simp,br _,h0⟩;rintro i m σ ys H ⟨rfl,hi,p⟩;obtain⟨q,qd,qx⟩:=hl i σ ys H hi p;exists qd;by_cases hlt:i<xs.length
 ·refine .inr ⟨⟨xs,xs[i],q,by simp[hlt]⟩,Pv (i+1),λσ' zs H' z=>⟨xs.length-(i+1),by lia,rfl,hlt,z⟩,λx H' y=>?_⟩;obtain⟨e,y⟩:=y;subst e;exact hs i x σ ys _ (y xs q) p
 ·have e:i=xs.length:=by lia
  subst e;exact .inl ⟨⟨⟨xs,q,al _⟩,qx⟩,hd σ ys H p⟩
end
section
variable{X:Cx}{pins:List (af×cz)}{σ:St}{H:Hp}{s:ai}
theorem Inv.stir(I:Inv X pins σ H s){A:bD}(hf:A.frames=X.A.frames):Inv { X with A:=A,calm:=false,xe:=λ_ _=>False } pins σ H s :=
 ⟨⟨I.ok.mod,I.ok.kind,I.ok.glob,I.ok.blt,I.ok.above,I.ok.inj,I.ok.has,I.ok.cab,λz=>(nomatch z),hf.trans I.ok.frames,I.ok.stk,I.ok.exf,I.ok.bs,I.ok.bsz,I.ok.noex,I.ok.exfs,I.ok.funs,I.ok.frf⟩,I.os,I.bare,I.base,I.loc,I.cell,I.free,I.freeC,I.pin,I.hok,I.len⟩
end
abbrev zVg(A:bD):bD:={ A with handled:=none }
abbrev cxH(P:aK)(w:aT)(K:ae)(mg:aA->Option ag)(base:aV)(N:List aA)(qual:aA)(scope:fg)(f:af)(cd:ag)(A:bD)(outer:List fV)(s:ai)(H:Hp):Cx :=
 { cxOf CX0 P w K mg base N qual scope f cd A outer s H E0 with calm:=false,xe:=λ_ _=>False }
structure zVt(P:aK)(w:aT)(K:ae)(mg:aA->Option ag)(base:aV)(k:Nat)(f:af)(fd:bP)(ps:List aA)(sp:af->Sp):Prop where
 mk ::
 len:∀ x vs H Q E,sp x vs H Q E->vs.length=ps.length
 run:∀(x:af)(A:bD)(outer:List fV)(s:ai)(H:Hp)(args:Args)(us:List ag)(vs:List V)(Q:VK),A.handled=some (.ref x)->qO k (zVg A)->zUk P w K mg base A outer s H->ii s fd args (ps.zip us)->yV vs us->sp x vs H Q E0 ->
  codeAny (model P w) A (.call (.ref f) args) (CR CX0 outer P w H s Q E0) s
section
variable{P:aK}{w:aT}{K:ae}{mg:aA->Option ag}{base:aV}
theorem Fun.okH{x qual:aA}{st:bC}{f:af}{fd:bP}{N ps:List aA}{k:Nat}{sp:af->Sp}(F:Fun K x qual st f fd)(S:zO N ps (zG st))(len:∀ x vs H Q E,sp x vs H Q E->vs.length=ps.length)
  (hbody:∀(x:af)(cdv:ag)(A:bD)(outer:List fV)(s:ai)(H:Hp)(vs:List V)(Q:VK),A.handled=some (.ref x)->qO k ((zVg A).deeper (envOfC qual (zG st) s.heap.objs.size f cdv))->sp x vs H Q E0 ->
   ∃ t,PSs (cxH P w K mg base N qual (zG st) f cdv A outer s H) (xF st) t/\t { nx:=λ_ H'=>Q .non H',rt:=Q } (start N vs) H):zVt P w K mg base (k+1) f fd ps sp:=by
 obtain⟨oc,od,kV,doc,pm,an,cdv,ct,osl,rfl,lk,hcd⟩:=F.ex;refine⟨len,λx A outer s H args us vs Q hx hr e0 hb r hsp=>?_⟩;have hl:=len _ _ _ _ _ hsp;have KX:K.In s.heap:=e0.mod.kin.keeps λb o e=>(e0.bs b o e).1;have lim:s.heap.NoLimit:=e0.mod.nolimit.keeps λb o e=>(e0.bs b o e).1;have hkind:∀ y∈ps.zip us,(zG st).names.lookup y.1=some .local\/((zG st).names.lookup y.1=some .cell/\((cellsFrom (s.heap.objs.size+1) (zG st).names []).lookup y.1).isSome=true):=λ⟨n,v⟩ hy=>by
  rcases S.par n (fO hy).1 with q | q
  ·exact .inl q
  ·exact .inr ⟨q,fo _ _ _ (.inl q)⟩
 refine codeAny_call_function (show A.depth<recursionLimit from hr.depth) (KX _ _ lk) rfl S.co S.gen rfl (js KX hcd) (hb _ _ _ _ ?_);refine gA S.kind hkind λenv he s1 x1=>?_;subst he;refine⟨lim.keeps x1.toInCall.keep,codeAny_func ?_⟩;obtain⟨t,ht,hq⟩:=hbody x cdv A outer s H vs Q hx (hr.deeper _) hsp;have e1:zUk P w K mg base (zVg A) outer s H:=⟨e0.frames,e0.mod,e0.bs,e0.bsz,e0.funs,e0.frf,e0.hok,e0.bare⟩;have I0:Inv (cxOf CX0 P w K mg base N qual (zG st) f cdv (zVg A) outer s H E0) [] (start N vs) H s1:=zJ6 S rfl e1 hl r x1;have I:Inv (cxH P w K mg base N qual (zG st) f cdv A outer s H) [] (start N vs) H s1:=I0.stir rfl;refine cT (ht [] s1 (start N vs) H _ I hq) (λfl s' hs=>?_) λ_ _ z=>bA z;have fin:∀{σ':St}{H':Hp}{v:V}{u:ag},Inv (cxH P w K mg base N qual (zG st) f cdv A outer s H) [] σ' H' s'->xE v u->Q v H'->CE outer P w H s Q u s' :=
  λ{σ' H' v u} J rv q=>⟨v,H',J.os,J.bare,J.base,J.hok,rv,q⟩
 cases fl with
 | ret u =>
  obtain⟨v,σ',H',J,rv,q⟩:=hs;exact fin J rv q
 | next =>
  obtain⟨σ',H',J,q⟩:=hs;exact fin (v:=V.non) (u:=bg) J rfl q
 | brk =>
  obtain⟨_,_,_,q⟩:=hs;exact bA q
 | cont =>
  obtain⟨_,_,_,q⟩:=hs;exact bA q
end
def yh7(P:aK)(w:aT)(K:ae)(mg:aA->Option ag)(base:aV)(x:aA)(n:Nat)(ps:List aA)(sp:af->Sp):Prop :=
 ∃(f:af)(fd:bP),zVt P w K mg base n f fd ps sp/\zC6 K fd ps []/\bV K (.ref f)=true/\mg x=some (.ref f)
section
variable{X:Cx}{x:aA}{p pos:eS}{e:bu}{es:List bu}{t:TA}{n:Nat}{ps:List aA}{sp:af->Sp}
theorem zOv{ea:af}(h:yh7 X.prog X.w X.K X.mg X.base x n ps sp)(hr:qO n X.A)(hg:Gl X x)(ha:PA (X.hd (.ref ea)) (e::es) t)(hdb:(x ==("__debug__" : aA))=false:=by decide)
  (he:starEach (e::es) X.env=(false,eval e X.env)::starEach es X.env:=by rfl) (hpl:(backTo pos (starEach es X.env)).any (·.1)=false:=by rfl):PE (X.hd (.ref ea)) (.Call (.Name x p) (e::es) [] pos) (zQ1 (sp ea) [] E0 t):=by
 obtain⟨f,fd,F,hb,hk,hm⟩:=h;intro pins s σ H Q I h;refine cU (sO I hg hm ?_ hdb);refine dy (h₀:=X.base) I.ok.mod.kin hk (thn (ha pos pins s σ H _ I h) λus s1 ⟨vs,H1,I1,r,q⟩=>⟨I1.kIn,?_⟩) he hpl;have q:sp ea (vs++[]) H1 Q E0:=q;rw[dk] at q;have hl:us.length=ps.length:=by rw[<- r.length]; exact F.len _ _ _ _ _ q
 have hb':=hb s1 us I1.kIn (by rw[dk]; exact hl);rw[dk] at hb';refine gy (codeAny_mono (F.run ea (X.hd (.ref ea)).A X.stack s1 H1 ⟨us,[]⟩ us vs Q rfl ⟨rfl,hr.dp,hr.un,hr.gd⟩ I1.env0 hb' r q) λr s' hq=>?_);cases r with
 | error e=>exact bA hq
 | ok fl =>
  cases fl with
  | ret u=>exact I1.after hq
  | next=>exact bA hq
  | brk=>exact bA hq
  | cont=>exact bA hq
end
end L2
namespace L2
open PySem PySem.Spec PyProof.Rows PySem.W
def yj0(K:ae)(D:af):Bool :=
 (findIn K (.ref D) "__getattribute__" == some (some (.builtin "BaseException.__getattribute__")))&&(findIn K (.ref D) "__getattr__" == some none) &&
 (match findObj K D none "__class__" with | some (.bind g a)=>g == .builtin "getset_descriptor.__get__" && a == .builtin "object.__class__" | _=>false) &&
 (mroIn K D (.type "BaseException") == some true)&&(mroIn K D (.type "object") == some true)
theorem zYk{K:ae}{D:af}(h:yj0 K D=true):zFk K D:=by
 unfold yj0 at h;simp only[aZ] at h;obtain⟨⟨⟨⟨h1,h2⟩,h3⟩,h4⟩,h5⟩:=h;refine⟨eq_of_beq h1,eq_of_beq h2,?_,eq_of_beq h4,eq_of_beq h5⟩;split at h3
 ·rename_i g a e
  rw[aZ] at h3;rw[e,eq_of_beq h3.1,eq_of_beq h3.2]
 ·cases h3
def zZv(K:ae)(Ds:List af):Bool:=Ds.all λD=>yj0 K D&&(kitOne K (.ref D) (.type "ValueError") == some true)&&Ds.all λc=>kitOne K (.ref D) (.ref c) == some (D == c)
section
variable{K:ae}{Ds:List af}{D c:af}
theorem zO1(h:zZv K Ds=true)(hD:D∈Ds):zFk K D:=by
 have:=bH.mp h D hD;simp only[aZ] at this;exact zYk this.1.1
theorem zVb(h:zZv K Ds=true)(hD:D∈Ds):kitOne K (.ref D) (.type "ValueError")=some true:=by
 have:=bH.mp h D hD;simp only[aZ] at this;exact eq_of_beq this.1.2
theorem zVo(h:zZv K Ds=true)(hD:D∈Ds)(hc:c∈Ds):kitOne K (.ref D) (.ref c)=some (D == c):=by
 have:=bH.mp h D hD;simp only[aZ] at this;exact eq_of_beq (bH.mp this.2 c hc)
end
end L2

namespace Sea
open PySem L2 PySem.Spec
open PyProof.Rows hiding St
mutual
def pd:Dt->PyData
 | .int i=>.int i
 | .str x=>.str x
 | .tup l=>.tuple (pds l)
def pds:List Dt->List PyData
 | []=>[]
 | d::l=>pd d::pds l
end
mutual
def shB:Dt->Nat
 | .int i=>i.natAbs.log2+3
 | .str x=>10*x.length+2
 | .tup l=>zPy l+4
def zPy:List Dt->Nat
 | []=>0
 | d::l=>shB d+2+zPy l
end
mutual
def okS:Dt->Prop
 | .int i=>i.natAbs.log2<1920
 | .str x=>∀ c∈x.cps.toList,c<16^8
 | .tup l=>zHg l
def zHg:List Dt->Prop
 | []=>True
 | d::l=>okS d/\zHg l
end
theorem zLo(ts:List aA):(tupleText ts).length<=piled ts+4:=by
 unfold tupleText;rw[strLen_append,strLen_append];have h1:("(" : aA).length=1:=rfl;have h2:(aO (if ts.length == 1 then ",)" else ")")).length<=2:=by split <;> decide
 have h3:(hJ ", " ts).length<=piled ts:=by
  by_cases z:ts=[]
  ·subst z; decide
  ·have:=join_length_add ts z; lia
 lia
mutual
theorem zPa:∀ d:Dt,okS d->(pd d).shown.length<=shB d
 | .int i,h=>by
  rw[okS] at h;rw[pd,shB,jU];have:=int_text_length_le (k:=i.natAbs.log2+1) (by lia) (g9 i.natAbs.log2);rw[<- eA] at this;lia
 | .str x,h=>by
  rw[okS] at h;rw[pd,shB,jU];exact iY x h
 | .tup l,h=>by
  rw[okS] at h;rw[pd,shB,jU];have:=zLo (fU (pds l));have:=zLb l h;lia
theorem zLb:∀ l:List Dt,zHg l->piled (fU (pds l))<=zPy l
 | [],_=>by rw[pds,fU,zPy]; decide
 | d::l,h=>by
  rw[zHg] at h;rw[pds,fU,zPy,piled_cons];have:=zPa d h.1;have:=zLb l h.2;lia
end
mutual
theorem zPd:∀ d:Dt,okS d->(pd d).showable=true
 | .int i,h=>by rw[okS] at h; rw[pd,iF]; exact decide_eq_true h
 | .str x,_=>by rw[pd,iF]
 | .tup l,h=>by rw[okS] at h; rw[pd,iF]; exact zKa l h
theorem zKa:∀ l:List Dt,zHg l->gE (pds l)=true
 | [],_=>by rw[pds,gE]
 | d::l,h=>by rw[zHg] at h; rw[pds,gE,zPd d h.1,zKa l h.2]; rfl
end
mutual
theorem zRl:∀ d:Dt,(pd d).hasDict=false
 | .int i=>by rw[pd,iZ]
 | .str x=>by rw[pd,iZ]
 | .tup l=>by rw[pd,iZ]; exact zPl l
theorem zPl:∀ l:List Dt,gW (pds l)=false
 | []=>by rw[pds,gW]
 | d::l=>by rw[pds,gW,zRl d,zPl l]; rfl
end
theorem zFx{n:Nat} : ∀ l:List Dt,(∀ d∈l,(pd d).depth<=n)->iG (pds l)<=n
 | [],_=>by rw[pds,iG]; exact br _
 | d::l,h=>by
  rw[pds,iG];have:=h d (.head _);have:=zFx l λd hd=>h d (.tail _ hd);lia
theorem zOc:∀(n:Nat)(d:Dt),zI5 n d->(pd d).depth<=n
 | n,.int i,_=>by rw[pd,jV]; exact br _
 | n,.str x,_=>by rw[pd,jV]; exact br _
 | 0,.tup _,h=>h.elim
 | n+1,.tup l,h=>by
  rw[pd,jV];have:=zFx (n:=n) l λd hd=>zOc n d (h.2 d hd);lia
section
variable{X:Cx}{pins:List (af×cz)}{σ:St}{H:Hp}{s:ai}
mutual
theorem zOk(I:Inv X pins σ H s):∀(d:Dt){v:V}{u:ag},Rep H d v->xE v u->∃ as,Reads s.heap u (pd d) as
 | .int i,v,u,h,r=>by
  rw[zZ.mp h] at r;obtain⟨t,rfl⟩:=(show ∃ t,u=dH i t from r);rw[pd];exact⟨_,.int i t⟩
 | .str x,v,u,h,r=>by
  rw[zU.mp h] at r;obtain⟨t,rfl⟩:=(show ∃ t,u=cB x t from r);rw[pd];exact⟨_,.str x t⟩
 | .tup l,v,u,h,r=>by
  obtain⟨a,xs,rfl,ha,rs⟩:=yD.mp h;obtain rfl:u=aI a:=r;obtain⟨its,rv,⟨o,h1,h2,n,h3⟩,hz⟩:=I.tuple (SqT.of ha);obtain⟨as,ra⟩:=zL6 I l rs rv;rw[pd];exact⟨_,.tuple h1 h2 h3 (by simpa using ra)⟩
theorem zL6(I:Inv X pins σ H s):∀(l:List Dt){xs:List V}{us:List ag},wC H l xs->yV xs us->∃ as,ReadsAll s.heap us (pds l) as
 | [],xs,us,h,r=>by
  rw[yF.mp h] at r;cases r;rw[pds];exact⟨_,.nil⟩
 | d::l,xs,us,h,r=>by
  obtain⟨x,xr,rfl,h1,h2⟩:=zL.mp h;cases r with
  | cons r1 r2 =>
   obtain⟨as,ra⟩:=zOk I d h1 r1;obtain⟨bs,rb⟩:=zL6 I l h2 r2;rw[pds];exact⟨_,.cons ra rb⟩
end
end
section
variable{X:Cx}{e:bu}{es:List bu}{t:TJ}{te:TE}{pos p:eS}{n:Nat}
def yb9(te:TE)(t:TJ):TJ:=λσ H K=>te σ H λv H1=>(∃ d,Rep H1 d v/\okS d/\zI5 4 d/\shB d<=2000)/\t σ H1 K
theorem zKt(hg:X.A.guards=some [])(hu:X.A.units+64<cLine)(hv:PE X e te)(ht:PJ X es n t)(he:evalEach (.FormattedValue e (-1) none p::es) X.env=eval (.FormattedValue e (-1) none p) X.env::evalEach es X.env:=by rfl):PJ X (.FormattedValue e (-1) none p::es) (n+1) (yb9 te t):=by
 intro pins s σ H k acc Q C I h hk q z;rw[he];refine gD (thn (hv pins s σ H _ I q) λu s1 ⟨v,H1,I1,r,⟨d,rd,ok,sh,hb⟩,q1⟩=>?_);have hl:=zPa d ok;have fin:∀(y:aA)(s2:ai)(t':nh),y.length<=2000->Inv X pins σ H1 s2->∃ y' t,cB y t'=.str y' t/\(acc++y').length<=sizeLine/\Joins (model X.prog X.w) X.A X.xe (evalEach es X.env) (acc++y') Q s2:=λy s2 t' hy I2 =>
  ⟨y,t',rfl,by rw[strLen_append]; show acc.length+y.length<=2^24; lia,ht pins s2 σ H1 (k+1) _ _ C I2 (by rw[strLen_append]; lia) (by lia) q1 z⟩
 match d,rd,ok,hl with
 | .int i,rd,ok,hl =>
  rw[zZ.mp rd] at r;obtain⟨tk,rfl⟩:=(show ∃ t,u=dH i t from r);rw[okS] at ok;have l:=int_text_length_le (k:=1920) (by decide) ok;rw[<- eA] at l;exact iO ok (fin _ _ _ (by lia) (I1.tok _))
 | .str x,rd,ok,hl =>
  rw[zU.mp rd] at r;obtain⟨tk,rfl⟩:=(show ∃ t,u=cB x t from r);rw[shB] at hb;exact formatField_str (λt' tk'=>fin x _ t' (by lia) (I1.tok _)) (by show x.length<=2^24; lia)
 | .tup l,rd,ok,hl =>
  obtain⟨as,ra⟩:=zOk I1 _ rd r;obtain⟨a,xs,rfl,_⟩:=yD.mp rd;obtain rfl:u=aI a:=r;have dl:=zOc 4 _ sh;refine formatField_of_reads ra (zPd _ ok) (λz=>by rw[zRl] at z; cases z) hg (by lia) (λ_ _ e=>e) (λh' u tk hk=>?_) (by show _<=2^24; lia);exact fin _ _ _ (by lia) (I1.kept (t':=tk) hk)
def yh3(te:TE)(t:TJ):TJ:=λσ H K=>te σ H λv H1=>(∃ x:aA,v=.str x/\(∀ c∈x.cps.toList,c<16^8)/\x.length<=190)/\t σ H1 K
theorem zM3(hv:PE X e te)(ht:PJ X es n t)(he:evalEach (.FormattedValue e 114 none p::es) X.env=eval (.FormattedValue e 114 none p) X.env::evalEach es X.env:=by rfl):PJ X (.FormattedValue e 114 none p::es) (n+1) (yh3 te t):=by
 intro pins s σ H k acc Q C I h hk q z;rw[he];refine wpAny_FormattedValue_repr (thn (hv pins s σ H _ I q) λu s1 ⟨v,H1,I1,r,⟨x,ex,cx,lx⟩,q1⟩=>?_);subst ex;obtain⟨tk,rfl⟩:=(show ∃ t,u=cB x t from r);have hl:=iY x cx;refine wpAny_pyReprObj_str ?_ (by show _<=2^24; lia);refine formatField_str (λt' tk'=>?_) (by show _<=2^24; lia);exact⟨_,t',U,by rw[strLen_append]; show acc.length+_<=2^24; lia,ht pins _ σ H1 (k+1) _ _ C (I1.tok _) (by rw[strLen_append]; lia) (by lia) q1 z⟩
end
end Sea
namespace L2
open PySem PySem.Spec PyProof.Rows
section
variable{X:Cx}{x y:aA}{p pos:eS}{i e:bu}{es:List bu}{ty:TE}{t:TA}
structure zW9(P:aK)(w:aT)(K:ae)(mg:aA->Option ag)(B:aV)(m:Nat)(kvs:List (Key×V))(k:Key)(sp:Sp):Prop where
 mk ::
 has:∃(x:aA)(f:af)(n:Nat)(ps:List aA),wL kvs k=some (.ref f)/\mg x=some (.ref f)/\qI P w K mg B x n ps sp/\n<=m
def tTabX(tab:List (Key×Sp))(EE:St->XK)(ty:TE)(t:TA):TE:=λσ H Q=>ty σ H λy H1=>∃(k:Key)(sp:Sp),y=kV k/\(k,sp)∈tab/\t σ H1 λvs H2=>sp vs H2 Q (EE σ)
theorem zX3(EE:St->XK){a:af}{m:Nat}{kvs:List (Key×V)}{tab:List (Key×Sp)}{p':eS}(hb:zZu X.prog X.w X.base a kvs)(hm:X.mg x=some (.ref a))(hT:∀ r∈tab,zW9 X.prog X.w X.K X.mg X.base m kvs r.1 r.2)(hx:zP5 X EE)(hr:qO m X.A)(hi:PE X i ty)(ha:PA X (e::es) t)
  (hs:yh6 i:=by exact λ_ _=>rfl) (hg:Gl X x:=by rfl) (hd:(x ==("__debug__" : aA))=false:=by decide)
  (he:starEach (e::es) X.env=(false,eval e X.env)::starEach es X.env:=by rfl) (hpl:(backTo pos (starEach es X.env)).any (·.1)=false:=by rfl)
  (hev:eval (.Call (.Subscript (.Name x p) i p') (e::es) [] pos) X.env=(do callWith pos (<- eval (.Subscript (.Name x p) i p') X.env) [] (backTo pos (starEach (e::es) X.env)) (backToKw pos (keywordEach [] X.env))):=by rfl) :
  PE X (.Call (.Subscript (.Name x p) i p') (e::es) [] pos) (tTabX tab EE ty t):=by
 intro pins s σ H Q I h;refine Call_ (zM7 eP.lookup hs (sO I hg hm (thn (hi pins s σ H _ I h) λiv s2 ⟨y,H2,I2,ry,k,sp,ey,mem,q2⟩=>?_) hd)) hev;subst ey;obtain⟨x',f,n,ps,l,mx,⟨f',fd,F,b,kp,mx'⟩,hn⟩:=(hT _ mem).has;rw[mx] at mx';cases mx';refine zXd hb I2 l ry λw' s3 I3 rw'=>?_;cases rw';refine dy (h₀:=X.base) I.ok.mod.kin kp (thn (ha pos pins s3 σ H2 _ I3 q2) λus s4 ⟨vs,H4,I4,r,q4⟩=>⟨I4.kIn,?_⟩) he hpl;exact zN3 F (hr.mono hn) b hx I4 r q4
end
section
variable{X:Cx}
theorem zWe:OpR X (compareOp .In) (λx y H Q=>∃ i j:aA,x=.str i/\y=.str j/\Q (.bl !(hZ j i 0 j.length 1).isEmpty) H):=by
 intro pins s σ H x y v u Q I rx ry h;obtain⟨i,j,rfl,rfl,q⟩:=h;obtain⟨t,rfl⟩:=rx;obtain⟨t',rfl⟩:=ry;exact PySem.P.in_str (yU I q rfl)
theorem yb8:∀ c<128,(!(hZ ("abcdefghijklmnopqrstuvwxyz" : aA) ⟨#[c]⟩ 0 ("abcdefghijklmnopqrstuvwxyz" : aA).length 1).isEmpty)=decide (97<=c/\c<=122):=by decide +kernel
end
end L2

namespace Sea
open PySem L2
inductive Cl where
 | badName | taken | badPlace | full | noMark | same | needed | badBank | noBank | badRun | noRun | noMoment | badWay | badTurn | noNote
 deriving DecidableEq
open Classical in
noncomputable def zT(S:BS):Deed->Option Cl
 | .mark n x y=>if ¬ wG n then some .badName else if (zQ S n).isSome=true then some .taken else if ¬ zD3 (x,y) then some .badPlace else if 20<=S.marks.length then some .full else none
 | .move n x y=>if zQ S n=none then some .noMark else if ¬ zD3 (x,y) then some .badPlace else if ∀ e∈S.notes,zDe (aft S (.move n x y)) e.2 then none else some .same
 | .unmark n=>if zQ S n=none then some .noMark else if ∀ e∈S.notes,rO n e.2 then none else some .needed
 | .bank n cs=>if ¬ wG n then some .badName else if n∈S.banks.map (·.1) then some .taken else if ¬ ∀ c∈cs,zD3 c then some .badPlace else if zKv cs=false then some .badBank else if 8<=S.banks.length then some .full else none
 | .level n=>if n∈S.banks.map (·.1) then none else some .noBank
 | .sail x y=>if ¬ zD3 (x,y) then some .badRun else if 12<=S.runs.length then some .full else none
 | .right k x y=>if 0<=k/\k<S.runs.length then(if zD3 (x,y) then none else some .badRun) else some .noRun
 | .bearing m n a b c d=>if ¬ (0<=m/\m<=S.runs.length) then some .noMoment else if zQ S n=none then some .noMark else if ¬ zDx (a,b) then some .badWay else if ¬ zDx (c,d) then some .badWay else if a*d-b*c<=0 then some .badTurn else if 24<=S.notes.length then some .full else none
 | .range m l r=>if ¬ (0<=m/\m<=S.runs.length) then some .noMoment else if zQ S l=none then some .noMark else if zQ S r=none then some .noMark else if zQ S l=zQ S r then some .same else if 24<=S.notes.length then some .full else none
 | .strike k=>if k∈S.notes.map (·.1) then none else some .noNote
theorem zA9{α:Type}{o:Option α}(h:¬ o=none):o.isSome=true:=by cases o <;> simp at h ⊢
theorem zOr{S:BS}{D:Deed}(h:zT S D=none):okD S D:=by
 cases D with
 | mark n x y =>
  simp only[zT] at h;split at h; · cases h
  split at h; · cases h
  split at h; · cases h
  split at h; · cases h
  rename_i h1 h2 h3 h4
  exact⟨ao.mp h1,by cases e:zQ S n <;> simp[e] at h2 ⊢,ao.mp h3,by lia⟩
 | move n x y =>
  simp only[zT] at h;split at h; · cases h
  split at h; · cases h
  split at h
  ·rename_i h1 h2 h3; exact⟨zA9 h1,ao.mp h2,h3⟩
  ·cases h
 | unmark n =>
  simp only[zT] at h;split at h; · cases h
  split at h
  ·rename_i h1 h2; exact⟨zA9 h1,h2⟩
  ·cases h
 | bank n cs =>
  simp only[zT] at h;split at h; · cases h
  split at h; · cases h
  split at h; · cases h
  split at h; · cases h
  split at h; · cases h
  rename_i h1 h2 h3 h4 h5
  exact⟨ao.mp h1,h2,ao.mp h3,by cases e:zKv cs <;> simp[e] at h4 ⊢,by lia⟩
 | level n =>
  simp only[zT] at h;split at h
  ·rename_i h1; exact h1
  ·cases h
 | sail x y =>
  simp only[zT] at h;split at h; · cases h
  split at h; · cases h
  rename_i h1 h2
  exact⟨ao.mp h1,by lia⟩
 | right k x y =>
  simp only[zT] at h;split at h
  ·split at h
   ·rename_i h1 h2; exact⟨h1.1,h1.2,h2⟩
   ·cases h
  ·cases h
 | bearing m n a b c d =>
  simp only[zT] at h;split at h; · cases h
  split at h; · cases h
  split at h; · cases h
  split at h; · cases h
  split at h; · cases h
  split at h; · cases h
  rename_i h1 h2 h3 h4 h5 h6
  have h1:=ao.mp h1;exact⟨h1.1,h1.2,zA9 h2,ao.mp h3,ao.mp h4,by lia,by lia⟩
 | range m l r =>
  simp only[zT] at h;split at h; · cases h
  split at h; · cases h
  split at h; · cases h
  split at h; · cases h
  split at h; · cases h
  rename_i h1 h2 h3 h4 h5
  have h1:=ao.mp h1;exact⟨h1.1,h1.2,zA9 h2,zA9 h3,h4,by lia⟩
 | strike k =>
  simp only[zT] at h;split at h
  ·rename_i h1; exact h1
  ·cases h
def zOg(ok:Prop)(Q:VK)(E:XK)(c:af)(H:Hp):Prop:=(ok/\∀ H',Same H H'->Q .non H')\/(¬ ok/\∀ H',Same H H'->E (.ref c) none H')
section
variable{ok:Prop}{Q:VK}{E:XK}{c:af}{H H':Hp}
theorem zOg.yes(h:zOg ok Q E c H)(o:ok)(s:Same H H'):Q .non H':=by
 rcases h with ⟨_,h⟩ | ⟨n,_⟩
 ·exact h H' s
 ·exact absurd o n
theorem zOg.no(h:zOg ok Q E c H)(o:¬ ok)(s:Same H H'):E (.ref c) none H':=by
 rcases h with ⟨y,_⟩ | ⟨_,h⟩
 ·exact absurd y o
 ·exact h H' s
theorem zOg.of(h1:ok->∀ H',Same H H'->Q .non H')(h2:¬ ok->∀ H',Same H H'->E (.ref c) none H'):zOg ok Q E c H:=by
 by_cases o:ok
 ·exact .inl ⟨o,h1 o⟩
 ·exact .inr ⟨o,h2 o⟩
end
def zFs(x:aA):Prop:=(∀ c∈x.cps.toList,c<128)/\x.length<=50
theorem zFs.big{x:aA}(h:zFs x):∀ c∈x.cps.toList,c<16^8:=λc hc=>cY (h.1 c hc) (by decide)
theorem wG.asc{x:aA}(h:wG x):zFs x:=⟨λc hc=>by have:=h.2.2 c hc; lia,by have:=h.2.1; lia⟩
def zAf(i:Int):Prop:=i.natAbs.log2<200
theorem zFr{p:Int×Int}(h1:zAf p.1)(h2:zAf p.2):okS (ptD p)/\zI5 4 (ptD p)/\shB (ptD p)<=2000:=by
 unfold zAf at h1 h2;refine⟨?_,zCv (by show 2<=900; decide) (dt2 (by show _<1920; lia) (by show _<1920; lia)),?_⟩
 ·unfold ptD;rw[okS,zHg,zHg,zHg,okS,okS];exact⟨by lia,by lia,trivial⟩
 ·unfold ptD;rw[shB,zPy,zPy,zPy,shB,shB];lia
def zEg:Deed->Prop
 | .mark n x y=>zFs n/\zAf x/\zAf y
 | .move n x y=>zFs n/\zAf x/\zAf y
 | .unmark n=>zFs n
 | .bank n cs=>zFs n/\cs.length<=12/\∀ c∈cs,c.1.natAbs.log2<20/\c.2.natAbs.log2<20
 | .level n=>zFs n
 | .sail x y=>zAf x/\zAf y
 | .right k x y=>zAf k/\zAf x/\zAf y
 | .bearing m n a b c d=>zAf m/\zFs n/\zAf a/\zAf b/\zAf c/\zAf d
 | .range m l r=>zAf m/\zFs l/\zFs r
 | .strike k=>zAf k
theorem zK4{m:Int}{n:aA}{a b c d:Int}(h:zEg (.bearing m n a b c d)):okS (Deed.bearing m n a b c d).dt/\zI5 4 (Deed.bearing m n a b c d).dt/\shB (Deed.bearing m n a b c d).dt<=2000:=by
 obtain⟨h1,h2,h3,h4,h5,h6⟩:=h;obtain⟨s1,s2,_⟩:=zFr (p:=(a,b)) h3 h4;obtain⟨s4,s5,_⟩:=zFr (p:=(c,d)) h5 h6;unfold zAf at h1 h3 h4 h5 h6;have l7:(aO "bearing").length=7:=rfl;refine⟨?_,?_,?_⟩
 ·unfold Deed.dt;rw[okS,zHg,zHg,zHg,zHg,zHg,zHg,okS,okS,okS];exact⟨by decide,by lia,h2.big,s1,s4,trivial⟩
 ·unfold Deed.dt;refine zCv (az rfl) λe he=>?_;rcases aD.mp he with rfl | he
  ·exact zVi (by decide)
  ·have p3:∀{p:Int×Int},p.1.natAbs.log2<200->p.2.natAbs.log2<200->zI5 3 (ptD p):=λ{p} h1 h2=>zCv (n:=2) (by show 2<=900; decide) (dt2 (by show _<1920; lia) (by show _<1920; lia));exact dt4 (P:=zI5 3) (by show _<1920; lia) (by show _<=1921; have:=h2.2; lia) (p3 h3 h4) (p3 h5 h6) e he
 ·unfold Deed.dt ptD;simp only[shB,zPy];have:=h2.2;lia
theorem zMi{cs:List (Int×Int)}(hl:cs.length<=12)(h:∀ c∈cs,c.1.natAbs.log2<20/\c.2.natAbs.log2<20):okS (.tup (cs.map ptD))/\zI5 4 (.tup (cs.map ptD))/\shB (.tup (cs.map ptD))<=2000:=by
 have k1:∀ l:List (Int×Int),(∀ c∈l,c.1.natAbs.log2<20/\c.2.natAbs.log2<20)->zHg (l.map ptD)/\zPy (l.map ptD)<=l.length*60:=by
  intro l
  induction l with
  | nil=>intro _; rw[fq,zHg,zPy]; exact⟨trivial,br _⟩
  | cons c l ih =>
   intro h;obtain⟨i1,i2⟩:=ih λc hc=>h c (.tail _ hc);obtain⟨c1,c2⟩:=h c (.head _);have e1:okS (ptD c):=by
    unfold ptD;rw[okS,zHg,zHg,zHg,okS,okS];exact⟨by lia,by lia,trivial⟩
   have e2:shB (ptD c)<=58:=by
    unfold ptD;simp only[shB,zPy];lia
   rw[aQ,zHg,zPy,aU];exact⟨⟨e1,i1⟩,by lia⟩
 obtain⟨g1,g2⟩:=k1 cs h;refine⟨by rw[okS]; exact g1,zCv (by rw[ac]; lia) λd hd=>?_,by rw[shB]; lia⟩;obtain⟨c,hc,rfl⟩:=aC.mp hd;obtain⟨c1,c2⟩:=h c hc;exact zCv (n:=2) (by show 2<=900; decide) (dt2 (by show _<1920; lia) (by show _<1920; lia))
structure zJ1(S:BS):Prop where
 mk ::
 good:zZy S
 names:∀ e∈S.marks,wG e.1
theorem zJ1.nil:zJ1 BS.nil:=⟨zVz,λe he=>(nomatch he)⟩
theorem zJ1.mark{S:BS}{n:aA}(h:zJ1 S)(k:(zQ S n).isSome=true):wG n:=by
 obtain⟨p,e⟩:=aL.mp k;exact h.names _ (zIj e)
theorem zJ1.aft{S:BS}{D:Deed}(h:zJ1 S)(ok:okD S D):zJ1 (aft S D):=by
 exists zU7 h.good ok
 match D,ok with
 | .mark n x y,ok =>
  intro e he;rcases aS.mp he with z | z
  ·exact h.names e z
  ·rw[au.mp z]; exact ok.1
 | .move n x y,ok =>
  intro e he;obtain⟨e',h1,rfl⟩:=aC.mp he;have:=h.names e' h1;split <;> exact this
 | .unmark n,ok=>exact λe he=>h.names e (dI.mp he).1
 | .bank n cs,ok=>exact h.names
 | .level n,ok=>exact h.names
 | .sail x y,ok=>exact h.names
 | .right j x y,ok=>exact h.names
 | .bearing m n a b c d,ok=>exact h.names
 | .range m l r,ok=>exact h.names
 | .strike j,ok=>exact h.names
def zGk(ax:Cl->af)(φ:Deed->Prop):Sp:=λvs H Q E=>∃(d:af)(v:V)(S:BS)(D:Deed),vs=[.ref d,v]/\φ D/\zPb H d S/\Rep H D.dt v/\zEg D/\zJ1 S /\
 (zT S D=none->∀(d':af)(H':Hp),Sam H H'->H d'=none->zPb H' d' (aft S D)->Q (.ref d') H')/\∀ c,zT S D=some c->∀ H',Sam H H'->E (.ref (ax c)) none H'
section
variable{H:Hp}{S:BS}{kvs:List (Key×V)}
theorem zSq{n:aA}(h:xO H kvs (mkE S.marks)):wL kvs (.inr n)=none↔zQ S n=none:=by
 have e:=h.isSome (k:=.inr n);rw[wT,bW] at e;cases h1:wL kvs (.inr n) <;> cases h2:zQ S n <;> simp[h1,h2] at e ⊢
theorem zDc{n:aA}(h:xO H kvs (bkE S.banks)):wL kvs (.inr n)=none↔n ∉ S.banks.map (·.1):=by
 by_cases z:n∈S.banks.map (·.1)
 ·obtain⟨dv,lk⟩:=zWw (l:=S.banks) z;obtain⟨v,ev,_⟩:=h.get lk;simp[ev,z]
 ·simp[h.none (zFd (zJw z)),z]
theorem zN5{k:Int}(h:xO H kvs (ntE S.notes)):wL kvs (.inl k)=none↔k ∉ S.notes.map (·.1):=by
 by_cases z:k∈S.notes.map (·.1)
 ·obtain⟨dv,lk⟩:=zOe (l:=S.notes) z;obtain⟨v,ev,_⟩:=h.get lk;simp[ev,z]
 ·refine⟨λ_=>z,λ_=>h.none (zFd λe he y=>z ?_)⟩;unfold ntE at he;obtain⟨q,hq,rfl⟩:=aC.mp he;have y:(dW q.1:Key)=dW k:=y;injection y with y
  exact aC.mpr ⟨q,hq,y⟩
theorem zSa{k:Int}(h:xO H kvs (rnE S.runs)):wL kvs (.inl k)=none↔¬ (0<=k/\k<S.runs.length):=by
 by_cases z:0<=k/\k<S.runs.length
 ·obtain⟨i,rfl⟩:=cj z.1;have hi:i<S.runs.length:=by lia
  have lk:=zIy (k:=0) (aj hi);rw[iq] at lk;obtain⟨v,ev,_⟩:=h.get lk;exact⟨(λy=>by rw[ev] at y; cases y),λy=>absurd z y⟩
 ·refine⟨λ_=>z,λ_=>h.none (zFd λe he y=>z ?_)⟩;unfold rnE at he;obtain⟨⟨q1,q2⟩,hq,rfl⟩:=aC.mp he;have y:(dW (q2:Int):Key)=dW k:=y;injection y with y
  have:=gJ hq;simp at this;lia
end
structure zHa(H:Hp)(ts:List af)(ws:List (aA×Bool)):Prop where
 mk ::
 len:ts.length=ws.length
 at_:∀(j:Nat)(t:af)(w:aA×Bool),ts[j]?=some t->ws[j]?=some w->H t=some (.tup [.str w.1,.bl w.2])
theorem zHa.nil{H:Hp} : zHa H [] []:=⟨rfl,λj t w h=>by simp at h⟩
theorem zHa.to{H H':Hp}{ts:List af}{ws:List (aA×Bool)}(h:zHa H ts ws)(s:Same H H'):zHa H' ts ws:=⟨h.len,λj t w a b=>s _ _ (h.at_ j t w a b)⟩
theorem xU{B:aV}{Ds:List af}{D C:af}(h:InB B λK=>zZv K Ds=true)(hD:D∈Ds)(hC:C∈Ds):InB B λK=>cJ K (.ref D) (.ref C)=some (D == C)/\zFk K D:=by
 obtain⟨K,KB,h⟩:=h;exact⟨K,KB,zVo h hD hC,zO1 h hD⟩
theorem zZr{B:aV}{Ds:List af}{D:af}(h:InB B λK=>zZv K Ds=true)(hD:D∈Ds):InB B λK=>cJ K (.ref D) (.type "ValueError")=some true/\zFk K D:=by
 obtain⟨K,KB,h⟩:=h;exact⟨K,KB,zVb h hD,zO1 h hD⟩
def zHd:Cl->aA
 | .badName => "BadName"
 | .taken => "Taken"
 | .badPlace => "BadPlace"
 | .full => "Full"
 | .noMark => "NoMark"
 | .same => "Same"
 | .needed => "Needed"
 | .badBank => "BadBank"
 | .noBank => "NoBank"
 | .badRun => "BadRun"
 | .noRun => "NoRun"
 | .noMoment => "NoMoment"
 | .badWay => "BadWay"
 | .badTurn => "BadTurn"
 | .noNote => "NoNote"
def zG9:Option Cl->aA
 | none => ""
 | some c=>zHd c
def zJ2(S:BS)(D:Deed):V:=if S.coming=(aft S D).coming then .non else .int S.coming
end Sea

namespace PySem.W
open PySem PySem.Calls PyProof.Rows
def KasT.run{α:Type}(f:Nat->Nat->Bool):lE α->α
 | .ret a=>a
 | .ask i j k=>(k (f i j)).run f
def KasT.Okay{α:Type}(n:Nat)(Q:α->Prop):lE α->Prop
 | .ret a=>Q a
 | .ask i j k=>i<n/\j<n/\i≠j/\∀ b,(k b).Okay n Q
section
variable{α β:Type}{n:Nat}{f:Nat->Nat->Bool}{cmp:Nat->Nat->(Bool->ai->Prop)->ai->Prop}{s:ai}
theorem KasT.Okay.bind{g:α->lE β}{Q:β->Prop} : ∀{t:lE α},t.Okay n (λa=>(g a).Okay n Q)->(t.bind g).Okay n Q
 | .ret _,h=>h
 | .ask _ _ _,⟨h1,h2,h3,h4⟩=>⟨h1,h2,h3,λb=>KasT.Okay.bind (h4 b)⟩
theorem KasT.Okay.end{Q:α->Prop} : ∀{t:lE α},t.Okay n Q->Q (t.run f)
 | .ret _,h=>h
 | .ask i j k,⟨_,_,_,h4⟩=>show Q ((k (f i j)).run f) from KasT.Okay.end (h4 (f i j))
theorem KasT.Okay.wp{Q:α->Prop}{R:α->ai->Prop}(hc:∀ i j,i<n->j<n->i≠j->∀ C:Bool->ai->Prop,C (f i j) s->cmp i j C s):∀{t:lE α},t.Okay n Q->R (t.run f) s->t.kasWp cmp R s
 | .ret _,_,h=>h
 | .ask i j k,⟨h1,h2,h3,h4⟩,h=>hc i j h1 h2 h3 _ (KasT.Okay.wp hc (h4 (f i j)) h)
def IsP(n:Nat)(p:Array Nat):Prop:=p.toList.Perm (bJ n)
variable{p:Array Nat}
theorem IsP.size(h:IsP n p):p.size=n:=by have:=h.length_eq; rw[dh,bK] at this; exact this
theorem IsP.lt(h:IsP n p){i:Nat}(hi:i<n):p.getD i 0<n:=by
 have hs:=h.size;have:p[i]'(by lia)∈p.toList:=by simp
 rw[lF,dif_pos (by lia)];exact bZ.mp (h.mem_iff.mp this)
theorem IsP.ne(h:IsP n p){i j:Nat}(hi:i<n)(hj:j<n)(ne:i≠j):p.getD i 0≠p.getD j 0:=λz=>by
 have hs:=h.size;have nd:p.toList.Nodup:=h.nodup_iff.mpr kG;rw[lF,dif_pos (by lia),lF,dif_pos (by lia)] at z;refine ne ((g8 (xs:=p.toList) (h₀:=by simpa using (by lia:i<p.size)) (h₁:=by simpa using (by lia:j<p.size)) nd).mp ?_);simpa using z
theorem IsP.of(h:IsP n p){q:Array Nat}(e:q.Perm p):IsP n q:=(Array.perm_iff_toList_perm.mp e).trans h
theorem IsP.rev(h:IsP n p)(i j:Nat):IsP n (kas_rev p i j):=h.of (mirror_perm _ _ _ _)
theorem IsP.ask(h:IsP n p){i j:Nat}(hi:i<n)(hj:j<n)(ne:i≠j){k:Bool->lE α}{Q:α->Prop}(hk:∀ b,(k b).Okay n Q):(KasT.ask (p.getD i 0) (p.getD j 0) k).Okay n Q:=⟨h.lt hi,h.lt hj,h.ne hi hj ne,hk⟩
theorem zS7(h:IsP n p){Q:Nat->Prop} : ∀(f m:Nat),1<=m->m+f<=n->(∀ m',m<=m'->m'<=m+f->Q m')->(kas_asc p f m).Okay n Q
 | 0,m,_,_,q=>q m (al _) (al _)
 | f+1,m,h1,h2,q=>h.ask (by lia) (by lia) (by lia) λb=>by
  cases b
  ·exact zS7 h f (m+1) (by lia) (by lia) λm' a b=>q m' (by lia) (by lia)
  ·exact q m (al _) (by lia)
theorem zJk{Q:Array Nat×Nat×Nat->Prop} : ∀(f:Nat)(p:Array Nat)(m r:Nat),IsP n p->1<=m->m+f<=n->(∀ p' m' r',IsP n p'->m<=m'->m'<=m+f->Q (p',m',r'))->(kas_desc f p m r).Okay n Q
 | 0,p,m,r,h,_,_,q=>q p m r h (al _) (al _)
 | f+1,p,m,r,h,h1,h2,q=>h.ask (by lia) (by lia) (by lia) λb=>by
  have q':∀ p' m' r',IsP n p'->m+1<=m'->m'<=m+1+f->Q (p',m',r'):=λp' m' r' a b c=>q p' m' r' a (by lia) (by lia);cases b
  ·exact h.ask (by lia) (by lia) (by lia) λd=>by
    cases d
    ·exact zJk f p (m+1) _ h (by lia) (by lia) q'
    ·exact q p m r h (al _) (by lia)
  ·show(if r>0 then _ else _:lE _).Okay n Q;split
   ·exact zJk f _ (m+1) _ (h.rev _ _) (by lia) (by lia) q'
   ·exact zJk f p (m+1) _ h (by lia) (by lia) q'
theorem zO3(h:IsP n p){Q:Nat×Array Nat->Prop}{m:Nat}(h1:1<=m)(h2:m<=n)(q:∀ m' p',IsP n p'->Q (m',p')):(kas_tail3 m n p).Okay n Q :=
 .bind (zS7 (h.rev _ _) _ _ h1 (by lia) λm' _ _=>q m' _ (h.rev _ _))
theorem zS1(h:IsP n p){Q:Nat×Array Nat->Prop}{m:Nat}(h1:1<=m)(h2:m+1<=n)(q:∀ m' p',IsP n p'->Q (m',p')):(kas_descPart m n p).Okay n Q:=by
 refine .bind (zJk _ _ _ _ h (by lia) (by lia) λp' m' r' a b c=>?_);show(if r'>0 then _ else _:lE _).Okay n Q;split
 ·exact zO3 (m:=m') (a.rev _ _) (by lia) (by lia) q
 ·exact zO3 (m:=m') a (by lia) (by lia) q
theorem zUt(h:IsP n p)(hn:2<=n){Q:Nat×Array Nat->Prop}(q:∀ m' p',IsP n p'->Q (m',p')):(kas_count n p).Okay n Q:=by
 refine .bind (zS7 h _ _ (al _) (by lia) λm' a b=>?_);show(if (m' == n)=true then _ else if m'>1 then _ else _:lE _).Okay n Q;split
 ·exact q _ _ h
 ·rename_i z
  have z:m'≠n:=λe=>z (by simp[e]);split
  ·exact h.ask (by lia) (by lia) (by lia) λb=>by
    cases b
    ·exact zS1 (h.rev _ _) (by lia) (by lia) q
    ·exact q _ _ h
  ·exact zS1 h (by lia) (by lia) q
theorem zJa(h:IsP n p){k:Nat}(hk:k<n){Q:Nat->Prop}(q:∀ l,Q l):∀(f l r:Nat),r<=k->(kas_place p k f l r).Okay n Q
 | 0,l,r,_=>q l
 | f+1,l,r,hr=>by
  show(if l >= r then _ else _:lE _).Okay n Q;split
  ·exact q l
  ·rename_i z
   exact h.ask hk (by lia) (by lia) λb=>by
    cases b
    ·exact zJa h hk q f _ _ hr
    ·exact zJa h hk q f _ _ (by lia)
theorem zXc{Q:Array Nat->Prop}(q:∀ p,IsP n p->Q p):∀(f:Nat)(p:Array Nat)(k:Nat),IsP n p->k+f<=n->(kas_bin f p k).Okay n Q
 | 0,p,_,h,_=>q p h
 | f+1,p,k,h,hk=>.bind (zJa h (by lia) (λl=>zXc q f _ _ (h.of (bubble_perm _ _ _)) (by lia)) _ _ _ (al _))
theorem zTd(hn:2<=n):(kas_sort n).Okay n (IsP n):=by
 refine .bind (zUt (show IsP n (ar (bJ n)) from .refl _) hn λm' p' h=>?_);show(if m'<n then _ else _:lE _).Okay n (IsP n);split
 ·exact zXc (λp h=>h) _ _ _ h (by lia)
 ·exact h
def zQ5(n:Nat)(f:Nat->Nat->Bool):List Nat:=if n<2 then bJ n else((kas_sort n).run f).toList
theorem zG6(n:Nat)(f:Nat->Nat->Bool):(zQ5 n f).Perm (bJ n):=by
 unfold zQ5;split
 ·exact .refl _
 ·exact(zTd (by lia)).end
end
end PySem.W
namespace L2
open PySem PySem.Spec PyProof.Rows PySem.W
section
variable{prog:aK}{w:aT}{A:bD}{E:ag->ai->Prop}{s:ai}
theorem zEf{f:Nat->Nat->Bool}{a:af}{vs:List ag}{n:Nat}{P:PySem.Fin->ai->Prop}(ho:s.heap.get? a=some (seqObj "list" vs.toArray n))(h64:vs.length<64)
  (hk:∀ h':aV,(∀ b o,b≠a->s.heap.get? b=some o->h'.get? b=some o)->2<=vs.length->∃ κ:jW,(∀ Q:jW->ai->Prop,Q κ { s with heap:=h' }->wpAny (model prog w) A (keyKind' vs.toArray) Q E { s with heap:=h' }) /\
   ∀ i j,i<vs.length->j<vs.length->i≠j->∀ C:Bool->ai->Prop,C (f i j) { s with heap:=h' }->kas_ask prog w A κ vs i j C { s with heap:=h' })
  (h:∀(h':aV)(c:Nat),(∀ b o,b≠a->s.heap.get? b=some o->h'.get? b=some o)->h'.get? a=some (seqObj "list" ((zQ5 vs.length f).map λi=>vs.getD i bg).toArray c)->P (.done (.ret .none)) { s with heap:=h' }) :
  wpAny (model prog w) A (eL.«list.sort» ⟨[.ref a],[]⟩) P E s:=by
 have ha:a<s.heap.objs.size:=aw ho;obtain⟨e1,ho1⟩:∃ e1,(s.heap.update a (bM λ_=>(#[]:Array ag))).get? a=some (seqObj "list" #[] e1):=⟨_,get?_update_seq ho λ_=>#[]⟩;rw[list_sort_plain];refine aa (listItems_at ho rfl ?_);refine aa (listUpdate_at ho rfl ?_ (by rw[aE,sizeLine_eq]; lia) (br _));refine aa (seqEpoch_at ho1 rfl ?_);refine aa (wpAny_newTuple ?_ (by show vs.length<=_; rw[sizeLine_eq]; lia));refine aa (jk ?_ (br _));refine bX ?_;have ho6:(((s.heap.update a (bM λ_=>#[])).push (seqObj "tuple" vs.toArray 0)).push (seqObj "list" #[] 0)).get? a=some (seqObj "list" #[] e1):=ah _ (ah _ ho1);have kp:∀ b o,b≠a->s.heap.get? b=some o->(((s.heap.update a (bM λ_=>#[])).push (seqObj "tuple" vs.toArray 0)).push (seqObj "list" #[] 0)).get? b=some o:=λb o hb e =>
  ah _ (ah _ ((aY _ _ (cm hb)).trans e))
 obtain⟨out,eo⟩:∃ out,out=(zQ5 vs.length f).map λi=>vs.getD i bg:=⟨_,rfl⟩;have lo:out.length=vs.length:=by rw[eo,ac,(zG6 vs.length f).length_eq,dh]
 rw[<- eo] at h;have fin:∀ c,(((((s.heap.update a (bM λ_=>#[])).push (seqObj "tuple" vs.toArray 0)).push (seqObj "list" #[] 0)).update a (bM λ_=>out.toArray))).get? a=some (seqObj "list" out.toArray c)->P (.done (.ret .none)) { s with heap:=((((s.heap.update a (bM λ_=>#[])).push (seqObj "tuple" vs.toArray 0)).push (seqObj "list" #[] 0)).update a (bM λ_=>out.toArray)) }:=λc e =>
  h _ c (λb o hb q=>(aY _ _ (cm hb)).trans (kp b o hb q)) e
 obtain⟨c2,hc2⟩:∃ c2,(((((s.heap.update a (bM λ_=>#[])).push (seqObj "tuple" vs.toArray 0)).push (seqObj "list" #[] 0)).update a (bM λ_=>out.toArray))).get? a=some (seqObj "list" out.toArray c2):=⟨_,get?_update_seq ho6 λ_=>out.toArray⟩;have done:=fin c2 hc2;show wpAny (model prog w) A _ P E { s with heap:=((s.heap.update a (bM λ_=>#[])).push (seqObj "tuple" vs.toArray 0)).push (seqObj "list" #[] 0) };dsimp only;have hsz:vs.toArray.size=vs.length:=by simp
 by_cases h2:vs.toArray.size<2
 ·rw[if_pos h2,if_pos h2];refine aa (ak ?_);rw[StateT.run_pure];refine aa (ak ?_);dsimp only;have ev:out=vs:=by
   rw[eo];unfold zQ5;rw[if_pos (by lia)];refine hW (by simp) λi h1 h3=>?_;simp at h1;simp[h1]
  have em:(vs.toArray.zip vs.toArray).map (·.2)=out.toArray:=by
   rw[ev];apply Array.toList_inj.mp;simp;exact kH (al _)
  refine aa (seqEpoch_at ho6 rfl ?_);refine aa (listUpdate_at ho6 rfl ?_ (hsz2:=by rw[Array.size_map]; show(pairsOf vs).size<=_; rw[pairsOf_size,sizeLine_eq]; lia));simp only[bne_self_eq_false,cH,if_false];refine ak ?_;show P _ { s with heap:=Heap.update _ a (bM λ_=>(vs.toArray.zip vs.toArray).map (·.2)) };rw[em];exact done
 ·rw[if_neg h2,if_neg h2];have h2':2<=vs.length:=by lia
  obtain⟨κ,hκ,hlt⟩:=hk _ kp h2';refine aa (hκ _ ?_);refine aa (cT (kat_run (s:={ s with heap:=((s.heap.update a (bM λ_=>#[])).push (seqObj "tuple" vs.toArray 0)).push (seqObj "list" #[] 0) }) (κ:=κ) (ks:=vs) (vs:=vs)
   (G:=λp s'=>p=(kas_sort vs.length).run f/\s'={ s with heap:=((s.heap.update a (bM λ_=>#[])).push (seqObj "tuple" vs.toArray 0)).push (seqObj "list" #[] 0) })
   (Q:=λst' s'=>(arrOf st').map (·.2)=out.toArray/\failedOf st'=none/\s'={ s with heap:=((s.heap.update a (bM λ_=>#[])).push (seqObj "tuple" vs.toArray 0)).push (seqObj "list" #[] 0) })
   rfl h2' h64 (λp' st' s' a1 a2 a3 ⟨a4,a5⟩=>⟨?_,a3,a5⟩) ((zTd h2').wp hlt ⟨rfl,rfl⟩)) ?_ λ_ _ e=>e)
  ·rw[kat_snds rfl a2,a4,eo];unfold zQ5;rw[if_neg (by lia)]
  rintro⟨⟨⟩,st'⟩ s' ⟨hp,hf,rfl⟩;dsimp only;refine aa (seqEpoch_at ho6 rfl ?_);refine aa (listUpdate_at ho6 rfl ?_ (hsz2:=by rw[hp,aE,lo,sizeLine_eq]; lia));rw[hf,hp];simp only[bne_self_eq_false,cH,if_false];exact ak done
end
def ltK:Key->Key->Bool
 | .inl a,.inl b=>decide (a<b)
 | .inr a,.inr b=>decide (a.cps.toList<b.cps.toList)
 | _,_=>false
def tR(ks:List Key):List Nat:=zQ5 ks.length λi j=>ltK (ks.getD i (.inl 0)) (ks.getD j (.inl 0))
def vV{α:Type}(o:List Nat)(l:List α):List α:=o.filterMap λi=>l[i]?
theorem zC9{α β:Type}(o:List Nat)(g:α->β)(l:List α):vV o (l.map g)=(vV o l).map g:=by
 unfold vV;rw[List.map_filterMap]
 congr 1
 funext i
 rw[av]
theorem zAo{α:Type}{d:α}{l:List α} : ∀{o:List Nat},(∀ i∈o,i<l.length)->o.map (λi=>l.getD i d)=vV o l
 | [],_=>rfl
 | i::o,h=>by
  have hi:=h i (.head _);have e:l[i]?=some l[i]:=aj hi;unfold vV;rw[aQ,cb e,zAo λj hj=>h j (.tail _ hj),bw,e];rfl
theorem zCx{α:Type}{l:List α}{o:List Nat}(h:∀ i∈o,i<l.length):(vV o l).length=o.length:=by
 cases l with
 | nil=>cases o with
  | nil=>rfl
  | cons i o=>exact absurd (h i (.head _)) (iH _)
 | cons x l=>rw[<- zAo (d:=x) h,ac]
theorem zA5{ks:List Key} : ∀ i∈tR ks,i<ks.length:=λi hi=>bZ.mp ((zG6 _ _).mem_iff.mp hi)
theorem zAu{ks:List Key} : (tR ks).length=ks.length:=by unfold tR; rw[(zG6 _ _).length_eq,dh]
theorem zF8{α:Type}{l:List α}{o:List Nat}{x:α}(h:x∈vV o l):x∈l:=by
 obtain⟨i,_,e⟩:=e9.mp h;exact aN e
def yb6(ks:List Key):Prop:=(∃ ns:List Int,ks=ns.map .inl)\/∃ ns:List aA,ks=ns.map .inr
def yi9(h:aV)(v:ag)(k:Key):Prop:=∃(a:af)(o:cz)(n:Nat)(p:ag)(r:List ag),v=.ref a/\h.get? a=some o/\o.cls=.type "tuple" /\ o.data=.seq (p::r).toArray n/\xE (kV k) p
section
open PySem.W
variable{prog:aK}{w:aT}{A:bD}{E:ag->ai->Prop}{s:ai}{vs:List ag}{ks:List Key}
theorem zMk{h:aV} : ∀{vs:List ag}{ks:List Key},vs.length=ks.length->(∀(j:Nat)(v:ag)(k:Key),vs[j]?=some v->ks[j]?=some k->yi9 h v k)->∃ fs,KatTups h vs fs/\fs.length=ks.length/\∀ v∈fs,∃ k∈ks,xE (kV k) v
 | [],[],_,_=>⟨[],.nil,rfl,λv hv=>nomatch hv⟩
 | [],_::_,hl,_=>by simp at hl
 | _::_,[],hl,_=>by simp at hl
 | v::vs,k::ks,hl,hh=>by
  obtain⟨a,o,n,p,r,rfl,e,c,d,rp⟩:=hh 0 v k rfl rfl;obtain⟨fs,t,l,f⟩:=zMk (vs:=vs) (ks:=ks) (by simpa using hl) λj b m h1 h2=>hh (j+1) b m (by simpa using h1) (by simpa using h2);refine⟨p::fs,.cons e c d rfl t,by simp[l],λv hv=>?_⟩;rcases aD.mp hv with rfl | hv
  ·exact⟨k,.head _,rp⟩
  ·obtain⟨k',hk,h⟩:=f v hv;exact⟨k',.tail _ hk,h⟩
theorem zLh(hl:vs.length=ks.length)(hT:∀ (j:Nat) (v:ag) (k:Key),vs[j]?=some v->ks[j]?=some k->yi9 s.heap v k)(one:yb6 ks)(nd:ks.Nodup)(h2:2<=vs.length) :
  (∀ Q:jW->ai->Prop,Q (tuples' true) s->wpAny (model prog w) A (keyKind' vs.toArray) Q E s)/\∀ i j,i<vs.length->j<vs.length->i≠j->∀ C:Bool->ai->Prop,C (ltK (ks.getD i (.inl 0)) (ks.getD j (.inl 0))) s->kas_ask prog w A (tuples' true) vs i j C s:=by
 constructor
 ·intro Q hq;obtain⟨fs,t,l,f⟩:=zMk hl hT;rcases one with ⟨ns,rfl⟩ | ⟨ns,rfl⟩
  ·refine kat_kind (T:=.type "int") t (by lia) (λv hv=>?_) (by decide) hq;obtain⟨k,hk,r⟩:=f v hv;obtain⟨n,_,rfl⟩:=aC.mp hk;obtain⟨tk,rfl⟩:=(show ∃ tk,v=dH n tk from r);exact .now
  ·refine kat_kind (T:=.type "str") t (by lia) (λv hv=>?_) (by decide) hq;obtain⟨k,hk,r⟩:=f v hv;obtain⟨n,_,rfl⟩:=aC.mp hk;obtain⟨tk,rfl⟩:=(show ∃ tk,v=cB n tk from r);exact .now
 ·intro i j hi hj ne C hC;have vi:vs[i]?=some vs[i]:=aj hi;have vj:vs[j]?=some vs[j]:=aj hj;have ki:ks[i]?=some (ks[i]'(by lia)):=aj (by lia);have kj:ks[j]?=some (ks[j]'(by lia)):=aj (by lia);have nk:ks[i]'(by lia)≠ks[j]'(by lia):=λz=>ne ((g8 nd).mp z);unfold kas_ask;rw[bw,bw,vi,vj];rw[bw,bw,ki,kj] at hC;obtain⟨a,o,n,p,r,e1,h1,_,d1,r1⟩:=hT i _ _ vi ki;obtain⟨a',o',n',p',r',e2,h2',_,d2,r2⟩:=hT j _ _ vj kj;show wpAny (model prog w) A (keyLt' (tuples' true) vs[i] vs[j]) C _ s;rw[e1,e2]
  replace hC:C (ltK (ks[i]'(by lia)) (ks[j]'(by lia))) s:=hC
  generalize ks[i]'(by lia)=k1 at *;generalize ks[j]'(by lia)=k2 at *;have m1:=aN ki;have m2:=aN kj;rcases one with ⟨ns,rfl⟩ | ⟨ns,rfl⟩
  ·obtain⟨x,_,rfl⟩:=aC.mp m1;obtain⟨y,_,rfl⟩:=aC.mp m2;obtain⟨tk,rfl⟩:=(show ∃ tk,p=dH x tk from r1);obtain⟨tk',rfl⟩:=(show ∃ tk,p'=dH y tk from r2);refine kat_lt h1 d1 h2' d2 (kat_cons (j5 ?_));rw[show(x == y)=false from beq_eq_false_iff_ne.mpr λz=>nk (by rw[z])];exact kat_no (oneLt_int hC)
  ·obtain⟨x,_,rfl⟩:=aC.mp m1;obtain⟨y,_,rfl⟩:=aC.mp m2;obtain⟨tk,rfl⟩:=(show ∃ tk,p=cB x tk from r1);obtain⟨tk',rfl⟩:=(show ∃ tk,p'=cB y tk from r2);refine kat_lt h1 d1 h2' d2 (kat_cons (j6 ?_));rw[show decide (x=y)=false from decide_eq_false λz=>nk (by rw[z])];exact kat_no (oneLt_str hC)
end
section
variable{prog:aK}{w:aT}{A:bD}{E:ag->ai->Prop}{s:ai}
def AskF(prog:aK)(w:aT)(s:ai)(vs:List ag)(f:Nat->Nat->Bool):Prop :=
 ∃ κ:jW,∀(A:bD)(E:ag->ai->Prop),(∀ Q:jW->ai->Prop,Q κ s->wpAny (model prog w) A (keyKind' vs.toArray) Q E s)/\∀ i j,i<vs.length->j<vs.length->i≠j->∀ C:Bool->ai->Prop,C (f i j) s->kas_ask prog w A κ vs i j C s
theorem zKn{f:Nat->Nat->Bool}{l:af}{vs:List ag}{Q:ag->ai->Prop}(hl:s.heap.IsList l vs.toArray)(h64:vs.length<64)
  (hk:∀ h':aV,(∀ b o,s.heap.get? b=some o->h'.get? b=some o)->2<=vs.length->AskF prog w { s with heap:=h' } vs f)
  (h:∀(h':aV)(c:Nat),(∀ b o,s.heap.get? b=some o->h'.get? b=some o)->h'.get? (s.heap.objs.size+1)=some (seqObj "list" ((zQ5 vs.length f).map λi=>vs.getD i bg).toArray c)->Q (.ref (s.heap.objs.size+1)) { s with heap:=h' }) :
  wpAny (model prog w) A (call (.builtin "sorted") [.ref l]) Q E s:=by
 refine gL kind_sorted plain_sorted entry_sorted (args_sorted1 _) ?_;unfold eL.«sorted»;refine aa (m:=checkCount "sorted" 1 1 _) (ak ?_);refine aa (collect_list hl ?_ (by rw[sizeLine_eq]; lia));refine aa (jk ?_ (by rw[sizeLine_eq]; lia));have hsz:((s.heap.push (seqObj "list" #[] 0)).update s.heap.objs.size (bM (· ++ vs.toArray))).objs.size=s.heap.objs.size+1:=by
  rw[Heap.size_update,size_push']
 have hoL:(((s.heap.push (seqObj "list" #[] 0)).update s.heap.objs.size (bM (· ++ vs.toArray))).push (seqObj "list" vs.toArray 0)).get? (s.heap.objs.size+1)=some (seqObj "list" vs.toArray 0):=by
  rw[<- hsz]; exact ap _ rfl
 have keep:∀ b o,s.heap.get? b=some o->(((s.heap.push (seqObj "list" #[] 0)).update s.heap.objs.size (bM (· ++ vs.toArray))).push (seqObj "list" vs.toArray 0)).get? b=some o:=λb o q=>by
  have hlt:b<s.heap.objs.size:=aw q;rw[jX _ _ _ (by rw[hsz]; exact aP (jY hlt)),Heap.get?_update_ne _ _ _ _ (aP hlt),jX _ _ _ (aP hlt)];exact q
 have kp:∀ h':aV,(∀ b o,b≠s.heap.objs.size+1->(((s.heap.push (seqObj "list" #[] 0)).update s.heap.objs.size (bM (· ++ vs.toArray))).push (seqObj "list" vs.toArray 0)).get? b=some o->h'.get? b=some o)->∀ b o,s.heap.get? b=some o->h'.get? b=some o:=λh' k b o e=>k b o (aP (jY (aw e))) (keep b o e);show wpAny _ _ _ _ _ { s with heap:=((s.heap.push (seqObj "list" #[] 0)).update s.heap.objs.size (bM (· ++ vs.toArray))).push (seqObj "list" vs.toArray 0) };rw[hsz];refine aa (bX (bQ slot_list_sort ⟨_,hoL,rfl⟩ entry_list_sort ?body (args_list_sort _)))
 case body =>
  refine zEf (f:=f) (s:={ s with heap:=((s.heap.push (seqObj "list" #[] 0)).update s.heap.objs.size (bM (· ++ vs.toArray))).push (seqObj "list" vs.toArray 0) }) hoL h64 (λh2 k2 two=>?_) λh2 c k2 e2=>⟨_,rfl,ak ⟨_,rfl,h h2 c (kp h2 k2) e2⟩⟩;obtain⟨κ,hκ⟩:=hk h2 (kp h2 k2) two;exact⟨κ,hκ _ _⟩
end
theorem zO0:∀{xs:List V}{us:List ag}{j:Nat}{v:V},yV xs us->xs[j]?=some v->∃ u,us[j]?=some u/\xE v u
 | _,_,_,_,.nil,e=>by simp at e
 | _,_,0,_,.cons r _,e=>by simp at e; subst e; exact⟨_,U,r⟩
 | _,_,j+1,_,.cons _ r,e=>by
  obtain⟨u,h1,h2⟩:=zO0 (j:=j) r (by simpa using e);exact⟨u,by simpa using h1,h2⟩
section
variable{X:Cx}
theorem zAx:uS X (.builtin "sorted") (λxs H Q=>∃(l:af)(ts:List (af×Key×List V)),xs=[.ref l]/\SqL X.K H l ((ts.map (·.1)).map V.ref)/\(∀ t∈ts,H t.1=some (.tup (kV t.2.1::t.2.2)))/\ts.length<64/\yb6 (ts.map (·.2.1))/\(ts.map (·.2.1)).Nodup /\
  ∀ p:af,H p=none->Q (.ref p) (upd H p (.lst ((vV (tR (ts.map (·.2.1))) (ts.map (·.1))).map V.ref)))):=by
 intro pins s σ H xs us Q I r h;obtain⟨l,ts,rfl,hq,hts,h64,one,nd,q⟩:=h;obtain⟨u,rfl,ru⟩:=yV.one r;cases ru;obtain⟨its,rv,pl,hz⟩:=I.list hq;have ei:=zTc rv;subst ei;have ll:((ts.map (·.1)).map aI).length=(ts.map (·.2.1)).length:=by simp
 have hT:∀ h':aV,(∀ b o,s.heap.get? b=some o->h'.get? b=some o)->∀(j:Nat)(v:ag)(k:Key),((ts.map (·.1)).map aI)[j]?=some v->(ts.map (·.2.1))[j]?=some k->yi9 h' v k:=λh' keep j v k e1 e2=>by
  rw[bp,av,aH] at e1;obtain⟨t,et,rfl⟩:=e1;rw[av,et] at e2;cases e2;obtain⟨its,r1,⟨o,e,c,n,d⟩,_⟩:=I.tuple (SqT.of (hts t (aN et)));cases r1 with
  | cons r1 r2=>exact⟨t.1,o,n,_,_,U,keep _ _ e,c,d,r1⟩
 refine zKn (f:=λi j=>ltK ((ts.map (·.2.1)).getD i (.inl 0)) ((ts.map (·.2.1)).getD j (.inl 0))) pl.isList (by simpa using h64) (λh' keep two=>⟨tuples' true,λA E=>zLh ll (hT h' keep) one nd two⟩) λh' c keep e2=>?_;rw[ll,show zQ5 (ts.map (·.2.1)).length (λi j=>ltK ((ts.map (·.2.1)).getD i (.inl 0)) ((ts.map (·.2.1)).getD j (.inl 0)))=tR (ts.map (·.2.1)) from rfl,zAo (λi hi=>by rw[ll]; exact zA5 i hi),zC9] at e2;have I2:Inv X pins σ H { s with heap:=h' }:=I.kept (t':=s.toks) keep;have fr:H (s.heap.objs.size+1)=none:=I.hok.fresh (dZ _);refine⟨.ref (s.heap.objs.size+1),_,I2.more (o:=.lst ((vV (tR (ts.map (·.2.1))) (ts.map (·.1))).map V.ref)) (I.fpOk (H':=H) (dZ _) fr) ⟨?_,_,c,zCt _,e2⟩,U,q _ fr⟩;rw[ac,zCx (λi hi=>by have:=zA5 i hi; simpa using this),zAu,ac,sizeLine_eq];lia
theorem zKf:uS X (.builtin "sorted") (λxs H Q=>∃(l:af)(ns:List aA),xs=[.ref l]/\SqL X.K H l (ns.map V.str)/\ns.length<64 /\
  ∀ p:af,H p=none->Q (.ref p) (upd H p (.lst ((vV (tR (ns.map .inr)) ns).map V.str)))):=by
 intro pins s σ H xs us Q I r h;obtain⟨l,ns,rfl,hq,h64,q⟩:=h;obtain⟨u,rfl,ru⟩:=yV.one r;cases ru;obtain⟨its,rv,pl,hz⟩:=I.list hq;have hn:its.length=ns.length:=by rw[<- rv.length,ac]
 have el:∀ j,j<ns.length->∃ t,its[j]?=some (cB (ns.getD j "") t):=λj hj=>by
  obtain⟨x,e1,e2⟩:=zO0 rv (j:=j) (v:=V.str (ns.getD j "")) (by rw[av,bw,aj hj]; rfl);obtain⟨t,rfl⟩:=(show ∃ t,x=cB _ t from e2);exact⟨t,e1⟩
 refine zKn (f:=λi j=>ltK ((ns.map (.inr:aA->Key)).getD i (.inl 0)) ((ns.map (.inr:aA->Key)).getD j (.inl 0))) pl.isList (by lia) (λh' keep two=>⟨oneType',λA E=>⟨λQ' hq'=>?_,λi j hi hj ne C hC=>?_⟩⟩) λh' c keep e2=>?_
 ·refine kas_kind (T:=.type "str") two (λv hv=>?_) (by decide) (by decide) hq';obtain⟨i,hi⟩:=iP.mp hv;obtain⟨t,e⟩:=el i (by rw[<- hn]; exact(aM.mp hi).1);rw[hi] at e;cases e;exact .now
 ·obtain⟨t1,e1⟩:=el i (by lia);obtain⟨t2,e2⟩:=el j (by lia);unfold kas_ask;rw[bw,bw,e1,e2];refine kas_lt_str ?_;have g:∀ k,k<ns.length->(ns.map (.inr:aA->Key)).getD k (.inl 0)=.inr (ns.getD k ""):=λk hk=>by
   rw[bw,av,bw,aj hk]; rfl
  have hC:C (ltK ((ns.map (.inr:aA->Key)).getD i (.inl 0)) ((ns.map (.inr:aA->Key)).getD j (.inl 0))) _:=hC;rw[g i (by lia),g j (by lia)] at hC;exact hC
 ·have lm:∀ i∈tR (ns.map (.inr:aA->Key)),i<ns.length:=λi hi=>by have:=zA5 i hi; rwa[ac] at this
  have ec:((zQ5 its.length λi j=>ltK ((ns.map (.inr:aA->Key)).getD i (.inl 0)) ((ns.map (.inr:aA->Key)).getD j (.inl 0))).map λi=>its.getD i bg)=vV (tR (ns.map .inr)) its:=by
   rw[show zQ5 its.length (λi j=>ltK ((ns.map (.inr:aA->Key)).getD i (.inl 0)) ((ns.map (.inr:aA->Key)).getD j (.inl 0)))=tR (ns.map (.inr:aA->Key)) from by unfold tR; rw[ac,hn],zAo λi hi=>by rw[hn]; exact lm i hi]
  rw[ec] at e2;have I2:Inv X pins σ H { s with heap:=h' }:=I.kept (t':=s.toks) keep;have fr:H (s.heap.objs.size+1)=none:=I.hok.fresh (dZ _);refine⟨.ref (s.heap.objs.size+1),_,I2.more (o:=.lst ((vV (tR (ns.map .inr)) ns).map V.str)) (I.fpOk (H':=H) (dZ _) fr) ⟨?_,_,c,?_,e2⟩,U,q _ fr⟩
  ·rw[ac,zCx lm,zAu,ac,sizeLine_eq];lia
  ·rw[<- zC9];exact zFu rv _
end
theorem zPg{P:aK}{w:aT}{kvs:List (Key×V)}{vs:List (Key×ag)}{lo:af}{h':aV}{as:List af}(rel:KV kvs vs)(G:KdxG (yK P w) vs lo h' as):∀(j:Nat)(a:af)(e:Key×V),as[j]?=some a->kvs[j]?=some e->∃ key x,xE (kV e.1) key/\xE e.2 x/\h'.get? a=some { cls:=.type "tuple",data:=.seq #[key,x] }:=λj a e ha he=>by
 obtain⟨key,k,x,g1,g2,g3⟩:=G.pairs j a ha;obtain⟨u,hu,ru⟩:=KV.at (vs:=vs) (i:=j) (k:=e.1) (v:=e.2) rel he;rw[hu] at g1;cases g1;have g2':zN1 e.1 key=true:=g2;refine⟨key,_,?_,ru,g3⟩;rcases yP g2' with ⟨i,t,e1,e2⟩ | ⟨y,t,e1,e2⟩ <;> rw[e1,e2] <;> exact⟨t,U⟩
section
variable{X:Cx}
theorem zD0(hc:X.calm=true):uS X (.builtin "sorted") (λxs H Q=>∃(v d:af)(kvs:List (Key×V)),xs=[.ref v]/\H v=some (.ext (zBq v d))/\Rd H d (.dK kvs)/\kvs.length<64/\yb6 (kvs.map (·.1))/\(kvs.map (·.1)).Nodup /\
  ∀(p:af)(as:List af)(H2:Hp),Same H H2->H p=none->as.length=kvs.length->H2 p=some (.lst ((vV (tR (kvs.map (·.1))) as).map V.ref))->(∀(j:Nat)(a:af)(e:Key×V),as[j]?=some a->kvs[j]?=some e->H a=none/\H2 a=some (.tup [kV e.1,e.2]))->Q (.ref p) H2):=by
 intro pins s σ H xs us Q I r h;obtain⟨v,d,kvs,rfl,hv,hd,h64,one,nd,q⟩:=h;obtain⟨u,rfl,ru⟩:=yV.one r;cases ru;obtain⟨hz,ns,vs,rel,da⟩:=hd.ok I.hok;obtain⟨o,es,ep,e,c,dt,hk,hp,hn⟩:=da;have hl:vs.length=kvs.length:=rel.length.symm;have dat:s.heap.DictAt (yK X.prog X.w) d vs ep:=⟨o,es,e,c,dt,hk,hp,hn⟩;have hview:s.heap.IsItemsView v d:=(show xD X.prog X.w H s.heap v (.ext (zBq v d)) from I.hok v _ hv).1;have zI1:kvs.length<=sizeLine:=by rw[sizeLine_eq]; lia
 have hh:X.A.in1.handled=none:=I.ok.hd hc;refine gL kind_sorted plain_sorted entry_sorted (args_sorted1 _) ?_;unfold eL.«sorted»;refine aa (m:=checkCount "sorted" 1 1 _) (ak ?_);refine aa (kdx_collect (knd:=yK X.prog X.w) (kvs:=vs) (ep:=ep) hh hview dat (by rw[hl]; exact zI1) λh' tk as keep la G=>?_);refine aa (jk ?_ (by rw[ac,la,hl]; exact zI1));have ln:as.length=kvs.length:=la.trans hl;have at_:=zPg rel G;have hoL:(h'.push (seqObj "list" (as.map aI).toArray 0)).get? h'.objs.size=some (seqObj "list" (as.map aI).toArray 0):=ap _ rfl;have ll:(as.map aI).length=(kvs.map (·.1)).length:=by rw[ac,ac,ln]
 have lp:∀ i∈tR (kvs.map (·.1)),i<as.length:=λi hi=>by have:=zA5 i hi; rw[ac] at this; lia
 show wpAny _ _ _ _ _ { s with heap:=h'.push (seqObj "list" (as.map aI).toArray 0),toks:=tk };refine aa (bX (bQ slot_list_sort ⟨_,hoL,rfl⟩ entry_list_sort ?body (args_list_sort _)))
 case body =>
  refine zEf (f:=λi j=>ltK ((kvs.map (·.1)).getD i (.inl 0)) ((kvs.map (·.1)).getD j (.inl 0))) (s:={ s with heap:=h'.push (seqObj "list" (as.map aI).toArray 0),toks:=tk }) hoL (by rw[ac,ln]; exact h64) (λh2 k2 two=>⟨tuples' true,zLh ll (λj v k e1 e2=>?_) one nd two⟩) λh2 c k2 e2=>⟨_,rfl,ak ⟨_,rfl,?_⟩⟩
  ·rw[av,aH] at e1 e2;obtain⟨a,ea,rfl⟩:=e1;obtain⟨e,ee,rfl⟩:=e2;obtain⟨key,x,g1,_,g3⟩:=at_ j a e ea ee;exact⟨a,_,_,key,[x],U,k2 a _ (aP (aw g3)) (ah _ g3),U,U,g1⟩
  ·rw[ll,show zQ5 (kvs.map (·.1)).length (λi j=>ltK ((kvs.map (·.1)).getD i (.inl 0)) ((kvs.map (·.1)).getD j (.inl 0)))=tR (kvs.map (·.1)) from rfl,zAo (λi hi=>by rw[ac]; exact lp i hi),zC9] at e2;have kp:∀ b o,s.heap.get? b=some o->h2.get? b=some o:=λb o e=>k2 b o (aP (aw (keep b o e))) (ah _ (keep b o e));have I2:Inv X pins σ H { s with heap:=h2,toks:=tk }:=I.kept (t':=tk) kp;have ab:∀ a∈as,s.heap.objs.size<=a:=λa ha=>dL (G.above a ha);have I1:Inv X pins σ H { s with heap:=h',toks:=tk }:=I.kept (t':=tk) keep;have fp:=I1.fpOk (H':=H) (al _) (I1.hok.fresh (al _));have I3:Inv X pins σ (upd H h'.objs.size (.lst ((vV (tR (kvs.map (·.1))) as).map V.ref))) { s with heap:=h2,toks:=tk }:=I2.more fp ⟨by rw[ac,zCx lp,zAu,ac]; exact zI1,_,c,zCt _,e2⟩;obtain⟨H3,I4,s3,g3,n3⟩:=I3.tuples (lo:=0) (kvs.map λe=>[kV e.1,e.2]) G.rise (λa ha=>by
    refine I.fpOk (ab a ha) ?_;rw[zH (aP (G.there ha))];exact I.hok.fresh (ab a ha)) (by rw[ac,ln]) λj a xs ha hx H'=>by
     rw[av,aH] at hx;obtain⟨e,he,rfl⟩:=hx;obtain⟨key,x,g1,g2,g3⟩:=at_ j a e ha he;exact⟨by show 2<=sizeLine; rw[sizeLine_eq]; decide,[key,x],.cons g1 (.cons g2 .nil),_,k2 a _ (aP (aw g3)) (ah _ g3),rfl,_,rfl⟩
   exact⟨.ref h'.objs.size,H3,I4,U,q h'.objs.size as H3 ((zC fp.1 _).trans s3) fp.1 ln (s3 _ _ zA) λj a e ha he=>⟨I.hok.fresh (ab a (aN ha)),g3 j a _ ha (by rw[av,he]; rfl)⟩⟩
theorem zIs(hc:X.calm=true):uS X (.type "list") (λxs H Q=>∃(v d:af)(kvs:List (Key×V)),xs=[.ref v]/\H v=some (.ext (zBq v d))/\Rd H d (.dK kvs)/\kvs.length<=1000 /\
  ∀(p:af)(as:List af)(H2:Hp),Same H H2->H p=none->as.length=kvs.length->H2 p=some (.lst (as.map V.ref))->(∀(j:Nat)(a:af)(e:Key×V),as[j]?=some a->kvs[j]?=some e->H a=none/\H2 a=some (.tup [kV e.1,e.2]))->Q (.ref p) H2):=by
 intro pins s σ H xs us Q I r h;obtain⟨v,d,kvs,rfl,hv,hd,h64,q⟩:=h;obtain⟨u,rfl,ru⟩:=yV.one r;cases ru;obtain⟨hz,ns,vs,rel,da⟩:=hd.ok I.hok;obtain⟨o,es,ep,e,c,dt,hk,hp,hn⟩:=da;have hl:vs.length=kvs.length:=rel.length.symm;have dat:s.heap.DictAt (yK X.prog X.w) d vs ep:=⟨o,es,e,c,dt,hk,hp,hn⟩;have hview:s.heap.IsItemsView v d:=(show xD X.prog X.w H s.heap v (.ext (zBq v d)) from I.hok v _ hv).1;have zI1:kvs.length<=sizeLine:=by rw[sizeLine_eq]; lia
 refine kdx_call (knd:=yK X.prog X.w) (kvs:=vs) (ep:=ep) (show X.A.handled=none from I.ok.hd hc) hview dat (by rw[hl]; exact zI1) λh' tk acc c as keep e2 la G ea=>?_;have ln:as.length=kvs.length:=la.trans hl;have at_:=zPg rel G;have I1:Inv X pins σ H { s with heap:=h',toks:=tk }:=I.kept (t':=tk) keep;have ab:∀ a∈as,s.heap.objs.size<a:=λa ha=>G.above a ha;have fp:=I.fpOk (H':=H) (al _) (I.hok.fresh (al _));have I3:Inv X pins σ (upd H s.heap.objs.size (.lst (as.map V.ref))) { s with heap:=h',toks:=tk }:=I1.more fp ⟨by rw[ac,ln]; exact zI1,as.map aI,c,zCt as,by rw[<- ea,iX]; exact e2⟩;obtain⟨H3,I4,s3,g3,n3⟩:=I3.tuples (lo:=0) (kvs.map λe=>[kV e.1,e.2]) G.rise (λa ha=>by
  refine I.fpOk (dL (ab a ha)) ?_;rw[zH (d3 (ab a ha))];exact I.hok.fresh (dL (ab a ha))) (by rw[ac,ln]) λj a xs ha hx H'=>by
   rw[av,aH] at hx;obtain⟨e,he,rfl⟩:=hx;obtain⟨key,x,g1,g2,g3⟩:=at_ j a e ha he;exact⟨by show 2<=sizeLine; rw[sizeLine_eq]; decide,[key,x],.cons g1 (.cons g2 .nil),_,g3,rfl,_,rfl⟩
 exact⟨.ref s.heap.objs.size,H3,I4,U,q _ as H3 ((zC fp.1 _).trans s3) fp.1 ln (s3 _ _ zA) λj a e ha he=>⟨I.hok.fresh (dL (ab a (aN ha))),g3 j a _ ha (by rw[av,he]; rfl)⟩⟩
end
end L2

namespace L2
open PySem PySem.Spec PyProof.Rows
def Iti(φ:Hp->Prop)(kvs:List (Key×V)):It :=
 ⟨λi H=>φ H/\i<kvs.length,λi H v H'=>∃(T:af)(e:Key×V),v=.ref T/\H T=none/\H'=upd H T (.tup [kV e.1,e.2])/\kvs[i]?=some e,λi H=>φ H/\kvs.length<=i⟩
theorem zHc:entryFor table "dict_itemiterator.__iter__" = some eL.«dict_keyiterator.__iter__»:=entryFor_alias (id' := "dict_keyiterator.__iter__") (by kernel_rfl) rfl (by decide +kernel) (by kernel_rfl)
theorem zG1{prog:aK}{w:aT}{A:bD}{E:ag->ai->Prop}{s:ai}{it d:af}{i n ep:Nat}{ok ov:ag}{Q:ag->ai->Prop}(hit:IsItemIter s.heap it d i n ep ok ov)(h:Q (.ref it) s):wpAny (model prog w) A (pyIter (.ref it)) Q E s:=by
 have ty:s.TypeIs (.ref it) "dict_itemiterator" :=⟨_,hit,rfl⟩;refine jP ty fN (bQ fN ty zHc ?_ (F.args_dict_itemiterator_iter_1 _));show wpAny _ _ (ret (.ref it)) _ _ s;exact ak ⟨_,rfl, "dict_itemiterator",_,ty,F.slot_dict_itemiterator_next.lookup,h⟩
theorem zQ3{P:aK}{w:aT}{K:ae}{elts:List bu}{kt:Nat}{pt:eS}{d:af}{kvs:List (Key×V)}{o:cz}{es:Array df}{ep:Nat}(ho:o.data=.dict es ep)(it:af) :
  zWv P w K (.Tuple elts kt pt) (Iti (zNw d o kvs) kvs) [it] it (λi h=>∃ ok ov,IsItemIter h it d i kvs.length ep ok ov) where
 mem:=by simp
 obj:=λi h st b hb=>by
  have e:b=it:=by simpa using hb
  subst e;obtain⟨ok,ov,e⟩:=st;exact⟨_,e,λv z=>by cases z⟩
 keep:=λi h h' ⟨ok,ov,st⟩ k=>⟨ok,ov,k it (by simp) _ st⟩
 item:=by
  intro X hP hw hK hc i pins s σ H E I hf st ⟨fz,hi⟩;subst hP hw hK;obtain⟨vs,r,da,_,_⟩:=I.frzAt fz ho;obtain⟨u,hu,ru⟩:=KV.at (vs:=vs) (k:=kvs[i].1) (v:=kvs[i].2) r (aj hi);obtain⟨ok,ov,st⟩:=st;rw[r.length] at st;have fresh:H s.heap.objs.size=none:=I.hok.fresh (al _);have litz:it<s.heap.objs.size:=aw st;refine wpAny_pyNext_items_item st da hu λkey h' hk out ht hz kp=>⟨_,rfl,wpAny_letOwnedTupleGo_items out λh2 st2 sb=>?_⟩;rw[<- r.length] at st2;have rk:xE (kV kvs[i].1) key:=by
   rcases yP hk with ⟨j,t,e1,e2⟩ | ⟨x,t,e1,e2⟩
   ·rw[e1,e2]; exact⟨t,U⟩
   ·rw[e1,e2]; exact⟨t,U⟩
  have kp2:∀ c o,c ∉ [it]->s.heap.get? c=some o->h2.get? c=some o:=λc o hc e=>by
   have hc:c≠it:=by simpa using hc
   exact sb.extBut c o hc (kp c o hc e)
  have neT:∀ b o,s.heap.get? b=some o->b≠s.heap.objs.size:=λb o e=>aP (aw e);have neH:∀ b o,H b=some o->b ∉ [it]:=λb o e hb=>by
   rw[(hf b hb).1] at e;cases e
  have upn:∀ b u,H b=some u->upd H s.heap.objs.size (.tup [kV kvs[i].1,kvs[i].2]) b=some u:=λb u e=>by
   rw[zH (zJ e fresh)];exact e
  refine⟨.ref s.heap.objs.size,upd H s.heap.objs.size (.tup [kV kvs[i].1,kvs[i].2]),?_,U,⟨_,kvs[i],U,fresh,U,aj hi⟩,⟨_,_,st2⟩,λb hb=>?_⟩
  ·refine Inv.step (s:=s) (h':=h2) (g':=s.gens) (d':=s.drawn) (t':=s.toks) (ch:=[it]) I (λb hb=>?_) (λb o _ _ hc e _=>kp2 b o hc e) (λb o _ _ hc e _=>⟨o.slots,kp2 b o hc e⟩) (λb o _ e n=>?_) (λb o hc e=>⟨o,kp2 b o hc e⟩)
    (λb zs e=>upn b _ e) (λb o zs e=>upn b _ e) (λb ps e=>⟨#[],by rw[upn b _ e]; simp⟩) (λm hm=>?_) (λb o e=>?_) I.bare
   ·obtain⟨_,f1,_,f3,f4,f5⟩:=hf b hb;exact⟨f3,f1,f4,f5⟩
   ·rw[zH (neT b o e)];exact n
   ·obtain⟨o,es,ep,ho,r⟩:=hm;refine⟨o,es,ep,kp2 _ o (λhb=>?_) ho,r⟩;exact(hf _ hb).2.1 rfl
   ·by_cases hb:b=s.heap.objs.size
    ·subst hb;rw[zA] at e;cases e;exact⟨by show 2<=sizeLine; decide,[key,u],.cons rk (.cons ru .nil),_,sb.extBut _ _ (d3 litz) ht,rfl,_,rfl⟩
    ·rw[zH hb] at e;refine(I.hok b o e).stay (λc u hc q=>kp2 c u ?_ q) (λc q=>upn c _ q) λc zs q=>upn c _ q;rcases hc with hc | hc
     ·rw[hc]; exact neH b o e
     ·exact neH c _ hc
  ·have e:b=it:=by simpa using hb
   subst e;rw[zH (aP litz)];exact(hf b hb).1
 done:=by
  intro X hP hw hK hc i pins s σ H E I hf st ⟨fz,hi⟩;subst hP hw hK;obtain⟨vs,r,da,_,_⟩:=I.frzAt fz ho;obtain⟨f0,f1,f2,f3,f4,f5⟩:=hf it (by simp);obtain⟨ok,ov,st⟩:=st;rw[r.length] at st;exact wpAny_pyNext_items_end (I.ok.hd hc) st da (ce (by rw[<- r.length]; exact hi)) λh' eb=>⟨rfl,I.turned (t':=s.toks) (λb o hb e=>eb b o hb e) f0 f1 f3 f4 f5⟩
 self:=λ_ _ _ _ _ ⟨_,_,st⟩ h=>zG1 st h
section
variable{X:Cx}{l:bu}{te:TE}{apos pos:eS}
def yg0(te:TE):TI:=λσ H R=>te σ H λx H1=>∃(d:af)(kvs:List (Key×V)),x=.ref d/\Rd H1 d (.dK kvs)/\∀(o:cz)(H2:Hp),zV2 d o kvs H1 H2->R (Iti (zNw d o kvs) kvs) H2
theorem zVw{elts:List bu}{kt:Nat}{pt:eS}(hl:PE X l te)(hbase:attributeBase l "items" X.env (eval l X.env)=eval l X.env:=by rfl)(hline:(apos.endLine == pos.line)=true:=by rfl):PI X (.Tuple elts kt pt) (.Call (.Attribute l "items" apos) [] [] pos) (yg0 te):=by
 intro pins s σ H R I h;refine fu (T := "dict") (id := "dict.items") hbase rfl hline gS fw jS (thn (hl pins s σ H _ I h) λv s1 ⟨x,H1,I1,r1,d,kvs,e,hd,q⟩=>?_);subst e;cases r1;obtain⟨o,es,ep,H2,ho,ft,I2⟩:=I1.frozen hd;obtain⟨vs,r,da,_,ns⟩:=I2.frzAt ft.1 ho;exists da.dictOf.typeIs,da.dictOf.mapOf.noDict;show wpAny _ _ (callWith pos (.builtin "dict.items") [.ref d] [] []) _ _ s1;refine method_meetsIn fw jz rfl (fZ ⟨rfl,da.dictOf.typeIs,jb _,_,meets_dict_items (yK X.prog X.w) d ns,⟨vs,da.dictOf⟩,?_⟩);refine wpAny_pyIter_items (knd:=yK X.prog X.w) (d:=d) (kvs:=vs) (ep:=ep) ⟨_,ap _ rfl,rfl,rfl⟩ (da.push _) ?_;have I3:=I2.kept (t':=s1.toks) (h':=s1.heap.push { cls:=.type "dict_items",data:=.fields #[.ref d] }) λb o e=>ah _ e;have I4:=I3.kept (t':=s1.toks) (h':=(s1.heap.push { cls:=.type "dict_items",data:=.fields #[.ref d] }).push { cls:=.type "dict_itemiterator",data:=.fields #[.none,.bool false,.ref d,.int 0 0,.int vs.length 0,.int ep 0,.none,.none] }) λb o e=>ah _ e;refine⟨_,[_],_,_,H2,U,I4,zQ3 ho _,⟨_,_,by rw[r.length]; exact ap _ rfl⟩,λb hb=>?_,q o H2 ft⟩;have e:=au.mp hb;subst e;exact I3.fpOk (al _) (I3.hok.fresh (al _))
end
section
variable{φ:Hp->Prop}{kvs:List (Key×V)}{g:TG}{σ0:St}{H1:Hp}{D:af}{tt:TT}{te:TE}{Q:VK}
theorem zY4(Pv:Nat->St->List V->Hp->Prop)(h0:Pv 0 σ0 [] (upd H1 D (.lst [])))(hl:∀ i σ ys H,Pv i σ ys H->φ H/\H D=some (.lst ys))
  (hs:∀(i:Nat)(e:Key×V)(T:af) σ ys H,kvs[i]?=some e->H T=none->Pv i σ ys H->g (.ref T) σ (upd H T (.tup [kV e.1,e.2])) λσ2 H2=>te σ2 H2 λy H4=>H4 D=some (.lst ys)/\ys.length<sizeLine/\Pv (i+1) σ2 (ys++[y]) (upd H4 D (.lst (ys++[y]))))
  (hd:∀ σ ys H,Pv kvs.length σ ys H->Q (.ref D) H):zDn (Iti φ kvs) D g zYm te σ0 H1 Q:=by
 exists λi m σ ys H=>m=kvs.length-i/\i<=kvs.length/\Pv i σ ys H,⟨kvs.length,by simp,br _,h0⟩;rintro i m σ ys H ⟨rfl,hi,p⟩;obtain⟨q,qd⟩:=hl i σ ys H p;exists qd;by_cases hlt:i<kvs.length
 ·refine .inr ⟨⟨q,hlt⟩,Pv (i+1),λσ' zs H' z=>⟨kvs.length-(i+1),by lia,rfl,hlt,z⟩,λx H' ⟨T,e,ex,hT,eH,y⟩=>?_⟩;subst ex eH;exact hs i e T σ ys _ y hT p
 ·have e:i=kvs.length:=by lia
  subst e;exact .inl ⟨⟨q,al _⟩,hd σ ys H p⟩
end
end L2

namespace Sea
open PySem L2
def kD:Key->Dt
 | .inl i=>.int i
 | .inr x=>.str x
def yd4(e:Key×Dt):Dt:=.tup [kD e.1,e.2]
def zLp(es:List (Key×Dt)):List Dt:=(vV (tR (es.map (·.1))) es).map yd4
def mkD(e:aA×Int×Int):Dt:=.tup [.str e.1,.int e.2.1,.int e.2.2]
def zQd(S:BS):List Dt:=(vV (tR ((S.marks.map (·.1)).map .inr)) S.marks).map mkD
theorem yf1{H:Hp}{k:Key} : Rep H (kD k) (kV k):=by
 cases k
 ·exact zZ.mpr rfl
 ·exact zU.mpr rfl
theorem xO.at{H:Hp}{kvs:List (Key×V)}{es:List (Key×Dt)}(h:xO H kvs es){j:Nat}{e:Key×V}(g:kvs[j]?=some e):∃ d,es[j]?=some (e.1,d)/\Rep H d e.2:=by
 obtain⟨d,g1,r⟩:=h.vals.back (i:=j) (x:=e.2) (by rw[av,g]; rfl);rw[av,aH] at g1;obtain⟨e',ge,rfl⟩:=g1;have:=congrArg (·[j]?) h.keys;simp only[av,g,ge,d8,gT] at this;exact⟨e'.2,by rw[ge,this],r⟩
theorem zAv{H:Hp}{kvs:List (Key×V)}{es:List (Key×Dt)}{as:List af}(kv:xO H kvs es)(hl:as.length=kvs.length)(at_:∀ (j:Nat) (a:af) (e:Key×V),as[j]?=some a->kvs[j]?=some e->H a=some (.tup [kV e.1,e.2])):∀ o:List Nat,wC H ((vV o es).map yd4) ((vV o as).map V.ref)
 | []=>yF.mpr rfl
 | i::o=>by
  have ih:=zAv kv hl at_ o;have le:=kv.length;unfold vV at ih ⊢;by_cases hi:i<kvs.length
  ·have ga:as[i]?=some (as[i]'(by lia)):=aj (by lia);have gk:kvs[i]?=some kvs[i]:=aj hi;obtain⟨d,ge,r⟩:=kv.at gk;rw[cb ge,cb ga];exact zL.mpr ⟨_,_,rfl,yD.mpr ⟨_,_,rfl,at_ i _ _ ga gk,.two yf1 r⟩,ih⟩
  ·rw[cF (ce (by lia)),cF (ce (by lia))];exact ih
structure zGg(S:BS):Prop where
 mk ::
 well:zJ1 S
 nm:(S.marks.map (·.1)).Nodup
 nb:(S.banks.map (·.1)).Nodup
 bk:∀ e∈S.banks,wG e.1/\e.2.length<=8/\∀ c∈e.2,zD3 c
theorem zGg.nil:zGg BS.nil:=⟨zJ1.nil,.nil,.nil,λe he=>(nomatch he)⟩
theorem zVp{cs:List (Int×Int)}(h:zKv cs=true):cs.length<=8:=by
 unfold zKv isB at h;rw[aZ,aZ,ac] at h;exact of_decide_eq_true h.2.1
theorem zIk{α:Type}{l:List α}{x:α}(h:l.Nodup)(n:x ∉ l):(l++[x]).Nodup:=by
 rw[jZ];exact⟨h,by simp,λa ha b hb=>by rw[au.mp hb]; exact λz=>n (z ▸ ha)⟩
theorem zEc{α β:Type}{f:α->β}{p:α->Bool}{l:List α}(h:(l.map f).Nodup):((l.filter p).map f).Nodup:=h.sublist ((jd (p:=p) (l:=l)).map f)
theorem zGg.aft{S:BS}{D:Deed}(h:zGg S)(ok:okD S D):zGg (aft S D):=by
 refine⟨h.well.aft ok,?_,?_,?_⟩
 ·match D,ok with
  | .mark n x y,ok =>
   show((S.marks++[(n,x,y)]).map (·.1)).Nodup;rw[aG];refine zIk h.nm λz=>?_;obtain⟨p,e⟩:=zRh (S:=S) z;rw[ok.2.1] at e;cases e
  | .move n x y,ok =>
   show((S.marks.map λe=>if e.1=n then(e.1,x,y) else e).map (·.1)).Nodup;rw[bp,show((·.1) ∘ λe:aA×Int×Int=>if e.1=n then(e.1,x,y) else e)=(·.1) from funext λe=>by show(if e.1=n then(e.1,x,y) else e).1=e.1; split <;> rfl];exact h.nm
  | .unmark n,ok=>exact zEc h.nm
  | .bank _ _,_=>exact h.nm
  | .level _,_=>exact h.nm
  | .sail _ _,_=>exact h.nm
  | .right _ _ _,_=>exact h.nm
  | .bearing _ _ _ _ _ _,_=>exact h.nm
  | .range _ _ _,_=>exact h.nm
  | .strike _,_=>exact h.nm
 ·match D,ok with
  | .bank n cs,ok =>
   show((S.banks++[(n,cs)]).map (·.1)).Nodup;rw[aG];exact zIk h.nb ok.2.1
  | .level n,ok=>exact zEc h.nb
  | .mark _ _ _,_=>exact h.nb
  | .move _ _ _,_=>exact h.nb
  | .unmark _,_=>exact h.nb
  | .sail _ _,_=>exact h.nb
  | .right _ _ _,_=>exact h.nb
  | .bearing _ _ _ _ _ _,_=>exact h.nb
  | .range _ _ _,_=>exact h.nb
  | .strike _,_=>exact h.nb
 ·match D,ok with
  | .bank n cs,ok =>
   intro e he;rcases aS.mp he with z | z
   ·exact h.bk e z
   ·rw[au.mp z]; exact⟨ok.1,zVp ok.2.2.2.1,ok.2.2.1⟩
  | .level n,ok=>exact λe he=>h.bk e (dI.mp he).1
  | .mark _ _ _,_=>exact h.bk
  | .move _ _ _,_=>exact h.bk
  | .unmark _,_=>exact h.bk
  | .sail _ _,_=>exact h.bk
  | .right _ _ _,_=>exact h.bk
  | .bearing _ _ _ _ _ _,_=>exact h.bk
  | .range _ _ _,_=>exact h.bk
  | .strike _,_=>exact h.bk
section
variable{S:BS}
theorem zK6(S:BS):(bkE S.banks).map (·.1)=(S.banks.map (·.1)).map .inr:=by unfold bkE; rw[bp,bp]; rfl
theorem zKm(S:BS):(ntE S.notes).map (·.1)=(S.notes.map (·.1)).map .inl:=by unfold ntE; rw[bp,bp]; rfl
theorem zKi{l:List aA}(h:l.Nodup):(l.map (.inr:aA->Key)).Nodup:=h.map _ λa b n z=>n (by injection z)
theorem zTf{l:List Int}(h:l.Nodup):(l.map (.inl:Int->Key)).Nodup:=h.map _ λa b n z=>n (by injection z)
theorem zGg.oneB(_:zGg S):yb6 ((bkE S.banks).map (·.1)):=.inr ⟨_,zK6 S⟩
theorem zGg.ndB(h:zGg S):((bkE S.banks).map (·.1)).Nodup:=by rw[zK6]; exact zKi h.nb
theorem zGg.oneN(_:zGg S):yb6 ((ntE S.notes).map (·.1)):=.inl ⟨_,zKm S⟩
theorem zGg.ndN(h:zGg S):((ntE S.notes).map (·.1)).Nodup:=by rw[zKm]; exact zTf (h.well.good.rise.imp λz=>Int.ne_of_lt z)
theorem zEb:∀{l:List (aA×Int×Int)}{e:aA×Int×Int},(l.map (·.1)).Nodup->e∈l->(l.find? λf=>decide (f.1=e.1)).map (·.2)=some e.2
 | f::l,e,nd,he=>by
  rcases aD.mp he with rfl | he
  ·simp
  ·have nf:f.1≠e.1:=λz=>(d7.mp nd).1 (aC.mpr ⟨e,he,z.symm⟩);rw[bR,decide_eq_false nf];exact zEb (d7.mp nd).2 he
def dep:Nat->Dt->Prop
 | _,.int _=>True
 | _,.str _=>True
 | 0,.tup _=>False
 | n+1,.tup l=>l.length<=900/\∀ d∈l,dep n d
theorem xK{n:Nat}{i:Int} : dep n (.int i):=by cases n <;> trivial
theorem yO{n:Nat}{x:aA} : dep n (.str x):=by cases n <;> trivial
theorem xQ{n:Nat}{l:List Dt}(h:l.length<=900)(g:∀ d∈l,dep n d):dep (n+1) (.tup l):=⟨h,g⟩
theorem zGd{n:Nat}{p:Int×Int} : dep (n+1) (ptD p):=xQ (by show 2<=900; decide) (dt2 xK xK)
theorem zSc{n:Nat}{k:Key} : dep n (kD k):=by
 cases k
 ·exact xK
 ·exact yO
theorem zTt:∀ d∈zQd S,dep 3 d:=λd hd=>by
 obtain⟨e,he,rfl⟩:=aC.mp hd;exact xQ (az rfl) (dt3 yO xK xK)
theorem zRs(h:zGg S):∀ d∈zLp (bkE S.banks),dep 3 d:=λd hd=>by
 obtain⟨e,he,rfl⟩:=aC.mp hd;have me:=zF8 he;unfold bkE at me;obtain⟨e',me',rfl⟩:=aC.mp me;have l8:=(h.bk e' me').2.1;refine xQ (az rfl) (dt2 zSc (xQ (by rw[ac]; lia) λd hd=>?_));obtain⟨c,hc,rfl⟩:=aC.mp hd;exact zGd
theorem zRo(h:zGg S):∀ d∈zLp (ntE S.notes),dep 4 d:=λd hd=>by
 obtain⟨e,he,rfl⟩:=aC.mp hd;have me:=zF8 he;unfold ntE at me;obtain⟨e',me',rfl⟩:=aC.mp me;have kn:=h.well.good.note e' me';refine xQ (az rfl) (dt2 zSc ?_);show dep 3 e'.2.dt
 match e'.2,kn with
 | .bearing _ _ _ _ _ _,_=>exact xQ (az rfl) λd hd=>(aD.mp hd).elim (λz=>z ▸ yO) (dt4 xK yO zGd zGd d)
 | .range _ _ _,_=>exact xQ (az rfl) (dt4 yO xK yO yO)
theorem zL9{es:List (Key×Dt)} : (zLp es).length=es.length:=by
 unfold zLp;rw[ac,zCx (λi hi=>by have:=zA5 i hi; rwa[ac] at this),zAu,ac]
theorem zL2:(zQd S).length=S.marks.length:=by
 unfold zQd;rw[ac,zCx (λi hi=>by have:=zA5 i hi; rwa[ac,ac] at this),zAu,ac,ac]
end
end Sea

namespace Sea
open PySem L2
def mkOf(e:aA×Int×Int):Deed:=.mark e.1 e.2.1 e.2.2
def bkOf(e:aA×List (Int×Int)):Deed:=.bank e.1 e.2
def slOf(e:Int×Int):Deed:=.sail e.1 e.2
def noteF(ns:List aA)(D:Deed):Prop:=(∃(m:Int)(i:Nat)(l r:aA),D=.range m l r/\0<=m/\m<=12/\i<18/\ns[i]?=some l/\ns[i+1]?=some r)\/∃(m k:Int)(i:Nat)(n:aA),D=.bearing m n 100 k (-k) 100/\0<=m/\m<=12/\0<=k/\k<24/\i<19/\ns[i]?=some n
structure FillD(ns:List aA)(Ds:List Deed)(l1:List (aA×Int×Int))(l2:List (aA×List (Int×Int)))(l3:List (Int×Int))(l4:List Deed)(c:Nat):Prop where
 mk ::
 eq:Ds=l1.map mkOf++l2.map bkOf++l3.map slOf++l4
 n1:l1.map (·.1)=ns.take 20
 p1:∀(j:Nat)(e:aA×Int×Int),l1[j]?=some e->zD3 e.2/\e.2.2=j
 c2:c<=2
 n2:l2.map (·.1)=(ns.drop c).take 8
 p2:∀(j:Nat)(e:aA×List (Int×Int)),l2[j]?=some e->j<8/\e.2=[((j:Int),0),((j:Int)+3,0),((j:Int),2)]
 n3:l3.length=12
 p3:∀ e∈l3,zD3 e
 n4:l4.length=24
 p4:∀ D∈l4,noteF ns D
noncomputable def stepD(S:BS)(D:Deed):BS:=match zT S D with
 | none=>aft S D
 | some _=>S
noncomputable def stepAll(S:BS)(l:List Deed):BS:=l.foldl stepD S
section
variable{S:BS}{D:Deed}
structure NotesF(S S':BS)(l:List Deed):Prop where
 mk ::
 m:S'.marks=S.marks
 b:S'.banks=S.banks
 r:S'.runs=S.runs
 c:S'.coming=S.coming+l.length
 n:S'.notes.map (·.2)=S.notes.map (·.2)++l
 k:∀ k:Int,(k∈S.notes.map (·.1)\/(S.coming<=k/\k<S'.coming))->k∈S'.notes.map (·.1)
structure Brim(ns:List aA)(n19:aA)(c:Nat)(S:BS):Prop where
 mk ::
 neat:zGg S
 m:S.marks.map (·.1)=ns.take 20
 c2:c<=2
 b:S.banks.map (·.1)=(ns.drop c).take 8
 r:S.runs.length=12
 n:S.notes.length=24
 all:∀ k:Int,1<=k->k<25->k∈S.notes.map (·.1)
 co:S.coming=25
 un:∀ e∈S.notes,rO n19 e.2
end
end Sea

namespace L2
open PySem
section
variable{X:Cx}
theorem zI2(c:Array Nat):∀(k:Nat)(a:Array Nat),((bz k c).foldl (· ++ ·) a).toList=a.toList++(bz k c.toList).flatten
 | 0,a=>by simp
 | k+1,a=>by
  rw[fY,List.foldl_cons,zI2 c k,fY,jM,Array.toList_append,List.append_assoc]
def zZj(i:aA)(n:Int):aA:=if (n == 1||i.length == 0)=true then i else⟨(bz n.toNat i.cps).foldl (· ++ ·) #[]⟩
theorem zO2(c:Array Nat)(k:Nat):((bz k c).foldl (· ++ ·) #[]).size=k*c.size:=by
 rw[<- bK,zI2,aF,zYj,bK];simp
theorem zU6{i:aA}{n:Int}(h:1<=n):(zZj i n).length=i.length*n.toNat:=by
 unfold zZj;split
 ·rename_i e
  rw[iz,beq_iff_eq,beq_iff_eq] at e;rcases e with e | e
  ·rw[e]; simp
  ·rw[e]; simp
 ·show((bz n.toNat i.cps).foldl (· ++ ·) #[]).size=_;rw[zO2,jN];rfl
theorem zV7{i:aA}{n:Int}{c:Nat}(h:c∈(zZj i n).cps.toList):c∈i.cps.toList:=by
 unfold zZj at h;split at h
 ·exact h
 ·have h:c∈((bz n.toNat i.cps).foldl (· ++ ·) #[]).toList:=h;rw[zI2,aS] at h;rcases h with h | h
  ·simp at h
  ·obtain⟨l,hl,hc⟩:=List.mem_flatten.mp h;rw[(List.mem_replicate.mp hl).2] at hc;exact hc
theorem zKj:OpR X (binaryOp .Mult) (λx y H Q=>∃(i:aA)(n:Int),x=.str i/\y=.int n/\1<=n/\n<=1000/\i.length<=1000/\Q (.str (zZj i n)) H):=by
 intro pins s σ H x y v u Q I rx ry h;obtain⟨i,n,rfl,rfl,h1,h2,h3,q⟩:=h;obtain⟨t,rfl⟩:=rx;obtain⟨t',rfl⟩:=ry;have n1:¬ n<1:=by lia
 have hl:i.length*n.toNat<=1000*1000:=Nat.mul_le_mul h3 (by lia);have hs:i.length*n.toNat<=sizeLine:=aJ hl (by decide);refine PySem.P.mul_str ?_ ?_ ?_ ?_
 ·rw[decide_eq_false (by lia),decide_eq_false (by lia)]; rfl
 ·intro _ _ z;have:(1000:Int)<=(2^63-1)/n:=by
   rw[Int.le_ediv_iff_mul_le (by lia)];lia
  lia
 ·intro _ _;exact decide_eq_false (by lia)
 ·rw[if_neg n1];have q':=q;unfold zZj at q';split
  ·rename_i e
   rw[if_pos e] at q';exact⟨.str i,H,I,⟨_,U⟩,q'⟩
  ·rename_i e
   rw[if_neg e] at q';refine⟨?_,.str _,H,I.tok _,⟨_,U⟩,q'⟩;show((bz n.toNat i.cps).foldl (· ++ ·) #[]).size<=sizeLine;rw[zO2,jN];exact hs
end
end L2

namespace Sea
open PySem L2
def zY2(cs:List (Int×Int)):Prop:=∃ x y e:Int,-1<=e/\e<=4/\cs=[(x,y),(x+3,y),(x+1,y+e)]
theorem zOf{a b c:Int×Int} : zKv [a,b,c]=(decide (0<crs a b c)&&(decide (0<crs b c a)&&decide (0<crs c a b))):=by
 simp[zKv,isB,tF,zQj,ptA,bJ,List.range.loop]
theorem crs3{a b c:Int×Int}(h:0<crs a b c)(h1:crs b c a=crs a b c)(h2:crs c a b=crs a b c):zKv [a,b,c]=true:=by
 rw[zOf,h1,h2,decide_eq_true h];rfl
theorem crs3n{a b c:Int×Int}(h:¬ 0<crs a b c):zKv [a,b,c]=false:=by
 rw[zOf,decide_eq_false h];rfl
theorem zV6{cs:List (Int×Int)}(h:zY2 cs):∃ a b c:Int×Int,cs=[a,b,c]/\zKv cs=decide (a.2<c.2):=by
 obtain⟨x,y,e,h0,h4,rfl⟩:=h;exists _,_,_,rfl;have k:crs (x,y) (x+3,y) (x+1,y+e)=3*e:=by unfold crs; dsimp only; grind
 by_cases z:0<e
 ·rw[decide_eq_true (by dsimp only; lia)];refine crs3 (by rw[k]; lia) ?_ ?_ <;> unfold crs <;> dsimp only <;> grind
 ·rw[decide_eq_false (by dsimp only; lia)];exact crs3n (by rw[k]; lia)
theorem zXj{i:Int}(h:i.natAbs<=3000):i.natAbs.log2<20:=by
 by_cases e:i.natAbs=0
 ·rw[e]; decide
 ·exact cY ((kM e).mpr (show _<2^12 by lia)) (by decide)
theorem xZ{i:Int}(h:i.natAbs<=10^20):zAf i:=by
 unfold zAf;by_cases e:i.natAbs=0
 ·rw[e]; decide
 ·exact cY ((kM e).mpr (show _<2^67 from fe h (by decide))) (by decide)
theorem asc_0:zFs "" :=⟨λc hc=>(nomatch hc),by decide⟩
theorem ifBo{b:Bool}{A B:Prop}(h1:b=true->A)(h2:b=false->B):if b=true then A else B:=by
 cases b
 ·exact h2 rfl
 ·exact h1 rfl
theorem zF7{vs:List V}{x n:Int}(h:0<n)(hn:n=(vs.length:Int)):∃ v,v∈vs/\atI vs (x%n)=some v:=by
 have h0:=bq x (show n≠0 by lia);have h1:=aX x h;generalize x%n=y at h0 h1;obtain⟨k,rfl⟩:=cj h0;have hk:k<vs.length:=by lia
 exact⟨vs[k],dw hk,zDm (aj hk)⟩
theorem yf2{vs:List V}{y:Int}(h0:0<=y)(h1:y<(vs.length:Int)):∃ v,v∈vs/\atI vs y=some v:=by
 obtain⟨k,rfl⟩:=cj h0;have hk:k<vs.length:=by lia
 exact⟨vs[k],dw hk,zDm (aj hk)⟩
theorem cutIH{ok:Int->Hp->Prop}{G:Prop}{R:Int->Hp->Prop}(h1:(∀ m H,ok m H->R m H)->G)(h2:∀ m H,ok m H->R m H):G:=h1 h2
theorem cutSH{ok:aA->Hp->Prop}{G:Prop}{R:aA->Hp->Prop}(h1:(∀ m H,ok m H->R m H)->G)(h2:∀ m H,ok m H->R m H):G:=h1 h2
def Tin(H:Hp)(p:af):Prop:=∃ x y:Int,H p=some (.tup [.int x,.int y])/\zAf x/\zAf y
theorem Tin.to{H H':Hp}{p:af}(h:Tin H p)(s:Same H H'):Tin H' p:=let ⟨x,y,e,r⟩:=h;⟨x,y,s _ _ e,r⟩
theorem Tin.new{H:Hp}{p:af}{x y:Int}(h1:x.natAbs<=10^20)(h2:y.natAbs<=10^20):Tin (upd H p (.tup [.int x,.int y])) p:=⟨x,y,zA,xZ h1,xZ h2⟩
theorem zX4{c:Nat}{n:Int}(h:c<128)(h1:1<=n)(h8:n<=8):zFs (zZj ⟨#[c]⟩ n):=by
 refine⟨λd hd=>?_,?_⟩
 ·have:=zV7 hd;simp at this;lia
 ·rw[zU6 h1];show 1*n.toNat<=50;lia
end Sea

namespace Sea
open PySem L2
def MkR(σ:St)(H:Hp)(te:TE)(x:aA)(b:Bool):Prop:=∀ G K,Same H G->(∀ t,G t=none->K (.ref t) (upd G t (.tup [.str x,.bl b])))->te σ G K
def MkA(σ:St)(H:Hp)(ta:TA)(ws:List (aA×Bool)):Prop:=∀ G K,Same H G->(∀ ts G',Same G G'->zHa G' ts ws->K (ts.map V.ref) G')->ta σ G K
section
variable{σ:St}{H G:Hp}{te:TE}{ta:TA}{x:aA}{b:Bool}{ws vs:List (aA×Bool)}{K:VK}
theorem MkR.of{r:List V->Hp->VK->Prop}{n:aA}{v:V}{y:af}(hv:σ[0]?=some (some (.ref y)))(h:∀ G Q,Same H G->Q (.bl b) G->r [.ref y,v] G Q):MkR σ H (tTup (zLu (tC (.str n)) (zLu (tCB r (zLu (zUe 0) (zLu (tC v) zW6))) zW6))) n b :=
 λG _ s k=>⟨_,hv,h G _ s ⟨(by show 2<=sizeLine; decide),k⟩⟩
theorem zHa.cons{ts:List af}{t:af}(e:G t=some (.tup [.str x,.bl b]))(h:zHa G ts ws):zHa G (t::ts) ((x,b)::ws):=by
 refine⟨by rw[aU,aU,h.len],λj u w hu hw=>?_⟩;cases j with
 | zero=>cases hu; cases hw; exact e
 | succ j=>exact h.at_ j u w hu hw
theorem zHa.app{ts us:List af}(h:zHa G ts ws)(k:zHa G us vs):zHa G (ts++us) (ws++vs):=by
 refine⟨by rw[aF,aF,h.len,k.len],λj u w hu hw=>?_⟩;by_cases z:j<ts.length
 ·rw[dF z] at hu;rw[dF (by rw[<- h.len]; exact z)] at hw;exact h.at_ j u w hu hw
 ·rw[cK (by lia)] at hu;rw[cK (by rw[<- h.len]; lia),<- h.len] at hw;exact k.at_ _ u w hu hw
theorem MkA.nil:MkA σ H zW6 []:=λG _ _ k=>k [] G (Same.refl G) zHa.nil
theorem MkA.cons(m:MkR σ H te x b)(h:MkA σ H ta ws):MkA σ H (zLu te ta) ((x,b)::ws):=λG _ s k =>
 m G _ s λt ht =>
  have st:=zC ht (.tup [.str x,.bl b])
  h _ _ (s.trans st) λts G' s' R=>k (t::ts) G' (st.trans s') (zHa.cons (s' _ _ zA) R)
theorem MkA.lst(h:MkA σ H ta ws)(hl:ws.length<=1000)(s:Same H G)(k:∀ l ts G',Same G G'->G' l=some (.lst (ts.map V.ref))->zHa G' ts ws->K (.ref l) G'):ye3 ta σ G K :=
 h _ _ s λts G' s' R=>⟨zI1 (by rw[ac,R.len]; exact hl),λp hp =>
  have sp:=zC hp (.lst (ts.map V.ref))
  k p ts _ (s'.trans sp) zA (R.to sp)⟩
theorem MkA.cat{so:af}{ts:List af}(h:MkA σ H ta vs)(hl:vs.length<=100)(s:Same H G)(hv:σ[1]?=some (some (.ref so)))(e:G so=some (.lst (ts.map V.ref)))(R:zHa G ts ws)(hw:ws.length<=100)(k:∀ q ts' G',Same H G'->G' q=some (.lst (ts'.map V.ref))->zHa G' ts' (ws++vs)->K (.ref q) G'):tOp yi7 (zUe 1) (ye3 ta) σ G K :=
 ⟨_,hv,h.lst (by lia) s λl us G' s' el Ru=>⟨so,l,_,_,rfl,rfl,s' _ _ e,el,zI1 (by rw[ac,ac,R.len,Ru.len]; lia),λq hq =>
  have sq:=zC hq (.lst (ts.map V.ref++us.map V.ref))
  k q (ts++us) _ ((s.trans s').trans sq) (by rw[zA,aG]) (((R.to s').app Ru).to sq)⟩⟩
theorem MkA.seqL{u:TS}{D:zPw}(h:MkA σ H ta ws)(hl:ws.length<=1000)(s:Same H G)(k:∀ l ts G',Same G G'->G' l=some (.lst (ts.map V.ref))->zHa G' ts ws->u D (σ.set 1 (some (.ref l))) G'):yi8 (yc4 (ye3 ta) (zKw 1)) u D σ G:=h.lst (K:=λx H1=>zKw 1 x σ H1 (u D)) hl s k
theorem MkA.seqC{u:TS}{D:zPw}{so:af}{ts:List af}(h:MkA σ H ta vs)(hl:vs.length<=100)(s:Same H G)(hv:σ[1]?=some (some (.ref so)))(e:G so=some (.lst (ts.map V.ref)))(R:zHa G ts ws)(hw:ws.length<=100)(k:∀ q ts' G',Same H G'->G' q=some (.lst (ts'.map V.ref))->zHa G' ts' (ws++vs)->u D (σ.set 1 (some (.ref q))) G'):yi8 (yc4 (tOp yi7 (zUe 1) (ye3 ta)) (zKw 1)) u D σ G:=h.cat (K:=λx H1=>zKw 1 x σ H1 (u D)) hl s hv e R hw k
end
end Sea

-- LAW
namespace Sea
open PySem L2
local macro_rules | `(tactic| ac_rfl) => `(tactic| exact ⟨rfl, rfl, rfl, by decide +kernel, rfl, by decide +kernel, by decide +kernel⟩)
structure Zs(mg:aA->Option ag):Prop where
 ValueError:mg "ValueError" = none
 abs:mg "abs" = none
 all:mg "all" = none
 any:mg "any" = none
 bool:mg "bool" = none
 dict:mg "dict" = none
 int:mg "int" = none
 isinstance:mg "isinstance" = none
 len:mg "len" = none
 list:mg "list" = none
 max:mg "max" = none
 range:mg "range" = none
 sorted:mg "sorted" = none
 str:mg "str" = none
 tuple:mg "tuple" = none
 zip:mg "zip" = none
theorem zT9:zO ["one","other"] ["one","other"] (zG zFh):=by ac_rfl
theorem zEm:zO ["start","end"] ["start","end"] (zG wY):=by ac_rfl
theorem xN:zO ["corners","number","start","way","further","other"] ["corners","number"] (zG uD):=by ac_rfl
theorem zJ9:zO ["corners"] ["corners"] (zG qG):=by ac_rfl
theorem zEn:zO [] [] (zG uK):=by ac_rfl
theorem zD9:zO ["state","kind","key","value","fresh"] ["state","kind","key","value"] (zG qE):=by ac_rfl
theorem zEa:zO ["state","kind","key","fresh"] ["state","kind","key"] (zG rY):=by ac_rfl
theorem zM6:zO ["numbers","most"] ["numbers","most"] (zG zBf):=by ac_rfl
theorem zF4:zO ["name"] ["name"] (zG vD):=by ac_rfl
theorem zGo:zO ["state","kind","name"] ["state","kind","name"] (zG vF):=by ac_rfl
theorem zEl:zO ["place"] ["place"] (zG uC):=by ac_rfl
theorem zHs:zO ["run"] ["run"] (zG tQ):=by ac_rfl
theorem zF5:zO ["state","kind"] ["state","kind"] (zG vH):=by ac_rfl
theorem zG5:zO ["state","name"] ["state","name"] (zG vC):=by ac_rfl
theorem zDt:zO ["moment","runs"] ["moment","runs"] (zG wM):=by ac_rfl
theorem zHo:zO ["direction"] ["direction"] (zG tS):=by ac_rfl
theorem zEs:zO ["state","left","right"] ["state","left","right"] (zG uP):=by ac_rfl
theorem sL:zO ["state","row","name","place"] ["state","row"] (zG vN):=by ac_rfl
theorem uG:zO ["state","row","place","fresh","note"] ["state","row"] (zG vJ):=by ac_rfl
theorem uW:zO ["state","row","name","note"] ["state","row"] (zG wQ):=by ac_rfl
theorem uO:zO ["state","row","name","corners","corner"] ["state","row"] (zG vI):=by ac_rfl
theorem qY:zO ["state","row","name"] ["state","row"] (zG uF):=by ac_rfl
theorem zAk:zO ["state","row","run"] ["state","row"] (zG vB):=by ac_rfl
theorem tD:zO ["state","row","number","run"] ["state","row"] (zG uQ):=by ac_rfl
theorem zAz:zO ["state","row","fresh"] ["state","row"] (zG vM):=by ac_rfl
theorem zCh:zO ["state","row"] ["state","row"] (zG wE):=by ac_rfl
theorem zEj:zO ["state","row"] ["state","row"] (zG uN):=by ac_rfl
theorem rW:zO ["state","row","number"] ["state","row"] (zG wO):=by ac_rfl
theorem zQo:zO ["state","row"] ["state","row"] (zG zCi):=by ac_rfl
theorem zNu:zO ["_law_book","_law_deed_here"] ["_law_book","_law_deed_here"] (zG zBa):=by ac_rfl
theorem xC:zO ["_law_e","_law_so"] ["_law_e"] (zG qP):=by ac_rfl
theorem zP4:zO ["_law_number"] ["_law_number"] (zG zCf):=by ac_rfl
theorem wD:zO ["_law_script","_law_many","_law_rows","_law_mix","_law_cell","_law_rest"] ["_law_script","_law_many"] (zG zCo):=by ac_rfl
theorem xA:zO ["_law_some","_law_many","_law_letters","_law_rows","_law_at","_law_raw","_law_size","_law_step","_law_word_here","_law_place","_law_k","_law_sign"] ["_law_some","_law_many"] (zG zCg):=by ac_rfl
theorem zU5:zO [] [] (zG zJo):=by ac_rfl
theorem zAn:zO ["_law_names_here","_law_size","_law_letter"] ["_law_names_here"] (zG rZ):=by ac_rfl
theorem zTe:zO ["_law_raw","_law_names_here"] ["_law_raw","_law_names_here"] (zG zFc):=by ac_rfl
theorem zGr:zO ["_law_raw"] ["_law_raw"] (zG vK):=by ac_rfl
theorem zFf:zO ["_law_one","_law_two","_law_wide","_law_x","_law_y"] ["_law_one","_law_two","_law_wide"] (zG zI7):=by ac_rfl
theorem zM2:zO ["_law_one","_law_other"] ["_law_one","_law_other"] (zG zBb):=by ac_rfl
theorem xP:zO ["_law_d","_law_wide","_law_one","_law_other"] ["_law_d","_law_wide"] (zG tL):=by ac_rfl
theorem yC:zO ["_law_d","_law_m","_law_names_here","_law_moment","_law_mark","_law_one","_law_other","_law_way_here","_law_menu"] ["_law_d","_law_m","_law_names_here"] (zG wK):=by ac_rfl
theorem zCb:zO ["_law_d","_law_m","_law_names_here","_law_way_here","_law_name","_law_x","_law_y"] ["_law_d","_law_m","_law_names_here"] (zG zE0):=by ac_rfl
theorem zKc:zO ["_law_name"] ["_law_name"] (zG qT):=by ac_rfl
theorem zR9:zO ["_law_x","_law_y"] ["_law_x","_law_y"] (zG zE1):=by ac_rfl
theorem vE:zO ["_law_m","_law_deed_here","_law_name","_law_note","_law_other"] ["_law_m","_law_deed_here"] (zG tM):=by ac_rfl
theorem zHj:zO ["_law_m","_law_deed_here"] ["_law_m","_law_deed_here"] (zG tO):=by ac_rfl
theorem zJ0:zO ["_law_m","_law_deed_here"] ["_law_m","_law_deed_here"] (zG rA):=by ac_rfl
theorem rH:zO ["_law_m","_law_deed_here","_law_x","_law_y"] ["_law_m","_law_deed_here"] (zG tK):=by ac_rfl
theorem zSy:zO ["_law_m","_law_deed_here"] ["_law_m","_law_deed_here"] (zG zE5):=by ac_rfl
theorem zPf:zO ["_law_m","_law_deed_here","_law_word_here"] ["_law_m","_law_deed_here"] (zG zIw):=by ac_rfl
theorem zTb:zO ["_law_told","_law_due_here"] ["_law_told","_law_due_here"] (zG zC7):=by ac_rfl
theorem zMp:zO ["_law_book","_law_deed_here","_law_e"] ["_law_book","_law_deed_here"] (zG zEx):=by ac_rfl
theorem zIr:zO ["_law_m","_law_deed_here","_law_later"] ["_law_m","_law_deed_here"] (zG zCj):=by ac_rfl
theorem zI9:zO ["_law_m"] ["_law_m"] (zG rB):=by ac_rfl
theorem zNc:zO ["_law_book","_law_m"] ["_law_book","_law_m"] (zG zA8):=by ac_rfl
theorem zAj:zO ["_law_d","_law_x","_law_y"] ["_law_d"] (zG vL):=by ac_rfl
theorem zDr:zO ["_law_places"] ["_law_places"] (zG wR):=by ac_rfl
theorem zBk:zO ["_law_book","_law_deed_here","_law_e"] ["_law_book","_law_deed_here"] (zG tJ):=by ac_rfl
theorem zAs:zO ["_law_script","_law_some","_law_names_here","_law_one","_law_other","_law_m","_law_row","_law_k","_law_deed_here","_law_due_here"] ["_law_script"] (zG zM0):=by ac_rfl
theorem zSn:zO ["self"] ["self"] (zG zE7):=by ac_rfl
theorem zTv:zO ["self","name","x","y"] ["self","name","x","y"] (zG zFe):=by ac_rfl
theorem zS8:zO ["self","name","x","y"] ["self","name","x","y"] (zG zFb):=by ac_rfl
theorem zNj:zO ["self","name"] ["self","name"] (zG zA6):=by ac_rfl
theorem zSl:zO ["self","name","corners"] ["self","name","corners"] (zG zE2):=by ac_rfl
theorem zQk:zO ["self","name"] ["self","name"] (zG zCk):=by ac_rfl
theorem zTh:zO ["self","x","y"] ["self","x","y"] (zG zFa):=by ac_rfl
theorem zP9:zO ["self","number","x","y"] ["self","number","x","y"] (zG zCp):=by ac_rfl
theorem zLg:zO ["self","moment","mark","one","other"] ["self","moment","mark","one","other"] (zG qD):=by ac_rfl
theorem zFi:zO ["self","moment","left","right"] ["self","moment","left","right"] (zG vG):=by ac_rfl
theorem zNe:zO ["self","number"] ["self","number"] (zG zA7):=by ac_rfl
theorem zGv:zO ["self","row","number","fresh"] ["self","row"] (zG zEz):=by ac_rfl
theorem zQq:zO ["self"] ["self"] (zG zCd):=by ac_rfl
theorem zIb:zO ["self","places"] ["self"] (zG zCr):=by ac_rfl
theorem zQm:zO ["self"] ["self"] (zG zCz):=by ac_rfl
theorem zL8:zO ["self","runs"] ["self"] (zG zE3):=by ac_rfl
theorem zQu:zO ["self"] ["self"] (zG zC1):=by ac_rfl
theorem zM4:zO ["self"] ["self"] (zG zBc):=by ac_rfl
def qU:af:=82
def zB9:af:=130
def rJ:af:=250
def zBe:af:=190
def rM:af:=238
def wA:af:=202
def sV:af:=118
def rQ:af:=166
def sN:af:=142
def yE:af:=57
def zA0:af:=106
def vW:af:=214
def tU:af:=226
def tY:af:=178
def zGu:af:=269
def wS:af:=94
def wW:af:=70
def tV:af:=154
def excL:List af:=[tV,wW,wS,zGu,tY,tU,vW,zA0,sN,rQ,sV,wA,rM,zBe,rJ,zB9,qU]
def bkC:af:=609
def ya8:af:=272
def zZ7:List (Key×V):=[(.inr "marks",.int 20),(.inr "banks",.int 8),(.inr "runs",.int 12),(.inr "notes",.int 24)]
def zXk:af:=437
def zWm:List (Key×V):=[(.inr "mark",.ref 366),(.inr "move",.ref 373),(.inr "unmark",.ref 380),(.inr "bank",.ref 387),(.inr "level",.ref 394),(.inr "sail",.ref 401),(.inr "right",.ref 408),(.inr "bearing",.ref 422),(.inr "range",.ref 429),(.inr "strike",.ref 436)]
def zNr:af:=458
def zNd:af:=465
def zM8:af:=472
def zF6:af:=479
def zNb:af:=486
def zIv:af:=493
def zNv:af:=500
def zJm:af:=507
def zDs:af:=514
def qM:af:=521
def zFn:af:=528
def uX:af:=535
def zJq:af:=561
def zJb:af:=580
def zJz:af:=587
def zN0:af:=592
def zJh:af:=599
def zC8:af:=606
structure Cb(P:aK)(w:aT)(mg:aA->Option ag)(base:aV):Prop where
 state:InB base λK=>Cls K bkC/\zBj K bkC "state"
 past:InB base λK=>Cls K bkC/\zBj K bkC "past"
 later:InB base λK=>Cls K bkC/\zBj K bkC "later"
 m_mark:InB base λK=>Cls K bkC/\zHn K bkC "mark" zNd
 m_move:InB base λK=>Cls K bkC/\zHn K bkC "move" zM8
 m_unmark:InB base λK=>Cls K bkC/\zHn K bkC "unmark" zF6
 m_bank:InB base λK=>Cls K bkC/\zHn K bkC "bank" zNb
 m_level:InB base λK=>Cls K bkC/\zHn K bkC "level" zIv
 m_sail:InB base λK=>Cls K bkC/\zHn K bkC "sail" zNv
 m_right:InB base λK=>Cls K bkC/\zHn K bkC "right" zJm
 m_bearing:InB base λK=>Cls K bkC/\zHn K bkC "bearing" zDs
 m_range_note:InB base λK=>Cls K bkC/\zHn K bkC "range_note" qM
 m_strike:InB base λK=>Cls K bkC/\zHn K bkC "strike" zFn
 m_deed:InB base λK=>Cls K bkC/\zHn K bkC "deed" uX
 m_deeds:InB base λK=>Cls K bkC/\zHn K bkC "deeds" zJq
 m_marks:InB base λK=>Cls K bkC/\zHn K bkC "marks" zJb
 m_banks:InB base λK=>Cls K bkC/\zHn K bkC "banks" zJz
 m_runs:InB base λK=>Cls K bkC/\zHn K bkC "runs" zN0
 m_notes:InB base λK=>Cls K bkC/\zHn K bkC "notes" zJh
 m_coming:InB base λK=>Cls K bkC/\zHn K bkC "coming" zC8
 make:InB base λK=>Mk K bkC zNr
 gBook:mg "Book" = some (.ref bkC)
 dMOST:zZu P w base ya8 zZ7
 gMOST:mg "MOST" = some (.ref ya8)
 dAFTER:zZu P w base zXk zWm
 gAFTER:mg "AFTER" = some (.ref zXk)
 LONGEST_NAME:∃ k,mg "LONGEST_NAME" = some (.int 8 k)
 FARTHEST:∃ k,mg "FARTHEST" = some (.int 1000 k)
 LONGEST_WAY:∃ k,mg "LONGEST_WAY" = some (.int 100 k)
 t_mark:mg "after_mark" = some (.ref 366)
 t_move:mg "after_move" = some (.ref 373)
 t_unmark:mg "after_unmark" = some (.ref 380)
 t_bank:mg "after_bank" = some (.ref 387)
 t_level:mg "after_level" = some (.ref 394)
 t_sail:mg "after_sail" = some (.ref 401)
 t_right:mg "after_right" = some (.ref 408)
 t_bearing:mg "after_bearing" = some (.ref 422)
 t_range:mg "after_range" = some (.ref 429)
 t_strike:mg "after_strike" = some (.ref 436)
 gBadBank:mg "BadBank" = some (.ref tV)
 gBadName:mg "BadName" = some (.ref wW)
 gBadPlace:mg "BadPlace" = some (.ref wS)
 gBadRow:mg "BadRow" = some (.ref zGu)
 gBadRun:mg "BadRun" = some (.ref tY)
 gBadTurn:mg "BadTurn" = some (.ref tU)
 gBadWay:mg "BadWay" = some (.ref vW)
 gFull:mg "Full" = some (.ref zA0)
 gMarkError:mg "MarkError" = some (.ref yE)
 gNeeded:mg "Needed" = some (.ref sN)
 gNoBank:mg "NoBank" = some (.ref rQ)
 gNoMark:mg "NoMark" = some (.ref sV)
 gNoMoment:mg "NoMoment" = some (.ref wA)
 gNoNote:mg "NoNote" = some (.ref rM)
 gNoRun:mg "NoRun" = some (.ref zBe)
 gNothingLeft:mg "NothingLeft" = some (.ref rJ)
 gSame:mg "Same" = some (.ref zB9)
 gTaken:mg "Taken" = some (.ref qU)
 e_BadBank:bo "BadBank" tV bmV "ValueError.__new__" mg base
 t_BadBank_MarkError:zBh base (.ref tV) yE
 e_BadName:bo "BadName" wW bmV "ValueError.__new__" mg base
 t_BadName_MarkError:zBh base (.ref wW) yE
 e_BadPlace:bo "BadPlace" wS bmV "ValueError.__new__" mg base
 t_BadPlace_MarkError:zBh base (.ref wS) yE
 e_BadRun:bo "BadRun" tY bmV "ValueError.__new__" mg base
 t_BadRun_MarkError:zBh base (.ref tY) yE
 e_BadTurn:bo "BadTurn" tU bmV "ValueError.__new__" mg base
 t_BadTurn_MarkError:zBh base (.ref tU) yE
 e_BadWay:bo "BadWay" vW bmV "ValueError.__new__" mg base
 t_BadWay_MarkError:zBh base (.ref vW) yE
 e_Full:bo "Full" zA0 bmV "ValueError.__new__" mg base
 t_Full_MarkError:zBh base (.ref zA0) yE
 e_Needed:bo "Needed" sN bmV "ValueError.__new__" mg base
 t_Needed_MarkError:zBh base (.ref sN) yE
 e_NoBank:bo "NoBank" rQ bmV "ValueError.__new__" mg base
 t_NoBank_MarkError:zBh base (.ref rQ) yE
 e_NoMark:bo "NoMark" sV bmV "ValueError.__new__" mg base
 t_NoMark_MarkError:zBh base (.ref sV) yE
 e_NoMoment:bo "NoMoment" wA bmV "ValueError.__new__" mg base
 t_NoMoment_MarkError:zBh base (.ref wA) yE
 e_NoNote:bo "NoNote" rM bmV "ValueError.__new__" mg base
 t_NoNote_MarkError:zBh base (.ref rM) yE
 e_NoRun:bo "NoRun" zBe bmV "ValueError.__new__" mg base
 t_NoRun_MarkError:zBh base (.ref zBe) yE
 e_Same:bo "Same" zB9 bmV "ValueError.__new__" mg base
 t_Same_MarkError:zBh base (.ref zB9) yE
 e_Taken:bo "Taken" qU bmV "ValueError.__new__" mg base
 t_Taken_MarkError:zBh base (.ref qU) yE
 isx:InB base λK=>zZv K excL=true
set_option hygiene false in
local macro_rules | `(tactic| fail) => `(tactic| first | with_reducible exact yL | with_reducible exact zI | ((with_reducible apply yc0); exact rfl; fail; fail) | with_reducible exact zK | with_reducible exact zHl | with_reducible exact zOs | ((with_reducible apply yh0); first | ((with_reducible apply zZt "bool"); exact zB3 (v := .ty "bool") rfl Z.bool zRf rfl) | ((with_reducible apply zZt "dict"); exact zB3 (v := .ty "dict") rfl Z.dict zB2 rfl) | ((with_reducible apply zZt "int"); exact zB3 (v := .ty "int") rfl Z.int zTw rfl) | ((with_reducible apply zZt "list"); exact zB3 (v := .ty "list") rfl Z.list zAl rfl) | ((with_reducible apply zZt "str"); exact zB3 (v := .ty "str") rfl Z.str zW2 rfl) | ((with_reducible apply zZt "tuple"); exact zB3 (v := .ty "tuple") rfl Z.tuple zJt rfl) | exact pv 0 | exact pv 1 | exact pv 2 | exact pv 3 | exact pv 4 | exact pv 5 | exact pv 6 | exact pv 7 | exact pv 8 | exact pv 9 | exact pv 10 | exact pv 11) | ((with_reducible apply m_sub); first | ((with_reducible apply uJ zYd); fail; fail; fail) | ((with_reducible apply m_ix); exact λ_ _ => rfl; fail; fail)) | ((with_reducible apply m_bin); first | ((with_reducible apply wH zBs); fail; fail) | ((with_reducible apply wH zWo); fail; fail) | ((with_reducible apply wH yc7); fail; fail) | ((with_reducible apply wH zV9); fail; fail) | ((with_reducible apply wH zIq); fail; fail) | ((with_reducible apply wH zZ6); fail; fail)) | ((with_reducible apply ya6); first | ((with_reducible apply m_own); (with_reducible assumption); exact ⟨rfl, rfl, rfl, rfl, rfl⟩; exact hr.mono (by decide); exact rfl; decide; exact rfl; exact rfl; fail) | ((with_reducible apply zNt zWb yd0); exact Z.abs; exact rfl; decide; decide; exact rfl; exact rfl; fail) | ((with_reducible apply zNt (sS rfl) zGz); exact Z.all; exact rfl; decide; decide; exact rfl; exact rfl; fail) | ((with_reducible apply zNt (zK2 rfl) zWl); exact Z.any; exact rfl; decide; decide; exact rfl; exact rfl; fail) | ((with_reducible apply zNt zNf zX); exact Z.isinstance; exact rfl; decide; decide; exact rfl; exact rfl; fail) | ((with_reducible apply zNt yT wV); exact Z.len; exact rfl; decide; decide; exact rfl; exact rfl; fail) | ((with_reducible apply zNt (zS2 rfl) zZ8); exact Z.max; exact rfl; decide; decide; exact rfl; exact rfl; fail) | ((with_reducible apply zNt call_sortedT vP); exact Z.sorted; exact rfl; decide; decide; exact rfl; exact rfl; fail) | ((with_reducible apply zZz call_bool1 zRf); exact Z.bool; exact rfl; decide; decide; exact rfl; exact rfl; fail) | ((with_reducible apply zZz rR zB2); exact Z.dict; exact rfl; decide; decide; exact rfl; exact rfl; fail) | ((with_reducible apply zZz zK8 zTw); exact Z.int; exact rfl; decide; decide; exact rfl; exact rfl; fail) | ((with_reducible apply zZz zAp zAl); exact Z.list; exact rfl; decide; decide; exact rfl; exact rfl; fail) | ((with_reducible apply zZz call_str_any zW2); exact Z.str; exact rfl; decide; decide; exact rfl; exact rfl; fail) | ((with_reducible apply zZz zCu zJt); exact Z.tuple; exact rfl; decide; decide; exact rfl; exact rfl; fail)) | ((with_reducible apply yX); fail) | ((with_reducible apply tI); fail) | ((with_reducible apply pe_un ya1); fail) | ((with_reducible apply zWr); fail) | ((with_reducible apply m_cmp); first | ((with_reducible apply sX zZf); fail; fail; exact yW _) | ((with_reducible apply sX ye4); fail; fail; exact yW _) | ((with_reducible apply sX zVv); fail; fail; exact yW _) | ((with_reducible apply sX zDy); fail; fail; exact yW _) | ((with_reducible apply sX zIx); fail; fail; exact yW _) | ((with_reducible apply sX zX1); fail; fail; exact yW _) | ((with_reducible apply sX op_isN); fail; fail; exact yW _) | ((with_reducible apply sX op_notN); fail; fail; exact yW _)) | ((with_reducible apply ye6); first | ((with_reducible apply yJ zZf); fail; fail; exact yW _) | ((with_reducible apply yJ ye4); fail; fail; exact yW _) | ((with_reducible apply yJ zVv); fail; fail; exact yW _) | ((with_reducible apply yJ zDy); fail; fail; exact yW _) | ((with_reducible apply yJ zIx); fail; fail; exact yW _) | ((with_reducible apply yJ zX1); fail; fail; exact yW _) | ((with_reducible apply yJ op_isN); fail; fail; exact yW _) | ((with_reducible apply yJ op_notN); fail; fail; exact yW _)) | ((with_reducible apply zX6); fail) | ((with_reducible apply zDo); fail) | ((with_reducible apply zLd); fail) | ((with_reducible apply zIi); fail; fail) | ((with_reducible apply zP2); fail; fail) | ((with_reducible apply zBu); fail) | ((with_reducible apply zLc); fail) | ((with_reducible apply zKs); fail; fail) | ((with_reducible apply pe_or); fail; fail) | ((with_reducible apply tP); fail; fail; fail) | with_reducible exact sI | ((with_reducible apply sP); fail) | ((with_reducible apply m_val); exact λ_ => rfl; fail))
set_option hygiene false in
local macro_rules | `(tactic| specialize $e) => `(tactic| refine F.ok $e (λvs H Q E h => ?_) (λcdv A outer s H vs Q E hr h => ?_))
local macro_rules | `(tactic| nofun) => `(tactic| ((any_goals fail); try dsimp only [L2.cxOf]))
section
variable{P:aK}{w:aT}{mg:aA->Option ag}{base:aV}{f:af}{fd:bP}
def zZ3(K:ae):Sp:=λvs H Q _=>∃(a b:af)(us ws:List V)(x1 y1 x2 y2:Int),vs=[.ref a,.ref b]/\Sq K H a us/\Sq K H b ws/\atI us 0=some (.int x1)/\atI us 1=some (.int y1)/\atI ws 0=some (.int x2)/\atI ws 1=some (.int y2) /\
 x1.natAbs<=10^18/\y1.natAbs<=10^18/\Q (.int (x1*y2-y1*x2)) H
def zFz(K:ae):Sp:=zZ3 K
theorem zS6(F:Fun K "turn" "turn" zFh f fd)(Z:Zs mg)(CB:Cb P w mg base)  : yQ P w K mg base CX0 1 f fd ["one","other"] (zFz K):=by
 specialize zT9
 ·obtain⟨a,b,us,ws,x1,y1,x2,y2,rfl,_⟩:=h;rfl
 obtain⟨a,b,us,ws,x1,y1,x2,y2,rfl,ha,hb,u0,u1,w0,w1,m1,m2,q⟩:=h
 refine'⟨_,(zF (zM ?_)),?_⟩
 nofun
 exact⟨_,U,a,_,_,.int x1,U,U,ha,u0,_,U,b,_,_,.int y2,U,U,hb,w1,_,_,U,U,zZx (by lia),
  _,rfl,a,_,_,.int y1,rfl,rfl,ha,u1,_,rfl,b,_,_,.int x2,rfl,rfl,hb,w0,_,_,rfl,rfl,zZx (by lia),_,_,rfl,rfl,q⟩
def zAc(K:ae):Sp:=λvs H Q _=>∃(a b:af)(x1 y1 x2 y2:Int),vs=[.ref a,.ref b]/\Sq K H a [.int x1,.int y1]/\Sq K H b [.int x2,.int y2] /\
 ∀ p,H p=none->Q (.ref p) (upd H p (.tup [.int (x2-x1),.int (y2-y1)]))
theorem zEw(F:Fun K "stretch_way" "stretch_way" wY f fd)(Z:Zs mg)(CB:Cb P w mg base)  : yQ P w K mg base CX0 1 f fd ["start","end"] (zAc K):=by
 specialize zEm
 ·obtain⟨a,b,x1,y1,x2,y2,rfl,_⟩:=h;rfl
 obtain⟨a,b,x1,y1,x2,y2,rfl,ha,hb,q⟩:=h
 refine'⟨_,(zF (zM ?_)),?_⟩
 nofun
 exact⟨_,U,b,_,_,.int x2,U,U,hb,U,_,U,a,_,_,.int x1,U,U,ha,U,_,_,U,U,
  _,rfl,b,_,_,.int y2,rfl,rfl,hb,rfl,_,rfl,a,_,_,.int y1,rfl,rfl,ha,rfl,_,_,rfl,rfl,sz2,λp hp=>q p hp⟩
def PrQ(K:ae)(H:Hp)(l:af)(ps:List Pr):Prop:=Sq K H l (wI ps)/\zZw H (10^8) ps
theorem PrQ.same{K:ae}{H H':Hp}{l:af}{ps:List Pr}(h:PrQ K H l ps)(s:Same H H'):PrQ K H' l ps:=⟨s.sq h.1,h.2.same s⟩
theorem modI{i n:Nat}{k:Int}(e:k=(i:Int)):k%(n:Int)=((i%n:Nat):Int):=by
 rw[e];exact(Int.natCast_emod i n).symm
def zAb(K:ae):Sp:=λvs H Q _=>∃(l:af)(ps:List Pr)(i:Nat),vs=[.ref l,.int (i:Int)]/\PrQ K H l ps/\i<ps.length/\ps.length<=1000 /\
 ∀ H',Same H H'->Q (.bl (tF ps i)) H'
theorem zEk(F:Fun K "all_left_of" "all_left_of" uD f fd)(Z:Zs mg)(CB:Cb P w mg base)(yCa:Has P w K mg base "turn" 1 ["one","other"] (zFz K))(yAh:Has P w K mg base "stretch_way" 1 ["start","end"] (zAc K)):yQ P w K mg base CX0 2 f fd ["corners","number"] (zAb K):=by
 specialize xN
 ·obtain⟨l,ps,i,rfl,_⟩:=h;rfl
 obtain⟨l,ps,i,rfl,hL,hi,hn,q⟩:=h
 refine'⟨_,(zD (yI 2 xN.nd ?_)
   (zD (yI 3 xN.nd ?_)
   (zD (zAa cw rfl (zLy rfl Z.range ?_) (zD4 4 xN.nd) (zD (yI 5 xN.nd ?_)
   (zF (zY ?_ (zF (zM zHl)) zN))))
   (zF (zM zHl))))),?_⟩
 nofun
 obtain⟨t0,m0,g0,a0⟩:=zGf (ps:=ps) (i:=i) (k:=(i:Int)) rfl hi;have hm1:(i+1)%ps.length<ps.length:=Nat.mod_lt _ (by lia);obtain⟨t1,m1,g1,a1⟩:=zGf (ps:=ps) (i:=(i+1)%ps.length) (k:=((i:Int)+1)%(ps.length:Int)) (modI (by lia)) hm1;rw[<- xL ps] at a1;obtain⟨e0,b00,b01⟩:=hL.2 t0 m0;obtain⟨e1,b10,b11⟩:=hL.2 t1 m1;have nl:((wI ps).length:Int)=(ps.length:Int):=by rw[xL]
 exists _,U,_,U,l,_,_,_,U,U,hL.1,a0;refine⟨_,U,_,U,_,U,_,_,U,U,_,U,l,_,U,hL.1,_,_,U,U,(by show(0:Int)<((wI ps).length:Int); lia),l,_,_,_,rfl,rfl,hL.1,a1,
  t0.1,t1.1,t0.2.1,t0.2.2,t1.2.1,t1.2.2,rfl,.inr (SqT.of e0),.inr (SqT.of e1),λd hd=>?_⟩
 have sd:Same H (upd H d (.tup [.int (t1.2.1-t0.2.1),.int (t1.2.2-t0.2.2)])):=zC hd _;have ed:upd H d (.tup [.int (t1.2.1-t0.2.1),.int (t1.2.2-t0.2.2)]) d=some (.tup [.int (t1.2.1-t0.2.1),.int (t1.2.2-t0.2.2)]):=zA;generalize upd H d (.tup [.int (t1.2.1-t0.2.1),.int (t1.2.2-t0.2.2)])=H1 at sd ed ⊢;exists _,U,l,_,U,(sd.sq hL.1),2,_,U,(by lia);refine zAq (lo:=2) (n:=(((wI ps).length:Int)-2).toNat) (λj σ H'=>Same H1 H'/\(∀ j'<j,zQj ps i ((i+(2+j'))%ps.length)=true)/\∃ u4 u5:Option V,σ=[some (.ref l),some (.int (i:Int)),some (.ref t0.1),some (.ref d),u4,u5])
  ⟨Same.refl _,λj' hj'=>absurd hj' (iH _),none,none,rfl⟩ ?_ ?_
 ·rintro j σ H' hj ⟨sH,hall,u4,u5,rfl⟩;have s2:=sd.trans sH;have hjl:j<ps.length-2:=by lia
  have hmk:(i+(2+j))%ps.length<ps.length:=Nat.mod_lt _ (by lia);obtain⟨t2,m2,g2,a2⟩:=zGf (ps:=ps) (i:=(i+(2+j))%ps.length) (k:=((i:Int)+(2+(j:Int)))%(ps.length:Int)) (modI (by lia)) hmk;rw[<- xL ps] at a2;obtain⟨e2,b20,b21⟩:=hL.2 t2 m2;have lf:zQj ps i ((i+(2+j))%ps.length)=decide (0<(t1.2.1-t0.2.1)*(t2.2.2-t0.2.2)-(t1.2.2-t0.2.2)*(t2.2.1-t0.2.1)):=by
   unfold zQj;rw[zTa g0,zTa g1,zTa g2];rfl
  exists _,U,_,U,_,U,_,_,U,U,_,U,l,_,U,(s2.sq hL.1),_,_,U,U,(by show(0:Int)<((wI ps).length:Int); lia),l,_,_,_,rfl,rfl,(s2.sq hL.1),a2;refine⟨_,U,_,U,_,U,t0.1,t2.1,t0.2.1,t0.2.2,t2.2.1,t2.2.2,U,.inr (SqT.of (s2 _ _ e0)),.inr (SqT.of (s2 _ _ e2)),λd2 hd2=>?_⟩;have s3:=zC hd2 (.tup [.int (t2.2.1-t0.2.1),.int (t2.2.2-t0.2.2)]);exists d,d2,_,_,t1.2.1-t0.2.1,t1.2.2-t0.2.2,t2.2.1-t0.2.1,t2.2.2-t0.2.2,U,.inr (SqT.of (s3 _ _ (sH _ _ ed))),.inr (SqT.of zA),U,U,U,U,by lia,by lia,_,_,U,U,_,rfl;refine ifD (λhle=>?_) (λhgt=>?_)
  ·have hb:tF ps i=false:=by
    unfold tF;rw[gP];intro z;have z2:=bH.mp z j (bZ.mpr hjl);rw[lf] at z2;have z3:=of_decide_eq_true z2;lia
   have r:=q _ (s2.trans s3);rw[hb] at r;exact r
  ·refine⟨sH.trans s3,λj' hj'=>?_,_,_,U⟩;by_cases e:j'=j
   ·rw[e,lf];exact decide_eq_true (by lia)
   ·exact hall j' (by lia)
 ·rintro σ H2 ⟨sH,hall,_,_,rfl⟩;have hb:tF ps i=true:=by
   unfold tF;rw[bH];intro j hj;exact hall j (by have:=bZ.mp hj; lia)
  have r:=q _ (sd.trans sH);rw[hb] at r;exact r
def zD7(K:ae):Sp:=λvs H Q _=>∃(l:af)(ps:List Pr),vs=[.ref l]/\PrQ K H l ps/\ps.length<=1000/\∀ H',Same H H'->Q (.bl (isB ps)) H'
theorem zL0(F:Fun K "is_bank" "is_bank" qG f fd)(Z:Zs mg)(CB:Cb P w mg base)(yAn:Has P w K mg base "all_left_of" 2 ["corners","number"] (zAb K)):yQ P w K mg base CX0 3 f fd ["corners"] (zD7 K):=by
 specialize zJ9
 ·obtain⟨l,ps,rfl,_⟩:=h;rfl
 obtain⟨l,ps,rfl,hL,hn,q⟩:=h
 refine'⟨_,(zD (zY ?_ (zF (zM zHl)) zN)
   (zF (zM (zR (sS rfl) rfl Z.all zGz (zB (vY (T:=["number"]) (caps:=[("corners",0)]) ⟨rfl,by decide +kernel,by decide +kernel,rfl,⟨⟨rfl,rfl,cP rfl⟩,bv⟩⟩ rfl (rX rfl Z.range ?_) (λ_=>(zD4 0 (show(["number","corners"]:List aA).Nodup by decide +kernel))) (λ_=>wP) (λ_=>?_)) zI))))),?_⟩
 nofun
 have nl:((wI ps).length:Int)=(ps.length:Int):=by rw[xL]
 exists _,U,l,_,U,hL.1,_,_,U,U,_,rfl;refine ifD (λh3=>?_) (λh3=>?_)
 ·have hb:isB ps=false:=by unfold isB; rw[decide_eq_false (by lia),gj]
  have r:=q _ (Same.refl _);rw[hb] at r;exact r
 exists _,U,l,_,U,hL.1,_,_,U,U,_,rfl;refine ifD (λh8=>?_) (λh8=>?_)
 ·have hb:isB ps=false:=by unfold isB; rw[decide_eq_false (p:=ps.length<=8) (by lia),gj,lh]
  have r:=q _ (Same.refl _);rw[hb] at r;exact r
 have hb:isB ps=(bJ ps.length).all (tF ps):=by unfold isB; rw[decide_eq_true (by lia),decide_eq_true (by lia),jl,jl]
 refine⟨_,U,l,_,U,hL.1,_,U,(by lia),(by lia),λc D hD=>?_⟩;refine zBz (lo:=0) (n:=(((wI ps).length:Nat):Int).toNat) (λj σ zs H'=>Same H H'/\H' D=some (.lst zs)/\zs=((bJ j).map (tF ps)).map V.bl/\∃ u0:Option V,σ=[u0,some (.ref l)])
  ⟨zC hD _,zA,rfl,none,rfl⟩ (λi σ ys H' _ ⟨_,e,_⟩=>e) ?_ ?_
 ·rintro j σ zs H' hj ⟨sH,eD,rfl,u0,rfl⟩;refine⟨_,U,_,U,l,ps,j,(by rw[mQ]; rfl),hL.same sH,by lia,hn,λH2 s2=>⟨s2 _ _ eD,zW (by rw[ac,ac,dh]; lia),(sH.trans s2).putNew hD,zA,?_,_,rfl⟩⟩;rw[iD,aG,aG];rfl
 ·rintro σ zs H' ⟨sH,eD,rfl,u0,rfl⟩;exists D,_,U,SqL.of eD;have r:=q _ sH;rw[hb] at r;have e:((bJ (((wI ps).length:Nat):Int).toNat).map (tF ps)).all id=(bJ ps.length).all (tF ps):=by
   rw[cg,xL,jR];rfl
  rw[e];exact r
def zAd(K:ae):Sp:=λvs H Q _=>vs=[]/\∀(d:af)(H':Hp),Same H H'->H d=none->zPb H' d BS.nil->Q (.ref d) H'
theorem zEr(F:Fun K "nothing_yet" "nothing_yet" uK f fd)(Z:Zs mg)(CB:Cb P w mg base)  : yQ P w K mg base CX0 1 f fd [] (zAd K):=by
 specialize zEn
 ·obtain⟨rfl,_⟩:=h;rfl
 obtain⟨rfl,q⟩:=h
 refine'⟨_,zF ?h,?_⟩
 rotate_left
 with_reducible refine' zM ?_
 rotate_left
 with_reducible exact zNp (wB zK rD (wB zK rD (wB zK rD (wB zK rD (wB zK yL zNg))))) rfl rfl (λz=>nomatch z) (by decide)
 try dsimp only[L2.cxOf]
 intro p hp m hm b hb r hr n hn;have s1:=zC hp (.dK []);have s2:=zC hm (.dK []);have s3:=zC hb (.dK []);have s4:=zC hr (.dK []);have s5:=zC hn (.dK []);have em:=(s3.trans (s4.trans s5)) _ _ zA;have eb:=(s4.trans s5) _ _ zA;have er:=s5 _ _ zA;have ep:=(s2.trans (s3.trans (s4.trans s5))) _ _ zA;exists ep,[(.inr "marks",.ref m),(.inr "banks",.ref b),(.inr "runs",.ref r),(.inr "notes",.ref n),(.inr "coming",.int 1)],U,(show 5<=15 by decide);rw[zUy];have ne:∀{x:af},(upd H p (.dK [])) x=none->x≠p:=λ{x} h z=>by rw[z,zA] at h; cases h
 have nb:=ne (s2.free hb);have nr:=ne (s2.free (s3.free hr));have nn:=ne (s2.free (s3.free (s4.free hn)));refine q p _ (λc o e=>?_) hp ⟨m,b,r,n,.inl zA,.nil ?_,.nil ?_,.nil ?_,.nil ?_⟩
 ·rw[zH (zJ e hp)];exact(s1.trans (s2.trans (s3.trans (s4.trans s5)))) c o e
 ·rw[zH (ne hm)]; exact em
 ·rw[zH nb]; exact eb
 ·rw[zH nr]; exact er
 ·rw[zH nn]; exact zA
def xV(K:ae):Sp:=λvs H Q _=>∃(d a:af)(kind:aA)(key:Key)(v:V)(kvs ms:List (Key×V)),vs=[.ref d,.str kind,kV key,v]/\Rd H d (.dK kvs)/\wL kvs (.inr kind)=some (.ref a)/\Rd H a (.dK ms)/\kvs.length<=100/\ms.length<=100 /\
 ∀(f c:af)(H':Hp),Same H H'->H f=none->f≠c->H' f=some (.dK (rE kvs (.inr kind) (.ref c)))->H' c=some (.dK (rE ms key v))->Q (.ref f) H'
theorem zLf(F:Fun K "changed" "changed" qE f fd)(Z:Zs mg)(CB:Cb P w mg base)  : yQ P w K mg base CX0 1 f fd ["state","kind","key","value"] (xV K):=by
 specialize zD9
 ·obtain⟨d,a,kind,key,v,kvs,ms,rfl,_⟩:=h;rfl
 obtain⟨d,a,kind,key,v,kvs,ms,rfl,hd,ea,ha,l1,l2,q⟩:=h
 refine'⟨_,(zD (yI 4 zD9.nd ?_)
   (zD (rG (zV hr) (pv 4) (pv 1) (xB rR rfl Z.dict zB2 (zB (zP (zV hr) (pv 0) (pv 1) (λ_ _=>rfl)) zI)) rfl)
   (zD (rG (zV hr) (zP (zV hr) (pv 4) (pv 1) (λ_ _=>rfl)) (pv 2) (pv 3) rfl)
   (zF (zM (pv 4)))))),?_⟩
 nofun
 refine⟨_,U,d,kvs,U,hd,λp hp=>?_⟩;have s1:=zC hp (.dK kvs);have hd1:Rd (upd H p (.dK kvs)) d (.dK kvs):=hd.imp (s1 _ _) λ⟨o,e⟩=>⟨o,s1 _ _ e⟩;have ha1:Rd (upd H p (.dK kvs)) a (.dK ms):=ha.imp (s1 _ _) λ⟨o,e⟩=>⟨o,s1 _ _ e⟩;refine⟨_,U,_,U,d,.ref a,U,.inl ⟨kvs,.inr kind,hd1,U,ea.symm⟩,a,ms,U,ha1,λc hc=>?_⟩;have npc:p≠c:=zJ zA hc;have s2:=zC hc (.dK ms);have e2:upd (upd H p (.dK kvs)) c (.dK ms) p=some (.dK kvs):=s2 _ _ zA;exists _,U,_,U,p,_,U,zMb.k (k:=.inr kind) e2 (zW (by lia));have e3:upd (upd (upd H p (.dK kvs)) c (.dK ms)) p (.dK (rE kvs (.inr kind) (.ref c))) c=some (.dK ms):=by rw[zH npc.symm,zA]
 refine⟨_,U,_,U,_,U,p,.ref c,U,.inl ⟨_,.inr kind,.inl zA,U,?_⟩,_,U,c,_,U,zMb.k e3 (zW (by lia)),_,U,?_⟩
 ·rw[zOt,if_pos rfl]
 refine q p c _ (λb o e=>?_) hp npc ?_ zA
 ·have n1:=zJ e hp;have n2:=zJ (s1 _ _ e) hc;rw[zH n2,zH n1,zH n2,zH n1];exact e
 ·rw[zH npc,zA]
def rC(K:ae):Sp:=λvs H Q _=>∃(d a:af)(kind:aA)(key:Key)(v:V)(kvs ms:List (Key×V)),vs=[.ref d,.str kind,kV key]/\Rd H d (.dK kvs)/\wL kvs (.inr kind)=some (.ref a)/\Rd H a (.dK ms)/\wL ms key=some v/\kvs.length<=100 /\
 ∀(f c:af)(H':Hp),Same H H'->H f=none->f≠c->H' f=some (.dK (rE kvs (.inr kind) (.ref c)))->H' c=some (.dK (zEp ms key))->Q (.ref f) H'
theorem zMw(F:Fun K "without" "without" rY f fd)(Z:Zs mg)(CB:Cb P w mg base)  : yQ P w K mg base CX0 1 f fd ["state","kind","key"] (rC K):=by
 specialize zEa
 ·obtain⟨d,a,kind,key,v,kvs,ms,rfl,_⟩:=h;rfl
 obtain⟨d,a,kind,key,v,kvs,ms,rfl,hd,ea,ha,ev,l1,q⟩:=h
 refine'⟨_,(zD (yI 3 zEa.nd ?_)
   (zD (rG (zV hr) (pv 3) (pv 1) (xB rR rfl Z.dict zB2 (zB (zP (zV hr) (pv 0) (pv 1) (λ_ _=>rfl)) zI)) rfl)
   (zD (yA (zE6 (zP (zV hr) (pv 3) (pv 1) (λ_ _=>rfl)) (pv 2) ⟨rfl,rfl,rfl,rfl⟩))
   (zF (zM (pv 3)))))),?_⟩
 nofun
 refine⟨_,U,d,kvs,U,hd,λp hp=>?_⟩;have s1:=zC hp (.dK kvs);have hd1:Rd (upd H p (.dK kvs)) d (.dK kvs):=hd.imp (s1 _ _) λ⟨o,e⟩=>⟨o,s1 _ _ e⟩;have ha1:Rd (upd H p (.dK kvs)) a (.dK ms):=ha.imp (s1 _ _) λ⟨o,e⟩=>⟨o,s1 _ _ e⟩;refine⟨_,U,_,U,d,.ref a,U,.inl ⟨kvs,.inr kind,hd1,U,ea.symm⟩,a,ms,U,ha1,λc hc=>?_⟩;have npc:p≠c:=zJ zA hc;have s2:=zC hc (.dK ms);have e2:upd (upd H p (.dK kvs)) c (.dK ms) p=some (.dK kvs):=s2 _ _ zA;exists _,U,_,U,p,_,U,zMb.k (k:=.inr kind) e2 (zW (by lia));have e3:upd (upd (upd H p (.dK kvs)) c (.dK ms)) p (.dK (rE kvs (.inr kind) (.ref c))) c=some (.dK ms):=by rw[zH npc.symm,zA]
 refine⟨_,U,_,U,p,.ref c,U,.inl ⟨_,.inr kind,.inl zA,U,?_⟩,c,U,.inl ⟨ms,.inl e3⟩,_,U,ms,key,v,e3,U,ev,_,U,?_⟩
 ·rw[zOt,if_pos rfl]
 refine q p c _ (λb o e=>?_) hp npc ?_ zA
 ·have n1:=zJ e hp;have n2:=zJ (s1 _ _ e) hc;rw[zH n2,zH n1,zH n2,zH n1];exact e
 ·rw[zH npc,zA]
def zD2(ns:List Int)(m:Int):Bool:=ns.all λn=>decide (-m<=n)&&decide (n<=m)
def qR(K:ae):Sp:=λvs H Q _=>∃(a:af)(ns:List Int)(m:Int),vs=[.ref a,.int m]/\H a=some (.tup (ns.map V.int))/\ns.length<=100/\∀ H',Same H H'->Q (.bl (zD2 ns m)) H'
theorem zNk(F:Fun K "within" "within" zBf f fd)(Z:Zs mg)(CB:Cb P w mg base)  : yQ P w K mg base CX0 1 f fd ["numbers","most"] (qR K):=by
 specialize zM6
 ·obtain⟨a,ns,m,rfl,_⟩:=h;rfl
 obtain⟨a,ns,m,rfl,ha,hl,q⟩:=h
 refine'⟨_,(zF (zM (zR (sS rfl) rfl Z.all zGz (zB (vY (T:=["number"]) (caps:=[("most",1)]) ⟨rfl,by decide +kernel,by decide +kernel,rfl,⟨⟨rfl,rfl,cP rfl⟩,bv⟩⟩ rfl (zO5 (pv 0)) (λ_=>(zD4 0 (show(["number","most"]:List aA).Nodup by decide +kernel))) (λ_=>wP) (λ_=>(zC3 zDy zDy ?_ (pv 0) (pv 1)))) zI)))),?_⟩
 nofun
 refine⟨_,U,a,U,.inr ⟨⟨_,SqT.of ha⟩,λc D hD=>?_⟩⟩;refine zMs (K:=K) (a:=a) (xs:=ns.map V.int) (λi σ zs H'=>Same H H'/\H' D=some (.lst zs)/\zs=((ns.take i).map λn=>decide (-m<=n)&&decide (n<=m)).map V.bl/\∃ u0:Option V,σ=[u0,some (.int m)])
  ⟨zC hD _,zA,rfl,none,rfl⟩ (λi σ zs H' _ ⟨sH,e,_⟩=>⟨SqT.of (sH _ _ ha),e⟩) ?_ ?_
 ·rintro i x σ zs H' hi ⟨sH,eD,rfl,u0,rfl⟩;obtain⟨n,gn,rfl⟩:=zDh hi;have hil:=(aM.mp gn).1;have len:(((ns.take i).map λn=>decide (-m<=n)&&decide (n<=m)).map V.bl).length<sizeLine:=zW (by rw[ac,ac,cV]; lia);have fin:∀ b:Bool,b=(decide (-m<=n)&&decide (n<=m))->((ns.take i).map λn=>decide (-m<=n)&&decide (n<=m)).map V.bl++[V.bl b]=((ns.take (i+1)).map λn=>decide (-m<=n)&&decide (n<=m)).map V.bl:=λb e=>by
   rw[bL,gn,e,aG,aG];rfl
  exists _,U,_,U,_,U,_,_,U,U,_,rfl;refine ite2 (λh1=>?_) (λh1=>?_)
  ·exact⟨_,U,_,_,U,U,eD,len,sH.putNew hD,zA,fin _ (by rw[h1,jl]),_,U⟩
  ·exact⟨eD,len,sH.putNew hD,zA,fin _ (by rw[eq_false_of_ne_true h1,gj]),_,U⟩
 ·rintro σ zs H' ⟨sH,eD,rfl,u0,rfl⟩;exists D,_,U,SqL.of eD;have r:=q _ sH;rw[ac,bU,jR];exact r
def axC:Cl->af
 | .badName=>wW
 | .taken=>qU
 | .badPlace=>wS
 | .full=>zA0
 | .noMark=>sV
 | .same=>zB9
 | .needed=>sN
 | .badBank=>tV
 | .noBank=>rQ
 | .badRun=>tY
 | .noRun=>zBe
 | .noMoment=>wA
 | .badWay=>vW
 | .badTurn=>tU
 | .noNote=>rM
def tZ(_:ae):Sp:=λvs H Q E=>∃ x:aA,vs=[.str x]/\zFs x/\zOg (wG x) Q E wW H
theorem zW5(a c:Nat):(!decide ((⟨#[c]⟩:aA).cps.toList<(⟨#[a]⟩:aA).cps.toList))=decide (a<=c):=by
 have e:([c]<[a])↔c<a:=by
  rw[List.cons_lt_cons_iff];simp
 show(!decide ([c]<[a]))=_;by_cases h:c<a
 ·rw[decide_eq_true (e.mpr h),decide_eq_false (by lia)];rfl
 ·rw[decide_eq_false (λz=>h (e.mp z)),decide_eq_true (by lia)];rfl
theorem zGs(F:Fun K "check_name" "check_name" vD f fd)(Z:Zs mg)(CB:Cb P w mg base)  : yQ P w K mg base (CX1 P w) 1 f fd ["name"] (tZ K):=by
 refine F.okX zF4 (λvs H Q E h=>?_) (λcdv A outer s H vs Q E hr h=>?_)
 ·obtain⟨x,rfl,_⟩:=h;rfl
 obtain⟨x,rfl,as,q⟩:=h;exists _,(zF (zY (PW.pt (zP2 (yJ zVv (zR zAm rfl Z.len wV (zB (pv 0) zI)) yL (yW _)) (zP2 (yJ zIx (zR zAm rfl Z.len wV (zB (pv 0) zI)) (zO7 CB.LONGEST_NAME) (yW _)) (zLd (zBu (zBl (zR (sS rfl) rfl Z.all zGz (zB (vY (T:=["letter"]) (caps:=[]) ⟨rfl,by decide +kernel,by decide +kernel,rfl,bv⟩ rfl (zRy (pv 0)) (λ_=>(qK (i:=0) (show(["letter"]:List aA).Nodup by decide +kernel) rfl (cP rfl))) (λ_=>wP) (λ_=>(zC3 zKh zKh zK (pv 0) zK))) zI)))))))) (zF (xH (λ_=>E) CB.e_BadName am (by decide) am xJ (zB (wU (zM3 (pv 0) (wX sU))) zI))) zN))
 try dsimp only[L2.cxOf]
 have hz:x.length<=sizeLine:=aJ as.2 (by decide);have go:∀ H',Same H H'->¬ wG x->zRb (yh3 (zUe 0) zSg) [some (.str x)] H' (λv H1=>1<=sizeLine/\E (.ref wW) none H1):=λH' s' z=>⟨_,rfl,⟨x,rfl,as.big,aJ as.2 (by decide)⟩,λy _=>⟨by show 1<=sizeLine; decide,q.no z s'⟩⟩;exists _,U,x,U,hz,_,_,U,U,_,rfl;refine ifD (λz=>yY (go H (Same.refl _) λo=>absurd o.1 (by lia))) (λz1=>?_);exists _,U,x,U,hz,_,_,U,U,_,rfl;refine ifD (λz=>yY (go H (Same.refl _) λo=>absurd o.2.1 (by lia))) (λz2=>?_);have asc:x.cps.all (· < 128)=true:=by
  rw[jA];intro c hm;exact decide_eq_true (as.1 c (fJ.mpr hm))
 refine⟨_,U,x,U,asc,λc D hD=>?_⟩;refine zN4 (xs:=zEq x) (λi σ zs H'=>Same H H'/\H' D=some (.lst zs)/\(∃ bs:List Bool,zs=bs.map V.bl/\bs.length=i/\(bs.all id=true↔∀ c∈x.cps.toList.take i,97<=c/\c<=122))/\i<=x.length/\∃ u0:Option V,σ=[u0])
  ⟨zC hD _,zA,⟨[],rfl,rfl,by simp⟩,br _,none,rfl⟩ (λi σ zs H' ⟨_,e,_⟩=>⟨bv,e⟩) ?_ ?_
 ·rintro i v σ zs H' hi ⟨sH,eD,⟨bs,rfl,lb,ab⟩,hi8,u0,rfl⟩;unfold zEq at hi;rw[av,aH] at hi;obtain⟨n,gn,rfl⟩:=hi;have hil:i<x.length:=by
   have:=(aM.mp gn).1;rw[bK] at this;exact this
  have fin:∀ b:Bool,(b=true↔97<=n/\n<=122)->H' D=some (.lst (bs.map V.bl))/\(bs.map V.bl).length<sizeLine/\Same H (upd H' D (.lst (bs.map V.bl++[.bl b])))/\upd H' D (.lst (bs.map V.bl++[.bl b])) D=some (.lst (bs.map V.bl++[.bl b]))/\(∃ cs:List Bool,bs.map V.bl++[.bl b]=cs.map V.bl/\cs.length=i+1/\(cs.all id=true↔∀ c∈x.cps.toList.take (i+1),97<=c/\c<=122))/\i+1<=x.length:=λb hb=>by
   refine⟨eD,zW (by rw[ac]; have:=as.2; lia),sH.putNew hD,zA,⟨bs++[b],by rw[aG]; rfl,by rw[aF,lb]; rfl,?_⟩,hil⟩;rw[iI,aZ,ab,bL,gn];simp only[eX,ir,g7,id,hb,aS,my,au];constructor
   ·rintro⟨h1,h2⟩ c (h | rfl)
    ·exact h1 c h
    ·exact h2
   ·exact λh=>⟨λc hc=>h c (.inl hc),h n (.inr rfl)⟩
  exists _,U,_,_,U,U,_,rfl;rw[show(!decide (((⟨#[n]⟩:aA).cps.toList)<(("a" : aA).cps.toList)))=decide (97<=n) from zW5 97 n];refine ifD (λh1=>?_) (λh1=>?_)
  ·exists _,_,U,rfl;rw[show(!decide ((("z" : aA).cps.toList)<((⟨#[n]⟩:aA).cps.toList)))=decide (n<=122) from zW5 n 122];obtain⟨f1,f2,f3,f4,f5,f6⟩:=fin (decide (n<=122)) (by simp[h1]);exact⟨f1,f2,f3,f4,f5,f6,_,U⟩
  ·obtain⟨f1,f2,f3,f4,f5,f6⟩:=fin false (by simp[h1]);exact⟨f1,f2,f3,f4,f5,f6,_,U⟩
 ·rintro σ zs H' ⟨sH,eD,⟨bs,rfl,lb,ab⟩,_,u0,rfl⟩;have lc:(zEq x).length=x.cps.toList.length:=ac _;rw[lc,bU] at ab;exists D,bs,U,SqL.of eD,_,rfl;cases hb:bs.all id with
  | true=>exact yB (q.yes ⟨by lia,by lia,ab.mp hb⟩ sH)
  | false=>exact yY (go H' sH λo=>by rw[ab.mpr o.2.2] at hb; cases hb)
def sC(K:ae):Sp:=λvs H Q E=>∃(d a:af)(kind:aA)(n:aA)(kvs ms:List (Key×V)),vs=[.ref d,.str kind,.str n]/\Rd H d (.dK kvs)/\wL kvs (.inr kind)=some (.ref a)/\Rd H a (.dK ms)/\kind.length<=1000/\n.length<=1000/\zOg (wL ms (.inr n)=none) Q E qU H
theorem zFp(F:Fun K "check_free" "check_free" vF f fd)(Z:Zs mg)(CB:Cb P w mg base)  : yQ P w K mg base (CX1 P w) 1 f fd ["state","kind","name"] (sC K):=by
 refine F.okX zGo (λvs H Q E h=>?_) (λcdv A outer s H vs Q E hr h=>?_)
 ·obtain⟨d,a,kind,n,kvs,ms,rfl,_⟩:=h;rfl
 obtain⟨d,a,kind,n,kvs,ms,rfl,hd,ea,ha,l1,l2,q⟩:=h;exists _,(zF (zY (zAe (zJ8 (zV hr) (pv 2) (zP (zV hr) (pv 0) (pv 1) (λ_ _=>rfl))) (by with_unfolding_all rfl)) (zF (xH (λ_=>E) CB.e_Taken am (by decide) am xJ (zB (wU (wX (zDb (pv 1) (wX (zDb (pv 2) (wX sU)))))) zI))) zN))
 try dsimp only[L2.cxOf]
 exists _,U,_,U,_,U,d,.ref a,U,.inl ⟨kvs,.inr kind,hd,U,ea.symm⟩,a,_,U,.inl ⟨ms,.inr n,ha,U,U⟩,_,rfl;cases e:wL ms (.inr n) with
 | none=>exact yB (q.yes e (Same.refl _))
 | some v=>exact yY ⟨_,rfl,.inr ⟨kind,rfl,l1⟩,_,rfl,.inr ⟨n,rfl,l2⟩,λx _=>⟨by show 1<=sizeLine; decide,q.no (by rw[e]; exact λz=>nomatch z) (Same.refl _)⟩⟩
def wJ(K:ae):Sp:=λvs H Q E=>∃(a:af)(x y:Int),vs=[.ref a]/\H a=some (.tup [.int x,.int y])/\zAf x/\zAf y/\zOg (zD3 (x,y)) Q E wS H
theorem zE4{x y:Int} : zD2 [x,y] 1000=true↔zD3 (x,y):=by
 simp only[zD2,zD3,eX,ir,g7,aZ,decide_eq_true_eq,and_assoc]
theorem zEt(F:Fun K "check_place" "check_place" uC f fd)(Z:Zs mg)(CB:Cb P w mg base)(yBo:Has P w K mg base "within" 1 ["numbers","most"] (qR K)):yQ P w K mg base (CX1 P w) 2 f fd ["place"] (wJ K):=by
 refine F.okX zEl (λvs H Q E h=>?_) (λcdv A outer s H vs Q E hr h=>?_)
 ·obtain⟨a,x,y,rfl,_⟩:=h;rfl
 obtain⟨a,x,y,rfl,ha,t1,t2,q⟩:=h;exists _,(zF (zY (zBu (zBl (uB yBo (hr.mono (by decide)) rfl (zB (pv 0) (zB (zO7 CB.FARTHEST) zI))))) (zF (xH (λ_=>E) CB.e_BadPlace am (by decide) am xJ (zB (wU (zKt hr.gd hr.units (pv 0) (wX sU))) zI))) zN))
 try dsimp only[L2.cxOf]
 refine⟨_,U,a,[x,y],1000,U,ha,(by show 2<=100; decide),λH' s'=>⟨_,rfl,?_⟩⟩;cases e:zD2 [x,y] 1000 with
 | true=>exact yB (q.yes (zE4.mp e) s')
 | false=>exact yY ⟨_,rfl,⟨ptD (x,y),vO (s' _ _ ha),zFr t1 t2⟩,λz _=>⟨by show 1<=sizeLine; decide,q.no (λz=>by rw[zE4.mpr z] at e; cases e) s'⟩⟩
def rK(K:ae):Sp:=λvs H Q E=>∃(a:af)(x y:Int),vs=[.ref a]/\H a=some (.tup [.int x,.int y])/\zAf x/\zAf y/\zOg (zD3 (x,y)) Q E tY H
theorem zHh(F:Fun K "check_run" "check_run" tQ f fd)(Z:Zs mg)(CB:Cb P w mg base)(yBo:Has P w K mg base "within" 1 ["numbers","most"] (qR K)):yQ P w K mg base (CX1 P w) 2 f fd ["run"] (rK K):=by
 refine F.okX zHs (λvs H Q E h=>?_) (λcdv A outer s H vs Q E hr h=>?_)
 ·obtain⟨a,x,y,rfl,_⟩:=h;rfl
 obtain⟨a,x,y,rfl,ha,t1,t2,q⟩:=h;exists _,(zF (zY (zBu (zBl (uB yBo (hr.mono (by decide)) rfl (zB (pv 0) (zB (zO7 CB.FARTHEST) zI))))) (zF (xH (λ_=>E) CB.e_BadRun am (by decide) am xJ (zB (wU (zKt hr.gd hr.units (pv 0) (wX sU))) zI))) zN))
 try dsimp only[L2.cxOf]
 refine⟨_,U,a,[x,y],1000,U,ha,(by show 2<=100; decide),λH' s'=>⟨_,rfl,?_⟩⟩;cases e:zD2 [x,y] 1000 with
 | true=>exact yB (q.yes (zE4.mp e) s')
 | false=>exact yY ⟨_,rfl,⟨ptD (x,y),vO (s' _ _ ha),zFr t1 t2⟩,λz _=>⟨by show 1<=sizeLine; decide,q.no (λz=>by rw[zE4.mpr z] at e; cases e) s'⟩⟩
def xY(K:ae):Sp:=λvs H Q E=>∃(d a:af)(kind:aA)(kvs ms:List (Key×V))(mx:Int),vs=[.ref d,.str kind]/\Rd H d (.dK kvs)/\wL kvs (.inr kind)=some (.ref a)/\Rd H a (.dK ms)/\wL zZ7 (.inr kind)=some (.int mx)/\kind.length<=1000/\zOg ((ms.length:Int)<mx) Q E zA0 H
theorem zFw(F:Fun K "check_room" "check_room" vH f fd)(Z:Zs mg)(CB:Cb P w mg base)  : yQ P w K mg base (CX1 P w) 1 f fd ["state","kind"] (xY K):=by
 refine F.okX zF5 (λvs H Q E h=>?_) (λcdv A outer s H vs Q E hr h=>?_)
 ·obtain⟨d,a,kind,kvs,ms,mx,rfl,_⟩:=h;rfl
 obtain⟨d,a,kind,kvs,ms,mx,rfl,hd,ea,ha,em,l1,q⟩:=h;exists _,(zF (zY (yJ zX1 (zR vT rfl Z.len wV (zB (zP (zV hr) (pv 0) (pv 1) (λ_ _=>rfl)) zI)) (zWc CB.dMOST CB.gMOST (pv 1)) (yW _)) (zF (xH (λ_=>E) CB.e_Full am (by decide) am xJ (zB (wU (wX (zDb (pv 1) (wX sU)))) zI))) zN))
 try dsimp only[L2.cxOf]
 exists _,U,_,U,d,.ref a,U,.inl ⟨kvs,.inr kind,hd,U,ea.symm⟩,a,ms,U,ha,_,U,.inr kind,.int mx,U,em,_,_,U,U,_,rfl;exact ifD (λz=>⟨_,rfl,.inr ⟨kind,rfl,l1⟩,λx _=>⟨by show 1<=sizeLine; decide,q.no (by lia) (Same.refl _)⟩⟩) (λz=>q.yes (by lia) (Same.refl _))
def xX(K:ae):Sp:=λvs H Q E=>∃(d m b r n:af)(S:BS)(x:aA),vs=[.ref d,.str x]/\StA H d m b r n S/\zFs x/\zOg ((zQ S x).isSome=true) Q E sV H
theorem zF9(F:Fun K "check_mark" "check_mark" vC f fd)(Z:Zs mg)(CB:Cb P w mg base)  : yQ P w K mg base (CX1 P w) 1 f fd ["state","name"] (xX K):=by
 refine F.okX zG5 (λvs H Q E h=>?_) (λcdv A outer s H vs Q E hr h=>?_)
 ·obtain⟨d,m,b,r,n,S,x,rfl,_⟩:=h;rfl
 obtain⟨d,m,b,r,n,S,x,rfl,st,as,q⟩:=h;obtain⟨kvs,hm,kv⟩:=st.ma;exists _,(zF (zY (zAe (sG (zV hr) (pv 1) (zP (zV hr) (pv 0) zK (λ_ _=>rfl))) (by with_unfolding_all rfl)) (zF (xH (λ_=>E) CB.e_NoMark am (by decide) am xJ (zB (wU (wX (zM3 (pv 1) sU))) zI))) zN))
 try dsimp only[L2.cxOf]
 exists _,U,_,U,d,.ref m,U,.inl ⟨_,.inr "marks",st.at_,U,tN.symm⟩,m,_,U,.inl ⟨kvs,.inr x,hm,U,U⟩,_,rfl;rw[kv.isSome,wT,bW];cases e:(zQ S x).isSome with
 | true=>exact yB (q.yes e (Same.refl _))
 | false=>exact yY ⟨_,rfl,⟨x,rfl,as.big,aJ as.2 (by decide)⟩,λy _=>⟨by show 1<=sizeLine; decide,q.no (by rw[e]; exact aB) (Same.refl _)⟩⟩
def offM(n:Nat)(m:Int):Prop:=(m<0\/(n:Int)<m)/\m.natAbs.log2<1920
def uY(K:ae):Sp:=λvs H Q E=>∃(a:af)(m:Int)(n:Nat),vs=[.int m,.ref a]/\((∃ xs,SqL K H a xs/\xs.length=n)\/∃ kvs,Rd H a (.dK kvs)/\kvs.length=n)/\((0<=m/\m<=n/\Q .non H)\/(offM n m/\E (.ref wA) none H))
theorem zDd(F:Fun K "check_moment" "check_moment" wM f fd)(Z:Zs mg)(CB:Cb P w mg base)  : yQ P w K mg base (CX1 P w) 1 f fd ["moment","runs"] (uY K):=by
 refine F.okX zDt (λvs H Q E h=>?_) (λcdv A outer s H vs Q E hr h=>?_)
 ·obtain⟨a,m,n,rfl,_⟩:=h;rfl
 obtain⟨a,m,n,rfl,ha,q⟩:=h
 refine'⟨_,(zF (zY (PW.pt (zP2 ?_ (zLd (yJ zIx (pv 0) (zR (uS.or yT vT) rfl Z.len wV (zB (pv 1) zI)) (yW _))))) (zF (xH (λ_=>E) CB.e_NoMoment am (by decide) am xJ (zB (wU (wX (zDb (pv 0) sU))) zI))) zN)),?_⟩
 nofun
 exists _,U,_,_,U,U,_,rfl;have go:¬ (0<=m/\m<=n)->zRb (zY0 (zUe 0) zSg) [some (.int m),some (.ref a)] H (λv H1=>1<=sizeLine/\E (.ref wA) none H1):=λz=>by
  rcases q with ⟨h0,hm,_⟩ | ⟨⟨_,sm⟩,q⟩
  ·exact absurd ⟨h0,hm⟩ z
  ·exact⟨_,U,.inl ⟨m,U,sm⟩,λx _=>⟨by decide,q⟩⟩
 refine ifD (λz=>?_) (λz=>?_)
 ·refine yY ?_;exact go (λy=>absurd y.1 (by lia))
 exists _,U,_,rfl;rcases ha with ⟨xs,hx,rfl⟩ | ⟨kvs,hx,rfl⟩
 ·refine .inl ⟨a,xs,rfl,.inl hx,_,_,rfl,rfl,_,rfl,?_⟩;refine ifD (λy=>go (λy=>absurd y.2 (by lia))) (λy=>?_);rcases q with ⟨_,_,q⟩ | ⟨⟨o,_⟩,_⟩
  ·exact q
  ·exact absurd o (by lia)
 ·refine .inr ⟨a,kvs,rfl,hx,_,_,rfl,rfl,_,rfl,?_⟩;refine ifD (λy=>go (λy=>absurd y.2 (by lia))) (λy=>?_);rcases q with ⟨_,_,q⟩ | ⟨⟨o,_⟩,_⟩
  ·exact q
  ·exact absurd o (by lia)
def zBm(K:ae):Sp:=λvs H Q E=>∃(a:af)(x y:Int),vs=[.ref a]/\H a=some (.tup [.int x,.int y])/\zAf x/\zAf y/\zOg (zDx (x,y)) Q E vW H
theorem zSe{x y:Int} : zD2 [x,y] 100=true↔(-100<=x/\x<=100/\-100<=y/\y<=100):=by
 simp only[zD2,eX,ir,g7,aZ,decide_eq_true_eq,and_assoc]
theorem zHp(F:Fun K "check_way" "check_way" tS f fd)(Z:Zs mg)(CB:Cb P w mg base)(yBo:Has P w K mg base "within" 1 ["numbers","most"] (qR K)):yQ P w K mg base (CX1 P w) 2 f fd ["direction"] (zBm K):=by
 refine F.okX zHo (λvs H Q E h=>?_) (λcdv A outer s H vs Q E hr h=>?_)
 ·obtain⟨a,x,y,rfl,_⟩:=h;rfl
 obtain⟨a,x,y,rfl,ha,t1,t2,q⟩:=h
 refine'⟨_,(zF (zY (PW.pt (zP2 (yJ (zOq hr.units0) (pv 0) ?_ (yW _)) (zLd (zBu (zBl (uB yBo (hr.mono (by decide)) rfl (zB (pv 0) (zB (zO7 CB.LONGEST_WAY) zI)))))))) (zF (xH (λ_=>E) CB.e_BadWay am (by decide) am xJ (zB (wU (zKt hr.gd hr.units (pv 0) (wX sU))) zI))) zN)),?_⟩
 nofun
 refine⟨_,U,sz2,λp hp=>?_⟩;have sp:=zC hp (.tup [.int 0,.int 0]);have ha':=sp _ _ ha;have go:∀ H',Same H H'->¬ zDx (x,y)->zRb (yb9 (zUe 0) zSg) [some (.ref a)] H' (λv H1=>1<=sizeLine/\E (.ref vW) none H1):=λH' s' z=>⟨_,rfl,⟨ptD (x,y),vO (s' _ _ ha),zFr t1 t2⟩,λy _=>⟨by show 1<=sizeLine; decide,q.no z s'⟩⟩;exists a,p,[x,y],[0,0],U,U,SqT.of ha',SqT.of zA,_,rfl;refine ifD (λz=>yY (go _ sp λo=>o.1 (show(x,y)=(0,0) by simp at z; rw[z.1,z.2]))) (λz=>?_);refine⟨_,U,a,[x,y],100,U,ha',(by show 2<=100; decide),λH' s'=>⟨_,rfl,?_⟩⟩;have s2:=sp.trans s';cases e:zD2 [x,y] 100 with
 | true=>exact yB (q.yes ⟨λy=>z (by injection y with y1 y2; rw[y1,y2]),zSe.mp e⟩ s2)
 | false=>exact yY (go _ s2 λo=>by rw[zSe.mpr o.2] at e; cases e)
def tH(K:ae):Sp:=λvs H Q E=>∃(d m b r n:af)(S:BS)(x y:aA)(p u:Int×Int),vs=[.ref d,.str x,.str y]/\StA H d m b r n S/\zQ S x=some p/\zQ S y=some u/\x.length<=1000/\y.length<=1000/\zOg (p≠u) Q E zB9 H
theorem zEu(F:Fun K "check_apart" "check_apart" uP f fd)(Z:Zs mg)(CB:Cb P w mg base)  : yQ P w K mg base (CX1 P w) 1 f fd ["state","left","right"] (tH K):=by
 refine F.okX zEs (λvs H Q E h=>?_) (λcdv A outer s H vs Q E hr h=>?_)
 ·obtain⟨d,m,b,r,n,S,x,y,p,u,rfl,_⟩:=h;rfl
 obtain⟨d,m,b,r,n,S,x,y,p,u,rfl,st,ex,ey,l1,l2,q⟩:=h;obtain⟨kvs,hm,kv⟩:=st.ma;obtain⟨v1,g1,r1⟩:=kv.get (k:=.inr x) (d:=ptD p) (by rw[wT,ex]; rfl);obtain⟨v2,g2,r2⟩:=kv.get (k:=.inr y) (d:=ptD u) (by rw[wT,ey]; rfl);obtain⟨a1,rfl,h1⟩:=zBv r1;obtain⟨a2,rfl,h2⟩:=zBv r2;exists _,(zF (zY (yJ (zOq hr.units0) (zP (zV hr) (zP (zV hr) (pv 0) zK (λ_ _=>rfl)) (pv 1) (λ_ _=>rfl)) (zP (zV hr) (zP (zV hr) (pv 0) zK (λ_ _=>rfl)) (pv 2) (λ_ _=>rfl)) (yW _)) (zF (xH (λ_=>E) CB.e_Same am (by decide) am xJ (zB (wU (zDb (pv 1) (wX (zDb (pv 2) (wX sU))))) zI))) zN))
 try dsimp only[L2.cxOf]
 refine⟨_,U,d,.ref m,U,.inl ⟨_,.inr "marks",st.at_,U,tN.symm⟩,_,U,m,_,U,.inl ⟨kvs,.inr x,hm,U,g1.symm⟩,_,U,d,.ref m,U,.inl ⟨_,.inr "marks",st.at_,U,tN.symm⟩,_,U,m,_,U,.inl ⟨kvs,.inr y,hm,U,g2.symm⟩,
  a1,a2,[p.1,p.2],[u.1,u.2],rfl,rfl,SqT.of h1,SqT.of h2,_,rfl,?_⟩
 exact ifD (λz=>⟨_,rfl,.inr ⟨x,rfl,l1⟩,_,rfl,.inr ⟨y,rfl,l2⟩,λx _=>⟨by show 1<=sizeLine; decide,q.no (λne=>ne (by simp at z; exact jL z.1 z.2)) (Same.refl _)⟩⟩) (λz=>q.yes (λe=>z (by rw[e])) (Same.refl _))
def sM(_:ae):Sp:=zGk axC λD=>∃ n x y,D=.mark n x y
theorem zG4(F:Fun K "after_mark" "after_mark" vN f fd)(Z:Zs mg)(CB:Cb P w mg base)(yBm:Has P w K mg base "changed" 1 ["state","kind","key","value"] (xV K))(yAq:qI P w K mg base "check_room" 1 ["state","kind"] (xY K))(yAg:qI P w K mg base "check_place" 2 ["place"] (wJ K))(yAu:qI P w K mg base "check_free" 1 ["state","kind","name"] (sC K))(yAx:qI P w K mg base "check_name" 1 ["name"] (tZ K)):yQ P w K mg base (CX1 P w) 3 f fd ["state","row"] (sM K):=by
 refine F.okX sL (λvs H Q E h=>?_) (λcdv A outer s H vs Q E hr h=>?_)
 ·obtain⟨d,v,S,D,rfl,_⟩:=h;rfl
 obtain⟨d,v,S,D,rfl,⟨n,x,y,rfl⟩,⟨m,b,r,t,st⟩,hv,tm,wl,q,bad⟩:=h;obtain⟨a,rfl,ha⟩:=zB6 hv;obtain⟨an,tx,ty⟩:=tm
 refine'⟨_,(zD (PS.nox (yI 2 sL.nd ?_))
   (zD (PS.nox (yI 3 sL.nd ?_))
   (zD (yA (yG (λ_=>E) yAx zS (hr.mono (by decide)) rfl (zB (pv 2) zI)))
   (zD (yA (yG (λ_=>E) yAu zS (hr.mono (by decide)) rfl (zB (pv 0) (zB zK (zB (pv 2) zI)))))
   (zD (yA (yG (λ_=>E) yAg zS (hr.mono (by decide)) rfl (zB (pv 3) zI)))
   (zD (yA (yG (λ_=>E) yAq zS (hr.mono (by decide)) rfl (zB (pv 0) (zB zK zI))))
   (zF (PS.nox (zM ?_))))))))),?_⟩
 nofun
 exists _,U,a,_,_,.str n,U,U,.inr (SqT.of ha),rfl;refine⟨_,U,a,_,_,.int x,U,U,.inr (SqT.of ha),U,_,U,a,_,_,.int y,U,U,.inr (SqT.of ha),U,sz2,λp hp=>?_⟩;have s1:=zC hp (.tup [.int x,.int y]);refine⟨_,U,n,U,an,.of (λk1 H2 s2=>?_) (λno H2 s2=>bad .badName (by simp[zT,no]) _ (.of (s1.trans s2)))⟩;have s12:=s1.trans s2;have st2:=st.to (.of s12);obtain⟨kvs,hm,kv⟩:=st2.ma;have ep:=s2 _ _ (show upd H p (.tup [.int x,.int y]) p=_ from zA);refine⟨_,U,_,U,d,m, "marks",n,_,kvs,U,st2.at_,tN,hm,(by decide),aJ an.2 (by decide),.of (λk2 H3 s3=>?_) (λno H3 s3=>bad .taken (by
  have:¬ zQ S n=none:=λz=>no ((zSq kv).mpr z);simp[zT,k1,zA9 this]) _ (.of (s12.trans s3)))⟩
 have k2:=(zSq kv).mp k2;have s13:=s12.trans s3;refine⟨_,U,p,x,y,U,s3 _ _ ep,tx,ty,.of (λk3 H4 s4=>?_) (λno H4 s4=>bad .badPlace (by simp[zT,k1,k2,no]) _ (.of (s13.trans s4)))⟩;have s14:=s13.trans s4;have s24:=s3.trans s4;have st4:=st.to (.of s14);have hm4:=Rd.same hm s24;refine⟨_,U,d,m, "marks",_,kvs,20,U,st4.at_,tN,hm4,(by kernel_rfl),(by decide),.of (λk4 H5 s5=>?_) (λno H5 s5=>bad .full (by
  rw[kv.length,zAi] at no;simp[zT,k1,k2,k3,show 20<=S.marks.length by lia]) _ (.of (s14.trans s5)))⟩
 rw[kv.length,zAi] at k4;have s15:=s14.trans s5;have s25:=s24.trans s5;have st5:=st.to (.of s15);refine⟨_,U,_,U,_,U,d,m, "marks",.inr n,.ref p,_,kvs,U,st5.at_,tN,Rd.same hm s25,StA.stKlen,kv.le (by rw[zAi]; lia),λf c H6 s6 hf _ ef ec=>?_⟩;have s16:=s15.trans s6;have st6:=st.to (.of s16);rw[zGw] at ef;refine q (by simp[zT,k1,k2,k3]; lia) f H6 (.of s16) (s15.free hf) ⟨c,b,r,t,.inl ef,⟨_,.inl ec,?_⟩,st6.ba,st6.ru,st6.no⟩;show xO H6 _ (mkE (S.marks++[(n,x,y)]));rw[zR0,<- sZ (zPe k2)];exact(kv.to (.of (s25.trans s6))).put (vO ((s25.trans s6) _ _ ep))
def sF(_:ae):Sp:=zGk axC λD=>∃ k x y,D=.move k x y
theorem zGi(F:Fun K "after_move" "after_move" vJ f fd)(Z:Zs mg)(CB:Cb P w mg base)(yAk:qI P w K mg base "check_apart" 1 ["state","left","right"] (tH K))(yBm:Has P w K mg base "changed" 1 ["state","kind","key","value"] (xV K))(yAg:qI P w K mg base "check_place" 2 ["place"] (wJ K))(yAo:qI P w K mg base "check_mark" 1 ["state","name"] (xX K)):yQ P w K mg base (CX1 P w) 3 f fd ["state","row"] (sF K):=by
 refine F.okX uG (λvs H Q E h=>?_) (λcdv A outer s H vs Q E hr h=>?_)
 ·obtain⟨d,v,S,D,rfl,_⟩:=h;rfl
 obtain⟨d,v,S,D,rfl,⟨k,x,y,rfl⟩,⟨m,b,r,t,st⟩,hv,tm,wl,q,bad⟩:=h;obtain⟨a,rfl,ha⟩:=zCa hv;obtain⟨an,tx,ty⟩:=tm
 refine'⟨_,(zD (PS.nox (yI 2 uG.nd ?_))
   (zD (yA (yG (λ_=>E) yAo zS (hr.mono (by decide)) rfl ?_))
   (zD (yA (yG (λ_=>E) yAg zS (hr.mono (by decide)) rfl (zB (pv 2) zI)))
   (zD (PS.nox (yI 3 uG.nd ?_))
   (zD (zAa gX rfl (zJi (zP (zV hr) (pv 3) zK (λ_ _=>rfl))) (zD4 4 uG.nd) (zF (zY ?_ (zF (yA (yG (λ_=>E) yAk zS (hr.mono (by decide)) rfl ?_))) zN)))
   (zF (PS.nox (zM (pv 3))))))))),?_⟩
 nofun
 refine⟨_,U,a,_,_,.int x,U,U,.inr (SqT.of ha),U,_,U,a,_,_,.int y,U,U,.inr (SqT.of ha),U,sz2,λp hp=>?_⟩;have s1:=zC hp (.tup [.int x,.int y]);have ep1:upd H p (.tup [.int x,.int y]) p=some (.tup [.int x,.int y]):=zA;have st1:=st.to (.of s1);refine⟨_,U,_,U,a,_,_,.str k,U,U,.inr (SqT.of (s1 _ _ ha)),U,d,m,b,r,t,S,k,U,st1,an,.of (λk1 H2 s2=>?_) (λno H2 s2=>bad .noMark (by
  have:zQ S k=none:=by cases e:zQ S k <;> simp[e] at no ⊢
  simp only[zT,if_pos this]) _ (.of (s1.trans s2)))⟩
 have k1':¬ zQ S k=none:=λz=>by rw[z] at k1; cases k1
 refine⟨_,U,p,x,y,U,s2 _ _ ep1,tx,ty,.of (λk2 H3 s3=>?_) (λno H3 s3=>bad .badPlace (by simp only[zT,if_neg k1',if_pos no]) _ (.of ((s1.trans s2).trans s3)))⟩;have s13:=(s1.trans s2).trans s3;have ep3:=s3 _ _ (s2 _ _ ep1);have st3:=st.to (.of s13);obtain⟨mvs,hm,km⟩:=st3.ma;refine⟨_,U,_,U,a,_,_,.str k,U,U,.inr (SqT.of (s13 _ _ ha)),U,_,U,d,m, "marks",.inr k,.ref p,_,mvs,U,st3.at_,tN,hm,StA.stKlen,km.le (by rw[zAi]; have:=wl.good.few.ma; lia),λf c H4 s4 hf _ ef ec=>?_⟩;have s14:=s13.trans s4;have st4:=st.to (.of s14);rw[zGw] at ef;have fst:StA H4 f c b r t (aft S (.move k x y)):=⟨.inl ef,⟨_,.inl ec,by rw[<- zT3 k1]; exact(km.to (.of s4)).put (vO (p:=(x,y)) (s4 _ _ ep3))⟩,st4.ba,st4.ru,st4.no⟩;obtain⟨nk,hn,kn⟩:=fst.no;obtain⟨ks,rfl,e1,rk⟩:=zCw kn;have lks:ks.length=S.notes.length:=by have:=congrArg cN e1; rw[ac,ac] at this; exact this
 refine⟨_,U,f,.ref t,U,.inl ⟨_,.inr "notes",fst.at_,U,qS.symm⟩,t,_,U,hn,λo H5 fz=>?_⟩;have s5:Sam H4 H5:=zF2 hn fz;refine zU0 (λi σ H'=>Sam H4 H'/\zNw t o (ks.map λe=>(.inl e.1,e.2)) H'/\(∀ e∈S.notes.take i,zDe (aft S (.move k x y)) e.2)/\∃ u:Option V,σ=[some (.ref d),some (.ref a),some (.ref p),some (.ref f),u])
  ⟨s5,fz.1,λe he=>(nomatch he),none,rfl⟩ (λi σ H' h=>h.2.1) ?_ ?_
 ·rintro i x' σ H' gx ⟨s6,fa,ul,u,rfl⟩;have gx':(ks.map (·.2))[i]?=some x':=by rw[bp] at gx; exact gx
  obtain⟨dt,gd,rd⟩:=rk.back gx';rw[av,aH] at gd;obtain⟨e,ge,rfl⟩:=gd;have ge:S.notes[i]?=some e:=ge;have mem:=aN ge;have kn:=wl.good.note e mem;have rd3:=rd.to s6;have snoc:zDe (aft S (.move k x y)) e.2->∀ e'∈S.notes.take (i+1),zDe (aft S (.move k x y)) e'.2:=λh e' he'=>by
   rw[bL,ge] at he';rcases aS.mp he' with z | z
   ·exact ul e' z
   ·rw[au.mp z]; exact h
  match hE:e.2,kn,rd3 with
  | .bearing mo n x1 y1 x2 y2,kn,rd3 =>
   obtain⟨c,c1,c2,rfl,hc,hc1,hc2⟩:=xG rd3;exists _,U,c,_,0,.str "bearing",U,U,.inr (SqT.of hc),U,U,_,rfl;exact yB ⟨s6,fa,snoc (by rw[hE]; trivial),_,rfl⟩
  | .range mo l1 r1,kn,rd3 =>
   obtain⟨c',rfl,hc⟩:=wZ rd3;obtain⟨_,_,i1,i2,_⟩:=kn;have o1:=wl.mark i1;have o2:=wl.mark i2;obtain⟨p1,g1⟩:=aL.mp (vU (n:=k) (x:=x) (y:=y) i1);obtain⟨p2,g2⟩:=aL.mp (vU (n:=k) (x:=x) (y:=y) i2);exists _,U,c',_,0,.str "range",U,U,.inr (SqT.of hc),U,U,_,rfl;refine yY ?_;refine⟨_,U,_,U,c',_,2,.str l1,U,U,.inr (SqT.of hc),U,_,U,c',_,3,.str r1,U,U,.inr (SqT.of hc),U,f,_,_,_,_,_,l1,r1,p1,p2,U,fst.to s6,g1,g2,aJ o1.2.1 (by decide),aJ o2.2.1 (by decide),.of (λne H7 s7=>?_) (λno H7 s7=>bad .same (by
    have z:¬ ∀ e∈S.notes,zDe (aft S (.move k x y)) e.2:=λz=>by
     have z:=z e mem;rw[hE] at z;obtain⟨u1,u2,h1,h2,h3⟩:=z;rw[g1] at h1;rw[g2] at h2;cases h1;cases h2;exact no h3
    simp only[zT,if_neg k1',if_neg (ao.mpr k2),if_neg z]) _ (((yR.of s14).trans s6).trans (.of s7)))⟩
   exact⟨s6.trans (.of s7),s7 _ _ fa,snoc (by rw[hE]; exact⟨p1,p2,g1,g2,ne⟩),_,U⟩
 ·rintro σ H' ⟨s6,fa,ul,u,rfl⟩;rw[ac,ac,lks,bU] at ul;exact⟨_,U,q (by simp only[zT,if_neg k1',if_neg (ao.mpr k2),if_pos ul]) f H' ((yR.of s14).trans s6) (s13.free hf) ⟨_,_,_,_,fst.to s6⟩⟩
def uV(_:ae):Sp:=zGk axC λD=>∃ k,D=.unmark k
theorem zDf(F:Fun K "after_unmark" "after_unmark" wQ f fd)(Z:Zs mg)(CB:Cb P w mg base)(yBl:Has P w K mg base "without" 1 ["state","kind","key"] (rC K))(yAo:qI P w K mg base "check_mark" 1 ["state","name"] (xX K)):yQ P w K mg base (CX1 P w) 2 f fd ["state","row"] (uV K):=by
 refine F.okX uW (λvs H Q E h=>?_) (λcdv A outer s H vs Q E hr h=>?_)
 ·obtain⟨d,v,S,D,rfl,_⟩:=h;rfl
 obtain⟨d,v,S,D,rfl,⟨k,rfl⟩,⟨m,b,r,t,st⟩,hv,tm,wl,q,bad⟩:=h;obtain⟨a,rfl,ha⟩:=sQ hv
 refine'⟨_,(zD (PS.nox (yI 2 uW.nd ?_))
   (zD (yA (yG (λ_=>E) yAo zS (hr.mono (by decide)) rfl (zB (pv 0) (zB (pv 2) zI))))
   (zD (zAa gX rfl (zJi (zP (zV hr) (pv 0) zK (λ_ _=>rfl))) (zD4 3 uW.nd) (zF (zY (yJ (zQ8 (zV hr)) (pv 2) (uJ zEe (pv 3) (sP yL) sI) (by with_unfolding_all rfl)) (zF (xH (λ_=>E) CB.e_Needed am (by decide) am xJ (zB (wU (wX (zDb (pv 2) sU))) zI))) zN)))
   (zF (PS.nox (zM ?_)))))),?_⟩
 nofun
 exists _,U,a,_,_,.str k,U,U,.inr (SqT.of ha),rfl;refine⟨_,U,_,U,d,m,b,r,t,S,k,U,st,tm,.of (λk1 H1 s1=>?_) (λno H1 s1=>bad .noMark (by
  have:zQ S k=none:=by cases e:zQ S k <;> simp[e] at no ⊢
  simp only[zT,if_pos this]) _ (.of s1))⟩
 have k1':¬ zQ S k=none:=λz=>by rw[z] at k1; cases k1
 have st1:=st.to (.of s1);obtain⟨nk,hn,kn⟩:=st1.no;obtain⟨ks,rfl,e1,rk⟩:=zCw kn;have lks:ks.length=S.notes.length:=by have:=congrArg cN e1; rw[ac,ac] at this; exact this
 refine⟨_,U,d,.ref t,U,.inl ⟨_,.inr "notes",st1.at_,U,qS.symm⟩,t,_,U,hn,λo H2 fz=>?_⟩;have s2:Sam H1 H2:=zF2 hn fz;refine zU0 (λi σ H'=>Sam H1 H'/\zNw t o (ks.map λe=>(.inl e.1,e.2)) H'/\(∀ e∈S.notes.take i,rO k e.2)/\∃ u:Option V,σ=[some (.ref d),some (.ref a),some (.str k),u])
  ⟨s2,fz.1,λe he=>(nomatch he),none,rfl⟩ (λi σ H' h=>h.2.1) ?_ ?_
 ·rintro i x σ H' gx ⟨s3,fa,ul,u,rfl⟩;have gx':(ks.map (·.2))[i]?=some x:=by rw[bp] at gx; exact gx
  obtain⟨dt,gd,rd⟩:=rk.back gx';rw[av,aH] at gd;obtain⟨e,ge,rfl⟩:=gd;have mem:=aN ge;have kn:=wl.good.note e mem;have rd3:=rd.to s3;have snoc:rO k e.2->∀ e'∈S.notes.take (i+1),rO k e'.2:=λh e' he'=>by
   rw[bL,ge] at he';rcases aS.mp he' with z | z
   ·exact ul e' z
   ·rw[au.mp z]; exact h
  have needed:¬ rO k e.2->∀ H4,Same H' H4->zRb (zY0 (zUe 2) zSg) [some (.ref d),some (.ref a),some (.str k),some x] H4 (λv H1=>1<=sizeLine/\E (.ref sN) none H1):=λno H4 s4=>⟨_,rfl,.inr ⟨k,rfl,aJ tm.2 (by decide)⟩,λy _=>⟨by show 1<=sizeLine; decide,bad .needed (by
   simp only[zT,if_neg k1',if_neg (show ¬ ∀ e∈S.notes,rO k e.2 from λz=>no (z e mem))]) _ (((yR.of s1).trans s3).trans (.of s4))⟩⟩
  match hE:e.2,kn,rd3 with
  | .bearing mo n x1 y1 x2 y2,kn,rd3 =>
   obtain⟨c,c1,c2,rfl,hc,hc1,hc2⟩:=xG rd3;refine⟨_,U,_,U,_,U,c,_,U,SqT.of hc,(λz=>absurd z.1 (by show ¬ HT.sIx 5 0 (some 2)=0; decide)),λp hp=>?_⟩;have sp:=zC hp (.tup (zB7 [.str "bearing",.int mo,.str n,.ref c1,.ref c2] (some 2) none));refine⟨p,[.str n,.ref c1,.ref c2],k,U,U,SqT.of zA,λv hv=>?_,_,U,?_⟩
   ·rcases aD.mp hv with z | hv
    ·exact .inl ⟨n,z⟩
    rcases aD.mp hv with z | hv
    ·exact .inr ⟨c1,_,z,SqT.of (sp _ _ hc1)⟩
    ·exact .inr ⟨c2,_,au.mp hv,SqT.of (sp _ _ hc2)⟩
   have nn:([V.str n,.ref c1,.ref c2].any (isS k))=(n == k):=by
    show((n == k)||(false||(false||false)))=(n == k);cases n == k <;> rfl
   rw[nn];cases hb:n == k with
   | true=>exact yY (needed (by rw[hE]; exact λz=>z (eq_of_beq hb)) _ sp)
   | false=>exact yB ⟨s3.trans (.of sp),sp _ _ fa,snoc (by rw[hE]; exact beq_eq_false_iff_ne.mp hb),_,rfl⟩
  | .range mo l1 r1,kn,rd3 =>
   obtain⟨c,rfl,hc⟩:=wZ rd3;refine⟨_,U,_,U,_,U,c,_,U,SqT.of hc,(λz=>absurd z.1 (by show ¬ HT.sIx 4 0 (some 2)=0; decide)),λp hp=>?_⟩;have sp:=zC hp (.tup (zB7 [.str "range",.int mo,.str l1,.str r1] (some 2) none));refine⟨p,[.str l1,.str r1],k,U,U,SqT.of zA,λv hv=>?_,_,U,?_⟩
   ·rcases aD.mp hv with z | hv
    ·exact .inl ⟨l1,z⟩
    ·exact .inl ⟨r1,au.mp hv⟩
   have nn:([V.str l1,.str r1].any (isS k))=(l1 == k||r1 == k):=by
    show((l1 == k)||((r1 == k)||false))=_;rw[ji]
   rw[nn];cases hb:(l1 == k||r1 == k) with
   | true=>exact yY (needed (by
     rw[hE];rintro⟨h1,h2⟩;rcases iz _ _ |>.mp hb with z | z
     ·exact h1 (eq_of_beq z)
     ·exact h2 (eq_of_beq z)) _ sp)
   | false =>
    rw[eK] at hb;exact yB ⟨s3.trans (.of sp),sp _ _ fa,snoc (by rw[hE]; exact⟨beq_eq_false_iff_ne.mp hb.1,beq_eq_false_iff_ne.mp hb.2⟩),_,U⟩
 ·rintro σ H' ⟨s3,fa,ul,u,rfl⟩;rw[ac,ac,lks,bU] at ul;have st3:=st1.to s3;obtain⟨mvs,hm,km⟩:=st3.ma;obtain⟨p,ep⟩:=aL.mp k1;obtain⟨v,ev,_⟩:=km.get (k:=.inr k) (d:=ptD p) (by rw[wT,ep]; rfl);refine⟨_,U,_,U,d,m, "marks",.inr k,v,_,mvs,U,st3.at_,tN,hm,ev,StA.stKlen,λf c H4 s4 hf ne ef ec=>?_⟩;have st4:=st3.to (.of s4);have s03:=(yR.of s1).trans s3;rw[zGw] at ef;refine q (by simp only[zT,if_neg k1',if_pos ul]) f H4 (s03.trans (.of s4)) (s03.free id hf) ⟨c,b,r,t,.inl ef,⟨_,.inl ec,?_⟩,st4.ba,st4.ru,st4.no⟩;have:=(km.to (.of s4)).drop (k:=.inr k);rw[zPh] at this;exact this
def tW(_:ae):Sp:=zGk axC λD=>∃ n cs,D=.bank n cs
theorem cn_ok{H:Hp}{cs:List (Int×Int)}{ps:List Pr}(h:yh4 H cs ps)(hn:∀ c∈cs,c.1.natAbs.log2<20/\c.2.natAbs.log2<20):zZw H (10^8) ps:=λt ht=>by
 obtain⟨h1,h2⟩:=hn t.2 (by rw[<- h.pt]; exact aC.mpr ⟨t,ht,rfl⟩);have e1:=lt_two_pow_of_log2_lt h1;have e2:=lt_two_pow_of_log2_lt h2;have e3:(2:Nat)^20<=10^8:=by decide
 exact⟨h.at_ t ht,by lia,by lia⟩
theorem zGy(F:Fun K "after_bank" "after_bank" vI f fd)(Z:Zs mg)(CB:Cb P w mg base)(yBm:Has P w K mg base "changed" 1 ["state","kind","key","value"] (xV K))(yAq:qI P w K mg base "check_room" 1 ["state","kind"] (xY K))(yBi:Has P w K mg base "is_bank" 3 ["corners"] (zD7 K))(yAg:qI P w K mg base "check_place" 2 ["place"] (wJ K))(yAu:qI P w K mg base "check_free" 1 ["state","kind","name"] (sC K))(yAx:qI P w K mg base "check_name" 1 ["name"] (tZ K)):yQ P w K mg base (CX1 P w) 4 f fd ["state","row"] (tW K):=by
 refine F.okX uO (λvs H Q E h=>?_) (λcdv A outer s H vs Q E hr h=>?_)
 ·obtain⟨d,v,S,D,rfl,_⟩:=h;rfl
 obtain⟨d,v,S,D,rfl,⟨n,cs,rfl⟩,⟨m,b,r,t,st⟩,hv,tm,wl,q,bad⟩:=h;obtain⟨a,cc,ps,rfl,ha,hc,cn,rc⟩:=zAw hv;obtain⟨an,l12,tc⟩:=tm;have shw:=zMi l12 tc;have lps:ps.length<=12:=by rw[<- cn.pt,ac] at l12; exact l12
 refine'⟨_,(zD (PS.nox (yI 2 uO.nd ?_))
   (zD (PS.nox (yI 3 uO.nd ?_))
   (zD (yA (yG (λ_=>E) yAx zS (hr.mono (by decide)) rfl (zB (pv 2) zI)))
   (zD (yA (yG (λ_=>E) yAu zS (hr.mono (by decide)) rfl (zB (pv 0) (zB zK (zB (pv 2) zI)))))
   (zD (zAa gX rfl (zO5 (pv 3)) (zD4 4 uO.nd) (zF (yA (yG (λ_=>E) yAg zS (hr.mono (by decide)) rfl (zB (pv 4) zI)))))
   (zD (zY ?_ (zF (xH (λ_=>E) CB.e_BadBank am (by decide) am xJ (zB (wU (zKt hr.gd hr.units (pv 3) (wX sU))) zI))) zN)
   (zD (yA (yG (λ_=>E) yAq zS (hr.mono (by decide)) rfl (zB (pv 0) (zB zK zI))))
   (zF (PS.nox (zM ?_)))))))))),?_⟩
 nofun
 exists _,U,a,_,_,.str n,U,U,.inr (SqT.of ha),rfl;exists _,U,a,_,_,.ref cc,U,U,.inr (SqT.of ha),rfl;refine⟨_,U,n,U,an,.of (λk1 H1 s1=>?_) (λno H1 s1=>bad .badName (by simp only[zT,if_pos no]) _ (.of s1))⟩;have k1':=ao.mpr k1;have st1:=st.to (.of s1);obtain⟨bvs,hb,kb⟩:=st1.ba;refine⟨_,U,_,U,d,b, "banks",n,_,bvs,U,st1.at_,zBd,hb,(by decide),aJ an.2 (by decide),.of (λk2 H2 s2=>?_) (λno H2 s2=>bad .taken (by
  have:n∈S.banks.map (·.1):=ao.mp λz=>no ((zDc kb).mpr z);simp only[zT,if_neg k1',if_pos this]) _ (.of (s1.trans s2)))⟩
 have k2:=(zDc kb).mp k2;have s12:=s1.trans s2;have hc2:=s12 _ _ hc;refine⟨_,U,cc,U,.inr ⟨⟨_,SqT.of hc2⟩,?_⟩⟩;refine zR5 (K:=K) (a:=cc) (xs:=wI ps) (λi σ H'=>Same H2 H'/\(∀ u∈ps.take i,zD3 u.2)/\∃ u:Option V,σ=[some (.ref d),some (.ref a),some (.str n),some (.ref cc),u])
  ⟨Same.refl _,λu hu=>(nomatch hu),none,rfl⟩ (λi σ H' _ h=>SqT.of (h.1 _ _ hc2)) ?_ ?_
 ·rintro i x σ H' gx ⟨s3,nr,u,rfl⟩;rw[av,av,Option.map_map,aH] at gx;obtain⟨tt,gt,rfl⟩:=gx;have mt:=aN gt;have mc:tt.2∈cs:=by rw[<- cn.pt]; exact aC.mpr ⟨tt,mt,rfl⟩
  obtain⟨c1,c2⟩:=tc _ mc;refine⟨_,U,tt.1,tt.2.1,tt.2.2,U,s3 _ _ (s12 _ _ (cn.at_ tt mt)),cY c1 (by decide),cY c2 (by decide),.of (λk3 H4 s4=>⟨s3.trans s4,λu hu=>?_,_,U⟩) (λno H4 s4=>bad .badPlace (by
   simp only[zT,if_neg k1',if_neg k2,if_pos (show ¬ ∀ c∈cs,zD3 c from λz=>no (z _ mc))]) _ (.of (s12.trans (s3.trans s4))))⟩
  rw[bL,gt] at hu;rcases aS.mp hu with z | z
  ·exact nr u z
  ·rw[au.mp z]; exact k3
 ·rintro σ H3 ⟨s3,nr,u,rfl⟩;rw[cy (by rw[xL]; exact al _)] at nr;have k3:∀ c∈cs,zD3 c:=λc hc=>by
   rw[<- cn.pt] at hc;obtain⟨u,hu,rfl⟩:=aC.mp hc;exact nr u hu
  have k3':=ao.mpr k3;have s13:=s12.trans s3;refine⟨_,U,cc,ps,U,⟨.inr (SqT.of (s3 _ _ hc2)),(cn_ok cn tc).same s13⟩,by lia,λH4 s4=>⟨_,U,?_⟩⟩;rw[yg8,cn.pt];have s14:=s13.trans s4;cases k4:zKv cs with
  | false=>exact yY ⟨_,rfl,⟨_,rc.to (.of s14),shw⟩,λy _=>⟨by show 1<=sizeLine; decide,bad .badBank (by simp only[zT,if_neg k1',if_neg k2,if_neg k3',if_pos k4]) _ (.of s14)⟩⟩
  | true =>
   have k4':¬ zKv cs=false:=by rw[k4]; exact λz=>nomatch z
   refine yB ?_;have st4:=st.to (.of s14);have hb4:=Rd.same hb ((s2.trans s3).trans s4);refine⟨_,U,d,b, "banks",_,bvs,8,U,st4.at_,zBd,hb4,(by kernel_rfl),(by decide),.of (λk5 H5 s5=>?_) (λno H5 s5=>bad .full (by
    rw[kb.length,zI6] at no;simp only[zT,if_neg k1',if_neg k2,if_neg k3',if_neg k4',if_pos (show 8<=S.banks.length by lia)]) _ (.of (s14.trans s5)))⟩
   rw[kb.length,zI6] at k5;have s15:=s14.trans s5;have st5:=st.to (.of s15);refine⟨_,U,_,U,_,U,d,b, "banks",.inr n,.ref cc,_,bvs,U,st5.at_,zBd,Rd.same hb4 s5,StA.stKlen,kb.le (by rw[zI6]; lia),λf c H6 s6 hf _ ef ec=>?_⟩;have s16:=s15.trans s6;have st6:=st.to (.of s16);rw[zKz] at ef;refine q (by simp only[zT,if_neg k1',if_neg k2,if_neg k3',if_neg k4',if_neg (show ¬ 8<=S.banks.length by lia)]) f H6 (.of s16) (s15.free hf) ⟨m,c,r,t,.inl ef,st6.ma,⟨_,.inl ec,?_⟩,st6.ru,st6.no⟩;show xO H6 _ (bkE (S.banks++[(n,cs)]));rw[zR3,<- sZ (zJw k2)];exact(kb.to (.of ((((s2.trans s3).trans s4).trans s5).trans s6))).put (rc.to (.of s16))
def vX(_:ae):Sp:=zGk axC λD=>∃ k,D=.level k
theorem zEo(F:Fun K "after_level" "after_level" uF f fd)(Z:Zs mg)(CB:Cb P w mg base)(yBl:Has P w K mg base "without" 1 ["state","kind","key"] (rC K)):yQ P w K mg base (CX1 P w) 2 f fd ["state","row"] (vX K):=by
 refine F.okX qY (λvs H Q E h=>?_) (λcdv A outer s H vs Q E hr h=>?_)
 ·obtain⟨d,v,S,D,rfl,_⟩:=h;rfl
 obtain⟨d,v,S,D,rfl,⟨k,rfl⟩,⟨m,b,r,t,st⟩,hv,tm,wl,q,bad⟩:=h;obtain⟨a,rfl,ha⟩:=qA hv;obtain⟨nk,hn,kn⟩:=st.ba
 refine'⟨_,(zD (PS.nox (yI 2 qY.nd ?_))
   (zD (zY (zAe (sG (zV hr) (pv 2) (zP (zV hr) (pv 0) zK (λ_ _=>rfl))) (by with_unfolding_all rfl)) (zF (xH (λ_=>E) CB.e_NoBank am (by decide) am xJ (zB (wU (wX (zM3 (pv 2) sU))) zI))) zN)
   (zF (PS.nox (zM ?_))))),?_⟩
 nofun
 exists _,U,a,_,_,.str k,U,U,.inr (SqT.of ha),U,_,U,_,U,d,.ref b,U,.inl ⟨_,.inr "banks",st.at_,U,zBd.symm⟩,b,_,U,.inl ⟨nk,.inr k,hn,U,U⟩,_,rfl;cases ev:wL nk (.inr k) with
 | none=>exact yY ⟨_,rfl,⟨k,rfl,zFs.big tm,aJ tm.2 (by decide)⟩,λy _=>⟨by show 1<=sizeLine; decide,bad .noBank (by simp only[zT,if_neg ((zDc kn).mp ev)]) H (.refl _)⟩⟩
 | some v =>
  have ok:k∈S.banks.map (·.1):=ao.mp λz=>by rw[(zDc kn).mpr z] at ev; cases ev
  refine yB ?_;refine⟨_,U,_,U,d,b, "banks",.inr k,v,_,nk,U,st.at_,zBd,hn,ev,StA.stKlen,λf c H2 s2 hf ne ef ec=>?_⟩;have st2:=st.to (.of s2);rw[zKz] at ef;refine q (by simp only[zT,if_pos ok]) f H2 (.of s2) hf ⟨m,c,r,t,.inl ef,st2.ma,⟨_,.inl ec,?_⟩,st2.ru,st2.no⟩;have:=(kn.to (.of s2)).drop (k:=.inr k);rw[zN8] at this;exact this
def tX(_:ae):Sp:=zGk axC λD=>∃ x y,D=.sail x y
theorem zFj(F:Fun K "after_sail" "after_sail" vB f fd)(Z:Zs mg)(CB:Cb P w mg base)(yBm:Has P w K mg base "changed" 1 ["state","kind","key","value"] (xV K))(yAq:qI P w K mg base "check_room" 1 ["state","kind"] (xY K))(yAz:qI P w K mg base "check_run" 2 ["run"] (rK K)):yQ P w K mg base (CX1 P w) 3 f fd ["state","row"] (tX K):=by
 refine F.okX zAk (λvs H Q E h=>?_) (λcdv A outer s H vs Q E hr h=>?_)
 ·obtain⟨d,v,S,D,rfl,_⟩:=h;rfl
 obtain⟨d,v,S,D,rfl,⟨x,y,rfl⟩,⟨m,b,r,t,st⟩,hv,tm,wl,q,bad⟩:=h;obtain⟨a,rfl,ha⟩:=zB0 hv;obtain⟨tx,ty⟩:=tm
 refine'⟨_,(zD (PS.nox (yI 2 zAk.nd ?_))
   (zD (yA (yG (λ_=>E) yAz zS (hr.mono (by decide)) rfl (zB (pv 2) zI)))
   (zD (yA (yG (λ_=>E) yAq zS (hr.mono (by decide)) rfl (zB (pv 0) (zB zK zI))))
   (zF (PS.nox (zM (uB yBm (hr.mono (by decide)) rfl (zB (pv 0) (zB zK (zB (zR vT rfl Z.len wV (zB (zP (zV hr) (pv 0) zK (λ_ _=>rfl)) zI)) (zB (pv 2) zI))))))))))),?_⟩
 nofun
 refine⟨_,U,a,_,_,.int x,U,U,.inr (SqT.of ha),U,_,U,a,_,_,.int y,U,U,.inr (SqT.of ha),U,sz2,λp hp=>?_⟩;have s1:=zC hp (.tup [.int x,.int y]);refine⟨_,U,p,x,y,U,zA,tx,ty,.of (λk1 H2 s2=>?_) (λno H2 s2=>bad .badRun (by simp[zT,no]) _ (.of (s1.trans s2)))⟩;have s12:=s1.trans s2;have st2:=st.to (.of s12);obtain⟨kvs,hm,kv⟩:=st2.ru;have ln:kvs.length=S.runs.length:=by rw[kv.length,zB8]
 have ep:=s2 _ _ (show upd H p (.tup [.int x,.int y]) p=_ from zA);refine⟨_,U,d,r, "runs",_,kvs,12,U,st2.at_,rF,hm,(by kernel_rfl),(by decide),.of (λk2 H3 s3=>?_) (λno H3 s3=>bad .full (by simp[zT,k1,show 12<=S.runs.length by lia]) _ (.of (s12.trans s3)))⟩;have s13:=s12.trans s3;have st3:=st.to (.of s13);have hm3:=Rd.same hm s3;refine⟨_,U,_,U,d,.ref r,U,.inl ⟨_,.inr "runs",st3.at_,U,rF.symm⟩,r,kvs,U,hm3,_,U,d,r, "runs",.inl (kvs.length:Int),.ref p,_,kvs,U,st3.at_,rF,hm3,StA.stKlen,by lia,λf c H4 s4 hf _ ef ec=>?_⟩;have s14:=s13.trans s4;have st4:=st.to (.of s14);rw[zOb] at ef;refine q (by simp[zT,k1]; lia) f H4 (.of s14) (s13.free hf) ⟨m,b,c,t,.inl ef,st4.ma,st4.ba,⟨_,.inl ec,?_⟩,st4.no⟩;show xO H4 _ (rnE (S.runs++[(x,y)]));rw[zZm,<- sZ zVj,<- ln];exact(kv.to (.of (s3.trans s4))).put (vO ((s3.trans s4) _ _ ep))
def tG(_:ae):Sp:=zGk axC λD=>∃ k x y,D=.right k x y
theorem zEh(F:Fun K "after_right" "after_right" uQ f fd)(Z:Zs mg)(CB:Cb P w mg base)(yBm:Has P w K mg base "changed" 1 ["state","kind","key","value"] (xV K))(yAz:qI P w K mg base "check_run" 2 ["run"] (rK K)):yQ P w K mg base (CX1 P w) 3 f fd ["state","row"] (tG K):=by
 refine F.okX tD (λvs H Q E h=>?_) (λcdv A outer s H vs Q E hr h=>?_)
 ·obtain⟨d,v,S,D,rfl,_⟩:=h;rfl
 obtain⟨d,v,S,D,rfl,⟨k,x,y,rfl⟩,⟨m,b,r,t,st⟩,hv,tm,wl,q,bad⟩:=h;obtain⟨a,rfl,ha⟩:=qH hv;obtain⟨tk,tx,ty⟩:=tm
 refine'⟨_,(zD (PS.nox (yI 2 tD.nd ?_))
   (zD (PS.nox (yI 3 tD.nd ?_))
   (zD (zY (zAe (sG (zV hr) (pv 2) (zP (zV hr) (pv 0) zK (λ_ _=>rfl))) (by with_unfolding_all rfl)) (zF (xH (λ_=>E) CB.e_NoRun am (by decide) am xJ (zB (wU (wX (zDb (pv 2) sU))) zI))) zN)
   (zD (yA (yG (λ_=>E) yAz zS (hr.mono (by decide)) rfl (zB (pv 3) zI)))
   (zF (PS.nox (zM ?_))))))),?_⟩
 nofun
 exists _,U,a,_,_,.int k,U,U,.inr (SqT.of ha),rfl;refine⟨_,U,a,_,_,.int x,U,U,.inr (SqT.of ha),U,_,U,a,_,_,.int y,U,U,.inr (SqT.of ha),U,sz2,λp hp=>?_⟩;have s1:=zC hp (.tup [.int x,.int y]);have st1:=st.to (.of s1);obtain⟨rvs,hr1,kr⟩:=st1.ru;exists _,U,_,U,d,.ref r,U,.inl ⟨_,.inr "runs",st1.at_,U,rF.symm⟩,r,_,U,.inl ⟨rvs,.inl k,hr1,U,U⟩,_,rfl;cases ev:wL rvs (.inl k) with
 | none=>exact yY ⟨_,rfl,.inl ⟨k,rfl,cY (show k.natAbs.log2<200 from tk) (by decide)⟩,λy _=>⟨by show 1<=sizeLine; decide,bad .noRun (by simp only[zT,if_neg ((zSa kr).mp ev)]) _ (.of s1)⟩⟩
 | some v =>
  have ok:0<=k/\k<S.runs.length:=ao.mp λz=>by rw[(zSa kr).mpr z] at ev; cases ev
  refine yB ?_;obtain⟨i,rfl⟩:=cj ok.1;have hi:i<S.runs.length:=by lia
  refine⟨_,U,p,x,y,U,zA,tx,ty,.of (λk3 H3 s3=>?_) (λno H3 s3=>bad .badRun (by simp only[zT,if_pos ok,if_neg no]) _ (.of (s1.trans s3)))⟩;have st3:=st1.to (.of s3);have hr3:=Rd.same hr1 s3;refine⟨_,U,_,U,_,U,d,r, "runs",.inl (i:Int),.ref p,_,rvs,U,st3.at_,rF,hr3,StA.stKlen,kr.le (by rw[zB8]; have:=wl.good.few.ru; lia),λf c H4 s4 hf _ ef ec=>?_⟩;have s14:=(s1.trans s3).trans s4;have st4:=st.to (.of s14);rw[zOb] at ef;refine q (by simp only[zT,if_pos ok,if_pos k3]) f H4 (.of s14) ((s1.trans s3).free hf) ⟨m,b,c,t,.inl ef,st4.ma,st4.ba,⟨_,.inl ec,?_⟩,st4.no⟩;show xO H4 _ (rnE (S.runs.set i (x,y)));rw[<- zXr hi];exact(kr.to (.of (s3.trans s4))).put (vO (p:=(x,y)) ((s3.trans s4) _ _ zA))
def sR(_:ae):Sp:=λvs H Q E=>∃(d:af)(v:V)(S:BS)(D:Deed),vs=[.ref d,v]/\zPb H d S/\Rep H D.dt v/\S.notes.length<=60/\zUm S /\
 (S.notes.length<24->∀(d':af)(H':Hp),Same H H'->H d'=none->zPb H' d' { S with notes:=S.notes++[(S.coming,D)],coming:=S.coming+1 }->Q (.ref d') H')/\(24<=S.notes.length->∀ H',Same H H'->E (.ref zA0) none H')
theorem zGm(F:Fun K "after_note" "after_note" vM f fd)(Z:Zs mg)(CB:Cb P w mg base)(yBm:Has P w K mg base "changed" 1 ["state","kind","key","value"] (xV K))(yAq:qI P w K mg base "check_room" 1 ["state","kind"] (xY K)):yQ P w K mg base (CX1 P w) 2 f fd ["state","row"] (sR K):=by
 refine F.okX zAz (λvs H Q E h=>?_) (λcdv A outer s H vs Q E hr h=>?_)
 ·obtain⟨d,v,S,D,rfl,_⟩:=h;rfl
 obtain⟨d,v,S,D,rfl,⟨m,b,r,t,st⟩,hv,l60,fr,q,bad⟩:=h;obtain⟨kvs,hm,kv⟩:=st.no;have ln:kvs.length=S.notes.length:=by rw[kv.length,zRt]
 refine⟨_,(zD (yA (yG (λ_=>E) yAq zS (hr.mono (by decide)) rfl (zB (pv 0) (zB zK zI))))
   (zD (PS.nox (qZ (i:=2) zAz.nd rfl (cP rfl) (uB yBm (hr.mono (by decide)) rfl (zB (pv 0) (zB zK (zB (zP (zV hr) (pv 0) zK (λ_ _=>rfl)) (zB (pv 1) zI)))))))
   (zD (PS.nox (rG (zV hr) (pv 2) zK (wH zBs (zP (zV hr) (pv 0) zK (λ_ _=>rfl)) yL) rfl))
   (zF (PS.nox (zM (pv 2))))))),?_⟩
 try dsimp only[L2.cxOf]
 refine⟨_,U,d,t, "notes",_,kvs,24,U,st.at_,qS,hm,(by kernel_rfl),(by decide),.of (λk1 H1 s1=>?_) (λno H1 s1=>bad (by lia) H1 s1)⟩;have st1:=st.to (.of s1);have hm1:=Rd.same hm s1;refine⟨_,U,_,U,d,.int S.coming,U,.inl ⟨_,.inr "coming",st1.at_,U,zG2.symm⟩,_,U,d,t, "notes",.inl S.coming,v,_,kvs,U,st1.at_,qS,hm1,StA.stKlen,by lia,λf c H2 s2 hf ne ef ec=>?_⟩;have s12:=s1.trans s2;have st2:=st.to (.of s12);rw[zMv] at ef;exists _,U,d,.int S.coming,U,.inl ⟨_,.inr "coming",st2.at_,U,zG2.symm⟩,_,_,U,U,_,U,f,_,U,zMb.k (k:=.inr "coming") ef (zW (aJ StA.stKlen (by decide))),_,rfl;rw[zQx];have hf0:=s1.free hf;have s3:Same H (upd H2 f (.dK (stK m b r c (S.coming+1)))):=s12.putNew hf0;have st3:=st.to (.of s3);refine q (by lia) f _ s3 hf0 ⟨m,b,r,c,.inl zA,st3.ma,st3.ba,st3.ru,⟨_,.inl (by rw[zH ne.symm]; exact ec),?_⟩⟩;rw[zNl,<- sZ (zJl fr)];exact(kv.to (.of s3)).put (hv.to (.of s3))
def uH(_:ae):Sp:=zGk axC λD=>∃ mo nm x1 y1 x2 y2,D=.bearing mo nm x1 y1 x2 y2
theorem zCy(F:Fun K "after_bearing" "after_bearing" wE f fd)(Z:Zs mg)(CB:Cb P w mg base)(yAp:qI P w K mg base "after_note" 2 ["state","row"] (sR K))(yCa:Has P w K mg base "turn" 1 ["one","other"] (zFz K))(yBf:qI P w K mg base "check_way" 2 ["direction"] (zBm K))(yAo:qI P w K mg base "check_mark" 1 ["state","name"] (xX K))(yAb:qI P w K mg base "check_moment" 1 ["moment","runs"] (uY K)):yQ P w K mg base (CX1 P w) 3 f fd ["state","row"] (uH K):=by
 refine F.okX zCh (λvs H Q E h=>?_) (λcdv A outer s H vs Q E hr h=>?_)
 ·obtain⟨d,v,S,D,rfl,_⟩:=h;rfl
 obtain⟨d,v,S,D,rfl,⟨mo,nm,x1,y1,x2,y2,rfl⟩,⟨m,b,r,t,st⟩,hv,tm,wl,q,bad⟩:=h;obtain⟨a,p,u,rfl,ha,hp,hu⟩:=xG hv;obtain⟨rvs,hr1,kr⟩:=st.ru;have shw:=zK4 tm;obtain⟨t1,an,tx1,ty1,tx2,ty2⟩:=tm
 refine'⟨_,(zD (yA (yG (λ_=>E) yAb zS (hr.mono (by decide)) rfl (zB ?_ (zB (zP (zV hr) (pv 0) zK (λ_ _=>rfl)) zI))))
   (zD (yA (yG (λ_=>E) yAo zS (hr.mono (by decide)) rfl ?_))
   (zD (yA (yG (λ_=>E) yBf zS (hr.mono (by decide)) rfl ?_))
   (zD (yA (yG (λ_=>E) yBf zS (hr.mono (by decide)) rfl ?_))
   (zD (zY ?_ (zF (xH (λ_=>E) CB.e_BadTurn am (by decide) am xJ (zB (wU (wX (zKt hr.gd hr.units (pv 1) sU))) zI))) zN)
   (zF (zM (yG (λ_=>E) yAp zS (hr.mono (by decide)) rfl (zB (pv 0) (zB (pv 1) zI)))))))))),?_⟩
 nofun
 by_cases k0:0<=mo/\mo<=S.runs.length
 rotate_left
 ·exact⟨_,U,a,_,_,.int mo,U,U,.inr (SqT.of ha),U,_,U,d,.ref r,U,.inl ⟨_,.inr "runs",st.at_,U,rF.symm⟩,r,mo,S.runs.length,U,.inr ⟨rvs,hr1,by rw[kr.length,zB8]⟩,.inr ⟨⟨by lia,cY (show mo.natAbs.log2<200 from t1) (by decide)⟩,bad .noMoment (by simp only[zT,if_pos k0]) H (.refl _)⟩⟩
 refine⟨_,U,a,_,_,.int mo,U,U,.inr (SqT.of ha),U,_,U,d,.ref r,U,.inl ⟨_,.inr "runs",st.at_,U,rF.symm⟩,r,mo,S.runs.length,U,.inr ⟨rvs,hr1,by rw[kr.length,zB8]⟩,.inl ⟨k0.1,k0.2,?_⟩⟩;refine⟨_,U,_,U,a,_,_,.str nm,U,U,.inr (SqT.of ha),U,d,m,b,r,t,S,nm,U,st,an,.of (λk3 H1 s1=>?_) (λno H1 s1=>bad .noMark (by
  have:zQ S nm=none:=by cases e:zQ S nm <;> simp[e] at no ⊢
  simp only[zT,if_neg (ao.mpr k0),if_pos this]) _ (.of s1))⟩
 have k3':¬ zQ S nm=none:=λz=>by rw[z] at k3; cases k3
 have ha1:=s1 _ _ ha;refine⟨_,U,a,_,_,.ref p,U,U,.inr (SqT.of ha1),U,p,x1,y1,U,s1 _ _ hp,tx1,ty1,.of (λk4 H2 s2=>?_) (λno H2 s2=>bad .badWay (by simp only[zT,if_neg (ao.mpr k0),if_neg k3',if_pos no]) _ (.of (s1.trans s2)))⟩;have s12:=s1.trans s2;have ha2:=s12 _ _ ha;refine⟨_,U,a,_,_,.ref u,U,U,.inr (SqT.of ha2),U,u,x2,y2,U,s12 _ _ hu,tx2,ty2,.of (λk5 H3 s3=>?_) (λno H3 s3=>bad .badWay (by simp only[zT,if_neg (ao.mpr k0),if_neg k3',if_neg (ao.mpr k4),if_pos no]) _ (.of (s12.trans s3)))⟩;have s23:=s12.trans s3;have ha3:=s23 _ _ ha;have b1:=k4.2.1;have b2:=k4.2.2.1;have b3:=k4.2.2.2.1;have b4:=k4.2.2.2.2;have n1:x1.natAbs<=10^18:=by simp at b1 b2; lia
 have n2:y1.natAbs<=10^18:=by simp at b3 b4; lia
 exists _,U,a,_,_,.ref p,U,U,.inr (SqT.of ha3),U,_,U,a,_,_,.ref u,U,U,.inr (SqT.of ha3),U,p,u,_,_,x1,y1,x2,y2,U,.inr (SqT.of (s23 _ _ hp)),.inr (SqT.of (s23 _ _ hu)),U,U,U,U,n1,n2,_,_,U,U,_,rfl;refine ifD (λz=>?_) (λk6=>?_)
 ·exact⟨_,U,⟨_,hv.to (.of s23),shw⟩,λy _=>⟨by show 1<=sizeLine; decide,bad .badTurn (by simp only[zT,if_neg (ao.mpr k0),if_neg k3',if_neg (ao.mpr k4),if_neg (ao.mpr k5),if_pos z]) _ (.of s23)⟩⟩
 refine⟨_,U,_,U,d,.ref a,S,.bearing mo nm x1 y1 x2 y2,U,⟨m,b,r,t,st.to (.of s23)⟩,hv.to (.of s23),wl.good.few.no,wl.good.fresh,λk7 d' H4 s4 hd' st4=>q (by simp only[zT,if_neg (ao.mpr k0),if_neg k3',if_neg (ao.mpr k4),if_neg (ao.mpr k5),if_neg k6,if_neg (show ¬ 24<=S.notes.length by lia)]) d' H4 (.of (s23.trans s4)) (s23.free hd') st4,
  λk7 H4 s4=>bad .full (by simp only[zT,if_neg (ao.mpr k0),if_neg k3',if_neg (ao.mpr k4),if_neg (ao.mpr k5),if_neg k6,if_pos k7]) _ (.of (s23.trans s4))⟩
def tE(_:ae):Sp:=zGk axC λD=>∃ mo l1 l2,D=.range mo l1 l2
theorem zEi(F:Fun K "after_range" "after_range" uN f fd)(Z:Zs mg)(CB:Cb P w mg base)(yAp:qI P w K mg base "after_note" 2 ["state","row"] (sR K))(yAk:qI P w K mg base "check_apart" 1 ["state","left","right"] (tH K))(yAo:qI P w K mg base "check_mark" 1 ["state","name"] (xX K))(yAb:qI P w K mg base "check_moment" 1 ["moment","runs"] (uY K)):yQ P w K mg base (CX1 P w) 3 f fd ["state","row"] (tE K):=by
 refine F.okX zEj (λvs H Q E h=>?_) (λcdv A outer s H vs Q E hr h=>?_)
 ·obtain⟨d,v,S,D,rfl,_⟩:=h;rfl
 obtain⟨d,v,S,D,rfl,⟨mo,l1,l2,rfl⟩,⟨m,b,r,t,st⟩,hv,tm,wl,q,bad⟩:=h;obtain⟨a,rfl,ha⟩:=wZ hv;obtain⟨rvs,hr1,kr⟩:=st.ru;obtain⟨t1,a1,a2⟩:=tm
 refine'⟨_,(zD (yA (yG (λ_=>E) yAb zS (hr.mono (by decide)) rfl (zB ?_ (zB (zP (zV hr) (pv 0) zK (λ_ _=>rfl)) zI))))
   (zD (yA (yG (λ_=>E) yAo zS (hr.mono (by decide)) rfl ?_))
   (zD (yA (yG (λ_=>E) yAo zS (hr.mono (by decide)) rfl ?_))
   (zD (yA (yG (λ_=>E) yAk zS (hr.mono (by decide)) rfl ?_))
   (zF (zM (yG (λ_=>E) yAp zS (hr.mono (by decide)) rfl (zB (pv 0) (zB (pv 1) zI))))))))),?_⟩
 nofun
 by_cases k0:0<=mo/\mo<=S.runs.length
 rotate_left
 ·exact⟨_,U,a,_,_,.int mo,U,U,.inr (SqT.of ha),U,_,U,d,.ref r,U,.inl ⟨_,.inr "runs",st.at_,U,rF.symm⟩,r,mo,S.runs.length,U,.inr ⟨rvs,hr1,by rw[kr.length,zB8]⟩,.inr ⟨⟨by lia,cY (show mo.natAbs.log2<200 from t1) (by decide)⟩,bad .noMoment (by simp only[zT,if_pos k0]) H (.refl _)⟩⟩
 refine⟨_,U,a,_,_,.int mo,U,U,.inr (SqT.of ha),U,_,U,d,.ref r,U,.inl ⟨_,.inr "runs",st.at_,U,rF.symm⟩,r,mo,S.runs.length,U,.inr ⟨rvs,hr1,by rw[kr.length,zB8]⟩,.inl ⟨k0.1,k0.2,?_⟩⟩;refine⟨_,U,_,U,a,_,_,.str l1,U,U,.inr (SqT.of ha),U,d,m,b,r,t,S,l1,U,st,a1,.of (λk3 H1 s1=>?_) (λno H1 s1=>bad .noMark (by
  have:zQ S l1=none:=by cases e:zQ S l1 <;> simp[e] at no ⊢
  simp only[zT,if_neg (ao.mpr k0),if_pos this]) _ (.of s1))⟩
 have k3':¬ zQ S l1=none:=λz=>by rw[z] at k3; cases k3
 have ha1:=s1 _ _ ha;refine⟨_,U,_,U,a,_,_,.str l2,U,U,.inr (SqT.of ha1),U,d,m,b,r,t,S,l2,U,st.to (.of s1),a2,.of (λk4 H2 s2=>?_) (λno H2 s2=>bad .noMark (by
  have:zQ S l2=none:=by cases e:zQ S l2 <;> simp[e] at no ⊢
  simp only[zT,if_neg (ao.mpr k0),if_neg k3',if_pos this]) _ (.of (s1.trans s2)))⟩
 have k4':¬ zQ S l2=none:=λz=>by rw[z] at k4; cases k4
 obtain⟨p1,e1⟩:=aL.mp k3;obtain⟨p2,e2⟩:=aL.mp k4;have s12:=s1.trans s2;have at2:Sq K H2 a _:=.inr (SqT.of (s12 _ _ ha));refine⟨_,U,_,U,a,_,_,.str l1,U,U,at2,U,_,U,a,_,_,.str l2,U,U,at2,U,d,m,b,r,t,S,l1,l2,p1,p2,U,st.to (.of s12),e1,e2,aJ a1.2 (by decide),aJ a2.2 (by decide),.of (λk5 H3 s3=>?_) (λno H3 s3=>bad .same (by
  have:zQ S l1=zQ S l2:=by rw[e1,e2,ao.mp no]
  simp only[zT,if_neg (ao.mpr k0),if_neg k3',if_neg k4',if_pos this]) _ (.of (s12.trans s3)))⟩
 have k5':¬ zQ S l1=zQ S l2:=λz=>k5 (by rw[e1,e2] at z; exact a7 z);have s23:=s12.trans s3;refine⟨_,U,_,U,d,.ref a,S,.range mo l1 l2,U,⟨m,b,r,t,st.to (.of s23)⟩,hv.to (.of s23),wl.good.few.no,wl.good.fresh,λk6 d' H4 s4 hd' st4=>q (by simp only[zT,if_neg (ao.mpr k0),if_neg k3',if_neg k4',if_neg k5',if_neg (show ¬ 24<=S.notes.length by lia)]) d' H4 (.of (s23.trans s4)) (s23.free hd') st4,
  λk6 H4 s4=>bad .full (by simp only[zT,if_neg (ao.mpr k0),if_neg k3',if_neg k4',if_neg k5',if_pos k6]) _ (.of (s23.trans s4))⟩
def uZ(_:ae):Sp:=zGk axC λD=>∃ k,D=.strike k
theorem zDq(F:Fun K "after_strike" "after_strike" wO f fd)(Z:Zs mg)(CB:Cb P w mg base)(yBl:Has P w K mg base "without" 1 ["state","kind","key"] (rC K)):yQ P w K mg base (CX1 P w) 2 f fd ["state","row"] (uZ K):=by
 refine F.okX rW (λvs H Q E h=>?_) (λcdv A outer s H vs Q E hr h=>?_)
 ·obtain⟨d,v,S,D,rfl,_⟩:=h;rfl
 obtain⟨d,v,S,D,rfl,⟨k,rfl⟩,⟨m,b,r,t,st⟩,hv,tm,wl,q,bad⟩:=h;obtain⟨a,rfl,ha⟩:=sJ hv;obtain⟨nk,hn,kn⟩:=st.no
 refine'⟨_,(zD (PS.nox (yI 2 rW.nd ?_))
   (zD (zY (zAe (sG (zV hr) (pv 2) (zP (zV hr) (pv 0) zK (λ_ _=>rfl))) (by with_unfolding_all rfl)) (zF (xH (λ_=>E) CB.e_NoNote am (by decide) am xJ (zB (wU (wX (zDb (pv 2) (wX sU)))) zI))) zN)
   (zF (PS.nox (zM ?_))))),?_⟩
 nofun
 exists _,U,a,_,_,.int k,U,U,.inr (SqT.of ha),U,_,U,_,U,d,.ref t,U,.inl ⟨_,.inr "notes",st.at_,U,qS.symm⟩,t,_,U,.inl ⟨nk,.inl k,hn,U,U⟩,_,rfl;cases ev:wL nk (.inl k) with
 | none=>exact yY ⟨_,rfl,.inl ⟨k,rfl,cY (show k.natAbs.log2<200 from tm) (by decide)⟩,λy _=>⟨by show 1<=sizeLine; decide,bad .noNote (by simp only[zT,if_neg ((zN5 kn).mp ev)]) H (.refl _)⟩⟩
 | some v =>
  have ok:k∈S.notes.map (·.1):=ao.mp λz=>by rw[(zN5 kn).mpr z] at ev; cases ev
  refine yB ?_;refine⟨_,U,_,U,d,t, "notes",.inl k,v,_,nk,U,st.at_,qS,hn,ev,StA.stKlen,λf c H2 s2 hf ne ef ec=>?_⟩;have st2:=st.to (.of s2);rw[zMv] at ef;refine q (by simp only[zT,if_pos ok]) f H2 (.of s2) hf ⟨m,b,r,c,.inl ef,st2.ma,st2.ba,st2.ru,⟨_,.inl ec,?_⟩⟩;have:=(kn.to (.of s2)).drop (k:=.inl k);rw[zN7] at this;exact this
def inTab(_:Deed):Prop:=True
def zIm(_:ae):Sp:=zGk axC inTab
def tabL:List (Key×Sp):=[(.inr "mark",sM []),(.inr "move",sF []),(.inr "unmark",uV []),(.inr "bank",tW []),(.inr "level",vX []),(.inr "sail",tX []),(.inr "right",tG []),(.inr "bearing",uH []),(.inr "range",tE []),(.inr "strike",uZ [])]
theorem zQc(F:Fun K "after" "after" zCi f fd)(Z:Zs mg)(CB:Cb P w mg base)(yAs:qI P w K mg base "after_mark" 3 ["state","row"] (sM K))(yAw:qI P w K mg base "after_move" 3 ["state","row"] (sF K))(yAf:qI P w K mg base "after_unmark" 2 ["state","row"] (uV K))(yAt:qI P w K mg base "after_bank" 4 ["state","row"] (tW K))(yAj:qI P w K mg base "after_level" 2 ["state","row"] (vX K))(yAy:qI P w K mg base "after_sail" 3 ["state","row"] (tX K))(yAi:qI P w K mg base "after_right" 3 ["state","row"] (tG K))(yAa:qI P w K mg base "after_bearing" 3 ["state","row"] (uH K))(yAl:qI P w K mg base "after_range" 3 ["state","row"] (tE K))(yAe:qI P w K mg base "after_strike" 2 ["state","row"] (uZ K)):yQ P w K mg base (CX1 P w) 5 f fd ["state","row"] (zIm K):=by
 refine F.okX zQo (λvs H Q E h=>?_) (λcdv A outer s H vs Q E hr h=>?_)
 ·obtain⟨d,v,S,D,rfl,_⟩:=h;rfl
 obtain⟨d,v,S,D,rfl,kd,st,hv,tm,wl,q,bad⟩:=h;have tabs:∀ r∈tabL,zW9 P w K mg base 4 zWm r.1 r.2:=by
  intro r hr;simp only[tabL,aD,bI,or_false] at hr;rcases hr with rfl | rfl | rfl | rfl | rfl | rfl | rfl | rfl | rfl | rfl
  ·exact⟨"after_mark",_,_,_,by kernel_rfl,CB.t_mark,yAs,by decide⟩
  ·exact⟨"after_move",_,_,_,by kernel_rfl,CB.t_move,yAw,by decide⟩
  ·exact⟨"after_unmark",_,_,_,by kernel_rfl,CB.t_unmark,yAf,by decide⟩
  ·exact⟨"after_bank",_,_,_,by kernel_rfl,CB.t_bank,yAt,by decide⟩
  ·exact⟨"after_level",_,_,_,by kernel_rfl,CB.t_level,yAj,by decide⟩
  ·exact⟨"after_sail",_,_,_,by kernel_rfl,CB.t_sail,yAy,by decide⟩
  ·exact⟨"after_right",_,_,_,by kernel_rfl,CB.t_right,yAi,by decide⟩
  ·exact⟨"after_bearing",_,_,_,by kernel_rfl,CB.t_bearing,yAa,by decide⟩
  ·exact⟨"after_range",_,_,_,by kernel_rfl,CB.t_range,yAl,by decide⟩
  ·exact⟨"after_strike",_,_,_,by kernel_rfl,CB.t_strike,yAe,by decide⟩
 refine'⟨_,(zF (zM (zX3 (λ_=>E) CB.dAFTER CB.gAFTER tabs zS (hr.mono (by decide)) ?_ (zB (pv 0) (zB (pv 1) zI))))),?_⟩
 nofun
 cases D with
 | mark n x y =>
  obtain⟨a,rfl,ha⟩:=zB6 hv;exact⟨_,U,a,_,_,.str "mark",U,U,.inr (SqT.of ha),U,.inr "mark",_,U,.head _,_,U,_,U,d,.ref a,S,_,U,⟨_,_,_,U⟩,st,hv,tm,wl,q,bad⟩
 | move n x y =>
  obtain⟨a,rfl,ha⟩:=zCa hv;exact⟨_,U,a,_,_,.str "move",U,U,.inr (SqT.of ha),U,.inr "move",_,U,.tail _ (.head _),_,U,_,U,d,.ref a,S,_,U,⟨_,_,_,U⟩,st,hv,tm,wl,q,bad⟩
 | unmark n =>
  obtain⟨a,rfl,ha⟩:=sQ hv;exact⟨_,U,a,_,_,.str "unmark",U,U,.inr (SqT.of ha),U,.inr "unmark",_,U,.tail _ (.tail _ (.head _)),_,U,_,U,d,.ref a,S,_,U,⟨_,U⟩,st,hv,tm,wl,q,bad⟩
 | bank n cs =>
  obtain⟨a,_,_,rfl,ha,_⟩:=zAw hv;exact⟨_,U,a,_,_,.str "bank",U,U,.inr (SqT.of ha),U,.inr "bank",_,U,.tail _ (.tail _ (.tail _ (.head _))),_,U,_,U,d,.ref a,S,_,U,⟨_,_,U⟩,st,hv,tm,wl,q,bad⟩
 | level n =>
  obtain⟨a,rfl,ha⟩:=qA hv;exact⟨_,U,a,_,_,.str "level",U,U,.inr (SqT.of ha),U,.inr "level",_,U,.tail _ (.tail _ (.tail _ (.tail _ (.head _)))),_,U,_,U,d,.ref a,S,_,U,⟨_,U⟩,st,hv,tm,wl,q,bad⟩
 | sail x y =>
  obtain⟨a,rfl,ha⟩:=zB0 hv;exact⟨_,U,a,_,_,.str "sail",U,U,.inr (SqT.of ha),U,.inr "sail",_,U,.tail _ (.tail _ (.tail _ (.tail _ (.tail _ (.head _))))),_,U,_,U,d,.ref a,S,_,U,⟨_,_,U⟩,st,hv,tm,wl,q,bad⟩
 | right k x y =>
  obtain⟨a,rfl,ha⟩:=qH hv;exact⟨_,U,a,_,_,.str "right",U,U,.inr (SqT.of ha),U,.inr "right",_,U,.tail _ (.tail _ (.tail _ (.tail _ (.tail _ (.tail _ (.head _)))))),_,U,_,U,d,.ref a,S,_,U,⟨_,_,_,U⟩,st,hv,tm,wl,q,bad⟩
 | bearing m n x y z t =>
  obtain⟨a,p,u,rfl,ha,_⟩:=xG hv;exact⟨_,U,a,_,_,.str "bearing",U,U,.inr (SqT.of ha),U,.inr "bearing",_,U,.tail _ (.tail _ (.tail _ (.tail _ (.tail _ (.tail _ (.tail _ (.head _))))))),_,U,_,U,d,.ref a,S,_,U,⟨_,_,_,_,_,_,U⟩,st,hv,tm,wl,q,bad⟩
 | range m n k =>
  obtain⟨a,rfl,ha⟩:=wZ hv;exact⟨_,U,a,_,_,.str "range",U,U,.inr (SqT.of ha),U,.inr "range",_,U,.tail _ (.tail _ (.tail _ (.tail _ (.tail _ (.tail _ (.tail _ (.tail _ (.head _)))))))),_,U,_,U,d,.ref a,S,_,U,⟨_,_,_,U⟩,st,hv,tm,wl,q,bad⟩
 | strike k =>
  obtain⟨a,rfl,ha⟩:=sJ hv;exact⟨_,U,a,_,_,.str "strike",U,U,.inr (SqT.of ha),U,.inr "strike",_,U,.tail _ (.tail _ (.tail _ (.tail _ (.tail _ (.tail _ (.tail _ (.tail _ (.tail _ (.head _))))))))),_,U,_,U,d,.ref a,S,_,U,⟨_,U⟩,st,hv,tm,wl,q,bad⟩
def zA3(_:ae)(x:af):Sp:=λvs H Q _=>∃ c:Cl,vs=[.ref x]/\H x=some (zUf x (.ref (axC c)))/\∀ H',Same H H'->Q (.str (zHd c)) H'
theorem zKo(F:Fun K "_law_refused" "_law_refused" qP f fd)(Z:Zs mg)(CB:Cb P w mg base)  : zVt P w K mg base 1 f fd ["_law_e"] (zA3 K):=by
 refine F.okH xC (λx vs H Q E h=>?_) (λx cdv A outer s H vs Q hx hr h=>?_)
 ·obtain⟨c,rfl,_⟩:=h;rfl
 obtain⟨c,rfl,ex,q⟩:=h;have mD:axC c∈excL:=by cases c <;> decide
 refine⟨_,(zD (qZ (i:=1) xC.nd rfl (cP rfl) (tI (zB (yX (zB zK (zB (zR (yH (B:=base) rfl) rfl Z.isinstance zX (zB (pv 0) (zB (vS CB.gBadName) zI))) zI))) (zB (yX (zB zK (zB (zR (yH (B:=base) rfl) rfl Z.isinstance zX (zB (pv 0) (zB (vS CB.gTaken) zI))) zI))) (zB (yX (zB zK (zB (zR (yH (B:=base) rfl) rfl Z.isinstance zX (zB (pv 0) (zB (vS CB.gBadPlace) zI))) zI))) zI)))))
   (zD (qZ (i:=1) xC.nd rfl (cP rfl) (wH zFm (pv 1) (tI (zB (yX (zB zK (zB (zR (yH (B:=base) rfl) rfl Z.isinstance zX (zB (pv 0) (zB (vS CB.gFull) zI))) zI))) (zB (yX (zB zK (zB (zR (yH (B:=base) rfl) rfl Z.isinstance zX (zB (pv 0) (zB (vS CB.gNoMark) zI))) zI))) (zB (yX (zB zK (zB (zR (yH (B:=base) rfl) rfl Z.isinstance zX (zB (pv 0) (zB (vS CB.gSame) zI))) zI))) zI))))))
   (zD (qZ (i:=1) xC.nd rfl (cP rfl) (wH zFm (pv 1) (tI (zB (yX (zB zK (zB (zR (yH (B:=base) rfl) rfl Z.isinstance zX (zB (pv 0) (zB (vS CB.gNeeded) zI))) zI))) (zB (yX (zB zK (zB (zR (yH (B:=base) rfl) rfl Z.isinstance zX (zB (pv 0) (zB (vS CB.gBadBank) zI))) zI))) zI)))))
   (zD (qZ (i:=1) xC.nd rfl (cP rfl) (wH zFm (pv 1) (tI (zB (yX (zB zK (zB (zR (yH (B:=base) rfl) rfl Z.isinstance zX (zB (pv 0) (zB (vS CB.gNoBank) zI))) zI))) (zB (yX (zB zK (zB (zR (yH (B:=base) rfl) rfl Z.isinstance zX (zB (pv 0) (zB (vS CB.gBadRun) zI))) zI))) (zB (yX (zB zK (zB (zR (yH (B:=base) rfl) rfl Z.isinstance zX (zB (pv 0) (zB (vS CB.gNoRun) zI))) zI))) zI))))))
   (zD (qZ (i:=1) xC.nd rfl (cP rfl) (wH zFm (pv 1) (tI (zB (yX (zB zK (zB (zR (yH (B:=base) rfl) rfl Z.isinstance zX (zB (pv 0) (zB (vS CB.gNoMoment) zI))) zI))) (zB (yX (zB zK (zB (zR (yH (B:=base) rfl) rfl Z.isinstance zX (zB (pv 0) (zB (vS CB.gBadWay) zI))) zI))) zI)))))
   (zD (qZ (i:=1) xC.nd rfl (cP rfl) (wH zFm (pv 1) (tI (zB (yX (zB zK (zB (zR (yH (B:=base) rfl) rfl Z.isinstance zX (zB (pv 0) (zB (vS CB.gBadTurn) zI))) zI))) (zB (yX (zB zK (zB (zR (yH (B:=base) rfl) rfl Z.isinstance zX (zB (pv 0) (zB (vS CB.gNoNote) zI))) zI))) zI)))))
   (zD (qZ (i:=1) xC.nd rfl (cP rfl) (wH zFm (pv 1) (tI (zB (yX (zB zK (zB (zR (yH (B:=base) rfl) rfl Z.isinstance zX (zB (pv 0) (zB (vS CB.gNothingLeft) zI))) zI))) (zB (yX (zB zK (zB (zR (yH (B:=base) rfl) rfl Z.isinstance zX (zB (pv 0) (zB (vS CB.gBadRow) zI))) zI))) zI)))))
   (zD (qZ (i:=1) xC.nd rfl (cP rfl) (wH zFm (pv 1) (tI (zB (yX (zB zK (zB (zWr (zR (yH (B:=base) rfl) rfl Z.isinstance zX (zB (pv 0) (zB (zB3 (v:=.ty "ValueError") rfl Z.ValueError zJs rfl) zI)))) zI))) zI))))
   (zF (zM (zX9 iu iQ iR zT2 zK (zB (zUz (T:=["_law_word_here","_law_is_so"]) (caps:=[]) ⟨rfl,by decide +kernel,by decide +kernel,rfl,bv⟩ hx (zWa x (pv 1)) (λ_=>(zYa hx (xS (qK (i:=0) (show(["_law_word_here","_law_is_so"]:List aA).Nodup by decide +kernel) rfl (cP rfl)) (xS (qK (i:=1) (show(["_law_word_here","_law_is_so"]:List aA).Nodup by decide +kernel) rfl (cP rfl)) zBw)))) (λ_=>(zUl (zBl (pv 1)))) (λ_=>(pv 0))) zI)))))))))))),?_⟩
 try dsimp only[L2.cxOf]
 refine MkA.seqL (H:=H) (.cons (.of rfl λG Q s k=>⟨x,axC c,_,_,_,rfl,.inr ⟨_,rfl,rfl⟩,s _ _ ex,xU CB.isx mD (by decide),k⟩) (.cons (.of rfl λG Q s k=>⟨x,axC c,_,_,_,rfl,.inr ⟨_,rfl,rfl⟩,s _ _ ex,xU CB.isx mD (by decide),k⟩) (.cons (.of rfl λG Q s k=>⟨x,axC c,_,_,_,rfl,.inr ⟨_,rfl,rfl⟩,s _ _ ex,xU CB.isx mD (by decide),k⟩) .nil))) (az rfl) (Same.refl _) λso ts G S Lt R=>?_;refine MkA.seqC (H:=H) (.cons (.of rfl λG Q s k=>⟨x,axC c,_,_,_,rfl,.inr ⟨_,rfl,rfl⟩,s _ _ ex,xU CB.isx mD (by decide),k⟩) (.cons (.of rfl λG Q s k=>⟨x,axC c,_,_,_,rfl,.inr ⟨_,rfl,rfl⟩,s _ _ ex,xU CB.isx mD (by decide),k⟩) (.cons (.of rfl λG Q s k=>⟨x,axC c,_,_,_,rfl,.inr ⟨_,rfl,rfl⟩,s _ _ ex,xU CB.isx mD (by decide),k⟩) .nil))) (az rfl) S rfl Lt R (az rfl) λso ts G S Lt R=>?_;refine MkA.seqC (H:=H) (.cons (.of rfl λG Q s k=>⟨x,axC c,_,_,_,rfl,.inr ⟨_,rfl,rfl⟩,s _ _ ex,xU CB.isx mD (by decide),k⟩) (.cons (.of rfl λG Q s k=>⟨x,axC c,_,_,_,rfl,.inr ⟨_,rfl,rfl⟩,s _ _ ex,xU CB.isx mD (by decide),k⟩) .nil)) (az rfl) S rfl Lt R (az rfl) λso ts G S Lt R=>?_;refine MkA.seqC (H:=H) (.cons (.of rfl λG Q s k=>⟨x,axC c,_,_,_,rfl,.inr ⟨_,rfl,rfl⟩,s _ _ ex,xU CB.isx mD (by decide),k⟩) (.cons (.of rfl λG Q s k=>⟨x,axC c,_,_,_,rfl,.inr ⟨_,rfl,rfl⟩,s _ _ ex,xU CB.isx mD (by decide),k⟩) (.cons (.of rfl λG Q s k=>⟨x,axC c,_,_,_,rfl,.inr ⟨_,rfl,rfl⟩,s _ _ ex,xU CB.isx mD (by decide),k⟩) .nil))) (az rfl) S rfl Lt R (az rfl) λso ts G S Lt R=>?_;refine MkA.seqC (H:=H) (.cons (.of rfl λG Q s k=>⟨x,axC c,_,_,_,rfl,.inr ⟨_,rfl,rfl⟩,s _ _ ex,xU CB.isx mD (by decide),k⟩) (.cons (.of rfl λG Q s k=>⟨x,axC c,_,_,_,rfl,.inr ⟨_,rfl,rfl⟩,s _ _ ex,xU CB.isx mD (by decide),k⟩) .nil)) (az rfl) S rfl Lt R (az rfl) λso ts G S Lt R=>?_;refine MkA.seqC (H:=H) (.cons (.of rfl λG Q s k=>⟨x,axC c,_,_,_,rfl,.inr ⟨_,rfl,rfl⟩,s _ _ ex,xU CB.isx mD (by decide),k⟩) (.cons (.of rfl λG Q s k=>⟨x,axC c,_,_,_,rfl,.inr ⟨_,rfl,rfl⟩,s _ _ ex,xU CB.isx mD (by decide),k⟩) .nil)) (az rfl) S rfl Lt R (az rfl) λso ts G S Lt R=>?_;refine MkA.seqC (H:=H) (.cons (.of rfl λG Q s k=>⟨x,axC c,_,_,_,rfl,.inr ⟨_,rfl,rfl⟩,s _ _ ex,xU CB.isx mD (by decide),k⟩) (.cons (.of rfl λG Q s k=>⟨x,axC c,_,_,_,rfl,.inr ⟨_,rfl,rfl⟩,s _ _ ex,xU CB.isx mD (by decide),k⟩) .nil)) (az rfl) S rfl Lt R (az rfl) λso ts G S Lt R=>?_;refine MkA.seqC (H:=H) (.cons (x := "none") (b:=false) (λG K s k=>⟨_,rfl,x,axC c,.ty "ValueError",.type "ValueError",true,rfl,.inl ⟨_,rfl,rfl⟩,s _ _ ex,zZr CB.isx mD,_,rfl,sz2,k⟩) .nil) (az rfl) S rfl Lt R (az rfl) λso ts G S Lt R=>?_;have lt:ts.length<=100:=by rw[R.len]; show 18<=100; decide
 have exG:=S _ _ ex;obtain⟨ws,ews⟩:∃ ws,ws=([(aO "BadName",axC c == wW),(aO "Taken",axC c == qU),(aO "BadPlace",axC c == wS),(aO "Full",axC c == zA0),(aO "NoMark",axC c == sV),(aO "Same",axC c == zB9),(aO "Needed",axC c == sN),(aO "BadBank",axC c == tV),(aO "NoBank",axC c == rQ),(aO "BadRun",axC c == tY),(aO "NoRun",axC c == zBe),(aO "NoMoment",axC c == wA),(aO "BadWay",axC c == vW),(aO "BadTurn",axC c == tU),(aO "NoNote",axC c == rM),(aO "NothingLeft",axC c == rJ),(aO "BadRow",axC c == zGu),(aO "none",false)]:List (aA×Bool)):=⟨_,rfl⟩
 replace R:zHa G ts ws:=by rw[ews]; exact R
 have wd:fv (aO " ") ((ws.filter (·.2)).map (·.1))=zHd c:=by rw[ews]; clear ews R; cases c <;> kernel_rfl
 have l100:zDk (aO " ") ((ws.filter (·.2)).map (·.1))<=1000:=by rw[ews]; clear ews R wd; cases c <;> decide +kernel
 clear ews;refine⟨U,_,U,so,U,⟨_,SqL.of Lt⟩,λcc D hD=>zQf (K:=K) (a:=so) (x:=x) (xs:=ts.map V.ref) (λi σ ys H'=>Same G H'/\H' D=some (.lst ys)/\ys=((ws.take i).filter (·.2)).map (λw=>V.str w.1)/\i<=ts.length/\∃ u v:Option V,σ=[u,v])
  ⟨zC hD _,zA,rfl,br _,none,none,rfl⟩ (λi σ ys H' _ hP=>⟨SqL.of (hP.1 _ _ Lt),hP.2.1,⟨_,hP.1 _ _ exG⟩⟩) ?_ ?_⟩
 ·rintro i v σ ys H' gv ⟨sH,eD,rfl,hi,u1,u2,rfl⟩;rw[av,aH] at gv;obtain⟨t,gt,rfl⟩:=gv;have hit:=(aM.mp gt).1;obtain⟨w,gw⟩:∃ w,ws[i]?=some w:=⟨_,aj (by rw[<- R.len]; exact hit)⟩;have et:=sH _ _ (R.at_ i t w gt gw);exists ⟨_,sH _ _ exG⟩,t,_,U,SqT.of et,U,.str w.1,_,U,.bl w.2,_,U,U,_,U,w.2,rfl;rw[bL,gw];cases hw:w.2 with
  | false=>exact yB ⟨sH,eD,by rw[jB]; simp[hw],hit,_,_,rfl⟩
  | true =>
   refine yY ⟨_,rfl,eD,zW ?_,sH.putNew hD,zA,by rw[jB,aG]; simp[hw],hit,_,_,rfl⟩;rw[ac];refine aJ (dE _ _) ?_;rw[cV];lia
 ·rintro σ ys H' ⟨sH,eD,rfl,_,u1,u2,rfl⟩;rw[ac,R.len,bU] at eD;have e1:(ws.filter (·.2)).map (λw=>V.str w.1)=((ws.filter (·.2)).map (·.1)).map V.str:=by rw[bp]; rfl
  rw[e1] at eD;refine⟨aO " ",D,_,U,U,SqL.of eD,by show _<=2^24; lia,?_⟩;rw[wd];exact q H' (S.trans sH)
def zH6(_:ae):Sp:=λvs H Q _=>∃(n:Int),vs=[.int n]/\∀ v:Int,0<=v->v<1000003->Q (.int v) H
theorem zQg(F:Fun K "_law_power" "_law_power" zCf f fd)(Z:Zs mg):yQ P w K mg base CX0 1 f fd ["_law_number"] (zH6 K):=by
 specialize zP4
 ·obtain⟨n,rfl,_⟩:=h;rfl
 obtain⟨n,rfl,q⟩:=h
 refine'⟨_,(zF (zM ?_)),?_⟩
 nofun
 have h1:=bq n (show(1000003:Int)≠0 by decide);have h2:=aX n (show(0:Int)<1000003 by decide);exists _,U,_,_,U,U,(by show(0:Int)<1000003; decide),_,_,rfl,rfl,⟨by decide,by decide,by lia⟩,_,_,rfl,rfl,(by show(0:Int)<1000003; decide);exact q _ (bq _ (by decide)) (aX _ (by decide))
def zH7(K:ae):Sp:=λvs H Q _=>∃(a:af)(ns:List Int)(many:Int),vs=[.ref a,.int many]/\SqL K H a (ns.map V.int)/\ns.length<=63/\0<=many/\many<=500 /\
 ∀(r:af)(rows:List Int)(H':Hp),Same H H'->H r=none->H' r=some (.lst (rows.map V.int))->many<=rows.length->rows.length<=600->(∀ x∈rows,0<=x/\x<1000003)->Q (.ref r) H'
structure zFt(H:Hp)(r c:af)(ms:List Int)(H':Hp)(rows:List Int):Prop where
 same:Same H H'
 src:H' c=some (.lst (ms.map V.int))
 at':H' r=some (.lst (rows.map V.int))
 bd:∀ x∈rows,0<=x/\x<1000003
theorem zFt.app{H H':Hp}{r c:af}{ms rows:List Int}{v:Int}(d:zFt H r c ms H' rows)(hr:H r=none)(hrc:c≠r)(h0:0<=v)(h1:v<1000003):zFt H r c ms (upd H' r (.lst (rows.map V.int++[.int v]))) (rows++[v]):=by
 refine⟨λb o e=>?_,?_,?_,λx hx=>?_⟩
 ·rw[zH (zJ e hr)];exact d.same b o e
 ·rw[zH hrc];exact d.src
 ·rw[zA,aG];rfl
 ·rcases aS.mp hx with e | e
  ·exact d.bd x e
  ·rw[au] at e;rw[e];exact⟨h0,h1⟩
theorem cutR{ok:Int->Hp->Prop}{G:Prop}{R:Int->Hp->Prop}(h1:(∀ m H,ok m H->R m H)->G)(h2:∀ m H,ok m H->R m H):G:=h1 h2
theorem zQw(F:Fun K "_law_draws" "_law_draws" zCo f fd)(Z:Zs mg)(CB:Cb P w mg base)(yBs:Has P w K mg base "_law_power" 1 ["_law_number"] (zH6 K)):yQ P w K mg base CX0 2 f fd ["_law_script","_law_many"] (zH7 K):=by
 specialize wD
 ·obtain⟨a,ns,many,rfl,_⟩:=h;rfl
 obtain⟨a,ns,many,rfl,hS,hl,hm0,hm1,q⟩:=h
 refine'⟨_,(zD (yI 2 wD.nd ?_)
   (zD (yI 3 wD.nd yL)
   (zD (zAa cw rfl (zYb ?_) (zD4 4 wD.nd) (zD (yI 3 wD.nd ?_)
   (zD (yI 5 wD.nd ?_)
   (zD (zY ?_ (zD (yA (zNm (pv 2) ?_))
   (zF (yI 5 wD.nd yL))) zN)
   (zF (zPj cw ?_ (zD (yA (zNm (pv 2) ?_))
   (zF (yI 5 wD.nd ?_)))))))))
   (zD (zPj cw ?_ (zD (yI 3 wD.nd ?_)
   (zF (yA (zNm (pv 2) ?_)))))
   (zF (zM (pv 2))))))),?_⟩
 nofun
 refine⟨sz0,λr hr0=>?_⟩;have S1:=zC hr0 (.lst []);refine⟨_,U,_,U,a,_,U,S1.seq hS,λc hc=>⟨c,U,⟨_,SqL.of zA⟩,?_⟩⟩;rw[zCc];generalize hms:((ns.drop (HT.sIx ns.length 0 none)).take (HT.sIx ns.length ns.length (some 63)-HT.sIx ns.length 0 none))=ms;have hml:ms.length<=63:=by
  rw[<- hms,cV,b9];lia
 have hcr:c≠r:=λe=>by
  rw[e,zA] at hc;cases hc
 have hc0:H c=none:=S1.free hc;refine zVh (K:=K) (a:=c) (xs:=ms.map V.int) (λi σ H'=>∃(rows:List Int)(mix:Int)(u v:Option V),σ=[some (.ref a),some (.int many),some (.ref r),some (.int mix),u,v]/\zFt H r c ms H' rows/\0<=mix/\mix<2147483647/\rows.length<=many.toNat+i)
  ⟨[],7,none,none,rfl,⟨S1.trans (zC hc _),zA,by rw[zH (cm hcr),zA]; rfl,λx hx=>nomatch hx⟩,by decide,by decide,br _⟩ (λi σ H' _ ⟨_,_,_,_,_,d,_⟩=>SqL.of d.src) ?_ ?_
 ·rintro i x σ H' hi ⟨rows,mix,u,v,rfl,d,hx0,hx1,hrl⟩;obtain⟨n,hn,rfl⟩:=zDh hi;have hi63:i<63:=aR (aM.mp hn).1 hml;exists _,U,_,_,U,U,.inr ⟨by decide,by decide⟩,_,U,_,_,U,U,_,_,U,U,(by show(0:Int)<2147483647; decide);have m0:=bq (mix*48271+n) (show(2147483647:Int)≠0 by decide);have m1:=aX (mix*48271+n) (show(0:Int)<2147483647 by decide);exists _,U,n,rfl;have a0:0<=(if n<0 then -n else n):=by split <;> lia
  generalize (if n<0 then -n else n)=rest at a0 ⊢;revert H' rest;apply cutR (ok:=λrest H2=>0<=rest/\∃ rows,zFt H r c ms H2 rows/\rows.length<=many.toNat+(i+1))
  ·intro main H' d rest a0;exists _,U,_,_,U,U,⟨by decide,by decide,by decide⟩,_,_,U,U,_,rfl;refine ifD (λhsm=>?_) (λhsm=>?_);rotate_left
   ·exact main rest H' ⟨a0,rows,d,by lia⟩
   ·refine⟨_,U,.inl ⟨U,_,SqL.of d.at'⟩,_,U,_,U,r,_,U,.inl (SqL.of d.at'),_,_,U,U,.inl ⟨by decide,by decide⟩,_,_,U,U,_,U,λv v0 v1=>?_⟩;exists r,_,_,U,U,d.at',zW (by rw[ac]; lia);exact main 0 _ ⟨Int.le_refl 0,_,d.app hr0 hcr v0 v1,by rw[aF,dD]; lia⟩
  clear hrl rows;rintro rest H' ⟨j0,rows,j1,j2⟩;refine zOn (λσ H2=>∃(rows:List Int)(rest:Int),σ=[some (.ref a),some (.int many),some (.ref r),some (.int ((mix*48271+n)%2147483647)),some (.int n),some (.int rest)]/\0<=rest/\zFt H r c ms H2 rows/\rows.length<=many.toNat+(i+1))
   (λσ _=>match σ with | [_,_,_,_,_,some (.int z)]=>z.toNat | _=>0) ⟨_,_,rfl,j0,j1,j2⟩ ?_ (ya5 (zM9 (zZc zXs zKq mo_c)) (zM9 (zZc zXs (yf6 zXi (zQ9 zKq zWs)) zKq)))
  rintro σ H2 ⟨rows,rest,rfl,r0,d2,l2⟩;exists _,U,_,_,U,U,_,rfl;refine ifD (λhpos=>?_) (λhpos=>?_)
  ·exists _,U,r,_,U,.inl (SqL.of d2.at'),_,U,_,_,U,U,_,rfl;refine ifD (λhlt=>?_) (λhlt=>?_)
   ·have hlt':((rows.map V.int).length:Int)<many:=hlt;rw[ac] at hlt';exists _,U,.inl ⟨U,_,SqL.of d2.at'⟩,_,U,_,_,U,U,(by show(0:Int)<1000003; decide),r,_,_,rfl,rfl,d2.at',zW (by rw[ac]; lia);have v0:=bq rest (show(1000003:Int)≠0 by decide);have v1:=aX rest (show(0:Int)<1000003 by decide);exists _,U,_,_,U,U,zDi.of (by decide) (by decide +kernel),⟨rows++[rest%1000003],_,U,by lia,d2.app hr0 hcr v0 v1,by rw[aF,dD]; lia⟩;show(rest/1000003).toNat<rest.toNat;lia
   ·exact⟨rows,_,_,_,U,d2,m0,m1,l2⟩
  ·exact⟨rows,_,_,_,U,d2,m0,m1,l2⟩
 ·rintro σ H' ⟨rows,mix,u,v,rfl,d,hx0,hx1,hrl⟩;rw[ac] at hrl;refine zOn (λσ H2=>∃(rows:List Int)(mix:Int),σ=[some (.ref a),some (.int many),some (.ref r),some (.int mix),u,v]/\zFt H r c ms H2 rows/\0<=mix/\mix<2147483647/\rows.length<=many.toNat+63/\H2 r=some (.lst (rows.map V.int)))
   (λσ H2=>match H2 r with | some (.lst xs)=>many.toNat-xs.length | _=>0) ⟨rows,mix,rfl,d,hx0,hx1,by lia,d.at'⟩ ?_ (zM9 (zZc zXs (yf6 zXi (zQ9 zKq zWs)) zKq))
  rintro σ H2 ⟨rows,mix,rfl,d2,hx0,hx1,l2,ha2⟩;exists _,U,r,_,U,.inl (SqL.of d2.at'),_,U,_,_,U,U,_,rfl;refine ifD (λhlt=>?_) (λhlt=>?_)
  ·have hlt':((rows.map V.int).length:Int)<many:=hlt;rw[ac] at hlt';exists _,U,_,_,U,U,.inr ⟨by decide,by decide⟩,_,_,U,U,_,_,U,U,(by show(0:Int)<2147483647; decide);have m0:=bq (mix*48271+11) (show(2147483647:Int)≠0 by decide);have m1:=aX (mix*48271+11) (show(0:Int)<2147483647 by decide);refine⟨_,U,.inl ⟨U,_,SqL.of d2.at'⟩,_,U,_,U,λv v0 v1=>?_⟩;exists r,_,_,U,U,d2.at',zW (by rw[ac]; lia),⟨rows++[v],_,rfl,d2.app hr0 hcr v0 v1,m0,m1,by rw[aF,dD]; lia,(d2.app hr0 hcr v0 v1).at'⟩;rw[ha2,zA];show many.toNat-(rows.map V.int++[V.int v]).length<many.toNat-(rows.map V.int).length;rw[aF,ac,dD];lia
  ·have hlt':¬ ((rows.map V.int).length:Int)<many:=hlt;rw[ac] at hlt';exact⟨_,U,q r rows H2 d2.same hr0 d2.at' (by lia) (by lia) d2.bd⟩
def zIh(K:ae):Sp:=λvs H Q _=>∃(a:af)(rows:List Int)(many:Nat),vs=[.ref a,.int many]/\SqL K H a (rows.map V.int)/\many<=rows.length/\many<=25/\(∀ x∈rows,0<=x/\x<1000003) /\
 ∀(r:af)(ns:List aA)(H':Hp),Same H H'->H r=none->H' r=some (.lst (ns.map V.str))->ns.length=many->(∀ n∈ns,wG n)->ns.Nodup->Q (.ref r) H'
theorem zQh(F:Fun K "_law_names" "_law_names" zCg f fd)(Z:Zs mg)(CB:Cb P w mg base)  : yQ P w K mg base CX0 1 f fd ["_law_some","_law_many"] (zIh K):=by
 specialize xA
 ·obtain⟨a,rows,many,rfl,_⟩:=h;rfl
 obtain⟨a,rows,many,rfl,ha,h1,h2,bd,q⟩:=h
 refine'⟨_,(zD (yI 2 xA.nd zK)
   (zD (yI 3 xA.nd ?_)
   (zD (zAa cw rfl (rX rfl Z.range (zB (pv 1) zI)) (zD4 4 xA.nd) (zD (yI 5 xA.nd ?_)
   (zD (yI 6 xA.nd ?_)
   (zD (yI 7 xA.nd ?_)
   (zD (yI 8 xA.nd (zX9 iu iQ iR zT2 zK (zB (vY (T:=["_law_k"]) (caps:=[("_law_letters",2),("_law_raw",5),("_law_step",7)]) ⟨rfl,by decide +kernel,by decide +kernel,rfl,⟨⟨rfl,rfl,cP rfl⟩,⟨rfl,rfl,cP rfl⟩,⟨rfl,rfl,cP rfl⟩,bv⟩⟩ rfl (rX rfl Z.range (zB (pv 6) zI)) (λ_=>(zD4 0 (show(["_law_k","_law_letters","_law_raw","_law_step"]:List aA).Nodup by decide +kernel))) (λ_=>wP) (λ_=>(zNs zWj (pv 1) ?_ (λ_ _=>rfl)))) zI)))
   (zD (yI 9 xA.nd ?_)
   (zD (zAa cw rfl (rX rfl Z.range (zB yL zI)) (zD4 10 xA.nd) (zF (zY (yJ rS (pv 8) (pv 3) (by with_unfolding_all rfl)) (zD (yI 11 xA.nd (zNs zWj (pv 2) ?_ (λ_ _=>rfl)))
   (zF (yI 8 xA.nd (wH zIn (wH zIn (uJ zXa (pv 8) sI (sP (pv 9))) (pv 11)) (uJ zXa (pv 8) (sP ?_) sI))))) zN)))
   (zF (yA (zNm (pv 3) (zB (pv 8) zI)))))))))))
   (zF (zM (pv 3)))))),?_⟩
 nofun
 refine⟨sz0,λr hr0=>?_⟩;have s0:=zC hr0 (.lst []);refine⟨_,U,_,U,by lia,by lia,zAq (lo:=0) (n:=((many:Nat):Int).toNat) (λi σ H'=>∃ ns:List aA,Same H H'/\H' r=some (.lst (ns.map V.str))/\ns.length=i/\(∀ n∈ns,wG n)/\ns.Nodup /\
   ∃ u4 u5 u6 u7 u8 u9 u10 u11:Option V,σ=[some (.ref a),some (.int many),some (.str abc),some (.ref r),u4,u5,u6,u7,u8,u9,u10,u11])
  ⟨[],s0,zA,rfl,(λ_ z=>nomatch z),List.nodup_nil,none,none,none,none,none,none,none,none,rfl⟩ ?_ ?_⟩
 ·rintro i σ H1 hi ⟨ns,s1,er,ln,okn,nd,u4,u5,u6,u7,u8,u9,u10,u11,rfl⟩;rw[cg] at hi;obtain⟨x,ax,x0,x1⟩:=xT bd (k:=(0:Int)+i) (by lia) (by lia);exists _,U,_,U,a,_,_,_,U,U,.inl (s1.seq ha),ax;exists _,U,_,_,U,U,(by show(0:Int)<8; decide),_,_,rfl,rfl;exists _,U,_,_,U,U,zDi.of (by decide) (by decide +kernel),_,_,U,U,gt5;have z0:0<=x%8:=bq _ (by decide);have z1:x%8<8:=aX _ (by decide);have t0:0<=x/8%5:=bq _ (by decide);have t1:x/8%5<5:=aX _ (by decide);obtain⟨sz,esz⟩:∃ n:Nat,1+x%8=(n:Int):=⟨(1+x%8).toNat,by lia⟩;have w1:1<=sz:=by lia
  have w8:sz<=8:=by lia
  refine⟨U,_,U,_,U,by lia,by lia,λc D hD=>?_⟩;have sD:=zC hD (.lst []);refine zBz (lo:=0) (n:=(1+x%8).toNat) (λj σ zs H'=>Same H1 H'/\H' D=some (.lst zs)/\∃ l:List Nat,zs=(l.map chS).map V.str/\l.length=j/\(∀ c∈l,97<=c/\c<=122)/\∃ u0:Option V,σ=[u0,some (.str abc),some (.int x),some (.int (x/8%5))])
   ⟨sD,zA,[],rfl,rfl,(λ_ z=>nomatch z),none,rfl⟩ (λj σ zs H' _ ⟨_,e,_⟩=>e) ?_ ?_
  ·rintro j σ zs H' hj ⟨sH,eD,l,rfl,lj,lc,u0,rfl⟩;have m0:0<=(x/40+((0:Int)+j)*(x/8%5))%26:=bq _ (by decide);have m1:(x/40+((0:Int)+j)*(x/8%5))%26<26:=aX _ (by decide);exists _,U,_,U,_,_,U,U,zDi.of (by decide) (by decide +kernel),_,U,_,U,_,_,U,U,zZx (by lia),_,_,U,U,_,_,U,U,(by show(0:Int)<26; decide),abc,_,_,rfl,rfl,(by decide),zWt m0 m1;refine⟨eD,zW (by rw[ac,ac]; lia),sH.putNew hD,zA,l++[97+((x/40+((0:Int)+j)*(x/8%5))%26).toNat],?_,by rw[aF,lj]; rfl,λc hc=>?_,_,rfl⟩
   ·rw[aG,aG];rfl
   ·rcases aS.mp hc with hc | hc
    ·exact lc c hc
    ·rw[au] at hc;lia
  ·rintro σ zs H2 ⟨s2,eD,l,rfl,lj,lc,u0,rfl⟩;have s12:=s1.trans s2;have er2:=s2 _ _ er;have ll:l.length=sz:=by lia
   refine⟨"",D,l.map chS,U,U,SqL.of eD,by rw[zP0,ll]; exact aJ w8 (by decide),?_⟩;rw[zVl];obtain⟨pl,epl⟩:∃ n:Nat,x/7%(1+x%8)=(n:Int):=⟨(x/7%(1+x%8)).toNat,by rw[Int.toNat_of_nonneg (bq _ (by lia))]⟩;have plt:pl<l.length:=by
    have:=aX (x/7) (show 0<1+x%8 by lia);lia
   exists _,U,_,_,U,U,zDi.of (by decide) (by decide +kernel),_,U,_,_,U,U,(by show(0:Int)<1+x%8; lia);obtain⟨xn,exn⟩:∃ n:Nat,x=(n:Int):=⟨x.toNat,by lia⟩;refine⟨26,U,by decide,by decide,zAq (lo:=0) (n:=26) (λk σ H'=>H'=H2/\∃ m:List Nat,(txt m ∉ ns\/((k=0\/∃ j,j+1=k/\m=l.set pl (97+(xn+j)%26))/\∀ j,j+1<k->txt (l.set pl (97+(xn+j)%26))∈ns))/\m.length=l.length/\(∀ c,m.set pl c=l.set pl c)/\(∀ c∈m,97<=c/\c<=122) /\
     ∃ u10 u11:Option V,σ=[some (.ref a),some (.int many),some (.str abc),some (.ref r),some (.int (0+i)),some (.int x),some (.int (1+x%8)),some (.int (x/8%5)),some (.str (txt m)),some (.int (x/7%(1+x%8))),u10,u11])
    ⟨rfl,l,.inr ⟨.inl rfl,λj hj=>absurd hj (iH _)⟩,rfl,λ_=>rfl,lc,u10,u11,rfl⟩ ?_ ?_⟩
   ·rintro k σ H' hk ⟨rfl,m,hm,lm,hset,mc,v10,v11,rfl⟩;exists _,U,_,U,r,_,U,.inl (SqL.of er2),U,zKr ns,_,rfl;show if inV (.str (txt m)) (ns.map V.str)=true then _ else _
    rw[zY5];refine ifD (λhin=>?_) (λhin=>?_)
    ·have b0:0<=(x+((0:Int)+k))%26:=bq _ (by decide);have b1:(x+((0:Int)+k))%26<26:=aX _ (by decide);exists _,U,_,U,_,U,_,_,U,U,_,_,U,U,(by show(0:Int)<26; decide),abc,_,_,rfl,rfl,(by decide),zWt b0 b1;have lz:(txt m).length<=sizeLine:=by rw[qL,lm,ll]; exact aJ w8 (by decide)
     have es:(97+((x+((0:Int)+k))%26).toNat)=97+(xn+k)%26:=by lia
     have c1:eN (txt m) none (some (x/7%(1+x%8)))++chS (97+((x+((0:Int)+k))%26).toNat)++eN (txt m) (some (x/7%(1+x%8)+1)) none=txt (l.set pl (97+(xn+k)%26)):=by
      rw[epl,zUn (by lia),es,hset]
     refine⟨_,U,_,U,_,U,txt m,U,lz,_,U,_,_,U,U,?_,_,U,_,U,_,_,U,U,_,U,txt m,U,lz,_,_,U,U,?_,?_⟩
     ·exact aJ (gF (io _ _ _) (al 1)) (by rw[qL,lm,ll]; exact aJ (i0 w8 1) (by decide))
     ·rw[strLen_append];exact aJ (gF (gF (io _ _ _) (al 1)) (io _ _ _)) (by rw[qL,lm,ll]; exact aJ (gF (i0 w8 1) w8) (by decide))
     ·refine⟨U,l.set pl (97+(xn+k)%26),.inr ⟨.inr ⟨k,U,U⟩,λj hj=>?_⟩,fP,λc=>List.set_set _,λc hc=>?_,_,_,by rw[<- c1]; rfl⟩
      ·rcases hm with hm | ⟨hm,hall⟩
       ·exact absurd hin hm
       ·by_cases e:j+1=k
        ·rcases hm with hm | ⟨j0,e0,rfl⟩
         ·lia
         ·rw[show j=j0 by lia];exact hin
        ·exact hall j (by lia)
      ·rcases gK hc with hc | hc
       ·exact lc c hc
       ·lia
    ·exact⟨U,m,.inl hin,lm,hset,mc,_,_,U⟩
   ·rintro σ H' ⟨rfl,m,hm,lm,hset,mc,v10,v11,rfl⟩;have out:txt m ∉ ns:=by
     rcases hm with hm | ⟨hm,hall⟩
     ·exact hm
     ·intro hin;refine zYf (l:=l) (p:=pl) (r:=xn) plt (ws:=ns) (by lia) λj hj=>?_;by_cases e:j+1<26
      ·exact hall j e
      ·rcases hm with hm | ⟨j0,e0,rfl⟩
       ·lia
       ·rw[show j=j0 by lia];exact hin
    exists _,U,.inl ⟨U,_,SqL.of er2⟩,_,U,r,_,_,U,U,er2,zW (by rw[ac]; lia);refine⟨ns++[txt m],s12.putNew hr0,?_,by rw[aF,ln]; rfl,λn hn=>?_,?_,_,_,_,_,_,_,_,_,rfl⟩
    ·rw[zA,aG];rfl
    ·rcases aS.mp hn with hn | hn
     ·exact okn n hn
     ·rw[au] at hn;rw[hn];exact zQt (by lia) (by lia) mc
    ·refine jZ.mpr ⟨nd,by simp,λx hx y hy=>?_⟩;rw[au] at hy;rw[hy];exact λz=>out (z ▸ hx)
 ·rintro σ H1 ⟨ns,s1,er,ln,okn,nd,u4,u5,u6,u7,u8,u9,u10,u11,rfl⟩;exact⟨_,U,q r ns H1 s1 hr0 er (by rw[ln,cg]) okn nd⟩
def zPc(_:ae):Sp:=λvs H Q _=>vs=[]/\∀(d m b r n:af)(H':Hp),Same H H'->H d=none->H m=none->H r=none->H' d=some (.dK (lwK m b r n 1))->H' m=some (.dK [])->H' b=some (.dK [])->H' r=some (.lst [])->H' n=some (.dK [])->b≠m->n≠m->Q (.ref d) H'
theorem zVq(F:Fun K "_law_new" "_law_new" zJo f fd)(Z:Zs mg)(CB:Cb P w mg base)  : yQ P w K mg base CX0 1 f fd [] (zPc K):=by
 specialize zU5
 ·obtain⟨rfl,_⟩:=h;rfl
 obtain⟨rfl,q⟩:=h
 refine'⟨_,zF ?h,?_⟩
 rotate_left
 with_reducible refine' zM ?_
 rotate_left
 with_reducible exact zNp (wB zK rD (wB zK rD (wB zK (tI zI) (wB zK rD (wB zK yL zNg))))) rfl rfl (λz=>nomatch z) (by decide)
 try dsimp only[L2.cxOf]
 intro p hp m hm b hb;refine⟨sz0,λr hr n hn=>?_⟩;have s1:=zC hp (.dK []);have s2:=zC hm (.dK []);have s3:=zC hb (.dK []);have s4:=zC hr (.lst []);have s5:=zC hn (.dK []);have em:=(s3.trans (s4.trans s5)) _ _ zA;have eb:=(s4.trans s5) _ _ zA;have er:=s5 _ _ zA;have ep:=(s2.trans (s3.trans (s4.trans s5))) _ _ zA;exists ep,[(.inr "marks",.ref m),(.inr "banks",.ref b),(.inr "runs",.ref r),(.inr "notes",.ref n),(.inr "next",.int 1)],U,(show 5<=15 by decide);rw[zV4];have ne:∀{x:af},(upd H p (.dK [])) x=none->x≠p:=λ{x} h z=>by rw[z,zA] at h; cases h
 have nb:=ne (s2.free hb);have nr:=ne (s2.free (s3.free hr));have nn:=ne (s2.free (s3.free (s4.free hn)));refine q p m b r n _ (λc o e=>?_) hp (s1.free hm) (s1.free (s2.free (s3.free hr))) zA ?_ ?_ ?_ ?_ (λz=>by rw[z,zA] at hb; cases hb) (λz=>by have:=s3.free (s4.free hn); rw[z,zA] at this; cases this)
 ·rw[zH (zJ e hp)];exact(s1.trans (s2.trans (s3.trans (s4.trans s5)))) c o e
 ·rw[zH (ne hm)]; exact em
 ·rw[zH nb]; exact eb
 ·rw[zH nr]; exact er
 ·rw[zH nn]; exact zA
def zD5(_:ae):Sp:=λvs H Q _=>∃(R:af)(ns:List aA),vs=[.ref R]/\H R=some (.lst (ns.map V.str))/\∀ x:aA,zFs x->Q (.str x) H
theorem zLs(F:Fun K "_law_strange" "_law_strange" rZ f fd)(Z:Zs mg)(CB:Cb P w mg base)  : yQ P w K mg base CX0 1 f fd ["_law_names_here"] (zD5 K):=by
 specialize zAn
 ·obtain⟨R,ns,rfl,_⟩:=h;rfl
 obtain⟨R,ns,rfl,eR,q⟩:=h;refine⟨_,(zD (zAa cw rfl (zLy rfl Z.range (zB yL (zB yL zI))) (qK (i:=1) zAn.nd rfl (cP rfl)) (zF (zAa cw rfl (zRy zK) (qK (i:=2) zAn.nd rfl (cP rfl)) (zF (zY (yJ zLi (wH zKj (pv 2) (pv 1)) (pv 0) (by with_unfolding_all rfl)) (zF (zM (wH zKj (pv 2) (pv 1)))) zN)))))
   (zF (zM zK))),?_⟩
 try dsimp only[L2.cxOf]
 refine⟨1,9,U,⟨by decide,by decide,by decide,by decide⟩,zAq (lo:=1) (n:=8) (λi σ H'=>H'=H/\∃ u u':Option V,σ=[some (.ref R),u,u']) ⟨U,none,none,U⟩ ?_ ?_⟩
 ·rintro i σ H' hi ⟨rfl,u,u',rfl⟩;refine⟨_,U,(by decide +kernel),zU0 (λj σ G=>G=H'/\∃ u':Option V,σ=[some (.ref R),some (.int (1+i)),u']) ⟨U,u',U⟩ (λ_ _ _ _=>trivial) ?_ ?_⟩
  ·rintro j x σ G gx ⟨rfl,v,rfl⟩;have mx:=aN gx;unfold zEq at mx;obtain⟨c,hc,rfl⟩:=aC.mp mx;have c128:c<128:=by
    have:∀ c∈(aO "zyxwvutsrqponmlkjihgfedcba").cps.toList,c<128:=by decide +kernel
    exact this c hc
   exists _,U,_,U,⟨#[c]⟩,1+i,U,U,by lia,by lia,(by show 1<=1000; decide),_,rfl,R,_,rfl,.inl (SqL.of eR),rfl,zKr ns,_,rfl;refine ifBo (λz=>?_) (λz=>?_)
   ·exact⟨_,U,_,U,⟨#[c]⟩,1+i,U,U,by lia,by lia,(by show 1<=1000; decide),q _ (zX4 c128 (by lia) (by lia))⟩
   ·exact⟨U,_,U⟩
  ·rintro σ G ⟨rfl,v,rfl⟩;exact⟨U,_,_,U⟩
 ·rintro σ H' ⟨rfl,u,u',rfl⟩;exact q _ asc_0
def zG7(_:ae):Sp:=λvs H Q _=>∃(k:Int)(R:af)(ns:List aA),vs=[.int k,.ref R]/\0<=k/\k<1000003/\H R=some (.lst (ns.map V.str))/\1<=ns.length/\(∀ n∈ns,wG n)/\∀(x:aA)(H':Hp),zFs x->Same H H'->Q (.str x) H'
theorem zR1(F:Fun K "_law_pick" "_law_pick" zFc f fd)(Z:Zs mg)(CB:Cb P w mg base)(yBk:Has P w K mg base "_law_strange" 1 ["_law_names_here"] (zD5 K)):yQ P w K mg base CX0 2 f fd ["_law_raw","_law_names_here"] (zG7 K):=by
 specialize zTe
 ·obtain⟨k,R,ns,rfl,_⟩:=h;rfl
 obtain⟨k,R,ns,rfl,k0,k1,eR,l1,okn,q⟩:=h
 refine'⟨_,(zD (zY ?_ (zF (zM ?_)) zN)
   (zF (zM ?_))),?_⟩
 nofun
 exists _,U,_,_,U,U,(by show(0:Int)<14; decide),rfl,_,rfl;refine ifE (λz=>?_) (λz=>?_)
 ·refine⟨_,U,R,ns,U,eR,λy hy=>?_⟩;refine⟨(by show 5<=sizeLine; decide),λp hp=>?_⟩;have sp:=zC hp (.lst [.str "",.str "A",.str "abcdefghi",.str "a b",.str y]);obtain⟨v,hv,e⟩:=zF7 (vs:=[.str "",.str "A",.str "abcdefghi",.str "a b",.str y]) (x:=k/14) (n:=5) (by decide) rfl;exists _,U,_,_,U,U,zDi.of (by decide) (by decide +kernel),_,_,U,U,gt5,p,_,_,v,U,U,.inl (SqL.of zA),e;have lit:∀ x:aA,x∈[aO "",aO "A",aO "abcdefghi",aO "a b"]->zFs x:=by unfold zFs; decide +kernel
  have go:∀ x:aA,zFs x->Q (.str x) _:=λx hx=>q x _ hx sp;simp only[aD,bI,or_false] at hv;rcases hv with rfl | rfl | rfl | rfl | rfl
  ·exact go _ (lit _ (.head _))
  ·exact go _ (lit _ (.tail _ (.head _)))
  ·exact go _ (lit _ (.tail _ (.tail _ (.head _))))
  ·exact go _ (lit _ (.tail _ (.tail _ (.tail _ (.head _)))))
  ·exact go _ hy
 ·obtain⟨n,hn,e⟩:=yd6 (ms:=ns) (x:=k/14) (by rw[ac]; lia);exact⟨_,U,_,U,_,_,U,U,zDi.of (by decide) (by decide +kernel),_,U,R,_,U,.inl (SqL.of eR),_,_,U,U,(by show(0:Int)<((ns.map V.str).length:Int); rw[ac]; lia),R,_,_,.str n,rfl,rfl,.inl (SqL.of eR),e,q n H (okn n hn).asc (Same.refl _)⟩
def zAr(_:ae):Sp:=λvs H Q _=>∃(k:Int),vs=[.int k]/\0<=k/\k<1000003/\∀(x:Int)(H':Hp),zAf x->Same H H'->Q (.int x) H'
theorem zF0(F:Fun K "_law_far_number" "_law_far_number" vK f fd)(Z:Zs mg)(CB:Cb P w mg base)  : yQ P w K mg base CX0 1 f fd ["_law_raw"] (zAr K):=by
 specialize zGr
 ·obtain⟨k,rfl,_⟩:=h;rfl
 obtain⟨k,rfl,k0,k1,q⟩:=h
 refine'⟨_,(zD (zY ?_ (zF (zM ?_)) zN)
   (zD (zY ?_ (zF (zM ?_)) zN)
   (zF (zM ?_)))),?_⟩
 nofun
 exists _,U,_,_,U,U,(by show(0:Int)<9; decide),rfl,_,rfl;refine ifE (λz=>?_) (λz=>?_)
 ·refine⟨_,U,_,U,_,_,U,U,(by unfold yi3; decide),(by show 6<=sizeLine; decide),λp hp=>?_⟩;have sp:=zC hp (.lst [.int (-1000),.int 1000,.int 1001,.int (-1001),.int (10^20),.int 0]);obtain⟨v,hv,e⟩:=zF7 (vs:=[.int (-1000),.int 1000,.int 1001,.int (-1001),.int (10^20),.int 0]) (x:=k/9) (n:=6) (by decide) rfl;exists _,U,_,_,U,U,zDi.of (by decide) (by decide +kernel),_,_,U,U,(by show(0:Int)<6; decide),p,_,_,v,rfl,rfl,.inl (SqL.of zA),e;simp only[aD,bI,or_false] at hv;rcases hv with rfl | rfl | rfl | rfl | rfl | rfl <;> exact q _ _ (xZ (by decide)) sp
 exists _,U,_,_,U,U,gt3,U,_,rfl;refine ifE (λz=>?_) (λz=>?_)
 ·exact⟨_,U,_,_,U,U,zDi.of (by decide) (by decide +kernel),_,_,U,U,(by show(0:Int)<2001; decide),_,_,rfl,rfl,q _ H (xZ (by lia)) (Same.refl _)⟩
 ·exact⟨_,U,_,_,U,U,zDi.of (by decide) (by decide +kernel),_,_,U,U,(by show(0:Int)<31; decide),_,_,rfl,rfl,q _ H (xZ (by lia)) (Same.refl _)⟩
def zOl(_:ae):Sp:=λvs H Q _=>∃(o t wd:Int),vs=[.int o,.int t,.int wd]/\1<=wd/\wd<=1000000 /\
 ∀(p:af)(x y:Int)(H':Hp),Same H H'->H p=none->H' p=some (.tup [.int x,.int y])->(x≠0\/y≠0)->x.natAbs<=wd.natAbs->y.natAbs<=wd.natAbs->Q (.ref p) H'
theorem zV0(F:Fun K "_law_way" "_law_way" zI7 f fd)(Z:Zs mg)(CB:Cb P w mg base)  : yQ P w K mg base CX0 1 f fd ["_law_one","_law_two","_law_wide"] (zOl K):=by
 specialize zFf
 ·obtain⟨o,t,wd,rfl,_⟩:=h;rfl
 obtain⟨o,t,wd,rfl,w1,w2,q⟩:=h
 refine'⟨_,(zD (yI 3 zFf.nd ?_)
   (zD (yI 4 zFf.nd ?_)
   (zD (zY ?_ (zF (yI 3 zFf.nd ?_)) zN)
   (zF (zM ?_))))),?_⟩
 nofun
 have x0:=bq o (show 2*wd+1≠0 by lia);have x1:=aX o (show 0<2*wd+1 by lia);have y0:=bq t (show 2*wd+1≠0 by lia);have y1:=aX t (show 0<2*wd+1 by lia);exists _,U,_,U,_,_,U,U,.inl ⟨by decide,by decide⟩,_,_,U,U,_,_,U,U,(by show 0<2*wd+1; lia),_,rfl,_,_,rfl,rfl;exists _,U,_,U,_,_,U,U,.inl ⟨by decide,by decide⟩,_,_,U,U,_,_,U,U,(by show 0<2*wd+1; lia),_,rfl,_,_,rfl,rfl;exists _,U,U,_,rfl;refine ifE (λhx=>?_) (λhx=>?_)
 ·exists _,U,U,_,rfl;refine ifE (λhy=>?_) (λhy=>?_)
  ·exists _,U,_,_,U,U,gt2,_,_,U,U,.inl ⟨by decide,by decide⟩,_,_,U,rfl;refine⟨_,U,_,U,sz2,λp hp=>?_⟩;exact q p _ _ _ (zC hp _) hp zA (by left; lia) (by lia) (by lia)
  ·refine⟨_,U,_,U,sz2,λp hp=>?_⟩;exact q p _ _ _ (zC hp _) hp zA (.inr hy) (by lia) (by lia)
 ·refine yB ?_;refine⟨_,U,_,U,sz2,λp hp=>?_⟩;exact q p _ _ _ (zC hp _) hp zA (.inl hx) (by lia) (by lia)
def zB1(K:ae):Sp:=λvs H Q _=>∃(a b:af)(us ws:List V)(x1 y1 x2 y2:Int),vs=[.ref a,.ref b]/\Sq K H a us/\Sq K H b ws/\atI us 0=some (.int x1)/\atI us 1=some (.int y1)/\atI ws 0=some (.int x2)/\atI ws 1=some (.int y2) /\
 x1.natAbs<=10^18/\y1.natAbs<=10^18/\Q (.int (x1*y2-y1*x2)) H
theorem zNi(F:Fun K "_law_turned" "_law_turned" zBb f fd)(Z:Zs mg)(CB:Cb P w mg base)  : yQ P w K mg base CX0 1 f fd ["_law_one","_law_other"] (zB1 K):=by
 specialize zM2
 ·obtain⟨a,b,us,ws,x1,y1,x2,y2,rfl,_⟩:=h;rfl
 obtain⟨a,b,us,ws,x1,y1,x2,y2,rfl,ha,hb,u0,u1,w0,w1,m1,m2,q⟩:=h
 refine'⟨_,(zF (zM ?_)),?_⟩
 nofun
 exact⟨_,U,a,_,_,.int x1,U,U,ha,u0,_,U,b,_,_,.int y2,U,U,hb,w1,_,_,U,U,zZx (by lia),
  _,rfl,a,_,_,.int y1,rfl,rfl,ha,u1,_,rfl,b,_,_,.int x2,rfl,rfl,hb,w0,_,_,rfl,rfl,zZx (by lia),_,_,rfl,rfl,q⟩
def zBn(K:ae):Sp:=λvs H Q _=>∃(a:af)(rows:List Int)(wd:Int),vs=[.ref a,.int wd]/\SqL K H a (rows.map V.int)/\5<=rows.length/\(∀ x∈rows,0<=x/\x<1000003)/\1<=wd/\wd<=100 /\
 ∀(t p r:af)(A0 A1 B0 B1:Int)(H':Hp),Same H H'->H' t=some (.tup [.ref p,.ref r])->H' p=some (.tup [.int A0,.int A1])->H' r=some (.tup [.int B0,.int B1])->0<A0*B1-A1*B0->A0.natAbs<=wd.natAbs->A1.natAbs<=wd.natAbs->B0.natAbs<=wd.natAbs->B1.natAbs<=wd.natAbs->Q (.ref t) H'
theorem zHr(F:Fun K "_law_left_pair" "_law_left_pair" tL f fd)(Z:Zs mg)(CB:Cb P w mg base)(yBq:Has P w K mg base "_law_turned" 1 ["_law_one","_law_other"] (zB1 K))(yCf:Has P w K mg base "_law_way" 1 ["_law_one","_law_two","_law_wide"] (zOl K)):yQ P w K mg base CX0 2 f fd ["_law_d","_law_wide"] (zBn K):=by
 specialize xP
 ·obtain⟨a,rows,wd,rfl,_⟩:=h;rfl
 obtain⟨a,rows,wd,rfl,hS,hl,bd,w1,w2,q⟩:=h
 refine'⟨_,(zD (yI 2 xP.nd ?_)
   (zD (yI 3 xP.nd ?_)
   (zD (zY ?_ (zF (yI 3 xP.nd ?_)) zN)
   (zD (zY ?_ (zF (zTi (i:=2) (j:=3) rfl xP.nd rfl rfl (by decide) rfl rfl (zB (pv 3) (zB (pv 2) zI)) rfl)) zN)
   (zD (zY ?_ (zF (yI 3 xP.nd ?_)) zN)
   (zF (zM ?_))))))),?_⟩
 nofun
 obtain⟨v0,a0,_⟩:=xT bd (k:=0) (by decide) (by lia);obtain⟨v1,a1,_⟩:=xT bd (k:=1) (by decide) (by lia);obtain⟨v2,a2,_⟩:=xT bd (k:=2) (by decide) (by lia);obtain⟨v3,a3,_⟩:=xT bd (k:=3) (by decide) (by lia);obtain⟨v4,a4,_⟩:=xT bd (k:=4) (by decide) (by lia);refine⟨_,U,a,_,_,_,U,U,.inl hS,a0,_,U,a,_,_,_,U,U,.inl hS,a1,_,U,v0,v1,wd,U,w1,by lia,λp1 x1 y1 H2 s2 hp1 e1' n1 m1 m2=>?_⟩;have wb:wd.natAbs<=10^18:=by lia
 have k1:x1.natAbs<=wd.natAbs:=by lia
 have k2:y1.natAbs<=wd.natAbs:=by lia
 clear m1 m2;apply cut4 (ok:=λO X Y G=>Same H G/\G p1=some (.tup [.int x1,.int y1])/\G O=some (.tup [.int X,.int Y])/\X.natAbs<=wd.natAbs/\Y.natAbs<=wd.natAbs)
 ·intro main;refine⟨_,U,a,_,_,_,U,U,.inl (s2.seq hS),a2,_,U,a,_,_,_,U,U,.inl (s2.seq hS),a3,_,U,v2,v3,wd,U,w1,by lia,λp2 x2 y2 H3 s3 hp2 e3 n2 m3 m4=>?_⟩;have s23:=s2.trans s3;have e13:=s3 _ _ e1';exists _,U,a,_,_,_,U,U,.inl (s23.seq hS),a4,_,_,U,U,gt4,U,_,rfl;refine ifE (λ_=>?_) (λ_=>?_);rotate_left
  ·exact main p2 x2 y2 H3 ⟨s23,e13,e3,by lia,by lia⟩
  ·refine⟨_,U,p1,_,_,.int y1,U,U,.inr (SqT.of e13),U,_,U,_,U,p1,_,_,.int x1,U,U,.inr (SqT.of e13),U,sz2,λd hd=>?_⟩;have sd:=zC hd (.tup [.int (-y1),.int x1]);exact main d (-y1) x1 _ ⟨s23.trans sd,sd _ _ e13,zA,by rw[lG]; exact k2,k1⟩
 rintro O X Y G ⟨sH,e1,e2,k3,k4⟩;have f1:Sq K G p1 [.int x1,.int y1]:=.inr (SqT.of e1);have f2:Sq K G O [.int X,.int Y]:=.inr (SqT.of e2);have b1:x1.natAbs<=10^18:=aJ k1 wb;have b2:y1.natAbs<=10^18:=aJ k2 wb;exists _,U,_,U,p1,O,_,_,x1,y1,X,Y,U,f1,f2,U,U,U,U,b1,b2,_,_,U,U,_,rfl;have eT:X*y1-Y*x1 = -(x1*Y-y1*X):=by rw[im X y1,im Y x1]; lia
 refine ifD (λhneg=>?_) (λhneg=>?_)
 ·exists _,U,_,U,_,_,rfl;exists _,U,_,U,O,p1,_,_,X,Y,x1,y1,U,f2,f1,U,U,U,U,aJ k3 wb,aJ k4 wb,U,_,rfl;refine ifE (λz=>absurd z (by clear k1 k2 k3 k4 b1 b2 w1 w2 wb hl; lia)) (λ_=>?_);refine⟨_,U,_,U,sz2,λt ht=>?_⟩;have st:=zC ht (.tup [.ref O,.ref p1]);exact q t O p1 X Y x1 y1 _ ((sH).trans st) zA (st _ _ e2) (st _ _ e1) (by clear k1 k2 k3 k4 b1 b2 w1 w2 wb hl; lia) k3 k4 k1 k2
 ·exists _,U,_,U,p1,O,_,_,x1,y1,X,Y,U,f1,f2,U,U,U,U,b1,b2,U,_,rfl;refine ifE (λhz=>?_) (λhz=>?_)
  ·refine⟨_,U,p1,_,_,.int y1,U,U,f1,U,_,U,_,U,p1,_,_,.int x1,U,U,f1,U,sz2,λd hd=>?_⟩;have sd:=zC hd (.tup [.int (-y1),.int x1]);refine⟨_,U,_,U,sz2,λt ht=>?_⟩;have st:=zC ht (.tup [.ref p1,.ref d]);have sp:=ya7 n1;exact q t p1 d x1 y1 (-y1) x1 _ (sH.trans (sd.trans st)) zA (st _ _ (sd _ _ e1)) (st _ _ zA) (by rw[kL]; lia) k1 k2 (by rw[lG]; exact k2) k1
  ·refine⟨_,U,_,U,sz2,λt ht=>?_⟩;have st:=zC ht (.tup [.ref p1,.ref O]);exact q t p1 O x1 y1 X Y _ (sH.trans st) zA (st _ _ e1) (st _ _ e2) (by clear k1 k2 k3 k4 b1 b2 w1 w2 wb hl; lia) k1 k2 k3 k4
structure Mn(H0 G:Hp)(p1 p2:af)(us:List V):Prop where
 mk ::
 same:Same H0 G
 t1:Tin G p1
 t2:Tin G p2
 all:∀ v∈us,∃ u p q:af,v=.ref u/\G u=some (.tup [.ref p,.ref q])/\Tin G p/\Tin G q
theorem Mn.new{H0 G:Hp}{p1 p2 t:af}{us:List V}{o:HO}(M:Mn H0 G p1 p2 us)(n:G t=none):Mn H0 (upd G t o) p1 p2 us :=
 have s:=zC n o
 ⟨M.same.trans s,M.t1.to s,M.t2.to s,λv hv=>let ⟨u,p,q,e,h,a,b⟩:=M.all v hv;⟨u,p,q,e,s _ _ h,a.to s,b.to s⟩⟩
theorem Mn.add{H0 G:Hp}{p1 p2 t a b:af}{us:List V}(M:Mn H0 G p1 p2 us)(n:G t=none)(ha:Tin G a)(hb:Tin G b):Mn H0 (upd G t (.tup [.ref a,.ref b])) p1 p2 (us++[.ref t]) :=
 have s:=zC n (.tup [.ref a,.ref b]);have m:=M.new (o:=.tup [.ref a,.ref b]) n
 ⟨m.same,m.t1,m.t2,λv hv=>(aS.mp hv).elim (m.all v) λz=>⟨t,a,b,au.mp z,zA,ha.to s,hb.to s⟩⟩
def rT(_:ae):Sp:=λvs H Q _=>∃(a d R:af)(rows:List Int)(ns:List aA)(S:BS),vs=[.ref a,.ref d,.ref R]/\H a=some (.lst (rows.map V.int))/\10<=rows.length/\(∀ v∈rows,0<=v/\v<1000003)/\zSz H d S/\zJ1 S/\H R=some (.lst (ns.map V.str))/\1<=ns.length/\(∀ n∈ns,wG n) /\
 ∀(v:V)(m:Int)(n:aA)(a b c d:Int)(H':Hp),Sam H H'->Rep H' (Deed.bearing m n a b c d).dt v->zEg (.bearing m n a b c d)->Q v H'
theorem zDj(F:Fun K "_law_bearing_deed" "_law_bearing_deed" wK f fd)(Z:Zs mg)(CB:Cb P w mg base)(yBa:Has P w K mg base "_law_left_pair" 2 ["_law_d","_law_wide"] (zBn K))(yCb:Has P w K mg base "_law_pick" 2 ["_law_raw","_law_names_here"] (zG7 K)):yQ P w K mg base CX0 3 f fd ["_law_d","_law_m","_law_names_here"] (rT K):=by
 specialize yC
 ·obtain⟨a,d,R,rows,ns,S,rfl,_⟩:=h;rfl
 obtain⟨a,d,R,rows,ns,S,rfl,ha,l10,bd,⟨m,b,r,n,lw⟩,wl,eR,l1,okn,q⟩:=h;obtain⟨v1,a1,z1⟩:=xT bd (k:=1) (by decide) (by lia);obtain⟨v2,a2,z2⟩:=xT bd (k:=2) (by decide) (by lia);obtain⟨v3,a3,z3⟩:=xT bd (k:=3) (by decide) (by lia);obtain⟨v8,a8,z8⟩:=xT bd (k:=8) (by decide) (by lia);obtain⟨v9,a9,z9⟩:=xT bd (k:=9) (by decide) (by lia);have few:=wl.good.few;have sq:∀{H':Hp},H' a=some (.lst (rows.map V.int))->Sq K H' a (rows.map V.int):=λh=>.inl (SqL.of h);obtain⟨ys,er,rr⟩:=lw.ru;have ly:ys.length=S.runs.length:=by rw[rr.length,ac]
 have fr:=few.ru;obtain⟨mk,hmk,kv⟩:=lw.ma;have lrm:(mk.map λkv=>kV kv.1)=(S.marks.map (·.1)).map V.str:=zJf kv;have lmk:mk.length=S.marks.length:=by rw[kv.length,zAi]
 refine'⟨_,(zD (yI 3 yC.nd (wH zIq ?_ (wH zBs (zR yT rfl Z.len wV (zB (zP (zV hr) (pv 1) zK (λ_ _=>rfl)) zI)) yL)))
   (zD (zY ?_ (zF (yI 3 yC.nd (zNs zMe (tI (zB ?_ (zB (wH zBs (zR yT rfl Z.len wV (zB (zP (zV hr) (pv 1) zK (λ_ _=>rfl)) zI)) yL) (zB ?_ zI)))) ?_ (λ_ _=>rfl)))) zN)
   (zD (yI 4 yC.nd ?_)
   (zD (zY (PW.pt (zIi ?_ (zDo (yJ (zZi hr.units0) (zP (zV hr) (pv 1) zK (λ_ _=>rfl)) rD (yW _))))) (zF (yI 4 yC.nd (zNs zMe (zR zLk rfl Z.sorted vP (zB (xB (zDz rfl) rfl Z.list zAl (zB (zP (zV hr) (pv 1) zK (λ_ _=>rfl)) zI)) zI)) (wH zIq ?_ (zR vT rfl Z.len wV (zB (zP (zV hr) (pv 1) zK (λ_ _=>rfl)) zI))) (λ_ _=>rfl)))) zN)
   (zD (zR7 ?_ (zIl rfl (xS (zD4 5 yC.nd) (xS (zD4 6 yC.nd) zBw))))
   (zD (yI 7 yC.nd ?_)
   (zD (zY ?_ (zD (yI 8 yC.nd ?_)
   (zF (zR7 ?_ (zIl rfl (xS (zD4 5 yC.nd) (xS (zD4 6 yC.nd) zBw)))))) zN)
   (zF (zM ?_))))))))),?_⟩
 nofun
 apply cutIH (ok:=λmo G=>Same H G/\zAf mo)
 ·intro rest;exists _,U,a,_,_,_,U,U,sq ha,a1,_,U,d,.ref r,U,.inl ⟨_,.inr "runs",lw.at_,U,uL.symm⟩,r,ys,U,.inl (SqL.of er),_,_,U,U,_,_,U,U,(by show(0:Int)<(ys.length:Int)+1; lia);have e0:=bq v1 (show(ys.length:Int)+1≠0 by lia);have e1:=aX v1 (show(0:Int)<(ys.length:Int)+1 by lia);have t0:zAf (v1%((ys.length:Int)+1)):=xZ (by lia);generalize v1%((ys.length:Int)+1)=mo at t0 ⊢;exists _,U,a,_,_,_,U,U,sq ha,a2,_,_,U,U,(by show(0:Int)<17; decide),rfl,_,rfl;refine ifE (λz=>?_) (λz=>?_);rotate_left
  ·exact rest mo H ⟨Same.refl _,t0⟩
  ·refine⟨_,U,_,U,d,.ref r,U,.inl ⟨_,.inr "runs",lw.at_,U,uL.symm⟩,r,ys,U,.inl (SqL.of er),_,_,U,U,_,_,U,U,(by unfold yi3; decide),sz3,λp hp=>?_⟩;have sp:=zC hp (.lst [.int (-1),.int ((ys.length:Int)+1),.int (10^20)]);obtain⟨v,hv,e⟩:=zF7 (vs:=[.int (-1),.int ((ys.length:Int)+1),.int (10^20)]) (x:=v1) (n:=3) (by decide) rfl;exists _,U,a,_,_,_,U,U,sq (sp _ _ ha),a1,_,_,U,U,gt3,p,_,_,v,U,U,.inl (SqL.of zA),e;simp only[aD,bI,or_false] at hv;rcases hv with rfl | rfl | rfl
   ·exact rest (-1) _ ⟨sp,xZ (by decide)⟩
   ·exact rest ((ys.length:Int)+1) _ ⟨sp,xZ (by lia)⟩
   ·exact rest (10^20) _ ⟨sp,xZ (by decide)⟩
 intro mo H1 ⟨s1,t1⟩;apply cutSH (ok:=λnm G=>Sam H G/\zFs nm)
 ·intro rest;refine⟨_,U,a,_,_,_,U,U,sq (s1 _ _ ha),a3,_,U,v3,R,ns,U,z3.1,z3.2,s1 _ _ eR,l1,okn,λnm H2 an s2=>?_⟩;have s12:=s1.trans s2;have ha2:=s12 _ _ ha;have lw2:=lw.to (.of s12);exists _,U,a,_,_,_,U,U,sq ha2,a3,_,_,U,U,gt5,_,_,U,U,_,rfl;refine ifD (λz=>?_) (λz=>?_);rotate_left
  ·exact yB (rest nm H2 ⟨.of s12,an⟩)
  ·have hmk2:=(Rd.same hmk s12:Rd H2 m (.dK mk));refine⟨_,U,d,.ref m,U,.inl ⟨_,.inr "marks",lw2.at_,U,yS.symm⟩,λp hp=>?_⟩;have sp:=zC hp (.dK []);exists m,p,mk,U,U,Rd.same hmk2 sp,zA,_,rfl;have s13:=s12.trans sp;generalize upd H2 p (.dK [])=G1 at s13 ⊢;cases hem:mk.isEmpty with
   | true=>exact yB (rest nm _ ⟨.of s13,an⟩)
   | false =>
   have lm1:1<=S.marks.length:=by cases mk with | nil=>cases hem | cons _ _=>rw[<- lmk]; exact Nat.le_add_left _ _
   refine yY ?_;have lw3:=lw.to (.of s13);refine⟨_,U,d,.ref m,U,.inl ⟨_,.inr "marks",lw3.at_,U,yS.symm⟩,m,mk,U,Rd.same hmk s13,λp1 hp1=>?_⟩;rw[lrm];have s4:=zC hp1 (.lst ((S.marks.map (·.1)).map V.str));refine⟨p1,S.marks.map (·.1),U,SqL.of zA,(by rw[ac]; have:=few.ma; lia),λp2 ms hp2 pm srt=>?_⟩;have s5:=s4.trans (zC hp2 (.lst (ms.map V.str)));have e5:upd (upd G1 p1 (.lst ((S.marks.map (·.1)).map V.str))) p2 (.lst (ms.map V.str)) p2=some (.lst (ms.map V.str)):=zA;generalize upd (upd G1 p1 (.lst ((S.marks.map (·.1)).map V.str))) p2 (.lst (ms.map V.str))=G2 at s5 e5 ⊢;have s15:=s13.trans s5;have lw5:=lw.to (.of s15);have lms:ms.length=S.marks.length:=by rw[pm.length_eq,ac]
   obtain⟨v,hv,e⟩:=zF7 (vs:=ms.map V.str) (x:=v3/5) (n:=(mk.length:Int)) (by lia) (by rw[ac,lms,lmk]);obtain⟨nn,hn,rfl⟩:=aC.mp hv;exists _,U,a,_,_,_,U,U,sq (s15 _ _ ha),a3,_,_,U,U,zDi.of (by decide) (by decide +kernel),_,U,d,.ref m,U,.inl ⟨_,.inr "marks",lw5.at_,U,yS.symm⟩,m,mk,U,Rd.same hmk s15,_,_,U,U,(by show(0:Int)<(mk.length:Int); lia),p2,_,_,.str nn,rfl,rfl,.inl (SqL.of e5),e;obtain⟨em,hem',enn⟩:=aC.mp (pm.mem_iff.mp hn);exact rest nn _ ⟨.of s15,enn ▸ (wl.names em hem').asc⟩
 intro nm H3 ⟨s3,an⟩;have ha3:=s3.lst id ha;have ct4:zB7 (rows.map V.int) (some ((4:Nat):Int)) none=(rows.drop 4).map V.int:=by rw[zCc,HT.sIx_nat rows.length 0 4,show min 4 rows.length=4 by lia,show HT.sIx rows.length rows.length none=rows.length from rfl,cy (by rw[b9]; lia)]
 have ct4:zB7 (rows.map V.int) (some 4) none=(rows.drop 4).map V.int:=ct4;have fin:∀(p1 p2:af)(G:Hp),Same H3 G->Tin G p1->Tin G p2->∀ w,G w=none->Q (.ref w) (upd G w (.tup [.str "bearing",.int mo,.str nm,.ref p1,.ref p2])):=by
  intro p1 p2 G s4 ⟨x1,y1,e1,tx1,ty1⟩ ⟨x2,y2,e2,tx2,ty2⟩ w hw;have sw:=zC hw (.tup [.str "bearing",.int mo,.str nm,.ref p1,.ref p2]);exact q (.ref w) mo nm x1 y1 x2 y2 _ (s3.trans (.of (s4.trans sw))) (zG0 zA (sw _ _ e1) (sw _ _ e2)) ⟨t1,an,tx1,ty1,tx2,ty2⟩
 refine⟨_,U,_,U,a,_,U,SqL.of ha3,λc hc=>?_⟩;have sc:=zC hc (.lst (zB7 (rows.map V.int) (some 4) none));refine⟨sz2,λe he=>?_⟩;have se:=zC he (.lst [.int 3,.int 100]);have sce:=sc.trans se;obtain⟨v,hv,e3⟩:=zF7 (vs:=[.int 3,.int 100]) (x:=v8) (n:=2) (by decide) rfl;obtain⟨wd,rfl,w1,w2⟩:∃ wd:Int,v=.int wd/\1<=wd/\wd<=100:=by
  simp only[aD,bI,or_false] at hv;rcases hv with rfl | rfl
  ·exact⟨3,U,by decide,by decide⟩
  ·exact⟨100,U,by decide,by decide⟩
 exists _,U,a,_,_,_,U,U,sq (sce _ _ ha3),a8,_,_,U,U,gt2,e,_,_,_,U,U,.inl (SqL.of zA),e3;refine⟨c,rows.drop 4,wd,U,SqL.of (by rw[se _ _ zA,ct4]),(by rw[b9]; lia),(λv hv=>bd v (dO hv)),w1,w2,λt2 p1 p2 A0 A1 B0 B1 H4 s4 et2 e1 e2 tn n1 n2 n3 n4=>?_⟩;have s34:=sce.trans s4;have ti1:Tin H4 p1:=⟨A0,A1,e1,xZ (by lia),xZ (by lia)⟩;have ti2:Tin H4 p2:=⟨B0,B1,e2,xZ (by lia),xZ (by lia)⟩;clear n1 n2 n3 n4 tn e1 e2 sce se sc;exists t2,_,U,SqT.of et2,U,.ref p1,_,U,.ref p2,_,U,rfl;exists _,U,a,_,_,_,U,U,sq (s34 _ _ ha3),a9,_,_,U,U,(by show(0:Int)<40; decide);have y0:0<=v9%40:=by lia
 generalize v9%40=W at y0 ⊢;exists _,U,_,_,U,U,_,rfl;refine ifD (λz=>?_) (λz=>?_);rotate_left
 ·exact⟨_,U,_,U,_,U,_,U,(by show 5<=sizeLine; decide),fin p1 p2 H4 s34 ti1 ti2⟩
 ·have M:Mn H3 H4 p1 p2 []:=⟨s34,ti1,ti2,λv hv=>nomatch hv⟩;refine⟨_,U,_,U,sz2,λu1 hu1=>?_⟩
  replace M:=M.add hu1 M.t2 M.t1
  refine⟨sz2,λi2 hi2=>⟨_,U,sz2,λu2 hu2=>?_⟩⟩
  replace M:=(M.new hi2).add hu2 (Tin.new (by decide) (by decide)) (M.new hi2).t2
  refine⟨_,U,sz2,λi3 hi3=>⟨sz2,λu3 hu3=>?_⟩⟩
  replace M:=(M.new hi3).add hu3 (M.new hi3).t1 (Tin.new (by decide) (by decide))
  refine⟨_,U,_,U,sz2,λu4 hu4=>?_⟩
  replace M:=M.add hu4 M.t1 M.t1
  refine⟨sz2,λi5 hi5=>⟨_,U,sz2,λu5 hu5=>?_⟩⟩
  replace M:=(M.new hi5).add hu5 (Tin.new (by decide) (by decide)) (M.new hi5).t2
  refine⟨_,U,_,U,sz2,λi6 hi6=>⟨sz2,λu6 hu6=>?_⟩⟩
  replace M:=(M.new hi6).add hu6 (M.new hi6).t1 (Tin.new (by decide) (by decide))
  refine⟨(by show 6<=sizeLine; decide),λL hL=>?_⟩
  replace M:=M.new (o:=.lst [.ref u1,.ref u2,.ref u3,.ref u4,.ref u5,.ref u6]) hL
  obtain⟨v,hv,e⟩:=yf2 (vs:=[.ref u1,.ref u2,.ref u3,.ref u4,.ref u5,.ref u6]) y0 (show W<6 by lia);obtain⟨u,p,r',rfl,eu,tp,tr⟩:=M.all v hv;exact⟨_,U,_,U,L,_,_,_,U,U,.inl (SqL.of zA),e,u,_,U,SqT.of eu,U,.ref p,_,U,.ref r',_,U,U,_,U,_,U,_,U,_,U,(by show 5<=sizeLine; decide),fin p r' _ M.same tp tr⟩
def zAt(_:ae):Sp:=λvs H Q _=>∃ x:aA,vs=[.str x]/\zFs x/\∀(b:Bool)(H':Hp),(b=true↔wG x)->Same H H'->Q (.bl b) H'
theorem zKy(F:Fun K "_law_is_name" "_law_is_name" qT f fd)(Z:Zs mg)(CB:Cb P w mg base)  : yQ P w K mg base CX0 1 f fd ["_law_name"] (zAt K):=by
 specialize zKc
 ·obtain⟨x,rfl,_⟩:=h;rfl
 obtain⟨x,rfl,as,q⟩:=h;exists _,(zF (zM (zKs (zC3 zDy zDy yL (zR zAm rfl Z.len wV (zB (pv 0) zI)) yL) (zLc (zR (sS rfl) rfl Z.all zGz (zB (vY (T:=["_law_sign"]) (caps:=[]) ⟨U,by decide +kernel,by decide +kernel,U,bv⟩ rfl (zRy (pv 0)) (λ_=>(qK (i:=0) (show(["_law_sign"]:List aA).Nodup by decide +kernel) rfl (cP rfl))) (λ_=>wP) (λ_=>(sX zWe (pv 0) zK (by with_unfolding_all rfl)))) zI))))))
 try dsimp only[L2.cxOf]
 have hz:x.length<=sizeLine:=aJ as.2 (by decide);have no:¬ wG x->Q (.bl false) H:=λz=>q false H (iff_of_false nofun z) (Same.refl _);exists _,U,x,U,hz,_,_,U,U,_,rfl;refine ifD (λh1=>?_) (λh1=>⟨_,rfl,yB (no λz=>h1 (by have:=z.1; lia))⟩);exists _,_,U,U,_,rfl;refine ifD (λh2=>?_) (λh2=>no λz=>h2 (by have:=z.2.1; lia));have asc:x.cps.all (· < 128)=true:=by
  rw[jA];intro c hm;exact decide_eq_true (as.1 c (fJ.mpr hm))
 refine⟨_,U,x,U,asc,λc D hD=>?_⟩;refine zN4 (xs:=zEq x) (λi σ zs H'=>Same H H'/\H' D=some (.lst zs)/\(∃ bs:List Bool,zs=bs.map V.bl/\bs.length=i/\(bs.all id=true↔∀ c∈x.cps.toList.take i,97<=c/\c<=122))/\i<=x.length/\∃ u0:Option V,σ=[u0])
  ⟨zC hD _,zA,⟨[],rfl,rfl,by simp⟩,br _,none,rfl⟩ (λi σ zs H' ⟨_,e,_⟩=>⟨bv,e⟩) ?_ ?_
 ·rintro i v σ zs H' hi ⟨sH,eD,⟨bs,rfl,lb,ab⟩,hi8,u0,rfl⟩;unfold zEq at hi;rw[av,aH] at hi;obtain⟨n,gn,rfl⟩:=hi;have hil:i<x.length:=by
   have:=(aM.mp gn).1;rw[bK] at this;exact this
  have hn:n<128:=as.1 n (aN gn);exists _,U,_,_,U,rfl;rw[yb8 n hn];refine⟨eD,zW (by rw[ac]; have:=as.2; lia),sH.putNew hD,zA,⟨bs++[decide (97<=n/\n<=122)],by rw[aG]; rfl,by rw[aF,lb]; rfl,?_⟩,hil,_,rfl⟩;rw[iI,aZ,ab,bL,gn];simp only[eX,ir,g7,id,decide_eq_true_eq,aS,my,au];constructor
  ·rintro⟨h1,h2⟩ c (h | rfl)
   ·exact h1 c h
   ·exact h2
  ·exact λh=>⟨λc hc=>h c (.inl hc),h n (.inr rfl)⟩
 ·rintro σ zs H' ⟨sH,eD,⟨bs,rfl,lb,ab⟩,_,u0,rfl⟩;have lc:(zEq x).length=x.cps.toList.length:=ac _;rw[lc,bU] at ab;exact⟨D,bs,U,SqL.of eD,q _ _ (ab.trans ⟨λh=>⟨by lia,by lia,h⟩,λh=>h.2.2⟩) sH⟩
def zC5(_:ae):Sp:=λvs H Q _=>∃ x y:Int,vs=[.int x,.int y]/\∀ b:Bool,(b=true↔zD3 (x,y))->Q (.bl b) H
theorem zT0(F:Fun K "_law_near" "_law_near" zE1 f fd)(Z:Zs mg)(CB:Cb P w mg base)  : yQ P w K mg base CX0 1 f fd ["_law_x","_law_y"] (zC5 K):=by
 specialize zR9
 ·obtain⟨x,y,rfl,_⟩:=h;rfl
 obtain⟨x,y,rfl,q⟩:=h
 refine'⟨_,(zF (zM (zKs (zC3 zDy zDy ?_ (pv 0) yL) (zLc (zC3 zDy zDy ?_ (pv 1) yL))))),?_⟩
 nofun
 have no:¬ zD3 (x,y)->Q (.bl false) H:=λz=>q false (iff_of_false nofun z);exists _,U,_,U,_,_,U,U,_,rfl;refine ifD (λh1=>?_) (λh1=>⟨_,rfl,yB (no λz=>h1 z.1)⟩);exists _,_,U,U,_,rfl;refine ifD (λh2=>?_) (λh2=>no λz=>h2 z.2.1);exists _,U,_,U,_,_,U,U,_,rfl;refine ifD (λh3=>?_) (λh3=>no λz=>h3 z.2.2.1);exact⟨_,_,U,U,q _ (by rw[decide_eq_true_eq]; exact⟨λh4=>⟨h1,h2,h3,h4⟩,λz=>z.2.2.2⟩)⟩
def zXv:Deed->Prop
 | .mark _ _ _=>True
 | .unmark _=>True
 | .move _ _ _=>True
 | _=>False
def zLx(φ:Deed->Prop):Sp:=λvs H Q _=>∃(d:af)(v:V)(S:BS)(D:Deed),vs=[.ref d,v]/\zSz H d S/\Rep H D.dt v/\zEg D/\zJ1 S/\φ D/\∀ H',Sam H H'->Q (.str (zG9 (zT S D))) H'
theorem zXv.cases{D:Deed}(h:zXv D):(∃ n x y,D=.mark n x y)\/(∃ n,D=.unmark n)\/∃ n x y,D=.move n x y:=by
 cases D <;> first | exact h.elim | exact .inl ⟨_,_,_,rfl⟩ | exact .inr (.inl ⟨_,rfl⟩) | exact .inr (.inr ⟨_,_,_,rfl⟩)
theorem sK{b:Bool}{p:Prop}(h:b=true↔p)(e:b=false):¬ p:=λz=>by rw[h.mpr z] at e; cases e
theorem zNa{S:BS}{nm l1 r1:aA}{x y mo:Int}{pl pr:Int×Int}(gl:zQ S l1=some pl)(gr:zQ S r1=some pr):zDe (aft S (.move nm x y)) (.range mo l1 r1)↔(if l1=nm then(x,y) else pl)≠(if r1=nm then(x,y) else pr):=by
 constructor
 ·rintro⟨p,u,h1,h2,h3⟩;rw[vQ,gl] at h1;rw[vQ,gr] at h2;cases h1;cases h2;exact h3
 ·exact λh=>⟨_,_,by rw[vQ,gl]; rfl,by rw[vQ,gr]; rfl,h⟩
def zBt(_:ae):Sp:=zLx zXv
theorem zHf(F:Fun K "_law_mark_word" "_law_mark_word" tM f fd)(Z:Zs mg)(CB:Cb P w mg base)(yCd:Has P w K mg base "_law_near" 1 ["_law_x","_law_y"] (zC5 K))(yBj:Has P w K mg base "_law_is_name" 1 ["_law_name"] (zAt K)):yQ P w K mg base CX0 2 f fd ["_law_m","_law_deed_here"] (zBt K):=by
 specialize vE
 ·obtain⟨d,v,S,D,rfl,_⟩:=h;rfl
 obtain⟨d,v,S,D,rfl,⟨m,b,r,n,lw⟩,hv,tm,wl,mk,q⟩:=h;have say:∀(o:Option Cl)(H':Hp),zT S D=o->Sam H H'->Q (.str (zG9 o)) H':=λo H' e s=>e ▸ q _ s;obtain⟨mk',hm,km⟩:=lw.ma;have lmk:mk'.length=S.marks.length:=by rw[km.length,zAi]
 refine'⟨_,(zD (yI 2 vE.nd ?_)
   (zD (zY ?_ (zD (zY ?_ (zF (zM zK)) zN)
   (zD (zY (zAe (zJ8 (zV hr) (pv 2) (zP (zV hr) (pv 0) zK (λ_ _=>rfl))) (by with_unfolding_all rfl)) (zF (zM zK)) zN)
   (zD (zY ?_ (zF (zM zK)) zN)
   (zF (zM (tP (yJ zIx (zR vT rfl Z.len wV (zB (zP (zV hr) (pv 0) zK (λ_ _=>rfl)) zI)) yL (yW _)) zK zK)))))) zN)
   (zD (zY (zAe (sG (zV hr) (pv 2) (zP (zV hr) (pv 0) zK (λ_ _=>rfl))) (by with_unfolding_all rfl)) (zF (zM zK)) zN)
   (zD (zY ?_ (zF (zM (tP (zBl (zR (zK2 rfl) rfl Z.any zWl (zB (vY (T:=["_law_note"]) (caps:=[("_law_name",2)]) ⟨rfl,by decide +kernel,by decide +kernel,rfl,⟨⟨rfl,rfl,cP rfl⟩,bv⟩⟩ rfl (zJi (zP (zV hr) (pv 0) zK (λ_ _=>rfl))) (λ_=>(zD4 0 (show(["_law_note","_law_name"]:List aA).Nodup by decide +kernel))) (λ_=>wP) (λ_=>(sX (zQ8 (zV hr)) (pv 1) (uJ zEe (pv 0) (sP yL) sI) (by with_unfolding_all rfl)))) zI))) zK zK))) zN)
   (zD (zY ?_ (zF (zM zK)) zN)
   (zD (zAa cw rfl (zJi (zP (zV hr) (pv 0) zK (λ_ _=>rfl))) (zD4 3 vE.nd) (zF (zY (PW.pt (zIi ?_ (zDo (yJ (zQ8 (zV hr)) (pv 2) (uJ zEe (pv 3) (sP yL) sI) (by with_unfolding_all rfl))))) (zD (yI 4 vE.nd ?_)
   (zF (zY (yJ (zOq hr.units0) (zP (zV hr) (zP (zV hr) (pv 0) zK (λ_ _=>rfl)) (pv 4) (λ_ _=>rfl)) (uJ zEe (pv 1) (sP yL) sI) (yW _)) (zF (zM zK)) zN))) zN)))
   (zF (zM zK)))))))),?_⟩
 nofun
 rcases mk.cases with ⟨nm,x,y,rfl⟩ | ⟨nm,rfl⟩ | ⟨nm,x,y,rfl⟩
 ·clear mk q;obtain⟨t,rfl,ht⟩:=zB6 hv;have tq:Sq K H t [.str "mark",.str nm,.int x,.int y]:=.inr (SqT.of ht);exists _,U,t,_,1,.str nm,U,U,tq,U,_,U,t,_,0,.str "mark",U,U,tq,U,U,_,rfl;refine yY ?_;refine⟨_,U,nm,U,tm.1,λbb H1 hb s1=>⟨_,U,?_⟩⟩;cases bb with
  | false=>exact yY (say (some .badName) _ (by simp only[zT,if_pos (sK hb rfl)]) (.of s1))
  | true =>
  have j1:=ao.mpr (hb.mp rfl);refine yB ?_;have hd1:=Rd.same lw.at_ s1;have tq1:Sq K H1 t [.str "mark",.str nm,.int x,.int y]:=.inr (SqT.of (s1 _ _ ht));exists _,U,_,U,d,.ref m,U,.inl ⟨_,.inr "marks",hd1,U,yS.symm⟩,m,_,U,.inl ⟨mk',.inr nm,Rd.same hm s1,U,U⟩,_,rfl;rw[km.isSome,wT,bW];cases e:(zQ S nm).isSome with
  | true=>exact yY (say (some .taken) _ (by simp only[zT,if_neg j1,if_pos e]) (.of s1))
  | false =>
  have j2:¬ (zQ S nm).isSome=true:=by rw[e]; exact aB
  refine yB ?_;refine⟨_,U,t,_,2,.int x,U,U,tq1,U,_,U,t,_,3,.int y,U,U,tq1,U,x,y,U,λbb hb2=>⟨_,U,?_⟩⟩;cases bb with
  | false=>exact yY (say (some .badPlace) _ (by simp only[zT,if_neg j1,if_neg j2,if_pos (sK hb2 rfl)]) (.of s1))
  | true =>
  have j3:=ao.mpr (hb2.mp rfl);refine yB ?_;exists _,U,d,.ref m,U,.inl ⟨_,.inr "marks",hd1,U,yS.symm⟩,m,mk',U,Rd.same hm s1,_,_,U,U,_,rfl;refine ifD (λz=>say (some .full) _ (by simp only[zT,if_neg j1,if_neg j2,if_neg j3,if_pos (show 20<=S.marks.length by lia)]) (.of s1)) (λz=>say (none) _ (by simp only[zT,if_neg j1,if_neg j2,if_neg j3,if_neg (show ¬ 20<=S.marks.length by lia)]) (.of s1))
 ·clear mk q;obtain⟨t,rfl,ht⟩:=sQ hv;have tq:Sq K H t [.str "unmark",.str nm]:=.inr (SqT.of ht);exists _,U,t,_,1,.str nm,U,U,tq,U,_,U,t,_,0,.str "unmark",U,U,tq,U,U,_,rfl;refine yB ?_;exists _,U,_,U,d,.ref m,U,.inl ⟨_,.inr "marks",lw.at_,U,yS.symm⟩,m,_,U,.inl ⟨mk',.inr nm,hm,U,U⟩,_,rfl;rw[km.isSome,wT,bW];cases e:(zQ S nm).isSome with
  | false=>exact yY (say (some .noMark) _ (by simp only[zT,if_pos (show zQ S nm=none by cases h:zQ S nm <;> simp[h] at e ⊢)]) (.refl _))
  | true =>
  have j1:¬ zQ S nm=none:=λz=>by rw[z] at e; cases e
  refine yB ?_;exists _,U,t,_,0,.str "unmark",U,U,tq,U,U,_,rfl;refine yY ?_;obtain⟨nk,hnk,kn⟩:=lw.no;obtain⟨ks,rfl,e1,rk⟩:=zCw kn;have lks:ks.length=S.notes.length:=by have:=congrArg cN e1; rw[ac,ac] at this; exact this
  have few:=wl.good.few;refine⟨_,U,d,.ref n,U,.inl ⟨_,.inr "notes",lw.at_,U,vA.symm⟩,n,_,U,hnk,λo2 H2 fz2=>?_⟩;have s2:Sam H H2:=zF2 hnk fz2;have rk2:=rk.to s2;refine λcc2 D2 hD2=>zN4 (λj σ2 zs2 H''=>yR (λx=>x=D2) H2 H''/\H'' D2=some (.lst zs2)/\(∃ bs:List Bool,zs2=bs.map V.bl/\bs.length=j/\(bs.any id=false↔∀ e∈S.notes.take j,rO nm e.2))/\∃ u2:Option V,σ2=[u2,some (.str nm)])
   ⟨.of (zC hD2 _),zA,⟨[],rfl,rfl,iff_of_true rfl λe he=>(nomatch he)⟩,none,rfl⟩ (λj σ2 zs2 H'' hP=>⟨zPn hP.1 (λz=>by have:=fz2.1; rw[z,hD2] at this; cases this) fz2.1,hP.2.1⟩) ?_ ?_
  ·rintro j x2 σ2 zs2 H'' gx2 ⟨s3,eD3,⟨bs,rfl,lb,ab⟩,u2,rfl⟩;have gx':(ks.map (·.2))[j]?=some x2:=by rw[bp] at gx2; exact gx2
   have npD2:∀ b xs,H2 b=some (.tup xs)->¬ b=D2:=λb xs e z=>by rw[z,hD2] at e; cases e
   obtain⟨dt,gdt,rd⟩:=(rk2.sam s3 npD2).back gx';rw[av,aH] at gdt;obtain⟨e,ge,rfl⟩:=gdt;have kn':=wl.good.note e (aN ge);have lj:j<60:=by have:=(aM.mp ge).1; have:=few.no; lia
   have fin:∀(y:Bool)(Hz:Hp),Same H'' Hz->(y=false↔rO nm e.2)->Hz D2=some (.lst (bs.map V.bl))/\(bs.map V.bl).length<sizeLine/\yR (λx=>x=D2) H2 (upd Hz D2 (.lst (bs.map V.bl++[.bl y])))/\upd Hz D2 (.lst (bs.map V.bl++[.bl y])) D2=some (.lst (bs.map V.bl++[.bl y]))/\(∃ cs:List Bool,bs.map V.bl++[.bl y]=cs.map V.bl/\cs.length=j+1/\(cs.any id=false↔∀ e∈S.notes.take (j+1),rO nm e.2)):=by
    intro y Hz sz hy;have ez:=sz _ _ eD3;refine⟨ez,fe (by rw[ac]; lia : _<=60) (by decide),(s3.trans (.of sz)).trans (uT ez),zA,bs++[y],by rw[aG]; rfl,by rw[aF,lb]; rfl,?_⟩;rw[List.any_append,eK,ab,bL,ge,show [y].any id=y from by cases y <;> rfl,hy];exact⟨λh e' he'=>(aS.mp he').elim (h.1 e') λz=>by rw[au.mp z]; exact h.2,λh=>⟨λe' z=>h e' (dM _ z),h e (aW _ (.head _))⟩⟩
   match hE:e.2,kn',rd with
   | .bearing mo k' x1 y1 x2 y2,kn',rd =>
    obtain⟨c,c1,c2,rfl,hc,hc1,hc2⟩:=xG rd;refine⟨_,U,_,U,_,U,c,_,U,SqT.of hc,(λz=>absurd z.1 (by show ¬ HT.sIx 5 0 (some 2)=0; decide)),λp hp=>?_⟩;have sp:=zC hp (.tup (zB7 [.str "bearing",.int mo,.str k',.ref c1,.ref c2] (some 2) none));refine⟨p,[.str k',.ref c1,.ref c2],nm,U,U,SqT.of zA,λv hv=>?_,?_⟩
    ·rcases aD.mp hv with z | hv
     ·exact .inl ⟨k',z⟩
     rcases aD.mp hv with z | hv
     ·exact .inr ⟨c1,_,z,SqT.of (sp _ _ hc1)⟩
     ·exact .inr ⟨c2,_,au.mp hv,SqT.of (sp _ _ hc2)⟩
    obtain⟨f1,f2,f3,f4,f5⟩:=fin ([V.str k',.ref c1,.ref c2].any (isS nm)) _ sp (by
     rw[hE];show((k' == nm)||(false||(false||false)))=false↔k'≠nm;rw[eK,beq_eq_false_iff_ne];exact and_iff_left rfl)
    exact⟨f1,f2,f3,f4,f5,_,U⟩
   | .range mo l1 r1,kn',rd =>
    obtain⟨c,rfl,hc⟩:=wZ rd;refine⟨_,U,_,U,_,U,c,_,U,SqT.of hc,(λz=>absurd z.1 (by show ¬ HT.sIx 4 0 (some 2)=0; decide)),λp hp=>?_⟩;have sp:=zC hp (.tup (zB7 [.str "range",.int mo,.str l1,.str r1] (some 2) none));refine⟨p,[.str l1,.str r1],nm,U,U,SqT.of zA,λv hv=>?_,?_⟩
    ·rcases aD.mp hv with z | hv
     ·exact .inl ⟨l1,z⟩
     ·exact .inl ⟨r1,au.mp hv⟩
    obtain⟨f1,f2,f3,f4,f5⟩:=fin ([V.str l1,.str r1].any (isS nm)) _ sp (by
     rw[hE];show((l1 == nm)||((r1 == nm)||false))=false↔l1≠nm/\r1≠nm;rw[ji,eK,beq_eq_false_iff_ne,beq_eq_false_iff_ne])
    exact⟨f1,f2,f3,f4,f5,_,U⟩
  ·rintro σ2 zs2 H'' ⟨s3,eD3,⟨bs,rfl,lb,ab⟩,u2,rfl⟩;have lnl:((ks.map λe=>((.inl e.1:Key),e.2)).map (·.2)).length=S.notes.length:=by rw[ac,ac,lks]
   rw[lnl,bU] at ab;have s23:Sam H H'':=yR.over s2 s3 hD2;exists D2,bs,U,SqL.of eD3,_,rfl;cases hb:bs.any id with
   | true=>exact yY (say (some .needed) _ (by simp only[zT,if_neg j1,if_neg (show ¬ ∀ e∈S.notes,rO nm e.2 from λz=>by rw[ab.mpr z] at hb; cases hb)]) s23)
   | false=>exact yB (say (none) _ (by simp only[zT,if_neg j1,if_pos (ab.mp hb)]) s23)
 ·clear mk q;obtain⟨t,rfl,ht⟩:=zCa hv;have tq:Sq K H t [.str "move",.str nm,.int x,.int y]:=.inr (SqT.of ht);exists _,U,t,_,1,.str nm,U,U,tq,U,_,U,t,_,0,.str "move",U,U,tq,U,U,_,rfl;refine yB ?_;exists _,U,_,U,d,.ref m,U,.inl ⟨_,.inr "marks",lw.at_,U,yS.symm⟩,m,_,U,.inl ⟨mk',.inr nm,hm,U,U⟩,_,rfl;rw[km.isSome,wT,bW];cases e:(zQ S nm).isSome with
  | false=>exact yY (say (some .noMark) _ (by simp only[zT,if_pos (show zQ S nm=none by cases h:zQ S nm <;> simp[h] at e ⊢)]) (.refl _))
  | true =>
  have j1:¬ zQ S nm=none:=λz=>by rw[z] at e; cases e
  refine yB ?_;exists _,U,t,_,0,.str "move",U,U,tq,U,U,_,rfl;refine yB ?_;refine⟨_,U,t,_,2,.int x,U,U,tq,U,_,U,t,_,3,.int y,U,U,tq,U,x,y,U,λbb hb2=>⟨_,U,?_⟩⟩;cases bb with
  | false=>exact yY (say (some .badPlace) _ (by simp only[zT,if_neg j1,if_pos (sK hb2 rfl)]) (.refl _))
  | true =>
  have j2:=ao.mpr (hb2.mp rfl);refine yB ?_;obtain⟨nk,hnk,kn⟩:=lw.no;obtain⟨ks,rfl,e1,rk⟩:=zCw kn;have lks:ks.length=S.notes.length:=by have:=congrArg cN e1; rw[ac,ac] at this; exact this
  refine⟨_,U,d,.ref n,U,.inl ⟨_,.inr "notes",lw.at_,U,vA.symm⟩,n,_,U,hnk,λo2 H2 fz2=>?_⟩;have s2:Sam H H2:=zF2 hnk fz2;refine zU0 (λi σ H'=>Sam H H'/\zNw n o2 (ks.map λe=>(.inl e.1,e.2)) H'/\(∀ e∈S.notes.take i,zDe (aft S (.move nm x y)) e.2)/\∃ u u':Option V,σ=[some (.ref d),some (.ref t),some (.str nm),u,u'])
   ⟨s2,fz2.1,λe he=>(nomatch he),none,none,rfl⟩ (λi σ H' h=>h.2.1) ?_ ?_
  ·rintro i x' σ H' gx ⟨s6,fa,ul,u,u',rfl⟩;have gx':(ks.map (·.2))[i]?=some x':=by rw[bp] at gx; exact gx
   obtain⟨dt,gd,rd⟩:=rk.back gx';rw[av,aH] at gd;obtain⟨e,ge,rfl⟩:=gd;have ge:S.notes[i]?=some e:=ge;have mem:=aN ge;have kn:=wl.good.note e mem;have rd3:=rd.to s6;have snoc:zDe (aft S (.move nm x y)) e.2->∀ e'∈S.notes.take (i+1),zDe (aft S (.move nm x y)) e'.2:=λh e' he'=>by
    rw[bL,ge] at he';rcases aS.mp he' with z | z
    ·exact ul e' z
    ·rw[au.mp z]; exact h
   match hE:e.2,kn,rd3 with
   | .bearing mo n x1 y1 x2 y2,kn,rd3 =>
    obtain⟨c,c1,c2,rfl,hc,hc1,hc2⟩:=xG rd3;exists _,U,c,_,0,.str "bearing",U,U,.inr (SqT.of hc),U,U,_,rfl;exact yB ⟨s6,fa,snoc (by rw[hE]; trivial),_,_,rfl⟩
   | .range mo l1 r1,kn,rd3 =>
    obtain⟨c,rfl,hc⟩:=wZ rd3;obtain⟨_,_,i1,i2,nlr⟩:=kn;obtain⟨pl,gl⟩:=aL.mp i1;obtain⟨pr,gr⟩:=aL.mp i2;have st:=zNa (mo:=mo) (nm:=nm) (x:=x) (y:=y) gl gr;have nlr:pl≠pr:=λz=>nlr (by rw[gl,gr,z]);have cq:Sq K H' c [.str "range",.int mo,.str l1,.str r1]:=.inr (SqT.of hc);exists _,U,c,_,0,.str "range",U,U,cq,U,U,_,rfl;refine yY ?_;refine⟨_,U,_,U,_,U,c,_,U,SqT.of hc,(λz=>absurd z.1 (by show ¬ HT.sIx 4 0 (some 2)=0; decide)),λp hp=>?_⟩;have sp:=zC hp (.tup (zB7 [.str "range",.int mo,.str l1,.str r1] (some 2) none));have hc7:=sp _ _ hc;have cq7:Sq K (upd H' p (.tup (zB7 [.str "range",.int mo,.str l1,.str r1] (some 2) none))) c [.str "range",.int mo,.str l1,.str r1]:=.inr (SqT.of hc7);have s7:=s6.trans (.of sp);have fa7:=sp _ _ fa;refine⟨p,[.str l1,.str r1],nm,U,U,SqT.of zA,λv hv=>?_,_,U,?_⟩
    ·rcases aD.mp hv with z | hv
     ·exact .inl ⟨l1,z⟩
     ·exact .inl ⟨r1,au.mp hv⟩
    by_cases z1:l1=nm
    ·subst z1;have z2:¬ r1=l1:=λz=>nlr (by rw[z,gl] at gr; exact a7 gr);rw[if_pos rfl,if_neg z2] at st;rw[show [V.str l1,.str r1].any (isS l1)=true from by show((l1 == l1)||_)=true; rw[beq_self_eq_true]; rfl];refine yY ?_;refine⟨_,U,c,_,2,.str l1,U,U,cq7,U,_,U,U,_,U,ifSt ?_⟩;exists _,U,c,_,3,.str r1,U,U,cq7,rfl;obtain⟨kvs,pa,hkv,t1,t2⟩:=zFq (lw.to s7).ma gr;refine⟨_,U,d,.ref m,U,.inl ⟨_,.inr "marks",(lw.to s7).at_,U,yS.symm⟩,_,U,m,.ref pa,U,.inl ⟨kvs,.inr _,hkv,U,t1.symm⟩,_,U,_,U,t,_,U,SqT.of (s7.tup id ht),(λz=>absurd z.1 (by show ¬ HT.sIx 4 0 (some 2)=0; decide)),λp2 hp2=>?_⟩;have sp2:=zC hp2 (.tup (zB7 [.str "move",.str l1,.int x,.int y] (some 2) none));exists pa,p2,[pr.1,pr.2],[x,y],U,U,SqT.of (sp2 _ _ t2),SqT.of zA,_,rfl;refine ifD (λz=>?_) (λz=>?_)
     ·exact say (some .same) _ (by
       have bad:¬ ∀ e∈S.notes,zDe (aft S (.move l1 x y)) e.2:=λw=>by
        have w:=w _ mem;rw[hE] at w;exact(λ(z:pr.1=x/\pr.2=y) w=>st.mp w (jL z.1.symm z.2.symm)) (by simpa using z) w
       simp only[zT,if_neg j1,if_neg j2,if_neg bad]) (s7.trans (.of sp2))
     ·exact⟨s7.trans (.of sp2),sp2 _ _ fa7,snoc (by rw[hE]; exact(λ(z:¬ (pr.1=x/\pr.2=y))=>st.mpr λw=>z ⟨congrArg (·.1) w.symm,congrArg (·.2) w.symm⟩) (λw=>z (by simpa using w))),_,_,rfl⟩
    by_cases z2:r1=nm
    ·subst z2;rw[if_pos rfl,if_neg z1] at st;rw[show [V.str l1,.str r1].any (isS r1)=true from by show((l1 == r1)||((r1 == r1)||false))=true; rw[beq_self_eq_true,mP,Bool.or_true]];refine yY ?_;refine⟨_,U,c,_,2,.str l1,U,U,cq7,U,_,U,U,_,U,yi5 z1 ?_⟩;exists _,U,c,_,2,.str l1,U,U,cq7,rfl;obtain⟨kvs,pa,hkv,t1,t2⟩:=zFq (lw.to s7).ma gl;refine⟨_,U,d,.ref m,U,.inl ⟨_,.inr "marks",(lw.to s7).at_,U,yS.symm⟩,_,U,m,.ref pa,U,.inl ⟨kvs,.inr _,hkv,U,t1.symm⟩,_,U,_,U,t,_,U,SqT.of (s7.tup id ht),(λz=>absurd z.1 (by show ¬ HT.sIx 4 0 (some 2)=0; decide)),λp2 hp2=>?_⟩;have sp2:=zC hp2 (.tup (zB7 [.str "move",.str r1,.int x,.int y] (some 2) none));exists pa,p2,[pl.1,pl.2],[x,y],U,U,SqT.of (sp2 _ _ t2),SqT.of zA,_,rfl;refine ifD (λz=>?_) (λz=>?_)
     ·exact say (some .same) _ (by
       have bad:¬ ∀ e∈S.notes,zDe (aft S (.move r1 x y)) e.2:=λw=>by
        have w:=w _ mem;rw[hE] at w;exact(λ(z:pl.1=x/\pl.2=y) w=>st.mp w (jL z.1 z.2)) (by simpa using z) w
       simp only[zT,if_neg j1,if_neg j2,if_neg bad]) (s7.trans (.of sp2))
     ·exact⟨s7.trans (.of sp2),sp2 _ _ fa7,snoc (by rw[hE]; exact(λ(z:¬ (pl.1=x/\pl.2=y))=>st.mpr λw=>z ⟨congrArg (·.1) w,congrArg (·.2) w⟩) (λw=>z (by simpa using w))),_,_,rfl⟩
    ·rw[if_neg z1,if_neg z2] at st;rw[show [V.str l1,.str r1].any (isS nm)=false from by show((l1 == nm)||((r1 == nm)||false))=false; rw[beq_eq_false_iff_ne.mpr z1,beq_eq_false_iff_ne.mpr z2]; rfl];exact yB ⟨s7,fa7,snoc (by rw[hE]; exact st.mpr nlr),_,_,rfl⟩
  ·rintro σ H' ⟨s6,fa,ul,u,u',rfl⟩;rw[ac,ac,lks,bU] at ul;exact say none _ (by simp only[zT,if_neg j1,if_neg j2,if_pos ul]) s6
def yi4:Deed->Prop
 | .sail _ _=>True
 | .right _ _ _=>True
 | _=>False
theorem yi4.cases{D:Deed}(h:yi4 D):(∃ x y,D=.sail x y)\/∃ k x y,D=.right k x y:=by
 cases D <;> first | exact h.elim | exact .inl ⟨_,_,rfl⟩ | exact .inr ⟨_,_,_,rfl⟩
def zCn(_:ae):Sp:=zLx yi4
theorem zJu(F:Fun K "_law_run_word" "_law_run_word" rA f fd)(Z:Zs mg)(CB:Cb P w mg base)(yCd:Has P w K mg base "_law_near" 1 ["_law_x","_law_y"] (zC5 K)):yQ P w K mg base CX0 2 f fd ["_law_m","_law_deed_here"] (zCn K):=by
 specialize zJ0
 ·obtain⟨d,v,S,D,rfl,_⟩:=h;rfl
 obtain⟨d,v,S,D,rfl,⟨m,b,r,n,lw⟩,hv,tm,wl,mk,q⟩:=h;obtain⟨rs,hrs,kr⟩:=lw.ru;have lrs:rs.length=S.runs.length:=by rw[kr.length,ac]
 refine'⟨_,(zD (zY ?_ (zD (zY ?_ (zF (zM zK)) zN)
   (zF (zM (tP (yJ zIx (zR yT rfl Z.len wV (zB (zP (zV hr) (pv 0) zK (λ_ _=>rfl)) zI)) yL (yW _)) zK zK)))) zN)
   (zD (zY (zBu (zOd zDy zVv yL ?_ (zR yT rfl Z.len wV (zB (zP (zV hr) (pv 0) zK (λ_ _=>rfl)) zI)))) (zF (zM zK)) zN)
   (zF (zM ?_)))),?_⟩
 nofun
 rcases mk.cases with ⟨x,y,rfl⟩ | ⟨k,x,y,rfl⟩
 ·clear mk;have say:∀(o:Option Cl),zT S (.sail x y)=o->Q (.str (zG9 o)) H:=λo e=>e ▸ q H (.refl _);obtain⟨t,rfl,ht⟩:=zB0 hv;have tq:Sq K H t [.str "sail",.int x,.int y]:=.inr (SqT.of ht);exists _,U,t,_,0,.str "sail",U,U,tq,U,U,_,rfl;refine yY ?_;refine⟨_,U,t,_,1,.int x,U,U,tq,U,_,U,t,_,2,.int y,U,U,tq,U,x,y,U,λbb hb=>⟨_,U,?_⟩⟩;cases bb with
  | false=>exact yY (say (some .badRun) (by simp only[zT,if_pos (sK hb rfl)]))
  | true =>
  have j1:=ao.mpr (hb.mp rfl);refine yB ?_;exists _,U,d,.ref r,U,.inl ⟨_,.inr "runs",lw.at_,U,uL.symm⟩,r,_,U,.inl (SqL.of hrs),_,_,U,U,_,rfl;exact ifD (λz=>say (some .full) (by simp only[zT,if_neg j1,if_pos (show 12<=S.runs.length by lia)])) (λz=>say none (by simp only[zT,if_neg j1,if_neg (show ¬ 12<=S.runs.length by lia)]))
 ·clear mk;have say:∀(o:Option Cl),zT S (.right k x y)=o->Q (.str (zG9 o)) H:=λo e=>e ▸ q H (.refl _);obtain⟨t,rfl,ht⟩:=qH hv;have tq:Sq K H t [.str "right",.int k,.int x,.int y]:=.inr (SqT.of ht);exists _,U,t,_,0,.str "right",U,U,tq,U,U,_,rfl;refine yB ?_;exists _,U,t,_,1,.int k,U,U,tq,U,_,_,U,rfl;exists _,rfl;by_cases k0:0<=k
  ·rw[decide_eq_true k0];refine yY ?_;exists _,U,d,.ref r,U,.inl ⟨_,.inr "runs",lw.at_,U,uL.symm⟩,r,_,U,.inl (SqL.of hrs),_,_,U,U,_,rfl;refine ifN (λz=>say (some .noRun) (by simp only[zT,if_neg (show ¬ (0<=k/\k<S.runs.length) by lia)])) (λz=>?_);have j1:0<=k/\k<S.runs.length:=by lia
   refine⟨_,U,t,_,2,.int x,U,U,tq,U,_,U,t,_,3,.int y,U,U,tq,U,x,y,U,λbb hb=>⟨_,U,?_⟩⟩;cases bb with
   | false=>exact yB (say (some .badRun) (by simp only[zT,if_pos j1,if_neg (sK hb rfl)]))
   | true=>exact yY (say none (by simp only[zT,if_pos j1,if_pos (hb.mp rfl)]))
  ·rw[decide_eq_false k0];exact yB ⟨_,rfl,yY (say (some .noRun) (by simp only[zT,if_neg (show ¬ (0<=k/\k<S.runs.length) by lia)]))⟩
def zZn:Deed->Prop
 | .bearing _ _ _ _ _ _=>True
 | .range _ _ _=>True
 | .strike _=>True
 | _=>False
theorem zZn.cases{D:Deed}(h:zZn D):(∃ k,D=.strike k)\/(∃ m n a b c d,D=.bearing m n a b c d)\/∃ m l r,D=.range m l r:=by
 cases D <;> first | exact h.elim | exact .inl ⟨_,rfl⟩ | exact .inr (.inl ⟨_,_,_,_,_,_,rfl⟩) | exact .inr (.inr ⟨_,_,_,rfl⟩)
theorem cutX{A G B:Prop}(h1:(A->B)->G)(h2:A->B):G:=h1 h2
def zBo(_:ae):Sp:=zLx zZn
theorem zHk(F:Fun K "_law_note_word" "_law_note_word" tK f fd)(Z:Zs mg)(CB:Cb P w mg base)(yBq:Has P w K mg base "_law_turned" 1 ["_law_one","_law_other"] (zB1 K)):yQ P w K mg base CX0 2 f fd ["_law_m","_law_deed_here"] (zBo K):=by
 specialize rH
 ·obtain⟨d,v,S,D,rfl,_⟩:=h;rfl
 obtain⟨d,v,S,D,rfl,⟨m,b,r,n,lw⟩,hv,tm,wl,mk,q⟩:=h;have say:∀(o:Option Cl)(H':Hp),zT S D=o->Sam H H'->Q (.str (zG9 o)) H':=λo H' e s=>e ▸ q _ s;obtain⟨rs,hrs,kr⟩:=lw.ru;have lrs:rs.length=S.runs.length:=by rw[kr.length,ac]
 obtain⟨mk',hm,km⟩:=lw.ma;obtain⟨nk',hn,kn⟩:=lw.no;have lnk:nk'.length=S.notes.length:=by rw[kn.length]; unfold ntE; rw[ac]
 refine'⟨_,(zD (zY ?_ (zF (zM (tP (zAe (zJ8 (zV hr) ?_ (zP (zV hr) (pv 0) zK (λ_ _=>rfl))) (by with_unfolding_all rfl)) zK zK))) zN)
   (zD (zY (zBu (zOd zDy zDy yL ?_ (zR yT rfl Z.len wV (zB (zP (zV hr) (pv 0) zK (λ_ _=>rfl)) zI)))) (zF (zM zK)) zN)
   (zD (zY (PW.pt (zP2 (zAe (sG (zV hr) ?_ (zP (zV hr) (pv 0) zK (λ_ _=>rfl))) (by with_unfolding_all rfl)) (zLd (PW.pt (zIi ?_ (zDo (zAe (sG (zV hr) ?_ (zP (zV hr) (pv 0) zK (λ_ _=>rfl))) (by with_unfolding_all rfl)))))))) (zF (zM zK)) zN)
   (zD (zY (PW.pt (zIi ?_ (zDo (yJ (zOq hr.units0) (zP (zV hr) (zP (zV hr) (pv 0) zK (λ_ _=>rfl)) ?_ (λ_ _=>rfl)) (zP (zV hr) (zP (zV hr) (pv 0) zK (λ_ _=>rfl)) ?_ (λ_ _=>rfl)) (yW _))))) (zF (zM zK)) zN)
   (zD (zY ?_ (zD (zAa cw rfl (zWk (uJ zEe (pv 1) (sP yL) sI)) (zIl rfl (xS (zD4 2 rH.nd) (xS (zD4 3 rH.nd) zBw))) (zF (zY ?_ (zF (zM zK)) zN)))
   (zF (zY ?_ (zF (zM zK)) zN))) zN)
   (zF (zM (tP (yJ zIx (zR vT rfl Z.len wV (zB (zP (zV hr) (pv 0) zK (λ_ _=>rfl)) zI)) yL (yW _)) zK zK)))))))),?_⟩
 nofun
 rcases mk.cases with ⟨k,rfl⟩ | ⟨mo,nm,x1,y1,x2,y2,rfl⟩ | ⟨mo,l1,r1,rfl⟩
 ·clear mk q;obtain⟨t,rfl,ht⟩:=sJ hv;have tq:Sq K H t [.str "strike",.int k]:=.inr (SqT.of ht);exists _,U,t,_,0,.str "strike",U,U,tq,U,U,_,rfl;refine yY ?_;exists _,U,t,_,1,.int k,U,U,tq,U,_,U,d,.ref n,U,.inl ⟨_,.inr "notes",lw.at_,U,vA.symm⟩,n,_,U,.inl ⟨nk',.inl k,hn,U,U⟩,_,rfl;have bn:=zN5 (k:=k) kn;cases e:(wL nk' (.inl k)).isSome with
  | true=>exact yY (say none _ (by simp only[zT,if_pos (show k∈S.notes.map (·.1) from eQ λz=>by rw[bn.mpr z] at e; cases e)]) (.refl _))
  | false=>exact yB (say (some .noNote) _ (by simp only[zT,if_neg (bn.mp (by cases h:wL nk' (.inl k) <;> simp[h] at e ⊢))]) (.refl _))
 ·clear mk q;obtain⟨t,c1,c2,rfl,ht,hc1,hc2⟩:=xG hv;have tq:Sq K H t [.str "bearing",.int mo,.str nm,.ref c1,.ref c2]:=.inr (SqT.of ht);exists _,U,t,_,0,.str "bearing",U,U,tq,U,U,_,rfl;refine yB ?_;have nom:¬ (0<=mo/\mo<=S.runs.length)->Q (.str (zG9 (some .noMoment))) H:=λz=>say _ _ (by simp only[zT,if_pos z]) (.refl _);exists _,U,t,_,1,.int mo,U,U,tq,U,_,_,U,U,_,rfl;refine ifD (λh1=>?_) (λh1=>⟨_,rfl,yY (nom λz=>h1 z.1)⟩);exists _,U,d,.ref r,U,.inl ⟨_,.inr "runs",lw.at_,U,uL.symm⟩,r,_,U,.inl (SqL.of hrs),_,_,U,U,_,rfl;refine ifN (λh2=>nom λz=>h2 (by rw[lrs]; exact z.2)) (λh2=>?_);have j1:=ao.mpr (show 0<=mo/\mo<=S.runs.length from⟨h1,by rw[lrs] at h2; exact h2⟩);exists _,U,t,_,2,.str nm,U,U,tq,U,_,U,d,.ref m,U,.inl ⟨_,.inr "marks",lw.at_,U,yS.symm⟩,m,_,U,.inl ⟨mk',.inr nm,hm,U,U⟩,_,rfl;rw[km.isSome,wT,bW];cases e:(zQ S nm).isSome with
  | false=>exact yY (yY (say (some .noMark) _ (by simp only[zT,if_neg j1,if_pos (show zQ S nm=none by cases h:zQ S nm <;> simp[h] at e ⊢)]) (.refl _)))
  | true =>
  have j2:¬ zQ S nm=none:=λz=>by rw[z] at e; cases e
  refine yB ?_;exists _,U,t,_,0,.str "bearing",U,U,tq,U,U,_,rfl;refine yB (yB ?_);exists _,U,t,_,0,.str "bearing",U,U,tq,U,U,_,rfl;refine yB (yB ?_);exists _,U,t,_,0,.str "bearing",U,U,tq,U,U,_,rfl;refine yY ?_;refine⟨_,U,_,U,t,_,U,SqT.of ht,(λz=>absurd z.1 (by show ¬ HT.sIx 5 0 (some 3)=0; decide)),λp hp=>?_⟩;have sp:=zC hp (.tup (zB7 [.str "bearing",.int mo,.str nm,.ref c1,.ref c2] (some 3) none));have ep:upd H p (.tup (zB7 [.str "bearing",.int mo,.str nm,.ref c1,.ref c2] (some 3) none)) p=some (.tup [.ref c1,.ref c2]):=zA;generalize upd H p (.tup (zB7 [.str "bearing",.int mo,.str nm,.ref c1,.ref c2] (some 3) none))=Hp at sp ep ⊢;exists p,U,⟨_,SqT.of ep⟩;have bad:∀ w∈[(x1,y1),(x2,y2)],¬ zDx w->zT S (.bearing mo nm x1 y1 x2 y2)=some .badWay:=λw hw nw=>by
   rcases aD.mp hw with rfl | hw
   ·simp only[zT,if_neg j1,if_neg j2,if_pos nw]
   ·rw[au.mp hw] at nw;simp only[zT,if_neg j1,if_neg j2,if_pos nw,ite_self]
  refine zR5 (K:=K) (a:=p) (xs:=[.ref c1,.ref c2]) (λi σ H'=>Same Hp H'/\(∀ w∈[(x1,y1),(x2,y2)].take i,zDx w)/\∃ u v:Option V,σ=[some (.ref d),some (.ref t),u,v])
   ⟨Same.refl _,λw hw=>(nomatch hw),_,_,rfl⟩ (λi σ H' _ h=>SqT.of (h.1 _ _ ep)) ?_ ?_
  ·rintro i v σ H' hi ⟨sH,ow,u1,u2,rfl⟩;obtain⟨c,xx,yy,rfl,hc,gw⟩:∃(c:af)(xx yy:Int),v=.ref c/\Hp c=some (.tup [.int xx,.int yy])/\[(x1,y1),(x2,y2)][i]?=some (xx,yy):=by
    match i,hi with
    | 0,hi=>cases hi; exact⟨c1,x1,y1,U,sp _ _ hc1,U⟩
    | 1,hi=>cases hi; exact⟨c2,x2,y2,U,sp _ _ hc2,U⟩
   have mw:=aN gw;exists _,_,U,SqT.of (sH _ _ hc),U,_,_,U,_,_,U,rfl;exists _,U,U,_,rfl;have no:¬ zDx (xx,yy)->Q (.str (zG9 (some .badWay))) H':=λz=>say _ _ (bad _ mw z) (.of (sp.trans sH));refine cutX (A:=xx≠0\/yy≠0) (λmx=>ifE (λhx=>⟨_,rfl,rfl,_,rfl,ifE (λhy=>yY (no λz=>z.1 (by rw[hx,hy]))) (λhy=>mx (.inr hy))⟩) (λhx=>mx (.inl hx))) (λnz=>?_);exists _,U,xx,U,_,U,yy,U,_,_,U,_,_,U,U,_,rfl;have far:¬ (100<if (if yy<0 then -yy else yy)>(if xx<0 then -xx else xx) then(if yy<0 then -yy else yy) else(if xx<0 then -xx else xx))↔(-100<=xx/\xx<=100/\-100<=yy/\yy<=100):=by
    split <;> split <;> split <;> lia
   refine ifD (λh=>no λz=>far.mpr z.2 h) (λh=>⟨sH,λw hw=>?_,_,_,rfl⟩);rw[bL,gw] at hw;rcases aS.mp hw with z | z
   ·exact ow w z
   ·rw[au.mp z];exact⟨λy=>by injection y with y1 y2; exact nz.elim (· y1) (· y2),far.mp h⟩
  ·rintro σ H' ⟨sH,ow,u1,u2,rfl⟩;have w1:zDx (x1,y1):=ow _ (.head _);have w2:zDx (x2,y2):=ow _ (.tail _ (.head _));have j3:=ao.mpr w1;have j4:=ao.mpr w2;have s0:=sp.trans sH;have tq':Sq K H' t [.str "bearing",.int mo,.str nm,.ref c1,.ref c2]:=.inr (SqT.of (s0 _ _ ht));exists _,U,t,_,3,.ref c1,U,U,tq',U,_,U,t,_,4,.ref c2,U,U,tq',U,c1,c2,[.int x1,.int y1],[.int x2,.int y2],x1,y1,x2,y2,U,.inr (SqT.of (s0 _ _ hc1)),.inr (SqT.of (s0 _ _ hc2)),U,U,U,U,(by have:=w1.2; lia),(by have:=w1.2; lia),_,_,rfl,rfl,_,rfl;refine ifD (λh5=>say (some .badTurn) _ (by simp only[zT,if_neg j1,if_neg j2,if_neg j3,if_neg j4,if_pos h5]) (.of s0)) (λh5=>?_);exists _,U,d,.ref n,U,.inl ⟨_,.inr "notes",Rd.same lw.at_ s0,U,vA.symm⟩,n,nk',U,Rd.same hn s0,_,_,U,U,_,rfl;exact ifD (λz=>say (some .full) _ (by simp only[zT,if_neg j1,if_neg j2,if_neg j3,if_neg j4,if_neg h5,if_pos (show 24<=S.notes.length by lia)]) (.of s0)) (λz=>say none _ (by simp only[zT,if_neg j1,if_neg j2,if_neg j3,if_neg j4,if_neg h5,if_neg (show ¬ 24<=S.notes.length by lia)]) (.of s0))
 ·clear mk q;obtain⟨t,rfl,ht⟩:=wZ hv;have tq:Sq K H t [.str "range",.int mo,.str l1,.str r1]:=.inr (SqT.of ht);exists _,U,t,_,0,.str "range",U,U,tq,U,U,_,rfl;refine yB ?_;have nom:¬ (0<=mo/\mo<=S.runs.length)->Q (.str (zG9 (some .noMoment))) H:=λz=>say _ _ (by simp only[zT,if_pos z]) (.refl _);exists _,U,t,_,1,.int mo,U,U,tq,U,_,_,U,U,_,rfl;refine ifD (λh1=>?_) (λh1=>⟨_,rfl,yY (nom λz=>h1 z.1)⟩);exists _,U,d,.ref r,U,.inl ⟨_,.inr "runs",lw.at_,U,uL.symm⟩,r,_,U,.inl (SqL.of hrs),_,_,U,U,_,rfl;refine ifN (λh2=>nom λz=>h2 (by rw[lrs]; exact z.2)) (λh2=>?_);have j1:=ao.mpr (show 0<=mo/\mo<=S.runs.length from⟨h1,by rw[lrs] at h2; exact h2⟩);exists _,U,t,_,2,.str l1,U,U,tq,U,_,U,d,.ref m,U,.inl ⟨_,.inr "marks",lw.at_,U,yS.symm⟩,m,_,U,.inl ⟨mk',.inr l1,hm,U,U⟩,_,rfl;rw[km.isSome,wT,bW];cases e1:zQ S l1 with
  | none=>exact yY (yY (say (some .noMark) _ (by simp only[zT,if_neg j1,if_pos e1]) (.refl _)))
  | some p1 =>
  have j2:¬ zQ S l1=none:=λz=>by rw[z] at e1; cases e1
  refine yB ?_;exists _,U,t,_,0,.str "range",U,U,tq,U,U,_,rfl;refine yY ?_;exists _,U,t,_,3,.str r1,U,U,tq,U,_,U,d,.ref m,U,.inl ⟨_,.inr "marks",lw.at_,U,yS.symm⟩,m,_,U,.inl ⟨mk',.inr r1,hm,U,U⟩,_,rfl;rw[km.isSome,wT,bW];cases e2:zQ S r1 with
  | none=>exact yY (say (some .noMark) _ (by simp only[zT,if_neg j1,if_neg j2,if_pos e2]) (.refl _))
  | some p2 =>
  have j3:¬ zQ S r1=none:=λz=>by rw[z] at e2; cases e2
  refine yB ?_;exists _,U,t,_,0,.str "range",U,U,tq,U,U,_,rfl;refine yY ?_;obtain⟨v1,g1,q1⟩:=km.get (k:=.inr l1) (d:=ptD p1) (by rw[wT,e1]; rfl);obtain⟨v2,g2,q2⟩:=km.get (k:=.inr r1) (d:=ptD p2) (by rw[wT,e2]; rfl);obtain⟨a1,rfl,h1'⟩:=zBv q1;obtain⟨a2,rfl,h2'⟩:=zBv q2;refine⟨_,U,d,.ref m,U,.inl ⟨_,.inr "marks",lw.at_,U,yS.symm⟩,_,U,t,_,2,.str l1,U,U,tq,U,m,_,U,.inl ⟨mk',.inr l1,hm,U,g1.symm⟩,_,U,d,.ref m,U,.inl ⟨_,.inr "marks",lw.at_,U,yS.symm⟩,_,U,t,_,3,.str r1,U,U,tq,U,m,_,U,.inl ⟨mk',.inr r1,hm,U,g2.symm⟩,
   a1,a2,[p1.1,p1.2],[p2.1,p2.2],rfl,rfl,SqT.of h1',SqT.of h2',_,rfl,?_⟩
  refine ifD (λz=>say (some .same) _ (by
   have z:p1=p2:=by simp at z; exact jL z.1 z.2
   simp only[zT,if_neg j1,if_neg j2,if_neg j3,if_pos (show zQ S l1=zQ S r1 by rw[e1,e2,z])]) (.refl _)) (λz=>?_)
  have j4:¬ zQ S l1=zQ S r1:=by
   rw[e1,e2];exact λy=>z (by cases y; rfl)
  exists _,U,t,_,0,.str "range",U,U,tq,U,U,_,rfl;refine yB ?_;exists _,U,d,.ref n,U,.inl ⟨_,.inr "notes",lw.at_,U,vA.symm⟩,n,nk',U,hn,_,_,U,U,_,rfl;exact ifD (λz=>say (some .full) _ (by simp only[zT,if_neg j1,if_neg j2,if_neg j3,if_neg j4,if_pos (show 24<=S.notes.length by lia)]) (.refl _)) (λz=>say none _ (by simp only[zT,if_neg j1,if_neg j2,if_neg j3,if_neg j4,if_neg (show ¬ 24<=S.notes.length by lia)]) (.refl _))
def DR(H:Hp):Nat->V->V->Prop
 | 0,x,y=>x=y/\((∃ i,x=.int i)\/(∃ b,x=.bl b)\/(∃ z,x=.str z)\/x=.non)
 | n+1,x,y=>(x=y/\((∃ i,x=.int i)\/(∃ b,x=.bl b)\/(∃ z,x=.str z)\/x=.non))\/∃(a b:af)(xs ys:List V)(l:Bool),x=.ref a/\y=.ref b/\H a=some (if l then .lst xs else .tup xs)/\H b=some (if l then .lst ys else .tup ys)/\xs.length=ys.length/\xs.length<=1000 /\
   ∀(i:Nat)(u v:V),xs[i]?=some u->ys[i]?=some v->DR H n u v
theorem DR.same{H H':Hp}(e:Same H H'):∀{n:Nat}{x y:V},DR H n x y->DR H' n x y
 | 0,_,_,h=>h
 | n+1,x,y,h=>by
  rcases h with h | ⟨a,b,xs,ys,l,e1,e2,h1,h2,h3,h4,h5⟩
  ·exact .inl h
  ·exact .inr ⟨a,b,xs,ys,l,e1,e2,e _ _ h1,e _ _ h2,h3,h4,λi u v g1 g2=>DR.same e (h5 i u v g1 g2)⟩
theorem DR.int{H:Hp}{n:Nat}{x y:Int}(h:x=y):DR H n (.int x) (.int y):=by
 subst h;cases n with
 | zero=>exact⟨U,.inl ⟨x,U⟩⟩
 | succ m=>exact .inl ⟨rfl,.inl ⟨x,rfl⟩⟩
theorem DR.bl{H:Hp}{n:Nat}{x y:Bool}(h:x=y):DR H n (.bl x) (.bl y):=by
 subst h;cases n with
 | zero=>exact⟨U,.inr (.inl ⟨x,U⟩)⟩
 | succ m=>exact .inl ⟨rfl,.inr (.inl ⟨x,rfl⟩)⟩
theorem DR.tupI{H:Hp}{n:Nat}{a b:af}{xs ys:List Int}(h1:H a=some (.tup (xs.map V.int)))(h2:H b=some (.tup (ys.map V.int)))(e:xs=ys)(hl:xs.length<=1000):DR H (n+1) (.ref a) (.ref b):=by
 subst e;refine .inr ⟨a,b,xs.map V.int,xs.map V.int,false,rfl,rfl,h1,h2,rfl,by rw[ac]; exact hl,λi u v g1 g2=>?_⟩;rw[g1] at g2;cases g2;obtain⟨m,_,rfl⟩:=zDh g1;exact DR.int rfl
theorem DR.str{H:Hp}{n:Nat}{x y:aA}(h:x=y):DR H n (.str x) (.str y):=by
 subst h;cases n with
 | zero=>exact⟨U,.inr (.inr (.inl ⟨x,U⟩))⟩
 | succ m=>exact .inl ⟨rfl,.inr (.inr (.inl ⟨x,rfl⟩))⟩
theorem DR.non{H:Hp}{n:Nat} : DR H n .non .non:=by
 cases n with
 | zero=>exact⟨U,.inr (.inr (.inr rfl))⟩
 | succ m=>exact .inl ⟨rfl,.inr (.inr (.inr rfl))⟩
theorem zWz{H:Hp} : ∀(n:Nat)(d:Dt){x y:V},zI5 n d->Rep H d x->Rep H d y->DR H n x y
 | n,.int i,x,y,_,h1,h2=>by rw[zZ.mp h1,zZ.mp h2]; exact DR.int rfl
 | n,.str z,x,y,_,h1,h2=>by rw[zU.mp h1,zU.mp h2]; exact DR.str rfl
 | 0,.tup _,_,_,h,_,_=>h.elim
 | n+1,.tup l,x,y,h,h1,h2=>by
  obtain⟨a,xs,rfl,ha,ra⟩:=yD.mp h1;obtain⟨b,ys,rfl,hb,rb⟩:=yD.mp h2;have hl:l.length<=900:=h.1;refine .inr ⟨a,b,xs,ys,false,rfl,rfl,ha,hb,by rw[ra.length,rb.length],by rw[ra.length]; lia,λi u v g1 g2=>?_⟩;obtain⟨d,e1,r1⟩:=ra.back g1;obtain⟨d',e2,r2⟩:=rb.back g2;rw[e1] at e2;cases e2;exact zWz n d (h.2 d (aN e1)) r1 r2
theorem reps_dr{H:Hp}{n:Nat}{l:List Dt}{a b:af}{xs ys:List V}(h:∀ d∈l,zI5 n d)(hl:l.length<=900)(ha:H a=some (.lst xs))(hb:H b=some (.lst ys))(ra:wC H l xs)(rb:wC H l ys):DR H (n+1) (.ref a) (.ref b):=by
 refine .inr ⟨a,b,xs,ys,true,rfl,rfl,ha,hb,by rw[ra.length,rb.length],by rw[ra.length]; lia,λi u v g1 g2=>?_⟩;obtain⟨d,e1,r1⟩:=ra.back g1;obtain⟨d',e2,r2⟩:=rb.back g2;rw[e1] at e2;cases e2;exact zWz n d (h d (aN e1)) r1 r2
def zJx:Nat->Sp
 | 0=>λ_ _ _ _=>False
 | n+1=>λvs H Q _=>∃(x y:V),vs=[x,y]/\DR H n x y/\∀ H',Same H H'->Q (.bl true) H'
def zG3(_:ae):Sp:=zJx 6
structure KT(K:ae)(ty:ag)(bb bi bl bt bs:Bool):Prop where
 b:cJ K ty (.type "bool")=some bb
 i:cJ K ty (.type "int")=some bi
 l:cJ K ty (.type "list")=some bl
 t:cJ K ty (.type "tuple")=some bt
 s:cJ K ty (.type "str")=some bs
theorem zOw{f:af}{fd:bP}(F:Fun K "_law_same" "_law_same" zC7 f fd)(Z:Zs mg)(bS:zC6 K fd ["_law_told","_law_due_here"] [])(kS:bV K (.ref f)=true)(mS:mg "_law_same" = some (.ref f)) :
  ∀ n:Nat,yQ P w K mg base CX0 n f fd ["_law_told","_law_due_here"] (zJx n)
 | 0=>⟨λ_ _ _ _ h=>h.elim,λ_ _ _ _ _ _ _ _ _ _ _ _ _ h=>h.elim⟩
 | n+1=>by
  have ih:=zOw F Z bS kS mS n;have yBz:Has P w K mg base "_law_same" n ["_law_told","_law_due_here"] (zJx n):=⟨f,fd,ih,bS,kS,mS⟩
  specialize zTb
  ·obtain⟨x,y,rfl,_⟩:=h;rfl
  obtain⟨x,y,rfl,hD,q⟩:=h;have hr_self:=hr
  refine'⟨_,(zD (zY ?_ (zF (zM zHl)) zN)
   (zD (zY ?_ (zF (zM zHl)) zN)
   (zD (zY ?_ (zF (zM ?_)) zN)
   (zF (zM (zKs ?_ (zLc (zR (sS rfl) rfl Z.all zGz (zB (vY (T:=["_law_one","_law_other"]) (caps:=[]) ⟨rfl,by decide +kernel,by decide +kernel,rfl,bv⟩ rfl (yd5 rfl Z.zip (zB (pv 0) (zB (pv 1) zI))) (λ_=>(zIl rfl (xS (zD4 0 (show(["_law_one","_law_other"]:List aA).Nodup by decide +kernel)) (xS (zD4 1 (show(["_law_one","_law_other"]:List aA).Nodup by decide +kernel)) zBw)))) (λ_=>wP) (λ_=>(uB yBz hr_self rfl (zB (pv 0) (zB (pv 1) zI))))) zI))))))))),?_⟩
  nofun
  have kinds:∃(t:ag)(bb bi bl bt bs:Bool),TyOf K H x t/\TyOf K H y t/\KT K t bb bi bl bt bs/\((bl=false/\bt=false/\x=y/\((∃ i,x=.int i)\/(∃ b,x=.bl b)\/(∃ z,x=.str z)\/x=.non)) \/
    ∃(m:Nat)(a b:af)(xs ys:List V)(l:Bool),bl=l/\bt = !l/\n=m+1/\x=.ref a/\y=.ref b/\H a=some (if l then .lst xs else .tup xs)/\H b=some (if l then .lst ys else .tup ys)/\xs.length=ys.length/\xs.length<=1000 /\
     ∀(i:Nat)(u v:V),xs[i]?=some u->ys[i]?=some v->DR H m u v):=by
   have ye8:(x=y/\((∃ i,x=.int i)\/(∃ b,x=.bl b)\/(∃ z,x=.str z)\/x=.non))->∃(t:ag)(bb bi bl bt bs:Bool),TyOf K H x t/\TyOf K H y t/\KT K t bb bi bl bt bs/\(bl=false/\bt=false/\x=y/\((∃ i,x=.int i)\/(∃ b,x=.bl b)\/(∃ z,x=.str z)\/x=.non)):=λh=>by
    obtain⟨rfl,h⟩:=h;rcases h with ⟨i,rfl⟩ | ⟨b,rfl⟩ | ⟨z,rfl⟩ | rfl
    ·exact⟨_,_,_,_,_,_,.int i,.int i,⟨U,U,U,U,U⟩,U,U,U,.inl ⟨i,U⟩⟩
    ·exact⟨_,_,_,_,_,_,.bl b,.bl b,⟨U,U,U,U,U⟩,U,U,U,.inr (.inl ⟨b,U⟩)⟩
    ·exact⟨_,_,_,_,_,_,.str z,.str z,⟨U,U,U,U,U⟩,U,U,U,.inr (.inr (.inl ⟨z,U⟩))⟩
    ·exact⟨_,_,_,_,_,_,.non,.non,⟨U,U,U,U,U⟩,U,U,U,.inr (.inr (.inr rfl))⟩
   cases n with
   | zero =>
    obtain⟨t,bb,bi,bl,bt,bs,h1,h2,h3,h4⟩:=ye8 hD;exact⟨t,bb,bi,bl,bt,bs,h1,h2,h3,.inl h4⟩
   | succ m =>
    rcases hD with h | ⟨a,b,xs,ys,l,e1,e2,h1,h2,h3,h4,h5⟩
    ·obtain⟨t,bb,bi,bl,bt,bs,h1,h2,h3,h4⟩:=ye8 h;exact⟨t,bb,bi,bl,bt,bs,h1,h2,h3,.inl h4⟩
    ·subst e1 e2;cases l with
     | true=>exact⟨_,_,_,_,_,_,.lst h1,.lst h2,⟨U,U,U,U,U⟩,.inr ⟨m,a,b,xs,ys,true,U,U,U,U,U,h1,h2,h3,h4,h5⟩⟩
     | false=>exact⟨_,_,_,_,_,_,.tup h1,.tup h2,⟨U,U,U,U,U⟩,.inr ⟨m,a,b,xs,ys,false,U,U,U,U,U,h1,h2,h3,h4,h5⟩⟩
  obtain⟨t,bb,bi,bl,bt,bs,tx,ty,kt,rest⟩:=kinds;exists _,U,_, "bool",t,bb,U,tx,kt.b,_,U,_, "bool",t,bb,U,ty,kt.b,U,_,rfl;refine ifN (λz=>absurd rfl z) (λ_=>?_);exists _,U,_, "int",t,bi,U,tx,kt.i,_,U,_, "int",t,bi,U,ty,kt.i,U,_,rfl;refine ifN (λz=>absurd rfl z) (λ_=>?_);exists _,U,_, "list",t,bl,U,tx,kt.l,_,U,_, "list",t,bl,U,ty,kt.l,U,_,rfl;refine ifN (λz=>absurd rfl z) (λ_=>?_);exists _,U,_, "tuple",t,bt,U,tx,kt.t,_,U,_, "tuple",t,bt,U,ty,kt.t,U,_,rfl;refine ifN (λz=>absurd rfl z) (λ_=>?_);exists _,U,_, "list",t,bl,U,ty,kt.l,_,rfl;rcases rest with ⟨rfl,rfl,rfl,hs⟩ | ⟨m,a,b,xs,ys,l,rfl,rfl,rfl,rfl,rfl,ha,hb,hlen,h1000,hel⟩
  ·refine yY ?_;exists _,U,_, "tuple",t,false,U,ty,kt.t,_,rfl;refine yY ?_;exists _,U,_, "str",t,bs,U,tx,kt.s,_,U,_, "str",t,bs,U,ty,kt.s,U,_,rfl;rw[decide_eq_true rfl];refine yY ?_;refine⟨_,U,_,U,?_,?_⟩
   ·rcases hs with ⟨i,rfl⟩ | ⟨b,rfl⟩ | ⟨z,rfl⟩ | rfl <;> rfl
   ·rw[decide_eq_true rfl];exact q H (Same.refl H)
  ·have SA:SqB bl K H a xs:=by
    cases bl
    ·exact SqT.of ha
    ·exact SqL.of ha
   have SB:SqB bl K H b ys:=by
    cases bl
    ·exact SqT.of hb
    ·exact SqL.of hb
   have SA':SqL K H a xs\/SqT K H a xs:=by
    cases bl
    ·exact .inr SA
    ·exact .inl SA
   have SB':SqL K H b ys\/SqT K H b ys:=by
    cases bl
    ·exact .inr SB
    ·exact .inl SB
   have keep:∀(H':Hp),Same H H'->SqB bl K H' a xs/\SqB bl K H' b ys:=λH' e=>by
    cases bl
    ·exact⟨SqT.same SA e,SqT.same SB e⟩
    ·exact⟨e.seq SA,e.seq SB⟩
   cases hbl:bl with
   | true =>
    refine yB ?_;refine yB ?_;exists _,U,a,xs,U,SA',_,U,b,ys,U,SB',U,_,rfl;rw[decI (by rw[hlen])];refine yY ?_;refine⟨_,U,_,U,bl,bl,a,b,xs,ys,U,SA,SB,λc D hD=>zMc (K:=K) (xs:=xs) (ys:=ys) (λi σ zs H'=>Same H H'/\H' D=some (.lst zs)/\zs=(bz i true).map V.bl/\i<=xs.length/\∃ u v,σ=[u,v])
     ⟨zC hD _,zA,rfl,br _,none,none,rfl⟩ (λi σ zs H' ⟨e,e2,_⟩=>⟨(keep H' e).1,(keep H' e).2,e2⟩) ?_ ?_⟩
    ·rintro i u v T σ zs H' hu hv hT ⟨e,e2,rfl,hi,o1,o2,rfl⟩;have hil:i<xs.length:=(aM.mp hu).1;have s2:=zC hT (.tup [u,v]);refine⟨T,[u,v],U,SqT.of zA,U,u,[v],U,v,[],U,U,_,U,_,U,u,v,U,(hel i u v hu hv).same (e.trans s2),λH4 s4=>?_⟩;have e4:=s4 _ _ (s2 _ _ e2);refine⟨e4,zW (by rw[ac,cR]; lia),λp o z=>?_,zA,?_,hil,_,_,rfl⟩
     ·rw[zH (zJ z hD)];exact s4 _ _ (s2 _ _ (e _ _ z))
     ·rw[i4,aG];rfl
    ·rintro σ zs H' ⟨e,e2,rfl,hi,o1,o2,rfl⟩;exists D,bz (min xs.length ys.length) true,U,SqL.of e2;rw[show(bz (min xs.length ys.length) true).all id=true from by simp];exact q _ e
   | false =>
    refine yY ?_;exists _,U,_, "tuple",t,true,U,ty,kt.t.trans (by rw[hbl]; rfl),_,rfl;refine yB ?_;exists _,U,a,xs,U,SA',_,U,b,ys,U,SB',U,_,rfl;rw[decI (by rw[hlen])];refine yY ?_;refine⟨_,U,_,U,bl,bl,a,b,xs,ys,U,SA,SB,λc D hD=>zMc (K:=K) (xs:=xs) (ys:=ys) (λi σ zs H'=>Same H H'/\H' D=some (.lst zs)/\zs=(bz i true).map V.bl/\i<=xs.length/\∃ u v,σ=[u,v])
     ⟨zC hD _,zA,rfl,br _,none,none,rfl⟩ (λi σ zs H' ⟨e,e2,_⟩=>⟨(keep H' e).1,(keep H' e).2,e2⟩) ?_ ?_⟩
    ·rintro i u v T σ zs H' hu hv hT ⟨e,e2,rfl,hi,o1,o2,rfl⟩;have hil:i<xs.length:=(aM.mp hu).1;have s2:=zC hT (.tup [u,v]);refine⟨T,[u,v],U,SqT.of zA,U,u,[v],U,v,[],U,U,_,U,_,U,u,v,U,(hel i u v hu hv).same (e.trans s2),λH4 s4=>?_⟩;have e4:=s4 _ _ (s2 _ _ e2);refine⟨e4,zW (by rw[ac,cR]; lia),λp o z=>?_,zA,?_,hil,_,_,rfl⟩
     ·rw[zH (zJ z hD)];exact s4 _ _ (s2 _ _ (e _ _ z))
     ·rw[i4,aG];rfl
    ·rintro σ zs H' ⟨e,e2,rfl,hi,o1,o2,rfl⟩;exists D,bz (min xs.length ys.length) true,U,SqL.of e2;rw[show(bz (min xs.length ys.length) true).all id=true from by simp];exact q _ e
theorem zRv(F:Fun K "_law_same" "_law_same" zC7 f fd)(Z:Zs mg)(bS:zC6 K fd ["_law_told","_law_due_here"] [])(kS:bV K (.ref f)=true)(mS:mg "_law_same" = some (.ref f)):yQ P w K mg base CX0 6 f fd ["_law_told","_law_due_here"] (zG3 K):=zOw F Z bS kS mS 6
def zHz(_:ae):Sp:=λvs H Q _=>∃(d:af)(v:V)(S:BS)(D:Deed),vs=[.ref d,v]/\Rep H D.dt v/\zSz H d S/\okD S D/\Few S/\zUm S /\
 ∀(d':af)(H':Hp),Same H H'->H d'=none->LwN H H' d' (aft S D)->Q (.ref d') H'
theorem zPt(F:Fun K "_law_after" "_law_after" zCj f fd)(Z:Zs mg)(CB:Cb P w mg base)  : yQ P w K mg base CX0 1 f fd ["_law_m","_law_deed_here"] (zHz K):=by
 specialize zIr
 ·obtain⟨d,v,S,D,rfl,_⟩:=h;rfl
 obtain⟨d,v,S,D,rfl,rep,⟨m,b,r,n,lw⟩,ok,few,fr,q⟩:=h;obtain⟨mk,hm,km⟩:=lw.ma;obtain⟨bk,hb,kb⟩:=lw.ba;obtain⟨rs,hr1,kr⟩:=lw.ru;obtain⟨nk,hn,kn⟩:=lw.no;have lm:mk.length=S.marks.length:=by rw[km.length,zAi]
 have ln:nk.length=S.notes.length:=by rw[kn.length,zRt]
 have lr:rs.length=S.runs.length:=by rw[kr.length,ac]
 have fm:=few.ma;have fr':=few.ru;have fn:=few.no;have fb:=few.ba;have lb:bk.length=S.banks.length:=by rw[kb.length,zI6]
 have dg:∀{H':Hp}{k:aA}{x:V},Same H H'->wL (lwK m b r n S.coming) (.inr k)=some x->zUo H' d (.str k) (some x):=λ{H' k x} s e=>.inl ⟨_,.inr k,Rd.same lw.at_ s,rfl,e.symm⟩
 refine'⟨_,(zD (yI 2 zIr.nd (zNp (wB zK (xB rR rfl Z.dict zB2 (zB (zP (zV hr) (pv 0) zK (λ_ _=>rfl)) zI)) (wB zK (xB rR rfl Z.dict zB2 (zB (zP (zV hr) (pv 0) zK (λ_ _=>rfl)) zI)) (wB zK (xB zAp rfl Z.list zAl (zB (zP (zV hr) (pv 0) zK (λ_ _=>rfl)) zI)) zNg))) rfl rfl (λz=>nomatch z) (by decide)))
   (zD (rG (zV hr) (pv 2) zK (xB rR rfl Z.dict zB2 (zB (zP (zV hr) (pv 0) zK (λ_ _=>rfl)) zI)) rfl)
   (zD (rG (zV hr) (pv 2) zK (zP (zV hr) (pv 0) zK (λ_ _=>rfl)) rfl)
   (zD (zY (yJ rS ?_ ?_ (by with_unfolding_all rfl)) (zF (rG (zV hr) (zP (zV hr) (pv 2) zK (λ_ _=>rfl)) ?_ (uJ zEe (pv 1) (sP yL) sI) rfl)) (zF (zY ?_ (zF (yA (zE6 (zP (zV hr) (pv 2) zK (λ_ _=>rfl)) ?_ ⟨rfl,rfl,rfl,rfl⟩))) (zF (zY ?_ (zF (rG (zV hr) (zP (zV hr) (pv 2) zK (λ_ _=>rfl)) ?_ ?_ rfl)) (zF (zY ?_ (zF (yA (zE6 (zP (zV hr) (pv 2) zK (λ_ _=>rfl)) ?_ ⟨rfl,rfl,rfl,rfl⟩))) (zF (zY ?_ (zF (yA (zNm (zP (zV hr) (pv 2) zK (λ_ _=>rfl)) (zB (uJ zEe (pv 1) (sP yL) sI) zI)))) (zF (zY ?_ (zF (zR7 (uJ zEe (pv 1) (sP yL) sI) (yd3 (zP (zV hr) (pv 2) zK (λ_ _=>rfl)) ?_ zVs))) (zF (zY ?_ (zF (yA (zE6 (zP (zV hr) (pv 2) zK (λ_ _=>rfl)) ?_ ⟨rfl,rfl,rfl,rfl⟩))) (zD (rG (zV hr) (zP (zV hr) (pv 2) zK (λ_ _=>rfl)) (zP (zV hr) (pv 0) zK (λ_ _=>rfl)) (pv 1) rfl)
   (zF (rG (zV hr) (pv 2) zK (wH zBs (zP (zV hr) (pv 0) zK (λ_ _=>rfl)) yL) rfl))))))))))))))))
   (zF (zM (pv 2))))))),?_⟩
 nofun
 intro p hp;have s1:=zC hp (.dK []);refine⟨_,U,d,.ref m,U,dg s1 yS,m,mk,U,Rd.same hm s1,λmc hmc=>?_⟩;have s2:=s1.trans (zC hmc (.dK mk));refine⟨_,U,d,.ref b,U,dg s2 qW,b,bk,U,Rd.same hb s2,λbc hbc=>?_⟩;have s3:=s2.trans (zC hbc (.dK bk));refine⟨_,U,d,.ref r,U,dg s3 uL,r,rs,U,.inl (SqL.of (s3 _ _ hr1)),λrc hrc=>?_⟩;have s4:=s3.trans (zC hrc (.lst rs));have ep1:upd H p (.dK []) p=some (.dK []):=zA;have npm:p≠mc:=zJ ep1 hmc;have ep2:=(zC hmc (.dK mk)) _ _ ep1;have em2:upd (upd H p (.dK [])) mc (.dK mk) mc=some (.dK mk):=zA;have npb:p≠bc:=zJ ep2 hbc;have nmb:mc≠bc:=zJ em2 hbc;have ep3:=(zC hbc (.dK bk)) _ _ ep2;have em3:=(zC hbc (.dK bk)) _ _ em2;have eb3:upd (upd (upd H p (.dK [])) mc (.dK mk)) bc (.dK bk) bc=some (.dK bk):=zA;have npr:p≠rc:=zJ ep3 hrc;have nmr:mc≠rc:=zJ em3 hrc;have nbr:bc≠rc:=zJ eb3 hrc;have ep4:=(zC hrc (.lst rs)) _ _ ep3;have em4:=(zC hrc (.lst rs)) _ _ em3;have eb4:=(zC hrc (.lst rs)) _ _ eb3;have er4:upd (upd (upd (upd H p (.dK [])) mc (.dK mk)) bc (.dK bk)) rc (.lst rs) rc=some (.lst rs):=zA;generalize upd (upd (upd (upd H p (.dK [])) mc (.dK mk)) bc (.dK bk)) rc (.lst rs)=H4 at s4 ep4 em4 eb4 er4;exists ep4,[(.inr "marks",.ref mc),(.inr "banks",.ref bc),(.inr "runs",.ref rc)],U,(show 3<=15 by decide);rw[zRm];have s5:Same H (upd H4 p (.dK [(.inr "marks",.ref mc),(.inr "banks",.ref bc),(.inr "runs",.ref rc)])):=λx o e=>by rw[zH (zJ e hp)]; exact s4 x o e
 refine⟨_,U,d,.ref n,U,dg s5 vA,n,nk,U,Rd.same hn s5,λnc hnc=>?_⟩;have npn:p≠nc:=zJ zA hnc;have hnc4:H4 nc=none:=by rw[zH npn.symm] at hnc; exact hnc
 have nmn:mc≠nc:=zJ em4 hnc4;have nbn:bc≠nc:=zJ eb4 hnc4;have nrn:rc≠nc:=zJ er4 hnc4;have s6:=s5.trans (zC hnc (.dK nk));exists _,U,p,_,U,zMb.k (k:=.inr "notes") (by rw[zH npn,zA]) (zW (by show 3<=1000; decide));rw[zXo];have s7:Same H (upd (upd (upd H4 p (.dK [(.inr "marks",.ref mc),(.inr "banks",.ref bc),(.inr "runs",.ref rc)])) nc (.dK nk)) p (.dK [(.inr "marks",.ref mc),(.inr "banks",.ref bc),(.inr "runs",.ref rc),(.inr "notes",.ref nc)])):=λx o e=>by rw[zH (zJ e hp)]; exact s6 x o e
 exists _,U,d,.int S.coming,U,dg s7 qQ,_,U,p,_,U,zMb.k (k:=.inr "next") zA (zW (by show 4<=1000; decide));rw[zYz];have keep:∀ x o,x≠p->x≠nc->H4 x=some o->upd (upd (upd (upd H4 p (.dK [(.inr "marks",.ref mc),(.inr "banks",.ref bc),(.inr "runs",.ref rc)])) nc (.dK nk)) p (.dK [(.inr "marks",.ref mc),(.inr "banks",.ref bc),(.inr "runs",.ref rc),(.inr "notes",.ref nc)])) p (.dK [(.inr "marks",.ref mc),(.inr "banks",.ref bc),(.inr "runs",.ref rc),(.inr "notes",.ref nc),(.inr "next",.int S.coming)]) x=some o:=λx o h1 h2 e=>by
  rw[zH h1,zH h1,zH h2,zH h1]; exact e
 have em:=keep _ _ npm.symm nmn em4;have eb:=keep _ _ npb.symm nbn eb4;have er:=keep _ _ npr.symm nrn er4;have s8:Same H _:=λx o e=>keep x o (zJ e hp) (zJ (s5 _ _ e) hnc) (s4 _ _ e);have en:upd (upd (upd (upd H4 p (.dK [(.inr "marks",.ref mc),(.inr "banks",.ref bc),(.inr "runs",.ref rc)])) nc (.dK nk)) p (.dK [(.inr "marks",.ref mc),(.inr "banks",.ref bc),(.inr "runs",.ref rc),(.inr "notes",.ref nc)])) p (.dK [(.inr "marks",.ref mc),(.inr "banks",.ref bc),(.inr "runs",.ref rc),(.inr "notes",.ref nc),(.inr "next",.int S.coming)]) nc=some (.dK nk):=by rw[zH npn.symm,zH npn.symm,zA]
 have ep:upd (upd (upd (upd H4 p (.dK [(.inr "marks",.ref mc),(.inr "banks",.ref bc),(.inr "runs",.ref rc)])) nc (.dK nk)) p (.dK [(.inr "marks",.ref mc),(.inr "banks",.ref bc),(.inr "runs",.ref rc),(.inr "notes",.ref nc)])) p (.dK [(.inr "marks",.ref mc),(.inr "banks",.ref bc),(.inr "runs",.ref rc),(.inr "notes",.ref nc),(.inr "next",.int S.coming)]) p=some (.dK [(.inr "marks",.ref mc),(.inr "banks",.ref bc),(.inr "runs",.ref rc),(.inr "notes",.ref nc),(.inr "next",.int S.coming)]):=zA;clear keep s7 s6;generalize upd (upd (upd (upd H4 p (.dK [(.inr "marks",.ref mc),(.inr "banks",.ref bc),(.inr "runs",.ref rc)])) nc (.dK nk)) p (.dK [(.inr "marks",.ref mc),(.inr "banks",.ref bc),(.inr "runs",.ref rc),(.inr "notes",.ref nc)])) p (.dK [(.inr "marks",.ref mc),(.inr "banks",.ref bc),(.inr "runs",.ref rc),(.inr "notes",.ref nc),(.inr "next",.int S.coming)])=H8 at s8 ep em eb er en ⊢;have ep:H8 p=some (.dK (lwK mc bc rc nc S.coming)):=ep;have km8:=km.to (.of s8);have kb8:=kb.to (.of s8);have kr8:=kr.to (.of s8);have kn8:=kn.to (.of s8);have rep8:=rep.to (.of s8);have nmH:H mc=none:=s1.free hmc;have nrH:H rc=none:=s3.free hrc;have nbH:H bc=none:=s2.free hbc;have nnH:H nc=none:=s5.free hnc
 match D,rep8,ok,q with
 | .mark nm x y,rep8,ok,q =>
  obtain⟨t,rfl,ht⟩:=zB6 rep8;refine⟨_,U,t,_,0,.str "mark",U,U,.inr (SqT.of ht),U,sz2,λz hz=>?_⟩;have sz:=zC hz (.tup [.str "mark",.str "move"]);exists z,_,U,.inr (SqT.of zA),U,U,_,rfl;have s9:=s8.trans sz;have ep9:=sz _ _ ep;have em9:=sz _ _ em;have eb9:=sz _ _ eb;have er9:=sz _ _ er;have en9:=sz _ _ en;have ht9:=sz _ _ ht;have km9:=km8.to (.of sz);have kb9:=kb8.to (.of sz);have kr9:=kr8.to (.of sz);have kn9:=kn8.to (.of sz);have rep9:=rep8.to (.of sz);generalize upd H8 z (.tup [.str "mark",.str "move"])=H9 at s9 ep9 em9 eb9 er9 en9 ht9 km9 kb9 kr9 kn9 rep9 ⊢;have tq:Sq K H9 t _:=.inr (SqT.of ht9);refine yY ?_;refine⟨_,U,_,U,t,_,U,SqT.of ht9,(λz=>absurd z.1 (by show ¬ HT.sIx 4 0 (some 2)=0; decide)),λc hc=>?_⟩;have sc:=zC hc (.tup [.int x,.int y]);have em10:=sc _ _ em9;exists _,U,p,.ref mc,U,.inl ⟨_,.inr "marks",.inl (sc _ _ ep9),U,yS.symm⟩,_,U,t,_,1,.str nm,U,U,.inr (SqT.of (sc _ _ ht9)),U,mc,_,U,zMb.k (k:=.inr nm) em10 (zW (by lia)),_,rfl;have sE:=uT (o:=.dK (rE mk (.inr nm) (.ref c))) em10;have np:=zHe em10;refine q p _ (λx o e=>by rw[zH (zJ e nmH)]; exact sc _ _ (s9 _ _ e)) hp ⟨mc,bc,rc,nc,nrH,.inl ?_,⟨_,.inl zA,?_⟩,⟨bk,.inl ?_,(kb9.to (.of sc)).sam sE np⟩,⟨rs,?_,(kr9.to (.of sc)).sam sE np⟩,⟨nk,.inl ?_,(kn9.to (.of sc)).sam sE np⟩⟩
  ·rw[zH npm]; exact sc _ _ ep9
  ·have:=((km9.to (.of sc)).put (k:=.inr nm) (vO (p:=(x,y)) zA)).sam sE np;rw[sZ (zPe ok.2.1)] at this;show xO _ _ (mkE (S.marks++[(nm,x,y)]));rw[zR0];exact this
  ·rw[zH nmb.symm]; exact sc _ _ eb9
  ·rw[zH nmr.symm]; exact sc _ _ er9
  ·rw[zH nmn.symm]; exact sc _ _ en9
 | .move nm x y,rep8,ok,q =>
  obtain⟨t,rfl,ht⟩:=zCa rep8;refine⟨_,U,t,_,0,.str "move",U,U,.inr (SqT.of ht),U,sz2,λz hz=>?_⟩;have sz:=zC hz (.tup [.str "mark",.str "move"]);exists z,_,U,.inr (SqT.of zA),U,U,_,rfl;have s9:=s8.trans sz;have ep9:=sz _ _ ep;have em9:=sz _ _ em;have eb9:=sz _ _ eb;have er9:=sz _ _ er;have en9:=sz _ _ en;have ht9:=sz _ _ ht;have km9:=km8.to (.of sz);have kb9:=kb8.to (.of sz);have kr9:=kr8.to (.of sz);have kn9:=kn8.to (.of sz);have rep9:=rep8.to (.of sz);generalize upd H8 z (.tup [.str "mark",.str "move"])=H9 at s9 ep9 em9 eb9 er9 en9 ht9 km9 kb9 kr9 kn9 rep9 ⊢;have tq:Sq K H9 t _:=.inr (SqT.of ht9);refine yY ?_;refine⟨_,U,_,U,t,_,U,SqT.of ht9,(λz=>absurd z.1 (by show ¬ HT.sIx 4 0 (some 2)=0; decide)),λc hc=>?_⟩;have sc:=zC hc (.tup [.int x,.int y]);have em10:=sc _ _ em9;exists _,U,p,.ref mc,U,.inl ⟨_,.inr "marks",.inl (sc _ _ ep9),U,yS.symm⟩,_,U,t,_,1,.str nm,U,U,.inr (SqT.of (sc _ _ ht9)),U,mc,_,U,zMb.k (k:=.inr nm) em10 (zW (by lia)),_,rfl;have sE:=uT (o:=.dK (rE mk (.inr nm) (.ref c))) em10;have np:=zHe em10;refine q p _ (λx o e=>by rw[zH (zJ e nmH)]; exact sc _ _ (s9 _ _ e)) hp ⟨mc,bc,rc,nc,nrH,.inl ?_,⟨_,.inl zA,?_⟩,⟨bk,.inl ?_,(kb9.to (.of sc)).sam sE np⟩,⟨rs,?_,(kr9.to (.of sc)).sam sE np⟩,⟨nk,.inl ?_,(kn9.to (.of sc)).sam sE np⟩⟩
  ·rw[zH npm]; exact sc _ _ ep9
  ·have:=((km9.to (.of sc)).put (k:=.inr nm) (vO (p:=(x,y)) zA)).sam sE np;rw[zT3 ok.1] at this;exact this
  ·rw[zH nmb.symm]; exact sc _ _ eb9
  ·rw[zH nmr.symm]; exact sc _ _ er9
  ·rw[zH nmn.symm]; exact sc _ _ en9
 | .unmark nm,rep8,ok,q =>
  obtain⟨t,rfl,ht⟩:=sQ rep8;refine⟨_,U,t,_,0,.str "unmark",U,U,.inr (SqT.of ht),U,sz2,λz hz=>?_⟩;have sz:=zC hz (.tup [.str "mark",.str "move"]);exists z,_,U,.inr (SqT.of zA),U,U,_,rfl;have s9:=s8.trans sz;have ep9:=sz _ _ ep;have em9:=sz _ _ em;have eb9:=sz _ _ eb;have er9:=sz _ _ er;have en9:=sz _ _ en;have ht9:=sz _ _ ht;have km9:=km8.to (.of sz);have kb9:=kb8.to (.of sz);have kr9:=kr8.to (.of sz);have kn9:=kn8.to (.of sz);have rep9:=rep8.to (.of sz);generalize upd H8 z (.tup [.str "mark",.str "move"])=H9 at s9 ep9 em9 eb9 er9 en9 ht9 km9 kb9 kr9 kn9 rep9 ⊢;have tq:Sq K H9 t _:=.inr (SqT.of ht9);refine yB ?_;exists _,U,t,_,0,.str "unmark",U,U,tq,U,U,_,rfl;refine yY ?_;obtain⟨pm,epm⟩:=aL.mp ok.1;obtain⟨v,ev,_⟩:=km9.get (k:=.inr nm) (d:=ptD pm) (by rw[wT,epm]; rfl);exists _,U,p,.ref mc,U,.inl ⟨_,.inr "marks",.inl ep9,U,yS.symm⟩,mc,U,.inl ⟨mk,.inl em9⟩,_,U,t,_,1,.str nm,U,U,tq,U,mk,.inr nm,v,em9,U,ev,_,rfl;have sE:=uT (o:=.dK (zEp mk (.inr nm))) em9;have np:=zHe em9;refine q p _ (λx o e=>by rw[zH (zJ e nmH)]; exact s9 _ _ e) hp ⟨mc,bc,rc,nc,nrH,.inl ?_,⟨_,.inl zA,?_⟩,⟨bk,.inl ?_,kb9.sam sE np⟩,⟨rs,?_,kr9.sam sE np⟩,⟨nk,.inl ?_,kn9.sam sE np⟩⟩
  ·rw[zH npm]; exact ep9
  ·have:=(km9.drop (k:=.inr nm)).sam sE np;rw[zPh] at this;exact this
  ·rw[zH nmb.symm]; exact eb9
  ·rw[zH nmr.symm]; exact er9
  ·rw[zH nmn.symm]; exact en9
 | .bank nm cs,rep8,ok,q =>
  obtain⟨t,cc,ps,rfl,ht,hcc,cn,rc0⟩:=zAw rep8;refine⟨_,U,t,_,0,.str "bank",U,U,.inr (SqT.of ht),U,sz2,λz hz=>?_⟩;have sz:=zC hz (.tup [.str "mark",.str "move"]);exists z,_,U,.inr (SqT.of zA),U,U,_,rfl;have s9:=s8.trans sz;have ep9:=sz _ _ ep;have em9:=sz _ _ em;have eb9:=sz _ _ eb;have er9:=sz _ _ er;have en9:=sz _ _ en;have ht9:=sz _ _ ht;have km9:=km8.to (.of sz);have kb9:=kb8.to (.of sz);have kr9:=kr8.to (.of sz);have kn9:=kn8.to (.of sz);have rep9:=rep8.to (.of sz);generalize upd H8 z (.tup [.str "mark",.str "move"])=H9 at s9 ep9 em9 eb9 er9 en9 ht9 km9 kb9 kr9 kn9 rep9 ⊢;have tq:Sq K H9 t _:=.inr (SqT.of ht9);refine yB ?_;exists _,U,t,_,0,.str "bank",U,U,tq,U,U,_,rfl;refine yB ?_;exists _,U,t,_,0,.str "bank",U,U,tq,U,U,_,rfl;refine yY ?_;obtain⟨_,_,_,e0,h0,_,_,rc9⟩:=zAw rep9;cases e0;rw[ht9] at h0;cases h0;exists _,U,t,_,2,.ref cc,U,U,tq,U,_,U,p,.ref bc,U,.inl ⟨_,.inr "banks",.inl ep9,U,qW.symm⟩,_,U,t,_,1,.str nm,U,U,tq,U,bc,_,U,zMb.k (k:=.inr nm) eb9 (zW (by lia)),_,rfl;have sE:=uT (o:=.dK (rE bk (.inr nm) (.ref cc))) eb9;have np:=zHe eb9;refine q p _ (λx o e=>by rw[zH (zJ e nbH)]; exact s9 _ _ e) hp ⟨mc,bc,rc,nc,nrH,.inl ?_,⟨mk,.inl ?_,km9.sam sE np⟩,⟨_,.inl zA,?_⟩,⟨rs,?_,kr9.sam sE np⟩,⟨nk,.inl ?_,kn9.sam sE np⟩⟩
  ·rw[zH npb]; exact ep9
  ·rw[zH nmb]; exact em9
  ·have:=(kb9.put (k:=.inr nm) rc9).sam sE np;rw[sZ (zJw ok.2.1)] at this;show xO _ _ (bkE (S.banks++[(nm,cs)]));rw[zR3];exact this
  ·rw[zH nbr.symm]; exact er9
  ·rw[zH nbn.symm]; exact en9
 | .level nm,rep8,ok,q =>
  obtain⟨t,rfl,ht⟩:=qA rep8;refine⟨_,U,t,_,0,.str "level",U,U,.inr (SqT.of ht),U,sz2,λz hz=>?_⟩;have sz:=zC hz (.tup [.str "mark",.str "move"]);exists z,_,U,.inr (SqT.of zA),U,U,_,rfl;have s9:=s8.trans sz;have ep9:=sz _ _ ep;have em9:=sz _ _ em;have eb9:=sz _ _ eb;have er9:=sz _ _ er;have en9:=sz _ _ en;have ht9:=sz _ _ ht;have km9:=km8.to (.of sz);have kb9:=kb8.to (.of sz);have kr9:=kr8.to (.of sz);have kn9:=kn8.to (.of sz);have rep9:=rep8.to (.of sz);generalize upd H8 z (.tup [.str "mark",.str "move"])=H9 at s9 ep9 em9 eb9 er9 en9 ht9 km9 kb9 kr9 kn9 rep9 ⊢;have tq:Sq K H9 t _:=.inr (SqT.of ht9);refine yB ?_;exists _,U,t,_,0,.str "level",U,U,tq,U,U,_,rfl;refine yB ?_;exists _,U,t,_,0,.str "level",U,U,tq,U,U,_,rfl;refine yB ?_;exists _,U,t,_,0,.str "level",U,U,tq,U,U,_,rfl;refine yY ?_;obtain⟨dv,lk⟩:=zWw (l:=S.banks) ok;obtain⟨v,ev,_⟩:=kb9.get lk;exists _,U,p,.ref bc,U,.inl ⟨_,.inr "banks",.inl ep9,U,qW.symm⟩,bc,U,.inl ⟨bk,.inl eb9⟩,_,U,t,_,1,.str nm,U,U,tq,U,bk,.inr nm,v,eb9,U,ev,_,rfl;have sE:=uT (o:=.dK (zEp bk (.inr nm))) eb9;have np:=zHe eb9;refine q p _ (λx o e=>by rw[zH (zJ e nbH)]; exact s9 _ _ e) hp ⟨mc,bc,rc,nc,nrH,.inl ?_,⟨mk,.inl ?_,km9.sam sE np⟩,⟨_,.inl zA,?_⟩,⟨rs,?_,kr9.sam sE np⟩,⟨nk,.inl ?_,kn9.sam sE np⟩⟩
  ·rw[zH npb]; exact ep9
  ·rw[zH nmb]; exact em9
  ·have:=(kb9.drop (k:=.inr nm)).sam sE np;rw[zN8] at this;exact this
  ·rw[zH nbr.symm]; exact er9
  ·rw[zH nbn.symm]; exact en9
 | .right k x y,rep8,ok,q =>
  obtain⟨t,rfl,ht⟩:=qH rep8;refine⟨_,U,t,_,0,.str "right",U,U,.inr (SqT.of ht),U,sz2,λz hz=>?_⟩;have sz:=zC hz (.tup [.str "mark",.str "move"]);exists z,_,U,.inr (SqT.of zA),U,U,_,rfl;have s9:=s8.trans sz;have ep9:=sz _ _ ep;have em9:=sz _ _ em;have eb9:=sz _ _ eb;have er9:=sz _ _ er;have en9:=sz _ _ en;have ht9:=sz _ _ ht;have km9:=km8.to (.of sz);have kb9:=kb8.to (.of sz);have kr9:=kr8.to (.of sz);have kn9:=kn8.to (.of sz);have rep9:=rep8.to (.of sz);generalize upd H8 z (.tup [.str "mark",.str "move"])=H9 at s9 ep9 em9 eb9 er9 en9 ht9 km9 kb9 kr9 kn9 rep9 ⊢;have tq:Sq K H9 t _:=.inr (SqT.of ht9);refine yB ?_;exists _,U,t,_,0,.str "right",U,U,tq,U,U,_,rfl;refine yB ?_;exists _,U,t,_,0,.str "right",U,U,tq,U,U,_,rfl;refine yB ?_;exists _,U,t,_,0,.str "right",U,U,tq,U,U,_,rfl;refine yB ?_;exists _,U,t,_,0,.str "right",U,U,tq,U,U,_,rfl;refine yB ?_;exists _,U,t,_,0,.str "right",U,U,tq,U,U,_,rfl;refine yY ?_;refine⟨_,U,_,U,t,_,U,SqT.of ht9,(λz=>absurd z.1 (by show ¬ HT.sIx 4 0 (some 2)=0; decide)),λc hc=>?_⟩;have sc:=zC hc (.tup [.int x,.int y]);have er10:=sc _ _ er9;obtain⟨i,rfl⟩:=cj ok.1;have hi:i<S.runs.length:=by have:=ok.2.1; lia
  exists _,U,p,.ref rc,U,.inl ⟨_,.inr "runs",.inl (sc _ _ ep9),U,uL.symm⟩,_,U,t,_,1,.int (i:Int),U,U,.inr (SqT.of (sc _ _ ht9)),U,rc,rs,(i:Int),i,U,U,er10,ya3 (by rw[lr]; exact hi),_,rfl;have sE:=uT (o:=.lst (rs.set i (.ref c))) er10;have np:=zIe er10;refine q p _ (λx o e=>by rw[zH (zJ e nrH)]; exact sc _ _ (s9 _ _ e)) hp ⟨mc,bc,rc,nc,nrH,.inl ?_,⟨mk,.inl ?_,(km9.to (.of sc)).sam sE np⟩,⟨bk,.inl ?_,(kb9.to (.of sc)).sam sE np⟩,⟨_,zA,?_⟩,⟨nk,.inl ?_,(kn9.to (.of sc)).sam sE np⟩⟩
  ·rw[zH npr]; exact sc _ _ ep9
  ·rw[zH nmr]; exact sc _ _ em9
  ·rw[zH nbr]; exact sc _ _ eb9
  ·show wC _ ((S.runs.set i (x,y)).map ptD) _;rw[List.map_set];exact(wC.set (vO (p:=(x,y)) zA) i (kr9.to (.of sc))).sam sE np
  ·rw[zH nrn.symm]; exact sc _ _ en9
 | .sail x y,rep8,ok,q =>
  obtain⟨t,rfl,ht⟩:=zB0 rep8;refine⟨_,U,t,_,0,.str "sail",U,U,.inr (SqT.of ht),U,sz2,λz hz=>?_⟩;have sz:=zC hz (.tup [.str "mark",.str "move"]);exists z,_,U,.inr (SqT.of zA),U,U,_,rfl;have s9:=s8.trans sz;have ep9:=sz _ _ ep;have em9:=sz _ _ em;have eb9:=sz _ _ eb;have er9:=sz _ _ er;have en9:=sz _ _ en;have ht9:=sz _ _ ht;have km9:=km8.to (.of sz);have kb9:=kb8.to (.of sz);have kr9:=kr8.to (.of sz);have kn9:=kn8.to (.of sz);have rep9:=rep8.to (.of sz);generalize upd H8 z (.tup [.str "mark",.str "move"])=H9 at s9 ep9 em9 eb9 er9 en9 ht9 km9 kb9 kr9 kn9 rep9 ⊢;have tq:Sq K H9 t _:=.inr (SqT.of ht9);refine yB ?_;exists _,U,t,_,0,.str "sail",U,U,tq,U,U,_,rfl;refine yB ?_;exists _,U,t,_,0,.str "sail",U,U,tq,U,U,_,rfl;refine yB ?_;exists _,U,t,_,0,.str "sail",U,U,tq,U,U,_,rfl;refine yB ?_;exists _,U,t,_,0,.str "sail",U,U,tq,U,U,_,rfl;refine yY ?_;refine⟨_,U,p,.ref rc,U,.inl ⟨_,.inr "runs",.inl ep9,U,uL.symm⟩,.inl ⟨U,_,SqL.of er9⟩,_,U,_,U,t,_,U,SqT.of ht9,(λz=>absurd z.1 (by show ¬ HT.sIx 3 0 (some 1)=0; decide)),λc hc=>?_⟩;have sc:=zC hc (.tup [.int x,.int y]);have er10:=sc _ _ er9;exists rc,_,.ref c,U,U,er10,zW (by lia),_,rfl;have sE:=uT (o:=.lst (rs++[.ref c])) er10;have np:=zIe er10;refine q p _ (λx o e=>by rw[zH (zJ e nrH)]; exact sc _ _ (s9 _ _ e)) hp ⟨mc,bc,rc,nc,nrH,.inl ?_,⟨mk,.inl ?_,(km9.to (.of sc)).sam sE np⟩,⟨bk,.inl ?_,(kb9.to (.of sc)).sam sE np⟩,⟨_,zA,?_⟩,⟨nk,.inl ?_,(kn9.to (.of sc)).sam sE np⟩⟩
  ·rw[zH npr]; exact sc _ _ ep9
  ·rw[zH nmr]; exact sc _ _ em9
  ·rw[zH nbr]; exact sc _ _ eb9
  ·show wC _ ((S.runs++[(x,y)]).map ptD) _;rw[aG];exact(wC.app (kr9.to (.of sc)) (.one (vO (p:=(x,y)) zA))).sam sE np
  ·rw[zH nrn.symm]; exact sc _ _ en9
 | .bearing mo nm x1 y1 x2 y2,rep8,ok,q =>
  obtain⟨t,_,_,rfl,ht,_⟩:=xG rep8;refine⟨_,U,t,_,0,.str "bearing",U,U,.inr (SqT.of ht),U,sz2,λz hz=>?_⟩;have sz:=zC hz (.tup [.str "mark",.str "move"]);exists z,_,U,.inr (SqT.of zA),U,U,_,rfl;have s9:=s8.trans sz;have ep9:=sz _ _ ep;have em9:=sz _ _ em;have eb9:=sz _ _ eb;have er9:=sz _ _ er;have en9:=sz _ _ en;have ht9:=sz _ _ ht;have km9:=km8.to (.of sz);have kb9:=kb8.to (.of sz);have kr9:=kr8.to (.of sz);have kn9:=kn8.to (.of sz);have rep9:=rep8.to (.of sz);generalize upd H8 z (.tup [.str "mark",.str "move"])=H9 at s9 ep9 em9 eb9 er9 en9 ht9 km9 kb9 kr9 kn9 rep9 ⊢;have tq:Sq K H9 t _:=.inr (SqT.of ht9);refine yB ?_;exists _,U,t,_,0,.str "bearing",U,U,tq,U,U,_,rfl;refine yB ?_;exists _,U,t,_,0,.str "bearing",U,U,tq,U,U,_,rfl;refine yB ?_;exists _,U,t,_,0,.str "bearing",U,U,tq,U,U,_,rfl;refine yB ?_;exists _,U,t,_,0,.str "bearing",U,U,tq,U,U,_,rfl;refine yB ?_;exists _,U,t,_,0,.str "bearing",U,U,tq,U,U,_,rfl;refine yB ?_;exists _,U,t,_,0,.str "bearing",U,U,tq,U,U,_,rfl;refine yB ?_;exists _,U,_,U,p,.ref nc,U,.inl ⟨_,.inr "notes",.inl ep9,U,vA.symm⟩,_,U,d,.int S.coming,U,dg s9 qQ,nc,_,U,zMb.k (k:=.inl S.coming) en9 (zW (by lia));have sE:=uT (o:=.dK (rE nk (.inl S.coming) (.ref t))) en9;have np:=zHe en9;have s10:Same H (upd H9 nc (.dK (rE nk (.inl S.coming) (.ref t)))):=λx o e=>by rw[zH (zJ e nnH)]; exact s9 _ _ e
  have ep10:upd H9 nc (.dK (rE nk (.inl S.coming) (.ref t))) p=some (.dK (lwK mc bc rc nc S.coming)):=by rw[zH npn]; exact ep9
  exists _,U,d,.int S.coming,U,dg s10 qQ,_,_,U,U,_,U,p,_,U,zMb.k (k:=.inr "next") ep10 (zW (by show 5<=1000; decide)),_,rfl;rw[zGl];have sE2:=uT (o:=.dK (lwK mc bc rc nc (S.coming+1))) ep10;have np2:=zHe ep10;refine q p _ (λx o e=>by rw[zH (zJ e hp)]; exact s10 _ _ e) hp ⟨mc,bc,rc,nc,nrH,.inl zA,⟨mk,.inl ?_,(km9.sam sE np).sam sE2 np2⟩,⟨bk,.inl ?_,(kb9.sam sE np).sam sE2 np2⟩,⟨rs,?_,(kr9.sam sE np).sam sE2 np2⟩,⟨rE nk (.inl S.coming) (.ref t),.inl ?_,?_⟩⟩
  ·rw[zH npm.symm,zH nmn]; exact em9
  ·rw[zH npb.symm,zH nbn]; exact eb9
  ·rw[zH npr.symm,zH nrn]; exact er9
  ·rw[zH npn.symm,zA]
  ·have:=((kn9.put (k:=.inl S.coming) rep9).sam sE np).sam sE2 np2;rw[sZ (zJl fr)] at this;show xO _ _ (ntE (S.notes++[(S.coming,_)]));rw[zNl];exact this
 | .range mo l1 r1,rep8,ok,q =>
  obtain⟨t,rfl,ht⟩:=wZ rep8;refine⟨_,U,t,_,0,.str "range",U,U,.inr (SqT.of ht),U,sz2,λz hz=>?_⟩;have sz:=zC hz (.tup [.str "mark",.str "move"]);exists z,_,U,.inr (SqT.of zA),U,U,_,rfl;have s9:=s8.trans sz;have ep9:=sz _ _ ep;have em9:=sz _ _ em;have eb9:=sz _ _ eb;have er9:=sz _ _ er;have en9:=sz _ _ en;have ht9:=sz _ _ ht;have km9:=km8.to (.of sz);have kb9:=kb8.to (.of sz);have kr9:=kr8.to (.of sz);have kn9:=kn8.to (.of sz);have rep9:=rep8.to (.of sz);generalize upd H8 z (.tup [.str "mark",.str "move"])=H9 at s9 ep9 em9 eb9 er9 en9 ht9 km9 kb9 kr9 kn9 rep9 ⊢;have tq:Sq K H9 t _:=.inr (SqT.of ht9);refine yB ?_;exists _,U,t,_,0,.str "range",U,U,tq,U,U,_,rfl;refine yB ?_;exists _,U,t,_,0,.str "range",U,U,tq,U,U,_,rfl;refine yB ?_;exists _,U,t,_,0,.str "range",U,U,tq,U,U,_,rfl;refine yB ?_;exists _,U,t,_,0,.str "range",U,U,tq,U,U,_,rfl;refine yB ?_;exists _,U,t,_,0,.str "range",U,U,tq,U,U,_,rfl;refine yB ?_;exists _,U,t,_,0,.str "range",U,U,tq,U,U,_,rfl;refine yB ?_;exists _,U,_,U,p,.ref nc,U,.inl ⟨_,.inr "notes",.inl ep9,U,vA.symm⟩,_,U,d,.int S.coming,U,dg s9 qQ,nc,_,U,zMb.k (k:=.inl S.coming) en9 (zW (by lia));have sE:=uT (o:=.dK (rE nk (.inl S.coming) (.ref t))) en9;have np:=zHe en9;have s10:Same H (upd H9 nc (.dK (rE nk (.inl S.coming) (.ref t)))):=λx o e=>by rw[zH (zJ e nnH)]; exact s9 _ _ e
  have ep10:upd H9 nc (.dK (rE nk (.inl S.coming) (.ref t))) p=some (.dK (lwK mc bc rc nc S.coming)):=by rw[zH npn]; exact ep9
  exists _,U,d,.int S.coming,U,dg s10 qQ,_,_,U,U,_,U,p,_,U,zMb.k (k:=.inr "next") ep10 (zW (by show 5<=1000; decide)),_,rfl;rw[zGl];have sE2:=uT (o:=.dK (lwK mc bc rc nc (S.coming+1))) ep10;have np2:=zHe ep10;refine q p _ (λx o e=>by rw[zH (zJ e hp)]; exact s10 _ _ e) hp ⟨mc,bc,rc,nc,nrH,.inl zA,⟨mk,.inl ?_,(km9.sam sE np).sam sE2 np2⟩,⟨bk,.inl ?_,(kb9.sam sE np).sam sE2 np2⟩,⟨rs,?_,(kr9.sam sE np).sam sE2 np2⟩,⟨rE nk (.inl S.coming) (.ref t),.inl ?_,?_⟩⟩
  ·rw[zH npm.symm,zH nmn]; exact em9
  ·rw[zH npb.symm,zH nbn]; exact eb9
  ·rw[zH npr.symm,zH nrn]; exact er9
  ·rw[zH npn.symm,zA]
  ·have:=((kn9.put (k:=.inl S.coming) rep9).sam sE np).sam sE2 np2;rw[sZ (zJl fr)] at this;show xO _ _ (ntE (S.notes++[(S.coming,_)]));rw[zNl];exact this
 | .strike k,rep8,ok,q =>
  obtain⟨t,rfl,ht⟩:=sJ rep8;refine⟨_,U,t,_,0,.str "strike",U,U,.inr (SqT.of ht),U,sz2,λz hz=>?_⟩;have sz:=zC hz (.tup [.str "mark",.str "move"]);exists z,_,U,.inr (SqT.of zA),U,U,_,rfl;have s9:=s8.trans sz;have ep9:=sz _ _ ep;have em9:=sz _ _ em;have eb9:=sz _ _ eb;have er9:=sz _ _ er;have en9:=sz _ _ en;have ht9:=sz _ _ ht;have km9:=km8.to (.of sz);have kb9:=kb8.to (.of sz);have kr9:=kr8.to (.of sz);have kn9:=kn8.to (.of sz);have rep9:=rep8.to (.of sz);generalize upd H8 z (.tup [.str "mark",.str "move"])=H9 at s9 ep9 em9 eb9 er9 en9 ht9 km9 kb9 kr9 kn9 rep9 ⊢;have tq:Sq K H9 t _:=.inr (SqT.of ht9);refine yB ?_;exists _,U,t,_,0,.str "strike",U,U,tq,U,U,_,rfl;refine yB ?_;exists _,U,t,_,0,.str "strike",U,U,tq,U,U,_,rfl;refine yB ?_;exists _,U,t,_,0,.str "strike",U,U,tq,U,U,_,rfl;refine yB ?_;exists _,U,t,_,0,.str "strike",U,U,tq,U,U,_,rfl;refine yB ?_;exists _,U,t,_,0,.str "strike",U,U,tq,U,U,_,rfl;refine yB ?_;exists _,U,t,_,0,.str "strike",U,U,tq,U,U,_,rfl;refine yY ?_;obtain⟨dv,lk⟩:=zOe (l:=S.notes) ok;obtain⟨v,ev,_⟩:=kn9.get lk;exists _,U,p,.ref nc,U,.inl ⟨_,.inr "notes",.inl ep9,U,vA.symm⟩,nc,U,.inl ⟨nk,.inl en9⟩,_,U,t,_,1,.int k,U,U,tq,U,nk,.inl k,v,en9,U,ev,_,rfl;have sE:=uT (o:=.dK (zEp nk (.inl k))) en9;have np:=zHe en9;refine q p _ (λx o e=>by rw[zH (zJ e nnH)]; exact s9 _ _ e) hp ⟨mc,bc,rc,nc,nrH,.inl ?_,⟨mk,.inl ?_,km9.sam sE np⟩,⟨bk,.inl ?_,kb9.sam sE np⟩,⟨rs,?_,kr9.sam sE np⟩,⟨_,.inl zA,?_⟩⟩
  ·rw[zH npn]; exact ep9
  ·rw[zH nmn]; exact em9
  ·rw[zH nbn]; exact eb9
  ·rw[zH nrn]; exact er9
  ·have:=(kn9.drop (k:=.inl k)).sam sE np;rw[zN7] at this;exact this
def mkT(e:aA×Int×Int):Key×List V:=(.inr e.1,[.int e.2.1,.int e.2.2])
theorem zW3{H:Hp}{l:List (aA×Int×Int)}{ts:List (af×Key×List V)}(e:ts.map (·.2)=l.map mkT)(at_:∀ t∈ts,H t.1=some (.tup (kV t.2.1::t.2.2))):∀ o:List Nat,wC H ((vV o l).map mkD) ((vV o (ts.map (·.1))).map V.ref)
 | []=>yF.mpr rfl
 | i::o=>by
  have ih:=zW3 e at_ o;have ei:=congrArg (·[i]?) e;simp only[av] at ei;rw[zC9] at ih ⊢;unfold vV at ih ⊢;cases gt:ts[i]? with
  | none =>
   rw[gt] at ei;have gl:l[i]?=none:=by cases h:l[i]? <;> simp[h] at ei ⊢
   rw[cF gt,cF gl];exact ih
  | some t =>
   rw[gt] at ei;obtain⟨x,gl,ex⟩:=aH.mp ei.symm;rw[cb gt,cb gl];have h:=at_ t (aN gt);rw[show t.2=mkT x from ex.symm] at h;exact zL.mpr ⟨_,_,rfl,yD.mpr ⟨_,_,rfl,h,zL.mpr ⟨_,_,rfl,zU.mpr rfl,.two (zZ.mpr rfl) (zZ.mpr rfl)⟩⟩,ih⟩
def zCl(_:ae):Sp:=λvs H Q _=>∃(d:af)(S:BS),vs=[.ref d]/\zSz H d S/\zGg S /\
 ∀(c:af)(zs:List V)(H':Hp),Sam H H'->H' c=some (.lst zs)->wC H' (zQd S) zs->Q (.ref c) H'
theorem zIz(F:Fun K "_law_marks_of" "_law_marks_of" rB f fd)(Z:Zs mg)(CB:Cb P w mg base)  : yQ P w K mg base CX0 1 f fd ["_law_m"] (zCl K):=by
 specialize zI9
 ·obtain⟨d,S,rfl,_⟩:=h;rfl
 obtain⟨d,S,rfl,⟨m,b,r,n,lw⟩,nt,q⟩:=h;obtain⟨kvs,hm,kv⟩:=lw.ma;have lk:kvs.length=S.marks.length:=by rw[kv.length,zAi]
 have fm:=nt.well.good.few.ma
 refine'⟨_,(zF (zM (zR zAx rfl Z.sorted vP (zB (vY (T:=["_law_name","_law_place"]) (caps:=[]) ⟨rfl,by decide +kernel,by decide +kernel,rfl,bv⟩ rfl (zVw (zP (zV hr) (pv 0) zK (λ_ _=>rfl))) (λ_=>(zIl rfl (xS (zD4 0 (show(["_law_name","_law_place"]:List aA).Nodup by decide +kernel)) (xS (zD4 1 (show(["_law_name","_law_place"]:List aA).Nodup by decide +kernel)) zBw)))) (λ_=>wP) (λ_=>?_)) zI)))),?_⟩
 nofun
 refine⟨_,U,d,.ref m,U,.inl ⟨_,.inr "marks",lw.at_,U,yS.symm⟩,m,kvs,U,hm,λo H2 fz cc D hD=>?_⟩;have sf:Sam H H2:=zF2 hm fz;have kv2:=kv.to sf;have npD:∀ b xs,H2 b=some (.tup xs)->¬ b=D:=λb xs e z=>by rw[z,hD] at e; cases e
 refine zY4 (λi σ zs H'=>yR (λx=>x=D) H2 H'/\H' D=some (.lst zs)/\(∃ ts:List (af×Key×List V),zs=(ts.map (·.1)).map V.ref/\ts.map (·.2)=(S.marks.take i).map mkT/\∀ t∈ts,H' t.1=some (.tup (kV t.2.1::t.2.2)))/\∃ u0 u1:Option V,σ=[u0,u1])
  ⟨.of (zC hD _),zA,⟨[],rfl,rfl,λt ht=>(nomatch ht)⟩,none,none,rfl⟩ (λi σ zs H' hP=>⟨zPn hP.1 (λz=>by have:=fz.1; rw[z,hD] at this; cases this) fz.1,hP.2.1⟩) ?_ ?_
 ·rintro i e T σ zs H' ge hT ⟨sD,eD,⟨ts,rfl,et,at_⟩,u0,u1,rfl⟩;have sT:=zC hT (.tup [kV e.1,e.2]);obtain⟨dt,gd,rd⟩:=(kv2.sam sD npD).at ge;unfold mkE at gd;rw[av,aH] at gd;obtain⟨em,gm,eq⟩:=gd;injection eq with e1 e2
  subst e2;obtain⟨a,ea,ha⟩:=zBv rd;have li:i<60:=by have:=(aM.mp gm).1; lia
  have lt:ts.length=i:=by
   have:=congrArg cN et;rw[ac,ac,cV] at this;have:=(aM.mp gm).1;lia
  exists _,_,U,SqT.of zA,U,_,_,U,_,_,U,rfl;rw[ea,<- e1];rw[ea,<- e1] at sT;have ha1:=sT _ _ ha;have aq:Sq K (upd H' T (.tup [kV (.inr em.1),.ref a])) a [.int em.2.1,.int em.2.2]:=.inr (SqT.of ha1);refine⟨_,U,_,U,a,_,0,.int em.2.1,U,U,aq,U,_,U,a,_,1,.int em.2.2,U,U,aq,U,sz3,λt3 ht3=>?_⟩;have s3:=zC ht3 (.tup [.str em.1,.int em.2.1,.int em.2.2]);have eD4:=s3 _ _ (sT _ _ eD);refine⟨eD4,zW (by rw[ac,ac]; lia),(sD.trans ((yR.of sT).trans (.of s3))).trans (uT eD4),zA,⟨ts++[(t3,mkT em)],by rw[aG,aG]; rfl,by rw[aG,et,bL,gm,aG]; rfl,λt ht=>?_⟩,_,_,rfl⟩;rcases aS.mp ht with z | z
  ·have h:=at_ t z;rw[zH (λy=>by rw[y,eD] at h; cases h)];exact s3 _ _ (sT _ _ h)
  ·rw[au.mp z];show upd _ D _ t3=_;rw[zH (zJ (sT _ _ eD) ht3).symm];exact zA
 ·rintro σ zs H' ⟨sD,eD,⟨ts,rfl,et,at_⟩,u0,u1,rfl⟩;rw[lk,bU] at et;have ek:ts.map (·.2.1)=(S.marks.map (·.1)).map .inr:=by
   have:=congrArg (List.map (·.1)) et;rw[bp,bp] at this;rw[bp];exact this
  have lt:ts.length=S.marks.length:=by have:=congrArg cN et; rwa[ac,ac] at this
  refine⟨D,ts,U,SqL.of eD,at_,by lia,.inr ⟨_,ek⟩,by rw[ek]; exact zKi nt.nm,λp hp=>?_⟩;have sp:=zC hp (.lst ((vV (tR (ts.map (·.2.1))) (ts.map (·.1))).map V.ref));refine q p _ _ ((yR.over sf sD hD).trans (.of sp)) zA ?_;rw[ek];rw[ek] at sp;exact(zW3 et at_ _).to (.of sp)
def zWn(cs:List (Int×Int)):Prop:=zY2 cs
def zAg(_:ae):Sp:=λvs H Q _=>∃(a:af)(rows:List Int),vs=[.ref a]/\H a=some (.lst (rows.map V.int))/\3<=rows.length/\(∀ v∈rows,0<=v/\v<1000003) /\
 ∀(v:V)(cs:List (Int×Int))(H':Hp),Same H H'->Rep H' (.tup (cs.map ptD)) v->zWn cs->cs.length<=12->(∀ c∈cs,c.1.natAbs.log2<20/\c.2.natAbs.log2<20)->Q v H'
theorem zGa(F:Fun K "_law_drawn_bank" "_law_drawn_bank" vL f fd)(Z:Zs mg)(CB:Cb P w mg base)  : yQ P w K mg base CX0 1 f fd ["_law_d"] (zAg K):=by
 specialize zAj
 ·obtain⟨a,rows,rfl,_⟩:=h;rfl
 obtain⟨a,rows,rfl,ha,l3,bd,q⟩:=h;obtain⟨v0,a0,z0⟩:=xT bd (k:=0) (by decide) (by lia);obtain⟨v1,a1,z1⟩:=xT bd (k:=1) (by decide) (by lia);obtain⟨v2,a2,z2⟩:=xT bd (k:=2) (by decide) (by lia);have sq:∀{H':Hp},H' a=some (.lst (rows.map V.int))->Sq K H' a (rows.map V.int):=λh=>.inl (SqL.of h)
 refine'⟨_,(zD (zTi (i:=1) (j:=2) rfl zAj.nd rfl rfl (by decide) rfl rfl ?_ rfl)
   (zF (zM ?_))),?_⟩
 nofun
 exists _,U,a,_,_,_,U,U,sq ha,a0,_,_,U,U,(by show(0:Int)<2001; decide),_,_,rfl,rfl,_,rfl,a,_,_,_,rfl,rfl,sq ha,a1,_,_,rfl,rfl,(by show(0:Int)<41; decide),_,_,rfl,rfl,_,_,rfl;have x0:(v0%2001-1000).natAbs<=1001:=by lia
 have y0:(v1%41-20).natAbs<=21:=by lia
 generalize v0%2001-1000=x at x0 ⊢;generalize v1%41-20=y at y0 ⊢;refine⟨_,U,_,U,sz2,λp1 hp1=>?_⟩;have s1:=zC hp1 (.tup [.int x,.int y]);refine⟨_,U,_,_,U,U,_,U,sz2,λp2 hp2=>?_⟩;have s2:=zC hp2 (.tup [.int (x+3),.int y]);have ha2:=s2 _ _ (s1 _ _ ha);refine⟨_,U,_,_,U,U,_,U,_,U,a,_,_,_,U,U,sq ha2,a2,_,_,U,U,(by show(0:Int)<6; decide),_,_,rfl,rfl,_,_,rfl,rfl,sz2,λp3 hp3=>?_⟩;have e0 : -1<=v2%6-1:=by lia
 have e4:v2%6-1<=4:=by lia
 rw[show y+v2%6-1=y+(v2%6-1) by lia];generalize v2%6-1=e at e0 e4 ⊢;have s3:=zC hp3 (.tup [.int (x+1),.int (y+e)]);refine⟨sz3,λt ht=>?_⟩;have s4:=zC ht (.tup [.ref p1,.ref p2,.ref p3]);refine q (.ref t) [(x,y),(x+3,y),(x+1,y+e)] _ (((s1.trans s2).trans s3).trans s4) ?_ ⟨x,y,e,e0,e4,rfl⟩ (by show 3<=12; decide) (λc hc=>?_)
 ·exact yD.mpr ⟨t,_,rfl,zA,zL.mpr ⟨_,_,rfl,vO (p:=(x,y)) (s4 _ _ (s3 _ _ (s2 _ _ zA))),.two (vO (p:=(x+3,y)) (s4 _ _ (s3 _ _ zA))) (vO (p:=(x+1,y+e)) (s4 _ _ zA))⟩⟩
 ·simp only[aD,bI,or_false] at hc;rcases hc with rfl | rfl | rfl <;> exact⟨zXj (by dsimp only; lia),zXj (by dsimp only; lia)⟩
section
variable{H:Hp}{w:af}
theorem zYq{n:aA}{x y:Int}(hw:H w=some (.tup [.str "move",.str n,.int x,.int y])):Rep H (Deed.move n x y).dt (.ref w) :=
 yD.mpr ⟨w,_,rfl,hw,zL.mpr ⟨_,_,rfl,zU.mpr rfl,zL.mpr ⟨_,_,rfl,zU.mpr rfl,.two (zZ.mpr rfl) (zZ.mpr rfl)⟩⟩⟩
theorem zY3{k x y:Int}(hw:H w=some (.tup [.str "right",.int k,.int x,.int y])):Rep H (Deed.right k x y).dt (.ref w) :=
 yD.mpr ⟨w,_,rfl,hw,zL.mpr ⟨_,_,rfl,zU.mpr rfl,zL.mpr ⟨_,_,rfl,zZ.mpr rfl,.two (zZ.mpr rfl) (zZ.mpr rfl)⟩⟩⟩
theorem zXw{n:aA}(hw:H w=some (.tup [.str "unmark",.str n])):Rep H (Deed.unmark n).dt (.ref w) :=
 yD.mpr ⟨w,_,rfl,hw,.two (zU.mpr rfl) (zU.mpr rfl)⟩
theorem zX7{n:aA}(hw:H w=some (.tup [.str "level",.str n])):Rep H (Deed.level n).dt (.ref w) :=
 yD.mpr ⟨w,_,rfl,hw,.two (zU.mpr rfl) (zU.mpr rfl)⟩
theorem zRa{n:aA}{v:V}{cs:List (Int×Int)}(hw:H w=some (.tup [.str "bank",.str n,v]))(hv:Rep H (.tup (cs.map ptD)) v):Rep H (Deed.bank n cs).dt (.ref w) :=
 yD.mpr ⟨w,_,rfl,hw,zL.mpr ⟨_,_,rfl,zU.mpr rfl,.two (zU.mpr rfl) hv⟩⟩
end
def zW0:Deed->Prop
 | .bank _ cs=>zWn cs
 | _=>True
def zKe(_:ae):Sp:=λvs H Q _=>∃(a d R:af)(rows:List Int)(ns:List aA)(S:BS),vs=[.ref a,.ref d,.ref R]/\H a=some (.lst (rows.map V.int))/\11<=rows.length/\(∀ v∈rows,0<=v/\v<1000003)/\zSz H d S/\zJ1 S/\1<=S.coming/\S.coming<=1000/\H R=some (.lst (ns.map V.str))/\1<=ns.length/\(∀ n∈ns,wG n) /\
 ∀(v:V)(D:Deed)(H':Hp),Sam H H'->Rep H' D.dt v->zEg D->zW0 D->Q v H'
theorem zR6(F:Fun K "_law_deed" "_law_deed" zE0 f fd)(Z:Zs mg)(CB:Cb P w mg base)(yCb:Has P w K mg base "_law_pick" 2 ["_law_raw","_law_names_here"] (zG7 K))(yAc:Has P w K mg base "_law_bearing_deed" 3 ["_law_d","_law_m","_law_names_here"] (rT K))(yAv:Has P w K mg base "_law_drawn_bank" 1 ["_law_d"] (zAg K))(yAr:Has P w K mg base "_law_far_number" 1 ["_law_raw"] (zAr K)):yQ P w K mg base CX0 4 f fd ["_law_d","_law_m","_law_names_here"] (zKe K):=by
 specialize zCb
 ·obtain⟨a,d,R,rows,ns,S,rfl,_⟩:=h;rfl
 obtain⟨a,d,R,rows,ns,S,rfl,ha,l11,bd,lwt,wl,c1,c1000,eR,l1,okn,q⟩:=h;obtain⟨m,b,r,n,lw⟩:=id lwt;obtain⟨v0,a0,y0⟩:=xT bd (k:=0) (by decide) (by lia);obtain⟨v1,a1,y1⟩:=xT bd (k:=1) (by decide) (by lia);obtain⟨v2,a2,y2⟩:=xT bd (k:=2) (by decide) (by lia);obtain⟨v3,a3,y3⟩:=xT bd (k:=3) (by decide) (by lia);obtain⟨v4,a4,y4⟩:=xT bd (k:=4) (by decide) (by lia);obtain⟨v5,a5,y5⟩:=xT bd (k:=5) (by decide) (by lia);obtain⟨v6,a6,y6⟩:=xT bd (k:=6) (by decide) (by lia);have sq:∀{H':Hp},H' a=some (.lst (rows.map V.int))->Sq K H' a (rows.map V.int):=λh=>.inl (SqL.of h);obtain⟨ys,er,rr⟩:=lw.ru;have ly:ys.length=S.runs.length:=by rw[rr.length,ac]
 have fr:=wl.good.few.ru
 refine'⟨_,(zD (yI 3 zCb.nd ?_)
   (zD (yI 4 zCb.nd ?_)
   (zD (zTi (i:=5) (j:=6) rfl zCb.nd rfl rfl (by decide) rfl rfl ?_ rfl)
   (zD (zY ?_ (zF (zM ?_)) zN)
   (zD (zY ?_ (zF (zM ?_)) zN)
   (zD (zY ?_ (zF (zM ?_)) zN)
   (zD (zY ?_ (zF (zM ?_)) zN)
   (zD (zY ?_ (zF (zM ?_)) zN)
   (zD (zY ?_ (zF (zM ?_)) zN)
   (zD (zY ?_ (zF (zM (yX (zB zK (zB (wH zBs (wH zWo (wH zIq ?_ (wH zBs (zR yT rfl Z.len wV (zB (zP (zV hr) (pv 1) zK (λ_ _=>rfl)) zI)) yL)) yL) (xB zK8 rfl Z.int zTw (zB (zKs (sX zIx (zR yT rfl Z.len wV (zB (zP (zV hr) (pv 1) zK (λ_ _=>rfl)) zI)) yL (yW _)) (zLc ?_)) zI))) (zB (pv 5) (zB (pv 6) zI))))))) zN)
   (zD (zY ?_ (zF (zM ?_)) zN)
   (zD (zY ?_ (zF (zM (yX (zB zK (zB (wH zIq ?_ (wH zBs (wH zBs (zR yT rfl Z.len wV (zB (zP (zV hr) (pv 1) zK (λ_ _=>rfl)) zI)) yL) ?_)) (zB (pv 4) (zB ?_ zI))))))) zN)
   (zF (zM (yX (zB zK (zB (wH zIq ?_ (wH zBs (zP (zV hr) (pv 1) zK (λ_ _=>rfl)) yL)) zI))))))))))))))))),?_⟩
 nofun
 exists _,U,a,_,_,_,U,U,sq ha,a0,_,_,U,U,(by show(0:Int)<18; decide);refine⟨_,U,a,_,_,_,U,U,sq ha,a1,_,U,v1,R,ns,U,y1.1,y1.2,eR,l1,okn,λnm H2 an s2=>?_⟩;refine⟨_,U,a,_,_,_,U,U,sq (s2 _ _ ha),a2,v2,U,y2.1,y2.2,λx H3 tx s3=>?_⟩;refine⟨_,U,a,_,_,_,U,U,sq (s3 _ _ (s2 _ _ ha)),a3,v3,U,y3.1,y3.2,λy H4 ty s4'=>⟨_,_,U,?_⟩⟩;have s4:=s2.trans (s3.trans s4');clear s2 s3 s4';have ha4:=s4 _ _ ha;have lw4:=lw.to (.of s4);have eR4:=s4 _ _ eR;generalize v0%18=W;exists _,U,_,_,U,U,_,rfl;refine ifD (λza=>?_) (λza=>?_)
 ·refine⟨_,U,_,U,_,U,(by show 4<=sizeLine; decide),λw hw=>?_⟩;have sw:=zC hw (.tup [.str "mark",.str nm,.int x,.int y]);exact q (.ref w) (.mark nm x y) _ (.of (s4.trans sw)) (zOo zA) (⟨an,tx,ty⟩) trivial
 exists _,U,U,_,rfl;refine ifE (λzb=>?_) (λzb=>?_)
 ·refine⟨_,U,_,U,_,U,(by show 4<=sizeLine; decide),λw hw=>?_⟩;have sw:=zC hw (.tup [.str "move",.str nm,.int x,.int y]);exact q (.ref w) (.move nm x y) _ (.of (s4.trans sw)) (zYq zA) (⟨an,tx,ty⟩) trivial
 exists _,U,U,_,rfl;refine ifE (λzc=>?_) (λzc=>?_)
 ·refine⟨_,U,sz2,λw hw=>?_⟩;have sw:=zC hw (.tup [.str "unmark",.str nm]);exact q (.ref w) (.unmark nm) _ (.of (s4.trans sw)) (zXw zA) (an) trivial
 have ct1:zB7 (rows.map V.int) (some ((1:Nat):Int)) none=(rows.drop 1).map V.int:=by rw[zCc,HT.sIx_nat rows.length 0 1,show min 1 rows.length=1 by lia,show HT.sIx rows.length rows.length none=rows.length from rfl,cy (by rw[b9]; lia)]
 have ct1:zB7 (rows.map V.int) (some 1) none=(rows.drop 1).map V.int:=ct1;exists _,U,U,_,rfl;refine ifE (λz5=>yY ?_) (λz5=>?_)
 ·skip
  refine⟨_,U,_,U,_,U,a,_,U,SqL.of ha4,λc hc=>?_⟩;have sc:=zC hc (.lst (zB7 (rows.map V.int) (some 1) none));refine⟨c,rows.drop 1,U,(by rw[zA,ct1]),(by rw[b9]; lia),(λv hv=>bd v (dO hv)),λv cs H5 s5 rv dc l12 lg=>?_⟩;refine⟨sz3,λw hw=>?_⟩;have sw:=zC hw (.tup [.str "bank",.str nm,v]);exact q (.ref w) (.bank nm cs) _ (.of (s4.trans (sc.trans (s5.trans sw)))) (zRa zA (rv.to (.of sw))) ⟨an,l12,lg⟩ dc
 exists _,U,U,_,rfl;refine ifE (λz6=>?_) (λz6=>?_)
 ·skip
  refine⟨_,U,_,U,_,U,a,_,U,SqL.of ha4,λc hc=>?_⟩;have sc:=zC hc (.lst (zB7 (rows.map V.int) (some 1) none));refine⟨c,rows.drop 1,U,(by rw[zA,ct1]),(by rw[b9]; lia),(λv hv=>bd v (dO hv)),λv cs H5 s5 rv dc l12 lg=>?_⟩;refine⟨sz3,λw hw=>?_⟩;have sw:=zC hw (.tup [.str "bank",.str nm,v]);exact q (.ref w) (.bank nm cs) _ (.of (s4.trans (sc.trans (s5.trans sw)))) (zRa zA (rv.to (.of sw))) ⟨an,l12,lg⟩ dc
 exists _,U,U,_,rfl;refine ifE (λz7=>?_) (λz7=>?_)
 ·refine⟨_,U,sz2,λw hw=>?_⟩;have sw:=zC hw (.tup [.str "level",.str nm]);exact q (.ref w) (.level nm) _ (.of (s4.trans sw)) (zX7 zA) (an) trivial
 exists _,U,_,_,U,U,_,rfl;refine ifD (λz8=>?_) (λz8=>?_)
 ·refine⟨_,U,_,U,sz3,λw hw=>?_⟩;have sw:=zC hw (.tup [.str "sail",.int x,.int y]);exact q (.ref w) (.sail x y) _ (.of (s4.trans sw)) (zPm zA) (⟨tx,ty⟩) trivial
 exists _,U,U,_,rfl;refine ifE (λz9=>?_) (λz9=>?_)
 ·exists _,U,a,_,_,_,U,U,sq ha4,a4,_,U,d,.ref r,U,.inl ⟨_,.inr "runs",lw4.at_,U,uL.symm⟩,r,ys,U,.inl (SqL.of (s4 _ _ er)),_,_,U,U,_,_,U,U,(by show(0:Int)<(ys.length:Int)+2; lia),_,_,rfl,rfl;have fin2:∀ k:Int,0<=k/\k<=1->∀ w,H4 w=none->Q (.ref w) (upd H4 w (.tup [.str "right",.int (v4%((ys.length:Int)+2)-1+k),.int x,.int y])):=by
   intro k hk w hw;have e0:=bq v4 (show(ys.length:Int)+2≠0 by lia);have e1:=aX v4 (show(0:Int)<(ys.length:Int)+2 by lia);have tk:zAf (v4%((ys.length:Int)+2)-1+k):=xZ (by lia);generalize v4%((ys.length:Int)+2)-1+k=kk at tk ⊢;have sw:=zC hw (.tup [.str "right",.int kk,.int x,.int y]);exact q (.ref w) (.right kk x y) _ (.of (s4.trans sw)) (zY3 zA) (⟨tk,tx,ty⟩) trivial
  have k01:∀ c:Bool,(0:Int)<=(if c=true then 1 else 0)/\(if c=true then(1:Int) else 0)<=1:=λc=>by cases c <;> decide
  exists _,U,d,.ref r,U,.inl ⟨_,.inr "runs",lw4.at_,U,uL.symm⟩,r,ys,U,.inl (SqL.of (s4 _ _ er)),_,_,U,U,_,rfl;refine ifBo (λ_=>?_) (λ_=>?_)
  ·exact⟨_,U,a,_,_,_,U,U,sq ha4,a5,_,_,U,U,gt3,_,_,U,U,.inr ⟨_,U,_,_,U,U,_,U,_,U,(by show 4<=sizeLine; decide),fin2 _ (k01 _)⟩⟩
  ·exact .inr ⟨_,rfl,_,_,rfl,rfl,_,rfl,_,rfl,(by show 4<=sizeLine; decide),fin2 _ (k01 _)⟩
 exists _,U,_,_,U,U,_,rfl;refine ifD (λz10=>?_) (λz10=>?_)
 ·refine⟨_,U,_,U,_,U,a,d,R,rows,ns,S,U,ha4,(by lia),bd,⟨m,b,r,n,lw4⟩,wl,eR4,l1,okn,λv m n a b c d H' s' rp tm=>q v _ H' ((yR.of s4).trans s') rp tm trivial⟩
 exists _,U,U,_,rfl;refine ifE (λz12=>yY ?_) (λz12=>?_)
 ·skip
  refine⟨_,U,a,_,_,_,U,U,sq ha4,a4,_,U,d,.ref r,U,.inl ⟨_,.inr "runs",lw4.at_,U,uL.symm⟩,r,ys,U,.inl (SqL.of (s4 _ _ er)),_,_,U,U,_,U,a,_,_,_,U,U,sq ha4,a5,_,_,U,U,(by show(0:Int)<9; decide),rfl,.inr ⟨_,rfl,_,_,rfl,rfl,?_⟩⟩;have k01:(0:Int)<=(if decide (V.int (v5%9)=V.int 1)=true then 1 else 0)/\(if decide (V.int (v5%9)=V.int 1)=true then(1:Int) else 0)<=1:=by split <;> decide
  generalize (if decide (V.int (v5%9)=V.int 1)=true then(1:Int) else 0)=k at k01 ⊢;have e0:=bq v4 (show(ys.length:Int)+1+k≠0 by lia);have e1:=aX v4 (show(0:Int)<(ys.length:Int)+1+k by lia);have tk:zAf (v4%((ys.length:Int)+1+k)):=xZ (by lia);refine⟨_,_,U,U,(by show(0:Int)<(ys.length:Int)+1+k; lia),_,rfl,_,rfl,a,_,_,_,rfl,rfl,sq ha4,a6,_,rfl,v6,R,ns,rfl,y6.1,y6.2,eR4,l1,okn,λnm2 H5 an2 s5=>?_⟩;refine⟨(by show 4<=sizeLine; decide),λw hw=>?_⟩;generalize v4%((ys.length:Int)+1+k)=kk at tk hw ⊢;have sw:=zC hw (.tup [.str "range",.int kk,.str nm,.str nm2]);exact q (.ref w) (.range kk nm nm2) _ (.of (s4.trans (s5.trans sw))) (zGq zA) ⟨tk,an,an2⟩ trivial
 exists _,U,U,_,rfl;refine ifE (λz13=>?_) (λz13=>?_)
 ·skip
  refine⟨_,U,a,_,_,_,U,U,sq ha4,a4,_,U,d,.ref r,U,.inl ⟨_,.inr "runs",lw4.at_,U,uL.symm⟩,r,ys,U,.inl (SqL.of (s4 _ _ er)),_,_,U,U,_,U,a,_,_,_,U,U,sq ha4,a5,_,_,U,U,(by show(0:Int)<9; decide),rfl,.inr ⟨_,rfl,_,_,rfl,rfl,?_⟩⟩;have k01:(0:Int)<=(if decide (V.int (v5%9)=V.int 1)=true then 1 else 0)/\(if decide (V.int (v5%9)=V.int 1)=true then(1:Int) else 0)<=1:=by split <;> decide
  generalize (if decide (V.int (v5%9)=V.int 1)=true then(1:Int) else 0)=k at k01 ⊢;have e0:=bq v4 (show(ys.length:Int)+1+k≠0 by lia);have e1:=aX v4 (show(0:Int)<(ys.length:Int)+1+k by lia);have tk:zAf (v4%((ys.length:Int)+1+k)):=xZ (by lia);refine⟨_,_,U,U,(by show(0:Int)<(ys.length:Int)+1+k; lia),_,rfl,_,rfl,a,_,_,_,rfl,rfl,sq ha4,a6,_,rfl,v6,R,ns,rfl,y6.1,y6.2,eR4,l1,okn,λnm2 H5 an2 s5=>?_⟩;refine⟨(by show 4<=sizeLine; decide),λw hw=>?_⟩;generalize v4%((ys.length:Int)+1+k)=kk at tk hw ⊢;have sw:=zC hw (.tup [.str "range",.int kk,.str nm,.str nm2]);exact q (.ref w) (.range kk nm nm2) _ (.of (s4.trans (s5.trans sw))) (zGq zA) ⟨tk,an,an2⟩ trivial
 ·refine⟨_,U,a,_,_,_,U,U,sq ha4,a4,_,U,d,.int S.coming,U,.inl ⟨_,.inr "next",lw4.at_,U,qQ.symm⟩,_,_,U,U,_,_,U,U,(by show(0:Int)<S.coming+1; lia),sz2,λw hw=>?_⟩;have e0:=bq v4 (show S.coming+1≠0 by lia);have e1:=aX v4 (show(0:Int)<S.coming+1 by lia);have tk:zAf (v4%(S.coming+1)):=xZ (by lia);generalize v4%(S.coming+1)=kk at tk hw ⊢;have sw:=zC hw (.tup [.str "strike",.int kk]);exact q (.ref w) (.strike kk) _ (.of (s4.trans sw)) (zIa zA) (tk) trivial
def yi1(cs:List (Int×Int)):Prop:=zY2 cs
def rL(_:ae):Sp:=λvs H Q _=>∃(c:af)(ps:List Pr)(cs:List (Int×Int)),vs=[.ref c]/\H c=some (.tup (wI ps))/\yh4 H cs ps/\yi1 cs/\Q (.bl (zKv cs)) H
theorem zDw(F:Fun K "_law_round_enough" "_law_round_enough" wR f fd)(Z:Zs mg)(CB:Cb P w mg base)  : yQ P w K mg base CX0 1 f fd ["_law_places"] (rL K):=by
 specialize zDr
 ·obtain⟨c,ps,cs,rfl,_⟩:=h;rfl
 obtain⟨c,ps,cs,rfl,hc,cn,sd,q⟩:=h;obtain⟨a1,a2,a3,rfl,e⟩:=zV6 sd
 refine'⟨_,(zF (zM ?_)),?_⟩
 nofun
 obtain⟨pt,at_⟩:=cn
 match ps,pt with
 | [p1,p2,p3],pt =>
  simp only[aQ,fq,iB,and_true] at pt;obtain⟨rfl,rfl,rfl⟩:=pt;rw[e] at q;have h1:=at_ p1 (.head _);have h3:=at_ p3 (.tail _ (.tail _ (.head _)));have cq:Sq K H c (wI [p1,p2,p3]):=.inr (SqT.of hc);exists _,U,c,_,U,.inr (SqT.of hc),U,_,rfl;refine yY ?_;exact⟨_,U,c,_,2,.ref p3.1,U,U,cq,U,p3.1,_,1,.int p3.2.2,U,U,.inr (SqT.of h3),U,_,U,c,_,0,.ref p1.1,U,U,cq,U,p1.1,_,1,.int p1.2.2,U,U,.inr (SqT.of h1),U,_,_,U,U,q⟩
def zY1:Deed->Prop
 | .bank _ cs=>yi1 cs
 | .level _=>True
 | _=>False
theorem zY1.cases{D:Deed}(h:zY1 D):(∃ n cs,D=.bank n cs/\yi1 cs)\/∃ n,D=.level n:=by
 cases D <;> first | exact h.elim | exact .inl ⟨_,_,rfl,h⟩ | exact .inr ⟨_,rfl⟩
def zBp(_:ae):Sp:=zLx zY1
theorem zHq(F:Fun K "_law_bank_word" "_law_bank_word" tO f fd)(Z:Zs mg)(CB:Cb P w mg base)(yAd:Has P w K mg base "_law_round_enough" 1 ["_law_places"] (rL K))(yCd:Has P w K mg base "_law_near" 1 ["_law_x","_law_y"] (zC5 K))(yBj:Has P w K mg base "_law_is_name" 1 ["_law_name"] (zAt K)):yQ P w K mg base CX0 2 f fd ["_law_m","_law_deed_here"] (zBp K):=by
 specialize zHj
 ·obtain⟨d,v,S,D,rfl,_⟩:=h;rfl
 obtain⟨d,v,S,D,rfl,⟨m,b,r,n,lw⟩,hv,tm,wl,mk,q⟩:=h;have say:∀(o:Option Cl)(H':Hp),zT S D=o->Sam H H'->Q (.str (zG9 o)) H':=λo H' e s=>e ▸ q _ s;obtain⟨bk',hbk,kb⟩:=lw.ba;have lbk:bk'.length=S.banks.length:=by rw[kb.length]; unfold bkE; rw[ac]
 refine'⟨_,(zD (zY ?_ (zF (zM (tP (zAe (zJ8 (zV hr) ?_ (zP (zV hr) (pv 0) zK (λ_ _=>rfl))) (by with_unfolding_all rfl)) zK zK))) zN)
   (zD (zY ?_ (zF (zM zK)) zN)
   (zD (zY (zAe (zJ8 (zV hr) ?_ (zP (zV hr) (pv 0) zK (λ_ _=>rfl))) (by with_unfolding_all rfl)) (zF (zM zK)) zN)
   (zD (zY (zBu (zBl (zR (sS rfl) rfl Z.all zGz (zB (vY (T:=["_law_x","_law_y"]) (caps:=[]) ⟨rfl,by decide +kernel,by decide +kernel,rfl,bv⟩ rfl (zWk ?_) (λ_=>(zIl rfl (xS (zD4 0 (show(["_law_x","_law_y"]:List aA).Nodup by decide +kernel)) (xS (zD4 1 (show(["_law_x","_law_y"]:List aA).Nodup by decide +kernel)) zBw)))) (λ_=>wP) (λ_=>?_)) zI)))) (zF (zM zK)) zN)
   (zD (zY ?_ (zF (zM zK)) zN)
   (zF (zM (tP (yJ zIx (zR vT rfl Z.len wV (zB (zP (zV hr) (pv 0) zK (λ_ _=>rfl)) zI)) yL (yW _)) zK zK)))))))),?_⟩
 nofun
 rcases mk.cases with ⟨nm,cs,rfl,sd⟩ | ⟨nm,rfl⟩
 ·clear mk q;obtain⟨t,c,ps,rfl,ht,hc,cn,rc⟩:=zAw hv;have tq:Sq K H t [.str "bank",.str nm,.ref c]:=.inr (SqT.of ht);exists _,U,t,_,0,.str "bank",U,U,tq,U,U,_,rfl;refine yB ?_;refine⟨_,U,t,_,1,.str nm,U,U,tq,U,nm,U,tm.1,λbb H1 hb s1=>⟨_,U,?_⟩⟩;cases bb with
  | false=>exact yY (say (some .badName) _ (by simp only[zT,if_pos (sK hb rfl)]) (.of s1))
  | true =>
  have j1:=ao.mpr (hb.mp rfl);refine yB ?_;have hd1:=Rd.same lw.at_ s1;have hc1:=s1 _ _ hc;have tq1:Sq K H1 t [.str "bank",.str nm,.ref c]:=.inr (SqT.of (s1 _ _ ht));exists _,U,t,_,1,.str nm,U,U,tq1,U,_,U,d,.ref b,U,.inl ⟨_,.inr "banks",hd1,U,qW.symm⟩,b,_,U,.inl ⟨bk',.inr nm,Rd.same hbk s1,U,U⟩,_,rfl;have bn:=zDc (n:=nm) kb;cases e:(wL bk' (.inr nm)).isSome with
  | true=>exact yY (say (some .taken) _ (by simp only[zT,if_neg j1,if_pos (show nm∈S.banks.map (·.1) from eQ λz=>by rw[bn.mpr z] at e; cases e)]) (.of s1))
  | false =>
  have j2:nm ∉ S.banks.map (·.1):=bn.mp (by cases h:wL bk' (.inr nm) <;> simp[h] at e ⊢);refine yB ?_;refine⟨_,U,t,_,2,.ref c,U,U,tq1,U,c,U,⟨_,SqT.of hc1⟩,λcc D hD=>?_⟩;have l3:ps.length<=12:=by have:=congrArg cN cn.pt; rw[ac] at this; rw[this]; exact tm.2.1
  refine zMs (K:=K) (a:=c) (xs:=wI ps) (λi σ zs H'=>Same H1 H'/\H' D=some (.lst zs)/\(∃ bs:List Bool,zs=bs.map V.bl/\bs.length=i/\(bs.all id=true↔∀ p∈ps.take i,zD3 p.2))/\∃ u0 u1:Option V,σ=[u0,u1])
   ⟨zC hD _,zA,⟨[],rfl,rfl,iff_of_true rfl λe he=>(nomatch he)⟩,none,none,rfl⟩ (λi σ zs H' _ ⟨sH,e,_⟩=>⟨SqT.of (sH _ _ hc1),e⟩) ?_ ?_
  ·rintro i v σ zs H' hi ⟨sH,eD,⟨bs,rfl,lb,ab⟩,u0,u1,rfl⟩;unfold wI at hi;rw[bp,av,aH] at hi;obtain⟨pp,gp,rfl⟩:=hi;have hp:=cn.at_ pp (aN gp);have hil:=(aM.mp gp).1;refine⟨_,_,U,SqT.of (sH _ _ (s1 _ _ hp)),U,_,_,U,_,_,U,U,_,U,_,U,pp.2.1,pp.2.2,U,λbb hb=>?_⟩;refine⟨eD,zW (by rw[ac]; lia),sH.putNew hD,zA,⟨bs++[bb],by rw[aG]; rfl,by rw[aF,lb]; rfl,?_⟩,_,_,rfl⟩;rw[iI,aZ,ab,bL,gp,show [bb].all id=bb from by cases bb <;> rfl,hb];exact⟨λh e' he'=>(aS.mp he').elim (h.1 e') λz=>by rw[au.mp z]; exact h.2,λh=>⟨λe' z=>h e' (dM _ z),h pp (aW _ (.head _))⟩⟩
  ·rintro σ zs H' ⟨sH,eD,⟨bs,rfl,lb,ab⟩,u0,u1,rfl⟩;have lr:(wI ps).length=ps.length:=xL ps;rw[lr,bU] at ab;have ab:bs.all id=true↔∀ c∈cs,zD3 c:=by
    rw[ab,<- cn.pt];exact⟨λh c hc=>let ⟨p,hp,e⟩:=aC.mp hc; e ▸ h p hp,λh p hp=>h _ (aC.mpr ⟨p,hp,rfl⟩)⟩
   have s1':=s1.trans sH;exists D,bs,U,SqL.of eD,_,rfl;cases hb:bs.all id with
   | false=>exact yY (say (some .badPlace) _ (by simp only[zT,if_neg j1,if_neg j2,if_pos (sK ab hb)]) (.of s1'))
   | true =>
   have j3:=ao.mpr (ab.mp hb);refine yB ?_;have tq2:Sq K H' t [.str "bank",.str nm,.ref c]:=.inr (SqT.of (s1' _ _ ht));exists _,U,t,_,2,.ref c,U,U,tq2,U,c,ps,cs,U,s1' _ _ hc,⟨cn.pt,λt ht=>s1' _ _ (cn.at_ t ht)⟩,sd,_,rfl;cases hk:zKv cs with
   | false=>exact yY (say (some .badBank) _ (by simp only[zT,if_neg j1,if_neg j2,if_neg j3,if_pos hk]) (.of s1'))
   | true =>
   have j4:¬ zKv cs=false:=by rw[hk]; exact Bool.noConfusion
   refine yB ?_;exists _,U,d,.ref b,U,.inl ⟨_,.inr "banks",Rd.same lw.at_ s1',U,qW.symm⟩,b,bk',U,Rd.same hbk s1',_,_,U,U,_,rfl;exact ifD (λz=>say (some .full) _ (by simp only[zT,if_neg j1,if_neg j2,if_neg j3,if_neg j4,if_pos (show 8<=S.banks.length by lia)]) (.of s1')) (λz=>say none _ (by simp only[zT,if_neg j1,if_neg j2,if_neg j3,if_neg j4,if_neg (show ¬ 8<=S.banks.length by lia)]) (.of s1'))
 ·clear mk q;obtain⟨t,rfl,ht⟩:=qA hv;have tq:Sq K H t [.str "level",.str nm]:=.inr (SqT.of ht);exists _,U,t,_,0,.str "level",U,U,tq,U,U,_,rfl;refine yY ?_;exists _,U,t,_,1,.str nm,U,U,tq,U,_,U,d,.ref b,U,.inl ⟨_,.inr "banks",lw.at_,U,qW.symm⟩,b,_,U,.inl ⟨bk',.inr nm,hbk,U,U⟩,_,rfl;have bn:=zDc (n:=nm) kb;cases e:(wL bk' (.inr nm)).isSome with
  | true=>exact yY (say none _ (by simp only[zT,if_pos (show nm∈S.banks.map (·.1) from eQ λz=>by rw[bn.mpr z] at e; cases e)]) (.refl _))
  | false=>exact yB (say (some .noBank) _ (by simp only[zT,if_neg (bn.mp (by cases h:wL bk' (.inr nm) <;> simp[h] at e ⊢))]) (.refl _))
def zZb:Deed->Prop
 | .bank _ cs=>yi1 cs
 | _=>True
def zMr(_:ae):Sp:=zLx zZb
theorem zT7(F:Fun K "_law_word" "_law_word" zE5 f fd)(Z:Zs mg)(CB:Cb P w mg base)(yBe:Has P w K mg base "_law_note_word" 2 ["_law_m","_law_deed_here"] (zBo K))(yBh:Has P w K mg base "_law_run_word" 2 ["_law_m","_law_deed_here"] (zCn K))(yBd:Has P w K mg base "_law_bank_word" 2 ["_law_m","_law_deed_here"] (zBp K))(yBb:Has P w K mg base "_law_mark_word" 2 ["_law_m","_law_deed_here"] (zBt K)):yQ P w K mg base CX0 3 f fd ["_law_m","_law_deed_here"] (zMr K):=by
 specialize zSy
 ·obtain⟨d,v,S,D,rfl,_⟩:=h;rfl
 obtain⟨d,v,S,D,rfl,lw,hv,tm,wl,mk,q⟩:=h
 refine'⟨_,(zD (zY (yJ rS ?_ ?_ (by with_unfolding_all rfl)) (zF (zM ?_)) zN)
   (zD (zY (yJ rS ?_ ?_ (by with_unfolding_all rfl)) (zF (zM ?_)) zN)
   (zD (zY (yJ rS ?_ ?_ (by with_unfolding_all rfl)) (zF (zM ?_)) zN)
   (zF (zM ?_))))),?_⟩
 nofun
 match D,hv,tm,mk,q with
 | .mark _ _ _,hv,tm,mk,q =>
  obtain⟨t,rfl,ht⟩:=zB6 hv;refine⟨_,U,t,_,0,.str "mark",U,U,.inr (SqT.of ht),U,sz3,λz1 hz1=>?_⟩;have sz:=zC hz1 (.tup [.str "mark",.str "move",.str "unmark"]);exists z1,_,U,.inr (SqT.of zA),U,U,_,rfl;exact yY ⟨_,rfl,_,rfl,d,.ref t,S,_,rfl,lw.to (.of sz),hv.to (.of sz),tm,wl,trivial,λH' s'=>q H' ((yR.of sz).trans s')⟩
 | .move _ _ _,hv,tm,mk,q =>
  obtain⟨t,rfl,ht⟩:=zCa hv;refine⟨_,U,t,_,0,.str "move",U,U,.inr (SqT.of ht),U,sz3,λz1 hz1=>?_⟩;have sz:=zC hz1 (.tup [.str "mark",.str "move",.str "unmark"]);exists z1,_,U,.inr (SqT.of zA),U,U,_,rfl;exact yY ⟨_,rfl,_,rfl,d,.ref t,S,_,rfl,lw.to (.of sz),hv.to (.of sz),tm,wl,trivial,λH' s'=>q H' ((yR.of sz).trans s')⟩
 | .unmark _,hv,tm,mk,q =>
  obtain⟨t,rfl,ht⟩:=sQ hv;refine⟨_,U,t,_,0,.str "unmark",U,U,.inr (SqT.of ht),U,sz3,λz1 hz1=>?_⟩;have sz:=zC hz1 (.tup [.str "mark",.str "move",.str "unmark"]);exists z1,_,U,.inr (SqT.of zA),U,U,_,rfl;exact yY ⟨_,rfl,_,rfl,d,.ref t,S,_,rfl,lw.to (.of sz),hv.to (.of sz),tm,wl,trivial,λH' s'=>q H' ((yR.of sz).trans s')⟩
 | .bank _ _,hv,tm,mk,q =>
  obtain⟨t,_,_,rfl,ht,_⟩:=zAw hv;refine⟨_,U,t,_,0,.str "bank",U,U,.inr (SqT.of ht),U,sz3,λz1 hz1=>?_⟩;have sz:=zC hz1 (.tup [.str "mark",.str "move",.str "unmark"]);exists z1,_,U,.inr (SqT.of zA),U,U,_,rfl;refine yB ?_;refine⟨_,U,t,_,0,.str "bank",U,U,.inr (SqT.of (sz _ _ ht)),U,sz2,λz2 hz2=>?_⟩
  replace sz:=sz.trans (zC hz2 (.tup [.str "bank",.str "level"]))
  exists z2,_,U,.inr (SqT.of zA),U,U,_,rfl;exact yY ⟨_,rfl,_,rfl,d,.ref t,S,_,rfl,lw.to (.of sz),hv.to (.of sz),tm,wl,mk,λH' s'=>q H' ((yR.of sz).trans s')⟩
 | .level _,hv,tm,mk,q =>
  obtain⟨t,rfl,ht⟩:=qA hv;refine⟨_,U,t,_,0,.str "level",U,U,.inr (SqT.of ht),U,sz3,λz1 hz1=>?_⟩;have sz:=zC hz1 (.tup [.str "mark",.str "move",.str "unmark"]);exists z1,_,U,.inr (SqT.of zA),U,U,_,rfl;refine yB ?_;refine⟨_,U,t,_,0,.str "level",U,U,.inr (SqT.of (sz _ _ ht)),U,sz2,λz2 hz2=>?_⟩
  replace sz:=sz.trans (zC hz2 (.tup [.str "bank",.str "level"]))
  exists z2,_,U,.inr (SqT.of zA),U,U,_,rfl;exact yY ⟨_,rfl,_,rfl,d,.ref t,S,_,rfl,lw.to (.of sz),hv.to (.of sz),tm,wl,trivial,λH' s'=>q H' ((yR.of sz).trans s')⟩
 | .sail _ _,hv,tm,mk,q =>
  obtain⟨t,rfl,ht⟩:=zB0 hv;refine⟨_,U,t,_,0,.str "sail",U,U,.inr (SqT.of ht),U,sz3,λz1 hz1=>?_⟩;have sz:=zC hz1 (.tup [.str "mark",.str "move",.str "unmark"]);exists z1,_,U,.inr (SqT.of zA),U,U,_,rfl;refine yB ?_;refine⟨_,U,t,_,0,.str "sail",U,U,.inr (SqT.of (sz _ _ ht)),U,sz2,λz2 hz2=>?_⟩
  replace sz:=sz.trans (zC hz2 (.tup [.str "bank",.str "level"]))
  exists z2,_,U,.inr (SqT.of zA),U,U,_,rfl;refine yB ?_;refine⟨_,U,t,_,0,.str "sail",U,U,.inr (SqT.of (sz _ _ ht)),U,sz2,λz2 hz2=>?_⟩
  replace sz:=sz.trans (zC hz2 (.tup [.str "sail",.str "right"]))
  exists z2,_,U,.inr (SqT.of zA),U,U,_,rfl;exact yY ⟨_,rfl,_,rfl,d,.ref t,S,_,rfl,lw.to (.of sz),hv.to (.of sz),tm,wl,trivial,λH' s'=>q H' ((yR.of sz).trans s')⟩
 | .right _ _ _,hv,tm,mk,q =>
  obtain⟨t,rfl,ht⟩:=qH hv;refine⟨_,U,t,_,0,.str "right",U,U,.inr (SqT.of ht),U,sz3,λz1 hz1=>?_⟩;have sz:=zC hz1 (.tup [.str "mark",.str "move",.str "unmark"]);exists z1,_,U,.inr (SqT.of zA),U,U,_,rfl;refine yB ?_;refine⟨_,U,t,_,0,.str "right",U,U,.inr (SqT.of (sz _ _ ht)),U,sz2,λz2 hz2=>?_⟩
  replace sz:=sz.trans (zC hz2 (.tup [.str "bank",.str "level"]))
  exists z2,_,U,.inr (SqT.of zA),U,U,_,rfl;refine yB ?_;refine⟨_,U,t,_,0,.str "right",U,U,.inr (SqT.of (sz _ _ ht)),U,sz2,λz2 hz2=>?_⟩
  replace sz:=sz.trans (zC hz2 (.tup [.str "sail",.str "right"]))
  exists z2,_,U,.inr (SqT.of zA),U,U,_,rfl;exact yY ⟨_,rfl,_,rfl,d,.ref t,S,_,rfl,lw.to (.of sz),hv.to (.of sz),tm,wl,trivial,λH' s'=>q H' ((yR.of sz).trans s')⟩
 | .bearing _ _ _ _ _ _,hv,tm,mk,q =>
  obtain⟨t,_,_,rfl,ht,_⟩:=xG hv;refine⟨_,U,t,_,0,.str "bearing",U,U,.inr (SqT.of ht),U,sz3,λz1 hz1=>?_⟩;have sz:=zC hz1 (.tup [.str "mark",.str "move",.str "unmark"]);exists z1,_,U,.inr (SqT.of zA),U,U,_,rfl;refine yB ?_;refine⟨_,U,t,_,0,.str "bearing",U,U,.inr (SqT.of (sz _ _ ht)),U,sz2,λz2 hz2=>?_⟩
  replace sz:=sz.trans (zC hz2 (.tup [.str "bank",.str "level"]))
  exists z2,_,U,.inr (SqT.of zA),U,U,_,rfl;refine yB ?_;refine⟨_,U,t,_,0,.str "bearing",U,U,.inr (SqT.of (sz _ _ ht)),U,sz2,λz2 hz2=>?_⟩
  replace sz:=sz.trans (zC hz2 (.tup [.str "sail",.str "right"]))
  exists z2,_,U,.inr (SqT.of zA),U,U,_,rfl;exact yB ⟨_,rfl,_,rfl,d,.ref t,S,_,rfl,lw.to (.of sz),hv.to (.of sz),tm,wl,trivial,λH' s'=>q H' ((yR.of sz).trans s')⟩
 | .range _ _ _,hv,tm,mk,q =>
  obtain⟨t,rfl,ht⟩:=wZ hv;refine⟨_,U,t,_,0,.str "range",U,U,.inr (SqT.of ht),U,sz3,λz1 hz1=>?_⟩;have sz:=zC hz1 (.tup [.str "mark",.str "move",.str "unmark"]);exists z1,_,U,.inr (SqT.of zA),U,U,_,rfl;refine yB ?_;refine⟨_,U,t,_,0,.str "range",U,U,.inr (SqT.of (sz _ _ ht)),U,sz2,λz2 hz2=>?_⟩
  replace sz:=sz.trans (zC hz2 (.tup [.str "bank",.str "level"]))
  exists z2,_,U,.inr (SqT.of zA),U,U,_,rfl;refine yB ?_;refine⟨_,U,t,_,0,.str "range",U,U,.inr (SqT.of (sz _ _ ht)),U,sz2,λz2 hz2=>?_⟩
  replace sz:=sz.trans (zC hz2 (.tup [.str "sail",.str "right"]))
  exists z2,_,U,.inr (SqT.of zA),U,U,_,rfl;exact yB ⟨_,rfl,_,rfl,d,.ref t,S,_,rfl,lw.to (.of sz),hv.to (.of sz),tm,wl,trivial,λH' s'=>q H' ((yR.of sz).trans s')⟩
 | .strike _,hv,tm,mk,q =>
  obtain⟨t,rfl,ht⟩:=sJ hv;refine⟨_,U,t,_,0,.str "strike",U,U,.inr (SqT.of ht),U,sz3,λz1 hz1=>?_⟩;have sz:=zC hz1 (.tup [.str "mark",.str "move",.str "unmark"]);exists z1,_,U,.inr (SqT.of zA),U,U,_,rfl;refine yB ?_;refine⟨_,U,t,_,0,.str "strike",U,U,.inr (SqT.of (sz _ _ ht)),U,sz2,λz2 hz2=>?_⟩
  replace sz:=sz.trans (zC hz2 (.tup [.str "bank",.str "level"]))
  exists z2,_,U,.inr (SqT.of zA),U,U,_,rfl;refine yB ?_;refine⟨_,U,t,_,0,.str "strike",U,U,.inr (SqT.of (sz _ _ ht)),U,sz2,λz2 hz2=>?_⟩
  replace sz:=sz.trans (zC hz2 (.tup [.str "sail",.str "right"]))
  exists z2,_,U,.inr (SqT.of zA),U,U,_,rfl;exact yB ⟨_,rfl,_,rfl,d,.ref t,S,_,rfl,lw.to (.of sz),hv.to (.of sz),tm,wl,trivial,λH' s'=>q H' ((yR.of sz).trans s')⟩
def numO(S:BS)(D:Deed):Option Cl->V
 | none=>zJ2 S D
 | some _=>.non
theorem vR{S:BS}{D:Deed}(h:(aft S D).coming=S.coming):zJ2 S D=.non:=by unfold zJ2; rw[if_pos h.symm]
theorem zKl{S:BS}{D:Deed}(h:(aft S D).coming=S.coming+1):zJ2 S D=.int S.coming:=by unfold zJ2; rw[if_neg (by lia)]
theorem zSp(c:Cl):zHd c ≠ "" := by cases c <;> decide +kernel
def zOi(_:ae):Sp:=λvs H Q _=>∃(d:af)(v:V)(S:BS)(D:Deed),vs=[.ref d,v]/\zSz H d S/\Rep H D.dt v/\zEg D/\zJ1 S/\zZb D/\∀(t:af)(H':Hp),Sam H H'->H' t=some (.tup [.str (zG9 (zT S D)),numO S D (zT S D)])->Q (.ref t) H'
theorem zV1(F:Fun K "_law_due" "_law_due" zIw f fd)(Z:Zs mg)(CB:Cb P w mg base)(yCc:Has P w K mg base "_law_word" 3 ["_law_m","_law_deed_here"] (zMr K)):yQ P w K mg base CX0 4 f fd ["_law_m","_law_deed_here"] (zOi K):=by
 specialize zPf
 ·obtain⟨d,v,S,D,rfl,_⟩:=h;rfl
 obtain⟨d,v,S,D,rfl,lw,hv,tm,wl,mk,q⟩:=h
 refine'⟨_,(zD (yI 2 zPf.nd ?_)
   (zD (zY (PW.pt (zIi ?_ (zDo (yJ rS ?_ ?_ (by with_unfolding_all rfl))))) (zF (zM (yX (zB zK (zB (zP (zV hr) (pv 0) zK (λ_ _=>rfl)) zI))))) zN)
   (zF (zM ?_)))),?_⟩
 nofun
 refine⟨_,U,_,U,d,v,S,D,U,lw,hv,tm,wl,mk,λH1 s1=>⟨_,U,U,_,U,?_⟩⟩;have last:∀(H2:Hp),Sam H H2->numO S D (zT S D)=.non->2<=sizeLine/\∀ t:af,H2 t=none->Q (.ref t) (upd H2 t (.tup [.str (zG9 (zT S D)),.non])):=λH2 s2 e=>⟨by decide,λt ht=>q t _ (s2.trans (.of (zC ht _))) (by rw[zA,e])⟩;cases hj:zT S D with
 | some c =>
  rw[hj] at last;exact yi5 (zSp c) (yB ⟨_,rfl,last _ s1 rfl⟩)
 | none =>
  rw[hj] at last q;refine ifSt ?_;have hv1:=hv.to s1
  match D,hv1,q,last with
  | .mark _ _ _,hv1,q,last =>
   obtain⟨t,rfl,ht⟩:=zB6 hv1;refine⟨_,U,t,_,0,.str "mark",U,U,.inr (SqT.of ht),U,sz2,λz1 hz1=>?_⟩;have sz:=zC hz1 (.tup [.str "bearing",.str "range"]);exists z1,_,U,.inr (SqT.of zA),U,U,_,rfl;exact yB ⟨_,rfl,last _ (s1.trans (.of sz)) (vR rfl)⟩
  | .unmark _,hv1,q,last =>
   obtain⟨t,rfl,ht⟩:=sQ hv1;refine⟨_,U,t,_,0,.str "unmark",U,U,.inr (SqT.of ht),U,sz2,λz1 hz1=>?_⟩;have sz:=zC hz1 (.tup [.str "bearing",.str "range"]);exists z1,_,U,.inr (SqT.of zA),U,U,_,rfl;exact yB ⟨_,rfl,last _ (s1.trans (.of sz)) (vR rfl)⟩
  | .bank _ _,hv1,q,last =>
   obtain⟨t,_,_,rfl,ht,_⟩:=zAw hv1;refine⟨_,U,t,_,0,.str "bank",U,U,.inr (SqT.of ht),U,sz2,λz1 hz1=>?_⟩;have sz:=zC hz1 (.tup [.str "bearing",.str "range"]);exists z1,_,U,.inr (SqT.of zA),U,U,_,rfl;exact yB ⟨_,rfl,last _ (s1.trans (.of sz)) (vR rfl)⟩
  | .level _,hv1,q,last =>
   obtain⟨t,rfl,ht⟩:=qA hv1;refine⟨_,U,t,_,0,.str "level",U,U,.inr (SqT.of ht),U,sz2,λz1 hz1=>?_⟩;have sz:=zC hz1 (.tup [.str "bearing",.str "range"]);exists z1,_,U,.inr (SqT.of zA),U,U,_,rfl;exact yB ⟨_,rfl,last _ (s1.trans (.of sz)) (vR rfl)⟩
  | .sail _ _,hv1,q,last =>
   obtain⟨t,rfl,ht⟩:=zB0 hv1;refine⟨_,U,t,_,0,.str "sail",U,U,.inr (SqT.of ht),U,sz2,λz1 hz1=>?_⟩;have sz:=zC hz1 (.tup [.str "bearing",.str "range"]);exists z1,_,U,.inr (SqT.of zA),U,U,_,rfl;exact yB ⟨_,rfl,last _ (s1.trans (.of sz)) (vR rfl)⟩
  | .strike _,hv1,q,last =>
   obtain⟨t,rfl,ht⟩:=sJ hv1;refine⟨_,U,t,_,0,.str "strike",U,U,.inr (SqT.of ht),U,sz2,λz1 hz1=>?_⟩;have sz:=zC hz1 (.tup [.str "bearing",.str "range"]);exists z1,_,U,.inr (SqT.of zA),U,U,_,rfl;exact yB ⟨_,rfl,last _ (s1.trans (.of sz)) (vR rfl)⟩
  | .move _ _ _,hv1,q,last =>
   obtain⟨t,rfl,ht⟩:=zCa hv1;refine⟨_,U,t,_,0,.str "move",U,U,.inr (SqT.of ht),U,sz2,λz1 hz1=>?_⟩;have sz:=zC hz1 (.tup [.str "bearing",.str "range"]);exists z1,_,U,.inr (SqT.of zA),U,U,_,rfl;exact yB ⟨_,rfl,last _ (s1.trans (.of sz)) (vR rfl)⟩
  | .right _ _ _,hv1,q,last =>
   obtain⟨t,rfl,ht⟩:=qH hv1;refine⟨_,U,t,_,0,.str "right",U,U,.inr (SqT.of ht),U,sz2,λz1 hz1=>?_⟩;have sz:=zC hz1 (.tup [.str "bearing",.str "range"]);exists z1,_,U,.inr (SqT.of zA),U,U,_,rfl;exact yB ⟨_,rfl,last _ (s1.trans (.of sz)) (vR rfl)⟩
  | .bearing _ _ _ _ _ _,hv1,q,last =>
   obtain⟨t,_,_,rfl,ht,_⟩:=xG hv1;refine⟨_,U,t,_,0,.str "bearing",U,U,.inr (SqT.of ht),U,sz2,λz1 hz1=>?_⟩;have sz:=zC hz1 (.tup [.str "bearing",.str "range"]);exists z1,_,U,.inr (SqT.of zA),U,U,_,rfl;refine yY ?_;obtain⟨m,b,r,n,lw⟩:=lw;have s2:=s1.trans (yR.of sz);refine⟨_,U,d,.int S.coming,U,.inl ⟨_,.inr "next",s2.rd id lw.at_,U,qQ.symm⟩,sz2,λtt htt=>?_⟩;exact q tt _ (s2.trans (.of (zC htt _))) (by rw[zA]; show _=some (HO.tup [_,zJ2 S _]); rw[zKl rfl]; rfl)
  | .range _ _ _,hv1,q,last =>
   obtain⟨t,rfl,ht⟩:=wZ hv1;refine⟨_,U,t,_,0,.str "range",U,U,.inr (SqT.of ht),U,sz2,λz1 hz1=>?_⟩;have sz:=zC hz1 (.tup [.str "bearing",.str "range"]);exists z1,_,U,.inr (SqT.of zA),U,U,_,rfl;refine yY ?_;obtain⟨m,b,r,n,lw⟩:=lw;have s2:=s1.trans (yR.of sz);refine⟨_,U,d,.int S.coming,U,.inl ⟨_,.inr "next",s2.rd id lw.at_,U,qQ.symm⟩,sz2,λtt htt=>?_⟩;exact q tt _ (s2.trans (.of (zC htt _))) (by rw[zA]; show _=some (HO.tup [_,zJ2 S _]); rw[zKl rfl]; rfl)
def zJ4(_:ae):Sp:=λvs H Q _=>∃(b dx:af),vs=[.ref b]/\H b=some (.ins bkC dx []) /\
 ∀(p l:af)(H':Hp),yR (λx=>x=b) H H'->H p=none->H l=none->BkL bkC H' b p l BS.nil [] []->Q .non H'
theorem zTu(F:Fun K "__init__" "Book.__init__" zE7 f fd)(Z:Zs mg)(CB:Cb P w mg base)(yAm:Has P w K mg base "nothing_yet" 1 [] (zAd K)):yQ P w K mg base CX0 2 f fd ["self"] (zJ4 K):=by
 specialize zSn
 ·obtain⟨b,dx,rfl,_⟩:=h;rfl
 obtain⟨b,dx,rfl,hb,q⟩:=h
 refine'⟨_,(zD (zGe CB.state (pv 0) (zLq yAm (hr.mono (by decide)) rfl))
   (zD (zGe CB.past (pv 0) ?_)
   (zF (zGe CB.later (pv 0) ?_)))),?_⟩
 nofun
 refine⟨U,λd H1 s1 fd0 st=>?_⟩;have hb1:=s1 _ _ hb;exists _,U,b,dx,[],U,hb1,(by show 0<1000; decide);refine⟨sz0,λp hp=>?_⟩;have nbp:b≠p:=zJ zA hp;exists _,U,b,dx,_,U,(by rw[zH nbp,zA]),(by show 1<1000; decide);refine⟨sz0,λl hl=>?_⟩;have nbl:b≠l:=zJ zA hl;have npl:p≠l:=λz=>by
  rw[<- z,zH nbp.symm,zA] at hl;cases hl
 exists _,U,b,dx,_,U,(by rw[zH nbl,zA]),(by show 2<1000; decide);rw[zZs];have hp1:H1 p=none:=by rw[zH nbp.symm] at hp; exact hp
 have hl1:H1 l=none:=by rw[zH nbl.symm,zH npl.symm,zH nbl.symm] at hl; exact hl
 have sE:yR (λx=>x=b) H1 (upd (upd (upd (upd (upd H1 b (.ins bkC dx (zE9 "state" (.ref d) []))) p (.lst [])) b (.ins bkC dx (zE9 "past" (.ref p) (zE9 "state" (.ref d) [])))) l (.lst [])) b (.ins bkC dx (bkF d p l))):=λx o hx e=>by
  have n1:=zJ e hp1;have n2:=zJ e hl1;rw[zH hx,zH n2,zH hx,zH n1,zH hx];exact .inl e
 have nd:∀ a kvs,Rd H1 a (.dK kvs)->¬ a=b:=λa kvs h z=>by
  subst z;rcases h with h | ⟨o,h⟩ <;> rw[hb1] at h <;> cases h
 have np:∀ a xs,H1 a=some (.tup xs)->¬ a=b:=λa xs h z=>by
  subst z;rw[hb1] at h;cases h
 refine q p l _ ((yR.of s1).trans sE) (s1.free hp1) (s1.free hl1) ⟨dx,d,[],[],zA,st.samE sE nd np,?_,?_,rfl,rfl,npl.symm⟩
 ·rw[zH nbp.symm,zH npl,zH nbp.symm,zA]
 ·rw[zH nbl.symm,zA]
def zH5(_:ae):Sp:=λvs H Q _=>∃(b p:af)(S:BS)(past later:List (Deed×BS)),vs=[.ref b]/\zMx bkC H b p S past later/\past.length<=500 /\
 ∀(g:af)(xs:List V)(H':Hp),Same H H'->H g=none->H' g=some (.lst xs)->wC H' (past.map (·.1.dt)) xs->Q (.ref g) H'
theorem zQe(F:Fun K "deeds" "Book.deeds" zCd f fd)(Z:Zs mg)(CB:Cb P w mg base)  : yQ P w K mg base CX0 1 f fd ["self"] (zH5 K):=by
 specialize zQq
 ·obtain⟨b,p,S,past,later,rfl,_⟩:=h;rfl
 obtain⟨b,p,S,past,later,rfl,⟨dx,d,l,ps,ls,k⟩,hl,q⟩:=h
 refine'⟨_,(zF (zM (vY (T:=["pair"]) (caps:=[]) ⟨rfl,by decide +kernel,by decide +kernel,rfl,bv⟩ rfl (zO5 (qJ CB.past (pv 0))) (λ_=>(zD4 0 (show(["pair"]:List aA).Nodup by decide +kernel))) (λ_=>wP) (λ_=>?_)))),?_⟩
 nofun
 have lp:=k.pp.len;refine⟨_,U,b,dx,_,_,U,k.ob,zTr,p,U,.inl ⟨⟨_,SqL.of k.pa⟩,λc g hg=>?_⟩⟩;refine zIc (K:=K) (a:=p) (xs:=ps) (λi σ zs H'=>Same H H'/\H' g=some (.lst zs)/\zs.length<=i/\wC H' ((past.take i).map (·.1.dt)) zs/\∃ u:Option V,σ=[u])
  ⟨zC hg _,zA,al _,yF.mpr rfl,none,rfl⟩ (λi σ zs H' _ ⟨sH,e,_⟩=>⟨SqL.of (sH _ _ k.pa),e⟩) ?_ ?_
 ·rintro i x σ zs H' hi ⟨sH,eg,lz,rz,u,rfl⟩;have il:=(aM.mp hi).1;obtain⟨e,t,d',v,ge,rfl,ht,rv⟩:=(k.pp).get hi;refine⟨_,U,t,_,0,v,U,U,.inr (SqT.of (sH _ _ ht)),U,eg,zW (by lia),sH.putNew hg,zA,by rw[aF]; simp only[aU,cO]; lia,?_,_,rfl⟩;have sE:=uT (o:=.lst (zs++[v])) eg;have np:=zIe eg;rw[bL,ge,aG];exact(wC.app rz (.one (rv.to (.of sH)))).sam sE np
 ·rintro σ zs H' ⟨sH,eg,lz,rz,u,rfl⟩;rw[lp,bU] at rz;exact q g zs H' sH hg eg rz
def zHw(_:ae):Sp:=λvs H Q _=>∃(b p:af)(S:BS)(past later:List (Deed×BS)),vs=[.ref b]/\zMx bkC H b p S past later/\zGg S /\
 ∀(c:af)(zs:List V)(H':Hp),Same H H'->H' c=some (.lst zs)->wC H' (zQd S) zs->Q (.ref c) H'
theorem zPz(F:Fun K "marks" "Book.marks" zCr f fd)(Z:Zs mg)(CB:Cb P w mg base)  : yQ P w K mg base CX0 1 f fd ["self"] (zHw K):=by
 specialize zIb
 ·obtain⟨b,p,S,past,later,rfl,_⟩:=h;rfl
 obtain⟨b,p,S,past,later,rfl,⟨dx,d,l,ps,ls,k⟩,nt,q⟩:=h;obtain⟨m,bk,r,n,st⟩:=k.st;obtain⟨kvs,hm,kv⟩:=id st.ma;have fm:=nt.well.good.few.ma;refine⟨_,(zD (qZ (i:=1) zIb.nd rfl (ku rfl) (zP (zV hr) (qJ CB.state (pv 0)) zK (λ_ _=>rfl)))
   (zF (zM (vY (T:=["name"]) (caps:=[("places",1)]) ⟨rfl,by decide +kernel,by decide +kernel,rfl,⟨⟨rfl,rfl,cP rfl⟩,bv⟩⟩ rfl (zO5 (zR zKf rfl Z.sorted vP (zB (xB (zDz rfl) rfl Z.list zAl (zB (pv 1) zI)) zI))) (λ_=>(qK (i:=0) (show(["name","places"]:List aA).Nodup by decide +kernel) rfl (cP rfl))) (λ_=>wP) (λ_=>(yX (zB (pv 0) (zB (zNs zMe (zP (zV hr) (pv 1) (pv 0) (λ_ _=>rfl)) yL (λ_ _=>rfl)) (zB (zNs zMe (zP (zV hr) (pv 1) (pv 0) (λ_ _=>rfl)) yL (λ_ _=>rfl)) zI))))))))),?_⟩
 try dsimp only[L2.cxOf]
 refine⟨_,U,b,dx,_,_,U,k.ob,qC,d,.ref m,U,.inl ⟨_,.inr "marks",st.at_,U,tN.symm⟩,_,U,m,kvs,U,hm,λg hg=>?_⟩;rw[zJf kv];have s1:=zC hg (.lst ((S.marks.map (·.1)).map V.str));refine⟨g,_,U,SqL.of zA,(by rw[ac]; lia),λt ht=>?_⟩;rw[zC9];obtain⟨ms,hms⟩:∃ ms,ms=vV (tR ((S.marks.map (·.1)).map .inr)) S.marks:=⟨_,rfl⟩;rw[<- hms];have lm:ms.length<=60:=by
  have:=zL2 (S:=S);unfold zQd at this;rw[<- hms,ac] at this;lia
 have s2:=s1.trans (zC ht (.lst ((ms.map (·.1)).map V.str)));refine⟨t,U,.inl ⟨⟨_,SqL.of zA⟩,λcc D hD=>?_⟩⟩;refine zIc (K:=K) (a:=t) (xs:=(ms.map (·.1)).map V.str) (λi σ zs H'=>Same (upd (upd H g (.lst ((S.marks.map (·.1)).map V.str))) t (.lst ((ms.map (·.1)).map V.str))) H'/\H' D=some (.lst zs)/\wC H' ((ms.take i).map mkD) zs/\zs.length=i/\∃ u:Option V,σ=[u,some (.ref m)])
  ⟨zC hD _,zA,yF.mpr rfl,rfl,none,rfl⟩ (λi σ zs H' _ hq=>⟨SqL.of (hq.1 _ _ zA),hq.2.1⟩) ?_ ?_
 ·rintro i x σ zs H' hi ⟨sH,eD,rp,lz,u,rfl⟩;rw[bp,av,aH] at hi;obtain⟨e,hx,rfl⟩:=hi;have me:e∈S.marks:=zF8 (by rw[<- hms]; exact aN hx);have hil:=(aM.mp hx).1;obtain⟨kv',a,g1,g2,g3⟩:=zFq (st.ma.to (.of (s2.trans sH))) (show zQ S e.1=some e.2 from zEb nt.nm me);have dg:zUo H' m (.str e.1) (some (.ref a)):=.inl ⟨kv',.inr e.1,g1,rfl,g2.symm⟩;exists _,U,_,U,_,U,m,.ref a,U,dg;refine⟨a,_,0,.int e.2.1,U,U,.inr (SqT.of g3),U,_,U,_,U,m,.ref a,U,dg,a,_,1,.int e.2.2,U,U,.inr (SqT.of g3),U,sz3,λt3 ht3=>?_⟩;have s4:=zC ht3 (.tup [.str e.1,.int e.2.1,.int e.2.2]);have eD4:=s4 _ _ eD;refine⟨eD4,zW (by lia),(sH.trans s4).putNew hD,zA,?_,by rw[aF,lz]; rfl,_,rfl⟩;rw[bL,hx,aG];refine(wC.app (rp.to (.of s4)) (.one (yD.mpr ⟨t3,_,rfl,zA,zL.mpr ⟨_,_,rfl,zU.mpr rfl,.two (zZ.mpr rfl) (zZ.mpr rfl)⟩⟩))).sam (uT eD4) (zIe eD4)
 ·rintro σ zs H' ⟨sH,eD,rp,_,u,rfl⟩;rw[ac,ac,bU,hms] at rp;exact q D zs H' (s2.trans sH) eD rp
def zIo(_:ae):Sp:=λvs H Q _=>∃(b p:af)(S:BS)(past later:List (Deed×BS)),vs=[.ref b]/\zMx bkC H b p S past later/\zGg S /\
 ∀(c:af)(zs:List V)(H':Hp),Same H H'->H' c=some (.lst zs)->wC H' (zLp (bkE S.banks)) zs->Q (.ref c) H'
theorem zQ0(F:Fun K "banks" "Book.banks" zCz f fd)(Z:Zs mg)(CB:Cb P w mg base)  : yQ P w K mg base CX0 1 f fd ["self"] (zIo K):=by
 specialize zQm
 ·obtain⟨b,p,S,past,later,rfl,_⟩:=h;rfl
 obtain⟨b,p,S,past,later,rfl,⟨dx,d,l,ps,ls,k⟩,nt,q⟩:=h;obtain⟨m,bk,r,n,st⟩:=k.st;obtain⟨kvs,hb,kv⟩:=st.ba;have lk:kvs.length=S.banks.length:=by rw[kv.length]; unfold bkE; rw[ac]
 exists _,(zF (zM (zR (zD0 rfl) rfl Z.sorted vP (zB (zE8 (zP (zV hr) (qJ CB.state (pv 0)) zK (λ_ _=>rfl))) zI))))
 try dsimp only[L2.cxOf]
 refine⟨_,U,b,dx,_,_,U,k.ob,qC,d,.ref bk,U,.inl ⟨_,.inr "banks",st.at_,U,zBd.symm⟩,bk,_,U,hb,λv hv=>?_⟩;have s1:=zC hv (.ext (zBq v bk));refine⟨v,bk,kvs,U,zA,Rd.same hb s1,(by have:=nt.well.good.few.ba; lia),(by rw[kv.keys]; exact nt.oneB),(by rw[kv.keys]; exact nt.ndB),λc as H' s2 hc hl e2 ha=>?_⟩;rw[kv.keys] at e2;exact q c _ H' (s1.trans s2) e2 (zAv (kv.to (.of (s1.trans s2))) hl (λj a e h1 h2=>(ha j a e h1 h2).2) _)
def zMf(_:ae):Sp:=λvs H Q _=>∃(b p:af)(S:BS)(past later:List (Deed×BS)),vs=[.ref b]/\zMx bkC H b p S past later/\Few S /\
 ∀(c:af)(xs:List V)(H':Hp),Same H H'->H c=none->H' c=some (.lst xs)->wC H' (S.runs.map ptD) xs->Q (.ref c) H'
theorem zSd(F:Fun K "runs" "Book.runs" zE3 f fd)(Z:Zs mg)(CB:Cb P w mg base)  : yQ P w K mg base CX0 1 f fd ["self"] (zMf K):=by
 specialize zL8
 ·obtain⟨b,p,S,past,later,rfl,_⟩:=h;rfl
 obtain⟨b,p,S,past,later,rfl,⟨dx,d,l,ps,ls,k⟩,few,q⟩:=h;obtain⟨m,bk,r,n,st⟩:=k.st;obtain⟨kvs,hr1,kv⟩:=id st.ru;have lr:kvs.length=S.runs.length:=by rw[kv.length,zB8]
 refine⟨_,(zD (qZ (i:=1) zL8.nd rfl (ku rfl) (zP (zV hr) (qJ CB.state (pv 0)) zK (λ_ _=>rfl)))
   (zF (zM (vY (T:=["number"]) (caps:=[("runs",1)]) ⟨rfl,by decide +kernel,by decide +kernel,rfl,⟨⟨rfl,rfl,cP rfl⟩,bv⟩⟩ rfl (rX rfl Z.range (zB (zR vT rfl Z.len wV (zB (pv 1) zI)) zI)) (λ_=>(qK (i:=0) (show(["number","runs"]:List aA).Nodup by decide +kernel) rfl (cP rfl))) (λ_=>wP) (λ_=>(zP (zV hr) (pv 1) (pv 0) (λ_ _=>rfl))))))),?_⟩
 try dsimp only[L2.cxOf]
 exists _,U,b,dx,_,_,U,k.ob,qC,d,.ref r,U,.inl ⟨_,.inr "runs",st.at_,U,rF.symm⟩,_,U,r,kvs,U,hr1;refine⟨_,U,(by have:=few.ru; lia),(by have:=few.ru; lia),λcc D hD=>zBz (lo:=0) (n:=(kvs.length:Int).toNat) (λi σ ys H'=>Same H H'/\H' D=some (.lst ys)/\wC H' ((S.runs.take i).map ptD) ys/\∃ u:Option V,σ=[u,some (.ref r)])
  ⟨zC hD _,zA,yF.mpr rfl,none,rfl⟩ (λi σ ys H' _ hq=>hq.2.1) ?_ ?_⟩
 ·rintro i σ ys H' hi ⟨sH,eD,rp,u,rfl⟩;have hi':i<S.runs.length:=by lia
  have gi:S.runs[i]?=some S.runs[i]:=aj hi';obtain⟨kv',a,g1,g2,g3⟩:=zWh (st.ru.to (.of sH)) gi;refine⟨_,U,_,U,r,.ref a,U,.inl ⟨kv',.inl (i:Int),g1,by rw[mQ]; rfl,g2.symm⟩,eD,zW (by rw[rp.length,ac,cV]; have:=few.ru; lia),sH.putNew hD,zA,?_,_,rfl⟩;rw[bL,gi,aG];have sE:yR (λx=>x=D) H' (upd H' D (.lst (ys++[.ref a]))):=λx o hx e=>.inl (by rw[zH hx]; exact e);have np:∀ b xs,H' b=some (.tup xs)->¬ b=D:=λb xs e z=>by rw[z,eD] at e; cases e
  exact wC.app (rp.sam sE np) (.one ((vO g3).sam sE np))
 ·rintro σ ys H' ⟨sH,eD,rp,u,rfl⟩;rw[show(kvs.length:Int).toNat=S.runs.length by lia,bU] at rp;exact q D ys H' sH hD eD rp
def zH0(_:ae):Sp:=λvs H Q _=>∃(b p:af)(S:BS)(past later:List (Deed×BS)),vs=[.ref b]/\zMx bkC H b p S past later/\zGg S /\
 ∀(c:af)(zs:List V)(H':Hp),Same H H'->H' c=some (.lst zs)->wC H' (zLp (ntE S.notes)) zs->Q (.ref c) H'
theorem zPs(F:Fun K "notes" "Book.notes" zC1 f fd)(Z:Zs mg)(CB:Cb P w mg base)  : yQ P w K mg base CX0 1 f fd ["self"] (zH0 K):=by
 specialize zQu
 ·obtain⟨b,p,S,past,later,rfl,_⟩:=h;rfl
 obtain⟨b,p,S,past,later,rfl,⟨dx,d,l,ps,ls,k⟩,nt,q⟩:=h;obtain⟨m,bk,r,n,st⟩:=k.st;obtain⟨kvs,hb,kv⟩:=st.no;have lk:kvs.length=S.notes.length:=by rw[kv.length]; unfold ntE; rw[ac]
 exists _,(zF (zM (zR (zD0 rfl) rfl Z.sorted vP (zB (zE8 (zP (zV hr) (qJ CB.state (pv 0)) zK (λ_ _=>rfl))) zI))))
 try dsimp only[L2.cxOf]
 refine⟨_,U,b,dx,_,_,U,k.ob,qC,d,.ref n,U,.inl ⟨_,.inr "notes",st.at_,U,qS.symm⟩,n,_,U,hb,λv hv=>?_⟩;have s1:=zC hv (.ext (zBq v n));refine⟨v,n,kvs,U,zA,Rd.same hb s1,(by have:=nt.well.good.few.no; lia),(by rw[kv.keys]; exact nt.oneN),(by rw[kv.keys]; exact nt.ndN),λc as H' s2 hc hl e2 ha=>?_⟩;rw[kv.keys] at e2;exact q c _ H' (s1.trans s2) e2 (zAv (kv.to (.of (s1.trans s2))) hl (λj a e h1 h2=>(ha j a e h1 h2).2) _)
def zB5(_:ae):Sp:=λvs H Q _=>∃(b p:af)(S:BS)(past later:List (Deed×BS)),vs=[.ref b]/\zMx bkC H b p S past later/\Q (.int S.coming) H
theorem zNx(F:Fun K "coming" "Book.coming" zBc f fd)(Z:Zs mg)(CB:Cb P w mg base)  : yQ P w K mg base CX0 1 f fd ["self"] (zB5 K):=by
 specialize zM4
 ·obtain⟨b,p,S,past,later,rfl,_⟩:=h;rfl
 obtain⟨b,p,S,past,later,rfl,⟨dx,d,l,ps,ls,k⟩,q⟩:=h;obtain⟨m,bk,r,n,st⟩:=k.st;exists _,(zF (zM (zP (zV hr) (qJ CB.state (pv 0)) zK (λ_ _=>rfl))))
 try dsimp only[L2.cxOf]
 exact⟨_,U,b,dx,_,_,U,k.ob,qC,d,.int S.coming,U,.inl ⟨_,.inr "coming",st.at_,U,zG2.symm⟩,q⟩
theorem zWq{H:Hp} : ∀(n:Nat)(d:Dt){x y:V},dep n d->Rep H d x->Rep H d y->DR H n x y
 | n,.int i,x,y,_,h1,h2=>by rw[zZ.mp h1,zZ.mp h2]; exact DR.int rfl
 | n,.str z,x,y,_,h1,h2=>by rw[zU.mp h1,zU.mp h2]; exact DR.str rfl
 | 0,.tup _,_,_,h,_,_=>h.elim
 | n+1,.tup l,x,y,h,h1,h2=>by
  obtain⟨a,xs,rfl,ha,ra⟩:=yD.mp h1;obtain⟨b,ys,rfl,hb,rb⟩:=yD.mp h2;have hl:l.length<=900:=h.1;refine .inr ⟨a,b,xs,ys,false,rfl,rfl,ha,hb,by rw[ra.length,rb.length],by rw[ra.length]; lia,λi u v g1 g2=>?_⟩;obtain⟨d,e1,r1⟩:=ra.back g1;obtain⟨d',e2,r2⟩:=rb.back g2;rw[e1] at e2;cases e2;exact zWq n d (h.2 d (aN e1)) r1 r2
theorem zDv{H:Hp}{n:Nat}{l:List Dt}{a b:af}{xs ys:List V}(h:∀ d∈l,dep n d)(hl:l.length<=900)(ha:H a=some (.lst xs))(hb:H b=some (.lst ys))(ra:wC H l xs)(rb:wC H l ys):DR H (n+1) (.ref a) (.ref b):=by
 refine .inr ⟨a,b,xs,ys,true,rfl,rfl,ha,hb,by rw[ra.length,rb.length],by rw[ra.length]; lia,λi u v g1 g2=>?_⟩;obtain⟨d,e1,r1⟩:=ra.back g1;obtain⟨d',e2,r2⟩:=rb.back g2;rw[e1] at e2;cases e2;exact zWq n d (h d (aN e1)) r1 r2
theorem zRn{H:Hp}{n:Nat}{a b:af}{x1 x2 y1 y2:V}(ha:H a=some (.lst [x1,x2]))(hb:H b=some (.lst [y1,y2]))(h1:DR H n x1 y1)(h2:DR H n x2 y2):DR H (n+1) (.ref a) (.ref b):=by
 refine .inr ⟨a,b,[x1,x2],[y1,y2],true,rfl,rfl,ha,hb,rfl,(by show 2<=1000; decide),λi u v g1 g2=>?_⟩
 match i,g1,g2 with
 | 0,g1,g2=>cases g1; cases g2; exact h1
 | 1,g1,g2=>cases g1; cases g2; exact h2
def zUc(as:List af)(kvs:List (Key×V)):List (af×Key×List V):=(as.zip kvs).map λx=>(x.1,x.2.1,[x.2.2])
theorem zOy{as:List af}{kvs:List (Key×V)}(h:as.length=kvs.length):(zUc as kvs).map (·.1)=as:=by
 unfold zUc;rw[bp];exact List.map_fst_zip (ie h)
theorem zIg{as:List af}{kvs:List (Key×V)}(h:as.length=kvs.length):(zUc as kvs).map (·.2.1)=kvs.map (·.1):=by
 unfold zUc;rw[bp];have e:=kH (l₁:=as) (l₂:=kvs) (ie h.symm);rw[<- congrArg (List.map (·.1)) e,bp];rfl
theorem zR8{H:Hp}{as:List af}{kvs:List (Key×V)}(ha:∀ (j:Nat) (a:af) (e:Key×V),as[j]?=some a->kvs[j]?=some e->H a=some (.tup [kV e.1,e.2])):∀ t∈zUc as kvs,H t.1=some (.tup (kV t.2.1::t.2.2)):=λt ht=>by
 unfold zUc at ht;obtain⟨x,hx,rfl⟩:=aC.mp ht;obtain⟨j,hj⟩:=iP.mp hx;rw[List.getElem?_zip_eq_some] at hj;exact ha j _ _ hj.1 hj.2
def zF3(_:ae):Sp:=λvs H Q _=>∃(b p d:af)(S:BS)(past later:List (Deed×BS)),vs=[.ref b,.ref d]/\zMx bkC H b p S past later/\zSz H d S/\zGg S/\∀ H',Sam H H'->Q (.bl true) H'
theorem zNz(F:Fun K "_law_stands" "_law_stands" zA8 f fd)(Z:Zs mg)(CB:Cb P w mg base)(yBz:Has P w K mg base "_law_same" 6 ["_law_told","_law_due_here"] (zG3 K))(h_b_notes:zQ4 P w K mg base zJh 1 ["self"] (zH0 K))(h_b_coming:zQ4 P w K mg base zC8 1 ["self"] (zB5 K))(h_b_runs:zQ4 P w K mg base zN0 1 ["self"] (zMf K))(yBg:Has P w K mg base "_law_marks_of" 1 ["_law_m"] (zCl K))(h_b_banks:zQ4 P w K mg base zJz 1 ["self"] (zIo K))(h_b_marks:zQ4 P w K mg base zJb 1 ["self"] (zHw K)):yQ P w K mg base CX0 7 f fd ["_law_book","_law_m"] (zF3 K):=by
 specialize zNc
 ·obtain⟨b,p,d,S,past,later,rfl,_⟩:=h;rfl
 obtain⟨b,p,d,S,past,later,rfl,bk,lw,nt,q⟩:=h;have no:∀{d l:af}{m:aA},m = "marks" \/ m = "banks" \/ m = "runs" \/ m = "coming" \/ m = "notes" ->(bkF d p l).lookup m=none:=λ{d l m} e=>by rcases e with e | e | e | e | e <;> subst e <;> exact zBi (by decide +kernel) (by decide +kernel) (by decide +kernel)
 have few:=nt.well.good.few
 refine'⟨_,(zD (zY (zBu (zBl (uB yBz (hr.mono (by decide)) rfl (zB (tI (zB (uM CB.m_marks h_b_marks (hr.mono (by decide)) (pv 0)) (zB (uM CB.m_banks h_b_banks (hr.mono (by decide)) (pv 0)) zI))) (zB (tI (zB ?_ (zB (zR zAx rfl Z.sorted vP (zB (xB (zIs rfl) rfl Z.list zAl (zB (zE8 (zP (zV hr) (pv 1) zK (λ_ _=>rfl))) zI)) zI)) zI))) zI))))) (zF (zM zHl)) zN)
   (zD (zY (zBu (zBl (uB yBz (hr.mono (by decide)) rfl (zB (tI (zB (uM CB.m_runs h_b_runs (hr.mono (by decide)) (pv 0)) (zB (uM CB.m_coming h_b_coming (hr.mono (by decide)) (pv 0)) zI))) (zB (tI (zB (zP (zV hr) (pv 1) zK (λ_ _=>rfl)) (zB (zP (zV hr) (pv 1) zK (λ_ _=>rfl)) zI))) zI))))) (zF (zM zHl)) zN)
   (zF (zM (uB yBz (hr.mono (by decide)) rfl (zB (uM CB.m_notes h_b_notes (hr.mono (by decide)) (pv 0)) (zB (zR zAx rfl Z.sorted vP (zB (xB (zIs rfl) rfl Z.list zAl (zB (zE8 (zP (zV hr) (pv 1) zK (λ_ _=>rfl))) zI)) zI)) zI))))))),?_⟩
 nofun
 obtain⟨dx,_,_,_,_,k⟩:=id bk;refine⟨_,U,b,dx,_,U,k.ob,no (.inl rfl),b,p,S,past,later,U,bk,nt,λc1 z1 H1 s1 e1 r1=>?_⟩;have bk1:=bk.to (.of s1);obtain⟨dx1,_,_,_,_,k1⟩:=id bk1;refine⟨_,U,b,dx1,_,U,k1.ob,no (.inr (.inl rfl)),b,p,S,past,later,U,bk1,nt,λc2 z2 H2 s2 e2 r2=>?_⟩;refine⟨sz2,λL1 hL1=>?_⟩;have sL1:=zC hL1 (.lst [.ref c1,.ref c2]);have s12:=s1.trans (s2.trans sL1);have e1':=(s2.trans sL1) _ _ e1;have r1':=r1.to (.of (s2.trans sL1));have e2':=sL1 _ _ e2;have r2':=r2.to (.of sL1);have eL1:upd H2 L1 (.lst [.ref c1,.ref c2]) L1=some (.lst [.ref c1,.ref c2]):=zA;generalize upd H2 L1 (.lst [.ref c1,.ref c2])=H3 at sL1 s12 e1' r1' e2' r2' eL1 ⊢;refine⟨_,U,d,S,U,lw.to (.of s12),nt,λc3 z3 H4' s3 e3 r3=>?_⟩;have lw4:=(lw.to (.of s12)).to s3;obtain⟨m,bb,r,n,lwA⟩:=lw4;obtain⟨kvs,hb,kv⟩:=lwA.ba;have lk:kvs.length<=60:=by
  have:=nt.well.good.few.ba;rw[kv.length];unfold bkE;rw[ac];exact this
 refine⟨_,U,d,.ref bb,U,.inl ⟨_,.inr "banks",lwA.at_,U,qW.symm⟩,bb,kvs,U,hb,λv hv=>?_⟩;have sv:=zC hv (.ext (zBq v bb));refine⟨v,bb,kvs,U,zA,Rd.same hb sv,(by lia),λc4 as H4 s4 hc4 hl e4 ha=>?_⟩;have sv4:=sv.trans s4;have kv4:=kv.to (.of sv4);have at4:∀(j:Nat)(a:af)(e:Key×V),as[j]?=some a->kvs[j]?=some e->H4 a=some (.tup [kV e.1,e.2]):=λj a e h1 h2=>(ha j a e h1 h2).2;exists c4,zUc as kvs,U,SqL.of (by rw[zOy hl]; exact e4),zR8 at4,(by unfold zUc; rw[ac,kU]; lia),(by rw[zIg hl,kv.keys]; exact nt.oneB),(by rw[zIg hl,kv.keys]; exact nt.ndB);rw[zOy hl,zIg hl,kv.keys];intro c5 hc5;have s5:=zC hc5 (.lst ((vV (tR ((bkE S.banks).map (·.1))) as).map V.ref));have s45:=sv4.trans s5;have rr5:wC _ (zLp (bkE S.banks)) _:=(zAv kv4 hl at4 (tR ((bkE S.banks).map (·.1)))).to (.of s5);refine⟨sz2,λL2 hL2=>?_⟩;have sL2:=zC hL2 (.lst [.ref c3,.ref c5]);have sz:=s3.trans (yR.of (s45.trans sL2));refine⟨.ref L1,.ref L2,U,?_,λH5 s5'=>⟨_,U,yB ?_⟩⟩
 ·refine zRn (n:=4) (sz.lst id eL1) zA (zDv (n:=3) zTt (by rw[zL2]; have:=few.ma; lia) (sz.lst id e1') (s45.trans sL2 _ _ (e3)) (r1'.to sz) (r3.to (.of (s45.trans sL2)))) (zDv (n:=3) (zRs nt) (by rw[zL9]; unfold bkE; rw[ac]; have:=few.ba; lia) (sz.lst id e2') (sL2 _ _ zA) (r2'.to sz) (rr5.to (.of sL2)))
 have s05:Sam H H5:=((yR.of s12).trans sz).trans (.of s5');clear sz s5' sL2 s45 rr5 s5 kv4 at4 sv4 e4 ha sv hv hb kv lwA r3 e3 s3 s12 e1' r1' e2' r2' eL1 sL1 hL1 hL2 hc5 r2 e2 s2 bk1 k1 r1 e1 s1 k hc4;have bk5:=bk.to s05;have lw5:=lw.to s05;obtain⟨dx5,_,_,_,_,k5⟩:=id bk5;refine⟨_,U,b,dx5,_,U,k5.ob,no (.inr (.inr (.inl rfl))),b,p,S,past,later,U,bk5,few,λc6 z6 H6 s6 _ e6 r6=>?_⟩;have bk6:=bk5.to (.of s6);obtain⟨dx6,_,_,_,_,k6⟩:=id bk6;exists _,U,b,dx6,_,U,k6.ob,no (.inr (.inr (.inr (.inl rfl)))),b,p,S,past,later,U,bk6;refine⟨sz2,λL3 hL3=>?_⟩;have sL3:=zC hL3 (.lst [.ref c6,.int S.coming]);obtain⟨m6,b6,r6',n6,lwA6⟩:=lw5.to (.of (s6.trans sL3));obtain⟨rs6,hrs6,rrs6⟩:=lwA6.ru;refine⟨_,U,d,.ref r6',U,.inl ⟨_,.inr "runs",lwA6.at_,U,uL.symm⟩,_,U,d,.int S.coming,U,.inl ⟨_,.inr "next",lwA6.at_,U,qQ.symm⟩,sz2,λL4 hL4=>?_⟩;have sL4:=zC hL4 (.lst [.ref r6',.int S.coming]);refine⟨.ref L3,.ref L4,U,?_,λH7 s7=>⟨_,U,yB ?_⟩⟩
 ·refine zRn (n:=4) (sL4 _ _ zA) zA (zDv (n:=3) (λd hd=>?_) (by rw[ac]; have:=few.ru; lia) (sL4 _ _ (sL3 _ _ e6)) (sL4 _ _ hrs6) ((r6.to (.of sL3)).to (.of sL4)) (rrs6.to (.of sL4))) (DR.int rfl);obtain⟨c,_,rfl⟩:=aC.mp hd;exact zGd
 have s07:Sam H H7:=s05.trans (.of (s6.trans (sL3.trans (sL4.trans s7))));have bk7:=bk.to s07;have lw7:=lw.to s07;obtain⟨dx7,_,_,_,_,k7⟩:=id bk7;refine⟨_,U,b,dx7,_,U,k7.ob,no (.inr (.inr (.inr (.inr rfl)))),b,p,S,past,later,U,bk7,nt,λc8 z8 H8 s8 e8 r8=>?_⟩;have lw8:=lw7.to (.of s8);obtain⟨m,bb,r,n,lwA⟩:=lw8;obtain⟨kvs,hb,kv⟩:=lwA.no;have lk:kvs.length<=60:=by
  have:=nt.well.good.few.no;rw[kv.length];unfold ntE;rw[ac];exact this
 refine⟨_,U,d,.ref n,U,.inl ⟨_,.inr "notes",lwA.at_,U,vA.symm⟩,n,kvs,U,hb,λv hv=>?_⟩;have sv:=zC hv (.ext (zBq v n));refine⟨v,n,kvs,U,zA,Rd.same hb sv,(by lia),λc4 as H4 s4 hc4 hl e4 ha=>?_⟩;have sv4:=sv.trans s4;have kv4:=kv.to (.of sv4);have at4:∀(j:Nat)(a:af)(e:Key×V),as[j]?=some a->kvs[j]?=some e->H4 a=some (.tup [kV e.1,e.2]):=λj a e h1 h2=>(ha j a e h1 h2).2;exists c4,zUc as kvs,U,SqL.of (by rw[zOy hl]; exact e4),zR8 at4,(by unfold zUc; rw[ac,kU]; lia),(by rw[zIg hl,kv.keys]; exact nt.oneN),(by rw[zIg hl,kv.keys]; exact nt.ndN);rw[zOy hl,zIg hl,kv.keys];intro c5 hc5;have s5:=zC hc5 (.lst ((vV (tR ((ntE S.notes).map (·.1))) as).map V.ref));have s45:=sv4.trans s5;have rr5:wC _ (zLp (ntE S.notes)) _:=(zAv kv4 hl at4 (tR ((ntE S.notes).map (·.1)))).to (.of s5);exact⟨.ref c8,.ref c5,U,zDv (n:=4) (zRo nt) (by rw[zL9]; unfold ntE; rw[ac]; have:=few.no; lia) (s45 _ _ e8) zA (r8.to (.of s45)) rr5,λH9 s9=>q H9 ((s07.trans (.of (s8.trans s45))).trans (.of s9))⟩
def BkF(H0 H:Hp)(b p:af)(S:BS)(past:List (Deed×BS)):Prop:=∃ l,H0 l=none/\BkL bkC H b p l S past []
theorem BkF.at{H0 H:Hp}{b p:af}{S:BS}{past:List (Deed×BS)}(h:BkF H0 H b p S past):zMx bkC H b p S past []:=let ⟨_,_,k⟩:=h; k.at
theorem BkF.to{H0 H H1:Hp}{b p:af}{S:BS}{past:List (Deed×BS)}(h:BkF H0 H b p S past)(s:Sam H H1):BkF H0 H1 b p S past:=let ⟨l,e,k⟩:=h;⟨l,e,k.to s⟩
theorem BkF.from{H0 H1 H:Hp}{b p:af}{S:BS}{past:List (Deed×BS)}(h:BkF H1 H b p S past)(s:Sam H0 H1):BkF H0 H b p S past:=let ⟨l,e,k⟩:=h;⟨l,s.free id e,k⟩
def zTq(φ:List V->Hp->Deed->Prop):Sp:=λvs H Q E=>∃(b p:af)(xs:List V)(S:BS)(D:Deed)(past later:List (Deed×BS)),vs=.ref b::xs/\zMx bkC H b p S past later/\φ xs H D/\zEg D/\zJ1 S/\past.length<=500 /\
 (zT S D=none->∀(H':Hp),yR (Bp b p) H H'->BkF H H' b p (aft S D) (past++[(D,S)])->Q (zJ2 S D) H')/\∀ c,zT S D=some c->∀ H',Sam H H'->E (.ref (axC c)) none H'
theorem zD1{S:BS}{D:Deed}{Q:VK}{H:Hp}(h:(aft S D).coming=S.coming)(q:Q (zJ2 S D) H):Q .non H:=by
 rw[zJ2,if_pos h.symm] at q;exact q
def xM(_:ae):Sp:=λvs H Q E=>∃(b p:af)(v:V)(S:BS)(D:Deed)(past later:List (Deed×BS)),vs=[.ref b,v]/\zMx bkC H b p S past later/\Rep H D.dt v/\zEg D/\zJ1 S/\past.length<=500 /\
 (zT S D=none->∀(H':Hp),yR (Bp b p) H H'->BkF H H' b p (aft S D) (past++[(D,S)])->Q (if S.coming=(aft S D).coming then .non else .int S.coming) H')/\∀ c,zT S D=some c->∀ H',Sam H H'->E (.ref (axC c)) none H'
theorem zTx(F:Fun K "deed" "Book.deed" zEz f fd)(Z:Zs mg)(CB:Cb P w mg base)(h_b_coming:zQ4 P w K mg base zC8 1 ["self"] (zB5 K))(yBu:qI P w K mg base "after" 5 ["state","row"] (zIm K)):yQ P w K mg base (CX1 P w) 6 f fd ["self","row"] (xM K):=by
 refine F.okX zGv (λvs H Q E h=>?_) (λcdv A outer s H vs Q E hr h=>?_)
 ·obtain⟨b,p,v,S,D,past,later,rfl,_⟩:=h;rfl
 obtain⟨b,p,v,S,D,past,later,rfl,bk,hv,tm,wl,hl,q,bad⟩:=h;obtain⟨dx,d,l,ps,ls,k⟩:=bk;have no:∀{d l:af}{m:aA},m = "coming" ->(bkF d p l).lookup m=none:=λ{d l m} e=>by subst e; exact zBi (by decide +kernel) (by decide +kernel) (by decide +kernel)
 refine'⟨_,(zD (PS.nox (yI 2 zGv.nd (uM CB.m_coming h_b_coming (hr.mono (by decide)) (pv 0))))
   (zD (yI 3 zGv.nd (yG (λ_=>E) yBu zS (hr.mono (by decide)) rfl (zB (qJ CB.state (pv 0)) (zB (pv 1) zI))))
   (zD (PS.nox (yA (zNm (qJ CB.past (pv 0)) (zB (yX (zB (pv 1) (zB (qJ CB.state (pv 0)) zI))) zI))))
   (zD (PS.nox (zGe CB.state (pv 0) (pv 3)))
   (zD (PS.nox (zGe CB.later (pv 0) ?_))
   (zF (PS.nox (zM (tP (yJ zZf (uM CB.m_coming h_b_coming (hr.mono (by decide)) (pv 0)) (pv 2) (yW _)) zOs (pv 2)))))))))),?_⟩
 nofun
 exists _,U,b,dx,_,U,k.ob,no rfl,b,p,S,past,later,U,⟨dx,d,l,ps,ls,k⟩;refine⟨_,U,b,dx,_,_,U,k.ob,qC,_,U,d,v,S,D,U,trivial,k.st,hv,tm,wl,λjn d' H1 s1 hd' st'=>?_,bad⟩;have k1:=k.to s1;have hv1:=hv.to s1;refine⟨_,U,b,dx,_,_,U,k1.ob,zTr,.inl ⟨U,_,SqL.of k1.pa⟩,_,U,_,U,b,dx,_,_,U,k1.ob,qC,sz2,λt ht=>?_⟩;have s2:=zC ht (.tup [v,.ref d]);have k2:=k1.to (.of s2);exists p,ps,.ref t,U,U,k2.pa,zW (by rw[k2.pp.len]; lia);have nbp:b≠p:=yd2 k2.ob k2.pa (λz=>nomatch z);have e3:upd (upd H1 t (.tup [v,.ref d])) p (.lst (ps++[.ref t])) b=some (.ins bkC dx (bkF d p l)):=by rw[zH nbp]; exact k2.ob
 exists _,U,_,U,b,dx,_,U,e3,(by show 3<1000; decide);rw[zLz];refine⟨sz0,λg hg=>?_⟩;have nbg:b≠g:=zJ zA hg;have npg:p≠g:=λz=>by
  rw[<- z,zH nbp.symm,zA] at hg;cases hg
 exists _,U,b,dx,_,U,(by rw[zH nbg,zA]),(by show 3<1000; decide);rw[zMg];have hgt:(upd H1 t (.tup [v,.ref d])) g=none:=by rw[zH nbg.symm,zH npg.symm] at hg; exact hg
 have sE:yR (Bp b p) (upd H1 t (.tup [v,.ref d])) (upd (upd (upd (upd (upd H1 t (.tup [v,.ref d])) p (.lst (ps++[.ref t]))) b (.ins bkC dx (bkF d' p l))) g (.lst [])) b (.ins bkC dx (bkF d' p g))):=λx o hx e=>by
  have n1:x≠b:=λz=>hx (.inl z);have n2:x≠p:=λz=>hx (.inr z);rw[zH n1,zH (zJ e hgt),zH n1,zH n2];exact .inl e
 have nd:=zU3 k2.ob k2.pa;have np:=zVf k2.ob k2.pa;have st2:=st'.to (.of s2);have BK:BkL bkC (upd (upd (upd (upd (upd H1 t (.tup [v,.ref d])) p (.lst (ps++[.ref t]))) b (.ins bkC dx (bkF d' p l))) g (.lst [])) b (.ins bkC dx (bkF d' p g))) b p g (aft S D) (past++[(D,S)]) []:=by
  refine⟨dx,d',ps++[.ref t],[],zA,st2.samE sE nd np,?_,?_,?_,U,npg.symm⟩
  ·rw[zH nbp.symm,zH npg,zH nbp.symm,zA]
  ·rw[zH nbg.symm,zA]
  ·exact uU.app (sE.tup (np _ _ zA) zA) ((hv1.to (.of s2)).sam sE np) (k2.st.samE sE nd np) (k2.pp.samE sE nd np)
 have fin:=q jn _ (((s1.trans (.of s2)).wider (λ_ z=>z.elim)).trans sE) ⟨g,(s1.trans (.of s2)).free id hgt,BK⟩;exists _,U,b,dx,_,U,zA,no rfl,b,p,aft S D,_,[],U,BK.at,_,U,U,_,rfl;refine ifE (λe=>?_) (λe=>?_)
 ·rw[if_pos e.symm] at fin;exact fin
 ·rw[if_neg (λz=>e z.symm)] at fin;exact⟨_,U,fin⟩
def zL3(_:ae):Sp:=λvs H Q _=>∃(b p:af)(v:V)(S:BS)(D:Deed)(past later:List (Deed×BS)),vs=[.ref b,v]/\zMx bkC H b p S past later/\Rep H D.dt v/\zEg D/\zJ1 S/\past.length<=500 /\
 (zT S D=none->∀(t:af)(H':Hp),yR (Bp b p) H H'->BkF H H' b p (aft S D) (past++[(D,S)])->H' t=some (.tup [.str "",zJ2 S D])->Q (.ref t) H') /\
 ∀ c,zT S D=some c->∀(t:af)(H':Hp),Sam H H'->H' t=some (.tup [.str (zHd c),.non])->Q (.ref t) H'
theorem zQ7(F:Fun K "_law_done" "_law_done" zEx f fd)(Z:Zs mg)(CB:Cb P w mg base)(h_b_deed:sB P w K mg base uX 6 ["self","row"] (xM K))(yBn:yh7 P w K mg base "_law_refused" 1 ["_law_e"] (zA3 K)):yQ P w K mg base CX0 7 f fd ["_law_book","_law_deed_here"] (zL3 K):=by
 specialize zMp
 ·obtain⟨b,p,v,S,D,past,later,rfl,_⟩:=h;rfl
 obtain⟨b,p,v,S,D,past,later,rfl,bk,hv,tm,wl,hl,q,bad⟩:=h;obtain⟨dx,d,l,ps,ls,k⟩:=id bk;have no:∀{d l:af}{m:aA},m = "deed" ->(bkF d p l).lookup m=none:=λ{d l m} e=>by subst e; exact zBi (by decide +kernel) (by decide +kernel) (by decide +kernel)
 exists _,(zF (zXl (i:=2) (λ_ EE=>(zF (zM (yX (zB zK (zB (yM EE CB.m_deed h_b_deed zOa (hr.mono (by decide)) (pv 0) (zB (pv 1) zI)) zI)))))) CB.gMarkError zMp.nd rfl rfl (λ_=>(zF (zM (yX (zB (zOv yBn (hr.mono (by decide)) rfl (zB (pv 2) zI)) (zB zOs zI))))))))
 try dsimp only[L2.cxOf]
 refine⟨_,U,b,dx,_,U,k.ob,no rfl,_,U,b,p,v,S,D,past,later,U,bk,hv,tm,wl,hl,λjn H1 s1 bk1=>?_,λc jc H1 s1=>?_⟩
 ·refine⟨sz2,λt ht=>?_⟩;have st:=zC ht (.tup [.str "",zJ2 S D]);exact q jn t _ (s1.trans (.of st)) (bk1.to (.of st)) zA
 ·refine⟨?_,λea he=>?_⟩
  ·cases c
   ·exact CB.t_BadName_MarkError
   ·exact CB.t_Taken_MarkError
   ·exact CB.t_BadPlace_MarkError
   ·exact CB.t_Full_MarkError
   ·exact CB.t_NoMark_MarkError
   ·exact CB.t_Same_MarkError
   ·exact CB.t_Needed_MarkError
   ·exact CB.t_BadBank_MarkError
   ·exact CB.t_NoBank_MarkError
   ·exact CB.t_BadRun_MarkError
   ·exact CB.t_NoRun_MarkError
   ·exact CB.t_NoMoment_MarkError
   ·exact CB.t_BadWay_MarkError
   ·exact CB.t_BadTurn_MarkError
   ·exact CB.t_NoNote_MarkError
  ·have se:=zC he (zUf ea (.ref (axC c)));refine⟨_,U,c,U,zA,λH2 s2=>⟨sz2,λt ht=>?_⟩⟩;have st:=zC ht (.tup [.str (zHd c),.non]);exact bad c jc t _ (s1.trans (.of ((se.trans s2).trans st))) zA
def zY7:List V->Hp->Deed->Prop:=λxs H D=>∃(n:aA)(x y:Int),xs=[.str n,.int x,.int y]/\D=.mark n x y
def zMn(_:ae):Sp:=zTq zY7
theorem zSv(F:Fun K "mark" "Book.mark" zFe f fd)(Z:Zs mg)(CB:Cb P w mg base)(h_b_deed:sB P w K mg base uX 6 ["self","row"] (xM K)):yQ P w K mg base (CX1 P w) 7 f fd ["self","name","x","y"] (zMn K):=by
 refine F.okX zTv (λvs H Q E h=>?_) (λcdv A outer s H vs Q E hr h=>?_)
 ·obtain⟨b,p,xs,S,D,past,later,rfl,bk,⟨n,x,y,rfl,rfl⟩,_⟩:=h;rfl
 obtain⟨b,p,xs,S,D,past,later,rfl,bk,⟨n,x,y,rfl,rfl⟩,tm,wl,hl,q,bad⟩:=h;have no:∀{d l:af}{m:aA},m = "deed" ->(bkF d p l).lookup m=none:=λ{d l m} e=>by subst e; exact zBi (by decide +kernel) (by decide +kernel) (by decide +kernel)
 obtain⟨dx,d,l,ps,ls,kk⟩:=id bk
 refine'⟨_,(zF (yA (yM (λ_=>E) CB.m_deed h_b_deed zS (hr.mono (by decide)) (pv 0) ?_))),?_⟩
 nofun
 refine⟨_,U,b,dx,_,U,kk.ob,no rfl,_,U,_,U,_,U,(by show 4<=sizeLine; decide),λt ht=>?_⟩;have s1:=zC ht (.tup [.str "mark",.str n,.int x,.int y]);refine⟨b,p,.ref t,S,.mark n x y,past,later,U,bk.to (.of s1),zOo zA,tm,wl,hl,λjn H2 s2 bk2=>?_,λc jc H2 s2=>bad c jc _ ((yR.of s1).trans s2)⟩;exact zD1 rfl (q jn H2 ((yR.of s1).trans s2) (bk2.from (.of s1)))
theorem yc2{H:Hp}{w:af}{n:aA}{x y:Int}(hw:H w=some (.tup [.str "move",.str n,.int x,.int y])):Rep H (Deed.move n x y).dt (.ref w) :=
 yD.mpr ⟨w,_,rfl,hw,zL.mpr ⟨_,_,rfl,zU.mpr rfl,zL.mpr ⟨_,_,rfl,zU.mpr rfl,.two (zZ.mpr rfl) (zZ.mpr rfl)⟩⟩⟩
def zYn:List V->Hp->Deed->Prop:=λxs H D=>∃(n:aA)(x y:Int),xs=[.str n,.int x,.int y]/\D=.move n x y
def zKg(_:ae):Sp:=zTq zYn
theorem zUa(F:Fun K "move" "Book.move" zFb f fd)(Z:Zs mg)(CB:Cb P w mg base)(h_b_deed:sB P w K mg base uX 6 ["self","row"] (xM K)):yQ P w K mg base (CX1 P w) 7 f fd ["self","name","x","y"] (zKg K):=by
 refine F.okX zS8 (λvs H Q E h=>?_) (λcdv A outer s H vs Q E hr h=>?_)
 ·obtain⟨b,p,xs,S,D,past,later,rfl,bk,⟨n,x,y,rfl,rfl⟩,_⟩:=h;rfl
 obtain⟨b,p,xs,S,D,past,later,rfl,bk,⟨n,x,y,rfl,rfl⟩,tm,wl,hl,q,bad⟩:=h;have no:∀{d l:af}{m:aA},m = "deed" ->(bkF d p l).lookup m=none:=λ{d l m} e=>by subst e; exact zBi (by decide +kernel) (by decide +kernel) (by decide +kernel)
 obtain⟨dx,d,l,ps,ls,kk⟩:=id bk
 refine'⟨_,(zF (yA (yM (λ_=>E) CB.m_deed h_b_deed zS (hr.mono (by decide)) (pv 0) ?_))),?_⟩
 nofun
 refine⟨_,U,b,dx,_,U,kk.ob,no rfl,_,U,_,U,_,U,(by show 4<=sizeLine; decide),λt ht=>?_⟩;have s1:=zC ht (.tup [.str "move",.str n,.int x,.int y]);refine⟨b,p,.ref t,S,.move n x y,past,later,U,bk.to (.of s1),yc2 zA,tm,wl,hl,λjn H2 s2 bk2=>?_,λc jc H2 s2=>bad c jc _ ((yR.of s1).trans s2)⟩;exact zD1 rfl (q jn H2 ((yR.of s1).trans s2) (bk2.from (.of s1)))
theorem yc1{H:Hp}{w:af}{n:aA}(hw:H w=some (.tup [.str "unmark",.str n])):Rep H (Deed.unmark n).dt (.ref w) :=
 yD.mpr ⟨w,_,rfl,hw,.two (zU.mpr rfl) (zU.mpr rfl)⟩
def zUb:List V->Hp->Deed->Prop:=λxs H D=>∃(n:aA),xs=[.str n]/\D=.unmark n
def zGj(_:ae):Sp:=zTq zUb
theorem zNy(F:Fun K "unmark" "Book.unmark" zA6 f fd)(Z:Zs mg)(CB:Cb P w mg base)(h_b_deed:sB P w K mg base uX 6 ["self","row"] (xM K)):yQ P w K mg base (CX1 P w) 7 f fd ["self","name"] (zGj K):=by
 refine F.okX zNj (λvs H Q E h=>?_) (λcdv A outer s H vs Q E hr h=>?_)
 ·obtain⟨b,p,xs,S,D,past,later,rfl,bk,⟨n,rfl,rfl⟩,_⟩:=h;rfl
 obtain⟨b,p,xs,S,D,past,later,rfl,bk,⟨n,rfl,rfl⟩,tm,wl,hl,q,bad⟩:=h;have no:∀{d l:af}{m:aA},m = "deed" ->(bkF d p l).lookup m=none:=λ{d l m} e=>by subst e; exact zBi (by decide +kernel) (by decide +kernel) (by decide +kernel)
 obtain⟨dx,d,l,ps,ls,kk⟩:=id bk
 refine'⟨_,(zF (yA (yM (λ_=>E) CB.m_deed h_b_deed zS (hr.mono (by decide)) (pv 0) ?_))),?_⟩
 nofun
 refine⟨_,U,b,dx,_,U,kk.ob,no rfl,_,U,sz2,λt ht=>?_⟩;have s1:=zC ht (.tup [.str "unmark",.str n]);refine⟨b,p,.ref t,S,.unmark n,past,later,U,bk.to (.of s1),yc1 zA,tm,wl,hl,λjn H2 s2 bk2=>?_,λc jc H2 s2=>bad c jc _ ((yR.of s1).trans s2)⟩;exact zD1 rfl (q jn H2 ((yR.of s1).trans s2) (bk2.from (.of s1)))
def zY9:List V->Hp->Deed->Prop:=λxs H D=>∃(n:aA)(lc:af)(zs:List V)(cs:List (Int×Int)),xs=[.str n,.ref lc]/\H lc=some (.lst zs)/\wC H (cs.map ptD) zs/\D=.bank n cs
def zKb(_:ae):Sp:=zTq zY9
theorem zRw(F:Fun K "bank" "Book.bank" zE2 f fd)(Z:Zs mg)(CB:Cb P w mg base)(h_b_deed:sB P w K mg base uX 6 ["self","row"] (xM K)):yQ P w K mg base (CX1 P w) 7 f fd ["self","name","corners"] (zKb K):=by
 refine F.okX zSl (λvs H Q E h=>?_) (λcdv A outer s H vs Q E hr h=>?_)
 ·obtain⟨b,p,xs,S,D,past,later,rfl,bk,⟨n,lc,zs,cs,rfl,e1,e2,rfl⟩,_⟩:=h;rfl
 obtain⟨b,p,xs,S,D,past,later,rfl,bk,⟨n,lc,zs,cs,rfl,e1,e2,rfl⟩,tm,wl,hl,q,bad⟩:=h;have no:∀{d l:af}{m:aA},m = "deed" ->(bkF d p l).lookup m=none:=λ{d l m} e=>by subst e; exact zBi (by decide +kernel) (by decide +kernel) (by decide +kernel)
 obtain⟨dx,d,l,ps,ls,kk⟩:=id bk;exists _,(zF (yA (yM (λ_=>E) CB.m_deed h_b_deed zS (hr.mono (by decide)) (pv 0) (zB (yX (zB zK (zB (pv 1) (zB (xB zCu rfl Z.tuple zJt (zB (pv 2) zI)) zI)))) zI))))
 try dsimp only[L2.cxOf]
 refine⟨_,U,b,dx,_,U,kk.ob,no rfl,_,U,_,U,lc,zs,U,.inl ⟨SqL.of e1,λtc htc=>?_⟩⟩;have s0:=zC htc (.tup zs);refine⟨sz3,λt ht=>?_⟩;have s1:=zC ht (.tup [.str "bank",.str n,.ref tc]);have s01:=s0.trans s1;refine⟨b,p,.ref t,S,.bank n cs,past,later,U,bk.to (.of s01),?_,tm,wl,hl,λjn H2 s2 bk2=>?_,λc jc H2 s2=>bad c jc _ ((yR.of s01).trans s2)⟩
 ·exact yD.mpr ⟨t,_,rfl,zA,zL.mpr ⟨_,_,rfl,zU.mpr rfl,.two (zU.mpr rfl) (yD.mpr ⟨tc,_,rfl,s1 _ _ zA,e2.to (.of s01)⟩)⟩⟩
 exact zD1 rfl (q jn H2 ((yR.of s01).trans s2) (bk2.from (.of s01)))
theorem yb1{H:Hp}{w:af}{n:aA}(hw:H w=some (.tup [.str "level",.str n])):Rep H (Deed.level n).dt (.ref w) :=
 yD.mpr ⟨w,_,rfl,hw,.two (zU.mpr rfl) (zU.mpr rfl)⟩
def zU4:List V->Hp->Deed->Prop:=λxs H D=>∃(n:aA),xs=[.str n]/\D=.level n
def zH8(_:ae):Sp:=zTq zU4
theorem zP6(F:Fun K "level" "Book.level" zCk f fd)(Z:Zs mg)(CB:Cb P w mg base)(h_b_deed:sB P w K mg base uX 6 ["self","row"] (xM K)):yQ P w K mg base (CX1 P w) 7 f fd ["self","name"] (zH8 K):=by
 refine F.okX zQk (λvs H Q E h=>?_) (λcdv A outer s H vs Q E hr h=>?_)
 ·obtain⟨b,p,xs,S,D,past,later,rfl,bk,⟨n,rfl,rfl⟩,_⟩:=h;rfl
 obtain⟨b,p,xs,S,D,past,later,rfl,bk,⟨n,rfl,rfl⟩,tm,wl,hl,q,bad⟩:=h;have no:∀{d l:af}{m:aA},m = "deed" ->(bkF d p l).lookup m=none:=λ{d l m} e=>by subst e; exact zBi (by decide +kernel) (by decide +kernel) (by decide +kernel)
 obtain⟨dx,d,l,ps,ls,kk⟩:=id bk
 refine'⟨_,(zF (yA (yM (λ_=>E) CB.m_deed h_b_deed zS (hr.mono (by decide)) (pv 0) ?_))),?_⟩
 nofun
 refine⟨_,U,b,dx,_,U,kk.ob,no rfl,_,U,sz2,λt ht=>?_⟩;have s1:=zC ht (.tup [.str "level",.str n]);refine⟨b,p,.ref t,S,.level n,past,later,U,bk.to (.of s1),yb1 zA,tm,wl,hl,λjn H2 s2 bk2=>?_,λc jc H2 s2=>bad c jc _ ((yR.of s1).trans s2)⟩;exact zD1 rfl (q jn H2 ((yR.of s1).trans s2) (bk2.from (.of s1)))
def zYi:List V->Hp->Deed->Prop:=λxs H D=>∃(x y:Int),xs=[.int x,.int y]/\D=.sail x y
def zK9(_:ae):Sp:=zTq zYi
theorem zT6(F:Fun K "sail" "Book.sail" zFa f fd)(Z:Zs mg)(CB:Cb P w mg base)(h_b_deed:sB P w K mg base uX 6 ["self","row"] (xM K)):yQ P w K mg base (CX1 P w) 7 f fd ["self","x","y"] (zK9 K):=by
 refine F.okX zTh (λvs H Q E h=>?_) (λcdv A outer s H vs Q E hr h=>?_)
 ·obtain⟨b,p,xs,S,D,past,later,rfl,bk,⟨x,y,rfl,rfl⟩,_⟩:=h;rfl
 obtain⟨b,p,xs,S,D,past,later,rfl,bk,⟨x,y,rfl,rfl⟩,tm,wl,hl,q,bad⟩:=h;have no:∀{d l:af}{m:aA},m = "deed" ->(bkF d p l).lookup m=none:=λ{d l m} e=>by subst e; exact zBi (by decide +kernel) (by decide +kernel) (by decide +kernel)
 obtain⟨dx,d,l,ps,ls,kk⟩:=id bk
 refine'⟨_,(zF (yA (yM (λ_=>E) CB.m_deed h_b_deed zS (hr.mono (by decide)) (pv 0) ?_))),?_⟩
 nofun
 refine⟨_,U,b,dx,_,U,kk.ob,no rfl,_,U,_,U,sz3,λt ht=>?_⟩;have s1:=zC ht (.tup [.str "sail",.int x,.int y]);refine⟨b,p,.ref t,S,.sail x y,past,later,U,bk.to (.of s1),zPm zA,tm,wl,hl,λjn H2 s2 bk2=>?_,λc jc H2 s2=>bad c jc _ ((yR.of s1).trans s2)⟩;exact zD1 rfl (q jn H2 ((yR.of s1).trans s2) (bk2.from (.of s1)))
theorem yh2{H:Hp}{w:af}{k x y:Int}(hw:H w=some (.tup [.str "right",.int k,.int x,.int y])):Rep H (Deed.right k x y).dt (.ref w) :=
 yD.mpr ⟨w,_,rfl,hw,zL.mpr ⟨_,_,rfl,zU.mpr rfl,zL.mpr ⟨_,_,rfl,zZ.mpr rfl,.two (zZ.mpr rfl) (zZ.mpr rfl)⟩⟩⟩
def zU9:List V->Hp->Deed->Prop:=λxs H D=>∃(k x y:Int),xs=[.int k,.int x,.int y]/\D=.right k x y
def zH2(_:ae):Sp:=zTq zU9
theorem zQy(F:Fun K "right" "Book.right" zCp f fd)(Z:Zs mg)(CB:Cb P w mg base)(h_b_deed:sB P w K mg base uX 6 ["self","row"] (xM K)):yQ P w K mg base (CX1 P w) 7 f fd ["self","number","x","y"] (zH2 K):=by
 refine F.okX zP9 (λvs H Q E h=>?_) (λcdv A outer s H vs Q E hr h=>?_)
 ·obtain⟨b,p,xs,S,D,past,later,rfl,bk,⟨k,x,y,rfl,rfl⟩,_⟩:=h;rfl
 obtain⟨b,p,xs,S,D,past,later,rfl,bk,⟨k,x,y,rfl,rfl⟩,tm,wl,hl,q,bad⟩:=h;have no:∀{d l:af}{m:aA},m = "deed" ->(bkF d p l).lookup m=none:=λ{d l m} e=>by subst e; exact zBi (by decide +kernel) (by decide +kernel) (by decide +kernel)
 obtain⟨dx,d,l,ps,ls,kk⟩:=id bk
 refine'⟨_,(zF (yA (yM (λ_=>E) CB.m_deed h_b_deed zS (hr.mono (by decide)) (pv 0) ?_))),?_⟩
 nofun
 refine⟨_,U,b,dx,_,U,kk.ob,no rfl,_,U,_,U,_,U,(by show 4<=sizeLine; decide),λt ht=>?_⟩;have s1:=zC ht (.tup [.str "right",.int k,.int x,.int y]);refine⟨b,p,.ref t,S,.right k x y,past,later,U,bk.to (.of s1),yh2 zA,tm,wl,hl,λjn H2 s2 bk2=>?_,λc jc H2 s2=>bad c jc _ ((yR.of s1).trans s2)⟩;exact zD1 rfl (q jn H2 ((yR.of s1).trans s2) (bk2.from (.of s1)))
def zPu:List V->Hp->Deed->Prop:=λxs H D=>∃(m:Int)(n:aA)(o u:af)(a b c d:Int),xs=[.int m,.str n,.ref o,.ref u]/\H o=some (.tup [.int a,.int b])/\H u=some (.tup [.int c,.int d])/\D=.bearing m n a b c d
def zEd(_:ae):Sp:=zTq zPu
theorem zMj(F:Fun K "bearing" "Book.bearing" qD f fd)(Z:Zs mg)(CB:Cb P w mg base)(h_b_deed:sB P w K mg base uX 6 ["self","row"] (xM K)):yQ P w K mg base (CX1 P w) 7 f fd ["self","moment","mark","one","other"] (zEd K):=by
 refine F.okX zLg (λvs H Q E h=>?_) (λcdv A outer s H vs Q E hr h=>?_)
 ·obtain⟨b,p,xs,S,D,past,later,rfl,bk,⟨m,n,o,u,a,b',c,d',rfl,e1,e2,rfl⟩,_⟩:=h;rfl
 obtain⟨b,p,xs,S,D,past,later,rfl,bk,⟨m,n,o,u,a,b',c,d',rfl,e1,e2,rfl⟩,tm,wl,hl,q,bad⟩:=h;have no:∀{d l:af}{m:aA},m = "deed" ->(bkF d p l).lookup m=none:=λ{d l m} e=>by subst e; exact zBi (by decide +kernel) (by decide +kernel) (by decide +kernel)
 obtain⟨dx,dd,l,ps,ls,kk⟩:=id bk
 refine'⟨_,(zF (zM (yM (λ_=>E) CB.m_deed h_b_deed zS (hr.mono (by decide)) (pv 0) ?_))),?_⟩
 nofun
 refine⟨_,U,b,dx,_,U,kk.ob,no rfl,_,U,_,U,_,U,_,U,(by show 5<=sizeLine; decide),λt ht=>?_⟩;have s1:=zC ht (.tup [.str "bearing",.int m,.str n,.ref o,.ref u]);refine⟨b,p,.ref t,S,.bearing m n a b' c d',past,later,U,bk.to (.of s1),zG0 zA (s1 _ _ e1) (s1 _ _ e2),tm,wl,hl,λjn H2 s2 bk2=>?_,λc jc H2 s2=>bad c jc _ ((yR.of s1).trans s2)⟩;exact q jn H2 ((yR.of s1).trans s2) (bk2.from (.of s1))
def zJn:List V->Hp->Deed->Prop:=λxs H D=>∃(m:Int)(l r:aA),xs=[.int m,.str l,.str r]/\D=.range m l r
def zA1(_:ae):Sp:=zTq zJn
theorem zF1(F:Fun K "range_note" "Book.range_note" vG f fd)(Z:Zs mg)(CB:Cb P w mg base)(h_b_deed:sB P w K mg base uX 6 ["self","row"] (xM K)):yQ P w K mg base (CX1 P w) 7 f fd ["self","moment","left","right"] (zA1 K):=by
 refine F.okX zFi (λvs H Q E h=>?_) (λcdv A outer s H vs Q E hr h=>?_)
 ·obtain⟨b,p,xs,S,D,past,later,rfl,bk,⟨m,l,r,rfl,rfl⟩,_⟩:=h;rfl
 obtain⟨b,p,xs,S,D,past,later,rfl,bk,⟨m,l,r,rfl,rfl⟩,tm,wl,hl,q,bad⟩:=h;have no:∀{d l:af}{m:aA},m = "deed" ->(bkF d p l).lookup m=none:=λ{d l m} e=>by subst e; exact zBi (by decide +kernel) (by decide +kernel) (by decide +kernel)
 obtain⟨dx,d,l0,ps,ls,kk⟩:=id bk
 refine'⟨_,(zF (zM (yM (λ_=>E) CB.m_deed h_b_deed zS (hr.mono (by decide)) (pv 0) ?_))),?_⟩
 nofun
 refine⟨_,U,b,dx,_,U,kk.ob,no rfl,_,U,_,U,_,U,(by show 4<=sizeLine; decide),λt ht=>?_⟩;have s1:=zC ht (.tup [.str "range",.int m,.str l,.str r]);refine⟨b,p,.ref t,S,.range m l r,past,later,U,bk.to (.of s1),zGq zA,tm,wl,hl,λjn H2 s2 bk2=>?_,λc jc H2 s2=>bad c jc _ ((yR.of s1).trans s2)⟩;exact q jn H2 ((yR.of s1).trans s2) (bk2.from (.of s1))
def zT4:List V->Hp->Deed->Prop:=λxs H D=>∃(k:Int),xs=[.int k]/\D=.strike k
def zGc(_:ae):Sp:=zTq zT4
theorem zMy(F:Fun K "strike" "Book.strike" zA7 f fd)(Z:Zs mg)(CB:Cb P w mg base)(h_b_deed:sB P w K mg base uX 6 ["self","row"] (xM K)):yQ P w K mg base (CX1 P w) 7 f fd ["self","number"] (zGc K):=by
 refine F.okX zNe (λvs H Q E h=>?_) (λcdv A outer s H vs Q E hr h=>?_)
 ·obtain⟨b,p,xs,S,D,past,later,rfl,bk,⟨k,rfl,rfl⟩,_⟩:=h;rfl
 obtain⟨b,p,xs,S,D,past,later,rfl,bk,⟨k,rfl,rfl⟩,tm,wl,hl,q,bad⟩:=h;have no:∀{d l:af}{m:aA},m = "deed" ->(bkF d p l).lookup m=none:=λ{d l m} e=>by subst e; exact zBi (by decide +kernel) (by decide +kernel) (by decide +kernel)
 obtain⟨dx,d,l,ps,ls,kk⟩:=id bk
 refine'⟨_,(zF (yA (yM (λ_=>E) CB.m_deed h_b_deed zS (hr.mono (by decide)) (pv 0) ?_))),?_⟩
 nofun
 refine⟨_,U,b,dx,_,U,kk.ob,no rfl,_,U,sz2,λt ht=>?_⟩;have s1:=zC ht (.tup [.str "strike",.int k]);refine⟨b,p,.ref t,S,.strike k,past,later,U,bk.to (.of s1),zIa zA,tm,wl,hl,λjn H2 s2 bk2=>?_,λc jc H2 s2=>bad c jc _ ((yR.of s1).trans s2)⟩;exact zD1 rfl (q jn H2 ((yR.of s1).trans s2) (bk2.from (.of s1)))
def yc9:List V->Hp->Deed->Prop:=λxs H D=>∃ v:V,xs=[v]/\Rep H D.dt v
def zGh(_:ae):Sp:=zTq yc9
theorem zM5(F:Fun K "_law_called" "_law_called" zBa f fd)(Z:Zs mg)(CB:Cb P w mg base)(h_b_strike:sB P w K mg base zFn 7 ["self","number"] (zGc K))(h_b_range_note:sB P w K mg base qM 7 ["self","moment","left","right"] (zA1 K))(h_b_bearing:sB P w K mg base zDs 7 ["self","moment","mark","one","other"] (zEd K))(h_b_right:sB P w K mg base zJm 7 ["self","number","x","y"] (zH2 K))(h_b_sail:sB P w K mg base zNv 7 ["self","x","y"] (zK9 K))(h_b_level:sB P w K mg base zIv 7 ["self","name"] (zH8 K))(h_b_bank:sB P w K mg base zNb 7 ["self","name","corners"] (zKb K))(h_b_unmark:sB P w K mg base zF6 7 ["self","name"] (zGj K))(h_b_move:sB P w K mg base zM8 7 ["self","name","x","y"] (zKg K))(h_b_mark:sB P w K mg base zNd 7 ["self","name","x","y"] (zMn K)):yQ P w K mg base (CX1 P w) 8 f fd ["_law_book","_law_deed_here"] (zGh K):=by
 refine F.okX zNu (λvs H Q E h=>?_) (λcdv A outer s H vs Q E hr h=>?_)
 ·obtain⟨b,p,xs,S,D,past,later,rfl,bk,⟨v,rfl,hv⟩,_⟩:=h;rfl
 obtain⟨B,P0,xs,S,D,past,later,rfl,bk,⟨v,rfl,hv⟩,tm,wl,hl,q,bad⟩:=h;have no:∀{d l:af}{m:aA},m ≠ "state" -> m ≠ "past" -> m ≠ "later" ->(bkF d P0 l).lookup m=none:=λh1 h2 h3=>zBi h1 h2 h3;obtain⟨dx,d0,l0,ps0,ls,kk⟩:=id bk
 refine'⟨_,(zD (zY ?_ (zF (zM (yM (λ_=>E) CB.m_mark h_b_mark zS (hr.mono (by decide)) (pv 0) ?_))) zN)
   (zD (zY ?_ (zF (zM (yM (λ_=>E) CB.m_move h_b_move zS (hr.mono (by decide)) (pv 0) ?_))) zN)
   (zD (zY ?_ (zF (zM (yM (λ_=>E) CB.m_unmark h_b_unmark zS (hr.mono (by decide)) (pv 0) ?_))) zN)
   (zD (zY ?_ (zF (zM (yM (λ_=>E) CB.m_bank h_b_bank zS (hr.mono (by decide)) (pv 0) (zB ?_ (zB (xB zAp rfl Z.list zAl ?_) zI))))) zN)
   (zD (zY ?_ (zF (zM (yM (λ_=>E) CB.m_level h_b_level zS (hr.mono (by decide)) (pv 0) ?_))) zN)
   (zD (zY ?_ (zF (zM (yM (λ_=>E) CB.m_sail h_b_sail zS (hr.mono (by decide)) (pv 0) ?_))) zN)
   (zD (zY ?_ (zF (zM (yM (λ_=>E) CB.m_right h_b_right zS (hr.mono (by decide)) (pv 0) ?_))) zN)
   (zD (zY ?_ (zF (zM (yM (λ_=>E) CB.m_bearing h_b_bearing zS (hr.mono (by decide)) (pv 0) ?_))) zN)
   (zD (zY ?_ (zF (zM (yM (λ_=>E) CB.m_range_note h_b_range_note zS (hr.mono (by decide)) (pv 0) ?_))) zN)
   (zF (zM (yM (λ_=>E) CB.m_strike h_b_strike zS (hr.mono (by decide)) (pv 0) ?_)))))))))))),?_⟩
 nofun
 match D,hv,tm,q,bad with
 | .mark n x y,hv,tm,q,bad =>
  obtain⟨t,rfl,ht⟩:=zB6 hv;have tq:Sq K H t _:=.inr (SqT.of ht);refine⟨_,U,t,_,0,.str "mark",U,U,tq,U,U,_,U,yY ?_⟩;exact⟨_,U,B,dx,_,U,kk.ob,no (by decide +kernel) (by decide +kernel) (by decide +kernel),_,U,t,_,1,.str n,U,U,tq,U,_,U,t,_,2,.int x,U,U,tq,U,_,U,t,_,3,.int y,U,U,tq,U,B,P0,_,S,_,past,later,U,bk,⟨n,x,y,U,U⟩,tm,wl,hl,q,bad⟩
 | .move n x y,hv,tm,q,bad =>
  obtain⟨t,rfl,ht⟩:=zCa hv;have tq:Sq K H t _:=.inr (SqT.of ht);refine⟨_,U,t,_,0,.str "move",U,U,tq,U,U,_,U,yB ?_⟩;refine⟨_,U,t,_,0,.str "move",U,U,tq,U,U,_,U,yY ?_⟩;exact⟨_,U,B,dx,_,U,kk.ob,no (by decide +kernel) (by decide +kernel) (by decide +kernel),_,U,t,_,1,.str n,U,U,tq,U,_,U,t,_,2,.int x,U,U,tq,U,_,U,t,_,3,.int y,U,U,tq,U,B,P0,_,S,_,past,later,U,bk,⟨n,x,y,U,U⟩,tm,wl,hl,q,bad⟩
 | .unmark n,hv,tm,q,bad =>
  obtain⟨t,rfl,ht⟩:=sQ hv;have tq:Sq K H t _:=.inr (SqT.of ht);refine⟨_,U,t,_,0,.str "unmark",U,U,tq,U,U,_,U,yB ?_⟩;refine⟨_,U,t,_,0,.str "unmark",U,U,tq,U,U,_,U,yB ?_⟩;refine⟨_,U,t,_,0,.str "unmark",U,U,tq,U,U,_,U,yY ?_⟩;exact⟨_,U,B,dx,_,U,kk.ob,no (by decide +kernel) (by decide +kernel) (by decide +kernel),_,U,t,_,1,.str n,U,U,tq,U,B,P0,_,S,_,past,later,U,bk,⟨n,U,U⟩,tm,wl,hl,q,bad⟩
 | .bank n cs,hv,tm,q,bad =>
  obtain⟨t,c,ps,rfl,ht,hc,cn,rc⟩:=zAw hv;have tq:Sq K H t _:=.inr (SqT.of ht);refine⟨_,U,t,_,0,.str "bank",U,U,tq,U,U,_,U,yB ?_⟩;refine⟨_,U,t,_,0,.str "bank",U,U,tq,U,U,_,U,yB ?_⟩;refine⟨_,U,t,_,0,.str "bank",U,U,tq,U,U,_,U,yB ?_⟩;refine⟨_,U,t,_,0,.str "bank",U,U,tq,U,U,_,U,yY ?_⟩;obtain⟨c',xs,ec,hc',rx⟩:=yD.mp rc;cases ec;refine⟨_,U,B,dx,_,U,kk.ob,no (by decide +kernel) (by decide +kernel) (by decide +kernel),_,U,t,_,1,.str n,U,U,tq,U,_,U,t,_,2,.ref c,U,U,tq,U,c,xs,U,.inr (SqT.of hc'),λlc hlc=>?_⟩;have s1:=zC hlc (.lst xs);exact⟨B,P0,_,S,_,past,later,U,bk.to (.of s1),⟨n,lc,xs,cs,U,zA,rx.to (.of s1),U⟩,tm,wl,hl,λjn H2 s2 bk2=>q jn H2 ((yR.of s1).trans s2) (bk2.from (.of s1)),λe je H2 s2=>bad e je H2 ((yR.of s1).trans s2)⟩
 | .level n,hv,tm,q,bad =>
  obtain⟨t,rfl,ht⟩:=qA hv;have tq:Sq K H t _:=.inr (SqT.of ht);refine⟨_,U,t,_,0,.str "level",U,U,tq,U,U,_,U,yB ?_⟩;refine⟨_,U,t,_,0,.str "level",U,U,tq,U,U,_,U,yB ?_⟩;refine⟨_,U,t,_,0,.str "level",U,U,tq,U,U,_,U,yB ?_⟩;refine⟨_,U,t,_,0,.str "level",U,U,tq,U,U,_,U,yB ?_⟩;refine⟨_,U,t,_,0,.str "level",U,U,tq,U,U,_,U,yY ?_⟩;exact⟨_,U,B,dx,_,U,kk.ob,no (by decide +kernel) (by decide +kernel) (by decide +kernel),_,U,t,_,1,.str n,U,U,tq,U,B,P0,_,S,_,past,later,U,bk,⟨n,U,U⟩,tm,wl,hl,q,bad⟩
 | .sail x y,hv,tm,q,bad =>
  obtain⟨t,rfl,ht⟩:=zB0 hv;have tq:Sq K H t _:=.inr (SqT.of ht);refine⟨_,U,t,_,0,.str "sail",U,U,tq,U,U,_,U,yB ?_⟩;refine⟨_,U,t,_,0,.str "sail",U,U,tq,U,U,_,U,yB ?_⟩;refine⟨_,U,t,_,0,.str "sail",U,U,tq,U,U,_,U,yB ?_⟩;refine⟨_,U,t,_,0,.str "sail",U,U,tq,U,U,_,U,yB ?_⟩;refine⟨_,U,t,_,0,.str "sail",U,U,tq,U,U,_,U,yB ?_⟩;refine⟨_,U,t,_,0,.str "sail",U,U,tq,U,U,_,U,yY ?_⟩;exact⟨_,U,B,dx,_,U,kk.ob,no (by decide +kernel) (by decide +kernel) (by decide +kernel),_,U,t,_,1,.int x,U,U,tq,U,_,U,t,_,2,.int y,U,U,tq,U,B,P0,_,S,_,past,later,U,bk,⟨x,y,U,U⟩,tm,wl,hl,q,bad⟩
 | .right k x y,hv,tm,q,bad =>
  obtain⟨t,rfl,ht⟩:=qH hv;have tq:Sq K H t _:=.inr (SqT.of ht);refine⟨_,U,t,_,0,.str "right",U,U,tq,U,U,_,U,yB ?_⟩;refine⟨_,U,t,_,0,.str "right",U,U,tq,U,U,_,U,yB ?_⟩;refine⟨_,U,t,_,0,.str "right",U,U,tq,U,U,_,U,yB ?_⟩;refine⟨_,U,t,_,0,.str "right",U,U,tq,U,U,_,U,yB ?_⟩;refine⟨_,U,t,_,0,.str "right",U,U,tq,U,U,_,U,yB ?_⟩;refine⟨_,U,t,_,0,.str "right",U,U,tq,U,U,_,U,yB ?_⟩;refine⟨_,U,t,_,0,.str "right",U,U,tq,U,U,_,U,yY ?_⟩;exact⟨_,U,B,dx,_,U,kk.ob,no (by decide +kernel) (by decide +kernel) (by decide +kernel),_,U,t,_,1,.int k,U,U,tq,U,_,U,t,_,2,.int x,U,U,tq,U,_,U,t,_,3,.int y,U,U,tq,U,B,P0,_,S,_,past,later,U,bk,⟨k,x,y,U,U⟩,tm,wl,hl,q,bad⟩
 | .bearing m n a b c d,hv,tm,q,bad =>
  obtain⟨t,c1,c2,rfl,ht,hc1,hc2⟩:=xG hv;have tq:Sq K H t _:=.inr (SqT.of ht);refine⟨_,U,t,_,0,.str "bearing",U,U,tq,U,U,_,U,yB ?_⟩;refine⟨_,U,t,_,0,.str "bearing",U,U,tq,U,U,_,U,yB ?_⟩;refine⟨_,U,t,_,0,.str "bearing",U,U,tq,U,U,_,U,yB ?_⟩;refine⟨_,U,t,_,0,.str "bearing",U,U,tq,U,U,_,U,yB ?_⟩;refine⟨_,U,t,_,0,.str "bearing",U,U,tq,U,U,_,U,yB ?_⟩;refine⟨_,U,t,_,0,.str "bearing",U,U,tq,U,U,_,U,yB ?_⟩;refine⟨_,U,t,_,0,.str "bearing",U,U,tq,U,U,_,U,yB ?_⟩;refine⟨_,U,t,_,0,.str "bearing",U,U,tq,U,U,_,U,yY ?_⟩;exact⟨_,U,B,dx,_,U,kk.ob,no (by decide +kernel) (by decide +kernel) (by decide +kernel),_,U,t,_,1,.int m,U,U,tq,U,_,U,t,_,2,.str n,U,U,tq,U,_,U,t,_,3,.ref c1,U,U,tq,U,_,U,t,_,4,.ref c2,U,U,tq,U,B,P0,_,S,_,past,later,U,bk,⟨m,n,c1,c2,_,_,_,_,U,hc1,hc2,U⟩,tm,wl,hl,q,bad⟩
 | .range m l r,hv,tm,q,bad =>
  obtain⟨t,rfl,ht⟩:=wZ hv;have tq:Sq K H t _:=.inr (SqT.of ht);refine⟨_,U,t,_,0,.str "range",U,U,tq,U,U,_,U,yB ?_⟩;refine⟨_,U,t,_,0,.str "range",U,U,tq,U,U,_,U,yB ?_⟩;refine⟨_,U,t,_,0,.str "range",U,U,tq,U,U,_,U,yB ?_⟩;refine⟨_,U,t,_,0,.str "range",U,U,tq,U,U,_,U,yB ?_⟩;refine⟨_,U,t,_,0,.str "range",U,U,tq,U,U,_,U,yB ?_⟩;refine⟨_,U,t,_,0,.str "range",U,U,tq,U,U,_,U,yB ?_⟩;refine⟨_,U,t,_,0,.str "range",U,U,tq,U,U,_,U,yB ?_⟩;refine⟨_,U,t,_,0,.str "range",U,U,tq,U,U,_,U,yB ?_⟩;refine⟨_,U,t,_,0,.str "range",U,U,tq,U,U,_,U,yY ?_⟩;exact⟨_,U,B,dx,_,U,kk.ob,no (by decide +kernel) (by decide +kernel) (by decide +kernel),_,U,t,_,1,.int m,U,U,tq,U,_,U,t,_,2,.str l,U,U,tq,U,_,U,t,_,3,.str r,U,U,tq,U,B,P0,_,S,_,past,later,U,bk,⟨m,l,r,U,U⟩,tm,wl,hl,q,bad⟩
 | .strike k,hv,tm,q,bad =>
  obtain⟨t,rfl,ht⟩:=sJ hv;have tq:Sq K H t _:=.inr (SqT.of ht);refine⟨_,U,t,_,0,.str "strike",U,U,tq,U,U,_,U,yB ?_⟩;refine⟨_,U,t,_,0,.str "strike",U,U,tq,U,U,_,U,yB ?_⟩;refine⟨_,U,t,_,0,.str "strike",U,U,tq,U,U,_,U,yB ?_⟩;refine⟨_,U,t,_,0,.str "strike",U,U,tq,U,U,_,U,yB ?_⟩;refine⟨_,U,t,_,0,.str "strike",U,U,tq,U,U,_,U,yB ?_⟩;refine⟨_,U,t,_,0,.str "strike",U,U,tq,U,U,_,U,yB ?_⟩;refine⟨_,U,t,_,0,.str "strike",U,U,tq,U,U,_,U,yB ?_⟩;refine⟨_,U,t,_,0,.str "strike",U,U,tq,U,U,_,U,yB ?_⟩;refine⟨_,U,t,_,0,.str "strike",U,U,tq,U,U,_,U,yB ?_⟩;exact⟨_,U,B,dx,_,U,kk.ob,no (by decide +kernel) (by decide +kernel) (by decide +kernel),_,U,t,_,1,.int k,U,U,tq,U,B,P0,_,S,_,past,later,U,bk,⟨k,U,U⟩,tm,wl,hl,q,bad⟩
def zBr(_:ae):Sp:=λvs H Q _=>∃(b p:af)(v:V)(S:BS)(D:Deed)(past later:List (Deed×BS)),vs=[.ref b,v]/\zMx bkC H b p S past later/\Rep H D.dt v/\zEg D/\zJ1 S/\past.length<=500 /\
 (zT S D=none->∀(t:af)(H':Hp),yR (Bp b p) H H'->BkF H H' b p (aft S D) (past++[(D,S)])->H' t=some (.tup [.str "",zJ2 S D])->Q (.ref t) H') /\
 ∀ c,zT S D=some c->∀(t:af)(H':Hp),Sam H H'->H' t=some (.tup [.str (zHd c),.non])->Q (.ref t) H'
theorem zHm(F:Fun K "_law_by_method" "_law_by_method" tJ f fd)(Z:Zs mg)(CB:Cb P w mg base)(yBr:qI P w K mg base "_law_called" 8 ["_law_book","_law_deed_here"] (zGh K))(yBn:yh7 P w K mg base "_law_refused" 1 ["_law_e"] (zA3 K)):yQ P w K mg base CX0 9 f fd ["_law_book","_law_deed_here"] (zBr K):=by
 specialize zBk
 ·obtain⟨b,p,v,S,D,past,later,rfl,_⟩:=h;rfl
 obtain⟨b,p,v,S,D,past,later,rfl,bk,hv,tm,wl,hl,q,bad⟩:=h;obtain⟨dx,d,l,ps,ls,k⟩:=id bk;have no:∀{d l:af}{m:aA},m = "deed" ->(bkF d p l).lookup m=none:=λ{d l m} e=>by subst e; exact zBi (by decide +kernel) (by decide +kernel) (by decide +kernel)
 exists _,(zF (zXl (i:=2) (λ_ EE=>(zF (zM (yX (zB zK (zB (yG EE yBr zOa (hr.mono (by decide)) rfl (zB (pv 0) (zB (pv 1) zI))) zI)))))) CB.gMarkError zBk.nd rfl rfl (λ_=>(zF (zM (yX (zB (zOv yBn (hr.mono (by decide)) rfl (zB (pv 2) zI)) (zB zOs zI))))))))
 try dsimp only[L2.cxOf]
 refine⟨_,U,_,U,b,p,[v],S,D,past,later,U,bk,⟨v,U,hv⟩,tm,wl,hl,λjn H1 s1 bk1=>?_,λc jc H1 s1=>?_⟩
 ·refine⟨sz2,λt ht=>?_⟩;have st:=zC ht (.tup [.str "",zJ2 S D]);exact q jn t _ (s1.trans (.of st)) (bk1.to (.of st)) zA
 ·refine⟨?_,λea he=>?_⟩
  ·cases c
   ·exact CB.t_BadName_MarkError
   ·exact CB.t_Taken_MarkError
   ·exact CB.t_BadPlace_MarkError
   ·exact CB.t_Full_MarkError
   ·exact CB.t_NoMark_MarkError
   ·exact CB.t_Same_MarkError
   ·exact CB.t_Needed_MarkError
   ·exact CB.t_BadBank_MarkError
   ·exact CB.t_NoBank_MarkError
   ·exact CB.t_BadRun_MarkError
   ·exact CB.t_NoRun_MarkError
   ·exact CB.t_NoMoment_MarkError
   ·exact CB.t_BadWay_MarkError
   ·exact CB.t_BadTurn_MarkError
   ·exact CB.t_NoNote_MarkError
  ·have se:=zC he (zUf ea (.ref (axC c)));refine⟨_,U,c,U,zA,λH2 s2=>⟨sz2,λt ht=>?_⟩⟩;have st:=zC ht (.tup [.str (zHd c),.non]);exact bad c jc t _ (s1.trans (.of ((se.trans s2).trans st))) zA
theorem zIt{H:Hp}{n:Nat}{a b:af}{x:aA}{y:V}(hy:(∃ i,y=.int i)\/y=.non)(ha:H a=some (.tup [.str x,y]))(hb:H b=some (.tup [.str x,y])):DR H (n+1) (.ref a) (.ref b):=by
 refine .inr ⟨a,b,[.str x,y],[.str x,y],false,rfl,rfl,ha,hb,rfl,(by show 2<=1000; decide),λi u v g1 g2=>?_⟩
 match i,g1,g2 with
 | 0,g1,g2=>cases g1; cases g2; exact DR.str rfl
 | 1,g1,g2 =>
  cases g1; cases g2;rcases hy with ⟨i,rfl⟩ | rfl
  ·exact DR.int rfl
  ·cases n
   ·exact⟨U,.inr (.inr (.inr rfl))⟩
   ·exact .inl ⟨rfl,.inr (.inr (.inr rfl))⟩
theorem zL5{S:BS}{D:Deed} : (∃ i,zJ2 S D=.int i)\/zJ2 S D=.non:=by
 unfold zJ2;split
 ·exact .inr rfl
 ·exact .inl ⟨_,rfl⟩
theorem zH3{S:BS}{D:Deed} : (aft S D).coming=S.coming\/(aft S D).coming=S.coming+1:=by
 cases D <;> first | exact .inl rfl | exact .inr rfl
theorem zZo{D:Deed}(h:zW0 D):zZb D:=by
 cases D <;> first | exact h | exact trivial
theorem BkL.other{C b p l b' p' dx':af}{fs':List (aA×V)}{ps':List V}{H H1:Hp}{S:BS}{past later:List (Deed×BS)}(k:BkL C H b p l S past later)(s:yR (Bp b' p') H H1)(hb:H b'=some (.ins C dx' fs'))(hp:H p'=some (.lst ps'))(n1:b≠b')(n2:p≠p')(n3:l≠p'):BkL C H1 b p l S past later:=by
 obtain⟨dx,d,ps,ls,q⟩:=k;have nd:=zU3 hb hp;have np:=zVf hb hp;have nb:∀{x:af}{xs:List V},H x=some (.lst xs)->x≠b':=λe z=>by rw[z,hb] at e; cases e
 exact⟨dx,d,ps,ls,s.ins (λz=>z.elim n1 λz=>by have:=q.ob; rw[z,hp] at this; cases this) q.ob,q.st.samE s nd np,s.lst (λz=>z.elim (nb q.pa) n2) q.pa,s.lst (λz=>z.elim (nb q.la) n3) q.la,q.pp.samE s nd np,q.ll.samE s nd np,q.ne⟩
theorem BkL.put{C b p l D:af}{H:Hp}{S:BS}{past later:List (Deed×BS)}{zs ws:List V}(k:BkL C H b p l S past later)(e:H D=some (.lst zs))(n1:p≠D)(n2:l≠D):BkL C (upd H D (.lst ws)) b p l S past later:=by
 obtain⟨dx,d,ps,ls,q⟩:=k;have s:=uT (o:=.lst ws) e;have np:=zIe e;have nd:∀ a kvs,Rd H a (.dK kvs)->¬ a=D:=λa kvs h z=>by
  rw[z] at h;rcases h with h | ⟨o,h⟩ <;> rw[e] at h <;> cases h
 exact⟨dx,d,ps,ls,s.ins (λz=>by have:=q.ob; rw[z,e] at this; cases this) q.ob,q.st.samE s nd np,s.lst n1 q.pa,s.lst n2 q.la,q.pp.samE s nd np,q.ll.samE s nd np,q.ne⟩
theorem sam_new{H H1:Hp}{b:af}(s:yR (λx=>x=b) H H1)(n:H b=none):Sam H H1:=λx o _ e=>s x o (λz=>by rw[z,n] at e; cases e) e
theorem zBg{H:Hp}{a x:af}{o:HO}(h:upd H a o x=none):H x=none:=by
 by_cases z:x=a
 ·rw[z,zA] at h; cases h
 ·rw[zH z] at h; exact h
theorem zOh{H H1:Hp}{b dx:af}{o o':HO}(s:yR (λx=>x=b) (upd (upd H dx o) b o') H1)(hb:H b=none)(hdx:H dx=none):Sam H H1:=λx v _ e=>by
 have n:x≠b:=zJ e hb;exact s x v n (by rw[zH n,zH (zJ e hdx)]; exact e)
structure Two(H0 H:Hp)(b1 p1 b2 p2 w d:af)(S:BS)(Ds:List Deed):Prop where
 mk ::
 same:yR (λx=>(Bp b1 p1 x\/Bp b2 p2 x)\/x=w) H0 H
 k1:∃(l:af)(past:List (Deed×BS)),BkL bkC H b1 p1 l S past []/\l≠p2/\l≠w/\past.map (·.1)=Ds
 k2:∃(l:af)(past:List (Deed×BS)),BkL bkC H b2 p2 l S past []/\l≠p1/\l≠w/\past.map (·.1)=Ds
 row:∃ zs,H w=some (.lst zs)/\wC H (Ds.map Deed.dt) zs
 lw:∃ m b r n,r≠p1/\r≠p2/\r≠w/\LwA H d m b r n S
 neat:zGg S
 tame:∀ D∈Ds,zEg D
theorem Two.to{H0 H H1:Hp}{b1 p1 b2 p2 w d:af}{S:BS}{Ds:List Deed}(h:Two H0 H b1 p1 b2 p2 w d S Ds)(s:Sam H H1):Two H0 H1 b1 p1 b2 p2 w d S Ds :=
 ⟨h.same.trans (s.wider λ_ z=>z.elim),let ⟨l,past,k,r⟩:=h.k1;⟨l,past,k.to s,r⟩,let ⟨l,past,k,r⟩:=h.k2;⟨l,past,k.to s,r⟩,let ⟨zs,e,r⟩:=h.row;⟨zs,s.lst id e,r.to s⟩,let ⟨m,b,r,n,e1,e2,e3,k⟩:=h.lw;⟨m,b,r,n,e1,e2,e3,k.to s⟩,h.neat,h.tame⟩
theorem zVy{D:Deed}(h:zEg D):dep 3 D.dt:=by
 cases D with
 | bank n cs=>exact xQ (az rfl) (dt3 yO yO (xQ (by rw[ac]; have:=h.2.1; lia) λd hd=>by obtain⟨c,_,rfl⟩:=aC.mp hd; exact zGd))
 | bearing m n a b c d=>exact xQ (az rfl) λd hd=>(aD.mp hd).elim (λz=>z ▸ yO) (dt4 xK yO zGd zGd d)
 | mark n x y=>exact xQ (az rfl) (dt4 yO yO xK xK)
 | move n x y=>exact xQ (az rfl) (dt4 yO yO xK xK)
 | right k x y=>exact xQ (az rfl) (dt4 yO xK xK xK)
 | range m l r=>exact xQ (az rfl) (dt4 yO xK yO yO)
 | sail x y=>exact xQ (az rfl) (dt3 yO xK xK)
 | unmark n=>exact xQ (az rfl) (dt2 yO yO)
 | level n=>exact xQ (az rfl) (dt2 yO yO)
 | strike k=>exact xQ (az rfl) (dt2 yO xK)
def sp_law(K:ae):Sp:=λvs H Q _=>∃(a:af)(ns:List Int),vs=[.ref a]/\SqL K H a (ns.map V.int)/\ns.length<=63/\∀ H',Q (.bl true) H'
theorem yg5(F:Fun K "law" "law" zM0 f fd)(Z:Zs mg)(CB:Cb P w mg base)(yBz:Has P w K mg base "_law_same" 6 ["_law_told","_law_due_here"] (zG3 K))(h_b_deeds:zQ4 P w K mg base zJq 1 ["self"] (zH5 K))(yBp:Has P w K mg base "_law_stands" 7 ["_law_book","_law_m"] (zF3 K))(yBv:Has P w K mg base "_law_after" 1 ["_law_m","_law_deed_here"] (zHz K))(yBc:Has P w K mg base "_law_by_method" 9 ["_law_book","_law_deed_here"] (zBr K))(yBx:Has P w K mg base "_law_done" 7 ["_law_book","_law_deed_here"] (zL3 K))(yCg:Has P w K mg base "_law_due" 4 ["_law_m","_law_deed_here"] (zOi K))(yBy:Has P w K mg base "_law_deed" 4 ["_law_d","_law_m","_law_names_here"] (zKe K))(yCe:Has P w K mg base "_law_new" 1 [] (zPc K))(h_b_init:zQ4 P w K mg base zNr 2 ["self"] (zJ4 K))(yBt:Has P w K mg base "_law_names" 1 ["_law_some","_law_many"] (zIh K))(yBw:Has P w K mg base "_law_draws" 2 ["_law_script","_law_many"] (zH7 K)):yQ P w K mg base CX0 10 f fd ["_law_script"] (sp_law K):=by
 specialize zAs
 ·obtain⟨a,ns,rfl,_⟩:=h;rfl
 obtain⟨ad,ns,rfl,hS,hl,q⟩:=h
 refine'⟨_,(zD (yI 1 zAs.nd ?_)
   (zD (yI 2 zAs.nd ?_)
   (zD (yI 3 zAs.nd (zMm CB.make h_b_init (hr.mono (by decide)) CB.gBook))
   (zD (yI 4 zAs.nd (zMm CB.make h_b_init (hr.mono (by decide)) CB.gBook))
   (zD (yI 5 zAs.nd (zLq yCe (hr.mono (by decide)) rfl))
   (zD (yI 6 zAs.nd ?_)
   (zD (zAa cw rfl (rX rfl Z.range ?_) (zD4 7 zAs.nd) (zD (yI 8 zAs.nd ?_)
   (zD (yI 9 zAs.nd ?_)
   (zD (zY ?_ (zF (zM zHl)) zN)
   (zF (zY ?_ (zD (yI 5 zAs.nd ?_)
   (zF (yA (zNm (pv 6) (zB (pv 8) zI))))) zN))))))
   (zD (zY ?_ (zF (zM zHl)) zN)
   (zF (zM (uB yBz (hr.mono (by decide)) rfl (zB (tI (zB (uM CB.m_deeds h_b_deeds (hr.mono (by decide)) (pv 3)) (zB (uM CB.m_deeds h_b_deeds (hr.mono (by decide)) (pv 4)) zI))) (zB ?_ zI))))))))))))),?_⟩
 nofun
 refine⟨_,U,ad,ns,200,U,hS,hl,by decide,by decide,λrr rows H1 s1 hr0 er1 l1 l2 bd=>?_⟩;obtain⟨v0,a0,y0⟩:=xT bd (k:=0) (by decide) (by lia);obtain⟨v1,a1,y1⟩:=xT bd (k:=1) (by decide) (by lia);obtain⟨v8,a8,y8⟩:=xT bd (k:=8) (by decide) (by lia);have cut:∀ k:Nat,k<=199->zB7 (rows.map V.int) (some (k:Int)) none=(rows.drop k).map V.int:=λk hk=>by rw[zCc,HT.sIx_nat rows.length 0 k,show min k rows.length=k by lia,show HT.sIx rows.length rows.length none=rows.length from rfl,cy (by rw[b9]; lia)]
 have sq:∀{H':Hp},H' rr=some (.lst (rows.map V.int))->Sq K H' rr (rows.map V.int):=λh=>.inl (SqL.of h);refine⟨_,U,_,U,rr,_,U,SqL.of er1,λc hc=>?_⟩;have ct2:zB7 (rows.map V.int) (some 2) none=(rows.drop 2).map V.int:=cut 2 (by decide);have sc:=zC hc (.lst (zB7 (rows.map V.int) (some 2) none));obtain⟨many,em⟩:∃ n:Nat,3+v0%4=(n:Int):=⟨(3+v0%4).toNat,by lia⟩;exists _,U,rr,_,_,_,U,U,sq (sc _ _ er1),a0,_,_,U,U,gt4,_,_,U,rfl;rw[em];refine⟨c,rows.drop 2,many,U,SqL.of (by rw[zA,ct2]),(by rw[b9]; lia),(by lia),(λv hv=>bd v (dO hv)),λR nms H2 s2 hR eR ln okn nod=>?_⟩;have er2:=s2 _ _ (sc _ _ er1);have ln1:1<=nms.length:=by lia
 clear s2 s1 er1 hR hr0 hS hl sc hc;intro b1 dx1 hb1 hdx1 nbd1;refine⟨b1,dx1,U,zA,λp1 l1 H3 s3 hp1 hl1 bl1=>⟨U,?_⟩⟩;intro b2 dx2 hb2 hdx2 nbd2;refine⟨b2,dx2,U,zA,λp2 l2 H4 s4 hp2 hl2 bl2=>⟨U,?_⟩⟩;have sA3:=zOh s3 hb1 hdx1;have sA4:=zOh s4 hb2 hdx2;have fp2:H3 p2=none:=zBg (zBg hp2);have fl2:H3 l2=none:=zBg (zBg hl2);have fp1:H2 p1=none:=zBg (zBg hp1);have nrr1:rr≠p1:=zJ er2 fp1;have nR1:R≠p1:=zJ eR fp1;have nrr2:rr≠p2:=zJ (sA3.lst id er2) fp2;have nR2:R≠p2:=zJ (sA3.lst id eR) fp2;obtain⟨dy1,dd1,ps1,ls1,k1⟩:=id bl1;have nb12:b1≠b2:=zJ k1.ob hb2;have np12:p1≠p2:=zJ k1.pa fp2;have nl1p2:l1≠p2:=zJ k1.la fp2;have nl2p1:l2≠p1:=(zJ k1.pa fl2).symm;have er4:=sA4.lst id (sA3.lst id er2);have eR4:=sA4.lst id (sA3.lst id eR)
 replace bl1:=bl1.to sA4
 clear sA3 sA4 s3 s4 hp1 hp2 hl1 hl2 hb1 hb2 hdx1 hdx2 nbd1 nbd2 er2 eR k1 fp2 fl2 fp1;obtain⟨dy1,dd1,ps1,ls1,k1⟩:=id bl1;obtain⟨dy2,dd2,ps2,ls2,k2⟩:=id bl2;refine⟨U,λd m b r n H5 s5 hd hm hrr ed em eb er en _ _=>?_⟩;have lw5:LwA H5 d m b r n BS.nil:=⟨.inl ed,.nil em,.nil eb,⟨[],er,yF.mpr rfl⟩,.nil en⟩;have nrp1:r≠p1:=(zJ k1.pa hrr).symm;have nrp2:r≠p2:=(zJ k2.pa hrr).symm;refine⟨sz0,λw hw=>?_⟩;have sw:=zC hw (.lst []);have s5w:=s5.trans sw;have nw:∀{x:af}{o:HO},H4 x=some o->x≠w:=λe=>zJ (s5 _ _ e) hw;have nbw1:¬ Bp b1 p1 w:=λz=>z.elim (λz=>nw k1.ob z.symm) (λz=>nw k1.pa z.symm);have nbw2:¬ Bp b2 p2 w:=λz=>z.elim (λz=>nw k2.ob z.symm) (λz=>nw k2.pa z.symm);have npw1:=nw k1.pa;have npw2:=nw k2.pa;have nrw:r≠w:=zJ er hw;have er6:=s5w _ _ er4;have eR6:=s5w _ _ eR4;have nrrw:=nw er4;have nRw:=nw eR4;have nxB:∀{x b p:af}{xs:List V}{dx:af}{fs:List (aA×V)},x≠p->H4 x=some (.lst xs)->H4 b=some (.ins bkC dx fs)->¬ Bp b p x:=λh e e2 z=>z.elim (λz=>by rw[z,e2] at e; cases e) h;have nX:∀{x:af}{xs:List V},H4 x=some (.lst xs)->x≠p1->x≠p2->¬ ((Bp b1 p1 x\/Bp b2 p2 x)\/x=w):=λe h1 h2 z=>by
  rcases z with (z | z) | z
  ·exact nxB h1 e k1.ob z
  ·exact nxB h2 e k2.ob z
  ·exact nw e z
 have nrrX:=nX er4 nrr1 nrr2;have nRX:=nX eR4 nR1 nR2;have T0:Two (upd H5 w (.lst [])) (upd H5 w (.lst [])) b1 p1 b2 p2 w d BS.nil []:=⟨yR.refl _,⟨l1,[],bl1.to (.of s5w),nl1p2,nw k1.la,rfl⟩,⟨l2,[],bl2.to (.of s5w),nl2p1,nw k2.la,rfl⟩,⟨[],zA,yF.mpr rfl⟩,⟨m,b,r,n,nrp1,nrp2,nrw,lw5.to (.of sw)⟩,zGg.nil,λD hD=>nomatch hD⟩;generalize upd H5 w (.lst [])=H6 at T0 er6 eR6 ⊢;clear nxB nX bl1 bl2 k1 k2 er4 eR4 lw5 nrp1 nrp2 nrw sw s5w s5 hw hd hm hrr ed em eb er en nw;exists _,U,rr,_,_,_,U,U,sq er6,a1,_,_,U,U,(by show(0:Int)<17; decide);have n0:0<=v1%17:=by lia
 have n17:v1%17<=16:=by lia
 generalize v1%17=N at n0 n17 ⊢;refine⟨_,U,by lia,by lia,zAq (lo:=0) (n:=N.toNat) (λi σ H'=>∃(d':af)(S:BS)(Ds:List Deed),Two H6 H' b1 p1 b2 p2 w d' S Ds/\Ds.length<=i/\1<=S.coming/\S.coming<=1+i/\∃ u7 u8 u9:Option V,σ=[some (.ref ad),some (.ref rr),some (.ref R),some (.ref b1),some (.ref b2),some (.ref d'),some (.ref w),u7,u8,u9])
  ⟨d,BS.nil,[],T0,al _,by decide,by decide,none,none,none,rfl⟩ ?_ ?_⟩
 ·rintro i σ G hi ⟨d',S,Ds,T,lD,c1,c2,u7,u8,u9,rfl⟩;have erG:=T.same.lst nrrX er6;have ck:zB7 (rows.map V.int) (some (9+11*(0+(i:Int)))) none=(rows.drop (9+11*i)).map V.int:=by
   rw[show 9+11*(0+(i:Int))=((9+11*i:Nat):Int) by lia];exact cut _ (by lia)
  refine⟨_,U,_,U,_,_,U,U,zZx (by lia),_,_,U,U,_,U,rr,_,U,SqL.of erG,λc hc=>?_⟩;have sc:=zC hc (.lst (zB7 (rows.map V.int) (some (9+11*(0+(i:Int)))) none))
  replace T:=T.to (.of sc)
  obtain⟨m',b',r',n',e1,e2,e3,lwT⟩:=T.lw;refine⟨_,U,_,U,c,d',R,rows.drop (9+11*i),nms,S,U,(by rw[zA,ck]),(by rw[b9]; lia),(λv hv=>bd v (dO hv)),⟨m',b',r',n',lwT⟩,T.neat.well,c1,(by lia),T.same.lst nRX eR6,ln1,okn,λv D G1 s1 rv tm dr=>?_⟩
  replace T:=T.to s1
  clear lwT sc hc erG ck;refine⟨_,rfl,_,rfl,d',v,S,D,rfl,let ⟨m,b,r,n,_,_,_,k⟩:=T.lw;⟨m,b,r,n,k⟩,rv,tm,T.neat.well,zZo dr,λt G2 s2 et=>?_⟩
  replace T:=T.to s2
  have rv2:=rv.to s2;obtain⟨l1',past1,bl1,m11,m12,m13⟩:=T.k1;have lp1:past1.length<=20:=by have:=congrArg cN m13; rw[ac] at this; lia
  obtain⟨l2',past2,bl2,m21,m22,m23⟩:=T.k2;have lp2:past2.length<=20:=by have:=congrArg cN m23; rw[ac] at this; lia
  refine⟨_,U,_,U,b1,p1,v,S,D,past1,[],U,bl1.at,rv2,tm,T.neat.well,(by lia),λjn t2 G3 s3 bf et2=>?_,λc jc t2 G3 s3 et2=>?_⟩
  ·rw[jn] at et;have et:G2 t=some (.tup [.str "",zJ2 S D]):=et;obtain⟨dy1,dd1,ps1,ls1,k1⟩:=id bl1;obtain⟨dy2,dd2,ps2,ls2,k2⟩:=id bl2;have nd1:=zU3 k1.ob k1.pa;have np1:=zVf k1.ob k1.pa;have et3:=s3.tup (np1 _ _ et) et;refine⟨_,U,.ref t2,.ref t,U,zIt zL5 et2 et3,λG4 s4=>⟨_,U,yB ?_⟩⟩;have bl2':=(bl2.other s3 k1.ob k1.pa nb12.symm np12.symm m21).to (.of s4);have s24:yR (Bp b1 p1) G2 G4:=s3.trans (.of s4);have rv4:=rv2.sam s24 np1;refine⟨_,rfl,_,rfl,b2,p2,v,S,D,past2,[],rfl,bl2'.at,rv4,tm,T.neat.well,(by lia),λ_ t3 G5 s5 bf2 et3'=>?_,λc jc=>absurd (jn.symm.trans jc) (λz=>nomatch z)⟩;obtain⟨dz2,de2,qs2,ms2,k2'⟩:=id bl2';have nd2:=zU3 k2'.ob k2'.pa;have np2:=zVf k2'.ob k2'.pa;have et5:=s5.tup (np2 _ _ (s4 _ _ et3)) (s4 _ _ et3);refine⟨_,U,.ref t3,.ref t,U,zIt zL5 et3' et5,λG6 s6=>⟨_,U,yB ?_⟩⟩;refine⟨_,U,t,_,0,.str "",U,U,.inr (SqT.of (s6 _ _ et5)),U,U,_,U,yY ?_⟩;obtain⟨lf1,hlf1,blf1⟩:=bf;obtain⟨lf2,hlf2,blf2⟩:=bf2;have s46:yR (Bp b2 p2) G4 G6:=s5.trans (.of s6);obtain⟨dz1,de1,qs1,ms1,k1'⟩:=blf1.to (.of s4);have b1':=((blf1.to (.of s4)).other s46 k2'.ob k2'.pa nb12 np12 (λz=>by have:=k2.pa; rw[<- z,hlf1] at this; cases this));have b2':=blf2.to (.of s6);obtain⟨zs,ew,rz⟩:=T.row;have nb:∀{x:af}{xs:List V}{b:af}{dx:af}{fs:List (aA×V)}{H:Hp},H x=some (.lst xs)->H b=some (.ins bkC dx fs)->x≠b:=λe e2 z=>by rw[z,e2] at e; cases e
   have ew4:G4 w=some (.lst zs):=s24.lst nbw1 ew;have ew6:G6 w=some (.lst zs):=s46.lst nbw2 ew4;have rz6:=(rz.sam s24 np1).sam s46 np2;have rv6:=rv4.sam s46 np2;obtain⟨m',b',r',n',e1,e2,e3,lwT⟩:=T.lw;obtain⟨rs,ers,_⟩:=id lwT.ru;have lw4:LwA G4 d' m' b' r' n' S:=lwT.samE s24 nd1 np1 (λ_ _ z=>z.elim (nb ers k1.ob) e1);obtain⟨rs4,ers4,_⟩:=id lw4.ru;have lw6:LwA G6 d' m' b' r' n' S:=lw4.samE s46 nd2 np2 (λ_ _ z=>z.elim (nb ers4 k2'.ob) e2);refine⟨_,U,_,U,d',v,S,D,U,rv6,⟨m',b',r',n',lw6⟩,zOr jn,T.neat.well.good.few,T.neat.well.good.fresh,λd2 G7 s7 hd2 lwn=>?_⟩;obtain⟨m8,b8,r8,n8,hr8,lw8⟩:=lwn;have ew7:=s7 _ _ ew6;have lz:zs.length=Ds.length:=by rw[rz.length,ac]
   exists _,U,.inl ⟨U,_,SqL.of ew7⟩,_,U,w,zs,v,U,U,ew7,zW (by lia);have b1'':=b1'.to (.of s7);have b2'':=b2'.to (.of s7);obtain⟨_,_,_,_,j1⟩:=id b1';obtain⟨_,_,_,_,j2⟩:=id b2';have sW:=uT (o:=.lst (zs++[v])) ew7;have npW:=zIe ew7;have ndW:∀ a kvs,Rd G7 a (.dK kvs)->¬ a=w:=λa kvs h z=>by
    rw[z] at h;rcases h with h | ⟨o,h⟩ <;> rw[ew7] at h <;> cases h
   have lfw1:lf1≠w:=λz=>by rw[z,ew] at hlf1; cases hlf1
   have lfw2:lf2≠w:=λz=>by rw[z,ew4] at hlf2; cases hlf2
   refine⟨d2,aft S D,Ds++[D],⟨?_,⟨lf1,_,b1''.put ew7 npw1 lfw1,(λz=>by have:=k2.pa; rw[<- z,hlf1] at this; cases this),lfw1,by rw[aG,m13]; rfl⟩,⟨lf2,_,b2''.put ew7 npw2 lfw2,(λz=>by have:=k1'.pa; rw[<- z,hlf2] at this; cases this),lfw2,by rw[aG,m23]; rfl⟩,⟨zs++[v],zA,?_⟩,⟨m8,b8,r8,n8,(zJ j1.pa hr8).symm,(zJ j2.pa hr8).symm,(zJ ew6 hr8).symm,lw8.samE sW ndW npW (λ_ _=>(zJ ew6 hr8).symm)⟩,T.neat.aft (zOr jn),λD' hD'=>(aS.mp hD').elim (T.tame D') λz=>au.mp z ▸ tm⟩,(by rw[aF]; exact Nat.succ_le_succ lD),?_,?_,_,_,_,rfl⟩
   ·exact(T.same.trans ((s24.wider λx z=>.inl (.inl z)).trans ((s46.wider λx z=>.inl (.inr z)).trans (.of s7)))).trans (sW.wider λx z=>.inr z)
   ·rw[aG];exact(wC.app (rz6.to (.of s7)) (.one (rv6.to (.of s7)))).sam sW npW
   ·rcases zH3 (S:=S) (D:=D) with e | e <;> rw[e] <;> lia
   ·rcases zH3 (S:=S) (D:=D) with e | e <;> rw[e] <;> lia
  ·rw[jc] at et;have et:G2 t=some (.tup [.str (zHd c),.non]):=et;have et3:=s3.tup id et;refine⟨_,U,.ref t2,.ref t,U,zIt (.inr rfl) et2 et3,λG4 s4=>⟨_,U,yB ?_⟩⟩;have s24:Sam G2 G4:=s3.trans (.of s4);have bl2':=bl2.to s24;refine⟨_,rfl,_,rfl,b2,p2,v,S,D,past2,[],rfl,bl2'.at,rv2.to s24,tm,T.neat.well,(by lia),λjn=>absurd (jn.symm.trans jc) (λz=>nomatch z),λc' jc' t3 G5 s5 et3'=>?_⟩;have ec:c'=c:=by rw[jc] at jc'; exact(a7 jc').symm
   subst ec;have et5:=s5.tup id (s4 _ _ et3);refine⟨_,U,.ref t3,.ref t,U,zIt (.inr rfl) et3' et5,λG6 s6=>⟨_,U,yB ?_⟩⟩;refine⟨_,U,t,_,0,.str (zHd c'),U,U,.inr (SqT.of (s6 _ _ et5)),U,U,_,U,yi5 (zSp c') ?_⟩;exact⟨d',S,Ds,T.to (s24.trans (s5.trans (.of s6))),by lia,c1,by lia,_,_,_,U⟩
 ·rintro σ G ⟨d',S,Ds,T,lD,c1,c2,u7,u8,u9,rfl⟩;obtain⟨l1',past1,bl1,m11,m12,m13⟩:=T.k1;obtain⟨l2',past2,bl2,m21,m22,m23⟩:=T.k2;have lw:zSz G d' S:=let ⟨m,b,r,n,_,_,_,k⟩:=T.lw;⟨m,b,r,n,k⟩;refine⟨_,U,_,U,b1,p1,d',S,past1,[],U,bl1.at,lw,T.neat,λG1 s1=>⟨_,U,yB ?_⟩⟩;refine⟨_,U,_,U,b2,p2,d',S,past2,[],U,bl2.at.to s1,lw.to s1,T.neat,λG2 s2=>⟨_,U,yB ?_⟩⟩;have s12:=s1.trans s2;have no:∀{d p l:af}{m:aA},m = "deeds" ->(bkF d p l).lookup m=none:=λ{d p l m} e=>by subst e; exact zBi (by decide +kernel) (by decide +kernel) (by decide +kernel)
  obtain⟨zs,ew,rz⟩:=T.row;have mp1:past1.map (·.1.dt)=Ds.map Deed.dt:=by rw[<- m13,bp]; rfl
  have mp2:past2.map (·.1.dt)=Ds.map Deed.dt:=by rw[<- m23,bp]; rfl
  have lp1:past1.length<=500:=by have:=congrArg cN m13; rw[ac] at this; lia
  have lp2:past2.length<=500:=by have:=congrArg cN m23; rw[ac] at this; lia
  have k1:=bl1.at.to s12;obtain⟨dx1,_,_,_,_,j1⟩:=id k1;refine⟨_,U,b1,dx1,_,U,j1.ob,no rfl,b1,p1,S,past1,[],U,k1,lp1,λg1 xs1 G3 s3 _ eg1 rg1=>?_⟩;have s13:=s12.trans (.of s3);have k2:=bl2.at.to s13;obtain⟨dx2,_,_,_,_,j2⟩:=id k2;refine⟨_,U,b2,dx2,_,U,j2.ob,no rfl,b2,p2,S,past2,[],U,k2,lp2,λg2 xs2 G4 s4 _ eg2 rg2=>?_⟩;have s14:=s13.trans (.of s4);rw[mp1] at rg1;rw[mp2] at rg2;refine⟨sz2,λA1 hA1=>?_⟩;have sA1:=zC hA1 (.lst [.ref g1,.ref g2]);refine⟨_,U,_,U,sz2,λA2 hA2=>?_⟩;have sA2:=zC hA2 (.lst [.ref w,.ref w]);have sA:=sA1.trans sA2;have ew':=(s14.trans (.of sA)).lst id ew;have rz':=rz.to (s14.trans (.of sA));have dp:∀ e∈Ds.map Deed.dt,dep 3 e:=λe he=>by obtain⟨D,hD,rfl⟩:=aC.mp he; exact zVy (T.tame D hD)
  have l9:(Ds.map Deed.dt).length<=900:=by rw[ac]; lia
  exact⟨.ref A1,.ref A2,U,zRn (n:=4) (sA2 _ _ zA) zA (zDv (n:=3) dp l9 (sA _ _ (s4 _ _ eg1)) ew' ((rg1.to (.of s4)).to (.of sA)) rz') (zDv (n:=3) dp l9 (sA _ _ eg2) ew' (rg2.to (.of sA)) rz'),λH' _=>q H'⟩
end
theorem zYw{K:ae}{C:af}{f:aA}(h:cu K (.ref C) f=some none):zBj K C f:=h
theorem rV(P:eh):Cls (KK P) bkC:=⟨by kernel_rfl,by kernel_rfl,by kernel_rfl,by kernel_rfl⟩
set_option maxHeartbeats 0 in
theorem cb_mk{P:aK}{w:aT}{mg:aA->Option ag}{base:aV}(X:bT (KK w.params) base)(G:base.Ns mainGlobals mg):Cb P w mg base :=
 ⟨⟨_,X,rV _,zYw (by kernel_rfl)⟩,
   ⟨_,X,rV _,zYw (by kernel_rfl)⟩,
   ⟨_,X,rV _,zYw (by kernel_rfl)⟩,
   ⟨_,X,rV _,⟨(by kernel_rfl),(by kernel_rfl),(by kernel_rfl)⟩⟩,
   ⟨_,X,rV _,⟨(by kernel_rfl),(by kernel_rfl),(by kernel_rfl)⟩⟩,
   ⟨_,X,rV _,⟨(by kernel_rfl),(by kernel_rfl),(by kernel_rfl)⟩⟩,
   ⟨_,X,rV _,⟨(by kernel_rfl),(by kernel_rfl),(by kernel_rfl)⟩⟩,
   ⟨_,X,rV _,⟨(by kernel_rfl),(by kernel_rfl),(by kernel_rfl)⟩⟩,
   ⟨_,X,rV _,⟨(by kernel_rfl),(by kernel_rfl),(by kernel_rfl)⟩⟩,
   ⟨_,X,rV _,⟨(by kernel_rfl),(by kernel_rfl),(by kernel_rfl)⟩⟩,
   ⟨_,X,rV _,⟨(by kernel_rfl),(by kernel_rfl),(by kernel_rfl)⟩⟩,
   ⟨_,X,rV _,⟨(by kernel_rfl),(by kernel_rfl),(by kernel_rfl)⟩⟩,
   ⟨_,X,rV _,⟨(by kernel_rfl),(by kernel_rfl),(by kernel_rfl)⟩⟩,
   ⟨_,X,rV _,⟨(by kernel_rfl),(by kernel_rfl),(by kernel_rfl)⟩⟩,
   ⟨_,X,rV _,⟨(by kernel_rfl),(by kernel_rfl),(by kernel_rfl)⟩⟩,
   ⟨_,X,rV _,⟨(by kernel_rfl),(by kernel_rfl),(by kernel_rfl)⟩⟩,
   ⟨_,X,rV _,⟨(by kernel_rfl),(by kernel_rfl),(by kernel_rfl)⟩⟩,
   ⟨_,X,rV _,⟨(by kernel_rfl),(by kernel_rfl),(by kernel_rfl)⟩⟩,
   ⟨_,X,rV _,⟨(by kernel_rfl),(by kernel_rfl),(by kernel_rfl)⟩⟩,
   ⟨_,X,rV _,⟨(by kernel_rfl),(by kernel_rfl),(by kernel_rfl)⟩⟩,
   ⟨_,X,⟨(by kernel_rfl),(by kernel_rfl),(by kernel_rfl),(by kernel_rfl)⟩⟩,
   (ay X G (by kernel_rfl)),
   (zT8 (ep:=4) (l:=[("marks",535,.int 20,.int 20 536),("banks",537,.int 8,.int 8 538),("runs",539,.int 12,.int 12 540),("notes",541,.int 24,.int 24 542)]) (X _ _ (by kernel_rfl)) (λe he=>by simp only[aD,bI,or_false] at he; rcases he with rfl | rfl | rfl | rfl <;> exact⟨_,U⟩) (by decide +kernel)),
   (ay X G (by kernel_rfl)),
   (zT8 (ep:=10) (l:=[("mark",760,.ref 366,.ref 366),("move",761,.ref 373,.ref 373),("unmark",762,.ref 380,.ref 380),("bank",763,.ref 387,.ref 387),("level",764,.ref 394,.ref 394),("sail",765,.ref 401,.ref 401),("right",766,.ref 408,.ref 408),("bearing",767,.ref 422,.ref 422),("range",768,.ref 429,.ref 429),("strike",769,.ref 436,.ref 436)]) (X _ _ (by kernel_rfl)) (λe he=>by simp only[aD,bI,or_false] at he; rcases he with rfl | rfl | rfl | rfl | rfl | rfl | rfl | rfl | rfl | rfl <;> exact rfl) (by decide +kernel)),
   (ay X G (by kernel_rfl)),
   ⟨548,(ay X G (by kernel_rfl))⟩,
   ⟨550,(ay X G (by kernel_rfl))⟩,
   ⟨552,(ay X G (by kernel_rfl))⟩,
   (ay X G (by kernel_rfl)),
   (ay X G (by kernel_rfl)),
   (ay X G (by kernel_rfl)),
   (ay X G (by kernel_rfl)),
   (ay X G (by kernel_rfl)),
   (ay X G (by kernel_rfl)),
   (ay X G (by kernel_rfl)),
   (ay X G (by kernel_rfl)),
   (ay X G (by kernel_rfl)),
   (ay X G (by kernel_rfl)),
   (ay X G (by kernel_rfl)),
   (ay X G (by kernel_rfl)),
   (ay X G (by kernel_rfl)),
   (ay X G (by kernel_rfl)),
   (ay X G (by kernel_rfl)),
   (ay X G (by kernel_rfl)),
   (ay X G (by kernel_rfl)),
   (ay X G (by kernel_rfl)),
   (ay X G (by kernel_rfl)),
   (ay X G (by kernel_rfl)),
   (ay X G (by kernel_rfl)),
   (ay X G (by kernel_rfl)),
   (ay X G (by kernel_rfl)),
   (ay X G (by kernel_rfl)),
   (ay X G (by kernel_rfl)),
   (ay X G (by kernel_rfl)),
   (ay X G (by kernel_rfl)),
   (ay X G (by kernel_rfl)),
   (xI X (ay X G (by kernel_rfl)) (by kernel_rfl)),
   ⟨_,X,(by kernel_rfl)⟩,
   (xI X (ay X G (by kernel_rfl)) (by kernel_rfl)),
   ⟨_,X,(by kernel_rfl)⟩,
   (xI X (ay X G (by kernel_rfl)) (by kernel_rfl)),
   ⟨_,X,(by kernel_rfl)⟩,
   (xI X (ay X G (by kernel_rfl)) (by kernel_rfl)),
   ⟨_,X,(by kernel_rfl)⟩,
   (xI X (ay X G (by kernel_rfl)) (by kernel_rfl)),
   ⟨_,X,(by kernel_rfl)⟩,
   (xI X (ay X G (by kernel_rfl)) (by kernel_rfl)),
   ⟨_,X,(by kernel_rfl)⟩,
   (xI X (ay X G (by kernel_rfl)) (by kernel_rfl)),
   ⟨_,X,(by kernel_rfl)⟩,
   (xI X (ay X G (by kernel_rfl)) (by kernel_rfl)),
   ⟨_,X,(by kernel_rfl)⟩,
   (xI X (ay X G (by kernel_rfl)) (by kernel_rfl)),
   ⟨_,X,(by kernel_rfl)⟩,
   (xI X (ay X G (by kernel_rfl)) (by kernel_rfl)),
   ⟨_,X,(by kernel_rfl)⟩,
   (xI X (ay X G (by kernel_rfl)) (by kernel_rfl)),
   ⟨_,X,(by kernel_rfl)⟩,
   (xI X (ay X G (by kernel_rfl)) (by kernel_rfl)),
   ⟨_,X,(by kernel_rfl)⟩,
   (xI X (ay X G (by kernel_rfl)) (by kernel_rfl)),
   ⟨_,X,(by kernel_rfl)⟩,
   (xI X (ay X G (by kernel_rfl)) (by kernel_rfl)),
   ⟨_,X,(by kernel_rfl)⟩,
   (xI X (ay X G (by kernel_rfl)) (by kernel_rfl)),
   ⟨_,X,(by kernel_rfl)⟩,
   ⟨_,X,(by kernel_rfl)⟩⟩
abbrev AtK(Pm:eh)(x:aA)(s:bC)(f:af)(oc:ag)(od:Option af)(sl:Array (Option ag))(kV dc pm:ag)(an:Option af)(cd ct:ag):Prop :=
 bY (KK Pm) mainGlobals x=some (some (.ref f))/\bF f KC=some ⟨oc,od,.func (bN x x (xW s) (xF s) (zG s) .none kV dc pm an cd ct),sl⟩/\eG KC cd x=true/\bV KC (.ref f)=true
section
variable{Pm:eh}{x:aA}{s:bC}{f:af}{oc kV dc pm cd ct:ag}{od an:Option af}{sl:Array (Option ag)}{h:aV}{mg:aA->Option ag}
theorem zUs(q:AtK Pm x s f oc od sl kV dc pm an cd ct):Fun K x x s f (bN x x (xW s) (xF s) (zG s) .none kV dc pm an cd ct):=zTg (st:=s) (by rw[zTp]; exact q.2.1) (by rw[zTp]; exact q.2.2.1) (by rw[zTp]; exact q.2.2.2)
abbrev AtE(Pm:eh)(x:aA)(s:bC):Prop:=∃(f:af)(oc:ag)(od:Option af)(sl:Array (Option ag))(kV dc pm:ag)(an:Option af)(cd ct:ag),AtK Pm x s f oc od sl kV dc pm an cd ct
theorem at_mk(q:AtK Pm x s f oc od sl kV dc pm an cd ct):AtE Pm x s:=⟨_,_,_,_,_,_,_,_,_,_,q⟩
theorem zTl(P:aK)(w:aT)(base:aV)(X:bT (KK Pm) h)(G:h.Ns mainGlobals mg)(q:AtE Pm x s){ps:List aA}{n:Nat}{sp:Sp}(o:∀ {f:af} {fd:bP},Fun K x x s f fd->zC6 K fd ps []->bV K (.ref f)=true->mg x=some (.ref f)->yQ P w K mg base CX0 n f fd ps sp)
  (b:∀(kV doc pm:ag)(an:Option af)(cdv ct:ag)(us:List ag),us.length=ps.length->bindArgs (bN x x (xW s) (xF s) (zG s) .none kV doc pm an cdv ct) ⟨us,[]⟩=pure (ps.zip us)):Has P w K mg base x n ps sp:=by
 obtain⟨f,oc,od,sl,kV,dc,pm,an,cd,ct,q⟩:=q;have F:=zUs q;exact⟨_,_,o F (F.binds b) F.kp (ay X G q.1),F.binds b,F.kp,ay X G q.1⟩
theorem yN(P:aK)(w:aT)(base:aV)(X:bT (KK Pm) h)(G:h.Ns mainGlobals mg)(q:AtE Pm x s){ps:List aA}{n:Nat}{sp:Sp}(o:∀ {f:af} {fd:bP},Fun K x x s f fd->yQ P w K mg base CX0 n f fd ps sp)
  (b:∀(kV doc pm:ag)(an:Option af)(cdv ct:ag)(us:List ag),us.length=ps.length->bindArgs (bN x x (xW s) (xF s) (zG s) .none kV doc pm an cdv ct) ⟨us,[]⟩=pure (ps.zip us)):Has P w K mg base x n ps sp:=zTl P w base X G q (λF _ _ _=>o F) b
abbrev AtM(x q:aA)(s:bC)(f:af):Prop:=∃(oc:ag)(od:Option af)(sl:Array (Option ag))(kV dc pm:ag)(an:Option af)(cd ct:ag),bF f KC=some ⟨oc,od,.func (bN x q (xW s) (xF s) (zG s) .none kV dc pm an cd ct),sl⟩/\eG KC cd q=true/\bV KC (.ref f)=true
theorem atm_mk{q:aA}(h:bF f KC=some ⟨oc,od,.func (bN x q (xW s) (xF s) (zG s) .none kV dc pm an cd ct),sl⟩/\eG KC cd q=true/\bV KC (.ref f)=true):AtM x q s f:=⟨_,_,_,_,_,_,_,_,_,h⟩
theorem yZ(P:aK)(w:aT)(base:aV)(X:bT (KK Pm) h)(G:h.Ns mainGlobals mg)(q:AtE Pm x s){ps:List aA}{n:Nat}{sp:Sp}(o:∀ {f:af} {fd:bP},Fun K x x s f fd->yQ P w K mg base (CX1 P w) n f fd ps sp)
  (b:∀(kV doc pm:ag)(an:Option af)(cdv ct:ag)(us:List ag),us.length=ps.length->bindArgs (bN x x (xW s) (xF s) (zG s) .none kV doc pm an cdv ct) ⟨us,[]⟩=pure (ps.zip us)):qI P w K mg base x n ps sp:=by
 obtain⟨f,oc,od,sl,kV,dc,pm,an,cd,ct,q⟩:=q;have F:=zUs q;exact⟨_,_,o F,F.binds b,F.kp,ay X G q.1⟩
theorem zYv(P:aK)(w:aT)(base:aV)(X:bT (KK Pm) h)(G:h.Ns mainGlobals mg)(q:AtE Pm x s){ps:List aA}{n:Nat}{sp:af->Sp}(o:∀ {f:af} {fd:bP},Fun K x x s f fd->zVt P w K mg base n f fd ps sp)
  (b:∀(kV doc pm:ag)(an:Option af)(cdv ct:ag)(us:List ag),us.length=ps.length->bindArgs (bN x x (xW s) (xF s) (zG s) .none kV doc pm an cdv ct) ⟨us,[]⟩=pure (ps.zip us)):yh7 P w K mg base x n ps sp:=by
 obtain⟨f,oc,od,sl,kV,dc,pm,an,cd,ct,q⟩:=q;have F:=zUs q;exact⟨_,_,o F,F.binds b,F.kp,ay X G q.1⟩
theorem zBx(P:aK)(w:aT)(mg:aA->Option ag)(base:aV){q:aA}(a:AtM x q s f){ps:List aA}{n:Nat}{sp:Sp}(o:∀ {fd:bP},Fun K x q s f fd->yQ P w K mg base CX0 n f fd ps sp)
  (b:∀(kV doc pm:ag)(an:Option af)(cdv ct:ag)(us:List ag),us.length=ps.length->bindArgs (bN x q (xW s) (xF s) (zG s) .none kV doc pm an cdv ct) ⟨us,[]⟩=pure (ps.zip us)):zQ4 P w K mg base f n ps sp:=by
 obtain⟨oc,od,sl,kV,dc,pm,an,cd,ct,a1,a2,a3⟩:=a;exact⟨_,o (zTg (st:=s) (by rw[zTp]; exact a1) (by rw[zTp]; exact a2) (by rw[zTp]; exact a3)),b _ _ _ _ _ _⟩
theorem uR(P:aK)(w:aT)(mg:aA->Option ag)(base:aV){q:aA}(a:AtM x q s f){ps:List aA}{n:Nat}{sp:Sp}(o:∀ {fd:bP},Fun K x q s f fd->yQ P w K mg base (CX1 P w) n f fd ps sp)
  (b:∀(kV doc pm:ag)(an:Option af)(cdv ct:ag)(us:List ag),us.length=ps.length->bindArgs (bN x q (xW s) (xF s) (zG s) .none kV doc pm an cdv ct) ⟨us,[]⟩=pure (ps.zip us)):sB P w K mg base f n ps sp:=by
 obtain⟨oc,od,sl,kV,dc,pm,an,cd,ct,a1,a2,a3⟩:=a;exact⟨_,o (zTg (st:=s) (by rw[zTp]; exact a1) (by rw[zTp]; exact a2) (by rw[zTp]; exact a3)),b _ _ _ _ _ _⟩
theorem K_in{Pm:eh}{h:aV}(X:bT (KK Pm) h):bT K h:=by
 rw[zTp];exact zVx (F:=KF Pm) (by kernel_rfl) X
end
theorem us0{R:List ag->Prop}(h:R []):∀ us:List ag,us.length=0->R us
 | [],_=>h 
theorem us1{R:List ag->Prop}(h:∀ a,R [a]):∀ us:List ag,us.length=1->R us
 | [a],_=>h a
theorem us2{R:List ag->Prop}(h:∀ a b,R [a,b]):∀ us:List ag,us.length=2->R us
 | [a,b],_=>h a b
theorem us3{R:List ag->Prop}(h:∀ a b c,R [a,b,c]):∀ us:List ag,us.length=3->R us
 | [a,b,c],_=>h a b c
theorem us4{R:List ag->Prop}(h:∀ a b c d,R [a,b,c,d]):∀ us:List ag,us.length=4->R us
 | [a,b,c,d],_=>h a b c d
theorem us5{R:List ag->Prop}(h:∀ a b c d e,R [a,b,c,d,e]):∀ us:List ag,us.length=5->R us
 | [a,b,c,d,e],_=>h a b c d e
theorem all_mk{l:iE}{w:aT}{h:aV}{mg:aA->Option ag}{fa:af}(X:bT (KK w.params) h)(G:h.Ns mainGlobals mg)(hfa:mg "law" = some (.ref fa))
  {f60:af}
  {oc60 kV60 dc60 pm60 cd60 ct60:ag}
  {od60 an60:Option af}
  {sl60:Array (Option ag)}
  (q1:AtE w.params "turn" zFh)
  (q2:AtE w.params "stretch_way" wY)
  (q3:AtE w.params "all_left_of" uD)
  (q4:AtE w.params "is_bank" qG)
  (q5:AtE w.params "nothing_yet" uK)
  (q6:AtE w.params "changed" qE)
  (q7:AtE w.params "without" rY)
  (q8:AtE w.params "within" zBf)
  (q9:AtE w.params "check_name" vD)
  (q10:AtE w.params "check_free" vF)
  (q11:AtE w.params "check_place" uC)
  (q12:AtE w.params "check_run" tQ)
  (q13:AtE w.params "check_room" vH)
  (q14:AtE w.params "check_mark" vC)
  (q15:AtE w.params "check_moment" wM)
  (q16:AtE w.params "check_way" tS)
  (q17:AtE w.params "check_apart" uP)
  (q18:AtE w.params "after_mark" vN)
  (q19:AtE w.params "after_move" vJ)
  (q20:AtE w.params "after_unmark" wQ)
  (q21:AtE w.params "after_bank" vI)
  (q22:AtE w.params "after_level" uF)
  (q23:AtE w.params "after_sail" vB)
  (q24:AtE w.params "after_right" uQ)
  (q25:AtE w.params "after_note" vM)
  (q26:AtE w.params "after_bearing" wE)
  (q27:AtE w.params "after_range" uN)
  (q28:AtE w.params "after_strike" wO)
  (q29:AtE w.params "after" zCi)
  (q30:AtE w.params "_law_called" zBa)
  (q31:AtE w.params "_law_refused" qP)
  (q32:AtE w.params "_law_power" zCf)
  (q33:AtE w.params "_law_draws" zCo)
  (q34:AtE w.params "_law_names" zCg)
  (q35:AtE w.params "_law_new" zJo)
  (q36:AtE w.params "_law_strange" rZ)
  (q37:AtE w.params "_law_pick" zFc)
  (q38:AtE w.params "_law_far_number" vK)
  (q39:AtE w.params "_law_way" zI7)
  (q40:AtE w.params "_law_turned" zBb)
  (q41:AtE w.params "_law_left_pair" tL)
  (q42:AtE w.params "_law_bearing_deed" wK)
  (q43:AtE w.params "_law_deed" zE0)
  (q44:AtE w.params "_law_is_name" qT)
  (q45:AtE w.params "_law_near" zE1)
  (q46:AtE w.params "_law_mark_word" tM)
  (q47:AtE w.params "_law_bank_word" tO)
  (q48:AtE w.params "_law_run_word" rA)
  (q49:AtE w.params "_law_note_word" tK)
  (q50:AtE w.params "_law_word" zE5)
  (q51:AtE w.params "_law_due" zIw)
  (q52:AtE w.params "_law_same" zC7)
  (q53:AtE w.params "_law_done" zEx)
  (q54:AtE w.params "_law_after" zCj)
  (q55:AtE w.params "_law_marks_of" rB)
  (q56:AtE w.params "_law_stands" zA8)
  (q57:AtE w.params "_law_drawn_bank" vL)
  (q58:AtE w.params "_law_round_enough" wR)
  (q59:AtE w.params "_law_by_method" tJ)
  (q60:AtK w.params "law" zM0 f60 oc60 od60 sl60 kV60 dc60 pm60 an60 cd60 ct60)
  (q61:AtM "__init__" "Book.__init__" zE7 zNr)
  (q62:AtM "mark" "Book.mark" zFe zNd)
  (q63:AtM "move" "Book.move" zFb zM8)
  (q64:AtM "unmark" "Book.unmark" zA6 zF6)
  (q65:AtM "bank" "Book.bank" zE2 zNb)
  (q66:AtM "level" "Book.level" zCk zIv)
  (q67:AtM "sail" "Book.sail" zFa zNv)
  (q68:AtM "right" "Book.right" zCp zJm)
  (q69:AtM "bearing" "Book.bearing" qD zDs)
  (q70:AtM "range_note" "Book.range_note" vG qM)
  (q71:AtM "strike" "Book.strike" zA7 zFn)
  (q72:AtM "deed" "Book.deed" zEz uX)
  (q73:AtM "deeds" "Book.deeds" zCd zJq)
  (q74:AtM "marks" "Book.marks" zCr zJb)
  (q75:AtM "banks" "Book.banks" zCz zJz)
  (q76:AtM "runs" "Book.runs" zE3 zN0)
  (q77:AtM "notes" "Book.notes" zC1 zJh)
  (q78:AtM "coming" "Book.coming" zBc zC8)
  (z_ValueError:bY (KK w.params) mainGlobals "ValueError" = some none)
  (z_abs:bY (KK w.params) mainGlobals "abs" = some none)
  (z_all:bY (KK w.params) mainGlobals "all" = some none)
  (z_any:bY (KK w.params) mainGlobals "any" = some none)
  (z_bool:bY (KK w.params) mainGlobals "bool" = some none)
  (z_dict:bY (KK w.params) mainGlobals "dict" = some none)
  (z_int:bY (KK w.params) mainGlobals "int" = some none)
  (z_isinstance:bY (KK w.params) mainGlobals "isinstance" = some none)
  (z_len:bY (KK w.params) mainGlobals "len" = some none)
  (z_list:bY (KK w.params) mainGlobals "list" = some none)
  (z_max:bY (KK w.params) mainGlobals "max" = some none)
  (z_range:bY (KK w.params) mainGlobals "range" = some none)
  (z_sorted:bY (KK w.params) mainGlobals "sorted" = some none)
  (z_str:bY (KK w.params) mainGlobals "str" = some none)
  (z_tuple:bY (KK w.params) mainGlobals "tuple" = some none)
  (z_zip:bY (KK w.params) mainGlobals "zip" = some none) :
  ∃ fd:bP,(∀(s:ai)(v:ag),ii s fd ⟨[v],[]⟩ [("_law_script",v)])/\∀ base:aV,bT (KK w.params) base->base.Ns mainGlobals mg->yQ l.prog w K mg base CX0 10 fa fd ["_law_script"] (sp_law K):=by
 have e:=hfa.symm.trans (ay X G q60.1);cases e;have Z:Zs mg:=⟨bh X G z_ValueError,bh X G z_abs,bh X G z_all,bh X G z_any,bh X G z_bool,bh X G z_dict,bh X G z_int,bh X G z_isinstance,bh X G z_len,bh X G z_list,bh X G z_max,bh X G z_range,bh X G z_sorted,bh X G z_str,bh X G z_tuple,bh X G z_zip⟩;refine⟨bN "law" "law" (xW zM0) (xF zM0) (zG zM0) .none kV60 dc60 pm60 an60 cd60 ct60,λs v=>.of_eq rfl,λbase KB GB=>?_⟩;have CB:Cb l.prog w mg base:=cb_mk KB GB;have yCa:=yN l.prog w base X G q1 (λF=>zS6 F Z CB ) (λ_ _ _ _ _ _=>us2 λ_ _=>rfl);have yAh:=yN l.prog w base X G q2 (λF=>zEw F Z CB ) (λ_ _ _ _ _ _=>us2 λ_ _=>rfl);have yAn:=yN l.prog w base X G q3 (λF=>zEk F Z CB yCa yAh) (λ_ _ _ _ _ _=>us2 λ_ _=>rfl);have yBi:=yN l.prog w base X G q4 (λF=>zL0 F Z CB yAn) (λ_ _ _ _ _ _=>us1 λ_=>rfl);have yAm:=yN l.prog w base X G q5 (λF=>zEr F Z CB ) (λ_ _ _ _ _ _=>us0 rfl);have yBm:=yN l.prog w base X G q6 (λF=>zLf F Z CB ) (λ_ _ _ _ _ _=>us4 λ_ _ _ _=>rfl);have yBl:=yN l.prog w base X G q7 (λF=>zMw F Z CB ) (λ_ _ _ _ _ _=>us3 λ_ _ _=>rfl);have yBo:=yN l.prog w base X G q8 (λF=>zNk F Z CB ) (λ_ _ _ _ _ _=>us2 λ_ _=>rfl);have yAx:=yZ l.prog w base X G q9 (λF=>zGs F Z CB ) (λ_ _ _ _ _ _=>us1 λ_=>rfl);have yAu:=yZ l.prog w base X G q10 (λF=>zFp F Z CB ) (λ_ _ _ _ _ _=>us3 λ_ _ _=>rfl);have yAg:=yZ l.prog w base X G q11 (λF=>zEt F Z CB yBo) (λ_ _ _ _ _ _=>us1 λ_=>rfl);have yAz:=yZ l.prog w base X G q12 (λF=>zHh F Z CB yBo) (λ_ _ _ _ _ _=>us1 λ_=>rfl);have yAq:=yZ l.prog w base X G q13 (λF=>zFw F Z CB ) (λ_ _ _ _ _ _=>us2 λ_ _=>rfl);have yAo:=yZ l.prog w base X G q14 (λF=>zF9 F Z CB ) (λ_ _ _ _ _ _=>us2 λ_ _=>rfl);have yAb:=yZ l.prog w base X G q15 (λF=>zDd F Z CB ) (λ_ _ _ _ _ _=>us2 λ_ _=>rfl);have yBf:=yZ l.prog w base X G q16 (λF=>zHp F Z CB yBo) (λ_ _ _ _ _ _=>us1 λ_=>rfl);have yAk:=yZ l.prog w base X G q17 (λF=>zEu F Z CB ) (λ_ _ _ _ _ _=>us3 λ_ _ _=>rfl);have yAs:=yZ l.prog w base X G q18 (λF=>zG4 F Z CB yBm yAq yAg yAu yAx) (λ_ _ _ _ _ _=>us2 λ_ _=>rfl);have yAw:=yZ l.prog w base X G q19 (λF=>zGi F Z CB yAk yBm yAg yAo) (λ_ _ _ _ _ _=>us2 λ_ _=>rfl);have yAf:=yZ l.prog w base X G q20 (λF=>zDf F Z CB yBl yAo) (λ_ _ _ _ _ _=>us2 λ_ _=>rfl);have yAt:=yZ l.prog w base X G q21 (λF=>zGy F Z CB yBm yAq yBi yAg yAu yAx) (λ_ _ _ _ _ _=>us2 λ_ _=>rfl)
 have yAj:=yZ l.prog w base X G q22 (λF=>zEo F Z CB yBl) (λ_ _ _ _ _ _=>us2 λ_ _=>rfl);have yAy:=yZ l.prog w base X G q23 (λF=>zFj F Z CB yBm yAq yAz) (λ_ _ _ _ _ _=>us2 λ_ _=>rfl);have yAi:=yZ l.prog w base X G q24 (λF=>zEh F Z CB yBm yAz) (λ_ _ _ _ _ _=>us2 λ_ _=>rfl);have yAp:=yZ l.prog w base X G q25 (λF=>zGm F Z CB yBm yAq) (λ_ _ _ _ _ _=>us2 λ_ _=>rfl);have yAa:=yZ l.prog w base X G q26 (λF=>zCy F Z CB yAp yCa yBf yAo yAb) (λ_ _ _ _ _ _=>us2 λ_ _=>rfl);have yAl:=yZ l.prog w base X G q27 (λF=>zEi F Z CB yAp yAk yAo yAb) (λ_ _ _ _ _ _=>us2 λ_ _=>rfl);have yAe:=yZ l.prog w base X G q28 (λF=>zDq F Z CB yBl) (λ_ _ _ _ _ _=>us2 λ_ _=>rfl);have yBu:=yZ l.prog w base X G q29 (λF=>zQc F Z CB yAs yAw yAf yAt yAj yAy yAi yAa yAl yAe) (λ_ _ _ _ _ _=>us2 λ_ _=>rfl);have yBn:=zYv l.prog w base X G q31 (λF=>zKo F Z CB ) (λ_ _ _ _ _ _=>us1 λ_=>rfl);have yBs:=yN l.prog w base X G q32 (λF=>zQg F Z ) (λ_ _ _ _ _ _=>us1 λ_=>rfl);have yBw:=yN l.prog w base X G q33 (λF=>zQw F Z CB yBs) (λ_ _ _ _ _ _=>us2 λ_ _=>rfl);have yBt:=yN l.prog w base X G q34 (λF=>zQh F Z CB ) (λ_ _ _ _ _ _=>us2 λ_ _=>rfl);have yCe:=yN l.prog w base X G q35 (λF=>zVq F Z CB ) (λ_ _ _ _ _ _=>us0 rfl);have yBk:=yN l.prog w base X G q36 (λF=>zLs F Z CB ) (λ_ _ _ _ _ _=>us1 λ_=>rfl);have yCb:=yN l.prog w base X G q37 (λF=>zR1 F Z CB yBk) (λ_ _ _ _ _ _=>us2 λ_ _=>rfl);have yAr:=yN l.prog w base X G q38 (λF=>zF0 F Z CB ) (λ_ _ _ _ _ _=>us1 λ_=>rfl);have yCf:=yN l.prog w base X G q39 (λF=>zV0 F Z CB ) (λ_ _ _ _ _ _=>us3 λ_ _ _=>rfl);have yBq:=yN l.prog w base X G q40 (λF=>zNi F Z CB ) (λ_ _ _ _ _ _=>us2 λ_ _=>rfl);have yBa:=yN l.prog w base X G q41 (λF=>zHr F Z CB yBq yCf) (λ_ _ _ _ _ _=>us2 λ_ _=>rfl);have yAc:=yN l.prog w base X G q42 (λF=>zDj F Z CB yBa yCb) (λ_ _ _ _ _ _=>us3 λ_ _ _=>rfl);have yBj:=yN l.prog w base X G q44 (λF=>zKy F Z CB ) (λ_ _ _ _ _ _=>us1 λ_=>rfl);have yCd:=yN l.prog w base X G q45 (λF=>zT0 F Z CB ) (λ_ _ _ _ _ _=>us2 λ_ _=>rfl);have yBb:=yN l.prog w base X G q46 (λF=>zHf F Z CB yCd yBj) (λ_ _ _ _ _ _=>us2 λ_ _=>rfl);have yBh:=yN l.prog w base X G q48 (λF=>zJu F Z CB yCd) (λ_ _ _ _ _ _=>us2 λ_ _=>rfl);have yBe:=yN l.prog w base X G q49 (λF=>zHk F Z CB yBq) (λ_ _ _ _ _ _=>us2 λ_ _=>rfl)
 have yBz:=zTl l.prog w base X G q52 (λF b k m=>zRv F Z  b k m) (λ_ _ _ _ _ _=>us2 λ_ _=>rfl);have yBv:=yN l.prog w base X G q54 (λF=>zPt F Z CB ) (λ_ _ _ _ _ _=>us2 λ_ _=>rfl);have yBg:=yN l.prog w base X G q55 (λF=>zIz F Z CB ) (λ_ _ _ _ _ _=>us1 λ_=>rfl);have yAv:=yN l.prog w base X G q57 (λF=>zGa F Z CB ) (λ_ _ _ _ _ _=>us1 λ_=>rfl);have yBy:=yN l.prog w base X G q43 (λF=>zR6 F Z CB yCb yAc yAv yAr) (λ_ _ _ _ _ _=>us3 λ_ _ _=>rfl);have yAd:=yN l.prog w base X G q58 (λF=>zDw F Z CB ) (λ_ _ _ _ _ _=>us1 λ_=>rfl);have yBd:=yN l.prog w base X G q47 (λF=>zHq F Z CB yAd yCd yBj) (λ_ _ _ _ _ _=>us2 λ_ _=>rfl);have yCc:=yN l.prog w base X G q50 (λF=>zT7 F Z CB yBe yBh yBd yBb) (λ_ _ _ _ _ _=>us2 λ_ _=>rfl);have yCg:=yN l.prog w base X G q51 (λF=>zV1 F Z CB yCc) (λ_ _ _ _ _ _=>us2 λ_ _=>rfl);have h_b_init:=zBx l.prog w mg base q61 (λF=>zTu F Z CB yAm) (λ_ _ _ _ _ _=>us1 λ_=>rfl);have h_b_deeds:=zBx l.prog w mg base q73 (λF=>zQe F Z CB ) (λ_ _ _ _ _ _=>us1 λ_=>rfl);have h_b_marks:=zBx l.prog w mg base q74 (λF=>zPz F Z CB ) (λ_ _ _ _ _ _=>us1 λ_=>rfl);have h_b_banks:=zBx l.prog w mg base q75 (λF=>zQ0 F Z CB ) (λ_ _ _ _ _ _=>us1 λ_=>rfl);have h_b_runs:=zBx l.prog w mg base q76 (λF=>zSd F Z CB ) (λ_ _ _ _ _ _=>us1 λ_=>rfl);have h_b_notes:=zBx l.prog w mg base q77 (λF=>zPs F Z CB ) (λ_ _ _ _ _ _=>us1 λ_=>rfl);have h_b_coming:=zBx l.prog w mg base q78 (λF=>zNx F Z CB ) (λ_ _ _ _ _ _=>us1 λ_=>rfl);have yBp:=yN l.prog w base X G q56 (λF=>zNz F Z CB yBz h_b_notes h_b_coming h_b_runs yBg h_b_banks h_b_marks) (λ_ _ _ _ _ _=>us2 λ_ _=>rfl);have h_b_deed:=uR l.prog w mg base q72 (λF=>zTx F Z CB h_b_coming yBu) (λ_ _ _ _ _ _=>us2 λ_ _=>rfl);have yBx:=yN l.prog w base X G q53 (λF=>zQ7 F Z CB h_b_deed yBn) (λ_ _ _ _ _ _=>us2 λ_ _=>rfl);have h_b_mark:=uR l.prog w mg base q62 (λF=>zSv F Z CB h_b_deed) (λ_ _ _ _ _ _=>us4 λ_ _ _ _=>rfl);have h_b_move:=uR l.prog w mg base q63 (λF=>zUa F Z CB h_b_deed) (λ_ _ _ _ _ _=>us4 λ_ _ _ _=>rfl);have h_b_unmark:=uR l.prog w mg base q64 (λF=>zNy F Z CB h_b_deed) (λ_ _ _ _ _ _=>us2 λ_ _=>rfl);have h_b_bank:=uR l.prog w mg base q65 (λF=>zRw F Z CB h_b_deed) (λ_ _ _ _ _ _=>us3 λ_ _ _=>rfl);have h_b_level:=uR l.prog w mg base q66 (λF=>zP6 F Z CB h_b_deed) (λ_ _ _ _ _ _=>us2 λ_ _=>rfl);have h_b_sail:=uR l.prog w mg base q67 (λF=>zT6 F Z CB h_b_deed) (λ_ _ _ _ _ _=>us3 λ_ _ _=>rfl);have h_b_right:=uR l.prog w mg base q68 (λF=>zQy F Z CB h_b_deed) (λ_ _ _ _ _ _=>us4 λ_ _ _ _=>rfl);have h_b_bearing:=uR l.prog w mg base q69 (λF=>zMj F Z CB h_b_deed) (λ_ _ _ _ _ _=>us5 λ_ _ _ _ _=>rfl)
 have h_b_range_note:=uR l.prog w mg base q70 (λF=>zF1 F Z CB h_b_deed) (λ_ _ _ _ _ _=>us4 λ_ _ _ _=>rfl);have h_b_strike:=uR l.prog w mg base q71 (λF=>zMy F Z CB h_b_deed) (λ_ _ _ _ _ _=>us2 λ_ _=>rfl);have yBr:=yZ l.prog w base X G q30 (λF=>zM5 F Z CB h_b_strike h_b_range_note h_b_bearing h_b_right h_b_sail h_b_level h_b_bank h_b_unmark h_b_move h_b_mark) (λ_ _ _ _ _ _=>us2 λ_ _=>rfl);have yBc:=yN l.prog w base X G q59 (λF=>zHm F Z CB yBr yBn) (λ_ _ _ _ _ _=>us2 λ_ _=>rfl);exact yg5 (zUs q60) Z CB yBz h_b_deeds yBp yBv yBc yBx yCg yBy yCe h_b_init yBt yBw
theorem walk{l:iE}{q:aK}{loose:List aA}{XP:(aA->Option ag)->aV->Prop}{YP:aT->aV->Prop}{d:DefRec}(hn:l.most=some 63)(hdf:d.params.defaults=[])
  (hY:∀(w:aT)(h:aV),YP w h->bT (KK w.params) h)
  (F:∀(w:aT)(mg:aA->Option ag)(fa:af)(h:aV),bT (KK w.params) h->h.Ns mainGlobals mg->mg d.name=some (.ref fa) ->
   ∃ fd:bP,(∀(s:ai)(u:ag),ii s fd ⟨[u],[]⟩ [("_law_script",u)])/\∀ base:aV,bT (KK w.params) base->base.Ns mainGlobals mg->yQ l.prog w K mg base CX0 10 fa fd ["_law_script"] (sp_law K)) :
  mv q loose XP YP l.row.toRowW d [] (λf vs=>lq f vs) :=
 L2.walk_of3 (n:=63) (k:=10) (x := "_law_script") (KK:=KK) (K:=K) (sp:=sp_law K) hn (by decide) hdf ⟨rfl,by decide,by decide,rfl⟩ hY (λ_ _ X=>K_in X) (λp a o h c=>by rw[zTp]; exact zRr (F:=KF p) (by kernel_rfl) h c) F (λ_ a ns hl hS=>⟨a,ns,rfl,hS,hl,λ_=>rfl⟩)

end Sea
open PySem PySem.W PyProof.Rows
set_option maxRecDepth 100000 in
set_option maxHeartbeats 0 in
theorem PySem.Challenge.cw_seamarks_k36_methods_do_their_deeds_holds : PySem.Challenge.rw_seamarks_k36_methods_do_their_deeds.Holds := by
 w_on
 refine holds_law Sea.said_ok λsaid=>?_;refine holds_open (q:=Sea.qv) (loose:=Sea.lse) (XP:=XL Sea.qv []) (YP:=InK Sea.KK) Sea.left_ok (InK.of Sea.kas_ok)
  InK.keeps (λs e=>xl_of s (i7.mp e).1) XL.keeps (by rfl) (by rfl) (by rfl)
  (λs e=>recFacts_of (i7.mp e).2) (by rfl) (by assumption) (by decide +kernel)
  ⟨rfl,rfl,rfl,rfl,rfl,by decide +kernel⟩ ?hw ?hc
 case hw=>w_witness2
 k_fill
 refine Sea.walk (l:=PySem.Challenge.rw_seamarks_k36_methods_do_their_deeds) rfl rfl (λw h Y=>Y) ?F
 case F =>
  intro w mg fa h KX G hmg
  refine' Sea.all_mk KX G hmg ?q1 ?q2 ?q3 ?q4 ?q5 ?q6 ?q7 ?q8 ?q9 ?q10 ?q11 ?q12 ?q13 ?q14 ?q15 ?q16 ?q17 ?q18 ?q19 ?q20 ?q21 ?q22 ?q23 ?q24 ?q25 ?q26 ?q27 ?q28 ?q29 ?q30 ?q31 ?q32 ?q33 ?q34 ?q35 ?q36 ?q37 ?q38 ?q39 ?q40 ?q41 ?q42 ?q43 ?q44 ?q45 ?q46 ?q47 ?q48 ?q49 ?q50 ?q51 ?q52 ?q53 ?q54 ?q55 ?q56 ?q57 ?q58 ?q59 ?q60 ?q61 ?q62 ?q63 ?q64 ?q65 ?q66 ?q67 ?q68 ?q69 ?q70 ?q71 ?q72 ?q73 ?q74 ?q75 ?q76 ?q77 ?q78 ?z_ValueError ?z_abs ?z_all ?z_any ?z_bool ?z_dict ?z_int ?z_isinstance ?z_len ?z_list ?z_max ?z_range ?z_sorted ?z_str ?z_tuple ?z_zip
  (case q61 | q62 | q63 | q64 | q65 | q66 | q67 | q68 | q69 | q70 | q71 | q72 | q73 | q74 | q75 | q76 | q77 | q78=>refine' Sea.atm_mk ⟨?b,?c,?d⟩;(case b=>exact rfl);(case c=>kernel_rfl);(case d=>kernel_rfl))
  (case q60=>refine'⟨?_,?_,?_,?_⟩; k_is; exact rfl; kernel_rfl; kernel_rfl)
  (case q1 | q2 | q3 | q4 | q5 | q6 | q7 | q8 | q9 | q10 | q11 | q12 | q13 | q14 | q15 | q16 | q17 | q18 | q19 | q20 | q21 | q22 | q23 | q24 | q25 | q26 | q27 | q28 | q29 | q30 | q31 | q32 | q33 | q34 | q35 | q36 | q37 | q38 | q39 | q40 | q41 | q42 | q43 | q44 | q45 | q46 | q47 | q48 | q49 | q50 | q51 | q52 | q53 | q54 | q55 | q56 | q57 | q58 | q59=>refine' Sea.at_mk ⟨?a,?b,?c,?d⟩;(case a=>k_is);(case b=>exact rfl);(case c=>kernel_rfl);(case d=>kernel_rfl))
  (case z_ValueError | z_abs | z_all | z_any | z_bool | z_dict | z_int | z_isinstance | z_len | z_list | z_max | z_range | z_sorted | z_str | z_tuple | z_zip=>k_is)
