import PyProof.Rows.All
import Wide.All
import OpenK.AllK
import Wide.FinOn
import Lean
import PyProof.EqAt
import PyProof.EqKinds
import PyProof.TupleCall
import PyProof.ZipIter
import PyProof.Rows.ZipGen
import PyProof.EnumFor
import PyProof.EnumStmt
import KE.KSortTup
import KE.KDictList
import KE.KItemsList
import KE.KTryMore
import PyProof.Rows.TopTwo
import PyProof.ExcBaseAll.ValueError
import PyProof.ExcAttrAll.ValueError
import KE.KRevIter
import KE.KEqDict
import KE.KRevSl
import PySem.Challenge.RW_seamarks_k38_whole_twins_apart
set_option Elab.async false
set_option linter.all false
set_option maxRecDepth 100000
set_option maxHeartbeats 4000000
theorem nabs{a:Int}{n:Nat} : a.natAbs<=n↔-(n:Int)<=a/\a<=n:=by omega
local macro_rules | `(tactic| lia) => `(tactic| first | (simp only [nabs] at *; lia (config := {})) | lia (config := {}) | omega)
local macro_rules | `(tactic| exists $es,*) => `(tactic| refine ⟨$es,*, ?_⟩)
open PySem renaming wpAny_bind->ac,Addr->b9,Value->c7,Shared->d3,wpAny_pure->d7,Str->g8,Program->j9,World->n9,Heap->o0,wpAny_newObj_type->t6,Expr->w4,Around->Ac,wpAny_field->Af,Stmt->Ag,wpAny_callSpecial?_slot->Ap,FuncData->Aq,wpAny_call_entry->Ar,wpAny_holding->Aw,wpAny_truthy_bool->AG,Obj->AM,wpAny_seqItems->A5,wpAny_mono->Ba,wpAny_Call_Name_kw->Bb,wpAny_setField->Bi,wpAny_typeNameOfWhole_keyiter->Bj,DictEntry->Bk,mem_of_lookup->Bt,wpAny_setField_rec->Bz,wpAny_passesOwn->BH,wpAny_pyIter_list->BL,wpAny_attempt->BP,wpAny_typeNameOf_keyiter->BQ,wpAny_getItem_str_slice->BW,Params->B8,ofString_length->Cd,NameKind->Ch,wpAny_of_eq->Cj,IsPair->Ck,Builtin->Cn,Pos->Co,evalArgs_none->Cw,wpAny_execs_nil->CH,Scope->CL,wpAny_Call_method->CU,wpAny_isOneOf_keyiter->CY,wpAny_isInstance->C2,wpAny_standAt->C4,wpAny_updateSeq_pair->C9,Env->Do,OsState->Dr,wpAny_rule->DA,wpAny_pyIter_tuple->DC,wpAny_call->DE,wpAny_newFunctionEnv_cells->DF,wpAny_fieldsOf->DH,wpAny_FormattedValue_plain->DJ,Keyword->DV,wpAny_dictEntries->DY,wpAny_comprehension_free->D5,wpAny_onRaise->D6,slot_listiter_next->D7,IsZip->Eb,wpAny_pyNext_list_item->Em,BindsTo->Ep,wpAny_dictEpoch->EG,wpAny_isTrue_Compare1->EO,wpAny_pyIter_listiter->EQ,wpAny_formatField_int->EU,wpAny_newFunctionEnv->E6,wpAny_pyIter_revIter->E9,wpAny_handled->Fm,wpAny_newList->Fp,IsPart->Fx,Within->FG,wpAny_pyIter_slot->FS,wpAny_eqBool_int->F4,wpAny_eqBool_str->F5,Paired->F6,wpAny_execs_cons->F7,wpAny_pyIter_zip->Gh,wpAny_getItem_of->Gk,CmpOp->Gu,wpAny_throw->Gx,wpAny_letGo->Gy,wpAny_specialOf->GE,wpAny_Name->GI,call->GM,Sem->GW,Model->HG,Tok->Ij
open List renaming length_map->a7,getElem?_eq_getElem->d4,mem_singleton->d8,getElem?_map->e7,toArray->f7,length_append->f8,getElem?_eq_some_iff->g9,size_toArray->i0,mem_map->i4,mem_cons->i7,map_append->i8,mem_of_getElem?->j5,length_take->j8,map_cons->l9,mem_append->m7,length_cons->m9,mem_append_right->o6,length_drop->p8,lookup_cons->p9,replicate->t9,map_map->v7,take_succ->w6,getD_eq_getElem?_getD->w9,take_of_length_le->Ab,mem_cons_of_mem->Ad,lookup->Ae,all_eq_true->Ah,not_mem_nil->Ai,range->Aj,take_length->Am,find?_cons->As,length_nil->Ax,getElem?_append_right->Ay,mem_range->Az,filterMap_cons_some->AD,length_reverse->AE,getElem?_eq_none->AF,mem_cons_self->AK,length_replicate->AQ,any_cons->AT,filterMap_cons_none->AV,mem_of_mem_drop->AY,filterMap_cons->A6,getElem?_append_left->A7,zipIdx_cons->Bc,length_range->Bm,append_nil->Bq,length_zip->Bs,length->Bv,getElem_mem->Bw,nodup_iff_pairwise_ne->BA,length_singleton->BC,length_filter_le->BD,mem_filter->BG,mem_append_left->BJ,find?_eq_none->BZ,drop_eq_nil_of_le->B2,nodup_cons->B5,getElem?_zip_eq_some->Ct,all_cons->CD,mem_filterMap->CI,getElem?_replicate->CM,length_eq_zero_iff->CO,getElem?_set_self->CP,map_nil->CT,getElem?_reverse->CZ,any_eq_true->C1,map_take->C5,replicate_succ'->Dc,mem_of_mem_take->Dd,of_mem_zip->De,length_set->Df,replicate_succ->Dq,getElem?_take->DI,getElem?_eq_none_iff->DM,snd_lt_of_mem_zipIdx->DO,mem_or_eq_of_mem_set->DP,ext_getElem?->DX,filter_congr->D1,getElem_inj->D9,filter_cons_of_neg->Ee,filter_cons_of_pos->Ef,ext_getElem->Eg,map_fst_zip->Ej,length_tail->Ek,all_nil->Ex,forIn_cons->ED,filter_map->EI,range_succ->EJ,all_append->EN,filterMap_append->ET,mem_iff_getElem?->EV,eq_nil_or_concat->EY,concat_eq_append->EZ,getElem?_set_ne->E4,getElem_toArray->E7,getElem_of_mem->Ff,filter_sublist->Fh,map_congr_left->Fj,map_drop->Fo,filter_append->FF,any_eq_false->FH,flatten_cons->FP,pairwise_map->FT,all_map->FU,nodup_append->F2,append_assoc->F3,cons_append->Gi,filter_cons->Gj,nodup_range->Gn,map_snd_zip->Go,append_inj'->Gq,zipIdx_nil->GD,forIn_nil->GO,drop_zero->GR,sum_cons->Hy
open PySem.W renaming Frag->b7,mg_of->g6,mg_none_of->p6,fnOf->An,nsIn->Ao,keepIn->Au,findIn->AA,kia_one->AB,emptyDict->AN,kitOne->AS,instObj->Bo,callWith_K->Bx,methodCall_KW->Cc,codeIn->Ci,callWith_K0->Cv,cellsFrom_some->CQ,plainGet->C0,plainGet_of->Dp,lookIn->DD,methodObj->DS,hasDictIn->DT,specialIn->DU,hideAll->Ez,takerIn->EC,OpenLaw->EK,hideAll_get->Fe,of_hideAll->Ft,codeRec_of->Fw,isFn->FI,plainOver->FJ,kitx_list->FK,kitx_dict->FL,handedIn->F8,makesIn->Gz,takesIn->GA,exmOne->GS,KasT->GT,mroIn->Hu,WalkO->HD,SharedT->HM
open PySem.Heap renaming get?_push_of_some->c9,get?_push_size->d9,lt_size->f9,get?_update_other->o8,get?_update_self->AR,SameBut->A3,size_push->Bh,ExtBut->CN,get?_none_of_le->C6,get?_push_ne->F0,MadeExcOf->GQ
open PySem.F renaming excBase_ValueError->d5,slot_dict_keyiterator_next->AW,slot_tuple_iterator_next->By,slot_dict_getitem->Cs,slot_dict_items->CW,args_dict_keyiterator_next_1->C3,entry_dict_keyiterator_next->Da,slot_dict_itemiterator_iter->Db,args_tuple_iterator_next_1->Dh,slot_zip_next->Di,entry_tuple_iterator_next->Dv,slot_dict_delitem->DN,plainAttrs_dict->DZ,plainAttrs_list->Ec,plainAttrs_str->Ey,slot_dict_pop->ER,slot_str_join->EW,type_str_join->EX,args_dict_items_1->Fg,slot_dict_values->FC,entry_dict_items->FD,args_zip_next_1->FR,type_dict_items->FV,attr_ValueError->FW,entry_zip_next->Gg,slot_dict_iter->Gm
open Nat renaming le_refl->d6,le_of_ble_eq_true->g7,le_trans->j7,ne_of_lt->l6,lt_of_lt_of_le->m5,zero_le->t7,lt_irrefl->Be,lt_trans->Bf,le_of_lt->BI,le_succ->BM,ne_of_gt->BX,gcd->Cp,lt_of_le_of_lt->CJ,not_lt_zero->Dk,add_le_add->DL,lt_succ_self->Ea,le_of_eq->En,zero_add->Ev,lt_of_succ_lt_succ->Ew,add_le_add_right->Fc,mul_comm->FQ,lt_succ_of_lt->F1,le_of_not_lt->Gc,succ_ne_self->Ge,min_eq_right->Gp,log2_lt->Gw,min_eq_left->GF,dvd_trans->Hv,mul_assoc->Hw,le_of_dvd->Hx,succ_mul->HQ
open Classical renaming not_not->e9,byContradiction->Cu
open Bool renaming false_ne_true->h9,and_eq_true->p5,false_eq_true->AX,eq_iff_iff->B4,or_eq_false_iff->Cm,false_and->DB,eq_false_iff->DW,and_true->D8,or_eq_true->EF,and_eq_true_iff->Fd,or_false->Fl,true_and->Fq,and_false->GL,true_or->HS
open PySem.Value renaming ref->i9,none->r9,str->AO,int->BF,builtin->CG,bool->El,float->E3,bytes->Gs,type->GH,isStrOf->Hg,isInt->HW
open Option renaming map_eq_some_iff->j6,isSome_iff_exists->k9,isSome_map->Av,map_some->B6,bind_eq_some_iff->Eh,map_eq_none_iff->Eu,getD_none->Ga,toList->HE,none->HY
open PySem.Str renaming ofString->l5,join->Ed,empty->HI
open Int renaming emod_lt_of_pos->o7,emod_nonneg->w5,toNat_natCast->AH,eq_ofNat_of_zero_le->AI,mul_assoc->BO,natAbs_mul_self->Cy,natCast_nonneg->CK,mul_ne_zero->Dg,le_of_lt->Er,mul_comm->Es,mul_nonneg->E5,mul_neg->Gv,natAbs_mul->GN,natAbs_neg->GV,zero_mul->HR,zero_add->HU
open Option.some renaming inj->o9,injEq->D0
open PyProof.Rows renaming OwnCls->p7,callWith_type1->AZ,slot_tuple_getitem->BR,AllBare->Du,SortKind->FZ,callWith_builtin1->F9,IntsAre->GG,Subscript_->GK,Keyed->GP,IsTup->HF
open True renaming intro->t5
open PySem.Builtin.SmallTypes renaming nextOf->x8,ownedTupleIsFree->AU,ownedTupleHandOut->CA
open False renaming elim->x9
open PySem.NameKind renaming free->Aa,cell->B7
open Array renaming length_toList->Ak,getElem?_eq_getElem->A8,getElem?_eq_some_iff->BB,getElem?_eq_none->BY,getElem?_toList->Ca,mem_toList_iff->C7,toArray_toList->E8,all_eq_true'->FE,getD->GU,toList->HN
open PySem.Obj renaming mapSeq->Al,data_mapFields->AL,isFreed_of_fields->A9,mapFields->Bg,cls_mapFields->Cf
open PySem.W.Frag renaming In->At
open PySem.PassesOwn renaming never->AC,leaving->D4
open Ne renaming symm->AJ
open Or renaming inl->A4,inr->Gd
open ForInStep renaming yield->Br
open PySem.Builtin.Str renaming strSliceIndices->Bu,glued->CV,occurrences->Ei
open PySem.Builtin.Slice renaming slicePlaces->BE,sliceAdjust->Cr,sliceApplied->DG,slicePartIndex->GC,sliceFields->He
open PySem.Builtin.Tuple renaming tupleExact->BN,tupleItemsOf->GJ
open Sum renaming inl->BU,inr->BV
open PySem.World renaming withFollow_self->B9
open PySem.W.Fast renaming te14364793385576792824->Ce,te2368527892694137696->Cg,te5923862056798008813->Dy
open PySem.Txt renaming slice->Cq,slice_le->Et
open PySem.Heap.SameBut renaming update->Cz
open PySem.Builtin.List renaming listTooLong->CF
open PySem.Calls renaming callWith_builtin->CS,evalArgs_plain->C8,Name_function_global->Dz,call_function_entry->DQ,Constant_str->Fu,spliced_cons->Fv,spliced_nil->FN
open PySem.Builtin.Dict_items renaming ownsTuple->Dj
open PySem.PyData renaming shownAll->Dl,keyHash->Dx,showableAll->DK,hasDictAll->D3,showable->EL,depthAll->EM,hasDict->Fb,shown->FX,depth->FY
open PySem.StrLaws renaming glued_eq_join->Dw,reprText_len->Fa,joinTotal->HJ
open PySem.Around renaming under->Eo
open List.cons renaming injEq->EH
open PySem.Builtin.Dict renaming showsAll->ES,dictSlotNone->Hf
open PySem.EntryCells renaming newEntry->Fi
open PySem.Paired renaming length->Fk,snoc->Ia
open PySem.SeqAt.EqAt renaming int_str->Fr,str_int->Fs,int_int->Fz,str_str->FA
open PySem.SeqAt renaming EqAt->Fy,in_tupleAt->Gb
open PySem.Code renaming isFrame->FM,isGuard->HP,frames->HX
open Prod renaming ext->FO
open PySem.Heap.IsList renaming push->Gf
open Sum.inr renaming inj->Gr
open PySem.EqNone renaming eq_none_none->GX,eq_none_bool->GY,eq_bool_none->GZ,ne_none_none->G9,ne_none_bool->Ha,ne_bool_none->Hb,eq_none_int->Hh,eq_none_str->Hi,eq_int_none->Hj,eq_str_none->Hl,ne_none_int->Hn,ne_none_str->Ho,ne_int_none->Hq,ne_str_none->Hs
open PySem.EqMixed renaming eq_bool_str->G0,eq_str_bool->G8,ne_bool_str->Hc,ne_str_bool->Hd,eq_int_str->Hk,eq_str_int->Hm,ne_int_str->Hr,ne_str_int->Ht
open List.Pairwise renaming imp_of_mem->HA,nil->Ii
open PySem.Builtin.Range renaming rangeSize->HH
open PySem.Heap.UpToSlots renaming of_keeps->HK
open PySem.W.SharedT renaming abs->HV
open PySem.Shared renaming heap->HZ
open PySem.W.Looks renaming here->Ib,ld->Im
open PySem.Heap.IsSliceOf renaming new->Ic
open PySem.W.WShape renaming has->Ie
open PySem.Walks renaming list->Ig
open PySem.Within renaming cons->Ih
open PyProof.Rows.IsTup renaming new->Ik
open PySem.W.WData renaming int->Il
theorem U{α:Sort _}{a:α}:a=a:=rfl
open Option renaming some->Io,none->Ip
open Bool renaming true->Iq,false->Ir
local macro_rules | `(tactic| rwa [$e:term]) => `(tactic| exact $e)
local macro_rules | `(tactic| rwa [$e:term, $[$es:term],*]) => `(tactic| exact ⟨$e, $es,*⟩)
local macro_rules | `(tactic| erw [$e:term]) => `(tactic| refine $e)
local macro_rules | `(tactic| erw [$e:term, $[$es:term],*]) => `(tactic| refine ⟨$e, $es,*⟩)
namespace L2
open PySem
def wC(s:Ag):Arguments:=match s with
 | .FunctionDef _ a _ _ _ _ _ _ _ _=>a
 | _=>{ posonlyargs:=[],args:=[],vararg:=Ip,kwonlyargs:=[],kw_defaults:=[],kwarg:=Ip,defaults:=[] }
def xJ(s:Ag):List Ag:=match s with
 | .FunctionDef _ _ b _ _ _ _ _ _ _=>b
 | _=>[]
def zJ(s:Ag):CL:=match s with
 | .FunctionDef _ _ _ _ _ _ sc _ _ _=>sc
 | _=>{ kind:=.function,names:=[],isGenerator:=Ir,isCoroutine:=Ir }
def vF(s:Ag)(j:Nat):Ag:=match s with
 | .ClassDef _ _ _ body _ _ _ _ _ _ _=>body.getD j (.Pass ⟨0,0,0,0⟩)
 | _=>.Pass ⟨0,0,0,0⟩
end L2
namespace PySem.W
open PySem
noncomputable def kM(tb:String->Option Cn)(p:j9)(w:n9)(n₀:Nat)(ann:Option c7):Nat->HM->Thread->Option HM
 | 0,_,_=>Ip
 | n+1,s,t=>match through t with
  | true=>Io s
  | false=>match Fast.tw6613529449190102663 n₀ ann t with
   | false=>Ip
   | true=>match Fast.tw10156331382660048174 (Fast.tw11892475500146522536 tb) p w s t with
    | some (s',t')=>kM tb p w n₀ ann n s' t'
    | none=>Ip
def jS{tb:String->Option Cn}{p:j9}{w:n9}{n₀:Nat}{ann:Option c7} : ∀{n:Nat}{s s':HM}{t:Thread},kM tb p w n₀ ann n s t=Io s'->topRun tb p w n₀ ann n s.abs t=Io s'.abs
 | 0,_,_,_,h=>by cases h
 | n+1,s,s',t,h=>by
  unfold kM at h;rw[<- Fast.te6613529449190102663,<- Fast.te10156331382660048174,<- Fast.te11892475500146522536] at h;unfold topRun;cases he:through t with
  | true=>rw[he] at h; cases h; rfl
  | false =>
   rw[he] at h;cases hk:stepOk n₀ ann t with
   | false=>rw[hk] at h; cases h
   | true =>
    rw[hk] at h;cases hs:stepT (denote tb) p w s t with
    | none=>rw[hs] at h; cases h
    | some r=>obtain⟨s₂,t₂⟩:=r; rw[hs] at h; rw[stepT_spec hs]; rwa[jS h]
noncomputable def VZ(P:B8):BT:=((boot_heap P).objs.toList.zipIdx).foldl (λt x=>t.ins x.2 x.1) .nil
def Xb(P:B8):absHeap (VZ P) 11 (boot_heap P).life=boot_heap P:=by kernel_rfl
def bK(P:B8):((boot_heap P).isNs mainGlobals,(boot_heap P).objs.size,(boot_heap P).nsMap mainGlobals "__annotations__")=(Iq,11,Io (.ref 6)):=by kernel_rfl
noncomputable abbrev TW(tb:String->Option Cn)(p:j9)(N:Nat)(w:n9)(os:Dr):Option HM:=kM tb p w 11 (Io (.ref 6)) N ⟨VZ w.params,11,(boot_heap w.params).life,#[],boot_drawn,boot_toks,os⟩ (topStub p)
def YU{α β γ:Type}{x:Option α}{f:α->β×γ}{a:β}{b:γ}(h1:x.map (λs=>(f s).1)=Io a)(h2:x.map (λs=>(f s).2)=Io b):x.map f=Io (a,b):=by
 cases x with
 | none=>cases h1
 | some s =>
  injection h1 with h1
  injection h2 with h2
  subst h1 h2;rfl
def Zo{p q:j9}{loose:List g8}{Xt:d3->Bool}{α:Type}{Yf:d3->α}{Ya:n9->α}{N:Nat}
  (open_:∀ w:n9,(fencedOpening treeTable p w N).map (λs=>(s.heap,s.gens,s.drawn,s.toks))=Io (boot_heap w.params,Array.mk [],boot_drawn,boot_toks))
  (h1:∀ w os,(TW treeTable p N w os).map (λs=>(staticsOk (importedModules p.main.body) (boot_heap w.params) s.abs.heap&&namesBound p s.abs.heap&&gensDone s.abs&&laidKept (boot_heap w.params) s.abs.heap))=Io Iq)
  (h2:∀ w os,(TW treeTable p N w os).map (λs=>openSeen q loose (importedModules p.main.body) Xt Iq s.abs)=Io (openGood q loose))
  (h3:∀ w os,(TW treeTable p N w os).map (λs=>Yf s.abs)=Io (Ya w)):LeftO p q loose Xt Yf Ya N:=λw=>by
 obtain⟨⟨h,gs,d,k,os⟩,e,e'⟩:=j6.mp (open_ w);obtain⟨rfl,rfl,rfl,rfl⟩:h=boot_heap w.params/\gs = #[]/\d=boot_drawn/\k=boot_toks:=by simpa using e'
 obtain⟨z1,z2,z3⟩ : _/\_/\_:=by simpa only[Prod.mk.injEq] using bK w.params
 obtain⟨s,r1,l1⟩:=j6.mp (h1 w os);obtain⟨s',r2,l2⟩:=j6.mp (h2 w os);obtain⟨s'',r3,l3⟩:=j6.mp (h3 w os);rw[r1] at r2 r3;cases r2;cases r3;have r:=jS r1;rw[show HV ⟨VZ w.params,11,(boot_heap w.params).life,#[],boot_drawn,boot_toks,os⟩=⟨boot_heap w.params,#[],boot_drawn,boot_toks,os⟩ from by unfold HV; rw[Xb]] at r;have t:topFrom treeTable p w N ⟨boot_heap w.params,#[],boot_drawn,boot_toks,os⟩=Io s.abs:=by
  unfold topFrom;dsimp only;rw[z1,z2,z3,r];show(match staticsOk (importedModules p.main.body) (boot_heap w.params) s.abs.heap&&namesBound p s.abs.heap&&gensDone s.abs&&laidKept (boot_heap w.params) s.abs.heap with | true=>_ | false=>_)=_;rw[l1]
 unfold openEnds;rw[e];show(topFrom treeTable p w N _).map _=_;rw[t];show Io (_,_)=_;rw[l2,l3]
end PySem.W
namespace Sea
open PySem L2
def top(i:Nat):Stmt:=PySem.Challenge.pw_seamarks_k38_whole_twins_apart.main.body.getD i (.Pass ⟨0,0,0,0⟩)
abbrev pB:Ag:=top 2
abbrev uT:Ag:=top 4
abbrev uO:Ag:=top 5
abbrev qV:Ag:=top 6
abbrev uR:Ag:=top 31
abbrev qO:Ag:=top 32
abbrev qW:Ag:=top 33
abbrev xu:Ag:=top 34
abbrev vK:Ag:=top 35
abbrev vQ:Ag:=top 36
abbrev uJ:Ag:=top 37
abbrev tW:Ag:=top 38
abbrev vO:Ag:=top 39
abbrev vS:Ag:=top 40
abbrev wO:Ag:=top 41
abbrev tS:Ag:=top 42
abbrev uL:Ag:=top 43
abbrev vM:Ag:=top 44
abbrev vV:Ag:=top 45
abbrev wR:Ag:=top 46
abbrev vN:Ag:=top 47
abbrev uX:Ag:=top 48
abbrev vP:Ag:=top 49
abbrev uI:Ag:=top 50
abbrev vR:Ag:=top 51
abbrev wK:Ag:=top 52
abbrev uP:Ag:=top 53
abbrev wV:Ag:=top 54
abbrev uz:Ag:=top 56
abbrev uf:Ag:=top 60
abbrev uh:Ag:=top 61
abbrev uu:Ag:=top 62
abbrev kU:Ag:=top 63
abbrev vz:Ag:=top 64
abbrev qP:Ag:=top 65
abbrev pO:Ag:=top 66
abbrev qR:Ag:=top 67
abbrev pF:Ag:=top 68
abbrev vI:Ag:=top 69
abbrev lX:Ag:=top 70
abbrev xo:Ag:=top 71
abbrev tV:Ag:=top 72
abbrev wU:Ag:=top 73
abbrev pK:Ag:=top 74
abbrev qN:Ag:=top 75
abbrev pJ:Ag:=top 76
abbrev tQ:Ag:=top 77
abbrev tP:Ag:=top 78
abbrev rB:Ag:=top 79
abbrev tX:Ag:=top 80
abbrev pH:Ag:=top 81
abbrev lT:Ag:=top 82
abbrev pE:Ag:=top 83
abbrev vw:Ag:=top 84
abbrev pX:Ag:=top 85
abbrev rD:Ag:=top 86
abbrev xt:Ag:=top 87
abbrev qY:Ag:=top 88
abbrev vU:Ag:=top 89
abbrev wQ:Ag:=top 90
abbrev fw:Ag:=top 91
abbrev pT:Ag:=vF (top 58) 0
abbrev pS:Ag:=vF (top 58) 11
abbrev pC:Ag:=vF (top 58) 12
abbrev pU:Ag:=vF (top 58) 13
abbrev pW:Ag:=vF (top 58) 14
abbrev va:Ag:=vF (top 58) 15
abbrev xv:Ag:=vF (top 58) 16
abbrev pV:Ag:=vF (top 58) 17
abbrev ue:Ag:=vF (top 58) 18
abbrev uy:Ag:=vF (top 58) 19
abbrev pP:Ag:=vF (top 58) 20
abbrev vh:Ag:=vF (top 58) 21
abbrev xq:Ag:=vF (top 58) 22
noncomputable def qv:Program:={ PySem.Challenge.pw_seamarks_k38_whole_twins_apart with main:={ PySem.Challenge.pw_seamarks_k38_whole_twins_apart.main with body:=[top 2,top 4,top 5,top 6,top 31,top 32,top 33,top 34,top 35,top 36,top 37,top 38,top 39,top 40,top 41,top 42,top 43,top 44,top 45,top 46,top 47,top 48,top 49,top 50,top 51,top 52,top 53,top 54,top 56,top 60,top 61,top 62,top 63,top 64,top 65,top 66,top 67,top 68,top 69,top 70,top 71,top 72,top 73,top 74,top 75,top 76,top 77,top 78,top 79,top 80,top 81,top 82,top 83,top 84,top 85,top 86,top 87,top 88,top 89,top 90,top 91] } }
def lse:List g8:=("_wall" : g8)::("MarkError" : g8)::("BadName" : g8)::("Taken" : g8)::("BadPlace" : g8)::("Full" : g8)::("NoMark" : g8)::("Same" : g8)::("Needed" : g8)::("BadBank" : g8)::("NoBank" : g8)::("BadRun" : g8)::("NoRun" : g8)::("NoMoment" : g8)::("BadWay" : g8)::("BadTurn" : g8)::("NoNote" : g8)::("NothingLeft" : g8)::("BadRow" : g8)::("MOST" : g8)::("LONGEST_NAME" : g8)::("FARTHEST" : g8)::("LONGEST_WAY" : g8)::("AFTER" : g8)::("Book" : g8)::[]
noncomputable def kd(P:B8)(x:g8)(t:Nat)(v:c7):Bk:=⟨Dx P x,.str x t,v⟩
noncomputable def kc(l:List c7):AM:=⟨.type "code",Ip,.fields (f7 l),f7 []⟩
noncomputable def kq(x:g8)(a:Nat)(l g:Int)(r:Nat)(u v w y z:c7)(h:Int)(b:Nat):AM:=kc [.str x a,.str x (a+1),.str "/claim/cut.py" (a+2),.int l 0,.int g 0,.int 0 0,.int 0 0,.int 3 0,.ref r,.bool Iq,.int 181 0,u,v,w,y,z,.int h 0,.int l 0,.str "/claim/cut.py" b]
noncomputable abbrev kf(x:g8)(s:Ag)(kV doc pm cd ct:c7):AM:=⟨.type "function",Ip,.func (An x x (wC s) (xJ s) (zJ s) .none kV doc pm Ip cd ct),f7 []⟩
noncomputable abbrev kg(x:g8)(s:Ag)(m:g8)(t c:Nat):AM:=kf x s .none .none (.str m t) (.ref c) .none
noncomputable abbrev kf2(x q:g8)(s:Ag)(kV doc pm cd ct:c7):AM:=⟨.type "function",Ip,.func (An x q (wC s) (xJ s) (zJ s) .none kV doc pm Ip cd ct),f7 []⟩
noncomputable def kNs(P:B8):AM:=⟨.type "dict",Ip,.dict (f7 (kd P "__name__" 165 (.str "law_seamarks_k38_whole_twins_apart" 1001)::kd P "__doc__" 166 .none::kd P "__package__" 167 .none::kd P "__loader__" 168 (.builtin "__main__.__loader__#opaque")::kd P "__spec__" 169 .none::kd P "__annotations__" 170 (.ref 6)::kd P "__builtins__" 171 (.ref 4)::kd P "__file__" 173 (.str "/claim/cut.py" 172)::kd P "__cached__" 174 .none::kd P "_wall" 193 (.ref 21)::kd P "turn" 203 (.ref 28)::kd P "stretch_way" 213 (.ref 35)::kd P "all_left_of" 225 (.ref 42)::kd P "is_bank" 231 (.ref 47)::kd P "MarkError" 251 (.ref 57)::kd P "BadName" 267 (.ref 70)::kd P "Taken" 283 (.ref 82)::kd P "BadPlace" 299 (.ref 94)::kd P "Full" 315 (.ref 106)::kd P "NoMark" 331 (.ref 118)::kd P "Same" 347 (.ref 130)::kd P "Needed" 363 (.ref 142)::kd P "BadBank" 379 (.ref 154)::kd P "NoBank" 395 (.ref 166)::kd P "BadRun" 411 (.ref 178)::kd P "NoRun" 427 (.ref 190)::kd P "NoMoment" 443 (.ref 202)::kd P "BadWay" 459 (.ref 214)::kd P "BadTurn" 475 (.ref 226)::kd P "NoNote" 491 (.ref 238)::kd P "NothingLeft" 507 (.ref 250)::kd P "BadRow" 532 (.ref 269)::kd P "MOST" 547 (.ref 272)::kd P "LONGEST_NAME" 549 (.int 8 548)::kd P "FARTHEST" 551 (.int 1000 550)::kd P "LONGEST_WAY" 553 (.int 100 552)::kd P "nothing_yet" 559 (.ref 279)::kd P "changed" 570 (.ref 286)::kd P "without" 580 (.ref 293)::kd P "within" 586 (.ref 298)::kd P "check_name" 592 (.ref 303)::kd P "check_free" 601 (.ref 310)::kd P "check_place" 608 (.ref 317)::kd P "check_run" 615 (.ref 324)::kd P "check_room" 623 (.ref 331)::kd P "check_mark" 631 (.ref 338)::kd P "check_moment" 639 (.ref 345)::kd P "check_way" 646 (.ref 352)::kd P "check_apart" 655 (.ref 359)::kd P "after_mark" 665 (.ref 366)::kd P "after_move" 676 (.ref 373)::kd P "after_unmark" 686 (.ref 380)::kd P "after_bank" 697 (.ref 387)::kd P "after_level" 706 (.ref 394)::kd P "after_sail" 715 (.ref 401)::kd P "after_right" 725 (.ref 408)::kd P "after_note" 734 (.ref 415)::kd P "after_bearing" 742 (.ref 422)::kd P "after_range" 750 (.ref 429)::kd P "after_strike" 759 (.ref 436)::kd P "AFTER" 780 (.ref 437)::kd P "after" 788 (.ref 444)::kd P "Book" 1000 (.ref 607)::kd P "_law_power" 1009 (.ref 618)::kd P "_law_draws" 1021 (.ref 625)::kd P "_law_names" 1027 (.ref 630)::kd P "_law_new" 1033 (.ref 637)::kd P "_law_same" 1039 (.ref 642)::kd P "_law_refused" 1045 (.ref 647)::kd P "_law_went" 1054 (.ref 654)::kd P "_law_strange" 1063 (.ref 661)::kd P "_law_pick" 1071 (.ref 668)::kd P "_law_far_number" 1078 (.ref 675)::kd P "_law_way" 1089 (.ref 682)::kd P "_law_turned" 1097 (.ref 689)::kd P "_law_left_pair" 1107 (.ref 696)::kd P "_law_bearing_deed" 1122 (.ref 703)::kd P "_law_deed" 1135 (.ref 710)::kd P "_law_is_name" 1141 (.ref 715)::kd P "_law_near" 1149 (.ref 722)::kd P "_law_mark_word" 1155 (.ref 727)::kd P "_law_bank_word" 1161 (.ref 732)::kd P "_law_run_word" 1169 (.ref 739)::kd P "_law_note_word" 1179 (.ref 746)::kd P "_law_word" 1187 (.ref 753)::kd P "_law_due" 1196 (.ref 760)::kd P "_law_done" 1205 (.ref 767)::kd P "_law_after" 1214 (.ref 774)::kd P "_law_step" 1232 (.ref 781)::kd P "_law_marks_of" 1238 (.ref 786)::kd P "_law_stands" 1246 (.ref 793)::kd P "_law_told_so" 1257 (.ref 800)::kd P "_law_drawn_bank" 1266 (.ref 807)::kd P "_law_round_enough" 1273 (.ref 814)::kd P "law" 1279 (.ref 819)::[])) 95,f7 []⟩
noncomputable def KG(P:B8):b7 :=
 (nat_lit 56,⟨.type "dict",Ip,.dict (f7 (kd P "__module__" 241 (.str "seamarks.errors" 232)::kd P "__firstlineno__" 245 (.int 23 244)::kd P "__static_attributes__" 246 (.ref 55)::kd P "__weakref__" 248 (.ref 58)::kd P "__doc__" 249 .none::[])) 3,f7 []⟩) ::
 (nat_lit 69,⟨.type "dict",Ip,.dict (f7 (kd P "__module__" 259 (.str "seamarks.errors" 232)::kd P "__firstlineno__" 263 (.int 25 262)::kd P "__static_attributes__" 264 (.ref 68)::kd P "__doc__" 265 .none::[])) 2,f7 []⟩) ::
 (nat_lit 81,⟨.type "dict",Ip,.dict (f7 (kd P "__module__" 275 (.str "seamarks.errors" 232)::kd P "__firstlineno__" 279 (.int 27 278)::kd P "__static_attributes__" 280 (.ref 80)::kd P "__doc__" 281 .none::[])) 2,f7 []⟩) ::
 (nat_lit 93,⟨.type "dict",Ip,.dict (f7 (kd P "__module__" 291 (.str "seamarks.errors" 232)::kd P "__firstlineno__" 295 (.int 29 294)::kd P "__static_attributes__" 296 (.ref 92)::kd P "__doc__" 297 .none::[])) 2,f7 []⟩) ::
 (nat_lit 105,⟨.type "dict",Ip,.dict (f7 (kd P "__module__" 307 (.str "seamarks.errors" 232)::kd P "__firstlineno__" 311 (.int 31 310)::kd P "__static_attributes__" 312 (.ref 104)::kd P "__doc__" 313 .none::[])) 2,f7 []⟩) ::
 (nat_lit 117,⟨.type "dict",Ip,.dict (f7 (kd P "__module__" 323 (.str "seamarks.errors" 232)::kd P "__firstlineno__" 327 (.int 33 326)::kd P "__static_attributes__" 328 (.ref 116)::kd P "__doc__" 329 .none::[])) 2,f7 []⟩) ::
 (nat_lit 129,⟨.type "dict",Ip,.dict (f7 (kd P "__module__" 339 (.str "seamarks.errors" 232)::kd P "__firstlineno__" 343 (.int 35 342)::kd P "__static_attributes__" 344 (.ref 128)::kd P "__doc__" 345 .none::[])) 2,f7 []⟩) ::
 (nat_lit 141,⟨.type "dict",Ip,.dict (f7 (kd P "__module__" 355 (.str "seamarks.errors" 232)::kd P "__firstlineno__" 359 (.int 37 358)::kd P "__static_attributes__" 360 (.ref 140)::kd P "__doc__" 361 .none::[])) 2,f7 []⟩) ::
 (nat_lit 153,⟨.type "dict",Ip,.dict (f7 (kd P "__module__" 371 (.str "seamarks.errors" 232)::kd P "__firstlineno__" 375 (.int 39 374)::kd P "__static_attributes__" 376 (.ref 152)::kd P "__doc__" 377 .none::[])) 2,f7 []⟩) ::
 (nat_lit 165,⟨.type "dict",Ip,.dict (f7 (kd P "__module__" 387 (.str "seamarks.errors" 232)::kd P "__firstlineno__" 391 (.int 41 390)::kd P "__static_attributes__" 392 (.ref 164)::kd P "__doc__" 393 .none::[])) 2,f7 []⟩) ::
 (nat_lit 177,⟨.type "dict",Ip,.dict (f7 (kd P "__module__" 403 (.str "seamarks.errors" 232)::kd P "__firstlineno__" 407 (.int 43 406)::kd P "__static_attributes__" 408 (.ref 176)::kd P "__doc__" 409 .none::[])) 2,f7 []⟩) ::
 (nat_lit 189,⟨.type "dict",Ip,.dict (f7 (kd P "__module__" 419 (.str "seamarks.errors" 232)::kd P "__firstlineno__" 423 (.int 45 422)::kd P "__static_attributes__" 424 (.ref 188)::kd P "__doc__" 425 .none::[])) 2,f7 []⟩) ::
 (nat_lit 201,⟨.type "dict",Ip,.dict (f7 (kd P "__module__" 435 (.str "seamarks.errors" 232)::kd P "__firstlineno__" 439 (.int 47 438)::kd P "__static_attributes__" 440 (.ref 200)::kd P "__doc__" 441 .none::[])) 2,f7 []⟩) ::
 (nat_lit 213,⟨.type "dict",Ip,.dict (f7 (kd P "__module__" 451 (.str "seamarks.errors" 232)::kd P "__firstlineno__" 455 (.int 49 454)::kd P "__static_attributes__" 456 (.ref 212)::kd P "__doc__" 457 .none::[])) 2,f7 []⟩) ::
 (nat_lit 225,⟨.type "dict",Ip,.dict (f7 (kd P "__module__" 467 (.str "seamarks.errors" 232)::kd P "__firstlineno__" 471 (.int 51 470)::kd P "__static_attributes__" 472 (.ref 224)::kd P "__doc__" 473 .none::[])) 2,f7 []⟩) ::
 (nat_lit 237,⟨.type "dict",Ip,.dict (f7 (kd P "__module__" 483 (.str "seamarks.errors" 232)::kd P "__firstlineno__" 487 (.int 53 486)::kd P "__static_attributes__" 488 (.ref 236)::kd P "__doc__" 489 .none::[])) 2,f7 []⟩) ::
 (nat_lit 249,⟨.type "dict",Ip,.dict (f7 (kd P "__module__" 499 (.str "seamarks.errors" 232)::kd P "__firstlineno__" 503 (.int 55 502)::kd P "__static_attributes__" 504 (.ref 248)::kd P "__doc__" 505 .none::[])) 2,f7 []⟩) ::
 (nat_lit 268,⟨.type "dict",Ip,.dict (f7 (kd P "__module__" 515 (.str "seamarks.errors" 232)::kd P "__firstlineno__" 519 (.int 57 518)::kd P "__init__" 527 (.ref 266)::kd P "__static_attributes__" 529 (.ref 267)::kd P "__doc__" 530 .none::[])) 2,f7 []⟩) ::
 (nat_lit 272,⟨.type "dict",Ip,.dict (f7 (kd P "marks" 535 (.int 20 536)::kd P "banks" 537 (.int 8 538)::kd P "runs" 539 (.int 12 540)::kd P "notes" 541 (.int 24 542)::[])) 4,f7 []⟩) ::
 (nat_lit 437,⟨.type "dict",Ip,.dict (f7 (kd P "mark" 760 (.ref 366)::kd P "move" 761 (.ref 373)::kd P "unmark" 762 (.ref 380)::kd P "bank" 763 (.ref 387)::kd P "level" 764 (.ref 394)::kd P "sail" 765 (.ref 401)::kd P "right" 766 (.ref 408)::kd P "bearing" 767 (.ref 422)::kd P "range" 768 (.ref 429)::kd P "strike" 769 (.ref 436)::[])) 10,f7 []⟩) ::
 (nat_lit 606,⟨.type "dict",Ip,.dict (f7 (kd P "__module__" 798 (.str "seamarks.book" 789)::kd P "__firstlineno__" 802 (.int 188 801)::kd P "__init__" 809 (.ref 458)::kd P "mark" 819 (.ref 465)::kd P "move" 829 (.ref 472)::kd P "unmark" 837 (.ref 479)::kd P "bank" 846 (.ref 486)::kd P "level" 854 (.ref 493)::kd P "sail" 863 (.ref 500)::kd P "right" 873 (.ref 507)::kd P "bearing" 884 (.ref 514)::kd P "range_note" 894 (.ref 521)::kd P "strike" 902 (.ref 528)::kd P "deed" 912 (.ref 535)::kd P "step" 922 (.ref 542)::kd P "undo" 929 (.ref 549)::kd P "redo" 936 (.ref 556)::kd P "deeds" 942 (.ref 561)::kd P "undone" 948 (.ref 566)::kd P "twin" 956 (.ref 573)::kd P "marks" 962 (.ref 578)::kd P "banks" 969 (.ref 585)::kd P "runs" 975 (.ref 590)::kd P "notes" 982 (.ref 597)::kd P "coming" 989 (.ref 604)::kd P "__static_attributes__" 993 (.ref 605)::kd P "__dict__" 995 (.ref 608)::kd P "__weakref__" 997 (.ref 609)::kd P "__doc__" 998 .none::[])) 4,f7 []⟩)::[]
noncomputable abbrev KF(P:B8):b7:=(nat_lit 3,kNs P)::KG P
noncomputable def KC:b7 :=
 (nat_lit 27,kq "turn" 196 5 2 22 (.ref 23) .none (.ref 24) (.ref 25) (.ref 26) 201 202) ::
 (nat_lit 28,kg "turn" pB "seamarks.sides" 194 27) ::
 (nat_lit 34,kq "stretch_way" 206 8 2 29 (.ref 30) .none (.ref 31) (.ref 32) (.ref 33) 211 212) ::
 (nat_lit 35,kg "stretch_way" uT "seamarks.banks" 204 34) ::
 (nat_lit 41,kq "all_left_of" 214 10 2 36 (.ref 37) .none (.ref 38) (.ref 39) (.ref 40) 223 224) ::
 (nat_lit 42,kg "all_left_of" uO "seamarks.banks" 204 41) ::
 (nat_lit 46,kq "is_bank" 226 18 1 43 (.ref 44) .none .none .none (.ref 45) 229 230) ::
 (nat_lit 47,kg "is_bank" qV "seamarks.banks" 204 46) ::
 (nat_lit 57,(@PySem.Obj.mk (.type "type") Ip (@PySem.Data.cls (@PySem.ClassData.mk "MarkError" ((.type "ValueError")::[]) ((.ref 57)::((.type "ValueError")::((.type "Exception")::((.type "BaseException")::((.type "object")::[]))))) 56 "MarkError" Iq [] ((.ref 70)::((.ref 82)::((.ref 94)::((.ref 106)::((.ref 118)::((.ref 130)::((.ref 142)::((.ref 154)::((.ref 166)::((.ref 178)::((.ref 190)::((.ref 202)::((.ref 214)::((.ref 226)::((.ref 238)::((.ref 250)::((.ref 269)::[]))))))))))))))))) Ir Ip Ir)) (f7 ((Io (.ref 48))::(Ip::((Io (.str "MarkError" 234))::((Io (.str "MarkError" 242))::((Io (.builtin "ValueError.__new__"))::((Io (.bool Iq))::[]))))))))) ::
 (nat_lit 70,(@PySem.Obj.mk (.type "type") Ip (@PySem.Data.cls (@PySem.ClassData.mk "BadName" ((.ref 57)::[]) ((.ref 70)::((.ref 57)::((.type "ValueError")::((.type "Exception")::((.type "BaseException")::((.type "object")::[])))))) 69 "BadName" Iq [] [] Ir Ip Ir)) (f7 ((Io (.ref 61))::(Ip::((Io (.str "BadName" 252))::((Io (.str "BadName" 260))::((Io (.builtin "ValueError.__new__"))::((Io (.bool Iq))::[]))))))))) ::
 (nat_lit 82,(@PySem.Obj.mk (.type "type") Ip (@PySem.Data.cls (@PySem.ClassData.mk "Taken" ((.ref 57)::[]) ((.ref 82)::((.ref 57)::((.type "ValueError")::((.type "Exception")::((.type "BaseException")::((.type "object")::[])))))) 81 "Taken" Iq [] [] Ir Ip Ir)) (f7 ((Io (.ref 73))::(Ip::((Io (.str "Taken" 268))::((Io (.str "Taken" 276))::((Io (.builtin "ValueError.__new__"))::((Io (.bool Iq))::[]))))))))) ::
 (nat_lit 94,(@PySem.Obj.mk (.type "type") Ip (@PySem.Data.cls (@PySem.ClassData.mk "BadPlace" ((.ref 57)::[]) ((.ref 94)::((.ref 57)::((.type "ValueError")::((.type "Exception")::((.type "BaseException")::((.type "object")::[])))))) 93 "BadPlace" Iq [] [] Ir Ip Ir)) (f7 ((Io (.ref 85))::(Ip::((Io (.str "BadPlace" 284))::((Io (.str "BadPlace" 292))::((Io (.builtin "ValueError.__new__"))::((Io (.bool Iq))::[]))))))))) ::
 (nat_lit 106,(@PySem.Obj.mk (.type "type") Ip (@PySem.Data.cls (@PySem.ClassData.mk "Full" ((.ref 57)::[]) ((.ref 106)::((.ref 57)::((.type "ValueError")::((.type "Exception")::((.type "BaseException")::((.type "object")::[])))))) 105 "Full" Iq [] [] Ir Ip Ir)) (f7 ((Io (.ref 97))::(Ip::((Io (.str "Full" 300))::((Io (.str "Full" 308))::((Io (.builtin "ValueError.__new__"))::((Io (.bool Iq))::[]))))))))) ::
 (nat_lit 118,(@PySem.Obj.mk (.type "type") Ip (@PySem.Data.cls (@PySem.ClassData.mk "NoMark" ((.ref 57)::[]) ((.ref 118)::((.ref 57)::((.type "ValueError")::((.type "Exception")::((.type "BaseException")::((.type "object")::[])))))) 117 "NoMark" Iq [] [] Ir Ip Ir)) (f7 ((Io (.ref 109))::(Ip::((Io (.str "NoMark" 316))::((Io (.str "NoMark" 324))::((Io (.builtin "ValueError.__new__"))::((Io (.bool Iq))::[]))))))))) ::
 (nat_lit 130,(@PySem.Obj.mk (.type "type") Ip (@PySem.Data.cls (@PySem.ClassData.mk "Same" ((.ref 57)::[]) ((.ref 130)::((.ref 57)::((.type "ValueError")::((.type "Exception")::((.type "BaseException")::((.type "object")::[])))))) 129 "Same" Iq [] [] Ir Ip Ir)) (f7 ((Io (.ref 121))::(Ip::((Io (.str "Same" 332))::((Io (.str "Same" 340))::((Io (.builtin "ValueError.__new__"))::((Io (.bool Iq))::[]))))))))) ::
 (nat_lit 142,(@PySem.Obj.mk (.type "type") Ip (@PySem.Data.cls (@PySem.ClassData.mk "Needed" ((.ref 57)::[]) ((.ref 142)::((.ref 57)::((.type "ValueError")::((.type "Exception")::((.type "BaseException")::((.type "object")::[])))))) 141 "Needed" Iq [] [] Ir Ip Ir)) (f7 ((Io (.ref 133))::(Ip::((Io (.str "Needed" 348))::((Io (.str "Needed" 356))::((Io (.builtin "ValueError.__new__"))::((Io (.bool Iq))::[]))))))))) ::
 (nat_lit 154,(@PySem.Obj.mk (.type "type") Ip (@PySem.Data.cls (@PySem.ClassData.mk "BadBank" ((.ref 57)::[]) ((.ref 154)::((.ref 57)::((.type "ValueError")::((.type "Exception")::((.type "BaseException")::((.type "object")::[])))))) 153 "BadBank" Iq [] [] Ir Ip Ir)) (f7 ((Io (.ref 145))::(Ip::((Io (.str "BadBank" 364))::((Io (.str "BadBank" 372))::((Io (.builtin "ValueError.__new__"))::((Io (.bool Iq))::[]))))))))) ::
 (nat_lit 166,(@PySem.Obj.mk (.type "type") Ip (@PySem.Data.cls (@PySem.ClassData.mk "NoBank" ((.ref 57)::[]) ((.ref 166)::((.ref 57)::((.type "ValueError")::((.type "Exception")::((.type "BaseException")::((.type "object")::[])))))) 165 "NoBank" Iq [] [] Ir Ip Ir)) (f7 ((Io (.ref 157))::(Ip::((Io (.str "NoBank" 380))::((Io (.str "NoBank" 388))::((Io (.builtin "ValueError.__new__"))::((Io (.bool Iq))::[]))))))))) ::
 (nat_lit 178,(@PySem.Obj.mk (.type "type") Ip (@PySem.Data.cls (@PySem.ClassData.mk "BadRun" ((.ref 57)::[]) ((.ref 178)::((.ref 57)::((.type "ValueError")::((.type "Exception")::((.type "BaseException")::((.type "object")::[])))))) 177 "BadRun" Iq [] [] Ir Ip Ir)) (f7 ((Io (.ref 169))::(Ip::((Io (.str "BadRun" 396))::((Io (.str "BadRun" 404))::((Io (.builtin "ValueError.__new__"))::((Io (.bool Iq))::[]))))))))) ::
 (nat_lit 190,(@PySem.Obj.mk (.type "type") Ip (@PySem.Data.cls (@PySem.ClassData.mk "NoRun" ((.ref 57)::[]) ((.ref 190)::((.ref 57)::((.type "ValueError")::((.type "Exception")::((.type "BaseException")::((.type "object")::[])))))) 189 "NoRun" Iq [] [] Ir Ip Ir)) (f7 ((Io (.ref 181))::(Ip::((Io (.str "NoRun" 412))::((Io (.str "NoRun" 420))::((Io (.builtin "ValueError.__new__"))::((Io (.bool Iq))::[]))))))))) ::
 (nat_lit 202,(@PySem.Obj.mk (.type "type") Ip (@PySem.Data.cls (@PySem.ClassData.mk "NoMoment" ((.ref 57)::[]) ((.ref 202)::((.ref 57)::((.type "ValueError")::((.type "Exception")::((.type "BaseException")::((.type "object")::[])))))) 201 "NoMoment" Iq [] [] Ir Ip Ir)) (f7 ((Io (.ref 193))::(Ip::((Io (.str "NoMoment" 428))::((Io (.str "NoMoment" 436))::((Io (.builtin "ValueError.__new__"))::((Io (.bool Iq))::[]))))))))) ::
 (nat_lit 214,(@PySem.Obj.mk (.type "type") Ip (@PySem.Data.cls (@PySem.ClassData.mk "BadWay" ((.ref 57)::[]) ((.ref 214)::((.ref 57)::((.type "ValueError")::((.type "Exception")::((.type "BaseException")::((.type "object")::[])))))) 213 "BadWay" Iq [] [] Ir Ip Ir)) (f7 ((Io (.ref 205))::(Ip::((Io (.str "BadWay" 444))::((Io (.str "BadWay" 452))::((Io (.builtin "ValueError.__new__"))::((Io (.bool Iq))::[]))))))))) ::
 (nat_lit 226,(@PySem.Obj.mk (.type "type") Ip (@PySem.Data.cls (@PySem.ClassData.mk "BadTurn" ((.ref 57)::[]) ((.ref 226)::((.ref 57)::((.type "ValueError")::((.type "Exception")::((.type "BaseException")::((.type "object")::[])))))) 225 "BadTurn" Iq [] [] Ir Ip Ir)) (f7 ((Io (.ref 217))::(Ip::((Io (.str "BadTurn" 460))::((Io (.str "BadTurn" 468))::((Io (.builtin "ValueError.__new__"))::((Io (.bool Iq))::[]))))))))) ::
 (nat_lit 238,(@PySem.Obj.mk (.type "type") Ip (@PySem.Data.cls (@PySem.ClassData.mk "NoNote" ((.ref 57)::[]) ((.ref 238)::((.ref 57)::((.type "ValueError")::((.type "Exception")::((.type "BaseException")::((.type "object")::[])))))) 237 "NoNote" Iq [] [] Ir Ip Ir)) (f7 ((Io (.ref 229))::(Ip::((Io (.str "NoNote" 476))::((Io (.str "NoNote" 484))::((Io (.builtin "ValueError.__new__"))::((Io (.bool Iq))::[]))))))))) ::
 (nat_lit 250,(@PySem.Obj.mk (.type "type") Ip (@PySem.Data.cls (@PySem.ClassData.mk "NothingLeft" ((.ref 57)::[]) ((.ref 250)::((.ref 57)::((.type "ValueError")::((.type "Exception")::((.type "BaseException")::((.type "object")::[])))))) 249 "NothingLeft" Iq [] [] Ir Ip Ir)) (f7 ((Io (.ref 241))::(Ip::((Io (.str "NothingLeft" 492))::((Io (.str "NothingLeft" 500))::((Io (.builtin "ValueError.__new__"))::((Io (.bool Iq))::[]))))))))) ::
 (nat_lit 269,(@PySem.Obj.mk (.type "type") Ip (@PySem.Data.cls (@PySem.ClassData.mk "BadRow" ((.ref 57)::[]) ((.ref 269)::((.ref 57)::((.type "ValueError")::((.type "Exception")::((.type "BaseException")::((.type "object")::[])))))) 268 "BadRow" Iq [] [] Ir Ip Ir)) (f7 ((Io (.ref 253))::(Ip::((Io (.str "BadRow" 508))::((Io (.str "BadRow" 516))::((Io (.builtin "ValueError.__new__"))::((Io (.bool Iq))::[]))))))))) ::
 (nat_lit 278,kq "nothing_yet" 554 67 0 273 (.ref 274) .none (.ref 275) (.ref 276) (.ref 277) 557 558) ::
 (nat_lit 279,kg "nothing_yet" uR "seamarks.deeds" 533 278) ::
 (nat_lit 285,kq "changed" 560 69 4 280 (.ref 281) .none (.ref 282) (.ref 283) (.ref 284) 568 569) ::
 (nat_lit 286,kg "changed" qO "seamarks.deeds" 533 285) ::
 (nat_lit 292,kq "without" 571 74 3 287 (.ref 288) .none (.ref 289) (.ref 290) (.ref 291) 578 579) ::
 (nat_lit 293,kg "without" qW "seamarks.deeds" 533 292) ::
 (nat_lit 297,kq "within" 581 79 2 294 (.ref 295) .none .none .none (.ref 296) 584 585) ::
 (nat_lit 298,kg "within" xu "seamarks.deeds" 533 297) ::
 (nat_lit 302,kq "check_name" 587 81 1 299 (.ref 300) .none .none .none (.ref 301) 590 591) ::
 (nat_lit 303,kg "check_name" vK "seamarks.deeds" 533 302) ::
 (nat_lit 309,kq "check_free" 593 84 3 304 (.ref 305) .none (.ref 306) (.ref 307) (.ref 308) 599 600) ::
 (nat_lit 310,kg "check_free" vQ "seamarks.deeds" 533 309) ::
 (nat_lit 316,kq "check_place" 602 87 1 311 (.ref 312) .none (.ref 313) (.ref 314) (.ref 315) 606 607) ::
 (nat_lit 317,kg "check_place" uJ "seamarks.deeds" 533 316) ::
 (nat_lit 323,kq "check_run" 609 90 1 318 (.ref 319) .none (.ref 320) (.ref 321) (.ref 322) 613 614) ::
 (nat_lit 324,kg "check_run" tW "seamarks.deeds" 533 323) ::
 (nat_lit 330,kq "check_room" 616 93 2 325 (.ref 326) .none (.ref 327) (.ref 328) (.ref 329) 621 622) ::
 (nat_lit 331,kg "check_room" vO "seamarks.deeds" 533 330) ::
 (nat_lit 337,kq "check_mark" 624 96 2 332 (.ref 333) .none (.ref 334) (.ref 335) (.ref 336) 629 630) ::
 (nat_lit 338,kg "check_mark" vS "seamarks.deeds" 533 337) ::
 (nat_lit 344,kq "check_moment" 632 99 2 339 (.ref 340) .none (.ref 341) (.ref 342) (.ref 343) 637 638) ::
 (nat_lit 345,kg "check_moment" wO "seamarks.deeds" 533 344) ::
 (nat_lit 351,kq "check_way" 640 102 1 346 (.ref 347) .none (.ref 348) (.ref 349) (.ref 350) 644 645) ::
 (nat_lit 352,kg "check_way" tS "seamarks.deeds" 533 351) ::
 (nat_lit 358,kq "check_apart" 647 105 3 353 (.ref 354) .none (.ref 355) (.ref 356) (.ref 357) 653 654) ::
 (nat_lit 359,kg "check_apart" uL "seamarks.deeds" 533 358) ::
 (nat_lit 365,kq "after_mark" 656 108 2 360 (.ref 361) .none (.ref 362) (.ref 363) (.ref 364) 663 664) ::
 (nat_lit 366,kg "after_mark" vM "seamarks.deeds" 533 365) ::
 (nat_lit 372,kq "after_move" 666 116 2 367 (.ref 368) .none (.ref 369) (.ref 370) (.ref 371) 674 675) ::
 (nat_lit 373,kg "after_move" vV "seamarks.deeds" 533 372) ::
 (nat_lit 379,kq "after_unmark" 677 125 2 374 (.ref 375) .none (.ref 376) (.ref 377) (.ref 378) 684 685) ::
 (nat_lit 380,kg "after_unmark" wR "seamarks.deeds" 533 379) ::
 (nat_lit 386,kq "after_bank" 687 132 2 381 (.ref 382) .none (.ref 383) (.ref 384) (.ref 385) 695 696) ::
 (nat_lit 387,kg "after_bank" vN "seamarks.deeds" 533 386) ::
 (nat_lit 393,kq "after_level" 698 143 2 388 (.ref 389) .none (.ref 390) (.ref 391) (.ref 392) 704 705) ::
 (nat_lit 394,kg "after_level" uX "seamarks.deeds" 533 393) ::
 (nat_lit 400,kq "after_sail" 707 148 2 395 (.ref 396) .none (.ref 397) (.ref 398) (.ref 399) 713 714) ::
 (nat_lit 401,kg "after_sail" vP "seamarks.deeds" 533 400) ::
 (nat_lit 407,kq "after_right" 716 153 2 402 (.ref 403) .none (.ref 404) (.ref 405) (.ref 406) 723 724) ::
 (nat_lit 408,kg "after_right" uI "seamarks.deeds" 533 407) ::
 (nat_lit 414,kq "after_note" 726 160 2 409 (.ref 410) .none (.ref 411) (.ref 412) (.ref 413) 732 733) ::
 (nat_lit 415,kg "after_note" vR "seamarks.deeds" 533 414) ::
 (nat_lit 421,kq "after_bearing" 735 165 2 416 (.ref 417) .none (.ref 418) (.ref 419) (.ref 420) 740 741) ::
 (nat_lit 422,kg "after_bearing" wK "seamarks.deeds" 533 421) ::
 (nat_lit 428,kq "after_range" 743 173 2 423 (.ref 424) .none (.ref 425) (.ref 426) (.ref 427) 748 749) ::
 (nat_lit 429,kg "after_range" uP "seamarks.deeds" 533 428) ::
 (nat_lit 435,kq "after_strike" 751 179 2 430 (.ref 431) .none (.ref 432) (.ref 433) (.ref 434) 757 758) ::
 (nat_lit 436,kg "after_strike" wV "seamarks.deeds" 533 435) ::
 (nat_lit 443,kq "after" 781 185 2 438 (.ref 439) .none (.ref 440) (.ref 441) (.ref 442) 786 787) ::
 (nat_lit 444,kg "after" uz "seamarks.deeds" 533 443) ::
 (nat_lit 457,kc ((.str "__init__" 803)::((.str "Book.__init__" 804)::((.str "/claim/cut.py" 805)::((.int 190 0)::((.int 1 0)::((.int 0 0)::((.int 0 0)::((.int 3 0)::((.ref 452)::((.bool Iq)::((.int 181 0)::((.ref 453)::(.none::((.ref 454)::((.ref 455)::((.ref 456)::((.int 807 0)::((.int 190 0)::((.str "/claim/cut.py" 808)::[])))))))))))))))))))) ::
 (nat_lit 458,kf2 "__init__" "Book.__init__" pT .none .none (.str "seamarks.book" 789) (.ref 457) .none) ::
 (nat_lit 534,kc ((.str "deed" 903)::((.str "Book.deed" 904)::((.str "/claim/cut.py" 905)::((.int 225 0)::((.int 2 0)::((.int 0 0)::((.int 0 0)::((.int 3 0)::((.ref 529)::((.bool Iq)::((.int 181 0)::((.ref 530)::(.none::((.ref 531)::((.ref 532)::((.ref 533)::((.int 910 0)::((.int 225 0)::((.str "/claim/cut.py" 911)::[])))))))))))))))))))) ::
 (nat_lit 535,kf2 "deed" "Book.deed" pS .none .none (.str "seamarks.book" 789) (.ref 534) .none) ::
 (nat_lit 541,kc ((.str "step" 913)::((.str "Book.step" 914)::((.str "/claim/cut.py" 915)::((.int 233 0)::((.int 3 0)::((.int 0 0)::((.int 0 0)::((.int 3 0)::((.ref 536)::((.bool Iq)::((.int 181 0)::((.ref 537)::(.none::((.ref 538)::((.ref 539)::((.ref 540)::((.int 920 0)::((.int 233 0)::((.str "/claim/cut.py" 921)::[])))))))))))))))))))) ::
 (nat_lit 542,kf2 "step" "Book.step" pC .none .none (.str "seamarks.book" 789) (.ref 541) .none) ::
 (nat_lit 548,kc ((.str "undo" 923)::((.str "Book.undo" 924)::((.str "/claim/cut.py" 925)::((.int 239 0)::((.int 1 0)::((.int 0 0)::((.int 0 0)::((.int 3 0)::((.ref 543)::((.bool Iq)::((.int 181 0)::((.ref 544)::(.none::((.ref 545)::((.ref 546)::((.ref 547)::((.int 927 0)::((.int 239 0)::((.str "/claim/cut.py" 928)::[])))))))))))))))))))) ::
 (nat_lit 549,kf2 "undo" "Book.undo" pU .none .none (.str "seamarks.book" 789) (.ref 548) .none) ::
 (nat_lit 555,kc ((.str "redo" 930)::((.str "Book.redo" 931)::((.str "/claim/cut.py" 932)::((.int 244 0)::((.int 1 0)::((.int 0 0)::((.int 0 0)::((.int 3 0)::((.ref 550)::((.bool Iq)::((.int 181 0)::((.ref 551)::(.none::((.ref 552)::((.ref 553)::((.ref 554)::((.int 934 0)::((.int 244 0)::((.str "/claim/cut.py" 935)::[])))))))))))))))))))) ::
 (nat_lit 556,kf2 "redo" "Book.redo" pW .none .none (.str "seamarks.book" 789) (.ref 555) .none) ::
 (nat_lit 560,kc ((.str "deeds" 937)::((.str "Book.deeds" 938)::((.str "/claim/cut.py" 939)::((.int 249 0)::((.int 1 0)::((.int 0 0)::((.int 0 0)::((.int 3 0)::((.ref 557)::((.bool Iq)::((.int 181 0)::((.ref 558)::(.none::(.none::(.none::((.ref 559)::((.int 940 0)::((.int 249 0)::((.str "/claim/cut.py" 941)::[])))))))))))))))))))) ::
 (nat_lit 561,kf2 "deeds" "Book.deeds" va .none .none (.str "seamarks.book" 789) (.ref 560) .none) ::
 (nat_lit 565,kc ((.str "undone" 943)::((.str "Book.undone" 944)::((.str "/claim/cut.py" 945)::((.int 252 0)::((.int 1 0)::((.int 0 0)::((.int 0 0)::((.int 3 0)::((.ref 562)::((.bool Iq)::((.int 181 0)::((.ref 563)::(.none::(.none::(.none::((.ref 564)::((.int 946 0)::((.int 252 0)::((.str "/claim/cut.py" 947)::[])))))))))))))))))))) ::
 (nat_lit 566,kf2 "undone" "Book.undone" xv .none .none (.str "seamarks.book" 789) (.ref 565) .none) ::
 (nat_lit 572,kc ((.str "twin" 949)::((.str "Book.twin" 950)::((.str "/claim/cut.py" 951)::((.int 255 0)::((.int 1 0)::((.int 0 0)::((.int 0 0)::((.int 3 0)::((.ref 567)::((.bool Iq)::((.int 181 0)::((.ref 568)::(.none::((.ref 569)::((.ref 570)::((.ref 571)::((.int 954 0)::((.int 255 0)::((.str "/claim/cut.py" 955)::[])))))))))))))))))))) ::
 (nat_lit 573,kf2 "twin" "Book.twin" pV .none .none (.str "seamarks.book" 789) (.ref 572) .none) ::
 (nat_lit 577,kc ((.str "marks" 957)::((.str "Book.marks" 958)::((.str "/claim/cut.py" 959)::((.int 262 0)::((.int 1 0)::((.int 0 0)::((.int 0 0)::((.int 3 0)::((.ref 574)::((.bool Iq)::((.int 181 0)::((.ref 575)::(.none::(.none::(.none::((.ref 576)::((.int 960 0)::((.int 262 0)::((.str "/claim/cut.py" 961)::[])))))))))))))))))))) ::
 (nat_lit 578,kf2 "marks" "Book.marks" ue .none .none (.str "seamarks.book" 789) (.ref 577) .none) ::
 (nat_lit 584,kc ((.str "banks" 963)::((.str "Book.banks" 964)::((.str "/claim/cut.py" 965)::((.int 266 0)::((.int 1 0)::((.int 0 0)::((.int 0 0)::((.int 3 0)::((.ref 579)::((.bool Iq)::((.int 181 0)::((.ref 580)::(.none::((.ref 581)::((.ref 582)::((.ref 583)::((.int 967 0)::((.int 266 0)::((.str "/claim/cut.py" 968)::[])))))))))))))))))))) ::
 (nat_lit 585,kf2 "banks" "Book.banks" uy .none .none (.str "seamarks.book" 789) (.ref 584) .none) ::
 (nat_lit 589,kc ((.str "runs" 970)::((.str "Book.runs" 971)::((.str "/claim/cut.py" 972)::((.int 269 0)::((.int 1 0)::((.int 0 0)::((.int 0 0)::((.int 3 0)::((.ref 586)::((.bool Iq)::((.int 181 0)::((.ref 587)::(.none::(.none::(.none::((.ref 588)::((.int 973 0)::((.int 269 0)::((.str "/claim/cut.py" 974)::[])))))))))))))))))))) ::
 (nat_lit 590,kf2 "runs" "Book.runs" pP .none .none (.str "seamarks.book" 789) (.ref 589) .none) ::
 (nat_lit 596,kc ((.str "notes" 976)::((.str "Book.notes" 977)::((.str "/claim/cut.py" 978)::((.int 273 0)::((.int 1 0)::((.int 0 0)::((.int 0 0)::((.int 3 0)::((.ref 591)::((.bool Iq)::((.int 181 0)::((.ref 592)::(.none::((.ref 593)::((.ref 594)::((.ref 595)::((.int 980 0)::((.int 273 0)::((.str "/claim/cut.py" 981)::[])))))))))))))))))))) ::
 (nat_lit 597,kf2 "notes" "Book.notes" vh .none .none (.str "seamarks.book" 789) (.ref 596) .none) ::
 (nat_lit 603,kc ((.str "coming" 983)::((.str "Book.coming" 984)::((.str "/claim/cut.py" 985)::((.int 276 0)::((.int 1 0)::((.int 0 0)::((.int 0 0)::((.int 3 0)::((.ref 598)::((.bool Iq)::((.int 181 0)::((.ref 599)::(.none::((.ref 600)::((.ref 601)::((.ref 602)::((.int 987 0)::((.int 276 0)::((.str "/claim/cut.py" 988)::[])))))))))))))))))))) ::
 (nat_lit 604,kf2 "coming" "Book.coming" xq .none .none (.str "seamarks.book" 789) (.ref 603) .none) ::
 (nat_lit 607,(@PySem.Obj.mk (.type "type") Ip (@PySem.Data.cls (@PySem.ClassData.mk "Book" ((.type "object")::[]) ((.ref 607)::((.type "object")::[])) 606 "Book" Iq [] [] Ir Ip Ir)) (f7 (Ip::(Ip::((Io (.str "Book" 791))::((Io (.str "Book" 799))::((Io (.builtin "object.__new__"))::((Io (.bool Iq))::[]))))))))) ::
 (nat_lit 617,kq "_law_power" 1003 279 1 612 (.ref 613) .none (.ref 614) (.ref 615) (.ref 616) 1007 1008) ::
 (nat_lit 618,kg "_law_power" uf "law_seamarks_k38_whole_twins_apart" 1001 617) ::
 (nat_lit 624,kq "_law_draws" 1010 281 2 619 (.ref 620) .none (.ref 621) (.ref 622) (.ref 623) 1019 1020) ::
 (nat_lit 625,kg "_law_draws" uh "law_seamarks_k38_whole_twins_apart" 1001 624) ::
 (nat_lit 629,kq "_law_names" 1022 297 2 626 (.ref 627) .none .none .none (.ref 628) 1025 1026) ::
 (nat_lit 630,kg "_law_names" uu "law_seamarks_k38_whole_twins_apart" 1001 629) ::
 (nat_lit 636,kq "_law_new" 1028 312 0 631 (.ref 632) .none (.ref 633) (.ref 634) (.ref 635) 1031 1032) ::
 (nat_lit 637,kg "_law_new" kU "law_seamarks_k38_whole_twins_apart" 1001 636) ::
 (nat_lit 641,kq "_law_same" 1034 314 2 638 (.ref 639) .none .none .none (.ref 640) 1037 1038) ::
 (nat_lit 642,kg "_law_same" vz "law_seamarks_k38_whole_twins_apart" 1001 641) ::
 (nat_lit 646,kq "_law_refused" 1040 322 1 643 (.ref 644) .none .none .none (.ref 645) 1043 1044) ::
 (nat_lit 647,kg "_law_refused" qP "law_seamarks_k38_whole_twins_apart" 1001 646) ::
 (nat_lit 653,kq "_law_went" 1046 332 2 648 (.ref 649) .none (.ref 650) (.ref 651) (.ref 652) 1052 1053) ::
 (nat_lit 654,kg "_law_went" pO "law_seamarks_k38_whole_twins_apart" 1001 653) ::
 (nat_lit 660,kq "_law_strange" 1055 337 1 655 (.ref 656) .none (.ref 657) (.ref 658) (.ref 659) 1061 1062) ::
 (nat_lit 661,kg "_law_strange" qR "law_seamarks_k38_whole_twins_apart" 1001 660) ::
 (nat_lit 667,kq "_law_pick" 1064 343 2 662 (.ref 663) .none (.ref 664) (.ref 665) (.ref 666) 1069 1070) ::
 (nat_lit 668,kg "_law_pick" pF "law_seamarks_k38_whole_twins_apart" 1001 667) ::
 (nat_lit 674,kq "_law_far_number" 1072 347 1 669 (.ref 670) .none (.ref 671) (.ref 672) (.ref 673) 1076 1077) ::
 (nat_lit 675,kg "_law_far_number" vI "law_seamarks_k38_whole_twins_apart" 1001 674) ::
 (nat_lit 681,kq "_law_way" 1079 353 3 676 (.ref 677) .none (.ref 678) (.ref 679) (.ref 680) 1087 1088) ::
 (nat_lit 682,kg "_law_way" lX "law_seamarks_k38_whole_twins_apart" 1001 681) ::
 (nat_lit 688,kq "_law_turned" 1090 359 2 683 (.ref 684) .none (.ref 685) (.ref 686) (.ref 687) 1095 1096) ::
 (nat_lit 689,kg "_law_turned" xo "law_seamarks_k38_whole_twins_apart" 1001 688) ::
 (nat_lit 695,kq "_law_left_pair" 1098 361 2 690 (.ref 691) .none (.ref 692) (.ref 693) (.ref 694) 1105 1106) ::
 (nat_lit 696,kg "_law_left_pair" tV "law_seamarks_k38_whole_twins_apart" 1001 695) ::
 (nat_lit 702,kq "_law_bearing_deed" 1108 371 3 697 (.ref 698) .none (.ref 699) (.ref 700) (.ref 701) 1120 1121) ::
 (nat_lit 703,kg "_law_bearing_deed" wU "law_seamarks_k38_whole_twins_apart" 1001 702) ::
 (nat_lit 709,kq "_law_deed" 1123 384 3 704 (.ref 705) .none (.ref 706) (.ref 707) (.ref 708) 1133 1134) ::
 (nat_lit 710,kg "_law_deed" pK "law_seamarks_k38_whole_twins_apart" 1001 709) ::
 (nat_lit 714,kq "_law_is_name" 1136 407 1 711 (.ref 712) .none .none .none (.ref 713) 1139 1140) ::
 (nat_lit 715,kg "_law_is_name" qN "law_seamarks_k38_whole_twins_apart" 1001 714) ::
 (nat_lit 721,kq "_law_near" 1142 409 2 716 (.ref 717) .none (.ref 718) (.ref 719) (.ref 720) 1147 1148) ::
 (nat_lit 722,kg "_law_near" pJ "law_seamarks_k38_whole_twins_apart" 1001 721) ::
 (nat_lit 726,kq "_law_mark_word" 1150 411 2 723 (.ref 724) .none .none .none (.ref 725) 1153 1154) ::
 (nat_lit 727,kg "_law_mark_word" tQ "law_seamarks_k38_whole_twins_apart" 1001 726) ::
 (nat_lit 731,kq "_law_bank_word" 1156 433 2 728 (.ref 729) .none .none .none (.ref 730) 1159 1160) ::
 (nat_lit 732,kg "_law_bank_word" tP "law_seamarks_k38_whole_twins_apart" 1001 731) ::
 (nat_lit 738,kq "_law_run_word" 1162 445 2 733 (.ref 734) .none (.ref 735) (.ref 736) (.ref 737) 1167 1168) ::
 (nat_lit 739,kg "_law_run_word" rB "law_seamarks_k38_whole_twins_apart" 1001 738) ::
 (nat_lit 745,kq "_law_note_word" 1170 453 2 740 (.ref 741) .none (.ref 742) (.ref 743) (.ref 744) 1177 1178) ::
 (nat_lit 746,kg "_law_note_word" tX "law_seamarks_k38_whole_twins_apart" 1001 745) ::
 (nat_lit 752,kq "_law_word" 1180 469 2 747 (.ref 748) .none (.ref 749) (.ref 750) (.ref 751) 1185 1186) ::
 (nat_lit 753,kg "_law_word" pH "law_seamarks_k38_whole_twins_apart" 1001 752) ::
 (nat_lit 759,kq "_law_due" 1188 477 2 754 (.ref 755) .none (.ref 756) (.ref 757) (.ref 758) 1194 1195) ::
 (nat_lit 760,kg "_law_due" lT "law_seamarks_k38_whole_twins_apart" 1001 759) ::
 (nat_lit 766,kq "_law_done" 1197 482 2 761 (.ref 762) .none (.ref 763) (.ref 764) (.ref 765) 1203 1204) ::
 (nat_lit 767,kg "_law_done" pE "law_seamarks_k38_whole_twins_apart" 1001 766) ::
 (nat_lit 773,kq "_law_after" 1206 487 2 768 (.ref 769) .none (.ref 770) (.ref 771) (.ref 772) 1212 1213) ::
 (nat_lit 774,kg "_law_after" vw "law_seamarks_k38_whole_twins_apart" 1001 773) ::
 (nat_lit 780,kq "_law_step" 1215 509 4 775 (.ref 776) .none (.ref 777) (.ref 778) (.ref 779) 1230 1231) ::
 (nat_lit 781,kg "_law_step" pX "law_seamarks_k38_whole_twins_apart" 1001 780) ::
 (nat_lit 785,kq "_law_marks_of" 1233 525 1 782 (.ref 783) .none .none .none (.ref 784) 1236 1237) ::
 (nat_lit 786,kg "_law_marks_of" rD "law_seamarks_k38_whole_twins_apart" 1001 785) ::
 (nat_lit 792,kq "_law_stands" 1239 527 2 787 (.ref 788) .none (.ref 789) (.ref 790) (.ref 791) 1244 1245) ::
 (nat_lit 793,kg "_law_stands" xt "law_seamarks_k38_whole_twins_apart" 1001 792) ::
 (nat_lit 799,kq "_law_told_so" 1247 533 2 794 (.ref 795) .none (.ref 796) (.ref 797) (.ref 798) 1255 1256) ::
 (nat_lit 800,kg "_law_told_so" qY "law_seamarks_k38_whole_twins_apart" 1001 799) ::
 (nat_lit 806,kq "_law_drawn_bank" 1258 538 1 801 (.ref 802) .none (.ref 803) (.ref 804) (.ref 805) 1264 1265) ::
 (nat_lit 807,kg "_law_drawn_bank" vU "law_seamarks_k38_whole_twins_apart" 1001 806) ::
 (nat_lit 813,kq "_law_round_enough" 1267 541 1 808 (.ref 809) .none (.ref 810) (.ref 811) (.ref 812) 1271 1272) ::
 (nat_lit 814,kg "_law_round_enough" wQ "law_seamarks_k38_whole_twins_apart" 1001 813) ::
 (nat_lit 818,kq "law" 1274 543 1 815 (.ref 816) .none .none .none (.ref 817) 1277 1278) ::
 (nat_lit 819,kg "law" fw "law_seamarks_k38_whole_twins_apart" 1001 818)::[]
noncomputable def KK(P:B8):b7:=(nat_lit 3,kNs P)::(KG P++KC)
noncomputable def K:b7:=Classical.choose (⟨KC,rfl⟩:∃ k,k=KC)
def aS:K=KC:=Classical.choose_spec (⟨KC,rfl⟩:∃ k,k=KC)
noncomputable def kas:List Nat:=nat_lit 3::nat_lit 56::nat_lit 69::nat_lit 81::nat_lit 93::nat_lit 105::nat_lit 117::nat_lit 129::nat_lit 141::nat_lit 153::nat_lit 165::nat_lit 177::nat_lit 189::nat_lit 201::nat_lit 213::nat_lit 225::nat_lit 237::nat_lit 249::nat_lit 268::nat_lit 272::nat_lit 437::nat_lit 606::KC.map (·.1)
def kas_ok:∀ P:B8,kas=(KK P).map (·.1):=λ_=>by kernel_rfl
def TK{a b:Bool}(h:a=Iq)(k:b=Iq):(a&&b)=true:=by rw[h,k]; rfl
set_option maxHeartbeats 0 in
open PySem.W in
def said_ok:PySem.Challenge.rw_seamarks_k38_whole_twins_apart.wellSaid=true:=by
 unfold OpenLaw.wellSaid
 repeat' first | with_reducible apply TK | unfold OpenRow.wellSaid | unfold OpenRow.partSaid | unfold looksOpen
 all_goals decide +kernel
open PySem.W in
noncomputable abbrev lkM:=Fast.tw5923862056798008813 (Fast.tw2368527892694137696 PySem.Challenge.rw_seamarks_k38_whole_twins_apart).prog.main.body
open PySem.W in
noncomputable abbrev lkT(w:World)(os:OsState):=TW Fast.tw14364793385576792824 (Fast.tw2368527892694137696 PySem.Challenge.rw_seamarks_k38_whole_twins_apart).prog 90000 w os
open PySem.W in
noncomputable abbrev lkS(s:SharedT):=Fast.tw4187177175401517315 qv lse lkM (λs=>xlAt qv [] s&&recOk (Fast.tw2368527892694137696 PySem.Challenge.rw_seamarks_k38_whole_twins_apart).records s) Iq s.abs
set_option maxHeartbeats 0 in
open PySem.W in
def Vi(u:World)(os:OsState):(lkT (u.withFollow "special-get-raises" Iq) os).map (λs=>(staticsOk lkM (boot_heap (u.withFollow "special-get-raises" Iq).params) s.abs.heap&&namesBound (Fast.tw2368527892694137696 PySem.Challenge.rw_seamarks_k38_whole_twins_apart).prog s.abs.heap&&gensDone s.abs&&laidKept (boot_heap (u.withFollow "special-get-raises" Iq).params) s.abs.heap))=Io true:=by kernel_rfl
set_option maxHeartbeats 0 in
open PySem.W in
def WN(u:World)(os:OsState):(lkT (u.withFollow "special-get-raises" Ir) os).map (λs=>(staticsOk lkM (boot_heap (u.withFollow "special-get-raises" Ir).params) s.abs.heap&&namesBound (Fast.tw2368527892694137696 PySem.Challenge.rw_seamarks_k38_whole_twins_apart).prog s.abs.heap&&gensDone s.abs&&laidKept (boot_heap (u.withFollow "special-get-raises" Ir).params) s.abs.heap))=Io true:=by kernel_rfl
set_option maxHeartbeats 0 in
open PySem.W in
def UL(w:World)(os:OsState):(lkT w os).map (λs=>(staticsOk lkM (boot_heap w.params) s.abs.heap&&namesBound (Fast.tw2368527892694137696 PySem.Challenge.rw_seamarks_k38_whole_twins_apart).prog s.abs.heap&&gensDone s.abs&&laidKept (boot_heap w.params) s.abs.heap))=Io true:=by
 have h:∀(b:Bool)(u:World),(λw:World=>(lkT w os).map (λs=>(staticsOk lkM (boot_heap w.params) s.abs.heap&&namesBound (Fast.tw2368527892694137696 PySem.Challenge.rw_seamarks_k38_whole_twins_apart).prog s.abs.heap&&gensDone s.abs&&laidKept (boot_heap w.params) s.abs.heap))=Io Iq) (u.withFollow "special-get-raises" b):=λb u=>by cases b; rwa[WN u os]; rwa[Vi u os]
 have:=h (w.params.followText "special-get-raises") w;(rw[B9] at this;assumption)
set_option maxHeartbeats 0 in
open PySem.W in
def WA(u:n9)(os:Dr):(lkT (u.withFollow "special-get-raises" Iq) os).map (λs=>(lkS s).1)=Io (openGood qv lse).1:=by kernel_rfl
set_option maxHeartbeats 0 in
open PySem.W in
def WG(u:n9)(os:Dr):(lkT (u.withFollow "special-get-raises" Ir) os).map (λs=>(lkS s).1)=Io (openGood qv lse).1:=by kernel_rfl
set_option maxHeartbeats 0 in
open PySem.W in
def TM(w:n9)(os:Dr):(lkT w os).map (λs=>(lkS s).1)=Io (openGood qv lse).1:=by
 have h:∀(b:Bool)(u:n9),(λw:n9=>(lkT w os).map (λs=>(lkS s).1)=Io (openGood qv lse).1) (u.withFollow "special-get-raises" b):=λb u=>by cases b; rwa[WG u os]; rwa[WA u os]
 have:=h (w.params.followText "special-get-raises") w;(rw[B9] at this;assumption)
set_option maxHeartbeats 0 in
open PySem.W in
def WB(u:n9)(os:Dr):(lkT (u.withFollow "special-get-raises" Iq) os).map (λs=>(lkS s).2)=Io (openGood qv lse).2:=by kernel_rfl
set_option maxHeartbeats 0 in
open PySem.W in
def VF(u:n9)(os:Dr):(lkT (u.withFollow "special-get-raises" Ir) os).map (λs=>(lkS s).2)=Io (openGood qv lse).2:=by kernel_rfl
set_option maxHeartbeats 0 in
open PySem.W in
def Uq(w:n9)(os:Dr):(lkT w os).map (λs=>(lkS s).2)=Io (openGood qv lse).2:=by
 have h:∀(b:Bool)(u:n9),(λw:n9=>(lkT w os).map (λs=>(lkS s).2)=Io (openGood qv lse).2) (u.withFollow "special-get-raises" b):=λb u=>by cases b; rwa[VF u os]; rwa[WB u os]
 have:=h (w.params.followText "special-get-raises") w;(rw[B9] at this;assumption)
set_option maxHeartbeats 0 in
open PySem.W in
def Va(u:n9)(os:Dr):(lkT (u.withFollow "special-get-raises" Iq) os).map (λs=>kas.map s.abs.heap.get?)=Io ((KK (u.withFollow "special-get-raises" Iq).params).map λp=>Io p.2):=by kernel_rfl
set_option maxHeartbeats 0 in
open PySem.W in
def VI(u:n9)(os:Dr):(lkT (u.withFollow "special-get-raises" Ir) os).map (λs=>kas.map s.abs.heap.get?)=Io ((KK (u.withFollow "special-get-raises" Ir).params).map λp=>Io p.2):=by kernel_rfl
set_option maxHeartbeats 0 in
open PySem.W in
def UR(w:n9)(os:Dr):(lkT w os).map (λs=>kas.map s.abs.heap.get?)=Io ((KK w.params).map λp=>Io p.2):=by
 have h:∀(b:Bool)(u:n9),(λw:n9=>(lkT w os).map (λs=>kas.map s.abs.heap.get?)=Io ((KK w.params).map λp=>Io p.2)) (u.withFollow "special-get-raises" b):=λb u=>by cases b; rwa[VI u os]; rwa[Va u os]
 have:=h (w.params.followText "special-get-raises") w;(rw[B9] at this;assumption)
set_option maxHeartbeats 0 in
open PySem.W in
def left_ok:LeftO PySem.Challenge.rw_seamarks_k38_whole_twins_apart.row.prog qv lse (λs=>xlAt qv [] s&&recOk (RowW.records (OpenRow.toRowW PySem.Challenge.rw_seamarks_k38_whole_twins_apart.row)) s)
  (λs=>kas.map s.heap.get?) (λw=>(KK w.params).map λp=>Io p.2) 90000:=by
 erw[Zo (boot_open (by kernel_rfl) (by decide) (λs=>by kernel_rfl)) ?a ?b ?c]
 case a =>
  rw[Dy,Cg,Ce];rwa[UL]
 case b =>
  rw[Fast.te4187177175401517315,Dy,Cg,Ce];rwa[λw os=>YU (f:=lkS) (TM w os) (Uq w os)]
 case c =>
  rw[Cg,Ce];rwa[UR]
end Sea
-- BASE
open PySem PySem.Spec L2
open PyProof.Rows hiding St
local macro_rules | `(tactic| symm) => `(tactic| kernel_rfl)
local macro_rules | `(tactic| ac_nf) => `(tactic| decide +kernel)
def y7{c:Prop}{d:Decidable c}(h:¬c){α:Sort _}{a b:α}:ite c a b=b:=if_neg h
def y9{c:Prop}{d:Decidable c}(h:c){α:Sort _}{a b:α}:ite c a b=a:=if_pos h
def x3{p:Prop}[Decidable p](h:p):decide p=true:=decide_eq_true h
def x4{p:Prop}[Decidable p](h:¬p):decide p=false:=decide_eq_false h
def x5{a b:Prop}(h:a)(n:¬a):b:=absurd h n
def x6{α:Type _}[BEq α][LawfulBEq α]{a b:α}:(a==b)=Ir↔a≠b:=beq_eq_false_iff_ne
namespace L2

abbrev Key:=Sum Int g8
def fe:Key->c7->Bool
 | .inl k,v=>HW k v
 | .inr x,v=>Hg x v
def keyH(w:n9):Key->Int
 | .inl k=>hashInt k
 | .inr x=>hashStr w x
def yP:∀{k:Key}{v:c7},fe k v=Iq->(∃ i t,k=BU i/\v=BF i t)\/(∃ x t,k=BV x/\v=AO x t)
 | .inl i,v,h=>by
  obtain⟨t,e⟩:=Value.isInt_shape (k:=i) (v:=v) h;rwa[.inl ⟨i,t,rfl,e⟩]
 | .inr x,v,h=>by
  obtain⟨t,e⟩:=Value.isStrOf_shape (x:=x) (v:=v) h;rwa[.inr ⟨x,t,rfl,e⟩]
def aB(i:Int)(t:Ij):fe (.inl i) (.int i t)=true:=by simp[fe,HW]
def bD(x:g8)(t:Ij):fe (.inr x) (.str x t)=true:=by simp[fe,Hg]
def UE(a b:Int):decide ((BU a:Key)=BU b)=(a == b):=by
 by_cases e:a=b
 ·subst e; simp
 ·have h:¬ (BU a:Key)=BU b:=λq=>e (Sum.inl.inj q);rw[x4 h];exact(x6.mpr e).symm
def Ul(a b:g8):decide ((BV a:Key)=BV b)=decide (a=b):=by
 by_cases e:a=b
 ·subst e; simp
 ·have h:¬ (BV a:Key)=BV b:=λq=>e (Gr q);rw[x4 h,x4 e]
def Tq(a:Int)(b:g8):decide ((BU a:Key)=BV b)=false:=x4 (λq=>nomatch q)
def UU(a:g8)(b:Int):decide ((BV a:Key)=BU b)=false:=x4 (λq=>nomatch q)

def yK(prog:j9)(w:n9):PySem.KeyKind prog w Key where
 is:=fe
 hash:=keyH w
 inj:=λv a b ha hb=>by
  rcases yP ha with ⟨i,t,rfl,rfl⟩ | ⟨x,t,rfl,rfl⟩
  ·rcases yP hb with ⟨j,u,rfl,e⟩ | ⟨y,u,rfl,e⟩
   ·injection e with e1 _; rw[e1]
   ·exact nomatch e
  ·rcases yP hb with ⟨j,u,rfl,e⟩ | ⟨y,u,rfl,e⟩
   ·exact nomatch e
   ·injection e with e1 _; rw[e1]
 byValue:=λk v h=>by
  rcases yP h with ⟨i,t,rfl,rfl⟩ | ⟨x,t,rfl,rfl⟩ <;> rfl
 pyHash:=λhv h=>by
  rcases yP hv with ⟨i,t,rfl,rfl⟩ | ⟨x,t,rfl,rfl⟩
  ·rwa[wpAny_pyHash_int h]
  ·rwa[wpAny_pyHash_str h]
 eqBool:=λhu hv h=>by
  rcases yP hu with ⟨i,t,rfl,rfl⟩ | ⟨x,t,rfl,rfl⟩
  ·rcases yP hv with ⟨j,u,rfl,rfl⟩ | ⟨y,u,rfl,rfl⟩
   ·rw[UE] at h; rwa[F4 h]
   ·rw[Tq] at h; rwa[Fr i t y u _ _ _ _ h]
  ·rcases yP hv with ⟨j,u,rfl,rfl⟩ | ⟨y,u,rfl,rfl⟩
   ·rw[UU] at h; rwa[Fs x t j u _ _ _ _ h]
   ·rw[Ul] at h; rwa[F5 h]
 «strs»:=λk x t v h=>by
  rcases yP h with ⟨i,u,rfl,e⟩ | ⟨y,u,rfl,e⟩
  ·exact nomatch e
  ·injection e with e1 _
   subst e1;cases v <;> rfl

def fu(prog:j9)(w:n9)(i:Int)(t:Ij):(yK prog w).is (.inl i) (.int i t)=true:=aB i t
def wn(prog:j9)(w:n9)(x:g8)(t:Ij):(yK prog w).is (.inr x) (.str x t)=true:=bD x t
end L2

namespace L2

inductive V where
 | non | bl (b:Bool) | int (i:Int) | str (x:g8) | byt (b:Array UInt8) | flt (b:UInt64) | ref (a:b9) | ty (n:String)
 deriving DecidableEq

def xF:V->c7->Prop
 | .non,u=>u=r9
 | .bl b,u=>u=El b
 | .int i,u=>∃ t,u=BF i t
 | .str x,u=>∃ t,u=AO x t
 | .byt b,u=>∃ t,u=Gs b t
 | .flt b,u=>∃ t,u=E3 b t
 | .ref a,u=>u=i9 a
 | .ty n,u=>u=GH n

abbrev yO:List V->List c7->Prop:=F6 xF
def yO.length{xs:List V}{us:List c7}(r:yO xs us):xs.length=us.length:=Fk r
def yO.get:∀{xs:List V}{us:List c7}{i:Nat}{x:V},yO xs us->xs[i]?=Io x->∃ u,us[i]?=Io u/\xF x u
 | _,_,_,_,.nil,e=>by simp at e
 | _,_,0,_,.cons r _,e=>by simp at e; subst e; rwa[_,U,r]
 | _,_,i+1,x,.cons _ t,e=>by
  obtain⟨u,h1,h2⟩:=yO.get (i:=i) (x:=x) t (by simpa using e);exact⟨u,by simpa using h1,h2⟩
def yO.set{x:V}{u:c7}(r:xF x u):∀{xs:List V}{us:List c7}(i:Nat),yO xs us->yO (xs.set i x) (us.set i u)
 | _,_,_,.nil=>.nil
 | _,_,0,.cons _ t=>.cons r t
 | _,_,i+1,.cons q t=>.cons q (yO.set r i t)
def yO.append:∀{xs ys:List V}{us ws:List c7},yO xs us->yO ys ws->yO (xs++ys) (us++ws)
 | _,_,_,_,.nil,s=>s
 | _,_,_,_,.cons r t,s=>.cons r (yO.append t s)
def yO.take:∀{xs:List V}{us:List c7}(n:Nat),yO xs us->yO (xs.take n) (us.take n)
 | _,_,0,_=>.nil
 | _,_,_+1,.nil=>.nil
 | _,_,n+1,.cons r t=>.cons r (yO.take n t)
def yO.drop:∀{xs:List V}{us:List c7}(n:Nat),yO xs us->yO (xs.drop n) (us.drop n)
 | _,_,0,r=>r
 | _,_,_+1,.nil=>.nil
 | _,_,n+1,.cons _ t=>yO.drop n t
def yO.none_of:∀{xs:List V}{us:List c7}{i:Nat},yO xs us->xs[i]?=Ip->us[i]?=none:=λ{xs us i} r e=>by
 have h1:=r.length;have h2:xs.length<=i:=DM.mp e;rwa[DM.mpr (by lia)]

def jz:Option V->Option c7->Prop
 | some v,Io u=>xF v u
 | none,Ip=>True
 | _,_=>False
def KV{κ:Type} : List (κ×V)->List (κ×c7)->Prop:=F6 λ(p:κ×V) (q:κ×c7)=>p.1=q.1/\xF p.2 q.2

def kV:Key->V
 | .inl i=>.int i
 | .inr x=>.str x

inductive HO where
 | lst (xs:List V)
 | tup (xs:List V)
 | dK (kvs:List (Key×V)) | dT (kvs:List (List Key×V))
 | set (S:Int->Bool) (n:Nat)
 | ins (C dx:b9) (fs:List (g8×V))
 | own (x:b9)
 | xd (fs:List (g8×V))
 | met (f x:b9)
 | rng (lo hi:Int)
 | frz (o:AM) (u:HO)
 | tbl (ps:Array c7)
 | ext (φ:o0->Prop)

abbrev Hp:=b9->Option HO
def upd(H:Hp)(a:b9)(o:HO):Hp:=λb=>if b=a then Io o else H b
def zA{H:Hp}{a:b9}{o:HO} : upd H a o a=Io o:=by unfold upd; rw[y9 rfl]
def zH{H:Hp}{a b:b9}{o:HO}(h:b≠a):upd H a o b=H b:=by unfold upd; rw[y7 h]
def oJ{H:Hp}{a b:b9}{o u:HO}(h:H a=Io o)(h':H b=Io u)(d:o≠u):a≠b:=by
 intro e; subst e; rw[h] at h'; rwa[d (o9 h')]
def zF{H:Hp}{a b:b9}{o:HO}(h:H a=Io o)(h':H b=Ip):a≠b:=by
 intro e; subst e; rw[h] at h'; cases h'

section
variable(P:j9)(w:n9)
def xI(H:Hp)(h:o0)(a:b9):HO->Prop
 | .lst xs=>xs.length<=sizeLine/\∃(its:List c7)(n:Nat),yO xs its/\h.get? a=Io { cls:=.type "list",data:=.seq its.toArray n }
 | .tup xs=>xs.length<=sizeLine/\∃ its:List c7,yO xs its/\HF h a its.toArray
 | .dK kvs=>kvs.length<=sizeLine/\(a == sysModules)=Ir/\∃ vs,KV kvs vs/\h.DictOf (yK P w) a vs
 | .dT kvs=>kvs.length<=sizeLine/\(a == sysModules)=Ir/\∃ xs:List (List Key×b9×c7),
   F6 (λ(p:List Key×V) (q:List Key×b9×c7)=>p.1=q.1/\H q.2.1=Io (.tup (p.1.map kV))/\xF p.2 q.2.2) kvs xs /\
   ∃ o es ep,h.get? a=Io o/\o.ExactDict/\o.data=.dict es ep/\es.toList=xs.map (entryOfKey (tupleKind (yK P w)))/\(xs.map (·.1)).Nodup
 | .set S n=>h.SetOf (intKind P w) a S n
 | .ins C dx fs=>H dx=Io (.own a)/\fs.length<=1000/\dx≠a/\h.get? a=Io (Bo C dx) /\
   ∃ mA,h.Ns1 dx mA/\(∀ f,jz (fs.lookup f) (mA f))/\FG mA (fs.map (·.1))
 | .own _=>∃ o,h.get? a=Io o
 | .xd fs=>∃ mA,h.Ns1 a mA/\∀ f,jz (fs.lookup f) (mA f)
 | .rng lo hi=>∃ t u v,h.get? a=Io { cls:=.type "range",data:=.fields #[.int lo t,.int hi u,.int 1 v] }
 | .frz o u=>h.get? a=Io o/\xI H h a u
 | .tbl ps=>h.get? a=Io { cls:=.none,data:=.fields ps }
 | .met f x=>h.get? a=Io (DS (.ref f) (.ref x))
 | .ext φ=>φ h/\(∃ o,h.get? a=Io o)/\∀ h1 h2:o0,φ h1->(∀ o,h1.get? a=Io o->h2.get? a=Io o)->φ h2
def HOk(H:Hp)(h:o0):Prop:=∀ a o,H a=Io o->xI P w H h a o
end

section
variable{P:j9}{w:n9}{H H':Hp}{h h':o0}{a:b9}{o:HO}
def xI.lt(x:xI P w H h a o):a<h.objs.size:=by
 cases o with
 | lst xs=>obtain⟨_,_,_,_,e⟩:=x; rwa[f9 e]
 | tup xs=>obtain⟨_,_,_,p⟩:=x; rwa[p.lt]
 | dK kvs=>obtain⟨_,_,_,_,o,_,_,e,_⟩:=x; rwa[f9 e]
 | dT kvs=>obtain⟨_,_,_,_,o,_,_,e,_⟩:=x; rwa[f9 e]
 | set S n=>obtain⟨o,_,_,_,e,_⟩:=x; rwa[f9 e]
 | ins C dx fs=>obtain⟨_,_,_,e,_⟩:=x; rwa[f9 e]
 | own y=>obtain⟨_,e⟩:=x; rwa[f9 e]
 | xd fs=>obtain⟨_,⟨_,_,_,e,_⟩,_⟩:=x; rwa[f9 e]
 | rng lo hi=>obtain⟨_,_,_,e⟩:=x; rwa[f9 e]
 | frz ob u=>obtain⟨e,_⟩:=x; rwa[f9 e]
 | tbl ps=>exact f9 (show h.get? a=Io _ from x)
 | met f y=>exact f9 (show h.get? a=Io _ from x)
 | ext φ=>obtain⟨_,⟨_,e⟩,_⟩:=x; rwa[f9 e]
def Paired.mapP{α β:Type}{F G:α->β->Prop} : ∀{l₁:List α}{l₂:List β},F6 F l₁ l₂->(∀ a b,F a b->G a b)->F6 G l₁ l₂
 | _,_,.nil,_=>.nil
 | _,_,.cons r t,f=>.cons (f _ _ r) (Paired.mapP t f)
def xI.stay(x:xI P w H h a o)(k:∀ b u,(b=a\/H b=Io (.own a))->h.get? b=Io u->h'.get? b=Io u)
  (ho:∀ b,H b=Io (.own a)->H' b=Io (.own a)) (ht:∀ b xs,H b=Io (.tup xs)->H' b=Io (.tup xs)):xI P w H' h' a o:=by
 induction o with
 | lst xs=>obtain⟨z,its,n,r,e⟩:=x; rwa[z,its,n,r,k _ _ (.inl rfl) e]
 | tup xs=>obtain⟨z,its,r,ob,e,c⟩:=x; rwa[z,its,r,ob,k _ _ (.inl rfl) e,c]
 | dK kvs=>obtain⟨z,y,vs,r,ob,es,ep,e,c⟩:=x; rwa[z,y,vs,r,ob,es,ep,k _ _ (.inl rfl) e,c]
 | dT kvs =>
  obtain⟨z,y,xs,r,ob,es,ep,e,c⟩:=x;rwa[z,y,xs,Paired.mapP r λp q z=>⟨z.1,ht _ _ z.2.1,z.2.2⟩,ob,es,ep,k _ _ (.inl rfl) e,c]
 | set S n=>obtain⟨ob,es,ep,t,e,c⟩:=x; rwa[ob,es,ep,t,k _ _ (.inl rfl) e,c]
 | ins C dx fs =>
  obtain⟨d,z,ne,e,mA,⟨od,es,ep,e2,c⟩,r⟩:=x;rwa[ho _ d,z,ne,k _ _ (.inl rfl) e,mA,⟨od,es,ep,k _ _ (.inr d) e2,c⟩,r]
 | own y=>obtain⟨ob,e⟩:=x; rwa[ob,k _ _ (.inl rfl) e]
 | xd fs=>obtain⟨mA,⟨od,es,ep,e,c⟩,r⟩:=x; rwa[mA,⟨od,es,ep,k _ _ (.inl rfl) e,c⟩,r]
 | rng lo hi=>obtain⟨t,u,v,e⟩:=x; rwa[t,u,v,k _ _ (.inl rfl) e]
 | frz ob u ih=>obtain⟨e,q⟩:=x; rwa[k _ _ (.inl rfl) e,ih q]
 | tbl ps =>
  have e:h.get? a=Io { cls:=.none,data:=.fields ps }:=x;show h'.get? a=Io { cls:=.none,data:=.fields ps };rwa[k a _ (.inl rfl) e]
 | met f y =>
  have e:h.get? a=Io (DS (.ref f) (.ref y)):=x;show h'.get? a=Io (DS (.ref f) (.ref y));rwa[k a _ (.inl rfl) e]
 | ext φ=>obtain⟨p,⟨o,e⟩,st⟩:=x; rwa[st _ _ p λo q=>k _ _ (.inl rfl) q,⟨o,k _ _ (.inl rfl) e⟩,st]
def HOk.lt(x:HOk P w H h)(e:H a=Io o):a<h.objs.size:=(x a o e).lt
def HOk.fresh(x:HOk P w H h)(e:h.objs.size<=a):H a=none:=by
 cases q:H a with
 | none=>rfl
 | some u=>rwa[x5 (m5 (x.lt q) e) (Be _)]
def HOk.kept(x:HOk P w H h)(k:∀ b u,h.get? b=Io u->h'.get? b=Io u):HOk P w H h':=λa o e =>
 (x a o e).stay (λb u _ q=>k b u q) (λ_ q=>q) λ_ _ q=>q
def HOk.laid(x:HOk P w H h)(k:∀ b u,h.get? b=Io u->h'.get? b=Io u)(hp:h.objs.size<=a)(new:xI P w (upd H a o) h' a o):HOk P w (upd H a o) h':=λb u e=>by
 have hn:=x.fresh hp;by_cases hb:b=a
 ·subst hb; rw[zA] at e; cases e; rwa[new]
 ·rw[zH hb] at e;exact(x b u e).stay (λc v _ q=>k c v q) (λc q=>by rw[zH (zF q hn)]; rwa[q]) λc xs q=>by rw[zH (zF q hn)]; rwa[q]
end

def Rd(H:Hp)(a:b9)(u:HO):Prop:=H a=Io u\/∃ o,H a=Io (.frz o u)
def Rd.ok{P:j9}{w:n9}{H:Hp}{h:o0}{a:b9}{u:HO}(r:Rd H a u)(x:HOk P w H h):xI P w H h a u:=by
 rcases r with r | ⟨o,r⟩
 ·rwa[x a u r]
 ·obtain⟨_,q⟩:=x a _ r;rwa[q]
def Mut:Option HO->Prop
 | some (.lst _)=>True
 | some (.dK _)=>True
 | some (.dT _)=>True
 | some (.set _ _)=>True
 | some (.ins _ _ _)=>True
 | some (.ext _)=>True
 | _=>False
section
variable{P:j9}{w:n9}{H:Hp}{h h':o0}{x e:b9}{o':HO}
def HOk.write(ok:HOk P w H h)(mu:Mut (H x))(he:e=x\/H e=Io (.own x))(k:∀ b u,b≠e->h.get? b=Io u->h'.get? b=Io u)(heo:∃ u,h'.get? e=Io u)
  (new:xI P w (upd H x o') h' x o'):HOk P w (upd H x o') h':=λb u q=>by
 have nown:∀ c y,H c=Io (.own y)->c≠x:=λc y r z=>by subst z; rw[r] at mu; rwa[mu]
 have ntup:∀ c xs,H c=Io (.tup xs)->c≠x:=λc xs r z=>by subst z; rw[r] at mu; rwa[mu]
 by_cases hb:b=x
 ·subst hb; rw[zA] at q; cases q; rwa[new]
 ·rw[zH hb] at q;by_cases hbe:b=e
  ·have q':H b=Io (.own x):=by
    rcases he with z | z
    ·rwa[x5 (hbe.trans z) hb]
    ·rw[hbe]; rwa[z]
   rw[q] at q'; cases q';obtain⟨v,hv⟩:=heo;rwa[v,by rw[hbe]; exact hv]
  ·refine(ok b u q).stay (λc v hc r=>k c v ?_ r) (λc r=>by rw[zH (nown c b r)]; rwa[r]) λc xs r=>by rw[zH (ntup c xs r)]; rwa[r]
   rcases hc with rfl | hc
   ·rwa[hbe]
   ·rintro rfl;rcases he with z | z
    ·rwa[nown c b hc z]
    ·rw[hc] at z; cases z; rwa[hb rfl]
end

structure Un(fs ex:List b9)(H H':Hp)(h h':o0):Prop where
 keep:∀ b o,h.get? b=Io o->H b=Ip->b ∉ fs->b ∉ ex->h'.get? b=Io o
 slot:∀ b o,h.get? b=Io o->H b=Ip->b∈fs->b ∉ ex->∃ sl,h'.get? b=Io { o with slots:=sl }
 free:∀ b o,h.get? b=Io o->H b=Ip->b ∉ ex->H' b=Ip
 there:∀ b o,h.get? b=Io o->b ∉ ex->∃ o',h'.get? b=Io o'
 tups:∀ b xs,H b=Io (.tup xs)->H' b=Io (.tup xs)
 frzs:∀ b o u,H b=Io (.frz o u)->H' b=Io (.frz o u)
 tbls:∀ b ps,H b=Io (.tbl ps)->∃ more,H' b=Io (.tbl (ps++more))
section
variable{fs fs' ex ex':List b9}{H H1 H2:Hp}{h h1 h2 h':o0}{a x e:b9}{o:HO}
def Un.any(u:Un fs ex H H1 h h1){b:b9}{ob:AM}(q:h.get? b=Io ob)(n:H b=Ip)(hx:b ∉ ex):∃ sl,h1.get? b=Io { ob with slots:=sl }:=by
 by_cases hb:b∈fs
 ·rwa[u.slot b ob q n hb hx]
 ·rwa[ob.slots,u.keep b ob q n hb hx]
def Un.kept(k:∀ b u,h.get? b=Io u->h'.get? b=Io u):Un fs ex H H h h' :=
 ⟨λb ob q _ _ _=>k b ob q,λb ob q _ _ _=>⟨ob.slots,k b ob q⟩,λ_ _ _ n _=>n,λb ob q _=>⟨ob,k b ob q⟩,λ_ _ q=>q,λ_ _ _ q=>q,λ_ ps q=>⟨#[],by rw[q]; simp⟩⟩
def Un.refl:Un fs ex H H h h:=Un.kept λ_ _ q=>q
def Un.laid(k:∀ b u,h.get? b=Io u->h'.get? b=Io u)(hp:h.objs.size<=a)(hn:H a=Ip):Un fs ex H (upd H a o) h h' where
 keep:=λb u q _ _ _=>k b u q
 slot:=λb u q _ _ _=>⟨u.slots,k b u q⟩
 free:=λb u q n _=>by rw[zH (l6 (m5 (f9 q) hp))]; rwa[n]
 there:=λb u q _=>⟨u,k b u q⟩
 tups:=λb xs q=>by rw[zH (zF q hn)]; rwa[q]
 frzs:=λb u xs q=>by rw[zH (zF q hn)]; rwa[q]
 tbls:=λb ps q=>⟨#[],by rw[zH (zF q hn),q]; simp⟩
def Un.write(mu:Mut (H x))(he:e=x\/H e=Io (.own x))(k:∀ b u,b≠e->h.get? b=Io u->h'.get? b=Io u)(heo:∃ u,h'.get? e=Io u):Un fs ex H (upd H x o) h h':=by
 have hx:∀ b,H b=Ip->b≠x:=λb n z=>by subst z; rw[n] at mu; rwa[mu]
 have hb:∀ b,H b=Ip->b≠e:=λb n z=>by
  subst z;rcases he with r | r
  ·rwa[hx b n r]
  ·rw[n] at r; cases r
 have hm:∀ b u,H b=Io u->¬ Mut (Io u)->b≠x:=λb u q nm z=>by subst z; rw[q] at mu; rwa[nm mu]
 refine⟨λb u q n _ _=>k b u (hb b n) q,λb u q n _ _=>⟨u.slots,k b u (hb b n) q⟩,λb u q n _=>by rw[zH (hx b n)]; exact n,λb u q _=>?_,
  λb xs q=>by rw[zH (hm b _ q λz=>z)]; exact q,λb u xs q=>by rw[zH (hm b _ q λz=>z)]; exact q,λb ps q=>⟨#[],by rw[zH (hm b _ q λz=>z),q]; simp⟩⟩
 by_cases hbe:b=e
 ·subst hbe; rwa[heo]
 ·rwa[u,k b u hbe q]
end

def trk(h:o0)(H:Hp):List b9:=(Aj h.objs.size).filter λa=>(H a).isSome
def YH(h:o0)(H:Hp):o0:=Ez h (trk h H)
def Zl(h:o0)(H:Hp):(YH h H).objs.size=h.objs.size:=PySem.W.hideAll_size _ _
def Xo{h:o0}{H:Hp}{b:b9}{o:AM}(e:h.get? b=Io o)(n:H b=Ip):(YH h H).get? b=Io o :=
 Fe _ e λhm=>by
  have q:(H b).isSome=true:=(BG.mp hm).2;rw[n] at q; simp at q
def Vk{h:o0}{H:Hp}{b:b9}{o:AM}(e:(YH h H).get? b=Io o):h.get? b=Io o/\H b=none:=by
 have e':h.get? b=Io o:=Ft (trk h H) e;exists e';cases q:H b with
 | none=>rfl
 | some x =>
  have hm:b∈trk h H:=BG.mpr ⟨Az.mpr (f9 e'),by simp[q]⟩;have z:(YH h H).get? b=none:=PySem.W.hideAll_none (trk h H) hm;rw[z] at e; cases e

end L2

namespace L2

structure Mod(K:b7)(mg:g8->Option c7)(base:o0):Prop where
 kin:K.In base
 glob:base.Ns mainGlobals mg
 blt:∃ mb,base.Ns builtinsNs mb/\∀ x:g8,x ≠ "__name__" -> mb x=bootBuiltins x
 nolimit:base.NoLimit

structure Cx where
 prog:j9
 w:n9
 K:b7
 mg:g8->Option c7
 base:o0
 A:Ac
 N:List g8
 s₀:d3
 H₀:Hp
 env:Do
 outer:List Do
 stack:List Do
 ex:List b9
 fn:g8->Bool
 calm:Bool
 pn:List (b9×AM)
 xe:c7->d3->Prop
def frs(l:List Do):List b9:=l.filterMap (·.frame)
abbrev Cx.fs(X:Cx):List b9:=frs X.outer

def Vis(sc:CL)(x:g8):Prop:=sc.names.lookup x=Io .local\/sc.names.lookup x=Io .cell\/sc.names.lookup x=Io .free
def Loc(sc:CL)(x:g8):Prop:=sc.names.lookup x=Io .local\/sc.names.lookup x=Io .cell
def Look(env:Do)(h:o0)(m:g8->Option c7)(x:g8)(u:c7):Prop :=
 (env.kindOf x=Io .local/\m x=Io u)\/((env.kindOf x=Io .cell\/env.kindOf x=Io .free)/\∃ c,env.cells.lookup x=Io c/\h.IsCell c (Io u))

structure Cx.Ok(X:Cx):Prop where
 mod:Mod X.K X.mg X.base
 kind:X.env.scope.kind=.function
 glob:X.env.globals=mainGlobals
 blt:X.env.builtins=builtinsNs
 above:X.s₀.heap.objs.size<=X.env.locals
 inj:∀ x y c,X.env.cells.lookup x=Io c->X.env.cells.lookup y=Io c->x=y
 has:∀ x,(X.env.kindOf x=Io .cell\/X.env.kindOf x=Io .free)->∃ c,X.env.cells.lookup x=Io c
 cab:∀ x c,X.fn x=Iq->X.env.cells.lookup x=Io c->X.s₀.heap.objs.size<=c
 hd:X.calm=Iq->X.A.handled=Ip
 frames:X.A.frames=Io X.stack
 stk:X.stack=X.outer\/(X.stack=X.env::X.outer/\X.env.frame=Io X.env.locals)
 exf:∀ b∈X.ex,b≠X.env.locals/\∀ x c,X.env.cells.lookup x=Io c->c≠b
 bs:∀ b o,X.base.get? b=Io o->X.s₀.heap.get? b=Io o/\X.H₀ b=Ip
 bsz:X.base.objs.size<=X.s₀.heap.objs.size
 noex:∀ b o,X.base.get? b=Io o->b ∉ X.ex
 exfs:∀ b∈X.ex,b ∉ X.fs
 funs:X.s₀.heap.FunFrames X.base X.outer
 frf:∀ b∈X.fs,X.H₀ b=Ip

structure Inv(X:Cx)(Is:List (b9×AM))(σ:List (Option V))(H:Hp)(s:d3):Prop where
 ok:X.Ok
 os:s.os=X.s₀.os
 bare:Du s.gens
 base:Un X.fs X.ex X.H₀ H X.s₀.heap s.heap
 loc:∃ m,s.heap.Ns X.env.locals m/\∀(i:Nat)(x:g8)(v:V),X.N[i]?=Io x->σ[i]?=Io (Io v)->Vis X.env.scope x->∃ u,xF v u/\Look X.env s.heap m x u
 cell:∀ x c,X.env.cells.lookup x=Io c->∃ v,s.heap.IsCell c v
 free:H X.env.locals=Ip
 freeC:∀ x c,X.env.cells.lookup x=Io c->H c=Ip
 pin:∀ p∈X.pn++Is,s.heap.get? p.1=Io p.2/\H p.1=Ip/\p.1≠X.env.locals/\p.1 ∉ X.fs/\∀ v,p.2.data≠.cell v
 hok:HOk X.prog X.w H s.heap
 len:σ.length=X.N.length

section
variable{X:Cx}{Is:List (b9×AM)}{σ:List (Option V)}{H H':Hp}{s:d3}{h':o0}

def Cx.Ok.nofr(ok:X.Ok){b:b9}{o:AM}(e:X.base.get? b=Io o):b ∉ X.fs:=λhb=>by
 have:=(ok.funs.mem hb).1;rw[e] at this; cases this
def Inv.bs(I:Inv X Is σ H s):∀ b o,X.base.get? b=Io o->s.heap.get? b=Io o/\H b=none:=λb o e =>
 ⟨I.base.keep b o (I.ok.bs b o e).1 (I.ok.bs b o e).2 (I.ok.nofr e) (I.ok.noex b o e),I.base.free b o (I.ok.bs b o e).1 (I.ok.bs b o e).2 (I.ok.noex b o e)⟩
def Inv.bk(I:Inv X Is σ H s):∀ b o,X.base.get? b=Io o->s.heap.get? b=Io o:=λb o e=>(I.bs b o e).1
def Inv.mod(I:Inv X Is σ H s):Mod X.K X.mg X.base:=I.ok.mod
def Inv.kIn(I:Inv X Is σ H s):X.K.In s.heap:=I.ok.mod.kin.keeps I.bk
def Inv.lt(I:Inv X Is σ H s):X.env.locals<s.heap.objs.size:=let ⟨_,hn,_⟩:=I.loc; hn.lt
def Inv.sz(I:Inv X Is σ H s):X.s₀.heap.objs.size<=s.heap.objs.size:=j7 I.ok.above (BI I.lt)
def Inv.nofs(I:Inv X Is σ H s){a:b9}(h:s.heap.objs.size<=a):a ∉ X.fs:=λhb=>by
 obtain⟨_,o,ho,_⟩:=I.ok.funs.mem hb;rwa[x5 (m5 (f9 ho) (j7 I.sz h)) (Be _)]
def Inv.cne(I:Inv X Is σ H s):∀ x c,X.env.cells.lookup x=Io c->c≠X.env.locals:=λx c e z=>by
 obtain⟨v,o,ho,hd⟩:=I.cell x c e;obtain⟨m,⟨o',es,ep,ho',hd',_⟩,_⟩:=I.loc;rw[z,ho'] at ho; cases ho; rw[hd'] at hd; cases hd
def Inv.funs(I:Inv X Is σ H s):s.heap.FunFrames X.base X.outer:=by
 have all:∀(l:List Do),(∀ b∈frs l,b∈X.fs)->X.s₀.heap.FunFrames X.base l->s.heap.FunFrames X.base l:=by
  intro l
  induction l with
  | nil=>intro _ _; trivial
  | cons env r ih =>
   intro hs hl;obtain⟨hk,⟨L,o,hf,hn,ho,hd⟩,hr⟩:=hl;have hL:L∈X.fs:=hs L (by unfold frs; rw[A6,hf]; rwa[AK]);obtain⟨sl,e⟩:=I.base.slot L o ho (I.ok.frf L hL) hL λz=>I.ok.exfs L z hL;rwa[hk,⟨L,_,hf,hn,e,hd⟩,ih (λb hb=>hs b (by unfold frs; rw[A6,hf]; exact Ad _ hb)) hr]
 rwa[all X.outer (λ_ hb=>hb) I.ok.funs]

def Inv.stack(I:Inv X Is σ H s):s.heap.FunFrames X.base X.stack:=by
 rcases I.ok.stk with e | ⟨e,hf⟩
 ·rw[e]; rwa[I.funs]
 ·rw[e];obtain⟨m,hn,_⟩:=I.loc;erw[.cons (by rw[I.ok.kind]; decide) hf hn ?_ I.funs];rwa[C6 (j7 I.ok.bsz I.ok.above)]
def Inv.stkSub(I:Inv X Is σ H s):∀ b∈frs X.stack,b∈X.env.locals::X.fs:=λb hb=>by
 rcases I.ok.stk with e | ⟨e,hf⟩
 ·rw[e] at hb; rwa[Ad _ hb]
 ·rw[e] at hb;unfold frs at hb;rw[A6,hf] at hb;rwa[hb]
def Inv.stkFree(I:Inv X Is σ H s):∀ b∈frs X.stack,H b=none:=λb hb=>by
 rcases i7.mp (I.stkSub b hb) with e | hb
 ·rw[e]; rwa[I.free]
 ·obtain⟨_,o,ho,_⟩:=I.ok.funs.mem hb;rwa[I.base.free b o ho (I.ok.frf b hb) λz=>I.ok.exfs b z hb]

def Inv.step{g':Array GenState}{t':Nat}{d':Drawn}{ch:List b9}(I:Inv X Is σ H s)
  (hch:∀ b∈ch,(b∈X.ex\/X.s₀.heap.objs.size<=b)/\b≠X.env.locals/\(∀ x c,X.env.cells.lookup x=Io c->c≠b)/\∀ p∈X.pn++Is,p.1≠b)
  (keep:∀ b o,b≠X.env.locals->b ∉ X.fs->b ∉ ch->s.heap.get? b=Io o->H b=Ip->h'.get? b=Io o)
  (slot:∀ b o,b≠X.env.locals->b∈X.fs->b ∉ ch->s.heap.get? b=Io o->H b=Ip->∃ sl,h'.get? b=Io { o with slots:=sl }) (free:∀ b o,b ∉ ch->s.heap.get? b=Io o->H b=Ip->H' b=Ip)
  (there:∀ b o,b ∉ ch->s.heap.get? b=Io o->∃ o',h'.get? b=Io o')
  (tups:∀ b xs,H b=Io (.tup xs)->H' b=Io (.tup xs)) (frzs:∀ b o u,H b=Io (.frz o u)->H' b=Io (.frz o u)) (tbls:∀ b ps,H b=Io (.tbl ps)->∃ more,H' b=Io (.tbl (ps++more)))
  (ns:∀ m,s.heap.Ns X.env.locals m->h'.Ns X.env.locals m) (hok:HOk X.prog X.w H' h') (hg:Du g') :
  Inv X Is σ H' { s with heap:=h',gens:=g',drawn:=d',toks:=t' }:=by
 have neL:∀ b o,X.s₀.heap.get? b=Io o->b≠X.env.locals:=λb o e=>l6 (m5 (f9 e) I.ok.above);have neC:∀ b o,X.s₀.heap.get? b=Io o->b ∉ X.ex->b ∉ ch:=λb o e hx hb=>by
  rcases (hch b hb).1 with z | z
  ·rwa[hx z]
  ·rwa[x5 (m5 (f9 e) z) (Be _)]
 have cellK:∀ x c,X.env.cells.lookup x=Io c->∀ v,s.heap.IsCell c v->h'.IsCell c v:=λx c e v ⟨o,ho,hd⟩=>by
  have nch:c ∉ ch:=λz=>(hch c z).2.2.1 x c e rfl;by_cases hc:c∈X.fs
  ·obtain⟨sl,q⟩:=slot c o (I.cne x c e) hc nch ho (I.freeC x c e);rwa[_,q,hd]
  ·rwa[o,keep c o (I.cne x c e) hc nch ho (I.freeC x c e),hd]
 erw[I.ok,I.os,hg,⟨λb o e n hb hx=>?_,λb o e n hb hx=>?_,λb o e n hx=>?_,λb o e hx=>?_,λb xs e=>tups b xs (I.base.tups b xs e),λb o xs e=>frzs b o xs (I.base.frzs b o xs e),λb ps e=>?_⟩,?_,λx c e=>?_,?_,λx c e=>?_,λp hp=>?_,hok,I.len]
 ·rwa[keep b o (neL b o e) hb (neC b o e hx) (I.base.keep b o e n hb hx) (I.base.free b o e n hx)]
 ·obtain⟨sl,e1⟩:=I.base.slot b o e n hb hx;obtain⟨sl',e2⟩:=slot b _ (neL b o e) hb (neC b o e hx) e1 (I.base.free b o e n hx);rwa[sl',e2]
 ·obtain⟨o',e1⟩:=I.base.there b o e hx;rwa[free b o' (neC b o e hx) e1 (I.base.free b o e n hx)]
 ·obtain⟨o',e1⟩:=I.base.there b o e hx;rwa[there b o' (neC b o e hx) e1]
 ·obtain⟨m1,e1⟩:=I.base.tbls b ps e;obtain⟨m2,e2⟩:=tbls b _ e1;rwa[m1++m2,by rw[e2,Array.append_assoc]]
 ·obtain⟨m,hn,hl⟩:=I.loc;erw[m,ns m hn,λi x v e1 e2 e3=>?_];obtain⟨u,r,l⟩:=hl i x v e1 e2 e3;exists u,r;rcases l with l | ⟨k,c,e,z⟩
  ·rwa[.inl l]
  ·rwa[.inr ⟨k,c,e,cellK x c e _ z⟩]
 ·obtain⟨v,z⟩:=I.cell x c e;rwa[v,cellK x c e v z]
 ·obtain⟨m,⟨o,_,_,ho,_⟩,_⟩:=I.loc;rwa[free _ o (λz=>(hch _ z).2.1 rfl) ho I.free]
 ·obtain⟨v,o,ho,hd⟩:=I.cell x c e;rwa[free c o (λz=>(hch c z).2.2.1 x c e rfl) ho (I.freeC x c e)]
 ·obtain⟨e,n,ne,nf,d⟩:=I.pin p hp;have nch:p.1 ∉ ch:=λz=>(hch p.1 z).2.2.2 p hp rfl;rwa[keep p.1 p.2 ne nf nch e n,free p.1 p.2 nch e n,ne,nf,d]
def Inv.un{t':Nat}(I:Inv X Is σ H s)(u:Un X.fs [] H H' s.heap h')(hok:HOk X.prog X.w H' h'):Inv X Is σ H' { s with heap:=h',toks:=t' }:=by
 obtain⟨m,⟨o,es,ep,ho,r⟩,_⟩:=id I.loc;obtain⟨sl,hL⟩:=u.any ho I.free (by simp);exact I.step (g':=s.gens) (d':=s.drawn) (ch:=[]) (λ_ z=>nomatch z) (λb o _ hb _ e n=>u.keep b o e n hb (by simp)) (λb o _ hb _ e n=>u.slot b o e n hb (by simp)) (λb o _ e n=>u.free b o e n (by simp)) (λb o _ e=>u.there b o e (by simp)) u.tups u.frzs u.tbls (λm' hm=>by
  obtain⟨o',es',ep',ho',r'⟩:=hm;rw[ho] at ho'; cases ho';rwa[_,es',ep',hL,r']) hok I.bare
def Inv.call{g':Array GenState}{t':Nat}{d':Drawn}{ch:List b9}(I:Inv X Is σ H s)(u:Un (frs X.stack) ch H H' s.heap h')(hok:HOk X.prog X.w H' h')(hg:Du g')
  (hch:∀ b∈ch,(b∈X.ex\/X.s₀.heap.objs.size<=b)/\b≠X.env.locals/\(∀ x c,X.env.cells.lookup x=Io c->c≠b)/\∀ p∈X.pn++Is,p.1≠b) :
  Inv X Is σ H' { s with heap:=h',gens:=g',drawn:=d',toks:=t' }:=by
 obtain⟨m,⟨o,es,ep,ho,r⟩,_⟩:=id I.loc;obtain⟨sl,hL⟩:=u.any ho I.free λz=>(hch _ z).2.1 rfl;exact I.step (ch:=ch) hch (λb o hL hb hc e n=>u.keep b o e n (λz=>(i7.mp (I.stkSub b z)).elim hL hb) hc) (λb o _ _ hc e n=>u.any e n hc) (λb o hc e n=>u.free b o e n hc) (λb o hc e=>u.there b o e hc) u.tups u.frzs u.tbls (λm' hm=>by
  obtain⟨o',es',ep',ho',r'⟩:=hm;rw[ho] at ho'; cases ho';rwa[_,es',ep',hL,r']) hok hg
def Inv.turned{t':Nat}{it:b9}(I:Inv X Is σ H s)(k:∀ b o,b≠it->s.heap.get? b=Io o->h'.get? b=Io o)(hn:H it=Ip)(hL:it≠X.env.locals)
  (h1:it∈X.ex\/X.s₀.heap.objs.size<=it) (h2:∀ x c,X.env.cells.lookup x=Io c->c≠it) (h3:∀ p∈X.pn++Is,p.1≠it):Inv X Is σ H { s with heap:=h',toks:=t' }:=by
 have nit:∀ b u,H b=Io u->b≠it:=λb u e z=>by rw[z,hn] at e; cases e
 refine I.step (g':=s.gens) (d':=s.drawn) (ch:=[it]) (λb hb=>?_) (λb o _ _ hc e _=>k b o (λz=>hc (by simp[z])) e) (λb o _ _ hc e _=>⟨o.slots,k b o (λz=>hc (by simp[z])) e⟩) (λ_ _ _ _ n=>n)
  (λb o hc e=>⟨o,k b o (λz=>hc (by simp[z])) e⟩) (λ_ _ e=>e) (λ_ _ _ e=>e) (λb ps e=>⟨#[],by rw[e]; simp⟩) (λm hm=>?_) (λb u e=>?_) I.bare
 ·have e:b=it:=by simpa using hb
  subst e;rwa[h1,hL,h2,h3]
 ·obtain⟨o,es,ep,ho,r⟩:=hm;rwa[o,es,ep,k _ o (AJ hL) ho,r]
 ·refine(I.hok b u e).stay (λc v hc q=>k c v ?_ q) (λ_ q=>q) λ_ _ q=>q;rcases hc with z | z
  ·rw[z]; rwa[nit b u e]
  ·rwa[nit c _ z]
def Inv.tok(I:Inv X Is σ H s)(t:Nat):Inv X Is σ H { s with toks:=t }:=I.un (h':=s.heap) (t':=t) Un.refl I.hok
def Inv.kept{t':Nat}(I:Inv X Is σ H s)(k:∀ b u,s.heap.get? b=Io u->h'.get? b=Io u):Inv X Is σ H { s with heap:=h',toks:=t' }:=I.un (Un.kept k) (I.hok.kept k)
def Inv.laid{a:b9}{o:HO}{t':Nat}(I:Inv X Is σ H s)(k:∀ b u,s.heap.get? b=Io u->h'.get? b=Io u)(hp:s.heap.objs.size<=a)(new:xI X.prog X.w (upd H a o) h' a o) :
  Inv X Is σ (upd H a o) { s with heap:=h',toks:=t' }:=I.un (Un.laid k hp (I.hok.fresh hp)) (I.hok.laid k hp new)
def Inv.write{x e:b9}{o:HO}{t':Nat}(I:Inv X Is σ H s)(mu:Mut (H x))(he:e=x\/H e=Io (.own x))(k:∀ b u,b≠e->s.heap.get? b=Io u->h'.get? b=Io u)(heo:∃ u,h'.get? e=Io u)
  (new:xI X.prog X.w (upd H x o) h' x o):Inv X Is σ (upd H x o) { s with heap:=h',toks:=t' }:=I.un (Un.write mu he k heo) (I.hok.write mu he k heo new)
def Inv.pins_of{pins':List (b9×AM)}(I:Inv X Is σ H s)(h:∀ p∈pins',s.heap.get? p.1=Io p.2/\H p.1=Ip/\p.1≠X.env.locals/\p.1 ∉ X.fs/\∀ v,p.2.data≠.cell v):Inv X pins' σ H s :=
 ⟨I.ok,I.os,I.bare,I.base,I.loc,I.cell,I.free,I.freeC,λp hp=>(m7.mp hp).elim (λz=>I.pin p (BJ _ z)) (h p),I.hok,I.len⟩

def eO{N:List g8}(hN:N.Nodup){i j:Nat}{x:g8}(a:N[i]?=Io x)(b:N[j]?=Io x):i=j:=by
 obtain⟨h1,e1⟩:=g9.mp a;obtain⟨h2,e2⟩:=g9.mp b;exact(D9 hN).mp (e1.trans e2.symm)

def iz{M:HG}{A:Ac}{E:c7->d3->Prop}{i:Nat}{x:g8}{v:V}{u:c7}{Q:Unit->d3->Prop}(I:Inv X Is σ H s)(hN:X.N.Nodup)(hi:X.N[i]?=Io x)(hx:Loc X.env.scope x)(r:xF v u)
  (h:∀ s',Inv X Is (σ.set i (Io v)) H s'->(∃ a,A3 a s.heap s'.heap/\(a=X.env.locals\/X.env.cells.lookup x=Io a))->Q () s') (hf:X.fn x=Iq\/X.env.scope.names.lookup x=Io .local:=by first | exact .inl rfl | exact .inr rfl | assumption):wpAny M A (storeName X.env x u) Q E s:=by
 obtain⟨m,hn,hl⟩:=id I.loc;have hcls:(X.env.scope.kind == .class||(X.env.scope.kind == .module&&X.env.locals != X.env.globals))=false:=by rw[I.ok.kind]; rfl
 have hiσ:i<σ.length:=by rw[I.len]; exact(g9.mp hi).1
 have cne:=I.cne;have tracked:∀{a:b9}{h':o0},(∃ o,s.heap.get? a=Io o/\H a=Ip)->A3 a s.heap h'->HOk X.prog X.w H h':=λ{a h'} ha hs b ob e=>by
  obtain⟨_,_,hfree⟩:=ha;refine(I.hok b ob e).stay (λc w' hc q=>(hs.2 c ?_).trans q) (λ_ q=>q) λ_ _ q=>q;rintro rfl;rcases hc with rfl | hc
  ·rw[hfree] at e; cases e
  ·rw[hfree] at hc; cases hc
 rcases hx with hk | hk
 ·erw[wpAny_storeName_local hk hn (λh' hn' hs=>?_) hcls];obtain⟨oL,_,_,hoL,_⟩:=id hn;refine h _ ⟨I.ok,I.os,I.bare,⟨λb o e n hb hx=>?_,λb o e n hb hx=>?_,I.base.free,λb o e hx=>?_,I.base.tups,I.base.frzs,I.base.tbls⟩,⟨_,hn',λj y v' e1 e2 e3=>?_⟩,λy c e=>?_,I.free,I.freeC,λp hp=>?_,tracked ⟨oL,hoL,I.free⟩ hs,by simpa using I.len⟩ ⟨_,hs,.inl rfl⟩
  ·exact(hs.2 b (l6 (m5 (f9 e) I.ok.above))).trans (I.base.keep b o e n hb hx)
  ·obtain⟨sl,e1⟩:=I.base.slot b o e n hb hx;rwa[sl,(hs.2 b (l6 (m5 (f9 e) I.ok.above))).trans e1]
  ·obtain⟨o',e1⟩:=I.base.there b o e hx;rwa[o',(hs.2 b (l6 (m5 (f9 e) I.ok.above))).trans e1]
  ·by_cases hj:j=i
   ·subst hj;rw[hi] at e1; cases e1;rw[CP hiσ] at e2;cases e2;rwa[u,r,.inl ⟨hk,by simp⟩]
   ·rw[E4 (AJ hj)] at e2;obtain⟨u',r',q⟩:=hl j y v' e1 e2 e3;exists u',r';rcases q with ⟨k,e⟩ | ⟨k,c,e,z⟩
    ·erw[.inl ⟨k,?_⟩];have:y≠x:=λe=>hj (eO hN e1 (e ▸ hi));simp[this,e]
    ·rwa[.inr ⟨k,c,e,z.sameBut hs (cne y c e)⟩]
  ·obtain⟨w',z⟩:=I.cell y c e;rwa[w',z.sameBut hs (cne y c e)]
  ·obtain⟨e,n,ne,nf,d⟩:=I.pin p hp;rwa[(hs.2 p.1 ne).trans e,n,ne,nf,d]
 ·have hfn:X.fn x=true:=by
   rcases hf with z | z
   ·rwa[z]
   ·rw[z] at hk; cases hk
  obtain⟨c,hc⟩:=I.ok.has x (.inl hk);obtain⟨w',z⟩:=I.cell x c hc;erw[wpAny_storeName_cell I.ok.kind hk hc z (λh' hc' hs=>?_)];obtain⟨oc,hoc,hocd⟩:=id z;refine h { s with heap:=h' } ⟨I.ok,I.os,I.bare,⟨λb o e n hb hx=>?_,λb o e n hb hx=>?_,I.base.free,λb o e hx=>?_,I.base.tups,I.base.frzs,I.base.tbls⟩,⟨m,hn.sameBut hs (AJ (cne x c hc)),λj y v' e1 e2 e3=>?_⟩,λy c' e=>?_,I.free,I.freeC,λp hp=>?_,tracked ⟨oc,hoc,I.freeC x c hc⟩ hs,by simpa using I.len⟩ ⟨c,hs,.inr hc⟩
  ·exact(hs.2 b (l6 (m5 (f9 e) (I.ok.cab x c hfn hc)))).trans (I.base.keep b o e n hb hx)
  ·obtain⟨sl,e1⟩:=I.base.slot b o e n hb hx;rwa[sl,(hs.2 b (l6 (m5 (f9 e) (I.ok.cab x c hfn hc)))).trans e1]
  ·obtain⟨o',e1⟩:=I.base.there b o e hx;rwa[o',(hs.2 b (l6 (m5 (f9 e) (I.ok.cab x c hfn hc)))).trans e1]
  ·by_cases hj:j=i
   ·subst hj;rw[hi] at e1; cases e1;rw[CP hiσ] at e2;cases e2;rwa[u,r,.inr ⟨.inl hk,c,hc,hc'⟩]
   ·rw[E4 (AJ hj)] at e2;obtain⟨u',r',q⟩:=hl j y v' e1 e2 e3;exists u',r';rcases q with q | ⟨k,c',e,z'⟩
    ·rwa[.inl q]
    ·erw[.inr ⟨k,c',e,z'.sameBut hs ?_⟩];rintro rfl;rwa[hj (eO hN e1 (I.ok.inj _ _ _ e hc ▸ hi))]
  ·by_cases hcc:c'=c
   ·subst hcc; rwa[_,hc']
   ·obtain⟨w2,z2⟩:=I.cell y c' e;rwa[w2,z2.sameBut hs hcc]
  ·obtain⟨e,n,ne,nf,d⟩:=I.pin p hp;erw[(hs.2 p.1 ?_).trans e,n,ne,nf,d];intro q;rw[q,hoc] at e;have q':oc=p.2:=o9 e;rwa[d w' (by rw[<- q']; exact hocd)]
def pG{M:HG}{A:Ac}{E:c7->d3->Prop}{i:Nat}{x:g8}{v:V}{u:c7}{Q:Unit->d3->Prop}(I:Inv X Is σ H s)(hN:X.N.Nodup)(hi:X.N[i]?=Io x)(hx:Loc X.env.scope x)(r:xF v u)
  (h:∀ s',Inv X Is (σ.set i (Io v)) H s'->Q () s') (hf:X.fn x=Iq\/X.env.scope.names.lookup x=Io .local:=by first | exact .inl rfl | exact .inr rfl | assumption):wpAny M A (storeName X.env x u) Q E s :=
 iz I hN hi hx r (λs' I' _=>h s' I') hf
def Inv.call'{s':d3}{ch:List b9}(I:Inv X Is σ H s)(ho:s'.os=s.os)(u:Un (frs X.stack) ch H H' s.heap s'.heap)(hok:HOk X.prog X.w H' s'.heap)(hg:Du s'.gens)
  (hch:∀ b∈ch,(b∈X.ex\/X.s₀.heap.objs.size<=b)/\b≠X.env.locals/\(∀ x c,X.env.cells.lookup x=Io c->c≠b)/\∀ p∈X.pn++Is,p.1≠b):Inv X Is σ H' s':=by
 obtain⟨h',g',d',t',o'⟩:=s';have e:o'=s.os:=ho;subst e;rwa[I.call (g':=g') (t':=t') (d':=d') u hok hg hch]
end

abbrev XK:=c7->Option b9->Hp->Prop
abbrev St:=List (Option V)
abbrev VK:=V->Hp->Prop
abbrev TE:=St->Hp->VK->Prop
abbrev TT:=St->Hp->(Bool->Hp->Prop)->Prop
abbrev TA:=St->Hp->(List V->Hp->Prop)->Prop
structure bu where
 nx:St->Hp->Prop
 rt:VK
 bk:St->Hp->Prop:=λ_ _=>False
 ct:St->Hp->Prop:=λ_ _=>False
abbrev TS:=bu->St->Hp->Prop

def EP(X:Cx)(Is:List (b9×AM))(σ:St)(Q:VK)(u:c7)(s':d3):Prop:=∃ v H',Inv X Is σ H' s'/\xF v u/\Q v H'
def TP(X:Cx)(Is:List (b9×AM))(σ:St)(Q:Bool->Hp->Prop)(b:Bool)(s':d3):Prop:=∃ H',Inv X Is σ H' s'/\Q b H'
def AP(X:Cx)(Is:List (b9×AM))(σ:St)(Q:List V->Hp->Prop)(us:List c7)(s':d3):Prop:=∃ vs H',Inv X Is σ H' s'/\yO vs us/\Q vs H'
def SP(X:Cx)(Is:List (b9×AM))(D:bu)(f:Flow)(s':d3):Prop :=
 match f with
 | .next=>∃ σ' H',Inv X Is σ' H' s'/\D.nx σ' H'
 | .brk=>∃ σ' H',Inv X Is σ' H' s'/\D.bk σ' H'
 | .cont=>∃ σ' H',Inv X Is σ' H' s'/\D.ct σ' H'
 | .ret u=>∃ v σ' H',Inv X Is σ' H' s'/\xF v u/\D.rt v H'

def PE(X:Cx)(e:w4)(t:TE):Prop :=
 ∀(Is:List (b9×AM))(s:d3)(σ:St)(H:Hp)(Q:VK),Inv X Is σ H s->t σ H Q->wpAny (model X.prog X.w) X.A (eval e X.env) (EP X Is σ Q) X.xe s
def PT(X:Cx)(e:w4)(t:TT):Prop :=
 ∀(Is:List (b9×AM))(s:d3)(σ:St)(H:Hp)(Q:Bool->Hp->Prop),Inv X Is σ H s->t σ H Q->wpAny (model X.prog X.w) X.A (isTrue e X.env (eval e X.env)) (TP X Is σ Q) X.xe s
def PW(X:Cx)(e:w4)(t:TT):Prop :=
 ∀(whole:GW c7)(Is:List (b9×AM))(s:d3)(σ:St)(H:Hp)(Q:Bool->Hp->Prop),Inv X Is σ H s->t σ H Q->wpAny (model X.prog X.w) X.A (isTrue e X.env whole) (TP X Is σ Q) X.xe s
def PW.pt{X:Cx}{e:w4}{t:TT}(h:PW X e t):PT X e t:=h _
def PA(X:Cx)(es:List w4)(t:TA):Prop :=
 ∀(pos:Co)(Is:List (b9×AM))(s:d3)(σ:St)(H:Hp)(Q:List V->Hp->Prop),Inv X Is σ H s->t σ H Q->wpAny (model X.prog X.w) X.A (spliced (backTo pos (starEach es X.env))) (AP X Is σ Q) X.xe s
def PS(X:Cx)(st:Ag)(t:TS):Prop :=
 ∀(Is:List (b9×AM))(s:d3)(σ:St)(H:Hp)(D:bu),Inv X Is σ H s->t D σ H->wpAny (model X.prog X.w) X.A (exec st X.env) (SP X Is D) X.xe s
def PSs(X:Cx)(st:List Ag)(t:TS):Prop :=
 ∀(Is:List (b9×AM))(s:d3)(σ:St)(H:Hp)(D:bu),Inv X Is σ H s->t D σ H->wpAny (model X.prog X.w) X.A (execs st X.env) (SP X Is D) X.xe s
def thn{α:Type}{t:GW α}{Q Q':α->d3->Prop}{M:HG}{A:Ac}{E:c7->d3->Prop}{s:d3}(h:wpAny M A t Q E s)(hQ:∀ a s,Q a s->Q' a s):wpAny M A t Q' E s:=Ba h hQ λ_ _ x=>x
end L2

namespace L2
section
variable{X:Cx}

def bin{a b:w4}{ta tb:TE}(ha:PE X a ta)(hb:PE X b tb){Is:List (b9×AM)}{s:d3}{σ:St}{H:Hp}{R:V->V->Hp->Prop}(I:Inv X Is σ H s)(h:ta σ H λx H1=>tb σ H1 λy H2=>R x y H2)
  {α:Type} {Q:α->d3->Prop} {f:c7->c7->GW α}
  (hf:∀ v u s2 x y H2,Inv X Is σ H2 s2->xF x v->xF y u->R x y H2->wpAny (model X.prog X.w) X.A (f v u) Q X.xe s2) :
  wpAny (model X.prog X.w) X.A (eval a X.env) (λv s₁=>wpAny (model X.prog X.w) X.A (eval b X.env) (λu s₂=>wpAny (model X.prog X.w) X.A (f v u) Q X.xe s₂) X.xe s₁) X.xe s:=by
 erw[thn (ha Is s σ H _ I h) λv s1 ⟨x,H1,I1,r1,q1⟩=>?_];erw[thn (hb Is s1 σ H1 _ I1 q1) λu s2 ⟨y,H2,I2,r2,q2⟩=>?_];rwa[hf v u s2 x y H2 I2 r1 r2 q2]

inductive TVar(i:Nat)(σ:St)(H:Hp)(Q:VK):Prop where
 | mk (v:V) (e:σ[i]?=Io (Io v)) (q:Q v H)
def ZW(i:Nat):TE:=λσ H Q=>TVar i σ H Q
def tC(v:V):TE:=λ_ H Q=>Q v H
def TL{i:Nat}{x:g8}{pos:Co}(hN:X.N[i]?=Io x)(hv:Vis X.env.scope x)(hd:(x ==("__debug__" : g8))=false:=by decide)(hcd:(x ==("__classdict__" : g8))=false:=by decide):PE X (.Name x pos) (ZW i):=by
 intro Is s σ H Q I h;obtain⟨v,e,h⟩:=h;obtain⟨m,hn,hl⟩:=I.loc;obtain⟨u,r,l⟩:=hl i x v hN e hv;have fin:EP X Is σ Q u s:=⟨v,H,I,r,h⟩;rcases l with ⟨hk,hm⟩ | ⟨hk,c,hc,hcell⟩
 ·rwa[GI (wpAny_loadName_local I.ok.kind hk hn hm fin) hd]
 ·rcases hk with hk | hk
  ·rwa[GI (wpAny_loadName_cell I.ok.kind hk hc hcell fin) hd]
  ·rwa[GI (wpAny_loadName_free I.ok.kind hk hc hcell fin hcd) hd]
def yL{i j pos} : PE X (.Constant (.int i) j pos) (tC (.int i)):=λ_ _ _ H _ I h=>wpAny_Constant_int ⟨.int i,H,I.tok _,⟨_,rfl⟩,h⟩
def pc{b j pos} : PE X (.Constant (.bool b) j pos) (tC (.bl b)):=λ_ _ _ H _ I h=>Constant_bool ⟨.bl b,H,I,rfl,h⟩
def dQ{j pos} : PE X (.Constant .none j pos) (tC .non):=λ_ _ _ H _ I h=>Constant_none ⟨.non,H,I,rfl,h⟩
def zK{x j pos} : PE X (.Constant (.str x) j pos) (tC (.str x)):=λ_ _ _ H _ I h=>Fu ⟨.str x,H,I.tok _,⟨_,rfl⟩,h⟩

def Gl(X:Cx)(x:g8):Prop:=X.env.kindOf x=Io .globalImplicit
def sR{E:c7->d3->Prop}{Is:List (b9×AM)}{s:d3}{σ:St}{H:Hp}{x:g8}{u:c7}{pos:Co}{Q:c7->d3->Prop}(I:Inv X Is σ H s)(hg:Gl X x)(hm:X.mg x=Io u)(h:Q u s)
  (hd:(x ==("__debug__" : g8))=false:=by decide):wpAny (model X.prog X.w) X.A (eval (.Name x pos) X.env) Q E s :=
 Dz I.ok.kind hg (Calls.loadGlobal_global (by rw[I.ok.glob]; rwa[I.mod.glob.keeps I.bk]) hm h) hd
def oE{E:c7->d3->Prop}{Is:List (b9×AM)}{s:d3}{σ:St}{H:Hp}{x:g8}{u:c7}{pos:Co}{Q:c7->d3->Prop}(I:Inv X Is σ H s)(hg:Gl X x)(hm:X.mg x=Ip)(hv:bootBuiltins x=Io u)(h:Q u s)
  (hn:x ≠ "__name__" := by decide) (hd:(x ==("__debug__" : g8))=false:=by decide):wpAny (model X.prog X.w) X.A (eval (.Name x pos) X.env) Q E s:=by
 obtain⟨mb,h1,h2⟩:=I.mod.blt;rwa[Dz I.ok.kind hg (Calls.loadGlobal_builtin (by rw[I.ok.glob]; exact I.mod.glob.keeps I.bk) hm (by rw[I.ok.blt]; exact h1.keeps I.bk) ((h2 x hn).trans hv) h) hd]
def wq{x:g8}{v:V}{u:c7}{pos:Co}(hg:Gl X x)(hm:X.mg x=Ip)(hv:bootBuiltins x=Io u)(r:xF v u)(hn:x ≠ "__name__" := by decide)(hd:(x ==("__debug__" : g8))=false:=by decide):PE X (.Name x pos) (tC v) :=
 λ_ _ _ H _ I h=>oE I hg hm hv ⟨v,H,I,r,h⟩ hn hd

variable{a b:w4}{ta tb:TE}{pos:Co}
def PC(X:Cx)(op:Gu)(a b:w4)(t:TE):Prop :=
 ∀(Is:List (b9×AM))(s:d3)(σ:St)(H:Hp)(Q:VK),Inv X Is σ H s->t σ H Q ->
  wpAny (model X.prog X.w) X.A (eval a X.env) (λv s₁=>wpAny (model X.prog X.w) X.A (eval b X.env) (λu s₂=>wpAny (model X.prog X.w) X.A (compareOp op v u) (EP X Is σ Q) X.xe s₂) X.xe s₁) X.xe s
def tB(t:TE):TT:=λσ H Q=>t σ H λx H1=>∃ c,x=.bl c/\Q c H1
def zh{op:Gu}{t:TE}(h:PC X op a b t)(h1:behindInMarks op b=false:=by first | exact nobehind _ (by decide) (by decide) | rfl):PT X (.Compare a [op] [b] pos) (tB t):=by
 intro Is s σ H Q I hw;erw[EO (thn (h Is s σ H _ I hw) λv s1 h1=>thn h1 λu s2 h2=>thn h2 λc s3 ⟨x,H1,I1,r1,q1⟩=>?_) h1];obtain⟨d,rfl,q⟩:=q1;cases r1;rwa[AG ⟨H1,I1,q⟩]
def zr{e:w4}{t:TE}(h:PE X e t)(he:∀ whole,isTrue e X.env whole=(do let v <- whole; standAt e.pos; holding [v] (truthy v)):=by intro _; rfl):PT X e (tB t):=by
 intro Is s σ H Q I hw;erw[isTrue_plain (thn (h Is s σ H _ I hw) λv s1 ⟨x,H1,I1,r1,q1⟩=>?_) (he _)];obtain⟨d,rfl,q⟩:=q1;cases r1;rwa[AG ⟨H1,I1,q⟩]

variable{tA tB':TT}{rest:List w4}
def tAnd(t u:TT):TT:=λσ H Q=>t σ H λc H1=>if c=Iq then u σ H1 Q else Q Ir H1
def tOr(t u:TT):TT:=λσ H Q=>t σ H λc H1=>if c=Iq then Q Iq H1 else u σ H1 Q
def tNot(t:TT):TT:=λσ H Q=>t σ H λc H1=>Q (!c) H1
def uc(ha:PT X a tA):PW X (.BoolOp .And [a] pos) tA:=by
 intro wh Is s σ H Q I h;erw[isTrue_and (thn (ha Is s σ H Q I h) λc s1 e=>?_)];cases c with
 | true=>rwa[isTrue_and_nil e]
 | false=>rwa[e]
def gJ(ha:PT X a tA):PW X (.BoolOp .Or [a] pos) tA:=by
 intro wh Is s σ H Q I h;erw[isTrue_or (thn (ha Is s σ H Q I h) λc s1 e=>?_)];cases c with
 | false=>rwa[isTrue_or_nil e]
 | true=>rwa[e]
def mU(ha:PT X a tA)(hb:PW X (.BoolOp .And (b::rest) pos) tB'):PW X (.BoolOp .And (a::b::rest) pos) (tAnd tA tB'):=by
 intro wh Is s σ H Q I h;erw[isTrue_and (thn (ha Is s σ H _ I h) λc s1 ⟨H1,I1,q1⟩=>?_)];cases c with
 | true=>rwa[hb wh Is s1 σ H1 Q I1 q1]
 | false=>rwa[H1,I1,q1]
def cj(ha:PT X a tA)(hb:PW X (.BoolOp .Or (b::rest) pos) tB'):PW X (.BoolOp .Or (a::b::rest) pos) (tOr tA tB'):=by
 intro wh Is s σ H Q I h;erw[isTrue_or (thn (ha Is s σ H _ I h) λc s1 ⟨H1,I1,q1⟩=>?_)];cases c with
 | true=>rwa[H1,I1,q1]
 | false=>rwa[hb wh Is s1 σ H1 Q I1 q1]
def zu(ha:PT X a tA):PT X (.UnaryOp .Not a pos) (tNot tA):=by
 intro Is s σ H Q I h;rwa[isTrue_not (ha Is s σ H (λc H1=>Q (!c) H1) I h)]
def tAndV(ta tb:TE):TE:=λσ H Q=>ta σ H λx H1=>∃ c,x=.bl c/\if c=Iq then tb σ H1 Q else Q (.bl Ir) H1
def tNotV(ta:TE):TE:=λσ H Q=>ta σ H λx H1=>∃ c,x=.bl c/\Q (.bl (!c)) H1
def jI{op}{t:TE}(h:PE X a t):PE X (.BoolOp op [a] pos) t:=λIs s σ H Q I hw=>BoolOp_one (h Is s σ H Q I hw)
def jb(ha:PE X a ta)(hb:PE X (.BoolOp .And (b::rest) pos) tb):PE X (.BoolOp .And (a::b::rest) pos) (tAndV ta tb):=by
 intro Is s σ H Q I h;erw[BoolOp_and (thn (ha Is s σ H _ I h) λv s1 ⟨x,H1,I1,r1,q1⟩=>?_)];obtain⟨c,rfl,q1⟩:=q1;cases r1;erw[AG ?_];cases c with
 | true=>rwa[hb Is s1 σ H1 Q I1 q1]
 | false=>rwa[.bl Ir,H1,I1,U,q1]
def XN(ha:PE X a ta):PE X (.UnaryOp .Not a pos) (tNotV ta):=by
 intro Is s σ H Q I h;erw[UnaryOp_ (thn (ha Is s σ H _ I h) λv s1 ⟨x,H1,I1,r1,q1⟩=>?_)];obtain⟨c,rfl,q1⟩:=q1;cases r1;rwa[not_of (AG ⟨.bl (!c),H1,I1,rfl,q1⟩)]
def tIf(t:TT)(ta tb:TE):TE:=λσ H Q=>t σ H λc H1=>if c=Iq then ta σ H1 Q else tb σ H1 Q
def vT{c:w4}(hc:PT X c tA)(ha:PE X a ta)(hb:PE X b tb):PE X (.IfExp c a b pos) (tIf tA ta tb):=by
 intro Is s σ H Q I h;erw[wpAny_IfExp (thn (hc Is s σ H _ I h) λd s1 ⟨H1,I1,q1⟩=>?_)];cases d with
 | true=>rwa[ha Is s1 σ H1 Q I1 q1]
 | false=>rwa[hb Is s1 σ H1 Q I1 q1]
end
end L2

namespace L2

def SqL(K:b7)(H:Hp)(a:b9)(xs:List V):Prop :=
 Rd H a (.lst xs) \/
  ∃(o:AM)(its:Array c7)(n:Nat),K.lookup a=Io o/\o.cls=.type "list" /\ o.dict=Ip/\o.data=.seq its n/\its.size<=sizeLine/\yO xs its.toList
def SqT(K:b7)(H:Hp)(a:b9)(xs:List V):Prop :=
 Rd H a (.tup xs) \/
  ∃(o:AM)(its:Array c7)(n:Nat),K.lookup a=Io o/\o.cls=.type "tuple" /\ o.data=.seq its n/\its.size<=sizeLine/\yO xs its.toList
def absV:c7->Option V
 | .none=>Io .non
 | .bool b=>Io (.bl b)
 | .int i _=>Io (.int i)
 | .str x _=>Io (.str x)
 | .bytes b _=>Io (.byt b)
 | .float b _=>Io (.flt b)
 | .ref a=>Io (.ref a)
 | .type n=>Io (.ty n)
 | _=>Ip
def xF.abs{x:V}{u:c7}(r:xF x u):absV u=Io x:=by
 cases x with
 | non=>cases r; rfl
 | bl _=>cases r; rfl
 | int _=>obtain⟨t,rfl⟩:=r; rfl
 | str _=>obtain⟨t,rfl⟩:=r; rfl
 | byt _=>obtain⟨t,rfl⟩:=r; rfl
 | flt _=>obtain⟨t,rfl⟩:=r; rfl
 | ref _=>cases r; rfl
 | ty _=>cases r; rfl
def xF.inj{x y:V}{u:c7}(r:xF x u)(q:xF y u):x=y:=o9 (r.abs.symm.trans q.abs)
def yO.inj:∀{xs ys:List V}{us:List c7},yO xs us->yO ys us->xs=ys
 | _,_,_,.nil,.nil=>rfl
 | _,_,_,.cons r t,.cons r' t'=>by rw[r.inj r',yO.inj t t']
section
variable{X:Cx}{Is:List (b9×AM)}{σ:St}{H:Hp}{s:d3}{a:b9}{xs ys:List V}
def SqL.of{K:b7}(h:H a=Io (.lst xs)):SqL K H a xs:=.inl (.inl h)
def SqT.of{K:b7}(h:H a=Io (.tup xs)):SqT K H a xs:=.inl (.inl h)
def Inv.list(I:Inv X Is σ H s)(h:SqL X.K H a xs):∃ its:List c7,yO xs its/\PlainL s.heap a its.toArray/\xs.length<=sizeLine:=by
 rcases h with h | ⟨o,its,n,hk,hc,hd,hs,hz,r⟩
 ·obtain⟨z,its,n,r,e⟩:=h.ok I.hok;rwa[its,r,⟨_,n,e,U,U,U⟩,z]
 ·exists its.toList,r,⟨o,n,I.kIn a o hk,hc,hd,by simpa using hs⟩;have e:=r.length;simp only[Ak] at e;lia
def Inv.tuple(I:Inv X Is σ H s)(h:SqT X.K H a xs):∃ its:List c7,yO xs its/\HF s.heap a its.toArray/\xs.length<=sizeLine:=by
 rcases h with h | ⟨o,its,n,hk,hc,hs,hz,r⟩
 ·obtain⟨z,its,r,p⟩:=h.ok I.hok;rwa[its,r,p,z]
 ·exists its.toList,r,⟨o,I.kIn a o hk,hc,n,by simpa using hs⟩;have e:=r.length;simp only[Ak] at e;lia
def Inv.list_inj(I:Inv X Is σ H s)(h:SqL X.K H a xs)(h':SqL X.K H a ys):xs=ys:=by
 obtain⟨its,r,⟨o,n,e,_,_,d⟩,_⟩:=I.list h;obtain⟨its',r',⟨o',n',e',_,_,d'⟩,_⟩:=I.list h';rw[e] at e'; cases e';rw[d] at d';injection d' with d1 _
 have:its=its':=by simpa using congrArg HN d1
 subst this;rwa[r.inj r']
def Inv.tuple_inj(I:Inv X Is σ H s)(h:SqT X.K H a xs)(h':SqT X.K H a ys):xs=ys:=by
 obtain⟨its,r,⟨o,e,_,n,d⟩,_⟩:=I.tuple h;obtain⟨its',r',⟨o',e',_,n',d'⟩,_⟩:=I.tuple h';rw[e] at e'; cases e';rw[d] at d';injection d' with d1 _
 have:its=its':=by simpa using congrArg HN d1
 subst this;rwa[r.inj r']
end

abbrev Cx.wish(X:Cx)(E:c7->d3->Prop):Cx:={ X with xe:=E }
abbrev Cx.nox(X:Cx):Cx:=X.wish λ_ _=>False
def Cx.Ok.wish{X:Cx}(ok:X.Ok)(E:c7->d3->Prop):(X.wish E).Ok :=
 ⟨ok.mod,ok.kind,ok.glob,ok.blt,ok.above,ok.inj,ok.has,ok.cab,ok.hd,ok.frames,ok.stk,ok.exf,ok.bs,ok.bsz,ok.noex,ok.exfs,ok.funs,ok.frf⟩
def Cx.Ok.unwish{X:Cx}{E:c7->d3->Prop}(ok:(X.wish E).Ok):X.Ok :=
 ⟨ok.mod,ok.kind,ok.glob,ok.blt,ok.above,ok.inj,ok.has,ok.cab,ok.hd,ok.frames,ok.stk,ok.exf,ok.bs,ok.bsz,ok.noex,ok.exfs,ok.funs,ok.frf⟩
section
variable{X:Cx}{Is:List (b9×AM)}{σ:St}{H:Hp}{s:d3}{E:c7->d3->Prop}
def Inv.wish(I:Inv X Is σ H s)(E:c7->d3->Prop):Inv (X.wish E) Is σ H s:=⟨I.ok.wish E,I.os,I.bare,I.base,I.loc,I.cell,I.free,I.freeC,I.pin,I.hok,I.len⟩
def Inv.unwish(I:Inv (X.wish E) Is σ H s):Inv X Is σ H s:=⟨I.ok.unwish,I.os,I.bare,I.base,I.loc,I.cell,I.free,I.freeC,I.pin,I.hok,I.len⟩
def SP.unwish{D:bu}{f:Flow}{s':d3}(h:SP (X.wish E) Is D f s'):SP X Is D f s':=by
 cases f with
 | next=>obtain⟨σ',H',I,q⟩:=h; rwa[σ',H',I.unwish,q]
 | brk=>obtain⟨σ',H',I,q⟩:=h; rwa[σ',H',I.unwish,q]
 | cont=>obtain⟨σ',H',I,q⟩:=h; rwa[σ',H',I.unwish,q]
 | ret u=>obtain⟨v,σ',H',I,r,q⟩:=h; rwa[v,σ',H',I.unwish,r,q]
def PSs.nox{st:List Ag}{t:TS}(h:PSs X.nox st t):PSs X st t:=λIs s σ H D I hw =>
 Ba (h Is s σ H D (I.wish _) hw) (λ_ _ q=>q.unwish) λ_ _ z=>x9 z
end

section
variable{X:Cx}{st:Ag}{rest:List Ag}{t u:TS}{e:w4}{te:TE}{pos:Co}
def tNext:TS:=λD σ H=>D.nx σ H
def Sv(t u:TS):TS:=λD σ H=>t { D with nx:=u D } σ H
def zN:PSs X [] tNext:=λ_ _ σ H _ I h=>CH ⟨σ,H,I,h⟩
def zC(h1:PS X st t)(h2:PSs X rest u):PSs X (st::rest) (Sv t u):=by
 intro Is s σ H D I h;refine F7 (thn (h1 Is s σ H { D with nx:=u D } I h) λf s1 q=>?_);cases f with
 | next =>
  obtain⟨σ',H',I',q⟩:=q;rwa[h2 Is s1 σ' H' D I' q]
 | ret v=>rwa[q]
 | brk=>rwa[q]
 | cont=>rwa[q]
def zG(h1:PS X st t):PSs X [st] t:=by
 intro Is s σ H D I h;erw[F7 (thn (h1 Is s σ H D I h) λf s1 q=>?_)];cases f with
 | next=>rwa[CH q]
 | ret v=>rwa[q]
 | brk=>rwa[q]
 | cont=>rwa[q]
def tCont:TS:=λD σ H=>D.ct σ H
def gL:PS X (.Continue pos) tCont:=λ_ _ σ H _ I h=>wpAny_Continue ⟨σ,H,I,h⟩
def Inv.quiet{Is:List (b9×AM)}{σ:St}{H:Hp}{s:d3}(I:Inv X Is σ H s):interactive X.env=false:=by simp[interactive,I.ok.kind]
def tDrop(te:TE):TS:=λD σ H=>te σ H λ_ H1=>D.nx σ H1
def yC(he:PE X e te)(hs:swapsWith e Ip pos.line X.env=pure false:=by rfl):PS X (.Expr e pos) (tDrop te):=by
 intro Is s σ H D I h;rwa[wpAny_Expr_any (thn (he Is s σ H _ I h) λv s1 ⟨x,H1,I1,r1,q1⟩=>⟨σ,H1,I1,q1⟩) I.quiet hs]
def tRet(te:TE):TS:=λD σ H=>te σ H D.rt
def zM(he:PE X e te):PS X (.Return (Io e) pos) (tRet te):=by
 intro Is s σ H D I h;rwa[wpAny_Return_some (thn (he Is s σ H _ I h) λv s1 ⟨x,H1,I1,r1,q1⟩=>⟨x,σ,H1,I1,r1,q1⟩)]
def tIfS(c:TT)(t u:TS):TS:=λD σ H=>c σ H λb H1=>if b=Iq then t D σ H1 else u D σ H1
def zX{c:w4}{a b:List Ag}{tc:TT}(hc:PT X c tc)(ha:PSs X a t)(hb:PSs X b u):PS X (.If c a b pos) (tIfS tc t u):=by
 intro Is s σ H D I h;erw[wpAny_If (thn (hc Is s σ H _ I h) λd s1 ⟨H1,I1,q1⟩=>?_)];cases d with
 | true=>rwa[ha Is s1 σ H1 D I1 q1]
 | false=>rwa[hb Is s1 σ H1 D I1 q1]
end

abbrev TG:=V->St->Hp->(St->Hp->Prop)->Prop
abbrev TGs:=List V->St->Hp->(St->Hp->Prop)->Prop
def PG(X:Cx)(target:w4)(t:TG):Prop :=
 ∀(Is:List (b9×AM))(s:d3)(σ:St)(H:Hp)(v:V)(u:c7)(Q:St->Hp->Prop),Inv X Is σ H s->xF v u->t v σ H Q ->
  wpAny (model X.prog X.w) X.A (assign target X.env u) (λ_ s'=>∃ σ' H',Inv X Is σ' H' s'/\Q σ' H') X.xe s
def PGs(X:Cx)(ts:List w4)(t:TGs):Prop :=
 ∀(Is:List (b9×AM))(s:d3)(σ:St)(H:Hp)(vs:List V)(us:List c7)(Q:St->Hp->Prop),Inv X Is σ H s->yO vs us->t vs σ H Q ->
  wpAny (model X.prog X.w) X.A (assignInOrder ((assignEach ts X.env).map (·.2)) us) (λ_ s'=>∃ σ' H',Inv X Is σ' H' s'/\Q σ' H') X.xe s
abbrev Sl:=V->V->V->Hp->(Hp->Prop)->Prop
def PSet(X:Cx)(t:Sl):Prop :=
 ∀(Is:List (b9×AM))(s:d3)(σ:St)(H:Hp)(o i v:V)(ov iv u:c7)(Q:Hp->Prop),Inv X Is σ H s->xF o ov->xF i iv->xF v u->t o i v H Q ->
  wpAny (model X.prog X.w) X.A (setItem ov iv u) (λ_ s'=>∃ H',Inv X Is σ H' s'/\Q H') X.xe s
section
variable{X:Cx}{pos:Co}
def iU(i:Nat):TG:=λv σ H Q=>Q (σ.set i (Io v)) H
def zw{i:Nat}{x:g8}(hN:X.N.Nodup)(hi:X.N[i]?=Io x)(hx:Loc X.env.scope x)(hf:X.fn x=Iq\/X.env.scope.names.lookup x=Io .local:=by first | exact .inl rfl | exact .inr rfl | assumption):PG X (.Name x pos) (iU i):=by
 intro Is s σ H v u Q I r h;rwa[wpAny_assign_Name (pG I hN hi hx r (λs' I'=>⟨_,H,I',h⟩) hf)]
def gNil:TGs:=λvs σ H Q=>vs=[]/\Q σ H
def gCons(t:TG)(u:TGs):TGs:=λvs σ H Q=>∃ v r,vs=v::r/\t v σ H λσ' H'=>u r σ' H' Q
def tJ:PGs X [] gNil:=by
 intro Is s σ H vs us Q I r h;obtain⟨e,h⟩:=h;subst e;cases r;rwa[assignInOrder_nil ⟨σ,H,I,h⟩]
def yI{e:w4}{es:List w4}{t:TG}{u:TGs}(h1:PG X e t)(h2:PGs X es u)
  (hs:(assignEach (e::es) X.env).map (·.2)=assign e X.env::(assignEach es X.env).map (·.2):=by rfl):PGs X (e::es) (gCons t u):=by
 intro Is s σ H vs us Q I r h;obtain⟨v,vr,e1,h⟩:=h;subst e1;cases r with
 | cons r rr =>
  rw[hs];erw[assignInOrder_cons (thn (h1 Is s σ H _ _ _ I r h) λ_ s1 ⟨σ1,H1,I1,q1⟩=>?_)];rwa[h2 Is s1 σ1 H1 _ _ Q I1 rr q1]
def gTup(K:b7)(n:Nat)(t:TGs):TG:=λv σ H Q=>∃ a xs,v=.ref a/\SqT K H a xs/\xs.length=n/\t xs σ H Q
def yl{es:List w4}{k:Nat}{t:TGs}{n:Nat}(hc:X.calm=Iq)(h:PGs X es t)
  (hn:(assignEach es X.env).length=n:=by rfl) (hst:(assignEach es X.env).findIdx? (·.1)=none:=by rfl):PG X (.Tuple es k pos) (gTup X.K n t):=by
 intro Is s σ H v u Q I r hw;obtain⟨a,xs,e1,hq,hl,hw⟩:=hw;subst e1;cases r;obtain⟨its,rv,ht,hz⟩:=I.tuple hq;erw[assign_Tuple_tuple (I.ok.hd hc) ht (by simp[hn,<- hl,rv.length]) hst λh' hx=>?_];have I1:Inv X Is σ H { s with heap:=h' }:=I.kept (t':=s.toks) λb o e=>hx b o (l6 (f9 e)) e;exact h Is _ σ H xs _ Q I1 (by simpa using rv) hw
def gSub(to ti:TE)(t:Sl):TG:=λv σ H Q=>to σ H λo H1=>ti σ H1 λi H2=>t o i v H2 λH3=>Q σ H3
def XT{o i:w4}{to ti:TE}{t:Sl}(ho:PE X o to)(hi:PE X i ti)(hs:PSet X t)
  (ha:∀ v,assign (.Subscript o i pos) X.env v=(do
   let ov <- holding [v] (eval o X.env)
   let iv <- holding [v,ov] (eval i X.env)
   standAt pos
   holding [v,ov,iv] (setItem ov iv v)
   release [v,ov,iv] []):=by intro _; rfl):PG X (.Subscript o i pos) (gSub to ti t):=by
 intro Is s σ H v u Q I r h;rw[ha];erw[ac (Aw (thn (ho Is s σ H _ I h) λov s1 ⟨x,H1,I1,r1,q1⟩=>?_))];erw[ac (Aw (thn (hi Is s1 σ H1 _ I1 q1) λiv s2 ⟨y,H2,I2,r2,q2⟩=>?_))];erw[ac (C4 (ac (Aw (thn (hs Is s2 σ H2 x y v ov iv u _ I2 r1 r2 r q2) λ_ s3 ⟨H3,I3,q3⟩=>?_))))];rwa[wpAny_release ⟨σ,H3,I3,q3⟩]
def To(te:TE)(g:TG):TS:=λD σ H=>te σ H λx H1=>g x σ H1 D.nx
def oV{tg e:w4}{te:TE}{g:TG}(he:PE X e te)(hg:PG X tg g)(hs:swapsWithSole [tg] e pos.line X.env=pure false:=by rfl)(hw:swappedStores [tg] e X.env=pure none:=by rfl)
  (h1:(assignEach [tg] X.env).map (·.2)=[assign tg X.env]:=by rfl):PS X (.Assign [tg] e pos) (To te g):=by
 intro Is s σ H D I h;erw[wpAny_Assign_stores (thn (he Is s σ H _ I h) λv s1 ⟨x,H1,I1,r1,q1⟩=>?_) hs hw];rw[h1];rwa[thn (hg Is s1 σ H1 x v _ I1 r1 q1) λ_ s2 q=>q]
def qD{i:Nat}{x:g8}{e:w4}{te:TE}{pos':Co}(hN:X.N.Nodup)(hi:X.N[i]?=Io x)(hx:Loc X.env.scope x)(he:PE X e te)(hs:swapsWith e (Io (.Name x pos')) pos.line X.env=pure false:=by rfl)(hf:X.fn x=Iq\/X.env.scope.names.lookup x=Io .local:=by first | exact .inl rfl | exact .inr rfl | assumption) :
  PS X (.Assign [.Name x pos'] e pos) (To te (iU i)):=by
 intro Is s σ H D I h;erw[wpAny_Assign_Name (thn (he Is s σ H _ I h) λv s1 ⟨y,H1,I1,r1,q1⟩=>?_) hs];rwa[pG I1 hN hi hx r1 (λs2 I2=>⟨_,H1,I2,q1⟩) hf]
def tPar(i j:Nat)(ta:TA):TS:=λD σ H=>ta σ H λvs H1=>∃ v w,vs=[v,w]/\D.nx ((σ.set i (Io v)).set j (Io w)) H1
def Zu{i j:Nat}{x y:g8}{a b:w4}{ta:TA}{px py pt:Co}{kt k2 pt2}(hc:X.calm=Iq)(hN:X.N.Nodup)(hi:X.N[i]?=Io x)(hj:X.N[j]?=Io y)(hij:i≠j)
  (hx:X.env.scope.names.lookup x=Io .local) (hy:X.env.scope.names.lookup y=Io .local) (ha:PA X [a,b] ta)
  (hw:swappedStores [.Tuple [.Name x px,.Name y py] kt pt] (.Tuple [a,b] k2 pt2) X.env=pure (Io [x,y]))
  (hs:swapsWithSole [.Tuple [.Name x px,.Name y py] kt pt] (.Tuple [a,b] k2 pt2) pos.line X.env=pure false:=by rfl) :
  PS X (.Assign [.Tuple [.Name x px,.Name y py] kt pt] (.Tuple [a,b] k2 pt2) pos) (tPar i j ta):=by
 intro Is s σ H D I h;rw[exec_Assign_arm];refine ac (C4 ?_);rw[hs];refine ac (d7 ?_);rw[y7 (by decide)];refine ac (Tuple_ (thn (ha _ Is s σ H _ I h) λus s1 ⟨vs,H1,I1,r1,q1⟩=>?_));obtain⟨v,w,e1,q1⟩:=q1;subst e1;obtain⟨u1,u2,rfl,rv,rw'⟩:∃ u1 u2,us=[u1,u2]/\xF v u1/\xF w u2:=by
  cases r1 with
  | cons p q =>
   cases q with
   | cons p' q' =>
    cases q';rwa[_,_,U,p,p']
 refine t6 ?_ (by show 2<=sizeLine; decide);have I2:Inv X Is σ H1 { s1 with heap:=s1.heap.push { cls:=.type "tuple",data:=.seq [u1,u2].toArray } }:=I1.kept (t':=s1.toks) λb o e=>c9 _ e;rw[hw];erw[ac (d7 ?_)];show wpAny (model X.prog X.w) X.A (do rule "assign.swapped-stores"; let items <- unpackItems (.ref s1.heap.objs.size) 2 Ip; assignInOrder [λv=>bindName X.env y v,λv=>bindName X.env x v] items.reverse; pure Flow.next) _ _ _;erw[ac (DA (ac (unpackItems_tuple (items:=#[u1,u2]) (I.ok.hd hc) (Ik s1.heap _) λh' hx'=>?_)))];have I3:=I2.kept (h':=h') (t':=s1.toks) λb o e=>hx' b o (l6 (f9 e)) e;show wpAny _ _ (assignInOrder [λv=>bindName X.env y v,λv=>bindName X.env x v] [u2,u1] >>= λ_=>pure Flow.next) _ _ _;erw[ac (assignInOrder_cons (wpAny_bindName (pG I3 hN hj (.inl hy) rw' (λs2 I4=>?_) (.inr hy))))];erw[assignInOrder_cons (wpAny_bindName (pG I4 hN hi (.inl hx) rv (λs3 I5=>assignInOrder_nil (d7 ?_)) (.inr hx)))];rw[List.set_comm _ _ (AJ hij)] at I5;rwa[_,H1,I5,q1]
end

section
variable{X:Cx}{pos:Co}
def Wn(c:TT)(tb:TS):TS:=λD σ H=>∃ W:Nat->St->Hp->Prop,(∃ m,W m σ H)/\∀ m σ H,W m σ H ->
 c σ H λb H1=>if b=Iq then ∃ N:St->Hp->Prop,(∀ σ' H',N σ' H'->∃ m',m'<m/\W m' σ' H')/\tb { D with nx:=N,ct:=N,bk:=D.nx } σ H1 else D.nx σ H1
def dC{c:w4}{body:List Ag}{tc:TT}{tb:TS}(hp:PassesOwn (model X.prog X.w) X.A X.env X.xe)(hc:PT X c tc)(hb:PSs X body tb):PS X (.While c body [] pos) (Wn tc tb):=by
 intro Is s σ H D I h;obtain⟨W,⟨m0,w0⟩,turn⟩:=h;erw[wpAny_While (codeAny_whileLoop (λn s'=>∃ σ' H',Inv X Is σ' H' s'/\W n σ' H') ?_ m0 ⟨σ,H,I,w0⟩)];rintro n s1 ⟨σ1,H1,I1,w1⟩;erw[BH hp (thn (hc Is s1 σ1 H1 _ I1 (turn n σ1 H1 w1)) λb s2 ⟨H2,I2,q2⟩=>?_)];cases b with
 | true =>
  obtain⟨N,hN,q2⟩:=q2;rw[y9 rfl];erw[BH hp (thn (hb Is s2 σ1 H2 _ I2 q2) λf s3 q3=>?_)];cases f with
  | next =>
   obtain⟨σ3,H3,I3,n3⟩:=q3;obtain⟨m',hm,w3⟩:=hN σ3 H3 n3;rwa[m',hm,σ3,H3,I3,w3]
  | cont =>
   obtain⟨σ3,H3,I3,n3⟩:=q3;obtain⟨m',hm,w3⟩:=hN σ3 H3 n3;rwa[m',hm,σ3,H3,I3,w3]
  | brk=>rwa[q3]
  | ret v=>rwa[q3]
 | false =>
  rw[y7 h9];rwa[CH ⟨σ1,H2,I2,q2⟩]
end

structure It where
 go:Nat->Hp->Prop
 yld:Nat->Hp->V->Hp->Prop
 stop:Nat->Hp->Prop
def fT(X:Cx)(Is:List (b9×AM))(H:Hp)(b:b9):Prop :=
 H b=Ip/\b≠X.env.locals/\b ∉ X.fs/\(b∈X.ex\/X.s₀.heap.objs.size<=b)/\(∀ x c,X.env.cells.lookup x=Io c->c≠b)/\∀ p∈X.pn++Is,p.1≠b
def Inv.fpOk{X:Cx}{Is:List (b9×AM)}{σ:St}{H H':Hp}{s:d3}{b:b9}(I:Inv X Is σ H s)(hb:s.heap.objs.size<=b)(hn:H' b=Ip):fT X Is H' b:=by
 erw[hn,BX (m5 I.lt hb),I.nofs hb,.inr (j7 I.sz hb),λx c e z=>?_,λp hp z=>?_]
 ·obtain⟨v,q⟩:=I.cell x c e;rwa[x5 (m5 q.lt (by rw[z]; exact hb)) (Be _)]
 ·rwa[x5 (m5 (f9 (I.pin p hp).1) (by rw[z]; exact hb)) (Be _)]
structure Yq(P:j9)(w:n9)(K:b7)(tg:w4)(J:It)(fp:List b9)(it:b9)(tn:Nat->o0->Prop):Prop where
 mem:it∈fp
 obj:∀ i h,tn i h->∀ b∈fp,∃ o,h.get? b=Io o/\∀ v,o.data≠.cell v
 keep:∀ i h h',tn i h->(∀ b∈fp,∀ o,h.get? b=Io o->h'.get? b=Io o)->tn i h'
 item:∀(X:Cx),X.prog=P->X.w=w->X.K=K->X.calm=Iq->∀(i:Nat)(Is:List (b9×AM))(s:d3)(σ:St)(H:Hp)(E:c7->d3->Prop),Inv X Is σ H s->(∀ b∈fp,fT X Is H b)->tn i s.heap->J.go i H ->
  wpAny (model P w) X.A (pyNext (.ref it)) (λr s1=>∃ u,r=Io u /\
   wpAny (model P w) X.A (letOwnedTupleGo tg (.ref it) u) (λ_ s2=>∃ x H',Inv X Is σ H' s2/\xF x u/\J.yld i H x H'/\tn (i+1) s2.heap/\∀ b∈fp,H' b=Ip) E s1) E s
 done:∀(X:Cx),X.prog=P->X.w=w->X.K=K->X.calm=Iq->∀(i:Nat)(Is:List (b9×AM))(s:d3)(σ:St)(H:Hp)(E:c7->d3->Prop),Inv X Is σ H s->(∀ b∈fp,fT X Is H b)->tn i s.heap->J.stop i H ->
  wpAny (model P w) X.A (pyNext (.ref it)) (λr s1=>r=Ip/\Inv X Is σ H s1) E s
 self:∀(A:Ac)(i:Nat)(s:d3)(Q:c7->d3->Prop)(E:c7->d3->Prop),tn i s.heap->Q (.ref it) s->wpAny (model P w) A (pyIter (.ref it)) Q E s
abbrev TI:=St->Hp->(It->Hp->Prop)->Prop
def PIE(X:Cx)(Is:List (b9×AM))(σ:St)(tg:w4)(R:It->Hp->Prop)(itv:c7)(s2:d3):Prop :=
 ∃(it:b9)(fp:List b9)(tn:Nat->o0->Prop)(J:It)(H':Hp),itv=.ref it/\Inv X Is σ H' s2/\Yq X.prog X.w X.K tg J fp it tn/\tn 0 s2.heap/\(∀ b∈fp,fT X Is H' b)/\R J H'
def PI(X:Cx)(tg iter:w4)(wi:TI):Prop :=
 ∀(Is:List (b9×AM))(s:d3)(σ:St)(H:Hp)(R:It->Hp->Prop),Inv X Is σ H s->wi σ H R ->
  wpAny (model X.prog X.w) X.A (eval iter X.env) (λv s1=>wpAny (model X.prog X.w) X.A (pyIter v) (PIE X Is σ tg R) X.xe s1) X.xe s

def fA{M:HG}{A:Ac}{E:c7->d3->Prop}{s:d3}{tg:w4}{it:b9}{u:c7}{o:AM}{n:String}{vs:Array c7}{Q:Unit->d3->Prop}(ho:s.heap.get? it=Io o)(hc:o.cls=.type n)(hd:o.data=.fields vs)
  (hn:["enumerate","zip","dict_itemiterator","dict_reverseitemiterator","odict_iterator","itertools.zip_longest","itertools.pairwise"].contains n=Ir) (hQ:Q () s):wpAny M A (letOwnedTupleGo tg (.ref it) u) Q E s:=by
 unfold letOwnedTupleGo;cases tg <;> first
  | exact d7 hQ
  | (cases u <;> first
    | exact d7 hQ
    | (refine ac (wpAny_load ho ?_)
       rw[hc,hd];show wpAny M A (if (["enumerate","zip","dict_itemiterator","dict_reverseitemiterator","odict_iterator","itertools.zip_longest","itertools.pairwise"].contains n&&vs[0]? == Io (rawInt _))=Iq then _ else _) Q E s;rw[y7 (by intro h; rw[hn,DB] at h; cases h)];rwa[d7 hQ]))

def Itl(K:b7)(a:b9):It :=
 ⟨λi H=>∃ xs x,SqL K H a xs/\xs[i]?=Io x,λi H x H'=>H'=H/\∀ xs,SqL K H a xs->xs[i]?=Io x,λi H=>∃ xs,SqL K H a xs/\xs.length<=i⟩
def Itt(K:b7)(a:b9):It :=
 ⟨λi H=>∃ xs x,SqT K H a xs/\xs[i]?=Io x,λi H x H'=>H'=H/\∀ xs,SqT K H a xs->xs[i]?=Io x,λi H=>∃ xs,SqT K H a xs/\xs.length<=i⟩
def Itr(lo:Int)(n:Nat):It:=⟨λi _=>i<n,λi H x H'=>H'=H/\x=.int (lo+i),λi _=>n<=i⟩
def jd{P:j9}{w:n9}{K:b7}{tg:w4}(a it:b9):Yq P w K tg (Itl K a) [it] it (λi h=>h.IsListIter it a i) where
 mem:=by simp
 obj:=λi h st b hb=>by
  have e:b=it:=by simpa using hb
  subst e;obtain⟨o,e,c,d⟩:=st;exact⟨o,e,λv z=>by rw[d] at z; cases z⟩
 keep:=λi h h' st k=>st.at λo e=>k it (by simp) o e
 item:=by
  intro X hP hw hK hc i Is s σ H E I hf st hg;subst hP hw hK;obtain⟨xs,x,hq,hx⟩:=hg;obtain⟨its,rv,p,hz⟩:=I.list hq;obtain⟨u,hu,ru⟩:=rv.get hx;obtain⟨f0,f1,f2,f3,f4,f5⟩:=hf it (by simp);refine Em st p.isList (x:=u) (by simpa using hu) λh' st' sb=>?_;have I1:Inv X Is σ H { s with heap:=h' }:=I.turned (t':=s.toks) (λb o hb e=>(sb.2 b hb).trans e) f0 f1 f3 f4 f5;obtain⟨o,e,c,d⟩:=id st';exact⟨u,U,fA (s:={ s with heap:=h' }) e c d (by decide) ⟨x,H,I1,ru,⟨U,λys hy=>by rw[I.list_inj hy hq]; rwa[hx]⟩,st',λb hb=>(hf b hb).1⟩⟩
 done:=by
  intro X hP hw hK hc i Is s σ H E I hf st hg;subst hP hw hK;obtain⟨xs,hq,hx⟩:=hg;obtain⟨its,rv,p,hz⟩:=I.list hq;obtain⟨f0,f1,f2,f3,f4,f5⟩:=hf it (by simp);have hl:=rv.length;rwa[wpAny_pyNext_list_end (I.ok.hd hc) st p.isList (by simp; lia) λh' eb=>⟨rfl,I.turned (t':=s.toks) (λb o hb e=>eb b o hb e) f0 f1 f3 f4 f5⟩]
 self:=λ_ _ _ _ _ st h=>EQ st h
def mO{P:j9}{w:n9}{K:b7}{tg:w4}(a it:b9):Yq P w K tg (Itt K a) [it] it (λi h=>h.IsTupleIter it a i) where
 mem:=by simp
 obj:=λi h st b hb=>by
  have e:b=it:=by simpa using hb
  subst e;obtain⟨o,e,c,d⟩:=st;exact⟨o,e,λv z=>by rw[d] at z; cases z⟩
 keep:=λi h h' st k=>st.at λo e=>k it (by simp) o e
 item:=by
  intro X hP hw hK hc i Is s σ H E I hf st hg;subst hP hw hK;obtain⟨xs,x,hq,hx⟩:=hg;obtain⟨its,rv,p,hz⟩:=I.tuple hq;obtain⟨u,hu,ru⟩:=rv.get hx;obtain⟨f0,f1,f2,f3,f4,f5⟩:=hf it (by simp);refine wpAny_pyNext_tuple_item st (show s.heap.IsTuple a its.toArray from p) (x:=u) (by simpa using hu) λh' st' sb=>?_;have I1:Inv X Is σ H { s with heap:=h' }:=I.turned (t':=s.toks) (λb o hb e=>(sb.2 b hb).trans e) f0 f1 f3 f4 f5;obtain⟨o,e,c,d⟩:=id st';exact⟨u,U,fA (s:={ s with heap:=h' }) e c d (by decide) ⟨x,H,I1,ru,⟨U,λys hy=>by rw[I.tuple_inj hy hq]; rwa[hx]⟩,st',λb hb=>(hf b hb).1⟩⟩
 done:=by
  intro X hP hw hK hc i Is s σ H E I hf st hg;subst hP hw hK;obtain⟨xs,hq,hx⟩:=hg;obtain⟨its,rv,p,hz⟩:=I.tuple hq;obtain⟨f0,f1,f2,f3,f4,f5⟩:=hf it (by simp);have hl:=rv.length;exact wpAny_pyNext_tuple_end (I.ok.hd hc) st (show s.heap.IsTuple a its.toArray from p) (by simp; lia) λh' eb=>⟨rfl,I.turned (t':=s.toks) (λb o hb e=>eb b o hb e) f0 f1 f3 f4 f5⟩
 self:=λ_ _ _ _ _ st h=>wpAny_pyIter_tupleiter st h
def cG{P:j9}{w:n9}{K:b7}{tg:w4}(it:b9)(lo:Int)(n:Nat):Yq P w K tg (Itr lo n) [it] it (λi h=>IsRangeIter h it (lo+(i:Nat)*1) ((n:Int)-(i:Nat)) 1) where
 mem:=by simp
 obj:=λi h st b hb=>by
  have e:b=it:=by simpa using hb
  subst e;exact⟨_,st,λv z=>by
   have z':Data.fields _=Data.cell v:=z;cases z'⟩
 keep:=λi h h' st k=>k it (by simp) _ st
 item:=by
  intro X hP hw hK hc i Is s σ H E I hf st hg;subst hP hw hK;obtain⟨f0,f1,f2,f3,f4,f5⟩:=hf it (by simp);have W:=Walks.range (prog:=X.prog) (w:=X.w) (I.ok.hd hc) it lo 1 n;erw[W.item i s _ _ hg st λv h' tk hv st' kk=>?_];obtain⟨t,rfl⟩:=hv;have I1:Inv X Is σ H { s with heap:=h',toks:=tk }:=I.turned (λb o hb e=>kk b o (by simpa using hb) e) f0 f1 f3 f4 f5;refine⟨_,U,fA (s:={ s with heap:=h',toks:=tk }) (n := "range_iterator") st' rfl rfl (by decide) ⟨.int (lo+i),H,I1,⟨t,?_⟩,⟨U,U⟩,st',λb hb=>(hf b hb).1⟩⟩;rw[Int.mul_one]
 done:=by
  intro X hP hw hK hc i Is s σ H E I hf st hg;subst hP hw hK;obtain⟨f0,f1,f2,f3,f4,f5⟩:=hf it (by simp);exact wpAny_pyNext_range_end (I.ok.hd hc) st (by have:n<=i:=hg; lia) λh' eb=>⟨rfl,I.turned (t':=s.toks) (λb o hb e=>eb b o hb e) f0 f1 f3 f4 f5⟩
 self:=λ_ _ _ _ _ st h=>wpAny_pyIter_rangeiter st h
end L2

namespace L2
section
variable{X:Cx}{tg:w4}
def iList(K:b7)(tl:TE):TI:=λσ H R=>tl σ H λx H1=>∃ a,x=.ref a/\(∃ xs,SqL K H1 a xs)/\R (Itl K a) H1
def iTup(K:b7)(tl:TE):TI:=λσ H R=>tl σ H λx H1=>∃ a,x=.ref a/\(∃ xs,SqT K H1 a xs)/\R (Itt K a) H1
def VQ{l:w4}{tl:TE}(hl:PE X l tl):PI X tg l (iList X.K tl):=by
 intro Is s σ H R I h;erw[thn (hl Is s σ H _ I h) λv s1 ⟨x,H1,I1,r1,q1⟩=>?_];obtain⟨a,e,⟨xs,hq⟩,q⟩:=q1;subst e;cases r1;obtain⟨its,rv,p,hz⟩:=I1.list hq;erw[BL p.isList ?_];erw[s1.heap.objs.size,[s1.heap.objs.size],_,_,H1,U,I1.kept (t':=s1.toks) λb o e=>c9 _ e,jd a _,⟨_,d9 _ rfl,U,U⟩,λb hb=>?_,q];have e:b=s1.heap.objs.size:=by simpa using hb
 subst e;rwa[I1.fpOk (d6 _) (I1.hok.fresh (d6 _))]
def XG{l:w4}{tl:TE}(hl:PE X l tl):PI X tg l (iTup X.K tl):=by
 intro Is s σ H R I h;erw[thn (hl Is s σ H _ I h) λv s1 ⟨x,H1,I1,r1,q1⟩=>?_];obtain⟨a,e,⟨xs,hq⟩,q⟩:=q1;subst e;cases r1;obtain⟨its,rv,p,hz⟩:=I1.tuple hq;refine DC (show s1.heap.IsTuple a its.toArray from p) ?_;erw[s1.heap.objs.size,[s1.heap.objs.size],_,_,H1,U,I1.kept (t':=s1.toks) λb o e=>c9 _ e,mO a _,⟨_,d9 _ rfl,U,U⟩,λb hb=>?_,q];have e:b=s1.heap.objs.size:=by simpa using hb
 subst e;rwa[I1.fpOk (d6 _) (I1.hok.fresh (d6 _))]
def eA{Is:List (b9×AM)}{σ:St}{H:Hp}{s:d3}{R:It->Hp->Prop}{E:c7->d3->Prop}{lo hi:Int}{t u v:Ij}{tk:Nat}(I:Inv X Is σ H s)(h1 : -(2^62)<=lo)(h2:lo<2^62)(h3 : -(2^62)<=hi)(h4:hi<2^62)
  (q:R (Itr lo (hi-lo).toNat) H):wpAny (model X.prog X.w) X.A (pyIter (.ref s.heap.objs.size)) (PIE X Is σ tg R) E { s with heap:=s.heap.push { cls:=.type "range",data:=.fields #[.int lo t,.int hi u,.int 1 v] },toks:=tk }:=by
 refine wpAny_pyIter_range (IsRange.new ..) (small_one h1 h2 h3 h4) ?_;have I1:Inv X Is σ H { s with heap:=s.heap.push { cls:=.type "range",data:=.fields #[.int lo t,.int hi u,.int 1 v] },toks:=tk }:=I.kept λb o e=>c9 _ e;refine⟨(s.heap.push { cls:=.type "range",data:=.fields #[.int lo t,.int hi u,.int 1 v] }).objs.size,[(s.heap.push { cls:=.type "range",data:=.fields #[.int lo t,.int hi u,.int 1 v] }).objs.size],_,_,H,U,
  I1.kept (t':=tk) λb o e=>c9 _ e,cG _ lo (hi-lo).toNat,?_,λb hb=>?_,q⟩
 ·have e1:lo+((0:Nat):Int)*1=lo:=by simp
  have e2:(((hi-lo).toNat:Nat):Int)-((0:Nat):Int)=HH lo hi 1:=by rw[rangeSize_one]; split <;> lia
  show IsRangeIter _ _ (lo+((0:Nat):Int)*1) ((((hi-lo).toNat:Nat):Int)-((0:Nat):Int)) 1;rw[e1,e2];rwa[d9 _ rfl]
 ·have e:b=(s.heap.push { cls:=.type "range",data:=.fields #[.int lo t,.int hi u,.int 1 v] }).objs.size:=by simpa using hb
  subst e;rwa[I1.fpOk (d6 _) (I1.hok.fresh (d6 _))]
def iRng1(ta:TA):TI:=λσ H R=>ta σ H λvs H1=>∃ j:Int,vs=[.int j]/\-(2^62)<=j/\j<2^62/\R (Itr 0 j.toNat) H1
def iRng2(ta:TA):TI:=λσ H R=>ta σ H λvs H1=>∃ i j:Int,vs=[.int i,.int j]/\(-(2^62)<=i/\i<2^62/\-(2^62)<=j/\j<2^62)/\R (Itr i (j-i).toNat) H1
def sZ{a:w4}{ta:TA}{p pos:Co}(hg:Gl X "range")(hm:X.mg "range" = Ip)(ha:PA X [a] ta)(hs:starEach [a] X.env=[(Ir,eval a X.env)]:=by rfl):PI X tg (.Call (.Name "range" p) [a] [] pos) (iRng1 ta):=by
 intro Is s σ H R I h;erw[Call_ (oE I hg hm boot_range (AZ (thn (ha pos Is s σ H _ I h) λus s1 ⟨vs,H1,I1,r1,q1⟩=>?_) hs rfl))];obtain⟨j,e,q1,q2,q⟩:=q1;subst e;cases r1 with
 | cons r rr =>
  cases rr;obtain⟨t,rfl⟩:=r;exact call_range_1 (eA I1 (by lia) (by lia) q1 q2 (by simpa using q))
def gy{a b:w4}{ta:TA}{p pos:Co}(hg:Gl X "range")(hm:X.mg "range" = Ip)(ha:PA X [a,b] ta)(hs:starEach [a,b] X.env=[(Ir,eval a X.env),(Ir,eval b X.env)]:=by rfl)(hs2:starEach [b] X.env=[(Ir,eval b X.env)]:=by rfl) :
  PI X tg (.Call (.Name "range" p) [a,b] [] pos) (iRng2 ta):=by
 intro Is s σ H R I h;erw[Call_ (oE I hg hm boot_range (AZ (thn (ha pos Is s σ H _ I h) λus s1 ⟨vs,H1,I1,r1,q1⟩=>?_) (by rw[hs,hs2]) (by rw[hs2]; rfl)))];obtain⟨i,j,e,⟨q1,q2,q3,q4⟩,q⟩:=q1;subst e;cases r1 with
 | cons r rr =>
  cases rr with
  | cons r' rr =>
   cases rr;obtain⟨t,rfl⟩:=r;obtain⟨t',rfl⟩:=r';rwa[call_range_2 (eA I1 q1 q2 q3 q4 q)]

def tFor(wi:TI)(g:TG)(tb:TS):TS:=λD σ H=>wi σ H λJ H1=>∃ W:Nat->Nat->St->Hp->Prop,(∃ m,W 0 m σ H1)/\∀ i m σ H,W i m σ H ->
 (J.stop i H/\D.nx σ H)\/(J.go i H/\∃ N:St->Hp->Prop,(∀ σ' H',N σ' H'->∃ m',m'<m/\W (i+1) m' σ' H')/\∀ x H',J.yld i H x H'->g x σ H' λσ2 H2=>tb { D with nx:=N,ct:=N,bk:=D.nx } σ2 H2)
def mW(fp:List b9)(h:o0):List (b9×AM):=fp.filterMap λb=>(h.get? b).map λo=>(b,o)
def tZ{fp:List b9}{h:o0}{b:b9}{o:AM}(hb:b∈fp)(e:h.get? b=Io o):(b,o)∈mW fp h:=CI.mpr ⟨b,hb,by rw[e]; rfl⟩
def bZ{fp:List b9}{h:o0}{p:b9×AM}(hp:p∈mW fp h):p.1∈fp/\h.get? p.1=Io p.2:=by
 obtain⟨b,hb,e⟩:=CI.mp hp;cases q:h.get? b with
 | none=>rw[q] at e; cases e
 | some o =>
  rw[q] at e;have e':(b,o)=p:=o9 e;subst e';rwa[hb,q]
def Inv.pinned{Is:List (b9×AM)}{σ:St}{H:Hp}{s:d3}{fp:List b9}(I:Inv X Is σ H s)(hf:∀ b∈fp,fT X Is H b)(ho:∀ b∈fp,∃ o,s.heap.get? b=Io o/\∀ v,o.data≠.cell v):Inv X (Is++mW fp s.heap) σ H s :=
 I.pins_of λp hp=>(m7.mp hp).elim (λz=>I.pin p (o6 _ z)) λz=>by
  obtain⟨hb,e⟩:=bZ z;obtain⟨f0,f1,f2,_⟩:=hf p.1 hb;obtain⟨o,e',d⟩:=ho p.1 hb;rw[e] at e'; cases e';rwa[e,f0,f1,f2,d]
def Inv.unpinned{Is pl:List (b9×AM)}{σ:St}{H:Hp}{s:d3}(I:Inv X (Is++pl) σ H s):Inv X Is σ H s:=I.pins_of λp hp=>I.pin p (o6 _ (BJ _ hp))
def qA{iter:w4}{body:List Ag}{wi:TI}{g:TG}{tb:TS}{pos:Co}(hp:PassesOwn (model X.prog X.w) X.A X.env X.xe)(hc:X.calm=Iq)(hi:PI X tg iter wi)(hg:PG X tg g)(hb:PSs X body tb)
  (hs:∀ x,foldedSetIterable iter X.env x=pure x:=by intro _; rfl):PS X (.For tg iter body [] pos) (tFor wi g tb):=by
 intro Is s σ H D I h;erw[wpAny_For (thn (hi Is s σ H _ I h) λv s1 h1=>thn h1 λitv s2 h2=>?_) hs];obtain⟨it,fp,tn,J,H2,e,I2,T,st2,f2,W,⟨m0,w0⟩,turn⟩:=h2;subst e;have stat:∀{H':Hp},(∀ b∈fp,H' b=Ip)->∀ b∈fp,fT X Is H' b:=λhn b hb=>⟨hn b hb,(f2 b hb).2⟩;erw[codeAny_forLoop_any (λn s'=>∃ i σ' H',Inv X Is σ' H' s'/\tn i s'.heap/\(∀ b∈fp,H' b=Ip)/\W i n σ' H') ?_ m0 ⟨0,σ,H2,I2,st2,λb hb=>(f2 b hb).1,w0⟩];rintro n s3 ⟨i,σ3,H3,I3,st3,fr3,w3⟩;rcases turn i n σ3 H3 w3 with ⟨stop,qn⟩ | ⟨go,N,hN,step⟩
 ·erw[BH hp (thn (T.done X rfl rfl rfl hc i Is s3 σ3 H3 X.xe I3 (stat fr3) st3 stop) λr s4 ⟨hr,I4⟩=>?_)];subst hr;rwa[CH ⟨σ3,H3,I4,qn⟩]
 ·refine BH hp (thn (T.item X rfl rfl rfl hc i Is s3 σ3 H3 X.xe I3 (stat fr3) st3 go) λr s4 ⟨u,hr,h4⟩=>?_);subst hr;refine BH hp (thn h4 λ_ s5 ⟨x,H5,I5,r5,y5,st5,fr5⟩=>?_);have I5':=I5.pinned (stat fr5) (T.obj _ _ st5);refine BH hp (thn (hg _ s5 σ3 H5 x u _ I5' r5 (step x H5 y5)) λ_ s6 ⟨σ6,H6,I6,q6⟩=>?_);refine BH hp (thn (hb _ s6 σ6 H6 _ I6 q6) λf s7 q7=>?_);have again:∀{σ7:St}{H7:Hp},Inv X (Is++mW fp s5.heap) σ7 H7 s7->N σ7 H7->∃ m,m<n/\∃ i σ' H',Inv X Is σ' H' s7/\tn i s7.heap/\(∀ b∈fp,H' b=Ip)/\W i m σ' H':=λ{σ7 H7} I7 n7=>by
   obtain⟨m',hm,w7⟩:=hN σ7 H7 n7;erw[m',hm,i+1,σ7,H7,I7.unpinned,T.keep _ _ _ st5 λb hb o e=>(I7.pin (b,o) (o6 _ (o6 _ (tZ hb e)))).1,λb hb=>?_,w7];obtain⟨o,e,d⟩:=T.obj _ _ st5 b hb;exact(I7.pin (b,o) (o6 _ (o6 _ (tZ hb e)))).2.1
  cases f with
  | next=>obtain⟨σ7,H7,I7,n7⟩:=q7; rwa[again I7 n7]
  | cont=>obtain⟨σ7,H7,I7,n7⟩:=q7; rwa[again I7 n7]
  | brk=>obtain⟨σ7,H7,I7,q7⟩:=q7; rwa[σ7,H7,I7.unpinned,q7]
  | ret v=>obtain⟨x7,σ7,H7,I7,r7,q7⟩:=q7; rwa[x7,σ7,H7,I7.unpinned,r7,q7]
end

def Xl{K:b7}{a:b9}{xs:List V}{g:TG}{tb:TS}{D:bu}{σ:St}{H:Hp}(Pv:Nat->St->Hp->Prop)(h0:Pv 0 σ H)(hl:∀ i σ H,i<=xs.length->Pv i σ H->SqL K H a xs)
  (hs:∀ i x σ H,xs[i]?=Io x->Pv i σ H->g x σ H λσ2 H2=>tb { D with nx:=Pv (i+1),ct:=Pv (i+1),bk:=D.nx } σ2 H2) (hd:∀ σ H,Pv xs.length σ H->D.nx σ H) :
  ∃ W:Nat->Nat->St->Hp->Prop,(∃ m,W 0 m σ H)/\∀ i m σ H,W i m σ H ->
   ((Itl K a).stop i H/\D.nx σ H)\/((Itl K a).go i H/\∃ N:St->Hp->Prop,(∀ σ' H',N σ' H'->∃ m',m'<m/\W (i+1) m' σ' H')/\∀ x H',(Itl K a).yld i H x H'->g x σ H' λσ2 H2=>tb { D with nx:=N,ct:=N,bk:=D.nx } σ2 H2):=by
 exists λi m σ H=>m=xs.length-i/\i<=xs.length/\Pv i σ H,⟨xs.length,by simp,t7 _,h0⟩;rintro i m σ H ⟨rfl,hi,p⟩;have q:=hl i σ H hi p;by_cases hlt:i<xs.length
 ·erw[.inr ⟨⟨xs,xs[i],q,by simp[hlt]⟩,Pv (i+1),λσ' H' p'=>⟨xs.length-(i+1),by lia,rfl,hlt,p'⟩,λx H' y=>?_⟩];obtain⟨e,y⟩:=y;subst e;rwa[hs i x σ _ (y xs q) p]
 ·have e:i=xs.length:=by lia
  subst e;rwa[.inl ⟨⟨xs,q,d6 _⟩,hd σ H p⟩]
def aZ{K:b7}{a:b9}{xs:List V}{g:TG}{tb:TS}{D:bu}{σ:St}{H:Hp}(Pv:Nat->St->Hp->Prop)(h0:Pv 0 σ H)(hl:∀ i σ H,i<=xs.length->Pv i σ H->SqT K H a xs)
  (hs:∀ i x σ H,xs[i]?=Io x->Pv i σ H->g x σ H λσ2 H2=>tb { D with nx:=Pv (i+1),ct:=Pv (i+1),bk:=D.nx } σ2 H2) (hd:∀ σ H,Pv xs.length σ H->D.nx σ H) :
  ∃ W:Nat->Nat->St->Hp->Prop,(∃ m,W 0 m σ H)/\∀ i m σ H,W i m σ H ->
   ((Itt K a).stop i H/\D.nx σ H)\/((Itt K a).go i H/\∃ N:St->Hp->Prop,(∀ σ' H',N σ' H'->∃ m',m'<m/\W (i+1) m' σ' H')/\∀ x H',(Itt K a).yld i H x H'->g x σ H' λσ2 H2=>tb { D with nx:=N,ct:=N,bk:=D.nx } σ2 H2):=by
 exists λi m σ H=>m=xs.length-i/\i<=xs.length/\Pv i σ H,⟨xs.length,by simp,t7 _,h0⟩;rintro i m σ H ⟨rfl,hi,p⟩;have q:=hl i σ H hi p;by_cases hlt:i<xs.length
 ·erw[.inr ⟨⟨xs,xs[i],q,by simp[hlt]⟩,Pv (i+1),λσ' H' p'=>⟨xs.length-(i+1),by lia,rfl,hlt,p'⟩,λx H' y=>?_⟩];obtain⟨e,y⟩:=y;subst e;rwa[hs i x σ _ (y xs q) p]
 ·have e:i=xs.length:=by lia
  subst e;rwa[.inl ⟨⟨xs,q,d6 _⟩,hd σ H p⟩]
def rT{lo:Int}{n:Nat}{g:TG}{tb:TS}{D:bu}{σ:St}{H:Hp}(Pv:Nat->St->Hp->Prop)(h0:Pv 0 σ H)
  (hs:∀ i σ H,i<n->Pv i σ H->g (.int (lo+i)) σ H λσ2 H2=>tb { D with nx:=Pv (i+1),ct:=Pv (i+1),bk:=D.nx } σ2 H2) (hd:∀ σ H,Pv n σ H->D.nx σ H) :
  ∃ W:Nat->Nat->St->Hp->Prop,(∃ m,W 0 m σ H)/\∀ i m σ H,W i m σ H ->
   ((Itr lo n).stop i H/\D.nx σ H)\/((Itr lo n).go i H/\∃ N:St->Hp->Prop,(∀ σ' H',N σ' H'->∃ m',m'<m/\W (i+1) m' σ' H')/\∀ x H',(Itr lo n).yld i H x H'->g x σ H' λσ2 H2=>tb { D with nx:=N,ct:=N,bk:=D.nx } σ2 H2):=by
 exists λi m σ H=>m=n-i/\i<=n/\Pv i σ H,⟨n,by simp,t7 _,h0⟩;rintro i m σ H ⟨rfl,hi,p⟩;by_cases hlt:i<n
 ·erw[.inr ⟨hlt,Pv (i+1),λσ' H' p'=>⟨n-(i+1),by lia,rfl,hlt,p'⟩,λx H' y=>?_⟩];obtain⟨e,y⟩:=y;subst e y;rwa[hs i σ _ hlt p]
 ·have e:i=n:=by lia
  subst e;rwa[.inl ⟨d6 _,hd σ H p⟩]
def dF{c:TT}{tb:TS}{D:bu}{σ:St}{H:Hp}(Pv:St->Hp->Prop)(μ:St->Hp->Nat)(h0:Pv σ H)
  (hs:∀ σ H,Pv σ H->c σ H λb H1=>if b=Iq then tb { D with nx:=λσ' H'=>Pv σ' H'/\μ σ' H'<μ σ H,ct:=λσ' H'=>Pv σ' H'/\μ σ' H'<μ σ H,bk:=D.nx } σ H1 else D.nx σ H1)
  (mono:∀ σ H Q Q',(∀ b H1,Q b H1->Q' b H1)->c σ H Q->c σ H Q'):Wn c tb D σ H:=by
 exists λm σ H=>m=μ σ H/\Pv σ H,⟨_,U,h0⟩;rintro m σ H ⟨rfl,p⟩;erw[mono σ H _ _ (λb H1 q=>?_) (hs σ H p)];cases b with
 | true=>rwa[_,λσ' H' ⟨p',l⟩=>⟨_,l,U,p'⟩,q]
 | false=>rwa[q]
end L2

namespace L2

abbrev R2:=V->V->Hp->VK->Prop
def OpR(X:Cx)(f:c7->c7->GW c7)(r:R2):Prop :=
 ∀(Is:List (b9×AM))(s:d3)(σ:St)(H:Hp)(x y:V)(v u:c7)(Q:VK),Inv X Is σ H s->xF x v->xF y u->r x y H Q ->
  wpAny (model X.prog X.w) X.A (f v u) (EP X Is σ Q) X.xe s
def UnR(X:Cx)(f:c7->GW c7)(r:V->Hp->VK->Prop):Prop :=
 ∀(Is:List (b9×AM))(s:d3)(σ:St)(H:Hp)(x:V)(v:c7)(Q:VK),Inv X Is σ H s->xF x v->r x H Q ->
  wpAny (model X.prog X.w) X.A (f v) (EP X Is σ Q) X.xe s
def uK(X:Cx)(f:c7)(r:List V->Hp->VK->Prop):Prop :=
 ∀(Is:List (b9×AM))(s:d3)(σ:St)(H:Hp)(xs:List V)(us:List c7)(Q:VK),Inv X Is σ H s->yO xs us->r xs H Q ->
  wpAny (model X.prog X.w) X.A (call f us) (EP X Is σ Q) X.xe s
def tOp(r:R2)(ta tb:TE):TE:=λσ H Q=>ta σ H λx H1=>tb σ H1 λy H2=>r x y H2 Q
def tUn(r:V->Hp->VK->Prop)(ta:TE):TE:=λσ H Q=>ta σ H λx H1=>r x H1 Q
inductive RI(C:Int->Int->Prop)(g:Int->Int->V)(x y:V)(H:Hp)(Q:VK):Prop where
 | mk (i j:Int) (ex:x=.int i) (ey:y=.int j) (c:C i j) (q:Q (g i j) H)
def rI(C:Int->Int->Prop)(g:Int->Int->V):R2:=λx y H Q=>RI C g x y H Q
inductive RI0(g:Int->Int->V)(x y:V)(H:Hp)(Q:VK):Prop where
 | mk (i j:Int) (ex:x=.int i) (ey:y=.int j) (q:Q (g i j) H)
def rI0(g:Int->Int->V):R2:=λx y H Q=>RI0 g x y H Q
inductive RU(g:Int->V)(x:V)(H:Hp)(Q:VK):Prop where
 | mk (i:Int) (ex:x=.int i) (q:Q (g i) H)
def rU(g:Int->V):V->Hp->VK->Prop:=λx H Q=>RU g x H Q

section
variable{X:Cx}{a b c:w4}{ta tb tc:TE}{pos:Co}

def Sk(ha:PE X a ta)(hb:PE X b tb){Is:List (b9×AM)}{s:d3}{σ:St}{H:Hp}{R:V->V->Hp->Prop}(I:Inv X Is σ H s)
  (h:ta σ H λx H1=>tb σ H1 λy H2=>R x y H2) {Q:c7->d3->Prop} {f:c7->c7->GW c7}
  (hf:∀ v u s2 x y H2,Inv X Is σ H2 s2->xF x v->xF y u->R x y H2->wpAny (model X.prog X.w) X.A (f v u) Q X.xe s2) :
  wpAny (model X.prog X.w) X.A (eval a X.env) (λv s₁=>wpAny (model X.prog X.w) X.A (eval b X.env) (λu s₂=>wpAny (model X.prog X.w) X.A (f v u) Q X.xe s₂) X.xe s₁) X.xe s:=by
 erw[thn (ha Is s σ H _ I h) λv s1 ⟨x,H1,I1,r1,q1⟩=>?_];erw[thn (hb Is s1 σ H1 _ I1 q1) λu s2 ⟨y,H2,I2,r2,q2⟩=>?_];rwa[hf v u s2 x y H2 I2 r1 r2 q2]

def wH{op:Operator}{r:R2}(ho:OpR X (binaryOp op) r)(ha:PE X a ta)(hb:PE X b tb):PE X (.BinOp a op b pos) (tOp r ta tb):=by
 intro Is s σ H Q I h;rwa[wpAny_BinOp (Sk ha hb I h λv u s2 x y H2 I2 rx ry q=>ho Is s2 σ H2 x y v u Q I2 rx ry q)]
def pe_un{op:UnaryOp}{r:V->Hp->VK->Prop}(ho:UnR X (unaryOp op) r)(ha:PE X a ta):PE X (.UnaryOp op a pos) (tUn r ta):=by
 intro Is s σ H Q I h;rwa[UnaryOp_ (thn (ha Is s σ H _ I h) λv s1 ⟨x,H1,I1,r1,q1⟩=>ho Is s1 σ H1 x v Q I1 r1 q1)]
def opI{f:c7->c7->GW c7}{C:Int->Int->Prop}{g:Int->Int->Int}
  (rule:∀(i j:Int)(t u:Ij)(s:d3)(Q:c7->d3->Prop)(E:c7->d3->Prop),C i j->Q (.int (g i j) s.toks) { s with toks:=s.toks+1 }->wpAny (model X.prog X.w) X.A (f (.int i t) (.int j u)) Q E s) :
  OpR X f (rI C λi j=>.int (g i j)):=by
 intro Is s σ H x y v u Q I rx ry h;obtain⟨i,j,rfl,rfl,hc,q⟩:=h;obtain⟨t,rfl⟩:=rx;obtain⟨t',rfl⟩:=ry;rwa[rule i j t t' s _ _ hc ⟨.int (g i j),H,I.tok _,⟨_,rfl⟩,q⟩]
def opI0{f:c7->c7->GW c7}{g:Int->Int->Int}
  (rule:∀(i j:Int)(t u:Ij)(s:d3)(Q:c7->d3->Prop)(E:c7->d3->Prop),Q (.int (g i j) s.toks) { s with toks:=s.toks+1 }->wpAny (model X.prog X.w) X.A (f (.int i t) (.int j u)) Q E s) :
  OpR X f (rI0 λi j=>.int (g i j)):=by
 intro Is s σ H x y v u Q I rx ry h;obtain⟨i,j,rfl,rfl,q⟩:=h;obtain⟨t,rfl⟩:=rx;obtain⟨t',rfl⟩:=ry;rwa[rule i j t t' s _ _ ⟨.int (g i j),H,I.tok _,⟨_,rfl⟩,q⟩]
def Sy{f:c7->c7->GW c7}{g:Int->Int->Bool}
  (rule:∀(i j:Int)(t u:Ij)(s:d3)(Q:c7->d3->Prop)(E:c7->d3->Prop),Q (.bool (g i j)) s->wpAny (model X.prog X.w) X.A (f (.int i t) (.int j u)) Q E s) :
  OpR X f (rI0 λi j=>.bl (g i j)):=by
 intro Is s σ H x y v u Q I rx ry h;obtain⟨i,j,rfl,rfl,q⟩:=h;obtain⟨t,rfl⟩:=rx;obtain⟨t',rfl⟩:=ry;rwa[rule i j t t' s _ _ ⟨.bl (g i j),H,I,rfl,q⟩]

def Su(i j:Int):Prop:=0<=j/\j<=1000000/\i.natAbs<2^64
def TU(i j:Int):Prop:=(-(2^64)<i/\i<2^64)\/(-(2^64)<j/\j<2^64)
def TU.ok{i j:Int}(h:TU i j):IntMulOk i j:=by
 rcases h with ⟨h1,h2⟩ | ⟨h1,h2⟩
 ·rwa[.of_left (intBits_le_64 h1 h2)]
 ·rwa[.of_right (intBits_le_64 h1 h2)]
def xa:OpR X (binaryOp .Add) (rI0 λi j=>.int (i+j)):=opI0 λ_ _ _ _ _ _ _ q=>add_int q
def Wr:OpR X (binaryOp .Sub) (rI0 λi j=>.int (i-j)):=opI0 λ_ _ _ _ _ _ _ q=>sub_int q
def TH:OpR X (binaryOp .Mult) (rI TU λi j=>.int (i*j)):=opI λ_ _ _ _ _ _ _ hc q=>mul_int q hc.ok
def mJ:OpR X (binaryOp .Mod) (rI (λ_ j=>0<j) λi j=>.int (i%j)):=opI λi j _ _ _ _ _ hc q=>by
 have h1:(0:Int)<j:=hc;rwa[mod_int' (by lia) (by rw[Int.fmod_eq_emod_of_nonneg i (by lia)]; exact q)]
def Tm:OpR X (binaryOp .Pow) (rI Su λi j=>.int (i^j.toNat)):=opI λ_ _ _ _ _ _ _ hc q=>pow_int_small hc.1 hc.2.1 hc.2.2 q
def unI{f:c7->GW c7}{g:Int->Int}
  (rule:∀(i:Int)(t:Ij)(s:d3)(Q:c7->d3->Prop)(E:c7->d3->Prop),Q (.int (g i) s.toks) { s with toks:=s.toks+1 }->wpAny (model X.prog X.w) X.A (f (.int i t)) Q E s) :
  UnR X f (rU λi=>.int (g i)):=by
 intro Is s σ H x v Q I rx h;obtain⟨i,rfl,q⟩:=h;obtain⟨t,rfl⟩:=rx;rwa[rule i t s _ _ ⟨.int (g i),H,I.tok _,⟨_,rfl⟩,q⟩]
def Uc:UnR X (unaryOp .USub) (rU λi=>.int (-i)):=unI λ_ _ _ _ _ q=>neg_int q
end

def TF:V->V->Bool
 | .non,.non=>Iq | .non,.int _=>Iq | .int _,.non=>Iq | .non,.bl _=>Iq | .bl _,.non=>Iq | .non,.str _=>Iq | .str _,.non=>Iq
 | .int _,.int _=>Iq | .bl _,.bl _=>Iq | .str _,.str _=>Iq | .byt _,.byt _=>Iq
 | .int _,.str _=>Iq | .str _,.int _=>Iq | .bl _,.str _=>Iq | .str _,.bl _=>Iq
 | _,_=>Ir
def rEq:R2:=λx y H Q=>TF x y=Iq/\Q (.bl (decide (x=y))) H
def rNe:R2:=λx y H Q=>TF x y=Iq/\Q (.bl (!decide (x=y))) H

def aC{i j:Int} : decide (V.int i=V.int j)=(i == j):=by
 rw[B4];simp
def Wu{i j:Bool} : decide (V.bl i=V.bl j)=(i == j):=by
 rw[B4];simp
def ae{i j:g8} : decide (V.str i=V.str j)=(i == j):=by
 rw[B4];simp
def bI{i j:Array UInt8} : decide (V.byt i=V.byt j)=(i.toList == j.toList):=by
 rw[B4];cases i;cases j;simp

section
variable{X:Cx}{a b c:w4}{ta tb tc:TE}{pos:Co}
def yW{Is:List (b9×AM)}{σ:St}{H:Hp}{s:d3}{Q:VK}{k k':Bool}(I:Inv X Is σ H s)(q:Q (.bl k) H)(e:k=k'):EP X Is σ Q (.bool k') s:=by
 subst e;rwa[.bl k,H,I,U,q]
def Vd:OpR X (compareOp .Eq) rEq:=by
 intro Is s σ H x y v u Q I rx ry h;obtain⟨hs,q⟩:=h;cases x with
 | non =>
  cases rx;cases y with
  | non=>cases ry; rwa[GX (yW I q (by simp))]
  | bl j=>cases ry; rwa[GY (yW I q (by simp))]
  | int j=>obtain⟨t',rfl⟩:=ry; rwa[Hh (yW I q (by simp))]
  | str j=>obtain⟨t',rfl⟩:=ry; rwa[Hi (yW I q (by simp))]
  | _=>exact x5 (show Ir=Iq from hs) h9
 | bl i =>
  cases rx;cases y with
  | non=>cases ry; rwa[GZ (yW I q (by simp))]
  | bl j=>cases ry; rwa[eq_bool (yW I q Wu)]
  | str j=>obtain⟨t',rfl⟩:=ry; rwa[G0 (yW I q (by simp))]
  | _=>exact x5 (show Ir=Iq from hs) h9
 | int i =>
  obtain⟨t,rfl⟩:=rx;cases y with
  | non=>cases ry; rwa[Hj (yW I q (by simp))]
  | int j=>obtain⟨t',rfl⟩:=ry; rwa[eq_int (yW I q aC)]
  | str j=>obtain⟨t',rfl⟩:=ry; rwa[Hk (yW I q (by simp))]
  | _=>exact x5 (show Ir=Iq from hs) h9
 | str i =>
  obtain⟨t,rfl⟩:=rx;cases y with
  | non=>cases ry; rwa[Hl (yW I q (by simp))]
  | bl j=>cases ry; rwa[G8 (yW I q (by simp))]
  | int j=>obtain⟨t',rfl⟩:=ry; rwa[Hm (yW I q (by simp))]
  | str j=>obtain⟨t',rfl⟩:=ry; rwa[eq_str (yW I q ae)]
  | _=>exact x5 (show Ir=Iq from hs) h9
 | byt i =>
  obtain⟨t,rfl⟩:=rx;cases y with
  | byt j=>obtain⟨t',rfl⟩:=ry; rwa[PySem.W.eq_bytes (yW I q bI)]
  | _=>exact x5 (show Ir=Iq from hs) h9
 | _=>cases y <;> exact x5 (show Ir=Iq from hs) h9
def UP:OpR X (compareOp .NotEq) rNe:=by
 intro Is s σ H x y v u Q I rx ry h;obtain⟨hs,q⟩:=h;cases x with
 | non =>
  cases rx;cases y with
  | non=>cases ry; rwa[G9 (yW I q (by simp))]
  | bl j=>cases ry; rwa[Ha (yW I q (by simp))]
  | int j=>obtain⟨t',rfl⟩:=ry; rwa[Hn (yW I q (by simp))]
  | str j=>obtain⟨t',rfl⟩:=ry; rwa[Ho (yW I q (by simp))]
  | _=>exact x5 (show Ir=Iq from hs) h9
 | bl i =>
  cases rx;cases y with
  | non=>cases ry; rwa[Hb (yW I q (by simp))]
  | bl j=>cases ry; rwa[ne_bool (yW I q (congrArg not Wu))]
  | str j=>obtain⟨t',rfl⟩:=ry; rwa[Hc (yW I q (by simp))]
  | _=>exact x5 (show Ir=Iq from hs) h9
 | int i =>
  obtain⟨t,rfl⟩:=rx;cases y with
  | non=>cases ry; rwa[Hq (yW I q (by simp))]
  | int j=>obtain⟨t',rfl⟩:=ry; rwa[ne_int (yW I q (congrArg not aC))]
  | str j=>obtain⟨t',rfl⟩:=ry; rwa[Hr (yW I q (by simp))]
  | _=>exact x5 (show Ir=Iq from hs) h9
 | str i =>
  obtain⟨t,rfl⟩:=rx;cases y with
  | non=>cases ry; rwa[Hs (yW I q (by simp))]
  | bl j=>cases ry; rwa[Hd (yW I q (by simp))]
  | int j=>obtain⟨t',rfl⟩:=ry; rwa[Ht (yW I q (by simp))]
  | str j=>obtain⟨t',rfl⟩:=ry; rwa[ne_str (yW I q (congrArg not ae))]
  | _=>exact x5 (show Ir=Iq from hs) h9
 | byt i =>
  obtain⟨t,rfl⟩:=rx;cases y with
  | byt j=>obtain⟨t',rfl⟩:=ry; rwa[PySem.W.ne_bytes (yW I q (congrArg not bI))]
  | _=>exact x5 (show Ir=Iq from hs) h9
 | _=>cases y <;> exact x5 (show Ir=Iq from hs) h9

def aj:OpR X (compareOp .Lt) (rI0 λi j=>.bl (decide (i<j))):=Sy λ_ _ _ _ _ _ _ q=>lt_int q
def wg:OpR X (compareOp .LtE) (rI0 λi j=>.bl (decide (i<=j))):=Sy λ_ _ _ _ _ _ _ q=>le_int q
def kX:OpR X (compareOp .Gt) (rI0 λi j=>.bl (decide (j<i))):=Sy λ_ _ _ _ _ _ _ q=>gt_int q
def WH:OpR X (compareOp .GtE) (rI0 λi j=>.bl (decide (j<=i))):=Sy λ_ _ _ _ _ _ _ q=>ge_int q
def yS(b:w4){op:Gu}(h:op≠.In:=by decide)(h2:op≠.NotIn:=by decide):behindInMarks op b=false:=by
 have e1:(op == CmpOp.In)=false:=by cases op <;> first | rfl | exact x5 rfl h
 have e2:(op == CmpOp.NotIn)=false:=by cases op <;> first | rfl | exact x5 rfl h2
 cases b <;> simp[behindInMarks,e1,e2]
def sS{op:Gu}{r:R2}(ho:OpR X (compareOp op) r)(ha:PE X a ta)(hb:PE X b tb)(hm:behindInMarks op b=Ir):PE X (.Compare a [op] [b] pos) (tOp r ta tb):=by
 intro Is s σ H Q I h;rwa[wpAny_Compare1 (Sk ha hb I h λv u s2 x y H2 I2 rx ry q=>ho Is s2 σ H2 x y v u Q I2 rx ry q) hm]
def Vl(t:TE):TT:=λσ H Q=>t σ H λx H'=>∃ k,x=.bl k/\Q k H'
def yH{op:Gu}{r:R2}(ho:OpR X (compareOp op) r)(ha:PE X a ta)(hb:PE X b tb)(hm:behindInMarks op b=Ir):PT X (.Compare a [op] [b] pos) (Vl (tOp r ta tb)):=by
 intro Is s σ H Q I h;refine EO (thn (ha Is s σ H _ I h) λv s1 ⟨x,H1,I1,r1,q1⟩=>thn (hb Is s1 σ H1 _ I1 q1) λu s2 ⟨y,H2,I2,r2,q2⟩ =>
  thn (ho Is s2 σ H2 x y v u _ I2 r1 r2 q2) λc s3 ⟨z,H3,I3,r3,k,e,q3⟩=>?_) hm
 subst e;cases r3;rwa[AG ⟨H3,I3,q3⟩]
def Wh(r r':R2)(ta tb tc:TE):TE:=λσ H Q=>ta σ H λx H1=>tb σ H1 λy H2=>r x y H2 λz H3=>∃ k,z=.bl k /\
 (if k=Iq then tc σ H3 λw' H4=>r' y w' H4 Q else Q (.bl Ir) H3)
def vf{op op':Gu}{r r':R2}(ho:OpR X (compareOp op) r)(ho':OpR X (compareOp op') r')(ha:PE X a ta)(hb:PE X b tb)(hc:PE X c tc)
  (hm:lastMarks [op,op'] [b,c]=false:=by with_unfolding_all rfl):PE X (.Compare a [op,op'] [b,c] pos) (Wh r r' ta tb tc):=by
 intro Is s σ H Q I h;refine Compare_chain (thn (ha Is s σ H _ I h) λv s1 ⟨x,H1,I1,r1,q1⟩=>chain_link (thn (hb Is s1 σ H1 _ I1 q1) λu s2 ⟨y,H2,I2,r2,q2⟩ =>
  thn (ho Is s2 σ H2 x y v u _ I2 r1 r2 q2) λd s3 ⟨z,H3,I3,r3,k,e,q3⟩=>?_)) hm
 subst e;cases r3;erw[AG ?_];cases k with
 | false=>rwa[ite_ff ⟨.bl Ir,H3,I3,rfl,q3⟩]
 | true=>rwa[ite_tt (chain_last (thn (hc Is s3 σ H3 _ I3 q3) λw' s4 ⟨z',H4,I4,r4,q4⟩=>ho' Is s4 σ H4 y z' u w' Q I4 r2 r4 q4))]
def kK{op op':Gu}{r r':R2}(ho:OpR X (compareOp op) r)(ho':OpR X (compareOp op') r')(ha:PE X a ta)(hb:PE X b tb)(hc:PE X c tc)
  (hm:lastMarks [op,op'] [b,c]=false:=by with_unfolding_all rfl):PT X (.Compare a [op,op'] [b,c] pos) (Vl (Wh r r' ta tb tc)):=by
 intro Is s σ H Q I h;refine isTrue_chain (thn (ha Is s σ H _ I h) λv s1 ⟨x,H1,I1,r1,q1⟩=>test_link (thn (hb Is s1 σ H1 _ I1 q1) λu s2 ⟨y,H2,I2,r2,q2⟩ =>
  thn (ho Is s2 σ H2 x y v u _ I2 r1 r2 q2) λd s3 ⟨z,H3,I3,r3,k,e,q3⟩=>?_)) hm
 subst e;cases r3;erw[AG ?_];cases k with
 | false =>
  obtain⟨k',e',q'⟩:=q3;cases e';rwa[ite_ff ⟨H3,I3,q'⟩]
 | true =>
  erw[ite_tt (test_last (thn (hc Is s3 σ H3 _ I3 q3) λw' s4 ⟨z',H4,I4,r4,q4⟩=>thn (ho' Is s4 σ H4 y z' u w' _ I4 r2 r4 q4) λd' s5 ⟨z2,H5,I5,r5,k2,e2,q5⟩=>?_))];subst e2;cases r5;rwa[AG ⟨H5,I5,q5⟩]

def mV:(sizeLine:Nat)<2^63:=by rw[sizeLine_eq]; decide
def lA:OpR X (binaryOp .Add) (λx y H Q=>∃ i j,x=.str i/\y=.str j/\i.length+j.length<=sizeLine/\Q (.str (i++j)) H):=by
 intro Is s σ H x y v u Q I rx ry h;obtain⟨i,j,rfl,rfl,hz,q⟩:=h;obtain⟨t,rfl⟩:=rx;obtain⟨t',rfl⟩:=ry;rwa[add_str (λt' tk=>⟨.str (i++j),H,I.tok _,⟨_,rfl⟩,q⟩) hz]
def ic{x:V}{us:List c7}(r:yO [x] us):∃ u,us=[u]/\xF x u:=by
 cases r with
 | cons r1 r2=>cases r2; rwa[_,U,r1]
def Xu{x y:V}{us:List c7}(r:yO [x,y] us):∃ u w',us=[u,w']/\xF x u/\xF y w':=by
 cases r with
 | cons r1 r2 =>
  cases r2 with
  | cons r3 r4=>cases r4; rwa[_,_,U,r1,r3]
def Ys:uK X (.builtin "abs") (λxs H Q=>∃ i,xs=[.int i]/\Q (.int (if i<0 then -i else i)) H):=by
 intro Is s σ H xs us Q I r h;obtain⟨i,rfl,q⟩:=h;obtain⟨u,rfl,t,rfl⟩:=ic r;exact call_abs_int λu tk=>⟨.int (if i<0 then -i else i),H,I.tok _,⟨_,rfl⟩,q⟩
def aG(hc:X.calm=Iq):uK X (.builtin "max") (λxs H Q=>∃ i j,xs=[.int i,.int j]/\Q (.int (if j>i then j else i)) H):=by
 intro Is s σ H xs us Q I r h;obtain⟨i,j,rfl,q⟩:=h;obtain⟨u,w',rfl,⟨t,rfl⟩,⟨t',rfl⟩⟩:=Xu r;erw[max_two_ints (I.ok.hd hc) λh' tk k=>⟨_,H,I.kept k,?_,q⟩];by_cases hj:j>i
 ·rw[y9 hj,y9 hj]; rwa[_,U]
 ·rw[y7 hj,y7 hj]; rwa[_,U]
def bH(hc:X.calm=Iq):uK X (.builtin "min") (λxs H Q=>∃ i j,xs=[.int i,.int j]/\Q (.int (if j<i then j else i)) H):=by
 intro Is s σ H xs us Q I r h;obtain⟨i,j,rfl,q⟩:=h;obtain⟨u,w',rfl,⟨t,rfl⟩,⟨t',rfl⟩⟩:=Xu r;erw[min_two_ints (I.ok.hd hc) λh' tk k=>⟨_,H,I.kept k,?_,q⟩];by_cases hj:j<i
 ·rw[y9 hj,y9 hj]; rwa[_,U]
 ·rw[y7 hj,y7 hj]; rwa[_,U]
def gq:uK X (.type "int") (λxs H Q=>(∃ i,xs=[.int i]/\Q (.int i) H)\/∃ k,xs=[.bl k]/\Q (.int (if k then 1 else 0)) H):=by
 intro Is s σ H xs us Q I r h;rcases h with ⟨i,rfl,q⟩ | ⟨k,rfl,q⟩
 ·obtain⟨u,rfl,t,rfl⟩:=ic r;rwa[call_int_int ⟨.int i,H,I,⟨_,rfl⟩,q⟩]
 ·obtain⟨u,rfl,r1⟩:=ic r;cases r1;exact call_int_bool ⟨.int (if k then 1 else 0),H,I.tok _,⟨_,rfl⟩,q⟩
end
end L2

namespace L2

structure VE(h:o0)(x dx C:b9)(mA:g8->Option c7):Prop where
 obj:h.get? x=Io (Bo C dx)
 ns:h.Ns1 dx mA
 ne:dx≠x

def ZF{h:o0}{dx:b9}{mA:g8->Option c7}(n:h.Ns1 dx mA):∃ od,h.get? dx=Io od/\∀ name,DD name od=Io (mA name):=by
 obtain⟨o,es,ep,ho,hd,hk,_,hm⟩:=n;erw[o,ho,λname=>?_];have e:=hm name;unfold nsFind findBy at e;rw[<- Array.find?_toList] at e;unfold DD;rw[hd];dsimp only;split
 ·rename_i y q
  rw[q] at e;rwa[congrArg Io e]
 ·rename_i q
  rw[q] at e;have a:es.toList.any (·.refKey)=false:=by
   rw[FH];intro y hy;obtain⟨z,t,hkey⟩:=hk y (C7.mp hy);simp[DictEntry.refKey,hkey]
  have a':¬ es.toList.any (·.refKey)=true:=by rw[a]; rwa[h9]
  rw[y7 a'];rwa[congrArg Io e]

def VE.look{h:o0}{x dx C:b9}{mA:g8->Option c7}(I:VE h x dx C mA):∃ od,PySem.W.InstAt h x (Bo C dx) C (Io od)/\∀ name,DD name od=Io (mA name) :=
 let ⟨od,ho,hl⟩:=ZF I.ns
 ⟨od,⟨I.obj,rfl,rfl,ho⟩,hl⟩

section
variable{prog:j9}{w:n9}{A:Ac}{E:c7->d3->Prop}{s:d3}{K:b7}{x dx C f:b9}{mA:g8->Option c7}{name:g8}{v:c7}

def WI{expr:Bool}{Q:c7->d3->Prop}(X:K.In s.heap)(I:VE s.heap x dx C mA)(hg:C0 K C name=Iq)(hh:DT K C=Iq)
  (ha:AA K (.ref C) name=Io Ip) (hv:mA name=Io v) (hv':F8 v=Iq) (h:Q v { s with toks:=s.toks+1 }) :
  wpAny (model prog w) A (getAttr (.ref x) name expr) Q E s:=by
 obtain⟨od,J,hl⟩:=I.look;rwa[PySem.W.get_value X J (Dp hg).1 (PySem.W.findObj_own hh ha rfl (by rw[hl,hv])) hv' h]

def Xv{pl:GW Bool}{Q:c7×List c7->d3->Prop}(X:K.In s.heap)(I:VE s.heap x dx C mA)(hg:C0 K C name=Iq)
  (hf:AA K (.ref C) name=Io (Io (.ref f))) (ht:FI K (.ref f)=Iq) (hv:mA name=Ip) (h:Q (.ref f,[.ref x]) s) :
  wpAny (model prog w) A (getMethod (.ref x) name pl) Q E s:=by
 obtain⟨od,J,hl⟩:=I.look;exact PySem.W.method_fn X J (Dp hg).1 (Dp hg).2 hf (beq_iff_eq.mp ht) (by show(DD name od).map (·.isSome)=Io Ir; rw[hl,hv]; rfl) h

def WJ{ns:List g8}{Q:Unit->d3->Prop}(X:K.In s.heap)(I:VE s.heap x dx C mA)
  (hs:AA K (.ref C) "__setattr__" = Io (Io (.builtin "object.__setattr__"))) (hp:FJ K C=Iq) (ht:EC K C name=Io Ip) (hh:DT K C=Iq)
  (hw:FG mA ns) (hsz:ns.length<=sizeLine)
  (h:∀ h',VE h' x dx C (λy=>if y=name then Io v else mA y)->A3 dx s.heap h'->Q () { s with heap:=h',toks:=s.toks+2 }) :
  wpAny (model prog w) A (setAttr (.ref x) name v) Q E s:=by
 obtain⟨od,J,hl⟩:=I.look;refine PySem.W.set_plain X J hs (PySem.W.osa_open (s:={ s with toks:=s.toks+1 }) (r:=Ip) X J hp ht λb=>?_);obtain⟨cd,hc,hd'⟩:=PySem.W.any_some hh;have hx:s.heap.get? x=Io ⟨.ref C,Io dx,.plain,#[]⟩:=I.obj;refine ac (d7 (ac (ac (wpAny_loadPart hx (ac (Ib (s:={ s with toks:=s.toks+1 }) (PySem.W.looks_clsIn X hc) ?_))))));rw[hd'];erw[d7 (a:=Io dx) (ac (d7 (ac ?_)))];refine wpAny_nsSet1 (s:={ s with toks:=s.toks+1 }) I.ns λh' hn2 hs2=>?_;obtain⟨oD,esD,epD,hoD,hdD,hcD⟩:=hn2.count (Ih name v hw);erw[ac (wpAny_lookBehind hoD (by rw[hdD]; rwa[pastItsLine_dict (j7 hcD (by rw[m9]; lia))]) ?_)];rwa[d7 (h _ ⟨(hs2.2 _ (AJ I.ne)).trans I.obj,hn2,I.ne⟩ hs2)]

def YA{R:Result->d3->Prop}{vs:List c7}{kw:List (g8×c7)}(X:K.In s.heap)(hm:Gz K C=Iq)
  (hi:AA K (.ref C) "__init__" = Io (Io (.ref f))) (hf:PySem.W.typeIn K (.ref f)=Io (.type "function"))
  (h:codeAny (model prog w) (A.under (.builtin "type.__call__" ⟨.ref C::vs,kw⟩)) (.call (.ref f) ⟨.ref (s.heap.objs.size+1)::vs,kw⟩) (PySem.W.InitBack (s.heap.objs.size+1) R)
   { s with heap:=(s.heap.push AN).push (Bo C s.heap.objs.size) }) :
  codeAny (model prog w) A (.call (.ref C) ⟨vs,kw⟩) R s:=by
 obtain⟨hh,g,d,t,os⟩:=s;rwa[PySem.W.make_core (PySem.W.makes_of X hm) (PySem.W.looks_findIn X hi) (λself=>PySem.W.bind_fn X self hf) (.inl rfl) h]
end

def pb(f:g8)(v:V):List (g8×V)->List (g8×V)
 | []=>[(f,v)]
 | (g,x)::r=>if g=f then(g,v)::r else(g,x)::pb f v r
def nI(f g:g8)(v:V):∀ fs:List (g8×V),(pb f v fs).lookup g=if g=f then Io v else fs.lookup g
 | []=>by
  show Ae g [(f,v)]=_;by_cases h:g=f
  ·have hb:(g == f)=true:=beq_iff_eq.mpr h;simp only[Ae,hb,y9 h]
  ·have hb:(g == f)=false:=x6.mpr h;simp only[Ae,hb,y7 h]
 | (k,x)::r=>by
  have ih:=nI f g v r;rw[show pb f v ((k,x)::r)=(if k=f then(k,v)::r else(k,x)::pb f v r) from rfl];by_cases hk:k=f
  ·rw[y9 hk];by_cases h:g=k
   ·have hb:(g == k)=true:=beq_iff_eq.mpr h;simp only[Ae,hb,y9 (h.trans hk)]
   ·have hb:(g == k)=false:=x6.mpr h;simp only[Ae,hb,y7 (λe:g=f=>h (e.trans hk.symm))]
  ·rw[y7 hk];by_cases h:g=k
   ·have hb:(g == k)=true:=beq_iff_eq.mpr h;simp only[Ae,hb,y7 (λe:g=f=>hk (h.symm.trans e))]
   ·have hb:(g == k)=false:=x6.mpr h;simp only[Ae,hb];rwa[ih]
def nF(f:g8)(v:V):∀ fs:List (g8×V),f∈(pb f v fs).map (·.1)/\∀ g,g∈fs.map (·.1)->g∈(pb f v fs).map (·.1)
 | []=>⟨by simp[pb],λg h=>by simp at h⟩
 | (k,x)::r=>by
  obtain⟨i1,i2⟩:=nF f v r;rw[show pb f v ((k,x)::r)=(if k=f then(k,v)::r else(k,x)::pb f v r) from rfl];by_cases hk:k=f
  ·rw[y9 hk];subst hk;exact⟨by simp,λg h=>by simpa using h⟩
  ·rw[y7 hk];erw[?_,λg h=>?_]
   ·rw[l9];rwa[Ad _ i1]
   ·rw[l9] at h ⊢;rcases i7.mp h with e | e
    ·rwa[i7.mpr (.inl e)]
    ·rwa[Ad _ (i2 g e)]
def nK(f:g8)(v:V):∀ fs:List (g8×V),(pb f v fs).length<=fs.length+1
 | []=>by simp[pb]
 | (k,x)::r=>by
  have ih:=nK f v r;rw[show pb f v ((k,x)::r)=(if k=f then(k,v)::r else(k,x)::pb f v r) from rfl];by_cases hk:k=f
  ·rw[y9 hk,m9,m9]; lia
  ·rw[y7 hk,m9,m9]; lia

def jz.some_of{v:V}{o:Option c7}(r:jz (Io v) o):∃ u,o=Io u/\xF v u:=by
 cases o with
 | none=>exact(show False from r).elim
 | some u=>rwa[u,U,r]
def jz.none_of{o:Option c7}(r:jz Ip o):o=none:=by
 cases o with
 | none=>rfl
 | some u=>exact(show False from r).elim
def af{v:V}{u:c7}(r:xF v u):F8 u=true:=by
 cases v with
 | non=>cases (show u=r9 from r); rfl
 | bl b=>cases (show u=El b from r); rfl
 | int i=>obtain⟨t,e⟩:=(show ∃ t,u=BF i t from r); cases e; rfl
 | str x=>obtain⟨t,e⟩:=(show ∃ t,u=AO x t from r); cases e; rfl
 | byt b=>obtain⟨t,e⟩:=(show ∃ t,u=Gs b t from r); cases e; rfl
 | flt b=>obtain⟨t,e⟩:=(show ∃ t,u=E3 b t from r); cases e; rfl
 | ref a=>cases (show u=i9 a from r); rfl
 | ty n=>cases (show u=GH n from r); rfl

section
variable{P:j9}{w:n9}{H H':Hp}{h h':o0}{a C dx:b9}{fs fs':List (g8×V)}
def lY(hok:HOk P w H h)(e:H a=Io (.ins C dx fs)):∃ mA,VE h a dx C mA/\(∀ f,jz (fs.lookup f) (mA f))/\FG mA (fs.map (·.1))/\fs.length<=1000/\H dx=Io (.own a):=by
 obtain⟨d,z,ne,ob,mA,n,r,q⟩:=(show xI P w H h a (.ins C dx fs) from hok a _ e);rwa[mA,⟨ob,n,ne⟩,r,q,z,d]
end

structure Cls(K:b7)(C:b9):Prop where
 pg:C0 K C HI=Iq
 hd:DT K C=Iq
 po:FJ K C=Iq
 sa:AA K (.ref C) "__setattr__" = Io (Io (.builtin "object.__setattr__"))
def Cls.get{K:b7}{C:b9}(c:Cls K C)(f:g8):C0 K C f=true:=c.pg
def xf(K:b7)(C:b9)(f:g8):Prop:=AA K (.ref C) f=Io Ip
def xf.taker{K:b7}{C:b9}{f:g8}(n:xf K C f):EC K C f=Io none:=by
 unfold EC;rw[show AA K (.ref C) f=Io Ip from n];rfl
structure Con(K:b7)(C:b9)(f:g8)(v:V)(u:c7):Prop where
 at_:AA K (.ref C) f=Io (Io u)
 rel:xF v u
 get:DU K u "__get__" = Io Ip
 cp:PySem.W.copiedNames.contains f=Ir
structure jF(K:b7)(C:b9)(m:g8)(f:b9):Prop where
 at_:AA K (.ref C) m=Io (Io (.ref f))
 fn:FI K (.ref f)=Iq
 kp:Au K (.ref f)=Iq

section
variable{X:Cx}{Is:List (b9×AM)}{σ:St}{H:Hp}{s:d3}{a C dx:b9}{fs:List (g8×V)}{f:g8}{v:V}{A:Ac}{E:c7->d3->Prop}

def cF{b:Bool}{Q:c7->d3->Prop}(I:Inv X Is σ H s)(e:H a=Io (.ins C dx fs))(c:Cls X.K C)(n:xf X.K C f)(l:fs.lookup f=Io v)
  (h:∀ u s',Inv X Is σ H s'->xF v u->Q u s'):wpAny (model X.prog X.w) A (getAttr (.ref a) f b) Q E s:=by
 obtain⟨mA,O,r,_,_,_⟩:=lY I.hok e;obtain⟨u,hu,ru⟩:=jz.some_of (v:=v) (o:=mA f) (by rw[<- l]; rwa[r f]);rwa[WI I.kIn O (c.get f) c.hd n hu (af ru) (h u _ (I.tok _) ru)]

def xk{m:g8}{g:b9}{pl:GW Bool}{Q:c7×List c7->d3->Prop}(I:Inv X Is σ H s)(e:H a=Io (.ins C dx fs))(c:Cls X.K C)(k:jF X.K C m g)(l:fs.lookup m=Ip)
  (h:Q (.ref g,[.ref a]) s):wpAny (model X.prog X.w) A (getMethod (.ref a) m pl) Q E s:=by
 obtain⟨mA,O,r,_,_,_⟩:=lY I.hok e;have hn:mA m=none:=jz.none_of (by rw[<- l]; rwa[r m]);rwa[Xv I.kIn O (c.get m) k.at_ k.fn hn h]

def cL{y:V}{u:c7}{Q:Unit->d3->Prop}(I:Inv X Is σ H s)(e:H a=Io (.ins C dx fs))(c:Cls X.K C)(n:xf X.K C f)(hl:fs.length<1000)(ry:xF y u)
  (h:∀ s',Inv X Is σ (upd H a (.ins C dx (pb f y fs))) s'->Q () s'):wpAny (model X.prog X.w) A (setAttr (.ref a) f u) Q E s:=by
 obtain⟨mA,O,r,wi,_,ho⟩:=lY I.hok e;have hz:(fs.map (·.1)).length<=sizeLine:=by rw[a7,sizeLine_eq]; lia
 erw[WJ I.kIn O c.sa c.po n.taker c.hd wi hz λh' O' sb=>h _ ?_];have hd:∃ o,h'.get? dx=Io o:=let ⟨o,_,_,e',_⟩:=O'.ns;⟨o,e'⟩;erw[I.write (x:=a) (e:=dx) (by rw[e]; rwa[t5]) (.inr ho) (λb q hb z=>(sb.2 b hb).trans z) hd ?_];erw[by rw[zH O.ne]; exact ho,?_,O.ne,O'.obj,_,O'.ns,λg=>?_,λg hg=>?_]
 ·have:=nK f y fs; lia
 ·show jz ((pb f y fs).lookup g) (if g=f then Io u else mA g);rw[nI];by_cases q:g=f
  ·rw[y9 q,y9 q]; rwa[ry]
  ·rw[y7 q,y7 q]; rwa[r g]
 ·by_cases q:g=f
  ·rw[q]; exact(nF f y fs).1
  ·refine(nF f y fs).2 g (wi g λz=>hg ?_);show(if g=f then Io u else mA g)=Ip;rw[y7 q]; rwa[z]

def Inv.made(I:Inv X Is σ H s):Inv X Is σ (upd (upd H s.heap.objs.size (.own (s.heap.objs.size+1))) (s.heap.objs.size+1) (.ins C s.heap.objs.size []))
  { s with heap:=(s.heap.push AN).push (Bo C s.heap.objs.size) }:=by
 have e1:(s.heap.push AN).get? s.heap.objs.size=Io AN:=d9 s.heap rfl;have e2:((s.heap.push AN).push (Bo C s.heap.objs.size)).get? (s.heap.objs.size+1)=Io (Bo C s.heap.objs.size):=by
  have:=d9 (s.heap.push AN) (o:=Bo C s.heap.objs.size) rfl;(rw[Bh] at this;assumption)
 have e3:(s.heap.push AN).Ns s.heap.objs.size (λ_=>Ip):=⟨AN,#[],_,e1,rfl,(λe he=>x5 he (by simp)),λ_=>rfl⟩;have I1:=I.laid (a:=s.heap.objs.size) (o:=.own (s.heap.objs.size+1)) (h':=s.heap.push AN) (t':=s.toks) (λb u q=>c9 _ q) (d6 _) ⟨_,e1⟩;erw[I1.laid (a:=s.heap.objs.size+1) (o:=.ins C s.heap.objs.size []) (t':=s.toks) (λb u q=>c9 _ q) (En (Bh _ _)) ?_];have ne:s.heap.objs.size≠s.heap.objs.size+1:=l6 (Ea _);erw[by rw[zH ne,zA],t7 _,ne,e2,λ_=>Ip,(Heap.Ns1.of_empty e3).at λo q=>c9 _ q,λ_=>t5,λy hy=>x5 rfl hy]

def Vt{prog:j9}{w:n9}{env:Do}{e:w4}{f:g8}{pos:Co}{s:d3}{Q:c7->d3->Prop}(hb:attributeBase e f env (eval e env)=eval e env)
  (h:wpAny (model prog w) A (eval e env) (λo s₁=>wpAny (model prog w) A (getAttr o f Iq) Q E s₁) E s):wpAny (model prog w) A (eval (.Attribute e f pos) env) Q E s :=
 Attribute_any_ h (by rw[arm_eval_Attribute,hb])
end


section
variable{X:Cx}{Is:List (b9×AM)}{σ:St}{H:Hp}{s:d3}{A:Ac}{E:c7->d3->Prop}{Q:c7->d3->Prop}{c:c7}{b:Bool}
inductive TyOf(K:b7)(H:Hp):V->c7->Prop where
 | non:TyOf K H .non (.type "NoneType")
 | bl (x:Bool):TyOf K H (.bl x) (.type "bool")
 | int (i:Int):TyOf K H (.int i) (.type "int")
 | str (x:g8):TyOf K H (.str x) (.type "str")
 | flt (x:UInt64):TyOf K H (.flt x) (.type "float")
 | lst {a:b9} {xs:List V} (e:H a=Io (.lst xs)):TyOf K H (.ref a) (.type "list")
 | frz {a:b9} {o:AM} {xs:List V} (e:H a=Io (.frz o (.lst xs))):TyOf K H (.ref a) (.type "list")
 | tup {a:b9} {xs:List V} (e:H a=Io (.tup xs)):TyOf K H (.ref a) (.type "tuple")
 | dK {a:b9} {kvs:List (Key×V)} (e:H a=Io (.dK kvs)):TyOf K H (.ref a) (.type "dict")
 | dT {a:b9} {kvs:List (List Key×V)} (e:H a=Io (.dT kvs)):TyOf K H (.ref a) (.type "dict")
 | ins {a C dx:b9} {fs:List (g8×V)} (e:H a=Io (.ins C dx fs)) (cl:Cls K C) (ha:AA K (.ref C) "__class__" = Io (Io (.builtin "object.__class__")))
   (hn:DU K (.builtin "object.__class__") "__get__" = Io (Io (.builtin "getset_descriptor.__get__"))) (htk:GA K (.builtin "object.__class__")=Io Iq)
   (hm:Hu K C (.type "object")=Io Iq):TyOf K H (.ref a) (.ref C)
def jk{x:V}{u t:c7}(I:Inv X Is σ H s)(rx:xF x u)(ty:TyOf X.K H x t)(e:AS X.K t c=Io b)(h:∀ tk,Q (.bool b) { s with toks:=tk }) :
  wpAny (model X.prog X.w) A (call (.builtin "isinstance") [u,c]) Q E s:=by
 cases ty with
 | non=>cases (show u=r9 from rx); exact AB PySem.W.kitx_none I.kIn t5 e (λz=>nomatch z) h
 | bl y=>cases (show u=El y from rx); exact AB PySem.W.kitx_bool I.kIn t5 e (λz=>nomatch z) h
 | int i=>obtain⟨t,q⟩:=(show ∃ t,u=BF i t from rx); cases q; exact AB PySem.W.kitx_int I.kIn t5 e (λz=>nomatch z) h
 | str y=>obtain⟨t,q⟩:=(show ∃ t,u=AO y t from rx); cases q; exact AB PySem.W.kitx_str I.kIn t5 e (λz=>nomatch z) h
 | flt y=>obtain⟨t,q⟩:=(show ∃ t,u=E3 y t from rx); cases q; exact AB PySem.W.kitx_float I.kIn t5 e (λz=>nomatch z) h
 | @lst a xs ea =>
  cases (show u=i9 a from rx);obtain⟨_,_,n,_,h1⟩:=(show xI X.prog X.w H s.heap a (.lst xs) from I.hok a _ ea);exact AB FK I.kIn ⟨_,h1,rfl⟩ e (λz=>nomatch z) h
 | @frz a ob xs ea =>
  cases (show u=i9 a from rx);obtain⟨_,_,_,n,_,h1⟩:=(show xI X.prog X.w H s.heap a (.frz ob (.lst xs)) from I.hok a _ ea);exact AB FK I.kIn ⟨_,h1,rfl⟩ e (λz=>nomatch z) h
 | @tup a xs ea =>
  cases (show u=i9 a from rx);obtain⟨_,_,_,p⟩:=(show xI X.prog X.w H s.heap a (.tup xs) from I.hok a _ ea);obtain⟨o,h1,h2,_⟩:=p;exact AB PySem.W.kitx_tuple I.kIn ⟨o,h1,h2⟩ e (λz=>nomatch z) h
 | @dK a kvs ea =>
  cases (show u=i9 a from rx);obtain⟨_,_,vs,_,p⟩:=(show xI X.prog X.w H s.heap a (.dK kvs) from I.hok a _ ea);obtain⟨o,es,ep,h1,h2,_⟩:=p;exact AB FL I.kIn ⟨o,h1,h2.1⟩ e (λz=>nomatch z) h
 | @dT a kvs ea =>
  cases (show u=i9 a from rx);obtain⟨_,_,xs,_,o,es,ep,h1,h2,_⟩:=(show xI X.prog X.w H s.heap a (.dT kvs) from I.hok a _ ea);exact AB FL I.kIn ⟨o,h1,h2.1⟩ e (λz=>nomatch z) h
 | @ins a C dx fs ea cl ha hn htk hm =>
  cases (show u=i9 a from rx);obtain⟨mA,O,_⟩:=lY I.hok ea;obtain⟨od,J,_⟩:=O.look;exact AB (PySem.W.kitx_own (cl.get _) cl.hd ha hn htk hm) I.kIn J e (λz=>nomatch z) h
end
end L2

namespace L2

structure qH(k:Nat)(A:Ac):Prop where
 hd:A.handled=Ip
 dp:A.depth+3*k+5<recursionLimit
 un:A.units+16*k+200<cLine
 gd:A.guards=Io []
def qH.mono{j k:Nat}{A:Ac}(r:qH k A)(h:j<=k):qH j A:=⟨r.hd,by have:=r.dp; lia,by have:=r.un; lia,r.gd⟩
def qH.deeper{k:Nat}{A:Ac}(r:qH (k+1) A)(env:Do):qH k (A.deeper env) :=
 ⟨r.hd,by have:=r.dp; show A.depth+1+3*k+5<_; lia,by have:=r.un; show A.units+3+16*k+200<_; lia,r.gd⟩
def cY{A:Ac}{C:b9}{us:List c7}{kw:List (g8×c7)} : (A.under (.builtin "type.__call__" ⟨.ref C::us,kw⟩)).depth=A.depth+1:=by
 first | rfl | simp[Eo,Code.weight,Code.isCreation,HP,Code.isCaller,HX,FM,guardIds]
def cV{A:Ac}{C:b9}{us:List c7}{kw:List (g8×c7)} : (A.under (.builtin "type.__call__" ⟨.ref C::us,kw⟩)).units=A.units+1:=by
 first | rfl | simp[Eo,Code.cUnits,HX,FM]
def qH.make{k:Nat}{A:Ac}(r:qH (k+1) A)(C:b9)(us:List c7)(kw:List (g8×c7)):qH k (A.under (.builtin "type.__call__" ⟨.ref C::us,kw⟩)) :=
 ⟨r.hd,by have:=r.dp; rw[cY]; lia,by have:=r.un; rw[cV]; lia,by first | exact r.gd | (rw[Eo]; simpa [pushGuards,Code.guards,HP,guardIds] using r.gd)⟩
def qH.depth{k:Nat}{A:Ac}(r:qH k A):A.depth<recursionLimit:=by have:=r.dp; lia
def qH.units{k:Nat}{A:Ac}(r:qH k A):A.units+64<cLine:=by have:=r.un; lia
def qH.units0{k:Nat}{A:Ac}(r:qH k A):A.units<cLine:=by have:=r.un; lia

def YR:TA:=λ_ H Q=>Q [] H
def ip(ta:TE)(tr:TA):TA:=λσ H Q=>ta σ H λx H1=>tr σ H1 λxs H2=>Q (x::xs) H2
section
variable{X:Cx}{e:w4}{es:List w4}{te:TE}{t:TA}{pos:Co}
def zI:PA X [] YR:=λ_ _ _ _ H Q I h=>FN ⟨[],H,I,.nil,h⟩
def zB(ha:PE X e te)(hr:PA X es t)(hs:starEach (e::es) X.env=(Ir,eval e X.env)::starEach es X.env:=by rfl):PA X (e::es) (ip te t):=by
 intro pos Is s σ H Q I h;rw[hs];show wpAny _ _ (spliced ((Ir,eval e X.env)::backTo pos (starEach es X.env))) _ _ s;erw[Fv (thn (ha Is s σ H _ I h) λu s1 ⟨x,H1,I1,r1,q1⟩=>?_)];rwa[thn (hr pos Is s1 σ H1 _ I1 q1) λus s2 ⟨xs,H2,I2,r2,q2⟩=>⟨x::xs,H2,I2,.cons r1 r2,q2⟩]

def tTup(t:TA):TE:=λσ H Q=>t σ H λxs H1=>xs.length<=sizeLine/\∀ p,H1 p=Ip->Q (.ref p) (upd H1 p (.tup xs))
def TC(t:TA):TE:=λσ H Q=>t σ H λxs H1=>xs.length<=sizeLine/\∀ p,H1 p=Ip->Q (.ref p) (upd H1 p (.lst xs))
def yV{x1}(h:PA X es t):PE X (.Tuple es x1 pos) (tTup t):=by
 intro Is s σ H Q I hq;erw[wpAny_Tuple_spliced (thn (h pos Is s σ H _ I hq) λus s1 ⟨xs,H1,I1,r,z,q⟩=>⟨by rw[<- r.length]; exact z,?_⟩)];have hf:H1 s1.heap.objs.size=none:=I1.hok.fresh (d6 _);erw[.ref s1.heap.objs.size,upd H1 s1.heap.objs.size (.tup xs),I1.laid (t':=s1.toks) (λb u e=>c9 _ e) (d6 _) ?_,U,q _ hf];rwa[z,us,r,⟨_,d9 _ rfl,U,_,U⟩]
def vB(h:PA X es t):PE X (.List es pos) (TC t):=by
 intro Is s σ H Q I hq;erw[wpAny_List_spliced (thn (h pos Is s σ H _ I hq) λus s1 ⟨xs,H1,I1,r,z,q⟩=>⟨by rw[<- r.length]; exact z,?_⟩)];have hf:H1 s1.heap.objs.size=none:=I1.hok.fresh (d6 _);erw[.ref s1.heap.objs.size,upd H1 s1.heap.objs.size (.lst xs),I1.laid (t':=s1.toks) (λb u e=>c9 _ e) (d6 _) ?_,U,q _ hf];rwa[z,us,0,r,d9 _ rfl]
end

abbrev Sp:=List V->Hp->VK->XK->Prop
abbrev CXT:=List Do->Hp->d3->XK->c7->d3->Prop

structure Yh(P:j9)(w:n9)(K:b7)(mg:g8->Option c7)(base:o0)(A:Ac)(outer:List Do)(s:d3)(H:Hp):Prop where
 frames:A.frames=Io outer
 mod:Mod K mg base
 bs:∀ b o,base.get? b=Io o->s.heap.get? b=Io o/\H b=Ip
 bsz:base.objs.size<=s.heap.objs.size
 funs:s.heap.FunFrames base outer
 frf:∀ b∈frs outer,H b=Ip
 hok:HOk P w H s.heap
 bare:Du s.gens
def CE(outer:List Do)(P:j9)(w:n9)(H:Hp)(s:d3)(Q:VK)(u:c7)(s':d3):Prop :=
 ∃ v H',s'.os=s.os/\Du s'.gens/\Un (frs outer) [] H H' s.heap s'.heap/\HOk P w H' s'.heap/\xF v u/\Q v H'
def CR(CX:CXT)(outer:List Do)(P:j9)(w:n9)(H:Hp)(s:d3)(Q:VK)(E:XK)(r:Result)(s':d3):Prop :=
 match r with
 | .ok (.ret u)=>CE outer P w H s Q u s'
 | .ok _=>False
 | .error e=>CX outer H s E e s'
structure yX(P:j9)(w:n9)(K:b7)(mg:g8->Option c7)(base:o0)(CX:CXT)(k:Nat)(f:b9)(fd:Aq)(ps:List g8)(sp:Sp):Prop where
 len:∀ vs H Q E,sp vs H Q E->vs.length=ps.length
 run:∀(A:Ac)(outer:List Do)(s:d3)(H:Hp)(args:Args)(us:List c7)(vs:List V)(Q:VK)(E:XK),qH k A->Yh P w K mg base A outer s H->Ep s fd args (ps.zip us)->yO vs us->sp vs H Q E ->
  codeAny (model P w) A (.call (.ref f) args) (CR CX outer P w H s Q E) s
def Yh.make{P:j9}{w:n9}{K:b7}{mg:g8->Option c7}{base:o0}{A:Ac}{outer:List Do}{s:d3}{H:Hp}(e:Yh P w K mg base A outer s H)(C:b9)(us:List c7)(kw:List (g8×c7)) :
  Yh P w K mg base (A.under (.builtin "type.__call__" ⟨.ref C::us,kw⟩)) outer s H:=⟨by first | exact e.frames | (simpa [Eo,Code.envs,FM,pushEnvs] using e.frames),e.mod,e.bs,e.bsz,e.funs,e.frf,e.hok,e.bare⟩
section
variable{X:Cx}{Is:List (b9×AM)}{σ:St}{H:Hp}{s s':d3}
def Inv.env0(I:Inv X Is σ H s):Yh X.prog X.w X.K X.mg X.base X.A X.stack s H :=
 ⟨I.ok.frames,I.ok.mod,I.bs,j7 I.ok.bsz I.sz,I.stack,I.stkFree,I.hok,I.bare⟩
def Inv.after{Q:VK}{u:c7}(I:Inv X Is σ H s)(h:CE X.stack X.prog X.w H s Q u s'):EP X Is σ Q u s':=by
 obtain⟨v,H',os,bare,un,hok,r,q⟩:=h;obtain⟨hh,g,d,t,os'⟩:=s';obtain rfl:os'=s.os:=os;rwa[v,H',I.call (h':=hh) (g':=g) (d':=d) (t':=t) (ch:=[]) un hok bare (λb z=>x5 z (by simp)),r,q]
end

def cg(sp:Sp)(dvs:List V)(E:XK)(t:TA):TE:=λσ H Q=>t σ H λvs H1=>sp (vs++dvs) H1 Q E
def uw(K:b7)(fd:Aq)(ps:List g8)(ds:List c7):Prop :=
 ∀(s:d3)(us:List c7),K.In s.heap->(us++ds).length=ps.length->Ep s fd ⟨us,[]⟩ (ps.zip (us++ds))
def uw.all{K:b7}{fd:Aq}{ps:List g8}(h:∀ us:List c7,us.length=ps.length->bindArgs fd ⟨us,[]⟩=pure (ps.zip us)):uw K fd ps []:=λs us _ hl=>by
 rw[Bq] at hl ⊢;rwa[.of_eq (h us hl)]

def gb(CX:CXT)(X:Cx)(E:XK):Prop:=∀(Is:List (b9×AM))(σ:St)(H:Hp)(s:d3)(e:c7)(s':d3),Inv X Is σ H s->CX X.stack H s E e s'->X.xe e s'

section
variable{X:Cx}{CX:CXT}{k:Nat}{f C:b9}{fd:Aq}{ps:List g8}{sp:Sp}{dvs:List V}{ds:List c7}{E:XK}{x m:g8}{p pos apos:Co}{e o:w4}{es:List w4}{ta:TE}{t:TA}

def eU{Is:List (b9×AM)}{σ:St}{H:Hp}{s:d3}{Q:VK}{us:List c7}{vs:List V}(F:yX X.prog X.w X.K X.mg X.base CX k f fd ps sp)(hr:qH k X.A)(hb:uw X.K fd ps ds)(hd:yO dvs ds)(hx:gb CX X E)
  (I:Inv X Is σ H s) (r:yO vs us) (h:sp (vs++dvs) H Q E):wpAny (model X.prog X.w) X.A (call (.ref f) us) (EP X Is σ Q) X.xe s:=by
 have r2:yO (vs++dvs) (us++ds):=r.append hd;have hl:(us++ds).length=ps.length:=by rw[<- r2.length]; rwa[F.len _ _ _ _ h]
 erw[DE (codeAny_mono (F.run X.A X.stack s H ⟨us,[]⟩ (us++ds) (vs++dvs) Q E hr I.env0 (hb s us I.kIn hl) r2 h) λr s' hq=>?_)];cases r with
 | error e=>rwa[hx Is σ H s e s' I hq]
 | ok fl =>
  cases fl with
  | ret u=>rwa[I.after hq]
  | next=>rwa[x9 hq]
  | brk=>rwa[x9 hq]
  | cont=>rwa[x9 hq]

def WE(F:yX X.prog X.w X.K X.mg X.base CX k f fd ps sp)(hr:qH k X.A)(hg:Gl X x)(hm:X.mg x=Io (.ref f))(hk:Au X.K (.ref f)=Iq)(hb:uw X.K fd ps ds)(hd:yO dvs ds)(hx:gb CX X E)
  (ha:PA X (e::es) t) (hdb:(x ==("__debug__" : g8))=false:=by decide) (he:starEach (e::es) X.env=(Ir,eval e X.env)::starEach es X.env:=by rfl) (hpl:(backTo pos (starEach es X.env)).any (·.1)=false:=by rfl) :
  PE X (.Call (.Name x p) (e::es) [] pos) (cg sp dvs E t):=by
 intro Is s σ H Q I h;erw[Bb (sR I hg hm ?_ hdb)];erw[Bx (h₀:=X.base) I.ok.mod.kin hk (thn (ha pos Is s σ H _ I h) λus s1 ⟨vs,H1,I1,r,q⟩=>⟨I1.kIn,?_⟩) he hpl];rwa[eU F hr hb hd hx I1 r q]
def Yo(F:yX X.prog X.w X.K X.mg X.base CX k f fd ps sp)(hr:qH k X.A)(hg:Gl X x)(hm:X.mg x=Io (.ref f))(hk:Au X.K (.ref f)=Iq)(hb:uw X.K fd ps ds)(hd:yO dvs ds)(hx:gb CX X E)
  (hdb:(x ==("__debug__" : g8))=false:=by decide):PE X (.Call (.Name x p) [] [] pos) (cg sp dvs E YR):=by
 intro Is s σ H Q I h;erw[Bb (sR I hg hm ?_ hdb)];rwa[Cv I.kIn hk (eU (us:=[]) F hr hb hd hx I .nil h)]

structure Mk(K:b7)(C f:b9):Prop where
 makes:Gz K C=Iq
 init:AA K (.ref C) "__init__" = Io (Io (.ref f))
 fn:FI K (.ref f)=Iq
 kp:Au K (.ref C)=Iq

def Yd{Is:List (b9×AM)}{σ:St}{H:Hp}{s:d3}{Q:VK}{us:List c7}{vs:List V}(M:Mk X.K C f)(F:yX X.prog X.w X.K X.mg X.base CX k f fd ps sp)(hr:qH (k+1) X.A)(hb:uw X.K fd ps ds)(hd:yO dvs ds)
  (hx:gb CX X E) (I:Inv X Is σ H s) (r:yO vs us)
  (h:∀ x dx,H x=Ip->H dx=Ip->dx≠x->sp (.ref x::(vs++dvs)) (upd (upd H dx (.own x)) x (.ins C dx [])) (λv H2=>v=.non/\Q (.ref x) H2) E) :
  wpAny (model X.prog X.w) X.A (call (.ref C) us) (EP X Is σ Q) X.xe s:=by
 have hq:=h (s.heap.objs.size+1) s.heap.objs.size (I.hok.fresh (BM _)) (I.hok.fresh (d6 _)) (l6 (Ea _));have I2:=Inv.made (C:=C) I;have r2:yO (V.ref (s.heap.objs.size+1)::(vs++dvs)) (i9 (s.heap.objs.size+1)::(us++ds)):=.cons rfl (r.append hd);have hl:(i9 (s.heap.objs.size+1)::us++ds).length=ps.length:=by
  have e:=r2.length;rw[F.len _ _ _ _ hq] at e;rwa[e.symm]
 refine DE (YA (f:=f) I.kIn M.makes M.init (beq_iff_eq.mp M.fn) (codeAny_mono (F.run _ X.stack _ _ ⟨i9 (s.heap.objs.size+1)::us,[]⟩ (i9 (s.heap.objs.size+1)::(us++ds)) _ _ E (hr.make C us [])
  (I2.env0.make C us []) (hb _ (i9 (s.heap.objs.size+1)::us) I2.kIn hl) r2 hq) λr s' hq'=>?_))
 cases r with
 | error e=>rwa[hx Is σ _ _ e s' I2 hq']
 | ok fl =>
  cases fl with
  | ret u =>
   obtain⟨v,H',I3,rv,ev,q3⟩:=I2.after hq';subst ev;rwa[rv,⟨V.ref (s.heap.objs.size+1),H',I3,U,q3⟩]
  | next=>rwa[x9 hq']
  | brk=>rwa[x9 hq']
  | cont=>rwa[x9 hq']
end

section
variable{X:Cx}{CX:CXT}{k:Nat}{f C:b9}{fd:Aq}{ps ks:List g8}{sp:Sp}{E:XK}{x m:g8}{p pos apos kpos:Co}{e o:w4}{es:List w4}{kws:List DV}{te ta:TE}{t tk:TA}{nm:Option g8}
structure KBinds(K:b7)(fd:Aq)(ps ks:List g8)(g:List c7->List c7->List c7)(gV:List V->List V->List V):Prop where
 to:∀(s:d3)(us ws:List c7),K.In s.heap->(g us ws).length=ps.length->Ep s fd ⟨us,ks.zip ws⟩ (ps.zip (g us ws))
 rel:∀{vs:List V}{us:List c7}{zs:List V}{ws:List c7},yO vs us->yO zs ws->yO (gV vs zs) (g us ws)
variable{g:List c7->List c7->List c7}{gV:List V->List V->List V}
end

structure zP(N P:List g8)(sc:CL):Prop where
 kind:sc.kind=.function
 co:sc.isCoroutine=Ir
 gen:sc.isGenerator=Ir
 nd:N.Nodup
 pre:N.take P.length=P
 par:∀ x∈P,sc.names.lookup x=Io .local\/sc.names.lookup x=Io .cell
 nofree:∀ y∈sc.names,y.2≠.free

def ij{kindOf:g8->Option Ch}{x:g8} : ∀{binds:List (g8×c7)}{m:g8->Option c7},(∀ v,(x,v) ∉ binds)->bindL kindOf binds m x=m x
 | [],_,_=>rfl
 | (n,v)::r,m,h=>by
  unfold bindL;rw[ij λw hw=>h w (Ad _ hw)];split
  ·have:x≠n:=by rintro rfl; rwa[h v AK]
   simp[this]
  ·rfl
def iW{kindOf:g8->Option Ch}{x:g8} : ∀{binds:List (g8×c7)}{m:g8->Option c7},(∀ v,(x,v) ∉ binds)->bindC kindOf binds m x=m x
 | [],_,_=>rfl
 | (n,v)::r,m,h=>by
  unfold bindC;rw[iW λw hw=>h w (Ad _ hw)];split
  ·rfl
  ·have:x≠n:=by rintro rfl; rwa[h v AK]
   simp[this]
def iL{kindOf:g8->Option Ch}{x:g8}{v:c7} : ∀{P:List g8}{vs:List c7}{i:Nat}{m:g8->Option c7},P.Nodup->P[i]?=Io x->vs[i]?=Io v->kindOf x=Io .local ->
  bindL kindOf (P.zip vs) m x=Io v
 | [],_,_,_,_,h,_,_=>by simp at h
 | _::_,[],_,_,_,_,h,_=>by simp at h
 | p::P,w::vs,0,m,nd,h1,h2,hk=>by
  simp at h1 h2; subst h1; subst h2;show bindL kindOf ((p,w)::P.zip vs) m p=_;unfold bindL;rw[ij λv hv=>(B5.mp nd).1 (De hv).1,y9 hk];simp
 | p::P,w::vs,i+1,m,nd,h1,h2,hk=>by
  show bindL kindOf ((p,w)::P.zip vs) m x=_;unfold bindL;exact iL (i:=i) (B5.mp nd).2 (by simpa using h1) (by simpa using h2) hk
def gc{kindOf:g8->Option Ch}{x:g8}{v:c7} : ∀{P:List g8}{vs:List c7}{i:Nat}{m:g8->Option c7},P.Nodup->P[i]?=Io x->vs[i]?=Io v->kindOf x≠Io .local ->
  bindC kindOf (P.zip vs) m x=Io v
 | [],_,_,_,_,h,_,_=>by simp at h
 | _::_,[],_,_,_,_,h,_=>by simp at h
 | p::P,w::vs,0,m,nd,h1,h2,hk=>by
  simp at h1 h2; subst h1; subst h2;show bindC kindOf ((p,w)::P.zip vs) m p=_;unfold bindC;rw[iW λv hv=>(B5.mp nd).1 (De hv).1,y7 hk];simp
 | p::P,w::vs,i+1,m,nd,h1,h2,hk=>by
  show bindC kindOf ((p,w)::P.zip vs) m x=_;unfold bindC;exact gc (i:=i) (B5.mp nd).2 (by simpa using h1) (by simpa using h2) hk

def start(N:List g8)(vs:List V):St:=vs.map Io++t9 (N.length-vs.length) Ip

def cxOf(CX:CXT)(P:j9)(w:n9)(K:b7)(mg:g8->Option c7)(base:o0)(N:List g8)(qual:g8)(scope:CL)(f:b9)(cd:c7)(A:Ac)(outer:List Do)(s:d3)(H:Hp)(E:XK):Cx where
 prog:=P
 w:=w
 K:=K
 mg:=mg
 base:=base
 A:=A.deeper (envOfC qual scope s.heap.objs.size f cd)
 N:=N
 s₀:=s
 H₀:=H
 env:=envOfC qual scope s.heap.objs.size f cd
 outer:=outer
 stack:=envOfC qual scope s.heap.objs.size f cd::outer
 ex:=[]
 calm:=Iq
 fn:=λ_=>Iq
 pn:=[]
 xe:=λe s'=>wpAny (model P w) (A.deeper (envOfC qual scope s.heap.objs.size f cd)) (leaving (envOfC qual scope s.heap.objs.size f cd) e) (λ_ s''=>CX outer H s E e s'') (λe' s''=>CX outer H s E e' s'') s'

def dA{sc:CL}{n:Nat}{x:g8}(h:sc.names.lookup x=Io .cell):∃ c,(cellsFrom n sc.names []).lookup x=Io c:=by
 have q:=CQ sc.names n [] (.inl h);rwa[k9.mp q]

def jO{CX:CXT}{P:j9}{w:n9}{K:b7}{mg:g8->Option c7}{base:o0}{N ps:List g8}{qual:g8}{scope:CL}{f:b9}{cd:c7}{A:Ac}{outer:List Do}{s s1:d3}{H:Hp}{E:XK}{us:List c7}{vs:List V}
  (S:zP N ps scope) (hd:A.handled=Ip) (e0:Yh P w K mg base A outer s H) (hl:vs.length=ps.length) (r:yO vs us)
  (x:InCallC s s.heap.objs.size (bindL (envOfC qual scope s.heap.objs.size f cd).kindOf (ps.zip us) λ_=>Ip) (cellsFrom (s.heap.objs.size+1) scope.names []) (bindC (envOfC qual scope s.heap.objs.size f cd).kindOf (ps.zip us) λ_=>Ip) s1) :
  Inv (cxOf CX P w K mg base N qual scope f cd A outer s H E) [] (start N vs) H s1:=by
 have hpl:ps.length<=N.length:=by have:=congrArg Bv S.pre; rw[j8] at this; lia
 obtain⟨h1,tk,rfl,hk⟩:=x.done;have noA:∀ b:b9,b ∉ (cxOf CX P w K mg base N qual scope f cd A outer s H E).ex:=λb z=>x5 (show b∈([]:List b9) from z) (by simp);refine⟨⟨e0.mod,S.kind,U,U,d6 _,λy z c h1 h2=>?_,λy hy=>?_,λy c _ h=>?_,λ_=>hd,Around.frames_deeper e0.frames,.inr ⟨U,U⟩,λb z=>x5 z (noA b),e0.bs,e0.bsz,λb _ _=>noA b,λb z=>x5 z (noA b),e0.funs,e0.frf⟩,
  rfl,e0.bare,Un.kept hk,⟨_,x.toInCall.ns,λi y v h1 h2 h3=>?_⟩,λy c h=>⟨_,x.cell y c h⟩,e0.hok.fresh (d6 _),λy c h=>?_,λp hp=>x5 (show p∈([]:List (b9×AM)) from hp) (by simp),e0.hok.kept hk,?_⟩
 ·rwa[name_of_addr x.apart (Bt h1) (Bt h2)]
 ·have hy:scope.names.lookup y=Io .cell\/scope.names.lookup y=Io .free:=hy;rcases hy with hy | hy
  ·rwa[dA hy]
  ·rwa[x5 rfl (S.nofree _ (Bt hy))]
 ·rwa[BI (x.above y c (Bt h))]
 ·have hi:i<vs.length:=by
   unfold start at h2;by_cases hi:i<vs.length
   ·rwa[hi]
   ·rw[Ay (by simpa using hi)] at h2;rw[CM] at h2;split at h2 <;> cases h2
  have ha:vs[i]?=Io v:=by
   unfold start at h2;rw[A7 (by simpa using hi),e7] at h2;cases e:vs[i]? with
   | none=>rw[e] at h2; cases h2
   | some a=>rw[e] at h2; cases h2; rfl
  obtain⟨u,hu,rv⟩:=r.get ha;have hp:ps[i]?=Io y:=by
   rw[<- S.pre,List.getElem?_take_of_lt (by lia)]; rwa[h1]
  have ndP:ps.Nodup:=by rw[<- S.pre]; rwa[S.nd.sublist (List.take_sublist _ _)]
  exists u,rv;rcases S.par y (j5 hp) with k | k
  ·rwa[.inl ⟨k,iL ndP hp hu k⟩]
  ·obtain⟨c,e⟩:=dA (n:=s.heap.objs.size+1) k;erw[.inr ⟨.inl k,c,e,?_⟩];have q:=x.cell y c e;rw[gc ndP hp hu (by show scope.names.lookup y≠_; rw[k]; decide)] at q;rwa[q]
 ·rwa[e0.hok.fresh (BI (x.above y c (Bt h)))]
 ·unfold start;show _=N.length;rw[f8,a7,AQ];lia

def Th{CX:CXT}{P:j9}{w:n9}{K:b7}{mg:g8->Option c7}{base:o0}{k:Nat}{f:b9}{name qual:g8}{params:Arguments}{body:List Ag}{scope:CL}{dV kV doc pm cdv ct oc:c7}{an od:Option b9}
  {osl:Array (Option c7)} {N ps:List g8} {sp:Sp} (lk:K.lookup f=Io ⟨oc,od,.func (An name qual params body scope dV kV doc pm an cdv ct),osl⟩) (hcd:Ci K cdv qual=Iq) (S:zP N ps scope)
  (len:∀ vs H Q E,sp vs H Q E->vs.length=ps.length)
  (hbody:∀(A:Ac)(outer:List Do)(s:d3)(H:Hp)(vs:List V)(Q:VK)(E:XK),qH k (A.deeper (envOfC qual scope s.heap.objs.size f cdv))->sp vs H Q E ->
   ∃ t,PSs (cxOf CX P w K mg base N qual scope f cdv A outer s H E) body t/\t { nx:=λ_ H'=>Q .non H',rt:=Q } (start N vs) H) :
  yX P w K mg base CX (k+1) f (An name qual params body scope dV kV doc pm an cdv ct) ps sp:=by
 refine⟨len,λA outer s H args us vs Q E hr e0 hb r hsp=>?_⟩;have hl:=len _ _ _ _ hsp;have KX:K.In s.heap:=e0.mod.kin.keeps λb o e=>(e0.bs b o e).1;have lim:s.heap.NoLimit:=e0.mod.nolimit.keeps λb o e=>(e0.bs b o e).1;have hkind:∀ y∈ps.zip us,scope.names.lookup y.1=Io .local\/(scope.names.lookup y.1=Io .cell/\((cellsFrom (s.heap.objs.size+1) scope.names []).lookup y.1).isSome=Iq):=λ⟨n,v⟩ hy=>by
  rcases S.par n (De hy).1 with q | q
  ·rwa[.inl q]
  ·rwa[.inr ⟨q,CQ _ _ _ (.inl q)⟩]
 refine codeAny_call_function hr.depth (KX _ _ lk) rfl S.co S.gen rfl (Fw KX hcd) (hb _ _ _ _ ?_);refine DF S.kind hkind λenv he s1 x=>?_;subst he;refine⟨lim.keeps x.toInCall.keep,codeAny_func ?_⟩;obtain⟨t,ht,hq⟩:=hbody A outer s H vs Q E (hr.deeper _) hsp;have I:Inv (cxOf CX P w K mg base N qual scope f cdv A outer s H E) [] (start N vs) H s1:=jO S hr.hd e0 hl r x;refine Ba (ht [] s1 (start N vs) H _ I hq) (λfl s' hs=>?_) λe s' hs=>hs;have fin:∀{σ':St}{H':Hp}{v:V}{u:c7},Inv (cxOf CX P w K mg base N qual scope f cdv A outer s H E) [] σ' H' s'->xF v u->Q v H'->CE outer P w H s Q u s' :=
  λ{σ' H' v u} J rv q=>⟨v,H',J.os,J.bare,J.base,J.hok,rv,q⟩
 cases fl with
 | ret u =>
  obtain⟨v,σ',H',J,rv,q⟩:=hs;rwa[fin J rv q]
 | next =>
  obtain⟨σ',H',J,q⟩:=hs;rwa[fin (v:=V.non) (u:=r9) J rfl q]
 | brk =>
  obtain⟨_,_,_,q⟩:=hs;rwa[x9 q]
 | cont =>
  obtain⟨_,_,_,q⟩:=hs;rwa[x9 q]
end L2

namespace L2
section
variable{X:Cx}{x:g8}{p pos:Co}{e:w4}{es:List w4}{t:TA}{id T:String}{r:List V->Hp->VK->Prop}

def tCB(r:List V->Hp->VK->Prop)(t:TA):TE:=λσ H Q=>t σ H λvs H1=>r vs H1 Q
def zR(hc:uK X (.builtin id) r)(hg:Gl X x)(hm:X.mg x=Ip)(hv:bootBuiltins x=Io (.builtin id))(ha:PA X (e::es) t)(hn:x ≠ "__name__" := by decide)(hdb:(x ==("__debug__" : g8))=false:=by decide)
  (he:starEach (e::es) X.env=(Ir,eval e X.env)::starEach es X.env:=by rfl) (hpl:(backTo pos (starEach es X.env)).any (·.1)=false:=by rfl):PE X (.Call (.Name x p) (e::es) [] pos) (tCB r t):=by
 intro Is s σ H Q I h;erw[Bb (oE I hg hm hv ?_ hn hdb)];rwa[F9 (thn (ha pos Is s σ H _ I h) λus s1 ⟨vs,H1,I1,r1,q1⟩=>hc Is s1 σ H1 vs us Q I1 r1 q1) he hpl]
def xC(hc:uK X (.type T) r)(hg:Gl X x)(hm:X.mg x=Ip)(hv:bootBuiltins x=Io (.type T))(ha:PA X (e::es) t)(hn:x ≠ "__name__" := by decide)(hdb:(x ==("__debug__" : g8))=false:=by decide)
  (he:starEach (e::es) X.env=(Ir,eval e X.env)::starEach es X.env:=by rfl) (hpl:(backTo pos (starEach es X.env)).any (·.1)=false:=by rfl):PE X (.Call (.Name x p) (e::es) [] pos) (tCB r t):=by
 intro Is s σ H Q I h;erw[Bb (oE I hg hm hv ?_ hn hdb)];rwa[AZ (thn (ha pos Is s σ H _ I h) λus s1 ⟨vs,H1,I1,r1,q1⟩=>hc Is s1 σ H1 vs us Q I1 r1 q1) he hpl]
end
end L2

namespace HT
open PySem PyProof.Rows

def lexLt:List Int->List Int->Bool
 | [],[]=>Ir
 | [],_::_=>Iq
 | _::_,[]=>Ir
 | x::xs,y::ys=>if x=y then lexLt xs ys else decide (x<y)
section
open PySem.SeqAt
open PySem.AutoSeq1 (wpAny_loadPart')
open PySem.MeetsSeq PySem.MeetsSeq2 PySem.MeetsSeq3

end

section
variable{prog:j9}{w:n9}{A:Ac}{E:c7->d3->Prop}{s:d3}

def sIx(n d:Nat):Option Int->Nat
 | none=>d
 | some v=>if v<0 then(v+(n:Int)).toNat else min v.toNat n
def sIx_nat(n d k:Nat):sIx n d (Io (k:Int))=min k n:=by
 show(if (k:Int)<0 then((k:Int)+(n:Int)).toNat else min (k:Int).toNat n)=min k n;rw[y7 (by lia),AH]
def TR(n d:Nat)(hd:d<=n)(o:Option Int):sIx n d o<=n:=by
 cases o with
 | none=>rwa[hd]
 | some v =>
  show(if v<0 then(v+(n:Int)).toNat else min v.toNat n)<=n;by_cases hv:v<0
  ·rw[y9 hv]; lia
  ·rw[y7 hv]; rwa[Nat.min_le_right _ _]
def aL(v:Int)(n d:Nat):(if v<0 then max (v+(n:Int)) 0 else min v (n:Int))=((sIx n d (Io v):Nat):Int):=by
 show(if v<0 then max (v+(n:Int)) 0 else min v (n:Int))=(((if v<0 then(v+(n:Int)).toNat else min v.toNat n):Nat):Int);by_cases hv:v<0
 ·simp only[y9 hv]; lia
 ·simp only[y7 hv]; lia
def cw(lo hi:Option Int)(n:Nat):Cr lo hi 1 (n:Int)=(((sIx n 0 lo:Nat):Int),((sIx n n hi:Nat):Int)):=by
 have h1:¬ ((1:Int)<0):=by lia
 unfold Cr;simp only[h1,if_false];erw[FO ?_ ?_]
 ·cases lo with
  | none=>rfl
  | some v=>rwa[aL v n 0]
 ·cases hi with
  | none=>rfl
  | some v=>rwa[aL v n n]
def bq(i j:Nat):BE (i:Int) (j:Int) 1=j-i:=by
 unfold BE;have h1:(1:Int)>0:=by lia
 simp only[h1,if_true,Int.ediv_one];split <;> lia
def lE{v:c7}{o:Option Int}{Q:Option Int->d3->Prop}(p:Fx v o)(h:Q o s):wpAny (model prog w) A (GC v) Q E s:=by
 cases p with
 | none=>rwa[slicePart_none h]
 | int i t=>rwa[slicePart_int h]
def pj{sl:b9}{vl vu:c7}{lo hi:Option Int}{n:Nat}{Q:Int×Int×Nat->d3->Prop}(hs:s.heap.IsSliceOf sl vl vu .none)(pl:Fx vl lo)(pu:Fx vu hi)
  (h:Q (((sIx n 0 lo:Nat):Int),1,sIx n n hi-sIx n 0 lo) s):wpAny (model prog w) A (DG (.ref sl) (pure (n:Int))) Q E s:=by
 obtain⟨os,hos,hcs,hds⟩:=id hs;unfold DG He;erw[ac (ac (Af hos hds (x:=vl) rfl (ac (Af hos hds (x:=vu) rfl (ac (Af hos hds (x:=.none) rfl (d7 ?_)))))))];erw[ac (slicePart_none ?_)];show wpAny _ _ (if ((1:Int) == 0)=Iq then _ else _) _ _ s;rw[y7 (by decide)];erw[ac (lE pl (ac (lE pu (ac (d7 ?_)))))];show wpAny _ _ (match Cr lo hi 1 (n:Int) with | (lo,hi)=>pure (lo,(1:Int),BE lo hi 1)) _ _ s;rw[cw lo hi n];show wpAny _ _ (pure (((sIx n 0 lo:Nat):Int),(1:Int),BE ((sIx n 0 lo:Nat):Int) ((sIx n n hi:Nat):Int) 1)) _ _ s;rw[bq];rwa[d7 h]
def Xj(xs:Array c7)(i k:Nat):((Aj k).filterMap λ(m:Nat)=>xs[((i:Int)+(m:Int)*1).toNat]?).toArray=((xs.toList.drop i).take k).toArray:=by
 have e:(λ(m:Nat)=>xs[((i:Int)+(m:Int)*1).toNat]?)=λm=>xs[i+m]?:=by
  funext m
  have:((i:Int)+(m:Int)*1).toNat=i+m:=by lia
  rw[this]
 rw[e];have:=pick_run xs i k;rw[List.filterMap_map] at this;have e2:((λx=>xs[x]?) ∘ λx=>i+x)=λm=>xs[i+m]?:=rfl;rw[e2] at this;rw[this]

def getItem_tuple_cut{t sl:b9}{items:Array c7}{vl vu:c7}{lo hi:Option Int}{Q:c7->d3->Prop}(ht:HF s.heap t items)(hs:s.heap.IsSliceOf sl vl vu .none)(pl:Fx vl lo)(pu:Fx vu hi)
  (hw:¬ (sIx items.size 0 lo=0/\sIx items.size items.size hi=items.size))
  (h:Q (.ref s.heap.objs.size) { s with heap:=s.heap.push { cls:=.type "tuple",data:=.seq ((items.toList.drop (sIx items.size 0 lo)).take (sIx items.size items.size hi-sIx items.size 0 lo)).toArray } })
  (hsz:items.size<=sizeLine):wpAny (model prog w) A (getItem (.ref t) (.ref sl)) Q E s:=by
 have htake:sizeOk (.seq ((items.toList.drop (sIx items.size 0 lo)).take (sIx items.size items.size hi-sIx items.size 0 lo)).toArray):=by
  show((items.toList.drop (sIx items.size 0 lo)).take (sIx items.size items.size hi-sIx items.size 0 lo)).toArray.size<=sizeLine;rw[i0,j8,p8,Ak];lia
 have hj:sIx items.size items.size hi<=items.size:=TR _ _ (d6 _) hi;obtain⟨os,hos,hcs,hds⟩:=id hs;have hTs:s.TypeIs (.ref sl) "slice" :=⟨os,hos,hcs⟩;unfold getItem
 try with_reducible refine Aw ?_
 first | refine ac (d7 ?_) | skip
 refine ac (wpAny_sequenceKey ht.typeIs (by decide) ?_);refine ac (Ap (name:=l5 "__getitem__") ht.typeIs BR
  (Ar BR ht.typeIs entry_tuple_getitem ?_ (args_tuple_getitem _ _)))
 show wpAny _ _ (GJ (.ref t) >>= _) _ _ s;refine ac (tupleItemsOf_ ht ?_);refine ac (wpAny_typeOf hTs ?_);rw[y9 (by decide)];refine ac (pj hs pl pu ?_);have hno:¬ ((((sIx items.size 0 lo:Nat):Int) == 0&&(1:Int) == 1&&(sIx items.size items.size hi-sIx items.size 0 lo) == items.size)=Iq):=by
  intro q;rw[p5,p5] at q;have q1:((sIx items.size 0 lo:Nat):Int)=0:=eq_of_beq q.1.1;have q2:sIx items.size items.size hi-sIx items.size 0 lo=items.size:=eq_of_beq q.2;rwa[hw ⟨by lia,by lia⟩]
 show wpAny _ _ (if (((sIx items.size 0 lo:Nat):Int) == 0&&(1:Int) == 1&&(sIx items.size items.size hi-sIx items.size 0 lo) == items.size)=Iq then _ else _) _ _ s;rw[y7 hno,Xj]
 first
  | exact ac (m:=BN _) (t6 (d7 ⟨_,rfl,d7 h⟩) htake)
  | exact ac (m:=BN _) (t6 (ac (d7 (d7 ⟨_,rfl,d7 h⟩))) htake)
  | exact ac (ac (m:=BN _) (t6 (d7 (d7 ⟨_,rfl,d7 h⟩)) htake))
  | exact ac (ac (m:=BN _) (t6 (d7 ⟨_,rfl,d7 h⟩) htake))
end
end HT

namespace L2

abbrev TO:=St->Hp->(Option Int->Hp->Prop)->Prop
def PO(X:Cx)(e:Option w4)(t:TO):Prop :=
 ∀(Is:List (b9×AM))(s:d3)(σ:St)(H:Hp)(Q:Option Int->Hp->Prop),Inv X Is σ H s->t σ H Q ->
  wpAny (model X.prog X.w) X.A (evalPart e X.env) (λu s'=>∃ o H',Inv X Is σ H' s'/\Fx u o/\Q o H') X.xe s
def WS:TO:=λ_ H Q=>Q Ip H
def tPart(t:TE):TO:=λσ H Q=>t σ H λx H1=>∃ i,x=.int i/\Q (Io i) H1

section
variable{X:Cx}{e:w4}{te:TE}{lo hi:Option w4}{tl th:TO}{pos p2:Co}

def sG:PO X Ip WS:=by
 intro Is s σ H Q I h;rw[evalPart_none];rwa[d7 ⟨Ip,H,I,.none,h⟩]
def sL(h:PE X e te):PO X (Io e) (tPart te):=by
 intro Is s σ H Q I hw;rw[evalPart_some];erw[thn (h Is s σ H _ I hw) λu s1 ⟨x,H1,I1,r1,q1⟩=>?_];obtain⟨i,rfl,q⟩:=q1;obtain⟨t,rfl⟩:=r1;rwa[Io i,H1,I1,.int i t,q]

def SlR(X:Cx)(r:V->Option Int->Option Int->Hp->VK->Prop):Prop :=
 ∀(Is:List (b9×AM))(s:d3)(σ:St)(H:Hp)(x:V)(v vl vu:c7)(lo hi:Option Int)(sl:b9)(Q:VK),Inv X Is σ H s->xF x v->s.heap.IsSliceOf sl vl vu .none->Fx vl lo->Fx vu hi->r x lo hi H Q ->
  ∃ T id,typeLookup (.type T) "__getitem__" = pure (Io (.builtin id))/\s.TypeIs v T/\wpAny (model X.prog X.w) X.A (getItem v (.ref sl)) (EP X Is σ Q) X.xe s
def tSl(r:V->Option Int->Option Int->Hp->VK->Prop)(te:TE)(tl th:TO):TE:=λσ H Q=>te σ H λx H1=>tl σ H1 λl H2=>th σ H2 λu H3=>r x l u H3 Q
def uV{r:V->Option Int->Option Int->Hp->VK->Prop}(hr:SlR X r)(he:PE X e te)(hl:PO X lo tl)(hu:PO X hi th):PE X (.Subscript e (.Slice lo hi Ip p2) pos) (tSl r te tl th):=by
 intro Is s σ H Q I h;erw[GK (thn (he Is s σ H _ I h) λv s1 ⟨x,H1,I1,r1,q1⟩=>?_)];erw[wpAny_Slice (thn (hl Is s1 σ H1 _ I1 q1) λvl s2 ⟨l,H2,I2,pl,q2⟩=>thn (hu Is s2 σ H2 _ I2 q2) λvu s3 ⟨u,H3,I3,pu,q3⟩=>?_)];rw[evalPart_none];erw[d7 ?_];have I4:Inv X Is σ H3 { s3 with heap:=s3.heap.push { cls:=.type "slice",data:=.fields #[vl,vu,.none] } }:=I3.kept (t':=s3.toks) λb ob q=>c9 _ q;obtain⟨T,id,hT,ht,hg⟩:=hr Is { s3 with heap:=s3.heap.push { cls:=.type "slice",data:=.fields #[vl,vu,.none] } } σ H3 x v vl vu l u s3.heap.objs.size Q I4 r1 (Ic ..) pl pu q3;show wpAny (model X.prog X.w) X.A (subscriptTail e (.Slice lo hi Ip p2) v (.ref s3.heap.objs.size)) (EP X Is σ Q) X.xe { s3 with heap:=s3.heap.push { cls:=.type "slice",data:=.fields #[vl,vu,.none] } };rwa[tail_any (ops:=[.ref s3.heap.objs.size,v]) ht hT hg (by with_unfolding_all rfl)]

def ze(xs:List V)(lo hi:Option Int):List V:=(xs.drop (HT.sIx xs.length 0 lo)).take (HT.sIx xs.length xs.length hi-HT.sIx xs.length 0 lo)
def oQ(xs:List V)(lo hi:Option Int):(ze xs lo hi).length<=xs.length:=by
 unfold ze;rw[j8,p8];lia
def rSlT(K:b7):V->Option Int->Option Int->Hp->VK->Prop:=λx lo hi H Q=>∃ a xs,x=.ref a/\SqT K H a xs /\
 ¬ (HT.sIx xs.length 0 lo=0/\HT.sIx xs.length xs.length hi=xs.length)/\∀ p,H p=Ip->Q (.ref p) (upd H p (.tup (ze xs lo hi)))
def qy:SlR X (rSlT X.K):=by
 intro Is s σ H x v vl vu lo hi sl Q I rx hs pl pu h;obtain⟨a,xs,rfl,hx,hw,q⟩:=h;cases rx;obtain⟨its,r,ht,hz⟩:=I.tuple hx;have hlen:its.toArray.size=xs.length:=by rw[i0]; rwa[r.length.symm]
 exists "tuple",_,BR.lookup,ht.typeIs;erw[HT.getItem_tuple_cut ht hs pl pu (by rw[hlen]; rwa[hw]) ?_ (by rw[hlen]; rwa[hz])];rw[hlen];erw[.ref s.heap.objs.size,_,I.laid (t':=s.toks) (o:=.tup (ze xs lo hi)) (λb ob q=>c9 _ q) (d6 _) ?_,U,q _ (I.hok.fresh (d6 _))];rwa[j7 (oQ xs lo hi) hz,_,(r.drop (HT.sIx xs.length 0 lo)).take (HT.sIx xs.length xs.length hi-HT.sIx xs.length 0 lo),Ik _ _]

end
end L2

namespace L2

def ixN(n:Nat)(i:Int):Option Nat:=if 0<=i then(if i<n then Io i.toNat else Ip) else if -(n:Int)<=i then Io (i+n).toNat else Ip
def atI{α:Type}(xs:List α)(i:Int):Option α:=(ixN xs.length i).bind λj=>xs[j]?
def Zv{n:Nat}{i:Int}{j:Nat}(h:ixN n i=Io j):seqIndex? i n=Io j/\j<n/\-(n:Int)<=i/\i<n:=by
 unfold ixN at h;by_cases h0:0<=i
 ·rw[y9 h0] at h;by_cases h1:i<n
  ·rw[y9 h1] at h;have e:i.toNat=j:=o9 h;rwa[by rw[seqIndex_of h0 h1,e],by lia,by lia,h1]
  ·rw[y7 h1] at h; cases h
 ·rw[y7 h0] at h;by_cases h1 : -(n:Int)<=i
  ·rw[y9 h1] at h;have e:(i+n).toNat=j:=o9 h;rwa[by rw[seqIndex_neg (by lia) h1,e],by lia,h1,by lia]
  ·rw[y7 h1] at h; cases h
def fG{α:Type}{xs:List α}{i:Int}{v:α}(h:atI xs i=Io v):∃ j,seqIndex? i xs.length=Io j/\xs[j]?=Io v/\j<xs.length/\-(xs.length:Int)<=i/\i<xs.length:=by
 unfold atI at h;cases e:ixN xs.length i with
 | none=>rw[e] at h; cases h
 | some j =>
  rw[e] at h;obtain⟨h1,h2,h3,h4⟩:=Zv e;rwa[j,h1,h,h2,h3,h4]
def wZ{α:Type}{xs:List α}{j:Nat}{v:α}(h:xs[j]?=Io v):atI xs (j:Int)=Io v:=by
 have hj:j<xs.length:=(g9.mp h).1;have e:ixN xs.length (j:Int)=Io j:=by
  unfold ixN;rw[y9 (by lia),y9 (by lia)]; simp
 unfold atI; rw[e]; rwa[h]
def ah(b:w4):Prop:=∀ o i,subscripted b Ir o i=operate [o,i] (getItem o i)
def IxR(X:Cx)(r:R2):Prop :=
 ∀(value slice:w4)(Is:List (b9×AM))(s:d3)(σ:St)(H:Hp)(x y:V)(v u:c7)(Q:VK),Inv X Is σ H s->xF x v->xF y u->r x y H Q ->
  subscripted slice Ir v u=operate [v,u] (getItem v u)->wpAny (model X.prog X.w) X.A (subscriptTail value slice v u) (EP X Is σ Q) X.xe s
def MtR(X:Cx)(id:String)(r:V->List V->Hp->VK->Prop):Prop :=
 ∀(Is:List (b9×AM))(s:d3)(σ:St)(H:Hp)(x:V)(xs:List V)(v:c7)(us:List c7)(Q:VK),Inv X Is σ H s->xF x v->yO xs us->r x xs H Q ->
  wpAny (model X.prog X.w) X.A (call (.builtin id) (v::us)) (EP X Is σ Q) X.xe s
section
variable{X:Cx}{a b:w4}{ta tb:TE}{pos:Co}
def gX{r:R2}(hr:IxR X r)(ha:PE X a ta)(hb:PE X b tb)(hs:ah b):PE X (.Subscript a b pos) (tOp r ta tb):=by
 intro Is s σ H Q I h;rwa[GK (Sk ha hb I h λv u s2 x y H2 I2 rx ry q=>hr a b Is s2 σ H2 x y v u Q I2 rx ry q (hs _ _))]

def rIxL(K:b7):R2:=λx y H Q=>∃ p xs i v,x=.ref p/\y=.int i/\SqL K H p xs/\atI xs i=Io v/\Q v H
def rIxT(K:b7):R2:=λx y H Q=>∃ p xs i v,x=.ref p/\y=.int i/\SqT K H p xs/\atI xs i=Io v/\Q v H
def rIxS:R2:=λx y H Q=>∃ z i c,x=.str z/\y=.int i/\z.length<=sizeLine/\atI z.cps.toList i=Io c/\Q (.str ⟨#[c]⟩) H
def Vw:IxR X (rIxL X.K):=by
 intro value slice Is s σ H x y v u Q I rx ry h hs;obtain⟨p,xs,i,z,rfl,rfl,hq,he,q⟩:=h;cases rx;obtain⟨t,rfl⟩:=ry;obtain⟨its,r,pl,hz⟩:=I.list hq;obtain⟨j,h1,h2,h3,h4,h5⟩:=fG he;obtain⟨w,ew,rw'⟩:=r.get h2;have hl:=r.length;have hn:=mV;have fin:EP X Is σ Q w s:=⟨z,H,I,rw',q⟩;by_cases h0:0<=i
 ·have hj:i.toNat=j:=by
   rw[seqIndex_of h0 h5] at h1;rwa[o9 h1]
  exact item_listR pl.isList h0 (by lia) (by rw[hj]; simpa using ew) fin hs
 ·have hj:(i+(its.toArray.size:Int)).toNat=j:=by
   rw[seqIndex_neg (by lia) h4] at h1;rw[i0,<- hl];rwa[o9 h1]
  exact subscriptTail_builtinR (x:=w) pl.isList.typeIs slot_list_getitem.lookup
   (wpAny_getItem_list_neg (Q:=λr s'=>r=w/\EP X Is σ Q r s') pl.isList (by lia) (by rw[i0] <;> lia) (by lia) (by rw[hj]; simpa using ew) ⟨rfl,fin⟩) hs
def UH:IxR X (rIxT X.K):=by
 intro value slice Is s σ H x y v u Q I rx ry h hs;obtain⟨p,xs,i,z,rfl,rfl,hq,he,q⟩:=h;cases rx;obtain⟨t,rfl⟩:=ry;obtain⟨its,r,pl,hz⟩:=I.tuple hq;obtain⟨j,h1,h2,h3,h4,h5⟩:=fG he;obtain⟨w,ew,rw'⟩:=r.get h2;have hl:=r.length;have hn:=mV;have fin:EP X Is σ Q w s:=⟨z,H,I,rw',q⟩;exact subscriptTail_builtinR (x:=w) pl.typeIs slot_tuple_getitem.lookup
  (getItem_tuple (j:=j) (Q:=λr s'=>r=w/\EP X Is σ Q r s') pl (by lia) (by lia) (by rw[i0,<- hl]; rwa[h1]) (by simpa using ew) ⟨rfl,fin⟩) hs
def Wp:IxR X rIxS:=by
 intro value slice Is s σ H x y v u Q I rx ry h hs;obtain⟨z,i,c,rfl,rfl,hz,he,q⟩:=h;obtain⟨t,rfl⟩:=rx;obtain⟨t',rfl⟩:=ry;obtain⟨j,h1,h2,h3,h4,h5⟩:=fG he;have hl:z.cps.toList.length=z.length:=by simp[Str.length]
 rw[hl] at h1 h4 h5;have hn:=mV;exact tail_any (typeIs_str s z t) slot_str_getitem.lookup (getItem_str (c:=c) (by
  have e1:decide (i < -(2^63:Int))=false:=x4 (by lia);have e2:decide (i >= 2^63)=false:=x4 (by lia);rw[e1,e2,Fl]) (by rw[h1]; simpa using h2) ⟨.str ⟨#[c]⟩,H,I.tok _,⟨_,rfl⟩,q⟩) hs
def bw(its:List c7)(n j:Nat)(u:c7):Al (·.setIfInBounds j u) { cls:=.type "list",data:=.seq its.toArray n }={ cls:=.type "list",data:=.seq (its.set j u).toArray n }:=by
 simp[Al]
def Inv.lst{Is:List (b9×AM)}{σ:St}{H:Hp}{s:d3}{p:b9}{xs:List V}(I:Inv X Is σ H s)(h:H p=Io (.lst xs)) :
  ∃(its:List c7)(n:Nat),yO xs its/\s.heap.get? p=Io { cls:=.type "list",data:=.seq its.toArray n }/\xs.length<=sizeLine:=by
 obtain⟨z,its,n,r,e⟩:=I.hok p _ h;rwa[its,n,r,e,z]
def Inv.lstUpd{Is:List (b9×AM)}{σ:St}{H:Hp}{s:d3}{p:b9}{xs ys:List V}{its its':List c7}{n n':Nat}{f:AM->AM}(I:Inv X Is σ H s)(h:H p=Io (.lst xs))
  (ho:s.heap.get? p=Io { cls:=.type "list",data:=.seq its.toArray n }) (hf:f { cls:=.type "list",data:=.seq its.toArray n }={ cls:=.type "list",data:=.seq its'.toArray n' }) (r:yO ys its') (hz:ys.length<=sizeLine) (t:Nat) :
  Inv X Is σ (upd H p (.lst ys)) { s with heap:=s.heap.update p f,toks:=t }:=by
 have e:(s.heap.update p f).get? p=Io { cls:=.type "list",data:=.seq its'.toArray n' }:=by
  rw[AR f ho (by rw[hf] <;> rfl),hf]
 erw[I.write (x:=p) (e:=p) (by rw[h]; trivial) (.inl rfl) (λb u hb q=>(o8 _ _ (AJ hb)).trans q) ⟨_,e⟩ ?_];rwa[hz,its',n',r,e]
def rSetL:V->V->V->Hp->(Hp->Prop)->Prop:=λo i v H Q=>∃ p xs k j,o=.ref p/\i=.int k/\H p=Io (.lst xs)/\ixN xs.length k=Io j/\Q (upd H p (.lst (xs.set j v)))
def dq:PSet X rSetL:=by
 intro Is s σ H o i v ov iv u Q I ro ri rv h;obtain⟨p,xs,k,j,rfl,rfl,hp,hj,q⟩:=h;cases ro;obtain⟨t,rfl⟩:=ri;obtain⟨its,n,r,ho,hz⟩:=I.lst hp;obtain⟨h1,h2,h3,h4⟩:=Zv hj;have hl:=r.length;have hn:=mV;have I':Inv X Is σ (upd H p (.lst (xs.set j v))) { s with heap:=s.heap.update p (Al (·.setIfInBounds j u)) } :=
  I.lstUpd hp ho (bw its n j u) (r.set rv j) (by rw[Df]; rwa[hz]) s.toks
 by_cases h0:0<=k
 ·have hk:k.toNat=j:=by
   rw[seqIndex_of h0 h4] at h1;rwa[o9 h1]
  rwa[PySem.W.ki_setAt ho h0 (by lia) (by rw[i0,<- hl]; exact h4) (by rw[hk]; exact⟨_,I',q⟩)]
 ·have hk:(k+(its.toArray.size:Int)).toNat=j:=by
   rw[seqIndex_neg (by lia) h3] at h1;rw[i0,<- hl];rwa[o9 h1]
  rwa[PySem.W.ki_setBack ho (by lia) (by rw[i0,<- hl]; exact h3) (by lia) (by rw[hk]; exact⟨_,I',q⟩)]

def jT(lo hi:Option Int)(n:Nat):(sliceBounds lo hi Ip n).1=((HT.sIx n 0 lo:Nat):Int)/\(sliceBounds lo hi Ip n).2.1=((HT.sIx n n hi:Nat):Int)/\(sliceBounds lo hi Ip n).2.2=1:=by
 erw[?_,?_,U]
 ·cases lo with
  | none=>simp[sliceBounds,HT.sIx]
  | some i =>
   simp only[sliceBounds,HT.sIx,Ga,show(1:Int)>0 by decide,if_true];by_cases h:i<0
   ·simp only[h,if_true] <;> lia
   ·simp only[h,if_false] <;> lia
 ·cases hi with
  | none=>simp[sliceBounds,HT.sIx]
  | some i =>
   simp only[sliceBounds,HT.sIx,Ga,show(1:Int)>0 by decide,if_true];by_cases h:i<0
   ·simp only[h,if_true] <;> lia
   ·simp only[h,if_false] <;> lia
def kO(its:List c7)(lo hi:Option Int):slicePick its.toArray lo hi Ip=((its.drop (HT.sIx its.length 0 lo)).take (HT.sIx its.length its.length hi-HT.sIx its.length 0 lo)).toArray:=by
 obtain⟨h1,h2,h3⟩:=jT lo hi its.toArray.size;unfold slicePick;rw[h1,h2,h3];simp only[sliceRange_one,pick_run,i0] <;> rfl
def rSlL(K:b7):V->Option Int->Option Int->Hp->VK->Prop:=λx lo hi H Q=>∃ a xs,x=.ref a/\SqL K H a xs/\∀ p,H p=Ip->Q (.ref p) (upd H p (.lst (ze xs lo hi)))
def WR:SlR X (rSlL X.K):=by
 intro Is s σ H x v vl vu lo hi sl Q I rx hs pl pu h;obtain⟨a,xs,rfl,hx,q⟩:=h;cases rx;obtain⟨its,r,ht,hz⟩:=I.list hx;have hlen:=r.length;exists "list",_,slot_list_getitem.lookup,ht.isList.typeIs;erw[wpAny_getItem_list_slice ht.isList hs pl pu .none (by simp) ?_ (by rw[i0] <;> lia)];rw[kO,<- hlen];erw[.ref s.heap.objs.size,_,I.laid (t':=s.toks) (o:=.lst (ze xs lo hi)) (λb ob q=>c9 _ q) (d6 _) ?_,U,q _ (I.hok.fresh (d6 _))];rwa[j7 (oQ xs lo hi) hz,_,0,(r.drop (HT.sIx xs.length 0 lo)).take (HT.sIx xs.length xs.length hi-HT.sIx xs.length 0 lo),d9 _ rfl]

def lQ:V->Bool
 | .non=>Iq
 | .bl _=>Iq
 | .int _=>Iq
 | .str _=>Iq
 | _=>Ir
def eqV:V->V->Bool
 | .non,.non=>Iq
 | .bl a,.bl b=>a == b
 | .bl a,.int b=>(if a then 1 else 0) == b
 | .int a,.bl b=>a ==(if b then 1 else 0)
 | .int a,.int b=>a == b
 | .str a,.str b=>a == b
 | _,_=>Ir
def UT{A:Ac}{s:d3}{y x:V}{u v:c7}(ry:xF y u)(rx:xF x v)(fy:lQ y=Iq)(fx:lQ x=Iq):Fy A s u v (eqV y x):=by
 cases y with
 | non =>
  cases ry;cases x with
  | non=>cases rx; rwa[SeqAt.EqAt.same _]
  | bl b=>cases rx; rwa[SeqAt.EqAt.none_bool b]
  | int b=>obtain⟨t,rfl⟩:=rx; rwa[SeqAt.EqAt.none_int b t]
  | str b=>obtain⟨t,rfl⟩:=rx; rwa[SeqAt.EqAt.none_str b t]
  | _=>exact x5 (show Ir=Iq from fx) h9
 | bl a =>
  cases ry;cases x with
  | non=>cases rx; rwa[SeqAt.EqAt.bool_none a]
  | bl b=>cases rx; rwa[SeqAt.EqAt.bool_bool a b]
  | int b=>obtain⟨t,rfl⟩:=rx; rwa[SeqAt.EqAt.bool_int a b t]
  | str b=>obtain⟨t,rfl⟩:=rx; rwa[SeqAt.EqAt.bool_str a b t]
  | _=>exact x5 (show Ir=Iq from fx) h9
 | int a =>
  obtain⟨t',rfl⟩:=ry;cases x with
  | non=>cases rx; rwa[SeqAt.EqAt.int_none a t']
  | bl b=>cases rx; rwa[SeqAt.EqAt.int_bool a t' b]
  | int b=>obtain⟨t,rfl⟩:=rx; rwa[Fz a t' b t]
  | str b=>obtain⟨t,rfl⟩:=rx; rwa[Fr a t' b t]
  | _=>exact x5 (show Ir=Iq from fx) h9
 | str a =>
  obtain⟨t',rfl⟩:=ry;cases x with
  | non=>cases rx; rwa[SeqAt.EqAt.str_none a t']
  | bl b=>cases rx; rwa[SeqAt.EqAt.str_bool a t' b]
  | int b=>obtain⟨t,rfl⟩:=rx; rwa[Fs a t' b t]
  | str b=>obtain⟨t,rfl⟩:=rx; rwa[FA a t' b t]
  | _=>exact x5 (show Ir=Iq from fx) h9
 | _=>exact x5 (show Ir=Iq from fy) h9
def eqU(x:V)(u:c7):Bool:=match u with
 | .none=>eqV .non x
 | .bool b=>eqV (.bl b) x
 | .int i _=>eqV (.int i) x
 | .str z _=>eqV (.str z) x
 | _=>Ir
def Wx{x y:V}{u:c7}(r:xF y u)(f:lQ y=Iq):eqU x u=eqV y x:=by
 cases y with
 | non=>cases r; rfl
 | bl b=>cases r; rfl
 | int i=>obtain⟨t,rfl⟩:=r; rfl
 | str z=>obtain⟨t,rfl⟩:=r; rfl
 | _=>exact x5 (show Ir=Iq from f) h9
def oI{x:V} : ∀{xs:List V}{us:List c7},yO xs us->xs.all lQ=Iq->us.any (eqU x)=xs.any λy=>eqV y x
 | _,_,.nil,_=>rfl
 | y::xs,u::us,.cons r t,f=>by
  rw[CD,p5] at f;rw[AT,AT,Wx r f.1,oI t f.2]
def ur{A:Ac}{s:d3}{x:V}{v:c7}(rx:xF x v)(fx:lQ x=Iq):∀{xs:List V}{us:List c7},yO xs us->xs.all lQ=Iq->∀ u∈us,Fy A s u v (eqU x u)
 | _,_,.nil,_=>λu hu=>by cases hu
 | y::xs,u::us,.cons r t,f=>λu' hu=>by
  rw[CD,p5] at f;rcases i7.mp hu with rfl | hu
  ·rw[Wx r f.1]; rwa[UT r rx f.1 fx]
  ·rwa[ur rx fx t f.2 u' hu]
def inV(x:V)(xs:List V):Bool:=xs.any λy=>eqV y x
def rIn(K:b7)(neg:Bool):R2:=λx y H Q=>∃ p xs,y=.ref p/\(SqL K H p xs\/SqT K H p xs)/\lQ x=Iq/\xs.all lQ=Iq/\Q (.bl (if neg then !inV x xs else inV x xs)) H
def qC:OpR X (compareOp .In) (rIn X.K Ir):=by
 intro Is s σ H x y v u Q I rx ry h;obtain⟨p,xs,rfl,hq,fx,fs,q⟩:=h;cases ry;rcases hq with hq | hq
 ·obtain⟨its,r,pl,hz⟩:=I.list hq;refine SeqAt.in_listAt (eqU x) pl.isList (λw hw=>ur rx fx r fs w (by simpa using hw)) ⟨.bl _,H,I,rfl,?_⟩;rw[show its.toArray.any (eqU x)=its.any (eqU x) by simp,oI r fs];rwa[q]
 ·obtain⟨its,r,pl,hz⟩:=I.tuple hq;refine Gb (eqU x) pl (λw hw=>ur rx fx r fs w (by simpa using hw)) ⟨.bl _,H,I,rfl,?_⟩;rw[show its.toArray.any (eqU x)=its.any (eqU x) by simp,oI r fs];rwa[q]
def gf:OpR X (compareOp .NotIn) (rIn X.K Iq):=by
 intro Is s σ H x y v u Q I rx ry h;obtain⟨p,xs,rfl,hq,fx,fs,q⟩:=h;cases ry;rcases hq with hq | hq
 ·obtain⟨its,r,pl,hz⟩:=I.list hq;refine SeqAt.notIn_listAt (eqU x) pl.isList (λw hw=>ur rx fx r fs w (by simpa using hw)) ⟨.bl _,H,I,rfl,?_⟩;rw[show its.toArray.any (eqU x)=its.any (eqU x) by simp,oI r fs];rwa[q]
 ·obtain⟨its,r,pl,hz⟩:=I.tuple hq;refine SeqAt.notIn_tupleAt (eqU x) pl (λw hw=>ur rx fx r fs w (by simpa using hw)) ⟨.bl _,H,I,rfl,?_⟩;rw[show its.toArray.any (eqU x)=its.any (eqU x) by simp,oI r fs];rwa[q]
def yU:uK X (.builtin "len") (λxs H Q=>∃ p ys,xs=[.ref p]/\(SqL X.K H p ys\/SqT X.K H p ys)/\Q (.int ys.length) H):=by
 intro Is s σ H xs us Q I r h;obtain⟨p,ys,rfl,hq,q⟩:=h;obtain⟨u,rfl,rx⟩:=ic r;cases rx;have hn:=mV;rcases hq with hq | hq
 ·obtain⟨its,r',pl,hz⟩:=I.list hq;have hlen:=r'.length;rwa[Calls.call_len_list pl.isList (by simp only[i0] <;> lia) ⟨.int ys.length,H,I.tok _,⟨s.toks+1,by rw[i0,hlen]⟩,q⟩]
 ·obtain⟨its,r',pl,hz⟩:=I.tuple hq;have hlen:=r'.length;rwa[len_tuple pl (by simp only[i0] <;> lia) ⟨.int ys.length,H,I.tok _,⟨s.toks+1,by rw[i0,hlen]⟩,q⟩]
def yp:uK X (.builtin "len") (λxs H Q=>∃ z,xs=[.str z]/\z.length<=sizeLine/\Q (.int z.length) H):=by
 intro Is s σ H xs us Q I r h;obtain⟨z,rfl,hz,q⟩:=h;obtain⟨u,rfl,t,rfl⟩:=ic r;have hn:=mV;rwa[len_str (by lia) ⟨.int z.length,H,I.tok _,⟨_,rfl⟩,q⟩]
def uK.or{f:c7}{r r':List V->Hp->VK->Prop}(h:uK X f r)(h':uK X f r'):uK X f (λxs H Q=>r xs H Q\/r' xs H Q):=by
 intro Is s σ H xs us Q I rs q;rcases q with q | q
 ·rwa[h Is s σ H xs us Q I rs q]
 ·rwa[h' Is s σ H xs us Q I rs q]
def rJ:uK X (.type "list") (λxs H Q=>∃ p ys,xs=[.ref p]/\(SqL X.K H p ys\/SqT X.K H p ys)/\∀ l,H l=Ip->Q (.ref l) (upd H l (.lst ys))):=by
 intro Is s σ H xs us Q I r h;obtain⟨p,ys,rfl,hq,q⟩:=h;obtain⟨u,rfl,rx⟩:=ic r;cases rx;have fin:∀(its:List c7),yO ys its->ys.length<=sizeLine->∀(h':o0)(c':Nat),(∀ b o',s.heap.get? b=Io o'->h'.get? b=Io o') ->
   h'.get? s.heap.objs.size=Io { cls:=.type "list",dict:=Ip,data:=.seq its.toArray c',slots:=#[] }->EP X Is σ Q (.ref s.heap.objs.size) { s with heap:=h' }:=λits r' hz h' c' kp e =>
  ⟨.ref s.heap.objs.size,_,I.laid (t':=s.toks) kp (d6 _) (show xI X.prog X.w _ h' _ (.lst ys) from⟨hz,its,c',r',e⟩),rfl,q _ (I.hok.fresh (d6 _))⟩
 rcases hq with hq | hq
 ·obtain⟨its,r',pl,hz⟩:=I.list hq;have hlen:=r'.length;obtain⟨o,ho,hc,n,hd⟩:=pl.isList;rwa[call_list_seq p (.inl rfl) ho hc hd (λh' c' kp e=>fin its r' hz h' c' kp e) (by simp only[i0] <;> lia)]
 ·obtain⟨its,r',pl,hz⟩:=I.tuple hq;have hlen:=r'.length;obtain⟨o,ho,hc,n,hd⟩:=pl;rwa[call_list_seq p (.inr rfl) ho hc hd (λh' c' kp e=>fin its r' hz h' c' kp e) (by simp only[i0] <;> lia)]
def tyV(K:b7)(T:String)(x:V)(H:Hp):Prop:=match x with
 | .str _=>T = "str"
 | .int _=>T = "int"
 | .ref p=>(T = "list" /\ ∃ xs,SqL K H p xs)\/(T = "tuple" /\ ∃ o,K.lookup p=Io o/\o.cls=.type "tuple" /\ o.dict=Ip) \/
   (T = "dict" /\ ((∃ kvs,H p=Io (.dK kvs))\/∃ kvs,H p=Io (.dT kvs)))\/(T = "set" /\ ∃ S n,H p=Io (.set S n))
 | _=>False
def Wt{Is:List (b9×AM)}{σ:St}{H:Hp}{s:d3}{T:String}{x:V}{v:c7}(I:Inv X Is σ H s)(r:xF x v)(ty:tyV X.K T x H) :
  s.TypeIs v T/\∀ a,v=.ref a->∃ ob,s.heap.get? a=Io ob/\ob.dict=none:=by
 cases x with
 | str z =>
  obtain⟨t,rfl⟩:=r;cases (show T = "str" from ty);exact⟨typeIs_str s z t,λ_ e=>nomatch e⟩
 | int i =>
  obtain⟨t,rfl⟩:=r;cases (show T = "int" from ty);exact⟨typeIs_int s i t,λ_ e=>nomatch e⟩
 | ref p =>
  cases r;rcases ty with ⟨rfl,xs,hq⟩ | ⟨rfl,o,hk,hc,hd⟩ | ⟨rfl,hk⟩ | ⟨rfl,S,n,hk⟩
  ·obtain⟨its,_,pl,_⟩:=I.list hq;erw[pl.isList.typeIs,λa e=>?_];cases e;obtain⟨o,n,e,c,hd,_⟩:=pl;rwa[o,e,hd]
  ·erw[⟨o,I.kIn p o hk,hc⟩,λa e=>?_];cases e;rwa[o,I.kIn _ o hk,hd]
  ·have z:∃ o,s.heap.get? p=Io o/\o.ExactDict:=by
    rcases hk with ⟨kvs,hk⟩ | ⟨kvs,hk⟩
    ·obtain⟨_,_,_,_,o,_,_,e,ex,_⟩:=I.hok p _ hk;rwa[o,e,ex]
    ·obtain⟨_,_,_,_,o,_,_,e,ex,_⟩:=I.hok p _ hk;rwa[o,e,ex]
   obtain⟨o,e,ex⟩:=z;erw[⟨o,e,ex.1⟩,λa e2=>?_];cases e2;rwa[o,e,ex.2.1]
  ·obtain⟨o,_,_,_,e,ex,_⟩:=I.hok p _ hk;erw[⟨o,e,ex.1⟩,λa e2=>?_];cases e2;rwa[o,e,ex.2.1]
 | _=>rwa[x9 ty]
def tBM0(K:b7)(T:String)(r:V->List V->Hp->VK->Prop)(to:TE):TE:=λσ H Q=>to σ H λx H1=>tyV K T x H1/\r x [] H1 Q
def tBM(K:b7)(T:String)(r:V->List V->Hp->VK->Prop)(to:TE)(t:TA):TE:=λσ H Q=>to σ H λx H1=>tyV K T x H1/\t σ H1 λxs H2=>r x xs H2 Q
variable{o e:w4}{es:List w4}{to:TE}{t:TA}{name:g8}{apos cpos:Co}{T id:String}{r:V->List V->Hp->VK->Prop}
def Tu(pa:PlainAttrs T)(slot:Slot T name id)(hty:typeOf (.builtin id)=pure (.type "method_descriptor"))(hm:MtR X id r)(ho:PE X o to)
  (hbase:attributeBase o name X.env (eval o X.env)=eval o X.env:=by rfl) (hline:(apos.endLine == cpos.line)=true:=by rfl):PE X (.Call (.Attribute o name apos) [] [] cpos) (tBM0 X.K T r to):=by
 intro Is s σ H Q I h;erw[wpAny_Call_method0_late hbase hline (thn (ho Is s σ H _ I h) λv s1 ⟨x,H1,I1,r1,ty,q1⟩=>?_)];obtain⟨h1,h2⟩:=Wt I1 r1 ty;rwa[T,id,pa,slot,hty,h1,h2,CS rfl (Cw (hm Is s1 σ H1 x [] v [] Q I1 r1 .nil q1))]
def VR(pa:PlainAttrs T)(slot:Slot T name id)(hty:typeOf (.builtin id)=pure (.type "method_descriptor"))(hm:MtR X id r)(ho:PE X o to)(ha:PA X (e::es) t)
  (hbase:attributeBase o name X.env (eval o X.env)=eval o X.env:=by rfl)
  (hfew:((backTo cpos (starEach (e::es) X.env)).all (λx=>!x.1)&&(backToKw cpos (keywordEach [] X.env)).all (λx=>x.1.isSome)
   && decide ((e::es).length+([]:List DV).length+(if ([]:List DV).isEmpty then 0 else 1)<30))=true:=by rfl)
  (hline:(apos.endLine == cpos.line)=true:=by rfl) (hs:starEach (e::es) X.env=(Ir,eval e X.env)::starEach es X.env:=by rfl) (hplain:(backTo cpos (starEach es X.env)).any (·.1)=false:=by rfl) :
  PE X (.Call (.Attribute o name apos) (e::es) [] cpos) (tBM X.K T r to t):=by
 intro Is s σ H Q I h;erw[wpAny_Call_method_late hbase hfew hline rfl (thn (ho Is s σ H _ I h) λv s1 ⟨x,H1,I1,r1,ty,q1⟩=>?_)];obtain⟨h1,h2⟩:=Wt I1 r1 ty;exists T,id,pa,slot,hty,h1,h2;have hA:=ha cpos Is s1 σ H1 _ I1 q1;rw[hs] at hA ⊢;refine CS (by show(Ir||(backTo cpos (starEach es X.env)).any (·.1))=Ir; rw[hplain] <;> rfl) (C8 ?_);rwa[thn hA λus s2 ⟨vs,H2,I2,r2,q2⟩=>hm Is s2 σ H2 x vs v us Q I2 r1 r2 q2]
end
end L2

namespace L2

def MtM(X:Cx)(id:String)(r:V->List V->Hp->VK->Prop):Prop :=
 ∀(Is:List (b9×AM))(s:d3)(σ:St)(H:Hp)(x:V)(xs:List V)(v:c7)(us:List c7)(Q:VK),Inv X Is σ H s->xF x v->yO xs us->r x xs H Q ->
  wpAny (model X.prog X.w) X.A (call (.builtin id) (v::us)) (EP X Is σ Q) X.xe s

def yO.one:∀{x:V}{us:List c7},yO [x] us->∃ u,us=[u]/\xF x u
 | _,_,.cons r .nil=>⟨_,rfl,r⟩
def yO.two:∀{x y:V}{us:List c7},yO [x,y] us->∃ u v,us=[u,v]/\xF x u/\xF y v
 | _,_,_,.cons r (.cons q .nil)=>⟨_,_,rfl,r,q⟩
def yO.zero:∀{us:List c7},yO [] us->us=[]
 | _,.nil=>rfl
def yO.dropLast{xs:List V}{us:List c7}(h:yO xs us):yO xs.dropLast us.dropLast:=by
 induction h with
 | nil=>rwa[.nil]
 | cons r t ih =>
  cases t with
  | nil=>rwa[.nil]
  | cons q t'=>rwa[.cons r ih]
def cO{α:Type}(l:List α):l.eraseIdx (l.length-1)=l.dropLast:=by
 induction l with
 | nil=>rfl
 | cons a r ih =>
  cases r with
  | nil=>rfl
  | cons b r =>
   have e:(a::b::r).length-1=((b::r).length-1)+1:=by
    have h1:(a::b::r).length=r.length+2:=rfl;have h2:(b::r).length=r.length+1:=rfl;lia
   rw[e,List.eraseIdx_cons_succ,ih]
   all_goals rfl
section
variable{X:Cx}{Is:List (b9×AM)}{σ:St}{H:Hp}{s:d3}{l b:b9}{xs ys zs:List V}

def Inv.lset{its its':List c7}{n:Nat}{f:Array c7->Array c7}{t':Nat}(I:Inv X Is σ H s)(hH:H l=Io (.lst xs))
  (e:s.heap.get? l=Io { cls:=.type "list",data:=.seq its.toArray n }) (hf:f its.toArray=its'.toArray) (hv:yO ys its') (hz:ys.length<=sizeLine) :
  Inv X Is σ (upd H l (.lst ys)) { s with heap:=s.heap.update l (Al f),toks:=t' }:=by
 have q:=PySem.IsL.update e f;rw[hf] at q;erw[I.write (x:=l) (e:=l) (by rw[hH]; rwa[trivial]) (.inl rfl) (λb' u hb hu=>(o8 s.heap (Al f) (AJ hb)).trans hu) ⟨_,q⟩ ?_];rwa[hz,its',_,hv,q]
def Inv.lnew{its:List c7}{t':Nat}(I:Inv X Is σ H s)(hv:yO ys its)(hz:ys.length<=sizeLine) :
  Inv X Is σ (upd H s.heap.objs.size (.lst ys)) { s with heap:=s.heap.push { cls:=.type "list",data:=.seq its.toArray },toks:=t' } :=
 I.laid (λ_ _ q=>c9 _ q) (d6 _) ⟨hz,its,0,hv,d9 _ rfl⟩
def Inv.fresh(I:Inv X Is σ H s):H s.heap.objs.size=none:=I.hok.fresh (d6 _)
def Inv.lstM(I:Inv X Is σ H s)(hH:H l=Io (.lst xs)):xs.length<=sizeLine/\∃(its:List c7)(n:Nat),yO xs its/\xs.length=its.length/\s.heap.get? l=Io { cls:=.type "list",data:=.seq its.toArray n }:=by
 obtain⟨z,its,n,r,e⟩:=I.hok l _ hH;rwa[z,its,n,r,r.length,e]

def Xg{n:Nat}(h:n<=sizeLine):CF n=false:=by
 unfold CF;rwa[x4 (by lia)]
end

section
variable{X:Cx}

def bY:V->List V->Hp->VK->Prop:=λx vs H Q=>∃ l xs y,x=.ref l/\vs=[y]/\H l=Io (.lst xs)/\xs.length<sizeLine/\Q .non (upd H l (.lst (xs++[y])))
def oM:MtM X "list.append" bY:=by
 intro Is s σ H x vs v us Q I rx rv h;obtain⟨l,xs,y,rfl,rfl,hH,hz,q⟩:=h;cases rx;obtain⟨u,rfl,ru⟩:=rv.one;obtain⟨z,its,n,r,hl,e⟩:=I.lstM hH;erw[call_meets F.slot_list_append ⟨_,e,rfl⟩ F.entry_list_append (F.args_list_append_2 _ _) (PySem.list_append l its.toArray n u (by rw[i0]; lia)) ⟨e,?_⟩];erw[.non,_,I.lset (its':=its++[u]) hH e (by simp) (r.append (.cons ru .nil)) ?_,U,q];rw[f8,BC];lia

def VO:V->List V->Hp->VK->Prop:=λx vs H Q=>∃ l b xs zs,x=.ref l/\vs=[.ref b]/\H l=Io (.lst xs)/\H b=Io (.lst zs)/\xs.length+zs.length<=sizeLine/\Q .non (upd H l (.lst (xs++zs)))
def UA:MtM X "list.extend" VO:=by
 intro Is s σ H x vs v us Q I rx rv h;obtain⟨l,b,xs,zs,rfl,rfl,hH,hB,hz,q⟩:=h;cases rx;obtain⟨u,rfl,ru⟩:=rv.one;cases ru;obtain⟨z,its,n,r,hl,e⟩:=I.lstM hH;obtain⟨z2,its2,n2,r2,hl2,e2⟩:=I.lstM hB;have hsz:its.toArray.size+its2.toArray.size<=sizeLine:=by rw[i0,i0]; lia
 have hlong:¬ (!its.toArray.isEmpty&&CF (its.toArray.size+its2.toArray.size))=true:=by
  rw[Xg hsz,GL];rwa[h9]
 refine call_meets F.slot_list_extend ⟨_,e,rfl⟩ F.entry_list_extend (F.args_list_extend_2 _ _)
  (AutoSeq1.list_extend_list_list_0 l its.toArray n b its2.toArray n2 hlong (by rw[i0]; lia) (by lia)) ⟨e,e2,?_⟩
 erw[.non,_,I.lset (its':=its++its2) hH e (by simp) (r.append r2) ?_,U,q];rw[f8];lia

def rPop:V->List V->Hp->VK->Prop:=λx vs H Q=>∃ l xs y,x=.ref l/\vs=[]/\H l=Io (.lst xs)/\xs[xs.length-1]?=Io y/\Q y (upd H l (.lst xs.dropLast))
def UX:MtM X "list.pop" rPop:=by
 intro Is s σ H x vs v us Q I rx rv h;obtain⟨l,xs,y,rfl,rfl,hH,hy,q⟩:=h;cases rx;have hus:=rv.zero;subst hus;obtain⟨z,its,n,r,hl,e⟩:=I.lstM hH;obtain⟨u,hu,ru⟩:=r.get hy;have hy':its.toArray[its.toArray.size-1]?=Io u:=by
  show its.toArray[its.length-1]?=Io u;rw[<- Ca,<- hl];rwa[hu]
 erw[call_meets F.slot_list_pop ⟨_,e,rfl⟩ F.entry_list_pop (F.args_list_pop_1 _) (MeetsSeq.list_pop_last l its.toArray n u hy' (by rw[i0]; lia)) ⟨e,?_⟩];erw[y,_,I.lset (its':=its.dropLast) hH e ?_ r.dropLast ?_,ru,q]
 ·show its.toArray.eraseIdxIfInBounds (its.toArray.size-1)=its.dropLast.toArray;rw[i0,List.eraseIdxIfInBounds_toArray,cO]
 ·rw[List.length_dropLast];lia

def Sx:R2:=λx y H Q=>∃ l b xs zs,x=.ref l/\y=.ref b/\H l=Io (.lst xs)/\H b=Io (.lst zs)/\xs.length+zs.length<=sizeLine/\∀ p,H p=Ip->Q (.ref p) (upd H p (.lst (xs++zs)))
def wa:OpR X (binaryOp .Add) Sx:=by
 intro Is s σ H x y v u Q I rx ry h;obtain⟨l,b,xs,zs,rfl,rfl,hH,hB,hz,q⟩:=h;cases rx;cases ry;obtain⟨z,its,n,r,hl,e⟩:=I.lstM hH;obtain⟨z2,its2,n2,r2,hl2,e2⟩:=I.lstM hB;erw[PySem.P.add_list e e2 ?_ (by rw[i0,i0]; lia)];have ea:its.toArray++its2.toArray=(its++its2).toArray:=by simp
 rw[ea];rwa[.ref _,_,I.lnew (t':=s.toks) (r.append r2) (by rw[f8]; lia),rfl,q _ I.fresh]
def VB{α:Type}(xs:List α)(k:Nat):(t9 k xs).flatten.length=k*xs.length:=by
 induction k with
 | zero=>simp
 | succ k ih=>rw[Dq,FP,f8,ih,HQ,Nat.add_comm]
end


end L2

namespace Att
open PySem PySem.W PySem.Calls PyProof.Rows

def oH{P:B8}{h:o0} : ∀(ns:List Int)(vs:List c7),WellAll P h vs (ns.map Il)->GG vs ns:=by
 intro ns
 induction ns with
 | nil =>
  intro vs w;rw[CT] at w;cases w;rwa[.nil]
 | cons n ns ih =>
  intro vs w;rw[l9] at w;cases w with
  | cons a b =>
   cases a;rwa[.cons _ _ (ih _ b)]

def ZN{l:EK}{n:Nat}(hn:l.most=Io n){P:B8}{h:o0}{args:List WData}{vals:List c7}
  (hpre:l.row.toRowW.claim.pre args=Iq) (hwl:WellAll P h vals args) :
  ∃ a vs ns,vals=[i9 a]/\args=[WData.list (ns.map Il)]/\h.get? a=Io { cls:=.type "list",data:=.seq vs.toArray }/\GG vs ns/\ns.length<=n:=by
 have hsh:WShape.hasAll [] args [.list .int]=true:=(pre_splitW hpre).1;have hc:l.pre.holds [] { args:=args }=true:=(pre_splitW hpre).2;obtain⟨d,r,rfl,h1,h2⟩:=hasAllW_cons hsh;obtain rfl:=hasAllW_nil h2;obtain⟨xs,rfl,h3⟩:=hasW_list h1;obtain⟨ns,rfl⟩:=items_int h3;have hlen:ns.length<=n:=by
  unfold OpenLaw.pre at hc;have h4:(WTm.not (.lt (.lit (.int (n:Int))) (.len (.arg 0)))).holds [] { args:=[.list (ns.map .int)] }=true:=by
   have h4:=(holds_andW hc).1;rw[hn] at h4;rwa[h4]
  have h5:=condW_of h4 (w_not (w_lt w_lit (w_len_list (w_arg rfl))));rw[a7] at h5;erw[Gc λq=>?_];have q':(n:Int)<((ns.length:Nat):Int):=by lia
  first
   | (rw[x3 q'] at h5; rwa[x5 h5 (by decide)])
   | (simp at h5; lia)
 cases hwl with
 | cons w1 w2 =>
  cases w2;cases w1 with
  | list ho hall=>rwa[_,_,ns,U,U,ho,oH ns _ hall,hlen]

def ZA(l:EK)(args:List WData):l.row.toRowW.claim.post args (.bool Iq) args=true :=
 postW_of (r:=l.row.toRowW) (X:=(Iq == Iq))
  (show Ie [] (.bool Iq) .bool=Iq by first | rfl | decide | simp[Ie,WShape.arms,WShape.armsAll])
  (show(WTm.eq .res (.lit (.bool Iq))).value [] { args:=args,res:=Io (.bool Iq),after:=args }=Io (.bool (Iq == Iq)) from w_eq_bool (w_res rfl) w_lit) rfl

def attach_call{l:EK}{n:Nat}{q:j9}{loose:List g8}{XP:(g8->Option c7)->o0->Prop}{YP:n9->o0->Prop}{d:DefRec}
  (hn:l.most=Io n) (hdf:d.params.defaults=[])
  (call:∀(w:n9)(s₀ s₁:d3)(mg mb:g8->Option c7)(fa:b9)(o:AM)(pm cd doc:c7)(a:b9)(vs:List c7)(ns:List Int),
   Ground q loose [] XP w s₀ mg mb s₁.heap->YP w s₁.heap ->
   s₁.heap.get? fa=Io o->o.data=.func (docDef d.name d.params d.body d.scope pm cd doc)->s₁.heap.CodeRec cd d.name->mg d.name=Io (.ref fa) ->
   s₁.heap.get? a=Io { cls:=.type "list",data:=.seq vs.toArray }->GG vs ns->ns.length<=n->s₁.gens = #[] ->
   codeAny (model l.prog w) callerA (.call (.ref fa) ⟨[.ref a],[]⟩) (λr s'=>r=.ok (.ret (.bool Iq))/\OldK s₁.heap s'.heap/\s'.os=s₁.os/\Du s'.gens) s₁) :
  HD q loose XP YP l.row.toRowW d [] (λf vs=>GM f vs):=by
 intro w s₀ s₁ mg mb G Y fa o pm cd doc dV kV ho hd hcd hD hmg hg args vals as hpre hlay hrd hwl hlo;obtain rfl:dV=.none:=Dflts.none hD hdf;obtain rfl:kV=.none:=Dflts.noKw hD;obtain⟨a,vs,ns,rfl,rfl,hobj,hints,hlen⟩:=ZN hn hpre hwl;erw[enter_call (codeAny_mono (call w s₀ s₁ mg mb fa o pm cd doc a vs ns G Y ho (fd_plain hd) hcd hmg hobj hints hlen hg) λr s' hq=>?_)];obtain⟨rfl,h2,h3,h4⟩:=hq;exact⟨.inl ⟨.bool Iq,.bool Iq,[],rfl,λ_=>rfl,.bool Iq,ZA l _,λ_=>⟨Ii,λ_ hm=>(nomatch hm)⟩⟩,h2,h3,h4⟩

section
variable{prog:j9}{w:n9}{A:Ac}{E:c7->d3->Prop}{s:d3}{K:b7}

end
end Att

namespace L2

def iY:∀{vs:List c7}{ns:List Int},GG vs ns->yO (ns.map V.int) vs
 | _,_,.nil=>.nil
 | _,_,.cons n t h=>.cons ⟨t,rfl⟩ (iY h)

def Only(H:Hp):Prop:=∀ b,H b=Ip\/∃ o xs,H b=Io (.frz o (.lst xs))

def YB{P:j9}{w:n9}{K:b7}{mg mb:g8->Option c7}{CX:CXT}{k:Nat}{fa a:b9}{fd:Aq}{x:g8}{sp:Sp}{s₁:d3}{vs:List c7}{ns:List Int}
  (KX:K.In s₁.heap) (hns:s₁.heap.Ns mainGlobals mg) (hb:s₁.heap.Ns builtinsNs mb) (hbb:∀ x:g8,x ≠ "__name__" -> mb x=bootBuiltins x) (hlim:s₁.heap.NoLimit) (hg:s₁.gens = #[])
  (ha:s₁.heap.get? a=Io { cls:=.type "list",data:=.seq vs.toArray }) (hi:GG vs ns) (hl:ns.length<=sizeLine) (hr:qH k callerA)
  (F:∀ base:o0,K.In base->base.Ns mainGlobals mg->yX P w K mg base CX k fa fd [x] sp) (hbind:∀(s:d3)(u:c7),Ep s fd ⟨[u],[]⟩ [(x,u)])
  (hsp:∀ H:Hp,Only H->SqL K H a (ns.map V.int)->sp [.ref a] H (λv _=>v=.bl Iq) λ_ _ _=>False)
  (hCX:∀ H e s',CX [] H s₁ (λ_ _ _=>False) e s'->False) :
  codeAny (model P w) callerA (.call (.ref fa) ⟨[.ref a],[]⟩) (λr s'=>r=.ok (.ret (.bool Iq))/\OldK s₁.heap s'.heap/\s'.os=s₁.os/\Du s'.gens) s₁:=by
 have rv:=iY hi;have lenV:=hi.length;have core:∀ H:Hp,Only H->SqL K H a (ns.map V.int)->HOk P w H s₁.heap->(∀ b,H b≠Ip->b=a)->(H a≠Ip->K.lookup a=Ip) ->
   codeAny (model P w) callerA (.call (.ref fa) ⟨[.ref a],[]⟩) (λr s'=>r=.ok (.ret (.bool Iq))/\OldK s₁.heap s'.heap/\s'.os=s₁.os/\Du s'.gens) s₁:=by
  intro H hO hS hok hA hK;have base_of:∀{b:b9}{o:AM},s₁.heap.get? b=Io o->H b=Ip->(YH s₁.heap H).get? b=Io o:=λe n=>Xo e n;have noA:∀{b:b9}{o:AM}{es:Array Bk}{ep:Nat},s₁.heap.get? b=Io o->o.data=.dict es ep->H b=none:=λ{b o es ep} e d=>by
   cases q:H b with
   | none=>rfl
   | some u =>
    have e':b=a:=hA b (by rw[q]; simp);subst e';rw[ha] at e; cases e;have d':Data.seq vs.toArray _=Data.dict es ep:=d;cases d'
  have nsK:∀{b:b9}{m:g8->Option c7},s₁.heap.Ns b m->(YH s₁.heap H).Ns b m:=λ{b m} ⟨o,es,ep,e,d,r⟩=>⟨o,es,ep,base_of e (noA e d),d,r⟩;have hKb:K.In (YH s₁.heap H):=λb o e=>base_of (KX b o e) (by
   cases q:H b with
   | none=>rfl
   | some u =>
    have e':b=a:=hA b (by rw[q]; simp);subst e';rw[hK (by rw[q]; simp)] at e; cases e)
  have hM:Mod K mg (YH s₁.heap H):=⟨hKb,nsK hns,⟨mb,nsK hb,hbb⟩,let ⟨mc,h1,h2⟩:=hlim;⟨mc,nsK h1,h2⟩⟩;have e0:Yh P w K mg (YH s₁.heap H) callerA [] s₁ H:=⟨rfl,hM,λb o e=>Vk e,En (Zl _ _),trivial,λb hb=>x5 (show b∈([]:List b9) from hb) (by simp),hok,.of_eq hg⟩;erw[codeAny_mono ((F _ hKb (nsK hns)).run callerA [] s₁ H ⟨[.ref a],[]⟩ [.ref a] [.ref a] _ _ hr e0 (hbind s₁ (.ref a)) (.cons rfl .nil) (hsp H hO hS)) λr s' h=>?_];cases r with
  | error e=>exact(hCX H e s' h).elim
  | ok fl =>
   cases fl with
   | next=>rwa[x9 h]
   | brk=>rwa[x9 h]
   | cont=>rwa[x9 h]
   | ret u =>
    obtain⟨v,H',os,bare,un,hok',r',q⟩:=h;have q':v=.bl true:=q;subst q';obtain rfl:u=El true:=r';erw[U,OldK.of_keep λb o e=>?_,os,bare];cases q:H b with
    | none=>exact un.keep b o e q (by intro z; exact x5 (show b∈([]:List b9) from z) (by simp)) (by simp)
    | some u =>
     rcases hO b with z | ⟨ob,xs,z⟩
     ·rw[q] at z; cases z
     ·have z2:=un.frzs b ob _ z;obtain⟨e1,_⟩:=hok b _ z;obtain⟨e2,_⟩:=hok' b _ z2;rw[e] at e1; cases e1;rwa[e2]
 cases hk:K.lookup a with
 | some o =>
  have e:=KX a o hk;rw[ha] at e;cases e;refine core (λ_=>Ip) (λ_=>.inl rfl) (.inr ⟨_,vs.toArray,_,hk,rfl,rfl,rfl,by rw[i0,lenV]; exact hl,by simpa using rv⟩) (λb u z=>by have z':(Ip:Option HO)=Io u:=z; cases z') (λb z=>x5 rfl z) λz=>x5 rfl z
 | none =>
  refine core (λb=>if b=a then Io (.frz { cls:=.type "list",data:=.seq vs.toArray } (.lst (ns.map V.int))) else Ip) (λb=>?_) (.inl (.inr ⟨{ cls:=.type "list",data:=.seq vs.toArray },y9 rfl⟩)) (λb u z=>?_) (λb z=>?_) λ_=>hk
  ·by_cases hb:b=a
   ·rwa[.inr ⟨_,_,y9 hb⟩]
   ·rwa[.inl (y7 hb)]
  ·by_cases hb:b=a
   ·have z':=(y9 hb).symm.trans z;cases z';subst hb;rwa[ha,by rw[a7]; exact hl,vs,_,rv,ha]
   ·have z':=(y7 hb).symm.trans z;cases z'
  ·by_cases hb:b=a
   ·rwa[hb]
   ·rwa[x5 (y7 hb) z]
end L2

namespace L2

end L2

namespace L2


abbrev CX0:CXT:=λ_ _ _ _ _ _=>False
abbrev E0:XK:=λ_ _ _=>False
def ZD{X:Cx} : gb CX0 X E0:=λ_ _ _ _ _ _ _ h=>h.elim

structure Fun(K:b7)(x qual:g8)(st:Ag)(f:b9)(fd:Aq):Prop where
 ex:∃(oc:c7)(od:Option b9)(kV doc pm:c7)(an:Option b9)(cdv ct:c7)(osl:Array (Option c7)),
  fd=An x qual (wC st) (xJ st) (zJ st) .none kV doc pm an cdv ct/\K.lookup f=Io ⟨oc,od,.func fd,osl⟩/\Ci K cdv qual=Iq
 kp:Au K (.ref f)=Iq
section
variable{P:j9}{w:n9}{K:b7}{mg:g8->Option c7}{base:o0}
def Fun.ok{x qual:g8}{st:Ag}{f:b9}{fd:Aq}{N ps:List g8}{k:Nat}{sp:Sp}(F:Fun K x qual st f fd)(S:zP N ps (zJ st))(len:∀ vs H Q E,sp vs H Q E->vs.length=ps.length)
  (hbody:∀(cdv:c7)(A:Ac)(outer:List Do)(s:d3)(H:Hp)(vs:List V)(Q:VK)(E:XK),qH k (A.deeper (envOfC qual (zJ st) s.heap.objs.size f cdv))->sp vs H Q E ->
   ∃ t,PSs (cxOf CX0 P w K mg base N qual (zJ st) f cdv A outer s H E).nox (xJ st) t/\t { nx:=λ_ H'=>Q .non H',rt:=Q } (start N vs) H):yX P w K mg base CX0 (k+1) f fd ps sp:=by
 obtain⟨oc,od,kV,doc,pm,an,cdv,ct,osl,rfl,lk,hcd⟩:=F.ex;erw[Th lk hcd S len λA outer s H vs Q E hr hsp=>?_];obtain⟨t,h,q⟩:=hbody cdv A outer s H vs Q E hr hsp;rwa[t,h.nox,q]
def Fun.binds{x qual:g8}{st:Ag}{f:b9}{fd:Aq}{ps:List g8}(F:Fun K x qual st f fd)
  (h:∀(kV doc pm:c7)(an:Option b9)(cdv ct:c7)(us:List c7),us.length=ps.length->bindArgs (An x qual (wC st) (xJ st) (zJ st) .none kV doc pm an cdv ct) ⟨us,[]⟩=pure (ps.zip us)):uw K fd ps []:=by
 obtain⟨oc,od,kV,doc,pm,an,cdv,ct,osl,rfl,lk,hcd⟩:=F.ex;rwa[.all (h kV doc pm an cdv ct)]
def bG{x qual:g8}{st:Ag}{f:b9}{oc:c7}{od an:Option b9}{osl:Array (Option c7)}{kV doc pm cdv ct:c7}(l:K.lookup f=Io ⟨oc,od,.func (An x qual (wC st) (xJ st) (zJ st) .none kV doc pm an cdv ct),osl⟩)
  (c:Ci K cdv qual=Iq) (k:Au K (.ref f)=Iq):Fun K x qual st f (An x qual (wC st) (xJ st) (zJ st) .none kV doc pm an cdv ct):=⟨⟨oc,od,kV,doc,pm,an,cdv,ct,osl,rfl,l,c⟩,k⟩
end
def zU{A:Ac}{k:Nat}(hr:qH k A):A.units+1<cLine:=CJ (Nat.add_le_add_left (by decide:1<=64) _) hr.units
def zT{n:Nat}(h:n<=1000):n<sizeLine:=CJ h (by decide)

section
variable{X:Cx}
def pv(i:Nat){x:g8}{pos:Co}(hN:X.N[i]?=Io x:=by rfl)(hv:Vis X.env.scope x:=by first | exact A4 rfl | exact Gd (A4 rfl) | exact Gd (Gd rfl))(hd:(x ==("__debug__" : g8))=false:=by decide)
  (hcd:(x ==("__classdict__" : g8))=false:=by decide):PE X (.Name x pos) (ZW i):=TL hN hv hd hcd
end

def yR{A B:Prop}(h:B):if Ir=Iq then A else B:=by
 rw[y7 h9];rwa[h]
def xV{A B:Prop}(h:A):if Iq=Iq then A else B:=by
 rw[y9 rfl];rwa[h]
def ite2{c A B:Prop}[Decidable c](h1:c->A)(h2:¬ c->B):if c then A else B:=by
 by_cases h:c
 ·rw[y9 h];rwa[h1 h]
 ·rw[y7 h];rwa[h2 h]
def Same(H H':Hp):Prop:=∀ b o,H b=Io o->H' b=Io o
def Same.refl(H:Hp):Same H H:=λ_ _ h=>h
def Same.trans{H H1 H2:Hp}(a:Same H H1)(b:Same H1 H2):Same H H2:=λc o h=>b c o (a c o h)
def Same.free{H H':Hp}(e:Same H H'){l:b9}(h:H' l=HY):H l=HY:=by
 cases q:H l with
 | none=>rfl
 | some o =>
  rw[e l o q] at h;cases h
def Same.seq{K:b7}{H H':Hp}{a:b9}{xs:List V}(e:Same H H')(h:SqL K H a xs):SqL K H' a xs:=by
 rcases h with (h | ⟨o,h⟩) | h
 ·rwa[.inl (.inl (e _ _ h))]
 ·rwa[.inl (.inr ⟨o,e _ _ h⟩)]
 ·rwa[.inr h]

end L2

namespace Sea
def qX(ns:List Int):Nat:=ns.foldl (λg n=>Cp g n.natAbs) 0
def dO:∀(ns:List Int)(g:Nat),ns.foldl (λg n=>Cp g n.natAbs) g ∣ g/\∀ n∈ns,ns.foldl (λg n=>Cp g n.natAbs) g ∣ n.natAbs
 | [],g=>⟨Nat.dvd_refl g,λ_ h=>nomatch h⟩
 | x::r,g=>by
  obtain⟨h1,h2⟩:=dO r (Cp g x.natAbs);erw[Hv h1 (Nat.gcd_dvd_left _ _),λn hn=>?_];rcases i7.mp hn with e | e
  ·rw[e];rwa[Hv h1 (Nat.gcd_dvd_right _ _)]
  ·rwa[h2 n e]
def wf{ns:List Int}{n:Int}(h:n∈ns):qX ns ∣ n.natAbs:=(dO ns 0).2 n h
def qB{ns:List Int}{n:Int}(h:n∈ns):(qX ns:Int) ∣ n:=Int.ofNat_dvd_left.mpr (wf h)
def eM{d:Nat} : ∀(ns:List Int)(g:Nat),d ∣ g->(∀ n∈ns,d ∣ n.natAbs)->d ∣ ns.foldl (λg n=>Cp g n.natAbs) g
 | [],_,h,_=>h
 | x::r,g,h,hr=>eM r _ (Nat.dvd_gcd h (hr x AK)) λn hn=>hr n (Ad _ hn)
def Yr{d:Nat}{ns:List Int}(h:∀ n∈ns,d ∣ n.natAbs):d ∣ qX ns:=eM ns 0 (Nat.dvd_zero d) h
def kB{ns:List Int}{n:Int}(h:n∈ns)(h0:n≠0):0<qX ns:=by
 rcases Nat.eq_zero_or_pos (qX ns) with e | e
 ·have q:=wf h;rw[e,Nat.zero_dvd] at q;lia
 ·rwa[e]
def bg(ns:List Int):List Int:=ns.map λn=>n/(qX ns:Int)
def qK{ns:List Int}{n:Int}(h:n∈ns):n/(qX ns:Int)*(qX ns:Int)=n:=Int.ediv_mul_cancel (qB h)
def iy{ns:List Int}(h:0<qX ns):qX (bg ns)=1:=by
 have key:qX ns*qX (bg ns) ∣ qX ns:=by
  erw[Yr λn hn=>?_];have h1:qX (bg ns) ∣ (n/(qX ns:Int)).natAbs:=wf (i4.mpr ⟨n,hn,rfl⟩);obtain⟨c,hc⟩:=h1;have h2:=congrArg Int.natAbs (qK hn);rw[GN,Int.natAbs_natCast,hc] at h2;rw[<- h2];rwa[c,by rw[FQ,Hw]]
 obtain⟨c,hc⟩:=key;have h3:qX ns*(qX (bg ns)*c)=qX ns*1:=by
  rw[<- Hw,<- hc,Nat.mul_one]
 have h4:=Nat.eq_of_mul_eq_mul_left h h3;rwa[Nat.dvd_one.mp ⟨c,h4.symm⟩]
def dD(x y:Int):qX [x,y]=Cp x.natAbs y.natAbs:=by
 show Cp (Cp 0 x.natAbs) y.natAbs=_;rw[Nat.gcd_zero_left]
structure XU(t b x y:Int):Prop where
 pos:1<=y
 low:Cp x.natAbs y.natAbs=1
 eq:x*b=y*t
 xle:x.natAbs<=t.natAbs
 yle:y.natAbs<=b.natAbs
def qJ(n:Int){g:Int}(hg:0<g)(h:g ∣ n):(n/g).natAbs<=n.natAbs:=by
 obtain⟨c,hc⟩:=h;subst hc;rw[Int.mul_ediv_cancel_left c (by lia),GN];rwa[Nat.le_mul_of_pos_left _ (by lia)]
def Ur(t:Int){b:Int}(hb:b≠0):∃ x y:Int,(bg (if b<0 then [t,b].map (λn=>-n) else [t,b]))=[x,y]/\XU t b x y:=by
 have key:∀(t b:Int),0<b->∃ x y:Int,bg [t,b]=[x,y]/\XU t b x y:=λt b hb=>by
  have gp:0<qX [t,b]:=kB (n:=b) (by simp) (by lia);have e1:=qK (ns:=[t,b]) (n:=t) (by simp);have e2:=qK (ns:=[t,b]) (n:=b) (by simp);have gI:(0:Int)<(qX [t,b]:Int):=by lia
  erw[t/(qX [t,b]:Int),b/(qX [t,b]:Int),U,?_,?_,?_,qJ t gI (qB (by simp)),qJ b gI (qB (by simp))]
  ·rwa[Int.ediv_pos_of_pos_of_dvd hb (Er gI) (qB (by simp))]
  ·have h3:=iy gp;rw[<- dD];rwa[h3]
  ·generalize (qX [t,b]:Int)=g at e1 e2
   calc t/g*b=t/g*(b/g*g):=by rw[e2]
    _=b/g*(t/g*g):=by rw[<- BO,<- BO,Es (t/g)]
    _=b/g*t:=by rw[e1]
 by_cases h:b<0
 ·rw[y9 h];obtain⟨x,y,e,p⟩:=key (-t) (-b) (by lia);refine⟨x,y,e,p.pos,p.low,?_,by have:=p.xle; lia,by have:=p.yle; lia⟩;have q:=p.eq;rw[Gv,Gv] at q;lia
 ·rw[y7 h];rwa[key t b (by lia)]
def dir_low{X Y:Int}(h:X≠0\/Y≠0):∃ x y:Int,bg [X,Y]=[x,y]/\0<qX [X,Y]/\(qX [X,Y]<=X.natAbs\/qX [X,Y]<=Y.natAbs)/\Cp x.natAbs y.natAbs=1/\x*Y-y*X=0/\0<x*X+y*Y/\x.natAbs<=X.natAbs/\y.natAbs<=Y.natAbs:=by
 have gp:0<qX [X,Y]:=by
  rcases h with h | h
  ·rwa[kB (n:=X) (by simp) h]
  ·rwa[kB (n:=Y) (by simp) h]
 have gI:(0:Int)<(qX [X,Y]:Int):=by lia
 have e1:=qK (ns:=[X,Y]) (n:=X) (by simp);have e2:=qK (ns:=[X,Y]) (n:=Y) (by simp);erw[X/(qX [X,Y]:Int),Y/(qX [X,Y]:Int),U,gp,?_,?_,?_,?_,qJ X gI (qB (by simp)),qJ Y gI (qB (by simp))]
 ·rcases h with h | h
  ·rwa[.inl (Hx (by lia) (wf (by simp)))]
  ·rwa[.inr (Hx (by lia) (wf (by simp)))]
 ·rw[<- dD];rwa[iy gp]
 ·generalize (qX [X,Y]:Int)=g at e1 e2;generalize X/g=x at e1;generalize Y/g=y at e2;rw[<- e1,<- e2,<- BO,<- BO,Es x y];lia
 ·generalize (qX [X,Y]:Int)=g at e1 e2 gI;have f1:0<=X/g*X:=by
   have:X/g*X=X/g*(X/g)*g:=by rw[BO,e1]
   rw[this];rwa[E5 (by rw[<- Cy]; exact CK _) (Er gI)]
  have f2:0<=Y/g*Y:=by
   have:Y/g*Y=Y/g*(Y/g)*g:=by rw[BO,e2]
   rw[this];rwa[E5 (by rw[<- Cy]; exact CK _) (Er gI)]
  rcases h with h | h
  ·have:X/g*X≠0:=Dg (λz=>h (by rw[<- e1,z,HR])) h;lia
  ·have:Y/g*Y≠0:=Dg (λz=>h (by rw[<- e2,z,HR])) h;lia
structure SpotOf(X Y W x y w:Int):Prop where
 pos:1<=w
 low:Cp (Cp x.natAbs y.natAbs) w.natAbs=1
 ex:x*W=X*w
 ey:y*W=Y*w
 xle:x.natAbs<=X.natAbs
 yle:y.natAbs<=Y.natAbs
 wle:w.natAbs<=W.natAbs
end Sea

namespace Sea
def Ue{a b:Int}(h:a≠0\/b≠0):1<=a*a+b*b:=by
 have s1:0<=a*a:=by rw[<- Cy]; rwa[CK _]
 have s2:0<=b*b:=by rw[<- Cy]; rwa[CK _]
 rcases h with h | h
 ·have:a*a≠0:=Dg h h;lia
 ·have:b*b≠0:=Dg h h;lia
end Sea

namespace Sea
end Sea

namespace L2

structure CC where
 C:b9
 s:d3
 H:Hp
 fp:List b9

def vn(env:Do):List (g8×Ch)->List (g8×b9)->List (g8×b9)
 | [],cs=>cs
 | (n,k)::r,cs=>vn env r (if (k == Aa)=Iq then(n,(env.cells.lookup n).getD 0)::cs else cs)
def ZV{scope:CL}{env:Do}(h:∀ x∈scope.names,x.2=.free->∃ c,env.cells.lookup x.1=Io c):closureFor scope env=pure (vn env scope.names []):=by
 simp only[closureFor];have key:∀(names:List (g8×Ch))(cs:List (g8×b9)),(∀ x∈names,x.2=.free->∃ c,env.cells.lookup x.1=Io c) ->
  (forIn names cs (λ(x:g8×Ch) (r:List (g8×b9))=>match x with | (name,kind)=>if (kind == Aa)=Iq then(do let a <- cellOf env name; pure (Br ((name,a)::r))) else pure (Br r)):GW (List (g8×b9)))=pure (vn env names cs):=by
  intro names
  induction names with
  | nil=>intro cs _; rfl
  | cons x r ih =>
   intro cs hx;obtain⟨n,k⟩:=x;rw[ED];have hr:=ih (if (k == Aa)=Iq then(n,(env.cells.lookup n).getD 0)::cs else cs) λy hy=>hx y (Ad _ hy);by_cases hk:(k == Aa)=Iq
   ·obtain⟨c,hc⟩:=hx (n,k) AK (by simpa using hk);have e:cellOf env n=pure c:=by unfold cellOf; rw[hc]
    rw[y9 hk] at hr;have hc':env.cells.lookup n=Io c:=hc;rw[hc'] at hr;show(((if (k == Aa)=Iq then(do let a <- cellOf env n; pure (Br ((n,a)::cs))) else pure (Br cs)):GW _) >>= _)=_;rw[y9 hk,e];erw[Eq.trans ?_ (hr.trans ?_)]
    ·rfl
    ·rw[vn,y9 hk,hc']
   ·rw[y7 hk] at hr;show(((if (k == Aa)=Iq then(do let a <- cellOf env n; pure (Br ((n,a)::cs))) else pure (Br cs)):GW _) >>= _)=_;rw[y7 hk];erw[Eq.trans ?_ (hr.trans ?_)]
    ·rfl
    ·rw[vn,y7 hk]
 rwa[congrArg (λ(z:GW (List (g8×b9)))=>z >>= λcs=>pure cs) (key scope.names [] h)]
def qM{env:Do} : ∀(names:List (g8×Ch))(cs:List (g8×b9)),(∀ x∈names,x.2=.free->∃ c,env.cells.lookup x.1=Io c) ->
  (∀ x c,cs.lookup x=Io c->env.cells.lookup x=Io c)->∀ x c,(vn env names cs).lookup x=Io c->env.cells.lookup x=Io c
 | [],_,_,hc=>hc
 | (n,k)::r,cs,h,hc=>by
  erw[qM r _ (λy hy=>h y (Ad _ hy)) λx c=>?_];by_cases hk:(k == Aa)=Iq
  ·rw[y9 hk];obtain⟨d,hd⟩:=h (n,k) AK (by simpa using hk);have hd':env.cells.lookup n=Io d:=hd;intro e;rw[p9] at e;cases hx:x == n with
   | true =>
    rw[hx,hd'] at e;have ex:x=n:=by simpa using hx
    rw[ex,hd'];rwa[e]
   | false =>
    rw[hx] at e;rwa[hc x c e]
  ·rw[y7 hk];rwa[hc x c]
def nQ{env:Do} : ∀(names:List (g8×Ch))(cs:List (g8×b9))(x:g8),((x,Aa)∈names\/∃ c,cs.lookup x=Io c)->∃ c,(vn env names cs).lookup x=Io c
 | [],_,_,h=>h.elim (λz=>nomatch z) id
 | (n,k)::r,cs,x,h=>by
  erw[nQ r _ x ?_];by_cases hk:(k == Aa)=Iq
  ·rw[y9 hk];cases hx:x == n with
   | true=>rwa[.inr ⟨_,by rw[p9,hx]⟩]
   | false =>
    rcases h with h | ⟨c,h⟩
    ·rcases i7.mp h with e | e
     ·injection e with e1 _
      subst e1;simp at hx
     ·rwa[.inl e]
    ·rwa[.inr ⟨c,by rw[p9,hx]; exact h⟩]
  ·rw[y7 hk];rcases h with h | h
   ·rcases i7.mp h with e | e
    ·injection e with _ e2
     subst e2;rwa[x5 rfl hk]
    ·rwa[.inl e]
   ·rwa[.inr h]
def qk{env:Do} : ∀{names:List (g8×Ch)}{x:g8},names.lookup x=Io .free ->
  (names.map λ(n,k)=>if (k == Aa&&env.scope.kind == .function&&env.kindOf n == Io .cell) then(n,B7) else(n,k)).lookup x=Io .cell \/
  (names.map λ(n,k)=>if (k == Aa&&env.scope.kind == .function&&env.kindOf n == Io .cell) then(n,B7) else(n,k)).lookup x=Io .free
 | [],_,h=>by simp at h
 | (n,k)::r,x,h=>by
  have ih:=@qk env r x;show Ae x ((if (k == Aa&&env.scope.kind == .function&&env.kindOf n == Io .cell)=Iq then(n,B7) else(n,k))::_)=_\/Ae x ((if (k == Aa&&env.scope.kind == .function&&env.kindOf n == Io .cell)=Iq then(n,B7) else(n,k))::_)=_;by_cases hc:(k == Aa&&env.scope.kind == .function&&env.kindOf n == Io .cell)=Iq
  ·rw[y9 hc];cases hx:x == n with
   | true=>rwa[.inl (by rw[p9,hx])]
   | false =>
    rw[p9,hx] at h;rw[p9,hx];rwa[ih h]
  ·rw[y7 hc];cases hx:x == n with
   | true =>
    rw[p9,hx] at h;rwa[.inr (by rw[p9,hx]; exact h)]
   | false =>
    rw[p9,hx] at h;rw[p9,hx];rwa[ih h]
def yj{env:Do} : ∀{names:List (g8×Ch)}{x:g8}{j:Ch},(∀ y∈names,y.2≠.cell)->(j=.cell\/j=.free) ->
  (names.map λ(n,k)=>if (k == Aa&&env.scope.kind == .function&&env.kindOf n == Io .cell) then(n,B7) else(n,k)).lookup x=Io j->(x,Aa)∈names
 | [],_,_,_,_,h=>by simp at h
 | (n,k)::r,x,j,hn,hj,h=>by
  have ih:=@yj env r x j (λy hy=>hn y (Ad _ hy)) hj;have hk0:k≠.cell:=hn (n,k) AK
  replace h:Ae x ((if (k == Aa&&env.scope.kind == .function&&env.kindOf n == Io .cell)=Iq then(n,B7) else(n,k))::(r.map λ(n,k)=>if (k == Aa&&env.scope.kind == .function&&env.kindOf n == Io .cell) then(n,B7) else(n,k)))=Io j:=h
  by_cases hc:(k == Aa&&env.scope.kind == .function&&env.kindOf n == Io .cell)=Iq
  ·rw[y9 hc] at h;have hf:k=.free:=by
    simp only[p5] at hc;simpa using hc.1.1
   cases hx:x == n with
   | true =>
    have ex:x=n:=by simpa using hx
    subst ex;rw[<- hf];rwa[AK]
   | false =>
    rw[p9,hx] at h;rwa[Ad _ (ih h)]
  ·rw[y7 hc] at h;cases hx:x == n with
   | true =>
    rw[p9,hx] at h;have ex:x=n:=by simpa using hx
    have ek:k=j:=o9 h;subst ex;rcases hj with hj | hj
    ·rwa[x5 (ek.trans hj) hk0]
    ·rw[<- hj,<- ek];rwa[AK]
   | false =>
    rw[p9,hx] at h;rwa[Ad _ (ih h)]

def uQ(X:Cx)(N:List g8)(scope:CL)(c:CC):Cx where
 prog:=X.prog
 w:=X.w
 K:=X.K
 mg:=X.mg
 base:=X.base
 A:=X.A
 N:=N
 s₀:=c.s
 H₀:=c.H
 env:=compEnvC scope (vn X.env scope.names []) c.C X.env
 outer:=X.stack
 stack:=X.stack
 ex:=c.fp
 fn:=λ_=>Ir
 calm:=X.calm
 pn:=[]
 xe:=λ_ _=>False

def mP(X:Cx)(scope:CL):List (g8×Nat)->Prop
 | []=>True
 | p::r=>(X.N[p.2]?=Io p.1/\scope.names.lookup p.1=Io .free/\(X.env.kindOf p.1=Io .cell\/X.env.kindOf p.1=Io .free))/\mP X scope r
def mP.mem{X:Cx}{scope:CL} : ∀{caps:List (g8×Nat)},mP X scope caps->∀ p∈caps,X.N[p.2]?=Io p.1/\scope.names.lookup p.1=Io .free/\(X.env.kindOf p.1=Io .cell\/X.env.kindOf p.1=Io .free)
 | [],_,_,h=>nomatch h
 | q::r,h,p,hp=>by
  rcases i7.mp hp with e | e
  ·rw[e]; rwa[h.1]
  ·rwa[mP.mem h.2 p e]
structure yo(X:Cx)(caps:List (g8×Nat))(scope:CL):Prop where
 kind:scope.kind=.function
 nocell:∀ y∈scope.names,y.2≠.cell
 loc:∀ y∈scope.names,y.2=.local->scope.names.lookup y.1=Io .local
 clos:(scope.names.all λx=>!(x.2 == .free)||(X.env.cells.lookup x.1).isSome)=Iq
 cap:mP X scope caps
def yo.cells{X:Cx}{caps:List (g8×Nat)}{scope:CL}(S:yo X caps scope):∀ x∈scope.names,x.2=.free->∃ c,X.env.cells.lookup x.1=Io c:=λx hx hf=>by
 have h:=Ah.mp S.clos x hx;rw[hf] at h;simp only[EF] at h;rcases h with h | h
 ·rwa[x5 h (by decide)]
 ·rwa[k9.mp h]

def cK(caps:List (g8×Nat))(nt:Nat)(σ:St):St:=t9 nt Ip++caps.map λp=>(σ[p.2]?).join

def TY(Y:Cx)(ifs:List w4)(t:TT):Prop :=
 ∀(Is:List (b9×AM))(s:d3)(σ:St)(H:Hp)(Q:Bool->Hp->Prop),Inv Y Is σ H s->t σ H Q ->
  wpAny (model Y.prog Y.w) Y.A (forIn ifs Iq λc r=>if r=Iq then do let ok <- isTrue c Y.env (eval c Y.env); pure (Br ok) else pure (Br r)) (TP Y Is σ Q) Y.xe s
def Vj:TT:=λ_ H Q=>Q Iq H
def xX{Y:Cx} : TY Y [] Vj:=λ_ _ _ H _ I h=>wpAny_tests_nil ⟨H,I,h⟩
def YF{Y:Cx}{c:w4}{t:TT}(h:PT Y c t):TY Y [c] t:=λIs s σ H Q I q=>wpAny_tests_one (h Is s σ H Q I q)

def ua(J:It)(D:b9)(g:TG)(tt:TT)(te:TE)(σ0:St)(H1:Hp)(Q:VK):Prop :=
 ∃ W:Nat->Nat->St->List V->Hp->Prop,(∃ m,W 0 m σ0 [] (upd H1 D (.lst [])))/\∀ i m σ ys H,W i m σ ys H->H D=Io (.lst ys) /\
  ((J.stop i H/\Q (.ref D) H)\/(J.go i H/\∃ N:St->List V->Hp->Prop,(∀ σ' zs H',N σ' zs H'->∃ m',m'<m/\W (i+1) m' σ' zs H')/\∀ x H',J.yld i H x H'->g x σ H' λσ2 H2=>tt σ2 H2 λb H3 =>
   if b=Iq then te σ2 H3 λy H4=>H4 D=Io (.lst ys)/\ys.length<sizeLine/\N σ2 (ys++[y]) (upd H4 D (.lst (ys++[y]))) else N σ2 ys H3))
def Tl(nt:Nat)(caps:List (g8×Nat))(wi:TI)(g:CC->TG)(tt:CC->TT)(te:CC->TE):TE:=λσ H Q =>
 wi σ H λJ H1=>∀(c:CC)(D:b9),H1 D=Ip->ua J D (g c) (tt c) (te c) (cK caps nt σ) H1 Q

def eK{α:Type}{t:GW α}{Q Q':α->d3->Prop}{M:HG}{A:Ac}{E:c7->d3->Prop}{s:d3}(h:wpAny M A t Q (λ_ _=>False) s)(hQ:∀ a s,Q a s->Q' a s):wpAny M A t Q' E s:=Ba h hQ λ_ _ x=>x.elim
def Un.same{fs ex:List b9}{H H':Hp}{h h1 h2:o0}{C:b9}(u:Un fs ex H H' h h1)(sb:A3 C h1 h2)(hC:h.get? C=Ip):Un fs ex H H' h h2:=by
 have ne:∀ b o,h.get? b=Io o->b≠C:=λb o e z=>by rw[z,hC] at e; cases e
 erw[λb o e n hb hx=>(sb.2 b (ne b o e)).trans (u.keep b o e n hb hx),λb o e n hb hx=>?_,u.free,λb o e hx=>?_,u.tups,u.frzs,u.tbls]
 ·obtain⟨sl,q⟩:=u.slot b o e n hb hx;rwa[sl,(sb.2 b (ne b o e)).trans q]
 ·obtain⟨o',q⟩:=u.there b o e hx;rwa[o',(sb.2 b (ne b o e)).trans q]
def HOk.same{P:j9}{w:n9}{H:Hp}{h h':o0}{C:b9}(k:HOk P w H h)(sb:A3 C h h')(hC:H C=Ip):HOk P w H h':=λb o e=>by
 refine(k b o e).stay (λc v hc q=>(sb.2 c ?_).trans q) (λ_ q=>q) λ_ _ q=>q;rintro rfl;rcases hc with z | z
 ·rw[z,e] at hC; cases hC
 ·rw[hC] at z; cases z

section
variable{X:Cx}{T:List g8}{caps:List (g8×Nat)}{scope:CL}{elt target iter:w4}{ifs:List w4}{pos:Co}{wi:TI}{g:CC->TG}{tt:CC->TT}{te:CC->TE}

def mF{Is:List (b9×AM)}{σ:St}{H2:Hp}{s2:d3}{fp:List b9}{C D:b9}{h1:o0}{tk:Nat}{m:g8->Option c7}(S:yo X caps scope)(I2:Inv X Is σ H2 s2)(f2:∀ b∈fp,fT X Is H2 b)
  (hfp:∀ b∈fp,b<s2.heap.objs.size) (hD:s2.heap.objs.size<=D) (hC:s2.heap.objs.size<=C) (hDC:C≠D) (old:∀ b o,s2.heap.get? b=Io o->h1.get? b=Io o)
  (acc:∃ n,h1.get? D=Io { cls:=.type "list",data:=.seq ([]:List c7).toArray n }) (hn:h1.Ns C m) :
  Inv (uQ X (T++caps.map (·.1)) scope ⟨C,s2,H2,fp⟩) [] (cK caps T.length σ) (upd H2 D (.lst [])) { s2 with heap:=h1,toks:=tk }:=by
 have cs:=qM (env:=X.env) scope.names [] S.cells (λ_ _ z=>by cases z);have cellOld:∀ x c,X.env.cells.lookup x=Io c->c<s2.heap.objs.size:=λx c e=>by
  obtain⟨v,q⟩:=I2.cell x c e;rwa[q.lt]
 have stkNo:∀ b∈fp,b ∉ frs X.stack:=λb hb z=>by
  rcases i7.mp (I2.stkSub b z) with e | e
  ·exact(f2 b hb).2.1 e
  ·exact(f2 b hb).2.2.1 e
 have fr:H2 D=none:=I2.hok.fresh hD;refine⟨⟨I2.ok.mod,S.kind,I2.ok.glob,I2.ok.blt,hC,λx y c e1 e2=>I2.ok.inj x y c (cs x c e1) (cs y c e2),λx hx=>?_,λ_ _ z=>x5 (show Ir=Iq from z) h9,I2.ok.hd,I2.ok.frames,.inl rfl,λb hb=>⟨?_,λx c e=>(f2 b hb).2.2.2.2.1 x c (cs x c e)⟩,
  λb o e=>I2.bs b o e,j7 I2.ok.bsz I2.sz,λb o e hb=>?_,stkNo,I2.stack,I2.stkFree⟩,rfl,I2.bare,?_,⟨m,hn,λi x v e1 e2 e3=>?_⟩,λx c e=>?_,?_,λx c e=>?_,λp hp=>x5 (show p∈([]:List (b9×AM)) from hp) (by simp),?_,?_⟩
 ·have hx':(x,Aa)∈scope.names:=by
   rcases hx with z | z
   ·rwa[yj S.nocell (.inl rfl) z]
   ·rwa[yj S.nocell (.inr rfl) z]
  rwa[nQ scope.names [] x (.inl hx')]
 ·rwa[l6 (m5 (hfp b hb) hC)]
 ·rcases (f2 b hb).2.2.2.1 with z | z
  ·rwa[I2.ok.noex b o e z]
  ·exact x5 (m5 (f9 (show X.base.get? b=Io o from e)) (j7 I2.ok.bsz z)) (Be _)
 ·rwa[Un.laid old hD fr]
 ·have hlt:¬ i<T.length:=λhi=>by
   unfold cK at e2;rw[A7 (by simpa using hi),CM,y9 hi] at e2;cases e2
  have hge:T.length<=i:=Gc hlt;have e1':(T++caps.map (·.1))[i]?=Io x:=e1;rw[Ay hge,e7] at e1';unfold cK at e2;rw[Ay (by simpa using hge),AQ,e7] at e2;cases hp:caps[i-T.length]? with
  | none=>rw[hp] at e1'; cases e1'
  | some p =>
   rw[hp] at e1' e2;have ex:p.1=x:=o9 e1';have ev:(σ[p.2]?).join=Io v:=o9 e2;obtain⟨hN,hf,hk⟩:=S.cap.mem p (j5 hp);have ev':σ[p.2]?=Io (Io v):=by
    cases hq:σ[p.2]? with
    | none=>rw[hq] at ev; cases ev
    | some o =>
     rw[hq] at ev;rwa[congrArg Io ev]
   obtain⟨m2,_,hl2⟩:=I2.loc;obtain⟨u,ru,l⟩:=hl2 p.2 p.1 v hN ev' (hk.elim (λz=>.inr (.inl z)) λz=>.inr (.inr z));erw[u,ru,.inr ⟨?_,?_⟩]
   ·rw[<- ex];rwa[qk (env:=X.env) hf]
   ·rcases l with ⟨kl,_⟩ | ⟨_,c,ec,hcell⟩
    ·rcases hk with z | z <;>(rw[kl] at z; cases z)
    ·obtain⟨d,hd⟩:=nQ (env:=X.env) scope.names [] p.1 (.inl (Bt hf));have hd':=cs p.1 d hd;rw[ec] at hd';cases hd';obtain⟨o,ho,hod⟩:=hcell;rwa[c,by rw[<- ex]; exact hd,o,old c o ho,hod]
 ·obtain⟨v,o,ho,hd⟩:=I2.cell x c (cs x c e);rwa[v,o,old c o ho,hd]
 ·show upd H2 D (.lst []) C=Ip;rw[zH hDC];rwa[I2.hok.fresh hC]
 ·show upd H2 D (.lst []) c=Ip;rw[zH (l6 (m5 (cellOld x c (cs x c e)) hD))];rwa[I2.freeC x c (cs x c e)]
 ·obtain⟨n,e⟩:=acc;rwa[I2.hok.laid old hD ⟨t7 _,[],n,.nil,e⟩]
 ·show(cK caps T.length σ).length=(T++caps.map (·.1)).length;unfold cK;rw[f8,f8,a7,a7,AQ]

def vA(S:yo X caps scope)(hc:X.calm=Iq)(hi:PI X target iter wi)(hg:∀ c,PG (uQ X (T++caps.map (·.1)) scope c) target (g c))(ht:∀ c,TY (uQ X (T++caps.map (·.1)) scope c) ifs (tt c))(he:∀ c,PE (uQ X (T++caps.map (·.1)) scope c) elt (te c))
  (hs:∀ x,foldedSetIterable iter X.env x=pure x:=by intro _; rfl):PE X (.ListComp elt [⟨target,iter,ifs,0⟩] scope pos) (Tl T.length caps wi g tt te):=by
 intro Is s σ H Q I h;rw[eval_ListComp];erw[D5 (use:=Ip) rfl hs (ZV S.cells) S.kind S.loc (thn (hi Is s σ H _ I h) λv s1 h1=>thn h1 λitv s2 h2=>?_)];obtain⟨it,fp,tn,J,H2,e,I2,TT,st2,f2,q2⟩:=h2;subst e;refine t6 (E6 S.nocell (by intro y hy; simp at hy) (λh1 hn hsb=>?_) S.kind);dsimp only at hn hsb ⊢;generalize hg2:s2.heap.push { cls:=.type "list",dict:=Ip,data:=.seq ([]:List c7).toArray }=G at hn hsb ⊢;have hCv:G.objs.size=s2.heap.objs.size+1:=by rw[<- hg2,Bh]
 have hDC:G.objs.size≠s2.heap.objs.size:=by rw[hCv]; rwa[Ge _]
 have hCle:s2.heap.objs.size<=G.objs.size:=by rw[hCv]; rwa[BM _]
 have old:∀ b o,s2.heap.get? b=Io o->h1.get? b=Io o:=λb o e=>hsb.extBut b o (l6 (m5 (f9 e) hCle)) (c9 _ (hg2 ▸ c9 _ e));have hacc:∃ n,h1.get? s2.heap.objs.size=Io { cls:=.type "list",data:=.seq ([]:List c7).toArray n }:=⟨_,hsb.extBut _ _ (AJ hDC) (c9 _ (hg2 ▸ d9 _ rfl))⟩;have hfp:∀ b∈fp,b<s2.heap.objs.size:=λb hb=>by
  obtain⟨o,e,_⟩:=TT.obj _ _ st2 b hb;rwa[f9 e]
 have cs:=qM (env:=X.env) scope.names [] S.cells (λ_ _ z=>by cases z);have I0:=mF (T:=T) (tk:=s2.toks+([]:List (g8×c7)).length) S I2 f2 hfp (d6 _) hCle hDC old hacc hn;have st0:tn 0 h1:=TT.keep _ _ _ st2 λb _ o e=>old b o e;obtain⟨W,⟨m0,w0⟩,turn⟩:=q2 ⟨G.objs.size,s2,H2,fp⟩ s2.heap.objs.size (I2.hok.fresh (d6 _));have fr0:∀ b∈fp,upd H2 s2.heap.objs.size (.lst []) b=none:=λb hb=>by
  rw[zH (l6 (hfp b hb))];exact(f2 b hb).1
 have stat:∀{H':Hp},(∀ b∈fp,H' b=Ip)->∀ b∈fp,fT (uQ X (T++caps.map (·.1)) scope ⟨G.objs.size,s2,H2,fp⟩) [] H' b:=λ{H'} hn' b hb =>
  ⟨hn' b hb,l6 (m5 (hfp b hb) hCle),I0.ok.exfs b hb,.inl hb,λx c e=>(f2 b hb).2.2.2.2.1 x c (cs x c e),λp hp=>x5 (show p∈([]:List (b9×AM)) from hp) (by simp)⟩
 have loop:codeAny (model X.prog X.w) X.A (.compLoop (.ListComp elt [⟨target,iter,ifs,0⟩] scope pos) 0 (.ref it) (.ref s2.heap.objs.size) (compEnvC scope (vn X.env scope.names []) G.objs.size X.env))
   (compPost (model X.prog X.w) X.A X.xe Ip (EP X Is σ Q) (.ref s2.heap.objs.size) G.objs.size) { s2 with heap:=h1,toks:=s2.toks+([]:List (g8×c7)).length }:=by
  erw[codeAny_loop rfl (λn s'=>∃ i σ' ys H',Inv (uQ X (T++caps.map (·.1)) scope ⟨G.objs.size,s2,H2,fp⟩) [] σ' H' s'/\tn i s'.heap/\(∀ b∈fp,H' b=Ip)/\W i n σ' ys H') (λn s3 hI=>?_) m0 ⟨0,_,[],_,I0,st0,fr0,w0⟩];obtain⟨i,σ3,ys,H3,I3,st3,fr3,w3⟩:=hI;show wpAny _ X.A ((compTurn (.ListComp elt [⟨target,iter,ifs,0⟩] scope pos) 0 (.ref it) (.ref s2.heap.objs.size) (compEnvC scope (vn X.env scope.names []) G.objs.size X.env)).onRaise (λx=>do noteFrame x (compEnvC scope (vn X.env scope.names []) G.objs.size X.env); theTreesLotGoes x)) _ _ s3;erw[wpAny_noted ?_];rw[compTurn_list];erw[ac (C4 (ac ?_))];obtain⟨hD3,turn3⟩:=turn i n σ3 ys H3 w3;rcases turn3 with ⟨stop,qn⟩ | ⟨go,N,hN,step⟩
  ·erw[eK (TT.done (uQ X (T++caps.map (·.1)) scope ⟨G.objs.size,s2,H2,fp⟩) rfl rfl rfl hc i [] s3 σ3 H3 _ I3 (stat fr3) st3 stop) λr s4 ⟨hr,I4⟩=>?_];subst hr;erw[d7 ?_];show ∃ m,s4.heap.Ns G.objs.size m/\∀ h',A3 G.objs.size s4.heap h'->EP X Is σ Q (.ref s2.heap.objs.size) { s4 with heap:=h' };obtain⟨m4,hn4,_⟩:=I4.loc;erw[m4,hn4,λh' sb=>⟨.ref s2.heap.objs.size,H3,?_,U,qn⟩];refine I2.call' (s':={ s4 with heap:=h' }) (ch:=fp) I4.os (Un.same I4.base sb (C6 hCle)) (HOk.same I4.hok sb I4.free) I4.bare λb hb=>?_;obtain⟨_,f1,_,f3,f4,f5⟩:=f2 b hb;rwa[f3,f1,f4,f5]
  ·refine eK (TT.item (uQ X (T++caps.map (·.1)) scope ⟨G.objs.size,s2,H2,fp⟩) rfl rfl rfl hc i [] s3 σ3 H3 _ I3 (stat fr3) st3 go) λr s4 ⟨u,hr,h4⟩=>?_;subst hr;refine ac (eK h4 λ_ s5 ⟨x,H5,I5,r5,y5,st5,fr5⟩=>?_);have I5':=I5.pinned (stat fr5) (TT.obj _ _ st5);refine ac (eK (hg _ _ s5 σ3 H5 x u _ I5' r5 (step x H5 y5)) λ_ s6 ⟨σ6,H6,I6,q6⟩=>?_);have again:∀{s7:d3}{σ7:St}{zs:List V}{H7:Hp},Inv (uQ X (T++caps.map (·.1)) scope ⟨G.objs.size,s2,H2,fp⟩) ([]++mW fp s5.heap) σ7 H7 s7->N σ7 zs H7 ->
     ∃ m,m<n/\∃ i σ' ys H',Inv (uQ X (T++caps.map (·.1)) scope ⟨G.objs.size,s2,H2,fp⟩) [] σ' H' s7/\tn i s7.heap/\(∀ b∈fp,H' b=Ip)/\W i m σ' ys H':=λ{s7 σ7 zs H7} I7 n7=>by
    obtain⟨m',hm,w7⟩:=hN σ7 zs H7 n7;erw[m',hm,i+1,σ7,zs,H7,I7.unpinned,TT.keep _ _ _ st5 λb hb o e=>(I7.pin (b,o) (o6 _ (o6 _ (tZ hb e)))).1,λb hb=>?_,w7];obtain⟨o,e,d⟩:=TT.obj _ _ st5 b hb;exact(I7.pin (b,o) (o6 _ (o6 _ (tZ hb e)))).2.1
   erw[ac (eK (ht _ _ s6 σ6 H6 _ I6 q6) λok s7 ⟨H7,I7,q7⟩=>?_)];cases ok with
   | false=>rwa[d7 ⟨rfl,again I7 q7⟩]
   | true =>
    erw[ac (ac (eK (he _ _ s7 σ6 H7 _ I7 q7) λy s8 ⟨yv,H8,I8,r8,hD8,hl8,q8⟩=>?_))];erw[ac (eK (oM _ s8 σ6 H8 (.ref s2.heap.objs.size) [yv] (.ref s2.heap.objs.size) [y] (λ_ H9=>N σ6 (ys++[yv]) H9) I8 rfl (.cons r8 .nil) ⟨_,ys,yv,rfl,rfl,hD8,hl8,q8⟩) λ_ s9 ⟨_,H9,I9,_,q9⟩=>?_)];rwa[d7 (d7 ⟨rfl,again I9 q9⟩)]
 rwa[codeAny_compStart_list loop (TT.self _ 0 _ _ _ st0 loop)]
end
end L2

namespace L2

def uF:bootBuiltins "len" = Io (.builtin "len"):=by ac_nf
def UF:bootBuiltins "abs" = Io (.builtin "abs"):=by ac_nf
def qp:bootBuiltins "all" = Io (.builtin "all"):=by ac_nf
def Wq:bootBuiltins "any" = Io (.builtin "any"):=by ac_nf
def Td:bootBuiltins "max" = Io (.builtin "max"):=by ac_nf
def Ub:bootBuiltins "min" = Io (.builtin "min"):=by ac_nf
def zV:bootBuiltins "isinstance" = Io (.builtin "isinstance"):=by ac_nf
def aM:bootBuiltins "int" = Io (.type "int"):=by ac_nf
def ZK:bootBuiltins "bool" = Io (.type "bool"):=by ac_nf
def Ws:bootBuiltins "str" = Io (.type "str"):=by ac_nf
def qT:bootBuiltins "list" = Io (.type "list"):=by ac_nf
def fZ:bootBuiltins "tuple" = Io (.type "tuple"):=by ac_nf
def Ui:bootBuiltins "zip" = Io (.type "zip"):=by ac_nf

def Has(P:j9)(w:n9)(K:b7)(mg:g8->Option c7)(base:o0)(x:g8)(n:Nat)(ps:List g8)(sp:Sp):Prop :=
 ∃(f:b9)(fd:Aq),yX P w K mg base CX0 n f fd ps sp/\uw K fd ps []/\Au K (.ref f)=Iq/\mg x=Io (.ref f)
section
variable{X:Cx}{x:g8}{p pos:Co}{e:w4}{es:List w4}{t:TA}{n:Nat}{ps:List g8}{sp:Sp}
def uW(h:Has X.prog X.w X.K X.mg X.base x n ps sp)(hr:qH n X.A)(hg:Gl X x)(ha:PA X (e::es) t)(hdb:(x ==("__debug__" : g8))=false:=by decide)
  (he:starEach (e::es) X.env=(Ir,eval e X.env)::starEach es X.env:=by rfl) (hpl:(backTo pos (starEach es X.env)).any (·.1)=false:=by rfl):PE X (.Call (.Name x p) (e::es) [] pos) (cg sp [] E0 t):=by
 obtain⟨f,fd,F,b,k,m⟩:=h;rwa[WE F hr hg m k b .nil ZD ha hdb he hpl]
end

section
variable{X:Cx}
def um(i j:Int):Prop:=0<j/\j.natAbs<2^4096
def Yw:OpR X (binaryOp .FloorDiv) (rI um λi j=>.int (i/j)):=opI λi j _ _ _ _ _ hc q=>by
 have h1:(0:Int)<j:=hc.1;have h3:j.natAbs.log2<9000:=Bf ((Gw (by lia)).mpr hc.2) (by decide);rwa[floordiv_int (by lia) (by rw[Int.fdiv_eq_ediv_of_nonneg i (by lia)]; exact q) (.inl (PyProof.noPylong_of_log2 h3))]
def um.of{i j:Int}(h:0<j)(h2:j<10^600):um i j:=by
 exists h;have e:(10:Nat)^600<2^4096:=by ac_nf
 lia
def fO:uK X (.builtin "isinstance") (λxs H Q=>∃ x T t b,xs=[x,.ty T]/\TyOf X.K H x t/\AS X.K t (.type T)=Io b/\Q (.bl b) H):=by
 intro Is s σ H xs us Q I r h;obtain⟨x,T,t,b,rfl,ty,e,q⟩:=h;obtain⟨u,v,rfl,ru,rv⟩:=yO.two r;cases rv;rwa[jk I ru ty e λtk=>⟨.bl b,H,I.tok tk,rfl,q⟩]

def Sq(K:b7)(H:Hp)(p:b9)(xs:List V):Prop:=SqL K H p xs\/SqT K H p xs
inductive RIx(K:b7)(x y:V)(H:Hp)(Q:VK):Prop where
 | mk (p:b9) (xs:List V) (i:Int) (v:V) (ex:x=.ref p) (ey:y=.int i) (sq:Sq K H p xs) (at':atI xs i=Io v) (q:Q v H)
def rIxA(K:b7):R2:=λx y H Q=>RIx K x y H Q
def iF:IxR X (rIxA X.K):=by
 intro value slice Is s σ H x y v u Q I rx ry q hs;obtain⟨p,xs,i,z,e1,e2,hq,ha,q⟩:=q;rcases hq with hq | hq
 ·rwa[Vw value slice Is s σ H x y v u Q I rx ry ⟨p,xs,i,z,e1,e2,hq,ha,q⟩ hs]
 ·rwa[UH value slice Is s σ H x y v u Q I rx ry ⟨p,xs,i,z,e1,e2,hq,ha,q⟩ hs]
def iSeq(K:b7)(tl:TE):TI:=λσ H R=>tl σ H λx H1=>∃ a,x=.ref a/\(((∃ xs,SqL K H1 a xs)/\R (Itl K a) H1)\/((∃ xs,SqT K H1 a xs)/\R (Itt K a) H1))
def eF{tg l:w4}{tl:TE}(hl:PE X l tl):PI X tg l (iSeq X.K tl):=by
 intro Is s σ H R I h;refine thn (hl Is s σ H _ I h) λv s1 ⟨x,H1,I1,r1,q1⟩=>?_;obtain⟨a,e,q⟩:=q1;subst e;cases r1;have own:∀ b,b∈[s1.heap.objs.size]->fT X Is H1 b:=λb hb=>by
  rw[d8] at hb;subst hb;rwa[I1.fpOk (d6 _) (I1.hok.fresh (d6 _))]
 rcases q with ⟨⟨xs,hq⟩,q⟩ | ⟨⟨xs,hq⟩,q⟩
 ·obtain⟨its,rv,p,hz⟩:=I1.list hq;rwa[BL p.isList ⟨s1.heap.objs.size,[s1.heap.objs.size],_,_,H1,rfl,I1.kept (t':=s1.toks) λb o e=>c9 _ e,jd a _,⟨_,d9 _ rfl,rfl,rfl⟩,own,q⟩]
 ·obtain⟨its,rv,p,hz⟩:=I1.tuple hq;exact DC (show s1.heap.IsTuple a its.toArray from p) ⟨s1.heap.objs.size,[s1.heap.objs.size],_,_,H1,rfl,I1.kept (t':=s1.toks) λb o e=>c9 _ e,mO a _,⟨_,d9 _ rfl,rfl,rfl⟩,own,q⟩
end

section
variable{K:b7}{a D:b9}{xs:List V}{g:TG}{tt:TT}{te:TE}{σ0:St}{H1:Hp}{Q:VK}
def ar(Pv:Nat->St->List V->Hp->Prop)(h0:Pv 0 σ0 [] (upd H1 D (.lst [])))(hl:∀ i σ ys H,i<=xs.length->Pv i σ ys H->SqL K H a xs/\H D=Io (.lst ys))
  (hs:∀ i x σ ys H,xs[i]?=Io x->Pv i σ ys H->g x σ H λσ2 H2=>tt σ2 H2 λb H3 =>
   if b=Iq then te σ2 H3 λy H4=>H4 D=Io (.lst ys)/\ys.length<sizeLine/\Pv (i+1) σ2 (ys++[y]) (upd H4 D (.lst (ys++[y]))) else Pv (i+1) σ2 ys H3)
  (hd:∀ σ ys H,Pv xs.length σ ys H->Q (.ref D) H):ua (Itl K a) D g tt te σ0 H1 Q:=by
 exists λi m σ ys H=>m=xs.length-i/\i<=xs.length/\Pv i σ ys H,⟨xs.length,by simp,t7 _,h0⟩;rintro i m σ ys H ⟨rfl,hi,p⟩;obtain⟨q,qd⟩:=hl i σ ys H hi p;exists qd;by_cases hlt:i<xs.length
 ·erw[.inr ⟨⟨xs,xs[i],q,by simp[hlt]⟩,Pv (i+1),λσ' zs H' z=>⟨xs.length-(i+1),by lia,rfl,hlt,z⟩,λx H' y=>?_⟩];obtain⟨e,y⟩:=y;subst e;rwa[hs i x σ ys _ (y xs q) p]
 ·have e:i=xs.length:=by lia
  subst e;rwa[.inl ⟨⟨xs,q,d6 _⟩,hd σ ys H p⟩]
def Xs(Pv:Nat->St->List V->Hp->Prop)(h0:Pv 0 σ0 [] (upd H1 D (.lst [])))(hl:∀ i σ ys H,i<=xs.length->Pv i σ ys H->SqT K H a xs/\H D=Io (.lst ys))
  (hs:∀ i x σ ys H,xs[i]?=Io x->Pv i σ ys H->g x σ H λσ2 H2=>tt σ2 H2 λb H3 =>
   if b=Iq then te σ2 H3 λy H4=>H4 D=Io (.lst ys)/\ys.length<sizeLine/\Pv (i+1) σ2 (ys++[y]) (upd H4 D (.lst (ys++[y]))) else Pv (i+1) σ2 ys H3)
  (hd:∀ σ ys H,Pv xs.length σ ys H->Q (.ref D) H):ua (Itt K a) D g tt te σ0 H1 Q:=by
 exists λi m σ ys H=>m=xs.length-i/\i<=xs.length/\Pv i σ ys H,⟨xs.length,by simp,t7 _,h0⟩;rintro i m σ ys H ⟨rfl,hi,p⟩;obtain⟨q,qd⟩:=hl i σ ys H hi p;exists qd;by_cases hlt:i<xs.length
 ·erw[.inr ⟨⟨xs,xs[i],q,by simp[hlt]⟩,Pv (i+1),λσ' zs H' z=>⟨xs.length-(i+1),by lia,rfl,hlt,z⟩,λx H' y=>?_⟩];obtain⟨e,y⟩:=y;subst e;rwa[hs i x σ ys _ (y xs q) p]
 ·have e:i=xs.length:=by lia
  subst e;rwa[.inl ⟨⟨xs,q,d6 _⟩,hd σ ys H p⟩]
def cJ{lo:Int}{n:Nat}(Pv:Nat->St->List V->Hp->Prop)(h0:Pv 0 σ0 [] (upd H1 D (.lst [])))(hl:∀ i σ ys H,i<=n->Pv i σ ys H->H D=Io (.lst ys))
  (hs:∀ i σ ys H,i<n->Pv i σ ys H->g (.int (lo+i)) σ H λσ2 H2=>tt σ2 H2 λb H3 =>
   if b=Iq then te σ2 H3 λy H4=>H4 D=Io (.lst ys)/\ys.length<sizeLine/\Pv (i+1) σ2 (ys++[y]) (upd H4 D (.lst (ys++[y]))) else Pv (i+1) σ2 ys H3)
  (hd:∀ σ ys H,Pv n σ ys H->Q (.ref D) H):ua (Itr lo n) D g tt te σ0 H1 Q:=by
 exists λi m σ ys H=>m=n-i/\i<=n/\Pv i σ ys H,⟨n,by simp,t7 _,h0⟩;rintro i m σ ys H ⟨rfl,hi,p⟩;have qd:=hl i σ ys H hi p;exists qd;by_cases hlt:i<n
 ·erw[.inr ⟨hlt,Pv (i+1),λσ' zs H' z=>⟨n-(i+1),by lia,rfl,hlt,z⟩,λx H' y=>?_⟩];obtain⟨e,y⟩:=y;subst e y;rwa[hs i σ ys _ hlt p]
 ·have e:i=n:=by lia
  subst e;rwa[.inl ⟨d6 _,hd σ ys H p⟩]
end
section
variable{K:b7}{a D:b9}{xs:List V}{g:TG}{te:TE}{σ0:St}{H1:Hp}{Q:VK}
def lh(Pv:Nat->St->List V->Hp->Prop)(h0:Pv 0 σ0 [] (upd H1 D (.lst [])))(hl:∀ i σ ys H,i<=xs.length->Pv i σ ys H->SqL K H a xs/\H D=Io (.lst ys))
  (hs:∀ i x σ ys H,xs[i]?=Io x->Pv i σ ys H->g x σ H λσ2 H2=>te σ2 H2 λy H4=>H4 D=Io (.lst ys)/\ys.length<sizeLine/\Pv (i+1) σ2 (ys++[y]) (upd H4 D (.lst (ys++[y]))))
  (hd:∀ σ ys H,Pv xs.length σ ys H->Q (.ref D) H):ua (Itl K a) D g Vj te σ0 H1 Q:=ar Pv h0 hl (λi x σ ys H e p=>hs i x σ ys H e p) hd
def iI(Pv:Nat->St->List V->Hp->Prop)(h0:Pv 0 σ0 [] (upd H1 D (.lst [])))(hl:∀ i σ ys H,i<=xs.length->Pv i σ ys H->SqT K H a xs/\H D=Io (.lst ys))
  (hs:∀ i x σ ys H,xs[i]?=Io x->Pv i σ ys H->g x σ H λσ2 H2=>te σ2 H2 λy H4=>H4 D=Io (.lst ys)/\ys.length<sizeLine/\Pv (i+1) σ2 (ys++[y]) (upd H4 D (.lst (ys++[y]))))
  (hd:∀ σ ys H,Pv xs.length σ ys H->Q (.ref D) H):ua (Itt K a) D g Vj te σ0 H1 Q:=Xs Pv h0 hl (λi x σ ys H e p=>hs i x σ ys H e p) hd
def wv{lo:Int}{n:Nat}(Pv:Nat->St->List V->Hp->Prop)(h0:Pv 0 σ0 [] (upd H1 D (.lst [])))(hl:∀ i σ ys H,i<=n->Pv i σ ys H->H D=Io (.lst ys))
  (hs:∀ i σ ys H,i<n->Pv i σ ys H->g (.int (lo+i)) σ H λσ2 H2=>te σ2 H2 λy H4=>H4 D=Io (.lst ys)/\ys.length<sizeLine/\Pv (i+1) σ2 (ys++[y]) (upd H4 D (.lst (ys++[y]))))
  (hd:∀ σ ys H,Pv n σ ys H->Q (.ref D) H):ua (Itr lo n) D g Vj te σ0 H1 Q:=cJ Pv h0 hl (λi σ ys H e p=>hs i σ ys H e p) hd
end
end L2

namespace L2
def aX:∀ bs:List Bool,(Aj bs.length).all (λi=>(bs[i]?).getD Iq)=bs.all id:=by
 intro bs;rw[B4,Ah,Ah];constructor
 ·intro h b hb;obtain⟨i,hi,e⟩:=Ff hb;have q:=h i (Az.mpr hi);rw[d4 hi,e] at q;rwa[q]
 ·intro h i hi;have hi':=Az.mp hi;rw[d4 hi'];rwa[h _ (Bw hi')]
def bQ:∀ bs:List Bool,(Aj bs.length).any (λi=>(bs[i]?).getD Iq)=bs.any id:=by
 intro bs;rw[B4,C1,C1];constructor
 ·rintro⟨i,hi,q⟩;have hi':=Az.mp hi;rw[d4 hi'] at q;rwa[_,Bw hi',q]
 ·rintro⟨b,hb,q⟩;obtain⟨i,hi,e⟩:=Ff hb;exists i,Az.mpr hi;rw[d4 hi,e];rwa[q]
def dG{bs:List Bool}{its:List c7}(r:yO (bs.map V.bl) its){i:Nat}{v:c7}(h:its[i]?=Io v):v=.bool ((bs[i]?).getD Iq):=by
 have hl:=r.length;rw[a7] at hl;have hi:i<its.length:=(g9.mp h).1;have hb:i<bs.length:=by lia
 obtain⟨u,hu,ru⟩:=r.get (i:=i) (x:=.bl bs[i]) (by rw[e7,d4 hb]; rfl);rw[hu] at h;cases h;rw[d4 hb];rwa[ru]
section
variable{X:Cx}
def vZ(hc:X.calm=Iq):uK X (.builtin "all") (λxs H Q=>∃(p:b9)(bs:List Bool),xs=[.ref p]/\SqL X.K H p (bs.map V.bl)/\Q (.bl (bs.all id)) H):=by
 intro Is s σ H xs us Q I r h;obtain⟨p,bs,rfl,hq,q⟩:=h;obtain⟨u,rfl,ru⟩:=yO.one r;cases ru;obtain⟨its,rv,pl,hz⟩:=I.list hq;have plt:p<s.heap.objs.size:=by
  obtain⟨_,e,_⟩:=pl.isList;rwa[f9 e]
 erw[call_all_walk (BL pl.isList ?_)];refine⟨s.heap.objs.size,_,_,_,_,_,λi=>(bs[i]?).getD Iq,U,Ig (A:=X.A.in1) (show X.A.in1.handled=Ip from I.ok.hd hc) _ p (l6 plt) its.toArray,⟨⟨_,d9 _ rfl,U,U⟩,Gf pl.isList _⟩,λi v s Q E hP hQ=>?_,λh' tk k=>?_⟩
 ·have e:=dG rv (by simpa using hP);subst e;rwa[AG hQ]
 ·have e:(Aj its.toArray.size).all (λi=>(bs[i]?).getD Iq)=bs.all id:=by
   have hl:=rv.length;rw[a7] at hl;rw[i0,<- hl];rwa[aX bs]
  rw[e];exact⟨.bl (bs.all id),H,I.kept (t':=tk) λb o z=>k b o (λw=>by rw[d8] at w; rwa[Be _ (w ▸ f9 z)]) (c9 _ z),rfl,q⟩
def gC(hc:X.calm=Iq):uK X (.builtin "any") (λxs H Q=>∃(p:b9)(bs:List Bool),xs=[.ref p]/\SqL X.K H p (bs.map V.bl)/\Q (.bl (bs.any id)) H):=by
 intro Is s σ H xs us Q I r h;obtain⟨p,bs,rfl,hq,q⟩:=h;obtain⟨u,rfl,ru⟩:=yO.one r;cases ru;obtain⟨its,rv,pl,hz⟩:=I.list hq;have plt:p<s.heap.objs.size:=by
  obtain⟨_,e,_⟩:=pl.isList;rwa[f9 e]
 erw[call_any_walk (BL pl.isList ?_)];refine⟨s.heap.objs.size,_,_,_,_,_,λi=>(bs[i]?).getD Iq,U,Ig (A:=X.A.in1) (show X.A.in1.handled=Ip from I.ok.hd hc) _ p (l6 plt) its.toArray,⟨⟨_,d9 _ rfl,U,U⟩,Gf pl.isList _⟩,λi v s Q E hP hQ=>?_,λh' tk k=>?_⟩
 ·have e:=dG rv (by simpa using hP);subst e;rwa[AG hQ]
 ·have e:(Aj its.toArray.size).any (λi=>(bs[i]?).getD Iq)=bs.any id:=by
   have hl:=rv.length;rw[a7] at hl;rw[i0,<- hl];rwa[bQ bs]
  rw[e];exact⟨.bl (bs.any id),H,I.kept (t':=tk) λb o z=>k b o (λw=>by rw[d8] at w; rwa[Be _ (w ▸ f9 z)]) (c9 _ z),rfl,q⟩
end
end L2

namespace L2

def SI(b:Bool)(h:o0)(i l:b9)(k:Nat):Prop:=match b with | true=>h.IsListIter i l k | false=>h.IsTupleIter i l k
def SS(b:Bool)(h:o0)(l:b9)(its:Array c7):Prop:=match b with | true=>h.IsList l its | false=>h.IsTuple l its
def jp(b:Bool):String:=match b with | true => "list_iterator" | false => "tuple_iterator"
def SI.obj{b:Bool}{h:o0}{i l:b9}{k:Nat}(x:SI b h i l k):∃ o,h.get? i=Io o/\o.cls=.type (jp b)/\o.data=.fields #[.ref l,.int k 0]:=by
 cases b <;> rwa[x]
def SI.of{b:Bool}{h:o0}{i l:b9}{k:Nat}(x:∃ o,h.get? i=Io o/\o.cls=.type (jp b)/\o.data=.fields #[.ref l,.int k 0]):SI b h i l k:=by
 cases b <;> rwa[x]
def SI.at{b:Bool}{h h':o0}{i l:b9}{k:Nat}(x:SI b h i l k)(e:∀ o,h.get? i=Io o->h'.get? i=Io o):SI b h' i l k:=by
 obtain⟨o,ho,r⟩:=x.obj;rwa[SI.of ⟨o,e o ho,r⟩]
def SS.at{b:Bool}{h h':o0}{l:b9}{its:Array c7}(x:SS b h l its)(e:∀ o,h.get? l=Io o->h'.get? l=Io o):SS b h' l its:=by
 cases b <;>(obtain⟨o,ho,r⟩:=x; rwa[o,e o ho,r])
def SS.obj{b:Bool}{h:o0}{l:b9}{its:Array c7}(x:SS b h l its):∃ o,h.get? l=Io o/\o.cls=.type (match b with | true => "list" | false => "tuple"):=by
 cases b <;>(obtain⟨o,ho,hc,_⟩:=x; rwa[o,ho,hc])
section
variable{prog:j9}{w:n9}{A:Ac}{E:c7->d3->Prop}{s:d3}
def Yl{i l:b9}{k:Nat}{its:Array c7}{y:c7}{Q:c7->d3->Prop}(zi:s.heap.IsTupleIter i l k)(zl:s.heap.IsTuple l its)(zy:its[k]?=Io y)
  (zq:∀ h',h'.IsTupleIter i l (k+1)->A3 i s.heap h'->Q y { s with heap:=h' }):wpAny (model prog w) A (x8 (.ref i)) Q E s:=by
 obtain⟨ob,zo,zc,zd⟩:=id zi;obtain⟨ot,zot,_,nt,zdt⟩:=zl;unfold x8;erw[ac (Ap (name:=l5 "__next__") zi.typeIs By (Ar By zi.typeIs Dv ?_ (Dh _)))];show wpAny _ _ (field (.ref i) 0 >>= _) _ _ s;erw[ac (Af zo zd (x:=.ref l) rfl ?_)];show wpAny _ _ (if (i9 l == r9)=Iq then _ else _) _ _ s; rw[y7 (show ¬ ((i9 l == r9)=Iq) from h9)];show wpAny _ _ (field (.ref i) 1 >>= _) _ _ s;erw[ac (Af zo zd (x:=.int k 0) rfl ?_)];show wpAny _ _ (seqItems? (.ref l) >>= _) _ _ s; erw[ac (A5 zot zdt ?_)];simp only[AH,zy];erw[ac (Bi zo zd (by simp) (d7 ⟨y,rfl,d7 (zq _ ?_ (Cz ..))⟩))];rwa[_,AR _ zo (A9 (AL zd _)),(Cf ..).trans zc,by rw[AL zd]; simp[rawInt]]
def WM{i l:b9}{k:Nat}{its:Array c7}{Q:c7->d3->Prop}(hh:A.handled=Ip)(zi:s.heap.IsTupleIter i l k)(zl:s.heap.IsTuple l its)(zy:its[k]?=Ip)
  (zE:∀ h' e,CN i s.heap h'->(∃ o,h'.get? e=Io o/\o.cls=.type "StopIteration")->E (.ref e) { s with heap:=h' }):wpAny (model prog w) A (x8 (.ref i)) Q E s:=by
 obtain⟨ob,zo,zc,zd⟩:=id zi;obtain⟨ot,zot,_,nt,zdt⟩:=zl;unfold x8;erw[ac (Ap (name:=l5 "__next__") zi.typeIs By (Ar By zi.typeIs Dv ?_ (Dh _)))];show wpAny _ _ (field (.ref i) 0 >>= _) _ _ s;erw[ac (Af zo zd (x:=.ref l) rfl ?_)];show wpAny _ _ (if (i9 l == r9)=Iq then _ else _) _ _ s; rw[y7 (show ¬ ((i9 l == r9)=Iq) from h9)];show wpAny _ _ (field (.ref i) 1 >>= _) _ _ s;erw[ac (Af zo zd (x:=.int k 0) rfl ?_)];show wpAny _ _ (seqItems? (.ref l) >>= _) _ _ s; erw[ac (A5 zot zdt ?_)];simp only[AH,zy];erw[ac (DA (ac (Bi zo zd (by simp) ?_)))];show wpAny _ _ (newExc (.type "StopIteration") [] >>= _) _ _ _; erw[ac ?_]; simp only[newExc,newTuple];erw[ac (t6 ?_ (by size_fits))]; refine ac (m:=firstArgMember _ _) (Cj (a:=r9) (by first | rfl | (simp only[firstArgMember]; rfl)) ?_);erw[t6 ?_ (by size_fits)]; simp only[raiseNew]; erw[ac (Fm ?_)]
 first | rw[show A.in1.handled=Ip from hh] | rw[hh]
 erw[ac (d7 (Gx ?_))]; rwa[zE _ _ (((Cz ..).extBut.push _).push _) ⟨_,d9 _ rfl,rfl⟩]
def gU{b:Bool}{i l:b9}{k:Nat}{its:Array c7}{y:c7}{Q:c7->d3->Prop}(zi:SI b s.heap i l k)(zl:SS b s.heap l its)(zy:its[k]?=Io y)
  (zq:∀ h',SI b h' i l (k+1)->A3 i s.heap h'->Q y { s with heap:=h' }):wpAny (model prog w) A (x8 (.ref i)) Q E s:=by
 cases b
 ·rwa[Yl zi zl zy zq]
 ·rwa[wpAny_nextOf_list_item zi zl zy zq]
def Wf{b:Bool}{i l:b9}{k:Nat}{its:Array c7}{Q:c7->d3->Prop}(hh:A.handled=Ip)(zi:SI b s.heap i l k)(zl:SS b s.heap l its)(zy:its[k]?=Ip)
  (zE:∀ h' e,CN i s.heap h'->(∃ o,h'.get? e=Io o/\o.cls=.type "StopIteration")->E (.ref e) { s with heap:=h' }):wpAny (model prog w) A (x8 (.ref i)) Q E s:=by
 cases b
 ·rwa[WM hh zi zl zy zE]
 ·rwa[wpAny_nextOf_list_end hh zi zl zy zE]
def XE{b:Bool}{l:b9}{its:Array c7}{Q:c7->d3->Prop}(zl:SS b s.heap l its)(h:Q (.ref s.heap.objs.size) { s with heap:=s.heap.push { cls:=.type (jp b),data:=.fields #[.ref l,.int 0 0] } }) :
  wpAny (model prog w) A (pyIter (.ref l)) Q E s:=by
 cases b
 ·rwa[DC zl h]
 ·rwa[BL zl h]

def bN{b1 b2:Bool}{z TI TO i1 i2 l1 l2:b9}{k:Nat}{xs ys:Array c7}{x y a b:c7}{Q:c7->d3->Prop}(D:ZipApart z TI TO i1 i2 l1 l2)
  (hz:Eb s.heap z TI TO .none) (hI:Ck s.heap TI (.ref i1) (.ref i2)) (hO:Ck s.heap TO a b) (h1:SI b1 s.heap i1 l1 k) (h2:SI b2 s.heap i2 l2 k) (g1:SS b1 s.heap l1 xs) (g2:SS b2 s.heap l2 ys)
  (hx:xs[k]?=Io x) (hy:ys[k]?=Io y)
  (hQ:∀ h',Eb h' z TI TO (rawInt s.heap.objs.size)->Ck h' TO x y->SI b1 h' i1 l1 (k+1)->SI b2 h' i2 l2 (k+1)->Ck h' s.heap.objs.size x y ->
   (∀ c o,c≠z->c≠TO->c≠i1->c≠i2->s.heap.get? c=Io o->h'.get? c=Io o)->Q (.ref s.heap.objs.size) { s with heap:=h' }) :
  wpAny (model prog w) A (Cn.«zip.__next__» ⟨[.ref z],[]⟩) (λfin s'=>∃ v,fin=.done (.ret v)/\Q v s') E s:=by
 show wpAny _ _ (field (.ref z) 2 >>= _) _ _ _; erw[ac (Af hz rfl (x:=.bool Ir) rfl ?_)];show wpAny _ _ (field (.ref z) 3 >>= _) _ _ _; erw[ac (Af hz rfl (x:=.ref TI) rfl ?_)];erw[ac (A5 hI rfl ?_)];show wpAny _ _ (AU (.ref z) >>= _) _ _ _; erw[ac ?_]; unfold AU;erw[ac (Af hz rfl (x:=.none) rfl (d7 ?_))]; simp only[if_true];erw[ac (DA ?_)]; erw[ac (Af hz rfl (x:=.ref TO) rfl ?_)];erw[ac (Bz hz (by simp) λk1 z1 s1=>?_)]; replace z1:Eb k1 z TI TO .ellipsis:=z1;erw[ac ?_]; simp only[Bc,GD,ED,GO];erw[ac (ac (D6 ?_))]; show wpAny _ _ (x8 (.ref i1) >>= _) _ _ _
 erw[ac (gU (h1.at λo e=>s1.extBut _ o D.i1z e) (g1.at λo e=>s1.extBut _ o D.l1z e) hx λk2 q2 s2=>d7 ?_)];have o2:Ck k2 TO a b:=s2.extBut _ _ D.TOi1 (s1.extBut _ _ D.TOz hO);erw[ac (A5 o2 rfl ?_)];erw[ac (C9 o2 λk3 o3 s3=>?_)]; replace o3:Ck k3 TO x b:=o3;erw[ac (Gy (d7 ?_))]; erw[ac (ac (D6 ?_))]; show wpAny _ _ (x8 (.ref i2) >>= _) _ _ _
 erw[ac (gU (h2.at λo e=>s3.extBut _ o D.TOi2.symm (s2.extBut _ o D.i12.symm (s1.extBut _ o D.i2z e))) (g2.at λo e=>s3.extBut _ o D.l2TO (s2.extBut _ o D.l2i1 (s1.extBut _ o D.l2z e))) hy λk4 q4 s4=>d7 ?_)];have o4:Ck k4 TO x b:=s4.extBut _ _ D.TOi2 o3;erw[ac (A5 o4 rfl ?_)];erw[ac (C9 o4 λk5 o5 s5=>?_)]; replace o5:Ck k5 TO x y:=o5;erw[ac (Gy (d7 (d7 ?_)))];erw[ac (A5 o5 rfl ?_)]; erw[ac (wpAny_newTuple ?_)];have hsz:k5.objs.size=s.heap.objs.size:=by rw[s5.1,s4.1,s3.1,s2.1,s1.1]
 have z5:Eb k5 z TI TO .ellipsis:=s5.extBut _ _ D.TOz.symm (s4.extBut _ _ D.i2z.symm (s3.extBut _ _ D.TOz.symm (s2.extBut _ _ D.i1z.symm z1)));have kp:∀ c o,c≠z->c≠TO->c≠i1->c≠i2->s.heap.get? c=Io o->k5.get? c=Io o:=λc o c1 c2 c3 c4 e=>s5.extBut _ _ c2 (s4.extBut _ _ c4 (s3.extBut _ _ c2 (s2.extBut _ _ c3 (s1.extBut _ _ c1 e))));have a5:SI b1 k5 i1 l1 (k+1):=q2.at λo e=>s5.extBut _ o D.TOi1.symm (s4.extBut _ o D.i12 (s3.extBut _ o D.TOi1.symm e));have b5:SI b2 k5 i2 l2 (k+1):=q4.at λo e=>s5.extBut _ o D.TOi2.symm e;have zlt:z<k5.objs.size:=f9 z5;show wpAny _ _ (CA (.ref z) (.ref k5.objs.size) >>= _) _ _ _; erw[ac ?_]; unfold CA;have z6:Eb (k5.push { cls:=.type "tuple",data:=.seq #[x,y] }) z TI TO .ellipsis:=c9 _ z5;erw[ac (Bz z6 (by simp) λk7 z7 s7=>?_)]; replace z7:Eb k7 z TI TO (rawInt k5.objs.size):=z7;erw[Bz z7 (by simp) λk8 z8 s8=>?_]; replace z8:Eb k8 z TI TO (rawInt k5.objs.size):=z8;have up:∀ c o,c≠z->k5.get? c=Io o->k8.get? c=Io o:=λc o c1 e=>s8.extBut _ _ c1 (s7.extBut _ _ c1 (c9 _ e));have t8:Ck k8 k5.objs.size x y:=s8.extBut _ _ (BX zlt) (s7.extBut _ _ (BX zlt) (d9 _ rfl));rw[hsz] at z8 t8;erw[d7 ⟨_,rfl,?_⟩]; show Q (.ref k5.objs.size) _
 rw[hsz];rwa[hQ k8 z8 (up _ _ D.TOz o5) (a5.at λo e=>up _ o D.i1z e) (b5.at λo e=>up _ o D.i2z e) t8 λc o c1 c2 c3 c4 e=>up c o c1 (kp c o c1 c2 c3 c4 e)]
def Xe{b1 b2:Bool}{z TI TO i1 i2 l1 l2:b9}{k:Nat}{xs ys:Array c7}{a b:c7}{Q:Fin->d3->Prop}(hh:A.handled=Ip)(D:ZipApart z TI TO i1 i2 l1 l2)
  (hz:Eb s.heap z TI TO .none) (hI:Ck s.heap TI (.ref i1) (.ref i2)) (hO:Ck s.heap TO a b) (h1:SI b1 s.heap i1 l1 k) (h2:SI b2 s.heap i2 l2 k) (g1:SS b1 s.heap l1 xs) (g2:SS b2 s.heap l2 ys)
  (hend:xs[k]?=Ip\/ys[k]?=Ip)
  (hE:∀ h' e,(∀ c o,c≠z->c≠TO->c≠i1->c≠i2->s.heap.get? c=Io o->h'.get? c=Io o)->(∃ o,h'.get? e=Io o/\o.cls=.type "StopIteration")->E (.ref e) { s with heap:=h' }) :
  wpAny (model prog w) A (Cn.«zip.__next__» ⟨[.ref z],[]⟩) Q E s:=by
 show wpAny _ _ (field (.ref z) 2 >>= _) _ _ _; erw[ac (Af hz rfl (x:=.bool Ir) rfl ?_)];show wpAny _ _ (field (.ref z) 3 >>= _) _ _ _; erw[ac (Af hz rfl (x:=.ref TI) rfl ?_)];erw[ac (A5 hI rfl ?_)];show wpAny _ _ (AU (.ref z) >>= _) _ _ _; erw[ac ?_]; unfold AU;erw[ac (Af hz rfl (x:=.none) rfl (d7 ?_))]; simp only[if_true];erw[ac (DA ?_)]; erw[ac (Af hz rfl (x:=.ref TO) rfl ?_)];erw[ac (Bz hz (by simp) λk1 z1 s1=>?_)]; replace z1:Eb k1 z TI TO .ellipsis:=z1;erw[ac ?_]; simp only[Bc,GD,ED,GO];erw[ac (ac (D6 ?_))]; show wpAny _ _ (x8 (.ref i1) >>= _) _ _ _
 cases hx:xs[k]? with
 | none =>
  erw[ac (Wf hh (h1.at λo e=>s1.extBut _ o D.i1z e) (g1.at λo e=>s1.extBut _ o D.l1z e) hx λk2 e s2 he=>?_)];obtain⟨oe,hoe,hce⟩:=he;have z2:Eb k2 z TI TO .ellipsis:=s2 _ _ D.i1z.symm z1;have nez:e≠z:=λx=>by subst x; rw[z2] at hoe; cases hoe; simp at hce
  erw[Bz z2 (by simp) λk3 _ s3=>hE k3 e (λc o c1 _ c3 _ x=>s3.extBut _ _ c1 (s2 _ _ c3 (s1.extBut _ _ c1 x))) ⟨oe,s3.extBut _ _ nez hoe,hce⟩]
 | some x =>
  have hy:ys[k]?=none:=by
   rcases hend with h | h
   ·rw[hx] at h; cases h
   ·rwa[h]
  erw[ac (gU (h1.at λo e=>s1.extBut _ o D.i1z e) (g1.at λo e=>s1.extBut _ o D.l1z e) hx λk2 q2 s2=>d7 ?_)];have o2:Ck k2 TO a b:=s2.extBut _ _ D.TOi1 (s1.extBut _ _ D.TOz hO);erw[ac (A5 o2 rfl ?_)]; erw[ac (C9 o2 λk3 o3 s3=>?_)];erw[ac (Gy (d7 ?_))]; erw[ac (ac (D6 ?_))]; show wpAny _ _ (x8 (.ref i2) >>= _) _ _ _
  erw[ac (Wf hh (h2.at λo e=>s3.extBut _ o D.TOi2.symm (s2.extBut _ o D.i12.symm (s1.extBut _ o D.i2z e))) (g2.at λo e=>s3.extBut _ o D.l2TO (s2.extBut _ o D.l2i1 (s1.extBut _ o D.l2z e))) hy λk4 e s4 he=>?_)];obtain⟨oe,hoe,hce⟩:=he;have z4:Eb k4 z TI TO .ellipsis:=s4 _ _ D.i2z.symm (s3.extBut _ _ D.TOz.symm (s2.extBut _ _ D.i1z.symm z1));have nez:e≠z:=λx=>by subst x; rw[z4] at hoe; cases hoe; simp at hce
  erw[Bz z4 (by simp) λk5 _ s5=>hE k5 e (λc o c1 c2 c3 c4 x=>s5.extBut _ _ c1 (s4 _ _ c4 (s3.extBut _ _ c2 (s2.extBut _ _ c3 (s1.extBut _ _ c1 x))))) ⟨oe,s5.extBut _ _ nez hoe,hce⟩]
def VY(b1 b2:Bool)(l1 l2:b9)(h:o0):o0 :=
 ((((h.push { cls:=.type (jp b1),data:=.fields #[.ref l1,.int 0 0] }).push { cls:=.type (jp b2),data:=.fields #[.ref l2,.int 0 0] }).push { cls:=.type "tuple",data:=.seq #[.ref h.objs.size,.ref (h.objs.size+1)] }).push { cls:=.type "tuple",data:=.seq #[.none,.none] }).push { cls:=.type "zip",data:=.fields #[.none,.bool Ir,.bool Ir,.ref (h.objs.size+2),.ref (h.objs.size+3)] }
def Xp(b1 b2:Bool)(l1 l2:b9)(xs ys:Array c7) :
  Meets (Cn.«zip.__new__» ⟨[.type "zip",.ref l1,.ref l2],[]⟩) (λ_ R s=>SS b1 s.heap l1 xs/\SS b2 s.heap l2 ys /\
   R (.ok (.ret (.ref (s.heap.objs.size+4)))) { s with heap:=VY b1 b2 l1 l2 s.heap }) :=
 .of_wp λprog w A R s h=>by
  obtain⟨hp,g,d,tk,os⟩:=s;obtain⟨hl1,hl2,h⟩:=h;have hsub:=sub_zip;have hL1:SS b1 (HZ ⟨hp,g,d,tk,os⟩) l1 xs:=hl1;have hL2:SS b2 (HZ ⟨hp.push { cls:=.type (jp b1),data:=.fields #[.ref l1,.int 0 0] },g,d,tk,os⟩) l2 ys:=SS.at hl2 λo e=>c9 _ e
  wp_walk using XE hL1,XE hL2
  exists _,rfl;simp only[VY,Bh] at h ⊢;rwa[h]
def ZE{b1 b2:Bool}{l1 l2:b9}{xs ys:Array c7}{Q:c7->d3->Prop}(hl1:SS b1 s.heap l1 xs)(hl2:SS b2 s.heap l2 ys)
  (h:∀ h',Eb h' (s.heap.objs.size+4) (s.heap.objs.size+2) (s.heap.objs.size+3) .none->Ck h' (s.heap.objs.size+2) (.ref s.heap.objs.size) (.ref (s.heap.objs.size+1))->Ck h' (s.heap.objs.size+3) .none .none ->
   SI b1 h' s.heap.objs.size l1 0->SI b2 h' (s.heap.objs.size+1) l2 0->(∀ c o,s.heap.get? c=Io o->h'.get? c=Io o)->Q (.ref (s.heap.objs.size+4)) { s with heap:=h' }) :
  wpAny (model prog w) A (call (.type "zip") [.ref l1,.ref l2]) Q E s:=by
 erw[callType_new F.called_zip (by decide) (F.typeCall_zip_2 _ _) (F.newCall_zip_2 _ _) (λobj=>F.args_object_init_3 obj _ _) F.entry_zip_new (Xp b1 b2 l1 l2 xs ys) ⟨hl1,hl2,?_⟩];unfold VY;generalize e1:s.heap.push { cls:=.type (jp b1),data:=.fields #[.ref l1,.int 0 0] }=k1;have n1:k1.objs.size=s.heap.objs.size+1:=by rw[<- e1,Bh]
 generalize e2:k1.push { cls:=.type (jp b2),data:=.fields #[.ref l2,.int 0 0] }=k2;have n2:k2.objs.size=s.heap.objs.size+2:=by rw[<- e2,Bh,n1]
 generalize e3:k2.push { cls:=.type "tuple",data:=.seq #[.ref s.heap.objs.size,.ref (s.heap.objs.size+1)] }=k3;have n3:k3.objs.size=s.heap.objs.size+3:=by rw[<- e3,Bh,n2]
 generalize e4:k3.push { cls:=.type "tuple",data:=.seq #[.none,.none] }=k4;have n4:k4.objs.size=s.heap.objs.size+4:=by rw[<- e4,Bh,n3]
 generalize e5:k4.push { cls:=.type "zip",data:=.fields #[.none,.bool Ir,.bool Ir,.ref (s.heap.objs.size+2),.ref (s.heap.objs.size+3)] }=k5;have u5:∀ c o,k4.get? c=Io o->k5.get? c=Io o:=λc o q=>e5 ▸ c9 _ q;have u4:∀ c o,k3.get? c=Io o->k5.get? c=Io o:=λc o q=>u5 c o (e4 ▸ c9 _ q);have u3:∀ c o,k2.get? c=Io o->k5.get? c=Io o:=λc o q=>u4 c o (e3 ▸ c9 _ q);have u2:∀ c o,k1.get? c=Io o->k5.get? c=Io o:=λc o q=>u3 c o (e2 ▸ c9 _ q);have u1:∀ c o,s.heap.get? c=Io o->k5.get? c=Io o:=λc o q=>u2 c o (e1 ▸ c9 _ q);have g5:Eb k5 (s.heap.objs.size+4) (s.heap.objs.size+2) (s.heap.objs.size+3) .none:=by
  rw[<- n4,<- e5];rwa[d9 _ rfl]
 have g4:Ck k5 (s.heap.objs.size+3) .none .none:=by
  rw[<- n3];rwa[u5 _ _ (by rw[<- e4]; exact d9 _ rfl)]
 have g3:Ck k5 (s.heap.objs.size+2) (.ref s.heap.objs.size) (.ref (s.heap.objs.size+1)):=by
  have q:=u4 k2.objs.size _ (by rw[<- e3]; rwa[d9 _ rfl]);rw[n2] at q;rwa[q]
 have g2:SI b2 k5 (s.heap.objs.size+1) l2 0:=by
  rw[<- n1];rwa[SI.of ⟨_,u3 _ _ (by rw[<- e2]; exact d9 _ rfl),rfl,rfl⟩]
 have g1:SI b1 k5 s.heap.objs.size l1 0:=SI.of ⟨_,u2 _ _ (by rw[<- e1]; rwa[d9 _ rfl]),rfl,rfl⟩;rwa[⟨_,g5,U⟩,h k5 g5 g3 g4 g1 g2 u1]
end
end L2

namespace L2
def SqB(b:Bool)(K:b7)(H:Hp)(l:b9)(xs:List V):Prop:=match b with | true=>SqL K H l xs | false=>SqT K H l xs
def Inv.sqB{X:Cx}{Is:List (b9×AM)}{σ:St}{H:Hp}{s:d3}{b:Bool}{l:b9}{xs:List V}(I:Inv X Is σ H s)(h:SqB b X.K H l xs):∃ its:List c7,yO xs its/\SS b s.heap l its.toArray/\xs.length<=sizeLine:=by
 cases b with
 | true =>
  obtain⟨its,r,p,z⟩:=I.list h;rwa[its,r,p.isList,z]
 | false =>
  obtain⟨its,r,p,z⟩:=I.tuple h;rwa[its,r,p,z]
def Inv.sqB_inj{X:Cx}{Is:List (b9×AM)}{σ:St}{H:Hp}{s:d3}{b:Bool}{l:b9}{xs ys:List V}(I:Inv X Is σ H s)(h:SqB b X.K H l xs)(h':SqB b X.K H l ys):xs=ys:=by
 cases b with
 | true=>rwa[I.list_inj h h']
 | false=>rwa[I.tuple_inj h h']
def Itz(K:b7)(b1 b2:Bool)(l1 l2:b9):It :=
 ⟨λk H=>∃ xs ys x y,SqB b1 K H l1 xs/\SqB b2 K H l2 ys/\xs[k]?=Io x/\ys[k]?=Io y,
   λk H v H'=>∃ T x y,v=.ref T/\H T=Ip/\H'=upd H T (.tup [x,y])/\(∀ xs,SqB b1 K H l1 xs->xs[k]?=Io x)/\(∀ ys,SqB b2 K H l2 ys->ys[k]?=Io y),
   λk H=>∃ xs ys,SqB b1 K H l1 xs/\SqB b2 K H l2 ys/\(xs.length<=k\/ys.length<=k)⟩
def Ym{P:j9}{w:n9}{K:b7}{elts:List w4}{kt:Nat}{pt:Co}{b1 b2:Bool}{z TI TO i1 i2 l1 l2:b9}(D:ZipApart z TI TO i1 i2 l1 l2) :
  Yq P w K (.Tuple elts kt pt) (Itz K b1 b2 l1 l2) [z,TI,TO,i1,i2] z (λk h=>Eb h z TI TO .none/\Ck h TI (.ref i1) (.ref i2)/\(∃ a b,Ck h TO a b)/\SI b1 h i1 l1 k/\SI b2 h i2 l2 k) where
 mem:=by simp
 obj:=λk h st b hb=>by
  obtain⟨hz,hI,⟨a',b',hO⟩,h1,h2⟩:=st;obtain⟨o1,g1,_,d1⟩:=h1.obj;obtain⟨o2,g2,_,d2⟩:=h2.obj;simp only[i7,Ai,or_false] at hb;rcases hb with rfl | rfl | rfl | rfl | rfl
  ·rwa[_,hz,λv e=>by cases e]
  ·rwa[_,hI,λv e=>by cases e]
  ·rwa[_,hO,λv e=>by cases e]
  ·exact⟨_,g1,λv e=>by rw[d1] at e; cases e⟩
  ·exact⟨_,g2,λv e=>by rw[d2] at e; cases e⟩
 keep:=λk h h' st kp=>by
  obtain⟨hz,hI,⟨a',b',hO⟩,h1,h2⟩:=st;rwa[kp z (by simp) _ hz,kp TI (by simp) _ hI,⟨a',b',kp TO (by simp) _ hO⟩,h1.at λo e=>kp i1 (by simp) o e,h2.at λo e=>kp i2 (by simp) o e]
 item:=by
  intro X hP hw hK hc k Is s σ H E I hf st hg;subst hP hw hK;obtain⟨hz,hI,⟨a',b',hO⟩,h1,h2⟩:=st;obtain⟨xs,ys,x,y,q1,q2,hx,hy⟩:=hg;obtain⟨its1,r1,p1,_⟩:=I.sqB q1;obtain⟨its2,r2,p2,_⟩:=I.sqB q2;obtain⟨u1,e1,v1⟩:=r1.get hx;obtain⟨u2,e2,v2⟩:=r2.get hy;have hT:s.TypeIs (.ref z) "zip" :=⟨_,hz,rfl⟩;have fresh:H s.heap.objs.size=none:=I.hok.fresh (d6 _);unfold pyNext;refine ac (BP (Ap (name:=l5 "__next__") hT Di (Ar Di hT Gg (bN D hz hI hO h1 h2 p1 p2 (by simpa using e1) (by simpa using e2) λh' z1 o1 j1 j2 t1 kp=>d7 ?_) (FR _))));refine⟨_,rfl,wpAny_letOwnedTupleGo_zip z1 λh2' z2 sb=>?_⟩;have kp2:∀ c o,c ∉ [z,TO,i1,i2]->s.heap.get? c=Io o->h2'.get? c=Io o:=λc o hc e=>by
   simp only[i7,Ai,or_false,not_or] at hc;rwa[sb.extBut c o hc.1 (kp c o hc.1 hc.2.1 hc.2.2.1 hc.2.2.2 e)]
  have nH:∀ c∈[z,TO,i1,i2],c∈[z,TI,TO,i1,i2]:=λc hc=>by
   simp only[i7,Ai,or_false] at hc ⊢;rcases hc with e | e | e | e <;> simp[e]
  have neT:∀ b o,s.heap.get? b=Io o->b≠s.heap.objs.size:=λb o e=>l6 (f9 e);have neH:∀ b o,H b=Io o->b ∉ [z,TO,i1,i2]:=λb o e hb=>by
   rw[(hf b (nH b hb)).1] at e;cases e
  have upn:∀ b o,H b=Io o->upd H s.heap.objs.size (.tup [x,y]) b=Io o:=λb o e=>by
   rw[zH (zF e fresh)];rwa[e]
  erw[.ref s.heap.objs.size,upd H s.heap.objs.size (.tup [x,y]),?_,U,⟨_,x,y,U,fresh,U,λzs hz'=>by rw[I.sqB_inj hz' q1]; exact hx,λzs hz'=>by rw[I.sqB_inj hz' q2]; rwa[hy]⟩,?_,λb hb=>?_]
  ·refine Inv.step (s:=s) (h':=h2') (g':=s.gens) (d':=s.drawn) (t':=s.toks) (ch:=[z,TO,i1,i2]) I (λb hb=>?_) (λb o _ _ hc e _=>kp2 b o hc e) (λb o _ _ hc e _=>⟨o.slots,kp2 b o hc e⟩) (λb o _ e n=>?_) (λb o hc e=>⟨o,kp2 b o hc e⟩)
    (λb zs e=>upn b _ e) (λb o zs e=>upn b _ e) (λb ps e=>⟨#[],by rw[upn b _ e]; simp⟩) (λm hm=>?_) (λb o e=>?_) I.bare
   ·obtain⟨_,f1,_,f3,f4,f5⟩:=hf b (nH b hb);rwa[f3,f1,f4,f5]
   ·rw[zH (neT b o e)];rwa[n]
   ·obtain⟨o,es,ep,ho,r⟩:=hm;erw[o,es,ep,kp2 _ o (λhb=>?_) ho,r];exact(hf _ (nH _ hb)).2.1 rfl
   ·by_cases hb:b=s.heap.objs.size
    ·subst hb;rw[zA] at e;cases e;exact⟨by show 2<=sizeLine; decide,[u1,u2],.cons v1 (.cons v2 .nil),_,sb.extBut _ _ (BX (f9 hz)) t1,rfl,_,rfl⟩
    ·rw[zH hb] at e;refine(I.hok b o e).stay (λc u hc q=>kp2 c u ?_ q) (λc q=>upn c _ q) λc zs q=>upn c _ q;rcases hc with hc | hc
     ·rw[hc]; rwa[neH b o e]
     ·rwa[neH c _ hc]
  ·rwa[z2,sb.extBut _ _ D.TIz (kp _ _ D.TIz D.TITO D.TIi1 D.TIi2 hI),⟨_,_,sb.extBut _ _ D.TOz o1⟩,j1.at λo e=>sb.extBut _ o D.i1z e,j2.at λo e=>sb.extBut _ o D.i2z e]
  ·obtain⟨o,e,_⟩:∃ o,s.heap.get? b=Io o/\True:=by
    obtain⟨o1,g1,_⟩:=h1.obj;obtain⟨o2,g2,_⟩:=h2.obj;simp only[i7,Ai,or_false] at hb;rcases hb with rfl | rfl | rfl | rfl | rfl
    ·rwa[_,hz,trivial]
    ·rwa[_,hI,trivial]
    ·rwa[_,hO,trivial]
    ·rwa[_,g1,trivial]
    ·rwa[_,g2,trivial]
   rw[zH (neT b o e)];exact(hf b hb).1
 done:=by
  intro X hP hw hK hc k Is s σ H E I hf st hg;subst hP hw hK;obtain⟨hz,hI,⟨a',b',hO⟩,h1,h2⟩:=st;obtain⟨xs,ys,q1,q2,hend⟩:=hg;obtain⟨its1,r1,p1,_⟩:=I.sqB q1;obtain⟨its2,r2,p2,_⟩:=I.sqB q2;have hT:s.TypeIs (.ref z) "zip" :=⟨_,hz,rfl⟩;have hend':its1.toArray[k]?=Ip\/its2.toArray[k]?=none:=by
   have l1':=r1.length;have l2':=r2.length;rcases hend with h | h
   ·rwa[.inl (BY (by rw[i0]; lia))]
   ·rwa[.inr (BY (by rw[i0]; lia))]
  have nH:∀ c∈[z,TO,i1,i2],c∈[z,TI,TO,i1,i2]:=λc hc=>by
   simp only[i7,Ai,or_false] at hc ⊢;rcases hc with e | e | e | e <;> simp[e]
  have neH:∀ b o,H b=Io o->b ∉ [z,TO,i1,i2]:=λb o e hb=>by
   rw[(hf b (nH b hb)).1] at e;cases e
  unfold pyNext;refine ac (BP (Ap (name:=l5 "__next__") hT Di (Ar Di hT Gg (Xe (I.ok.hd hc) D hz hI hO h1 h2 p1 p2 hend' λh' e kp he=>?_) (FR _))));obtain⟨oe,hoe,hce⟩:=he;refine ac (C2 (T := "StopIteration") (b:=Iq) ⟨oe,hoe,hce⟩ isSubtype_stop (d7 ⟨rfl,?_⟩));have kp2:∀ c o,c ∉ [z,TO,i1,i2]->s.heap.get? c=Io o->h'.get? c=Io o:=λc o hc e=>by
   simp only[i7,Ai,or_false,not_or] at hc;rwa[kp c o hc.1 hc.2.1 hc.2.2.1 hc.2.2.2 e]
  refine I.step (g':=s.gens) (d':=s.drawn) (t':=s.toks) (ch:=[z,TO,i1,i2]) (λb hb=>?_) (λb o _ _ hc e _=>kp2 b o hc e) (λb o _ _ hc e _=>⟨o.slots,kp2 b o hc e⟩) (λb o _ e n=>n) (λb o hc e=>⟨o,kp2 b o hc e⟩)
   (λb zs e=>e) (λb o zs e=>e) (λb ps e=>⟨#[],by rw[e]; simp⟩) (λm hm=>?_) (λb o e=>?_) I.bare
  ·obtain⟨_,f1,_,f3,f4,f5⟩:=hf b (nH b hb);rwa[f3,f1,f4,f5]
  ·obtain⟨o,es,ep,ho,r⟩:=hm;erw[o,es,ep,kp2 _ o (λhb=>?_) ho,r];exact(hf _ (nH _ hb)).2.1 rfl
  ·refine(I.hok b o e).stay (λc u hc q=>kp2 c u ?_ q) (λc q=>q) λc zs q=>q;rcases hc with hc | hc
   ·rw[hc]; rwa[neH b o e]
   ·rwa[neH c _ hc]
 self:=λ_ _ _ _ _ st h=>Gh st.1 h
section
variable{X:Cx}
def iZip(K:b7)(ta:TA):TI:=λσ H R=>ta σ H λvs H1=>∃(b1 b2:Bool)(l1 l2:b9)(xs ys:List V),vs=[.ref l1,.ref l2]/\SqB b1 K H1 l1 xs/\SqB b2 K H1 l2 ys/\R (Itz K b1 b2 l1 l2) H1
def XI{elts:List w4}{kt:Nat}{pt:Co}{a b:w4}{ta:TA}{p pos:Co}(hg:Gl X "zip")(hm:X.mg "zip" = Ip)(ha:PA X [a,b] ta)(hs:starEach [a,b] X.env=[(Ir,eval a X.env),(Ir,eval b X.env)]:=by rfl)(hs2:starEach [b] X.env=[(Ir,eval b X.env)]:=by rfl) :
  PI X (.Tuple elts kt pt) (.Call (.Name "zip" p) [a,b] [] pos) (iZip X.K ta):=by
 intro Is s σ H R I h;refine Call_ (oE I hg hm Ui (AZ (thn (ha pos Is s σ H _ I h) λus s1 ⟨vs,H1,I1,r1,q1⟩=>?_) (by rw[hs,hs2]) (by rw[hs2]; rfl)));obtain⟨b1,b2,l1,l2,xs,ys,e,g1,g2,q⟩:=q1;subst e;obtain⟨u1,u2,rfl,v1,v2⟩:=yO.two r1;cases v1;cases v2;obtain⟨its1,_,p1,_⟩:=I1.sqB g1;obtain⟨its2,_,p2,_⟩:=I1.sqB g2;have a1:l1<s1.heap.objs.size:=by
  obtain⟨o,e,_⟩:=p1.obj;rwa[f9 e]
 have a2:l2<s1.heap.objs.size:=by
  obtain⟨o,e,_⟩:=p2.obj;rwa[f9 e]
 refine ZE p1 p2 λh' hz hI hO j1 j2 kp=>?_;refine Gh hz ?_;refine⟨_,_,_,_,H1,U,I1.kept (t':=s1.toks) kp,Ym (zipApart_new a1 a2),⟨hz,hI,⟨_,_,hO⟩,j1,j2⟩,λb hb=>?_,q⟩;have hge:s1.heap.objs.size<=b:=by
  simp only[i7,Ai,or_false] at hb;rcases hb with rfl | rfl | rfl | rfl | rfl <;> lia
 rwa[I1.fpOk hge (I1.hok.fresh hge)]
end
section
variable{K:b7}{b1 b2:Bool}{l1 l2 D:b9}{xs ys:List V}{g:TG}{tt:TT}{te:TE}{σ0:St}{H1:Hp}{Q:VK}
def Yy(Pv:Nat->St->List V->Hp->Prop)(h0:Pv 0 σ0 [] (upd H1 D (.lst [])))(hl:∀ i σ zs H,Pv i σ zs H->SqB b1 K H l1 xs/\SqB b2 K H l2 ys/\H D=Io (.lst zs))
  (hs:∀ i x y T σ zs H,xs[i]?=Io x->ys[i]?=Io y->H T=Ip->Pv i σ zs H->g (.ref T) σ (upd H T (.tup [x,y])) λσ2 H2=>tt σ2 H2 λb H3 =>
   if b=Iq then te σ2 H3 λz H4=>H4 D=Io (.lst zs)/\zs.length<sizeLine/\Pv (i+1) σ2 (zs++[z]) (upd H4 D (.lst (zs++[z]))) else Pv (i+1) σ2 zs H3)
  (hd:∀ σ zs H,Pv (min xs.length ys.length) σ zs H->Q (.ref D) H):ua (Itz K b1 b2 l1 l2) D g tt te σ0 H1 Q:=by
 exists λi m σ zs H=>m=min xs.length ys.length-i/\i<=min xs.length ys.length/\Pv i σ zs H,⟨_,U,t7 _,h0⟩;rintro i m σ zs H ⟨rfl,hi,p⟩;obtain⟨q1,q2,qd⟩:=hl i σ zs H p;exists qd;by_cases hlt:i<min xs.length ys.length
 ·have c1:i<xs.length:=by lia
  have c2:i<ys.length:=by lia
  erw[.inr ⟨⟨xs,ys,xs[i],ys[i],q1,q2,by simp[c1],by simp[c2]⟩,Pv (i+1),λσ' zs' H' z=>⟨min xs.length ys.length-(i+1),by lia,rfl,hlt,z⟩,λv H' y=>?_⟩];obtain⟨T,x,y,rfl,hT,rfl,y1,y2⟩:=y;rwa[hs i x y T σ zs H (y1 xs q1) (y2 ys q2) hT p]
 ·have e:i=min xs.length ys.length:=by lia
  subst e;rwa[.inl ⟨⟨xs,ys,q1,q2,by lia⟩,hd σ zs H p⟩]
def ou(Pv:Nat->St->List V->Hp->Prop)(h0:Pv 0 σ0 [] (upd H1 D (.lst [])))(hl:∀ i σ zs H,Pv i σ zs H->SqB b1 K H l1 xs/\SqB b2 K H l2 ys/\H D=Io (.lst zs))
  (hs:∀ i x y T σ zs H,xs[i]?=Io x->ys[i]?=Io y->H T=Ip->Pv i σ zs H->g (.ref T) σ (upd H T (.tup [x,y])) λσ2 H2=>te σ2 H2 λz H4=>H4 D=Io (.lst zs)/\zs.length<sizeLine/\Pv (i+1) σ2 (zs++[z]) (upd H4 D (.lst (zs++[z]))))
  (hd:∀ σ zs H,Pv (min xs.length ys.length) σ zs H->Q (.ref D) H):ua (Itz K b1 b2 l1 l2) D g Vj te σ0 H1 Q:=Yy Pv h0 hl (λi x y T σ zs H e1 e2 e3 p=>hs i x y T σ zs H e1 e2 e3 p) hd
end
end L2

namespace L2
def ifD{p A B:Prop}[Decidable p](h1:p->A)(h2:¬ p->B):if decide p=Iq then A else B:=by
 by_cases h:p
 ·rw[y9 (x3 h)]; rwa[h1 h]
 ·rw[y7 (by rw[x4 h]; rwa[h9])]; rwa[h2 h]
def ifN{p A B:Prop}[Decidable p](h1:¬ p->A)(h2:p->B):if (!decide p)=Iq then A else B:=by
 by_cases h:p
 ·rw[y7 (by rw[x3 h]; rwa[h9])]; rwa[h2 h]
 ·rw[y9 (by rw[x4 h]; rfl)]; rwa[h1 h]
def ifE{x y:Int}{A B:Prop}(h1:x=y->A)(h2:x≠y->B):if decide (V.int x=V.int y)=Iq then A else B :=
 ifD (λh=>h1 (V.int.inj h)) λh=>h2 λe=>h (congrArg V.int e)
def decI{x y:Int}(h:x=y):decide (V.int x=V.int y)=true:=x3 (congrArg V.int h)
def zD{H:Hp}{p:b9}(h:H p=Ip)(o:HO):Same H (upd H p o):=λb u q=>by rw[zH (zF q h)]; rwa[q]
def si{ns:List Int}{i:Nat}{x:V}(h:(ns.map V.int)[i]?=Io x):∃ n,ns[i]?=Io n/\x=.int n:=by
 rw[e7] at h;cases e:ns[i]? with
 | none=>rw[e] at h; cases h
 | some n=>rw[e] at h; rwa[n,U,(o9 h).symm]
def oK{n:Nat}(h:n<=1000):n<=sizeLine:=BI (zT h)
def SqT.same{K:b7}{H H':Hp}{a:b9}{xs:List V}(h:SqT K H a xs)(e:Same H H'):SqT K H' a xs:=by
 rcases h with h | h
 ·rcases h with h | ⟨o,h⟩
  ·rwa[.inl (.inl (e _ _ h))]
  ·rwa[.inl (.inr ⟨o,e _ _ h⟩)]
 ·rwa[.inr h]
def Xz(t:TT):Prop:=∀(σ:St)(H:Hp)(Q Q':Bool->Hp->Prop),(∀ b H1,Q b H1->Q' b H1)->t σ H Q->t σ H Q'
def jr(t:TE):Prop:=∀(σ:St)(H:Hp)(Q Q':VK),(∀ b H1,Q b H1->Q' b H1)->t σ H Q->t σ H Q'
def YL(t:TA):Prop:=∀(σ:St)(H:Hp)(Q Q':List V->Hp->Prop),(∀ b H1,Q b H1->Q' b H1)->t σ H Q->t σ H Q'
def UO(r:R2):Prop:=∀(x y:V)(H:Hp)(Q Q':VK),(∀ b H1,Q b H1->Q' b H1)->r x y H Q->r x y H Q'
def TD(r:List V->Hp->VK->Prop):Prop:=∀(xs:List V)(H:Hp)(Q Q':VK),(∀ b H1,Q b H1->Q' b H1)->r xs H Q->r xs H Q'
def jj{i:Nat} : jr (ZW i):=λ_ _ _ _ hq ⟨v,e,z⟩=>⟨v,e,hq _ _ z⟩
def mo_c{v:V} : jr (tC v):=λ_ _ _ _ hq z=>hq _ _ z
def WL{r:R2}{ta tb:TE}(hr:UO r)(ha:jr ta)(hb:jr tb):jr (tOp r ta tb):=λσ _ _ _ hq z=>ha σ _ _ _ (λ_ _ z=>hb σ _ _ _ (λ_ _ z=>hr _ _ _ _ _ hq z) z) z
def WZ{g:Int->Int->V} : UO (rI0 g):=λ_ _ _ _ _ hq ⟨i,j,e1,e2,z⟩=>⟨i,j,e1,e2,hq _ _ z⟩
def fV{t:TE}(h:jr t):Xz (Vl t):=λσ _ _ _ hq z=>h σ _ _ _ (λ_ _ ⟨k,e,z⟩=>⟨k,e,hq _ _ z⟩) z
def TQ{t u:TT}(h:Xz t)(h':Xz u):Xz (tAnd t u):=λσ _ _ _ hq z=>h σ _ _ _ (λb _ z=>by
 cases b with
 | true=>rwa[h' σ _ _ _ hq z]
 | false=>rwa[hq _ _ z]) z
def Wd:YL YR:=λ_ _ _ _ hq z=>hq _ _ z
def aA{te:TE}{ta:TA}(h:jr te)(h':YL ta):YL (ip te ta):=λσ _ _ _ hq z=>h σ _ _ _ (λ_ _ z=>h' σ _ _ _ (λ_ _ z=>hq _ _ z) z) z
def Ti{r:List V->Hp->VK->Prop}{t:TA}(hr:TD r)(h:YL t):jr (tCB r t):=λσ _ _ _ hq z=>h σ _ _ _ (λ_ _ z=>hr _ _ _ _ hq z) z
def Wo{K:b7} : TD (λxs H Q=>∃ p ys,xs=[.ref p]/\(SqL K H p ys\/SqT K H p ys)/\Q (.int ys.length) H):=λ_ _ _ _ hq ⟨p,ys,e,s,z⟩=>⟨p,ys,e,s,hq _ _ z⟩
def ui(ns:List Int)(lo hi:Option Int):ze (ns.map V.int) lo hi=((ns.drop (HT.sIx ns.length 0 lo)).take (HT.sIx ns.length ns.length hi-HT.sIx ns.length 0 lo)).map V.int:=by
 unfold ze;rw[a7,C5,Fo]
end L2

namespace L2
def UQ{A:Ac}{s:d3}{xs ys:List Int}{us ws:List c7}(r1:yO (xs.map V.int) us)(r2:yO (ys.map V.int) ws):∀ j (h1:j<us.toArray.size) (h2:j<ws.toArray.size),
  Fy A s us.toArray[j] ws.toArray[j] (decide (xs[j]?=ys[j]?)):=λj h1 h2=>by
 have l1:=r1.length;have l2:=r2.length;rw[a7] at l1 l2;have g1:j<us.length:=by simpa using h1
 have g2:j<ws.length:=by simpa using h2
 have k1:j<xs.length:=by lia
 have k2:j<ys.length:=by lia
 obtain⟨u,hu,t,ru⟩:=r1.get (i:=j) (x:=.int xs[j]) (by rw[e7,d4 k1]; rfl);obtain⟨w,hw,t',rw'⟩:=r2.get (i:=j) (x:=.int ys[j]) (by rw[e7,d4 k2]; rfl);have e1:us.toArray[j]=.int xs[j] t:=by
  have z:=d4 g1;rw[hu] at z;rw[E7,<- o9 z,ru]
 have e2:ws.toArray[j]=.int ys[j] t':=by
  have z:=d4 g2;rw[hw] at z;rw[E7,<- o9 z,rw']
 rw[e1,e2];have e3:decide (xs[j]?=ys[j]?)=(xs[j] == ys[j]):=by
  rw[d4 k1,d4 k2];by_cases h:xs[j]=ys[j]
  ·rw[h]; simp
  ·rw[x4 (λz=>h (o9 z))];exact(x6.mpr h).symm
 rw[e3];rwa[Fz _ _ _ _]
def Vy{xs ys:List Int} : ((Aj (min xs.length ys.length)).all (λj=>decide (xs[j]?=ys[j]?))&&xs.length == ys.length)=decide (xs=ys):=by
 by_cases h:xs=ys
 ·subst h;rw[x3 rfl,p5];rwa[Ah.mpr λj _=>x3 rfl,by simp]
 ·rw[x4 h,Bool.and_eq_false_iff];by_cases hl:xs.length=ys.length
  ·left;rw[DW];intro z;apply h;rw[Ah] at z;erw[DX λj=>?_];by_cases hj:j<xs.length
   ·rwa[of_decide_eq_true (z j (Az.mpr (by lia)))]
   ·rw[AF (by lia),AF (by lia)]
  ·right;rwa[x6.mpr hl]
section
variable{X:Cx}
def rEqT(K:b7)(neg:Bool):R2:=λx y H Q=>∃(a b:b9)(xs ys:List Int),x=.ref a/\y=.ref b/\SqT K H a (xs.map V.int)/\SqT K H b (ys.map V.int)/\Q (.bl (if neg then !decide (xs=ys) else decide (xs=ys))) H
def dS(hu:X.A.units<cLine):OpR X (compareOp .Eq) (rEqT X.K Ir):=by
 intro Is s σ H x y v u Q I rx ry h;obtain⟨a,b,xs,ys,rfl,rfl,h1,h2,q⟩:=h;cases rx;cases ry;obtain⟨us,r1,p1,_⟩:=I.tuple h1;obtain⟨ws,r2,p2,_⟩:=I.tuple h2;refine SeqAt.eq_tupleAt (e:=λj=>decide (xs[j]?=ys[j]?)) (show s.heap.IsTuple a us.toArray from p1) (show s.heap.IsTuple b ws.toArray from p2) hu (UQ r1 r2) ?_;have l1:=r1.length;have l2:=r2.length;rw[a7] at l1 l2;rw[i0,i0,<- l1,<- l2,Vy];rwa[.bl (decide (xs=ys)),H,I,U,q]
end
def xO{rows:List Int}{P:Int->Prop}(bd:∀ x∈rows,P x){k:Int}(k0:0<=k)(k1:k<rows.length):∃ v:Int,atI (rows.map V.int) k=Io (.int v)/\P v:=by
 have hk:k.toNat<rows.length:=by lia
 erw[rows[k.toNat],?_,bd _ (Bw hk)];have q:atI (rows.map V.int) ((k.toNat:Nat):Int)=Io (.int rows[k.toNat]):=wZ (by rw[e7,d4 hk] <;> rfl);rw[show((k.toNat:Nat):Int)=k from by lia] at q;rwa[q]
end L2

namespace L2
end L2

namespace L2
end L2

namespace L2
def oX{xs:List V}{us:List c7}(r:yO xs us):∀ is:List Nat,yO (is.filterMap λi=>xs[i]?) (is.filterMap λi=>us[i]?)
 | []=>.nil
 | i::is=>by
  cases e:xs[i]? with
  | none =>
   rw[AV e,AV (yO.none_of r e)];rwa[oX r is]
  | some x =>
   obtain⟨u,eu,ru⟩:=r.get e;rw[AD e,AD eu];rwa[.cons ru (oX r is)]
def fD:∀{rs:List b9}{us:List c7},yO (rs.map V.ref) us->us=rs.map i9
 | [],_,r=>by cases r; rfl
 | a::rs,_,r=>by
  cases r with
  | cons r1 r2 =>
   cases r1;rw[fD r2];rfl
def Same.putNew{H H4:Hp}{D:b9}{o:HO}(s:Same H H4)(h:H D=Ip):Same H (upd H4 D o):=λb u q=>by
 rw[zH (zF q h)];rwa[s _ _ q]
abbrev Pr:=b9×Int×Int
abbrev wN(ps:List Pr):List V:=(ps.map (·.1)).map V.ref
def Uw(H:Hp)(M:Nat)(ps:List Pr):Prop:=∀ t∈ps,H t.1=Io (.tup [.int t.2.1,.int t.2.2])/\t.2.1.natAbs<=M/\t.2.2.natAbs<=M
def Uw.same{H H':Hp}{M:Nat}{ps:List Pr}(h:Uw H M ps)(s:Same H H'):Uw H' M ps:=λt ht=>⟨s _ _ (h t ht).1,(h t ht).2⟩
def xQ(ps:List Pr):(wN ps).length=ps.length:=by simp[wN]
def nD{ps:List Pr}{i:Nat}{k:Int}(e:k=i)(h:i<ps.length):∃ t,t∈ps/\ps[i]?=Io t/\atI (wN ps) k=Io (.ref t.1):=by
 erw[ps[i],Bw h,d4 h,?_];rw[e];rwa[wZ (by rw[e7,e7,d4 h] <;> rfl)]
end L2

namespace L2
def crs(p q r:Int×Int):Int:=(q.1-p.1)*(r.2-p.2)-(q.2-p.2)*(r.1-p.1)
def ptA(ps:List (b9×Int×Int))(i:Nat):Int×Int:=((ps[i]?).map (·.2)).getD (0,0)
def aD{ps:List (b9×Int×Int)}{i:Nat}{t:b9×Int×Int}(h:ps[i]?=Io t):ptA ps i=t.2:=by
 unfold ptA;rw[h];rfl
def cS(ps:List (b9×Int×Int))(i k:Nat):Bool:=decide (0<crs (ptA ps i) (ptA ps ((i+1)%ps.length)) (ptA ps k))
def tK(ps:List (b9×Int×Int))(i:Nat):Bool:=(Aj (ps.length-2)).all λj=>cS ps i ((i+(2+j))%ps.length)
def isB(ps:List (b9×Int×Int)):Bool:=decide (3<=ps.length)&&(decide (ps.length<=8)&&(Aj ps.length).all (tK ps))
end L2

namespace PySem.W
open PySem PySem.Calls PyProof.Rows
section
variable{O:KeyOrd}(key:Nat->O.α)
structure PIn(n:Nat)(p:Array Nat):Prop where
 perm:p.Perm (f7 (Aj n))
variable{key}{n:Nat}
end
end PySem.W

namespace L2
open PySem PySem.Spec PyProof.Rows PySem.W
def vx:∀ rs:List b9,yO (rs.map V.ref) (rs.map i9)
 | []=>.nil
 | _::rs=>.cons rfl (vx rs)
section
variable{X:Cx}
def tE:bootBuiltins "sorted" = Io (.builtin "sorted"):=by ac_nf
end
end L2

namespace L2
section
variable{κ:Type}[DecidableEq κ]
def wS(kvs:List (κ×V))(k:κ):Option V:=(kvs.find? λkv=>decide (kv.1=k)).map (·.2)
def rO(kvs:List (κ×V))(k:κ)(v:V):List (κ×V) :=
 if (kvs.any λkv=>decide (kv.1=k))=Iq then kvs.map (λkv=>if kv.1=k then(kv.1,v) else kv) else kvs++[(k,v)]
def pe(kvs:List (κ×V))(k:κ):List (κ×V):=kvs.filter λkv=>decide (kv.1≠k)

def wW{p:κ×V}{r:List (κ×V)}{k:κ}(e:p.1=k):wS (p::r) k=Io p.2:=by simp[wS,As,e]
def wI{p:κ×V}{r:List (κ×V)}{k:κ}(e:¬ p.1=k):wS (p::r) k=wS r k:=by simp[wS,As,e]
def pD(k:κ):∀ kvs:List (κ×V),(kvs.any λkv=>decide (kv.1=k))=(wS kvs k).isSome
 | []=>rfl
 | p::r=>by
  rw[AT];by_cases e:p.1=k
  ·simp only[wW e,x3 e,HS,Option.isSome_some]
  ·rw[wI e,x4 e,Bool.false_or]; rwa[pD k r]
def dZ(k j:κ)(y:V):∀ kvs:List (κ×V),wS (kvs.map λkv=>if kv.1=k then(kv.1,y) else kv) j=(wS kvs j).map λx=>if j=k then y else x
 | []=>rfl
 | p::r=>by
  have ih:=dZ k j y r;rw[l9];by_cases h:p.1=k
  ·rw[y9 h];by_cases e:p.1=j
   ·rw[wW (p:=(p.1,y)) e,wW e,B6,y9 (e.symm.trans h)]
   ·rw[wI (p:=(p.1,y)) e,wI e,ih]
  ·rw[y7 h];by_cases e:p.1=j
   ·rw[wW (p:=p) e,wW e,B6,y7 (λz=>h (e.trans z))]
   ·rw[wI (p:=p) e,wI e,ih]
def jQ(k j:κ)(y:V):∀ kvs:List (κ×V),wS kvs k=Ip->wS (kvs++[(k,y)]) j=if j=k then Io y else wS kvs j
 | [],_=>by
  by_cases e:k=j
  ·rw[y9 e.symm]; rwa[wW (p:=(k,y)) e]
  ·rw[y7 (λz=>e z.symm)]; rwa[wI (p:=(k,y)) e]
 | p::r,hn=>by
  rw[Gi];have hk:¬ p.1=k:=λz=>by rw[wW z] at hn; cases hn
  rw[wI hk] at hn;have ih:=jQ k j y r hn;by_cases e:p.1=j
  ·rw[wW e,wW e,y7 (λz=>hk (e.trans z))]
  ·rw[wI e,wI e,ih]
def eN(kvs:List (κ×V))(k j:κ)(y:V):wS (rO kvs k y) j=if j=k then Io y else wS kvs j:=by
 unfold rO;by_cases a:(kvs.any λkv=>decide (kv.1=k))=Iq
 ·rw[y9 a,dZ];rw[pD] at a;by_cases e:j=k
  ·obtain⟨x,hx⟩:=k9.mp a;rw[y9 e,e,hx,B6,y9 rfl]
  ·rw[y7 e];cases wS kvs j with
   | none=>rfl
   | some x=>rw[B6,y7 e]
 ·rw[y7 a];erw[jQ k j y kvs ?_];rw[pD] at a;cases q:wS kvs k with
  | none=>rfl
  | some x=>rw[q] at a; exact(a rfl).elim
def wk(kvs:List (κ×V))(k:κ)(v:V):(rO kvs k v).length<=kvs.length+1:=by
 unfold rO;split
 ·rw[a7]; lia
 ·rw[f8,m9,Ax]; lia
def jz.isSome_eq{o:Option V}{u:Option c7}(r:jz o u):o.isSome=u.isSome:=by
 cases o with
 | none=>cases u with
  | none=>rfl
  | some _=>exact(show False from r).elim
 | some _=>cases u with
  | none=>exact(show False from r).elim
  | some _=>rfl
def KV.val{kvs:List (κ×V)}{vs:List (κ×c7)}(r:KV kvs vs)(k:κ):jz (wS kvs k) (valueAt vs k):=by
 unfold KV at r
 induction r with
 | nil=>rwa[t5]
 | @cons p q ps qs h t ih =>
  obtain⟨h1,h2⟩:=h;by_cases e:p.1=k
  ·have e':q.1=k:=h1.symm.trans e;have b:valueAt (q::qs) k=Io q.2:=by simp[valueAt,As,e']
   rw[wW e,b]; rwa[h2]
  ·have e':¬ q.1=k:=λz=>e (h1.trans z);have b:valueAt (q::qs) k=valueAt qs k:=by simp[valueAt,As,e']
   rw[wI e,b]; rwa[ih]
def KV.any{kvs:List (κ×V)}{vs:List (κ×c7)}(r:KV kvs vs)(k:κ):(kvs.any λkv=>decide (kv.1=k))=vs.any λkv=>decide (kv.1=k):=by
 unfold KV at r
 induction r with
 | nil=>rfl
 | cons h t ih=>rw[AT,AT,ih,h.1]
def KV.repl{kvs:List (κ×V)}{vs:List (κ×c7)}(r:KV kvs vs)(k:κ){y:V}{u:c7}(ry:xF y u) :
  KV (kvs.map λkv=>if kv.1=k then(kv.1,y) else kv) (vs.map λkv=>if kv.1=k then(kv.1,u) else kv):=by
 unfold KV at r ⊢
 induction r with
 | nil=>rwa[.nil]
 | @cons p q ps qs h t ih =>
  rw[l9,l9];erw[.cons ?_ ih];obtain⟨h1,h2⟩:=h;by_cases e:p.1=k
  ·rw[y9 e,y9 (h1.symm.trans e)]; rwa[h1,ry]
  ·rw[y7 e,y7 (λz=>e (h1.trans z))]; rwa[h1,h2]
def KV.put{kvs:List (κ×V)}{vs:List (κ×c7)}(r:KV kvs vs)(k:κ){y:V}{u:c7}(ry:xF y u):KV (rO kvs k y) (stored vs k u):=by
 unfold rO stored;rw[r.any k];by_cases e:(vs.any λkv=>decide (kv.1=k))=Iq
 ·rw[y9 e,y9 e]; rwa[r.repl k ry]
 ·rw[y7 e,y7 e]; rwa[Ia r ⟨rfl,ry⟩]
def KV.drop{kvs:List (κ×V)}{vs:List (κ×c7)}(r:KV kvs vs)(k:κ):KV (pe kvs k) (without vs k):=by
 unfold KV at r ⊢;unfold pe without
 induction r with
 | nil=>rwa[.nil]
 | @cons p q ps qs h t ih =>
  obtain⟨h1,h2⟩:=h;rw[Gj,Gj];by_cases e:p.1=k
  ·have a:¬ decide (p.1≠k)=true:=by simp[e]
   have b:¬ decide (q.1≠k)=true:=by simp[h1.symm.trans e]
   rw[y7 a,y7 b]; rwa[ih]
  ·have e':¬ q.1=k:=λz=>e (h1.trans z);have a:decide (p.1≠k)=true:=by simp[e]
   have b:decide (q.1≠k)=true:=by simp[e']
   rw[y9 a,y9 b]; rwa[.cons ⟨h1,h2⟩ ih]
def KV.length{kvs:List (κ×V)}{vs:List (κ×c7)}(r:KV kvs vs):kvs.length=vs.length:=Fk r
def dW(kvs:List (κ×V))(k:κ):(pe kvs k).length<=kvs.length:=BD _ _
end


def kW{P:j9}{w:n9}{k:Key}{u:c7}(r:xF (kV k) u):(yK P w).is k u=true:=by
 cases k with
 | inl i=>obtain⟨t,e⟩:=(show ∃ t,u=BF i t from r); subst e; rwa[fu P w i t]
 | inr x=>obtain⟨t,e⟩:=(show ∃ t,u=AO x t from r); subst e; rwa[wn P w x t]
def gH{P:j9}{w:n9} : ∀{ks:List Key}{us:List c7},yO (ks.map kV) us->ItemsAre (yK P w) ks us
 | [],_,r=>by rw[CT] at r; cases r; rwa[.nil]
 | k::ks,_,r=>by
  rw[l9] at r;cases r with
  | cons h t=>rwa[.cons (kW h) (gH t)]

abbrev KT(H:Hp):List (List Key×V)->List (List Key×b9×c7)->Prop:=F6 λp q=>p.1=q.1/\H q.2.1=Io (.tup (p.1.map kV))/\xF p.2 q.2.2
def KT.val{H:Hp}{kvs:List (List Key×V)}{xs:List (List Key×b9×c7)}(r:KT H kvs xs)(k:List Key):jz (wS kvs k) ((atKey xs k).map (·.2)):=by
 induction r with
 | nil=>rwa[t5]
 | @cons p q ps qs h t ih =>
  obtain⟨h1,_,h2⟩:=h;by_cases e:p.1=k
  ·have e':q.1=k:=h1.symm.trans e;have b:atKey (q::qs) k=Io q.2:=by simp[atKey,As,e']
   rw[wW e,b]; rwa[h2]
  ·have e':¬ q.1=k:=λz=>e (h1.trans z);have b:atKey (q::qs) k=atKey qs k:=by simp[atKey,As,e']
   rw[wI e,b]; rwa[ih]
def KT.repl{H:Hp}{kvs:List (List Key×V)}{xs:List (List Key×b9×c7)}(r:KT H kvs xs)(k:List Key){y:V}{u:c7}(ry:xF y u) :
  KT H (kvs.map λkv=>if kv.1=k then(kv.1,y) else kv) (xs.map (putAt k u)):=by
 induction r with
 | nil=>rwa[.nil]
 | @cons p q ps qs h t ih =>
  rw[l9,l9];erw[.cons ?_ ih];obtain⟨h1,h2,h3⟩:=h;unfold putAt;by_cases e:p.1=k
  ·rw[y9 e,y9 (h1.symm.trans e)]; rwa[h1,h2,ry]
  ·rw[y7 e,y7 (λz=>e (h1.trans z))]; rwa[h1,h2,h3]
def KT.put{H:Hp}{kvs:List (List Key×V)}{xs:List (List Key×b9×c7)}(r:KT H kvs xs)(k:List Key){b:b9}{y:V}{u:c7}(hb:H b=Io (.tup (k.map kV)))(ry:xF y u) :
  KT H (rO kvs k y) (storedH xs k b u):=by
 have e:(kvs.any λkv=>decide (kv.1=k))=(atKey xs k).isSome:=by
  rw[pD,(r.val k).isSome_eq,Av]
 unfold rO storedH;rw[e];by_cases q:(atKey xs k).isSome=Iq
 ·rw[y9 q,y9 q]; rwa[r.repl k ry]
 ·rw[y7 q,y7 q]; rwa[Ia r ⟨rfl,hb,ry⟩]
def KT.keeps{H H':Hp}{kvs:List (List Key×V)}{xs:List (List Key×b9×c7)}(r:KT H kvs xs)(ht:∀ b ys,H b=Io (.tup ys)->H' b=Io (.tup ys)):KT H' kvs xs :=
 Paired.mapP r λ_ _ z=>⟨z.1,ht _ _ z.2.1,z.2.2⟩

section
variable{P:j9}{w:n9}{H:Hp}{h:o0}{a:b9}
def Uj{u:HO}(ok:HOk P w H h)(e:Rd H a u):xI P w H h a u:=e.ok ok
def lN{kvs:List (Key×V)}(ok:HOk P w H h)(e:Rd H a (.dK kvs)):kvs.length<=sizeLine/\(a == sysModules)=Ir/\∃ vs,KV kvs vs/\h.DictOf (yK P w) a vs :=
 show xI P w H h a (.dK kvs) from Uj ok e
def YO{kvs:List (Key×V)}(ok:HOk P w H h)(e:H a=Io (.dK kvs)):kvs.length<=sizeLine/\(a == sysModules)=Ir/\∃ vs,KV kvs vs/\h.DictOf (yK P w) a vs:=lN ok (.inl e)
def iu{ks:List Key}(ok:HOk P w H h)(e:H a=Io (.tup (ks.map kV))):(tupleKind (yK P w)).is h ks a:=by
 obtain⟨_,its,r,o,h1,h2,n,h3⟩:=(show xI P w H h a (.tup (ks.map kV)) from ok a _ e);exact⟨o,its.toArray,n,h1,h2,h3,by simpa using gH r⟩
def cN{kvs:List (List Key×V)}(ok:HOk P w H h)(e:Rd H a (.dT kvs)):kvs.length<=sizeLine/\(a == sysModules)=Ir /\
  ∃ xs,KT H kvs xs/\h.DictOfH (tupleKind (yK P w)) a xs:=by
 obtain⟨z,y,xs,r,o,es,ep,h1,h2,h3,h4,h5⟩:=(show xI P w H h a (.dT kvs) from Uj ok e);refine⟨z,y,xs,r,o,es,ep,h1,h2,h3,h4,λx hx=>?_,h5⟩;have all:∀{l:List (List Key×V)}{m:List (List Key×b9×c7)},KT H l m->∀ x∈m,(tupleKind (yK P w)).is h x.1 x.2.1:=by
  intro l m q
  induction q with
  | nil=>intro x hx; exact nomatch hx
  | @cons p q ps qs hq t ih =>
   intro x hx;rcases i7.mp hx with e | hx
   ·subst e;rwa[iu ok (by rw[<- hq.1]; exact hq.2.1)]
   ·rwa[ih x hx]
 rwa[all r x hx]
def dt_of{kvs:List (List Key×V)}(ok:HOk P w H h)(e:H a=Io (.dT kvs)):kvs.length<=sizeLine/\(a == sysModules)=Ir /\
  ∃ xs,KT H kvs xs/\h.DictOfH (tupleKind (yK P w)) a xs:=cN ok (.inl e)
end

def Yj(H:Hp)(a:b9)(y:V)(r:Option V):Prop :=
 (∃ kvs k,Rd H a (.dK kvs)/\y=kV k/\r=wS kvs k)\/∃ kvs k b,Rd H a (.dT kvs)/\y=.ref b/\H b=Io (.tup (k.map kV))/\r=wS kvs k
def iE(H:Hp)(a:b9)(y v:V)(H':Hp):Prop :=
 (∃ kvs k,H a=Io (.dK kvs)/\y=kV k/\kvs.length<sizeLine/\H'=upd H a (.dK (rO kvs k v))) \/
 ∃ kvs k b,H a=Io (.dT kvs)/\y=.ref b/\H b=Io (.tup (k.map kV))/\kvs.length<sizeLine/\H'=upd H a (.dT (rO kvs k v))
def iE.k{H:Hp}{a:b9}{kvs:List (Key×V)}{k:Key}{v:V}(e:H a=Io (.dK kvs))(hl:kvs.length<sizeLine):iE H a (kV k) v (upd H a (.dK (rO kvs k v))):=.inl ⟨kvs,k,e,rfl,hl,rfl⟩
section
variable{X:Cx}{Is:List (b9×AM)}{σ:St}{H:Hp}{s:d3}{a:b9}{y v:V}{u r:c7}{o:Option V}{A:Ac}{E:c7->d3->Prop}

def Inv.big(I:Inv X Is σ H s):sysModules<s.heap.objs.size:=by
 have h:mainGlobals<s.heap.objs.size:=(I.mod.glob.keeps I.bk).lt;rwa[Bf (by decide) h]

def ZO{Q:c7->d3->Prop}(hu:A.units+1<cLine)(I:Inv X Is σ H s)(g:Yj H a y (Io v))(ry:xF y u)(h:∀ w' s',Inv X Is σ H s'->xF v w'->Q w' s') :
  wpAny (model X.prog X.w) A (getItem (.ref a) u) Q E s:=by
 rcases g with ⟨kvs,k,e,ey,l⟩ | ⟨kvs,k,b,e,ey,eb,l⟩
 ·subst ey;obtain⟨z,hd,vs,rel,dd⟩:=lN I.hok e;obtain⟨w',hw,rw'⟩:=jz.some_of (v:=v) (o:=valueAt vs k) (by rw[l]; rwa[rel.val k]);rwa[Gk (kW ry) dd.mapOf hw (h w' _ (I.tok _) rw')]
 ·subst ey;cases (show u=i9 b from ry);obtain⟨z,hd,xs,rel,dd⟩:=cN I.hok e;obtain⟨w',hw,rw'⟩:=jz.some_of (v:=v) (o:=(atKey xs k).map (·.2)) (by rw[l]; rwa[rel.val k]);obtain⟨p,hp,hp2⟩:=j6.mp hw;erw[wpAny_getItem_heap (tupleKind_room_in1 hu) (iu I.hok eb) dd hp ?_];rw[hp2];rwa[h w' _ (I.tok _) rw']
def d_in{Q:c7->d3->Prop}(hu:A.units+1<cLine)(I:Inv X Is σ H s)(g:Yj H a y o)(ry:xF y u)(h:∀ s',Inv X Is σ H s'->Q (.bool o.isSome) s') :
  wpAny (model X.prog X.w) A (compareOp .In u (.ref a)) Q E s:=by
 rcases g with ⟨kvs,k,e,ey,l⟩ | ⟨kvs,k,b,e,ey,eb,l⟩
 ·subst ey;obtain⟨z,hd,vs,rel,dd⟩:=lN I.hok e;erw[wpAny_in_of (kW ry) hd dd.mapOf ?_];rw[<- (rel.val k).isSome_eq,<- l];rwa[h _ (I.tok _)]
 ·subst ey;cases (show u=i9 b from ry);obtain⟨z,hd,xs,rel,dd⟩:=cN I.hok e;erw[wpAny_in_heap (tupleKind_room_in1 hu) (iu I.hok eb) hd dd ?_];have q:=(rel.val k).isSome_eq;rw[Av] at q;rw[<- q,<- l];rwa[h _ (I.tok _)]
def Vf{Q:c7->d3->Prop}(hu:A.units+1<cLine)(I:Inv X Is σ H s)(g:Yj H a y o)(ry:xF y u)(h:∀ s',Inv X Is σ H s'->Q (.bool (!o.isSome)) s') :
  wpAny (model X.prog X.w) A (compareOp .NotIn u (.ref a)) Q E s:=by
 rcases g with ⟨kvs,k,e,ey,l⟩ | ⟨kvs,k,b,e,ey,eb,l⟩
 ·subst ey;obtain⟨z,hd,vs,rel,dd⟩:=lN I.hok e;erw[wpAny_notIn_of (kW ry) hd dd.mapOf ?_];rw[<- (rel.val k).isSome_eq,<- l];rwa[h _ (I.tok _)]
 ·subst ey;cases (show u=i9 b from ry);obtain⟨z,hd,xs,rel,dd⟩:=cN I.hok e;erw[wpAny_notIn_heap (tupleKind_room_in1 hu) (iu I.hok eb) hd dd ?_];have q:=(rel.val k).isSome_eq;rw[Av] at q;rw[<- q,<- l];rwa[h _ (I.tok _)]
def nE{h':o0}{t':Nat}{ob:HO}(I:Inv X Is σ H s)(mu:Mut (H a))(hs:A3 a s.heap h')(he:∃ q,h'.get? a=Io q)(new:xI X.prog X.w (upd H a ob) h' a ob) :
  Inv X Is σ (upd H a ob) { s with heap:=h',toks:=t' } :=
 I.write (x:=a) (e:=a) mu (.inl rfl) (λb q hb z=>(hs.2 b hb).trans z) he new
def iZ{P:j9}{w:n9}{H':Hp}{h':o0}{kvs:List (Key×V)}{vs:List (Key×c7)}(z:kvs.length<=sizeLine)(hd:(a == sysModules)=Ir)(rel:KV kvs vs)(dd:h'.DictOf (yK P w) a vs) :
  xI P w H' h' a (.dK kvs):=⟨z,hd,vs,rel,dd⟩
def aJ{H':Hp}{Q:Unit->d3->Prop}(hu:A.units+1<cLine)(I:Inv X Is σ H s)(g:iE H a y v H')(ry:xF y u)(rv:xF v r)(h:∀ s',Inv X Is σ H' s'->Q () s') :
  wpAny (model X.prog X.w) A (setItem (.ref a) u r) Q E s:=by
 rcases g with ⟨kvs,k,e,ey,l,eH⟩ | ⟨kvs,k,b,e,ey,eb,l,eH⟩
 ·subst ey eH;obtain⟨z,hd,vs,rel,dd⟩:=YO I.hok e;have hz:vs.length<=sizeLine:=by rw[<- rel.length]; rwa[z]
  have hl:(rO kvs k v).length<=sizeLine:=by have:=wk kvs k v; lia
  erw[wpAny_setItem_pairs (hsz:=hz) (kW ry) dd λh' dd' hs=>h _ ?_];have he:∃ q,h'.get? a=Io q:=let ⟨q,_,_,hq,_⟩:=dd';⟨q,hq⟩;rwa[nE I (by rw[e]; exact t5) hs he (iZ hl hd (rel.put k rv) dd')]
 ·subst ey eH;cases (show u=i9 b from ry);obtain⟨z,hd,xs,rel,dd⟩:=dt_of I.hok e;have hz:xs.length<=sizeLine:=by rw[<- Fk rel]; rwa[z]
  have hl:(rO kvs k v).length<=sizeLine:=by have:=wk kvs k v; lia
  erw[wpAny_setItem_heap (hsz:=hz) (tupleKind_room_in1 hu) (iu I.hok eb) dd λh' dd' hs=>h _ ?_];obtain⟨q,es,ep,hq,h2,h3,h4,_,h5⟩:=dd';erw[nE I (by rw[e]; rwa[t5]) hs ⟨q,hq⟩ ⟨hl,hd,_,(rel.put k eb rv).keeps λc ys ec=>?_,q,es,ep,hq,h2,h3,h4,h5⟩];rw[zH (oJ ec e (λz=>nomatch z))];rwa[ec]
end

section
variable{X:Cx}{Is:List (b9×AM)}{σ:St}{H:Hp}{s:d3}{a:b9}{kvs:List (Key×V)}{k:Key}{u:c7}{A:Ac}{E:c7->d3->Prop}
def Tx{Q:Unit->d3->Prop}(I:Inv X Is σ H s)(e:H a=Io (.dK kvs))(ry:xF (kV k) u)(l:(wS kvs k).isSome=Iq)(h:∀ s',Inv X Is σ (upd H a (.dK (pe kvs k))) s'->Q () s') :
  wpAny (model X.prog X.w) A (delItem (.ref a) u) Q E s:=by
 obtain⟨z,hd,vs,rel,dd⟩:=YO I.hok e;refine wpAny_delItem_slot dd.typeIs (by decide) DN
  (call_meetsIn DN dd.typeIs PySem.F.entry_dict_delitem (PySem.F.args_dict_delitem_2 _ _) (meets_dict_delitem_pairs (yK X.prog X.w) a (kW ry)) ⟨vs,dd,by rw[<- rel.length]; exact z,by rw[<- (rel.val k).isSome_eq]; exact l,λh' dd' hs=>h _ ?_⟩)
 have he:∃ q,h'.get? a=Io q:=let ⟨q,_,_,hq,_⟩:=dd';⟨q,hq⟩;rwa[nE I (by rw[e]; exact t5) hs he (iZ (j7 (dW kvs k) z) hd (rel.drop k) dd')]
def d_pop{v:V}{more:List c7}{Q:c7->d3->Prop}(I:Inv X Is σ H s)(e:H a=Io (.dK kvs))(ry:xF (kV k) u)(l:wS kvs k=Io v)(hm:more=[]\/∃ x,more=[x])
  (h:∀ w' s',Inv X Is σ (upd H a (.dK (pe kvs k))) s'->xF v w'->Q w' s'):wpAny (model X.prog X.w) A (call (.builtin "dict.pop") (.ref a::u::more)) Q E s:=by
 obtain⟨z,hd,vs,rel,dd⟩:=YO I.hok e;obtain⟨w',hw,rw'⟩:=jz.some_of (v:=v) (o:=valueAt vs k) (by rw[<- l]; exact rel.val k);have hp:(keyPart u).isSome=true:=by
  cases k with
  | inl i=>obtain⟨t,q⟩:=(show ∃ t,u=BF i t from ry); subst q; rfl
  | inr x=>obtain⟨t,q⟩:=(show ∃ t,u=AO x t from ry); subst q; rfl
 have ha:argsOk "dict.pop" ⟨.ref a::u::more,[]⟩:=by
  rcases hm with q | ⟨x,q⟩
  ·subst q; rwa[PySem.F.args_dict_pop_2 _ _]
  ·subst q; rwa[PySem.F.args_dict_pop_3 _ _ _]
 refine call_meetsIn ER dd.typeIs PySem.F.entry_dict_pop ha (meets_dict_pop_there (yK X.prog X.w) a (kW ry) more hm hp)
  ⟨vs,w',dd,by rw[<- rel.length]; exact z,hw,λh' dd' hs=>h w' _ ?_ rw'⟩
 have he:∃ q,h'.get? a=Io q:=let ⟨q,_,_,hq,_⟩:=dd';⟨q,hq⟩;rwa[nE I (by rw[e]; exact t5) hs he (iZ (j7 (dW kvs k) z) hd (rel.drop k) dd')]
def d_len{Q:c7->d3->Prop}(I:Inv X Is σ H s)(e:Rd H a (.dK kvs))(h:∀ t s',Inv X Is σ H s'->Q (.int kvs.length t) s'):wpAny (model X.prog X.w) A (call (.builtin "len") [.ref a]) Q E s:=by
 obtain⟨z,hd,vs,rel,dd⟩:=lN I.hok e;refine call_len_dict hd dd (by rw[<- rel.length]; rw[sizeLine_eq] at z; lia) ?_;rw[<- rel.length];rwa[h _ _ (I.tok _)]
end


def TV(i:w4):Prop:=∀ ov iv,subscripted i Ir ov iv=operate [ov,iv] (getItem ov iv)
def gM{prog:j9}{w:n9}{A:Ac}{E:c7->d3->Prop}{s:d3}{env:Do}{value slice:w4}{pos:Co}{T id:String}{Q:c7->d3->Prop}
  (hl:typeLookup (.type T) "__getitem__" = pure (Io (.builtin id))) (hs:TV slice)
  (h:wpAny (model prog w) A (eval value env) (λo s₁=>wpAny (model prog w) A (eval slice env) (λi s₂=>s₂.TypeIs o T/\wpAny (model prog w) A (getItem o i) Q E s₂) E s₁) E s) :
  wpAny (model prog w) A (eval (.Subscript value slice pos) env) Q E s:=by
 refine GK (Ba h (λo s₁ h₁=>Ba h₁ (λi s₂ h₂=>?_) λ_ _ x=>x) λ_ _ x=>x);obtain⟨hT,h₂⟩:=h₂;unfold subscriptTail;refine ac ?_;rw[getitemInPython_of_ne hT.not_modules];refine ac (GE hT hl ?_);have fin:wpAny (model prog w) A (subscripted slice Ir o i) (λr s₃=>wpAny (model prog w) A (letTemporaryGo value o r >>= λ_=>pure r) Q E s₃) E s₂:=by
  rw[hs o i];rwa[wpAny_operating (Ba h₂ (λr s₃ h₃=>ac (wpAny_letTemporaryGo (d7 h₃))) λ_ _ x=>x)]
 first
  | exact d7 (ac fin)
  | exact ac (d7 (ac fin))
  | exact ac fin

def fL{X:Cx}{Is:List (b9×AM)}{σ:St}{H:Hp}{s:d3}{a:b9}{y:V}{o:Option V}(I:Inv X Is σ H s)(g:Yj H a y o):s.TypeIs (.ref a) "dict" := by
 rcases g with ⟨kvs,k,e,_,_⟩ | ⟨kvs,k,b,e,_,_,_⟩
 ·obtain⟨_,_,vs,_,dd⟩:=lN I.hok e;rwa[dd.typeIs]
 ·obtain⟨_,_,xs,_,dd⟩:=cN I.hok e;rwa[dd.typeIs]
def tDGet(td ty:TE):TE:=λσ H Q=>td σ H λx H1=>ty σ H1 λy H2=>∃ a v,x=.ref a/\Yj H2 a y (Io v)/\Q v H2
def tDIn(ty td:TE):TE:=λσ H Q=>ty σ H λy H1=>td σ H1 λx H2=>∃ a o,x=.ref a/\Yj H2 a y o/\Q (.bl o.isSome) H2
def WU(ty td:TE):TE:=λσ H Q=>ty σ H λy H1=>td σ H1 λx H2=>∃ a o,x=.ref a/\Yj H2 a y o/\Q (.bl (!o.isSome)) H2
def sDPut(td ty tv:TE):TS:=λD σ H=>tv σ H λv H1=>td σ H1 λx H2=>ty σ H2 λy H3=>∃ a H4,x=.ref a/\iE H3 a y v H4/\D.nx σ H4
section
variable{X:Cx}{o i e value:w4}{pos pos' tpos:Co}{td ty tv:TE}
def zO(hu:X.A.units+1<cLine)(ho:PE X o td)(hi:PE X i ty)(hs:TV i):PE X (.Subscript o i pos) (tDGet td ty):=by
 intro Is s σ H Q I h;erw[gM Cs.lookup hs (thn (ho Is s σ H _ I h) λu s1 ⟨x,H1,I1,rx,q1⟩=>thn (hi Is s1 σ H1 _ I1 q1) λiv s2 ⟨y,H2,I2,ry,a,v,ex,g,q2⟩=>?_)];subst ex;obtain rfl:u=i9 a:=rx;rwa[fL I2 g,ZO hu I2 g ry λw' s3 I3 rw'=>⟨v,H2,I3,rw',q2⟩]
def hJ(hu:X.A.units+1<cLine)(hi:PE X i ty)(ho:PE X o td):PC X .In i o (tDIn ty td):=by
 intro Is s σ H Q I h;erw[thn (hi Is s σ H _ I h) λiv s1 ⟨y,H1,I1,ry,q1⟩=>thn (ho Is s1 σ H1 _ I1 q1) λu s2 ⟨x,H2,I2,rx,a,ov,ex,g,q2⟩=>?_];subst ex;obtain rfl:u=i9 a:=rx;rwa[d_in hu I2 g ry λs3 I3=>⟨.bl ov.isSome,H2,I3,rfl,q2⟩]
def sP(hu:X.A.units+1<cLine)(hi:PE X i ty)(ho:PE X o td):PC X .NotIn i o (WU ty td):=by
 intro Is s σ H Q I h;erw[thn (hi Is s σ H _ I h) λiv s1 ⟨y,H1,I1,ry,q1⟩=>thn (ho Is s1 σ H1 _ I1 q1) λu s2 ⟨x,H2,I2,rx,a,ov,ex,g,q2⟩=>?_];subst ex;obtain rfl:u=i9 a:=rx;rwa[Vf hu I2 g ry λs3 I3=>⟨.bl (!ov.isSome),H2,I3,rfl,q2⟩]
def rS(hu:X.A.units+1<cLine)(ho:PE X o td)(hi:PE X i ty)(hv:PE X value tv)(hs:swapsWith value (Io (.Subscript o i pos')) pos.line X.env=pure Ir) :
  PS X (.Assign [.Subscript o i pos'] value pos) (sDPut td ty tv):=by
 intro Is s σ H D I h;erw[wpAny_Assign_Subscript (thn (hv Is s σ H _ I h) λr s1 ⟨v,H1,I1,rv,q1⟩=>thn (ho Is s1 σ H1 _ I1 q1) λu s2 ⟨x,H2,I2,rx,q2⟩=>thn (hi Is s2 σ H2 _ I2 q2) λiv s3 ⟨y,H3,I3,ry,a,H4,ex,g,q3⟩=>?_) hs];subst ex;obtain rfl:u=i9 a:=rx;rwa[aJ hu I3 g ry rv λs4 I4=>⟨σ,H4,I4,q3⟩]
end


def eE{P:j9}{w:n9}{H:Hp}(h:o0)(hb:sysModules<h.objs.size):xI P w H (h.push { cls:=.type "dict",data:=.dict #[] }) h.objs.size (.dK []) :=
 ⟨t7 _,x6.mpr (AJ (l6 hb)),[],.nil,Heap.DictOf.new h⟩
def Tt:TE:=λ_ H Q=>∀ p,H p=Ip->Q (.ref p) (upd H p (.dK []))
section
variable{X:Cx}{pos:Co}
def rG:PE X (.Dict [] [] pos) Tt:=λIs s σ H Q I h =>
 wpAny_Dict_empty ⟨.ref s.heap.objs.size,_,I.laid (a:=s.heap.objs.size) (o:=.dK []) (t':=s.toks) (λ_ _ q=>c9 _ q) (d6 _) (eE s.heap I.big),rfl,h _ (I.hok.fresh (d6 _))⟩
end

def av:List (TE×TE)->St->Hp->(List (V×V)->Hp->Prop)->Prop
 | [],_,H,Q=>Q [] H
 | (tk,tv)::r,σ,H,Q=>tk σ H λx H1=>tv σ H1 λy H2=>av r σ H2 λps H3=>Q ((x,y)::ps) H3
abbrev VV:List (V×V)->List (c7×c7)->Prop:=F6 λp q=>xF p.1 q.1/\xF p.2 q.2
def PPs(X:Cx)(pos:Co)(keys:List (Option w4))(values:List w4)(trs:List (TE×TE)):Prop :=
 ∀(Is:List (b9×AM))(s:d3)(σ:St)(H:Hp)(Q:List (V×V)->Hp->Prop),Inv X Is σ H s->av trs σ H Q ->
  wpAny (model X.prog X.w) X.A (evalPairs (pairTrees keys values X.env pos)) (λvs s'=>∃ ps H',Inv X Is σ H' s'/\VV ps vs/\Q ps H') X.xe s
def fX{X:Cx}{pos:Co} : PPs X pos [] [] []:=λIs s σ H Q I h=>pairTrees_nil_walk ⟨[],H,I,.nil,h⟩
def wL{X:Cx}{pos:Co}{k v:w4}{ks:List (Option w4)}{vs:List w4}{tk tv:TE}{trs:List (TE×TE)}(hk:PE X k tk)(hv:PE X v tv)(hr:PPs X pos ks vs trs) :
  PPs X pos (Io k::ks) (v::vs) ((tk,tv)::trs):=λIs s σ H Q I h =>
 pairTrees_cons_walk (thn (hk Is s σ H _ I h) λu s1 ⟨x,H1,I1,rx,q1⟩=>thn (hv Is s1 σ H1 _ I1 q1) λw2 s2 ⟨y,H2,I2,ry,q2⟩ =>
  thn (hr Is s2 σ H2 _ I2 q2) λws s3 ⟨ps,H3,I3,rel,q3⟩=>⟨(x,y)::ps,H3,I3,.cons ⟨rx,ry⟩ rel,q3⟩)

def qw(kvs more:List (Key×V)):List (Key×V):=more.foldl (λacc kv=>rO acc kv.1 kv.2) kvs
def KV.merge:∀{more:List (Key×V)}{rs:List (Key×c7)}{kvs:List (Key×V)}{vs:List (Key×c7)},KV more rs->KV kvs vs->KV (qw kvs more) (merged vs rs):=by
 intro more rs kvs vs r;unfold KV at r
 induction r generalizing kvs vs with
 | nil=>intro q; rwa[q]
 | @cons p q ps qs h t ih =>
  intro r0;have e:KV (rO kvs p.1 p.2) (stored vs q.1 q.2):=by
   have:=r0.put p.1 h.2;rw[<- h.1]; rwa[this]
  rwa[ih e]
def vp:∀(more kvs:List (Key×V)),(qw kvs more).length<=kvs.length+more.length
 | [],kvs=>by show kvs.length<=kvs.length+0; lia
 | p::r,kvs=>by
  have h1:=vp r (rO kvs p.1 p.2);have h2:=wk kvs p.1 p.2;show(qw (rO kvs p.1 p.2) r).length<=_;rw[m9]; lia
def mQ{P:j9}{w:n9} : ∀{kvs:List (Key×V)}{ws:List (c7×c7)},VV (kvs.map λkv=>(kV kv.1,kv.2)) ws->∃ rs,Carries (yK P w) ws rs/\KV kvs rs
 | [],_,r=>by rw[CT] at r; cases r; rwa[[],t5,.nil]
 | p::kvs,_,r=>by
  rw[l9] at r;cases r with
  | @cons a b as bs h t =>
   obtain⟨rs,c,q⟩:=mQ (P:=P) (w:=w) t;obtain⟨b1,b2⟩:=b;rwa[(p.1,b2)::rs,⟨kW h.1,U,c⟩,.cons ⟨U,h.2⟩ q]
def tDisp(trs:List (TE×TE)):TE:=λσ H Q=>∀ p,H p=Ip->av trs σ (upd H p (.dK [])) λps H2=>H2 p=Io (.dK [])/\∃ kvs:List (Key×V),ps=kvs.map (λkv=>(kV kv.1,kv.2))/\kvs.length<=15/\Q (.ref p) (upd H2 p (.dK (qw [] kvs)))
def fk{X:Cx}{pos:Co}{keys:List (Option w4)}{values:List w4}{trs:List (TE×TE)}(h:PPs X pos keys values trs)(hall:keys.all (·.isSome)=Iq)(hl:keys.length=values.length)(h0:keys≠[])
  (h15:keys.length<=15):PE X (.Dict keys values pos) (tDisp trs):=by
 intro Is s σ H Q I q;have hn:=I.hok.fresh (d6 s.heap.objs.size);have I1:=I.laid (a:=s.heap.objs.size) (o:=.dK []) (h':=s.heap.push { cls:=.type "dict",data:=.dict #[] }) (t':=s.toks) (λ_ _ q=>c9 _ q) (d6 _) (eE s.heap I.big);refine wpAny_Dict_walk (knd:=yK X.prog X.w) hall hl h0 h15 (thn (h Is _ σ _ _ I1 (q _ hn)) λws s2 ⟨ps,H2,I2,rel,e,kvs,ep,lk,q2⟩=>?_);subst ep;obtain⟨rs,c,rk⟩:=mQ (P:=X.prog) (w:=X.w) rel;obtain⟨z,hd,vs0,r0,dd⟩:=YO I2.hok e;cases r0;refine⟨rs,c,dd,λh' dd' hs=>⟨.ref s.heap.objs.size,_,?_,U,q2⟩⟩;have hz:(qw [] kvs).length<=sizeLine:=by
  have h1:=vp kvs [];rw[Ax] at h1;rw[sizeLine_eq]; lia
 have he:∃ q,h'.get? s.heap.objs.size=Io q:=let ⟨q,_,_,hq,_⟩:=dd';⟨q,hq⟩;rwa[nE I2 (by rw[e]; exact t5) hs he (iZ hz hd (rk.merge .nil) dd')]



end L2

namespace L2
def ZX(h:o0)(a:b9)(rows:Array Bk)(age:Nat):Prop:=∃ ob,h.get? a=Io ob/\ob.ExactDict/\ob.data=.dict rows age
def ZX.at{h h':o0}{a:b9}{rows:Array Bk}{age:Nat}(x:ZX h a rows age)(e:∀ ob,h.get? a=Io ob->h'.get? a=Io ob):ZX h' a rows age:=let ⟨ob,g,r⟩:=x;⟨ob,e _ g,r⟩
def ZX.typeIs{z:d3}{a:b9}{rows:Array Bk}{age:Nat}(x:ZX z.heap a rows age):z.TypeIs (.ref a) "dict" := let ⟨ob,g,c,_⟩:=x;⟨ob,g,c.1⟩
section
variable{prog:j9}{w:n9}{A:Ac}{E:c7->d3->Prop}{z:d3}{it a:b9}{rows:Array Bk}{age k:Nat}
def Yk{R:c7->d3->Prop}(hs:(a == sysModules)=Ir)(x:ZX z.heap a rows age)(hR:R (.ref z.heap.objs.size) { z with heap:=z.heap.push { cls:=.type "dict_keyiterator",data:=.fields #[.ref a,.int 0 0,.int rows.size 0,.int age 0] } }) :
  wpAny (model prog w) A (pyIter (.ref a)) R E z:=by
 have ty:=x.typeIs;obtain⟨ob,g,_,dat⟩:=x;erw[FS ty Gm (Ar Gm ty F.entry_dict_iter ?walk (F.args_dict_iter_1 _))]
 case walk =>
  unfold Cn.«dict.__iter__» Hf;refine ac (ac (wpAny_notOrdered_dict ty (show wpAny _ _ (pure (i9 a)) _ _ z from d7 ?_)));show wpAny _ _ (ES a >>= _) _ _ z;unfold ES;rw[y7 (by rw[hs]; decide)];erw[ac (d7 (ac (DY g dat (ac (EG g dat ?_)))))];erw[ac (t6 (d7 ⟨_,rfl, "dict_keyiterator",_,⟨_,d9 _ rfl,rfl⟩,AW.lookup,?_⟩))];simpa [rawInt] using hR
def YK{R:Option c7->d3->Prop}(ki:z.heap.IsKeyIter it a k rows.size age)(x:ZX z.heap a rows age)(hk:k<rows.size)
  (hR:∀ h',h'.IsKeyIter it a (k+1) rows.size age->A3 it z.heap h'->R (Io rows[k].key) { z with heap:=h' }):wpAny (model prog w) A (pyNext (.ref it)) R E z:=by
 have ty:=ki.typeIs;obtain⟨oi,gi,ci,di⟩:=id ki;obtain⟨ob,g,_,dat⟩:=x;unfold pyNext;erw[ac (BP (Ap (name:=l5 "__next__") ty AW (Ar AW ty Da ?walk (C3 _))))]
 case walk =>
  erw[ac (d7 (ac (ac ?_)))]
  first | refine ac (Bj ty (d7 (ac (DH gi di ?_)))) | refine ac (BQ ty (d7 (ac (DH gi di ?_))))
  simp only[show Dj "dict_keyiterator" = Ir by decide,AX,if_false];show wpAny _ _ (if (i9 a == r9)=Iq then _ else _) _ _ z;rw[y7 (show ¬ ((i9 a == r9)=Iq) from h9)];erw[ac (d7 (ac (DY g dat ?_)))];rw[y7 (by simp)];erw[ac (d7 (ac (EG g dat ?_)))];rw[y7 (by simp)];erw[d7 ?_];simp only[show ¬ ((k:Int)<0) from by lia,if_false,AH,A8 hk];erw[ac ?_]
  first | refine ac (Bj ty (d7 (ac (CY ty ?_)))) | refine ac (BQ ty (d7 (ac (CY ty ?_))))
  show wpAny _ _ (setField (.ref it) 1 (rawInt ((k:Int)+1)) >>= _) _ _ z;refine ac (Bi gi di (by simp) ?_);have ki':(z.heap.update it (Bg (·.setIfInBounds 1 (rawInt ((k:Int)+1))))).IsKeyIter it a (k+1) rows.size age :=
   ⟨_,AR _ gi (A9 (AL di _)),(Cf ..).trans ci,by rw[AL di]; simp[rawInt]⟩
  refine ac (Aw (ac (CY (s:={ z with heap:=z.heap.update it (Bg (·.setIfInBounds 1 (rawInt ((k:Int)+1)))) }) ki'.typeIs ?_)));show wpAny _ _ (pure rows[k].key) _ _ _;rwa[d7 (d7 ⟨_,rfl,d7 (hR _ ki' (Cz ..))⟩)]
def Uz{R:Option c7->d3->Prop}(hh:A.handled=Ip)(ki:z.heap.IsKeyIter it a k rows.size age)(x:ZX z.heap a rows age)(hk:rows.size<=k)
  (hR:∀ h',CN it z.heap h'->R Ip { z with heap:=h' }):wpAny (model prog w) A (pyNext (.ref it)) R E z:=by
 have ty:=ki.typeIs;obtain⟨oi,gi,ci,di⟩:=id ki;obtain⟨ob,g,_,dat⟩:=x;unfold pyNext;erw[ac (BP (Ap (name:=l5 "__next__") ty AW (Ar AW ty Da ?walk (C3 _))))]
 case walk =>
  erw[ac (d7 (ac (ac ?_)))]
  first | refine ac (Bj ty (d7 (ac (DH gi di ?_)))) | refine ac (BQ ty (d7 (ac (DH gi di ?_))))
  simp only[show Dj "dict_keyiterator" = Ir by decide,AX,if_false];show wpAny _ _ (if (i9 a == r9)=Iq then _ else _) _ _ z;rw[y7 (show ¬ ((i9 a == r9)=Iq) from h9)];erw[ac (d7 (ac (DY g dat ?_)))];rw[y7 (by simp)];erw[ac (d7 (ac (EG g dat ?_)))];rw[y7 (by simp)];erw[d7 ?_];simp only[show ¬ ((k:Int)<0) from by lia,if_false,AH,BY hk];erw[ac ?_]
  first | refine ac (Bj ty (d7 ?_)) | refine ac (BQ ty (d7 ?_))
  show wpAny _ _ (setField (.ref it) 0 .none >>= _) _ _ z;refine ac (Bi gi di (by simp) (show wpAny _ _ (newExc (.type "StopIteration") [] >>= _) _ _ _ from ac ?_));simp only[newExc,newTuple];refine ac (t6 (ac (m:=firstArgMember _ _) (Cj (a:=r9) (by first | rfl | (simp only[firstArgMember]; rfl)) (t6 ?_ (by size_fits)))) (by size_fits));simp only[raiseNew];erw[ac (Fm ?_)];rw[show A.in1.handled=Ip from hh];erw[ac (d7 (Gx ?_))];erw[ac (C2 (T := "StopIteration") (b:=Iq) ⟨_,d9 _ rfl,rfl⟩ isSubtype_stop ?_)];rwa[d7 (hR _ (((Cz ..).extBut.push _).push _))]
def bC(hh:A.handled=Ip)(hne:a≠it):Walks prog w A it [it,a] [it] rows.size (λi v=>∃ h:i<rows.size,v=rows[i].key) (λi h=>h.IsKeyIter it a i rows.size age/\ZX h a rows age) where
 sub:=λb hb=>by simp at hb; simp[hb]
 frame:=λ_ _ _ st hk=>⟨st.1.at λo e=>hk it (by simp) o e,st.2.at λo e=>hk a (by simp) o e⟩
 item:=λi s Q E hi st hQ=>YK st.1 st.2 hi λh' ki' hs' =>
  hQ _ h' s.toks ⟨hi,rfl⟩ ⟨ki',st.2.at λo e=>hs'.extBut a o hne e⟩ λb o hb e=>hs'.extBut b o (λh=>hb (by simp[h])) e
 done:=λs Q E st hQ=>Uz hh st.1 st.2 (d6 _) λh' he'=>hQ h' s.toks λb o hb e=>he' b o (λh=>hb (by simp[h])) e
 self:=λ_ _ _ _ st hQ=>wpAny_pyIter_keyiter st.1 hQ
def WQ(hs:(a == sysModules)=Ir):PySem.W.KdlSrc prog w "dict" a a rows.size (λi v=>∃ h:i<rows.size,v=rows[i].key) (λh=>ZX h a rows age) where
 type:=λ_ x=>x.typeIs
 there:=λ_ x=>let ⟨_,g,_⟩:=x;⟨f9 g,f9 g⟩
 keep:=λ_ _ x hk=>x.at λo e=>hk a (.inl rfl) o e
 notList:=by decide
 notTuple:=by decide
 hint:=λ_ _ _ _ x hq=>PySem.W.kdl_hint_dict x.typeIs hq
 iter:=λ_ s hh x=>⟨_,_,(λ_ _ hq=>Yk hs x hq),bC hh (let ⟨_,g,_⟩:=x; l6 (f9 g)),⟨⟨_,d9 _ rfl,rfl,rfl⟩,x.at λo e=>c9 _ e⟩⟩
end
end L2

namespace Sea
abbrev Sd:=b9×Int×Int×Int
abbrev Tf(ss:List Sd):List V:=(ss.map (·.1)).map V.ref
def SdOk(H:Hp)(ss:List Sd):Prop:=∀ t∈ss,H t.1=Io (.tup [.int t.2.1,.int t.2.2.1,.int t.2.2.2])/\(t.2.1≠0\/t.2.2.1≠0)/\t.2.1.natAbs<=10^9/\t.2.2.1.natAbs<=10^9/\t.2.2.2.natAbs<=10^13
def Vr(ss:List Sd)(x y:Int):Bool:=ss.all λt=>decide (t.2.1*x+t.2.2.1*y<=0)
def WK(ss:List Sd)(n:Nat)(k:List Int):Prop:=∃ j t,j<n/\ss[j]?=Io t/\((k=bg [-t.2.2.1,t.2.1]/\Vr ss (-t.2.2.1) t.2.1=Iq)\/(k=bg [t.2.2.1,-t.2.1]/\Vr ss t.2.2.1 (-t.2.1)=Iq))
def YI{ss:List Sd}{x y g:Int}(hg:0<g):Vr ss (x*g) (y*g)=Vr ss x y:=by
 unfold Vr
 congr 1
 funext t
 erw[decide_eq_decide.mpr ?_];have e:t.2.1*(x*g)+t.2.2.1*(y*g)=(t.2.1*x+t.2.2.1*y)*g:=by rw[Int.add_mul,BO,BO]
 rw[e];constructor
 ·intro h;by_cases c:t.2.1*x+t.2.2.1*y<=0
  ·rwa[c]
  ·have:=Int.mul_pos (show 0<t.2.1*x+t.2.2.1*y by lia) hg;lia
 ·intro h;have:=E5 (show 0<=-(t.2.1*x+t.2.2.1*y) by lia) (Er hg);rw[Int.neg_mul] at this;lia
def way_low{ss:List Sd}{x y:Int}(gp:0<qX [x,y]):Vr ss (x/(qX [x,y]:Int)) (y/(qX [x,y]:Int))=Vr ss x y:=by
 have gI:(0:Int)<(qX [x,y]:Int):=by lia
 have e1:=qK (ns:=[x,y]) (n:=x) (by simp);have e2:=qK (ns:=[x,y]) (n:=y) (by simp);have z:=YI (ss:=ss) (x:=x/(qX [x,y]:Int)) (y:=y/(qX [x,y]:Int)) gI;rw[e1,e2] at z;rwa[z.symm]
def keyI(ns:List Int):List Key:=ns.map BU
structure TabK(kvs:List (List Key×V))(ks:List (List Int)):Prop where
 keys:kvs.map (·.1)=ks.map keyI
 nodup:ks.Nodup
structure WaysAt(H:Hp)(l:b9)(ss:List Sd)(us:List (b9×List Int)):Prop where
 at':H l=Io (.lst ((us.map (·.1)).map V.ref))
 all:∀ u∈us,H u.1=Io (.tup (u.2.map V.int))
 rises:(us.map (·.2)).Pairwise (λa b=>HT.lexLt b a=Ir)
 nodup:(us.map (·.2)).Nodup
 mem:∀ k,k∈us.map (·.2)↔WK ss ss.length k
 few:us.length<=80
structure SdSt(H0:Hp)(D:b9)(ss:List Sd)(H:Hp):Prop where
 same:Same H0 H
 new:H0 D=Ip
 at':H D=Io (.lst (Tf ss))
 all:SdOk H ss
end Sea

namespace Sea
def XS{i j:Int}(h:i.natAbs<=10^18):TU i j:=.inl ⟨by lia,by lia⟩
abbrev P3:=Int×Int×Int
def sv(t p:P3):Int:=t.1*p.1+t.2.1*p.2.1-t.2.2*p.2.2
def tn(e s:P3):Int:=e.1*s.2.1-e.2.1*s.1
structure IsSpot(l:List Int)(p:P3):Prop where
 list:l=[p.1,p.2.1,p.2.2]
 pos:0<p.2.2
 low:Cp (Cp p.1.natAbs p.2.1.natAbs) p.2.2.natAbs=1
def inW(ss:List Sd)(p:P3):Prop:=∀ t∈ss,sv t.2 p<=0
end Sea

namespace Sea
end Sea

namespace L2
open PySem PySem.Spec PyProof.Rows PySem.W
def PrAt(H:Hp)(cs:List Pr):Prop:=∀ t∈cs,H t.1=Io (.tup [.int t.2.1,.int t.2.2])
end L2

namespace Sea
def dt(s g:P3):Int:=s.1*g.1+s.2.1*g.2.1
structure Bound(ss:List Sd)(g:P3):Prop where
 nz:∀ t∈ss,t.2.1≠0\/t.2.2.1≠0
 gz:g.1≠0\/g.2.1≠0
 ways:∀ t∈ss,∀ h:Int,(h=1\/h = -1)->(∀ s∈ss,tn t.2 s.2*h<=0)->tn t.2 g*h<=0
 lead:¬ ∀ s∈ss,dt s.2 g<=0
 one:∀ t∈ss,tn t.2 g=0->0<dt t.2 g->∀ P:P3,0<P.2.2->sv t.2 P=0->¬ inW ss P
end Sea

namespace L2
open PySem PySem.Spec PyProof.Rows PySem.W
def Sw{a b:g8}{A B:Prop}(h:a≠b)(hB:B):if decide (V.str a=V.str b)=Iq then A else B:=by
 rw[x4 (λz=>h (by injection z))];rwa[hB]
def ifSt{a:g8}{A B:Prop}(hA:A):if decide (V.str a=V.str a)=Iq then A else B:=by
 rw[x3 rfl];rwa[hA]
def cut4{ok:b9->Int->Int->Hp->Prop}{G:Prop}{R:b9->Int->Int->Hp->Prop}(h1:(∀ p x y G,ok p x y G->R p x y G)->G)(h2:∀ p x y G,ok p x y G->R p x y G):G:=h1 h2
end L2

namespace L2

def Vq(scope:CL)(x:g8):Bool:=scope.names.any λy=>y.1 == x&&y.2 == .cell
structure OwnScope(X:Cx)(caps:List (g8×Nat))(scope:CL):Prop where
 kind:scope.kind=.function
 dis:(scope.names.all λx=>!(x.2 == .free) || !Vq scope x.1)=Iq
 loc:∀ y∈scope.names,y.2=.local->scope.names.lookup y.1=Io .local
 clos:(scope.names.all λx=>!(x.2 == .free)||(X.env.cells.lookup x.1).isSome)=Iq
 cap:mP X scope caps
section
variable{X:Cx}{T:List g8}{caps:List (g8×Nat)}{scope:CL}{elt target iter:w4}{ifs:List w4}{pos cpos:Co}{wi:TI}{g:CC->TG}{tt:CC->TT}{te:CC->TE}

def rEqE(K:b7):R2:=λx y H Q=>∃(a b:b9)(rs:List b9),x=.ref a/\y=.ref b/\SqL K H a (rs.map V.ref)/\SqL K H b []/\Q (.bl rs.isEmpty) H
def XH(hu:X.A.units<cLine):OpR X (compareOp .Eq) (rEqE X.K):=by
 intro Is s σ H x y v u Q I rx ry h;obtain⟨a,b,rs,rfl,rfl,h1,h2,q⟩:=h;cases rx;cases ry;obtain⟨us,r1,p1,_⟩:=I.list h1;obtain⟨ws,r2,p2,_⟩:=I.list h2;have e1:=fD r1;have e2:=yO.zero r2;subst e1 e2;cases rs with
 | nil =>
  erw[SeqAt.RcAt.lists (e:=λ_=>Iq) p1.isList p2.isList rfl hu (λj g _=>x5 g (by simp)) X.prog X.w _ _ ?_];rwa[.bl Iq,H,I,U,q]
 | cons r rs =>
  erw[SeqAt.RcAt.lists_lengths p1.isList p2.isList (by simp) hu X.prog X.w _ _ ?_];rwa[.bl Ir,H,I,U,q]
end
end L2

namespace Sea
def awB(N:Nat):List (Int×Int)->Int->Bool
 | [],_=>Iq
 | c::cs,least=>if least<=c.1/\c.1<N/\1<=c.2 then awB N cs (c.1+1) else Ir
def Tr(ss:List Sd)(f:Sd->Int)(n:Int):Int:=match ss[n.toNat]? with
 | some t=>f t
 | none=>0
def Wa(ss:List Sd)(f:Sd->Int):List (Int×Int)->Int->Int
 | [],T=>T
 | c::cs,T=>Wa ss f cs (T+c.2*Tr ss f c.1)
def fAt(k:Int)(t:Sd):Int:=if k=0 then t.2.1 else if k=1 then t.2.2.1 else t.2.2.2
structure PrSt(H0:Hp)(D:b9)(cs:List Pr)(H:Hp):Prop where
 same:Same H0 H
 new:H0 D=Ip
 at':H D=Io (.lst (wN cs))
 all:PrAt H cs
end Sea

namespace Sea
def Vg(n:Nat)(cs:List (Int×Int)):List (Int×Int):=cs.filter λc=>decide (c.1<(n:Int))
structure Apart(ss es:List Sd)(cs:List (Int×Int)):Prop where
 out:∀ v:P3,0<v.2.2->inW es v->Wa ss (fAt 2) (Vg ss.length cs) 0*v.2.2<Wa ss (fAt 0) (Vg ss.length cs) 0*v.1+Wa ss (fAt 1) (Vg ss.length cs) 0*v.2.1
 ins:∀ v:P3,inW ss v->Wa ss (fAt 0) (Vg ss.length cs) 0*v.1+Wa ss (fAt 1) (Vg ss.length cs) 0*v.2.1<=Wa ss (fAt 2) (Vg ss.length cs) 0*v.2.2
 few:(∃ z:P3,0<z.2.2/\inW ss z)->(Vg ss.length cs).length<=2
end Sea

namespace Sea
structure PIb(t:TE)(σ:St)(i:Int)(n:Nat):Prop where
 rd:∀(H:Hp)(Q:VK),Q (.int i) H->t σ H Q
 le:i.natAbs<=n
abbrev Uo(xs:List (b9×List Pr)):List V:=(xs.map (·.1)).map V.ref
structure Leads(G:Hp)(lo:b9)(M:Nat)(xs:List (b9×List Pr)):Prop where
 at':G lo=Io (.lst (Uo xs))
 all:∀ u∈xs,u.1≠lo/\G u.1=Io (.lst (wN u.2))/\Uw G M u.2
end Sea

namespace Sea
end Sea

namespace PyProof.Rows
structure Took(x y out:Array GP)(ia ib:Nat):Prop where
 pm:out.toList.Perm (x.toList.take ia++y.toList.take ib)
 la:ia<=x.size
 lb:ib<=y.size
structure Left(x y out:Array GP)(na nb:Nat):Prop where
 pm:out.toList.Perm (x.toList.drop na++y.toList.drop nb)
 la:na<=x.size
 lb:nb<=y.size
end PyProof.Rows

namespace PyProof.Rows
def rk(r:GP->Int)(xs:Array GP)(i:Nat):Int:=(xs[i]?.map r).getD 0
structure TookR(r:GP->Int)(x y out:Array GP)(ia ib:Nat):Prop extends Took x y out ia ib where
 srt:∀ i j,i<=j->j<out.size->rk r out i<=rk r out j
 oa:∀ i j,i<out.size->ia<=j->j<x.size->rk r out i<=rk r x j
 ob:∀ i j,i<out.size->ib<=j->j<y.size->rk r out i<=rk r y j
structure LeftR(r:GP->Int)(x y out:Array GP)(na nb:Nat):Prop extends Left x y out na nb where
 srt:∀ i j,i<=j->j<out.size->rk r out j<=rk r out i
 oa:∀ i j,i<out.size->j<na->rk r x j<=rk r out i
 ob:∀ i j,i<out.size->j<nb->rk r y j<=rk r out i
end PyProof.Rows

namespace L2
def sz0:0<=sizeLine:=by decide
def sz1:1<=sizeLine:=by decide
def sz2:2<=sizeLine:=by decide
def sz3:3<=sizeLine:=by decide
def gt2:(0:Int)<2:=by decide
def gt3:(0:Int)<3:=by decide
def gt4:(0:Int)<4:=by decide
def gt5:(0:Int)<5:=by decide
section
variable{X:Cx}{x:g8}{p pos:Co}{a b e c:w4}{es:List w4}{t:TA}{te ta tb:TE}{id T:String}{r:List V->Hp->VK->Prop}{n:Nat}{ps:List g8}{sp:Sp}
def Ud(h:starEach (e::es) X.env=(Ir,eval e X.env)::starEach es X.env)(ha:PE X e te)(hr:PA X es t):PA X (e::es) (ip te t):=zB ha hr h
def Tv(h:PE X (.Name x pos) te):PE X (.Name x pos) te:=h
def m_sub(h:PE X (.Subscript a b pos) te):PE X (.Subscript a b pos) te:=h
def Ts(h:PE X (.Call (.Name x p) (e::es) [] pos) te):PE X (.Call (.Name x p) (e::es) [] pos) te:=h
def m_bin{op:Operator}(h:PE X (.BinOp a op b pos) te):PE X (.BinOp a op b pos) te:=h
def m_cmp{op:Gu}(h:PE X (.Compare a [op] [b] pos) te):PE X (.Compare a [op] [b] pos) te:=h
def US{op:Gu}{tt:TT}(h:PT X (.Compare a [op] [b] pos) tt):PT X (.Compare a [op] [b] pos) tt:=h
def WY{op:BoolOp}{tt:TT}(h:PW X (.BoolOp op es pos) tt):PT X (.BoolOp op es pos) tt:=h.pt
def m_val{tt:TE}(he:∀ whole,isTrue e X.env whole=(do let v <- whole; standAt e.pos; holding [v] (truthy v)))(h:PE X e tt):PT X e (tB tt):=zr h he
def m_ix(hs:ah b)(ha:PE X a ta)(hb:PE X b tb):PE X (.Subscript a b pos) (tOp (rIxA X.K) ta tb):=gX iF ha hb hs
def Ut(x:g8)(h:PE X (.Name x pos) te):PE X (.Name x pos) te:=h
def iC(hc:uK X (.builtin id) r)(hv:bootBuiltins x=Io (.builtin id))(hm:X.mg x=Ip)(hg:Gl X x)(hn:x ≠ "__name__")(hdb:(x ==("__debug__" : g8))=Ir)
  (he:starEach (e::es) X.env=(Ir,eval e X.env)::starEach es X.env) (hpl:(backTo pos (starEach es X.env)).any (·.1)=Ir) (ha:PA X (e::es) t):PE X (.Call (.Name x p) (e::es) [] pos) (tCB r t):=zR hc hg hm hv ha hn hdb he hpl
def Uu(hc:uK X (.type T) r)(hv:bootBuiltins x=Io (.type T))(hm:X.mg x=Ip)(hg:Gl X x)(hn:x ≠ "__name__")(hdb:(x ==("__debug__" : g8))=Ir)
  (he:starEach (e::es) X.env=(Ir,eval e X.env)::starEach es X.env) (hpl:(backTo pos (starEach es X.env)).any (·.1)=Ir) (ha:PA X (e::es) t):PE X (.Call (.Name x p) (e::es) [] pos) (tCB r t):=xC hc hg hm hv ha hn hdb he hpl
def m_own{P:j9}{w:n9}{K:b7}{mg:g8->Option c7}{B:o0}(h:Has P w K mg B x n ps sp)(e1:X.prog=P/\X.w=w/\X.K=K/\X.mg=mg/\X.base=B)(hr:qH n X.A)(hg:Gl X x)(hdb:(x ==("__debug__" : g8))=Ir)
  (he:starEach (e::es) X.env=(Ir,eval e X.env)::starEach es X.env) (hpl:(backTo pos (starEach es X.env)).any (·.1)=Ir) (ha:PA X (e::es) t):PE X (.Call (.Name x p) (e::es) [] pos) (cg sp [] E0 t):=by
 obtain⟨rfl,rfl,rfl,rfl,rfl⟩:=e1;rwa[uW h hr hg ha hdb he hpl]
def yD(i:Nat){te:TE}{pos':Co}(hN:X.N.Nodup)(he:PE X e te)(hi:X.N[i]?=Io x:=by rfl)(hx:Loc X.env.scope x:=by first | exact A4 rfl | exact Gd rfl)(hs:swapsWith e (Io (.Name x pos')) pos.line X.env=pure false:=by rfl)
  (hf:X.fn x=Iq\/X.env.scope.names.lookup x=Io .local:=by first | exact .inl rfl | exact .inr rfl | assumption):PS X (.Assign [.Name x pos'] e pos) (To te (iU i)):=qD hN hi hx he hs hf
def qL(i:Nat)(hN:X.N.Nodup)(hi:X.N[i]?=Io x:=by rfl)(hx:Loc X.env.scope x:=by first | exact A4 rfl | exact Gd rfl)(hf:X.fn x=Iq\/X.env.scope.names.lookup x=Io .local:=by first | exact .inl rfl | exact .inr rfl | assumption) :
  PG X (.Name x pos) (iU i):=zw hN hi hx hf
def iV{o:w4}{to:TE}{apos cpos:Co}(ho:PE X o to)(ha:PA X (e::es) t)
  (hbase:attributeBase o "append" X.env (eval o X.env)=eval o X.env:=by rfl)
  (hfew:((backTo cpos (starEach (e::es) X.env)).all (λx=>!x.1)&&(backToKw cpos (keywordEach [] X.env)).all (λx=>x.1.isSome)
   && decide ((e::es).length+([]:List DV).length+(if ([]:List DV).isEmpty then 0 else 1)<30))=true:=by rfl)
  (hline:(apos.endLine == cpos.line)=true:=by rfl) (hs:starEach (e::es) X.env=(Ir,eval e X.env)::starEach es X.env:=by rfl) (hplain:(backTo cpos (starEach es X.env)).any (·.1)=false:=by rfl) :
  PE X (.Call (.Attribute o "append" apos) (e::es) [] cpos) (tBM X.K "list" bY to t):=VR Ec PySem.F.slot_list_append PySem.F.type_list_append oM ho ha hbase hfew hline hs hplain
end
end L2

namespace L2
def InB(B:o0)(φ:b7->Prop):Prop:=∃ K:b7,K.In B/\φ K
abbrev Cx.withK(X:Cx)(K:b7):Cx:={ X with K:=K }
def Mod.withK{K K':b7}{mg:g8->Option c7}{B:o0}(m:Mod K mg B)(h:K'.In B):Mod K' mg B:={ m with kin:=h }
section
variable{X:Cx}{Is:List (b9×AM)}{σ:St}{H:Hp}{s:d3}{K:b7}
def Cx.Ok.withK(ok:X.Ok)(h:K.In X.base):(X.withK K).Ok :=
 ⟨ok.mod.withK h,ok.kind,ok.glob,ok.blt,ok.above,ok.inj,ok.has,ok.cab,ok.hd,ok.frames,ok.stk,ok.exf,ok.bs,ok.bsz,ok.noex,ok.exfs,ok.funs,ok.frf⟩
def Cx.Ok.unK(ok:(X.withK K).Ok)(h:Mod X.K X.mg X.base):X.Ok :=
 ⟨h,ok.kind,ok.glob,ok.blt,ok.above,ok.inj,ok.has,ok.cab,ok.hd,ok.frames,ok.stk,ok.exf,ok.bs,ok.bsz,ok.noex,ok.exfs,ok.funs,ok.frf⟩
def Inv.withK(I:Inv X Is σ H s)(h:K.In X.base):Inv (X.withK K) Is σ H s:=⟨I.ok.withK h,I.os,I.bare,I.base,I.loc,I.cell,I.free,I.freeC,I.pin,I.hok,I.len⟩
def Inv.unK(I:Inv (X.withK K) Is σ H s)(h:Mod X.K X.mg X.base):Inv X Is σ H s:=⟨I.ok.unK h,I.os,I.bare,I.base,I.loc,I.cell,I.free,I.freeC,I.pin,I.hok,I.len⟩
end
section
variable{X:Cx}{o e value:w4}{es:List w4}{f m:g8}{pos pos' apos:Co}{ta tv:TE}{t:TA}{C g:b9}{n:Nat}{ps:List g8}{sp:Sp}
inductive TFld(C:b9)(f:g8)(x:V)(H:Hp)(Q:VK):Prop where
 | mk (a dx:b9) (fs:List (g8×V)) (v:V) (ex:x=.ref a) (ea:H a=Io (.ins C dx fs)) (l:fs.lookup f=Io v) (q:Q v H)
def tFld2(C:b9)(f:g8)(ta:TE):TE:=λσ H Q=>ta σ H λx H1=>TFld C f x H1 Q
def xK(hb:InB X.base λK=>Cls K C/\xf K C f)(he:PE X e ta)(ha:attributeBase e f X.env (eval e X.env)=eval e X.env:=by rfl):PE X (.Attribute e f pos) (tFld2 C f ta):=by
 obtain⟨K,KB,c,n⟩:=hb;intro Is s σ H Q I h;erw[Vt ha (thn (he Is s σ H _ I h) λu s1 ⟨x,H1,I1,rx,a,dx,fs,v,ex,ea,l,q⟩=>?_)];subst ex;obtain rfl:u=i9 a:=rx;rwa[cF (X:=X.withK K) (I1.withK KB) ea c n l λu' s2 I2 ru=>⟨v,H1,I2.unK I.ok.mod,ru,q⟩]
inductive SFld(C:b9)(f:g8)(y x:V)(H:Hp)(Q:Hp->Prop):Prop where
 | mk (a dx:b9) (fs:List (g8×V)) (ex:x=.ref a) (ea:H a=Io (.ins C dx fs)) (l:fs.length<1000) (q:Q (upd H a (.ins C dx (pb f y fs))))
def sFld2(C:b9)(f:g8)(ta tv:TE):TS:=λD σ H=>tv σ H λy H1=>ta σ H1 λx H2=>SFld C f y x H2 (D.nx σ)
def qQ(hb:InB X.base λK=>Cls K C/\xf K C f)(ha:PE X o ta)(hv:PE X value tv)(hs:swapsWith value (Io (.Attribute o f pos')) pos.line X.env=pure false:=by rfl):PS X (.Assign [.Attribute o f pos'] value pos) (sFld2 C f ta tv):=by
 obtain⟨K,KB,c,n⟩:=hb;intro Is s σ H D I h;erw[plainObj_wpAny_Assign_Attribute (thn (hv Is s σ H _ I h) λu s1 ⟨y,H1,I1,ry,q⟩=>thn (ha Is s1 σ H1 _ I1 q) λov s2 ⟨x,H2,I2,rx,a,dx,fs,ex,ea,l,q2⟩=>?_) hs];subst ex;obtain rfl:ov=i9 a:=rx;rwa[cL (X:=X.withK K) (I2.withK KB) ea c n l ry λs3 I3=>⟨σ,_,I3.unK I.ok.mod,q2⟩]
def jB{x:g8}{p:Co}(h:Has X.prog X.w X.K X.mg X.base x n ps sp)(hr:qH n X.A)(hg:Gl X x)(hdb:(x ==("__debug__" : g8))=false:=by decide):PE X (.Call (.Name x p) [] [] pos) (cg sp [] E0 YR):=by
 obtain⟨f,fd,F,b,k,m⟩:=h;rwa[Yo F hr hg m k b .nil ZD hdb]
def jP(P:j9)(w:n9)(K:b7)(mg:g8->Option c7)(base:o0)(g:b9)(n:Nat)(ps:List g8)(sp:Sp):Prop :=
 ∃ fd:Aq,yX P w K mg base CX0 n g fd ps sp/\∀ us:List c7,us.length=ps.length->bindArgs fd ⟨us,[]⟩=pure (ps.zip us)
inductive TMeth(C:b9)(m:g8)(x:V)(H:Hp)(q:Prop):Prop where
 | mk (a dx:b9) (fs:List (g8×V)) (ex:x=.ref a) (ea:H a=Io (.ins C dx fs)) (l:fs.lookup m=Ip) (k:q)
def XF(C:b9)(m:g8)(sp:Sp)(ta:TE)(t:TA):TE:=λσ H Q=>ta σ H λx H1=>TMeth C m x H1 (t σ H1 λvs H2=>sp (x::vs) H2 Q E0)
def dM{pl:GW Bool}(hb:InB X.base λK=>Cls K C/\jF K C m g)(h:jP X.prog X.w X.K X.mg X.base g n ps sp)(hr:qH n X.A)(he:PE X o ta)(ha:PA X (e::es) t)
  (hst:starEach (e::es) X.env=(Ir,eval e X.env)::starEach es X.env:=by rfl) (hpl:(backTo pos (starEach es X.env)).any (·.1)=false:=by rfl)
  (ht:eval (.Call (.Attribute o m apos) (e::es) [] pos) X.env=(do
   let ov <- eval o X.env
   standAt apos.atName
   let (f,first) <- holding [ov] (getMethod ov m pl)
   callWith pos f first (backTo pos (starEach (e::es) X.env)) (backToKw pos (keywordEach [] X.env))):=by rfl) :
  PE X (.Call (.Attribute o m apos) (e::es) [] pos) (XF C m sp ta t):=by
 obtain⟨K,KB,c,hm⟩:=hb;obtain⟨fd,F,b⟩:=h;intro Is s σ H Q I h;erw[Cc (pl:=pl) (thn (he Is s σ H _ I h) λu s1 ⟨x,H1,I1,rx,a,dx,fs,ex,ea,l,q⟩=>?_) ht];subst ex;obtain rfl:u=i9 a:=rx;erw[xk (X:=X.withK K) (I1.withK KB) ea c hm l ?_];erw[Bx (first:=[.ref a]) (h₀:=X.base) (K:=K) KB hm.kp (thn (ha pos Is s1 σ H1 _ I1 q) λus s2 ⟨vs,H2,I2,r,q2⟩=>⟨(I2.withK KB).kIn,?_⟩) hst hpl];rwa[eU (us:=.ref a::us) (vs:=.ref a::vs) (dvs:=[]) (ds:=[]) F hr (.all b) .nil ZD I2 (.cons rfl r) (by rw[Bq]; exact q2)]
def wE{pl:GW Bool}(hb:InB X.base λK=>Cls K C/\jF K C m g)(h:jP X.prog X.w X.K X.mg X.base g n ps sp)(hr:qH n X.A)(he:PE X o ta)
  (ht:eval (.Call (.Attribute o m apos) [] [] pos) X.env=(do
   let ov <- eval o X.env
   standAt apos.atName
   let (f,first) <- holding [ov] (getMethod ov m pl)
   callWith pos f first (backTo pos (starEach [] X.env)) (backToKw pos (keywordEach [] X.env))):=by rfl) :
  PE X (.Call (.Attribute o m apos) [] [] pos) (XF C m sp ta YR):=by
 obtain⟨K,KB,c,hm⟩:=hb;obtain⟨fd,F,b⟩:=h;intro Is s σ H Q I h;erw[Cc (pl:=pl) (thn (he Is s σ H _ I h) λu s1 ⟨x,H1,I1,rx,a,dx,fs,ex,ea,l,q⟩=>?_) ht];subst ex;obtain rfl:u=i9 a:=rx;erw[xk (X:=X.withK K) (I1.withK KB) ea c hm l ?_];rwa[Cv (first:=[.ref a]) (I1.withK KB).kIn hm.kp (eU (us:=[.ref a]) (vs:=[.ref a]) (dvs:=[]) (ds:=[]) F hr (.all b) .nil ZD I1 (.cons rfl .nil) q)]
def Tz(C:b9)(sp:Sp):TE:=λ_ H Q=>∀ x dx,H x=Ip->H dx=Ip->dx≠x->sp [.ref x] (upd (upd H dx (.own x)) x (.ins C dx [])) (λv H2=>v=.non/\Q (.ref x) H2) E0
def yX.withK{P:j9}{w:n9}{K K':b7}{mg:g8->Option c7}{B:o0}{k:Nat}{f:b9}{fd:Aq}(F:yX P w K mg B CX0 k f fd ps sp)(h:K.In B):yX P w K' mg B CX0 k f fd ps sp :=
 ⟨F.len,λA outer s H args us vs Q E hr e0 hb r hsp=>F.run A outer s H args us vs Q E hr { e0 with mod:=e0.mod.withK h } hb r hsp⟩
def iO{x:g8}{p:Co}(hb:InB X.base λK=>Mk K C g)(h:jP X.prog X.w X.K X.mg X.base g n ps sp)(hr:qH (n+1) X.A)(hm:X.mg x=Io (.ref C))(hg:Gl X x:=by rfl)(hdb:(x ==("__debug__" : g8))=false:=by decide) :
  PE X (.Call (.Name x p) [] [] pos) (Tz C sp):=by
 obtain⟨K,KB,M⟩:=hb;obtain⟨fd,F,b⟩:=h;intro Is s σ H Q I h;erw[Bb (sR I hg hm ?_ hdb)];have J:=I.withK KB;erw[Cv J.kIn M.kp (Ba (Yd (X:=X.withK K) (us:=[]) (vs:=[]) (dvs:=[]) (ds:=[]) M (F.withK I.ok.mod.kin) hr (.all b) .nil ZD J .nil h) (λu s' ⟨v,H',I',r,q⟩=>⟨v,H',I'.unK I.ok.mod,r,q⟩) λ_ _ z=>z)]
end
end L2

namespace L2
structure M1(X:Cx)(o:w4)(m:g8)(apos:Co)(e:w4)(cpos:Co):Prop where
 base:attributeBase o m X.env (eval o X.env)=eval o X.env
 few:((backTo cpos (starEach [e] X.env)).all (λx=>!x.1)&&(backToKw cpos (keywordEach [] X.env)).all (λx=>x.1.isSome)
  && decide (([e]:List w4).length+([]:List DV).length+(if ([]:List DV).isEmpty then 0 else 1)<30))=Iq
 line:(apos.endLine == cpos.line)=Iq
 trees:backTo cpos (starEach [e] X.env)=[(Ir,eval e X.env)]
structure M2(X:Cx)(o:w4)(m:g8)(apos:Co)(e f:w4)(cpos:Co):Prop where
 base:attributeBase o m X.env (eval o X.env)=eval o X.env
 few:((backTo cpos (starEach [e,f] X.env)).all (λx=>!x.1)&&(backToKw cpos (keywordEach [] X.env)).all (λx=>x.1.isSome)
  && decide (([e,f]:List w4).length+([]:List DV).length+(if ([]:List DV).isEmpty then 0 else 1)<30))=Iq
 line:(apos.endLine == cpos.line)=Iq
 trees:backTo cpos (starEach [e,f] X.env)=[(Ir,eval e X.env),(Ir,eval f X.env)]

def IsD(H:Hp)(a:b9):Prop:=(∃ kvs,Rd H a (.dK kvs))\/∃ kvs,Rd H a (.dT kvs)
def UM{X:Cx}{Is:List (b9×AM)}{σ:St}{H:Hp}{s:d3}{a:b9}(I:Inv X Is σ H s)(d:IsD H a) :
  s.TypeIs (.ref a) "dict" /\ (∀ b,i9 a=.ref b->∃ ob,s.heap.get? b=Io ob/\ob.dict=Ip)/\(a == sysModules)=false:=by
 rcases d with ⟨kvs,e⟩ | ⟨kvs,e⟩
 ·obtain⟨_,hd,vs,_,dd⟩:=lN I.hok e;erw[dd.typeIs,λb q=>?_,hd];cases q;obtain⟨ob,_,_,h1,h2,_⟩:=dd;rwa[ob,h1,h2.2.1]
 ·obtain⟨_,hd,xs,_,dd⟩:=cN I.hok e;erw[dd.typeIs,λb q=>?_,hd];cases q;obtain⟨ob,_,_,h1,h2,_⟩:=dd;rwa[ob,h1,h2.2.1]


def Tp(td ty:TE):TE:=λσ H Q=>td σ H λx H1=>∃ a,x=.ref a/\IsD H1 a/\ty σ H1 λy H2=>∃ kvs k v,H2 a=Io (.dK kvs)/\y=kV k/\wS kvs k=Io v/\Q v (upd H2 a (.dK (pe kvs k)))
section
variable{X:Cx}{o e f:w4}{apos cpos:Co}{td ty tx:TE}
def pM(ho:PE X o td)(he:PE X e ty)(m:M1 X o "pop" apos e cpos):PE X (.Call (.Attribute o "pop" apos) [e] [] cpos) (Tp td ty):=by
 intro Is s σ H Q I h;erw[CU m.base m.few m.line DZ ER PySem.F.type_dict_pop (thn (ho Is s σ H _ I h) λu s1 ⟨x,H1,I1,rx,a,ex,d,q1⟩=>?_)];subst ex;obtain rfl:u=i9 a:=rx;obtain⟨t1,t2,_⟩:=UM I1 d;exists t1,t2;rw[m.trees];erw[CS rfl (C8 (Fv (thn (he Is s1 σ H1 _ I1 q1) λiv s2 ⟨y,H2,I2,ry,kvs,k,v,ea,ey,l,q2⟩=>FN ?_)))];subst ey;rwa[d_pop I2 ea ry l (.inl rfl) λw' s3 I3 rw'=>⟨v,_,I3,rw',q2⟩]
end

section
variable{X:Cx}{Is:List (b9×AM)}{σ:St}{H:Hp}{s:d3}{a:b9}{kvs:List (Key×V)}{A:Ac}{E:c7->d3->Prop}
def Yb{Q:c7->d3->Prop}(I:Inv X Is σ H s)(e:Rd H a (.dK kvs))(h:∀ p s',H p=Ip->Inv X Is σ (upd H p (.dK kvs)) s'->Q (.ref p) s'):wpAny (model X.prog X.w) A (call (.type "dict") [.ref a]) Q E s:=by
 obtain⟨z,hd,vs,rel,dd⟩:=lN I.hok e;erw[kt_call_dict hd dd (by rw[<- rel.length]; rwa[z]) λh' dd' hs=>?_];erw[h _ _ (I.hok.fresh (d6 _)) (I.laid (a:=s.heap.objs.size) (o:=.dK kvs) (t':=s.toks) (λb q hq=>?_) (d6 _) (iZ z (x6.mpr (AJ (l6 I.big))) rel dd'))];exact(hs.2 b (l6 (f9 hq))).trans (c9 _ hq)
end


end L2


namespace L2
section
variable{X:Cx}{Is:List (b9×AM)}{σ:St}{H:Hp}{s:d3}{d:b9}{kvs:List (Key×V)}
def Inv.freeze(I:Inv X Is σ H s)(hd:H d=Io (.dK kvs)){o:AM}(ho:s.heap.get? d=Io o):Inv X Is σ (upd H d (.frz o (.dK kvs))) s:=by
 have ne:∀{b:b9},H b=Ip->b≠d:=λ{b} n e=>by rw[e,hd] at n; cases n
 have nk:∀{b:b9}{u:HO},H b=Io u->u≠.dK kvs->upd H d (.frz o (.dK kvs)) b=Io u:=λ{b u} e z=>by
  rw[zH (λq=>z (by rw[q,hd] at e; exact(o9 e).symm))];rwa[e]
 have nn:∀{b:b9},H b=Ip->upd H d (.frz o (.dK kvs)) b=none:=λ{b} n=>by rw[zH (ne n)]; rwa[n]
 have st:∀(b:b9)(u:HO),xI X.prog X.w H s.heap b u->xI X.prog X.w (upd H d (.frz o (.dK kvs))) s.heap b u:=λb u k =>
  k.stay (λc v _ q=>q) (λc q=>nk q (λz=>nomatch z)) λc xs q=>nk q (λz=>nomatch z)
 refine⟨I.ok,I.os,I.bare,⟨I.base.keep,I.base.slot,λb u e n hx=>nn (I.base.free b u e n hx),I.base.there,λb xs e=>nk (I.base.tups b xs e) (λz=>nomatch z),λb u v e=>nk (I.base.frzs b u v e) (λz=>nomatch z),
  λb ps e=>let ⟨more,q⟩:=I.base.tbls b ps e;⟨more,nk q (λz=>nomatch z)⟩⟩,I.loc,I.cell,nn I.free,λx c e=>nn (I.freeC x c e),λp hp=>?_,λb u e=>?_,I.len⟩
 ·obtain⟨h1,h2,h3⟩:=I.pin p hp;rwa[h1,nn h2,h3]
 ·by_cases eb:b=d
  ·subst eb;rw[zA] at e;cases e;rwa[ho,st b _ (I.hok b _ hd)]
  ·rw[zH eb] at e;rwa[st b u (I.hok b u e)]
def Inv.frzAt(I:Inv X Is σ H s){o:AM}{es:Array Bk}{ep:Nat}(hd:H d=Io (.frz o (.dK kvs)))(ho:o.data=.dict es ep) :
  ∃ vs,KV kvs vs/\s.heap.DictAt (yK X.prog X.w) d vs ep/\kvs.length<=sizeLine/\(d == sysModules)=false:=by
 obtain⟨e,z,y,vs,r,o',es',ep',e',c,dt,k,p,n⟩:=(show xI X.prog X.w H s.heap d (.frz o (.dK kvs)) from I.hok d _ hd);rw[e] at e';cases e';rw[ho] at dt;injection dt with d1 d2
 subst d1 d2;rwa[vs,r,⟨o,es,e,c,ho,k,p,n⟩,z,y]
def KV.at{vs:List (Key×c7)} : ∀{kvs:List (Key×V)}{vs:List (Key×c7)}{i:Nat}{k:Key}{v:V},KV kvs vs->kvs[i]?=Io (k,v)->∃ u,vs[i]?=Io (k,u)/\xF v u
 | _,_,_,_,_,.nil,e=>by simp at e
 | _,_,0,k,v,.cons (a:=a) (b:=b) ⟨r1,r2⟩ _,e=>by
  simp at e;subst e;exact⟨b.2,by rw[show(k,b.2)=b from by rw[show k=b.1 from r1]]; rfl,r2⟩
 | _,_,i+1,k,v,.cons _ t,e=>KV.at (vs:=[]) (i:=i) t (by simpa using e)
def Itc(φ:Hp->Prop)(xs:List V):It:=⟨λi H=>φ H/\i<xs.length,λi H x H'=>H'=H/\xs[i]?=Io x,λi H=>φ H/\xs.length<=i⟩
abbrev ff(d:b9)(o:AM)(kvs:List (Key×V))(H:Hp):Prop:=H d=Io (.frz o (.dK kvs))
def bR{P:j9}{w:n9}{K:b7}{tg:w4}{o:AM}{es:Array Bk}{ep:Nat}(ho:o.data=.dict es ep)(it:b9) :
  Yq P w K tg (Itc (ff d o kvs) (kvs.map (·.2))) [it] it (λi h=>h.IsValIter it d i kvs.length ep) where
 mem:=by simp
 obj:=λi h st b hb=>by
  have e:b=it:=by simpa using hb
  subst e;obtain⟨o,e,c,d⟩:=st;exact⟨o,e,λv z=>by rw[d] at z; cases z⟩
 keep:=λi h h' st k=>st.at λo e=>k it (by simp) o e
 item:=by
  intro X hP hw hK hc i Is s σ H E I hf st ⟨fz,hi⟩;subst hP hw hK;obtain⟨vs,r,da,_,_⟩:=I.frzAt fz ho;rw[a7] at hi;obtain⟨u,hu,ru⟩:=KV.at (vs:=vs) (k:=kvs[i].1) (v:=kvs[i].2) r (d4 hi);obtain⟨f0,f1,f2,f3,f4,f5⟩:=hf it (by simp);have st':s.heap.IsValIter it d i vs.length ep:=by rw[<- r.length]; rwa[st]
  erw[wpAny_pyNext_values_item st' da hu λh' st2 sb=>?_];have I1:Inv X Is σ H { s with heap:=h' }:=I.turned (t':=s.toks) (λb o hb e=>(sb.2 b hb).trans e) f0 f1 f3 f4 f5;obtain⟨o,e,c,dd⟩:=id st2;rw[<- r.length] at st2;exact⟨u,U,fA (s:={ s with heap:=h' }) e c dd (by decide) ⟨kvs[i].2,H,I1,ru,⟨U,by rw[e7,d4 hi]; rfl⟩,st2,λb hb=>(hf b hb).1⟩⟩
 done:=by
  intro X hP hw hK hc i Is s σ H E I hf st ⟨fz,hi⟩;subst hP hw hK;obtain⟨vs,r,da,_,_⟩:=I.frzAt fz ho;rw[a7] at hi;obtain⟨f0,f1,f2,f3,f4,f5⟩:=hf it (by simp);have st':s.heap.IsValIter it d i vs.length ep:=by rw[<- r.length]; rwa[st]
  rwa[wpAny_pyNext_values_end (I.ok.hd hc) st' da (AF (by rw[<- r.length]; exact hi)) λh' eb=>⟨rfl,I.turned (t':=s.toks) (λb o hb e=>eb b o hb e) f0 f1 f3 f4 f5⟩]
 self:=λ_ _ _ _ _ st h=>wpAny_pyIter_valiter st h
def Yn(d:b9)(o:AM)(kvs:List (Key×V))(H H2:Hp):Prop:=H2 d=Io (.frz o (.dK kvs))/\(∀ b,b≠d->H2 b=H b)/\∀ o',H d=Io (.frz o' (.dK kvs))->o'=o
def Inv.frozen(I:Inv X Is σ H s)(hd:Rd H d (.dK kvs)):∃(o:AM)(es:Array Bk)(ep:Nat)(H2:Hp),o.data=.dict es ep/\Yn d o kvs H H2/\Inv X Is σ H2 s:=by
 obtain⟨z,y,vs,r,o,es,ep,e,c,dt,_⟩:=hd.ok I.hok;rcases hd with hd | ⟨o',hd⟩
 ·exact⟨o,es,ep,_,dt,⟨zA,λb hb=>zH hb,λo' e'=>by rw[hd] at e'; cases e'⟩,I.freeze hd e⟩
 ·obtain⟨e',_⟩:=(show xI X.prog X.w H s.heap d (.frz o' (.dK kvs)) from I.hok d _ hd);rw[e] at e';cases e';exact⟨o,es,ep,H,dt,⟨hd,λ_ _=>rfl,λo' e'=>by rw[hd] at e'; cases e'; rfl⟩,I⟩
def iVals(te:TE):TI:=λσ H R=>te σ H λx H1=>∃(d:b9)(kvs:List (Key×V)),x=.ref d/\Rd H1 d (.dK kvs)/\∀(o:AM)(H2:Hp),Yn d o kvs H1 H2->R (Itc (ff d o kvs) (kvs.map (·.2))) H2
variable{tg l:w4}{te:TE}{apos pos:Co}
def kZ(hl:PE X l te)(hbase:attributeBase l "values" X.env (eval l X.env)=eval l X.env:=by rfl)(hline:(apos.endLine == pos.line)=true:=by rfl):PI X tg (.Call (.Attribute l "values" apos) [] [] pos) (iVals te):=by
 intro Is s σ H R I h;erw[CU (T := "dict") (id := "dict.values") hbase rfl hline DZ FC F.type_dict_values (thn (hl Is s σ H _ I h) λv s1 ⟨x,H1,I1,r1,d,kvs,e,hd,q⟩=>?_)];subst e;cases r1;obtain⟨o,es,ep,H2,ho,ft,I2⟩:=I1.frozen hd;obtain⟨vs,r,da,_,ns⟩:=I2.frzAt ft.1 ho;exists da.dictOf.typeIs,da.dictOf.mapOf.noDict;show wpAny _ _ (callWith pos (.builtin "dict.values") [.ref d] [] []) _ _ s1;erw[method_meetsIn FC F.entry_dict_values rfl (Cw ⟨rfl,da.dictOf.typeIs,F.args_dict_values_1 _,_,meets_dict_values (yK X.prog X.w) d ns,⟨vs,da.dictOf⟩,?_⟩)];erw[wpAny_pyIter_values (knd:=yK X.prog X.w) (d:=d) (kvs:=vs) (ep:=ep) ⟨_,d9 _ rfl,rfl,rfl⟩ (da.push _) ?_];have I3:=I2.kept (t':=s1.toks) (h':=s1.heap.push { cls:=.type "dict_values",data:=.fields #[.ref d] }) λb o e=>c9 _ e;have I4:=I3.kept (t':=s1.toks) (h':=(s1.heap.push { cls:=.type "dict_values",data:=.fields #[.ref d] }).push { cls:=.type "dict_valueiterator",data:=.fields #[.ref d,.int 0 0,.int vs.length 0,.int ep 0] }) λb o e=>c9 _ e;erw[_,[_],_,_,H2,U,I4,bR ho _,⟨_,d9 _ rfl,U,by rw[r.length]; rfl⟩,λb hb=>?_,q o H2 ft];have e:=d8.mp hb;subst e;rwa[I3.fpOk (d6 _) (I3.hok.fresh (d6 _))]
end
end L2

namespace L2
section
variable{φ:Hp->Prop}{xs:List V}{g:TG}{tb:TS}{E:bu}{σ σ0:St}{H H1:Hp}{D:b9}{tt:TT}{te:TE}{Q:VK}
def Xd(Pv:Nat->St->Hp->Prop)(h0:Pv 0 σ H)(hl:∀ i σ H,Pv i σ H->φ H)
  (hs:∀ i x σ H,xs[i]?=Io x->Pv i σ H->g x σ H λσ2 H2=>tb { E with nx:=Pv (i+1),ct:=Pv (i+1),bk:=E.nx } σ2 H2) (hd:∀ σ H,Pv xs.length σ H->E.nx σ H) :
  ∃ W:Nat->Nat->St->Hp->Prop,(∃ m,W 0 m σ H)/\∀ i m σ H,W i m σ H ->
   ((Itc φ xs).stop i H/\E.nx σ H)\/((Itc φ xs).go i H/\∃ N:St->Hp->Prop,(∀ σ' H',N σ' H'->∃ m',m'<m/\W (i+1) m' σ' H')/\∀ x H',(Itc φ xs).yld i H x H'->g x σ H' λσ2 H2=>tb { E with nx:=N,ct:=N,bk:=E.nx } σ2 H2):=by
 exists λi m σ H=>m=xs.length-i/\i<=xs.length/\Pv i σ H,⟨xs.length,by simp,t7 _,h0⟩;rintro i m σ H ⟨rfl,hi,p⟩;by_cases hlt:i<xs.length
 ·erw[.inr ⟨⟨hl i σ H p,hlt⟩,Pv (i+1),λσ' H' p'=>⟨xs.length-(i+1),by lia,rfl,hlt,p'⟩,λx H' ⟨e,y⟩=>?_⟩];subst e;rwa[hs i x σ _ y p]
 ·have e:i=xs.length:=by lia
  subst e;rwa[.inl ⟨⟨hl _ σ H p,d6 _⟩,hd σ H p⟩]
def UB(Pv:Nat->St->List V->Hp->Prop)(h0:Pv 0 σ0 [] (upd H1 D (.lst [])))(hl:∀ i σ ys H,Pv i σ ys H->φ H/\H D=Io (.lst ys))
  (hs:∀ i x σ ys H,xs[i]?=Io x->Pv i σ ys H->g x σ H λσ2 H2=>tt σ2 H2 λb H3 =>
   if b=Iq then te σ2 H3 λy H4=>H4 D=Io (.lst ys)/\ys.length<sizeLine/\Pv (i+1) σ2 (ys++[y]) (upd H4 D (.lst (ys++[y]))) else Pv (i+1) σ2 ys H3)
  (hd:∀ σ ys H,Pv xs.length σ ys H->Q (.ref D) H):ua (Itc φ xs) D g tt te σ0 H1 Q:=by
 exists λi m σ ys H=>m=xs.length-i/\i<=xs.length/\Pv i σ ys H,⟨xs.length,by simp,t7 _,h0⟩;rintro i m σ ys H ⟨rfl,hi,p⟩;obtain⟨q,qd⟩:=hl i σ ys H p;exists qd;by_cases hlt:i<xs.length
 ·erw[.inr ⟨⟨q,hlt⟩,Pv (i+1),λσ' zs H' z=>⟨xs.length-(i+1),by lia,rfl,hlt,z⟩,λx H' ⟨e,y⟩=>?_⟩];subst e;rwa[hs i x σ ys _ y p]
 ·have e:i=xs.length:=by lia
  subst e;rwa[.inl ⟨⟨q,d6 _⟩,hd σ ys H p⟩]
def kh(Pv:Nat->St->List V->Hp->Prop)(h0:Pv 0 σ0 [] (upd H1 D (.lst [])))(hl:∀ i σ ys H,Pv i σ ys H->φ H/\H D=Io (.lst ys))
  (hs:∀ i x σ ys H,xs[i]?=Io x->Pv i σ ys H->g x σ H λσ2 H2=>te σ2 H2 λy H4=>H4 D=Io (.lst ys)/\ys.length<sizeLine/\Pv (i+1) σ2 (ys++[y]) (upd H4 D (.lst (ys++[y]))))
  (hd:∀ σ ys H,Pv xs.length σ ys H->Q (.ref D) H):ua (Itc φ xs) D g Vj te σ0 H1 Q:=UB Pv h0 hl (λi x σ ys H e p=>hs i x σ ys H e p) hd
end
section
variable{X:Cx}{x y:g8}{p pos:Co}{i e:w4}{es:List w4}{ty:TE}{t:TA}
def fY{n:Int}(hm:∃ k,X.mg x=Io (.int n k))(hg:Gl X x:=by rfl)(hd:(x ==("__debug__" : g8))=false:=by decide):PE X (.Name x pos) (tC (.int n)):=λ_ _ _ H _ I h=>by
 obtain⟨k,hm⟩:=hm;rwa[sR I hg hm ⟨.int n,H,I,⟨k,rfl⟩,h⟩ hd]
def Uv(P:j9)(w:n9)(B:o0)(a:b9)(kvs:List (Key×V)):Prop:=∃ vs,KV kvs vs/\B.DictOf (yK P w) a vs
def tGet(kvs:List (Key×V))(ty:TE):TE:=λσ H Q=>ty σ H λy H1=>∃(k:Key)(v:V),y=kV k/\wS kvs k=Io v/\Q v H1
def XM{Is:List (b9×AM)}{σ:St}{H:Hp}{s:d3}{a:b9}{kvs:List (Key×V)}{k:Key}{v:V}{u:c7}{E:c7->d3->Prop}{Q:c7->d3->Prop}(hb:Uv X.prog X.w X.base a kvs)(I:Inv X Is σ H s)(l:wS kvs k=Io v)(r:xF (kV k) u)
  (h:∀ w' s',Inv X Is σ H s'->xF v w'->Q w' s'):s.TypeIs (.ref a) "dict" /\ wpAny (model X.prog X.w) X.A (getItem (.ref a) u) Q E s:=by
 obtain⟨vs,rel,dd⟩:=hb;have dd:s.heap.DictOf (yK X.prog X.w) a vs:=dd.at λo e=>I.bk a o e;obtain⟨w',hw,rw'⟩:=jz.some_of (v:=v) (o:=valueAt vs k) (by rw[<- l]; rwa[rel.val k]);rwa[dd.typeIs,Gk (kW r) dd.mapOf hw (h w' _ (I.tok _) rw')]
def ZZ{a:b9}{kvs:List (Key×V)}(hb:Uv X.prog X.w X.base a kvs)(hm:X.mg x=Io (.ref a))(hi:PE X i ty)(hs:TV i:=by exact λ_ _=>rfl)(hg:Gl X x:=by rfl)(hd:(x ==("__debug__" : g8))=false:=by decide) :
  PE X (.Subscript (.Name x p) i pos) (tGet kvs ty):=by
 intro Is s σ H Q I h;erw[gM Cs.lookup hs (sR I hg hm (thn (hi Is s σ H _ I h) λiv s2 ⟨y,H2,I2,ry,k,v,ey,l,q2⟩=>?_) hd)];subst ey;rwa[XM hb I2 l ry λw' s3 I3 rw'=>⟨v,H2,I3,rw',q2⟩]
structure TabAt(P:j9)(w:n9)(K:b7)(mg:g8->Option c7)(B:o0)(m:Nat)(kvs:List (Key×V))(k:Key)(sp:Sp):Prop where
 mk ::
 has:∃(x:g8)(f:b9)(n:Nat)(ps:List g8),wS kvs k=Io (.ref f)/\mg x=Io (.ref f)/\Has P w K mg B x n ps sp/\n<=m
end
def wt:bootBuiltins "dict" = Io (.type "dict"):=by ac_nf
section
variable{X:Cx}
def qG:uK X (.type "dict") (λxs H Q=>∃(a:b9)(kvs:List (Key×V)),xs=[.ref a]/\Rd H a (.dK kvs)/\∀ p,H p=Ip->Q (.ref p) (upd H p (.dK kvs))):=by
 intro Is s σ H xs us Q I r h;obtain⟨a,kvs,rfl,ha,q⟩:=h;obtain⟨u,rfl,ru⟩:=ic r;cases ru;rwa[Yb I ha λp s' hp I'=>⟨.ref p,_,I',rfl,q p hp⟩]
def tF:uK X (.builtin "len") (λxs H Q=>∃(a:b9)(kvs:List (Key×V)),xs=[.ref a]/\Rd H a (.dK kvs)/\Q (.int kvs.length) H):=by
 intro Is s σ H xs us Q I r h;obtain⟨a,kvs,rfl,ha,q⟩:=h;obtain⟨u,rfl,ru⟩:=ic r;cases ru;rwa[d_len I ha λt s' I'=>⟨.int kvs.length,H,I',⟨t,rfl⟩,q⟩]
def jD{P:j9}{w:n9} : ∀{es:List Bk}{kvs:List (Key×V)}{vs:List (Key×c7)},KV kvs vs->Pairs (yK P w) es vs->yO (kvs.map λkv=>kV kv.1) (es.map (·.key))
 | _,_,_,.nil,.nil=>.nil
 | _,_,_,.cons ⟨r1,_⟩ t,.cons hk _ p=>by
  erw[.cons ?_ (jD t p)];dsimp only;rw[r1];rcases yP hk with ⟨j,t,e1,e2⟩ | ⟨x,t,e1,e2⟩
  ·rw[e1,e2]; rwa[t,U]
  ·rw[e1,e2]; rwa[t,U]
def rf(hc:X.calm=Iq):uK X (.type "list") (λxs H Q=>∃(d:b9)(kvs:List (Key×V)),xs=[.ref d]/\Rd H d (.dK kvs)/\∀ p,H p=Ip->Q (.ref p) (upd H p (.lst (kvs.map λkv=>kV kv.1)))):=by
 intro Is s σ H xs us Q I r h;obtain⟨d,kvs,rfl,hd,q⟩:=h;obtain⟨u,rfl,ru⟩:=yO.one r;cases ru;obtain⟨hz,hsm,vs,rel,ob,es,age,g,ex,dat,hk,hp,hn⟩:=lN I.hok hd;have vk:=jD rel hp;have hsz:es.size=kvs.length:=by
  have z:=vk.length;rw[a7,a7,Ak] at z;rwa[z.symm]
 refine PySem.W.kdl_call (WQ (rows:=es) (age:=age) hsm) (show X.A.handled=Ip from I.ok.hd hc) ⟨ob,g,ex,dat⟩ (by rw[hsz]; exact hz) λh' tk acc c keep at' its=>?_;have eqs:acc.toList=es.toList.map (·.key):=by
  erw[DX λj=>?_];by_cases hj:j<es.size
  ·have ja:j<acc.size:=by rw[its.1]; rwa[hj]
   obtain⟨hj',e⟩:=its.2 j acc[j] (by simp[ja]);rw[Ca,A8 ja,e,e7,Ca,A8 hj];rfl
  ·rw[AF (by rw[Ak,its.1]; lia),AF (by simp; lia)]
 erw[.ref s.heap.objs.size,_,I.laid (t':=tk) (a:=s.heap.objs.size) (o:=.lst (kvs.map λkv=>kV kv.1)) keep (d6 _) ?_,U,q _ (I.hok.fresh (d6 _))];exists by rw[a7]; exact hz,_,c,vk;rw[<- eqs,E8];rwa[at']
end
end L2

namespace L2
def qc(x:g8):List V:=x.cps.toList.map λc=>.str ⟨#[c]⟩
section
variable{X:Cx}{tg l:w4}{te:TE}
def XB{P:j9}{w:n9}{K:b7}{tg:w4}(x:g8)(t:Ij)(it:b9):Yq P w K tg (Itc (λ_=>True) (qc x)) [it] it (λi h=>h.IsStrIter it "str_ascii_iterator" x t i) where
 mem:=by simp
 obj:=λi h st b hb=>by
  have e:b=it:=by simpa using hb
  subst e;obtain⟨o,e,c,d⟩:=st;exact⟨o,e,λv z=>by rw[d] at z; cases z⟩
 keep:=λi h h' ⟨o,ho,r⟩ k=>⟨o,k it (by simp) o ho,r⟩
 item:=by
  intro X hP hw hK hc i Is s σ H E I hf st ⟨_,hi⟩;subst hP hw hK;have hi':i<x.cps.size:=by unfold qc at hi; rw[a7,Ak] at hi; rwa[hi]
  obtain⟨f0,f1,f2,f3,f4,f5⟩:=hf it (by simp);erw[wpAny_pyNext_ascii_item st (c:=x.cps[i]) (A8 hi') λh' st2 sb=>?_];have I1:Inv X Is σ H { s with heap:=h',toks:=s.toks+1 }:=I.turned (t':=s.toks+1) (λb o hb e=>(sb.2 b hb).trans e) f0 f1 f3 f4 f5;obtain⟨o,e,c,dd⟩:=id st2;exact⟨_,U,fA (s:={ s with heap:=h',toks:=s.toks+1 }) e c dd (by decide) ⟨.str ⟨#[x.cps[i]]⟩,H,I1,⟨_,U⟩,⟨U,by unfold qc; rw[e7,Ca,A8 hi']; rfl⟩,st2,λb hb=>(hf b hb).1⟩⟩
 done:=by
  intro X hP hw hK hc i Is s σ H E I hf st ⟨_,hi⟩;subst hP hw hK;have hi':x.cps.size<=i:=by unfold qc at hi; rw[a7,Ak] at hi; rwa[hi]
  obtain⟨f0,f1,f2,f3,f4,f5⟩:=hf it (by simp);rwa[wpAny_pyNext_ascii_end (I.ok.hd hc) st (BY hi') λh' eb=>⟨rfl,I.turned (t':=s.toks) (λb o hb e=>eb b o hb e) f0 f1 f3 f4 f5⟩]
 self:=λ_ _ _ _ _ st h=>wpAny_pyIter_striter_ascii st h
def iStr(te:TE):TI:=λσ H R=>te σ H λv H1=>∃ x:g8,v=.str x/\x.cps.all (· < 128)=Iq/\R (Itc (λ_=>True) (qc x)) H1
def am(hl:PE X l te):PI X tg l (iStr te):=by
 intro Is s σ H R I h;erw[thn (hl Is s σ H _ I h) λv s1 ⟨y,H1,I1,r1,x,e,ha,q⟩=>?_];subst e;obtain⟨t,rfl⟩:=r1;erw[wpAny_pyIter_ascii ha ?_];erw[s1.heap.objs.size,[s1.heap.objs.size],_,_,H1,U,I1.kept (t':=s1.toks) λb o e=>c9 _ e,XB x t _,⟨_,d9 _ rfl,U,U⟩,λb hb=>?_,q];have e:b=s1.heap.objs.size:=by simpa using hb
 subst e;rwa[I1.fpOk (d6 _) (I1.hok.fresh (d6 _))]
def gF:OpR X (compareOp .LtE) (λx y H Q=>∃ i j,x=.str i/\y=.str j/\Q (.bl (!decide (j.cps.toList<i.cps.toList))) H):=by
 intro Is s σ H x y v u Q I rx ry h;obtain⟨i,j,rfl,rfl,q⟩:=h;obtain⟨t,rfl⟩:=rx;obtain⟨t',rfl⟩:=ry;rwa[PySem.P.le_str (yW I q rfl)]
def Wc:SlR X (λx lo hi H Q=>∃ z:g8,x=.str z/\z.length<=sizeLine/\Q (.str (Cq z lo hi)) H):=by
 intro Is s σ H x v vl vu lo hi sl Q I rx hs pl pu h;obtain⟨z,rfl,hz,q⟩:=h;obtain⟨t,rfl⟩:=rx;have fin:∀(l u:Option (Int×Ij)),l.map (·.1)=lo->u.map (·.1)=hi->(sliceMade z t l u Ip).post (EP X Is σ Q) s:=λl u e1 e2=>by
  subst e1 e2;rwa[post_val_or_str (t:=t) (s:=s) (Q:=EP X Is σ Q) ⟨j7 (Et z _ _) hz,λt' k=>⟨.str (Cq z _ _),H,I.tok k,⟨t',rfl⟩,q⟩⟩]
 exists "str",_,F.slot_str_getitem.lookup,typeIs_str _ _ _;obtain⟨o,ho,hc,hd⟩:=hs;cases pl with
 | none =>
  cases pu with
  | none=>rwa[BW (l:=Ip) (u:=Ip) (st:=Ip) ⟨o,ho,hc,hd⟩ rfl (fin Ip Ip rfl rfl)]
  | int j tj=>rwa[BW (l:=Ip) (u:=Io (j,tj)) (st:=Ip) ⟨o,ho,hc,hd⟩ rfl (fin Ip (Io (j,tj)) rfl rfl)]
 | int i ti =>
  cases pu with
  | none=>rwa[BW (l:=Io (i,ti)) (u:=Ip) (st:=Ip) ⟨o,ho,hc,hd⟩ rfl (fin (Io (i,ti)) Ip rfl rfl)]
  | int j tj=>rwa[BW (l:=Io (i,ti)) (u:=Io (j,tj)) (st:=Ip) ⟨o,ho,hc,hd⟩ rfl (fin (Io (i,ti)) (Io (j,tj)) rfl rfl)]
def jL:∀{ts:List g8}{us:List c7},yO (ts.map V.str) us->∃ l:List (g8×Ij),us=strValues l/\l.map (·.1)=ts
 | [],_,.nil=>⟨[],rfl,rfl⟩
 | x::ts,_,.cons ⟨t,e⟩ r=>by
  obtain⟨l,e1,e2⟩:=jL r;subst e;rwa[(x,t)::l,by rw[e1]; rfl,by rw[l9,e2]]
def ag(sep:g8):∀ zs:List g8,(Ed sep zs).length<=(zs.map (·.length)).sum+zs.length*sep.length
 | []=>t7 _
 | [y]=>by
  show y.length<=_;simp
 | y::z::l=>by
  have ih:=ag sep (z::l);have e:(Ed sep (y::z::l)).length=y.length+sep.length+(Ed sep (z::l)).length:=by
   show(y++sep++Ed sep (z::l)).length=_;rw[strLen_append,strLen_append]
  rw[e];simp only[l9,Hy,m9,HQ] at ih ⊢;lia
def sj(sep:g8)(ts:List g8):Nat:=(ts.map (·.length)).sum+ts.length*sep.length
def aQ:MtR X "str.join" (λx xs H Q=>∃(sep:g8)(a:b9)(ts:List g8),x=.str sep/\xs=[.ref a]/\SqL X.K H a (ts.map V.str)/\sj sep ts<=sizeLine/\Q (.str (CV sep ts)) H):=by
 intro Is s σ H x xs v us Q I rx rv h;obtain⟨sep,a,ts,rfl,rfl,ha,hl,q⟩:=h;obtain⟨t,rfl⟩:=rx;obtain⟨u,rfl,ru⟩:=yO.one rv;cases ru;obtain⟨its,r,p,_⟩:=I.list ha;obtain⟨l,rfl,el⟩:=jL r;have ht:Builtin.Str.tooLong ((l.map (·.1)).toArray.foldl (· + ·.length+sep.length) 0)=false:=by
  rw[el,HJ];exact x4 (by unfold sj at hl; lia)
 refine call_meets EW (typeIs_str _ _ _) F.entry_str_join (F.args_str_join_2 _ _) (meets_str_join_list sep t a l ht) ⟨p.isList,?_⟩;have gl:∀ zs:List g8,(CV sep zs).length<=sj sep zs:=λzs=>by
  rw[Dw];rwa[ag sep zs]
 match l,el with
 | [],el =>
  subst el;rwa[j7 (gl []) hl,⟨.str _,H,I.tok _,⟨_,U⟩,q⟩]
 | [y],el =>
  subst el;rwa[.str y.1,H,I,⟨y.2,U⟩,q]
 | y::z::l,el =>
  subst el;rwa[j7 (gl _) hl,⟨.str _,H,I.tok _,⟨_,U⟩,q⟩]
end
end L2

namespace Sea
inductive Dt where
 | int (i:Int)
 | str (x:g8)
 | tup (l:List Dt)
mutual
def Rep(H:Hp):Dt->V->Prop
 | .int i,v=>v=.int i
 | .str x,v=>v=.str x
 | .tup l,v=>∃(a:b9)(xs:List V),v=.ref a/\H a=Io (.tup xs)/\xN H l xs
def xN(H:Hp):List Dt->List V->Prop
 | [],xs=>xs=[]
 | d::l,xs=>∃(x:V)(r:List V),xs=x::r/\Rep H d x/\xN H l r
end
def yY(φ:b9->Prop)(H H':Hp):Prop:=∀ b o,¬ φ b->H b=Io o->H' b=Io o\/∃(ob:AM)(kvs:List (Key×V)),o=.dK kvs/\H' b=Io (.frz ob (.dK kvs))
abbrev Sam(H H':Hp):Prop:=yY (λ_=>False) H H'
section
variable{φ ψ:b9->Prop}{H H1 H2:Hp}{a:b9}{xs:List V}
def yY.of(s:Same H H1):yY φ H H1:=λb o _ e=>.inl (s b o e)
def yY.refl(H:Hp):yY φ H H:=λ_ _ _ e=>.inl e
def yY.trans(s:yY φ H H1)(t:yY φ H1 H2):yY φ H H2:=λb o n e=>by
 rcases s b o n e with e1 | ⟨ob,kvs,e0,e1⟩
 ·rwa[t b o n e1]
 ·subst e0;rcases t b _ n e1 with e2 | ⟨_,_,z,_⟩
  ·rwa[.inr ⟨ob,kvs,rfl,e2⟩]
  ·cases z
def yY.wider(s:yY φ H H1)(h:∀ b,φ b->ψ b):yY ψ H H1:=λb o n e=>s b o (λz=>n (h b z)) e
def yY.lst(s:yY φ H H1)(n:¬ φ a)(e:H a=Io (.lst xs)):H1 a=Io (.lst xs):=by
 rcases s a _ n e with z | ⟨_,_,z,_⟩
 ·rwa[z]
 ·cases z
def yY.tup(s:yY φ H H1)(n:¬ φ a)(e:H a=Io (.tup xs)):H1 a=Io (.tup xs):=by
 rcases s a _ n e with z | ⟨_,_,z,_⟩
 ·rwa[z]
 ·cases z
def yY.ins(s:yY φ H H1)(n:¬ φ a){C dx:b9}{fs:List (g8×V)}(e:H a=Io (.ins C dx fs)):H1 a=Io (.ins C dx fs):=by
 rcases s a _ n e with z | ⟨_,_,z,_⟩
 ·rwa[z]
 ·cases z
def yY.rd(s:yY φ H H1)(n:¬ φ a){kvs:List (Key×V)}(e:Rd H a (.dK kvs)):Rd H1 a (.dK kvs):=by
 rcases e with e | ⟨ob,e⟩
 ·rcases s a _ n e with z | ⟨ob,kvs',z,w⟩
  ·rwa[.inl z]
  ·cases z;rwa[.inr ⟨ob,w⟩]
 ·rcases s a _ n e with z | ⟨_,_,z,_⟩
  ·rwa[.inr ⟨ob,z⟩]
  ·cases z
def yY.some(s:yY φ H H1)(n:¬ φ a){o:HO}(e:H a=Io o):∃ o',H1 a=Io o':=by
 rcases s a _ n e with z | ⟨_,_,_,w⟩
 ·rwa[_,z]
 ·rwa[_,w]
def yY.free(s:yY φ H H1)(n:¬ φ a)(e:H1 a=Ip):H a=none:=by
 cases q:H a with
 | none=>rfl
 | some o =>
  obtain⟨o',z⟩:=s.some n q;rw[e] at z;cases z
def nu{d:b9}{o:AM}{kvs:List (Key×V)}(hd:Rd H d (.dK kvs))(f:Yn d o kvs H H1):yY φ H H1:=λb u _ e=>by
 by_cases z:b=d
 ·subst z;rcases hd with hd | ⟨o',hd⟩
  ·rw[hd] at e;cases e;rwa[.inr ⟨o,kvs,rfl,f.1⟩]
  ·rw[hd] at e;cases e;rw[<- f.2.2 o' hd] at f;rwa[.inl f.1]
 ·rwa[.inl (by rw[f.2.1 b z]; exact e)]
end
mutual
def Rep.sam{φ:b9->Prop}{H H1:Hp}(s:yY φ H H1)(np:∀ b xs,H b=Io (.tup xs)->¬ φ b):∀{d:Dt}{v:V},Rep H d v->Rep H1 d v
 | .int _,_,h=>by rw[Rep] at h ⊢; rwa[h]
 | .str _,_,h=>by rw[Rep] at h ⊢; rwa[h]
 | .tup l,v,h=>by
  rw[Rep] at h ⊢;obtain⟨a,xs,e,h1,h2⟩:=h;rwa[a,xs,e,s.tup (np a xs h1) h1,xN.sam s np h2]
def xN.sam{φ:b9->Prop}{H H1:Hp}(s:yY φ H H1)(np:∀ b xs,H b=Io (.tup xs)->¬ φ b):∀{l:List Dt}{xs:List V},xN H l xs->xN H1 l xs
 | [],_,h=>by rw[xN] at h ⊢; rwa[h]
 | d::l,xs,h=>by
  rw[xN] at h ⊢;obtain⟨x,r,e,h1,h2⟩:=h;rwa[x,r,e,Rep.sam s np h1,xN.sam s np h2]
end
section
variable{H H1:Hp}
def no_f{H:Hp} : ∀ b xs,H b=Io (.tup xs)->¬ (λ_:b9=>False) b:=λ_ _ _ z=>z
def Rep.to{d:Dt}{v:V}(h:Rep H d v)(s:Sam H H1):Rep H1 d v:=h.sam s no_f
def xN.to{l:List Dt}{xs:List V}(h:xN H l xs)(s:Sam H H1):xN H1 l xs:=h.sam s no_f
def yB{i:Int}{v:V} : Rep H (.int i) v↔v=.int i:=by rw[Rep]
def zW{x:g8}{v:V} : Rep H (.str x) v↔v=.str x:=by rw[Rep]
def yF{l:List Dt}{v:V} : Rep H (.tup l) v↔∃(a:b9)(xs:List V),v=.ref a/\H a=Io (.tup xs)/\xN H l xs:=by rw[Rep]
def zY{xs:List V} : xN H [] xs↔xs=[]:=by rw[xN]
def zL{d:Dt}{l:List Dt}{xs:List V} : xN H (d::l) xs↔∃(x:V)(r:List V),xs=x::r/\Rep H d x/\xN H l r:=by rw[xN]
def xN.length:∀{l:List Dt}{xs:List V},xN H l xs->xs.length=l.length
 | [],_,h=>by rw[zY.mp h]; rfl
 | d::l,_,h=>by
  obtain⟨x,r,e,_,h2⟩:=zL.mp h;rw[e,m9,m9,xN.length h2]
def xN.at:∀{l:List Dt}{xs:List V}{i:Nat}{d:Dt},xN H l xs->l[i]?=Io d->∃ x,xs[i]?=Io x/\Rep H d x
 | [],_,_,_,_,e=>by simp at e
 | d::l,_,0,_,h,e=>by
  obtain⟨x,r,ex,h1,_⟩:=zL.mp h;simp at e;subst e;rwa[x,by rw[ex]; rfl,h1]
 | d::l,_,i+1,d',h,e=>by
  obtain⟨x,r,ex,_,h2⟩:=zL.mp h;obtain⟨y,h3,h4⟩:=xN.at (i:=i) (d:=d') h2 (by simpa using e);exact⟨y,by rw[ex]; simpa using h3,h4⟩
def xN.back:∀{l:List Dt}{xs:List V}{i:Nat}{x:V},xN H l xs->xs[i]?=Io x->∃ d,l[i]?=Io d/\Rep H d x
 | [],_,i,x,h,e=>by rw[zY.mp h] at e; simp at e
 | d::l,_,0,x,h,e=>by
  obtain⟨y,r,ex,h1,_⟩:=zL.mp h;rw[ex] at e;simp at e;subst e;rwa[d,U,h1]
 | d::l,_,i+1,x,h,e=>by
  obtain⟨y,r,ex,_,h2⟩:=zL.mp h;rw[ex] at e;obtain⟨d',h3,h4⟩:=xN.back (i:=i) (x:=x) h2 (by simpa using e);exact⟨d',by simpa using h3,h4⟩
def xN.app:∀{l m:List Dt}{xs ys:List V},xN H l xs->xN H m ys->xN H (l++m) (xs++ys)
 | [],_,_,_,h,k=>by rw[zY.mp h]; rwa[k]
 | d::l,_,_,_,h,k=>by
  obtain⟨x,r,e,h1,h2⟩:=zL.mp h;rw[e];rwa[zL.mpr ⟨x,_,rfl,h1,xN.app h2 k⟩]
def xN.one{d:Dt}{v:V}(h:Rep H d v):xN H [d] [v]:=zL.mpr ⟨v,[],rfl,h,zY.mpr rfl⟩
def xN.two{d e:Dt}{v u:V}(h:Rep H d v)(k:Rep H e u):xN H [d,e] [v,u]:=zL.mpr ⟨v,_,rfl,h,.one k⟩
end
structure xU(H:Hp)(kvs:List (Key×V))(es:List (Key×Dt)):Prop where
 keys:kvs.map (·.1)=es.map (·.1)
 vals:xN H (es.map (·.2)) (kvs.map (·.2))
def ya(H:Hp)(a:b9)(es:List (Key×Dt)):Prop:=∃ kvs,Rd H a (.dK kvs)/\xU H kvs es
def look(es:List (Key×Dt))(k:Key):Option Dt:=(es.find? λe=>decide (e.1=k)).map (·.2)
def XQ(es:List (Key×Dt))(k:Key)(d:Dt):List (Key×Dt):=if es.any (λe=>decide (e.1=k)) then es.map λe=>if e.1=k then(e.1,d) else e else es++[(k,d)]
def iM(es:List (Key×Dt))(k:Key):List (Key×Dt):=es.filter λe=>decide (e.1≠k)
def xU.nil{H:Hp} : xU H [] []:=⟨rfl,zY.mpr rfl⟩
def xU.cons_iff{H:Hp}{kvs:List (Key×V)}{k:Key}{d:Dt}{es:List (Key×Dt)} : xU H kvs ((k,d)::es)↔∃(v:V)(r:List (Key×V)),kvs=(k,v)::r/\Rep H d v/\xU H r es:=by
 constructor
 ·rintro⟨h1,h2⟩;cases kvs with
  | nil=>simp at h1
  | cons p r =>
   obtain⟨k',v⟩:=p;simp only[l9,EH] at h1;obtain⟨e1,e2⟩:=h1;subst e1;obtain⟨x,r',e,h3,h4⟩:=zL.mp h2;simp only[l9,EH] at e;obtain⟨e3,e4⟩:=e;subst e3 e4;rwa[v,r,U,h3,e2,h4]
 ·rintro⟨v,r,rfl,h1,h2⟩;rwa[by simp[h2.keys],zL.mpr ⟨v,_,U,h1,h2.vals⟩]
def xU.nil_iff{H:Hp}{kvs:List (Key×V)}(h:xU H kvs []):kvs=[]:=by
 have:=h.keys;simpa using this
def xU.to{H H1:Hp}{kvs:List (Key×V)}{es:List (Key×Dt)}(h:xU H kvs es)(s:Sam H H1):xU H1 kvs es:=⟨h.keys,h.vals.to s⟩
def xU.sam{φ:b9->Prop}{H H1:Hp}{kvs:List (Key×V)}{es:List (Key×Dt)}(h:xU H kvs es)(s:yY φ H H1)(np:∀ b xs,H b=Io (.tup xs)->¬ φ b):xU H1 kvs es:=⟨h.keys,h.vals.sam s np⟩
def ya.to{H H1:Hp}{a:b9}{es:List (Key×Dt)}(h:ya H a es)(s:Sam H H1):ya H1 a es:=let ⟨kvs,h1,h2⟩:=h;⟨kvs,s.rd id h1,h2.to s⟩
def xU.length{H:Hp}{kvs:List (Key×V)}{es:List (Key×Dt)}(h:xU H kvs es):kvs.length=es.length:=by
 have:=congrArg Bv h.keys;simpa using this
def xU.get{H:Hp}{k:Key} : ∀{es:List (Key×Dt)}{kvs:List (Key×V)}{d:Dt},xU H kvs es->look es k=Io d->∃ v,wS kvs k=Io v/\Rep H d v
 | [],_,_,_,e=>by simp[look] at e
 | (k',d')::es,kvs,d,h,e=>by
  obtain⟨v,r,rfl,h1,h2⟩:=xU.cons_iff.mp h;by_cases z:k'=k
  ·rw[wW z];simp only[look,As,x3 z,B6,D0] at e;subst e;rwa[v,U,h1]
  ·rw[wI z];erw[xU.get h2 ?_];simp only[look,As,x4 z] at e;rwa[e]
def xU.none{H:Hp}{k:Key} : ∀{es:List (Key×Dt)}{kvs:List (Key×V)},xU H kvs es->look es k=Ip->wS kvs k=Ip
 | [],_,h,_=>by rw[h.nil_iff]; rfl
 | (k',d')::es,kvs,h,e=>by
  obtain⟨v,r,rfl,h1,h2⟩:=xU.cons_iff.mp h;by_cases z:k'=k
  ·simp[look,As,z] at e
  ·rw[wI z];erw[xU.none h2 ?_];simp only[look,As,x4 z] at e;rwa[e]
def xU.isSome{H:Hp}{k:Key}{es:List (Key×Dt)}{kvs:List (Key×V)}(h:xU H kvs es):(wS kvs k).isSome=(look es k).isSome:=by
 cases e:look es k with
 | none=>rw[h.none e]; rfl
 | some d =>
  obtain⟨v,z,_⟩:=h.get e;rw[z];rfl
def xU.any{H:Hp}{k:Key} : ∀{es:List (Key×Dt)}{kvs:List (Key×V)},xU H kvs es->(kvs.any λe=>decide (e.1=k))=es.any λe=>decide (e.1=k)
 | [],_,h=>by rw[h.nil_iff]; rfl
 | (k',d')::es,kvs,h=>by
  obtain⟨v,r,rfl,h1,h2⟩:=xU.cons_iff.mp h;rw[AT,AT,xU.any h2]
def xU.rep{H:Hp}{k:Key}{v:V}{d:Dt}(hv:Rep H d v):∀{es:List (Key×Dt)}{kvs:List (Key×V)},xU H kvs es->xU H (kvs.map λe=>if e.1=k then(e.1,v) else e) (es.map λe=>if e.1=k then(e.1,d) else e)
 | [],_,h=>by rw[h.nil_iff]; rwa[.nil]
 | (k',d')::es,kvs,h=>by
  obtain⟨u,r,rfl,h1,h2⟩:=xU.cons_iff.mp h;rw[l9,l9];by_cases z:k'=k
  ·rw[y9 z,y9 z];rwa[xU.cons_iff.mpr ⟨v,_,rfl,hv,xU.rep hv h2⟩]
  ·rw[y7 z,y7 z];rwa[xU.cons_iff.mpr ⟨u,_,rfl,h1,xU.rep hv h2⟩]
def xU.app{H:Hp}{k:Key}{v:V}{d:Dt}(hv:Rep H d v):∀{es:List (Key×Dt)}{kvs:List (Key×V)},xU H kvs es->xU H (kvs++[(k,v)]) (es++[(k,d)])
 | [],_,h=>by rw[h.nil_iff]; rwa[xU.cons_iff.mpr ⟨v,[],rfl,hv,.nil⟩]
 | (k',d')::es,kvs,h=>by
  obtain⟨u,r,rfl,h1,h2⟩:=xU.cons_iff.mp h;rwa[xU.cons_iff.mpr ⟨u,_,rfl,h1,xU.app hv h2⟩]
def xU.put{H:Hp}{k:Key}{v:V}{d:Dt}{es:List (Key×Dt)}{kvs:List (Key×V)}(h:xU H kvs es)(hv:Rep H d v):xU H (rO kvs k v) (XQ es k d):=by
 unfold rO XQ;rw[h.any];split
 ·rwa[h.rep hv]
 ·rwa[h.app hv]
def xU.drop{H:Hp}{k:Key} : ∀{es:List (Key×Dt)}{kvs:List (Key×V)},xU H kvs es->xU H (pe kvs k) (iM es k)
 | [],_,h=>by rw[h.nil_iff]; rwa[.nil]
 | (k',d')::es,kvs,h=>by
  obtain⟨u,r,rfl,h1,h2⟩:=xU.cons_iff.mp h;unfold pe iM;by_cases z:k'=k
  ·rw[Ee (by simp[z]),Ee (by simp[z])];rwa[xU.drop h2]
  ·rw[Ef (by simp[z]),Ef (by simp[z])];rwa[xU.cons_iff.mpr ⟨u,_,rfl,h1,xU.drop h2⟩]
end Sea

namespace Sea
inductive Deed where
 | mark (n:g8) (x y:Int)
 | move (n:g8) (x y:Int)
 | unmark (n:g8)
 | bank (n:g8) (cs:List (Int×Int))
 | level (n:g8)
 | sail (x y:Int)
 | right (k x y:Int)
 | bearing (m:Int) (n:g8) (a b c d:Int)
 | range (m:Int) (l r:g8)
 | strike (k:Int)
def ptD(p:Int×Int):Dt:=.tup [.int p.1,.int p.2]
def Deed.dt:Deed->Dt
 | .mark n x y=>.tup [.str "mark",.str n,.int x,.int y]
 | .move n x y=>.tup [.str "move",.str n,.int x,.int y]
 | .unmark n=>.tup [.str "unmark",.str n]
 | .bank n cs=>.tup [.str "bank",.str n,.tup (cs.map ptD)]
 | .level n=>.tup [.str "level",.str n]
 | .sail x y=>.tup [.str "sail",.int x,.int y]
 | .right k x y=>.tup [.str "right",.int k,.int x,.int y]
 | .bearing m n a b c d=>.tup [.str "bearing",.int m,.str n,ptD (a,b),ptD (c,d)]
 | .range m l r=>.tup [.str "range",.int m,.str l,.str r]
 | .strike k=>.tup [.str "strike",.int k]
structure BS where
 marks:List (g8×Int×Int)
 banks:List (g8×List (Int×Int))
 runs:List (Int×Int)
 notes:List (Int×Deed)
 coming:Int
def BS.nil:BS:=⟨[],[],[],[],1⟩
def mkE(l:List (g8×Int×Int)):List (Key×Dt):=l.map λe=>(.inr e.1,ptD e.2)
def bkE(l:List (g8×List (Int×Int))):List (Key×Dt):=l.map λe=>(.inr e.1,.tup (e.2.map ptD))
def rnE(l:List (Int×Int)):List (Key×Dt):=l.zipIdx.map λe=>(.inl (e.2:Int),ptD e.1)
def ntE(l:List (Int×Deed)):List (Key×Dt):=l.map λe=>(.inl e.1,e.2.dt)
def stK(m b r n:b9)(k:Int):List (Key×V):=[(.inr "marks",.ref m),(.inr "banks",.ref b),(.inr "runs",.ref r),(.inr "notes",.ref n),(.inr "coming",.int k)]
structure StA(H:Hp)(d m b r n:b9)(S:BS):Prop where
 at_:Rd H d (.dK (stK m b r n S.coming))
 ma:ya H m (mkE S.marks)
 ba:ya H b (bkE S.banks)
 ru:ya H r (rnE S.runs)
 no:ya H n (ntE S.notes)
def fv(H:Hp)(d:b9)(S:BS):Prop:=∃ m b r n,StA H d m b r n S
def StA.to{H H1:Hp}{d m b r n:b9}{S:BS}(h:StA H d m b r n S)(s:Sam H H1):StA H1 d m b r n S:=⟨s.rd id h.at_,h.ma.to s,h.ba.to s,h.ru.to s,h.no.to s⟩
def fv.to{H H1:Hp}{d:b9}{S:BS}(h:fv H d S)(s:Sam H H1):fv H1 d S:=let ⟨m,b,r,n,q⟩:=h;⟨m,b,r,n,q.to s⟩
def zQ(S:BS)(n:g8):Option (Int×Int):=(S.marks.find? λe=>decide (e.1=n)).map (·.2)
def uB{S:BS}{n:g8} : look (mkE S.marks) (.inr n)=(zQ S n).map ptD:=by
 unfold look mkE zQ;rw[List.find?_map];have e:((λe:Key×Dt=>decide (e.1=BV n)) ∘ λe:g8×Int×Int=>((BV e.1,ptD e.2):Key×Dt))=λe=>decide (e.1=n):=by
  funext e
  simp
 rw[e];cases S.marks.find? λe=>decide (e.1=n) <;> rfl
structure Few(S:BS):Prop where
 ma:S.marks.length<=60
 ba:S.banks.length<=60
 ru:S.runs.length<=60
 no:S.notes.length<=60
def wM(x:g8):Prop:=1<=x.length/\x.length<=8/\∀ c∈x.cps.toList,97<=c/\c<=122
def qi(p:Int×Int):Prop:=-1000<=p.1/\p.1<=1000/\-1000<=p.2/\p.2<=1000
def ud(p:Int×Int):Prop:=p≠(0,0)/\-100<=p.1/\p.1<=100/\-100<=p.2/\p.2<=100
def aft(S:BS):Deed->BS
 | .mark n x y=>{ S with marks:=S.marks++[(n,x,y)] }
 | .move n x y=>{ S with marks:=S.marks.map λe=>if e.1=n then(e.1,x,y) else e }
 | .unmark n=>{ S with marks:=S.marks.filter λe=>decide (e.1≠n) }
 | .bank n cs=>{ S with banks:=S.banks++[(n,cs)] }
 | .level n=>{ S with banks:=S.banks.filter λe=>decide (e.1≠n) }
 | .sail x y=>{ S with runs:=S.runs++[(x,y)] }
 | .right k x y=>{ S with runs:=S.runs.set k.toNat (x,y) }
 | .bearing m n a b c d=>{ S with notes:=S.notes++[(S.coming,.bearing m n a b c d)],coming:=S.coming+1 }
 | .range m l r=>{ S with notes:=S.notes++[(S.coming,.range m l r)],coming:=S.coming+1 }
 | .strike k=>{ S with notes:=S.notes.filter λe=>decide (e.1≠k) }
def rm(S:BS):Deed->Prop
 | .bearing _ _ _ _ _ _=>True
 | .range _ l r=>∃ p u,zQ S l=Io p/\zQ S r=Io u/\p≠u
 | _=>False
def rX(n:g8):Deed->Prop
 | .bearing _ k _ _ _ _=>k≠n
 | .range _ l r=>l≠n/\r≠n
 | _=>False
def im(cs:List (Int×Int)):Bool:=isB (cs.map λc=>(0,c))
def okD(S:BS):Deed->Prop
 | .mark n x y=>wM n/\zQ S n=Ip/\qi (x,y)/\S.marks.length<20
 | .move n x y=>(zQ S n).isSome=Iq/\qi (x,y)/\∀ e∈S.notes,rm (aft S (.move n x y)) e.2
 | .unmark n=>(zQ S n).isSome=Iq/\∀ e∈S.notes,rX n e.2
 | .bank n cs=>wM n/\n ∉ S.banks.map (·.1)/\(∀ c∈cs,qi c)/\im cs=Iq/\S.banks.length<8
 | .level n=>n∈S.banks.map (·.1)
 | .sail x y=>qi (x,y)/\S.runs.length<12
 | .right k x y=>0<=k/\k<S.runs.length/\qi (x,y)
 | .bearing m n a b c d=>0<=m/\m<=S.runs.length/\(zQ S n).isSome=Iq/\ud (a,b)/\ud (c,d)/\0<a*d-b*c/\S.notes.length<24
 | .range m l r=>0<=m/\m<=S.runs.length/\(zQ S l).isSome=Iq/\(zQ S r).isSome=Iq/\zQ S l≠zQ S r/\S.notes.length<24
 | .strike k=>k∈S.notes.map (·.1)
def Xr(S:BS):Prop:=∀ e∈S.notes,e.1<S.coming
def rE{es:List (Key×Dt)}{k:Key}{d:Dt}(h:∀ e∈es,e.1≠k):XQ es k d=es++[(k,d)]:=by
 unfold XQ;rw[y7];intro z;obtain⟨e,he,q⟩:=C1.mp z;rwa[h e he (of_decide_eq_true q)]
def al(l:List (g8×Int×Int))(n:g8)(x y:Int):mkE (l++[(n,x,y)])=mkE l++[(.inr n,ptD (x,y))]:=by
 unfold mkE;rw[i8];rfl
def VP(l:List (Int×Int))(x y:Int):rnE (l++[(x,y)])=rnE l++[(.inl (l.length:Int),ptD (x,y))]:=by
 unfold rnE;rw[List.zipIdx_append,i8];simp
def fR(l:List (Int×Deed))(k:Int)(D:Deed):ntE (l++[(k,D)])=ntE l++[(.inl k,D.dt)]:=by
 unfold ntE;rw[i8];rfl
def Xx{l:List (Int×Int)} : ∀ e∈rnE l,e.1≠.inl (l.length:Int):=λe he z=>by
 unfold rnE at he;obtain⟨q,hq,rfl⟩:=i4.mp he;obtain⟨q1,q2⟩:=q;have:=DO hq;have z':(BU (q2:Int):Key)=BU (l.length:Int):=z;injection z' with z'
 simp at this;lia
def kx{S:BS}(h:Xr S):∀ e∈ntE S.notes,e.1≠.inl S.coming:=λe he z=>by
 unfold ntE at he;obtain⟨q,hq,rfl⟩:=i4.mp he;have:=h q hq;have z':(BU q.1:Key)=BU S.coming:=z;injection z' with z'
 lia
def eG{S:BS}{n:g8}(h:zQ S n=Ip):∀ e∈mkE S.marks,e.1≠.inr n:=λe he z=>by
 unfold mkE at he;obtain⟨q,hq,rfl⟩:=i4.mp he;have z':(BV q.1:Key)=BV n:=z;injection z' with z'
 unfold zQ at h;rw[Eu,BZ] at h;rwa[h q hq (by simp[z'])]
def Yz(a b c d e:V):qw [] [(.inr "marks",a),(.inr "banks",b),(.inr "runs",c),(.inr "notes",d),(.inr "coming",e)]=[(.inr "marks",a),(.inr "banks",b),(.inr "runs",c),(.inr "notes",d),(.inr "coming",e)]:=by symm
def Yc(a b c d e:V):qw [] [(.inr "marks",a),(.inr "banks",b),(.inr "runs",c),(.inr "notes",d),(.inr "next",e)]=[(.inr "marks",a),(.inr "banks",b),(.inr "runs",c),(.inr "notes",d),(.inr "next",e)]:=by symm
def tR{m b r n:b9}{k:Int} : wS (stK m b r n k) (.inr "marks")=Io (.ref m):=by symm
def xm{m b r n:b9}{k:Int} : wS (stK m b r n k) (.inr "banks")=Io (.ref b):=by symm
def rN{m b r n:b9}{k:Int} : wS (stK m b r n k) (.inr "runs")=Io (.ref r):=by symm
def zx{m b r n:b9}{k:Int} : wS (stK m b r n k) (.inr "notes")=Io (.ref n):=by symm
def oR{m b r n:b9}{k:Int} : wS (stK m b r n k) (.inr "coming")=Io (.int k):=by symm
def oB{m b r n c:b9}{k:Int} : rO (stK m b r n k) (.inr "marks") (.ref c)=stK c b r n k:=by symm
def iN{m b r n c:b9}{k:Int} : rO (stK m b r n k) (.inr "banks") (.ref c)=stK m c r n k:=by symm
def dH{m b r n c:b9}{k:Int} : rO (stK m b r n k) (.inr "runs") (.ref c)=stK m b c n k:=by symm
def jN{m b r n c:b9}{k:Int} : rO (stK m b r n k) (.inr "notes") (.ref c)=stK m b r c k:=by symm
def cZ{m b r n:b9}{k j:Int} : rO (stK m b r n k) (.inr "coming") (.int j)=stK m b r n j:=by symm
def Rd.same{H H1:Hp}{a:b9}{u:HO}(h:Rd H a u)(s:Same H H1):Rd H1 a u:=h.imp (s _ _) λ⟨o,e⟩=>⟨o,s _ _ e⟩
def ya.nil{H:Hp}{a:b9}(h:H a=Io (.dK [])):ya H a []:=⟨[],.inl h,.nil⟩
def wy{H:Hp}{p:Int×Int}{v:V}(h:Rep H (ptD p) v):∃ a,v=.ref a/\H a=Io (.tup [.int p.1,.int p.2]):=by
 obtain⟨a,xs,e,h1,h2⟩:=yF.mp h;obtain⟨x,r,rfl,h3,h4⟩:=zL.mp h2;obtain⟨y,r',rfl,h5,h6⟩:=zL.mp h4;rw[yB.mp h3,yB.mp h5,zY.mp h6] at h1;rwa[a,e,h1]
def tD{H:Hp}{p:Int×Int}{a:b9}(h:H a=Io (.tup [.int p.1,.int p.2])):Rep H (ptD p) (.ref a):=yF.mpr ⟨a,_,rfl,h,.two (yB.mpr rfl) (yB.mpr rfl)⟩
section
variable{H:Hp}{v:V}
def lZ{n:g8}{x y:Int}(h:Rep H (Deed.mark n x y).dt v):∃ a,v=.ref a/\H a=Io (.tup [.str "mark",.str n,.int x,.int y]):=by
 obtain⟨a,xs,e,h1,h2⟩:=yF.mp h;obtain⟨_,_,rfl,k1,h2⟩:=zL.mp h2;obtain⟨_,_,rfl,k2,h2⟩:=zL.mp h2;obtain⟨_,_,rfl,k3,h2⟩:=zL.mp h2;obtain⟨_,_,rfl,k4,h2⟩:=zL.mp h2;rw[zW.mp k1,zW.mp k2,yB.mp k3,yB.mp k4,zY.mp h2] at h1;rwa[a,e,h1]
def kE{x y:Int}(h:Rep H (Deed.sail x y).dt v):∃ a,v=.ref a/\H a=Io (.tup [.str "sail",.int x,.int y]):=by
 obtain⟨a,xs,e,h1,h2⟩:=yF.mp h;obtain⟨_,_,rfl,k1,h2⟩:=zL.mp h2;obtain⟨_,_,rfl,k3,h2⟩:=zL.mp h2;obtain⟨_,_,rfl,k4,h2⟩:=zL.mp h2;rw[zW.mp k1,yB.mp k3,yB.mp k4,zY.mp h2] at h1;rwa[a,e,h1]
def uD{m:Int}{n:g8}{a b c d:Int}(h:Rep H (Deed.bearing m n a b c d).dt v):∃ t p q,v=.ref t/\H t=Io (.tup [.str "bearing",.int m,.str n,.ref p,.ref q])/\H p=Io (.tup [.int a,.int b])/\H q=Io (.tup [.int c,.int d]):=by
 obtain⟨t,xs,e,h1,h2⟩:=yF.mp h;obtain⟨_,_,rfl,k1,h3⟩:=zL.mp h2;obtain⟨_,_,rfl,k2,h4⟩:=zL.mp h3;obtain⟨_,_,rfl,k3,h5⟩:=zL.mp h4;obtain⟨_,_,rfl,k4,h6⟩:=zL.mp h5;obtain⟨_,_,rfl,k5,h7⟩:=zL.mp h6;obtain⟨p,rfl,hp⟩:=wy k4;obtain⟨q,rfl,hq⟩:=wy k5;have e6:=zY.mp h7;rw[zW.mp k1,yB.mp k2,zW.mp k3,e6] at h1;rwa[t,p,q,e,h1,hp,hq]
def rC{m:Int}{l r:g8}(h:Rep H (Deed.range m l r).dt v):∃ t,v=.ref t/\H t=Io (.tup [.str "range",.int m,.str l,.str r]):=by
 obtain⟨t,xs,e,h1,h2⟩:=yF.mp h;obtain⟨_,_,rfl,k1,h2⟩:=zL.mp h2;obtain⟨_,_,rfl,k2,h2⟩:=zL.mp h2;obtain⟨_,_,rfl,k3,h2⟩:=zL.mp h2;obtain⟨_,_,rfl,k4,h2⟩:=zL.mp h2;rw[zW.mp k1,yB.mp k2,zW.mp k3,zW.mp k4,zY.mp h2] at h1;rwa[t,e,h1]
end
def vb{H:Hp}{v:V}{k:Int}(h:Rep H (Deed.strike k).dt v):∃ t,v=.ref t/\H t=Io (.tup [.str "strike",.int k]):=by
 obtain⟨t,xs,e,h1,h2⟩:=yF.mp h;obtain⟨_,_,rfl,k1,h2⟩:=zL.mp h2;obtain⟨_,_,rfl,k2,h2⟩:=zL.mp h2;rw[zW.mp k1,yB.mp k2,zY.mp h2] at h1;rwa[t,e,h1]
def eC(l:List (Int×Deed))(k:Int):iM (ntE l) (.inl k)=ntE (l.filter λe=>decide (e.1≠k)):=by
 unfold iM ntE;rw[EI]
 congr 1
 erw[D1 λe _=>?_];simp
def dU{l:List (Int×Deed)}{k:Int}(h:k∈l.map (·.1)):∃ d,look (ntE l) (.inl k)=Io d:=by
 obtain⟨e,he,rfl⟩:=i4.mp h;unfold look;cases q:(ntE l).find? λx=>decide (x.1=BU e.1) with
 | none =>
  have:=BZ.mp q (.inl e.1,e.2.dt) (i4.mpr ⟨e,he,rfl⟩);simp at this
 | some x=>rwa[x.2,U]
def StA.stKlen{m b r n:b9}{k:Int} : (stK m b r n k).length<=100:=by show 5<=100; decide
def xU.le{H:Hp}{kvs:List (Key×V)}{es:List (Key×Dt)}(h:xU H kvs es){n:Nat}(hn:es.length<=n):kvs.length<=n:=by rw[h.length]; rwa[hn]
def yd(l:List (g8×Int×Int)):(mkE l).length=l.length:=by unfold mkE; rw[a7]
def wj(l:List (Int×Int)):(rnE l).length=l.length:=by unfold rnE; rw[a7,List.length_zipIdx]
def bO(l:List (Int×Deed)):(ntE l).length=l.length:=by unfold ntE; rw[a7]
end Sea

namespace Sea
def bkF(d p l:b9):List (g8×V):=[("state",.ref d),("past",.ref p),("later",.ref l)]
def tT{d p l:b9} : (bkF d p l).lookup ("state" : g8)=Io (.ref d):=by symm
def wr{d p l:b9} : (bkF d p l).lookup ("past" : g8)=Io (.ref p):=by symm
def xy{d p l:b9} : (bkF d p l).lookup ("later" : g8)=Io (.ref l):=by symm
def yq{d p l c:b9} : pb "state" (.ref c) (bkF d p l)=bkF c p l:=by symm
def qo{d p l c:b9} : pb "later" (.ref c) (bkF d p l)=bkF d p c:=by symm
def VC{d p l:b9} : pb "later" (.ref l) (pb "past" (.ref p) (pb "state" (.ref d) []))=bkF d p l:=by symm
def xM(H:Hp):List (Deed×BS)->List V->Prop
 | [],xs=>xs=[]
 | (D,S)::r,xs=>∃(t d:b9)(v:V)(ys:List V),xs=.ref t::ys/\H t=Io (.tup [v,.ref d])/\Rep H D.dt v/\fv H d S/\xM H r ys
structure BkA(C:b9)(H:Hp)(b p dx d l:b9)(ps ls:List V)(S:BS)(past later:List (Deed×BS)):Prop where
 ob:H b=Io (.ins C dx (bkF d p l))
 st:fv H d S
 pa:H p=Io (.lst ps)
 la:H l=Io (.lst ls)
 pp:xM H past ps
 ll:xM H later ls
 ne:l≠p
def gK(C:b9)(H:Hp)(b p:b9)(S:BS)(past later:List (Deed×BS)):Prop:=∃ dx d l ps ls,BkA C H b p dx d l ps ls S past later
section
variable{φ:b9->Prop}{H H1:Hp}
def ya.samE{a:b9}{es:List (Key×Dt)}(h:ya H a es)(s:yY φ H H1)(nd:∀ a kvs,Rd H a (.dK kvs)->¬ φ a)(np:∀ a xs,H a=Io (.tup xs)->¬ φ a):ya H1 a es:=let ⟨kvs,h1,h2⟩:=h;⟨kvs,s.rd (nd _ _ h1) h1,h2.sam s np⟩
def fv.samE{d:b9}{S:BS}(h:fv H d S)(s:yY φ H H1)(nd:∀ a kvs,Rd H a (.dK kvs)->¬ φ a)(np:∀ a xs,H a=Io (.tup xs)->¬ φ a):fv H1 d S :=
 let ⟨m,b,r,n,q⟩:=h;⟨m,b,r,n,s.rd (nd _ _ q.at_) q.at_,q.ma.samE s nd np,q.ba.samE s nd np,q.ru.samE s nd np,q.no.samE s nd np⟩
def xM.samE(s:yY φ H H1)(nd:∀ a kvs,Rd H a (.dK kvs)->¬ φ a)(np:∀ a xs,H a=Io (.tup xs)->¬ φ a):∀{l:List (Deed×BS)}{xs:List V},xM H l xs->xM H1 l xs
 | [],_,h=>h
 | (D,S)::r,xs,h=>by
  obtain⟨t,d,v,ys,e,h1,h2,h3,h4⟩:=h;rwa[t,d,v,ys,e,s.tup (np _ _ h1) h1,h2.sam s np,h3.samE s nd np,xM.samE s nd np h4]
def xM.app{D:Deed}{S:BS}{t d:b9}{v:V}(h1:H t=Io (.tup [v,.ref d]))(h2:Rep H D.dt v)(h3:fv H d S):∀{l:List (Deed×BS)}{xs:List V},xM H l xs->xM H (l++[(D,S)]) (xs++[.ref t])
 | [],xs,h=>by
  have h:xs=[]:=h;rw[h];rwa[t,d,v,[],U,h1,h2,h3,U]
 | (D',S')::r,xs,h=>by
  obtain⟨t',d',v',ys,e,g1,g2,g3,g4⟩:=h;rw[e];rwa[t',d',v',_,U,g1,g2,g3,xM.app h1 h2 h3 g4]
def xM.len:∀{l:List (Deed×BS)}{xs:List V},xM H l xs->xs.length=l.length
 | [],xs,h=>by have h:xs=[]:=h; rw[h]; rfl
 | (D,S)::r,xs,h=>by
  obtain⟨t,d,v,ys,e,_,_,_,h4⟩:=h;rw[e,m9,m9,xM.len h4]
abbrev Bp(b p:b9):b9->Prop:=λx=>x=b\/x=p
def Te{b p:b9}{C dx:b9}{fs:List (g8×V)}{ps:List V}(hb:H b=Io (.ins C dx fs))(hp:H p=Io (.lst ps)):∀ a kvs,Rd H a (.dK kvs)->¬ Bp b p a:=λa kvs h z=>by
 rcases z with z | z <;> subst z <;> rcases h with h | ⟨o,h⟩
 ·rw[hb] at h; cases h
 ·rw[hb] at h; cases h
 ·rw[hp] at h; cases h
 ·rw[hp] at h; cases h
def Tb{b p:b9}{C dx:b9}{fs:List (g8×V)}{ps:List V}(hb:H b=Io (.ins C dx fs))(hp:H p=Io (.lst ps)):∀ a xs,H a=Io (.tup xs)->¬ Bp b p a:=λa xs h z=>by
 rcases z with z | z <;> subst z
 ·rw[hb] at h; cases h
 ·rw[hp] at h; cases h
def BkA.to{C b p dx d l:b9}{ps ls:List V}{S:BS}{past later:List (Deed×BS)}(k:BkA C H b p dx d l ps ls S past later)(s:Sam H H1):BkA C H1 b p dx d l ps ls S past later :=
 ⟨s.ins id k.ob,k.st.to s,s.lst id k.pa,s.lst id k.la,k.pp.samE s (λ_ _ _=>id) (λ_ _ _=>id),k.ll.samE s (λ_ _ _=>id) (λ_ _ _=>id),k.ne⟩
def gK.to{C b p:b9}{S:BS}{past later:List (Deed×BS)}(k:gK C H b p S past later)(s:Sam H H1):gK C H1 b p S past later:=let ⟨dx,d,l,ps,ls,q⟩:=k;⟨dx,d,l,ps,ls,q.to s⟩
def jC{d p l:b9}{m:g8}(h1:m ≠ "state")(h2:m ≠ "past")(h3:m ≠ "later"):(bkF d p l).lookup m=none:=by
 unfold bkF;rw[p9,x6.mpr h1,p9,x6.mpr h2,p9,x6.mpr h3];rfl
end
end Sea

namespace Sea
def abc:g8 := "abcdefghijklmnopqrstuvwxyz"
def YY:abc.cps.toList=(Aj 26).map (97 + ·):=by ac_nf
def XX{i:Int}(h0:0<=i)(h1:i<26):atI abc.cps.toList i=Io (97+i.toNat):=by
 obtain⟨n,rfl⟩:=AI h0;erw[wZ ?_];rw[YY,e7,List.getElem?_range (by lia)];rfl
def chS(c:Nat):g8:=⟨#[c]⟩
def txt(l:List Nat):g8:=⟨l.toArray⟩
def zz(l:List Nat):(txt l).length=l.length:=by
 show l.toArray.size=_;rwa[i0]
def Vz{l m:List Nat}(h:txt l=txt m):l=m:=by
 have:=congrArg (λx:g8=>x.cps.toList) h;simpa [txt] using this
def lI(l m:List Nat):txt l++txt m=txt (l++m):=by
 show(⟨l.toArray++m.toArray⟩:g8)=⟨(l++m).toArray⟩;rw[List.append_toArray]
def Zc:∀ l:List Nat,Ed "" (l.map chS)=txt l
 | []=>rfl
 | [c]=>rfl
 | c::d::l=>by
  show chS c++("" : g8)++Ed "" ((d::l).map chS)=_;rw[Zc (d::l)];show txt [c]++txt []++txt (d::l)=_;rw[lI,lI];rfl
def YD(l:List Nat):CV "" (l.map chS)=txt l:=by
 rw[Dw];rwa[Zc l]
def cD(l:List Nat):sj "" (l.map chS)=l.length:=by
 unfold sj;rw[show("" : g8).length=0 from by decide,Nat.mul_zero,Nat.add_zero]
 induction l with
 | nil=>rfl
 | cons c l ih =>
  rw[l9,l9,Hy,ih,m9];show 1+l.length=_;lia
def cv(l:List Nat)(k:Nat)(h:k<=l.length):Cq (txt l) Ip (Io (k:Int))=txt (l.take k):=by
 have e:Bu Ip (Io (k:Int)) 1 (txt l).length=Aj k:=by
  unfold Bu sliceRange;rw[zz];have c1:¬ ((k:Int)<0):=by lia
  have c2:max 0 (min (k:Int) (l.length:Int))=k:=by lia
  simp only[c1,if_false,show(1:Int)>0 by decide,if_true,c2];by_cases z:(0:Int)<k
  ·rw[y9 z];have c3:(((k:Int)-0+1-1)/1).toNat=k:=by lia
   rw[c3];erw[Eg (by simp) λi h1 h2=>?_];simp
  ·have c4:k=0:=by lia
   subst c4;simp
 unfold Cq;rw[e,Bm,zz];by_cases c:k=l.length
 ·rw[y9 (by simp[c]),Ab (by lia)]
 ·rw[y7 (by simp; rwa[c])];show(⟨_⟩:g8)=⟨_⟩
  congr 1
  congr 1
  refine DX λi=>?_;rw[DI];have h2:(Aj k).filterMap (λj=>(txt l).cps[j]?)=l.take k:=by
   have:∀ m,m<=l.length->(Aj m).filterMap (λj=>(txt l).cps[j]?)=l.take m:=by
    intro m
    induction m with
    | zero=>intro _; simp
    | succ m ih =>
     intro hm;rw[EJ,ET,ih (by lia),w6]
     congr 1
     rw[d4 (by lia)];simp[txt,A6,show m<l.length by lia]
   rwa[this k h]
  rw[h2,DI]
def cC(l:List Nat)(k:Nat)(h:k<=l.length):Cq (txt l) (Io (k:Int)) Ip=txt (l.drop k):=by
 have e:Bu (Io (k:Int)) Ip 1 (txt l).length=(Aj (l.length-k)).map (k + ·):=by
  unfold Bu sliceRange;rw[zz];have c1:¬ ((k:Int)<0):=by lia
  have c2:max 0 (min (k:Int) (l.length:Int))=k:=by lia
  simp only[c1,if_false,show(1:Int)>0 by decide,if_true,c2];by_cases z:(k:Int)<l.length
  ·rw[y9 z];have c3:(((l.length:Int)-k+1-1)/1).toNat=l.length-k:=by lia
   rw[c3];erw[Eg (by simp) λi h1 h2=>?_];simp;lia
  ·have c4:l.length-k=0:=by lia
   rw[y7 z,c4];rfl
 unfold Cq;rw[e,a7,Bm,zz];by_cases c:k=0
 ·subst c;rw[y9 (by simp)];rfl
 ·by_cases c0:l.length=0
  ·have:l=[]:=CO.mp c0;subst this;rw[y9 (by simp)];rw[List.drop_nil]
  rw[y7 (by simp; lia)];show(⟨_⟩:g8)=⟨_⟩
  congr 1
  congr 1
  have:∀ m,m<=l.length-k->((Aj m).map (k + ·)).filterMap (λj=>(txt l).cps[j]?)=(l.drop k).take m:=by
   intro m
   induction m with
   | zero=>intro _; simp
   | succ m ih =>
    intro hm;rw[EJ,i8,ET,ih (by lia),w6]
    congr 1
    rw[List.getElem?_drop,d4 (by lia)];simp[txt,A6,show k+m<l.length by lia]
  rw[this _ (d6 _),Ab (by simp)]
def Ye{l:List Nat}{p c:Nat}(h:p<l.length):l.take p++[c]++l.drop (p+1)=l.set p c:=by
 rw[List.set_eq_take_append_cons_drop,y9 h];simp
def YV{l:List Nat}{p c:Nat}(h:p<l.length):Cq (txt l) Ip (Io (p:Int))++chS c++Cq (txt l) (Io ((p:Int)+1)) Ip=txt (l.set p c):=by
 rw[cv l p (by lia),show((p:Int)+1)=((p+1:Nat):Int) from rfl,cC l (p+1) (by lia)];show txt _++txt [c]++txt _=_;rw[lI,lI,Ye h]
def cU{l:List Nat}(h1:1<=l.length)(h8:l.length<=8)(h:∀ c∈l,97<=c/\c<=122):wM (txt l):=⟨by rw[zz]; exact h1,by rw[zz]; exact h8,λc hc=>h c (by simpa [txt] using hc)⟩
def Vn{l:List Nat}{p r:Nat}(hp:p<l.length){ws:List g8}(hw:ws.length<26):¬ ∀ j,j<26->txt (l.set p (97+(r+j)%26))∈ws:=λh=>by
 have nd:((Aj 26).map λj=>txt (l.set p (97+(r+j)%26))).Nodup:=by
  erw[BA.mpr (FT.mpr ?_)];erw[HA ?_ (BA.mp Gn)];intro a b ha hb ne z;have ha:=Az.mp ha;have hb:=Az.mp hb;have z:=Vz z;have z:=congrArg (λm:List Nat=>m[p]?) z;simp only[CP hp,D0] at z;lia
 have:=nd.length_le_of_subset (l₂:=ws) λx hx=>by
  obtain⟨j,hj,rfl⟩:=i4.mp hx;rwa[h j (Az.mp hj)]
 rw[a7,Bm] at this;lia
def Vu(x y:g8):eqV (.str x) (.str y)=decide (x=y):=by
 unfold eqV
 first
  | rfl
  | simp
  | (by_cases h:x=y <;> simp[h])
def Vc(x:g8)(ns:List g8):inV (.str x) (ns.map V.str)=decide (x∈ns):=by
 unfold inV
 induction ns with
 | nil=>simp
 | cons y ns ih =>
  rw[l9,AT,ih,Vu];by_cases h:x=y
  ·subst h; simp
  ·simp[h,AJ h]
def jt(ns:List g8):(ns.map V.str).all lQ=true:=by
 rw[FU];rwa[Ah.mpr λ_ _=>rfl]
end Sea

namespace Sea
def lwK(m b r n:b9)(k:Int):List (Key×V):=[(.inr "marks",.ref m),(.inr "banks",.ref b),(.inr "runs",.ref r),(.inr "notes",.ref n),(.inr "next",.int k)]
section
variable{m b r n c:b9}{k j:Int}
def yT:wS (lwK m b r n k) (.inr "marks")=Io (.ref m):=by symm
def qU:wS (lwK m b r n k) (.inr "banks")=Io (.ref b):=by symm
def uZ:wS (lwK m b r n k) (.inr "runs")=Io (.ref r):=by symm
def vL:wS (lwK m b r n k) (.inr "notes")=Io (.ref n):=by symm
def xz:wS (lwK m b r n k) (.inr "next")=Io (.int k):=by symm
def ng:rO (lwK m b r n k) (.inr "next") (.int j)=lwK m b r n j:=by symm
end
structure LwA(H:Hp)(d m b r n:b9)(S:BS):Prop where
 at_:Rd H d (.dK (lwK m b r n S.coming))
 ma:ya H m (mkE S.marks)
 ba:ya H b (bkE S.banks)
 ru:∃ rs,H r=Io (.lst rs)/\xN H (S.runs.map ptD) rs
 no:ya H n (ntE S.notes)
def ZM(H:Hp)(d:b9)(S:BS):Prop:=∃ m b r n,LwA H d m b r n S
section
variable{φ:b9->Prop}{H H1:Hp}{d m b r n:b9}{S:BS}
def LwA.samE(h:LwA H d m b r n S)(s:yY φ H H1)(nd:∀ a kvs,Rd H a (.dK kvs)->¬ φ a)(np:∀ a xs,H a=Io (.tup xs)->¬ φ a)(nl:∀ xs,H r=Io (.lst xs)->¬ φ r):LwA H1 d m b r n S :=
 ⟨s.rd (nd _ _ h.at_) h.at_,h.ma.samE s nd np,h.ba.samE s nd np,let ⟨rs,h1,h2⟩:=h.ru;⟨rs,s.lst (nl _ h1) h1,h2.sam s np⟩,h.no.samE s nd np⟩
def LwA.to(h:LwA H d m b r n S)(s:Sam H H1):LwA H1 d m b r n S:=h.samE s (λ_ _ _=>id) (λ_ _ _=>id) (λ_ _=>id)
def ZM.to(h:ZM H d S)(s:Sam H H1):ZM H1 d S:=let ⟨m,b,r,n,q⟩:=h;⟨m,b,r,n,q.to s⟩
def xN.drop:∀{l:List Dt}{xs:List V}(k:Nat),xN H l xs->xN H (l.drop k) (xs.drop k)
 | _,_,0,h=>h
 | [],_,k+1,h=>by rw[zY.mp h]; rwa[zY.mpr rfl]
 | d::l,_,k+1,h=>by
  obtain⟨x,r,e,_,h2⟩:=zL.mp h;rw[e];rwa[xN.drop k h2]
def xN.take:∀{l:List Dt}{xs:List V}(k:Nat),xN H l xs->xN H (l.take k) (xs.take k)
 | _,_,0,h=>zY.mpr rfl
 | [],_,k+1,h=>by rw[zY.mp h]; rwa[zY.mpr rfl]
 | d::l,_,k+1,h=>by
  obtain⟨x,r,e,h1,h2⟩:=zL.mp h;rw[e];rwa[zL.mpr ⟨x,_,rfl,h1,xN.take k h2⟩]
end
end Sea

namespace L2
def bx{ns:List g8} : ∀{us:List c7},yO (ns.map V.str) us->StrsAre us ns:=by
 induction ns with
 | nil=>intro us r; rw[CT] at r; cases r; rwa[.nil]
 | cons n ns ih =>
  intro us r;rw[l9] at r;cases r with
  | cons r1 r2 =>
   obtain⟨t,e⟩:=r1;subst e;rwa[.cons n t (ih r2)]
def Ty:∀{vs:List c7}{ns:List g8},StrsAre vs ns->yO (ns.map V.str) vs
 | _,_,.nil=>.nil
 | _,_,.cons n t h=>.cons ⟨t,rfl⟩ (Ty h)
section
variable{X:Cx}
def jH:uK X (.builtin "sorted") (λxs H Q=>∃(l:b9)(ns:List g8),xs=[.ref l]/\SqL X.K H l (ns.map V.str)/\ns.length<64 /\
  ∀(p:b9)(ms:List g8),H p=Ip->ms.Perm ns->sortedS ms=Iq->Q (.ref p) (upd H p (.lst (ms.map V.str)))):=by
 intro Is s σ H xs us Q I r h;obtain⟨l,ns,rfl,hq,h64,q⟩:=h;obtain⟨u,rfl,ru⟩:=yO.one r;cases ru;obtain⟨its,rv,pl,hz⟩:=I.list hq;have hn:=rv.length;rw[a7] at hn;erw[sorted_strs (ss:=ns) pl.isList (bx rv) (by lia) λout ms a1 a2 a3=>?_];obtain⟨e,at'⟩:=sortedAll_at s.heap its out;have fr:H (s.heap.objs.size+1)=none:=I.hok.fresh (BM _);erw[.ref (s.heap.objs.size+1),_,I.laid (t':=s.toks) (a:=s.heap.objs.size+1) (o:=.lst (ms.map V.str)) (λb ob q=>sortedAll_old q) (BM _) ?_,U,q _ ms fr a2 a3];refine⟨?_,out.toList,e,Ty a1,by simpa using at'⟩;rw[a7,a2.length_eq];rwa[j7 (BI h64) (by rw[sizeLine_eq]; decide)]
end
def ww(v d:b9)(h:o0):Prop:=h.IsItemsView v d
section
variable{X:Cx}{l:w4}{te:TE}{apos pos:Co}
def UD(te:TE):TE:=λσ H Q=>te σ H λx H1=>∃(d:b9)(kvs:List (Key×V)),x=.ref d/\Rd H1 d (.dK kvs)/\∀ v,H1 v=Ip->Q (.ref v) (upd H1 v (.ext (ww v d)))
def pL(hl:PE X l te)(hbase:attributeBase l "items" X.env (eval l X.env)=eval l X.env:=by rfl)(hline:(apos.endLine == pos.line)=true:=by rfl):PE X (.Call (.Attribute l "items" apos) [] [] pos) (UD te):=by
 intro Is s σ H Q I h;erw[CU (T := "dict") (id := "dict.items") hbase rfl hline DZ CW FV (thn (hl Is s σ H _ I h) λv s1 ⟨x,H1,I1,r1,d,kvs,e,hd,q⟩=>?_)];subst e;cases r1;obtain⟨hz,ns,vs,rel,da⟩:=hd.ok I1.hok;exists da.typeIs,da.mapOf.noDict;show wpAny _ _ (callWith pos (.builtin "dict.items") [.ref d] [] []) _ _ s1;erw[method_meetsIn CW FD rfl (Cw ⟨rfl,da.typeIs,Fg _,_,meets_dict_items (yK X.prog X.w) d ns,⟨vs,da⟩,?_⟩)];erw[.ref s1.heap.objs.size,_,I1.laid (t':=s1.toks) (a:=s1.heap.objs.size) (o:=.ext (ww s1.heap.objs.size d)) (λb o e=>c9 _ e) (d6 _) ⟨⟨_,d9 _ rfl,U,U⟩,⟨_,d9 _ rfl⟩,λh1 h2 ⟨o,e,c⟩ k=>⟨o,k o e,c⟩⟩,U,q _ (I1.hok.fresh (d6 _))]
end
def Inv.more{X:Cx}{Is:List (b9×AM)}{σ:St}{H:Hp}{s:d3}{a:b9}{o:HO}(I:Inv X Is σ H s)(f:fT X Is H a)(new:xI X.prog X.w (upd H a o) s.heap a o):Inv X Is σ (upd H a o) s:=by
 obtain⟨f0,f1,f2,f3,f4,f5⟩:=f;have nk:∀{b:b9}{u:HO},H b=Io u->upd H a o b=Io u:=λ{b u} e=>by
  rw[zH (λz=>by rw[z,f0] at e; cases e)];rwa[e]
 have nn:∀{b:b9},b≠a->H b=Ip->upd H a o b=none:=λ{b} n e=>by rw[zH n]; rwa[e]
 have lo:∀{b:b9}{u:AM},X.s₀.heap.get? b=Io u->b ∉ X.ex->b≠a:=λ{b u} e hx z=>by
  rcases f3 with q | q
  ·rwa[hx (by rw[z]; exact q)]
  ·rwa[x5 (f9 e) (Nat.not_lt.mpr (by rw[z]; exact q))]
 refine⟨I.ok,I.os,I.bare,⟨I.base.keep,I.base.slot,λb u e n hx=>nn (lo e hx) (I.base.free b u e n hx),I.base.there,λb xs e=>nk (I.base.tups b xs e),λb u v e=>nk (I.base.frzs b u v e),
  λb ps e=>let ⟨more,q⟩:=I.base.tbls b ps e;⟨more,nk q⟩⟩,I.loc,I.cell,nn (AJ f1) I.free,λx c e=>nn (f4 x c e) (I.freeC x c e),λp hp=>?_,λb u e=>?_,I.len⟩
 ·obtain⟨h1,h2,h3⟩:=I.pin p hp;rwa[h1,nn (f5 p hp) h2,h3]
 ·by_cases eb:b=a
  ·subst eb;rw[zA] at e;cases e;rwa[new]
  ·rw[zH eb] at e;exact(I.hok b u e).stay (λc v _ q=>q) (λc q=>nk q) λc xs q=>nk q
section
open PySem.W
variable{X:Cx}{Is:List (b9×AM)}{σ:St}{H:Hp}{s:d3}
def Inv.tuples{lo:b9} : ∀{as:List b9}{H:Hp}(xss:List (List V)),Inv X Is σ H s->as.Pairwise (· < ·)->(∀ a∈as,fT X Is H a)->as.length=xss.length->(∀(j:Nat)(a:b9)(xs:List V),as[j]?=Io a->xss[j]?=Io xs->∀ H',xI X.prog X.w H' s.heap a (.tup xs)) ->
  ∃ H2,Inv X Is σ H2 s/\Same H H2/\(∀(j:Nat)(a:b9)(xs:List V),as[j]?=Io a->xss[j]?=Io xs->H2 a=Io (.tup xs))/\∀ b,b ∉ as->H2 b=H b
 | [],H,[],I,_,_,_,_=>⟨H,I,Same.refl _,λj a xs e=>by simp at e,λ_ _=>rfl⟩
 | [],_,_::_,_,_,_,hl,_=>by simp at hl
 | _::_,_,[],_,_,_,hl,_=>by simp at hl
 | a::as,H,xs::xss,I,hr,hf,hl,ho=>by
  have fa:=hf a (.head _);have hr':=List.pairwise_cons.mp hr;have I1:=I.more (o:=.tup xs) fa (ho 0 a xs rfl rfl _);obtain⟨H2,I2,s2,g2,n2⟩:=Inv.tuples (lo:=lo) (as:=as) xss I1 hr'.2 (λb hb=>by
   obtain⟨f0,f1⟩:=hf b (.tail _ hb);rwa[by rw[zH (BX (hr'.1 b hb))]; exact f0,f1]) (by simpa using hl) (λj b ys e1 e2=>ho (j+1) b ys (by simpa using e1) (by simpa using e2))
  erw[H2,I2,(zD fa.1 _).trans s2,λj b ys e1 e2=>?_,λb hb=>?_]
  ·cases j with
   | zero =>
    simp at e1 e2;subst e1 e2;rwa[s2 _ _ zA]
   | succ j=>exact g2 j b ys (by simpa using e1) (by simpa using e2)
  ·rw[n2 b (λz=>hb (.tail _ z)),zH (λz=>hb (by rw[z]; rwa[.head _]))]
end
end L2

namespace Sea
section
variable{H H1:Hp}
def vo:∀{l:List (Int×Deed)}{kvs:List (Key×V)},xU H kvs (ntE l)->∃ ks:List (Int×V),kvs=ks.map (λe=>(.inl e.1,e.2))/\ks.map (·.1)=l.map (·.1)/\xN H (l.map (·.2.dt)) (ks.map (·.2))
 | [],_,h=>⟨[],h.nil_iff,rfl,zY.mpr rfl⟩
 | (n,D)::l,_,h=>by
  obtain⟨v,r,rfl,h1,h2⟩:=xU.cons_iff.mp h;obtain⟨ks,rfl,e,h3⟩:=vo (l:=l) h2;rwa[(n,v)::ks,U,by rw[l9,l9,e],zL.mpr ⟨v,_,U,h1,h3⟩]
def kY:∀{l:List (g8×Int×Int)}{kvs:List (Key×V)},xU H kvs (mkE l)->kvs.map (λkv=>kV kv.1)=(l.map (·.1)).map V.str
 | [],_,h=>by rw[h.nil_iff]; rfl
 | (n,p)::l,_,h=>by
  obtain⟨v,r,rfl,h1,h2⟩:=xU.cons_iff.mp h;rw[l9,kY h2];rfl
structure NotesAt(H:Hp)(as:List b9)(l:List (Int×Deed)):Prop where
 len:as.length=l.length
 at_:∀(j:Nat)(a:b9)(e:Int×Deed),as[j]?=Io a->l[j]?=Io e->∃ v,H a=Io (.tup [.int e.1,v])/\Rep H e.2.dt v
def Up(S:BS):Prop:=(S.notes.map (·.1)).Pairwise (· < ·)
def mG{S:BS}{n:g8}{p:Int×Int}(h:zQ S n=Io p):(n,p)∈S.marks:=by
 unfold zQ at h;rw[j6] at h;obtain⟨e,h1,rfl⟩:=h;have h2:=List.find?_some h1;have e1:e.1=n:=of_decide_eq_true h2;rw[<- e1];rwa[List.mem_of_find?_eq_some h1]
def Zq{S:BS}{n:g8}(h:n∈S.marks.map (·.1)):∃ p,zQ S n=Io p:=by
 obtain⟨e,h1,h2⟩:=i4.mp h;unfold zQ;cases q:S.marks.find? λe=>decide (e.1=n) with
 | none=>rwa[x5 (BZ.mp q e h1) (by simp[h2])]
 | some e'=>rwa[e'.2,U]
def nO{S:BS}{m:b9}{n:g8}{p:Int×Int}(h:ya H m (mkE S.marks))(e:zQ S n=Io p):∃(kvs:List (Key×V))(a:b9),Rd H m (.dK kvs)/\wS kvs (.inr n)=Io (.ref a)/\H a=Io (.tup [.int p.1,.int p.2]):=by
 obtain⟨kvs,h1,h2⟩:=h;obtain⟨v,g,r⟩:=h2.get (k:=.inr n) (d:=ptD p) (by rw[uB,e]; rfl);obtain⟨a,rfl,ha⟩:=wy r;rwa[kvs,a,h1,g,ha]
def kC:∀{l:List (Int×Int)}{k i:Nat}{p:Int×Int},l[i]?=Io p->look ((l.zipIdx k).map λe=>((.inl (e.2:Int):Key),ptD e.1)) (.inl ((k+i:Nat):Int))=Io (ptD p)
 | [],_,_,_,e=>by simp at e
 | q::l,k,0,p,e=>by
  simp at e;subst e;simp[look,Bc]
 | q::l,k,i+1,p,e=>by
  have ih:=kC (l:=l) (k:=k+1) (i:=i) (p:=p) (by simpa using e);rw[Bc,l9];unfold look at ih ⊢;rw[As,x4 (by intro z; injection z with z; simp at z; lia)];rw[show k+1+i=k+(i+1) by lia] at ih;rwa[ih]
def Yv{S:BS}{r:b9}{i:Nat}{p:Int×Int}(h:ya H r (rnE S.runs))(e:S.runs[i]?=Io p):∃(kvs:List (Key×V))(a:b9),Rd H r (.dK kvs)/\wS kvs (.inl (i:Int))=Io (.ref a)/\H a=Io (.tup [.int p.1,.int p.2]):=by
 obtain⟨kvs,h1,h2⟩:=h;have:=kC (k:=0) e;rw[Ev] at this;obtain⟨v,g,r⟩:=h2.get (k:=.inl (i:Int)) (d:=ptD p) this;obtain⟨a,rfl,ha⟩:=wy r;rwa[kvs,a,h1,g,ha]
end
section
variable{H H1:Hp}{S:BS}
structure MarksAt(H:Hp)(S:BS)(as:List b9)(ms:List g8):Prop where
 mk ::
 len:as.length=ms.length
 at_:∀(j:Nat)(a:b9)(n:g8),as[j]?=Io a->ms[j]?=Io n->∃ p:Int×Int,zQ S n=Io p/\H a=Io (.tup [.str n,.int p.1,.int p.2])
def uC{D:b9}{u o:HO}(eD:H D=Io u):yY (λx=>x=D) H (upd H D o):=λx o hx e=>.inl (by rw[zH hx]; rwa[e])
def lD{D:b9}{zs:List V}(eD:H D=Io (.lst zs)):∀ b xs,H b=Io (.tup xs)->¬ b=D:=λb xs e z=>by rw[z,eD] at e; cases e
end
end Sea

namespace Sea
structure TN(H:Hp)(as:List b9)(rows:List (List Int)):Prop where
 mk ::
 len:as.length=rows.length
 at_:∀(j:Nat)(a:b9)(r:List Int),as[j]?=Io a->rows[j]?=Io r->H a=Io (.tup (r.map V.int))
def tM(S:BS)(n:g8):Int×Int:=(zQ S n).getD (0,0)
def sidesN(S:BS):Deed->List (List Int)
 | .bearing _ n a b c d=>[bg [-b,a,a*(tM S n).2-b*(tM S n).1],bg [d,-c,(tM S n).1*d-(tM S n).2*c]]
 | .range _ l r=>[bg [(tM S l).2-(tM S r).2,(tM S r).1-(tM S l).1,(tM S r).1*(tM S l).2-(tM S r).2*(tM S l).1]]
 | _=>[]
def vc(S:BS):Deed->Prop
 | .bearing m n a b c d=>0<=m/\m<=S.runs.length/\(zQ S n).isSome=Iq/\ud (a,b)/\ud (c,d)
 | .range m l r=>0<=m/\m<=S.runs.length/\(zQ S l).isSome=Iq/\(zQ S r).isSome=Iq/\zQ S l≠zQ S r
 | _=>False
structure Us(S:BS):Prop where
 few:Few S
 fresh:Xr S
 rise:Up S
 mk_:∀ e∈S.marks,qi e.2
 way:∀ e∈S.runs,qi e
 note:∀ e∈S.notes,vc S e.2
structure GroupsAt(H0 H:Hp)(gs:List b9)(rows:List (List (List Int))):Prop where
 mk ::
 len:gs.length=rows.length
 new:∀ g∈gs,H0 g=Ip
 at_:∀(j:Nat)(g:b9)(r:List (List Int)),gs[j]?=Io g->rows[j]?=Io r->∃ as:List b9,H g=Io (.lst (as.map V.ref))/\TN H as r
def aU(a b c:V):qw [] [(.inr "marks",a),(.inr "banks",b),(.inr "runs",c)]=[(.inr "marks",a),(.inr "banks",b),(.inr "runs",c)]:=by symm
def WW(a b c d:V):rO [((.inr "marks" : Key),a),(.inr "banks",b),(.inr "runs",c)] (.inr "notes") d=[(.inr "marks",a),(.inr "banks",b),(.inr "runs",c),(.inr "notes",d)]:=by symm
def WD(a b c d e:V):rO [((.inr "marks" : Key),a),(.inr "banks",b),(.inr "runs",c),(.inr "notes",d)] (.inr "next") e=[(.inr "marks",a),(.inr "banks",b),(.inr "runs",c),(.inr "notes",d),(.inr "next",e)]:=by symm
def md{H:Hp}{D:b9}{kvs:List (Key×V)}(eD:H D=Io (.dK kvs)):∀ b xs,H b=Io (.tup xs)->¬ b=D:=λb xs e z=>by rw[z,eD] at e; cases e
def fQ{H:Hp}{w p q:b9}{m:Int}{n:g8}{a b c d:Int}(hw:H w=Io (.tup [.str "bearing",.int m,.str n,.ref p,.ref q]))(hp:H p=Io (.tup [.int a,.int b]))(hq:H q=Io (.tup [.int c,.int d])):Rep H (Deed.bearing m n a b c d).dt (.ref w) :=
 yF.mpr ⟨w,_,rfl,hw,zL.mpr ⟨_,_,rfl,zW.mpr rfl,zL.mpr ⟨_,_,rfl,yB.mpr rfl,zL.mpr ⟨_,_,rfl,zW.mpr rfl,.two (tD (p:=(a,b)) hp) (tD (p:=(c,d)) hq)⟩⟩⟩⟩
def hG{H:Hp}{w:b9}{m:Int}{l r:g8}(hw:H w=Io (.tup [.str "range",.int m,.str l,.str r])):Rep H (Deed.range m l r).dt (.ref w) :=
 yF.mpr ⟨w,_,rfl,hw,zL.mpr ⟨_,_,rfl,zW.mpr rfl,zL.mpr ⟨_,_,rfl,yB.mpr rfl,.two (zW.mpr rfl) (zW.mpr rfl)⟩⟩⟩
def YZ{H:Hp}{w:b9}{n:g8}{x y:Int}(hw:H w=Io (.tup [.str "mark",.str n,.int x,.int y])):Rep H (Deed.mark n x y).dt (.ref w) :=
 yF.mpr ⟨w,_,rfl,hw,zL.mpr ⟨_,_,rfl,zW.mpr rfl,zL.mpr ⟨_,_,rfl,zW.mpr rfl,.two (yB.mpr rfl) (yB.mpr rfl)⟩⟩⟩
def cb{H:Hp}{w:b9}{k:Int}(hw:H w=Io (.tup [.str "strike",.int k])):Rep H (Deed.strike k).dt (.ref w) :=
 yF.mpr ⟨w,_,rfl,hw,.two (zW.mpr rfl) (yB.mpr rfl)⟩
def Yp{H:Hp}{w:b9}{x y:Int}(hw:H w=Io (.tup [.str "sail",.int x,.int y])):Rep H (Deed.sail x y).dt (.ref w) :=
 yF.mpr ⟨w,_,rfl,hw,zL.mpr ⟨_,_,rfl,zW.mpr rfl,.two (yB.mpr rfl) (yB.mpr rfl)⟩⟩
end Sea

namespace Sea
def rW{S:BS}{n:g8}{e:g8×Int×Int}(h:(zQ S n).isSome=Iq):zQ { S with marks:=S.marks++[e] } n=zQ S n:=by
 unfold zQ at h ⊢;dsimp only;rw[List.find?_append];cases q:S.marks.find? λe=>decide (e.1=n) with
 | none=>rw[q] at h; simp at h
 | some e'=>rfl
def cm{S:BS}{D:Deed}{e:g8×Int×Int}(h:vc S D):vc { S with marks:=S.marks++[e] } D:=by
 match D,h with
 | .bearing m n a b c d,h=>rwa[h.1,h.2.1,by rw[rW h.2.2.1]; exact h.2.2.1,h.2.2.2]
 | .range m l r,h=>rwa[h.1,h.2.1,by rw[rW h.2.2.1]; exact h.2.2.1,by rw[rW h.2.2.2.1]; exact h.2.2.2.1,by rw[rW h.2.2.1,rW h.2.2.2.1]; exact h.2.2.2.2]
def Zh{S:BS}{D:Deed}{e:Int×Int}(h:vc S D):vc { S with runs:=S.runs++[e] } D:=by
 match D,h with
 | .bearing m n a b c d,h=>exact⟨h.1,by have:=h.2.1; dsimp only; rw[f8]; simp only[m9,Ax]; lia,h.2.2⟩
 | .range m l r,h=>exact⟨h.1,by have:=h.2.1; dsimp only; rw[f8]; simp only[m9,Ax]; lia,h.2.2⟩
def tu{S:BS}{D:Deed}{l:List (Int×Deed)}{k:Int}(h:vc S D):vc { S with notes:=l,coming:=k } D:=by
 match D,h with
 | .bearing m n a b c d,h=>rwa[h]
 | .range m l r,h=>rwa[h]
def YN:Us BS.nil:=⟨⟨by decide,by decide,by decide,by decide⟩,λe he=>(nomatch he),.nil,λe he=>(nomatch he),λe he=>(nomatch he),λe he=>(nomatch he)⟩
def jA{S:BS}{D:Deed}(g:Us S)(kn:vc S D)(l:S.notes.length<24):Us { S with notes:=S.notes++[(S.coming,D)],coming:=S.coming+1 }:=by
 refine⟨⟨g.few.ma,g.few.ba,g.few.ru,by show(S.notes++[_]).length<=60; rw[f8]; simp only[m9,Ax]; lia⟩,λe he=>?_,?_,g.mk_,g.way,λe he=>?_⟩
 ·rcases m7.mp he with z | z
  ·have:=g.fresh e z;show e.1<S.coming+1;lia
  ·rw[d8.mp z];show S.coming<S.coming+1;lia
 ·show((S.notes++[(S.coming,D)]).map (·.1)).Pairwise (· < ·);rw[i8,List.pairwise_append];erw[g.rise,List.pairwise_singleton _ _,λx hx y hy=>?_];obtain⟨e,he,rfl⟩:=i4.mp hx;rw[d8.mp hy];rwa[g.fresh e he]
 ·rcases m7.mp he with z | z
  ·rwa[tu (g.note e z)]
  ·rw[d8.mp z];rwa[tu kn]
def sx{n k:g8}{x y:Int} : ∀{l:List (g8×Int×Int)},((l.map λe=>if e.1=n then(e.1,x,y) else e).find? λe=>decide (e.1=k)).map (·.2)=((l.find? λe=>decide (e.1=k)).map (·.2)).map λp=>if k=n then(x,y) else p
 | []=>rfl
 | (m,p)::l=>by
  rw[l9,As,As];by_cases e1:m=n
  ·rw[y9 e1];by_cases e2:m=k
   ·subst e1 e2;simp
   ·rw[x4 (show ¬ (m,x,y).1=k from e2)];rwa[sx]
  ·rw[y7 e1];by_cases e2:m=k
   ·subst e2;simp[e1]
   ·rw[x4 (show ¬ (m,p).1=k from e2)];rwa[sx]
def vY{S:BS}{n k:g8}{x y:Int} : zQ (aft S (.move n x y)) k=(zQ S k).map λp=>if k=n then(x,y) else p:=sx
def uS{S:BS}{n k:g8}(h:k≠n):zQ (aft S (.unmark n)) k=zQ S k:=by
 unfold zQ;show(List.find? _ (S.marks.filter _)).map _=_;rw[List.find?_filter]
 congr 2
 funext e
 by_cases z:e.1=k
 ·simp[z,h]
 ·simp[z]
def vW{S:BS}{n k:g8}{x y:Int}(h:(zQ S k).isSome=Iq):(zQ (aft S (.move n x y)) k).isSome=true:=by
 rw[vY,Av];rwa[h]
def bj{S:BS}{D:Deed}{n:g8}{x y:Int}(h:vc S D)(g:rm (aft S (.move n x y)) D):vc (aft S (.move n x y)) D:=by
 match D,h,g with
 | .bearing m k a b c d,h,_=>rwa[h.1,h.2.1,vW h.2.2.1,h.2.2.2]
 | .range m l r,h,⟨p,u,e1,e2,ne⟩=>rwa[h.1,h.2.1,vW h.2.2.1,vW h.2.2.2.1,by rw[e1,e2]; exact λz=>ne (o9 z)]
def gj{S:BS}{D:Deed}{n:g8}(h:vc S D)(g:rX n D):vc (aft S (.unmark n)) D:=by
 match D,h,g with
 | .bearing m k a b c d,h,g=>rwa[h.1,h.2.1,by rw[uS g]; exact h.2.2.1,h.2.2.2]
 | .range m l r,h,g=>rwa[h.1,h.2.1,by rw[uS g.1]; exact h.2.2.1,by rw[uS g.2]; exact h.2.2.2.1,by rw[uS g.1,uS g.2]; exact h.2.2.2.2]
def sr{S S':BS}{D:Deed}(h:vc S D)(e1:S'.marks=S.marks)(e2:S'.runs.length=S.runs.length):vc S' D:=by
 have e:∀ n,zQ S' n=zQ S n:=λn=>by unfold zQ; rw[e1]
 match D,h with
 | .bearing m k a b c d,h=>rwa[h.1,by rw[e2]; exact h.2.1,by rw[e]; exact h.2.2.1,h.2.2.2]
 | .range m l r,h=>rwa[h.1,by rw[e2]; exact h.2.1,by rw[e]; exact h.2.2.1,by rw[e]; exact h.2.2.2.1,by rw[e,e]; exact h.2.2.2.2]
def Xn{S:BS}{D:Deed}(g:Us S)(ok:okD S D):Us (aft S D):=by
 match D,ok with
 | .mark n x y,ok =>
  refine⟨⟨by show(S.marks++[_]).length<=60; rw[f8]; have:=ok.2.2.2; simp only[m9,Ax]; lia,g.few.ba,g.few.ru,g.few.no⟩,g.fresh,g.rise,λe he=>?_,g.way,λe he=>cm (g.note e he)⟩;rcases m7.mp he with z | z
  ·rwa[g.mk_ e z]
  ·rw[d8.mp z];rwa[ok.2.2.1]
 | .sail x y,ok =>
  refine⟨⟨g.few.ma,g.few.ba,by show(S.runs++[_]).length<=60; rw[f8]; have:=ok.2; simp only[m9,Ax]; lia,g.few.no⟩,g.fresh,g.rise,g.mk_,λe he=>?_,λe he=>Zh (g.note e he)⟩;rcases m7.mp he with z | z
  ·rwa[g.way e z]
  ·rw[d8.mp z];rwa[ok.1]
 | .bearing m n a b c d,ok=>rwa[jA g ⟨ok.1,ok.2.1,ok.2.2.1,ok.2.2.2.1,ok.2.2.2.2.1⟩ ok.2.2.2.2.2.2]
 | .range m l r,ok=>rwa[jA g ⟨ok.1,ok.2.1,ok.2.2.1,ok.2.2.2.1,ok.2.2.2.2.1⟩ ok.2.2.2.2.2]
 | .move n x y,ok =>
  refine⟨⟨by show(S.marks.map _).length<=60; rw[a7]; exact g.few.ma,g.few.ba,g.few.ru,g.few.no⟩,g.fresh,g.rise,λe he=>?_,g.way,λe he=>bj (g.note e he) (ok.2.2 e he)⟩;obtain⟨e',h1,rfl⟩:=i4.mp he;by_cases z:e'.1=n
  ·rw[y9 z];rwa[ok.2.1]
  ·rw[y7 z];rwa[g.mk_ e' h1]
 | .unmark n,ok =>
  rwa[⟨j7 (BD _ _) g.few.ma,g.few.ba,g.few.ru,g.few.no⟩,g.fresh,g.rise,λe he=>g.mk_ e (BG.mp he).1,g.way,λe he=>gj (g.note e he) (ok.2 e he)]
 | .bank n cs,ok =>
  exact⟨⟨g.few.ma,by show(S.banks++[_]).length<=60; rw[f8]; have:=ok.2.2.2.2; simp only[m9,Ax]; lia,g.few.ru,g.few.no⟩,g.fresh,g.rise,g.mk_,g.way,λe he=>sr (g.note e he) rfl rfl⟩
 | .level n,_ =>
  rwa[⟨g.few.ma,j7 (BD _ _) g.few.ba,g.few.ru,g.few.no⟩,g.fresh,g.rise,g.mk_,g.way,λe he=>sr (g.note e he) rfl rfl]
 | .right k x y,ok =>
  refine⟨⟨g.few.ma,g.few.ba,by show(S.runs.set _ _).length<=60; rw[Df]; exact g.few.ru,g.few.no⟩,g.fresh,g.rise,g.mk_,λe he=>?_,λe he=>sr (g.note e he) rfl (by show(S.runs.set _ _).length=_; rw[Df])⟩;rcases DP he with z | z
  ·rwa[g.way e z]
  ·rw[z];rwa[ok.2.2]
 | .strike k,_ =>
  erw[⟨g.few.ma,g.few.ba,g.few.ru,j7 (BD _ _) g.few.no⟩,λe he=>g.fresh e (BG.mp he).1,?_,g.mk_,g.way,λe he=>tu (g.note e (BG.mp he).1)];rwa[g.rise.sublist (Fh.map _)]
def Zz:BS->List Deed->Prop
 | _,[]=>True
 | S,D::r=>okD S D/\Zz (aft S D) r
def UV(S:BS)(l:List Deed):BS:=l.foldl aft S
def LwN(H0 H:Hp)(d:b9)(S:BS):Prop:=∃ m b r n,H0 r=Ip/\LwA H d m b r n S
structure SmallN(no:List (Int×Deed))(k:Int)(i:Nat):Prop where
 mk ::
 len:no.length=i
 num:k=1+(i:Int)
 pos:∀ e∈no,1<=e.1
def fourK:Deed->Prop
 | .mark _ _ _ | .sail _ _ | .bearing _ _ _ _ _ _ | .range _ _ _=>True
 | _=>False
structure MarksN(S:BS):Prop where
 mk ::
 lo:3<=S.marks.length
 hi:S.marks.length<=5
 bd:∀ e∈S.marks,e.2.1.natAbs<=860/\e.2.2.natAbs<=860
 bk:S.banks=[]
end Sea

namespace Sea
def stN(l:List (g8×Int×Int))(rs:List (Int×Int))(no:List (Int×Deed))(k:Int):BS:=⟨l,[],rs,no,k⟩
section
variable{l:List (g8×Int×Int)}{rs:List (Int×Int)}{no:List (Int×Deed)}{k:Int}
structure Done(Ds:List Deed)(l:List (g8×Int×Int))(rs:List (Int×Int))(no:List (Int×Deed))(k:Int):Prop where
 mk ::
 ok:Zz BS.nil Ds
 at_:UV BS.nil Ds=stN l rs no k
 four:∀ D∈Ds,fourK D
end
def Ua{ms:List g8}{x:Int}(h:0<((ms.map V.str).length:Int)):∃ n,n∈ms/\atI (ms.map V.str) (x%((ms.map V.str).length:Int))=Io (.str n):=by
 have h0:=w5 x (show((ms.map V.str).length:Int)≠0 by lia);have h1:=o7 x h;generalize x%((ms.map V.str).length:Int)=y at h0 h1;obtain⟨k,rfl⟩:=AI h0;have hk:k<ms.length:=by rw[a7] at h1; lia
 rwa[ms[k],Bw hk,wZ (by rw[e7,d4 hk]; rfl)]
end Sea

namespace L2
def mf(o:AM)(f:Array c7->Array c7):(Bg f o).dict=o.dict:=by unfold Bg; split <;> rfl
def gY(h base:o0)(e:b9)(cls fl:c7):Prop :=
 ∃ oe vs T oT ts,h.get? e=Io oe/\(oe.cls=cls/\oe.dict=Ip/\vs[2]?=Io .none)/\oe.data=.fields vs/\vs[1]?=Io (.ref T)/\base.get? T=Ip/\T≠e/\h.get? T=Io oT/\oT.data=.fields ts/\ts[3]?=Io fl
def uY(base:o0)(l:List Do)(e:b9)(cls:c7)(h:o0):Prop:=base.StaysIn h/\base.get? e=Ip/\h.FunFrames base l/\gY h base e cls .none
def YW(base:o0)(l:List Do)(e:b9)(cls:c7)(L:b9)(h:o0):Prop:=base.StaysIn h/\base.get? e=Ip/\h.FunFrames base l/\gY h base e cls (rawInt L)
def jK(a:b9)(cls:c7)(h:o0):Prop:=∃ ob vs,h.get? a=Io ob/\ob.cls=cls/\ob.dict=Ip/\ob.data=.fields vs/\vs[2]?=Io .none
def uY.there{base h:o0}{l:List Do}{e:b9}{cls:c7}(x:uY base l e cls h):jK e cls h:=by
 obtain⟨_,_,_,oe,vs,_,_,_,he,hc,hd,_⟩:=x;rwa[oe,vs,he,hc.1,hc.2.1,hd,hc.2.2]
section
variable{M:HG}{A:Ac}{E:c7->d3->Prop}{s:d3}
def XW{base:o0}{env:Do}{outer:List Do}{L e:b9}{oe:AM}{vs:Array c7}{head:c7}{hadNext:Bool}{Q:Unit->d3->Prop}
  (hfr:A.frames=Io (env::outer)) (hl:s.heap.FunFrames base (env::outer)) (hf:env.frame=Io L)
  (he:s.heap.get? e=Io oe) (hkb:base.StaysIn s.heap) (hen:base.get? e=Ip) (hd:oe.data=.fields vs) (hsz:1<vs.size) (hdi:oe.dict=Ip) (h0:vs[2]?=Io .none)
  (h:∀ h',YW base (env::outer) e oe.cls L h'->s.heap.UpToSlots h'->Q () { s with heap:=h' }) :
  wpAny M A (do let a <- frameOf env; let pl <- entryPlaceOf L hadNext; let b <- Fi head a .none (rawInt L) .none pl; setField (.ref e) 1 b) Q E s:=by
 have hene:e ∉ (env::outer).filterMap (·.frame):=λhm=>by
  obtain⟨_,o,ho,hnf⟩:=hl.mem hm;rw[he] at ho; injection ho with ho; subst ho; rwa[hnf vs hd]
 erw[ac (wpAny_frameOf_fun hfr hl hf λh₁ hs₁=>?_)];erw[ac (wpAny_entryPlaceOf λpl hpl=>?_)];unfold Fi newFields;erw[ac (t6 ?_ (hpl.sizeOk5 _ _ _ _ _))];have he₁:h₁.get? e=Io oe:=(hs₁.2.1 e hene).trans he;have kb₁:base.StaysIn h₁:=λb o hbo=>(hs₁.2.1 b λhm=>by rw[(hl.mem hm).1] at hbo; cases hbo).trans (hkb b o hbo);generalize hob:({ cls:=.type "traceback",dict:=Ip,data:=.fields ([head,.ref L,.none,rawInt L,.none]++(if pl.isEmpty then t9 6 r9 else pl)).toArray } : AM)=ob;have hobf:ob.isFreed=false:=by rw[<- hob]; rfl
 have hobd:ob.data=.fields ([head,.ref L,.none,rawInt L,.none]++(if pl.isEmpty then t9 6 r9 else pl)).toArray:=by rw[<- hob]
 have he₂:=c9 (h:=h₁) ob he₁;erw[Bi he₂ hd hsz (h _ ?_ ?_)]
 ·have hTe:h₁.objs.size≠e:=BX (f9 he₁);have hd₃:=AL hd (·.setIfInBounds 1 (i9 h₁.objs.size));have he₃:=AR (Bg (·.setIfInBounds 1 (i9 h₁.objs.size))) he₂ (A9 hd₃);have hT₃:=(o8 (h₁.push ob) (Bg (·.setIfInBounds 1 (i9 h₁.objs.size))) (AJ hTe)).trans (d9 h₁ hobf);have keep:∀ b o,b≠e->h₁.get? b=Io o->((h₁.push ob).update e (Bg (·.setIfInBounds 1 (i9 h₁.objs.size)))).get? b=Io o:=λb o hbe hb=>by
   rw[o8 _ _ (AJ hbe)];rwa[c9 _ hb]
  have noRecord:∀ b o,s.heap.get? b=Io o->(∀ vs,o.data≠.fields vs)->b≠e:=λb o hb hnf q=>by
   rw[q,he] at hb; injection hb with hb; subst hb; rwa[hnf vs hd]
  refine⟨λb o hbo=>keep b o (λq=>by rw[q,hen] at hbo; cases hbo) (kb₁ b o hbo),hen,hl.of_keeps λb o hb hnf=>?_,?_⟩
  ·obtain⟨sl,hs⟩:=hs₁.2.2 b o hb;rwa[_,keep b _ (noRecord b o hb hnf) hs,U]
  ·exact⟨_,_,h₁.objs.size,_,_,he₃,⟨Cf _ _,by rw[mf]; exact hdi,by rw[Array.getElem?_setIfInBounds_ne (by decide)]; rwa[h0]⟩,hd₃,by simp[hsz],kb₁.fresh,hTe,hT₃,hobd,by first | (simp; done) | (rcases hpl with rfl | ⟨_,_,_,_,_,_,_,rfl⟩ <;> simp)⟩
 ·intro b o hb hnf;have hbe:b≠e:=λq=>by rw[q,he] at hb; injection hb with hb; subst hb; rwa[hnf vs hd]
  obtain⟨sl,hs⟩:=hs₁.2.2 b o hb;exists sl;rw[o8 _ _ (AJ hbe)];rwa[c9 _ hs]
def gN{base:o0}{env:Do}{outer:List Do}{L e:b9}{oe:AM}{vs:Array c7}{Q:Unit->d3->Prop}
  (hfr:A.frames=Io (env::outer)) (hl:s.heap.FunFrames base (env::outer)) (hf:env.frame=Io L)
  (he:s.heap.get? e=Io oe) (hkb:base.StaysIn s.heap) (hen:base.get? e=Ip) (hd:oe.data=.fields vs) (h1:vs[1]?=Io .none) (hdi:oe.dict=Ip) (h0:vs[2]?=Io .none)
  (h:∀ h',YW base (env::outer) e oe.cls L h'->s.heap.UpToSlots h'->Q () { s with heap:=h' }):wpAny M A (noteFrame (.ref e) env) Q E s:=by
 unfold noteFrame;simp only[hf];erw[ac (Af he hd h1 ?_)];rw[y7 (by decide)];rwa[XW hfr hl hf he hkb hen hd (BB.mp h1).1 hdi h0 h]
def ik{base:o0}{env:Do}{outer:List Do}{L e:b9}{cls:c7}{Q:Unit->d3->Prop}
  (hfr:A.frames=Io (env::outer)) (hf:env.frame=Io L) (hfl:uY base (env::outer) e cls s.heap)
  (h:∀ h',YW base (env::outer) e cls L h'->s.heap.UpToSlots h'->Q () { s with heap:=h' }):wpAny M A (noteFrame (.ref e) env) Q E s:=by
 obtain⟨hkb,hen,hl,oe,vs,T,oT,ts,he,⟨hcls,hdi,h0⟩,hd,h1,hnT,hTe,hT,hdT,h3⟩:=hfl;subst hcls;unfold noteFrame;simp only[hf];refine ac (Af he hd h1 ?_);rw[y9 (show(i9 T != r9)=Iq from by simp)];refine ac (Af hT hdT h3 ?_);rw[y7 (show ¬ ((r9 == rawInt L)=Iq) from by simp[rawInt])];refine ac (Bi hT hdT (BB.mp h3).1 ?_);have other:∀ b,b≠T->(s.heap.update T (Bg (·.setIfInBounds 3 r9))).get? b=s.heap.get? b:=λb hb=>o8 _ _ (AJ hb);have noRecord:∀ b o,s.heap.get? b=Io o->(∀ vs,o.data≠.fields vs)->b≠T:=λb o hb hnf q=>by
  rw[q,hT] at hb; injection hb with hb; subst hb; rwa[hnf ts hdT]
 refine XW hfr (hl.of_keeps λb o hb hnf=>⟨o,(other b (noRecord b o hb hnf)).trans hb,rfl⟩) hf ((other e (AJ hTe)).trans he)
  (λb o hbo=>(other b λq=>by rw[q,hnT] at hbo; cases hbo).trans (hkb b o hbo)) hen hd (BB.mp h1).1 hdi h0
  λh' x1 x2=>h h' x1 λb o hb hnf=>x2 b o ((other b (noRecord b o hb hnf)).trans hb) hnf
def Ze{base:o0}{l:List Do}{e:b9}{cls fl:c7}{Q:Unit->d3->Prop}(hh:base.StaysIn s.heap/\base.get? e=Ip/\s.heap.FunFrames base l/\gY s.heap base e cls fl)
  (h:∀ h',uY base l e cls h'->s.heap.UpToSlots h'->Q () { s with heap:=h' }):wpAny M A (setFlight (.ref e) Ip) Q E s:=by
 obtain⟨hkb,hen,hl,oe,vs,T,oT,ts,he,hcls,hd,h1,hnT,hTe,hT,hdT,h3⟩:=hh;have hsz3:3<ts.size:=(BB.mp h3).1;have other:∀ b,b≠T->(s.heap.update T (Bg (·.setIfInBounds 3 ((Ip:Option b9).elim r9 λf=>rawInt f)))).get? b=s.heap.get? b :=
  λb hb=>o8 _ _ (AJ hb)
 have noRecord:∀ b o,s.heap.get? b=Io o->(∀ vs,o.data≠.fields vs)->b≠T:=λb o hb hnf q=>by
  rw[q,hT] at hb; injection hb with hb; subst hb; rwa[hnf ts hdT]
 unfold setFlight;refine ac (Af he hd h1 ?_);rw[y9 (show(i9 T != r9)=Iq from by simp)];refine Bi hT hdT hsz3 (h _ ⟨λb o hbo=>(other b λq=>by rw[q,hnT] at hbo; cases hbo).trans (hkb b o hbo),hen,
  hl.of_keeps λb o hb hnf=>⟨o,(other b (noRecord b o hb hnf)).trans hb,rfl⟩,?_⟩ λb o hb hnf=>⟨o.slots,(other b (noRecord b o hb hnf)).trans hb⟩)
 rwa[oe,vs,T,_,_,(other e (AJ hTe)).trans he,hcls,hd,h1,hnT,hTe,AR _ hT (A9 (AL hdT _)),AL hdT _,by simp[hsz3]]
def ZQ{base:o0}{l:List Do}{e L:b9}{cls:c7}{Q:Unit->d3->Prop}(hh:YW base l e cls L s.heap)
  (h:∀ h',uY base l e cls h'->s.heap.UpToSlots h'->Q () { s with heap:=h' }):wpAny M A (setFlight (.ref e) Ip) Q E s:=Ze hh h
def jw{base:o0}{l:List Do}{e:b9}{cls:c7}{Q:Unit->d3->Prop}(hh:uY base l e cls s.heap)
  (h:∀ h',uY base l e cls h'->s.heap.UpToSlots h'->Q () { s with heap:=h' }):wpAny M A (setFlight (.ref e) Ip) Q E s:=Ze hh h
def bz{base:o0}{env:Do}{outer:List Do}{L e:b9}{cls:c7}{Q:Unit->d3->Prop}
  (hfr:A.frames=Io (env::outer)) (hf:env.frame=Io L) (hfl:uY base (env::outer) e cls s.heap)
  (hQ:∀ h',uY base outer e cls h'->s.heap.UpToSlots h'->Q () { s with heap:=h' }):wpAny M A (leaving env (.ref e)) Q E s:=by
 unfold leaving;erw[ac (ik hfr hf hfl λh1 x1 u1=>?_)];erw[ZQ x1 λh2 ⟨k1,k2,⟨_,_,k3⟩,k4⟩ u2=>hQ h2 ⟨k1,k2,k3,k4⟩ (u1.trans u2)]
def iG{base h:o0}{env:Do}{outer:List Do}{L e:b9}{cls:c7}{args:List c7}{Q:Unit->d3->Prop}
  (hfr:A.frames=Io (env::outer)) (hf:env.frame=Io L) (hkb:base.StaysIn h) (hl:h.FunFrames base (env::outer)) (hx:GQ h s.heap e cls args)
  (hQ:∀ h',uY base outer e cls h'->s.heap.UpToSlots h'->Q () { s with heap:=h' }):wpAny M A (leaving env (.ref e)) Q E s:=by
 obtain⟨t,he,htn,ht⟩:=hx.there;have fresh:∀ b,h.get? b=Ip->base.get? b=none:=λb hb=>by
  cases hq:base.get? b with
  | none=>rfl
  | some o'=>have:=hkb b o' hq; rw[hb] at this; cases this
 unfold leaving;erw[ac (gN hfr (hl.of_keeps λb o hb _=>⟨o,hx.keeps b o hb,rfl⟩) hf he (λb o hb=>hx.keeps b o (hkb b o hb)) (fresh e hx.new) rfl rfl rfl rfl λh1 x1 u1=>?_)];erw[ZQ x1 λh2 ⟨k1,k2,⟨_,_,k3⟩,k4⟩ u2=>hQ h2 ⟨k1,k2,k3,k4⟩ (u1.trans u2)]
end
end L2

namespace L2
def ku:plainId "proto.unchain" = true:=by ac_nf
def kJ:entryFor table "proto.unchain" = Io Cn.«proto.unchain»:=entryFor_of_tree (by symm)
def iK(h:o0)(x:b9):Prop:=∃ ob vs,h.get? x=Io ob/\ob.data=.fields vs/\vs[2]?=Io .none
section
variable{prog:j9}{w:n9}{A:Ac}{E:c7->d3->Prop}{s:d3}
def vg{α:Type}{x e:b9}{oe:AM}{ws:Array c7}{Q:α->d3->Prop}(hh:A.handled=Io (.ref x))(hne:x≠e)(ha:iK s.heap x)(he:s.heap.get? e=Io oe)(hde:oe.data=.fields ws)(hz:2<ws.size)
  (h:E (.ref e) { s with heap:=s.heap.update e (Bg (·.setIfInBounds 2 (.ref x))) }):wpAny (model prog w) A (raiseNew (.ref e):GW α) Q E s:=by
 obtain⟨ox,vs,hx,hd,h2⟩:=ha;unfold raiseNew;erw[ac (Fm ?_)];rw[hh];dsimp only;rw[y9 (show(i9 x != i9 e)=Iq by simpa using hne)];erw[ac (Aw (wpAny_runValue (codeAny_builtin kJ ?_)))];rw[Around.under_plainId ku _];unfold Cn.«proto.unchain»;dsimp only;erw[ac (Af hx hd h2 ?_)];rw[y9 (by rfl)];erw[ac (d7 (d7 ?_))];erw[ac ?_];unfold updateField;erw[ac (wpAny_load he ?_)];rw[hde];dsimp only;rw[y9 hz];rwa[wpAny_update he (Gx h)]
def mm{x it l:b9}{i:Nat}{items:Array c7}{Q:Option c7->d3->Prop}(hh:A.handled=Io (.ref x))(ha:iK s.heap x)(hxi:x≠it)
  (hit:s.heap.IsListIter it l i) (hl:s.heap.IsList l items) (hx:items[i]?=Ip)
  (hQ:∀ h',CN it s.heap h'->Q Ip { s with heap:=h' }):wpAny (model prog w) A (pyNext (.ref it)) Q E s:=by
 obtain⟨o,ho,hc,hd⟩:=id hit;obtain⟨ol,hol,_,nl,hdl⟩:=hl;unfold pyNext;refine ac (BP (Ap (name:=l5 "__next__") hit.typeIs D7
  (Ar D7 hit.typeIs PySem.entry_listiter_next ?_ (PySem.args_listiter_next _))))
 show wpAny _ _ (field (.ref it) 0 >>= _) _ _ s;erw[ac (Af ho hd (x:=.ref l) rfl ?_)];show wpAny _ _ (if (i9 l == r9)=Iq then _ else _) _ _ s;rw[y7 (show ¬ ((i9 l == r9)=Iq) from h9)];show wpAny _ _ (field (.ref it) 1 >>= _) _ _ s;erw[ac (Af ho hd (x:=.int i 0) rfl ?_)];show wpAny _ _ (seqItems? (.ref l) >>= _) _ _ s;erw[ac (A5 hol hdl ?_)];simp only[AH,hx];erw[ac (DA (ac (Bi ho hd (by simp) ?_)))];show wpAny _ _ (newExc (.type "StopIteration") [] >>= _) _ _ _;erw[ac ?_];simp only[newExc,newTuple];erw[ac (t6 ?_ (by size_fits))];refine ac (m:=firstArgMember _ _) (Cj (a:=r9) (by first | rfl | (simp only[firstArgMember]; rfl)) ?_);erw[t6 ?_ (by size_fits)];obtain⟨ox,vs,hox,hdx,h2x⟩:=ha;refine vg (x:=x) (ws:=_) (by first | exact hh | (rw[show A.in1.handled=A.handled from rfl]; rwa[hh])) ?_ ⟨ox,vs,c9 _ (c9 _ ((o8 _ _ (AJ hxi)).trans hox)),hdx,h2x⟩ (d9 _ rfl) rfl (by simp; lia) ?_
 ·rwa[λz=>x5 (f9 hox) (by rw[z]; simp)]
 erw[ac (C2 (T := "StopIteration") (b:=Iq) ⟨_,AR _ (d9 _ rfl) (A9 (AL rfl _)),Cf _ _⟩ isSubtype_stop ?_)];erw[d7 (hQ _ λb o hb e=>?_)];rw[o8 _ _ (λz=>x5 (f9 e) (by rw[<- z]; simp))];rwa[c9 _ (c9 _ ((o8 _ _ (AJ hb)).trans e))]
def nL{x it t:b9}{i:Nat}{items:Array c7}{Q:Option c7->d3->Prop}(hh:A.handled=Io (.ref x))(ha:iK s.heap x)(hxi:x≠it)
  (hit:IsTupIter s.heap it t i) (ht:HF s.heap t items) (hx:items[i]?=Ip)
  (hQ:∀ h',CN it s.heap h'->Q Ip { s with heap:=h' }):wpAny (model prog w) A (pyNext (.ref it)) Q E s:=by
 obtain⟨o,ho,hc,hd⟩:=id hit;obtain⟨ol,hol,_,nl,hdl⟩:=ht;unfold pyNext;refine ac (BP (Ap (name:=l5 "__next__") hit.typeIs slot_tupleiter_next
  (Ar slot_tupleiter_next hit.typeIs entry_tupleiter_next ?_ (args_tupleiter_next _))))
 show wpAny _ _ (field (.ref it) 0 >>= _) _ _ s;erw[ac (Af ho hd (x:=.ref t) rfl ?_)];show wpAny _ _ (if (i9 t == r9)=Iq then _ else _) _ _ s;rw[y7 (show ¬ ((i9 t == r9)=Iq) from h9)];show wpAny _ _ (field (.ref it) 1 >>= _) _ _ s;erw[ac (Af ho hd (x:=.int i 0) rfl ?_)];show wpAny _ _ (seqItems? (.ref t) >>= _) _ _ s;erw[ac (A5 hol hdl ?_)];simp only[AH,hx];erw[ac (DA (ac (Bi ho hd (by simp) ?_)))];show wpAny _ _ (newExc (.type "StopIteration") [] >>= _) _ _ _;erw[ac ?_];simp only[newExc,newTuple];erw[ac (t6 ?_ (by size_fits))];refine ac (m:=firstArgMember _ _) (Cj (a:=r9) (by first | rfl | (simp only[firstArgMember]; rfl)) ?_);erw[t6 ?_ (by size_fits)];obtain⟨ox,vs,hox,hdx,h2x⟩:=ha;refine vg (x:=x) (ws:=_) (by first | exact hh | (rw[show A.in1.handled=A.handled from rfl]; rwa[hh])) ?_ ⟨ox,vs,c9 _ (c9 _ ((o8 _ _ (AJ hxi)).trans hox)),hdx,h2x⟩ (d9 _ rfl) rfl (by simp; lia) ?_
 ·rwa[λz=>x5 (f9 hox) (by rw[z]; simp)]
 erw[ac (C2 (T := "StopIteration") (b:=Iq) ⟨_,AR _ (d9 _ rfl) (A9 (AL rfl _)),Cf _ _⟩ isSubtype_stop ?_)];erw[d7 (hQ _ λb o hb e=>?_)];rw[o8 _ _ (λz=>x5 (f9 e) (by rw[<- z]; simp))];rwa[c9 _ (c9 _ ((o8 _ _ (AJ hb)).trans e))]
def kH{x t:b9}{items:Array c7}{targets:List (Bool×(c7->GW Unit))}{Q:Unit->d3->Prop}(hh:A.handled=Io (.ref x))(ha:iK s.heap x)(ht:HF s.heap t items)
  (hn:targets.length=items.size) (hstar:targets.findIdx? (·.1)=Ip)
  (h:∀ h',CN s.heap.objs.size s.heap h'->wpAny (model prog w) A (assignInOrder (targets.map (·.2)) items.toList) Q E { s with heap:=h' }) :
  wpAny (model prog w) A (unpack (.ref t) targets) Q E s:=by
 have hlt:t≠s.heap.objs.size:=by obtain⟨o,ho,_⟩:=ht; rwa[l6 (f9 ho)]
 have hlx:x≠s.heap.objs.size:=by obtain⟨o,_,ho,_⟩:=ha; rwa[l6 (f9 ho)]
 unfold unpack;rw[hn,hstar];refine ac (Aw ?_);unfold unpackItems;refine ac ?_;unfold notIterableAtAll;refine ac (GE ht.typeIs slot_tuple_iter.lookup ?_);refine d7 ?_;simp only[AX,if_false];refine ac (Aw (iter_tuple ht ?_));refine ac (Aw (draw_tuple hlt items.size 0 _ _ ⟨_,d9 _ rfl,rfl,rfl⟩ (ht.push _) (by lia) λh₁ hit₁ hs₁=>?_));have hall:List.take items.size (List.drop 0 items.toList)=items.toList:=by
  rw[GR]; rwa[Ab (by simp)]
 rw[hall];rw[y7 (by simp)];have ht₁:HF h₁ t items:=(ht.push _).extBut hs₁.extBut hlt;have ha₁:iK h₁ x:=by
  obtain⟨ob,vs,e1,e2,e3⟩:=ha;rwa[ob,vs,hs₁.extBut _ _ hlx (c9 _ e1),e2,e3]
 erw[ac (Aw (nL hh ha₁ hlx hit₁ ht₁ (by simp) λh₂ he₂=>?_))];simp only[Option.isSome_none,AX,if_false];rwa[d7 (h h₂ λb o hb e=>he₂ b o hb (hs₁.extBut b o hb (c9 _ e)))]
def lP{env:Do}{elts:List w4}{x1}{pos:Co}{x t:b9}{items:Array c7}{Q:Unit->d3->Prop}(hh:A.handled=Io (.ref x))(ha:iK s.heap x)(ht:HF s.heap t items)
  (hn:(assignEach elts env).length=items.size) (hstar:(assignEach elts env).findIdx? (·.1)=Ip)
  (h:∀ h',CN s.heap.objs.size s.heap h'->wpAny (model prog w) A (assignInOrder ((assignEach elts env).map (·.2)) items.toList) Q E { s with heap:=h' }) :
  wpAny (model prog w) A (assign (.Tuple elts x1 pos) env (.ref t)) Q E s:=by
 rw[assign_Tuple];rwa[ac (C4 (kH hh ha ht hn hstar h))]
end
end L2

namespace L2
def xI.some{P:j9}{w:n9}{H:Hp}{h:o0}{a:b9}{o:HO}(x:xI P w H h a o):∃ ob,h.get? a=Io ob:=by
 cases o with
 | lst xs=>obtain⟨_,_,_,_,e⟩:=x; rwa[_,e]
 | tup xs=>obtain⟨_,_,_,o,e,_⟩:=x; rwa[_,e]
 | dK kvs=>obtain⟨_,_,_,_,o,_,_,e,_⟩:=x; rwa[_,e]
 | dT kvs=>obtain⟨_,_,_,_,o,_,_,e,_⟩:=x; rwa[_,e]
 | set S n=>obtain⟨o,_,_,_,e,_⟩:=x; rwa[_,e]
 | ins C dx fs=>obtain⟨_,_,_,e,_⟩:=x; rwa[_,e]
 | own y=>obtain⟨_,e⟩:=x; rwa[_,e]
 | xd fs=>obtain⟨_,⟨_,_,_,e,_⟩,_⟩:=x; rwa[_,e]
 | rng lo hi=>obtain⟨_,_,_,e⟩:=x; rwa[_,e]
 | frz ob u=>obtain⟨e,_⟩:=x; rwa[_,e]
 | tbl ps=>rwa[_,x]
 | met f y=>rwa[_,x]
 | ext φ=>obtain⟨_,⟨_,e⟩,_⟩:=x; rwa[_,e]
section
variable{fs:List b9}{H H':Hp}{h h2 h3 B:o0}{P:j9}{w:n9}
def UG(u:Un fs [] H H' h h2)(st:B.StaysIn h3)(hB:∀ b o o',h.get? b=Io o'->h2.get? b=Io o->b ∉ fs->B.get? b=Io o)
  (hf:∀ b∈fs,∀ o,h2.get? b=Io o->∃ sl,h3.get? b=Io { o with slots:=sl }):Un fs [] H H' h h3 where
 keep:=λb o q n hb hx=>st _ _ (hB b o o q (u.keep b o q n hb hx) hb)
 slot:=λb o q n hb hx=>by
  obtain⟨sl,e⟩:=u.slot b o q n hb hx;obtain⟨sl',e'⟩:=hf b hb _ e;rwa[sl',e']
 free:=u.free
 there:=λb o q hx=>by
  obtain⟨o',e⟩:=u.there b o q hx;by_cases hb:b∈fs
  ·obtain⟨sl,e'⟩:=hf b hb _ e;rwa[_,e']
  ·rwa[o',st _ _ (hB b o' o q e hb)]
 tups:=u.tups
 frzs:=u.frzs
 tbls:=u.tbls
def Wv(ok:HOk P w H' h2)(st:B.StaysIn h3)(hB:∀ b o u,H' b=Io u->h2.get? b=Io o->B.get? b=Io o):HOk P w H' h3:=λa o e =>
 (ok a o e).stay (λb u hb q=>st _ _ (by
  rcases hb with rfl | hb
  ·rwa[hB _ u o e q]
  ·rwa[hB b u _ hb q])) (λ_ q=>q) λ_ _ q=>q
end
structure jE(P:j9)(w:n9)(outer:List Do)(H:Hp)(s:d3)(ea:b9)(cls:c7)(H':Hp)(B:o0)(s':d3):Prop where
 mk ::
 os:s'.os=s.os
 bare:Du s'.gens
 un:Un (frs outer) [] H H' s.heap s'.heap
 hok:HOk P w H' s'.heap
 new:H' ea=Ip
 fresh:s.heap.get? ea=Ip
 fly:uY B outer ea cls s'.heap
 has:∀ b o,s'.heap.get? b=Io o->((s.heap.get? b).isSome=Iq\/(H' b).isSome=Iq)->b ∉ frs outer->B.get? b=Io o
def CX1(P:j9)(w:n9):CXT:=λouter H s E e s'=>∃(ea:b9)(cls:c7)(H':Hp)(B:o0),e=.ref ea/\jE P w outer H s ea cls H' B s'/\E cls Ip H'
def iA{X:Cx}{Is:List (b9×AM)}{σ:St}{H2:Hp}{s2:d3}{ea:b9}{cls:c7}{B h3:o0}{env:Do}{outer:List Do}(hs:X.stack=env::outer)(ho:X.outer=outer)(hx:X.ex=[])(hl:env.frame=Io X.env.locals)(J:Inv X Is σ H2 s2)
  (hB:∀ b o,s2.heap.get? b=Io o->((X.s₀.heap.get? b).isSome=Iq\/(H2 b).isSome=Iq)->b ∉ frs (env::outer)->B.get? b=Io o) (nw:H2 ea=Ip) (fr:X.s₀.heap.get? ea=Ip)
  (fly:uY B outer ea cls h3) (up:s2.heap.UpToSlots h3):jE X.prog X.w outer X.H₀ X.s₀ ea cls H2 B { s2 with heap:=h3 }:=by
 have st:=fly.1;have notin:∀ b o,X.s₀.heap.get? b=Io o->b ∉ frs outer->b ∉ frs (env::outer):=λb o q hb z=>by
  rcases i7.mp (show b∈X.env.locals::frs outer by
   have:frs (env::outer)=X.env.locals::frs outer:=by unfold frs; rw[A6,hl]
   rw[<- this]; rwa[z]) with e | e
  ·have l:=m5 (f9 q) J.ok.above;rw[e] at l;rwa[Be _ l]
  ·rwa[hb e]
 have trk:∀ b u,H2 b=Io u->b ∉ frs (env::outer):=λb u e z=>by
  have:=J.stkFree b (by rw[hs]; rwa[z]);rw[e] at this;cases this
 have fs:X.fs=frs outer:=by show frs X.outer=_; rw[ho]
 have hf:∀ b∈frs outer,∀ o,s2.heap.get? b=Io o->∃ sl,h3.get? b=Io { o with slots:=sl }:=λb hb o e=>by
  obtain⟨_,o',e',nf⟩:=J.stack.mem (show b∈X.stack.filterMap (·.frame) by
   rw[hs];show b∈frs (env::outer);have:frs (env::outer)=X.env.locals::frs outer:=by unfold frs; rw[A6,hl]
   rw[this];rwa[.tail _ hb])
  rw[e] at e';cases e';rwa[up b o e nf]
 have un:Un (frs outer) [] X.H₀ H2 X.s₀.heap s2.heap:=by
  have:=J.base;rw[fs,hx] at this;rwa[this]
 refine⟨J.os,J.bare,UG un st (λb o o' q e hb=>hB b o e (.inl (by rw[q]; rfl)) (notin b o' q hb)) hf,Wv J.hok st λb o u e q=>hB b o q (.inr (by rw[e]; rfl)) (trk b u e),nw,fr,fly,λb o e z hb=>?_⟩;have key:∃ o',s2.heap.get? b=Io o':=by
  rcases z with z | z
  ·obtain⟨o',q⟩:=k9.mp z;exact un.there b o' q (λz=>nomatch z)
  ·obtain⟨u,q⟩:=k9.mp z;exact(J.hok b u q).some
 obtain⟨o',e'⟩:=key;have hb':b ∉ frs (env::outer):=by
  rcases z with z | z
  ·obtain⟨o',q⟩:=k9.mp z;rwa[notin b o' q hb]
  ·obtain⟨u,q⟩:=k9.mp z;rwa[trk b u q]
 have hb2:=hB b o' e' z hb';have:=st _ _ hb2;rw[show({ s2 with heap:=h3 } : d3).heap=h3 from rfl] at e;rw[this] at e;cases e;rwa[hb2]
def jE.inv{X:Cx}{Is:List (b9×AM)}{σ:St}{H H':Hp}{s s':d3}{ea:b9}{cls:c7}{B:o0}(I:Inv X Is σ H s)(f:jE X.prog X.w X.stack H s ea cls H' B s'):Inv X Is σ H' s' :=
 I.call' (ch:=[]) f.os f.un f.hok f.bare λb z=>x5 z (by simp)
def jE.on{P:j9}{w:n9}{outer:List Do}{base:o0}{H H':Hp}{s s':d3}{ea:b9}{cls:c7}{B h3:o0}(hs:s'.heap.FunFrames base outer)(f:jE P w outer H s ea cls H' B s')(hfree:∀ b∈frs outer,H' b=Ip)
  (fly:uY B outer ea cls h3) (up:s'.heap.UpToSlots h3):jE P w outer H s ea cls H' B { s' with heap:=h3 }:=by
 have st:=fly.1;have trk:∀ b u,H' b=Io u->b ∉ frs outer:=λb u e z=>by
  have:=hfree b z;rw[e] at this;cases this
 refine⟨f.os,f.bare,UG f.un st (λb o o' q e hb=>f.has b o e (.inl (by rw[q]; rfl)) hb) (λb hb o e=>by
  obtain⟨_,o',e',nf⟩:=hs.mem hb;rw[e] at e';cases e';rwa[up b o e nf]),Wv f.hok st λb o u e q=>f.has b o q (.inr (by rw[e]; rfl)) (trk b u e),f.new,f.fresh,fly,λb o e z hb=>?_⟩
 have key:∃ o',s'.heap.get? b=Io o':=by
  rcases z with z | z
  ·obtain⟨o',q⟩:=k9.mp z;exact f.un.there b o' q (λz=>nomatch z)
  ·obtain⟨u,q⟩:=k9.mp z;exact(f.hok b u q).some
 obtain⟨o',e'⟩:=key;have hb2:=f.has b o' e' z hb;have:=st _ _ hb2;rw[show({ s' with heap:=h3 } : d3).heap=h3 from rfl] at e;rw[this] at e;cases e;rwa[hb2]
def gQ(X:Cx)(EE:St->XK):Prop:=∀(Is:List (b9×AM))(σ:St)(H:Hp)(s:d3)(e:c7)(s':d3),Inv X Is σ H s->CX1 X.prog X.w X.stack H s (EE σ) e s'->X.xe e s'
def Ug(X:Cx)(EE:St->XK):Prop:=∀(Is:List (b9×AM))(σ:St)(H:Hp)(s:d3)(h':o0)(e:b9)(cls:c7)(vs:List c7),Inv X Is σ H s->GQ s.heap h' e cls vs->EE σ cls Ip H->X.xe (.ref e) { s with heap:=h' }
section
variable{P:j9}{w:n9}{K:b7}{mg:g8->Option c7}{base:o0}{N:List g8}{qual:g8}{scope:CL}{f:b9}{cd:c7}{A:Ac}{outer:List Do}{s:d3}{H:Hp}{E:XK}
def yE:gQ (cxOf (CX1 P w) P w K mg base N qual scope f cd A outer s H E) (λ_=>E):=by
 intro Is σ H1 s1 e s2 I h;obtain⟨ea,cls,H2,B,rfl,fl,q⟩:=h;have J:=fl.inv I;erw[bz (base:=B) (cls:=cls) (L:=s.heap.objs.size) I.ok.frames rfl fl.fly λh3 fly up=>?_];erw[ea,cls,H2,B,U,iA (X:=cxOf (CX1 P w) P w K mg base N qual scope f cd A outer s H E) rfl rfl rfl rfl J (λb o e z hb=>fl.has b o e (z.imp (λz=>?_) id) hb) fl.new ?_ fly up,q]
 ·obtain⟨o',q'⟩:=k9.mp z;obtain⟨o'',q''⟩:=I.base.there b o' q' (λz=>nomatch z);rw[q''];rfl
 ·show s.heap.get? ea=Ip;cases q':s.heap.get? ea with
  | none=>rfl
  | some o' =>
   obtain⟨o'',q''⟩:=I.base.there ea o' q' (λz=>nomatch z);rw[fl.fresh] at q'';cases q''
def xE:Ug (cxOf (CX1 P w) P w K mg base N qual scope f cd A outer s H E) (λ_=>E):=by
 intro Is σ H1 s1 h' e cls vs I hx q;have hin:∀ env∈(cxOf (CX1 P w) P w K mg base N qual scope f cd A outer s H E).stack,∀ b,env.frame=Io b->b∈frs (cxOf (CX1 P w) P w K mg base N qual scope f cd A outer s H E).stack:=λenv he b hb=>CI.mpr ⟨env,he,hb⟩;have notin:∀ b o,s1.heap.get? b=Io o->b ∉ frs (cxOf (CX1 P w) P w K mg base N qual scope f cd A outer s H E).stack->(Ez s1.heap (frs (cxOf (CX1 P w) P w K mg base N qual scope f cd A outer s H E).stack)).get? b=Io o:=λb o e hb=>Fe _ e hb;refine iG (h:=s1.heap) (base:=Ez s1.heap (frs (cxOf (CX1 P w) P w K mg base N qual scope f cd A outer s H E).stack)) (cls:=cls) (args:=vs) (L:=s.heap.objs.size) I.ok.frames rfl (λb o q=>Ft _ q) (PySem.W.funFrames_hide I.stack hin) hx λh3 fly up=>?_;have nw:H1 e=none:=by
  cases z:H1 e with
  | none=>rfl
  | some u =>
   obtain⟨ob,eo⟩:=(I.hok e u z).some;rw[hx.new] at eo;cases eo
 erw[e,cls,H1,_,U,iA (X:=cxOf (CX1 P w) P w K mg base N qual scope f cd A outer s H E) (s2:=s1) rfl rfl rfl rfl I (λb o e _ hb=>notin b o e hb) nw ?_ fly ((HK hx.keeps).trans up),q];show s.heap.get? e=Ip;cases q':s.heap.get? e with
 | none=>rfl
 | some o' =>
  obtain⟨o'',q''⟩:=I.base.there e o' q' (λz=>nomatch z);rw[hx.new] at q'';cases q''
def Fun.okX{x qual:g8}{st:Ag}{f:b9}{fd:Aq}{N ps:List g8}{k:Nat}{sp:Sp}(F:Fun K x qual st f fd)(S:zP N ps (zJ st))(len:∀ vs H Q E,sp vs H Q E->vs.length=ps.length)
  (hbody:∀(cdv:c7)(A:Ac)(outer:List Do)(s:d3)(H:Hp)(vs:List V)(Q:VK)(E:XK),qH k (A.deeper (envOfC qual (zJ st) s.heap.objs.size f cdv))->sp vs H Q E ->
   ∃ t,PSs (cxOf (CX1 P w) P w K mg base N qual (zJ st) f cdv A outer s H E) (xJ st) t/\t { nx:=λ_ H'=>Q .non H',rt:=Q } (start N vs) H):yX P w K mg base (CX1 P w) (k+1) f fd ps sp:=by
 obtain⟨oc,od,kV,doc,pm,an,cdv,ct,osl,rfl,lk,hcd⟩:=F.ex;rwa[Th lk hcd S len λA outer s H vs Q E hr hsp=>hbody cdv A outer s H vs Q E hr hsp]
end
def zt(P:j9)(w:n9)(K:b7)(mg:g8->Option c7)(base:o0)(x:g8)(n:Nat)(ps:List g8)(sp:Sp):Prop :=
 ∃(f:b9)(fd:Aq),yX P w K mg base (CX1 P w) n f fd ps sp/\uw K fd ps []/\Au K (.ref f)=Iq/\mg x=Io (.ref f)
def cA(P:j9)(w:n9)(K:b7)(mg:g8->Option c7)(base:o0)(g:b9)(n:Nat)(ps:List g8)(sp:Sp):Prop :=
 ∃ fd:Aq,yX P w K mg base (CX1 P w) n g fd ps sp/\∀ us:List c7,us.length=ps.length->bindArgs fd ⟨us,[]⟩=pure (ps.zip us)
section
variable{X:Cx}{n:Nat}{f:b9}{fd:Aq}{ps:List g8}{sp:Sp}{x m:g8}{p pos apos:Co}{e o:w4}{es:List w4}{ta:TE}{t:TA}{EE:St->XK}{C g:b9}
def ko{Is:List (b9×AM)}{σ:St}{H:Hp}{s:d3}{Q:VK}{us:List c7}{vs:List V}(F:yX X.prog X.w X.K X.mg X.base (CX1 X.prog X.w) n f fd ps sp)(hr:qH n X.A)(hb:uw X.K fd ps [])(hx:gQ X EE)
  (I:Inv X Is σ H s) (r:yO vs us) (h:sp vs H Q (EE σ)):wpAny (model X.prog X.w) X.A (call (.ref f) us) (EP X Is σ Q) X.xe s:=by
 have hl:us.length=ps.length:=by rw[<- r.length]; rwa[F.len _ _ _ _ h]
 have hb':=hb s us I.kIn (by rw[Bq]; rwa[hl]);rw[Bq] at hb';erw[DE (codeAny_mono (F.run X.A X.stack s H ⟨us,[]⟩ us vs Q (EE σ) hr I.env0 hb' r h) λr s' hq=>?_)];cases r with
 | error e=>rwa[hx Is σ H s e s' I hq]
 | ok fl =>
  cases fl with
  | ret u=>rwa[I.after hq]
  | next=>rwa[x9 hq]
  | brk=>rwa[x9 hq]
  | cont=>rwa[x9 hq]
def Ta(sp:Sp)(EE:St->XK)(t:TA):TE:=λσ H Q=>t σ H λvs H1=>sp vs H1 Q (EE σ)
def yG(EE:St->XK)(h:zt X.prog X.w X.K X.mg X.base x n ps sp)(hx:gQ X EE)(hr:qH n X.A)(hg:Gl X x)
  (ha:PA X (e::es) t) (hdb:(x ==("__debug__" : g8))=false:=by decide) (he:starEach (e::es) X.env=(Ir,eval e X.env)::starEach es X.env:=by rfl) (hpl:(backTo pos (starEach es X.env)).any (·.1)=false:=by rfl) :
  PE X (.Call (.Name x p) (e::es) [] pos) (Ta sp EE t):=by
 obtain⟨f,fd,F,hb,hk,hm⟩:=h;intro Is s σ H Q I h;erw[Bb (sR I hg hm ?_ hdb)];erw[Bx (h₀:=X.base) I.ok.mod.kin hk (thn (ha pos Is s σ H _ I h) λus s1 ⟨vs,H1,I1,r,q⟩=>⟨I1.kIn,?_⟩) he hpl];rwa[ko F hr hb hx I1 r q]
def Wk(C:b9)(m:g8)(sp:Sp)(EE:St->XK)(ta:TE)(t:TA):TE:=λσ H Q=>ta σ H λx H1=>TMeth C m x H1 (t σ H1 λvs H2=>sp (x::vs) H2 Q (EE σ))
def Yi(EE:St->XK){pl:GW Bool}(hb:InB X.base λK=>Cls K C/\jF K C m g)(h:cA X.prog X.w X.K X.mg X.base g n ps sp)(hx:gQ X EE)(hr:qH n X.A)(he:PE X o ta)(ha:PA X (e::es) t)
  (hst:starEach (e::es) X.env=(Ir,eval e X.env)::starEach es X.env:=by rfl) (hpl:(backTo pos (starEach es X.env)).any (·.1)=false:=by rfl)
  (ht:eval (.Call (.Attribute o m apos) (e::es) [] pos) X.env=(do
   let ov <- eval o X.env
   standAt apos.atName
   let (f,first) <- holding [ov] (getMethod ov m pl)
   callWith pos f first (backTo pos (starEach (e::es) X.env)) (backToKw pos (keywordEach [] X.env))):=by rfl) :
  PE X (.Call (.Attribute o m apos) (e::es) [] pos) (Wk C m sp EE ta t):=by
 obtain⟨K,KB,c,hm⟩:=hb;obtain⟨fd,F,b⟩:=h;intro Is s σ H Q I h;erw[Cc (pl:=pl) (thn (he Is s σ H _ I h) λu s1 ⟨x,H1,I1,rx,a,dx,fs,ex,ea,l,q⟩=>?_) ht];subst ex;obtain rfl:u=i9 a:=rx;erw[xk (X:=X.withK K) (I1.withK KB) ea c hm l ?_];erw[Bx (first:=[.ref a]) (h₀:=X.base) (K:=K) KB hm.kp (thn (ha pos Is s1 σ H1 _ I1 q) λus s2 ⟨vs,H2,I2,r,q2⟩=>⟨(I2.withK KB).kIn,?_⟩) hst hpl];rwa[ko (us:=.ref a::us) (vs:=.ref a::vs) F hr (.all b) hx I2 (.cons rfl r) q2]
def PS.nox{st:Ag}{t:TS}(h:PS X.nox st t):PS X st t:=λIs s σ H D I hw =>
 Ba (h Is s σ H D (I.wish _) hw) (λ_ _ q=>q.unwish) λ_ _ z=>x9 z
def UZ(cls:c7)(EE:St->XK)(t:TA):TS:=λ_ σ H=>t σ H λvs H1=>vs.length<=sizeLine/\EE σ cls Ip H1
def xB(EE:St->XK){bm bmN:List c7}{B Bn newId nid initId inN:String}(O:p7 x C bm newId X.mg X.base)(Fn:ExcBaseFacts Bn newId inN bmN)(hBn:bm.contains (.type Bn)=Iq)(FB:ExcBaseFacts B nid initId bm)(hx:Ug X EE)
  {cpos np:Co} (ha:PA X (e::es) t) (hc:X.calm=true:=by rfl) (hg:Gl X x:=by rfl) (hd:(x ==("__debug__" : g8))=false:=by decide) (he:starEach (e::es) X.env=(Ir,eval e X.env)::starEach es X.env:=by rfl) (hpl:(backTo cpos (starEach es X.env)).any (·.1)=false:=by rfl) :
  PS X (.Raise (Io (.Call (.Name x np) (e::es) [] cpos)) Ip pos) (UZ (.ref C) EE t):=by
 obtain⟨tl,N,nm,q,bs,hdct,sn,sub,ab,col,dd,k0,k1,k2,k3,k5,mN,hC,hN,hni,T⟩:=O.obj;intro Is s σ H D I h;refine wpAny_Raise_call_subU (C:=C) (nm:=nm) (q:=q) (N:=N) (bs:=bs) (bm:=tl) (hdct:=hdct) (sn:=sn) (sub:=sub) (ab:=ab) (col:=col) (dd:=dd) (k0:=k0) (k1:=k1) (k2:=k2) (k3:=k3) (k5:=k5)
  Fn hBn FB (mN:=mN) (T.hasType FB.hasBase) (I.ok.hd hc) (by rw[he]; show(Ir||(backTo cpos (starEach es X.env)).any (·.1))=Ir; rw[hpl]; rfl) hni (sR I hg O.bound ⟨rfl,?_⟩ hd)
 have h:=ha cpos Is s σ H _ I h;rw[he] at h ⊢;erw[C8 (Ba h (λus s2 ⟨vs,H1,I1,r,len,q⟩=>⟨rfl,?_,I1.bk _ _ hC,hN.keeps I1.bk,T.keeps I1.bk,λh' e hm=>?_⟩) λ_ _ y=>y)]
 ·rw[<- r.length]; rwa[len]
 ·rwa[hx Is σ H1 s2 h' e _ _ I1 hm q]
end
end L2

namespace L2
abbrev Cx.tr(X:Cx)(Is:List (b9×AM))(EE:St->XK):Cx :=
 { X with pn:=X.pn++Is,xe:=λe s'=>∃(σ:St)(H:Hp)(s:d3),Inv X Is σ H s/\CX1 X.prog X.w X.stack H s (EE σ) e s' }
abbrev Cx.hd(X:Cx)(e:c7):Cx:={ X with A:=X.A.mark (Io e),calm:=Ir,xe:=λ_ _=>False }
section
variable{X:Cx}{Is pins':List (b9×AM)}{σ:St}{H:Hp}{s:d3}{EE:St->XK}{e:c7}
def Inv.tr(I:Inv X Is σ H s)(EE:St->XK):Inv (X.tr Is EE) [] σ H s :=
 ⟨⟨I.ok.mod,I.ok.kind,I.ok.glob,I.ok.blt,I.ok.above,I.ok.inj,I.ok.has,I.ok.cab,I.ok.hd,I.ok.frames,I.ok.stk,I.ok.exf,I.ok.bs,I.ok.bsz,I.ok.noex,I.ok.exfs,I.ok.funs,I.ok.frf⟩,I.os,I.bare,I.base,I.loc,I.cell,I.free,I.freeC,λp hp=>I.pin p (by rw[Bq] at hp; rwa[hp]),I.hok,I.len⟩
def Inv.untr(I:Inv (X.tr Is EE) pins' σ H s):Inv X Is σ H s :=
 ⟨⟨I.ok.mod,I.ok.kind,I.ok.glob,I.ok.blt,I.ok.above,I.ok.inj,I.ok.has,I.ok.cab,I.ok.hd,I.ok.frames,I.ok.stk,I.ok.exf,I.ok.bs,I.ok.bsz,I.ok.noex,I.ok.exfs,I.ok.funs,I.ok.frf⟩,I.os,I.bare,I.base,I.loc,I.cell,I.free,I.freeC,λp hp=>I.pin p (BJ _ hp),I.hok,I.len⟩
def Inv.hd(I:Inv X Is σ H s)(e:c7):Inv (X.hd e) Is σ H s :=
 ⟨⟨I.ok.mod,I.ok.kind,I.ok.glob,I.ok.blt,I.ok.above,I.ok.inj,I.ok.has,I.ok.cab,λz=>(nomatch z),I.ok.frames,I.ok.stk,I.ok.exf,I.ok.bs,I.ok.bsz,I.ok.noex,I.ok.exfs,I.ok.funs,I.ok.frf⟩,I.os,I.bare,I.base,I.loc,I.cell,I.free,I.freeC,I.pin,I.hok,I.len⟩
def Inv.unhd(I:Inv (X.hd e) Is σ H s)(hh:X.calm=Iq->X.A.handled=Ip):Inv X Is σ H s :=
 ⟨⟨I.ok.mod,I.ok.kind,I.ok.glob,I.ok.blt,I.ok.above,I.ok.inj,I.ok.has,I.ok.cab,hh,I.ok.frames,I.ok.stk,I.ok.exf,I.ok.bs,I.ok.bsz,I.ok.noex,I.ok.exfs,I.ok.funs,I.ok.frf⟩,I.os,I.bare,I.base,I.loc,I.cell,I.free,I.freeC,I.pin,I.hok,I.len⟩
def SP.untr{D:bu}{f:Flow}{s':d3}(h:SP (X.tr Is EE) pins' D f s'):SP X Is D f s':=by
 cases f with
 | next=>obtain⟨σ',H',I,q⟩:=h; rwa[σ',H',I.untr,q]
 | brk=>obtain⟨σ',H',I,q⟩:=h; rwa[σ',H',I.untr,q]
 | cont=>obtain⟨σ',H',I,q⟩:=h; rwa[σ',H',I.untr,q]
 | ret u=>obtain⟨v,σ',H',I,r,q⟩:=h; rwa[v,σ',H',I.untr,r,q]
def lH:gQ (X.tr Is EE) EE:=λ_ σ H s _ _ I h=>⟨σ,H,s,I.untr,h⟩
def Inv.moreX{a:b9}{o:HO}(I:Inv X Is σ H s)(f0:H a=Ip)(f1:a≠X.env.locals)(f3:X.s₀.heap.get? a=Ip)(f4:∀ x c,X.env.cells.lookup x=Io c->c≠a)(f5:∀ p∈X.pn++Is,p.1≠a)
  (new:xI X.prog X.w (upd H a o) s.heap a o):Inv X Is σ (upd H a o) s:=by
 have nk:∀{b:b9}{u:HO},H b=Io u->upd H a o b=Io u:=λ{b u} e=>by
  rw[zH (λz=>by rw[z,f0] at e; cases e)];rwa[e]
 have nn:∀{b:b9},b≠a->H b=Ip->upd H a o b=none:=λ{b} n e=>by rw[zH n]; rwa[e]
 have lo:∀{b:b9}{u:AM},X.s₀.heap.get? b=Io u->b≠a:=λ{b u} e z=>by rw[z,f3] at e; cases e
 refine⟨I.ok,I.os,I.bare,⟨I.base.keep,I.base.slot,λb u e n hx=>nn (lo e) (I.base.free b u e n hx),I.base.there,λb xs e=>nk (I.base.tups b xs e),λb u v e=>nk (I.base.frzs b u v e),
  λb ps e=>let ⟨more,q⟩:=I.base.tbls b ps e;⟨more,nk q⟩⟩,I.loc,I.cell,nn (AJ f1) I.free,λx c e=>nn (f4 x c e) (I.freeC x c e),λp hp=>?_,λb u e=>?_,I.len⟩
 ·obtain⟨h1,h2,h3⟩:=I.pin p hp;rwa[h1,nn (f5 p hp) h2,h3]
 ·by_cases eb:b=a
  ·subst eb;rw[zA] at e;cases e;rwa[new]
  ·rw[zH eb] at e;exact(I.hok b u e).stay (λc v _ q=>q) (λc q=>nk q) λc xs q=>nk q
def Inv.frame{h':o0}{t':Nat}{m':g8->Option c7}(I:Inv X Is σ H s)(hs:A3 X.env.locals s.heap h')(hn:h'.Ns X.env.locals m'):Inv X Is (t9 X.N.length Ip) H { s with heap:=h',toks:=t' }:=by
 have k:∀ b o,b≠X.env.locals->s.heap.get? b=Io o->h'.get? b=Io o:=λb o n e=>(hs.2 b n).trans e;have lo:∀{b:b9}{u:AM},X.s₀.heap.get? b=Io u->b≠X.env.locals:=λ{b u} e z=>by
  have l:=m5 (f9 e) I.ok.above;rw[z] at l;rwa[Be _ l]
 obtain⟨oL,esL,epL,hoL,_⟩:=hn;have trk:∀{b:b9}{u:HO},H b=Io u->b≠X.env.locals:=λ{b u} e z=>by rw[z,I.free] at e; cases e
 erw[I.ok,I.os,I.bare,⟨λb o q n hb hx=>k _ _ (lo q) (I.base.keep b o q n hb hx),λb o q n hb hx=>?_,I.base.free,λb o q hx=>?_,I.base.tups,I.base.frzs,I.base.tbls⟩,⟨m',⟨oL,esL,epL,hoL,by assumption⟩,λi x v _ hσ=>?_⟩,λx c e=>?_,I.free,I.freeC,λp hp=>?_,λa o e=>?_,by rw[AQ]]
 ·obtain⟨sl,e⟩:=I.base.slot b o q n hb hx;rwa[sl,k _ _ (lo q) e]
 ·obtain⟨o',e⟩:=I.base.there b o q hx;rwa[o',k _ _ (lo q) e]
 ·rw[CM] at hσ;split at hσ <;> cases hσ
 ·obtain⟨v,o,ho,hd⟩:=I.cell x c e;rwa[v,o,k _ _ (I.cne x c e) ho,hd]
 ·obtain⟨h1,h2,h3,h4⟩:=I.pin p hp;rwa[k _ _ h3 h1,h2,h3,h4]
 ·refine(I.hok a o e).stay (λb u hb q=>k _ _ ?_ q) (λ_ q=>q) λ_ _ q=>q;rcases hb with rfl | hb
  ·rwa[trk e]
  ·rwa[trk hb]
end
def bF(a:b9)(cls:c7):HO:=.ext (jK a cls)
def Vp{P:j9}{w:n9}{H:Hp}{h:o0}{a:b9}{cls:c7}(e:jK a cls h):xI P w H h a (bF a cls) :=
 ⟨e,let ⟨ob,_,h1,_⟩:=e;⟨ob,h1⟩,λh1 h2 ⟨ob,vs,q,c⟩ k=>⟨ob,vs,k _ q,c⟩⟩
def yb(B:o0)(cls:c7)(D:b9):Prop:=InB B λK=>GS K cls (.ref D)=Io Iq
def sTry(B:o0)(D:b9)(i:Nat)(tb:(St->XK)->TS)(th:b9->TS):TS:=λE σ H =>
 tb (λσ' cls _ H'=>yb B cls D/\∀ ea,H' ea=Ip->th ea { nx:=λ_ _=>False,rt:=E.rt } (σ'.set i (Io (.ref ea))) (upd H' ea (bF ea cls))) E σ H
section
variable{X:Cx}{x n:g8}{i:Nat}{D:b9}{body suite:List Ag}{b₀:Ag}{np hpos pos:Co}{tb:(St->XK)->TS}{th:TS}
def Zd{M:HG}{K:b7}{h:o0}{a:b9}{cls:c7}{b:Bool}{D:b9}(X:K.In h)(e:jK a cls h)(hx:GS K cls (.ref D)=Io b):PySem.W.Looks M h (excMatches (.ref a) (.ref D)) b:=by
 obtain⟨ob,_,h1,h2,_⟩:=e;rwa[PySem.W.exm_one X (h2 ▸ (Im h1).andThen .now) hx]
def jh{Is:List (b9×AM)}{σ:St}{H H':Hp}{s s1:d3}{ea:b9}{cls:c7}{B h:o0}(hx:X.ex=[])(I:Inv X Is σ H s)(fl:jE X.prog X.w X.stack H s ea cls H' B s1)
  (fly:uY B X.stack ea cls h) (up:s1.heap.UpToSlots h):Inv X Is σ H' { s1 with heap:=h }/\jK ea cls h/\∀ o,xI X.prog X.w (upd H' ea o) h ea o->Inv X Is σ (upd H' ea o) { s1 with heap:=h }:=by
 have J:=fl.inv I;have f5:=fl.on J.stack J.stkFree fly up;have J5:=f5.inv I;have ne:∀{b:b9}{o:AM},s.heap.get? b=Io o->b≠ea:=λ{b o} q z=>by rw[z,fl.fresh] at q; cases q
 erw[J5,fly.there,λo new=>J5.moreX fl.new ?_ ?_ (λx c e=>?_) (λp hp=>ne (I.pin p hp).1) new]
 ·obtain⟨m,⟨oL,_,_,hoL,_⟩,_⟩:=I.loc;exact(ne hoL).symm
 ·cases q:X.s₀.heap.get? ea with
  | none=>rfl
  | some o =>
   obtain⟨o',q'⟩:=I.base.there ea o q (by rw[hx]; exact λz=>nomatch z);rwa[x5 rfl (ne q')]
 ·obtain⟨v,o,ho,_⟩:=I.cell x c e;rwa[ne ho]
def XJ{th:b9->TS}(hb:∀ (Is:List (b9×AM)) (EE:St->XK),PSs (X.tr Is EE) body (tb EE))(hm:X.mg x=Io (.ref D))(hN:X.N.Nodup)(hi:X.N[i]?=Io n)(hl:X.env.scope.names.lookup n=Io .local)(hh:∀ ea:b9,PSs (X.hd (.ref ea)) (b₀::suite) (th ea))
  (hst:X.stack=X.env::X.outer/\X.env.frame=Io X.env.locals:=by rwa[U,U]) (hex:X.ex=[]:=by rfl) (hg:Gl X x:=by rfl) (hd:(x ==("__debug__" : g8))=false:=by decide) :
  PS X (.Try body [.ExceptHandler (Io (.Name x np)) (Io n) (b₀::suite) hpos] [] [] pos) (sTry X.base D i tb th):=by
 intro Is s σ H E I h;erw[wpAny_Try_except (Ba (hb Is _ [] s σ H E (I.tr _) h) (λf s1 q=>?_) λe s1 q=>?_)]
 ·have q:=q.untr;cases f with
  | next=>rwa[CH q]
  | ret v=>rwa[q]
  | brk=>rwa[q]
  | cont=>rwa[q]
 ·obtain⟨σ',H0,s0,I0,ea,cls,H',B,rfl,fl,tk,hc⟩:=q;have fly0:=fl.fly;rw[hst.1] at fly0;erw[ik (L:=X.env.locals) (by rw[I.ok.frames,hst.1]) hst.2 fly0 λh4 held4 up4=>?_];erw[ZQ held4 λh5 fly5 up5=>?_];have up:=up4.trans up5;rw[<- hst.1] at fly5;obtain⟨J5,ex5,_⟩:=jh hex I0 fl fly5 up;obtain⟨K,KB,hK⟩:=tk;have K5:K.In h5:=KB.keeps J5.bk;erw[wpAny_handleBy_cons (codeAny_handlers_test (sR (J5.hd (.ref ea)) hg hm ?_ hd)) (by intro q; cases q)];refine(Zd K5 ex5 hK).here ?_;erw[codeAny_handlers_suite_as ?_];erw[jw fly5 λh6 fly6 up6=>?_];obtain⟨J6,ex6,more⟩:=jh hex I0 fl fly6 (up.trans up6);have J7:=(more (bF ea cls) (Vp ex6)).hd (.ref ea);erw[iz (X:=X.hd (.ref ea)) (v:=.ref ea) J7 hN hi (.inl hl) rfl (λs8 I8 _=>?_) (.inr hl)];erw[Ba (hh ea Is s8 _ _ { nx:=λ_ _=>False,rt:=E.rt } I8 (hc ea fl.new)) (λf s9 q=>?_) λ_ _ z=>x9 z];cases f with
  | next=>obtain⟨_,_,_,z⟩:=q; rwa[x9 z]
  | brk=>obtain⟨_,_,_,z⟩:=q; rwa[x9 z]
  | cont=>obtain⟨_,_,_,z⟩:=q; rwa[x9 z]
  | ret u =>
   obtain⟨v,σ9,H9,I9,r,q⟩:=q;have I9:=I9.unhd I.ok.hd;obtain⟨m,hn,_⟩:=id I9.loc;refine wpAny_nameGoes (show X.env.kindOf n=Io .local from hl) hn (by rw[I.ok.kind]; rfl) λh' m' hn' hs=>?_;rwa[v,_,H9,I9.frame hs hn',r,q]
end
section
open PySem.W
structure nX(K:b7)(D:b9):Prop where
 mk ::
 ga:findIn K (.ref D) "__getattribute__" = Io (Io (.builtin "BaseException.__getattribute__"))
 gx:findIn K (.ref D) "__getattr__" = Io Ip
 fc:findObj K D Ip "__class__" = Io (.bind (.builtin "getset_descriptor.__get__") (.builtin "object.__class__"))
 mB:mroIn K D (.type "BaseException")=Io Iq
 mo:mroIn K D (.type "object")=Io Iq
def de{h:o0}{a D:b9}(e:jK a (.ref D) h):∃ ox,InstAt h a ox D none:=by
 obtain⟨ob,vs,h1,h2,h3,h4,_⟩:=e;erw[ob,h1,h2,?_,by rw[h3]; trivial];unfold notCls;rw[h4]
def bM{K:b7}{prog:j9}{w:n9}{A:Ac}{E:c7->d3->Prop}{s:d3}{a D:b9}{Q:Option c7->d3->Prop}(X:K.In s.heap)(C:nX K D)(e:jK a (.ref D) s.heap)(h:Q (Io (.ref D)) { s with toks:=s.toks+1 }) :
  wpAny (model prog w) A (getAttr? (.ref a) "__class__") Q E s:=by
 obtain⟨ox,I⟩:=de e;obtain⟨hh,g,d,t,os⟩:=s;have L0:=I.type (M:=model prog w);have L1:=looks_findIn (M:=model prog w) X C.ga;have L2:=looks_findIn (M:=model prog w) X C.gx;have L3:=looks_mroIn (M:=model prog w) X C.mB;have L4:=looks_find (M:=model prog w) X I C.fc;have hx2:(CG "BaseException.__getattribute__" == CG "object.__getattribute__")=false:=by ac_nf
 have hx1:(onTheHeap (i9 D)&&CG "BaseException.__getattribute__" == CG "object.__getattribute__")=false:=by rw[hx2]; rfl
 unfold getAttr? getAttrBy? getAttrBy;erw[ac (wpAny_mkText (ac (BP (Aw (ac (L0.at (ac (L1.at ?_))))))))];dsimp only;rw[hx1];simp only[AX,if_false];unfold getAttrByItsOwn hookBefore;erw[ac ?_];rw[y9 (show onTheHeap (i9 D)=Iq from rfl)];erw[L2.at ?_];erw[ac (BP (Aw ?_))];unfold callGetattribute;rw[y7 (by decide)];unfold boundAndCalled;erw[ac (Cj (FW.ga.bind (.ref a)) ?_)];show wpAny _ _ (call (.builtin "BaseException.__getattribute__") [.ref a,_]) _ _ _;erw[DE (codeAny_call_builtin FW.ga.plain F.entry_bexc_ga ?_)];have hk:builtinKind "BaseException.__getattribute__" = Io .slot:=by ac_nf
 have hsplit:splitId "BaseException.__getattribute__" = Io ("BaseException","__getattribute__"):=by ac_nf
 simp only[checkBuiltinCall,hk,hsplit];erw[ac ?_];unfold isInstance;erw[ac (L0.at (L3.at ?_))];simp only[Bool.not_true,AX,if_false];erw[Cj (F.args_bexc_ga (.ref a) _) ?_];unfold Cn.«object.__getattribute__»;refine ac (Cj (a:=(i9 a,[AO (l5 "__class__") t])) (by first | rfl | symm) ?_);dsimp only;refine ac (Cj (a:=(l5 "__class__")) (by first | rfl | symm) ?_);erw[ac (L0.at (ac (L4.at ?_)))];dsimp only;show wpAny _ _ (holding [CG "object.__class__"] (call (.builtin "getset_descriptor.__get__") [.builtin "object.__class__",.ref a,.ref D]) >>= ret) _ _ _;erw[ac (Aw (DE (class_get (s:=⟨hh,g,d,t+1,os⟩) X I C.mo ?_)))];erw[d7 ?_];dsimp only;rwa[handed_on rfl (d7 h)]
def Vo{K:b7}{a D:b9}(C:nX K D):KitX K (.ref a) (.ref D) (jK a (.ref D)) where
 ty:=λM h _ e=>let ⟨_,I⟩:=de e; I.type
 it:=λ_ _ X _=>by
  obtain⟨cdD,hcD,_⟩:=Eh.mp C.mo;unfold clsIn at hcD;split at hcD
  ·rename_i c' d' cd' sl' ho
   intro A' Q' E' s' k q;unfold isType loadHead;rwa[ac (wpAny_loadPart (k _ _ (X _ _ ho)) (d7 q))]
  ·cases hcD
 ne:=λh tp dd its n sl X htp=>by
  obtain⟨cdD,hcD,_⟩:=Eh.mp C.mo;erw[DW.mpr λq=>?_];have e:D=tp:=Value.ref.inj (beq_iff_eq.mp q);subst e;unfold clsIn at hcD;split at hcD
  ·rename_i c' d' cd' sl' ho
   have z:=(X _ _ ho).symm.trans htp;cases z
  ·cases hcD
 ca:=λX e k=>bM X C e k
end
section
variable{X:Cx}
def yJ{B:o0}(hB:X.base=B):uK X (.builtin "isinstance") (λxs H Q=>∃(a D:b9)(v:V)(c:c7)(b:Bool),xs=[.ref a,v]/\((∃ T,v=.ty T/\c=.type T)\/∃ C,v=.ref C/\c=.ref C)/\H a=Io (bF a (.ref D))/\(InB B λK=>AS K (.ref D) c=Io b/\nX K D)/\Q (.bl b) H):=by
 subst hB;intro Is s σ H xs us Q I r h;obtain⟨a,D,v,c,b,rfl,hv,ha,⟨K,KB,e,C⟩,q⟩:=h;obtain⟨u,w,rfl,ru,rw_⟩:=Xu r;cases ru;obtain⟨p,_⟩:=(show xI X.prog X.w H s.heap a (bF a (.ref D)) from I.hok a _ ha);have hc:w=c:=by
  rcases hv with ⟨T,rfl,rfl⟩ | ⟨C,rfl,rfl⟩
  ·rwa[rw_]
  ·rwa[rw_]
 subst hc;exact AB (Vo C) (KB.keeps I.bk) p e (λz=>nomatch z) λtk=>⟨.bl b,H,I.tok tk,rfl,q⟩
def vC{x:g8}{pos:Co}{a:b9}(hm:X.mg x=Io (.ref a))(hg:Gl X x:=by rfl)(hd:(x ==("__debug__" : g8))=false:=by decide):PE X (.Name x pos) (tC (.ref a)):=λ_ _ _ H _ I h=>sR I hg hm ⟨.ref a,H,I,rfl,h⟩ hd
def kQ:bootBuiltins "ValueError" = Io (.type "ValueError"):=by ac_nf
end
end L2

namespace L2
abbrev TJ:=St->Hp->(Hp->Prop)->Prop
section
variable{X:Cx}{e:w4}{es:List w4}{t:TJ}{te:TE}{pos p:Co}{n:Nat}
def PJ(X:Cx)(es:List w4)(n:Nat)(t:TJ):Prop:=∀(Is:List (b9×AM))(s:d3)(σ:St)(H:Hp)(k:Nat)(acc:g8)(Q:g8->d3->Prop)(C:Hp->Prop),Inv X Is σ H s->acc.length<=2000*k->k+n<=100 ->
 t σ H C->(∀(H':Hp)(out:g8)(s':d3),C H'->out.length<=200000->Inv X Is σ H' s'->Q out s')->Joins (model X.prog X.w) X.A X.xe (evalEach es X.env) acc Q s
def aK:TJ:=λ_ H K=>K H
def VD(te:TE)(t:TJ):TJ:=λσ H K=>te σ H λv H1=>((∃ i,v=.int i/\i.natAbs.log2<1920)\/∃ x,v=.str x/\x.length<=1000)/\t σ H1 K
def sO:PJ X [] 0 aK:=λ_ s _ H _ acc _ _ I h hk q z=>z H acc s q (by lia) I
def uE{c:g8}{j:Nat}(ht:PJ X es n t)(hc:c.length<=1000:=by decide)(he:evalEach (.Constant (.str c) j p::es) X.env=eval (.Constant (.str c) j p) X.env::evalEach es X.env:=by rfl):PJ X (.Constant (.str c) j p::es) (n+1) t:=by
 intro Is s σ H k acc Q C I h hk q z;rw[he];erw[Fu ⟨c,_,rfl,?_,?_⟩]
 ·rw[strLen_append];show acc.length+c.length<=2^24;lia
 ·rwa[ht Is _ σ H (k+1) _ _ C (I.tok _) (by rw[strLen_append]; lia) (by lia) q z]
def vd(hv:PE X e te)(ht:PJ X es n t)(he:evalEach (.FormattedValue e (-1) Ip p::es) X.env=eval (.FormattedValue e (-1) Ip p) X.env::evalEach es X.env:=by rfl):PJ X (.FormattedValue e (-1) Ip p::es) (n+1) (VD te t):=by
 intro Is s σ H k acc Q C I h hk q z;rw[he];erw[DJ (thn (hv Is s σ H _ I q) λu s1 ⟨v,H1,I1,r,c,q1⟩=>?_)];rcases c with ⟨i,rfl,hi⟩ | ⟨x,rfl,hx⟩
 ·obtain⟨tk,rfl⟩:=(show ∃ t,u=BF i t from r);have l:=int_text_length_le (k:=1920) (by decide) hi;rw[<- Cd] at l;erw[EU hi ⟨_,_,rfl,?_,?_⟩]
  ·rw[strLen_append];show acc.length+_<=2^24;lia
  ·rwa[ht Is _ σ H1 (k+1) _ _ C (I1.tok _) (by rw[strLen_append]; lia) (by lia) q1 z]
 ·obtain⟨tk,rfl⟩:=(show ∃ t,u=AO x t from r);have key:∀(t':Ij)(tk':Nat),∃ y t,AO x t'=.str y t/\(acc++y).length<=sizeLine/\Joins (model X.prog X.w) X.A X.xe (evalEach es X.env) (acc++y) Q { s1 with toks:=tk' }:=λt' tk' =>
   ⟨x,t',rfl,by rw[strLen_append]; show acc.length+x.length<=2^24; lia,ht Is _ σ H1 (k+1) _ _ C (I1.tok _) (by rw[strLen_append]; lia) (by lia) q1 z⟩
  exact formatField_str (λt' tk'=>key t' tk') (by show x.length<=2^24; lia)
def ZB(t:TJ):TE:=λσ H Q=>t σ H λH'=>∀ x:g8,x.length<=200000->Q (.str x) H'
def uA{a b:w4}(ht:PJ X (a::b::es) n t)(hn:n<=100:=by decide):PE X (.JoinedStr (a::b::es) pos) (ZB t):=by
 intro Is s σ H Q I h;exact wpAny_JoinedStr (ht Is s σ H 0 HI _ _ I (by decide) (by lia) h λH' out s' c l I'=>⟨by show out.length<=2^24; lia,.str out,H',I'.tok _,⟨_,rfl⟩,c out l⟩)
end
def bmV:List c7:=[.type "ValueError",.type "Exception",.type "BaseException",.type "object"]
end L2

namespace L2
def Yt(w:n9)(x:g8):keyH w (.inr x)=Dx w.params x:=rfl
def Zm{P:j9}{w:n9}{B:o0}{a:b9}{l:List (g8×Nat×V×c7)}{ep:Nat}(h:B.get? a=Io ⟨.type "dict",Ip,.dict ((l.map λe=>(⟨Dx w.params e.1,.str e.1 e.2.1,e.2.2.2⟩:Bk)).toArray) ep,#[]⟩)
  (r:∀ e∈l,xF e.2.2.1 e.2.2.2) (nd:(l.map (·.1)).Nodup):Uv P w B a (l.map λe=>(.inr e.1,e.2.2.1)):=by
 erw[l.map λe=>(.inr e.1,e.2.2.2),?_,_,_,ep,h,⟨U,U,U⟩,U,λe he=>?_,?_,?_]
 ·clear h nd
  induction l with
  | nil=>rwa[.nil]
  | cons e l ih=>rwa[.cons ⟨rfl,r e (.head _)⟩ (ih λe he=>r e (.tail _ he))]
 ·have he:e∈l.map λe=>(⟨Dx w.params e.1,.str e.1 e.2.1,e.2.2.2⟩:Bk):=by simpa using he
  obtain⟨q,_,rfl⟩:=i4.mp he;rwa[.inr q.1,wn P w q.1 q.2.1,(Yt w q.1).symm]
 ·rw[List.toList_toArray];clear h nd r
  induction l with
  | nil=>rwa[.nil]
  | cons e l ih=>rwa[.cons (wn P w e.1 e.2.1) rfl ih]
 ·rw[v7];have:((λe:Key×c7=>e.1) ∘ λe:g8×Nat×V×c7=>((.inr e.1:Key),e.2.2.2))=(λx:g8=>(.inr x:Key)) ∘ λe=>e.1:=rfl;rw[this,<- v7];erw[BA.mpr (FT.mpr ((BA.mp nd).imp λn z=>n ?_))];injection z
def XD(es:Array Bk):Bool:=es.toList.all λe=>match e.key with | .str _ _=>Iq | _=>Ir
def ZP{es:Array Bk}(h:XD es=Iq):StrKeys es:=λe he=>by
 have:=Ah.mp h e (by simpa using he);cases q:e.key <;> rw[q] at this <;> first | exact⟨_,_,U⟩ | cases this
def dw(K:b7)(N:b9):Bool:=match K.lookup N with
 | some ⟨_,_,.dict es _,_⟩=>XD es&&(nsFind es "__init__").isNone
 | _=>Ir
def jy{K:b7}{B:o0}{N:b9}(X:K.In B)(h:dw K N=Iq):∃ m,B.Ns N m/\m "__init__" = none:=by
 unfold dw at h;split at h
 ·rename_i c d es ep sl q
  rw[p5] at h;exact⟨nsFind es,⟨_,es,ep,X _ _ q,U,ZP h.1,λ_=>rfl⟩,by simpa using h.2⟩
 ·cases h
def dR(K:b7):List c7->Bool
 | []=>Ir
 | .ref A::tl=>(match K.lookup A with | some ⟨_,_,.cls cd,_⟩=>dw K cd.ns&&dR K tl | _=>Ir)
 | v::tl=>(v::tl) == bmV
def iD{K:b7}{B:o0}(X:K.In B):∀{tl:List c7},dR K tl=Iq->OwnTail B bmV tl
 | [],h=>by cases h
 | .ref A::tl,h=>by
  unfold dR at h;split at h
  ·rename_i c d cd sl q
   rw[p5] at h;obtain⟨m,h1,h2⟩:=jy X h.1;rwa[.own (X _ _ q) h1 h2 (iD X h.2)]
  ·cases h
 | .type T::tl,h=>by
  have e:(GH T::tl)=bmV:=beq_iff_eq.mp h;rw[e];rwa[.base]
 | .none::tl,h=>by have e:(r9::tl)=bmV:=beq_iff_eq.mp h; rw[e]; rwa[.base]
 | .bool b::tl,h=>by have e:(El b::tl)=bmV:=beq_iff_eq.mp h; rw[e]; rwa[.base]
 | .int i t::tl,h=>by have e:(BF i t::tl)=bmV:=beq_iff_eq.mp h; rw[e]; rwa[.base]
 | .float i t::tl,h=>by have e:(E3 i t::tl)=bmV:=beq_iff_eq.mp h; rw[e]; rwa[.base]
 | .str i t::tl,h=>by have e:(AO i t::tl)=bmV:=beq_iff_eq.mp h; rw[e]; rwa[.base]
 | .bytes i t::tl,h=>by have e:(Gs i t::tl)=bmV:=beq_iff_eq.mp h; rw[e]; rwa[.base]
 | .builtin i::tl,h=>by have e:(CG i::tl)=bmV:=beq_iff_eq.mp h; rw[e]; rwa[.base]
def Um(K:b7)(C:b9):Bool:=match K.lookup C with
 | some ⟨.type "type",_,.cls cd,sl⟩=>(match cd.mro,sl.toList with
  | .ref C'::bm,[_,_,_,_,Io (.builtin n),_]=>C' == C&&(!cd.hasDel&&(n == "ValueError.__new__" && (dw K cd.ns&&dR K bm)))
  | _,_=>Ir)
 | _=>Ir
def xH{K:b7}{B:o0}{C:b9}{x:g8}{mg:g8->Option c7}(X:K.In B)(hm:mg x=Io (.ref C))(q:Um K C=Iq):p7 x C bmV "ValueError.__new__" mg B:=by
 unfold Um at q;split at q
 ·rename_i dd cd sl ho
  split at q
  ·rename_i C' bm k0 k1 k2 k3 n k5 hm' hs
   simp only[p5,beq_iff_eq,Bool.not_eq_true'] at q;obtain⟨rfl,hdel,rfl,hi,ht⟩:=q;obtain⟨nm,bs,mro,ns,qn,hd,sn,sub,ab,col,del⟩:=cd;dsimp only at hm' hdel hi;subst hm' hdel;have hsl:sl = #[k0,k1,k2,k3,Io (.builtin "ValueError.__new__"),k5]:=by
    obtain⟨l⟩:=sl;simp only at hs;rw[hs]
   subst hsl;obtain⟨m,h1,h2⟩:=jy X hi;rwa[hm,bm,ns,nm,qn,bs,hd,sn,sub,ab,col,dd,k0,k1,k2,k3,k5,m,X _ _ ho,h1,h2,iD X ht]
  ·cases q
 ·cases q
def dI{F K:b7}{a:b9} : Ae a (F++K)=match Ae a F with | some o=>Io o | none=>Ae a K:=by
 induction F with
 | nil=>rfl
 | cons e F ih =>
  rw[Gi,p9,p9];cases a == e.1 with
  | true=>rfl
  | false=>rwa[ih]
def lS:∀{F:b7}{a:b9}{o:AM},Ae a F=Io o->(a,o)∈F
 | [],_,_,h=>by cases h
 | (b,u)::F,a,o,h=>by
  rw[p9] at h;cases z:a == b with
  | true =>
   rw[z] at h;cases h;rw[beq_iff_eq.mp z];rwa[.head _]
  | false =>
   rw[z] at h;rwa[.tail _ (lS h)]
def YS{F K:b7}{h:o0}(n:(F.map (·.1)).all (λa=>(Ae a K).isNone)=Iq)(X:At (F++K) h):At K h:=λa o q=>X a o (by
 rw[dI];cases z:Ae a F with
 | none=>rwa[q]
 | some u =>
  have m:a∈F.map (·.1):=i4.mpr ⟨(a,u),lS z,rfl⟩;have:=Ah.mp n a m;rw[q] at this;cases this)
def bJ{F K:b7}{a:b9}{o:AM}(n:(F.map (·.2.cls)).all (λc=>!(c == .type "list"))=Iq)(h:Ae a (F++K)=Io o)(c:o.cls=.type "list"):Ae a K=Io o:=by
 rw[dI] at h;cases z:Ae a F with
 | none=>rw[z] at h; rwa[h]
 | some u =>
  rw[z] at h;have h:Io u=Io o:=h;injection h with h
  subst h;have:=Ah.mp n u.cls (i4.mpr ⟨(a,u),lS z,rfl⟩);rw[c] at this;simp at this
def walk_of3{l:EK}{n k:Nat}{q:j9}{loose:List g8}{XP:(g8->Option c7)->o0->Prop}{YP:n9->o0->Prop}{d:DefRec}{KK:B8->b7}{K:b7}{sp:Sp}{x:g8}
  (hn:l.most=Io n) (hn2:n<=sizeLine) (hdf:d.params.defaults=[]) (hr:qH k callerA)
  (hY:∀(w:n9)(h:o0),YP w h->(KK w.params).In h) (sub:∀(p:B8)(h:o0),(KK p).In h->K.In h) (past:∀(p:B8)(a:b9)(o:AM),Ae a (KK p)=Io o->o.cls=.type "list" -> Ae a K=Io o)
  (F:∀(w:n9)(mg:g8->Option c7)(fa:b9)(h:o0),(KK w.params).In h->h.Ns mainGlobals mg->mg d.name=Io (.ref fa) ->
   ∃ fd:Aq,(∀(s:d3)(u:c7),Ep s fd ⟨[u],[]⟩ [(x,u)]) /\
    ∀ base:o0,(KK w.params).In base->base.Ns mainGlobals mg->yX l.prog w K mg base CX0 k fa fd [x] sp)
  (hsp:∀(H:Hp)(a:b9)(ns:List Int),ns.length<=n->SqL K H a (ns.map V.int)->sp [.ref a] H (λv _=>v=.bl Iq) λ_ _ _=>False) :
  HD q loose XP YP l.row.toRowW d [] (λf vs=>GM f vs):=by
 erw[Att.attach_call hn hdf λw s₀ s₁ mg mb fa o pm cd doc a vs ns G Y ho hd hcd hmg hobj hints hlen hg=>?_];have KX:=hY w _ Y;obtain⟨fd,hb,hF⟩:=F w mg fa _ KX G.T.g hmg;erw[YB (K:=KK w.params) KX G.T.g G.T.b G.T.builtins G.T.nolimit hg hobj hints (j7 hlen hn2) hr (λbase hK hN=>(hF base hK hN).withK (sub _ _ hK)) hb (λH hO hS=>hsp H a ns hlen ?_) λH e s' z=>z];rcases hS with h | ⟨o,its,n,h1,h2,h3⟩
 ·rwa[.inl h]
 ·rwa[.inr ⟨o,its,n,past _ _ _ h1 h2,h2,h3⟩]
end L2

namespace Sea
section
variable{H:Hp}{v:V}
def kR{n:g8}{x y:Int}(h:Rep H (Deed.move n x y).dt v):∃ a,v=.ref a/\H a=Io (.tup [.str "move",.str n,.int x,.int y]):=by
 obtain⟨a,xs,e,h1,h2⟩:=yF.mp h;obtain⟨_,_,rfl,k1,h2⟩:=zL.mp h2;obtain⟨_,_,rfl,k2,h2⟩:=zL.mp h2;obtain⟨_,_,rfl,k3,h2⟩:=zL.mp h2;obtain⟨_,_,rfl,k4,h2⟩:=zL.mp h2;rw[zW.mp k1,zW.mp k2,yB.mp k3,yB.mp k4,zY.mp h2] at h1;rwa[a,e,h1]
def vq{n:g8}(h:Rep H (Deed.unmark n).dt v):∃ a,v=.ref a/\H a=Io (.tup [.str "unmark",.str n]):=by
 obtain⟨a,xs,e,h1,h2⟩:=yF.mp h;obtain⟨_,_,rfl,k1,h2⟩:=zL.mp h2;obtain⟨_,_,rfl,k2,h2⟩:=zL.mp h2;rw[zW.mp k1,zW.mp k2,zY.mp h2] at h1;rwa[a,e,h1]
def pZ{n:g8}(h:Rep H (Deed.level n).dt v):∃ a,v=.ref a/\H a=Io (.tup [.str "level",.str n]):=by
 obtain⟨a,xs,e,h1,h2⟩:=yF.mp h;obtain⟨_,_,rfl,k1,h2⟩:=zL.mp h2;obtain⟨_,_,rfl,k2,h2⟩:=zL.mp h2;rw[zW.mp k1,zW.mp k2,zY.mp h2] at h1;rwa[a,e,h1]
def pY{k x y:Int}(h:Rep H (Deed.right k x y).dt v):∃ a,v=.ref a/\H a=Io (.tup [.str "right",.int k,.int x,.int y]):=by
 obtain⟨a,xs,e,h1,h2⟩:=yF.mp h;obtain⟨_,_,rfl,k1,h2⟩:=zL.mp h2;obtain⟨_,_,rfl,k2,h2⟩:=zL.mp h2;obtain⟨_,_,rfl,k3,h2⟩:=zL.mp h2;obtain⟨_,_,rfl,k4,h2⟩:=zL.mp h2;rw[zW.mp k1,yB.mp k2,yB.mp k3,yB.mp k4,zY.mp h2] at h1;rwa[a,e,h1]
structure TX(H:Hp)(cs:List (Int×Int))(ps:List Pr):Prop where
 mk ::
 pt:ps.map (·.2)=cs
 at_:∀ t∈ps,H t.1=Io (.tup [.int t.2.1,.int t.2.2])
def mL:∀{cs:List (Int×Int)}{xs:List V},xN H (cs.map ptD) xs->∃ ps:List Pr,xs=wN ps/\TX H cs ps
 | [],_,h=>⟨[],zY.mp h,rfl,λt ht=>(nomatch ht)⟩
 | c::cs,_,h=>by
  obtain⟨x,r,rfl,h1,h2⟩:=zL.mp h;obtain⟨a,rfl,ha⟩:=wy h1;obtain⟨ps,rfl,e,h3⟩:=mL h2;erw[(a,c)::ps,U,by rw[l9,e],λt ht=>?_];rcases i7.mp ht with z | z
  ·rw[z]; rwa[ha]
  ·rwa[h3 t z]
def nU{n:g8}{cs:List (Int×Int)}(h:Rep H (Deed.bank n cs).dt v):∃(a c:b9)(ps:List Pr),v=.ref a/\H a=Io (.tup [.str "bank",.str n,.ref c])/\H c=Io (.tup (wN ps))/\TX H cs ps/\Rep H (.tup (cs.map ptD)) (.ref c):=by
 obtain⟨a,xs,e,h1,h2⟩:=yF.mp h;obtain⟨_,_,rfl,k1,h2⟩:=zL.mp h2;obtain⟨_,_,rfl,k2,h2⟩:=zL.mp h2;obtain⟨_,_,rfl,k3,h6⟩:=zL.mp h2;obtain⟨c,ys,rfl,h3,h4⟩:=yF.mp k3;obtain⟨ps,rfl,h5⟩:=mL h4;have e6:=zY.mp h6;rw[zW.mp k1,zW.mp k2,e6] at h1;rwa[a,c,ps,e,h1,h3,h5,k3]
end
def UY{ps:List Pr} : isB ps=im (ps.map (·.2)):=by
 have e:∀ i,ptA ((ps.map (·.2)).map λc=>((0,c):b9×Int×Int)) i=ptA ps i:=λi=>by
  unfold ptA;rw[e7,e7];cases ps[i]? <;> rfl
 have l:((ps.map (·.2)).map λc=>((0,c):b9×Int×Int)).length=ps.length:=by rw[a7,a7]
 unfold im isB tK cS;simp only[e,l]
def Zg{S:BS}{n:g8}{x y:Int}(h:(zQ S n).isSome=Iq):XQ (mkE S.marks) (.inr n) (ptD (x,y))=mkE (aft S (.move n x y)).marks:=by
 have any:(mkE S.marks).any (λe=>decide (e.1=.inr n))=true:=by
  obtain⟨p,e⟩:=k9.mp h;rwa[C1.mpr ⟨(.inr n,ptD p),i4.mpr ⟨(n,p),mG e,rfl⟩,by simp⟩]
 unfold XQ;rw[y9 any];show _=mkE (S.marks.map _);unfold mkE;rw[v7,v7];erw[Fj λe _=>?_];show(if (BV e.1:Key)=BV n then((BV e.1:Key),ptD (x,y)) else(BV e.1,ptD e.2))=_;by_cases z:e.1=n
 ·rw[y9 (by rw[z])];show _=((BV (if e.1=n then(e.1,x,y) else e).1:Key),ptD (if e.1=n then(e.1,x,y) else e).2);rw[y9 z]
 ·rw[y7 (λq=>z (Gr q))];show _=((BV (if e.1=n then(e.1,x,y) else e).1:Key),ptD (if e.1=n then(e.1,x,y) else e).2);rw[y7 z]
def eJ(l:List (g8×Int×Int))(n:g8):iM (mkE l) (.inr n)=mkE (l.filter λe=>decide (e.1≠n)):=by
 unfold iM mkE;rw[EI]
 congr 1
 erw[D1 λe _=>?_];simp
def lM(l:List (g8×List (Int×Int))):(bkE l).length=l.length:=by unfold bkE; rw[a7]
def Zw(l:List (g8×List (Int×Int)))(n:g8)(cs:List (Int×Int)):bkE (l++[(n,cs)])=bkE l++[(.inr n,.tup (cs.map ptD))]:=by
 unfold bkE;rw[i8];rfl
def ej(l:List (g8×List (Int×Int)))(n:g8):iM (bkE l) (.inr n)=bkE (l.filter λe=>decide (e.1≠n)):=by
 unfold iM bkE;rw[EI]
 congr 1
 erw[D1 λe _=>?_];simp
def lL{l:List (g8×List (Int×Int))}{n:g8}(h:n ∉ l.map (·.1)):∀ e∈bkE l,e.1≠.inr n:=λe he z=>by
 unfold bkE at he;obtain⟨q,hq,rfl⟩:=i4.mp he;rwa[h (i4.mpr ⟨q,hq,Gr z⟩)]
def pN{es:List (Key×Dt)}{k:Key}(h:∀ e∈es,e.1≠k):look es k=none:=by
 unfold look;rw[Eu,BZ];rwa[λe he z=>h e he (of_decide_eq_true z)]
def WT{es:List (Key×Dt)}{k:Key}(h:k∈es.map (·.1)):∃ d,look es k=Io d:=by
 obtain⟨e,he,rfl⟩:=i4.mp h;unfold look;cases q:es.find? λx=>decide (x.1=e.1) with
 | none=>rwa[x5 (BZ.mp q e he) (by simp)]
 | some x=>rwa[x.2,U]
def Ww{l:List (g8×List (Int×Int))}{n:g8}(h:n∈l.map (·.1)):∃ d,look (bkE l) (.inr n)=Io d:=WT (by
 obtain⟨e,he,rfl⟩:=i4.mp h;rwa[i4.mpr ⟨_,i4.mpr ⟨e,he,rfl⟩,rfl⟩])
def Wy:∀{l:List (Int×Int)}{k i:Nat}{p:Int×Int},((l.zipIdx k).map λe=>((.inl (e.2:Int):Key),ptD e.1)).map (λe=>if e.1=.inl ((k+i:Nat):Int) then(e.1,ptD p) else e)=((l.set i p).zipIdx k).map λe=>((.inl (e.2:Int):Key),ptD e.1)
 | [],_,_,_=>rfl
 | q::l,k,0,p=>by
  rw[List.set_cons_zero,Bc,Bc,l9,l9,l9,y9 (by rfl)]
  congr 1
  rw[Fj (g:=id),List.map_id];intro e he;obtain⟨u,hu,rfl⟩:=i4.mp he;rw[y7]
  ·rfl
  intro z;injection z with z
  have:=List.le_snd_of_mem_zipIdx hu;simp at z;lia
 | q::l,k,i+1,p=>by
  have ih:=Wy (l:=l) (k:=k+1) (i:=i) (p:=p);rw[show k+1+i=k+(i+1) by lia] at ih;rw[List.set_cons_succ,Bc,Bc,l9,l9,l9,ih,y7];intro z;injection z with z
  simp at z;lia
def VA{l:List (Int×Int)}{i:Nat}{p:Int×Int}(h:i<l.length):XQ (rnE l) (.inl (i:Int)) (ptD p)=rnE (l.set i p):=by
 have e:=kC (k:=0) (d4 h);rw[Ev] at e;have any:(rnE l).any (λe=>decide (e.1=.inl (i:Int)))=true:=by
  cases q:(rnE l).any (λe=>decide (e.1=.inl (i:Int))) with
  | true=>rfl
  | false =>
   have:=pN (es:=rnE l) (k:=.inl (i:Int)) λe he z=>by
    have:=FH.mp q e he;simp[z] at this
   rw[show look (rnE l) (.inl (i:Int))=_ from e] at this;cases this
 unfold XQ;rw[y9 any];have:=Wy (l:=l) (k:=0) (i:=i) (p:=p);rw[Ev] at this;rwa[this]
def xN.set{H:Hp}{d:Dt}{v:V}(h:Rep H d v):∀{l:List Dt}{xs:List V}(i:Nat),xN H l xs->xN H (l.set i d) (xs.set i v)
 | [],_,i,q=>by rw[zY.mp q]; rwa[zY.mpr rfl]
 | d'::l,_,0,q=>by
  obtain⟨x,r,rfl,h1,h2⟩:=zL.mp q;rwa[zL.mpr ⟨v,r,rfl,h,h2⟩]
 | d'::l,_,i+1,q=>by
  obtain⟨x,r,rfl,h1,h2⟩:=zL.mp q;rwa[zL.mpr ⟨x,_,rfl,h1,xN.set h i h2⟩]
def XR{n i:Nat}(h:i<n):ixN n (i:Int)=Io i:=by
 unfold ixN;simp;lia
end Sea

namespace L2
def isS(n:g8):V->Bool
 | .str z=>z == n
 | _=>Ir
def rInM(K:b7):R2:=λx y H Q=>∃(p:b9)(xs:List V)(n:g8),y=.ref p/\x=.str n/\SqT K H p xs/\(∀ v∈xs,(∃ z,v=.str z)\/∃ a ys,v=.ref a/\SqT K H a ys)/\Q (.bl (xs.any (isS n))) H
section
variable{X:Cx}
def Zr(hu:X.A.units+1<cLine):OpR X (compareOp .In) (rInM X.K):=by
 intro Is s σ H x y v u Q I rx ry h;obtain⟨p,xs,n,rfl,rfl,hq,ok,q⟩:=h;cases ry;obtain⟨t,rfl⟩:=rx;obtain⟨its,r,pl,hz⟩:=I.tuple hq;have key:∀{xs:List V}{us:List c7},yO xs us->(∀ v∈xs,(∃ z,v=.str z)\/∃ a ys,v=.ref a/\SqT X.K H a ys)->(∀ u∈us,Fy X.A.in1 s u (.str n t) (eqU (.str n) u))/\us.any (eqU (.str n))=xs.any (isS n):=by
  intro xs us hv
  induction hv with
  | nil=>exact λ_=>⟨λu hu=>(nomatch hu),rfl⟩
  | @cons y u xs us r _ ih =>
   intro ok;obtain⟨h1,h2⟩:=ih λv hv=>ok v (.tail _ hv);rcases ok y (.head _) with ⟨z,rfl⟩ | ⟨a,ys,rfl,ha⟩
   ·obtain⟨t',rfl⟩:=r;erw[λw hw=>?_,by rw[AT,AT,h2]; rfl];rcases i7.mp hw with rfl | hw
    ·rwa[FA z t' n t]
    ·rwa[h1 w hw]
   ·cases r;obtain⟨_,_,pa,_⟩:=I.tuple ha;erw[λw hw=>?_,by rw[AT,AT,h2]; rfl];rcases i7.mp hw with rfl | hw
    ·rwa[SeqAt.EqAt.tuple_str n t pa hu]
    ·rwa[h1 w hw]
 obtain⟨h1,h2⟩:=key r ok;refine Gb (eqU (.str n)) pl (λw hw=>h1 w (by simpa using hw)) ⟨.bl _,H,I,rfl,?_⟩;rw[show its.toArray.any (eqU (.str n))=its.any (eqU (.str n)) by simp,h2];rwa[q]
end
def Same.seqT{K:b7}{H H':Hp}{a:b9}{xs:List V}(e:Same H H')(h:SqT K H a xs):SqT K H' a xs:=by
 rcases h with (h | ⟨o,h⟩) | h
 ·rwa[.inl (.inl (e _ _ h))]
 ·rwa[.inl (.inr ⟨o,e _ _ h⟩)]
 ·rwa[.inr h]
def Same.sq{K:b7}{H H':Hp}{l:b9}{xs:List V}(s:Same H H')(h:Sq K H l xs):Sq K H' l xs:=by
 rcases h with h | h
 ·rwa[.inl (s.seq h)]
 ·rwa[.inr (s.seqT h)]
end L2

namespace Sea
def BkL(C:b9)(H:Hp)(b p l:b9)(S:BS)(past later:List (Deed×BS)):Prop:=∃ dx d ps ls,BkA C H b p dx d l ps ls S past later
abbrev Bl(b p l:b9):b9->Prop:=λx=>x=b\/x=p\/x=l
section
variable{H H1:Hp}
def BkL.to{C b p l:b9}{S:BS}{past later:List (Deed×BS)}(k:BkL C H b p l S past later)(s:Sam H H1):BkL C H1 b p l S past later:=let ⟨dx,d,ps,ls,q⟩:=k;⟨dx,d,ps,ls,q.to s⟩
def BkL.at{C b p l:b9}{S:BS}{past later:List (Deed×BS)}(k:BkL C H b p l S past later):gK C H b p S past later:=let ⟨dx,d,ps,ls,q⟩:=k;⟨dx,d,l,ps,ls,q⟩
def ZG{C b p l dx:b9}{fs:List (g8×V)}{ps ls:List V}(hb:H b=Io (.ins C dx fs))(hp:H p=Io (.lst ps))(hl:H l=Io (.lst ls)):∀ a kvs,Rd H a (.dK kvs)->¬ Bl b p l a:=λa kvs h z=>by
 rcases z with z | z | z <;> subst z <;> rcases h with h | ⟨o,h⟩
 ·rw[hb] at h; cases h
 ·rw[hb] at h; cases h
 ·rw[hp] at h; cases h
 ·rw[hp] at h; cases h
 ·rw[hl] at h; cases h
 ·rw[hl] at h; cases h
def au{C b p l dx:b9}{fs:List (g8×V)}{ps ls:List V}(hb:H b=Io (.ins C dx fs))(hp:H p=Io (.lst ps))(hl:H l=Io (.lst ls)):∀ a xs,H a=Io (.tup xs)->¬ Bl b p l a:=λa xs h z=>by
 rcases z with z | z | z <;> subst z
 ·rw[hb] at h; cases h
 ·rw[hp] at h; cases h
 ·rw[hl] at h; cases h
def xM.split{D:Deed}{S:BS} : ∀{r:List (Deed×BS)}{xs:List V},xM H (r++[(D,S)]) xs->∃(ys:List V)(t d:b9)(v:V),xs=ys++[.ref t]/\xM H r ys/\H t=Io (.tup [v,.ref d])/\Rep H D.dt v/\fv H d S
 | [],xs,h=>by
  obtain⟨t,d,v,ys,e,h1,h2,h3,h4⟩:=h;have h4:ys=[]:=h4;subst h4;rwa[[],t,d,v,e,U,h1,h2,h3]
 | (D',S')::r,xs,h=>by
  obtain⟨t',d',v',zs,e,g1,g2,g3,g4⟩:=h;obtain⟨ys,t,d,v,rfl,k1,k2,k3,k4⟩:=xM.split g4;rwa[.ref t'::ys,t,d,v,e,⟨t',d',v',ys,U,g1,g2,g3,k1⟩,k2,k3,k4]
def xM.get:∀{r:List (Deed×BS)}{xs:List V}{i:Nat}{x:V},xM H r xs->xs[i]?=Io x->∃(e:Deed×BS)(t d:b9)(v:V),r[i]?=Io e/\x=.ref t/\H t=Io (.tup [v,.ref d])/\Rep H e.1.dt v
 | [],xs,i,x,h,e=>by
  have h:xs=[]:=h;rw[h] at e;simp at e
 | (D,S)::r,xs,0,x,h,e=>by
  obtain⟨t,d,v,ys,rfl,h1,h2,_⟩:=h;simp at e;rwa[(D,S),t,d,v,U,e.symm,h1,h2]
 | (D,S)::r,xs,i+1,x,h,e=>by
  obtain⟨t,d,v,ys,rfl,_,_,_,h4⟩:=h;obtain⟨e',t',d',v',g,k⟩:=xM.get (i:=i) (x:=x) h4 (by simpa using e);exact⟨e',t',d',v',by simpa using g,k⟩
def xM.refs:∀{r:List (Deed×BS)}{xs:List V},xM H r xs->∃ rs:List b9,xs=rs.map V.ref
 | [],xs,h=>⟨[],h⟩
 | (D,S)::r,xs,h=>by
  obtain⟨t,d,v,ys,rfl,_,_,_,h4⟩:=h;obtain⟨rs,rfl⟩:=xM.refs h4;rwa[t::rs,U]
end
end Sea

namespace L2
def fI:bootBuiltins "reversed" = Io (.type "reversed"):=by ac_nf
def XZ:∀{xs:List V}{us:List c7},yO xs us->∀{j:Nat}(h1:j<xs.length)(h2:j<us.length),xF xs[j] us[j]
 | _,_,.nil,_,h1,_=>x5 h1 (Dk _)
 | _,_,.cons r _,0,_,_=>r
 | _,_,.cons _ t,j+1,h1,h2=>XZ t (Ew h1) (Ew h2)
def Xh{P:j9}{w:n9}{K:b7}{tg:w4}{l:b9}{xs:List V}(it:b9) :
  Yq P w K tg (Itc (λH=>SqL K H l xs) xs.reverse) [it] it (λi h=>h.IsRevIter it l ((xs.length:Int)-1-i)/\i<=xs.length) where
 mem:=by simp
 obj:=λi h st b hb=>by
  have e:b=it:=by simpa using hb
  subst e;obtain⟨⟨o,e,c,d⟩,_⟩:=st;exact⟨o,e,λv z=>by rw[d] at z; cases z⟩
 keep:=λi h h' st k=>⟨st.1.at λo e=>k it (by simp) o e,st.2⟩
 item:=by
  intro X hP hw hK hc i Is s σ H E I hf st ⟨fz,hi⟩;subst hP hw hK;obtain⟨its,r,pl,_⟩:=I.list fz;rw[AE] at hi;have hj:xs.length-1-i<xs.length:=by lia
  obtain⟨u,hu,ru⟩:∃ u,its[xs.length-1-i]?=Io u/\xF xs[xs.length-1-i] u:=⟨its[xs.length-1-i]'(by rw[<- r.length]; rwa[hj]),d4 _,XZ r hj (by rw[<- r.length]; rwa[hj])⟩;obtain⟨f0,f1,f2,f3,f4,f5⟩:=hf it (by simp);have st':s.heap.IsRevIter it l ((xs.length-1-i:Nat):Int):=by rw[show((xs.length-1-i:Nat):Int)=(xs.length:Int)-1-i by lia]; rwa[st.1]
  refine wpAny_pyNext_rev_item st' pl.isList (x:=u) (by simpa using hu) λh' st2 sb=>?_;have I1:Inv X Is σ H { s with heap:=h' }:=I.turned (t':=s.toks) (λb o hb e=>(sb.2 b hb).trans e) f0 f1 f3 f4 f5;obtain⟨o,e,c,dd⟩:=id st2;rw[show((xs.length-1-i:Nat):Int)-1=(xs.length:Int)-1-((i+1:Nat):Int) by lia] at st2;exact⟨u,U,fA (s:={ s with heap:=h' }) e c dd (by decide) ⟨xs[xs.length-1-i],H,I1,ru,⟨U,by rw[CZ hi,d4]⟩,⟨st2,hi⟩,λb hb=>(hf b hb).1⟩⟩
 done:=by
  intro X hP hw hK hc i Is s σ H E I hf st ⟨fz,hi⟩;subst hP hw hK;rw[AE] at hi;obtain⟨f0,f1,f2,f3,f4,f5⟩:=hf it (by simp);have st':s.heap.IsRevIter it l (-1):=by
   rw[show(-1:Int)=(xs.length:Int)-1-i by have:=st.2; lia];rwa[st.1]
  rwa[wpAny_pyNext_rev_end (I.ok.hd hc) st' λh' eb=>⟨rfl,I.turned (t':=s.toks) (λb o hb e=>eb b o hb e) f0 f1 f3 f4 f5⟩]
 self:=λ_ _ _ _ _ st h=>E9 st.1 h
section
variable{X:Cx}
def iRev(K:b7)(ta:TA):TI:=λσ H R=>ta σ H λvs H1=>∃(l:b9)(xs:List V),vs=[.ref l]/\SqL K H1 l xs/\R (Itc (λH=>SqL K H l xs) xs.reverse) H1
def UJ{tg a:w4}{ta:TA}{p pos:Co}(hg:Gl X "reversed")(hm:X.mg "reversed" = Ip)(ha:PA X [a] ta)(hs:starEach [a] X.env=[(Ir,eval a X.env)]:=by rfl) :
  PI X tg (.Call (.Name "reversed" p) [a] [] pos) (iRev X.K ta):=by
 intro Is s σ H R I h;erw[Call_ (oE I hg hm fI (AZ (thn (ha pos Is s σ H _ I h) λus s1 ⟨vs,H1,I1,r1,q1⟩=>?_) hs rfl))];obtain⟨l,xs,e,hl,q⟩:=q1;subst e;obtain⟨u1,rfl,v1⟩:=yO.one r1;cases v1;obtain⟨its,r,pl,_⟩:=I1.list hl;erw[call_reversed_list pl.isList ?_];have z:(s1.heap.push (revObj l ((its.toArray.size:Int)-1))).IsRevIter s1.heap.objs.size l ((xs.length:Int)-1-(0:Nat)):=⟨_,d9 _ rfl,rfl,by rw[i0,<- r.length,show(xs.length:Int)-1-((0:Nat):Int)=(xs.length:Int)-1 by lia]; rfl⟩;erw[E9 z ?_];erw[_,[_],_,_,H1,U,I1.kept (t':=s1.toks) (λb o e=>c9 _ e),Xh _,⟨z,t7 _⟩,λb hb=>?_,q];have e:=d8.mp hb;subst e;rwa[I1.fpOk (d6 _) (I1.hok.fresh (d6 _))]
end
end L2

namespace Sea
mutual
def vy:Dt->List g8
 | .int i=>[l5 (toString i)]
 | .str x=>[x]
 | .tup l=>yc l
def yc:List Dt->List g8
 | []=>[]
 | d::l=>vy d++yc l
end
def lU:Nat->Dt->Prop
 | _,.int i=>i.natAbs.log2<1920
 | _,.str x=>x.length<=1921
 | 0,.tup _=>False
 | n+1,.tup l=>l.length<=900/\∀ d∈l,lU n d
mutual
def Zn:∀(n:Nat)(d:Dt),lU n d->∀ w∈vy d,w.length<=1921
 | n,.int i,h,w,hw=>by
  have h:i.natAbs.log2<1920:=by cases n <;> rwa[h]
  rw[vy] at hw;rw[d8.mp hw,Cd];rwa[int_text_length_le (k:=1920) (by decide) h]
 | n,.str x,h,w,hw=>by
  have h:x.length<=1921:=by cases n <;> rwa[h]
  rw[vy] at hw;rw[d8.mp hw];rwa[h]
 | 0,.tup _,h,_,_=>h.elim
 | n+1,.tup l,h,w,hw=>by
  rw[vy] at hw;rwa[lG n l h.2 w hw]
def lG:∀(n:Nat)(l:List Dt),(∀ d∈l,lU n d)->∀ w∈yc l,w.length<=1921
 | _,[],_,w,hw=>by rw[yc] at hw; exact nomatch hw
 | n,d::l,h,w,hw=>by
  rw[yc] at hw;rcases m7.mp hw with z | z
  ·rwa[Zn n d (h d (.head _)) w z]
  ·rwa[lG n l (λd hd=>h d (.tail _ hd)) w z]
end
mutual
def qS:Dt->List Dt
 | .int i=>[.int i]
 | .str x=>[.str x]
 | .tup l=>rK l
def rK:List Dt->List Dt
 | []=>[]
 | d::l=>qS d++rK l
end
def w1:Dt->g8
 | .int i=>l5 (toString i)
 | .str x=>x
 | .tup _=>HI
mutual
def io:∀ d:Dt,vy d=(qS d).map w1
 | .int i=>by rw[vy,qS]; rfl
 | .str x=>by rw[vy,qS]; rfl
 | .tup l=>by rw[vy,qS]; rwa[uk l]
def uk:∀ l:List Dt,yc l=(rK l).map w1
 | []=>by rw[yc,rK]; rfl
 | d::l=>by rw[yc,rK,i8,io d,uk l]
end
mutual
def bP:∀(n:Nat)(d:Dt),lU n d->∀ e∈qS d,lU 0 e
 | n,.int i,h,e,he=>by
  rw[qS] at he;rw[d8.mp he];cases n <;> rwa[h]
 | n,.str x,h,e,he=>by
  rw[qS] at he;rw[d8.mp he];cases n <;> rwa[h]
 | 0,.tup _,h,_,_=>h.elim
 | n+1,.tup l,h,e,he=>by
  rw[qS] at he;rwa[lu n l h.2 e he]
def lu:∀(n:Nat)(l:List Dt),(∀ d∈l,lU n d)->∀ e∈rK l,lU 0 e
 | _,[],_,e,he=>by rw[rK] at he; exact nomatch he
 | n,d::l,h,e,he=>by
  rw[rK] at he;rcases m7.mp he with z | z
  ·rwa[bP n d (h d (.head _)) e z]
  ·rwa[lu n l (λd hd=>h d (.tail _ hd)) e z]
end
end Sea

namespace L2
section
variable{X:Cx}
def rNeDK:R2:=λx y H Q=>∃(a b:b9)(kvs:List (Key×V)),x=.ref a/\y=.ref b/\Rd H a (.dK kvs)/\H b=Io (.dK [])/\Q (.bl (!kvs.isEmpty)) H
def WF(hu:X.A.units<cLine):OpR X (compareOp .NotEq) rNeDK:=by
 intro Is s σ H x y v u Q I rx ry h;obtain⟨a,b,kvs,rfl,rfl,ha,hb,q⟩:=h;cases rx;cases ry;obtain⟨_,na,vs,r,da⟩:=ha.ok I.hok;obtain⟨_,nb,us,r',db⟩:=(show Rd H b (.dK []) from .inl hb).ok I.hok;have e0:us=[]:=CO.mp (by rw[<- r'.length]; rfl);subst e0;have hl:=r.length;have e:(!(vs.length ==([]:List (Key×c7)).length&&Iq)) = !kvs.isEmpty:=by
  rw[<- hl];cases kvs <;> rfl
 erw[PySem.W.keq_ne (r:=Iq) na nb da db hu (λz=>?_) ?_]
 ·rw[CO.mp z];rwa[.nil]
 ·rw[e];rwa[.bl _,H,I,U,q]
variable{e:w4}{te:TE}{st:w4}{ts:TO}{pos p2:Co}
end
end L2

namespace Sea
def YX{n:Nat}{x:g8}(h:x.length<=8):lU n (.str x):=by
 have:x.length<=1921:=by lia
 cases n <;> rwa[this]
def ug{n:Nat}{l:List Dt}(h:l.length<=900)(g:∀ d∈l,lU n d):lU (n+1) (.tup l):=⟨h,g⟩
structure Tame(S:BS)(k:Nat):Prop where
 mk ::
 ma:∀ e∈S.marks,wM e.1
 ba:∀ e∈S.banks,wM e.1
 ru:S.runs.length<=k
 no:∀ e∈S.notes,0<=e.1/\e.1<=S.coming
 co:0<=S.coming/\S.coming<=1+k
def dt2{P:Dt->Prop}{a b:Dt}(h1:P a)(h2:P b):∀ d∈[a,b],P d:=λd hd=>by
 rcases i7.mp hd with rfl | hd
 ·rwa[h1]
 ·rw[d8.mp hd]; rwa[h2]
def dt3{P:Dt->Prop}{a b c:Dt}(h1:P a)(h2:P b)(h3:P c):∀ d∈[a,b,c],P d:=λd hd=>by
 rcases i7.mp hd with rfl | hd
 ·rwa[h1]
 ·rwa[dt2 h2 h3 d hd]
def dt4{P:Dt->Prop}{a b c e:Dt}(h1:P a)(h2:P b)(h3:P c)(h4:P e):∀ d∈[a,b,c,e],P d:=λd hd=>by
 rcases i7.mp hd with rfl | hd
 ·rwa[h1]
 ·rwa[dt3 h2 h3 h4 d hd]
def Bd(S:BS)(B:Nat):Prop:=∀ e∈S.marks,e.2.1.natAbs<=B/\e.2.2.natAbs<=B
structure GrowD(S:BS)(D:Deed)(B:Nat):Prop where
 mk ::
 ok:okD S D
 bd:Bd (aft S D) (B+5)
 lo:S.marks.length<=(aft S D).marks.length
 hi:(aft S D).marks.length<=S.marks.length+1
 bk:(aft S D).banks=S.banks
def yY.over{φ:b9->Prop}{H H1 H2:Hp}{D:b9}(s:yY φ H H1)(t:yY (λx=>x=D) H1 H2)(n:H1 D=Ip):yY φ H H2:=λx o hx e=>by
 rcases s x o hx e with e1 | ⟨ob,kvs,e0,e1⟩
 ·exact t x o (λz=>by rw[z,n] at e1; cases e1) e1
 ·subst e0;rcases t x _ (λz=>by rw[z,n] at e1; cases e1) e1 with e2 | ⟨_,_,z,_⟩
  ·rwa[.inr ⟨ob,kvs,rfl,e2⟩]
  ·cases z
def dh{φ:b9->Prop}{H H':Hp}{a:b9}{o:AM}{u:HO}(s:yY φ H H')(n:¬ φ a)(e:H a=Io (.frz o u)):H' a=Io (.frz o u):=by
 rcases s a _ n e with z | ⟨_,_,z,_⟩
 ·rwa[z]
 ·cases z
end Sea

namespace L2
def bv{P:j9}{w:n9}{H:Hp}{h:o0}{x:b9}{cls:c7}(ok:xI P w H h x (bF x cls)):iK h x:=by
 obtain⟨⟨ob,vs,h1,_,_,h4,h5⟩,_⟩:=ok;rwa[ob,vs,h1,h4,h5]
def Exc(H:Hp)(x:b9):Prop:=∃ cls,H x=Io (bF x cls)
section
variable{X:Cx}{pos:Co}
def Inv.alone{Is:List (b9×AM)}{σ:St}{H:Hp}{s:d3}{x:b9}(I:Inv X Is σ H s)(e:Exc H x):iK s.heap x:=let ⟨_,h⟩:=e; bv (I.hok x _ h)
def gTupH(K:b7)(x:b9)(n:Nat)(t:TGs):TG:=λv σ H Q=>Exc H x/\gTup K n t v σ H Q
def VJ{es:List w4}{k:Nat}{t:TGs}{n:Nat}{x:b9}(hc:X.A.handled=Io (.ref x))(h:PGs X es t)
  (hn:(assignEach es X.env).length=n:=by rfl) (hst:(assignEach es X.env).findIdx? (·.1)=none:=by rfl):PG X (.Tuple es k pos) (gTupH X.K x n t):=by
 intro Is s σ H v u Q I r hw;obtain⟨ex,a,xs,e1,hq,hl,hw⟩:=hw;subst e1;cases r;obtain⟨its,rv,ht,hz⟩:=I.tuple hq;erw[lP hc (I.alone ex) ht (by simp[hn,<- hl,rv.length]) hst λh' hx=>?_];have I1:Inv X Is σ H { s with heap:=h' }:=I.kept (t':=s.toks) λb o e=>hx b o (l6 (f9 e)) e;exact h Is _ σ H xs _ Q I1 (by simpa using rv) hw
end
def Itx(K:b7)(a x:b9):It:=⟨(Itl K a).go,(Itl K a).yld,λi H=>(Itl K a).stop i H/\Exc H x⟩
section
variable{X:Cx}{Is:List (b9×AM)}{s:d3}{σ:St}{H:Hp}{a it x:b9}{i:Nat}{tg:w4}{E:c7->d3->Prop}
def bW{h:o0}(st:h.IsListIter it a i):∀ b∈[it],∃ o,h.get? b=Io o/\∀ v,o.data≠.cell v:=λb hb=>by
 rw[d8.mp hb];obtain⟨o,e,c,d⟩:=st;exact⟨o,e,λv z=>by rw[d] at z; cases z⟩
def ZH{h h':o0}(st:h.IsListIter it a i)(k:∀ b∈[it],∀ o,h.get? b=Io o->h'.get? b=Io o):h'.IsListIter it a i:=st.at λo e=>k it (by simp) o e
def Vm(I:Inv X Is σ H s)(hf:∀ b∈[it],fT X Is H b)(st:s.heap.IsListIter it a i)(hg:(Itx X.K a x).go i H) :
  wpAny (model X.prog X.w) X.A (pyNext (.ref it)) (λr s1=>∃ u,r=Io u /\
   wpAny (model X.prog X.w) X.A (letOwnedTupleGo tg (.ref it) u) (λ_ s2=>∃ y H',Inv X Is σ H' s2/\xF y u/\(Itx X.K a x).yld i H y H'/\s2.heap.IsListIter it a (i+1)/\∀ b∈[it],H' b=Ip) E s1) E s:=by
 obtain⟨xs,y,hq,hy⟩:=hg;obtain⟨its,rv,p,hz⟩:=I.list hq;obtain⟨u,hu,ru⟩:=rv.get hy;obtain⟨f0,f1,f2,f3,f4,f5⟩:=hf it (by simp);refine Em st p.isList (x:=u) (by simpa using hu) λh' st' sb=>?_;have I1:Inv X Is σ H { s with heap:=h' }:=I.turned (t':=s.toks) (λb o hb e=>(sb.2 b hb).trans e) f0 f1 f3 f4 f5;obtain⟨o,e,c,d⟩:=id st';exact⟨u,U,fA (s:={ s with heap:=h' }) e c d (by decide) ⟨y,H,I1,ru,⟨U,λys hy'=>by rw[I.list_inj hy' hq]; rwa[hy]⟩,st',λb hb=>(hf b hb).1⟩⟩
def VU(hc:X.A.handled=Io (.ref x))(I:Inv X Is σ H s)(hf:∀ b∈[it],fT X Is H b)(st:s.heap.IsListIter it a i)(hg:(Itx X.K a x).stop i H) :
  wpAny (model X.prog X.w) X.A (pyNext (.ref it)) (λr s1=>r=Ip/\Inv X Is σ H s1) E s:=by
 obtain⟨⟨xs,hq,hy⟩,ex⟩:=hg;obtain⟨its,rv,p,hz⟩:=I.list hq;obtain⟨f0,f1,f2,f3,f4,f5⟩:=hf it (by simp);have hl:=rv.length;have hxi:x≠it:=λz=>by
  obtain⟨cls,e⟩:=ex;rw[z,f0] at e;cases e
 rwa[mm hc (I.alone ex) hxi st p.isList (by simp; lia) λh' eb=>⟨rfl,I.turned (t':=s.toks) (λb o hb e=>eb b o hb e) f0 f1 f3 f4 f5⟩]
end
def PIH(X:Cx)(x:b9)(iter:w4)(wi:TI):Prop:=∀(Is:List (b9×AM))(s:d3)(σ:St)(H:Hp)(R:It->Hp->Prop),Inv X Is σ H s->wi σ H R ->
 wpAny (model X.prog X.w) X.A (eval iter X.env) (λv s1=>wpAny (model X.prog X.w) X.A (pyIter v) (λitv s2=>∃(it a:b9)(H':Hp),itv=.ref it/\Inv X Is σ H' s2/\s2.heap.IsListIter it a 0/\(∀ b∈[it],fT X Is H' b)/\R (Itx X.K a x) H') X.xe s1) X.xe s
def UC(K:b7)(x:b9)(tl:TE):TI:=λσ H R=>tl σ H λv H1=>∃ a,v=.ref a/\(∃ xs,SqL K H1 a xs)/\R (Itx K a x) H1
section
variable{X:Cx}
def YJ{l:w4}{tl:TE}(x:b9)(hl:PE X l tl):PIH X x l (UC X.K x tl):=by
 intro Is s σ H R I h;erw[thn (hl Is s σ H _ I h) λv s1 ⟨y,H1,I1,r1,q1⟩=>?_];obtain⟨a,e,⟨xs,hq⟩,q⟩:=q1;subst e;cases r1;obtain⟨its,rv,p,hz⟩:=I1.list hq;erw[BL p.isList ?_];erw[s1.heap.objs.size,a,H1,U,I1.kept (t':=s1.toks) λb o e=>c9 _ e,⟨_,d9 _ rfl,U,U⟩,λb hb=>?_,q];rw[d8.mp hb];rwa[I1.fpOk (d6 _) (I1.hok.fresh (d6 _))]
end
section
variable{X:Cx}{T:List g8}{caps:List (g8×Nat)}{scope:CL}{elt target iter:w4}{ifs:List w4}{pos:Co}{wi:TI}{g:CC->TG}{tt:CC->TT}{te:CC->TE}
def Xc{x:b9}(S:yo X caps scope)(hc:X.A.handled=Io (.ref x))(hi:PIH X x iter wi)(hg:∀ c,PG (uQ X (T++caps.map (·.1)) scope c) target (g c))(ht:∀ c,TY (uQ X (T++caps.map (·.1)) scope c) ifs (tt c))(he:∀ c,PE (uQ X (T++caps.map (·.1)) scope c) elt (te c))
  (hs:∀ x,foldedSetIterable iter X.env x=pure x:=by intro _; rfl):PE X (.ListComp elt [⟨target,iter,ifs,0⟩] scope pos) (Tl T.length caps wi g tt te):=by
 intro Is s σ H Q I h;rw[eval_ListComp];erw[D5 (use:=Ip) rfl hs (ZV S.cells) S.kind S.loc (thn (hi Is s σ H _ I h) λv s1 h1=>thn h1 λitv s2 h2=>?_)];obtain⟨it,a,H2,e,I2,st2,f2,q2⟩:=h2;subst e;refine t6 (E6 S.nocell (by intro y hy; simp at hy) (λh1 hn hsb=>?_) S.kind);dsimp only at hn hsb ⊢;generalize hg2:s2.heap.push { cls:=.type "list",dict:=Ip,data:=.seq ([]:List c7).toArray }=G at hn hsb ⊢;have hCv:G.objs.size=s2.heap.objs.size+1:=by rw[<- hg2,Bh]
 have hDC:G.objs.size≠s2.heap.objs.size:=by rw[hCv]; rwa[Ge _]
 have hCle:s2.heap.objs.size<=G.objs.size:=by rw[hCv]; rwa[BM _]
 have old:∀ b o,s2.heap.get? b=Io o->h1.get? b=Io o:=λb o e=>hsb.extBut b o (l6 (m5 (f9 e) hCle)) (c9 _ (hg2 ▸ c9 _ e));have hacc:∃ n,h1.get? s2.heap.objs.size=Io { cls:=.type "list",data:=.seq ([]:List c7).toArray n }:=⟨_,hsb.extBut _ _ (AJ hDC) (c9 _ (hg2 ▸ d9 _ rfl))⟩;have hfp:∀ b∈[it],b<s2.heap.objs.size:=λb hb=>by
  obtain⟨o,e,_⟩:=bW st2 b hb;rwa[f9 e]
 have cs:=qM (env:=X.env) scope.names [] S.cells (λ_ _ z=>by cases z);have I0:=mF (T:=T) (tk:=s2.toks+([]:List (g8×c7)).length) S I2 f2 hfp (d6 _) hCle hDC old hacc hn;have st0:h1.IsListIter it a 0:=ZH st2 λb _ o e=>old b o e;obtain⟨W,⟨m0,w0⟩,turn⟩:=q2 ⟨G.objs.size,s2,H2,[it]⟩ s2.heap.objs.size (I2.hok.fresh (d6 _));have fr0:∀ b∈[it],upd H2 s2.heap.objs.size (.lst []) b=none:=λb hb=>by
  rw[zH (l6 (hfp b hb))];exact(f2 b hb).1
 have stat:∀{H':Hp},(∀ b∈[it],H' b=Ip)->∀ b∈[it],fT (uQ X (T++caps.map (·.1)) scope ⟨G.objs.size,s2,H2,[it]⟩) [] H' b:=λ{H'} hn' b hb =>
  ⟨hn' b hb,l6 (m5 (hfp b hb) hCle),I0.ok.exfs b hb,.inl hb,λx c e=>(f2 b hb).2.2.2.2.1 x c (cs x c e),λp hp=>x5 (show p∈([]:List (b9×AM)) from hp) (by simp)⟩
 have loop:codeAny (model X.prog X.w) X.A (.compLoop (.ListComp elt [⟨target,iter,ifs,0⟩] scope pos) 0 (.ref it) (.ref s2.heap.objs.size) (compEnvC scope (vn X.env scope.names []) G.objs.size X.env))
   (compPost (model X.prog X.w) X.A X.xe Ip (EP X Is σ Q) (.ref s2.heap.objs.size) G.objs.size) { s2 with heap:=h1,toks:=s2.toks+([]:List (g8×c7)).length }:=by
  erw[codeAny_loop rfl (λn s'=>∃ i σ' ys H',Inv (uQ X (T++caps.map (·.1)) scope ⟨G.objs.size,s2,H2,[it]⟩) [] σ' H' s'/\s'.heap.IsListIter it a i/\(∀ b∈[it],H' b=Ip)/\W i n σ' ys H') (λn s3 hI=>?_) m0 ⟨0,_,[],_,I0,st0,fr0,w0⟩];obtain⟨i,σ3,ys,H3,I3,st3,fr3,w3⟩:=hI;show wpAny _ X.A ((compTurn (.ListComp elt [⟨target,iter,ifs,0⟩] scope pos) 0 (.ref it) (.ref s2.heap.objs.size) (compEnvC scope (vn X.env scope.names []) G.objs.size X.env)).onRaise (λx=>do noteFrame x (compEnvC scope (vn X.env scope.names []) G.objs.size X.env); theTreesLotGoes x)) _ _ s3;erw[wpAny_noted ?_];rw[compTurn_list];erw[ac (C4 (ac ?_))];obtain⟨hD3,turn3⟩:=turn i n σ3 ys H3 w3;rcases turn3 with ⟨stop,qn⟩ | ⟨go,N,hN,step⟩
  ·erw[eK (VU (X:=uQ X (T++caps.map (·.1)) scope ⟨G.objs.size,s2,H2,[it]⟩) hc I3 (stat fr3) st3 stop) λr s4 ⟨hr,I4⟩=>?_];subst hr;erw[d7 ?_];show ∃ m,s4.heap.Ns G.objs.size m/\∀ h',A3 G.objs.size s4.heap h'->EP X Is σ Q (.ref s2.heap.objs.size) { s4 with heap:=h' };obtain⟨m4,hn4,_⟩:=I4.loc;erw[m4,hn4,λh' sb=>⟨.ref s2.heap.objs.size,H3,?_,U,qn⟩];refine I2.call' (s':={ s4 with heap:=h' }) (ch:=[it]) I4.os (Un.same I4.base sb (C6 hCle)) (HOk.same I4.hok sb I4.free) I4.bare λb hb=>?_;obtain⟨_,f1,_,f3,f4,f5⟩:=f2 b hb;rwa[f3,f1,f4,f5]
  ·refine eK (Vm (tg:=target) (X:=uQ X (T++caps.map (·.1)) scope ⟨G.objs.size,s2,H2,[it]⟩) I3 (stat fr3) st3 go) λr s4 ⟨u,hr,h4⟩=>?_;subst hr;refine ac (eK h4 λ_ s5 ⟨x,H5,I5,r5,y5,st5,fr5⟩=>?_);have I5':=I5.pinned (stat fr5) (bW st5);refine ac (eK (hg _ _ s5 σ3 H5 x u _ I5' r5 (step x H5 y5)) λ_ s6 ⟨σ6,H6,I6,q6⟩=>?_);have again:∀{s7:d3}{σ7:St}{zs:List V}{H7:Hp},Inv (uQ X (T++caps.map (·.1)) scope ⟨G.objs.size,s2,H2,[it]⟩) ([]++mW [it] s5.heap) σ7 H7 s7->N σ7 zs H7 ->
     ∃ m,m<n/\∃ i σ' ys H',Inv (uQ X (T++caps.map (·.1)) scope ⟨G.objs.size,s2,H2,[it]⟩) [] σ' H' s7/\s7.heap.IsListIter it a i/\(∀ b∈[it],H' b=Ip)/\W i m σ' ys H':=λ{s7 σ7 zs H7} I7 n7=>by
    obtain⟨m',hm,w7⟩:=hN σ7 zs H7 n7;erw[m',hm,i+1,σ7,zs,H7,I7.unpinned,ZH st5 λb hb o e=>(I7.pin (b,o) (o6 _ (o6 _ (tZ hb e)))).1,λb hb=>?_,w7];obtain⟨o,e,d⟩:=bW st5 b hb;exact(I7.pin (b,o) (o6 _ (o6 _ (tZ hb e)))).2.1
   erw[ac (eK (ht _ _ s6 σ6 H6 _ I6 q6) λok s7 ⟨H7,I7,q7⟩=>?_)];cases ok with
   | false=>rwa[d7 ⟨rfl,again I7 q7⟩]
   | true =>
    erw[ac (ac (eK (he _ _ s7 σ6 H7 _ I7 q7) λy s8 ⟨yv,H8,I8,r8,hD8,hl8,q8⟩=>?_))];erw[ac (eK (oM _ s8 σ6 H8 (.ref s2.heap.objs.size) [yv] (.ref s2.heap.objs.size) [y] (λ_ H9=>N σ6 (ys++[yv]) H9) I8 rfl (.cons r8 .nil) ⟨_,ys,yv,rfl,rfl,hD8,hl8,q8⟩) λ_ s9 ⟨_,H9,I9,_,q9⟩=>?_)];rwa[d7 (d7 ⟨rfl,again I9 q9⟩)]
 rwa[codeAny_compStart_list loop (EQ st0 loop)]
end
section
variable{K:b7}{a x D:b9}{xs:List V}{g:TG}{tt:TT}{te:TE}{σ0:St}{H1:Hp}{Q:VK}
def cy(Pv:Nat->St->List V->Hp->Prop)(h0:Pv 0 σ0 [] (upd H1 D (.lst [])))(hl:∀ i σ ys H,i<=xs.length->Pv i σ ys H->SqL K H a xs/\H D=Io (.lst ys)/\Exc H x)
  (hs:∀ i x σ ys H,xs[i]?=Io x->Pv i σ ys H->g x σ H λσ2 H2=>tt σ2 H2 λb H3 =>
   if b=Iq then te σ2 H3 λy H4=>H4 D=Io (.lst ys)/\ys.length<sizeLine/\Pv (i+1) σ2 (ys++[y]) (upd H4 D (.lst (ys++[y]))) else Pv (i+1) σ2 ys H3)
  (hd:∀ σ ys H,Pv xs.length σ ys H->Q (.ref D) H):ua (Itx K a x) D g tt te σ0 H1 Q:=by
 exists λi m σ ys H=>m=xs.length-i/\i<=xs.length/\Pv i σ ys H,⟨xs.length,by simp,t7 _,h0⟩;rintro i m σ ys H ⟨rfl,hi,p⟩;obtain⟨q,qd,qx⟩:=hl i σ ys H hi p;exists qd;by_cases hlt:i<xs.length
 ·erw[.inr ⟨⟨xs,xs[i],q,by simp[hlt]⟩,Pv (i+1),λσ' zs H' z=>⟨xs.length-(i+1),by lia,rfl,hlt,z⟩,λx H' y=>?_⟩];obtain⟨e,y⟩:=y;subst e;rwa[hs i x σ ys _ (y xs q) p]
 ·have e:i=xs.length:=by lia
  subst e;rwa[.inl ⟨⟨⟨xs,q,d6 _⟩,qx⟩,hd σ ys H p⟩]
end
section
variable{X:Cx}{Is:List (b9×AM)}{σ:St}{H:Hp}{s:d3}
def Inv.stir(I:Inv X Is σ H s){A:Ac}(hf:A.frames=X.A.frames):Inv { X with A:=A,calm:=Ir,xe:=λ_ _=>False } Is σ H s :=
 ⟨⟨I.ok.mod,I.ok.kind,I.ok.glob,I.ok.blt,I.ok.above,I.ok.inj,I.ok.has,I.ok.cab,λz=>(nomatch z),hf.trans I.ok.frames,I.ok.stk,I.ok.exf,I.ok.bs,I.ok.bsz,I.ok.noex,I.ok.exfs,I.ok.funs,I.ok.frf⟩,I.os,I.bare,I.base,I.loc,I.cell,I.free,I.freeC,I.pin,I.hok,I.len⟩
end
abbrev Xk(A:Ac):Ac:={ A with handled:=Ip }
abbrev cxH(P:j9)(w:n9)(K:b7)(mg:g8->Option c7)(base:o0)(N:List g8)(qual:g8)(scope:CL)(f:b9)(cd:c7)(A:Ac)(outer:List Do)(s:d3)(H:Hp):Cx :=
 { cxOf CX0 P w K mg base N qual scope f cd A outer s H E0 with calm:=Ir,xe:=λ_ _=>False }
structure Xq(P:j9)(w:n9)(K:b7)(mg:g8->Option c7)(base:o0)(k:Nat)(f:b9)(fd:Aq)(ps:List g8)(sp:b9->Sp):Prop where
 mk ::
 len:∀ x vs H Q E,sp x vs H Q E->vs.length=ps.length
 run:∀(x:b9)(A:Ac)(outer:List Do)(s:d3)(H:Hp)(args:Args)(us:List c7)(vs:List V)(Q:VK),A.handled=Io (.ref x)->qH k (Xk A)->Yh P w K mg base A outer s H->Ep s fd args (ps.zip us)->yO vs us->sp x vs H Q E0 ->
  codeAny (model P w) A (.call (.ref f) args) (CR CX0 outer P w H s Q E0) s
section
variable{P:j9}{w:n9}{K:b7}{mg:g8->Option c7}{base:o0}
def Fun.okH{x qual:g8}{st:Ag}{f:b9}{fd:Aq}{N ps:List g8}{k:Nat}{sp:b9->Sp}(F:Fun K x qual st f fd)(S:zP N ps (zJ st))(len:∀ x vs H Q E,sp x vs H Q E->vs.length=ps.length)
  (hbody:∀(x:b9)(cdv:c7)(A:Ac)(outer:List Do)(s:d3)(H:Hp)(vs:List V)(Q:VK),A.handled=Io (.ref x)->qH k ((Xk A).deeper (envOfC qual (zJ st) s.heap.objs.size f cdv))->sp x vs H Q E0 ->
   ∃ t,PSs (cxH P w K mg base N qual (zJ st) f cdv A outer s H) (xJ st) t/\t { nx:=λ_ H'=>Q .non H',rt:=Q } (start N vs) H):Xq P w K mg base (k+1) f fd ps sp:=by
 obtain⟨oc,od,kV,doc,pm,an,cdv,ct,osl,rfl,lk,hcd⟩:=F.ex;refine⟨len,λx A outer s H args us vs Q hx hr e0 hb r hsp=>?_⟩;have hl:=len _ _ _ _ _ hsp;have KX:K.In s.heap:=e0.mod.kin.keeps λb o e=>(e0.bs b o e).1;have lim:s.heap.NoLimit:=e0.mod.nolimit.keeps λb o e=>(e0.bs b o e).1;have hkind:∀ y∈ps.zip us,(zJ st).names.lookup y.1=Io .local\/((zJ st).names.lookup y.1=Io .cell/\((cellsFrom (s.heap.objs.size+1) (zJ st).names []).lookup y.1).isSome=Iq):=λ⟨n,v⟩ hy=>by
  rcases S.par n (De hy).1 with q | q
  ·rwa[.inl q]
  ·rwa[.inr ⟨q,CQ _ _ _ (.inl q)⟩]
 refine codeAny_call_function (show A.depth<recursionLimit from hr.depth) (KX _ _ lk) rfl S.co S.gen rfl (Fw KX hcd) (hb _ _ _ _ ?_);refine DF S.kind hkind λenv he s1 x1=>?_;subst he;refine⟨lim.keeps x1.toInCall.keep,codeAny_func ?_⟩;obtain⟨t,ht,hq⟩:=hbody x cdv A outer s H vs Q hx (hr.deeper _) hsp;have e1:Yh P w K mg base (Xk A) outer s H:=⟨e0.frames,e0.mod,e0.bs,e0.bsz,e0.funs,e0.frf,e0.hok,e0.bare⟩;have I0:Inv (cxOf CX0 P w K mg base N qual (zJ st) f cdv (Xk A) outer s H E0) [] (start N vs) H s1:=jO S rfl e1 hl r x1;have I:Inv (cxH P w K mg base N qual (zJ st) f cdv A outer s H) [] (start N vs) H s1:=I0.stir rfl;refine Ba (ht [] s1 (start N vs) H _ I hq) (λfl s' hs=>?_) λ_ _ z=>x9 z;have fin:∀{σ':St}{H':Hp}{v:V}{u:c7},Inv (cxH P w K mg base N qual (zJ st) f cdv A outer s H) [] σ' H' s'->xF v u->Q v H'->CE outer P w H s Q u s' :=
  λ{σ' H' v u} J rv q=>⟨v,H',J.os,J.bare,J.base,J.hok,rv,q⟩
 cases fl with
 | ret u =>
  obtain⟨v,σ',H',J,rv,q⟩:=hs;rwa[fin J rv q]
 | next =>
  obtain⟨σ',H',J,q⟩:=hs;rwa[fin (v:=V.non) (u:=r9) J rfl q]
 | brk =>
  obtain⟨_,_,_,q⟩:=hs;rwa[x9 q]
 | cont =>
  obtain⟨_,_,_,q⟩:=hs;rwa[x9 q]
end
def Sz(P:j9)(w:n9)(K:b7)(mg:g8->Option c7)(base:o0)(x:g8)(n:Nat)(ps:List g8)(sp:b9->Sp):Prop :=
 ∃(f:b9)(fd:Aq),Xq P w K mg base n f fd ps sp/\uw K fd ps []/\Au K (.ref f)=Iq/\mg x=Io (.ref f)
section
variable{X:Cx}{x:g8}{p pos:Co}{e:w4}{es:List w4}{t:TA}{n:Nat}{ps:List g8}{sp:b9->Sp}
def eP{ea:b9}(h:Sz X.prog X.w X.K X.mg X.base x n ps sp)(hr:qH n X.A)(hg:Gl X x)(ha:PA (X.hd (.ref ea)) (e::es) t)(hdb:(x ==("__debug__" : g8))=false:=by decide)
  (he:starEach (e::es) X.env=(Ir,eval e X.env)::starEach es X.env:=by rfl) (hpl:(backTo pos (starEach es X.env)).any (·.1)=false:=by rfl):PE (X.hd (.ref ea)) (.Call (.Name x p) (e::es) [] pos) (cg (sp ea) [] E0 t):=by
 obtain⟨f,fd,F,hb,hk,hm⟩:=h;intro Is s σ H Q I h;erw[Bb (sR I hg hm ?_ hdb)];erw[Bx (h₀:=X.base) I.ok.mod.kin hk (thn (ha pos Is s σ H _ I h) λus s1 ⟨vs,H1,I1,r,q⟩=>⟨I1.kIn,?_⟩) he hpl];have q:sp ea (vs++[]) H1 Q E0:=q;rw[Bq] at q;have hl:us.length=ps.length:=by rw[<- r.length]; rwa[F.len _ _ _ _ _ q]
 have hb':=hb s1 us I1.kIn (by rw[Bq]; rwa[hl]);rw[Bq] at hb';erw[DE (codeAny_mono (F.run ea (X.hd (.ref ea)).A X.stack s1 H1 ⟨us,[]⟩ us vs Q rfl ⟨rfl,hr.dp,hr.un,hr.gd⟩ I1.env0 hb' r q) λr s' hq=>?_)];cases r with
 | error e=>rwa[x9 hq]
 | ok fl =>
  cases fl with
  | ret u=>rwa[I1.after hq]
  | next=>rwa[x9 hq]
  | brk=>rwa[x9 hq]
  | cont=>rwa[x9 hq]
end
open PySem PySem.Spec PyProof.Rows PySem.W
def Sj(K:b7)(D:b9):Bool :=
 (findIn K (.ref D) "__getattribute__" == Io (Io (.builtin "BaseException.__getattribute__")))&&(findIn K (.ref D) "__getattr__" == Io Ip) &&
 (match findObj K D Ip "__class__" with | some (.bind g a)=>g == .builtin "getset_descriptor.__get__" && a == .builtin "object.__class__" | _=>Ir) &&
 (mroIn K D (.type "BaseException") == Io Iq)&&(mroIn K D (.type "object") == Io Iq)
def VG{K:b7}{D:b9}(h:Sj K D=Iq):nX K D:=by
 unfold Sj at h;simp only[p5] at h;obtain⟨⟨⟨⟨h1,h2⟩,h3⟩,h4⟩,h5⟩:=h;erw[eq_of_beq h1,eq_of_beq h2,?_,eq_of_beq h4,eq_of_beq h5];split at h3
 ·rename_i g a e
  rw[p5] at h3;rw[e,eq_of_beq h3.1,eq_of_beq h3.2]
 ·cases h3
def Uy(K:b7)(Ds:List b9):Bool:=Ds.all λD=>Sj K D&&(kitOne K (.ref D) (.type "ValueError") == Io Iq)&&Ds.all λc=>kitOne K (.ref D) (.ref c) == Io (D == c)
section
variable{K:b7}{Ds:List b9}{D c:b9}
def dE(h:Uy K Ds=Iq)(hD:D∈Ds):nX K D:=by
 have:=Ah.mp h D hD;simp only[p5] at this;rwa[VG this.1.1]
def YC(h:Uy K Ds=Iq)(hD:D∈Ds):kitOne K (.ref D) (.type "ValueError")=Io true:=by
 have:=Ah.mp h D hD;simp only[p5] at this;rwa[eq_of_beq this.1.2]
def YM(h:Uy K Ds=Iq)(hD:D∈Ds)(hc:c∈Ds):kitOne K (.ref D) (.ref c)=Io (D == c):=by
 have:=Ah.mp h D hD;simp only[p5] at this;rwa[eq_of_beq (Ah.mp this.2 c hc)]
end
end L2

namespace Sea
open PySem L2 PySem.Spec
open PyProof.Rows hiding St
mutual
def pd:Dt->PyData
 | .int i=>.int i
 | .str x=>.str x
 | .tup l=>.tuple (pds l)
def pds:List Dt->List PyData
 | []=>[]
 | d::l=>pd d::pds l
end
mutual
def shB:Dt->Nat
 | .int i=>i.natAbs.log2+3
 | .str x=>10*x.length+2
 | .tup l=>br l+4
def br:List Dt->Nat
 | []=>0
 | d::l=>shB d+2+br l
end
mutual
def okS:Dt->Prop
 | .int i=>i.natAbs.log2<1920
 | .str x=>∀ c∈x.cps.toList,c<16^8
 | .tup l=>mv l
def mv:List Dt->Prop
 | []=>True
 | d::l=>okS d/\mv l
end
def jq(ts:List g8):(tupleText ts).length<=piled ts+4:=by
 unfold tupleText;rw[strLen_append,strLen_append];have h1:("(" : g8).length=1:=rfl;have h2:(l5 (if ts.length == 1 then ",)" else ")")).length<=2:=by split <;> decide
 have h3:(Ed ", " ts).length<=piled ts:=by
  by_cases z:ts=[]
  ·subst z; decide
  ·have:=join_length_add ts z; lia
 lia
mutual
def dN:∀ d:Dt,okS d->(pd d).shown.length<=shB d
 | .int i,h=>by
  rw[okS] at h;rw[pd,shB,FX];have:=int_text_length_le (k:=i.natAbs.log2+1) (by lia) (Ea i.natAbs.log2);rw[<- Cd] at this;lia
 | .str x,h=>by
  rw[okS] at h;rw[pd,shB,FX];rwa[Fa x h]
 | .tup l,h=>by
  rw[okS] at h;rw[pd,shB,FX];have:=jq (Dl (pds l));have:=jX l h;lia
def jX:∀ l:List Dt,mv l->piled (Dl (pds l))<=br l
 | [],_=>by rw[pds,Dl,br]; decide
 | d::l,h=>by
  rw[mv] at h;rw[pds,Dl,br,piled_cons];have:=dN d h.1;have:=jX l h.2;lia
end
mutual
def eX:∀ d:Dt,okS d->(pd d).showable=Iq
 | .int i,h=>by rw[okS] at h; rw[pd,EL]; rwa[x3 h]
 | .str x,_=>by rw[pd,EL]
 | .tup l,h=>by rw[okS] at h; rw[pd,EL]; rwa[iX l h]
def iX:∀ l:List Dt,mv l->DK (pds l)=Iq
 | [],_=>by rw[pds,DK]
 | d::l,h=>by rw[mv] at h; rw[pds,DK,eX d h.1,iX l h.2]; rfl
end
mutual
def Za:∀ d:Dt,(pd d).hasDict=Ir
 | .int i=>by rw[pd,Fb]
 | .str x=>by rw[pd,Fb]
 | .tup l=>by rw[pd,Fb]; rwa[eL l]
def eL:∀ l:List Dt,D3 (pds l)=Ir
 | []=>by rw[pds,D3]
 | d::l=>by rw[pds,D3,Za d,eL l]; rfl
end
def oZ{n:Nat} : ∀ l:List Dt,(∀ d∈l,(pd d).depth<=n)->EM (pds l)<=n
 | [],_=>by rw[pds,EM]; rwa[t7 _]
 | d::l,h=>by
  rw[pds,EM];have:=h d (.head _);have:=oZ l λd hd=>h d (.tail _ hd);lia
def dY:∀(n:Nat)(d:Dt),lU n d->(pd d).depth<=n
 | n,.int i,_=>by rw[pd,FY]; rwa[t7 _]
 | n,.str x,_=>by rw[pd,FY]; rwa[t7 _]
 | 0,.tup _,h=>h.elim
 | n+1,.tup l,h=>by
  rw[pd,FY];have:=oZ (n:=n) l λd hd=>dY n d (h.2 d hd);lia
section
variable{X:Cx}{Is:List (b9×AM)}{σ:St}{H:Hp}{s:d3}
mutual
def eZ(I:Inv X Is σ H s):∀(d:Dt){v:V}{u:c7},Rep H d v->xF v u->∃ as,Reads s.heap u (pd d) as
 | .int i,v,u,h,r=>by
  rw[yB.mp h] at r;obtain⟨t,rfl⟩:=(show ∃ t,u=BF i t from r);rw[pd];rwa[_,.int i t]
 | .str x,v,u,h,r=>by
  rw[zW.mp h] at r;obtain⟨t,rfl⟩:=(show ∃ t,u=AO x t from r);rw[pd];rwa[_,.str x t]
 | .tup l,v,u,h,r=>by
  obtain⟨a,xs,rfl,ha,rs⟩:=yF.mp h;obtain rfl:u=i9 a:=r;obtain⟨its,rv,⟨o,h1,h2,n,h3⟩,hz⟩:=I.tuple (SqT.of ha);obtain⟨as,ra⟩:=gA I l rs rv;rw[pd];exact⟨_,.tuple h1 h2 h3 (by simpa using ra)⟩
def gA(I:Inv X Is σ H s):∀(l:List Dt){xs:List V}{us:List c7},xN H l xs->yO xs us->∃ as,ReadsAll s.heap us (pds l) as
 | [],xs,us,h,r=>by
  rw[zY.mp h] at r;cases r;rw[pds];rwa[_,.nil]
 | d::l,xs,us,h,r=>by
  obtain⟨x,xr,rfl,h1,h2⟩:=zL.mp h;cases r with
  | cons r1 r2 =>
   obtain⟨as,ra⟩:=eZ I d h1 r1;obtain⟨bs,rb⟩:=gA I l h2 r2;rw[pds];rwa[_,.cons ra rb]
end
end
section
variable{X:Cx}{e:w4}{es:List w4}{t:TJ}{te:TE}{pos p:Co}{n:Nat}
def UW(te:TE)(t:TJ):TJ:=λσ H K=>te σ H λv H1=>(∃ d,Rep H1 d v/\okS d/\lU 4 d/\shB d<=2000)/\t σ H1 K
def jW(hg:X.A.guards=Io [])(hu:X.A.units+64<cLine)(hv:PE X e te)(ht:PJ X es n t)(he:evalEach (.FormattedValue e (-1) Ip p::es) X.env=eval (.FormattedValue e (-1) Ip p) X.env::evalEach es X.env:=by rfl):PJ X (.FormattedValue e (-1) Ip p::es) (n+1) (UW te t):=by
 intro Is s σ H k acc Q C I h hk q z;rw[he];refine DJ (thn (hv Is s σ H _ I q) λu s1 ⟨v,H1,I1,r,⟨d,rd,ok,sh,hb⟩,q1⟩=>?_);have hl:=dN d ok;have fin:∀(y:g8)(s2:d3)(t':Ij),y.length<=2000->Inv X Is σ H1 s2->∃ y' t,AO y t'=.str y' t/\(acc++y').length<=sizeLine/\Joins (model X.prog X.w) X.A X.xe (evalEach es X.env) (acc++y') Q s2:=λy s2 t' hy I2 =>
  ⟨y,t',rfl,by rw[strLen_append]; show acc.length+y.length<=2^24; lia,ht Is s2 σ H1 (k+1) _ _ C I2 (by rw[strLen_append]; lia) (by lia) q1 z⟩
 match d,rd,ok,hl with
 | .int i,rd,ok,hl =>
  rw[yB.mp rd] at r;obtain⟨tk,rfl⟩:=(show ∃ t,u=BF i t from r);rw[okS] at ok;have l:=int_text_length_le (k:=1920) (by decide) ok;rw[<- Cd] at l;rwa[EU ok (fin _ _ _ (by lia) (I1.tok _))]
 | .str x,rd,ok,hl =>
  rw[zW.mp rd] at r;obtain⟨tk,rfl⟩:=(show ∃ t,u=AO x t from r);rw[shB] at hb;exact formatField_str (λt' tk'=>fin x _ t' (by lia) (I1.tok _)) (by show x.length<=2^24; lia)
 | .tup l,rd,ok,hl =>
  obtain⟨as,ra⟩:=eZ I1 _ rd r;obtain⟨a,xs,rfl,_⟩:=yF.mp rd;obtain rfl:u=i9 a:=r;have dl:=dY 4 _ sh;refine formatField_of_reads ra (eX _ ok) (λz=>by rw[Za] at z; cases z) hg (by lia) (λ_ _ e=>e) (λh' u tk hk=>?_) (by show _<=2^24; lia);rwa[fin _ _ _ (by lia) (I1.kept (t':=tk) hk)]
def TB(te:TE)(t:TJ):TJ:=λσ H K=>te σ H λv H1=>(∃ x:g8,v=.str x/\(∀ c∈x.cps.toList,c<16^8)/\x.length<=190)/\t σ H1 K
def fM(hv:PE X e te)(ht:PJ X es n t)(he:evalEach (.FormattedValue e 114 Ip p::es) X.env=eval (.FormattedValue e 114 Ip p) X.env::evalEach es X.env:=by rfl):PJ X (.FormattedValue e 114 Ip p::es) (n+1) (TB te t):=by
 intro Is s σ H k acc Q C I h hk q z;rw[he];erw[wpAny_FormattedValue_repr (thn (hv Is s σ H _ I q) λu s1 ⟨v,H1,I1,r,⟨x,ex,cx,lx⟩,q1⟩=>?_)];subst ex;obtain⟨tk,rfl⟩:=(show ∃ t,u=AO x t from r);have hl:=Fa x cx;refine wpAny_pyReprObj_str ?_ (by show _<=2^24; lia);refine formatField_str (λt' tk'=>?_) (by show _<=2^24; lia);exact⟨_,t',U,by rw[strLen_append]; show acc.length+_<=2^24; lia,ht Is _ σ H1 (k+1) _ _ C (I1.tok _) (by rw[strLen_append]; lia) (by lia) q1 z⟩
end
end Sea
namespace L2
section
variable{X:Cx}{x y:g8}{p pos:Co}{i e:w4}{es:List w4}{ty:TE}{t:TA}
structure XV(P:j9)(w:n9)(K:b7)(mg:g8->Option c7)(B:o0)(m:Nat)(kvs:List (Key×V))(k:Key)(sp:Sp):Prop where
 mk ::
 has:∃(x:g8)(f:b9)(n:Nat)(ps:List g8),wS kvs k=Io (.ref f)/\mg x=Io (.ref f)/\zt P w K mg B x n ps sp/\n<=m
def tTabX(tab:List (Key×Sp))(EE:St->XK)(ty:TE)(t:TA):TE:=λσ H Q=>ty σ H λy H1=>∃(k:Key)(sp:Sp),y=kV k/\(k,sp)∈tab/\t σ H1 λvs H2=>sp vs H2 Q (EE σ)
def VL(EE:St->XK){a:b9}{m:Nat}{kvs:List (Key×V)}{tab:List (Key×Sp)}{p':Co}(hb:Uv X.prog X.w X.base a kvs)(hm:X.mg x=Io (.ref a))(hT:∀ r∈tab,XV X.prog X.w X.K X.mg X.base m kvs r.1 r.2)(hx:gQ X EE)(hr:qH m X.A)(hi:PE X i ty)(ha:PA X (e::es) t)
  (hs:TV i:=by rwa[λ_ _=>rfl]) (hg:Gl X x:=by rfl) (hd:(x ==("__debug__" : g8))=false:=by decide)
  (he:starEach (e::es) X.env=(Ir,eval e X.env)::starEach es X.env:=by rfl) (hpl:(backTo pos (starEach es X.env)).any (·.1)=false:=by rfl)
  (hev:eval (.Call (.Subscript (.Name x p) i p') (e::es) [] pos) X.env=(do callWith pos (<- eval (.Subscript (.Name x p) i p') X.env) [] (backTo pos (starEach (e::es) X.env)) (backToKw pos (keywordEach [] X.env))):=by rfl) :
  PE X (.Call (.Subscript (.Name x p) i p') (e::es) [] pos) (tTabX tab EE ty t):=by
 intro Is s σ H Q I h;erw[Call_ (gM Cs.lookup hs (sR I hg hm (thn (hi Is s σ H _ I h) λiv s2 ⟨y,H2,I2,ry,k,sp,ey,mem,q2⟩=>?_) hd)) hev];subst ey;obtain⟨x',f,n,ps,l,mx,⟨f',fd,F,b,kp,mx'⟩,hn⟩:=(hT _ mem).has;rw[mx] at mx';cases mx';erw[XM hb I2 l ry λw' s3 I3 rw'=>?_];cases rw';erw[Bx (h₀:=X.base) I.ok.mod.kin kp (thn (ha pos Is s3 σ H2 _ I3 q2) λus s4 ⟨vs,H4,I4,r,q4⟩=>⟨I4.kIn,?_⟩) he hpl];rwa[ko F (hr.mono hn) b hx I4 r q4]
end
section
variable{X:Cx}
def Xi:OpR X (compareOp .In) (λx y H Q=>∃ i j:g8,x=.str i/\y=.str j/\Q (.bl !(Ei j i 0 j.length 1).isEmpty) H):=by
 intro Is s σ H x y v u Q I rx ry h;obtain⟨i,j,rfl,rfl,q⟩:=h;obtain⟨t,rfl⟩:=rx;obtain⟨t',rfl⟩:=ry;rwa[PySem.P.in_str (yW I q rfl)]
def UN:∀ c<128,(!(Ei ("abcdefghijklmnopqrstuvwxyz" : g8) ⟨#[c]⟩ 0 ("abcdefghijklmnopqrstuvwxyz" : g8).length 1).isEmpty)=decide (97<=c/\c<=122):=by ac_nf
end
end L2

namespace Sea
inductive Cl where
 | badName | taken | badPlace | full | noMark | same | needed | badBank | noBank | badRun | noRun | noMoment | badWay | badTurn | noNote
 deriving DecidableEq
open Classical in
noncomputable def zS(S:BS):Deed->Option Cl
 | .mark n x y=>if ¬ wM n then Io .badName else if (zQ S n).isSome=Iq then Io .taken else if ¬ qi (x,y) then Io .badPlace else if 20<=S.marks.length then Io .full else Ip
 | .move n x y=>if zQ S n=Ip then Io .noMark else if ¬ qi (x,y) then Io .badPlace else if ∀ e∈S.notes,rm (aft S (.move n x y)) e.2 then Ip else Io .same
 | .unmark n=>if zQ S n=Ip then Io .noMark else if ∀ e∈S.notes,rX n e.2 then Ip else Io .needed
 | .bank n cs=>if ¬ wM n then Io .badName else if n∈S.banks.map (·.1) then Io .taken else if ¬ ∀ c∈cs,qi c then Io .badPlace else if im cs=Ir then Io .badBank else if 8<=S.banks.length then Io .full else Ip
 | .level n=>if n∈S.banks.map (·.1) then Ip else Io .noBank
 | .sail x y=>if ¬ qi (x,y) then Io .badRun else if 12<=S.runs.length then Io .full else Ip
 | .right k x y=>if 0<=k/\k<S.runs.length then(if qi (x,y) then Ip else Io .badRun) else Io .noRun
 | .bearing m n a b c d=>if ¬ (0<=m/\m<=S.runs.length) then Io .noMoment else if zQ S n=Ip then Io .noMark else if ¬ ud (a,b) then Io .badWay else if ¬ ud (c,d) then Io .badWay else if a*d-b*c<=0 then Io .badTurn else if 24<=S.notes.length then Io .full else Ip
 | .range m l r=>if ¬ (0<=m/\m<=S.runs.length) then Io .noMoment else if zQ S l=Ip then Io .noMark else if zQ S r=Ip then Io .noMark else if zQ S l=zQ S r then Io .same else if 24<=S.notes.length then Io .full else Ip
 | .strike k=>if k∈S.notes.map (·.1) then Ip else Io .noNote
def xj{α:Type}{o:Option α}(h:¬ o=Ip):o.isSome=true:=by cases o <;> simp at h ⊢
def dB{S:BS}{D:Deed}(h:zS S D=Ip):okD S D:=by
 cases D with
 | mark n x y =>
  simp only[zS] at h;split at h; · cases h
  split at h; · cases h
  split at h; · cases h
  split at h; · cases h
  rename_i h1 h2 h3 h4
  exact⟨e9.mp h1,by cases e:zQ S n <;> simp[e] at h2 ⊢,e9.mp h3,by lia⟩
 | move n x y =>
  simp only[zS] at h;split at h; · cases h
  split at h; · cases h
  split at h
  ·rename_i h1 h2 h3; rwa[xj h1,e9.mp h2,h3]
  ·cases h
 | unmark n =>
  simp only[zS] at h;split at h; · cases h
  split at h
  ·rename_i h1 h2; rwa[xj h1,h2]
  ·cases h
 | bank n cs =>
  simp only[zS] at h;split at h; · cases h
  split at h; · cases h
  split at h; · cases h
  split at h; · cases h
  split at h; · cases h
  rename_i h1 h2 h3 h4 h5
  exact⟨e9.mp h1,h2,e9.mp h3,by cases e:im cs <;> simp[e] at h4 ⊢,by lia⟩
 | level n =>
  simp only[zS] at h;split at h
  ·rename_i h1; rwa[h1]
  ·cases h
 | sail x y =>
  simp only[zS] at h;split at h; · cases h
  split at h; · cases h
  rename_i h1 h2
  rwa[e9.mp h1,by lia]
 | right k x y =>
  simp only[zS] at h;split at h
  ·split at h
   ·rename_i h1 h2; rwa[h1.1,h1.2,h2]
   ·cases h
  ·cases h
 | bearing m n a b c d =>
  simp only[zS] at h;split at h; · cases h
  split at h; · cases h
  split at h; · cases h
  split at h; · cases h
  split at h; · cases h
  split at h; · cases h
  rename_i h1 h2 h3 h4 h5 h6
  have h1:=e9.mp h1;rwa[h1.1,h1.2,xj h2,e9.mp h3,e9.mp h4,by lia,by lia]
 | range m l r =>
  simp only[zS] at h;split at h; · cases h
  split at h; · cases h
  split at h; · cases h
  split at h; · cases h
  split at h; · cases h
  rename_i h1 h2 h3 h4 h5
  have h1:=e9.mp h1;rwa[h1.1,h1.2,xj h2,xj h3,h4,by lia]
 | strike k =>
  simp only[zS] at h;split at h
  ·rename_i h1; rwa[h1]
  ·cases h
def eI(ok:Prop)(Q:VK)(E:XK)(c:b9)(H:Hp):Prop:=(ok/\∀ H',Same H H'->Q .non H')\/(¬ ok/\∀ H',Same H H'->E (.ref c) Ip H')
section
variable{ok:Prop}{Q:VK}{E:XK}{c:b9}{H H':Hp}
def eI.yes(h:eI ok Q E c H)(o:ok)(s:Same H H'):Q .non H':=by
 rcases h with ⟨_,h⟩ | ⟨n,_⟩
 ·rwa[h H' s]
 ·rwa[x5 o n]
def eI.no(h:eI ok Q E c H)(o:¬ ok)(s:Same H H'):E (.ref c) Ip H':=by
 rcases h with ⟨y,_⟩ | ⟨_,h⟩
 ·rwa[x5 y o]
 ·rwa[h H' s]
def eI.of(h1:ok->∀ H',Same H H'->Q .non H')(h2:¬ ok->∀ H',Same H H'->E (.ref c) Ip H'):eI ok Q E c H:=by
 by_cases o:ok
 ·rwa[.inl ⟨o,h1 o⟩]
 ·rwa[.inr ⟨o,h2 o⟩]
end
def oN(x:g8):Prop:=(∀ c∈x.cps.toList,c<128)/\x.length<=50
def oN.big{x:g8}(h:oN x):∀ c∈x.cps.toList,c<16^8:=λc hc=>Bf (h.1 c hc) (by decide)
def wM.asc{x:g8}(h:wM x):oN x:=⟨λc hc=>by have:=h.2.2 c hc; lia,by have:=h.2.1; lia⟩
def zf(i:Int):Prop:=i.natAbs.log2<200
def oz{p:Int×Int}(h1:zf p.1)(h2:zf p.2):okS (ptD p)/\lU 4 (ptD p)/\shB (ptD p)<=2000:=by
 unfold zf at h1 h2;refine⟨?_,ug (by show 2<=900; decide) (dt2 (by show _<1920; lia) (by show _<1920; lia)),?_⟩
 ·unfold ptD;rw[okS,mv,mv,mv,okS,okS];rwa[by lia,by lia,trivial]
 ·unfold ptD;rw[shB,br,br,br,shB,shB];lia
def ph:Deed->Prop
 | .mark n x y=>oN n/\zf x/\zf y
 | .move n x y=>oN n/\zf x/\zf y
 | .unmark n=>oN n
 | .bank n cs=>oN n/\cs.length<=12/\∀ c∈cs,c.1.natAbs.log2<20/\c.2.natAbs.log2<20
 | .level n=>oN n
 | .sail x y=>zf x/\zf y
 | .right k x y=>zf k/\zf x/\zf y
 | .bearing m n a b c d=>zf m/\oN n/\zf a/\zf b/\zf c/\zf d
 | .range m l r=>zf m/\oN l/\oN r
 | .strike k=>zf k
def ig{m:Int}{n:g8}{a b c d:Int}(h:ph (.bearing m n a b c d)):okS (Deed.bearing m n a b c d).dt/\lU 4 (Deed.bearing m n a b c d).dt/\shB (Deed.bearing m n a b c d).dt<=2000:=by
 obtain⟨h1,h2,h3,h4,h5,h6⟩:=h;obtain⟨s1,s2,_⟩:=oz (p:=(a,b)) h3 h4;obtain⟨s4,s5,_⟩:=oz (p:=(c,d)) h5 h6;unfold zf at h1 h3 h4 h5 h6;have l7:(l5 "bearing").length=7:=rfl;erw[?_,?_,?_]
 ·unfold Deed.dt;rw[okS,mv,mv,mv,mv,mv,mv,okS,okS,okS];rwa[by decide,by lia,h2.big,s1,s4,trivial]
 ·unfold Deed.dt;erw[ug (g7 rfl) λe he=>?_];rcases i7.mp he with rfl | he
  ·rwa[YX (by decide)]
  ·have p3:∀{p:Int×Int},p.1.natAbs.log2<200->p.2.natAbs.log2<200->lU 3 (ptD p):=λ{p} h1 h2=>ug (n:=2) (by show 2<=900; decide) (dt2 (by show _<1920; lia) (by show _<1920; lia));exact dt4 (P:=lU 3) (by show _<1920; lia) (by show _<=1921; have:=h2.2; lia) (p3 h3 h4) (p3 h5 h6) e he
 ·unfold Deed.dt ptD;simp only[shB,br];have:=h2.2;lia
def iH{cs:List (Int×Int)}(hl:cs.length<=12)(h:∀ c∈cs,c.1.natAbs.log2<20/\c.2.natAbs.log2<20):okS (.tup (cs.map ptD))/\lU 4 (.tup (cs.map ptD))/\shB (.tup (cs.map ptD))<=2000:=by
 have k1:∀ l:List (Int×Int),(∀ c∈l,c.1.natAbs.log2<20/\c.2.natAbs.log2<20)->mv (l.map ptD)/\br (l.map ptD)<=l.length*60:=by
  intro l
  induction l with
  | nil=>intro _; rw[CT,mv,br]; rwa[trivial,t7 _]
  | cons c l ih =>
   intro h;obtain⟨i1,i2⟩:=ih λc hc=>h c (.tail _ hc);obtain⟨c1,c2⟩:=h c (.head _);have e1:okS (ptD c):=by
    unfold ptD;rw[okS,mv,mv,mv,okS,okS];rwa[by lia,by lia,trivial]
   have e2:shB (ptD c)<=58:=by
    unfold ptD;simp only[shB,br];lia
   rw[l9,mv,br,m9];rwa[⟨e1,i1⟩,by lia]
 obtain⟨g1,g2⟩:=k1 cs h;erw[by rw[okS]; exact g1,ug (by rw[a7]; lia) λd hd=>?_,by rw[shB]; lia];obtain⟨c,hc,rfl⟩:=i4.mp hd;obtain⟨c1,c2⟩:=h c hc;exact ug (n:=2) (by show 2<=900; decide) (dt2 (by show _<1920; lia) (by show _<1920; lia))
structure gG(S:BS):Prop where
 mk ::
 good:Us S
 names:∀ e∈S.marks,wM e.1
def gG.nil:gG BS.nil:=⟨YN,λe he=>(nomatch he)⟩
def gG.mark{S:BS}{n:g8}(h:gG S)(k:(zQ S n).isSome=Iq):wM n:=by
 obtain⟨p,e⟩:=k9.mp k;rwa[h.names _ (mG e)]
def gG.aft{S:BS}{D:Deed}(h:gG S)(ok:okD S D):gG (aft S D):=by
 exists Xn h.good ok
 match D,ok with
 | .mark n x y,ok =>
  intro e he;rcases m7.mp he with z | z
  ·rwa[h.names e z]
  ·rw[d8.mp z]; rwa[ok.1]
 | .move n x y,ok =>
  intro e he;obtain⟨e',h1,rfl⟩:=i4.mp he;have:=h.names e' h1;split <;> rwa[this]
 | .unmark n,ok=>rwa[λe he=>h.names e (BG.mp he).1]
 | .bank n cs,ok=>rwa[h.names]
 | .level n,ok=>rwa[h.names]
 | .sail x y,ok=>rwa[h.names]
 | .right j x y,ok=>rwa[h.names]
 | .bearing m n a b c d,ok=>rwa[h.names]
 | .range m l r,ok=>rwa[h.names]
 | .strike j,ok=>rwa[h.names]
def oA(ax:Cl->b9)(φ:Deed->Prop):Sp:=λvs H Q E=>∃(d:b9)(v:V)(S:BS)(D:Deed),vs=[.ref d,v]/\φ D/\fv H d S/\Rep H D.dt v/\ph D/\gG S /\
 (zS S D=Ip->∀(d':b9)(H':Hp),Sam H H'->H d'=Ip->fv H' d' (aft S D)->Q (.ref d') H')/\∀ c,zS S D=Io c->∀ H',Sam H H'->E (.ref (ax c)) Ip H'
section
variable{H:Hp}{S:BS}{kvs:List (Key×V)}
def ai{n:g8}(h:xU H kvs (mkE S.marks)):wS kvs (.inr n)=Ip↔zQ S n=none:=by
 have e:=h.isSome (k:=.inr n);rw[uB,Av] at e;cases h1:wS kvs (.inr n) <;> cases h2:zQ S n <;> simp[h1,h2] at e ⊢
def tf{n:g8}(h:xU H kvs (bkE S.banks)):wS kvs (.inr n)=Ip↔n ∉ S.banks.map (·.1):=by
 by_cases z:n∈S.banks.map (·.1)
 ·obtain⟨dv,lk⟩:=Ww (l:=S.banks) z;obtain⟨v,ev,_⟩:=h.get lk;simp[ev,z]
 ·simp[h.none (pN (lL z)),z]
def fg{k:Int}(h:xU H kvs (ntE S.notes)):wS kvs (.inl k)=Ip↔k ∉ S.notes.map (·.1):=by
 by_cases z:k∈S.notes.map (·.1)
 ·obtain⟨dv,lk⟩:=dU (l:=S.notes) z;obtain⟨v,ev,_⟩:=h.get lk;simp[ev,z]
 ·erw[λ_=>z,λ_=>h.none (pN λe he y=>z ?_)];unfold ntE at he;obtain⟨q,hq,rfl⟩:=i4.mp he;have y:(BU q.1:Key)=BU k:=y;injection y with y
  rwa[i4.mpr ⟨q,hq,y⟩]
def Zk{k:Int}(h:xU H kvs (rnE S.runs)):wS kvs (.inl k)=Ip↔¬ (0<=k/\k<S.runs.length):=by
 by_cases z:0<=k/\k<S.runs.length
 ·obtain⟨i,rfl⟩:=AI z.1;have hi:i<S.runs.length:=by lia
  have lk:=kC (k:=0) (d4 hi);rw[Ev] at lk;obtain⟨v,ev,_⟩:=h.get lk;exact⟨(λy=>by rw[ev] at y; cases y),λy=>x5 z y⟩
 ·erw[λ_=>z,λ_=>h.none (pN λe he y=>z ?_)];unfold rnE at he;obtain⟨⟨q1,q2⟩,hq,rfl⟩:=i4.mp he;have y:(BU (q2:Int):Key)=BU k:=y;injection y with y
  have:=DO hq;simp at this;lia
end
structure nY(H:Hp)(ts:List b9)(ws:List (g8×Bool)):Prop where
 mk ::
 len:ts.length=ws.length
 at_:∀(j:Nat)(t:b9)(w:g8×Bool),ts[j]?=Io t->ws[j]?=Io w->H t=Io (.tup [.str w.1,.bl w.2])
def nY.nil{H:Hp} : nY H [] []:=⟨rfl,λj t w h=>by simp at h⟩
def nY.to{H H':Hp}{ts:List b9}{ws:List (g8×Bool)}(h:nY H ts ws)(s:Same H H'):nY H' ts ws:=⟨h.len,λj t w a b=>s _ _ (h.at_ j t w a b)⟩
def xZ{B:o0}{Ds:List b9}{D C:b9}(h:InB B λK=>Uy K Ds=Iq)(hD:D∈Ds)(hC:C∈Ds):InB B λK=>AS K (.ref D) (.ref C)=Io (D == C)/\nX K D:=by
 obtain⟨K,KB,h⟩:=h;rwa[K,KB,YM h hD hC,dE h hD]
def WV{B:o0}{Ds:List b9}{D:b9}(h:InB B λK=>Uy K Ds=Iq)(hD:D∈Ds):InB B λK=>AS K (.ref D) (.type "ValueError")=Io Iq/\nX K D:=by
 obtain⟨K,KB,h⟩:=h;rwa[K,KB,YC h hD,dE h hD]
def fJ:Cl->g8
 | .badName => "BadName"
 | .taken => "Taken"
 | .badPlace => "BadPlace"
 | .full => "Full"
 | .noMark => "NoMark"
 | .same => "Same"
 | .needed => "Needed"
 | .badBank => "BadBank"
 | .noBank => "NoBank"
 | .badRun => "BadRun"
 | .noRun => "NoRun"
 | .noMoment => "NoMoment"
 | .badWay => "BadWay"
 | .badTurn => "BadTurn"
 | .noNote => "NoNote"
def oq:Option Cl->g8
 | none => ""
 | some c=>fJ c
def fh(S:BS)(D:Deed):V:=if S.coming=(aft S D).coming then .non else .int S.coming
end Sea

namespace PySem.W
open PySem PySem.Calls PyProof.Rows
def KasT.run{α:Type}(f:Nat->Nat->Bool):GT α->α
 | .ret a=>a
 | .ask i j k=>(k (f i j)).run f
def KasT.Okay{α:Type}(n:Nat)(Q:α->Prop):GT α->Prop
 | .ret a=>Q a
 | .ask i j k=>i<n/\j<n/\i≠j/\∀ b,(k b).Okay n Q
section
variable{α β:Type}{n:Nat}{f:Nat->Nat->Bool}{cmp:Nat->Nat->(Bool->d3->Prop)->d3->Prop}{s:d3}
def KasT.Okay.bind{g:α->GT β}{Q:β->Prop} : ∀{t:GT α},t.Okay n (λa=>(g a).Okay n Q)->(t.bind g).Okay n Q
 | .ret _,h=>h
 | .ask _ _ _,⟨h1,h2,h3,h4⟩=>⟨h1,h2,h3,λb=>KasT.Okay.bind (h4 b)⟩
def KasT.Okay.end{Q:α->Prop} : ∀{t:GT α},t.Okay n Q->Q (t.run f)
 | .ret _,h=>h
 | .ask i j k,⟨_,_,_,h4⟩=>show Q ((k (f i j)).run f) from KasT.Okay.end (h4 (f i j))
def KasT.Okay.wp{Q:α->Prop}{R:α->d3->Prop}(hc:∀ i j,i<n->j<n->i≠j->∀ C:Bool->d3->Prop,C (f i j) s->cmp i j C s):∀{t:GT α},t.Okay n Q->R (t.run f) s->t.kasWp cmp R s
 | .ret _,_,h=>h
 | .ask i j k,⟨h1,h2,h3,h4⟩,h=>hc i j h1 h2 h3 _ (KasT.Okay.wp hc (h4 (f i j)) h)
def IsP(n:Nat)(p:Array Nat):Prop:=p.toList.Perm (Aj n)
variable{p:Array Nat}
def IsP.size(h:IsP n p):p.size=n:=by have:=h.length_eq; rw[Bm,Ak] at this; rwa[this]
def IsP.lt(h:IsP n p){i:Nat}(hi:i<n):p.getD i 0<n:=by
 have hs:=h.size;have:p[i]'(by lia)∈p.toList:=by simp
 rw[GU,dif_pos (by lia)];rwa[Az.mp (h.mem_iff.mp this)]
def IsP.ne(h:IsP n p){i j:Nat}(hi:i<n)(hj:j<n)(ne:i≠j):p.getD i 0≠p.getD j 0:=λz=>by
 have hs:=h.size;have nd:p.toList.Nodup:=h.nodup_iff.mpr Gn;rw[GU,dif_pos (by lia),GU,dif_pos (by lia)] at z;refine ne ((D9 (xs:=p.toList) (h₀:=by simpa using (by lia:i<p.size)) (h₁:=by simpa using (by lia:j<p.size)) nd).mp ?_);simpa using z
def IsP.of(h:IsP n p){q:Array Nat}(e:q.Perm p):IsP n q:=(Array.perm_iff_toList_perm.mp e).trans h
def IsP.rev(h:IsP n p)(i j:Nat):IsP n (kas_rev p i j):=h.of (mirror_perm _ _ _ _)
def IsP.ask(h:IsP n p){i j:Nat}(hi:i<n)(hj:j<n)(ne:i≠j){k:Bool->GT α}{Q:α->Prop}(hk:∀ b,(k b).Okay n Q):(KasT.ask (p.getD i 0) (p.getD j 0) k).Okay n Q:=⟨h.lt hi,h.lt hj,h.ne hi hj ne,hk⟩
def ZI(h:IsP n p){Q:Nat->Prop} : ∀(f m:Nat),1<=m->m+f<=n->(∀ m',m<=m'->m'<=m+f->Q m')->(kas_asc p f m).Okay n Q
 | 0,m,_,_,q=>q m (d6 _) (d6 _)
 | f+1,m,h1,h2,q=>h.ask (by lia) (by lia) (by lia) λb=>by
  cases b
  ·rwa[ZI h f (m+1) (by lia) (by lia) λm' a b=>q m' (by lia) (by lia)]
  ·rwa[q m (d6 _) (by lia)]
def ke{Q:Array Nat×Nat×Nat->Prop} : ∀(f:Nat)(p:Array Nat)(m r:Nat),IsP n p->1<=m->m+f<=n->(∀ p' m' r',IsP n p'->m<=m'->m'<=m+f->Q (p',m',r'))->(kas_desc f p m r).Okay n Q
 | 0,p,m,r,h,_,_,q=>q p m r h (d6 _) (d6 _)
 | f+1,p,m,r,h,h1,h2,q=>h.ask (by lia) (by lia) (by lia) λb=>by
  have q':∀ p' m' r',IsP n p'->m+1<=m'->m'<=m+1+f->Q (p',m',r'):=λp' m' r' a b c=>q p' m' r' a (by lia) (by lia);cases b
  ·exact h.ask (by lia) (by lia) (by lia) λd=>by
    cases d
    ·rwa[ke f p (m+1) _ h (by lia) (by lia) q']
    ·rwa[q p m r h (d6 _) (by lia)]
  ·show(if r>0 then _ else _:GT _).Okay n Q;split
   ·rwa[ke f _ (m+1) _ (h.rev _ _) (by lia) (by lia) q']
   ·rwa[ke f p (m+1) _ h (by lia) (by lia) q']
def dk(h:IsP n p){Q:Nat×Array Nat->Prop}{m:Nat}(h1:1<=m)(h2:m<=n)(q:∀ m' p',IsP n p'->Q (m',p')):(kas_tail3 m n p).Okay n Q :=
 .bind (ZI (h.rev _ _) _ _ h1 (by lia) λm' _ _=>q m' _ (h.rev _ _))
def Zx(h:IsP n p){Q:Nat×Array Nat->Prop}{m:Nat}(h1:1<=m)(h2:m+1<=n)(q:∀ m' p',IsP n p'->Q (m',p')):(kas_descPart m n p).Okay n Q:=by
 erw[.bind (ke _ _ _ _ h (by lia) (by lia) λp' m' r' a b c=>?_)];show(if r'>0 then _ else _:GT _).Okay n Q;split
 ·rwa[dk (m:=m') (a.rev _ _) (by lia) (by lia) q]
 ·rwa[dk (m:=m') a (by lia) (by lia) q]
def XC(h:IsP n p)(hn:2<=n){Q:Nat×Array Nat->Prop}(q:∀ m' p',IsP n p'->Q (m',p')):(kas_count n p).Okay n Q:=by
 erw[.bind (ZI h _ _ (d6 _) (by lia) λm' a b=>?_)];show(if (m' == n)=Iq then _ else if m'>1 then _ else _:GT _).Okay n Q;split
 ·rwa[q _ _ h]
 ·rename_i z
  have z:m'≠n:=λe=>z (by simp[e]);split
  ·exact h.ask (by lia) (by lia) (by lia) λb=>by
    cases b
    ·rwa[Zx (h.rev _ _) (by lia) (by lia) q]
    ·rwa[q _ _ h]
  ·rwa[Zx h (by lia) (by lia) q]
def kz(h:IsP n p){k:Nat}(hk:k<n){Q:Nat->Prop}(q:∀ l,Q l):∀(f l r:Nat),r<=k->(kas_place p k f l r).Okay n Q
 | 0,l,r,_=>q l
 | f+1,l,r,hr=>by
  show(if l >= r then _ else _:GT _).Okay n Q;split
  ·rwa[q l]
  ·rename_i z
   exact h.ask hk (by lia) (by lia) λb=>by
    cases b
    ·rwa[kz h hk q f _ _ hr]
    ·rwa[kz h hk q f _ _ (by lia)]
def Wm{Q:Array Nat->Prop}(q:∀ p,IsP n p->Q p):∀(f:Nat)(p:Array Nat)(k:Nat),IsP n p->k+f<=n->(kas_bin f p k).Okay n Q
 | 0,p,_,h,_=>q p h
 | f+1,p,k,h,hk=>.bind (kz h (by lia) (λl=>Wm q f _ _ (h.of (bubble_perm _ _ _)) (by lia)) _ _ _ (d6 _))
def aO(hn:2<=n):(kas_sort n).Okay n (IsP n):=by
 refine .bind (XC (show IsP n (f7 (Aj n)) from .refl _) hn λm' p' h=>?_);show(if m'<n then _ else _:GT _).Okay n (IsP n);split
 ·rwa[Wm (λp h=>h) _ _ _ h (by lia)]
 ·rwa[h]
def be(n:Nat)(f:Nat->Nat->Bool):List Nat:=if n<2 then Aj n else((kas_sort n).run f).toList
def oy(n:Nat)(f:Nat->Nat->Bool):(be n f).Perm (Aj n):=by
 unfold be;split
 ·rwa[.refl _]
 ·exact(aO (by lia)).end
end
end PySem.W
namespace L2
open PySem PySem.Spec PyProof.Rows PySem.W
section
variable{prog:j9}{w:n9}{A:Ac}{E:c7->d3->Prop}{s:d3}
def qr{f:Nat->Nat->Bool}{a:b9}{vs:List c7}{n:Nat}{P:PySem.Fin->d3->Prop}(ho:s.heap.get? a=Io (seqObj "list" vs.toArray n))(h64:vs.length<64)
  (hk:∀ h':o0,(∀ b o,b≠a->s.heap.get? b=Io o->h'.get? b=Io o)->2<=vs.length->∃ κ:FZ,(∀ Q:FZ->d3->Prop,Q κ { s with heap:=h' }->wpAny (model prog w) A (keyKind' vs.toArray) Q E { s with heap:=h' }) /\
   ∀ i j,i<vs.length->j<vs.length->i≠j->∀ C:Bool->d3->Prop,C (f i j) { s with heap:=h' }->kas_ask prog w A κ vs i j C { s with heap:=h' })
  (h:∀(h':o0)(c:Nat),(∀ b o,b≠a->s.heap.get? b=Io o->h'.get? b=Io o)->h'.get? a=Io (seqObj "list" ((be vs.length f).map λi=>vs.getD i r9).toArray c)->P (.done (.ret .none)) { s with heap:=h' }) :
  wpAny (model prog w) A (Cn.«list.sort» ⟨[.ref a],[]⟩) P E s:=by
 have ha:a<s.heap.objs.size:=f9 ho;obtain⟨e1,ho1⟩:∃ e1,(s.heap.update a (Al λ_=>(#[]:Array c7))).get? a=Io (seqObj "list" #[] e1):=⟨_,get?_update_seq ho λ_=>#[]⟩;rw[list_sort_plain];refine ac (listItems_at ho rfl ?_);refine ac (listUpdate_at ho rfl ?_ (by rw[i0,sizeLine_eq]; lia) (t7 _));refine ac (seqEpoch_at ho1 rfl ?_);refine ac (wpAny_newTuple ?_ (by show vs.length<=_; rw[sizeLine_eq]; lia));refine ac (Fp ?_ (t7 _));refine Aw ?_;have ho6:(((s.heap.update a (Al λ_=>#[])).push (seqObj "tuple" vs.toArray 0)).push (seqObj "list" #[] 0)).get? a=Io (seqObj "list" #[] e1):=c9 _ (c9 _ ho1);have kp:∀ b o,b≠a->s.heap.get? b=Io o->(((s.heap.update a (Al λ_=>#[])).push (seqObj "tuple" vs.toArray 0)).push (seqObj "list" #[] 0)).get? b=Io o:=λb o hb e =>
  c9 _ (c9 _ ((o8 _ _ (AJ hb)).trans e))
 obtain⟨out,eo⟩:∃ out,out=(be vs.length f).map λi=>vs.getD i r9:=⟨_,rfl⟩;have lo:out.length=vs.length:=by rw[eo,a7,(oy vs.length f).length_eq,Bm]
 rw[<- eo] at h;have fin:∀ c,(((((s.heap.update a (Al λ_=>#[])).push (seqObj "tuple" vs.toArray 0)).push (seqObj "list" #[] 0)).update a (Al λ_=>out.toArray))).get? a=Io (seqObj "list" out.toArray c)->P (.done (.ret .none)) { s with heap:=((((s.heap.update a (Al λ_=>#[])).push (seqObj "tuple" vs.toArray 0)).push (seqObj "list" #[] 0)).update a (Al λ_=>out.toArray)) }:=λc e =>
  h _ c (λb o hb q=>(o8 _ _ (AJ hb)).trans (kp b o hb q)) e
 obtain⟨c2,hc2⟩:∃ c2,(((((s.heap.update a (Al λ_=>#[])).push (seqObj "tuple" vs.toArray 0)).push (seqObj "list" #[] 0)).update a (Al λ_=>out.toArray))).get? a=Io (seqObj "list" out.toArray c2):=⟨_,get?_update_seq ho6 λ_=>out.toArray⟩;have done:=fin c2 hc2;show wpAny (model prog w) A _ P E { s with heap:=((s.heap.update a (Al λ_=>#[])).push (seqObj "tuple" vs.toArray 0)).push (seqObj "list" #[] 0) };dsimp only;have hsz:vs.toArray.size=vs.length:=by simp
 by_cases h2:vs.toArray.size<2
 ·rw[y9 h2,y9 h2];refine ac (d7 ?_);rw[StateT.run_pure];refine ac (d7 ?_);dsimp only;have ev:out=vs:=by
   rw[eo];unfold be;rw[y9 (by lia)];erw[Eg (by simp) λi h1 h3=>?_];simp at h1;simp[h1]
  have em:(vs.toArray.zip vs.toArray).map (·.2)=out.toArray:=by
   rw[ev];apply Array.toList_inj.mp;simp;rwa[Go (d6 _)]
  erw[ac (seqEpoch_at ho6 rfl ?_)];refine ac (listUpdate_at ho6 rfl ?_ (hsz2:=by rw[Array.size_map]; show(pairsOf vs).size<=_; rw[pairsOf_size,sizeLine_eq]; lia));simp only[bne_self_eq_false,AX,if_false];erw[d7 ?_];show P _ { s with heap:=Heap.update _ a (Al λ_=>(vs.toArray.zip vs.toArray).map (·.2)) };rw[em];rwa[done]
 ·rw[y7 h2,y7 h2];have h2':2<=vs.length:=by lia
  obtain⟨κ,hκ,hlt⟩:=hk _ kp h2';refine ac (hκ _ ?_);refine ac (Ba (kat_run (s:={ s with heap:=((s.heap.update a (Al λ_=>#[])).push (seqObj "tuple" vs.toArray 0)).push (seqObj "list" #[] 0) }) (κ:=κ) (ks:=vs) (vs:=vs)
   (G:=λp s'=>p=(kas_sort vs.length).run f/\s'={ s with heap:=((s.heap.update a (Al λ_=>#[])).push (seqObj "tuple" vs.toArray 0)).push (seqObj "list" #[] 0) })
   (Q:=λst' s'=>(arrOf st').map (·.2)=out.toArray/\failedOf st'=Ip/\s'={ s with heap:=((s.heap.update a (Al λ_=>#[])).push (seqObj "tuple" vs.toArray 0)).push (seqObj "list" #[] 0) })
   rfl h2' h64 (λp' st' s' a1 a2 a3 ⟨a4,a5⟩=>⟨?_,a3,a5⟩) ((aO h2').wp hlt ⟨rfl,rfl⟩)) ?_ λ_ _ e=>e)
  ·rw[kat_snds rfl a2,a4,eo];unfold be;rw[y7 (by lia)]
  rintro⟨⟨⟩,st'⟩ s' ⟨hp,hf,rfl⟩;dsimp only;erw[ac (seqEpoch_at ho6 rfl ?_)];erw[ac (listUpdate_at ho6 rfl ?_ (hsz2:=by rw[hp,i0,lo,sizeLine_eq]; lia))];rw[hf,hp];simp only[bne_self_eq_false,AX,if_false];rwa[d7 done]
end
def ltK:Key->Key->Bool
 | .inl a,.inl b=>decide (a<b)
 | .inr a,.inr b=>decide (a.cps.toList<b.cps.toList)
 | _,_=>Ir
def tU(ks:List Key):List Nat:=be ks.length λi j=>ltK (ks.getD i (.inl 0)) (ks.getD j (.inl 0))
def vX{α:Type}(o:List Nat)(l:List α):List α:=o.filterMap λi=>l[i]?
def uj{α β:Type}(o:List Nat)(g:α->β)(l:List α):vX o (l.map g)=(vX o l).map g:=by
 unfold vX;rw[List.map_filterMap]
 congr 1
 funext i
 rw[e7]
def yn{α:Type}{d:α}{l:List α} : ∀{o:List Nat},(∀ i∈o,i<l.length)->o.map (λi=>l.getD i d)=vX o l
 | [],_=>rfl
 | i::o,h=>by
  have hi:=h i (.head _);have e:l[i]?=Io l[i]:=d4 hi;unfold vX;rw[l9,AD e,yn λj hj=>h j (.tail _ hj),w9,e];rfl
def ut{α:Type}{l:List α}{o:List Nat}(h:∀ i∈o,i<l.length):(vX o l).length=o.length:=by
 cases l with
 | nil=>cases o with
  | nil=>rfl
  | cons i o=>rwa[x5 (h i (.head _)) (Dk _)]
 | cons x l=>rw[<- yn (d:=x) h,a7]
def xi{ks:List Key} : ∀ i∈tU ks,i<ks.length:=λi hi=>Az.mp ((oy _ _).mem_iff.mp hi)
def yt{ks:List Key} : (tU ks).length=ks.length:=by unfold tU; rw[(oy _ _).length_eq,Bm]
def nW{α:Type}{l:List α}{o:List Nat}{x:α}(h:x∈vX o l):x∈l:=by
 obtain⟨i,_,e⟩:=CI.mp h;rwa[j5 e]
def Uh(ks:List Key):Prop:=(∃ ns:List Int,ks=ns.map .inl)\/∃ ns:List g8,ks=ns.map .inr
def So(h:o0)(v:c7)(k:Key):Prop:=∃(a:b9)(o:AM)(n:Nat)(p:c7)(r:List c7),v=.ref a/\h.get? a=Io o/\o.cls=.type "tuple" /\ o.data=.seq (p::r).toArray n/\xF (kV k) p
section
open PySem.W
variable{prog:j9}{w:n9}{A:Ac}{E:c7->d3->Prop}{s:d3}{vs:List c7}{ks:List Key}
def ie{h:o0} : ∀{vs:List c7}{ks:List Key},vs.length=ks.length->(∀(j:Nat)(v:c7)(k:Key),vs[j]?=Io v->ks[j]?=Io k->So h v k)->∃ fs,KatTups h vs fs/\fs.length=ks.length/\∀ v∈fs,∃ k∈ks,xF (kV k) v
 | [],[],_,_=>⟨[],.nil,rfl,λv hv=>nomatch hv⟩
 | [],_::_,hl,_=>by simp at hl
 | _::_,[],hl,_=>by simp at hl
 | v::vs,k::ks,hl,hh=>by
  obtain⟨a,o,n,p,r,rfl,e,c,d,rp⟩:=hh 0 v k rfl rfl;obtain⟨fs,t,l,f⟩:=ie (vs:=vs) (ks:=ks) (by simpa using hl) λj b m h1 h2=>hh (j+1) b m (by simpa using h1) (by simpa using h2);erw[p::fs,.cons e c d rfl t,by simp[l],λv hv=>?_];rcases i7.mp hv with rfl | hv
  ·rwa[k,.head _,rp]
  ·obtain⟨k',hk,h⟩:=f v hv;rwa[k',.tail _ hk,h]
def jv(hl:vs.length=ks.length)(hT:∀ (j:Nat) (v:c7) (k:Key),vs[j]?=Io v->ks[j]?=Io k->So s.heap v k)(one:Uh ks)(nd:ks.Nodup)(h2:2<=vs.length) :
  (∀ Q:FZ->d3->Prop,Q (tuples' Iq) s->wpAny (model prog w) A (keyKind' vs.toArray) Q E s)/\∀ i j,i<vs.length->j<vs.length->i≠j->∀ C:Bool->d3->Prop,C (ltK (ks.getD i (.inl 0)) (ks.getD j (.inl 0))) s->kas_ask prog w A (tuples' Iq) vs i j C s:=by
 constructor
 ·intro Q hq;obtain⟨fs,t,l,f⟩:=ie hl hT;rcases one with ⟨ns,rfl⟩ | ⟨ns,rfl⟩
  ·erw[kat_kind (T:=.type "int") t (by lia) (λv hv=>?_) (by decide) hq];obtain⟨k,hk,r⟩:=f v hv;obtain⟨n,_,rfl⟩:=i4.mp hk;obtain⟨tk,rfl⟩:=(show ∃ tk,v=BF n tk from r);rwa[.now]
  ·erw[kat_kind (T:=.type "str") t (by lia) (λv hv=>?_) (by decide) hq];obtain⟨k,hk,r⟩:=f v hv;obtain⟨n,_,rfl⟩:=i4.mp hk;obtain⟨tk,rfl⟩:=(show ∃ tk,v=AO n tk from r);rwa[.now]
 ·intro i j hi hj ne C hC;have vi:vs[i]?=Io vs[i]:=d4 hi;have vj:vs[j]?=Io vs[j]:=d4 hj;have ki:ks[i]?=Io (ks[i]'(by lia)):=d4 (by lia);have kj:ks[j]?=Io (ks[j]'(by lia)):=d4 (by lia);have nk:ks[i]'(by lia)≠ks[j]'(by lia):=λz=>ne ((D9 nd).mp z);unfold kas_ask;rw[w9,w9,vi,vj];rw[w9,w9,ki,kj] at hC;obtain⟨a,o,n,p,r,e1,h1,_,d1,r1⟩:=hT i _ _ vi ki;obtain⟨a',o',n',p',r',e2,h2',_,d2,r2⟩:=hT j _ _ vj kj;show wpAny (model prog w) A (keyLt' (tuples' Iq) vs[i] vs[j]) C _ s;rw[e1,e2]
  replace hC:C (ltK (ks[i]'(by lia)) (ks[j]'(by lia))) s:=hC
  generalize ks[i]'(by lia)=k1 at *;generalize ks[j]'(by lia)=k2 at *;have m1:=j5 ki;have m2:=j5 kj;rcases one with ⟨ns,rfl⟩ | ⟨ns,rfl⟩
  ·obtain⟨x,_,rfl⟩:=i4.mp m1;obtain⟨y,_,rfl⟩:=i4.mp m2;obtain⟨tk,rfl⟩:=(show ∃ tk,p=BF x tk from r1);obtain⟨tk',rfl⟩:=(show ∃ tk,p'=BF y tk from r2);erw[kat_lt h1 d1 h2' d2 (kat_cons (F4 ?_))];rw[show(x == y)=Ir from x6.mpr λz=>nk (by rw[z])];rwa[kat_no (oneLt_int hC)]
  ·obtain⟨x,_,rfl⟩:=i4.mp m1;obtain⟨y,_,rfl⟩:=i4.mp m2;obtain⟨tk,rfl⟩:=(show ∃ tk,p=AO x tk from r1);obtain⟨tk',rfl⟩:=(show ∃ tk,p'=AO y tk from r2);erw[kat_lt h1 d1 h2' d2 (kat_cons (F5 ?_))];rw[show decide (x=y)=Ir from x4 λz=>nk (by rw[z])];rwa[kat_no (oneLt_str hC)]
end
section
variable{prog:j9}{w:n9}{A:Ac}{E:c7->d3->Prop}{s:d3}
def AskF(prog:j9)(w:n9)(s:d3)(vs:List c7)(f:Nat->Nat->Bool):Prop :=
 ∃ κ:FZ,∀(A:Ac)(E:c7->d3->Prop),(∀ Q:FZ->d3->Prop,Q κ s->wpAny (model prog w) A (keyKind' vs.toArray) Q E s)/\∀ i j,i<vs.length->j<vs.length->i≠j->∀ C:Bool->d3->Prop,C (f i j) s->kas_ask prog w A κ vs i j C s
def iw{f:Nat->Nat->Bool}{l:b9}{vs:List c7}{Q:c7->d3->Prop}(hl:s.heap.IsList l vs.toArray)(h64:vs.length<64)
  (hk:∀ h':o0,(∀ b o,s.heap.get? b=Io o->h'.get? b=Io o)->2<=vs.length->AskF prog w { s with heap:=h' } vs f)
  (h:∀(h':o0)(c:Nat),(∀ b o,s.heap.get? b=Io o->h'.get? b=Io o)->h'.get? (s.heap.objs.size+1)=Io (seqObj "list" ((be vs.length f).map λi=>vs.getD i r9).toArray c)->Q (.ref (s.heap.objs.size+1)) { s with heap:=h' }) :
  wpAny (model prog w) A (call (.builtin "sorted") [.ref l]) Q E s:=by
 refine DQ kind_sorted plain_sorted entry_sorted (args_sorted1 _) ?_;unfold Cn.«sorted»;refine ac (m:=checkCount "sorted" 1 1 _) (d7 ?_);refine ac (collect_list hl ?_ (by rw[sizeLine_eq]; lia));refine ac (Fp ?_ (by rw[sizeLine_eq]; lia));have hsz:((s.heap.push (seqObj "list" #[] 0)).update s.heap.objs.size (Al (· ++ vs.toArray))).objs.size=s.heap.objs.size+1:=by
  rw[Heap.size_update,size_push']
 have hoL:(((s.heap.push (seqObj "list" #[] 0)).update s.heap.objs.size (Al (· ++ vs.toArray))).push (seqObj "list" vs.toArray 0)).get? (s.heap.objs.size+1)=Io (seqObj "list" vs.toArray 0):=by
  rw[<- hsz]; rwa[d9 _ rfl]
 have keep:∀ b o,s.heap.get? b=Io o->(((s.heap.push (seqObj "list" #[] 0)).update s.heap.objs.size (Al (· ++ vs.toArray))).push (seqObj "list" vs.toArray 0)).get? b=Io o:=λb o q=>by
  have hlt:b<s.heap.objs.size:=f9 q;rw[F0 _ _ _ (by rw[hsz]; rwa[l6 (F1 hlt)]),Heap.get?_update_ne _ _ _ _ (l6 hlt),F0 _ _ _ (l6 hlt)];rwa[q]
 have kp:∀ h':o0,(∀ b o,b≠s.heap.objs.size+1->(((s.heap.push (seqObj "list" #[] 0)).update s.heap.objs.size (Al (· ++ vs.toArray))).push (seqObj "list" vs.toArray 0)).get? b=Io o->h'.get? b=Io o)->∀ b o,s.heap.get? b=Io o->h'.get? b=Io o:=λh' k b o e=>k b o (l6 (F1 (f9 e))) (keep b o e);show wpAny _ _ _ _ _ { s with heap:=((s.heap.push (seqObj "list" #[] 0)).update s.heap.objs.size (Al (· ++ vs.toArray))).push (seqObj "list" vs.toArray 0) };rw[hsz];erw[ac (Aw (Ar slot_list_sort ⟨_,hoL,rfl⟩ entry_list_sort ?body (args_list_sort _)))]
 case body =>
  refine qr (f:=f) (s:={ s with heap:=((s.heap.push (seqObj "list" #[] 0)).update s.heap.objs.size (Al (· ++ vs.toArray))).push (seqObj "list" vs.toArray 0) }) hoL h64 (λh2 k2 two=>?_) λh2 c k2 e2=>⟨_,rfl,d7 ⟨_,rfl,h h2 c (kp h2 k2) e2⟩⟩;obtain⟨κ,hκ⟩:=hk h2 (kp h2 k2) two;rwa[κ,hκ _ _]
end
def eh:∀{xs:List V}{us:List c7}{j:Nat}{v:V},yO xs us->xs[j]?=Io v->∃ u,us[j]?=Io u/\xF v u
 | _,_,_,_,.nil,e=>by simp at e
 | _,_,0,_,.cons r _,e=>by simp at e; subst e; rwa[_,U,r]
 | _,_,j+1,_,.cons _ r,e=>by
  obtain⟨u,h1,h2⟩:=eh (j:=j) r (by simpa using e);exact⟨u,by simpa using h1,h2⟩
section
variable{X:Cx}
def yh:uK X (.builtin "sorted") (λxs H Q=>∃(l:b9)(ts:List (b9×Key×List V)),xs=[.ref l]/\SqL X.K H l ((ts.map (·.1)).map V.ref)/\(∀ t∈ts,H t.1=Io (.tup (kV t.2.1::t.2.2)))/\ts.length<64/\Uh (ts.map (·.2.1))/\(ts.map (·.2.1)).Nodup /\
  ∀ p:b9,H p=Ip->Q (.ref p) (upd H p (.lst ((vX (tU (ts.map (·.2.1))) (ts.map (·.1))).map V.ref)))):=by
 intro Is s σ H xs us Q I r h;obtain⟨l,ts,rfl,hq,hts,h64,one,nd,q⟩:=h;obtain⟨u,rfl,ru⟩:=yO.one r;cases ru;obtain⟨its,rv,pl,hz⟩:=I.list hq;have ei:=fD rv;subst ei;have ll:((ts.map (·.1)).map i9).length=(ts.map (·.2.1)).length:=by simp
 have hT:∀ h':o0,(∀ b o,s.heap.get? b=Io o->h'.get? b=Io o)->∀(j:Nat)(v:c7)(k:Key),((ts.map (·.1)).map i9)[j]?=Io v->(ts.map (·.2.1))[j]?=Io k->So h' v k:=λh' keep j v k e1 e2=>by
  rw[v7,e7,j6] at e1;obtain⟨t,et,rfl⟩:=e1;rw[e7,et] at e2;cases e2;obtain⟨its,r1,⟨o,e,c,n,d⟩,_⟩:=I.tuple (SqT.of (hts t (j5 et)));cases r1 with
  | cons r1 r2=>rwa[t.1,o,n,_,_,U,keep _ _ e,c,d,r1]
 refine iw (f:=λi j=>ltK ((ts.map (·.2.1)).getD i (.inl 0)) ((ts.map (·.2.1)).getD j (.inl 0))) pl.isList (by simpa using h64) (λh' keep two=>⟨tuples' Iq,λA E=>jv ll (hT h' keep) one nd two⟩) λh' c keep e2=>?_;rw[ll,show be (ts.map (·.2.1)).length (λi j=>ltK ((ts.map (·.2.1)).getD i (.inl 0)) ((ts.map (·.2.1)).getD j (.inl 0)))=tU (ts.map (·.2.1)) from rfl,yn (λi hi=>by rw[ll]; rwa[xi i hi]),uj] at e2;have I2:Inv X Is σ H { s with heap:=h' }:=I.kept (t':=s.toks) keep;have fr:H (s.heap.objs.size+1)=none:=I.hok.fresh (BM _);erw[.ref (s.heap.objs.size+1),_,I2.more (o:=.lst ((vX (tU (ts.map (·.2.1))) (ts.map (·.1))).map V.ref)) (I.fpOk (H':=H) (BM _) fr) ⟨?_,_,c,vx _,e2⟩,U,q _ fr];rw[a7,ut (λi hi=>by have:=xi i hi; simpa using this),yt,a7,sizeLine_eq];lia
def iP:uK X (.builtin "sorted") (λxs H Q=>∃(l:b9)(ns:List g8),xs=[.ref l]/\SqL X.K H l (ns.map V.str)/\ns.length<64 /\
  ∀ p:b9,H p=Ip->Q (.ref p) (upd H p (.lst ((vX (tU (ns.map .inr)) ns).map V.str)))):=by
 intro Is s σ H xs us Q I r h;obtain⟨l,ns,rfl,hq,h64,q⟩:=h;obtain⟨u,rfl,ru⟩:=yO.one r;cases ru;obtain⟨its,rv,pl,hz⟩:=I.list hq;have hn:its.length=ns.length:=by rw[<- rv.length,a7]
 have el:∀ j,j<ns.length->∃ t,its[j]?=Io (AO (ns.getD j "") t):=λj hj=>by
  obtain⟨x,e1,e2⟩:=eh rv (j:=j) (v:=V.str (ns.getD j "")) (by rw[e7,w9,d4 hj]; rfl);obtain⟨t,rfl⟩:=(show ∃ t,x=AO _ t from e2);rwa[t,e1]
 erw[iw (f:=λi j=>ltK ((ns.map (.inr:g8->Key)).getD i (.inl 0)) ((ns.map (.inr:g8->Key)).getD j (.inl 0))) pl.isList (by lia) (λh' keep two=>⟨oneType',λA E=>⟨λQ' hq'=>?_,λi j hi hj ne C hC=>?_⟩⟩) λh' c keep e2=>?_]
 ·erw[kas_kind (T:=.type "str") two (λv hv=>?_) (by decide) (by decide) hq'];obtain⟨i,hi⟩:=EV.mp hv;obtain⟨t,e⟩:=el i (by rw[<- hn]; exact(g9.mp hi).1);rw[hi] at e;cases e;rwa[.now]
 ·obtain⟨t1,e1⟩:=el i (by lia);obtain⟨t2,e2⟩:=el j (by lia);unfold kas_ask;rw[w9,w9,e1,e2];refine kas_lt_str ?_;have g:∀ k,k<ns.length->(ns.map (.inr:g8->Key)).getD k (.inl 0)=.inr (ns.getD k ""):=λk hk=>by
   rw[w9,e7,w9,d4 hk]; rfl
  have hC:C (ltK ((ns.map (.inr:g8->Key)).getD i (.inl 0)) ((ns.map (.inr:g8->Key)).getD j (.inl 0))) _:=hC;rw[g i (by lia),g j (by lia)] at hC;rwa[hC]
 ·have lm:∀ i∈tU (ns.map (.inr:g8->Key)),i<ns.length:=λi hi=>by have:=xi i hi; (rw[a7] at this;assumption)
  have ec:((be its.length λi j=>ltK ((ns.map (.inr:g8->Key)).getD i (.inl 0)) ((ns.map (.inr:g8->Key)).getD j (.inl 0))).map λi=>its.getD i r9)=vX (tU (ns.map .inr)) its:=by
   rw[show be its.length (λi j=>ltK ((ns.map (.inr:g8->Key)).getD i (.inl 0)) ((ns.map (.inr:g8->Key)).getD j (.inl 0)))=tU (ns.map (.inr:g8->Key)) from by unfold tU; rw[a7,hn],yn λi hi=>by rw[hn]; rwa[lm i hi]]
  rw[ec] at e2;have I2:Inv X Is σ H { s with heap:=h' }:=I.kept (t':=s.toks) keep;have fr:H (s.heap.objs.size+1)=none:=I.hok.fresh (BM _);erw[.ref (s.heap.objs.size+1),_,I2.more (o:=.lst ((vX (tU (ns.map .inr)) ns).map V.str)) (I.fpOk (H':=H) (BM _) fr) ⟨?_,_,c,?_,e2⟩,U,q _ fr]
  ·rw[a7,ut lm,yt,a7,sizeLine_eq];lia
  ·rw[<- uj];rwa[oX rv _]
end
def dm{P:j9}{w:n9}{kvs:List (Key×V)}{vs:List (Key×c7)}{lo:b9}{h':o0}{as:List b9}(rel:KV kvs vs)(G:KdxG (yK P w) vs lo h' as):∀(j:Nat)(a:b9)(e:Key×V),as[j]?=Io a->kvs[j]?=Io e->∃ key x,xF (kV e.1) key/\xF e.2 x/\h'.get? a=Io { cls:=.type "tuple",data:=.seq #[key,x] }:=λj a e ha he=>by
 obtain⟨key,k,x,g1,g2,g3⟩:=G.pairs j a ha;obtain⟨u,hu,ru⟩:=KV.at (vs:=vs) (i:=j) (k:=e.1) (v:=e.2) rel he;rw[hu] at g1;cases g1;have g2':fe e.1 key=true:=g2;erw[key,_,?_,ru,g3];rcases yP g2' with ⟨i,t,e1,e2⟩ | ⟨y,t,e1,e2⟩ <;> rw[e1,e2] <;> rwa[t,U]
section
variable{X:Cx}
def qt(hc:X.calm=Iq):uK X (.builtin "sorted") (λxs H Q=>∃(v d:b9)(kvs:List (Key×V)),xs=[.ref v]/\H v=Io (.ext (ww v d))/\Rd H d (.dK kvs)/\kvs.length<64/\Uh (kvs.map (·.1))/\(kvs.map (·.1)).Nodup /\
  ∀(p:b9)(as:List b9)(H2:Hp),Same H H2->H p=Ip->as.length=kvs.length->H2 p=Io (.lst ((vX (tU (kvs.map (·.1))) as).map V.ref))->(∀(j:Nat)(a:b9)(e:Key×V),as[j]?=Io a->kvs[j]?=Io e->H a=Ip/\H2 a=Io (.tup [kV e.1,e.2]))->Q (.ref p) H2):=by
 intro Is s σ H xs us Q I r h;obtain⟨v,d,kvs,rfl,hv,hd,h64,one,nd,q⟩:=h;obtain⟨u,rfl,ru⟩:=yO.one r;cases ru;obtain⟨hz,ns,vs,rel,da⟩:=hd.ok I.hok;obtain⟨o,es,ep,e,c,dt,hk,hp,hn⟩:=da;have hl:vs.length=kvs.length:=rel.length.symm;have dat:s.heap.DictAt (yK X.prog X.w) d vs ep:=⟨o,es,e,c,dt,hk,hp,hn⟩;have hview:s.heap.IsItemsView v d:=(show xI X.prog X.w H s.heap v (.ext (ww v d)) from I.hok v _ hv).1;have oK:kvs.length<=sizeLine:=by rw[sizeLine_eq]; lia
 have hh:X.A.in1.handled=none:=I.ok.hd hc;erw[DQ kind_sorted plain_sorted entry_sorted (args_sorted1 _) ?_];unfold Cn.«sorted»;erw[ac (m:=checkCount "sorted" 1 1 _) (d7 ?_)];erw[ac (kdx_collect (knd:=yK X.prog X.w) (kvs:=vs) (ep:=ep) hh hview dat (by rw[hl]; rwa[oK]) λh' tk as keep la G=>?_)];erw[ac (Fp ?_ (by rw[a7,la,hl]; rwa[oK]))];have ln:as.length=kvs.length:=la.trans hl;have at_:=dm rel G;have hoL:(h'.push (seqObj "list" (as.map i9).toArray 0)).get? h'.objs.size=Io (seqObj "list" (as.map i9).toArray 0):=d9 _ rfl;have ll:(as.map i9).length=(kvs.map (·.1)).length:=by rw[a7,a7,ln]
 have lp:∀ i∈tU (kvs.map (·.1)),i<as.length:=λi hi=>by have:=xi i hi; rw[a7] at this; lia
 show wpAny _ _ _ _ _ { s with heap:=h'.push (seqObj "list" (as.map i9).toArray 0),toks:=tk };erw[ac (Aw (Ar slot_list_sort ⟨_,hoL,rfl⟩ entry_list_sort ?body (args_list_sort _)))]
 case body =>
  refine qr (f:=λi j=>ltK ((kvs.map (·.1)).getD i (.inl 0)) ((kvs.map (·.1)).getD j (.inl 0))) (s:={ s with heap:=h'.push (seqObj "list" (as.map i9).toArray 0),toks:=tk }) hoL (by rw[a7,ln]; rwa[h64]) (λh2 k2 two=>⟨tuples' Iq,jv ll (λj v k e1 e2=>?_) one nd two⟩) λh2 c k2 e2=>⟨_,rfl,d7 ⟨_,rfl,?_⟩⟩
  ·rw[e7,j6] at e1 e2;obtain⟨a,ea,rfl⟩:=e1;obtain⟨e,ee,rfl⟩:=e2;obtain⟨key,x,g1,_,g3⟩:=at_ j a e ea ee;rwa[a,_,_,key,[x],U,k2 a _ (l6 (f9 g3)) (c9 _ g3),U,U,g1]
  ·rw[ll,show be (kvs.map (·.1)).length (λi j=>ltK ((kvs.map (·.1)).getD i (.inl 0)) ((kvs.map (·.1)).getD j (.inl 0)))=tU (kvs.map (·.1)) from rfl,yn (λi hi=>by rw[a7]; exact lp i hi),uj] at e2;have kp:∀ b o,s.heap.get? b=Io o->h2.get? b=Io o:=λb o e=>k2 b o (l6 (f9 (keep b o e))) (c9 _ (keep b o e));have I2:Inv X Is σ H { s with heap:=h2,toks:=tk }:=I.kept (t':=tk) kp;have ab:∀ a∈as,s.heap.objs.size<=a:=λa ha=>BI (G.above a ha);have I1:Inv X Is σ H { s with heap:=h',toks:=tk }:=I.kept (t':=tk) keep;have fp:=I1.fpOk (H':=H) (d6 _) (I1.hok.fresh (d6 _));have I3:Inv X Is σ (upd H h'.objs.size (.lst ((vX (tU (kvs.map (·.1))) as).map V.ref))) { s with heap:=h2,toks:=tk }:=I2.more fp ⟨by rw[a7,ut lp,yt,a7]; exact oK,_,c,vx _,e2⟩;obtain⟨H3,I4,s3,g3,n3⟩:=I3.tuples (lo:=0) (kvs.map λe=>[kV e.1,e.2]) G.rise (λa ha=>by
    refine I.fpOk (ab a ha) ?_;rw[zH (l6 (G.there ha))];exact I.hok.fresh (ab a ha)) (by rw[a7,ln]) λj a xs ha hx H'=>by
     rw[e7,j6] at hx;obtain⟨e,he,rfl⟩:=hx;obtain⟨key,x,g1,g2,g3⟩:=at_ j a e ha he;exact⟨by show 2<=sizeLine; rw[sizeLine_eq]; decide,[key,x],.cons g1 (.cons g2 .nil),_,k2 a _ (l6 (f9 g3)) (c9 _ g3),rfl,_,rfl⟩
   rwa[.ref h'.objs.size,H3,I4,U,q h'.objs.size as H3 ((zD fp.1 _).trans s3) fp.1 ln (s3 _ _ zA) λj a e ha he=>⟨I.hok.fresh (ab a (j5 ha)),g3 j a _ ha (by rw[e7,he]; rfl)⟩]
def mZ(hc:X.calm=Iq):uK X (.type "list") (λxs H Q=>∃(v d:b9)(kvs:List (Key×V)),xs=[.ref v]/\H v=Io (.ext (ww v d))/\Rd H d (.dK kvs)/\kvs.length<=1000 /\
  ∀(p:b9)(as:List b9)(H2:Hp),Same H H2->H p=Ip->as.length=kvs.length->H2 p=Io (.lst (as.map V.ref))->(∀(j:Nat)(a:b9)(e:Key×V),as[j]?=Io a->kvs[j]?=Io e->H a=Ip/\H2 a=Io (.tup [kV e.1,e.2]))->Q (.ref p) H2):=by
 intro Is s σ H xs us Q I r h;obtain⟨v,d,kvs,rfl,hv,hd,h64,q⟩:=h;obtain⟨u,rfl,ru⟩:=yO.one r;cases ru;obtain⟨hz,ns,vs,rel,da⟩:=hd.ok I.hok;obtain⟨o,es,ep,e,c,dt,hk,hp,hn⟩:=da;have hl:vs.length=kvs.length:=rel.length.symm;have dat:s.heap.DictAt (yK X.prog X.w) d vs ep:=⟨o,es,e,c,dt,hk,hp,hn⟩;have hview:s.heap.IsItemsView v d:=(show xI X.prog X.w H s.heap v (.ext (ww v d)) from I.hok v _ hv).1;have oK:kvs.length<=sizeLine:=by rw[sizeLine_eq]; lia
 refine kdx_call (knd:=yK X.prog X.w) (kvs:=vs) (ep:=ep) (show X.A.handled=Ip from I.ok.hd hc) hview dat (by rw[hl]; exact oK) λh' tk acc c as keep e2 la G ea=>?_;have ln:as.length=kvs.length:=la.trans hl;have at_:=dm rel G;have I1:Inv X Is σ H { s with heap:=h',toks:=tk }:=I.kept (t':=tk) keep;have ab:∀ a∈as,s.heap.objs.size<a:=λa ha=>G.above a ha;have fp:=I.fpOk (H':=H) (d6 _) (I.hok.fresh (d6 _));have I3:Inv X Is σ (upd H s.heap.objs.size (.lst (as.map V.ref))) { s with heap:=h',toks:=tk }:=I1.more fp ⟨by rw[a7,ln]; exact oK,as.map i9,c,vx as,by rw[<- ea,E8]; exact e2⟩;obtain⟨H3,I4,s3,g3,n3⟩:=I3.tuples (lo:=0) (kvs.map λe=>[kV e.1,e.2]) G.rise (λa ha=>by
  refine I.fpOk (BI (ab a ha)) ?_;rw[zH (BX (ab a ha))];exact I.hok.fresh (BI (ab a ha))) (by rw[a7,ln]) λj a xs ha hx H'=>by
   rw[e7,j6] at hx;obtain⟨e,he,rfl⟩:=hx;obtain⟨key,x,g1,g2,g3⟩:=at_ j a e ha he;exact⟨by show 2<=sizeLine; rw[sizeLine_eq]; decide,[key,x],.cons g1 (.cons g2 .nil),_,g3,rfl,_,rfl⟩
 rwa[.ref s.heap.objs.size,H3,I4,U,q _ as H3 ((zD fp.1 _).trans s3) fp.1 ln (s3 _ _ zA) λj a e ha he=>⟨I.hok.fresh (BI (ab a (j5 ha))),g3 j a _ ha (by rw[e7,he]; rfl)⟩]
end
end L2

namespace L2
def Iti(φ:Hp->Prop)(kvs:List (Key×V)):It :=
 ⟨λi H=>φ H/\i<kvs.length,λi H v H'=>∃(T:b9)(e:Key×V),v=.ref T/\H T=Ip/\H'=upd H T (.tup [kV e.1,e.2])/\kvs[i]?=Io e,λi H=>φ H/\kvs.length<=i⟩
def mh:entryFor table "dict_itemiterator.__iter__" = Io Cn.«dict_keyiterator.__iter__»:=entryFor_alias (id' := "dict_keyiterator.__iter__") (by symm) rfl (by ac_nf) (by symm)
def oj{prog:j9}{w:n9}{A:Ac}{E:c7->d3->Prop}{s:d3}{it d:b9}{i n ep:Nat}{ok ov:c7}{Q:c7->d3->Prop}(hit:IsItemIter s.heap it d i n ep ok ov)(h:Q (.ref it) s):wpAny (model prog w) A (pyIter (.ref it)) Q E s:=by
 have ty:s.TypeIs (.ref it) "dict_itemiterator" :=⟨_,hit,rfl⟩;erw[FS ty Db (Ar Db ty mh ?_ (F.args_dict_itemiterator_iter_1 _))];show wpAny _ _ (ret (.ref it)) _ _ s;rwa[d7 ⟨_,rfl, "dict_itemiterator",_,ty,F.slot_dict_itemiterator_next.lookup,h⟩]
def cX{P:j9}{w:n9}{K:b7}{elts:List w4}{kt:Nat}{pt:Co}{d:b9}{kvs:List (Key×V)}{o:AM}{es:Array Bk}{ep:Nat}(ho:o.data=.dict es ep)(it:b9) :
  Yq P w K (.Tuple elts kt pt) (Iti (ff d o kvs) kvs) [it] it (λi h=>∃ ok ov,IsItemIter h it d i kvs.length ep ok ov) where
 mem:=by simp
 obj:=λi h st b hb=>by
  have e:b=it:=by simpa using hb
  subst e;obtain⟨ok,ov,e⟩:=st;rwa[_,e,λv z=>by cases z]
 keep:=λi h h' ⟨ok,ov,st⟩ k=>⟨ok,ov,k it (by simp) _ st⟩
 item:=by
  intro X hP hw hK hc i Is s σ H E I hf st ⟨fz,hi⟩;subst hP hw hK;obtain⟨vs,r,da,_,_⟩:=I.frzAt fz ho;obtain⟨u,hu,ru⟩:=KV.at (vs:=vs) (k:=kvs[i].1) (v:=kvs[i].2) r (d4 hi);obtain⟨ok,ov,st⟩:=st;rw[r.length] at st;have fresh:H s.heap.objs.size=none:=I.hok.fresh (d6 _);have litz:it<s.heap.objs.size:=f9 st;refine wpAny_pyNext_items_item st da hu λkey h' hk out ht hz kp=>⟨_,rfl,wpAny_letOwnedTupleGo_items out λh2 st2 sb=>?_⟩;rw[<- r.length] at st2;have rk:xF (kV kvs[i].1) key:=by
   rcases yP hk with ⟨j,t,e1,e2⟩ | ⟨x,t,e1,e2⟩
   ·rw[e1,e2]; rwa[t,U]
   ·rw[e1,e2]; rwa[t,U]
  have kp2:∀ c o,c ∉ [it]->s.heap.get? c=Io o->h2.get? c=Io o:=λc o hc e=>by
   have hc:c≠it:=by simpa using hc
   rwa[sb.extBut c o hc (kp c o hc e)]
  have neT:∀ b o,s.heap.get? b=Io o->b≠s.heap.objs.size:=λb o e=>l6 (f9 e);have neH:∀ b o,H b=Io o->b ∉ [it]:=λb o e hb=>by
   rw[(hf b hb).1] at e;cases e
  have upn:∀ b u,H b=Io u->upd H s.heap.objs.size (.tup [kV kvs[i].1,kvs[i].2]) b=Io u:=λb u e=>by
   rw[zH (zF e fresh)];rwa[e]
  erw[.ref s.heap.objs.size,upd H s.heap.objs.size (.tup [kV kvs[i].1,kvs[i].2]),?_,U,⟨_,kvs[i],U,fresh,U,d4 hi⟩,⟨_,_,st2⟩,λb hb=>?_]
  ·refine Inv.step (s:=s) (h':=h2) (g':=s.gens) (d':=s.drawn) (t':=s.toks) (ch:=[it]) I (λb hb=>?_) (λb o _ _ hc e _=>kp2 b o hc e) (λb o _ _ hc e _=>⟨o.slots,kp2 b o hc e⟩) (λb o _ e n=>?_) (λb o hc e=>⟨o,kp2 b o hc e⟩)
    (λb zs e=>upn b _ e) (λb o zs e=>upn b _ e) (λb ps e=>⟨#[],by rw[upn b _ e]; simp⟩) (λm hm=>?_) (λb o e=>?_) I.bare
   ·obtain⟨_,f1,_,f3,f4,f5⟩:=hf b hb;rwa[f3,f1,f4,f5]
   ·rw[zH (neT b o e)];rwa[n]
   ·obtain⟨o,es,ep,ho,r⟩:=hm;erw[o,es,ep,kp2 _ o (λhb=>?_) ho,r];exact(hf _ hb).2.1 rfl
   ·by_cases hb:b=s.heap.objs.size
    ·subst hb;rw[zA] at e;cases e;exact⟨by show 2<=sizeLine; decide,[key,u],.cons rk (.cons ru .nil),_,sb.extBut _ _ (BX litz) ht,rfl,_,rfl⟩
    ·rw[zH hb] at e;refine(I.hok b o e).stay (λc u hc q=>kp2 c u ?_ q) (λc q=>upn c _ q) λc zs q=>upn c _ q;rcases hc with hc | hc
     ·rw[hc]; rwa[neH b o e]
     ·rwa[neH c _ hc]
  ·have e:b=it:=by simpa using hb
   subst e;rw[zH (l6 litz)];exact(hf b hb).1
 done:=by
  intro X hP hw hK hc i Is s σ H E I hf st ⟨fz,hi⟩;subst hP hw hK;obtain⟨vs,r,da,_,_⟩:=I.frzAt fz ho;obtain⟨f0,f1,f2,f3,f4,f5⟩:=hf it (by simp);obtain⟨ok,ov,st⟩:=st;rw[r.length] at st;rwa[wpAny_pyNext_items_end (I.ok.hd hc) st da (AF (by rw[<- r.length]; exact hi)) λh' eb=>⟨rfl,I.turned (t':=s.toks) (λb o hb e=>eb b o hb e) f0 f1 f3 f4 f5⟩]
 self:=λ_ _ _ _ _ ⟨_,_,st⟩ h=>oj st h
section
variable{X:Cx}{l:w4}{te:TE}{apos pos:Co}
def UK(te:TE):TI:=λσ H R=>te σ H λx H1=>∃(d:b9)(kvs:List (Key×V)),x=.ref d/\Rd H1 d (.dK kvs)/\∀(o:AM)(H2:Hp),Yn d o kvs H1 H2->R (Iti (ff d o kvs) kvs) H2
def YQ{elts:List w4}{kt:Nat}{pt:Co}(hl:PE X l te)(hbase:attributeBase l "items" X.env (eval l X.env)=eval l X.env:=by rfl)(hline:(apos.endLine == pos.line)=true:=by rfl):PI X (.Tuple elts kt pt) (.Call (.Attribute l "items" apos) [] [] pos) (UK te):=by
 intro Is s σ H R I h;erw[CU (T := "dict") (id := "dict.items") hbase rfl hline DZ CW FV (thn (hl Is s σ H _ I h) λv s1 ⟨x,H1,I1,r1,d,kvs,e,hd,q⟩=>?_)];subst e;cases r1;obtain⟨o,es,ep,H2,ho,ft,I2⟩:=I1.frozen hd;obtain⟨vs,r,da,_,ns⟩:=I2.frzAt ft.1 ho;exists da.dictOf.typeIs,da.dictOf.mapOf.noDict;show wpAny _ _ (callWith pos (.builtin "dict.items") [.ref d] [] []) _ _ s1;erw[method_meetsIn CW FD rfl (Cw ⟨rfl,da.dictOf.typeIs,Fg _,_,meets_dict_items (yK X.prog X.w) d ns,⟨vs,da.dictOf⟩,?_⟩)];erw[wpAny_pyIter_items (knd:=yK X.prog X.w) (d:=d) (kvs:=vs) (ep:=ep) ⟨_,d9 _ rfl,rfl,rfl⟩ (da.push _) ?_];have I3:=I2.kept (t':=s1.toks) (h':=s1.heap.push { cls:=.type "dict_items",data:=.fields #[.ref d] }) λb o e=>c9 _ e;have I4:=I3.kept (t':=s1.toks) (h':=(s1.heap.push { cls:=.type "dict_items",data:=.fields #[.ref d] }).push { cls:=.type "dict_itemiterator",data:=.fields #[.none,.bool Ir,.ref d,.int 0 0,.int vs.length 0,.int ep 0,.none,.none] }) λb o e=>c9 _ e;erw[_,[_],_,_,H2,U,I4,cX ho _,⟨_,_,by rw[r.length]; rwa[d9 _ rfl]⟩,λb hb=>?_,q o H2 ft];have e:=d8.mp hb;subst e;rwa[I3.fpOk (d6 _) (I3.hok.fresh (d6 _))]
end
section
variable{φ:Hp->Prop}{kvs:List (Key×V)}{g:TG}{σ0:St}{H1:Hp}{D:b9}{tt:TT}{te:TE}{Q:VK}
def VN(Pv:Nat->St->List V->Hp->Prop)(h0:Pv 0 σ0 [] (upd H1 D (.lst [])))(hl:∀ i σ ys H,Pv i σ ys H->φ H/\H D=Io (.lst ys))
  (hs:∀(i:Nat)(e:Key×V)(T:b9) σ ys H,kvs[i]?=Io e->H T=Ip->Pv i σ ys H->g (.ref T) σ (upd H T (.tup [kV e.1,e.2])) λσ2 H2=>te σ2 H2 λy H4=>H4 D=Io (.lst ys)/\ys.length<sizeLine/\Pv (i+1) σ2 (ys++[y]) (upd H4 D (.lst (ys++[y]))))
  (hd:∀ σ ys H,Pv kvs.length σ ys H->Q (.ref D) H):ua (Iti φ kvs) D g Vj te σ0 H1 Q:=by
 exists λi m σ ys H=>m=kvs.length-i/\i<=kvs.length/\Pv i σ ys H,⟨kvs.length,by simp,t7 _,h0⟩;rintro i m σ ys H ⟨rfl,hi,p⟩;obtain⟨q,qd⟩:=hl i σ ys H p;exists qd;by_cases hlt:i<kvs.length
 ·erw[.inr ⟨⟨q,hlt⟩,Pv (i+1),λσ' zs H' z=>⟨kvs.length-(i+1),by lia,rfl,hlt,z⟩,λx H' ⟨T,e,ex,hT,eH,y⟩=>?_⟩];subst ex eH;rwa[hs i e T σ ys _ y hT p]
 ·have e:i=kvs.length:=by lia
  subst e;rwa[.inl ⟨⟨q,d6 _⟩,hd σ ys H p⟩]
end
end L2

namespace Sea
def kD:Key->Dt
 | .inl i=>.int i
 | .inr x=>.str x
def UI(e:Key×Dt):Dt:=.tup [kD e.1,e.2]
def jl(es:List (Key×Dt)):List Dt:=(vX (tU (es.map (·.1))) es).map UI
def mkD(e:g8×Int×Int):Dt:=.tup [.str e.1,.int e.2.1,.int e.2.2]
def cu(S:BS):List Dt:=(vX (tU ((S.marks.map (·.1)).map .inr)) S.marks).map mkD
def Tn{H:Hp}{k:Key} : Rep H (kD k) (kV k):=by
 cases k
 ·rwa[yB.mpr rfl]
 ·rwa[zW.mpr rfl]
def xU.at{H:Hp}{kvs:List (Key×V)}{es:List (Key×Dt)}(h:xU H kvs es){j:Nat}{e:Key×V}(g:kvs[j]?=Io e):∃ d,es[j]?=Io (e.1,d)/\Rep H d e.2:=by
 obtain⟨d,g1,r⟩:=h.vals.back (i:=j) (x:=e.2) (by rw[e7,g]; rfl);rw[e7,j6] at g1;obtain⟨e',ge,rfl⟩:=g1;have:=congrArg (·[j]?) h.keys;simp only[e7,g,ge,B6,D0] at this;rwa[e'.2,by rw[ge,this],r]
def yf{H:Hp}{kvs:List (Key×V)}{es:List (Key×Dt)}{as:List b9}(kv:xU H kvs es)(hl:as.length=kvs.length)(at_:∀ (j:Nat) (a:b9) (e:Key×V),as[j]?=Io a->kvs[j]?=Io e->H a=Io (.tup [kV e.1,e.2])):∀ o:List Nat,xN H ((vX o es).map UI) ((vX o as).map V.ref)
 | []=>zY.mpr rfl
 | i::o=>by
  have ih:=yf kv hl at_ o;have le:=kv.length;unfold vX at ih ⊢;by_cases hi:i<kvs.length
  ·have ga:as[i]?=Io (as[i]'(by lia)):=d4 (by lia);have gk:kvs[i]?=Io kvs[i]:=d4 hi;obtain⟨d,ge,r⟩:=kv.at gk;rw[AD ge,AD ga];rwa[zL.mpr ⟨_,_,rfl,yF.mpr ⟨_,_,rfl,at_ i _ _ ga gk,.two Tn r⟩,ih⟩]
  ·rw[AV (AF (by lia)),AV (AF (by lia))];rwa[ih]
structure pQ(S:BS):Prop where
 mk ::
 well:gG S
 nm:(S.marks.map (·.1)).Nodup
 nb:(S.banks.map (·.1)).Nodup
 bk:∀ e∈S.banks,wM e.1/\e.2.length<=8/\∀ c∈e.2,qi c
def pQ.nil:pQ BS.nil:=⟨gG.nil,.nil,.nil,λe he=>(nomatch he)⟩
def Xm{cs:List (Int×Int)}(h:im cs=Iq):cs.length<=8:=by
 unfold im isB at h;rw[p5,p5,a7] at h;rwa[of_decide_eq_true h.2.1]
def mT{α:Type}{l:List α}{x:α}(h:l.Nodup)(n:x ∉ l):(l++[x]).Nodup:=by
 rw[F2];rwa[h,by simp,λa ha b hb=>by rw[d8.mp hb]; exact λz=>n (z ▸ ha)]
def ql{α β:Type}{f:α->β}{p:α->Bool}{l:List α}(h:(l.map f).Nodup):((l.filter p).map f).Nodup:=h.sublist ((Fh (p:=p) (l:=l)).map f)
def pQ.aft{S:BS}{D:Deed}(h:pQ S)(ok:okD S D):pQ (aft S D):=by
 erw[h.well.aft ok,?_,?_,?_]
 ·match D,ok with
  | .mark n x y,ok =>
   show((S.marks++[(n,x,y)]).map (·.1)).Nodup;rw[i8];erw[mT h.nm λz=>?_];obtain⟨p,e⟩:=Zq (S:=S) z;rw[ok.2.1] at e;cases e
  | .move n x y,ok =>
   show((S.marks.map λe=>if e.1=n then(e.1,x,y) else e).map (·.1)).Nodup;rw[v7,show((·.1) ∘ λe:g8×Int×Int=>if e.1=n then(e.1,x,y) else e)=(·.1) from funext λe=>by show(if e.1=n then(e.1,x,y) else e).1=e.1; split <;> rfl];rwa[h.nm]
  | .unmark n,ok=>rwa[ql h.nm]
  | .bank _ _,_=>rwa[h.nm]
  | .level _,_=>rwa[h.nm]
  | .sail _ _,_=>rwa[h.nm]
  | .right _ _ _,_=>rwa[h.nm]
  | .bearing _ _ _ _ _ _,_=>rwa[h.nm]
  | .range _ _ _,_=>rwa[h.nm]
  | .strike _,_=>rwa[h.nm]
 ·match D,ok with
  | .bank n cs,ok =>
   show((S.banks++[(n,cs)]).map (·.1)).Nodup;rw[i8];rwa[mT h.nb ok.2.1]
  | .level n,ok=>rwa[ql h.nb]
  | .mark _ _ _,_=>rwa[h.nb]
  | .move _ _ _,_=>rwa[h.nb]
  | .unmark _,_=>rwa[h.nb]
  | .sail _ _,_=>rwa[h.nb]
  | .right _ _ _,_=>rwa[h.nb]
  | .bearing _ _ _ _ _ _,_=>rwa[h.nb]
  | .range _ _ _,_=>rwa[h.nb]
  | .strike _,_=>rwa[h.nb]
 ·match D,ok with
  | .bank n cs,ok =>
   intro e he;rcases m7.mp he with z | z
   ·rwa[h.bk e z]
   ·rw[d8.mp z]; rwa[ok.1,Xm ok.2.2.2.1,ok.2.2.1]
  | .level n,ok=>rwa[λe he=>h.bk e (BG.mp he).1]
  | .mark _ _ _,_=>rwa[h.bk]
  | .move _ _ _,_=>rwa[h.bk]
  | .unmark _,_=>rwa[h.bk]
  | .sail _ _,_=>rwa[h.bk]
  | .right _ _ _,_=>rwa[h.bk]
  | .bearing _ _ _ _ _ _,_=>rwa[h.bk]
  | .range _ _ _,_=>rwa[h.bk]
  | .strike _,_=>rwa[h.bk]
section
variable{S:BS}
def ii(S:BS):(bkE S.banks).map (·.1)=(S.banks.map (·.1)).map .inr:=by unfold bkE; rw[v7,v7]; rfl
def jG(S:BS):(ntE S.notes).map (·.1)=(S.notes.map (·.1)).map .inl:=by unfold ntE; rw[v7,v7]; rfl
def jJ{l:List g8}(h:l.Nodup):(l.map (.inr:g8->Key)).Nodup:=h.map _ λa b n z=>n (by injection z)
def Zi{l:List Int}(h:l.Nodup):(l.map (.inl:Int->Key)).Nodup:=h.map _ λa b n z=>n (by injection z)
def pQ.oneB(_:pQ S):Uh ((bkE S.banks).map (·.1)):=.inr ⟨_,ii S⟩
def pQ.ndB(h:pQ S):((bkE S.banks).map (·.1)).Nodup:=by rw[ii]; rwa[jJ h.nb]
def pQ.oneN(_:pQ S):Uh ((ntE S.notes).map (·.1)):=.inl ⟨_,jG S⟩
def pQ.ndN(h:pQ S):((ntE S.notes).map (·.1)).Nodup:=by rw[jG]; rwa[Zi (h.well.good.rise.imp λz=>Int.ne_of_lt z)]
def qu:∀{l:List (g8×Int×Int)}{e:g8×Int×Int},(l.map (·.1)).Nodup->e∈l->(l.find? λf=>decide (f.1=e.1)).map (·.2)=Io e.2
 | f::l,e,nd,he=>by
  rcases i7.mp he with rfl | he
  ·simp
  ·have nf:f.1≠e.1:=λz=>(B5.mp nd).1 (i4.mpr ⟨e,he,z.symm⟩);rw[As,x4 nf];rwa[qu (B5.mp nd).2 he]
def dep:Nat->Dt->Prop
 | _,.int _=>True
 | _,.str _=>True
 | 0,.tup _=>False
 | n+1,.tup l=>l.length<=900/\∀ d∈l,dep n d
def xR{n:Nat}{i:Int} : dep n (.int i):=by cases n <;> trivial
def yQ{n:Nat}{x:g8} : dep n (.str x):=by cases n <;> trivial
def xW{n:Nat}{l:List Dt}(h:l.length<=900)(g:∀ d∈l,dep n d):dep (n+1) (.tup l):=⟨h,g⟩
def oP{n:Nat}{p:Int×Int} : dep (n+1) (ptD p):=xW (by show 2<=900; decide) (dt2 xR xR)
def ZL{n:Nat}{k:Key} : dep n (kD k):=by
 cases k
 ·rwa[xR]
 ·rwa[yQ]
def bE:∀ d∈cu S,dep 3 d:=λd hd=>by
 obtain⟨e,he,rfl⟩:=i4.mp hd;rwa[xW (g7 rfl) (dt3 yQ xR xR)]
def aw(h:pQ S):∀ d∈jl (bkE S.banks),dep 3 d:=λd hd=>by
 obtain⟨e,he,rfl⟩:=i4.mp hd;have me:=nW he;unfold bkE at me;obtain⟨e',me',rfl⟩:=i4.mp me;have l8:=(h.bk e' me').2.1;erw[xW (g7 rfl) (dt2 ZL (xW (by rw[a7]; lia) λd hd=>?_))];obtain⟨c,hc,rfl⟩:=i4.mp hd;rwa[oP]
def Zb(h:pQ S):∀ d∈jl (ntE S.notes),dep 4 d:=λd hd=>by
 obtain⟨e,he,rfl⟩:=i4.mp hd;have me:=nW he;unfold ntE at me;obtain⟨e',me',rfl⟩:=i4.mp me;have kn:=h.well.good.note e' me';erw[xW (g7 rfl) (dt2 ZL ?_)];show dep 3 e'.2.dt
 match e'.2,kn with
 | .bearing _ _ _ _ _ _,_=>rwa[xW (g7 rfl) λd hd=>(i7.mp hd).elim (λz=>z ▸ yQ) (dt4 xR yQ oP oP d)]
 | .range _ _ _,_=>rwa[xW (g7 rfl) (dt4 yQ xR yQ yQ)]
def iS{es:List (Key×Dt)} : (jl es).length=es.length:=by
 unfold jl;rw[a7,ut (λi hi=>by have:=xi i hi; (rw[a7] at this;assumption)),yt,a7]
def gu:(cu S).length=S.marks.length:=by
 unfold cu;rw[a7,ut (λi hi=>by have:=xi i hi; (rw[a7,a7] at this;assumption)),yt,a7,a7]
end
end Sea

namespace Sea
def mkOf(e:g8×Int×Int):Deed:=.mark e.1 e.2.1 e.2.2
def bkOf(e:g8×List (Int×Int)):Deed:=.bank e.1 e.2
def slOf(e:Int×Int):Deed:=.sail e.1 e.2
def noteF(ns:List g8)(D:Deed):Prop:=(∃(m:Int)(i:Nat)(l r:g8),D=.range m l r/\0<=m/\m<=12/\i<18/\ns[i]?=Io l/\ns[i+1]?=Io r)\/∃(m k:Int)(i:Nat)(n:g8),D=.bearing m n 100 k (-k) 100/\0<=m/\m<=12/\0<=k/\k<24/\i<19/\ns[i]?=Io n
structure FillD(ns:List g8)(Ds:List Deed)(l1:List (g8×Int×Int))(l2:List (g8×List (Int×Int)))(l3:List (Int×Int))(l4:List Deed)(c:Nat):Prop where
 mk ::
 eq:Ds=l1.map mkOf++l2.map bkOf++l3.map slOf++l4
 n1:l1.map (·.1)=ns.take 20
 p1:∀(j:Nat)(e:g8×Int×Int),l1[j]?=Io e->qi e.2/\e.2.2=j
 c2:c<=2
 n2:l2.map (·.1)=(ns.drop c).take 8
 p2:∀(j:Nat)(e:g8×List (Int×Int)),l2[j]?=Io e->j<8/\e.2=[((j:Int),0),((j:Int)+3,0),((j:Int),2)]
 n3:l3.length=12
 p3:∀ e∈l3,qi e
 n4:l4.length=24
 p4:∀ D∈l4,noteF ns D
noncomputable def stepD(S:BS)(D:Deed):BS:=match zS S D with
 | none=>aft S D
 | some _=>S
noncomputable def stepAll(S:BS)(l:List Deed):BS:=l.foldl stepD S
section
variable{S:BS}{D:Deed}
structure NotesF(S S':BS)(l:List Deed):Prop where
 mk ::
 m:S'.marks=S.marks
 b:S'.banks=S.banks
 r:S'.runs=S.runs
 c:S'.coming=S.coming+l.length
 n:S'.notes.map (·.2)=S.notes.map (·.2)++l
 k:∀ k:Int,(k∈S.notes.map (·.1)\/(S.coming<=k/\k<S'.coming))->k∈S'.notes.map (·.1)
structure Brim(ns:List g8)(n19:g8)(c:Nat)(S:BS):Prop where
 mk ::
 neat:pQ S
 m:S.marks.map (·.1)=ns.take 20
 c2:c<=2
 b:S.banks.map (·.1)=(ns.drop c).take 8
 r:S.runs.length=12
 n:S.notes.length=24
 all:∀ k:Int,1<=k->k<25->k∈S.notes.map (·.1)
 co:S.coming=25
 un:∀ e∈S.notes,rX n19 e.2
end
end Sea

namespace L2
section
variable{X:Cx}
def lO(c:Array Nat):∀(k:Nat)(a:Array Nat),((t9 k c).foldl (· ++ ·) a).toList=a.toList++(t9 k c.toList).flatten
 | 0,a=>by simp
 | k+1,a=>by
  rw[Dq,List.foldl_cons,lO c k,Dq,FP,Array.toList_append,F3]
def WP(i:g8)(n:Int):g8:=if (n == 1||i.length == 0)=Iq then i else⟨(t9 n.toNat i.cps).foldl (· ++ ·) #[]⟩
def cz(c:Array Nat)(k:Nat):((t9 k c).foldl (· ++ ·) #[]).size=k*c.size:=by
 rw[<- Ak,lO,f8,VB,Ak];simp
def Xy{i:g8}{n:Int}(h:1<=n):(WP i n).length=i.length*n.toNat:=by
 unfold WP;split
 ·rename_i e
  rw[EF,beq_iff_eq,beq_iff_eq] at e;rcases e with e | e
  ·rw[e]; simp
  ·rw[e]; simp
 ·show((t9 n.toNat i.cps).foldl (· ++ ·) #[]).size=_;rw[cz,FQ];rfl
def Yu{i:g8}{n:Int}{c:Nat}(h:c∈(WP i n).cps.toList):c∈i.cps.toList:=by
 unfold WP at h;split at h
 ·rwa[h]
 ·have h:c∈((t9 n.toNat i.cps).foldl (· ++ ·) #[]).toList:=h;rw[lO,m7] at h;rcases h with h | h
  ·simp at h
  ·obtain⟨l,hl,hc⟩:=List.mem_flatten.mp h;rw[(List.mem_replicate.mp hl).2] at hc;rwa[hc]
def gg:OpR X (binaryOp .Mult) (λx y H Q=>∃(i:g8)(n:Int),x=.str i/\y=.int n/\1<=n/\n<=1000/\i.length<=1000/\Q (.str (WP i n)) H):=by
 intro Is s σ H x y v u Q I rx ry h;obtain⟨i,n,rfl,rfl,h1,h2,h3,q⟩:=h;obtain⟨t,rfl⟩:=rx;obtain⟨t',rfl⟩:=ry;have n1:¬ n<1:=by lia
 have hl:i.length*n.toNat<=1000*1000:=Nat.mul_le_mul h3 (by lia);have hs:i.length*n.toNat<=sizeLine:=j7 hl (by decide);erw[PySem.P.mul_str ?_ ?_ ?_ ?_]
 ·rw[x4 (by lia),x4 (by lia)]; rfl
 ·intro _ _ z;have:(1000:Int)<=(2^63-1)/n:=by
   rw[Int.le_ediv_iff_mul_le (by lia)];lia
  lia
 ·intro _ _;rwa[x4 (by lia)]
 ·rw[y7 n1];have q':=q;unfold WP at q';split
  ·rename_i e
   rw[y9 e] at q';rwa[.str i,H,I,⟨_,U⟩,q']
  ·rename_i e
   rw[y7 e] at q';erw[?_,.str _,H,I.tok _,⟨_,U⟩,q'];show((t9 n.toNat i.cps).foldl (· ++ ·) #[]).size<=sizeLine;rw[cz,FQ];rwa[hs]
end
end L2

namespace Sea
def WO(cs:List (Int×Int)):Prop:=∃ x y e:Int,-1<=e/\e<=4/\cs=[(x,y),(x+3,y),(x+1,y+e)]
def dL{a b c:Int×Int} : im [a,b,c]=(decide (0<crs a b c)&&(decide (0<crs b c a)&&decide (0<crs c a b))):=by
 simp[im,isB,tK,cS,ptA,Aj,List.range.loop]
def crs3{a b c:Int×Int}(h:0<crs a b c)(h1:crs b c a=crs a b c)(h2:crs c a b=crs a b c):im [a,b,c]=true:=by
 rw[dL,h1,h2,x3 h];rfl
def crs3n{a b c:Int×Int}(h:¬ 0<crs a b c):im [a,b,c]=false:=by
 rw[dL,x4 h];rfl
def Xw{cs:List (Int×Int)}(h:WO cs):∃ a b c:Int×Int,cs=[a,b,c]/\im cs=decide (a.2<c.2):=by
 obtain⟨x,y,e,h0,h4,rfl⟩:=h;exists _,_,_,rfl;have k:crs (x,y) (x+3,y) (x+1,y+e)=3*e:=by unfold crs; dsimp only; grind
 by_cases z:0<e
 ·rw[x3 (by dsimp only; lia)];erw[crs3 (by rw[k]; lia) ?_ ?_]<;> unfold crs <;> dsimp only <;> grind
 ·rw[x4 (by dsimp only; lia)];rwa[crs3n (by rw[k]; lia)]
def Wl{i:Int}(h:i.natAbs<=3000):i.natAbs.log2<20:=by
 by_cases e:i.natAbs=0
 ·rw[e]; decide
 ·exact Bf ((Gw e).mpr (show _<2^12 by lia)) (by decide)
def wA{i:Int}(h:i.natAbs<=10^20):zf i:=by
 unfold zf;by_cases e:i.natAbs=0
 ·rw[e]; decide
 ·exact Bf ((Gw e).mpr (show _<2^67 from CJ h (by decide))) (by decide)
def asc_0:oN "" :=⟨λc hc=>(nomatch hc),by decide⟩
def Ux{b:Bool}{A B:Prop}(h1:b=Iq->A)(h2:b=Ir->B):if b=Iq then A else B:=by
 cases b
 ·rwa[h2 rfl]
 ·rwa[h1 rfl]
def ni{vs:List V}{x n:Int}(h:0<n)(hn:n=(vs.length:Int)):∃ v,v∈vs/\atI vs (x%n)=Io v:=by
 have h0:=w5 x (show n≠0 by lia);have h1:=o7 x h;generalize x%n=y at h0 h1;obtain⟨k,rfl⟩:=AI h0;have hk:k<vs.length:=by lia
 rwa[vs[k],Bw hk,wZ (d4 hk)]
def Tg{vs:List V}{y:Int}(h0:0<=y)(h1:y<(vs.length:Int)):∃ v,v∈vs/\atI vs y=Io v:=by
 obtain⟨k,rfl⟩:=AI h0;have hk:k<vs.length:=by lia
 rwa[vs[k],Bw hk,wZ (d4 hk)]
def cutIH{ok:Int->Hp->Prop}{G:Prop}{R:Int->Hp->Prop}(h1:(∀ m H,ok m H->R m H)->G)(h2:∀ m H,ok m H->R m H):G:=h1 h2
def cutSH{ok:g8->Hp->Prop}{G:Prop}{R:g8->Hp->Prop}(h1:(∀ m H,ok m H->R m H)->G)(h2:∀ m H,ok m H->R m H):G:=h1 h2
def Tin(H:Hp)(p:b9):Prop:=∃ x y:Int,H p=Io (.tup [.int x,.int y])/\zf x/\zf y
def Tin.to{H H':Hp}{p:b9}(h:Tin H p)(s:Same H H'):Tin H' p:=let ⟨x,y,e,r⟩:=h;⟨x,y,s _ _ e,r⟩
def Tin.new{H:Hp}{p:b9}{x y:Int}(h1:x.natAbs<=10^20)(h2:y.natAbs<=10^20):Tin (upd H p (.tup [.int x,.int y])) p:=⟨x,y,zA,wA h1,wA h2⟩
def Ve{c:Nat}{n:Int}(h:c<128)(h1:1<=n)(h8:n<=8):oN (WP ⟨#[c]⟩ n):=by
 erw[λd hd=>?_,?_]
 ·have:=Yu hd;simp at this;lia
 ·rw[Xy h1];show 1*n.toNat<=50;lia
end Sea

namespace Sea
def MkR(σ:St)(H:Hp)(te:TE)(x:g8)(b:Bool):Prop:=∀ G K,Same H G->(∀ t,G t=Ip->K (.ref t) (upd G t (.tup [.str x,.bl b])))->te σ G K
def MkA(σ:St)(H:Hp)(ta:TA)(ws:List (g8×Bool)):Prop:=∀ G K,Same H G->(∀ ts G',Same G G'->nY G' ts ws->K (ts.map V.ref) G')->ta σ G K
section
variable{σ:St}{H G:Hp}{te:TE}{ta:TA}{x:g8}{b:Bool}{ws vs:List (g8×Bool)}{K:VK}
def MkR.of{r:List V->Hp->VK->Prop}{n:g8}{v:V}{y:b9}(hv:σ[0]?=Io (Io (.ref y)))(h:∀ G Q,Same H G->Q (.bl b) G->r [.ref y,v] G Q):MkR σ H (tTup (ip (tC (.str n)) (ip (tCB r (ip (ZW 0) (ip (tC v) YR))) YR))) n b :=
 λG _ s k=>⟨_,hv,h G _ s ⟨(by show 2<=sizeLine; decide),k⟩⟩
def nY.cons{ts:List b9}{t:b9}(e:G t=Io (.tup [.str x,.bl b]))(h:nY G ts ws):nY G (t::ts) ((x,b)::ws):=by
 erw[by rw[m9,m9,h.len],λj u w hu hw=>?_];cases j with
 | zero=>cases hu; cases hw; rwa[e]
 | succ j=>rwa[h.at_ j u w hu hw]
def nY.app{ts us:List b9}(h:nY G ts ws)(k:nY G us vs):nY G (ts++us) (ws++vs):=by
 erw[by rw[f8,f8,h.len,k.len],λj u w hu hw=>?_];by_cases z:j<ts.length
 ·rw[A7 z] at hu;rw[A7 (by rw[<- h.len]; rwa[z])] at hw;rwa[h.at_ j u w hu hw]
 ·rw[Ay (by lia)] at hu;rw[Ay (by rw[<- h.len]; lia),<- h.len] at hw;rwa[k.at_ _ u w hu hw]
def MkA.nil:MkA σ H YR []:=λG _ _ k=>k [] G (Same.refl G) nY.nil
def MkA.cons(m:MkR σ H te x b)(h:MkA σ H ta ws):MkA σ H (ip te ta) ((x,b)::ws):=λG _ s k =>
 m G _ s λt ht =>
  have st:=zD ht (.tup [.str x,.bl b])
  h _ _ (s.trans st) λts G' s' R=>k (t::ts) G' (st.trans s') (nY.cons (s' _ _ zA) R)
def MkA.lst(h:MkA σ H ta ws)(hl:ws.length<=1000)(s:Same H G)(k:∀ l ts G',Same G G'->G' l=Io (.lst (ts.map V.ref))->nY G' ts ws->K (.ref l) G'):TC ta σ G K :=
 h _ _ s λts G' s' R=>⟨oK (by rw[a7,R.len]; exact hl),λp hp =>
  have sp:=zD hp (.lst (ts.map V.ref))
  k p ts _ (s'.trans sp) zA (R.to sp)⟩
def MkA.cat{so:b9}{ts:List b9}(h:MkA σ H ta vs)(hl:vs.length<=100)(s:Same H G)(hv:σ[1]?=Io (Io (.ref so)))(e:G so=Io (.lst (ts.map V.ref)))(R:nY G ts ws)(hw:ws.length<=100)(k:∀ q ts' G',Same H G'->G' q=Io (.lst (ts'.map V.ref))->nY G' ts' (ws++vs)->K (.ref q) G'):tOp Sx (ZW 1) (TC ta) σ G K :=
 ⟨_,hv,h.lst (by lia) s λl us G' s' el Ru=>⟨so,l,_,_,rfl,rfl,s' _ _ e,el,oK (by rw[a7,a7,R.len,Ru.len]; lia),λq hq =>
  have sq:=zD hq (.lst (ts.map V.ref++us.map V.ref))
  k q (ts++us) _ ((s.trans s').trans sq) (by rw[zA,i8]) (((R.to s').app Ru).to sq)⟩⟩
def MkA.seqL{u:TS}{D:bu}(h:MkA σ H ta ws)(hl:ws.length<=1000)(s:Same H G)(k:∀ l ts G',Same G G'->G' l=Io (.lst (ts.map V.ref))->nY G' ts ws->u D (σ.set 1 (Io (.ref l))) G'):Sv (To (TC ta) (iU 1)) u D σ G:=h.lst (K:=λx H1=>iU 1 x σ H1 (u D)) hl s k
def MkA.seqC{u:TS}{D:bu}{so:b9}{ts:List b9}(h:MkA σ H ta vs)(hl:vs.length<=100)(s:Same H G)(hv:σ[1]?=Io (Io (.ref so)))(e:G so=Io (.lst (ts.map V.ref)))(R:nY G ts ws)(hw:ws.length<=100)(k:∀ q ts' G',Same H G'->G' q=Io (.lst (ts'.map V.ref))->nY G' ts' (ws++vs)->u D (σ.set 1 (Io (.ref q))) G'):Sv (To (tOp Sx (ZW 1) (TC ta)) (iU 1)) u D σ G:=h.cat (K:=λx H1=>iU 1 x σ H1 (u D)) hl s hv e R hw k
end
def oU:Deed->g8
 | .mark _ _ _ => "mark"
 | .move _ _ _ => "move"
 | .unmark _ => "unmark"
 | .bank _ _ => "bank"
 | .level _ => "level"
 | .sail _ _ => "sail"
 | .right _ _ _ => "right"
 | .bearing _ _ _ _ _ _ => "bearing"
 | .range _ _ _ => "range"
 | .strike _ => "strike"
def fC{H:Hp}{D:Deed}{v:V}(h:Rep H D.dt v):∃(t:b9)(xs:List V),v=.ref t/\H t=Io (.tup (.str (oU D)::xs)):=by
 cases D <;>(obtain⟨t,xs,rfl,ht,r⟩:=yF.mp h; obtain⟨_,_,rfl,k1,_⟩:=zL.mp r; rw[zW.mp k1] at ht; rwa[_,_,U,ht])
end Sea

namespace L2
section
variable{X:Cx}{o:w4}{m:g8}{apos pos:Co}{C g:b9}{n:Nat}{ps:List g8}{sp:Sp}{ta:TE}
def ir(EE:St->XK){pl:GW Bool}(hb:InB X.base λK=>Cls K C/\jF K C m g)(h:cA X.prog X.w X.K X.mg X.base g n ps sp)(hx:gQ X EE)(hr:qH n X.A)(he:PE X o ta)
  (ht:eval (.Call (.Attribute o m apos) [] [] pos) X.env=(do
   let ov <- eval o X.env
   standAt apos.atName
   let (f,first) <- holding [ov] (getMethod ov m pl)
   callWith pos f first (backTo pos (starEach [] X.env)) (backToKw pos (keywordEach [] X.env))):=by rfl) :
  PE X (.Call (.Attribute o m apos) [] [] pos) (Wk C m sp EE ta YR):=by
 obtain⟨K,KB,c,hm⟩:=hb;obtain⟨fd,F,b⟩:=h;intro Is s σ H Q I h;erw[Cc (pl:=pl) (thn (he Is s σ H _ I h) λu s1 ⟨x,H1,I1,rx,a,dx,fs,ex,ea,l,q⟩=>?_) ht];subst ex;obtain rfl:u=i9 a:=rx;erw[xk (X:=X.withK K) (I1.withK KB) ea c hm l ?_];rwa[Cv (first:=[.ref a]) (I1.withK KB).kIn hm.kp (ko (us:=[.ref a]) (vs:=[.ref a]) F hr (.all b) hx I1 (.cons rfl .nil) q)]
end
end L2

namespace Sea
def LwO(H:Hp)(X:b9->Prop)(d:b9)(S:BS):Prop:=∃ m b r n,¬ X r/\LwA H d m b r n S
def LwO.at{H:Hp}{X:b9->Prop}{d:b9}{S:BS}(h:LwO H X d S):ZM H d S:=let ⟨m,b,r,n,_,k⟩:=h;⟨m,b,r,n,k⟩
structure HL(H:Hp)(X:b9->Prop)(sl rl:b9)(Ss:List BS)(Ds:List Deed):Prop where
 mk ::
 n1:¬ X sl
 n2:¬ X rl
 s:∃ ss:List b9,H sl=Io (.lst (ss.map V.ref))/\ss.length=Ss.length/\∀(i:Nat)(d:b9)(S:BS),ss[i]?=Io d->Ss[i]?=Io S->LwO H X d S
 r:∃ xs,H rl=Io (.lst xs)/\xN H (Ds.map Deed.dt) xs
section
variable{φ X X':b9->Prop}{H H1:Hp}{C b p l l' sl rl tp:b9}{Ss:List BS}{Ds:List Deed}{j k:Nat}{S S':BS}{D:Deed}
def HL.sam(h:HL H X sl rl Ss Ds)(s:yY φ H H1)(nd:∀ a kvs,Rd H a (.dK kvs)->¬ φ a)(np:∀ a xs,H a=Io (.tup xs)->¬ φ a)(nl:∀ x xs,H x=Io (.lst xs)->¬ X x->¬ φ x):HL H1 X sl rl Ss Ds:=by
 obtain⟨ss,e1,e2,e3⟩:=h.s;obtain⟨xs,e4,e5⟩:=h.r;erw[h.n1,h.n2,⟨ss,s.lst (nl _ _ e1 h.n1) e1,e2,λi d S g1 g2=>?_⟩,xs,s.lst (nl _ _ e4 h.n2) e4,e5.sam s np];obtain⟨m,b,r,n,r1,k⟩:=e3 i d S g1 g2;rwa[m,b,r,n,r1,k.samE s nd np λxs e=>nl r xs e r1]
def HL.to(h:HL H X sl rl Ss Ds)(s:Sam H H1):HL H1 X sl rl Ss Ds:=h.sam s (λ_ _ _=>id) (λ_ _ _=>id) (λ_ _ _ _=>id)
def HL.re(h:HL H X sl rl Ss Ds)(w:∀ x xs,H x=Io (.lst xs)->¬ X x->¬ X' x):HL H X' sl rl Ss Ds:=by
 obtain⟨ss,e1,e2,e3⟩:=h.s;obtain⟨xs,e4,e5⟩:=h.r;erw[w _ _ e1 h.n1,w _ _ e4 h.n2,⟨ss,e1,e2,λi d S g1 g2=>?_⟩,xs,e4,e5];obtain⟨m,b,r,n',r1,k⟩:=e3 i d S g1 g2;obtain⟨rs,er,_⟩:=k.ru;rwa[m,b,r,n',w _ _ er r1,k]
abbrev kG(X:b9->Prop)(l:b9):b9->Prop:=λx=>X x\/x=l
def HL.newl(h:HL H X sl rl Ss Ds)(n:H l'=Ip):HL H (kG X l') sl rl Ss Ds:=h.re λ_ _ e n1 z=>z.elim n1 (zF e n)
structure HB(C:b9)(H:Hp)(b p l:b9)(X:b9->Prop)(tp:b9)(Ss:List BS)(Ds:List Deed)(j k:Nat):Prop where
 mk ::
 bk:∃ S,Ss[j]?=Io S/\BkL C H b p l S ((Ds.zip Ss).take j) ((Ds.zip Ss.tail).drop j).reverse
 lp:∃ sl rl,H tp=Io (.tup [.ref sl,.ref rl,.int j])/\HL H X sl rl Ss Ds
 xp:X p
 xl:X l
 len:Ss.length=Ds.length+1
 le:j<=Ds.length
 lk:Ds.length<=k
 st:∀ S∈Ss,pQ S/\1<=S.coming/\S.coming<=1+k
 tm:∀ D∈Ds,ph D
def HB.to(h:HB C H b p l X tp Ss Ds j k)(s:Sam H H1):HB C H1 b p l X tp Ss Ds j k :=
 ⟨let ⟨S,e,q⟩:=h.bk;⟨S,e,q.to s⟩,let ⟨sl,rl,e,q⟩:=h.lp;⟨sl,rl,s.tup id e,q.to s⟩,h.xp,h.xl,h.len,h.le,h.lk,h.st,h.tm⟩
def HB.re(h:HB C H b p l X tp Ss Ds j k)(w:∀ x xs,H x=Io (.lst xs)->¬ X x->¬ X' x)(i:∀ x,X x->X' x):HB C H b p l X' tp Ss Ds j k :=
 ⟨h.bk,let ⟨sl,rl,e,q⟩:=h.lp;⟨sl,rl,e,q.re w⟩,i _ h.xp,i _ h.xl,h.len,h.le,h.lk,h.st,h.tm⟩
def Wj(g1:Ds[j]?=Io D)(g2:Ss[j]?=Io S):(Ds.zip Ss).take (j+1)=(Ds.zip Ss).take j++[(D,S)]:=by
 rw[w6,show(Ds.zip Ss)[j]?=Io (D,S) from Ct.mpr ⟨g1,g2⟩];rfl
def df(g1:Ds[j]?=Io D)(g2:Ss[j+1]?=Io S):((Ds.zip Ss.tail).drop j).reverse=((Ds.zip Ss.tail).drop (j+1)).reverse++[(D,S)]:=by
 have e:(Ds.zip Ss.tail)[j]?=Io (D,S):=Ct.mpr ⟨g1,by rw[List.getElem?_tail]; rwa[g2]⟩;obtain⟨h,e2⟩:=g9.mp e;rw[List.drop_eq_getElem_cons h,List.reverse_cons,e2]
def WX(hl:Ss.length=Ds.length+1):((Ds.zip Ss).take j).map (·.1)=Ds.take j:=by
 rw[C5,Ej (by lia)]
def Xf(hl:Ss.length=Ds.length+1):((Ds.zip Ss.tail).drop j).map (·.1)=Ds.drop j:=by
 rw[Fo,Ej (by rw[Ek]; lia)]
def VS{X:BS}(hl:Ss.length=Ds.length+1)(hj:j<=Ds.length)(g:Ss[j]?=Io S):((Ds.take j++[D]).zip (Ss.take (j+1)++[X])).take (j+1)=(Ds.zip Ss).take j++[(D,S)]/\(((Ds.take j++[D]).zip (Ss.take (j+1)++[X]).tail).drop (j+1)).reverse=[]:=by
 constructor
 ·have e1:Ss.take (j+1)=Ss.take j++[S]:=by rw[w6,g]; rfl
  have e2:(Ds.take j++[D]).zip (Ss.take (j+1)++[X])=(Ds.zip Ss).take j++[(D,S)]:=by
   rw[e1,F3,List.zip_append (by rw[j8,j8]; lia)];show _=(List.zipWith Prod.mk Ds Ss).take j++_;rw[List.take_zipWith];rfl
  rw[e2,Ab]
  ·rw[f8,j8];show _+1<=_;lia
 ·rw[B2]
  ·rfl
  ·rw[Bs,f8,j8];show min (_+1) _<=_;lia
end
end Sea

namespace Sea
def dX{n:Nat}{D:Deed}(h:ph D):dep (n+3) D.dt:=by
 cases D with
 | bank _ cs=>exact xW (g7 rfl) (dt3 yQ yQ (xW (by rw[a7]; have:=h.2.1; lia) λd hd=>by obtain⟨c,_,rfl⟩:=i4.mp hd; rwa[oP]))
 | bearing _ _ _ _ _ _=>rwa[xW (g7 rfl) λd hd=>(i7.mp hd).elim (λz=>z ▸ yQ) (dt4 xR yQ oP oP d)]
 | mark n x y=>rwa[xW (g7 rfl) (dt4 yQ yQ xR xR)]
 | move n x y=>rwa[xW (g7 rfl) (dt4 yQ yQ xR xR)]
 | right k x y=>rwa[xW (g7 rfl) (dt4 yQ xR xR xR)]
 | range m l r=>rwa[xW (g7 rfl) (dt4 yQ xR yQ yQ)]
 | sail x y=>rwa[xW (g7 rfl) (dt3 yQ xR xR)]
 | unmark n=>rwa[xW (g7 rfl) (dt2 yQ yQ)]
 | level n=>rwa[xW (g7 rfl) (dt2 yQ yQ)]
 | strike k=>rwa[xW (g7 rfl) (dt2 yQ xR)]
def fj{d p l c:b9} : pb "past" (.ref c) (bkF d p l)=bkF d c l:=by symm
structure HC(C:b9)(H:Hp)(b p l:b9)(X:b9->Prop)(sl rl:b9)(Ss:List BS)(Ds:List Deed)(j k:Nat):Prop where
 mk ::
 bk:∃ S,Ss[j]?=Io S/\BkL C H b p l S ((Ds.zip Ss).take j) ((Ds.zip Ss.tail).drop j).reverse
 hl:HL H X sl rl Ss Ds
 xp:X p
 xl:X l
 len:Ss.length=Ds.length+1
 le:j<=Ds.length
 lk:Ds.length<=k
 st:∀ S∈Ss,pQ S/\1<=S.coming/\S.coming<=1+k
 tm:∀ D∈Ds,ph D
section
variable{X:b9->Prop}{H H1 H2:Hp}{C b p l sl rl tp:b9}{Ss:List BS}{Ds:List Deed}{j k:Nat}{S S0:BS}{D D':Deed}{pre:List (Deed×BS)}
def HL.bl(h:HL H X sl rl Ss Ds)(xp:X p)(xl:X l)(s:yY (Bl b p l) H H1){dx:b9}{fs:List (g8×V)}{ps ls:List V}(hb:H b=Io (.ins C dx fs))(hp:H p=Io (.lst ps))(hl:H l=Io (.lst ls)):HL H1 X sl rl Ss Ds :=
 h.sam s (ZG hb hp hl) (au hb hp hl) λx ys e n1 z=>by
  rcases z with z | z | z
  ·rw[z,hb] at e; cases e
  ·rwa[n1 (z ▸ xp)]
  ·rwa[n1 (z ▸ xl)]
end
end Sea

namespace L2
structure OwnI(K:b7)(C:b9):Prop where
 mk ::
 cl:Cls K C
 ha:AA K (.ref C) "__class__" = Io (Io (.builtin "object.__class__"))
 hn:DU K (.builtin "object.__class__") "__get__" = Io (Io (.builtin "getset_descriptor.__get__"))
 htk:GA K (.builtin "object.__class__")=Io Iq
 hm:Hu K C (.type "object")=Io Iq
 one:AS K (.ref C) (.ref C)=Io Iq
section
variable{X:Cx}
def cr{C:b9}(hb:InB X.base λK=>OwnI K C):uK X (.builtin "isinstance") (λxs H Q=>∃(a dx:b9)(fs:List (g8×V)),xs=[.ref a,.ref C]/\H a=Io (.ins C dx fs)/\Q (.bl Iq) H):=by
 obtain⟨K,KB,o⟩:=hb;intro Is s σ H xs us Q I r h;obtain⟨a,dx,fs,rfl,ha,q⟩:=h;obtain⟨u,w,rfl,ru,rw_⟩:=Xu r;obtain rfl:w=i9 C:=rw_;rwa[jk (X:=X.withK K) (I.withK KB) ru (.ins ha o.cl o.ha o.hn o.htk o.hm) o.one λtk=>⟨.bl Iq,H,I.tok tk,rfl,q⟩]
end
end L2

-- LAW
namespace Sea
local macro_rules | `(tactic| ac_rfl) => `(tactic| exact ⟨rfl, rfl, rfl, by decide +kernel, rfl, by decide +kernel, by decide +kernel⟩)
structure Zs(mg:g8->Option c7):Prop where
 ValueError:mg "ValueError" = Ip
 abs:mg "abs" = Ip
 all:mg "all" = Ip
 any:mg "any" = Ip
 bool:mg "bool" = Ip
 dict:mg "dict" = Ip
 int:mg "int" = Ip
 isinstance:mg "isinstance" = Ip
 len:mg "len" = Ip
 list:mg "list" = Ip
 max:mg "max" = Ip
 min:mg "min" = Ip
 range:mg "range" = Ip
 reversed:mg "reversed" = Ip
 sorted:mg "sorted" = Ip
 str:mg "str" = Ip
 tuple:mg "tuple" = Ip
 zip:mg "zip" = Ip
def aE:zP ["one","other"] ["one","other"] (zJ pB):=by ac_rfl
def qa:zP ["start","end"] ["start","end"] (zJ uT):=by ac_rfl
def xS:zP ["corners","number","start","way","further","other"] ["corners","number"] (zJ uO):=by ac_rfl
def js:zP ["corners"] ["corners"] (zJ qV):=by ac_rfl
def pA:zP [] [] (zJ uR):=by ac_rfl
def qz:zP ["state","kind","key","value","fresh"] ["state","kind","key","value"] (zJ qO):=by ac_rfl
def qj:zP ["state","kind","key","fresh"] ["state","kind","key"] (zJ qW):=by ac_rfl
def gR:zP ["numbers","most"] ["numbers","most"] (zJ xu):=by ac_rfl
def nV:zP ["name"] ["name"] (zJ vK):=by ac_rfl
def nC:zP ["state","kind","name"] ["state","kind","name"] (zJ vQ):=by ac_rfl
def pq:zP ["place"] ["place"] (zJ uJ):=by ac_rfl
def ml:zP ["run"] ["run"] (zJ tW):=by ac_rfl
def nN:zP ["state","kind"] ["state","kind"] (zJ vO):=by ac_rfl
def nh:zP ["state","name"] ["state","name"] (zJ vS):=by ac_rfl
def sk:zP ["moment","runs"] ["moment","runs"] (zJ wO):=by ac_rfl
def mn:zP ["direction"] ["direction"] (zJ tS):=by ac_rfl
def pi:zP ["state","left","right"] ["state","left","right"] (zJ uL):=by ac_rfl
def sU:zP ["state","row","name","place"] ["state","row"] (zJ vM):=by ac_rfl
def uH:zP ["state","row","place","fresh","note"] ["state","row"] (zJ vV):=by ac_rfl
def vH:zP ["state","row","name","note"] ["state","row"] (zJ wR):=by ac_rfl
def uU:zP ["state","row","name","corners","corner"] ["state","row"] (zJ vN):=by ac_rfl
def zp:zP ["state","row","name"] ["state","row"] (zJ uX):=by ac_rfl
def yz:zP ["state","row","run"] ["state","row"] (zJ vP):=by ac_rfl
def tH:zP ["state","row","number","run"] ["state","row"] (zJ uI):=by ac_rfl
def yg:zP ["state","row","fresh"] ["state","row"] (zJ vR):=by ac_rfl
def vt:zP ["state","row"] ["state","row"] (zJ wK):=by ac_rfl
def qf:zP ["state","row"] ["state","row"] (zJ uP):=by ac_rfl
def qF:zP ["state","row","number"] ["state","row"] (zJ wV):=by ac_rfl
def ce:zP ["state","row"] ["state","row"] (zJ uz):=by ac_rfl
def cP:zP ["_law_number"] ["_law_number"] (zJ uf):=by ac_rfl
def wJ:zP ["_law_script","_law_many","_law_rows","_law_mix","_law_cell","_law_rest"] ["_law_script","_law_many"] (zJ uh):=by ac_rfl
def yZ:zP ["_law_some","_law_many","_law_letters","_law_rows","_law_at","_law_raw","_law_size","_law_step_here","_law_word_here","_law_place","_law_k","_law_sign"] ["_law_some","_law_many"] (zJ uu):=by ac_rfl
def Xa:zP [] [] (zJ kU):=by ac_rfl
def aT:zP ["_law_told","_law_due_here"] ["_law_told","_law_due_here"] (zJ vz):=by ac_rfl
def xA:zP ["_law_e","_law_so"] ["_law_e"] (zJ qP):=by ac_rfl
def iB:zP ["_law_book","_law_way_here","_law_e"] ["_law_book","_law_way_here"] (zJ pO):=by ac_rfl
def yk:zP ["_law_names_here","_law_size","_law_letter"] ["_law_names_here"] (zJ qR):=by ac_rfl
def aV:zP ["_law_raw","_law_names_here"] ["_law_raw","_law_names_here"] (zJ pF):=by ac_rfl
def om:zP ["_law_raw"] ["_law_raw"] (zJ vI):=by ac_rfl
def pI:zP ["_law_one","_law_two","_law_wide","_law_x","_law_y"] ["_law_one","_law_two","_law_wide"] (zJ lX):=by ac_rfl
def fW:zP ["_law_one","_law_other"] ["_law_one","_law_other"] (zJ xo):=by ac_rfl
def xT:zP ["_law_d","_law_wide","_law_one","_law_other"] ["_law_d","_law_wide"] (zJ tV):=by ac_rfl
def zZ:zP ["_law_d","_law_m","_law_names_here","_law_moment","_law_mark","_law_one","_law_other","_law_way_here","_law_menu"] ["_law_d","_law_m","_law_names_here"] (zJ wU):=by ac_rfl
def uv:zP ["_law_d","_law_m","_law_names_here","_law_way_here","_law_name","_law_x","_law_y"] ["_law_d","_law_m","_law_names_here"] (zJ pK):=by ac_rfl
def jo:zP ["_law_name"] ["_law_name"] (zJ qN):=by ac_rfl
def bB:zP ["_law_x","_law_y"] ["_law_x","_law_y"] (zJ pJ):=by ac_rfl
def vJ:zP ["_law_m","_law_deed_here","_law_name","_law_note","_law_other"] ["_law_m","_law_deed_here"] (zJ tQ):=by ac_rfl
def mr:zP ["_law_m","_law_deed_here"] ["_law_m","_law_deed_here"] (zJ tP):=by ac_rfl
def ky:zP ["_law_m","_law_deed_here"] ["_law_m","_law_deed_here"] (zJ rB):=by ac_rfl
def rQ:zP ["_law_m","_law_deed_here","_law_x","_law_y"] ["_law_m","_law_deed_here"] (zJ tX):=by ac_rfl
def Zy:zP ["_law_m","_law_deed_here"] ["_law_m","_law_deed_here"] (zJ pH):=by ac_rfl
def eB:zP ["_law_m","_law_deed_here","_law_word_here"] ["_law_m","_law_deed_here"] (zJ lT):=by ac_rfl
def ju:zP ["_law_book","_law_deed_here","_law_e"] ["_law_book","_law_deed_here"] (zJ pE):=by ac_rfl
def mR:zP ["_law_m","_law_deed_here","_law_later"] ["_law_m","_law_deed_here"] (zJ vw):=by ac_rfl
def xL:zP ["_law_book","_law_past","_law_d","_law_names_here","_law_states","_law_rows","_law_at","_law_way_here","_law_there","_law_due_here","_law_deed_here","_law_good"] ["_law_book","_law_past","_law_d","_law_names_here"] (zJ pX):=by ac_rfl
def kF:zP ["_law_m"] ["_law_m"] (zJ rD):=by ac_rfl
def fi:zP ["_law_book","_law_m"] ["_law_book","_law_m"] (zJ xt):=by ac_rfl
def rF:zP ["_law_book","_law_past","_law_states","_law_rows","_law_at"] ["_law_book","_law_past"] (zJ qY):=by ac_rfl
def yr:zP ["_law_d","_law_x","_law_y"] ["_law_d"] (zJ vU):=by ac_rfl
def su:zP ["_law_places"] ["_law_places"] (zJ wQ):=by ac_rfl
def rL:zP ["_law_script","_law_some","_law_names_here","_law_book","_law_past","_law_k","_law_good","_law_books","_law_pasts","_law_d","_law_at"] ["_law_script"] (zJ fw):=by ac_rfl
def ak:zP ["self"] ["self"] (zJ pT):=by ac_rfl
def oS:zP ["self","row","number","fresh"] ["self","row"] (zJ pS):=by ac_rfl
def jR:zP ["self","taken","given","pair"] ["self","taken","given"] (zJ pC):=by ac_rfl
def ZJ:zP ["self"] ["self"] (zJ pU):=by ac_rfl
def bL:zP ["self"] ["self"] (zJ pW):=by ac_rfl
def cM:zP ["self"] ["self"] (zJ va):=by ac_rfl
def fo:zP ["self"] ["self"] (zJ xv):=by ac_rfl
def je:zP ["self","other"] ["self"] (zJ pV):=by ac_rfl
def lF:zP ["self","places"] ["self"] (zJ ue):=by ac_rfl
def cE:zP ["self"] ["self"] (zJ uy):=by ac_rfl
def hV:zP ["self","runs"] ["self"] (zJ pP):=by ac_rfl
def cT:zP ["self"] ["self"] (zJ vh):=by ac_rfl
def fF:zP ["self"] ["self"] (zJ xq):=by ac_rfl
def zv:b9:=82
def wu:b9:=130
def yM:b9:=250
def xw:b9:=190
def rV:b9:=238
def wF:b9:=202
def sX:b9:=118
def qE:b9:=166
def sW:b9:=142
def yA:b9:=57
def yu:b9:=106
def tG:b9:=214
def tY:b9:=226
def sY:b9:=178
def og:b9:=269
def wY:b9:=94
def uG:b9:=70
def sC:b9:=154
def excL:List b9:=[sC,uG,wY,og,sY,tY,tG,yu,sW,qE,sX,wF,rV,xw,yM,wu,zv]
def bkC:b9:=607
def Tk:b9:=272
def Uf:List (Key×V):=[(.inr "marks",.int 20),(.inr "banks",.int 8),(.inr "runs",.int 12),(.inr "notes",.int 24)]
def We:b9:=437
def Wb:List (Key×V):=[(.inr "mark",.ref 366),(.inr "move",.ref 373),(.inr "unmark",.ref 380),(.inr "bank",.ref 387),(.inr "level",.ref 394),(.inr "sail",.ref 401),(.inr "right",.ref 408),(.inr "bearing",.ref 422),(.inr "range",.ref 429),(.inr "strike",.ref 436)]
def lK:b9:=458
def fU:b9:=535
def lJ:b9:=542
def fK:b9:=549
def fE:b9:=556
def kN:b9:=561
def oO:b9:=566
def gT:b9:=573
def kL:b9:=578
def lW:b9:=585
def gW:b9:=590
def kI:b9:=597
def uo:b9:=604
structure Cb(P:j9)(w:n9)(mg:g8->Option c7)(base:o0):Prop where
 state:InB base λK=>Cls K bkC/\xf K bkC "state"
 past:InB base λK=>Cls K bkC/\xf K bkC "past"
 later:InB base λK=>Cls K bkC/\xf K bkC "later"
 m_deed:InB base λK=>Cls K bkC/\jF K bkC "deed" fU
 m_step:InB base λK=>Cls K bkC/\jF K bkC "step" lJ
 m_undo:InB base λK=>Cls K bkC/\jF K bkC "undo" fK
 m_redo:InB base λK=>Cls K bkC/\jF K bkC "redo" fE
 m_deeds:InB base λK=>Cls K bkC/\jF K bkC "deeds" kN
 m_undone:InB base λK=>Cls K bkC/\jF K bkC "undone" oO
 m_twin:InB base λK=>Cls K bkC/\jF K bkC "twin" gT
 m_marks:InB base λK=>Cls K bkC/\jF K bkC "marks" kL
 m_banks:InB base λK=>Cls K bkC/\jF K bkC "banks" lW
 m_runs:InB base λK=>Cls K bkC/\jF K bkC "runs" gW
 m_notes:InB base λK=>Cls K bkC/\jF K bkC "notes" kI
 m_coming:InB base λK=>Cls K bkC/\jF K bkC "coming" uo
 make:InB base λK=>Mk K bkC lK
 gBook:mg "Book" = Io (.ref bkC)
 dMOST:Uv P w base Tk Uf
 gMOST:mg "MOST" = Io (.ref Tk)
 dAFTER:Uv P w base We Wb
 gAFTER:mg "AFTER" = Io (.ref We)
 LONGEST_NAME:∃ k,mg "LONGEST_NAME" = Io (.int 8 k)
 FARTHEST:∃ k,mg "FARTHEST" = Io (.int 1000 k)
 LONGEST_WAY:∃ k,mg "LONGEST_WAY" = Io (.int 100 k)
 t_mark:mg "after_mark" = Io (.ref 366)
 t_move:mg "after_move" = Io (.ref 373)
 t_unmark:mg "after_unmark" = Io (.ref 380)
 t_bank:mg "after_bank" = Io (.ref 387)
 t_level:mg "after_level" = Io (.ref 394)
 t_sail:mg "after_sail" = Io (.ref 401)
 t_right:mg "after_right" = Io (.ref 408)
 t_bearing:mg "after_bearing" = Io (.ref 422)
 t_range:mg "after_range" = Io (.ref 429)
 t_strike:mg "after_strike" = Io (.ref 436)
 gBadBank:mg "BadBank" = Io (.ref sC)
 gBadName:mg "BadName" = Io (.ref uG)
 gBadPlace:mg "BadPlace" = Io (.ref wY)
 gBadRow:mg "BadRow" = Io (.ref og)
 gBadRun:mg "BadRun" = Io (.ref sY)
 gBadTurn:mg "BadTurn" = Io (.ref tY)
 gBadWay:mg "BadWay" = Io (.ref tG)
 gFull:mg "Full" = Io (.ref yu)
 gMarkError:mg "MarkError" = Io (.ref yA)
 gNeeded:mg "Needed" = Io (.ref sW)
 gNoBank:mg "NoBank" = Io (.ref qE)
 gNoMark:mg "NoMark" = Io (.ref sX)
 gNoMoment:mg "NoMoment" = Io (.ref wF)
 gNoNote:mg "NoNote" = Io (.ref rV)
 gNoRun:mg "NoRun" = Io (.ref xw)
 gNothingLeft:mg "NothingLeft" = Io (.ref yM)
 gSame:mg "Same" = Io (.ref wu)
 gTaken:mg "Taken" = Io (.ref zv)
 e_BadBank:p7 "BadBank" sC bmV "ValueError.__new__" mg base
 t_BadBank_MarkError:yb base (.ref sC) yA
 e_BadName:p7 "BadName" uG bmV "ValueError.__new__" mg base
 t_BadName_MarkError:yb base (.ref uG) yA
 e_BadPlace:p7 "BadPlace" wY bmV "ValueError.__new__" mg base
 t_BadPlace_MarkError:yb base (.ref wY) yA
 e_BadRun:p7 "BadRun" sY bmV "ValueError.__new__" mg base
 t_BadRun_MarkError:yb base (.ref sY) yA
 e_BadTurn:p7 "BadTurn" tY bmV "ValueError.__new__" mg base
 t_BadTurn_MarkError:yb base (.ref tY) yA
 e_BadWay:p7 "BadWay" tG bmV "ValueError.__new__" mg base
 t_BadWay_MarkError:yb base (.ref tG) yA
 e_Full:p7 "Full" yu bmV "ValueError.__new__" mg base
 t_Full_MarkError:yb base (.ref yu) yA
 e_Needed:p7 "Needed" sW bmV "ValueError.__new__" mg base
 t_Needed_MarkError:yb base (.ref sW) yA
 e_NoBank:p7 "NoBank" qE bmV "ValueError.__new__" mg base
 t_NoBank_MarkError:yb base (.ref qE) yA
 e_NoMark:p7 "NoMark" sX bmV "ValueError.__new__" mg base
 t_NoMark_MarkError:yb base (.ref sX) yA
 e_NoMoment:p7 "NoMoment" wF bmV "ValueError.__new__" mg base
 t_NoMoment_MarkError:yb base (.ref wF) yA
 e_NoNote:p7 "NoNote" rV bmV "ValueError.__new__" mg base
 t_NoNote_MarkError:yb base (.ref rV) yA
 e_NoRun:p7 "NoRun" xw bmV "ValueError.__new__" mg base
 t_NoRun_MarkError:yb base (.ref xw) yA
 e_NothingLeft:p7 "NothingLeft" yM bmV "ValueError.__new__" mg base
 t_NothingLeft_MarkError:yb base (.ref yM) yA
 e_Same:p7 "Same" wu bmV "ValueError.__new__" mg base
 t_Same_MarkError:yb base (.ref wu) yA
 e_Taken:p7 "Taken" zv bmV "ValueError.__new__" mg base
 t_Taken_MarkError:yb base (.ref zv) yA
 isx:InB base λK=>Uy K excL=Iq
 i_own:InB base λK=>OwnI K bkC
set_option hygiene false in
local macro_rules | `(tactic| fail) => `(tactic| first | with_reducible exact yL | with_reducible exact zI | ((with_reducible apply Ud); exact rfl; fail; fail) | with_reducible exact zK | with_reducible exact pc | with_reducible exact dQ | ((with_reducible apply Tv); first | ((with_reducible apply Ut "bool"); exact wq (v := .ty "bool") rfl Z.bool ZK rfl) | ((with_reducible apply Ut "dict"); exact wq (v := .ty "dict") rfl Z.dict wt rfl) | ((with_reducible apply Ut "int"); exact wq (v := .ty "int") rfl Z.int aM rfl) | ((with_reducible apply Ut "list"); exact wq (v := .ty "list") rfl Z.list qT rfl) | ((with_reducible apply Ut "str"); exact wq (v := .ty "str") rfl Z.str Ws rfl) | ((with_reducible apply Ut "tuple"); exact wq (v := .ty "tuple") rfl Z.tuple fZ rfl) | exact pv 0 | exact pv 1 | exact pv 2 | exact pv 3 | exact pv 4 | exact pv 5 | exact pv 6 | exact pv 7 | exact pv 8 | exact pv 9 | exact pv 10 | exact pv 11) | ((with_reducible apply m_sub); first | ((with_reducible apply uV WR); fail; fail; fail) | ((with_reducible apply m_ix); exact λ_ _ => rfl; fail; fail)) | ((with_reducible apply m_bin); first | ((with_reducible apply wH xa); fail; fail) | ((with_reducible apply wH Wr); fail; fail) | ((with_reducible apply wH TH); fail; fail) | ((with_reducible apply wH Yw); fail; fail) | ((with_reducible apply wH mJ); fail; fail) | ((with_reducible apply wH Tm); fail; fail)) | ((with_reducible apply Ts); first | ((with_reducible apply m_own); (with_reducible assumption); exact ⟨rfl, rfl, rfl, rfl, rfl⟩; exact hr.mono (by decide); exact rfl; decide; exact rfl; exact rfl; fail) | ((with_reducible apply iC Ys UF); exact Z.abs; exact rfl; decide; decide; exact rfl; exact rfl; fail) | ((with_reducible apply iC (vZ rfl) qp); exact Z.all; exact rfl; decide; decide; exact rfl; exact rfl; fail) | ((with_reducible apply iC (gC rfl) Wq); exact Z.any; exact rfl; decide; decide; exact rfl; exact rfl; fail) | ((with_reducible apply iC fO zV); exact Z.isinstance; exact rfl; decide; decide; exact rfl; exact rfl; fail) | ((with_reducible apply iC yU uF); exact Z.len; exact rfl; decide; decide; exact rfl; exact rfl; fail) | ((with_reducible apply iC (aG rfl) Td); exact Z.max; exact rfl; decide; decide; exact rfl; exact rfl; fail) | ((with_reducible apply iC (bH rfl) Ub); exact Z.min; exact rfl; decide; decide; exact rfl; exact rfl; fail) | ((with_reducible apply iC call_sortedT tE); exact Z.sorted; exact rfl; decide; decide; exact rfl; exact rfl; fail) | ((with_reducible apply Uu call_bool1 ZK); exact Z.bool; exact rfl; decide; decide; exact rfl; exact rfl; fail) | ((with_reducible apply Uu qG wt); exact Z.dict; exact rfl; decide; decide; exact rfl; exact rfl; fail) | ((with_reducible apply Uu gq aM); exact Z.int; exact rfl; decide; decide; exact rfl; exact rfl; fail) | ((with_reducible apply Uu rJ qT); exact Z.list; exact rfl; decide; decide; exact rfl; exact rfl; fail) | ((with_reducible apply Uu call_str_any Ws); exact Z.str; exact rfl; decide; decide; exact rfl; exact rfl; fail) | ((with_reducible apply Uu call_tuple_of fZ); exact Z.tuple; exact rfl; decide; decide; exact rfl; exact rfl; fail)) | ((with_reducible apply yV); fail) | ((with_reducible apply vB); fail) | ((with_reducible apply pe_un Uc); fail) | ((with_reducible apply XN); fail) | ((with_reducible apply m_cmp); first | ((with_reducible apply sS Vd); fail; fail; exact yS _) | ((with_reducible apply sS UP); fail; fail; exact yS _) | ((with_reducible apply sS aj); fail; fail; exact yS _) | ((with_reducible apply sS wg); fail; fail; exact yS _) | ((with_reducible apply sS kX); fail; fail; exact yS _) | ((with_reducible apply sS WH); fail; fail; exact yS _) | ((with_reducible apply sS op_isN); fail; fail; exact yS _) | ((with_reducible apply sS op_notN); fail; fail; exact yS _)) | ((with_reducible apply US); first | ((with_reducible apply yH Vd); fail; fail; exact yS _) | ((with_reducible apply yH UP); fail; fail; exact yS _) | ((with_reducible apply yH aj); fail; fail; exact yS _) | ((with_reducible apply yH wg); fail; fail; exact yS _) | ((with_reducible apply yH kX); fail; fail; exact yS _) | ((with_reducible apply yH WH); fail; fail; exact yS _) | ((with_reducible apply yH op_isN); fail; fail; exact yS _) | ((with_reducible apply yH op_notN); fail; fail; exact yS _)) | ((with_reducible apply WY); fail) | ((with_reducible apply uc); fail) | ((with_reducible apply gJ); fail) | ((with_reducible apply mU); fail; fail) | ((with_reducible apply cj); fail; fail) | ((with_reducible apply zu); fail) | ((with_reducible apply jI); fail) | ((with_reducible apply jb); fail; fail) | ((with_reducible apply pe_or); fail; fail) | ((with_reducible apply vT); fail; fail; fail) | with_reducible exact sG | ((with_reducible apply sL); fail) | ((with_reducible apply m_val); exact λ_ => rfl; fail))
set_option hygiene false in
local macro_rules | `(tactic| specialize $e) => `(tactic| refine F.ok $e (λvs H Q E h => ?_) (λcdv A outer s H vs Q E hr h => ?_))
local macro_rules | `(tactic| nofun) => `(tactic| ((any_goals fail); try dsimp only [L2.cxOf]))
section
variable{P:j9}{w:n9}{mg:g8->Option c7}{base:o0}{f:b9}{fd:Aq}
def Uk(K:b7):Sp:=λvs H Q _=>∃(a b:b9)(us ws:List V)(x1 y1 x2 y2:Int),vs=[.ref a,.ref b]/\Sq K H a us/\Sq K H b ws/\atI us 0=Io (.int x1)/\atI us 1=Io (.int y1)/\atI ws 0=Io (.int x2)/\atI ws 1=Io (.int y2) /\
 x1.natAbs<=10^18/\y1.natAbs<=10^18/\Q (.int (x1*y2-y1*x2)) H
def nv(K:b7):Sp:=Uk K
def Zp(F:Fun K "turn" "turn" pB f fd)(Z:Zs mg)(CB:Cb P w mg base)  : yX P w K mg base CX0 1 f fd ["one","other"] (nv K):=by
 specialize aE
 ·obtain⟨a,b,us,ws,x1,y1,x2,y2,rfl,_⟩:=h;rfl
 obtain⟨a,b,us,ws,x1,y1,x2,y2,rfl,ha,hb,u0,u1,w0,w1,m1,m2,q⟩:=h
 refine'⟨_,(zG (zM ?_)),?_⟩
 nofun
 exact⟨_,U,a,_,_,.int x1,U,U,ha,u0,_,U,b,_,_,.int y2,U,U,hb,w1,_,_,U,U,XS (by lia),
  _,rfl,a,_,_,.int y1,rfl,rfl,ha,u1,_,rfl,b,_,_,.int x2,rfl,rfl,hb,w0,_,_,rfl,rfl,XS (by lia),_,_,rfl,rfl,q⟩
def zj(K:b7):Sp:=λvs H Q _=>∃(a b:b9)(x1 y1 x2 y2:Int),vs=[.ref a,.ref b]/\Sq K H a [.int x1,.int y1]/\Sq K H b [.int x2,.int y2] /\
 ∀ p,H p=Ip->Q (.ref p) (upd H p (.tup [.int (x2-x1),.int (y2-y1)]))
def pk(F:Fun K "stretch_way" "stretch_way" uT f fd)(Z:Zs mg)(CB:Cb P w mg base)  : yX P w K mg base CX0 1 f fd ["start","end"] (zj K):=by
 specialize qa
 ·obtain⟨a,b,x1,y1,x2,y2,rfl,_⟩:=h;rfl
 obtain⟨a,b,x1,y1,x2,y2,rfl,ha,hb,q⟩:=h
 refine'⟨_,(zG (zM ?_)),?_⟩
 nofun
 exact⟨_,U,b,_,_,.int x2,U,U,hb,U,_,U,a,_,_,.int x1,U,U,ha,U,_,_,U,U,
  _,rfl,b,_,_,.int y2,rfl,rfl,hb,rfl,_,rfl,a,_,_,.int y1,rfl,rfl,ha,rfl,_,_,rfl,rfl,sz2,λp hp=>q p hp⟩
def PrQ(K:b7)(H:Hp)(l:b9)(ps:List Pr):Prop:=Sq K H l (wN ps)/\Uw H (10^8) ps
def PrQ.same{K:b7}{H H':Hp}{l:b9}{ps:List Pr}(h:PrQ K H l ps)(s:Same H H'):PrQ K H' l ps:=⟨s.sq h.1,h.2.same s⟩
def modI{i n:Nat}{k:Int}(e:k=(i:Int)):k%(n:Int)=((i%n:Nat):Int):=by
 rw[e];exact(Int.natCast_emod i n).symm
def zk(K:b7):Sp:=λvs H Q _=>∃(l:b9)(ps:List Pr)(i:Nat),vs=[.ref l,.int (i:Int)]/\PrQ K H l ps/\i<ps.length/\ps.length<=1000 /\
 ∀ H',Same H H'->Q (.bl (tK ps i)) H'
def qe(F:Fun K "all_left_of" "all_left_of" uO f fd)(Z:Zs mg)(CB:Cb P w mg base)(yCc:Has P w K mg base "turn" 1 ["one","other"] (nv K))(yAh:Has P w K mg base "stretch_way" 1 ["start","end"] (zj K)):yX P w K mg base CX0 2 f fd ["corners","number"] (zk K):=by
 specialize xS
 ·obtain⟨l,ps,i,rfl,_⟩:=h;rfl
 obtain⟨l,ps,i,rfl,hL,hi,hn,q⟩:=h
 refine'⟨_,(zC (yD 2 xS.nd ?_)
   (zC (yD 3 xS.nd ?_)
   (zC (qA AC rfl (gy rfl Z.range ?_) (qL 4 xS.nd) (zC (yD 5 xS.nd ?_)
   (zG (zX ?_ (zG (zM pc)) zN))))
   (zG (zM pc))))),?_⟩
 nofun
 obtain⟨t0,m0,g0,a0⟩:=nD (ps:=ps) (i:=i) (k:=(i:Int)) rfl hi;have hm1:(i+1)%ps.length<ps.length:=Nat.mod_lt _ (by lia);obtain⟨t1,m1,g1,a1⟩:=nD (ps:=ps) (i:=(i+1)%ps.length) (k:=((i:Int)+1)%(ps.length:Int)) (modI (by lia)) hm1;rw[<- xQ ps] at a1;obtain⟨e0,b00,b01⟩:=hL.2 t0 m0;obtain⟨e1,b10,b11⟩:=hL.2 t1 m1;have nl:((wN ps).length:Int)=(ps.length:Int):=by rw[xQ]
 exists _,U,_,U,l,_,_,_,U,U,hL.1,a0;refine⟨_,U,_,U,_,U,_,_,U,U,_,U,l,_,U,hL.1,_,_,U,U,(by show(0:Int)<((wN ps).length:Int); lia),l,_,_,_,rfl,rfl,hL.1,a1,
  t0.1,t1.1,t0.2.1,t0.2.2,t1.2.1,t1.2.2,rfl,.inr (SqT.of e0),.inr (SqT.of e1),λd hd=>?_⟩
 have sd:Same H (upd H d (.tup [.int (t1.2.1-t0.2.1),.int (t1.2.2-t0.2.2)])):=zD hd _;have ed:upd H d (.tup [.int (t1.2.1-t0.2.1),.int (t1.2.2-t0.2.2)]) d=Io (.tup [.int (t1.2.1-t0.2.1),.int (t1.2.2-t0.2.2)]):=zA;generalize upd H d (.tup [.int (t1.2.1-t0.2.1),.int (t1.2.2-t0.2.2)])=H1 at sd ed ⊢;exists _,U,l,_,U,(sd.sq hL.1),2,_,U,(by lia);refine rT (lo:=2) (n:=(((wN ps).length:Int)-2).toNat) (λj σ H'=>Same H1 H'/\(∀ j'<j,cS ps i ((i+(2+j'))%ps.length)=Iq)/\∃ u4 u5:Option V,σ=[Io (.ref l),Io (.int (i:Int)),Io (.ref t0.1),Io (.ref d),u4,u5])
  ⟨Same.refl _,λj' hj'=>x5 hj' (Dk _),Ip,Ip,rfl⟩ ?_ ?_
 ·rintro j σ H' hj ⟨sH,hall,u4,u5,rfl⟩;have s2:=sd.trans sH;have hjl:j<ps.length-2:=by lia
  have hmk:(i+(2+j))%ps.length<ps.length:=Nat.mod_lt _ (by lia);obtain⟨t2,m2,g2,a2⟩:=nD (ps:=ps) (i:=(i+(2+j))%ps.length) (k:=((i:Int)+(2+(j:Int)))%(ps.length:Int)) (modI (by lia)) hmk;rw[<- xQ ps] at a2;obtain⟨e2,b20,b21⟩:=hL.2 t2 m2;have lf:cS ps i ((i+(2+j))%ps.length)=decide (0<(t1.2.1-t0.2.1)*(t2.2.2-t0.2.2)-(t1.2.2-t0.2.2)*(t2.2.1-t0.2.1)):=by
   unfold cS;rw[aD g0,aD g1,aD g2];rfl
  exists _,U,_,U,_,U,_,_,U,U,_,U,l,_,U,(s2.sq hL.1),_,_,U,U,(by show(0:Int)<((wN ps).length:Int); lia),l,_,_,_,rfl,rfl,(s2.sq hL.1),a2;erw[_,U,_,U,_,U,t0.1,t2.1,t0.2.1,t0.2.2,t2.2.1,t2.2.2,U,.inr (SqT.of (s2 _ _ e0)),.inr (SqT.of (s2 _ _ e2)),λd2 hd2=>?_];have s3:=zD hd2 (.tup [.int (t2.2.1-t0.2.1),.int (t2.2.2-t0.2.2)]);exists d,d2,_,_,t1.2.1-t0.2.1,t1.2.2-t0.2.2,t2.2.1-t0.2.1,t2.2.2-t0.2.2,U,.inr (SqT.of (s3 _ _ (sH _ _ ed))),.inr (SqT.of zA),U,U,U,U,by lia,by lia,_,_,U,U,_,rfl;erw[ifD (λhle=>?_) (λhgt=>?_)]
  ·have hb:tK ps i=false:=by
    unfold tK;rw[DW];intro z;have z2:=Ah.mp z j (Az.mpr hjl);rw[lf] at z2;have z3:=of_decide_eq_true z2;lia
   have r:=q _ (s2.trans s3);rw[hb] at r;rwa[r]
  ·erw[sH.trans s3,λj' hj'=>?_,_,_,U];by_cases e:j'=j
   ·rw[e,lf];rwa[x3 (by lia)]
   ·rwa[hall j' (by lia)]
 ·rintro σ H2 ⟨sH,hall,_,_,rfl⟩;have hb:tK ps i=true:=by
   unfold tK;rw[Ah];intro j hj;exact hall j (by have:=Az.mp hj; lia)
  have r:=q _ (sd.trans sH);rw[hb] at r;rwa[r]
def rg(K:b7):Sp:=λvs H Q _=>∃(l:b9)(ps:List Pr),vs=[.ref l]/\PrQ K H l ps/\ps.length<=1000/\∀ H',Same H H'->Q (.bl (isB ps)) H'
def iR(F:Fun K "is_bank" "is_bank" qV f fd)(Z:Zs mg)(CB:Cb P w mg base)(yAj:Has P w K mg base "all_left_of" 2 ["corners","number"] (zk K)):yX P w K mg base CX0 3 f fd ["corners"] (rg K):=by
 specialize js
 ·obtain⟨l,ps,rfl,_⟩:=h;rfl
 obtain⟨l,ps,rfl,hL,hn,q⟩:=h
 refine'⟨_,(zC (zX ?_ (zG (zM pc)) zN)
   (zG (zM (zR (vZ rfl) rfl Z.all qp (zB (vA (T:=["number"]) (caps:=[("corners",0)]) ⟨rfl,by ac_nf,by ac_nf,rfl,⟨⟨rfl,rfl,A4 rfl⟩,t5⟩⟩ rfl (sZ rfl Z.range ?_) (λ_=>(qL 0 (show(["number","corners"]:List g8).Nodup by ac_nf))) (λ_=>xX) (λ_=>?_)) zI))))),?_⟩
 nofun
 have nl:((wN ps).length:Int)=(ps.length:Int):=by rw[xQ]
 exists _,U,l,_,U,hL.1,_,_,U,U,_,rfl;erw[ifD (λh3=>?_) (λh3=>?_)]
 ·have hb:isB ps=false:=by unfold isB; rw[x4 (by lia),DB]
  have r:=q _ (Same.refl _);rw[hb] at r;rwa[r]
 exists _,U,l,_,U,hL.1,_,_,U,U,_,rfl;erw[ifD (λh8=>?_) (λh8=>?_)]
 ·have hb:isB ps=false:=by unfold isB; rw[x4 (p:=ps.length<=8) (by lia),DB,GL]
  have r:=q _ (Same.refl _);rw[hb] at r;rwa[r]
 have hb:isB ps=(Aj ps.length).all (tK ps):=by unfold isB; rw[x3 (by lia),x3 (by lia),Fq,Fq]
 refine⟨_,U,l,_,U,hL.1,_,U,(by lia),(by lia),λc D hD=>?_⟩;refine wv (lo:=0) (n:=(((wN ps).length:Nat):Int).toNat) (λj σ zs H'=>Same H H'/\H' D=Io (.lst zs)/\zs=((Aj j).map (tK ps)).map V.bl/\∃ u0:Option V,σ=[u0,Io (.ref l)])
  ⟨zD hD _,zA,rfl,Ip,rfl⟩ (λi σ ys H' _ ⟨_,e,_⟩=>e) ?_ ?_
 ·rintro j σ zs H' hj ⟨sH,eD,rfl,u0,rfl⟩;erw[_,U,_,U,l,ps,j,(by rw[HU]; rfl),hL.same sH,by lia,hn,λH2 s2=>⟨s2 _ _ eD,zT (by rw[a7,a7,Bm]; lia),(sH.trans s2).putNew hD,zA,?_,_,rfl⟩];rw[EJ,i8,i8];rfl
 ·rintro σ zs H' ⟨sH,eD,rfl,u0,rfl⟩;exists D,_,U,SqL.of eD;have r:=q _ sH;rw[hb] at r;have e:((Aj (((wN ps).length:Nat):Int).toNat).map (tK ps)).all id=(Aj ps.length).all (tK ps):=by
   rw[AH,xQ,FU];rfl
  rw[e];rwa[r]
def zg(K:b7):Sp:=λvs H Q _=>vs=[]/\∀(d:b9)(H':Hp),Same H H'->H d=Ip->fv H' d BS.nil->Q (.ref d) H'
def pw(F:Fun K "nothing_yet" "nothing_yet" uR f fd)(Z:Zs mg)(CB:Cb P w mg base)  : yX P w K mg base CX0 1 f fd [] (zg K):=by
 specialize pA
 ·obtain⟨rfl,_⟩:=h;rfl
 obtain⟨rfl,q⟩:=h
 refine'⟨_,zG ?h,?_⟩
 rotate_left
 with_reducible refine' zM ?_
 rotate_left
 with_reducible exact fk (wL zK rG (wL zK rG (wL zK rG (wL zK rG (wL zK yL fX))))) rfl rfl (λz=>nomatch z) (by decide)
 try dsimp only[L2.cxOf]
 intro p hp m hm b hb r hr n hn;have s1:=zD hp (.dK []);have s2:=zD hm (.dK []);have s3:=zD hb (.dK []);have s4:=zD hr (.dK []);have s5:=zD hn (.dK []);have em:=(s3.trans (s4.trans s5)) _ _ zA;have eb:=(s4.trans s5) _ _ zA;have er:=s5 _ _ zA;have ep:=(s2.trans (s3.trans (s4.trans s5))) _ _ zA;exists ep,[(.inr "marks",.ref m),(.inr "banks",.ref b),(.inr "runs",.ref r),(.inr "notes",.ref n),(.inr "coming",.int 1)],U,(show 5<=15 by decide);rw[Yz];have ne:∀{x:b9},(upd H p (.dK [])) x=Ip->x≠p:=λ{x} h z=>by rw[z,zA] at h; cases h
 have nb:=ne (s2.free hb);have nr:=ne (s2.free (s3.free hr));have nn:=ne (s2.free (s3.free (s4.free hn)));erw[q p _ (λc o e=>?_) hp ⟨m,b,r,n,.inl zA,.nil ?_,.nil ?_,.nil ?_,.nil ?_⟩]
 ·rw[zH (zF e hp)];exact(s1.trans (s2.trans (s3.trans (s4.trans s5)))) c o e
 ·rw[zH (ne hm)]; rwa[em]
 ·rw[zH nb]; rwa[eb]
 ·rw[zH nr]; rwa[er]
 ·rw[zH nn]; rwa[zA]
def wG(K:b7):Sp:=λvs H Q _=>∃(d a:b9)(kind:g8)(key:Key)(v:V)(kvs ms:List (Key×V)),vs=[.ref d,.str kind,kV key,v]/\Rd H d (.dK kvs)/\wS kvs (.inr kind)=Io (.ref a)/\Rd H a (.dK ms)/\kvs.length<=100/\ms.length<=100 /\
 ∀(f c:b9)(H':Hp),Same H H'->H f=Ip->f≠c->H' f=Io (.dK (rO kvs (.inr kind) (.ref c)))->H' c=Io (.dK (rO ms key v))->Q (.ref f) H'
def jZ(F:Fun K "changed" "changed" qO f fd)(Z:Zs mg)(CB:Cb P w mg base)  : yX P w K mg base CX0 1 f fd ["state","kind","key","value"] (wG K):=by
 specialize qz
 ·obtain⟨d,a,kind,key,v,kvs,ms,rfl,_⟩:=h;rfl
 obtain⟨d,a,kind,key,v,kvs,ms,rfl,hd,ea,ha,l1,l2,q⟩:=h
 refine'⟨_,(zC (yD 4 qz.nd ?_)
   (zC (rS (zU hr) (pv 4) (pv 1) (xC qG rfl Z.dict wt (zB (zO (zU hr) (pv 0) (pv 1) (λ_ _=>rfl)) zI)) rfl)
   (zC (rS (zU hr) (zO (zU hr) (pv 4) (pv 1) (λ_ _=>rfl)) (pv 2) (pv 3) rfl)
   (zG (zM (pv 4)))))),?_⟩
 nofun
 erw[_,U,d,kvs,U,hd,λp hp=>?_];have s1:=zD hp (.dK kvs);have hd1:Rd (upd H p (.dK kvs)) d (.dK kvs):=hd.imp (s1 _ _) λ⟨o,e⟩=>⟨o,s1 _ _ e⟩;have ha1:Rd (upd H p (.dK kvs)) a (.dK ms):=ha.imp (s1 _ _) λ⟨o,e⟩=>⟨o,s1 _ _ e⟩;erw[_,U,_,U,d,.ref a,U,.inl ⟨kvs,.inr kind,hd1,U,ea.symm⟩,a,ms,U,ha1,λc hc=>?_];have npc:p≠c:=zF zA hc;have s2:=zD hc (.dK ms);have e2:upd (upd H p (.dK kvs)) c (.dK ms) p=Io (.dK kvs):=s2 _ _ zA;exists _,U,_,U,p,_,U,iE.k (k:=.inr kind) e2 (zT (by lia));have e3:upd (upd (upd H p (.dK kvs)) c (.dK ms)) p (.dK (rO kvs (.inr kind) (.ref c))) c=Io (.dK ms):=by rw[zH npc.symm,zA]
 erw[_,U,_,U,_,U,p,.ref c,U,.inl ⟨_,.inr kind,.inl zA,U,?_⟩,_,U,c,_,U,iE.k e3 (zT (by lia)),_,U,?_]
 ·rw[eN,y9 rfl]
 erw[q p c _ (λb o e=>?_) hp npc ?_ zA]
 ·have n1:=zF e hp;have n2:=zF (s1 _ _ e) hc;rw[zH n2,zH n1,zH n2,zH n1];rwa[e]
 ·rw[zH npc,zA]
def rH(K:b7):Sp:=λvs H Q _=>∃(d a:b9)(kind:g8)(key:Key)(v:V)(kvs ms:List (Key×V)),vs=[.ref d,.str kind,kV key]/\Rd H d (.dK kvs)/\wS kvs (.inr kind)=Io (.ref a)/\Rd H a (.dK ms)/\wS ms key=Io v/\kvs.length<=100 /\
 ∀(f c:b9)(H':Hp),Same H H'->H f=Ip->f≠c->H' f=Io (.dK (rO kvs (.inr kind) (.ref c)))->H' c=Io (.dK (pe ms key))->Q (.ref f) H'
def jf(F:Fun K "without" "without" qW f fd)(Z:Zs mg)(CB:Cb P w mg base)  : yX P w K mg base CX0 1 f fd ["state","kind","key"] (rH K):=by
 specialize qj
 ·obtain⟨d,a,kind,key,v,kvs,ms,rfl,_⟩:=h;rfl
 obtain⟨d,a,kind,key,v,kvs,ms,rfl,hd,ea,ha,ev,l1,q⟩:=h
 refine'⟨_,(zC (yD 3 qj.nd ?_)
   (zC (rS (zU hr) (pv 3) (pv 1) (xC qG rfl Z.dict wt (zB (zO (zU hr) (pv 0) (pv 1) (λ_ _=>rfl)) zI)) rfl)
   (zC (yC (pM (zO (zU hr) (pv 3) (pv 1) (λ_ _=>rfl)) (pv 2) ⟨rfl,rfl,rfl,rfl⟩))
   (zG (zM (pv 3)))))),?_⟩
 nofun
 erw[_,U,d,kvs,U,hd,λp hp=>?_];have s1:=zD hp (.dK kvs);have hd1:Rd (upd H p (.dK kvs)) d (.dK kvs):=hd.imp (s1 _ _) λ⟨o,e⟩=>⟨o,s1 _ _ e⟩;have ha1:Rd (upd H p (.dK kvs)) a (.dK ms):=ha.imp (s1 _ _) λ⟨o,e⟩=>⟨o,s1 _ _ e⟩;erw[_,U,_,U,d,.ref a,U,.inl ⟨kvs,.inr kind,hd1,U,ea.symm⟩,a,ms,U,ha1,λc hc=>?_];have npc:p≠c:=zF zA hc;have s2:=zD hc (.dK ms);have e2:upd (upd H p (.dK kvs)) c (.dK ms) p=Io (.dK kvs):=s2 _ _ zA;exists _,U,_,U,p,_,U,iE.k (k:=.inr kind) e2 (zT (by lia));have e3:upd (upd (upd H p (.dK kvs)) c (.dK ms)) p (.dK (rO kvs (.inr kind) (.ref c))) c=Io (.dK ms):=by rw[zH npc.symm,zA]
 erw[_,U,_,U,p,.ref c,U,.inl ⟨_,.inr kind,.inl zA,U,?_⟩,c,U,.inl ⟨ms,.inl e3⟩,_,U,ms,key,v,e3,U,ev,_,U,?_]
 ·rw[eN,y9 rfl]
 erw[q p c _ (λb o e=>?_) hp npc ?_ zA]
 ·have n1:=zF e hp;have n2:=zF (s1 _ _ e) hc;rw[zH n2,zH n1,zH n2,zH n1];rwa[e]
 ·rw[zH npc,zA]
def qq(ns:List Int)(m:Int):Bool:=ns.all λn=>decide (-m<=n)&&decide (n<=m)
def qI(K:b7):Sp:=λvs H Q _=>∃(a:b9)(ns:List Int)(m:Int),vs=[.ref a,.int m]/\H a=Io (.tup (ns.map V.int))/\ns.length<=100/\∀ H',Same H H'->Q (.bl (qq ns m)) H'
def fN(F:Fun K "within" "within" xu f fd)(Z:Zs mg)(CB:Cb P w mg base)  : yX P w K mg base CX0 1 f fd ["numbers","most"] (qI K):=by
 specialize gR
 ·obtain⟨a,ns,m,rfl,_⟩:=h;rfl
 obtain⟨a,ns,m,rfl,ha,hl,q⟩:=h
 refine'⟨_,(zG (zM (zR (vZ rfl) rfl Z.all qp (zB (vA (T:=["number"]) (caps:=[("most",1)]) ⟨rfl,by ac_nf,by ac_nf,rfl,⟨⟨rfl,rfl,A4 rfl⟩,t5⟩⟩ rfl (eF (pv 0)) (λ_=>(qL 0 (show(["number","most"]:List g8).Nodup by ac_nf))) (λ_=>xX) (λ_=>(vf wg wg ?_ (pv 0) (pv 1)))) zI)))),?_⟩
 nofun
 refine⟨_,U,a,U,.inr ⟨⟨_,SqT.of ha⟩,λc D hD=>?_⟩⟩;refine iI (K:=K) (a:=a) (xs:=ns.map V.int) (λi σ zs H'=>Same H H'/\H' D=Io (.lst zs)/\zs=((ns.take i).map λn=>decide (-m<=n)&&decide (n<=m)).map V.bl/\∃ u0:Option V,σ=[u0,Io (.int m)])
  ⟨zD hD _,zA,rfl,Ip,rfl⟩ (λi σ zs H' _ ⟨sH,e,_⟩=>⟨SqT.of (sH _ _ ha),e⟩) ?_ ?_
 ·rintro i x σ zs H' hi ⟨sH,eD,rfl,u0,rfl⟩;obtain⟨n,gn,rfl⟩:=si hi;have hil:=(g9.mp gn).1;have len:(((ns.take i).map λn=>decide (-m<=n)&&decide (n<=m)).map V.bl).length<sizeLine:=zT (by rw[a7,a7,j8]; lia);have fin:∀ b:Bool,b=(decide (-m<=n)&&decide (n<=m))->((ns.take i).map λn=>decide (-m<=n)&&decide (n<=m)).map V.bl++[V.bl b]=((ns.take (i+1)).map λn=>decide (-m<=n)&&decide (n<=m)).map V.bl:=λb e=>by
   rw[w6,gn,e,i8,i8];rfl
  exists _,U,_,U,_,U,_,_,U,U,_,rfl;erw[ite2 (λh1=>?_) (λh1=>?_)]
  ·rwa[_,U,_,_,U,U,eD,len,sH.putNew hD,zA,fin _ (by rw[h1,Fq]),_,U]
  ·rwa[eD,len,sH.putNew hD,zA,fin _ (by rw[eq_false_of_ne_true h1,DB]),_,U]
 ·rintro σ zs H' ⟨sH,eD,rfl,u0,rfl⟩;exists D,_,U,SqL.of eD;have r:=q _ sH;rw[a7,Am,FU];rwa[r]
def axC:Cl->b9
 | .badName=>uG
 | .taken=>zv
 | .badPlace=>wY
 | .full=>yu
 | .noMark=>sX
 | .same=>wu
 | .needed=>sW
 | .badBank=>sC
 | .noBank=>qE
 | .badRun=>sY
 | .noRun=>xw
 | .noMoment=>wF
 | .badWay=>tG
 | .badTurn=>tY
 | .noNote=>rV
def rA(_:b7):Sp:=λvs H Q E=>∃ x:g8,vs=[.str x]/\oN x/\eI (wM x) Q E uG H
def XO(a c:Nat):(!decide ((⟨#[c]⟩:g8).cps.toList<(⟨#[a]⟩:g8).cps.toList))=decide (a<=c):=by
 have e:([c]<[a])↔c<a:=by
  rw[List.cons_lt_cons_iff];simp
 show(!decide ([c]<[a]))=_;by_cases h:c<a
 ·rw[x3 (e.mpr h),x4 (by lia)];rfl
 ·rw[x4 (λz=>h (e.mp z)),x3 (by lia)];rfl
def nM(F:Fun K "check_name" "check_name" vK f fd)(Z:Zs mg)(CB:Cb P w mg base)  : yX P w K mg base (CX1 P w) 1 f fd ["name"] (rA K):=by
 erw[F.okX nV (λvs H Q E h=>?_) (λcdv A outer s H vs Q E hr h=>?_)]
 ·obtain⟨x,rfl,_⟩:=h;rfl
 obtain⟨x,rfl,as,q⟩:=h;exists _,(zG (zX (PW.pt (cj (yH aj (zR yp rfl Z.len uF (zB (pv 0) zI)) yL (yS _)) (cj (yH kX (zR yp rfl Z.len uF (zB (pv 0) zI)) (fY CB.LONGEST_NAME) (yS _)) (gJ (zu (zr (zR (vZ rfl) rfl Z.all qp (zB (vA (T:=["letter"]) (caps:=[]) ⟨rfl,by ac_nf,by ac_nf,rfl,t5⟩ rfl (am (pv 0)) (λ_=>(zw (i:=0) (show(["letter"]:List g8).Nodup by ac_nf) rfl (A4 rfl))) (λ_=>xX) (λ_=>(vf gF gF zK (pv 0) zK))) zI)))))))) (zG (xB (λ_=>E) CB.e_BadName d5 (by decide) d5 xE (zB (uA (fM (pv 0) (uE sO))) zI))) zN))
 try dsimp only[L2.cxOf]
 have hz:x.length<=sizeLine:=j7 as.2 (by decide);have go:∀ H',Same H H'->¬ wM x->ZB (TB (ZW 0) aK) [Io (.str x)] H' (λv H1=>1<=sizeLine/\E (.ref uG) Ip H1):=λH' s' z=>⟨_,rfl,⟨x,rfl,as.big,j7 as.2 (by decide)⟩,λy _=>⟨by show 1<=sizeLine; decide,q.no z s'⟩⟩;exists _,U,x,U,hz,_,_,U,U,_,rfl;refine ifD (λz=>xV (go H (Same.refl _) λo=>x5 o.1 (by lia))) (λz1=>?_);exists _,U,x,U,hz,_,_,U,U,_,rfl;refine ifD (λz=>xV (go H (Same.refl _) λo=>x5 o.2.1 (by lia))) (λz2=>?_);have asc:x.cps.all (· < 128)=true:=by
  rw[FE];intro c hm;rwa[x3 (as.1 c (C7.mpr hm))]
 refine⟨_,U,x,U,asc,λc D hD=>?_⟩;refine kh (xs:=qc x) (λi σ zs H'=>Same H H'/\H' D=Io (.lst zs)/\(∃ bs:List Bool,zs=bs.map V.bl/\bs.length=i/\(bs.all id=Iq↔∀ c∈x.cps.toList.take i,97<=c/\c<=122))/\i<=x.length/\∃ u0:Option V,σ=[u0])
  ⟨zD hD _,zA,⟨[],rfl,rfl,by simp⟩,t7 _,Ip,rfl⟩ (λi σ zs H' ⟨_,e,_⟩=>⟨t5,e⟩) ?_ ?_
 ·rintro i v σ zs H' hi ⟨sH,eD,⟨bs,rfl,lb,ab⟩,hi8,u0,rfl⟩;unfold qc at hi;rw[e7,j6] at hi;obtain⟨n,gn,rfl⟩:=hi;have hil:i<x.length:=by
   have:=(g9.mp gn).1;rw[Ak] at this;rwa[this]
  have fin:∀ b:Bool,(b=Iq↔97<=n/\n<=122)->H' D=Io (.lst (bs.map V.bl))/\(bs.map V.bl).length<sizeLine/\Same H (upd H' D (.lst (bs.map V.bl++[.bl b])))/\upd H' D (.lst (bs.map V.bl++[.bl b])) D=Io (.lst (bs.map V.bl++[.bl b]))/\(∃ cs:List Bool,bs.map V.bl++[.bl b]=cs.map V.bl/\cs.length=i+1/\(cs.all id=Iq↔∀ c∈x.cps.toList.take (i+1),97<=c/\c<=122))/\i+1<=x.length:=λb hb=>by
   refine⟨eD,zT (by rw[a7]; have:=as.2; lia),sH.putNew hD,zA,⟨bs++[b],by rw[i8]; rfl,by rw[f8,lb]; rfl,?_⟩,hil⟩;rw[EN,p5,ab,w6,gn];simp only[CD,Ex,D8,id,hb,m7,HE,d8];constructor
   ·rintro⟨h1,h2⟩ c (h | rfl)
    ·rwa[h1 c h]
    ·rwa[h2]
   ·rwa[λh=>⟨λc hc=>h c (.inl hc),h n (.inr rfl)⟩]
  exists _,U,_,_,U,U,_,rfl;rw[show(!decide (((⟨#[n]⟩:g8).cps.toList)<(("a" : g8).cps.toList)))=decide (97<=n) from XO 97 n];erw[ifD (λh1=>?_) (λh1=>?_)]
  ·exists _,_,U,rfl;rw[show(!decide ((("z" : g8).cps.toList)<((⟨#[n]⟩:g8).cps.toList)))=decide (n<=122) from XO n 122];obtain⟨f1,f2,f3,f4,f5,f6⟩:=fin (decide (n<=122)) (by simp[h1]);rwa[f1,f2,f3,f4,f5,f6,_,U]
  ·obtain⟨f1,f2,f3,f4,f5,f6⟩:=fin Ir (by simp[h1]);rwa[f1,f2,f3,f4,f5,f6,_,U]
 ·rintro σ zs H' ⟨sH,eD,⟨bs,rfl,lb,ab⟩,_,u0,rfl⟩;have lc:(qc x).length=x.cps.toList.length:=a7 _;rw[lc,Am] at ab;exists D,bs,U,SqL.of eD,_,rfl;cases hb:bs.all id with
  | true=>rwa[yR (q.yes ⟨by lia,by lia,ab.mp hb⟩ sH)]
  | false=>exact xV (go H' sH λo=>by rw[ab.mpr o.2.2] at hb; cases hb)
def sV(K:b7):Sp:=λvs H Q E=>∃(d a:b9)(kind:g8)(n:g8)(kvs ms:List (Key×V)),vs=[.ref d,.str kind,.str n]/\Rd H d (.dK kvs)/\wS kvs (.inr kind)=Io (.ref a)/\Rd H a (.dK ms)/\kind.length<=1000/\n.length<=1000/\eI (wS ms (.inr n)=Ip) Q E zv H
def nS(F:Fun K "check_free" "check_free" vQ f fd)(Z:Zs mg)(CB:Cb P w mg base)  : yX P w K mg base (CX1 P w) 1 f fd ["state","kind","name"] (sV K):=by
 erw[F.okX nC (λvs H Q E h=>?_) (λcdv A outer s H vs Q E hr h=>?_)]
 ·obtain⟨d,a,kind,n,kvs,ms,rfl,_⟩:=h;rfl
 obtain⟨d,a,kind,n,kvs,ms,rfl,hd,ea,ha,l1,l2,q⟩:=h;exists _,(zG (zX (zh (hJ (zU hr) (pv 2) (zO (zU hr) (pv 0) (pv 1) (λ_ _=>rfl))) (by with_unfolding_all rfl)) (zG (xB (λ_=>E) CB.e_Taken d5 (by decide) d5 xE (zB (uA (uE (vd (pv 1) (uE (vd (pv 2) (uE sO)))))) zI))) zN))
 try dsimp only[L2.cxOf]
 exists _,U,_,U,_,U,d,.ref a,U,.inl ⟨kvs,.inr kind,hd,U,ea.symm⟩,a,_,U,.inl ⟨ms,.inr n,ha,U,U⟩,_,rfl;cases e:wS ms (.inr n) with
 | none=>rwa[yR (q.yes e (Same.refl _))]
 | some v=>exact xV ⟨_,rfl,.inr ⟨kind,rfl,l1⟩,_,rfl,.inr ⟨n,rfl,l2⟩,λx _=>⟨by show 1<=sizeLine; decide,q.no (by rw[e]; exact λz=>nomatch z) (Same.refl _)⟩⟩
def wT(K:b7):Sp:=λvs H Q E=>∃(a:b9)(x y:Int),vs=[.ref a]/\H a=Io (.tup [.int x,.int y])/\zf x/\zf y/\eI (qi (x,y)) Q E wY H
def pR{x y:Int} : qq [x,y] 1000=Iq↔qi (x,y):=by
 simp only[qq,qi,CD,Ex,D8,p5,decide_eq_true_eq,and_assoc]
def qb(F:Fun K "check_place" "check_place" uJ f fd)(Z:Zs mg)(CB:Cb P w mg base)(yBq:Has P w K mg base "within" 1 ["numbers","most"] (qI K)):yX P w K mg base (CX1 P w) 2 f fd ["place"] (wT K):=by
 erw[F.okX pq (λvs H Q E h=>?_) (λcdv A outer s H vs Q E hr h=>?_)]
 ·obtain⟨a,x,y,rfl,_⟩:=h;rfl
 obtain⟨a,x,y,rfl,ha,t1,t2,q⟩:=h;exists _,(zG (zX (zu (zr (uW yBq (hr.mono (by decide)) rfl (zB (pv 0) (zB (fY CB.FARTHEST) zI))))) (zG (xB (λ_=>E) CB.e_BadPlace d5 (by decide) d5 xE (zB (uA (jW hr.gd hr.units (pv 0) (uE sO))) zI))) zN))
 try dsimp only[L2.cxOf]
 refine⟨_,U,a,[x,y],1000,U,ha,(by show 2<=100; decide),λH' s'=>⟨_,rfl,?_⟩⟩;cases e:qq [x,y] 1000 with
 | true=>rwa[yR (q.yes (pR.mp e) s')]
 | false=>exact xV ⟨_,rfl,⟨ptD (x,y),tD (s' _ _ ha),oz t1 t2⟩,λz _=>⟨by show 1<=sizeLine; decide,q.no (λz=>by rw[pR.mpr z] at e; cases e) s'⟩⟩
def rR(K:b7):Sp:=λvs H Q E=>∃(a:b9)(x y:Int),vs=[.ref a]/\H a=Io (.tup [.int x,.int y])/\zf x/\zf y/\eI (qi (x,y)) Q E sY H
def mz(F:Fun K "check_run" "check_run" tW f fd)(Z:Zs mg)(CB:Cb P w mg base)(yBq:Has P w K mg base "within" 1 ["numbers","most"] (qI K)):yX P w K mg base (CX1 P w) 2 f fd ["run"] (rR K):=by
 erw[F.okX ml (λvs H Q E h=>?_) (λcdv A outer s H vs Q E hr h=>?_)]
 ·obtain⟨a,x,y,rfl,_⟩:=h;rfl
 obtain⟨a,x,y,rfl,ha,t1,t2,q⟩:=h;exists _,(zG (zX (zu (zr (uW yBq (hr.mono (by decide)) rfl (zB (pv 0) (zB (fY CB.FARTHEST) zI))))) (zG (xB (λ_=>E) CB.e_BadRun d5 (by decide) d5 xE (zB (uA (jW hr.gd hr.units (pv 0) (uE sO))) zI))) zN))
 try dsimp only[L2.cxOf]
 refine⟨_,U,a,[x,y],1000,U,ha,(by show 2<=100; decide),λH' s'=>⟨_,rfl,?_⟩⟩;cases e:qq [x,y] 1000 with
 | true=>rwa[yR (q.yes (pR.mp e) s')]
 | false=>exact xV ⟨_,rfl,⟨ptD (x,y),tD (s' _ _ ha),oz t1 t2⟩,λz _=>⟨by show 1<=sizeLine; decide,q.no (λz=>by rw[pR.mpr z] at e; cases e) s'⟩⟩
def wD(K:b7):Sp:=λvs H Q E=>∃(d a:b9)(kind:g8)(kvs ms:List (Key×V))(mx:Int),vs=[.ref d,.str kind]/\Rd H d (.dK kvs)/\wS kvs (.inr kind)=Io (.ref a)/\Rd H a (.dK ms)/\wS Uf (.inr kind)=Io (.int mx)/\kind.length<=1000/\eI ((ms.length:Int)<mx) Q E yu H
def ny(F:Fun K "check_room" "check_room" vO f fd)(Z:Zs mg)(CB:Cb P w mg base)  : yX P w K mg base (CX1 P w) 1 f fd ["state","kind"] (wD K):=by
 erw[F.okX nN (λvs H Q E h=>?_) (λcdv A outer s H vs Q E hr h=>?_)]
 ·obtain⟨d,a,kind,kvs,ms,mx,rfl,_⟩:=h;rfl
 obtain⟨d,a,kind,kvs,ms,mx,rfl,hd,ea,ha,em,l1,q⟩:=h;exists _,(zG (zX (yH WH (zR tF rfl Z.len uF (zB (zO (zU hr) (pv 0) (pv 1) (λ_ _=>rfl)) zI)) (ZZ CB.dMOST CB.gMOST (pv 1)) (yS _)) (zG (xB (λ_=>E) CB.e_Full d5 (by decide) d5 xE (zB (uA (uE (vd (pv 1) (uE sO)))) zI))) zN))
 try dsimp only[L2.cxOf]
 exists _,U,_,U,d,.ref a,U,.inl ⟨kvs,.inr kind,hd,U,ea.symm⟩,a,ms,U,ha,_,U,.inr kind,.int mx,U,em,_,_,U,U,_,rfl;exact ifD (λz=>⟨_,rfl,.inr ⟨kind,rfl,l1⟩,λx _=>⟨by show 1<=sizeLine; decide,q.no (by lia) (Same.refl _)⟩⟩) (λz=>q.yes (by lia) (Same.refl _))
def xY(K:b7):Sp:=λvs H Q E=>∃(d m b r n:b9)(S:BS)(x:g8),vs=[.ref d,.str x]/\StA H d m b r n S/\oN x/\eI ((zQ S x).isSome=Iq) Q E sX H
def oh(F:Fun K "check_mark" "check_mark" vS f fd)(Z:Zs mg)(CB:Cb P w mg base)  : yX P w K mg base (CX1 P w) 1 f fd ["state","name"] (xY K):=by
 erw[F.okX nh (λvs H Q E h=>?_) (λcdv A outer s H vs Q E hr h=>?_)]
 ·obtain⟨d,m,b,r,n,S,x,rfl,_⟩:=h;rfl
 obtain⟨d,m,b,r,n,S,x,rfl,st,as,q⟩:=h;obtain⟨kvs,hm,kv⟩:=st.ma;exists _,(zG (zX (zh (sP (zU hr) (pv 1) (zO (zU hr) (pv 0) zK (λ_ _=>rfl))) (by with_unfolding_all rfl)) (zG (xB (λ_=>E) CB.e_NoMark d5 (by decide) d5 xE (zB (uA (uE (fM (pv 1) sO))) zI))) zN))
 try dsimp only[L2.cxOf]
 exists _,U,_,U,d,.ref m,U,.inl ⟨_,.inr "marks",st.at_,U,tR.symm⟩,m,_,U,.inl ⟨kvs,.inr x,hm,U,U⟩,_,rfl;rw[kv.isSome,uB,Av];cases e:(zQ S x).isSome with
 | true=>rwa[yR (q.yes e (Same.refl _))]
 | false=>exact xV ⟨_,rfl,⟨x,rfl,as.big,j7 as.2 (by decide)⟩,λy _=>⟨by show 1<=sizeLine; decide,q.no (by rw[e]; rwa[h9]) (Same.refl _)⟩⟩
def offM(n:Nat)(m:Int):Prop:=(m<0\/(n:Int)<m)/\m.natAbs.log2<1920
def vD(K:b7):Sp:=λvs H Q E=>∃(a:b9)(m:Int)(n:Nat),vs=[.int m,.ref a]/\((∃ xs,SqL K H a xs/\xs.length=n)\/∃ kvs,Rd H a (.dK kvs)/\kvs.length=n)/\((0<=m/\m<=n/\Q .non H)\/(offM n m/\E (.ref wF) Ip H))
def rn(F:Fun K "check_moment" "check_moment" wO f fd)(Z:Zs mg)(CB:Cb P w mg base)  : yX P w K mg base (CX1 P w) 1 f fd ["moment","runs"] (vD K):=by
 erw[F.okX sk (λvs H Q E h=>?_) (λcdv A outer s H vs Q E hr h=>?_)]
 ·obtain⟨a,m,n,rfl,_⟩:=h;rfl
 obtain⟨a,m,n,rfl,ha,q⟩:=h
 refine'⟨_,(zG (zX (PW.pt (cj ?_ (gJ (yH kX (pv 0) (zR (uK.or yU tF) rfl Z.len uF (zB (pv 1) zI)) (yS _))))) (zG (xB (λ_=>E) CB.e_NoMoment d5 (by decide) d5 xE (zB (uA (uE (vd (pv 0) sO))) zI))) zN)),?_⟩
 nofun
 exists _,U,_,_,U,U,_,rfl;have go:¬ (0<=m/\m<=n)->ZB (VD (ZW 0) aK) [Io (.int m),Io (.ref a)] H (λv H1=>1<=sizeLine/\E (.ref wF) Ip H1):=λz=>by
  rcases q with ⟨h0,hm,_⟩ | ⟨⟨_,sm⟩,q⟩
  ·rwa[x5 ⟨h0,hm⟩ z]
  ·rwa[_,U,.inl ⟨m,U,sm⟩,λx _=>⟨by decide,q⟩]
 erw[ifD (λz=>?_) (λz=>?_)]
 ·erw[xV ?_];rwa[go (λy=>x5 y.1 (by lia))]
 exists _,U,_,rfl;rcases ha with ⟨xs,hx,rfl⟩ | ⟨kvs,hx,rfl⟩
 ·erw[.inl ⟨a,xs,rfl,.inl hx,_,_,rfl,rfl,_,rfl,?_⟩];erw[ifD (λy=>go (λy=>x5 y.2 (by lia))) (λy=>?_)];rcases q with ⟨_,_,q⟩ | ⟨⟨o,_⟩,_⟩
  ·rwa[q]
  ·rwa[x5 o (by lia)]
 ·erw[.inr ⟨a,kvs,rfl,hx,_,_,rfl,rfl,_,rfl,?_⟩];erw[ifD (λy=>go (λy=>x5 y.2 (by lia))) (λy=>?_)];rcases q with ⟨_,_,q⟩ | ⟨⟨o,_⟩,_⟩
  ·rwa[q]
  ·rwa[x5 o (by lia)]
def wx(K:b7):Sp:=λvs H Q E=>∃(a:b9)(x y:Int),vs=[.ref a]/\H a=Io (.tup [.int x,.int y])/\zf x/\zf y/\eI (ud (x,y)) Q E tG H
def aW{x y:Int} : qq [x,y] 100=Iq↔(-100<=x/\x<=100/\-100<=y/\y<=100):=by
 simp only[qq,CD,Ex,D8,p5,decide_eq_true_eq,and_assoc]
def my(F:Fun K "check_way" "check_way" tS f fd)(Z:Zs mg)(CB:Cb P w mg base)(yBq:Has P w K mg base "within" 1 ["numbers","most"] (qI K)):yX P w K mg base (CX1 P w) 2 f fd ["direction"] (wx K):=by
 erw[F.okX mn (λvs H Q E h=>?_) (λcdv A outer s H vs Q E hr h=>?_)]
 ·obtain⟨a,x,y,rfl,_⟩:=h;rfl
 obtain⟨a,x,y,rfl,ha,t1,t2,q⟩:=h
 refine'⟨_,(zG (zX (PW.pt (cj (yH (dS hr.units0) (pv 0) ?_ (yS _)) (gJ (zu (zr (uW yBq (hr.mono (by decide)) rfl (zB (pv 0) (zB (fY CB.LONGEST_WAY) zI)))))))) (zG (xB (λ_=>E) CB.e_BadWay d5 (by decide) d5 xE (zB (uA (jW hr.gd hr.units (pv 0) (uE sO))) zI))) zN)),?_⟩
 nofun
 erw[_,U,sz2,λp hp=>?_];have sp:=zD hp (.tup [.int 0,.int 0]);have ha':=sp _ _ ha;have go:∀ H',Same H H'->¬ ud (x,y)->ZB (UW (ZW 0) aK) [Io (.ref a)] H' (λv H1=>1<=sizeLine/\E (.ref tG) Ip H1):=λH' s' z=>⟨_,rfl,⟨ptD (x,y),tD (s' _ _ ha),oz t1 t2⟩,λy _=>⟨by show 1<=sizeLine; decide,q.no z s'⟩⟩;exists a,p,[x,y],[0,0],U,U,SqT.of ha',SqT.of zA,_,rfl;refine ifD (λz=>xV (go _ sp λo=>o.1 (show(x,y)=(0,0) by simp at z; rw[z.1,z.2]))) (λz=>?_);refine⟨_,U,a,[x,y],100,U,ha',(by show 2<=100; decide),λH' s'=>⟨_,rfl,?_⟩⟩;have s2:=sp.trans s';cases e:qq [x,y] 100 with
 | true=>exact yR (q.yes ⟨λy=>z (by injection y with y1 y2; rw[y1,y2]),aW.mp e⟩ s2)
 | false=>exact xV (go _ s2 λo=>by rw[aW.mpr o.2] at e; cases e)
def tI(K:b7):Sp:=λvs H Q E=>∃(d m b r n:b9)(S:BS)(x y:g8)(p u:Int×Int),vs=[.ref d,.str x,.str y]/\StA H d m b r n S/\zQ S x=Io p/\zQ S y=Io u/\x.length<=1000/\y.length<=1000/\eI (p≠u) Q E wu H
def qh(F:Fun K "check_apart" "check_apart" uL f fd)(Z:Zs mg)(CB:Cb P w mg base)  : yX P w K mg base (CX1 P w) 1 f fd ["state","left","right"] (tI K):=by
 erw[F.okX pi (λvs H Q E h=>?_) (λcdv A outer s H vs Q E hr h=>?_)]
 ·obtain⟨d,m,b,r,n,S,x,y,p,u,rfl,_⟩:=h;rfl
 obtain⟨d,m,b,r,n,S,x,y,p,u,rfl,st,ex,ey,l1,l2,q⟩:=h;obtain⟨kvs,hm,kv⟩:=st.ma;obtain⟨v1,g1,r1⟩:=kv.get (k:=.inr x) (d:=ptD p) (by rw[uB,ex]; rfl);obtain⟨v2,g2,r2⟩:=kv.get (k:=.inr y) (d:=ptD u) (by rw[uB,ey]; rfl);obtain⟨a1,rfl,h1⟩:=wy r1;obtain⟨a2,rfl,h2⟩:=wy r2;exists _,(zG (zX (yH (dS hr.units0) (zO (zU hr) (zO (zU hr) (pv 0) zK (λ_ _=>rfl)) (pv 1) (λ_ _=>rfl)) (zO (zU hr) (zO (zU hr) (pv 0) zK (λ_ _=>rfl)) (pv 2) (λ_ _=>rfl)) (yS _)) (zG (xB (λ_=>E) CB.e_Same d5 (by decide) d5 xE (zB (uA (vd (pv 1) (uE (vd (pv 2) (uE sO))))) zI))) zN))
 try dsimp only[L2.cxOf]
 refine⟨_,U,d,.ref m,U,.inl ⟨_,.inr "marks",st.at_,U,tR.symm⟩,_,U,m,_,U,.inl ⟨kvs,.inr x,hm,U,g1.symm⟩,_,U,d,.ref m,U,.inl ⟨_,.inr "marks",st.at_,U,tR.symm⟩,_,U,m,_,U,.inl ⟨kvs,.inr y,hm,U,g2.symm⟩,
  a1,a2,[p.1,p.2],[u.1,u.2],rfl,rfl,SqT.of h1,SqT.of h2,_,rfl,?_⟩
 exact ifD (λz=>⟨_,rfl,.inr ⟨x,rfl,l1⟩,_,rfl,.inr ⟨y,rfl,l2⟩,λx _=>⟨by show 1<=sizeLine; decide,q.no (λne=>ne (by simp at z; rwa[FO z.1 z.2])) (Same.refl _)⟩⟩) (λz=>q.yes (λe=>z (by rw[e])) (Same.refl _))
def sI(_:b7):Sp:=oA axC λD=>∃ n x y,D=.mark n x y
def nq(F:Fun K "after_mark" "after_mark" vM f fd)(Z:Zs mg)(CB:Cb P w mg base)(yBl:Has P w K mg base "changed" 1 ["state","kind","key","value"] (wG K))(yAp:zt P w K mg base "check_room" 1 ["state","kind"] (wD K))(yAg:zt P w K mg base "check_place" 2 ["place"] (wT K))(yAo:zt P w K mg base "check_free" 1 ["state","kind","name"] (sV K))(yAw:zt P w K mg base "check_name" 1 ["name"] (rA K)):yX P w K mg base (CX1 P w) 3 f fd ["state","row"] (sI K):=by
 erw[F.okX sU (λvs H Q E h=>?_) (λcdv A outer s H vs Q E hr h=>?_)]
 ·obtain⟨d,v,S,D,rfl,_⟩:=h;rfl
 obtain⟨d,v,S,D,rfl,⟨n,x,y,rfl⟩,⟨m,b,r,t,st⟩,hv,tm,wl,q,bad⟩:=h;obtain⟨a,rfl,ha⟩:=lZ hv;obtain⟨an,tx,ty⟩:=tm
 refine'⟨_,(zC (PS.nox (yD 2 sU.nd ?_))
   (zC (PS.nox (yD 3 sU.nd ?_))
   (zC (yC (yG (λ_=>E) yAw yE (hr.mono (by decide)) rfl (zB (pv 2) zI)))
   (zC (yC (yG (λ_=>E) yAo yE (hr.mono (by decide)) rfl (zB (pv 0) (zB zK (zB (pv 2) zI)))))
   (zC (yC (yG (λ_=>E) yAg yE (hr.mono (by decide)) rfl (zB (pv 3) zI)))
   (zC (yC (yG (λ_=>E) yAp yE (hr.mono (by decide)) rfl (zB (pv 0) (zB zK zI))))
   (zG (PS.nox (zM ?_))))))))),?_⟩
 nofun
 exists _,U,a,_,_,.str n,U,U,.inr (SqT.of ha),rfl;refine⟨_,U,a,_,_,.int x,U,U,.inr (SqT.of ha),U,_,U,a,_,_,.int y,U,U,.inr (SqT.of ha),U,sz2,λp hp=>?_⟩;have s1:=zD hp (.tup [.int x,.int y]);refine⟨_,U,n,U,an,.of (λk1 H2 s2=>?_) (λno H2 s2=>bad .badName (by simp[zS,no]) _ (.of (s1.trans s2)))⟩;have s12:=s1.trans s2;have st2:=st.to (.of s12);obtain⟨kvs,hm,kv⟩:=st2.ma;have ep:=s2 _ _ (show upd H p (.tup [.int x,.int y]) p=_ from zA);refine⟨_,U,_,U,d,m, "marks",n,_,kvs,U,st2.at_,tR,hm,(by decide),j7 an.2 (by decide),.of (λk2 H3 s3=>?_) (λno H3 s3=>bad .taken (by
  have:¬ zQ S n=none:=λz=>no ((ai kv).mpr z);simp[zS,k1,xj this]) _ (.of (s12.trans s3)))⟩
 have k2:=(ai kv).mp k2;have s13:=s12.trans s3;refine⟨_,U,p,x,y,U,s3 _ _ ep,tx,ty,.of (λk3 H4 s4=>?_) (λno H4 s4=>bad .badPlace (by simp[zS,k1,k2,no]) _ (.of (s13.trans s4)))⟩;have s14:=s13.trans s4;have s24:=s3.trans s4;have st4:=st.to (.of s14);have hm4:=Rd.same hm s24;refine⟨_,U,d,m, "marks",_,kvs,20,U,st4.at_,tR,hm4,(by symm),(by decide),.of (λk4 H5 s5=>?_) (λno H5 s5=>bad .full (by
  rw[kv.length,yd] at no;simp[zS,k1,k2,k3,show 20<=S.marks.length by lia]) _ (.of (s14.trans s5)))⟩
 rw[kv.length,yd] at k4;have s15:=s14.trans s5;have s25:=s24.trans s5;have st5:=st.to (.of s15);erw[_,U,_,U,_,U,d,m, "marks",.inr n,.ref p,_,kvs,U,st5.at_,tR,Rd.same hm s25,StA.stKlen,kv.le (by rw[yd]; lia),λf c H6 s6 hf _ ef ec=>?_];have s16:=s15.trans s6;have st6:=st.to (.of s16);rw[oB] at ef;erw[q (by simp[zS,k1,k2,k3]; lia) f H6 (.of s16) (s15.free hf) ⟨c,b,r,t,.inl ef,⟨_,.inl ec,?_⟩,st6.ba,st6.ru,st6.no⟩];show xU H6 _ (mkE (S.marks++[(n,x,y)]));rw[al,<- rE (eG k2)];exact(kv.to (.of (s25.trans s6))).put (tD ((s25.trans s6) _ _ ep))
def sK(_:b7):Sp:=oA axC λD=>∃ k x y,D=.move k x y
def oG(F:Fun K "after_move" "after_move" vV f fd)(Z:Zs mg)(CB:Cb P w mg base)(yAm:zt P w K mg base "check_apart" 1 ["state","left","right"] (tI K))(yBl:Has P w K mg base "changed" 1 ["state","kind","key","value"] (wG K))(yAg:zt P w K mg base "check_place" 2 ["place"] (wT K))(yAu:zt P w K mg base "check_mark" 1 ["state","name"] (xY K)):yX P w K mg base (CX1 P w) 3 f fd ["state","row"] (sK K):=by
 erw[F.okX uH (λvs H Q E h=>?_) (λcdv A outer s H vs Q E hr h=>?_)]
 ·obtain⟨d,v,S,D,rfl,_⟩:=h;rfl
 obtain⟨d,v,S,D,rfl,⟨k,x,y,rfl⟩,⟨m,b,r,t,st⟩,hv,tm,wl,q,bad⟩:=h;obtain⟨a,rfl,ha⟩:=kR hv;obtain⟨an,tx,ty⟩:=tm
 refine'⟨_,(zC (PS.nox (yD 2 uH.nd ?_))
   (zC (yC (yG (λ_=>E) yAu yE (hr.mono (by decide)) rfl ?_))
   (zC (yC (yG (λ_=>E) yAg yE (hr.mono (by decide)) rfl (zB (pv 2) zI)))
   (zC (PS.nox (yD 3 uH.nd ?_))
   (zC (qA D4 rfl (kZ (zO (zU hr) (pv 3) zK (λ_ _=>rfl))) (qL 4 uH.nd) (zG (zX ?_ (zG (yC (yG (λ_=>E) yAm yE (hr.mono (by decide)) rfl ?_))) zN)))
   (zG (PS.nox (zM (pv 3))))))))),?_⟩
 nofun
 refine⟨_,U,a,_,_,.int x,U,U,.inr (SqT.of ha),U,_,U,a,_,_,.int y,U,U,.inr (SqT.of ha),U,sz2,λp hp=>?_⟩;have s1:=zD hp (.tup [.int x,.int y]);have ep1:upd H p (.tup [.int x,.int y]) p=Io (.tup [.int x,.int y]):=zA;have st1:=st.to (.of s1);refine⟨_,U,_,U,a,_,_,.str k,U,U,.inr (SqT.of (s1 _ _ ha)),U,d,m,b,r,t,S,k,U,st1,an,.of (λk1 H2 s2=>?_) (λno H2 s2=>bad .noMark (by
  have:zQ S k=none:=by cases e:zQ S k <;> simp[e] at no ⊢
  simp only[zS,y9 this]) _ (.of (s1.trans s2)))⟩
 have k1':¬ zQ S k=none:=λz=>by rw[z] at k1; cases k1
 erw[_,U,p,x,y,U,s2 _ _ ep1,tx,ty,.of (λk2 H3 s3=>?_) (λno H3 s3=>bad .badPlace (by simp only[zS,y7 k1',y9 no]) _ (.of ((s1.trans s2).trans s3)))];have s13:=(s1.trans s2).trans s3;have ep3:=s3 _ _ (s2 _ _ ep1);have st3:=st.to (.of s13);obtain⟨mvs,hm,km⟩:=st3.ma;refine⟨_,U,_,U,a,_,_,.str k,U,U,.inr (SqT.of (s13 _ _ ha)),U,_,U,d,m, "marks",.inr k,.ref p,_,mvs,U,st3.at_,tR,hm,StA.stKlen,km.le (by rw[yd]; have:=wl.good.few.ma; lia),λf c H4 s4 hf _ ef ec=>?_⟩;have s14:=s13.trans s4;have st4:=st.to (.of s14);rw[oB] at ef;have fst:StA H4 f c b r t (aft S (.move k x y)):=⟨.inl ef,⟨_,.inl ec,by rw[<- Zg k1]; exact(km.to (.of s4)).put (tD (p:=(x,y)) (s4 _ _ ep3))⟩,st4.ba,st4.ru,st4.no⟩;obtain⟨nk,hn,kn⟩:=fst.no;obtain⟨ks,rfl,e1,rk⟩:=vo kn;have lks:ks.length=S.notes.length:=by have:=congrArg Bv e1; rw[a7,a7] at this; rwa[this]
 refine⟨_,U,f,.ref t,U,.inl ⟨_,.inr "notes",fst.at_,U,zx.symm⟩,t,_,U,hn,λo H5 fz=>?_⟩;have s5:Sam H4 H5:=nu hn fz;refine Xd (λi σ H'=>Sam H4 H'/\ff t o (ks.map λe=>(.inl e.1,e.2)) H'/\(∀ e∈S.notes.take i,rm (aft S (.move k x y)) e.2)/\∃ u:Option V,σ=[Io (.ref d),Io (.ref a),Io (.ref p),Io (.ref f),u])
  ⟨s5,fz.1,λe he=>(nomatch he),Ip,rfl⟩ (λi σ H' h=>h.2.1) ?_ ?_
 ·rintro i x' σ H' gx ⟨s6,fa,ul,u,rfl⟩;have gx':(ks.map (·.2))[i]?=Io x':=by rw[v7] at gx; rwa[gx]
  obtain⟨dt,gd,rd⟩:=rk.back gx';rw[e7,j6] at gd;obtain⟨e,ge,rfl⟩:=gd;have ge:S.notes[i]?=Io e:=ge;have mem:=j5 ge;have kn:=wl.good.note e mem;have rd3:=rd.to s6;have snoc:rm (aft S (.move k x y)) e.2->∀ e'∈S.notes.take (i+1),rm (aft S (.move k x y)) e'.2:=λh e' he'=>by
   rw[w6,ge] at he';rcases m7.mp he' with z | z
   ·rwa[ul e' z]
   ·rw[d8.mp z]; rwa[h]
  match hE:e.2,kn,rd3 with
  | .bearing mo n x1 y1 x2 y2,kn,rd3 =>
   obtain⟨c,c1,c2,rfl,hc,hc1,hc2⟩:=uD rd3;exists _,U,c,_,0,.str "bearing",U,U,.inr (SqT.of hc),U,U,_,rfl;rwa[yR ⟨s6,fa,snoc (by rw[hE]; trivial),_,rfl⟩]
  | .range mo l1 r1,kn,rd3 =>
   obtain⟨c',rfl,hc⟩:=rC rd3;obtain⟨_,_,i1,i2,_⟩:=kn;have o1:=wl.mark i1;have o2:=wl.mark i2;obtain⟨p1,g1⟩:=k9.mp (vW (n:=k) (x:=x) (y:=y) i1);obtain⟨p2,g2⟩:=k9.mp (vW (n:=k) (x:=x) (y:=y) i2);exists _,U,c',_,0,.str "range",U,U,.inr (SqT.of hc),U,U,_,rfl;refine xV ?_;refine⟨_,U,_,U,c',_,2,.str l1,U,U,.inr (SqT.of hc),U,_,U,c',_,3,.str r1,U,U,.inr (SqT.of hc),U,f,_,_,_,_,_,l1,r1,p1,p2,U,fst.to s6,g1,g2,j7 o1.2.1 (by decide),j7 o2.2.1 (by decide),.of (λne H7 s7=>?_) (λno H7 s7=>bad .same (by
    have z:¬ ∀ e∈S.notes,rm (aft S (.move k x y)) e.2:=λz=>by
     have z:=z e mem;rw[hE] at z;obtain⟨u1,u2,h1,h2,h3⟩:=z;rw[g1] at h1;rw[g2] at h2;cases h1;cases h2;rwa[no h3]
    simp only[zS,y7 k1',y7 (e9.mpr k2),y7 z]) _ (((yY.of s14).trans s6).trans (.of s7)))⟩
   rwa[s6.trans (.of s7),s7 _ _ fa,snoc (by rw[hE]; exact⟨p1,p2,g1,g2,ne⟩),_,U]
 ·rintro σ H' ⟨s6,fa,ul,u,rfl⟩;rw[a7,a7,lks,Am] at ul;rwa[_,U,q (by simp only[zS,y7 k1',y7 (e9.mpr k2),y9 ul]) f H' ((yY.of s14).trans s6) (s13.free hf) ⟨_,_,_,_,fst.to s6⟩]
def vE(_:b7):Sp:=oA axC λD=>∃ k,D=.unmark k
def tw(F:Fun K "after_unmark" "after_unmark" wR f fd)(Z:Zs mg)(CB:Cb P w mg base)(yBk:Has P w K mg base "without" 1 ["state","kind","key"] (rH K))(yAu:zt P w K mg base "check_mark" 1 ["state","name"] (xY K)):yX P w K mg base (CX1 P w) 2 f fd ["state","row"] (vE K):=by
 erw[F.okX vH (λvs H Q E h=>?_) (λcdv A outer s H vs Q E hr h=>?_)]
 ·obtain⟨d,v,S,D,rfl,_⟩:=h;rfl
 obtain⟨d,v,S,D,rfl,⟨k,rfl⟩,⟨m,b,r,t,st⟩,hv,tm,wl,q,bad⟩:=h;obtain⟨a,rfl,ha⟩:=vq hv
 refine'⟨_,(zC (PS.nox (yD 2 vH.nd ?_))
   (zC (yC (yG (λ_=>E) yAu yE (hr.mono (by decide)) rfl (zB (pv 0) (zB (pv 2) zI))))
   (zC (qA D4 rfl (kZ (zO (zU hr) (pv 0) zK (λ_ _=>rfl))) (qL 3 vH.nd) (zG (zX (yH (Zr (zU hr)) (pv 2) (uV qy (pv 3) (sL yL) sG) (by with_unfolding_all rfl)) (zG (xB (λ_=>E) CB.e_Needed d5 (by decide) d5 xE (zB (uA (uE (vd (pv 2) sO))) zI))) zN)))
   (zG (PS.nox (zM ?_)))))),?_⟩
 nofun
 exists _,U,a,_,_,.str k,U,U,.inr (SqT.of ha),rfl;refine⟨_,U,_,U,d,m,b,r,t,S,k,U,st,tm,.of (λk1 H1 s1=>?_) (λno H1 s1=>bad .noMark (by
  have:zQ S k=none:=by cases e:zQ S k <;> simp[e] at no ⊢
  simp only[zS,y9 this]) _ (.of s1))⟩
 have k1':¬ zQ S k=none:=λz=>by rw[z] at k1; cases k1
 have st1:=st.to (.of s1);obtain⟨nk,hn,kn⟩:=st1.no;obtain⟨ks,rfl,e1,rk⟩:=vo kn;have lks:ks.length=S.notes.length:=by have:=congrArg Bv e1; rw[a7,a7] at this; rwa[this]
 refine⟨_,U,d,.ref t,U,.inl ⟨_,.inr "notes",st1.at_,U,zx.symm⟩,t,_,U,hn,λo H2 fz=>?_⟩;have s2:Sam H1 H2:=nu hn fz;refine Xd (λi σ H'=>Sam H1 H'/\ff t o (ks.map λe=>(.inl e.1,e.2)) H'/\(∀ e∈S.notes.take i,rX k e.2)/\∃ u:Option V,σ=[Io (.ref d),Io (.ref a),Io (.str k),u])
  ⟨s2,fz.1,λe he=>(nomatch he),Ip,rfl⟩ (λi σ H' h=>h.2.1) ?_ ?_
 ·rintro i x σ H' gx ⟨s3,fa,ul,u,rfl⟩;have gx':(ks.map (·.2))[i]?=Io x:=by rw[v7] at gx; rwa[gx]
  obtain⟨dt,gd,rd⟩:=rk.back gx';rw[e7,j6] at gd;obtain⟨e,ge,rfl⟩:=gd;have mem:=j5 ge;have kn:=wl.good.note e mem;have rd3:=rd.to s3;have snoc:rX k e.2->∀ e'∈S.notes.take (i+1),rX k e'.2:=λh e' he'=>by
   rw[w6,ge] at he';rcases m7.mp he' with z | z
   ·rwa[ul e' z]
   ·rw[d8.mp z]; rwa[h]
  have needed:¬ rX k e.2->∀ H4,Same H' H4->ZB (VD (ZW 2) aK) [Io (.ref d),Io (.ref a),Io (.str k),Io x] H4 (λv H1=>1<=sizeLine/\E (.ref sW) Ip H1):=λno H4 s4=>⟨_,rfl,.inr ⟨k,rfl,j7 tm.2 (by decide)⟩,λy _=>⟨by show 1<=sizeLine; decide,bad .needed (by
   simp only[zS,y7 k1',y7 (show ¬ ∀ e∈S.notes,rX k e.2 from λz=>no (z e mem))]) _ (((yY.of s1).trans s3).trans (.of s4))⟩⟩
  match hE:e.2,kn,rd3 with
  | .bearing mo n x1 y1 x2 y2,kn,rd3 =>
   obtain⟨c,c1,c2,rfl,hc,hc1,hc2⟩:=uD rd3;refine⟨_,U,_,U,_,U,c,_,U,SqT.of hc,(λz=>x5 z.1 (by show ¬ HT.sIx 5 0 (Io 2)=0; decide)),λp hp=>?_⟩;have sp:=zD hp (.tup (ze [.str "bearing",.int mo,.str n,.ref c1,.ref c2] (Io 2) Ip));erw[p,[.str n,.ref c1,.ref c2],k,U,U,SqT.of zA,λv hv=>?_,_,U,?_]
   ·rcases i7.mp hv with z | hv
    ·rwa[.inl ⟨n,z⟩]
    rcases i7.mp hv with z | hv
    ·rwa[.inr ⟨c1,_,z,SqT.of (sp _ _ hc1)⟩]
    ·rwa[.inr ⟨c2,_,d8.mp hv,SqT.of (sp _ _ hc2)⟩]
   have nn:([V.str n,.ref c1,.ref c2].any (isS k))=(n == k):=by
    show((n == k)||(Ir||(Ir||false)))=(n == k);cases n == k <;> rfl
   rw[nn];cases hb:n == k with
   | true=>rwa[xV (needed (by rw[hE]; exact λz=>z (eq_of_beq hb)) _ sp)]
   | false=>rwa[yR ⟨s3.trans (.of sp),sp _ _ fa,snoc (by rw[hE]; exact x6.mp hb),_,rfl⟩]
  | .range mo l1 r1,kn,rd3 =>
   obtain⟨c,rfl,hc⟩:=rC rd3;refine⟨_,U,_,U,_,U,c,_,U,SqT.of hc,(λz=>x5 z.1 (by show ¬ HT.sIx 4 0 (Io 2)=0; decide)),λp hp=>?_⟩;have sp:=zD hp (.tup (ze [.str "range",.int mo,.str l1,.str r1] (Io 2) Ip));erw[p,[.str l1,.str r1],k,U,U,SqT.of zA,λv hv=>?_,_,U,?_]
   ·rcases i7.mp hv with z | hv
    ·rwa[.inl ⟨l1,z⟩]
    ·rwa[.inl ⟨r1,d8.mp hv⟩]
   have nn:([V.str l1,.str r1].any (isS k))=(l1 == k||r1 == k):=by
    show((l1 == k)||((r1 == k)||false))=_;rw[Fl]
   rw[nn];cases hb:(l1 == k||r1 == k) with
   | true=>exact xV (needed (by
     rw[hE];rintro⟨h1,h2⟩;rcases EF _ _ |>.mp hb with z | z
     ·rwa[h1 (eq_of_beq z)]
     ·rwa[h2 (eq_of_beq z)]) _ sp)
   | false =>
    rw[Cm] at hb;rwa[yR ⟨s3.trans (.of sp),sp _ _ fa,snoc (by rw[hE]; exact⟨x6.mp hb.1,x6.mp hb.2⟩),_,U⟩]
 ·rintro σ H' ⟨s3,fa,ul,u,rfl⟩;rw[a7,a7,lks,Am] at ul;have st3:=st1.to s3;obtain⟨mvs,hm,km⟩:=st3.ma;obtain⟨p,ep⟩:=k9.mp k1;obtain⟨v,ev,_⟩:=km.get (k:=.inr k) (d:=ptD p) (by rw[uB,ep]; rfl);erw[_,U,_,U,d,m, "marks",.inr k,v,_,mvs,U,st3.at_,tR,hm,ev,StA.stKlen,λf c H4 s4 hf ne ef ec=>?_];have st4:=st3.to (.of s4);have s03:=(yY.of s1).trans s3;rw[oB] at ef;erw[q (by simp only[zS,y7 k1',y9 ul]) f H4 (s03.trans (.of s4)) (s03.free id hf) ⟨c,b,r,t,.inl ef,⟨_,.inl ec,?_⟩,st4.ba,st4.ru,st4.no⟩];have:=(km.to (.of s4)).drop (k:=.inr k);rw[eJ] at this;rwa[this]
def sJ(_:b7):Sp:=oA axC λD=>∃ n cs,D=.bank n cs
def cn_ok{H:Hp}{cs:List (Int×Int)}{ps:List Pr}(h:TX H cs ps)(hn:∀ c∈cs,c.1.natAbs.log2<20/\c.2.natAbs.log2<20):Uw H (10^8) ps:=λt ht=>by
 obtain⟨h1,h2⟩:=hn t.2 (by rw[<- h.pt]; rwa[i4.mpr ⟨t,ht,rfl⟩]);have e1:=lt_two_pow_of_log2_lt h1;have e2:=lt_two_pow_of_log2_lt h2;have e3:(2:Nat)^20<=10^8:=by decide
 rwa[h.at_ t ht,by lia,by lia]
def nT(F:Fun K "after_bank" "after_bank" vN f fd)(Z:Zs mg)(CB:Cb P w mg base)(yBl:Has P w K mg base "changed" 1 ["state","kind","key","value"] (wG K))(yAp:zt P w K mg base "check_room" 1 ["state","kind"] (wD K))(yBn:Has P w K mg base "is_bank" 3 ["corners"] (rg K))(yAg:zt P w K mg base "check_place" 2 ["place"] (wT K))(yAo:zt P w K mg base "check_free" 1 ["state","kind","name"] (sV K))(yAw:zt P w K mg base "check_name" 1 ["name"] (rA K)):yX P w K mg base (CX1 P w) 4 f fd ["state","row"] (sJ K):=by
 erw[F.okX uU (λvs H Q E h=>?_) (λcdv A outer s H vs Q E hr h=>?_)]
 ·obtain⟨d,v,S,D,rfl,_⟩:=h;rfl
 obtain⟨d,v,S,D,rfl,⟨n,cs,rfl⟩,⟨m,b,r,t,st⟩,hv,tm,wl,q,bad⟩:=h;obtain⟨a,cc,ps,rfl,ha,hc,cn,rc⟩:=nU hv;obtain⟨an,l12,tc⟩:=tm;have shw:=iH l12 tc;have lps:ps.length<=12:=by rw[<- cn.pt,a7] at l12; rwa[l12]
 refine'⟨_,(zC (PS.nox (yD 2 uU.nd ?_))
   (zC (PS.nox (yD 3 uU.nd ?_))
   (zC (yC (yG (λ_=>E) yAw yE (hr.mono (by decide)) rfl (zB (pv 2) zI)))
   (zC (yC (yG (λ_=>E) yAo yE (hr.mono (by decide)) rfl (zB (pv 0) (zB zK (zB (pv 2) zI)))))
   (zC (qA D4 rfl (eF (pv 3)) (qL 4 uU.nd) (zG (yC (yG (λ_=>E) yAg yE (hr.mono (by decide)) rfl (zB (pv 4) zI)))))
   (zC (zX ?_ (zG (xB (λ_=>E) CB.e_BadBank d5 (by decide) d5 xE (zB (uA (jW hr.gd hr.units (pv 3) (uE sO))) zI))) zN)
   (zC (yC (yG (λ_=>E) yAp yE (hr.mono (by decide)) rfl (zB (pv 0) (zB zK zI))))
   (zG (PS.nox (zM ?_)))))))))),?_⟩
 nofun
 exists _,U,a,_,_,.str n,U,U,.inr (SqT.of ha),rfl;exists _,U,a,_,_,.ref cc,U,U,.inr (SqT.of ha),rfl;refine⟨_,U,n,U,an,.of (λk1 H1 s1=>?_) (λno H1 s1=>bad .badName (by simp only[zS,y9 no]) _ (.of s1))⟩;have k1':=e9.mpr k1;have st1:=st.to (.of s1);obtain⟨bvs,hb,kb⟩:=st1.ba;refine⟨_,U,_,U,d,b, "banks",n,_,bvs,U,st1.at_,xm,hb,(by decide),j7 an.2 (by decide),.of (λk2 H2 s2=>?_) (λno H2 s2=>bad .taken (by
  have:n∈S.banks.map (·.1):=e9.mp λz=>no ((tf kb).mpr z);simp only[zS,y7 k1',y9 this]) _ (.of (s1.trans s2)))⟩
 have k2:=(tf kb).mp k2;have s12:=s1.trans s2;have hc2:=s12 _ _ hc;refine⟨_,U,cc,U,.inr ⟨⟨_,SqT.of hc2⟩,?_⟩⟩;refine aZ (K:=K) (a:=cc) (xs:=wN ps) (λi σ H'=>Same H2 H'/\(∀ u∈ps.take i,qi u.2)/\∃ u:Option V,σ=[Io (.ref d),Io (.ref a),Io (.str n),Io (.ref cc),u])
  ⟨Same.refl _,λu hu=>(nomatch hu),Ip,rfl⟩ (λi σ H' _ h=>SqT.of (h.1 _ _ hc2)) ?_ ?_
 ·rintro i x σ H' gx ⟨s3,nr,u,rfl⟩;rw[e7,e7,Option.map_map,j6] at gx;obtain⟨tt,gt,rfl⟩:=gx;have mt:=j5 gt;have mc:tt.2∈cs:=by rw[<- cn.pt]; rwa[i4.mpr ⟨tt,mt,rfl⟩]
  obtain⟨c1,c2⟩:=tc _ mc;refine⟨_,U,tt.1,tt.2.1,tt.2.2,U,s3 _ _ (s12 _ _ (cn.at_ tt mt)),Bf c1 (by decide),Bf c2 (by decide),.of (λk3 H4 s4=>⟨s3.trans s4,λu hu=>?_,_,U⟩) (λno H4 s4=>bad .badPlace (by
   simp only[zS,y7 k1',y7 k2,y9 (show ¬ ∀ c∈cs,qi c from λz=>no (z _ mc))]) _ (.of (s12.trans (s3.trans s4))))⟩
  rw[w6,gt] at hu;rcases m7.mp hu with z | z
  ·rwa[nr u z]
  ·rw[d8.mp z]; rwa[k3]
 ·rintro σ H3 ⟨s3,nr,u,rfl⟩;rw[Ab (by rw[xQ]; exact d6 _)] at nr;have k3:∀ c∈cs,qi c:=λc hc=>by
   rw[<- cn.pt] at hc;obtain⟨u,hu,rfl⟩:=i4.mp hc;rwa[nr u hu]
  have k3':=e9.mpr k3;have s13:=s12.trans s3;erw[_,U,cc,ps,U,⟨.inr (SqT.of (s3 _ _ hc2)),(cn_ok cn tc).same s13⟩,by lia,λH4 s4=>⟨_,U,?_⟩];rw[UY,cn.pt];have s14:=s13.trans s4;cases k4:im cs with
  | false=>exact xV ⟨_,rfl,⟨_,rc.to (.of s14),shw⟩,λy _=>⟨by show 1<=sizeLine; decide,bad .badBank (by simp only[zS,y7 k1',y7 k2,y7 k3',y9 k4]) _ (.of s14)⟩⟩
  | true =>
   have k4':¬ im cs=false:=by rw[k4]; exact λz=>nomatch z
   refine yR ?_;have st4:=st.to (.of s14);have hb4:=Rd.same hb ((s2.trans s3).trans s4);refine⟨_,U,d,b, "banks",_,bvs,8,U,st4.at_,xm,hb4,(by symm),(by decide),.of (λk5 H5 s5=>?_) (λno H5 s5=>bad .full (by
    rw[kb.length,lM] at no;simp only[zS,y7 k1',y7 k2,y7 k3',y7 k4',y9 (show 8<=S.banks.length by lia)]) _ (.of (s14.trans s5)))⟩
   rw[kb.length,lM] at k5;have s15:=s14.trans s5;have st5:=st.to (.of s15);erw[_,U,_,U,_,U,d,b, "banks",.inr n,.ref cc,_,bvs,U,st5.at_,xm,Rd.same hb4 s5,StA.stKlen,kb.le (by rw[lM]; lia),λf c H6 s6 hf _ ef ec=>?_];have s16:=s15.trans s6;have st6:=st.to (.of s16);rw[iN] at ef;refine q (by simp only[zS,y7 k1',y7 k2,y7 k3',y7 k4',y7 (show ¬ 8<=S.banks.length by lia)]) f H6 (.of s16) (s15.free hf) ⟨m,c,r,t,.inl ef,st6.ma,⟨_,.inl ec,?_⟩,st6.ru,st6.no⟩;show xU H6 _ (bkE (S.banks++[(n,cs)]));rw[Zw,<- rE (lL k2)];exact(kb.to (.of ((((s2.trans s3).trans s4).trans s5).trans s6))).put (rc.to (.of s16))
def tO(_:b7):Sp:=oA axC λD=>∃ k,D=.level k
def qg(F:Fun K "after_level" "after_level" uX f fd)(Z:Zs mg)(CB:Cb P w mg base)(yBk:Has P w K mg base "without" 1 ["state","kind","key"] (rH K)):yX P w K mg base (CX1 P w) 2 f fd ["state","row"] (tO K):=by
 erw[F.okX zp (λvs H Q E h=>?_) (λcdv A outer s H vs Q E hr h=>?_)]
 ·obtain⟨d,v,S,D,rfl,_⟩:=h;rfl
 obtain⟨d,v,S,D,rfl,⟨k,rfl⟩,⟨m,b,r,t,st⟩,hv,tm,wl,q,bad⟩:=h;obtain⟨a,rfl,ha⟩:=pZ hv;obtain⟨nk,hn,kn⟩:=st.ba
 refine'⟨_,(zC (PS.nox (yD 2 zp.nd ?_))
   (zC (zX (zh (sP (zU hr) (pv 2) (zO (zU hr) (pv 0) zK (λ_ _=>rfl))) (by with_unfolding_all rfl)) (zG (xB (λ_=>E) CB.e_NoBank d5 (by decide) d5 xE (zB (uA (uE (fM (pv 2) sO))) zI))) zN)
   (zG (PS.nox (zM ?_))))),?_⟩
 nofun
 exists _,U,a,_,_,.str k,U,U,.inr (SqT.of ha),U,_,U,_,U,d,.ref b,U,.inl ⟨_,.inr "banks",st.at_,U,xm.symm⟩,b,_,U,.inl ⟨nk,.inr k,hn,U,U⟩,_,rfl;cases ev:wS nk (.inr k) with
 | none=>exact xV ⟨_,rfl,⟨k,rfl,oN.big tm,j7 tm.2 (by decide)⟩,λy _=>⟨by show 1<=sizeLine; decide,bad .noBank (by simp only[zS,y7 ((tf kn).mp ev)]) H (.refl _)⟩⟩
 | some v =>
  have ok:k∈S.banks.map (·.1):=e9.mp λz=>by rw[(tf kn).mpr z] at ev; cases ev
  erw[yR ?_];erw[_,U,_,U,d,b, "banks",.inr k,v,_,nk,U,st.at_,xm,hn,ev,StA.stKlen,λf c H2 s2 hf ne ef ec=>?_];have st2:=st.to (.of s2);rw[iN] at ef;erw[q (by simp only[zS,y9 ok]) f H2 (.of s2) hf ⟨m,c,r,t,.inl ef,st2.ma,⟨_,.inl ec,?_⟩,st2.ru,st2.no⟩];have:=(kn.to (.of s2)).drop (k:=.inr k);rw[ej] at this;rwa[this]
def sF(_:b7):Sp:=oA axC λD=>∃ x y,D=.sail x y
def nJ(F:Fun K "after_sail" "after_sail" vP f fd)(Z:Zs mg)(CB:Cb P w mg base)(yBl:Has P w K mg base "changed" 1 ["state","kind","key","value"] (wG K))(yAp:zt P w K mg base "check_room" 1 ["state","kind"] (wD K))(yBa:zt P w K mg base "check_run" 2 ["run"] (rR K)):yX P w K mg base (CX1 P w) 3 f fd ["state","row"] (sF K):=by
 erw[F.okX yz (λvs H Q E h=>?_) (λcdv A outer s H vs Q E hr h=>?_)]
 ·obtain⟨d,v,S,D,rfl,_⟩:=h;rfl
 obtain⟨d,v,S,D,rfl,⟨x,y,rfl⟩,⟨m,b,r,t,st⟩,hv,tm,wl,q,bad⟩:=h;obtain⟨a,rfl,ha⟩:=kE hv;obtain⟨tx,ty⟩:=tm
 refine'⟨_,(zC (PS.nox (yD 2 yz.nd ?_))
   (zC (yC (yG (λ_=>E) yBa yE (hr.mono (by decide)) rfl (zB (pv 2) zI)))
   (zC (yC (yG (λ_=>E) yAp yE (hr.mono (by decide)) rfl (zB (pv 0) (zB zK zI))))
   (zG (PS.nox (zM (uW yBl (hr.mono (by decide)) rfl (zB (pv 0) (zB zK (zB (zR tF rfl Z.len uF (zB (zO (zU hr) (pv 0) zK (λ_ _=>rfl)) zI)) (zB (pv 2) zI))))))))))),?_⟩
 nofun
 erw[_,U,a,_,_,.int x,U,U,.inr (SqT.of ha),U,_,U,a,_,_,.int y,U,U,.inr (SqT.of ha),U,sz2,λp hp=>?_];have s1:=zD hp (.tup [.int x,.int y]);erw[_,U,p,x,y,U,zA,tx,ty,.of (λk1 H2 s2=>?_) (λno H2 s2=>bad .badRun (by simp[zS,no]) _ (.of (s1.trans s2)))];have s12:=s1.trans s2;have st2:=st.to (.of s12);obtain⟨kvs,hm,kv⟩:=st2.ru;have ln:kvs.length=S.runs.length:=by rw[kv.length,wj]
 have ep:=s2 _ _ (show upd H p (.tup [.int x,.int y]) p=_ from zA);refine⟨_,U,d,r, "runs",_,kvs,12,U,st2.at_,rN,hm,(by symm),(by decide),.of (λk2 H3 s3=>?_) (λno H3 s3=>bad .full (by simp[zS,k1,show 12<=S.runs.length by lia]) _ (.of (s12.trans s3)))⟩;have s13:=s12.trans s3;have st3:=st.to (.of s13);have hm3:=Rd.same hm s3;erw[_,U,_,U,d,.ref r,U,.inl ⟨_,.inr "runs",st3.at_,U,rN.symm⟩,r,kvs,U,hm3,_,U,d,r, "runs",.inl (kvs.length:Int),.ref p,_,kvs,U,st3.at_,rN,hm3,StA.stKlen,by lia,λf c H4 s4 hf _ ef ec=>?_];have s14:=s13.trans s4;have st4:=st.to (.of s14);rw[dH] at ef;erw[q (by simp[zS,k1]; lia) f H4 (.of s14) (s13.free hf) ⟨m,b,c,t,.inl ef,st4.ma,st4.ba,⟨_,.inl ec,?_⟩,st4.no⟩];show xU H4 _ (rnE (S.runs++[(x,y)]));rw[VP,<- rE Xx,<- ln];exact(kv.to (.of (s3.trans s4))).put (tD ((s3.trans s4) _ _ ep))
def tL(_:b7):Sp:=oA axC λD=>∃ k x y,D=.right k x y
def pf(F:Fun K "after_right" "after_right" uI f fd)(Z:Zs mg)(CB:Cb P w mg base)(yBl:Has P w K mg base "changed" 1 ["state","kind","key","value"] (wG K))(yBa:zt P w K mg base "check_run" 2 ["run"] (rR K)):yX P w K mg base (CX1 P w) 3 f fd ["state","row"] (tL K):=by
 erw[F.okX tH (λvs H Q E h=>?_) (λcdv A outer s H vs Q E hr h=>?_)]
 ·obtain⟨d,v,S,D,rfl,_⟩:=h;rfl
 obtain⟨d,v,S,D,rfl,⟨k,x,y,rfl⟩,⟨m,b,r,t,st⟩,hv,tm,wl,q,bad⟩:=h;obtain⟨a,rfl,ha⟩:=pY hv;obtain⟨tk,tx,ty⟩:=tm
 refine'⟨_,(zC (PS.nox (yD 2 tH.nd ?_))
   (zC (PS.nox (yD 3 tH.nd ?_))
   (zC (zX (zh (sP (zU hr) (pv 2) (zO (zU hr) (pv 0) zK (λ_ _=>rfl))) (by with_unfolding_all rfl)) (zG (xB (λ_=>E) CB.e_NoRun d5 (by decide) d5 xE (zB (uA (uE (vd (pv 2) sO))) zI))) zN)
   (zC (yC (yG (λ_=>E) yBa yE (hr.mono (by decide)) rfl (zB (pv 3) zI)))
   (zG (PS.nox (zM ?_))))))),?_⟩
 nofun
 exists _,U,a,_,_,.int k,U,U,.inr (SqT.of ha),rfl;erw[_,U,a,_,_,.int x,U,U,.inr (SqT.of ha),U,_,U,a,_,_,.int y,U,U,.inr (SqT.of ha),U,sz2,λp hp=>?_];have s1:=zD hp (.tup [.int x,.int y]);have st1:=st.to (.of s1);obtain⟨rvs,hr1,kr⟩:=st1.ru;exists _,U,_,U,d,.ref r,U,.inl ⟨_,.inr "runs",st1.at_,U,rN.symm⟩,r,_,U,.inl ⟨rvs,.inl k,hr1,U,U⟩,_,rfl;cases ev:wS rvs (.inl k) with
 | none=>exact xV ⟨_,rfl,.inl ⟨k,rfl,Bf (show k.natAbs.log2<200 from tk) (by decide)⟩,λy _=>⟨by show 1<=sizeLine; decide,bad .noRun (by simp only[zS,y7 ((Zk kr).mp ev)]) _ (.of s1)⟩⟩
 | some v =>
  have ok:0<=k/\k<S.runs.length:=e9.mp λz=>by rw[(Zk kr).mpr z] at ev; cases ev
  erw[yR ?_];obtain⟨i,rfl⟩:=AI ok.1;have hi:i<S.runs.length:=by lia
  erw[_,U,p,x,y,U,zA,tx,ty,.of (λk3 H3 s3=>?_) (λno H3 s3=>bad .badRun (by simp only[zS,y9 ok,y7 no]) _ (.of (s1.trans s3)))];have st3:=st1.to (.of s3);have hr3:=Rd.same hr1 s3;refine⟨_,U,_,U,_,U,d,r, "runs",.inl (i:Int),.ref p,_,rvs,U,st3.at_,rN,hr3,StA.stKlen,kr.le (by rw[wj]; have:=wl.good.few.ru; lia),λf c H4 s4 hf _ ef ec=>?_⟩;have s14:=(s1.trans s3).trans s4;have st4:=st.to (.of s14);rw[dH] at ef;erw[q (by simp only[zS,y9 ok,y9 k3]) f H4 (.of s14) ((s1.trans s3).free hf) ⟨m,b,c,t,.inl ef,st4.ma,st4.ba,⟨_,.inl ec,?_⟩,st4.no⟩];show xU H4 _ (rnE (S.runs.set i (x,y)));rw[<- VA hi];exact(kr.to (.of (s3.trans s4))).put (tD (p:=(x,y)) ((s3.trans s4) _ _ zA))
def sQ(_:b7):Sp:=λvs H Q E=>∃(d:b9)(v:V)(S:BS)(D:Deed),vs=[.ref d,v]/\fv H d S/\Rep H D.dt v/\S.notes.length<=60/\Xr S /\
 (S.notes.length<24->∀(d':b9)(H':Hp),Same H H'->H d'=Ip->fv H' d' { S with notes:=S.notes++[(S.coming,D)],coming:=S.coming+1 }->Q (.ref d') H')/\(24<=S.notes.length->∀ H',Same H H'->E (.ref yu) Ip H')
def oY(F:Fun K "after_note" "after_note" vR f fd)(Z:Zs mg)(CB:Cb P w mg base)(yBl:Has P w K mg base "changed" 1 ["state","kind","key","value"] (wG K))(yAp:zt P w K mg base "check_room" 1 ["state","kind"] (wD K)):yX P w K mg base (CX1 P w) 2 f fd ["state","row"] (sQ K):=by
 erw[F.okX yg (λvs H Q E h=>?_) (λcdv A outer s H vs Q E hr h=>?_)]
 ·obtain⟨d,v,S,D,rfl,_⟩:=h;rfl
 obtain⟨d,v,S,D,rfl,⟨m,b,r,t,st⟩,hv,l60,fr,q,bad⟩:=h;obtain⟨kvs,hm,kv⟩:=st.no;have ln:kvs.length=S.notes.length:=by rw[kv.length,bO]
 refine⟨_,(zC (yC (yG (λ_=>E) yAp yE (hr.mono (by decide)) rfl (zB (pv 0) (zB zK zI))))
   (zC (PS.nox (qD (i:=2) yg.nd rfl (A4 rfl) (uW yBl (hr.mono (by decide)) rfl (zB (pv 0) (zB zK (zB (zO (zU hr) (pv 0) zK (λ_ _=>rfl)) (zB (pv 1) zI)))))))
   (zC (PS.nox (rS (zU hr) (pv 2) zK (wH xa (zO (zU hr) (pv 0) zK (λ_ _=>rfl)) yL) rfl))
   (zG (PS.nox (zM (pv 2))))))),?_⟩
 try dsimp only[L2.cxOf]
 erw[_,U,d,t, "notes",_,kvs,24,U,st.at_,zx,hm,(by symm),(by decide),.of (λk1 H1 s1=>?_) (λno H1 s1=>bad (by lia) H1 s1)];have st1:=st.to (.of s1);have hm1:=Rd.same hm s1;erw[_,U,_,U,d,.int S.coming,U,.inl ⟨_,.inr "coming",st1.at_,U,oR.symm⟩,_,U,d,t, "notes",.inl S.coming,v,_,kvs,U,st1.at_,zx,hm1,StA.stKlen,by lia,λf c H2 s2 hf ne ef ec=>?_];have s12:=s1.trans s2;have st2:=st.to (.of s12);rw[jN] at ef;exists _,U,d,.int S.coming,U,.inl ⟨_,.inr "coming",st2.at_,U,oR.symm⟩,_,_,U,U,_,U,f,_,U,iE.k (k:=.inr "coming") ef (zT (j7 StA.stKlen (by decide))),_,rfl;rw[cZ];have hf0:=s1.free hf;have s3:Same H (upd H2 f (.dK (stK m b r c (S.coming+1)))):=s12.putNew hf0;have st3:=st.to (.of s3);erw[q (by lia) f _ s3 hf0 ⟨m,b,r,c,.inl zA,st3.ma,st3.ba,st3.ru,⟨_,.inl (by rw[zH ne.symm]; rwa[ec]),?_⟩⟩];rw[fR,<- rE (kx fr)];exact(kv.to (.of s3)).put (hv.to (.of s3))
def uM(_:b7):Sp:=oA axC λD=>∃ mo nm x1 y1 x2 y2,D=.bearing mo nm x1 y1 x2 y2
def we(F:Fun K "after_bearing" "after_bearing" wK f fd)(Z:Zs mg)(CB:Cb P w mg base)(yAr:zt P w K mg base "after_note" 2 ["state","row"] (sQ K))(yCc:Has P w K mg base "turn" 1 ["one","other"] (nv K))(yAz:zt P w K mg base "check_way" 2 ["direction"] (wx K))(yAu:zt P w K mg base "check_mark" 1 ["state","name"] (xY K))(yAd:zt P w K mg base "check_moment" 1 ["moment","runs"] (vD K)):yX P w K mg base (CX1 P w) 3 f fd ["state","row"] (uM K):=by
 erw[F.okX vt (λvs H Q E h=>?_) (λcdv A outer s H vs Q E hr h=>?_)]
 ·obtain⟨d,v,S,D,rfl,_⟩:=h;rfl
 obtain⟨d,v,S,D,rfl,⟨mo,nm,x1,y1,x2,y2,rfl⟩,⟨m,b,r,t,st⟩,hv,tm,wl,q,bad⟩:=h;obtain⟨a,p,u,rfl,ha,hp,hu⟩:=uD hv;obtain⟨rvs,hr1,kr⟩:=st.ru;have shw:=ig tm;obtain⟨t1,an,tx1,ty1,tx2,ty2⟩:=tm
 refine'⟨_,(zC (yC (yG (λ_=>E) yAd yE (hr.mono (by decide)) rfl (zB ?_ (zB (zO (zU hr) (pv 0) zK (λ_ _=>rfl)) zI))))
   (zC (yC (yG (λ_=>E) yAu yE (hr.mono (by decide)) rfl ?_))
   (zC (yC (yG (λ_=>E) yAz yE (hr.mono (by decide)) rfl ?_))
   (zC (yC (yG (λ_=>E) yAz yE (hr.mono (by decide)) rfl ?_))
   (zC (zX ?_ (zG (xB (λ_=>E) CB.e_BadTurn d5 (by decide) d5 xE (zB (uA (uE (jW hr.gd hr.units (pv 1) sO))) zI))) zN)
   (zG (zM (yG (λ_=>E) yAr yE (hr.mono (by decide)) rfl (zB (pv 0) (zB (pv 1) zI)))))))))),?_⟩
 nofun
 by_cases k0:0<=mo/\mo<=S.runs.length
 rotate_left
 ·exact⟨_,U,a,_,_,.int mo,U,U,.inr (SqT.of ha),U,_,U,d,.ref r,U,.inl ⟨_,.inr "runs",st.at_,U,rN.symm⟩,r,mo,S.runs.length,U,.inr ⟨rvs,hr1,by rw[kr.length,wj]⟩,.inr ⟨⟨by lia,Bf (show mo.natAbs.log2<200 from t1) (by decide)⟩,bad .noMoment (by simp only[zS,y9 k0]) H (.refl _)⟩⟩
 refine⟨_,U,a,_,_,.int mo,U,U,.inr (SqT.of ha),U,_,U,d,.ref r,U,.inl ⟨_,.inr "runs",st.at_,U,rN.symm⟩,r,mo,S.runs.length,U,.inr ⟨rvs,hr1,by rw[kr.length,wj]⟩,.inl ⟨k0.1,k0.2,?_⟩⟩;refine⟨_,U,_,U,a,_,_,.str nm,U,U,.inr (SqT.of ha),U,d,m,b,r,t,S,nm,U,st,an,.of (λk3 H1 s1=>?_) (λno H1 s1=>bad .noMark (by
  have:zQ S nm=none:=by cases e:zQ S nm <;> simp[e] at no ⊢
  simp only[zS,y7 (e9.mpr k0),y9 this]) _ (.of s1))⟩
 have k3':¬ zQ S nm=none:=λz=>by rw[z] at k3; cases k3
 have ha1:=s1 _ _ ha;erw[_,U,a,_,_,.ref p,U,U,.inr (SqT.of ha1),U,p,x1,y1,U,s1 _ _ hp,tx1,ty1,.of (λk4 H2 s2=>?_) (λno H2 s2=>bad .badWay (by simp only[zS,y7 (e9.mpr k0),y7 k3',y9 no]) _ (.of (s1.trans s2)))];have s12:=s1.trans s2;have ha2:=s12 _ _ ha;erw[_,U,a,_,_,.ref u,U,U,.inr (SqT.of ha2),U,u,x2,y2,U,s12 _ _ hu,tx2,ty2,.of (λk5 H3 s3=>?_) (λno H3 s3=>bad .badWay (by simp only[zS,y7 (e9.mpr k0),y7 k3',y7 (e9.mpr k4),y9 no]) _ (.of (s12.trans s3)))];have s23:=s12.trans s3;have ha3:=s23 _ _ ha;have b1:=k4.2.1;have b2:=k4.2.2.1;have b3:=k4.2.2.2.1;have b4:=k4.2.2.2.2;have n1:x1.natAbs<=10^18:=by simp at b1 b2; lia
 have n2:y1.natAbs<=10^18:=by simp at b3 b4; lia
 exists _,U,a,_,_,.ref p,U,U,.inr (SqT.of ha3),U,_,U,a,_,_,.ref u,U,U,.inr (SqT.of ha3),U,p,u,_,_,x1,y1,x2,y2,U,.inr (SqT.of (s23 _ _ hp)),.inr (SqT.of (s23 _ _ hu)),U,U,U,U,n1,n2,_,_,U,U,_,rfl;erw[ifD (λz=>?_) (λk6=>?_)]
 ·exact⟨_,U,⟨_,hv.to (.of s23),shw⟩,λy _=>⟨by show 1<=sizeLine; decide,bad .badTurn (by simp only[zS,y7 (e9.mpr k0),y7 k3',y7 (e9.mpr k4),y7 (e9.mpr k5),y9 z]) _ (.of s23)⟩⟩
 refine⟨_,U,_,U,d,.ref a,S,.bearing mo nm x1 y1 x2 y2,U,⟨m,b,r,t,st.to (.of s23)⟩,hv.to (.of s23),wl.good.few.no,wl.good.fresh,λk7 d' H4 s4 hd' st4=>q (by simp only[zS,y7 (e9.mpr k0),y7 k3',y7 (e9.mpr k4),y7 (e9.mpr k5),y7 k6,y7 (show ¬ 24<=S.notes.length by lia)]) d' H4 (.of (s23.trans s4)) (s23.free hd') st4,
  λk7 H4 s4=>bad .full (by simp only[zS,y7 (e9.mpr k0),y7 k3',y7 (e9.mpr k4),y7 (e9.mpr k5),y7 k6,y9 k7]) _ (.of (s23.trans s4))⟩
def tN(_:b7):Sp:=oA axC λD=>∃ mo l1 l2,D=.range mo l1 l2
def pz(F:Fun K "after_range" "after_range" uP f fd)(Z:Zs mg)(CB:Cb P w mg base)(yAr:zt P w K mg base "after_note" 2 ["state","row"] (sQ K))(yAm:zt P w K mg base "check_apart" 1 ["state","left","right"] (tI K))(yAu:zt P w K mg base "check_mark" 1 ["state","name"] (xY K))(yAd:zt P w K mg base "check_moment" 1 ["moment","runs"] (vD K)):yX P w K mg base (CX1 P w) 3 f fd ["state","row"] (tN K):=by
 erw[F.okX qf (λvs H Q E h=>?_) (λcdv A outer s H vs Q E hr h=>?_)]
 ·obtain⟨d,v,S,D,rfl,_⟩:=h;rfl
 obtain⟨d,v,S,D,rfl,⟨mo,l1,l2,rfl⟩,⟨m,b,r,t,st⟩,hv,tm,wl,q,bad⟩:=h;obtain⟨a,rfl,ha⟩:=rC hv;obtain⟨rvs,hr1,kr⟩:=st.ru;obtain⟨t1,a1,a2⟩:=tm
 refine'⟨_,(zC (yC (yG (λ_=>E) yAd yE (hr.mono (by decide)) rfl (zB ?_ (zB (zO (zU hr) (pv 0) zK (λ_ _=>rfl)) zI))))
   (zC (yC (yG (λ_=>E) yAu yE (hr.mono (by decide)) rfl ?_))
   (zC (yC (yG (λ_=>E) yAu yE (hr.mono (by decide)) rfl ?_))
   (zC (yC (yG (λ_=>E) yAm yE (hr.mono (by decide)) rfl ?_))
   (zG (zM (yG (λ_=>E) yAr yE (hr.mono (by decide)) rfl (zB (pv 0) (zB (pv 1) zI))))))))),?_⟩
 nofun
 by_cases k0:0<=mo/\mo<=S.runs.length
 rotate_left
 ·exact⟨_,U,a,_,_,.int mo,U,U,.inr (SqT.of ha),U,_,U,d,.ref r,U,.inl ⟨_,.inr "runs",st.at_,U,rN.symm⟩,r,mo,S.runs.length,U,.inr ⟨rvs,hr1,by rw[kr.length,wj]⟩,.inr ⟨⟨by lia,Bf (show mo.natAbs.log2<200 from t1) (by decide)⟩,bad .noMoment (by simp only[zS,y9 k0]) H (.refl _)⟩⟩
 refine⟨_,U,a,_,_,.int mo,U,U,.inr (SqT.of ha),U,_,U,d,.ref r,U,.inl ⟨_,.inr "runs",st.at_,U,rN.symm⟩,r,mo,S.runs.length,U,.inr ⟨rvs,hr1,by rw[kr.length,wj]⟩,.inl ⟨k0.1,k0.2,?_⟩⟩;refine⟨_,U,_,U,a,_,_,.str l1,U,U,.inr (SqT.of ha),U,d,m,b,r,t,S,l1,U,st,a1,.of (λk3 H1 s1=>?_) (λno H1 s1=>bad .noMark (by
  have:zQ S l1=none:=by cases e:zQ S l1 <;> simp[e] at no ⊢
  simp only[zS,y7 (e9.mpr k0),y9 this]) _ (.of s1))⟩
 have k3':¬ zQ S l1=none:=λz=>by rw[z] at k3; cases k3
 have ha1:=s1 _ _ ha;refine⟨_,U,_,U,a,_,_,.str l2,U,U,.inr (SqT.of ha1),U,d,m,b,r,t,S,l2,U,st.to (.of s1),a2,.of (λk4 H2 s2=>?_) (λno H2 s2=>bad .noMark (by
  have:zQ S l2=none:=by cases e:zQ S l2 <;> simp[e] at no ⊢
  simp only[zS,y7 (e9.mpr k0),y7 k3',y9 this]) _ (.of (s1.trans s2)))⟩
 have k4':¬ zQ S l2=none:=λz=>by rw[z] at k4; cases k4
 obtain⟨p1,e1⟩:=k9.mp k3;obtain⟨p2,e2⟩:=k9.mp k4;have s12:=s1.trans s2;have at2:Sq K H2 a _:=.inr (SqT.of (s12 _ _ ha));refine⟨_,U,_,U,a,_,_,.str l1,U,U,at2,U,_,U,a,_,_,.str l2,U,U,at2,U,d,m,b,r,t,S,l1,l2,p1,p2,U,st.to (.of s12),e1,e2,j7 a1.2 (by decide),j7 a2.2 (by decide),.of (λk5 H3 s3=>?_) (λno H3 s3=>bad .same (by
  have:zQ S l1=zQ S l2:=by rw[e1,e2,e9.mp no]
  simp only[zS,y7 (e9.mpr k0),y7 k3',y7 k4',y9 this]) _ (.of (s12.trans s3)))⟩
 have k5':¬ zQ S l1=zQ S l2:=λz=>k5 (by rw[e1,e2] at z; exact o9 z);have s23:=s12.trans s3;refine⟨_,U,_,U,d,.ref a,S,.range mo l1 l2,U,⟨m,b,r,t,st.to (.of s23)⟩,hv.to (.of s23),wl.good.few.no,wl.good.fresh,λk6 d' H4 s4 hd' st4=>q (by simp only[zS,y7 (e9.mpr k0),y7 k3',y7 k4',y7 k5',y7 (show ¬ 24<=S.notes.length by lia)]) d' H4 (.of (s23.trans s4)) (s23.free hd') st4,
  λk6 H4 s4=>bad .full (by simp only[zS,y7 (e9.mpr k0),y7 k3',y7 k4',y7 k5',y9 k6]) _ (.of (s23.trans s4))⟩
def vG(_:b7):Sp:=oA axC λD=>∃ k,D=.strike k
def tz(F:Fun K "after_strike" "after_strike" wV f fd)(Z:Zs mg)(CB:Cb P w mg base)(yBk:Has P w K mg base "without" 1 ["state","kind","key"] (rH K)):yX P w K mg base (CX1 P w) 2 f fd ["state","row"] (vG K):=by
 erw[F.okX qF (λvs H Q E h=>?_) (λcdv A outer s H vs Q E hr h=>?_)]
 ·obtain⟨d,v,S,D,rfl,_⟩:=h;rfl
 obtain⟨d,v,S,D,rfl,⟨k,rfl⟩,⟨m,b,r,t,st⟩,hv,tm,wl,q,bad⟩:=h;obtain⟨a,rfl,ha⟩:=vb hv;obtain⟨nk,hn,kn⟩:=st.no
 refine'⟨_,(zC (PS.nox (yD 2 qF.nd ?_))
   (zC (zX (zh (sP (zU hr) (pv 2) (zO (zU hr) (pv 0) zK (λ_ _=>rfl))) (by with_unfolding_all rfl)) (zG (xB (λ_=>E) CB.e_NoNote d5 (by decide) d5 xE (zB (uA (uE (vd (pv 2) (uE sO)))) zI))) zN)
   (zG (PS.nox (zM ?_))))),?_⟩
 nofun
 exists _,U,a,_,_,.int k,U,U,.inr (SqT.of ha),U,_,U,_,U,d,.ref t,U,.inl ⟨_,.inr "notes",st.at_,U,zx.symm⟩,t,_,U,.inl ⟨nk,.inl k,hn,U,U⟩,_,rfl;cases ev:wS nk (.inl k) with
 | none=>exact xV ⟨_,rfl,.inl ⟨k,rfl,Bf (show k.natAbs.log2<200 from tm) (by decide)⟩,λy _=>⟨by show 1<=sizeLine; decide,bad .noNote (by simp only[zS,y7 ((fg kn).mp ev)]) H (.refl _)⟩⟩
 | some v =>
  have ok:k∈S.notes.map (·.1):=e9.mp λz=>by rw[(fg kn).mpr z] at ev; cases ev
  erw[yR ?_];erw[_,U,_,U,d,t, "notes",.inl k,v,_,nk,U,st.at_,zx,hn,ev,StA.stKlen,λf c H2 s2 hf ne ef ec=>?_];have st2:=st.to (.of s2);rw[jN] at ef;erw[q (by simp only[zS,y9 ok]) f H2 (.of s2) hf ⟨m,b,r,c,.inl ef,st2.ma,st2.ba,st2.ru,⟨_,.inl ec,?_⟩⟩];have:=(kn.to (.of s2)).drop (k:=.inl k);rw[eC] at this;rwa[this]
def inTab(_:Deed):Prop:=True
def mH(_:b7):Sp:=oA axC inTab
def tabL:List (Key×Sp):=[(.inr "mark",sI []),(.inr "move",sK []),(.inr "unmark",vE []),(.inr "bank",sJ []),(.inr "level",tO []),(.inr "sail",sF []),(.inr "right",tL []),(.inr "bearing",uM []),(.inr "range",tN []),(.inr "strike",vG [])]
def bo(F:Fun K "after" "after" uz f fd)(Z:Zs mg)(CB:Cb P w mg base)(yAv:zt P w K mg base "after_mark" 3 ["state","row"] (sI K))(yAy:zt P w K mg base "after_move" 3 ["state","row"] (sK K))(yAf:zt P w K mg base "after_unmark" 2 ["state","row"] (vE K))(yAq:zt P w K mg base "after_bank" 4 ["state","row"] (sJ K))(yAi:zt P w K mg base "after_level" 2 ["state","row"] (tO K))(yAs:zt P w K mg base "after_sail" 3 ["state","row"] (sF K))(yAl:zt P w K mg base "after_right" 3 ["state","row"] (tL K))(yAa:zt P w K mg base "after_bearing" 3 ["state","row"] (uM K))(yAk:zt P w K mg base "after_range" 3 ["state","row"] (tN K))(yAb:zt P w K mg base "after_strike" 2 ["state","row"] (vG K)):yX P w K mg base (CX1 P w) 5 f fd ["state","row"] (mH K):=by
 erw[F.okX ce (λvs H Q E h=>?_) (λcdv A outer s H vs Q E hr h=>?_)]
 ·obtain⟨d,v,S,D,rfl,_⟩:=h;rfl
 obtain⟨d,v,S,D,rfl,kd,st,hv,tm,wl,q,bad⟩:=h;have tabs:∀ r∈tabL,XV P w K mg base 4 Wb r.1 r.2:=by
  intro r hr;simp only[tabL,i7,Ai,or_false] at hr;rcases hr with rfl | rfl | rfl | rfl | rfl | rfl | rfl | rfl | rfl | rfl
  ·rwa["after_mark",_,_,_,by symm,CB.t_mark,yAv,by decide]
  ·rwa["after_move",_,_,_,by symm,CB.t_move,yAy,by decide]
  ·rwa["after_unmark",_,_,_,by symm,CB.t_unmark,yAf,by decide]
  ·rwa["after_bank",_,_,_,by symm,CB.t_bank,yAq,by decide]
  ·rwa["after_level",_,_,_,by symm,CB.t_level,yAi,by decide]
  ·rwa["after_sail",_,_,_,by symm,CB.t_sail,yAs,by decide]
  ·rwa["after_right",_,_,_,by symm,CB.t_right,yAl,by decide]
  ·rwa["after_bearing",_,_,_,by symm,CB.t_bearing,yAa,by decide]
  ·rwa["after_range",_,_,_,by symm,CB.t_range,yAk,by decide]
  ·rwa["after_strike",_,_,_,by symm,CB.t_strike,yAb,by decide]
 refine'⟨_,(zG (zM (VL (λ_=>E) CB.dAFTER CB.gAFTER tabs yE (hr.mono (by decide)) ?_ (zB (pv 0) (zB (pv 1) zI))))),?_⟩
 nofun
 cases D with
 | mark n x y =>
  obtain⟨a,rfl,ha⟩:=lZ hv;rwa[_,U,a,_,_,.str "mark",U,U,.inr (SqT.of ha),U,.inr "mark",_,U,.head _,_,U,_,U,d,.ref a,S,_,U,⟨_,_,_,U⟩,st,hv,tm,wl,q,bad]
 | move n x y =>
  obtain⟨a,rfl,ha⟩:=kR hv;rwa[_,U,a,_,_,.str "move",U,U,.inr (SqT.of ha),U,.inr "move",_,U,.tail _ (.head _),_,U,_,U,d,.ref a,S,_,U,⟨_,_,_,U⟩,st,hv,tm,wl,q,bad]
 | unmark n =>
  obtain⟨a,rfl,ha⟩:=vq hv;rwa[_,U,a,_,_,.str "unmark",U,U,.inr (SqT.of ha),U,.inr "unmark",_,U,.tail _ (.tail _ (.head _)),_,U,_,U,d,.ref a,S,_,U,⟨_,U⟩,st,hv,tm,wl,q,bad]
 | bank n cs =>
  obtain⟨a,_,_,rfl,ha,_⟩:=nU hv;rwa[_,U,a,_,_,.str "bank",U,U,.inr (SqT.of ha),U,.inr "bank",_,U,.tail _ (.tail _ (.tail _ (.head _))),_,U,_,U,d,.ref a,S,_,U,⟨_,_,U⟩,st,hv,tm,wl,q,bad]
 | level n =>
  obtain⟨a,rfl,ha⟩:=pZ hv;rwa[_,U,a,_,_,.str "level",U,U,.inr (SqT.of ha),U,.inr "level",_,U,.tail _ (.tail _ (.tail _ (.tail _ (.head _)))),_,U,_,U,d,.ref a,S,_,U,⟨_,U⟩,st,hv,tm,wl,q,bad]
 | sail x y =>
  obtain⟨a,rfl,ha⟩:=kE hv;rwa[_,U,a,_,_,.str "sail",U,U,.inr (SqT.of ha),U,.inr "sail",_,U,.tail _ (.tail _ (.tail _ (.tail _ (.tail _ (.head _))))),_,U,_,U,d,.ref a,S,_,U,⟨_,_,U⟩,st,hv,tm,wl,q,bad]
 | right k x y =>
  obtain⟨a,rfl,ha⟩:=pY hv;rwa[_,U,a,_,_,.str "right",U,U,.inr (SqT.of ha),U,.inr "right",_,U,.tail _ (.tail _ (.tail _ (.tail _ (.tail _ (.tail _ (.head _)))))),_,U,_,U,d,.ref a,S,_,U,⟨_,_,_,U⟩,st,hv,tm,wl,q,bad]
 | bearing m n x y z t =>
  obtain⟨a,p,u,rfl,ha,_⟩:=uD hv;rwa[_,U,a,_,_,.str "bearing",U,U,.inr (SqT.of ha),U,.inr "bearing",_,U,.tail _ (.tail _ (.tail _ (.tail _ (.tail _ (.tail _ (.tail _ (.head _))))))),_,U,_,U,d,.ref a,S,_,U,⟨_,_,_,_,_,_,U⟩,st,hv,tm,wl,q,bad]
 | range m n k =>
  obtain⟨a,rfl,ha⟩:=rC hv;rwa[_,U,a,_,_,.str "range",U,U,.inr (SqT.of ha),U,.inr "range",_,U,.tail _ (.tail _ (.tail _ (.tail _ (.tail _ (.tail _ (.tail _ (.tail _ (.head _)))))))),_,U,_,U,d,.ref a,S,_,U,⟨_,_,_,U⟩,st,hv,tm,wl,q,bad]
 | strike k =>
  obtain⟨a,rfl,ha⟩:=vb hv;rwa[_,U,a,_,_,.str "strike",U,U,.inr (SqT.of ha),U,.inr "strike",_,U,.tail _ (.tail _ (.tail _ (.tail _ (.tail _ (.tail _ (.tail _ (.tail _ (.tail _ (.head _))))))))),_,U,_,U,d,.ref a,S,_,U,⟨_,U⟩,st,hv,tm,wl,q,bad]
def lC(_:b7):Sp:=λvs H Q _=>∃(n:Int),vs=[.int n]/\∀ v:Int,0<=v->v<1000003->Q (.int v) H
def cQ(F:Fun K "_law_power" "_law_power" uf f fd)(Z:Zs mg):yX P w K mg base CX0 1 f fd ["_law_number"] (lC K):=by
 specialize cP
 ·obtain⟨n,rfl,_⟩:=h;rfl
 obtain⟨n,rfl,q⟩:=h
 refine'⟨_,(zG (zM ?_)),?_⟩
 nofun
 have h1:=w5 n (show(1000003:Int)≠0 by decide);have h2:=o7 n (show(0:Int)<1000003 by decide);exists _,U,_,_,U,U,(by show(0:Int)<1000003; decide),_,_,rfl,rfl,⟨by decide,by decide,by lia⟩,_,_,rfl,rfl,(by show(0:Int)<1000003; decide);rwa[q _ (w5 _ (by decide)) (o7 _ (by decide))]
def mM(K:b7):Sp:=λvs H Q _=>∃(a:b9)(ns:List Int)(many:Int),vs=[.ref a,.int many]/\SqL K H a (ns.map V.int)/\ns.length<=63/\0<=many/\many<=500 /\
 ∀(r:b9)(rows:List Int)(H':Hp),Same H H'->H r=Ip->H' r=Io (.lst (rows.map V.int))->many<=rows.length->rows.length<=600->(∀ x∈rows,0<=x/\x<1000003)->Q (.ref r) H'
structure oC(H:Hp)(r c:b9)(ms:List Int)(H':Hp)(rows:List Int):Prop where
 same:Same H H'
 src:H' c=Io (.lst (ms.map V.int))
 at':H' r=Io (.lst (rows.map V.int))
 bd:∀ x∈rows,0<=x/\x<1000003
def oC.app{H H':Hp}{r c:b9}{ms rows:List Int}{v:Int}(d:oC H r c ms H' rows)(hr:H r=Ip)(hrc:c≠r)(h0:0<=v)(h1:v<1000003):oC H r c ms (upd H' r (.lst (rows.map V.int++[.int v]))) (rows++[v]):=by
 erw[λb o e=>?_,?_,?_,λx hx=>?_]
 ·rw[zH (zF e hr)];rwa[d.same b o e]
 ·rw[zH hrc];rwa[d.src]
 ·rw[zA,i8];rfl
 ·rcases m7.mp hx with e | e
  ·rwa[d.bd x e]
  ·rw[d8] at e;rw[e];rwa[h0,h1]
def cutR{ok:Int->Hp->Prop}{G:Prop}{R:Int->Hp->Prop}(h1:(∀ m H,ok m H->R m H)->G)(h2:∀ m H,ok m H->R m H):G:=h1 h2
def cW(F:Fun K "_law_draws" "_law_draws" uh f fd)(Z:Zs mg)(CB:Cb P w mg base)(yBu:Has P w K mg base "_law_power" 1 ["_law_number"] (lC K)):yX P w K mg base CX0 2 f fd ["_law_script","_law_many"] (mM K):=by
 specialize wJ
 ·obtain⟨a,ns,many,rfl,_⟩:=h;rfl
 obtain⟨a,ns,many,rfl,hS,hl,hm0,hm1,q⟩:=h
 refine'⟨_,(zC (yD 2 wJ.nd ?_)
   (zC (yD 3 wJ.nd yL)
   (zC (qA AC rfl (VQ ?_) (qL 4 wJ.nd) (zC (yD 3 wJ.nd ?_)
   (zC (yD 5 wJ.nd ?_)
   (zC (zX ?_ (zC (yC (iV (pv 2) ?_))
   (zG (yD 5 wJ.nd yL))) zN)
   (zG (dC AC ?_ (zC (yC (iV (pv 2) ?_))
   (zG (yD 5 wJ.nd ?_)))))))))
   (zC (dC AC ?_ (zC (yD 3 wJ.nd ?_)
   (zG (yC (iV (pv 2) ?_)))))
   (zG (zM (pv 2))))))),?_⟩
 nofun
 refine⟨sz0,λr hr0=>?_⟩;have S1:=zD hr0 (.lst []);refine⟨_,U,_,U,a,_,U,S1.seq hS,λc hc=>⟨c,U,⟨_,SqL.of zA⟩,?_⟩⟩;rw[ui];generalize hms:((ns.drop (HT.sIx ns.length 0 Ip)).take (HT.sIx ns.length ns.length (Io 63)-HT.sIx ns.length 0 Ip))=ms;have hml:ms.length<=63:=by
  rw[<- hms,j8,p8];lia
 have hcr:c≠r:=λe=>by
  rw[e,zA] at hc;cases hc
 have hc0:H c=none:=S1.free hc;refine Xl (K:=K) (a:=c) (xs:=ms.map V.int) (λi σ H'=>∃(rows:List Int)(mix:Int)(u v:Option V),σ=[Io (.ref a),Io (.int many),Io (.ref r),Io (.int mix),u,v]/\oC H r c ms H' rows/\0<=mix/\mix<2147483647/\rows.length<=many.toNat+i)
  ⟨[],7,Ip,Ip,rfl,⟨S1.trans (zD hc _),zA,by rw[zH (AJ hcr),zA]; rfl,λx hx=>nomatch hx⟩,by decide,by decide,t7 _⟩ (λi σ H' _ ⟨_,_,_,_,_,d,_⟩=>SqL.of d.src) ?_ ?_
 ·rintro i x σ H' hi ⟨rows,mix,u,v,rfl,d,hx0,hx1,hrl⟩;obtain⟨n,hn,rfl⟩:=si hi;have hi63:i<63:=m5 (g9.mp hn).1 hml;exists _,U,_,_,U,U,.inr ⟨by decide,by decide⟩,_,U,_,_,U,U,_,_,U,U,(by show(0:Int)<2147483647; decide);have m0:=w5 (mix*48271+n) (show(2147483647:Int)≠0 by decide);have m1:=o7 (mix*48271+n) (show(0:Int)<2147483647 by decide);exists _,U,n,rfl;have a0:0<=(if n<0 then -n else n):=by split <;> lia
  generalize (if n<0 then -n else n)=rest at a0 ⊢;revert H' rest;apply cutR (ok:=λrest H2=>0<=rest/\∃ rows,oC H r c ms H2 rows/\rows.length<=many.toNat+(i+1))
  ·intro main H' d rest a0;exists _,U,_,_,U,U,⟨by decide,by decide,by decide⟩,_,_,U,U,_,rfl;erw[ifD (λhsm=>?_) (λhsm=>?_)];rotate_left
   ·rwa[main rest H' ⟨a0,rows,d,by lia⟩]
   ·erw[_,U,.inl ⟨U,_,SqL.of d.at'⟩,_,U,_,U,r,_,U,.inl (SqL.of d.at'),_,_,U,U,.inl ⟨by decide,by decide⟩,_,_,U,U,_,U,λv v0 v1=>?_];exists r,_,_,U,U,d.at',zT (by rw[a7]; lia);rwa[main 0 _ ⟨Int.le_refl 0,_,d.app hr0 hcr v0 v1,by rw[f8,BC]; lia⟩]
  clear hrl rows;rintro rest H' ⟨j0,rows,j1,j2⟩;refine dF (λσ H2=>∃(rows:List Int)(rest:Int),σ=[Io (.ref a),Io (.int many),Io (.ref r),Io (.int ((mix*48271+n)%2147483647)),Io (.int n),Io (.int rest)]/\0<=rest/\oC H r c ms H2 rows/\rows.length<=many.toNat+(i+1))
   (λσ _=>match σ with | [_,_,_,_,_,Io (.int z)]=>z.toNat | _=>0) ⟨_,_,rfl,j0,j1,j2⟩ ?_ (TQ (fV (WL WZ jj mo_c)) (fV (WL WZ (Ti Wo (aA jj Wd)) jj)))
  rintro σ H2 ⟨rows,rest,rfl,r0,d2,l2⟩;exists _,U,_,_,U,U,_,rfl;erw[ifD (λhpos=>?_) (λhpos=>?_)]
  ·exists _,U,r,_,U,.inl (SqL.of d2.at'),_,U,_,_,U,U,_,rfl;erw[ifD (λhlt=>?_) (λhlt=>?_)]
   ·have hlt':((rows.map V.int).length:Int)<many:=hlt;rw[a7] at hlt';exists _,U,.inl ⟨U,_,SqL.of d2.at'⟩,_,U,_,_,U,U,(by show(0:Int)<1000003; decide),r,_,_,rfl,rfl,d2.at',zT (by rw[a7]; lia);have v0:=w5 rest (show(1000003:Int)≠0 by decide);have v1:=o7 rest (show(0:Int)<1000003 by decide);exists _,U,_,_,U,U,um.of (by decide) (by ac_nf),⟨rows++[rest%1000003],_,U,by lia,d2.app hr0 hcr v0 v1,by rw[f8,BC]; lia⟩;show(rest/1000003).toNat<rest.toNat;lia
   ·rwa[rows,_,_,_,U,d2,m0,m1,l2]
  ·rwa[rows,_,_,_,U,d2,m0,m1,l2]
 ·rintro σ H' ⟨rows,mix,u,v,rfl,d,hx0,hx1,hrl⟩;rw[a7] at hrl;refine dF (λσ H2=>∃(rows:List Int)(mix:Int),σ=[Io (.ref a),Io (.int many),Io (.ref r),Io (.int mix),u,v]/\oC H r c ms H2 rows/\0<=mix/\mix<2147483647/\rows.length<=many.toNat+63/\H2 r=Io (.lst (rows.map V.int)))
   (λσ H2=>match H2 r with | some (.lst xs)=>many.toNat-xs.length | _=>0) ⟨rows,mix,rfl,d,hx0,hx1,by lia,d.at'⟩ ?_ (fV (WL WZ (Ti Wo (aA jj Wd)) jj))
  rintro σ H2 ⟨rows,mix,rfl,d2,hx0,hx1,l2,ha2⟩;exists _,U,r,_,U,.inl (SqL.of d2.at'),_,U,_,_,U,U,_,rfl;erw[ifD (λhlt=>?_) (λhlt=>?_)]
  ·have hlt':((rows.map V.int).length:Int)<many:=hlt;rw[a7] at hlt';exists _,U,_,_,U,U,.inr ⟨by decide,by decide⟩,_,_,U,U,_,_,U,U,(by show(0:Int)<2147483647; decide);have m0:=w5 (mix*48271+11) (show(2147483647:Int)≠0 by decide);have m1:=o7 (mix*48271+11) (show(0:Int)<2147483647 by decide);erw[_,U,.inl ⟨U,_,SqL.of d2.at'⟩,_,U,_,U,λv v0 v1=>?_];exists r,_,_,U,U,d2.at',zT (by rw[a7]; lia),⟨rows++[v],_,rfl,d2.app hr0 hcr v0 v1,m0,m1,by rw[f8,BC]; lia,(d2.app hr0 hcr v0 v1).at'⟩;rw[ha2,zA];show many.toNat-(rows.map V.int++[V.int v]).length<many.toNat-(rows.map V.int).length;rw[f8,a7,BC];lia
  ·have hlt':¬ ((rows.map V.int).length:Int)<many:=hlt;rw[a7] at hlt';rwa[_,U,q r rows H2 d2.same hr0 d2.at' (by lia) (by lia) d2.bd]
def lB(K:b7):Sp:=λvs H Q _=>∃(a:b9)(rows:List Int)(many:Nat),vs=[.ref a,.int many]/\SqL K H a (rows.map V.int)/\many<=rows.length/\many<=25/\(∀ x∈rows,0<=x/\x<1000003) /\
 ∀(r:b9)(ns:List g8)(H':Hp),Same H H'->H r=Ip->H' r=Io (.lst (ns.map V.str))->ns.length=many->(∀ n∈ns,wM n)->ns.Nodup->Q (.ref r) H'
def cB(F:Fun K "_law_names" "_law_names" uu f fd)(Z:Zs mg)(CB:Cb P w mg base)  : yX P w K mg base CX0 1 f fd ["_law_some","_law_many"] (lB K):=by
 specialize yZ
 ·obtain⟨a,rows,many,rfl,_⟩:=h;rfl
 obtain⟨a,rows,many,rfl,ha,h1,h2,bd,q⟩:=h
 refine'⟨_,(zC (yD 2 yZ.nd zK)
   (zC (yD 3 yZ.nd ?_)
   (zC (qA AC rfl (sZ rfl Z.range (zB (pv 1) zI)) (qL 4 yZ.nd) (zC (yD 5 yZ.nd ?_)
   (zC (yD 6 yZ.nd ?_)
   (zC (yD 7 yZ.nd ?_)
   (zC (yD 8 yZ.nd (VR Ey EW EX aQ zK (zB (vA (T:=["_law_k"]) (caps:=[("_law_letters",2),("_law_raw",5),("_law_step_here",7)]) ⟨rfl,by ac_nf,by ac_nf,rfl,⟨⟨rfl,rfl,A4 rfl⟩,⟨rfl,rfl,A4 rfl⟩,⟨rfl,rfl,A4 rfl⟩,t5⟩⟩ rfl (sZ rfl Z.range (zB (pv 6) zI)) (λ_=>(qL 0 (show(["_law_k","_law_letters","_law_raw","_law_step_here"]:List g8).Nodup by ac_nf))) (λ_=>xX) (λ_=>(gX Wp (pv 1) ?_ (λ_ _=>rfl)))) zI)))
   (zC (yD 9 yZ.nd ?_)
   (zC (qA AC rfl (sZ rfl Z.range (zB yL zI)) (qL 10 yZ.nd) (zG (zX (yH qC (pv 8) (pv 3) (by with_unfolding_all rfl)) (zC (yD 11 yZ.nd (gX Wp (pv 2) ?_ (λ_ _=>rfl)))
   (zG (yD 8 yZ.nd (wH lA (wH lA (uV Wc (pv 8) sG (sL (pv 9))) (pv 11)) (uV Wc (pv 8) (sL ?_) sG))))) zN)))
   (zG (yC (iV (pv 3) (zB (pv 8) zI)))))))))))
   (zG (zM (pv 3)))))),?_⟩
 nofun
 refine⟨sz0,λr hr0=>?_⟩;have s0:=zD hr0 (.lst []);refine⟨_,U,_,U,by lia,by lia,rT (lo:=0) (n:=((many:Nat):Int).toNat) (λi σ H'=>∃ ns:List g8,Same H H'/\H' r=Io (.lst (ns.map V.str))/\ns.length=i/\(∀ n∈ns,wM n)/\ns.Nodup /\
   ∃ u4 u5 u6 u7 u8 u9 u10 u11:Option V,σ=[Io (.ref a),Io (.int many),Io (.str abc),Io (.ref r),u4,u5,u6,u7,u8,u9,u10,u11])
  ⟨[],s0,zA,rfl,(λ_ z=>nomatch z),List.nodup_nil,Ip,Ip,Ip,Ip,Ip,Ip,Ip,Ip,rfl⟩ ?_ ?_⟩
 ·rintro i σ H1 hi ⟨ns,s1,er,ln,okn,nd,u4,u5,u6,u7,u8,u9,u10,u11,rfl⟩;rw[AH] at hi;obtain⟨x,ax,x0,x1⟩:=xO bd (k:=(0:Int)+i) (by lia) (by lia);exists _,U,_,U,a,_,_,_,U,U,.inl (s1.seq ha),ax;exists _,U,_,_,U,U,(by show(0:Int)<8; decide),_,_,rfl,rfl;exists _,U,_,_,U,U,um.of (by decide) (by ac_nf),_,_,U,U,gt5;have z0:0<=x%8:=w5 _ (by decide);have z1:x%8<8:=o7 _ (by decide);have t0:0<=x/8%5:=w5 _ (by decide);have t1:x/8%5<5:=o7 _ (by decide);obtain⟨sz,esz⟩:∃ n:Nat,1+x%8=(n:Int):=⟨(1+x%8).toNat,by lia⟩;have w1:1<=sz:=by lia
  have w8:sz<=8:=by lia
  refine⟨U,_,U,_,U,by lia,by lia,λc D hD=>?_⟩;have sD:=zD hD (.lst []);refine wv (lo:=0) (n:=(1+x%8).toNat) (λj σ zs H'=>Same H1 H'/\H' D=Io (.lst zs)/\∃ l:List Nat,zs=(l.map chS).map V.str/\l.length=j/\(∀ c∈l,97<=c/\c<=122)/\∃ u0:Option V,σ=[u0,Io (.str abc),Io (.int x),Io (.int (x/8%5))])
   ⟨sD,zA,[],rfl,rfl,(λ_ z=>nomatch z),Ip,rfl⟩ (λj σ zs H' _ ⟨_,e,_⟩=>e) ?_ ?_
  ·rintro j σ zs H' hj ⟨sH,eD,l,rfl,lj,lc,u0,rfl⟩;have m0:0<=(x/40+((0:Int)+j)*(x/8%5))%26:=w5 _ (by decide);have m1:(x/40+((0:Int)+j)*(x/8%5))%26<26:=o7 _ (by decide);exists _,U,_,U,_,_,U,U,um.of (by decide) (by ac_nf),_,U,_,U,_,_,U,U,XS (by lia),_,_,U,U,_,_,U,U,(by show(0:Int)<26; decide),abc,_,_,rfl,rfl,(by decide),XX m0 m1;erw[eD,zT (by rw[a7,a7]; lia),sH.putNew hD,zA,l++[97+((x/40+((0:Int)+j)*(x/8%5))%26).toNat],?_,by rw[f8,lj]; rfl,λc hc=>?_,_,rfl]
   ·rw[i8,i8];rfl
   ·rcases m7.mp hc with hc | hc
    ·rwa[lc c hc]
    ·rw[d8] at hc;lia
  ·rintro σ zs H2 ⟨s2,eD,l,rfl,lj,lc,u0,rfl⟩;have s12:=s1.trans s2;have er2:=s2 _ _ er;have ll:l.length=sz:=by lia
   refine⟨"",D,l.map chS,U,U,SqL.of eD,by rw[cD,ll]; exact j7 w8 (by decide),?_⟩;rw[YD];obtain⟨pl,epl⟩:∃ n:Nat,x/7%(1+x%8)=(n:Int):=⟨(x/7%(1+x%8)).toNat,by rw[Int.toNat_of_nonneg (w5 _ (by lia))]⟩;have plt:pl<l.length:=by
    have:=o7 (x/7) (show 0<1+x%8 by lia);lia
   exists _,U,_,_,U,U,um.of (by decide) (by ac_nf),_,U,_,_,U,U,(by show(0:Int)<1+x%8; lia);obtain⟨xn,exn⟩:∃ n:Nat,x=(n:Int):=⟨x.toNat,by lia⟩;refine⟨26,U,by decide,by decide,rT (lo:=0) (n:=26) (λk σ H'=>H'=H2/\∃ m:List Nat,(txt m ∉ ns\/((k=0\/∃ j,j+1=k/\m=l.set pl (97+(xn+j)%26))/\∀ j,j+1<k->txt (l.set pl (97+(xn+j)%26))∈ns))/\m.length=l.length/\(∀ c,m.set pl c=l.set pl c)/\(∀ c∈m,97<=c/\c<=122) /\
     ∃ u10 u11:Option V,σ=[Io (.ref a),Io (.int many),Io (.str abc),Io (.ref r),Io (.int (0+i)),Io (.int x),Io (.int (1+x%8)),Io (.int (x/8%5)),Io (.str (txt m)),Io (.int (x/7%(1+x%8))),u10,u11])
    ⟨rfl,l,.inr ⟨.inl rfl,λj hj=>x5 hj (Dk _)⟩,rfl,λ_=>rfl,lc,u10,u11,rfl⟩ ?_ ?_⟩
   ·rintro k σ H' hk ⟨rfl,m,hm,lm,hset,mc,v10,v11,rfl⟩;exists _,U,_,U,r,_,U,.inl (SqL.of er2),U,jt ns,_,rfl;show if inV (.str (txt m)) (ns.map V.str)=Iq then _ else _
    rw[Vc];erw[ifD (λhin=>?_) (λhin=>?_)]
    ·have b0:0<=(x+((0:Int)+k))%26:=w5 _ (by decide);have b1:(x+((0:Int)+k))%26<26:=o7 _ (by decide);exists _,U,_,U,_,U,_,_,U,U,_,_,U,U,(by show(0:Int)<26; decide),abc,_,_,rfl,rfl,(by decide),XX b0 b1;have lz:(txt m).length<=sizeLine:=by rw[zz,lm,ll]; rwa[j7 w8 (by decide)]
     have es:(97+((x+((0:Int)+k))%26).toNat)=97+(xn+k)%26:=by lia
     have c1:Cq (txt m) Ip (Io (x/7%(1+x%8)))++chS (97+((x+((0:Int)+k))%26).toNat)++Cq (txt m) (Io (x/7%(1+x%8)+1)) Ip=txt (l.set pl (97+(xn+k)%26)):=by
      rw[epl,YV (by lia),es,hset]
     erw[_,U,_,U,_,U,txt m,U,lz,_,U,_,_,U,U,?_,_,U,_,U,_,_,U,U,_,U,txt m,U,lz,_,_,U,U,?_,?_]
     ·rwa[j7 (DL (Et _ _ _) (d6 1)) (by rw[zz,lm,ll]; exact j7 (Fc w8 1) (by decide))]
     ·rw[strLen_append];rwa[j7 (DL (DL (Et _ _ _) (d6 1)) (Et _ _ _)) (by rw[zz,lm,ll]; exact j7 (DL (Fc w8 1) w8) (by decide))]
     ·erw[U,l.set pl (97+(xn+k)%26),.inr ⟨.inr ⟨k,U,U⟩,λj hj=>?_⟩,Df,λc=>List.set_set _,λc hc=>?_,_,_,by rw[<- c1]; rfl]
      ·rcases hm with hm | ⟨hm,hall⟩
       ·rwa[x5 hin hm]
       ·by_cases e:j+1=k
        ·rcases hm with hm | ⟨j0,e0,rfl⟩
         ·lia
         ·rw[show j=j0 by lia];rwa[hin]
        ·rwa[hall j (by lia)]
      ·rcases DP hc with hc | hc
       ·rwa[lc c hc]
       ·lia
    ·rwa[U,m,.inl hin,lm,hset,mc,_,_,U]
   ·rintro σ H' ⟨rfl,m,hm,lm,hset,mc,v10,v11,rfl⟩;have out:txt m ∉ ns:=by
     rcases hm with hm | ⟨hm,hall⟩
     ·rwa[hm]
     ·intro hin;erw[Vn (l:=l) (p:=pl) (r:=xn) plt (ws:=ns) (by lia) λj hj=>?_];by_cases e:j+1<26
      ·rwa[hall j e]
      ·rcases hm with hm | ⟨j0,e0,rfl⟩
       ·lia
       ·rw[show j=j0 by lia];rwa[hin]
    exists _,U,.inl ⟨U,_,SqL.of er2⟩,_,U,r,_,_,U,U,er2,zT (by rw[a7]; lia);erw[ns++[txt m],s12.putNew hr0,?_,by rw[f8,ln]; rfl,λn hn=>?_,?_,_,_,_,_,_,_,_,_,rfl]
    ·rw[zA,i8];rfl
    ·rcases m7.mp hn with hn | hn
     ·rwa[okn n hn]
     ·rw[d8] at hn;rw[hn];rwa[cU (by lia) (by lia) mc]
    ·erw[F2.mpr ⟨nd,by simp,λx hx y hy=>?_⟩];rw[d8] at hy;rw[hy];rwa[λz=>out (z ▸ hx)]
 ·rintro σ H1 ⟨ns,s1,er,ln,okn,nd,u4,u5,u6,u7,u8,u9,u10,u11,rfl⟩;rwa[_,U,q r ns H1 s1 hr0 er (by rw[ln,AH]) okn nd]
def dJ(_:b7):Sp:=λvs H Q _=>vs=[]/\∀(d m b r n:b9)(H':Hp),Same H H'->H d=Ip->H m=Ip->H r=Ip->H' d=Io (.dK (lwK m b r n 1))->H' m=Io (.dK [])->H' b=Io (.dK [])->H' r=Io (.lst [])->H' n=Io (.dK [])->b≠m->n≠m->Q (.ref d) H'
def Yx(F:Fun K "_law_new" "_law_new" kU f fd)(Z:Zs mg)(CB:Cb P w mg base)  : yX P w K mg base CX0 1 f fd [] (dJ K):=by
 specialize Xa
 ·obtain⟨rfl,_⟩:=h;rfl
 obtain⟨rfl,q⟩:=h
 refine'⟨_,zG ?h,?_⟩
 rotate_left
 with_reducible refine' zM ?_
 rotate_left
 with_reducible exact fk (wL zK rG (wL zK rG (wL zK (vB zI) (wL zK rG (wL zK yL fX))))) rfl rfl (λz=>nomatch z) (by decide)
 try dsimp only[L2.cxOf]
 intro p hp m hm b hb;erw[sz0,λr hr n hn=>?_];have s1:=zD hp (.dK []);have s2:=zD hm (.dK []);have s3:=zD hb (.dK []);have s4:=zD hr (.lst []);have s5:=zD hn (.dK []);have em:=(s3.trans (s4.trans s5)) _ _ zA;have eb:=(s4.trans s5) _ _ zA;have er:=s5 _ _ zA;have ep:=(s2.trans (s3.trans (s4.trans s5))) _ _ zA;exists ep,[(.inr "marks",.ref m),(.inr "banks",.ref b),(.inr "runs",.ref r),(.inr "notes",.ref n),(.inr "next",.int 1)],U,(show 5<=15 by decide);rw[Yc];have ne:∀{x:b9},(upd H p (.dK [])) x=Ip->x≠p:=λ{x} h z=>by rw[z,zA] at h; cases h
 have nb:=ne (s2.free hb);have nr:=ne (s2.free (s3.free hr));have nn:=ne (s2.free (s3.free (s4.free hn)));refine q p m b r n _ (λc o e=>?_) hp (s1.free hm) (s1.free (s2.free (s3.free hr))) zA ?_ ?_ ?_ ?_ (λz=>by rw[z,zA] at hb; cases hb) (λz=>by have:=s3.free (s4.free hn); rw[z,zA] at this; cases this)
 ·rw[zH (zF e hp)];exact(s1.trans (s2.trans (s3.trans (s4.trans s5)))) c o e
 ·rw[zH (ne hm)]; rwa[em]
 ·rw[zH nb]; rwa[eb]
 ·rw[zH nr]; rwa[er]
 ·rw[zH nn]; rwa[zA]
def DR(H:Hp):Nat->V->V->Prop
 | 0,x,y=>x=y/\((∃ i,x=.int i)\/(∃ b,x=.bl b)\/(∃ z,x=.str z)\/x=.non)
 | n+1,x,y=>(x=y/\((∃ i,x=.int i)\/(∃ b,x=.bl b)\/(∃ z,x=.str z)\/x=.non))\/∃(a b:b9)(xs ys:List V)(l:Bool),x=.ref a/\y=.ref b/\H a=Io (if l then .lst xs else .tup xs)/\H b=Io (if l then .lst ys else .tup ys)/\xs.length=ys.length/\xs.length<=1000 /\
   ∀(i:Nat)(u v:V),xs[i]?=Io u->ys[i]?=Io v->DR H n u v
def DR.same{H H':Hp}(e:Same H H'):∀{n:Nat}{x y:V},DR H n x y->DR H' n x y
 | 0,_,_,h=>h
 | n+1,x,y,h=>by
  rcases h with h | ⟨a,b,xs,ys,l,e1,e2,h1,h2,h3,h4,h5⟩
  ·rwa[.inl h]
  ·rwa[.inr ⟨a,b,xs,ys,l,e1,e2,e _ _ h1,e _ _ h2,h3,h4,λi u v g1 g2=>DR.same e (h5 i u v g1 g2)⟩]
def DR.int{H:Hp}{n:Nat}{x y:Int}(h:x=y):DR H n (.int x) (.int y):=by
 subst h;cases n with
 | zero=>rwa[U,.inl ⟨x,U⟩]
 | succ m=>rwa[.inl ⟨rfl,.inl ⟨x,rfl⟩⟩]
def DR.bl{H:Hp}{n:Nat}{x y:Bool}(h:x=y):DR H n (.bl x) (.bl y):=by
 subst h;cases n with
 | zero=>rwa[U,.inr (.inl ⟨x,U⟩)]
 | succ m=>rwa[.inl ⟨rfl,.inr (.inl ⟨x,rfl⟩)⟩]
def DR.tupI{H:Hp}{n:Nat}{a b:b9}{xs ys:List Int}(h1:H a=Io (.tup (xs.map V.int)))(h2:H b=Io (.tup (ys.map V.int)))(e:xs=ys)(hl:xs.length<=1000):DR H (n+1) (.ref a) (.ref b):=by
 subst e;erw[.inr ⟨a,b,xs.map V.int,xs.map V.int,Ir,rfl,rfl,h1,h2,rfl,by rw[a7]; exact hl,λi u v g1 g2=>?_⟩];rw[g1] at g2;cases g2;obtain⟨m,_,rfl⟩:=si g1;rwa[DR.int rfl]
def DR.str{H:Hp}{n:Nat}{x y:g8}(h:x=y):DR H n (.str x) (.str y):=by
 subst h;cases n with
 | zero=>rwa[U,.inr (.inr (.inl ⟨x,U⟩))]
 | succ m=>rwa[.inl ⟨rfl,.inr (.inr (.inl ⟨x,rfl⟩))⟩]
def DR.non{H:Hp}{n:Nat} : DR H n .non .non:=by
 cases n with
 | zero=>rwa[U,.inr (.inr (.inr rfl))]
 | succ m=>rwa[.inl ⟨rfl,.inr (.inr (.inr rfl))⟩]
def XY{H:Hp} : ∀(n:Nat)(d:Dt){x y:V},lU n d->Rep H d x->Rep H d y->DR H n x y
 | n,.int i,x,y,_,h1,h2=>by rw[yB.mp h1,yB.mp h2]; rwa[DR.int rfl]
 | n,.str z,x,y,_,h1,h2=>by rw[zW.mp h1,zW.mp h2]; rwa[DR.str rfl]
 | 0,.tup _,_,_,h,_,_=>h.elim
 | n+1,.tup l,x,y,h,h1,h2=>by
  obtain⟨a,xs,rfl,ha,ra⟩:=yF.mp h1;obtain⟨b,ys,rfl,hb,rb⟩:=yF.mp h2;have hl:l.length<=900:=h.1;erw[.inr ⟨a,b,xs,ys,Ir,rfl,rfl,ha,hb,by rw[ra.length,rb.length],by rw[ra.length]; lia,λi u v g1 g2=>?_⟩];obtain⟨d,e1,r1⟩:=ra.back g1;obtain⟨d',e2,r2⟩:=rb.back g2;rw[e1] at e2;cases e2;rwa[XY n d (h.2 d (j5 e1)) r1 r2]
def reps_dr{H:Hp}{n:Nat}{l:List Dt}{a b:b9}{xs ys:List V}(h:∀ d∈l,lU n d)(hl:l.length<=900)(ha:H a=Io (.lst xs))(hb:H b=Io (.lst ys))(ra:xN H l xs)(rb:xN H l ys):DR H (n+1) (.ref a) (.ref b):=by
 erw[.inr ⟨a,b,xs,ys,Iq,rfl,rfl,ha,hb,by rw[ra.length,rb.length],by rw[ra.length]; lia,λi u v g1 g2=>?_⟩];obtain⟨d,e1,r1⟩:=ra.back g1;obtain⟨d',e2,r2⟩:=rb.back g2;rw[e1] at e2;cases e2;rwa[XY n d (h d (j5 e1)) r1 r2]
def kP:Nat->Sp
 | 0=>λ_ _ _ _=>False
 | n+1=>λvs H Q _=>∃(x y:V),vs=[x,y]/\DR H n x y/\∀ H',Same H H'->Q (.bl Iq) H'
def vm(_:b7):Sp:=kP 6
structure KT(K:b7)(ty:c7)(bb bi bl bt bs:Bool):Prop where
 b:AS K ty (.type "bool")=Io bb
 i:AS K ty (.type "int")=Io bi
 l:AS K ty (.type "list")=Io bl
 t:AS K ty (.type "tuple")=Io bt
 s:AS K ty (.type "str")=Io bs
def eV{f:b9}{fd:Aq}(F:Fun K "_law_same" "_law_same" vz f fd)(Z:Zs mg)(bS:uw K fd ["_law_told","_law_due_here"] [])(kS:Au K (.ref f)=Iq)(mS:mg "_law_same" = Io (.ref f)) :
  ∀ n:Nat,yX P w K mg base CX0 n f fd ["_law_told","_law_due_here"] (kP n)
 | 0=>⟨λ_ _ _ _ h=>h.elim,λ_ _ _ _ _ _ _ _ _ _ _ _ _ h=>h.elim⟩
 | n+1=>by
  have ih:=eV F Z bS kS mS n;have yCa:Has P w K mg base "_law_same" n ["_law_told","_law_due_here"] (kP n):=⟨f,fd,ih,bS,kS,mS⟩
  specialize aT
  ·obtain⟨x,y,rfl,_⟩:=h;rfl
  obtain⟨x,y,rfl,hD,q⟩:=h;have hr_self:=hr
  refine'⟨_,(zC (zX ?_ (zG (zM pc)) zN)
   (zC (zX ?_ (zG (zM pc)) zN)
   (zC (zX ?_ (zG (zM ?_)) zN)
   (zG (zM (jb ?_ (jI (zR (vZ rfl) rfl Z.all qp (zB (vA (T:=["_law_one","_law_other"]) (caps:=[]) ⟨rfl,by ac_nf,by ac_nf,rfl,t5⟩ rfl (XI rfl Z.zip (zB (pv 0) (zB (pv 1) zI))) (λ_=>(yl rfl (yI (qL 0 (show(["_law_one","_law_other"]:List g8).Nodup by ac_nf)) (yI (qL 1 (show(["_law_one","_law_other"]:List g8).Nodup by ac_nf)) tJ)))) (λ_=>xX) (λ_=>(uW yCa hr_self rfl (zB (pv 0) (zB (pv 1) zI))))) zI))))))))),?_⟩
  nofun
  have kinds:∃(t:c7)(bb bi bl bt bs:Bool),TyOf K H x t/\TyOf K H y t/\KT K t bb bi bl bt bs/\((bl=Ir/\bt=Ir/\x=y/\((∃ i,x=.int i)\/(∃ b,x=.bl b)\/(∃ z,x=.str z)\/x=.non)) \/
    ∃(m:Nat)(a b:b9)(xs ys:List V)(l:Bool),bl=l/\bt = !l/\n=m+1/\x=.ref a/\y=.ref b/\H a=Io (if l then .lst xs else .tup xs)/\H b=Io (if l then .lst ys else .tup ys)/\xs.length=ys.length/\xs.length<=1000 /\
     ∀(i:Nat)(u v:V),xs[i]?=Io u->ys[i]?=Io v->DR H m u v):=by
   have TF:(x=y/\((∃ i,x=.int i)\/(∃ b,x=.bl b)\/(∃ z,x=.str z)\/x=.non))->∃(t:c7)(bb bi bl bt bs:Bool),TyOf K H x t/\TyOf K H y t/\KT K t bb bi bl bt bs/\(bl=Ir/\bt=Ir/\x=y/\((∃ i,x=.int i)\/(∃ b,x=.bl b)\/(∃ z,x=.str z)\/x=.non)):=λh=>by
    obtain⟨rfl,h⟩:=h;rcases h with ⟨i,rfl⟩ | ⟨b,rfl⟩ | ⟨z,rfl⟩ | rfl
    ·rwa[_,_,_,_,_,_,.int i,.int i,⟨U,U,U,U,U⟩,U,U,U,.inl ⟨i,U⟩]
    ·rwa[_,_,_,_,_,_,.bl b,.bl b,⟨U,U,U,U,U⟩,U,U,U,.inr (.inl ⟨b,U⟩)]
    ·rwa[_,_,_,_,_,_,.str z,.str z,⟨U,U,U,U,U⟩,U,U,U,.inr (.inr (.inl ⟨z,U⟩))]
    ·rwa[_,_,_,_,_,_,.non,.non,⟨U,U,U,U,U⟩,U,U,U,.inr (.inr (.inr rfl))]
   cases n with
   | zero =>
    obtain⟨t,bb,bi,bl,bt,bs,h1,h2,h3,h4⟩:=TF hD;rwa[t,bb,bi,bl,bt,bs,h1,h2,h3,.inl h4]
   | succ m =>
    rcases hD with h | ⟨a,b,xs,ys,l,e1,e2,h1,h2,h3,h4,h5⟩
    ·obtain⟨t,bb,bi,bl,bt,bs,h1,h2,h3,h4⟩:=TF h;rwa[t,bb,bi,bl,bt,bs,h1,h2,h3,.inl h4]
    ·subst e1 e2;cases l with
     | true=>rwa[_,_,_,_,_,_,.lst h1,.lst h2,⟨U,U,U,U,U⟩,.inr ⟨m,a,b,xs,ys,Iq,U,U,U,U,U,h1,h2,h3,h4,h5⟩]
     | false=>rwa[_,_,_,_,_,_,.tup h1,.tup h2,⟨U,U,U,U,U⟩,.inr ⟨m,a,b,xs,ys,Ir,U,U,U,U,U,h1,h2,h3,h4,h5⟩]
  obtain⟨t,bb,bi,bl,bt,bs,tx,ty,kt,rest⟩:=kinds;exists _,U,_, "bool",t,bb,U,tx,kt.b,_,U,_, "bool",t,bb,U,ty,kt.b,U,_,rfl;erw[ifN (λz=>x5 rfl z) (λ_=>?_)];exists _,U,_, "int",t,bi,U,tx,kt.i,_,U,_, "int",t,bi,U,ty,kt.i,U,_,rfl;erw[ifN (λz=>x5 rfl z) (λ_=>?_)];exists _,U,_, "list",t,bl,U,tx,kt.l,_,U,_, "list",t,bl,U,ty,kt.l,U,_,rfl;erw[ifN (λz=>x5 rfl z) (λ_=>?_)];exists _,U,_, "tuple",t,bt,U,tx,kt.t,_,U,_, "tuple",t,bt,U,ty,kt.t,U,_,rfl;erw[ifN (λz=>x5 rfl z) (λ_=>?_)];exists _,U,_, "list",t,bl,U,ty,kt.l,_,rfl;rcases rest with ⟨rfl,rfl,rfl,hs⟩ | ⟨m,a,b,xs,ys,l,rfl,rfl,rfl,rfl,rfl,ha,hb,hlen,h1000,hel⟩
  ·erw[xV ?_];exists _,U,_, "tuple",t,Ir,U,ty,kt.t,_,rfl;erw[xV ?_];exists _,U,_, "str",t,bs,U,tx,kt.s,_,U,_, "str",t,bs,U,ty,kt.s,U,_,rfl;rw[x3 rfl];erw[xV ?_];erw[_,U,_,U,?_,?_]
   ·rcases hs with ⟨i,rfl⟩ | ⟨b,rfl⟩ | ⟨z,rfl⟩ | rfl <;> rfl
   ·rw[x3 rfl];rwa[q H (Same.refl H)]
  ·have SA:SqB bl K H a xs:=by
    cases bl
    ·rwa[SqT.of ha]
    ·rwa[SqL.of ha]
   have SB:SqB bl K H b ys:=by
    cases bl
    ·rwa[SqT.of hb]
    ·rwa[SqL.of hb]
   have SA':SqL K H a xs\/SqT K H a xs:=by
    cases bl
    ·rwa[.inr SA]
    ·rwa[.inl SA]
   have SB':SqL K H b ys\/SqT K H b ys:=by
    cases bl
    ·rwa[.inr SB]
    ·rwa[.inl SB]
   have keep:∀(H':Hp),Same H H'->SqB bl K H' a xs/\SqB bl K H' b ys:=λH' e=>by
    cases bl
    ·rwa[SqT.same SA e,SqT.same SB e]
    ·rwa[e.seq SA,e.seq SB]
   cases hbl:bl with
   | true =>
    refine yR ?_;refine yR ?_;exists _,U,a,xs,U,SA',_,U,b,ys,U,SB',U,_,rfl;rw[decI (by rw[hlen])];refine xV ?_;refine⟨_,U,_,U,bl,bl,a,b,xs,ys,U,SA,SB,λc D hD=>ou (K:=K) (xs:=xs) (ys:=ys) (λi σ zs H'=>Same H H'/\H' D=Io (.lst zs)/\zs=(t9 i Iq).map V.bl/\i<=xs.length/\∃ u v,σ=[u,v])
     ⟨zD hD _,zA,rfl,t7 _,Ip,Ip,rfl⟩ (λi σ zs H' ⟨e,e2,_⟩=>⟨(keep H' e).1,(keep H' e).2,e2⟩) ?_ ?_⟩
    ·rintro i u v T σ zs H' hu hv hT ⟨e,e2,rfl,hi,o1,o2,rfl⟩;have hil:i<xs.length:=(g9.mp hu).1;have s2:=zD hT (.tup [u,v]);erw[T,[u,v],U,SqT.of zA,U,u,[v],U,v,[],U,U,_,U,_,U,u,v,U,(hel i u v hu hv).same (e.trans s2),λH4 s4=>?_];have e4:=s4 _ _ (s2 _ _ e2);erw[e4,zT (by rw[a7,AQ]; lia),λp o z=>?_,zA,?_,hil,_,_,rfl]
     ·rw[zH (zF z hD)];rwa[s4 _ _ (s2 _ _ (e _ _ z))]
     ·rw[Dc,i8];rfl
    ·rintro σ zs H' ⟨e,e2,rfl,hi,o1,o2,rfl⟩;exists D,t9 (min xs.length ys.length) Iq,U,SqL.of e2;rw[show(t9 (min xs.length ys.length) Iq).all id=Iq from by simp];rwa[q _ e]
   | false =>
    refine xV ?_;exists _,U,_, "tuple",t,Iq,U,ty,kt.t.trans (by rw[hbl]; rfl),_,rfl;refine yR ?_;exists _,U,a,xs,U,SA',_,U,b,ys,U,SB',U,_,rfl;rw[decI (by rw[hlen])];refine xV ?_;refine⟨_,U,_,U,bl,bl,a,b,xs,ys,U,SA,SB,λc D hD=>ou (K:=K) (xs:=xs) (ys:=ys) (λi σ zs H'=>Same H H'/\H' D=Io (.lst zs)/\zs=(t9 i Iq).map V.bl/\i<=xs.length/\∃ u v,σ=[u,v])
     ⟨zD hD _,zA,rfl,t7 _,Ip,Ip,rfl⟩ (λi σ zs H' ⟨e,e2,_⟩=>⟨(keep H' e).1,(keep H' e).2,e2⟩) ?_ ?_⟩
    ·rintro i u v T σ zs H' hu hv hT ⟨e,e2,rfl,hi,o1,o2,rfl⟩;have hil:i<xs.length:=(g9.mp hu).1;have s2:=zD hT (.tup [u,v]);erw[T,[u,v],U,SqT.of zA,U,u,[v],U,v,[],U,U,_,U,_,U,u,v,U,(hel i u v hu hv).same (e.trans s2),λH4 s4=>?_];have e4:=s4 _ _ (s2 _ _ e2);erw[e4,zT (by rw[a7,AQ]; lia),λp o z=>?_,zA,?_,hil,_,_,rfl]
     ·rw[zH (zF z hD)];rwa[s4 _ _ (s2 _ _ (e _ _ z))]
     ·rw[Dc,i8];rfl
    ·rintro σ zs H' ⟨e,e2,rfl,hi,o1,o2,rfl⟩;exists D,t9 (min xs.length ys.length) Iq,U,SqL.of e2;rw[show(t9 (min xs.length ys.length) Iq).all id=Iq from by simp];rwa[q _ e]
def ZT(F:Fun K "_law_same" "_law_same" vz f fd)(Z:Zs mg)(bS:uw K fd ["_law_told","_law_due_here"] [])(kS:Au K (.ref f)=Iq)(mS:mg "_law_same" = Io (.ref f)):yX P w K mg base CX0 6 f fd ["_law_told","_law_due_here"] (vm K):=eV F Z bS kS mS 6
def axN:Option Cl->b9
 | none=>yM
 | some c=>axC c
def Tj:Option Cl->g8
 | none => "NothingLeft"
 | some c=>fJ c
def yi(_:b7)(x:b9):Sp:=λvs H Q _=>∃ c:Option Cl,vs=[.ref x]/\H x=Io (bF x (.ref (axN c)))/\∀ H',Same H H'->Q (.str (Tj c)) H'
def iT(F:Fun K "_law_refused" "_law_refused" qP f fd)(Z:Zs mg)(CB:Cb P w mg base)  : Xq P w K mg base 1 f fd ["_law_e"] (yi K):=by
 erw[F.okH xA (λx vs H Q E h=>?_) (λx cdv A outer s H vs Q hx hr h=>?_)]
 ·obtain⟨c,rfl,_⟩:=h;rfl
 obtain⟨c,rfl,ex,q⟩:=h;have mD:axN c∈excL:=by rcases c with _ | c; decide; cases c <;> decide
 refine⟨_,(zC (qD (i:=1) xA.nd rfl (A4 rfl) (vB (zB (yV (zB zK (zB (zR (yJ (B:=base) rfl) rfl Z.isinstance zV (zB (pv 0) (zB (vC CB.gBadName) zI))) zI))) (zB (yV (zB zK (zB (zR (yJ (B:=base) rfl) rfl Z.isinstance zV (zB (pv 0) (zB (vC CB.gTaken) zI))) zI))) (zB (yV (zB zK (zB (zR (yJ (B:=base) rfl) rfl Z.isinstance zV (zB (pv 0) (zB (vC CB.gBadPlace) zI))) zI))) zI)))))
   (zC (qD (i:=1) xA.nd rfl (A4 rfl) (wH wa (pv 1) (vB (zB (yV (zB zK (zB (zR (yJ (B:=base) rfl) rfl Z.isinstance zV (zB (pv 0) (zB (vC CB.gFull) zI))) zI))) (zB (yV (zB zK (zB (zR (yJ (B:=base) rfl) rfl Z.isinstance zV (zB (pv 0) (zB (vC CB.gNoMark) zI))) zI))) (zB (yV (zB zK (zB (zR (yJ (B:=base) rfl) rfl Z.isinstance zV (zB (pv 0) (zB (vC CB.gSame) zI))) zI))) zI))))))
   (zC (qD (i:=1) xA.nd rfl (A4 rfl) (wH wa (pv 1) (vB (zB (yV (zB zK (zB (zR (yJ (B:=base) rfl) rfl Z.isinstance zV (zB (pv 0) (zB (vC CB.gNeeded) zI))) zI))) (zB (yV (zB zK (zB (zR (yJ (B:=base) rfl) rfl Z.isinstance zV (zB (pv 0) (zB (vC CB.gBadBank) zI))) zI))) zI)))))
   (zC (qD (i:=1) xA.nd rfl (A4 rfl) (wH wa (pv 1) (vB (zB (yV (zB zK (zB (zR (yJ (B:=base) rfl) rfl Z.isinstance zV (zB (pv 0) (zB (vC CB.gNoBank) zI))) zI))) (zB (yV (zB zK (zB (zR (yJ (B:=base) rfl) rfl Z.isinstance zV (zB (pv 0) (zB (vC CB.gBadRun) zI))) zI))) (zB (yV (zB zK (zB (zR (yJ (B:=base) rfl) rfl Z.isinstance zV (zB (pv 0) (zB (vC CB.gNoRun) zI))) zI))) zI))))))
   (zC (qD (i:=1) xA.nd rfl (A4 rfl) (wH wa (pv 1) (vB (zB (yV (zB zK (zB (zR (yJ (B:=base) rfl) rfl Z.isinstance zV (zB (pv 0) (zB (vC CB.gNoMoment) zI))) zI))) (zB (yV (zB zK (zB (zR (yJ (B:=base) rfl) rfl Z.isinstance zV (zB (pv 0) (zB (vC CB.gBadWay) zI))) zI))) zI)))))
   (zC (qD (i:=1) xA.nd rfl (A4 rfl) (wH wa (pv 1) (vB (zB (yV (zB zK (zB (zR (yJ (B:=base) rfl) rfl Z.isinstance zV (zB (pv 0) (zB (vC CB.gBadTurn) zI))) zI))) (zB (yV (zB zK (zB (zR (yJ (B:=base) rfl) rfl Z.isinstance zV (zB (pv 0) (zB (vC CB.gNoNote) zI))) zI))) zI)))))
   (zC (qD (i:=1) xA.nd rfl (A4 rfl) (wH wa (pv 1) (vB (zB (yV (zB zK (zB (zR (yJ (B:=base) rfl) rfl Z.isinstance zV (zB (pv 0) (zB (vC CB.gNothingLeft) zI))) zI))) (zB (yV (zB zK (zB (zR (yJ (B:=base) rfl) rfl Z.isinstance zV (zB (pv 0) (zB (vC CB.gBadRow) zI))) zI))) zI)))))
   (zC (qD (i:=1) xA.nd rfl (A4 rfl) (wH wa (pv 1) (vB (zB (yV (zB zK (zB (XN (zR (yJ (B:=base) rfl) rfl Z.isinstance zV (zB (pv 0) (zB (wq (v:=.ty "ValueError") rfl Z.ValueError kQ rfl) zI)))) zI))) zI))))
   (zG (zM (VR Ey EW EX aQ zK (zB (Xc (T:=["_law_word_here","_law_is_so"]) (caps:=[]) ⟨rfl,by ac_nf,by ac_nf,rfl,t5⟩ hx (YJ x (pv 1)) (λ_=>(VJ hx (yI (zw (i:=0) (show(["_law_word_here","_law_is_so"]:List g8).Nodup by ac_nf) rfl (A4 rfl)) (yI (zw (i:=1) (show(["_law_word_here","_law_is_so"]:List g8).Nodup by ac_nf) rfl (A4 rfl)) tJ)))) (λ_=>(YF (zr (pv 1)))) (λ_=>(pv 0))) zI)))))))))))),?_⟩
 try dsimp only[L2.cxOf]
 erw[MkA.seqL (H:=H) (.cons (.of rfl λG Q s k=>⟨x,axN c,_,_,_,rfl,.inr ⟨_,rfl,rfl⟩,s _ _ ex,xZ CB.isx mD (by decide),k⟩) (.cons (.of rfl λG Q s k=>⟨x,axN c,_,_,_,rfl,.inr ⟨_,rfl,rfl⟩,s _ _ ex,xZ CB.isx mD (by decide),k⟩) (.cons (.of rfl λG Q s k=>⟨x,axN c,_,_,_,rfl,.inr ⟨_,rfl,rfl⟩,s _ _ ex,xZ CB.isx mD (by decide),k⟩) .nil))) (g7 rfl) (Same.refl _) λso ts G S Lt R=>?_];erw[MkA.seqC (H:=H) (.cons (.of rfl λG Q s k=>⟨x,axN c,_,_,_,rfl,.inr ⟨_,rfl,rfl⟩,s _ _ ex,xZ CB.isx mD (by decide),k⟩) (.cons (.of rfl λG Q s k=>⟨x,axN c,_,_,_,rfl,.inr ⟨_,rfl,rfl⟩,s _ _ ex,xZ CB.isx mD (by decide),k⟩) (.cons (.of rfl λG Q s k=>⟨x,axN c,_,_,_,rfl,.inr ⟨_,rfl,rfl⟩,s _ _ ex,xZ CB.isx mD (by decide),k⟩) .nil))) (g7 rfl) S rfl Lt R (g7 rfl) λso ts G S Lt R=>?_];erw[MkA.seqC (H:=H) (.cons (.of rfl λG Q s k=>⟨x,axN c,_,_,_,rfl,.inr ⟨_,rfl,rfl⟩,s _ _ ex,xZ CB.isx mD (by decide),k⟩) (.cons (.of rfl λG Q s k=>⟨x,axN c,_,_,_,rfl,.inr ⟨_,rfl,rfl⟩,s _ _ ex,xZ CB.isx mD (by decide),k⟩) .nil)) (g7 rfl) S rfl Lt R (g7 rfl) λso ts G S Lt R=>?_];erw[MkA.seqC (H:=H) (.cons (.of rfl λG Q s k=>⟨x,axN c,_,_,_,rfl,.inr ⟨_,rfl,rfl⟩,s _ _ ex,xZ CB.isx mD (by decide),k⟩) (.cons (.of rfl λG Q s k=>⟨x,axN c,_,_,_,rfl,.inr ⟨_,rfl,rfl⟩,s _ _ ex,xZ CB.isx mD (by decide),k⟩) (.cons (.of rfl λG Q s k=>⟨x,axN c,_,_,_,rfl,.inr ⟨_,rfl,rfl⟩,s _ _ ex,xZ CB.isx mD (by decide),k⟩) .nil))) (g7 rfl) S rfl Lt R (g7 rfl) λso ts G S Lt R=>?_];erw[MkA.seqC (H:=H) (.cons (.of rfl λG Q s k=>⟨x,axN c,_,_,_,rfl,.inr ⟨_,rfl,rfl⟩,s _ _ ex,xZ CB.isx mD (by decide),k⟩) (.cons (.of rfl λG Q s k=>⟨x,axN c,_,_,_,rfl,.inr ⟨_,rfl,rfl⟩,s _ _ ex,xZ CB.isx mD (by decide),k⟩) .nil)) (g7 rfl) S rfl Lt R (g7 rfl) λso ts G S Lt R=>?_];erw[MkA.seqC (H:=H) (.cons (.of rfl λG Q s k=>⟨x,axN c,_,_,_,rfl,.inr ⟨_,rfl,rfl⟩,s _ _ ex,xZ CB.isx mD (by decide),k⟩) (.cons (.of rfl λG Q s k=>⟨x,axN c,_,_,_,rfl,.inr ⟨_,rfl,rfl⟩,s _ _ ex,xZ CB.isx mD (by decide),k⟩) .nil)) (g7 rfl) S rfl Lt R (g7 rfl) λso ts G S Lt R=>?_];erw[MkA.seqC (H:=H) (.cons (.of rfl λG Q s k=>⟨x,axN c,_,_,_,rfl,.inr ⟨_,rfl,rfl⟩,s _ _ ex,xZ CB.isx mD (by decide),k⟩) (.cons (.of rfl λG Q s k=>⟨x,axN c,_,_,_,rfl,.inr ⟨_,rfl,rfl⟩,s _ _ ex,xZ CB.isx mD (by decide),k⟩) .nil)) (g7 rfl) S rfl Lt R (g7 rfl) λso ts G S Lt R=>?_];erw[MkA.seqC (H:=H) (.cons (x := "none") (b:=Ir) (λG K s k=>⟨_,rfl,x,axN c,.ty "ValueError",.type "ValueError",Iq,rfl,.inl ⟨_,rfl,rfl⟩,s _ _ ex,WV CB.isx mD,_,rfl,sz2,k⟩) .nil) (g7 rfl) S rfl Lt R (g7 rfl) λso ts G S Lt R=>?_];have lt:ts.length<=100:=by rw[R.len]; show 18<=100; decide
 have exG:=S _ _ ex;obtain⟨ws,ews⟩:∃ ws,ws=([(l5 "BadName",axN c == uG),(l5 "Taken",axN c == zv),(l5 "BadPlace",axN c == wY),(l5 "Full",axN c == yu),(l5 "NoMark",axN c == sX),(l5 "Same",axN c == wu),(l5 "Needed",axN c == sW),(l5 "BadBank",axN c == sC),(l5 "NoBank",axN c == qE),(l5 "BadRun",axN c == sY),(l5 "NoRun",axN c == xw),(l5 "NoMoment",axN c == wF),(l5 "BadWay",axN c == tG),(l5 "BadTurn",axN c == tY),(l5 "NoNote",axN c == rV),(l5 "NothingLeft",axN c == yM),(l5 "BadRow",axN c == og),(l5 "none",Ir)]:List (g8×Bool)):=⟨_,rfl⟩
 replace R:nY G ts ws:=by rw[ews]; rwa[R]
 have wd:CV (l5 " ") ((ws.filter (·.2)).map (·.1))=Tj c:=by rw[ews]; clear ews R; rcases c with _ | c; symm; cases c <;> symm
 have l100:sj (l5 " ") ((ws.filter (·.2)).map (·.1))<=1000:=by rw[ews]; clear ews R wd; rcases c with _ | c; ac_nf; cases c <;> ac_nf
 clear ews;refine⟨U,_,U,so,U,⟨_,SqL.of Lt⟩,λcc D hD=>cy (K:=K) (a:=so) (x:=x) (xs:=ts.map V.ref) (λi σ ys H'=>Same G H'/\H' D=Io (.lst ys)/\ys=((ws.take i).filter (·.2)).map (λw=>V.str w.1)/\i<=ts.length/\∃ u v:Option V,σ=[u,v])
  ⟨zD hD _,zA,rfl,t7 _,Ip,Ip,rfl⟩ (λi σ ys H' _ hP=>⟨SqL.of (hP.1 _ _ Lt),hP.2.1,⟨_,hP.1 _ _ exG⟩⟩) ?_ ?_⟩
 ·rintro i v σ ys H' gv ⟨sH,eD,rfl,hi,u1,u2,rfl⟩;rw[e7,j6] at gv;obtain⟨t,gt,rfl⟩:=gv;have hit:=(g9.mp gt).1;obtain⟨w,gw⟩:∃ w,ws[i]?=Io w:=⟨_,d4 (by rw[<- R.len]; rwa[hit])⟩;have et:=sH _ _ (R.at_ i t w gt gw);exists ⟨_,sH _ _ exG⟩,t,_,U,SqT.of et,U,.str w.1,_,U,.bl w.2,_,U,U,_,U,w.2,rfl;rw[w6,gw];cases hw:w.2 with
  | false=>rwa[yR ⟨sH,eD,by rw[FF]; simp[hw],hit,_,_,rfl⟩]
  | true =>
   erw[xV ⟨_,rfl,eD,zT ?_,sH.putNew hD,zA,by rw[FF,i8]; simp[hw],hit,_,_,rfl⟩];rw[a7];erw[j7 (BD _ _) ?_];rw[j8];lia
 ·rintro σ ys H' ⟨sH,eD,rfl,_,u1,u2,rfl⟩;rw[a7,R.len,Am] at eD;have e1:(ws.filter (·.2)).map (λw=>V.str w.1)=((ws.filter (·.2)).map (·.1)).map V.str:=by rw[v7]; rfl
  rw[e1] at eD;refine⟨l5 " ",D,_,U,U,SqL.of eD,by show _<=2^24; lia,?_⟩;rw[wd];rwa[q H' (S.trans sH)]
def rj(_:b7):Sp:=λvs H Q _=>∃(R:b9)(ns:List g8),vs=[.ref R]/\H R=Io (.lst (ns.map V.str))/\∀ x:g8,oN x->Q (.str x) H
def jM(F:Fun K "_law_strange" "_law_strange" qR f fd)(Z:Zs mg)(CB:Cb P w mg base)  : yX P w K mg base CX0 1 f fd ["_law_names_here"] (rj K):=by
 specialize yk
 ·obtain⟨R,ns,rfl,_⟩:=h;rfl
 obtain⟨R,ns,rfl,eR,q⟩:=h;refine⟨_,(zC (qA AC rfl (gy rfl Z.range (zB yL (zB yL zI))) (zw (i:=1) yk.nd rfl (A4 rfl)) (zG (qA AC rfl (am zK) (zw (i:=2) yk.nd rfl (A4 rfl)) (zG (zX (yH gf (wH gg (pv 2) (pv 1)) (pv 0) (by with_unfolding_all rfl)) (zG (zM (wH gg (pv 2) (pv 1)))) zN)))))
   (zG (zM zK))),?_⟩
 try dsimp only[L2.cxOf]
 erw[1,9,U,⟨by decide,by decide,by decide,by decide⟩,rT (lo:=1) (n:=8) (λi σ H'=>H'=H/\∃ u u':Option V,σ=[Io (.ref R),u,u']) ⟨U,Ip,Ip,U⟩ ?_ ?_]
 ·rintro i σ H' hi ⟨rfl,u,u',rfl⟩;erw[_,U,(by ac_nf),Xd (λj σ G=>G=H'/\∃ u':Option V,σ=[Io (.ref R),Io (.int (1+i)),u']) ⟨U,u',U⟩ (λ_ _ _ _=>trivial) ?_ ?_]
  ·rintro j x σ G gx ⟨rfl,v,rfl⟩;have mx:=j5 gx;unfold qc at mx;obtain⟨c,hc,rfl⟩:=i4.mp mx;have c128:c<128:=by
    have:∀ c∈(l5 "zyxwvutsrqponmlkjihgfedcba").cps.toList,c<128:=by ac_nf
    rwa[this c hc]
   exists _,U,_,U,⟨#[c]⟩,1+i,U,U,by lia,by lia,(by show 1<=1000; decide),_,rfl,R,_,rfl,.inl (SqL.of eR),rfl,jt ns,_,rfl;erw[Ux (λz=>?_) (λz=>?_)]
   ·exact⟨_,U,_,U,⟨#[c]⟩,1+i,U,U,by lia,by lia,(by show 1<=1000; decide),q _ (Ve c128 (by lia) (by lia))⟩
   ·rwa[U,_,U]
  ·rintro σ G ⟨rfl,v,rfl⟩;rwa[U,_,_,U]
 ·rintro σ H' ⟨rfl,u,u',rfl⟩;rwa[q _ asc_0]
def nP(_:b7):Sp:=λvs H Q _=>∃(k:Int)(R:b9)(ns:List g8),vs=[.int k,.ref R]/\0<=k/\k<1000003/\H R=Io (.lst (ns.map V.str))/\1<=ns.length/\(∀ n∈ns,wM n)/\∀(x:g8)(H':Hp),oN x->Same H H'->Q (.str x) H'
def aF(F:Fun K "_law_pick" "_law_pick" pF f fd)(Z:Zs mg)(CB:Cb P w mg base)(yBm:Has P w K mg base "_law_strange" 1 ["_law_names_here"] (rj K)):yX P w K mg base CX0 2 f fd ["_law_raw","_law_names_here"] (nP K):=by
 specialize aV
 ·obtain⟨k,R,ns,rfl,_⟩:=h;rfl
 obtain⟨k,R,ns,rfl,k0,k1,eR,l1,okn,q⟩:=h
 refine'⟨_,(zC (zX ?_ (zG (zM ?_)) zN)
   (zG (zM ?_))),?_⟩
 nofun
 exists _,U,_,_,U,U,(by show(0:Int)<14; decide),rfl,_,rfl;erw[ifE (λz=>?_) (λz=>?_)]
 ·erw[_,U,R,ns,U,eR,λy hy=>?_];refine⟨(by show 5<=sizeLine; decide),λp hp=>?_⟩;have sp:=zD hp (.lst [.str "",.str "A",.str "abcdefghi",.str "a b",.str y]);obtain⟨v,hv,e⟩:=ni (vs:=[.str "",.str "A",.str "abcdefghi",.str "a b",.str y]) (x:=k/14) (n:=5) (by decide) rfl;exists _,U,_,_,U,U,um.of (by decide) (by ac_nf),_,_,U,U,gt5,p,_,_,v,U,U,.inl (SqL.of zA),e;have lit:∀ x:g8,x∈[l5 "",l5 "A",l5 "abcdefghi",l5 "a b"]->oN x:=by unfold oN; ac_nf
  have go:∀ x:g8,oN x->Q (.str x) _:=λx hx=>q x _ hx sp;simp only[i7,Ai,or_false] at hv;rcases hv with rfl | rfl | rfl | rfl | rfl
  ·rwa[go _ (lit _ (.head _))]
  ·rwa[go _ (lit _ (.tail _ (.head _)))]
  ·rwa[go _ (lit _ (.tail _ (.tail _ (.head _))))]
  ·rwa[go _ (lit _ (.tail _ (.tail _ (.tail _ (.head _)))))]
  ·rwa[go _ hy]
 ·obtain⟨n,hn,e⟩:=Ua (ms:=ns) (x:=k/14) (by rw[a7]; lia);exact⟨_,U,_,U,_,_,U,U,um.of (by decide) (by ac_nf),_,U,R,_,U,.inl (SqL.of eR),_,_,U,U,(by show(0:Int)<((ns.map V.str).length:Int); rw[a7]; lia),R,_,_,.str n,rfl,rfl,.inl (SqL.of eR),e,q n H (okn n hn).asc (Same.refl _)⟩
def yx(_:b7):Sp:=λvs H Q _=>∃(k:Int),vs=[.int k]/\0<=k/\k<1000003/\∀(x:Int)(H':Hp),zf x->Same H H'->Q (.int x) H'
def nA(F:Fun K "_law_far_number" "_law_far_number" vI f fd)(Z:Zs mg)(CB:Cb P w mg base)  : yX P w K mg base CX0 1 f fd ["_law_raw"] (yx K):=by
 specialize om
 ·obtain⟨k,rfl,_⟩:=h;rfl
 obtain⟨k,rfl,k0,k1,q⟩:=h
 refine'⟨_,(zC (zX ?_ (zG (zM ?_)) zN)
   (zC (zX ?_ (zG (zM ?_)) zN)
   (zG (zM ?_)))),?_⟩
 nofun
 exists _,U,_,_,U,U,(by show(0:Int)<9; decide),rfl,_,rfl;erw[ifE (λz=>?_) (λz=>?_)]
 ·refine⟨_,U,_,U,_,_,U,U,(by unfold Su; decide),(by show 6<=sizeLine; decide),λp hp=>?_⟩;have sp:=zD hp (.lst [.int (-1000),.int 1000,.int 1001,.int (-1001),.int (10^20),.int 0]);obtain⟨v,hv,e⟩:=ni (vs:=[.int (-1000),.int 1000,.int 1001,.int (-1001),.int (10^20),.int 0]) (x:=k/9) (n:=6) (by decide) rfl;exists _,U,_,_,U,U,um.of (by decide) (by ac_nf),_,_,U,U,(by show(0:Int)<6; decide),p,_,_,v,rfl,rfl,.inl (SqL.of zA),e;simp only[i7,Ai,or_false] at hv;rcases hv with rfl | rfl | rfl | rfl | rfl | rfl <;> rwa[q _ _ (wA (by decide)) sp]
 exists _,U,_,_,U,U,gt3,U,_,rfl;erw[ifE (λz=>?_) (λz=>?_)]
 ·exact⟨_,U,_,_,U,U,um.of (by decide) (by ac_nf),_,_,U,U,(by show(0:Int)<2001; decide),_,_,rfl,rfl,q _ H (wA (by lia)) (Same.refl _)⟩
 ·exact⟨_,U,_,_,U,U,um.of (by decide) (by ac_nf),_,_,U,U,(by show(0:Int)<31; decide),_,_,rfl,rfl,q _ H (wA (by lia)) (Same.refl _)⟩
def eW(_:b7):Sp:=λvs H Q _=>∃(o t wd:Int),vs=[.int o,.int t,.int wd]/\1<=wd/\wd<=1000000 /\
 ∀(p:b9)(x y:Int)(H':Hp),Same H H'->H p=Ip->H' p=Io (.tup [.int x,.int y])->(x≠0\/y≠0)->x.natAbs<=wd.natAbs->y.natAbs<=wd.natAbs->Q (.ref p) H'
def XA(F:Fun K "_law_way" "_law_way" lX f fd)(Z:Zs mg)(CB:Cb P w mg base)  : yX P w K mg base CX0 1 f fd ["_law_one","_law_two","_law_wide"] (eW K):=by
 specialize pI
 ·obtain⟨o,t,wd,rfl,_⟩:=h;rfl
 obtain⟨o,t,wd,rfl,w1,w2,q⟩:=h
 refine'⟨_,(zC (yD 3 pI.nd ?_)
   (zC (yD 4 pI.nd ?_)
   (zC (zX ?_ (zG (yD 3 pI.nd ?_)) zN)
   (zG (zM ?_))))),?_⟩
 nofun
 have x0:=w5 o (show 2*wd+1≠0 by lia);have x1:=o7 o (show 0<2*wd+1 by lia);have y0:=w5 t (show 2*wd+1≠0 by lia);have y1:=o7 t (show 0<2*wd+1 by lia);exists _,U,_,U,_,_,U,U,.inl ⟨by decide,by decide⟩,_,_,U,U,_,_,U,U,(by show 0<2*wd+1; lia),_,rfl,_,_,rfl,rfl;exists _,U,_,U,_,_,U,U,.inl ⟨by decide,by decide⟩,_,_,U,U,_,_,U,U,(by show 0<2*wd+1; lia),_,rfl,_,_,rfl,rfl;exists _,U,U,_,rfl;erw[ifE (λhx=>?_) (λhx=>?_)]
 ·exists _,U,U,_,rfl;erw[ifE (λhy=>?_) (λhy=>?_)]
  ·exists _,U,_,_,U,U,gt2,_,_,U,U,.inl ⟨by decide,by decide⟩,_,_,U,rfl;erw[_,U,_,U,sz2,λp hp=>?_];rwa[q p _ _ _ (zD hp _) hp zA (by left; lia) (by lia) (by lia)]
  ·erw[_,U,_,U,sz2,λp hp=>?_];rwa[q p _ _ _ (zD hp _) hp zA (.inr hy) (by lia) (by lia)]
 ·erw[yR ?_];erw[_,U,_,U,sz2,λp hp=>?_];rwa[q p _ _ _ (zD hp _) hp zA (.inl hx) (by lia) (by lia)]
def wm(K:b7):Sp:=λvs H Q _=>∃(a b:b9)(us ws:List V)(x1 y1 x2 y2:Int),vs=[.ref a,.ref b]/\Sq K H a us/\Sq K H b ws/\atI us 0=Io (.int x1)/\atI us 1=Io (.int y1)/\atI ws 0=Io (.int x2)/\atI ws 1=Io (.int y2) /\
 x1.natAbs<=10^18/\y1.natAbs<=10^18/\Q (.int (x1*y2-y1*x2)) H
def gZ(F:Fun K "_law_turned" "_law_turned" xo f fd)(Z:Zs mg)(CB:Cb P w mg base)  : yX P w K mg base CX0 1 f fd ["_law_one","_law_other"] (wm K):=by
 specialize fW
 ·obtain⟨a,b,us,ws,x1,y1,x2,y2,rfl,_⟩:=h;rfl
 obtain⟨a,b,us,ws,x1,y1,x2,y2,rfl,ha,hb,u0,u1,w0,w1,m1,m2,q⟩:=h
 refine'⟨_,(zG (zM ?_)),?_⟩
 nofun
 exact⟨_,U,a,_,_,.int x1,U,U,ha,u0,_,U,b,_,_,.int y2,U,U,hb,w1,_,_,U,U,XS (by lia),
  _,rfl,a,_,_,.int y1,rfl,rfl,ha,u1,_,rfl,b,_,_,.int x2,rfl,rfl,hb,w0,_,_,rfl,rfl,XS (by lia),_,_,rfl,rfl,q⟩
def xc(K:b7):Sp:=λvs H Q _=>∃(a:b9)(rows:List Int)(wd:Int),vs=[.ref a,.int wd]/\SqL K H a (rows.map V.int)/\5<=rows.length/\(∀ x∈rows,0<=x/\x<1000003)/\1<=wd/\wd<=100 /\
 ∀(t p r:b9)(A0 A1 B0 B1:Int)(H':Hp),Same H H'->H' t=Io (.tup [.ref p,.ref r])->H' p=Io (.tup [.int A0,.int A1])->H' r=Io (.tup [.int B0,.int B1])->0<A0*B1-A1*B0->A0.natAbs<=wd.natAbs->A1.natAbs<=wd.natAbs->B0.natAbs<=wd.natAbs->B1.natAbs<=wd.natAbs->Q (.ref t) H'
def nZ(F:Fun K "_law_left_pair" "_law_left_pair" tV f fd)(Z:Zs mg)(CB:Cb P w mg base)(yBp:Has P w K mg base "_law_turned" 1 ["_law_one","_law_other"] (wm K))(yCh:Has P w K mg base "_law_way" 1 ["_law_one","_law_two","_law_wide"] (eW K)):yX P w K mg base CX0 2 f fd ["_law_d","_law_wide"] (xc K):=by
 specialize xT
 ·obtain⟨a,rows,wd,rfl,_⟩:=h;rfl
 obtain⟨a,rows,wd,rfl,hS,hl,bd,w1,w2,q⟩:=h
 refine'⟨_,(zC (yD 2 xT.nd ?_)
   (zC (yD 3 xT.nd ?_)
   (zC (zX ?_ (zG (yD 3 xT.nd ?_)) zN)
   (zC (zX ?_ (zG (Zu (i:=2) (j:=3) rfl xT.nd rfl rfl (by decide) rfl rfl (zB (pv 3) (zB (pv 2) zI)) rfl)) zN)
   (zC (zX ?_ (zG (yD 3 xT.nd ?_)) zN)
   (zG (zM ?_))))))),?_⟩
 nofun
 obtain⟨v0,a0,_⟩:=xO bd (k:=0) (by decide) (by lia);obtain⟨v1,a1,_⟩:=xO bd (k:=1) (by decide) (by lia);obtain⟨v2,a2,_⟩:=xO bd (k:=2) (by decide) (by lia);obtain⟨v3,a3,_⟩:=xO bd (k:=3) (by decide) (by lia);obtain⟨v4,a4,_⟩:=xO bd (k:=4) (by decide) (by lia);erw[_,U,a,_,_,_,U,U,.inl hS,a0,_,U,a,_,_,_,U,U,.inl hS,a1,_,U,v0,v1,wd,U,w1,by lia,λp1 x1 y1 H2 s2 hp1 e1' n1 m1 m2=>?_];have wb:wd.natAbs<=10^18:=by lia
 have k1:x1.natAbs<=wd.natAbs:=by lia
 have k2:y1.natAbs<=wd.natAbs:=by lia
 clear m1 m2;apply cut4 (ok:=λO X Y G=>Same H G/\G p1=Io (.tup [.int x1,.int y1])/\G O=Io (.tup [.int X,.int Y])/\X.natAbs<=wd.natAbs/\Y.natAbs<=wd.natAbs)
 ·intro main;erw[_,U,a,_,_,_,U,U,.inl (s2.seq hS),a2,_,U,a,_,_,_,U,U,.inl (s2.seq hS),a3,_,U,v2,v3,wd,U,w1,by lia,λp2 x2 y2 H3 s3 hp2 e3 n2 m3 m4=>?_];have s23:=s2.trans s3;have e13:=s3 _ _ e1';exists _,U,a,_,_,_,U,U,.inl (s23.seq hS),a4,_,_,U,U,gt4,U,_,rfl;erw[ifE (λ_=>?_) (λ_=>?_)];rotate_left
  ·rwa[main p2 x2 y2 H3 ⟨s23,e13,e3,by lia,by lia⟩]
  ·erw[_,U,p1,_,_,.int y1,U,U,.inr (SqT.of e13),U,_,U,_,U,p1,_,_,.int x1,U,U,.inr (SqT.of e13),U,sz2,λd hd=>?_];have sd:=zD hd (.tup [.int (-y1),.int x1]);rwa[main d (-y1) x1 _ ⟨s23.trans sd,sd _ _ e13,zA,by rw[GV]; exact k2,k1⟩]
 rintro O X Y G ⟨sH,e1,e2,k3,k4⟩;have f1:Sq K G p1 [.int x1,.int y1]:=.inr (SqT.of e1);have f2:Sq K G O [.int X,.int Y]:=.inr (SqT.of e2);have b1:x1.natAbs<=10^18:=j7 k1 wb;have b2:y1.natAbs<=10^18:=j7 k2 wb;exists _,U,_,U,p1,O,_,_,x1,y1,X,Y,U,f1,f2,U,U,U,U,b1,b2,_,_,U,U,_,rfl;have eT:X*y1-Y*x1 = -(x1*Y-y1*X):=by rw[Es X y1,Es Y x1]; lia
 erw[ifD (λhneg=>?_) (λhneg=>?_)]
 ·exists _,U,_,U,_,_,rfl;exists _,U,_,U,O,p1,_,_,X,Y,x1,y1,U,f2,f1,U,U,U,U,j7 k3 wb,j7 k4 wb,U,_,rfl;erw[ifE (λz=>x5 z (by clear k1 k2 k3 k4 b1 b2 w1 w2 wb hl; lia)) (λ_=>?_)];erw[_,U,_,U,sz2,λt ht=>?_];have st:=zD ht (.tup [.ref O,.ref p1]);rwa[q t O p1 X Y x1 y1 _ ((sH).trans st) zA (st _ _ e2) (st _ _ e1) (by clear k1 k2 k3 k4 b1 b2 w1 w2 wb hl; lia) k3 k4 k1 k2]
 ·exists _,U,_,U,p1,O,_,_,x1,y1,X,Y,U,f1,f2,U,U,U,U,b1,b2,U,_,rfl;erw[ifE (λhz=>?_) (λhz=>?_)]
  ·erw[_,U,p1,_,_,.int y1,U,U,f1,U,_,U,_,U,p1,_,_,.int x1,U,U,f1,U,sz2,λd hd=>?_];have sd:=zD hd (.tup [.int (-y1),.int x1]);erw[_,U,_,U,sz2,λt ht=>?_];have st:=zD ht (.tup [.ref p1,.ref d]);have sp:=Ue n1;rwa[q t p1 d x1 y1 (-y1) x1 _ (sH.trans (sd.trans st)) zA (st _ _ (sd _ _ e1)) (st _ _ zA) (by rw[Gv]; lia) k1 k2 (by rw[GV]; exact k2) k1]
  ·erw[_,U,_,U,sz2,λt ht=>?_];have st:=zD ht (.tup [.ref p1,.ref O]);rwa[q t p1 O x1 y1 X Y _ (sH.trans st) zA (st _ _ e1) (st _ _ e2) (by clear k1 k2 k3 k4 b1 b2 w1 w2 wb hl; lia) k1 k2 k3 k4]
structure Mn(H0 G:Hp)(p1 p2:b9)(us:List V):Prop where
 mk ::
 same:Same H0 G
 t1:Tin G p1
 t2:Tin G p2
 all:∀ v∈us,∃ u p q:b9,v=.ref u/\G u=Io (.tup [.ref p,.ref q])/\Tin G p/\Tin G q
def Mn.new{H0 G:Hp}{p1 p2 t:b9}{us:List V}{o:HO}(M:Mn H0 G p1 p2 us)(n:G t=Ip):Mn H0 (upd G t o) p1 p2 us :=
 have s:=zD n o
 ⟨M.same.trans s,M.t1.to s,M.t2.to s,λv hv=>let ⟨u,p,q,e,h,a,b⟩:=M.all v hv;⟨u,p,q,e,s _ _ h,a.to s,b.to s⟩⟩
def Mn.add{H0 G:Hp}{p1 p2 t a b:b9}{us:List V}(M:Mn H0 G p1 p2 us)(n:G t=Ip)(ha:Tin G a)(hb:Tin G b):Mn H0 (upd G t (.tup [.ref a,.ref b])) p1 p2 (us++[.ref t]) :=
 have s:=zD n (.tup [.ref a,.ref b]);have m:=M.new (o:=.tup [.ref a,.ref b]) n
 ⟨m.same,m.t1,m.t2,λv hv=>(m7.mp hv).elim (m.all v) λz=>⟨t,a,b,d8.mp z,zA,ha.to s,hb.to s⟩⟩
def rY(_:b7):Sp:=λvs H Q _=>∃(a d R:b9)(rows:List Int)(ns:List g8)(S:BS),vs=[.ref a,.ref d,.ref R]/\H a=Io (.lst (rows.map V.int))/\10<=rows.length/\(∀ v∈rows,0<=v/\v<1000003)/\ZM H d S/\gG S/\H R=Io (.lst (ns.map V.str))/\1<=ns.length/\(∀ n∈ns,wM n) /\
 ∀(v:V)(m:Int)(n:g8)(a b c d:Int)(H':Hp),Sam H H'->Rep H' (Deed.bearing m n a b c d).dt v->ph (.bearing m n a b c d)->Q v H'
def ub(F:Fun K "_law_bearing_deed" "_law_bearing_deed" wU f fd)(Z:Zs mg)(CB:Cb P w mg base)(yBb:Has P w K mg base "_law_left_pair" 2 ["_law_d","_law_wide"] (xc K))(yBz:Has P w K mg base "_law_pick" 2 ["_law_raw","_law_names_here"] (nP K)):yX P w K mg base CX0 3 f fd ["_law_d","_law_m","_law_names_here"] (rY K):=by
 specialize zZ
 ·obtain⟨a,d,R,rows,ns,S,rfl,_⟩:=h;rfl
 obtain⟨a,d,R,rows,ns,S,rfl,ha,l10,bd,⟨m,b,r,n,lw⟩,wl,eR,l1,okn,q⟩:=h;obtain⟨v1,a1,z1⟩:=xO bd (k:=1) (by decide) (by lia);obtain⟨v2,a2,z2⟩:=xO bd (k:=2) (by decide) (by lia);obtain⟨v3,a3,z3⟩:=xO bd (k:=3) (by decide) (by lia);obtain⟨v8,a8,z8⟩:=xO bd (k:=8) (by decide) (by lia);obtain⟨v9,a9,z9⟩:=xO bd (k:=9) (by decide) (by lia);have few:=wl.good.few;have sq:∀{H':Hp},H' a=Io (.lst (rows.map V.int))->Sq K H' a (rows.map V.int):=λh=>.inl (SqL.of h);obtain⟨ys,er,rr⟩:=lw.ru;have ly:ys.length=S.runs.length:=by rw[rr.length,a7]
 have fr:=few.ru;obtain⟨mk,hmk,kv⟩:=lw.ma;have lrm:(mk.map λkv=>kV kv.1)=(S.marks.map (·.1)).map V.str:=kY kv;have lmk:mk.length=S.marks.length:=by rw[kv.length,yd]
 refine'⟨_,(zC (yD 3 zZ.nd (wH mJ ?_ (wH xa (zR yU rfl Z.len uF (zB (zO (zU hr) (pv 1) zK (λ_ _=>rfl)) zI)) yL)))
   (zC (zX ?_ (zG (yD 3 zZ.nd (gX iF (vB (zB ?_ (zB (wH xa (zR yU rfl Z.len uF (zB (zO (zU hr) (pv 1) zK (λ_ _=>rfl)) zI)) yL) (zB ?_ zI)))) ?_ (λ_ _=>rfl)))) zN)
   (zC (yD 4 zZ.nd ?_)
   (zC (zX (PW.pt (mU ?_ (uc (yH (WF hr.units0) (zO (zU hr) (pv 1) zK (λ_ _=>rfl)) rG (yS _))))) (zG (yD 4 zZ.nd (gX iF (zR jH rfl Z.sorted tE (zB (xC (rf rfl) rfl Z.list qT (zB (zO (zU hr) (pv 1) zK (λ_ _=>rfl)) zI)) zI)) (wH mJ ?_ (zR tF rfl Z.len uF (zB (zO (zU hr) (pv 1) zK (λ_ _=>rfl)) zI))) (λ_ _=>rfl)))) zN)
   (zC (oV ?_ (yl rfl (yI (qL 5 zZ.nd) (yI (qL 6 zZ.nd) tJ))))
   (zC (yD 7 zZ.nd ?_)
   (zC (zX ?_ (zC (yD 8 zZ.nd ?_)
   (zG (oV ?_ (yl rfl (yI (qL 5 zZ.nd) (yI (qL 6 zZ.nd) tJ)))))) zN)
   (zG (zM ?_))))))))),?_⟩
 nofun
 apply cutIH (ok:=λmo G=>Same H G/\zf mo)
 ·intro rest;exists _,U,a,_,_,_,U,U,sq ha,a1,_,U,d,.ref r,U,.inl ⟨_,.inr "runs",lw.at_,U,uZ.symm⟩,r,ys,U,.inl (SqL.of er),_,_,U,U,_,_,U,U,(by show(0:Int)<(ys.length:Int)+1; lia);have e0:=w5 v1 (show(ys.length:Int)+1≠0 by lia);have e1:=o7 v1 (show(0:Int)<(ys.length:Int)+1 by lia);have t0:zf (v1%((ys.length:Int)+1)):=wA (by lia);generalize v1%((ys.length:Int)+1)=mo at t0 ⊢;exists _,U,a,_,_,_,U,U,sq ha,a2,_,_,U,U,(by show(0:Int)<17; decide),rfl,_,rfl;erw[ifE (λz=>?_) (λz=>?_)];rotate_left
  ·rwa[rest mo H ⟨Same.refl _,t0⟩]
  ·erw[_,U,_,U,d,.ref r,U,.inl ⟨_,.inr "runs",lw.at_,U,uZ.symm⟩,r,ys,U,.inl (SqL.of er),_,_,U,U,_,_,U,U,(by unfold Su; decide),sz3,λp hp=>?_];have sp:=zD hp (.lst [.int (-1),.int ((ys.length:Int)+1),.int (10^20)]);obtain⟨v,hv,e⟩:=ni (vs:=[.int (-1),.int ((ys.length:Int)+1),.int (10^20)]) (x:=v1) (n:=3) (by decide) rfl;exists _,U,a,_,_,_,U,U,sq (sp _ _ ha),a1,_,_,U,U,gt3,p,_,_,v,U,U,.inl (SqL.of zA),e;simp only[i7,Ai,or_false] at hv;rcases hv with rfl | rfl | rfl
   ·rwa[rest (-1) _ ⟨sp,wA (by decide)⟩]
   ·rwa[rest ((ys.length:Int)+1) _ ⟨sp,wA (by lia)⟩]
   ·rwa[rest (10^20) _ ⟨sp,wA (by decide)⟩]
 intro mo H1 ⟨s1,t1⟩;apply cutSH (ok:=λnm G=>Sam H G/\oN nm)
 ·intro rest;erw[_,U,a,_,_,_,U,U,sq (s1 _ _ ha),a3,_,U,v3,R,ns,U,z3.1,z3.2,s1 _ _ eR,l1,okn,λnm H2 an s2=>?_];have s12:=s1.trans s2;have ha2:=s12 _ _ ha;have lw2:=lw.to (.of s12);exists _,U,a,_,_,_,U,U,sq ha2,a3,_,_,U,U,gt5,_,_,U,U,_,rfl;erw[ifD (λz=>?_) (λz=>?_)];rotate_left
  ·rwa[yR (rest nm H2 ⟨.of s12,an⟩)]
  ·have hmk2:=(Rd.same hmk s12:Rd H2 m (.dK mk));erw[_,U,d,.ref m,U,.inl ⟨_,.inr "marks",lw2.at_,U,yT.symm⟩,λp hp=>?_];have sp:=zD hp (.dK []);exists m,p,mk,U,U,Rd.same hmk2 sp,zA,_,rfl;have s13:=s12.trans sp;generalize upd H2 p (.dK [])=G1 at s13 ⊢;cases hem:mk.isEmpty with
   | true=>rwa[yR (rest nm _ ⟨.of s13,an⟩)]
   | false =>
   have lm1:1<=S.marks.length:=by cases mk with | nil=>cases hem | cons _ _=>rw[<- lmk]; rwa[Nat.le_add_left _ _]
   erw[xV ?_];have lw3:=lw.to (.of s13);erw[_,U,d,.ref m,U,.inl ⟨_,.inr "marks",lw3.at_,U,yT.symm⟩,m,mk,U,Rd.same hmk s13,λp1 hp1=>?_];rw[lrm];have s4:=zD hp1 (.lst ((S.marks.map (·.1)).map V.str));refine⟨p1,S.marks.map (·.1),U,SqL.of zA,(by rw[a7]; have:=few.ma; lia),λp2 ms hp2 pm srt=>?_⟩;have s5:=s4.trans (zD hp2 (.lst (ms.map V.str)));have e5:upd (upd G1 p1 (.lst ((S.marks.map (·.1)).map V.str))) p2 (.lst (ms.map V.str)) p2=Io (.lst (ms.map V.str)):=zA;generalize upd (upd G1 p1 (.lst ((S.marks.map (·.1)).map V.str))) p2 (.lst (ms.map V.str))=G2 at s5 e5 ⊢;have s15:=s13.trans s5;have lw5:=lw.to (.of s15);have lms:ms.length=S.marks.length:=by rw[pm.length_eq,a7]
   obtain⟨v,hv,e⟩:=ni (vs:=ms.map V.str) (x:=v3/5) (n:=(mk.length:Int)) (by lia) (by rw[a7,lms,lmk]);obtain⟨nn,hn,rfl⟩:=i4.mp hv;exists _,U,a,_,_,_,U,U,sq (s15 _ _ ha),a3,_,_,U,U,um.of (by decide) (by ac_nf),_,U,d,.ref m,U,.inl ⟨_,.inr "marks",lw5.at_,U,yT.symm⟩,m,mk,U,Rd.same hmk s15,_,_,U,U,(by show(0:Int)<(mk.length:Int); lia),p2,_,_,.str nn,rfl,rfl,.inl (SqL.of e5),e;obtain⟨em,hem',enn⟩:=i4.mp (pm.mem_iff.mp hn);rwa[rest nn _ ⟨.of s15,enn ▸ (wl.names em hem').asc⟩]
 intro nm H3 ⟨s3,an⟩;have ha3:=s3.lst id ha;have ct4:ze (rows.map V.int) (Io ((4:Nat):Int)) Ip=(rows.drop 4).map V.int:=by rw[ui,HT.sIx_nat rows.length 0 4,show min 4 rows.length=4 by lia,show HT.sIx rows.length rows.length Ip=rows.length from rfl,Ab (by rw[p8]; lia)]
 have ct4:ze (rows.map V.int) (Io 4) Ip=(rows.drop 4).map V.int:=ct4;have fin:∀(p1 p2:b9)(G:Hp),Same H3 G->Tin G p1->Tin G p2->∀ w,G w=Ip->Q (.ref w) (upd G w (.tup [.str "bearing",.int mo,.str nm,.ref p1,.ref p2])):=by
  intro p1 p2 G s4 ⟨x1,y1,e1,tx1,ty1⟩ ⟨x2,y2,e2,tx2,ty2⟩ w hw;have sw:=zD hw (.tup [.str "bearing",.int mo,.str nm,.ref p1,.ref p2]);rwa[q (.ref w) mo nm x1 y1 x2 y2 _ (s3.trans (.of (s4.trans sw))) (fQ zA (sw _ _ e1) (sw _ _ e2)) ⟨t1,an,tx1,ty1,tx2,ty2⟩]
 refine⟨_,U,_,U,a,_,U,SqL.of ha3,λc hc=>?_⟩;have sc:=zD hc (.lst (ze (rows.map V.int) (Io 4) Ip));refine⟨sz2,λe he=>?_⟩;have se:=zD he (.lst [.int 3,.int 100]);have sce:=sc.trans se;obtain⟨v,hv,e3⟩:=ni (vs:=[.int 3,.int 100]) (x:=v8) (n:=2) (by decide) rfl;obtain⟨wd,rfl,w1,w2⟩:∃ wd:Int,v=.int wd/\1<=wd/\wd<=100:=by
  simp only[i7,Ai,or_false] at hv;rcases hv with rfl | rfl
  ·rwa[3,U,by decide,by decide]
  ·rwa[100,U,by decide,by decide]
 exists _,U,a,_,_,_,U,U,sq (sce _ _ ha3),a8,_,_,U,U,gt2,e,_,_,_,U,U,.inl (SqL.of zA),e3;erw[c,rows.drop 4,wd,U,SqL.of (by rw[se _ _ zA,ct4]),(by rw[p8]; lia),(λv hv=>bd v (AY hv)),w1,w2,λt2 p1 p2 A0 A1 B0 B1 H4 s4 et2 e1 e2 tn n1 n2 n3 n4=>?_];have s34:=sce.trans s4;have ti1:Tin H4 p1:=⟨A0,A1,e1,wA (by lia),wA (by lia)⟩;have ti2:Tin H4 p2:=⟨B0,B1,e2,wA (by lia),wA (by lia)⟩;clear n1 n2 n3 n4 tn e1 e2 sce se sc;exists t2,_,U,SqT.of et2,U,.ref p1,_,U,.ref p2,_,U,rfl;exists _,U,a,_,_,_,U,U,sq (s34 _ _ ha3),a9,_,_,U,U,(by show(0:Int)<40; decide);have y0:0<=v9%40:=by lia
 generalize v9%40=W at y0 ⊢;exists _,U,_,_,U,U,_,rfl;erw[ifD (λz=>?_) (λz=>?_)];rotate_left
 ·exact⟨_,U,_,U,_,U,_,U,(by show 5<=sizeLine; decide),fin p1 p2 H4 s34 ti1 ti2⟩
 ·have M:Mn H3 H4 p1 p2 []:=⟨s34,ti1,ti2,λv hv=>nomatch hv⟩;erw[_,U,_,U,sz2,λu1 hu1=>?_]
  replace M:=M.add hu1 M.t2 M.t1
  erw[sz2,λi2 hi2=>⟨_,U,sz2,λu2 hu2=>?_⟩]
  replace M:=(M.new hi2).add hu2 (Tin.new (by decide) (by decide)) (M.new hi2).t2
  erw[_,U,sz2,λi3 hi3=>⟨sz2,λu3 hu3=>?_⟩]
  replace M:=(M.new hi3).add hu3 (M.new hi3).t1 (Tin.new (by decide) (by decide))
  erw[_,U,_,U,sz2,λu4 hu4=>?_]
  replace M:=M.add hu4 M.t1 M.t1
  erw[sz2,λi5 hi5=>⟨_,U,sz2,λu5 hu5=>?_⟩]
  replace M:=(M.new hi5).add hu5 (Tin.new (by decide) (by decide)) (M.new hi5).t2
  erw[_,U,_,U,sz2,λi6 hi6=>⟨sz2,λu6 hu6=>?_⟩]
  replace M:=(M.new hi6).add hu6 (M.new hi6).t1 (Tin.new (by decide) (by decide))
  refine⟨(by show 6<=sizeLine; decide),λL hL=>?_⟩
  replace M:=M.new (o:=.lst [.ref u1,.ref u2,.ref u3,.ref u4,.ref u5,.ref u6]) hL
  obtain⟨v,hv,e⟩:=Tg (vs:=[.ref u1,.ref u2,.ref u3,.ref u4,.ref u5,.ref u6]) y0 (show W<6 by lia);obtain⟨u,p,r',rfl,eu,tp,tr⟩:=M.all v hv;exact⟨_,U,_,U,L,_,_,_,U,U,.inl (SqL.of zA),e,u,_,U,SqT.of eu,U,.ref p,_,U,.ref r',_,U,U,_,U,_,U,_,U,_,U,(by show 5<=sizeLine; decide),fin p r' _ M.same tp tr⟩
def yw(_:b7):Sp:=λvs H Q _=>∃ x:g8,vs=[.str x]/\oN x/\∀(b:Bool)(H':Hp),(b=Iq↔wM x)->Same H H'->Q (.bl b) H'
def jx(F:Fun K "_law_is_name" "_law_is_name" qN f fd)(Z:Zs mg)(CB:Cb P w mg base)  : yX P w K mg base CX0 1 f fd ["_law_name"] (yw K):=by
 specialize jo
 ·obtain⟨x,rfl,_⟩:=h;rfl
 obtain⟨x,rfl,as,q⟩:=h;exists _,(zG (zM (jb (vf wg wg yL (zR yp rfl Z.len uF (zB (pv 0) zI)) yL) (jI (zR (vZ rfl) rfl Z.all qp (zB (vA (T:=["_law_sign"]) (caps:=[]) ⟨U,by ac_nf,by ac_nf,U,t5⟩ rfl (am (pv 0)) (λ_=>(zw (i:=0) (show(["_law_sign"]:List g8).Nodup by ac_nf) rfl (A4 rfl))) (λ_=>xX) (λ_=>(sS Xi (pv 0) zK (by with_unfolding_all rfl)))) zI))))))
 try dsimp only[L2.cxOf]
 have hz:x.length<=sizeLine:=j7 as.2 (by decide);have no:¬ wM x->Q (.bl Ir) H:=λz=>q Ir H (iff_of_false nofun z) (Same.refl _);exists _,U,x,U,hz,_,_,U,U,_,rfl;refine ifD (λh1=>?_) (λh1=>⟨_,rfl,yR (no λz=>h1 (by have:=z.1; lia))⟩);exists _,_,U,U,_,rfl;refine ifD (λh2=>?_) (λh2=>no λz=>h2 (by have:=z.2.1; lia));have asc:x.cps.all (· < 128)=true:=by
  rw[FE];intro c hm;rwa[x3 (as.1 c (C7.mpr hm))]
 refine⟨_,U,x,U,asc,λc D hD=>?_⟩;refine kh (xs:=qc x) (λi σ zs H'=>Same H H'/\H' D=Io (.lst zs)/\(∃ bs:List Bool,zs=bs.map V.bl/\bs.length=i/\(bs.all id=Iq↔∀ c∈x.cps.toList.take i,97<=c/\c<=122))/\i<=x.length/\∃ u0:Option V,σ=[u0])
  ⟨zD hD _,zA,⟨[],rfl,rfl,by simp⟩,t7 _,Ip,rfl⟩ (λi σ zs H' ⟨_,e,_⟩=>⟨t5,e⟩) ?_ ?_
 ·rintro i v σ zs H' hi ⟨sH,eD,⟨bs,rfl,lb,ab⟩,hi8,u0,rfl⟩;unfold qc at hi;rw[e7,j6] at hi;obtain⟨n,gn,rfl⟩:=hi;have hil:i<x.length:=by
   have:=(g9.mp gn).1;rw[Ak] at this;rwa[this]
  have hn:n<128:=as.1 n (j5 gn);exists _,U,_,_,U,rfl;rw[UN n hn];refine⟨eD,zT (by rw[a7]; have:=as.2; lia),sH.putNew hD,zA,⟨bs++[decide (97<=n/\n<=122)],by rw[i8]; rfl,by rw[f8,lb]; rfl,?_⟩,hil,_,rfl⟩;rw[EN,p5,ab,w6,gn];simp only[CD,Ex,D8,id,decide_eq_true_eq,m7,HE,d8];constructor
  ·rintro⟨h1,h2⟩ c (h | rfl)
   ·rwa[h1 c h]
   ·rwa[h2]
  ·rwa[λh=>⟨λc hc=>h c (.inl hc),h n (.inr rfl)⟩]
 ·rintro σ zs H' ⟨sH,eD,⟨bs,rfl,lb,ab⟩,_,u0,rfl⟩;have lc:(qc x).length=x.cps.toList.length:=a7 _;rw[lc,Am] at ab;rwa[D,bs,U,SqL.of eD,q _ _ (ab.trans ⟨λh=>⟨by lia,by lia,h⟩,λh=>h.2.2⟩) sH]
def ux(_:b7):Sp:=λvs H Q _=>∃ x y:Int,vs=[.int x,.int y]/\∀ b:Bool,(b=Iq↔qi (x,y))->Q (.bl b) H
def aa(F:Fun K "_law_near" "_law_near" pJ f fd)(Z:Zs mg)(CB:Cb P w mg base)  : yX P w K mg base CX0 1 f fd ["_law_x","_law_y"] (ux K):=by
 specialize bB
 ·obtain⟨x,y,rfl,_⟩:=h;rfl
 obtain⟨x,y,rfl,q⟩:=h
 refine'⟨_,(zG (zM (jb (vf wg wg ?_ (pv 0) yL) (jI (vf wg wg ?_ (pv 1) yL))))),?_⟩
 nofun
 have no:¬ qi (x,y)->Q (.bl Ir) H:=λz=>q Ir (iff_of_false nofun z);exists _,U,_,U,_,_,U,U,_,rfl;erw[ifD (λh1=>?_) (λh1=>⟨_,rfl,yR (no λz=>h1 z.1)⟩)];exists _,_,U,U,_,rfl;erw[ifD (λh2=>?_) (λh2=>no λz=>h2 z.2.1)];exists _,U,_,U,_,_,U,U,_,rfl;erw[ifD (λh3=>?_) (λh3=>no λz=>h3 z.2.2.1)];rwa[_,_,U,U,q _ (by rw[decide_eq_true_eq]; exact⟨λh4=>⟨h1,h2,h3,h4⟩,λz=>z.2.2.2⟩)]
def VW:Deed->Prop
 | .mark _ _ _=>True
 | .unmark _=>True
 | .move _ _ _=>True
 | _=>False
def jU(φ:Deed->Prop):Sp:=λvs H Q _=>∃(d:b9)(v:V)(S:BS)(D:Deed),vs=[.ref d,v]/\ZM H d S/\Rep H D.dt v/\ph D/\gG S/\φ D/\∀ H',Sam H H'->Q (.str (oq (zS S D))) H'
def VW.cases{D:Deed}(h:VW D):(∃ n x y,D=.mark n x y)\/(∃ n,D=.unmark n)\/∃ n x y,D=.move n x y:=by
 cases D <;> first | exact h.elim | exact .inl ⟨_,_,_,rfl⟩ | exact .inr (.inl ⟨_,rfl⟩) | exact .inr (.inr ⟨_,_,_,rfl⟩)
def sM{b:Bool}{p:Prop}(h:b=Iq↔p)(e:b=Ir):¬ p:=λz=>by rw[h.mpr z] at e; cases e
def gO{S:BS}{nm l1 r1:g8}{x y mo:Int}{pl pr:Int×Int}(gl:zQ S l1=Io pl)(gr:zQ S r1=Io pr):rm (aft S (.move nm x y)) (.range mo l1 r1)↔(if l1=nm then(x,y) else pl)≠(if r1=nm then(x,y) else pr):=by
 constructor
 ·rintro⟨p,u,h1,h2,h3⟩;rw[vY,gl] at h1;rw[vY,gr] at h2;cases h1;cases h2;rwa[h3]
 ·rwa[λh=>⟨_,_,by rw[vY,gl]; rfl,by rw[vY,gr]; rfl,h⟩]
def xb(_:b7):Sp:=jU VW
def mi(F:Fun K "_law_mark_word" "_law_mark_word" tQ f fd)(Z:Zs mg)(CB:Cb P w mg base)(yCb:Has P w K mg base "_law_near" 1 ["_law_x","_law_y"] (ux K))(yBi:Has P w K mg base "_law_is_name" 1 ["_law_name"] (yw K)):yX P w K mg base CX0 2 f fd ["_law_m","_law_deed_here"] (xb K):=by
 specialize vJ
 ·obtain⟨d,v,S,D,rfl,_⟩:=h;rfl
 obtain⟨d,v,S,D,rfl,⟨m,b,r,n,lw⟩,hv,tm,wl,mk,q⟩:=h;have say:∀(o:Option Cl)(H':Hp),zS S D=o->Sam H H'->Q (.str (oq o)) H':=λo H' e s=>e ▸ q _ s;obtain⟨mk',hm,km⟩:=lw.ma;have lmk:mk'.length=S.marks.length:=by rw[km.length,yd]
 refine'⟨_,(zC (yD 2 vJ.nd ?_)
   (zC (zX ?_ (zC (zX ?_ (zG (zM zK)) zN)
   (zC (zX (zh (hJ (zU hr) (pv 2) (zO (zU hr) (pv 0) zK (λ_ _=>rfl))) (by with_unfolding_all rfl)) (zG (zM zK)) zN)
   (zC (zX ?_ (zG (zM zK)) zN)
   (zG (zM (vT (yH kX (zR tF rfl Z.len uF (zB (zO (zU hr) (pv 0) zK (λ_ _=>rfl)) zI)) yL (yS _)) zK zK)))))) zN)
   (zC (zX (zh (sP (zU hr) (pv 2) (zO (zU hr) (pv 0) zK (λ_ _=>rfl))) (by with_unfolding_all rfl)) (zG (zM zK)) zN)
   (zC (zX ?_ (zG (zM (vT (zr (zR (gC rfl) rfl Z.any Wq (zB (vA (T:=["_law_note"]) (caps:=[("_law_name",2)]) ⟨rfl,by ac_nf,by ac_nf,rfl,⟨⟨rfl,rfl,A4 rfl⟩,t5⟩⟩ rfl (kZ (zO (zU hr) (pv 0) zK (λ_ _=>rfl))) (λ_=>(qL 0 (show(["_law_note","_law_name"]:List g8).Nodup by ac_nf))) (λ_=>xX) (λ_=>(sS (Zr (zU hr)) (pv 1) (uV qy (pv 0) (sL yL) sG) (by with_unfolding_all rfl)))) zI))) zK zK))) zN)
   (zC (zX ?_ (zG (zM zK)) zN)
   (zC (qA AC rfl (kZ (zO (zU hr) (pv 0) zK (λ_ _=>rfl))) (qL 3 vJ.nd) (zG (zX (PW.pt (mU ?_ (uc (yH (Zr (zU hr)) (pv 2) (uV qy (pv 3) (sL yL) sG) (by with_unfolding_all rfl))))) (zC (yD 4 vJ.nd ?_)
   (zG (zX (yH (dS hr.units0) (zO (zU hr) (zO (zU hr) (pv 0) zK (λ_ _=>rfl)) (pv 4) (λ_ _=>rfl)) (uV qy (pv 1) (sL yL) sG) (yS _)) (zG (zM zK)) zN))) zN)))
   (zG (zM zK)))))))),?_⟩
 nofun
 rcases mk.cases with ⟨nm,x,y,rfl⟩ | ⟨nm,rfl⟩ | ⟨nm,x,y,rfl⟩
 ·clear mk q;obtain⟨t,rfl,ht⟩:=lZ hv;have tq:Sq K H t [.str "mark",.str nm,.int x,.int y]:=.inr (SqT.of ht);exists _,U,t,_,1,.str nm,U,U,tq,U,_,U,t,_,0,.str "mark",U,U,tq,U,U,_,rfl;erw[xV ?_];erw[_,U,nm,U,tm.1,λbb H1 hb s1=>⟨_,U,?_⟩];cases bb with
  | false=>rwa[xV (say (Io .badName) _ (by simp only[zS,y9 (sM hb rfl)]) (.of s1))]
  | true =>
  have j1:=e9.mpr (hb.mp rfl);erw[yR ?_];have hd1:=Rd.same lw.at_ s1;have tq1:Sq K H1 t [.str "mark",.str nm,.int x,.int y]:=.inr (SqT.of (s1 _ _ ht));exists _,U,_,U,d,.ref m,U,.inl ⟨_,.inr "marks",hd1,U,yT.symm⟩,m,_,U,.inl ⟨mk',.inr nm,Rd.same hm s1,U,U⟩,_,rfl;rw[km.isSome,uB,Av];cases e:(zQ S nm).isSome with
  | true=>rwa[xV (say (Io .taken) _ (by simp only[zS,y7 j1,y9 e]) (.of s1))]
  | false =>
  have j2:¬ (zQ S nm).isSome=true:=by rw[e]; rwa[h9]
  erw[yR ?_];erw[_,U,t,_,2,.int x,U,U,tq1,U,_,U,t,_,3,.int y,U,U,tq1,U,x,y,U,λbb hb2=>⟨_,U,?_⟩];cases bb with
  | false=>rwa[xV (say (Io .badPlace) _ (by simp only[zS,y7 j1,y7 j2,y9 (sM hb2 rfl)]) (.of s1))]
  | true =>
  have j3:=e9.mpr (hb2.mp rfl);erw[yR ?_];exists _,U,d,.ref m,U,.inl ⟨_,.inr "marks",hd1,U,yT.symm⟩,m,mk',U,Rd.same hm s1,_,_,U,U,_,rfl;refine ifD (λz=>say (Io .full) _ (by simp only[zS,y7 j1,y7 j2,y7 j3,y9 (show 20<=S.marks.length by lia)]) (.of s1)) (λz=>say (Ip) _ (by simp only[zS,y7 j1,y7 j2,y7 j3,y7 (show ¬ 20<=S.marks.length by lia)]) (.of s1))
 ·clear mk q;obtain⟨t,rfl,ht⟩:=vq hv;have tq:Sq K H t [.str "unmark",.str nm]:=.inr (SqT.of ht);exists _,U,t,_,1,.str nm,U,U,tq,U,_,U,t,_,0,.str "unmark",U,U,tq,U,U,_,rfl;erw[yR ?_];exists _,U,_,U,d,.ref m,U,.inl ⟨_,.inr "marks",lw.at_,U,yT.symm⟩,m,_,U,.inl ⟨mk',.inr nm,hm,U,U⟩,_,rfl;rw[km.isSome,uB,Av];cases e:(zQ S nm).isSome with
  | false=>exact xV (say (Io .noMark) _ (by simp only[zS,y9 (show zQ S nm=Ip by cases h:zQ S nm <;> simp[h] at e ⊢)]) (.refl _))
  | true =>
  have j1:¬ zQ S nm=none:=λz=>by rw[z] at e; cases e
  erw[yR ?_];exists _,U,t,_,0,.str "unmark",U,U,tq,U,U,_,rfl;erw[xV ?_];obtain⟨nk,hnk,kn⟩:=lw.no;obtain⟨ks,rfl,e1,rk⟩:=vo kn;have lks:ks.length=S.notes.length:=by have:=congrArg Bv e1; rw[a7,a7] at this; rwa[this]
  have few:=wl.good.few;refine⟨_,U,d,.ref n,U,.inl ⟨_,.inr "notes",lw.at_,U,vL.symm⟩,n,_,U,hnk,λo2 H2 fz2=>?_⟩;have s2:Sam H H2:=nu hnk fz2;have rk2:=rk.to s2;refine λcc2 D2 hD2=>kh (λj σ2 zs2 H''=>yY (λx=>x=D2) H2 H''/\H'' D2=Io (.lst zs2)/\(∃ bs:List Bool,zs2=bs.map V.bl/\bs.length=j/\(bs.any id=Ir↔∀ e∈S.notes.take j,rX nm e.2))/\∃ u2:Option V,σ2=[u2,Io (.str nm)])
   ⟨.of (zD hD2 _),zA,⟨[],rfl,rfl,iff_of_true rfl λe he=>(nomatch he)⟩,Ip,rfl⟩ (λj σ2 zs2 H'' hP=>⟨dh hP.1 (λz=>by have:=fz2.1; rw[z,hD2] at this; cases this) fz2.1,hP.2.1⟩) ?_ ?_
  ·rintro j x2 σ2 zs2 H'' gx2 ⟨s3,eD3,⟨bs,rfl,lb,ab⟩,u2,rfl⟩;have gx':(ks.map (·.2))[j]?=Io x2:=by rw[v7] at gx2; rwa[gx2]
   have npD2:∀ b xs,H2 b=Io (.tup xs)->¬ b=D2:=λb xs e z=>by rw[z,hD2] at e; cases e
   obtain⟨dt,gdt,rd⟩:=(rk2.sam s3 npD2).back gx';rw[e7,j6] at gdt;obtain⟨e,ge,rfl⟩:=gdt;have kn':=wl.good.note e (j5 ge);have lj:j<60:=by have:=(g9.mp ge).1; have:=few.no; lia
   have fin:∀(y:Bool)(Hz:Hp),Same H'' Hz->(y=Ir↔rX nm e.2)->Hz D2=Io (.lst (bs.map V.bl))/\(bs.map V.bl).length<sizeLine/\yY (λx=>x=D2) H2 (upd Hz D2 (.lst (bs.map V.bl++[.bl y])))/\upd Hz D2 (.lst (bs.map V.bl++[.bl y])) D2=Io (.lst (bs.map V.bl++[.bl y]))/\(∃ cs:List Bool,bs.map V.bl++[.bl y]=cs.map V.bl/\cs.length=j+1/\(cs.any id=Ir↔∀ e∈S.notes.take (j+1),rX nm e.2)):=by
    intro y Hz sz hy;have ez:=sz _ _ eD3;erw[ez,CJ (by rw[a7]; lia : _<=60) (by decide),(s3.trans (.of sz)).trans (uC ez),zA,bs++[y],by rw[i8]; rfl,by rw[f8,lb]; rfl,?_];rw[List.any_append,Cm,ab,w6,ge,show [y].any id=y from by cases y <;> rfl,hy];rwa[λh e' he'=>(m7.mp he').elim (h.1 e') λz=>by rw[d8.mp z]; exact h.2,λh=>⟨λe' z=>h e' (BJ _ z),h e (o6 _ (.head _))⟩]
   match hE:e.2,kn',rd with
   | .bearing mo k' x1 y1 x2 y2,kn',rd =>
    obtain⟨c,c1,c2,rfl,hc,hc1,hc2⟩:=uD rd;refine⟨_,U,_,U,_,U,c,_,U,SqT.of hc,(λz=>x5 z.1 (by show ¬ HT.sIx 5 0 (Io 2)=0; decide)),λp hp=>?_⟩;have sp:=zD hp (.tup (ze [.str "bearing",.int mo,.str k',.ref c1,.ref c2] (Io 2) Ip));erw[p,[.str k',.ref c1,.ref c2],nm,U,U,SqT.of zA,λv hv=>?_,?_]
    ·rcases i7.mp hv with z | hv
     ·rwa[.inl ⟨k',z⟩]
     rcases i7.mp hv with z | hv
     ·rwa[.inr ⟨c1,_,z,SqT.of (sp _ _ hc1)⟩]
     ·rwa[.inr ⟨c2,_,d8.mp hv,SqT.of (sp _ _ hc2)⟩]
    obtain⟨f1,f2,f3,f4,f5⟩:=fin ([V.str k',.ref c1,.ref c2].any (isS nm)) _ sp (by
     rw[hE];show((k' == nm)||(Ir||(Ir||false)))=Ir↔k'≠nm;rw[Cm,x6];rwa[and_iff_left rfl])
    rwa[f1,f2,f3,f4,f5,_,U]
   | .range mo l1 r1,kn',rd =>
    obtain⟨c,rfl,hc⟩:=rC rd;refine⟨_,U,_,U,_,U,c,_,U,SqT.of hc,(λz=>x5 z.1 (by show ¬ HT.sIx 4 0 (Io 2)=0; decide)),λp hp=>?_⟩;have sp:=zD hp (.tup (ze [.str "range",.int mo,.str l1,.str r1] (Io 2) Ip));erw[p,[.str l1,.str r1],nm,U,U,SqT.of zA,λv hv=>?_,?_]
    ·rcases i7.mp hv with z | hv
     ·rwa[.inl ⟨l1,z⟩]
     ·rwa[.inl ⟨r1,d8.mp hv⟩]
    obtain⟨f1,f2,f3,f4,f5⟩:=fin ([V.str l1,.str r1].any (isS nm)) _ sp (by
     rw[hE];show((l1 == nm)||((r1 == nm)||false))=Ir↔l1≠nm/\r1≠nm;rw[Fl,Cm,x6,x6])
    rwa[f1,f2,f3,f4,f5,_,U]
  ·rintro σ2 zs2 H'' ⟨s3,eD3,⟨bs,rfl,lb,ab⟩,u2,rfl⟩;have lnl:((ks.map λe=>((.inl e.1:Key),e.2)).map (·.2)).length=S.notes.length:=by rw[a7,a7,lks]
   rw[lnl,Am] at ab;have s23:Sam H H'':=yY.over s2 s3 hD2;exists D2,bs,U,SqL.of eD3,_,rfl;cases hb:bs.any id with
   | true=>exact xV (say (Io .needed) _ (by simp only[zS,y7 j1,y7 (show ¬ ∀ e∈S.notes,rX nm e.2 from λz=>by rw[ab.mpr z] at hb; cases hb)]) s23)
   | false=>rwa[yR (say (Ip) _ (by simp only[zS,y7 j1,y9 (ab.mp hb)]) s23)]
 ·clear mk q;obtain⟨t,rfl,ht⟩:=kR hv;have tq:Sq K H t [.str "move",.str nm,.int x,.int y]:=.inr (SqT.of ht);exists _,U,t,_,1,.str nm,U,U,tq,U,_,U,t,_,0,.str "move",U,U,tq,U,U,_,rfl;erw[yR ?_];exists _,U,_,U,d,.ref m,U,.inl ⟨_,.inr "marks",lw.at_,U,yT.symm⟩,m,_,U,.inl ⟨mk',.inr nm,hm,U,U⟩,_,rfl;rw[km.isSome,uB,Av];cases e:(zQ S nm).isSome with
  | false=>exact xV (say (Io .noMark) _ (by simp only[zS,y9 (show zQ S nm=Ip by cases h:zQ S nm <;> simp[h] at e ⊢)]) (.refl _))
  | true =>
  have j1:¬ zQ S nm=none:=λz=>by rw[z] at e; cases e
  erw[yR ?_];exists _,U,t,_,0,.str "move",U,U,tq,U,U,_,rfl;erw[yR ?_];erw[_,U,t,_,2,.int x,U,U,tq,U,_,U,t,_,3,.int y,U,U,tq,U,x,y,U,λbb hb2=>⟨_,U,?_⟩];cases bb with
  | false=>rwa[xV (say (Io .badPlace) _ (by simp only[zS,y7 j1,y9 (sM hb2 rfl)]) (.refl _))]
  | true =>
  have j2:=e9.mpr (hb2.mp rfl);erw[yR ?_];obtain⟨nk,hnk,kn⟩:=lw.no;obtain⟨ks,rfl,e1,rk⟩:=vo kn;have lks:ks.length=S.notes.length:=by have:=congrArg Bv e1; rw[a7,a7] at this; rwa[this]
  refine⟨_,U,d,.ref n,U,.inl ⟨_,.inr "notes",lw.at_,U,vL.symm⟩,n,_,U,hnk,λo2 H2 fz2=>?_⟩;have s2:Sam H H2:=nu hnk fz2;refine Xd (λi σ H'=>Sam H H'/\ff n o2 (ks.map λe=>(.inl e.1,e.2)) H'/\(∀ e∈S.notes.take i,rm (aft S (.move nm x y)) e.2)/\∃ u u':Option V,σ=[Io (.ref d),Io (.ref t),Io (.str nm),u,u'])
   ⟨s2,fz2.1,λe he=>(nomatch he),Ip,Ip,rfl⟩ (λi σ H' h=>h.2.1) ?_ ?_
  ·rintro i x' σ H' gx ⟨s6,fa,ul,u,u',rfl⟩;have gx':(ks.map (·.2))[i]?=Io x':=by rw[v7] at gx; rwa[gx]
   obtain⟨dt,gd,rd⟩:=rk.back gx';rw[e7,j6] at gd;obtain⟨e,ge,rfl⟩:=gd;have ge:S.notes[i]?=Io e:=ge;have mem:=j5 ge;have kn:=wl.good.note e mem;have rd3:=rd.to s6;have snoc:rm (aft S (.move nm x y)) e.2->∀ e'∈S.notes.take (i+1),rm (aft S (.move nm x y)) e'.2:=λh e' he'=>by
    rw[w6,ge] at he';rcases m7.mp he' with z | z
    ·rwa[ul e' z]
    ·rw[d8.mp z]; rwa[h]
   match hE:e.2,kn,rd3 with
   | .bearing mo n x1 y1 x2 y2,kn,rd3 =>
    obtain⟨c,c1,c2,rfl,hc,hc1,hc2⟩:=uD rd3;exists _,U,c,_,0,.str "bearing",U,U,.inr (SqT.of hc),U,U,_,rfl;rwa[yR ⟨s6,fa,snoc (by rw[hE]; trivial),_,_,rfl⟩]
   | .range mo l1 r1,kn,rd3 =>
    obtain⟨c,rfl,hc⟩:=rC rd3;obtain⟨_,_,i1,i2,nlr⟩:=kn;obtain⟨pl,gl⟩:=k9.mp i1;obtain⟨pr,gr⟩:=k9.mp i2;have st:=gO (mo:=mo) (nm:=nm) (x:=x) (y:=y) gl gr;have nlr:pl≠pr:=λz=>nlr (by rw[gl,gr,z]);have cq:Sq K H' c [.str "range",.int mo,.str l1,.str r1]:=.inr (SqT.of hc);exists _,U,c,_,0,.str "range",U,U,cq,U,U,_,rfl;erw[xV ?_];refine⟨_,U,_,U,_,U,c,_,U,SqT.of hc,(λz=>x5 z.1 (by show ¬ HT.sIx 4 0 (Io 2)=0; decide)),λp hp=>?_⟩;have sp:=zD hp (.tup (ze [.str "range",.int mo,.str l1,.str r1] (Io 2) Ip));have hc7:=sp _ _ hc;have cq7:Sq K (upd H' p (.tup (ze [.str "range",.int mo,.str l1,.str r1] (Io 2) Ip))) c [.str "range",.int mo,.str l1,.str r1]:=.inr (SqT.of hc7);have s7:=s6.trans (.of sp);have fa7:=sp _ _ fa;erw[p,[.str l1,.str r1],nm,U,U,SqT.of zA,λv hv=>?_,_,U,?_]
    ·rcases i7.mp hv with z | hv
     ·rwa[.inl ⟨l1,z⟩]
     ·rwa[.inl ⟨r1,d8.mp hv⟩]
    by_cases z1:l1=nm
    ·subst z1;have z2:¬ r1=l1:=λz=>nlr (by rw[z,gl] at gr; rwa[o9 gr]);rw[y9 rfl,y7 z2] at st;rw[show [V.str l1,.str r1].any (isS l1)=Iq from by show((l1 == l1)||_)=Iq; rw[beq_self_eq_true]; rfl];erw[xV ?_];erw[_,U,c,_,2,.str l1,U,U,cq7,U,_,U,U,_,U,ifSt ?_];exists _,U,c,_,3,.str r1,U,U,cq7,rfl;obtain⟨kvs,pa,hkv,t1,t2⟩:=nO (lw.to s7).ma gr;refine⟨_,U,d,.ref m,U,.inl ⟨_,.inr "marks",(lw.to s7).at_,U,yT.symm⟩,_,U,m,.ref pa,U,.inl ⟨kvs,.inr _,hkv,U,t1.symm⟩,_,U,_,U,t,_,U,SqT.of (s7.tup id ht),(λz=>x5 z.1 (by show ¬ HT.sIx 4 0 (Io 2)=0; decide)),λp2 hp2=>?_⟩;have sp2:=zD hp2 (.tup (ze [.str "move",.str l1,.int x,.int y] (Io 2) Ip));exists pa,p2,[pr.1,pr.2],[x,y],U,U,SqT.of (sp2 _ _ t2),SqT.of zA,_,rfl;erw[ifD (λz=>?_) (λz=>?_)]
     ·exact say (Io .same) _ (by
       have bad:¬ ∀ e∈S.notes,rm (aft S (.move l1 x y)) e.2:=λw=>by
        have w:=w _ mem;rw[hE] at w;exact(λ(z:pr.1=x/\pr.2=y) w=>st.mp w (FO z.1.symm z.2.symm)) (by simpa using z) w
       simp only[zS,y7 j1,y7 j2,y7 bad]) (s7.trans (.of sp2))
     ·exact⟨s7.trans (.of sp2),sp2 _ _ fa7,snoc (by rw[hE]; exact(λ(z:¬ (pr.1=x/\pr.2=y))=>st.mpr λw=>z ⟨congrArg (·.1) w.symm,congrArg (·.2) w.symm⟩) (λw=>z (by simpa using w))),_,_,rfl⟩
    by_cases z2:r1=nm
    ·subst z2;rw[y9 rfl,y7 z1] at st;rw[show [V.str l1,.str r1].any (isS r1)=Iq from by show((l1 == r1)||((r1 == r1)||false))=Iq; rw[beq_self_eq_true,HS,Bool.or_true]];erw[xV ?_];erw[_,U,c,_,2,.str l1,U,U,cq7,U,_,U,U,_,U,Sw z1 ?_];exists _,U,c,_,2,.str l1,U,U,cq7,rfl;obtain⟨kvs,pa,hkv,t1,t2⟩:=nO (lw.to s7).ma gl;refine⟨_,U,d,.ref m,U,.inl ⟨_,.inr "marks",(lw.to s7).at_,U,yT.symm⟩,_,U,m,.ref pa,U,.inl ⟨kvs,.inr _,hkv,U,t1.symm⟩,_,U,_,U,t,_,U,SqT.of (s7.tup id ht),(λz=>x5 z.1 (by show ¬ HT.sIx 4 0 (Io 2)=0; decide)),λp2 hp2=>?_⟩;have sp2:=zD hp2 (.tup (ze [.str "move",.str r1,.int x,.int y] (Io 2) Ip));exists pa,p2,[pl.1,pl.2],[x,y],U,U,SqT.of (sp2 _ _ t2),SqT.of zA,_,rfl;erw[ifD (λz=>?_) (λz=>?_)]
     ·exact say (Io .same) _ (by
       have bad:¬ ∀ e∈S.notes,rm (aft S (.move r1 x y)) e.2:=λw=>by
        have w:=w _ mem;rw[hE] at w;exact(λ(z:pl.1=x/\pl.2=y) w=>st.mp w (FO z.1 z.2)) (by simpa using z) w
       simp only[zS,y7 j1,y7 j2,y7 bad]) (s7.trans (.of sp2))
     ·exact⟨s7.trans (.of sp2),sp2 _ _ fa7,snoc (by rw[hE]; exact(λ(z:¬ (pl.1=x/\pl.2=y))=>st.mpr λw=>z ⟨congrArg (·.1) w,congrArg (·.2) w⟩) (λw=>z (by simpa using w))),_,_,rfl⟩
    ·rw[y7 z1,y7 z2] at st;rw[show [V.str l1,.str r1].any (isS nm)=Ir from by show((l1 == nm)||((r1 == nm)||false))=Ir; rw[x6.mpr z1,x6.mpr z2]; rfl];rwa[yR ⟨s7,fa7,snoc (by rw[hE]; exact st.mpr nlr),_,_,rfl⟩]
  ·rintro σ H' ⟨s6,fa,ul,u,u',rfl⟩;rw[a7,a7,lks,Am] at ul;rwa[say Ip _ (by simp only[zS,y7 j1,y7 j2,y9 ul]) s6]
def Sr:Deed->Prop
 | .sail _ _=>True
 | .right _ _ _=>True
 | _=>False
def Sr.cases{D:Deed}(h:Sr D):(∃ x y,D=.sail x y)\/∃ k x y,D=.right k x y:=by
 cases D <;> first | exact h.elim | exact .inl ⟨_,_,rfl⟩ | exact .inr ⟨_,_,_,rfl⟩
def wc(_:b7):Sp:=jU Sr
def lR(F:Fun K "_law_run_word" "_law_run_word" rB f fd)(Z:Zs mg)(CB:Cb P w mg base)(yCb:Has P w K mg base "_law_near" 1 ["_law_x","_law_y"] (ux K)):yX P w K mg base CX0 2 f fd ["_law_m","_law_deed_here"] (wc K):=by
 specialize ky
 ·obtain⟨d,v,S,D,rfl,_⟩:=h;rfl
 obtain⟨d,v,S,D,rfl,⟨m,b,r,n,lw⟩,hv,tm,wl,mk,q⟩:=h;obtain⟨rs,hrs,kr⟩:=lw.ru;have lrs:rs.length=S.runs.length:=by rw[kr.length,a7]
 refine'⟨_,(zC (zX ?_ (zC (zX ?_ (zG (zM zK)) zN)
   (zG (zM (vT (yH kX (zR yU rfl Z.len uF (zB (zO (zU hr) (pv 0) zK (λ_ _=>rfl)) zI)) yL (yS _)) zK zK)))) zN)
   (zC (zX (zu (kK wg aj yL ?_ (zR yU rfl Z.len uF (zB (zO (zU hr) (pv 0) zK (λ_ _=>rfl)) zI)))) (zG (zM zK)) zN)
   (zG (zM ?_)))),?_⟩
 nofun
 rcases mk.cases with ⟨x,y,rfl⟩ | ⟨k,x,y,rfl⟩
 ·clear mk;have say:∀(o:Option Cl),zS S (.sail x y)=o->Q (.str (oq o)) H:=λo e=>e ▸ q H (.refl _);obtain⟨t,rfl,ht⟩:=kE hv;have tq:Sq K H t [.str "sail",.int x,.int y]:=.inr (SqT.of ht);exists _,U,t,_,0,.str "sail",U,U,tq,U,U,_,rfl;erw[xV ?_];erw[_,U,t,_,1,.int x,U,U,tq,U,_,U,t,_,2,.int y,U,U,tq,U,x,y,U,λbb hb=>⟨_,U,?_⟩];cases bb with
  | false=>rwa[xV (say (Io .badRun) (by simp only[zS,y9 (sM hb rfl)]))]
  | true =>
  have j1:=e9.mpr (hb.mp rfl);erw[yR ?_];exists _,U,d,.ref r,U,.inl ⟨_,.inr "runs",lw.at_,U,uZ.symm⟩,r,_,U,.inl (SqL.of hrs),_,_,U,U,_,rfl;exact ifD (λz=>say (Io .full) (by simp only[zS,y7 j1,y9 (show 12<=S.runs.length by lia)])) (λz=>say Ip (by simp only[zS,y7 j1,y7 (show ¬ 12<=S.runs.length by lia)]))
 ·clear mk;have say:∀(o:Option Cl),zS S (.right k x y)=o->Q (.str (oq o)) H:=λo e=>e ▸ q H (.refl _);obtain⟨t,rfl,ht⟩:=pY hv;have tq:Sq K H t [.str "right",.int k,.int x,.int y]:=.inr (SqT.of ht);exists _,U,t,_,0,.str "right",U,U,tq,U,U,_,rfl;erw[yR ?_];exists _,U,t,_,1,.int k,U,U,tq,U,_,_,U,rfl;exists _,rfl;by_cases k0:0<=k
  ·rw[x3 k0];erw[xV ?_];exists _,U,d,.ref r,U,.inl ⟨_,.inr "runs",lw.at_,U,uZ.symm⟩,r,_,U,.inl (SqL.of hrs),_,_,U,U,_,rfl;refine ifN (λz=>say (Io .noRun) (by simp only[zS,y7 (show ¬ (0<=k/\k<S.runs.length) by lia)])) (λz=>?_);have j1:0<=k/\k<S.runs.length:=by lia
   erw[_,U,t,_,2,.int x,U,U,tq,U,_,U,t,_,3,.int y,U,U,tq,U,x,y,U,λbb hb=>⟨_,U,?_⟩];cases bb with
   | false=>rwa[yR (say (Io .badRun) (by simp only[zS,y9 j1,y7 (sM hb rfl)]))]
   | true=>rwa[xV (say Ip (by simp only[zS,y9 j1,y9 (hb.mp rfl)]))]
  ·rw[x4 k0];exact yR ⟨_,rfl,xV (say (Io .noRun) (by simp only[zS,y7 (show ¬ (0<=k/\k<S.runs.length) by lia)]))⟩
def Vx:Deed->Prop
 | .bearing _ _ _ _ _ _=>True
 | .range _ _ _=>True
 | .strike _=>True
 | _=>False
def Vx.cases{D:Deed}(h:Vx D):(∃ k,D=.strike k)\/(∃ m n a b c d,D=.bearing m n a b c d)\/∃ m l r,D=.range m l r:=by
 cases D <;> first | exact h.elim | exact .inl ⟨_,rfl⟩ | exact .inr (.inl ⟨_,_,_,_,_,_,rfl⟩) | exact .inr (.inr ⟨_,_,_,rfl⟩)
def cutX{A G B:Prop}(h1:(A->B)->G)(h2:A->B):G:=h1 h2
def wz(_:b7):Sp:=jU Vx
def mj(F:Fun K "_law_note_word" "_law_note_word" tX f fd)(Z:Zs mg)(CB:Cb P w mg base)(yBp:Has P w K mg base "_law_turned" 1 ["_law_one","_law_other"] (wm K)):yX P w K mg base CX0 2 f fd ["_law_m","_law_deed_here"] (wz K):=by
 specialize rQ
 ·obtain⟨d,v,S,D,rfl,_⟩:=h;rfl
 obtain⟨d,v,S,D,rfl,⟨m,b,r,n,lw⟩,hv,tm,wl,mk,q⟩:=h;have say:∀(o:Option Cl)(H':Hp),zS S D=o->Sam H H'->Q (.str (oq o)) H':=λo H' e s=>e ▸ q _ s;obtain⟨rs,hrs,kr⟩:=lw.ru;have lrs:rs.length=S.runs.length:=by rw[kr.length,a7]
 obtain⟨mk',hm,km⟩:=lw.ma;obtain⟨nk',hn,kn⟩:=lw.no;have lnk:nk'.length=S.notes.length:=by rw[kn.length]; unfold ntE; rw[a7]
 refine'⟨_,(zC (zX ?_ (zG (zM (vT (zh (hJ (zU hr) ?_ (zO (zU hr) (pv 0) zK (λ_ _=>rfl))) (by with_unfolding_all rfl)) zK zK))) zN)
   (zC (zX (zu (kK wg wg yL ?_ (zR yU rfl Z.len uF (zB (zO (zU hr) (pv 0) zK (λ_ _=>rfl)) zI)))) (zG (zM zK)) zN)
   (zC (zX (PW.pt (cj (zh (sP (zU hr) ?_ (zO (zU hr) (pv 0) zK (λ_ _=>rfl))) (by with_unfolding_all rfl)) (gJ (PW.pt (mU ?_ (uc (zh (sP (zU hr) ?_ (zO (zU hr) (pv 0) zK (λ_ _=>rfl))) (by with_unfolding_all rfl)))))))) (zG (zM zK)) zN)
   (zC (zX (PW.pt (mU ?_ (uc (yH (dS hr.units0) (zO (zU hr) (zO (zU hr) (pv 0) zK (λ_ _=>rfl)) ?_ (λ_ _=>rfl)) (zO (zU hr) (zO (zU hr) (pv 0) zK (λ_ _=>rfl)) ?_ (λ_ _=>rfl)) (yS _))))) (zG (zM zK)) zN)
   (zC (zX ?_ (zC (qA AC rfl (XG (uV qy (pv 1) (sL yL) sG)) (yl rfl (yI (qL 2 rQ.nd) (yI (qL 3 rQ.nd) tJ))) (zG (zX ?_ (zG (zM zK)) zN)))
   (zG (zX ?_ (zG (zM zK)) zN))) zN)
   (zG (zM (vT (yH kX (zR tF rfl Z.len uF (zB (zO (zU hr) (pv 0) zK (λ_ _=>rfl)) zI)) yL (yS _)) zK zK)))))))),?_⟩
 nofun
 rcases mk.cases with ⟨k,rfl⟩ | ⟨mo,nm,x1,y1,x2,y2,rfl⟩ | ⟨mo,l1,r1,rfl⟩
 ·clear mk q;obtain⟨t,rfl,ht⟩:=vb hv;have tq:Sq K H t [.str "strike",.int k]:=.inr (SqT.of ht);exists _,U,t,_,0,.str "strike",U,U,tq,U,U,_,rfl;erw[xV ?_];exists _,U,t,_,1,.int k,U,U,tq,U,_,U,d,.ref n,U,.inl ⟨_,.inr "notes",lw.at_,U,vL.symm⟩,n,_,U,.inl ⟨nk',.inl k,hn,U,U⟩,_,rfl;have bn:=fg (k:=k) kn;cases e:(wS nk' (.inl k)).isSome with
  | true=>exact xV (say Ip _ (by simp only[zS,y9 (show k∈S.notes.map (·.1) from Cu λz=>by rw[bn.mpr z] at e; cases e)]) (.refl _))
  | false=>exact yR (say (Io .noNote) _ (by simp only[zS,y7 (bn.mp (by cases h:wS nk' (.inl k) <;> simp[h] at e ⊢))]) (.refl _))
 ·clear mk q;obtain⟨t,c1,c2,rfl,ht,hc1,hc2⟩:=uD hv;have tq:Sq K H t [.str "bearing",.int mo,.str nm,.ref c1,.ref c2]:=.inr (SqT.of ht);exists _,U,t,_,0,.str "bearing",U,U,tq,U,U,_,rfl;erw[yR ?_];have nom:¬ (0<=mo/\mo<=S.runs.length)->Q (.str (oq (Io .noMoment))) H:=λz=>say _ _ (by simp only[zS,y9 z]) (.refl _);exists _,U,t,_,1,.int mo,U,U,tq,U,_,_,U,U,_,rfl;erw[ifD (λh1=>?_) (λh1=>⟨_,rfl,xV (nom λz=>h1 z.1)⟩)];exists _,U,d,.ref r,U,.inl ⟨_,.inr "runs",lw.at_,U,uZ.symm⟩,r,_,U,.inl (SqL.of hrs),_,_,U,U,_,rfl;erw[ifN (λh2=>nom λz=>h2 (by rw[lrs]; rwa[z.2])) (λh2=>?_)];have j1:=e9.mpr (show 0<=mo/\mo<=S.runs.length from⟨h1,by rw[lrs] at h2; rwa[h2]⟩);exists _,U,t,_,2,.str nm,U,U,tq,U,_,U,d,.ref m,U,.inl ⟨_,.inr "marks",lw.at_,U,yT.symm⟩,m,_,U,.inl ⟨mk',.inr nm,hm,U,U⟩,_,rfl;rw[km.isSome,uB,Av];cases e:(zQ S nm).isSome with
  | false=>exact xV (xV (say (Io .noMark) _ (by simp only[zS,y7 j1,y9 (show zQ S nm=Ip by cases h:zQ S nm <;> simp[h] at e ⊢)]) (.refl _)))
  | true =>
  have j2:¬ zQ S nm=none:=λz=>by rw[z] at e; cases e
  refine yR ?_;exists _,U,t,_,0,.str "bearing",U,U,tq,U,U,_,rfl;refine yR (yR ?_);exists _,U,t,_,0,.str "bearing",U,U,tq,U,U,_,rfl;refine yR (yR ?_);exists _,U,t,_,0,.str "bearing",U,U,tq,U,U,_,rfl;refine xV ?_;refine⟨_,U,_,U,t,_,U,SqT.of ht,(λz=>x5 z.1 (by show ¬ HT.sIx 5 0 (Io 3)=0; decide)),λp hp=>?_⟩;have sp:=zD hp (.tup (ze [.str "bearing",.int mo,.str nm,.ref c1,.ref c2] (Io 3) Ip));have ep:upd H p (.tup (ze [.str "bearing",.int mo,.str nm,.ref c1,.ref c2] (Io 3) Ip)) p=Io (.tup [.ref c1,.ref c2]):=zA;generalize upd H p (.tup (ze [.str "bearing",.int mo,.str nm,.ref c1,.ref c2] (Io 3) Ip))=Hp at sp ep ⊢;exists p,U,⟨_,SqT.of ep⟩;have bad:∀ w∈[(x1,y1),(x2,y2)],¬ ud w->zS S (.bearing mo nm x1 y1 x2 y2)=Io .badWay:=λw hw nw=>by
   rcases i7.mp hw with rfl | hw
   ·simp only[zS,y7 j1,y7 j2,y9 nw]
   ·rw[d8.mp hw] at nw;simp only[zS,y7 j1,y7 j2,y9 nw,ite_self]
  refine aZ (K:=K) (a:=p) (xs:=[.ref c1,.ref c2]) (λi σ H'=>Same Hp H'/\(∀ w∈[(x1,y1),(x2,y2)].take i,ud w)/\∃ u v:Option V,σ=[Io (.ref d),Io (.ref t),u,v])
   ⟨Same.refl _,λw hw=>(nomatch hw),_,_,rfl⟩ (λi σ H' _ h=>SqT.of (h.1 _ _ ep)) ?_ ?_
  ·rintro i v σ H' hi ⟨sH,ow,u1,u2,rfl⟩;obtain⟨c,xx,yy,rfl,hc,gw⟩:∃(c:b9)(xx yy:Int),v=.ref c/\Hp c=Io (.tup [.int xx,.int yy])/\[(x1,y1),(x2,y2)][i]?=Io (xx,yy):=by
    match i,hi with
    | 0,hi=>cases hi; rwa[c1,x1,y1,U,sp _ _ hc1,U]
    | 1,hi=>cases hi; rwa[c2,x2,y2,U,sp _ _ hc2,U]
   have mw:=j5 gw;exists _,_,U,SqT.of (sH _ _ hc),U,_,_,U,_,_,U,rfl;exists _,U,U,_,rfl;have no:¬ ud (xx,yy)->Q (.str (oq (Io .badWay))) H':=λz=>say _ _ (bad _ mw z) (.of (sp.trans sH));refine cutX (A:=xx≠0\/yy≠0) (λmx=>ifE (λhx=>⟨_,rfl,rfl,_,rfl,ifE (λhy=>xV (no λz=>z.1 (by rw[hx,hy]))) (λhy=>mx (.inr hy))⟩) (λhx=>mx (.inl hx))) (λnz=>?_);exists _,U,xx,U,_,U,yy,U,_,_,U,_,_,U,U,_,rfl;have far:¬ (100<if (if yy<0 then -yy else yy)>(if xx<0 then -xx else xx) then(if yy<0 then -yy else yy) else(if xx<0 then -xx else xx))↔(-100<=xx/\xx<=100/\-100<=yy/\yy<=100):=by
    split <;> split <;> split <;> lia
   erw[ifD (λh=>no λz=>far.mpr z.2 h) (λh=>⟨sH,λw hw=>?_,_,_,rfl⟩)];rw[w6,gw] at hw;rcases m7.mp hw with z | z
   ·rwa[ow w z]
   ·rw[d8.mp z];exact⟨λy=>by injection y with y1 y2; exact nz.elim (· y1) (· y2),far.mp h⟩
  ·rintro σ H' ⟨sH,ow,u1,u2,rfl⟩;have w1:ud (x1,y1):=ow _ (.head _);have w2:ud (x2,y2):=ow _ (.tail _ (.head _));have j3:=e9.mpr w1;have j4:=e9.mpr w2;have s0:=sp.trans sH;have tq':Sq K H' t [.str "bearing",.int mo,.str nm,.ref c1,.ref c2]:=.inr (SqT.of (s0 _ _ ht));exists _,U,t,_,3,.ref c1,U,U,tq',U,_,U,t,_,4,.ref c2,U,U,tq',U,c1,c2,[.int x1,.int y1],[.int x2,.int y2],x1,y1,x2,y2,U,.inr (SqT.of (s0 _ _ hc1)),.inr (SqT.of (s0 _ _ hc2)),U,U,U,U,(by have:=w1.2; lia),(by have:=w1.2; lia),_,_,rfl,rfl,_,rfl;erw[ifD (λh5=>say (Io .badTurn) _ (by simp only[zS,y7 j1,y7 j2,y7 j3,y7 j4,y9 h5]) (.of s0)) (λh5=>?_)];exists _,U,d,.ref n,U,.inl ⟨_,.inr "notes",Rd.same lw.at_ s0,U,vL.symm⟩,n,nk',U,Rd.same hn s0,_,_,U,U,_,rfl;exact ifD (λz=>say (Io .full) _ (by simp only[zS,y7 j1,y7 j2,y7 j3,y7 j4,y7 h5,y9 (show 24<=S.notes.length by lia)]) (.of s0)) (λz=>say Ip _ (by simp only[zS,y7 j1,y7 j2,y7 j3,y7 j4,y7 h5,y7 (show ¬ 24<=S.notes.length by lia)]) (.of s0))
 ·clear mk q;obtain⟨t,rfl,ht⟩:=rC hv;have tq:Sq K H t [.str "range",.int mo,.str l1,.str r1]:=.inr (SqT.of ht);exists _,U,t,_,0,.str "range",U,U,tq,U,U,_,rfl;erw[yR ?_];have nom:¬ (0<=mo/\mo<=S.runs.length)->Q (.str (oq (Io .noMoment))) H:=λz=>say _ _ (by simp only[zS,y9 z]) (.refl _);exists _,U,t,_,1,.int mo,U,U,tq,U,_,_,U,U,_,rfl;erw[ifD (λh1=>?_) (λh1=>⟨_,rfl,xV (nom λz=>h1 z.1)⟩)];exists _,U,d,.ref r,U,.inl ⟨_,.inr "runs",lw.at_,U,uZ.symm⟩,r,_,U,.inl (SqL.of hrs),_,_,U,U,_,rfl;erw[ifN (λh2=>nom λz=>h2 (by rw[lrs]; rwa[z.2])) (λh2=>?_)];have j1:=e9.mpr (show 0<=mo/\mo<=S.runs.length from⟨h1,by rw[lrs] at h2; rwa[h2]⟩);exists _,U,t,_,2,.str l1,U,U,tq,U,_,U,d,.ref m,U,.inl ⟨_,.inr "marks",lw.at_,U,yT.symm⟩,m,_,U,.inl ⟨mk',.inr l1,hm,U,U⟩,_,rfl;rw[km.isSome,uB,Av];cases e1:zQ S l1 with
  | none=>rwa[xV (xV (say (Io .noMark) _ (by simp only[zS,y7 j1,y9 e1]) (.refl _)))]
  | some p1 =>
  have j2:¬ zQ S l1=none:=λz=>by rw[z] at e1; cases e1
  erw[yR ?_];exists _,U,t,_,0,.str "range",U,U,tq,U,U,_,rfl;erw[xV ?_];exists _,U,t,_,3,.str r1,U,U,tq,U,_,U,d,.ref m,U,.inl ⟨_,.inr "marks",lw.at_,U,yT.symm⟩,m,_,U,.inl ⟨mk',.inr r1,hm,U,U⟩,_,rfl;rw[km.isSome,uB,Av];cases e2:zQ S r1 with
  | none=>rwa[xV (say (Io .noMark) _ (by simp only[zS,y7 j1,y7 j2,y9 e2]) (.refl _))]
  | some p2 =>
  have j3:¬ zQ S r1=none:=λz=>by rw[z] at e2; cases e2
  refine yR ?_;exists _,U,t,_,0,.str "range",U,U,tq,U,U,_,rfl;refine xV ?_;obtain⟨v1,g1,q1⟩:=km.get (k:=.inr l1) (d:=ptD p1) (by rw[uB,e1]; rfl);obtain⟨v2,g2,q2⟩:=km.get (k:=.inr r1) (d:=ptD p2) (by rw[uB,e2]; rfl);obtain⟨a1,rfl,h1'⟩:=wy q1;obtain⟨a2,rfl,h2'⟩:=wy q2;refine⟨_,U,d,.ref m,U,.inl ⟨_,.inr "marks",lw.at_,U,yT.symm⟩,_,U,t,_,2,.str l1,U,U,tq,U,m,_,U,.inl ⟨mk',.inr l1,hm,U,g1.symm⟩,_,U,d,.ref m,U,.inl ⟨_,.inr "marks",lw.at_,U,yT.symm⟩,_,U,t,_,3,.str r1,U,U,tq,U,m,_,U,.inl ⟨mk',.inr r1,hm,U,g2.symm⟩,
   a1,a2,[p1.1,p1.2],[p2.1,p2.2],rfl,rfl,SqT.of h1',SqT.of h2',_,rfl,?_⟩
  refine ifD (λz=>say (Io .same) _ (by
   have z:p1=p2:=by simp at z; rwa[FO z.1 z.2]
   simp only[zS,y7 j1,y7 j2,y7 j3,y9 (show zQ S l1=zQ S r1 by rw[e1,e2,z])]) (.refl _)) (λz=>?_)
  have j4:¬ zQ S l1=zQ S r1:=by
   rw[e1,e2];rwa[λy=>z (by cases y; rfl)]
  exists _,U,t,_,0,.str "range",U,U,tq,U,U,_,rfl;erw[yR ?_];exists _,U,d,.ref n,U,.inl ⟨_,.inr "notes",lw.at_,U,vL.symm⟩,n,nk',U,hn,_,_,U,U,_,rfl;exact ifD (λz=>say (Io .full) _ (by simp only[zS,y7 j1,y7 j2,y7 j3,y7 j4,y9 (show 24<=S.notes.length by lia)]) (.refl _)) (λz=>say Ip _ (by simp only[zS,y7 j1,y7 j2,y7 j3,y7 j4,y7 (show ¬ 24<=S.notes.length by lia)]) (.refl _))
def lv(_:b7):Sp:=λvs H Q _=>∃(d:b9)(v:V)(S:BS)(D:Deed),vs=[.ref d,v]/\Rep H D.dt v/\ZM H d S/\okD S D/\Few S/\Xr S /\
 ∀(d':b9)(H':Hp),Same H H'->H d'=Ip->LwN H H' d' (aft S D)->Q (.ref d') H'
def cf(F:Fun K "_law_after" "_law_after" vw f fd)(Z:Zs mg)(CB:Cb P w mg base)  : yX P w K mg base CX0 1 f fd ["_law_m","_law_deed_here"] (lv K):=by
 specialize mR
 ·obtain⟨d,v,S,D,rfl,_⟩:=h;rfl
 obtain⟨d,v,S,D,rfl,rep,⟨m,b,r,n,lw⟩,ok,few,fr,q⟩:=h;obtain⟨mk,hm,km⟩:=lw.ma;obtain⟨bk,hb,kb⟩:=lw.ba;obtain⟨rs,hr1,kr⟩:=lw.ru;obtain⟨nk,hn,kn⟩:=lw.no;have lm:mk.length=S.marks.length:=by rw[km.length,yd]
 have ln:nk.length=S.notes.length:=by rw[kn.length,bO]
 have lr:rs.length=S.runs.length:=by rw[kr.length,a7]
 have fm:=few.ma;have fr':=few.ru;have fn:=few.no;have fb:=few.ba;have lb:bk.length=S.banks.length:=by rw[kb.length,lM]
 have dg:∀{H':Hp}{k:g8}{x:V},Same H H'->wS (lwK m b r n S.coming) (.inr k)=Io x->Yj H' d (.str k) (Io x):=λ{H' k x} s e=>.inl ⟨_,.inr k,Rd.same lw.at_ s,rfl,e.symm⟩
 refine'⟨_,(zC (yD 2 mR.nd (fk (wL zK (xC qG rfl Z.dict wt (zB (zO (zU hr) (pv 0) zK (λ_ _=>rfl)) zI)) (wL zK (xC qG rfl Z.dict wt (zB (zO (zU hr) (pv 0) zK (λ_ _=>rfl)) zI)) (wL zK (xC rJ rfl Z.list qT (zB (zO (zU hr) (pv 0) zK (λ_ _=>rfl)) zI)) fX))) rfl rfl (λz=>nomatch z) (by decide)))
   (zC (rS (zU hr) (pv 2) zK (xC qG rfl Z.dict wt (zB (zO (zU hr) (pv 0) zK (λ_ _=>rfl)) zI)) rfl)
   (zC (rS (zU hr) (pv 2) zK (zO (zU hr) (pv 0) zK (λ_ _=>rfl)) rfl)
   (zC (zX (yH qC ?_ ?_ (by with_unfolding_all rfl)) (zG (rS (zU hr) (zO (zU hr) (pv 2) zK (λ_ _=>rfl)) ?_ (uV qy (pv 1) (sL yL) sG) rfl)) (zG (zX ?_ (zG (yC (pM (zO (zU hr) (pv 2) zK (λ_ _=>rfl)) ?_ ⟨rfl,rfl,rfl,rfl⟩))) (zG (zX ?_ (zG (rS (zU hr) (zO (zU hr) (pv 2) zK (λ_ _=>rfl)) ?_ ?_ rfl)) (zG (zX ?_ (zG (yC (pM (zO (zU hr) (pv 2) zK (λ_ _=>rfl)) ?_ ⟨rfl,rfl,rfl,rfl⟩))) (zG (zX ?_ (zG (yC (iV (zO (zU hr) (pv 2) zK (λ_ _=>rfl)) (zB (uV qy (pv 1) (sL yL) sG) zI)))) (zG (zX ?_ (zG (oV (uV qy (pv 1) (sL yL) sG) (XT (zO (zU hr) (pv 2) zK (λ_ _=>rfl)) ?_ dq))) (zG (zX ?_ (zG (yC (pM (zO (zU hr) (pv 2) zK (λ_ _=>rfl)) ?_ ⟨rfl,rfl,rfl,rfl⟩))) (zC (rS (zU hr) (zO (zU hr) (pv 2) zK (λ_ _=>rfl)) (zO (zU hr) (pv 0) zK (λ_ _=>rfl)) (pv 1) rfl)
   (zG (rS (zU hr) (pv 2) zK (wH xa (zO (zU hr) (pv 0) zK (λ_ _=>rfl)) yL) rfl))))))))))))))))
   (zG (zM (pv 2))))))),?_⟩
 nofun
 intro p hp;have s1:=zD hp (.dK []);erw[_,U,d,.ref m,U,dg s1 yT,m,mk,U,Rd.same hm s1,λmc hmc=>?_];have s2:=s1.trans (zD hmc (.dK mk));erw[_,U,d,.ref b,U,dg s2 qU,b,bk,U,Rd.same hb s2,λbc hbc=>?_];have s3:=s2.trans (zD hbc (.dK bk));erw[_,U,d,.ref r,U,dg s3 uZ,r,rs,U,.inl (SqL.of (s3 _ _ hr1)),λrc hrc=>?_];have s4:=s3.trans (zD hrc (.lst rs));have ep1:upd H p (.dK []) p=Io (.dK []):=zA;have npm:p≠mc:=zF ep1 hmc;have ep2:=(zD hmc (.dK mk)) _ _ ep1;have em2:upd (upd H p (.dK [])) mc (.dK mk) mc=Io (.dK mk):=zA;have npb:p≠bc:=zF ep2 hbc;have nmb:mc≠bc:=zF em2 hbc;have ep3:=(zD hbc (.dK bk)) _ _ ep2;have em3:=(zD hbc (.dK bk)) _ _ em2;have eb3:upd (upd (upd H p (.dK [])) mc (.dK mk)) bc (.dK bk) bc=Io (.dK bk):=zA;have npr:p≠rc:=zF ep3 hrc;have nmr:mc≠rc:=zF em3 hrc;have nbr:bc≠rc:=zF eb3 hrc;have ep4:=(zD hrc (.lst rs)) _ _ ep3;have em4:=(zD hrc (.lst rs)) _ _ em3;have eb4:=(zD hrc (.lst rs)) _ _ eb3;have er4:upd (upd (upd (upd H p (.dK [])) mc (.dK mk)) bc (.dK bk)) rc (.lst rs) rc=Io (.lst rs):=zA;generalize upd (upd (upd (upd H p (.dK [])) mc (.dK mk)) bc (.dK bk)) rc (.lst rs)=H4 at s4 ep4 em4 eb4 er4;exists ep4,[(.inr "marks",.ref mc),(.inr "banks",.ref bc),(.inr "runs",.ref rc)],U,(show 3<=15 by decide);rw[aU];have s5:Same H (upd H4 p (.dK [(.inr "marks",.ref mc),(.inr "banks",.ref bc),(.inr "runs",.ref rc)])):=λx o e=>by rw[zH (zF e hp)]; rwa[s4 x o e]
 erw[_,U,d,.ref n,U,dg s5 vL,n,nk,U,Rd.same hn s5,λnc hnc=>?_];have npn:p≠nc:=zF zA hnc;have hnc4:H4 nc=none:=by rw[zH npn.symm] at hnc; rwa[hnc]
 have nmn:mc≠nc:=zF em4 hnc4;have nbn:bc≠nc:=zF eb4 hnc4;have nrn:rc≠nc:=zF er4 hnc4;have s6:=s5.trans (zD hnc (.dK nk));exists _,U,p,_,U,iE.k (k:=.inr "notes") (by rw[zH npn,zA]) (zT (by show 3<=1000; decide));rw[WW];have s7:Same H (upd (upd (upd H4 p (.dK [(.inr "marks",.ref mc),(.inr "banks",.ref bc),(.inr "runs",.ref rc)])) nc (.dK nk)) p (.dK [(.inr "marks",.ref mc),(.inr "banks",.ref bc),(.inr "runs",.ref rc),(.inr "notes",.ref nc)])):=λx o e=>by rw[zH (zF e hp)]; rwa[s6 x o e]
 exists _,U,d,.int S.coming,U,dg s7 xz,_,U,p,_,U,iE.k (k:=.inr "next") zA (zT (by show 4<=1000; decide));rw[WD];have keep:∀ x o,x≠p->x≠nc->H4 x=Io o->upd (upd (upd (upd H4 p (.dK [(.inr "marks",.ref mc),(.inr "banks",.ref bc),(.inr "runs",.ref rc)])) nc (.dK nk)) p (.dK [(.inr "marks",.ref mc),(.inr "banks",.ref bc),(.inr "runs",.ref rc),(.inr "notes",.ref nc)])) p (.dK [(.inr "marks",.ref mc),(.inr "banks",.ref bc),(.inr "runs",.ref rc),(.inr "notes",.ref nc),(.inr "next",.int S.coming)]) x=Io o:=λx o h1 h2 e=>by
  rw[zH h1,zH h1,zH h2,zH h1]; rwa[e]
 have em:=keep _ _ npm.symm nmn em4;have eb:=keep _ _ npb.symm nbn eb4;have er:=keep _ _ npr.symm nrn er4;have s8:Same H _:=λx o e=>keep x o (zF e hp) (zF (s5 _ _ e) hnc) (s4 _ _ e);have en:upd (upd (upd (upd H4 p (.dK [(.inr "marks",.ref mc),(.inr "banks",.ref bc),(.inr "runs",.ref rc)])) nc (.dK nk)) p (.dK [(.inr "marks",.ref mc),(.inr "banks",.ref bc),(.inr "runs",.ref rc),(.inr "notes",.ref nc)])) p (.dK [(.inr "marks",.ref mc),(.inr "banks",.ref bc),(.inr "runs",.ref rc),(.inr "notes",.ref nc),(.inr "next",.int S.coming)]) nc=Io (.dK nk):=by rw[zH npn.symm,zH npn.symm,zA]
 have ep:upd (upd (upd (upd H4 p (.dK [(.inr "marks",.ref mc),(.inr "banks",.ref bc),(.inr "runs",.ref rc)])) nc (.dK nk)) p (.dK [(.inr "marks",.ref mc),(.inr "banks",.ref bc),(.inr "runs",.ref rc),(.inr "notes",.ref nc)])) p (.dK [(.inr "marks",.ref mc),(.inr "banks",.ref bc),(.inr "runs",.ref rc),(.inr "notes",.ref nc),(.inr "next",.int S.coming)]) p=Io (.dK [(.inr "marks",.ref mc),(.inr "banks",.ref bc),(.inr "runs",.ref rc),(.inr "notes",.ref nc),(.inr "next",.int S.coming)]):=zA;clear keep s7 s6;generalize upd (upd (upd (upd H4 p (.dK [(.inr "marks",.ref mc),(.inr "banks",.ref bc),(.inr "runs",.ref rc)])) nc (.dK nk)) p (.dK [(.inr "marks",.ref mc),(.inr "banks",.ref bc),(.inr "runs",.ref rc),(.inr "notes",.ref nc)])) p (.dK [(.inr "marks",.ref mc),(.inr "banks",.ref bc),(.inr "runs",.ref rc),(.inr "notes",.ref nc),(.inr "next",.int S.coming)])=H8 at s8 ep em eb er en ⊢;have ep:H8 p=Io (.dK (lwK mc bc rc nc S.coming)):=ep;have km8:=km.to (.of s8);have kb8:=kb.to (.of s8);have kr8:=kr.to (.of s8);have kn8:=kn.to (.of s8);have rep8:=rep.to (.of s8);have nmH:H mc=none:=s1.free hmc;have nrH:H rc=none:=s3.free hrc;have nbH:H bc=none:=s2.free hbc;have nnH:H nc=none:=s5.free hnc;obtain⟨t,xs,rfl,ht⟩:=fC rep8;erw[_,U,t,_,0,.str (oU D),U,U,.inr (SqT.of ht),wZ (xs:=.str (oU D)::xs) (j:=0) rfl,sz2,λz hz=>?_];have sz:=zD hz (.tup [.str "mark",.str "move"]);exists z,_,U,.inr (SqT.of zA),U,U,_,rfl;have s9:=s8.trans sz;have ep9:=sz _ _ ep;have em9:=sz _ _ em;have eb9:=sz _ _ eb;have er9:=sz _ _ er;have en9:=sz _ _ en;have km9:=km8.to (.of sz);have kb9:=kb8.to (.of sz);have kr9:=kr8.to (.of sz);have kn9:=kn8.to (.of sz);have rep9:=rep8.to (.of sz);generalize upd H8 z (.tup [.str "mark",.str "move"])=H9 at s9 ep9 em9 eb9 er9 en9 km9 kb9 kr9 kn9 rep9 ⊢
 match D,rep9,ok,q with
 | .mark nm x y,rep9,ok,q =>
  obtain⟨_,e0,ht9⟩:=lZ rep9;cases e0;have tq:Sq K H9 t _:=.inr (SqT.of ht9);erw[xV ?_];refine⟨_,U,_,U,t,_,U,SqT.of ht9,(λz=>x5 z.1 (by show ¬ HT.sIx 4 0 (Io 2)=0; decide)),λc hc=>?_⟩;have sc:=zD hc (.tup [.int x,.int y]);have em10:=sc _ _ em9;exists _,U,p,.ref mc,U,.inl ⟨_,.inr "marks",.inl (sc _ _ ep9),U,yT.symm⟩,_,U,t,_,1,.str nm,U,U,.inr (SqT.of (sc _ _ ht9)),U,mc,_,U,iE.k (k:=.inr nm) em10 (zT (by lia)),_,rfl;have sE:=uC (o:=.dK (rO mk (.inr nm) (.ref c))) em10;have np:=md em10;erw[q p _ (λx o e=>by rw[zH (zF e nmH)]; rwa[sc _ _ (s9 _ _ e)]) hp ⟨mc,bc,rc,nc,nrH,.inl ?_,⟨_,.inl zA,?_⟩,⟨bk,.inl ?_,(kb9.to (.of sc)).sam sE np⟩,⟨rs,?_,(kr9.to (.of sc)).sam sE np⟩,⟨nk,.inl ?_,(kn9.to (.of sc)).sam sE np⟩⟩]
  ·rw[zH npm]; rwa[sc _ _ ep9]
  ·have:=((km9.to (.of sc)).put (k:=.inr nm) (tD (p:=(x,y)) zA)).sam sE np;rw[rE (eG ok.2.1)] at this;show xU _ _ (mkE (S.marks++[(nm,x,y)]));rw[al];rwa[this]
  ·rw[zH nmb.symm]; rwa[sc _ _ eb9]
  ·rw[zH nmr.symm]; rwa[sc _ _ er9]
  ·rw[zH nmn.symm]; rwa[sc _ _ en9]
 | .move nm x y,rep9,ok,q =>
  obtain⟨_,e0,ht9⟩:=kR rep9;cases e0;have tq:Sq K H9 t _:=.inr (SqT.of ht9);erw[xV ?_];refine⟨_,U,_,U,t,_,U,SqT.of ht9,(λz=>x5 z.1 (by show ¬ HT.sIx 4 0 (Io 2)=0; decide)),λc hc=>?_⟩;have sc:=zD hc (.tup [.int x,.int y]);have em10:=sc _ _ em9;exists _,U,p,.ref mc,U,.inl ⟨_,.inr "marks",.inl (sc _ _ ep9),U,yT.symm⟩,_,U,t,_,1,.str nm,U,U,.inr (SqT.of (sc _ _ ht9)),U,mc,_,U,iE.k (k:=.inr nm) em10 (zT (by lia)),_,rfl;have sE:=uC (o:=.dK (rO mk (.inr nm) (.ref c))) em10;have np:=md em10;erw[q p _ (λx o e=>by rw[zH (zF e nmH)]; rwa[sc _ _ (s9 _ _ e)]) hp ⟨mc,bc,rc,nc,nrH,.inl ?_,⟨_,.inl zA,?_⟩,⟨bk,.inl ?_,(kb9.to (.of sc)).sam sE np⟩,⟨rs,?_,(kr9.to (.of sc)).sam sE np⟩,⟨nk,.inl ?_,(kn9.to (.of sc)).sam sE np⟩⟩]
  ·rw[zH npm]; rwa[sc _ _ ep9]
  ·have:=((km9.to (.of sc)).put (k:=.inr nm) (tD (p:=(x,y)) zA)).sam sE np;rw[Zg ok.1] at this;rwa[this]
  ·rw[zH nmb.symm]; rwa[sc _ _ eb9]
  ·rw[zH nmr.symm]; rwa[sc _ _ er9]
  ·rw[zH nmn.symm]; rwa[sc _ _ en9]
 | .unmark nm,rep9,ok,q =>
  obtain⟨_,e0,ht9⟩:=vq rep9;cases e0;have tq:Sq K H9 t _:=.inr (SqT.of ht9);erw[yR ?_];exists _,U,t,_,0,.str "unmark",U,U,tq,U,U,_,rfl;erw[xV ?_];obtain⟨pm,epm⟩:=k9.mp ok.1;obtain⟨v,ev,_⟩:=km9.get (k:=.inr nm) (d:=ptD pm) (by rw[uB,epm]; rfl);exists _,U,p,.ref mc,U,.inl ⟨_,.inr "marks",.inl ep9,U,yT.symm⟩,mc,U,.inl ⟨mk,.inl em9⟩,_,U,t,_,1,.str nm,U,U,tq,U,mk,.inr nm,v,em9,U,ev,_,rfl;have sE:=uC (o:=.dK (pe mk (.inr nm))) em9;have np:=md em9;erw[q p _ (λx o e=>by rw[zH (zF e nmH)]; rwa[s9 _ _ e]) hp ⟨mc,bc,rc,nc,nrH,.inl ?_,⟨_,.inl zA,?_⟩,⟨bk,.inl ?_,kb9.sam sE np⟩,⟨rs,?_,kr9.sam sE np⟩,⟨nk,.inl ?_,kn9.sam sE np⟩⟩]
  ·rw[zH npm]; rwa[ep9]
  ·have:=(km9.drop (k:=.inr nm)).sam sE np;rw[eJ] at this;rwa[this]
  ·rw[zH nmb.symm]; rwa[eb9]
  ·rw[zH nmr.symm]; rwa[er9]
  ·rw[zH nmn.symm]; rwa[en9]
 | .bank nm cs,rep9,ok,q =>
  obtain⟨_,cc,ps,e0,ht9,hcc,cn,rc0⟩:=nU rep9;cases e0;have tq:Sq K H9 t _:=.inr (SqT.of ht9);erw[yR ?_];exists _,U,t,_,0,.str "bank",U,U,tq,U,U,_,rfl;erw[yR ?_];exists _,U,t,_,0,.str "bank",U,U,tq,U,U,_,rfl;erw[xV ?_];obtain⟨_,_,_,e0,h0,_,_,rc9⟩:=nU rep9;cases e0;rw[ht9] at h0;cases h0;exists _,U,t,_,2,.ref cc,U,U,tq,U,_,U,p,.ref bc,U,.inl ⟨_,.inr "banks",.inl ep9,U,qU.symm⟩,_,U,t,_,1,.str nm,U,U,tq,U,bc,_,U,iE.k (k:=.inr nm) eb9 (zT (by lia)),_,rfl;have sE:=uC (o:=.dK (rO bk (.inr nm) (.ref cc))) eb9;have np:=md eb9;erw[q p _ (λx o e=>by rw[zH (zF e nbH)]; rwa[s9 _ _ e]) hp ⟨mc,bc,rc,nc,nrH,.inl ?_,⟨mk,.inl ?_,km9.sam sE np⟩,⟨_,.inl zA,?_⟩,⟨rs,?_,kr9.sam sE np⟩,⟨nk,.inl ?_,kn9.sam sE np⟩⟩]
  ·rw[zH npb]; rwa[ep9]
  ·rw[zH nmb]; rwa[em9]
  ·have:=(kb9.put (k:=.inr nm) rc9).sam sE np;rw[rE (lL ok.2.1)] at this;show xU _ _ (bkE (S.banks++[(nm,cs)]));rw[Zw];rwa[this]
  ·rw[zH nbr.symm]; rwa[er9]
  ·rw[zH nbn.symm]; rwa[en9]
 | .level nm,rep9,ok,q =>
  obtain⟨_,e0,ht9⟩:=pZ rep9;cases e0;have tq:Sq K H9 t _:=.inr (SqT.of ht9);erw[yR ?_];exists _,U,t,_,0,.str "level",U,U,tq,U,U,_,rfl;erw[yR ?_];exists _,U,t,_,0,.str "level",U,U,tq,U,U,_,rfl;erw[yR ?_];exists _,U,t,_,0,.str "level",U,U,tq,U,U,_,rfl;erw[xV ?_];obtain⟨dv,lk⟩:=Ww (l:=S.banks) ok;obtain⟨v,ev,_⟩:=kb9.get lk;exists _,U,p,.ref bc,U,.inl ⟨_,.inr "banks",.inl ep9,U,qU.symm⟩,bc,U,.inl ⟨bk,.inl eb9⟩,_,U,t,_,1,.str nm,U,U,tq,U,bk,.inr nm,v,eb9,U,ev,_,rfl;have sE:=uC (o:=.dK (pe bk (.inr nm))) eb9;have np:=md eb9;erw[q p _ (λx o e=>by rw[zH (zF e nbH)]; rwa[s9 _ _ e]) hp ⟨mc,bc,rc,nc,nrH,.inl ?_,⟨mk,.inl ?_,km9.sam sE np⟩,⟨_,.inl zA,?_⟩,⟨rs,?_,kr9.sam sE np⟩,⟨nk,.inl ?_,kn9.sam sE np⟩⟩]
  ·rw[zH npb]; rwa[ep9]
  ·rw[zH nmb]; rwa[em9]
  ·have:=(kb9.drop (k:=.inr nm)).sam sE np;rw[ej] at this;rwa[this]
  ·rw[zH nbr.symm]; rwa[er9]
  ·rw[zH nbn.symm]; rwa[en9]
 | .right k x y,rep9,ok,q =>
  obtain⟨_,e0,ht9⟩:=pY rep9;cases e0;have tq:Sq K H9 t _:=.inr (SqT.of ht9);erw[yR ?_];exists _,U,t,_,0,.str "right",U,U,tq,U,U,_,rfl;erw[yR ?_];exists _,U,t,_,0,.str "right",U,U,tq,U,U,_,rfl;erw[yR ?_];exists _,U,t,_,0,.str "right",U,U,tq,U,U,_,rfl;erw[yR ?_];exists _,U,t,_,0,.str "right",U,U,tq,U,U,_,rfl;erw[yR ?_];exists _,U,t,_,0,.str "right",U,U,tq,U,U,_,rfl;erw[xV ?_];refine⟨_,U,_,U,t,_,U,SqT.of ht9,(λz=>x5 z.1 (by show ¬ HT.sIx 4 0 (Io 2)=0; decide)),λc hc=>?_⟩;have sc:=zD hc (.tup [.int x,.int y]);have er10:=sc _ _ er9;obtain⟨i,rfl⟩:=AI ok.1;have hi:i<S.runs.length:=by have:=ok.2.1; lia
  exists _,U,p,.ref rc,U,.inl ⟨_,.inr "runs",.inl (sc _ _ ep9),U,uZ.symm⟩,_,U,t,_,1,.int (i:Int),U,U,.inr (SqT.of (sc _ _ ht9)),U,rc,rs,(i:Int),i,U,U,er10,XR (by rw[lr]; rwa[hi]),_,rfl;have sE:=uC (o:=.lst (rs.set i (.ref c))) er10;have np:=lD er10;erw[q p _ (λx o e=>by rw[zH (zF e nrH)]; rwa[sc _ _ (s9 _ _ e)]) hp ⟨mc,bc,rc,nc,nrH,.inl ?_,⟨mk,.inl ?_,(km9.to (.of sc)).sam sE np⟩,⟨bk,.inl ?_,(kb9.to (.of sc)).sam sE np⟩,⟨_,zA,?_⟩,⟨nk,.inl ?_,(kn9.to (.of sc)).sam sE np⟩⟩]
  ·rw[zH npr]; rwa[sc _ _ ep9]
  ·rw[zH nmr]; rwa[sc _ _ em9]
  ·rw[zH nbr]; rwa[sc _ _ eb9]
  ·show xN _ ((S.runs.set i (x,y)).map ptD) _;rw[List.map_set];exact(xN.set (tD (p:=(x,y)) zA) i (kr9.to (.of sc))).sam sE np
  ·rw[zH nrn.symm]; rwa[sc _ _ en9]
 | .sail x y,rep9,ok,q =>
  obtain⟨_,e0,ht9⟩:=kE rep9;cases e0;have tq:Sq K H9 t _:=.inr (SqT.of ht9);erw[yR ?_];exists _,U,t,_,0,.str "sail",U,U,tq,U,U,_,rfl;erw[yR ?_];exists _,U,t,_,0,.str "sail",U,U,tq,U,U,_,rfl;erw[yR ?_];exists _,U,t,_,0,.str "sail",U,U,tq,U,U,_,rfl;erw[yR ?_];exists _,U,t,_,0,.str "sail",U,U,tq,U,U,_,rfl;erw[xV ?_];refine⟨_,U,p,.ref rc,U,.inl ⟨_,.inr "runs",.inl ep9,U,uZ.symm⟩,.inl ⟨U,_,SqL.of er9⟩,_,U,_,U,t,_,U,SqT.of ht9,(λz=>x5 z.1 (by show ¬ HT.sIx 3 0 (Io 1)=0; decide)),λc hc=>?_⟩;have sc:=zD hc (.tup [.int x,.int y]);have er10:=sc _ _ er9;exists rc,_,.ref c,U,U,er10,zT (by lia),_,rfl;have sE:=uC (o:=.lst (rs++[.ref c])) er10;have np:=lD er10;erw[q p _ (λx o e=>by rw[zH (zF e nrH)]; rwa[sc _ _ (s9 _ _ e)]) hp ⟨mc,bc,rc,nc,nrH,.inl ?_,⟨mk,.inl ?_,(km9.to (.of sc)).sam sE np⟩,⟨bk,.inl ?_,(kb9.to (.of sc)).sam sE np⟩,⟨_,zA,?_⟩,⟨nk,.inl ?_,(kn9.to (.of sc)).sam sE np⟩⟩]
  ·rw[zH npr]; rwa[sc _ _ ep9]
  ·rw[zH nmr]; rwa[sc _ _ em9]
  ·rw[zH nbr]; rwa[sc _ _ eb9]
  ·show xN _ ((S.runs++[(x,y)]).map ptD) _;rw[i8];exact(xN.app (kr9.to (.of sc)) (.one (tD (p:=(x,y)) zA))).sam sE np
  ·rw[zH nrn.symm]; rwa[sc _ _ en9]
 | .bearing mo nm x1 y1 x2 y2,rep9,ok,q =>
  obtain⟨_,_,_,e0,ht9,_⟩:=uD rep9;cases e0;have tq:Sq K H9 t _:=.inr (SqT.of ht9);erw[yR ?_];exists _,U,t,_,0,.str "bearing",U,U,tq,U,U,_,rfl;erw[yR ?_];exists _,U,t,_,0,.str "bearing",U,U,tq,U,U,_,rfl;erw[yR ?_];exists _,U,t,_,0,.str "bearing",U,U,tq,U,U,_,rfl;erw[yR ?_];exists _,U,t,_,0,.str "bearing",U,U,tq,U,U,_,rfl;erw[yR ?_];exists _,U,t,_,0,.str "bearing",U,U,tq,U,U,_,rfl;erw[yR ?_];exists _,U,t,_,0,.str "bearing",U,U,tq,U,U,_,rfl;erw[yR ?_];exists _,U,_,U,p,.ref nc,U,.inl ⟨_,.inr "notes",.inl ep9,U,vL.symm⟩,_,U,d,.int S.coming,U,dg s9 xz,nc,_,U,iE.k (k:=.inl S.coming) en9 (zT (by lia));have sE:=uC (o:=.dK (rO nk (.inl S.coming) (.ref t))) en9;have np:=md en9;have s10:Same H (upd H9 nc (.dK (rO nk (.inl S.coming) (.ref t)))):=λx o e=>by rw[zH (zF e nnH)]; rwa[s9 _ _ e]
  have ep10:upd H9 nc (.dK (rO nk (.inl S.coming) (.ref t))) p=Io (.dK (lwK mc bc rc nc S.coming)):=by rw[zH npn]; rwa[ep9]
  exists _,U,d,.int S.coming,U,dg s10 xz,_,_,U,U,_,U,p,_,U,iE.k (k:=.inr "next") ep10 (zT (by show 5<=1000; decide)),_,rfl;rw[ng];have sE2:=uC (o:=.dK (lwK mc bc rc nc (S.coming+1))) ep10;have np2:=md ep10;erw[q p _ (λx o e=>by rw[zH (zF e hp)]; rwa[s10 _ _ e]) hp ⟨mc,bc,rc,nc,nrH,.inl zA,⟨mk,.inl ?_,(km9.sam sE np).sam sE2 np2⟩,⟨bk,.inl ?_,(kb9.sam sE np).sam sE2 np2⟩,⟨rs,?_,(kr9.sam sE np).sam sE2 np2⟩,⟨rO nk (.inl S.coming) (.ref t),.inl ?_,?_⟩⟩]
  ·rw[zH npm.symm,zH nmn]; rwa[em9]
  ·rw[zH npb.symm,zH nbn]; rwa[eb9]
  ·rw[zH npr.symm,zH nrn]; rwa[er9]
  ·rw[zH npn.symm,zA]
  ·have:=((kn9.put (k:=.inl S.coming) rep9).sam sE np).sam sE2 np2;rw[rE (kx fr)] at this;show xU _ _ (ntE (S.notes++[(S.coming,_)]));rw[fR];rwa[this]
 | .range mo l1 r1,rep9,ok,q =>
  obtain⟨_,e0,ht9⟩:=rC rep9;cases e0;have tq:Sq K H9 t _:=.inr (SqT.of ht9);erw[yR ?_];exists _,U,t,_,0,.str "range",U,U,tq,U,U,_,rfl;erw[yR ?_];exists _,U,t,_,0,.str "range",U,U,tq,U,U,_,rfl;erw[yR ?_];exists _,U,t,_,0,.str "range",U,U,tq,U,U,_,rfl;erw[yR ?_];exists _,U,t,_,0,.str "range",U,U,tq,U,U,_,rfl;erw[yR ?_];exists _,U,t,_,0,.str "range",U,U,tq,U,U,_,rfl;erw[yR ?_];exists _,U,t,_,0,.str "range",U,U,tq,U,U,_,rfl;erw[yR ?_];exists _,U,_,U,p,.ref nc,U,.inl ⟨_,.inr "notes",.inl ep9,U,vL.symm⟩,_,U,d,.int S.coming,U,dg s9 xz,nc,_,U,iE.k (k:=.inl S.coming) en9 (zT (by lia));have sE:=uC (o:=.dK (rO nk (.inl S.coming) (.ref t))) en9;have np:=md en9;have s10:Same H (upd H9 nc (.dK (rO nk (.inl S.coming) (.ref t)))):=λx o e=>by rw[zH (zF e nnH)]; rwa[s9 _ _ e]
  have ep10:upd H9 nc (.dK (rO nk (.inl S.coming) (.ref t))) p=Io (.dK (lwK mc bc rc nc S.coming)):=by rw[zH npn]; rwa[ep9]
  exists _,U,d,.int S.coming,U,dg s10 xz,_,_,U,U,_,U,p,_,U,iE.k (k:=.inr "next") ep10 (zT (by show 5<=1000; decide)),_,rfl;rw[ng];have sE2:=uC (o:=.dK (lwK mc bc rc nc (S.coming+1))) ep10;have np2:=md ep10;erw[q p _ (λx o e=>by rw[zH (zF e hp)]; rwa[s10 _ _ e]) hp ⟨mc,bc,rc,nc,nrH,.inl zA,⟨mk,.inl ?_,(km9.sam sE np).sam sE2 np2⟩,⟨bk,.inl ?_,(kb9.sam sE np).sam sE2 np2⟩,⟨rs,?_,(kr9.sam sE np).sam sE2 np2⟩,⟨rO nk (.inl S.coming) (.ref t),.inl ?_,?_⟩⟩]
  ·rw[zH npm.symm,zH nmn]; rwa[em9]
  ·rw[zH npb.symm,zH nbn]; rwa[eb9]
  ·rw[zH npr.symm,zH nrn]; rwa[er9]
  ·rw[zH npn.symm,zA]
  ·have:=((kn9.put (k:=.inl S.coming) rep9).sam sE np).sam sE2 np2;rw[rE (kx fr)] at this;show xU _ _ (ntE (S.notes++[(S.coming,_)]));rw[fR];rwa[this]
 | .strike k,rep9,ok,q =>
  obtain⟨_,e0,ht9⟩:=vb rep9;cases e0;have tq:Sq K H9 t _:=.inr (SqT.of ht9);erw[yR ?_];exists _,U,t,_,0,.str "strike",U,U,tq,U,U,_,rfl;erw[yR ?_];exists _,U,t,_,0,.str "strike",U,U,tq,U,U,_,rfl;erw[yR ?_];exists _,U,t,_,0,.str "strike",U,U,tq,U,U,_,rfl;erw[yR ?_];exists _,U,t,_,0,.str "strike",U,U,tq,U,U,_,rfl;erw[yR ?_];exists _,U,t,_,0,.str "strike",U,U,tq,U,U,_,rfl;erw[yR ?_];exists _,U,t,_,0,.str "strike",U,U,tq,U,U,_,rfl;erw[xV ?_];obtain⟨dv,lk⟩:=dU (l:=S.notes) ok;obtain⟨v,ev,_⟩:=kn9.get lk;exists _,U,p,.ref nc,U,.inl ⟨_,.inr "notes",.inl ep9,U,vL.symm⟩,nc,U,.inl ⟨nk,.inl en9⟩,_,U,t,_,1,.int k,U,U,tq,U,nk,.inl k,v,en9,U,ev,_,rfl;have sE:=uC (o:=.dK (pe nk (.inl k))) en9;have np:=md en9;erw[q p _ (λx o e=>by rw[zH (zF e nnH)]; rwa[s9 _ _ e]) hp ⟨mc,bc,rc,nc,nrH,.inl ?_,⟨mk,.inl ?_,km9.sam sE np⟩,⟨bk,.inl ?_,kb9.sam sE np⟩,⟨rs,?_,kr9.sam sE np⟩,⟨_,.inl zA,?_⟩⟩]
  ·rw[zH npn]; rwa[ep9]
  ·rw[zH nmn]; rwa[em9]
  ·rw[zH nbn]; rwa[eb9]
  ·rw[zH nrn]; rwa[er9]
  ·have:=(kn9.drop (k:=.inl k)).sam sE np;rw[eC] at this;rwa[this]
def mkT(e:g8×Int×Int):Key×List V:=(.inr e.1,[.int e.2.1,.int e.2.2])
def Wi{H:Hp}{l:List (g8×Int×Int)}{ts:List (b9×Key×List V)}(e:ts.map (·.2)=l.map mkT)(at_:∀ t∈ts,H t.1=Io (.tup (kV t.2.1::t.2.2))):∀ o:List Nat,xN H ((vX o l).map mkD) ((vX o (ts.map (·.1))).map V.ref)
 | []=>zY.mpr rfl
 | i::o=>by
  have ih:=Wi e at_ o;have ei:=congrArg (·[i]?) e;simp only[e7] at ei;rw[uj] at ih ⊢;unfold vX at ih ⊢;cases gt:ts[i]? with
  | none =>
   rw[gt] at ei;have gl:l[i]?=none:=by cases h:l[i]? <;> simp[h] at ei ⊢
   rw[AV gt,AV gl];rwa[ih]
  | some t =>
   rw[gt] at ei;obtain⟨x,gl,ex⟩:=j6.mp ei.symm;rw[AD gt,AD gl];have h:=at_ t (j5 gt);rw[show t.2=mkT x from ex.symm] at h;rwa[zL.mpr ⟨_,_,rfl,yF.mpr ⟨_,_,rfl,h,zL.mpr ⟨_,_,rfl,zW.mpr rfl,.two (yB.mpr rfl) (yB.mpr rfl)⟩⟩,ih⟩]
def uq(_:b7):Sp:=λvs H Q _=>∃(d:b9)(S:BS),vs=[.ref d]/\ZM H d S/\pQ S /\
 ∀(c:b9)(zs:List V)(H':Hp),Sam H H'->H' c=Io (.lst zs)->xN H' (cu S) zs->Q (.ref c) H'
def kT(F:Fun K "_law_marks_of" "_law_marks_of" rD f fd)(Z:Zs mg)(CB:Cb P w mg base)  : yX P w K mg base CX0 1 f fd ["_law_m"] (uq K):=by
 specialize kF
 ·obtain⟨d,S,rfl,_⟩:=h;rfl
 obtain⟨d,S,rfl,⟨m,b,r,n,lw⟩,nt,q⟩:=h;obtain⟨kvs,hm,kv⟩:=lw.ma;have lk:kvs.length=S.marks.length:=by rw[kv.length,yd]
 have fm:=nt.well.good.few.ma
 refine'⟨_,(zG (zM (zR yh rfl Z.sorted tE (zB (vA (T:=["_law_name","_law_place"]) (caps:=[]) ⟨rfl,by ac_nf,by ac_nf,rfl,t5⟩ rfl (YQ (zO (zU hr) (pv 0) zK (λ_ _=>rfl))) (λ_=>(yl rfl (yI (qL 0 (show(["_law_name","_law_place"]:List g8).Nodup by ac_nf)) (yI (qL 1 (show(["_law_name","_law_place"]:List g8).Nodup by ac_nf)) tJ)))) (λ_=>xX) (λ_=>?_)) zI)))),?_⟩
 nofun
 erw[_,U,d,.ref m,U,.inl ⟨_,.inr "marks",lw.at_,U,yT.symm⟩,m,kvs,U,hm,λo H2 fz cc D hD=>?_];have sf:Sam H H2:=nu hm fz;have kv2:=kv.to sf;have npD:∀ b xs,H2 b=Io (.tup xs)->¬ b=D:=λb xs e z=>by rw[z,hD] at e; cases e
 refine VN (λi σ zs H'=>yY (λx=>x=D) H2 H'/\H' D=Io (.lst zs)/\(∃ ts:List (b9×Key×List V),zs=(ts.map (·.1)).map V.ref/\ts.map (·.2)=(S.marks.take i).map mkT/\∀ t∈ts,H' t.1=Io (.tup (kV t.2.1::t.2.2)))/\∃ u0 u1:Option V,σ=[u0,u1])
  ⟨.of (zD hD _),zA,⟨[],rfl,rfl,λt ht=>(nomatch ht)⟩,Ip,Ip,rfl⟩ (λi σ zs H' hP=>⟨dh hP.1 (λz=>by have:=fz.1; rw[z,hD] at this; cases this) fz.1,hP.2.1⟩) ?_ ?_
 ·rintro i e T σ zs H' ge hT ⟨sD,eD,⟨ts,rfl,et,at_⟩,u0,u1,rfl⟩;have sT:=zD hT (.tup [kV e.1,e.2]);obtain⟨dt,gd,rd⟩:=(kv2.sam sD npD).at ge;unfold mkE at gd;rw[e7,j6] at gd;obtain⟨em,gm,eq⟩:=gd;injection eq with e1 e2
  subst e2;obtain⟨a,ea,ha⟩:=wy rd;have li:i<60:=by have:=(g9.mp gm).1; lia
  have lt:ts.length=i:=by
   have:=congrArg Bv et;rw[a7,a7,j8] at this;have:=(g9.mp gm).1;lia
  exists _,_,U,SqT.of zA,U,_,_,U,_,_,U,rfl;rw[ea,<- e1];rw[ea,<- e1] at sT;have ha1:=sT _ _ ha;have aq:Sq K (upd H' T (.tup [kV (.inr em.1),.ref a])) a [.int em.2.1,.int em.2.2]:=.inr (SqT.of ha1);erw[_,U,_,U,a,_,0,.int em.2.1,U,U,aq,U,_,U,a,_,1,.int em.2.2,U,U,aq,U,sz3,λt3 ht3=>?_];have s3:=zD ht3 (.tup [.str em.1,.int em.2.1,.int em.2.2]);have eD4:=s3 _ _ (sT _ _ eD);erw[eD4,zT (by rw[a7,a7]; lia),(sD.trans ((yY.of sT).trans (.of s3))).trans (uC eD4),zA,⟨ts++[(t3,mkT em)],by rw[i8,i8]; rfl,by rw[i8,et,w6,gm,i8]; rfl,λt ht=>?_⟩,_,_,rfl];rcases m7.mp ht with z | z
  ·have h:=at_ t z;rw[zH (λy=>by rw[y,eD] at h; cases h)];rwa[s3 _ _ (sT _ _ h)]
  ·rw[d8.mp z];show upd _ D _ t3=_;rw[zH (zF (sT _ _ eD) ht3).symm];rwa[zA]
 ·rintro σ zs H' ⟨sD,eD,⟨ts,rfl,et,at_⟩,u0,u1,rfl⟩;rw[lk,Am] at et;have ek:ts.map (·.2.1)=(S.marks.map (·.1)).map .inr:=by
   have:=congrArg (List.map (·.1)) et;rw[v7,v7] at this;rw[v7];rwa[this]
  have lt:ts.length=S.marks.length:=by have:=congrArg Bv et; (rw[a7,a7] at this;assumption)
  erw[D,ts,U,SqL.of eD,at_,by lia,.inr ⟨_,ek⟩,by rw[ek]; exact jJ nt.nm,λp hp=>?_];have sp:=zD hp (.lst ((vX (tU (ts.map (·.2.1))) (ts.map (·.1))).map V.ref));erw[q p _ _ ((yY.over sf sD hD).trans (.of sp)) zA ?_];rw[ek];rw[ek] at sp;exact(Wi et at_ _).to (.of sp)
def Wg(cs:List (Int×Int)):Prop:=WO cs
def ym(_:b7):Sp:=λvs H Q _=>∃(a:b9)(rows:List Int),vs=[.ref a]/\H a=Io (.lst (rows.map V.int))/\3<=rows.length/\(∀ v∈rows,0<=v/\v<1000003) /\
 ∀(v:V)(cs:List (Int×Int))(H':Hp),Same H H'->Rep H' (.tup (cs.map ptD)) v->Wg cs->cs.length<=12->(∀ c∈cs,c.1.natAbs.log2<20/\c.2.natAbs.log2<20)->Q v H'
def oW(F:Fun K "_law_drawn_bank" "_law_drawn_bank" vU f fd)(Z:Zs mg)(CB:Cb P w mg base)  : yX P w K mg base CX0 1 f fd ["_law_d"] (ym K):=by
 specialize yr
 ·obtain⟨a,rows,rfl,_⟩:=h;rfl
 obtain⟨a,rows,rfl,ha,l3,bd,q⟩:=h;obtain⟨v0,a0,z0⟩:=xO bd (k:=0) (by decide) (by lia);obtain⟨v1,a1,z1⟩:=xO bd (k:=1) (by decide) (by lia);obtain⟨v2,a2,z2⟩:=xO bd (k:=2) (by decide) (by lia);have sq:∀{H':Hp},H' a=Io (.lst (rows.map V.int))->Sq K H' a (rows.map V.int):=λh=>.inl (SqL.of h)
 refine'⟨_,(zC (Zu (i:=1) (j:=2) rfl yr.nd rfl rfl (by decide) rfl rfl ?_ rfl)
   (zG (zM ?_))),?_⟩
 nofun
 exists _,U,a,_,_,_,U,U,sq ha,a0,_,_,U,U,(by show(0:Int)<2001; decide),_,_,rfl,rfl,_,rfl,a,_,_,_,rfl,rfl,sq ha,a1,_,_,rfl,rfl,(by show(0:Int)<41; decide),_,_,rfl,rfl,_,_,rfl;have x0:(v0%2001-1000).natAbs<=1001:=by lia
 have y0:(v1%41-20).natAbs<=21:=by lia
 generalize v0%2001-1000=x at x0 ⊢;generalize v1%41-20=y at y0 ⊢;erw[_,U,_,U,sz2,λp1 hp1=>?_];have s1:=zD hp1 (.tup [.int x,.int y]);erw[_,U,_,_,U,U,_,U,sz2,λp2 hp2=>?_];have s2:=zD hp2 (.tup [.int (x+3),.int y]);have ha2:=s2 _ _ (s1 _ _ ha);refine⟨_,U,_,_,U,U,_,U,_,U,a,_,_,_,U,U,sq ha2,a2,_,_,U,U,(by show(0:Int)<6; decide),_,_,rfl,rfl,_,_,rfl,rfl,sz2,λp3 hp3=>?_⟩;have e0 : -1<=v2%6-1:=by lia
 have e4:v2%6-1<=4:=by lia
 rw[show y+v2%6-1=y+(v2%6-1) by lia];generalize v2%6-1=e at e0 e4 ⊢;have s3:=zD hp3 (.tup [.int (x+1),.int (y+e)]);erw[sz3,λt ht=>?_];have s4:=zD ht (.tup [.ref p1,.ref p2,.ref p3]);refine q (.ref t) [(x,y),(x+3,y),(x+1,y+e)] _ (((s1.trans s2).trans s3).trans s4) ?_ ⟨x,y,e,e0,e4,rfl⟩ (by show 3<=12; decide) (λc hc=>?_)
 ·rwa[yF.mpr ⟨t,_,rfl,zA,zL.mpr ⟨_,_,rfl,tD (p:=(x,y)) (s4 _ _ (s3 _ _ (s2 _ _ zA))),.two (tD (p:=(x+3,y)) (s4 _ _ (s3 _ _ zA))) (tD (p:=(x+1,y+e)) (s4 _ _ zA))⟩⟩]
 ·simp only[i7,Ai,or_false] at hc;rcases hc with rfl | rfl | rfl <;> rwa[Wl (by dsimp only; lia),Wl (by dsimp only; lia)]
section
variable{H:Hp}{w:b9}
def Vv{n:g8}{x y:Int}(hw:H w=Io (.tup [.str "move",.str n,.int x,.int y])):Rep H (Deed.move n x y).dt (.ref w) :=
 yF.mpr ⟨w,_,rfl,hw,zL.mpr ⟨_,_,rfl,zW.mpr rfl,zL.mpr ⟨_,_,rfl,zW.mpr rfl,.two (yB.mpr rfl) (yB.mpr rfl)⟩⟩⟩
def Vh{k x y:Int}(hw:H w=Io (.tup [.str "right",.int k,.int x,.int y])):Rep H (Deed.right k x y).dt (.ref w) :=
 yF.mpr ⟨w,_,rfl,hw,zL.mpr ⟨_,_,rfl,zW.mpr rfl,zL.mpr ⟨_,_,rfl,yB.mpr rfl,.two (yB.mpr rfl) (yB.mpr rfl)⟩⟩⟩
def VH{n:g8}(hw:H w=Io (.tup [.str "unmark",.str n])):Rep H (Deed.unmark n).dt (.ref w) :=
 yF.mpr ⟨w,_,rfl,hw,.two (zW.mpr rfl) (zW.mpr rfl)⟩
def VX{n:g8}(hw:H w=Io (.tup [.str "level",.str n])):Rep H (Deed.level n).dt (.ref w) :=
 yF.mpr ⟨w,_,rfl,hw,.two (zW.mpr rfl) (zW.mpr rfl)⟩
def bT{n:g8}{v:V}{cs:List (Int×Int)}(hw:H w=Io (.tup [.str "bank",.str n,v]))(hv:Rep H (.tup (cs.map ptD)) v):Rep H (Deed.bank n cs).dt (.ref w) :=
 yF.mpr ⟨w,_,rfl,hw,zL.mpr ⟨_,_,rfl,zW.mpr rfl,.two (zW.mpr rfl) hv⟩⟩
end
def Wz:Deed->Prop
 | .bank _ cs=>Wg cs
 | _=>True
def iq(_:b7):Sp:=λvs H Q _=>∃(a d R:b9)(rows:List Int)(ns:List g8)(S:BS),vs=[.ref a,.ref d,.ref R]/\H a=Io (.lst (rows.map V.int))/\11<=rows.length/\(∀ v∈rows,0<=v/\v<1000003)/\ZM H d S/\gG S/\1<=S.coming/\S.coming<=1000/\H R=Io (.lst (ns.map V.str))/\1<=ns.length/\(∀ n∈ns,wM n) /\
 ∀(v:V)(D:Deed)(H':Hp),Sam H H'->Rep H' D.dt v->ph D->Wz D->Q v H'
def ZS(F:Fun K "_law_deed" "_law_deed" pK f fd)(Z:Zs mg)(CB:Cb P w mg base)(yBz:Has P w K mg base "_law_pick" 2 ["_law_raw","_law_names_here"] (nP K))(yAc:Has P w K mg base "_law_bearing_deed" 3 ["_law_d","_law_m","_law_names_here"] (rY K))(yAx:Has P w K mg base "_law_drawn_bank" 1 ["_law_d"] (ym K))(yAt:Has P w K mg base "_law_far_number" 1 ["_law_raw"] (yx K)):yX P w K mg base CX0 4 f fd ["_law_d","_law_m","_law_names_here"] (iq K):=by
 specialize uv
 ·obtain⟨a,d,R,rows,ns,S,rfl,_⟩:=h;rfl
 obtain⟨a,d,R,rows,ns,S,rfl,ha,l11,bd,lwt,wl,c1,c1000,eR,l1,okn,q⟩:=h;obtain⟨m,b,r,n,lw⟩:=id lwt;obtain⟨v0,a0,y0⟩:=xO bd (k:=0) (by decide) (by lia);obtain⟨v1,a1,y1⟩:=xO bd (k:=1) (by decide) (by lia);obtain⟨v2,a2,y2⟩:=xO bd (k:=2) (by decide) (by lia);obtain⟨v3,a3,y3⟩:=xO bd (k:=3) (by decide) (by lia);obtain⟨v4,a4,y4⟩:=xO bd (k:=4) (by decide) (by lia);obtain⟨v5,a5,y5⟩:=xO bd (k:=5) (by decide) (by lia);obtain⟨v6,a6,y6⟩:=xO bd (k:=6) (by decide) (by lia);have sq:∀{H':Hp},H' a=Io (.lst (rows.map V.int))->Sq K H' a (rows.map V.int):=λh=>.inl (SqL.of h);obtain⟨ys,er,rr⟩:=lw.ru;have ly:ys.length=S.runs.length:=by rw[rr.length,a7]
 have fr:=wl.good.few.ru
 refine'⟨_,(zC (yD 3 uv.nd ?_)
   (zC (yD 4 uv.nd ?_)
   (zC (Zu (i:=5) (j:=6) rfl uv.nd rfl rfl (by decide) rfl rfl ?_ rfl)
   (zC (zX ?_ (zG (zM ?_)) zN)
   (zC (zX ?_ (zG (zM ?_)) zN)
   (zC (zX ?_ (zG (zM ?_)) zN)
   (zC (zX ?_ (zG (zM ?_)) zN)
   (zC (zX ?_ (zG (zM ?_)) zN)
   (zC (zX ?_ (zG (zM ?_)) zN)
   (zC (zX ?_ (zG (zM (yV (zB zK (zB (wH xa (wH Wr (wH mJ ?_ (wH xa (zR yU rfl Z.len uF (zB (zO (zU hr) (pv 1) zK (λ_ _=>rfl)) zI)) yL)) yL) (xC gq rfl Z.int aM (zB (jb (sS kX (zR yU rfl Z.len uF (zB (zO (zU hr) (pv 1) zK (λ_ _=>rfl)) zI)) yL (yS _)) (jI ?_)) zI))) (zB (pv 5) (zB (pv 6) zI))))))) zN)
   (zC (zX ?_ (zG (zM ?_)) zN)
   (zC (zX ?_ (zG (zM (yV (zB zK (zB (wH mJ ?_ (wH xa (wH xa (zR yU rfl Z.len uF (zB (zO (zU hr) (pv 1) zK (λ_ _=>rfl)) zI)) yL) ?_)) (zB (pv 4) (zB ?_ zI))))))) zN)
   (zG (zM (yV (zB zK (zB (wH mJ ?_ (wH xa (zO (zU hr) (pv 1) zK (λ_ _=>rfl)) yL)) zI))))))))))))))))),?_⟩
 nofun
 exists _,U,a,_,_,_,U,U,sq ha,a0,_,_,U,U,(by show(0:Int)<18; decide);erw[_,U,a,_,_,_,U,U,sq ha,a1,_,U,v1,R,ns,U,y1.1,y1.2,eR,l1,okn,λnm H2 an s2=>?_];erw[_,U,a,_,_,_,U,U,sq (s2 _ _ ha),a2,v2,U,y2.1,y2.2,λx H3 tx s3=>?_];erw[_,U,a,_,_,_,U,U,sq (s3 _ _ (s2 _ _ ha)),a3,v3,U,y3.1,y3.2,λy H4 ty s4'=>⟨_,_,U,?_⟩];have s4:=s2.trans (s3.trans s4');clear s2 s3 s4';have ha4:=s4 _ _ ha;have lw4:=lw.to (.of s4);have eR4:=s4 _ _ eR;generalize v0%18=W;exists _,U,_,_,U,U,_,rfl;erw[ifD (λza=>?_) (λza=>?_)]
 ·refine⟨_,U,_,U,_,U,(by show 4<=sizeLine; decide),λw hw=>?_⟩;have sw:=zD hw (.tup [.str "mark",.str nm,.int x,.int y]);rwa[q (.ref w) (.mark nm x y) _ (.of (s4.trans sw)) (YZ zA) (⟨an,tx,ty⟩) trivial]
 exists _,U,U,_,rfl;erw[ifE (λzb=>?_) (λzb=>?_)]
 ·refine⟨_,U,_,U,_,U,(by show 4<=sizeLine; decide),λw hw=>?_⟩;have sw:=zD hw (.tup [.str "move",.str nm,.int x,.int y]);rwa[q (.ref w) (.move nm x y) _ (.of (s4.trans sw)) (Vv zA) (⟨an,tx,ty⟩) trivial]
 exists _,U,U,_,rfl;erw[ifE (λzc=>?_) (λzc=>?_)]
 ·erw[_,U,sz2,λw hw=>?_];have sw:=zD hw (.tup [.str "unmark",.str nm]);rwa[q (.ref w) (.unmark nm) _ (.of (s4.trans sw)) (VH zA) (an) trivial]
 have ct1:ze (rows.map V.int) (Io ((1:Nat):Int)) Ip=(rows.drop 1).map V.int:=by rw[ui,HT.sIx_nat rows.length 0 1,show min 1 rows.length=1 by lia,show HT.sIx rows.length rows.length Ip=rows.length from rfl,Ab (by rw[p8]; lia)]
 have ct1:ze (rows.map V.int) (Io 1) Ip=(rows.drop 1).map V.int:=ct1;exists _,U,U,_,rfl;erw[ifE (λz5=>xV ?_) (λz5=>?_)]
 ·skip
  erw[_,U,_,U,_,U,a,_,U,SqL.of ha4,λc hc=>?_];have sc:=zD hc (.lst (ze (rows.map V.int) (Io 1) Ip));erw[c,rows.drop 1,U,(by rw[zA,ct1]),(by rw[p8]; lia),(λv hv=>bd v (AY hv)),λv cs H5 s5 rv dc l12 lg=>?_];erw[sz3,λw hw=>?_];have sw:=zD hw (.tup [.str "bank",.str nm,v]);rwa[q (.ref w) (.bank nm cs) _ (.of (s4.trans (sc.trans (s5.trans sw)))) (bT zA (rv.to (.of sw))) ⟨an,l12,lg⟩ dc]
 exists _,U,U,_,rfl;erw[ifE (λz6=>?_) (λz6=>?_)]
 ·skip
  erw[_,U,_,U,_,U,a,_,U,SqL.of ha4,λc hc=>?_];have sc:=zD hc (.lst (ze (rows.map V.int) (Io 1) Ip));erw[c,rows.drop 1,U,(by rw[zA,ct1]),(by rw[p8]; lia),(λv hv=>bd v (AY hv)),λv cs H5 s5 rv dc l12 lg=>?_];erw[sz3,λw hw=>?_];have sw:=zD hw (.tup [.str "bank",.str nm,v]);rwa[q (.ref w) (.bank nm cs) _ (.of (s4.trans (sc.trans (s5.trans sw)))) (bT zA (rv.to (.of sw))) ⟨an,l12,lg⟩ dc]
 exists _,U,U,_,rfl;erw[ifE (λz7=>?_) (λz7=>?_)]
 ·erw[_,U,sz2,λw hw=>?_];have sw:=zD hw (.tup [.str "level",.str nm]);rwa[q (.ref w) (.level nm) _ (.of (s4.trans sw)) (VX zA) (an) trivial]
 exists _,U,_,_,U,U,_,rfl;erw[ifD (λz8=>?_) (λz8=>?_)]
 ·erw[_,U,_,U,sz3,λw hw=>?_];have sw:=zD hw (.tup [.str "sail",.int x,.int y]);rwa[q (.ref w) (.sail x y) _ (.of (s4.trans sw)) (Yp zA) (⟨tx,ty⟩) trivial]
 exists _,U,U,_,rfl;erw[ifE (λz9=>?_) (λz9=>?_)]
 ·exists _,U,a,_,_,_,U,U,sq ha4,a4,_,U,d,.ref r,U,.inl ⟨_,.inr "runs",lw4.at_,U,uZ.symm⟩,r,ys,U,.inl (SqL.of (s4 _ _ er)),_,_,U,U,_,_,U,U,(by show(0:Int)<(ys.length:Int)+2; lia),_,_,rfl,rfl;have fin2:∀ k:Int,0<=k/\k<=1->∀ w,H4 w=Ip->Q (.ref w) (upd H4 w (.tup [.str "right",.int (v4%((ys.length:Int)+2)-1+k),.int x,.int y])):=by
   intro k hk w hw;have e0:=w5 v4 (show(ys.length:Int)+2≠0 by lia);have e1:=o7 v4 (show(0:Int)<(ys.length:Int)+2 by lia);have tk:zf (v4%((ys.length:Int)+2)-1+k):=wA (by lia);generalize v4%((ys.length:Int)+2)-1+k=kk at tk ⊢;have sw:=zD hw (.tup [.str "right",.int kk,.int x,.int y]);rwa[q (.ref w) (.right kk x y) _ (.of (s4.trans sw)) (Vh zA) (⟨tk,tx,ty⟩) trivial]
  have k01:∀ c:Bool,(0:Int)<=(if c=Iq then 1 else 0)/\(if c=Iq then(1:Int) else 0)<=1:=λc=>by cases c <;> decide
  exists _,U,d,.ref r,U,.inl ⟨_,.inr "runs",lw4.at_,U,uZ.symm⟩,r,ys,U,.inl (SqL.of (s4 _ _ er)),_,_,U,U,_,rfl;erw[Ux (λ_=>?_) (λ_=>?_)]
  ·exact⟨_,U,a,_,_,_,U,U,sq ha4,a5,_,_,U,U,gt3,_,_,U,U,.inr ⟨_,U,_,_,U,U,_,U,_,U,(by show 4<=sizeLine; decide),fin2 _ (k01 _)⟩⟩
  ·exact .inr ⟨_,rfl,_,_,rfl,rfl,_,rfl,_,rfl,(by show 4<=sizeLine; decide),fin2 _ (k01 _)⟩
 exists _,U,_,_,U,U,_,rfl;erw[ifD (λz10=>?_) (λz10=>?_)]
 ·erw[_,U,_,U,_,U,a,d,R,rows,ns,S,U,ha4,(by lia),bd,⟨m,b,r,n,lw4⟩,wl,eR4,l1,okn,λv m n a b c d H' s' rp tm=>q v _ H' ((yY.of s4).trans s') rp tm trivial]
 exists _,U,U,_,rfl;erw[ifE (λz12=>xV ?_) (λz12=>?_)]
 ·skip
  refine⟨_,U,a,_,_,_,U,U,sq ha4,a4,_,U,d,.ref r,U,.inl ⟨_,.inr "runs",lw4.at_,U,uZ.symm⟩,r,ys,U,.inl (SqL.of (s4 _ _ er)),_,_,U,U,_,U,a,_,_,_,U,U,sq ha4,a5,_,_,U,U,(by show(0:Int)<9; decide),rfl,.inr ⟨_,rfl,_,_,rfl,rfl,?_⟩⟩;have k01:(0:Int)<=(if decide (V.int (v5%9)=V.int 1)=Iq then 1 else 0)/\(if decide (V.int (v5%9)=V.int 1)=Iq then(1:Int) else 0)<=1:=by split <;> decide
  generalize (if decide (V.int (v5%9)=V.int 1)=Iq then(1:Int) else 0)=k at k01 ⊢;have e0:=w5 v4 (show(ys.length:Int)+1+k≠0 by lia);have e1:=o7 v4 (show(0:Int)<(ys.length:Int)+1+k by lia);have tk:zf (v4%((ys.length:Int)+1+k)):=wA (by lia);refine⟨_,_,U,U,(by show(0:Int)<(ys.length:Int)+1+k; lia),_,rfl,_,rfl,a,_,_,_,rfl,rfl,sq ha4,a6,_,rfl,v6,R,ns,rfl,y6.1,y6.2,eR4,l1,okn,λnm2 H5 an2 s5=>?_⟩;refine⟨(by show 4<=sizeLine; decide),λw hw=>?_⟩;generalize v4%((ys.length:Int)+1+k)=kk at tk hw ⊢;have sw:=zD hw (.tup [.str "range",.int kk,.str nm,.str nm2]);rwa[q (.ref w) (.range kk nm nm2) _ (.of (s4.trans (s5.trans sw))) (hG zA) ⟨tk,an,an2⟩ trivial]
 exists _,U,U,_,rfl;erw[ifE (λz13=>?_) (λz13=>?_)]
 ·skip
  refine⟨_,U,a,_,_,_,U,U,sq ha4,a4,_,U,d,.ref r,U,.inl ⟨_,.inr "runs",lw4.at_,U,uZ.symm⟩,r,ys,U,.inl (SqL.of (s4 _ _ er)),_,_,U,U,_,U,a,_,_,_,U,U,sq ha4,a5,_,_,U,U,(by show(0:Int)<9; decide),rfl,.inr ⟨_,rfl,_,_,rfl,rfl,?_⟩⟩;have k01:(0:Int)<=(if decide (V.int (v5%9)=V.int 1)=Iq then 1 else 0)/\(if decide (V.int (v5%9)=V.int 1)=Iq then(1:Int) else 0)<=1:=by split <;> decide
  generalize (if decide (V.int (v5%9)=V.int 1)=Iq then(1:Int) else 0)=k at k01 ⊢;have e0:=w5 v4 (show(ys.length:Int)+1+k≠0 by lia);have e1:=o7 v4 (show(0:Int)<(ys.length:Int)+1+k by lia);have tk:zf (v4%((ys.length:Int)+1+k)):=wA (by lia);refine⟨_,_,U,U,(by show(0:Int)<(ys.length:Int)+1+k; lia),_,rfl,_,rfl,a,_,_,_,rfl,rfl,sq ha4,a6,_,rfl,v6,R,ns,rfl,y6.1,y6.2,eR4,l1,okn,λnm2 H5 an2 s5=>?_⟩;refine⟨(by show 4<=sizeLine; decide),λw hw=>?_⟩;generalize v4%((ys.length:Int)+1+k)=kk at tk hw ⊢;have sw:=zD hw (.tup [.str "range",.int kk,.str nm,.str nm2]);rwa[q (.ref w) (.range kk nm nm2) _ (.of (s4.trans (s5.trans sw))) (hG zA) ⟨tk,an,an2⟩ trivial]
 ·refine⟨_,U,a,_,_,_,U,U,sq ha4,a4,_,U,d,.int S.coming,U,.inl ⟨_,.inr "next",lw4.at_,U,xz.symm⟩,_,_,U,U,_,_,U,U,(by show(0:Int)<S.coming+1; lia),sz2,λw hw=>?_⟩;have e0:=w5 v4 (show S.coming+1≠0 by lia);have e1:=o7 v4 (show(0:Int)<S.coming+1 by lia);have tk:zf (v4%(S.coming+1)):=wA (by lia);generalize v4%(S.coming+1)=kk at tk hw ⊢;have sw:=zD hw (.tup [.str "strike",.int kk]);rwa[q (.ref w) (.strike kk) _ (.of (s4.trans sw)) (cb zA) (tk) trivial]
def TZ(cs:List (Int×Int)):Prop:=WO cs
def rZ(_:b7):Sp:=λvs H Q _=>∃(c:b9)(ps:List Pr)(cs:List (Int×Int)),vs=[.ref c]/\H c=Io (.tup (wN ps))/\TX H cs ps/\TZ cs/\Q (.bl (im cs)) H
def sg(F:Fun K "_law_round_enough" "_law_round_enough" wQ f fd)(Z:Zs mg)(CB:Cb P w mg base)  : yX P w K mg base CX0 1 f fd ["_law_places"] (rZ K):=by
 specialize su
 ·obtain⟨c,ps,cs,rfl,_⟩:=h;rfl
 obtain⟨c,ps,cs,rfl,hc,cn,sd,q⟩:=h;obtain⟨a1,a2,a3,rfl,e⟩:=Xw sd
 refine'⟨_,(zG (zM ?_)),?_⟩
 nofun
 obtain⟨pt,at_⟩:=cn
 match ps,pt with
 | [p1,p2,p3],pt =>
  simp only[l9,CT,EH,and_true] at pt;obtain⟨rfl,rfl,rfl⟩:=pt;rw[e] at q;have h1:=at_ p1 (.head _);have h3:=at_ p3 (.tail _ (.tail _ (.head _)));have cq:Sq K H c (wN [p1,p2,p3]):=.inr (SqT.of hc);exists _,U,c,_,U,.inr (SqT.of hc),U,_,rfl;erw[xV ?_];rwa[_,U,c,_,2,.ref p3.1,U,U,cq,U,p3.1,_,1,.int p3.2.2,U,U,.inr (SqT.of h3),U,_,U,c,_,0,.ref p1.1,U,U,cq,U,p1.1,_,1,.int p1.2.2,U,U,.inr (SqT.of h1),U,_,_,U,U,q]
def WC:Deed->Prop
 | .bank _ cs=>TZ cs
 | .level _=>True
 | _=>False
def WC.cases{D:Deed}(h:WC D):(∃ n cs,D=.bank n cs/\TZ cs)\/∃ n,D=.level n:=by
 cases D <;> first | exact h.elim | exact .inl ⟨_,_,rfl,h⟩ | exact .inr ⟨_,rfl⟩
def xg(_:b7):Sp:=jU WC
def mq(F:Fun K "_law_bank_word" "_law_bank_word" tP f fd)(Z:Zs mg)(CB:Cb P w mg base)(yAe:Has P w K mg base "_law_round_enough" 1 ["_law_places"] (rZ K))(yCb:Has P w K mg base "_law_near" 1 ["_law_x","_law_y"] (ux K))(yBi:Has P w K mg base "_law_is_name" 1 ["_law_name"] (yw K)):yX P w K mg base CX0 2 f fd ["_law_m","_law_deed_here"] (xg K):=by
 specialize mr
 ·obtain⟨d,v,S,D,rfl,_⟩:=h;rfl
 obtain⟨d,v,S,D,rfl,⟨m,b,r,n,lw⟩,hv,tm,wl,mk,q⟩:=h;have say:∀(o:Option Cl)(H':Hp),zS S D=o->Sam H H'->Q (.str (oq o)) H':=λo H' e s=>e ▸ q _ s;obtain⟨bk',hbk,kb⟩:=lw.ba;have lbk:bk'.length=S.banks.length:=by rw[kb.length]; unfold bkE; rw[a7]
 refine'⟨_,(zC (zX ?_ (zG (zM (vT (zh (hJ (zU hr) ?_ (zO (zU hr) (pv 0) zK (λ_ _=>rfl))) (by with_unfolding_all rfl)) zK zK))) zN)
   (zC (zX ?_ (zG (zM zK)) zN)
   (zC (zX (zh (hJ (zU hr) ?_ (zO (zU hr) (pv 0) zK (λ_ _=>rfl))) (by with_unfolding_all rfl)) (zG (zM zK)) zN)
   (zC (zX (zu (zr (zR (vZ rfl) rfl Z.all qp (zB (vA (T:=["_law_x","_law_y"]) (caps:=[]) ⟨rfl,by ac_nf,by ac_nf,rfl,t5⟩ rfl (XG ?_) (λ_=>(yl rfl (yI (qL 0 (show(["_law_x","_law_y"]:List g8).Nodup by ac_nf)) (yI (qL 1 (show(["_law_x","_law_y"]:List g8).Nodup by ac_nf)) tJ)))) (λ_=>xX) (λ_=>?_)) zI)))) (zG (zM zK)) zN)
   (zC (zX ?_ (zG (zM zK)) zN)
   (zG (zM (vT (yH kX (zR tF rfl Z.len uF (zB (zO (zU hr) (pv 0) zK (λ_ _=>rfl)) zI)) yL (yS _)) zK zK)))))))),?_⟩
 nofun
 rcases mk.cases with ⟨nm,cs,rfl,sd⟩ | ⟨nm,rfl⟩
 ·clear mk q;obtain⟨t,c,ps,rfl,ht,hc,cn,rc⟩:=nU hv;have tq:Sq K H t [.str "bank",.str nm,.ref c]:=.inr (SqT.of ht);exists _,U,t,_,0,.str "bank",U,U,tq,U,U,_,rfl;erw[yR ?_];erw[_,U,t,_,1,.str nm,U,U,tq,U,nm,U,tm.1,λbb H1 hb s1=>⟨_,U,?_⟩];cases bb with
  | false=>rwa[xV (say (Io .badName) _ (by simp only[zS,y9 (sM hb rfl)]) (.of s1))]
  | true =>
  have j1:=e9.mpr (hb.mp rfl);erw[yR ?_];have hd1:=Rd.same lw.at_ s1;have hc1:=s1 _ _ hc;have tq1:Sq K H1 t [.str "bank",.str nm,.ref c]:=.inr (SqT.of (s1 _ _ ht));exists _,U,t,_,1,.str nm,U,U,tq1,U,_,U,d,.ref b,U,.inl ⟨_,.inr "banks",hd1,U,qU.symm⟩,b,_,U,.inl ⟨bk',.inr nm,Rd.same hbk s1,U,U⟩,_,rfl;have bn:=tf (n:=nm) kb;cases e:(wS bk' (.inr nm)).isSome with
  | true=>exact xV (say (Io .taken) _ (by simp only[zS,y7 j1,y9 (show nm∈S.banks.map (·.1) from Cu λz=>by rw[bn.mpr z] at e; cases e)]) (.of s1))
  | false =>
  have j2:nm ∉ S.banks.map (·.1):=bn.mp (by cases h:wS bk' (.inr nm) <;> simp[h] at e ⊢);erw[yR ?_];erw[_,U,t,_,2,.ref c,U,U,tq1,U,c,U,⟨_,SqT.of hc1⟩,λcc D hD=>?_];have l3:ps.length<=12:=by have:=congrArg Bv cn.pt; rw[a7] at this; rw[this]; rwa[tm.2.1]
  refine iI (K:=K) (a:=c) (xs:=wN ps) (λi σ zs H'=>Same H1 H'/\H' D=Io (.lst zs)/\(∃ bs:List Bool,zs=bs.map V.bl/\bs.length=i/\(bs.all id=Iq↔∀ p∈ps.take i,qi p.2))/\∃ u0 u1:Option V,σ=[u0,u1])
   ⟨zD hD _,zA,⟨[],rfl,rfl,iff_of_true rfl λe he=>(nomatch he)⟩,Ip,Ip,rfl⟩ (λi σ zs H' _ ⟨sH,e,_⟩=>⟨SqT.of (sH _ _ hc1),e⟩) ?_ ?_
  ·rintro i v σ zs H' hi ⟨sH,eD,⟨bs,rfl,lb,ab⟩,u0,u1,rfl⟩;unfold wN at hi;rw[v7,e7,j6] at hi;obtain⟨pp,gp,rfl⟩:=hi;have hp:=cn.at_ pp (j5 gp);have hil:=(g9.mp gp).1;erw[_,_,U,SqT.of (sH _ _ (s1 _ _ hp)),U,_,_,U,_,_,U,U,_,U,_,U,pp.2.1,pp.2.2,U,λbb hb=>?_];erw[eD,zT (by rw[a7]; lia),sH.putNew hD,zA,⟨bs++[bb],by rw[i8]; rfl,by rw[f8,lb]; rfl,?_⟩,_,_,rfl];rw[EN,p5,ab,w6,gp,show [bb].all id=bb from by cases bb <;> rfl,hb];rwa[λh e' he'=>(m7.mp he').elim (h.1 e') λz=>by rw[d8.mp z]; exact h.2,λh=>⟨λe' z=>h e' (BJ _ z),h pp (o6 _ (.head _))⟩]
  ·rintro σ zs H' ⟨sH,eD,⟨bs,rfl,lb,ab⟩,u0,u1,rfl⟩;have lr:(wN ps).length=ps.length:=xQ ps;rw[lr,Am] at ab;have ab:bs.all id=Iq↔∀ c∈cs,qi c:=by
    rw[ab,<- cn.pt];exact⟨λh c hc=>let ⟨p,hp,e⟩:=i4.mp hc; e ▸ h p hp,λh p hp=>h _ (i4.mpr ⟨p,hp,rfl⟩)⟩
   have s1':=s1.trans sH;exists D,bs,U,SqL.of eD,_,rfl;cases hb:bs.all id with
   | false=>rwa[xV (say (Io .badPlace) _ (by simp only[zS,y7 j1,y7 j2,y9 (sM ab hb)]) (.of s1'))]
   | true =>
   have j3:=e9.mpr (ab.mp hb);erw[yR ?_];have tq2:Sq K H' t [.str "bank",.str nm,.ref c]:=.inr (SqT.of (s1' _ _ ht));exists _,U,t,_,2,.ref c,U,U,tq2,U,c,ps,cs,U,s1' _ _ hc,⟨cn.pt,λt ht=>s1' _ _ (cn.at_ t ht)⟩,sd,_,rfl;cases hk:im cs with
   | false=>rwa[xV (say (Io .badBank) _ (by simp only[zS,y7 j1,y7 j2,y7 j3,y9 hk]) (.of s1'))]
   | true =>
   have j4:¬ im cs=false:=by rw[hk]; rwa[Bool.noConfusion]
   erw[yR ?_];exists _,U,d,.ref b,U,.inl ⟨_,.inr "banks",Rd.same lw.at_ s1',U,qU.symm⟩,b,bk',U,Rd.same hbk s1',_,_,U,U,_,rfl;exact ifD (λz=>say (Io .full) _ (by simp only[zS,y7 j1,y7 j2,y7 j3,y7 j4,y9 (show 8<=S.banks.length by lia)]) (.of s1')) (λz=>say Ip _ (by simp only[zS,y7 j1,y7 j2,y7 j3,y7 j4,y7 (show ¬ 8<=S.banks.length by lia)]) (.of s1'))
 ·clear mk q;obtain⟨t,rfl,ht⟩:=pZ hv;have tq:Sq K H t [.str "level",.str nm]:=.inr (SqT.of ht);exists _,U,t,_,0,.str "level",U,U,tq,U,U,_,rfl;erw[xV ?_];exists _,U,t,_,1,.str nm,U,U,tq,U,_,U,d,.ref b,U,.inl ⟨_,.inr "banks",lw.at_,U,qU.symm⟩,b,_,U,.inl ⟨bk',.inr nm,hbk,U,U⟩,_,rfl;have bn:=tf (n:=nm) kb;cases e:(wS bk' (.inr nm)).isSome with
  | true=>exact xV (say Ip _ (by simp only[zS,y9 (show nm∈S.banks.map (·.1) from Cu λz=>by rw[bn.mpr z] at e; cases e)]) (.refl _))
  | false=>exact yR (say (Io .noBank) _ (by simp only[zS,y7 (bn.mp (by cases h:wS bk' (.inr nm) <;> simp[h] at e ⊢))]) (.refl _))
def VM:Deed->Prop
 | .bank _ cs=>TZ cs
 | _=>True
def jg(_:b7):Sp:=jU VM
def ZR(F:Fun K "_law_word" "_law_word" pH f fd)(Z:Zs mg)(CB:Cb P w mg base)(yBc:Has P w K mg base "_law_note_word" 2 ["_law_m","_law_deed_here"] (wz K))(yBf:Has P w K mg base "_law_run_word" 2 ["_law_m","_law_deed_here"] (wc K))(yBd:Has P w K mg base "_law_bank_word" 2 ["_law_m","_law_deed_here"] (xg K))(yBe:Has P w K mg base "_law_mark_word" 2 ["_law_m","_law_deed_here"] (xb K)):yX P w K mg base CX0 3 f fd ["_law_m","_law_deed_here"] (jg K):=by
 specialize Zy
 ·obtain⟨d,v,S,D,rfl,_⟩:=h;rfl
 obtain⟨d,v,S,D,rfl,lw,hv,tm,wl,mk,q⟩:=h;obtain⟨t,xs,rfl,ht⟩:=fC hv
 refine'⟨_,(zC (zX (yH qC ?_ ?_ (by with_unfolding_all rfl)) (zG (zM ?_)) zN)
   (zC (zX (yH qC ?_ ?_ (by with_unfolding_all rfl)) (zG (zM ?_)) zN)
   (zC (zX (yH qC ?_ ?_ (by with_unfolding_all rfl)) (zG (zM ?_)) zN)
   (zG (zM ?_))))),?_⟩
 nofun
 have sz:=Same.refl H;refine⟨_,U,t,_,0,.str (oU D),U,U,.inr (SqT.of (sz _ _ ht)),wZ (xs:=.str (oU D)::xs) (j:=0) rfl,(by show 3<=sizeLine; decide),λz hz=>?_⟩
 replace sz:=sz.trans (zD hz (.tup [.str "mark",.str "move",.str "unmark"]))
 erw[z,_,U,.inr (SqT.of zA),U,U,_,U,Ux (λz3a=>?_) (λz3a=>?_)]
 ·skip
  exact⟨_,U,_,U,d,.ref t,S,D,U,lw.to (.of sz),hv.to (.of sz),tm,wl,(by cases D <;> first | exact trivial | exact nomatch (show Ir=Iq from z3a)),λH' s'=>q H' ((yY.of sz).trans s')⟩
 refine⟨_,U,t,_,0,.str (oU D),U,U,.inr (SqT.of (sz _ _ ht)),wZ (xs:=.str (oU D)::xs) (j:=0) rfl,(by show 2<=sizeLine; decide),λz hz=>?_⟩
 replace sz:=sz.trans (zD hz (.tup [.str "bank",.str "level"]))
 erw[z,_,U,.inr (SqT.of zA),U,U,_,U,Ux (λz2b=>?_) (λz2b=>?_)]
 ·skip
  exact⟨_,U,_,U,d,.ref t,S,D,U,lw.to (.of sz),hv.to (.of sz),tm,wl,(by cases D <;> first | exact trivial | exact mk | exact nomatch (show Ir=Iq from z2b)),λH' s'=>q H' ((yY.of sz).trans s')⟩
 refine⟨_,U,t,_,0,.str (oU D),U,U,.inr (SqT.of (sz _ _ ht)),wZ (xs:=.str (oU D)::xs) (j:=0) rfl,(by show 2<=sizeLine; decide),λz hz=>?_⟩
 replace sz:=sz.trans (zD hz (.tup [.str "sail",.str "right"]))
 erw[z,_,U,.inr (SqT.of zA),U,U,_,U,Ux (λz2c=>?_) (λz2c=>?_)]
 ·skip
  exact⟨_,U,_,U,d,.ref t,S,D,U,lw.to (.of sz),hv.to (.of sz),tm,wl,(by cases D <;> first | exact trivial | exact nomatch (show Ir=Iq from z2c)),λH' s'=>q H' ((yY.of sz).trans s')⟩
 ·skip
  exact⟨_,U,_,U,d,.ref t,S,D,U,lw.to (.of sz),hv.to (.of sz),tm,wl,(by cases D <;> first | exact trivial | exact nomatch (show Iq=Ir from z3a) | exact nomatch (show Iq=Ir from z2b) | exact nomatch (show Iq=Ir from z2c)),λH' s'=>q H' ((yY.of sz).trans s')⟩
def numO(S:BS)(D:Deed):Option Cl->V
 | none=>fh S D
 | some _=>.non
def Zt{S:BS}{D:Deed}(h:(aft S D).coming=S.coming):fh S D=.non:=by unfold fh; rw[y9 h.symm]
def az{S:BS}{D:Deed}(h:(aft S D).coming=S.coming+1):fh S D=.int S.coming:=by unfold fh; rw[y7 (by lia)]
def ZC(c:Cl):fJ c ≠ "" := by cases c <;> ac_nf
def eY(_:b7):Sp:=λvs H Q _=>∃(d:b9)(v:V)(S:BS)(D:Deed),vs=[.ref d,v]/\ZM H d S/\Rep H D.dt v/\ph D/\gG S/\VM D/\∀(t:b9)(H':Hp),Sam H H'->H' t=Io (.tup [.str (oq (zS S D)),numO S D (zS S D)])->Q (.ref t) H'
def Yg(F:Fun K "_law_due" "_law_due" lT f fd)(Z:Zs mg)(CB:Cb P w mg base)(yCe:Has P w K mg base "_law_word" 3 ["_law_m","_law_deed_here"] (jg K)):yX P w K mg base CX0 4 f fd ["_law_m","_law_deed_here"] (eY K):=by
 specialize eB
 ·obtain⟨d,v,S,D,rfl,_⟩:=h;rfl
 obtain⟨d,v,S,D,rfl,lw,hv,tm,wl,mk,q⟩:=h
 refine'⟨_,(zC (yD 2 eB.nd ?_)
   (zC (zX (PW.pt (mU ?_ (uc (yH qC ?_ ?_ (by with_unfolding_all rfl))))) (zG (zM (yV (zB zK (zB (zO (zU hr) (pv 0) zK (λ_ _=>rfl)) zI))))) zN)
   (zG (zM ?_)))),?_⟩
 nofun
 erw[_,U,_,U,d,v,S,D,U,lw,hv,tm,wl,mk,λH1 s1=>⟨_,U,U,_,U,?_⟩];have last:∀(H2:Hp),Sam H H2->numO S D (zS S D)=.non->2<=sizeLine/\∀ t:b9,H2 t=Ip->Q (.ref t) (upd H2 t (.tup [.str (oq (zS S D)),.non])):=λH2 s2 e=>⟨by decide,λt ht=>q t _ (s2.trans (.of (zD ht _))) (by rw[zA,e])⟩;cases hj:zS S D with
 | some c =>
  rw[hj] at last;rwa[Sw (ZC c) (yR ⟨_,rfl,last _ s1 rfl⟩)]
 | none =>
  rw[hj] at last q;erw[ifSt ?_];have hv1:=hv.to s1;obtain⟨t,xs,rfl,ht⟩:=fC hv1;erw[_,U,t,_,0,.str (oU D),U,U,.inr (SqT.of ht),wZ (xs:=.str (oU D)::xs) (j:=0) rfl,sz2,λz1 hz1=>?_];have sz:=zD hz1 (.tup [.str "bearing",.str "range"]);have s2:=s1.trans (yY.of sz);erw[z1,_,U,.inr (SqT.of zA),U,U,_,U,Ux (λz=>?_) (λz=>?_)]
  ·obtain⟨m,b,r,n,lw⟩:=lw;erw[_,U,d,.int S.coming,U,.inl ⟨_,.inr "next",s2.rd id lw.at_,U,xz.symm⟩,sz2,λtt htt=>?_];have e:(aft S D).coming=S.coming+1:=by cases D <;> first | rfl | exact nomatch (show Ir=Iq from z)
   exact q tt _ (s2.trans (.of (zD htt _))) (by rw[zA]; show _=Io (HO.tup [_,fh S _]); rw[az e]; rfl)
  ·exact⟨_,U,last _ s2 (Zt (by cases D <;> first | rfl | exact nomatch (show Iq=Ir from z)))⟩
def nG(_:b7):Sp:=λvs H Q _=>∃(b dx:b9),vs=[.ref b]/\H b=Io (.ins bkC dx []) /\
 ∀(p l:b9)(H':Hp),yY (λx=>x=b) H H'->H p=Ip->H l=Ip->BkL bkC H' b p l BS.nil [] []->Q .non H'
def ZU(F:Fun K "__init__" "Book.__init__" pT f fd)(Z:Zs mg)(CB:Cb P w mg base)(yAn:Has P w K mg base "nothing_yet" 1 [] (zg K)):yX P w K mg base CX0 2 f fd ["self"] (nG K):=by
 specialize ak
 ·obtain⟨b,dx,rfl,_⟩:=h;rfl
 obtain⟨b,dx,rfl,hb,q⟩:=h
 refine'⟨_,(zC (qQ CB.state (pv 0) (jB yAn (hr.mono (by decide)) rfl))
   (zC (qQ CB.past (pv 0) ?_)
   (zG (qQ CB.later (pv 0) ?_)))),?_⟩
 nofun
 refine⟨U,λd H1 s1 fd0 st=>?_⟩;have hb1:=s1 _ _ hb;exists _,U,b,dx,[],U,hb1,(by show 0<1000; decide);refine⟨sz0,λp hp=>?_⟩;have nbp:b≠p:=zF zA hp;exists _,U,b,dx,_,U,(by rw[zH nbp,zA]),(by show 1<1000; decide);refine⟨sz0,λl hl=>?_⟩;have nbl:b≠l:=zF zA hl;have npl:p≠l:=λz=>by
  rw[<- z,zH nbp.symm,zA] at hl;cases hl
 exists _,U,b,dx,_,U,(by rw[zH nbl,zA]),(by show 2<1000; decide);rw[VC];have hp1:H1 p=none:=by rw[zH nbp.symm] at hp; rwa[hp]
 have hl1:H1 l=none:=by rw[zH nbl.symm,zH npl.symm,zH nbl.symm] at hl; rwa[hl]
 have sE:yY (λx=>x=b) H1 (upd (upd (upd (upd (upd H1 b (.ins bkC dx (pb "state" (.ref d) []))) p (.lst [])) b (.ins bkC dx (pb "past" (.ref p) (pb "state" (.ref d) [])))) l (.lst [])) b (.ins bkC dx (bkF d p l))):=λx o hx e=>by
  have n1:=zF e hp1;have n2:=zF e hl1;rw[zH hx,zH n2,zH hx,zH n1,zH hx];rwa[.inl e]
 have nd:∀ a kvs,Rd H1 a (.dK kvs)->¬ a=b:=λa kvs h z=>by
  subst z;rcases h with h | ⟨o,h⟩ <;> rw[hb1] at h <;> cases h
 have np:∀ a xs,H1 a=Io (.tup xs)->¬ a=b:=λa xs h z=>by
  subst z;rw[hb1] at h;cases h
 erw[q p l _ ((yY.of s1).trans sE) (s1.free hp1) (s1.free hl1) ⟨dx,d,[],[],zA,st.samE sE nd np,?_,?_,rfl,rfl,npl.symm⟩]
 ·rw[zH nbp.symm,zH npl,zH nbp.symm,zA]
 ·rw[zH nbl.symm,zA]
def oF(_:b7):Sp:=λvs H Q _=>∃(b x y t dx d d0 p l:b9)(v:V)(xs ys:List V),vs=[.ref b,.ref x,.ref y]/\H b=Io (.ins bkC dx (bkF d p l))/\H x=Io (.lst (xs++[.ref t]))/\H y=Io (.lst ys)/\x≠y/\H t=Io (.tup [v,.ref d0])/\ys.length<=500 /\
 ∀ t',H t'=Ip->Q v (upd (upd (upd (upd H x (.lst xs)) t' (.tup [v,.ref d])) y (.lst (ys++[.ref t']))) b (.ins bkC dx (bkF d0 p l)))
def aN(F:Fun K "step" "Book.step" pC f fd)(Z:Zs mg)(CB:Cb P w mg base)  : yX P w K mg base CX0 1 f fd ["self","taken","given"] (oF K):=by
 specialize jR
 ·obtain⟨b,x,y,t,dx,d,d0,p,l,v,xs,ys,rfl,_⟩:=h;rfl
 obtain⟨b,x,y,t,dx,d,d0,p,l,v,xs,ys,rfl,hb,hx,hy,nxy,ht,hl,q⟩:=h
 refine'⟨_,(zC (yD 3 jR.nd (Tu Ec PySem.F.slot_list_pop PySem.F.type_list_pop UX (pv 1)))
   (zC (yC (iV (pv 2) (zB (yV (zB ?_ (zB (xK CB.state (pv 0)) zI))) zI)))
   (zC (qQ CB.state (pv 0) ?_)
   (zG (zM ?_))))),?_⟩
 nofun
 have nbx:b≠x:=oJ hb hx (λz=>nomatch z);have nby:b≠y:=oJ hb hy (λz=>nomatch z);have ntx:t≠x:=oJ ht hx (λz=>nomatch z);have nty:t≠y:=oJ ht hy (λz=>nomatch z);have nbt:b≠t:=oJ hb ht (λz=>nomatch z);erw[_,U,.inl ⟨U,_,SqL.of hx⟩,x,xs++[.ref t],.ref t,U,U,hx,by simp,?_];rw[List.dropLast_concat];have b1:upd H x (.lst xs) b=Io (.ins bkC dx (bkF d p l)):=by rw[zH nbx]; rwa[hb]
 have y1:upd H x (.lst xs) y=Io (.lst ys):=by rw[zH nxy.symm]; rwa[hy]
 have t1:upd H x (.lst xs) t=Io (.tup [v,.ref d0]):=by rw[zH ntx]; rwa[ht]
 erw[_,U,.inl ⟨U,_,SqL.of y1⟩,_,U,t,_,0,v,U,U,.inr (SqT.of t1),U,_,U,b,dx,_,_,U,b1,tT,sz2,λt' ht'=>?_];have ntx':t'≠x:=λz=>by rw[z,zA] at ht'; cases ht'
 have hH:H t'=none:=by rw[zH ntx'] at ht'; rwa[ht']
 have s2:=zD ht' (.tup [v,.ref d]);have nyt:y≠t':=zF hy hH;have nbt':b≠t':=zF hb hH;have ntt:t≠t':=zF ht hH;exists y,ys,.ref t',U,U,s2 _ _ y1,zT (by lia);have t3:upd (upd (upd H x (.lst xs)) t' (.tup [v,.ref d])) y (.lst (ys++[.ref t'])) t=Io (.tup [v,.ref d0]):=by rw[zH nty]; rwa[s2 _ _ t1]
 have b3:upd (upd (upd H x (.lst xs)) t' (.tup [v,.ref d])) y (.lst (ys++[.ref t'])) b=Io (.ins bkC dx (bkF d p l)):=by rw[zH nby]; rwa[s2 _ _ b1]
 exists _,U,t,_,1,.ref d0,U,U,.inr (SqT.of t3),U,_,U,b,dx,_,U,b3,(by show 3<1000; decide);rw[yq];have t4:upd (upd (upd (upd H x (.lst xs)) t' (.tup [v,.ref d])) y (.lst (ys++[.ref t']))) b (.ins bkC dx (bkF d0 p l)) t=Io (.tup [v,.ref d0]):=by rw[zH nbt.symm]; rwa[t3]
 rwa[_,U,t,_,0,v,U,U,.inr (SqT.of t4),U,q t' hH]
def gh(_:b7):Sp:=λvs H Q E=>∃(b p l:b9)(S:BS)(past later:List (Deed×BS)),vs=[.ref b]/\BkL bkC H b p l S past later/\later.length<=400/\past.length<=400 /\
 (∀(pre:List (Deed×BS))(D:Deed)(S0:BS),past=pre++[(D,S0)]->∀(v:V)(H':Hp),yY (Bl b p l) H H'->BkL bkC H' b p l S0 pre (later++[(D,S)])->Rep H' D.dt v->Q v H')/\(past=[]->∀ H',Sam H H'->E (.ref yM) Ip H')
def aH(F:Fun K "undo" "Book.undo" pU f fd)(Z:Zs mg)(CB:Cb P w mg base)(h_b_step:jP P w K mg base lJ 1 ["self","taken","given"] (oF K)):yX P w K mg base (CX1 P w) 2 f fd ["self"] (gh K):=by
 erw[F.okX ZJ (λvs H Q E h=>?_) (λcdv A outer s H vs Q E hr h=>?_)]
 ·obtain⟨b,p,l,S,past,later,rfl,_⟩:=h;rfl
 obtain⟨b,p,l,S,past0,later,rfl,⟨dx,d,ps,ls,k⟩,hl,hpl,q,bad⟩:=h;have no:∀{d l:b9}{m:g8},m = "step" ->(bkF d p l).lookup m=none:=λ{d l m} e=>by subst e; rwa[jC (by ac_nf) (by ac_nf) (by ac_nf)]
 refine'⟨_,(zC (zX (yH (XH hr.units0) (xK CB.past (pv 0)) ?_ (yS _)) (zG (xB (λ_=>E) CB.e_NothingLeft d5 (by decide) d5 xE (zB zK zI))) zN)
   (zG (PS.nox (zM (dM CB.m_step h_b_step (hr.mono (by decide)) (pv 0) (zB (xK CB.past (pv 0)) (zB (xK CB.later (pv 0)) zI))))))),?_⟩
 nofun
 rcases EY past0 with rfl | ⟨past,⟨D,S0⟩,rfl⟩
 ·erw[_,U,b,dx,_,_,U,k.ob,wr,sz0,λe he=>?_];have s1:=zD he (.lst []);have K1:=k.to (.of s1);have z:ps=[]:=K1.pp;have pa2:=K1.pa;rw[z] at pa2;rwa[p,e,[],U,U,SqL.of pa2,SqL.of zA,_,U,xV ⟨sz1,bad rfl _ (.of s1)⟩]
 rw[EZ] at k hpl q
 replace q:=q past D S0 rfl
 replace hpl:past.length<=400:=by rw[f8] at hpl; lia
 obtain⟨ys,t,d0,v,rfl,k1,k2,k3,k4⟩:=k.pp.split;have nlp:=k.ne;have nbp:b≠p:=oJ k.ob k.pa (λz=>nomatch z);have nbl:b≠l:=oJ k.ob k.la (λz=>nomatch z);erw[_,U,b,dx,_,_,U,k.ob,wr,sz0,λe he=>?_];have s1:=zD he (.lst []);have K1:=k.to (.of s1);obtain⟨rs,ers⟩:=K1.pp.refs;have pa2:=K1.pa;rw[ers] at pa2;exists p,e,rs,U,U,SqL.of pa2,SqL.of zA,_,rfl;have nrs:rs≠[]:=λz=>by rw[z] at ers; simp at ers
 have em:rs.isEmpty=false:=by
  cases rs with
  | nil=>rwa[x5 rfl nrs]
  | cons=>rfl
 rw[em];erw[yR ?_];erw[_,U,b,dx,_,U,K1.ob,no rfl,_,U,b,dx,_,_,U,K1.ob,wr,_,U,b,dx,_,_,U,K1.ob,xy,b,p,l,t,dx,d,d0,p,l,v,ys,ls,U,K1.ob,K1.pa,K1.la,nlp.symm,s1 _ _ k2,by rw[k.ll.len]; lia,λt' ht'=>?_];have ntp:t'≠p:=λz=>by rw[z,K1.pa] at ht'; cases ht'
 have ntl:l≠t':=zF K1.la ht';have ntb:b≠t':=zF K1.ob ht';have sE:yY (Bl b p l) (upd H e (.lst [])) (upd (upd (upd (upd (upd H e (.lst [])) p (.lst ys)) t' (.tup [v,.ref d])) l (.lst (ls++[.ref t']))) b (.ins bkC dx (bkF d0 p l))):=λx o hx h=>by
  have n1:x≠b:=λz=>hx (.inl z);have n2:x≠p:=λz=>hx (.inr (.inl z));have n3:x≠l:=λz=>hx (.inr (.inr z));rw[zH n1,zH n3,zH (zF h ht'),zH n2];rwa[.inl h]
 have nd:=ZG K1.ob K1.pa K1.la;have np:=au K1.ob K1.pa K1.la;erw[q v _ ((yY.of s1).trans sE) ⟨dx,d0,ys,ls++[.ref t'],zA,(k4.to (.of s1)).samE sE nd np,?_,?_,(k1.samE (.of s1) (λ_ _ _=>id) (λ_ _ _=>id)).samE sE nd np,xM.app ?_ ((k3.to (.of s1)).sam sE np) (K1.st.samE sE nd np) (K1.ll.samE sE nd np),nlp⟩ ((k3.to (.of s1)).sam sE np)]
 ·rw[zH nbp.symm,zH nlp.symm,zH ntp.symm,zA]
 ·rw[zH nbl.symm,zA]
 ·rw[zH ntb.symm,zH ntl.symm,zA]
def gB(_:b7):Sp:=λvs H Q E=>∃(b p l:b9)(S:BS)(past later:List (Deed×BS)),vs=[.ref b]/\BkL bkC H b p l S past later/\later.length<=400/\past.length<=400 /\
 (∀(pre:List (Deed×BS))(D:Deed)(S0:BS),later=pre++[(D,S0)]->∀(v:V)(H':Hp),yY (Bl b p l) H H'->BkL bkC H' b p l S0 (past++[(D,S)]) pre->Rep H' D.dt v->Q v H')/\(later=[]->∀ H',Sam H H'->E (.ref yM) Ip H')
def bX(F:Fun K "redo" "Book.redo" pW f fd)(Z:Zs mg)(CB:Cb P w mg base)(h_b_step:jP P w K mg base lJ 1 ["self","taken","given"] (oF K)):yX P w K mg base (CX1 P w) 2 f fd ["self"] (gB K):=by
 erw[F.okX bL (λvs H Q E h=>?_) (λcdv A outer s H vs Q E hr h=>?_)]
 ·obtain⟨b,p,l,S,past,later,rfl,_⟩:=h;rfl
 obtain⟨b,p,l,S,past,later0,rfl,⟨dx,d,ps,ls,k⟩,hl,hpl,q,bad⟩:=h;have no:∀{d l:b9}{m:g8},m = "step" ->(bkF d p l).lookup m=none:=λ{d l m} e=>by subst e; rwa[jC (by ac_nf) (by ac_nf) (by ac_nf)]
 refine'⟨_,(zC (zX (yH (XH hr.units0) (xK CB.later (pv 0)) ?_ (yS _)) (zG (xB (λ_=>E) CB.e_NothingLeft d5 (by decide) d5 xE (zB zK zI))) zN)
   (zG (PS.nox (zM (dM CB.m_step h_b_step (hr.mono (by decide)) (pv 0) (zB (xK CB.later (pv 0)) (zB (xK CB.past (pv 0)) zI))))))),?_⟩
 nofun
 rcases EY later0 with rfl | ⟨later,⟨D,S0⟩,rfl⟩
 ·erw[_,U,b,dx,_,_,U,k.ob,xy,sz0,λe he=>?_];have s1:=zD he (.lst []);have K1:=k.to (.of s1);have z:ls=[]:=K1.ll;have pa2:=K1.la;rw[z] at pa2;rwa[l,e,[],U,U,SqL.of pa2,SqL.of zA,_,U,xV ⟨sz1,bad rfl _ (.of s1)⟩]
 rw[EZ] at k hl q
 replace q:=q later D S0 rfl
 replace hl:later.length<=400:=by rw[f8] at hl; lia
 obtain⟨ys,t,d0,v,rfl,k1,k2,k3,k4⟩:=k.ll.split;have nlp:=k.ne;have nbp:b≠p:=oJ k.ob k.pa (λz=>nomatch z);have nbl:b≠l:=oJ k.ob k.la (λz=>nomatch z);erw[_,U,b,dx,_,_,U,k.ob,xy,sz0,λe he=>?_];have s1:=zD he (.lst []);have K1:=k.to (.of s1);obtain⟨rs,ers⟩:=K1.ll.refs;have pa2:=K1.la;rw[ers] at pa2;exists l,e,rs,U,U,SqL.of pa2,SqL.of zA,_,rfl;have nrs:rs≠[]:=λz=>by rw[z] at ers; simp at ers
 have em:rs.isEmpty=false:=by
  cases rs with
  | nil=>rwa[x5 rfl nrs]
  | cons=>rfl
 rw[em];erw[yR ?_];erw[_,U,b,dx,_,U,K1.ob,no rfl,_,U,b,dx,_,_,U,K1.ob,xy,_,U,b,dx,_,_,U,K1.ob,wr,b,l,p,t,dx,d,d0,p,l,v,ys,ps,U,K1.ob,K1.la,K1.pa,nlp,s1 _ _ k2,by rw[k.pp.len]; lia,λt' ht'=>?_];have ntl:t'≠l:=λz=>by rw[z,K1.la] at ht'; cases ht'
 have ntp:p≠t':=zF K1.pa ht';have ntb:b≠t':=zF K1.ob ht';have sE:yY (Bl b p l) (upd H e (.lst [])) (upd (upd (upd (upd (upd H e (.lst [])) l (.lst ys)) t' (.tup [v,.ref d])) p (.lst (ps++[.ref t']))) b (.ins bkC dx (bkF d0 p l))):=λx o hx h=>by
  have n1:x≠b:=λz=>hx (.inl z);have n2:x≠p:=λz=>hx (.inr (.inl z));have n3:x≠l:=λz=>hx (.inr (.inr z));rw[zH n1,zH n2,zH (zF h ht'),zH n3];rwa[.inl h]
 have nd:=ZG K1.ob K1.pa K1.la;have np:=au K1.ob K1.pa K1.la;erw[q v _ ((yY.of s1).trans sE) ⟨dx,d0,ps++[.ref t'],ys,zA,(k4.to (.of s1)).samE sE nd np,?_,?_,xM.app ?_ ((k3.to (.of s1)).sam sE np) (K1.st.samE sE nd np) (K1.pp.samE sE nd np),(k1.samE (.of s1) (λ_ _ _=>id) (λ_ _ _=>id)).samE sE nd np,nlp⟩ ((k3.to (.of s1)).sam sE np)]
 ·rw[zH nbp.symm,zA]
 ·rw[zH nbl.symm,zH nlp,zH ntl.symm,zA]
 ·rw[zH ntb.symm,zH ntp.symm,zA]
def hZ(_:b7):Sp:=λvs H Q _=>∃(b p l:b9)(w:Int)(S:BS)(past later:List (Deed×BS)),vs=[.ref b,.int w]/\BkL bkC H b p l S past later/\later.length<=400/\past.length<=400/\(w=0\/w=1) /\
 (w=0->∀(pre:List (Deed×BS))(D:Deed)(S0:BS),past=pre++[(D,S0)]->∀(t:b9)(v:V)(H':Hp),yY (Bl b p l) H H'->BkL bkC H' b p l S0 pre (later++[(D,S)])->Rep H' D.dt v->H' t=Io (.tup [.str "",v])->Q (.ref t) H') /\
 (w=1->∀(pre:List (Deed×BS))(D:Deed)(S0:BS),later=pre++[(D,S0)]->∀(t:b9)(v:V)(H':Hp),yY (Bl b p l) H H'->BkL bkC H' b p l S0 (past++[(D,S)]) pre->Rep H' D.dt v->H' t=Io (.tup [.str "",v])->Q (.ref t) H') /\
 ((w=0->past=[])->(w=1->later=[])->∀(t:b9)(H':Hp),Sam H H'->H' t=Io (.tup [.str "NothingLeft",.non])->Q (.ref t) H')
def ao(F:Fun K "_law_went" "_law_went" pO f fd)(Z:Zs mg)(CB:Cb P w mg base)(h_b_undo:cA P w K mg base fK 2 ["self"] (gh K))(h_b_redo:cA P w K mg base fE 2 ["self"] (gB K))(yBj:Sz P w K mg base "_law_refused" 1 ["_law_e"] (yi K)):yX P w K mg base CX0 3 f fd ["_law_book","_law_way_here"] (hZ K):=by
 specialize iB
 ·obtain⟨b,p,l,w,S,past,later,rfl,_⟩:=h;rfl
 obtain⟨b,p,l,w,S,past,later,rfl,bk,ll,lp,hw,q1,q2,q3⟩:=h;obtain⟨dx,d,ps,ls,k⟩:=id bk;have no:∀{d l:b9}{m:g8},m = "undo" \/ m = "redo" ->(bkF d p l).lookup m=none:=λ{d l m} e=>by rcases e with e | e <;> subst e <;> rwa[jC (by ac_nf) (by ac_nf) (by ac_nf)]
 refine'⟨_,(zG (XJ (i:=2) (λ_ EE=>(zG (zM (yV (zB zK (zB (vT ?_ (ir EE CB.m_undo h_b_undo lH (hr.mono (by decide)) (pv 0)) (ir EE CB.m_redo h_b_redo lH (hr.mono (by decide)) (pv 0))) zI)))))) CB.gMarkError iB.nd rfl rfl (λ_=>(zG (zM (yV (zB (eP yBj (hr.mono (by decide)) rfl (zB (pv 2) zI)) (zB dQ zI)))))))),?_⟩
 nofun
 rcases hw with rfl | rfl
 ·erw[_,U,U,_,U,xV ?_];erw[_,U,b,dx,_,U,k.ob,no (.inl rfl),b,p,l,S,past,later,U,bk,ll,lp,λpre D S0 e v H1 s1 bk1 rv=>?_,λe H1 s1=>?_]
  ·erw[sz2,λt ht=>?_];have st:=zD ht (.tup [.str "",v]);rwa[q1 rfl pre D S0 e t v _ (s1.trans (.of st)) (bk1.to (.of st)) (rv.to (.of st)) zA]
  ·skip
   erw[CB.t_NothingLeft_MarkError,λea he=>?_];have se:=zD he (bF ea (.ref yM));erw[_,U,Ip,U,zA,λH2 s2=>⟨sz2,λt ht=>?_⟩];have st:=zD ht (.tup [.str "NothingLeft",.non]);exact q3 (λ_=>e) (λz=>nomatch z) t _ (s1.trans (.of ((se.trans s2).trans st))) zA
 ·erw[_,U,U,_,U,yR ?_];erw[_,U,b,dx,_,U,k.ob,no (.inr rfl),b,p,l,S,past,later,U,bk,ll,lp,λpre D S0 e v H1 s1 bk1 rv=>?_,λe H1 s1=>?_]
  ·erw[sz2,λt ht=>?_];have st:=zD ht (.tup [.str "",v]);rwa[q2 rfl pre D S0 e t v _ (s1.trans (.of st)) (bk1.to (.of st)) (rv.to (.of st)) zA]
  ·skip
   erw[CB.t_NothingLeft_MarkError,λea he=>?_];have se:=zD he (bF ea (.ref yM));erw[_,U,Ip,U,zA,λH2 s2=>⟨sz2,λt ht=>?_⟩];have st:=zD ht (.tup [.str "NothingLeft",.non]);exact q3 (λz=>nomatch z) (λ_=>e) t _ (s1.trans (.of ((se.trans s2).trans st))) zA
def mX(_:b7):Sp:=λvs H Q _=>∃(b p:b9)(S:BS)(past later:List (Deed×BS)),vs=[.ref b]/\gK bkC H b p S past later/\past.length<=500 /\
 ∀(g:b9)(xs:List V)(H':Hp),Same H H'->H g=Ip->H' g=Io (.lst xs)->xN H' (past.map (·.1.dt)) xs->Q (.ref g) H'
def cI(F:Fun K "deeds" "Book.deeds" va f fd)(Z:Zs mg)(CB:Cb P w mg base)  : yX P w K mg base CX0 1 f fd ["self"] (mX K):=by
 specialize cM
 ·obtain⟨b,p,S,past,later,rfl,_⟩:=h;rfl
 obtain⟨b,p,S,past,later,rfl,⟨dx,d,l,ps,ls,k⟩,hl,q⟩:=h
 refine'⟨_,(zG (zM (vA (T:=["pair"]) (caps:=[]) ⟨rfl,by ac_nf,by ac_nf,rfl,t5⟩ rfl (eF (xK CB.past (pv 0))) (λ_=>(qL 0 (show(["pair"]:List g8).Nodup by ac_nf))) (λ_=>xX) (λ_=>?_)))),?_⟩
 nofun
 have lp:=k.pp.len;refine⟨_,U,b,dx,_,_,U,k.ob,wr,p,U,.inl ⟨⟨_,SqL.of k.pa⟩,λc g hg=>?_⟩⟩;refine lh (K:=K) (a:=p) (xs:=ps) (λi σ zs H'=>Same H H'/\H' g=Io (.lst zs)/\zs.length<=i/\xN H' ((past.take i).map (·.1.dt)) zs/\∃ u:Option V,σ=[u])
  ⟨zD hg _,zA,d6 _,zY.mpr rfl,Ip,rfl⟩ (λi σ zs H' _ ⟨sH,e,_⟩=>⟨SqL.of (sH _ _ k.pa),e⟩) ?_ ?_
 ·rintro i x σ zs H' hi ⟨sH,eg,lz,rz,u,rfl⟩;have il:=(g9.mp hi).1;obtain⟨e,t,d',v,ge,rfl,ht,rv⟩:=(k.pp).get hi;erw[_,U,t,_,0,v,U,U,.inr (SqT.of (sH _ _ ht)),U,eg,zT (by lia),sH.putNew hg,zA,by rw[f8]; simp only[m9,Ax]; lia,?_,_,rfl];have sE:=uC (o:=.lst (zs++[v])) eg;have np:=lD eg;rw[w6,ge,i8];exact(xN.app rz (.one (rv.to (.of sH)))).sam sE np
 ·rintro σ zs H' ⟨sH,eg,lz,rz,u,rfl⟩;rw[lp,Am] at rz;rwa[q g zs H' sH hg eg rz]
def nj(_:b7):Sp:=λvs H Q _=>∃(b p:b9)(S:BS)(past later:List (Deed×BS)),vs=[.ref b]/\gK bkC H b p S past later/\later.length<=500 /\
 ∀(g:b9)(xs:List V)(H':Hp),Same H H'->H g=Ip->H' g=Io (.lst xs)->xN H' (later.reverse.map (·.1.dt)) xs->Q (.ref g) H'
def gP(F:Fun K "undone" "Book.undone" xv f fd)(Z:Zs mg)(CB:Cb P w mg base)  : yX P w K mg base CX0 1 f fd ["self"] (nj K):=by
 specialize fo
 ·obtain⟨b,p,S,past,later,rfl,_⟩:=h;rfl
 obtain⟨b,p,S,past,later,rfl,⟨dx,d,l,ps,ls,k⟩,hl,q⟩:=h
 refine'⟨_,(zG (zM (vA (T:=["pair"]) (caps:=[]) ⟨rfl,by ac_nf,by ac_nf,rfl,t5⟩ rfl (UJ rfl Z.reversed (zB (xK CB.later (pv 0)) zI)) (λ_=>(qL 0 (show(["pair"]:List g8).Nodup by ac_nf))) (λ_=>xX) (λ_=>?_)))),?_⟩
 nofun
 have lp:=k.ll.len;refine⟨_,U,b,dx,_,_,U,k.ob,xy,l,ls,U,SqL.of k.la,λc g hg=>?_⟩;refine kh (φ:=λH=>SqL K H l ls) (xs:=ls.reverse) (λi σ zs H'=>Same H H'/\H' g=Io (.lst zs)/\zs.length<=i/\xN H' ((later.reverse.take i).map (·.1.dt)) zs/\∃ u:Option V,σ=[u])
  ⟨zD hg _,zA,d6 _,zY.mpr rfl,Ip,rfl⟩ (λi σ zs H' ⟨sH,e,_⟩=>⟨SqL.of (sH _ _ k.la),e⟩) ?_ ?_
 ·rintro i x σ zs H' hi ⟨sH,eg,lz,rz,u,rfl⟩;have il:=(g9.mp hi).1;rw[AE] at il;rw[CZ il] at hi;obtain⟨e,t,d',v,ge,rfl,ht,rv⟩:=(k.ll).get hi;have ge':later.reverse[i]?=Io e:=by rw[CZ (by lia),<- lp]; rwa[ge]
  erw[_,U,t,_,0,v,U,U,.inr (SqT.of (sH _ _ ht)),U,eg,zT (by lia),sH.putNew hg,zA,by rw[f8]; simp only[m9,Ax]; lia,?_,_,rfl];have sE:=uC (o:=.lst (zs++[v])) eg;have np:=lD eg;rw[w6,ge',i8];exact(xN.app rz (.one (rv.to (.of sH)))).sam sE np
 ·rintro σ zs H' ⟨sH,eg,lz,rz,u,rfl⟩;rw[AE,lp,<- AE,Am] at rz;rwa[q g zs H' sH hg eg rz]
def jY(_:b7):Sp:=λvs H Q _=>∃(b p l:b9)(S:BS)(past later:List (Deed×BS)),vs=[.ref b]/\BkL bkC H b p l S past later/\past.length<=400/\later.length<=400 /\
 ∀(b' p' l':b9)(H':Hp),Sam H H'->H b'=Ip->H p'=Ip->H l'=Ip->BkL bkC H' b' p' l' S past later->Q (.ref b') H'
def aY(F:Fun K "twin" "Book.twin" pV f fd)(Z:Zs mg)(CB:Cb P w mg base)(h_b_init:jP P w K mg base lK 2 ["self"] (nG K)):yX P w K mg base CX0 4 f fd ["self"] (jY K):=by
 specialize je
 ·obtain⟨b,p,l,S,past,later,rfl,_⟩:=h;rfl
 obtain⟨b,p,l,S,past,later,rfl,bk,lp,ll,q⟩:=h;refine⟨_,(zC (qD (i:=1) je.nd rfl (A4 rfl) (iO CB.make h_b_init (hr.mono (by decide)) CB.gBook))
   (zC (qQ CB.state (pv 1) (xK CB.state (pv 0)))
   (zC (qQ CB.past (pv 1) (xC rJ rfl Z.list qT (zB (xK CB.past (pv 0)) zI)))
   (zC (qQ CB.later (pv 1) (xC rJ rfl Z.list qT (zB (xK CB.later (pv 0)) zI)))
   (zG (zM (pv 1))))))),?_⟩
 try dsimp only[L2.cxOf]
 intro bn dn hbn hdn nbd;refine⟨bn,dn,U,zA,λp0 l0 H1 s1 hp0 hl0 bl0=>⟨U,?_⟩⟩;have sA:Sam H H1:=λx v _ e=>by
  have n:x≠bn:=zF e hbn;rwa[s1 x v n (by rw[zH n,zH (zF e hdn)]; exact e)]
 have bk1:=bk.to sA;obtain⟨dx,d,ps,ls,k⟩:=id bk1;obtain⟨dz,d0,ps0,ls0,k0⟩:=id bl0;have nbn:b≠bn:=by obtain⟨_,_,_,_,kk⟩:=id bk; rwa[zF kk.ob hbn]
 exists _,U,b,dx,_,_,U,k.ob,tT;exists _,U,bn,dz,_,U,k0.ob,(by show 3<1000; decide);rw[yq];have ob1:upd H1 bn (.ins bkC dz (bkF d p0 l0)) b=Io (.ins bkC dx (bkF d p l)):=by rw[zH nbn]; rwa[k.ob]
 have npn:p≠bn:=λz=>by have:=k.pa; rw[z,k0.ob] at this; cases this
 have nln:l≠bn:=λz=>by have:=k.la; rw[z,k0.ob] at this; cases this
 have pa1:upd H1 bn (.ins bkC dz (bkF d p0 l0)) p=Io (.lst ps):=by rw[zH npn]; rwa[k.pa]
 have la1:upd H1 bn (.ins bkC dz (bkF d p0 l0)) l=Io (.lst ls):=by rw[zH nln]; rwa[k.la]
 have on1:upd H1 bn (.ins bkC dz (bkF d p0 l0)) bn=Io (.ins bkC dz (bkF d p0 l0)):=zA;have sE:yY (λx=>x=bn) H1 (upd H1 bn (.ins bkC dz (bkF d p0 l0))):=λx o n e=>.inl (by rw[zH n]; rwa[e]);generalize upd H1 bn (.ins bkC dz (bkF d p0 l0))=H2 at ob1 pa1 la1 on1 sE ⊢;erw[_,U,b,dx,_,_,U,ob1,wr,p,ps,U,.inl (SqL.of pa1),λpn hpn=>?_];have u1:=zD hpn (.lst ps);exists _,U,bn,dz,_,U,u1 _ _ on1,(by show 3<1000; decide);rw[fj];have npb:pn≠bn:=(zF on1 hpn).symm;have ob2:upd (upd H2 pn (.lst ps)) bn (.ins bkC dz (bkF d pn l0)) b=Io (.ins bkC dx (bkF d p l)):=by rw[zH nbn]; rwa[u1 _ _ ob1]
 have la2:upd (upd H2 pn (.lst ps)) bn (.ins bkC dz (bkF d pn l0)) l=Io (.lst ls):=by rw[zH nln]; rwa[u1 _ _ la1]
 have on2:upd (upd H2 pn (.lst ps)) bn (.ins bkC dz (bkF d pn l0)) bn=Io (.ins bkC dz (bkF d pn l0)):=zA;have ep2:upd (upd H2 pn (.lst ps)) bn (.ins bkC dz (bkF d pn l0)) pn=Io (.lst ps):=by rw[zH npb]; rwa[zA]
 have sE2:yY (λx=>x=bn) H2 (upd (upd H2 pn (.lst ps)) bn (.ins bkC dz (bkF d pn l0))):=λx o n e=>.inl (by rw[zH n]; exact u1 _ _ e);generalize upd (upd H2 pn (.lst ps)) bn (.ins bkC dz (bkF d pn l0))=H3 at ob2 la2 on2 ep2 sE2 ⊢;refine⟨_,U,b,dx,_,_,U,ob2,xy,l,ls,U,.inl (SqL.of la2),λln hln=>?_⟩;have u2:=zD hln (.lst ls);exists _,U,bn,dz,_,U,u2 _ _ on2,(by show 3<1000; decide);rw[qo];have nlb:ln≠bn:=(zF on2 hln).symm;have npl:ln≠pn:=(zF ep2 hln).symm;have sE3:yY (λx=>x=bn) H3 (upd (upd H3 ln (.lst ls)) bn (.ins bkC dz (bkF d pn ln))):=λx o n e=>.inl (by rw[zH n]; exact u2 _ _ e);have sN:yY (λx=>x=bn) H1 (upd (upd H3 ln (.lst ls)) bn (.ins bkC dz (bkF d pn ln))):=sE.trans (sE2.trans sE3);have nd:∀ a kvs,Rd H1 a (.dK kvs)->¬ a=bn:=λa kvs h z=>by
  subst z;rcases h with h | ⟨o,h⟩ <;> rw[k0.ob] at h <;> cases h
 have np:∀ a xs,H1 a=Io (.tup xs)->¬ a=bn:=λa xs h z=>by
  subst z;rw[k0.ob] at h;cases h
 have f2:H pn=none:=sA.free id (by
  cases e:H1 pn with
  | none=>rfl
  | some o=>obtain⟨o',z⟩:=sE.some npb e; rw[hpn] at z; cases z)
 have f3:H ln=none:=sA.free id (by
  cases e:H1 ln with
  | none=>rfl
  | some o=>obtain⟨o',z⟩:=(sE.trans sE2).some nlb e; rw[hln] at z; cases z)
 erw[_,U,q bn pn ln _ (λx o _ e=>?_) hbn f2 f3 ⟨dz,d,ps,ls,zA,k.st.samE sN nd np,?_,?_,k.pp.samE sN nd np,k.ll.samE sN nd np,npl⟩]
 ·have n:x≠bn:=zF e hbn;obtain h1 | ⟨ob,kvs,e1,h1⟩:=sA x o id e
  ·rwa[sN x o n h1]
  ·rcases sN x _ n h1 with h | ⟨_,_,z,_⟩
   ·rwa[.inr ⟨ob,kvs,e1,h⟩]
   ·cases z
 ·rw[zH npb];rwa[u2 _ _ ep2]
 ·rw[zH nlb];rwa[zA]
def mC(_:b7):Sp:=λvs H Q _=>∃(b p:b9)(S:BS)(past later:List (Deed×BS)),vs=[.ref b]/\gK bkC H b p S past later/\pQ S /\
 ∀(c:b9)(zs:List V)(H':Hp),Same H H'->H' c=Io (.lst zs)->xN H' (cu S) zs->Q (.ref c) H'
def bh(F:Fun K "marks" "Book.marks" ue f fd)(Z:Zs mg)(CB:Cb P w mg base)  : yX P w K mg base CX0 1 f fd ["self"] (mC K):=by
 specialize lF
 ·obtain⟨b,p,S,past,later,rfl,_⟩:=h;rfl
 obtain⟨b,p,S,past,later,rfl,⟨dx,d,l,ps,ls,k⟩,nt,q⟩:=h;obtain⟨m,bk,r,n,st⟩:=k.st;obtain⟨kvs,hm,kv⟩:=id st.ma;have fm:=nt.well.good.few.ma;refine⟨_,(zC (qD (i:=1) lF.nd rfl (Gd rfl) (zO (zU hr) (xK CB.state (pv 0)) zK (λ_ _=>rfl)))
   (zG (zM (vA (T:=["name"]) (caps:=[("places",1)]) ⟨rfl,by ac_nf,by ac_nf,rfl,⟨⟨rfl,rfl,A4 rfl⟩,t5⟩⟩ rfl (eF (zR iP rfl Z.sorted tE (zB (xC (rf rfl) rfl Z.list qT (zB (pv 1) zI)) zI))) (λ_=>(zw (i:=0) (show(["name","places"]:List g8).Nodup by ac_nf) rfl (A4 rfl))) (λ_=>xX) (λ_=>(yV (zB (pv 0) (zB (gX iF (zO (zU hr) (pv 1) (pv 0) (λ_ _=>rfl)) yL (λ_ _=>rfl)) (zB (gX iF (zO (zU hr) (pv 1) (pv 0) (λ_ _=>rfl)) yL (λ_ _=>rfl)) zI))))))))),?_⟩
 try dsimp only[L2.cxOf]
 refine⟨_,U,b,dx,_,_,U,k.ob,tT,d,.ref m,U,.inl ⟨_,.inr "marks",st.at_,U,tR.symm⟩,_,U,m,kvs,U,hm,λg hg=>?_⟩;rw[kY kv];have s1:=zD hg (.lst ((S.marks.map (·.1)).map V.str));refine⟨g,_,U,SqL.of zA,(by rw[a7]; lia),λt ht=>?_⟩;rw[uj];obtain⟨ms,hms⟩:∃ ms,ms=vX (tU ((S.marks.map (·.1)).map .inr)) S.marks:=⟨_,rfl⟩;rw[<- hms];have lm:ms.length<=60:=by
  have:=gu (S:=S);unfold cu at this;rw[<- hms,a7] at this;lia
 have s2:=s1.trans (zD ht (.lst ((ms.map (·.1)).map V.str)));refine⟨t,U,.inl ⟨⟨_,SqL.of zA⟩,λcc D hD=>?_⟩⟩;refine lh (K:=K) (a:=t) (xs:=(ms.map (·.1)).map V.str) (λi σ zs H'=>Same (upd (upd H g (.lst ((S.marks.map (·.1)).map V.str))) t (.lst ((ms.map (·.1)).map V.str))) H'/\H' D=Io (.lst zs)/\xN H' ((ms.take i).map mkD) zs/\zs.length=i/\∃ u:Option V,σ=[u,Io (.ref m)])
  ⟨zD hD _,zA,zY.mpr rfl,rfl,Ip,rfl⟩ (λi σ zs H' _ hq=>⟨SqL.of (hq.1 _ _ zA),hq.2.1⟩) ?_ ?_
 ·rintro i x σ zs H' hi ⟨sH,eD,rp,lz,u,rfl⟩;rw[v7,e7,j6] at hi;obtain⟨e,hx,rfl⟩:=hi;have me:e∈S.marks:=nW (by rw[<- hms]; rwa[j5 hx]);have hil:=(g9.mp hx).1;obtain⟨kv',a,g1,g2,g3⟩:=nO (st.ma.to (.of (s2.trans sH))) (show zQ S e.1=Io e.2 from qu nt.nm me);have dg:Yj H' m (.str e.1) (Io (.ref a)):=.inl ⟨kv',.inr e.1,g1,rfl,g2.symm⟩;exists _,U,_,U,_,U,m,.ref a,U,dg;erw[a,_,0,.int e.2.1,U,U,.inr (SqT.of g3),U,_,U,_,U,m,.ref a,U,dg,a,_,1,.int e.2.2,U,U,.inr (SqT.of g3),U,sz3,λt3 ht3=>?_];have s4:=zD ht3 (.tup [.str e.1,.int e.2.1,.int e.2.2]);have eD4:=s4 _ _ eD;erw[eD4,zT (by lia),(sH.trans s4).putNew hD,zA,?_,by rw[f8,lz]; rfl,_,rfl];rw[w6,hx,i8];refine(xN.app (rp.to (.of s4)) (.one (yF.mpr ⟨t3,_,rfl,zA,zL.mpr ⟨_,_,rfl,zW.mpr rfl,.two (yB.mpr rfl) (yB.mpr rfl)⟩⟩))).sam (uC eD4) (lD eD4)
 ·rintro σ zs H' ⟨sH,eD,rp,_,u,rfl⟩;rw[a7,a7,Am,hms] at rp;rwa[q D zs H' (s2.trans sH) eD rp]
def mE(_:b7):Sp:=λvs H Q _=>∃(b p:b9)(S:BS)(past later:List (Deed×BS)),vs=[.ref b]/\gK bkC H b p S past later/\pQ S /\
 ∀(c:b9)(zs:List V)(H':Hp),Same H H'->H' c=Io (.lst zs)->xN H' (jl (bkE S.banks)) zs->Q (.ref c) H'
def cH(F:Fun K "banks" "Book.banks" uy f fd)(Z:Zs mg)(CB:Cb P w mg base)  : yX P w K mg base CX0 1 f fd ["self"] (mE K):=by
 specialize cE
 ·obtain⟨b,p,S,past,later,rfl,_⟩:=h;rfl
 obtain⟨b,p,S,past,later,rfl,⟨dx,d,l,ps,ls,k⟩,nt,q⟩:=h;obtain⟨m,bk,r,n,st⟩:=k.st;obtain⟨kvs,hb,kv⟩:=st.ba;have lk:kvs.length=S.banks.length:=by rw[kv.length]; unfold bkE; rw[a7]
 exists _,(zG (zM (zR (qt rfl) rfl Z.sorted tE (zB (pL (zO (zU hr) (xK CB.state (pv 0)) zK (λ_ _=>rfl))) zI))))
 try dsimp only[L2.cxOf]
 erw[_,U,b,dx,_,_,U,k.ob,tT,d,.ref bk,U,.inl ⟨_,.inr "banks",st.at_,U,xm.symm⟩,bk,_,U,hb,λv hv=>?_];have s1:=zD hv (.ext (ww v bk));refine⟨v,bk,kvs,U,zA,Rd.same hb s1,(by have:=nt.well.good.few.ba; lia),(by rw[kv.keys]; rwa[nt.oneB]),(by rw[kv.keys]; rwa[nt.ndB]),λc as H' s2 hc hl e2 ha=>?_⟩;rw[kv.keys] at e2;rwa[q c _ H' (s1.trans s2) e2 (yf (kv.to (.of (s1.trans s2))) hl (λj a e h1 h2=>(ha j a e h1 h2).2) _)]
def gE(_:b7):Sp:=λvs H Q _=>∃(b p:b9)(S:BS)(past later:List (Deed×BS)),vs=[.ref b]/\gK bkC H b p S past later/\Few S /\
 ∀(c:b9)(xs:List V)(H':Hp),Same H H'->H c=Ip->H' c=Io (.lst xs)->xN H' (S.runs.map ptD) xs->Q (.ref c) H'
def bV(F:Fun K "runs" "Book.runs" pP f fd)(Z:Zs mg)(CB:Cb P w mg base)  : yX P w K mg base CX0 1 f fd ["self"] (gE K):=by
 specialize hV
 ·obtain⟨b,p,S,past,later,rfl,_⟩:=h;rfl
 obtain⟨b,p,S,past,later,rfl,⟨dx,d,l,ps,ls,k⟩,few,q⟩:=h;obtain⟨m,bk,r,n,st⟩:=k.st;obtain⟨kvs,hr1,kv⟩:=id st.ru;have lr:kvs.length=S.runs.length:=by rw[kv.length,wj]
 refine⟨_,(zC (qD (i:=1) hV.nd rfl (Gd rfl) (zO (zU hr) (xK CB.state (pv 0)) zK (λ_ _=>rfl)))
   (zG (zM (vA (T:=["number"]) (caps:=[("runs",1)]) ⟨rfl,by ac_nf,by ac_nf,rfl,⟨⟨rfl,rfl,A4 rfl⟩,t5⟩⟩ rfl (sZ rfl Z.range (zB (zR tF rfl Z.len uF (zB (pv 1) zI)) zI)) (λ_=>(zw (i:=0) (show(["number","runs"]:List g8).Nodup by ac_nf) rfl (A4 rfl))) (λ_=>xX) (λ_=>(zO (zU hr) (pv 1) (pv 0) (λ_ _=>rfl))))))),?_⟩
 try dsimp only[L2.cxOf]
 exists _,U,b,dx,_,_,U,k.ob,tT,d,.ref r,U,.inl ⟨_,.inr "runs",st.at_,U,rN.symm⟩,_,U,r,kvs,U,hr1;refine⟨_,U,(by have:=few.ru; lia),(by have:=few.ru; lia),λcc D hD=>wv (lo:=0) (n:=(kvs.length:Int).toNat) (λi σ ys H'=>Same H H'/\H' D=Io (.lst ys)/\xN H' ((S.runs.take i).map ptD) ys/\∃ u:Option V,σ=[u,Io (.ref r)])
  ⟨zD hD _,zA,zY.mpr rfl,Ip,rfl⟩ (λi σ ys H' _ hq=>hq.2.1) ?_ ?_⟩
 ·rintro i σ ys H' hi ⟨sH,eD,rp,u,rfl⟩;have hi':i<S.runs.length:=by lia
  have gi:S.runs[i]?=Io S.runs[i]:=d4 hi';obtain⟨kv',a,g1,g2,g3⟩:=Yv (st.ru.to (.of sH)) gi;refine⟨_,U,_,U,r,.ref a,U,.inl ⟨kv',.inl (i:Int),g1,by rw[HU]; rfl,g2.symm⟩,eD,zT (by rw[rp.length,a7,j8]; have:=few.ru; lia),sH.putNew hD,zA,?_,_,rfl⟩;rw[w6,gi,i8];have sE:yY (λx=>x=D) H' (upd H' D (.lst (ys++[.ref a]))):=λx o hx e=>.inl (by rw[zH hx]; rwa[e]);have np:∀ b xs,H' b=Io (.tup xs)->¬ b=D:=λb xs e z=>by rw[z,eD] at e; cases e
  rwa[xN.app (rp.sam sE np) (.one ((tD g3).sam sE np))]
 ·rintro σ ys H' ⟨sH,eD,rp,u,rfl⟩;rw[show(kvs.length:Int).toNat=S.runs.length by lia,Am] at rp;rwa[q D ys H' sH hD eD rp]
def mI(_:b7):Sp:=λvs H Q _=>∃(b p:b9)(S:BS)(past later:List (Deed×BS)),vs=[.ref b]/\gK bkC H b p S past later/\pQ S /\
 ∀(c:b9)(zs:List V)(H':Hp),Same H H'->H' c=Io (.lst zs)->xN H' (jl (ntE S.notes)) zs->Q (.ref c) H'
def cR(F:Fun K "notes" "Book.notes" vh f fd)(Z:Zs mg)(CB:Cb P w mg base)  : yX P w K mg base CX0 1 f fd ["self"] (mI K):=by
 specialize cT
 ·obtain⟨b,p,S,past,later,rfl,_⟩:=h;rfl
 obtain⟨b,p,S,past,later,rfl,⟨dx,d,l,ps,ls,k⟩,nt,q⟩:=h;obtain⟨m,bk,r,n,st⟩:=k.st;obtain⟨kvs,hb,kv⟩:=st.no;have lk:kvs.length=S.notes.length:=by rw[kv.length]; unfold ntE; rw[a7]
 exists _,(zG (zM (zR (qt rfl) rfl Z.sorted tE (zB (pL (zO (zU hr) (xK CB.state (pv 0)) zK (λ_ _=>rfl))) zI))))
 try dsimp only[L2.cxOf]
 erw[_,U,b,dx,_,_,U,k.ob,tT,d,.ref n,U,.inl ⟨_,.inr "notes",st.at_,U,zx.symm⟩,n,_,U,hb,λv hv=>?_];have s1:=zD hv (.ext (ww v n));refine⟨v,n,kvs,U,zA,Rd.same hb s1,(by have:=nt.well.good.few.no; lia),(by rw[kv.keys]; rwa[nt.oneN]),(by rw[kv.keys]; rwa[nt.ndN]),λc as H' s2 hc hl e2 ha=>?_⟩;rw[kv.keys] at e2;rwa[q c _ H' (s1.trans s2) e2 (yf (kv.to (.of (s1.trans s2))) hl (λj a e h1 h2=>(ha j a e h1 h2).2) _)]
def wo(_:b7):Sp:=λvs H Q _=>∃(b p:b9)(S:BS)(past later:List (Deed×BS)),vs=[.ref b]/\gK bkC H b p S past later/\Q (.int S.coming) H
def fH(F:Fun K "coming" "Book.coming" xq f fd)(Z:Zs mg)(CB:Cb P w mg base)  : yX P w K mg base CX0 1 f fd ["self"] (wo K):=by
 specialize fF
 ·obtain⟨b,p,S,past,later,rfl,_⟩:=h;rfl
 obtain⟨b,p,S,past,later,rfl,⟨dx,d,l,ps,ls,k⟩,q⟩:=h;obtain⟨m,bk,r,n,st⟩:=k.st;exists _,(zG (zM (zO (zU hr) (xK CB.state (pv 0)) zK (λ_ _=>rfl))))
 try dsimp only[L2.cxOf]
 rwa[_,U,b,dx,_,_,U,k.ob,tT,d,.int S.coming,U,.inl ⟨_,.inr "coming",st.at_,U,oR.symm⟩,q]
def aR{H:Hp} : ∀(n:Nat)(d:Dt){x y:V},dep n d->Rep H d x->Rep H d y->DR H n x y
 | n,.int i,x,y,_,h1,h2=>by rw[yB.mp h1,yB.mp h2]; rwa[DR.int rfl]
 | n,.str z,x,y,_,h1,h2=>by rw[zW.mp h1,zW.mp h2]; rwa[DR.str rfl]
 | 0,.tup _,_,_,h,_,_=>h.elim
 | n+1,.tup l,x,y,h,h1,h2=>by
  obtain⟨a,xs,rfl,ha,ra⟩:=yF.mp h1;obtain⟨b,ys,rfl,hb,rb⟩:=yF.mp h2;have hl:l.length<=900:=h.1;erw[.inr ⟨a,b,xs,ys,Ir,rfl,rfl,ha,hb,by rw[ra.length,rb.length],by rw[ra.length]; lia,λi u v g1 g2=>?_⟩];obtain⟨d,e1,r1⟩:=ra.back g1;obtain⟨d',e2,r2⟩:=rb.back g2;rw[e1] at e2;cases e2;rwa[aR n d (h.2 d (j5 e1)) r1 r2]
def sy{H:Hp}{n:Nat}{l:List Dt}{a b:b9}{xs ys:List V}(h:∀ d∈l,dep n d)(hl:l.length<=900)(ha:H a=Io (.lst xs))(hb:H b=Io (.lst ys))(ra:xN H l xs)(rb:xN H l ys):DR H (n+1) (.ref a) (.ref b):=by
 erw[.inr ⟨a,b,xs,ys,Iq,rfl,rfl,ha,hb,by rw[ra.length,rb.length],by rw[ra.length]; lia,λi u v g1 g2=>?_⟩];obtain⟨d,e1,r1⟩:=ra.back g1;obtain⟨d',e2,r2⟩:=rb.back g2;rw[e1] at e2;cases e2;rwa[aR n d (h d (j5 e1)) r1 r2]
def aP{H:Hp}{n:Nat}{a b:b9}{x1 x2 y1 y2:V}(ha:H a=Io (.lst [x1,x2]))(hb:H b=Io (.lst [y1,y2]))(h1:DR H n x1 y1)(h2:DR H n x2 y2):DR H (n+1) (.ref a) (.ref b):=by
 refine .inr ⟨a,b,[x1,x2],[y1,y2],Iq,rfl,rfl,ha,hb,rfl,(by show 2<=1000; decide),λi u v g1 g2=>?_⟩
 match i,g1,g2 with
 | 0,g1,g2=>cases g1; cases g2; rwa[h1]
 | 1,g1,g2=>cases g1; cases g2; rwa[h2]
def ZY(as:List b9)(kvs:List (Key×V)):List (b9×Key×List V):=(as.zip kvs).map λx=>(x.1,x.2.1,[x.2.2])
def eQ{as:List b9}{kvs:List (Key×V)}(h:as.length=kvs.length):(ZY as kvs).map (·.1)=as:=by
 unfold ZY;rw[v7];rwa[Ej (En h)]
def mY{as:List b9}{kvs:List (Key×V)}(h:as.length=kvs.length):(ZY as kvs).map (·.2.1)=kvs.map (·.1):=by
 unfold ZY;rw[v7];have e:=Go (l₁:=as) (l₂:=kvs) (En h.symm);rw[<- congrArg (List.map (·.1)) e,v7];rfl
def bA{H:Hp}{as:List b9}{kvs:List (Key×V)}(ha:∀ (j:Nat) (a:b9) (e:Key×V),as[j]?=Io a->kvs[j]?=Io e->H a=Io (.tup [kV e.1,e.2])):∀ t∈ZY as kvs,H t.1=Io (.tup (kV t.2.1::t.2.2)):=λt ht=>by
 unfold ZY at ht;obtain⟨x,hx,rfl⟩:=i4.mp ht;obtain⟨j,hj⟩:=EV.mp hx;rw[Ct] at hj;rwa[ha j _ _ hj.1 hj.2]
def oo(_:b7):Sp:=λvs H Q _=>∃(b p d:b9)(S:BS)(past later:List (Deed×BS)),vs=[.ref b,.ref d]/\gK bkC H b p S past later/\ZM H d S/\pQ S/\∀ H',Sam H H'->Q (.bl Iq) H'
def fS(F:Fun K "_law_stands" "_law_stands" xt f fd)(Z:Zs mg)(CB:Cb P w mg base)(yCa:Has P w K mg base "_law_same" 6 ["_law_told","_law_due_here"] (vm K))(h_b_notes:jP P w K mg base kI 1 ["self"] (mI K))(h_b_coming:jP P w K mg base uo 1 ["self"] (wo K))(h_b_runs:jP P w K mg base gW 1 ["self"] (gE K))(yBg:Has P w K mg base "_law_marks_of" 1 ["_law_m"] (uq K))(h_b_banks:jP P w K mg base lW 1 ["self"] (mE K))(h_b_marks:jP P w K mg base kL 1 ["self"] (mC K)):yX P w K mg base CX0 7 f fd ["_law_book","_law_m"] (oo K):=by
 specialize fi
 ·obtain⟨b,p,d,S,past,later,rfl,_⟩:=h;rfl
 obtain⟨b,p,d,S,past,later,rfl,bk,lw,nt,q⟩:=h;have no:∀{d l:b9}{m:g8},m = "marks" \/ m = "banks" \/ m = "runs" \/ m = "coming" \/ m = "notes" ->(bkF d p l).lookup m=none:=λ{d l m} e=>by rcases e with e | e | e | e | e <;> subst e <;> rwa[jC (by ac_nf) (by ac_nf) (by ac_nf)]
 have few:=nt.well.good.few
 refine'⟨_,(zC (zX (zu (zr (uW yCa (hr.mono (by decide)) rfl (zB (vB (zB (wE CB.m_marks h_b_marks (hr.mono (by decide)) (pv 0)) (zB (wE CB.m_banks h_b_banks (hr.mono (by decide)) (pv 0)) zI))) (zB (vB (zB ?_ (zB (zR yh rfl Z.sorted tE (zB (xC (mZ rfl) rfl Z.list qT (zB (pL (zO (zU hr) (pv 1) zK (λ_ _=>rfl))) zI)) zI)) zI))) zI))))) (zG (zM pc)) zN)
   (zC (zX (zu (zr (uW yCa (hr.mono (by decide)) rfl (zB (vB (zB (wE CB.m_runs h_b_runs (hr.mono (by decide)) (pv 0)) (zB (wE CB.m_coming h_b_coming (hr.mono (by decide)) (pv 0)) zI))) (zB (vB (zB (zO (zU hr) (pv 1) zK (λ_ _=>rfl)) (zB (zO (zU hr) (pv 1) zK (λ_ _=>rfl)) zI))) zI))))) (zG (zM pc)) zN)
   (zG (zM (uW yCa (hr.mono (by decide)) rfl (zB (wE CB.m_notes h_b_notes (hr.mono (by decide)) (pv 0)) (zB (zR yh rfl Z.sorted tE (zB (xC (mZ rfl) rfl Z.list qT (zB (pL (zO (zU hr) (pv 1) zK (λ_ _=>rfl))) zI)) zI)) zI))))))),?_⟩
 nofun
 obtain⟨dx,_,_,_,_,k⟩:=id bk;refine⟨_,U,b,dx,_,U,k.ob,no (.inl rfl),b,p,S,past,later,U,bk,nt,λc1 z1 H1 s1 e1 r1=>?_⟩;have bk1:=bk.to (.of s1);obtain⟨dx1,_,_,_,_,k1⟩:=id bk1;refine⟨_,U,b,dx1,_,U,k1.ob,no (.inr (.inl rfl)),b,p,S,past,later,U,bk1,nt,λc2 z2 H2 s2 e2 r2=>?_⟩;refine⟨sz2,λL1 hL1=>?_⟩;have sL1:=zD hL1 (.lst [.ref c1,.ref c2]);have s12:=s1.trans (s2.trans sL1);have e1':=(s2.trans sL1) _ _ e1;have r1':=r1.to (.of (s2.trans sL1));have e2':=sL1 _ _ e2;have r2':=r2.to (.of sL1);have eL1:upd H2 L1 (.lst [.ref c1,.ref c2]) L1=Io (.lst [.ref c1,.ref c2]):=zA;generalize upd H2 L1 (.lst [.ref c1,.ref c2])=H3 at sL1 s12 e1' r1' e2' r2' eL1 ⊢;refine⟨_,U,d,S,U,lw.to (.of s12),nt,λc3 z3 H4' s3 e3 r3=>?_⟩;have lw4:=(lw.to (.of s12)).to s3;obtain⟨m,bb,r,n,lwA⟩:=lw4;obtain⟨kvs,hb,kv⟩:=lwA.ba;have lk:kvs.length<=60:=by
  have:=nt.well.good.few.ba;rw[kv.length];unfold bkE;rw[a7];rwa[this]
 erw[_,U,d,.ref bb,U,.inl ⟨_,.inr "banks",lwA.at_,U,qU.symm⟩,bb,kvs,U,hb,λv hv=>?_];have sv:=zD hv (.ext (ww v bb));erw[v,bb,kvs,U,zA,Rd.same hb sv,(by lia),λc4 as H4 s4 hc4 hl e4 ha=>?_];have sv4:=sv.trans s4;have kv4:=kv.to (.of sv4);have at4:∀(j:Nat)(a:b9)(e:Key×V),as[j]?=Io a->kvs[j]?=Io e->H4 a=Io (.tup [kV e.1,e.2]):=λj a e h1 h2=>(ha j a e h1 h2).2;exists c4,ZY as kvs,U,SqL.of (by rw[eQ hl]; rwa[e4]),bA at4,(by unfold ZY; rw[a7,Bs]; lia),(by rw[mY hl,kv.keys]; rwa[nt.oneB]),(by rw[mY hl,kv.keys]; rwa[nt.ndB]);rw[eQ hl,mY hl,kv.keys];intro c5 hc5;have s5:=zD hc5 (.lst ((vX (tU ((bkE S.banks).map (·.1))) as).map V.ref));have s45:=sv4.trans s5;have rr5:xN _ (jl (bkE S.banks)) _:=(yf kv4 hl at4 (tU ((bkE S.banks).map (·.1)))).to (.of s5);erw[sz2,λL2 hL2=>?_];have sL2:=zD hL2 (.lst [.ref c3,.ref c5]);have sz:=s3.trans (yY.of (s45.trans sL2));erw[.ref L1,.ref L2,U,?_,λH5 s5'=>⟨_,U,yR ?_⟩]
 ·refine aP (n:=4) (sz.lst id eL1) zA (sy (n:=3) bE (by rw[gu]; have:=few.ma; lia) (sz.lst id e1') (s45.trans sL2 _ _ (e3)) (r1'.to sz) (r3.to (.of (s45.trans sL2)))) (sy (n:=3) (aw nt) (by rw[iS]; unfold bkE; rw[a7]; have:=few.ba; lia) (sz.lst id e2') (sL2 _ _ zA) (r2'.to sz) (rr5.to (.of sL2)))
 have s05:Sam H H5:=((yY.of s12).trans sz).trans (.of s5');clear sz s5' sL2 s45 rr5 s5 kv4 at4 sv4 e4 ha sv hv hb kv lwA r3 e3 s3 s12 e1' r1' e2' r2' eL1 sL1 hL1 hL2 hc5 r2 e2 s2 bk1 k1 r1 e1 s1 k hc4;have bk5:=bk.to s05;have lw5:=lw.to s05;obtain⟨dx5,_,_,_,_,k5⟩:=id bk5;erw[_,U,b,dx5,_,U,k5.ob,no (.inr (.inr (.inl rfl))),b,p,S,past,later,U,bk5,few,λc6 z6 H6 s6 _ e6 r6=>?_];have bk6:=bk5.to (.of s6);obtain⟨dx6,_,_,_,_,k6⟩:=id bk6;exists _,U,b,dx6,_,U,k6.ob,no (.inr (.inr (.inr (.inl rfl)))),b,p,S,past,later,U,bk6;erw[sz2,λL3 hL3=>?_];have sL3:=zD hL3 (.lst [.ref c6,.int S.coming]);obtain⟨m6,b6,r6',n6,lwA6⟩:=lw5.to (.of (s6.trans sL3));obtain⟨rs6,hrs6,rrs6⟩:=lwA6.ru;erw[_,U,d,.ref r6',U,.inl ⟨_,.inr "runs",lwA6.at_,U,uZ.symm⟩,_,U,d,.int S.coming,U,.inl ⟨_,.inr "next",lwA6.at_,U,xz.symm⟩,sz2,λL4 hL4=>?_];have sL4:=zD hL4 (.lst [.ref r6',.int S.coming]);erw[.ref L3,.ref L4,U,?_,λH7 s7=>⟨_,U,yR ?_⟩]
 ·refine aP (n:=4) (sL4 _ _ zA) zA (sy (n:=3) (λd hd=>?_) (by rw[a7]; have:=few.ru; lia) (sL4 _ _ (sL3 _ _ e6)) (sL4 _ _ hrs6) ((r6.to (.of sL3)).to (.of sL4)) (rrs6.to (.of sL4))) (DR.int rfl);obtain⟨c,_,rfl⟩:=i4.mp hd;rwa[oP]
 have s07:Sam H H7:=s05.trans (.of (s6.trans (sL3.trans (sL4.trans s7))));have bk7:=bk.to s07;have lw7:=lw.to s07;obtain⟨dx7,_,_,_,_,k7⟩:=id bk7;refine⟨_,U,b,dx7,_,U,k7.ob,no (.inr (.inr (.inr (.inr rfl)))),b,p,S,past,later,U,bk7,nt,λc8 z8 H8 s8 e8 r8=>?_⟩;have lw8:=lw7.to (.of s8);obtain⟨m,bb,r,n,lwA⟩:=lw8;obtain⟨kvs,hb,kv⟩:=lwA.no;have lk:kvs.length<=60:=by
  have:=nt.well.good.few.no;rw[kv.length];unfold ntE;rw[a7];rwa[this]
 erw[_,U,d,.ref n,U,.inl ⟨_,.inr "notes",lwA.at_,U,vL.symm⟩,n,kvs,U,hb,λv hv=>?_];have sv:=zD hv (.ext (ww v n));erw[v,n,kvs,U,zA,Rd.same hb sv,(by lia),λc4 as H4 s4 hc4 hl e4 ha=>?_];have sv4:=sv.trans s4;have kv4:=kv.to (.of sv4);have at4:∀(j:Nat)(a:b9)(e:Key×V),as[j]?=Io a->kvs[j]?=Io e->H4 a=Io (.tup [kV e.1,e.2]):=λj a e h1 h2=>(ha j a e h1 h2).2;exists c4,ZY as kvs,U,SqL.of (by rw[eQ hl]; rwa[e4]),bA at4,(by unfold ZY; rw[a7,Bs]; lia),(by rw[mY hl,kv.keys]; rwa[nt.oneN]),(by rw[mY hl,kv.keys]; rwa[nt.ndN]);rw[eQ hl,mY hl,kv.keys];intro c5 hc5;have s5:=zD hc5 (.lst ((vX (tU ((ntE S.notes).map (·.1))) as).map V.ref));have s45:=sv4.trans s5;have rr5:xN _ (jl (ntE S.notes)) _:=(yf kv4 hl at4 (tU ((ntE S.notes).map (·.1)))).to (.of s5);exact⟨.ref c8,.ref c5,U,sy (n:=4) (Zb nt) (by rw[iS]; unfold ntE; rw[a7]; have:=few.no; lia) (s45 _ _ e8) zA (r8.to (.of s45)) rr5,λH9 s9=>q H9 ((s07.trans (.of (s8.trans s45))).trans (.of s9))⟩
def bU(xs:List V)(k:Nat):ze xs Ip (Io (k:Int))=xs.take k:=by
 unfold ze;rw[show HT.sIx xs.length 0 Ip=0 from rfl,HT.sIx_nat,GR,Nat.sub_zero];by_cases h:k<=xs.length
 ·rw[GF h]
 ·rw[Gp (by lia),Ab (d6 _),Ab (by lia)]
def Tw(xs:List V)(k:Nat):ze xs (Io (k:Int)) Ip=xs.drop k:=by
 unfold ze;rw[HT.sIx_nat,show HT.sIx xs.length xs.length Ip=xs.length from rfl,Ab (by rw[p8]; lia)];by_cases h:k<=xs.length
 ·rw[GF h]
 ·rw[Gp (by lia),List.drop_length,B2 (by lia)]
def rh(_:b7):Sp:=λvs H Q _=>∃(b p l tp:b9)(X:b9->Prop)(Ss:List BS)(Ds:List Deed)(j k:Nat),vs=[.ref b,.ref tp]/\HB bkC H b p l X tp Ss Ds j k/\k<=400/\∀ H',Sam H H'->Q (.bl Iq) H'
def iQ(F:Fun K "_law_told_so" "_law_told_so" qY f fd)(Z:Zs mg)(CB:Cb P w mg base)(yBo:Has P w K mg base "_law_stands" 7 ["_law_book","_law_m"] (oo K))(yCa:Has P w K mg base "_law_same" 6 ["_law_told","_law_due_here"] (vm K))(h_b_undone:jP P w K mg base oO 1 ["self"] (nj K))(h_b_deeds:jP P w K mg base kN 1 ["self"] (mX K)):yX P w K mg base CX0 8 f fd ["_law_book","_law_past"] (rh K):=by
 specialize rF
 ·obtain⟨b,p,l,tp,X,Ss,Ds,j,k,rfl,_⟩:=h;rfl
 obtain⟨b,p,l,tp,X,Ss,Ds,j,k,rfl,hb,hk,q⟩:=h;have no:∀{d l:b9}{m:g8},m = "deeds" \/ m = "undone" ->(bkF d p l).lookup m=none:=λ{d l m} e=>by rcases e with e | e <;> subst e <;> rwa[jC (by ac_nf) (by ac_nf) (by ac_nf)]
 obtain⟨sl,rl,et,hL⟩:=hb.lp;obtain⟨S,eS,bk⟩:=hb.bk;obtain⟨ss,e1,e2,e3⟩:=hL.s;obtain⟨xs,e4,e5⟩:=hL.r;have hl:=hb.len;have hj:=hb.le;have lk:=hb.lk;have lz:(Ds.zip Ss).length=Ds.length:=by rw[Bs]; lia
 have lz2:(Ds.zip Ss.tail).length=Ds.length:=by rw[Bs,Ek]; lia
 refine'⟨_,(zC (oV (pv 1) (yl rfl (yI (qL 2 rF.nd) (yI (qL 3 rF.nd) (yI (qL 4 rF.nd) tJ)))))
   (zC (zX (zu (zr (uW yCa (hr.mono (by decide)) rfl (zB (vB (zB (wE CB.m_deeds h_b_deeds (hr.mono (by decide)) (pv 0)) (zB (wE CB.m_undone h_b_undone (hr.mono (by decide)) (pv 0)) zI))) (zB ?_ zI))))) (zG (zM pc)) zN)
   (zG (zM ?_)))),?_⟩
 nofun
 exists _,U,tp,_,U,SqT.of et,U,.ref sl,_,U,.ref rl,_,U,.int j,_,U,rfl;have k1:=bk.at;obtain⟨dx1,_,_,_,_,j1⟩:=id k1;erw[_,U,b,dx1,_,U,j1.ob,no (.inl rfl),b,p,S,_,_,U,k1,(by rw[j8]; lia),λg1 xs1 G1 s1 _ eg1 rg1=>?_];have k2:=k1.to (.of s1);obtain⟨dx2,_,_,_,_,j2⟩:=id k2;erw[_,U,b,dx2,_,U,j2.ob,no (.inr rfl),b,p,S,_,_,U,k2,(by rw[AE,p8]; lia),λg2 xs2 G2 s2 _ eg2 rg2=>?_];have s12:=s1.trans s2;rw[show(((Ds.zip Ss).take j).map λx=>x.1.dt)=(Ds.take j).map Deed.dt by rw[<- WX hl,v7]; rfl] at rg1;rw[List.reverse_reverse,show(((Ds.zip Ss.tail).drop j).map λx=>x.1.dt)=(Ds.drop j).map Deed.dt by rw[<- Xf hl,v7]; rfl] at rg2;erw[sz2,λA1 hA1=>?_];have sA1:=zD hA1 (.lst [.ref g1,.ref g2]);have t1:=s12.trans sA1;erw[_,U,_,U,_,U,rl,xs,U,SqL.of (t1 _ _ e4),λc1 hc1=>?_];rw[bU];have sc1:=zD hc1 (.lst (xs.take j));have t2:=t1.trans sc1;have E1:upd (upd G2 A1 (.lst [.ref g1,.ref g2])) c1 (.lst (xs.take j)) c1=Io (.lst (xs.take j)):=zA;have EA:=sc1 A1 _ zA;have b12:=sA1.trans sc1;generalize upd (upd G2 A1 (.lst [.ref g1,.ref g2])) c1 (.lst (xs.take j))=G3 at t2 E1 EA b12 ⊢;erw[_,U,_,U,_,U,rl,xs,U,SqL.of (t2 _ _ e4),λc2 hc2=>?_];rw[Tw];have sc2:=zD hc2 (.lst (xs.drop j));erw[sz2,λA2 hA2=>?_];have sA2:=zD hA2 (.lst [.ref c1,.ref c2]);have u:=sc2.trans sA2;have t3:=t2.trans u;have e5':=e5.to (.of t3);have dp:∀{l:List Deed},(∀ D∈l,D∈Ds)->∀ e∈l.map Deed.dt,dep 3 e:=λh e he=>by obtain⟨D,hD,rfl⟩:=i4.mp he; rwa[dX (hb.tm D (h D hD))]
 have r1:=e5'.take j;rw[<- C5] at r1;have r2:=e5'.drop j;rw[<- Fo] at r2;have v:=b12.trans u;erw[.ref A1,.ref A2,U,aP (n:=4) (u _ _ EA) zA (sy (n:=3) (dp λD h=>Dd h) (by rw[a7,j8]; lia) (v _ _ (s2 _ _ eg1)) (u _ _ E1) ((rg1.to (.of s2)).to (.of v)) r1) (sy (n:=3) (dp λD h=>AY h) (by rw[a7,p8]; lia) (v _ _ eg2) (sA2 _ _ zA) (rg2.to (.of v)) r2),λG4 s4=>⟨_,rfl,yR ?_⟩];have t4:=t3.trans s4;have ji:j<Ss.length:=by lia
 obtain⟨d,gd⟩:∃ d,ss[j]?=Io d:=⟨_,d4 (by lia)⟩;erw[_,U,_,U,_,U,sl,_,j,.ref d,U,U,.inl (SqL.of (t4 _ _ e1)),wZ (by rw[e7,gd]; rfl),b,p,d,S,_,_,rfl,k1.to (.of t4),(e3 j d S gd eS).at.to (.of t4),(hb.st S (j5 eS)).1,λH' s'=>q H' ((yY.of t4).trans s')]
def BkF(H0 H:Hp)(b p:b9)(S:BS)(past:List (Deed×BS)):Prop:=∃ l,H0 l=Ip/\BkL bkC H b p l S past []
def BkF.at{H0 H:Hp}{b p:b9}{S:BS}{past:List (Deed×BS)}(h:BkF H0 H b p S past):gK bkC H b p S past []:=let ⟨_,_,k⟩:=h; k.at
def BkF.to{H0 H H1:Hp}{b p:b9}{S:BS}{past:List (Deed×BS)}(h:BkF H0 H b p S past)(s:Sam H H1):BkF H0 H1 b p S past:=let ⟨l,e,k⟩:=h;⟨l,e,k.to s⟩
def BkF.from{H0 H1 H:Hp}{b p:b9}{S:BS}{past:List (Deed×BS)}(h:BkF H1 H b p S past)(s:Sam H0 H1):BkF H0 H b p S past:=let ⟨l,e,k⟩:=h;⟨l,s.free id e,k⟩
def spBk(φ:List V->Hp->Deed->Prop):Sp:=λvs H Q E=>∃(b p:b9)(xs:List V)(S:BS)(D:Deed)(past later:List (Deed×BS)),vs=.ref b::xs/\gK bkC H b p S past later/\φ xs H D/\ph D/\gG S/\past.length<=500 /\
 (zS S D=Ip->∀(H':Hp),yY (Bp b p) H H'->BkF H H' b p (aft S D) (past++[(D,S)])->Q (fh S D) H')/\∀ c,zS S D=Io c->∀ H',Sam H H'->E (.ref (axC c)) Ip H'
def numD_q{S:BS}{D:Deed}{Q:VK}{H:Hp}(h:(aft S D).coming=S.coming)(q:Q (fh S D) H):Q .non H:=by
 rw[fh,y9 h.symm] at q;rwa[q]
def iJ(_:b7):Sp:=λvs H Q E=>∃(b p:b9)(v:V)(S:BS)(D:Deed)(past later:List (Deed×BS)),vs=[.ref b,v]/\gK bkC H b p S past later/\Rep H D.dt v/\ph D/\gG S/\past.length<=500 /\
 (zS S D=Ip->∀(H':Hp),yY (Bp b p) H H'->BkF H H' b p (aft S D) (past++[(D,S)])->Q (if S.coming=(aft S D).coming then .non else .int S.coming) H')/\∀ c,zS S D=Io c->∀ H',Sam H H'->E (.ref (axC c)) Ip H'
def aI(F:Fun K "deed" "Book.deed" pS f fd)(Z:Zs mg)(CB:Cb P w mg base)(h_b_coming:jP P w K mg base uo 1 ["self"] (wo K))(yBv:zt P w K mg base "after" 5 ["state","row"] (mH K)):yX P w K mg base (CX1 P w) 6 f fd ["self","row"] (iJ K):=by
 erw[F.okX oS (λvs H Q E h=>?_) (λcdv A outer s H vs Q E hr h=>?_)]
 ·obtain⟨b,p,v,S,D,past,later,rfl,_⟩:=h;rfl
 obtain⟨b,p,v,S,D,past,later,rfl,bk,hv,tm,wl,hl,q,bad⟩:=h;obtain⟨dx,d,l,ps,ls,k⟩:=bk;have no:∀{d l:b9}{m:g8},m = "coming" ->(bkF d p l).lookup m=none:=λ{d l m} e=>by subst e; rwa[jC (by ac_nf) (by ac_nf) (by ac_nf)]
 refine'⟨_,(zC (PS.nox (yD 2 oS.nd (wE CB.m_coming h_b_coming (hr.mono (by decide)) (pv 0))))
   (zC (yD 3 oS.nd (yG (λ_=>E) yBv yE (hr.mono (by decide)) rfl (zB (xK CB.state (pv 0)) (zB (pv 1) zI))))
   (zC (PS.nox (yC (iV (xK CB.past (pv 0)) (zB (yV (zB (pv 1) (zB (xK CB.state (pv 0)) zI))) zI))))
   (zC (PS.nox (qQ CB.state (pv 0) (pv 3)))
   (zC (PS.nox (qQ CB.later (pv 0) ?_))
   (zG (PS.nox (zM (vT (yH Vd (wE CB.m_coming h_b_coming (hr.mono (by decide)) (pv 0)) (pv 2) (yS _)) dQ (pv 2)))))))))),?_⟩
 nofun
 exists _,U,b,dx,_,U,k.ob,no rfl,b,p,S,past,later,U,⟨dx,d,l,ps,ls,k⟩;erw[_,U,b,dx,_,_,U,k.ob,tT,_,U,d,v,S,D,U,trivial,k.st,hv,tm,wl,λjn d' H1 s1 hd' st'=>?_,bad];have k1:=k.to s1;have hv1:=hv.to s1;erw[_,U,b,dx,_,_,U,k1.ob,wr,.inl ⟨U,_,SqL.of k1.pa⟩,_,U,_,U,b,dx,_,_,U,k1.ob,tT,sz2,λt ht=>?_];have s2:=zD ht (.tup [v,.ref d]);have k2:=k1.to (.of s2);exists p,ps,.ref t,U,U,k2.pa,zT (by rw[k2.pp.len]; lia);have nbp:b≠p:=oJ k2.ob k2.pa (λz=>nomatch z);have e3:upd (upd H1 t (.tup [v,.ref d])) p (.lst (ps++[.ref t])) b=Io (.ins bkC dx (bkF d p l)):=by rw[zH nbp]; rwa[k2.ob]
 exists _,U,_,U,b,dx,_,U,e3,(by show 3<1000; decide);rw[yq];refine⟨sz0,λg hg=>?_⟩;have nbg:b≠g:=zF zA hg;have npg:p≠g:=λz=>by
  rw[<- z,zH nbp.symm,zA] at hg;cases hg
 exists _,U,b,dx,_,U,(by rw[zH nbg,zA]),(by show 3<1000; decide);rw[qo];have hgt:(upd H1 t (.tup [v,.ref d])) g=none:=by rw[zH nbg.symm,zH npg.symm] at hg; rwa[hg]
 have sE:yY (Bp b p) (upd H1 t (.tup [v,.ref d])) (upd (upd (upd (upd (upd H1 t (.tup [v,.ref d])) p (.lst (ps++[.ref t]))) b (.ins bkC dx (bkF d' p l))) g (.lst [])) b (.ins bkC dx (bkF d' p g))):=λx o hx e=>by
  have n1:x≠b:=λz=>hx (.inl z);have n2:x≠p:=λz=>hx (.inr z);rw[zH n1,zH (zF e hgt),zH n1,zH n2];rwa[.inl e]
 have nd:=Te k2.ob k2.pa;have np:=Tb k2.ob k2.pa;have st2:=st'.to (.of s2);have BK:BkL bkC (upd (upd (upd (upd (upd H1 t (.tup [v,.ref d])) p (.lst (ps++[.ref t]))) b (.ins bkC dx (bkF d' p l))) g (.lst [])) b (.ins bkC dx (bkF d' p g))) b p g (aft S D) (past++[(D,S)]) []:=by
  erw[dx,d',ps++[.ref t],[],zA,st2.samE sE nd np,?_,?_,?_,U,npg.symm]
  ·rw[zH nbp.symm,zH npg,zH nbp.symm,zA]
  ·rw[zH nbg.symm,zA]
  ·rwa[xM.app (sE.tup (np _ _ zA) zA) ((hv1.to (.of s2)).sam sE np) (k2.st.samE sE nd np) (k2.pp.samE sE nd np)]
 have fin:=q jn _ (((s1.trans (.of s2)).wider (λ_ z=>z.elim)).trans sE) ⟨g,(s1.trans (.of s2)).free id hgt,BK⟩;exists _,U,b,dx,_,U,zA,no rfl,b,p,aft S D,_,[],U,BK.at,_,U,U,_,rfl;erw[ifE (λe=>?_) (λe=>?_)]
 ·rw[y9 e.symm] at fin;rwa[fin]
 ·rw[y7 (λz=>e z.symm)] at fin;rwa[_,U,fin]
def hU(_:b7):Sp:=λvs H Q _=>∃(b p:b9)(v:V)(S:BS)(D:Deed)(past later:List (Deed×BS)),vs=[.ref b,v]/\gK bkC H b p S past later/\Rep H D.dt v/\ph D/\gG S/\past.length<=500 /\
 (zS S D=Ip->∀(t:b9)(H':Hp),yY (Bp b p) H H'->BkF H H' b p (aft S D) (past++[(D,S)])->H' t=Io (.tup [.str "",fh S D])->Q (.ref t) H') /\
 ∀ c,zS S D=Io c->∀(t:b9)(H':Hp),Sam H H'->H' t=Io (.tup [.str (fJ c),.non])->Q (.ref t) H'
def Zj(F:Fun K "_law_done" "_law_done" pE f fd)(Z:Zs mg)(CB:Cb P w mg base)(h_b_deed:cA P w K mg base fU 6 ["self","row"] (iJ K))(yBj:Sz P w K mg base "_law_refused" 1 ["_law_e"] (yi K)):yX P w K mg base CX0 7 f fd ["_law_book","_law_deed_here"] (hU K):=by
 specialize ju
 ·obtain⟨b,p,v,S,D,past,later,rfl,_⟩:=h;rfl
 obtain⟨b,p,v,S,D,past,later,rfl,bk,hv,tm,wl,hl,q,bad⟩:=h;obtain⟨dx,d,l,ps,ls,k⟩:=id bk;have no:∀{d l:b9}{m:g8},m = "deed" ->(bkF d p l).lookup m=none:=λ{d l m} e=>by subst e; rwa[jC (by ac_nf) (by ac_nf) (by ac_nf)]
 exists _,(zG (XJ (i:=2) (λ_ EE=>(zG (zM (yV (zB zK (zB (Yi EE CB.m_deed h_b_deed lH (hr.mono (by decide)) (pv 0) (zB (pv 1) zI)) zI)))))) CB.gMarkError ju.nd rfl rfl (λ_=>(zG (zM (yV (zB (eP yBj (hr.mono (by decide)) rfl (zB (pv 2) zI)) (zB dQ zI))))))))
 try dsimp only[L2.cxOf]
 erw[_,U,b,dx,_,U,k.ob,no rfl,_,U,b,p,v,S,D,past,later,U,bk,hv,tm,wl,hl,λjn H1 s1 bk1=>?_,λc jc H1 s1=>?_]
 ·erw[sz2,λt ht=>?_];have st:=zD ht (.tup [.str "",fh S D]);rwa[q jn t _ (s1.trans (.of st)) (bk1.to (.of st)) zA]
 ·erw[?_,λea he=>?_]
  ·cases c
   ·rwa[CB.t_BadName_MarkError]
   ·rwa[CB.t_Taken_MarkError]
   ·rwa[CB.t_BadPlace_MarkError]
   ·rwa[CB.t_Full_MarkError]
   ·rwa[CB.t_NoMark_MarkError]
   ·rwa[CB.t_Same_MarkError]
   ·rwa[CB.t_Needed_MarkError]
   ·rwa[CB.t_BadBank_MarkError]
   ·rwa[CB.t_NoBank_MarkError]
   ·rwa[CB.t_BadRun_MarkError]
   ·rwa[CB.t_NoRun_MarkError]
   ·rwa[CB.t_NoMoment_MarkError]
   ·rwa[CB.t_BadWay_MarkError]
   ·rwa[CB.t_BadTurn_MarkError]
   ·rwa[CB.t_NoNote_MarkError]
  ·have se:=zD he (bF ea (.ref (axC c)));erw[_,U,Io c,U,zA,λH2 s2=>⟨sz2,λt ht=>?_⟩];have st:=zD ht (.tup [.str (fJ c),.non]);rwa[bad c jc t _ (s1.trans (.of ((se.trans s2).trans st))) zA]
def kA{H:Hp}{n:Nat}{a b:b9}{x:g8}{y:V}(hy:(∃ i,y=.int i)\/y=.non)(ha:H a=Io (.tup [.str x,y]))(hb:H b=Io (.tup [.str x,y])):DR H (n+1) (.ref a) (.ref b):=by
 refine .inr ⟨a,b,[.str x,y],[.str x,y],Ir,rfl,rfl,ha,hb,rfl,(by show 2<=1000; decide),λi u v g1 g2=>?_⟩
 match i,g1,g2 with
 | 0,g1,g2=>cases g1; cases g2; rwa[DR.str rfl]
 | 1,g1,g2 =>
  cases g1; cases g2;rcases hy with ⟨i,rfl⟩ | rfl
  ·rwa[DR.int rfl]
  ·cases n
   ·rwa[U,.inr (.inr (.inr rfl))]
   ·rwa[.inl ⟨rfl,.inr (.inr (.inr rfl))⟩]
def ap{S:BS}{D:Deed} : (∃ i,fh S D=.int i)\/fh S D=.non:=by
 unfold fh;split
 ·rwa[.inr rfl]
 ·rwa[.inl ⟨_,rfl⟩]
def bp{S:BS}{D:Deed} : (aft S D).coming=S.coming\/(aft S D).coming=S.coming+1:=by
 cases D <;> first | exact .inl rfl | exact .inr rfl
def VT{D:Deed}(h:Wz D):VM D:=by
 cases D <;> first | exact h | exact trivial
def YE{H:Hp}{n:Nat}{a b:b9}{x:g8}{y z:V}(h:DR H n y z)(ha:H a=Io (.tup [.str x,y]))(hb:H b=Io (.tup [.str x,z])):DR H (n+1) (.ref a) (.ref b):=by
 refine .inr ⟨a,b,[.str x,y],[.str x,z],Ir,rfl,rfl,ha,hb,rfl,(by show 2<=1000; decide),λi u v g1 g2=>?_⟩
 match i,g1,g2 with
 | 0,g1,g2=>cases g1; cases g2; rwa[DR.str rfl]
 | 1,g1,g2=>cases g1; cases g2; rwa[h]
def HB.same1{H:Hp}{b p l tp:b9}{X:b9->Prop}{Ss:List BS}{Ds:List Deed}{j k:Nat}(h:HB bkC H b p l X tp Ss Ds j k):HB bkC H b p l (kG X l) tp Ss Ds j k:=h.re (λx _ _ n z=>z.elim n λz=>n (z ▸ h.xl)) λ_=>.inl
def HB.up{H:Hp}{b p l tp:b9}{X:b9->Prop}{Ss:List BS}{Ds:List Deed}{j k:Nat}(h:HB bkC H b p l X tp Ss Ds j k):HB bkC H b p l (kG X l) tp Ss Ds j (k+1):=HB.same1 ⟨h.bk,h.lp,h.xp,h.xl,h.len,h.le,Nat.le_succ_of_le h.lk,λS hS=>let ⟨a,b,c⟩:=h.st S hS;⟨a,b,by lia⟩,h.tm⟩
def ex_bl{X:b9->Prop}{H H':Hp}{b p l:b9}{S:BS}{past later:List (Deed×BS)}(hX:∀ x,X x->∃ o,H x=Io o)(xl:X l)(s:yY (Bl b p l) H H')(k:BkL bkC H' b p l S past later):∀ x,kG X l x->∃ o,H' x=Io o:=λx z=>by
 have z:X x:=z.elim id λz=>z ▸ xl;obtain⟨_,_,_,_,k⟩:=k;by_cases y:Bl b p l x
 ·rcases y with y | y | y <;> subst y
  ·rwa[_,k.ob]
  ·rwa[_,k.pa]
  ·rwa[_,k.la]
 ·obtain⟨o,e⟩:=hX x z;rwa[s.some y e]
def cutAH{ok:b9->Hp->Prop}{G:Prop}{R:b9->Hp->Prop}(h1:(∀ m H,ok m H->R m H)->G)(h2:∀ m H,ok m H->R m H):G:=h1 h2
def jV(_:b7):Sp:=λvs H Q _=>∃(b p l tp a R:b9)(X:b9->Prop)(rows:List Int)(nms:List g8)(Ss:List BS)(Ds:List Deed)(j k:Nat),vs=[.ref b,.ref tp,.ref a,.ref R]/\HB bkC H b p l X tp Ss Ds j k/\(∀ x,X x->∃ o,H x=Io o)/\k<=300/\H a=Io (.lst (rows.map V.int))/\11<=rows.length/\(∀ v∈rows,0<=v/\v<1000003)/\H R=Io (.lst (nms.map V.str))/\1<=nms.length/\(∀ n∈nms,wM n) /\
 ∀(t tp' l':b9)(Ss':List BS)(Ds':List Deed)(j':Nat)(H':Hp),yY (Bl b p l) H H'->(l'=l\/H l'=Ip)->H' t=Io (.tup [.ref tp',.bl Iq])->HB bkC H' b p l' (kG X l') tp' Ss' Ds' j' (k+1)->(∀ x,kG X l' x->∃ o,H' x=Io o)->Q (.ref t) H'
def ay(F:Fun K "_law_step" "_law_step" pX f fd)(Z:Zs mg)(CB:Cb P w mg base)(yBt:Has P w K mg base "_law_after" 1 ["_law_m","_law_deed_here"] (lv K))(yCa:Has P w K mg base "_law_same" 6 ["_law_told","_law_due_here"] (vm K))(yBy:Has P w K mg base "_law_done" 7 ["_law_book","_law_deed_here"] (hU K))(yCg:Has P w K mg base "_law_due" 4 ["_law_m","_law_deed_here"] (eY K))(yBx:Has P w K mg base "_law_deed" 4 ["_law_d","_law_m","_law_names_here"] (iq K))(yCd:Has P w K mg base "_law_went" 3 ["_law_book","_law_way_here"] (hZ K)):yX P w K mg base CX0 8 f fd ["_law_book","_law_past","_law_d","_law_names_here"] (jV K):=by
 specialize xL
 ·obtain⟨b,p,l,tp,a,R,X,rows,nms,Ss,Ds,j,k,rfl,_⟩:=h;rfl
 obtain⟨b,p,l,tp,a,R,X,rows,nms,Ss,Ds,j,k,rfl,hb,hX,hk,ha,l11,bd,eR,l1,okn,q⟩:=h;obtain⟨v0,a0,y0⟩:=xO bd (k:=0) (by decide) (by lia);obtain⟨sl,rl,et,hL⟩:=hb.lp;obtain⟨S,eS,bk⟩:=hb.bk;obtain⟨ss,e1,e2,e3⟩:=hL.s;obtain⟨xs,e4,e5⟩:=hL.r;have hl:=hb.len;have hj:=hb.le;have lk:=hb.lk;have lxs:xs.length=Ds.length:=by rw[e5.length,a7]
 have sq:∀{H':Hp},H' a=Io (.lst (rows.map V.int))->Sq K H' a (rows.map V.int):=λh=>.inl (SqL.of h)
 refine'⟨_,(zC (oV (pv 1) (yl rfl (yI (qL 4 xL.nd) (yI (qL 5 xL.nd) (yI (qL 6 xL.nd) tJ)))))
   (zC (yD 7 xL.nd ?_)
   (zC (zX ?_ (zC (yD 8 xL.nd ?_)
   (zC (yD 9 xL.nd ?_)
   (zC (zX (kK wg aj yL (pv 8) ?_) (zC (yD 9 xL.nd ?_)
   (zG (yD 1 xL.nd ?_))) zN)
   (zG (zM ?_))))) zN)
   (zC (yD 10 xL.nd ?_)
   (zC (yD 9 xL.nd ?_)
   (zC (yD 11 xL.nd ?_)
   (zC (zX ?_ (zG (yD 1 xL.nd (yV (zB (wH wa ?_ ?_) (zB (wH wa ?_ ?_) (zB ?_ zI)))))) zN)
   (zG (zM ?_))))))))),?_⟩
 nofun
 exists _,U,tp,_,U,SqT.of et,U,.ref sl,_,U,.ref rl,_,U,.int j,_,U,rfl;exists _,U,a,_,_,_,U,U,sq ha,a0,_,_,U,U,um.of (by decide) (by ac_nf),_,_,U,U,(by show(0:Int)<6; decide);have w0:0<=v0/18%6:=by lia
 generalize v0/18%6=W at w0 ⊢;exists _,U,_,_,U,U,_,rfl;erw[ifD (λw2=>?_) (λw2=>?_)]
 ·exists _,U,_,U,_,_,U,U,XS (by lia),_,_,U,U,_,_,U,rfl;erw[sz2,λdu hdu=>?_];have sdu:=zD hdu (.tup [.str "NothingLeft",.non]);have edu:upd H du (.tup [.str "NothingLeft",.non]) du=Io (.tup [.str "NothingLeft",.non]):=zA;generalize upd H du (.tup [.str "NothingLeft",.non])=H1 at sdu edu ⊢;have bk1:=bk.to (.of sdu);have lz:(Ds.zip Ss).length=Ds.length:=by rw[Bs]; lia
  have lz2:(Ds.zip Ss.tail).length=Ds.length:=by rw[Bs,Ek]; lia
  have lp1:((Ds.zip Ss).take j).length<=400:=by rw[j8]; lia
  have lp2:((Ds.zip Ss.tail).drop j).reverse.length<=400:=by rw[AE,p8]; lia
  have hw:W=0\/W=1:=by lia
  have lss:((ss.map V.ref).length:Int)=Ds.length+1:=by rw[a7]; lia
  exists _,U,_,_,U,U,_,rfl;erw[ifD (λt0=>?_) (λt0=>?_)];rotate_left
  ·erw[_,U,yR ?_];erw[_,U,_,U,_,U,b,p,l,W,S,_,_,U,bk1,lp2,lp1,hw,λe pre D S0 e2=>?_,λe pre D S0 e2=>?_,λ_ _ t H2 s2 e=>?_]
   ·have z:j=0:=by lia
    rw[z] at e2;simp at e2
   ·have z:j=Ds.length:=by lia
    rw[B2 (by lia)] at e2;simp at e2
   erw[_,U,.ref t,.ref du,U,kA (.inr rfl) e (s2.tup id edu),λH3 s3=>⟨sz2,λtt htt=>?_⟩];have st:=((yY.of sdu).trans s2).trans (.of (s3.trans (zD htt (.tup [.ref tp,.bl Iq]))));exact q tt tp l Ss Ds j _ (st.wider λ_ z=>z.elim) (.inl rfl) zA (hb.to st).up (λx z=>let ⟨_,e⟩:=hX x (z.elim id λz=>z ▸ hb.xl); st.some id e)
  ·exists _,U,sl,_,U,.inl (SqL.of (sdu _ _ e1)),_,_,U,U,_,rfl;erw[ifD (λt1=>?_) (λt1=>?_)]
   ·rw[lss] at t1;obtain⟨i,j',h1,h2,hi,h3⟩:∃ i j':Nat,(if (j:Int)+2*W-1<j then(j:Int)+2*W-1 else j)=(i:Int)/\(j:Int)+2*W-1=(j':Int)/\i<Ds.length/\((W=0/\j=i+1/\j'=i)\/(W=1/\i=j/\j'=j+1)):=by
     rcases hw with rfl | rfl
     ·rwa[j-1,j-1,by rw[y9 (by lia)]; lia,by lia,by lia,.inl ⟨rfl,by lia,rfl⟩]
     ·rwa[j,j+1,by rw[y7 (by lia)],by lia,by lia,.inr ⟨U,U,U⟩]
    obtain⟨D,gD⟩:∃ D,Ds[i]?=Io D:=⟨_,d4 hi⟩;obtain⟨v,gv,rv⟩:=e5.at (i:=i) (d:=D.dt) (by rw[e7,gD]; rfl);have tmD:=hb.tm D (j5 gD);exists _,U,_,U,_,U,_,_,rfl;rw[h1];erw[rl,_,i,v,U,U,.inl (SqL.of (sdu _ _ e4)),wZ gv,sz2,λd2 hd2=>?_];have sd2:=zD hd2 (.tup [.str "",v]);erw[_,U,_,U,_,U,sz3,λtq htq=>?_];rw[h2];have stq:=zD htq (.tup [.ref sl,.ref rl,.int j']);have s1:=sdu.trans (sd2.trans stq);have ed2:=stq d2 _ zA;have etq:upd (upd H1 d2 (.tup [.str "",v])) tq (.tup [.ref sl,.ref rl,.int j']) tq=Io (.tup [.ref sl,.ref rl,.int j']):=zA;generalize upd (upd H1 d2 (.tup [.str "",v])) tq (.tup [.ref sl,.ref rl,.int j'])=H4 at s1 ed2 etq ⊢;have bk4:=bk.to (.of s1);obtain⟨_,_,_,_,k4⟩:=id bk4;have nd4:=ZG k4.ob k4.pa k4.la;have np4:=au k4.ob k4.pa k4.la;have hL4:=hL.to (.of s1);have rv4:=rv.to (.of s1);apply cutAH (ok:=λt H2=>∃(vv:V)(S':BS),yY (Bl b p l) H4 H2/\BkL bkC H2 b p l S' ((Ds.zip Ss).take j') ((Ds.zip Ss.tail).drop j').reverse/\Ss[j']?=Io S'/\Rep H2 D.dt vv/\H2 t=Io (.tup [.str "",vv]))
    ·intro rest;erw[_,U,_,U,_,U,b,p,l,W,S,_,_,U,bk4,lp2,lp1,hw,λe pre D' S0 e2 t vv H2 s2 b2 r2 et2=>?_,λe pre D' S0 e2 t vv H2 s2 b2 r2 et2=>?_,λz0 z1=>?_]
     ·obtain⟨_,hj1,hj2⟩:W=0/\j=i+1/\j'=i:=by lia
      obtain⟨Si,gS⟩:∃ X,Ss[i]?=Io X:=⟨_,d4 (by lia)⟩;rw[hj1,Wj gD gS] at e2;obtain⟨ep,e2⟩:=Gq e2 rfl;cases e2;rw[<- ep,hj1,<- df gD (hj1 ▸ eS)] at b2;rwa[rest t H2 ⟨vv,_,s2,by rw[hj2]; exact b2,by rw[hj2]; exact gS,r2,et2⟩]
     ·obtain⟨_,hj1,hj2⟩:W=1/\i=j/\j'=j+1:=by lia
      obtain⟨Si,gS⟩:∃ X,Ss[j+1]?=Io X:=⟨_,d4 (by lia)⟩;rw[hj1] at gD;rw[df gD gS] at e2;obtain⟨ep,e2⟩:=Gq e2 rfl;cases e2;rw[<- ep,<- Wj gD eS] at b2;rwa[rest t H2 ⟨vv,_,s2,by rw[hj2]; exact b2,by rw[hj2]; exact gS,r2,et2⟩]
     ·exfalso;rcases h3 with ⟨hW,hj1,_⟩ | ⟨hW,hj1,_⟩
      ·have z:=congrArg Bv (z0 hW);rw[j8,lz,Ax] at z;lia
      ·have z:=congrArg Bv (z1 hW);rw[AE,p8,lz2,Ax] at z;lia
    intro t H2 ⟨vv,S',s2,b2,gS',r2,et2⟩;erw[_,U,.ref t,.ref d2,U,YE (aR 4 D.dt (dX tmD) r2 (rv4.sam s2 np4)) et2 (s2.tup (np4 _ _ ed2) ed2),λH3 s3=>⟨sz2,λtt htt=>?_⟩];have st:=s3.trans (zD htt (.tup [.ref tq,.bl Iq]));have hL2:=hL4.bl hb.xp hb.xl s2 k4.ob k4.pa k4.la;have s0:=(yY.of s1).trans (s2.trans (.of st));refine q tt tq l Ss Ds j' _ s0 (.inl rfl) zA (HB.same1 ⟨⟨S',gS',b2.to (.of st)⟩,⟨sl,rl,st _ _ (s2.tup (np4 _ _ etq) etq),hL2.to (.of st)⟩,hb.xp,hb.xl,hl,(by lia),(by lia),(λS hS=>let ⟨a,b,c⟩:=hb.st S hS;⟨a,b,by lia⟩),hb.tm⟩) (ex_bl hX hb.xl s0 (b2.to (.of st)))
   ·rw[lss] at t1;erw[_,U,_,U,_,U,b,p,l,W,S,_,_,U,bk1,lp2,lp1,hw,λe pre D S0 e2=>?_,λe pre D S0 e2=>?_,λ_ _ t H2 s2 e=>?_]
    ·have z:j=0:=by lia
     rw[z] at e2;simp at e2
    ·have z:j=Ds.length:=by lia
     rw[B2 (by lia)] at e2;simp at e2
    erw[_,U,.ref t,.ref du,U,kA (.inr rfl) e (s2.tup id edu),λH3 s3=>⟨sz2,λtt htt=>?_⟩];have st:=((yY.of sdu).trans s2).trans (.of (s3.trans (zD htt (.tup [.ref tp,.bl Iq]))));exact q tt tp l Ss Ds j _ (st.wider λ_ z=>z.elim) (.inl rfl) zA (hb.to st).up (λx z=>let ⟨_,e⟩:=hX x (z.elim id λz=>z ▸ hb.xl); st.some id e)
 ·obtain⟨dj,gd⟩:∃ d,ss[j]?=Io d:=⟨_,d4 (by lia)⟩;have ix:atI (ss.map V.ref) (j:Int)=Io (.ref dj):=wZ (by rw[e7,gd]; rfl);have lwj:=(e3 j dj S gd eS).at;obtain⟨nt,c1,c2⟩:=hb.st S (j5 eS);erw[_,U,_,U,_,U,sl,_,_,.ref dj,U,U,.inl (SqL.of e1),ix,_,U,a,dj,R,rows,nms,S,U,ha,l11,bd,lwj,nt.well,c1,(by lia),eR,l1,okn,λv D G1 s1 rv tm dr=>?_];erw[_,U,_,U,sl,_,_,.ref dj,U,U,.inl (SqL.of (s1.lst id e1)),ix,_,U,dj,v,S,D,U,lwj.to s1,rv,tm,nt.well,VT dr,λt G2 s2 et2=>?_];have s12:=s1.trans s2;have bk2:=bk.to s12;have rv2:=rv.to s2;obtain⟨_,_,_,_,k2⟩:=id bk2;have nd2:=Te k2.ob k2.pa;have np2:=Tb k2.ob k2.pa;have wB:∀ x,Bp b p x->Bl b p l x:=λx z=>z.elim .inl λz=>.inr (.inl z);erw[_,U,_,U,b,p,v,S,D,_,_,U,bk2.at,rv2,tm,nt.well,(by rw[j8]; lia),λjn t2 G3 s3 bf et3=>?_,λc jc t2 G3 s3 et3=>?_]
  ·rw[jn] at et2;have et2:G2 t=Io (.tup [.str "",fh S D]):=et2;have et':=s3.tup (np2 _ _ et2) et2;refine⟨_,U,.ref t2,.ref t,U,kA ap et3 et',λG4 s4=>?_⟩;refine⟨_,U,t,_,0,.str "",U,U,.inr (SqT.of (s4 _ _ et')),U,U,_,U,xV ?_⟩;obtain⟨lf,hlf,blf⟩:=bf;have hL4:HL G4 (kG X lf) sl rl Ss Ds:=(((hL.to s12).newl hlf).sam s3 nd2 np2 (λx ys e n1 z=>z.elim (λz=>by rw[z,k2.ob] at e; cases e) λz=>n1 (.inl (z ▸ hb.xp)))).to (.of s4);have ex:∀ x,kG X lf x->∃ o,G4 x=Io o:=λx z=>by
    obtain⟨_,_,_,_,kf⟩:=id blf;rcases z with z | z
    ·obtain⟨o,e⟩:=hX x z;obtain⟨o2,e'⟩:=s12.some id e;by_cases y:Bp b p x
     ·rcases y with y | y <;> subst y
      ·rwa[_,s4 _ _ kf.ob]
      ·rwa[_,s4 _ _ kf.pa]
     ·obtain⟨o3,e''⟩:=s3.some y e';rwa[_,s4 _ _ e'']
    ·subst z;rwa[_,s4 _ _ kf.la]
   have rv4:=(rv2.sam s3 np2).to (.of s4);have bl4:=blf.to (.of s4);have s04:yY (Bl b p l) H G4:=(s12.wider λ_ z=>z.elim).trans ((s3.wider wB).trans (.of s4));have flf:=s12.free id hlf;clear blf s3 et3 et' s4 rv2 hL bk2 k2 nd2 np2 hlf e1 e2 e3 e4 e5 ix lwj rv s1 s2 s12;obtain⟨_,_,_,_,k4⟩:=id bl4;obtain⟨ss4,f1,f2,f3⟩:=hL4.s;obtain⟨xs4,f4,f5⟩:=hL4.r;obtain⟨dj4,gd4⟩:∃ d,ss4[j]?=Io d:=⟨_,d4 (by lia)⟩;have ix4:atI (ss4.map V.ref) (j:Int)=Io (.ref dj4):=wZ (by rw[e7,gd4]; rfl);erw[_,U,_,U,_,_,U,U,_,U,sl,_,U,SqL.of f1,λc1' hc1=>?_];rw[show(j:Int)+1=((j+1:Nat):Int) from rfl,bU,<- C5];have u1:=zD hc1 (.lst ((ss4.take (j+1)).map V.ref));have E1:upd G4 c1' (.lst ((ss4.take (j+1)).map V.ref)) c1'=Io (.lst ((ss4.take (j+1)).map V.ref)):=zA;generalize upd G4 c1' (.lst ((ss4.take (j+1)).map V.ref))=G5 at u1 E1 ⊢;erw[_,U,_,U,sl,_,_,.ref dj4,U,U,.inl (SqL.of (u1 _ _ f1)),ix4,_,U,dj4,v,S,D,U,rv4.to (.of u1),(f3 j dj4 S gd4 eS).at.to (.of u1),dB jn,nt.well.good.few,nt.well.good.fresh,λd2 G6 u2 hd2 lwn=>?_];obtain⟨m8,b8,r8,n8,hr8,lw8⟩:=lwn;have r8p:¬ kG X lf r8:=λz=>let ⟨_,e⟩:=ex _ z; zF (u1 _ _ e) hr8 rfl;erw[sz1,λc2' hc2=>?_];have u3:=zD hc2 (.lst [.ref d2]);refine⟨c1',c2',_,_,U,U,u3 _ _ (u2 _ _ E1),zA,oK (by rw[a7,j8]; show _+1<=_; lia),λsq' hsq=>?_⟩;have u4:=zD hsq (.lst ((ss4.take (j+1)).map V.ref++[.ref d2]));have E2:upd (upd G6 c2' (.lst [.ref d2])) sq' (.lst ((ss4.take (j+1)).map V.ref++[.ref d2])) sq'=Io (.lst ((ss4.take (j+1)).map V.ref++[.ref d2])):=zA;have u14:=u1.trans u2;have nS1:¬ kG X lf sq':=λz=>let ⟨_,e⟩:=ex _ z; zF (u3 _ _ (u14 _ _ e)) hsq rfl;have u34:=u3.trans u4;generalize upd (upd G6 c2' (.lst [.ref d2])) sq' (.lst ((ss4.take (j+1)).map V.ref++[.ref d2]))=G7 at u34 E2 ⊢;have u17:=u14.trans u34;erw[_,U,_,U,_,U,rl,xs4,U,SqL.of (u17 _ _ f4),λc3 hc3=>?_];rw[bU];have u5:=zD hc3 (.lst (xs4.take j));erw[_,U,sz1,λc4 hc4=>?_];have u6:=zD hc4 (.lst [v]);have lx4:xs4.length=Ds.length:=by rw[f5.length,a7]
   refine⟨c3,c4,_,_,U,U,u6 _ _ zA,zA,oK (by rw[j8]; show _+1<=_; lia),λrq hrq=>?_⟩;have u7:=zD hrq (.lst (xs4.take j++[v]));have u56:=u5.trans u6;have u18:=u17.trans u56;have nR1:¬ kG X lf rq:=λz=>let ⟨_,e⟩:=ex _ z; zF (u18 _ _ e) hrq rfl;erw[_,U,_,_,U,U,sz3,λtq htq=>?_];have u8:=zD htq (.tup [.ref sq',.ref rq,.int ((j:Int)+1)]);erw[_,U,_,U,sz2,λtt htt=>?_];have u9:=zD htt (.tup [.ref tq,.bl Iq]);have u89:=u8.trans u9;have u79:=u7.trans u89;have uN:=u18.trans u79;have hLn:=hL4.to (.of uN);obtain⟨hz1,hz2⟩:=VS (D:=D) (X:=aft S D) hl hj eS;have u6n:=u34.trans (u56.trans u79);refine q tt tq lf (Ss.take (j+1)++[aft S D]) (Ds.take j++[D]) (j+1) _ (s04.trans (.of uN)) (.inr flf) zA ⟨⟨aft S D,?_,?_⟩,⟨sq',rq,u9 _ _ zA,nS1,nR1,⟨ss4.take (j+1)++[d2],?_,?_,?_⟩,xs4.take j++[v],u89 _ _ zA,?_⟩,.inl hb.xp,.inr rfl,?_,?_,?_,?_,?_⟩ (λx z=>let ⟨_,e⟩:=ex x z;⟨_,uN _ _ e⟩)
   ·rw[Ay (by rw[j8]; lia),j8,show j+1-min (j+1) Ss.length=0 by lia];rfl
   ·rw[hz1,hz2];rwa[bl4.to (.of uN)]
   ·rw[i8];exact(u56.trans u79) _ _ E2
   ·rw[f8,f8,j8,j8,f2];rfl
   ·intro i d Y g1 g2;by_cases z:i<j+1
    ·rw[A7 (by rw[j8]; lia),DI,y9 z] at g1 g2;obtain⟨m,b,r,n,n1,k⟩:=f3 i d Y g1 g2;rwa[m,b,r,n,n1,k.to (.of uN)]
    ·rw[Ay (by rw[j8]; lia)] at g1 g2;have z1:=(g9.mp g1).1;rw[j8] at z1 g1;rw[j8] at g2;simp only[m9,Ax] at z1;rw[show i-min (j+1) ss4.length=0 by lia] at g1;rw[show i-min (j+1) Ss.length=0 by lia] at g2;cases g1;cases g2;rwa[m8,b8,r8,n8,r8p,lw8.to (.of u6n)]
   ·have w:=(f5.take j).app (.one rv4);rw[<- C5] at w;rw[i8];rwa[w.to (.of uN)]
   ·rw[f8,f8,j8,j8];show _+1=_+1+1;lia
   ·rw[f8,j8];show _<=_+1;lia
   ·rw[f8,j8];show _+1<=_;lia
   ·intro Y hY;rcases m7.mp hY with z | z
    ·obtain⟨h1,h2,h3⟩:=hb.st Y (Dd z);rwa[h1,h2,by lia]
    ·rw[d8.mp z];erw[nt.aft (dB jn),?_,?_]<;> rcases bp (S:=S) (D:=D) with e | e <;> rw[e] <;> lia
   ·rwa[λD' hD'=>(m7.mp hD').elim (λz=>hb.tm D' (Dd z)) λz=>d8.mp z ▸ tm]
  ·rw[jc] at et2;have et2:G2 t=Io (.tup [.str (fJ c),.non]):=et2;have et':=s3.tup id et2;erw[_,U,.ref t2,.ref t,U,kA (.inr rfl) et3 et',λG4 s4=>?_];erw[_,U,t,_,0,.str (fJ c),U,U,.inr (SqT.of (s4 _ _ et')),U,U,_,U,Sw (ZC c) ?_];erw[_,U,_,U,sz2,λtt htt=>?_];have st:=(s12.trans s3).trans (.of (s4.trans (zD htt (.tup [.ref tp,.bl Iq]))));exact q tt tp l Ss Ds j _ (st.wider λ_ z=>z.elim) (.inl rfl) zA (hb.to st).up (λx z=>let ⟨_,e⟩:=hX x (z.elim id λz=>z ▸ hb.xl); st.some id e)
def qZ{H:Hp}{a x:b9}{o:HO}(h:upd H a o x=Ip):H x=none:=by
 by_cases z:x=a
 ·rw[z,zA] at h; cases h
 ·rw[zH z] at h; rwa[h]
def YT{H H1:Hp}{b dx:b9}{o o':HO}(s:yY (λx=>x=b) (upd (upd H dx o) b o') H1)(hb:H b=Ip)(hdx:H dx=Ip):Sam H H1:=λx v _ e=>by
 have n:x≠b:=zF e hb;rwa[s x v n (by rw[zH n,zH (zF e hdx)]; exact e)]
def nbl{X:b9->Prop}{H:Hp}{b p l x dx:b9}{fs:List (g8×V)}{xs:List V}(xp:X p)(xl:X l)(hb:H b=Io (.ins bkC dx fs))(e:H x=Io (.lst xs))(h:¬ X x):¬ Bl b p l x:=λz=>by
 rcases z with z | z | z
 ·rw[z,hb] at e; cases e
 ·rwa[h (z ▸ xp)]
 ·rwa[h (z ▸ xl)]
def no1{X:b9->Prop}{H:Hp}{l l' x:b9}{o:HO}(xl:X l)(hl:l'=l\/H l'=Ip)(e:H x=Io o)(h:¬ X x):¬ kG X l' x:=λz=>z.elim h λz=>hl.elim (λy=>h (z ▸ y ▸ xl)) λy=>zF e y z
def HB.k1{H:Hp}{b p l tp:b9}{X:b9->Prop}{Ss:List BS}{Ds:List Deed}{j k m:Nat}(h:HB bkC H b p l X tp Ss Ds j k)(w:k<=m):HB bkC H b p l X tp Ss Ds j m:=⟨h.bk,h.lp,h.xp,h.xl,h.len,h.le,j7 h.lk w,λS hS=>let ⟨a,b,c⟩:=h.st S hS;⟨a,b,by lia⟩,h.tm⟩
def HB.oth{H H1:Hp}{b p l tp b' p' l' dx':b9}{fs':List (g8×V)}{ps' ls':List V}{X:b9->Prop}{Ss:List BS}{Ds:List Deed}{j k:Nat}(h:HB bkC H b p l X tp Ss Ds j k)(s:yY (Bl b' p' l') H H1)(hb:H b'=Io (.ins bkC dx' fs'))(hp:H p'=Io (.lst ps'))(hl:H l'=Io (.lst ls'))(xp:X p')(xl:X l')(n1:b≠b')(n2:p≠p')(n3:p≠l')(n4:l≠p')(n5:l≠l'):HB bkC H1 b p l X tp Ss Ds j k:=by
 have nd:=ZG hb hp hl;have np:=au hb hp hl;obtain⟨S,eS,dx,d,ps,ls,q⟩:=h.bk;obtain⟨sl,rl,e,hL⟩:=h.lp;have nb:∀{x:b9}{xs:List V},H x=Io (.lst xs)->x≠b':=λe z=>by rw[z,hb] at e; cases e
 have nl:∀{x:b9}{o:HO},H x=Io o->(∀ xs,o≠.lst xs)->x≠p'/\x≠l':=λe w=>⟨λz=>by rw[z,hp] at e; cases e; exact w _ rfl,λz=>by rw[z,hl] at e; cases e; rwa[w _ rfl]⟩;have ob:=nl q.ob (λ_ z=>nomatch z);rwa[⟨S,eS,dx,d,ps,ls,s.ins (λz=>z.elim n1 λz=>z.elim ob.1 ob.2) q.ob,q.st.samE s nd np,s.lst (λz=>z.elim (nb q.pa) λz=>z.elim n2 n3) q.pa,s.lst (λz=>z.elim (nb q.la) λz=>z.elim n4 n5) q.la,q.pp.samE s nd np,q.ll.samE s nd np,q.ne⟩,⟨sl,rl,s.tup (np _ _ e) e,hL.bl xp xl s hb hp hl⟩,h.xp,h.xl,h.len,h.le,h.lk,h.st,h.tm]
structure B3(H:Hp)(X:b9->Prop)(k:Nat)(b p l t:Nat->b9):Prop where
 mk ::
 hb:∀ i,i<3->∃ Ss Ds j,HB bkC H (b i) (p i) (l i) X (t i) Ss Ds j k
 db:∀ i m,i<3->m<3->i≠m->b i≠b m/\p i≠p m/\l i≠l m/\p i≠l m
 ex:∀ x,X x->∃ o,H x=Io o
def ve(f:Nat->b9)(i:Nat)(v:b9):Nat->b9:=λm=>if m=i then v else f m
def B3.to{H H1:Hp}{X:b9->Prop}{k:Nat}{b p l t:Nat->b9}(h:B3 H X k b p l t)(s:Sam H H1):B3 H1 X k b p l t:=⟨λi hi=>let ⟨Ss,Ds,j,q⟩:=h.hb i hi;⟨Ss,Ds,j,q.to s⟩,h.db,λx z=>let ⟨_,e⟩:=h.ex x z; s.some id e⟩
def B3.step{H H1:Hp}{X:b9->Prop}{k i:Nat}{b p l t:Nat->b9}{l' tp':b9}{Ss:List BS}{Ds:List Deed}{j:Nat}(h:B3 H X k b p l t)(hi:i<3)(s:yY (Bl (b i) (p i) (l i)) H H1)(hl:l'=l i\/H l'=Ip)(q:HB bkC H1 (b i) (p i) l' (kG X l') tp' Ss Ds j (k+1))(ex:∀ x,kG X l' x->∃ o,H1 x=Io o):B3 H1 (kG X l') (k+1) b p (ve l i l') (ve t i tp'):=by
 obtain⟨Ss0,Ds0,j0,q0⟩:=h.hb i hi;obtain⟨S0,_,dx0,d0,ps0,ls0,k0⟩:=q0.bk;have fr:∀{x:b9},(∃ o,H x=Io o)->x≠l i->x≠l':=λ⟨_,e⟩ n z=>hl.elim (λy=>n (z.trans y)) λy=>zF e y z;erw[λm hm=>?_,λm n hm hn ne=>?_,ex]
 ·by_cases z:m=i
  ·subst z;rwa[Ss,Ds,j,by unfold ve; rw[y9 rfl,y9 rfl]; exact q]
  ·obtain⟨Sm,Dm,jm,qm⟩:=h.hb m hm;obtain⟨n1,n2,n3,n4⟩:=h.db m i hm hi z;obtain⟨_,_,_,n4'⟩:=h.db i m hi hm λy=>z y.symm;exists Sm,Dm,jm;unfold ve;rw[y7 z,y7 z];exact((qm.re (λx xs e n=>no1 q0.xl hl e n) (λ_=>.inl)).oth s k0.ob k0.pa k0.la (.inl q0.xp) (.inl q0.xl) n1 n2 n4 n4'.symm n3).k1 (BM _)
 ·obtain⟨n1,n2,n3,n4⟩:=h.db m n hm hn ne;obtain⟨Sm,Dm,jm,qm⟩:=h.hb m hm;obtain⟨Sn,Dn,jn,qn⟩:=h.hb n hn;erw[n1,n2,?_,?_]
  ·unfold ve;by_cases zm:m=i
   ·have zn:n≠i:=λy=>ne (zm.trans y.symm);rw[y9 zm,y7 zn];exact(fr (h.ex _ qn.xl) (zm ▸ n3.symm)).symm
   ·rw[y7 zm];by_cases zn:n=i
    ·rw[y9 zn];rwa[fr (h.ex _ qm.xl) (zn ▸ n3)]
    ·rw[y7 zn];rwa[n3]
  ·unfold ve;by_cases zn:n=i
   ·rw[y9 zn];rwa[fr (h.ex _ qm.xp) (zn ▸ n4)]
   ·rw[y7 zn];rwa[n4]
def ye{P:Nat->Prop}(h0:P 0)(h1:P 1)(h2:P 2):∀ i,i<3->P i:=λi hi=>by
 match i,hi with
 | 0,_=>rwa[h0]
 | 1,_=>rwa[h1]
 | 2,_=>rwa[h2]
def mK(a b c:b9):Nat->b9
 | 0=>a
 | 1=>b
 | _=>c
def HB.put{H:Hp}{b p l tp D:b9}{X:b9->Prop}{Ss:List BS}{Ds:List Deed}{j k:Nat}{zs ws:List V}(h:HB bkC H b p l X tp Ss Ds j k)(e:H D=Io (.lst zs))(xD:X D)(n1:p≠D)(n2:l≠D):HB bkC (upd H D (.lst ws)) b p l X tp Ss Ds j k:=by
 have s:=uC (o:=.lst ws) e;have np:=lD e;have nd:∀ a kvs,Rd H a (.dK kvs)->¬ a=D:=λa kvs h z=>by
  rw[z] at h;rcases h with h | ⟨o,h⟩ <;> rw[e] at h <;> cases h
 obtain⟨S,eS,dx,d,ps,ls,q⟩:=h.bk;obtain⟨sl,rl,et,hL⟩:=h.lp;exact⟨⟨S,eS,dx,d,ps,ls,s.ins (λz=>by have:=q.ob; rw[z,e] at this; cases this) q.ob,q.st.samE s nd np,s.lst n1 q.pa,s.lst n2 q.la,q.pp.samE s nd np,q.ll.samE s nd np,q.ne⟩,⟨sl,rl,s.tup (np _ _ et) et,hL.sam s nd np λx ys _ n z=>n (z ▸ xD)⟩,h.xp,h.xl,h.len,h.le,h.lk,h.st,h.tm⟩
def B3.put{H:Hp}{X:b9->Prop}{k:Nat}{b p l t:Nat->b9}{D:b9}{zs ws:List V}(h:B3 H X k b p l t)(e:H D=Io (.lst zs))(xD:X D)(n:∀ m,m<3->p m≠D/\l m≠D):B3 (upd H D (.lst ws)) X k b p l t :=
 ⟨λi hi=>let ⟨Ss,Ds,j,q⟩:=h.hb i hi;⟨Ss,Ds,j,q.put e xD (n i hi).1 (n i hi).2⟩,h.db,λx z=>by
  by_cases y:x=D
  ·subst y; rwa[_,zA]
  ·obtain⟨o,q⟩:=h.ex x z;rwa[o,by rw[zH y]; exact q]⟩
def sp_law(K:b7):Sp:=λvs H Q _=>∃(a:b9)(ns:List Int),vs=[.ref a]/\SqL K H a (ns.map V.int)/\ns.length<=63/\∀ H',Q (.bl Iq) H'
def Tc(F:Fun K "law" "law" fw f fd)(Z:Zs mg)(CB:Cb P w mg base)(yBh:Has P w K mg base "_law_told_so" 8 ["_law_book","_law_past"] (rh K))(yBw:Has P w K mg base "_law_step" 8 ["_law_book","_law_past","_law_d","_law_names_here"] (jV K))(h_b_twin:jP P w K mg base gT 4 ["self"] (jY K))(yCf:Has P w K mg base "_law_new" 1 [] (dJ K))(h_b_init:jP P w K mg base lK 2 ["self"] (nG K))(yBr:Has P w K mg base "_law_names" 1 ["_law_some","_law_many"] (lB K))(yBs:Has P w K mg base "_law_draws" 2 ["_law_script","_law_many"] (mM K)):yX P w K mg base CX0 9 f fd ["_law_script"] (sp_law K):=by
 specialize rL
 ·obtain⟨a,ns,rfl,_⟩:=h;rfl
 obtain⟨ad,ns,rfl,hS,hl,q⟩:=h
 refine'⟨_,(zC (yD 1 rL.nd ?_)
   (zC (yD 2 rL.nd ?_)
   (zC (yD 3 rL.nd (iO CB.make h_b_init (hr.mono (by decide)) CB.gBook))
   (zC (yD 4 rL.nd (yV (zB (vB (zB (jB yCf (hr.mono (by decide)) rfl) zI)) (zB ?_ (zB yL zI)))))
   (zC (qA AC rfl (sZ rfl Z.range ?_) (qL 5 rL.nd) (zC (oV ?_ (yl rfl (yI (qL 4 rL.nd) (yI (qL 6 rL.nd) tJ))))
   (zG (zX ?_ (zG (zM pc)) zN))))
   (zC (yD 7 rL.nd (vB (zB (pv 3) (zB (wE CB.m_twin h_b_twin (hr.mono (by decide)) (pv 3)) zI))))
   (zC (yC (iV (pv 7) (zB (wE CB.m_twin h_b_twin (hr.mono (by decide)) ?_) zI)))
   (zC (yD 8 rL.nd ?_)
   (zC (qA AC rfl (sZ rfl Z.range (zB yL zI)) (qL 5 rL.nd) (zC (yD 9 rL.nd ?_)
   (zC (yD 10 rL.nd ?_)
   (zC (oV ?_ (yl rfl (yI (XT (pv 8) (pv 10) dq) (yI (qL 6 rL.nd) tJ))))
   (zC (zX ?_ (zG (zM pc)) zN)
   (zC (zX ?_ (zG gL) zN)
   (zG (zX (zu (zr (zR (vZ rfl) rfl Z.all qp (zB (vA (T:=["_law_one","_law_row"]) (caps:=[]) ⟨rfl,by ac_nf,by ac_nf,rfl,t5⟩ rfl (XI rfl Z.zip (zB (pv 7) (zB (pv 8) zI))) (λ_=>(yl rfl (yI (qL 0 (show(["_law_one","_law_row"]:List g8).Nodup by ac_nf)) (yI (qL 1 (show(["_law_one","_law_row"]:List g8).Nodup by ac_nf)) tJ)))) (λ_=>xX) (λ_=>?_)) zI)))) (zG (zM pc)) zN))))))))
   (zG (zM (zR (cr CB.i_own) rfl Z.isinstance zV (zB ?_ (zB (vC CB.gBook) zI)))))))))))))),?_⟩
 nofun
 erw[_,U,ad,ns,290,U,hS,hl,by decide,by decide,λrr rows H1 s1 hr0 er1 l1 l2 bd=>?_];obtain⟨v0,a0,y0⟩:=xO bd (k:=0) (by decide) (by lia);obtain⟨v1,a1,y1⟩:=xO bd (k:=1) (by decide) (by lia);obtain⟨v8,a8,y8⟩:=xO bd (k:=8) (by decide) (by lia);have cut:∀ k:Nat,k<=289->ze (rows.map V.int) (Io (k:Int)) Ip=(rows.drop k).map V.int:=λk hk=>by rw[ui,HT.sIx_nat rows.length 0 k,show min k rows.length=k by lia,show HT.sIx rows.length rows.length Ip=rows.length from rfl,Ab (by rw[p8]; lia)]
 have sq:∀{H':Hp},H' rr=Io (.lst (rows.map V.int))->Sq K H' rr (rows.map V.int):=λh=>.inl (SqL.of h);erw[_,U,_,U,rr,_,U,SqL.of er1,λc hc=>?_];have ct2:ze (rows.map V.int) (Io 2) Ip=(rows.drop 2).map V.int:=cut 2 (by decide);have sc:=zD hc (.lst (ze (rows.map V.int) (Io 2) Ip));obtain⟨many,em⟩:∃ n:Nat,3+v0%4=(n:Int):=⟨(3+v0%4).toNat,by lia⟩;exists _,U,rr,_,_,_,U,U,sq (sc _ _ er1),a0,_,_,U,U,gt4,_,_,U,rfl;rw[em];erw[c,rows.drop 2,many,U,SqL.of (by rw[zA,ct2]),(by rw[p8]; lia),(by lia),(λv hv=>bd v (AY hv)),λR nms H2 s2 hR eR ln okn nod=>?_];have er2:=s2 _ _ (sc _ _ er1);have ln1:1<=nms.length:=by lia
 clear s2 s1 er1 hR hr0 hS hl sc hc;intro bk dx hb hdx nbd;refine⟨bk,dx,U,zA,λp l0 H3 s3 hp hl0 bl=>⟨U,?_⟩⟩;have sA3:=YT s3 hb hdx;have fp:H2 p=none:=qZ (qZ hp);have nrr:rr≠p:=zF er2 fp;have nR:R≠p:=zF eR fp;have er3:=sA3.lst id er2;have eR3:=sA3.lst id eR;have nrl:rr≠l0:=zF er2 (qZ (qZ hl0));have nRl:R≠l0:=zF eR (qZ (qZ hl0));clear sA3 s3 hp hl0 hb hdx nbd er2 eR fp;obtain⟨dy,dd,ps,ls,k3⟩:=id bl;refine⟨U,λd m b r n H5 s5 hd hm hrr ed em eb er en _ _=>?_⟩;have lw5:LwA H5 d m b r n BS.nil:=⟨.inl ed,.nil em,.nil eb,⟨[],er,zY.mpr rfl⟩,.nil en⟩;refine⟨sz1,λsl hsl=>⟨sz0,λrl hrl=>⟨sz3,λtp htp=>?_⟩⟩⟩;have u1:=zD hsl (.lst [.ref d]);have u2:=zD hrl (.lst []);have u3:=zD htp (.tup [.ref sl,.ref rl,.int 0]);have u13:=(u1.trans u2).trans u3;have s6:=s5.trans u13;have h0:HB bkC (upd (upd (upd H5 sl (.lst [.ref d])) rl (.lst [])) tp (.tup [.ref sl,.ref rl,.int 0])) bk p l0 (λx=>x=p\/x=l0) tp [BS.nil] [] 0 0:=by
  refine⟨⟨BS.nil,rfl,bl.to (.of s6)⟩,⟨sl,rl,zA,(λz=>z.elim (zF (s5 _ _ k3.pa) hsl).symm (zF (s5 _ _ k3.la) hsl).symm),(λz=>z.elim (zF (u1 _ _ (s5 _ _ k3.pa)) hrl).symm (zF (u1 _ _ (s5 _ _ k3.la)) hrl).symm),⟨[d],u3 _ _ (u2 _ _ zA),rfl,λi d' S g1 g2=>?_⟩,[],u3 _ _ zA,zY.mpr rfl⟩,.inl rfl,.inr rfl,rfl,d6 _,d6 _,λS hS=>?_,λD hD=>nomatch hD⟩
  ·have z:=(g9.mp g1).1;have z:i=0:=by simpa using z
   subst z;cases g1;cases g2;rwa[m,b,r,n,(λz=>z.elim (zF k3.pa hrr).symm (zF k3.la hrr).symm),lw5.to (.of u13)]
  ·rw[d8.mp hS];rwa[pQ.nil,by decide,by decide]
 have x0:∀ x,(x=p\/x=l0)->∃ o,(upd (upd (upd H5 sl (.lst [.ref d])) rl (.lst [])) tp (.tup [.ref sl,.ref rl,.int 0])) x=Io o:=λx z=>z.elim (λz=>⟨_,z ▸ s6 _ _ k3.pa⟩) λz=>⟨_,z ▸ s6 _ _ k3.la⟩;have er6:=s6 _ _ er3;have eR6:=s6 _ _ eR3;generalize upd (upd (upd H5 sl (.lst [.ref d])) rl (.lst [])) tp (.tup [.ref sl,.ref rl,.int 0])=H6 at h0 x0 er6 eR6 ⊢;clear s6 u13 u3 u2 u1 s5 k3 bl lw5 er3 eR3 hd hm hrr ed em eb er en hsl hrl htp;exists _,U,rr,_,_,_,U,U,sq er6,a1,_,_,U,U,(by show(0:Int)<13; decide);have n0:0<=v1%13:=by lia
 have n24:v1%13<=12:=by lia
 generalize v1%13=N at n0 n24 ⊢;refine⟨_,U,by lia,by lia,rT (lo:=0) (n:=N.toNat) (λi σ H'=>∃(l tp:b9)(X:b9->Prop)(Ss:List BS)(Ds:List Deed)(j:Nat),HB bkC H' bk p l X tp Ss Ds j i/\(∀ x,X x->∃ o,H' x=Io o)/\H' rr=Io (.lst (rows.map V.int))/\H' R=Io (.lst (nms.map V.str))/\¬ X rr/\¬ X R/\∃ u5 u6:Option V,σ=[Io (.ref ad),Io (.ref rr),Io (.ref R),Io (.ref bk),Io (.ref tp),u5,u6,Ip,Ip,Ip,Ip])
  ⟨l0,tp,_,[BS.nil],[],0,h0,x0,er6,eR6,(λz=>z.elim nrr nrl),(λz=>z.elim nR nRl),Ip,Ip,rfl⟩ ?_ ?_⟩
 ·rintro i σ G hi ⟨l,tp,X,Ss,Ds,j,hb,hX,erG,eRG,n1,n2,u5,u6,rfl⟩;have ck:ze (rows.map V.int) (Io (9+11*(0+(i:Int)))) Ip=(rows.drop (9+11*i)).map V.int:=by
   rw[show 9+11*(0+(i:Int))=((9+11*i:Nat):Int) by lia];rwa[cut _ (by lia)]
  erw[_,U,_,U,_,U,_,U,_,_,U,U,XS (by lia),_,_,U,U,_,U,rr,_,U,SqL.of erG,λc hc=>?_];have sc:=zD hc (.lst (ze (rows.map V.int) (Io (9+11*(0+(i:Int)))) Ip));refine⟨_,rfl,bk,p,l,tp,c,R,X,rows.drop (9+11*i),nms,Ss,Ds,j,i,rfl,hb.to (.of sc),(λx z=>let ⟨_,e⟩:=hX x z;⟨_,sc _ _ e⟩),(by lia),(by rw[zA,ck]),(by rw[p8]; lia),(λv hv=>bd v (AY hv)),sc _ _ eRG,ln1,okn,λt tp' l' Ss' Ds' j' G1 s1 hl' et hb1 hX1=>?_⟩;obtain⟨S,eS,dx,d,ps,ls,kk⟩:=hb.bk;have nB:∀{x:b9}{xs:List V},G x=Io (.lst xs)->¬ X x->¬ Bl bk p l x:=λe h z=>nbl (hb:=kk.ob) hb.xp hb.xl e h z;have er1:=s1.lst (nB erG n1) (sc _ _ erG);have eR1:=s1.lst (nB eRG n2) (sc _ _ eRG);have n1':¬ kG X l' rr:=no1 hb.xl hl' (sc _ _ erG) n1;have n2':¬ kG X l' R:=no1 hb.xl hl' (sc _ _ eRG) n2;clear sc hc ck nB kk s1 hl' hb erG eRG n1 n2 eS;exists t,_,U,SqT.of et,U,.ref tp',_,U,.bl Iq,_,U,rfl;erw[_,U,_,U,yR ?_];rwa[l',tp',_,Ss',Ds',j',hb1,hX1,er1,eR1,n1',n2',_,_,U]
 ·rintro σ G ⟨l,tp,X,Ss,Ds,j,hb,hX,erG,eRG,n1,n2,u5,u6,rfl⟩;have no:∀{d p l:b9}{m:g8},m = "twin" ->(bkF d p l).lookup m=none:=λ{d p l m} e=>by subst e; rwa[jC (by ac_nf) (by ac_nf) (by ac_nf)]
  obtain⟨S,eS,bl⟩:=hb.bk;have hl:=hb.len;have hj:=hb.le;have lk:=hb.lk;have lp1:((Ds.zip Ss).take j).length<=400:=by rw[j8]; lia
  have lp2:((Ds.zip Ss.tail).drop j).reverse.length<=400:=by rw[AE,p8,Bs]; lia
  obtain⟨dx0,d0,ps0,ls0,k0⟩:=id bl;erw[_,U,_,U,bk,dx0,_,U,k0.ob,no rfl,bk,p,l,S,_,_,U,bl,lp1,lp2,λb1 p1 l1 G1 s1 hb1 hp1 hl1 bl1=>⟨sz2,λB hB=>?_⟩];have w1:=zD hB (.lst [.ref bk,.ref b1]);obtain⟨dx1,d1,ps1,ls1,k1⟩:=id bl1;have eB1:upd G1 B (.lst [.ref bk,.ref b1]) B=Io (.lst [.ref bk,.ref b1]):=zA;have s1':=s1.trans (yY.of w1);have bl1':=bl1.to (.of w1);obtain⟨nB0,nB1⟩:(∀{x:b9}{o:HO},G1 x=Io o->x≠B)/\True:=⟨λe=>zF e hB,trivial⟩;have fB:G B=none:=s1.free id hB;generalize upd G1 B (.lst [.ref bk,.ref b1])=G2 at w1 eB1 s1' bl1' ⊢;obtain⟨dx1',d1',ps1',ls1',k1'⟩:=id bl1';erw[_,U,.inl ⟨U,_,SqL.of eB1⟩,_,U,B,_,1,.ref b1,U,U,.inl (SqL.of eB1),U,b1,dx1',_,U,k1'.ob,no rfl,b1,p1,l1,S,_,_,U,bl1',lp1,lp2,λb2 p2 l2 G3 s3 hb2 hp2 hl2 bl2=>?_];have eB3:=s3.lst id eB1;exists B,_,.ref b2,U,U,eB3,zT (by show 2<=1000; decide);have sB:=uC (o:=.lst [.ref bk,.ref b1,.ref b2]) eB3;erw[_,U,_,U,_,U,sz3,λPL hPL=>?_];have wP:=zD hPL (.lst [.ref tp,.ref tp,.ref tp]);obtain⟨dx2,d2,ps2,ls2,k2⟩:=id bl2;have f3:G3 PL=none:=qZ hPL;have f2:G2 PL=none:=s3.free id f3;have fP:G PL=none:=s1'.free id f2;have fp2:=s1'.free id hp2;have fl2:=s1'.free id hl2;have nPB:PL≠B:=λz=>by rw[z,eB3] at f3; cases f3
  let X3:b9->Prop:=λx=>X x\/x=p1\/x=l1\/x=p2\/x=l2\/x=B\/x=PL
  have wX:∀ x xs,G x=Io (.lst xs)->¬ X x->¬ X3 x:=λx xs e n z=>by
   rcases z with z | z | z | z | z | z | z
   ·rwa[n z]
   ·rwa[zF e hp1 z]
   ·rwa[zF e hl1 z]
   ·rwa[zF e fp2 z]
   ·rwa[zF e fl2 z]
   ·rwa[zF e fB z]
   ·rwa[zF e fP z]
  have hr:HB bkC G bk p l X3 tp Ss Ds j N.toNat:=hb.re wX λ_=>.inl;have e0B:∀{x:b9}{o:HO},G x=Io o->x≠B:=λe=>zF e fB;have e1B:∀{x:b9}{o:HO},G1 x=Io o->x≠B:=nB0;have e2B:∀{x:b9},G2 x=Ip->x≠B:=λe z=>by rw[z,eB1] at e; cases e
  have h0:=(((hr.to s1').to s3).put (ws:=[.ref bk,.ref b1,.ref b2]) eB3 (.inr (.inr (.inr (.inr (.inr (.inl rfl)))))) (e0B k0.pa) (e0B k0.la)).to (.of wP);have h1':HB bkC G2 b1 p1 l1 X3 tp Ss Ds j N.toNat:=⟨⟨S,eS,bl1'⟩,(hr.to s1').lp,.inr (.inl rfl),.inr (.inr (.inl rfl)),hb.len,hb.le,hb.lk,hb.st,hb.tm⟩;have h1:=((h1'.to s3).put (ws:=[.ref bk,.ref b1,.ref b2]) eB3 (.inr (.inr (.inr (.inr (.inr (.inl rfl)))))) (e1B k1.pa) (e1B k1.la)).to (.of wP);have h2':HB bkC G3 b2 p2 l2 X3 tp Ss Ds j N.toNat:=⟨⟨S,eS,bl2⟩,((hr.to s1').to s3).lp,.inr (.inr (.inr (.inl rfl))),.inr (.inr (.inr (.inr (.inl rfl)))),hb.len,hb.le,hb.lk,hb.st,hb.tm⟩;have h2:=(h2'.put (ws:=[.ref bk,.ref b1,.ref b2]) eB3 (.inr (.inr (.inr (.inr (.inr (.inl rfl)))))) (e2B hp2) (e2B hl2)).to (.of wP);have g2:∀{x:b9}{o:HO},G2 x=Io o->∃ o',G3 x=Io o':=λe=>s3.some id e;have g3:∀{x:b9},(∃ o,G3 x=Io o)->∃ o',upd (upd G3 B (.lst ([.ref bk,.ref b1]++[.ref b2]))) PL (.lst [.ref tp,.ref tp,.ref tp]) x=Io o':=λ{x} ⟨o,e⟩=>by
   by_cases z:x=B
   ·subst z;rwa[_,wP _ _ zA]
   ·rwa[_,wP _ _ (by rw[zH z]; exact e)]
  have ex:∀ x,X3 x->∃ o',upd (upd G3 B (.lst ([.ref bk,.ref b1]++[.ref b2]))) PL (.lst [.ref tp,.ref tp,.ref tp]) x=Io o':=λx z=>by
   rcases z with z | z | z | z | z | z | z
   ·obtain⟨o,e⟩:=hX x z;obtain⟨o2,e2⟩:=s1'.some id e;rwa[g3 (g2 e2)]
   ·subst z; rwa[g3 (g2 k1'.pa)]
   ·subst z; rwa[g3 (g2 k1'.la)]
   ·subst z; rwa[g3 ⟨_,k2.pa⟩]
   ·subst z; rwa[g3 ⟨_,k2.la⟩]
   ·subst z; rwa[g3 ⟨_,eB3⟩]
   ·subst z; rwa[_,zA]
  have fb2:=s1'.free id hb2;have b3:B3 (upd (upd G3 B (.lst ([.ref bk,.ref b1]++[.ref b2]))) PL (.lst [.ref tp,.ref tp,.ref tp])) X3 N.toNat (mK bk b1 b2) (mK p p1 p2) (mK l l1 l2) (mK tp tp tp):=by
   erw[ye ⟨Ss,Ds,j,h0⟩ ⟨Ss,Ds,j,h1⟩ ⟨Ss,Ds,j,h2⟩,λi m hi hm=>?_,ex];have a01:=zF k0.ob hb1;have a02:=zF k0.ob fb2;have a12:=zF k1'.ob hb2;have c01:=zF k0.pa hp1;have c02:=zF k0.pa fp2;have c12:=zF k1'.pa hp2;have e01:=zF k0.la hl1;have e02:=zF k0.la fl2;have e12:=zF k1'.la hl2;have r01:=zF k0.pa hl1;have r02:=zF k0.pa fl2;have r10:=(zF k0.la hp1).symm;have r12:=zF k1'.pa hl2;have r20:=(zF k0.la fp2).symm;have r21:=(zF k1'.la hp2).symm;rwa[ye (P:=λi=>∀ m,m<3->i≠m->mK bk b1 b2 i≠mK bk b1 b2 m/\mK p p1 p2 i≠mK p p1 p2 m/\mK l l1 l2 i≠mK l l1 l2 m/\mK p p1 p2 i≠mK l l1 l2 m) (ye (λz=>x5 rfl z) (λ_=>⟨a01,c01,e01,r01⟩) λ_=>⟨a02,c02,e02,r02⟩) (ye (λ_=>⟨a01.symm,c01.symm,e01.symm,r10⟩) (λz=>x5 rfl z) λ_=>⟨a12,c12,e12,r12⟩) (ye (λ_=>⟨a02.symm,c02.symm,e02.symm,r20⟩) (λ_=>⟨a12.symm,c12.symm,e12.symm,r21⟩) λz=>x5 rfl z) i hi m hm]
  have sN:∀{x:b9}{xs:List V},G x=Io (.lst xs)->upd (upd G3 B (.lst ([.ref bk,.ref b1]++[.ref b2]))) PL (.lst [.ref tp,.ref tp,.ref tp]) x=Io (.lst xs):=λe=>wP _ _ (by rw[zH (e0B e)]; rwa[s3.lst id (s1'.lst id e)]);have er5:=sN erG;have eR5:=sN eRG;have m1:=wX _ _ erG n1;have m2:=wX _ _ eRG n2;have rP:rr≠PL:=zF erG fP;have RP:R≠PL:=zF eRG fP;have EB:upd (upd G3 B (.lst ([.ref bk,.ref b1]++[.ref b2]))) PL (.lst [.ref tp,.ref tp,.ref tp]) B=Io (.lst [.ref bk,.ref b1,.ref b2]):=wP _ _ zA;have EP:upd (upd G3 B (.lst ([.ref bk,.ref b1]++[.ref b2]))) PL (.lst [.ref tp,.ref tp,.ref tp]) PL=Io (.lst [.ref tp,.ref tp,.ref tp]):=zA;have dP:∀ m,m<3->mK p p1 p2 m≠B/\mK l l1 l2 m≠B/\mK p p1 p2 m≠PL/\mK l l1 l2 m≠PL:=ye ⟨e0B k0.pa,e0B k0.la,zF k0.pa fP,zF k0.la fP⟩ ⟨e1B k1.pa,e1B k1.la,zF k1'.pa f2,zF k1'.la f2⟩ ⟨e2B hp2,e2B hl2,zF k2.pa f3,zF k2.la f3⟩;have xPL:X3 PL:=.inr (.inr (.inr (.inr (.inr (.inr rfl)))));have hn:N.toNat<=12:=by lia
  generalize upd (upd G3 B (.lst ([.ref bk,.ref b1]++[.ref b2]))) PL (.lst [.ref tp,.ref tp,.ref tp])=G5 at b3 er5 eR5 EB EP ⊢
  clear_value X3
  obtain⟨b',hb'⟩:∃ f,f=mK bk b1 b2:=⟨_,rfl⟩;obtain⟨p',hp'⟩:∃ f,f=mK p p1 p2:=⟨_,rfl⟩;obtain⟨l',hl'⟩:∃ f,f=mK l l1 l2:=⟨_,rfl⟩;obtain⟨t',ht'⟩:∃ f,f=mK tp tp tp:=⟨_,rfl⟩;have EB:G5 B=Io (.lst [.ref (b' 0),.ref (b' 1),.ref (b' 2)]):=by rw[hb']; rwa[EB]
  have EP:G5 PL=Io (.lst [.ref (t' 0),.ref (t' 1),.ref (t' 2)]):=by rw[ht']; rwa[EP]
  rw[<- hb',<- hp',<- hl',<- ht'] at b3;rw[<- hp',<- hl'] at dP;clear hb' hp' hl' ht' sN ex g3 g2 h0 h1 h2 h1' h2' hr wX wP sB s3 s1' w1 s1 e0B e1B e2B k0 k1 k1' k2 bl bl1 bl1' bl2 erG eRG n1 n2 hb hX fb2 f2 f3 fP fp2 fl2 fB hPL hp1 hl1 hb1 hp2 hl2 hb2 eB1 eB3 hB nB0 nB1;refine⟨_,U,by decide,by decide,rT (lo:=0) (n:=12) (λi σ H'=>∃(X:b9->Prop)(l t:Nat->b9),B3 H' X (N.toNat+i) b' p' l t/\X PL/\(∀ m,m<3->p' m≠B/\l m≠B/\p' m≠PL/\l m≠PL)/\H' rr=Io (.lst (rows.map V.int))/\H' R=Io (.lst (nms.map V.str))/\¬ X rr/\¬ X R/\H' B=Io (.lst [.ref (b' 0),.ref (b' 1),.ref (b' 2)])/\H' PL=Io (.lst [.ref (t 0),.ref (t 1),.ref (t 2)])/\∃ u5 u6 u9 u10:Option V,σ=[Io (.ref ad),Io (.ref rr),Io (.ref R),Io (.ref bk),Io (.ref tp),u5,u6,Io (.ref B),Io (.ref PL),u9,u10])
   ⟨X3,l',t',b3,xPL,dP,er5,eR5,m1,m2,EB,EP,_,_,_,_,rfl⟩ ?_ ?_⟩
  ·rintro i σ H1 hi ⟨X,l,t,b3,xP,dP,er,eR,m1,m2,EB,EP,u5,u6,u9,u10,rfl⟩;have ck:ze (rows.map V.int) (Io (141+11*(0+(i:Int)))) Ip=(rows.drop (141+11*i)).map V.int:=by
    rw[show 141+11*(0+(i:Int))=((141+11*i:Nat):Int) by lia];rwa[cut _ (by lia)]
   erw[_,U,_,U,_,_,U,U,XS (by lia),_,_,U,U,_,U,rr,_,U,SqL.of er,λc hc=>?_];rw[ck];have sc:=zD hc (.lst ((rows.drop (141+11*i)).map V.int));have ec:upd H1 c (.lst ((rows.drop (141+11*i)).map V.int)) c=Io (.lst ((rows.drop (141+11*i)).map V.int)):=zA
   replace b3:=b3.to (.of sc)
   replace er:=sc _ _ er
   replace eR:=sc _ _ eR
   replace EB:=sc _ _ EB
   replace EP:=sc _ _ EP
   generalize upd H1 c (.lst ((rows.drop (141+11*i)).map V.int))=H2 at b3 er eR EB EP ec ⊢;clear sc hc ck;have bd2:∀ v∈rows.drop (141+11*i),0<=v/\v<1000003:=λv hv=>bd v (AY hv);obtain⟨v10,a10,y10⟩:=xO bd2 (k:=10) (by decide) (by rw[p8]; lia);exists _,U,c,_,_,_,U,U,.inl (SqL.of ec),a10,_,_,U,U,gt3;obtain⟨a,ea,ha3⟩:∃ a:Nat,v10%3=(a:Int)/\a<3:=⟨(v10%3).toNat,by lia,by lia⟩;rw[ea];have atB:atI [V.ref (b' 0),.ref (b' 1),.ref (b' 2)] (a:Int)=Io (.ref (b' a)):=ye (P:=λa:Nat=>atI [V.ref (b' 0),.ref (b' 1),.ref (b' 2)] (a:Int)=Io (.ref (b' a))) rfl rfl rfl a ha3;have atP:atI [V.ref (t 0),.ref (t 1),.ref (t 2)] (a:Int)=Io (.ref (t a)):=ye (P:=λa:Nat=>atI [V.ref (t 0),.ref (t 1),.ref (t 2)] (a:Int)=Io (.ref (t a))) rfl rfl rfl a ha3;obtain⟨Ss,Ds,j,hbA⟩:=b3.hb a ha3;obtain⟨Sa,_,dxa,da,psa,lsa,ka⟩:=hbA.bk;refine⟨_,U,_,U,B,_,_,_,U,U,.inl (SqL.of EB),atB,_,U,_,U,PL,_,_,_,U,U,.inl (SqL.of EP),atP,_,U,_,U,b' a,p' a,l a,t a,c,R,X,rows.drop (141+11*i),nms,Ss,Ds,j,N.toNat+i,U,hbA,b3.ex,(by lia),ec,(by rw[p8]; lia),bd2,eR,ln1,okn,λtt tp' lq Ss' Ds' j' G1 s1 hl1 et hb1 hX1=>?_⟩;have nl:∀{x:b9}{xs:List V},H2 x=Io (.lst xs)->p' a≠x->l a≠x->¬ Bl (b' a) (p' a) (l a) x:=λe h1 h2 z=>by
    rcases z with z | z | z
    ·rw[z,ka.ob] at e; cases e
    ·rwa[h1 z.symm]
    ·rwa[h2 z.symm]
   have EB1:=s1.lst (nl EB (dP a ha3).1 (dP a ha3).2.1) EB;have EP1:=s1.lst (nl EP (dP a ha3).2.2.1 (dP a ha3).2.2.2) EP;have er1:=s1.lst (nbl hbA.xp hbA.xl ka.ob er m1) er;have eR1:=s1.lst (nbl hbA.xp hbA.xl ka.ob eR m2) eR;have b31:=b3.step ha3 s1 hl1 hb1 hX1;have m1':=no1 hbA.xl hl1 er m1;have m2':=no1 hbA.xl hl1 eR m2;have fq:∀{x:b9}{xs:List V},H2 x=Io (.lst xs)->l a≠x->lq≠x:=λe n z=>hl1.elim (λy=>n (y.symm.trans z)) λy=>zF e y z.symm;have dP1:∀ m,m<3->p' m≠B/\ve l a lq m≠B/\p' m≠PL/\ve l a lq m≠PL:=λm hm=>by
    obtain⟨h1,h2,h3,h4⟩:=dP m hm;obtain⟨_,g2,_,g4⟩:=dP a ha3;unfold ve;split
    ·rwa[h1,fq EB g2,h3,fq EP g4]
    ·rwa[h1,h2,h3,h4]
   have b32:=b31.put (ws:=[V.ref (t 0),.ref (t 1),.ref (t 2)].set a (.ref tp')) EP1 (.inl xP) λm hm=>(dP1 m hm).2.2;exists tt,_,U,SqT.of et,U,.ref tp',_,U,_,U,_,U,PL,_,_,a,U,U,EP1,XR ha3,.bl Iq,_,U,rfl;have eq3:[V.ref (t 0),.ref (t 1),.ref (t 2)].set a (.ref tp')=[.ref (ve t a tp' 0),.ref (ve t a tp' 1),.ref (ve t a tp' 2)]:=ye (P:=λa=>[V.ref (t 0),.ref (t 1),.ref (t 2)].set a (.ref tp')=[.ref (ve t a tp' 0),.ref (ve t a tp' 1),.ref (ve t a tp' 2)]) rfl rfl rfl a ha3;rw[eq3];rw[eq3] at b32;have nPL:∀{x:b9}{xs:List V},x≠PL->G1 x=Io (.lst xs)->upd G1 PL (.lst [.ref (ve t a tp' 0),.ref (ve t a tp' 1),.ref (ve t a tp' 2)]) x=Io (.lst xs):=λn e=>by rw[zH n]; rwa[e]
   have er2:=nPL rP er1;have eR2:=nPL RP eR1;have EB2:=nPL nPB.symm EB1;have EP2:upd G1 PL (.lst [.ref (ve t a tp' 0),.ref (ve t a tp' 1),.ref (ve t a tp' 2)]) PL=Io (.lst [.ref (ve t a tp' 0),.ref (ve t a tp' 1),.ref (ve t a tp' 2)]):=zA;generalize upd G1 PL (.lst [.ref (ve t a tp' 0),.ref (ve t a tp' 1),.ref (ve t a tp' 2)])=G6 at b32 er2 eR2 EB2 EP2 ⊢;have xP':kG X lq PL:=.inl xP;generalize ve t a tp'=t2 at b32 EP2 ⊢;generalize ve l a lq=l2 at b32 dP1 ⊢;generalize kG X lq=X2 at b32 xP' m1' m2' ⊢;clear eq3 nPL fq nl EB1 EP1 er1 eR1 b31 hX1 hb1 s1 hl1 et dP m1 m2 xP b3 er eR EB EP ec ka hbA atB atP;refine⟨_,U,_,U,yR ?_⟩;have inv:∀ H',Sam G6 H'->∃(X:b9->Prop)(l t:Nat->b9),B3 H' X (N.toNat+(i+1)) b' p' l t/\X PL/\(∀ m,m<3->p' m≠B/\l m≠B/\p' m≠PL/\l m≠PL)/\H' rr=Io (.lst (rows.map V.int))/\H' R=Io (.lst (nms.map V.str))/\¬ X rr/\¬ X R/\H' B=Io (.lst [.ref (b' 0),.ref (b' 1),.ref (b' 2)])/\H' PL=Io (.lst [.ref (t 0),.ref (t 1),.ref (t 2)])/\∃ u5 u6 u9 u10:Option V,[Io (.ref ad),Io (.ref rr),Io (.ref R),Io (.ref bk),Io (.ref tp),Io (.int (0+(i:Int))),Io (.bl Iq),Io (.ref B),Io (.ref PL),Io (.ref c),Io (.int a)]=[Io (.ref ad),Io (.ref rr),Io (.ref R),Io (.ref bk),Io (.ref tp),u5,u6,Io (.ref B),Io (.ref PL),u9,u10]:=λH' s' =>
    ⟨X2,l2,t2,b32.to s',xP',dP1,s'.lst id er2,s'.lst id eR2,m1',m2',s'.lst id EB2,s'.lst id EP2,_,_,_,_,rfl⟩
   apply cutX (A:=True)
   ·intro std;exists _,U,rr,_,_,_,U,U,sq er2,a8,_,_,U,U,gt2,U,_,rfl;erw[ifE (λz=>?_) (λz=>?_)];rotate_left
    ·rwa[yR (std trivial)]
    exists _,U,_,_,U,U,gt4,_,_,U,U,_,rfl;erw[ifD (λz2=>?_) (λz2=>std trivial)];rwa[inv _ (yY.refl _)]
   intro _;refine⟨_,U,_,U,Iq,Iq,B,PL,[.ref (b' 0),.ref (b' 1),.ref (b' 2)],[.ref (t2 0),.ref (t2 1),.ref (t2 2)],U,SqL.of EB2,SqL.of EP2,λcc D hD=>?_⟩;have toS:∀{H':Hp},yY (λx=>x=D) G6 H'->Sam G6 H':=λs x o _ e=>s x o (λz=>by rw[z,hD] at e; cases e) e;refine ou (K:=K) (xs:=[.ref (b' 0),.ref (b' 1),.ref (b' 2)]) (ys:=[.ref (t2 0),.ref (t2 1),.ref (t2 2)]) (λm σ zs H'=>yY (λx=>x=D) G6 H'/\H' D=Io (.lst zs)/\zs=(t9 m Iq).map V.bl/\m<=3/\∃ u v:Option V,σ=[u,v])
    ⟨.of (zD hD _),zA,rfl,by decide,Ip,Ip,rfl⟩ (λm σ zs H' hP=>⟨SqL.of ((toS hP.1).lst id EB2),SqL.of ((toS hP.1).lst id EP2),hP.2.1⟩) ?_ ?_
   ·rintro m u v T σ zs H' hu hv hT ⟨sD,eD,rfl,_,o1,o2,rfl⟩;have hm3:m<3:=(g9.mp hu).1;have eu:u=.ref (b' m):=o9 (hu.symm.trans (ye (P:=λm=>[V.ref (b' 0),.ref (b' 1),.ref (b' 2)][m]?=Io (.ref (b' m))) rfl rfl rfl m hm3));have ev:v=.ref (t2 m):=o9 (hv.symm.trans (ye (P:=λm=>[V.ref (t2 0),.ref (t2 1),.ref (t2 2)][m]?=Io (.ref (t2 m))) rfl rfl rfl m hm3));subst eu ev;have sT:=zD hT (.tup [.ref (b' m),.ref (t2 m)]);obtain⟨Sm,Dm,jm,hbm⟩:=(b32.to ((toS sD).trans (.of sT))).hb m hm3;erw[T,[.ref (b' m),.ref (t2 m)],U,SqT.of zA,U,.ref (b' m),_,U,.ref (t2 m),[],U,U,_,U,_,U,b' m,p' m,l2 m,t2 m,X2,Sm,Dm,jm,_,U,hbm,(by lia),λH4 s4=>?_];have e4:=s4.lst id (sT _ _ eD);rwa[e4,zT (by rw[a7,AQ]; lia),(sD.trans ((yY.of sT).trans (s4.wider λ_ z=>z.elim))).trans (uC e4),zA,by rw[Dc,i8]; rfl,hm3,_,_,rfl]
   ·rintro σ zs H' ⟨sD,eD,rfl,_,o1,o2,rfl⟩;rwa[D,t9 3 Iq,U,SqL.of eD,_,U,yR (inv H' (toS sD))]
  ·rintro σ H1 ⟨X,l,t,b3,xP,dP,er,eR,m1,m2,EB,EP,u5,u6,u9,u10,rfl⟩;obtain⟨Ss1,Ds1,j1,hb1⟩:=b3.hb 1 (by decide);obtain⟨S1,_,dx1,d1,ps1,ls1,k1⟩:=hb1.bk;rwa[_,U,B,_,1,.ref (b' 1),U,U,.inl (SqL.of EB),U,b' 1,dx1,_,U,k1.ob,q _]
end
def Vs{K:b7}{C:b9}{f:g8}(h:AA K (.ref C) f=Io Ip):xf K C f:=h
def xh(P:B8):Cls (KK P) bkC:=⟨by symm,by symm,by symm,by symm⟩
set_option maxHeartbeats 0 in
def cb_mk{P:j9}{w:n9}{mg:g8->Option c7}{base:o0}(X:At (KK w.params) base)(G:base.Ns mainGlobals mg):Cb P w mg base :=
 ⟨⟨_,X,xh _,Vs (by symm)⟩,
   ⟨_,X,xh _,Vs (by symm)⟩,
   ⟨_,X,xh _,Vs (by symm)⟩,
   ⟨_,X,xh _,⟨(by symm),(by symm),(by symm)⟩⟩,
   ⟨_,X,xh _,⟨(by symm),(by symm),(by symm)⟩⟩,
   ⟨_,X,xh _,⟨(by symm),(by symm),(by symm)⟩⟩,
   ⟨_,X,xh _,⟨(by symm),(by symm),(by symm)⟩⟩,
   ⟨_,X,xh _,⟨(by symm),(by symm),(by symm)⟩⟩,
   ⟨_,X,xh _,⟨(by symm),(by symm),(by symm)⟩⟩,
   ⟨_,X,xh _,⟨(by symm),(by symm),(by symm)⟩⟩,
   ⟨_,X,xh _,⟨(by symm),(by symm),(by symm)⟩⟩,
   ⟨_,X,xh _,⟨(by symm),(by symm),(by symm)⟩⟩,
   ⟨_,X,xh _,⟨(by symm),(by symm),(by symm)⟩⟩,
   ⟨_,X,xh _,⟨(by symm),(by symm),(by symm)⟩⟩,
   ⟨_,X,xh _,⟨(by symm),(by symm),(by symm)⟩⟩,
   ⟨_,X,⟨(by symm),(by symm),(by symm),(by symm)⟩⟩,
   (g6 X G (by symm)),
   (Zm (ep:=4) (l:=[("marks",535,.int 20,.int 20 536),("banks",537,.int 8,.int 8 538),("runs",539,.int 12,.int 12 540),("notes",541,.int 24,.int 24 542)]) (X _ _ (by symm)) (λe he=>by simp only[i7,Ai,or_false] at he; rcases he with rfl | rfl | rfl | rfl <;> rwa[_,U]) (by ac_nf)),
   (g6 X G (by symm)),
   (Zm (ep:=10) (l:=[("mark",760,.ref 366,.ref 366),("move",761,.ref 373,.ref 373),("unmark",762,.ref 380,.ref 380),("bank",763,.ref 387,.ref 387),("level",764,.ref 394,.ref 394),("sail",765,.ref 401,.ref 401),("right",766,.ref 408,.ref 408),("bearing",767,.ref 422,.ref 422),("range",768,.ref 429,.ref 429),("strike",769,.ref 436,.ref 436)]) (X _ _ (by symm)) (λe he=>by simp only[i7,Ai,or_false] at he; rcases he with rfl | rfl | rfl | rfl | rfl | rfl | rfl | rfl | rfl | rfl <;> rwa[rfl]) (by ac_nf)),
   (g6 X G (by symm)),
   ⟨548,(g6 X G (by symm))⟩,
   ⟨550,(g6 X G (by symm))⟩,
   ⟨552,(g6 X G (by symm))⟩,
   (g6 X G (by symm)),
   (g6 X G (by symm)),
   (g6 X G (by symm)),
   (g6 X G (by symm)),
   (g6 X G (by symm)),
   (g6 X G (by symm)),
   (g6 X G (by symm)),
   (g6 X G (by symm)),
   (g6 X G (by symm)),
   (g6 X G (by symm)),
   (g6 X G (by symm)),
   (g6 X G (by symm)),
   (g6 X G (by symm)),
   (g6 X G (by symm)),
   (g6 X G (by symm)),
   (g6 X G (by symm)),
   (g6 X G (by symm)),
   (g6 X G (by symm)),
   (g6 X G (by symm)),
   (g6 X G (by symm)),
   (g6 X G (by symm)),
   (g6 X G (by symm)),
   (g6 X G (by symm)),
   (g6 X G (by symm)),
   (g6 X G (by symm)),
   (g6 X G (by symm)),
   (g6 X G (by symm)),
   (g6 X G (by symm)),
   (xH X (g6 X G (by symm)) (by symm)),
   ⟨_,X,(by symm)⟩,
   (xH X (g6 X G (by symm)) (by symm)),
   ⟨_,X,(by symm)⟩,
   (xH X (g6 X G (by symm)) (by symm)),
   ⟨_,X,(by symm)⟩,
   (xH X (g6 X G (by symm)) (by symm)),
   ⟨_,X,(by symm)⟩,
   (xH X (g6 X G (by symm)) (by symm)),
   ⟨_,X,(by symm)⟩,
   (xH X (g6 X G (by symm)) (by symm)),
   ⟨_,X,(by symm)⟩,
   (xH X (g6 X G (by symm)) (by symm)),
   ⟨_,X,(by symm)⟩,
   (xH X (g6 X G (by symm)) (by symm)),
   ⟨_,X,(by symm)⟩,
   (xH X (g6 X G (by symm)) (by symm)),
   ⟨_,X,(by symm)⟩,
   (xH X (g6 X G (by symm)) (by symm)),
   ⟨_,X,(by symm)⟩,
   (xH X (g6 X G (by symm)) (by symm)),
   ⟨_,X,(by symm)⟩,
   (xH X (g6 X G (by symm)) (by symm)),
   ⟨_,X,(by symm)⟩,
   (xH X (g6 X G (by symm)) (by symm)),
   ⟨_,X,(by symm)⟩,
   (xH X (g6 X G (by symm)) (by symm)),
   ⟨_,X,(by symm)⟩,
   (xH X (g6 X G (by symm)) (by symm)),
   ⟨_,X,(by symm)⟩,
   (xH X (g6 X G (by symm)) (by symm)),
   ⟨_,X,(by symm)⟩,
   ⟨_,X,(by symm)⟩,
   ⟨_,X,⟨xh _,(by symm),(by symm),(by symm),(by symm),(by symm)⟩⟩⟩
abbrev AtK(Pm:B8)(x:g8)(s:Ag)(f:b9)(oc:c7)(od:Option b9)(sl:Array (Option c7))(kV dc pm:c7)(an:Option b9)(cd ct:c7):Prop :=
 Ao (KK Pm) mainGlobals x=Io (Io (.ref f))/\Ae f KC=Io ⟨oc,od,.func (An x x (wC s) (xJ s) (zJ s) .none kV dc pm an cd ct),sl⟩/\Ci KC cd x=Iq/\Au KC (.ref f)=Iq
section
variable{Pm:B8}{x:g8}{s:Ag}{f:b9}{oc kV dc pm cd ct:c7}{od an:Option b9}{sl:Array (Option c7)}{h:o0}{mg:g8->Option c7}
def YG(q:AtK Pm x s f oc od sl kV dc pm an cd ct):Fun K x x s f (An x x (wC s) (xJ s) (zJ s) .none kV dc pm an cd ct):=bG (st:=s) (by rw[aS]; rwa[q.2.1]) (by rw[aS]; rwa[q.2.2.1]) (by rw[aS]; rwa[q.2.2.2])
abbrev AtE(Pm:B8)(x:g8)(s:Ag):Prop:=∃(f:b9)(oc:c7)(od:Option b9)(sl:Array (Option c7))(kV dc pm:c7)(an:Option b9)(cd ct:c7),AtK Pm x s f oc od sl kV dc pm an cd ct
def at_mk(q:AtK Pm x s f oc od sl kV dc pm an cd ct):AtE Pm x s:=⟨_,_,_,_,_,_,_,_,_,_,q⟩
def Zf(P:j9)(w:n9)(base:o0)(X:At (KK Pm) h)(G:h.Ns mainGlobals mg)(q:AtE Pm x s){ps:List g8}{n:Nat}{sp:Sp}(o:∀ {f:b9} {fd:Aq},Fun K x x s f fd->uw K fd ps []->Au K (.ref f)=Iq->mg x=Io (.ref f)->yX P w K mg base CX0 n f fd ps sp)
  (b:∀(kV doc pm:c7)(an:Option b9)(cdv ct:c7)(us:List c7),us.length=ps.length->bindArgs (An x x (wC s) (xJ s) (zJ s) .none kV doc pm an cdv ct) ⟨us,[]⟩=pure (ps.zip us)):Has P w K mg base x n ps sp:=by
 obtain⟨f,oc,od,sl,kV,dc,pm,an,cd,ct,q⟩:=q;have F:=YG q;rwa[_,_,o F (F.binds b) F.kp (g6 X G q.1),F.binds b,F.kp,g6 X G q.1]
def yN(P:j9)(w:n9)(base:o0)(X:At (KK Pm) h)(G:h.Ns mainGlobals mg)(q:AtE Pm x s){ps:List g8}{n:Nat}{sp:Sp}(o:∀ {f:b9} {fd:Aq},Fun K x x s f fd->yX P w K mg base CX0 n f fd ps sp)
  (b:∀(kV doc pm:c7)(an:Option b9)(cdv ct:c7)(us:List c7),us.length=ps.length->bindArgs (An x x (wC s) (xJ s) (zJ s) .none kV doc pm an cdv ct) ⟨us,[]⟩=pure (ps.zip us)):Has P w K mg base x n ps sp:=Zf P w base X G q (λF _ _ _=>o F) b
abbrev AtM(x q:g8)(s:Ag)(f:b9):Prop:=∃(oc:c7)(od:Option b9)(sl:Array (Option c7))(kV dc pm:c7)(an:Option b9)(cd ct:c7),Ae f KC=Io ⟨oc,od,.func (An x q (wC s) (xJ s) (zJ s) .none kV dc pm an cd ct),sl⟩/\Ci KC cd q=Iq/\Au KC (.ref f)=Iq
def atm_mk{q:g8}(h:Ae f KC=Io ⟨oc,od,.func (An x q (wC s) (xJ s) (zJ s) .none kV dc pm an cd ct),sl⟩/\Ci KC cd q=Iq/\Au KC (.ref f)=Iq):AtM x q s f:=⟨_,_,_,_,_,_,_,_,_,h⟩
def xG(P:j9)(w:n9)(base:o0)(X:At (KK Pm) h)(G:h.Ns mainGlobals mg)(q:AtE Pm x s){ps:List g8}{n:Nat}{sp:Sp}(o:∀ {f:b9} {fd:Aq},Fun K x x s f fd->yX P w K mg base (CX1 P w) n f fd ps sp)
  (b:∀(kV doc pm:c7)(an:Option b9)(cdv ct:c7)(us:List c7),us.length=ps.length->bindArgs (An x x (wC s) (xJ s) (zJ s) .none kV doc pm an cdv ct) ⟨us,[]⟩=pure (ps.zip us)):zt P w K mg base x n ps sp:=by
 obtain⟨f,oc,od,sl,kV,dc,pm,an,cd,ct,q⟩:=q;have F:=YG q;rwa[_,_,o F,F.binds b,F.kp,g6 X G q.1]
def Vb(P:j9)(w:n9)(base:o0)(X:At (KK Pm) h)(G:h.Ns mainGlobals mg)(q:AtE Pm x s){ps:List g8}{n:Nat}{sp:b9->Sp}(o:∀ {f:b9} {fd:Aq},Fun K x x s f fd->Xq P w K mg base n f fd ps sp)
  (b:∀(kV doc pm:c7)(an:Option b9)(cdv ct:c7)(us:List c7),us.length=ps.length->bindArgs (An x x (wC s) (xJ s) (zJ s) .none kV doc pm an cdv ct) ⟨us,[]⟩=pure (ps.zip us)):Sz P w K mg base x n ps sp:=by
 obtain⟨f,oc,od,sl,kV,dc,pm,an,cd,ct,q⟩:=q;have F:=YG q;rwa[_,_,o F,F.binds b,F.kp,g6 X G q.1]
def rM(P:j9)(w:n9)(mg:g8->Option c7)(base:o0){q:g8}(a:AtM x q s f){ps:List g8}{n:Nat}{sp:Sp}(o:∀ {fd:Aq},Fun K x q s f fd->yX P w K mg base CX0 n f fd ps sp)
  (b:∀(kV doc pm:c7)(an:Option b9)(cdv ct:c7)(us:List c7),us.length=ps.length->bindArgs (An x q (wC s) (xJ s) (zJ s) .none kV doc pm an cdv ct) ⟨us,[]⟩=pure (ps.zip us)):jP P w K mg base f n ps sp:=by
 obtain⟨oc,od,sl,kV,dc,pm,an,cd,ct,a1,a2,a3⟩:=a;rwa[_,o (bG (st:=s) (by rw[aS]; exact a1) (by rw[aS]; exact a2) (by rw[aS]; exact a3)),b _ _ _ _ _ _]
def lV(P:j9)(w:n9)(mg:g8->Option c7)(base:o0){q:g8}(a:AtM x q s f){ps:List g8}{n:Nat}{sp:Sp}(o:∀ {fd:Aq},Fun K x q s f fd->yX P w K mg base (CX1 P w) n f fd ps sp)
  (b:∀(kV doc pm:c7)(an:Option b9)(cdv ct:c7)(us:List c7),us.length=ps.length->bindArgs (An x q (wC s) (xJ s) (zJ s) .none kV doc pm an cdv ct) ⟨us,[]⟩=pure (ps.zip us)):cA P w K mg base f n ps sp:=by
 obtain⟨oc,od,sl,kV,dc,pm,an,cd,ct,a1,a2,a3⟩:=a;rwa[_,o (bG (st:=s) (by rw[aS]; exact a1) (by rw[aS]; exact a2) (by rw[aS]; exact a3)),b _ _ _ _ _ _]
def K_in{Pm:B8}{h:o0}(X:At (KK Pm) h):At K h:=by
 rw[aS];rwa[YS (F:=KF Pm) (by symm) X]
end
def us0{R:List c7->Prop}(h:R []):∀ us:List c7,us.length=0->R us
 | [],_=>h 
def us1{R:List c7->Prop}(h:∀ a,R [a]):∀ us:List c7,us.length=1->R us
 | [a],_=>h a
def us2{R:List c7->Prop}(h:∀ a b,R [a,b]):∀ us:List c7,us.length=2->R us
 | [a,b],_=>h a b
def us3{R:List c7->Prop}(h:∀ a b c,R [a,b,c]):∀ us:List c7,us.length=3->R us
 | [a,b,c],_=>h a b c
def us4{R:List c7->Prop}(h:∀ a b c d,R [a,b,c,d]):∀ us:List c7,us.length=4->R us
 | [a,b,c,d],_=>h a b c d
def all_mk{l:EK}{w:n9}{h:o0}{mg:g8->Option c7}{fa:b9}(X:At (KK w.params) h)(G:h.Ns mainGlobals mg)(hfa:mg "law" = Io (.ref fa))
  {f61:b9}
  {oc61 kV61 dc61 pm61 cd61 ct61:c7}
  {od61 an61:Option b9}
  {sl61:Array (Option c7)}
  (q1:AtE w.params "turn" pB)
  (q2:AtE w.params "stretch_way" uT)
  (q3:AtE w.params "all_left_of" uO)
  (q4:AtE w.params "is_bank" qV)
  (q5:AtE w.params "nothing_yet" uR)
  (q6:AtE w.params "changed" qO)
  (q7:AtE w.params "without" qW)
  (q8:AtE w.params "within" xu)
  (q9:AtE w.params "check_name" vK)
  (q10:AtE w.params "check_free" vQ)
  (q11:AtE w.params "check_place" uJ)
  (q12:AtE w.params "check_run" tW)
  (q13:AtE w.params "check_room" vO)
  (q14:AtE w.params "check_mark" vS)
  (q15:AtE w.params "check_moment" wO)
  (q16:AtE w.params "check_way" tS)
  (q17:AtE w.params "check_apart" uL)
  (q18:AtE w.params "after_mark" vM)
  (q19:AtE w.params "after_move" vV)
  (q20:AtE w.params "after_unmark" wR)
  (q21:AtE w.params "after_bank" vN)
  (q22:AtE w.params "after_level" uX)
  (q23:AtE w.params "after_sail" vP)
  (q24:AtE w.params "after_right" uI)
  (q25:AtE w.params "after_note" vR)
  (q26:AtE w.params "after_bearing" wK)
  (q27:AtE w.params "after_range" uP)
  (q28:AtE w.params "after_strike" wV)
  (q29:AtE w.params "after" uz)
  (q30:AtE w.params "_law_power" uf)
  (q31:AtE w.params "_law_draws" uh)
  (q32:AtE w.params "_law_names" uu)
  (q33:AtE w.params "_law_new" kU)
  (q34:AtE w.params "_law_same" vz)
  (q35:AtE w.params "_law_refused" qP)
  (q36:AtE w.params "_law_went" pO)
  (q37:AtE w.params "_law_strange" qR)
  (q38:AtE w.params "_law_pick" pF)
  (q39:AtE w.params "_law_far_number" vI)
  (q40:AtE w.params "_law_way" lX)
  (q41:AtE w.params "_law_turned" xo)
  (q42:AtE w.params "_law_left_pair" tV)
  (q43:AtE w.params "_law_bearing_deed" wU)
  (q44:AtE w.params "_law_deed" pK)
  (q45:AtE w.params "_law_is_name" qN)
  (q46:AtE w.params "_law_near" pJ)
  (q47:AtE w.params "_law_mark_word" tQ)
  (q48:AtE w.params "_law_bank_word" tP)
  (q49:AtE w.params "_law_run_word" rB)
  (q50:AtE w.params "_law_note_word" tX)
  (q51:AtE w.params "_law_word" pH)
  (q52:AtE w.params "_law_due" lT)
  (q53:AtE w.params "_law_done" pE)
  (q54:AtE w.params "_law_after" vw)
  (q55:AtE w.params "_law_step" pX)
  (q56:AtE w.params "_law_marks_of" rD)
  (q57:AtE w.params "_law_stands" xt)
  (q58:AtE w.params "_law_told_so" qY)
  (q59:AtE w.params "_law_drawn_bank" vU)
  (q60:AtE w.params "_law_round_enough" wQ)
  (q61:AtK w.params "law" fw f61 oc61 od61 sl61 kV61 dc61 pm61 an61 cd61 ct61)
  (q62:AtM "__init__" "Book.__init__" pT lK)
  (q63:AtM "deed" "Book.deed" pS fU)
  (q64:AtM "step" "Book.step" pC lJ)
  (q65:AtM "undo" "Book.undo" pU fK)
  (q66:AtM "redo" "Book.redo" pW fE)
  (q67:AtM "deeds" "Book.deeds" va kN)
  (q68:AtM "undone" "Book.undone" xv oO)
  (q69:AtM "twin" "Book.twin" pV gT)
  (q70:AtM "marks" "Book.marks" ue kL)
  (q71:AtM "banks" "Book.banks" uy lW)
  (q72:AtM "runs" "Book.runs" pP gW)
  (q73:AtM "notes" "Book.notes" vh kI)
  (q74:AtM "coming" "Book.coming" xq uo)
  (z_ValueError:Ao (KK w.params) mainGlobals "ValueError" = Io Ip)
  (z_abs:Ao (KK w.params) mainGlobals "abs" = Io Ip)
  (z_all:Ao (KK w.params) mainGlobals "all" = Io Ip)
  (z_any:Ao (KK w.params) mainGlobals "any" = Io Ip)
  (z_bool:Ao (KK w.params) mainGlobals "bool" = Io Ip)
  (z_dict:Ao (KK w.params) mainGlobals "dict" = Io Ip)
  (z_int:Ao (KK w.params) mainGlobals "int" = Io Ip)
  (z_isinstance:Ao (KK w.params) mainGlobals "isinstance" = Io Ip)
  (z_len:Ao (KK w.params) mainGlobals "len" = Io Ip)
  (z_list:Ao (KK w.params) mainGlobals "list" = Io Ip)
  (z_max:Ao (KK w.params) mainGlobals "max" = Io Ip)
  (z_min:Ao (KK w.params) mainGlobals "min" = Io Ip)
  (z_range:Ao (KK w.params) mainGlobals "range" = Io Ip)
  (z_reversed:Ao (KK w.params) mainGlobals "reversed" = Io Ip)
  (z_sorted:Ao (KK w.params) mainGlobals "sorted" = Io Ip)
  (z_str:Ao (KK w.params) mainGlobals "str" = Io Ip)
  (z_tuple:Ao (KK w.params) mainGlobals "tuple" = Io Ip)
  (z_zip:Ao (KK w.params) mainGlobals "zip" = Io Ip) :
  ∃ fd:Aq,(∀(s:d3)(v:c7),Ep s fd ⟨[v],[]⟩ [("_law_script",v)])/\∀ base:o0,At (KK w.params) base->base.Ns mainGlobals mg->yX l.prog w K mg base CX0 9 fa fd ["_law_script"] (sp_law K):=by
 have e:=hfa.symm.trans (g6 X G q61.1);cases e;have Z:Zs mg:=⟨p6 X G z_ValueError,p6 X G z_abs,p6 X G z_all,p6 X G z_any,p6 X G z_bool,p6 X G z_dict,p6 X G z_int,p6 X G z_isinstance,p6 X G z_len,p6 X G z_list,p6 X G z_max,p6 X G z_min,p6 X G z_range,p6 X G z_reversed,p6 X G z_sorted,p6 X G z_str,p6 X G z_tuple,p6 X G z_zip⟩;erw[An "law" "law" (wC fw) (xJ fw) (zJ fw) .none kV61 dc61 pm61 an61 cd61 ct61,λs v=>.of_eq rfl,λbase KB GB=>?_];have CB:Cb l.prog w mg base:=cb_mk KB GB;have yCc:=yN l.prog w base X G q1 (λF=>Zp F Z CB ) (λ_ _ _ _ _ _=>us2 λ_ _=>rfl);have yAh:=yN l.prog w base X G q2 (λF=>pk F Z CB ) (λ_ _ _ _ _ _=>us2 λ_ _=>rfl);have yAj:=yN l.prog w base X G q3 (λF=>qe F Z CB yCc yAh) (λ_ _ _ _ _ _=>us2 λ_ _=>rfl);have yBn:=yN l.prog w base X G q4 (λF=>iR F Z CB yAj) (λ_ _ _ _ _ _=>us1 λ_=>rfl);have yAn:=yN l.prog w base X G q5 (λF=>pw F Z CB ) (λ_ _ _ _ _ _=>us0 rfl);have yBl:=yN l.prog w base X G q6 (λF=>jZ F Z CB ) (λ_ _ _ _ _ _=>us4 λ_ _ _ _=>rfl);have yBk:=yN l.prog w base X G q7 (λF=>jf F Z CB ) (λ_ _ _ _ _ _=>us3 λ_ _ _=>rfl);have yBq:=yN l.prog w base X G q8 (λF=>fN F Z CB ) (λ_ _ _ _ _ _=>us2 λ_ _=>rfl);have yAw:=xG l.prog w base X G q9 (λF=>nM F Z CB ) (λ_ _ _ _ _ _=>us1 λ_=>rfl);have yAo:=xG l.prog w base X G q10 (λF=>nS F Z CB ) (λ_ _ _ _ _ _=>us3 λ_ _ _=>rfl);have yAg:=xG l.prog w base X G q11 (λF=>qb F Z CB yBq) (λ_ _ _ _ _ _=>us1 λ_=>rfl);have yBa:=xG l.prog w base X G q12 (λF=>mz F Z CB yBq) (λ_ _ _ _ _ _=>us1 λ_=>rfl);have yAp:=xG l.prog w base X G q13 (λF=>ny F Z CB ) (λ_ _ _ _ _ _=>us2 λ_ _=>rfl);have yAu:=xG l.prog w base X G q14 (λF=>oh F Z CB ) (λ_ _ _ _ _ _=>us2 λ_ _=>rfl);have yAd:=xG l.prog w base X G q15 (λF=>rn F Z CB ) (λ_ _ _ _ _ _=>us2 λ_ _=>rfl);have yAz:=xG l.prog w base X G q16 (λF=>my F Z CB yBq) (λ_ _ _ _ _ _=>us1 λ_=>rfl);have yAm:=xG l.prog w base X G q17 (λF=>qh F Z CB ) (λ_ _ _ _ _ _=>us3 λ_ _ _=>rfl);have yAv:=xG l.prog w base X G q18 (λF=>nq F Z CB yBl yAp yAg yAo yAw) (λ_ _ _ _ _ _=>us2 λ_ _=>rfl);have yAy:=xG l.prog w base X G q19 (λF=>oG F Z CB yAm yBl yAg yAu) (λ_ _ _ _ _ _=>us2 λ_ _=>rfl);have yAf:=xG l.prog w base X G q20 (λF=>tw F Z CB yBk yAu) (λ_ _ _ _ _ _=>us2 λ_ _=>rfl)
 have yAq:=xG l.prog w base X G q21 (λF=>nT F Z CB yBl yAp yBn yAg yAo yAw) (λ_ _ _ _ _ _=>us2 λ_ _=>rfl);have yAi:=xG l.prog w base X G q22 (λF=>qg F Z CB yBk) (λ_ _ _ _ _ _=>us2 λ_ _=>rfl);have yAs:=xG l.prog w base X G q23 (λF=>nJ F Z CB yBl yAp yBa) (λ_ _ _ _ _ _=>us2 λ_ _=>rfl);have yAl:=xG l.prog w base X G q24 (λF=>pf F Z CB yBl yBa) (λ_ _ _ _ _ _=>us2 λ_ _=>rfl);have yAr:=xG l.prog w base X G q25 (λF=>oY F Z CB yBl yAp) (λ_ _ _ _ _ _=>us2 λ_ _=>rfl);have yAa:=xG l.prog w base X G q26 (λF=>we F Z CB yAr yCc yAz yAu yAd) (λ_ _ _ _ _ _=>us2 λ_ _=>rfl);have yAk:=xG l.prog w base X G q27 (λF=>pz F Z CB yAr yAm yAu yAd) (λ_ _ _ _ _ _=>us2 λ_ _=>rfl);have yAb:=xG l.prog w base X G q28 (λF=>tz F Z CB yBk) (λ_ _ _ _ _ _=>us2 λ_ _=>rfl);have yBv:=xG l.prog w base X G q29 (λF=>bo F Z CB yAv yAy yAf yAq yAi yAs yAl yAa yAk yAb) (λ_ _ _ _ _ _=>us2 λ_ _=>rfl);have yBu:=yN l.prog w base X G q30 (λF=>cQ F Z ) (λ_ _ _ _ _ _=>us1 λ_=>rfl);have yBs:=yN l.prog w base X G q31 (λF=>cW F Z CB yBu) (λ_ _ _ _ _ _=>us2 λ_ _=>rfl);have yBr:=yN l.prog w base X G q32 (λF=>cB F Z CB ) (λ_ _ _ _ _ _=>us2 λ_ _=>rfl);have yCf:=yN l.prog w base X G q33 (λF=>Yx F Z CB ) (λ_ _ _ _ _ _=>us0 rfl);have yCa:=Zf l.prog w base X G q34 (λF b k m=>ZT F Z  b k m) (λ_ _ _ _ _ _=>us2 λ_ _=>rfl);have yBj:=Vb l.prog w base X G q35 (λF=>iT F Z CB ) (λ_ _ _ _ _ _=>us1 λ_=>rfl);have yBm:=yN l.prog w base X G q37 (λF=>jM F Z CB ) (λ_ _ _ _ _ _=>us1 λ_=>rfl);have yBz:=yN l.prog w base X G q38 (λF=>aF F Z CB yBm) (λ_ _ _ _ _ _=>us2 λ_ _=>rfl);have yAt:=yN l.prog w base X G q39 (λF=>nA F Z CB ) (λ_ _ _ _ _ _=>us1 λ_=>rfl);have yCh:=yN l.prog w base X G q40 (λF=>XA F Z CB ) (λ_ _ _ _ _ _=>us3 λ_ _ _=>rfl);have yBp:=yN l.prog w base X G q41 (λF=>gZ F Z CB ) (λ_ _ _ _ _ _=>us2 λ_ _=>rfl);have yBb:=yN l.prog w base X G q42 (λF=>nZ F Z CB yBp yCh) (λ_ _ _ _ _ _=>us2 λ_ _=>rfl);have yAc:=yN l.prog w base X G q43 (λF=>ub F Z CB yBb yBz) (λ_ _ _ _ _ _=>us3 λ_ _ _=>rfl);have yBi:=yN l.prog w base X G q45 (λF=>jx F Z CB ) (λ_ _ _ _ _ _=>us1 λ_=>rfl);have yCb:=yN l.prog w base X G q46 (λF=>aa F Z CB ) (λ_ _ _ _ _ _=>us2 λ_ _=>rfl);have yBe:=yN l.prog w base X G q47 (λF=>mi F Z CB yCb yBi) (λ_ _ _ _ _ _=>us2 λ_ _=>rfl)
 have yBf:=yN l.prog w base X G q49 (λF=>lR F Z CB yCb) (λ_ _ _ _ _ _=>us2 λ_ _=>rfl);have yBc:=yN l.prog w base X G q50 (λF=>mj F Z CB yBp) (λ_ _ _ _ _ _=>us2 λ_ _=>rfl);have yBt:=yN l.prog w base X G q54 (λF=>cf F Z CB ) (λ_ _ _ _ _ _=>us2 λ_ _=>rfl);have yBg:=yN l.prog w base X G q56 (λF=>kT F Z CB ) (λ_ _ _ _ _ _=>us1 λ_=>rfl);have yAx:=yN l.prog w base X G q59 (λF=>oW F Z CB ) (λ_ _ _ _ _ _=>us1 λ_=>rfl);have yBx:=yN l.prog w base X G q44 (λF=>ZS F Z CB yBz yAc yAx yAt) (λ_ _ _ _ _ _=>us3 λ_ _ _=>rfl);have yAe:=yN l.prog w base X G q60 (λF=>sg F Z CB ) (λ_ _ _ _ _ _=>us1 λ_=>rfl);have yBd:=yN l.prog w base X G q48 (λF=>mq F Z CB yAe yCb yBi) (λ_ _ _ _ _ _=>us2 λ_ _=>rfl);have yCe:=yN l.prog w base X G q51 (λF=>ZR F Z CB yBc yBf yBd yBe) (λ_ _ _ _ _ _=>us2 λ_ _=>rfl);have yCg:=yN l.prog w base X G q52 (λF=>Yg F Z CB yCe) (λ_ _ _ _ _ _=>us2 λ_ _=>rfl);have h_b_init:=rM l.prog w mg base q62 (λF=>ZU F Z CB yAn) (λ_ _ _ _ _ _=>us1 λ_=>rfl);have h_b_step:=rM l.prog w mg base q64 (λF=>aN F Z CB ) (λ_ _ _ _ _ _=>us3 λ_ _ _=>rfl);have h_b_undo:=lV l.prog w mg base q65 (λF=>aH F Z CB h_b_step) (λ_ _ _ _ _ _=>us1 λ_=>rfl);have h_b_redo:=lV l.prog w mg base q66 (λF=>bX F Z CB h_b_step) (λ_ _ _ _ _ _=>us1 λ_=>rfl);have yCd:=yN l.prog w base X G q36 (λF=>ao F Z CB h_b_undo h_b_redo yBj) (λ_ _ _ _ _ _=>us2 λ_ _=>rfl);have h_b_deeds:=rM l.prog w mg base q67 (λF=>cI F Z CB ) (λ_ _ _ _ _ _=>us1 λ_=>rfl);have h_b_undone:=rM l.prog w mg base q68 (λF=>gP F Z CB ) (λ_ _ _ _ _ _=>us1 λ_=>rfl);have h_b_twin:=rM l.prog w mg base q69 (λF=>aY F Z CB h_b_init) (λ_ _ _ _ _ _=>us1 λ_=>rfl);have h_b_marks:=rM l.prog w mg base q70 (λF=>bh F Z CB ) (λ_ _ _ _ _ _=>us1 λ_=>rfl);have h_b_banks:=rM l.prog w mg base q71 (λF=>cH F Z CB ) (λ_ _ _ _ _ _=>us1 λ_=>rfl);have h_b_runs:=rM l.prog w mg base q72 (λF=>bV F Z CB ) (λ_ _ _ _ _ _=>us1 λ_=>rfl);have h_b_notes:=rM l.prog w mg base q73 (λF=>cR F Z CB ) (λ_ _ _ _ _ _=>us1 λ_=>rfl);have h_b_coming:=rM l.prog w mg base q74 (λF=>fH F Z CB ) (λ_ _ _ _ _ _=>us1 λ_=>rfl);have yBo:=yN l.prog w base X G q57 (λF=>fS F Z CB yCa h_b_notes h_b_coming h_b_runs yBg h_b_banks h_b_marks) (λ_ _ _ _ _ _=>us2 λ_ _=>rfl);have yBh:=yN l.prog w base X G q58 (λF=>iQ F Z CB yBo yCa h_b_undone h_b_deeds) (λ_ _ _ _ _ _=>us2 λ_ _=>rfl);have h_b_deed:=lV l.prog w mg base q63 (λF=>aI F Z CB h_b_coming yBv) (λ_ _ _ _ _ _=>us2 λ_ _=>rfl);have yBy:=yN l.prog w base X G q53 (λF=>Zj F Z CB h_b_deed yBj) (λ_ _ _ _ _ _=>us2 λ_ _=>rfl);have yBw:=yN l.prog w base X G q55 (λF=>ay F Z CB yBt yCa yBy yCg yBx yCd) (λ_ _ _ _ _ _=>us4 λ_ _ _ _=>rfl)
 rwa[Tc (YG q61) Z CB yBh yBw h_b_twin yCf h_b_init yBr yBs]
def walk{l:EK}{q:j9}{loose:List g8}{XP:(g8->Option c7)->o0->Prop}{YP:n9->o0->Prop}{d:DefRec}(hn:l.most=Io 63)(hdf:d.params.defaults=[])
  (hY:∀(w:n9)(h:o0),YP w h->At (KK w.params) h)
  (F:∀(w:n9)(mg:g8->Option c7)(fa:b9)(h:o0),At (KK w.params) h->h.Ns mainGlobals mg->mg d.name=Io (.ref fa) ->
   ∃ fd:Aq,(∀(s:d3)(u:c7),Ep s fd ⟨[u],[]⟩ [("_law_script",u)])/\∀ base:o0,At (KK w.params) base->base.Ns mainGlobals mg->yX l.prog w K mg base CX0 9 fa fd ["_law_script"] (sp_law K)) :
  HD q loose XP YP l.row.toRowW d [] (λf vs=>GM f vs) :=
 L2.walk_of3 (n:=63) (k:=9) (x := "_law_script") (KK:=KK) (K:=K) (sp:=sp_law K) hn (by decide) hdf ⟨rfl,by decide,by decide,rfl⟩ hY (λ_ _ X=>K_in X) (λp a o h c=>by rw[aS]; rwa[bJ (F:=KF p) (by symm) h c]) F (λ_ a ns hl hS=>⟨a,ns,rfl,hS,hl,λ_=>rfl⟩)

end Sea
open PySem PySem.W PyProof.Rows
set_option maxRecDepth 100000 in
set_option maxHeartbeats 0 in
theorem PySem.Challenge.cw_seamarks_k38_whole_twins_apart_holds : PySem.Challenge.rw_seamarks_k38_whole_twins_apart.Holds := by
 w_on
 refine holds_law Sea.said_ok λsaid=>?_;refine holds_open (q:=Sea.qv) (loose:=Sea.lse) (XP:=XL Sea.qv []) (YP:=InK Sea.KK) Sea.left_ok (InK.of Sea.kas_ok)
  InK.keeps (λs e=>xl_of s (Fd.mp e).1) XL.keeps (by rfl) (by rfl) (by rfl)
  (λs e=>recFacts_of (Fd.mp e).2) (by rfl) (by assumption) (by ac_nf)
  ⟨rfl,rfl,rfl,rfl,rfl,by ac_nf⟩ ?hw ?hc
 case hw=>w_witness2
 k_fill
 erw[Sea.walk (l:=PySem.Challenge.rw_seamarks_k38_whole_twins_apart) rfl rfl (λw h Y=>Y) ?F]
 case F =>
  intro w mg fa h KX G hmg
  refine' Sea.all_mk KX G hmg ?q1 ?q2 ?q3 ?q4 ?q5 ?q6 ?q7 ?q8 ?q9 ?q10 ?q11 ?q12 ?q13 ?q14 ?q15 ?q16 ?q17 ?q18 ?q19 ?q20 ?q21 ?q22 ?q23 ?q24 ?q25 ?q26 ?q27 ?q28 ?q29 ?q30 ?q31 ?q32 ?q33 ?q34 ?q35 ?q36 ?q37 ?q38 ?q39 ?q40 ?q41 ?q42 ?q43 ?q44 ?q45 ?q46 ?q47 ?q48 ?q49 ?q50 ?q51 ?q52 ?q53 ?q54 ?q55 ?q56 ?q57 ?q58 ?q59 ?q60 ?q61 ?q62 ?q63 ?q64 ?q65 ?q66 ?q67 ?q68 ?q69 ?q70 ?q71 ?q72 ?q73 ?q74 ?z_ValueError ?z_abs ?z_all ?z_any ?z_bool ?z_dict ?z_int ?z_isinstance ?z_len ?z_list ?z_max ?z_min ?z_range ?z_reversed ?z_sorted ?z_str ?z_tuple ?z_zip
  (case q62 | q63 | q64 | q65 | q66 | q67 | q68 | q69 | q70 | q71 | q72 | q73 | q74=>refine' Sea.atm_mk ⟨?b,?c,?d⟩;(case b=>rwa[rfl]);(case c=>symm);(case d=>symm))
  (case q61=>refine'⟨?_,?_,?_,?_⟩; k_is; rwa[rfl]; symm; symm)
  (case q1 | q2 | q3 | q4 | q5 | q6 | q7 | q8 | q9 | q10 | q11 | q12 | q13 | q14 | q15 | q16 | q17 | q18 | q19 | q20 | q21 | q22 | q23 | q24 | q25 | q26 | q27 | q28 | q29 | q30 | q31 | q32 | q33 | q34 | q35 | q36 | q37 | q38 | q39 | q40 | q41 | q42 | q43 | q44 | q45 | q46 | q47 | q48 | q49 | q50 | q51 | q52 | q53 | q54 | q55 | q56 | q57 | q58 | q59 | q60=>refine' Sea.at_mk ⟨?a,?b,?c,?d⟩;(case a=>k_is);(case b=>rwa[rfl]);(case c=>symm);(case d=>symm))
  (case z_ValueError | z_abs | z_all | z_any | z_bool | z_dict | z_int | z_isinstance | z_len | z_list | z_max | z_min | z_range | z_reversed | z_sorted | z_str | z_tuple | z_zip=>k_is)
