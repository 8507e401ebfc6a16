import PyProof.Rows.All
import KE.KDictOf
import KE.KIsAll
import KE.KItemsList
import KE.KSortTup
import PySem.Challenge.RW_seamarks_k44_clashes_by_notes
set_option compiler.extract_closed false
set_option Elab.async false
set_option linter.all false
set_option maxRecDepth 100000
set_option maxHeartbeats 4000000
theorem nabs{a:Int}{n:Nat} : a.natAbs<=n↔-(n:Int)<=a/\a<=n:=by omega
local macro_rules | `(tactic| lia) => `(tactic| first | (simp only [nabs] at *; lia (config := {})) | lia (config := {}) | omega)
local macro_rules | `(tactic| exists $es,*) => `(tactic| refine ⟨$es,*, ?_⟩)
open List renaming length_map->ac,getElem?_eq_some_iff->c7,getElem?_eq_getElem->c9,getElem?_map->d7,map_append->e7,mem_singleton->e8,mem_of_getElem?->e9,length_append->f7,mem_map->g7,map_cons->g9,size_toArray->i5,mem_append->i7,length_take->j3,mem_cons->j4,take_length->j5,length_cons->n9,take_succ->o6,mem_map_of_mem->o9,lookup_cons->t6,not_mem_nil->t7,getElem?_append_right->t9,mem_cons_of_mem->x8,mem_append_right->z9,mem_cons_self->Ab,length_drop->Ad,toArray->Af,getElem?_append_left->Ag,lookup->Am,find?_cons->Au,take_of_length_le->Ax,map_map->AE,all_eq_true->AG,length->AH,range->AK,getElem?_eq_none->AM,mem_of_mem_drop->AS,mem_of_mem_take->AT,getElem_mem->AX,length_replicate->Bc,replicate->Be,length_nil->Bg,getElem?_take->Bj,mem_append_left->Bk,getD_eq_getElem?_getD->Bs,filterMap_cons->Bu,mem_filter->Bw,getElem_of_mem->BN,find?_eq_none->B7,nodup_iff_pairwise_ne->B8,length_singleton->Ca,length_filter_le->Cc,append_nil->Cf,any_cons->Co,mem_range->Cv,map_drop->CJ,ext_getElem?->CN,replicate_succ'->CW,any_eq_true->C3,pairwise_iff_getElem->Da,map_take->Dg,getElem?_set_self->Dp,pairwise_map->Dw,zipIdx_cons->DC,getElem_map->DF,nodup_cons->DM,length_set->DN,flatten_append->DW,map_nil->DZ,mem_filterMap->Ec,getElem?_drop->Ei,mem_or_eq_of_mem_set->Es,foldl_append->Ew,filter_congr->EG,length_range->EH,set_comm->EM,all_cons->EN,getElem?_replicate->EU,filter_cons_of_neg->EX,filter_cons_of_pos->EY,ext_getElem->EZ,length_eq_zero_iff->E1,all_map->Fj,flatten_singleton->Fk,of_mem_zip->Fo,forIn_cons->Fp,filter_map->Fs,filterMap_append->Fz,take_append_drop->FA,getElem?_set_ne->FF,getElem_toArray->FL,nodup_nil->FM,map_congr_left->FV,perm_singleton->FW,sum_cons->FZ,pairwise_cons->Ga,nodup_append->Gp,flatten_cons->Gu,getElem_inj->GA,cons_append->GN,filter_cons->GO,perm_middle->GU,mem_flatten->GW,zipIdx_nil->G5,range_succ->G8,forIn_nil->Hm,perm_cons->Hn,drop_zero->Hr,all_nil->Iw
open PySem renaming wpAny_bind->b7,Addr->c5,Value->c6,Shared->d8,wpAny_pure->d9,Str->g8,Program->j7,World->m9,Heap->v8,wpAny_newObj_type->Ac,Stmt->Ae,Expr->An,Around->Aq,wpAny_call_entry->Ar,wpAny_callSpecial?_slot->At,wpAny_field->AC,FuncData->AN,wpAny_truthy_bool->Ba,wpAny_setField_rec->Bi,wpAny_holding->Bo,Obj->BD,wpAny_typeNameOfWhole_keyiter->BF,wpAny_ite_split->BL,mem_of_lookup->BM,wpAny_Call_Name_kw->BX,wpAny_seqItems->B4,wpAny_setField->B5,wpAny_passesOwn->Ce,Builtin->Ch,wpAny_pyIter_list->Cj,wpAny_mono->Cm,wpAny_typeNameOf_keyiter->Cp,intKind->Cq,wpAny_getItem_str_slice->Cw,Params->Cy,DictEntry->CH,NameKind->CS,IsPair->CU,wpAny_fieldsOf->CV,OsState->CY,wpAny_askSetting->C7,wpAny_attempt->Df,Pos->Dm,wpAny_bindName->Dq,wpAny_setState_of->Dx,Scope->Dy,wpAny_isOneOf_keyiter->Dz,ofString_length->DA,wpAny_isInstance->DD,wpAny_updateSeq_pair->DI,wpAny_execs_nil->DL,wpAny_setEntries_of->DV,Env->D9,wpAny_rule->Eb,Keyword->Ev,wpAny_pyIter_slot->Ez,wpAny_dictEntries->EA,wpAny_standAt->EL,wpAny_onRaise->EQ,IsZip->EV,BindsTo->Fe,wpAny_dictEpoch->Fq,wpAny_isTrue_Compare1->Fv,wpAny_of_eq->FK,wpAny_handled->FY,wpAny_newList->F0,wpAny_call->F6,IsPart->F7,wpAny_pyIter_tuple->F9,Within->Gb,CmpOp->Gc,wpAny_pyIter_enum->Go,wpAny_Call_method->Gq,wpAny_eqBool_int->Gy,Paired->Gz,wpAny_execs_cons->GC,wpAny_pyIter_zip->GM,wpAny_getItem_of->GP,wpAny_Dict_empty->GQ,wpAny_throw->G1,wpAny_letGo->G2,wpAny_specialOf->G6,GenState->Hc,wpAny_Name->Hd,call->Hj,Sem->Ix,Tok->IA,Model->IB
open PySem.W renaming Frag->b9,mg_none_of->t5,nsIn->Az,mg_of->AB,fnOf->AD,findIn->AO,keepIn->AQ,kia_one->AU,emptyDict->Bb,instObj->BI,codeIn->CT,callWith_K->Dk,kitOne->Dr,plainGet->DB,plainGet_of->DT,callWith_K0->DU,lookIn->Ed,methodObj->Et,hasDictIn->Eu,cellsFrom_some->Ff,hideAll->Fl,takerIn->Fm,OpenLaw->Ft,methodCall_KW->Fy,hideAll_get->FT,of_hideAll->F3,isFn->Gd,plainOver->Ge,specialIn->Gf,kitx_list->Gg,kitx_dict->Gh,handedIn->GF,kdl_call->GS,makesIn->G3,WalkO->HY,SharedT->Ij
open PySem.Heap renaming get?_push_of_some->c8,get?_push_size->f9,lt_size->g6,get?_update_other->Av,size_push->AR,SameBut->Bq,get?_update_self->Bz,get?_none_of_le->FE,ExtBut->FJ,MadeExcOf->Ho
open Nat renaming le_refl->f6,le_trans->f8,ne_of_lt->j9,lt_of_lt_of_le->m7,gcd->w9,zero_le->Aa,le_of_lt->AV,lt_irrefl->BE,lt_of_le_of_lt->BY,le_succ->Ck,ne_of_gt->Cz,not_lt_zero->CG,lt_succ_self->C0,min_eq_left->DR,gcd_zero_right->Ek,add_le_add->Em,lt_succ_of_lt->EC,le_of_dvd->EO,add_le_add_right->FQ,add_le_add_left->FU,gcd_zero_left->Gm,lt_or_ge->Gs,le_of_not_lt->GI,succ_ne_self->GK,mul_le_mul->Hk,dvd_trans->HW,mul_assoc->HX,le_of_eq->Il,gcd_comm->Io,lt_trans->Ip,sub_zero->Iv
open Option renaming isSome_iff_exists->i3,map_eq_some_iff->i8,map_some->Cg,isSome_map->CO,map_eq_none_iff->Dv,map_map->FR,getD_none->GH,getD_some->GX,none->ID
open Int renaming toNat_natCast->i4,mul_comm->l7,mul_nonneg->o7,emod_lt_of_pos->r9,zero_mul->x9,le_of_lt->Ah,mul_right_comm->Aj,emod_nonneg->Ak,mul_left_comm->As,add_mul->Aw,zero_add->Ay,mul_assoc->AA,neg_mul->AI,eq_ofNat_of_zero_le->Bm,toNat_of_nonneg->Bv,mul_neg_of_neg_of_pos->Bx,natAbs_ediv_le_natAbs->By,mul_pos->BG,mul_neg->BU,mul_sub->BV,natCast_nonneg->BZ,lt_of_le_of_lt->B6,mul_ne_zero->CF,le_trans->C4,natAbs_mul_self->Db,mul_eq_zero->Dj,mul_nonneg_of_nonpos_of_nonpos->Dl,mul_add->Dn,mul_zero->Du,natAbs_mul->Ef,natAbs_natCast->Eg,ediv_pos_of_pos_of_dvd->Eh,mul_pos_of_neg_of_neg->Eo,mul_neg_of_pos_of_neg->Ep,sub_mul->EB,natAbs_add_le->EI,toNat->Fa,mul_one->FG,natAbs_neg->FI,le_refl->FO,ofNat->GV,neg_neg->G0,add_zero->Iq,le_total->Ir
open Bool renaming false_ne_true->i9,and_eq_true->AJ,false_eq_true->CA,eq_iff_iff->Di,eq_false_iff->Ey,and_eq_true_iff->FS,false_and->He,and_false->Hi,and_true->Ia
open PySem.Value renaming ref->j8,none->Ao,int->BH,str->CZ,bool->Fb,type->Fc,float->FD,bytes->GZ,isStrOf->HG,isInt->Iz
open PySem.PassesOwn renaming never->l9,leaving->Gx
open True renaming intro->o0
open Option.some renaming inj->o8,injEq->EF
open Array renaming getElem?_eq_getElem->x6,length_toList->Ap,getElem?_eq_none->AY,getElem?_toList->BA,getElem?_eq_some_iff->B9,mem_toList_iff->FH,toArray_toList->FN,toList_inj->GT,toList->Ik
open PySem.Builtin.SmallTypes renaming nextOf->Ai,ownedTupleIsFree->Bf,ownedTupleHandOut->Dc
open PySem.NameKind renaming free->Al,cell->CI
open PySem.W.Frag renaming In->AF
open PySem.Obj renaming mapSeq->AL,data_mapFields->BC,mapFields->BW,isFreed_of_fields->CL,cls_mapFields->Ex
open Ne renaming symm->AW
open False renaming elim->AZ
open PySem.F renaming slot_dict_keyiterator_next->Bh,slot_tuple_iterator_next->B3,called_set->CD,slot_dict_getitem->C9,plainAttrs_list->Do,args_dict_keyiterator_next_1->DE,entry_dict_keyiterator_next->DJ,args_tuple_iterator_next_1->DO,slot_zip_next->DP,entry_tuple_iterator_next->D4,excBase_ValueError->El,slot_dict_delitem->En,slot_list_extend->ES,type_list_extend->ET,slot_dict_pop->Fw,slot_set_iter->FC,args_zip_next_1->Gn,slot_dict_items->Gr,entry_zip_next->GL,slot_dict_iter->GR,plain_set_new->Ha
open PySem.Str renaming ofString->Br,join->EW,empty->Ie
open PySem.SetTable renaming below->Bt,toList_insertAt->Dh,insertAt->Gw
open Or renaming inl->BB,inr->GJ
open ForInStep renaming yield->BJ
open PySem.Heap.SameBut renaming update->BO,trans->IL,refl->IP
open PyProof.Rows.F renaming plain_set_update_loop->BP,entry_set_update_loop->Dd
open PyProof.Rows renaming callWith_type1->BQ,slot_tuple_getitem->Cr,plainGoodE->Ct,plainGoodD->Cu,drecsOf->CP,AllBare->DY,IntsAre->Fg,callWith_builtin1->GG,Subscript_->Hg,expectedOf->Ib,sortedS->IG,OwnCls->IH
open PySem.Builtin.Str renaming strSliceIndices->BR,glued->ED
open PySem.Builtin.Slice renaming slicePlaces->Cd,sliceAdjust->C8,sliceApplied->Ee,slicePartIndex->G4,sliceFields->HE
open Sum renaming inl->Ci,inr->Cs
open PySem.Builtin.Tuple renaming tupleExact->Cn,tupleItemsOf->Hf
open PySem.World renaming withFollow_self->CK
open PySem.W.Fast renaming te14364793385576792824->CM,te2368527892694137696->CQ,te5923862056798008813->D8
open PySem.Txt renaming slice->C5,slice_le->Fi
open Decidable renaming em->C6
open PySem.Builtin.List renaming listTooLong->De,listLengthHint->D6
open PySem.Calls renaming evalArgs_plain->DG,Name_function_global->Ea,call_function_entry->Er,callWith_builtin->Fh,Constant_str->F4,spliced_cons->F5,spliced_nil->Gj
open PySem.Around renaming under_plainId->DK,under->Fd
open PySem.Builtin.Dict_items renaming ownsTuple->DQ
open PySem.PyData renaming shownAll->DS,keyHash->D7,showableAll->Ej,hasDictAll->EJ,showable->Fu,hasDict->FP,shown->Gv
open PySem.StrLaws renaming glued_eq_join->D5,joinTotal->Ig
open PySem.Paired renaming length->EK,snoc->IF
open List.Pairwise renaming imp_of_mem->ER,nil->IN
open PySem.Builtin.Dict renaming showsAll->Fx,dictSlotNone->HF
open PySem.EntryCells renaming newEntry->FX
open PySem.SeqAt.EqAt renaming int_str->F1,str_int->F2,int_int->F8
open PySem.Code renaming isFrame->Gi,isGuard->Im,frames->IC
open Prod renaming ext->Gk
open PySem.Flow renaming next->GD
open PyProof.Rows.IsTup renaming new->GE
open Sum.inr renaming inj->GY
open List.cons renaming injEq->G7
open PySem.W.KasT renaming kasWp_bind->G9
open PySem.Builtin.Frozenset renaming updateFrom->Hb,newClass->Hq,sizeOf->HZ,slot0->Ii
open PySem.SeqAt renaming EqAt->Hh
open PySem.Walks renaming list->Hl
open PySem.EqNone renaming eq_none_none->Hs,eq_none_bool->Ht,eq_bool_none->Hu,ne_none_none->Hx,ne_none_bool->Hy,ne_bool_none->HA,eq_none_int->HH,eq_none_str->HI,eq_int_none->HJ,eq_str_none->HM,ne_none_int->HP,ne_none_str->HQ,ne_int_none->HR,ne_str_none->HU
open PySem.EqMixed renaming eq_bool_str->Hv,eq_str_bool->Hw,ne_bool_str->HC,ne_str_bool->HD,eq_int_str->HK,eq_str_int->HN,ne_int_str->HS,ne_str_int->HV
open PySem.Builtin.Range renaming rangeSize->Ic
open PySem.Heap.UpToSlots renaming of_keeps->Ih
open PySem.pickOrder renaming go->Iu
open PySem.W.SharedT renaming abs->Iy
open PySem.Shared renaming heap->IE
open PySem.W.Looks renaming here->II
open PySem.Heap.IsSliceOf renaming new->IJ
open PySem.W.WShape renaming has->IK
open PySem.Within renaming cons->IM
open PySem.W.WData renaming int->IQ
open Option renaming some->O,none->IS
open Bool renaming true->IT,false->IU
local macro_rules | `(tactic| rwa [$e:term]) => `(tactic| exact $e)
local macro_rules | `(tactic| rwa [$e:term, $[$es:term],*]) => `(tactic| exact ⟨$e, $es,*⟩)
local macro_rules | `(tactic| erw [$e:term]) => `(tactic| refine $e)
local macro_rules | `(tactic| erw [$e:term, $[$es:term],*]) => `(tactic| refine ⟨$e, $es,*⟩)
theorem U{α:Sort _}{a:α}:a=a:=rfl
namespace L2
open PySem
def wZ(s:Ae):Arguments:=match s with
 | .FunctionDef _ a _ _ _ _ _ _ _ _=>a
 | _=>{ posonlyargs:=[],args:=[],vararg:=IS,kwonlyargs:=[],kw_defaults:=[],kwarg:=IS,defaults:=[] }
def wA(s:Ae):List Ae:=match s with
 | .FunctionDef _ _ b _ _ _ _ _ _ _=>b
 | _=>[]
def zG(s:Ae):Dy:=match s with
 | .FunctionDef _ _ _ _ _ _ a _ _ _=>a
 | _=>{ kind:=.function,names:=[],isGenerator:=IU,isCoroutine:=IU }
def wv(s:Ae)(j:Nat):Ae:=match s with
 | .ClassDef _ _ _ body _ _ _ _ _ _ _=>body.getD j (.Pass ⟨0,0,0,0⟩)
 | _=>.Pass ⟨0,0,0,0⟩
end L2
namespace PySem.W
open PySem
noncomputable def jw(d:String->Option Ch)(p:j7)(w:m9)(a:Nat)(c:Option c6):Nat->Ij->Thread->Option Ij
 | 0,_,_=>IS
 | n+1,s,t=>match through t with
  | true=>O s
  | false=>match Fast.tw6613529449190102663 a c t with
   | false=>IS
   | true=>match Fast.tw10156331382660048174 (Fast.tw11892475500146522536 d) p w s t with
    | some (f,e)=>jw d p w a c n f e
    | none=>IS
def iq{d:String->Option Ch}{a:Nat} : ∀{n:Nat}{s e:Ij}{t:Thread},jw d p w a c n s t=O e->topRun d p w a c n s.abs t=O e.abs
 | 0,_,_,_,h=>by cases h
 | n+1,s,e,t,h=>by
  unfold jw at h;rw[<- Fast.te6613529449190102663,<- Fast.te10156331382660048174,<- Fast.te11892475500146522536] at h;unfold topRun;cases l:through t with
  | true=>rw[l] at h; cases h; rfl
  | false =>
   rw[l] at h;cases j:stepOk a c t with
   | false=>rw[j] at h; cases h
   | true =>
    rw[j] at h;cases f:stepT (denote d) p w s t with
    | none=>rw[f] at h; cases h
    | some r=>obtain⟨i,g⟩:=r; rw[f] at h; rw[stepT_spec f]; rwa[iq h]
noncomputable def VU(P:Cy):BT:=((boot_heap P).objs.toList.zipIdx).foldl (λt x=>t.ins x.2 x.1) .nil
def Xn(P:Cy):absHeap (VU P) 11 (boot_heap P).life=boot_heap P:=by kernel_rfl
def bW(P:Cy):((boot_heap P).isNs mainGlobals,(boot_heap P).objs.size,(boot_heap P).nsMap mainGlobals "__annotations__")=(IT,11,O (.ref 6)):=by kernel_rfl
noncomputable abbrev Si(a:String->Option Ch)(p:j7)(N:Nat)(w:m9)(os:CY):Option Ij:=jw a p w 11 (O (.ref 6)) N ⟨VU w.params,11,(boot_heap w.params).life,#[],boot_drawn,boot_toks,os⟩ (topStub p)
def kD{e d c:Type}{x:Option e}{f:e->d×c}{a:d}{b:c}(h1:x.map (λs=>(f s).1)=O a)(h2:x.map (λs=>(f s).2)=O b):x.map f=O (a,b):=by
 cases x with
 | none=>cases h1
 | some s =>
  injection h1 with h1
  injection h2 with h2
  subst h1 h2;rfl
def ZT{e A B C D:Type}{x:Option e}{f:e->A×B×C×D}{a:A}{b:B}{c:C}{d:D}(h1:x.map (λs=>((f s).1,(f s).2.1,(f s).2.2.1))=O (a,b,c))(h2:x.map (λs=>(f s).2.2.2)=O d):x.map f=O (a,b,c,d):=by
 cases x with
 | none=>cases h1
 | some s =>
  cases h1;cases h2;rfl
def oA{c a d:Type}{x:Option c}{f:c->a}{b:a}(h:x.map f=O b)(g:a->d):x.map (λs=>g (f s))=O (g b):=by
 cases x with
 | none=>cases h
 | some s =>
  cases h;rfl
def aK{p q:j7}{a:List g8}{n:d8->Bool}{f:Type}{l:d8->f}{m:m9->f}{N:Nat}
  (c:∀ w:m9,(fencedOpening treeTable p w N).map (λs=>(s.heap,s.gens,s.drawn,s.toks))=O (boot_heap w.params,Array.mk [],boot_drawn,boot_toks))
  (h1:∀ w os,(Si treeTable p N w os).map (λs=>(staticsOk (importedModules p.main.body) (boot_heap w.params) s.abs.heap&&namesBound p s.abs.heap&&gensDone s.abs&&laidKept (boot_heap w.params) s.abs.heap))=O IT)
  (h2:∀ w os,(Si treeTable p N w os).map (λs=>openSeen q a (importedModules p.main.body) n IT s.abs)=O (openGood q a))
  (h3:∀ w os,(Si treeTable p N w os).map (λs=>l s.abs)=O (m w)):LeftO p q a n l m N:=λw=>by
 obtain⟨⟨h,B,d,k,os⟩,e,C⟩:=i8.mp (c w);obtain⟨rfl,rfl,rfl,rfl⟩:h=boot_heap w.params/\B = #[]/\d=boot_drawn/\k=boot_toks:=by simpa using C
 obtain⟨v,u,o⟩ : _/\_/\_:=by simpa only[Prod.mk.injEq] using bW w.params
 obtain⟨s,j,A⟩:=i8.mp (h1 w os);obtain⟨D,i,z⟩:=i8.mp (h2 w os);obtain⟨x,g,y⟩:=i8.mp (h3 w os);rw[j] at i g;cases i;cases g;have r:=iq j;rw[show Iy ⟨VU w.params,11,(boot_heap w.params).life,#[],boot_drawn,boot_toks,os⟩=⟨boot_heap w.params,#[],boot_drawn,boot_toks,os⟩ from by unfold Iy; rw[Xn]] at r;have t:topFrom treeTable p w N ⟨boot_heap w.params,#[],boot_drawn,boot_toks,os⟩=O s.abs:=by
  unfold topFrom;dsimp only;rw[v,u,o,r];show(match staticsOk (importedModules p.main.body) (boot_heap w.params) s.abs.heap&&namesBound p s.abs.heap&&gensDone s.abs&&laidKept (boot_heap w.params) s.abs.heap with | true=>_ | false=>_)=_;rw[A]
 unfold openEnds;rw[e];show(topFrom treeTable p w N _).map _=_;rw[t];show O (_,_)=_;rw[z,y]
end PySem.W
namespace Sea
open PySem L2
def top(i:Nat):Stmt:=PySem.Challenge.pw_seamarks_k44_clashes_by_notes.main.body.getD i (.Pass ⟨0,0,0,0⟩)
abbrev wJ:Ae:=top 2
abbrev xw:Ae:=top 3
abbrev rX:Ae:=top 4
abbrev pS:Ae:=top 5
abbrev pW:Ae:=top 7
abbrev vq:Ae:=top 8
abbrev vB:Ae:=top 9
abbrev yc:Ae:=top 10
abbrev vo:Ae:=top 11
abbrev sV:Ae:=top 12
abbrev ye:Ae:=top 13
abbrev wK:Ae:=top 14
abbrev vC:Ae:=top 15
abbrev sZ:Ae:=top 17
abbrev pC:Ae:=top 18
abbrev sN:Ae:=top 19
abbrev tD:Ae:=top 20
abbrev wT:Ae:=top 21
abbrev yh:Ae:=top 22
abbrev pA:Ae:=top 24
abbrev qC:Ae:=top 25
abbrev xW:Ae:=top 26
abbrev uv:Ae:=top 27
abbrev uR:Ae:=top 54
abbrev qR:Ae:=top 55
abbrev qA:Ae:=top 56
abbrev xt:Ae:=top 57
abbrev vH:Ae:=top 58
abbrev uZ:Ae:=top 59
abbrev uQ:Ae:=top 60
abbrev tG:Ae:=top 61
abbrev vN:Ae:=top 62
abbrev uY:Ae:=top 63
abbrev wW:Ae:=top 64
abbrev tJ:Ae:=top 65
abbrev uK:Ae:=top 66
abbrev vJ:Ae:=top 67
abbrev vG:Ae:=top 72
abbrev vD:Ae:=top 74
abbrev wB:Ae:=top 75
abbrev uD:Ae:=top 76
abbrev wS:Ae:=top 77
abbrev ux:Ae:=top 79
abbrev uM:Ae:=top 81
abbrev uG:Ae:=top 82
abbrev sF:Ae:=top 83
abbrev uJ:Ae:=top 84
abbrev vI:Ae:=top 85
abbrev wQ:Ae:=top 86
abbrev uO:Ae:=top 87
abbrev vF:Ae:=top 88
abbrev wc:Ae:=top 92
abbrev vn:Ae:=top 93
abbrev lW:Ae:=top 94
abbrev pB:Ae:=top 95
abbrev ka:Ae:=top 96
abbrev yf:Ae:=top 97
abbrev vZ:Ae:=top 98
abbrev wR:Ae:=top 99
abbrev vE:Ae:=top 100
abbrev wj:Ae:=top 101
abbrev vp:Ae:=top 102
abbrev ya:Ae:=top 103
abbrev kM:Ae:=top 104
abbrev xx:Ae:=top 105
abbrev qP:Ae:=top 106
abbrev sO:Ae:=top 107
abbrev qJ:Ae:=top 108
abbrev qG:Ae:=top 109
abbrev pG:Ae:=top 110
abbrev ku:Ae:=top 111
abbrev vL:Ae:=top 112
abbrev pE:Ae:=top 113
abbrev tF:Ae:=top 114
abbrev vd:Ae:=top 115
abbrev gE:Ae:=top 116
abbrev pN:Ae:=wv (top 90) 0
abbrev xu:Ae:=wv (top 90) 10
abbrev pF:Ae:=wv (top 90) 11
abbrev va:Ae:=wv (top 90) 18
abbrev pO:Ae:=wv (top 90) 20
abbrev wf:Ae:=wv (top 90) 21
abbrev yg:Ae:=wv (top 90) 22
noncomputable def qv:Program:={ PySem.Challenge.pw_seamarks_k44_clashes_by_notes with main:={ PySem.Challenge.pw_seamarks_k44_clashes_by_notes.main with body:=[top 2,top 3,top 4,top 5,top 7,top 8,top 9,top 10,top 11,top 12,top 13,top 14,top 15,top 17,top 18,top 19,top 20,top 21,top 22,top 24,top 25,top 26,top 27,top 54,top 55,top 56,top 57,top 58,top 59,top 60,top 61,top 62,top 63,top 64,top 65,top 66,top 67,top 72,top 74,top 75,top 76,top 77,top 79,top 81,top 82,top 83,top 84,top 85,top 86,top 87,top 88,top 92,top 93,top 94,top 95,top 96,top 97,top 98,top 99,top 100,top 101,top 102,top 103,top 104,top 105,top 106,top 107,top 108,top 109,top 110,top 111,top 112,top 113,top 114,top 115,top 116] } }
def lse:List g8:=("_wall" : g8)::("stretch_way" : g8)::("all_left_of" : g8)::("is_bank" : g8)::("MarkError" : g8)::("BadName" : g8)::("Taken" : g8)::("BadPlace" : g8)::("Full" : g8)::("NoMark" : g8)::("Same" : g8)::("Needed" : g8)::("BadBank" : g8)::("NoBank" : g8)::("BadRun" : g8)::("NoRun" : g8)::("NoMoment" : g8)::("BadWay" : g8)::("BadTurn" : g8)::("NoNote" : g8)::("MOST" : g8)::("LONGEST_NAME" : g8)::("FARTHEST" : g8)::("LONGEST_WAY" : g8)::("after_move" : g8)::("after_unmark" : g8)::("after_bank" : g8)::("after_level" : g8)::("after_right" : g8)::("AFTER" : g8)::("Book" : g8)::[]
noncomputable def kd(P:Cy)(x:g8)(t:Nat)(v:c6):CH:=⟨D7 P x,.str x t,v⟩
noncomputable def kc(l:List c6):BD:=⟨.type "code",IS,.fields (Af l),Af []⟩
noncomputable def kq(x:g8)(a:Nat)(l g:Int)(r:Nat)(u v w y z:c6)(h:Int)(b:Nat):BD:=kc [.str x a,.str x (a+1),.str "/claim/cut.py" (a+2),.int l 0,.int g 0,.int 0 0,.int 0 0,.int 3 0,.ref r,.bool IT,.int 181 0,u,v,w,y,z,.int h 0,.int l 0,.str "/claim/cut.py" b]
noncomputable abbrev kf(x:g8)(s:Ae)(kV a c d ct:c6):BD:=⟨.type "function",IS,.func (AD x x (wZ s) (wA s) (zG s) .none kV a c IS d ct),Af []⟩
noncomputable abbrev kg(x:g8)(s:Ae)(m:g8)(t c:Nat):BD:=kf x s .none .none (.str m t) (.ref c) .none
noncomputable abbrev kf2(x q:g8)(s:Ae)(kV a c d ct:c6):BD:=⟨.type "function",IS,.func (AD x q (wZ s) (wA s) (zG s) .none kV a c IS d ct),Af []⟩
noncomputable def kn(n:Nat)(o:BD)(T:b9):b9:=(n,o)::T
noncomputable def kp(r a:Nat)(l g:Int)(h:Nat)(x:g8)(s:Ae)(m:c6)(T:b9):b9:=(r+5,kq x a l g r (.ref (r+1)) .none (.ref (r+2)) (.ref (r+3)) (.ref (r+4)) h (h+1))::(r+6,kf x s .none .none m (.ref (r+5)) .none)::T
noncomputable def km(r a:Nat)(l g:Int)(h:Nat)(x q:g8)(s:Ae)(m:c6)(T:b9):b9:=(r+5,kc [.str x a,.str q (a+1),.str "/claim/cut.py" (a+2),.int l 0,.int g 0,.int 0 0,.int 0 0,.int 3 0,.ref r,.bool IT,.int 181 0,.ref (r+1),.none,.ref (r+2),.ref (r+3),.ref (r+4),.int h 0,.int l 0,.str "/claim/cut.py" (h+1)])::(r+6,kf2 x q s .none .none m (.ref (r+5)) .none)::T
noncomputable def kx(n:Nat)(x:g8)(e a p:Nat)(T:b9):b9:=(n+1,⟨.type "type",IS,.cls ⟨x,[.ref p],[.ref (n+1),.ref p,.type "ValueError",.type "Exception",.type "BaseException",.type "object"],n,x,IT,[],[],IU,IS,IU⟩,Af [O (.ref e),IS,O (.str x a),O (.str x (a+8)),O (.builtin "ValueError.__new__"),O (.bool IT)]⟩)::T
noncomputable def ky(P:Cy)(n a:Nat)(l:Int)(m:c6)(T:b9):b9:=(n+1,⟨.type "dict",IS,.dict (Af [kd P "__module__" a m,kd P "__firstlineno__" (a+4) (.int l (a+3)),kd P "__static_attributes__" (a+5) (.ref n),kd P "__doc__" (a+6) .none]) 2,Af []⟩)::T
noncomputable def kNs(P:Cy):BD:=⟨.type "dict",IS,.dict (Af (kd P "__name__" 165 (.str "law_seamarks_k44_clashes_by_notes" 1217)::kd P "__doc__" 166 .none::kd P "__package__" 167 .none::kd P "__loader__" 168 (.builtin "__main__.__loader__#opaque")::kd P "__spec__" 169 .none::kd P "__annotations__" 170 (.ref 6)::kd P "__builtins__" 171 (.ref 4)::kd P "__file__" 173 (.str "/claim/cut.py" 172)::kd P "__cached__" 174 .none::kd P "_wall" 193 (.ref 21)::kd P "common_factor" 206 (.ref 28)::kd P "lowest" 212 (.ref 33)::kd P "upright" 218 (.ref 38)::kd P "spot" 227 (.ref 45)::kd P "turn" 237 (.ref 52)::kd P "along" 245 (.ref 59)::kd P "plain_side" 252 (.ref 66)::kd P "beyond" 260 (.ref 73)::kd P "holds" 268 (.ref 80)::kd P "crossing" 279 (.ref 87)::kd P "pushed" 288 (.ref 94)::kd P "bearing_sides" 299 (.ref 101)::kd P "range_side" 307 (.ref 108)::kd P "in_water" 318 (.ref 115)::kd P "foot" 325 (.ref 122)::kd P "edge_end" 338 (.ref 129)::kd P "edge_ends" 344 (.ref 134)::kd P "spot_on_edge" 353 (.ref 141)::kd P "sought" 362 (.ref 148)::kd P "span" 371 (.ref 155)::kd P "weighed" 377 (.ref 160)::kd P "clash_of_three" 390 (.ref 167)::kd P "clash" 401 (.ref 174)::kd P "stretch_way" 411 (.ref 181)::kd P "all_left_of" 423 (.ref 188)::kd P "is_bank" 429 (.ref 193)::kd P "MarkError" 449 (.ref 203)::kd P "BadName" 465 (.ref 216)::kd P "Taken" 481 (.ref 228)::kd P "BadPlace" 497 (.ref 240)::kd P "Full" 513 (.ref 252)::kd P "NoMark" 529 (.ref 264)::kd P "Same" 545 (.ref 276)::kd P "Needed" 561 (.ref 288)::kd P "BadBank" 577 (.ref 300)::kd P "NoBank" 593 (.ref 312)::kd P "BadRun" 609 (.ref 324)::kd P "NoRun" 625 (.ref 336)::kd P "NoMoment" 641 (.ref 348)::kd P "BadWay" 657 (.ref 360)::kd P "BadTurn" 673 (.ref 372)::kd P "NoNote" 689 (.ref 384)::kd P "MOST" 704 (.ref 387)::kd P "LONGEST_NAME" 706 (.int 8 705)::kd P "FARTHEST" 708 (.int 1000 707)::kd P "LONGEST_WAY" 710 (.int 100 709)::kd P "nothing_yet" 716 (.ref 394)::kd P "changed" 727 (.ref 401)::kd P "without" 737 (.ref 408)::kd P "within" 743 (.ref 413)::kd P "check_name" 749 (.ref 418)::kd P "check_free" 758 (.ref 425)::kd P "check_place" 765 (.ref 432)::kd P "check_run" 772 (.ref 439)::kd P "check_room" 780 (.ref 446)::kd P "check_mark" 788 (.ref 453)::kd P "check_moment" 796 (.ref 460)::kd P "check_way" 803 (.ref 467)::kd P "check_apart" 812 (.ref 474)::kd P "after_mark" 822 (.ref 481)::kd P "after_move" 833 (.ref 488)::kd P "after_unmark" 843 (.ref 495)::kd P "after_bank" 854 (.ref 502)::kd P "after_level" 863 (.ref 509)::kd P "after_sail" 872 (.ref 516)::kd P "after_right" 882 (.ref 523)::kd P "after_note" 891 (.ref 530)::kd P "after_bearing" 899 (.ref 537)::kd P "after_range" 907 (.ref 544)::kd P "after_strike" 916 (.ref 551)::kd P "AFTER" 937 (.ref 552)::kd P "after" 945 (.ref 559)::kd P "way_between" 953 (.ref 564)::kd P "mark_places" 962 (.ref 571)::kd P "sides_of" 970 (.ref 578)::kd P "note_groups" 976 (.ref 583)::kd P "note_sides" 986 (.ref 590)::kd P "note_numbers" 992 (.ref 595)::kd P "side_owners" 998 (.ref 600)::kd P "book_clash" 1004 (.ref 605)::kd P "Book" 1216 (.ref 772)::kd P "_law_power" 1225 (.ref 783)::kd P "_law_draws" 1237 (.ref 790)::kd P "_law_new" 1243 (.ref 797)::kd P "_law_lead" 1249 (.ref 802)::kd P "_law_way" 1260 (.ref 809)::kd P "_law_turned" 1268 (.ref 816)::kd P "_law_left_pair" 1278 (.ref 823)::kd P "_law_true_bearing" 1297 (.ref 830)::kd P "_law_some_deeds" 1316 (.ref 837)::kd P "_law_names" 1322 (.ref 842)::kd P "_law_after" 1331 (.ref 849)::kd P "_law_raised" 1341 (.ref 856)::kd P "_law_low" 1349 (.ref 863)::kd P "_law_lowest" 1357 (.ref 870)::kd P "_law_rows_of" 1373 (.ref 877)::kd P "_law_m_groups" 1379 (.ref 882)::kd P "_law_m_sides" 1389 (.ref 889)::kd P "_law_spot_of" 1399 (.ref 896)::kd P "_law_meet" 1408 (.ref 903)::kd P "_law_has" 1414 (.ref 908)::kd P "_law_corners_of" 1426 (.ref 915)::kd P "_law_feet" 1432 (.ref 920)::kd P "_law_any_place" 1440 (.ref 927)::kd P "_law_whole" 1447 (.ref 934)::kd P "law" 1453 (.ref 939)::[])) 116,Af []⟩
noncomputable abbrev mo1:c6:=.str "seamarks.parts" 194
noncomputable abbrev mo2:c6:=.str "seamarks.sides" 228
noncomputable abbrev mo3:c6:=.str "seamarks.water" 308
noncomputable abbrev mo4:c6:=.str "seamarks.reach" 363
noncomputable abbrev mo5:c6:=.str "seamarks.deeds" 690
noncomputable abbrev mo6:c6:=.str "seamarks.asks" 946
noncomputable abbrev mo7:c6:=.str "seamarks.book" 1005
noncomputable abbrev mo8:c6:=.str "law_seamarks_k44_clashes_by_notes" 1217
noncomputable abbrev mo9:c6:=.str "seamarks.errors" 430
noncomputable def KG(P:Cy):b9 :=
 kn (nat_lit 202) ⟨.type "dict",IS,.dict (Af (kd P "__module__" 439 (.str "seamarks.errors" 430)::kd P "__firstlineno__" 443 (.int 121 442)::kd P "__static_attributes__" 444 (.ref 201)::kd P "__weakref__" 446 (.ref 204)::kd P "__doc__" 447 .none::[])) 3,Af []⟩ <|
 ky P 346 633 145 mo9 <|
 kn (nat_lit 387) ⟨.type "dict",IS,.dict (Af (kd P "marks" 692 (.int 20 693)::kd P "banks" 694 (.int 8 695)::kd P "runs" 696 (.int 12 697)::kd P "notes" 698 (.int 24 699)::[])) 4,Af []⟩ <|
 kn (nat_lit 552) ⟨.type "dict",IS,.dict (Af (kd P "mark" 917 (.ref 481)::kd P "move" 918 (.ref 488)::kd P "unmark" 919 (.ref 495)::kd P "bank" 920 (.ref 502)::kd P "level" 921 (.ref 509)::kd P "sail" 922 (.ref 516)::kd P "right" 923 (.ref 523)::kd P "bearing" 924 (.ref 537)::kd P "range" 925 (.ref 544)::kd P "strike" 926 (.ref 551)::[])) 10,Af []⟩ <|
 kn (nat_lit 771) ⟨.type "dict",IS,.dict (Af (kd P "__module__" 1014 (.str "seamarks.book" 1005)::kd P "__firstlineno__" 1018 (.int 325 1017)::kd P "__init__" 1025 (.ref 619)::kd P "mark" 1035 (.ref 626)::kd P "move" 1045 (.ref 633)::kd P "unmark" 1053 (.ref 640)::kd P "bank" 1062 (.ref 647)::kd P "level" 1070 (.ref 654)::kd P "sail" 1079 (.ref 661)::kd P "right" 1089 (.ref 668)::kd P "bearing" 1100 (.ref 675)::kd P "range_note" 1110 (.ref 682)::kd P "strike" 1118 (.ref 689)::kd P "deed" 1128 (.ref 696)::kd P "step" 1137 (.ref 703)::kd P "undo" 1144 (.ref 710)::kd P "redo" 1151 (.ref 717)::kd P "deeds" 1158 (.ref 724)::kd P "undone" 1165 (.ref 731)::kd P "twin" 1172 (.ref 738)::kd P "marks" 1178 (.ref 743)::kd P "banks" 1185 (.ref 750)::kd P "runs" 1191 (.ref 755)::kd P "notes" 1198 (.ref 762)::kd P "coming" 1205 (.ref 769)::kd P "__static_attributes__" 1209 (.ref 770)::kd P "__dict__" 1211 (.ref 773)::kd P "__weakref__" 1213 (.ref 774)::kd P "__doc__" 1214 .none::[])) 4,Af []⟩ <| []
noncomputable abbrev KF(P:Cy):b9:=(nat_lit 3,kNs P)::KG P
noncomputable def KC:b9 :=
 kp 22 196 5 1 204 "common_factor" wJ mo1 <|
 kn (nat_lit 32) (kq "lowest" 207 14 1 29 (.ref 30) .none .none .none (.ref 31) 210 211) <|
 kn (nat_lit 33) (kg "lowest" xw "seamarks.parts" 194 32) <|
 kn (nat_lit 37) (kq "upright" 213 17 1 34 (.ref 35) .none .none .none (.ref 36) 216 217) <|
 kn (nat_lit 38) (kg "upright" rX "seamarks.parts" 194 37) <|
 kp 39 219 21 3 225 "spot" pS mo1 <|
 kp 46 230 24 2 235 "turn" pW mo2 <|
 kp 53 238 26 2 243 "along" vq mo2 <|
 kp 60 246 28 1 250 "plain_side" vB mo2 <|
 kp 67 253 30 2 258 "beyond" yc mo2 <|
 kp 74 261 32 2 266 "holds" vo mo2 <|
 kp 81 269 34 2 277 "crossing" sV mo2 <|
 kp 88 280 41 3 286 "pushed" ye mo2 <|
 kp 95 289 43 3 297 "bearing_sides" wK mo2 <|
 kp 102 300 47 2 305 "range_side" vC mo2 <|
 kp 109 310 50 2 316 "in_water" sZ mo3 <|
 kp 116 319 55 1 323 "foot" pC mo3 <|
 kp 123 326 57 3 336 "edge_end" sN mo3 <|
 kn (nat_lit 133) (kq "edge_ends" 339 66 2 130 (.ref 131) .none .none .none (.ref 132) 342 343) <|
 kn (nat_lit 134) (kg "edge_ends" tD "seamarks.water" 308 133) <|
 kp 135 345 69 2 351 "spot_on_edge" wT mo3 <|
 kp 142 354 74 1 360 "sought" yh mo3 <|
 kp 149 365 83 1 369 "span" pA mo4 <|
 kn (nat_lit 159) (kq "weighed" 372 85 2 156 (.ref 157) .none .none .none (.ref 158) 375 376) <|
 kn (nat_lit 160) (kg "weighed" qC "seamarks.reach" 363 159) <|
 kp 161 378 88 2 388 "clash_of_three" xW mo4 <|
 kp 168 391 95 1 399 "clash" uv mo4 <|
 kn (nat_lit 203) (@PySem.Obj.mk (.type "type") IS (@PySem.Data.cls (@PySem.ClassData.mk "MarkError" ((.type "ValueError")::[]) ((.ref 203)::((.type "ValueError")::((.type "Exception")::((.type "BaseException")::((.type "object")::[]))))) 202 "MarkError" IT [] ((.ref 216)::((.ref 228)::((.ref 240)::((.ref 252)::((.ref 264)::((.ref 276)::((.ref 288)::((.ref 300)::((.ref 312)::((.ref 324)::((.ref 336)::((.ref 348)::((.ref 360)::((.ref 372)::((.ref 384)::[]))))))))))))))) IU IS IU)) (Af ((O (.ref 194))::(IS::((O (.str "MarkError" 432))::((O (.str "MarkError" 440))::((O (.builtin "ValueError.__new__"))::((O (.bool IT))::[])))))))) <|
 kx 347 "NoMoment" 339 626 203 <|
 kp 388 711 158 0 714 "nothing_yet" uR mo5 <|
 kp 395 717 160 4 725 "changed" qR mo5 <|
 kp 402 728 165 3 735 "without" qA mo5 <|
 kn (nat_lit 412) (kq "within" 738 170 2 409 (.ref 410) .none .none .none (.ref 411) 741 742) <|
 kn (nat_lit 413) (kg "within" xt "seamarks.deeds" 690 412) <|
 kn (nat_lit 417) (kq "check_name" 744 172 1 414 (.ref 415) .none .none .none (.ref 416) 747 748) <|
 kn (nat_lit 418) (kg "check_name" vH "seamarks.deeds" 690 417) <|
 kp 419 750 175 3 756 "check_free" uZ mo5 <|
 kp 426 759 178 1 763 "check_place" uQ mo5 <|
 kp 433 766 181 1 770 "check_run" tG mo5 <|
 kp 440 773 184 2 778 "check_room" vN mo5 <|
 kp 447 781 187 2 786 "check_mark" uY mo5 <|
 kp 454 789 190 2 794 "check_moment" wW mo5 <|
 kp 461 797 193 1 801 "check_way" tJ mo5 <|
 kp 468 804 196 3 810 "check_apart" uK mo5 <|
 kp 475 813 199 2 820 "after_mark" vJ mo5 <|
 kp 510 864 239 2 870 "after_sail" vG mo5 <|
 kp 524 883 251 2 889 "after_note" vD mo5 <|
 kp 531 892 256 2 897 "after_bearing" wB mo5 <|
 kp 538 900 264 2 905 "after_range" uD mo5 <|
 kp 545 908 270 2 914 "after_strike" wS mo5 <|
 kp 553 938 276 2 943 "after" ux mo5 <|
 kn (nat_lit 563) (kq "way_between" 948 279 3 560 (.ref 561) .none .none .none (.ref 562) 951 952) <|
 kn (nat_lit 564) (kg "way_between" uM "seamarks.asks" 946 563) <|
 kp 565 954 286 1 960 "mark_places" uG mo6 <|
 kp 572 963 291 2 968 "sides_of" sF mo6 <|
 kn (nat_lit 582) (kq "note_groups" 971 295 2 579 (.ref 580) .none .none .none (.ref 581) 974 975) <|
 kn (nat_lit 583) (kg "note_groups" uJ "seamarks.asks" 946 582) <|
 kp 584 977 304 2 984 "note_sides" vI mo6 <|
 kn (nat_lit 594) (kq "note_numbers" 987 309 1 591 (.ref 592) .none .none .none (.ref 593) 990 991) <|
 kn (nat_lit 595) (kg "note_numbers" wQ "seamarks.asks" 946 594) <|
 kn (nat_lit 599) (kq "side_owners" 993 311 1 596 (.ref 597) .none .none .none (.ref 598) 996 997) <|
 kn (nat_lit 600) (kg "side_owners" uO "seamarks.asks" 946 599) <|
 kn (nat_lit 604) (kq "book_clash" 999 318 1 601 (.ref 602) .none .none .none (.ref 603) 1002 1003) <|
 kn (nat_lit 605) (kg "book_clash" vF "seamarks.asks" 946 604) <|
 km 613 1019 327 1 1023 "__init__" "Book.__init__" pN mo7 <|
 km 683 1111 359 2 1116 "strike" "Book.strike" xu mo7 <|
 km 690 1119 362 2 1126 "deed" "Book.deed" pF mo7 <|
 kn (nat_lit 742) (kc ((.str "marks" 1173)::((.str "Book.marks" 1174)::((.str "/claim/cut.py" 1175)::((.int 388 0)::((.int 1 0)::((.int 0 0)::((.int 0 0)::((.int 3 0)::((.ref 739)::((.bool IT)::((.int 181 0)::((.ref 740)::(.none::(.none::(.none::((.ref 741)::((.int 1176 0)::((.int 388 0)::((.str "/claim/cut.py" 1177)::[])))))))))))))))))))) <|
 kn (nat_lit 743) (kf2 "marks" "Book.marks" va .none .none (.str "seamarks.book" 1005) (.ref 742) .none) <|
 kn (nat_lit 754) (kc ((.str "runs" 1186)::((.str "Book.runs" 1187)::((.str "/claim/cut.py" 1188)::((.int 395 0)::((.int 1 0)::((.int 0 0)::((.int 0 0)::((.int 3 0)::((.ref 751)::((.bool IT)::((.int 181 0)::((.ref 752)::(.none::(.none::(.none::((.ref 753)::((.int 1189 0)::((.int 395 0)::((.str "/claim/cut.py" 1190)::[])))))))))))))))))))) <|
 kn (nat_lit 755) (kf2 "runs" "Book.runs" pO .none .none (.str "seamarks.book" 1005) (.ref 754) .none) <|
 km 756 1192 399 1 1196 "notes" "Book.notes" wf mo7 <|
 km 763 1199 402 1 1203 "coming" "Book.coming" yg mo7 <|
 kn (nat_lit 772) (@PySem.Obj.mk (.type "type") IS (@PySem.Data.cls (@PySem.ClassData.mk "Book" ((.type "object")::[]) ((.ref 772)::((.type "object")::[])) 771 "Book" IT [] [] IU IS IU)) (Af (IS::(IS::((O (.str "Book" 1007))::((O (.str "Book" 1015))::((O (.builtin "object.__new__"))::((O (.bool IT))::[])))))))) <|
 kp 777 1219 405 1 1223 "_law_power" wc mo8 <|
 kp 784 1226 407 2 1235 "_law_draws" vn mo8 <|
 kp 791 1238 423 0 1241 "_law_new" lW mo8 <|
 kn (nat_lit 801) (kq "_law_lead" 1244 425 3 798 (.ref 799) .none .none .none (.ref 800) 1247 1248) <|
 kn (nat_lit 802) (kg "_law_lead" pB "law_seamarks_k44_clashes_by_notes" 1217 801) <|
 kp 803 1250 429 3 1258 "_law_way" ka mo8 <|
 kp 810 1261 435 2 1266 "_law_turned" yf mo8 <|
 kp 817 1269 437 2 1276 "_law_left_pair" vZ mo8 <|
 kp 824 1279 447 6 1295 "_law_true_bearing" wR mo8 <|
 kp 831 1298 456 2 1314 "_law_some_deeds" vE mo8 <|
 kn (nat_lit 841) (kq "_law_names" 1317 476 2 838 (.ref 839) .none .none .none (.ref 840) 1320 1321) <|
 kn (nat_lit 842) (kg "_law_names" wj "law_seamarks_k44_clashes_by_notes" 1217 841) <|
 kp 843 1323 491 2 1329 "_law_after" vp mo8 <|
 kp 850 1332 513 2 1339 "_law_raised" ya mo8 <|
 kp 857 1342 519 2 1347 "_law_low" kM mo8 <|
 kp 864 1350 525 1 1355 "_law_lowest" xx mo8 <|
 kp 871 1358 528 2 1371 "_law_rows_of" qP mo8 <|
 kn (nat_lit 881) (kq "_law_m_groups" 1374 537 2 878 (.ref 879) .none .none .none (.ref 880) 1377 1378) <|
 kn (nat_lit 882) (kg "_law_m_groups" sO "law_seamarks_k44_clashes_by_notes" 1217 881) <|
 kp 883 1380 544 2 1387 "_law_m_sides" qJ mo8 <|
 kp 890 1390 549 3 1397 "_law_spot_of" qG mo8 <|
 kp 897 1400 554 2 1406 "_law_meet" pG mo8 <|
 kn (nat_lit 907) (kq "_law_has" 1409 559 2 904 (.ref 905) .none .none .none (.ref 906) 1412 1413) <|
 kn (nat_lit 908) (kg "_law_has" ku "law_seamarks_k44_clashes_by_notes" 1217 907) <|
 kp 909 1415 562 1 1424 "_law_corners_of" vL mo8 <|
 kn (nat_lit 919) (kq "_law_feet" 1427 570 1 916 (.ref 917) .none .none .none (.ref 918) 1430 1431) <|
 kn (nat_lit 920) (kg "_law_feet" pE "law_seamarks_k44_clashes_by_notes" 1217 919) <|
 kp 921 1433 572 1 1438 "_law_any_place" tF mo8 <|
 kp 928 1441 577 1 1445 "_law_whole" vd mo8 <|
 kn (nat_lit 938) (kq "law" 1448 579 1 935 (.ref 936) .none .none .none (.ref 937) 1451 1452) <|
 kn (nat_lit 939) (kg "law" gE "law_seamarks_k44_clashes_by_notes" 1217 938) <| []
noncomputable def KK(P:Cy):b9:=(nat_lit 3,kNs P)::(KG P++KC)
noncomputable def K:b9:=Classical.choose (⟨KC,rfl⟩:∃ k,k=KC)
def Wp:K=KC:=Classical.choose_spec (⟨KC,rfl⟩:∃ k,k=KC)
noncomputable def kas:List Nat:=nat_lit 3::nat_lit 202::nat_lit 347::nat_lit 387::nat_lit 552::nat_lit 771::KC.map (·.1)
def kas_ok:∀ P:Cy,kas=(KK P).map (·.1):=λ_=>by kernel_rfl
def Sv{a b:Bool}(h:a=IT)(k:b=IT):(a&&b)=true:=by rw[h,k]; rfl
set_option maxHeartbeats 0 in
open PySem.W in
def said_ok:PySem.Challenge.rw_seamarks_k44_clashes_by_notes.wellSaid=true:=by
 unfold OpenLaw.wellSaid
 repeat' first | with_reducible apply Sv | unfold OpenRow.wellSaid | unfold OpenRow.partSaid | unfold looksOpen
 all_goals decide +kernel
open PySem.W in
noncomputable abbrev lkM:=Fast.tw5923862056798008813 (Fast.tw2368527892694137696 PySem.Challenge.rw_seamarks_k44_clashes_by_notes).prog.main.body
open PySem.W in
noncomputable abbrev lkT(w:World)(os:OsState):=Si Fast.tw14364793385576792824 (Fast.tw2368527892694137696 PySem.Challenge.rw_seamarks_k44_clashes_by_notes).prog 90000 w os
open PySem.W in
noncomputable abbrev lkS(s:SharedT):=Fast.tw4187177175401517315 qv lse lkM (λs=>xlAt qv [] s&&recOk (Fast.tw2368527892694137696 PySem.Challenge.rw_seamarks_k44_clashes_by_notes).records s) IT s.abs
set_option maxHeartbeats 0 in
open PySem.W in
def WW(u:World)(os:OsState):(lkT (u.withFollow "special-get-raises" IT) os).map (λs=>((lkS s).1,(staticsOk lkM (boot_heap (u.withFollow "special-get-raises" IT).params) s.abs.heap&&namesBound (Fast.tw2368527892694137696 PySem.Challenge.rw_seamarks_k44_clashes_by_notes).prog s.abs.heap&&gensDone s.abs&&laidKept (boot_heap (u.withFollow "special-get-raises" IT).params) s.abs.heap),(lkS s).2.1))=O (((PyProof.Rows.expectedOf qv)),(IT),(bltViewBooted)):=by kernel_rfl
set_option maxHeartbeats 0 in
open PySem.W in
def WV(u:World)(os:OsState):(lkT (u.withFollow "special-get-raises" IU) os).map (λs=>((lkS s).1,(staticsOk lkM (boot_heap (u.withFollow "special-get-raises" IU).params) s.abs.heap&&namesBound (Fast.tw2368527892694137696 PySem.Challenge.rw_seamarks_k44_clashes_by_notes).prog s.abs.heap&&gensDone s.abs&&laidKept (boot_heap (u.withFollow "special-get-raises" IU).params) s.abs.heap),(lkS s).2.1))=O (((PyProof.Rows.expectedOf qv)),(IT),(bltViewBooted)):=by kernel_rfl
set_option maxHeartbeats 0 in
open PySem.W in
def bL(w:World)(os:OsState):(lkT w os).map (λs=>((lkS s).1,(staticsOk lkM (boot_heap w.params) s.abs.heap&&namesBound (Fast.tw2368527892694137696 PySem.Challenge.rw_seamarks_k44_clashes_by_notes).prog s.abs.heap&&gensDone s.abs&&laidKept (boot_heap w.params) s.abs.heap),(lkS s).2.1))=O (((PyProof.Rows.expectedOf qv)),(IT),(bltViewBooted)):=by
 have h:∀(b:Bool)(u:World),(λw:World=>(lkT w os).map (λs=>((lkS s).1,(staticsOk lkM (boot_heap w.params) s.abs.heap&&namesBound (Fast.tw2368527892694137696 PySem.Challenge.rw_seamarks_k44_clashes_by_notes).prog s.abs.heap&&gensDone s.abs&&laidKept (boot_heap w.params) s.abs.heap),(lkS s).2.1))=O (((PyProof.Rows.expectedOf qv)),(IT),(bltViewBooted))) (u.withFollow "special-get-raises" b):=λb u=>by cases b; rwa[WV u os]; rwa[WW u os]
 have:=h (w.params.followText "special-get-raises") w;(rw[CK] at this;assumption)
set_option maxHeartbeats 0 in
open PySem.W in
def Vp(u:m9)(os:CY):(lkT (u.withFollow "special-get-raises" IT) os).map (λs=>(kas.map s.abs.heap.get?,(lkS s).2.2.1))=O ((((KK (u.withFollow "special-get-raises" IT).params).map λp=>O p.2)),(IT)):=by kernel_rfl
set_option maxHeartbeats 0 in
open PySem.W in
def Uw(u:m9)(os:CY):(lkT (u.withFollow "special-get-raises" IU) os).map (λs=>(kas.map s.abs.heap.get?,(lkS s).2.2.1))=O ((((KK (u.withFollow "special-get-raises" IU).params).map λp=>O p.2)),(IT)):=by kernel_rfl
set_option maxHeartbeats 0 in
open PySem.W in
def Xd(w:m9)(os:CY):(lkT w os).map (λs=>(kas.map s.abs.heap.get?,(lkS s).2.2.1))=O ((((KK w.params).map λp=>O p.2)),(IT)):=by
 have h:∀(b:Bool)(u:m9),(λw:m9=>(lkT w os).map (λs=>(kas.map s.abs.heap.get?,(lkS s).2.2.1))=O ((((KK w.params).map λp=>O p.2)),(IT))) (u.withFollow "special-get-raises" b):=λb u=>by cases b; rwa[Uw u os]; rwa[Vp u os]
 have:=h (w.params.followText "special-get-raises") w;(rw[CK] at this;assumption)
set_option maxHeartbeats 0 in
open PySem.W in
def Va(u:m9)(os:CY):(lkT (u.withFollow "special-get-raises" IT) os).map (λs=>((lkS s).2.2.2.1,(lkS s).2.2.2.2.1,(lkS s).2.2.2.2.2.1))=O (IT,pinGoodD (CP qv),Ct qv (looseW qv lse)):=by kernel_rfl
set_option maxHeartbeats 0 in
open PySem.W in
def WY(u:m9)(os:CY):(lkT (u.withFollow "special-get-raises" IU) os).map (λs=>((lkS s).2.2.2.1,(lkS s).2.2.2.2.1,(lkS s).2.2.2.2.2.1))=O (IT,pinGoodD (CP qv),Ct qv (looseW qv lse)):=by kernel_rfl
set_option maxHeartbeats 0 in
open PySem.W in
def UX(w:m9)(os:CY):(lkT w os).map (λs=>((lkS s).2.2.2.1,(lkS s).2.2.2.2.1,(lkS s).2.2.2.2.2.1))=O (IT,pinGoodD (CP qv),Ct qv (looseW qv lse)):=by
 have h:∀(b:Bool)(u:m9),(λw:m9=>(lkT w os).map (λs=>((lkS s).2.2.2.1,(lkS s).2.2.2.2.1,(lkS s).2.2.2.2.2.1))=O (IT,pinGoodD (CP qv),Ct qv (looseW qv lse))) (u.withFollow "special-get-raises" b):=λb u=>by cases b; rwa[WY u os]; rwa[Va u os]
 have:=h (w.params.followText "special-get-raises") w;(rw[CK] at this;assumption)
set_option maxHeartbeats 0 in
open PySem.W in
def Ux(u:m9)(os:CY):(lkT (u.withFollow "special-get-raises" IT) os).map (λs=>(lkS s).2.2.2.2.2.2)=O (Cu qv lse,wideGood qv,clsGoodW qv lse):=by kernel_rfl
set_option maxHeartbeats 0 in
open PySem.W in
def Wd(u:m9)(os:CY):(lkT (u.withFollow "special-get-raises" IU) os).map (λs=>(lkS s).2.2.2.2.2.2)=O (Cu qv lse,wideGood qv,clsGoodW qv lse):=by kernel_rfl
set_option maxHeartbeats 0 in
open PySem.W in
def Tn(w:m9)(os:CY):(lkT w os).map (λs=>(lkS s).2.2.2.2.2.2)=O (Cu qv lse,wideGood qv,clsGoodW qv lse):=by
 have h:∀(b:Bool)(u:m9),(λw:m9=>(lkT w os).map (λs=>(lkS s).2.2.2.2.2.2)=O (Cu qv lse,wideGood qv,clsGoodW qv lse)) (u.withFollow "special-get-raises" b):=λb u=>by cases b; rwa[Wd u os]; rwa[Ux u os]
 have:=h (w.params.followText "special-get-raises") w;(rw[CK] at this;assumption)
set_option maxHeartbeats 0 in
open PySem.W in
def Ua(w:m9)(os:CY):(lkT w os).map (λs=>(lkS s).1)=O (Ib qv):=oA (bL w os) (λp=>p.1)
set_option maxHeartbeats 0 in
open PySem.W in
def Tk(w:World)(os:OsState):(lkT w os).map (λs=>(staticsOk lkM (boot_heap w.params) s.abs.heap&&namesBound (Fast.tw2368527892694137696 PySem.Challenge.rw_seamarks_k44_clashes_by_notes).prog s.abs.heap&&gensDone s.abs&&laidKept (boot_heap w.params) s.abs.heap))=O true:=oA (bL w os) (λp=>p.2.1)
set_option maxHeartbeats 0 in
open PySem.W in
def TB(w:m9)(os:CY):(lkT w os).map (λs=>(lkS s).2.1)=O bltViewBooted:=oA (bL w os) (λp=>p.2.2)
set_option maxHeartbeats 0 in
open PySem.W in
def Tb(w:m9)(os:CY):(lkT w os).map (λs=>kas.map s.abs.heap.get?)=O ((KK w.params).map λp=>O p.2):=oA (Xd w os) (λp=>p.1)
set_option maxHeartbeats 0 in
open PySem.W in
def UO(w:m9)(os:CY):(lkT w os).map (λs=>(lkS s).2.2.1)=O true:=oA (Xd w os) (λp=>p.2)
set_option maxHeartbeats 0 in
open PySem.W in
def left_ok:LeftO PySem.Challenge.rw_seamarks_k44_clashes_by_notes.row.prog qv lse (λs=>xlAt qv [] s&&recOk (RowW.records (OpenRow.toRowW PySem.Challenge.rw_seamarks_k44_clashes_by_notes.row)) s)
  (λs=>kas.map s.heap.get?) (λw=>(KK w.params).map λp=>O p.2) 90000:=by
 erw[aK (boot_open (by kernel_rfl) (by decide) (λs=>by kernel_rfl)) ?a ?b ?c]
 case a =>
  rw[D8,CQ,CM];rwa[Tk]
 case b =>
  rw[Fast.te4187177175401517315,D8,CQ,CM];rwa[λw os=>kD (f:=lkS) (Ua w os) (kD (f:=λs=>(lkS s).2) (TB w os) (kD (f:=λs=>(lkS s).2.2) (UO w os) (ZT (f:=λs=>(lkS s).2.2.2) (UX w os) (Tn w os))))]
 case c =>
  rw[CQ,CM];rwa[Tb]
end Sea
-- BASE
open PySem PySem.Spec L2
open PyProof.Rows hiding St
local macro_rules | `(tactic| symm) => `(tactic| kernel_rfl)
local macro_rules | `(tactic| ac_nf) => `(tactic| decide +kernel)
def y6{c:Prop}{d:Decidable c}(h:¬c){e:Sort _}{a b:e}:ite c a b=b:=if_neg h
def y7{c:Prop}{d:Decidable c}(h:c){e:Sort _}{a b:e}:ite c a b=a:=if_pos h
def y8{p:Prop}[Decidable p](h:p):decide p=true:=decide_eq_true h
def y9{p:Prop}[Decidable p](h:¬p):decide p=false:=decide_eq_false h
def x4{a b:Prop}(h:a)(n:¬a):b:=absurd h n
def x5{c:Type _}[BEq c][LawfulBEq c]{a b:c}:(a==b)=IU↔a≠b:=beq_eq_false_iff_ne
namespace L2
inductive E2{α0 α1:Type}(P:α0->α1->Prop):Prop where
 | mk (a0:α0) (a1:α1) (h:P a0 a1):E2 P
inductive E3{α0 α1 α2:Type}(P:α0->α1->α2->Prop):Prop where
 | mk (a0:α0) (a1:α1) (a2:α2) (h:P a0 a1 a2):E3 P
inductive E4{α0 α1 α2 α3:Type}(P:α0->α1->α2->α3->Prop):Prop where
 | mk (a0:α0) (a1:α1) (a2:α2) (a3:α3) (h:P a0 a1 a2 a3):E4 P
inductive E5{α0 α1 α2 α3 α4:Type}(P:α0->α1->α2->α3->α4->Prop):Prop where
 | mk (a0:α0) (a1:α1) (a2:α2) (a3:α3) (a4:α4) (h:P a0 a1 a2 a3 a4):E5 P
inductive E6{α0 α1 α2 α3 α4 α5:Type}(P:α0->α1->α2->α3->α4->α5->Prop):Prop where
 | mk (a0:α0) (a1:α1) (a2:α2) (a3:α3) (a4:α4) (a5:α5) (h:P a0 a1 a2 a3 a4 a5):E6 P
inductive E7{α0 α1 α2 α3 α4 α5 α6:Type}(P:α0->α1->α2->α3->α4->α5->α6->Prop):Prop where
 | mk (a0:α0) (a1:α1) (a2:α2) (a3:α3) (a4:α4) (a5:α5) (a6:α6) (h:P a0 a1 a2 a3 a4 a5 a6):E7 P
inductive E8{α0 α1 α2 α3 α4 α5 α6 α7:Type}(P:α0->α1->α2->α3->α4->α5->α6->α7->Prop):Prop where
 | mk (a0:α0) (a1:α1) (a2:α2) (a3:α3) (a4:α4) (a5:α5) (a6:α6) (a7:α7) (h:P a0 a1 a2 a3 a4 a5 a6 a7):E8 P
inductive E9{α0 α1 α2 α3 α4 α5 α6 α7 α8:Type}(P:α0->α1->α2->α3->α4->α5->α6->α7->α8->Prop):Prop where
 | mk (a0:α0) (a1:α1) (a2:α2) (a3:α3) (a4:α4) (a5:α5) (a6:α6) (a7:α7) (a8:α8) (h:P a0 a1 a2 a3 a4 a5 a6 a7 a8):E9 P
inductive E10{α0 α1 α2 α3 α4 α5 α6 α7 α8 α9:Type}(P:α0->α1->α2->α3->α4->α5->α6->α7->α8->α9->Prop):Prop where
 | mk (a0:α0) (a1:α1) (a2:α2) (a3:α3) (a4:α4) (a5:α5) (a6:α6) (a7:α7) (a8:α8) (a9:α9) (h:P a0 a1 a2 a3 a4 a5 a6 a7 a8 a9):E10 P
structure A3(p0 p1 p2:Prop):Prop where
 mk ::
 h0:p0
 h1:p1
 h2:p2
structure A4(p0 p1 p2 p3:Prop):Prop where
 mk ::
 h0:p0
 h1:p1
 h2:p2
 h3:p3
structure A5(p0 p1 p2 p3 p4:Prop):Prop where
 mk ::
 h0:p0
 h1:p1
 h2:p2
 h3:p3
 h4:p4
structure A6(p0 p1 p2 p3 p4 p5:Prop):Prop where
 mk ::
 h0:p0
 h1:p1
 h2:p2
 h3:p3
 h4:p4
 h5:p5
structure A7(p0 p1 p2 p3 p4 p5 p6:Prop):Prop where
 mk ::
 h0:p0
 h1:p1
 h2:p2
 h3:p3
 h4:p4
 h5:p5
 h6:p6
structure A8(p0 p1 p2 p3 p4 p5 p6 p7:Prop):Prop where
 mk ::
 h0:p0
 h1:p1
 h2:p2
 h3:p3
 h4:p4
 h5:p5
 h6:p6
 h7:p7
structure A9(p0 p1 p2 p3 p4 p5 p6 p7 p8:Prop):Prop where
 mk ::
 h0:p0
 h1:p1
 h2:p2
 h3:p3
 h4:p4
 h5:p5
 h6:p6
 h7:p7
 h8:p8
structure A10(p0 p1 p2 p3 p4 p5 p6 p7 p8 p9:Prop):Prop where
 mk ::
 h0:p0
 h1:p1
 h2:p2
 h3:p3
 h4:p4
 h5:p5
 h6:p6
 h7:p7
 h8:p8
 h9:p9
structure A11(p0 p1 p2 p3 p4 p5 p6 p7 p8 p9 p10:Prop):Prop where
 mk ::
 h0:p0
 h1:p1
 h2:p2
 h3:p3
 h4:p4
 h5:p5
 h6:p6
 h7:p7
 h8:p8
 h9:p9
 h10:p10
structure A12(p0 p1 p2 p3 p4 p5 p6 p7 p8 p9 p10 p11:Prop):Prop where
 mk ::
 h0:p0
 h1:p1
 h2:p2
 h3:p3
 h4:p4
 h5:p5
 h6:p6
 h7:p7
 h8:p8
 h9:p9
 h10:p10
 h11:p11
structure A13(p0 p1 p2 p3 p4 p5 p6 p7 p8 p9 p10 p11 p12:Prop):Prop where
 mk ::
 h0:p0
 h1:p1
 h2:p2
 h3:p3
 h4:p4
 h5:p5
 h6:p6
 h7:p7
 h8:p8
 h9:p9
 h10:p10
 h11:p11
 h12:p12

abbrev Key:=Sum Int g8
def gZ:Key->c6->Bool
 | .inl k,v=>Iz k v
 | .inr x,v=>HG x v
def keyH(w:m9):Key->Int
 | .inl k=>hashInt k
 | .inr x=>hashStr w x
def yW:∀{k:Key}{v:c6},gZ k v=IT->(∃ i t,k=Ci i/\v=BH i t)\/(∃ x t,k=Cs x/\v=CZ x t)
 | .inl i,v,h=>by
  obtain⟨t,e⟩:=Value.isInt_shape (k:=i) (v:=v) h;rwa[.inl ⟨i,t,rfl,e⟩]
 | .inr x,v,h=>by
  obtain⟨t,e⟩:=Value.isStrOf_shape (x:=x) (v:=v) h;rwa[.inr ⟨x,t,rfl,e⟩]
def bq(i:Int)(t:IA):gZ (.inl i) (.int i t)=true:=by simp[gZ,Iz]
def cO(x:g8)(t:IA):gZ (.inr x) (.str x t)=true:=by simp[gZ,HG]
def UT(a b:Int):decide ((Ci a:Key)=Ci b)=(a == b):=by
 by_cases e:a=b
 ·subst e; simp
 ·have h:¬ (Ci a:Key)=Ci b:=λq=>e (Sum.inl.inj q);rw[y9 h];exact(x5.mpr e).symm
def TK(a b:g8):decide ((Cs a:Key)=Cs b)=decide (a=b):=by
 by_cases e:a=b
 ·subst e; simp
 ·have h:¬ (Cs a:Key)=Cs b:=λq=>e (GY q);rw[y9 h,y9 e]
def Sm(a:Int)(b:g8):decide ((Ci a:Key)=Cs b)=false:=y9 (λq=>nomatch q)
def TM(a:g8)(b:Int):decide ((Cs a:Key)=Ci b)=false:=y9 (λq=>nomatch q)

def yV(prog:j7)(w:m9):PySem.KeyKind prog w Key where
 is:=gZ
 hash:=keyH w
 inj:=λv a b g d=>by
  rcases yW g with ⟨i,t,rfl,rfl⟩ | ⟨x,t,rfl,rfl⟩
  ·rcases yW d with ⟨j,u,rfl,e⟩ | ⟨y,u,rfl,e⟩
   ·injection e with e1 _; rw[e1]
   ·exact nomatch e
  ·rcases yW d with ⟨j,u,rfl,e⟩ | ⟨y,u,rfl,e⟩
   ·exact nomatch e
   ·injection e with e1 _; rw[e1]
 byValue:=λk v h=>by
  rcases yW h with ⟨i,t,rfl,rfl⟩ | ⟨x,t,rfl,rfl⟩ <;> rfl
 pyHash:=λc h=>by
  rcases yW c with ⟨i,t,rfl,rfl⟩ | ⟨x,t,rfl,rfl⟩
  ·rwa[wpAny_pyHash_int h]
  ·rwa[wpAny_pyHash_str h]
 eqBool:=λf c h=>by
  rcases yW f with ⟨i,t,rfl,rfl⟩ | ⟨x,t,rfl,rfl⟩
  ·rcases yW c with ⟨j,u,rfl,rfl⟩ | ⟨y,u,rfl,rfl⟩
   ·rw[UT] at h; rwa[Gy h]
   ·rw[Sm] at h; rwa[F1 i t y u _ _ _ _ h]
  ·rcases yW c with ⟨j,u,rfl,rfl⟩ | ⟨y,u,rfl,rfl⟩
   ·rw[TM] at h; rwa[F2 x t j u _ _ _ _ h]
   ·rw[TK] at h; rwa[wpAny_eqBool_str h]
 «strs»:=λk x t v h=>by
  rcases yW h with ⟨i,u,rfl,e⟩ | ⟨y,u,rfl,e⟩
  ·exact nomatch e
  ·injection e with e1 _
   subst e1;cases v <;> rfl

def fj(prog:j7)(w:m9)(i:Int)(t:IA):(yV prog w).is (.inl i) (.int i t)=true:=bq i t
def wy(prog:j7)(w:m9)(x:g8)(t:IA):(yV prog w).is (.inr x) (.str x t)=true:=cO x t
end L2

namespace L2

inductive V where
 | non | bl (b:Bool) | int (i:Int) | str (x:g8) | byt (b:Array UInt8) | flt (b:UInt64) | ref (a:c5) | ty (n:String)
 deriving DecidableEq

def xI:V->c6->Prop
 | .non,u=>u=Ao
 | .bl b,u=>u=Fb b
 | .int i,u=>∃ t,u=BH i t
 | .str x,u=>∃ t,u=CZ x t
 | .byt b,u=>∃ t,u=GZ b t
 | .flt b,u=>∃ t,u=FD b t
 | .ref a,u=>u=j8 a
 | .ty n,u=>u=Fc n

abbrev yS:List V->List c6->Prop:=Gz xI
def yS.length(r:yS a c):a.length=c.length:=EK r
def yS.get:∀{a:List V}{c:List c6}{i:Nat}{x:V},yS a c->a[i]?=O x->∃ u,c[i]?=O u/\xI x u
 | _,_,_,_,.nil,e=>by simp at e
 | _,_,0,_,.cons r _,e=>by simp at e; subst e; rwa[_,rfl,r]
 | _,_,i+1,x,.cons _ t,e=>by
  obtain⟨u,h1,h2⟩:=yS.get (i:=i) (x:=x) t (by simpa using e);exact⟨u,by simpa using h1,h2⟩
def yS.set(r:xI x u):∀{a:List V}{c:List c6}(i:Nat),yS a c->yS (a.set i x) (c.set i u)
 | _,_,_,.nil=>.nil
 | _,_,0,.cons _ t=>.cons r t
 | _,_,i+1,.cons q t=>.cons q (yS.set r i t)
def yS.append:∀{c a:List V}{e d:List c6},yS c e->yS a d->yS (c++a) (e++d)
 | _,_,_,_,.nil,s=>s
 | _,_,_,_,.cons r t,s=>.cons r (yS.append t s)
def yS.take:∀{a:List V}{c:List c6}(n:Nat),yS a c->yS (a.take n) (c.take n)
 | _,_,0,_=>.nil
 | _,_,_+1,.nil=>.nil
 | _,_,n+1,.cons r t=>.cons r (yS.take n t)
def yS.drop:∀{a:List V}{c:List c6}(n:Nat),yS a c->yS (a.drop n) (c.drop n)
 | _,_,0,r=>r
 | _,_,_+1,.nil=>.nil
 | _,_,n+1,.cons _ t=>yS.drop n t
def jm:Option V->Option c6->Prop
 | some v,O u=>xI v u
 | none,IS=>True
 | _,_=>False
def KV{a:Type} : List (a×V)->List (a×c6)->Prop:=Gz λ(p:a×V) (q:a×c6)=>p.1=q.1/\xI p.2 q.2

def kV:Key->V
 | .inl i=>.int i
 | .inr x=>.str x

inductive HO where
 | lst (xs:List V)
 | tup (xs:List V)
 | dK (kvs:List (Key×V)) | dT (kvs:List (List Key×V))
 | set (S:Int->Bool) (n:Nat)
 | ins (C dx:c5) (fs:List (g8×V))
 | own (x:c5)
 | xd (fs:List (g8×V))
 | met (f x:c5)
 | rng (lo hi:Int)
 | frz (o:BD) (u:HO)
 | tbl (ps:Array c6)
 | ext (φ:v8->Prop)

abbrev Hp:=c5->Option HO
def upd(H:Hp)(a:c5)(o:HO):Hp:=λb=>if b=a then O o else H b
def zA{H:Hp}{a:c5}{o:HO} : upd H a o a=O o:=by unfold upd; rw[y7 rfl]
def zF{H:Hp}{a b:c5}{o:HO}(h:b≠a):upd H a o b=H b:=by unfold upd; rw[y6 h]
def nW{H:Hp} : upd (upd H a o) a u=upd H a u:=by
 funext b; unfold upd; split <;> rfl
def aQ{H:Hp}(h:H a=O o)(c:H b=O u)(d:o≠u):a≠b:=by
 intro e; subst e; rw[h] at c; rwa[d (o8 c)]
def zH{H:Hp}(h:H a=O o)(c:H b=IS):a≠b:=by
 intro e; subst e; rw[h] at c; cases c

section
variable(P:j7)(w:m9)
def wC(H:Hp)(h:v8)(a:c5):HO->Prop
 | .lst e=>e.length<=sizeLine/\∃(d:List c6)(n:Nat),yS e d/\h.get? a=O { cls:=.type "list",data:=.seq d.toArray n }
 | .tup e=>e.length<=sizeLine/\∃ d:List c6,yS e d/\IsTup h a d.toArray
 | .dK c=>c.length<=sizeLine/\(a == sysModules)=IU/\∃ l,KV c l/\h.DictOf (yV P w) a l
 | .dT c=>c.length<=sizeLine/\(a == sysModules)=IU/\∃ e:List (List Key×c5×c6),
   Gz (λ(p:List Key×V) (q:List Key×c5×c6)=>p.1=q.1/\H q.2.1=O (.tup (p.1.map kV))/\xI p.2 q.2.2) c e /\
   ∃ o m s,h.get? a=O o/\o.ExactDict/\o.data=.dict m s/\m.toList=e.map (entryOfKey (tupleKind (yV P w)))/\(e.map (·.1)).Nodup
 | .set S n=>h.SetOf (intKind P w) a S n
 | .ins C i fs=>H i=O (.own a)/\fs.length<=1000/\i≠a/\h.get? a=O (BI C i) /\
   ∃ g,h.Ns1 i g/\(∀ f,jm (fs.lookup f) (g f))/\Gb g (fs.map (·.1))
 | .own _=>∃ o,h.get? a=O o
 | .xd fs=>∃ g,h.Ns1 a g/\∀ f,jm (fs.lookup f) (g f)
 | .rng lo hi=>∃ t u v,h.get? a=O { cls:=.type "range",data:=.fields #[.int lo t,.int hi u,.int 1 v] }
 | .frz o u=>h.get? a=O o/\wC H h a u
 | .tbl r=>h.get? a=O { cls:=.none,data:=.fields r }
 | .met f x=>h.get? a=O (Et (.ref f) (.ref x))
 | .ext j=>j h/\(∃ o,h.get? a=O o)/\∀ h1 h2:v8,j h1->(∀ o,h1.get? a=O o->h2.get? a=O o)->j h2
def HOk(H:Hp)(h:v8):Prop:=∀ a o,H a=O o->wC P w H h a o
end

section
variable{P:j7}{w:m9}{H H':Hp}{h h':v8}{a:c5}{o:HO}
def wC.lt(x:wC P w H h a o):a<h.objs.size:=by
 cases o with
 | lst d=>obtain⟨_,_,_,_,e⟩:=x; rwa[g6 e]
 | tup d=>obtain⟨_,_,_,p⟩:=x; rwa[p.lt]
 | dK c=>obtain⟨_,_,_,_,o,_,_,e,_⟩:=x; rwa[g6 e]
 | dT c=>obtain⟨_,_,_,_,o,_,_,e,_⟩:=x; rwa[g6 e]
 | set S n=>obtain⟨o,_,_,_,e,_⟩:=x; rwa[g6 e]
 | ins C j fs=>obtain⟨_,_,_,e,_⟩:=x; rwa[g6 e]
 | own y=>obtain⟨_,e⟩:=x; rwa[g6 e]
 | xd fs=>obtain⟨_,⟨_,_,_,e,_⟩,_⟩:=x; rwa[g6 e]
 | rng lo hi=>obtain⟨_,_,_,e⟩:=x; rwa[g6 e]
 | frz ob u=>obtain⟨e,_⟩:=x; rwa[g6 e]
 | tbl i=>exact g6 (show h.get? a=O _ from x)
 | met f y=>exact g6 (show h.get? a=O _ from x)
 | ext g=>obtain⟨_,⟨_,e⟩,_⟩:=x; rwa[g6 e]
def Paired.mapP{g e:Type}{F G:g->e->Prop} : ∀{d:List g}{c:List e},Gz F d c->(∀ a b,F a b->G a b)->Gz G d c
 | _,_,.nil,_=>.nil
 | _,_,.cons r t,f=>.cons (f _ _ r) (Paired.mapP t f)
def wC.stay(x:wC P w H h a o)(k:∀ b u,(b=a\/H b=O (.own a))->h.get? b=O u->h'.get? b=O u)
  (I:∀ b,H b=O (.own a)->H' b=O (.own a)) (G:∀ b l,H b=O (.tup l)->H' b=O (.tup l)):wC P w H' h' a o:=by
 induction o with
 | lst l=>obtain⟨z,j,n,r,e⟩:=x; rwa[z,j,n,r,k _ _ (.inl rfl) e]
 | tup l=>obtain⟨z,j,r,ob,e,c⟩:=x; rwa[z,j,r,ob,k _ _ (.inl rfl) e,c]
 | dK A=>obtain⟨z,y,D,r,ob,g,i,e,c⟩:=x; rwa[z,y,D,r,ob,g,i,k _ _ (.inl rfl) e,c]
 | dT A =>
  obtain⟨z,y,l,r,ob,g,i,e,c⟩:=x;rwa[z,y,l,Paired.mapP r λp q z=>⟨z.1,G _ _ z.2.1,z.2.2⟩,ob,g,i,k _ _ (.inl rfl) e,c]
 | set S n=>obtain⟨ob,g,i,t,e,c⟩:=x; rwa[ob,g,i,t,k _ _ (.inl rfl) e,c]
 | ins C M fs =>
  obtain⟨d,z,ne,e,s,⟨m,g,i,J,c⟩,r⟩:=x;rwa[I _ d,z,ne,k _ _ (.inl rfl) e,s,⟨m,g,i,k _ _ (.inr d) J,c⟩,r]
 | own y=>obtain⟨ob,e⟩:=x; rwa[ob,k _ _ (.inl rfl) e]
 | xd fs=>obtain⟨s,⟨m,g,i,e,c⟩,r⟩:=x; rwa[s,⟨m,g,i,k _ _ (.inl rfl) e,c⟩,r]
 | rng lo hi=>obtain⟨t,u,v,e⟩:=x; rwa[t,u,v,k _ _ (.inl rfl) e]
 | frz ob u E=>obtain⟨e,q⟩:=x; rwa[k _ _ (.inl rfl) e,E q]
 | tbl B =>
  have e:h.get? a=O { cls:=.none,data:=.fields B }:=x;show h'.get? a=O { cls:=.none,data:=.fields B };rwa[k a _ (.inl rfl) e]
 | met f y =>
  have e:h.get? a=O (Et (.ref f) (.ref y)):=x;show h'.get? a=O (Et (.ref f) (.ref y));rwa[k a _ (.inl rfl) e]
 | ext L=>obtain⟨p,⟨o,e⟩,st⟩:=x; rwa[st _ _ p λo q=>k _ _ (.inl rfl) q,⟨o,k _ _ (.inl rfl) e⟩,st]
def HOk.lt(x:HOk P w H h)(e:H a=O o):a<h.objs.size:=(x a o e).lt
def HOk.fresh(x:HOk P w H h)(e:h.objs.size<=a):H a=none:=by
 cases q:H a with
 | none=>rfl
 | some u=>rwa[x4 (m7 (x.lt q) e) (BE _)]
def HOk.kept(x:HOk P w H h)(k:∀ b u,h.get? b=O u->h'.get? b=O u):HOk P w H h':=λa o e =>
 (x a o e).stay (λb u _ q=>k b u q) (λ_ q=>q) λ_ _ q=>q
def HOk.laid(x:HOk P w H h)(k:∀ b u,h.get? b=O u->h'.get? b=O u)(g:h.objs.size<=a)(new:wC P w (upd H a o) h' a o):HOk P w (upd H a o) h':=λb u e=>by
 have d:=x.fresh g;by_cases f:b=a
 ·subst f; rw[zA] at e; cases e; rwa[new]
 ·rw[zF f] at e;exact(x b u e).stay (λc v _ q=>k c v q) (λc q=>by rw[zF (zH q d)]; rwa[q]) λc i q=>by rw[zF (zH q d)]; rwa[q]
end

def Rd(H:Hp)(a:c5)(u:HO):Prop:=H a=O u\/∃ o,H a=O (.frz o u)
def Rd.ok{H:Hp}(r:Rd H a u)(x:HOk P w H h):wC P w H h a u:=by
 rcases r with r | ⟨o,r⟩
 ·rwa[x a u r]
 ·obtain⟨_,q⟩:=x a _ r;rwa[q]
def Mut:Option HO->Prop
 | some (.lst _)=>True
 | some (.dK _)=>True
 | some (.dT _)=>True
 | some (.set _ _)=>True
 | some (.ins _ _ _)=>True
 | some (.ext _)=>True
 | _=>False
section
variable{P:j7}{w:m9}{H:Hp}{h h':v8}{x e:c5}{o':HO}
def HOk.write(ok:HOk P w H h)(i:Mut (H x))(o:e=x\/H e=O (.own x))(k:∀ b u,b≠e->h.get? b=O u->h'.get? b=O u)(m:∃ u,h'.get? e=O u)
  (new:wC P w (upd H x o') h' x o'):HOk P w (upd H x o') h':=λb u q=>by
 have d:∀ c y,H c=O (.own y)->c≠x:=λc y r z=>by subst z; rw[r] at i; rwa[i]
 have f:∀ c g,H c=O (.tup g)->c≠x:=λc g r z=>by subst z; rw[r] at i; rwa[i]
 by_cases l:b=x
 ·subst l; rw[zA] at q; cases q; rwa[new]
 ·rw[zF l] at q;by_cases a:b=e
  ·have n:H b=O (.own x):=by
    rcases o with z | z
    ·rwa[x4 (a.trans z) l]
    ·rw[a]; rwa[z]
   rw[q] at n; cases n;obtain⟨v,p⟩:=m;rwa[v,by rw[a]; exact p]
  ·refine(ok b u q).stay (λc v j r=>k c v ?_ r) (λc r=>by rw[zF (d c b r)]; rwa[r]) λc g r=>by rw[zF (f c g r)]; rwa[r]
   rcases j with rfl | j
   ·rwa[a]
   ·rintro rfl;rcases o with z | z
    ·rwa[d c b j z]
    ·rw[j] at z; cases z; rwa[l rfl]
end

structure Un(fs ex:List c5)(H H':Hp)(h h':v8):Prop where
 keep:∀ b o,h.get? b=O o->H b=IS->b ∉ fs->b ∉ ex->h'.get? b=O o
 slot:∀ b o,h.get? b=O o->H b=IS->b∈fs->b ∉ ex->∃ sl,h'.get? b=O { o with slots:=sl }
 free:∀ b o,h.get? b=O o->H b=IS->b ∉ ex->H' b=IS
 there:∀ b o,h.get? b=O o->b ∉ ex->∃ o',h'.get? b=O o'
 tups:∀ b xs,H b=O (.tup xs)->H' b=O (.tup xs)
 frzs:∀ b o u,H b=O (.frz o u)->H' b=O (.frz o u)
 tbls:∀ b ps,H b=O (.tbl ps)->∃ more,H' b=O (.tbl (ps++more))
section
variable{fs fs' ex ex':List c5}{H H1 H2:Hp}{h h1 h2 h':v8}{a x e:c5}{o:HO}
def Un.any(u:Un fs ex H H1 h h1)(q:h.get? b=O ob)(n:H b=IS)(c:b ∉ ex):∃ f,h1.get? b=O { ob with slots:=f }:=by
 by_cases d:b∈fs
 ·rwa[u.slot b ob q n d c]
 ·rwa[ob.slots,u.keep b ob q n d c]
def Un.kept(k:∀ b u,h.get? b=O u->h'.get? b=O u):Un fs ex H H h h' :=
 ⟨λb ob q _ _ _=>k b ob q,λb ob q _ _ _=>⟨ob.slots,k b ob q⟩,λ_ _ _ n _=>n,λb ob q _=>⟨ob,k b ob q⟩,λ_ _ q=>q,λ_ _ _ q=>q,λ_ c q=>⟨#[],by rw[q]; simp⟩⟩
def Un.refl:Un fs ex H H h h:=Un.kept λ_ _ q=>q
def Un.laid(k:∀ b u,h.get? b=O u->h'.get? b=O u)(f:h.objs.size<=a)(c:H a=IS):Un fs ex H (upd H a o) h h' where
 keep:=λb u q _ _ _=>k b u q
 slot:=λb u q _ _ _=>⟨u.slots,k b u q⟩
 free:=λb u q n _=>by rw[zF (j9 (m7 (g6 q) f))]; rwa[n]
 there:=λb u q _=>⟨u,k b u q⟩
 tups:=λb d q=>by rw[zF (zH q c)]; rwa[q]
 frzs:=λb u d q=>by rw[zF (zH q c)]; rwa[q]
 tbls:=λb g q=>⟨#[],by rw[zF (zH q c),q]; simp⟩
def Un.write(d:Mut (H x))(m:e=x\/H e=O (.own x))(k:∀ b u,b≠e->h.get? b=O u->h'.get? b=O u)(g:∃ u,h'.get? e=O u):Un fs ex H (upd H x o) h h':=by
 have i:∀ b,H b=IS->b≠x:=λb n z=>by subst z; rw[n] at d; rwa[d]
 have j:∀ b,H b=IS->b≠e:=λb n z=>by
  subst z;rcases m with r | r
  ·rwa[i b n r]
  ·rw[n] at r; cases r
 have f:∀ b u,H b=O u->¬ Mut (O u)->b≠x:=λb u q nm z=>by subst z; rw[q] at d; rwa[nm d]
 refine⟨λb u q n _ _=>k b u (j b n) q,λb u q n _ _=>⟨u.slots,k b u (j b n) q⟩,λb u q n _=>by rw[zF (i b n)]; exact n,λb u q _=>?_,
  λb l q=>by rw[zF (f b _ q λz=>z)]; exact q,λb u l q=>by rw[zF (f b _ q λz=>z)]; exact q,λb p q=>⟨#[],by rw[zF (f b _ q λz=>z),q]; simp⟩⟩
 by_cases c:b=e
 ·subst c; rwa[g]
 ·rwa[u,k b u c q]
end

def trk(h:v8)(H:Hp):List c5:=(AK h.objs.size).filter λa=>(H a).isSome
def Yz(h:v8)(H:Hp):v8:=Fl h (trk h H)
def cW(h:v8)(H:Hp):(Yz h H).objs.size=h.objs.size:=PySem.W.hideAll_size _ _
def Xx{h:v8}{H:Hp}(e:h.get? b=O o)(n:H b=IS):(Yz h H).get? b=O o :=
 FT _ e λa=>by
  have q:(H b).isSome=true:=(Bw.mp a).2;rw[n] at q; simp at q
def We{H:Hp}(e:(Yz h H).get? b=O o):h.get? b=O o/\H b=none:=by
 have a:h.get? b=O o:=F3 (trk h H) e;exists a;cases q:H b with
 | none=>rfl
 | some x =>
  have c:b∈trk h H:=Bw.mpr ⟨Cv.mpr (g6 a),by simp[q]⟩;have z:(Yz h H).get? b=none:=PySem.W.hideAll_none (trk h H) c;rw[z] at e; cases e

end L2

namespace L2

structure Mod(K:b9)(mg:g8->Option c6)(base:v8):Prop where
 kin:K.In base
 glob:base.Ns mainGlobals mg
 blt:∃ mb,base.Ns builtinsNs mb/\∀ x:g8,x ≠ "__name__" -> mb x=bootBuiltins x
 nolimit:base.NoLimit

structure Cx where
 prog:j7
 w:m9
 K:b9
 mg:g8->Option c6
 base:v8
 A:Aq
 N:List g8
 s₀:d8
 H₀:Hp
 env:D9
 outer:List D9
 stack:List D9
 ex:List c5
 fn:g8->Bool
 calm:Bool
 pn:List (c5×BD)
 xe:c6->d8->Prop
def frs(l:List D9):List c5:=l.filterMap (·.frame)
abbrev Cx.fs(X:Cx):List c5:=frs X.outer

def Vis(a:Dy)(x:g8):Prop:=a.names.lookup x=O .local\/a.names.lookup x=O .cell\/a.names.lookup x=O .free
def Loc(a:Dy)(x:g8):Prop:=a.names.lookup x=O .local\/a.names.lookup x=O .cell
def Look(env:D9)(h:v8)(m:g8->Option c6)(x:g8)(u:c6):Prop :=
 (env.kindOf x=O .local/\m x=O u)\/((env.kindOf x=O .cell\/env.kindOf x=O .free)/\∃ c,env.cells.lookup x=O c/\h.IsCell c (O u))

structure Cx.Ok(X:Cx):Prop where
 mod:Mod X.K X.mg X.base
 kind:X.env.scope.kind=.function
 glob:X.env.globals=mainGlobals
 blt:X.env.builtins=builtinsNs
 above:X.s₀.heap.objs.size<=X.env.locals
 inj:∀ x y c,X.env.cells.lookup x=O c->X.env.cells.lookup y=O c->x=y
 has:∀ x,(X.env.kindOf x=O .cell\/X.env.kindOf x=O .free)->∃ c,X.env.cells.lookup x=O c
 cab:∀ x c,X.fn x=IT->X.env.cells.lookup x=O c->X.s₀.heap.objs.size<=c
 hd:X.calm=IT->X.A.handled=IS
 frames:X.A.frames=O X.stack
 stk:X.stack=X.outer\/(X.stack=X.env::X.outer/\X.env.frame=O X.env.locals)
 exf:∀ b∈X.ex,b≠X.env.locals/\∀ x c,X.env.cells.lookup x=O c->c≠b
 bs:∀ b o,X.base.get? b=O o->X.s₀.heap.get? b=O o/\X.H₀ b=IS
 bsz:X.base.objs.size<=X.s₀.heap.objs.size
 noex:∀ b o,X.base.get? b=O o->b ∉ X.ex
 exfs:∀ b∈X.ex,b ∉ X.fs
 funs:X.s₀.heap.FunFrames X.base X.outer
 frf:∀ b∈X.fs,X.H₀ b=IS

structure Inv(X:Cx)(IV:List (c5×BD))(σ:List (Option V))(H:Hp)(s:d8):Prop where
 ok:X.Ok
 os:s.os=X.s₀.os
 bare:DY s.gens
 base:Un X.fs X.ex X.H₀ H X.s₀.heap s.heap
 loc:∃ m,s.heap.Ns X.env.locals m/\∀(i:Nat)(x:g8)(v:V),X.N[i]?=O x->σ[i]?=O (O v)->Vis X.env.scope x->∃ u,xI v u/\Look X.env s.heap m x u
 cell:∀ x c,X.env.cells.lookup x=O c->∃ v,s.heap.IsCell c v
 free:H X.env.locals=IS
 freeC:∀ x c,X.env.cells.lookup x=O c->H c=IS
 pin:∀ p∈X.pn++IV,s.heap.get? p.1=O p.2/\H p.1=IS/\p.1≠X.env.locals/\p.1 ∉ X.fs/\∀ v,p.2.data≠.cell v
 hok:HOk X.prog X.w H s.heap
 len:σ.length=X.N.length

section
variable{X:Cx}{IV:List (c5×BD)}{σ:List (Option V)}{H H':Hp}{s:d8}{h':v8}

def Cx.Ok.nofr(ok:X.Ok)(e:X.base.get? b=O o):b ∉ X.fs:=λa=>by
 have:=(ok.funs.mem a).1;rw[e] at this; cases this
def Inv.bs(I:Inv X IV σ H s):∀ b o,X.base.get? b=O o->s.heap.get? b=O o/\H b=none:=λb o e =>
 ⟨I.base.keep b o (I.ok.bs b o e).1 (I.ok.bs b o e).2 (I.ok.nofr e) (I.ok.noex b o e),I.base.free b o (I.ok.bs b o e).1 (I.ok.bs b o e).2 (I.ok.noex b o e)⟩
def Inv.bk(I:Inv X IV σ H s):∀ b o,X.base.get? b=O o->s.heap.get? b=O o:=λb o e=>(I.bs b o e).1
def Inv.mod(I:Inv X IV σ H s):Mod X.K X.mg X.base:=I.ok.mod
def Inv.kIn(I:Inv X IV σ H s):X.K.In s.heap:=I.ok.mod.kin.keeps I.bk
def Inv.lt(I:Inv X IV σ H s):X.env.locals<s.heap.objs.size:=let ⟨_,hn,_⟩:=I.loc; hn.lt
def Inv.sz(I:Inv X IV σ H s):X.s₀.heap.objs.size<=s.heap.objs.size:=f8 I.ok.above (AV I.lt)
def Inv.nofs(I:Inv X IV σ H s){a:c5}(h:s.heap.objs.size<=a):a ∉ X.fs:=λd=>by
 obtain⟨_,o,c,_⟩:=I.ok.funs.mem d;rwa[x4 (m7 (g6 c) (f8 I.sz h)) (BE _)]
def Inv.cne(I:Inv X IV σ H s):∀ x c,X.env.cells.lookup x=O c->c≠X.env.locals:=λx c e z=>by
 obtain⟨v,o,f,hd⟩:=I.cell x c e;obtain⟨m,⟨g,h,i,a,d,_⟩,_⟩:=I.loc;rw[z,a] at f; cases f; rw[d] at hd; cases hd
def Inv.funs(I:Inv X IV σ H s):s.heap.FunFrames X.base X.outer:=by
 have all:∀(l:List D9),(∀ b∈frs l,b∈X.fs)->X.s₀.heap.FunFrames X.base l->s.heap.FunFrames X.base l:=by
  intro l
  induction l with
  | nil=>intro _ _; trivial
  | cons env r g =>
   intro f m;obtain⟨n,⟨L,o,a,j,i,hd⟩,h⟩:=m;have d:L∈X.fs:=f L (by unfold frs; rw[Bu,a]; rwa[Ab]);obtain⟨p,e⟩:=I.base.slot L o i (I.ok.frf L d) d λz=>I.ok.exfs L z d;rwa[n,⟨L,_,a,j,e,hd⟩,g (λb c=>f b (by unfold frs; rw[Bu,a]; exact x8 _ c)) h]
 rwa[all X.outer (λ_ c=>c) I.ok.funs]

def Inv.stack(I:Inv X IV σ H s):s.heap.FunFrames X.base X.stack:=by
 rcases I.ok.stk with e | ⟨e,c⟩
 ·rw[e]; rwa[I.funs]
 ·rw[e];obtain⟨m,a,_⟩:=I.loc;erw[.cons (by rw[I.ok.kind]; decide) c a ?_ I.funs];rwa[FE (f8 I.ok.bsz I.ok.above)]
def Inv.stkSub(I:Inv X IV σ H s):∀ b∈frs X.stack,b∈X.env.locals::X.fs:=λb a=>by
 rcases I.ok.stk with e | ⟨e,c⟩
 ·rw[e] at a; rwa[x8 _ a]
 ·rw[e] at a;unfold frs at a;rw[Bu,c] at a;rwa[a]
def Inv.stkFree(I:Inv X IV σ H s):∀ b∈frs X.stack,H b=none:=λb a=>by
 rcases j4.mp (I.stkSub b a) with e | a
 ·rw[e]; rwa[I.free]
 ·obtain⟨_,o,c,_⟩:=I.ok.funs.mem a;rwa[I.base.free b o c (I.ok.frf b a) λz=>I.ok.exfs b z a]

def Inv.step{g':Array Hc}{t':Nat}{d':Drawn}{ch:List c5}(I:Inv X IV σ H s)
  (g:∀ b∈ch,(b∈X.ex\/X.s₀.heap.objs.size<=b)/\b≠X.env.locals/\(∀ x c,X.env.cells.lookup x=O c->c≠b)/\∀ p∈X.pn++IV,p.1≠b)
  (keep:∀ b o,b≠X.env.locals->b ∉ X.fs->b ∉ ch->s.heap.get? b=O o->H b=IS->h'.get? b=O o)
  (slot:∀ b o,b≠X.env.locals->b∈X.fs->b ∉ ch->s.heap.get? b=O o->H b=IS->∃ M,h'.get? b=O { o with slots:=M }) (free:∀ b o,b ∉ ch->s.heap.get? b=O o->H b=IS->H' b=IS)
  (there:∀ b o,b ∉ ch->s.heap.get? b=O o->∃ D,h'.get? b=O D)
  (tups:∀ b A,H b=O (.tup A)->H' b=O (.tup A)) (frzs:∀ b o u,H b=O (.frz o u)->H' b=O (.frz o u)) (tbls:∀ b J,H b=O (.tbl J)->∃ more,H' b=O (.tbl (J++more)))
  (ns:∀ m,s.heap.Ns X.env.locals m->h'.Ns X.env.locals m) (hok:HOk X.prog X.w H' h') (Z:DY g') :
  Inv X IV σ H' { s with heap:=h',gens:=g',drawn:=d',toks:=t' }:=by
 have E:∀ b o,X.s₀.heap.get? b=O o->b≠X.env.locals:=λb o e=>j9 (m7 (g6 e) I.ok.above);have j:∀ b o,X.s₀.heap.get? b=O o->b ∉ X.ex->b ∉ ch:=λb o e a B=>by
  rcases (g b B).1 with z | z
  ·rwa[a z]
  ·rwa[x4 (m7 (g6 e) z) (BE _)]
 have h:∀ x c,X.env.cells.lookup x=O c->∀ v,s.heap.IsCell c v->h'.IsCell c v:=λx c e v ⟨o,C,hd⟩=>by
  have f:c ∉ ch:=λz=>(g c z).2.2.1 x c e rfl;by_cases Q:c∈X.fs
  ·obtain⟨M,q⟩:=slot c o (I.cne x c e) Q f C (I.freeC x c e);rwa[_,q,hd]
  ·rwa[o,keep c o (I.cne x c e) Q f C (I.freeC x c e),hd]
 erw[I.ok,I.os,Z,⟨λb o e n B a=>?_,λb o e n B a=>?_,λb o e n a=>?_,λb o e a=>?_,λb A e=>tups b A (I.base.tups b A e),λb o A e=>frzs b o A (I.base.frzs b o A e),λb J e=>?_⟩,?_,λx c e=>?_,?_,λx c e=>?_,λp P=>?_,hok,I.len]
 ·rwa[keep b o (E b o e) B (j b o e a) (I.base.keep b o e n B a) (I.base.free b o e n a)]
 ·obtain⟨M,y⟩:=I.base.slot b o e n B a;obtain⟨L,G⟩:=slot b _ (E b o e) B (j b o e a) y (I.base.free b o e n a);rwa[L,G]
 ·obtain⟨D,y⟩:=I.base.there b o e a;rwa[free b D (j b o e a) y (I.base.free b o e n a)]
 ·obtain⟨D,y⟩:=I.base.there b o e a;rwa[there b D (j b o e a) y]
 ·obtain⟨S,y⟩:=I.base.tbls b J e;obtain⟨R,G⟩:=tbls b _ y;rwa[S++R,by rw[G,Array.append_assoc]]
 ·obtain⟨m,T,Y⟩:=I.loc;erw[m,ns m T,λi x v y G e3=>?_];obtain⟨u,r,l⟩:=Y i x v y G e3;exists u,r;rcases l with l | ⟨k,c,e,z⟩
  ·rwa[.inl l]
  ·rwa[.inr ⟨k,c,e,h x c e _ z⟩]
 ·obtain⟨v,z⟩:=I.cell x c e;rwa[v,h x c e v z]
 ·obtain⟨m,⟨o,_,_,C,_⟩,_⟩:=I.loc;rwa[free _ o (λz=>(g _ z).2.1 rfl) C I.free]
 ·obtain⟨v,o,C,hd⟩:=I.cell x c e;rwa[free c o (λz=>(g c z).2.2.1 x c e rfl) C (I.freeC x c e)]
 ·obtain⟨e,n,ne,N,d⟩:=I.pin p P;have f:p.1 ∉ ch:=λz=>(g p.1 z).2.2.2 p P rfl;rwa[keep p.1 p.2 ne N f e n,free p.1 p.2 f e n,ne,N,d]
def Inv.un{t':Nat}(I:Inv X IV σ H s)(u:Un X.fs [] H H' s.heap h')(hok:HOk X.prog X.w H' h'):Inv X IV σ H' { s with heap:=h',toks:=t' }:=by
 obtain⟨m,⟨o,v,x,g,r⟩,_⟩:=id I.loc;obtain⟨l,j⟩:=u.any g I.free (by simp);exact I.step (g':=s.gens) (d':=s.drawn) (ch:=[]) (λ_ z=>nomatch z) (λb o _ c _ e n=>u.keep b o e n c (by simp)) (λb o _ c _ e n=>u.slot b o e n c (by simp)) (λb o _ e n=>u.free b o e n (by simp)) (λb o _ e=>u.there b o e (by simp)) u.tups u.frzs u.tbls (λq i=>by
  obtain⟨p,d,f,a,h⟩:=i;rw[g] at a; cases a;rwa[_,d,f,j,h]) hok I.bare
def Inv.call{g':Array Hc}{t':Nat}{d':Drawn}{ch:List c5}(I:Inv X IV σ H s)(u:Un (frs X.stack) ch H H' s.heap h')(hok:HOk X.prog X.w H' h')(v:DY g')
  (f:∀ b∈ch,(b∈X.ex\/X.s₀.heap.objs.size<=b)/\b≠X.env.locals/\(∀ x c,X.env.cells.lookup x=O c->c≠b)/\∀ p∈X.pn++IV,p.1≠b) :
  Inv X IV σ H' { s with heap:=h',gens:=g',drawn:=d',toks:=t' }:=by
 obtain⟨m,⟨o,D,E,j,r⟩,_⟩:=id I.loc;obtain⟨A,g⟩:=u.any j I.free λz=>(f _ z).2.1 rfl;exact I.step (ch:=ch) f (λb o g y a e n=>u.keep b o e n (λz=>(j4.mp (I.stkSub b z)).elim g y) a) (λb o _ _ a e n=>u.any e n a) (λb o a e n=>u.free b o e n a) (λb o a e=>u.there b o e a) u.tups u.frzs u.tbls (λC q=>by
  obtain⟨B,h,i,d,l⟩:=q;rw[j] at d; cases d;rwa[_,h,i,g,l]) hok v
def Inv.turned{t':Nat}{a:c5}(I:Inv X IV σ H s)(k:∀ b o,b≠a->s.heap.get? b=O o->h'.get? b=O o)(i:H a=IS)(g:a≠X.env.locals)
  (h1:a∈X.ex\/X.s₀.heap.objs.size<=a) (h2:∀ x c,X.env.cells.lookup x=O c->c≠a) (h3:∀ p∈X.pn++IV,p.1≠a):Inv X IV σ H { s with heap:=h',toks:=t' }:=by
 have f:∀ b u,H b=O u->b≠a:=λb u e z=>by rw[z,i] at e; cases e
 refine I.step (g':=s.gens) (d':=s.drawn) (ch:=[a]) (λb l=>?_) (λb o _ _ d e _=>k b o (λz=>d (by simp[z])) e) (λb o _ _ d e _=>⟨o.slots,k b o (λz=>d (by simp[z])) e⟩) (λ_ _ _ _ n=>n)
  (λb o d e=>⟨o,k b o (λz=>d (by simp[z])) e⟩) (λ_ _ e=>e) (λ_ _ _ e=>e) (λb A e=>⟨#[],by rw[e]; simp⟩) (λm j=>?_) (λb u e=>?_) I.bare
 ·have e:b=a:=by simpa using l
  subst e;rwa[h1,g,h2,h3]
 ·obtain⟨o,w,y,h,r⟩:=j;rwa[o,w,y,k _ o (AW g) h,r]
 ·refine(I.hok b u e).stay (λc v d q=>k c v ?_ q) (λ_ q=>q) λ_ _ q=>q;rcases d with z | z
  ·rw[z]; rwa[f b u e]
  ·rwa[f c _ z]
def Inv.tok(I:Inv X IV σ H s)(t:Nat):Inv X IV σ H { s with toks:=t }:=I.un (h':=s.heap) (t':=t) Un.refl I.hok
def Inv.kept{t':Nat}(I:Inv X IV σ H s)(k:∀ b u,s.heap.get? b=O u->h'.get? b=O u):Inv X IV σ H { s with heap:=h',toks:=t' }:=I.un (Un.kept k) (I.hok.kept k)
def Inv.laid{a:c5}{t':Nat}(I:Inv X IV σ H s)(k:∀ b u,s.heap.get? b=O u->h'.get? b=O u)(c:s.heap.objs.size<=a)(new:wC X.prog X.w (upd H a o) h' a o) :
  Inv X IV σ (upd H a o) { s with heap:=h',toks:=t' }:=I.un (Un.laid k c (I.hok.fresh c)) (I.hok.laid k c new)
def Inv.write{x e:c5}{t':Nat}(I:Inv X IV σ H s)(c:Mut (H x))(d:e=x\/H e=O (.own x))(k:∀ b u,b≠e->s.heap.get? b=O u->h'.get? b=O u)(a:∃ u,h'.get? e=O u)
  (new:wC X.prog X.w (upd H x o) h' x o):Inv X IV σ (upd H x o) { s with heap:=h',toks:=t' }:=I.un (Un.write c d k a) (I.hok.write c d k a new)
def Inv.pins_of{a:List (c5×BD)}(I:Inv X IV σ H s)(h:∀ p∈a,s.heap.get? p.1=O p.2/\H p.1=IS/\p.1≠X.env.locals/\p.1 ∉ X.fs/\∀ v,p.2.data≠.cell v):Inv X a σ H s :=
 ⟨I.ok,I.os,I.bare,I.base,I.loc,I.cell,I.free,I.freeC,λp c=>(i7.mp c).elim (λz=>I.pin p (Bk _ z)) (h p),I.hok,I.len⟩

def fA{N:List g8}(c:N.Nodup){i j:Nat}(a:N[i]?=O x)(b:N[j]?=O x):i=j:=by
 obtain⟨h1,e⟩:=c7.mp a;obtain⟨h2,d⟩:=c7.mp b;exact(GA c).mp (e.trans d.symm)

def cY{E:c6->d8->Prop}{i:Nat}{Q:Unit->d8->Prop}(I:Inv X IV σ H s)(hN:X.N.Nodup)(hi:X.N[i]?=O x)(C:Loc X.env.scope x)(r:xI v u)
  (h:∀ s',Inv X IV (σ.set i (O v)) H s'->(∃ a,Bq a s.heap s'.heap/\(a=X.env.locals\/X.env.cells.lookup x=O a))->Q () s') (hf:X.fn x=IT\/X.env.scope.names.lookup x=O .local:=by first | exact .inl rfl | exact .inr rfl | assumption):wpAny M A (storeName X.env x u) Q E s:=by
 obtain⟨m,hn,hl⟩:=id I.loc;have Z:(X.env.scope.kind == .class||(X.env.scope.kind == .module&&X.env.locals != X.env.globals))=false:=by rw[I.ok.kind]; rfl
 have L:i<σ.length:=by rw[I.len]; exact(c7.mp hi).1
 have cne:=I.cne;have g:∀{a:c5}{h':v8},(∃ o,s.heap.get? a=O o/\H a=IS)->Bq a s.heap h'->HOk X.prog X.w H h':=λ{a h'} ha f b ob e=>by
  obtain⟨_,_,D⟩:=ha;refine(I.hok b ob e).stay (λc w' B q=>(f.2 c ?_).trans q) (λ_ q=>q) λ_ _ q=>q;rintro rfl;rcases B with rfl | B
  ·rw[D] at e; cases e
  ·rw[D] at B; cases B
 rcases C with J | J
 ·erw[wpAny_storeName_local J hn (λh' hn' f=>?_) Z];obtain⟨oL,_,_,hoL,_⟩:=id hn;refine h _ ⟨I.ok,I.os,I.bare,⟨λb o e n S C=>?_,λb o e n S C=>?_,I.base.free,λb o e C=>?_,I.base.tups,I.base.frzs,I.base.tbls⟩,⟨_,hn',λj y v' l G e3=>?_⟩,λy c e=>?_,I.free,I.freeC,λp hp=>?_,g ⟨oL,hoL,I.free⟩ f,by simpa using I.len⟩ ⟨_,f,.inl rfl⟩
  ·exact(f.2 b (j9 (m7 (g6 e) I.ok.above))).trans (I.base.keep b o e n S C)
  ·obtain⟨sl,l⟩:=I.base.slot b o e n S C;rwa[sl,(f.2 b (j9 (m7 (g6 e) I.ok.above))).trans l]
  ·obtain⟨o',l⟩:=I.base.there b o e C;rwa[o',(f.2 b (j9 (m7 (g6 e) I.ok.above))).trans l]
  ·by_cases P:j=i
   ·subst P;rw[hi] at l; cases l;rw[Dp L] at G;cases G;rwa[u,r,.inl ⟨J,by simp⟩]
   ·rw[FF (AW P)] at G;obtain⟨u',r',q⟩:=hl j y v' l G e3;exists u',r';rcases q with ⟨k,e⟩ | ⟨k,c,e,z⟩
    ·erw[.inl ⟨k,?_⟩];have:y≠x:=λe=>P (fA hN l (e ▸ hi));simp[this,e]
    ·rwa[.inr ⟨k,c,e,z.sameBut f (cne y c e)⟩]
  ·obtain⟨w',z⟩:=I.cell y c e;rwa[w',z.sameBut f (cne y c e)]
  ·obtain⟨e,n,ne,nf,d⟩:=I.pin p hp;rwa[(f.2 p.1 ne).trans e,n,ne,nf,d]
 ·have R:X.fn x=true:=by
   rcases hf with z | z
   ·rwa[z]
   ·rw[z] at J; cases J
  obtain⟨c,B⟩:=I.ok.has x (.inl J);obtain⟨w',z⟩:=I.cell x c B;erw[wpAny_storeName_cell I.ok.kind J B z (λh' hc' f=>?_)];obtain⟨oc,Y,T⟩:=id z;refine h { s with heap:=h' } ⟨I.ok,I.os,I.bare,⟨λb o e n S C=>?_,λb o e n S C=>?_,I.base.free,λb o e C=>?_,I.base.tups,I.base.frzs,I.base.tbls⟩,⟨m,hn.sameBut f (AW (cne x c B)),λj y v' l G e3=>?_⟩,λy c' e=>?_,I.free,I.freeC,λp hp=>?_,g ⟨oc,Y,I.freeC x c B⟩ f,by simpa using I.len⟩ ⟨c,f,.inr B⟩
  ·exact(f.2 b (j9 (m7 (g6 e) (I.ok.cab x c R B)))).trans (I.base.keep b o e n S C)
  ·obtain⟨sl,l⟩:=I.base.slot b o e n S C;rwa[sl,(f.2 b (j9 (m7 (g6 e) (I.ok.cab x c R B)))).trans l]
  ·obtain⟨o',l⟩:=I.base.there b o e C;rwa[o',(f.2 b (j9 (m7 (g6 e) (I.ok.cab x c R B)))).trans l]
  ·by_cases P:j=i
   ·subst P;rw[hi] at l; cases l;rw[Dp L] at G;cases G;rwa[u,r,.inr ⟨.inl J,c,B,hc'⟩]
   ·rw[FF (AW P)] at G;obtain⟨u',r',q⟩:=hl j y v' l G e3;exists u',r';rcases q with q | ⟨k,c',e,z'⟩
    ·rwa[.inl q]
    ·erw[.inr ⟨k,c',e,z'.sameBut f ?_⟩];rintro rfl;rwa[P (fA hN l (I.ok.inj _ _ _ e B ▸ hi))]
  ·by_cases hcc:c'=c
   ·subst hcc; rwa[_,hc']
   ·obtain⟨w2,z2⟩:=I.cell y c' e;rwa[w2,z2.sameBut f hcc]
  ·obtain⟨e,n,ne,nf,d⟩:=I.pin p hp;erw[(f.2 p.1 ?_).trans e,n,ne,nf,d];intro q;rw[q,Y] at e;have q':oc=p.2:=o8 e;rwa[d w' (by rw[<- q']; exact T)]
def qN{E:c6->d8->Prop}{i:Nat}{Q:Unit->d8->Prop}(I:Inv X IV σ H s)(e:X.N.Nodup)(hi:X.N[i]?=O x)(c:Loc X.env.scope x)(r:xI v u)
  (h:∀ a,Inv X IV (σ.set i (O v)) H a->Q () a) (d:X.fn x=IT\/X.env.scope.names.lookup x=O .local:=by first | exact .inl rfl | exact .inr rfl | assumption):wpAny M A (storeName X.env x u) Q E s :=
 cY I e hi c r (λa f _=>h a f) d
def Inv.call'{s':d8}(I:Inv X IV σ H s)(f:s'.os=s.os)(u:Un (frs X.stack) ch H H' s.heap s'.heap)(hok:HOk X.prog X.w H' s'.heap)(g:DY s'.gens)
  (a:∀ b∈ch,(b∈X.ex\/X.s₀.heap.objs.size<=b)/\b≠X.env.locals/\(∀ x c,X.env.cells.lookup x=O c->c≠b)/\∀ p∈X.pn++IV,p.1≠b):Inv X IV σ H' s':=by
 obtain⟨h',g',d',t',d⟩:=s';have e:d=s.os:=f;subst e;rwa[I.call (g':=g') (t':=t') (d':=d') u hok g a]
end

abbrev XK:=c6->Option c5->Hp->Prop
abbrev St:=List (Option V)
abbrev VK:=V->Hp->Prop
abbrev TE:=St->Hp->VK->Prop
abbrev TT:=St->Hp->(Bool->Hp->Prop)->Prop
abbrev TA:=St->Hp->(List V->Hp->Prop)->Prop
structure cK where
 nx:St->Hp->Prop
 rt:VK
 bk:St->Hp->Prop:=λ_ _=>False
 ct:St->Hp->Prop:=λ_ _=>False
abbrev TS:=cK->St->Hp->Prop

def EP(X:Cx)(e:List (c5×BD))(c:St)(Q:VK)(u:c6)(d:d8):Prop:=∃ v a,Inv X e c a d/\xI v u/\Q v a
def TP(X:Cx)(e:List (c5×BD))(c:St)(Q:Bool->Hp->Prop)(b:Bool)(d:d8):Prop:=∃ a,Inv X e c a d/\Q b a
def AP(X:Cx)(g:List (c5×BD))(d:St)(Q:List V->Hp->Prop)(e:List c6)(f:d8):Prop:=∃ a c,Inv X g d c f/\yS a e/\Q a c
def SP(X:Cx)(e:List (c5×BD))(D:cK)(f:Flow)(d:d8):Prop :=
 match f with
 | .next=>∃ a c,Inv X e a c d/\D.nx a c
 | .brk=>∃ a c,Inv X e a c d/\D.bk a c
 | .cont=>∃ a c,Inv X e a c d/\D.ct a c
 | .ret u=>∃ v a c,Inv X e a c d/\xI v u/\D.rt v c

def PE(X:Cx)(e:An)(t:TE):Prop :=
 ∀(c:List (c5×BD))(s:d8)(a:St)(H:Hp)(Q:VK),Inv X c a H s->t a H Q->wpAny (model X.prog X.w) X.A (eval e X.env) (EP X c a Q) X.xe s
def PT(X:Cx)(e:An)(t:TT):Prop :=
 ∀(c:List (c5×BD))(s:d8)(a:St)(H:Hp)(Q:Bool->Hp->Prop),Inv X c a H s->t a H Q->wpAny (model X.prog X.w) X.A (isTrue e X.env (eval e X.env)) (TP X c a Q) X.xe s
def PW(X:Cx)(e:An)(t:TT):Prop :=
 ∀(a:Ix c6)(d:List (c5×BD))(s:d8)(c:St)(H:Hp)(Q:Bool->Hp->Prop),Inv X d c H s->t c H Q->wpAny (model X.prog X.w) X.A (isTrue e X.env a) (TP X d c Q) X.xe s
def PW.pt(h:PW X e t):PT X e t:=h _
def PA(X:Cx)(d:List An)(t:TA):Prop :=
 ∀(pos:Dm)(c:List (c5×BD))(s:d8)(a:St)(H:Hp)(Q:List V->Hp->Prop),Inv X c a H s->t a H Q->wpAny (model X.prog X.w) X.A (spliced (backTo pos (starEach d X.env))) (AP X c a Q) X.xe s
def PS(X:Cx)(st:Ae)(t:TS):Prop :=
 ∀(c:List (c5×BD))(s:d8)(a:St)(H:Hp)(D:cK),Inv X c a H s->t D a H->wpAny (model X.prog X.w) X.A (exec st X.env) (SP X c D) X.xe s
def PSs(X:Cx)(st:List Ae)(t:TS):Prop :=
 ∀(c:List (c5×BD))(s:d8)(a:St)(H:Hp)(D:cK),Inv X c a H s->t D a H->wpAny (model X.prog X.w) X.A (execs st X.env) (SP X c D) X.xe s
def thn{c:Type}{t:Ix c}{Q d:c->d8->Prop}{M:IB}{A:Aq}{E:c6->d8->Prop}{s:d8}(h:wpAny M A t Q E s)(e:∀ a s,Q a s->d a s):wpAny M A t d E s:=Cm h e λ_ _ x=>x
end L2

namespace L2
section
variable{X:Cx}

def bin{a b:An}{o n:TE}(E:PE X a o)(D:PE X b n){j:List (c5×BD)}{s:d8}{c:St}{H:Hp}{R:V->V->Hp->Prop}(I:Inv X j c H s)(h:o c H λx l=>n c l λy d=>R x y d)
  {m:Type} {Q:m->d8->Prop} {f:c6->c6->Ix m}
  (C:∀ v u i x y d,Inv X j c d i->xI x v->xI y u->R x y d->wpAny (model X.prog X.w) X.A (f v u) Q X.xe i) :
  wpAny (model X.prog X.w) X.A (eval a X.env) (λv g=>wpAny (model X.prog X.w) X.A (eval b X.env) (λu e=>wpAny (model X.prog X.w) X.A (f v u) Q X.xe e) X.xe g) X.xe s:=by
 erw[thn (E j s c H _ I h) λv p ⟨x,l,J,r,B⟩=>?_];erw[thn (D j p c l _ J B) λu i ⟨y,d,G,q,z⟩=>?_];rwa[C v u i x y d G r q z]

inductive TVar(i:Nat)(σ:St)(H:Hp)(Q:VK):Prop where
 | mk (v:V) (e:σ[i]?=O (O v)) (q:Q v H)
def Uv(i:Nat):TE:=λa H Q=>TVar i a H Q
def tC(v:V):TE:=λ_ H Q=>Q v H
def Ul{i:Nat}(y:X.N[i]?=O x)(o:Vis X.env.scope x)(hd:(x ==("__debug__" : g8))=false:=by decide)(g:(x ==("__classdict__" : g8))=false:=by decide):PE X (.Name x pos) (Uv i):=by
 intro z s n H Q I h;obtain⟨v,e,h⟩:=h;obtain⟨m,p,w⟩:=I.loc;obtain⟨u,r,l⟩:=w i x v y e o;have f:EP X z n Q u s:=⟨v,H,I,r,h⟩;rcases l with ⟨d,q⟩ | ⟨d,c,j,a⟩
 ·rwa[Hd (wpAny_loadName_local I.ok.kind d p q f) hd]
 ·rcases d with d | d
  ·rwa[Hd (wpAny_loadName_cell I.ok.kind d j a f) hd]
  ·rwa[Hd (wpAny_loadName_free I.ok.kind d j a f g) hd]
def xV{i j pos} : PE X (.Constant (.int i) j pos) (tC (.int i)):=λ_ _ _ H _ I h=>wpAny_Constant_int ⟨.int i,H,I.tok _,⟨_,rfl⟩,h⟩
def kJ{b j pos} : PE X (.Constant (.bool b) j pos) (tC (.bl b)):=λ_ _ _ H _ I h=>Constant_bool ⟨.bl b,H,I,rfl,h⟩
def xq{j pos} : PE X (.Constant .none j pos) (tC .non):=λ_ _ _ H _ I h=>Constant_none ⟨.non,H,I,rfl,h⟩
def zU{x j pos} : PE X (.Constant (.str x) j pos) (tC (.str x)):=λ_ _ _ H _ I h=>F4 ⟨.str x,H,I.tok _,⟨_,rfl⟩,h⟩

def Gl(X:Cx)(x:g8):Prop:=X.env.kindOf x=O .globalImplicit
def yn{E:c6->d8->Prop}{a:St}{H:Hp}{Q:c6->d8->Prop}(I:Inv X e a H s)(d:Gl X x)(c:X.mg x=O u)(h:Q u s)
  (hd:(x ==("__debug__" : g8))=false:=by decide):wpAny (model X.prog X.w) X.A (eval (.Name x pos) X.env) Q E s :=
 Ea I.ok.kind d (Calls.loadGlobal_global (by rw[I.ok.glob]; rwa[I.mod.glob.keeps I.bk]) c h) hd
def mP{E:c6->d8->Prop}{a:St}{H:Hp}{Q:c6->d8->Prop}(I:Inv X g a H s)(f:Gl X x)(e:X.mg x=IS)(c:bootBuiltins x=O u)(h:Q u s)
  (d:x ≠ "__name__" := by decide) (hd:(x ==("__debug__" : g8))=false:=by decide):wpAny (model X.prog X.w) X.A (eval (.Name x pos) X.env) Q E s:=by
 obtain⟨i,h1,h2⟩:=I.mod.blt;rwa[Ea I.ok.kind f (Calls.loadGlobal_builtin (by rw[I.ok.glob]; exact I.mod.glob.keeps I.bk) e (by rw[I.ok.blt]; exact h1.keeps I.bk) ((h2 x d).trans c) h) hd]
def mv(e:Gl X x)(d:X.mg x=IS)(a:bootBuiltins x=O u)(r:xI v u)(c:x ≠ "__name__" := by decide)(hd:(x ==("__debug__" : g8))=false:=by decide):PE X (.Name x pos) (tC v) :=
 λ_ _ _ H _ I h=>mP I e d a ⟨v,H,I,r,h⟩ c hd

variable{a b:An}{ta tb:TE}{pos:Dm}
def PC(X:Cx)(g:Gc)(a b:An)(t:TE):Prop :=
 ∀(f:List (c5×BD))(s:d8)(e:St)(H:Hp)(Q:VK),Inv X f e H s->t e H Q ->
  wpAny (model X.prog X.w) X.A (eval a X.env) (λv d=>wpAny (model X.prog X.w) X.A (eval b X.env) (λu c=>wpAny (model X.prog X.w) X.A (compareOp g v u) (EP X f e Q) X.xe c) X.xe d) X.xe s
def tB(t:TE):TT:=λd H Q=>t d H λx e=>∃ c,x=.bl c/\Q c e
def UN{t:TE}(h:PC X c a b t)(h1:behindInMarks c b=false:=by first | exact nobehind _ (by decide) (by decide) | rfl):PE X (.Compare a [c] [b] pos) t:=λf s d H Q I e=>wpAny_Compare1 (h f s d H Q I e) h1
def cR{t:TE}(h:PC X e a b t)(h1:behindInMarks e b=false:=by first | exact nobehind _ (by decide) (by decide) | rfl):PT X (.Compare a [e] [b] pos) (tB t):=by
 intro l s f H Q I j;erw[Fv (thn (h l s f H _ I j) λv r h1=>thn h1 λu p h2=>thn h2 λc o ⟨x,n,m,g,i⟩=>?_) h1];obtain⟨d,rfl,q⟩:=i;cases g;rwa[Ba ⟨n,m,q⟩]
def pZ{t:TE}(h:PE X e t)(l:∀ c,isTrue e X.env c=(do let v <- c; standAt e.pos; holding [v] (truthy v)):=by intro _; rfl):PT X e (tB t):=by
 intro m s f H Q I j;erw[isTrue_plain (thn (h m s f H _ I j) λv p ⟨x,o,n,g,i⟩=>?_) (l _)];obtain⟨d,rfl,q⟩:=i;cases g;rwa[Ba ⟨o,n,q⟩]

variable{tA tB':TT}{rest:List An}
def tAnd(t u:TT):TT:=λd H Q=>t d H λc e=>if c=IT then u d e Q else Q IU e
def tOr(t u:TT):TT:=λd H Q=>t d H λc e=>if c=IT then Q IT e else u d e Q
def tNot(t:TT):TT:=λd H Q=>t d H λc e=>Q (!c) e
def Ve(f:PT X a tA):PW X (.BoolOp .And [a] pos) tA:=by
 intro i g s d H Q I h;erw[isTrue_and (thn (f g s d H Q I h) λc j e=>?_)];cases c with
 | true=>rwa[isTrue_and_nil e]
 | false=>rwa[e]
def lS(f:PT X a tA):PW X (.BoolOp .Or [a] pos) tA:=by
 intro i g s d H Q I h;erw[isTrue_or (thn (f g s d H Q I h) λc j e=>?_)];cases c with
 | false=>rwa[isTrue_or_nil e]
 | true=>rwa[e]
def Uj(n:PT X a tA)(m:PW X (.BoolOp .And (b::rest) pos) tB'):PW X (.BoolOp .And (a::b::rest) pos) (tAnd tA tB'):=by
 intro j f s d H Q I h;erw[isTrue_and (thn (n f s d H _ I h) λc l ⟨i,g,e⟩=>?_)];cases c with
 | true=>rwa[m j f l d i Q g e]
 | false=>rwa[i,g,e]
def gT(n:PT X a tA)(m:PW X (.BoolOp .Or (b::rest) pos) tB'):PW X (.BoolOp .Or (a::b::rest) pos) (tOr tA tB'):=by
 intro j f s d H Q I h;erw[isTrue_or (thn (n f s d H _ I h) λc l ⟨i,g,e⟩=>?_)];cases c with
 | true=>rwa[i,g,e]
 | false=>rwa[m j f l d i Q g e]
def sg(e:PT X a tA):PT X (.UnaryOp .Not a pos) (tNot tA):=by
 intro f s d H Q I h;rwa[isTrue_not (e f s d H (λc g=>Q (!c) g) I h)]
def tAndV(ta tb:TE):TE:=λd H Q=>ta d H λx e=>∃ c,x=.bl c/\if c=IT then tb d e Q else Q (.bl IU) e
def tNotV(ta:TE):TE:=λd H Q=>ta d H λx e=>∃ c,x=.bl c/\Q (.bl (!c)) e
def Xh{op}{t:TE}(h:PE X a t):PE X (.BoolOp op [a] pos) t:=λe s c H Q I d=>BoolOp_one (h e s c H Q I d)
def XM(n:PE X a ta)(m:PE X (.BoolOp .And (b::rest) pos) tb):PE X (.BoolOp .And (a::b::rest) pos) (tAndV ta tb):=by
 intro f s e H Q I h;erw[BoolOp_and (thn (n f s e H _ I h) λv j ⟨x,i,g,l,d⟩=>?_)];obtain⟨c,rfl,d⟩:=d;cases l;erw[Ba ?_];cases c with
 | true=>rwa[m f j e i Q g d]
 | false=>rwa[.bl IU,i,g,rfl,d]
def UV(g:PE X a ta):PE X (.UnaryOp .Not a pos) (tNotV ta):=by
 intro i s e H Q I h;erw[UnaryOp_ (thn (g i s e H _ I h) λv m ⟨x,l,j,f,d⟩=>?_)];obtain⟨c,rfl,d⟩:=d;cases f;rwa[not_of (Ba ⟨.bl (!c),l,j,rfl,d⟩)]
def tIf(t:TT)(ta tb:TE):TE:=λd H Q=>t d H λc e=>if c=IT then ta d e Q else tb d e Q
def fS(m:PT X c tA)(o:PE X a ta)(n:PE X b tb):PE X (.IfExp c a b pos) (tIf tA ta tb):=by
 intro f s e H Q I h;erw[wpAny_IfExp (thn (m f s e H _ I h) λd g ⟨l,j,i⟩=>?_)];cases d with
 | true=>rwa[o f g e l Q j i]
 | false=>rwa[n f g e l Q j i]
end
end L2

namespace L2

def SqL(K:b9)(H:Hp)(a:c5)(xs:List V):Prop :=
 Rd H a (.lst xs) \/
  ∃(o:BD)(c:Array c6)(n:Nat),K.lookup a=O o/\o.cls=.type "list" /\ o.dict=IS/\o.data=.seq c n/\c.size<=sizeLine/\yS xs c.toList
def SqT(K:b9)(H:Hp)(a:c5)(d:List V):Prop :=
 Rd H a (.tup d) \/
  ∃(o:BD)(c:Array c6)(n:Nat),K.lookup a=O o/\o.cls=.type "tuple" /\ o.data=.seq c n/\c.size<=sizeLine/\yS d c.toList
def absV:c6->Option V
 | .none=>O .non
 | .bool b=>O (.bl b)
 | .int i _=>O (.int i)
 | .str x _=>O (.str x)
 | .bytes b _=>O (.byt b)
 | .float b _=>O (.flt b)
 | .ref a=>O (.ref a)
 | .type n=>O (.ty n)
 | _=>IS
def xI.abs(r:xI x u):absV u=O x:=by
 cases x with
 | non=>cases r; rfl
 | bl _=>cases r; rfl
 | int _=>obtain⟨t,rfl⟩:=r; rfl
 | str _=>obtain⟨t,rfl⟩:=r; rfl
 | byt _=>obtain⟨t,rfl⟩:=r; rfl
 | flt _=>obtain⟨t,rfl⟩:=r; rfl
 | ref _=>cases r; rfl
 | ty _=>cases r; rfl
def xI.inj(r:xI x u)(q:xI y u):x=y:=o8 (r.abs.symm.trans q.abs)
def yS.inj:∀{c a:List V}{d:List c6},yS c d->yS a d->c=a
 | _,_,_,.nil,.nil=>rfl
 | _,_,_,.cons r t,.cons f e=>by rw[r.inj f,yS.inj t e]
section
variable{X:Cx}{IV:List (c5×BD)}{σ:St}{H:Hp}{s:d8}{a:c5}{xs ys:List V}
def SqL.of{K:b9}(h:H a=O (.lst xs)):SqL K H a xs:=.inl (.inl h)
def SqT.of{K:b9}(h:H a=O (.tup xs)):SqT K H a xs:=.inl (.inl h)
def Inv.list(I:Inv X IV σ H s)(h:SqL X.K H a xs):∃ c:List c6,yS xs c/\PlainL s.heap a c.toArray/\xs.length<=sizeLine:=by
 rcases h with h | ⟨o,c,n,f,g,hd,d,i,r⟩
 ·obtain⟨z,c,n,r,e⟩:=h.ok I.hok;rwa[c,r,⟨_,n,e,rfl,rfl,rfl⟩,z]
 ·exists c.toList,r,⟨o,n,I.kIn a o f,g,hd,by simpa using d⟩;have e:=r.length;simp only[Ap] at e;lia
def Inv.tuple(I:Inv X IV σ H s)(h:SqT X.K H a xs):∃ c:List c6,yS xs c/\IsTup s.heap a c.toArray/\xs.length<=sizeLine:=by
 rcases h with h | ⟨o,c,n,f,g,d,i,r⟩
 ·obtain⟨z,c,r,p⟩:=h.ok I.hok;rwa[c,r,p,z]
 ·exists c.toList,r,⟨o,I.kIn a o f,g,n,by simpa using d⟩;have e:=r.length;simp only[Ap] at e;lia
def Inv.list_inj(I:Inv X IV σ H s)(h:SqL X.K H a xs)(h':SqL X.K H a ys):xs=ys:=by
 obtain⟨f,r,⟨o,n,e,_,_,d⟩,_⟩:=I.list h;obtain⟨c,i,⟨j,l,g,_,_,d'⟩,_⟩:=I.list h';rw[e] at g; cases g;rw[d] at d';injection d' with d1 _
 have:f=c:=by simpa using congrArg Ik d1
 subst this;rwa[r.inj i]
def Inv.tuple_inj(I:Inv X IV σ H s)(h:SqT X.K H a xs)(h':SqT X.K H a ys):xs=ys:=by
 obtain⟨f,r,⟨o,e,_,n,d⟩,_⟩:=I.tuple h;obtain⟨c,i,⟨j,g,_,l,d'⟩,_⟩:=I.tuple h';rw[e] at g; cases g;rw[d] at d';injection d' with d1 _
 have:f=c:=by simpa using congrArg Ik d1
 subst this;rwa[r.inj i]
end

abbrev Cx.wish(X:Cx)(E:c6->d8->Prop):Cx:={ X with xe:=E }
abbrev Cx.nox(X:Cx):Cx:=X.wish λ_ _=>False
def Cx.Ok.wish{X:Cx}(ok:X.Ok)(E:c6->d8->Prop):(X.wish E).Ok :=
 ⟨ok.mod,ok.kind,ok.glob,ok.blt,ok.above,ok.inj,ok.has,ok.cab,ok.hd,ok.frames,ok.stk,ok.exf,ok.bs,ok.bsz,ok.noex,ok.exfs,ok.funs,ok.frf⟩
def Cx.Ok.unwish{X:Cx}{E:c6->d8->Prop}(ok:(X.wish E).Ok):X.Ok :=
 ⟨ok.mod,ok.kind,ok.glob,ok.blt,ok.above,ok.inj,ok.has,ok.cab,ok.hd,ok.frames,ok.stk,ok.exf,ok.bs,ok.bsz,ok.noex,ok.exfs,ok.funs,ok.frf⟩
section
variable{X:Cx}{IV:List (c5×BD)}{σ:St}{H:Hp}{s:d8}{E:c6->d8->Prop}
def Inv.wish(I:Inv X IV σ H s)(E:c6->d8->Prop):Inv (X.wish E) IV σ H s:=⟨I.ok.wish E,I.os,I.bare,I.base,I.loc,I.cell,I.free,I.freeC,I.pin,I.hok,I.len⟩
def Inv.unwish(I:Inv (X.wish E) IV σ H s):Inv X IV σ H s:=⟨I.ok.unwish,I.os,I.bare,I.base,I.loc,I.cell,I.free,I.freeC,I.pin,I.hok,I.len⟩
def SP.unwish(h:SP (X.wish E) IV D f d):SP X IV D f d:=by
 cases f with
 | next=>obtain⟨a,c,I,q⟩:=h; rwa[a,c,I.unwish,q]
 | brk=>obtain⟨a,c,I,q⟩:=h; rwa[a,c,I.unwish,q]
 | cont=>obtain⟨a,c,I,q⟩:=h; rwa[a,c,I.unwish,q]
 | ret u=>obtain⟨v,a,c,I,r,q⟩:=h; rwa[v,a,c,I.unwish,r,q]
def PSs.nox{st:List Ae}(h:PSs X.nox st t):PSs X st t:=λIV s σ H D I a =>
 Cm (h IV s σ H D (I.wish _) a) (λ_ _ q=>q.unwish) λ_ _ z=>AZ z
end

section
variable{X:Cx}{st:Ae}{rest:List Ae}{t u:TS}{e:An}{te:TE}{pos:Dm}
def tNext:TS:=λD a H=>D.nx a H
def tSeq(t u:TS):TS:=λD a H=>t { D with nx:=u D } a H
def zX:PSs X [] tNext:=λ_ _ a H _ I h=>DL ⟨a,H,I,h⟩
def zB(h1:PS X st t)(h2:PSs X rest u):PSs X (st::rest) (tSeq t u):=by
 intro c s d H D I h;refine GC (thn (h1 c s d H { D with nx:=u D } I h) λf g q=>?_);cases f with
 | next =>
  obtain⟨a,j,i,q⟩:=q;rwa[h2 c g a j D i q]
 | ret v=>rwa[q]
 | brk=>rwa[q]
 | cont=>rwa[q]
def zD(h1:PS X st t):PSs X [st] t:=by
 intro c s a H D I h;erw[GC (thn (h1 c s a H D I h) λf d q=>?_)];cases f with
 | next=>rwa[DL q]
 | ret v=>rwa[q]
 | brk=>rwa[q]
 | cont=>rwa[q]
def Inv.quiet{a:St}{H:Hp}(I:Inv X c a H s):interactive X.env=false:=by simp[interactive,I.ok.kind]
def tDrop(te:TE):TS:=λD a H=>te a H λ_ c=>D.nx a c
def yA(f:PE X e te)(d:swapsWith e IS pos.line X.env=pure false:=by rfl):PS X (.Expr e pos) (tDrop te):=by
 intro g s a H D I h;rwa[wpAny_Expr_any (thn (f g s a H _ I h) λv l ⟨x,j,i,m,c⟩=>⟨a,j,i,c⟩) I.quiet d]
def tRet(te:TE):TS:=λD a H=>te a H D.rt
def zM(f:PE X e te):PS X (.Return (O e) pos) (tRet te):=by
 intro g s a H D I h;rwa[wpAny_Return_some (thn (f g s a H _ I h) λv l ⟨x,j,i,c,d⟩=>⟨x,a,j,i,c,d⟩)]
def tIfS(c:TT)(t u:TS):TS:=λD a H=>c a H λb d=>if b=IT then t D a d else u D a d
def yO(o:PT X c i)(q:PSs X a t)(p:PSs X b u):PS X (.If c a b pos) (tIfS i t u):=by
 intro g s f H D I h;erw[wpAny_If (thn (o g s f H _ I h) λd j ⟨n,m,l⟩=>?_)];cases d with
 | true=>rwa[q g j f n D m l]
 | false=>rwa[p g j f n D m l]
def Tz:TS:=λ_ _ _=>False
def vA:PS X st Tz:=λ_ _ _ _ _ _ h=>h.elim
end

abbrev TG:=V->St->Hp->(St->Hp->Prop)->Prop
abbrev TGs:=List V->St->Hp->(St->Hp->Prop)->Prop
def PG(X:Cx)(a:An)(t:TG):Prop :=
 ∀(e:List (c5×BD))(s:d8)(d:St)(H:Hp)(v:V)(u:c6)(Q:St->Hp->Prop),Inv X e d H s->xI v u->t v d H Q ->
  wpAny (model X.prog X.w) X.A (assign a X.env u) (λ_ g=>∃ c f,Inv X e c f g/\Q c f) X.xe s
def PGs(X:Cx)(h:List An)(t:TGs):Prop :=
 ∀(f:List (c5×BD))(s:d8)(c:St)(H:Hp)(d:List V)(e:List c6)(Q:St->Hp->Prop),Inv X f c H s->yS d e->t d c H Q ->
  wpAny (model X.prog X.w) X.A (assignInOrder ((assignEach h X.env).map (·.2)) e) (λ_ i=>∃ a g,Inv X f a g i/\Q a g) X.xe s
abbrev Sg:=V->V->V->Hp->(Hp->Prop)->Prop
def PSet(X:Cx)(t:Sg):Prop :=
 ∀(e:List (c5×BD))(s:d8)(a:St)(H:Hp)(o i v:V)(c d u:c6)(Q:Hp->Prop),Inv X e a H s->xI o c->xI i d->xI v u->t o i v H Q ->
  wpAny (model X.prog X.w) X.A (setItem c d u) (λ_ g=>∃ f,Inv X e a f g/\Q f) X.xe s
section
variable{X:Cx}{pos:Dm}
def aD(i:Nat):TG:=λv a H Q=>Q (a.set i (O v)) H
def jz{i:Nat}(d:X.N.Nodup)(hi:X.N[i]?=O x)(a:Loc X.env.scope x)(c:X.fn x=IT\/X.env.scope.names.lookup x=O .local:=by first | exact .inl rfl | exact .inr rfl | assumption):PG X (.Name x pos) (aD i):=by
 intro j s f H v u Q I r h;rwa[wpAny_assign_Name (qN I d hi a r (λg e=>⟨_,H,e,h⟩) c)]
def gNil:TGs:=λc a H Q=>c=[]/\Q a H
def gCons(t:TG)(u:TGs):TGs:=λd c H Q=>E2 λv r=>d=v::r/\t v c H λa e=>u r a e Q
def xT:PGs X [] gNil:=by
 intro f s a H c d Q I r h;obtain⟨e,h⟩:=h;subst e;cases r;rwa[assignInOrder_nil ⟨a,H,I,h⟩]
def zT(h1:PG X e t)(h2:PGs X a u)
  (l:(assignEach (e::a) X.env).map (·.2)=assign e X.env::(assignEach a X.env).map (·.2):=by rfl):PGs X (e::a) (gCons t u):=by
 intro d s f H p w Q I r h;obtain⟨v,q,m,h⟩:=h;subst m;cases r with
 | cons r i =>
  rw[l];erw[assignInOrder_cons (thn (h1 d s f H _ _ _ I r h) λ_ g ⟨c,o,n,j⟩=>?_)];rwa[h2 d g c o _ _ Q n i j]
def gTup(K:b9)(n:Nat)(t:TGs):TG:=λv d H Q=>E2 λa c=>A4 (v=.ref a) (SqT K H a c) (c.length=n) (t c d H Q)
def uS{k:Nat}{n:Nat}(z:X.calm=IT)(h:PGs X c t)
  (x:(assignEach c X.env).length=n:=by rfl) (f:(assignEach c X.env).findIdx? (·.1)=none:=by rfl):PG X (.Tuple c k pos) (gTup X.K n t):=by
 intro j s g H v u Q I r d;obtain⟨a,l,B,w,y,d⟩:=d;subst B;cases r;obtain⟨m,i,q,D⟩:=I.tuple w;erw[assign_Tuple_tuple (I.ok.hd z) q (by simp[x,<- y,i.length]) f λA p=>?_];have C:Inv X j g H { s with heap:=A }:=I.kept (t':=s.toks) λb o e=>p b o (j9 (g6 e)) e;exact h j _ g H l _ Q C (by simpa using i) d
def gSub(to c:TE)(t:Sg):TG:=λv a H Q=>to a H λo f=>c a f λi e=>t o i v e λd=>Q a d
def UL{to f:TE}(z:PE X o to)(hi:PE X i f)(w:PSet X t)
  (A:∀ v,assign (.Subscript o i pos) X.env v=(do
   let a <- holding [v] (eval o X.env)
   let c <- holding [v,a] (eval i X.env)
   standAt pos
   holding [v,a,c] (setItem a c v)
   release [v,a,c] []):=by intro _; rfl):PG X (.Subscript o i pos) (gSub to f t):=by
 intro e s d H v u Q I r h;rw[A];erw[b7 (Bo (thn (z e s d H _ I h) λa j ⟨x,J,D,m,q⟩=>?_))];erw[b7 (Bo (thn (hi e j d J _ D q) λc g ⟨y,G,C,l,p⟩=>?_))];erw[b7 (EL (b7 (Bo (thn (w e g d G x y v a c u _ C m l r p) λ_ L ⟨E,B,n⟩=>?_))))];rwa[wpAny_release ⟨d,E,B,n⟩]
def Sh(c:TE)(g:TG):TS:=λD a H=>c a H λx d=>g x a d D.nx
def xo{d:TE}(p:PE X e d)(o:PG X a g)(n:swapsWithSole [a] e pos.line X.env=pure false:=by rfl)(m:swappedStores [a] e X.env=pure none:=by rfl)
  (h1:(assignEach [a] X.env).map (·.2)=[assign a X.env]:=by rfl):PS X (.Assign [a] e pos) (Sh d g):=by
 intro f s c H D I h;erw[wpAny_Assign_stores (thn (p f s c H _ I h) λv i ⟨x,u,r,j,l⟩=>?_) n m];rw[h1];rwa[thn (o f i c u x v _ r j l) λ_ w q=>q]
def aw{i:Nat}{c:TE}(o:X.N.Nodup)(hi:X.N[i]?=O x)(j:Loc X.env.scope x)(n:PE X e c)(l:swapsWith e (O (.Name x a)) pos.line X.env=pure false:=by rfl)(m:X.fn x=IT\/X.env.scope.names.lookup x=O .local:=by first | exact .inl rfl | exact .inr rfl | assumption) :
  PS X (.Assign [.Name x a] e pos) (Sh c (aD i)):=by
 intro p s d H D I h;erw[wpAny_Assign_Name (thn (n p s d H _ I h) λv z ⟨y,u,r,f,g⟩=>?_) l];rwa[qN r o hi j f (λw q=>⟨_,u,q,g⟩) m]
def tPar(i j:Nat)(d:TA):TS:=λD a H=>d a H λc e=>E2 λv w=>c=[v,w]/\D.nx ((a.set i (O v)).set j (O w)) e
def li{i j:Nat}{a b:An}{kt k2 pt2}(hc:X.calm=IT)(J:X.N.Nodup)(hi:X.N[i]?=O x)(hj:X.N[j]?=O y)(z:i≠j)
  (G:X.env.scope.names.lookup x=O .local) (E:X.env.scope.names.lookup y=O .local) (ha:PA X [a,b] C)
  (hw:swappedStores [.Tuple [.Name x r,.Name y n] kt pt] (.Tuple [a,b] k2 pt2) X.env=pure (O [x,y]))
  (hs:swapsWithSole [.Tuple [.Name x r,.Name y n] kt pt] (.Tuple [a,b] k2 pt2) pos.line X.env=pure false:=by rfl) :
  PS X (.Assign [.Tuple [.Name x r,.Name y n] kt pt] (.Tuple [a,b] k2 pt2) pos) (tPar i j C):=by
 intro M s B H D I h;rw[exec_Assign_arm];refine b7 (EL ?_);rw[hs];refine b7 (d9 ?_);rw[y6 (by decide)];refine b7 (Tuple_ (thn (ha _ M s B H _ I h) λR g ⟨vs,Q,I1,T,m⟩=>?_));obtain⟨v,w,e1,m⟩:=m;subst e1;obtain⟨f,d,rfl,S,l⟩:∃ f d,R=[f,d]/\xI v f/\xI w d:=by
  cases T with
  | cons p q =>
   cases q with
   | cons Z Y =>
    cases Y;rwa[_,_,rfl,p,Z]
 refine Ac ?_ (by show 2<=sizeLine; decide);have I2:Inv X M B Q { g with heap:=g.heap.push { cls:=.type "tuple",data:=.seq [f,d].toArray } }:=I1.kept (t':=g.toks) λb o e=>c8 _ e;rw[hw];erw[b7 (d9 ?_)];show wpAny (model X.prog X.w) X.A (do rule "assign.swapped-stores"; let c <- unpackItems (.ref g.heap.objs.size) 2 IS; assignInOrder [λv=>bindName X.env y v,λv=>bindName X.env x v] c.reverse; pure GD) _ _ _;erw[b7 (Eb (b7 (unpackItems_tuple (items:=#[f,d]) (I.ok.hd hc) (GE g.heap _) λL u=>?_)))];have I3:=I2.kept (h':=L) (t':=g.toks) λb o e=>u b o (j9 (g6 e)) e;show wpAny _ _ (assignInOrder [λv=>bindName X.env y v,λv=>bindName X.env x v] [d,f] >>= λ_=>pure GD) _ _ _;erw[b7 (assignInOrder_cons (Dq (qN I3 J hj (.inl E) l (λs2 I4=>?_) (.inr E))))];erw[assignInOrder_cons (Dq (qN I4 J hi (.inl G) S (λs3 P=>assignInOrder_nil (d9 ?_)) (.inr G)))];rw[EM _ _ (AW z)] at P;rwa[_,Q,P,m]
end

section
variable{X:Cx}{pos:Dm}
def XN(c:TT)(h:TS):TS:=λD a H=>∃ W:Nat->St->Hp->Prop,(∃ m,W m a H)/\∀ m a H,W m a H->c a H λb f=>if b=IT then ∃ N:St->Hp->Prop,(∀ d g,N d g->∃ e,e<m/\W e d g)/\h { D with nx:=N,ct:=N,bk:=D.nx } a f else D.nx a f
def pH(y:PassesOwn (model X.prog X.w) X.A X.env X.xe)(S:PT X c u)(T:PSs X body x):PS X (.While c body [] pos) (XN u x):=by
 intro q s J H D I h;obtain⟨W,⟨R,L⟩,g⟩:=h;erw[wpAny_While (codeAny_whileLoop (λn Q=>∃ e G,Inv X q e G Q/\W n e G) ?_ R ⟨J,H,I,L⟩)];rintro n P ⟨d,E,Y,w1⟩;erw[Ce y (thn (S q P d E _ Y (g n d E w1)) λb M ⟨C,B,l⟩=>?_)];cases b with
 | true =>
  obtain⟨N,z,l⟩:=l;rw[y7 rfl];erw[Ce y (thn (T q M d C _ B l) λf Z j=>?_)];cases f with
  | next =>
   obtain⟨a,i,r,n3⟩:=j;obtain⟨o,p,m⟩:=z a i n3;rwa[o,p,a,i,r,m]
  | cont =>
   obtain⟨a,i,r,n3⟩:=j;obtain⟨o,p,m⟩:=z a i n3;rwa[o,p,a,i,r,m]
  | brk=>rwa[j]
  | ret v=>rwa[j]
 | false =>
  rw[y6 i9];rwa[DL ⟨d,C,B,l⟩]
end

structure It where
 go:Nat->Hp->Prop
 yld:Nat->Hp->V->Hp->Prop
 stop:Nat->Hp->Prop
def bO(X:Cx)(a:List (c5×BD))(H:Hp)(b:c5):Prop :=
 H b=IS/\b≠X.env.locals/\b ∉ X.fs/\(b∈X.ex\/X.s₀.heap.objs.size<=b)/\(∀ x c,X.env.cells.lookup x=O c->c≠b)/\∀ p∈X.pn++a,p.1≠b
def Inv.fpOk{f:St}{H H':Hp}{b:c5}(I:Inv X d f H s)(a:s.heap.objs.size<=b)(h:H' b=IS):bO X d H' b:=by
 erw[h,Cz (m7 I.lt a),I.nofs a,.inr (f8 I.sz a),λx c e z=>?_,λp g z=>?_]
 ·obtain⟨v,q⟩:=I.cell x c e;rwa[x4 (m7 q.lt (by rw[z]; exact a)) (BE _)]
 ·rwa[x4 (m7 (g6 (I.pin p g).1) (by rw[z]; exact a)) (BE _)]
structure WS(P:j7)(w:m9)(K:b9)(tg:An)(J:It)(fp:List c5)(it:c5)(tn:Nat->v8->Prop):Prop where
 mem:it∈fp
 obj:∀ i h,tn i h->∀ b∈fp,∃ o,h.get? b=O o/\∀ v,o.data≠.cell v
 keep:∀ i h h',tn i h->(∀ b∈fp,∀ o,h.get? b=O o->h'.get? b=O o)->tn i h'
 item:∀(X:Cx),X.prog=P->X.w=w->X.K=K->X.calm=IT->∀(i:Nat)(IV:List (c5×BD))(s:d8)(σ:St)(H:Hp)(E:c6->d8->Prop),Inv X IV σ H s->(∀ b∈fp,bO X IV H b)->tn i s.heap->J.go i H ->
  wpAny (model P w) X.A (pyNext (.ref it)) (λr s1=>∃ u,r=O u /\
   wpAny (model P w) X.A (letOwnedTupleGo tg (.ref it) u) (λ_ s2=>∃ x H',Inv X IV σ H' s2/\xI x u/\J.yld i H x H'/\tn (i+1) s2.heap/\∀ b∈fp,H' b=IS) E s1) E s
 done:∀(X:Cx),X.prog=P->X.w=w->X.K=K->X.calm=IT->∀(i:Nat)(IV:List (c5×BD))(s:d8)(σ:St)(H:Hp)(E:c6->d8->Prop),Inv X IV σ H s->(∀ b∈fp,bO X IV H b)->tn i s.heap->J.stop i H ->
  wpAny (model P w) X.A (pyNext (.ref it)) (λr s1=>r=IS/\Inv X IV σ H s1) E s
 self:∀(A:Aq)(i:Nat)(s:d8)(Q:c6->d8->Prop)(E:c6->d8->Prop),tn i s.heap->Q (.ref it) s->wpAny (model P w) A (pyIter (.ref it)) Q E s
abbrev TI:=St->Hp->(It->Hp->Prop)->Prop
def PIE(X:Cx)(f:List (c5×BD))(g:St)(h:An)(R:It->Hp->Prop)(a:c6)(d:d8):Prop :=
 ∃(e:c5)(fp:List c5)(tn:Nat->v8->Prop)(J:It)(c:Hp),a=.ref e/\Inv X f g c d/\WS X.prog X.w X.K h J fp e tn/\tn 0 d.heap/\(∀ b∈fp,bO X f c b)/\R J c
def PI(X:Cx)(e iter:An)(d:TI):Prop :=
 ∀(c:List (c5×BD))(s:d8)(a:St)(H:Hp)(R:It->Hp->Prop),Inv X c a H s->d a H R ->
  wpAny (model X.prog X.w) X.A (eval iter X.env) (λv f=>wpAny (model X.prog X.w) X.A (pyIter v) (PIE X c a e R) X.xe f) X.xe s

def ZA{E:c6->d8->Prop}{s:d8}{Q:Unit->d8->Prop}(f:s.heap.get? e=O o)(i:o.cls=.type n)(hd:o.data=.fields c)
  (g:["enumerate","zip","dict_itemiterator","dict_reverseitemiterator","odict_iterator","itertools.zip_longest","itertools.pairwise"].contains n=IU) (a:Q () s):wpAny M A (letOwnedTupleGo d (.ref e) u) Q E s:=by
 unfold letOwnedTupleGo;cases d <;> first
  | exact d9 a
  | (cases u <;> first
    | exact d9 a
    | (refine b7 (wpAny_load f ?_)
       rw[i,hd];show wpAny M A (if (["enumerate","zip","dict_itemiterator","dict_reverseitemiterator","odict_iterator","itertools.zip_longest","itertools.pairwise"].contains n&&c[0]? == O (rawInt _))=IT then _ else _) Q E s;rw[y6 (by intro h; rw[g,He] at h; cases h)];rwa[d9 a]))

def Itl(K:b9)(a:c5):It :=
 ⟨λi H=>∃ c x,SqL K H a c/\c[i]?=O x,λi H x d=>d=H/\∀ c,SqL K H a c->c[i]?=O x,λi H=>∃ c,SqL K H a c/\c.length<=i⟩
def Itt(K:b9)(a:c5):It :=
 ⟨λi H=>∃ c x,SqT K H a c/\c[i]?=O x,λi H x d=>d=H/\∀ c,SqT K H a c->c[i]?=O x,λi H=>∃ c,SqT K H a c/\c.length<=i⟩
def Itr(lo:Int)(n:Nat):It:=⟨λi _=>i<n,λi H x a=>a=H/\x=.int (lo+i),λi _=>n<=i⟩
def iI{K:b9}(a f:c5):WS P w K Y (Itl K a) [f] f (λi h=>h.IsListIter f a i) where
 mem:=by simp
 obj:=λi h st b g=>by
  have e:b=f:=by simpa using g
  subst e;obtain⟨o,e,c,d⟩:=st;exact⟨o,e,λv z=>by rw[d] at z; cases z⟩
 keep:=λi h n st k=>st.at λo e=>k f (by simp) o e
 item:=by
  intro X C A D R i S s Q H E I m st B;subst C A D;obtain⟨T,x,l,y⟩:=B;obtain⟨r,q,p,hz⟩:=I.list l;obtain⟨u,hu,ru⟩:=q.get y;obtain⟨N,M,f2,L,J,G⟩:=m f (by simp);refine wpAny_pyNext_list_item st p.isList (x:=u) (by simpa using hu) λn j Z=>?_;have I1:Inv X S Q H { s with heap:=n }:=I.turned (t':=s.toks) (λb o g e=>(Z.2 b g).trans e) N M L J G;obtain⟨o,e,c,d⟩:=id j;exact⟨u,U,ZA (s:={ s with heap:=n }) e c d (by decide) ⟨x,H,I1,ru,⟨U,λys hy=>by rw[I.list_inj hy l]; rwa[y]⟩,j,λb g=>(m b g).1⟩⟩
 done:=by
  intro X C A D R i S s Q H E I m st B;subst C A D;obtain⟨T,l,y⟩:=B;obtain⟨r,q,p,hz⟩:=I.list l;obtain⟨N,M,f2,L,J,G⟩:=m f (by simp);have hl:=q.length;rwa[wpAny_pyNext_list_end (I.ok.hd R) st p.isList (by simp; lia) λn eb=>⟨rfl,I.turned (t':=s.toks) (λb o g e=>eb b o g e) N M L J G⟩]
 self:=λ_ _ _ _ _ st h=>wpAny_pyIter_listiter st h
def df{K:b9}(a g:c5):WS P w K Y (Itt K a) [g] g (λi h=>h.IsTupleIter g a i) where
 mem:=by simp
 obj:=λi h st b j=>by
  have e:b=g:=by simpa using j
  subst e;obtain⟨o,e,c,d⟩:=st;exact⟨o,e,λv z=>by rw[d] at z; cases z⟩
 keep:=λi h q st k=>st.at λo e=>k g (by simp) o e
 item:=by
  intro X C A D R i S s Q H E I n st B;subst C A D;obtain⟨T,x,m,y⟩:=B;obtain⟨f,r,p,hz⟩:=I.tuple m;obtain⟨u,hu,ru⟩:=r.get y;obtain⟨N,M,f2,L,J,G⟩:=n g (by simp);refine wpAny_pyNext_tuple_item st (show s.heap.IsTuple a f.toArray from p) (x:=u) (by simpa using hu) λq l Z=>?_;have I1:Inv X S Q H { s with heap:=q }:=I.turned (t':=s.toks) (λb o j e=>(Z.2 b j).trans e) N M L J G;obtain⟨o,e,c,d⟩:=id l;exact⟨u,U,ZA (s:={ s with heap:=q }) e c d (by decide) ⟨x,H,I1,ru,⟨U,λys hy=>by rw[I.tuple_inj hy m]; rwa[y]⟩,l,λb j=>(n b j).1⟩⟩
 done:=by
  intro X C A D R i S s Q H E I n st B;subst C A D;obtain⟨T,m,y⟩:=B;obtain⟨f,r,p,hz⟩:=I.tuple m;obtain⟨N,M,f2,L,J,G⟩:=n g (by simp);have hl:=r.length;exact wpAny_pyNext_tuple_end (I.ok.hd R) st (show s.heap.IsTuple a f.toArray from p) (by simp; lia) λq eb=>⟨rfl,I.turned (t':=s.toks) (λb o j e=>eb b o j e) N M L J G⟩
 self:=λ_ _ _ _ _ st h=>wpAny_pyIter_tupleiter st h
def dh{K:b9}(a:c5)(lo:Int)(n:Nat):WS P w K J (Itr lo n) [a] a (λi h=>IsRangeIter h a (lo+(i:Nat)*1) ((n:Int)-(i:Nat)) 1) where
 mem:=by simp
 obj:=λi h st b c=>by
  have e:b=a:=by simpa using c
  subst e;exact⟨_,st,λv z=>by
   have G:Data.fields _=Data.cell v:=z;cases G⟩
 keep:=λi h g st k=>k a (by simp) _ st
 item:=by
  intro X p j q m i D s B H E I f st l;subst p j q;obtain⟨A,y,N,x,u,r⟩:=f a (by simp);have W:=Walks.range (prog:=X.prog) (w:=X.w) (I.ok.hd m) a lo 1 n;erw[W.item i s _ _ l st λv g C M d L=>?_];obtain⟨t,rfl⟩:=M;have R:Inv X D B H { s with heap:=g,toks:=C }:=I.turned (λb o c e=>L b o (by simpa using c) e) A y x u r;refine⟨_,U,ZA (s:={ s with heap:=g,toks:=C }) (n := "range_iterator") d rfl rfl (by decide) ⟨.int (lo+i),H,R,⟨t,?_⟩,⟨U,U⟩,d,λb c=>(f b c).1⟩⟩;rw[FG]
 done:=by
  intro X p j q m i D s B H E I f st l;subst p j q;obtain⟨A,y,N,x,u,r⟩:=f a (by simp);exact wpAny_pyNext_range_end (I.ok.hd m) st (by have:n<=i:=l; lia) λg Q=>⟨rfl,I.turned (t':=s.toks) (λb o c e=>Q b o c e) A y x u r⟩
 self:=λ_ _ _ _ _ st h=>wpAny_pyIter_rangeiter st h
end L2

namespace L2
section
variable{X:Cx}{tg:An}
def iList(K:b9)(f:TE):TI:=λd H R=>f d H λx c=>∃ a,A3 (x=.ref a) (∃ e,SqL K c a e) (R (Itl K a) c)
def ff{f:TE}(r:PE X l f):PI X tg l (iList X.K f):=by
 intro w s g H R I h;erw[thn (r w s g H _ I h) λv c ⟨x,y,d,i,j⟩=>?_];obtain⟨a,e,⟨z,n⟩,q⟩:=j;subst e;cases i;obtain⟨m,A,p,B⟩:=d.list n;erw[Cj p.isList ?_];erw[c.heap.objs.size,[c.heap.objs.size],_,_,y,rfl,d.kept (t':=c.toks) λb o e=>c8 _ e,iI a _,⟨_,f9 _ rfl,rfl,rfl⟩,λb u=>?_,q];have e:b=c.heap.objs.size:=by simpa using u
 subst e;rwa[d.fpOk (f6 _) (d.hok.fresh (f6 _))]
def YQ{a:St}{H:Hp}{R:It->Hp->Prop}{E:c6->d8->Prop}{lo hi:Int}{c:Nat}(I:Inv X d a H s)(h1 : -(2^62)<=lo)(h2:lo<2^62)(h3 : -(2^62)<=hi)(h4:hi<2^62)
  (q:R (Itr lo (hi-lo).toNat) H):wpAny (model X.prog X.w) X.A (pyIter (.ref s.heap.objs.size)) (PIE X d a tg R) E { s with heap:=s.heap.push { cls:=.type "range",data:=.fields #[.int lo t,.int hi u,.int 1 v] },toks:=c }:=by
 refine wpAny_pyIter_range (IsRange.new ..) (small_one h1 h2 h3 h4) ?_;have f:Inv X d a H { s with heap:=s.heap.push { cls:=.type "range",data:=.fields #[.int lo t,.int hi u,.int 1 v] },toks:=c }:=I.kept λb o e=>c8 _ e;refine⟨(s.heap.push { cls:=.type "range",data:=.fields #[.int lo t,.int hi u,.int 1 v] }).objs.size,[(s.heap.push { cls:=.type "range",data:=.fields #[.int lo t,.int hi u,.int 1 v] }).objs.size],_,_,H,U,
  f.kept (t':=c) λb o e=>c8 _ e,dh _ lo (hi-lo).toNat,?_,λb g=>?_,q⟩
 ·have i:lo+((0:Nat):Int)*1=lo:=by simp
  have h:(((hi-lo).toNat:Nat):Int)-((0:Nat):Int)=Ic lo hi 1:=by rw[rangeSize_one]; split <;> lia
  show IsRangeIter _ _ (lo+((0:Nat):Int)*1) ((((hi-lo).toNat:Nat):Int)-((0:Nat):Int)) 1;rw[i,h];rwa[f9 _ rfl]
 ·have e:b=(s.heap.push { cls:=.type "range",data:=.fields #[.int lo t,.int hi u,.int 1 v] }).objs.size:=by simpa using g
  subst e;rwa[f.fpOk (f6 _) (f.hok.fresh (f6 _))]
def iRng1(d:TA):TI:=λa H R=>d a H λc e=>∃ j:Int,A4 (c=[.int j]) (-(2^62)<=j) (j<2^62) (R (Itr 0 j.toNat) e)
def xC{a:An}(o:Gl X "range")(n:X.mg "range" = IS)(u:PA X [a] d)(m:starEach [a] X.env=[(IU,eval a X.env)]:=by rfl):PI X tg (.Call (.Name "range" p) [a] [] pos) (iRng1 d):=by
 intro v s f H R I h;erw[Call_ (mP I o n boot_range (BQ (thn (u pos v s f H _ I h) λy z ⟨x,A,w,i,c⟩=>?_) m rfl))];obtain⟨j,e,c,l,q⟩:=c;subst e;cases i with
 | cons r g =>
  cases g;obtain⟨t,rfl⟩:=r;exact call_range_1 (YQ w (by lia) (by lia) c l (by simpa using q))
def tFor(h:TI)(g:TG)(j:TS):TS:=λD a H=>h a H λJ n=>∃ W:Nat->Nat->St->Hp->Prop,(∃ m,W 0 m a n)/\∀ i m a H,W i m a H->(J.stop i H/\D.nx a H)\/(J.go i H/\∃ N:St->Hp->Prop,(∀ c d,N c d->∃ f,f<m/\W (i+1) f c d)/\∀ x d,J.yld i H x d->g x a d λe l=>j { D with nx:=N,ct:=N,bk:=D.nx } e l)
def iX(fp:List c5)(h:v8):List (c5×BD):=fp.filterMap λb=>(h.get? b).map λo=>(b,o)
def yd{fp:List c5}{h:v8}{b:c5}(a:b∈fp)(e:h.get? b=O o):(b,o)∈iX fp h:=Ec.mpr ⟨b,a,by rw[e]; rfl⟩
def Zi{p:c5×BD}(a:p∈iX fp h):p.1∈fp/\h.get? p.1=O p.2:=by
 obtain⟨b,c,e⟩:=Ec.mp a;cases q:h.get? b with
 | none=>rw[q] at e; cases e
 | some o =>
  rw[q] at e;have d:(b,o)=p:=o8 e;subst d;rwa[c,q]
def Inv.pinned{c:St}{H:Hp}{fp:List c5}(I:Inv X a c H s)(j:∀ b∈fp,bO X a H b)(i:∀ b∈fp,∃ o,s.heap.get? b=O o/\∀ v,o.data≠.cell v):Inv X (a++iX fp s.heap) c H s :=
 I.pins_of λp h=>(i7.mp h).elim (λz=>I.pin p (z9 _ z)) λz=>by
  obtain⟨f,e⟩:=Zi z;obtain⟨n,m,l,_⟩:=j p.1 f;obtain⟨o,g,d⟩:=i p.1 f;rw[e] at g; cases g;rwa[e,n,m,l,d]
def Inv.unpinned{c d:List (c5×BD)}{a:St}{H:Hp}(I:Inv X (c++d) a H s):Inv X c a H s:=I.pins_of λp e=>I.pin p (z9 _ (Bk _ e))
def xM{iter:An}(P:PassesOwn (model X.prog X.w) X.A X.env X.xe)(hc:X.calm=IT)(hi:PI X tg iter wi)(hg:PG X tg g)(p:PSs X body tb)
  (hs:∀ x,foldedSetIterable iter X.env x=pure x:=by intro _; rfl):PS X (.For tg iter body [] pos) (tFor wi g tb):=by
 intro E s σ H D I h;erw[wpAny_For (thn (hi E s σ H _ I h) λv s1 h1=>thn h1 λitv s2 h2=>?_) hs];obtain⟨it,fp,tn,J,H2,e,I2,T,Y,f2,W,⟨m0,w0⟩,G⟩:=h2;subst e;have l:∀{z:Hp},(∀ b∈fp,z b=IS)->∀ b∈fp,bO X E z b:=λhn b p=>⟨hn b p,(f2 b p).2⟩;erw[codeAny_forLoop_any (λn s'=>∃ i j z,Inv X E j z s'/\tn i s'.heap/\(∀ b∈fp,z b=IS)/\W i n j z) ?_ m0 ⟨0,σ,H2,I2,Y,λb p=>(f2 b p).1,w0⟩];rintro n s3 ⟨i,c,R,I3,L,Q,w3⟩;rcases G i n c R w3 with ⟨stop,qn⟩ | ⟨go,N,hN,step⟩
 ·erw[Ce P (thn (T.done X rfl rfl rfl hc i E s3 c R X.xe I3 (l Q) L stop) λr s4 ⟨hr,I4⟩=>?_)];subst hr;rwa[DL ⟨c,R,I4,qn⟩]
 ·refine Ce P (thn (T.item X rfl rfl rfl hc i E s3 c R X.xe I3 (l Q) L go) λr s4 ⟨u,hr,h4⟩=>?_);subst hr;refine Ce P (thn h4 λ_ s5 ⟨x,H5,I5,r5,y5,C,fr5⟩=>?_);have I5':=I5.pinned (l fr5) (T.obj _ _ C);refine Ce P (thn (hg _ s5 c H5 x u _ I5' r5 (step x H5 y5)) λ_ s6 ⟨S,H6,I6,q6⟩=>?_);refine Ce P (thn (p _ s6 S H6 _ I6 q6) λf Z B=>?_);have again:∀{a:St}{y:Hp},Inv X (E++iX fp s5.heap) a y Z->N a y->∃ m,m<n/\∃ i j z,Inv X E j z Z/\tn i Z.heap/\(∀ b∈fp,z b=IS)/\W i m j z:=λ{a y} q M=>by
   obtain⟨m',hm,w7⟩:=hN a y M;erw[m',hm,i+1,a,y,q.unpinned,T.keep _ _ _ C λb p o e=>(q.pin (b,o) (z9 _ (z9 _ (yd p e)))).1,λb p=>?_,w7];obtain⟨o,e,d⟩:=T.obj _ _ C b p;exact(q.pin (b,o) (z9 _ (z9 _ (yd p e)))).2.1
  cases f with
  | next=>obtain⟨a,y,q,M⟩:=B; rwa[again q M]
  | cont=>obtain⟨a,y,q,M⟩:=B; rwa[again q M]
  | brk=>obtain⟨a,y,q,B⟩:=B; rwa[a,y,q.unpinned,B]
  | ret v=>obtain⟨x7,a,y,q,r7,B⟩:=B; rwa[x7,a,y,q.unpinned,r7,B]
end

def wH{K:b9}{xs:List V}{g:TG}{o:TS}{D:cK}{c:St}{H:Hp}(d:Nat->St->Hp->Prop)(h0:d 0 c H)(v:∀ i c H,i<=xs.length->d i c H->SqL K H a xs)
  (u:∀ i x c H,xs[i]?=O x->d i c H->g x c H λf n=>o { D with nx:=d (i+1),ct:=d (i+1),bk:=D.nx } f n) (hd:∀ c H,d xs.length c H->D.nx c H) :
  ∃ W:Nat->Nat->St->Hp->Prop,(∃ m,W 0 m c H)/\∀ i m c H,W i m c H ->
   ((Itl K a).stop i H/\D.nx c H)\/((Itl K a).go i H/\∃ N:St->Hp->Prop,(∀ h j,N h j->∃ r,r<m/\W (i+1) r h j)/\∀ x j,(Itl K a).yld i H x j->g x c j λf n=>o { D with nx:=N,ct:=N,bk:=D.nx } f n):=by
 exists λi m c H=>m=xs.length-i/\i<=xs.length/\d i c H,⟨xs.length,by simp,Aa _,h0⟩;rintro i m c H ⟨rfl,hi,p⟩;have q:=v i c H hi p;by_cases l:i<xs.length
 ·erw[.inr ⟨⟨xs,xs[i],q,by simp[l]⟩,d (i+1),λh j s=>⟨xs.length-(i+1),by lia,rfl,l,s⟩,λx j y=>?_⟩];obtain⟨e,y⟩:=y;subst e;rwa[u i x c _ (y xs q) p]
 ·have e:i=xs.length:=by lia
  subst e;rwa[.inl ⟨⟨xs,q,f6 _⟩,hd c H p⟩]
def VX{K:b9}{xs:List V}{g:TG}{o:TS}{D:cK}{c:St}{H:Hp}(d:Nat->St->Hp->Prop)(h0:d 0 c H)(v:∀ i c H,i<=xs.length->d i c H->SqT K H a xs)
  (u:∀ i x c H,xs[i]?=O x->d i c H->g x c H λf n=>o { D with nx:=d (i+1),ct:=d (i+1),bk:=D.nx } f n) (hd:∀ c H,d xs.length c H->D.nx c H) :
  ∃ W:Nat->Nat->St->Hp->Prop,(∃ m,W 0 m c H)/\∀ i m c H,W i m c H ->
   ((Itt K a).stop i H/\D.nx c H)\/((Itt K a).go i H/\∃ N:St->Hp->Prop,(∀ h j,N h j->∃ r,r<m/\W (i+1) r h j)/\∀ x j,(Itt K a).yld i H x j->g x c j λf n=>o { D with nx:=N,ct:=N,bk:=D.nx } f n):=by
 exists λi m c H=>m=xs.length-i/\i<=xs.length/\d i c H,⟨xs.length,by simp,Aa _,h0⟩;rintro i m c H ⟨rfl,hi,p⟩;have q:=v i c H hi p;by_cases l:i<xs.length
 ·erw[.inr ⟨⟨xs,xs[i],q,by simp[l]⟩,d (i+1),λh j s=>⟨xs.length-(i+1),by lia,rfl,l,s⟩,λx j y=>?_⟩];obtain⟨e,y⟩:=y;subst e;rwa[u i x c _ (y xs q) p]
 ·have e:i=xs.length:=by lia
  subst e;rwa[.inl ⟨⟨xs,q,f6 _⟩,hd c H p⟩]
def wM{lo:Int}{n:Nat}{g:TG}{o:TS}{D:cK}{a:St}{H:Hp}(h:Nat->St->Hp->Prop)(h0:h 0 a H)
  (s:∀ i a H,i<n->h i a H->g (.int (lo+i)) a H λc l=>o { D with nx:=h (i+1),ct:=h (i+1),bk:=D.nx } c l) (hd:∀ a H,h n a H->D.nx a H) :
  ∃ W:Nat->Nat->St->Hp->Prop,(∃ m,W 0 m a H)/\∀ i m a H,W i m a H ->
   ((Itr lo n).stop i H/\D.nx a H)\/((Itr lo n).go i H/\∃ N:St->Hp->Prop,(∀ d j,N d j->∃ q,q<m/\W (i+1) q d j)/\∀ x j,(Itr lo n).yld i H x j->g x a j λc l=>o { D with nx:=N,ct:=N,bk:=D.nx } c l):=by
 exists λi m a H=>m=n-i/\i<=n/\h i a H,⟨n,by simp,Aa _,h0⟩;rintro i m a H ⟨rfl,hi,p⟩;by_cases f:i<n
 ·erw[.inr ⟨f,h (i+1),λd j r=>⟨n-(i+1),by lia,rfl,f,r⟩,λx j y=>?_⟩];obtain⟨e,y⟩:=y;subst e y;rwa[s i a _ f p]
 ·have e:i=n:=by lia
  subst e;rwa[.inl ⟨f6 _,hd a H p⟩]
def uu{c:TT}{i:TS}{D:cK}{a:St}{H:Hp}(h:St->Hp->Prop)(g:St->Hp->Nat)(h0:h a H)
  (o:∀ a H,h a H->c a H λb e=>if b=IT then i { D with nx:=λd f=>h d f/\g d f<g a H,ct:=λd f=>h d f/\g d f<g a H,bk:=D.nx } a e else D.nx a e)
  (mono:∀ a H Q j,(∀ b e,Q b e->j b e)->c a H Q->c a H j):XN c i D a H:=by
 exists λm a H=>m=g a H/\h a H,⟨_,U,h0⟩;rintro m a H ⟨rfl,p⟩;erw[mono a H _ _ (λb e q=>?_) (o a H p)];cases b with
 | true=>rwa[_,λd f ⟨n,l⟩=>⟨_,l,rfl,n⟩,q]
 | false=>rwa[q]
end L2

namespace L2

abbrev R2:=V->V->Hp->VK->Prop
def OpR(X:Cx)(f:c6->c6->Ix c6)(r:R2):Prop :=
 ∀(c:List (c5×BD))(s:d8)(a:St)(H:Hp)(x y:V)(v u:c6)(Q:VK),Inv X c a H s->xI x v->xI y u->r x y H Q ->
  wpAny (model X.prog X.w) X.A (f v u) (EP X c a Q) X.xe s
def UnR(X:Cx)(f:c6->Ix c6)(r:V->Hp->VK->Prop):Prop :=
 ∀(c:List (c5×BD))(s:d8)(a:St)(H:Hp)(x:V)(v:c6)(Q:VK),Inv X c a H s->xI x v->r x H Q ->
  wpAny (model X.prog X.w) X.A (f v) (EP X c a Q) X.xe s
def uN(X:Cx)(f:c6)(r:List V->Hp->VK->Prop):Prop :=
 ∀(e:List (c5×BD))(s:d8)(a:St)(H:Hp)(c:List V)(d:List c6)(Q:VK),Inv X e a H s->yS c d->r c H Q ->
  wpAny (model X.prog X.w) X.A (call f d) (EP X e a Q) X.xe s
def tOp(r:R2)(d c:TE):TE:=λa H Q=>d a H λx f=>c a f λy e=>r x y e Q
def tUn(r:V->Hp->VK->Prop)(c:TE):TE:=λa H Q=>c a H λx d=>r x d Q
inductive RI(C:Int->Int->Prop)(g:Int->Int->V)(x y:V)(H:Hp)(Q:VK):Prop where
 | mk (i j:Int) (ex:x=.int i) (ey:y=.int j) (c:C i j) (q:Q (g i j) H)
def rI(C:Int->Int->Prop)(g:Int->Int->V):R2:=λx y H Q=>RI C g x y H Q
inductive RI0(g:Int->Int->V)(x y:V)(H:Hp)(Q:VK):Prop where
 | mk (i j:Int) (ex:x=.int i) (ey:y=.int j) (q:Q (g i j) H)
def rI0(g:Int->Int->V):R2:=λx y H Q=>RI0 g x y H Q
inductive RU(g:Int->V)(x:V)(H:Hp)(Q:VK):Prop where
 | mk (i:Int) (ex:x=.int i) (q:Q (g i) H)
def rU(g:Int->V):V->Hp->VK->Prop:=λx H Q=>RU g x H Q

section
variable{X:Cx}{a b c:An}{ta tb tc:TE}{pos:Dm}

def Se(C:PE X a ta)(B:PE X b tb){d:St}{H:Hp}{R:V->V->Hp->Prop}(I:Inv X l d H s)
  (h:ta d H λx m=>tb d m λy e=>R x y e) {Q:c6->d8->Prop} {f:c6->c6->Ix c6}
  (z:∀ v u j x y e,Inv X l d e j->xI x v->xI y u->R x y e->wpAny (model X.prog X.w) X.A (f v u) Q X.xe j) :
  wpAny (model X.prog X.w) X.A (eval a X.env) (λv i=>wpAny (model X.prog X.w) X.A (eval b X.env) (λu g=>wpAny (model X.prog X.w) X.A (f v u) Q X.xe g) X.xe i) X.xe s:=by
 erw[thn (C l s d H _ I h) λv n ⟨x,m,E,p,r⟩=>?_];erw[thn (B l n d m _ E r) λu j ⟨y,e,D,o,q⟩=>?_];rwa[z v u j x y e D p o q]

def tR(j:OpR X (binaryOp d) r)(m:PE X a ta)(l:PE X b tb):PE X (.BinOp a d b pos) (tOp r ta tb):=by
 intro n s e H Q I h;rwa[wpAny_BinOp (Se m l I h λv u f x y p o i g q=>j n f e p x y v u Q o i g q)]
def pe_un{r:V->Hp->VK->Prop}(l:UnR X (unaryOp e) r)(m:PE X a ta):PE X (.UnaryOp e a pos) (tUn r ta):=by
 intro f s d H Q I h;rwa[UnaryOp_ (thn (m f s d H _ I h) λv g ⟨x,o,n,i,j⟩=>l f g d o x v Q n i j)]
def opI{f:c6->c6->Ix c6}{C:Int->Int->Prop}{g:Int->Int->Int}
  (rule:∀(i j:Int)(t u:IA)(s:d8)(Q:c6->d8->Prop)(E:c6->d8->Prop),C i j->Q (.int (g i j) s.toks) { s with toks:=s.toks+1 }->wpAny (model X.prog X.w) X.A (f (.int i t) (.int j u)) Q E s) :
  OpR X f (rI C λi j=>.int (g i j)):=by
 intro o s n H x y v u Q I l e h;obtain⟨i,j,rfl,rfl,m,q⟩:=h;obtain⟨t,rfl⟩:=l;obtain⟨d,rfl⟩:=e;rwa[rule i j t d s _ _ m ⟨.int (g i j),H,I.tok _,⟨_,rfl⟩,q⟩]
def opI0{f:c6->c6->Ix c6}{g:Int->Int->Int}
  (rule:∀(i j:Int)(t u:IA)(s:d8)(Q:c6->d8->Prop)(E:c6->d8->Prop),Q (.int (g i j) s.toks) { s with toks:=s.toks+1 }->wpAny (model X.prog X.w) X.A (f (.int i t) (.int j u)) Q E s) :
  OpR X f (rI0 λi j=>.int (g i j)):=by
 intro n s m H x y v u Q I l e h;obtain⟨i,j,rfl,rfl,q⟩:=h;obtain⟨t,rfl⟩:=l;obtain⟨d,rfl⟩:=e;rwa[rule i j t d s _ _ ⟨.int (g i j),H,I.tok _,⟨_,rfl⟩,q⟩]
def Sj{f:c6->c6->Ix c6}{g:Int->Int->Bool}
  (rule:∀(i j:Int)(t u:IA)(s:d8)(Q:c6->d8->Prop)(E:c6->d8->Prop),Q (.bool (g i j)) s->wpAny (model X.prog X.w) X.A (f (.int i t) (.int j u)) Q E s) :
  OpR X f (rI0 λi j=>.bl (g i j)):=by
 intro n s m H x y v u Q I l e h;obtain⟨i,j,rfl,rfl,q⟩:=h;obtain⟨t,rfl⟩:=l;obtain⟨d,rfl⟩:=e;rwa[rule i j t d s _ _ ⟨.bl (g i j),H,I,rfl,q⟩]

def CPow(i j:Int):Prop:=0<=j/\j<=1000000/\i.natAbs<2^64
def Us(i j:Int):Prop:=(-(2^64)<i/\i<2^64)\/(-(2^64)<j/\j<2^64)
def Us.ok{i j:Int}(h:Us i j):IntMulOk i j:=by
 rcases h with ⟨h1,h2⟩ | ⟨h1,h2⟩
 ·rwa[.of_left (intBits_le_64 h1 h2)]
 ·rwa[.of_right (intBits_le_64 h1 h2)]
def fR:OpR X (binaryOp .Add) (rI0 λi j=>.int (i+j)):=opI0 λ_ _ _ _ _ _ _ q=>add_int q
def TX:OpR X (binaryOp .Sub) (rI0 λi j=>.int (i-j)):=opI0 λ_ _ _ _ _ _ _ q=>sub_int q
def jV:OpR X (binaryOp .Mult) (rI Us λi j=>.int (i*j)):=opI λ_ _ _ _ _ _ _ d q=>mul_int q d.ok
def Xf:OpR X (binaryOp .Mod) (rI (λ_ j=>0<j) λi j=>.int (i%j)):=opI λi j _ _ _ _ _ d q=>by
 have h1:(0:Int)<j:=d;rwa[mod_int' (by lia) (by rw[Int.fmod_eq_emod_of_nonneg i (by lia)]; exact q)]
def TH:OpR X (binaryOp .Pow) (rI CPow λi j=>.int (i^j.toNat)):=opI λ_ _ _ _ _ _ _ d q=>pow_int_small d.1 d.2.1 d.2.2 q
def unI{f:c6->Ix c6}{g:Int->Int}
  (rule:∀(i:Int)(t:IA)(s:d8)(Q:c6->d8->Prop)(E:c6->d8->Prop),Q (.int (g i) s.toks) { s with toks:=s.toks+1 }->wpAny (model X.prog X.w) X.A (f (.int i t)) Q E s) :
  UnR X f (rU λi=>.int (g i)):=by
 intro j s e H x v Q I d h;obtain⟨i,rfl,q⟩:=h;obtain⟨t,rfl⟩:=d;rwa[rule i t s _ _ ⟨.int (g i),H,I.tok _,⟨_,rfl⟩,q⟩]
def TV:UnR X (unaryOp .USub) (rU λi=>.int (-i)):=unI λ_ _ _ _ _ q=>neg_int q
end

def scal:V->V->Bool
 | .non,.non=>IT | .non,.int _=>IT | .int _,.non=>IT | .non,.bl _=>IT | .bl _,.non=>IT | .non,.str _=>IT | .str _,.non=>IT
 | .int _,.int _=>IT | .bl _,.bl _=>IT | .str _,.str _=>IT | .byt _,.byt _=>IT
 | .int _,.str _=>IT | .str _,.int _=>IT | .bl _,.str _=>IT | .str _,.bl _=>IT
 | _,_=>IU
def rEq:R2:=λx y H Q=>scal x y=IT/\Q (.bl (decide (x=y))) H
def rNe:R2:=λx y H Q=>scal x y=IT/\Q (.bl (!decide (x=y))) H

def bT{i j:Int} : decide (V.int i=V.int j)=(i == j):=by
 rw[Di];simp
def XX : decide (V.bl i=V.bl j)=(i == j):=by
 rw[Di];simp
def ay : decide (V.str i=V.str j)=(i == j):=by
 rw[Di];simp
def bJ : decide (V.byt i=V.byt j)=(i.toList == j.toList):=by
 rw[Di];cases i;cases j;simp

section
variable{X:Cx}{a b c:An}{ta tb tc:TE}{pos:Dm}
def yP{d:St}{H:Hp}{Q:VK}{k f:Bool}(I:Inv X g d H s)(q:Q (.bl k) H)(e:k=f):EP X g d Q (.bool f) s:=by
 subst e;rwa[.bl k,H,I,rfl,q]
def Wl:OpR X (compareOp .Eq) rEq:=by
 intro m s l H x y v u Q I g d h;obtain⟨f,q⟩:=h;cases x with
 | non =>
  cases g;cases y with
  | non=>cases d; rwa[Hs (yP I q (by simp))]
  | bl j=>cases d; rwa[Ht (yP I q (by simp))]
  | int j=>obtain⟨e,rfl⟩:=d; rwa[HH (yP I q (by simp))]
  | str j=>obtain⟨e,rfl⟩:=d; rwa[HI (yP I q (by simp))]
  | _=>exact x4 (show IU=IT from f) i9
 | bl i =>
  cases g;cases y with
  | non=>cases d; rwa[Hu (yP I q (by simp))]
  | bl j=>cases d; rwa[eq_bool (yP I q XX)]
  | str j=>obtain⟨e,rfl⟩:=d; rwa[Hv (yP I q (by simp))]
  | _=>exact x4 (show IU=IT from f) i9
 | int i =>
  obtain⟨t,rfl⟩:=g;cases y with
  | non=>cases d; rwa[HJ (yP I q (by simp))]
  | int j=>obtain⟨e,rfl⟩:=d; rwa[eq_int (yP I q bT)]
  | str j=>obtain⟨e,rfl⟩:=d; rwa[HK (yP I q (by simp))]
  | _=>exact x4 (show IU=IT from f) i9
 | str i =>
  obtain⟨t,rfl⟩:=g;cases y with
  | non=>cases d; rwa[HM (yP I q (by simp))]
  | bl j=>cases d; rwa[Hw (yP I q (by simp))]
  | int j=>obtain⟨e,rfl⟩:=d; rwa[HN (yP I q (by simp))]
  | str j=>obtain⟨e,rfl⟩:=d; rwa[eq_str (yP I q ay)]
  | _=>exact x4 (show IU=IT from f) i9
 | byt i =>
  obtain⟨t,rfl⟩:=g;cases y with
  | byt j=>obtain⟨e,rfl⟩:=d; rwa[PySem.W.eq_bytes (yP I q bJ)]
  | _=>exact x4 (show IU=IT from f) i9
 | _=>cases y <;> exact x4 (show IU=IT from f) i9
def Ug:OpR X (compareOp .NotEq) rNe:=by
 intro m s l H x y v u Q I g d h;obtain⟨f,q⟩:=h;cases x with
 | non =>
  cases g;cases y with
  | non=>cases d; rwa[Hx (yP I q (by simp))]
  | bl j=>cases d; rwa[Hy (yP I q (by simp))]
  | int j=>obtain⟨e,rfl⟩:=d; rwa[HP (yP I q (by simp))]
  | str j=>obtain⟨e,rfl⟩:=d; rwa[HQ (yP I q (by simp))]
  | _=>exact x4 (show IU=IT from f) i9
 | bl i =>
  cases g;cases y with
  | non=>cases d; rwa[HA (yP I q (by simp))]
  | bl j=>cases d; rwa[ne_bool (yP I q (congrArg not XX))]
  | str j=>obtain⟨e,rfl⟩:=d; rwa[HC (yP I q (by simp))]
  | _=>exact x4 (show IU=IT from f) i9
 | int i =>
  obtain⟨t,rfl⟩:=g;cases y with
  | non=>cases d; rwa[HR (yP I q (by simp))]
  | int j=>obtain⟨e,rfl⟩:=d; rwa[ne_int (yP I q (congrArg not bT))]
  | str j=>obtain⟨e,rfl⟩:=d; rwa[HS (yP I q (by simp))]
  | _=>exact x4 (show IU=IT from f) i9
 | str i =>
  obtain⟨t,rfl⟩:=g;cases y with
  | non=>cases d; rwa[HU (yP I q (by simp))]
  | bl j=>cases d; rwa[HD (yP I q (by simp))]
  | int j=>obtain⟨e,rfl⟩:=d; rwa[HV (yP I q (by simp))]
  | str j=>obtain⟨e,rfl⟩:=d; rwa[ne_str (yP I q (congrArg not ay))]
  | _=>exact x4 (show IU=IT from f) i9
 | byt i =>
  obtain⟨t,rfl⟩:=g;cases y with
  | byt j=>obtain⟨e,rfl⟩:=d; rwa[PySem.W.ne_bytes (yP I q (congrArg not bJ))]
  | _=>exact x4 (show IU=IT from f) i9
 | _=>cases y <;> exact x4 (show IU=IT from f) i9

def Wi:OpR X (compareOp .Lt) (rI0 λi j=>.bl (decide (i<j))):=Sj λ_ _ _ _ _ _ _ q=>lt_int q
def dq:OpR X (compareOp .LtE) (rI0 λi j=>.bl (decide (i<=j))):=Sj λ_ _ _ _ _ _ _ q=>le_int q
def YM:OpR X (compareOp .Gt) (rI0 λi j=>.bl (decide (j<i))):=Sj λ_ _ _ _ _ _ _ q=>gt_int q
def WT:OpR X (compareOp .GtE) (rI0 λi j=>.bl (decide (j<=i))):=Sj λ_ _ _ _ _ _ _ q=>ge_int q
def Xc:OpR X (compareOp .Is) (λx y H Q=>y=.non/\Q (.bl (decide (x=.non))) H):=by
 intro g s f H x y v u Q I d e h;obtain⟨rfl,q⟩:=h;cases e;refine is_none_gen (yP I q ?_);cases x <;> first
  | (cases d; rfl)
  | (obtain⟨t,rfl⟩:=d; rfl)
def bw:OpR X (compareOp .IsNot) (λx y H Q=>y=.non/\Q (.bl (!decide (x=.non))) H):=by
 intro g s f H x y v u Q I d e h;obtain⟨rfl,q⟩:=h;cases e;refine isnot_none_gen (yP I q ?_);cases x <;> first
  | (cases d; rfl)
  | (obtain⟨t,rfl⟩:=d; rfl)

def xj(b:An){d:Gc}(h:d≠.In:=by decide)(h2:d≠.NotIn:=by decide):behindInMarks d b=false:=by
 have f:(d == CmpOp.In)=false:=by cases d <;> first | rfl | exact x4 rfl h
 have e:(d == CmpOp.NotIn)=false:=by cases d <;> first | rfl | exact x4 rfl h2
 cases b <;> simp[behindInMarks,f,e]
def zx(j:OpR X (compareOp d) r)(n:PE X a ta)(m:PE X b tb)(l:behindInMarks d b=IU):PE X (.Compare a [d] [b] pos) (tOp r ta tb):=by
 intro o s e H Q I h;rwa[wpAny_Compare1 (Se n m I h λv u f x y w p i g q=>j o f e w x y v u Q p i g q) l]
def aJ(t:TE):TT:=λd H Q=>t d H λx e=>∃ k,x=.bl k/\Q k e
def xJ(w:OpR X (compareOp f) r)(C:PE X a ta)(B:PE X b tb)(A:behindInMarks f b=IU):PT X (.Compare a [f] [b] pos) (aJ (tOp r ta tb)):=by
 intro g s d H Q I h;refine Fv (thn (C g s d H _ I h) λv j ⟨x,M,G,n,q⟩=>thn (B g j d M _ G q) λu i ⟨y,L,E,m,p⟩ =>
  thn (w g i d L x y v u _ E n m p) λc N ⟨z,J,D,l,k,e,o⟩=>?_) A
 subst e;cases l;rwa[Ba ⟨J,D,o⟩]
def Wz(r g:R2)(ta tb tc:TE):TE:=λd H Q=>ta d H λx j=>tb d j λy i=>r x y i λz e=>∃ k,z=.bl k/\(if k=IT then tc d e λf h=>g y f h Q else Q (.bl IU) e)
def eC(R:OpR X (compareOp j) r)(l:OpR X (compareOp f) n)(Z:PE X a ta)(Y:PE X b tb)(T:PE X c tc)
  (S:lastMarks [j,f] [b,c]=false:=by with_unfolding_all rfl):PE X (.Compare a [j,f] [b,c] pos) (Wz r n ta tb tc):=by
 intro i s g H Q I h;refine Compare_chain (thn (Z i s g H _ I h) λv E ⟨x,H1,I1,L,P⟩=>chain_link (thn (Y i E g H1 _ I1 P) λu D ⟨y,H2,I2,m,N⟩ =>
  thn (R i D g H2 x y v u _ I2 L m N) λd C ⟨z,q,p,J,k,e,o⟩=>?_)) S
 subst e;cases J;erw[Ba ?_];cases k with
 | false=>rwa[ite_ff ⟨.bl IU,q,p,rfl,o⟩]
 | true=>rwa[ite_tt (chain_last (thn (T i C g q _ p o) λA B ⟨w,H4,I4,G,M⟩=>l i B g H4 y w u A Q I4 m G M))]
def ZY(Y:OpR X (compareOp j) r)(l:OpR X (compareOp f) n)(ha:PE X a ta)(hb:PE X b tb)(hc:PE X c tc)
  (Z:lastMarks [j,f] [b,c]=false:=by with_unfolding_all rfl):PT X (.Compare a [j,f] [b,c] pos) (aJ (Wz r n ta tb tc)):=by
 intro i s g H Q I h;refine isTrue_chain (thn (ha i s g H _ I h) λv E ⟨x,H1,I1,M,S⟩=>test_link (thn (hb i E g H1 _ I1 S) λu D ⟨y,H2,I2,m,R⟩ =>
  thn (Y i D g H2 x y v u _ I2 M m R) λd C ⟨z,q,p,L,k,e,o⟩=>?_)) Z
 subst e;cases L;erw[Ba ?_];cases k with
 | false =>
  obtain⟨k',e',T⟩:=o;cases e';rwa[ite_ff ⟨q,p,T⟩]
 | true =>
  erw[ite_tt (test_last (thn (hc i C g q _ p o) λA B ⟨w,H4,I4,J,P⟩=>thn (l i B g H4 y w u A _ I4 m J P) λd' s5 ⟨z2,H5,I5,G,k2,e2,N⟩=>?_))];subst e2;cases G;rwa[Ba ⟨H5,I5,N⟩]

def lH:(sizeLine:Nat)<2^63:=by rw[sizeLine_eq]; decide
def lR:OpR X (binaryOp .Add) (λx y H Q=>E2 λi j=>A4 (x=.str i) (y=.str j) (i.length+j.length<=sizeLine) (Q (.str (i++j)) H)):=by
 intro n s l H x y v u Q I f e h;obtain⟨i,j,rfl,rfl,g,q⟩:=h;obtain⟨t,rfl⟩:=f;obtain⟨d,rfl⟩:=e;rwa[add_str (λd m=>⟨.str (i++j),H,I.tok _,⟨_,rfl⟩,q⟩) g]
def mE{x:V}(r:yS [x] d):∃ u,d=[u]/\xI x u:=by
 cases r with
 | cons f e=>cases e; rwa[_,rfl,f]
def Um{x y:V}(r:yS [x,y] e):∃ u d,e=[u,d]/\xI x u/\xI y d:=by
 cases r with
 | cons i h =>
  cases h with
  | cons g f=>cases f; rwa[_,_,rfl,i,g]
def Zc:uN X (.builtin "abs") (λd H Q=>∃ i,d=[.int i]/\Q (.int (if i<0 then -i else i)) H):=by
 intro j s e H d f Q I r h;obtain⟨i,rfl,q⟩:=h;obtain⟨u,rfl,t,rfl⟩:=mE r;exact call_abs_int λu g=>⟨.int (if i<0 then -i else i),H,I.tok _,⟨_,rfl⟩,q⟩
def Zq(f:X.calm=IT):uN X (.builtin "max") (λe H Q=>E2 λi j=>e=[.int i,.int j]/\Q (.int (if j>i then j else i)) H):=by
 intro v s g H e m Q I r h;obtain⟨i,j,rfl,q⟩:=h;obtain⟨u,l,rfl,⟨t,rfl⟩,⟨o,rfl⟩⟩:=Um r;erw[max_two_ints (I.ok.hd f) λp n k=>⟨_,H,I.kept k,?_,q⟩];by_cases d:j>i
 ·rw[y7 d,y7 d]; rwa[_,rfl]
 ·rw[y6 d,y6 d]; rwa[_,rfl]
def Zm(f:X.calm=IT):uN X (.builtin "min") (λe H Q=>E2 λi j=>e=[.int i,.int j]/\Q (.int (if j<i then j else i)) H):=by
 intro v s g H e m Q I r h;obtain⟨i,j,rfl,q⟩:=h;obtain⟨u,l,rfl,⟨t,rfl⟩,⟨o,rfl⟩⟩:=Um r;erw[min_two_ints (I.ok.hd f) λp n k=>⟨_,H,I.kept k,?_,q⟩];by_cases d:j<i
 ·rw[y7 d,y7 d]; rwa[_,rfl]
 ·rw[y6 d,y6 d]; rwa[_,rfl]
def bf:uN X (.type "int") (λd H Q=>(∃ i,d=[.int i]/\Q (.int i) H)\/∃ k,d=[.bl k]/\Q (.int (if k then 1 else 0)) H):=by
 intro j s f H d g Q I r h;rcases h with ⟨i,rfl,q⟩ | ⟨k,rfl,q⟩
 ·obtain⟨u,rfl,t,rfl⟩:=mE r;rwa[call_int_int ⟨.int i,H,I,⟨_,rfl⟩,q⟩]
 ·obtain⟨u,rfl,e⟩:=mE r;cases e;exact call_int_bool ⟨.int (if k then 1 else 0),H,I.tok _,⟨_,rfl⟩,q⟩
end
end L2

namespace L2

structure Uz(h:v8)(x dx C:c5)(mA:g8->Option c6):Prop where
 obj:h.get? x=O (BI C dx)
 ns:h.Ns1 dx mA
 ne:dx≠x

def Zp{h:v8}{g:g8->Option c6}(n:h.Ns1 j g):∃ f,h.get? j=O f/\∀ c,Ed c f=O (g c):=by
 obtain⟨o,i,u,m,hd,r,_,p⟩:=n;erw[o,m,λc=>?_];have e:=p c;unfold nsFind findBy at e;rw[<- Array.find?_toList] at e;unfold Ed;rw[hd];dsimp only;split
 ·rename_i y q
  rw[q] at e;rwa[congrArg O e]
 ·rename_i q
  rw[q] at e;have a:i.toList.any (·.refKey)=false:=by
   rw[List.any_eq_false];intro y l;obtain⟨z,t,d⟩:=r y (FH.mp l);simp[DictEntry.refKey,d]
  have s:¬ i.toList.any (·.refKey)=true:=by rw[a]; rwa[i9]
  rw[y6 s];rwa[congrArg O e]

def Uz.look{d:g8->Option c6}(I:Uz h x e C d):∃ c,PySem.W.InstAt h x (BI C e) C (O c)/\∀ a,Ed a c=O (d a) :=
 let ⟨c,ho,hl⟩:=Zp I.ns
 ⟨c,⟨I.obj,rfl,rfl,ho⟩,hl⟩

section
variable{prog:j7}{w:m9}{A:Aq}{E:c6->d8->Prop}{s:d8}{K:b9}{x dx C f:c5}{mA:g8->Option c6}{name:g8}{v:c6}

def Vt{Q:c6->d8->Prop}(X:K.In s.heap)(I:Uz s.heap x dx C mA)(g:DB K C name=IT)(e:Eu K C=IT)
  (i:AO K (.ref C) name=O IS) (c:mA name=O v) (a:GF v=IT) (h:Q v { s with toks:=s.toks+1 }) :
  wpAny (model prog w) A (getAttr (.ref x) name expr) Q E s:=by
 obtain⟨j,J,d⟩:=I.look;rwa[PySem.W.get_value X J (DT g).1 (PySem.W.findObj_own e i rfl (by rw[d,c])) a h]

def YG{Q:c6×List c6->d8->Prop}(X:K.In s.heap)(I:Uz s.heap x dx C mA)(a:DB K C name=IT)
  (j:AO K (.ref C) name=O (O (.ref f))) (g:Gd K (.ref f)=IT) (e:mA name=IS) (h:Q (.ref f,[.ref x]) s) :
  wpAny (model prog w) A (getMethod (.ref x) name c) Q E s:=by
 obtain⟨d,J,i⟩:=I.look;exact PySem.W.method_fn X J (DT a).1 (DT a).2 j (beq_iff_eq.mp g) (by show(Ed name d).map (·.isSome)=O IU; rw[i,e]; rfl) h

def Vg{Q:Unit->d8->Prop}(X:K.In s.heap)(I:Uz s.heap x dx C mA)
  (q:AO K (.ref C) "__setattr__" = O (O (.builtin "object.__setattr__"))) (u:Ge K C=IT) (o:Fm K C name=O IS) (z:Eu K C=IT)
  (n:Gb mA ns) (p:ns.length<=sizeLine)
  (h:∀ e,Uz e x dx C (λy=>if y=name then O v else mA y)->Bq dx s.heap e->Q () { s with heap:=e,toks:=s.toks+2 }) :
  wpAny (model prog w) A (setAttr (.ref x) name v) Q E s:=by
 obtain⟨H,J,M⟩:=I.look;refine PySem.W.set_plain X J q (PySem.W.osa_open (s:={ s with toks:=s.toks+1 }) (r:=IS) X J u o λb=>?_);obtain⟨N,B,j⟩:=PySem.W.any_some z;have m:s.heap.get? x=O ⟨.ref C,O dx,.plain,#[]⟩:=I.obj;refine b7 (d9 (b7 (b7 (wpAny_loadPart m (b7 (II (s:={ s with toks:=s.toks+1 }) (PySem.W.looks_clsIn X B) ?_))))));rw[j];erw[d9 (a:=O dx) (b7 (d9 (b7 ?_)))];refine wpAny_nsSet1 (s:={ s with toks:=s.toks+1 }) I.ns λe d c=>?_;obtain⟨L,D,G,g,i,l⟩:=d.count (IM name v n);erw[b7 (wpAny_lookBehind g (by rw[i]; rwa[pastItsLine_dict (f8 l (by rw[n9]; lia))]) ?_)];rwa[d9 (h _ ⟨(c.2 _ (AW I.ne)).trans I.obj,d,I.ne⟩ c)]

def ZX{R:Result->d8->Prop}{a:List c6}{c:List (g8×c6)}(X:K.In s.heap)(e:G3 K C=IT)
  (hi:AO K (.ref C) "__init__" = O (O (.ref f))) (i:PySem.W.typeIn K (.ref f)=O (.type "function"))
  (h:codeAny (model prog w) (A.under (.builtin "type.__call__" ⟨.ref C::a,c⟩)) (.call (.ref f) ⟨.ref (s.heap.objs.size+1)::a,c⟩) (PySem.W.InitBack (s.heap.objs.size+1) R)
   { s with heap:=(s.heap.push Bb).push (BI C s.heap.objs.size) }) :
  codeAny (model prog w) A (.call (.ref C) ⟨a,c⟩) R s:=by
 obtain⟨j,g,d,t,os⟩:=s;rwa[PySem.W.make_core (PySem.W.makes_of X e) (PySem.W.looks_findIn X hi) (λself=>PySem.W.bind_fn X self i) (.inl rfl) h]
end

def pQ(f:g8)(v:V):List (g8×V)->List (g8×V)
 | []=>[(f,v)]
 | (g,x)::r=>if g=f then(g,v)::r else(g,x)::pQ f v r
def oQ(f g:g8)(v:V):∀ fs:List (g8×V),(pQ f v fs).lookup g=if g=f then O v else fs.lookup g
 | []=>by
  show Am g [(f,v)]=_;by_cases h:g=f
  ·have a:(g == f)=true:=beq_iff_eq.mpr h;simp only[Am,a,y7 h]
  ·have a:(g == f)=false:=x5.mpr h;simp only[Am,a,y6 h]
 | (k,x)::r=>by
  have d:=oQ f g v r;rw[show pQ f v ((k,x)::r)=(if k=f then(k,v)::r else(k,x)::pQ f v r) from rfl];by_cases c:k=f
  ·rw[y7 c];by_cases h:g=k
   ·have a:(g == k)=true:=beq_iff_eq.mpr h;simp only[Am,a,y7 (h.trans c)]
   ·have a:(g == k)=false:=x5.mpr h;simp only[Am,a,y6 (λe:g=f=>h (e.trans c.symm))]
  ·rw[y6 c];by_cases h:g=k
   ·have a:(g == k)=true:=beq_iff_eq.mpr h;simp only[Am,a,y6 (λe:g=f=>c (h.symm.trans e))]
   ·have a:(g == k)=false:=x5.mpr h;simp only[Am,a];rwa[d]
def ny(f:g8)(v:V):∀ fs:List (g8×V),f∈(pQ f v fs).map (·.1)/\∀ g,g∈fs.map (·.1)->g∈(pQ f v fs).map (·.1)
 | []=>⟨by simp[pQ],λg h=>by simp at h⟩
 | (k,x)::r=>by
  obtain⟨d,c⟩:=ny f v r;rw[show pQ f v ((k,x)::r)=(if k=f then(k,v)::r else(k,x)::pQ f v r) from rfl];by_cases a:k=f
  ·rw[y7 a];subst a;exact⟨by simp,λg h=>by simpa using h⟩
  ·rw[y6 a];erw[?_,λg h=>?_]
   ·rw[g9];rwa[x8 _ d]
   ·rw[g9] at h ⊢;rcases j4.mp h with e | e
    ·rwa[j4.mpr (.inl e)]
    ·rwa[x8 _ (c g e)]
def oS(f:g8)(v:V):∀ fs:List (g8×V),(pQ f v fs).length<=fs.length+1
 | []=>by simp[pQ]
 | (k,x)::r=>by
  have c:=oS f v r;rw[show pQ f v ((k,x)::r)=(if k=f then(k,v)::r else(k,x)::pQ f v r) from rfl];by_cases a:k=f
  ·rw[y7 a,n9,n9]; lia
  ·rw[y6 a,n9,n9]; lia

def jm.some_of(r:jm (O v) o):∃ u,o=O u/\xI v u:=by
 cases o with
 | none=>exact(show False from r).elim
 | some u=>rwa[u,rfl,r]
def jm.none_of(r:jm IS o):o=none:=by
 cases o with
 | none=>rfl
 | some u=>exact(show False from r).elim
def aF(r:xI v u):GF u=true:=by
 cases v with
 | non=>cases (show u=Ao from r); rfl
 | bl b=>cases (show u=Fb b from r); rfl
 | int i=>obtain⟨t,e⟩:=(show ∃ t,u=BH i t from r); cases e; rfl
 | str x=>obtain⟨t,e⟩:=(show ∃ t,u=CZ x t from r); cases e; rfl
 | byt b=>obtain⟨t,e⟩:=(show ∃ t,u=GZ b t from r); cases e; rfl
 | flt b=>obtain⟨t,e⟩:=(show ∃ t,u=FD b t from r); cases e; rfl
 | ref a=>cases (show u=j8 a from r); rfl
 | ty n=>cases (show u=Fc n from r); rfl

section
variable{P:j7}{w:m9}{H H':Hp}{h h':v8}{a C dx:c5}{fs fs':List (g8×V)}
def kI(hok:HOk P w H h)(e:H a=O (.ins C dx fs)):∃ c,Uz h a dx C c/\(∀ f,jm (fs.lookup f) (c f))/\Gb c (fs.map (·.1))/\fs.length<=1000/\H dx=O (.own a):=by
 obtain⟨d,z,ne,ob,c,n,r,q⟩:=(show wC P w H h a (.ins C dx fs) from hok a _ e);rwa[c,⟨ob,n,ne⟩,r,q,z,d]
end

structure Cls(K:b9)(C:c5):Prop where
 pg:DB K C Ie=IT
 hd:Eu K C=IT
 po:Ge K C=IT
 sa:AO K (.ref C) "__setattr__" = O (O (.builtin "object.__setattr__"))
def Cls.get{K:b9}(c:Cls K C)(f:g8):DB K C f=true:=c.pg
def xm(K:b9)(C:c5)(f:g8):Prop:=AO K (.ref C) f=O IS
def xm.taker{K:b9}(n:xm K C f):Fm K C f=O none:=by
 unfold Fm;rw[show AO K (.ref C) f=O IS from n];rfl
structure Con(K:b9)(C:c5)(f:g8)(v:V)(u:c6):Prop where
 at_:AO K (.ref C) f=O (O u)
 rel:xI v u
 get:Gf K u "__get__" = O IS
 cp:PySem.W.copiedNames.contains f=IU
structure YE(K:b9)(C:c5)(m:g8)(f:c5):Prop where
 at_:AO K (.ref C) m=O (O (.ref f))
 fn:Gd K (.ref f)=IT
 kp:AQ K (.ref f)=IT

section
variable{X:Cx}{IV:List (c5×BD)}{σ:St}{H:Hp}{s:d8}{a C dx:c5}{fs:List (g8×V)}{f:g8}{v:V}{A:Aq}{E:c6->d8->Prop}

def du{Q:c6->d8->Prop}(I:Inv X IV σ H s)(e:H a=O (.ins C dx fs))(c:Cls X.K C)(n:xm X.K C f)(l:fs.lookup f=O v)
  (h:∀ u g,Inv X IV σ H g->xI v u->Q u g):wpAny (model X.prog X.w) A (getAttr (.ref a) f b) Q E s:=by
 obtain⟨i,d,r,_,_,_⟩:=kI I.hok e;obtain⟨u,j,ru⟩:=jm.some_of (v:=v) (o:=i f) (by rw[<- l]; rwa[r f]);rwa[Vt I.kIn d (c.get f) c.hd n j (aF ru) (h u _ (I.tok _) ru)]

def lL{Q:c6×List c6->d8->Prop}(I:Inv X IV σ H s)(e:H a=O (.ins C dx fs))(c:Cls X.K C)(k:YE X.K C m g)(l:fs.lookup m=IS)
  (h:Q (.ref g,[.ref a]) s):wpAny (model X.prog X.w) A (getMethod (.ref a) m i) Q E s:=by
 obtain⟨j,d,r,_,_,_⟩:=kI I.hok e;have n:j m=none:=jm.none_of (by rw[<- l]; rwa[r m]);rwa[YG I.kIn d (c.get m) k.at_ k.fn n h]

def dH{Q:Unit->d8->Prop}(I:Inv X IV σ H s)(e:H a=O (.ins C dx fs))(c:Cls X.K C)(n:xm X.K C f)(N:fs.length<1000)(D:xI y u)
  (h:∀ l,Inv X IV σ (upd H a (.ins C dx (pQ f y fs))) l->Q () l):wpAny (model X.prog X.w) A (setAttr (.ref a) f u) Q E s:=by
 obtain⟨m,d,r,j,_,p⟩:=kI I.hok e;have G:(fs.map (·.1)).length<=sizeLine:=by rw[ac,sizeLine_eq]; lia
 erw[Vg I.kIn d c.sa c.po n.taker c.hd j G λM i B=>h _ ?_];have hd:∃ o,M.get? dx=O o:=let ⟨o,_,_,e',_⟩:=i.ns;⟨o,e'⟩;erw[I.write (x:=a) (e:=dx) (by rw[e]; rwa[o0]) (.inr p) (λb q L z=>(B.2 b L).trans z) hd ?_];erw[by rw[zF d.ne]; exact p,?_,d.ne,i.obj,_,i.ns,λg=>?_,λg J=>?_]
 ·have:=oS f y fs; lia
 ·show jm ((pQ f y fs).lookup g) (if g=f then O u else m g);rw[oQ];by_cases q:g=f
  ·rw[y7 q,y7 q]; rwa[D]
  ·rw[y6 q,y6 q]; rwa[r g]
 ·by_cases q:g=f
  ·rw[q]; exact(ny f y fs).1
  ·refine(ny f y fs).2 g (j g λz=>J ?_);show(if g=f then O u else m g)=IS;rw[y6 q]; rwa[z]

def Inv.made(I:Inv X IV σ H s):Inv X IV σ (upd (upd H s.heap.objs.size (.own (s.heap.objs.size+1))) (s.heap.objs.size+1) (.ins C s.heap.objs.size []))
  { s with heap:=(s.heap.push Bb).push (BI C s.heap.objs.size) }:=by
 have c:(s.heap.push Bb).get? s.heap.objs.size=O Bb:=f9 s.heap rfl;have i:((s.heap.push Bb).push (BI C s.heap.objs.size)).get? (s.heap.objs.size+1)=O (BI C s.heap.objs.size):=by
  have:=f9 (s.heap.push Bb) (o:=BI C s.heap.objs.size) rfl;(rw[AR] at this;assumption)
 have h:(s.heap.push Bb).Ns s.heap.objs.size (λ_=>IS):=⟨Bb,#[],_,c,rfl,(λe g=>x4 g (by simp)),λ_=>rfl⟩;have j:=I.laid (a:=s.heap.objs.size) (o:=.own (s.heap.objs.size+1)) (h':=s.heap.push Bb) (t':=s.toks) (λb u q=>c8 _ q) (f6 _) ⟨_,c⟩;erw[j.laid (a:=s.heap.objs.size+1) (o:=.ins C s.heap.objs.size []) (t':=s.toks) (λb u q=>c8 _ q) (Il (AR _ _)) ?_];have ne:s.heap.objs.size≠s.heap.objs.size+1:=j9 (C0 _);erw[by rw[zF ne,zA],Aa _,ne,i,λ_=>IS,(Heap.Ns1.of_empty h).at λo q=>c8 _ q,λ_=>o0,λy d=>x4 rfl d]

def VG{f:g8}{s:d8}{Q:c6->d8->Prop}(d:attributeBase e f env (eval e env)=eval e env)
  (h:wpAny (model prog w) A (eval e env) (λo c=>wpAny (model prog w) A (getAttr o f IT) Q E c) E s):wpAny (model prog w) A (eval (.Attribute e f pos) env) Q E s :=
 Attribute_any_ h (by rw[arm_eval_Attribute,d])
end


section
variable{X:Cx}{IV:List (c5×BD)}{σ:St}{H:Hp}{s:d8}{A:Aq}{E:c6->d8->Prop}{Q:c6->d8->Prop}{c:c6}{b:Bool}
inductive TyOf(K:b9)(H:Hp):V->c6->Prop where
 | non:TyOf K H .non (.type "NoneType")
 | bl (x:Bool):TyOf K H (.bl x) (.type "bool")
 | int (i:Int):TyOf K H (.int i) (.type "int")
 | str (x:g8):TyOf K H (.str x) (.type "str")
 | flt (x:UInt64):TyOf K H (.flt x) (.type "float")
 | lst {a:c5} {xs:List V} (e:H a=O (.lst xs)):TyOf K H (.ref a) (.type "list")
 | frz {a:c5} {o:BD} {xs:List V} (e:H a=O (.frz o (.lst xs))):TyOf K H (.ref a) (.type "list")
 | tup {a:c5} {xs:List V} (e:H a=O (.tup xs)):TyOf K H (.ref a) (.type "tuple")
 | dK {a:c5} {kvs:List (Key×V)} (e:H a=O (.dK kvs)):TyOf K H (.ref a) (.type "dict")
 | dT {a:c5} {kvs:List (List Key×V)} (e:H a=O (.dT kvs)):TyOf K H (.ref a) (.type "dict")
 | ins {a C dx:c5} {fs:List (g8×V)} (e:H a=O (.ins C dx fs)) (cl:Cls K C) (ha:AO K (.ref C) "__class__" = O (O (.builtin "object.__class__")))
   (hn:Gf K (.builtin "object.__class__") "__get__" = O (O (.builtin "getset_descriptor.__get__"))) (htk:PySem.W.takesIn K (.builtin "object.__class__")=O IT)
   (hm:PySem.W.mroIn K C (.type "object")=O IT):TyOf K H (.ref a) (.ref C)
def bg(I:Inv X IV σ H s)(f:xI x u)(ty:TyOf X.K H x t)(e:Dr X.K t c=O b)(h:∀ v,Q (.bool b) { s with toks:=v }) :
  wpAny (model X.prog X.w) A (call (.builtin "isinstance") [u,c]) Q E s:=by
 cases ty with
 | non=>cases (show u=Ao from f); exact AU PySem.W.kitx_none I.kIn o0 e (λz=>nomatch z) h
 | bl y=>cases (show u=Fb y from f); exact AU PySem.W.kitx_bool I.kIn o0 e (λz=>nomatch z) h
 | int i=>obtain⟨t,q⟩:=(show ∃ t,u=BH i t from f); cases q; exact AU PySem.W.kitx_int I.kIn o0 e (λz=>nomatch z) h
 | str y=>obtain⟨t,q⟩:=(show ∃ t,u=CZ y t from f); cases q; exact AU PySem.W.kitx_str I.kIn o0 e (λz=>nomatch z) h
 | flt y=>obtain⟨t,q⟩:=(show ∃ t,u=FD y t from f); cases q; exact AU PySem.W.kitx_float I.kIn o0 e (λz=>nomatch z) h
 | @lst a l g =>
  cases (show u=j8 a from f);obtain⟨_,_,n,_,h1⟩:=(show wC X.prog X.w H s.heap a (.lst l) from I.hok a _ g);exact AU Gg I.kIn ⟨_,h1,rfl⟩ e (λz=>nomatch z) h
 | @frz a ob l g =>
  cases (show u=j8 a from f);obtain⟨_,_,_,n,_,h1⟩:=(show wC X.prog X.w H s.heap a (.frz ob (.lst l)) from I.hok a _ g);exact AU Gg I.kIn ⟨_,h1,rfl⟩ e (λz=>nomatch z) h
 | @tup a l g =>
  cases (show u=j8 a from f);obtain⟨_,_,_,p⟩:=(show wC X.prog X.w H s.heap a (.tup l) from I.hok a _ g);obtain⟨o,h1,h2,_⟩:=p;exact AU PySem.W.kitx_tuple I.kIn ⟨o,h1,h2⟩ e (λz=>nomatch z) h
 | @dK a j g =>
  cases (show u=j8 a from f);obtain⟨_,_,N,_,p⟩:=(show wC X.prog X.w H s.heap a (.dK j) from I.hok a _ g);obtain⟨o,L,M,h1,h2,_⟩:=p;exact AU Gh I.kIn ⟨o,h1,h2.1⟩ e (λz=>nomatch z) h
 | @dT a j g =>
  cases (show u=j8 a from f);obtain⟨_,_,l,_,o,L,M,h1,h2,_⟩:=(show wC X.prog X.w H s.heap a (.dT j) from I.hok a _ g);exact AU Gh I.kIn ⟨o,h1,h2.1⟩ e (λz=>nomatch z) h
 | @ins a C S fs g r G B m D =>
  cases (show u=j8 a from f);obtain⟨R,d,_⟩:=kI I.hok g;obtain⟨P,J,_⟩:=d.look;exact AU (PySem.W.kitx_own (r.get _) r.hd G B m D) I.kIn J e (λz=>nomatch z) h
end
end L2

namespace L2

structure qZ(k:Nat)(A:Aq):Prop where
 hd:A.handled=IS
 dp:A.depth+3*k+5<recursionLimit
 un:A.units+16*k+200<cLine
 gd:A.guards=O []
def qZ.mono{j k:Nat}(r:qZ k A)(h:j<=k):qZ j A:=⟨r.hd,by have:=r.dp; lia,by have:=r.un; lia,r.gd⟩
def qZ.deeper{k:Nat}(r:qZ (k+1) A)(env:D9):qZ k (A.deeper env) :=
 ⟨r.hd,by have:=r.dp; show A.depth+1+3*k+5<_; lia,by have:=r.un; show A.units+3+16*k+200<_; lia,r.gd⟩
def dJ{A:Aq}{a:List c6}{c:List (g8×c6)} : (A.under (.builtin "type.__call__" ⟨.ref C::a,c⟩)).depth=A.depth+1:=by
 first | rfl | simp[Fd,Code.weight,Code.isCreation,Im,Code.isCaller,IC,Gi,guardIds]
def dX{A:Aq}{a:List c6}{c:List (g8×c6)} : (A.under (.builtin "type.__call__" ⟨.ref C::a,c⟩)).units=A.units+1:=by
 first | rfl | simp[Fd,Code.cUnits,IC,Gi]
def qZ.make{k:Nat}(r:qZ (k+1) A)(C:c5)(a:List c6)(c:List (g8×c6)):qZ k (A.under (.builtin "type.__call__" ⟨.ref C::a,c⟩)) :=
 ⟨r.hd,by have:=r.dp; rw[dJ]; lia,by have:=r.un; rw[dX]; lia,by first | exact r.gd | (rw[Fd]; simpa [pushGuards,Code.guards,Im,guardIds] using r.gd)⟩
def qZ.depth{k:Nat}(r:qZ k A):A.depth<recursionLimit:=by have:=r.dp; lia
def qZ.units{k:Nat}(r:qZ k A):A.units+64<cLine:=by have:=r.un; lia
def qZ.units0{k:Nat}(r:qZ k A):A.units<cLine:=by have:=r.un; lia

def Tq:TA:=λ_ H Q=>Q [] H
def VC(e:TE)(d:TA):TA:=λa H Q=>e a H λx g=>d a g λc f=>Q (x::c) f
section
variable{X:Cx}{e:An}{es:List An}{te:TE}{t:TA}{pos:Dm}
def zN:PA X [] Tq:=λ_ _ _ _ H Q I h=>Gj ⟨[],H,I,.nil,h⟩
def zI(o:PE X e te)(n:PA X es t)(m:starEach (e::es) X.env=(IU,eval e X.env)::starEach es X.env:=by rfl):PA X (e::es) (VC te t):=by
 intro pos c s a H Q I h;rw[m];show wpAny _ _ (spliced ((IU,eval e X.env)::backTo pos (starEach es X.env))) _ _ s;erw[F5 (thn (o c s a H _ I h) λu f ⟨x,v,q,i,l⟩=>?_)];rwa[thn (n pos c f a v _ q l) λw y ⟨d,r,p,g,j⟩=>⟨x::d,r,p,.cons i g,j⟩]

def tTup(t:TA):TE:=λd H Q=>t d H λa c=>a.length<=sizeLine/\∀ p,c p=IS->Q (.ref p) (upd c p (.tup a))
def tLst(t:TA):TE:=λd H Q=>t d H λa c=>a.length<=sizeLine/\∀ p,c p=IS->Q (.ref p) (upd c p (.lst a))
def io{x1}(h:PA X es t):PE X (.Tuple es x1 pos) (tTup t):=by
 intro m s f H Q I j;erw[wpAny_Tuple_spliced (thn (h pos m s f H _ I j) λi a ⟨g,d,c,r,z,q⟩=>⟨by rw[<- r.length]; exact z,?_⟩)];have l:d a.heap.objs.size=none:=c.hok.fresh (f6 _);erw[.ref a.heap.objs.size,upd d a.heap.objs.size (.tup g),c.laid (t':=a.toks) (λb u e=>c8 _ e) (f6 _) ?_,rfl,q _ l];rwa[z,i,r,⟨_,f9 _ rfl,rfl,_,rfl⟩]
def aZ(h:PA X es t):PE X (.List es pos) (tLst t):=by
 intro m s f H Q I j;erw[wpAny_List_spliced (thn (h pos m s f H _ I j) λi a ⟨g,d,c,r,z,q⟩=>⟨by rw[<- r.length]; exact z,?_⟩)];have l:d a.heap.objs.size=none:=c.hok.fresh (f6 _);erw[.ref a.heap.objs.size,upd d a.heap.objs.size (.lst g),c.laid (t':=a.toks) (λb u e=>c8 _ e) (f6 _) ?_,rfl,q _ l];rwa[z,i,0,r,f9 _ rfl]
end

abbrev Sp:=List V->Hp->VK->XK->Prop
abbrev CXT:=List D9->Hp->d8->XK->c6->d8->Prop

structure XV(P:j7)(w:m9)(K:b9)(mg:g8->Option c6)(base:v8)(A:Aq)(outer:List D9)(s:d8)(H:Hp):Prop where
 frames:A.frames=O outer
 mod:Mod K mg base
 bs:∀ b o,base.get? b=O o->s.heap.get? b=O o/\H b=IS
 bsz:base.objs.size<=s.heap.objs.size
 funs:s.heap.FunFrames base outer
 frf:∀ b∈frs outer,H b=IS
 hok:HOk P w H s.heap
 bare:DY s.gens
def CE(outer:List D9)(P:j7)(w:m9)(H:Hp)(s:d8)(Q:VK)(u:c6)(a:d8):Prop :=
 ∃ v c,a.os=s.os/\DY a.gens/\Un (frs outer) [] H c s.heap a.heap/\HOk P w c a.heap/\xI v u/\Q v c
def CR(c:CXT)(outer:List D9)(P:j7)(w:m9)(H:Hp)(s:d8)(Q:VK)(E:XK)(r:Result)(a:d8):Prop :=
 match r with
 | .ok (.ret u)=>CE outer P w H s Q u a
 | .ok _=>False
 | .error e=>c outer H s E e a
structure yN(P:j7)(w:m9)(K:b9)(mg:g8->Option c6)(base:v8)(CX:CXT)(k:Nat)(f:c5)(fd:AN)(ps:List g8)(sp:Sp):Prop where
 len:∀ vs H Q E,sp vs H Q E->vs.length=ps.length
 run:∀(A:Aq)(outer:List D9)(s:d8)(H:Hp)(args:Args)(us:List c6)(vs:List V)(Q:VK)(E:XK),qZ k A->XV P w K mg base A outer s H->Fe s fd args (ps.zip us)->yS vs us->sp vs H Q E ->
  codeAny (model P w) A (.call (.ref f) args) (CR CX outer P w H s Q E) s
def XV.make{K:b9}{mg:g8->Option c6}{H:Hp}(e:XV P w K mg base A outer s H)(C:c5)(a:List c6)(c:List (g8×c6)) :
  XV P w K mg base (A.under (.builtin "type.__call__" ⟨.ref C::a,c⟩)) outer s H:=⟨by first | exact e.frames | (simpa [Fd,Code.envs,Gi,pushEnvs] using e.frames),e.mod,e.bs,e.bsz,e.funs,e.frf,e.hok,e.bare⟩
section
variable{X:Cx}{IV:List (c5×BD)}{σ:St}{H:Hp}{s s':d8}
def Inv.env0(I:Inv X IV σ H s):XV X.prog X.w X.K X.mg X.base X.A X.stack s H :=
 ⟨I.ok.frames,I.ok.mod,I.bs,f8 I.ok.bsz I.sz,I.stack,I.stkFree,I.hok,I.bare⟩
def Inv.after{Q:VK}(I:Inv X IV σ H s)(h:CE X.stack X.prog X.w H s Q u s'):EP X IV σ Q u s':=by
 obtain⟨v,e,os,bare,un,hok,r,q⟩:=h;obtain⟨c,g,d,t,a⟩:=s';obtain rfl:a=s.os:=os;rwa[v,e,I.call (h':=c) (g':=g) (d':=d) (t':=t) (ch:=[]) un hok bare (λb z=>x4 z (by simp)),r,q]
end

def bx(e:Sp)(a:List V)(E:XK)(t:TA):TE:=λc H Q=>t c H λd f=>e (d++a) f Q E
def nh(K:b9)(fd:AN)(c:List g8)(d:List c6):Prop :=
 ∀(s:d8)(a:List c6),K.In s.heap->(a++d).length=c.length->Fe s fd ⟨a,[]⟩ (c.zip (a++d))
def nh.all{K:b9}{c:List g8}(h:∀ a:List c6,a.length=c.length->bindArgs fd ⟨a,[]⟩=pure (c.zip a)):nh K fd c []:=λs a _ d=>by
 rw[Cf] at d ⊢;rwa[.of_eq (h a d)]

def jX(f:CXT)(X:Cx)(E:XK):Prop:=∀(d:List (c5×BD))(c:St)(H:Hp)(s:d8)(e:c6)(a:d8),Inv X d c H s->f X.stack H s E e a->X.xe e a

section
variable{X:Cx}{CX:CXT}{k:Nat}{f C:c5}{fd:AN}{ps:List g8}{sp:Sp}{dvs:List V}{ds:List c6}{E:XK}{x m:g8}{p pos apos:Dm}{e o:An}{es:List An}{ta:TE}{t:TA}

def iL{c:St}{H:Hp}{Q:VK}(F:yN X.prog X.w X.K X.mg X.base CX k f fd ps sp)(l:qZ k X.A)(q:nh X.K fd ps ds)(hd:yS dvs ds)(j:jX CX X E)
  (I:Inv X d c H s) (r:yS vs us) (h:sp (vs++dvs) H Q E):wpAny (model X.prog X.w) X.A (call (.ref f) us) (EP X d c Q) X.xe s:=by
 have g:yS (vs++dvs) (us++ds):=r.append hd;have n:(us++ds).length=ps.length:=by rw[<- g.length]; rwa[F.len _ _ _ _ h]
 erw[F6 (codeAny_mono (F.run X.A X.stack s H ⟨us,[]⟩ (us++ds) (vs++dvs) Q E l I.env0 (q s us I.kIn n) g h) λr i a=>?_)];cases r with
 | error e=>rwa[j d c H s e i I a]
 | ok v =>
  cases v with
  | ret u=>rwa[I.after a]
  | next=>rwa[AZ a]
  | brk=>rwa[AZ a]
  | cont=>rwa[AZ a]

def VL(F:yN X.prog X.w X.K X.mg X.base CX k f fd ps sp)(j:qZ k X.A)(u:Gl X x)(l:X.mg x=O (.ref f))(n:AQ X.K (.ref f)=IT)(y:nh X.K fd ps ds)(hd:yS dvs ds)(i:jX CX X E)
  (z:PA X (e::es) t) (c:(x ==("__debug__" : g8))=false:=by decide) (v:starEach (e::es) X.env=(IU,eval e X.env)::starEach es X.env:=by rfl) (a:(backTo pos (starEach es X.env)).any (·.1)=false:=by rfl) :
  PE X (.Call (.Name x p) (e::es) [] pos) (bx sp dvs E t):=by
 intro B s g H Q I h;erw[BX (yn I u l ?_ c)];erw[Dk (h₀:=X.base) I.ok.mod.kin n (thn (z pos B s g H _ I h) λG J ⟨D,L,d,r,q⟩=>⟨d.kIn,?_⟩) v a];rwa[iL F j y hd i d r q]
def Yn(F:yN X.prog X.w X.K X.mg X.base CX k f fd ps sp)(d:qZ k X.A)(j:Gl X x)(g:X.mg x=O (.ref f))(i:AQ X.K (.ref f)=IT)(l:nh X.K fd ps ds)(hd:yS dvs ds)(c:jX CX X E)
  (a:(x ==("__debug__" : g8))=false:=by decide):PE X (.Call (.Name x p) [] [] pos) (bx sp dvs E Tq):=by
 intro q s n H Q I h;erw[BX (yn I j g ?_ a)];rwa[DU I.kIn i (iL (us:=[]) F d l hd c I .nil h)]

structure Mk(K:b9)(C f:c5):Prop where
 makes:G3 K C=IT
 init:AO K (.ref C) "__init__" = O (O (.ref f))
 fn:Gd K (.ref f)=IT
 kp:AQ K (.ref C)=IT

def Xs{g:St}{H:Hp}{Q:VK}(M:Mk X.K C f)(F:yN X.prog X.w X.K X.mg X.base CX k f fd ps sp)(B:qZ (k+1) X.A)(G:nh X.K fd ps ds)(hd:yS dvs ds)
  (z:jX CX X E) (I:Inv X i g H s) (r:yS vs us)
  (h:∀ x c,H x=IS->H c=IS->c≠x->sp (.ref x::(vs++dvs)) (upd (upd H c (.own x)) x (.ins C c [])) (λv P=>v=.non/\Q (.ref x) P) E) :
  wpAny (model X.prog X.w) X.A (call (.ref C) us) (EP X i g Q) X.xe s:=by
 have l:=h (s.heap.objs.size+1) s.heap.objs.size (I.hok.fresh (Ck _)) (I.hok.fresh (f6 _)) (j9 (C0 _));have d:=Inv.made (C:=C) I;have j:yS (V.ref (s.heap.objs.size+1)::(vs++dvs)) (j8 (s.heap.objs.size+1)::(us++ds)):=.cons rfl (r.append hd);have D:(j8 (s.heap.objs.size+1)::us++ds).length=ps.length:=by
  have e:=j.length;rw[F.len _ _ _ _ l] at e;rwa[e.symm]
 refine F6 (ZX (f:=f) I.kIn M.makes M.init (beq_iff_eq.mp M.fn) (codeAny_mono (F.run _ X.stack _ _ ⟨j8 (s.heap.objs.size+1)::us,[]⟩ (j8 (s.heap.objs.size+1)::(us++ds)) _ _ E (B.make C us [])
  (d.env0.make C us []) (G _ (j8 (s.heap.objs.size+1)::us) d.kIn D) j l) λr n a=>?_))
 cases r with
 | error e=>rwa[z i g _ _ e n d a]
 | ok J =>
  cases J with
  | ret u =>
   obtain⟨v,R,N,q,L,y⟩:=d.after a;subst L;rwa[q,⟨V.ref (s.heap.objs.size+1),R,N,rfl,y⟩]
  | next=>rwa[AZ a]
  | brk=>rwa[AZ a]
  | cont=>rwa[AZ a]
end

section
variable{X:Cx}{CX:CXT}{k:Nat}{f C:c5}{fd:AN}{ps ks:List g8}{sp:Sp}{E:XK}{x m:g8}{p pos apos kpos:Dm}{e o:An}{es:List An}{kws:List Ev}{te ta:TE}{t tk:TA}{nm:Option g8}
structure KBinds(K:b9)(fd:AN)(ps ks:List g8)(g:List c6->List c6->List c6)(gV:List V->List V->List V):Prop where
 to:∀(s:d8)(us ws:List c6),K.In s.heap->(g us ws).length=ps.length->Fe s fd ⟨us,ks.zip ws⟩ (ps.zip (g us ws))
 rel:∀{vs:List V}{us:List c6}{zs:List V}{ws:List c6},yS vs us->yS zs ws->yS (gV vs zs) (g us ws)
variable{g:List c6->List c6->List c6}{gV:List V->List V->List V}
end

structure zL(N P:List g8)(sc:Dy):Prop where
 kind:sc.kind=.function
 co:sc.isCoroutine=IU
 gen:sc.isGenerator=IU
 nd:N.Nodup
 pre:N.take P.length=P
 par:∀ x∈P,sc.names.lookup x=O .local\/sc.names.lookup x=O .cell
 nofree:∀ y∈sc.names,y.2≠.free

def ic{kindOf:g8->Option CS}{x:g8} : ∀{binds:List (g8×c6)}{m:g8->Option c6},(∀ v,(x,v) ∉ binds)->bindL kindOf binds m x=m x
 | [],_,_=>rfl
 | (n,v)::r,m,h=>by
  unfold bindL;rw[ic λw a=>h w (x8 _ a)];split
  ·have:x≠n:=by rintro rfl; rwa[h v Ab]
   simp[this]
  ·rfl
def jS{kindOf:g8->Option CS}{x:g8} : ∀{binds:List (g8×c6)}{m:g8->Option c6},(∀ v,(x,v) ∉ binds)->bindC kindOf binds m x=m x
 | [],_,_=>rfl
 | (n,v)::r,m,h=>by
  unfold bindC;rw[jS λw a=>h w (x8 _ a)];split
  ·rfl
  ·have:x≠n:=by rintro rfl; rwa[h v Ab]
   simp[this]
def iR{kindOf:g8->Option CS} : ∀{P:List g8}{a:List c6}{i:Nat}{m:g8->Option c6},P.Nodup->P[i]?=O x->a[i]?=O v->kindOf x=O .local ->
  bindL kindOf (P.zip a) m x=O v
 | [],_,_,_,_,h,_,_=>by simp at h
 | _::_,[],_,_,_,_,h,_=>by simp at h
 | p::P,w::a,0,m,nd,h1,h2,c=>by
  simp at h1 h2; subst h1; subst h2;show bindL kindOf ((p,w)::P.zip a) m p=_;unfold bindL;rw[ic λv d=>(DM.mp nd).1 (Fo d).1,y7 c];simp
 | p::P,w::a,i+1,m,nd,h1,h2,c=>by
  show bindL kindOf ((p,w)::P.zip a) m x=_;unfold bindL;exact iR (i:=i) (DM.mp nd).2 (by simpa using h1) (by simpa using h2) c
def iA{kindOf:g8->Option CS} : ∀{P:List g8}{a:List c6}{i:Nat}{m:g8->Option c6},P.Nodup->P[i]?=O x->a[i]?=O v->kindOf x≠O .local ->
  bindC kindOf (P.zip a) m x=O v
 | [],_,_,_,_,h,_,_=>by simp at h
 | _::_,[],_,_,_,_,h,_=>by simp at h
 | p::P,w::a,0,m,nd,h1,h2,c=>by
  simp at h1 h2; subst h1; subst h2;show bindC kindOf ((p,w)::P.zip a) m p=_;unfold bindC;rw[jS λv d=>(DM.mp nd).1 (Fo d).1,y6 c];simp
 | p::P,w::a,i+1,m,nd,h1,h2,c=>by
  show bindC kindOf ((p,w)::P.zip a) m x=_;unfold bindC;exact iA (i:=i) (DM.mp nd).2 (by simpa using h1) (by simpa using h2) c

def kX(N:List g8)(a:List V):St:=a.map O++Be (N.length-a.length) IS

def cxOf(h:CXT)(P:j7)(w:m9)(K:b9)(mg:g8->Option c6)(base:v8)(N:List g8)(c:g8)(a:Dy)(f:c5)(g:c6)(A:Aq)(outer:List D9)(s:d8)(H:Hp)(E:XK):Cx where
 prog:=P
 w:=w
 K:=K
 mg:=mg
 base:=base
 A:=A.deeper (envOfC c a s.heap.objs.size f g)
 N:=N
 s₀:=s
 H₀:=H
 env:=envOfC c a s.heap.objs.size f g
 outer:=outer
 stack:=envOfC c a s.heap.objs.size f g::outer
 ex:=[]
 calm:=IT
 fn:=λ_=>IT
 pn:=[]
 xe:=λe i=>wpAny (model P w) (A.deeper (envOfC c a s.heap.objs.size f g)) (leaving (envOfC c a s.heap.objs.size f g) e) (λ_ d=>h outer H s E e d) (λj d=>h outer H s E j d) i

def fB{a:Dy}{n:Nat}(h:a.names.lookup x=O .cell):∃ c,(cellsFrom n a.names []).lookup x=O c:=by
 have q:=Ff a.names n [] (.inl h);rwa[i3.mp q]

def Zk{Q:CXT}{K:b9}{mg:g8->Option c6}{A:Aq}{H:Hp}{E:XK}{l:List V}
  (S:zL N m d) (hd:A.handled=IS) (j:XV P w K mg base A outer s H) (Z:l.length=m.length) (r:yS l I)
  (x:InCallC s s.heap.objs.size (bindL (envOfC g d s.heap.objs.size f G).kindOf (m.zip I) λ_=>IS) (cellsFrom (s.heap.objs.size+1) d.names []) (bindC (envOfC g d s.heap.objs.size f G).kindOf (m.zip I) λ_=>IS) J) :
  Inv (cxOf Q P w K mg base N g d f G A outer s H E) [] (kX N l) H J:=by
 have T:m.length<=N.length:=by have:=congrArg AH S.pre; rw[j3] at this; lia
 obtain⟨h1,Y,rfl,M⟩:=x.done;have o:∀ b:c5,b ∉ (cxOf Q P w K mg base N g d f G A outer s H E).ex:=λb z=>x4 (show b∈([]:List c5) from z) (by simp);refine⟨⟨j.mod,S.kind,U,U,f6 _,λy z c h1 h2=>?_,λy B=>?_,λy c _ h=>?_,λ_=>hd,Around.frames_deeper j.frames,.inr ⟨U,U⟩,λb z=>x4 z (o b),j.bs,j.bsz,λb _ _=>o b,λb z=>x4 z (o b),j.funs,j.frf⟩,
  rfl,j.bare,Un.kept M,⟨_,x.toInCall.ns,λi y v h1 h2 h3=>?_⟩,λy c h=>⟨_,x.cell y c h⟩,j.hok.fresh (f6 _),λy c h=>?_,λp D=>x4 (show p∈([]:List (c5×BD)) from D) (by simp),j.hok.kept M,?_⟩
 ·rwa[name_of_addr x.apart (BM h1) (BM h2)]
 ·have B:d.names.lookup y=O .cell\/d.names.lookup y=O .free:=B;rcases B with B | B
  ·rwa[fB B]
  ·rwa[x4 rfl (S.nofree _ (BM B))]
 ·rwa[AV (x.above y c (BM h))]
 ·have hi:i<l.length:=by
   unfold kX at h2;by_cases hi:i<l.length
   ·rwa[hi]
   ·rw[t9 (by simpa using hi)] at h2;rw[EU] at h2;split at h2 <;> cases h2
  have X:l[i]?=O v:=by
   unfold kX at h2;rw[Ag (by simpa using hi),d7] at h2;cases e:l[i]? with
   | none=>rw[e] at h2; cases h2
   | some a=>rw[e] at h2; cases h2; rfl
  obtain⟨u,L,R⟩:=r.get X;have D:m[i]?=O y:=by
   rw[<- S.pre,List.getElem?_take_of_lt (by lia)]; rwa[h1]
  have C:m.Nodup:=by rw[<- S.pre]; rwa[S.nd.sublist (List.take_sublist _ _)]
  exists u,R;rcases S.par y (e9 D) with k | k
  ·rwa[.inl ⟨k,iR C D L k⟩]
  ·obtain⟨c,e⟩:=fB (n:=s.heap.objs.size+1) k;erw[.inr ⟨.inl k,c,e,?_⟩];have q:=x.cell y c e;rw[iA C D L (by show d.names.lookup y≠_; rw[k]; decide)] at q;rwa[q]
 ·rwa[j.hok.fresh (AV (x.above y c (BM h)))]
 ·unfold kX;show _=N.length;rw[f7,ac,Bc];lia

def Sw{L:CXT}{K:b9}{mg:g8->Option c6}{k:Nat}{dV kV D pm d ct oc:c6}{an od:Option c5}
  {X:Array (Option c6)}  {M:Sp} (lk:K.lookup f=O ⟨oc,od,.func (AD i c params body a dV kV D pm an d ct),X⟩) (hcd:CT K d c=IT) (S:zL N G a)
  (len:∀ h H Q E,M h H Q E->h.length=G.length)
  (m:∀(A:Aq)(outer:List D9)(s:d8)(H:Hp)(h:List V)(Q:VK)(E:XK),qZ k (A.deeper (envOfC c a s.heap.objs.size f d))->M h H Q E ->
   ∃ t,PSs (cxOf L P w K mg base N c a f d A outer s H E) body t/\t { nx:=λ_ j=>Q .non j,rt:=Q } (kX N h) H) :
  yN P w K mg base L (k+1) f (AD i c params body a dV kV D pm an d ct) G M:=by
 refine⟨len,λA outer s H args us h Q E Z C hb r z=>?_⟩;have hl:=len _ _ _ _ z;have KX:K.In s.heap:=C.mod.kin.keeps λb o e=>(C.bs b o e).1;have Y:s.heap.NoLimit:=C.mod.nolimit.keeps λb o e=>(C.bs b o e).1;have l:∀ y∈G.zip us,a.names.lookup y.1=O .local\/(a.names.lookup y.1=O .cell/\((cellsFrom (s.heap.objs.size+1) a.names []).lookup y.1).isSome=IT):=λ⟨n,v⟩ hy=>by
  rcases S.par n (Fo hy).1 with q | q
  ·rwa[.inl q]
  ·rwa[.inr ⟨q,Ff _ _ _ (.inl q)⟩]
 refine codeAny_call_function Z.depth (KX _ _ lk) rfl S.co S.gen rfl (PySem.W.codeRec_of KX hcd) (hb _ _ _ _ ?_);refine wpAny_newFunctionEnv_cells S.kind l λenv he s1 x=>?_;subst he;refine⟨Y.keeps x.toInCall.keep,codeAny_func ?_⟩;obtain⟨t,ht,hq⟩:=m A outer s H h Q E (Z.deeper _) z;have I:Inv (cxOf L P w K mg base N c a f d A outer s H E) [] (kX N h) H s1:=Zk S Z.hd C hl r x;refine Cm (ht [] s1 (kX N h) H _ I hq) (λfl R p=>?_) λe R p=>p;have B:∀{g:St}{j:Hp}{v:V}{u:c6},Inv (cxOf L P w K mg base N c a f d A outer s H E) [] g j R->xI v u->Q v j->CE outer P w H s Q u R :=
  λ{g j v u} J T q=>⟨v,j,J.os,J.bare,J.base,J.hok,T,q⟩
 cases fl with
 | ret u =>
  obtain⟨v,g,j,J,T,q⟩:=p;rwa[B J T q]
 | next =>
  obtain⟨g,j,J,q⟩:=p;rwa[B (v:=V.non) (u:=Ao) J rfl q]
 | brk =>
  obtain⟨_,_,_,q⟩:=p;rwa[AZ q]
 | cont =>
  obtain⟨_,_,_,q⟩:=p;rwa[AZ q]
end L2

namespace L2
section
variable{X:Cx}{x:g8}{p pos:Dm}{e:An}{es:List An}{t:TA}{id T:String}{r:List V->Hp->VK->Prop}

def tCB(r:List V->Hp->VK->Prop)(t:TA):TE:=λa H Q=>t a H λc d=>r c d Q
def yE(w:uN X (.builtin id) r)(u:Gl X x)(q:X.mg x=IS)(n:bootBuiltins x=O (.builtin id))(y:PA X (e::es) t)(o:x ≠ "__name__" := by decide)(c:(x ==("__debug__" : g8))=false:=by decide)
  (v:starEach (e::es) X.env=(IU,eval e X.env)::starEach es X.env:=by rfl) (a:(backTo pos (starEach es X.env)).any (·.1)=false:=by rfl):PE X (.Call (.Name x p) (e::es) [] pos) (tCB r t):=by
 intro f s d H Q I h;erw[BX (mP I u q n ?_ o c)];rwa[GG (thn (y pos f s d H _ I h) λi j ⟨g,A,z,l,m⟩=>w f j d A g i Q z l m) v a]
def yT(w:uN X (.type T) r)(u:Gl X x)(q:X.mg x=IS)(n:bootBuiltins x=O (.type T))(y:PA X (e::es) t)(o:x ≠ "__name__" := by decide)(c:(x ==("__debug__" : g8))=false:=by decide)
  (v:starEach (e::es) X.env=(IU,eval e X.env)::starEach es X.env:=by rfl) (a:(backTo pos (starEach es X.env)).any (·.1)=false:=by rfl):PE X (.Call (.Name x p) (e::es) [] pos) (tCB r t):=by
 intro f s d H Q I h;erw[BX (mP I u q n ?_ o c)];rwa[BQ (thn (y pos f s d H _ I h) λi j ⟨g,A,z,l,m⟩=>w f j d A g i Q z l m) v a]
end
end L2

namespace HT
open PySem PyProof.Rows

def lexLt:List Int->List Int->Bool
 | [],[]=>IU
 | [],_::_=>IT
 | _::_,[]=>IU
 | x::c,y::a=>if x=y then lexLt c a else decide (x<y)
section
open PySem.SeqAt
open PySem.AutoSeq1 (wpAny_loadPart')
open PySem.MeetsSeq PySem.MeetsSeq2 PySem.MeetsSeq3

end

section
variable{prog:j7}{w:m9}{A:Aq}{E:c6->d8->Prop}{s:d8}

def sIx(n d:Nat):Option Int->Nat
 | none=>d
 | some v=>if v<0 then(v+(n:Int)).toNat else min v.toNat n
def sIx_nat(n d k:Nat):sIx n d (O (k:Int))=min k n:=by
 show(if (k:Int)<0 then((k:Int)+(n:Int)).toNat else min (k:Int).toNat n)=min k n;rw[y6 (by lia),i4]
def TR(n d:Nat)(hd:d<=n)(o:Option Int):sIx n d o<=n:=by
 cases o with
 | none=>rwa[hd]
 | some v =>
  show(if v<0 then(v+(n:Int)).toNat else min v.toNat n)<=n;by_cases a:v<0
  ·rw[y7 a]; lia
  ·rw[y6 a]; rwa[Nat.min_le_right _ _]
def bt(v:Int)(n d:Nat):(if v<0 then max (v+(n:Int)) 0 else min v (n:Int))=((sIx n d (O v):Nat):Int):=by
 show(if v<0 then max (v+(n:Int)) 0 else min v (n:Int))=(((if v<0 then(v+(n:Int)).toNat else min v.toNat n):Nat):Int);by_cases a:v<0
 ·simp only[y7 a]; lia
 ·simp only[y6 a]; lia
def dW(lo hi:Option Int)(n:Nat):C8 lo hi 1 (n:Int)=(((sIx n 0 lo:Nat):Int),((sIx n n hi:Nat):Int)):=by
 have h1:¬ ((1:Int)<0):=by lia
 unfold C8;simp only[h1,if_false];erw[Gk ?_ ?_]
 ·cases lo with
  | none=>rfl
  | some v=>rwa[bt v n 0]
 ·cases hi with
  | none=>rfl
  | some v=>rwa[bt v n n]
def ca(i j:Nat):Cd (i:Int) (j:Int) 1=j-i:=by
 unfold Cd;have h1:(1:Int)>0:=by lia
 simp only[h1,if_true,Int.ediv_one];split <;> lia
def mT{Q:Option Int->d8->Prop}(p:F7 v o)(h:Q o s):wpAny (model prog w) A (G4 v) Q E s:=by
 cases p with
 | none=>rwa[slicePart_none h]
 | int i t=>rwa[slicePart_int h]
def qh{lo hi:Option Int}{n:Nat}{Q:Int×Int×Nat->d8->Prop}(j:s.heap.IsSliceOf f e d .none)(i:F7 e lo)(g:F7 d hi)
  (h:Q (((sIx n 0 lo:Nat):Int),1,sIx n n hi-sIx n 0 lo) s):wpAny (model prog w) A (Ee (.ref f) (pure (n:Int))) Q E s:=by
 obtain⟨os,a,l,c⟩:=id j;unfold Ee HE;erw[b7 (b7 (AC a c (x:=e) rfl (b7 (AC a c (x:=d) rfl (b7 (AC a c (x:=.none) rfl (d9 ?_)))))))];erw[b7 (slicePart_none ?_)];show wpAny _ _ (if ((1:Int) == 0)=IT then _ else _) _ _ s;rw[y6 (by decide)];erw[b7 (mT i (b7 (mT g (b7 (d9 ?_)))))];show wpAny _ _ (match C8 lo hi 1 (n:Int) with | (lo,hi)=>pure (lo,(1:Int),Cd lo hi 1)) _ _ s;rw[dW lo hi n];show wpAny _ _ (pure (((sIx n 0 lo:Nat):Int),(1:Int),Cd ((sIx n 0 lo:Nat):Int) ((sIx n n hi:Nat):Int) 1)) _ _ s;rw[ca];rwa[d9 h]
def YD(a:Array c6)(i k:Nat):((AK k).filterMap λ(m:Nat)=>a[((i:Int)+(m:Int)*1).toNat]?).toArray=((a.toList.drop i).take k).toArray:=by
 have e:(λ(m:Nat)=>a[((i:Int)+(m:Int)*1).toNat]?)=λm=>a[i+m]?:=by
  funext m
  have:((i:Int)+(m:Int)*1).toNat=i+m:=by lia
  rw[this]
 rw[e];have:=pick_run a i k;rw[List.filterMap_map] at this;have c:((λx=>a[x]?) ∘ λx=>i+x)=λm=>a[i+m]?:=rfl;rw[c] at this;rw[this]

def getItem_tuple_cut{lo hi:Option Int}{Q:c6->d8->Prop}(d:IsTup s.heap t a)(o:s.heap.IsSliceOf e n l .none)(r:F7 n lo)(p:F7 l hi)
  (u:¬ (sIx a.size 0 lo=0/\sIx a.size a.size hi=a.size))
  (h:Q (.ref s.heap.objs.size) { s with heap:=s.heap.push { cls:=.type "tuple",data:=.seq ((a.toList.drop (sIx a.size 0 lo)).take (sIx a.size a.size hi-sIx a.size 0 lo)).toArray } })
  (v:a.size<=sizeLine):wpAny (model prog w) A (getItem (.ref t) (.ref e)) Q E s:=by
 have c:sizeOk (.seq ((a.toList.drop (sIx a.size 0 lo)).take (sIx a.size a.size hi-sIx a.size 0 lo)).toArray):=by
  show((a.toList.drop (sIx a.size 0 lo)).take (sIx a.size a.size hi-sIx a.size 0 lo)).toArray.size<=sizeLine;rw[i5,j3,Ad,Ap];lia
 have B:sIx a.size a.size hi<=a.size:=TR _ _ (f6 _) hi;obtain⟨os,f,i,x⟩:=id o;have j:s.TypeIs (.ref e) "slice" :=⟨os,f,i⟩;unfold getItem
 try with_reducible refine Bo ?_
 first | refine b7 (d9 ?_) | skip
 refine b7 (wpAny_sequenceKey d.typeIs (by decide) ?_);refine b7 (At (name:=Br "__getitem__") d.typeIs Cr
  (Ar Cr d.typeIs entry_tuple_getitem ?_ (args_tuple_getitem _ _)))
 show wpAny _ _ (Hf (.ref t) >>= _) _ _ s;refine b7 (tupleItemsOf_ d ?_);refine b7 (wpAny_typeOf j ?_);rw[y7 (by decide)];refine b7 (qh o r p ?_);have g:¬ ((((sIx a.size 0 lo:Nat):Int) == 0&&(1:Int) == 1&&(sIx a.size a.size hi-sIx a.size 0 lo) == a.size)=IT):=by
  intro q;rw[AJ,AJ] at q;have z:((sIx a.size 0 lo:Nat):Int)=0:=eq_of_beq q.1.1;have y:sIx a.size a.size hi-sIx a.size 0 lo=a.size:=eq_of_beq q.2;rwa[u ⟨by lia,by lia⟩]
 show wpAny _ _ (if (((sIx a.size 0 lo:Nat):Int) == 0&&(1:Int) == 1&&(sIx a.size a.size hi-sIx a.size 0 lo) == a.size)=IT then _ else _) _ _ s;rw[y6 g,YD]
 first
  | exact b7 (m:=Cn _) (Ac (d9 ⟨_,rfl,d9 h⟩) c)
  | exact b7 (m:=Cn _) (Ac (b7 (d9 (d9 ⟨_,rfl,d9 h⟩))) c)
  | exact b7 (b7 (m:=Cn _) (Ac (d9 (d9 ⟨_,rfl,d9 h⟩)) c))
  | exact b7 (b7 (m:=Cn _) (Ac (d9 ⟨_,rfl,d9 h⟩) c))
end
end HT

namespace L2

abbrev TO:=St->Hp->(Option Int->Hp->Prop)->Prop
def PO(X:Cx)(e:Option An)(t:TO):Prop :=
 ∀(c:List (c5×BD))(s:d8)(a:St)(H:Hp)(Q:Option Int->Hp->Prop),Inv X c a H s->t a H Q ->
  wpAny (model X.prog X.w) X.A (evalPart e X.env) (λu f=>∃ o d,Inv X c a d f/\F7 u o/\Q o d) X.xe s
def VO:TO:=λ_ H Q=>Q IS H
def tPart(t:TE):TO:=λa H Q=>t a H λx c=>∃ i,x=.int i/\Q (O i) c

def dw{ns:List Int} : ∀{a:List c6},yS (ns.map V.int) a->Fg a ns:=by
 induction ns with
 | nil=>intro a r; rw[DZ] at r; cases r; rwa[.nil]
 | cons n ns f =>
  intro a r;rw[g9] at r;cases r with
  | cons d c =>
   obtain⟨t,e⟩:=d;subst e;rwa[.cons n t (f c)]

section
variable{X:Cx}{e:An}{te:TE}{lo hi:Option An}{tl th:TO}{pos p2:Dm}

def zp:PO X IS VO:=by
 intro c s a H Q I h;rw[evalPart_none];rwa[d9 ⟨IS,H,I,.none,h⟩]
def rE(h:PE X e te):PO X (O e) (tPart te):=by
 intro g s a H Q I f;rw[evalPart_some];erw[thn (h g s a H _ I f) λu m ⟨x,l,j,c,d⟩=>?_];obtain⟨i,rfl,q⟩:=d;obtain⟨t,rfl⟩:=c;rwa[O i,l,j,.int i t,q]

def SlR(X:Cx)(r:V->Option Int->Option Int->Hp->VK->Prop):Prop :=
 ∀(g:List (c5×BD))(s:d8)(a:St)(H:Hp)(x:V)(v d c:c6)(lo hi:Option Int)(f:c5)(Q:VK),Inv X g a H s->xI x v->s.heap.IsSliceOf f d c .none->F7 d lo->F7 c hi->r x lo hi H Q ->
  ∃ T id,typeLookup (.type T) "__getitem__" = pure (O (.builtin id))/\s.TypeIs v T/\wpAny (model X.prog X.w) X.A (getItem v (.ref f)) (EP X g a Q) X.xe s
def tSl(r:V->Option Int->Option Int->Hp->VK->Prop)(te:TE)(tl th:TO):TE:=λa H Q=>te a H λx f=>tl a f λl d=>th a d λu c=>r x l u c Q
def tI{r:V->Option Int->Option Int->Hp->VK->Prop}(E:SlR X r)(L:PE X e te)(G:PO X lo tl)(C:PO X hi th):PE X (.Subscript e (.Slice lo hi IS p2) pos) (tSl r te tl th):=by
 intro d s c H Q I h;erw[Hg (thn (L d s c H _ I h) λv m ⟨x,Z,S,n,y⟩=>?_)];erw[wpAny_Slice (thn (G d m c Z _ S y) λg j ⟨l,Y,R,B,p⟩=>thn (C d j c Y _ R p) λf a ⟨u,i,P,z,o⟩=>?_)];rw[evalPart_none];erw[d9 ?_];have N:Inv X d c i { a with heap:=a.heap.push { cls:=.type "slice",data:=.fields #[g,f,.none] } }:=P.kept (t':=a.toks) λb ob q=>c8 _ q;obtain⟨T,id,M,D,J⟩:=E d { a with heap:=a.heap.push { cls:=.type "slice",data:=.fields #[g,f,.none] } } c i x v g f l u a.heap.objs.size Q N n (IJ ..) B z o;show wpAny (model X.prog X.w) X.A (subscriptTail e (.Slice lo hi IS p2) v (.ref a.heap.objs.size)) (EP X d c Q) X.xe { a with heap:=a.heap.push { cls:=.type "slice",data:=.fields #[g,f,.none] } };rwa[tail_any (ops:=[.ref a.heap.objs.size,v]) D M J (by with_unfolding_all rfl)]

def vi(a:List V)(lo hi:Option Int):List V:=(a.drop (HT.sIx a.length 0 lo)).take (HT.sIx a.length a.length hi-HT.sIx a.length 0 lo)
def oN(a:List V)(lo hi:Option Int):(vi a lo hi).length<=a.length:=by
 unfold vi;rw[j3,Ad];lia
def rSlT(K:b9):V->Option Int->Option Int->Hp->VK->Prop:=λx lo hi H Q=>E2 λa c=>A4 (x=.ref a) (SqT K H a c) (¬ (HT.sIx c.length 0 lo=0/\HT.sIx c.length c.length hi=c.length)) (∀ p,H p=IS->Q (.ref p) (upd H p (.tup (vi c lo hi))))
def jW:SlR X (rSlT X.K):=by
 intro B s w H x v z y lo hi A Q I j u m l h;obtain⟨a,d,rfl,n,p,q⟩:=h;cases j;obtain⟨f,r,i,g⟩:=I.tuple n;have c:f.toArray.size=d.length:=by rw[i5]; rwa[r.length.symm]
 exists "tuple",_,Cr.lookup,i.typeIs;erw[HT.getItem_tuple_cut i u m l (by rw[c]; rwa[p]) ?_ (by rw[c]; rwa[g])];rw[c];erw[.ref s.heap.objs.size,_,I.laid (t':=s.toks) (o:=.tup (vi d lo hi)) (λb ob q=>c8 _ q) (f6 _) ?_,rfl,q _ (I.hok.fresh (f6 _))];rwa[f8 (oN d lo hi) g,_,(r.drop (HT.sIx d.length 0 lo)).take (HT.sIx d.length d.length hi-HT.sIx d.length 0 lo),GE _ _]

end
end L2

namespace L2

def ixN(n:Nat)(i:Int):Option Nat:=if 0<=i then(if i<n then O i.toNat else IS) else if -(n:Int)<=i then O (i+n).toNat else IS
def atI{a:Type}(c:List a)(i:Int):Option a:=(ixN c.length i).bind λj=>c[j]?
def Zu{n:Nat}{i:Int}{j:Nat}(h:ixN n i=O j):seqIndex? i n=O j/\j<n/\-(n:Int)<=i/\i<n:=by
 unfold ixN at h;by_cases h0:0<=i
 ·rw[y7 h0] at h;by_cases h1:i<n
  ·rw[y7 h1] at h;have e:i.toNat=j:=o8 h;rwa[by rw[seqIndex_of h0 h1,e],by lia,by lia,h1]
  ·rw[y6 h1] at h; cases h
 ·rw[y6 h0] at h;by_cases h1 : -(n:Int)<=i
  ·rw[y7 h1] at h;have e:(i+n).toNat=j:=o8 h;rwa[by rw[seqIndex_neg (by lia) h1,e],by lia,h1,by lia]
  ·rw[y6 h1] at h; cases h
def gj{c:Type}{a:List c}{i:Int}{v:c}(h:atI a i=O v):∃ j,seqIndex? i a.length=O j/\a[j]?=O v/\j<a.length/\-(a.length:Int)<=i/\i<a.length:=by
 unfold atI at h;cases e:ixN a.length i with
 | none=>rw[e] at h; cases h
 | some j =>
  rw[e] at h;obtain⟨h1,h2,h3,h4⟩:=Zu e;rwa[j,h1,h,h2,h3,h4]
def tP{a:Type}{xs:List a}{j:Nat}{v:a}(h:xs[j]?=O v):atI xs (j:Int)=O v:=by
 have c:j<xs.length:=(c7.mp h).1;have e:ixN xs.length (j:Int)=O j:=by
  unfold ixN;rw[y7 (by lia),y7 (by lia)]; simp
 unfold atI; rw[e]; rwa[h]
def fE{c:Type}(a:List c)(v:c):atI (a++[v]) (-1)=O v:=by
 have d:(a++[v]).length=a.length+1:=by simp
 have e:ixN (a++[v]).length (-1)=O a.length:=by
  unfold ixN;rw[d,y6 (by decide),y7 (by lia)]
  congr 1
  lia
 unfold atI;rw[e];show(a++[v])[a.length]?=O v;simp

def ak(b:An):Prop:=∀ o i,subscripted b IU o i=operate [o,i] (getItem o i)
def IxR(X:Cx)(r:R2):Prop :=
 ∀(value slice:An)(c:List (c5×BD))(s:d8)(a:St)(H:Hp)(x y:V)(v u:c6)(Q:VK),Inv X c a H s->xI x v->xI y u->r x y H Q ->
  subscripted slice IU v u=operate [v,u] (getItem v u)->wpAny (model X.prog X.w) X.A (subscriptTail value slice v u) (EP X c a Q) X.xe s
def MtR(X:Cx)(id:String)(r:V->List V->Hp->VK->Prop):Prop :=
 ∀(e:List (c5×BD))(s:d8)(a:St)(H:Hp)(x:V)(c:List V)(v:c6)(d:List c6)(Q:VK),Inv X e a H s->xI x v->yS c d->r x c H Q ->
  wpAny (model X.prog X.w) X.A (call (.builtin id) (v::d)) (EP X e a Q) X.xe s
section
variable{X:Cx}{a b:An}{ta tb:TE}{pos:Dm}
def bR(i:IxR X r)(l:PE X a ta)(j:PE X b tb)(g:ak b):PE X (.Subscript a b pos) (tOp r ta tb):=by
 intro m s c H Q I h;rwa[Hg (Se l j I h λv u d x y o n f e q=>i a b m d c o x y v u Q n f e q (g _ _))]

def rIxL(K:b9):R2:=λx y H Q=>E4 λp c i v=>A5 (x=.ref p) (y=.int i) (SqL K H p c) (atI c i=O v) (Q v H)
def rIxT(K:b9):R2:=λx y H Q=>E4 λp c i v=>A5 (x=.ref p) (y=.int i) (SqT K H p c) (atI c i=O v) (Q v H)
def rIxS:R2:=λx y H Q=>E3 λz i c=>A5 (x=.str z) (y=.int i) (z.length<=sizeLine) (atI z.cps.toList i=O c) (Q (.str ⟨#[c]⟩) H)
def WP:IxR X (rIxL X.K):=by
 intro value slice o s l H x y v u Q I C B h m;obtain⟨p,J,i,z,rfl,rfl,D,G,q⟩:=h;cases C;obtain⟨t,rfl⟩:=B;obtain⟨f,r,e,L⟩:=I.list D;obtain⟨j,h1,h2,h3,h4,h5⟩:=gj G;obtain⟨w,n,d⟩:=r.get h2;have E:=r.length;have M:=lH;have c:EP X o l Q w s:=⟨z,H,I,d,q⟩;by_cases h0:0<=i
 ·have g:i.toNat=j:=by
   rw[seqIndex_of h0 h5] at h1;rwa[o8 h1]
  exact item_listR e.isList h0 (by lia) (by rw[g]; simpa using n) c m
 ·have g:(i+(f.toArray.size:Int)).toNat=j:=by
   rw[seqIndex_neg (by lia) h4] at h1;rw[i5,<- E];rwa[o8 h1]
  exact subscriptTail_builtinR (x:=w) e.isList.typeIs slot_list_getitem.lookup
   (wpAny_getItem_list_neg (Q:=λr A=>r=w/\EP X o l Q r A) e.isList (by lia) (by rw[i5] <;> lia) (by lia) (by rw[g]; simpa using n) ⟨rfl,c⟩) m
def Sr:IxR X (rIxT X.K):=by
 intro value slice g s e H x y v u Q I n m h A;obtain⟨p,G,i,z,rfl,rfl,B,D,q⟩:=h;cases n;obtain⟨t,rfl⟩:=m;obtain⟨o,r,f,J⟩:=I.tuple B;obtain⟨j,h1,h2,h3,h4,h5⟩:=gj D;obtain⟨w,E,c⟩:=r.get h2;have C:=r.length;have L:=lH;have d:EP X g e Q w s:=⟨z,H,I,c,q⟩;exact subscriptTail_builtinR (x:=w) f.typeIs slot_tuple_getitem.lookup
  (getItem_tuple (j:=j) (Q:=λr l=>r=w/\EP X g e Q r l) f (by lia) (by lia) (by rw[i5,<- C]; rwa[h1]) (by simpa using E) ⟨rfl,d⟩) A
def Wv:IxR X rIxS:=by
 intro value slice A s o H x y v u Q I e d h f;obtain⟨z,i,c,rfl,rfl,r,l,q⟩:=h;obtain⟨t,rfl⟩:=e;obtain⟨p,rfl⟩:=d;obtain⟨j,h1,h2,h3,h4,h5⟩:=gj l;have g:z.cps.toList.length=z.length:=by simp[Str.length]
 rw[g] at h1 h4 h5;have w:=lH;exact tail_any (typeIs_str s z t) slot_str_getitem.lookup (getItem_str (c:=c) (by
  have n:decide (i < -(2^63:Int))=false:=y9 (by lia);have m:decide (i >= 2^63)=false:=y9 (by lia);rw[n,m,Bool.or_false]) (by rw[h1]; simpa using h2) ⟨.str ⟨#[c]⟩,H,I.tok _,⟨_,rfl⟩,q⟩) f
def cf(c:List c6)(n j:Nat)(u:c6):AL (·.setIfInBounds j u) { cls:=.type "list",data:=.seq c.toArray n }={ cls:=.type "list",data:=.seq (c.set j u).toArray n }:=by
 simp[AL]
def Inv.lst{g:List (c5×BD)}{f:St}{H:Hp}{s:d8}{p:c5}{d:List V}(I:Inv X g f H s)(h:H p=O (.lst d)) :
  ∃(c:List c6)(n:Nat),yS d c/\s.heap.get? p=O { cls:=.type "list",data:=.seq c.toArray n }/\d.length<=sizeLine:=by
 obtain⟨z,c,n,r,e⟩:=I.hok p _ h;rwa[c,n,r,e,z]
def Inv.lstUpd{j:St}{H:Hp}{d c:List c6}{n i:Nat}{f:BD->BD}(I:Inv X m j H s)(h:H p=O (.lst o))
  (w:s.heap.get? p=O { cls:=.type "list",data:=.seq d.toArray n }) (l:f { cls:=.type "list",data:=.seq d.toArray n }={ cls:=.type "list",data:=.seq c.toArray i }) (r:yS g c) (v:g.length<=sizeLine) (t:Nat) :
  Inv X m j (upd H p (.lst g)) { s with heap:=s.heap.update p f,toks:=t }:=by
 have e:(s.heap.update p f).get? p=O { cls:=.type "list",data:=.seq c.toArray i }:=by
  rw[Bz f w (by rw[l] <;> rfl),l]
 erw[I.write (x:=p) (e:=p) (by rw[h]; trivial) (.inl rfl) (λb u y q=>(Av _ _ (AW y)).trans q) ⟨_,e⟩ ?_];rwa[v,c,i,r,e]
def rSetL:V->V->V->Hp->(Hp->Prop)->Prop:=λo i v H Q=>E4 λp c k j=>A5 (o=.ref p) (i=.int k) (H p=O (.lst c)) (ixN c.length k=O j) (Q (upd H p (.lst (c.set j v))))
def YJ:PSet X rSetL:=by
 intro C s m H o i v D E u Q I y z x h;obtain⟨p,w,k,j,rfl,rfl,g,B,q⟩:=h;cases y;obtain⟨t,rfl⟩:=z;obtain⟨c,n,r,d,A⟩:=I.lst g;obtain⟨h1,h2,h3,h4⟩:=Zu B;have e:=r.length;have G:=lH;have l:Inv X C m (upd H p (.lst (w.set j v))) { s with heap:=s.heap.update p (AL (·.setIfInBounds j u)) } :=
  I.lstUpd g d (cf c n j u) (r.set x j) (by rw[DN]; rwa[A]) s.toks
 by_cases h0:0<=k
 ·have f:k.toNat=j:=by
   rw[seqIndex_of h0 h4] at h1;rwa[o8 h1]
  rwa[PySem.W.ki_setAt d h0 (by lia) (by rw[i5,<- e]; exact h4) (by rw[f]; exact⟨_,l,q⟩)]
 ·have f:(k+(c.toArray.size:Int)).toNat=j:=by
   rw[seqIndex_neg (by lia) h3] at h1;rw[i5,<- e];rwa[o8 h1]
  rwa[PySem.W.ki_setBack d (by lia) (by rw[i5,<- e]; exact h3) (by lia) (by rw[f]; exact⟨_,l,q⟩)]

def ik(lo hi:Option Int)(n:Nat):(sliceBounds lo hi IS n).1=((HT.sIx n 0 lo:Nat):Int)/\(sliceBounds lo hi IS n).2.1=((HT.sIx n n hi:Nat):Int)/\(sliceBounds lo hi IS n).2.2=1:=by
 erw[?_,?_,rfl]
 ·cases lo with
  | none=>simp[sliceBounds,HT.sIx]
  | some i =>
   simp only[sliceBounds,HT.sIx,GH,show(1:Int)>0 by decide,if_true];by_cases h:i<0
   ·simp only[h,if_true] <;> lia
   ·simp only[h,if_false] <;> lia
 ·cases hi with
  | none=>simp[sliceBounds,HT.sIx]
  | some i =>
   simp only[sliceBounds,HT.sIx,GH,show(1:Int)>0 by decide,if_true];by_cases h:i<0
   ·simp only[h,if_true] <;> lia
   ·simp only[h,if_false] <;> lia
def jn(c:List c6)(lo hi:Option Int):slicePick c.toArray lo hi IS=((c.drop (HT.sIx c.length 0 lo)).take (HT.sIx c.length c.length hi-HT.sIx c.length 0 lo)).toArray:=by
 obtain⟨h1,h2,h3⟩:=ik lo hi c.toArray.size;unfold slicePick;rw[h1,h2,h3];simp only[sliceRange_one,pick_run,i5] <;> rfl
def rSlL(K:b9):V->Option Int->Option Int->Hp->VK->Prop:=λx lo hi H Q=>E2 λa c=>A3 (x=.ref a) (SqL K H a c) (∀ p,H p=IS->Q (.ref p) (upd H p (.lst (vi c lo hi))))
def Zy:SlR X (rSlL X.K):=by
 intro z s p H x v w u lo hi y Q I f n i g h;obtain⟨a,c,rfl,m,q⟩:=h;cases f;obtain⟨j,r,e,l⟩:=I.list m;have d:=r.length;exists "list",_,slot_list_getitem.lookup,e.isList.typeIs;erw[wpAny_getItem_list_slice e.isList n i g .none (by simp) ?_ (by rw[i5] <;> lia)];rw[jn,<- d];erw[.ref s.heap.objs.size,_,I.laid (t':=s.toks) (o:=.lst (vi c lo hi)) (λb ob q=>c8 _ q) (f6 _) ?_,rfl,q _ (I.hok.fresh (f6 _))];rwa[f8 (oN c lo hi) l,_,0,(r.drop (HT.sIx c.length 0 lo)).take (HT.sIx c.length c.length hi-HT.sIx c.length 0 lo),f9 _ rfl]

def lY:V->Bool
 | .non=>IT
 | .bl _=>IT
 | .int _=>IT
 | .str _=>IT
 | _=>IU
def eqV:V->V->Bool
 | .non,.non=>IT
 | .bl a,.bl b=>a == b
 | .bl a,.int b=>(if a then 1 else 0) == b
 | .int a,.bl b=>a ==(if b then 1 else 0)
 | .int a,.int b=>a == b
 | .str a,.str b=>a == b
 | _,_=>IU
def Tj(e:xI y u)(c:xI x v)(g:lY y=IT)(f:lY x=IT):Hh A s u v (eqV y x):=by
 cases y with
 | non =>
  cases e;cases x with
  | non=>cases c; rwa[SeqAt.EqAt.same _]
  | bl b=>cases c; rwa[SeqAt.EqAt.none_bool b]
  | int b=>obtain⟨t,rfl⟩:=c; rwa[SeqAt.EqAt.none_int b t]
  | str b=>obtain⟨t,rfl⟩:=c; rwa[SeqAt.EqAt.none_str b t]
  | _=>exact x4 (show IU=IT from f) i9
 | bl a =>
  cases e;cases x with
  | non=>cases c; rwa[SeqAt.EqAt.bool_none a]
  | bl b=>cases c; rwa[SeqAt.EqAt.bool_bool a b]
  | int b=>obtain⟨t,rfl⟩:=c; rwa[SeqAt.EqAt.bool_int a b t]
  | str b=>obtain⟨t,rfl⟩:=c; rwa[SeqAt.EqAt.bool_str a b t]
  | _=>exact x4 (show IU=IT from f) i9
 | int a =>
  obtain⟨d,rfl⟩:=e;cases x with
  | non=>cases c; rwa[SeqAt.EqAt.int_none a d]
  | bl b=>cases c; rwa[SeqAt.EqAt.int_bool a d b]
  | int b=>obtain⟨t,rfl⟩:=c; rwa[F8 a d b t]
  | str b=>obtain⟨t,rfl⟩:=c; rwa[F1 a d b t]
  | _=>exact x4 (show IU=IT from f) i9
 | str a =>
  obtain⟨d,rfl⟩:=e;cases x with
  | non=>cases c; rwa[SeqAt.EqAt.str_none a d]
  | bl b=>cases c; rwa[SeqAt.EqAt.str_bool a d b]
  | int b=>obtain⟨t,rfl⟩:=c; rwa[F2 a d b t]
  | str b=>obtain⟨t,rfl⟩:=c; rwa[SeqAt.EqAt.str_str a d b t]
  | _=>exact x4 (show IU=IT from f) i9
 | _=>exact x4 (show IU=IT from g) i9
def eqU(x:V)(u:c6):Bool:=match u with
 | .none=>eqV .non x
 | .bool b=>eqV (.bl b) x
 | .int i _=>eqV (.int i) x
 | .str z _=>eqV (.str z) x
 | _=>IU
def XE(r:xI y u)(f:lY y=IT):eqU x u=eqV y x:=by
 cases y with
 | non=>cases r; rfl
 | bl b=>cases r; rfl
 | int i=>obtain⟨t,rfl⟩:=r; rfl
 | str z=>obtain⟨t,rfl⟩:=r; rfl
 | _=>exact x4 (show IU=IT from f) i9
def fz : ∀{c:List V}{d:List c6},yS c d->c.all lY=IT->d.any (eqU x)=c.any λy=>eqV y x
 | _,_,.nil,_=>rfl
 | y::c,u::d,.cons r t,f=>by
  rw[EN,AJ] at f;rw[Co,Co,XE r f.1,fz t f.2]
def lZ(g:xI x v)(h:lY x=IT):∀{d:List V}{e:List c6},yS d e->d.all lY=IT->∀ u∈e,Hh A s u v (eqU x u)
 | _,_,.nil,_=>λu c=>by cases c
 | y::d,u::e,.cons r t,f=>λi c=>by
  rw[EN,AJ] at f;rcases j4.mp c with rfl | c
  ·rw[XE r f.1]; rwa[Tj r g f.1 h]
  ·rwa[lZ g h t f.2 i c]
def inV(x:V)(c:List V):Bool:=c.any λy=>eqV y x
def rIn(K:b9)(neg:Bool):R2:=λx y H Q=>E2 λp c=>A5 (y=.ref p) (SqL K H p c\/SqT K H p c) (lY x=IT) (c.all lY=IT) (Q (.bl (if neg then !inV x c else inV x c)) H)
def oH:OpR X (compareOp .In) (rIn X.K IU):=by
 intro o s m H x y v u Q I g j h;obtain⟨p,n,rfl,d,i,fs,q⟩:=h;cases j;rcases d with d | d
 ·obtain⟨c,r,e,l⟩:=I.list d;refine SeqAt.in_listAt (eqU x) e.isList (λw f=>lZ g i r fs w (by simpa using f)) ⟨.bl _,H,I,rfl,?_⟩;rw[show c.toArray.any (eqU x)=c.any (eqU x) by simp,fz r fs];rwa[q]
 ·obtain⟨c,r,e,l⟩:=I.tuple d;refine SeqAt.in_tupleAt (eqU x) e (λw f=>lZ g i r fs w (by simpa using f)) ⟨.bl _,H,I,rfl,?_⟩;rw[show c.toArray.any (eqU x)=c.any (eqU x) by simp,fz r fs];rwa[q]
def zk:uN X (.builtin "len") (λj H Q=>E2 λp d=>A3 (j=[.ref p]) (SqL X.K H p d\/SqT X.K H p d) (Q (.int d.length) H)):=by
 intro w s n H j o Q I r h;obtain⟨p,d,rfl,e,q⟩:=h;obtain⟨u,rfl,l⟩:=mE r;cases l;have v:=lH;rcases e with e | e
 ·obtain⟨i,f,g,m⟩:=I.list e;have c:=f.length;rwa[Calls.call_len_list g.isList (by simp only[i5] <;> lia) ⟨.int d.length,H,I.tok _,⟨s.toks+1,by rw[i5,c]⟩,q⟩]
 ·obtain⟨i,f,g,m⟩:=I.tuple e;have c:=f.length;rwa[len_tuple g (by simp only[i5] <;> lia) ⟨.int d.length,H,I.tok _,⟨s.toks+1,by rw[i5,c]⟩,q⟩]
def qy:uN X (.builtin "len") (λc H Q=>∃ z,A3 (c=[.str z]) (z.length<=sizeLine) (Q (.int z.length) H)):=by
 intro i s d H c e Q I r h;obtain⟨z,rfl,f,q⟩:=h;obtain⟨u,rfl,t,rfl⟩:=mE r;have g:=lH;rwa[len_str (by lia) ⟨.int z.length,H,I.tok _,⟨_,rfl⟩,q⟩]
def uN.or{r i:List V->Hp->VK->Prop}(h:uN X f r)(l:uN X f i):uN X f (λc H Q=>r c H Q\/i c H Q):=by
 intro j s d H c e Q I g q;rcases q with q | q
 ·rwa[h j s d H c e Q I g q]
 ·rwa[l j s d H c e Q I g q]
def rm:uN X (.type "list") (λB H Q=>E2 λp f=>A3 (B=[.ref p]) (SqL X.K H p f\/SqT X.K H p f) (∀ l,H l=IS->Q (.ref l) (upd H l (.lst f)))):=by
 intro G s D H B J Q I r h;obtain⟨p,f,rfl,m,q⟩:=h;obtain⟨u,rfl,E⟩:=mE r;cases E;have x:∀(c:List c6),yS f c->f.length<=sizeLine->∀(d:v8)(i:Nat),(∀ b C,s.heap.get? b=O C->d.get? b=O C) ->
   d.get? s.heap.objs.size=O { cls:=.type "list",dict:=IS,data:=.seq c.toArray i,slots:=#[] }->EP X G D Q (.ref s.heap.objs.size) { s with heap:=d }:=λc g j d i kp e =>
  ⟨.ref s.heap.objs.size,_,I.laid (t':=s.toks) kp (f6 _) (show wC X.prog X.w _ d _ (.lst f) from⟨j,c,i,g,e⟩),rfl,q _ (I.hok.fresh (f6 _))⟩
 rcases m with m | m
 ·obtain⟨c,g,y,j⟩:=I.list m;have v:=g.length;obtain⟨o,z,A,n,hd⟩:=y.isList;rwa[call_list_seq p (.inl rfl) z A hd (λd i kp e=>x c g j d i kp e) (by simp only[i5] <;> lia)]
 ·obtain⟨c,g,y,j⟩:=I.tuple m;have v:=g.length;obtain⟨o,z,A,n,hd⟩:=y;rwa[call_list_seq p (.inr rfl) z A hd (λd i kp e=>x c g j d i kp e) (by simp only[i5] <;> lia)]
def vx:uN X (.type "tuple") (λn H Q=>E2 λp d=>n=[.ref p]/\((SqL X.K H p d/\∀ l,H l=IS->Q (.ref l) (upd H l (.tup d)))\/(SqT X.K H p d/\Q (.ref p) H))):=by
 intro y s m H n C Q I r h;obtain⟨p,d,rfl,h⟩:=h;obtain⟨u,rfl,A⟩:=mE r;cases A;rcases h with ⟨j,q⟩ | ⟨j,q⟩
 ·obtain⟨c,g,i,v⟩:=I.list j;have x:=g.length;refine call_tuple_list i.isList (λf kp=>?_) (by simp only[i5] <;> lia);have z:Inv X y m H { s with heap:=f }:=I.kept (t':=s.toks) kp;have B:Inv X y m (upd H f.objs.size (.tup d)) { s with heap:=f.push { cls:=.type "tuple",data:=.seq c.toArray } } :=
   z.laid (t':=s.toks) (λb o e=>c8 _ e) (f6 _) (show wC X.prog X.w _ _ _ (.tup d) from⟨v,c,g,GE _ _⟩)
  rwa[.ref f.objs.size,_,B,rfl,q _ (z.hok.fresh (f6 _))]
 ·obtain⟨c,g,i,v⟩:=I.tuple j;rwa[call_tuple_same i ⟨.ref p,H,I,rfl,q⟩]

def tyV(K:b9)(T:String)(x:V)(H:Hp):Prop:=match x with
 | .str _=>T = "str"
 | .int _=>T = "int"
 | .ref p=>(T = "list" /\ ∃ d,SqL K H p d)\/(T = "tuple" /\ ∃ o,K.lookup p=O o/\o.cls=.type "tuple" /\ o.dict=IS) \/
   (T = "dict" /\ ((∃ c,H p=O (.dK c))\/∃ c,H p=O (.dT c)))\/(T = "set" /\ ∃ S n,H p=O (.set S n))
 | _=>False
def Ui{j:St}{H:Hp}(I:Inv X u j H s)(r:xI x v)(ty:tyV X.K T x H) :
  s.TypeIs v T/\∀ a,v=.ref a->∃ ob,s.heap.get? a=O ob/\ob.dict=none:=by
 cases x with
 | str z =>
  obtain⟨t,rfl⟩:=r;cases (show T = "str" from ty);exact⟨typeIs_str s z t,λ_ e=>nomatch e⟩
 | int i =>
  obtain⟨t,rfl⟩:=r;cases (show T = "int" from ty);exact⟨typeIs_int s i t,λ_ e=>nomatch e⟩
 | ref p =>
  cases r;rcases ty with ⟨rfl,w,m⟩ | ⟨rfl,o,d,q,hd⟩ | ⟨rfl,d⟩ | ⟨rfl,S,n,d⟩
  ·obtain⟨l,_,h,_⟩:=I.list m;erw[h.isList.typeIs,λa e=>?_];cases e;obtain⟨o,n,e,c,hd,_⟩:=h;rwa[o,e,hd]
  ·erw[⟨o,I.kIn p o d,q⟩,λa e=>?_];cases e;rwa[o,I.kIn _ o d,hd]
  ·have z:∃ o,s.heap.get? p=O o/\o.ExactDict:=by
    rcases d with ⟨f,d⟩ | ⟨f,d⟩
    ·obtain⟨_,_,_,_,o,_,_,e,ex,_⟩:=I.hok p _ d;rwa[o,e,ex]
    ·obtain⟨_,_,_,_,o,_,_,e,ex,_⟩:=I.hok p _ d;rwa[o,e,ex]
   obtain⟨o,e,ex⟩:=z;erw[⟨o,e,ex.1⟩,λa g=>?_];cases g;rwa[o,e,ex.2.1]
  ·obtain⟨o,_,_,_,e,ex,_⟩:=I.hok p _ d;erw[⟨o,e,ex.1⟩,λa g=>?_];cases g;rwa[o,e,ex.2.1]
 | _=>rwa[AZ ty]
def tBM(K:b9)(T:String)(r:V->List V->Hp->VK->Prop)(to:TE)(t:TA):TE:=λc H Q=>to c H λx d=>tyV K T x d/\t c d λe f=>r x e f Q
variable{o e:An}{es:List An}{to:TE}{t:TA}{name:g8}{apos cpos:Dm}{T id:String}{r:V->List V->Hp->VK->Prop}
def Zb(pa:PlainAttrs T)(slot:Slot T name id)(j:typeOf (.builtin id)=pure (.type "method_descriptor"))(E:MtR X id r)(D:PE X o to)(G:PA X (e::es) t)
  (f:attributeBase o name X.env (eval o X.env)=eval o X.env:=by rfl)
  (g:((backTo cpos (starEach (e::es) X.env)).all (λx=>!x.1)&&(backToKw cpos (keywordEach [] X.env)).all (λx=>x.1.isSome)
   && decide ((e::es).length+([]:List Ev).length+(if ([]:List Ev).isEmpty then 0 else 1)<30))=true:=by rfl)
  (d:(apos.endLine == cpos.line)=true:=by rfl) (C:starEach (e::es) X.env=(IU,eval e X.env)::starEach es X.env:=by rfl) (c:(backTo cpos (starEach es X.env)).any (·.1)=false:=by rfl) :
  PE X (.Call (.Attribute o name apos) (e::es) [] cpos) (tBM X.K T r to t):=by
 intro l s i H Q I h;erw[wpAny_Call_method_late f g d rfl (thn (D l s i H _ I h) λv y ⟨x,M,p,m,ty,B⟩=>?_)];obtain⟨h1,h2⟩:=Ui p m ty;exists T,id,pa,slot,j,h1,h2;have n:=G cpos l y i M _ p B;rw[C] at n ⊢;refine Fh (by show(IU||(backTo cpos (starEach es X.env)).any (·.1))=IU; rw[c] <;> rfl) (DG ?_);rwa[thn n λu w ⟨q,L,J,z,A⟩=>E l w i L x q v u Q J m z A]
end
end L2

namespace L2

def MtM(X:Cx)(id:String)(r:V->List V->Hp->VK->Prop):Prop :=
 ∀(e:List (c5×BD))(s:d8)(a:St)(H:Hp)(x:V)(c:List V)(v:c6)(d:List c6)(Q:VK),Inv X e a H s->xI x v->yS c d->r x c H Q ->
  wpAny (model X.prog X.w) X.A (call (.builtin id) (v::d)) (EP X e a Q) X.xe s

def yS.one:∀{x:V}{a:List c6},yS [x] a->∃ u,a=[u]/\xI x u
 | _,_,.cons r .nil=>⟨_,rfl,r⟩
def yS.two:∀{x y:V}{a:List c6},yS [x,y] a->∃ u v,a=[u,v]/\xI x u/\xI y v
 | _,_,_,.cons r (.cons q .nil)=>⟨_,_,rfl,r,q⟩
def yS.zero:∀{a:List c6},yS [] a->a=[]
 | _,.nil=>rfl
section
variable{X:Cx}{IV:List (c5×BD)}{σ:St}{H:Hp}{s:d8}{l b:c5}{xs ys zs:List V}

def Inv.lset{a its':List c6}{n:Nat}{f:Array c6->Array c6}{t':Nat}(I:Inv X IV σ H s)(j:H l=O (.lst xs))
  (e:s.heap.get? l=O { cls:=.type "list",data:=.seq a.toArray n }) (h:f a.toArray=its'.toArray) (d:yS ys its') (c:ys.length<=sizeLine) :
  Inv X IV σ (upd H l (.lst ys)) { s with heap:=s.heap.update l (AL f),toks:=t' }:=by
 have q:=PySem.IsL.update e f;rw[h] at q;erw[I.write (x:=l) (e:=l) (by rw[j]; rwa[trivial]) (.inl rfl) (λm u i g=>(Av s.heap (AL f) (AW i)).trans g) ⟨_,q⟩ ?_];rwa[c,its',_,d,q]
def Inv.lnew{t':Nat}(I:Inv X IV σ H s)(d:yS ys a)(c:ys.length<=sizeLine) :
  Inv X IV σ (upd H s.heap.objs.size (.lst ys)) { s with heap:=s.heap.push { cls:=.type "list",data:=.seq a.toArray },toks:=t' } :=
 I.laid (λ_ _ q=>c8 _ q) (f6 _) ⟨c,a,0,d,f9 _ rfl⟩
def Inv.fresh(I:Inv X IV σ H s):H s.heap.objs.size=none:=I.hok.fresh (f6 _)
def Inv.lstM(I:Inv X IV σ H s)(c:H l=O (.lst xs)):xs.length<=sizeLine/\∃(a:List c6)(n:Nat),yS xs a/\xs.length=a.length/\s.heap.get? l=O { cls:=.type "list",data:=.seq a.toArray n }:=by
 obtain⟨z,a,n,r,e⟩:=I.hok l _ c;rwa[z,a,n,r,r.length,e]

def Yw{n:Nat}(h:n<=sizeLine):De n=false:=by
 unfold De;rwa[y9 (by lia)]
end

section
variable{X:Cx}

def aj:V->List V->Hp->VK->Prop:=λx c H Q=>E3 λl a y=>A5 (x=.ref l) (c=[y]) (H l=O (.lst a)) (a.length<sizeLine) (Q .non (upd H l (.lst (a++[y]))))
def ji:MtM X "list.append" aj:=by
 intro w s g H x j v m Q I d f h;obtain⟨l,i,y,rfl,rfl,c,o,q⟩:=h;cases d;obtain⟨u,rfl,ru⟩:=f.one;obtain⟨z,a,n,r,p,e⟩:=I.lstM c;erw[call_meets F.slot_list_append ⟨_,e,rfl⟩ F.entry_list_append (F.args_list_append_2 _ _) (PySem.list_append l a.toArray n u (by rw[i5]; lia)) ⟨e,?_⟩];erw[.non,_,I.lset (its':=a++[u]) c e (by simp) (r.append (.cons ru .nil)) ?_,rfl,q];rw[f7,Ca];lia

def WH:V->List V->Hp->VK->Prop:=λx d H Q=>E4 λl b c a=>A6 (x=.ref l) (d=[.ref b]) (H l=O (.lst c)) (H b=O (.lst a)) (c.length+a.length<=sizeLine) (Q .non (upd H l (.lst (c++a))))
def jM:MtM X "list.extend" WH:=by
 intro L s y H x D v E Q I i j h;obtain⟨l,b,C,A,rfl,rfl,g,p,G,q⟩:=h;cases i;obtain⟨u,rfl,ru⟩:=j.one;cases ru;obtain⟨z,c,n,r,J,e⟩:=I.lstM g;obtain⟨B,a,n2,m,o,w⟩:=I.lstM p;have f:c.toArray.size+a.toArray.size<=sizeLine:=by rw[i5,i5]; lia
 have d:¬ (!c.toArray.isEmpty&&De (c.toArray.size+a.toArray.size))=true:=by
  rw[Yw f,Hi];rwa[i9]
 refine call_meets ES ⟨_,e,rfl⟩ F.entry_list_extend (F.args_list_extend_2 _ _)
  (AutoSeq1.list_extend_list_list_0 l c.toArray n b a.toArray n2 d (by rw[i5]; lia) (by lia)) ⟨e,w,?_⟩
 erw[.non,_,I.lset (its':=c++a) g e (by simp) (r.append m) ?_,rfl,q];rw[f7];lia

def rCat:R2:=λx y H Q=>E4 λl b c a=>A6 (x=.ref l) (y=.ref b) (H l=O (.lst c)) (H b=O (.lst a)) (c.length+a.length<=sizeLine) (∀ p,H p=IS->Q (.ref p) (upd H p (.lst (c++a))))
def nE:OpR X (binaryOp .Add) rCat:=by
 intro G s w H x y v u Q I f d h;obtain⟨l,b,C,A,rfl,rfl,j,m,D,q⟩:=h;cases f;cases d;obtain⟨z,c,n,r,E,e⟩:=I.lstM j;obtain⟨B,a,n2,g,i,p⟩:=I.lstM m;erw[PySem.P.add_list e p ?_ (by rw[i5,i5]; lia)];have o:c.toArray++a.toArray=(c++a).toArray:=by simp
 rw[o];rwa[.ref _,_,I.lnew (t':=s.toks) (r.append g) (by rw[f7]; lia),rfl,q _ I.fresh]
end


end L2

namespace Att
open PySem PySem.W PySem.Calls PyProof.Rows

def nT : ∀(ns:List Int)(c:List c6),WellAll P h c (ns.map IQ)->Fg c ns:=by
 intro ns
 induction ns with
 | nil =>
  intro c w;rw[DZ] at w;cases w;rwa[.nil]
 | cons n ns d =>
  intro c w;rw[g9] at w;cases w with
  | cons a b =>
   cases a;rwa[.cons _ _ (d _ b)]

def az{l:Ft}{n:Nat}(v:l.most=O n)
  (e:l.row.toRowW.claim.pre c=IT) (i:WellAll P h vals c) :
  ∃ a m ns,vals=[j8 a]/\c=[WData.list (ns.map IQ)]/\h.get? a=O { cls:=.type "list",data:=.seq m.toArray }/\Fg m ns/\ns.length<=n:=by
 have j:WShape.hasAll [] c [.list .int]=true:=(pre_splitW e).1;have o:l.pre.holds [] { args:=c }=true:=(pre_splitW e).2;obtain⟨d,r,rfl,h1,h2⟩:=hasAllW_cons j;obtain rfl:=hasAllW_nil h2;obtain⟨w,rfl,h3⟩:=hasW_list h1;obtain⟨ns,rfl⟩:=items_int h3;have f:ns.length<=n:=by
  unfold OpenLaw.pre at o;have h4:(WTm.not (.lt (.lit (.int (n:Int))) (.len (.arg 0)))).holds [] { args:=[.list (ns.map .int)] }=true:=by
   have h4:=(holds_andW o).1;rw[v] at h4;rwa[h4]
  have h5:=condW_of h4 (w_not (w_lt w_lit (w_len_list (w_arg rfl))));rw[ac] at h5;erw[GI λq=>?_];have s:(n:Int)<((ns.length:Nat):Int):=by lia
  first
   | (rw[y8 s] at h5; rwa[x4 h5 (by decide)])
   | (simp at h5; lia)
 cases i with
 | cons w1 p =>
  cases p;cases w1 with
  | list u g=>rwa[_,_,ns,rfl,rfl,u,nT ns _ g,f]

def ag(l:Ft)(a:List WData):l.row.toRowW.claim.post a (.bool IT) a=true :=
 postW_of (r:=l.row.toRowW) (X:=(IT == IT))
  (show IK [] (.bool IT) .bool=IT by first | rfl | decide | simp[IK,WShape.arms,WShape.armsAll])
  (show(WTm.eq .res (.lit (.bool IT))).value [] { args:=a,res:=O (.bool IT),after:=a }=O (.bool (IT == IT)) from w_eq_bool (w_res rfl) w_lit) rfl

def attach_call{l:Ft}{n:Nat}{J:(g8->Option c6)->v8->Prop}{I:m9->v8->Prop}{d:DefRec}
  (P:l.most=O n) (B:d.params.defaults=[])
  (call:∀(w:m9)(s₀ c:d8)(mg y:g8->Option c6)(s:c5)(o:BD)(x v h:c6)(a:c5)(i:List c6)(ns:List Int),
   Ground q e [] J w s₀ mg y c.heap->I w c.heap ->
   c.heap.get? s=O o->o.data=.func (docDef d.name d.params d.body d.scope x v h)->c.heap.CodeRec v d.name->mg d.name=O (.ref s) ->
   c.heap.get? a=O { cls:=.type "list",data:=.seq i.toArray }->Fg i ns->ns.length<=n->c.gens = #[] ->
   codeAny (model l.prog w) callerA (.call (.ref s) ⟨[.ref a],[]⟩) (λr u=>r=.ok (.ret (.bool IT))/\OldK c.heap u.heap/\u.os=c.os/\DY u.gens) c) :
  HY q e J I l.row.toRowW d [] (λf i=>Hj f i):=by
 intro w s₀ c mg y G Y s o x v h T kV N hd C E A S H vals X j D L z R;obtain rfl:T=.none:=Dflts.none E B;obtain rfl:kV=.none:=Dflts.noKw E;obtain⟨a,i,ns,rfl,rfl,m,g,p⟩:=az P j z;erw[enter_call (codeAny_mono (call w s₀ c mg y s o x v h a i ns G Y N (fd_plain hd) C A m g p S) λr u M=>?_)];obtain⟨rfl,h2,h3,h4⟩:=M;exact⟨.inl ⟨.bool IT,.bool IT,[],rfl,λ_=>rfl,.bool IT,ag l _,λ_=>⟨IN,λ_ Q=>(nomatch Q)⟩⟩,h2,h3,h4⟩

section
variable{prog:j7}{w:m9}{A:Aq}{E:c6->d8->Prop}{s:d8}{K:b9}

end
end Att

namespace L2

def vz:∀{a:List c6}{ns:List Int},Fg a ns->yS (ns.map V.int) a
 | _,_,.nil=>.nil
 | _,_,.cons n t h=>.cons ⟨t,rfl⟩ (vz h)

def Only(H:Hp):Prop:=∀ b,H b=IS\/∃ o a,H b=O (.frz o (.lst a))

def YC{K:b9}{mg N:g8->Option c6}{CX:CXT}{k:Nat}{x:g8}{Z:Sp}{c:d8}{p:List c6}
  (KX:K.In c.heap) (D:c.heap.Ns mainGlobals mg) (g:c.heap.Ns builtinsNs N) (S:∀ x:g8,x ≠ "__name__" -> N x=bootBuiltins x) (E:c.heap.NoLimit) (hg:c.gens = #[])
  (L:c.heap.get? a=O { cls:=.type "list",data:=.seq p.toArray }) (hi:Fg p ns) (hl:ns.length<=sizeLine) (hr:qZ k callerA)
  (F:∀ base:v8,K.In base->base.Ns mainGlobals mg->yN P w K mg base CX k X fd [x] Z) (y:∀(s:d8)(u:c6),Fe s fd ⟨[u],[]⟩ [(x,u)])
  (Q:∀ H:Hp,Only H->SqL K H a (ns.map V.int)->Z [.ref a] H (λv _=>v=.bl IT) λ_ _ _=>False)
  (T:∀ H e i,CX [] H c (λ_ _ _=>False) e i->False) :
  codeAny (model P w) callerA (.call (.ref X) ⟨[.ref a],[]⟩) (λr i=>r=.ok (.ret (.bool IT))/\OldK c.heap i.heap/\i.os=c.os/\DY i.gens) c:=by
 have rv:=vz hi;have B:=hi.length;have l:∀ H:Hp,Only H->SqL K H a (ns.map V.int)->HOk P w H c.heap->(∀ b,H b≠IS->b=a)->(H a≠IS->K.lookup a=IS) ->
   codeAny (model P w) callerA (.call (.ref X) ⟨[.ref a],[]⟩) (λr i=>r=.ok (.ret (.bool IT))/\OldK c.heap i.heap/\i.os=c.os/\DY i.gens) c:=by
  intro H hO hS hok hA hK;have f:∀{b:c5}{o:BD},c.heap.get? b=O o->H b=IS->(Yz c.heap H).get? b=O o:=λe n=>Xx e n;have M:∀{b:c5}{o:BD}{I:Array CH}{J:Nat},c.heap.get? b=O o->o.data=.dict I J->H b=none:=λ{b o I J} e d=>by
   cases q:H b with
   | none=>rfl
   | some u =>
    have Y:b=a:=hA b (by rw[q]; simp);subst Y;rw[L] at e; cases e;have d':Data.seq p.toArray _=Data.dict I J:=d;cases d'
  have j:∀{b:c5}{m:g8->Option c6},c.heap.Ns b m->(Yz c.heap H).Ns b m:=λ{b m} ⟨o,I,J,e,d,r⟩=>⟨o,I,J,f e (M e d),d,r⟩;have G:K.In (Yz c.heap H):=λb o e=>f (KX b o e) (by
   cases q:H b with
   | none=>rfl
   | some u =>
    have Y:b=a:=hA b (by rw[q]; simp);subst Y;rw[hK (by rw[q]; simp)] at e; cases e)
  have hM:Mod K mg (Yz c.heap H):=⟨G,j D,⟨N,j g,S⟩,let ⟨mc,h1,h2⟩:=E;⟨mc,j h1,h2⟩⟩;have e0:XV P w K mg (Yz c.heap H) callerA [] c H:=⟨rfl,hM,λb o e=>We e,Il (cW _ _),trivial,λb g=>x4 (show b∈([]:List c5) from g) (by simp),hok,.of_eq hg⟩;erw[codeAny_mono ((F _ G (j D)).run callerA [] c H ⟨[.ref a],[]⟩ [.ref a] [.ref a] _ _ hr e0 (y c (.ref a)) (.cons rfl .nil) (Q H hO hS)) λr i h=>?_];cases r with
  | error e=>exact(T H e i h).elim
  | ok fl =>
   cases fl with
   | next=>rwa[AZ h]
   | brk=>rwa[AZ h]
   | cont=>rwa[AZ h]
   | ret u =>
    obtain⟨v,H',os,bare,un,C,r',q⟩:=h;have q':v=.bl true:=q;subst q';obtain rfl:u=Fb true:=r';erw[rfl,OldK.of_keep λb o e=>?_,os,bare];cases q:H b with
    | none=>exact un.keep b o e q (by intro z; exact x4 (show b∈([]:List c5) from z) (by simp)) (by simp)
    | some u =>
     rcases hO b with z | ⟨ob,xs,z⟩
     ·rw[q] at z; cases z
     ·have z2:=un.frzs b ob _ z;obtain⟨e1,_⟩:=hok b _ z;obtain⟨e2,_⟩:=C b _ z2;rw[e] at e1; cases e1;rwa[e2]
 cases R:K.lookup a with
 | some o =>
  have e:=KX a o R;rw[L] at e;cases e;refine l (λ_=>IS) (λ_=>.inl rfl) (.inr ⟨_,p.toArray,_,R,rfl,rfl,rfl,by rw[i5,B]; exact hl,by simpa using rv⟩) (λb u z=>by have A:(IS:Option HO)=O u:=z; cases A) (λb z=>x4 rfl z) λz=>x4 rfl z
 | none =>
  refine l (λb=>if b=a then O (.frz { cls:=.type "list",data:=.seq p.toArray } (.lst (ns.map V.int))) else IS) (λb=>?_) (.inl (.inr ⟨{ cls:=.type "list",data:=.seq p.toArray },y7 rfl⟩)) (λb u z=>?_) (λb z=>?_) λ_=>R
  ·by_cases g:b=a
   ·rwa[.inr ⟨_,_,y7 g⟩]
   ·rwa[.inl (y6 g)]
  ·by_cases g:b=a
   ·have A:=(y7 g).symm.trans z;cases A;subst g;rwa[L,by rw[ac]; exact hl,p,_,rv,L]
   ·have A:=(y6 g).symm.trans z;cases A
  ·by_cases g:b=a
   ·rwa[g]
   ·rwa[x4 (y6 g) z]
end L2

namespace L2

end L2

namespace L2


abbrev CX0:CXT:=λ_ _ _ _ _ _=>False
abbrev E0:XK:=λ_ _ _=>False
def de : jX CX0 X E0:=λ_ _ _ _ _ _ _ h=>h.elim

structure Fun(K:b9)(x qual:g8)(st:Ae)(f:c5)(fd:AN):Prop where
 ex:∃(oc:c6)(od:Option c5)(kV doc pm:c6)(an:Option c5)(cdv ct:c6)(osl:Array (Option c6)),
  fd=AD x qual (wZ st) (wA st) (zG st) .none kV doc pm an cdv ct/\K.lookup f=O ⟨oc,od,.func fd,osl⟩/\CT K cdv qual=IT
 kp:AQ K (.ref f)=IT
section
variable{P:j7}{w:m9}{K:b9}{mg:g8->Option c6}{base:v8}
def Fun.ok{st:Ae}{fd:AN}{k:Nat}{g:Sp}(F:Fun K x a st f fd)(S:zL N i (zG st))(len:∀ d H Q E,g d H Q E->d.length=i.length)
  (e:∀(c:c6)(A:Aq)(outer:List D9)(s:d8)(H:Hp)(d:List V)(Q:VK)(E:XK),qZ k (A.deeper (envOfC a (zG st) s.heap.objs.size f c))->g d H Q E ->
   ∃ t,PSs (cxOf CX0 P w K mg base N a (zG st) f c A outer s H E).nox (wA st) t/\t { nx:=λ_ p=>Q .non p,rt:=Q } (kX N d) H):yN P w K mg base CX0 (k+1) f fd i g:=by
 obtain⟨v,u,kV,o,r,y,c,ct,m,rfl,lk,l⟩:=F.ex;erw[Sw lk l S len λA outer s H d Q E n j=>?_];obtain⟨t,h,q⟩:=e c A outer s H d Q E n j;rwa[t,h.nox,q]
def Fun.binds{st:Ae}{fd:AN}{g:List g8}(F:Fun K x a st f fd)
  (h:∀(kV c i:c6)(j:Option c5)(d ct:c6)(e:List c6),e.length=g.length->bindArgs (AD x a (wZ st) (wA st) (zG st) .none kV c i j d ct) ⟨e,[]⟩=pure (g.zip e)):nh K fd g []:=by
 obtain⟨o,n,kV,c,i,j,d,ct,l,rfl,lk,m⟩:=F.ex;rwa[.all (h kV c i j d ct)]
def XR{st:Ae}{m:c6}{j i:Option c5}{g:Array (Option c6)}{kV e h d ct:c6}(l:K.lookup f=O ⟨m,j,.func (AD x a (wZ st) (wA st) (zG st) .none kV e h i d ct),g⟩)
  (c:CT K d a=IT) (k:AQ K (.ref f)=IT):Fun K x a st f (AD x a (wZ st) (wA st) (zG st) .none kV e h i d ct):=⟨⟨m,j,kV,e,h,i,d,ct,g,rfl,l,c⟩,k⟩
end
def yB{k:Nat}(a:qZ k A):A.units+1<cLine:=BY (FU (by decide:1<=64) _) a.units
def zK{n:Nat}(h:n<=1000):n<sizeLine:=BY h (by decide)

section
variable{X:Cx}
def pv(i:Nat)(d:X.N[i]?=O x:=by rfl)(c:Vis X.env.scope x:=by first | exact BB rfl | exact GJ (BB rfl) | exact GJ (GJ rfl))(hd:(x ==("__debug__" : g8))=false:=by decide)
  (a:(x ==("__classdict__" : g8))=false:=by decide):PE X (.Name x pos) (Uv i):=Ul d c hd a
end

def wX{A B:Prop}(h:B):if IU=IT then A else B:=by
 rw[y6 i9];rwa[h]
def qr{A B:Prop}(h:A):if IT=IT then A else B:=by
 rw[y7 rfl];rwa[h]
def ite2{c A B:Prop}[Decidable c](h1:c->A)(h2:¬ c->B):if c then A else B:=by
 by_cases h:c
 ·rw[y7 h];rwa[h1 h]
 ·rw[y6 h];rwa[h2 h]
def Same(H a:Hp):Prop:=∀ b o,H b=O o->a b=O o
def Same.refl(H:Hp):Same H H:=λ_ _ h=>h
def Same.trans{H e d:Hp}(a:Same H e)(b:Same e d):Same H d:=λc o h=>b c o (a c o h)
def Same.free{H a:Hp}(e:Same H a)(h:a l=ID):H l=ID:=by
 cases q:H l with
 | none=>rfl
 | some o =>
  rw[e l o q] at h;cases h
def Same.seq{K:b9}{H d:Hp}(e:Same H d)(h:SqL K H a c):SqL K d a c:=by
 rcases h with (h | ⟨o,h⟩) | h
 ·rwa[.inl (.inl (e _ _ h))]
 ·rwa[.inl (.inr ⟨o,e _ _ h⟩)]
 ·rwa[.inr h]

end L2

namespace Sea
def yF(ns:List Int):Nat:=ns.foldl (λg n=>w9 g n.natAbs) 0
def jb(ns:List Int)(n:Int):yF (ns++[n])=w9 (yF ns) n.natAbs:=by
 unfold yF;rw[Ew];rfl
def fN:∀(ns:List Int)(g:Nat),ns.foldl (λg n=>w9 g n.natAbs) g ∣ g/\∀ n∈ns,ns.foldl (λg n=>w9 g n.natAbs) g ∣ n.natAbs
 | [],g=>⟨Nat.dvd_refl g,λ_ h=>nomatch h⟩
 | x::r,g=>by
  obtain⟨h1,h2⟩:=fN r (w9 g x.natAbs);erw[HW h1 (Nat.gcd_dvd_left _ _),λn a=>?_];rcases j4.mp a with e | e
  ·rw[e];rwa[HW h1 (Nat.gcd_dvd_right _ _)]
  ·rwa[h2 n e]
def qQ{ns:List Int}{n:Int}(h:n∈ns):yF ns ∣ n.natAbs:=(fN ns 0).2 n h
def wN{ns:List Int}{n:Int}(h:n∈ns):(yF ns:Int) ∣ n:=Int.ofNat_dvd_left.mpr (qQ h)
def eJ{d:Nat} : ∀(ns:List Int)(g:Nat),d ∣ g->(∀ n∈ns,d ∣ n.natAbs)->d ∣ ns.foldl (λg n=>w9 g n.natAbs) g
 | [],_,h,_=>h
 | x::r,g,h,a=>eJ r _ (Nat.dvd_gcd h (a x Ab)) λn c=>a n (x8 _ c)
def Xr{d:Nat}{ns:List Int}(h:∀ n∈ns,d ∣ n.natAbs):d ∣ yF ns:=eJ ns 0 (Nat.dvd_zero d) h
def xL{ns:List Int}{n:Int}(h:n∈ns)(h0:n≠0):0<yF ns:=by
 rcases Nat.eq_zero_or_pos (yF ns) with e | e
 ·have q:=qQ h;rw[e,Nat.zero_dvd] at q;lia
 ·rwa[e]
def za{ns:List Int}{n:Int}(h:n∈ns)(h0:n≠0):(yF ns:Int)<=n.natAbs:=by
 have q:=EO (by lia) (qQ h);lia
def rF(ns:List Int):List Int:=ns.map λn=>n/(yF ns:Int)
def yX{ns:List Int}{n:Int}(h:n∈ns):n/(yF ns:Int)*(yF ns:Int)=n:=Int.ediv_mul_cancel (wN h)
def mz(h:0<yF ns):yF (rF ns)=1:=by
 have a:yF ns*yF (rF ns) ∣ yF ns:=by
  erw[Xr λn e=>?_];have h1:yF (rF ns) ∣ (n/(yF ns:Int)).natAbs:=qQ (g7.mpr ⟨n,e,rfl⟩);obtain⟨c,d⟩:=h1;have h2:=congrArg Int.natAbs (yX e);rw[Ef,Eg,d] at h2;rw[<- h2];rwa[c,by rw[Nat.mul_comm,HX]]
 obtain⟨c,d⟩:=a;have h3:yF ns*(yF (rF ns)*c)=yF ns*1:=by
  rw[<- HX,<- d,Nat.mul_one]
 have h4:=Nat.eq_of_mul_eq_mul_left h h3;rwa[Nat.dvd_one.mp ⟨c,h4.symm⟩]
def fO(x y:Int):yF [x,y]=w9 x.natAbs y.natAbs:=by
 show w9 (w9 0 x.natAbs) y.natAbs=_;rw[Gm]
def uk(x y z:Int):yF [x,y,z]=w9 (w9 x.natAbs y.natAbs) z.natAbs:=by
 show w9 (w9 (w9 0 x.natAbs) y.natAbs) z.natAbs=_;rw[Gm]
def fJ(ns:List Int):yF (ns.map λn=>-n)=yF ns:=by
 have a:∀(l:List Int)(g:Nat),(l.map λn=>-n).foldl (λg n=>w9 g n.natAbs) g=l.foldl (λg n=>w9 g n.natAbs) g:=by
  intro l
  induction l with
  | nil=>intro g; rfl
  | cons x r c =>
   intro g;show(r.map λn=>-n).foldl _ (w9 g (-x).natAbs)=r.foldl _ (w9 g x.natAbs);rw[c,FI]
 rwa[a ns 0]
def kZ{a b:Int}(d:0<=a)(c:0<b):w9 b.toNat (a%b).toNat=w9 a.toNat b.toNat:=by
 obtain⟨m,rfl⟩:=Bm d;obtain⟨n,rfl⟩:=Bm (Ah c);have e:((m:Int)%(n:Int)).toNat=m%n:=by
  rw[<- Int.natCast_emod];rfl
 show w9 n ((m:Int)%(n:Int)).toNat=w9 m n;rw[e,Io m n,Nat.gcd_rec n m,Io]
def fL(i:Int):(if i<0 then -i else i)=(i.natAbs:Int):=by
 split <;> lia
structure Wu(t b x y:Int):Prop where
 pos:1<=y
 low:w9 x.natAbs y.natAbs=1
 eq:x*b=y*t
 xle:x.natAbs<=t.natAbs
 yle:y.natAbs<=b.natAbs
def wY(n:Int){g:Int}(d:0<g)(h:g ∣ n):(n/g).natAbs<=n.natAbs:=by
 obtain⟨c,a⟩:=h;subst a;rw[Int.mul_ediv_cancel_left c (by lia),Ef];rwa[Nat.le_mul_of_pos_left _ (by lia)]
def Ur(t:Int){b:Int}(d:b≠0):∃ x y:Int,(rF (if b<0 then [t,b].map (λn=>-n) else [t,b]))=[x,y]/\Wu t b x y:=by
 have a:∀(t b:Int),0<b->∃ x y:Int,rF [t,b]=[x,y]/\Wu t b x y:=λt b d=>by
  have j:0<yF [t,b]:=xL (n:=b) (by simp) (by lia);have i:=yX (ns:=[t,b]) (n:=t) (by simp);have f:=yX (ns:=[t,b]) (n:=b) (by simp);have c:(0:Int)<(yF [t,b]:Int):=by lia
  erw[t/(yF [t,b]:Int),b/(yF [t,b]:Int),rfl,?_,?_,?_,wY t c (wN (by simp)),wY b c (wN (by simp))]
  ·rwa[Eh d (Ah c) (wN (by simp))]
  ·have h3:=mz j;rw[<- fO];rwa[h3]
  ·generalize (yF [t,b]:Int)=g at i f
   calc t/g*b=t/g*(b/g*g):=by rw[f]
    _=b/g*(t/g*g):=by rw[<- AA,<- AA,l7 (t/g)]
    _=b/g*t:=by rw[i]
 by_cases h:b<0
 ·rw[y7 h];obtain⟨x,y,e,p⟩:=a (-t) (-b) (by lia);refine⟨x,y,e,p.pos,p.low,?_,by have:=p.xle; lia,by have:=p.yle; lia⟩;have q:=p.eq;rw[BU,BU] at q;lia
 ·rw[y6 h];rwa[a t b (by lia)]
def zQ(a b:Int){m n:Nat}(d:a.natAbs<=m)(c:b.natAbs<=n):(a*b).natAbs<=m*n:=by
 rw[Ef];rwa[Hk d c]
def Ue{b:Int}(h:b.natAbs<=10^40):b.natAbs<10^500:=BY h (by ac_nf)
def dir_low{X Y:Int}(h:X≠0\/Y≠0):∃ x y:Int,rF [X,Y]=[x,y]/\0<yF [X,Y]/\(yF [X,Y]<=X.natAbs\/yF [X,Y]<=Y.natAbs)/\w9 x.natAbs y.natAbs=1/\x*Y-y*X=0/\0<x*X+y*Y/\x.natAbs<=X.natAbs/\y.natAbs<=Y.natAbs:=by
 have e:0<yF [X,Y]:=by
  rcases h with h | h
  ·rwa[xL (n:=X) (by simp) h]
  ·rwa[xL (n:=Y) (by simp) h]
 have d:(0:Int)<(yF [X,Y]:Int):=by lia
 have c:=yX (ns:=[X,Y]) (n:=X) (by simp);have a:=yX (ns:=[X,Y]) (n:=Y) (by simp);erw[X/(yF [X,Y]:Int),Y/(yF [X,Y]:Int),rfl,e,?_,?_,?_,?_,wY X d (wN (by simp)),wY Y d (wN (by simp))]
 ·rcases h with h | h
  ·rwa[.inl (EO (by lia) (qQ (by simp)))]
  ·rwa[.inr (EO (by lia) (qQ (by simp)))]
 ·rw[<- fO];rwa[mz e]
 ·generalize (yF [X,Y]:Int)=g at c a;generalize X/g=x at c;generalize Y/g=y at a;rw[<- c,<- a,<- AA,<- AA,l7 x y];lia
 ·generalize (yF [X,Y]:Int)=g at c a d;have i:0<=X/g*X:=by
   have:X/g*X=X/g*(X/g)*g:=by rw[AA,c]
   rw[this];rwa[o7 (by rw[<- Db]; exact BZ _) (Ah d)]
  have f:0<=Y/g*Y:=by
   have:Y/g*Y=Y/g*(Y/g)*g:=by rw[AA,a]
   rw[this];rwa[o7 (by rw[<- Db]; exact BZ _) (Ah d)]
  rcases h with h | h
  ·have:X/g*X≠0:=CF (λz=>h (by rw[<- c,z,x9])) h;lia
  ·have:Y/g*Y≠0:=CF (λz=>h (by rw[<- a,z,x9])) h;lia
def upL(X Y W:Int):List Int:=if W<0 then [-X,-Y,-W] else [X,Y,W]
def Vl{X Y W:Int}(h:W≠0):upL (-X) (-Y) (-W)=upL X Y W:=by
 unfold upL;by_cases c:W<0
 ·rw[y7 c,y6 (by lia)]
 ·rw[y6 c,y7 (by lia),G0,G0,G0]
structure cV(X Y W x y w:Int):Prop where
 pos:1<=w
 low:w9 (w9 x.natAbs y.natAbs) w.natAbs=1
 ex:x*W=X*w
 ey:y*W=Y*w
 xle:x.natAbs<=X.natAbs
 yle:y.natAbs<=Y.natAbs
 wle:w.natAbs<=W.natAbs
def ei{X Y W:Int}(h:0<W):∃ x y w:Int,rF [X,Y,W]=[x,y,w]/\cV X Y W x y w:=by
 have f:0<yF [X,Y,W]:=xL (n:=W) (by simp) (by lia);have c:(0:Int)<(yF [X,Y,W]:Int):=by lia
 have e:=yX (ns:=[X,Y,W]) (n:=X) (by simp);have d:=yX (ns:=[X,Y,W]) (n:=Y) (by simp);have a:=yX (ns:=[X,Y,W]) (n:=W) (by simp);have lo:=mz f;erw[X/(yF [X,Y,W]:Int),Y/(yF [X,Y,W]:Int),W/(yF [X,Y,W]:Int),rfl,Eh h (Ah c) (wN (by simp)),?_,?_,?_,wY X c (wN (by simp)),wY Y c (wN (by simp)),wY W c (wN (by simp))]
 ·rw[<- uk];rwa[lo]
 ·generalize (yF [X,Y,W]:Int)=g at e a;generalize X/g=x at e;generalize W/g=w at a;rw[<- e,<- a,AA,l7 g w]
 ·generalize (yF [X,Y,W]:Int)=g at d a;generalize Y/g=y at d;generalize W/g=w at a;rw[<- d,<- a,AA,l7 g w]
def jy{X Y W:Int}(h:W≠0):∃ x y w:Int,rF (upL X Y W)=[x,y,w]/\cV X Y W x y w:=by
 unfold upL;by_cases c:W<0
 ·rw[y7 c];obtain⟨x,y,w,e,p⟩:=ei (X:=-X) (Y:=-Y) (W:=-W) (by lia);refine⟨x,y,w,e,p.pos,p.low,?_,?_,by have:=p.xle; lia,by have:=p.yle; lia,by have:=p.wle; lia⟩
  ·have q:=p.ex;rw[BU,AI] at q;lia
  ·have q:=p.ey;rw[BU,AI] at q;lia
 ·rw[y6 c];rwa[ei (by lia)]
def kN{A B C X Y W x y w:Int}(h:W≠0)(p:cV X Y W x y w)(e:A*X+B*Y=C*W):A*x+B*y=C*w:=by
 erw[Int.eq_of_mul_eq_mul_right h ?_];have c:(A*x+B*y)*W=A*(x*W)+B*(y*W):=by rw[Aw,AA,AA]
 have a:A*(X*w)+B*(Y*w)=(A*X+B*Y)*w:=by rw[Aw,AA,AA]
 rw[c,p.ex,p.ey,a,e,AA,l7 W w,<- AA]
def aM(d c a g f e:Int):d*(a*f-c*e)+c*(d*e-a*g)=a*(d*f-c*g):=by
 simp only[BV,l7,As];lia
def ah(g f e d c a:Int):d*(e*c-f*a)+c*(g*a-e*d)=a*(g*c-f*d):=by
 simp only[BV,l7,As];lia
def gcd3(d c a:Int):(w9 ((w9 d.natAbs c.natAbs:Nat):Int).natAbs a.natAbs:Nat)=yF [d,c,a]:=by
 rw[uk,Eg]
end Sea

namespace Sea
def Wx{a b:Int}(h:a≠0\/b≠0):1<=a*a+b*b:=by
 have d:0<=a*a:=by rw[<- Db]; rwa[BZ _]
 have c:0<=b*b:=by rw[<- Db]; rwa[BZ _]
 rcases h with h | h
 ·have:a*a≠0:=CF h h;lia
 ·have:b*b≠0:=CF h h;lia
end Sea

namespace Sea
end Sea

namespace L2

structure CC where
 C:c5
 s:d8
 H:Hp
 fp:List c5

def ni(env:D9):List (g8×CS)->List (g8×c5)->List (g8×c5)
 | [],a=>a
 | (n,k)::r,a=>ni env r (if (k == Al)=IT then(n,(env.cells.lookup n).getD 0)::a else a)
def Vb{d:Dy}{env:D9}(h:∀ x∈d.names,x.2=.free->∃ c,env.cells.lookup x.1=O c):closureFor d env=pure (ni env d.names []):=by
 simp only[closureFor];have m:∀(names:List (g8×CS))(f:List (g8×c5)),(∀ x∈names,x.2=.free->∃ c,env.cells.lookup x.1=O c) ->
  (forIn names f (λ(x:g8×CS) (r:List (g8×c5))=>match x with | (g,kind)=>if (kind == Al)=IT then(do let a <- cellOf env g; pure (BJ ((g,a)::r))) else pure (BJ r)):Ix (List (g8×c5)))=pure (ni env names f):=by
  intro names
  induction names with
  | nil=>intro f _; rfl
  | cons x r q =>
   intro f o;obtain⟨n,k⟩:=x;rw[Fp];have j:=q (if (k == Al)=IT then(n,(env.cells.lookup n).getD 0)::f else f) λy s=>o y (x8 _ s);by_cases i:(k == Al)=IT
   ·obtain⟨c,p⟩:=o (n,k) Ab (by simpa using i);have e:cellOf env n=pure c:=by unfold cellOf; rw[p]
    rw[y7 i] at j;have l:env.cells.lookup n=O c:=p;rw[l] at j;show(((if (k == Al)=IT then(do let a <- cellOf env n; pure (BJ ((n,a)::f))) else pure (BJ f)):Ix _) >>= _)=_;rw[y7 i,e];erw[Eq.trans ?_ (j.trans ?_)]
    ·rfl
    ·rw[ni,y7 i,l]
   ·rw[y6 i] at j;show(((if (k == Al)=IT then(do let a <- cellOf env n; pure (BJ ((n,a)::f))) else pure (BJ f)):Ix _) >>= _)=_;rw[y6 i];erw[Eq.trans ?_ (j.trans ?_)]
    ·rfl
    ·rw[ni,y6 i]
 rwa[congrArg (λ(z:Ix (List (g8×c5)))=>z >>= λf=>pure f) (m d.names [] h)]
def ww{env:D9} : ∀(names:List (g8×CS))(j:List (g8×c5)),(∀ x∈names,x.2=.free->∃ c,env.cells.lookup x.1=O c) ->
  (∀ x c,j.lookup x=O c->env.cells.lookup x=O c)->∀ x c,(ni env names j).lookup x=O c->env.cells.lookup x=O c
 | [],_,_,f=>f
 | (n,k)::r,j,h,f=>by
  erw[ww r _ (λy l=>h y (x8 _ l)) λx c=>?_];by_cases i:(k == Al)=IT
  ·rw[y7 i];obtain⟨d,hd⟩:=h (n,k) Ab (by simpa using i);have a:env.cells.lookup n=O d:=hd;intro e;rw[t6] at e;cases g:x == n with
   | true =>
    rw[g,a] at e;have ex:x=n:=by simpa using g
    rw[ex,a];rwa[e]
   | false =>
    rw[g] at e;rwa[f x c e]
  ·rw[y6 i];rwa[f x c]
def ng : ∀(names:List (g8×CS))(f:List (g8×c5))(x:g8),((x,Al)∈names\/∃ c,f.lookup x=O c)->∃ c,(ni env names f).lookup x=O c
 | [],_,_,h=>h.elim (λz=>nomatch z) id
 | (n,k)::r,f,x,h=>by
  erw[ng r _ x ?_];by_cases d:(k == Al)=IT
  ·rw[y7 d];cases a:x == n with
   | true=>rwa[.inr ⟨_,by rw[t6,a]⟩]
   | false =>
    rcases h with h | ⟨c,h⟩
    ·rcases j4.mp h with e | e
     ·injection e with e1 _
      subst e1;simp at a
     ·rwa[.inl e]
    ·rwa[.inr ⟨c,by rw[t6,a]; exact h⟩]
  ·rw[y6 d];rcases h with h | h
   ·rcases j4.mp h with e | e
    ·injection e with _ e2
     subst e2;rwa[x4 rfl d]
    ·rwa[.inl e]
   ·rwa[.inr h]
def qq{env:D9} : ∀{names:List (g8×CS)}{x:g8},names.lookup x=O .free ->
  (names.map λ(n,k)=>if (k == Al&&env.scope.kind == .function&&env.kindOf n == O .cell) then(n,CI) else(n,k)).lookup x=O .cell \/
  (names.map λ(n,k)=>if (k == Al&&env.scope.kind == .function&&env.kindOf n == O .cell) then(n,CI) else(n,k)).lookup x=O .free
 | [],_,h=>by simp at h
 | (n,k)::r,x,h=>by
  have c:=@qq env r x;show Am x ((if (k == Al&&env.scope.kind == .function&&env.kindOf n == O .cell)=IT then(n,CI) else(n,k))::_)=_\/Am x ((if (k == Al&&env.scope.kind == .function&&env.kindOf n == O .cell)=IT then(n,CI) else(n,k))::_)=_;by_cases d:(k == Al&&env.scope.kind == .function&&env.kindOf n == O .cell)=IT
  ·rw[y7 d];cases a:x == n with
   | true=>rwa[.inl (by rw[t6,a])]
   | false =>
    rw[t6,a] at h;rw[t6,a];rwa[c h]
  ·rw[y6 d];cases a:x == n with
   | true =>
    rw[t6,a] at h;rwa[.inr (by rw[t6,a]; exact h)]
   | false =>
    rw[t6,a] at h;rw[t6,a];rwa[c h]
def yj{env:D9} : ∀{names:List (g8×CS)}{x:g8}{j:CS},(∀ y∈names,y.2≠.cell)->(j=.cell\/j=.free) ->
  (names.map λ(n,k)=>if (k == Al&&env.scope.kind == .function&&env.kindOf n == O .cell) then(n,CI) else(n,k)).lookup x=O j->(x,Al)∈names
 | [],_,_,_,_,h=>by simp at h
 | (n,k)::r,x,j,g,c,h=>by
  have f:=@yj env r x j (λy l=>g y (x8 _ l)) c;have e:k≠.cell:=g (n,k) Ab
  replace h:Am x ((if (k == Al&&env.scope.kind == .function&&env.kindOf n == O .cell)=IT then(n,CI) else(n,k))::(r.map λ(n,k)=>if (k == Al&&env.scope.kind == .function&&env.kindOf n == O .cell) then(n,CI) else(n,k)))=O j:=h
  by_cases d:(k == Al&&env.scope.kind == .function&&env.kindOf n == O .cell)=IT
  ·rw[y7 d] at h;have m:k=.free:=by
    simp only[AJ] at d;simpa using d.1.1
   cases a:x == n with
   | true =>
    have ex:x=n:=by simpa using a
    subst ex;rw[<- m];rwa[Ab]
   | false =>
    rw[t6,a] at h;rwa[x8 _ (f h)]
  ·rw[y6 d] at h;cases a:x == n with
   | true =>
    rw[t6,a] at h;have ex:x=n:=by simpa using a
    have i:k=j:=o8 h;subst ex;rcases c with c | c
    ·rwa[x4 (i.trans c) e]
    ·rw[<- c,<- i];rwa[Ab]
   | false =>
    rw[t6,a] at h;rwa[x8 _ (f h)]

def cxComp(X:Cx)(N:List g8)(a:Dy)(c:CC):Cx where
 prog:=X.prog
 w:=X.w
 K:=X.K
 mg:=X.mg
 base:=X.base
 A:=X.A
 N:=N
 s₀:=c.s
 H₀:=c.H
 env:=compEnvC a (ni X.env a.names []) c.C X.env
 outer:=X.stack
 stack:=X.stack
 ex:=c.fp
 fn:=λ_=>IU
 calm:=X.calm
 pn:=[]
 xe:=λ_ _=>False

def lA(X:Cx)(a:Dy):List (g8×Nat)->Prop
 | []=>True
 | p::r=>(X.N[p.2]?=O p.1/\a.names.lookup p.1=O .free/\(X.env.kindOf p.1=O .cell\/X.env.kindOf p.1=O .free))/\lA X a r
def lA.mem : ∀{c:List (g8×Nat)},lA X a c->∀ p∈c,X.N[p.2]?=O p.1/\a.names.lookup p.1=O .free/\(X.env.kindOf p.1=O .cell\/X.env.kindOf p.1=O .free)
 | [],_,_,h=>nomatch h
 | q::r,h,p,d=>by
  rcases j4.mp d with e | e
  ·rw[e]; rwa[h.1]
  ·rwa[lA.mem h.2 p e]
structure vy(X:Cx)(caps:List (g8×Nat))(scope:Dy):Prop where
 kind:scope.kind=.function
 nocell:∀ y∈scope.names,y.2≠.cell
 loc:∀ y∈scope.names,y.2=.local->scope.names.lookup y.1=O .local
 clos:(scope.names.all λx=>!(x.2 == .free)||(X.env.cells.lookup x.1).isSome)=IT
 cap:lA X scope caps
def vy.cells(S:vy X d a):∀ x∈a.names,x.2=.free->∃ c,X.env.cells.lookup x.1=O c:=λx e f=>by
 have h:=AG.mp S.clos x e;rw[f] at h;simp only[Bool.or_eq_true] at h;rcases h with h | h
 ·rwa[x4 h (by decide)]
 ·rwa[i3.mp h]

def dj(a:List (g8×Nat))(d:Nat)(c:St):St:=Be d IS++a.map λp=>(c[p.2]?).join

def Sf(Y:Cx)(d:List An)(t:TT):Prop :=
 ∀(e:List (c5×BD))(s:d8)(a:St)(H:Hp)(Q:Bool->Hp->Prop),Inv Y e a H s->t a H Q ->
  wpAny (model Y.prog Y.w) Y.A (forIn d IT λc r=>if r=IT then do let ok <- isTrue c Y.env (eval c Y.env); pure (BJ ok) else pure (BJ r)) (TP Y e a Q) Y.xe s
def Wb:TT:=λ_ H Q=>Q IT H
def yJ : Sf Y [] Wb:=λ_ _ _ H _ I h=>wpAny_tests_nil ⟨H,I,h⟩
def Ys(h:PT Y c t):Sf Y [c] t:=λd s a H Q I q=>wpAny_tests_one (h d s a H Q I q)

def ui(J:It)(D:c5)(g:TG)(p:TT)(q:TE)(f:St)(s:Hp)(Q:VK):Prop :=
 ∃ W:Nat->Nat->St->List V->Hp->Prop,(∃ m,W 0 m f [] (upd s D (.lst [])))/\∀ i m h c H,W i m h c H->H D=O (.lst c) /\
  ((J.stop i H/\Q (.ref D) H)\/(J.go i H/\∃ N:St->List V->Hp->Prop,(∀ d j e,N d j e->∃ l,l<m/\W (i+1) l d j e)/\∀ x e,J.yld i H x e->g x h e λa r=>p a r λb o =>
   if b=IT then q a o λy n=>n D=O (.lst c)/\c.length<sizeLine/\N a (c++[y]) (upd n D (.lst (c++[y]))) else N a c o))
def tComp(j:Nat)(a:List (g8×Nat))(f:TI)(g:CC->TG)(h:CC->TT)(i:CC->TE):TE:=λd H Q =>
 f d H λJ e=>∀(c:CC)(D:c5),e D=IS->ui J D (g c) (h c) (i c) (dj a j d) e Q

def Vf{c:Type}{t:Ix c}{Q d:c->d8->Prop}{M:IB}{A:Aq}{E:c6->d8->Prop}{s:d8}(h:wpAny M A t Q (λ_ _=>False) s)(e:∀ a s,Q a s->d a s):wpAny M A t d E s:=Cm h e λ_ _ x=>x.elim
def Un.same{H f:Hp}(u:Un fs ex H f h h1)(c:Bq C h1 h2)(j:h.get? C=IS):Un fs ex H f h h2:=by
 have ne:∀ b o,h.get? b=O o->b≠C:=λb o e z=>by rw[z,j] at e; cases e
 erw[λb o e n d a=>(c.2 b (ne b o e)).trans (u.keep b o e n d a),λb o e n d a=>?_,u.free,λb o e a=>?_,u.tups,u.frzs,u.tbls]
 ·obtain⟨g,q⟩:=u.slot b o e n d a;rwa[g,(c.2 b (ne b o e)).trans q]
 ·obtain⟨i,q⟩:=u.there b o e a;rwa[i,(c.2 b (ne b o e)).trans q]
def HOk.same{H:Hp}(k:HOk P w H h)(f:Bq C h d)(a:H C=IS):HOk P w H d:=λb o e=>by
 refine(k b o e).stay (λc v g q=>(f.2 c ?_).trans q) (λ_ q=>q) λ_ _ q=>q;rintro rfl;rcases g with z | z
 ·rw[z,e] at a; cases a
 ·rw[a] at z; cases z

section
variable{X:Cx}{T:List g8}{caps:List (g8×Nat)}{scope:Dy}{elt target iter:An}{ifs:List An}{pos:Dm}{wi:TI}{g:CC->TG}{tt:CC->TT}{te:CC->TE}

def ce{H:St}{G:Hp}{fp:List c5}{C D:c5}{h1:v8}{tk:Nat}{m:g8->Option c6}(S:vy X caps scope)(a:Inv X IV H G s)(N:∀ b∈fp,bO X IV G b)
  (hfp:∀ b∈fp,b<s.heap.objs.size) (M:s.heap.objs.size<=D) (hC:s.heap.objs.size<=C) (hDC:C≠D) (j:∀ b o,s.heap.get? b=O o->h1.get? b=O o)
  (acc:∃ n,h1.get? D=O { cls:=.type "list",data:=.seq ([]:List c6).toArray n }) (hn:h1.Ns C m) :
  Inv (cxComp X (T++caps.map (·.1)) scope ⟨C,s,G,fp⟩) [] (dj caps T.length H) (upd G D (.lst [])) { s with heap:=h1,toks:=tk }:=by
 have E:=ww (env:=X.env) scope.names [] S.cells (λ_ _ z=>by cases z);have h:∀ x c,X.env.cells.lookup x=O c->c<s.heap.objs.size:=λx c e=>by
  obtain⟨v,q⟩:=a.cell x c e;rwa[q.lt]
 have w:∀ b∈fp,b ∉ frs X.stack:=λb B z=>by
  rcases j4.mp (a.stkSub b z) with e | e
  ·exact(N b B).2.1 e
  ·exact(N b B).2.2.1 e
 have fr:G D=none:=a.hok.fresh M;refine⟨⟨a.ok.mod,S.kind,a.ok.glob,a.ok.blt,hC,λx y c e1 r=>a.ok.inj x y c (E x c e1) (E y c r),λx hx=>?_,λ_ _ z=>x4 (show IU=IT from z) i9,a.ok.hd,a.ok.frames,.inl rfl,λb B=>⟨?_,λx c e=>(N b B).2.2.2.2.1 x c (E x c e)⟩,
  λb o e=>a.bs b o e,f8 a.ok.bsz a.sz,λb o e B=>?_,w,a.stack,a.stkFree⟩,rfl,a.bare,?_,⟨m,hn,λi x v e1 r e3=>?_⟩,λx c e=>?_,?_,λx c e=>?_,λp I=>x4 (show p∈([]:List (c5×BD)) from I) (by simp),?_,?_⟩
 ·have Q:(x,Al)∈scope.names:=by
   rcases hx with z | z
   ·rwa[yj S.nocell (.inl rfl) z]
   ·rwa[yj S.nocell (.inr rfl) z]
  rwa[ng scope.names [] x (.inl Q)]
 ·rwa[j9 (m7 (hfp b B) hC)]
 ·rcases (N b B).2.2.2.1 with z | z
  ·rwa[a.ok.noex b o e z]
  ·exact x4 (m7 (g6 (show X.base.get? b=O o from e)) (f8 a.ok.bsz z)) (BE _)
 ·rwa[Un.laid j M fr]
 ·have Z:¬ i<T.length:=λhi=>by
   unfold dj at r;rw[Ag (by simpa using hi),EU,y7 hi] at r;cases r
  have J:T.length<=i:=GI Z;have f:(T++caps.map (·.1))[i]?=O x:=e1;rw[t9 J,d7] at f;unfold dj at r;rw[t9 (by simpa using J),Bc,d7] at r;cases I:caps[i-T.length]? with
  | none=>rw[I] at f; cases f
  | some p =>
   rw[I] at f r;have ex:p.1=x:=o8 f;have P:(H[p.2]?).join=O v:=o8 r;obtain⟨hN,hf,hk⟩:=S.cap.mem p (e9 I);have ev':H[p.2]?=O (O v):=by
    cases hq:H[p.2]? with
    | none=>rw[hq] at P; cases P
    | some o =>
     rw[hq] at P;rwa[congrArg O P]
   obtain⟨m2,_,hl2⟩:=a.loc;obtain⟨u,ru,l⟩:=hl2 p.2 p.1 v hN ev' (hk.elim (λz=>.inr (.inl z)) λz=>.inr (.inr z));erw[u,ru,.inr ⟨?_,?_⟩]
   ·rw[<- ex];rwa[qq (env:=X.env) hf]
   ·rcases l with ⟨kl,_⟩ | ⟨_,c,ec,A⟩
    ·rcases hk with z | z <;>(rw[kl] at z; cases z)
    ·obtain⟨d,hd⟩:=ng (env:=X.env) scope.names [] p.1 (.inl (BM hf));have L:=E p.1 d hd;rw[ec] at L;cases L;obtain⟨o,Y,R⟩:=A;rwa[c,by rw[<- ex]; exact hd,o,j c o Y,R]
 ·obtain⟨v,o,Y,hd⟩:=a.cell x c (E x c e);rwa[v,o,j c o Y,hd]
 ·show upd G D (.lst []) C=IS;rw[zF hDC];rwa[a.hok.fresh hC]
 ·show upd G D (.lst []) c=IS;rw[zF (j9 (m7 (h x c (E x c e)) M))];rwa[a.freeC x c (E x c e)]
 ·obtain⟨n,e⟩:=acc;rwa[a.hok.laid j M ⟨Aa _,[],n,.nil,e⟩]
 ·show(dj caps T.length H).length=(T++caps.map (·.1)).length;unfold dj;rw[f7,f7,ac,ac,Bc]

def yU(S:vy X caps scope)(hc:X.calm=IT)(hi:PI X target iter wi)(hg:∀ c,PG (cxComp X (T++caps.map (·.1)) scope c) target (g c))(ht:∀ c,Sf (cxComp X (T++caps.map (·.1)) scope c) ifs (tt c))(he:∀ c,PE (cxComp X (T++caps.map (·.1)) scope c) elt (te c))
  (hs:∀ x,foldedSetIterable iter X.env x=pure x:=by intro _; rfl):PE X (.ListComp elt [⟨target,iter,ifs,0⟩] scope pos) (tComp T.length caps wi g tt te):=by
 intro IV s σ H Q I h;rw[eval_ListComp];erw[wpAny_comprehension_free (use:=IS) rfl hs (Vb S.cells) S.kind S.loc (thn (hi IV s σ H _ I h) λv s1 h1=>thn h1 λitv a h2=>?_)];obtain⟨it,fp,tn,J,P,e,I2,TT,st2,f2,q2⟩:=h2;subst e;refine Ac (wpAny_newFunctionEnv S.nocell (by intro y hy; simp at hy) (λh1 hn L=>?_) S.kind);dsimp only at hn L ⊢;generalize hg2:a.heap.push { cls:=.type "list",dict:=IS,data:=.seq ([]:List c6).toArray }=G at hn L ⊢;have hCv:G.objs.size=a.heap.objs.size+1:=by rw[<- hg2,AR]
 have hDC:G.objs.size≠a.heap.objs.size:=by rw[hCv]; rwa[GK _]
 have j:a.heap.objs.size<=G.objs.size:=by rw[hCv]; rwa[Ck _]
 have old:∀ b o,a.heap.get? b=O o->h1.get? b=O o:=λb o e=>L.extBut b o (j9 (m7 (g6 e) j)) (c8 _ (hg2 ▸ c8 _ e));have hacc:∃ n,h1.get? a.heap.objs.size=O { cls:=.type "list",data:=.seq ([]:List c6).toArray n }:=⟨_,L.extBut _ _ (AW hDC) (c8 _ (hg2 ▸ f9 _ rfl))⟩;have hfp:∀ b∈fp,b<a.heap.objs.size:=λb f=>by
  obtain⟨o,e,_⟩:=TT.obj _ _ st2 b f;rwa[g6 e]
 have cs:=ww (env:=X.env) scope.names [] S.cells (λ_ _ z=>by cases z);have I0:=ce (T:=T) (tk:=a.toks+([]:List (g8×c6)).length) S I2 f2 hfp (f6 _) j hDC old hacc hn;have st0:tn 0 h1:=TT.keep _ _ _ st2 λb _ o e=>old b o e;obtain⟨W,⟨m0,w0⟩,turn⟩:=q2 ⟨G.objs.size,a,P,fp⟩ a.heap.objs.size (I2.hok.fresh (f6 _));have fr0:∀ b∈fp,upd P a.heap.objs.size (.lst []) b=none:=λb f=>by
  rw[zF (j9 (hfp b f))];exact(f2 b f).1
 have B:∀{C:Hp},(∀ b∈fp,C b=IS)->∀ b∈fp,bO (cxComp X (T++caps.map (·.1)) scope ⟨G.objs.size,a,P,fp⟩) [] C b:=λ{C} hn' b f =>
  ⟨hn' b f,j9 (m7 (hfp b f) j),I0.ok.exfs b f,.inl f,λx c e=>(f2 b f).2.2.2.2.1 x c (cs x c e),λp hp=>x4 (show p∈([]:List (c5×BD)) from hp) (by simp)⟩
 have M:codeAny (model X.prog X.w) X.A (.compLoop (.ListComp elt [⟨target,iter,ifs,0⟩] scope pos) 0 (.ref it) (.ref a.heap.objs.size) (compEnvC scope (ni X.env scope.names []) G.objs.size X.env))
   (compPost (model X.prog X.w) X.A X.xe IS (EP X IV σ Q) (.ref a.heap.objs.size) G.objs.size) { a with heap:=h1,toks:=a.toks+([]:List (g8×c6)).length }:=by
  erw[codeAny_loop rfl (λn s'=>∃ i q R C,Inv (cxComp X (T++caps.map (·.1)) scope ⟨G.objs.size,a,P,fp⟩) [] q C s'/\tn i s'.heap/\(∀ b∈fp,C b=IS)/\W i n q R C) (λn s3 hI=>?_) m0 ⟨0,_,[],_,I0,st0,fr0,w0⟩];obtain⟨i,E,R,H3,I3,st3,fr3,w3⟩:=hI;show wpAny _ X.A ((compTurn (.ListComp elt [⟨target,iter,ifs,0⟩] scope pos) 0 (.ref it) (.ref a.heap.objs.size) (compEnvC scope (ni X.env scope.names []) G.objs.size X.env)).onRaise (λx=>do noteFrame x (compEnvC scope (ni X.env scope.names []) G.objs.size X.env); theTreesLotGoes x)) _ _ s3;erw[wpAny_noted ?_];rw[compTurn_list];erw[b7 (EL (b7 ?_))];obtain⟨hD3,Y⟩:=turn i n E R H3 w3;rcases Y with ⟨stop,qn⟩ | ⟨go,N,hN,step⟩
  ·erw[Vf (TT.done (cxComp X (T++caps.map (·.1)) scope ⟨G.objs.size,a,P,fp⟩) rfl rfl rfl hc i [] s3 E H3 _ I3 (B fr3) st3 stop) λr s4 ⟨hr,I4⟩=>?_];subst hr;erw[d9 ?_];show ∃ m,s4.heap.Ns G.objs.size m/\∀ h',Bq G.objs.size s4.heap h'->EP X IV σ Q (.ref a.heap.objs.size) { s4 with heap:=h' };obtain⟨m4,hn4,_⟩:=I4.loc;erw[m4,hn4,λh' sb=>⟨.ref a.heap.objs.size,H3,?_,rfl,qn⟩];refine I2.call' (s':={ s4 with heap:=h' }) (ch:=fp) I4.os (Un.same I4.base sb (FE j)) (HOk.same I4.hok sb I4.free) I4.bare λb f=>?_;obtain⟨_,f1,_,f3,f4,f5⟩:=f2 b f;rwa[f3,f1,f4,f5]
  ·refine Vf (TT.item (cxComp X (T++caps.map (·.1)) scope ⟨G.objs.size,a,P,fp⟩) rfl rfl rfl hc i [] s3 E H3 _ I3 (B fr3) st3 go) λr s4 ⟨u,hr,h4⟩=>?_;subst hr;refine b7 (Vf h4 λ_ s5 ⟨x,H5,I5,r5,y5,Z,fr5⟩=>?_);have I5':=I5.pinned (B fr5) (TT.obj _ _ Z);refine b7 (Vf (hg _ _ s5 E H5 x u _ I5' r5 (step x H5 y5)) λ_ s6 ⟨D,H6,I6,q6⟩=>?_);have again:∀{s7:d8}{l:St}{zs:List V}{H7:Hp},Inv (cxComp X (T++caps.map (·.1)) scope ⟨G.objs.size,a,P,fp⟩) ([]++iX fp s5.heap) l H7 s7->N l zs H7 ->
     ∃ m,m<n/\∃ i q R C,Inv (cxComp X (T++caps.map (·.1)) scope ⟨G.objs.size,a,P,fp⟩) [] q C s7/\tn i s7.heap/\(∀ b∈fp,C b=IS)/\W i m q R C:=λ{s7 l zs H7} I7 n7=>by
    obtain⟨m',hm,w7⟩:=hN l zs H7 n7;erw[m',hm,i+1,l,zs,H7,I7.unpinned,TT.keep _ _ _ Z λb f o e=>(I7.pin (b,o) (z9 _ (z9 _ (yd f e)))).1,λb f=>?_,w7];obtain⟨o,e,d⟩:=TT.obj _ _ Z b f;exact(I7.pin (b,o) (z9 _ (z9 _ (yd f e)))).2.1
   erw[b7 (Vf (ht _ _ s6 D H6 _ I6 q6) λok s7 ⟨H7,I7,q7⟩=>?_)];cases ok with
   | false=>rwa[d9 ⟨rfl,again I7 q7⟩]
   | true =>
    erw[b7 (b7 (Vf (he _ _ s7 D H7 _ I7 q7) λy s8 ⟨yv,H8,I8,r8,hD8,hl8,q8⟩=>?_))];erw[b7 (Vf (ji _ s8 D H8 (.ref a.heap.objs.size) [yv] (.ref a.heap.objs.size) [y] (λ_ H9=>N D (R++[yv]) H9) I8 rfl (.cons r8 .nil) ⟨_,R,yv,rfl,rfl,hD8,hl8,q8⟩) λ_ s9 ⟨_,H9,I9,_,q9⟩=>?_)];rwa[d9 (d9 ⟨rfl,again I9 q9⟩)]
 rwa[codeAny_compStart_list M (TT.self _ 0 _ _ _ st0 M)]
end
end L2

namespace L2

def sh:bootBuiltins "len" = O (.builtin "len"):=by ac_nf
def UD:bootBuiltins "abs" = O (.builtin "abs"):=by ac_nf
def lG:bootBuiltins "all" = O (.builtin "all"):=by ac_nf
def Sn:bootBuiltins "max" = O (.builtin "max"):=by ac_nf
def UH:bootBuiltins "min" = O (.builtin "min"):=by ac_nf
def kQ:bootBuiltins "isinstance" = O (.builtin "isinstance"):=by ac_nf
def XY:bootBuiltins "int" = O (.type "int"):=by ac_nf
def aS:bootBuiltins "bool" = O (.type "bool"):=by ac_nf
def qM:bootBuiltins "list" = O (.type "list"):=by ac_nf
def kU:bootBuiltins "tuple" = O (.type "tuple"):=by ac_nf
def UM:bootBuiltins "zip" = O (.type "zip"):=by ac_nf

def Has(P:j7)(w:m9)(K:b9)(mg:g8->Option c6)(base:v8)(x:g8)(n:Nat)(a:List g8)(c:Sp):Prop :=
 ∃(f:c5)(fd:AN),yN P w K mg base CX0 n f fd a c/\nh K fd a []/\AQ K (.ref f)=IT/\mg x=O (.ref f)
section
variable{X:Cx}{x:g8}{p pos:Dm}{e:An}{es:List An}{t:TA}{n:Nat}{ps:List g8}{sp:Sp}
def wL(h:Has X.prog X.w X.K X.mg X.base x n ps sp)(d:qZ n X.A)(g:Gl X x)(j:PA X (e::es) t)(c:(x ==("__debug__" : g8))=false:=by decide)
  (i:starEach (e::es) X.env=(IU,eval e X.env)::starEach es X.env:=by rfl) (a:(backTo pos (starEach es X.env)).any (·.1)=false:=by rfl):PE X (.Call (.Name x p) (e::es) [] pos) (bx sp [] E0 t):=by
 obtain⟨f,fd,F,b,k,m⟩:=h;rwa[VL F d g m k b .nil de j c i a]
end

section
variable{X:Cx}
def zm(i j:Int):Prop:=0<j/\j.natAbs<2^4096
def ZZ:OpR X (binaryOp .FloorDiv) (rI zm λi j=>.int (i/j)):=opI λi j _ _ _ _ _ a q=>by
 have h1:(0:Int)<j:=a.1;have h3:j.natAbs.log2<9000:=Ip ((Nat.log2_lt (by lia)).mpr a.2) (by decide);rwa[floordiv_int (by lia) (by rw[Int.fdiv_eq_ediv_of_nonneg i (by lia)]; exact q) (.inl (PyProof.noPylong_of_log2 h3))]
def zm.of{i j:Int}(h:0<j)(h2:j<10^600):zm i j:=by
 exists h;have e:(10:Nat)^600<2^4096:=by ac_nf
 lia
def gw:uN X (.builtin "isinstance") (λa H Q=>E4 λx T t b=>A4 (a=[x,.ty T]) (TyOf X.K H x t) (Dr X.K t (.type T)=O b) (Q (.bl b) H)):=by
 intro i s f H a g Q I r h;obtain⟨x,T,t,b,rfl,ty,e,q⟩:=h;obtain⟨u,v,rfl,ru,d⟩:=yS.two r;cases d;rwa[bg I ru ty e λc=>⟨.bl b,H,I.tok c,rfl,q⟩]

def Sq(K:b9)(H:Hp)(p:c5)(a:List V):Prop:=SqL K H p a\/SqT K H p a
inductive RIx(K:b9)(x y:V)(H:Hp)(Q:VK):Prop where
 | mk (p:c5) (xs:List V) (i:Int) (v:V) (ex:x=.ref p) (ey:y=.int i) (sq:Sq K H p xs) (at':atI xs i=O v) (q:Q v H)
def rIxA(K:b9):R2:=λx y H Q=>RIx K x y H Q
def cI:IxR X (rIxA X.K):=by
 intro value slice m s c H x y v u Q I f e q g;obtain⟨p,d,i,z,l,j,a,h,q⟩:=q;rcases a with a | a
 ·rwa[WP value slice m s c H x y v u Q I f e ⟨p,d,i,z,l,j,a,h,q⟩ g]
 ·rwa[Sr value slice m s c H x y v u Q I f e ⟨p,d,i,z,l,j,a,h,q⟩ g]
def iSeq(K:b9)(f:TE):TI:=λe H R=>f e H λx c=>∃ a,x=.ref a/\(((∃ d,SqL K c a d)/\R (Itl K a) c)\/((∃ d,SqT K c a d)/\R (Itt K a) c))
def xD{j:TE}(C:PE X l j):PI X w l (iSeq X.K j):=by
 intro n s r H R I h;refine thn (C n s r H _ I h) λv c ⟨x,i,d,z,A⟩=>?_;obtain⟨a,e,q⟩:=A;subst e;cases z;have own:∀ b,b∈[c.heap.objs.size]->bO X n i b:=λb m=>by
  rw[e8] at m;subst m;rwa[d.fpOk (f6 _) (d.hok.fresh (f6 _))]
 rcases q with ⟨⟨u,g⟩,q⟩ | ⟨⟨u,g⟩,q⟩
 ·obtain⟨f,y,p,B⟩:=d.list g;rwa[Cj p.isList ⟨c.heap.objs.size,[c.heap.objs.size],_,_,i,rfl,d.kept (t':=c.toks) λb o e=>c8 _ e,iI a _,⟨_,f9 _ rfl,rfl,rfl⟩,own,q⟩]
 ·obtain⟨f,y,p,B⟩:=d.tuple g;exact F9 (show c.heap.IsTuple a f.toArray from p) ⟨c.heap.objs.size,[c.heap.objs.size],_,_,i,rfl,d.kept (t':=c.toks) λb o e=>c8 _ e,df a _,⟨_,f9 _ rfl,rfl,rfl⟩,own,q⟩
end

section
variable{K:b9}{a D:c5}{xs:List V}{g:TG}{tt:TT}{te:TE}{σ0:St}{H1:Hp}{Q:VK}
def je(h:Nat->St->List V->Hp->Prop)(h0:h 0 σ0 [] (upd H1 D (.lst [])))(u:∀ i d c H,i<=xs.length->h i d c H->SqL K H a xs/\H D=O (.lst c))
  (s:∀ i x d c H,xs[i]?=O x->h i d c H->g x d H λf v=>tt f v λb n =>
   if b=IT then te f n λy l=>l D=O (.lst c)/\c.length<sizeLine/\h (i+1) f (c++[y]) (upd l D (.lst (c++[y]))) else h (i+1) f c n)
  (hd:∀ d c H,h xs.length d c H->Q (.ref D) H):ui (Itl K a) D g tt te σ0 H1 Q:=by
 exists λi m d c H=>m=xs.length-i/\i<=xs.length/\h i d c H,⟨xs.length,by simp,Aa _,h0⟩;rintro i m d c H ⟨rfl,hi,p⟩;obtain⟨q,r⟩:=u i d c H hi p;exists r;by_cases j:i<xs.length
 ·erw[.inr ⟨⟨xs,xs[i],q,by simp[j]⟩,h (i+1),λo A w z=>⟨xs.length-(i+1),by lia,rfl,j,z⟩,λx w y=>?_⟩];obtain⟨e,y⟩:=y;subst e;rwa[s i x d c _ (y xs q) p]
 ·have e:i=xs.length:=by lia
  subst e;rwa[.inl ⟨⟨xs,q,f6 _⟩,hd d c H p⟩]
def Ye(h:Nat->St->List V->Hp->Prop)(h0:h 0 σ0 [] (upd H1 D (.lst [])))(u:∀ i d c H,i<=xs.length->h i d c H->SqT K H a xs/\H D=O (.lst c))
  (s:∀ i x d c H,xs[i]?=O x->h i d c H->g x d H λf v=>tt f v λb n =>
   if b=IT then te f n λy l=>l D=O (.lst c)/\c.length<sizeLine/\h (i+1) f (c++[y]) (upd l D (.lst (c++[y]))) else h (i+1) f c n)
  (hd:∀ d c H,h xs.length d c H->Q (.ref D) H):ui (Itt K a) D g tt te σ0 H1 Q:=by
 exists λi m d c H=>m=xs.length-i/\i<=xs.length/\h i d c H,⟨xs.length,by simp,Aa _,h0⟩;rintro i m d c H ⟨rfl,hi,p⟩;obtain⟨q,r⟩:=u i d c H hi p;exists r;by_cases j:i<xs.length
 ·erw[.inr ⟨⟨xs,xs[i],q,by simp[j]⟩,h (i+1),λo A w z=>⟨xs.length-(i+1),by lia,rfl,j,z⟩,λx w y=>?_⟩];obtain⟨e,y⟩:=y;subst e;rwa[s i x d c _ (y xs q) p]
 ·have e:i=xs.length:=by lia
  subst e;rwa[.inl ⟨⟨xs,q,f6 _⟩,hd d c H p⟩]
def dY{lo:Int}{n:Nat}(h:Nat->St->List V->Hp->Prop)(h0:h 0 σ0 [] (upd H1 D (.lst [])))(u:∀ i d c H,i<=n->h i d c H->H D=O (.lst c))
  (s:∀ i d c H,i<n->h i d c H->g (.int (lo+i)) d H λf v=>tt f v λb o =>
   if b=IT then te f o λy l=>l D=O (.lst c)/\c.length<sizeLine/\h (i+1) f (c++[y]) (upd l D (.lst (c++[y]))) else h (i+1) f c o)
  (hd:∀ d c H,h n d c H->Q (.ref D) H):ui (Itr lo n) D g tt te σ0 H1 Q:=by
 exists λi m d c H=>m=n-i/\i<=n/\h i d c H,⟨n,by simp,Aa _,h0⟩;rintro i m d c H ⟨rfl,hi,p⟩;have r:=u i d c H hi p;exists r;by_cases j:i<n
 ·erw[.inr ⟨j,h (i+1),λq A w z=>⟨n-(i+1),by lia,rfl,j,z⟩,λx w y=>?_⟩];obtain⟨e,y⟩:=y;subst e y;rwa[s i d c _ j p]
 ·have e:i=n:=by lia
  subst e;rwa[.inl ⟨f6 _,hd d c H p⟩]
end
section
variable{K:b9}{a D:c5}{xs:List V}{g:TG}{te:TE}{σ0:St}{H1:Hp}{Q:VK}
def yL(f:Nat->St->List V->Hp->Prop)(h0:f 0 σ0 [] (upd H1 D (.lst [])))(m:∀ i d c H,i<=xs.length->f i d c H->SqL K H a xs/\H D=O (.lst c))
  (l:∀ i x d c H,xs[i]?=O x->f i d c H->g x d H λh n=>te h n λy j=>j D=O (.lst c)/\c.length<sizeLine/\f (i+1) h (c++[y]) (upd j D (.lst (c++[y]))))
  (hd:∀ d c H,f xs.length d c H->Q (.ref D) H):ui (Itl K a) D g Wb te σ0 H1 Q:=je f h0 m (λi x d c H e p=>l i x d c H e p) hd
def nv(f:Nat->St->List V->Hp->Prop)(h0:f 0 σ0 [] (upd H1 D (.lst [])))(m:∀ i d c H,i<=xs.length->f i d c H->SqT K H a xs/\H D=O (.lst c))
  (l:∀ i x d c H,xs[i]?=O x->f i d c H->g x d H λh n=>te h n λy j=>j D=O (.lst c)/\c.length<sizeLine/\f (i+1) h (c++[y]) (upd j D (.lst (c++[y]))))
  (hd:∀ d c H,f xs.length d c H->Q (.ref D) H):ui (Itt K a) D g Wb te σ0 H1 Q:=Ye f h0 m (λi x d c H e p=>l i x d c H e p) hd
def wn{lo:Int}{n:Nat}(f:Nat->St->List V->Hp->Prop)(h0:f 0 σ0 [] (upd H1 D (.lst [])))(m:∀ i d c H,i<=n->f i d c H->H D=O (.lst c))
  (l:∀ i d c H,i<n->f i d c H->g (.int (lo+i)) d H λh o=>te h o λy j=>j D=O (.lst c)/\c.length<sizeLine/\f (i+1) h (c++[y]) (upd j D (.lst (c++[y]))))
  (hd:∀ d c H,f n d c H->Q (.ref D) H):ui (Itr lo n) D g Wb te σ0 H1 Q:=dY f h0 m (λi d c H e p=>l i d c H e p) hd
end
end L2

namespace L2
def aN:∀ bs:List Bool,(AK bs.length).all (λi=>(bs[i]?).getD IT)=bs.all id:=by
 intro bs;rw[Di,AG,AG];constructor
 ·intro h b c;obtain⟨i,hi,e⟩:=BN c;have q:=h i (Cv.mpr hi);rw[c9 hi,e] at q;rwa[q]
 ·intro h i hi;have a:=Cv.mp hi;rw[c9 a];rwa[h _ (AX a)]
def Yv{bs:List Bool}(r:yS (bs.map V.bl) a){i:Nat}(h:a[i]?=O v):v=.bool ((bs[i]?).getD IT):=by
 have e:=r.length;rw[ac] at e;have hi:i<a.length:=(c7.mp h).1;have c:i<bs.length:=by lia
 obtain⟨u,d,ru⟩:=r.get (i:=i) (x:=.bl bs[i]) (by rw[d7,c9 c]; rfl);rw[d] at h;cases h;rw[c9 c];rwa[ru]
section
variable{X:Cx}
def rL(n:X.calm=IT):uN X (.builtin "all") (λf H Q=>E2 λ(p:c5) (bs:List Bool)=>A3 (f=[.ref p]) (SqL X.K H p (bs.map V.bl)) (Q (.bl (bs.all id)) H)):=by
 intro J s B H f C Q I r h;obtain⟨p,bs,rfl,m,q⟩:=h;obtain⟨u,rfl,ru⟩:=yS.one r;cases ru;obtain⟨a,g,d,D⟩:=I.list m;have c:p<s.heap.objs.size:=by
  obtain⟨_,e,_⟩:=d.isList;rwa[g6 e]
 erw[call_all_walk (Cj d.isList ?_)];refine⟨s.heap.objs.size,_,_,_,_,_,λi=>(bs[i]?).getD IT,U,Hl (A:=X.A.in1) (show X.A.in1.handled=IS from I.ok.hd n) _ p (j9 c) a.toArray,⟨⟨_,f9 _ rfl,U,U⟩,Heap.IsList.push d.isList _⟩,λi v s Q E y x=>?_,λG l k=>?_⟩
 ·have e:=Yv g (by simpa using y);subst e;rwa[Ba x]
 ·have e:(AK a.toArray.size).all (λi=>(bs[i]?).getD IT)=bs.all id:=by
   have j:=g.length;rw[ac] at j;rw[i5,<- j];rwa[aN bs]
  rw[e];exact⟨.bl (bs.all id),H,I.kept (t':=l) λb o z=>k b o (λw=>by rw[e8] at w; rwa[BE _ (w ▸ g6 z)]) (c8 _ z),rfl,q⟩
end
end L2

namespace L2

def SI(b:Bool)(h:v8)(i l:c5)(k:Nat):Prop:=match b with | true=>h.IsListIter i l k | false=>h.IsTupleIter i l k
def SS(b:Bool)(h:v8)(l:c5)(a:Array c6):Prop:=match b with | true=>h.IsList l a | false=>h.IsTuple l a
def iJ(b:Bool):String:=match b with | true => "list_iterator" | false => "tuple_iterator"
def SI.obj{k:Nat}(x:SI b h i l k):∃ o,h.get? i=O o/\o.cls=.type (iJ b)/\o.data=.fields #[.ref l,.int k 0]:=by
 cases b <;> rwa[x]
def SI.of{h:v8}{k:Nat}(x:∃ o,h.get? i=O o/\o.cls=.type (iJ b)/\o.data=.fields #[.ref l,.int k 0]):SI b h i l k:=by
 cases b <;> rwa[x]
def SI.at{h a:v8}{k:Nat}(x:SI b h i l k)(e:∀ o,h.get? i=O o->a.get? i=O o):SI b a i l k:=by
 obtain⟨o,c,r⟩:=x.obj;rwa[SI.of ⟨o,e o c,r⟩]
def SS.at{h c:v8}(x:SS b h l a)(e:∀ o,h.get? l=O o->c.get? l=O o):SS b c l a:=by
 cases b <;>(obtain⟨o,d,r⟩:=x; rwa[o,e o d,r])
def SS.obj(x:SS b h l a):∃ o,h.get? l=O o/\o.cls=.type (match b with | true => "list" | false => "tuple"):=by
 cases b <;>(obtain⟨o,c,d,_⟩:=x; rwa[o,c,d])
section
variable{prog:j7}{w:m9}{A:Aq}{E:c6->d8->Prop}{s:d8}
def YI{k:Nat}{Q:c6->d8->Prop}(f:s.heap.IsTupleIter i l k)(n:s.heap.IsTuple l c)(j:c[k]?=O y)
  (m:∀ h,h.IsTupleIter i l (k+1)->Bq i s.heap h->Q y { s with heap:=h }):wpAny (model prog w) A (Ai (.ref i)) Q E s:=by
 obtain⟨ob,d,o,a⟩:=id f;obtain⟨p,e,_,q,g⟩:=n;unfold Ai;erw[b7 (At (name:=Br "__next__") f.typeIs B3 (Ar B3 f.typeIs D4 ?_ (DO _)))];show wpAny _ _ (field (.ref i) 0 >>= _) _ _ s;erw[b7 (AC d a (x:=.ref l) rfl ?_)];show wpAny _ _ (if (j8 l == Ao)=IT then _ else _) _ _ s; rw[y6 (show ¬ ((j8 l == Ao)=IT) from i9)];show wpAny _ _ (field (.ref i) 1 >>= _) _ _ s;erw[b7 (AC d a (x:=.int k 0) rfl ?_)];show wpAny _ _ (seqItems? (.ref l) >>= _) _ _ s; erw[b7 (B4 e g ?_)];simp only[i4,j];erw[b7 (B5 d a (by simp) (d9 ⟨y,rfl,d9 (m _ ?_ (BO ..))⟩))];rwa[_,Bz _ d (CL (BC a _)),(Ex ..).trans o,by rw[BC a]; simp[rawInt]]
def Wn{k:Nat}{Q:c6->d8->Prop}(p:A.handled=IS)(g:s.heap.IsTupleIter i l k)(r:s.heap.IsTuple l c)(q:c[k]?=IS)
  (u:∀ n e,FJ i s.heap n->(∃ o,n.get? e=O o/\o.cls=.type "StopIteration")->E (.ref e) { s with heap:=n }):wpAny (model prog w) A (Ai (.ref i)) Q E s:=by
 obtain⟨ob,f,v,j⟩:=id g;obtain⟨y,d,_,z,h⟩:=r;unfold Ai;erw[b7 (At (name:=Br "__next__") g.typeIs B3 (Ar B3 g.typeIs D4 ?_ (DO _)))];show wpAny _ _ (field (.ref i) 0 >>= _) _ _ s;erw[b7 (AC f j (x:=.ref l) rfl ?_)];show wpAny _ _ (if (j8 l == Ao)=IT then _ else _) _ _ s; rw[y6 (show ¬ ((j8 l == Ao)=IT) from i9)];show wpAny _ _ (field (.ref i) 1 >>= _) _ _ s;erw[b7 (AC f j (x:=.int k 0) rfl ?_)];show wpAny _ _ (seqItems? (.ref l) >>= _) _ _ s; erw[b7 (B4 d h ?_)];simp only[i4,q];erw[b7 (Eb (b7 (B5 f j (by simp) ?_)))];show wpAny _ _ (newExc (.type "StopIteration") [] >>= _) _ _ _; erw[b7 ?_]; simp only[newExc,newTuple];erw[b7 (Ac ?_ (by size_fits))]; refine b7 (m:=firstArgMember _ _) (FK (a:=Ao) (by first | rfl | (simp only[firstArgMember]; rfl)) ?_);erw[Ac ?_ (by size_fits)]; simp only[raiseNew]; erw[b7 (FY ?_)]
 first | rw[show A.in1.handled=IS from p] | rw[p]
 erw[b7 (d9 (G1 ?_))]; rwa[u _ _ (((BO ..).extBut.push _).push _) ⟨_,f9 _ rfl,rfl⟩]
def gh{k:Nat}{Q:c6->d8->Prop}(g:SI b s.heap i l k)(f:SS b s.heap l a)(d:a[k]?=O y)
  (e:∀ c,SI b c i l (k+1)->Bq i s.heap c->Q y { s with heap:=c }):wpAny (model prog w) A (Ai (.ref i)) Q E s:=by
 cases b
 ·rwa[YI g f d e]
 ·rwa[wpAny_nextOf_list_item g f d e]
def XG{k:Nat}{Q:c6->d8->Prop}(j:A.handled=IS)(g:SI b s.heap i l k)(f:SS b s.heap l a)(d:a[k]?=IS)
  (h:∀ c e,FJ i s.heap c->(∃ o,c.get? e=O o/\o.cls=.type "StopIteration")->E (.ref e) { s with heap:=c }):wpAny (model prog w) A (Ai (.ref i)) Q E s:=by
 cases b
 ·rwa[Wn j g f d h]
 ·rwa[wpAny_nextOf_list_end j g f d h]
def Xb{Q:c6->d8->Prop}(c:SS b s.heap l a)(h:Q (.ref s.heap.objs.size) { s with heap:=s.heap.push { cls:=.type (iJ b),data:=.fields #[.ref l,.int 0 0] } }) :
  wpAny (model prog w) A (pyIter (.ref l)) Q E s:=by
 cases b
 ·rwa[F9 c h]
 ·rwa[Cj c h]

def ar{z TI TO g f u r:c5}{k:Nat}{Q:c6->d8->Prop}(D:ZipApart z TI TO g f u r)
  (B:EV s.heap z TI TO .none) (hI:CU s.heap TI (.ref g) (.ref f)) (hO:CU s.heap TO a b) (h1:SI M s.heap g u k) (h2:SI L s.heap f r k) (g1:SS M s.heap u xs) (g2:SS L s.heap r Z)
  (hx:xs[k]?=O x) (hy:Z[k]?=O y)
  (hQ:∀ i,EV i z TI TO (rawInt s.heap.objs.size)->CU i TO x y->SI M i g u (k+1)->SI L i f r (k+1)->CU i s.heap.objs.size x y ->
   (∀ c o,c≠z->c≠TO->c≠g->c≠f->s.heap.get? c=O o->i.get? c=O o)->Q (.ref s.heap.objs.size) { s with heap:=i }) :
  wpAny (model prog w) A (Ch.«zip.__next__» ⟨[.ref z],[]⟩) (λS s'=>∃ v,S=.done (.ret v)/\Q v s') E s:=by
 show wpAny _ _ (field (.ref z) 2 >>= _) _ _ _; erw[b7 (AC B rfl (x:=.bool IU) rfl ?_)];show wpAny _ _ (field (.ref z) 3 >>= _) _ _ _; erw[b7 (AC B rfl (x:=.ref TI) rfl ?_)];erw[b7 (B4 hI rfl ?_)];show wpAny _ _ (Bf (.ref z) >>= _) _ _ _; erw[b7 ?_]; unfold Bf;erw[b7 (AC B rfl (x:=.none) rfl (d9 ?_))]; simp only[if_true];erw[b7 (Eb ?_)]; erw[b7 (AC B rfl (x:=.ref TO) rfl ?_)];erw[b7 (Bi B (by simp) λk1 P h=>?_)]; replace P:EV k1 z TI TO .ellipsis:=P;erw[b7 ?_]; simp only[DC,G5,Fp,Hm];erw[b7 (b7 (EQ ?_))]; show wpAny _ _ (Ai (.ref g) >>= _) _ _ _
 erw[b7 (gh (h1.at λo e=>h.extBut _ o D.i1z e) (g1.at λo e=>h.extBut _ o D.l1z e) hx λk2 q2 m=>d9 ?_)];have o2:CU k2 TO a b:=m.extBut _ _ D.TOi1 (h.extBut _ _ D.TOz hO);erw[b7 (B4 o2 rfl ?_)];erw[b7 (DI o2 λk3 R l=>?_)]; replace R:CU k3 TO x b:=R;erw[b7 (G2 (d9 ?_))]; erw[b7 (b7 (EQ ?_))]; show wpAny _ _ (Ai (.ref f) >>= _) _ _ _
 erw[b7 (gh (h2.at λo e=>l.extBut _ o D.TOi2.symm (m.extBut _ o D.i12.symm (h.extBut _ o D.i2z e))) (g2.at λo e=>l.extBut _ o D.l2TO (m.extBut _ o D.l2i1 (h.extBut _ o D.l2z e))) hy λk4 q4 q=>d9 ?_)];have o4:CU k4 TO x b:=q.extBut _ _ D.TOi2 R;erw[b7 (B4 o4 rfl ?_)];erw[b7 (DI o4 λd I p=>?_)]; replace I:CU d TO x y:=I;erw[b7 (G2 (d9 (d9 ?_)))];erw[b7 (B4 I rfl ?_)]; erw[b7 (wpAny_newTuple ?_)];have C:d.objs.size=s.heap.objs.size:=by rw[p.1,q.1,l.1,m.1,h.1]
 have Y:EV d z TI TO .ellipsis:=p.extBut _ _ D.TOz.symm (q.extBut _ _ D.i2z.symm (l.extBut _ _ D.TOz.symm (m.extBut _ _ D.i1z.symm P)));have kp:∀ c o,c≠z->c≠TO->c≠g->c≠f->s.heap.get? c=O o->d.get? c=O o:=λc o j c2 X T e=>p.extBut _ _ c2 (q.extBut _ _ T (l.extBut _ _ c2 (m.extBut _ _ X (h.extBut _ _ j e))));have a5:SI M d g u (k+1):=q2.at λo e=>p.extBut _ o D.TOi1.symm (q.extBut _ o D.i12 (l.extBut _ o D.TOi1.symm e));have b5:SI L d f r (k+1):=q4.at λo e=>p.extBut _ o D.TOi2.symm e;have n:z<d.objs.size:=g6 Y;show wpAny _ _ (Dc (.ref z) (.ref d.objs.size) >>= _) _ _ _; erw[b7 ?_]; unfold Dc;have z6:EV (d.push { cls:=.type "tuple",data:=.seq #[x,y] }) z TI TO .ellipsis:=c8 _ Y;erw[b7 (Bi z6 (by simp) λk7 N s7=>?_)]; replace N:EV k7 z TI TO (rawInt d.objs.size):=N;erw[Bi N (by simp) λJ G s8=>?_]; replace G:EV J z TI TO (rawInt d.objs.size):=G;have H:∀ c o,c≠z->d.get? c=O o->J.get? c=O o:=λc o j e=>s8.extBut _ _ j (s7.extBut _ _ j (c8 _ e));have t8:CU J d.objs.size x y:=s8.extBut _ _ (Cz n) (s7.extBut _ _ (Cz n) (f9 _ rfl));rw[C] at G t8;erw[d9 ⟨_,rfl,?_⟩]; show Q (.ref d.objs.size) _
 rw[C];rwa[hQ J G (H _ _ D.TOz I) (a5.at λo e=>H _ o D.i1z e) (b5.at λo e=>H _ o D.i2z e) t8 λc o j c2 X T e=>H c o j (kp c o j c2 X T e)]
def ZQ{z TI TO n m G C:c5}{k:Nat}{Q:Fin->d8->Prop}(Y:A.handled=IS)(D:ZipApart z TI TO n m G C)
  (p:EV s.heap z TI TO .none) (hI:CU s.heap TI (.ref n) (.ref m)) (hO:CU s.heap TO a b) (h1:SI b1 s.heap n G k) (h2:SI b2 s.heap m C k) (g1:SS b1 s.heap G y) (g2:SS b2 s.heap C v)
  (q:y[k]?=IS\/v[k]?=IS)
  (Z:∀ L e,(∀ c o,c≠z->c≠TO->c≠n->c≠m->s.heap.get? c=O o->L.get? c=O o)->(∃ o,L.get? e=O o/\o.cls=.type "StopIteration")->E (.ref e) { s with heap:=L }) :
  wpAny (model prog w) A (Ch.«zip.__next__» ⟨[.ref z],[]⟩) Q E s:=by
 show wpAny _ _ (field (.ref z) 2 >>= _) _ _ _; erw[b7 (AC p rfl (x:=.bool IU) rfl ?_)];show wpAny _ _ (field (.ref z) 3 >>= _) _ _ _; erw[b7 (AC p rfl (x:=.ref TI) rfl ?_)];erw[b7 (B4 hI rfl ?_)];show wpAny _ _ (Bf (.ref z) >>= _) _ _ _; erw[b7 ?_]; unfold Bf;erw[b7 (AC p rfl (x:=.none) rfl (d9 ?_))]; simp only[if_true];erw[b7 (Eb ?_)]; erw[b7 (AC p rfl (x:=.ref TO) rfl ?_)];erw[b7 (Bi p (by simp) λk1 u g=>?_)]; replace u:EV k1 z TI TO .ellipsis:=u;erw[b7 ?_]; simp only[DC,G5,Fp,Hm];erw[b7 (b7 (EQ ?_))]; show wpAny _ _ (Ai (.ref n) >>= _) _ _ _
 cases I:y[k]? with
 | none =>
  erw[b7 (XG Y (h1.at λo e=>g.extBut _ o D.i1z e) (g1.at λo e=>g.extBut _ o D.l1z e) I λH e i J=>?_)];obtain⟨B,d,f⟩:=J;have P:EV H z TI TO .ellipsis:=i _ _ D.i1z.symm u;have l:e≠z:=λx=>by subst x; rw[P] at d; cases d; simp at f
  erw[Bi P (by simp) λX _ j=>Z X e (λc o r _ M _ x=>j.extBut _ _ r (i _ _ M (g.extBut _ _ r x))) ⟨B,j.extBut _ _ l d,f⟩]
 | some x =>
  have hy:v[k]?=none:=by
   rcases q with h | h
   ·rw[I] at h; cases h
   ·rwa[h]
  erw[b7 (gh (h1.at λo e=>g.extBut _ o D.i1z e) (g1.at λo e=>g.extBut _ o D.l1z e) I λH q2 i=>d9 ?_)];have T:CU H TO a b:=i.extBut _ _ D.TOi1 (g.extBut _ _ D.TOz hO);erw[b7 (B4 T rfl ?_)]; erw[b7 (DI T λX o3 j=>?_)];erw[b7 (G2 (d9 ?_))]; erw[b7 (b7 (EQ ?_))]; show wpAny _ _ (Ai (.ref m) >>= _) _ _ _
  erw[b7 (XG Y (h2.at λo e=>j.extBut _ o D.TOi2.symm (i.extBut _ o D.i12.symm (g.extBut _ o D.i2z e))) (g2.at λo e=>j.extBut _ o D.l2TO (i.extBut _ o D.l2i1 (g.extBut _ o D.l2z e))) hy λk4 e S J=>?_)];obtain⟨B,d,f⟩:=J;have N:EV k4 z TI TO .ellipsis:=S _ _ D.i2z.symm (j.extBut _ _ D.TOz.symm (i.extBut _ _ D.i1z.symm u));have l:e≠z:=λx=>by subst x; rw[N] at d; cases d; simp at f
  erw[Bi N (by simp) λk5 _ R=>Z k5 e (λc o r c2 M c4 x=>R.extBut _ _ r (S _ _ c4 (j.extBut _ _ c2 (i.extBut _ _ M (g.extBut _ _ r x))))) ⟨B,R.extBut _ _ l d,f⟩]
def Vu(e d:Bool)(c a:c5)(h:v8):v8 :=
 ((((h.push { cls:=.type (iJ e),data:=.fields #[.ref c,.int 0 0] }).push { cls:=.type (iJ d),data:=.fields #[.ref a,.int 0 0] }).push { cls:=.type "tuple",data:=.seq #[.ref h.objs.size,.ref (h.objs.size+1)] }).push { cls:=.type "tuple",data:=.seq #[.none,.none] }).push { cls:=.type "zip",data:=.fields #[.none,.bool IU,.bool IU,.ref (h.objs.size+2),.ref (h.objs.size+3)] }
def ZW(f n:Bool)(a c:c5)(q p:Array c6) :
  Meets (Ch.«zip.__new__» ⟨[.type "zip",.ref a,.ref c],[]⟩) (λ_ R s=>SS f s.heap a q/\SS n s.heap c p /\
   R (.ok (.ret (.ref (s.heap.objs.size+4)))) { s with heap:=Vu f n a c s.heap }) :=
 .of_wp λprog w A R s h=>by
  obtain⟨v,g,d,r,os⟩:=s;obtain⟨j,i,h⟩:=h;have u:=sub_zip;have m:SS f (IE ⟨v,g,d,r,os⟩) a q:=j;have l:SS n (IE ⟨v.push { cls:=.type (iJ f),data:=.fields #[.ref a,.int 0 0] },g,d,r,os⟩) c p:=SS.at i λo e=>c8 _ e
  wp_walk using Xb m,Xb l
  exists _,rfl;simp only[Vu,AR] at h ⊢;rwa[h]
def aa{Q:c6->d8->Prop}(r:SS i s.heap f B)(p:SS g s.heap e z)
  (h:∀ d,EV d (s.heap.objs.size+4) (s.heap.objs.size+2) (s.heap.objs.size+3) .none->CU d (s.heap.objs.size+2) (.ref s.heap.objs.size) (.ref (s.heap.objs.size+1))->CU d (s.heap.objs.size+3) .none .none ->
   SI i d s.heap.objs.size f 0->SI g d (s.heap.objs.size+1) e 0->(∀ c o,s.heap.get? c=O o->d.get? c=O o)->Q (.ref (s.heap.objs.size+4)) { s with heap:=d }) :
  wpAny (model prog w) A (call (.type "zip") [.ref f,.ref e]) Q E s:=by
 erw[callType_new F.called_zip (by decide) (F.typeCall_zip_2 _ _) (F.newCall_zip_2 _ _) (λobj=>F.args_object_init_3 obj _ _) F.entry_zip_new (ZW i g f e B z) ⟨r,p,?_⟩];unfold Vu;generalize y:s.heap.push { cls:=.type (iJ i),data:=.fields #[.ref f,.int 0 0] }=n;have n1:n.objs.size=s.heap.objs.size+1:=by rw[<- y,AR]
 generalize x:n.push { cls:=.type (iJ g),data:=.fields #[.ref e,.int 0 0] }=j;have n2:j.objs.size=s.heap.objs.size+2:=by rw[<- x,AR,n1]
 generalize v:j.push { cls:=.type "tuple",data:=.seq #[.ref s.heap.objs.size,.ref (s.heap.objs.size+1)] }=m;have n3:m.objs.size=s.heap.objs.size+3:=by rw[<- v,AR,n2]
 generalize u:m.push { cls:=.type "tuple",data:=.seq #[.none,.none] }=l;have n4:l.objs.size=s.heap.objs.size+4:=by rw[<- u,AR,n3]
 generalize J:l.push { cls:=.type "zip",data:=.fields #[.none,.bool IU,.bool IU,.ref (s.heap.objs.size+2),.ref (s.heap.objs.size+3)] }=a;have C:∀ c o,l.get? c=O o->a.get? c=O o:=λc o q=>J ▸ c8 _ q;have D:∀ c o,m.get? c=O o->a.get? c=O o:=λc o q=>C c o (u ▸ c8 _ q);have G:∀ c o,j.get? c=O o->a.get? c=O o:=λc o q=>D c o (v ▸ c8 _ q);have H:∀ c o,n.get? c=O o->a.get? c=O o:=λc o q=>G c o (x ▸ c8 _ q);have L:∀ c o,s.heap.get? c=O o->a.get? c=O o:=λc o q=>H c o (y ▸ c8 _ q);have I:EV a (s.heap.objs.size+4) (s.heap.objs.size+2) (s.heap.objs.size+3) .none:=by
  rw[<- n4,<- J];rwa[f9 _ rfl]
 have M:CU a (s.heap.objs.size+3) .none .none:=by
  rw[<- n3];rwa[C _ _ (by rw[<- u]; exact f9 _ rfl)]
 have N:CU a (s.heap.objs.size+2) (.ref s.heap.objs.size) (.ref (s.heap.objs.size+1)):=by
  have q:=D j.objs.size _ (by rw[<- v]; rwa[f9 _ rfl]);rw[n2] at q;rwa[q]
 have P:SI g a (s.heap.objs.size+1) e 0:=by
  rw[<- n1];rwa[SI.of ⟨_,G _ _ (by rw[<- x]; exact f9 _ rfl),rfl,rfl⟩]
 have R:SI i a s.heap.objs.size f 0:=SI.of ⟨_,H _ _ (by rw[<- y]; rwa[f9 _ rfl]),rfl,rfl⟩;rwa[⟨_,I,rfl⟩,h a I N M R P L]
end
end L2

namespace L2
def SqB(b:Bool)(K:b9)(H:Hp)(l:c5)(a:List V):Prop:=match b with | true=>SqL K H l a | false=>SqT K H l a
def Inv.sqB{d:St}{H:Hp}(I:Inv X e d H s)(h:SqB b X.K H l c):∃ a:List c6,yS c a/\SS b s.heap l a.toArray/\c.length<=sizeLine:=by
 cases b with
 | true =>
  obtain⟨a,r,p,z⟩:=I.list h;rwa[a,r,p.isList,z]
 | false =>
  obtain⟨a,r,p,z⟩:=I.tuple h;rwa[a,r,p,z]
def Inv.sqB_inj{d:St}{H:Hp}(I:Inv X e d H s)(h:SqB b X.K H l c)(h':SqB b X.K H l a):c=a:=by
 cases b with
 | true=>rwa[I.list_inj h h']
 | false=>rwa[I.tuple_inj h h']
def Itz(K:b9)(g f:Bool)(e d:c5):It :=
 ⟨λk H=>∃ c a x y,SqB g K H e c/\SqB f K H d a/\c[k]?=O x/\a[k]?=O y,
   λk H v h=>∃ T x y,v=.ref T/\H T=IS/\h=upd H T (.tup [x,y])/\(∀ c,SqB g K H e c->c[k]?=O x)/\(∀ a,SqB f K H d a->a[k]?=O y),
   λk H=>∃ c a,SqB g K H e c/\SqB f K H d a/\(c.length<=k\/a.length<=k)⟩
def YZ{P:j7}{w:m9}{K:b9}{elts:List An}{kt:Nat}{pt:Dm}{b1 b2:Bool}{z TI TO j i l1 l2:c5}(D:ZipApart z TI TO j i l1 l2) :
  WS P w K (.Tuple elts kt pt) (Itz K b1 b2 l1 l2) [z,TI,TO,j,i] z (λk h=>EV h z TI TO .none/\CU h TI (.ref j) (.ref i)/\(∃ a b,CU h TO a b)/\SI b1 h j l1 k/\SI b2 h i l2 k) where
 mem:=by simp
 obj:=λk h st b g=>by
  obtain⟨A,B,⟨a',b',L⟩,h1,h2⟩:=st;obtain⟨o1,g1,_,d1⟩:=h1.obj;obtain⟨o2,g2,_,d2⟩:=h2.obj;simp only[j4,t7,or_false] at g;rcases g with rfl | rfl | rfl | rfl | rfl
  ·rwa[_,A,λv e=>by cases e]
  ·rwa[_,B,λv e=>by cases e]
  ·rwa[_,L,λv e=>by cases e]
  ·exact⟨_,g1,λv e=>by rw[d1] at e; cases e⟩
  ·exact⟨_,g2,λv e=>by rw[d2] at e; cases e⟩
 keep:=λk h h' st kp=>by
  obtain⟨A,B,⟨a',b',L⟩,h1,h2⟩:=st;rwa[kp z (by simp) _ A,kp TI (by simp) _ B,⟨a',b',kp TO (by simp) _ L⟩,h1.at λo e=>kp j (by simp) o e,h2.at λo e=>kp i (by simp) o e]
 item:=by
  intro X hP hw hK d k IV s σ H E I J st hg;subst hP hw hK;obtain⟨A,B,⟨a',b',L⟩,h1,h2⟩:=st;obtain⟨xs,ys,x,y,q1,q2,hx,hy⟩:=hg;obtain⟨G,r1,p1,_⟩:=I.sqB q1;obtain⟨C,r2,p2,_⟩:=I.sqB q2;obtain⟨u1,e1,v1⟩:=r1.get hx;obtain⟨u2,e2,v2⟩:=r2.get hy;have Z:s.TypeIs (.ref z) "zip" :=⟨_,A,rfl⟩;have fresh:H s.heap.objs.size=none:=I.hok.fresh (f6 _);unfold pyNext;refine b7 (Df (At (name:=Br "__next__") Z DP (Ar DP Z GL (ar D A B L h1 h2 p1 p2 (by simpa using e1) (by simpa using e2) λh' z1 o1 j1 j2 t1 kp=>d9 ?_) (Gn _))));refine⟨_,rfl,wpAny_letOwnedTupleGo_zip z1 λh2' z2 S=>?_⟩;have f:∀ c o,c ∉ [z,TO,j,i]->s.heap.get? c=O o->h2'.get? c=O o:=λc o d e=>by
   simp only[j4,t7,or_false,not_or] at d;rwa[S.extBut c o d.1 (kp c o d.1 d.2.1 d.2.2.1 d.2.2.2 e)]
  have N:∀ c∈[z,TO,j,i],c∈[z,TI,TO,j,i]:=λc d=>by
   simp only[j4,t7,or_false] at d ⊢;rcases d with e | e | e | e <;> simp[e]
  have neT:∀ b o,s.heap.get? b=O o->b≠s.heap.objs.size:=λb o e=>j9 (g6 e);have p:∀ b o,H b=O o->b ∉ [z,TO,j,i]:=λb o e g=>by
   rw[(J b (N b g)).1] at e;cases e
  have l:∀ b o,H b=O o->upd H s.heap.objs.size (.tup [x,y]) b=O o:=λb o e=>by
   rw[zF (zH e fresh)];rwa[e]
  erw[.ref s.heap.objs.size,upd H s.heap.objs.size (.tup [x,y]),?_,rfl,⟨_,x,y,rfl,fresh,rfl,λM Q=>by rw[I.sqB_inj Q q1]; exact hx,λM Q=>by rw[I.sqB_inj Q q2]; rwa[hy]⟩,?_,λb g=>?_]
  ·refine Inv.step (s:=s) (h':=h2') (g':=s.gens) (d':=s.drawn) (t':=s.toks) (ch:=[z,TO,j,i]) I (λb g=>?_) (λb o _ _ d e _=>f b o d e) (λb o _ _ d e _=>⟨o.slots,f b o d e⟩) (λb o _ e n=>?_) (λb o d e=>⟨o,f b o d e⟩)
    (λb M e=>l b _ e) (λb o M e=>l b _ e) (λb ps e=>⟨#[],by rw[l b _ e]; simp⟩) (λm hm=>?_) (λb o e=>?_) I.bare
   ·obtain⟨_,f1,_,f3,f4,f5⟩:=J b (N b g);rwa[f3,f1,f4,f5]
   ·rw[zF (neT b o e)];rwa[n]
   ·obtain⟨o,es,ep,ho,r⟩:=hm;erw[o,es,ep,f _ o (λg=>?_) ho,r];exact(J _ (N _ g)).2.1 rfl
   ·by_cases g:b=s.heap.objs.size
    ·subst g;rw[zA] at e;cases e;exact⟨by show 2<=sizeLine; decide,[u1,u2],.cons v1 (.cons v2 .nil),_,S.extBut _ _ (Cz (g6 A)) t1,rfl,_,rfl⟩
    ·rw[zF g] at e;refine(I.hok b o e).stay (λc u d q=>f c u ?_ q) (λc q=>l c _ q) λc M q=>l c _ q;rcases d with d | d
     ·rw[d]; rwa[p b o e]
     ·rwa[p c _ d]
  ·rwa[z2,S.extBut _ _ D.TIz (kp _ _ D.TIz D.TITO D.TIi1 D.TIi2 B),⟨_,_,S.extBut _ _ D.TOz o1⟩,j1.at λo e=>S.extBut _ o D.i1z e,j2.at λo e=>S.extBut _ o D.i2z e]
  ·obtain⟨o,e,_⟩:∃ o,s.heap.get? b=O o/\True:=by
    obtain⟨o1,g1,_⟩:=h1.obj;obtain⟨o2,g2,_⟩:=h2.obj;simp only[j4,t7,or_false] at g;rcases g with rfl | rfl | rfl | rfl | rfl
    ·rwa[_,A,trivial]
    ·rwa[_,B,trivial]
    ·rwa[_,L,trivial]
    ·rwa[_,g1,trivial]
    ·rwa[_,g2,trivial]
   rw[zF (neT b o e)];exact(J b g).1
 done:=by
  intro X hP hw hK d k IV s σ H E I J st hg;subst hP hw hK;obtain⟨A,B,⟨a',b',L⟩,h1,h2⟩:=st;obtain⟨xs,ys,q1,q2,Y⟩:=hg;obtain⟨G,r1,p1,_⟩:=I.sqB q1;obtain⟨C,r2,p2,_⟩:=I.sqB q2;have Z:s.TypeIs (.ref z) "zip" :=⟨_,A,rfl⟩;have R:G.toArray[k]?=IS\/C.toArray[k]?=none:=by
   have l1':=r1.length;have l2':=r2.length;rcases Y with h | h
   ·rwa[.inl (AY (by rw[i5]; lia))]
   ·rwa[.inr (AY (by rw[i5]; lia))]
  have N:∀ c∈[z,TO,j,i],c∈[z,TI,TO,j,i]:=λc d=>by
   simp only[j4,t7,or_false] at d ⊢;rcases d with e | e | e | e <;> simp[e]
  have p:∀ b o,H b=O o->b ∉ [z,TO,j,i]:=λb o e g=>by
   rw[(J b (N b g)).1] at e;cases e
  unfold pyNext;refine b7 (Df (At (name:=Br "__next__") Z DP (Ar DP Z GL (ZQ (I.ok.hd d) D A B L h1 h2 p1 p2 R λh' e kp he=>?_) (Gn _))));obtain⟨oe,hoe,hce⟩:=he;refine b7 (DD (T := "StopIteration") (b:=IT) ⟨oe,hoe,hce⟩ isSubtype_stop (d9 ⟨rfl,?_⟩));have f:∀ c o,c ∉ [z,TO,j,i]->s.heap.get? c=O o->h'.get? c=O o:=λc o d e=>by
   simp only[j4,t7,or_false,not_or] at d;rwa[kp c o d.1 d.2.1 d.2.2.1 d.2.2.2 e]
  refine I.step (g':=s.gens) (d':=s.drawn) (t':=s.toks) (ch:=[z,TO,j,i]) (λb g=>?_) (λb o _ _ d e _=>f b o d e) (λb o _ _ d e _=>⟨o.slots,f b o d e⟩) (λb o _ e n=>n) (λb o d e=>⟨o,f b o d e⟩)
   (λb M e=>e) (λb o M e=>e) (λb ps e=>⟨#[],by rw[e]; simp⟩) (λm hm=>?_) (λb o e=>?_) I.bare
  ·obtain⟨_,f1,_,f3,f4,f5⟩:=J b (N b g);rwa[f3,f1,f4,f5]
  ·obtain⟨o,es,ep,ho,r⟩:=hm;erw[o,es,ep,f _ o (λg=>?_) ho,r];exact(J _ (N _ g)).2.1 rfl
  ·refine(I.hok b o e).stay (λc u d q=>f c u ?_ q) (λc q=>q) λc M q=>q;rcases d with d | d
   ·rw[d]; rwa[p b o e]
   ·rwa[p c _ d]
 self:=λ_ _ _ _ _ st h=>GM st.1 h
section
variable{X:Cx}
def iZip(K:b9)(l:TA):TI:=λg H R=>l g H λj d=>E6 λ(f e:Bool) (c a:c5) (i h:List V)=>A4 (j=[.ref c,.ref a]) (SqB f K d c i) (SqB e K d a h) (R (Itz K f e c a) d)
def TF{B:Nat}{a b:An}(J:Gl X "zip")(G:X.mg "zip" = IS)(L:PA X [a,b] j)(E:starEach [a,b] X.env=[(IU,eval a X.env),(IU,eval b X.env)]:=by rfl)(c:starEach [b] X.env=[(IU,eval b X.env)]:=by rfl) :
  PI X (.Tuple f B pt) (.Call (.Name "zip" p) [a,b] [] pos) (iZip X.K j):=by
 intro Y s u H R I h;refine Call_ (mP I J G UM (BQ (thn (L pos Y s u H _ I h) λus i ⟨vs,Z,g,x,y⟩=>?_) (by rw[E,c]) (by rw[c]; rfl)));obtain⟨b1,b2,A,z,xs,ys,e,Q,P,q⟩:=y;subst e;obtain⟨u1,u2,rfl,w,v⟩:=yS.two x;cases w;cases v;obtain⟨m,_,p1,_⟩:=g.sqB Q;obtain⟨l,_,p2,_⟩:=g.sqB P;have T:A<i.heap.objs.size:=by
  obtain⟨o,e,_⟩:=p1.obj;rwa[g6 e]
 have S:z<i.heap.objs.size:=by
  obtain⟨o,e,_⟩:=p2.obj;rwa[g6 e]
 refine aa p1 p2 λh' n N M D C kp=>?_;refine GM n ?_;refine⟨_,_,_,_,Z,U,g.kept (t':=i.toks) kp,YZ (zipApart_new T S),⟨n,N,⟨_,_,M⟩,D,C⟩,λb r=>?_,q⟩;have d:i.heap.objs.size<=b:=by
  simp only[j4,t7,or_false] at r;rcases r with rfl | rfl | rfl | rfl | rfl <;> lia
 rwa[g.fpOk d (g.hok.fresh d)]
end
section
variable{K:b9}{b1 b2:Bool}{l1 l2 D:c5}{xs ys:List V}{g:TG}{tt:TT}{te:TE}{σ0:St}{H1:Hp}{Q:VK}
def YH(f:Nat->St->List V->Hp->Prop)(h0:f 0 σ0 [] (upd H1 D (.lst [])))(B:∀ i c a H,f i c a H->SqB b1 K H l1 xs/\SqB b2 K H l2 ys/\H D=O (.lst a))
  (A:∀ i x y T c a H,xs[i]?=O x->ys[i]?=O y->H T=IS->f i c a H->g (.ref T) c (upd H T (.tup [x,y])) λd G=>tt d G λb o =>
   if b=IT then te d o λz n=>n D=O (.lst a)/\a.length<sizeLine/\f (i+1) d (a++[z]) (upd n D (.lst (a++[z]))) else f (i+1) d a o)
  (hd:∀ c a H,f (min xs.length ys.length) c a H->Q (.ref D) H):ui (Itz K b1 b2 l1 l2) D g tt te σ0 H1 Q:=by
 exists λi m c a H=>m=min xs.length ys.length-i/\i<=min xs.length ys.length/\f i c a H,⟨_,U,Aa _,h0⟩;rintro i m c a H ⟨rfl,hi,p⟩;obtain⟨j,h,w⟩:=B i c a H p;exists w;by_cases l:i<min xs.length ys.length
 ·have E:i<xs.length:=by lia
  have c2:i<ys.length:=by lia
  erw[.inr ⟨⟨xs,ys,xs[i],ys[i],j,h,by simp[E],by simp[c2]⟩,f (i+1),λq r I z=>⟨min xs.length ys.length-(i+1),by lia,rfl,l,z⟩,λv I y=>?_⟩];obtain⟨T,x,y,rfl,C,rfl,u,s⟩:=y;rwa[A i x y T c a H (u xs j) (s ys h) C p]
 ·have e:i=min xs.length ys.length:=by lia
  subst e;rwa[.inl ⟨⟨xs,ys,j,h,by lia⟩,hd c a H p⟩]
def bE(d:Nat->St->List V->Hp->Prop)(h0:d 0 σ0 [] (upd H1 D (.lst [])))(j:∀ i c a H,d i c a H->SqB b1 K H l1 xs/\SqB b2 K H l2 ys/\H D=O (.lst a))
  (h:∀ i x y T c a H,xs[i]?=O x->ys[i]?=O y->H T=IS->d i c a H->g (.ref T) c (upd H T (.tup [x,y])) λe o=>te e o λz f=>f D=O (.lst a)/\a.length<sizeLine/\d (i+1) e (a++[z]) (upd f D (.lst (a++[z]))))
  (hd:∀ c a H,d (min xs.length ys.length) c a H->Q (.ref D) H):ui (Itz K b1 b2 l1 l2) D g Wb te σ0 H1 Q:=YH d h0 j (λi x y T c a H n m l p=>h i x y T c a H n m l p) hd
end
end L2

namespace L2
def ifD{p A B:Prop}[Decidable p](h1:p->A)(h2:¬ p->B):if decide p=IT then A else B:=by
 by_cases h:p
 ·rw[y7 (y8 h)]; rwa[h1 h]
 ·rw[y6 (by rw[y9 h]; rwa[i9])]; rwa[h2 h]
def ifN{p A B:Prop}[Decidable p](h1:¬ p->A)(h2:p->B):if (!decide p)=IT then A else B:=by
 by_cases h:p
 ·rw[y6 (by rw[y8 h]; rwa[i9])]; rwa[h2 h]
 ·rw[y7 (by rw[y9 h]; rfl)]; rwa[h1 h]
def ifE{x y:Int}{A B:Prop}(h1:x=y->A)(h2:x≠y->B):if decide (V.int x=V.int y)=IT then A else B :=
 ifD (λh=>h1 (V.int.inj h)) λh=>h2 λe=>h (congrArg V.int e)
def ifNe{x y:Int}{A B:Prop}(h1:x≠y->A)(h2:x=y->B):if (!decide (V.int x=V.int y))=IT then A else B :=
 ifN (λh=>h1 λe=>h (congrArg V.int e)) λh=>h2 (V.int.inj h)
def zC{H:Hp}(h:H p=IS)(o:HO):Same H (upd H p o):=λb u q=>by rw[zF (zH q h)]; rwa[q]
def Sq.same{K:b9}{H d:Hp}(h:Sq K H a c)(e:Same H d):Sq K d a c:=by
 rcases h with h | h
 ·rwa[.inl (e.seq h)]
 ·erw[.inr ?_];rcases h with h | h
  ·rcases h with h | ⟨o,h⟩
   ·rwa[.inl (.inl (e _ _ h))]
   ·rwa[.inl (.inr ⟨o,e _ _ h⟩)]
  ·rwa[.inr h]
def uC{ns:List Int}{i:Nat}(h:(ns.map V.int)[i]?=O x):∃ n,ns[i]?=O n/\x=.int n:=by
 rw[d7] at h;cases e:ns[i]? with
 | none=>rw[e] at h; cases h
 | some n=>rw[e] at h; rwa[n,rfl,(o8 h).symm]
def xN{a:Type}{l:List a}{i:Nat}{x:a}(h:l[i]?=O x):l.take (i+1)=l.take i++[x]:=by
 rw[o6,h]; rfl
def zb{n:Nat}(h:n<=1000):n<=sizeLine:=AV (zK h)
def SqT.same{K:b9}{H d:Hp}(h:SqT K H a c)(e:Same H d):SqT K d a c:=by
 rcases h with h | h
 ·rcases h with h | ⟨o,h⟩
  ·rwa[.inl (.inl (e _ _ h))]
  ·rwa[.inl (.inr ⟨o,e _ _ h⟩)]
 ·rwa[.inr h]
def gL(K:b9):Dr K (.type "int") (.type "int")=O true:=rfl
def jU(K:b9):Dr K (.type "int") (.type "bool")=O false:=rfl
def YT(t:TT):Prop:=∀(a:St)(H:Hp)(Q c:Bool->Hp->Prop),(∀ b d,Q b d->c b d)->t a H Q->t a H c
def jc(t:TE):Prop:=∀(a:St)(H:Hp)(Q c:VK),(∀ b d,Q b d->c b d)->t a H Q->t a H c
def Yq(t:TA):Prop:=∀(a:St)(H:Hp)(Q c:List V->Hp->Prop),(∀ b d,Q b d->c b d)->t a H Q->t a H c
def Uf(r:R2):Prop:=∀(x y:V)(H:Hp)(Q a:VK),(∀ b c,Q b c->a b c)->r x y H Q->r x y H a
def Sx(r:List V->Hp->VK->Prop):Prop:=∀(a:List V)(H:Hp)(Q c:VK),(∀ b d,Q b d->c b d)->r a H Q->r a H c
def jZ{i:Nat} : jc (Uv i):=λ_ _ _ _ a ⟨v,e,z⟩=>⟨v,e,a _ _ z⟩
def mo_c : jc (tC v):=λ_ _ _ _ a z=>a _ _ z
def VN{d c:TE}(e:Uf r)(h:jc d)(g:jc c):jc (tOp r d c):=λa _ _ _ f z=>h a _ _ _ (λ_ _ z=>g a _ _ _ (λ_ _ z=>e _ _ _ _ _ f z) z) z
def WF{g:Int->Int->V} : Uf (rI0 g):=λ_ _ _ _ _ a ⟨i,j,d,c,z⟩=>⟨i,j,d,c,a _ _ z⟩
def hJ{t:TE}(h:jc t):YT (aJ t):=λa _ _ _ c z=>h a _ _ _ (λ_ _ ⟨k,e,z⟩=>⟨k,e,c _ _ z⟩) z
def UZ(h:YT t)(d:YT u):YT (tAnd t u):=λa _ _ _ c z=>h a _ _ _ (λb _ z=>by
 cases b with
 | true=>rwa[d a _ _ _ c z]
 | false=>rwa[c _ _ z]) z
def XH:Yq Tq:=λ_ _ _ _ a z=>a _ _ z
def cT{c:TE}(h:jc c)(f:Yq d):Yq (VC c d):=λa _ _ _ e z=>h a _ _ _ (λ_ _ z=>f a _ _ _ (λ_ _ z=>e _ _ z) z) z
def Sz{r:List V->Hp->VK->Prop}(c:Sx r)(h:Yq t):jc (tCB r t):=λa _ _ _ d z=>h a _ _ _ (λ_ _ z=>c _ _ _ _ d z) z
def Xe{K:b9} : Sx (λc H Q=>E2 λp a=>A3 (c=[.ref p]) (SqL K H p a\/SqT K H p a) (Q (.int a.length) H)):=λ_ _ _ _ d ⟨p,a,e,s,z⟩=>⟨p,a,e,s,d _ _ z⟩
def yx(ns:List Int)(lo hi:Option Int):vi (ns.map V.int) lo hi=((ns.drop (HT.sIx ns.length 0 lo)).take (HT.sIx ns.length ns.length hi-HT.sIx ns.length 0 lo)).map V.int:=by
 unfold vi;rw[ac,Dg,CJ]
end L2

namespace L2
def TC{c a:List Int}(l:yS (c.map V.int) e)(g:yS (a.map V.int) d):∀ j (h1:j<e.toArray.size) (h2:j<d.toArray.size),
  Hh A s e.toArray[j] d.toArray[j] (decide (c[j]?=a[j]?)):=λj h1 h2=>by
 have q:=l.length;have p:=g.length;rw[ac] at q p;have B:j<e.length:=by simpa using h1
 have y:j<d.length:=by simpa using h2
 have n:j<c.length:=by lia
 have m:j<a.length:=by lia
 obtain⟨u,v,t,ru⟩:=l.get (i:=j) (x:=.int c[j]) (by rw[d7,c9 n]; rfl);obtain⟨w,r,o,f⟩:=g.get (i:=j) (x:=.int a[j]) (by rw[d7,c9 m]; rfl);have E:e.toArray[j]=.int c[j] t:=by
  have z:=c9 B;rw[v] at z;rw[FL,<- o8 z,ru]
 have D:d.toArray[j]=.int a[j] o:=by
  have z:=c9 y;rw[r] at z;rw[FL,<- o8 z,f]
 rw[E,D];have C:decide (c[j]?=a[j]?)=(c[j] == a[j]):=by
  rw[c9 n,c9 m];by_cases h:c[j]=a[j]
  ·rw[h]; simp
  ·rw[y9 (λz=>h (o8 z))];exact(x5.mpr h).symm
 rw[C];rwa[F8 _ _ _ _]
def VH{a c:List Int} : ((AK (min a.length c.length)).all (λj=>decide (a[j]?=c[j]?))&&a.length == c.length)=decide (a=c):=by
 by_cases h:a=c
 ·subst h;rw[y8 rfl,AJ];rwa[AG.mpr λj _=>y8 rfl,by simp]
 ·rw[y9 h,Bool.and_eq_false_iff];by_cases d:a.length=c.length
  ·left;rw[Ey];intro z;apply h;rw[AG] at z;erw[CN λj=>?_];by_cases e:j<a.length
   ·rwa[of_decide_eq_true (z j (Cv.mpr (by lia)))]
   ·rw[AM (by lia),AM (by lia)]
  ·right;rwa[x5.mpr d]
section
variable{X:Cx}
def rEqT(K:b9)(neg:Bool):R2:=λx y H Q=>E4 λ(a b:c5) (d c:List Int)=>A5 (x=.ref a) (y=.ref b) (SqT K H a (d.map V.int)) (SqT K H b (c.map V.int)) (Q (.bl (if neg then !decide (d=c) else decide (d=c))) H)
def Zn(r:X.A.units<cLine):OpR X (compareOp .Eq) (rEqT X.K IU):=by
 intro z s w H x y v u Q I p o h;obtain⟨a,b,d,c,rfl,rfl,h1,h2,q⟩:=h;cases p;cases o;obtain⟨n,g,p1,_⟩:=I.tuple h1;obtain⟨m,f,p2,_⟩:=I.tuple h2;refine SeqAt.eq_tupleAt (e:=λj=>decide (d[j]?=c[j]?)) (show s.heap.IsTuple a n.toArray from p1) (show s.heap.IsTuple b m.toArray from p2) r (TC g f) ?_;have l:=g.length;have i:=f.length;rw[ac] at l i;rw[i5,i5,<- l,<- i,VH];rwa[.bl (decide (d=c)),H,I,rfl,q]
end
def wO{rows:List Int}{P:Int->Prop}(bd:∀ x∈rows,P x){k:Int}(d:0<=k)(c:k<rows.length):∃ v:Int,atI (rows.map V.int) k=O (.int v)/\P v:=by
 have a:k.toNat<rows.length:=by lia
 erw[rows[k.toNat],?_,bd _ (AX a)];have q:atI (rows.map V.int) ((k.toNat:Nat):Int)=O (.int rows[k.toNat]):=tP (by rw[d7,c9 a] <;> rfl);rw[show((k.toNat:Nat):Int)=k from by lia] at q;rwa[q]
end L2

namespace L2
end L2

namespace L2
def iO:bootBuiltins "enumerate" = O (.type "enumerate"):=by ac_nf
def Ite(K:b9)(l:c5):It :=
 ⟨λk H=>∃ a x,SqL K H l a/\a[k]?=O x,
   λk H v c=>∃ T x,v=.ref T/\H T=IS/\c=upd H T (.tup [.int k,x])/\∀ a,SqL K H l a->a[k]?=O x,
   λk H=>∃ a,SqL K H l a/\a.length<=k⟩
def bN{P:j7}{w:m9}{K:b9}{D:List An}{kt:Nat}{pt:Dm}{e p l:c5}(B:e≠p) :
  WS P w K (.Tuple D kt pt) (Ite K l) [e,p] e (λk h=>(∃ f,IsEnum h e p k f)/\h.IsListIter p l k) where
 mem:=by simp
 obj:=λk h st b d=>by
  obtain⟨⟨f,j⟩,h1⟩:=st;obtain⟨o1,g1,_,d1⟩:=h1;simp only[j4,t7,or_false] at d;rcases d with rfl | rfl
  ·rwa[_,j,λv z=>by cases z]
  ·exact⟨_,g1,λv z=>by rw[d1] at z; cases z⟩
 keep:=λk h Z st kp=>by
  obtain⟨⟨f,j⟩,h1⟩:=st;rwa[⟨f,kp e (by simp) _ j⟩,h1.at λo z=>kp p (by simp) o z]
 item:=by
  intro X T R Y a k IV s σ H E I y st S;subst T R Y;obtain⟨⟨f,j⟩,h1⟩:=st;obtain⟨xs,x,G,hx⟩:=S;obtain⟨N,M,p1,_⟩:=I.list G;obtain⟨u1,e1,v1⟩:=M.get hx;have fresh:H s.heap.objs.size=none:=I.hok.fresh (f6 _);refine wpAny_pyNext_enum_item j h1 p1.isList (by simpa using e1) B λZ z1 j1 t1 _ kp=>?_;refine⟨_,rfl,wpAny_letOwnedTupleGo_enum z1 λC z2 L=>?_⟩;have i:∀ c o,c ∉ [e,p]->s.heap.get? c=O o->C.get? c=O o:=λc o a q=>by
   simp only[j4,t7,or_false,not_or] at a;rwa[L.extBut c o a.1 (kp c o a.1 a.2 q)]
  have neT:∀ b o,s.heap.get? b=O o->b≠s.heap.objs.size:=λb o q=>j9 (g6 q);have A:∀ b o,H b=O o->b ∉ [e,p]:=λb o q d=>by
   rw[(y b d).1] at q;cases q
  have g:∀ b o,H b=O o->upd H s.heap.objs.size (.tup [.int k,x]) b=O o:=λb o q=>by
   rw[zF (zH q fresh)];rwa[q]
  erw[.ref s.heap.objs.size,upd H s.heap.objs.size (.tup [.int k,x]),?_,rfl,⟨_,x,rfl,fresh,rfl,λJ Q=>by rw[I.list_inj Q G]; rwa[hx]⟩,?_,λb d=>?_]
  ·refine Inv.step (s:=s) (h':=C) (g':=s.gens) (d':=s.drawn) (t':=s.toks+1) (ch:=[e,p]) I (λb d=>?_) (λb o _ _ a q _=>i b o a q) (λb o _ _ a q _=>⟨o.slots,i b o a q⟩) (λb o _ q n=>?_) (λb o a q=>⟨o,i b o a q⟩)
    (λb J q=>g b _ q) (λb o J q=>g b _ q) (λb ps q=>⟨#[],by rw[g b _ q]; simp⟩) (λm hm=>?_) (λb o q=>?_) I.bare
   ·obtain⟨_,f1,_,f3,f4,f5⟩:=y b d;rwa[f3,f1,f4,f5]
   ·rw[zF (neT b o q)];rwa[n]
   ·obtain⟨o,es,ep,ho,r⟩:=hm;erw[o,es,ep,i _ o (λd=>?_) ho,r];exact(y _ d).2.1 rfl
   ·by_cases d:b=s.heap.objs.size
    ·subst d;rw[zA] at q;cases q;exact⟨by show 2<=sizeLine; decide,[_,u1],.cons ⟨_,rfl⟩ (.cons v1 .nil),_,L.extBut _ _ (Cz (g6 j)) t1,rfl,_,rfl⟩
    ·rw[zF d] at q;refine(I.hok b o q).stay (λc u a z=>i c u ?_ z) (λc z=>g c _ z) λc J z=>g c _ z;rcases a with a | a
     ·rw[a]; rwa[A b o q]
     ·rwa[A c _ a]
  ·rwa[⟨_,z2⟩,j1.at λo z=>L.extBut _ o (AW B) z]
  ·obtain⟨o,q,_⟩:∃ o,s.heap.get? b=O o/\True:=by
    obtain⟨o1,g1,_⟩:=h1;simp only[j4,t7,or_false] at d;rcases d with rfl | rfl
    ·rwa[_,j,trivial]
    ·rwa[_,g1,trivial]
   rw[zF (neT b o q)];exact(y b d).1
 done:=by
  intro X T R Y a k IV s σ H E I y st S;subst T R Y;obtain⟨⟨f,j⟩,h1⟩:=st;obtain⟨xs,G,hend⟩:=S;obtain⟨N,M,p1,_⟩:=I.list G;have l1':=M.length;erw[wpAny_pyNext_enum_end (I.ok.hd a) j h1 p1.isList (AY (by rw[i5]; lia)) λZ eb=>⟨rfl,?_⟩];obtain⟨f0,f1,f2,f3,f4,f5⟩:=y p (by simp);rwa[I.turned (t':=s.toks) (λb o d q=>eb b o d q) f0 f1 f3 f4 f5]
 self:=λ_ _ _ _ _ st h=>by
  obtain⟨⟨f,j⟩,_⟩:=st;rwa[Go j h]
section
variable{X:Cx}
def iEnum(K:b9)(f:TA):TI:=λc H R=>f c H λe a=>E2 λ(l:c5) (d:List V)=>A3 (e=[.ref l]) (a l=O (.lst d)) (R (Ite K l) a)
def gA{w:Nat}{a:An}(B:Gl X "enumerate")(z:X.mg "enumerate" = IS)(C:PA X [a] g)(y:starEach [a] X.env=[(IU,eval a X.env)]:=by rfl) :
  PI X (.Tuple d w pt) (.Call (.Name "enumerate" p) [a] [] pos) (iEnum X.K g):=by
 intro E s o H R I h;refine Call_ (mP I B z iO (BQ (thn (C pos E s o H _ I h) λM i ⟨L,G,f,u,v⟩=>?_) y rfl));obtain⟨l,J,e,A,q⟩:=v;subst e;obtain⟨N,rfl,r⟩:=yS.one u;cases r;obtain⟨_,x,n,_,_,D⟩:=f.lstM A;refine call_enumerate_1 D λP j hi _ kp=>?_;refine Go j ?_;refine⟨_,_,_,_,G,U,f.kept (t':=i.toks) kp,bN (GK _),⟨⟨_,j⟩,hi⟩,λb m=>?_,q⟩;have c:i.heap.objs.size<=b:=by
  simp only[j4,t7,or_false] at m;rcases m with rfl | rfl <;> lia
 rwa[f.fpOk c (f.hok.fresh c)]
end
section
variable{K:b9}{l D:c5}{xs:List V}{g:TG}{tt:TT}{te:TE}{σ0:St}{H1:Hp}{Q:VK}
def bK(f:Nat->St->List V->Hp->Prop)(h0:f 0 σ0 [] (upd H1 D (.lst [])))(A:∀ i c a H,f i c a H->SqL K H l xs/\H D=O (.lst a))
  (w:∀ i x T c a H,xs[i]?=O x->H T=IS->f i c a H->g (.ref T) c (upd H T (.tup [.int i,x])) λd C=>tt d C λb o =>
   if b=IT then te d o λz n=>n D=O (.lst a)/\a.length<sizeLine/\f (i+1) d (a++[z]) (upd n D (.lst (a++[z]))) else f (i+1) d a o)
  (hd:∀ c a H,f xs.length c a H->Q (.ref D) H):ui (Ite K l) D g tt te σ0 H1 Q:=by
 exists λi m c a H=>m=xs.length-i/\i<=xs.length/\f i c a H,⟨_,U,Aa _,h0⟩;rintro i m c a H ⟨rfl,hi,p⟩;obtain⟨j,u⟩:=A i c a H p;exists u;by_cases h:i<xs.length
 ·erw[.inr ⟨⟨xs,xs[i],j,by simp[h]⟩,f (i+1),λq r E z=>⟨xs.length-(i+1),by lia,rfl,h,z⟩,λv E y=>?_⟩];obtain⟨T,x,rfl,B,rfl,s⟩:=y;rwa[w i x T c a H (s xs j) B p]
 ·have e:i=xs.length:=by lia
  subst e;rwa[.inl ⟨⟨xs,j,f6 _⟩,hd c a H p⟩]
def eQ{q:TS}{E:cK}{a:St}{H:Hp}(c:Nat->St->Hp->Prop)(h0:c 0 a H)(w:∀ i a H,c i a H->SqL K H l xs)
  (u:∀ i x T a H,xs[i]?=O x->H T=IS->c i a H->g (.ref T) a (upd H T (.tup [.int i,x])) λd o=>q { E with nx:=c (i+1),ct:=c (i+1),bk:=E.nx } d o) (hd:∀ a H,c xs.length a H->E.nx a H) :
  ∃ W:Nat->Nat->St->Hp->Prop,(∃ m,W 0 m a H)/\∀ i m a H,W i m a H ->
   ((Ite K l).stop i H/\E.nx a H)\/((Ite K l).go i H/\∃ N:St->Hp->Prop,(∀ f h,N f h->∃ r,r<m/\W (i+1) r f h)/\∀ x h,(Ite K l).yld i H x h->g x a h λd o=>q { E with nx:=N,ct:=N,bk:=E.nx } d o):=by
 exists λi m a H=>m=xs.length-i/\i<=xs.length/\c i a H,⟨_,U,Aa _,h0⟩;rintro i m a H ⟨rfl,hi,p⟩;have n:=w i a H p;by_cases j:i<xs.length
 ·erw[.inr ⟨⟨xs,xs[i],n,by simp[j]⟩,c (i+1),λf h z=>⟨xs.length-(i+1),by lia,rfl,j,z⟩,λv h y=>?_⟩];obtain⟨T,x,rfl,A,rfl,s⟩:=y;rwa[u i x T a H (s xs n) A p]
 ·have e:i=xs.length:=by lia
  subst e;rwa[.inl ⟨⟨xs,n,f6 _⟩,hd a H p⟩]
end
end L2

namespace L2
def Same.putNew{H a:Hp}(s:Same H a)(h:H D=IS):Same H (upd a D o):=λb u q=>by
 rw[zF (zH q h)];rwa[s _ _ q]
abbrev Pr:=c5×Int×Int
abbrev sS(a:List Pr):List V:=(a.map (·.1)).map V.ref
def PrOk(H:Hp)(M:Nat)(a:List Pr):Prop:=∀ t∈a,H t.1=O (.tup [.int t.2.1,.int t.2.2])/\t.2.1.natAbs<=M/\t.2.2.natAbs<=M
def vh(a:List Pr):(sS a).length=a.length:=by simp[sS]
def lT:∀{c a:List Int},c.map V.int=a.map V.int->c=a
 | [],[],_=>rfl
 | [],_::_,h=>nomatch h
 | _::_,[],h=>nomatch h
 | x::c,y::a,h=>by
  rw[g9,g9] at h;injection h with h1 h2
  rw[V.int.inj h1,lT h2]
end L2

namespace L2
def crs(p q r:Int×Int):Int:=(q.1-p.1)*(r.2-p.2)-(q.2-p.2)*(r.1-p.1)
def ptA(a:List (c5×Int×Int))(i:Nat):Int×Int:=((a[i]?).map (·.2)).getD (0,0)
def leftB(a:List (c5×Int×Int))(i k:Nat):Bool:=decide (0<crs (ptA a i) (ptA a ((i+1)%a.length)) (ptA a k))
def Vk(a:List (c5×Int×Int))(i:Nat):Bool:=(AK (a.length-2)).all λj=>leftB a i ((i+(2+j))%a.length)
def isB(a:List (c5×Int×Int)):Bool:=decide (3<=a.length)&&(decide (a.length<=8)&&(AK a.length).all (Vk a))
end L2

namespace L2
open PySem PySem.Spec PyProof.Rows PySem.W
def nU:∀ a:List c5,yS (a.map V.ref) (a.map j8)
 | []=>.nil
 | _::a=>.cons rfl (nU a)
section
variable{X:Cx}
def uH:bootBuiltins "sorted" = O (.builtin "sorted"):=by ac_nf
end
end L2

namespace L2
section
variable{κ:Type}[DecidableEq κ]
def vR(a:List (κ×V))(k:κ):Option V:=(a.find? λc=>decide (c.1=k)).map (·.2)
def sC(a:List (κ×V))(k:κ)(v:V):List (κ×V) :=
 if (a.any λc=>decide (c.1=k))=IT then a.map (λc=>if c.1=k then(c.1,v) else c) else a++[(k,v)]
def qo(a:List (κ×V))(k:κ):List (κ×V):=a.filter λc=>decide (c.1≠k)

def wU{p:κ×V}{r:List (κ×V)}{k:κ}(e:p.1=k):vR (p::r) k=O p.2:=by simp[vR,Au,e]
def wE{p:κ×V}{r:List (κ×V)}{k:κ}(e:¬ p.1=k):vR (p::r) k=vR r k:=by simp[vR,Au,e]
def pP(k:κ):∀ a:List (κ×V),(a.any λc=>decide (c.1=k))=(vR a k).isSome
 | []=>rfl
 | p::r=>by
  rw[Co];by_cases e:p.1=k
  ·simp only[wU e,y8 e,Bool.true_or,Option.isSome_some]
  ·rw[wE e,y9 e,Bool.false_or]; rwa[pP k r]
def fM(k j:κ)(y:V):∀ a:List (κ×V),vR (a.map λc=>if c.1=k then(c.1,y) else c) j=(vR a j).map λx=>if j=k then y else x
 | []=>rfl
 | p::r=>by
  have d:=fM k j y r;rw[g9];by_cases h:p.1=k
  ·rw[y7 h];by_cases e:p.1=j
   ·rw[wU (p:=(p.1,y)) e,wU e,Cg,y7 (e.symm.trans h)]
   ·rw[wE (p:=(p.1,y)) e,wE e,d]
  ·rw[y6 h];by_cases e:p.1=j
   ·rw[wU (p:=p) e,wU e,Cg,y6 (λz=>h (e.trans z))]
   ·rw[wE (p:=p) e,wE e,d]
def iS(k j:κ)(y:V):∀ a:List (κ×V),vR a k=IS->vR (a++[(k,y)]) j=if j=k then O y else vR a j
 | [],_=>by
  by_cases e:k=j
  ·rw[y7 e.symm]; rwa[wU (p:=(k,y)) e]
  ·rw[y6 (λz=>e z.symm)]; rwa[wE (p:=(k,y)) e]
 | p::r,c=>by
  rw[GN];have d:¬ p.1=k:=λz=>by rw[wU z] at c; cases c
  rw[wE d] at c;have f:=iS k j y r c;by_cases e:p.1=j
  ·rw[wU e,wU e,y6 (λz=>d (e.trans z))]
  ·rw[wE e,wE e,f]
def pM(c:List (κ×V))(k j:κ)(y:V):vR (sC c k y) j=if j=k then O y else vR c j:=by
 unfold sC;by_cases a:(c.any λd=>decide (d.1=k))=IT
 ·rw[y7 a,fM];rw[pP] at a;by_cases e:j=k
  ·obtain⟨x,f⟩:=i3.mp a;rw[y7 e,e,f,Cg,y7 rfl]
  ·rw[y6 e];cases vR c j with
   | none=>rfl
   | some x=>rw[Cg,y6 e]
 ·rw[y6 a];erw[iS k j y c ?_];rw[pP] at a;cases q:vR c k with
  | none=>rfl
  | some x=>rw[q] at a; exact(a rfl).elim
def qO(a:List (κ×V))(k:κ)(v:V):(sC a k v).length<=a.length+1:=by
 unfold sC;split
 ·rw[ac]; lia
 ·rw[f7,n9,Bg]; lia
def jm.isSome_eq(r:jm o u):o.isSome=u.isSome:=by
 cases o with
 | none=>cases u with
  | none=>rfl
  | some _=>exact(show False from r).elim
 | some _=>cases u with
  | none=>exact(show False from r).elim
  | some _=>rfl
def KV.val(r:KV a vs)(k:κ):jm (vR a k) (valueAt vs k):=by
 unfold KV at r
 induction r with
 | nil=>rwa[o0]
 | @cons p q g c h t f =>
  obtain⟨h1,h2⟩:=h;by_cases e:p.1=k
  ·have d:q.1=k:=h1.symm.trans e;have b:valueAt (q::c) k=O q.2:=by simp[valueAt,Au,d]
   rw[wU e,b]; rwa[h2]
  ·have d:¬ q.1=k:=λz=>e (h1.trans z);have b:valueAt (q::c) k=valueAt c k:=by simp[valueAt,Au,d]
   rw[wE e,b]; rwa[f]
def KV.any(r:KV a vs)(k:κ):(a.any λc=>decide (c.1=k))=vs.any λc=>decide (c.1=k):=by
 unfold KV at r
 induction r with
 | nil=>rfl
 | cons h t d=>rw[Co,Co,d,h.1]
def KV.repl(r:KV c vs)(k:κ)(d:xI y u) :
  KV (c.map λa=>if a.1=k then(a.1,y) else a) (vs.map λa=>if a.1=k then(a.1,u) else a):=by
 unfold KV at r ⊢
 induction r with
 | nil=>rwa[.nil]
 | @cons p q i g h t f =>
  rw[g9,g9];erw[.cons ?_ f];obtain⟨h1,h2⟩:=h;by_cases e:p.1=k
  ·rw[y7 e,y7 (h1.symm.trans e)]; rwa[h1,d]
  ·rw[y6 e,y6 (λz=>e (h1.trans z))]; rwa[h1,h2]
def KV.put(r:KV a vs)(k:κ)(c:xI y u):KV (sC a k y) (stored vs k u):=by
 unfold sC stored;rw[r.any k];by_cases e:(vs.any λd=>decide (d.1=k))=IT
 ·rw[y7 e,y7 e]; rwa[r.repl k c]
 ·rw[y6 e,y6 e]; rwa[IF r ⟨rfl,c⟩]
def KV.drop(r:KV c vs)(k:κ):KV (qo c k) (without vs k):=by
 unfold KV at r ⊢;unfold qo without
 induction r with
 | nil=>rwa[.nil]
 | @cons p q i g h t d =>
  obtain⟨h1,h2⟩:=h;rw[GO,GO];by_cases e:p.1=k
  ·have a:¬ decide (p.1≠k)=true:=by simp[e]
   have b:¬ decide (q.1≠k)=true:=by simp[h1.symm.trans e]
   rw[y6 a,y6 b]; rwa[d]
  ·have f:¬ q.1=k:=λz=>e (h1.trans z);have a:decide (p.1≠k)=true:=by simp[e]
   have b:decide (q.1≠k)=true:=by simp[f]
   rw[y7 a,y7 b]; rwa[.cons ⟨h1,h2⟩ d]
def KV.length(r:KV a vs):a.length=vs.length:=EK r
def fP(a:List (κ×V))(k:κ):(qo a k).length<=a.length:=Cc _ _
end


def kE(r:xI (kV k) u):(yV P w).is k u=true:=by
 cases k with
 | inl i=>obtain⟨t,e⟩:=(show ∃ t,u=BH i t from r); subst e; rwa[fj P w i t]
 | inr x=>obtain⟨t,e⟩:=(show ∃ t,u=CZ x t from r); subst e; rwa[wy P w x t]
def jH : ∀{a:List Key}{c:List c6},yS (a.map kV) c->ItemsAre (yV P w) a c
 | [],_,r=>by rw[DZ] at r; cases r; rwa[.nil]
 | k::a,_,r=>by
  rw[g9] at r;cases r with
  | cons h t=>rwa[.cons (kE h) (jH t)]

abbrev KT(H:Hp):List (List Key×V)->List (List Key×c5×c6)->Prop:=Gz λp q=>p.1=q.1/\H q.2.1=O (.tup (p.1.map kV))/\xI p.2 q.2.2
def KT.val{H:Hp}(r:KT H a f)(k:List Key):jm (vR a k) ((atKey f k).map (·.2)):=by
 induction r with
 | nil=>rwa[o0]
 | @cons p q i c h t g =>
  obtain⟨h1,_,h2⟩:=h;by_cases e:p.1=k
  ·have d:q.1=k:=h1.symm.trans e;have b:atKey (q::c) k=O q.2:=by simp[atKey,Au,d]
   rw[wU e,b]; rwa[h2]
  ·have d:¬ q.1=k:=λz=>e (h1.trans z);have b:atKey (q::c) k=atKey c k:=by simp[atKey,Au,d]
   rw[wE e,b]; rwa[g]
def KT.repl{H:Hp}(r:KT H a d)(k:List Key)(f:xI y u) :
  KT H (a.map λc=>if c.1=k then(c.1,y) else c) (d.map (putAt k u)):=by
 induction r with
 | nil=>rwa[.nil]
 | @cons p q j i h t g =>
  rw[g9,g9];erw[.cons ?_ g];obtain⟨h1,h2,h3⟩:=h;unfold putAt;by_cases e:p.1=k
  ·rw[y7 e,y7 (h1.symm.trans e)]; rwa[h1,h2,f]
  ·rw[y6 e,y6 (λz=>e (h1.trans z))]; rwa[h1,h2,h3]
def KT.put{H:Hp}(r:KT H a c)(k:List Key)(g:H b=O (.tup (k.map kV)))(d:xI y u) :
  KT H (sC a k y) (storedH c k b u):=by
 have e:(a.any λf=>decide (f.1=k))=(atKey c k).isSome:=by
  rw[pP,(r.val k).isSome_eq,CO]
 unfold sC storedH;rw[e];by_cases q:(atKey c k).isSome=IT
 ·rw[y7 q,y7 q]; rwa[r.repl k d]
 ·rw[y6 q,y6 q]; rwa[IF r ⟨rfl,g,d⟩]
def KT.keeps{H e:Hp}(r:KT H a d)(f:∀ b c,H b=O (.tup c)->e b=O (.tup c)):KT e a d :=
 Paired.mapP r λ_ _ z=>⟨z.1,f _ _ z.2.1,z.2.2⟩

section
variable{P:j7}{w:m9}{H:Hp}{h:v8}{a:c5}
def Ti(ok:HOk P w H h)(e:Rd H a u):wC P w H h a u:=e.ok ok
def kH(ok:HOk P w H h)(e:Rd H a (.dK c)):c.length<=sizeLine/\(a == sysModules)=IU/\∃ d,KV c d/\h.DictOf (yV P w) a d :=
 show wC P w H h a (.dK c) from Ti ok e
def Xk(ok:HOk P w H h)(e:H a=O (.dK c)):c.length<=sizeLine/\(a == sysModules)=IU/\∃ d,KV c d/\h.DictOf (yV P w) a d:=kH ok (.inl e)
def jA{c:List Key}(ok:HOk P w H h)(e:H a=O (.tup (c.map kV))):(tupleKind (yV P w)).is h c a:=by
 obtain⟨_,d,r,o,h1,h2,n,h3⟩:=(show wC P w H h a (.tup (c.map kV)) from ok a _ e);exact⟨o,d.toArray,n,h1,h2,h3,by simpa using jH r⟩
def dR(ok:HOk P w H h)(e:Rd H a (.dT c)):c.length<=sizeLine/\(a == sysModules)=IU /\
  ∃ f,KT H c f/\h.DictOfH (tupleKind (yV P w)) a f:=by
 obtain⟨z,y,f,r,o,j,n,h1,h2,h3,h4,h5⟩:=(show wC P w H h a (.dT c) from Ti ok e);refine⟨z,y,f,r,o,j,n,h1,h2,h3,h4,λx d=>?_,h5⟩;have all:∀{l:List (List Key×V)}{m:List (List Key×c5×c6)},KT H l m->∀ x∈m,(tupleKind (yV P w)).is h x.1 x.2.1:=by
  intro l m q
  induction q with
  | nil=>intro x d; exact nomatch d
  | @cons p q u s g t i =>
   intro x d;rcases j4.mp d with e | d
   ·subst e;rwa[jA ok (by rw[<- g.1]; exact g.2.1)]
   ·rwa[i x d]
 rwa[all r x d]
def UB(ok:HOk P w H h)(e:H a=O (.dT c)):c.length<=sizeLine/\(a == sysModules)=IU /\
  ∃ d,KT H c d/\h.DictOfH (tupleKind (yV P w)) a d:=dR ok (.inl e)
end

def aC(H:Hp)(a:c5)(y:V)(r:Option V):Prop :=
 (∃ c k,Rd H a (.dK c)/\y=kV k/\r=vR c k)\/∃ c k b,Rd H a (.dT c)/\y=.ref b/\H b=O (.tup (k.map kV))/\r=vR c k
def mf(H:Hp)(a:c5)(y v:V)(d:Hp):Prop :=
 (∃ c k,H a=O (.dK c)/\y=kV k/\c.length<sizeLine/\d=upd H a (.dK (sC c k v))) \/
 ∃ c k b,H a=O (.dT c)/\y=.ref b/\H b=O (.tup (k.map kV))/\c.length<sizeLine/\d=upd H a (.dT (sC c k v))
def mf.k{H:Hp}{k:Key}(e:H a=O (.dK c))(d:c.length<sizeLine):mf H a (kV k) v (upd H a (.dK (sC c k v))):=.inl ⟨c,k,e,rfl,d,rfl⟩
def mf.t{H:Hp}{k:List Key}(e:H a=O (.dT c))(f:H b=O (.tup (k.map kV)))(d:c.length<sizeLine) :
  mf H a (.ref b) v (upd H a (.dT (sC c k v))):=.inr ⟨c,k,b,e,rfl,f,d,rfl⟩


section
variable{X:Cx}{IV:List (c5×BD)}{σ:St}{H:Hp}{s:d8}{a:c5}{y v:V}{u r:c6}{o:Option V}{A:Aq}{E:c6->d8->Prop}

def Inv.big(I:Inv X IV σ H s):sysModules<s.heap.objs.size:=by
 have h:mainGlobals<s.heap.objs.size:=(I.mod.glob.keeps I.bk).lt;rwa[Ip (by decide) h]

def bF{Q:c6->d8->Prop}(C:A.units+1<cLine)(I:Inv X IV σ H s)(g:aC H a y (O v))(q:xI y u)(h:∀ d n,Inv X IV σ H n->xI v d->Q d n) :
  wpAny (model X.prog X.w) A (getItem (.ref a) u) Q E s:=by
 rcases g with ⟨f,k,e,ey,l⟩ | ⟨f,k,b,e,ey,G,l⟩
 ·subst ey;obtain⟨z,hd,B,rel,m⟩:=kH I.hok e;obtain⟨d,i,c⟩:=jm.some_of (v:=v) (o:=valueAt B k) (by rw[l]; rwa[rel.val k]);rwa[GP (kE q) m.mapOf i (h d _ (I.tok _) c)]
 ·subst ey;cases (show u=j8 b from q);obtain⟨z,hd,x,rel,m⟩:=dR I.hok e;obtain⟨d,i,c⟩:=jm.some_of (v:=v) (o:=(atKey x k).map (·.2)) (by rw[l]; rwa[rel.val k]);obtain⟨p,D,j⟩:=i8.mp i;erw[wpAny_getItem_heap (tupleKind_room_in1 C) (jA I.hok G) m D ?_];rw[j];rwa[h d _ (I.tok _) c]
def d_in{Q:c6->d8->Prop}(j:A.units+1<cLine)(I:Inv X IV σ H s)(g:aC H a y o)(i:xI y u)(h:∀ f,Inv X IV σ H f->Q (.bool o.isSome) f) :
  wpAny (model X.prog X.w) A (compareOp .In u (.ref a)) Q E s:=by
 rcases g with ⟨c,k,e,ey,l⟩ | ⟨c,k,b,e,ey,m,l⟩
 ·subst ey;obtain⟨z,hd,p,rel,d⟩:=kH I.hok e;erw[wpAny_in_of (kE i) hd d.mapOf ?_];rw[<- (rel.val k).isSome_eq,<- l];rwa[h _ (I.tok _)]
 ·subst ey;cases (show u=j8 b from i);obtain⟨z,hd,n,rel,d⟩:=dR I.hok e;erw[wpAny_in_heap (tupleKind_room_in1 j) (jA I.hok m) hd d ?_];have q:=(rel.val k).isSome_eq;rw[CO] at q;rw[<- q,<- l];rwa[h _ (I.tok _)]
def Vn{Q:c6->d8->Prop}(j:A.units+1<cLine)(I:Inv X IV σ H s)(g:aC H a y o)(i:xI y u)(h:∀ f,Inv X IV σ H f->Q (.bool (!o.isSome)) f) :
  wpAny (model X.prog X.w) A (compareOp .NotIn u (.ref a)) Q E s:=by
 rcases g with ⟨c,k,e,ey,l⟩ | ⟨c,k,b,e,ey,m,l⟩
 ·subst ey;obtain⟨z,hd,p,rel,d⟩:=kH I.hok e;erw[wpAny_notIn_of (kE i) hd d.mapOf ?_];rw[<- (rel.val k).isSome_eq,<- l];rwa[h _ (I.tok _)]
 ·subst ey;cases (show u=j8 b from i);obtain⟨z,hd,n,rel,d⟩:=dR I.hok e;erw[wpAny_notIn_heap (tupleKind_room_in1 j) (jA I.hok m) hd d ?_];have q:=(rel.val k).isSome_eq;rw[CO] at q;rw[<- q,<- l];rwa[h _ (I.tok _)]
def oO{d:Nat}(I:Inv X IV σ H s)(f:Mut (H a))(g:Bq a s.heap c)(h:∃ q,c.get? a=O q)(new:wC X.prog X.w (upd H a ob) c a ob) :
  Inv X IV σ (upd H a ob) { s with heap:=c,toks:=d } :=
 I.write (x:=a) (e:=a) f (.inl rfl) (λb q i z=>(g.2 b i).trans z) h new
def iF{g:Hp}{e:v8}{c:List (Key×V)}(z:c.length<=sizeLine)(hd:(a == sysModules)=IU)(rel:KV c d)(f:e.DictOf (yV P w) a d) :
  wC P w g e a (.dK c):=⟨z,hd,d,rel,f⟩
def aI{M:Hp}{Q:Unit->d8->Prop}(R:A.units+1<cLine)(I:Inv X IV σ H s)(g:mf H a y v M)(C:xI y u)(D:xI v r)(h:∀ B,Inv X IV σ M B->Q () B) :
  wpAny (model X.prog X.w) A (setItem (.ref a) u r) Q E s:=by
 rcases g with ⟨d,k,e,ey,l,p⟩ | ⟨d,k,b,e,ey,L,l,p⟩
 ·subst ey p;obtain⟨z,hd,P,rel,x⟩:=Xk I.hok e;have j:P.length<=sizeLine:=by rw[<- rel.length]; rwa[z]
  have n:(sC d k v).length<=sizeLine:=by have:=qO d k v; lia
  erw[wpAny_setItem_pairs (hsz:=j) (kE C) x λG f m=>h _ ?_];have S:∃ q,G.get? a=O q:=let ⟨q,_,_,i,_⟩:=f;⟨q,i⟩;rwa[oO I (by rw[e]; exact o0) m S (iF n hd (rel.put k D) f)]
 ·subst ey p;cases (show u=j8 b from C);obtain⟨z,hd,N,rel,x⟩:=UB I.hok e;have j:N.length<=sizeLine:=by rw[<- EK rel]; rwa[z]
  have n:(sC d k v).length<=sizeLine:=by have:=qO d k v; lia
  erw[wpAny_setItem_heap (hsz:=j) (tupleKind_room_in1 R) (jA I.hok L) x λG f m=>h _ ?_];obtain⟨q,T,Y,i,h2,h3,h4,_,h5⟩:=f;erw[oO I (by rw[e]; rwa[o0]) m ⟨q,i⟩ ⟨n,hd,_,(rel.put k L D).keeps λc Z J=>?_,q,T,Y,i,h2,h3,h4,h5⟩];rw[zF (aQ J e (λz=>nomatch z))];rwa[J]
end

section
variable{X:Cx}{IV:List (c5×BD)}{σ:St}{H:Hp}{s:d8}{a:c5}{kvs:List (Key×V)}{k:Key}{u:c6}{A:Aq}{E:c6->d8->Prop}
def Uo{Q:Unit->d8->Prop}(I:Inv X IV σ H s)(e:H a=O (.dK kvs))(i:xI (kV k) u)(l:(vR kvs k).isSome=IT)(h:∀ f,Inv X IV σ (upd H a (.dK (qo kvs k))) f->Q () f) :
  wpAny (model X.prog X.w) A (delItem (.ref a) u) Q E s:=by
 obtain⟨z,hd,g,rel,d⟩:=Xk I.hok e;refine wpAny_delItem_slot d.typeIs (by decide) En
  (call_meetsIn En d.typeIs PySem.F.entry_dict_delitem (PySem.F.args_dict_delitem_2 _ _) (meets_dict_delitem_pairs (yV X.prog X.w) a (kE i)) ⟨g,d,by rw[<- rel.length]; exact z,by rw[<- (rel.val k).isSome_eq]; exact l,λn c j=>h _ ?_⟩)
 have m:∃ q,n.get? a=O q:=let ⟨q,_,_,hq,_⟩:=c;⟨q,hq⟩;rwa[oO I (by rw[e]; exact o0) j m (iF (f8 (fP kvs k) z) hd (rel.drop k) c)]
def d_pop{more:List c6}{Q:c6->d8->Prop}(I:Inv X IV σ H s)(e:H a=O (.dK kvs))(f:xI (kV k) u)(l:vR kvs k=O v)(n:more=[]\/∃ x,more=[x])
  (h:∀ c m,Inv X IV σ (upd H a (.dK (qo kvs k))) m->xI v c->Q c m):wpAny (model X.prog X.w) A (call (.builtin "dict.pop") (.ref a::u::more)) Q E s:=by
 obtain⟨z,hd,j,rel,p⟩:=Xk I.hok e;obtain⟨c,r,g⟩:=jm.some_of (v:=v) (o:=valueAt j k) (by rw[<- l]; exact rel.val k);have B:(keyPart u).isSome=true:=by
  cases k with
  | inl i=>obtain⟨t,q⟩:=(show ∃ t,u=BH i t from f); subst q; rfl
  | inr x=>obtain⟨t,q⟩:=(show ∃ t,u=CZ x t from f); subst q; rfl
 have D:argsOk "dict.pop" ⟨.ref a::u::more,[]⟩:=by
  rcases n with q | ⟨x,q⟩
  ·subst q; rwa[PySem.F.args_dict_pop_2 _ _]
  ·subst q; rwa[PySem.F.args_dict_pop_3 _ _ _]
 refine call_meetsIn Fw p.typeIs PySem.F.entry_dict_pop D (meets_dict_pop_there (yV X.prog X.w) a (kE f) more n B)
  ⟨j,c,p,by rw[<- rel.length]; exact z,r,λG d y=>h c _ ?_ g⟩
 have C:∃ q,G.get? a=O q:=let ⟨q,_,_,hq,_⟩:=d;⟨q,hq⟩;rwa[oO I (by rw[e]; exact o0) y C (iF (f8 (fP kvs k) z) hd (rel.drop k) d)]
def d_len{Q:c6->d8->Prop}(I:Inv X IV σ H s)(e:Rd H a (.dK kvs))(h:∀ t c,Inv X IV σ H c->Q (.int kvs.length t) c):wpAny (model X.prog X.w) A (call (.builtin "len") [.ref a]) Q E s:=by
 obtain⟨z,hd,f,rel,d⟩:=kH I.hok e;refine call_len_dict hd d (by rw[<- rel.length]; rw[sizeLine_eq] at z; lia) ?_;rw[<- rel.length];rwa[h _ _ (I.tok _)]
end


def Sl(i:An):Prop:=∀ a c,subscripted i IU a c=operate [a,c] (getItem a c)
def gQ{E:c6->d8->Prop}{T id:String}{Q:c6->d8->Prop}
  (n:typeLookup (.type T) "__getitem__" = pure (O (.builtin id))) (m:Sl slice)
  (h:wpAny (model prog w) A (eval value env) (λo e=>wpAny (model prog w) A (eval slice env) (λi a=>a.TypeIs o T/\wpAny (model prog w) A (getItem o i) Q E a) E e) E s) :
  wpAny (model prog w) A (eval (.Subscript value slice pos) env) Q E s:=by
 refine Hg (Cm h (λo e j=>Cm j (λi a c=>?_) λ_ _ x=>x) λ_ _ x=>x);obtain⟨l,c⟩:=c;unfold subscriptTail;refine b7 ?_;rw[getitemInPython_of_ne l.not_modules];refine b7 (G6 l n ?_);have f:wpAny (model prog w) A (subscripted slice IU o i) (λr d=>wpAny (model prog w) A (letTemporaryGo value o r >>= λ_=>pure r) Q E d) E a:=by
  rw[m o i];rwa[wpAny_operating (Cm c (λr d g=>b7 (wpAny_letTemporaryGo (d9 g))) λ_ _ x=>x)]
 first
  | exact d9 (b7 f)
  | exact b7 (d9 (b7 f))
  | exact b7 f

def gR{f:St}{H:Hp}(I:Inv X h f H s)(g:aC H a y o):s.TypeIs (.ref a) "dict" := by
 rcases g with ⟨c,k,e,_,_⟩ | ⟨c,k,b,e,_,_,_⟩
 ·obtain⟨_,_,j,_,d⟩:=kH I.hok e;rwa[d.typeIs]
 ·obtain⟨_,_,i,_,d⟩:=dR I.hok e;rwa[d.typeIs]
def tDGet(e ty:TE):TE:=λc H Q=>e c H λx f=>ty c f λy d=>E2 λa v=>A3 (x=.ref a) (aC d a y (O v)) (Q v d)
def tDIn(ty e:TE):TE:=λc H Q=>ty c H λy f=>e c f λx d=>E2 λa o=>A3 (x=.ref a) (aC d a y o) (Q (.bl o.isSome) d)
def WO(ty e:TE):TE:=λc H Q=>ty c H λy f=>e c f λx d=>E2 λa o=>A3 (x=.ref a) (aC d a y o) (Q (.bl (!o.isSome)) d)
def sDPut(f ty e:TE):TS:=λD c H=>e c H λv i=>f c i λx h=>ty c h λy g=>E2 λa d=>A3 (x=.ref a) (mf g a y v d) (D.nx c d)
section
variable{X:Cx}{o i e value:An}{pos pos' tpos:Dm}{td ty tv:TE}
def zO(r:X.A.units+1<cLine)(z:PE X o td)(hi:PE X i ty)(w:Sl i):PE X (.Subscript o i pos) (tDGet td ty):=by
 intro f s d H Q I h;erw[gQ C9.lookup w (thn (z f s d H _ I h) λu l ⟨x,E,C,n,q⟩=>thn (hi f l d E _ C q) λM L ⟨y,D,j,m,a,v,ex,g,p⟩=>?_)];subst ex;obtain rfl:u=j8 a:=n;rwa[gR j g,bF r j g m λG J B c=>⟨v,D,B,c,p⟩]
def XA(q:X.A.units+1<cLine)(hi:PE X i ty)(r:PE X o td):PC X .In i o (tDIn ty td):=by
 intro d s c H Q I h;erw[thn (hi d s c H _ I h) λG f ⟨y,C,z,j,n⟩=>thn (r d f c C _ z n) λu E ⟨x,B,w,l,a,p,ex,g,m⟩=>?_];subst ex;obtain rfl:u=j8 a:=l;rwa[d_in q w g j λD v=>⟨.bl p.isSome,B,v,rfl,m⟩]
def jY(q:X.A.units+1<cLine)(hi:PE X i ty)(r:PE X o td):PC X .NotIn i o (WO ty td):=by
 intro d s c H Q I h;erw[thn (hi d s c H _ I h) λG f ⟨y,C,z,j,n⟩=>thn (r d f c C _ z n) λu E ⟨x,B,w,l,a,p,ex,g,m⟩=>?_];subst ex;obtain rfl:u=j8 a:=l;rwa[Vn q w g j λD v=>⟨.bl (!p.isSome),B,v,rfl,m⟩]
def uU(B:X.A.units+1<cLine)(E:PE X o td)(hi:PE X i ty)(z:PE X value tv)(C:swapsWith value (O (.Subscript o i pos')) pos.line X.env=pure IU) :
  PS X (.Assign [.Subscript o i pos'] value pos) (sDPut td ty tv):=by
 intro d s c H D I h;erw[wpAny_Assign_Subscript (thn (z d s c H _ I h) λr j ⟨v,Q,M,n,w⟩=>thn (E d j c Q _ M w) λu f ⟨x,P,L,m,q⟩=>thn (hi d f c P _ L q) λT S ⟨y,Y,J,l,a,N,ex,g,p⟩=>?_) C];subst ex;obtain rfl:u=j8 a:=m;rwa[aI B J g l n λR G=>⟨c,N,G,p⟩]
end


def fK{H:Hp}(h:v8)(a:sysModules<h.objs.size):wC P w H (h.push { cls:=.type "dict",data:=.dict #[] }) h.objs.size (.dK []) :=
 ⟨Aa _,x5.mpr (AW (j9 a)),[],.nil,Heap.DictOf.new h⟩
def YU{H:Hp}(h:v8)(a:sysModules<h.objs.size):wC P w H (h.push { cls:=.type "dict",data:=.dict #[] }) h.objs.size (.dT []) :=
 ⟨Aa _,x5.mpr (AW (j9 a)),[],.nil,_,#[],0,f9 _ rfl,⟨rfl,rfl,rfl⟩,rfl,rfl,FM⟩
def TY:TE:=λ_ H Q=>∀ p,H p=IS->Q (.ref p) (upd H p (.dK []))
def UK:TE:=λ_ H Q=>∀ p,H p=IS->Q (.ref p) (upd H p (.dT []))
section
variable{X:Cx}{pos:Dm}
def rA:PE X (.Dict [] [] pos) TY:=λd s c H Q I h =>
 GQ ⟨.ref s.heap.objs.size,_,I.laid (a:=s.heap.objs.size) (o:=.dK []) (t':=s.toks) (λ_ _ q=>c8 _ q) (f6 _) (fK s.heap I.big),rfl,h _ (I.hok.fresh (f6 _))⟩
def Xp:PE X (.Dict [] [] pos) UK:=λd s c H Q I h =>
 GQ ⟨.ref s.heap.objs.size,_,I.laid (a:=s.heap.objs.size) (o:=.dT []) (t':=s.toks) (λ_ _ q=>c8 _ q) (f6 _) (YU s.heap I.big),rfl,h _ (I.hok.fresh (f6 _))⟩
end

def br:List (TE×TE)->St->Hp->(List (V×V)->Hp->Prop)->Prop
 | [],_,H,Q=>Q [] H
 | (d,c)::r,a,H,Q=>d a H λx h=>c a h λy g=>br r a g λe f=>Q ((x,y)::e) f
abbrev VV:List (V×V)->List (c6×c6)->Prop:=Gz λp q=>xI p.1 q.1/\xI p.2 q.2
def PPs(X:Cx)(pos:Dm)(keys:List (Option An))(a:List An)(d:List (TE×TE)):Prop :=
 ∀(f:List (c5×BD))(s:d8)(c:St)(H:Hp)(Q:List (V×V)->Hp->Prop),Inv X f c H s->br d c H Q ->
  wpAny (model X.prog X.w) X.A (evalPairs (pairTrees keys a X.env pos)) (λh i=>∃ e g,Inv X f c g i/\VV e h/\Q e g) X.xe s
def fo : PPs X pos [] [] []:=λc s a H Q I h=>pairTrees_nil_walk ⟨[],H,I,.nil,h⟩
def wI{g f:TE}(A:PE X k g)(w:PE X v f)(z:PPs X pos i e a) :
  PPs X pos (O k::i) (v::e) ((g,f)::a):=λd s c H Q I h =>
 pairTrees_cons_walk (thn (A d s c H _ I h) λu l ⟨x,J,D,n,q⟩=>thn (w d l c J _ D q) λM j ⟨y,G,C,m,p⟩ =>
  thn (z d j c G _ C p) λL N ⟨r,E,B,rel,o⟩=>⟨(x,y)::r,E,B,.cons ⟨n,m⟩ rel,o⟩)

def rz(a more:List (Key×V)):List (Key×V):=more.foldl (λc d=>sC c d.1 d.2) a
def KV.merge:∀{more:List (Key×V)}{c:List (Key×c6)}{a:List (Key×V)}{vs:List (Key×c6)},KV more c->KV a vs->KV (rz a more) (merged vs c):=by
 intro more c a vs r;unfold KV at r
 induction r generalizing a vs with
 | nil=>intro q; rwa[q]
 | @cons p q i g h t f =>
  intro d;have e:KV (sC a p.1 p.2) (stored vs q.1 q.2):=by
   have:=d.put p.1 h.2;rw[<- h.1]; rwa[this]
  rwa[f e]
def ve:∀(more a:List (Key×V)),(rz a more).length<=a.length+more.length
 | [],a=>by show a.length<=a.length+0; lia
 | p::r,a=>by
  have h1:=ve r (sC a p.1 p.2);have h2:=qO a p.1 p.2;show(rz (sC a p.1 p.2) r).length<=_;rw[n9]; lia
def lh : ∀{d:List (Key×V)}{f:List (c6×c6)},VV (d.map λg=>(kV g.1,g.2)) f->∃ e,Carries (yV P w) f e/\KV d e
 | [],_,r=>by rw[DZ] at r; cases r; rwa[[],o0,.nil]
 | p::d,_,r=>by
  rw[g9] at r;cases r with
  | @cons a b l bs h t =>
   obtain⟨e,c,q⟩:=lh (P:=P) (w:=w) t;obtain⟨j,i⟩:=b;rwa[(p.1,i)::e,⟨kE h.1,rfl,c⟩,.cons ⟨rfl,h.2⟩ q]
def tDisp(c:List (TE×TE)):TE:=λf H Q=>∀ p,H p=IS->br c f (upd H p (.dK [])) λg e=>e p=O (.dK [])/\∃ a:List (Key×V),A3 (g=a.map (λd=>(kV d.1,d.2))) (a.length<=15) (Q (.ref p) (upd e p (.dK (rz [] a))))
def iZ(h:PPs X pos keys d f)(i:keys.all (·.isSome)=IT)(D:keys.length=d.length)(h0:keys≠[])
  (l:keys.length<=15):PE X (.Dict keys d pos) (tDisp f):=by
 intro L s p H Q I q;have C:=I.hok.fresh (f6 s.heap.objs.size);have M:=I.laid (a:=s.heap.objs.size) (o:=.dK []) (h':=s.heap.push { cls:=.type "dict",data:=.dict #[] }) (t':=s.toks) (λ_ _ q=>c8 _ q) (f6 _) (fK s.heap I.big);refine wpAny_Dict_walk (knd:=yV X.prog X.w) i D h0 l (thn (h L _ p _ _ M (q _ C)) λN R ⟨S,T,n,rel,e,g,G,lk,y⟩=>?_);subst G;obtain⟨u,c,v⟩:=lh (P:=X.prog) (w:=X.w) rel;obtain⟨z,hd,r,x,J⟩:=Xk n.hok e;cases x;refine⟨u,c,J,λm j B=>⟨.ref s.heap.objs.size,_,?_,U,y⟩⟩;have A:(rz [] g).length<=sizeLine:=by
  have h1:=ve g [];rw[Bg] at h1;rw[sizeLine_eq]; lia
 have E:∃ q,m.get? s.heap.objs.size=O q:=let ⟨q,_,_,hq,_⟩:=j;⟨q,hq⟩;rwa[oO n (by rw[e]; exact o0) B E (iF A hd (v.merge .nil) j)]



end L2

namespace L2
def Zf(h:v8)(a:c5)(rows:Array CH)(c:Nat):Prop:=∃ ob,h.get? a=O ob/\ob.ExactDict/\ob.data=.dict rows c
def Zf.at{h d:v8}{c:Nat}(x:Zf h a rows c)(e:∀ ob,h.get? a=O ob->d.get? a=O ob):Zf d a rows c:=let ⟨ob,g,r⟩:=x;⟨ob,e _ g,r⟩
def Zf.typeIs{z:d8}{d:Nat}(x:Zf z.heap a rows d):z.TypeIs (.ref a) "dict" := let ⟨ob,g,c,_⟩:=x;⟨ob,g,c.1⟩
section
variable{prog:j7}{w:m9}{A:Aq}{E:c6->d8->Prop}{z:d8}{it a:c5}{rows:Array CH}{age k:Nat}
def ZH{R:c6->d8->Prop}(d:(a == sysModules)=IU)(x:Zf z.heap a rows age)(e:R (.ref z.heap.objs.size) { z with heap:=z.heap.push { cls:=.type "dict_keyiterator",data:=.fields #[.ref a,.int 0 0,.int rows.size 0,.int age 0] } }) :
  wpAny (model prog w) A (pyIter (.ref a)) R E z:=by
 have ty:=x.typeIs;obtain⟨ob,g,_,c⟩:=x;erw[Ez ty GR (Ar GR ty F.entry_dict_iter ?walk (F.args_dict_iter_1 _))]
 case walk =>
  unfold Ch.«dict.__iter__» HF;refine b7 (b7 (wpAny_notOrdered_dict ty (show wpAny _ _ (pure (j8 a)) _ _ z from d9 ?_)));show wpAny _ _ (Fx a >>= _) _ _ z;unfold Fx;rw[y6 (by rw[d]; decide)];erw[b7 (d9 (b7 (EA g c (b7 (Fq g c ?_)))))];erw[b7 (Ac (d9 ⟨_,rfl, "dict_keyiterator",_,⟨_,f9 _ rfl,rfl⟩,Bh.lookup,?_⟩))];simpa [rawInt] using e
def YX{R:Option c6->d8->Prop}(i:z.heap.IsKeyIter it a k rows.size age)(x:Zf z.heap a rows age)(j:k<rows.size)
  (l:∀ h,h.IsKeyIter it a (k+1) rows.size age->Bq it z.heap h->R (O rows[k].key) { z with heap:=h }):wpAny (model prog w) A (pyNext (.ref it)) R E z:=by
 have ty:=i.typeIs;obtain⟨n,f,m,d⟩:=id i;obtain⟨ob,g,_,e⟩:=x;unfold pyNext;erw[b7 (Df (At (name:=Br "__next__") ty Bh (Ar Bh ty DJ ?walk (DE _))))]
 case walk =>
  erw[b7 (d9 (b7 (b7 ?_)))]
  first | refine b7 (BF ty (d9 (b7 (CV f d ?_)))) | refine b7 (Cp ty (d9 (b7 (CV f d ?_))))
  simp only[show DQ "dict_keyiterator" = IU by decide,CA,if_false];show wpAny _ _ (if (j8 a == Ao)=IT then _ else _) _ _ z;rw[y6 (show ¬ ((j8 a == Ao)=IT) from i9)];erw[b7 (d9 (b7 (EA g e ?_)))];rw[y6 (by simp)];erw[b7 (d9 (b7 (Fq g e ?_)))];rw[y6 (by simp)];erw[d9 ?_];simp only[show ¬ ((k:Int)<0) from by lia,if_false,i4,x6 j];erw[b7 ?_]
  first | refine b7 (BF ty (d9 (b7 (Dz ty ?_)))) | refine b7 (Cp ty (d9 (b7 (Dz ty ?_))))
  show wpAny _ _ (setField (.ref it) 1 (rawInt ((k:Int)+1)) >>= _) _ _ z;refine b7 (B5 f d (by simp) ?_);have c:(z.heap.update it (BW (·.setIfInBounds 1 (rawInt ((k:Int)+1))))).IsKeyIter it a (k+1) rows.size age :=
   ⟨_,Bz _ f (CL (BC d _)),(Ex ..).trans m,by rw[BC d]; simp[rawInt]⟩
  refine b7 (Bo (b7 (Dz (s:={ z with heap:=z.heap.update it (BW (·.setIfInBounds 1 (rawInt ((k:Int)+1)))) }) c.typeIs ?_)));show wpAny _ _ (pure rows[k].key) _ _ _;rwa[d9 (d9 ⟨_,rfl,d9 (l _ c (BO ..))⟩)]
def Wa{R:Option c6->d8->Prop}(j:A.handled=IS)(f:z.heap.IsKeyIter it a k rows.size age)(x:Zf z.heap a rows age)(i:rows.size<=k)
  (l:∀ h,FJ it z.heap h->R IS { z with heap:=h }):wpAny (model prog w) A (pyNext (.ref it)) R E z:=by
 have ty:=f.typeIs;obtain⟨n,d,o,e⟩:=id f;obtain⟨ob,g,_,c⟩:=x;unfold pyNext;erw[b7 (Df (At (name:=Br "__next__") ty Bh (Ar Bh ty DJ ?walk (DE _))))]
 case walk =>
  erw[b7 (d9 (b7 (b7 ?_)))]
  first | refine b7 (BF ty (d9 (b7 (CV d e ?_)))) | refine b7 (Cp ty (d9 (b7 (CV d e ?_))))
  simp only[show DQ "dict_keyiterator" = IU by decide,CA,if_false];show wpAny _ _ (if (j8 a == Ao)=IT then _ else _) _ _ z;rw[y6 (show ¬ ((j8 a == Ao)=IT) from i9)];erw[b7 (d9 (b7 (EA g c ?_)))];rw[y6 (by simp)];erw[b7 (d9 (b7 (Fq g c ?_)))];rw[y6 (by simp)];erw[d9 ?_];simp only[show ¬ ((k:Int)<0) from by lia,if_false,i4,AY i];erw[b7 ?_]
  first | refine b7 (BF ty (d9 ?_)) | refine b7 (Cp ty (d9 ?_))
  show wpAny _ _ (setField (.ref it) 0 .none >>= _) _ _ z;refine b7 (B5 d e (by simp) (show wpAny _ _ (newExc (.type "StopIteration") [] >>= _) _ _ _ from b7 ?_));simp only[newExc,newTuple];refine b7 (Ac (b7 (m:=firstArgMember _ _) (FK (a:=Ao) (by first | rfl | (simp only[firstArgMember]; rfl)) (Ac ?_ (by size_fits)))) (by size_fits));simp only[raiseNew];erw[b7 (FY ?_)];rw[show A.in1.handled=IS from j];erw[b7 (d9 (G1 ?_))];erw[b7 (DD (T := "StopIteration") (b:=IT) ⟨_,f9 _ rfl,rfl⟩ isSubtype_stop ?_)];rwa[d9 (l _ (((BO ..).extBut.push _).push _))]
def cJ(p:A.handled=IS)(j:a≠it):Walks prog w A it [it,a] [it] rows.size (λi v=>∃ h:i<rows.size,v=rows[i].key) (λi h=>h.IsKeyIter it a i rows.size age/\Zf h a rows age) where
 sub:=λb c=>by simp at c; simp[c]
 frame:=λ_ _ _ st n=>⟨st.1.at λo e=>n it (by simp) o e,st.2.at λo e=>n a (by simp) o e⟩
 item:=λi s Q E hi st f=>YX st.1 st.2 hi λm g d =>
  f _ m s.toks ⟨hi,rfl⟩ ⟨g,st.2.at λo e=>d.extBut a o j e⟩ λb o c e=>d.extBut b o (λh=>c (by simp[h])) e
 done:=λs Q E st f=>Wa p st.1 st.2 (f6 _) λm l=>f m s.toks λb o c e=>l b o (λh=>c (by simp[h])) e
 self:=λ_ _ _ _ st f=>wpAny_pyIter_keyiter st.1 f
def ap(d:(a == sysModules)=IU):PySem.W.KdlSrc prog w "dict" a a rows.size (λi v=>∃ h:i<rows.size,v=rows[i].key) (λh=>Zf h a rows age) where
 type:=λ_ x=>x.typeIs
 there:=λ_ x=>let ⟨_,g,_⟩:=x;⟨g6 g,g6 g⟩
 keep:=λ_ _ x f=>x.at λo e=>f a (.inl rfl) o e
 notList:=by decide
 notTuple:=by decide
 hint:=λ_ _ _ _ x c=>PySem.W.kdl_hint_dict x.typeIs c
 iter:=λ_ s j x=>⟨_,_,(λ_ _ c=>ZH d x c),cJ j (let ⟨_,g,_⟩:=x; j9 (g6 g)),⟨⟨_,f9 _ rfl,rfl,rfl⟩,x.at λo e=>c8 _ e⟩⟩
end
section
variable{X:Cx}
def im(hc:X.calm=IT):uN X (.type "list") (λS H Q=>E2 λ(d:c5) (i:List (List Key×V))=>A3 (S=[.ref d]) (H d=O (.dT i)) (∀(p:c5)(E:List (c5×List Key)),H p=IS->E.map (·.2)=i.map (·.1)->(∀ t∈E,H t.1=O (.tup (t.2.map kV)))->Q (.ref p) (upd H p (.lst ((E.map (·.1)).map V.ref))))):=by
 intro IV s σ H S us Q I r h;obtain⟨d,i,rfl,hd,q⟩:=h;obtain⟨u,rfl,ru⟩:=yS.one r;cases ru;obtain⟨G,J,n,rel,ob,P,D,g,ex,R,z,x⟩:=UB I.hok hd;have m:P.size=n.length:=size_of_entries z;have l:i.length=n.length:=EK rel;refine GS (ap (rows:=P) (age:=D) J) (show X.A.handled=IS from I.ok.hd hc) ⟨ob,g,ex,R⟩ (by rw[m,<- l]; exact G) λh' tk B c keep at' v=>?_;have C:B.toList=((n.map λy=>(y.2.1,y.1)).map (·.1)).map j8:=by
  erw[CN λj=>?_];by_cases N:j<n.length
  ·have Y:j<B.size:=by rw[v.1,m]; rwa[N]
   obtain⟨M,e⟩:=v.2 j B[j] (by simp[Y]);have ek:=entry_at z j;rw[x6 M,c9 N,Cg] at ek;have ev:P[j].key=j8 n[j].2.1:=by rw[o8 ek]; rfl
   rw[BA,x6 Y,e,ev,d7,d7,d7,c9 N];rfl
  ·rw[AM (by rw[Ap,v.1,m]; lia),AM (by simp; lia)]
 have f:(n.map λy=>(y.2.1,y.1)).map (·.2)=i.map (·.1)/\∀ t∈n.map (λy=>(y.2.1,y.1)),H t.1=O (.tup (t.2.map kV)):=by
  clear z m l q C hd G x
  induction rel with
  | nil=>exact⟨rfl,λt ht=>nomatch ht⟩
  | @cons p y ps zs L t Z =>
   erw[by rw[g9,g9,g9,Z.1,L.1],λT w=>?_];rcases j4.mp w with e | w
   ·subst e;show H y.2.1=O (.tup (y.1.map kV));rw[<- L.1];rwa[L.2.1]
   ·rwa[Z.2 T w]
 have fr:H s.heap.objs.size=none:=I.hok.fresh (f6 _);erw[.ref s.heap.objs.size,_,I.laid (t':=tk) (a:=s.heap.objs.size) (o:=.lst (((n.map λy=>(y.2.1,y.1)).map (·.1)).map V.ref)) keep (f6 _) ?_,rfl,q _ _ fr f.1 f.2];exists by rw[ac,ac,ac,<- l]; exact G,_,c,nU _;rw[<- C,FN];rwa[at']
end
end L2

namespace Sea
abbrev Sd:=c5×Int×Int×Int
abbrev zW(a:List Sd):List V:=(a.map (·.1)).map V.ref
def jv(H:Hp)(a:List Sd):Prop:=∀ t∈a,H t.1=O (.tup [.int t.2.1,.int t.2.2.1,.int t.2.2.2])/\(t.2.1≠0\/t.2.2.1≠0)/\t.2.1.natAbs<=10^9/\t.2.2.1.natAbs<=10^9/\t.2.2.2.natAbs<=10^13
def jv.same{H d:Hp}(h:jv H a)(s:Same H d):jv d a:=λt c=>⟨s _ _ (h t c).1,(h t c).2⟩
def zY(a:List Sd):(zW a).length=a.length:=by simp[zW]
def xv{i:Nat}(h:(zW a)[i]?=O v):∃ t,a[i]?=O t/\v=.ref t.1/\i<a.length:=by
 rw[d7,d7] at h;cases e:a[i]? with
 | none=>rw[e] at h; cases h
 | some t=>rw[e] at h; rwa[t,rfl,(o8 h).symm,(c7.mp e).1]
def vO{ss:List Sd}{i:Nat}{k:Int}(e:k=i)(h:i<ss.length):∃ t,t∈ss/\ss[i]?=O t/\atI (zW ss) k=O (.ref t.1):=by
 erw[ss[i],AX h,c9 h,?_];rw[e];rwa[tP (by rw[d7,d7,c9 h] <;> rfl)]
def Vy(a:List Sd)(x y:Int):Bool:=a.all λt=>decide (t.2.1*x+t.2.2.1*y<=0)
def WK(a:List Sd)(n:Nat)(k:List Int):Prop:=∃ j t,j<n/\a[j]?=O t/\((k=rF [-t.2.2.1,t.2.1]/\Vy a (-t.2.2.1) t.2.1=IT)\/(k=rF [t.2.2.1,-t.2.1]/\Vy a t.2.2.1 (-t.2.1)=IT))
def ZV{x y g:Int}(a:0<g):Vy ss (x*g) (y*g)=Vy ss x y:=by
 unfold Vy
 congr 1
 funext t
 erw[decide_eq_decide.mpr ?_];have e:t.2.1*(x*g)+t.2.2.1*(y*g)=(t.2.1*x+t.2.2.1*y)*g:=by rw[Aw,AA,AA]
 rw[e];constructor
 ·intro h;by_cases c:t.2.1*x+t.2.2.1*y<=0
  ·rwa[c]
  ·have:=BG (show 0<t.2.1*x+t.2.2.1*y by lia) a;lia
 ·intro h;have:=o7 (show 0<=-(t.2.1*x+t.2.2.1*y) by lia) (Ah a);rw[AI] at this;lia
def way_low{x y:Int}(f:0<yF [x,y]):Vy a (x/(yF [x,y]:Int)) (y/(yF [x,y]:Int))=Vy a x y:=by
 have c:(0:Int)<(yF [x,y]:Int):=by lia
 have e:=yX (ns:=[x,y]) (n:=x) (by simp);have d:=yX (ns:=[x,y]) (n:=y) (by simp);have z:=ZV (ss:=a) (x:=x/(yF [x,y]:Int)) (y:=y/(yF [x,y]:Int)) c;rw[e,d] at z;rwa[z.symm]
def cF(ns:List Int):List Key:=ns.map Ci
def jt(ns:List Int):(cF ns).map kV=ns.map V.int:=by
 unfold cF;rw[AE];rfl
def YO(h:cF a=cF b):a=b:=by
 have z:=congrArg (List.map kV) h;rw[jt,jt] at z;rwa[lT z]
structure Zg(kvs:List (List Key×V))(ks:List (List Int)):Prop where
 keys:kvs.map (·.1)=ks.map cF
 nodup:ks.Nodup
def Zg.nil:Zg [] []:=⟨rfl,FM⟩
def Zg.put(h:Zg d i)(k:List Int)(v:V):∃ j,Zg (sC d (cF k) v) j/\(∀ x,x∈j↔x∈i\/x=k)/\j.length<=i.length+1:=by
 have p:∀ g∈d,∃ x∈i,g.1=cF x:=λg f=>by
  have z:g.1∈i.map cF:=by rw[<- h.keys]; rwa[o9 f]
  obtain⟨x,l,e⟩:=g7.mp z;rwa[x,l,e.symm]
 unfold sC;by_cases c:(d.any λg=>decide (g.1=cF k))=IT
 ·rw[y7 c];obtain⟨g,f,e⟩:=C3.mp c;obtain⟨x,l,ex⟩:=p g f;have m:x=k:=YO (ex.symm.trans (of_decide_eq_true e));erw[i,⟨?_,h.nodup⟩,λy=>⟨.inl,λz=>z.elim id λz=>by rw[z,<- m]; rwa[l]⟩,Ck _];rw[AE,<- h.keys];erw[FV λa _=>?_];show(if a.1=cF k then(a.1,v) else a).1=a.1;split <;> rfl
 ·rw[y6 c];have o:k ∉ i:=λq=>c (by
   have z:cF k∈d.map (·.1):=by rw[h.keys]; rwa[o9 q]
   obtain⟨g,f,e⟩:=g7.mp z;rwa[C3.mpr ⟨g,f,y8 e⟩])
  erw[i++[k],⟨by rw[e7,e7,h.keys]; rfl,?_⟩,λy=>by rw[i7,e8],by rw[f7]; rwa[f6 _]];rw[Gp];erw[h.nodup,by simp,λa r b n=>?_];rw[e8] at n;intro e;rwa[o (n ▸ e ▸ r)]
def Zg.len(h:Zg a c):a.length=c.length:=by
 have z:=congrArg AH h.keys;(rw[ac,ac] at z;assumption)
def Zg.refs{H:Hp}{d:List (c5×List Key)}(h:Zg f a)(e:d.map (·.2)=f.map (·.1))(j:∀ t∈d,H t.1=O (.tup (t.2.map kV))) :
  ∃ c:List (c5×List Int),c.map (·.1)=d.map (·.1)/\c.map (·.2)=a/\∀ u∈c,H u.1=O (.tup (u.2.map V.int)):=by
 rw[h.keys] at e;clear h
 induction d generalizing a with
 | nil =>
  cases a with
  | nil=>exact⟨[],rfl,rfl,λu g=>nomatch g⟩
  | cons k a=>rwa[x4 e (by simp)]
 | cons t d m =>
  cases a with
  | nil=>rwa[x4 e (by simp)]
  | cons k a =>
   rw[g9,g9] at e;injection e with e1 e2
   obtain⟨c,h1,h2,h3⟩:=m e2 λl i=>j l (x8 _ i);erw[(t.1,k)::c,by rw[g9,g9,h1],by rw[g9,h2],λu g=>?_];rcases j4.mp g with rfl | g
   ·have z:=j t (Ab ..);rw[e1,jt] at z;rwa[z]
   ·rwa[h3 u g]
structure WaysAt(H:Hp)(l:c5)(ss:List Sd)(us:List (c5×List Int)):Prop where
 at':H l=O (.lst ((us.map (·.1)).map V.ref))
 all:∀ u∈us,H u.1=O (.tup (u.2.map V.int))
 rises:(us.map (·.2)).Pairwise (λa b=>HT.lexLt b a=IU)
 nodup:(us.map (·.2)).Nodup
 mem:∀ k,k∈us.map (·.2)↔WK ss ss.length k
 few:us.length<=80
structure SdSt(H0:Hp)(D:c5)(ss:List Sd)(H:Hp):Prop where
 same:Same H0 H
 new:H0 D=IS
 at':H D=O (.lst (zW ss))
 all:jv H ss
end Sea

namespace Sea
def vK{i j:Int}(h:i.natAbs<=10^18):Us i j:=.inl ⟨by lia,by lia⟩
abbrev P3:=Int×Int×Int
abbrev xA(a:List (c5×P3)):List V:=(a.map (·.1)).map V.ref
def mK(H:Hp)(a:List (c5×P3)):Prop:=∀ t∈a,H t.1=O (.tup [.int t.2.1,.int t.2.2.1,.int t.2.2.2])/\0<t.2.2.2/\w9 (w9 t.2.1.natAbs t.2.2.1.natAbs) t.2.2.2.natAbs=1
def mK.same{H d:Hp}(h:mK H a)(s:Same H d):mK d a:=λt c=>⟨s _ _ (h t c).1,(h t c).2⟩
def sv(t p:P3):Int:=t.1*p.1+t.2.1*p.2.1-t.2.2*p.2.2
def tn(e s:P3):Int:=e.1*s.2.1-e.2.1*s.1
def dl(e p q:P3):Int:=e.1*(p.2.1*q.2.2-q.2.1*p.2.2)-e.2.1*(p.1*q.2.2-q.1*p.2.2)
def XS(a b u v X Y:Int):(a*a+b*b)*(u*X+v*Y)=(a*Y-b*X)*(a*v-b*u)+(a*X+b*Y)*(a*u+b*v):=by
 simp only[BV,EB,Dn,Aw,l7,As];lia
def ko(s p q:P3):sv s p*q.2.2-sv s q*p.2.2=s.1*(p.1*q.2.2-q.1*p.2.2)+s.2.1*(p.2.1*q.2.2-q.2.1*p.2.2):=by
 unfold sv;simp only[BV,EB,Aw,Dn,l7,As];lia
def Zx(c:sv e p=0)(a:sv e q=0)(s:P3):(e.1*e.1+e.2.1*e.2.1)*(sv s p*q.2.2-sv s q*p.2.2)=dl e p q*tn e s:=by
 have z:=ko e p q;rw[c,a,x9,x9,Int.sub_self] at z;rw[ko s p q,XS,<- z,x9,Iq];rfl
def gP{x y h:Int}(a:h*h=1):(x*h)*(y*h)=x*y:=by
 have e:(x*h)*(y*h)=x*y*(h*h):=by simp only[l7,As]
 rw[e,a,FG]
def bh{e p q:P3}{h:Int}(j:h*h=1)(l:0<e.1*e.1+e.2.1*e.2.1)(i:sv e p=0)(g:sv e q=0)(d:0<p.2.2)(a:0<q.2.2)(s:P3)(f:(dl e p q*h)*(tn e s*h)<=0)(m:sv s q<=0):sv s p<=0:=by
 have k:=Zx i g s;rw[<- gP (x:=dl e p q) (y:=tn e s) j] at k;rw[<- k] at f;have h1:sv s p*q.2.2-sv s q*p.2.2<=0:=by
  by_cases c:sv s p*q.2.2-sv s q*p.2.2<=0
  ·rwa[c]
  ·have:=BG l (show 0<sv s p*q.2.2-sv s q*p.2.2 by lia);lia
 have h2:sv s q*p.2.2<=0:=by
  have:=o7 (show 0<=-sv s q by lia) (Ah d);rw[AI] at this;lia
 by_cases c:sv s p<=0
 ·rwa[c]
 ·have:=BG (show 0<sv s p by lia) a;lia
def Ub{e p q s:P3}{h:Int}(i:h*h=1)(j:0<e.1*e.1+e.2.1*e.2.1)(g:sv e p=0)(f:sv e q=0)(a:0<p.2.2)(h0:sv s p=0)(l:sv s q<=0)(d:0<tn e s*h):0<=dl e p q*h:=by
 have k:=Zx g f s;rw[h0,x9,<- gP (x:=dl e p q) (y:=tn e s) i] at k;have h2:0<=-sv s q*p.2.2:=o7 (by lia) (Ah a);rw[AI] at h2;have h3:=o7 (Ah j) (show 0<=0-sv s q*p.2.2 by lia);rw[k] at h3;by_cases c:0<=dl e p q*h
 ·rwa[c]
 ·have:=BG (show 0 < -(dl e p q*h) by lia) d;rw[AI] at this;lia
def dl_le{e p q s:P3}{h:Int}(j:h*h=1)(l:0<e.1*e.1+e.2.1*e.2.1)(i:sv e p=0)(g:sv e q=0)(a:0<p.2.2)(h0:sv s p=0)(d:0<sv s q)(f:0<tn e s*h):dl e p q*h<=0:=by
 have k:=Zx i g s;rw[h0,x9,<- gP (x:=dl e p q) (y:=tn e s) j] at k;have h2:=BG d a;have h3:=o7 (Ah l) (show 0<=sv s q*p.2.2 by lia);have h4:(e.1*e.1+e.2.1*e.2.1)*(0-sv s q*p.2.2) = -((e.1*e.1+e.2.1*e.2.1)*(sv s q*p.2.2)):=by rw[Int.zero_sub,BU]
 rw[h4] at k;by_cases c:dl e p q*h<=0
 ·rwa[c]
 ·have:=BG (show 0<dl e p q*h by lia) f;lia
def pt3(l:List Int):P3:=match l with
 | [x,y,w]=>(x,y,w)
 | _=>(0,0,1)
def crL(e s:P3):List Int:=rF (upL (e.2.2*s.2.1-e.2.1*s.2.2) (e.1*s.2.2-e.2.2*s.1) (e.1*s.2.1-e.2.1*s.1))
def ftL(t:P3):List Int:=rF (upL (t.1*t.2.2) (t.2.1*t.2.2) (t.1*t.1+t.2.1*t.2.1))
structure XQ(l:List Int)(p:P3):Prop where
 list:l=[p.1,p.2.1,p.2.2]
 pos:0<p.2.2
 low:w9 (w9 p.1.natAbs p.2.1.natAbs) p.2.2.natAbs=1
def ul(h:tn e s≠0):XQ (crL e s) (pt3 (crL e s))/\sv e (pt3 (crL e s))=0/\sv s (pt3 (crL e s))=0:=by
 obtain⟨x,y,w,c,a⟩:=jy (X:=e.2.2*s.2.1-e.2.1*s.2.2) (Y:=e.1*s.2.2-e.2.2*s.1) (W:=e.1*s.2.1-e.2.1*s.1) h;have d:crL e s=[x,y,w]:=c;rw[d];refine⟨⟨U,by have:=a.pos; show 0<w; lia,a.low⟩,?_,?_⟩
 ·have z:=kN (A:=e.1) (B:=e.2.1) (C:=e.2.2) h a (aM e.1 e.2.1 e.2.2 s.1 s.2.1 s.2.2);show e.1*x+e.2.1*y-e.2.2*w=0;lia
 ·have z:=kN (A:=s.1) (B:=s.2.1) (C:=s.2.2) h a (ah e.1 e.2.1 e.2.2 s.1 s.2.1 s.2.2);show s.1*x+s.2.1*y-s.2.2*w=0;lia
def oq{t:P3}(h:t.1≠0\/t.2.1≠0):0<t.1*t.1+t.2.1*t.2.1:=Wx h
def Xz{t:P3}(h:t.1≠0\/t.2.1≠0):XQ (ftL t) (pt3 (ftL t))/\sv t (pt3 (ftL t))=0:=by
 have e:=oq h;obtain⟨x,y,w,c,a⟩:=jy (X:=t.1*t.2.2) (Y:=t.2.1*t.2.2) (W:=t.1*t.1+t.2.1*t.2.1) (by lia);have d:ftL t=[x,y,w]:=c;rw[d];exists ⟨U,by have:=a.pos; show 0<w; lia,a.low⟩;have z:=kN (A:=t.1) (B:=t.2.1) (C:=t.2.2) (show t.1*t.1+t.2.1*t.2.1≠0 by lia) a (by simp only[Dn,l7,As]);show t.1*x+t.2.1*y-t.2.2*w=0;lia
def inW(a:List Sd)(p:P3):Prop:=∀ t∈a,sv t.2 p<=0
def pi(a:List Sd)(e:P3)(h:Int):Option Nat->Prop
 | none=>∀ t∈a,tn e t.2*h<=0
 | some j=>∃ t,a[j]?=O t/\0<tn e t.2*h/\∀ u∈a,0<tn e u.2*h->sv u.2 (pt3 (crL e t.2))<=0
def uX{x h:Int}(h0:0<x*h):x≠0:=λz=>by rw[z,x9] at h0; rwa[x4 h0 (by decide)]
def Td{e z:P3}{h:Int}{j:Nat}(i:h*h=1)(l:0<e.1*e.1+e.2.1*e.2.1)(f:sv e z=0)(n:0<z.2.2)(c:inW a z)(gt:a[j]?=O t)(h0:0<tn e t.2*h)(p:∀ u∈a,0<tn e u.2*h->sv u.2 (pt3 (crL e t.2))<=0):inW a (pt3 (crL e t.2)):=λu g=>by
 obtain⟨d,m,c2⟩:=ul (uX h0);by_cases o:0<tn e u.2*h
 ·rwa[p u g o]
 ·have q:=Ub i l m f d.pos c2 (c t (e9 gt)) h0;erw[bh i l m f d.pos n u.2 ?_ (c u g)];have:=o7 q (show 0<=-(tn e u.2*h) by lia);rw[BU] at this;lia
def cX{e z p:P3}(l:0<e.1*e.1+e.2.1*e.2.1)(i:sv e z=0)(d:0<z.2.2)(f:inW a z)(j:sv e p=0)(g:0<p.2.2)(n1:pi a e 1 IS)(n2:pi a e (-1) IS):inW a p:=λu c=>by
 have n:=n1 u c;have m:=n2 u c;rw[FG] at n;have o:tn e u.2=0:=by
  rw[BU,FG] at m;lia
 erw[bh (h:=1) (by decide) l j i g d u.2 ?_ (f u c)];rw[o,x9,Du];rwa[FO _]
end Sea

namespace L2
section
variable{X:Cx}{pos:Dm}
def tPar3(i j k:Nat)(d:TA):TS:=λD a H=>d a H λc e=>E3 λu v w=>c=[u,v,w]/\D.nx (((a.set i (O u)).set j (O v)).set k (O w)) e
def Vx{i j k:Nat}{a b c:An}{kt k2 pt2}(hc:X.calm=IT)(Q:X.N.Nodup)(hi:X.N[i]?=O x)(hj:X.N[j]?=O y)(hk:X.N[k]?=O z)(P:i≠j)(M:i≠k)(L:j≠k)
  (Z:X.env.scope.names.lookup x=O .local) (Y:X.env.scope.names.lookup y=O .local) (T:X.env.scope.names.lookup z=O .local) (ha:PA X [a,b,c] S)
  (hw:swappedStores [.Tuple [.Name x E,.Name y C,.Name z B] kt pt] (.Tuple [a,b,c] k2 pt2) X.env=pure (O [x,y,z]))
  (hs:swapsWithSole [.Tuple [.Name x E,.Name y C,.Name z B] kt pt] (.Tuple [a,b,c] k2 pt2) pos.line X.env=pure false:=by rfl) :
  PS X (.Assign [.Tuple [.Name x E,.Name y C,.Name z B] kt pt] (.Tuple [a,b,c] k2 pt2) pos) (tPar3 i j k S):=by
 intro IV s R H D I h;rw[exec_Assign_arm];refine b7 (EL ?_);rw[hs];refine b7 (d9 ?_);rw[y6 (by decide)];refine b7 (Tuple_ (thn (ha _ IV s R H _ I h) λus m ⟨vs,H1,I1,r1,n⟩=>?_));obtain⟨u,v,t,e1,n⟩:=n;subst e1;obtain⟨l,g,f,rfl,ru,rv,rt⟩:∃ l g f,us=[l,g,f]/\xI u l/\xI v g/\xI t f:=by
  cases r1 with
  | cons p q =>
   cases q with
   | cons p' q' =>
    cases q' with
    | cons G r =>
     cases r;rwa[_,_,_,rfl,p,p',G]
 refine Ac ?_ (by show 3<=sizeLine; decide);have I2:Inv X IV R H1 { m with heap:=m.heap.push { cls:=.type "tuple",data:=.seq [l,g,f].toArray } }:=I1.kept (t':=m.toks) λb o e=>c8 _ e;rw[hw];erw[b7 (d9 ?_)];show wpAny (model X.prog X.w) X.A (do rule "assign.swapped-stores"; let d <- unpackItems (.ref m.heap.objs.size) 3 IS; assignInOrder [λv=>bindName X.env z v,λv=>bindName X.env y v,λv=>bindName X.env x v] d.reverse; pure GD) _ _ _;erw[b7 (Eb (b7 (unpackItems_tuple (items:=#[l,g,f]) (I.ok.hd hc) (GE m.heap _) λh' J=>?_)))];have I3:=I2.kept (h':=h') (t':=m.toks) λb o e=>J b o (j9 (g6 e)) e;show wpAny _ _ (assignInOrder [λv=>bindName X.env z v,λv=>bindName X.env y v,λv=>bindName X.env x v] [f,g,l] >>= λ_=>pure GD) _ _ _;erw[b7 (assignInOrder_cons (Dq (qN I3 Q hk (.inl T) rt (λs2 I4=>?_) (.inr T))))];erw[assignInOrder_cons (Dq (qN I4 Q hj (.inl Y) rv (λs3 I5=>?_) (.inr Y)))];erw[assignInOrder_cons (Dq (qN I5 Q hi (.inl Z) ru (λs4 I6=>assignInOrder_nil (d9 ?_)) (.inr Z)))];rw[EM (O t) (O v) (AW L),EM (O t) (O u) (AW M),EM (O v) (O u) (AW P)] at I6;rwa[_,H1,I6,n]
end
end L2
namespace Sea
def Vj(a:List Sd)(n:Nat):vi (zW a) (O (n:Int)) IS=zW (a.drop n):=by
 unfold vi;rw[HT.sIx_nat (zW a).length 0 n,show HT.sIx (zW a).length (zW a).length IS=(zW a).length from rfl,Ax (by rw[Ad] <;> lia)];rw[zY];simp only[zW,<- CJ]
 congr 2
 by_cases h:n<=a.length
 ·rw[DR h]
 ·rw[Nat.min_eq_right (by lia),List.drop_length,List.drop_eq_nil_of_le (by lia)]
def rP(a:List Sd):zW a=a.map λt=>V.ref t.1:=by simp[zW]
def Wc(h:tn e s≠0):crL e s=crL s e:=by
 unfold crL;have d:s.2.2*e.2.1-s.2.1*e.2.2 = -(e.2.2*s.2.1-e.2.1*s.2.2):=by rw[l7 s.2.2,l7 s.2.1]; lia
 have c:s.1*e.2.2-s.2.2*e.1 = -(e.1*s.2.2-e.2.2*s.1):=by rw[l7 s.1,l7 s.2.2]; lia
 have a:s.1*e.2.1-s.2.1*e.1 = -(e.1*s.2.1-e.2.1*s.1):=by rw[l7 s.1,l7 s.2.1]; lia
 rw[d,c,a,Vl (show e.1*s.2.1-e.2.1*s.1≠0 from h)]
end Sea

namespace Sea
def Vz(e p q:P3):dl e p q = -dl e q p:=by
 unfold dl;simp only[BV];lia
def Cor(a:List Sd)(P:P3):Prop:=∃ t∈a,∃ u∈a,tn t.2 u.2≠0/\P=pt3 (crL t.2 u.2)/\inW a P
def iB(a:List Sd)(e:P3)(h:Int)(c:List P3):Prop:=pi a e h IS\/∃(j:Nat)(t:Sd),a[j]?=O t/\0<tn e t.2*h/\(∀ u∈a,0<tn e u.2*h->sv u.2 (pt3 (crL e t.2))<=0)/\pt3 (crL e t.2)∈c
def iB.app{h:Int}{d i:List P3}(f:iB c e h d):iB c e h (d++i):=by
 rcases f with f | ⟨j,t,g,p,a,m⟩
 ·rwa[.inl f]
 ·rwa[.inr ⟨j,t,g,p,a,Bk _ m⟩]
def cr_small(h:tn e s≠0)(i:e.1.natAbs<=10^9)(g:e.2.1.natAbs<=10^9)(f:e.2.2.natAbs<=10^13)(d:s.1.natAbs<=10^9)(c2:s.2.1.natAbs<=10^9)(c:s.2.2.natAbs<=10^13) :
  (pt3 (crL e s)).1.natAbs<=10^40/\(pt3 (crL e s)).2.1.natAbs<=10^40/\(pt3 (crL e s)).2.2.natAbs<=10^40:=by
 obtain⟨x,y,w,j,a⟩:=jy (X:=e.2.2*s.2.1-e.2.1*s.2.2) (Y:=e.1*s.2.2-e.2.2*s.1) (W:=e.1*s.2.1-e.2.1*s.1) h;have l:crL e s=[x,y,w]:=j;rw[l];have r:=zQ e.2.2 s.2.1 f c2;have q:=zQ e.2.1 s.2.2 g c;have p:=zQ e.1 s.2.2 i c;have o:=zQ e.2.2 s.1 f d;have n:=zQ e.1 s.2.1 i c2;have m:=zQ e.2.1 s.1 g d;have z:=a.xle;have v:=a.yle;have u:=a.wle;erw[?_,?_,?_]
 ·show x.natAbs<=10^40;lia
 ·show y.natAbs<=10^40;lia
 ·show w.natAbs<=10^40;lia
end Sea

namespace Sea
def qu(x:Int):Int:=if x<0 then -x else x
def uW(a b:Int):Int:=qu a+qu b
def oh{a b:Int}(h:a≠0\/b≠0):0<uW a b:=by
 unfold uW qu;split <;> split <;> lia
def par{e1 e2 s1 s2:Int}(h:e1*s2=e2*s1)(a:e2*s2<=0):qu e2*s1+qu s2*e1=0:=by
 unfold qu;rw[l7 e1 s2] at h;by_cases c:e2<0
 ·rw[y7 c];by_cases d:s2<0
  ·have:=Eo c d;lia
  ·rw[y6 d,AI];lia
 ·rw[y6 c];by_cases d:s2<0
  ·rw[y7 d,AI];lia
  ·rw[y6 d];have z:e2*s2=0:=by
    have:=o7 (show 0<=e2 by lia) (show 0<=s2 by lia);lia
   rcases Dj.mp z with z | z
   ·rw[z,x9] at h;rw[z,x9,h];rfl
   ·rw[z,x9] at h;rw[z,x9,<- h];rfl
def dC{x y:Int}(h:x+y<0)(d:0<=x*y):x<=0/\y<=0:=by
 by_cases c:x<=0
 ·by_cases a:y<=0
  ·rwa[c,a]
  ·by_cases e:x=0
   ·lia
   ·have:=Bx (show x<0 by lia) (show 0<y by lia);lia
 ·by_cases a:y<0
  ·have:=Ep (show 0<x by lia) a;lia
  ·lia
def sq_nn(x:Int):0<=x*x:=by
 by_cases h:0<=x
 ·rwa[o7 h h]
 ·rwa[Ah (Eo (by lia) (by lia))]
def Yu{e s f P:P3}(n:tn e s=0)(x:0<e.1*e.1+e.2.1*e.2.1)(w:e.1≠0\/e.2.1≠0)(g:0<f.2.2)(p:0<P.2.2)(h1:sv e f=0)(h2:0<sv s f)(h3:sv s P<=0)(h4:0<sv e P) :
  uW e.1 e.2.1*s.1+uW s.1 s.2.1*e.1=0/\uW e.1 e.2.1*s.2.1+uW s.1 s.2.1*e.2.1=0/\uW e.1 e.2.1*s.2.2+uW s.1 s.2.1*e.2.2<0:=by
 have o:=ko e P f;have z:=ko s P f;rw[h1,x9] at o;have p1:=BG h4 g;have p2:=BG h2 p;have p3:sv s P*f.2.2<=0:=by
  have:=o7 (show 0<=-sv s P by lia) (Ah g);rw[AI] at this;lia
 have k:=XS e.1 e.2.1 s.1 s.2.1 (P.1*f.2.2-f.1*P.2.2) (P.2.1*f.2.2-f.2.1*P.2.2);rw[<- o,<- z,show e.1*s.2.1-e.2.1*s.1=0 from n,Du,Ay] at k;have n1:(e.1*e.1+e.2.1*e.2.1)*(sv s P*f.2.2-sv s f*P.2.2)<0:=Ep x (by lia);rw[k] at n1;have h:e.1*s.1+e.2.1*s.2.1<0:=by
  by_cases c:e.1*s.1+e.2.1*s.2.1<0
  ·rwa[c]
  ·have:=o7 (show 0<=sv e P*f.2.2-0 by lia) (show 0<=e.1*s.1+e.2.1*s.2.1 by lia);lia
 have i:e.1*s.2.1=e.2.1*s.1:=by unfold tn at n; lia
 have r:0<=(e.1*s.1)*(e.2.1*s.2.1):=by
  have y:(e.1*s.1)*(e.2.1*s.2.1)=(e.1*s.2.1)*(e.2.1*s.1):=by simp only[l7,As]
  rw[y,<- i];rwa[sq_nn _]
 obtain⟨m,l⟩:=dC h r;have E:=par (e1:=e.1) (e2:=e.1) (s1:=s.1) (s2:=s.1) rfl m;have D:=par (e1:=e.1) (e2:=e.2.1) (s1:=s.1) (s2:=s.2.1) i l;have C:=par (e1:=e.2.1) (e2:=e.1) (s1:=s.2.1) (s2:=s.1) i.symm m;have B:=par (e1:=e.2.1) (e2:=e.2.1) (s1:=s.2.1) (s2:=s.2.1) rfl l;have d:uW e.1 e.2.1*s.1+uW s.1 s.2.1*e.1=0:=by
  unfold uW;rw[Aw,Aw];lia
 have a:uW e.1 e.2.1*s.2.1+uW s.1 s.2.1*e.2.1=0:=by
  unfold uW;rw[Aw,Aw];lia
 exists d,a;have j:=oh w;generalize uW e.1 e.2.1=u at d a j ⊢;generalize uW s.1 s.2.1=v at d a ⊢;have q:(u*s.2.2+v*e.2.2)*f.2.2=(u*s.1+v*e.1)*f.1+(u*s.2.1+v*e.2.1)*f.2.1-u*sv s f-v*sv e f:=by
  unfold sv;simp only[BV,Dn,Aw,l7,As];lia
 rw[d,a,h1,x9,x9,Du] at q;have A:=BG j h2;by_cases c:u*s.2.2+v*e.2.2<0
 ·rwa[c]
 ·have:=o7 (show 0<=u*s.2.2+v*e.2.2 by lia) (Ah g);lia
structure Tr(ss:List Sd)(j:Nat)(e:Sd)(P:P3):Prop where
 at':ss[j]?=O e
 pos:0<P.2.2
 ahead:inW (ss.take j) P
 out:0<sv e.2 P
 no:∀ z:P3,sv e.2 z=0->0<z.2.2->¬ inW (ss.take j) z
def iH{e p f s:P3}(j:0<e.1*e.1+e.2.1*e.2.1)(g:sv e p=0)(i:sv e f=0)(a:0<p.2.2)(l:0<f.2.2)(c:tn e s=0)(d:sv s f<=0):sv s p<=0:=by
 erw[bh (h:=1) (by decide) j g i a l s ?_ d];rw[c,x9,Du];rwa[FO _]
def pL{x h:Int} : x * -h = -(x*h):=BU _ _
def fD{e f:P3}{h:Int}(i:h*h=1)(y:0<e.1*e.1+e.2.1*e.2.1)(q:sv e f=0)(s:0<f.2.2)(no:∀ z:P3,sv e z=0->0<z.2.2->¬ inW g z)(d:∀ t∈g,tn e t.2=0->sv t.2 f<=0)(n:pi g e h IS)(o:pi g e (-h) r):False:=by
 cases r with
 | none =>
  erw[no f q s λt m=>d t m ?_];have a:=n t m;have b:=o t m;rw[pL] at b;have z:tn e t.2*h=0:=by lia
  rcases Dj.mp z with z | z
  ·rwa[z]
  ·rw[z] at i;rwa[x4 i (by decide)]
 | some j =>
  obtain⟨t,gt,w,x⟩:=o;obtain⟨p,v,c2⟩:=ul (uX w);erw[no _ v p.pos λu l=>?_];by_cases c:0<tn e u.2 * -h
  ·rwa[x u l c]
  ·have a:=n u l;rw[pL] at c;have z:tn e u.2*h=0:=by lia
   rcases Dj.mp z with z | z
   ·rwa[iH y v q p.pos s z (d u l z)]
   ·rw[z] at i;rwa[x4 i (by decide)]
def bS{e f P:P3}{a b:Sd}{h:Int}(q:h*h=1)(s:0<e.1*e.1+e.2.1*e.2.1)(Q:sv e f=0)(R:0<f.2.2)(no:∀ z:P3,sv e z=0->0<z.2.2->¬ inW g z)(v:∀ t∈g,tn e t.2=0->sv t.2 f<=0)
  (ma:a∈g) (L:b∈g) (m:0<tn e a.2*h) (r:0<tn e b.2 * -h) (H:∀ u∈g,0<tn e u.2*h->sv u.2 (pt3 (crL e a.2))<=0) (G:∀ u∈g,0<tn e u.2 * -h->sv u.2 (pt3 (crL e b.2))<=0)
  (I:0<P.2.2) (w:inW g P) (J:0<sv e P) :
  0<tn b.2 e*h/\0<tn e a.2*h/\0<tn a.2 b.2*h/\(tn b.2 e*a.2.2.2+tn e a.2*b.2.2.2+tn a.2 b.2*e.2.2)*h<0:=by
 obtain⟨sa,l,Z⟩:=ul (uX m);obtain⟨x,B,Y⟩:=ul (uX r);have j : -h * -h=1:=by rw[Int.neg_mul_neg]; rwa[q]
 have i:0<sv b.2 (pt3 (crL e a.2)):=by
  by_cases c:0<sv b.2 (pt3 (crL e a.2))
  ·rwa[c]
  ·erw[x4 ?_ (no _ l sa.pos)];have d:=Ub j s B l x.pos Y (show sv b.2 (pt3 (crL e a.2))<=0 by lia) r;intro u o;by_cases X:0<tn e u.2*h
   ·rwa[H u o X]
   ·by_cases c2:0<tn e u.2 * -h
    ·erw[bh j s l B sa.pos x.pos u.2 ?_ (G u o c2)];rw[Vz,AI] ;have:=o7 d (Ah c2);rw[AI];lia
    ·rw[pL] at c2;have z:tn e u.2*h=0:=by lia
     rcases Dj.mp z with z | z
     ·rwa[iH s l Q sa.pos R z (v u o z)]
     ·rw[z] at q;rwa[x4 q (by decide)]
 have A:0<tn b.2 e*h:=by
  rw[pL] at r;have z:tn b.2 e = -tn e b.2:=by unfold tn; rw[l7 b.2.1,l7 b.2.2.1]; lia
  rw[z,AI];lia
 have S:∀ z:P3,tn b.2 e*sv a.2 z+tn e a.2*sv b.2 z+tn a.2 b.2*sv e z = -((tn b.2 e*a.2.2.2+tn e a.2*b.2.2.2+tn a.2 b.2*e.2.2)*z.2.2):=λz=>by
  unfold tn sv;simp only[BV,EB,Dn,Aw,l7,As];lia
 have n:=S (pt3 (crL e a.2));rw[l,Z,Du,Du,Ay,Iq] at n;have y:=S P;generalize tn b.2 e*a.2.2.2+tn e a.2*b.2.2.2+tn a.2 b.2*e.2.2=M at n y ⊢;have N:M*h<0:=by
  have p:=BG m i;have T:tn e a.2*h*sv b.2 (pt3 (crL e a.2)) = -(M*h*(pt3 (crL e a.2)).2.2):=by
   rw[Aj,n,AI,Aj]
  rw[T] at p;by_cases c:M*h<0
  ·rwa[c]
  ·have:=o7 (show 0<=M*h by lia) (Ah sa.pos);lia
 refine⟨A,m,?_,N⟩;have e2:tn b.2 e*h*sv a.2 P+tn e a.2*h*sv b.2 P+tn a.2 b.2*h*sv e P = -(M*h*P.2.2):=by
  have z:(tn b.2 e*sv a.2 P+tn e a.2*sv b.2 P+tn a.2 b.2*sv e P)*h = -(M*P.2.2)*h:=by rw[y]
  rw[AI,Aj M] at z;rw[<- z,Aw,Aw,Aj,Aj (tn e a.2),Aj (tn a.2 b.2)]
 have E:=o7 (Ah A) (show 0<=-sv a.2 P by have:=w a ma; lia);have D:=o7 (Ah m) (show 0<=-sv b.2 P by have:=w b L; lia);have C:=BG (show 0 < -(M*h) by lia) I;rw[BU] at E D;rw[AI] at C;by_cases c:0<tn a.2 b.2*h
 ·rwa[c]
 ·have:=o7 (show 0<=-(tn a.2 b.2*h) by lia) (Ah J);rw[AI] at this;lia
def xO{x h:Int}(a:h=1\/h = -1)(c:0<x*h):qu x=x*h:=by
 unfold qu;rcases a with rfl | rfl
 ·rw[y6 (by lia)];lia
 ·rw[y7 (by lia)];lia
def dM(a b e:P3):tn b e*a.1+tn e a*b.1+tn a b*e.1=0/\tn b e*a.2.1+tn e a*b.2.1+tn a b*e.2.1=0:=by
 unfold tn;constructor
 ·simp only[EB,BV,l7,As];lia
 ·simp only[EB,BV,l7,As];lia
def pf(a:List Sd)(c:List (Int×Int)):Prop :=
 (∃(i j:Nat)(u v:Int)(s t:Sd),c=[((i:Int),u),((j:Int),v)]/\i<j/\a[i]?=O s/\a[j]?=O t/\0<u/\0<v/\u<=10^19/\v<=10^19 /\
  u*s.2.1+v*t.2.1=0/\u*s.2.2.1+v*t.2.2.1=0/\u*s.2.2.2+v*t.2.2.2<0) \/
 ∃(i j k:Nat)(u v x:Int)(s t r:Sd),c=[((i:Int),u),((j:Int),v),((k:Int),x)]/\i<j/\j<k/\a[i]?=O s/\a[j]?=O t/\a[k]?=O r/\0<u/\0<v/\0<x/\u<=10^19/\v<=10^19/\x<=10^19 /\
  u*s.2.1+v*t.2.1+x*r.2.1=0/\u*s.2.2.1+v*t.2.2.1+x*r.2.2.1=0/\u*s.2.2.2+v*t.2.2.2+x*r.2.2.2<0
def Sk{x g:Int}(a:0<g)(h:x*g=0):x=0:=by
 rcases Dj.mp h with z | z
 ·rwa[z]
 ·lia
def n_of{x g:Int}(a:0<g)(h:x*g<0):x<0:=by
 by_cases c:x<0
 ·rwa[c]
 ·have:=o7 (show 0<=x by lia) (Ah a);lia
def XI{ws:List Int}{n:Int}(h:n∈ws)(h0:0<n)(a:n<=10^30):0<yF ws/\(yF ws:Int)<10^600:=by
 exists xL h (by lia);have h1:=za h (show n≠0 by lia);exact B6 (show(yF ws:Int)<=10^30 by lia) (by ac_nf)
def nL{a:List Int}{n:Int}(h:n∈a)(h0:0<n):0<n/(yF a:Int)/\n/(yF a:Int)<=n:=by
 have d:=xL h (show n≠0 by lia);have e:=yX h;have p:0<n/(yF a:Int):=by
  by_cases c:0<n/(yF a:Int)
  ·rwa[c]
  ·have:=o7 (show 0<=-(n/(yF a:Int)) by lia) (show(0:Int)<=(yF a:Int) by lia);rw[AI] at this;lia
 exists p;have:=Int.mul_le_mul_of_nonneg_left (show(1:Int)<=(yF a:Int) by lia) (Ah p);lia
def aT{d:List Sd}{i j:Nat}{c V:Int}(f:i<j)(u:d[i]?=O s)(gt:d[j]?=O t)(r:0<c)(q:0<V)(y:c<=10^19)(x:V<=10^19)
  (p:c*s.2.1+V*t.2.1=0) (o:c*s.2.2.1+V*t.2.2.1=0) (n:c*s.2.2.2+V*t.2.2.2<0):pf d ([(i:Int),(j:Int)].zip (rF [c,V])):=by
 have e:c∈[c,V]:=by simp
 have m:V∈[c,V]:=by simp
 have g:(0:Int)<(yF [c,V]:Int):=by have:=xL e (show c≠0 by lia); lia
 have l:=nL e r;have h:=nL m q;have w:=yX e;have v:=yX m;have sum:∀ a b:Int,(c/(yF [c,V]:Int)*a+V/(yF [c,V]:Int)*b)*(yF [c,V]:Int)=c*a+V*b:=λa b=>by
  rw[Aw,Aj,w,Aj,v]
 erw[.inl ⟨i,j,c/(yF [c,V]:Int),V/(yF [c,V]:Int),s,t,rfl,f,u,gt,l.1,h.1,C4 l.2 y,C4 h.2 x,?_,?_,?_⟩]
 ·rwa[Sk g (by rw[sum]; exact p)]
 ·rwa[Sk g (by rw[sum]; exact o)]
 ·rwa[n_of g (by rw[sum]; exact n)]
def gF{e:List Sd}{i j k:Nat}{d V X:Int}(h:i<j)(g:j<k)(A:e[i]?=O s)(gt:e[j]?=O t)(B:e[k]?=O r)(z:0<d)(y:0<V)(x:0<X)(I:d<=10^19)(H:V<=10^19)(G:X<=10^19)
  (w:d*s.2.1+V*t.2.1+X*r.2.1=0) (v:d*s.2.2.1+V*t.2.2.1+X*r.2.2.1=0) (u:d*s.2.2.2+V*t.2.2.2+X*r.2.2.2<0):pf e ([(i:Int),(j:Int),(k:Int)].zip (rF [d,V,X])):=by
 have f:d∈[d,V,X]:=by simp
 have q:V∈[d,V,X]:=by simp
 have p:X∈[d,V,X]:=by simp
 have l:(0:Int)<(yF [d,V,X]:Int):=by have:=xL f (show d≠0 by lia); lia
 have o:=nL f z;have n:=nL q y;have m:=nL p x;have E:=yX f;have D:=yX q;have C:=yX p;have sum:∀ a b c:Int,(d/(yF [d,V,X]:Int)*a+V/(yF [d,V,X]:Int)*b+X/(yF [d,V,X]:Int)*c)*(yF [d,V,X]:Int)=d*a+V*b+X*c:=λa b c=>by
  rw[Aw,Aw,Aj,E,Aj,D,Aj,C]
 erw[.inr ⟨i,j,k,d/(yF [d,V,X]:Int),V/(yF [d,V,X]:Int),X/(yF [d,V,X]:Int),s,t,r,rfl,h,g,A,gt,B,o.1,n.1,m.1,C4 o.2 I,C4 n.2 H,C4 m.2 G,?_,?_,?_⟩]
 ·rwa[Sk l (by rw[sum]; exact w)]
 ·rwa[Sk l (by rw[sum]; exact v)]
 ·rwa[n_of l (by rw[sum]; exact u)]
def sum2{u v:Int}{s t z:P3}(h1:u*s.1+v*t.1=0)(h2:u*s.2.1+v*t.2.1=0):u*sv s z+v*sv t z = -((u*s.2.2+v*t.2.2)*z.2.2):=by
 have e:u*sv s z+v*sv t z=(u*s.1+v*t.1)*z.1+(u*s.2.1+v*t.2.1)*z.2.1-(u*s.2.2+v*t.2.2)*z.2.2:=by
  unfold sv;simp only[BV,Dn,Aw,l7,As];lia
 rw[e,h1,h2,x9,x9];lia
def sum3{u v x:Int}{s t r z:P3}(h1:u*s.1+v*t.1+x*r.1=0)(h2:u*s.2.1+v*t.2.1+x*r.2.1=0):u*sv s z+v*sv t z+x*sv r z = -((u*s.2.2+v*t.2.2+x*r.2.2)*z.2.2):=by
 have e:u*sv s z+v*sv t z+x*sv r z=(u*s.1+v*t.1+x*r.1)*z.1+(u*s.2.1+v*t.2.1+x*r.2.1)*z.2.1-(u*s.2.2+v*t.2.2+x*r.2.2)*z.2.2:=by
  unfold sv;simp only[BV,Dn,Aw,l7,As];lia
 rw[e,h1,h2,x9,x9];lia
def xh{u x:Int}(a:0<u)(c:x<=0):u*x<=0:=by
 have:=o7 (Ah a) (show 0<=-x by lia);rw[BU] at this;lia
def pf.no(h:pf o w)(z:P3)(n:0<z.2.2):¬ inW o z:=λa=>by
 rcases h with ⟨i,j,u,v,s,t,_,_,m,gt,l,g,_,_,f,d,c⟩ | ⟨i,j,k,u,v,x,s,t,r,_,_,_,m,gt,q,l,g,p,_,_,_,f,d,c⟩
 ·have e:=sum2 (z:=z) (s:=s.2) (t:=t.2) f d;have B:=xh l (a s (e9 m));have A:=xh g (a t (e9 gt));have y:=Bx c n;lia
 ·have e:=sum3 (z:=z) (s:=s.2) (t:=t.2) (r:=r.2) f d;have B:=xh l (a s (e9 m));have A:=xh g (a t (e9 gt));have C:=xh p (a r (e9 q));have y:=Bx c n;lia
def goB(d:List Sd):List (Int×Int)->Int->P3->Bool
 | [],_,T=>decide ([T.1,T.2.1]=[0,0])&&decide (T.2.2<0)
 | c::e,a,T=>if a<c.1/\c.1<d.length/\1<=c.2 then
   match d[c.1.toNat]? with
   | some t=>goB d e c.1 (T.1+c.2*t.2.1,T.2.1+c.2*t.2.2.1,T.2.2+c.2*t.2.2.2)
   | none=>IU
  else IU
def ai(c:List Sd)(a:List (Int×Int)):Bool:=decide (2<=a.length)&&(decide (a.length<=3)&&goB c a (-1) (0,0,0))
def vc{c:List Sd}{n w a:Int}{d:List (Int×Int)}(h1:a<n)(h2:n<c.length)(h3:1<=w)(g:c[n.toNat]?=O t):goB c ((n,w)::d) a T=goB c d n (T.1+w*t.2.1,T.2.1+w*t.2.2.1,T.2.2+w*t.2.2.2):=by
 rw[goB,y7 ⟨h1,h2,h3⟩];show(match c[n.toNat]? with | some t=>goB c d n (T.1+w*t.2.1,T.2.1+w*t.2.2.1,T.2.2+w*t.2.2.2) | none=>IU)=_;rw[g]
def pf.b(h:pf g m):ai g m=true:=by
 rcases h with ⟨i,j,u,v,s,t,rfl,f,a,gt,o,n,_,_,e,d,c⟩ | ⟨i,j,k,u,v,x,s,t,r,rfl,f,p,a,gt,l,o,n,w,_,_,_,e,d,c⟩
 ·have hi:=(c7.mp a).1;have q:=(c7.mp gt).1;unfold ai;rw[vc (t:=s) (by lia) (by lia) (by lia) (by rw[i4]; rwa[a]),vc (t:=t) (by lia) (by lia) (by lia) (by rw[i4]; rwa[gt]),goB];show(decide (2<=2)&&(decide (2<=3)&&(decide ([0+u*s.2.1+v*t.2.1,0+u*s.2.2.1+v*t.2.2.1]=[0,0])&&decide (0+u*s.2.2.2+v*t.2.2.2<0))))=IT;rw[Ay,Ay,Ay,e,d,y8 c];rfl
 ·have hi:=(c7.mp a).1;have q:=(c7.mp gt).1;have y:=(c7.mp l).1;unfold ai;rw[vc (t:=s) (by lia) (by lia) (by lia) (by rw[i4]; rwa[a]),vc (t:=t) (by lia) (by lia) (by lia) (by rw[i4]; rwa[gt]),vc (t:=r) (by lia) (by lia) (by lia) (by rw[i4]; rwa[l]),goB];show(decide (2<=3)&&(decide (3<=3)&&(decide ([0+u*s.2.1+v*t.2.1+x*r.2.1,0+u*s.2.2.1+v*t.2.2.1+x*r.2.2.1]=[0,0])&&decide (0+u*s.2.2.2+v*t.2.2.2+x*r.2.2.2<0))))=IT;rw[Ay,Ay,Ay,e,d,y8 c];rfl
def pf.range(h:pf f d):(d.length=2\/d.length=3)/\∀ c∈d,0<=c.1/\c.1<f.length:=by
 rcases h with ⟨i,j,u,v,s,t,rfl,_,e,gt,_⟩ | ⟨i,j,k,u,v,x,s,t,r,rfl,_,_,e,gt,g,_⟩
 ·have h1:=(c7.mp e).1;have h2:=(c7.mp gt).1;erw[.inl rfl,λc a=>?_];simp only[j4,t7,or_false] at a;rcases a with rfl | rfl
  ·exact⟨by show(0:Int)<=(i:Int); lia,by show(i:Int)<_; lia⟩
  ·exact⟨by show(0:Int)<=(j:Int); lia,by show(j:Int)<_; lia⟩
 ·have h1:=(c7.mp e).1;have h2:=(c7.mp gt).1;have h3:=(c7.mp g).1;erw[.inr rfl,λc a=>?_];simp only[j4,t7,or_false] at a;rcases a with rfl | rfl | rfl
  ·exact⟨by show(0:Int)<=(i:Int); lia,by show(i:Int)<_; lia⟩
  ·exact⟨by show(0:Int)<=(j:Int); lia,by show(j:Int)<_; lia⟩
  ·exact⟨by show(0:Int)<=(k:Int); lia,by show(k:Int)<_; lia⟩
def pf.own{a os:List Sd}(h:pf a w)(f:∀ c∈w,∀ t,a[c.1.toNat]?=O t->t∈os)(z:P3)(q:0<z.2.2):¬ inW os z:=λd=>by
 rcases h with ⟨i,j,u,v,s,t,rfl,_,p,gt,o,n,_,_,m,l,g⟩ | ⟨i,j,k,u,v,x,s,t,r,rfl,_,_,p,gt,A,o,n,y,_,_,_,m,l,g⟩
 ·have e:=sum2 (z:=z) (s:=s.2) (t:=t.2) m l;have D:=xh o (d s (f ((i:Int),u) (by simp) s (by show a[(i:Int).toNat]?=_; rw[i4]; rwa[p])));have C:=xh n (d t (f ((j:Int),v) (by simp) t (by show a[(j:Int).toNat]?=_; rw[i4]; rwa[gt])));have B:=Bx g q;lia
 ·have e:=sum3 (z:=z) (s:=s.2) (t:=t.2) (r:=r.2) m l;have D:=xh o (d s (f ((i:Int),u) (by simp) s (by show a[(i:Int).toNat]?=_; rw[i4]; rwa[p])));have C:=xh n (d t (f ((j:Int),v) (by simp) t (by show a[(j:Int).toNat]?=_; rw[i4]; rwa[gt])));have E:=xh y (d r (f ((k:Int),x) (by simp) r (by show a[(k:Int).toNat]?=_; rw[i4]; rwa[A])));have B:=Bx g q;lia
def VR(a:List Sd)(P:P3):Prop:=P=(0,0,1)\/(∃ t∈a,P=pt3 (ftL t.2))\/∃ t∈a,∃ u∈a,tn t.2 u.2≠0/\P=pt3 (crL t.2 u.2)
end Sea

namespace L2
open PySem PySem.Spec PyProof.Rows PySem.W
section
variable{X:Cx}
def rB:uN X (.builtin "sorted") (λg H Q=>E2 λ(l:c5) (ns:List Int)=>A4 (g=[.ref l]) (SqL X.K H l (ns.map V.int)) (ns.length<64) (∀(p:c5)(c:List Int),H p=IS->c.Perm ns->c.Pairwise (·<=·)->Q (.ref p) (upd H p (.lst (c.map V.int))))):=by
 intro C s z H g A Q I r h;obtain⟨l,ns,rfl,n,f,q⟩:=h;obtain⟨u,rfl,ru⟩:=yS.one r;cases ru;obtain⟨d,i,m,B⟩:=I.list n;have v:=i.length;rw[ac] at v;erw[sorted_ints (ns:=ns) m.isList (dw i) (by lia) λout c y j x=>?_];obtain⟨e,at'⟩:=sortedAll_at s.heap d out;have w:H (s.heap.objs.size+1)=none:=I.hok.fresh (Ck _);erw[.ref (s.heap.objs.size+1),_,I.laid (t':=s.toks) (a:=s.heap.objs.size+1) (o:=.lst (c.map V.int)) (λb ob q=>sortedAll_old q) (Ck _) ?_,rfl,q _ c w j x];refine⟨?_,out.toList,e,vz y,by simpa using at'⟩;rw[ac,j.length_eq];rwa[f8 (AV f) (by rw[sizeLine_eq]; decide)]
end
def Zo{ns:List Int}{i:Nat}{k:Int}(e:k=i)(h:i<ns.length):∃ n,ns[i]?=O n/\atI (ns.map V.int) k=O (.int n):=by
 erw[ns[i],c9 h,?_];rw[e];rwa[tP (by rw[d7,c9 h] <;> rfl)]
def cg{a b:Int}{f:List Int}(h:f.Perm [a,b])(s:f.Pairwise (·<=·)):(f=[a,b]/\a<=b)\/(f=[b,a]/\b<=a):=by
 match f,h,s,h.length_eq with
 | [c,d],h,s,_ =>
  have le:c<=d:=by simpa using s
  have g:c∈[a,b]:=h.mem_iff.mp (Ab ..);rw[j4,e8] at g;rcases g with rfl | rfl
  ·have z:=Hn c |>.mp h
   have e:=FW.mp z;cases e;rwa[.inl ⟨rfl,le⟩]
  ·have z:=Hn c |>.mp (h.trans (List.Perm.swap c a []))
   have e:=FW.mp z;cases e;rwa[.inr ⟨rfl,le⟩]
def kF(K:b9):Dr K (.type "list") (.type "list")=O true:=rfl
def XW(H:Hp)(a:List Pr):Prop:=∀ t∈a,H t.1=O (.tup [.int t.2.1,.int t.2.2])
def XW.same{H c:Hp}(h:XW H a)(s:Same H c):XW c a:=λt d=>s _ _ (h t d)
end L2

namespace Sea
def dt(s g:P3):Int:=s.1*g.1+s.2.1*g.2.1
structure Bound(ss:List Sd)(g:P3):Prop where
 nz:∀ t∈ss,t.2.1≠0\/t.2.2.1≠0
 gz:g.1≠0\/g.2.1≠0
 ways:∀ t∈ss,∀ h:Int,(h=1\/h = -1)->(∀ s∈ss,tn t.2 s.2*h<=0)->tn t.2 g*h<=0
 lead:¬ ∀ s∈ss,dt s.2 g<=0
 one:∀ t∈ss,tn t.2 g=0->0<dt t.2 g->∀ P:P3,0<P.2.2->sv t.2 P=0->¬ inW ss P
end Sea

namespace L2
open PySem PySem.Spec PyProof.Rows PySem.W
def cut4{ok:c5->Int->Int->Hp->Prop}{G:Prop}{R:c5->Int->Int->Hp->Prop}(h1:(∀ p x y G,ok p x y G->R p x y G)->G)(h2:∀ p x y G,ok p x y G->R p x y G):G:=h1 h2
end L2

namespace L2

def VZ(a:Dy)(x:g8):Bool:=a.names.any λy=>y.1 == x&&y.2 == .cell
structure OwnScope(X:Cx)(caps:List (g8×Nat))(scope:Dy):Prop where
 kind:scope.kind=.function
 dis:(scope.names.all λx=>!(x.2 == .free) || !VZ scope x.1)=IT
 loc:∀ y∈scope.names,y.2=.local->scope.names.lookup y.1=O .local
 clos:(scope.names.all λx=>!(x.2 == .free)||(X.env.cells.lookup x.1).isSome)=IT
 cap:lA X scope caps
section
variable{X:Cx}{T:List g8}{caps:List (g8×Nat)}{scope:Dy}{elt target iter:An}{ifs:List An}{pos cpos:Dm}{wi:TI}{g:CC->TG}{tt:CC->TT}{te:CC->TE}

end
end L2

namespace Sea
def awB(N:Nat):List (Int×Int)->Int->Bool
 | [],_=>IT
 | c::d,a=>if a<=c.1/\c.1<N/\1<=c.2 then awB N d (c.1+1) else IU
def TQ(a:List Sd)(f:Sd->Int)(n:Int):Int:=match a[n.toNat]? with
 | some t=>f t
 | none=>0
def WJ(a:List Sd)(f:Sd->Int):List (Int×Int)->Int->Int
 | [],T=>T
 | c::d,T=>WJ a f d (T+c.2*TQ a f c.1)
def fAt(k:Int)(t:Sd):Int:=if k=0 then t.2.1 else if k=1 then t.2.2.1 else t.2.2.2
def cB{i:Nat}(h:(sS a)[i]?=O v):∃ t,a[i]?=O t/\v=.ref t.1/\i<a.length:=by
 unfold sS at h;rw[d7,d7] at h;cases e:a[i]? with
 | none=>rw[e] at h; cases h
 | some t =>
  rw[e] at h;cases h;rwa[t,rfl,rfl,(c7.mp e).1]
structure PrSt(H0:Hp)(D:c5)(cs:List Pr)(H:Hp):Prop where
 same:Same H0 H
 new:H0 D=IS
 at':H D=O (.lst (sS cs))
 all:XW H cs
end Sea

namespace L2
def iU:bootBuiltins "sum" = O (.builtin "sum"):=by ac_nf
def mW(ns:List Int):∀ n,n<=ns.length->preSum (λi=>ns.getD i 0) n=(ns.take n).sum
 | 0,_=>by simp[preSum]
 | n+1,h=>by
  have a:n<ns.length:=h;rw[preSum,mW ns n (AV a),o6,c9 a,List.sum_append];simp[List.getD,c9 a]
def nJ:∀{ns:List Int}{a:List c6},yS (ns.map V.int) a->∀(i:Nat)(v:c6),a[i]?=O v->∃ t,v=.int (ns.getD i 0) t
 | [],a,r,i,v,h=>by
  have e:=yS.zero r;subst e;simp at h
 | n::ns,a,r,i,v,h=>by
  cases r with
  | cons d c =>
   match i,h with
   | 0,h =>
    obtain⟨t,rfl⟩:=d;rwa[t,(o8 h).symm]
   | i+1,h=>rwa[nJ c i v h]
section
variable{X:Cx}
def zn(f:X.calm=IT):uN X (.builtin "sum") (λj H Q=>E2 λ(p:c5) (ns:List Int)=>A3 (j=[.ref p]) (SqL X.K H p (ns.map V.int)) (Q (.int ns.sum) H)):=by
 intro R s L H j M Q I r h;obtain⟨p,ns,rfl,C,q⟩:=h;obtain⟨u,rfl,w⟩:=mE r;cases w;obtain⟨a,m,x,N⟩:=I.list C;have g:s.heap.IsList p a.toArray:=x.isList;have d:p<s.heap.objs.size:=by obtain⟨o,D,_⟩:=g; rwa[g6 D]
 have y:a.length=ns.length:=by
  have z:=m.length;rw[ac] at z;rwa[z.symm]
 refine call_sum_walkG (Cj g ?_);refine⟨_,[_,p],[_],_,_,_,λi=>ns.getD i 0,U,Hl (A:=X.A.in1) (I.ok.hd f) _ p (j9 d) a.toArray,
  ⟨⟨_,f9 _ rfl,rfl,rfl⟩,g.push _⟩,λc f=>?_,λi v B=>nJ m i v (by simpa using B),λP n l G=>?_⟩
 ·have sz:(s.heap.push { cls:=.type "list_iterator",data:=.fields #[.ref p,.int 0 0] }).objs.size=s.heap.objs.size+1:=AR ..;show c<(s.heap.push { cls:=.type "list_iterator",data:=.fields #[.ref p,.int 0 0] }).objs.size;rw[sz];simp only[j4,t7,or_false] at f;rcases f with e | e
  ·rw[e]; rwa[C0 _]
  ·rw[e]; rwa[EC d]
 ·erw[.int ns.sum,H,I.kept (t':=n) λc o e=>G c o (λE=>?_) (c8 _ e),⟨l,?_⟩,q]
  ·have J:=e8.mp E;have z:=g6 e;rw[J] at z;rwa[BE _ z]
  ·have e:a.toArray.size=ns.length:=by simp[y]
   rw[e,mW ns ns.length (f6 _),j5]
end
end L2

namespace Sea
def WL(n:Nat)(a:List (Int×Int)):List (Int×Int):=a.filter λc=>decide (c.1<(n:Int))
structure Apart(ss es:List Sd)(cs:List (Int×Int)):Prop where
 out:∀ v:P3,0<v.2.2->inW es v->WJ ss (fAt 2) (WL ss.length cs) 0*v.2.2<WJ ss (fAt 0) (WL ss.length cs) 0*v.1+WJ ss (fAt 1) (WL ss.length cs) 0*v.2.1
 ins:∀ v:P3,inW ss v->WJ ss (fAt 0) (WL ss.length cs) 0*v.1+WJ ss (fAt 1) (WL ss.length cs) 0*v.2.1<=WJ ss (fAt 2) (WL ss.length cs) 0*v.2.2
 few:(∃ z:P3,0<z.2.2/\inW ss z)->(WL ss.length cs).length<=2
end Sea

namespace Sea
def fT{a b:Int}{m n:Nat}(h1:a.natAbs<=m)(h2:b.natAbs<=n):uW a b<=((m+n:Nat):Int):=by
 unfold uW qu;split <;> split <;> lia
structure PIb(t:TE)(σ:St)(i:Int)(n:Nat):Prop where
 rd:∀(H:Hp)(Q:VK),Q (.int i) H->t σ H Q
 le:i.natAbs<=n
abbrev US(a:List (c5×List Pr)):List V:=(a.map (·.1)).map V.ref
structure Leads(G:Hp)(lo:c5)(M:Nat)(xs:List (c5×List Pr)):Prop where
 at':G lo=O (.lst (US xs))
 all:∀ u∈xs,u.1≠lo/\G u.1=O (.lst (sS u.2))/\PrOk G M u.2
end Sea

namespace Sea
end Sea

namespace L2
def sz0:0<=sizeLine:=by decide
def sz1:1<=sizeLine:=by decide
def sz2:2<=sizeLine:=by decide
def sz3:3<=sizeLine:=by decide
def gt2:(0:Int)<2:=by decide
def gt3:(0:Int)<3:=by decide
def gt4:(0:Int)<4:=by decide
def gt5:(0:Int)<5:=by decide
section
variable{X:Cx}{x:g8}{p pos:Dm}{a b e c:An}{es:List An}{t:TA}{te ta tb:TE}{id T:String}{r:List V->Hp->VK->Prop}{n:Nat}{ps:List g8}{sp:Sp}
def Tt(h:starEach (e::es) X.env=(IU,eval e X.env)::starEach es X.env)(f:PE X e te)(d:PA X es t):PA X (e::es) (VC te t):=zI f d h
def UE(h:PE X (.Name x pos) te):PE X (.Name x pos) te:=h
def m_sub(h:PE X (.Subscript a b pos) te):PE X (.Subscript a b pos) te:=h
def Uc(h:PE X (.Call (.Name x p) (e::es) [] pos) te):PE X (.Call (.Name x p) (e::es) [] pos) te:=h
def m_bin(h:PE X (.BinOp a d b pos) te):PE X (.BinOp a d b pos) te:=h
def m_cmp{d:Gc}(h:PE X (.Compare a [d] [b] pos) te):PE X (.Compare a [d] [b] pos) te:=h
def UF{f:Gc}(h:PT X (.Compare a [f] [b] pos) d):PT X (.Compare a [f] [b] pos) d:=h
def Vq(h:PW X (.BoolOp f es pos) d):PT X (.BoolOp f es pos) d:=h.pt
def m_val{f:TE}(g:∀ d,isTrue e X.env d=(do let v <- d; standAt e.pos; holding [v] (truthy v)))(h:PE X e f):PT X e (tB f):=pZ h g
def m_ix(d:ak b)(g:PE X a ta)(f:PE X b tb):PE X (.Subscript a b pos) (tOp (rIxA X.K) ta tb):=bR cI g f d
def Te(x:g8)(h:PE X (.Name x pos) te):PE X (.Name x pos) te:=h
def jT(m:uN X (.builtin id) r)(g:bootBuiltins x=O (.builtin id))(i:X.mg x=IS)(j:Gl X x)(h:x ≠ "__name__")(f:(x ==("__debug__" : g8))=IU)
  (l:starEach (e::es) X.env=(IU,eval e X.env)::starEach es X.env) (d:(backTo pos (starEach es X.env)).any (·.1)=IU) (o:PA X (e::es) t):PE X (.Call (.Name x p) (e::es) [] pos) (tCB r t):=yE m j i g o h f l d
def Uq(m:uN X (.type T) r)(g:bootBuiltins x=O (.type T))(i:X.mg x=IS)(j:Gl X x)(h:x ≠ "__name__")(f:(x ==("__debug__" : g8))=IU)
  (l:starEach (e::es) X.env=(IU,eval e X.env)::starEach es X.env) (d:(backTo pos (starEach es X.env)).any (·.1)=IU) (o:PA X (e::es) t):PE X (.Call (.Name x p) (e::es) [] pos) (tCB r t):=yT m j i g o h f l d
def m_own{K:b9}{mg:g8->Option c6}(h:Has P w K mg B x n ps sp)(m:X.prog=P/\X.w=w/\X.K=K/\X.mg=mg/\X.base=B)(g:qZ n X.A)(i:Gl X x)(f:(x ==("__debug__" : g8))=IU)
  (j:starEach (e::es) X.env=(IU,eval e X.env)::starEach es X.env) (d:(backTo pos (starEach es X.env)).any (·.1)=IU) (l:PA X (e::es) t):PE X (.Call (.Name x p) (e::es) [] pos) (bx sp [] E0 t):=by
 obtain⟨rfl,rfl,rfl,rfl,rfl⟩:=m;rwa[wL h g i l f j d]
def zS(i:Nat){te:TE}(l:X.N.Nodup)(j:PE X e te)(hi:X.N[i]?=O x:=by rfl)(f:Loc X.env.scope x:=by first | exact BB rfl | exact GJ rfl)(g:swapsWith e (O (.Name x d)) pos.line X.env=pure false:=by rfl)
  (h:X.fn x=IT\/X.env.scope.names.lookup x=O .local:=by first | exact .inl rfl | exact .inr rfl | assumption):PS X (.Assign [.Name x d] e pos) (Sh te (aD i)):=aw l hi f j g h
def xR(i:Nat)(g:X.N.Nodup)(hi:X.N[i]?=O x:=by rfl)(d:Loc X.env.scope x:=by first | exact BB rfl | exact GJ rfl)(f:X.fn x=IT\/X.env.scope.names.lookup x=O .local:=by first | exact .inl rfl | exact .inr rfl | assumption) :
  PG X (.Name x pos) (aD i):=jz g hi d f
def ug{to:TE}{g d:Dm}(m:PE X o to)(q:PA X (e::es) t)
  (i:attributeBase o "append" X.env (eval o X.env)=eval o X.env:=by rfl)
  (j:((backTo d (starEach (e::es) X.env)).all (λx=>!x.1)&&(backToKw d (keywordEach [] X.env)).all (λx=>x.1.isSome)
   && decide ((e::es).length+([]:List Ev).length+(if ([]:List Ev).isEmpty then 0 else 1)<30))=true:=by rfl)
  (h:(g.endLine == d.line)=true:=by rfl) (l:starEach (e::es) X.env=(IU,eval e X.env)::starEach es X.env:=by rfl) (f:(backTo d (starEach es X.env)).any (·.1)=false:=by rfl) :
  PE X (.Call (.Attribute o "append" g) (e::es) [] d) (tBM X.K "list" aj to t):=Zb Do PySem.F.slot_list_append PySem.F.type_list_append ji m q i j h l f
end
end L2

namespace L2
def InB(B:v8)(a:b9->Prop):Prop:=∃ K:b9,K.In B/\a K
abbrev Cx.withK(X:Cx)(K:b9):Cx:={ X with K:=K }
def Mod.withK{K a:b9}{mg:g8->Option c6}(m:Mod K mg B)(h:a.In B):Mod a mg B:={ m with kin:=h }
section
variable{X:Cx}{IV:List (c5×BD)}{σ:St}{H:Hp}{s:d8}{K:b9}
def Cx.Ok.withK(ok:X.Ok)(h:K.In X.base):(X.withK K).Ok :=
 ⟨ok.mod.withK h,ok.kind,ok.glob,ok.blt,ok.above,ok.inj,ok.has,ok.cab,ok.hd,ok.frames,ok.stk,ok.exf,ok.bs,ok.bsz,ok.noex,ok.exfs,ok.funs,ok.frf⟩
def Cx.Ok.unK(ok:(X.withK K).Ok)(h:Mod X.K X.mg X.base):X.Ok :=
 ⟨h,ok.kind,ok.glob,ok.blt,ok.above,ok.inj,ok.has,ok.cab,ok.hd,ok.frames,ok.stk,ok.exf,ok.bs,ok.bsz,ok.noex,ok.exfs,ok.funs,ok.frf⟩
def Inv.withK(I:Inv X IV σ H s)(h:K.In X.base):Inv (X.withK K) IV σ H s:=⟨I.ok.withK h,I.os,I.bare,I.base,I.loc,I.cell,I.free,I.freeC,I.pin,I.hok,I.len⟩
def Inv.unK(I:Inv (X.withK K) IV σ H s)(h:Mod X.K X.mg X.base):Inv X IV σ H s:=⟨I.ok.unK h,I.os,I.bare,I.base,I.loc,I.cell,I.free,I.freeC,I.pin,I.hok,I.len⟩
end
section
variable{X:Cx}{o e value:An}{es:List An}{f m:g8}{pos pos' apos:Dm}{ta tv:TE}{t:TA}{C g:c5}{n:Nat}{ps:List g8}{sp:Sp}
inductive TFld(C:c5)(f:g8)(x:V)(H:Hp)(Q:VK):Prop where
 | mk (a dx:c5) (fs:List (g8×V)) (v:V) (ex:x=.ref a) (ea:H a=O (.ins C dx fs)) (l:fs.lookup f=O v) (q:Q v H)
def tFld2(C:c5)(f:g8)(ta:TE):TE:=λa H Q=>ta a H λx c=>TFld C f x c Q
def wo(p:InB X.base λK=>Cls K C/\xm K C f)(j:PE X e ta)(r:attributeBase e f X.env (eval e X.env)=eval e X.env:=by rfl):PE X (.Attribute e f pos) (tFld2 C f ta):=by
 obtain⟨K,y,c,n⟩:=p;intro z s d H Q I h;erw[VG r (thn (j z s d H _ I h) λu J ⟨x,D,B,i,a,L,fs,v,ex,w,l,q⟩=>?_)];subst ex;obtain rfl:u=j8 a:=i;rwa[du (X:=X.withK K) (B.withK y) w c n l λE G A ru=>⟨v,D,A.unK I.ok.mod,ru,q⟩]
inductive SFld(C:c5)(f:g8)(y x:V)(H:Hp)(Q:Hp->Prop):Prop where
 | mk (a dx:c5) (fs:List (g8×V)) (ex:x=.ref a) (ea:H a=O (.ins C dx fs)) (l:fs.length<1000) (q:Q (upd H a (.ins C dx (pQ f y fs))))
def sFld2(C:c5)(f:g8)(ta tv:TE):TS:=λD a H=>tv a H λy d=>ta a d λx c=>SFld C f y x c (D.nx a)
def nP(B:InB X.base λK=>Cls K C/\xm K C f)(E:PE X o ta)(z:PE X value tv)(A:swapsWith value (O (.Attribute o f pos')) pos.line X.env=pure false:=by rfl):PS X (.Assign [.Attribute o f pos'] value pos) (sFld2 C f ta tv):=by
 obtain⟨K,J,c,n⟩:=B;intro i s d H D I h;erw[plainObj_wpAny_Assign_Attribute (thn (z i s d H _ I h) λu j ⟨y,P,N,p,q⟩=>thn (E i j d P _ N q) λw R ⟨x,T,M,r,a,S,fs,ex,G,l,v⟩=>?_) A];subst ex;obtain rfl:w=j8 a:=r;rwa[dH (X:=X.withK K) (M.withK J) G c n l p λQ L=>⟨d,_,L.unK I.ok.mod,v⟩]
def nq(h:Has X.prog X.w X.K X.mg X.base x n ps sp)(c:qZ n X.A)(d:Gl X x)(a:(x ==("__debug__" : g8))=false:=by decide):PE X (.Call (.Name x p) [] [] pos) (bx sp [] E0 Tq):=by
 obtain⟨f,fd,F,b,k,m⟩:=h;rwa[Yn F c d m k b .nil de a]
def eA(P:j7)(w:m9)(K:b9)(mg:g8->Option c6)(base:v8)(g:c5)(n:Nat)(ps:List g8)(sp:Sp):Prop :=
 ∃ fd:AN,yN P w K mg base CX0 n g fd ps sp/\∀ a:List c6,a.length=ps.length->bindArgs fd ⟨a,[]⟩=pure (ps.zip a)
inductive TMeth(C:c5)(m:g8)(x:V)(H:Hp)(q:Prop):Prop where
 | mk (a dx:c5) (fs:List (g8×V)) (ex:x=.ref a) (ea:H a=O (.ins C dx fs)) (l:fs.lookup m=IS) (k:q)
def Wr(C:c5)(m:g8)(sp:Sp)(ta:TE)(t:TA):TE:=λa H Q=>ta a H λx c=>TMeth C m x c (t a c λd h=>sp (x::d) h Q E0)
def kK(T:InB X.base λK=>Cls K C/\YE K C m g)(h:eA X.prog X.w X.K X.mg X.base g n ps sp)(R:qZ n X.A)(S:PE X o ta)(Y:PA X (e::es) t)
  (i:starEach (e::es) X.env=(IU,eval e X.env)::starEach es X.env:=by rfl) (j:(backTo pos (starEach es X.env)).any (·.1)=false:=by rfl)
  (P:eval (.Call (.Attribute o m apos) (e::es) [] pos) X.env=(do
   let B <- eval o X.env
   standAt apos.atName
   let (f,first) <- holding [B] (getMethod B m d)
   callWith pos f first (backTo pos (starEach (e::es) X.env)) (backToKw pos (keywordEach [] X.env))):=by rfl) :
  PE X (.Call (.Attribute o m apos) (e::es) [] pos) (Wr C m sp ta t):=by
 obtain⟨K,p,c,D⟩:=T;obtain⟨fd,F,b⟩:=h;intro E s v H Q I h;erw[Fy (pl:=d) (thn (S E s v H _ I h) λu L ⟨x,H1,J,M,a,dx,fs,ex,Z,l,q⟩=>?_) P];subst ex;obtain rfl:u=j8 a:=M;erw[lL (X:=X.withK K) (J.withK p) Z c D l ?_];erw[Dk (first:=[.ref a]) (h₀:=X.base) (K:=K) p D.kp (thn (Y pos E L v H1 _ J q) λz s2 ⟨y,H2,G,r,N⟩=>⟨(G.withK p).kIn,?_⟩) i j];rwa[iL (us:=.ref a::z) (vs:=.ref a::y) (dvs:=[]) (ds:=[]) F R (.all b) .nil de G (.cons rfl r) (by rw[Cf]; exact N)]
def tZ(E:InB X.base λK=>Cls K C/\YE K C m g)(h:eA X.prog X.w X.K X.mg X.base g n ps sp)(B:qZ n X.A)(D:PE X o ta)
  (z:eval (.Call (.Attribute o m apos) [] [] pos) X.env=(do
   let j <- eval o X.env
   standAt apos.atName
   let (f,first) <- holding [j] (getMethod j m d)
   callWith pos f first (backTo pos (starEach [] X.env)) (backToKw pos (keywordEach [] X.env))):=by rfl) :
  PE X (.Call (.Attribute o m apos) [] [] pos) (Wr C m sp ta Tq):=by
 obtain⟨K,r,c,p⟩:=E;obtain⟨fd,F,b⟩:=h;intro J s v H Q I h;erw[Fy (pl:=d) (thn (D J s v H _ I h) λu L ⟨x,N,i,y,a,M,fs,ex,G,l,q⟩=>?_) z];subst ex;obtain rfl:u=j8 a:=y;erw[lL (X:=X.withK K) (i.withK r) G c p l ?_];rwa[DU (first:=[.ref a]) (i.withK r).kIn p.kp (iL (us:=[.ref a]) (vs:=[.ref a]) (dvs:=[]) (ds:=[]) F B (.all b) .nil de i (.cons rfl .nil) q)]
def Uh(C:c5)(sp:Sp):TE:=λ_ H Q=>∀ x a,H x=IS->H a=IS->a≠x->sp [.ref x] (upd (upd H a (.own x)) x (.ins C a [])) (λv c=>v=.non/\Q (.ref x) c) E0
def yN.withK{K q:b9}{mg:g8->Option c6}{k:Nat}{f:c5}(F:yN P w K mg B CX0 k f fd ps sp)(h:K.In B):yN P w q mg B CX0 k f fd ps sp :=
 ⟨F.len,λA outer s H a j i Q E l d p r c=>F.run A outer s H a j i Q E l { d with mod:=d.mod.withK h } p r c⟩
def Zt(j:InB X.base λK=>Mk K C g)(h:eA X.prog X.w X.K X.mg X.base g n ps sp)(c:qZ (n+1) X.A)(d:X.mg x=O (.ref C))(i:Gl X x:=by rfl)(a:(x ==("__debug__" : g8))=false:=by decide) :
  PE X (.Call (.Name x p) [] [] pos) (Uh C sp):=by
 obtain⟨K,l,M⟩:=j;obtain⟨fd,F,b⟩:=h;intro G s D H Q I h;erw[BX (yn I i d ?_ a)];have J:=I.withK l;erw[DU J.kIn M.kp (Cm (Xs (X:=X.withK K) (us:=[]) (vs:=[]) (dvs:=[]) (ds:=[]) M (F.withK I.ok.mod.kin) c (.all b) .nil de J .nil h) (λu E ⟨v,B,y,r,q⟩=>⟨v,B,y.unK I.ok.mod,r,q⟩) λ_ _ z=>z)]
end
end L2

namespace L2
structure M1(X:Cx)(o:An)(m:g8)(apos:Dm)(e:An)(cpos:Dm):Prop where
 base:attributeBase o m X.env (eval o X.env)=eval o X.env
 few:((backTo cpos (starEach [e] X.env)).all (λx=>!x.1)&&(backToKw cpos (keywordEach [] X.env)).all (λx=>x.1.isSome)
  && decide (([e]:List An).length+([]:List Ev).length+(if ([]:List Ev).isEmpty then 0 else 1)<30))=IT
 line:(apos.endLine == cpos.line)=IT
 trees:backTo cpos (starEach [e] X.env)=[(IU,eval e X.env)]
structure M2(X:Cx)(o:An)(m:g8)(apos:Dm)(e f:An)(cpos:Dm):Prop where
 base:attributeBase o m X.env (eval o X.env)=eval o X.env
 few:((backTo cpos (starEach [e,f] X.env)).all (λx=>!x.1)&&(backToKw cpos (keywordEach [] X.env)).all (λx=>x.1.isSome)
  && decide (([e,f]:List An).length+([]:List Ev).length+(if ([]:List Ev).isEmpty then 0 else 1)<30))=IT
 line:(apos.endLine == cpos.line)=IT
 trees:backTo cpos (starEach [e,f] X.env)=[(IU,eval e X.env),(IU,eval f X.env)]

def IsD(H:Hp)(a:c5):Prop:=(∃ c,Rd H a (.dK c))\/∃ c,Rd H a (.dT c)
def TL{g:St}{H:Hp}(I:Inv X h g H s)(d:IsD H a) :
  s.TypeIs (.ref a) "dict" /\ (∀ b,j8 a=.ref b->∃ ob,s.heap.get? b=O ob/\ob.dict=IS)/\(a == sysModules)=false:=by
 rcases d with ⟨f,e⟩ | ⟨f,e⟩
 ·obtain⟨_,hd,j,_,c⟩:=kH I.hok e;erw[c.typeIs,λb q=>?_,hd];cases q;obtain⟨ob,_,_,h1,h2,_⟩:=c;rwa[ob,h1,h2.2.1]
 ·obtain⟨_,hd,i,_,c⟩:=dR I.hok e;erw[c.typeIs,λb q=>?_,hd];cases q;obtain⟨ob,_,_,h1,h2,_⟩:=c;rwa[ob,h1,h2.2.1]


def So(g ty:TE):TE:=λd H Q=>g d H λx f=>∃ a,A3 (x=.ref a) (IsD f a) (ty d f λy e=>E3 λc k v=>A4 (e a=O (.dK c)) (y=kV k) (vR c k=O v) (Q v (upd e a (.dK (qo c k)))))
section
variable{X:Cx}{o e f:An}{apos cpos:Dm}{td ty tx:TE}
def pJ(C:PE X o td)(D:PE X e ty)(m:M1 X o "pop" apos e cpos):PE X (.Call (.Attribute o "pop" apos) [e] [] cpos) (So td ty):=by
 intro i s g H Q I h;erw[Gq m.base m.few m.line PySem.F.plainAttrs_dict Fw PySem.F.type_dict_pop (thn (C i s g H _ I h) λu q ⟨x,L,j,w,a,ex,d,A⟩=>?_)];subst ex;obtain rfl:u=j8 a:=w;obtain⟨p,n,_⟩:=TL j d;exists p,n;rw[m.trees];erw[Fh rfl (DG (F5 (thn (D i q g L _ j A) λR P ⟨y,S,J,r,B,k,v,E,ey,l,z⟩=>Gj ?_)))];subst ey;rwa[d_pop J E r l (.inl rfl) λM N G c=>⟨v,_,G,c,z⟩]
end

section
variable{X:Cx}{IV:List (c5×BD)}{σ:St}{H:Hp}{s:d8}{a:c5}{kvs:List (Key×V)}{A:Aq}{E:c6->d8->Prop}
def YW{Q:c6->d8->Prop}(I:Inv X IV σ H s)(e:Rd H a (.dK kvs))(h:∀ p d,H p=IS->Inv X IV σ (upd H p (.dK kvs)) d->Q (.ref p) d):wpAny (model X.prog X.w) A (call (.type "dict") [.ref a]) Q E s:=by
 obtain⟨z,hd,j,rel,i⟩:=kH I.hok e;erw[kt_call_dict hd i (by rw[<- rel.length]; rwa[z]) λl c g=>?_];erw[h _ _ (I.hok.fresh (f6 _)) (I.laid (a:=s.heap.objs.size) (o:=.dK kvs) (t':=s.toks) (λb q f=>?_) (f6 _) (iF z (x5.mpr (AW (j9 I.big))) rel c))];exact(g.2 b (j9 (g6 f))).trans (c8 _ f)
end


end L2


namespace L2
section
variable{X:Cx}{IV:List (c5×BD)}{σ:St}{H:Hp}{s:d8}{d:c5}{kvs:List (Key×V)}
def KV.at{vs:List (Key×c6)} : ∀{kvs:List (Key×V)}{vs:List (Key×c6)}{i:Nat}{k:Key}{v:V},KV kvs vs->kvs[i]?=O (k,v)->∃ u,vs[i]?=O (k,u)/\xI v u
 | _,_,_,_,_,.nil,e=>by simp at e
 | _,_,0,k,v,.cons (a:=a) (b:=b) ⟨f,c⟩ _,e=>by
  simp at e;subst e;exact⟨b.2,by rw[show(k,b.2)=b from by rw[show k=b.1 from f]]; rfl,c⟩
 | _,_,i+1,k,v,.cons _ t,e=>KV.at (vs:=[]) (i:=i) t (by simpa using e)
def Itc(c:Hp->Prop)(a:List V):It:=⟨λi H=>c H/\i<a.length,λi H x e=>e=H/\a[i]?=O x,λi H=>c H/\a.length<=i⟩
variable{tg l:An}{te:TE}{apos pos:Dm}
end
end L2

namespace L2
section
variable{φ:Hp->Prop}{xs:List V}{g:TG}{tb:TS}{E:cK}{σ σ0:St}{H H1:Hp}{D:c5}{tt:TT}{te:TE}{Q:VK}
def for_c(a:Nat->St->Hp->Prop)(h0:a 0 σ H)(n:∀ i σ H,a i σ H->φ H)
  (q:∀ i x σ H,xs[i]?=O x->a i σ H->g x σ H λc j=>tb { E with nx:=a (i+1),ct:=a (i+1),bk:=E.nx } c j) (hd:∀ σ H,a xs.length σ H->E.nx σ H) :
  ∃ W:Nat->Nat->St->Hp->Prop,(∃ m,W 0 m σ H)/\∀ i m σ H,W i m σ H ->
   ((Itc φ xs).stop i H/\E.nx σ H)\/((Itc φ xs).go i H/\∃ N:St->Hp->Prop,(∀ d f,N d f->∃ l,l<m/\W (i+1) l d f)/\∀ x f,(Itc φ xs).yld i H x f->g x σ f λc j=>tb { E with nx:=N,ct:=N,bk:=E.nx } c j):=by
 exists λi m σ H=>m=xs.length-i/\i<=xs.length/\a i σ H,⟨xs.length,by simp,Aa _,h0⟩;rintro i m σ H ⟨rfl,hi,p⟩;by_cases h:i<xs.length
 ·erw[.inr ⟨⟨n i σ H p,h⟩,a (i+1),λd f o=>⟨xs.length-(i+1),by lia,rfl,h,o⟩,λx f ⟨e,y⟩=>?_⟩];subst e;rwa[q i x σ _ y p]
 ·have e:i=xs.length:=by lia
  subst e;rwa[.inl ⟨⟨n _ σ H p,f6 _⟩,hd σ H p⟩]
def Uk(d:Nat->St->List V->Hp->Prop)(h0:d 0 σ0 [] (upd H1 D (.lst [])))(r:∀ i σ a H,d i σ a H->φ H/\H D=O (.lst a))
  (o:∀ i x σ a H,xs[i]?=O x->d i σ a H->g x σ H λc s=>tt c s λb j =>
   if b=IT then te c j λy h=>h D=O (.lst a)/\a.length<sizeLine/\d (i+1) c (a++[y]) (upd h D (.lst (a++[y]))) else d (i+1) c a j)
  (hd:∀ σ a H,d xs.length σ a H->Q (.ref D) H):ui (Itc φ xs) D g tt te σ0 H1 Q:=by
 exists λi m σ a H=>m=xs.length-i/\i<=xs.length/\d i σ a H,⟨xs.length,by simp,Aa _,h0⟩;rintro i m σ a H ⟨rfl,hi,p⟩;obtain⟨q,n⟩:=r i σ a H p;exists n;by_cases f:i<xs.length
 ·erw[.inr ⟨⟨q,f⟩,d (i+1),λl v u z=>⟨xs.length-(i+1),by lia,rfl,f,z⟩,λx u ⟨e,y⟩=>?_⟩];subst e;rwa[o i x σ a _ y p]
 ·have e:i=xs.length:=by lia
  subst e;rwa[.inl ⟨⟨q,f6 _⟩,hd σ a H p⟩]
def Vo(c:Nat->St->List V->Hp->Prop)(h0:c 0 σ0 [] (upd H1 D (.lst [])))(j:∀ i σ a H,c i σ a H->φ H/\H D=O (.lst a))
  (h:∀ i x σ a H,xs[i]?=O x->c i σ a H->g x σ H λd l=>te d l λy f=>f D=O (.lst a)/\a.length<sizeLine/\c (i+1) d (a++[y]) (upd f D (.lst (a++[y]))))
  (hd:∀ σ a H,c xs.length σ a H->Q (.ref D) H):ui (Itc φ xs) D g Wb te σ0 H1 Q:=Uk c h0 j (λi x σ a H e p=>h i x σ a H e p) hd
end
section
variable{X:Cx}{x y:g8}{p pos:Dm}{i e:An}{es:List An}{ty:TE}{t:TA}
def fW{n:Int}(a:∃ k,X.mg x=O (.int n k))(c:Gl X x:=by rfl)(hd:(x ==("__debug__" : g8))=false:=by decide):PE X (.Name x pos) (tC (.int n)):=λ_ _ _ H _ I h=>by
 obtain⟨k,a⟩:=a;rwa[yn I c a ⟨.int n,H,I,⟨k,rfl⟩,h⟩ hd]
def Uu(P:j7)(w:m9)(B:v8)(a:c5)(c:List (Key×V)):Prop:=∃ d,KV c d/\B.DictOf (yV P w) a d
def tGet(a:List (Key×V))(ty:TE):TE:=λc H Q=>ty c H λy d=>E2 λ(k:Key) (v:V)=>A3 (y=kV k) (vR a k=O v) (Q v d)
def Xj{j:St}{H:Hp}{E:c6->d8->Prop}{Q:c6->d8->Prop}(B:Uu X.prog X.w X.base a c)(I:Inv X q j H s)(l:vR c k=O v)(r:xI (kV k) u)
  (h:∀ d n,Inv X q j H n->xI v d->Q d n):s.TypeIs (.ref a) "dict" /\ wpAny (model X.prog X.w) X.A (getItem (.ref a) u) Q E s:=by
 obtain⟨m,rel,f⟩:=B;have f:s.heap.DictOf (yV X.prog X.w) a m:=f.at λo e=>I.bk a o e;obtain⟨d,z,g⟩:=jm.some_of (v:=v) (o:=valueAt m k) (by rw[<- l]; rwa[rel.val k]);rwa[f.typeIs,GP (kE r) f.mapOf z (h d _ (I.tok _) g)]
def YR(q:Uu X.prog X.w X.base a c)(n:X.mg x=O (.ref a))(hi:PE X i ty)(m:Sl i:=by exact λ_ _=>rfl)(o:Gl X x:=by rfl)(hd:(x ==("__debug__" : g8))=false:=by decide) :
  PE X (.Subscript (.Name x p) i pos) (tGet c ty):=by
 intro r s f H Q I h;erw[gQ C9.lookup m (yn I o n (thn (hi r s f H _ I h) λE D ⟨y,A,z,g,k,v,ey,l,j⟩=>?_) hd)];subst ey;rwa[Xj q z l g λB C u d=>⟨v,A,u,d,j⟩]
structure Sy(P:j7)(w:m9)(K:b9)(mg:g8->Option c6)(B:v8)(m:Nat)(kvs:List (Key×V))(k:Key)(sp:Sp):Prop where
 mk ::
 has:∃(x:g8)(f:c5)(n:Nat)(ps:List g8),vR kvs k=O (.ref f)/\mg x=O (.ref f)/\Has P w K mg B x n ps sp/\n<=m
def tTab(a:List (Key×Sp))(ty:TE)(t:TA):TE:=λc H Q=>ty c H λy h=>E2 λ(k:Key) (d:Sp)=>A3 (y=kV k) ((k,d)∈a) (t c h λf g=>d f g Q E0)
def Ud{m:Nat}{c:List (Key×Sp)}(T:Uu X.prog X.w X.base a g)(P:X.mg x=O (.ref a))(Z:∀ r∈c,Sy X.prog X.w X.K X.mg X.base m g r.1 r.2)(M:qZ m X.A)(hi:PE X i ty)(Y:PA X (e::es) t)
  (L:Sl i:=by rwa[λ_ _=>rfl]) (R:Gl X x:=by rfl) (hd:(x ==("__debug__" : g8))=false:=by decide)
  (S:starEach (e::es) X.env=(IU,eval e X.env)::starEach es X.env:=by rfl) (q:(backTo pos (starEach es X.env)).any (·.1)=false:=by rfl)
  (u:eval (.Call (.Subscript (.Name x p) i o) (e::es) [] pos) X.env=(do callWith pos (<- eval (.Subscript (.Name x p) i o) X.env) [] (backTo pos (starEach (e::es) X.env)) (backToKw pos (keywordEach [] X.env))):=by rfl) :
  PE X (.Call (.Subscript (.Name x p) i o) (e::es) [] pos) (tTab c ty t):=by
 intro z s v H Q I h;erw[Call_ (gQ C9.lookup L (yn I R P (thn (hi z s v H _ I h) λiv s2 ⟨y,H2,I2,D,k,sp,ey,mem,G⟩=>?_) hd)) u];subst ey;obtain⟨x',f,n,ps,l,J,⟨f',fd,F,b,kp,d⟩,N⟩:=(Z _ mem).has;rw[J] at d;cases d;erw[Xj T I2 l D λw' C I3 j=>?_];cases j;erw[Dk (h₀:=X.base) I.ok.mod.kin kp (thn (Y pos z C v H2 _ I3 G) λus s4 ⟨vs,H4,B,r,E⟩=>⟨B.kIn,?_⟩) S q];rwa[iL (dvs:=[]) (ds:=[]) F (M.mono N) b .nil de B r (by rw[Cf]; exact E)]
end
def wx:bootBuiltins "dict" = O (.type "dict"):=by ac_nf
section
variable{X:Cx}
def rQ:uN X (.type "dict") (λd H Q=>E2 λ(a:c5) (c:List (Key×V))=>A3 (d=[.ref a]) (Rd H a (.dK c)) (∀ p,H p=IS->Q (.ref p) (upd H p (.dK c)))):=by
 intro m s i H d j Q I r h;obtain⟨a,c,rfl,f,q⟩:=h;obtain⟨u,rfl,ru⟩:=mE r;cases ru;rwa[YW I f λp l e g=>⟨.ref p,_,g,rfl,q p e⟩]
def vb:uN X (.builtin "len") (λd H Q=>E2 λ(a:c5) (c:List (Key×V))=>A3 (d=[.ref a]) (Rd H a (.dK c)) (Q (.int c.length) H)):=by
 intro l s g H d i Q I r h;obtain⟨a,c,rfl,e,q⟩:=h;obtain⟨u,rfl,ru⟩:=mE r;cases ru;rwa[d_len I e λt j f=>⟨.int c.length,H,f,⟨t,rfl⟩,q⟩]
def ii : ∀{f:List CH}{a:List (Key×V)}{e:List (Key×c6)},KV a e->Pairs (yV P w) f e->yS (a.map λh=>kV h.1) (f.map (·.key))
 | _,_,_,.nil,.nil=>.nil
 | _,_,_,.cons ⟨g,_⟩ t,.cons i _ p=>by
  erw[.cons ?_ (ii t p)];dsimp only;rw[g];rcases yW i with ⟨j,t,d,c⟩ | ⟨x,t,d,c⟩
  ·rw[d,c]; rwa[t,rfl]
  ·rw[d,c]; rwa[t,rfl]
def vS(P:X.calm=IT):uN X (.type "list") (λC H Q=>E2 λ(d:c5) (f:List (Key×V))=>A3 (C=[.ref d]) (Rd H d (.dK f)) (∀ p,H p=IS->Q (.ref p) (upd H p (.lst (f.map λv=>kV v.1))))):=by
 intro IV s R H C T Q I r h;obtain⟨d,f,rfl,hd,q⟩:=h;obtain⟨u,rfl,ru⟩:=yS.one r;cases ru;obtain⟨G,x,S,rel,ob,n,m,g,ex,B,Z,M,Y⟩:=kH I.hok hd;have D:=ii rel M;have w:n.size=f.length:=by
  have z:=D.length;rw[ac,ac,Ap] at z;rwa[z.symm]
 refine GS (ap (rows:=n) (age:=m) x) (show X.A.handled=IS from I.ok.hd P) ⟨ob,g,ex,B⟩ (by rw[w]; exact G) λh' L l c keep at' i=>?_;have y:l.toList=n.toList.map (·.key):=by
  erw[CN λj=>?_];by_cases J:j<n.size
  ·have E:j<l.size:=by rw[i.1]; rwa[J]
   obtain⟨N,e⟩:=i.2 j l[j] (by simp[E]);rw[BA,x6 E,e,d7,BA,x6 J];rfl
  ·rw[AM (by rw[Ap,i.1]; lia),AM (by simp; lia)]
 erw[.ref s.heap.objs.size,_,I.laid (t':=L) (a:=s.heap.objs.size) (o:=.lst (f.map λv=>kV v.1)) keep (f6 _) ?_,rfl,q _ (I.hok.fresh (f6 _))];exists by rw[ac]; exact G,_,c,D;rw[<- y,FN];rwa[at']
end
end L2

namespace L2
def jh(x:g8):List V:=x.cps.toList.map λc=>.str ⟨#[c]⟩
section
variable{X:Cx}{tg l:An}{te:TE}
def Yr{K:b9}{tg:An}(x:g8)(t:IA)(f:c5):WS P w K tg (Itc (λ_=>True) (jh x)) [f] f (λi h=>h.IsStrIter f "str_ascii_iterator" x t i) where
 mem:=by simp
 obj:=λi h st b g=>by
  have e:b=f:=by simpa using g
  subst e;obtain⟨o,e,c,d⟩:=st;exact⟨o,e,λv z=>by rw[d] at z; cases z⟩
 keep:=λi h n ⟨o,N,r⟩ k=>⟨o,k f (by simp) o N,r⟩
 item:=by
  intro X q p u J i L s G H E I m st ⟨_,hi⟩;subst q p u;have a:i<x.cps.size:=by unfold jh at hi; rw[ac,Ap] at hi; rwa[hi]
  obtain⟨D,C,Q,B,A,y⟩:=m f (by simp);erw[wpAny_pyNext_ascii_item st (c:=x.cps[i]) (x6 a) λn j M=>?_];have T:Inv X L G H { s with heap:=n,toks:=s.toks+1 }:=I.turned (t':=s.toks+1) (λb o g e=>(M.2 b g).trans e) D C B A y;obtain⟨o,e,c,S⟩:=id j;exact⟨_,U,ZA (s:={ s with heap:=n,toks:=s.toks+1 }) e c S (by decide) ⟨.str ⟨#[x.cps[i]]⟩,H,T,⟨_,U⟩,⟨U,by unfold jh; rw[d7,BA,x6 a]; rfl⟩,j,λb g=>(m b g).1⟩⟩
 done:=by
  intro X q p u J i L s G H E I m st ⟨_,hi⟩;subst q p u;have a:x.cps.size<=i:=by unfold jh at hi; rw[ac,Ap] at hi; rwa[hi]
  obtain⟨D,C,Q,B,A,y⟩:=m f (by simp);rwa[wpAny_pyNext_ascii_end (I.ok.hd J) st (AY a) λn R=>⟨rfl,I.turned (t':=s.toks) (λb o g e=>R b o g e) D C B A y⟩]
 self:=λ_ _ _ _ _ st h=>wpAny_pyIter_striter_ascii st h
def iStr(te:TE):TI:=λa H R=>te a H λv c=>∃ x:g8,A3 (v=.str x) (x.cps.all (· < 128)=IT) (R (Itc (λ_=>True) (jh x)) c)
def UJ(g:PE X l te):PI X tg l (iStr te):=by
 intro m s d H R I h;erw[thn (g m s d H _ I h) λv a ⟨y,n,c,f,x,e,j,q⟩=>?_];subst e;obtain⟨t,rfl⟩:=f;erw[wpAny_pyIter_ascii j ?_];erw[a.heap.objs.size,[a.heap.objs.size],_,_,n,rfl,c.kept (t':=a.toks) λb o e=>c8 _ e,Yr x t _,⟨_,f9 _ rfl,rfl,rfl⟩,λb i=>?_,q];have e:b=a.heap.objs.size:=by simpa using i
 subst e;rwa[c.fpOk (f6 _) (c.hok.fresh (f6 _))]
def jf:OpR X (compareOp .LtE) (λx y H Q=>E2 λi j=>A3 (x=.str i) (y=.str j) (Q (.bl (!decide (j.cps.toList<i.cps.toList))) H)):=by
 intro f s d H x y v u Q I c a h;obtain⟨i,j,rfl,rfl,q⟩:=h;obtain⟨t,rfl⟩:=c;obtain⟨e,rfl⟩:=a;rwa[PySem.P.le_str (yP I q rfl)]
def XB:SlR X (λx lo hi H Q=>∃ z:g8,x=.str z/\z.length<=sizeLine/\Q (.str (C5 z lo hi)) H):=by
 intro n s g H x v E D lo hi G Q I r A w m h;obtain⟨z,rfl,y,q⟩:=h;obtain⟨t,rfl⟩:=r;have a:∀(l u:Option (Int×IA)),l.map (·.1)=lo->u.map (·.1)=hi->(sliceMade z t l u IS).post (EP X n g Q) s:=λl u C B=>by
  subst C B;rwa[post_val_or_str (t:=t) (s:=s) (Q:=EP X n g Q) ⟨f8 (Fi z _ _) y,λp k=>⟨.str (C5 z _ _),H,I.tok k,⟨p,rfl⟩,q⟩⟩]
 exists "str",_,F.slot_str_getitem.lookup,typeIs_str _ _ _;obtain⟨o,e,f,hd⟩:=A;cases w with
 | none =>
  cases m with
  | none=>rwa[Cw (l:=IS) (u:=IS) (st:=IS) ⟨o,e,f,hd⟩ rfl (a IS IS rfl rfl)]
  | int j c=>rwa[Cw (l:=IS) (u:=O (j,c)) (st:=IS) ⟨o,e,f,hd⟩ rfl (a IS (O (j,c)) rfl rfl)]
 | int i d =>
  cases m with
  | none=>rwa[Cw (l:=O (i,d)) (u:=IS) (st:=IS) ⟨o,e,f,hd⟩ rfl (a (O (i,d)) IS rfl rfl)]
  | int j c=>rwa[Cw (l:=O (i,d)) (u:=O (j,c)) (st:=IS) ⟨o,e,f,hd⟩ rfl (a (O (i,d)) (O (j,c)) rfl rfl)]
def jk:∀{a:List g8}{c:List c6},yS (a.map V.str) c->∃ l:List (g8×IA),c=strValues l/\l.map (·.1)=a
 | [],_,.nil=>⟨[],rfl,rfl⟩
 | x::a,_,.cons ⟨t,e⟩ r=>by
  obtain⟨l,f,d⟩:=jk r;subst e;rwa[(x,t)::l,by rw[f]; rfl,by rw[g9,d]]
def aV(a:g8):∀ c:List g8,(EW a c).length<=(c.map (·.length)).sum+c.length*a.length
 | []=>Aa _
 | [y]=>by
  show y.length<=_;simp
 | y::z::l=>by
  have d:=aV a (z::l);have e:(EW a (y::z::l)).length=y.length+a.length+(EW a (z::l)).length:=by
   show(y++a++EW a (z::l)).length=_;rw[strLen_append,strLen_append]
  rw[e];simp only[g9,FZ,n9,Nat.succ_mul] at d ⊢;lia
def oo(a:g8)(c:List g8):Nat:=(c.map (·.length)).sum+c.length*a.length
def Wh:MtR X "str.join" (λx i H Q=>∃(c:g8)(a:c5)(f:List g8),x=.str c/\i=[.ref a]/\SqL X.K H a (f.map V.str)/\oo c f<=sizeLine/\Q (.str (ED c f)) H):=by
 intro D s B H x i v C Q I m n h;obtain⟨c,a,f,rfl,rfl,A,g,q⟩:=h;obtain⟨t,rfl⟩:=m;obtain⟨u,rfl,ru⟩:=yS.one n;cases ru;obtain⟨o,r,p,_⟩:=I.list A;obtain⟨l,rfl,d⟩:=jk r;have w:Builtin.Str.tooLong ((l.map (·.1)).toArray.foldl (· + ·.length+c.length) 0)=false:=by
  rw[d,Ig];exact y9 (by unfold oo at g; lia)
 refine call_meets F.slot_str_join (typeIs_str _ _ _) F.entry_str_join (F.args_str_join_2 _ _) (meets_str_join_list c t a l w) ⟨p.isList,?_⟩;have j:∀ e:List g8,(ED c e).length<=oo c e:=λe=>by
  rw[D5];rwa[aV c e]
 match l,d with
 | [],d =>
  subst d;rwa[f8 (j []) g,⟨.str _,H,I.tok _,⟨_,rfl⟩,q⟩]
 | [y],d =>
  subst d;rwa[.str y.1,H,I,⟨y.2,rfl⟩,q]
 | y::z::l,d =>
  subst d;rwa[f8 (j _) g,⟨.str _,H,I.tok _,⟨_,rfl⟩,q⟩]
end
end L2

namespace Sea
inductive Dt where
 | int (i:Int)
 | str (x:g8)
 | tup (l:List Dt)
mutual
def Rep(H:Hp):Dt->V->Prop
 | .int i,v=>v=.int i
 | .str x,v=>v=.str x
 | .tup l,v=>∃(a:c5)(c:List V),v=.ref a/\H a=O (.tup c)/\xS H l c
def xS(H:Hp):List Dt->List V->Prop
 | [],a=>a=[]
 | d::l,a=>∃(x:V)(r:List V),a=x::r/\Rep H d x/\xS H l r
end
def vV(φ:c5->Prop)(H c:Hp):Prop:=∀ b o,¬ φ b->H b=O o->c b=O o\/∃(ob:BD)(a:List (Key×V)),o=.dK a/\c b=O (.frz ob (.dK a))
abbrev Sam(H a:Hp):Prop:=vV (λ_=>False) H a
section
variable{φ ψ:c5->Prop}{H H1 H2:Hp}{a:c5}{xs:List V}
def vV.of(s:Same H H1):vV φ H H1:=λb o _ e=>.inl (s b o e)
def vV.refl(H:Hp):vV φ H H:=λ_ _ _ e=>.inl e
def vV.trans(s:vV φ H H1)(t:vV φ H1 H2):vV φ H H2:=λb o n e=>by
 rcases s b o n e with d | ⟨ob,c,g,d⟩
 ·rwa[t b o n d]
 ·subst g;rcases t b _ n d with f | ⟨_,_,z,_⟩
  ·rwa[.inr ⟨ob,c,rfl,f⟩]
  ·cases z
def vV.wider(s:vV φ H H1)(h:∀ b,φ b->ψ b):vV ψ H H1:=λb o n e=>s b o (λz=>n (h b z)) e
def vV.lst(s:vV φ H H1)(n:¬ φ a)(e:H a=O (.lst xs)):H1 a=O (.lst xs):=by
 rcases s a _ n e with z | ⟨_,_,z,_⟩
 ·rwa[z]
 ·cases z
def vV.tup(s:vV φ H H1)(n:¬ φ a)(e:H a=O (.tup xs)):H1 a=O (.tup xs):=by
 rcases s a _ n e with z | ⟨_,_,z,_⟩
 ·rwa[z]
 ·cases z
def vV.ins(s:vV φ H H1)(n:¬ φ a){C c:c5}{fs:List (g8×V)}(e:H a=O (.ins C c fs)):H1 a=O (.ins C c fs):=by
 rcases s a _ n e with z | ⟨_,_,z,_⟩
 ·rwa[z]
 ·cases z
def vV.rd(s:vV φ H H1)(n:¬ φ a)(e:Rd H a (.dK c)):Rd H1 a (.dK c):=by
 rcases e with e | ⟨ob,e⟩
 ·rcases s a _ n e with z | ⟨ob,d,z,w⟩
  ·rwa[.inl z]
  ·cases z;rwa[.inr ⟨ob,w⟩]
 ·rcases s a _ n e with z | ⟨_,_,z,_⟩
  ·rwa[.inr ⟨ob,z⟩]
  ·cases z
end
mutual
def Rep.sam{f:c5->Prop}{H i:Hp}(s:vV f H i)(g:∀ b c,H b=O (.tup c)->¬ f b):∀{d:Dt}{v:V},Rep H d v->Rep i d v
 | .int _,_,h=>by rw[Rep] at h ⊢; rwa[h]
 | .str _,_,h=>by rw[Rep] at h ⊢; rwa[h]
 | .tup l,v,h=>by
  rw[Rep] at h ⊢;obtain⟨a,c,e,h1,h2⟩:=h;rwa[a,c,e,s.tup (g a c h1) h1,xS.sam s g h2]
def xS.sam{c:c5->Prop}{H g:Hp}(s:vV c H g)(f:∀ b a,H b=O (.tup a)->¬ c b):∀{l:List Dt}{a:List V},xS H l a->xS g l a
 | [],_,h=>by rw[xS] at h ⊢; rwa[h]
 | d::l,a,h=>by
  rw[xS] at h ⊢;obtain⟨x,r,e,h1,h2⟩:=h;rwa[x,r,e,Rep.sam s f h1,xS.sam s f h2]
end
section
variable{H H1:Hp}
def no_f{H:Hp} : ∀ b a,H b=O (.tup a)->¬ (λ_:c5=>False) b:=λ_ _ _ z=>z
def Rep.to(h:Rep H d v)(s:Sam H H1):Rep H1 d v:=h.sam s no_f
def xS.to(h:xS H l a)(s:Sam H H1):xS H1 l a:=h.sam s no_f
def yQ{i:Int} : Rep H (.int i) v↔v=.int i:=by rw[Rep]
def yG : Rep H (.str x) v↔v=.str x:=by rw[Rep]
def xG : Rep H (.tup l) v↔∃(a:c5)(c:List V),v=.ref a/\H a=O (.tup c)/\xS H l c:=by rw[Rep]
def yC : xS H [] a↔a=[]:=by rw[xS]
def zJ{d:Dt}{l:List Dt} : xS H (d::l) a↔∃(x:V)(r:List V),a=x::r/\Rep H d x/\xS H l r:=by rw[xS]
def xS.length:∀{l:List Dt}{a:List V},xS H l a->a.length=l.length
 | [],_,h=>by rw[yC.mp h]; rfl
 | d::l,_,h=>by
  obtain⟨x,r,e,_,h2⟩:=zJ.mp h;rw[e,n9,n9,xS.length h2]
def xS.at:∀{l:List Dt}{a:List V}{i:Nat}{d:Dt},xS H l a->l[i]?=O d->∃ x,a[i]?=O x/\Rep H d x
 | [],_,_,_,_,e=>by simp at e
 | d::l,_,0,_,h,e=>by
  obtain⟨x,r,ex,h1,_⟩:=zJ.mp h;simp at e;subst e;rwa[x,by rw[ex]; rfl,h1]
 | d::l,_,i+1,d',h,e=>by
  obtain⟨x,r,ex,_,h2⟩:=zJ.mp h;obtain⟨y,h3,h4⟩:=xS.at (i:=i) (d:=d') h2 (by simpa using e);exact⟨y,by rw[ex]; simpa using h3,h4⟩
def xS.back:∀{l:List Dt}{a:List V}{i:Nat}{x:V},xS H l a->a[i]?=O x->∃ d,l[i]?=O d/\Rep H d x
 | [],_,i,x,h,e=>by rw[yC.mp h] at e; simp at e
 | d::l,_,0,x,h,e=>by
  obtain⟨y,r,ex,h1,_⟩:=zJ.mp h;rw[ex] at e;simp at e;subst e;rwa[d,rfl,h1]
 | d::l,_,i+1,x,h,e=>by
  obtain⟨y,r,ex,_,h2⟩:=zJ.mp h;rw[ex] at e;obtain⟨d',h3,h4⟩:=xS.back (i:=i) (x:=x) h2 (by simpa using e);exact⟨d',by simpa using h3,h4⟩
def xS.app:∀{l m:List Dt}{c a:List V},xS H l c->xS H m a->xS H (l++m) (c++a)
 | [],_,_,_,h,k=>by rw[yC.mp h]; rwa[k]
 | d::l,_,_,_,h,k=>by
  obtain⟨x,r,e,h1,h2⟩:=zJ.mp h;rw[e];rwa[zJ.mpr ⟨x,_,rfl,h1,xS.app h2 k⟩]
def xS.one(h:Rep H d v):xS H [d] [v]:=zJ.mpr ⟨v,[],rfl,h,yC.mpr rfl⟩
def xS.two(h:Rep H d v)(k:Rep H e u):xS H [d,e] [v,u]:=zJ.mpr ⟨v,_,rfl,h,.one k⟩
end
structure xY(H:Hp)(kvs:List (Key×V))(es:List (Key×Dt)):Prop where
 keys:kvs.map (·.1)=es.map (·.1)
 vals:xS H (es.map (·.2)) (kvs.map (·.2))
def yy(H:Hp)(a:c5)(d:List (Key×Dt)):Prop:=∃ c,Rd H a (.dK c)/\xY H c d
def look(a:List (Key×Dt))(k:Key):Option Dt:=(a.find? λe=>decide (e.1=k)).map (·.2)
def Up(a:List (Key×Dt))(k:Key)(d:Dt):List (Key×Dt):=if a.any (λe=>decide (e.1=k)) then a.map λe=>if e.1=k then(e.1,d) else e else a++[(k,d)]
def jJ(a:List (Key×Dt))(k:Key):List (Key×Dt):=a.filter λe=>decide (e.1≠k)
def xY.nil{H:Hp} : xY H [] []:=⟨rfl,yC.mpr rfl⟩
def xY.cons_iff{H:Hp}{k:Key}{d:Dt}{c:List (Key×Dt)} : xY H a ((k,d)::c)↔∃(v:V)(r:List (Key×V)),a=(k,v)::r/\Rep H d v/\xY H r c:=by
 constructor
 ·rintro⟨h1,h2⟩;cases a with
  | nil=>simp at h1
  | cons p r =>
   obtain⟨l,v⟩:=p;simp only[g9,G7] at h1;obtain⟨i,h⟩:=h1;subst i;obtain⟨x,j,e,h3,h4⟩:=zJ.mp h2;simp only[g9,G7] at e;obtain⟨g,f⟩:=e;subst g f;rwa[v,r,rfl,h3,h,h4]
 ·rintro⟨v,r,rfl,h1,h2⟩;rwa[by simp[h2.keys],zJ.mpr ⟨v,_,rfl,h1,h2.vals⟩]
def xY.nil_iff{H:Hp}(h:xY H a []):a=[]:=by
 have:=h.keys;simpa using this
def xY.to{H d:Hp}(h:xY H a c)(s:Sam H d):xY d a c:=⟨h.keys,h.vals.to s⟩
def xY.sam{c:c5->Prop}{H e:Hp}(h:xY H a d)(s:vV c H e)(g:∀ b f,H b=O (.tup f)->¬ c b):xY e a d:=⟨h.keys,h.vals.sam s g⟩
def yy.to{H d:Hp}(h:yy H a c)(s:Sam H d):yy d a c:=let ⟨kvs,h1,h2⟩:=h;⟨kvs,s.rd id h1,h2.to s⟩
def xY.length{H:Hp}(h:xY H a c):a.length=c.length:=by
 have:=congrArg AH h.keys;simpa using this
def xY.get{H:Hp} : ∀{c:List (Key×Dt)}{a:List (Key×V)}{d:Dt},xY H a c->look c k=O d->∃ v,vR a k=O v/\Rep H d v
 | [],_,_,_,e=>by simp[look] at e
 | (f,d')::c,a,d,h,e=>by
  obtain⟨v,r,rfl,h1,h2⟩:=xY.cons_iff.mp h;by_cases z:f=k
  ·rw[wU z];simp only[look,Au,y8 z,Cg,EF] at e;subst e;rwa[v,rfl,h1]
  ·rw[wE z];erw[xY.get h2 ?_];simp only[look,Au,y9 z] at e;rwa[e]
def xY.none{H:Hp} : ∀{c:List (Key×Dt)}{a:List (Key×V)},xY H a c->look c k=IS->vR a k=IS
 | [],_,h,_=>by rw[h.nil_iff]; rfl
 | (d,d')::c,a,h,e=>by
  obtain⟨v,r,rfl,h1,h2⟩:=xY.cons_iff.mp h;by_cases z:d=k
  ·simp[look,Au,z] at e
  ·rw[wE z];erw[xY.none h2 ?_];simp only[look,Au,y9 z] at e;rwa[e]
def xY.isSome{H:Hp}(h:xY H a c):(vR a k).isSome=(look c k).isSome:=by
 cases e:look c k with
 | none=>rw[h.none e]; rfl
 | some d =>
  obtain⟨v,z,_⟩:=h.get e;rw[z];rfl
def xY.any{H:Hp}{k:Key} : ∀{c:List (Key×Dt)}{a:List (Key×V)},xY H a c->(a.any λe=>decide (e.1=k))=c.any λe=>decide (e.1=k)
 | [],_,h=>by rw[h.nil_iff]; rfl
 | (d,d')::c,a,h=>by
  obtain⟨v,r,rfl,h1,h2⟩:=xY.cons_iff.mp h;rw[Co,Co,xY.any h2]
def xY.rep{H:Hp}{k:Key}(c:Rep H d v):∀{f:List (Key×Dt)}{a:List (Key×V)},xY H a f->xY H (a.map λe=>if e.1=k then(e.1,v) else e) (f.map λe=>if e.1=k then(e.1,d) else e)
 | [],_,h=>by rw[h.nil_iff]; rwa[.nil]
 | (g,d')::f,a,h=>by
  obtain⟨u,r,rfl,h1,h2⟩:=xY.cons_iff.mp h;rw[g9,g9];by_cases z:g=k
  ·rw[y7 z,y7 z];rwa[xY.cons_iff.mpr ⟨v,_,rfl,c,xY.rep c h2⟩]
  ·rw[y6 z,y6 z];rwa[xY.cons_iff.mpr ⟨u,_,rfl,h1,xY.rep c h2⟩]
def xY.app{H:Hp}{k:Key}(e:Rep H d v):∀{c:List (Key×Dt)}{a:List (Key×V)},xY H a c->xY H (a++[(k,v)]) (c++[(k,d)])
 | [],_,h=>by rw[h.nil_iff]; rwa[xY.cons_iff.mpr ⟨v,[],rfl,e,.nil⟩]
 | (f,d')::c,a,h=>by
  obtain⟨u,r,rfl,h1,h2⟩:=xY.cons_iff.mp h;rwa[xY.cons_iff.mpr ⟨u,_,rfl,h1,xY.app e h2⟩]
def xY.put{H:Hp}(h:xY H a e)(c:Rep H d v):xY H (sC a k v) (Up e k d):=by
 unfold sC Up;rw[h.any];split
 ·rwa[h.rep c]
 ·rwa[h.app c]
def xY.drop{H:Hp} : ∀{c:List (Key×Dt)}{a:List (Key×V)},xY H a c->xY H (qo a k) (jJ c k)
 | [],_,h=>by rw[h.nil_iff]; rwa[.nil]
 | (d,d')::c,a,h=>by
  obtain⟨u,r,rfl,h1,h2⟩:=xY.cons_iff.mp h;unfold qo jJ;by_cases z:d=k
  ·rw[EX (by simp[z]),EX (by simp[z])];rwa[xY.drop h2]
  ·rw[EY (by simp[z]),EY (by simp[z])];rwa[xY.cons_iff.mpr ⟨u,_,rfl,h1,xY.drop h2⟩]
end Sea

namespace Sea
inductive Deed where
 | mark (n:g8) (x y:Int)
 | move (n:g8) (x y:Int)
 | unmark (n:g8)
 | bank (n:g8) (cs:List (Int×Int))
 | level (n:g8)
 | sail (x y:Int)
 | right (k x y:Int)
 | bearing (m:Int) (n:g8) (a b c d:Int)
 | range (m:Int) (l r:g8)
 | strike (k:Int)
def ptD(p:Int×Int):Dt:=.tup [.int p.1,.int p.2]
def Deed.dt:Deed->Dt
 | .mark n x y=>.tup [.str "mark",.str n,.int x,.int y]
 | .move n x y=>.tup [.str "move",.str n,.int x,.int y]
 | .unmark n=>.tup [.str "unmark",.str n]
 | .bank n e=>.tup [.str "bank",.str n,.tup (e.map ptD)]
 | .level n=>.tup [.str "level",.str n]
 | .sail x y=>.tup [.str "sail",.int x,.int y]
 | .right k x y=>.tup [.str "right",.int k,.int x,.int y]
 | .bearing m n a b c d=>.tup [.str "bearing",.int m,.str n,ptD (a,b),ptD (c,d)]
 | .range m l r=>.tup [.str "range",.int m,.str l,.str r]
 | .strike k=>.tup [.str "strike",.int k]
structure BS where
 marks:List (g8×Int×Int)
 banks:List (g8×List (Int×Int))
 runs:List (Int×Int)
 notes:List (Int×Deed)
 coming:Int
def BS.nil:BS:=⟨[],[],[],[],1⟩
def mkE(l:List (g8×Int×Int)):List (Key×Dt):=l.map λe=>(.inr e.1,ptD e.2)
def bkE(l:List (g8×List (Int×Int))):List (Key×Dt):=l.map λe=>(.inr e.1,.tup (e.2.map ptD))
def rnE(l:List (Int×Int)):List (Key×Dt):=l.zipIdx.map λe=>(.inl (e.2:Int),ptD e.1)
def ntE(l:List (Int×Deed)):List (Key×Dt):=l.map λe=>(.inl e.1,e.2.dt)
def stK(m b r n:c5)(k:Int):List (Key×V):=[(.inr "marks",.ref m),(.inr "banks",.ref b),(.inr "runs",.ref r),(.inr "notes",.ref n),(.inr "coming",.int k)]
structure StA(H:Hp)(d m b r n:c5)(S:BS):Prop where
 at_:Rd H d (.dK (stK m b r n S.coming))
 ma:yy H m (mkE S.marks)
 ba:yy H b (bkE S.banks)
 ru:yy H r (rnE S.runs)
 no:yy H n (ntE S.notes)
def eK(H:Hp)(d:c5)(S:BS):Prop:=∃ m b r n,StA H d m b r n S
def StA.to{H a:Hp}(h:StA H d m b r n S)(s:Sam H a):StA a d m b r n S:=⟨s.rd id h.at_,h.ma.to s,h.ba.to s,h.ru.to s,h.no.to s⟩
def eK.to{H a:Hp}(h:eK H d S)(s:Sam H a):eK a d S:=let ⟨m,b,r,n,q⟩:=h;⟨m,b,r,n,q.to s⟩
def zV(S:BS)(n:g8):Option (Int×Int):=(S.marks.find? λe=>decide (e.1=n)).map (·.2)
def um{S:BS} : look (mkE S.marks) (.inr n)=(zV S n).map ptD:=by
 unfold look mkE zV;rw[List.find?_map];have e:((λe:Key×Dt=>decide (e.1=Cs n)) ∘ λe:g8×Int×Int=>((Cs e.1,ptD e.2):Key×Dt))=λe=>decide (e.1=n):=by
  funext e
  simp
 rw[e];cases S.marks.find? λe=>decide (e.1=n) <;> rfl
structure Few(S:BS):Prop where
 ma:S.marks.length<=60
 ba:S.banks.length<=60
 ru:S.runs.length<=60
 no:S.notes.length<=60
def sI(x:g8):Prop:=1<=x.length/\x.length<=8/\∀ c∈x.cps.toList,97<=c/\c<=122
def vw(p:Int×Int):Prop:=-1000<=p.1/\p.1<=1000/\-1000<=p.2/\p.2<=1000
def wa(p:Int×Int):Prop:=p≠(0,0)/\-100<=p.1/\p.1<=100/\-100<=p.2/\p.2<=100
def aft(S:BS):Deed->BS
 | .mark n x y=>{ S with marks:=S.marks++[(n,x,y)] }
 | .move n x y=>{ S with marks:=S.marks.map λe=>if e.1=n then(e.1,x,y) else e }
 | .unmark n=>{ S with marks:=S.marks.filter λe=>decide (e.1≠n) }
 | .bank n f=>{ S with banks:=S.banks++[(n,f)] }
 | .level n=>{ S with banks:=S.banks.filter λe=>decide (e.1≠n) }
 | .sail x y=>{ S with runs:=S.runs++[(x,y)] }
 | .right k x y=>{ S with runs:=S.runs.set k.toNat (x,y) }
 | .bearing m n a b c d=>{ S with notes:=S.notes++[(S.coming,.bearing m n a b c d)],coming:=S.coming+1 }
 | .range m l r=>{ S with notes:=S.notes++[(S.coming,.range m l r)],coming:=S.coming+1 }
 | .strike k=>{ S with notes:=S.notes.filter λe=>decide (e.1≠k) }
def Vi(S:BS):Deed->Prop
 | .bearing _ _ _ _ _ _=>True
 | .range _ l r=>∃ p u,zV S l=O p/\zV S r=O u/\p≠u
 | _=>False
def fC(n:g8):Deed->Prop
 | .bearing _ k _ _ _ _=>k≠n
 | .range _ l r=>l≠n/\r≠n
 | _=>False
def isBk(a:List (Int×Int)):Bool:=isB (a.map λc=>(0,c))
def okD(S:BS):Deed->Prop
 | .mark n x y=>sI n/\zV S n=IS/\vw (x,y)/\S.marks.length<20
 | .move n x y=>(zV S n).isSome=IT/\vw (x,y)/\∀ e∈S.notes,Vi (aft S (.move n x y)) e.2
 | .unmark n=>(zV S n).isSome=IT/\∀ e∈S.notes,fC n e.2
 | .bank n f=>sI n/\n ∉ S.banks.map (·.1)/\(∀ c∈f,vw c)/\isBk f=IT/\S.banks.length<8
 | .level n=>n∈S.banks.map (·.1)
 | .sail x y=>vw (x,y)/\S.runs.length<12
 | .right k x y=>0<=k/\k<S.runs.length/\vw (x,y)
 | .bearing m n a b c d=>0<=m/\m<=S.runs.length/\(zV S n).isSome=IT/\wa (a,b)/\wa (c,d)/\0<a*d-b*c/\S.notes.length<24
 | .range m l r=>0<=m/\m<=S.runs.length/\(zV S l).isSome=IT/\(zV S r).isSome=IT/\zV S l≠zV S r/\S.notes.length<24
 | .strike k=>k∈S.notes.map (·.1)
def gq(S:BS):Prop:=∀ e∈S.notes,e.1<S.coming
def sM{es:List (Key×Dt)}{k:Key}(h:∀ e∈es,e.1≠k):Up es k d=es++[(k,d)]:=by
 unfold Up;rw[y6];intro z;obtain⟨e,a,q⟩:=C3.mp z;rwa[h e a (of_decide_eq_true q)]
def gC(l:List (g8×Int×Int))(n:g8)(x y:Int):mkE (l++[(n,x,y)])=mkE l++[(.inr n,ptD (x,y))]:=by
 unfold mkE;rw[e7];rfl
def WA(l:List (Int×Int))(x y:Int):rnE (l++[(x,y)])=rnE l++[(.inl (l.length:Int),ptD (x,y))]:=by
 unfold rnE;rw[List.zipIdx_append,e7];simp
def gG(l:List (Int×Deed))(k:Int)(D:Deed):ntE (l++[(k,D)])=ntE l++[(.inl k,D.dt)]:=by
 unfold ntE;rw[e7];rfl
def Xv : ∀ e∈rnE l,e.1≠.inl (l.length:Int):=λe c z=>by
 unfold rnE at c;obtain⟨q,f,rfl⟩:=g7.mp c;obtain⟨g,d⟩:=q;have:=List.snd_lt_of_mem_zipIdx f;have a:(Ci (d:Int):Key)=Ci (l.length:Int):=z;injection a with a
 simp at this;lia
def kO(h:gq S):∀ e∈ntE S.notes,e.1≠.inl S.coming:=λe c z=>by
 unfold ntE at c;obtain⟨q,d,rfl⟩:=g7.mp c;have:=h q d;have a:(Ci q.1:Key)=Ci S.coming:=z;injection a with a
 lia
def lX(h:zV S n=IS):∀ e∈mkE S.marks,e.1≠.inr n:=λe c z=>by
 unfold mkE at c;obtain⟨q,d,rfl⟩:=g7.mp c;have a:(Cs q.1:Key)=Cs n:=z;injection a with a
 unfold zV at h;rw[Dv,B7] at h;rwa[h q d (by simp[a])]
def ZB(a b c d e:V):rz [] [(.inr "marks",a),(.inr "banks",b),(.inr "runs",c),(.inr "notes",d),(.inr "coming",e)]=[(.inr "marks",a),(.inr "banks",b),(.inr "runs",c),(.inr "notes",d),(.inr "coming",e)]:=by symm
def ZE(a b c d e:V):rz [] [(.inr "marks",a),(.inr "banks",b),(.inr "runs",c),(.inr "notes",d),(.inr "next",e)]=[(.inr "marks",a),(.inr "banks",b),(.inr "runs",c),(.inr "notes",d),(.inr "next",e)]:=by symm
def qH{k:Int} : vR (stK m b r n k) (.inr "marks")=O (.ref m):=by symm
def ud{k:Int} : vR (stK m b r n k) (.inr "runs")=O (.ref r):=by symm
def vg{k:Int} : vR (stK m b r n k) (.inr "notes")=O (.ref n):=by symm
def nI{k:Int} : vR (stK m b r n k) (.inr "coming")=O (.int k):=by symm
def Zj{k:Int} : sC (stK m b r n k) (.inr "marks") (.ref c)=stK c b r n k:=by symm
def Yg{k:Int} : sC (stK m b r n k) (.inr "runs") (.ref c)=stK m b c n k:=by symm
def ij{k:Int} : sC (stK m b r n k) (.inr "notes") (.ref c)=stK m b r c k:=by symm
def ck{k j:Int} : sC (stK m b r n k) (.inr "coming") (.int j)=stK m b r n j:=by symm
def Rd.same{H c:Hp}(h:Rd H a u)(s:Same H c):Rd c a u:=h.imp (s _ _) λ⟨o,e⟩=>⟨o,s _ _ e⟩
def yy.nil{H:Hp}(h:H a=O (.dK [])):yy H a []:=⟨[],.inl h,.nil⟩
def si{H:Hp}(h:Rep H (ptD p) v):∃ a,v=.ref a/\H a=O (.tup [.int p.1,.int p.2]):=by
 obtain⟨a,c,e,h1,h2⟩:=xG.mp h;obtain⟨x,r,rfl,h3,h4⟩:=zJ.mp h2;obtain⟨y,d,rfl,h5,h6⟩:=zJ.mp h4;rw[yQ.mp h3,yQ.mp h5,yC.mp h6] at h1;rwa[a,e,h1]
def zv{H:Hp}{p:Int×Int}(h:H a=O (.tup [.int p.1,.int p.2])):Rep H (ptD p) (.ref a):=xG.mpr ⟨a,_,rfl,h,.two (yQ.mpr rfl) (yQ.mpr rfl)⟩
section
variable{H:Hp}{v:V}
def fu{x y:Int}(h:Rep H (Deed.mark n x y).dt v):∃ a,v=.ref a/\H a=O (.tup [.str "mark",.str n,.int x,.int y]):=by
 obtain⟨a,i,e,h1,h2⟩:=xG.mp h;obtain⟨_,_,rfl,g,h2⟩:=zJ.mp h2;obtain⟨_,_,rfl,f,h2⟩:=zJ.mp h2;obtain⟨_,_,rfl,d,h2⟩:=zJ.mp h2;obtain⟨_,_,rfl,c,h2⟩:=zJ.mp h2;rw[yG.mp g,yG.mp f,yQ.mp d,yQ.mp c,yC.mp h2] at h1;rwa[a,e,h1]
def ft{x y:Int}(h:Rep H (Deed.sail x y).dt v):∃ a,v=.ref a/\H a=O (.tup [.str "sail",.int x,.int y]):=by
 obtain⟨a,g,e,h1,h2⟩:=xG.mp h;obtain⟨_,_,rfl,f,h2⟩:=zJ.mp h2;obtain⟨_,_,rfl,d,h2⟩:=zJ.mp h2;obtain⟨_,_,rfl,c,h2⟩:=zJ.mp h2;rw[yG.mp f,yQ.mp d,yQ.mp c,yC.mp h2] at h1;rwa[a,e,h1]
def tK{m:Int}{a b c d:Int}(h:Rep H (Deed.bearing m n a b c d).dt v):∃ t p q,v=.ref t/\H t=O (.tup [.str "bearing",.int m,.str n,.ref p,.ref q])/\H p=O (.tup [.int a,.int b])/\H q=O (.tup [.int c,.int d]):=by
 obtain⟨t,u,e,h1,h2⟩:=xG.mp h;obtain⟨_,_,rfl,l,h3⟩:=zJ.mp h2;obtain⟨_,_,rfl,j,h4⟩:=zJ.mp h3;obtain⟨_,_,rfl,i,h5⟩:=zJ.mp h4;obtain⟨_,_,rfl,g,h6⟩:=zJ.mp h5;obtain⟨_,_,rfl,f,h7⟩:=zJ.mp h6;obtain⟨p,rfl,r⟩:=si g;obtain⟨q,rfl,o⟩:=si f;have s:=yC.mp h7;rw[yG.mp l,yQ.mp j,yG.mp i,s] at h1;rwa[t,p,q,e,h1,r,o]
def xy{m:Int}(h:Rep H (Deed.range m l r).dt v):∃ t,v=.ref t/\H t=O (.tup [.str "range",.int m,.str l,.str r]):=by
 obtain⟨t,g,e,h1,h2⟩:=xG.mp h;obtain⟨_,_,rfl,f,h2⟩:=zJ.mp h2;obtain⟨_,_,rfl,d,h2⟩:=zJ.mp h2;obtain⟨_,_,rfl,c,h2⟩:=zJ.mp h2;obtain⟨_,_,rfl,a,h2⟩:=zJ.mp h2;rw[yG.mp f,yQ.mp d,yG.mp c,yG.mp a,yC.mp h2] at h1;rwa[t,e,h1]
end
def oU{H:Hp}{k:Int}(h:Rep H (Deed.strike k).dt v):∃ t,v=.ref t/\H t=O (.tup [.str "strike",.int k]):=by
 obtain⟨t,d,e,h1,h2⟩:=xG.mp h;obtain⟨_,_,rfl,c,h2⟩:=zJ.mp h2;obtain⟨_,_,rfl,a,h2⟩:=zJ.mp h2;rw[yG.mp c,yQ.mp a,yC.mp h2] at h1;rwa[t,e,h1]
def fV(l:List (Int×Deed))(k:Int):jJ (ntE l) (.inl k)=ntE (l.filter λe=>decide (e.1≠k)):=by
 unfold jJ ntE;rw[Fs]
 congr 1
 erw[EG λe _=>?_];simp
def ju{l:List (Int×Deed)}{k:Int}(h:k∈l.map (·.1)):∃ d,look (ntE l) (.inl k)=O d:=by
 obtain⟨e,a,rfl⟩:=g7.mp h;unfold look;cases q:(ntE l).find? λx=>decide (x.1=Ci e.1) with
 | none =>
  have:=B7.mp q (.inl e.1,e.2.dt) (g7.mpr ⟨e,a,rfl⟩);simp at this
 | some x=>rwa[x.2,rfl]
def dr(c:Deed->Prop):Sp:=λe H Q _=>E4 λ(d:c5) (v:V) (S:BS) (D:Deed)=>A8 (e=[.ref d,v]) (c D) (eK H d S) (Rep H D.dt v) (okD S D) (Few S) (gq S) (∀(d':c5)(a:Hp),Sam H a->H d'=IS->eK a d' (aft S D)->Q (.ref d') a)
def StA.stKlen{k:Int} : (stK m b r n k).length<=100:=by show 5<=100; decide
def xY.le{H:Hp}(h:xY H a c){n:Nat}(d:c.length<=n):a.length<=n:=by rw[h.length]; rwa[d]
def jp(l:List (g8×Int×Int)):(mkE l).length=l.length:=by unfold mkE; rw[ac]
def lU(l:List (Int×Int)):(rnE l).length=l.length:=by unfold rnE; rw[ac,List.length_zipIdx]
def al(l:List (Int×Deed)):(ntE l).length=l.length:=by unfold ntE; rw[ac]
end Sea

namespace Sea
def bkF(d p l:c5):List (g8×V):=[("state",.ref d),("past",.ref p),("later",.ref l)]
def xz : (bkF d p l).lookup ("state" : g8)=O (.ref d):=by symm
def WI : (bkF d p l).lookup ("past" : g8)=O (.ref p):=by symm
def ig : pQ "state" (.ref c) (bkF d p l)=bkF c p l:=by symm
def iV : pQ "later" (.ref c) (bkF d p l)=bkF d p c:=by symm
def Wj : pQ "later" (.ref l) (pQ "past" (.ref p) (pQ "state" (.ref d) []))=bkF d p l:=by symm
def tY(H:Hp):List (Deed×BS)->List V->Prop
 | [],a=>a=[]
 | (D,S)::r,a=>∃(t d:c5)(v:V)(c:List V),a=.ref t::c/\H t=O (.tup [v,.ref d])/\Rep H D.dt v/\eK H d S/\tY H r c
structure BkA(C:c5)(H:Hp)(b p dx d l:c5)(ps ls:List V)(S:BS)(past later:List (Deed×BS)):Prop where
 ob:H b=O (.ins C dx (bkF d p l))
 st:eK H d S
 pa:H p=O (.lst ps)
 la:H l=O (.lst ls)
 pp:tY H past ps
 ll:tY H later ls
 ne:l≠p
def qk(C:c5)(H:Hp)(b p:c5)(S:BS)(past later:List (Deed×BS)):Prop:=∃ e d l a c,BkA C H b p e d l a c S past later
section
variable{φ:c5->Prop}{H H1:Hp}
def yy.samE(h:yy H a d)(s:vV φ H H1)(nd:∀ a c,Rd H a (.dK c)->¬ φ a)(f:∀ a e,H a=O (.tup e)->¬ φ a):yy H1 a d:=let ⟨c,h1,h2⟩:=h;⟨c,s.rd (nd _ _ h1) h1,h2.sam s f⟩
def eK.samE(h:eK H d S)(s:vV φ H H1)(nd:∀ a e,Rd H a (.dK e)->¬ φ a)(c:∀ a f,H a=O (.tup f)->¬ φ a):eK H1 d S :=
 let ⟨m,b,r,n,q⟩:=h;⟨m,b,r,n,s.rd (nd _ _ q.at_) q.at_,q.ma.samE s nd c,q.ba.samE s nd c,q.ru.samE s nd c,q.no.samE s nd c⟩
def tY.samE(s:vV φ H H1)(nd:∀ a g,Rd H a (.dK g)->¬ φ a)(f:∀ a c,H a=O (.tup c)->¬ φ a):∀{l:List (Deed×BS)}{c:List V},tY H l c->tY H1 l c
 | [],_,h=>h
 | (D,S)::r,c,h=>by
  obtain⟨t,d,v,i,e,h1,h2,h3,h4⟩:=h;rwa[t,d,v,i,e,s.tup (f _ _ h1) h1,h2.sam s f,h3.samE s nd f,tY.samE s nd f h4]
def tY.app{D:Deed}{v:V}(h1:H t=O (.tup [v,.ref d]))(h2:Rep H D.dt v)(h3:eK H d S):∀{l:List (Deed×BS)}{a:List V},tY H l a->tY H (l++[(D,S)]) (a++[.ref t])
 | [],a,h=>by
  have h:a=[]:=h;rw[h];rwa[t,d,v,[],rfl,h1,h2,h3,rfl]
 | (D',o)::r,a,h=>by
  obtain⟨f,d',c,n,e,m,j,i,g⟩:=h;rw[e];rwa[f,d',c,_,rfl,m,j,i,tY.app h1 h2 h3 g]
def tY.len:∀{l:List (Deed×BS)}{a:List V},tY H l a->a.length=l.length
 | [],a,h=>by have h:a=[]:=h; rw[h]; rfl
 | (D,S)::r,a,h=>by
  obtain⟨t,d,v,c,e,_,_,_,h4⟩:=h;rw[e,n9,n9,tY.len h4]
abbrev Bp(b p:c5):c5->Prop:=λx=>x=b\/x=p
def ZJ(e:H b=O (.ins C g fs))(d:H p=O (.lst f)):∀ a c,Rd H a (.dK c)->¬ Bp b p a:=λa c h z=>by
 rcases z with z | z <;> subst z <;> rcases h with h | ⟨o,h⟩
 ·rw[e] at h; cases h
 ·rw[e] at h; cases h
 ·rw[d] at h; cases h
 ·rw[d] at h; cases h
def YV(f:H b=O (.ins C g fs))(e:H p=O (.lst d)):∀ a c,H a=O (.tup c)->¬ Bp b p a:=λa c h z=>by
 rcases z with z | z <;> subst z
 ·rw[f] at h; cases h
 ·rw[e] at h; cases h
def BkA.to(k:BkA C H b p e d l a c S past later)(s:Sam H H1):BkA C H1 b p e d l a c S past later :=
 ⟨s.ins id k.ob,k.st.to s,s.lst id k.pa,s.lst id k.la,k.pp.samE s (λ_ _ _=>id) (λ_ _ _=>id),k.ll.samE s (λ_ _ _=>id) (λ_ _ _=>id),k.ne⟩
def qk.to(k:qk C H b p S past later)(s:Sam H H1):qk C H1 b p S past later:=let ⟨dx,d,l,ps,ls,q⟩:=k;⟨dx,d,l,ps,ls,q.to s⟩
def mH{m:g8}(h1:m ≠ "state")(h2:m ≠ "past")(h3:m ≠ "later"):(bkF d p l).lookup m=none:=by
 unfold bkF;rw[t6,x5.mpr h1,t6,x5.mpr h2,t6,x5.mpr h3];rfl
end
end Sea

namespace Sea
def abc:g8 := "abcdefghijklmnopqrstuvwxyz"
def Yi:abc.cps.toList=(AK 26).map (97 + ·):=by ac_nf
def XD{i:Int}(h0:0<=i)(h1:i<26):atI abc.cps.toList i=O (97+i.toNat):=by
 obtain⟨n,rfl⟩:=Bm h0;erw[tP ?_];rw[Yi,d7,List.getElem?_range (by lia)];rfl
def chS(c:Nat):g8:=⟨#[c]⟩
def txt(l:List Nat):g8:=⟨l.toArray⟩
def rY(l:List Nat):(txt l).length=l.length:=by
 show l.toArray.size=_;rwa[i5]
def WC(h:txt l=txt m):l=m:=by
 have:=congrArg (λx:g8=>x.cps.toList) h;simpa [txt] using this
def js(l m:List Nat):txt l++txt m=txt (l++m):=by
 show(⟨l.toArray++m.toArray⟩:g8)=⟨(l++m).toArray⟩;rw[List.append_toArray]
def cL:∀ l:List Nat,EW "" (l.map chS)=txt l
 | []=>rfl
 | [c]=>rfl
 | c::d::l=>by
  show chS c++("" : g8)++EW "" ((d::l).map chS)=_;rw[cL (d::l)];show txt [c]++txt []++txt (d::l)=_;rw[js,js];rfl
def YB(l:List Nat):ED "" (l.map chS)=txt l:=by
 rw[D5];rwa[cL l]
def dG(l:List Nat):oo "" (l.map chS)=l.length:=by
 unfold oo;rw[show("" : g8).length=0 from by decide,Nat.mul_zero,Nat.add_zero]
 induction l with
 | nil=>rfl
 | cons c l a =>
  rw[g9,g9,FZ,a,n9];show 1+l.length=_;lia
def dP(l:List Nat)(k:Nat)(h:k<=l.length):C5 (txt l) IS (O (k:Int))=txt (l.take k):=by
 have e:BR IS (O (k:Int)) 1 (txt l).length=AK k:=by
  unfold BR sliceRange;rw[rY];have g:¬ ((k:Int)<0):=by lia
  have c2:max 0 (min (k:Int) (l.length:Int))=k:=by lia
  simp only[g,if_false,show(1:Int)>0 by decide,if_true,c2];by_cases z:(0:Int)<k
  ·rw[y7 z];have f:(((k:Int)-0+1-1)/1).toNat=k:=by lia
   rw[f];erw[EZ (by simp) λi h1 h2=>?_];simp
  ·have d:k=0:=by lia
   subst d;simp
 unfold C5;rw[e,EH,rY];by_cases c:k=l.length
 ·rw[y7 (by simp[c]),Ax (by lia)]
 ·rw[y6 (by simp; rwa[c])];show(⟨_⟩:g8)=⟨_⟩
  congr 1
  congr 1
  refine CN λi=>?_;rw[Bj];have h2:(AK k).filterMap (λj=>(txt l).cps[j]?)=l.take k:=by
   have:∀ m,m<=l.length->(AK m).filterMap (λj=>(txt l).cps[j]?)=l.take m:=by
    intro m
    induction m with
    | zero=>intro _; simp
    | succ m a =>
     intro n;rw[G8,Fz,a (by lia),o6]
     congr 1
     rw[c9 (by lia)];simp[txt,Bu,show m<l.length by lia]
   rwa[this k h]
  rw[h2,Bj]
def dN(l:List Nat)(k:Nat)(h:k<=l.length):C5 (txt l) (O (k:Int)) IS=txt (l.drop k):=by
 have e:BR (O (k:Int)) IS 1 (txt l).length=(AK (l.length-k)).map (k + ·):=by
  unfold BR sliceRange;rw[rY];have g:¬ ((k:Int)<0):=by lia
  have c2:max 0 (min (k:Int) (l.length:Int))=k:=by lia
  simp only[g,if_false,show(1:Int)>0 by decide,if_true,c2];by_cases z:(k:Int)<l.length
  ·rw[y7 z];have f:(((l.length:Int)-k+1-1)/1).toNat=l.length-k:=by lia
   rw[f];erw[EZ (by simp) λi h1 h2=>?_];simp;lia
  ·have d:l.length-k=0:=by lia
   rw[y6 z,d];rfl
 unfold C5;rw[e,ac,EH,rY];by_cases c:k=0
 ·subst c;rw[y7 (by simp)];rfl
 ·by_cases n:l.length=0
  ·have:l=[]:=E1.mp n;subst this;rw[y7 (by simp)];rw[List.drop_nil]
  rw[y6 (by simp; lia)];show(⟨_⟩:g8)=⟨_⟩
  congr 1
  congr 1
  have:∀ m,m<=l.length-k->((AK m).map (k + ·)).filterMap (λj=>(txt l).cps[j]?)=(l.drop k).take m:=by
   intro m
   induction m with
   | zero=>intro _; simp
   | succ m a =>
    intro o;rw[G8,e7,Fz,a (by lia),o6]
    congr 1
    rw[Ei,c9 (by lia)];simp[txt,Bu,show k+m<l.length by lia]
  rw[this _ (f6 _),Ax (by simp)]
def Xy{l:List Nat}{p c:Nat}(h:p<l.length):l.take p++[c]++l.drop (p+1)=l.set p c:=by
 rw[List.set_eq_take_append_cons_drop,y7 h];simp
def ZF{l:List Nat}{p c:Nat}(h:p<l.length):C5 (txt l) IS (O (p:Int))++chS c++C5 (txt l) (O ((p:Int)+1)) IS=txt (l.set p c):=by
 rw[dP l p (by lia),show((p:Int)+1)=((p+1:Nat):Int) from rfl,dN l (p+1) (by lia)];show txt _++txt [c]++txt _=_;rw[js,js,Xy h]
def cA{l:List Nat}(h1:1<=l.length)(h8:l.length<=8)(h:∀ c∈l,97<=c/\c<=122):sI (txt l):=⟨by rw[rY]; exact h1,by rw[rY]; exact h8,λc a=>h c (by simpa [txt] using a)⟩
def Vc{l:List Nat}{p r:Nat}(f:p<l.length){ws:List g8}(i:ws.length<26):¬ ∀ j,j<26->txt (l.set p (97+(r+j)%26))∈ws:=λh=>by
 have nd:((AK 26).map λj=>txt (l.set p (97+(r+j)%26))).Nodup:=by
  erw[B8.mpr (Dw.mpr ?_)];erw[ER ?_ (B8.mp List.nodup_range)];intro a b d c ne z;have d:=Cv.mp d;have c:=Cv.mp c;have z:=WC z;have z:=congrArg (λm:List Nat=>m[p]?) z;simp only[Dp f,EF] at z;lia
 have:=nd.length_le_of_subset (l₂:=ws) λx e=>by
  obtain⟨j,g,rfl⟩:=g7.mp e;rwa[h j (Cv.mp g)]
 rw[ac,EH] at this;lia
def VD(x y:g8):eqV (.str x) (.str y)=decide (x=y):=by
 unfold eqV
 first
  | rfl
  | simp
  | (by_cases h:x=y <;> simp[h])
def WB(x:g8)(ns:List g8):inV (.str x) (ns.map V.str)=decide (x∈ns):=by
 unfold inV
 induction ns with
 | nil=>simp
 | cons y ns a =>
  rw[g9,Co,a,VD];by_cases h:x=y
  ·subst h; simp
  ·simp[h,AW h]
def cM(ns:List g8):(ns.map V.str).all lY=true:=by
 rw[Fj];rwa[AG.mpr λ_ _=>rfl]
end Sea

namespace Sea
def lwK(m b r n:c5)(k:Int):List (Key×V):=[(.inr "marks",.ref m),(.inr "banks",.ref b),(.inr "runs",.ref r),(.inr "notes",.ref n),(.inr "next",.int k)]
section
variable{m b r n c:c5}{k j:Int}
def vM:vR (lwK m b r n k) (.inr "marks")=O (.ref m):=by symm
def kB:vR (lwK m b r n k) (.inr "banks")=O (.ref b):=by symm
def ub:vR (lwK m b r n k) (.inr "runs")=O (.ref r):=by symm
def sY:vR (lwK m b r n k) (.inr "notes")=O (.ref n):=by symm
def oj:vR (lwK m b r n k) (.inr "next")=O (.int k):=by symm
def pY:sC (lwK m b r n k) (.inr "next") (.int j)=lwK m b r n j:=by symm
end
structure LwA(H:Hp)(d m b r n:c5)(S:BS):Prop where
 at_:Rd H d (.dK (lwK m b r n S.coming))
 ma:yy H m (mkE S.marks)
 ba:yy H b (bkE S.banks)
 ru:∃ rs,H r=O (.lst rs)/\xS H (S.runs.map ptD) rs
 no:yy H n (ntE S.notes)
def Ze(H:Hp)(d:c5)(S:BS):Prop:=∃ m b r n,LwA H d m b r n S
section
variable{φ:c5->Prop}{H H1:Hp}{d m b r n:c5}{S:BS}
def LwA.samE(h:LwA H d m b r n S)(s:vV φ H H1)(nd:∀ a f,Rd H a (.dK f)->¬ φ a)(c:∀ a e,H a=O (.tup e)->¬ φ a)(g:∀ e,H r=O (.lst e)->¬ φ r):LwA H1 d m b r n S :=
 ⟨s.rd (nd _ _ h.at_) h.at_,h.ma.samE s nd c,h.ba.samE s nd c,let ⟨rs,h1,h2⟩:=h.ru;⟨rs,s.lst (g _ h1) h1,h2.sam s c⟩,h.no.samE s nd c⟩
def LwA.to(h:LwA H d m b r n S)(s:Sam H H1):LwA H1 d m b r n S:=h.samE s (λ_ _ _=>id) (λ_ _ _=>id) (λ_ _=>id)
def Ze.to(h:Ze H d S)(s:Sam H H1):Ze H1 d S:=let ⟨m,b,r,n,q⟩:=h;⟨m,b,r,n,q.to s⟩
def xS.drop:∀{l:List Dt}{a:List V}(k:Nat),xS H l a->xS H (l.drop k) (a.drop k)
 | _,_,0,h=>h
 | [],_,k+1,h=>by rw[yC.mp h]; rwa[yC.mpr rfl]
 | d::l,_,k+1,h=>by
  obtain⟨x,r,e,_,h2⟩:=zJ.mp h;rw[e];rwa[xS.drop k h2]
def xS.take:∀{l:List Dt}{a:List V}(k:Nat),xS H l a->xS H (l.take k) (a.take k)
 | _,_,0,h=>yC.mpr rfl
 | [],_,k+1,h=>by rw[yC.mp h]; rwa[yC.mpr rfl]
 | d::l,_,k+1,h=>by
  obtain⟨x,r,e,h1,h2⟩:=zJ.mp h;rw[e];rwa[zJ.mpr ⟨x,_,rfl,h1,xS.take k h2⟩]
def jx{f:List (Int×Int)}{i:Nat}(h:xS H (f.map ptD) c)(e:c[i]?=O x):∃(p:Int×Int)(a:c5),f[i]?=O p/\x=.ref a/\H a=O (.tup [.int p.1,.int p.2]):=by
 obtain⟨d,g,hd⟩:=h.back e;rw[d7,i8] at g;obtain⟨p,j,rfl⟩:=g;obtain⟨a,o,l⟩:=si hd;rwa[p,a,j,o,l]
end
def eF{a:List V}{i j:Nat}(c:j<=a.length)(hi:i<=a.length):vi a (O (i:Int)) (O (j:Int))=(a.drop i).take (j-i):=by
 unfold vi;rw[HT.sIx_nat,HT.sIx_nat,DR hi,DR c]
def qY(runs:List (Int×Int))(i j:Nat):List (Int×Int):=(runs.drop (min i j)).take (max i j-min i j)
def tW(i j:Nat):Int:=if j<i then -1 else 1
def uA(runs:List (Int×Int))(i j:Nat):Int×Int:=(tW i j*((qY runs i j).map (·.1)).sum,tW i j*((qY runs i j).map (·.2)).sum)
def wm(runs:List (Int×Int))(i j:Nat):(qY runs i j).length<=runs.length:=by
 unfold qY;rw[j3,Ad];lia
def ox:∀(l:List Int)(M:Nat),(∀ x∈l,x.natAbs<=M)->l.sum.natAbs<=l.length*M
 | [],_,_=>by simp
 | x::l,M,h=>by
  have c:=ox l M λy a=>h y (.tail _ a);have d:=h x (.head _);rw[FZ,n9,Nat.add_mul,Nat.one_mul];have:=EI x l.sum;lia
end Sea

namespace L2
def dB{ns:List g8} : ∀{a:List c6},yS (ns.map V.str) a->StrsAre a ns:=by
 induction ns with
 | nil=>intro a r; rw[DZ] at r; cases r; rwa[.nil]
 | cons n ns f =>
  intro a r;rw[g9] at r;cases r with
  | cons d c =>
   obtain⟨t,e⟩:=d;subst e;rwa[.cons n t (f c)]
def UU:∀{a:List c6}{ns:List g8},StrsAre a ns->yS (ns.map V.str) a
 | _,_,.nil=>.nil
 | _,_,.cons n t h=>.cons ⟨t,rfl⟩ (UU h)
section
variable{X:Cx}
def qt:uN X (.builtin "sorted") (λg H Q=>E2 λ(l:c5) (ns:List g8)=>A4 (g=[.ref l]) (SqL X.K H l (ns.map V.str)) (ns.length<64) (∀(p:c5)(c:List g8),H p=IS->c.Perm ns->sortedS c=IT->Q (.ref p) (upd H p (.lst (c.map V.str))))):=by
 intro C s z H g A Q I r h;obtain⟨l,ns,rfl,n,f,q⟩:=h;obtain⟨u,rfl,ru⟩:=yS.one r;cases ru;obtain⟨d,i,m,B⟩:=I.list n;have v:=i.length;rw[ac] at v;erw[sorted_strs (ss:=ns) m.isList (dB i) (by lia) λout c y j x=>?_];obtain⟨e,at'⟩:=sortedAll_at s.heap d out;have w:H (s.heap.objs.size+1)=none:=I.hok.fresh (Ck _);erw[.ref (s.heap.objs.size+1),_,I.laid (t':=s.toks) (a:=s.heap.objs.size+1) (o:=.lst (c.map V.str)) (λb ob q=>sortedAll_old q) (Ck _) ?_,rfl,q _ c w j x];refine⟨?_,out.toList,e,UU y,by simpa using at'⟩;rw[ac,j.length_eq];rwa[f8 (AV f) (by rw[sizeLine_eq]; decide)]
end
def jI(v d:c5)(h:v8):Prop:=h.IsItemsView v d
section
variable{X:Cx}{l:An}{te:TE}{apos pos:Dm}
def TD(te:TE):TE:=λe H Q=>te e H λx c=>E2 λ(d:c5) (a:List (Key×V))=>A3 (x=.ref d) (Rd c d (.dK a)) (∀ v,c v=IS->Q (.ref v) (upd c v (.ext (jI v d))))
def ZD(y:PE X l te)(g:attributeBase l "items" X.env (eval l X.env)=eval l X.env:=by rfl)(f:(apos.endLine == pos.line)=true:=by rfl):PE X (.Call (.Attribute l "items" apos) [] [] pos) (TD te):=by
 intro z s n H Q I h;erw[Gq (T := "dict") (id := "dict.items") g rfl f F.plainAttrs_dict Gr F.type_dict_items (thn (y z s n H _ I h) λv i ⟨x,B,m,r,d,u,e,hd,q⟩=>?_)];subst e;cases r;obtain⟨A,ns,p,rel,j⟩:=hd.ok m.hok;exists j.typeIs,j.mapOf.noDict;show wpAny _ _ (callWith pos (.builtin "dict.items") [.ref d] [] []) _ _ i;erw[method_meetsIn Gr F.entry_dict_items rfl (PySem.evalArgs_none ⟨rfl,j.typeIs,F.args_dict_items_1 _,_,meets_dict_items (yV X.prog X.w) d ns,⟨p,j⟩,?_⟩)];erw[.ref i.heap.objs.size,_,m.laid (t':=i.toks) (a:=i.heap.objs.size) (o:=.ext (jI i.heap.objs.size d)) (λb o e=>c8 _ e) (f6 _) ⟨⟨_,f9 _ rfl,rfl,rfl⟩,⟨_,f9 _ rfl⟩,λh1 h2 ⟨o,e,c⟩ k=>⟨o,k o e,c⟩⟩,rfl,q _ (m.hok.fresh (f6 _))]
end
def Inv.more{j:St}{H:Hp}(I:Inv X i j H s)(f:bO X i H a)(new:wC X.prog X.w (upd H a o) s.heap a o):Inv X i j (upd H a o) s:=by
 obtain⟨E,D,G,C,B,A⟩:=f;have d:∀{b:c5}{u:HO},H b=O u->upd H a o b=O u:=λ{b u} e=>by
  rw[zF (λz=>by rw[z,E] at e; cases e)];rwa[e]
 have g:∀{b:c5},b≠a->H b=IS->upd H a o b=none:=λ{b} n e=>by rw[zF n]; rwa[e]
 have lo:∀{b:c5}{u:BD},X.s₀.heap.get? b=O u->b ∉ X.ex->b≠a:=λ{b u} e h z=>by
  rcases C with q | q
  ·rwa[h (by rw[z]; exact q)]
  ·rwa[x4 (g6 e) (Nat.not_lt.mpr (by rw[z]; exact q))]
 refine⟨I.ok,I.os,I.bare,⟨I.base.keep,I.base.slot,λb u e n h=>g (lo e h) (I.base.free b u e n h),I.base.there,λb l e=>d (I.base.tups b l e),λb u v e=>d (I.base.frzs b u v e),
  λb y e=>let ⟨more,q⟩:=I.base.tbls b y e;⟨more,d q⟩⟩,I.loc,I.cell,g (AW D) I.free,λx c e=>g (B x c e) (I.freeC x c e),λp m=>?_,λb u e=>?_,I.len⟩
 ·obtain⟨h1,h2,h3⟩:=I.pin p m;rwa[h1,g (A p m) h2,h3]
 ·by_cases r:b=a
  ·subst r;rw[zA] at e;cases e;rwa[new]
  ·rw[zF r] at e;exact(I.hok b u e).stay (λc v _ q=>q) (λc q=>d q) λc l q=>d q
section
open PySem.W
variable{prog:j7}{w:m9}{A:Aq}{E:c6->d8->Prop}{s:d8}
def bG{a:Nat->Nat->(Bool->d8->Prop)->d8->Prop}{p:Array Nat}{Q:Nat->d8->Prop} : ∀(f m:Nat),(∀ i,m<=i->i<m+f->∀ C:Bool->d8->Prop,C IU s->a (p.getD i 0) (p.getD (i-1) 0) C s)->Q (m+f) s->(kas_asc p f m).kasWp a Q s
 | 0,m,_,h=>h
 | f+1,m,c,h=>by
  erw[c m (f6 _) (by lia) _ ?_];show(if IU=IT then KasT.ret m else kas_asc p f (m+1)).kasWp a Q s;rw[y6 (by simp)];exact bG f (m+1) (λi h1 h2=>c i (by lia) (by lia)) (by rw[show m+1+f=m+(f+1) by lia]; rwa[h])
def fg{c:Nat->Nat->(Bool->d8->Prop)->d8->Prop}{n:Nat}{Q:Array Nat->d8->Prop}(h1:1<=n)(d:∀ i,1<=i->i<n->∀ C:Bool->d8->Prop,C IU s->c i (i-1) C s)(h:Q (Af (AK n)) s) :
  (kas_sort n).kasWp c Q s:=by
 have g:∀{i:Nat},i<n->(Af (AK n)).getD i 0=i:=λ{i} hi=>by simp[hi]
 unfold kas_sort kas_count;rw[G9,G9];erw[bG (n-1) 1 (λi a b=>?_) ?_]
 ·rw[g (by lia),g (by lia)];rwa[d i a (by lia)]
 ·rw[show 1+(n-1)=n by lia,y7 (by simp)];show(if n<n then _ else KasT.ret (Af (AK n))).kasWp c Q s;rw[y6 (BE _)];rwa[h]
def qe{d:List c6}{n:Nat}{P:PySem.Fin->d8->Prop}(v:s.heap.get? a=O (seqObj "list" d.toArray n))(H:d.length<64)
  (M:∀ j:v8,(∀ b o,b≠a->s.heap.get? b=O o->j.get? b=O o)->2<=d.length->∃ l:SortKind,(∀ Q:SortKind->d8->Prop,Q l { s with heap:=j }->wpAny (model prog w) A (keyKind' d.toArray) Q E { s with heap:=j }) /\
   ∀ i,1<=i->i<d.length->∀ C:Bool->d8->Prop,C IU { s with heap:=j }->kas_ask prog w A l d i (i-1) C { s with heap:=j })
  (h:∀(j:v8)(c:Nat),(∀ b o,b≠a->s.heap.get? b=O o->j.get? b=O o)->j.get? a=O (seqObj "list" d.toArray c)->P (.done (.ret .none)) { s with heap:=j }) :
  wpAny (model prog w) A (Ch.«list.sort» ⟨[.ref a],[]⟩) P E s:=by
 have Z:a<s.heap.objs.size:=g6 v;obtain⟨J,r⟩:∃ J,(s.heap.update a (AL λ_=>(#[]:Array c6))).get? a=O (seqObj "list" #[] J):=⟨_,get?_update_seq v λ_=>#[]⟩;rw[list_sort_plain];refine b7 (listItems_at v rfl ?_);refine b7 (listUpdate_at v rfl ?_ (by rw[i5,sizeLine_eq]; lia) (Aa _));refine b7 (seqEpoch_at r rfl ?_);refine b7 (wpAny_newTuple ?_ (by show d.length<=_; rw[sizeLine_eq]; lia));refine b7 (F0 ?_ (Aa _));refine Bo ?_;have f:(((s.heap.update a (AL λ_=>#[])).push (seqObj "tuple" d.toArray 0)).push (seqObj "list" #[] 0)).get? a=O (seqObj "list" #[] J):=c8 _ (c8 _ r);have kp:∀ b o,b≠a->s.heap.get? b=O o->(((s.heap.update a (AL λ_=>#[])).push (seqObj "tuple" d.toArray 0)).push (seqObj "list" #[] 0)).get? b=O o:=λb o x e =>
  c8 _ (c8 _ ((Av _ _ (AW x)).trans e))
 have I:∀ c,(((((s.heap.update a (AL λ_=>#[])).push (seqObj "tuple" d.toArray 0)).push (seqObj "list" #[] 0)).update a (AL λ_=>d.toArray))).get? a=O (seqObj "list" d.toArray c)->P (.done (.ret .none)) { s with heap:=((((s.heap.update a (AL λ_=>#[])).push (seqObj "tuple" d.toArray 0)).push (seqObj "list" #[] 0)).update a (AL λ_=>d.toArray)) }:=λc e =>
  h _ c (λb o x q=>(Av _ _ (AW x)).trans (kp b o x q)) e
 obtain⟨c2,D⟩:∃ c2,(((((s.heap.update a (AL λ_=>#[])).push (seqObj "tuple" d.toArray 0)).push (seqObj "list" #[] 0)).update a (AL λ_=>d.toArray))).get? a=O (seqObj "list" d.toArray c2):=⟨_,get?_update_seq f λ_=>d.toArray⟩;have done:=I c2 D;show wpAny (model prog w) A _ P E { s with heap:=((s.heap.update a (AL λ_=>#[])).push (seqObj "tuple" d.toArray 0)).push (seqObj "list" #[] 0) };dsimp only;have z:d.toArray.size=d.length:=by simp
 by_cases h2:d.toArray.size<2
 ·rw[y7 h2,y7 h2];refine b7 (d9 ?_);rw[StateT.run_pure];refine b7 (d9 ?_);dsimp only;have em:(d.toArray.zip d.toArray).map (·.2)=d.toArray:=by
   apply GT.mp;simp;rwa[List.map_snd_zip (f6 _)]
  erw[b7 (seqEpoch_at f rfl ?_)];refine b7 (listUpdate_at f rfl ?_ (hsz2:=by rw[Array.size_map]; show(pairsOf d).size<=_; rw[pairsOf_size,sizeLine_eq]; lia));simp only[bne_self_eq_false,CA,if_false];erw[d9 ?_];show P _ { s with heap:=Heap.update _ a (AL λ_=>(d.toArray.zip d.toArray).map (·.2)) };rw[em];rwa[done]
 ·rw[y6 h2,y6 h2];have u:2<=d.length:=by lia
  obtain⟨l,y,B⟩:=M _ kp u;refine b7 (y _ ?_);refine b7 (Cm (kat_run (s:={ s with heap:=((s.heap.update a (AL λ_=>#[])).push (seqObj "tuple" d.toArray 0)).push (seqObj "list" #[] 0) }) (κ:=l) (ks:=d) (vs:=d)
   (G:=λp m=>p=Af (AK d.length)/\m={ s with heap:=((s.heap.update a (AL λ_=>#[])).push (seqObj "tuple" d.toArray 0)).push (seqObj "list" #[] 0) })
   (Q:=λg m=>(arrOf g).map (·.2)=d.toArray/\failedOf g=IS/\m={ s with heap:=((s.heap.update a (AL λ_=>#[])).push (seqObj "tuple" d.toArray 0)).push (seqObj "list" #[] 0) })
   rfl u H (λY g m a1 X T ⟨S,R⟩=>⟨?_,T,R⟩) (fg (by lia) B ⟨rfl,rfl⟩)) ?_ λ_ _ e=>e)
  ·rw[kat_snds rfl X,S];apply GT.mp;show(AK d.length).map (λi=>d.getD i Ao)=d;erw[EZ (by simp) λi h1 h3=>?_];simp at h1;simp[h1]
  rintro⟨⟨⟩,g⟩ m ⟨L,N,rfl⟩;dsimp only;erw[b7 (seqEpoch_at f rfl ?_)];erw[b7 (listUpdate_at f rfl ?_ (hsz2:=by rw[L,z,sizeLine_eq]; lia))];rw[N,L];simp only[bne_self_eq_false,CA,if_false];rwa[d9 done]
end
section
open PySem.W
variable{X:Cx}{IV:List (c5×BD)}{σ:St}{H:Hp}{s:d8}
def Inv.tuples{lo:c5} : ∀{as:List c5}{H:Hp}(c:List (List V)),Inv X IV σ H s->as.Pairwise (· < ·)->(∀ a∈as,bO X IV H a)->as.length=c.length->(∀(j:Nat)(a:c5)(d:List V),as[j]?=O a->c[j]?=O d->∀ D,wC X.prog X.w D s.heap a (.tup d)) ->
  ∃ f,Inv X IV σ f s/\Same H f/\(∀(j:Nat)(a:c5)(d:List V),as[j]?=O a->c[j]?=O d->f a=O (.tup d))/\∀ b,b ∉ as->f b=H b
 | [],H,[],I,_,_,_,_=>⟨H,I,Same.refl _,λj a d e=>by simp at e,λ_ _=>rfl⟩
 | [],_,_::_,_,_,_,h,_=>by simp at h
 | _::_,_,[],_,_,_,h,_=>by simp at h
 | a::as,H,d::c,I,v,r,h,q=>by
  have u:=r a (.head _);have g:=Ga.mp v;have C:=I.more (o:=.tup d) u (q 0 a d rfl rfl _);obtain⟨f,B,p,x,n2⟩:=Inv.tuples (lo:=lo) (as:=as) c C g.2 (λb i=>by
   obtain⟨A,y⟩:=r b (.tail _ i);rwa[by rw[zF (Cz (g.1 b i))]; exact A,y]) (by simpa using h) (λj b n m l=>q (j+1) b n (by simpa using m) (by simpa using l))
  erw[f,B,(zC u.1 _).trans p,λj b n m l=>?_,λb i=>?_]
  ·cases j with
   | zero =>
    simp at m l;subst m l;rwa[p _ _ zA]
   | succ j=>exact x j b n (by simpa using m) (by simpa using l)
  ·rw[n2 b (λz=>i (.tail _ z)),zF (λz=>i (by rw[z]; rwa[.head _]))]
def mO{h:v8} : ∀{as:List c5}{ns:List Int},as.length=ns.length->(∀(j:Nat)(a:c5)(n:Int),as[j]?=O a->ns[j]?=O n->∃ t x,h.get? a=O { cls:=.type "tuple",data:=.seq #[.int n t,x] }) ->
  ∃ fs,KatTups h (as.map j8) fs/\fs.length=ns.length/\∀ v∈fs,∃ n t,v=BH n t
 | [],[],_,_=>⟨[],.nil,rfl,λv c=>nomatch c⟩
 | [],_::_,d,_=>by simp at d
 | _::_,[],d,_=>by simp at d
 | a::as,n::ns,d,g=>by
  obtain⟨t,x,e⟩:=g 0 a n rfl rfl;obtain⟨fs,k,l,f⟩:=mO (as:=as) (ns:=ns) (by simpa using d) λj b m h1 h2=>g (j+1) b m (by simpa using h1) (by simpa using h2);erw[.int n t::fs,.cons e rfl rfl rfl k,by simp[l],λv c=>?_];rcases j4.mp c with rfl | c
  ·rwa[n,t,rfl]
  ·rwa[f v c]
def jg(hc:X.calm=IT):uN X (.builtin "sorted") (λxs H Q=>E3 λ(v d:c5) (f:List (Int×V))=>A6 (xs=[.ref v]) (H v=O (.ext (jI v d))) (Rd H d (.dK (f.map λe=>(.inl e.1,e.2)))) (f.length<64) ((f.map (·.1)).Pairwise (· < ·)) (∀(p:c5)(l:List c5)(H2:Hp),Same H H2->H p=IS->l.length=f.length->H2 p=O (.lst (l.map V.ref))->(∀(j:Nat)(a:c5)(e:Int×V),l[j]?=O a->f[j]?=O e->H a=IS/\H2 a=O (.tup [.int e.1,e.2]))->Q (.ref p) H2)):=by
 intro IV s σ H xs us Q I r h;obtain⟨v,d,f,rfl,hv,hd,h64,hr,q⟩:=h;obtain⟨u,rfl,ru⟩:=yS.one r;cases ru;obtain⟨hz,ns,R,rel,da⟩:=hd.ok I.hok;obtain⟨o,es,ep,e,c,dt,hk,hp,hn⟩:=da;have hl:R.length=f.length:=by rw[<- rel.length,ac]
 have dat:s.heap.DictAt (yV X.prog X.w) d R ep:=⟨o,es,e,c,dt,hk,hp,hn⟩;have N:s.heap.IsItemsView v d:=(show wC X.prog X.w H s.heap v (.ext (jI v d)) from I.hok v _ hv).1;have zb:f.length<=sizeLine:=by rw[sizeLine_eq]; lia
 have hh:X.A.in1.handled=none:=I.ok.hd hc;refine Er kind_sorted plain_sorted entry_sorted (args_sorted1 _) ?_;unfold Ch.«sorted»;refine b7 (m:=checkCount "sorted" 1 1 _) (d9 ?_);refine b7 (kdx_collect (knd:=yV X.prog X.w) (kvs:=R) (ep:=ep) hh N dat (by rw[hl]; exact zb) λD L l keep la G=>?_);refine b7 (F0 ?_ (by rw[ac,la,hl]; exact zb));have M:l.length=f.length:=la.trans hl;have at_:∀(j:Nat)(a:c5)(e:Int×V),l[j]?=O a->f[j]?=O e->∃ t x,xI e.2 x/\D.get? a=O { cls:=.type "tuple",data:=.seq #[.int e.1 t,x] }:=λj a e z B=>by
  obtain⟨key,k,x,J,E,g3⟩:=G.pairs j a z;obtain⟨u,hu,ru⟩:=KV.at (vs:=R) (i:=j) (k:=.inl e.1) (v:=e.2) rel (by rw[d7,B]; rfl);rw[hu] at J;cases J;have g2':gZ (Ci e.1) key=true:=E;rcases yW g2' with ⟨i,t,Y,P⟩ | ⟨y,t,Y,P⟩
  ·cases Y;rw[P] at g3;rwa[t,_,ru,g3]
  ·cases Y
 have S:(D.push (seqObj "list" (l.map j8).toArray 0)).get? D.objs.size=O (seqObj "list" (l.map j8).toArray 0):=f9 _ rfl;show wpAny _ _ _ _ _ { s with heap:=D.push (seqObj "list" (l.map j8).toArray 0),toks:=L };erw[b7 (Bo (Ar slot_list_sort ⟨_,S,rfl⟩ entry_list_sort ?body (args_list_sort _)))]
 case body =>
  refine qe (s:={ s with heap:=D.push (seqObj "list" (l.map j8).toArray 0),toks:=L }) S (by rw[ac,M]; rwa[h64]) (λh2 k2 two=>?_) λh2 c k2 P=>⟨_,rfl,d9 ⟨_,rfl,?_⟩⟩
  ·have Z:∀(j:Nat)(a:c5)(e:Int×V),l[j]?=O a->f[j]?=O e->∃ t x,xI e.2 x/\h2.get? a=O { cls:=.type "tuple",data:=.seq #[.int e.1 t,x] }:=λj a e z B=>by
    obtain⟨t,x,J,E⟩:=at_ j a e z B;rwa[t,x,J,k2 a _ (j9 (g6 E)) (c8 _ E)]
   have one:∀ j,j<f.length->∃(a:c5)(t:IA)(x:c6),(l.map j8)[j]?=O (.ref a)/\h2.get? a=O { cls:=.type "tuple",data:=.seq #[.int (f[j]?.getD (0,V.int 0)).1 t,x] }:=λj hj=>by
    have ej:f[j]?=O f[j]:=c9 hj;have ea:l[j]?=O l[j]:=c9 (by lia);obtain⟨t,x,_,g⟩:=Z j _ _ ea ej;rwa[l[j],t,x,by rw[d7,ea]; rfl,by rw[ej]; exact g]
   rw[ac,M] at two;erw[tuples' IT,λQ' hq=>?_,λi h1 hi C hC=>?_]
   ·obtain⟨fs,kt,fl,fi⟩:=mO (h:=h2) (ns:=f.map (·.1)) (as:=l) (by rw[ac,M]) λj a n z hn=>by
     rw[d7,i8] at hn;obtain⟨e,B,rfl⟩:=hn;obtain⟨t,x,_,g⟩:=Z j a e z B;rwa[t,x,g]
    exact kat_kind (T:=.type "int") kt (by rw[fl,ac]; lia) (λv hv=>let ⟨n,t,e⟩:=fi v hv; by rw[e]; rwa[.now]) (by decide) hq
   ·rw[ac,M] at hi;obtain⟨a,t,x,Y,J⟩:=one i hi;obtain⟨b,u,y,P,E⟩:=one (i-1) (by lia);unfold kas_ask;rw[Bs,Bs,Y,P];refine kat_lt J rfl E rfl (kat_cons (Gy ?_));have lt:(f[i-1]?.getD (0,V.int 0)).1<(f[i]?.getD (0,V.int 0)).1:=by
     rw[c9 hi,c9 (show i-1<f.length by lia)];have:=Da.mp hr (i-1) i (by rw[ac]; lia) (by rw[ac]; lia) (by lia);rw[DF,DF] at this;rwa[this]
    rw[show((f[i]?.getD (0,V.int 0)).1 ==(f[i-1]?.getD (0,V.int 0)).1)=IU from by
     rw[x5];lia]
    erw[kat_no (oneLt_int ?_)];rw[y9 (by lia)];rwa[hC]
  ·have kp:∀ b o,s.heap.get? b=O o->h2.get? b=O o:=λb o e=>k2 b o (j9 (g6 (keep b o e))) (c8 _ (keep b o e));have I2:Inv X IV σ H { s with heap:=h2,toks:=L }:=I.kept (t':=L) kp;have ab:∀ a∈l,s.heap.objs.size<=a:=λa z=>AV (G.above a z);have I1:Inv X IV σ H { s with heap:=D,toks:=L }:=I.kept (t':=L) keep;have fp:=I1.fpOk (H':=H) (f6 _) (I1.hok.fresh (f6 _));have I3:Inv X IV σ (upd H D.objs.size (.lst (l.map V.ref))) { s with heap:=h2,toks:=L }:=I2.more fp ⟨by rw[ac,M]; exact zb,l.map j8,c,nU l,P⟩;obtain⟨H3,I4,s3,g3,n3⟩:=I3.tuples (lo:=0) (f.map λe=>[V.int e.1,e.2]) G.rise (λa z=>by
    refine I.fpOk (ab a z) ?_;rw[zF (j9 (G.there z))];exact I.hok.fresh (ab a z)) (by rw[ac,M]) λj a xs z hx H'=>by
     rw[d7,i8] at hx;obtain⟨e,B,rfl⟩:=hx;obtain⟨t,x,J,E⟩:=at_ j a e z B;exact⟨by show 2<=sizeLine; rw[sizeLine_eq]; decide,[.int e.1 t,x],.cons ⟨t,rfl⟩ (.cons J .nil),_,k2 a _ (j9 (g6 E)) (c8 _ E),rfl,_,rfl⟩
   rwa[.ref D.objs.size,H3,I4,rfl,q D.objs.size l H3 ((zC fp.1 _).trans s3) fp.1 M (s3 _ _ zA) λj a e z B=>⟨I.hok.fresh (ab a (e9 z)),g3 j a _ z (by rw[d7,B]; rfl)⟩]
end
end L2

namespace Sea
section
variable{H H1:Hp}
def eh:∀{l:List (Int×Deed)}{a:List (Key×V)},xY H a (ntE l)->∃ c:List (Int×V),a=c.map (λe=>(.inl e.1,e.2))/\c.map (·.1)=l.map (·.1)/\xS H (l.map (·.2.dt)) (c.map (·.2))
 | [],_,h=>⟨[],h.nil_iff,rfl,yC.mpr rfl⟩
 | (n,D)::l,_,h=>by
  obtain⟨v,r,rfl,h1,h2⟩:=xY.cons_iff.mp h;obtain⟨c,rfl,e,h3⟩:=eh (l:=l) h2;rwa[(n,v)::c,rfl,by rw[g9,g9,e],zJ.mpr ⟨v,_,rfl,h1,h3⟩]
def kT:∀{l:List (g8×Int×Int)}{a:List (Key×V)},xY H a (mkE l)->a.map (λc=>kV c.1)=(l.map (·.1)).map V.str
 | [],_,h=>by rw[h.nil_iff]; rfl
 | (n,p)::l,_,h=>by
  obtain⟨v,r,rfl,h1,h2⟩:=xY.cons_iff.mp h;rw[g9,kT h2];rfl
structure Vr(H:Hp)(as:List c5)(l:List (Int×Deed)):Prop where
 len:as.length=l.length
 at_:∀(j:Nat)(a:c5)(e:Int×Deed),as[j]?=O a->l[j]?=O e->∃ v,H a=O (.tup [.int e.1,v])/\Rep H e.2.dt v
def Zw(S:BS):Prop:=(S.notes.map (·.1)).Pairwise (· < ·)
def yb(h:zV S n=O p):(n,p)∈S.marks:=by
 unfold zV at h;rw[i8] at h;obtain⟨e,h1,rfl⟩:=h;have h2:=List.find?_some h1;have a:e.1=n:=of_decide_eq_true h2;rw[<- a];rwa[List.mem_of_find?_eq_some h1]
def rG{S:BS}{n:g8}(h:n∈S.marks.map (·.1)):∃ p,zV S n=O p:=by
 obtain⟨e,h1,h2⟩:=g7.mp h;unfold zV;cases q:S.marks.find? λe=>decide (e.1=n) with
 | none=>rwa[x4 (B7.mp q e h1) (by simp[h2])]
 | some a=>rwa[a.2,rfl]
def tV{S:BS}(h:yy H m (mkE S.marks))(e:zV S n=O p):∃(c:List (Key×V))(a:c5),Rd H m (.dK c)/\vR c (.inr n)=O (.ref a)/\H a=O (.tup [.int p.1,.int p.2]):=by
 obtain⟨c,h1,h2⟩:=h;obtain⟨v,g,r⟩:=h2.get (k:=.inr n) (d:=ptD p) (by rw[um,e]; rfl);obtain⟨a,rfl,f⟩:=si r;rwa[c,a,h1,g,f]
def Zv:∀{l:List (Int×Int)}{k i:Nat}{p:Int×Int},l[i]?=O p->look ((l.zipIdx k).map λe=>((.inl (e.2:Int):Key),ptD e.1)) (.inl ((k+i:Nat):Int))=O (ptD p)
 | [],_,_,_,e=>by simp at e
 | q::l,k,0,p,e=>by
  simp at e;subst e;simp[look,DC]
 | q::l,k,i+1,p,e=>by
  have a:=Zv (l:=l) (k:=k+1) (i:=i) (p:=p) (by simpa using e);rw[DC,g9];unfold look at a ⊢;rw[Au,y9 (by intro z; injection z with z; simp at z; lia)];rw[show k+1+i=k+(i+1) by lia] at a;rwa[a]
def ZC{S:BS}{i:Nat}(h:yy H r (rnE S.runs))(e:S.runs[i]?=O p):∃(c:List (Key×V))(a:c5),Rd H r (.dK c)/\vR c (.inl (i:Int))=O (.ref a)/\H a=O (.tup [.int p.1,.int p.2]):=by
 obtain⟨c,h1,h2⟩:=h;have:=Zv (k:=0) e;rw[Nat.zero_add] at this;obtain⟨v,g,r⟩:=h2.get (k:=.inl (i:Int)) (d:=ptD p) this;obtain⟨a,rfl,f⟩:=si r;rwa[c,a,h1,g,f]
end
section
variable{H H1:Hp}{S:BS}
structure yr(H:Hp)(S:BS)(as:List c5)(ms:List g8):Prop where
 mk ::
 len:as.length=ms.length
 at_:∀(j:Nat)(a:c5)(n:g8),as[j]?=O a->ms[j]?=O n->∃ p:Int×Int,zV S n=O p/\H a=O (.tup [.str n,.int p.1,.int p.2])
def yr.samE{c:c5->Prop}(h:yr H S e d)(s:vV c H H1)(g:∀ a f,H a=O (.tup f)->¬ c a):yr H1 S e d :=
 ⟨h.len,λj a n l i=>let ⟨p,h1,h2⟩:=h.at_ j a n l i;⟨p,h1,s.tup (g _ _ h2) h2⟩⟩
def yr.app(h:yr H S f g)(h1:zV S n=O p)(h2:H a=O (.tup [.str n,.int p.1,.int p.2])):yr H S (f++[a]) (g++[n]) :=
 ⟨by rw[f7,f7,h.len]; rfl,λj b m c d=>by
  rcases Gs j f.length with z | z
  ·rw[Ag z] at c;rw[Ag (by rw[<- h.len]; rwa[z])] at d;rwa[h.at_ j b m c d]
  ·rw[t9 z] at c;rw[t9 (by rw[<- h.len]; rwa[z]),<- h.len] at d;have e:j-f.length=0:=by have:=(c7.mp c).1; simp at this; lia
   rw[e] at c d;simp at c d;subst c d;rwa[p,h1,h2]⟩
def wk(H:Hp)(d:c5)(S:BS):Prop:=∃ c,Rd H d (.dK c)/\∀ n p,zV S n=O p->∃ a,vR c (.inr n)=O (.ref a)/\H a=O (.tup [.int p.1,.int p.2])
def wk.to(h:wk H d S)(s:Sam H H1):wk H1 d S:=let ⟨kvs,h1,h2⟩:=h;⟨kvs,s.rd id h1,λn p e=>let ⟨a,h3,h4⟩:=h2 n p e;⟨a,h3,s.tup id h4⟩⟩
def xZ(c:H D=O u):vV (λx=>x=D) H (upd H D o):=λx o a e=>.inl (by rw[zF a]; rwa[e])
def uF(d:H D=O (.lst c)):∀ b a,H b=O (.tup a)->¬ b=D:=λb a e z=>by rw[z,d] at e; cases e
end
def VA{i j:Nat}{a:St}{G:V->Hp->Prop}{H:Hp}(h:G (.int (tW i j)) H):if decide ((i:Int)<=j)=IT then tC (.int 1) a H G else tUn (rU λi=>V.int (-i)) (tC (.int 1)) a H G:=by
 erw[ifD (λz=>?_) (λz=>?_)]
 ·have:tW i j=1:=by unfold tW; rw[y6 (by lia)]
  rw[this] at h;rwa[h]
 ·have:tW i j = -1:=by unfold tW; rw[y7 (by lia)]
  rw[this] at h;rwa[_,rfl,h]
end Sea

namespace Sea
structure yI(H:Hp)(as:List c5)(rows:List (List Int)):Prop where
 mk ::
 len:as.length=rows.length
 at_:∀(j:Nat)(a:c5)(r:List Int),as[j]?=O a->rows[j]?=O r->H a=O (.tup (r.map V.int))
def xU(S:BS)(n:g8):Int×Int:=(zV S n).getD (0,0)
def vT(S:BS):Deed->List (List Int)
 | .bearing _ n a b c d=>[rF [-b,a,a*(xU S n).2-b*(xU S n).1],rF [d,-c,(xU S n).1*d-(xU S n).2*c]]
 | .range _ l r=>[rF [(xU S l).2-(xU S r).2,(xU S r).1-(xU S l).1,(xU S r).1*(xU S l).2-(xU S r).2*(xU S l).1]]
 | _=>[]
def YL(x y:Int):List Int->List Int
 | [a,b,c]=>[a,b,c+a*x+b*y]
 | l=>l
def wD:Deed->Int
 | .bearing m _ _ _ _ _=>m
 | .range m _ _=>m
 | _=>0
def yM(S:BS)(j:Nat)(D:Deed):List (List Int):=(vT S D).map (YL (uA S.runs (wD D).toNat j).1 (uA S.runs (wD D).toNat j).2)
def rO(S:BS):Deed->Prop
 | .bearing m n a b c d=>0<=m/\m<=S.runs.length/\(zV S n).isSome=IT/\wa (a,b)/\wa (c,d)
 | .range m l r=>0<=m/\m<=S.runs.length/\(zV S l).isSome=IT/\(zV S r).isSome=IT/\zV S l≠zV S r
 | _=>False
structure lv(S:BS):Prop where
 few:Few S
 fresh:gq S
 rise:Zw S
 mk_:∀ e∈S.marks,vw e.2
 way:∀ e∈S.runs,vw e
 note:∀ e∈S.notes,rO S e.2
section
variable{H H1:Hp}{S:BS}
def yI.to(h:yI H c rows)(s:Sam H H1):yI H1 c rows:=⟨h.len,λj a r e d=>s.tup id (h.at_ j a r e d)⟩
def yI.samE{c:c5->Prop}(h:yI H f rows)(s:vV c H H1)(i:∀ a g,H a=O (.tup g)->¬ c a):yI H1 f rows:=⟨h.len,λj a r e d=>s.tup (i _ _ (h.at_ j a r e d)) (h.at_ j a r e d)⟩
def yI.nil:yI H [] []:=⟨rfl,λj a r e=>by simp at e⟩
def yI.one{r:List Int}(h:H a=O (.tup (r.map V.int))):yI H [a] [r]:=⟨rfl,λj b e c d=>by
 cases j with
 | zero=>simp at c d; subst c d; rwa[h]
 | succ j=>simp at c⟩
def yI.app(h:yI H e rows)(k:yI H bs more):yI H (e++bs) (rows++more):=⟨by rw[f7,f7,h.len,k.len],λj a r d c=>by
 rcases Gs j e.length with z | z
 ·rw[Ag z] at d;rw[Ag (by rw[<- h.len]; rwa[z])] at c;rwa[h.at_ j a r d c]
 ·rw[t9 z] at d;rw[t9 (by rw[<- h.len]; rwa[z]),<- h.len] at c;rwa[k.at_ _ a r d c]⟩
def xX(h:∀ e∈S.marks,vw e.2)(e:zV S n=O p):vw p:=h _ (yb e)
def xH(e:zV S n=O p):xU S n=p:=by unfold xU; rw[e]; rfl
def Yo{ns:List Int}{M:Nat}(h:∃ x∈ns,x≠0/\x.natAbs<=M):0<yF ns/\yF ns<=M:=by
 obtain⟨x,a,h0,c⟩:=h;have d:yF ns ∣ x.natAbs:=qQ a;have p:0<x.natAbs:=by lia
 rwa[Nat.pos_of_dvd_of_pos d p,f8 (EO p d) c]
end
structure xB(H0 H:Hp)(gs:List c5)(rows:List (List (List Int))):Prop where
 mk ::
 len:gs.length=rows.length
 new:∀ g∈gs,H0 g=IS
 at_:∀(j:Nat)(g:c5)(r:List (List Int)),gs[j]?=O g->rows[j]?=O r->∃ as:List c5,H g=O (.lst (as.map V.ref))/\yI H as r
section
variable{H0 H H1:Hp}{S:BS}
def xB.samE{c:c5->Prop}(h:xB H0 H d rows)(s:vV c H H1)(i:∀ a f,H a=O (.tup f)->¬ c a)(l:∀ g∈d,¬ c g):xB H0 H1 d rows :=
 ⟨h.len,h.new,λj g r e m=>let ⟨as,h1,h2⟩:=h.at_ j g r e m;⟨as,s.lst (l g (e9 e)) h1,h2.samE s i⟩⟩
def xB.nil:xB H0 H [] []:=⟨rfl,λg c=>(nomatch c),λj a r e=>by simp at e⟩
def xB.snoc{i:List c5}(h:xB H0 H f rows)(h0:H0 g=IS)(h1:H g=O (.lst (i.map V.ref)))(h2:yI H i r):xB H0 H (f++[g]) (rows++[r]) :=
 ⟨by rw[f7,f7,h.len]; rfl,λx m=>by
  rcases i7.mp m with z | z
  ·rwa[h.new x z]
  ·rw[e8.mp z]; exact h0,λj a l c d=>by
  rcases Gs j f.length with z | z
  ·rw[Ag z] at c;rw[Ag (by rw[<- h.len]; rwa[z])] at d;rwa[h.at_ j a l c d]
  ·rw[t9 z] at c;rw[t9 (by rw[<- h.len]; rwa[z]),<- h.len] at d;have e:j-f.length=0:=by have:=(c7.mp c).1; simp at this; lia
   rw[e] at c d;simp at c d;subst c d;rwa[i,h1,h2]⟩
def WX{a b c:Int}{M:Nat}(e:a.natAbs<=M)(d:b.natAbs<=M):∃ x y z:Int,rF [a,b,c]=[x,y,z]/\x.natAbs<=M/\y.natAbs<=M :=
 ⟨_,_,_,rfl,f8 (By _ _) e,f8 (By _ _) d⟩
def qz(i:∀ e∈S.marks,vw e.2)(kn:rO S D):∀ r∈vT S D,∃ x y z:Int,r=[x,y,z]/\x.natAbs<=10^4/\y.natAbs<=10^4:=by
 match D,kn with
 | .bearing m n a b c d,kn =>
  obtain⟨_,_,_,⟨_,w1,v,u,s⟩,⟨_,q,p,o,j⟩⟩:=kn;dsimp only at w1 v u s q p o j;intro r f;rcases j4.mp f with e | f
  ·rw[e]; rwa[WX (by lia) (by lia)]
  ·rw[e8.mp f]; rwa[WX (by lia) (by lia)]
 | .range m l r,kn =>
  obtain⟨_,_,h1,h2,_⟩:=kn;obtain⟨pt,h⟩:=i3.mp h1;obtain⟨A,g⟩:=i3.mp h2;obtain⟨n1,n2,n3,n4⟩:=xX i h;obtain⟨G,E,C,B⟩:=xX i g;intro w f;rw[e8.mp f,xH h,xH g];rwa[WX (by lia) (by lia)]
def uq : (vT S D).length<=2:=by
 unfold vT;split <;> simp
def oI(kn:rO S D)(h:Rep H D.dt v):∃(t:c5)(g:List V),v=.ref t/\H t=O (.tup g)/\atI g 1=O (.int (wD D))/\0<=wD D/\wD D<=S.runs.length:=by
 match D,kn,h with
 | .bearing m n a b c d,kn,h =>
  obtain⟨t,_,_,e,f,_⟩:=tK h;rwa[t,_,e,f,rfl,kn.1,kn.2.1]
 | .range m l r,kn,h =>
  obtain⟨t,e,f⟩:=xy h;rwa[t,_,e,f,rfl,kn.1,kn.2.1]
end
def ut{a c:Type}(f:a->List c)(h:∀ x,(f x).length<=2):∀ l:List a,((l.map f).flatten).length<=2*l.length
 | []=>f6 _
 | x::l=>by
  have:=ut f h l;have:=h x;simp only[g9,Gu,f7,n9];lia
def uB{j:Nat} : (yM S j D).length<=2:=by unfold yM; rw[ac]; rwa[uq]
def Zh:∀{l:List (Int×Deed)}{i:Nat}{e:Int×Deed},(l.map (·.1)).Pairwise (· < ·)->l[i]?=O e->look (ntE l) (.inl e.1)=O e.2.dt
 | [],_,_,_,h=>by simp at h
 | q::l,0,e,_,h=>by
  simp at h;subst h;simp[look,ntE]
 | q::l,i+1,e,f,h=>by
  have d:l[i]?=O e:=by simpa using h
  have a:=Ga.mp (show(q.1::l.map (·.1)).Pairwise (· < ·) from f);have c:=Zh a.2 d;have lt:=a.1 e.1 (g7.mpr ⟨e,e9 d,rfl⟩);have ne:¬ (Ci q.1:Key)=Ci e.1:=λz=>by injection z with z; lia
  unfold look ntE at c ⊢;rw[g9,Au,y9 ne];rwa[c]
def pK:∀{l:List (Int×Deed)}{a:List (Key×V)}{H:Hp},xY H a (ntE l)->a.map (λc=>kV c.1)=(l.map (·.1)).map V.int
 | [],_,_,h=>by rw[h.nil_iff]; rfl
 | (n,D)::l,_,_,h=>by
  obtain⟨v,r,rfl,h1,h2⟩:=xY.cons_iff.mp h;rw[g9,pK h2];rfl
def oZ{a b:List Int}(p:a.Perm b)(d:a.Pairwise (·<=·))(c:b.Pairwise (· < ·)):a=b:=PySem.W.lks_uniq p d (c.imp λh=>Ah h)
def bY(a b c:V):rz [] [(.inr "marks",a),(.inr "banks",b),(.inr "runs",c)]=[(.inr "marks",a),(.inr "banks",b),(.inr "runs",c)]:=by symm
def VT(a b c d:V):sC [((.inr "marks" : Key),a),(.inr "banks",b),(.inr "runs",c)] (.inr "notes") d=[(.inr "marks",a),(.inr "banks",b),(.inr "runs",c),(.inr "notes",d)]:=by symm
def Wm(a b c d e:V):sC [((.inr "marks" : Key),a),(.inr "banks",b),(.inr "runs",c),(.inr "notes",d)] (.inr "next") e=[(.inr "marks",a),(.inr "banks",b),(.inr "runs",c),(.inr "notes",d),(.inr "next",e)]:=by symm
def nQ{H:Hp}(d:H D=O (.dK a)):∀ b c,H b=O (.tup c)->¬ b=D:=λb c e z=>by rw[z,d] at e; cases e
def cm{runs:List (Int×Int)}{j:Nat}(h:runs.length<=3)(g:∀ e∈runs,e.1.natAbs<=4/\e.2.natAbs<=4):(uA runs 0 j).1.natAbs<=12/\(uA runs 0 j).2.natAbs<=12:=by
 have f:∀ e∈qY runs 0 j,e∈runs:=λe c=>AS (AT c);have l:=wm runs 0 j;have a:=ox ((qY runs 0 j).map (·.1)) 4 λx d=>by
  obtain⟨e,c,rfl⟩:=g7.mp d;exact(g e (f e c)).1
 have b:=ox ((qY runs 0 j).map (·.2)) 4 λx d=>by
  obtain⟨e,c,rfl⟩:=g7.mp d;exact(g e (f e c)).2
 rw[ac] at a b;unfold uA tW;split <;> rwa[by dsimp only; lia,by dsimp only; lia]
def fZ{k p q:Int}(c:1<=k)(h:¬ (p=0/\q=0)):0<(k*p+q)*(k*q+p)-(k*q-p)*(k*p-q):=by
 have e:(k*p+q)*(k*q+p)-(k*q-p)*(k*p-q)=2*k*(p*p+q*q):=by grind
 rw[e];have h1:0<=p*p:=by rcases Ir 0 p with z | z; rwa[o7 z z]; rwa[Dl z z]
 have h2:0<=q*q:=by rcases Ir 0 q with z | z; rwa[o7 z z]; rwa[Dl z z]
 have h3:0<p*p+q*q:=by
  rcases C6 (p=0) with z | z
  ·have a:q≠0:=λw=>h ⟨z,w⟩;have:q*q≠0:=CF a a;lia
  ·have:p*p≠0:=CF z z;lia
 rwa[BG (by lia) h3]
def tL{H:Hp}{m:Int}{a b c d:Int}(e:H w=O (.tup [.str "bearing",.int m,.str n,.ref p,.ref q]))(g:H p=O (.tup [.int a,.int b]))(f:H q=O (.tup [.int c,.int d])):Rep H (Deed.bearing m n a b c d).dt (.ref w) :=
 xG.mpr ⟨w,_,rfl,e,zJ.mpr ⟨_,_,rfl,yG.mpr rfl,zJ.mpr ⟨_,_,rfl,yQ.mpr rfl,zJ.mpr ⟨_,_,rfl,yG.mpr rfl,.two (zv (p:=(a,b)) g) (zv (p:=(c,d)) f)⟩⟩⟩⟩
def bi{H:Hp}{m:Int}(a:H w=O (.tup [.str "range",.int m,.str l,.str r])):Rep H (Deed.range m l r).dt (.ref w) :=
 xG.mpr ⟨w,_,rfl,a,zJ.mpr ⟨_,_,rfl,yG.mpr rfl,zJ.mpr ⟨_,_,rfl,yQ.mpr rfl,.two (yG.mpr rfl) (yG.mpr rfl)⟩⟩⟩
def ZI{H:Hp}{x y:Int}(a:H w=O (.tup [.str "mark",.str n,.int x,.int y])):Rep H (Deed.mark n x y).dt (.ref w) :=
 xG.mpr ⟨w,_,rfl,a,zJ.mpr ⟨_,_,rfl,yG.mpr rfl,zJ.mpr ⟨_,_,rfl,yG.mpr rfl,.two (yQ.mpr rfl) (yQ.mpr rfl)⟩⟩⟩
def mR{H:Hp}{k:Int}(a:H w=O (.tup [.str "strike",.int k])):Rep H (Deed.strike k).dt (.ref w) :=
 xG.mpr ⟨w,_,rfl,a,.two (yG.mpr rfl) (yQ.mpr rfl)⟩
def Yp{H:Hp}{x y:Int}(a:H w=O (.tup [.str "sail",.int x,.int y])):Rep H (Deed.sail x y).dt (.ref w) :=
 xG.mpr ⟨w,_,rfl,a,zJ.mpr ⟨_,_,rfl,yG.mpr rfl,.two (yQ.mpr rfl) (yQ.mpr rfl)⟩⟩
def iQ{a b c d:Int}(t:0<a*d-b*c)(h1:a.natAbs<=100)(h2:b.natAbs<=100)(h3:c.natAbs<=100)(h4:d.natAbs<=100):wa (a,b)/\wa (c,d):=by
 erw[⟨λz=>?_,by dsimp only; lia,by dsimp only; lia,by dsimp only; lia,by dsimp only; lia⟩,⟨λz=>?_,by dsimp only; lia,by dsimp only; lia,by dsimp only; lia,by dsimp only; lia⟩]
 ·injection z with z1 z2
  rw[z1,z2] at t;simp at t
 ·injection z with z1 z2
  rw[z1,z2] at t;simp at t
end Sea

namespace Sea
def rM{e:g8×Int×Int}(h:(zV S n).isSome=IT):zV { S with marks:=S.marks++[e] } n=zV S n:=by
 unfold zV at h ⊢;dsimp only;rw[List.find?_append];cases q:S.marks.find? λe=>decide (e.1=n) with
 | none=>rw[q] at h; simp at h
 | some a=>rfl
def dO{e:g8×Int×Int}(h:rO S D):rO { S with marks:=S.marks++[e] } D:=by
 match D,h with
 | .bearing m n a b c d,h=>rwa[h.1,h.2.1,by rw[rM h.2.2.1]; exact h.2.2.1,h.2.2.2]
 | .range m l r,h=>rwa[h.1,h.2.1,by rw[rM h.2.2.1]; exact h.2.2.1,by rw[rM h.2.2.2.1]; exact h.2.2.2.1,by rw[rM h.2.2.1,rM h.2.2.2.1]; exact h.2.2.2.2]
def bj{e:Int×Int}(h:rO S D):rO { S with runs:=S.runs++[e] } D:=by
 match D,h with
 | .bearing m n a b c d,h=>exact⟨h.1,by have:=h.2.1; dsimp only; rw[f7]; simp only[n9,Bg]; lia,h.2.2⟩
 | .range m l r,h=>exact⟨h.1,by have:=h.2.1; dsimp only; rw[f7]; simp only[n9,Bg]; lia,h.2.2⟩
def tu{l:List (Int×Deed)}{k:Int}(h:rO S D):rO { S with notes:=l,coming:=k } D:=by
 match D,h with
 | .bearing m n a b c d,h=>rwa[h]
 | .range m l r,h=>rwa[h]
def eI:lv BS.nil:=⟨⟨by decide,by decide,by decide,by decide⟩,λe a=>(nomatch a),.nil,λe a=>(nomatch a),λe a=>(nomatch a),λe a=>(nomatch a)⟩
def iE(g:lv S)(kn:rO S D)(l:S.notes.length<24):lv { S with notes:=S.notes++[(S.coming,D)],coming:=S.coming+1 }:=by
 refine⟨⟨g.few.ma,g.few.ba,g.few.ru,by show(S.notes++[_]).length<=60; rw[f7]; simp only[n9,Bg]; lia⟩,λe a=>?_,?_,g.mk_,g.way,λe a=>?_⟩
 ·rcases i7.mp a with z | z
  ·have:=g.fresh e z;show e.1<S.coming+1;lia
  ·rw[e8.mp z];show S.coming<S.coming+1;lia
 ·show((S.notes++[(S.coming,D)]).map (·.1)).Pairwise (· < ·);rw[e7,List.pairwise_append];erw[g.rise,List.pairwise_singleton _ _,λx d y c=>?_];obtain⟨e,a,rfl⟩:=g7.mp d;rw[e8.mp c];rwa[g.fresh e a]
 ·rcases i7.mp a with z | z
  ·rwa[tu (g.note e z)]
  ·rw[e8.mp z];rwa[tu kn]
def uc{n k:g8}{x y:Int} : ∀{l:List (g8×Int×Int)},((l.map λe=>if e.1=n then(e.1,x,y) else e).find? λe=>decide (e.1=k)).map (·.2)=((l.find? λe=>decide (e.1=k)).map (·.2)).map λp=>if k=n then(x,y) else p
 | []=>rfl
 | (m,p)::l=>by
  rw[g9,Au,Au];by_cases c:m=n
  ·rw[y7 c];by_cases a:m=k
   ·subst c a;simp
   ·rw[y9 (show ¬ (m,x,y).1=k from a)];rwa[uc]
  ·rw[y6 c];by_cases a:m=k
   ·subst a;simp[c]
   ·rw[y9 (show ¬ (m,p).1=k from a)];rwa[uc]
def iK{x y:Int} : zV (aft S (.move n x y)) k=(zV S k).map λp=>if k=n then(x,y) else p:=uc
def uL{n k:g8}(h:k≠n):zV (aft S (.unmark n)) k=zV S k:=by
 unfold zV;show(List.find? _ (S.marks.filter _)).map _=_;rw[List.find?_filter]
 congr 2
 funext e
 by_cases z:e.1=k
 ·simp[z,h]
 ·simp[z]
def yk{x y:Int}(h:(zV S k).isSome=IT):(zV (aft S (.move n x y)) k).isSome=true:=by
 rw[iK,CO];rwa[h]
def dS{x y:Int}(h:rO S D)(g:Vi (aft S (.move n x y)) D):rO (aft S (.move n x y)) D:=by
 match D,h,g with
 | .bearing m k a b c d,h,_=>rwa[h.1,h.2.1,yk h.2.2.1,h.2.2.2]
 | .range m l r,h,⟨p,u,f,e,ne⟩=>rwa[h.1,h.2.1,yk h.2.2.1,yk h.2.2.2.1,by rw[f,e]; exact λz=>ne (o8 z)]
def iC(h:rO S D)(g:fC n D):rO (aft S (.unmark n)) D:=by
 match D,h,g with
 | .bearing m k a b c d,h,g=>rwa[h.1,h.2.1,by rw[uL g]; exact h.2.2.1,h.2.2.2]
 | .range m l r,h,g=>rwa[h.1,h.2.1,by rw[uL g.1]; exact h.2.2.1,by rw[uL g.2]; exact h.2.2.2.1,by rw[uL g.1,uL g.2]; exact h.2.2.2.2]
def tw{S f:BS}(h:rO S D)(i:f.marks=S.marks)(g:f.runs.length=S.runs.length):rO f D:=by
 have e:∀ n,zV f n=zV S n:=λn=>by unfold zV; rw[i]
 match D,h with
 | .bearing m k a b c d,h=>rwa[h.1,by rw[g]; exact h.2.1,by rw[e]; exact h.2.2.1,h.2.2.2]
 | .range m l r,h=>rwa[h.1,by rw[g]; exact h.2.1,by rw[e]; exact h.2.2.1,by rw[e]; exact h.2.2.2.1,by rw[e,e]; exact h.2.2.2.2]
def fG(g:lv S)(ok:okD S D):lv (aft S D):=by
 match D,ok with
 | .mark n x y,ok =>
  refine⟨⟨by show(S.marks++[_]).length<=60; rw[f7]; have:=ok.2.2.2; simp only[n9,Bg]; lia,g.few.ba,g.few.ru,g.few.no⟩,g.fresh,g.rise,λe f=>?_,g.way,λe f=>dO (g.note e f)⟩;rcases i7.mp f with z | z
  ·rwa[g.mk_ e z]
  ·rw[e8.mp z];rwa[ok.2.2.1]
 | .sail x y,ok =>
  refine⟨⟨g.few.ma,g.few.ba,by show(S.runs++[_]).length<=60; rw[f7]; have:=ok.2; simp only[n9,Bg]; lia,g.few.no⟩,g.fresh,g.rise,g.mk_,λe f=>?_,λe f=>bj (g.note e f)⟩;rcases i7.mp f with z | z
  ·rwa[g.way e z]
  ·rw[e8.mp z];rwa[ok.1]
 | .bearing m n a b c d,ok=>rwa[iE g ⟨ok.1,ok.2.1,ok.2.2.1,ok.2.2.2.1,ok.2.2.2.2.1⟩ ok.2.2.2.2.2.2]
 | .range m l r,ok=>rwa[iE g ⟨ok.1,ok.2.1,ok.2.2.1,ok.2.2.2.1,ok.2.2.2.2.1⟩ ok.2.2.2.2.2]
 | .move n x y,ok =>
  refine⟨⟨by show(S.marks.map _).length<=60; rw[ac]; exact g.few.ma,g.few.ba,g.few.ru,g.few.no⟩,g.fresh,g.rise,λe f=>?_,g.way,λe f=>dS (g.note e f) (ok.2.2 e f)⟩;obtain⟨h,h1,rfl⟩:=g7.mp f;by_cases z:h.1=n
  ·rw[y7 z];rwa[ok.2.1]
  ·rw[y6 z];rwa[g.mk_ h h1]
 | .unmark n,ok =>
  rwa[⟨f8 (Cc _ _) g.few.ma,g.few.ba,g.few.ru,g.few.no⟩,g.fresh,g.rise,λe f=>g.mk_ e (Bw.mp f).1,g.way,λe f=>iC (g.note e f) (ok.2 e f)]
 | .bank n i,ok =>
  exact⟨⟨g.few.ma,by show(S.banks++[_]).length<=60; rw[f7]; have:=ok.2.2.2.2; simp only[n9,Bg]; lia,g.few.ru,g.few.no⟩,g.fresh,g.rise,g.mk_,g.way,λe f=>tw (g.note e f) rfl rfl⟩
 | .level n,_ =>
  rwa[⟨g.few.ma,f8 (Cc _ _) g.few.ba,g.few.ru,g.few.no⟩,g.fresh,g.rise,g.mk_,g.way,λe f=>tw (g.note e f) rfl rfl]
 | .right k x y,ok =>
  refine⟨⟨g.few.ma,g.few.ba,by show(S.runs.set _ _).length<=60; rw[DN]; exact g.few.ru,g.few.no⟩,g.fresh,g.rise,g.mk_,λe f=>?_,λe f=>tw (g.note e f) rfl (by show(S.runs.set _ _).length=_; rw[DN])⟩;rcases Es f with z | z
  ·rwa[g.way e z]
  ·rw[z];rwa[ok.2.2]
 | .strike k,_ =>
  erw[⟨g.few.ma,g.few.ba,g.few.ru,f8 (Cc _ _) g.few.no⟩,λe f=>g.fresh e (Bw.mp f).1,?_,g.mk_,g.way,λe f=>tu (g.note e (Bw.mp f).1)];rwa[g.rise.sublist (List.filter_sublist.map _)]
def rD:BS->List Deed->Prop
 | _,[]=>True
 | S,D::r=>okD S D/\rD (aft S D) r
def vQ(S:BS)(l:List Deed):BS:=l.foldl aft S
def ua:∀{l:List Deed}{S:BS},lv S->rD S l->lv (vQ S l)
 | [],_,g,_=>g
 | D::r,S,g,⟨h1,h2⟩=>show lv (vQ (aft S D) r) from ua (fG g h1) h2
def oG:∀{l:List Deed}{S:BS}{D:Deed},rD S l->okD (vQ S l) D->rD S (l++[D])
 | [],_,_,_,h=>⟨h,trivial⟩
 | _::_,_,_,⟨h1,h2⟩,h=>⟨h1,oG h2 h⟩
def lC:∀{l:List Deed}{S:BS}{i:Nat}{D:Deed},rD S l->l[i]?=O D->okD (vQ S (l.take i)) D
 | [],_,_,_,_,e=>by simp at e
 | _::_,_,0,_,⟨h1,_⟩,e=>by
  simp at e;subst e;rwa[h1]
 | D'::l,S,i+1,D,⟨_,h2⟩,e=>lC (l:=l) (S:=aft S D') (i:=i) h2 (by simpa using e)
def hZ{l:List Deed}{i:Nat}(e:l[i]?=O D):vQ S (l.take (i+1))=aft (vQ S (l.take i)) D:=by
 unfold vQ;rw[o6,e,Ew];rfl
def LwN(a H:Hp)(d:c5)(S:BS):Prop:=∃ m b r n,a r=IS/\LwA H d m b r n S
structure zh(no:List (Int×Deed))(k:Int)(i:Nat):Prop where
 mk ::
 len:no.length=i
 num:k=1+(i:Int)
 pos:∀ e∈no,1<=e.1
def zh.nil:zh [] 1 0:=⟨rfl,rfl,λe a=>(nomatch a)⟩
def zh.snoc{k:Int}{i:Nat}{D:Deed}(h:zh no k i):zh (no++[(k,D)]) (k+1) (i+1) :=
 ⟨by rw[f7,h.len]; rfl,by rw[h.num]; lia,λe a=>by
  rcases i7.mp a with z | z
  ·rwa[h.pos e z]
  ·rw[e8.mp z];have:=h.num;show 1<=k;lia⟩
def aU:Deed->Prop
 | .mark _ _ _ | .sail _ _ | .bearing _ _ _ _ _ _ | .range _ _ _=>True
 | _=>False
def LwP(H:Hp)(d p:c5)(S:BS):Prop:=∃ m b r n,r≠p/\LwA H d m b r n S
def LwP.at{H:Hp}(h:LwP H d p S):Ze H d S:=let ⟨m,b,r,n,_,q⟩:=h;⟨m,b,r,n,q⟩
def LwP.to{H a:Hp}(h:LwP H d p S)(s:Sam H a):LwP a d p S:=let ⟨m,b,r,n,e,q⟩:=h;⟨m,b,r,n,e,q.to s⟩
structure UA(S:BS):Prop where
 mk ::
 lo:3<=S.marks.length
 hi:S.marks.length<=5
 bd:∀ e∈S.marks,e.2.1.natAbs<=860/\e.2.2.natAbs<=860
 bk:S.banks=[]
def TU:Sp:=λf H Q _=>E4 λ(a r:c5) (rows:List Int) (ns:List g8)=>A9 (f=[.ref a,.ref r]) (H a=O (.lst (rows.map V.int))) (90<=rows.length) (∀ x∈rows,0<=x/\x<1000003) (H r=O (.lst (ns.map V.str))) (ns.length=5) (∀ n∈ns,sI n) ns.Nodup (∀(l:c5)(e:List V)(c:List Deed)(d:Hp),Same H d->H l=IS->d l=O (.lst e)->xS d (c.map Deed.dt) e->c.length<=14->rD BS.nil c->(vQ BS.nil c).runs.length<=3->(∀ D∈c,aU D)->(∃ i,i<=6/\zh (vQ BS.nil c).notes (vQ BS.nil c).coming i)->UA (vQ BS.nil c)->Q (.ref l) d)
def se:∀{l:List Deed}{S:BS}{i:Nat},rD S l->rD S (l.take i)
 | [],_,_,_=>by rw[List.take_nil]; rwa[trivial]
 | _::_,_,0,_=>trivial
 | _::_,_,i+1,⟨h1,h2⟩=>⟨h1,se (i:=i) h2⟩
end Sea

namespace Sea
def stN(l:List (g8×Int×Int))(a:List (Int×Int))(no:List (Int×Deed))(k:Int):BS:=⟨l,[],a,no,k⟩
section
variable{l:List (g8×Int×Int)}{rs:List (Int×Int)}{no:List (Int×Deed)}{k:Int}
def lF{n:g8}(h:n ∉ l.map (·.1)):zV (stN l rs no k) n=none:=by
 unfold zV;rw[Dv,B7];intro e a z;rwa[h (g7.mpr ⟨e,a,of_decide_eq_true z⟩)]
def Vs{x y:Int}(c:sI n)(h:n ∉ l.map (·.1))(a:vw (x,y))(d:l.length<20):okD (stN l rs no k) (.mark n x y):=⟨c,lF h,a,d⟩
def VW{x y:Int}(a:vw (x,y))(c:rs.length<12):okD (stN l rs no k) (.sail x y):=⟨a,c⟩
def lJ{m:Nat}{n:g8}{a b c d:Int}(i:m<=rs.length)(g:n∈l.map (·.1))(w1:wa (a,b))(f:wa (c,d))(t:0<a*d-b*c)(h:no.length<24):okD (stN l rs no k) (.bearing m n a b c d) :=
 ⟨by lia,by show(m:Int)<=(rs.length:Int); lia,by obtain⟨p,e⟩:=rG (S:=stN l rs no k) g; rw[e]; rfl,w1,f,t,h⟩
def Yh{m:Nat}{a b:g8}(g:m<=rs.length)(f:a∈l.map (·.1))(d:b∈l.map (·.1))(ne:zV (stN l rs no k) a≠zV (stN l rs no k) b)(c:no.length<24):okD (stN l rs no k) (.range m a b) :=
 ⟨by lia,by show(m:Int)<=(rs.length:Int); lia,by obtain⟨p,e⟩:=rG (S:=stN l rs no k) f; rw[e]; rfl,by obtain⟨p,e⟩:=rG (S:=stN l rs no k) d; rw[e]; rfl,ne,c⟩
structure mM(Ds:List Deed)(l:List (g8×Int×Int))(rs:List (Int×Int))(no:List (Int×Deed))(k:Int):Prop where
 mk ::
 ok:rD BS.nil Ds
 at_:vQ BS.nil Ds=stN l rs no k
 four:∀ D∈Ds,aU D
def Yb:mM [] [] [] [] 1:=⟨trivial,rfl,λD a=>(nomatch a)⟩
def vm{a:List Deed}{D:Deed}(h:∀ D∈a,aU D)(k:aU D):∀ E∈a++[D],aU E:=λE c=>by
 rcases i7.mp c with z | z
 ·rwa[h E z]
 ·rw[e8.mp z]; rwa[k]
def mM.snoc(h:mM a l rs no k)(ok:okD (stN l rs no k) D):rD BS.nil (a++[D])/\vQ BS.nil (a++[D])=aft (stN l rs no k) D:=by
 exists oG h.ok (by rw[h.at_]; rwa[ok]);have e:=h.at_;unfold vQ at e ⊢;rw[Ew,e];rfl
def mM.mark{x y:Int}(h:mM c l rs no k)(ok:okD (stN l rs no k) (.mark n x y)):mM (c++[.mark n x y]) (l++[(n,x,y)]) rs no k:=let ⟨a,b⟩:=h.snoc ok;⟨a,b,vm h.four trivial⟩
def mM.sail{x y:Int}(h:mM c l rs no k)(ok:okD (stN l rs no k) (.sail x y)):mM (c++[.sail x y]) l (rs++[(x,y)]) no k:=let ⟨a,b⟩:=h.snoc ok;⟨a,b,vm h.four trivial⟩
def mM.bearing{m:Int}{a b c d:Int}(h:mM e l rs no k)(ok:okD (stN l rs no k) (.bearing m n a b c d)):mM (e++[.bearing m n a b c d]) l rs (no++[(k,.bearing m n a b c d)]) (k+1):=let ⟨x,y⟩:=h.snoc ok;⟨x,y,vm h.four trivial⟩
def mM.range{m:Int}(h:mM c l rs no k)(ok:okD (stN l rs no k) (.range m a b)):mM (c++[.range m a b]) l rs (no++[(k,.range m a b)]) (k+1):=let ⟨x,y⟩:=h.snoc ok;⟨x,y,vm h.four trivial⟩
end
def cD{c:Type}{l:List c}{i:Nat}{x:c}(h:l.Nodup)(e:l[i]?=O x):x ∉ l.take i:=λm=>by
 obtain⟨j,a⟩:=List.mem_iff_getElem?.mp m;have lt:j<i:=by have:=(c7.mp a).1; rw[j3] at this; lia
 rw[Bj,y7 lt] at a;obtain⟨h1,f⟩:=c7.mp a;obtain⟨h2,d⟩:=c7.mp e;have:=(GA h).mp (f.trans d.symm);lia
def Wq{a:List g8}{x:Int}(h:0<((a.map V.str).length:Int)):∃ n,n∈a/\atI (a.map V.str) (x%((a.map V.str).length:Int))=O (.str n):=by
 have h0:=Ak x (show((a.map V.str).length:Int)≠0 by lia);have h1:=r9 x h;generalize x%((a.map V.str).length:Int)=y at h0 h1;obtain⟨k,rfl⟩:=Bm h0;have c:k<a.length:=by rw[ac] at h1; lia
 rwa[a[k],AX c,tP (by rw[d7,c9 c]; rfl)]
end Sea

namespace L2
def mD(o:BD)(f:Array c6->Array c6):(BW f o).dict=o.dict:=by unfold BW; split <;> rfl
def gc(h base:v8)(e:c5)(cls g:c6):Prop :=
 ∃ a c T f d,h.get? e=O a/\(a.cls=cls/\a.dict=IS/\c[2]?=O .none)/\a.data=.fields c/\c[1]?=O (.ref T)/\base.get? T=IS/\T≠e/\h.get? T=O f/\f.data=.fields d/\d[3]?=O g
def zt(base:v8)(l:List D9)(e:c5)(cls:c6)(h:v8):Prop:=base.StaysIn h/\base.get? e=IS/\h.FunFrames base l/\gc h base e cls .none
def Ym(base:v8)(l:List D9)(e:c5)(cls:c6)(L:c5)(h:v8):Prop:=base.StaysIn h/\base.get? e=IS/\h.FunFrames base l/\gc h base e cls (rawInt L)
section
variable{M:IB}{A:Aq}{E:c6->d8->Prop}{s:d8}
def Ww{env:D9}{outer:List D9}{head:c6}{Q:Unit->d8->Prop}
  (Z:A.frames=O (env::outer)) (R:s.heap.FunFrames base (env::outer)) (hf:env.frame=O L)
  (S:s.heap.get? e=O z) (Y:base.StaysIn s.heap) (J:base.get? e=IS) (hd:z.data=.fields u) (B:1<u.size) (hdi:z.dict=IS) (h0:u[2]?=O .none)
  (h:∀ h',Ym base (env::outer) e z.cls L h'->s.heap.UpToSlots h'->Q () { s with heap:=h' }) :
  wpAny M A (do let a <- frameOf env; let y <- entryPlaceOf L r; let b <- FX head a .none (rawInt L) .none y; setField (.ref e) 1 b) Q E s:=by
 have I:e ∉ (env::outer).filterMap (·.frame):=λX=>by
  obtain⟨_,o,P,f⟩:=R.mem X;rw[S] at P; injection P with P; subst P; rwa[f u hd]
 erw[b7 (wpAny_frameOf_fun Z R hf λc d=>?_)];erw[b7 (wpAny_entryPlaceOf λy C=>?_)];unfold FX newFields;erw[b7 (Ac ?_ (C.sizeOk5 _ _ _ _ _))];have n:c.get? e=O z:=(d.2.1 e I).trans S;have l:base.StaysIn c:=λb o g=>(d.2.1 b λX=>by rw[(R.mem X).1] at g; cases g).trans (Y b o g);generalize H:({ cls:=.type "traceback",dict:=IS,data:=.fields ([head,.ref L,.none,rawInt L,.none]++(if y.isEmpty then Be 6 Ao else y)).toArray } : BD)=ob;have D:ob.isFreed=false:=by rw[<- H]; rfl
 have G:ob.data=.fields ([head,.ref L,.none,rawInt L,.none]++(if y.isEmpty then Be 6 Ao else y)).toArray:=by rw[<- H]
 have m:=c8 (h:=c) ob n;erw[B5 m hd B (h _ ?_ ?_)]
 ·have N:c.objs.size≠e:=Cz (g6 n);have p:=BC hd (·.setIfInBounds 1 (j8 c.objs.size));have v:=Bz (BW (·.setIfInBounds 1 (j8 c.objs.size))) m (CL p);have x:=(Av (c.push ob) (BW (·.setIfInBounds 1 (j8 c.objs.size))) (AW N)).trans (f9 c D);have keep:∀ b o,b≠e->c.get? b=O o->((c.push ob).update e (BW (·.setIfInBounds 1 (j8 c.objs.size)))).get? b=O o:=λb o w i=>by
   rw[Av _ _ (AW w)];rwa[c8 _ i]
  have j:∀ b o,s.heap.get? b=O o->(∀ u,o.data≠.fields u)->b≠e:=λb o i f q=>by
   rw[q,S] at i; injection i with i; subst i; rwa[f u hd]
  refine⟨λb o g=>keep b o (λq=>by rw[q,J] at g; cases g) (l b o g),J,R.of_keeps λb o i f=>?_,?_⟩
  ·obtain⟨sl,T⟩:=d.2.2 b o i;rwa[_,keep b _ (j b o i f) T,rfl]
  ·exact⟨_,_,c.objs.size,_,_,v,⟨Ex _ _,by rw[mD]; exact hdi,by rw[Array.getElem?_setIfInBounds_ne (by decide)]; rwa[h0]⟩,p,by simp[B],l.fresh,N,x,G,by first | (simp; done) | (rcases C with rfl | ⟨_,_,_,_,_,_,_,rfl⟩ <;> simp)⟩
 ·intro b o i f;have w:b≠e:=λq=>by rw[q,S] at i; injection i with i; subst i; rwa[f u hd]
  obtain⟨sl,T⟩:=d.2.2 b o i;exists sl;rw[Av _ _ (AW w)];rwa[c8 _ T]
def gS{env:D9}{outer:List D9}{Q:Unit->d8->Prop}
  (f:A.frames=O (env::outer)) (n:s.heap.FunFrames base (env::outer)) (l:env.frame=O L)
  (m:s.heap.get? e=O a) (d:base.StaysIn s.heap) (g:base.get? e=IS) (hd:a.data=.fields c) (h1:c[1]?=O .none) (i:a.dict=IS) (h0:c[2]?=O .none)
  (h:∀ j,Ym base (env::outer) e a.cls L j->s.heap.UpToSlots j->Q () { s with heap:=j }):wpAny M A (noteFrame (.ref e) env) Q E s:=by
 unfold noteFrame;simp only[l];erw[b7 (AC m hd h1 ?_)];rw[y6 (by decide)];rwa[Ww f n l m d g hd (B9.mp h1).1 i h0 h]
def au{env:D9}{outer:List D9}{Q:Unit->d8->Prop}
  (p:A.frames=O (env::outer)) (z:env.frame=O L) (r:zt base (env::outer) e cls s.heap)
  (h:∀ l,Ym base (env::outer) e cls L l->s.heap.UpToSlots l->Q () { s with heap:=l }):wpAny M A (noteFrame (.ref e) env) Q E s:=by
 obtain⟨n,u,H,I,y,T,J,G,B,⟨j,v,h0⟩,hd,h1,m,w,x,g,h3⟩:=r;subst j;unfold noteFrame;simp only[z];refine b7 (AC B hd h1 ?_);rw[y7 (show(j8 T != Ao)=IT from by simp)];refine b7 (AC x g h3 ?_);rw[y6 (show ¬ ((Ao == rawInt L)=IT) from by simp[rawInt])];refine b7 (B5 x g (B9.mp h3).1 ?_);have c:∀ b,b≠T->(s.heap.update T (BW (·.setIfInBounds 3 Ao))).get? b=s.heap.get? b:=λb f=>Av _ _ (AW f);have a:∀ b o,s.heap.get? b=O o->(∀ y,o.data≠.fields y)->b≠T:=λb o f d q=>by
  rw[q,x] at f; injection f with f; subst f; rwa[d G g]
 refine Ww p (H.of_keeps λb o f d=>⟨o,(c b (a b o f d)).trans f,rfl⟩) z ((c e (AW w)).trans B)
  (λb o i=>(c b λq=>by rw[q,m] at i; cases i).trans (n b o i)) u hd (B9.mp h1).1 v h0
  λl D C=>h l D λb o f d=>C b o ((c b (a b o f d)).trans f) d
def VY{base:v8}{Q:Unit->d8->Prop}(G:base.StaysIn s.heap/\base.get? e=IS/\s.heap.FunFrames base l/\gc s.heap base e cls H)
  (h:∀ y,zt base l e cls y->s.heap.UpToSlots y->Q () { s with heap:=y }):wpAny M A (setFlight (.ref e) IS) Q E s:=by
 obtain⟨v,w,D,C,u,T,I,z,B,p,hd,h1,n,r,x,i,h3⟩:=G;have j:3<z.size:=(B9.mp h3).1;have c:∀ b,b≠T->(s.heap.update T (BW (·.setIfInBounds 3 ((IS:Option c5).elim Ao λf=>rawInt f)))).get? b=s.heap.get? b :=
  λb d=>Av _ _ (AW d)
 have a:∀ b o,s.heap.get? b=O o->(∀ u,o.data≠.fields u)->b≠T:=λb o d g q=>by
  rw[q,x] at d; injection d with d; subst d; rwa[g z i]
 unfold setFlight;refine b7 (AC B hd h1 ?_);rw[y7 (show(j8 T != Ao)=IT from by simp)];refine B5 x i j (h _ ⟨λb o m=>(c b λq=>by rw[q,n] at m; cases m).trans (v b o m),w,
  D.of_keeps λb o d g=>⟨o,(c b (a b o d g)).trans d,rfl⟩,?_⟩ λb o d g=>⟨o.slots,(c b (a b o d g)).trans d⟩)
 rwa[C,u,T,_,_,(c e (AW r)).trans B,p,hd,h1,n,r,Bz _ x (CL (BC i _)),BC i _,by simp[j]]
def XU{Q:Unit->d8->Prop}(c:Ym base l e cls L s.heap)
  (h:∀ a,zt base l e cls a->s.heap.UpToSlots a->Q () { s with heap:=a }):wpAny M A (setFlight (.ref e) IS) Q E s:=VY c h
def cu{env:D9}{outer:List D9}{Q:Unit->d8->Prop}
  (a:A.frames=O (env::outer)) (n:env.frame=O L) (c:zt base (env::outer) e cls s.heap)
  (o:∀ d,zt base outer e cls d->s.heap.UpToSlots d->Q () { s with heap:=d }):wpAny M A (leaving env (.ref e)) Q E s:=by
 unfold leaving;erw[b7 (au a n c λh1 f h=>?_)];erw[XU f λh2 ⟨m,l,⟨_,_,j⟩,i⟩ g=>o h2 ⟨m,l,j,i⟩ (h.trans g)]
def ip{base h:v8}{env:D9}{outer:List D9}{Q:Unit->d8->Prop}
  (f:A.frames=O (env::outer)) (x:env.frame=O L) (a:base.StaysIn h) (w:h.FunFrames base (env::outer)) (d:Ho h s.heap e cls args)
  (z:∀ g,zt base outer e cls g->s.heap.UpToSlots g->Q () { s with heap:=g }):wpAny M A (leaving env (.ref e)) Q E s:=by
 obtain⟨t,y,u,B⟩:=d.there;have fresh:∀ b,h.get? b=IS->base.get? b=none:=λb c=>by
  cases v:base.get? b with
  | none=>rfl
  | some m=>have:=a b m v; rw[c] at this; cases this
 unfold leaving;erw[b7 (gS f (w.of_keeps λb o c _=>⟨o,d.keeps b o c,rfl⟩) x y (λb o c=>d.keeps b o (a b o c)) (fresh e d.new) rfl rfl rfl rfl λh1 i l=>?_)];erw[XU i λh2 ⟨r,q,⟨_,_,p⟩,n⟩ j=>z h2 ⟨r,q,p,n⟩ (l.trans j)]
end
end L2

namespace L2
def wC.some{H:Hp}(x:wC P w H h a o):∃ ob,h.get? a=O ob:=by
 cases o with
 | lst d=>obtain⟨_,_,_,_,e⟩:=x; rwa[_,e]
 | tup d=>obtain⟨_,_,_,o,e,_⟩:=x; rwa[_,e]
 | dK c=>obtain⟨_,_,_,_,o,_,_,e,_⟩:=x; rwa[_,e]
 | dT c=>obtain⟨_,_,_,_,o,_,_,e,_⟩:=x; rwa[_,e]
 | set S n=>obtain⟨o,_,_,_,e,_⟩:=x; rwa[_,e]
 | ins C j fs=>obtain⟨_,_,_,e,_⟩:=x; rwa[_,e]
 | own y=>obtain⟨_,e⟩:=x; rwa[_,e]
 | xd fs=>obtain⟨_,⟨_,_,_,e,_⟩,_⟩:=x; rwa[_,e]
 | rng lo hi=>obtain⟨_,_,_,e⟩:=x; rwa[_,e]
 | frz ob u=>obtain⟨e,_⟩:=x; rwa[_,e]
 | tbl i=>rwa[_,x]
 | met f y=>rwa[_,x]
 | ext g=>obtain⟨_,⟨_,e⟩,_⟩:=x; rwa[_,e]
section
variable{fs:List c5}{H H':Hp}{h h2 h3 B:v8}{P:j7}{w:m9}
def un_on(u:Un fs [] H H' h h2)(st:B.StaysIn h3)(l:∀ b o d,h.get? b=O d->h2.get? b=O o->b ∉ fs->B.get? b=O o)
  (j:∀ b∈fs,∀ o,h2.get? b=O o->∃ g,h3.get? b=O { o with slots:=g }):Un fs [] H H' h h3 where
 keep:=λb o q n a c=>st _ _ (l b o o q (u.keep b o q n a c) a)
 slot:=λb o q n a c=>by
  obtain⟨g,e⟩:=u.slot b o q n a c;obtain⟨f,i⟩:=j b a _ e;rwa[f,i]
 free:=u.free
 there:=λb o q c=>by
  obtain⟨d,e⟩:=u.there b o q c;by_cases a:b∈fs
  ·obtain⟨g,i⟩:=j b a _ e;rwa[_,i]
  ·rwa[d,st _ _ (l b d o q e a)]
 tups:=u.tups
 frzs:=u.frzs
 tbls:=u.tbls
def Tu(ok:HOk P w H' h2)(st:B.StaysIn h3)(d:∀ b o u,H' b=O u->h2.get? b=O o->B.get? b=O o):HOk P w H' h3:=λa o e =>
 (ok a o e).stay (λb u c q=>st _ _ (by
  rcases c with rfl | c
  ·rwa[d _ u o e q]
  ·rwa[d b u _ c q])) (λ_ q=>q) λ_ _ q=>q
end
structure Yj(P:j7)(w:m9)(outer:List D9)(H:Hp)(s:d8)(ea:c5)(cls:c6)(H':Hp)(B:v8)(s':d8):Prop where
 mk ::
 os:s'.os=s.os
 bare:DY s'.gens
 un:Un (frs outer) [] H H' s.heap s'.heap
 hok:HOk P w H' s'.heap
 new:H' ea=IS
 fresh:s.heap.get? ea=IS
 fly:zt B outer ea cls s'.heap
 has:∀ b o,s'.heap.get? b=O o->((s.heap.get? b).isSome=IT\/(H' b).isSome=IT)->b ∉ frs outer->B.get? b=O o
def CX1(P:j7)(w:m9):CXT:=λouter H s E e d=>∃(a:c5)(cls:c6)(c:Hp)(B:v8),e=.ref a/\Yj P w outer H s a cls c B d/\E cls IS c
def CX1.none{H:Hp}(h:CX1 P w outer H s E0 e a):False:=let ⟨_,_,_,_,_,_,z⟩:=h; z
def jB{X:Cx}{s:St}{f:Hp}{B h3:v8}{env:D9}{outer:List D9}(p:X.stack=env::outer)(D:X.outer=outer)(C:X.ex=[])(r:env.frame=O X.env.locals)(J:Inv X H s f s2)
  (n:∀ b o,s2.heap.get? b=O o->((X.s₀.heap.get? b).isSome=IT\/(f b).isSome=IT)->b ∉ frs (env::outer)->B.get? b=O o) (y:f h=IS) (G:X.s₀.heap.get? h=IS)
  (fly:zt B outer h cls h3) (v:s2.heap.UpToSlots h3):Yj X.prog X.w outer X.H₀ X.s₀ h cls f B { s2 with heap:=h3 }:=by
 have st:=fly.1;have a:∀ b o,X.s₀.heap.get? b=O o->b ∉ frs outer->b ∉ frs (env::outer):=λb o q d z=>by
  rcases j4.mp (show b∈X.env.locals::frs outer by
   have:frs (env::outer)=X.env.locals::frs outer:=by unfold frs; rw[Bu,r]
   rw[<- this]; rwa[z]) with e | e
  ·have l:=m7 (g6 q) J.ok.above;rw[e] at l;rwa[BE _ l]
  ·rwa[d e]
 have trk:∀ b u,f b=O u->b ∉ frs (env::outer):=λb u e z=>by
  have:=J.stkFree b (by rw[p]; rwa[z]);rw[e] at this;cases this
 have fs:X.fs=frs outer:=by show frs X.outer=_; rw[D]
 have E:∀ b∈frs outer,∀ o,s2.heap.get? b=O o->∃ x,h3.get? b=O { o with slots:=x }:=λb d o e=>by
  obtain⟨_,c,i,A⟩:=J.stack.mem (show b∈X.stack.filterMap (·.frame) by
   rw[p];show b∈frs (env::outer);have:frs (env::outer)=X.env.locals::frs outer:=by unfold frs; rw[Bu,r]
   rw[this];rwa[.tail _ d])
  rw[e] at i;cases i;rwa[v b o e A]
 have un:Un (frs outer) [] X.H₀ f X.s₀.heap s2.heap:=by
  have:=J.base;rw[fs,C] at this;rwa[this]
 refine⟨J.os,J.bare,un_on un st (λb o c q e d=>n b o e (.inl (by rw[q]; rfl)) (a b c q d)) E,Tu J.hok st λb o u e q=>n b o q (.inr (by rw[e]; rfl)) (trk b u e),y,G,fly,λb o e z d=>?_⟩;have j:∃ c,s2.heap.get? b=O c:=by
  rcases z with z | z
  ·obtain⟨c,q⟩:=i3.mp z;exact un.there b c q (λz=>nomatch z)
  ·obtain⟨u,q⟩:=i3.mp z;exact(J.hok b u q).some
 obtain⟨c,i⟩:=j;have m:b ∉ frs (env::outer):=by
  rcases z with z | z
  ·obtain⟨c,q⟩:=i3.mp z;rwa[a b c q d]
  ·obtain⟨u,q⟩:=i3.mp z;rwa[trk b u q]
 have g:=n b c i z m;have:=st _ _ g;rw[show({ s2 with heap:=h3 } : d8).heap=h3 from rfl] at e;rw[this] at e;cases e;rwa[g]
def Yj.inv{a:St}{H e:Hp}(I:Inv X d a H s)(f:Yj X.prog X.w X.stack H s g cls e B c):Inv X d a e c :=
 I.call' (ch:=[]) f.os f.un f.hok f.bare λb z=>x4 z (by simp)
def Yl(X:Cx)(f:St->XK):Prop:=∀(d:List (c5×BD))(a:St)(H:Hp)(s:d8)(e:c6)(c:d8),Inv X d a H s->CX1 X.prog X.w X.stack H s (f a) e c->X.xe e c
def Th(X:Cx)(g:St->XK):Prop:=∀(f:List (c5×BD))(a:St)(H:Hp)(s:d8)(c:v8)(e:c5)(cls:c6)(d:List c6),Inv X f a H s->Ho s.heap c e cls d->g a cls IS H->X.xe (.ref e) { s with heap:=c }
def kR : Yl X (λ_=>E0):=λ_ _ _ _ _ _ _ h=>h.none.elim
section
variable{P:j7}{w:m9}{K:b9}{mg:g8->Option c6}{base:v8}{N:List g8}{qual:g8}{scope:Dy}{f:c5}{cd:c6}{A:Aq}{outer:List D9}{s:d8}{H:Hp}{E:XK}
def wg:Yl (cxOf (CX1 P w) P w K mg base N qual scope f cd A outer s H E) (λ_=>E):=by
 intro v p x u e r I h;obtain⟨d,cls,n,B,rfl,c,q⟩:=h;have J:=c.inv I;erw[cu (base:=B) (cls:=cls) (L:=s.heap.objs.size) I.ok.frames rfl c.fly λh3 fly l=>?_];erw[d,cls,n,B,rfl,jB (X:=cxOf (CX1 P w) P w K mg base N qual scope f cd A outer s H E) rfl rfl rfl rfl J (λb o e z m=>c.has b o e (z.imp (λz=>?_) id) m) c.new ?_ fly l,q]
 ·obtain⟨j,g⟩:=i3.mp z;obtain⟨i,a⟩:=I.base.there b j g (λz=>nomatch z);rw[a];rfl
 ·show s.heap.get? d=IS;cases g:s.heap.get? d with
  | none=>rfl
  | some j =>
   obtain⟨i,a⟩:=I.base.there d j g (λz=>nomatch z);rw[c.fresh] at a;cases a
def ZR:Th (cxOf (CX1 P w) P w K mg base N qual scope f cd A outer s H E) (λ_=>E):=by
 intro G C l c D e cls n I i q;have j:∀ env∈(cxOf (CX1 P w) P w K mg base N qual scope f cd A outer s H E).stack,∀ b,env.frame=O b->b∈frs (cxOf (CX1 P w) P w K mg base N qual scope f cd A outer s H E).stack:=λenv B b g=>Ec.mpr ⟨env,B,g⟩;have a:∀ b o,c.heap.get? b=O o->b ∉ frs (cxOf (CX1 P w) P w K mg base N qual scope f cd A outer s H E).stack->(Fl c.heap (frs (cxOf (CX1 P w) P w K mg base N qual scope f cd A outer s H E).stack)).get? b=O o:=λb o e g=>FT _ e g;refine ip (h:=c.heap) (base:=Fl c.heap (frs (cxOf (CX1 P w) P w K mg base N qual scope f cd A outer s H E).stack)) (cls:=cls) (args:=n) (L:=s.heap.objs.size) I.ok.frames rfl (λb o q=>F3 _ q) (PySem.W.funFrames_hide I.stack j) i λh3 fly p=>?_;have y:l e=none:=by
  cases z:l e with
  | none=>rfl
  | some u =>
   obtain⟨ob,m⟩:=(I.hok e u z).some;rw[i.new] at m;cases m
 erw[e,cls,l,_,rfl,jB (X:=cxOf (CX1 P w) P w K mg base N qual scope f cd A outer s H E) (s2:=c) rfl rfl rfl rfl I (λb o e _ g=>a b o e g) y ?_ fly ((Ih i.keeps).trans p),q];show s.heap.get? e=IS;cases r:s.heap.get? e with
 | none=>rfl
 | some x =>
  obtain⟨v,d⟩:=I.base.there e x r (λz=>nomatch z);rw[i.new] at d;cases d
def Fun.okX{x qual:g8}{st:Ae}{f:c5}{fd:AN}{N g:List g8}{k:Nat}{e:Sp}(F:Fun K x qual st f fd)(S:zL N g (zG st))(len:∀ c H Q E,e c H Q E->c.length=g.length)
  (d:∀(a:c6)(A:Aq)(outer:List D9)(s:d8)(H:Hp)(c:List V)(Q:VK)(E:XK),qZ k (A.deeper (envOfC qual (zG st) s.heap.objs.size f a))->e c H Q E ->
   ∃ t,PSs (cxOf (CX1 P w) P w K mg base N qual (zG st) f a A outer s H E) (wA st) t/\t { nx:=λ_ n=>Q .non n,rt:=Q } (kX N c) H):yN P w K mg base (CX1 P w) (k+1) f fd g e:=by
 obtain⟨q,p,kV,m,o,r,a,ct,j,rfl,lk,i⟩:=F.ex;rwa[Sw lk i S len λA outer s H c Q E l h=>d a A outer s H c Q E l h]
end
def ae(P:j7)(w:m9)(K:b9)(mg:g8->Option c6)(base:v8)(x:g8)(n:Nat)(a:List g8)(c:Sp):Prop :=
 ∃(f:c5)(fd:AN),yN P w K mg base (CX1 P w) n f fd a c/\nh K fd a []/\AQ K (.ref f)=IT/\mg x=O (.ref f)
section
variable{X:Cx}{n:Nat}{f:c5}{fd:AN}{ps:List g8}{sp:Sp}{x m:g8}{p pos apos:Dm}{e o:An}{es:List An}{ta:TE}{t:TA}{EE:St->XK}{C g:c5}
def Vv{c:St}{H:Hp}{Q:VK}(F:yN X.prog X.w X.K X.mg X.base (CX1 X.prog X.w) n f fd ps sp)(y:qZ n X.A)(B:nh X.K fd ps [])(v:Yl X EE)
  (I:Inv X l c H s) (r:yS j a) (h:sp j H Q (EE c)):wpAny (model X.prog X.w) X.A (call (.ref f) a) (EP X l c Q) X.xe s:=by
 have z:a.length=ps.length:=by rw[<- r.length]; rwa[F.len _ _ _ _ h]
 have i:=B s a I.kIn (by rw[Cf]; rwa[z]);rw[Cf] at i;erw[F6 (codeAny_mono (F.run X.A X.stack s H ⟨a,[]⟩ a j Q (EE c) y I.env0 i r h) λr q d=>?_)];cases r with
 | error e=>rwa[v l c H s e q I d]
 | ok D =>
  cases D with
  | ret u=>rwa[I.after d]
  | next=>rwa[AZ d]
  | brk=>rwa[AZ d]
  | cont=>rwa[AZ d]
def Tx(sp:Sp)(EE:St->XK)(t:TA):TE:=λa H Q=>t a H λc d=>sp c d Q (EE a)
def tE(EE:St->XK)(h:ae X.prog X.w X.K X.mg X.base x n ps sp)(j:Yl X EE)(l:qZ n X.A)(y:Gl X x)
  (D:PA X (e::es) t) (c:(x ==("__debug__" : g8))=false:=by decide) (z:starEach (e::es) X.env=(IU,eval e X.env)::starEach es X.env:=by rfl) (a:(backTo pos (starEach es X.env)).any (·.1)=false:=by rfl) :
  PE X (.Call (.Name x p) (e::es) [] pos) (Tx sp EE t):=by
 obtain⟨f,fd,F,B,v,u⟩:=h;intro E s i H Q I h;erw[BX (yn I y u ?_ c)];erw[Dk (h₀:=X.base) I.ok.mod.kin v (thn (D pos E s i H _ I h) λJ L ⟨G,M,d,r,q⟩=>⟨d.kIn,?_⟩) z a];rwa[Vv F l B j d r q]
def PS.nox{st:Ae}{t:TS}(h:PS X.nox st t):PS X st t:=λd s a H D I c =>
 Cm (h d s a H D (I.wish _) c) (λ_ _ q=>q.unwish) λ_ _ z=>AZ z
def TZ(cls:c6)(EE:St->XK)(t:TA):TS:=λ_ a H=>t a H λc d=>c.length<=sizeLine/\EE a cls IS d
def Xu(EE:St->XK)(a:IH x C u d X.mg X.base)(Fn:ExcBaseFacts Bn d z J)(G:u.contains (.type Bn)=IT)(FB:ExcBaseFacts B w i u)(hx:Th X EE)
   (ha:PA X (e::es) t) (hc:X.calm=true:=by rfl) (hg:Gl X x:=by rfl) (hd:(x ==("__debug__" : g8))=false:=by decide) (he:starEach (e::es) X.env=(IU,eval e X.env)::starEach es X.env:=by rfl) (A:(backTo c (starEach es X.env)).any (·.1)=false:=by rfl) :
  PS X (.Raise (O (.Call (.Name x np) (e::es) [] c)) IS pos) (TZ (.ref C) EE t):=by
 obtain⟨tl,N,nm,q,bs,j,M,sub,ab,l,dd,Z,Y,S,R,Q,P,hC,hN,E,T⟩:=a.obj;intro IV s L H D I h;refine wpAny_Raise_call_subU (C:=C) (nm:=nm) (q:=q) (N:=N) (bs:=bs) (bm:=tl) (hdct:=j) (sn:=M) (sub:=sub) (ab:=ab) (col:=l) (dd:=dd) (k0:=Z) (k1:=Y) (k2:=S) (k3:=R) (k5:=Q)
  Fn G FB (mN:=P) (T.hasType FB.hasBase) (I.ok.hd hc) (by rw[he]; show(IU||(backTo c (starEach es X.env)).any (·.1))=IU; rw[A]; rfl) E (yn I hg a.bound ⟨rfl,?_⟩ hd)
 have h:=ha c IV s L H _ I h;rw[he] at h ⊢;erw[DG (Cm h (λus s2 ⟨vs,H1,v,r,len,q⟩=>⟨rfl,?_,v.bk _ _ hC,hN.keeps v.bk,T.keeps v.bk,λh' e hm=>?_⟩) λ_ _ y=>y)]
 ·rw[<- r.length]; rwa[len]
 ·rwa[hx IV L H1 s2 h' e _ _ v hm q]
end
end L2

namespace L2
abbrev TJ:=St->Hp->(Hp->Prop)->Prop
section
variable{X:Cx}{e:An}{es:List An}{t:TJ}{te:TE}{pos p:Dm}{n:Nat}
def PJ(X:Cx)(es:List An)(n:Nat)(t:TJ):Prop:=∀(f:List (c5×BD))(s:d8)(c:St)(H:Hp)(k:Nat)(a:g8)(Q:g8->d8->Prop)(C:Hp->Prop),Inv X f c H s->a.length<=2000*k->k+n<=100 ->
 t c H C->(∀(g:Hp)(out:g8)(d:d8),C g->out.length<=200000->Inv X f c g d->Q out d)->Joins (model X.prog X.w) X.A X.xe (evalEach es X.env) a Q s
def UI:TJ:=λ_ H K=>K H
def Tl(te:TE)(t:TJ):TJ:=λa H K=>te a H λv c=>((∃ i,v=.int i/\i.natAbs.log2<1920)\/∃ x,v=.str x/\x.length<=1000)/\t a c K
def Tg:PJ X [] 0 UI:=λ_ s _ H _ a _ _ I h c q z=>z H a s q (by lia) I
def Ts{c:g8}{j:Nat}(f:PJ X es n t)(m:c.length<=1000:=by decide)(g:evalEach (.Constant (.str c) j p::es) X.env=eval (.Constant (.str c) j p) X.env::evalEach es X.env:=by rfl):PJ X (.Constant (.str c) j p::es) (n+1) t:=by
 intro i s d H k a Q C I h l q z;rw[g];erw[F4 ⟨c,_,rfl,?_,?_⟩]
 ·rw[strLen_append];show a.length+c.length<=2^24;lia
 ·rwa[f i _ d H (k+1) _ _ C (I.tok _) (by rw[strLen_append]; lia) (by lia) q z]
def TN(L:PE X e te)(B:PJ X es n t)(M:evalEach (.FormattedValue e (-1) IS p::es) X.env=eval (.FormattedValue e (-1) IS p) X.env::evalEach es X.env:=by rfl):PJ X (.FormattedValue e (-1) IS p::es) (n+1) (Tl te t):=by
 intro m s g H k d Q C I h P q z;rw[M];erw[wpAny_FormattedValue_plain (thn (L m s g H _ I q) λu J ⟨v,E,D,r,c,o⟩=>?_)];rcases c with ⟨i,rfl,hi⟩ | ⟨x,rfl,N⟩
 ·obtain⟨G,rfl⟩:=(show ∃ t,u=BH i t from r);have l:=int_text_length_le (k:=1920) (by decide) hi;rw[<- DA] at l;erw[wpAny_formatField_int hi ⟨_,_,rfl,?_,?_⟩]
  ·rw[strLen_append];show d.length+_<=2^24;lia
  ·rwa[B m _ g E (k+1) _ _ C (D.tok _) (by rw[strLen_append]; lia) (by lia) o z]
 ·obtain⟨G,rfl⟩:=(show ∃ t,u=CZ x t from r);have j:∀(f:IA)(a:Nat),∃ y t,CZ x f=.str y t/\(d++y).length<=sizeLine/\Joins (model X.prog X.w) X.A X.xe (evalEach es X.env) (d++y) Q { J with toks:=a }:=λf a =>
   ⟨x,f,rfl,by rw[strLen_append]; show d.length+x.length<=2^24; lia,B m _ g E (k+1) _ _ C (D.tok _) (by rw[strLen_append]; lia) (by lia) o z⟩
  exact formatField_str (λf a=>j f a) (by show x.length<=2^24; lia)
def UP(t:TJ):TE:=λa H Q=>t a H λc=>∀ x:g8,x.length<=200000->Q (.str x) c
def VJ{a b:An}(f:PJ X (a::b::es) n t)(o:n<=100:=by decide):PE X (.JoinedStr (a::b::es) pos) (UP t):=by
 intro g s d H Q I h;exact wpAny_JoinedStr (f g s d H 0 Ie _ _ I (by decide) (by lia) h λj out m c l i=>⟨by show out.length<=2^24; lia,.str out,j,i.tok _,⟨_,rfl⟩,c out l⟩)
end
def bmV:List c6:=[.type "ValueError",.type "Exception",.type "BaseException",.type "object"]
end L2

namespace L2
def Xo(w:m9)(x:g8):keyH w (.inr x)=D7 w.params x:=rfl
def bv{w:m9}{B:v8}{l:List (g8×Nat×V×c6)}{ep:Nat}(h:B.get? a=O ⟨.type "dict",IS,.dict ((l.map λe=>(⟨D7 w.params e.1,.str e.1 e.2.1,e.2.2.2⟩:CH)).toArray) ep,#[]⟩)
  (r:∀ e∈l,xI e.2.2.1 e.2.2.2) (nd:(l.map (·.1)).Nodup):Uu P w B a (l.map λe=>(.inr e.1,e.2.2.1)):=by
 erw[l.map λe=>(.inr e.1,e.2.2.2),?_,_,_,ep,h,⟨rfl,rfl,rfl⟩,rfl,λe c=>?_,?_,?_]
 ·clear h nd
  induction l with
  | nil=>rwa[.nil]
  | cons e l d=>rwa[.cons ⟨rfl,r e (.head _)⟩ (d λe c=>r e (.tail _ c))]
 ·have c:e∈l.map λe=>(⟨D7 w.params e.1,.str e.1 e.2.1,e.2.2.2⟩:CH):=by simpa using c
  obtain⟨q,_,rfl⟩:=g7.mp c;rwa[.inr q.1,wy P w q.1 q.2.1,(Xo w q.1).symm]
 ·rw[List.toList_toArray];clear h nd r
  induction l with
  | nil=>rwa[.nil]
  | cons e l d=>rwa[.cons (wy P w e.1 e.2.1) rfl d]
 ·rw[AE];have:((λe:Key×c6=>e.1) ∘ λe:g8×Nat×V×c6=>((.inr e.1:Key),e.2.2.2))=(λx:g8=>(.inr x:Key)) ∘ λe=>e.1:=rfl;rw[this,<- AE];erw[B8.mpr (Dw.mpr ((B8.mp nd).imp λn z=>n ?_))];injection z
def XJ(a:Array CH):Bool:=a.toList.all λe=>match e.key with | .str _ _=>IT | _=>IU
def bo(h:XJ a=IT):StrKeys a:=λe c=>by
 have:=AG.mp h e (by simpa using c);cases q:e.key <;> rw[q] at this <;> first | exact⟨_,_,U⟩ | cases this
def fY(K:b9)(N:c5):Bool:=match K.lookup N with
 | some ⟨_,_,.dict a _,_⟩=>XJ a&&(nsFind a "__init__").isNone
 | _=>IU
def iM{K:b9}(X:K.In B)(h:fY K N=IT):∃ m,B.Ns N m/\m "__init__" = none:=by
 unfold fY at h;split at h
 ·rename_i c d a e f q
  rw[AJ] at h;exact⟨nsFind a,⟨_,a,e,X _ _ q,U,bo h.1,λ_=>rfl⟩,by simpa using h.2⟩
 ·cases h
def fU(K:b9):List c6->Bool
 | []=>IU
 | .ref A::a=>(match K.lookup A with | some ⟨_,_,.cls c,_⟩=>fY K c.ns&&fU K a | _=>IU)
 | v::a=>(v::a) == bmV
def jK{K:b9}(X:K.In B):∀{a:List c6},fU K a=IT->OwnTail B bmV a
 | [],h=>by cases h
 | .ref A::a,h=>by
  unfold fU at h;split at h
  ·rename_i c d g f q
   rw[AJ] at h;obtain⟨m,h1,h2⟩:=iM X h.1;rwa[.own (X _ _ q) h1 h2 (jK X h.2)]
  ·cases h
 | .type T::a,h=>by
  have e:(Fc T::a)=bmV:=beq_iff_eq.mp h;rw[e];rwa[.base]
 | .none::a,h=>by have e:(Ao::a)=bmV:=beq_iff_eq.mp h; rw[e]; rwa[.base]
 | .bool b::a,h=>by have e:(Fb b::a)=bmV:=beq_iff_eq.mp h; rw[e]; rwa[.base]
 | .int i t::a,h=>by have e:(BH i t::a)=bmV:=beq_iff_eq.mp h; rw[e]; rwa[.base]
 | .float i t::a,h=>by have e:(FD i t::a)=bmV:=beq_iff_eq.mp h; rw[e]; rwa[.base]
 | .str i t::a,h=>by have e:(CZ i t::a)=bmV:=beq_iff_eq.mp h; rw[e]; rwa[.base]
 | .bytes i t::a,h=>by have e:(GZ i t::a)=bmV:=beq_iff_eq.mp h; rw[e]; rwa[.base]
 | .builtin i::a,h=>by have e:(Value.builtin i::a)=bmV:=beq_iff_eq.mp h; rw[e]; rwa[.base]
def To(K:b9)(C:c5):Bool:=match K.lookup C with
 | some ⟨.type "type",_,.cls a,c⟩=>(match a.mro,c.toList with
  | .ref e::d,[_,_,_,_,O (.builtin n),_]=>e == C&&(!a.hasDel&&(n == "ValueError.__new__" && (fY K a.ns&&fU K d)))
  | _,_=>IU)
 | _=>IU
def ZP{K:b9}{mg:g8->Option c6}(X:K.In B)(w:mg x=O (.ref C))(q:To K C=IT):IH x C bmV "ValueError.__new__" mg B:=by
 unfold To at q;split at q
 ·rename_i z A f v
  split at q
  ·rename_i G D o j i h n g c p
   simp only[AJ,beq_iff_eq,Bool.not_eq_true'] at q;obtain⟨rfl,a,rfl,hi,u⟩:=q;obtain⟨nm,bs,mro,ns,s,hd,r,sub,E,e,y⟩:=A;dsimp only at c a hi;subst c a;have d:f = #[o,j,i,h,O (.builtin "ValueError.__new__"),g]:=by
    obtain⟨l⟩:=f;simp only at p;rw[p]
   subst d;obtain⟨m,h1,h2⟩:=iM X hi;rwa[w,D,ns,nm,s,bs,hd,r,sub,E,e,z,o,j,i,h,g,m,X _ _ v,h1,h2,jK X u]
  ·cases q
 ·cases q
def fX{F K:b9} : Am a (F++K)=match Am a F with | some o=>O o | none=>Am a K:=by
 induction F with
 | nil=>rfl
 | cons e F c =>
  rw[GN,t6,t6];cases a == e.1 with
  | true=>rfl
  | false=>rwa[c]
def kz:∀{F:b9}{a:c5}{o:BD},Am a F=O o->(a,o)∈F
 | [],_,_,h=>by cases h
 | (b,u)::F,a,o,h=>by
  rw[t6] at h;cases z:a == b with
  | true =>
   rw[z] at h;cases h;rw[beq_iff_eq.mp z];rwa[.head _]
  | false =>
   rw[z] at h;rwa[.tail _ (kz h)]
def ZU{F K:b9}(n:(F.map (·.1)).all (λa=>(Am a K).isNone)=IT)(X:AF (F++K) h):AF K h:=λa o q=>X a o (by
 rw[fX];cases z:Am a F with
 | none=>rwa[q]
 | some u =>
  have m:a∈F.map (·.1):=g7.mpr ⟨(a,u),kz z,rfl⟩;have:=AG.mp n a m;rw[q] at this;cases this)
def bz{F K:b9}(n:(F.map (·.2.cls)).all (λc=>!(c == .type "list"))=IT)(h:Am a (F++K)=O o)(c:o.cls=.type "list"):Am a K=O o:=by
 rw[fX] at h;cases z:Am a F with
 | none=>rw[z] at h; rwa[h]
 | some u =>
  rw[z] at h;have h:O u=O o:=h;injection h with h
  subst h;have:=AG.mp n u.cls (g7.mpr ⟨(a,u),kz z,rfl⟩);rw[c] at this;simp at this
def walk_of3{l:Ft}{n k:Nat}{XP:(g8->Option c6)->v8->Prop}{L:m9->v8->Prop}{d:DefRec}{KK:Cy->b9}{K:b9}{sp:Sp}{x:g8}
  (P:l.most=O n) (B:n<=sizeLine) (D:d.params.defaults=[]) (N:qZ k callerA)
  (X:∀(w:m9)(h:v8),L w h->(KK w.params).In h) (sub:∀(p:Cy)(h:v8),(KK p).In h->K.In h) (past:∀(p:Cy)(a:c5)(o:BD),Am a (KK p)=O o->o.cls=.type "list" -> Am a K=O o)
  (F:∀(w:m9)(mg:g8->Option c6)(r:c5)(h:v8),(KK w.params).In h->h.Ns mainGlobals mg->mg d.name=O (.ref r) ->
   ∃ fd:AN,(∀(s:d8)(u:c6),Fe s fd ⟨[u],[]⟩ [(x,u)]) /\
    ∀ base:v8,(KK w.params).In base->base.Ns mainGlobals mg->yN l.prog w K mg base CX0 k r fd [x] sp)
  (A:∀(H:Hp)(a:c5)(ns:List Int),ns.length<=n->SqL K H a (ns.map V.int)->sp [.ref a] H (λv _=>v=.bl IT) λ_ _ _=>False) :
  HY q i XP L l.row.toRowW d [] (λf E=>Hj f E):=by
 erw[Att.attach_call P D λw s₀ I mg mb r o pm cd doc a E ns G Y ho hd R C m j c Q=>?_];have M:=X w _ Y;obtain⟨fd,S,hF⟩:=F w mg r _ M G.T.g C;erw[YC (K:=KK w.params) M G.T.g G.T.b G.T.builtins G.T.nolimit Q m j (f8 c B) N (λbase J hN=>(hF base J hN).withK (sub _ _ J)) S (λH hO Z=>A H a ns c ?_) λH e s' z=>z];rcases Z with h | ⟨o,y,n,h1,h2,h3⟩
 ·rwa[.inl h]
 ·rwa[.inr ⟨o,y,n,past _ _ _ h1 h2,h2,h3⟩]
end L2

namespace Sea
def cN{a b c:Int}{M N:Nat}(h:a≠0\/b≠0)(f:a.natAbs<=M)(e:b.natAbs<=M)(d:c.natAbs<=N):∃ x y z:Int,rF [a,b,c]=[x,y,z]/\(x≠0\/y≠0)/\x.natAbs<=M/\y.natAbs<=M/\z.natAbs<=N:=by
 erw[_,_,_,rfl,h.imp (λn z=>n ?_) (λn z=>n ?_),f8 (By _ _) f,f8 (By _ _) e,f8 (By _ _) d]
 ·have:=yX (ns:=[a,b,c]) (n:=a) (.head _);rw[show _/_=(0:Int) from z,x9] at this;rwa[this.symm]
 ·have:=yX (ns:=[a,b,c]) (n:=b) (.tail _ (.head _));rw[show _/_=(0:Int) from z,x9] at this;rwa[this.symm]
def Wt{a b:Int}{M N:Nat}(d:a.natAbs<=M)(c:b.natAbs<=N):(a*b).natAbs<=M*N:=by
 rw[Ef];rwa[Hk d c]
def Vm(M N:Nat)(r:List Int):Prop:=∃ x y z:Int,r=[x,y,z]/\(x≠0\/y≠0)/\x.natAbs<=M/\y.natAbs<=M/\z.natAbs<=N
section
variable{S:BS}{D:Deed}
def cz(o:∀ e∈S.marks,vw e.2)(kn:rO S D):∀ r∈vT S D,Vm 2000 (2000000) r:=by
 match D,kn with
 | .bearing m n a b c d,kn =>
  obtain⟨_,_,h1,⟨q,w1,A,y,x⟩,⟨p,w,v,u,s⟩⟩:=kn;dsimp only at w1 A y x w v u s;obtain⟨pt,f⟩:=i3.mp h1;obtain⟨n1,n2,n3,n4⟩:=xX o f;rw[show vT S (.bearing m n a b c d)=[rF [-b,a,a*(xU S n).2-b*(xU S n).1],rF [d,-c,(xU S n).1*d-(xU S n).2*c]] from rfl,xH f];have H:a≠0\/b≠0:=by
   by_cases e:a=0
   ·rwa[.inr λj=>q (by rw[e,j])]
   ·rwa[.inl e]
  have G:c≠0\/d≠0:=by
   by_cases e:c=0
   ·rwa[.inr λj=>p (by rw[e,j])]
   ·rwa[.inl e]
  have C:=Wt (a:=a) (b:=pt.2) (M:=100) (N:=1000) (by lia) (by lia);have B:=Wt (a:=b) (b:=pt.1) (M:=100) (N:=1000) (by lia) (by lia);have R:=Wt (a:=pt.1) (b:=d) (M:=1000) (N:=100) (by lia) (by lia);have Q:=Wt (a:=pt.2) (b:=c) (M:=1000) (N:=100) (by lia) (by lia);intro r i;rcases j4.mp i with e | i
  ·rw[e];rwa[cN (by lia) (by lia) (by lia) (by lia)]
  ·rw[e8.mp i];rwa[cN (by lia) (by lia) (by lia) (by lia)]
 | .range m l r,kn =>
  obtain⟨_,_,h1,h2,ne⟩:=kn;obtain⟨pt,f⟩:=i3.mp h1;obtain⟨h,g⟩:=i3.mp h2;obtain⟨n1,n2,n3,n4⟩:=xX o f;obtain⟨P,L,J,I⟩:=xX o g;have ne:pt≠h:=λz=>ne (by rw[f,g,z]);have nz:pt.2-h.2≠0\/h.1-pt.1≠0:=by
   by_cases e:pt.2=h.2
   ·rwa[.inr λj=>ne (Gk (by lia) e)]
   ·rwa[.inl (by lia)]
  have C:=Wt (a:=h.1) (b:=pt.2) (M:=1000) (N:=1000) (by lia) (by lia);have B:=Wt (a:=h.2) (b:=pt.1) (M:=1000) (N:=1000) (by lia) (by lia);intro E i;rw[e8.mp i,xH f,xH g];rwa[cN nz (by lia) (by lia) (by lia)]
def ZN{runs:List (Int×Int)}{i j:Nat}(h:runs.length<=60)(g:∀ e∈runs,vw e):(uA runs i j).1.natAbs<=60000/\(uA runs i j).2.natAbs<=60000:=by
 have f:∀ e∈qY runs i j,e∈runs:=λe c=>AS (AT c);have l:=wm runs i j;have a:=ox ((qY runs i j).map (·.1)) 1000 λx d=>by
  obtain⟨e,c,rfl⟩:=g7.mp d;obtain⟨n,m,_,_⟩:=g e (f e c);lia
 have b:=ox ((qY runs i j).map (·.2)) 1000 λx d=>by
  obtain⟨e,c,rfl⟩:=g7.mp d;obtain⟨_,_,n,m⟩:=g e (f e c);lia
 rw[ac] at a b;unfold uA tW;split <;> rwa[by dsimp only; lia,by dsimp only; lia]
def rf{j:Nat}(g:lv S)(kn:rO S D):∀ r∈yM S j D,Vm 2000 (10^9) r:=by
 intro r f;unfold yM at f;obtain⟨x,m,rfl⟩:=g7.mp f;obtain⟨a,b,c,rfl,nz,l,h,p⟩:=cz g.mk_ kn x m;obtain⟨e,d⟩:=ZN (i:=(wD D).toNat) (j:=j) g.few.ru g.way;generalize uA S.runs (wD D).toNat j=ld at e d;have o:=Wt l e;have n:=Wt h d;exists a,b,c+a*ld.1+b*ld.2,U,nz,l,h;have:=EI (c+a*ld.1) (b*ld.2);have:=EI c (a*ld.1);lia
end
def p3:List Int->P3
 | [a,b,c]=>(a,b,c)
 | _=>(0,0,0)
def af{H:Hp} : ∀{as:List c5}{rows:List (List Int)},yI H as rows->(∀ r∈rows,Vm 2000 (10^9) r)->∃ c:List Sd,c.map (·.1)=as/\jv H c/\c.map (·.2)=rows.map p3
 | [],[],_,_=>⟨[],rfl,λt d=>(nomatch d),rfl⟩
 | [],_::_,h,_=>by have:=h.len; simp at this
 | _::_,[],h,_=>by have:=h.len; simp at this
 | a::as,r::rows,h,ok=>by
  obtain⟨x,y,z,rfl,nz,m,l,i⟩:=ok r (.head _);have e:=h.at_ 0 a [x,y,z] rfl rfl;obtain⟨c,s,p,o⟩:=af (as:=as) (rows:=rows) ⟨by have:=h.len; simpa using this,λj b g n f=>h.at_ (j+1) b g (by simpa using n) (by simpa using f)⟩ λr f=>ok r (.tail _ f);erw[(a,x,y,z)::c,by rw[g9,s],λt d=>?_,by rw[g9,g9,o]; rfl];rcases j4.mp d with q | q
  ·rw[q];rwa[e,nz,f8 m (by decide),f8 l (by decide),f8 i (by decide)]
  ·rwa[p t q]
end Sea

namespace Sea
section
variable{H:Hp}{v:V}
def VS{x y:Int}(h:Rep H (Deed.move n x y).dt v):∃ a,v=.ref a/\H a=O (.tup [.str "move",.str n,.int x,.int y]):=by
 obtain⟨a,i,e,h1,h2⟩:=xG.mp h;obtain⟨_,_,rfl,g,h2⟩:=zJ.mp h2;obtain⟨_,_,rfl,f,h2⟩:=zJ.mp h2;obtain⟨_,_,rfl,d,h2⟩:=zJ.mp h2;obtain⟨_,_,rfl,c,h2⟩:=zJ.mp h2;rw[yG.mp g,yG.mp f,yQ.mp d,yQ.mp c,yC.mp h2] at h1;rwa[a,e,h1]
def cQ(h:Rep H (Deed.unmark n).dt v):∃ a,v=.ref a/\H a=O (.tup [.str "unmark",.str n]):=by
 obtain⟨a,f,e,h1,h2⟩:=xG.mp h;obtain⟨_,_,rfl,d,h2⟩:=zJ.mp h2;obtain⟨_,_,rfl,c,h2⟩:=zJ.mp h2;rw[yG.mp d,yG.mp c,yC.mp h2] at h1;rwa[a,e,h1]
def Yt(h:Rep H (Deed.level n).dt v):∃ a,v=.ref a/\H a=O (.tup [.str "level",.str n]):=by
 obtain⟨a,f,e,h1,h2⟩:=xG.mp h;obtain⟨_,_,rfl,d,h2⟩:=zJ.mp h2;obtain⟨_,_,rfl,c,h2⟩:=zJ.mp h2;rw[yG.mp d,yG.mp c,yC.mp h2] at h1;rwa[a,e,h1]
def YK{k x y:Int}(h:Rep H (Deed.right k x y).dt v):∃ a,v=.ref a/\H a=O (.tup [.str "right",.int k,.int x,.int y]):=by
 obtain⟨a,i,e,h1,h2⟩:=xG.mp h;obtain⟨_,_,rfl,g,h2⟩:=zJ.mp h2;obtain⟨_,_,rfl,f,h2⟩:=zJ.mp h2;obtain⟨_,_,rfl,d,h2⟩:=zJ.mp h2;obtain⟨_,_,rfl,c,h2⟩:=zJ.mp h2;rw[yG.mp g,yQ.mp f,yQ.mp d,yQ.mp c,yC.mp h2] at h1;rwa[a,e,h1]
structure CnAt(H:Hp)(cs:List (Int×Int))(ps:List Pr):Prop where
 mk ::
 pt:ps.map (·.2)=cs
 at_:∀ t∈ps,H t.1=O (.tup [.int t.2.1,.int t.2.2])
def mS:∀{g:List (Int×Int)}{i:List V},xS H (g.map ptD) i->∃ d:List Pr,i=sS d/\CnAt H g d
 | [],_,h=>⟨[],yC.mp h,rfl,λt f=>(nomatch f)⟩
 | c::g,_,h=>by
  obtain⟨x,r,rfl,h1,h2⟩:=zJ.mp h;obtain⟨a,rfl,j⟩:=si h1;obtain⟨d,rfl,e,h3⟩:=mS h2;erw[(a,c)::d,rfl,by rw[g9,e],λt f=>?_];rcases j4.mp f with z | z
  ·rw[z]; rwa[j]
  ·rwa[h3 t z]
def Zl(h:Rep H (Deed.bank n f).dt v):∃(a c:c5)(d:List Pr),v=.ref a/\H a=O (.tup [.str "bank",.str n,.ref c])/\H c=O (.tup (sS d))/\CnAt H f d/\Rep H (.tup (f.map ptD)) (.ref c):=by
 obtain⟨a,o,e,h1,h2⟩:=xG.mp h;obtain⟨_,_,rfl,j,h2⟩:=zJ.mp h2;obtain⟨_,_,rfl,i,h2⟩:=zJ.mp h2;obtain⟨_,_,rfl,g,h6⟩:=zJ.mp h2;obtain⟨c,m,rfl,h3,h4⟩:=xG.mp g;obtain⟨d,rfl,h5⟩:=mS h4;have l:=yC.mp h6;rw[yG.mp j,yG.mp i,l] at h1;rwa[a,c,d,e,h1,h3,h5,g]
end
def VF{x y:Int}(h:(zV S n).isSome=IT):Up (mkE S.marks) (.inr n) (ptD (x,y))=mkE (aft S (.move n x y)).marks:=by
 have any:(mkE S.marks).any (λe=>decide (e.1=.inr n))=true:=by
  obtain⟨p,e⟩:=i3.mp h;rwa[C3.mpr ⟨(.inr n,ptD p),g7.mpr ⟨(n,p),yb e,rfl⟩,by simp⟩]
 unfold Up;rw[y7 any];show _=mkE (S.marks.map _);unfold mkE;rw[AE,AE];erw[FV λe _=>?_];show(if (Cs e.1:Key)=Cs n then((Cs e.1:Key),ptD (x,y)) else(Cs e.1,ptD e.2))=_;by_cases z:e.1=n
 ·rw[y7 (by rw[z])];show _=((Cs (if e.1=n then(e.1,x,y) else e).1:Key),ptD (if e.1=n then(e.1,x,y) else e).2);rw[y7 z]
 ·rw[y6 (λq=>z (GY q))];show _=((Cs (if e.1=n then(e.1,x,y) else e).1:Key),ptD (if e.1=n then(e.1,x,y) else e).2);rw[y6 z]
def Xl(l:List (g8×Int×Int))(n:g8):jJ (mkE l) (.inr n)=mkE (l.filter λe=>decide (e.1≠n)):=by
 unfold jJ mkE;rw[Fs]
 congr 1
 erw[EG λe _=>?_];simp
def WG(l:List (g8×List (Int×Int))):(bkE l).length=l.length:=by unfold bkE; rw[ac]
def WU(l:List (g8×List (Int×Int)))(n:g8)(a:List (Int×Int)):bkE (l++[(n,a)])=bkE l++[(.inr n,.tup (a.map ptD))]:=by
 unfold bkE;rw[e7];rfl
def Yc(l:List (g8×List (Int×Int)))(n:g8):jJ (bkE l) (.inr n)=bkE (l.filter λe=>decide (e.1≠n)):=by
 unfold jJ bkE;rw[Fs]
 congr 1
 erw[EG λe _=>?_];simp
def Xq{l:List (g8×List (Int×Int))}{n:g8}(h:n ∉ l.map (·.1)):∀ e∈bkE l,e.1≠.inr n:=λe a z=>by
 unfold bkE at a;obtain⟨q,c,rfl⟩:=g7.mp a;rwa[h (g7.mpr ⟨q,c,GY z⟩)]
def Zd{a:List (Key×Dt)}{k:Key}(h:∀ e∈a,e.1≠k):look a k=none:=by
 unfold look;rw[Dv,B7];rwa[λe c z=>h e c (of_decide_eq_true z)]
def VP{a:List (Key×Dt)}{k:Key}(h:k∈a.map (·.1)):∃ d,look a k=O d:=by
 obtain⟨e,c,rfl⟩:=g7.mp h;unfold look;cases q:a.find? λx=>decide (x.1=e.1) with
 | none=>rwa[x4 (B7.mp q e c) (by simp)]
 | some x=>rwa[x.2,rfl]
def Tp{l:List (g8×List (Int×Int))}{n:g8}(h:n∈l.map (·.1)):∃ d,look (bkE l) (.inr n)=O d:=VP (by
 obtain⟨e,a,rfl⟩:=g7.mp h;rwa[g7.mpr ⟨_,g7.mpr ⟨e,a,rfl⟩,rfl⟩])
def xS.set{H:Hp}(h:Rep H d v):∀{l:List Dt}{a:List V}(i:Nat),xS H l a->xS H (l.set i d) (a.set i v)
 | [],_,i,q=>by rw[yC.mp q]; rwa[yC.mpr rfl]
 | d'::l,_,0,q=>by
  obtain⟨x,r,rfl,h1,h2⟩:=zJ.mp q;rwa[zJ.mpr ⟨v,r,rfl,h,h2⟩]
 | d'::l,_,i+1,q=>by
  obtain⟨x,r,rfl,h1,h2⟩:=zJ.mp q;rwa[zJ.mpr ⟨x,_,rfl,h1,xS.set h i h2⟩]
def Tv{n i:Nat}(h:i<n):ixN n (i:Int)=O i:=by
 unfold ixN;simp;lia
end Sea

namespace Sea
def BkL(C:c5)(H:Hp)(b p l:c5)(S:BS)(past later:List (Deed×BS)):Prop:=∃ e d a c,BkA C H b p e d l a c S past later
abbrev Bl(b p l:c5):c5->Prop:=λx=>x=b\/x=p\/x=l
section
variable{H H1:Hp}
def bl_nd(f:H b=O (.ins C j fs))(d:H p=O (.lst g))(e:H l=O (.lst i)):∀ a c,Rd H a (.dK c)->¬ Bl b p l a:=λa c h z=>by
 rcases z with z | z | z <;> subst z <;> rcases h with h | ⟨o,h⟩
 ·rw[f] at h; cases h
 ·rw[f] at h; cases h
 ·rw[d] at h; cases h
 ·rw[d] at h; cases h
 ·rw[e] at h; cases h
 ·rw[e] at h; cases h
def bl_np(i:H b=O (.ins C j fs))(f:H p=O (.lst d))(g:H l=O (.lst e)):∀ a c,H a=O (.tup c)->¬ Bl b p l a:=λa c h z=>by
 rcases z with z | z | z <;> subst z
 ·rw[i] at h; cases h
 ·rw[f] at h; cases h
 ·rw[g] at h; cases h
end
end Sea

namespace Sea
mutual
def uw:Dt->List g8
 | .int i=>[Br (toString i)]
 | .str x=>[x]
 | .tup l=>zf l
def zf:List Dt->List g8
 | []=>[]
 | d::l=>uw d++zf l
end
def VE:Nat->Dt->Prop
 | _,.int i=>i.natAbs.log2<1920
 | _,.str x=>x.length<=1921
 | 0,.tup _=>False
 | n+1,.tup l=>l.length<=900/\∀ d∈l,VE n d
mutual
def aY:∀(n:Nat)(d:Dt),VE n d->∀ w∈uw d,w.length<=1921
 | n,.int i,h,w,a=>by
  have h:i.natAbs.log2<1920:=by cases n <;> rwa[h]
  rw[uw] at a;rw[e8.mp a,DA];rwa[int_text_length_le (k:=1920) (by decide) h]
 | n,.str x,h,w,a=>by
  have h:x.length<=1921:=by cases n <;> rwa[h]
  rw[uw] at a;rw[e8.mp a];rwa[h]
 | 0,.tup _,h,_,_=>h.elim
 | n+1,.tup l,h,w,a=>by
  rw[uw] at a;rwa[mL n l h.2 w a]
def mL:∀(n:Nat)(l:List Dt),(∀ d∈l,VE n d)->∀ w∈zf l,w.length<=1921
 | _,[],_,w,a=>by rw[zf] at a; exact nomatch a
 | n,d::l,h,w,a=>by
  rw[zf] at a;rcases i7.mp a with z | z
  ·rwa[aY n d (h d (.head _)) w z]
  ·rwa[mL n l (λd hd=>h d (.tail _ hd)) w z]
end
mutual
def qB:Dt->List Dt
 | .int i=>[.int i]
 | .str x=>[.str x]
 | .tup l=>sR l
def sR:List Dt->List Dt
 | []=>[]
 | d::l=>qB d++sR l
end
def w1:Dt->g8
 | .int i=>Br (toString i)
 | .str x=>x
 | .tup _=>Ie
mutual
def jQ:∀ d:Dt,uw d=(qB d).map w1
 | .int i=>by rw[uw,qB]; rfl
 | .str x=>by rw[uw,qB]; rfl
 | .tup l=>by rw[uw,qB]; rwa[vj l]
def vj:∀ l:List Dt,zf l=(sR l).map w1
 | []=>by rw[zf,sR]; rfl
 | d::l=>by rw[zf,sR,e7,jQ d,vj l]
end
mutual
def bZ:∀(n:Nat)(d:Dt),VE n d->∀ e∈qB d,VE 0 e
 | n,.int i,h,e,a=>by
  rw[qB] at a;rw[e8.mp a];cases n <;> rwa[h]
 | n,.str x,h,e,a=>by
  rw[qB] at a;rw[e8.mp a];cases n <;> rwa[h]
 | 0,.tup _,h,_,_=>h.elim
 | n+1,.tup l,h,e,a=>by
  rw[qB] at a;rwa[lO n l h.2 e a]
def lO:∀(n:Nat)(l:List Dt),(∀ d∈l,VE n d)->∀ e∈sR l,VE 0 e
 | _,[],_,e,a=>by rw[sR] at a; exact nomatch a
 | n,d::l,h,e,a=>by
  rw[sR] at a;rcases i7.mp a with z | z
  ·rwa[bZ n d (h d (.head _)) e z]
  ·rwa[lO n l (λd hd=>h d (.tail _ hd)) e z]
end
end Sea

namespace Sea
structure Tame(S:BS)(k:Nat):Prop where
 mk ::
 ma:∀ e∈S.marks,sI e.1
 ba:∀ e∈S.banks,sI e.1
 ru:S.runs.length<=k
 no:∀ e∈S.notes,0<=e.1/\e.1<=S.coming
 co:0<=S.coming/\S.coming<=1+k
def Bd(S:BS)(B:Nat):Prop:=∀ e∈S.marks,e.2.1.natAbs<=B/\e.2.2.natAbs<=B
structure GrowD(S:BS)(D:Deed)(B:Nat):Prop where
 mk ::
 ok:okD S D
 bd:Bd (aft S D) (B+5)
 lo:S.marks.length<=(aft S D).marks.length
 hi:(aft S D).marks.length<=S.marks.length+1
 bk:(aft S D).banks=S.banks
end Sea

namespace L2
abbrev calmA(A:Aq):Aq:={ A with handled:=IS }
structure FnOkH(P:j7)(w:m9)(K:b9)(mg:g8->Option c6)(base:v8)(k:Nat)(f:c5)(fd:AN)(ps:List g8)(sp:c5->Sp):Prop where
 mk ::
 len:∀ x vs H Q E,sp x vs H Q E->vs.length=ps.length
 run:∀(x:c5)(A:Aq)(outer:List D9)(s:d8)(H:Hp)(args:Args)(us:List c6)(vs:List V)(Q:VK),A.handled=O (.ref x)->qZ k (calmA A)->XV P w K mg base A outer s H->Fe s fd args (ps.zip us)->yS vs us->sp x vs H Q E0 ->
  codeAny (model P w) A (.call (.ref f) args) (CR CX0 outer P w H s Q E0) s
open PySem PySem.Spec PyProof.Rows PySem.W
end L2

namespace Sea
open PySem L2 PySem.Spec
open PyProof.Rows hiding St
mutual
def pd:Dt->PyData
 | .int i=>.int i
 | .str x=>.str x
 | .tup l=>.tuple (pds l)
def pds:List Dt->List PyData
 | []=>[]
 | d::l=>pd d::pds l
end
mutual
def shB:Dt->Nat
 | .int i=>i.natAbs.log2+3
 | .str x=>10*x.length+2
 | .tup l=>Tw l+4
def Tw:List Dt->Nat
 | []=>0
 | d::l=>shB d+2+Tw l
end
mutual
def okS:Dt->Prop
 | .int i=>i.natAbs.log2<1920
 | .str x=>∀ c∈x.cps.toList,c<16^8
 | .tup l=>Ut l
def Ut:List Dt->Prop
 | []=>True
 | d::l=>okS d/\Ut l
end
def jG(a:List g8):(tupleText a).length<=piled a+4:=by
 unfold tupleText;rw[strLen_append,strLen_append];have h1:("(" : g8).length=1:=rfl;have h2:(Br (if a.length == 1 then ",)" else ")")).length<=2:=by split <;> decide
 have h3:(EW ", " a).length<=piled a:=by
  by_cases z:a=[]
  ·subst z; decide
  ·have:=join_length_add a z; lia
 lia
mutual
def ZK:∀ d:Dt,okS d->(pd d).shown.length<=shB d
 | .int i,h=>by
  rw[okS] at h;rw[pd,shB,Gv];have:=int_text_length_le (k:=i.natAbs.log2+1) (by lia) (C0 i.natAbs.log2);rw[<- DA] at this;lia
 | .str x,h=>by
  rw[okS] at h;rw[pd,shB,Gv];rwa[StrLaws.reprText_len x h]
 | .tup l,h=>by
  rw[okS] at h;rw[pd,shB,Gv];have:=jG (DS (pds l));have:=jC l h;lia
def jC:∀ l:List Dt,Ut l->piled (DS (pds l))<=Tw l
 | [],_=>by rw[pds,DS,Tw]; decide
 | d::l,h=>by
  rw[Ut] at h;rw[pds,DS,Tw,piled_cons];have:=ZK d h.1;have:=jC l h.2;lia
end
mutual
def ZM:∀ d:Dt,okS d->(pd d).showable=IT
 | .int i,h=>by rw[okS] at h; rw[pd,Fu]; rwa[y8 h]
 | .str x,_=>by rw[pd,Fu]
 | .tup l,h=>by rw[okS] at h; rw[pd,Fu]; rwa[ir l h]
def ir:∀ l:List Dt,Ut l->Ej (pds l)=IT
 | [],_=>by rw[pds,Ej]
 | d::l,h=>by rw[Ut] at h; rw[pds,Ej,ZM d h.1,ir l h.2]; rfl
end
mutual
def VQ:∀ d:Dt,(pd d).hasDict=IU
 | .int i=>by rw[pd,FP]
 | .str x=>by rw[pd,FP]
 | .tup l=>by rw[pd,FP]; rwa[eY l]
def eY:∀ l:List Dt,EJ (pds l)=IU
 | []=>by rw[pds,EJ]
 | d::l=>by rw[pds,EJ,VQ d,eY l]; rfl
end
section
variable{X:Cx}{IV:List (c5×BD)}{σ:St}{H:Hp}{s:d8}
mutual
def ZL(I:Inv X IV σ H s):∀(d:Dt){v:V}{u:c6},Rep H d v->xI v u->∃ c,Reads s.heap u (pd d) c
 | .int i,v,u,h,r=>by
  rw[yQ.mp h] at r;obtain⟨t,rfl⟩:=(show ∃ t,u=BH i t from r);rw[pd];rwa[_,.int i t]
 | .str x,v,u,h,r=>by
  rw[yG.mp h] at r;obtain⟨t,rfl⟩:=(show ∃ t,u=CZ x t from r);rw[pd];rwa[_,.str x t]
 | .tup l,v,u,h,r=>by
  obtain⟨a,p,rfl,m,f⟩:=xG.mp h;obtain rfl:u=j8 a:=r;obtain⟨j,e,⟨o,h1,h2,n,h3⟩,q⟩:=I.tuple (SqT.of m);obtain⟨c,g⟩:=ie I l f e;rw[pd];exact⟨_,.tuple h1 h2 h3 (by simpa using g)⟩
def ie(I:Inv X IV σ H s):∀(l:List Dt){a:List V}{c:List c6},xS H l a->yS a c->∃ e,ReadsAll s.heap c (pds l) e
 | [],a,c,h,r=>by
  rw[yC.mp h] at r;cases r;rw[pds];rwa[_,.nil]
 | d::l,a,c,h,r=>by
  obtain⟨x,m,rfl,h1,h2⟩:=zJ.mp h;cases r with
  | cons j i =>
   obtain⟨e,g⟩:=ZL I d h1 j;obtain⟨bs,f⟩:=ie I l h2 i;rw[pds];rwa[_,.cons g f]
end
end
end Sea
namespace L2
section
variable{X:Cx}{x y:g8}{p pos:Dm}{i e:An}{es:List An}{ty:TE}{t:TA}
structure TabAtX(P:j7)(w:m9)(K:b9)(mg:g8->Option c6)(B:v8)(m:Nat)(kvs:List (Key×V))(k:Key)(sp:Sp):Prop where
 mk ::
 has:∃(x:g8)(f:c5)(n:Nat)(ps:List g8),vR kvs k=O (.ref f)/\mg x=O (.ref f)/\ae P w K mg B x n ps sp/\n<=m
end
end L2

namespace Sea
inductive Cl where
 | badName | taken | badPlace | full | noMark | same | needed | badBank | noBank | badRun | noRun | noMoment | badWay | badTurn | noNote
 deriving DecidableEq
open Classical in
noncomputable def judge(S:BS):Deed->Option Cl
 | .mark n x y=>if ¬ sI n then O .badName else if (zV S n).isSome=IT then O .taken else if ¬ vw (x,y) then O .badPlace else if 20<=S.marks.length then O .full else IS
 | .move n x y=>if zV S n=IS then O .noMark else if ¬ vw (x,y) then O .badPlace else if ∀ e∈S.notes,Vi (aft S (.move n x y)) e.2 then IS else O .same
 | .unmark n=>if zV S n=IS then O .noMark else if ∀ e∈S.notes,fC n e.2 then IS else O .needed
 | .bank n f=>if ¬ sI n then O .badName else if n∈S.banks.map (·.1) then O .taken else if ¬ ∀ c∈f,vw c then O .badPlace else if isBk f=IU then O .badBank else if 8<=S.banks.length then O .full else IS
 | .level n=>if n∈S.banks.map (·.1) then IS else O .noBank
 | .sail x y=>if ¬ vw (x,y) then O .badRun else if 12<=S.runs.length then O .full else IS
 | .right k x y=>if 0<=k/\k<S.runs.length then(if vw (x,y) then IS else O .badRun) else O .noRun
 | .bearing m n a b c d=>if ¬ (0<=m/\m<=S.runs.length) then O .noMoment else if zV S n=IS then O .noMark else if ¬ wa (a,b) then O .badWay else if ¬ wa (c,d) then O .badWay else if a*d-b*c<=0 then O .badTurn else if 24<=S.notes.length then O .full else IS
 | .range m l r=>if ¬ (0<=m/\m<=S.runs.length) then O .noMoment else if zV S l=IS then O .noMark else if zV S r=IS then O .noMark else if zV S l=zV S r then O .same else if 24<=S.notes.length then O .full else IS
 | .strike k=>if k∈S.notes.map (·.1) then IS else O .noNote
def XZ(x:g8):Prop:=(∀ c∈x.cps.toList,c<128)/\x.length<=50
def iY(i:Int):Prop:=i.natAbs.log2<200
def tameD:Deed->Prop
 | .mark n x y=>XZ n/\iY x/\iY y
 | .move n x y=>XZ n/\iY x/\iY y
 | .unmark n=>XZ n
 | .bank n e=>XZ n/\e.length<=12/\∀ c∈e,c.1.natAbs.log2<20/\c.2.natAbs.log2<20
 | .level n=>XZ n
 | .sail x y=>iY x/\iY y
 | .right k x y=>iY k/\iY x/\iY y
 | .bearing m n a b c d=>iY m/\XZ n/\iY a/\iY b/\iY c/\iY d
 | .range m l r=>iY m/\XZ l/\XZ r
 | .strike k=>iY k
structure Well(S:BS):Prop where
 mk ::
 good:lv S
 names:∀ e∈S.marks,sI e.1
section
variable{H:Hp}{S:BS}{kvs:List (Key×V)}
def WM{k:Int}(h:xY H kvs (ntE S.notes)):vR kvs (.inl k)=IS↔k ∉ S.notes.map (·.1):=by
 by_cases z:k∈S.notes.map (·.1)
 ·obtain⟨f,lk⟩:=ju (l:=S.notes) z;obtain⟨v,d,_⟩:=h.get lk;simp[d,z]
 ·erw[λ_=>z,λ_=>h.none (Zd λe a y=>z ?_)];unfold ntE at a;obtain⟨q,c,rfl⟩:=g7.mp a;have y:(Ci q.1:Key)=Ci k:=y;injection y with y
  rwa[g7.mpr ⟨q,c,y⟩]
end
structure RwAt(H:Hp)(ts:List c5)(ws:List (g8×Bool)):Prop where
 mk ::
 len:ts.length=ws.length
 at_:∀(j:Nat)(t:c5)(w:g8×Bool),ts[j]?=O t->ws[j]?=O w->H t=O (.tup [.str w.1,.bl w.2])
end Sea

namespace Sea
structure Neat(S:BS):Prop where
 mk ::
 well:Well S
 nm:(S.marks.map (·.1)).Nodup
 nb:(S.banks.map (·.1)).Nodup
 bk:∀ e∈S.banks,sI e.1/\e.2.length<=8/\∀ c∈e.2,vw c
end Sea

namespace Sea
def mkOf(e:g8×Int×Int):Deed:=.mark e.1 e.2.1 e.2.2
def bkOf(e:g8×List (Int×Int)):Deed:=.bank e.1 e.2
def slOf(e:Int×Int):Deed:=.sail e.1 e.2
def noteF(ns:List g8)(D:Deed):Prop:=(∃(m:Int)(i:Nat)(l r:g8),D=.range m l r/\0<=m/\m<=12/\i<18/\ns[i]?=O l/\ns[i+1]?=O r)\/∃(m k:Int)(i:Nat)(n:g8),D=.bearing m n 100 k (-k) 100/\0<=m/\m<=12/\0<=k/\k<24/\i<19/\ns[i]?=O n
structure FillD(ns:List g8)(Ds:List Deed)(l1:List (g8×Int×Int))(l2:List (g8×List (Int×Int)))(l3:List (Int×Int))(l4:List Deed)(c:Nat):Prop where
 mk ::
 eq:Ds=l1.map mkOf++l2.map bkOf++l3.map slOf++l4
 n1:l1.map (·.1)=ns.take 20
 p1:∀(j:Nat)(e:g8×Int×Int),l1[j]?=O e->vw e.2/\e.2.2=j
 c2:c<=2
 n2:l2.map (·.1)=(ns.drop c).take 8
 p2:∀(j:Nat)(e:g8×List (Int×Int)),l2[j]?=O e->j<8/\e.2=[((j:Int),0),((j:Int)+3,0),((j:Int),2)]
 n3:l3.length=12
 p3:∀ e∈l3,vw e
 n4:l4.length=24
 p4:∀ D∈l4,noteF ns D
noncomputable def stepD(S:BS)(D:Deed):BS:=match judge S D with
 | none=>aft S D
 | some _=>S
noncomputable def stepAll(S:BS)(l:List Deed):BS:=l.foldl stepD S
section
variable{S:BS}{D:Deed}
structure NotesF(S S':BS)(l:List Deed):Prop where
 mk ::
 m:S'.marks=S.marks
 b:S'.banks=S.banks
 r:S'.runs=S.runs
 c:S'.coming=S.coming+l.length
 n:S'.notes.map (·.2)=S.notes.map (·.2)++l
 k:∀ k:Int,(k∈S.notes.map (·.1)\/(S.coming<=k/\k<S'.coming))->k∈S'.notes.map (·.1)
structure Brim(ns:List g8)(n19:g8)(c:Nat)(S:BS):Prop where
 mk ::
 neat:Neat S
 m:S.marks.map (·.1)=ns.take 20
 c2:c<=2
 b:S.banks.map (·.1)=(ns.drop c).take 8
 r:S.runs.length=12
 n:S.notes.length=24
 all:∀ k:Int,1<=k->k<25->k∈S.notes.map (·.1)
 co:S.coming=25
 un:∀ e∈S.notes,fC n19 e.2
end
end Sea

namespace Sea
def ifBo{b:Bool}{A B:Prop}(h1:b=IT->A)(h2:b=IU->B):if b=IT then A else B:=by
 cases b
 ·rwa[h2 rfl]
 ·rwa[h1 rfl]
end Sea

namespace Sea
def Wo:Deed->g8
 | .mark _ _ _ => "mark"
 | .move _ _ _ => "move"
 | .unmark _ => "unmark"
 | .bank _ _ => "bank"
 | .level _ => "level"
 | .sail _ _ => "sail"
 | .right _ _ _ => "right"
 | .bearing _ _ _ _ _ _ => "bearing"
 | .range _ _ _ => "range"
 | .strike _ => "strike"
def Wf{H:Hp}{D:Deed}(h:Rep H D.dt v):∃(t:c5)(a:List V),v=.ref t/\H t=O (.tup (.str (Wo D)::a)):=by
 cases D <;>(obtain⟨t,a,rfl,c,r⟩:=xG.mp h; obtain⟨_,_,rfl,d,_⟩:=zJ.mp r; rw[yG.mp d] at c; rwa[_,_,rfl,c])
end Sea

namespace Sea
def LwO(H:Hp)(X:c5->Prop)(d:c5)(S:BS):Prop:=∃ m b r n,¬ X r/\LwA H d m b r n S
structure HL(H:Hp)(X:c5->Prop)(sl rl:c5)(Ss:List BS)(Ds:List Deed):Prop where
 mk ::
 n1:¬ X sl
 n2:¬ X rl
 s:∃ ss:List c5,H sl=O (.lst (ss.map V.ref))/\ss.length=Ss.length/\∀(i:Nat)(d:c5)(S:BS),ss[i]?=O d->Ss[i]?=O S->LwO H X d S
 r:∃ xs,H rl=O (.lst xs)/\xS H (Ds.map Deed.dt) xs
section
variable{φ X X':c5->Prop}{H H1:Hp}{C b p l l' sl rl tp:c5}{Ss:List BS}{Ds:List Deed}{j k:Nat}{S S':BS}{D:Deed}
def HL.sam(h:HL H X sl rl Ss Ds)(s:vV φ H H1)(nd:∀ a g,Rd H a (.dK g)->¬ φ a)(q:∀ a c,H a=O (.tup c)->¬ φ a)(f:∀ x c,H x=O (.lst c)->¬ X x->¬ φ x):HL H1 X sl rl Ss Ds:=by
 obtain⟨w,v,E,B⟩:=h.s;obtain⟨c,u,A⟩:=h.r;erw[h.n1,h.n2,⟨w,s.lst (f _ _ v h.n1) v,E,λi d S z y=>?_⟩,c,s.lst (f _ _ u h.n2) u,A.sam s q];obtain⟨m,b,r,n,o,k⟩:=B i d S z y;rwa[m,b,r,n,o,k.samE s nd q λc e=>f r c e o]
structure HB(C:c5)(H:Hp)(b p l:c5)(X:c5->Prop)(tp:c5)(Ss:List BS)(Ds:List Deed)(j k:Nat):Prop where
 mk ::
 bk:∃ S,Ss[j]?=O S/\BkL C H b p l S ((Ds.zip Ss).take j) ((Ds.zip Ss.tail).drop j).reverse
 lp:∃ sl rl,H tp=O (.tup [.ref sl,.ref rl,.int j])/\HL H X sl rl Ss Ds
 xp:X p
 xl:X l
 len:Ss.length=Ds.length+1
 le:j<=Ds.length
 lk:Ds.length<=k
 st:∀ S∈Ss,Neat S/\1<=S.coming/\S.coming<=1+k
 tm:∀ D∈Ds,tameD D
end
end Sea

namespace L2
open PySem PySem.Spec PyProof.Rows PySem.W
def mY(a:List Nat)(b:Bool):SetTable:=⟨7,a.toArray,#[],0,b,0,IT⟩
def Wk:List Nat->List (List Nat)
 | []=>[[]]
 | x::l=>(Wk l).map (x :: ·)++Wk l
def kP:List (List Nat):=Wk [1,2,3,4,5,6]
def aA(n:Nat)(a:List Nat):List Nat:=a.take (Bt a.toArray n)++n::a.drop (Bt a.toArray n)
def Xw:∀ b:Bool,∀ n∈[1,2,3,4,5,6],∀ a∈kP,a.length<=2->n ∉ a->(mY a b).freeSlot n=O (n,IU)/\(mY a b).put n=(mY (aA n a) b,Bt a.toArray n)/\aA n a∈kP/\(mY (aA n a) b).tooFull=false:=by ac_nf
def rR:∀ b:Bool,∀ a∈kP,(mY a b).fits a.length=true:=by ac_nf
def mh:∀ a∈kP,a.Pairwise (· < ·)/\Bt a.toArray 0=0/\∀ i∈[0,1,2,3,4,5],i<a.length->Bt a.toArray (a.getD i 0+1)=i+1:=by ac_nf
def eS:∀ a∈kP,a.length<=6:=by ac_nf
def aO(n:Nat)(a:List Nat):(aA n a).Perm (n::a):=by
 unfold aA;erw[GU.trans ?_];rw[FA]
def ZG:∀ a∈kP,∀ n∈a,n∈[1,2,3,4,5,6]:=by ac_nf
def jF:∀ n∈[1,2,3,4,5,6],hashInt ((n:Nat):Int)=n:=by ac_nf
def Za(a:List (Int×c6))(c:List Nat):Prop:=a.map (·.1)=c.map GV/\∀ e∈a,∃ t,e.2=.int e.1 t
def cH(a:c5)(c:List Nat)(b:Bool)(h:v8):Prop:=∃ d e,h.get? a=O { cls:=.type "set",dict:=IS,data:=.set d e (mY c b),slots:=#[] }/\Za d.toList c
section
variable{prog:j7}{w:m9}{A:Aq}{E:c6->d8->Prop}{s:d8}
def Za.mem(h:Za g c){e:Int×c6}(f:e∈g):∃ n∈c,∃ t,e=((n:Int),.int n t):=by
 have m:e.1∈c.map GV:=by rw[<- h.1]; rwa[o9 f]
 obtain⟨n,i,q⟩:=g7.mp m;obtain⟨t,d⟩:=h.2 e f;obtain⟨a,v⟩:=e;dsimp only at q d;rwa[n,i,t,by rw[d,<- q]; rfl]
def Za.elems(h:Za c a)(d:a∈kP):ElemsOf (Cq prog w) c:=λe g=>by
 obtain⟨n,f,t,rfl⟩:=h.mem g;rwa[⟨n,intKind_is _ _ _ _,(jF n (ZG a d n f)).symm⟩,rfl]
def WR{n:Nat}{a:List Nat}{Q:Bool->d8->Prop}(J:n∈[1,2,3,4,5,6])(B:a∈kP)(T:a.length<=2)(hS:cH S a b s.heap)
  (h:∀(r:Bool)(H:v8)(y:List Nat),Bq S s.heap H->y∈kP->y.length<=a.length+1->(∀ k,k∈y↔k∈a\/k=n)->cH S y b H->Q r { s with heap:=H,toks:=s.toks+1 }) :
  wpAny (model prog w) A (setAdd S (.int n t)) Q E s:=by
 obtain⟨c,N,l,d⟩:=hS;unfold setAdd;refine Bo (b7 ((Cq prog w).pyHash (k:=(n:Int)) (intKind_is _ _ _ _) ?_));have p:ElemsOf (Cq prog w) c.toList:=d.elems B;have g:c.size=a.length:=by
  have:=congrArg AH d.1;simpa using this
 have L:(mY a b).fits c.size=true:=by rw[g]; rwa[rR b a B]
 have Z:c.size<scanBound:=by rw[g]; unfold scanBound; lia
 unfold setAddHashed setAddHashedIn;refine Bo (b7 (Dx (s:={ s with toks:=s.toks+1 }) l rfl L ?_));dsimp only;rw[byScan_of (x:=.int (n:Int) t) rfl Z p];simp only[↓reduceIte];unfold setAddByScan;erw[b7 ?_];erw[b7 (Eb ?_)];erw[b7 (wpAny_setScan_of (knd:=Cq prog w) (k:=(n:Int)) (intKind_is _ _ _ _) l rfl L p ?_)];cases I:List.findIdx? (λe=>(Cq prog w).is (n:Int) e.2) c.toList with
 | some j =>
  dsimp only;obtain⟨X,i,_⟩:=List.findIdx?_eq_some_iff_getElem.mp I;obtain⟨m,G,u,e⟩:=d.mem (AX X);rw[e] at i;have en:(n:Int)=m:=(Cq prog w).inj _ _ _ i (intKind_is _ _ _ _);erw[d9 (d9 (h IU s.heap a (IP _ _) B (Ck _) (λk=>⟨.inl,λq=>q.elim id λz=>?_⟩) ⟨c,N,l,d⟩))];rw[z,show n=m by lia];rwa[G]
 | none =>
  dsimp only;have nx:n ∉ a:=λG=>by
   have:(n:Int)∈c.toList.map (·.1):=by rw[d.1]; rwa[o9 G]
   obtain⟨e,o,q⟩:=g7.mp this;obtain⟨t',R⟩:=d.2 e o;have:=List.findIdx?_eq_none_iff.mp I e o;rw[R,q,intKind_is] at this;cases this
  obtain⟨f1,f2,M,f4⟩:=Xw b n J a B T nx;have Y:(Cq prog w).hash (n:Int)=n:=jF n J;have C:=aO n a;have v:(Gw c (Bt a.toArray n) ((n:Int),BH n t)).size=(aA n a).length:=by
   rw[<- Ap,Dh,C.length_eq];simp[g];lia
  have D:layNew (mY a b) c ((Cq prog w).hash (n:Int)) (.int n t)=(Gw c (Bt a.toArray n) ((n:Int),BH n t),mY (aA n a) b,IU,IU):=by
   unfold layNew;rw[Y,f1];dsimp only;rw[f2];dsimp only;rw[v];unfold SetTable.orStandIn;rw[rR b _ M,y7 rfl];rfl
  rw[D];dsimp only;erw[b7 (d9 ?_)];show wpAny _ _ (hashByValue 8 (BH n t) >>= _) _ _ _;rw[hashByValue_scannable 8 rfl];erw[b7 (d9 ?_)];show wpAny _ _ (storeSet S _ (mY (aA n a) b) >>= _) _ _ _;erw[b7 (wpAny_storeSet_of l rfl ?_ (by rw[v,C.length_eq,sizeLine_eq]; simp; lia))];have P:plainKind (BH (n:Int) t)=true:=rfl;simp only[P,if_true,f4,Hi,CA,if_false];erw[d9 ?_];dsimp only;erw[d9 (h IT _ (aA n a) (BO _ _ _) M (by rw[C.length_eq]; simp) (λk=>by rw[C.mem_iff,j4]; rwa[or_comm]) ?_)];erw[_,N+1,Bz (Obj.putSet _ (mY (aA n a) b)) l rfl,?_,?_]
  ·rw[Dh];unfold aA;rw[e7,e7,g9,g9,Dg,CJ,d.1,Dg,CJ];rfl
  ·intro e f;rw[Dh] at f;rcases i7.mp f with f | f
   ·rwa[d.2 e (AT f)]
   ·rcases j4.mp f with rfl | f
    ·rwa[t,rfl]
    ·rwa[d.2 e (AS f)]
def YY{R:Result->d8->Prop}{G:Array Hc->Array Hc->Prop}{n:Nat}{P:Nat->c6->Prop}{St:Nat->d8->Prop}(W:WalksS prog w A.in1 I fp l G n P St)(S:c5)(y:S ∉ fp)(ns:List Nat)(b:Bool)
  (hv:∀ i v,P i v->∃(k:Nat)(t:IA),ns[i]?=O k/\v=.int k t) (h6:∀ k∈ns,k∈[1,2,3,4,5,6]) (h3:n<=3) :
  ∀(k i:Nat)(s:d8)(a:List Nat),n-i=k->i<=n->St i s->a∈kP->a.length<=i->(∀ x,x∈a↔x∈ns.take i)->cH S a b s.heap ->
   (∀ d a,Moved (S::l) G s d->a∈kP->a.length<=n->(∀ x,x∈a↔x∈ns.take n)->cH S a b d.heap->R (.ok (.ret .none)) d) ->
   codeAny (model prog w) A (.builtin "set.update.loop" ⟨[.ref S,.ref I],[]⟩) R s:=by
 have u:S ∉ l:=λh=>y (W.sub _ h);have f:∀ b∈l,b∈S::l:=λb hb=>x8 _ hb;intro k
 induction k with
 | zero =>
  intro i s a hk hi g C hl H T X;have J:i=n:=by lia
  subst J;erw[codeAny_builtin Dd ?_];rw[DK BP _];show wpAny _ A.in1 (pyNext (.ref I) >>= _) _ _ s;erw[b7 (W.done s _ _ g λd m=>?_)];show wpAny _ A.in1 (ret Ao) _ _ d;erw[d9 (X d a (m.mono f) C hl H ?_)];obtain⟨Y,Z,D,L⟩:=T;rwa[Y,Z,m.heap S _ u D,L]
 | succ k ih =>
  intro i s a hk hi g C hl H T X;have q:i<n:=by lia
  refine codeAny_builtin Dd ?_;rw[DK BP _];show wpAny _ A.in1 (pyNext (.ref I) >>= _) _ _ s;refine b7 (W.item i s _ _ q g λv d hP p m=>?_);obtain⟨j,t,ej,rfl⟩:=hv i v hP;have Q:cH S a b d.heap:=by
   obtain⟨Y,Z,D,L⟩:=T;rwa[Y,Z,m.heap S _ u D,L]
  show wpAny _ A.in1 (holding [BH j t] (setAdd S (.int j t)) >>= _) _ _ d;erw[b7 (Bo ?_)];erw[WR (s:=d) (h6 j (e9 ej)) C (by lia) Q λr h' ys sb hy yl ym N=>?_];erw[d9 ⟨plainId_quiet BP _,ih (i+1) _ ys (by lia) q (W.frame _ d _ _ p (Ck _) λc M o e=>?_) hy (by lia) (λx=>?_) N λz zs B z1 z2 z3 z4=>?_⟩]
  ·rw[sb.2 c (λh:c=S=>y (by rw[<- h]; rwa[M]))]; rwa[e]
  ·rw[ym,H,o6,ej,i7];simp
  ·erw[X z zs (Moved.trans W.gtrans ((m.mono f).then_heap (Ck _) λc o M e=>?_) B) z1 z2 z3 z4];rw[sb.2 c (λh:c=S=>M (by rw[h]; rwa[Ab]))]; rwa[e]
def Vd(a:c6){Q₁:c6->d8->Prop}
  (h:Q₁ (.ref s.heap.objs.size) { s with heap:=s.heap.push { cls:=.type "set",dict:=IS,data:=.set #[] 0 (.fresh 0 0 (!w.params.followText "set-order")) } }) :
  codeAny (model prog w) A (.call (.builtin "set.__new__") ⟨[.type "set",a],[]⟩) (wants Q₁ E) s:=by
 erw[codeAny_of_tree ?_];show wpAny _ A.in1 (do checkBuiltinCall "set.__new__" ⟨[.type "set",a],[]⟩; again (.builtin "set.__new__" ⟨[.type "set",a],[]⟩)) _ _ s;erw[b7 (FK (PySem.F.newCall_set_1 a) (d9 ⟨plainId_quiet Ha _,codeAny_builtin F.entry_set_new ?_⟩))];rw[DK Ha _];unfold Ch.«set.__new__» Hq;have c:=sub_set_self;obtain⟨f,g,d,e,os⟩:=s;dsimp only
 wp_walk
 erw[C7 (d9 ?_)];dsimp only;simp only[newObj];erw[b7 (wpAny_alloc (d9 ?_))];rwa[d9 h]
set_option maxHeartbeats 3200000 in
def fk{ns:List Nat}{Q:c6->d8->Prop}(hh:A.handled=IS)(hl:s.heap.IsList l a)(hv:∀ (i:Nat) (v:c6),a[i]?=O v->∃ (k:Nat) (t:IA),ns[i]?=O k/\v=.int k t)(hsz:a.size=ns.length)(h3:ns.length<=3)(h6:∀ k∈ns,k∈[1,2,3,4,5,6])
  (h:∀(g:v8)(L:Nat)(f:List Nat),f∈kP->f.length<=3->(∀ x,x∈f↔x∈ns)->cH s.heap.objs.size f (!w.params.followText "set-order") g->(∀ b o,s.heap.get? b=O o->g.get? b=O o)->Q (.ref s.heap.objs.size) { s with heap:=g,toks:=L }) :
  wpAny (model prog w) A (call (.type "set") [.ref l]) Q E s:=by
 generalize hb0:(!w.params.followText "set-order")=led at h;obtain⟨c,tl,hmro⟩:=CD.mro;have Z:=CD.made;have hsub:=CD.sub;erw[F6 (codeAny_of_tree ?_)];show wpAny _ _ (callAny (.type "set") _) _ _ _;erw[d9 ⟨Code.quiet_builtin _ (by ac_nf),codeAny_builtin F.entry_type_call ?_⟩];rw[Around.under_plain (weight_type_call_type "set" [.ref l] []) rfl];have h1:=CD.notType;have h2:=CD.canCreate;have hct:=F.typeCall_set_1 (.ref l)
 repeat (any_goals (first | assumption | wp_step))
 refine codeAny_mono (Vd (.ref l) (E:=E) (Q₁:=λobj n=>obj=.ref s.heap.objs.size/\n={ s with heap:=s.heap.push { cls:=.type "set",dict:=IS,data:=.set #[] 0 (.fresh 0 0 led) } }) ⟨rfl,by rw[hb0]⟩) λr n Y=>?_;cases r with
 | error e=>rwa[Y]
 | ok fl =>
  cases fl with
  | ret obj =>
   obtain⟨rfl,rfl⟩:=Y;have hS:(s.heap.push { cls:=.type "set",dict:=IS,data:=.set #[] 0 (.fresh 0 0 led) }).get? s.heap.objs.size=O { cls:=.type "set",dict:=IS,data:=.set #[] 0 (.fresh 0 0 led) }:=f9 _ rfl;have hT:Shared.TypeIs { s with heap:=s.heap.push { cls:=.type "set",dict:=IS,data:=.set #[] 0 (.fresh 0 0 led) } } (.ref s.heap.objs.size) "set" :=⟨_,hS,rfl⟩;have hli:=CD.init.lookup;have hbi:=CD.init.bind (.ref s.heap.objs.size)
   repeat (any_goals (first | assumption | wp_step))
   refine codeAny_mono (codeAny_call_builtin (R:=wants (λr m=>r=.none/\∃ g L f,m={ s with heap:=g,toks:=L }/\f∈kP/\f.length<=3/\(∀ x,x∈f↔x∈ns)/\cH s.heap.objs.size f led g /\
     (∀ b o,s.heap.get? b=O o->g.get? b=O o)) E) CD.init.plain F.entry_set_init (check_set_init_1 hT ?_)) λy m d=>?_
   ·obtain⟨ol,B,J,nl,I⟩:=hl;obtain⟨ocls,p,X,j⟩:=ol;simp only at J I;subst J; subst I;have z:(s.heap.push { cls:=.type "set",dict:=IS,data:=.set #[] 0 (.fresh 0 0 led) }).get? l=O { cls:=.type "list",dict:=p,data:=.seq a nl,slots:=j }:=c8 _ B;have hsls:=F.sub_list_set;have hslf:=F.sub_list_frozenset;have hne:(Fc "list" == Fc "dict")=false:=by decide
    have G:(s.heap.push { cls:=.type "set",dict:=IS,data:=.set #[] 0 (.fresh 0 0 led) }).IsList l a:=⟨_,z,rfl,nl,rfl⟩;unfold Ch.«set.__init__» noKeywords Hb;generalize hPI:pyIter=PI
    wp_walk
    subst hPI;erw[Cj G ?_];erw[b7 (wpAny_runValue ?_)];have D:l<s.heap.objs.size:=g6 B;have hh3:A.in1.in1.in1.handled=none:=by simp[hh]
    have C:l≠(s.heap.push { cls:=.type "set",dict:=IS,data:=.set #[] 0 (.fresh 0 0 led) }).objs.size:=by
     rw[AR]; rwa[j9 (EC D)]
    have hSf:s.heap.objs.size ∉ [(s.heap.push { cls:=.type "set",dict:=IS,data:=.set #[] 0 (.fresh 0 0 led) }).objs.size,l]:=by
     rw[AR]; simp only[j4,e8,t7,or_false,not_or];rwa[j9 (C0 _),Cz D]
    have H:((s.heap.push { cls:=.type "set",dict:=IS,data:=.set #[] 0 (.fresh 0 0 led) }).push { cls:=.type "list_iterator",data:=.fields #[.ref l,.int 0 0] }).get? s.heap.objs.size
       = O { cls:=.type "set",dict:=IS,data:=.set #[] 0 (.fresh 0 0 led) }:=c8 _ hS
    refine YY ((Hl hh3 _ l C a).toS) s.heap.objs.size hSf ns led hv h6 (by lia) (a.size-0) 0 _ [] (by lia) (Aa _)
     ⟨⟨_,f9 _ rfl,rfl,rfl⟩,(G.push _)⟩ (by decide) (Aa _) (λx=>by simp) ⟨#[],0,H,rfl,λe he=>by simp at he⟩ λs' f M P x2 N q=>?_
    obtain⟨g,g',d',S,T⟩:=s';have eg:g'=s.gens:=M.gens;have ed:d'=s.drawn:=M.drawn;have eo:T=s.os:=M.os;subst eg; subst ed; subst eo;show wpAny _ _ _ _ _ _;refine d9 ?_;show wpAny _ _ (ret Ao) _ _ _;refine d9 ⟨rfl,g,S,f,rfl,P,by lia,λx=>by rw[N,Ax (by lia)],q,λb o e=>?_⟩;have hb:=g6 e;have hb1:b≠s.heap.objs.size:=j9 hb;have hb2:b≠(s.heap.push { cls:=.type "set",dict:=IS,data:=.set #[] 0 (.fresh 0 0 led) }).objs.size:=by
     rw[AR]; rwa[j9 (EC hb)]
    rwa[M.heap b o (by simp only[j4,e8,t7,or_false,not_or]; exact⟨hb1,hb2⟩) (c8 _ (c8 _ e))]
   ·cases y with
    | error e=>rwa[d]
    | ok u =>
     cases u with
     | ret r =>
      obtain⟨rfl,g,L,f,rfl,P,x2,N,q,hk'⟩:=d
      repeat (any_goals (first | assumption | wp_step))
      rwa[h _ _ f P x2 N q hk']
     | _=>rwa[d.elim]
  | _=>rwa[Y.elim]
end
def eE : ∀{ns:List Nat}{a:List c6}(i:Nat),yS (ns.map λk=>V.int (k:Nat)) a->a[i]?=O v->∃(k:Nat)(t:IA),ns[i]?=O k/\v=.int k t
 | [],_,i,.nil,e=>by simp at e
 | n::ns,_,0,.cons ⟨t,r⟩ _,e=>⟨n,t,rfl,by rw[<- r]; simpa using e.symm⟩
 | n::ns,_,i+1,.cons _ r,e=>by
  obtain⟨k,t,d,c⟩:=eE i r (by simpa using e);exact⟨k,t,by simpa using d,c⟩
def Ws:bootBuiltins "set" = O (.type "set"):=by ac_nf
section
variable{X:Cx}
def iW(L:X.calm=IT):uN X (.type "set") (λg H Q=>E2 λ(l:c5) (ns:List Nat)=>A5 (g=[.ref l]) (SqL X.K H l (ns.map λk=>V.int (k:Nat))) (ns.length<=3) (∀ k∈ns,k∈[1,2,3,4,5,6]) (∀(p:c5)(c:List Nat),H p=IS->c∈kP->c.length<=3->(∀ x,x∈c↔x∈ns)->Q (.ref p) (upd H p (.ext (cH p c (!X.w.params.followText "set-order")))))):=by
 intro S s M H g N Q I r h;obtain⟨l,ns,rfl,J,h3,h6,q⟩:=h;obtain⟨u,rfl,ru⟩:=yS.one r;cases ru;obtain⟨G,j,E,P⟩:=I.list J;have m:=j.length;rw[ac] at m;refine fk (ns:=ns) (show X.A.handled=IS from I.ok.hd L) E.isList (λi v e=>?_) (by rw[i5]; rwa[m.symm]) h3 h6 λR D c C B z f keep=>?_
 ·exact eE i j (by simpa using e)
 erw[.ref s.heap.objs.size,_,I.laid (t':=D) (a:=s.heap.objs.size) (o:=.ext (cH s.heap.objs.size c (!X.w.params.followText "set-order"))) keep (f6 _) ⟨f,?_,?_⟩,rfl,q _ c (I.hok.fresh (f6 _)) C B z]
 ·obtain⟨n,y,d,_⟩:=f;rwa[_,d]
 ·intro h1 h2 ⟨n,y,d,he⟩ k;rwa[n,y,k _ d,he]
end
def su:Slot "set_iterator" "__next__" "set_iterator.__next__" :=
 .of (owner := "set_iterator") (n := "__next__") (by rw[typeLookup_type,builtinLookup_eq_fast]; symm) (by ac_nf) (by ac_nf) (by ac_nf)
  (by first | exact .inl (by ac_nf) | exact .inr (by ac_nf)) (by rw[isSubtype_type]; symm)
def fI:entryFor table "set_iterator.__next__" = O Ch.«set_iterator.__next__»:=entryFor_of_tree (by symm)
def fF:Manifest.owners.lookup (String.ofList ['r','o','t','a','r','e','t','i','_','t','e','s'].reverse)=O Manifest.sig_set_iterator:=by symm
def bn(a:c6):argsOk "set_iterator.__next__" ⟨[a],[]⟩:=by
 unfold argsOk; rw[signature?_of (id := "set_iterator.__next__") (n:=['_','_','t','x','e','n','_','_']) (o:=['r','o','t','a','r','e','t','i','_','t','e','s']) (by symm) fF]; symm
def Zr:Slot "set_iterator" "__iter__" "set_iterator.__iter__" :=
 .of (owner := "set_iterator") (n := "__iter__") (by rw[typeLookup_type,builtinLookup_eq_fast]; symm) (by ac_nf) (by ac_nf) (by ac_nf)
  (by first | exact .inl (by ac_nf) | exact .inr (by ac_nf)) (by rw[isSubtype_type]; symm)
def ZO:entryFor table "set_iterator.__iter__" = O Ch.«dict_keyiterator.__iter__»:=entryFor_alias (id' := "dict_keyiterator.__iter__") (by symm) rfl (by ac_nf) (by symm)
def WZ(a:c6):argsOk "set_iterator.__iter__" ⟨[a],[]⟩:=by
 unfold argsOk; rw[signature?_of (id := "set_iterator.__iter__") (n:=['_','_','r','e','t','i','_','_']) (o:=['r','o','t','a','r','e','t','i','_','t','e','s']) (by symm) fF]; symm
def Yd:entryFor table "set.__iter__" = O Ch.«frozenset.__iter__»:=entryFor_alias (id' := "frozenset.__iter__") (by symm) rfl (by ac_nf) (by symm)

def il{c:Type}(next:Nat->Nat):∀(f k:Nat)(l:List c)(out:Array c),l.length=f->(Iu next f k l out).toList.Perm (out.toList++l)
 | 0,k,l,out,h=>by
  rw[E1.mp h,Cf];rwa[.rfl]
 | f+1,k,l,out,h=>by
  have a:next k%l.length<l.length:=Nat.mod_lt _ (by lia)
  unfold Iu;rw[c9 a];dsimp only;refine(il next f (k+1) _ _ (by rw[List.length_eraseIdx_of_lt a]; lia)).trans ?_;rw[Array.toList_push,List.append_assoc];erw[List.Perm.append_left _ ?_];rw[List.singleton_append];rw[List.eraseIdx_eq_take_drop_succ];erw[GU.symm.trans ?_];rw[<- List.drop_eq_getElem_cons a,FA]
def qa(w:m9)(a:c5)(c:Array (Int×c6))(d:Nat):Array (Int×c6):=if w.params.followText "set-order" = IT then pickOrder (w.params.setOrder a d) c else c
def ue(w:m9)(a:c5)(c:Array (Int×c6))(d:Nat):(qa w a c d).toList.Perm c.toList:=by
 unfold qa;split
 ·rwa[il _ _ _ _ _ (by simp)]
 ·rwa[.rfl]
def vY(w:m9)(a:List Nat)(i:Nat):Nat:=if w.params.followText "set-order" = IT then 0 else if i=0 then 0 else a.getD (i-1) 0+1
section
variable{prog:j7}{w:m9}{A:Aq}{E:c6->d8->Prop}{s:d8}
def eP{n:Nat}{i:Nat}{Q:Option (c6×Nat)->d8->Prop}(p:s.heap.get? a=O { cls:=.type "set",dict:=IS,data:=.set f n (mY c (!w.params.followText "set-order")),slots:=#[] })(y:Za f.toList c)(g:c∈kP)(hi:i<=c.length)
  (h:Q (((qa w a f n)[i]?).map λe=>(e.2,vY w c (i+1))) s):wpAny (model prog w) A (setNext a (vY w c i) i n) Q E s:=by
 have l:f.size=c.length:=by
  have:=congrArg AH y.1;simpa using this
 have r:(mY c (!w.params.followText "set-order")).fits f.size=true:=by rw[l]; rwa[rR _ c g]
 unfold setNext;erw[b7 (Dx p rfl r ?_)];dsimp only;unfold setsByText;erw[b7 (b7 (C7 (d9 ?_)))];show wpAny _ _ (if w.params.followText "set-order" = IT then _ else _) _ _ _;by_cases d:w.params.followText "set-order" = IT
 ·rw[y7 d];erw[BL (λz=>x4 z (by simp)) (λ_=>?_)];erw[b7 ?_];unfold setWalk;erw[b7 (Dx p rfl r ?_)];dsimp only;unfold setsByText;erw[b7 (b7 (C7 (d9 ?_)))];show wpAny _ _ (if w.params.followText "set-order" = IT then _ else _) _ _ _;rw[y7 d];erw[b7 (C7 (d9 (d9 ?_)))];unfold qa vY at h;unfold vY;rw[y7 d] at h ⊢;rw[y7 d] at h;rwa[h]
 ·rw[y6 d];refine BL (λz=>x4 (show IU=IT from z) (by simp)) (λ_=>?_);erw[b7 ?_];erw[BL (λz=>?_) (λ_=>d9 ?_)]
  ·have o:(!(!w.params.followText "set-order") && !f.isEmpty)=true:=z;rw[Ey.mpr d] at o;rwa[x4 o (by simp)]
  erw[d9 ?_];obtain⟨_,u,w1⟩:=mh c g;have h6:c.length<=6:=eS c g;have v:vY w c i=if i=0 then 0 else c.getD (i-1) 0+1:=y6 d
  have m:vY w c (i+1)=c.getD i 0+1:=y6 d;have B:Bt c.toArray (vY w c i)=i:=by
   rw[v];cases i with
   | zero=>rwa[u]
   | succ j =>
    rw[y6 (by simp)];rwa[w1 j (by simp; lia) hi]
  show Q (match f[Bt c.toArray (vY w c i)]?,c.toArray[Bt c.toArray (vY w c i)]? with | some (_,x),O j=>O (x,j+1) | _,_=>IS) s;rw[B];unfold qa at h;rw[y6 d] at h;by_cases q:i<c.length
  ·rw[x6 (by lia)] at h ⊢;rw[List.getElem?_toArray,c9 q];rw[m,Bs,c9 q] at h;rwa[h]
  ·rw[AY (by lia)] at h ⊢;rwa[h]
end
section
variable{prog:j7}{w:m9}{A:Aq}{E:c6->d8->Prop}{s:d8}
abbrev aP(w:m9)(h:v8)(d a:c5)(c:List Nat)(i e:Nat):Prop :=
 h.get? d=O { cls:=.type "set_iterator",dict:=IS,data:=.fields #[.int (vY w c i) 0,.int i 0,.ref a,.int c.length 0,.int e 0],slots:=#[] }
def Vw{n:Nat}{i:Nat}{Q:Option c6->d8->Prop}(g:aP w s.heap o a c i n)(y:s.heap.get? a=O { cls:=.type "set",dict:=IS,data:=.set m n (mY c (!w.params.followText "set-order")),slots:=#[] })(B:Za m.toList c)(v:c∈kP)(hi:i<c.length)
  (h:∀(e:Int×c6)(u:v8),(qa w a m n)[i]?=O e->aP w u o a c (i+1) n->Bq o s.heap u->Q (O e.2) { s with heap:=u }) :
  wpAny (model prog w) A (pyNext (.ref o)) Q E s:=by
 have C:s.TypeIs (.ref o) "set_iterator" :=⟨_,g,rfl⟩;have r:m.size=c.length:=by
  have:=congrArg AH B.1;simpa using this
 have D:(mY c (!w.params.followText "set-order")).fits m.size=true:=by rw[r]; rwa[rR _ c v]
 have x:i<(qa w a m n).size:=by
  have:=(ue w a m n).length_eq;simp at this;lia
 unfold pyNext;erw[b7 (Df (At (name:=Br "__next__") C su (Ar su C fI ?_ (bn _))))];unfold Ch.«set_iterator.__next__»;erw[b7 (d9 ?_)];erw[b7 (CV g rfl ?_)];show wpAny _ _ (setEntries a >>= _) _ _ s;erw[b7 (DV y rfl D ?_)];rw[r];erw[BL (λz=>x4 z (by simp)) (λ_=>?_)];show wpAny _ _ (setNext a (Fa (vY w c i:Nat)) (Fa (i:Nat)) (Fa (n:Nat)) >>= _) _ _ s;rw[i4,i4,i4];erw[b7 (eP y B v (by lia) ?_)];rw[x6 x];show wpAny _ _ (setField (.ref o) 0 (rawInt ((vY w c (i+1):Nat):Int)) >>= _) _ _ s;erw[b7 (Bi g (by simp) λq l f=>?_)];refine b7 (Bi (s:={ s with heap:=q }) l (by simp) λp j d=>?_);erw[d9 ⟨_,rfl,d9 (h _ p (x6 x) ?_ (IL f d))⟩];have e:((i+1:Nat):Int)=(i:Int)+1:=by lia
 unfold aP; rw[e]; simpa [rawInt] using j
def Ta{h:Nat}{Q:Option c6->d8->Prop}(q:A.handled=IS)(d:aP w s.heap f a c c.length h)(j:s.heap.get? a=O { cls:=.type "set",dict:=IS,data:=.set e h (mY c (!w.params.followText "set-order")),slots:=#[] })(l:Za e.toList c)(i:c∈kP)
  (u:∀ o,FJ f s.heap o->Q IS { s with heap:=o }):wpAny (model prog w) A (pyNext (.ref f)) Q E s:=by
 have n:s.TypeIs (.ref f) "set_iterator" :=⟨_,d,rfl⟩;have g:e.size=c.length:=by
  have:=congrArg AH l.1;simpa using this
 have r:(mY c (!w.params.followText "set-order")).fits e.size=true:=by rw[g]; rwa[rR _ c i]
 have p:(qa w a e h).size<=c.length:=by
  have:=(ue w a e h).length_eq;simp at this;lia
 unfold pyNext;erw[b7 (Df (At (name:=Br "__next__") n su (Ar su n fI ?_ (bn _))))];unfold Ch.«set_iterator.__next__»;erw[b7 (d9 ?_)];erw[b7 (CV d rfl ?_)];show wpAny _ _ (setEntries a >>= _) _ _ s;erw[b7 (DV j rfl r ?_)];rw[g];erw[BL (λz=>x4 z (by simp)) (λ_=>?_)];show wpAny _ _ (setNext a (Fa (vY w c c.length:Nat)) (Fa (c.length:Nat)) (Fa (h:Nat)) >>= _) _ _ s;rw[i4,i4,i4];erw[b7 (eP j l i (f6 _) ?_)];rw[AY p];show wpAny _ _ (setField (.ref f) 2 .none >>= _) _ _ s;erw[b7 (B5 d rfl (by simp) ?_)];show wpAny _ _ (newExc (.type "StopIteration") [] >>= _) _ _ _;erw[b7 ?_];simp only[newExc,newTuple];erw[b7 (Ac ?_ (by size_fits))];refine b7 (m:=firstArgMember _ _) (FK (a:=Ao) (by first | rfl | (simp only[firstArgMember]; rfl)) ?_);erw[Ac ?_ (by size_fits)];simp only[raiseNew];erw[b7 (FY ?_)];rw[show A.in1.handled=IS from q];erw[b7 (d9 (G1 ?_))];erw[b7 (DD (T := "StopIteration") (b:=IT) ⟨_,f9 _ rfl,rfl⟩ isSubtype_stop ?_)];rwa[d9 (u _ (((BO ..).extBut.push _).push _))]
end
section
variable{prog:j7}{w:m9}{A:Aq}{E:c6->d8->Prop}{s:d8}
def VM{Q:Bool->d8->Prop}(e:s.TypeIs (.ref r) "set")(h:Q IU s):wpAny (model prog w) A (D6 (.ref r)) Q E s:=by
 unfold D6;erw[b7 (G6 e PySem.F.slot_set_len.lookup ?_)];generalize c:("set.__len__" : String)=d
 wp_delta
 rw[show splitId d=O ("set","__len__") from by subst c; ac_nf];subst c;erw[b7 (DD (T := "set") (b:=IT) e (by rw[isSubtype_type]; symm) ?_)];erw[BL (λa=>x4 a (by decide)) (λ_=>?_)];erw[BL (λ_=>?_) (λa=>x4 (by ac_nf) a)];erw[b7 (wpAny_typeOf e ?_)];rwa[d9 h]
def Su{l:Array (Int×c6)}{p:Nat}(y:Za l.toList c)(r:c∈kP):KdlSrc prog w "set" a a c.length (λi v=>∃ e,(qa w a l p)[i]?=O e/\v=e.2)
  (λh=>h.get? a=O { cls:=.type "set",dict:=IS,data:=.set l p (mY c (!w.params.followText "set-order")),slots:=#[] }) where
 type:=λs h=>⟨_,h,rfl⟩
 there:=λh e=>⟨g6 e,g6 e⟩
 keep:=λh n e k=>k a (.inl rfl) _ e
 notList:=by decide
 notTuple:=by decide
 hint:=λA E s Q h q=>VM ⟨_,h,rfl⟩ q
 iter:=λA s G f=>by
  have m:l.size=c.length:=by
   have:=congrArg AH y.1;simpa using this
  have x:(mY c (!w.params.followText "set-order")).fits l.size=true:=by rw[m]; rwa[rR _ c r]
  have u:a≠s.heap.objs.size:=j9 (g6 f);refine⟨{ cls:=.type "set_iterator",dict:=IS,data:=.fields #[.int (vY w c 0) 0,.int (0:Nat) 0,.ref a,.int c.length 0,.int p 0],slots:=#[] },
   λi h=>aP w h s.heap.objs.size a c i p/\h.get? a=O { cls:=.type "set",dict:=IS,data:=.set l p (mY c (!w.params.followText "set-order")),slots:=#[] },λE Q q=>?_,?_,?_⟩
  ·have j:s.TypeIs (.ref a) "set" :=⟨_,f,rfl⟩;refine Ez j FC (Ar FC j Yd ?_ (PySem.F.args_set_iter_1 _));unfold Ch.«frozenset.__iter__» Ii;refine b7 (b7 (d9 (d9 ?_)));unfold HZ;refine b7 (b7 (DV f rfl x (d9 ?_)));unfold setDrawn;refine b7 (b7 (Dx f rfl x ?_));unfold setsByText;refine b7 (b7 (C7 (d9 (d9 ?_))));refine BL (λz=>x4 (show(!w.params.followText "set-order" && IU)=IT from z) (by simp)) (λ_=>b7 (d9 ?_));refine b7 (wpAny_setEpoch_of f rfl x ?_);refine b7 (Ac (d9 ⟨_,rfl, "set_iterator",_,⟨_,f9 _ rfl,rfl⟩,su.lookup,?_⟩));have J:vY w c 0=0:=by
    unfold vY;split <;> rfl
   rw[J] at q;rw[m];rwa[q]
  ·exact {
    sub:=λb g=>by simp at g; simp[g]
    frame:=λi h n st C=>⟨C _ (by simp) _ st.1,C _ (by simp) _ st.2⟩
    item:=λi d Q E hi st B=>Vw st.1 st.2 y r hi λe n I H D=>B _ n d.toks ⟨e,I,rfl⟩ ⟨H,D.extBut _ _ u st.2⟩ λb o g q=>D.extBut b o (λz=>g (by simp[z])) q
    done:=λd Q E st B=>Ta G st.1 st.2 y r λn e=>B n d.toks λb o g q=>e b o (λz=>g (by simp[z])) q
    self:=λi d Q E st q=>by
     have j:d.TypeIs (.ref s.heap.objs.size) "set_iterator" :=⟨_,st.1,rfl⟩;erw[Ez j Zr (Ar Zr j ZO ?_ (WZ _))];show wpAny _ _ (ret (.ref s.heap.objs.size)) _ _ d;rwa[d9 ⟨_,rfl, "set_iterator",_,j,su.lookup,q⟩]}
  ·rwa[f9 _ rfl,c8 _ f]
end
section
variable{X:Cx}
def jD:∀{a:List (Int×c6)},(∀ e∈a,∃ t,e.2=.int e.1 t)->Fg (a.map (·.2)) (a.map (·.1))
 | [],_=>.nil
 | (k,v)::a,h=>by
  obtain⟨t,e⟩:=h _ (.head _);dsimp only at e;subst e;rwa[.cons k t (jD λe c=>h e (.tail _ c))]
def jL(Y:X.calm=IT):uN X (.builtin "sorted") (λG H Q=>E2 λ(v:c5) (d:List Nat)=>A4 (G=[.ref v]) (H v=O (.ext (cH v d (!X.w.params.followText "set-order")))) (d∈kP) (∀ p,H p=IS->Q (.ref p) (upd H p (.lst (d.map λk=>V.int (k:Nat)))))):=by
 intro IV s N H G us Q I r h;obtain⟨v,d,rfl,P,B,q⟩:=h;obtain⟨u,rfl,ru⟩:=yS.one r;cases ru;obtain⟨y,z,R,x⟩:=(show wC X.prog X.w H s.heap v (.ext (cH v d (!X.w.params.followText "set-order"))) from I.hok v _ P).1;have h6:=eS d B;have zb:d.length<=sizeLine:=by rw[sizeLine_eq]; lia
 have T:X.A.in1.handled=none:=I.ok.hd Y;refine Er kind_sorted plain_sorted entry_sorted (args_sorted1 _) ?_;unfold Ch.«sorted»;refine b7 (m:=checkCount "sorted" 1 1 _) (d9 ?_);refine b7 (kdu_collect (Su x B) T R zb λf l c keep g=>?_);have C:=ue X.w v y z;have ea:c.toList=(qa X.w v y z).toList.map (·.2):=by
  refine CN λj=>?_;have hs:(qa X.w v y z).size=d.length:=by
   have E:=C.length_eq;have D:=congrArg AH x.1;simp at E D;lia
  by_cases L:j<c.size
  ·obtain⟨e,e1,e2⟩:=g.2 j c[j] (by simp[L]);rw[BA,x6 L,e2,d7,BA,e1];rfl
  ·rw[AM (by rw[Ap]; lia),AM (by have:=g.1; simp; lia)]
 have Z:Fg c.toList ((qa X.w v y z).toList.map (·.1)):=by
  rw[ea];rwa[jD λe m=>x.2 e (C.mem_iff.mp m)]
 have S:c.toList.length=d.length:=by rw[Ap]; rwa[g.1]
 refine b7 (F0 ?_ (by rw[S]; exact zb));have i:(f.push (seqObj "list" c.toList.toArray 0)).get? f.objs.size=O (seqObj "list" c.toList.toArray 0):=f9 _ rfl;show wpAny _ _ _ _ _ { s with heap:=f.push (seqObj "list" c.toList.toArray 0),toks:=l };refine b7 (Bo (Ar slot_list_sort ⟨_,i,rfl⟩ entry_list_sort (list_sort_tree (s:={ s with heap:=f.push (seqObj "list" c.toList.toArray 0),toks:=l }) i Z (by lia) λout n E D a3=>⟨_,rfl,d9 ⟨_,rfl,?_⟩⟩) (args_list_sort _)));have en:n=d.map GV:=by
  have p2:n.Perm (d.map GV):=by rw[<- x.1]; rwa[D.trans (C.map _)]
  erw[p2.eq_of_pairwise (le:=(·<=·)) (λa b _ _ h1 h2=>Int.le_antisymm h1 h2) a3 ?_];erw[Dw.mpr ((mh d B).1.imp λh=>?_)];rwa[Int.ofNat_le.mpr (AV h)]
 have kp:∀ b o,s.heap.get? b=O o->(sortedHeap (f.push (seqObj "list" c.toList.toArray 0)) f.objs.size c.toList out).get? b=O o:=λb o e =>
  (sortedHeap_old (j9 (g6 (keep b o e))) (g6 (c8 _ (keep b o e)))).trans (c8 _ (keep b o e))
 obtain⟨e,at'⟩:=sortedHeap_at (out:=out) i;have M:Inv X IV N H { s with heap:=f,toks:=l }:=I.kept (t':=l) keep;have fp:=M.fpOk (H':=H) (f6 _) (M.hok.fresh (f6 _));have J:=vz E;rw[en,AE] at J;exact⟨.ref f.objs.size,_,(I.kept (t':=l) kp).more (o:=.lst (d.map λk=>V.int (k:Nat))) fp ⟨by rw[ac]; exact zb,out.toList,e,J,by simpa using at'⟩,rfl,q _ fp.1⟩
end
end L2

namespace Sea
def flatJ(S:BS)(j:Nat):List (List Int):=(S.notes.map λe=>yM S j e.2).flatten
structure SidesJ(H:Hp)(l:c5)(ss:List Sd)(S:BS)(j:Nat):Prop where
 mk ::
 at_:H l=O (.lst (zW ss))
 ok:jv H ss
 rows:ss.map (·.2)=(flatJ S j).map p3
 few:ss.length<=2*S.notes.length
end Sea

-- LAW
namespace Sea
local macro_rules | `(tactic| ac_rfl) => `(tactic| exact ⟨rfl, rfl, rfl, by decide +kernel, rfl, by decide +kernel, by decide +kernel⟩)
structure Zs(mg:g8->Option c6):Prop where
 abs:mg "abs" = IS
 all:mg "all" = IS
 bool:mg "bool" = IS
 dict:mg "dict" = IS
 enumerate:mg "enumerate" = IS
 int:mg "int" = IS
 isinstance:mg "isinstance" = IS
 len:mg "len" = IS
 list:mg "list" = IS
 max:mg "max" = IS
 min:mg "min" = IS
 range:mg "range" = IS
 set:mg "set" = IS
 sorted:mg "sorted" = IS
 sum:mg "sum" = IS
 tuple:mg "tuple" = IS
 zip:mg "zip" = IS
def yH:zL ["numbers","shared","number","rest","smaller"] ["numbers"] (zG wJ):=by ac_rfl
def mw:zL ["numbers","shared"] ["numbers"] (zG xw):=by ac_rfl
def iD:zL ["numbers"] ["numbers"] (zG rX):=by ac_rfl
def aq:zL ["x","y","w"] ["x","y","w"] (zG pS):=by ac_rfl
def aR:zL ["one","other"] ["one","other"] (zG pW):=by ac_rfl
def cC:zL ["one","other"] ["one","other"] (zG vq):=by ac_rfl
def oJ:zL ["side"] ["side"] (zG vB):=by ac_rfl
def gB:zL ["side","spot"] ["side","spot"] (zG yc):=by ac_rfl
def dE:zL ["side","spot"] ["side","spot"] (zG vo):=by ac_rfl
def tH:zL ["one","other","w","x","y"] ["one","other"] (zG sV):=by ac_rfl
def gM:zL ["side","x","y"] ["side","x","y"] (zG ye):=by ac_rfl
def uI:zL ["place","one","other","first","second"] ["place","one","other"] (zG wK):=by ac_rfl
def nZ:zL ["left","right"] ["left","right"] (zG vC):=by ac_rfl
def wb:zL ["sides","place","side"] ["sides","place"] (zG sZ):=by ac_rfl
def bI:zL ["side"] ["side"] (zG pC):=by ac_rfl
def xK:zL ["sides","edge","hand","found","place","number","side"] ["sides","edge","hand"] (zG sN):=by ac_rfl
def xi:zL ["sides","edge","numbers"] ["sides","edge"] (zG tD):=by ac_rfl
def rN:zL ["sides","edge","place"] ["sides","edge"] (zG wT):=by ac_rfl
def qK:zL ["sides","place","number"] ["sides"] (zG yh):=by ac_rfl
def cS:zL ["direction"] ["direction"] (zG pA):=by ac_rfl
def re:zL ["numbers","weights","least"] ["numbers","weights"] (zG qC):=by ac_rfl
def yK:zL ["sides","last","edge","numbers","one","other","weights"] ["sides","last"] (zG xW):=by ac_rfl
def rJ:zL ["sides","last","edge","number","side"] ["sides"] (zG uv):=by ac_rfl
def pc:zL [] [] (zG uR):=by ac_rfl
def rq:zL ["state","kind","key","value","fresh"] ["state","kind","key","value"] (zG qR):=by ac_rfl
def qx:zL ["state","kind","key","fresh"] ["state","kind","key"] (zG qA):=by ac_rfl
def fh:zL ["numbers","most"] ["numbers","most"] (zG xt):=by ac_rfl
def nX:zL ["name"] ["name"] (zG vH):=by ac_rfl
def oa:zL ["state","kind","name"] ["state","kind","name"] (zG uZ):=by ac_rfl
def pj:zL ["place"] ["place"] (zG uQ):=by ac_rfl
def mJ:zL ["run"] ["run"] (zG tG):=by ac_rfl
def oC:zL ["state","kind"] ["state","kind"] (zG vN):=by ac_rfl
def mm:zL ["state","name"] ["state","name"] (zG uY):=by ac_rfl
def tz:zL ["moment","runs"] ["moment","runs"] (zG wW):=by ac_rfl
def md:zL ["direction"] ["direction"] (zG tJ):=by ac_rfl
def ph:zL ["state","left","right"] ["state","left","right"] (zG uK):=by ac_rfl
def tN:zL ["state","row","name","place"] ["state","row"] (zG vJ):=by ac_rfl
def zr:zL ["state","row","run"] ["state","row"] (zG vG):=by ac_rfl
def yo:zL ["state","row","fresh"] ["state","row"] (zG vD):=by ac_rfl
def vf:zL ["state","row"] ["state","row"] (zG wB):=by ac_rfl
def qm:zL ["state","row"] ["state","row"] (zG uD):=by ac_rfl
def rV:zL ["state","row","number"] ["state","row"] (zG wS):=by ac_rfl
def cw:zL ["state","row"] ["state","row"] (zG ux):=by ac_rfl
def wV:zL ["book","one","other","runs","between","hand"] ["book","one","other"] (zG uM):=by ac_rfl
def vW:zL ["book","places","mark"] ["book"] (zG uG):=by ac_rfl
def kC:zL ["note","places"] ["note","places"] (zG sF):=by ac_rfl
def yY:zL ["book","moment","places","groups","pair","note","way"] ["book","moment"] (zG uJ):=by ac_rfl
def tU:zL ["book","moment","sides","group"] ["book","moment"] (zG vI):=by ac_rfl
def uh:zL ["book"] ["book"] (zG wQ):=by ac_rfl
def xP:zL ["book","owners","numbers","groups","at"] ["book"] (zG uO):=by ac_rfl
def sA:zL ["book","told","owners"] ["book"] (zG vF):=by ac_rfl
def dy:zL ["_law_number"] ["_law_number"] (zG wc):=by ac_rfl
def wG:zL ["_law_script","_law_many","_law_rows","_law_mix","_law_cell","_law_rest"] ["_law_script","_law_many"] (zG vn):=by ac_rfl
def Yx:zL [] [] (zG lW):=by ac_rfl
def oy:zL ["_law_m","_law_one","_law_other","_law_steps","_law_sign"] ["_law_m","_law_one","_law_other"] (zG pB):=by ac_rfl
def pR:zL ["_law_one","_law_two","_law_wide","_law_x","_law_y"] ["_law_one","_law_two","_law_wide"] (zG ka):=by ac_rfl
def gN:zL ["_law_one","_law_other"] ["_law_one","_law_other"] (zG yf):=by ac_rfl
def xQ:zL ["_law_d","_law_wide","_law_one","_law_other"] ["_law_d","_law_wide"] (zG vZ):=by ac_rfl
def yD:zL ["_law_d","_law_m","_law_moment","_law_mark","_law_x","_law_y","_law_dx","_law_dy","_law_p","_law_q","_law_by","_law_one","_law_other"] ["_law_d","_law_m","_law_moment","_law_mark","_law_x","_law_y"] (zG wR):=by ac_rfl
def zZ:zL ["_law_some","_law_names_here","_law_x","_law_y","_law_m","_law_deeds","_law_k","_law_known","_law_d","_law_moment","_law_one","_law_other","_law_deed"] ["_law_some","_law_names_here"] (zG vE):=by ac_rfl
def yZ:zL ["_law_some","_law_many","_law_letters","_law_rows","_law_at","_law_raw","_law_size","_law_step","_law_word","_law_place","_law_k","_law_sign"] ["_law_some","_law_many"] (zG wj):=by ac_rfl
def lE:zL ["_law_m","_law_deed","_law_later"] ["_law_m","_law_deed"] (zG vp):=by ac_rfl
def rW:zL ["_law_some","_law_book","_law_m","_law_deed"] ["_law_some","_law_book"] (zG ya):=by ac_rfl
def pI:zL ["_law_one","_law_other"] ["_law_one","_law_other"] (zG kM):=by ac_rfl
def nY:zL ["_law_side","_law_by"] ["_law_side"] (zG xx):=by ac_rfl
def yR:zL ["_law_m","_law_note","_law_x","_law_y","_law_p","_law_q","_law_a","_law_b","_law_c","_law_d"] ["_law_m","_law_note"] (zG qP):=by ac_rfl
def wF:zL ["_law_m","_law_moment","_law_found","_law_number","_law_note","_law_x","_law_y"] ["_law_m","_law_moment"] (zG sO):=by ac_rfl
def sU:zL ["_law_m","_law_moment","_law_found","_law_group"] ["_law_m","_law_moment"] (zG qJ):=by ac_rfl
def yp:zL ["_law_x","_law_y","_law_w","_law_by"] ["_law_x","_law_y","_law_w"] (zG qG):=by ac_rfl
def iu:zL ["_law_one","_law_other","_law_by"] ["_law_one","_law_other"] (zG pG):=by ac_rfl
def pT:zL ["_law_sides","_law_place","_law_x","_law_y","_law_w"] ["_law_sides","_law_place"] (zG ku):=by ac_rfl
def xF:zL ["_law_sides","_law_found","_law_at","_law_one","_law_other","_law_place"] ["_law_sides"] (zG vL):=by ac_rfl
def aB:zL ["_law_sides"] ["_law_sides"] (zG pE):=by ac_rfl
def xk:zL ["_law_sides","_law_place"] ["_law_sides"] (zG tF):=by ac_rfl
def cb:zL ["_law_found"] ["_law_found"] (zG vd):=by ac_rfl
def sP:zL ["_law_script","_law_some","_law_book","_law_m","_law_number","_law_sides","_law_again","_law_found","_law_own","_law_at"] ["_law_script"] (zG gE):=by ac_rfl
def aE:zL ["self"] ["self"] (zG pN):=by ac_rfl
def fq:zL ["self","number"] ["self","number"] (zG xu):=by ac_rfl
def nC:zL ["self","row","number","fresh"] ["self","row"] (zG pF):=by ac_rfl
def lK:zL ["self","places"] ["self"] (zG va):=by ac_rfl
def jP:zL ["self","runs"] ["self"] (zG pO):=by ac_rfl
def db:zL ["self"] ["self"] (zG wf):=by ac_rfl
def gX:zL ["self"] ["self"] (zG yg):=by ac_rfl
def qL:c5:=348
def bkC:c5:=772
def Tf:c5:=387
def UR:List (Key×V):=[(.inr "marks",.int 20),(.inr "banks",.int 8),(.inr "runs",.int 12),(.inr "notes",.int 24)]
def XO:c5:=552
def Xa:List (Key×V):=[(.inr "mark",.ref 481),(.inr "move",.ref 488),(.inr "unmark",.ref 495),(.inr "bank",.ref 502),(.inr "level",.ref 509),(.inr "sail",.ref 516),(.inr "right",.ref 523),(.inr "bearing",.ref 537),(.inr "range",.ref 544),(.inr "strike",.ref 551)]
def gf:c5:=619
def nD:c5:=689
def kA:c5:=696
def jo:c5:=743
def kW:c5:=755
def pD:c5:=762
def oz:c5:=769
structure Cb(P:j7)(w:m9)(mg:g8->Option c6)(base:v8):Prop where
 state:InB base λK=>Cls K bkC/\xm K bkC "state"
 past:InB base λK=>Cls K bkC/\xm K bkC "past"
 later:InB base λK=>Cls K bkC/\xm K bkC "later"
 m_strike:InB base λK=>Cls K bkC/\YE K bkC "strike" nD
 m_deed:InB base λK=>Cls K bkC/\YE K bkC "deed" kA
 m_marks:InB base λK=>Cls K bkC/\YE K bkC "marks" jo
 m_runs:InB base λK=>Cls K bkC/\YE K bkC "runs" kW
 m_notes:InB base λK=>Cls K bkC/\YE K bkC "notes" pD
 m_coming:InB base λK=>Cls K bkC/\YE K bkC "coming" oz
 make:InB base λK=>Mk K bkC gf
 gBook:mg "Book" = O (.ref bkC)
 dMOST:Uu P w base Tf UR
 gMOST:mg "MOST" = O (.ref Tf)
 dAFTER:Uu P w base XO Xa
 gAFTER:mg "AFTER" = O (.ref XO)
 LONGEST_NAME:∃ k,mg "LONGEST_NAME" = O (.int 8 k)
 FARTHEST:∃ k,mg "FARTHEST" = O (.int 1000 k)
 LONGEST_WAY:∃ k,mg "LONGEST_WAY" = O (.int 100 k)
 t_mark:mg "after_mark" = O (.ref 481)
 t_sail:mg "after_sail" = O (.ref 516)
 t_bearing:mg "after_bearing" = O (.ref 537)
 t_range:mg "after_range" = O (.ref 544)
 t_strike:mg "after_strike" = O (.ref 551)
 e_NoMoment:IH "NoMoment" qL bmV "ValueError.__new__" mg base
set_option hygiene false in
local macro_rules | `(tactic| fail) => `(tactic| first | (with_reducible first | exact xV | exact zN) | ((with_reducible apply Tt); exact rfl; fail; fail) | (with_reducible first | exact zU | exact kJ | exact xq) | ((with_reducible apply UE); first | ((with_reducible apply Te "bool"); exact mv (v := .ty "bool") rfl Z.bool aS rfl) | ((with_reducible apply Te "dict"); exact mv (v := .ty "dict") rfl Z.dict wx rfl) | ((with_reducible apply Te "int"); exact mv (v := .ty "int") rfl Z.int XY rfl) | ((with_reducible apply Te "list"); exact mv (v := .ty "list") rfl Z.list qM rfl) | ((with_reducible apply Te "tuple"); exact mv (v := .ty "tuple") rfl Z.tuple kU rfl) | exact pv 0 | exact pv 1 | exact pv 2 | exact pv 3 | exact pv 4 | exact pv 5 | exact pv 6 | exact pv 7 | exact pv 8 | exact pv 9 | exact pv 10 | exact pv 11 | exact pv 12) | ((with_reducible apply m_sub); first | ((with_reducible apply tI Zy); fail; fail; fail) | ((with_reducible apply m_ix); exact λ_ _ => rfl; fail; fail)) | ((with_reducible apply m_bin); (with_reducible first | apply tR fR | apply tR TX | apply tR jV | apply tR ZZ | apply tR Xf | apply tR TH); fail; fail) | ((with_reducible apply Uc); first | ((with_reducible apply m_own); (with_reducible assumption); exact ⟨rfl, rfl, rfl, rfl, rfl⟩; exact hr.mono (by decide); exact rfl; decide; exact rfl; exact rfl; fail) | ((first | ((with_reducible apply jT Zc UD); exact Z.abs) | ((with_reducible apply jT (rL rfl) lG); exact Z.all) | ((with_reducible apply jT gw kQ); exact Z.isinstance) | ((with_reducible apply jT zk sh); exact Z.len) | ((with_reducible apply jT (Zq rfl) Sn); exact Z.max) | ((with_reducible apply jT (Zm rfl) UH); exact Z.min) | ((with_reducible apply jT call_sortedT uH); exact Z.sorted) | ((with_reducible apply jT (zn rfl) iU); exact Z.sum) | ((with_reducible apply Uq call_bool1 aS); exact Z.bool) | ((with_reducible apply Uq rQ wx); exact Z.dict) | ((with_reducible apply Uq bf XY); exact Z.int) | ((with_reducible apply Uq rm qM); exact Z.list) | ((with_reducible apply Uq (iW rfl) Ws); exact Z.set) | ((with_reducible apply Uq vx kU); exact Z.tuple)); exact rfl; decide; decide; exact rfl; exact rfl; fail)) | ((with_reducible first | apply io | apply aZ | apply pe_un TV | apply UV); fail) | ((with_reducible apply m_cmp); (with_reducible first | apply zx Wl | apply zx Ug | apply zx Wi | apply zx dq | apply zx YM | apply zx WT | apply zx Xc | apply zx bw); fail; fail; exact xj _) | ((with_reducible apply UF); (with_reducible first | apply xJ Wl | apply xJ Ug | apply xJ Wi | apply xJ dq | apply xJ YM | apply xJ WT | apply xJ Xc | apply xJ bw); fail; fail; exact xj _) | ((with_reducible first | apply Vq | apply Ve | apply lS); fail) | ((with_reducible first | apply Uj | apply gT); fail; fail) | ((with_reducible first | apply sg | apply Xh); fail) | ((with_reducible first | apply XM | apply pe_or); fail; fail) | ((with_reducible apply fS); fail; fail; fail) | with_reducible exact zp | ((with_reducible apply rE); fail) | ((with_reducible apply m_val); exact λ_ => rfl; fail))
set_option hygiene false in
local macro_rules | `(tactic| specialize $e) => `(tactic| refine F.ok $e (λvs H Q E h => ?_) (λcdv A outer s H vs Q E hr h => ?_))
def cG : (assignEach [.Name x p,.Name y q] e).length=2:=rfl
def cE : (assignEach [.Name x p,.Name y q,.Name z r] e).length=3:=rfl
local macro_rules | `(tactic| nofun) => `(tactic| ((any_goals fail); try dsimp only [L2.cxOf, L2.cxComp, L2.Cx.nox, cG, cE]))
section
variable{P:j7}{w:m9}{mg:g8->Option c6}{base:v8}{f:c5}{fd:AN}
def sX(K:b9):Sp:=λc H Q _=>E2 λ(a:c5) (ns:List Int)=>A3 (c=[.ref a]) (Sq K H a (ns.map V.int)) (Q (.int (yF ns)) H)
def uz(F:Fun K "common_factor" "common_factor" wJ f fd)(Z:Zs mg):yN P w K mg base CX0 1 f fd ["numbers"] (sX K):=by
 specialize yH
 ·obtain⟨a,ns,rfl,_⟩:=h;rfl
 obtain⟨a,ns,rfl,o,q⟩:=h
 refine'⟨_,(zB (zS 1 yH.nd xV)
   (zB (xM l9 rfl (xD (pv 0)) (xR 2 yH.nd) (zB (zS 3 yH.nd ?_)
   (zD (pH l9 ?_ (zB (zS 4 yH.nd ?_)
   (zB (zS 1 yH.nd (pv 3))
   (zD (zS 3 yH.nd (pv 4)))))))))
   (zD (zM (pv 1))))),?_⟩
 nofun
 have mono:∀(c:St)(H:Hp)(Q B:Bool->Hp->Prop),(∀ b l,Q b l->B b l)->aJ (tOp rNe (Uv 3) (tC (.int 0))) c H Q->aJ (tOp rNe (Uv 3) (tC (.int 0))) c H B:=λc H Q B G z=>by
  obtain⟨v,C,D,k,I,z⟩:=z;rwa[v,C,D,k,I,G _ _ z]
 rcases o with o | o
 ·erw[_,rfl,a,rfl,.inl ⟨⟨_,o⟩,wH (K:=K) (a:=a) (xs:=ns.map V.int) (λi c j=>j=H/\E3 λ(u v z:Option V)=>c=[O (.ref a),O (.int (yF (ns.take i))),u,v,z]) ⟨rfl,IS,IS,IS,rfl⟩ (λi c j _ m=>by obtain⟨e,_⟩:=m; rw[e]; rwa[o]) ?_ ?_⟩]
  ·rintro i x c j hi ⟨rfl,u,v,z,rfl⟩;obtain⟨n,p,rfl⟩:=uC hi;exists _,U,n,rfl;refine uu (λc l=>l=j/\E3 λ(g r:Int) (y:Option V)=>A4 (c=[O (.ref a),O (.int g),O (.int n),O (.int r),y]) (0<=g) (0<=r) (w9 g.toNat r.toNat=yF (ns.take (i+1))))
    (λc _=>match c with | [_,_,_,O (.int r),_]=>r.toNat | _=>0) ⟨rfl,_,_,_,rfl,BZ _,by split <;> lia,?_⟩ ?_ mono
   ·rw[xN p,jb,fL]; rfl
   ·rintro c l ⟨rfl,g,r,y,rfl,h1,h2,h3⟩;exists _,U,U,_,rfl;erw[ifNe (λd=>?_) (λd=>?_)]
    ·refine⟨_,U,_,U,_,_,U,U,(by show(0:Int)<r; lia),_,rfl,_,rfl,⟨rfl,_,_,_,rfl,h2,Ak g d,?_⟩,?_⟩
     ·rw[kZ h1 (by lia)]; rwa[h3]
     ·have h4:=r9 g (show 0<r by lia);show(g%r).toNat<r.toNat;lia
    ·subst d;have h5:g=((yF (ns.take (i+1)):Nat):Int):=by
      rw[<- h3];show g=((w9 g.toNat 0:Nat):Int);rw[Ek];lia
     rwa[rfl,O (.int n),O (.int 0),y,by rw[h5]]
  ·rintro c j ⟨rfl,u,v,z,rfl⟩;exists _,rfl;rw[ac,j5];rwa[q]
 ·erw[_,rfl,a,rfl,.inr ⟨⟨_,o⟩,VX (K:=K) (a:=a) (xs:=ns.map V.int) (λi c j=>j=H/\E3 λ(u v z:Option V)=>c=[O (.ref a),O (.int (yF (ns.take i))),u,v,z]) ⟨rfl,IS,IS,IS,rfl⟩ (λi c j _ m=>by obtain⟨e,_⟩:=m; rw[e]; rwa[o]) ?_ ?_⟩]
  ·rintro i x c j hi ⟨rfl,u,v,z,rfl⟩;obtain⟨n,p,rfl⟩:=uC hi;exists _,U,n,rfl;refine uu (λc l=>l=j/\E3 λ(g r:Int) (y:Option V)=>A4 (c=[O (.ref a),O (.int g),O (.int n),O (.int r),y]) (0<=g) (0<=r) (w9 g.toNat r.toNat=yF (ns.take (i+1))))
    (λc _=>match c with | [_,_,_,O (.int r),_]=>r.toNat | _=>0) ⟨rfl,_,_,_,rfl,BZ _,by split <;> lia,?_⟩ ?_ mono
   ·rw[xN p,jb,fL]; rfl
   ·rintro c l ⟨rfl,g,r,y,rfl,h1,h2,h3⟩;exists _,U,U,_,rfl;erw[ifNe (λd=>?_) (λd=>?_)]
    ·refine⟨_,U,_,U,_,_,U,U,(by show(0:Int)<r; lia),_,rfl,_,rfl,⟨rfl,_,_,_,rfl,h2,Ak g d,?_⟩,?_⟩
     ·rw[kZ h1 (by lia)]; rwa[h3]
     ·have h4:=r9 g (show 0<r by lia);show(g%r).toNat<r.toNat;lia
    ·subst d;have h5:g=((yF (ns.take (i+1)):Nat):Int):=by
      rw[<- h3];show g=((w9 g.toNat 0:Nat):Int);rw[Ek];lia
     rwa[rfl,O (.int n),O (.int 0),y,by rw[h5]]
  ·rintro c j ⟨rfl,u,v,z,rfl⟩;exists _,rfl;rw[ac,j5];rwa[q]
def uT(K:b9):Sp:=λd H Q _=>E2 λ(a:c5) (ns:List Int)=>A6 (d=[.ref a]) (Sq K H a (ns.map V.int)) (ns.length<=1000) (0<yF ns) ((yF ns:Int)<10^600) (∀(p:c5)(c:Hp),Same H c->H p=IS->c p=O (.tup ((rF ns).map V.int))->Q (.ref p) c)
def gU(F:Fun K "lowest" "lowest" xw f fd)(Z:Zs mg)(I:Cb P w mg base)(C:Has P w K mg base "common_factor" 1 ["numbers"] (sX K)):yN P w K mg base CX0 2 f fd ["numbers"] (uT K):=by
 specialize mw
 ·obtain⟨a,ns,rfl,_⟩:=h;rfl
 obtain⟨a,ns,rfl,m,z,G,r,q⟩:=h
 refine'⟨_,(zB (zS 1 mw.nd ?_)
   (zD (zM (yT vx rfl Z.tuple kU (zI (yU (T:=["number"]) (caps:=[("shared",1)]) ⟨rfl,by ac_nf,by ac_nf,rfl,⟨⟨rfl,rfl,BB rfl⟩,o0⟩⟩ rfl (xD (pv 0)) (λ_=>(xR 0 (show(["number","shared"]:List g8).Nodup by ac_nf))) (λ_=>yJ) (λ_=>?_)) zN))))),?_⟩
 nofun
 exists _,U,a,ns,U,m;have v:∀(D:c5)(d:Hp),H D=IS->Same H d->d D=O (.lst ((rF ns).map V.int))->∀ l,d l=IS->Q (.ref l) (upd d l (.tup ((rF ns).map V.int))):=λD d o B e l z =>
  q l _ (B.trans (zC z _)) (B.free z) zA
 have len:∀ i,((ns.take i).map λn=>V.int (n/(yF ns:Int))).length<sizeLine:=λi=>zK (by rw[ac,j3]; lia);rcases m with m | m
 ·refine⟨_,U,a,U,.inl ⟨⟨_,m⟩,λc D o=>yL (K:=K) (a:=a) (xs:=ns.map V.int) (λi j g d=>A3 (d=upd H D (.lst g)) (g=(ns.take i).map (λn=>V.int (n/(yF ns:Int)))) (∃ u,j=[u,O (.int (yF ns))]))
   ⟨rfl,rfl,IS,rfl⟩ (λi j g d _ p=>by obtain⟨e,_⟩:=p; rw[e]; rwa[(zC o _).seq m,zA]) ?_ ?_⟩⟩
  ·rintro i x j g d hi ⟨rfl,rfl,u,rfl⟩;obtain⟨n,y,rfl⟩:=uC hi;exists _,U,_,U,_,_,U,U,zm.of (by lia) r,zA,len i;erw[nW,?_,_,rfl];rw[xN y,e7];rfl
  ·rintro j g d ⟨rfl,rfl,u,rfl⟩;rw[ac,j5];have e:(ns.map λn=>V.int (n/(yF ns:Int)))=(rF ns).map V.int:=by unfold rF; rw[AE]; rfl
   rw[e];rwa[D,_,rfl,.inl ⟨SqL.of zA,v D _ o (zC o _) zA⟩]
 ·refine⟨_,U,a,U,.inr ⟨⟨_,m⟩,λc D o=>nv (K:=K) (a:=a) (xs:=ns.map V.int) (λi j g d=>A3 (d=upd H D (.lst g)) (g=(ns.take i).map (λn=>V.int (n/(yF ns:Int)))) (∃ u,j=[u,O (.int (yF ns))]))
   ⟨rfl,rfl,IS,rfl⟩ (λi j g d _ p=>by obtain⟨e,_⟩:=p; rw[e]; rwa[SqT.same m (zC o _),zA]) ?_ ?_⟩⟩
  ·rintro i x j g d hi ⟨rfl,rfl,u,rfl⟩;obtain⟨n,y,rfl⟩:=uC hi;exists _,U,_,U,_,_,U,U,zm.of (by lia) r,zA,len i;erw[nW,?_,_,rfl];rw[xN y,e7];rfl
  ·rintro j g d ⟨rfl,rfl,u,rfl⟩;rw[ac,j5];have e:(ns.map λn=>V.int (n/(yF ns:Int)))=(rF ns).map V.int:=by unfold rF; rw[AE]; rfl
   rw[e];rwa[D,_,rfl,.inl ⟨SqL.of zA,v D _ o (zC o _) zA⟩]
def yz(K:b9):Sp:=λd H Q _=>E3 λ(a:c5) (ns:List Int) (l:Int)=>A8 (d=[.ref a]) (Sq K H a (ns.map V.int)) (ns.length<=1000) (atI (ns.map V.int) (-1)=O (.int l)) (l∈ns) (l≠0) (l.natAbs<10^500) (∀(p:c5)(c:Hp),Same H c->H p=IS->c p=O (.tup ((rF (if l<0 then ns.map (λn=>-n) else ns)).map V.int))->Q (.ref p) c)
def iy(F:Fun K "upright" "upright" rX f fd)(Z:Zs mg)(CB:Cb P w mg base)(z:Has P w K mg base "lowest" 2 ["numbers"] (uT K)):yN P w K mg base CX0 3 f fd ["numbers"] (yz K):=by
 specialize iD
 ·obtain⟨a,ns,l,rfl,_⟩:=h;rfl
 obtain⟨a,ns,l,rfl,o,R,I,N,h0,Y,q⟩:=h
 refine'⟨_,(zB (yO ?_ (zD (zM (wL z (hr.mono (by decide)) rfl (zI (yU (T:=["number"]) (caps:=[]) ⟨rfl,by ac_nf,by ac_nf,rfl,o0⟩ rfl (xD (pv 0)) (λ_=>(xR 0 (show(["number"]:List g8).Nodup by ac_nf))) (λ_=>yJ) (λ_=>?_)) zN)))) zX)
   (zD (zM ?_))),?_⟩
 nofun
 exists _,U,_,U,a,_,_,_,U,U,o,I,_,_,U,U,_,rfl;have S:0<yF ns:=xL N h0;have X:(yF ns:Int)<10^600:=by
  have h1:=za N h0;have h2:(10:Nat)^500<10^600:=by ac_nf
  have h3:((10:Int)^600)=((10^600:Nat):Int):=by rw[Int.natCast_pow]; rfl
  rw[h3];lia
 erw[ifD (λj=>?_) (λj=>?_)]
 ·have len:∀ i,((ns.take i).map λn=>V.int (-n)).length<sizeLine:=λi=>zK (by rw[ac,j3]; lia);have y:∀(D:c5)(d:Hp),H D=IS->Same H d->d D=O (.lst ((ns.map λn=>-n).map V.int))->uT K [.ref D] d Q E0:=λD d r M e=>by
   erw[D,ns.map λn=>-n,rfl,.inl (SqL.of e),by rw[ac]; exact R,by rw[fJ]; exact S,by rw[fJ]; exact X,λp L B C J=>?_];rwa[q p L (M.trans B) (M.free C) (by rw[y7 j]; exact J)]
  rcases o with o | o
  ·refine⟨_,U,a,U,.inl ⟨⟨_,o⟩,λc D r=>yL (K:=K) (a:=a) (xs:=ns.map V.int) (λi m g d=>A3 (d=upd H D (.lst g)) (g=(ns.take i).map (λn=>V.int (-n))) (∃ u,m=[u]))
    ⟨rfl,rfl,IS,rfl⟩ (λi m g d _ v=>by obtain⟨e,_⟩:=v; rw[e]; rwa[(zC r _).seq o,zA]) ?_ ?_⟩⟩
   ·rintro i x m g d hi ⟨rfl,rfl,u,rfl⟩;obtain⟨n,G,rfl⟩:=uC hi;exists _,U,_,U,zA,len i;erw[nW,?_,_,rfl];rw[xN G,e7];rfl
   ·rintro m g d ⟨rfl,rfl,u,rfl⟩;rw[ac,j5];have e:(ns.map λn=>V.int (-n))=(ns.map λn=>-n).map V.int:=by rw[AE]; rfl
    rw[e];rwa[y D _ r (zC r _) zA]
  ·refine⟨_,U,a,U,.inr ⟨⟨_,o⟩,λc D r=>nv (K:=K) (a:=a) (xs:=ns.map V.int) (λi m g d=>A3 (d=upd H D (.lst g)) (g=(ns.take i).map (λn=>V.int (-n))) (∃ u,m=[u]))
    ⟨rfl,rfl,IS,rfl⟩ (λi m g d _ v=>by obtain⟨e,_⟩:=v; rw[e]; rwa[SqT.same o (zC r _),zA]) ?_ ?_⟩⟩
   ·rintro i x m g d hi ⟨rfl,rfl,u,rfl⟩;obtain⟨n,G,rfl⟩:=uC hi;exists _,U,_,U,zA,len i;erw[nW,?_,_,rfl];rw[xN G,e7];rfl
   ·rintro m g d ⟨rfl,rfl,u,rfl⟩;rw[ac,j5];have e:(ns.map λn=>V.int (-n))=(ns.map λn=>-n).map V.int:=by rw[AE]; rfl
    rw[e];rwa[y D _ r (zC r _) zA]
 ·erw[_,rfl,a,ns,rfl,o,R,S,X,λp L B C J=>?_];rwa[q p L B C (by rw[y6 j]; exact J)]
def nO(K:b9):Sp:=λc H Q _=>E3 λ(X Y W:Int)=>A4 (c=[.int X,.int Y,.int W]) (W≠0) (W.natAbs<10^500) (∀(p:c5)(a:Hp),Same H a->H p=IS->a p=O (.tup ((rF (upL X Y W)).map V.int))->Q (.ref p) a)
def bD(F:Fun K "spot" "spot" pS f fd)(Z:Zs mg)(m:Cb P w mg base)(e:Has P w K mg base "upright" 3 ["numbers"] (yz K)):yN P w K mg base CX0 4 f fd ["x","y","w"] (nO K):=by
 specialize aq
 ·obtain⟨X,Y,W,rfl,_⟩:=h;rfl
 obtain⟨X,Y,W,rfl,i,a,q⟩:=h
 refine'⟨_,(zD (zM ?_)),?_⟩
 nofun
 refine⟨_,U,_,U,_,U,sz3,λp d=>⟨p,[X,Y,W],W,U,.inr (SqT.of zA),by show 3<=1000; decide,rfl,by simp,i,a,λr l g c j=>?_⟩⟩;rwa[q r l ((zC d _).trans g) ((zC d _).free c) j]
def UW(K:b9):Sp:=λj H Q _=>E8 λ(a b:c5) (g e:List V) (d c i h:Int)=>A10 (j=[.ref a,.ref b]) (Sq K H a g) (Sq K H b e) (atI g 0=O (.int d)) (atI g 1=O (.int c)) (atI e 0=O (.int i)) (atI e 1=O (.int h)) (d.natAbs<=10^18) (c.natAbs<=10^18) (Q (.int (d*h-c*i)) H)
def vP(K:b9):Sp:=UW K
def Zz(F:Fun K "turn" "turn" pW f fd)(Z:Zs mg)(v:Cb P w mg base)  : yN P w K mg base CX0 1 f fd ["one","other"] (vP K):=by
 specialize aR
 ·obtain⟨a,b,n,l,g,d,e,c,rfl,_⟩:=h;rfl
 obtain⟨a,b,n,l,g,d,e,c,rfl,j,i,p,o,m,w1,u,r,q⟩:=h
 refine'⟨_,(zD (zM ?_)),?_⟩
 nofun
 exact⟨_,U,a,_,_,.int g,U,U,j,p,_,U,b,_,_,.int c,U,U,i,w1,_,_,U,U,vK (by lia),
  _,rfl,a,_,_,.int d,rfl,rfl,j,o,_,rfl,b,_,_,.int e,rfl,rfl,i,m,_,_,rfl,rfl,vK (by lia),_,_,rfl,rfl,q⟩
def lN(K:b9):Sp:=λj H Q _=>E8 λ(a b:c5) (g e:List V) (d c i h:Int)=>A10 (j=[.ref a,.ref b]) (Sq K H a g) (Sq K H b e) (atI g 0=O (.int d)) (atI g 1=O (.int c)) (atI e 0=O (.int i)) (atI e 1=O (.int h)) (d.natAbs<=10^18) (c.natAbs<=10^18) (Q (.int (d*i+c*h)) H)
def dU(F:Fun K "along" "along" vq f fd)(Z:Zs mg)(v:Cb P w mg base)  : yN P w K mg base CX0 1 f fd ["one","other"] (lN K):=by
 specialize cC
 ·obtain⟨a,b,n,l,g,d,e,c,rfl,_⟩:=h;rfl
 obtain⟨a,b,n,l,g,d,e,c,rfl,j,i,p,o,m,w1,u,r,q⟩:=h
 refine'⟨_,(zD (zM ?_)),?_⟩
 nofun
 exact⟨_,U,a,_,_,.int g,U,U,j,p,_,U,b,_,_,.int e,U,U,i,m,_,_,U,U,vK (by lia),
  _,rfl,a,_,_,.int d,rfl,rfl,j,o,_,rfl,b,_,_,.int c,rfl,rfl,i,w1,_,_,rfl,rfl,vK (by lia),_,_,rfl,rfl,q⟩
def tS(K:b9):Sp:=uT K
def nK(F:Fun K "plain_side" "plain_side" vB f fd)(Z:Zs mg)(d:Cb P w mg base)(c:Has P w K mg base "lowest" 2 ["numbers"] (uT K)):yN P w K mg base CX0 3 f fd ["side"] (tS K):=by
 specialize oJ
 ·obtain⟨a,ns,rfl,_⟩:=h;rfl
 obtain⟨a,ns,rfl,h1,h2,h3,h4,h5⟩:=h;rwa[_,(zD (zM (wL c (hr.mono (by decide)) rfl (zI (pv 0) zN)))),⟨_,rfl,a,ns,rfl,h1,h2,h3,h4,h5⟩]
def Wy(K:b9)(R:Int->Int->Int->Int->Int->Int->Hp->VK->Prop):Sp:=λc H Q _=>E8 λ(a b:c5) (A B C x y z:Int)=>A7 (c=[.ref a,.ref b]) (Sq K H a [.int A,.int B,.int C]) (Sq K H b [.int x,.int y,.int z]) (A.natAbs<=10^18) (B.natAbs<=10^18) (C.natAbs<=10^18) (R A B C x y z H Q)
def nS(K:b9):Sp:=Wy K λA B C x y z H Q=>Q (.int (A*x+B*y-C*z)) H
def gg(F:Fun K "beyond" "beyond" yc f fd)(Z:Zs mg)(l:Cb P w mg base)  : yN P w K mg base CX0 1 f fd ["side","spot"] (nS K):=by
 specialize gB
 ·obtain⟨a,b,A,B,C,x,y,z,rfl,_⟩:=h;rfl
 obtain⟨a,b,e,B,C,x,y,z,rfl,d,c,j,i,g,q⟩:=h
 refine'⟨_,(zD (zM ?_)),?_⟩
 nofun
 rwa[_,rfl,a,_,_,.int e,rfl,rfl,d,rfl,_,rfl,b,_,_,.int x,rfl,rfl,c,rfl,_,_,rfl,rfl,vK (by lia),_,rfl,a,_,_,.int B,rfl,rfl,d,rfl,_,rfl,b,_,_,.int y,rfl,rfl,c,rfl,_,_,rfl,rfl,vK (by lia),_,_,rfl,rfl,_,rfl,a,_,_,.int C,rfl,rfl,d,rfl,_,rfl,b,_,_,.int z,rfl,rfl,c,rfl,_,_,rfl,rfl,vK (by lia),_,_,rfl,rfl,q]
def rK(K:b9):Sp:=Wy K λA B C x y z H Q=>Q (.bl (decide (A*x+B*y-C*z<=0))) H
def dF(F:Fun K "holds" "holds" vo f fd)(Z:Zs mg)(m:Cb P w mg base)(c:Has P w K mg base "beyond" 1 ["side","spot"] (nS K)):yN P w K mg base CX0 2 f fd ["side","spot"] (rK K):=by
 specialize dE
 ·obtain⟨a,b,A,B,C,x,y,z,rfl,_⟩:=h;rfl
 obtain⟨a,b,l,B,C,x,y,z,rfl,j,i,g,e,d,q⟩:=h
 refine'⟨_,(zD (zM ?_)),?_⟩
 nofun
 rwa[_,rfl,_,rfl,a,b,l,B,C,x,y,z,rfl,j,i,g,e,d,_,_,rfl,rfl,q]
def qF(K:b9):Sp:=λl H Q _=>E8 λ(a b:c5) (g d h e c j:Int)=>A10 (l=[.ref a,.ref b]) (Sq K H a [.int g,.int d,.int h]) (Sq K H b [.int e,.int c,.int j]) (g.natAbs<=10^18) (d.natAbs<=10^18) (h.natAbs<=10^18) (e.natAbs<=10^18) (c.natAbs<=10^18) (g*c-d*e=0->Q .non H) (g*c-d*e≠0->∀(p:c5)(i:Hp),Same H i->H p=IS->i p=O (.tup ((rF (upL (h*c-d*j) (g*j-h*e) (g*c-d*e))).map V.int))->Q (.ref p) i)
def lV(F:Fun K "crossing" "crossing" sV f fd)(Z:Zs mg)(T:Cb P w mg base)(z:Has P w K mg base "upright" 3 ["numbers"] (yz K))(y:Has P w K mg base "turn" 1 ["one","other"] (vP K)):yN P w K mg base CX0 4 f fd ["one","other"] (qF K):=by
 specialize tH
 ·obtain⟨a,b,g,d,m,e,c,l,rfl,_⟩:=h;rfl
 obtain⟨a,b,g,d,m,e,c,l,rfl,j,i,v,u,S,G,D,C,q⟩:=h
 refine'⟨_,(zB (zS 2 tH.nd ?_)
   (zB (yO ?_ (zD (zM xq)) zX)
   (zB (zS 3 tH.nd ?_)
   (zB (zS 4 tH.nd ?_)
   (zD (zM ?_)))))),?_⟩
 nofun
 exists _,U,_,U,a,b,_,_,g,d,e,c,U,j,i,U,U,U,U,v,u;exists _,U,U,_,rfl;erw[ifE (λn=>C n) (λn=>?_)];have N:=zQ g c v D;have M:=zQ d e u G;have R:(10:Nat)^18*10^18=10^36:=by decide
 have L:(10:Nat)^36+10^36<=10^40:=by decide
 exists _,U,a,_,_,.int m,U,U,j,U,_,U,b,_,_,.int c,U,U,i,U,_,_,U,U,vK (by lia),_,U,a,_,_,.int d,U,U,j,U,_,U,b,_,_,.int l,U,U,i,U,_,_,U,U,vK (by lia),_,_,U,rfl;exists _,U,a,_,_,.int g,U,U,j,U,_,U,b,_,_,.int l,U,U,i,U,_,_,U,U,vK (by lia),_,U,a,_,_,.int m,U,U,j,U,_,U,b,_,_,.int e,U,U,i,U,_,_,U,U,vK (by lia),_,_,U,rfl;refine⟨_,U,_,U,_,U,sz3,λp x=>⟨p,[m*c-d*l,g*l-m*e,g*c-d*e],g*c-d*e,U,.inr (SqT.of zA),by show 3<=1000; decide,rfl,by simp,n,Ue (by lia),λr J B o I=>?_⟩⟩;rwa[q n r J ((zC x _).trans B) ((zC x _).free o) I]
def nj(K:b9):Sp:=λd H Q _=>E6 λ(a:c5) (A B C x y:Int)=>A5 (d=[.ref a,.int x,.int y]) (Sq K H a [.int A,.int B,.int C]) (A.natAbs<=10^18) (B.natAbs<=10^18) (∀(p:c5)(c:Hp),Same H c->H p=IS->c p=O (.tup [.int A,.int B,.int (C+A*x+B*y)])->Q (.ref p) c)
def gH(F:Fun K "pushed" "pushed" ye f fd)(Z:Zs mg)(j:Cb P w mg base)  : yN P w K mg base CX0 1 f fd ["side","x","y"] (nj K):=by
 specialize gM
 ·obtain⟨a,A,B,C,x,y,rfl,_⟩:=h;rfl
 obtain⟨a,e,B,C,x,y,rfl,c,i,g,q⟩:=h
 refine'⟨_,(zD (zM ?_)),?_⟩
 nofun
 refine⟨_,U,a,_,_,.int e,U,U,c,U,_,U,a,_,_,.int B,U,U,c,U,_,U,a,_,_,.int C,U,U,c,U,_,U,a,_,_,.int e,U,U,c,U,_,U,_,_,U,U,.inl ⟨by lia,by lia⟩,_,_,U,U,
  _,rfl,a,_,_,.int B,rfl,rfl,c,rfl,_,rfl,_,_,rfl,rfl,.inl ⟨by lia,by lia⟩,_,_,rfl,rfl,sz3,λp d=>?_⟩
 rwa[q p _ (zC d _) d zA]
def bu{D0 D1 D2:Int}(n:D0≠0\/D1≠0)(d:D0.natAbs<=10^9)(c:D1.natAbs<=10^9):0<yF [D0,D1,D2]/\(yF [D0,D1,D2]:Int)<=10^9/\(yF [D0,D1,D2]:Int)<10^600:=by
 have a:0<yF [D0,D1,D2]:=by
  rcases n with n | n
  ·rwa[xL (n:=D0) (by simp) n]
  ·rwa[xL (n:=D1) (by simp) n]
 have z:(yF [D0,D1,D2]:Int)<=10^9:=by
  rcases n with n | n
  ·have:=za (ns:=[D0,D1,D2]) (n:=D0) (by simp) n;lia
  ·have:=za (ns:=[D0,D1,D2]) (n:=D1) (by simp) n;lia
 rwa[a,z,B6 z (by ac_nf)]
def rC(K:b9):Sp:=λj H Q _=>E9 λ(m a b:c5) (i M1 h g e d:Int)=>A13 (j=[.ref m,.ref a,.ref b]) (SqT K H m [.int i,.int M1]) (SqT K H a [.int h,.int g]) (SqT K H b [.int e,.int d]) (i.natAbs<=10^6) (M1.natAbs<=10^6) (h.natAbs<=10^6) (g.natAbs<=10^6) (e.natAbs<=10^6) (d.natAbs<=10^6) (h≠0\/g≠0) (e≠0\/d≠0) (∀(l p q:c5)(c:Hp),Same H c->c l=O (.lst [.ref p,.ref q])->c p=O (.tup ((rF [-g,h,h*M1-g*i]).map V.int))->c q=O (.tup ((rF [d,-e,i*d-M1*e]).map V.int))->Q (.ref l) c)
def we(F:Fun K "bearing_sides" "bearing_sides" wK f fd)(Z:Zs mg)(CB:Cb P w mg base)(I:Has P w K mg base "plain_side" 3 ["side"] (tS K))(G:Has P w K mg base "turn" 1 ["one","other"] (vP K)):yN P w K mg base CX0 4 f fd ["place","one","other"] (rC K):=by
 specialize uI
 ·obtain⟨m,a,b,c,M1,i,g,e,d,rfl,_⟩:=h;rfl
 obtain⟨m,a,b,c,M1,i,g,e,d,rfl,D,x,N,m1,m2,m3,m4,m5,m6,nA,nB,q⟩:=h
 refine'⟨_,(zB (zS 3 uI.nd ?_)
   (zB (zS 4 uI.nd ?_)
   (zD (zM ?_)))),?_⟩
 nofun
 obtain⟨X,_,T⟩:=bu (D0:=-g) (D1:=i) (D2:=i*M1-g*c) (by lia) (by lia) (by lia);obtain⟨S,_,R⟩:=bu (D0:=d) (D1:=-e) (D2:=c*d-M1*e) (by lia) (by lia) (by lia);erw[_,rfl,a,_,_,.int g,rfl,rfl,.inr x,rfl,_,rfl,_,rfl,a,_,_,.int i,rfl,rfl,.inr x,rfl,_,rfl,_,rfl,a,m,_,_,i,g,c,M1,rfl,.inr x,.inr D,rfl,rfl,rfl,rfl,by lia,by lia,sz3,λL u=>?_];have o:=zC u (.tup [.int (-g),.int i,.int (i*M1-g*c)]);have j:=SqT.same N o;have v:=SqT.same D o;erw[_,rfl,b,_,_,.int d,rfl,rfl,.inr j,rfl,_,rfl,b,_,_,.int e,rfl,rfl,.inr j,rfl,_,rfl,_,rfl,_,rfl,m,b,_,_,c,M1,e,d,rfl,.inr v,.inr j,rfl,rfl,rfl,rfl,by lia,by lia,sz3,λJ r=>?_];have B:=zC r (.tup [.int d,.int (-e),.int (c*d-M1*e)]);refine⟨_,U,L,[-g,i,i*M1-g*c],U,.inr (SqT.of (B _ _ zA)),by show 3<=1000; decide,X,T,λp H3 z hp e3=>?_⟩;refine⟨_,U,J,[d,-e,c*d-M1*e],U,.inr (SqT.of (z _ _ zA)),by show 3<=1000; decide,S,R,λC H4 y hq Y=>?_⟩;erw[sz2,λl M=>?_];have n:=zC M (.lst [.ref p,.ref C]);rwa[q l p C _ (o.trans (B.trans (z.trans (y.trans n)))) zA (n _ _ (y _ _ e3)) (n _ _ Y)]
def zg(K:b9):Sp:=λi H Q _=>E6 λ(a b:c5) (g e d c:Int)=>A9 (i=[.ref a,.ref b]) (Sq K H a [.int g,.int e]) (Sq K H b [.int d,.int c]) (g.natAbs<=10^6) (e.natAbs<=10^6) (d.natAbs<=10^6) (c.natAbs<=10^6) (e-c≠0\/d-g≠0) (∀(p:c5)(h:Hp),Same H h->H p=IS->h p=O (.tup ((rF [e-c,d-g,d*e-c*g]).map V.int))->Q (.ref p) h)
def nM(F:Fun K "range_side" "range_side" vC f fd)(Z:Zs mg)(J:Cb P w mg base)(o:Has P w K mg base "plain_side" 3 ["side"] (tS K))(m:Has P w K mg base "turn" 1 ["one","other"] (vP K)):yN P w K mg base CX0 4 f fd ["left","right"] (zg K):=by
 specialize nZ
 ·obtain⟨a,b,g,e,d,c,rfl,_⟩:=h;rfl
 obtain⟨a,b,g,e,d,c,rfl,j,i,I,G,D,C,n,q⟩:=h
 refine'⟨_,(zD (zM ?_)),?_⟩
 nofun
 have v:0<yF [e-c,d-g,d*e-c*g]:=by
  rcases n with n | n
  ·rwa[xL (n:=e-c) (by simp) n]
  ·rwa[xL (n:=d-g) (by simp) n]
 have x:(yF [e-c,d-g,d*e-c*g]:Int)<10^600:=by
  have z:(yF [e-c,d-g,d*e-c*g]:Int)<=10^7:=by
   rcases n with n | n
   ·have:=za (ns:=[e-c,d-g,d*e-c*g]) (n:=e-c) (by simp) n;lia
   ·have:=za (ns:=[e-c,d-g,d*e-c*g]) (n:=d-g) (by simp) n;lia
  rwa[B6 z (by ac_nf)]
 refine⟨_,U,a,_,_,.int e,U,U,j,U,_,U,b,_,_,.int c,U,U,i,U,_,_,U,U,_,U,b,_,_,.int d,U,U,i,U,_,U,a,_,_,.int g,U,U,j,U,_,_,U,U,_,U,_,U,b,a,_,_,d,c,g,e,U,i,j,U,U,U,U,by lia,by lia,sz3,λt l =>
  ⟨t,[e-c,d-g,d*e-c*g],rfl,.inr (SqT.of zA),by show 3<=1000; decide,v,x,λp B r u y=>?_⟩⟩
 rwa[q p B ((zC l _).trans r) ((zC l _).free u) y]
def fc(a:List Sd)(p:P3):Bool:=a.all λt=>decide (sv t.2 p<=0)
def qI : fc c p=IT↔inW c p:=by
 unfold fc inW;rw[AG];rwa[λh t a=>of_decide_eq_true (h t a),λh t a=>y8 (h t a)]
def ur(K:b9):Sp:=λc H Q _=>E4 λ(l p:c5) (a:List Sd) (P:P3)=>A5 (c=[.ref l,.ref p]) (SqL K H l (zW a)) (jv H a) (Sq K H p [.int P.1,.int P.2.1,.int P.2.2]) (Q (.bl (fc a P)) H)
def kG(F:Fun K "in_water" "in_water" sZ f fd)(Z:Zs mg)(T:Cb P w mg base)(C:Has P w K mg base "holds" 2 ["side","spot"] (rK K)):yN P w K mg base CX0 3 f fd ["sides","place"] (ur K):=by
 specialize wb
 ·obtain⟨l,p,g,P,rfl,_⟩:=h;rfl
 obtain⟨l,p,g,P,rfl,B,ok,I,q⟩:=h
 refine'⟨_,(zB (xM l9 rfl (xD (pv 0)) (xR 2 wb.nd) (zD (yO ?_ (zD (zM kJ)) zX)))
   (zD (zM kJ))),?_⟩
 nofun
 refine⟨_,U,l,U,.inl ⟨⟨_,B⟩,wH (K:=K) (a:=l) (xs:=zW g) (λi r u=>A3 (H=u) (∀ j t,j<i->g[j]?=O t->sv t.2 P<=0) (∃ x:Option V,r=[O (.ref l),O (.ref p),x]))
  ⟨rfl,λj t o=>x4 o (CG _),IS,rfl⟩ (λi r u _ y=>by obtain⟨e,_⟩:=y; rw[<- e]; rwa[B]) ?_ ?_⟩⟩
 ·rintro i v r u hi ⟨rfl,c,x,rfl⟩;obtain⟨t,gt,rfl,J⟩:=xv hi;obtain⟨L,_,S,R,N⟩:=ok t (e9 gt);exists _,U,_,U,t.1,p,t.2.1,t.2.2.1,t.2.2.2,P.1,P.2.1,P.2.2,U,.inr (SqT.of L),I,by lia,by lia,by lia,_,rfl;erw[ifN (λm=>?_) (λn=>?_)]
  ·have e:fc g P=false:=by
    unfold fc;rw[Ey];intro z;rwa[m (of_decide_eq_true (AG.mp z t (e9 gt)))]
   rw[e] at q;rwa[q]
  ·erw[rfl,λj D o d=>?_,_,rfl];by_cases e:j=i
   ·rw[e,gt] at d;cases d;rwa[n]
   ·rwa[c j D (by lia) d]
 ·rintro r u ⟨rfl,c,x,rfl⟩;have e:fc g P=true:=qI.mpr λt G=>by
   obtain⟨j,o,M⟩:=BN G;rwa[c j t (by rw[zY]; exact o) (by rw[c9 o,M])]
  rw[e] at q;rwa[q]
def oF(K:b9):Sp:=λd H Q _=>E2 λ(a:c5) (t:P3)=>A6 (d=[.ref a]) (Sq K H a [.int t.1,.int t.2.1,.int t.2.2]) (t.1≠0\/t.2.1≠0) (t.1.natAbs<=10^9) (t.2.1.natAbs<=10^9) (∀(p:c5)(c:Hp),Same H c->H p=IS->c p=O (.tup ((ftL t).map V.int))->Q (.ref p) c)
def bH(F:Fun K "foot" "foot" pC f fd)(Z:Zs mg)(v:Cb P w mg base)(g:Has P w K mg base "spot" 4 ["x","y","w"] (nO K))(i:Has P w K mg base "along" 1 ["one","other"] (lN K)):yN P w K mg base CX0 5 f fd ["side"] (oF K):=by
 specialize bI
 ·obtain⟨a,t,rfl,_⟩:=h;rfl
 obtain⟨a,t,rfl,c,m,e,d,q⟩:=h
 refine'⟨_,(zD (zM ?_)),?_⟩
 nofun
 have pos:=oq m;have u:=zQ t.1 t.1 e e;have r:=zQ t.2.1 t.2.1 d d;refine⟨_,U,a,_,_,.int t.1,U,U,c,U,_,U,a,_,_,.int t.2.2,U,U,c,U,_,_,U,U,vK (by lia),
  _,rfl,a,_,_,.int t.2.1,rfl,rfl,c,rfl,_,rfl,a,_,_,.int t.2.2,rfl,rfl,c,rfl,_,_,rfl,rfl,vK (by lia),
  _,rfl,_,rfl,a,a,_,_,t.1,t.2.1,t.1,t.2.1,rfl,c,c,rfl,rfl,rfl,rfl,by lia,by lia,
  t.1*t.2.2,t.2.1*t.2.2,t.1*t.1+t.2.1*t.2.1,rfl,by lia,BY (show(t.1*t.1+t.2.1*t.2.1).natAbs<=10^40 by lia) (by ac_nf),λp o j l n=>q p o j l n⟩
def jq:Option Nat->V
 | none=>.non
 | some j=>.int j
def yi{a:List Sd}{i:Nat}{t u:Sd}(gt:a[i]?=O t)(c:u∈a.take (i+1)):u∈a.take i\/u=t:=by
 rw[xN gt] at c;rcases i7.mp c with h | h
 ·rwa[.inl h]
 ·rwa[.inr (e8.mp h)]
def fQ{a:List Sd}{i j:Nat}(h:(a.take i)[j]?=O t):(a.take (i+1))[j]?=O t:=by
 rw[Bj] at h ⊢;split at h
 ·rw[y7 (by lia)];rwa[h]
 ·cases h
def jE(a:List Sd)(e:P3)(h:Int)(H:Hp)(x y:V):Prop:=(x=.non/\y=.non/\pi a e h IS)\/∃(j:Nat)(t:Sd)(p:c5),x=.int j/\y=.ref p/\H p=O (.tup ((crL e t.2).map V.int))/\a[j]?=O t/\0<tn e t.2*h/\∀ u∈a,0<tn e u.2*h->sv u.2 (pt3 (crL e t.2))<=0
def jE.skip{c:List Sd}{h:Int}{H:Hp}{i:Nat}(S:jE (c.take i) e h H x y)(gt:c[i]?=O t)(n:¬ 0<tn e t.2*h):jE (c.take (i+1)) e h H x y:=by
 rcases S with ⟨g,d,S⟩ | ⟨j,u,p,g,d,r,q,m,o⟩
 ·erw[.inl ⟨g,d,λv a=>?_⟩];rcases yi gt a with a | rfl
  ·rwa[S v a]
  ·lia
 ·erw[.inr ⟨j,u,p,g,d,r,fQ q,m,λv a l=>?_⟩];rcases yi gt a with a | rfl
  ·rwa[o v a l]
  ·rwa[x4 l n]
def jE.keep{h:Int}{H c:Hp}(S:jE a e h H x y)(s:Same H c):jE a e h c x y:=by
 rcases S with S | ⟨j,u,p,i,g,d,r⟩
 ·rwa[.inl S]
 ·rwa[.inr ⟨j,u,p,i,g,s _ _ d,r⟩]
def rZ(K:b9):Sp:=λg H Q _=>E5 λ(l a:c5) (c:List Sd) (e:P3) (h:Int)=>A11 (g=[.ref l,.ref a,.int h]) (SqL K H l (zW c)) (jv H c) (c.length<=1000) (Sq K H a [.int e.1,.int e.2.1,.int e.2.2]) (e.1≠0\/e.2.1≠0) (e.1.natAbs<=10^9) (e.2.1.natAbs<=10^9) (e.2.2.natAbs<=10^13) (h=1\/h = -1) (∀(r:Option Nat)(d:Hp),Same H d->pi c e h r->Q (jq r) d)
def ke(F:Fun K "edge_end" "edge_end" sN f fd)(Z:Zs mg)(CB:Cb P w mg base)(yCs:Has P w K mg base "turn" 1 ["one","other"] (vP K))(yCf:Has P w K mg base "holds" 2 ["side","spot"] (rK K))(yBn:Has P w K mg base "crossing" 4 ["one","other"] (qF K)):yN P w K mg base CX0 5 f fd ["sides","edge","hand"] (rZ K):=by
 specialize xK
 ·obtain⟨l,a,m,e,h,rfl,_⟩:=h;rfl
 obtain⟨l,a,m,e,hd,rfl,hl,ok,hlen,ha,hn,b1,b2,b3,h1,q⟩:=h;have hh:hd*hd=1:=by rcases h1 with rfl | rfl <;> rfl
 have hN:=oq hn
 refine'⟨_,(zB (zS 3 xK.nd xq)
   (zB (zS 4 xK.nd xq)
   (zB (xM l9 rfl (xC rfl Z.range ?_) (xR 5 xK.nd) (zB (zS 6 xK.nd ?_)
   (zD (yO ?_ (zB (zS 3 xK.nd (pv 5))
   (zD (zS 4 xK.nd ?_))) zX))))
   (zD (zM (pv 3)))))),?_⟩
 nofun
 refine⟨_,U,l,_,U,.inl hl,_,U,(by rw[zY]; lia),(by rw[zY]; lia),wM (lo:=0) (n:=(((zW m).length:Nat):Int).toNat) (λi σ g=>Same H g/\E4 λ(x y:V) (u5 u6:Option V)=>jE (m.take i) e hd g x y/\σ=[O (.ref l),O (.ref a),O (.int hd),O x,O y,u5,u6])
  ⟨Same.refl _,.non,.non,IS,IS,.inl ⟨rfl,rfl,λt ht=>nomatch ht⟩,rfl⟩ ?_ ?_⟩
 ·rintro i σ g hi ⟨d,x,y,u5,u6,S,rfl⟩;have hil:i<m.length:=by rw[i4,zY] at hi; rwa[hi]
  obtain⟨t,mt,gt,at'⟩:=vO (ss:=m) (i:=i) (k:=0+(i:Int)) (by lia) hil;obtain⟨et0,nt,c1,c2,c3⟩:=ok t mt;have et:Sq K g t.1 [.int t.2.1,.int t.2.2.1,.int t.2.2.2]:=.inr (SqT.of (d _ _ et0));have G:=ha.same d;have z1:=zQ e.1 t.2.2.1 b1 c2;have z2:=zQ e.2.1 t.2.1 b2 c1;exists _,U,_,U,l,_,_,_,U,U,.inl (d.seq hl),at';exists _,U,_,U,a,t.1,_,_,e.1,e.2.1,t.2.1,t.2.2.1,U,G,et,U,U,U,U,by lia,by lia,_,U,_,_,U,U,.inl ⟨by lia,by lia⟩,_,_,U,U,_,rfl;erw[ifD (λR=>?_) (λX=>?_)]
  ·have c:0<tn e t.2*hd:=R;have put:∀(r:Hp)(p:c5),Same g r->r p=O (.tup ((crL e t.2).map V.int))->(∀ u∈m.take i,0<tn e u.2*hd->sv u.2 (pt3 (crL e t.2))<=0)->jE (m.take (i+1)) e hd r (.int (0+(i:Int))) (.ref p):=λr p J Y L=>by
    erw[.inr ⟨i,t,p,by rw[Ay],rfl,Y,?_,c,λu o C=>?_⟩]
    ·rw[Bj,y7 (by lia)];rwa[gt]
    ·rcases yi gt o with o | rfl
     ·rwa[L u o C]
     ·rwa[Int.le_of_eq (ul (uX c)).2.2]
   rcases S with ⟨rfl,rfl,S⟩ | ⟨j,u,p,rfl,rfl,Y,gu,o,L⟩
   ·exists _,U,U,_,rfl;erw[qr ?_];erw[_,rfl,_,rfl,_,rfl,a,t.1,e.1,e.2.1,e.2.2,t.2.1,t.2.2.1,t.2.2.2,rfl,G,et,by lia,by lia,by lia,by lia,by lia,λz=>x4 z (uX c),λ_ p2 r J hp2 I=>?_];exact⟨d.trans J,_,_,_,_,put r p2 J I λv B C=>by have:=S v B; lia,rfl⟩
   ·obtain⟨N,q1,q2⟩:=ul (uX o);exists _,U,U,_,rfl;erw[wX ?_];have ep3:Sq K g p [.int (pt3 (crL e u.2)).1,.int (pt3 (crL e u.2)).2.1,.int (pt3 (crL e u.2)).2.2]:=.inr (SqT.of (by rw[Y]; rw[N.list]; rfl));exists _,U,_,U,t.1,p,t.2.1,t.2.2.1,t.2.2.2,_,_,_,U,et,ep3,by lia,by lia,by lia,_,rfl;erw[ifN (λT=>?_) (λhin=>?_)]
    ·have D:0<sv t.2 (pt3 (crL e u.2)):=by
      have:¬ sv t.2 (pt3 (crL e u.2))<=0:=T;lia
     erw[_,rfl,_,rfl,_,rfl,a,t.1,e.1,e.2.1,e.2.2,t.2.1,t.2.2.1,t.2.2.2,rfl,G,et,by lia,by lia,by lia,by lia,by lia,λz=>x4 z (uX c),λ_ p2 r J hp2 I=>?_];obtain⟨M,r1,r2⟩:=ul (uX c);have d1:=dl_le hh hN r1 q1 M.pos r2 D c;erw[d.trans J,_,_,_,_,put r p2 J I λv B C=>?_,rfl];erw[bh hh hN r1 q1 M.pos N.pos v.2 ?_ (L v B C)];have:=o7 (show 0<=-(dl e (pt3 (crL e t.2)) (pt3 (crL e u.2))*hd) by lia) (Ah C);rw[AI] at this;lia
    ·erw[d,_,_,_,_,.inr ⟨j,u,p,rfl,rfl,Y,fQ gu,o,λv B C=>?_⟩,rfl];rcases yi gt B with B | rfl
     ·rwa[L v B C]
     ·rwa[hin]
  ·erw[wX ?_];rwa[d,x,y,_,_,S.skip gt X,rfl]
 ·rintro σ g ⟨d,x,y,u5,u6,S,rfl⟩;rw[i4,zY,j5] at S;rcases S with ⟨rfl,rfl,S⟩ | ⟨j,u,p,rfl,rfl,Y,gu,o,L⟩
  ·rwa[_,rfl,q IS g d S]
  ·rwa[_,rfl,q (O j) g d ⟨u,gu,o,L⟩]
structure UG(ss:List Sd)(e:P3)(qs:List (c5×P3)):Prop where
 each:∀ q∈qs,∃(h:Int)(j:Nat)(t:Sd),h*h=1/\ss[j]?=O t/\0<tn e t.2*h/\(∀ u∈ss,0<tn e u.2*h->sv u.2 (pt3 (crL e t.2))<=0)/\q.2=pt3 (crL e t.2)
 noend:qs=[]->pi ss e 1 IS/\pi ss e (-1) IS
 full:iB ss e 1 (qs.map (·.2))/\iB ss e (-1) (qs.map (·.2))
def xb(K:b9):Sp:=λh H Q _=>E4 λ(l a:c5) (c:List Sd) (e:P3)=>A10 (h=[.ref l,.ref a]) (SqL K H l (zW c)) (jv H c) (c.length<=1000) (Sq K H a [.int e.1,.int e.2.1,.int e.2.2]) (e.1≠0\/e.2.1≠0) (e.1.natAbs<=10^9) (e.2.1.natAbs<=10^9) (e.2.2.natAbs<=10^13) (∀(D:c5)(d:List (c5×P3))(g:Hp),Same H g->H D=IS->g D=O (.lst (xA d))->mK g d->d.length<=2->UG c e d->Q (.ref D) g)
def mB(F:Fun K "edge_ends" "edge_ends" tD f fd)(Z:Zs mg)(CB:Cb P w mg base)(yBn:Has P w K mg base "crossing" 4 ["one","other"] (qF K))(yBm:Has P w K mg base "edge_end" 5 ["sides","edge","hand"] (rZ K)):yN P w K mg base CX0 6 f fd ["sides","edge"] (xb K):=by
 specialize xi
 ·obtain⟨l,a,d,e,rfl,_⟩:=h;rfl
 obtain⟨l,a,d,e,rfl,hl,ok,y,ha,hn,b1,b2,b3,q⟩:=h
 refine'⟨_,(zB (zS 2 xi.nd ?_)
   (zD (zM (yU (T:=["number"]) (caps:=[("edge",1),("sides",0)]) ⟨rfl,by ac_nf,by ac_nf,rfl,⟨⟨rfl,rfl,BB rfl⟩,⟨rfl,rfl,BB rfl⟩,o0⟩⟩ rfl (xD (pv 2)) (λ_=>(xR 0 (show(["number","edge","sides"]:List g8).Nodup by ac_nf))) (λ_=>(Ys ?_)) (λ_=>?_))))),?_⟩
 nofun
 refine⟨_,U,_,U,_,U,l,a,d,e,-1,U,hl,ok,y,ha,hn,b1,b2,b3,.inr rfl,λG H1 s1 k1=>?_⟩;refine⟨_,U,_,U,l,a,d,e,1,U,s1.seq hl,ok.same s1,y,ha.same s1,hn,b1,b2,b3,.inl rfl,λC H2 s2 k2=>?_⟩;refine⟨sz2,λM hnl=>?_⟩;have S:Same H2 (upd H2 M (.lst [jq G,jq C])):=zC hnl _;have J:upd H2 M (.lst [jq G,jq C]) M=O (.lst [jq G,jq C]):=zA;generalize upd H2 M (.lst [jq G,jq C])=H3 at S J ⊢;have s3:=(s1.trans s2).trans S;have one:∀(i:Nat)(v:V),[jq G,jq C][i]?=O v->(v=.non/\((i=0/\pi d e (-1) IS)\/(i=1/\pi d e 1 IS)))\/∃(j:Nat)(t:Sd)(h:Int),v=.int j/\((i=0/\h = -1)\/(i=1/\h=1))/\h*h=1/\d[j]?=O t/\0<tn e t.2*h/\∀ u∈d,0<tn e u.2*h->sv u.2 (pt3 (crL e t.2))<=0:=λi v hv=>by
  match i,hv with
  | 0,hv =>
   cases hv;cases G with
   | none=>rwa[.inl ⟨rfl,.inl ⟨rfl,k1⟩⟩]
   | some j=>obtain⟨t,g,p,r⟩:=k1; rwa[.inr ⟨j,t,-1,rfl,.inl ⟨rfl,rfl⟩,rfl,g,p,r⟩]
  | 1,hv =>
   cases hv;cases C with
   | none=>rwa[.inl ⟨rfl,.inr ⟨rfl,k2⟩⟩]
   | some j=>obtain⟨t,g,p,r⟩:=k2; rwa[.inr ⟨j,t,1,rfl,.inr ⟨rfl,rfl⟩,rfl,g,p,r⟩]
 refine⟨_,U,M,U,.inl ⟨⟨_,SqL.of J⟩,λc D hD=>je (K:=K) (a:=M) (xs:=[jq G,jq C]) (λi σ R L=>A4 (Same H3 L) (L D=O (.lst R)) (∃ n:List (c5×P3),A5 (R=xA n) (n.length<=i) (mK L n) (∀ q∈n,∃(h:Int)(j:Nat)(t:Sd),h*h=1/\d[j]?=O t/\0<tn e t.2*h/\(∀ u∈d,0<tn e u.2*h->sv u.2 (pt3 (crL e t.2))<=0)/\q.2=pt3 (crL e t.2)) ((0<i->iB d e (-1) (n.map (·.2)))/\(1<i->iB d e 1 (n.map (·.2))))) (∃ u0:Option V,σ=[u0,O (.ref a),O (.ref l)]))
  ⟨zC hD _,zA,⟨[],rfl,f6 _,(λt ht=>nomatch ht),(λt ht=>nomatch ht),⟨λz=>x4 z (CG _),λz=>x4 z (CG _)⟩⟩,IS,rfl⟩ (λi σ R L _ hq'=>by obtain⟨e1,e2,_⟩:=hq'; rwa[SqL.of (e1 _ _ J),e2]) ?_ ?_⟩⟩
 ·rintro i v σ R L hi ⟨X,N,⟨n,rfl,hq,x,each,non⟩,u0,rfl⟩;have hi2:i<2:=(c7.mp hi).1;rcases one i v hi with ⟨rfl,I⟩ | ⟨j,t,h,rfl,hih,hh,gt,hp,hb⟩
  ·exists _,U,U,_,rfl;erw[wX ?_];erw[X,N,⟨n,rfl,by lia,x,each,?_⟩,_,rfl];rcases I with ⟨rfl,k⟩ | ⟨rfl,k⟩
   ·rwa[λ_=>.inl k,λz'=>x4 z' (by decide)]
   ·rwa[λ_=>non.1 (by decide),λ_=>.inl k]
  ·exists _,U,U,_,rfl;refine qr ?_;have hj:j<d.length:=(c7.mp gt).1;obtain⟨t',mt,gt',at'⟩:=vO (ss:=d) (i:=j) (k:=(j:Int)) rfl hj;rw[gt] at gt';cases gt';obtain⟨et0,_,c1,c2,c3⟩:=ok t mt;have B:=s3.trans X;refine⟨_,U,_,U,_,U,l,_,_,_,U,U,.inl (B.seq hl),at',a,t.1,e.1,e.2.1,e.2.2,t.2.1,t.2.2.1,t.2.2.2,U,ha.same B,.inr (SqT.of (B _ _ et0)),by lia,by lia,by lia,by lia,by lia,λz=>x4 z (uX hp),λ_ p H5 Y hp5 ep5=>?_⟩;obtain⟨sp,_,_⟩:=ul (uX hp);have ep5':H5 p=O (.tup [.int (pt3 (crL e t.2)).1,.int (pt3 (crL e t.2)).2.1,.int (pt3 (crL e t.2)).2.2]):=by
    have z:H5 p=O (.tup ((crL e t.2).map V.int)):=ep5;rw[z,sp.list];rfl
   have npD:p≠D:=λz=>by rw[z,N] at hp5; cases hp5
   refine⟨Y _ _ N,zK (by simp only[ac]; lia),(X.trans Y).putNew hD,zA,⟨n++[(p,pt3 (crL e t.2))],by simp[xA],by rw[f7]; show n.length+1<=i+1; lia,λu o=>?_,λu o=>?_,?_⟩,_,rfl⟩
   ·rcases i7.mp o with o | o
    ·obtain⟨g1,g2⟩:=x u o;rwa[by rw[zF (aQ (Y _ _ g1) (Y _ _ N) (by intro z; cases z))]; exact Y _ _ g1,g2]
    ·rw[e8] at o;subst o;erw[?_,sp.pos,sp.low];show upd H5 D _ p=_;rw[zF npD];rwa[ep5']
   ·rcases i7.mp o with o | o
    ·rwa[each u o]
    ·rw[e8] at o;subst o;rwa[h,j,t,hh,gt,hp,hb,rfl]
   ·have me:iB d e h ((n++[(p,pt3 (crL e t.2))]).map (·.2)):=.inr ⟨j,t,gt,hp,hb,by rw[e7]; rwa[z9 _ (e8.mpr rfl)]⟩;rcases hih with ⟨rfl,rfl⟩ | ⟨rfl,rfl⟩
    ·rwa[λ_=>me,λz'=>x4 z' (by decide)]
    ·rwa[λ_=>by rw[e7]; exact(non.1 (by decide)).app,λ_=>me]
 ·rintro σ R L ⟨X,N,⟨n,rfl,hq,x,each,non⟩,u0,rfl⟩;have f1:=non.2 (by show 1<2; decide);have f2:=non.1 (by show 0<2; decide);erw[q D n L (s3.trans X) (s3.free hD) N x hq ⟨each,λz=>?_,f1,f2⟩];rw[z] at f1 f2;erw[?_,?_]
  ·rcases f1 with f | ⟨_,_,_,_,_,m⟩
   ·rwa[f]
   ·exact nomatch m
  ·rcases f2 with f | ⟨_,_,_,_,_,m⟩
   ·rwa[f]
   ·exact nomatch m
def Xg(H:Hp)(p:c5)(P:P3):Prop:=H p=O (.tup [.int P.1,.int P.2.1,.int P.2.2])/\0<P.2.2/\w9 (w9 P.1.natAbs P.2.1.natAbs) P.2.2.natAbs=1
def Xg.same{H a:Hp}{P:P3}(h:Xg H p P)(s:Same H a):Xg a p P:=⟨s _ _ h.1,h.2⟩
def rS(K:b9):Sp:=λg H Q _=>E4 λ(l a:c5) (c:List Sd) (e:P3)=>A11 (g=[.ref l,.ref a]) (SqL K H l (zW c)) (jv H c) (c.length<=900) (Sq K H a [.int e.1,.int e.2.1,.int e.2.2]) (e.1≠0\/e.2.1≠0) (e.1.natAbs<=10^9) (e.2.1.natAbs<=10^9) (e.2.2.natAbs<=10^13) (∀ d,Same H d->(∀ z:P3,sv e z=0->0<z.2.2->¬ inW c z)->Q .non d) (∀(p:c5)(P:P3)(d:Hp),Same H d->Xg d p P->inW c P->sv e P=0->(P=pt3 (ftL e)\/∃ t∈c,tn e t.2≠0/\P=pt3 (crL e t.2))->Q (.ref p) d)
def sj(F:Fun K "spot_on_edge" "spot_on_edge" wT f fd)(Z:Zs mg)(CB:Cb P w mg base)(yBg:Has P w K mg base "edge_ends" 6 ["sides","edge"] (xb K))(yCr:Has P w K mg base "foot" 5 ["side"] (oF K))(yBl:Has P w K mg base "in_water" 3 ["sides","place"] (ur K)):yN P w K mg base CX0 7 f fd ["sides","edge"] (rS K):=by
 specialize rN
 ·obtain⟨l,a,o,e,rfl,_⟩:=h;rfl
 obtain⟨l,a,o,e,rfl,hl,ok,hlen,ha,X,b1,b2,b3,qn,q⟩:=h;have hN:=oq X
 refine'⟨_,(zB (xM l9 rfl (xD (tR nE ?_ ?_)) (xR 2 rN.nd) (zD (yO ?_ (zD (zM (pv 2))) zX)))
   (zD (zM xq))),?_⟩
 nofun
 refine⟨_,U,_,U,l,a,o,e,U,hl,ok,by lia,ha,X,b1,b2,b3,λD d H1 s1 hD eD okq hq m=>?_⟩;refine⟨_,U,a,e,U,ha.same s1,X,b1,b2,λfp M s2 hfp efp=>?_⟩;obtain⟨R,f1⟩:=Xz X;have I:M fp=O (.tup [.int (pt3 (ftL e)).1,.int (pt3 (ftL e)).2.1,.int (pt3 (ftL e)).2.2]):=by
  rw[efp,R.list];rfl
 erw[sz1,λG hfl=>?_];have p:Same M (upd M G (.lst [.ref fp])):=zC hfl _;have J:upd M G (.lst [.ref fp]) G=O (.lst [.ref fp]):=zA;generalize upd M G (.lst [.ref fp])=Y at p J ⊢;refine⟨D,G,_,_,U,U,p _ _ (s2 _ _ eD),J,zb (by simp only[ac]; show d.length+1<=1000; lia),λL hL=>?_⟩;have sL:Same Y (upd Y L (.lst (xA d++[.ref fp]))):=zC hL _;have eL:upd Y L (.lst (xA d++[.ref fp])) L=O (.lst (xA (d++[(fp,pt3 (ftL e))]))):=by rw[zA]; simp[xA]
 generalize upd Y L (.lst (xA d++[.ref fp]))=H4 at sL eL ⊢;have r:=p.trans sL;have x:=s2.trans r;have n:=s1.trans x;have okA:mK H4 (d++[(fp,pt3 (ftL e))]):=λu c=>by
  rcases i7.mp c with c | c
  ·rwa[okq.same x u c]
  ·rw[e8] at c;subst c;rwa[r _ _ I,R.pos,R.low]
 refine⟨L,U,.inl ⟨⟨_,SqL.of eL⟩,wH (K:=K) (a:=L) (xs:=xA (d++[(fp,pt3 (ftL e))])) (λi N H'=>A3 (H4=H') (∀ j u,j<i->(d++[(fp,pt3 (ftL e))])[j]?=O u->¬ inW o u.2) (∃ u2:Option V,N=[O (.ref l),O (.ref a),u2]))
  ⟨rfl,λj t B=>x4 B (CG _),IS,rfl⟩ (λi N H' _ hq'=>by obtain⟨e1,_⟩:=hq'; rw[<- e1]; rwa[SqL.of eL]) ?_ ?_⟩⟩
 ·rintro i v N H' hi ⟨rfl,g,u2,rfl⟩;rw[d7,d7] at hi;cases C:(d++[(fp,pt3 (ftL e))])[i]? with
  | none=>rw[C] at hi; cases hi
  | some u =>
   rw[C] at hi;cases hi;obtain⟨eu,pu,lu⟩:=okA u (e9 C);exists _,U,_,U,l,u.1,o,u.2,U,n.seq hl,ok.same n,.inr (SqT.of eu),_,rfl;by_cases S:fc o u.2=IT
   ·rw[S];refine qr ?_;have on:sv e u.2=0/\(u.2=pt3 (ftL e)\/∃ t∈o,tn e t.2≠0/\u.2=pt3 (crL e t.2)):=by
     rcases i7.mp (e9 C) with c | c
     ·obtain⟨h,j,t,_,gt,T,_,eq⟩:=m.each u c;rw[eq];rwa[(ul (uX T)).2.1,.inr ⟨t,e9 gt,uX T,rfl⟩]
     ·rw[e8] at c;rw[c];rwa[f1,.inl rfl]
    rwa[_,rfl,q u.1 u.2 _ n ⟨eu,pu,lu⟩ (qI.mp S) on.1 on.2]
   ·have hw':fc o u.2=false:=by simpa using S
    rw[hw'];erw[wX ?_];erw[rfl,λj t B ht=>?_,_,rfl];by_cases ej:j=i
    ·rw[ej,C] at ht;cases ht;rwa[λz=>S (qI.mpr z)]
    ·rwa[g j t (by lia) ht]
 ·rintro N H' ⟨rfl,g,u2,rfl⟩;refine qn _ n λz hz zw wz=>?_;have y:∀ u∈d++[(fp,pt3 (ftL e))],¬ inW o u.2:=λu c=>by
   obtain⟨j,B,ej⟩:=BN c;rwa[g j u (by simp only[ac]; exact B) (by rw[c9 B,ej])]
  cases d with
  | nil =>
   obtain⟨n1,n2⟩:=m.noend rfl;rwa[y (fp,pt3 (ftL e)) (by simp) (cX hN hz zw wz f1 R.pos n1 n2)]
  | cons u us =>
   obtain⟨h,j,t,hh,gt,T,hb,eq⟩:=m.each u (Ab ..);erw[y u (by simp) ?_];rw[eq];rwa[Td hh hN hz zw wz gt T hb]
def gO(a:List Sd)(n:Nat):vi (zW a) IS (O (n:Int))=zW (a.take n):=by
 unfold vi;rw[show HT.sIx (zW a).length 0 IS=0 from rfl,HT.sIx_nat (zW a).length (zW a).length n,Hr,Iv];rw[zY];simp only[zW,<- Dg]
 congr 2
 rw[List.take_eq_take_iff];lia
def oK(K:b9):Sp:=λd H Q _=>E2 λ(l:c5) (c:List Sd)=>A6 (d=[.ref l]) (SqL K H l (zW c)) (jv H c) (c.length<=900) (∀(t:c5)(j:Nat)(e:Sd)(P:P3)(a:Hp),Same H a->a t=O (.tup [.non,.int j])->Tr c j e P->Q (.ref t) a) (∀(t p:c5)(P:P3)(a:Hp),Same H a->a t=O (.tup [.ref p,.non])->Xg a p P->inW c P->VR c P->Q (.ref t) a)
def fe(F:Fun K "sought" "sought" yh f fd)(Z:Zs mg)(CB:Cb P w mg base)(yCf:Has P w K mg base "holds" 2 ["side","spot"] (rK K))(yAg:Has P w K mg base "spot_on_edge" 7 ["sides","edge"] (rS K))(yCp:Has P w K mg base "spot" 4 ["x","y","w"] (nO K)):yN P w K mg base CX0 8 f fd ["sides"] (oK K):=by
 specialize qK
 ·obtain⟨l,d,rfl,_⟩:=h;rfl
 obtain⟨l,d,rfl,z,ok,hlen,qn,q⟩:=h
 refine'⟨_,(zB (zS 1 qK.nd ?_)
   (zB (xM l9 rfl (xC rfl Z.range ?_) (xR 2 qK.nd) (zD (yO ?_ (zB (zS 1 qK.nd ?_)
   (zD (yO ?_ (zD (zM ?_)) zX))) zX)))
   (zD (zM ?_)))),?_⟩
 nofun
 refine⟨0,0,1,U,by decide,by ac_nf,λp0 H1 s1 hp0 X=>?_⟩;have x:Xg H1 p0 (0,0,1):=⟨X,by decide,by decide⟩;refine⟨_,U,l,_,U,.inl (s1.seq z),_,U,(by rw[zY]; lia),(by rw[zY]; lia),wM (lo:=0) (n:=(((zW d).length:Nat):Int).toNat) (λi B o=>Same H o/\E3 λ(p:c5) (P:P3) (D:Option V)=>A4 (Xg o p P) (inW (d.take i) P) (VR d P) (B=[O (.ref l),O (.ref p),D]))
  ⟨s1,p0,(0,0,1),IS,x,(λt M=>nomatch M),.inl rfl,rfl⟩ ?_ ?_⟩
 ·rintro i B o hi ⟨g,p,P,D,y,r,cp,rfl⟩;have R:i<d.length:=by rw[i4,zY] at hi; rwa[hi]
  obtain⟨t,mt,gt,at'⟩:=vO (ss:=d) (i:=i) (k:=0+(i:Int)) (by lia) R;obtain⟨S,nt,c1,c2,c3⟩:=ok t mt;have et:Sq K o t.1 [.int t.2.1,.int t.2.2.1,.int t.2.2.2]:=.inr (SqT.of (g _ _ S));exists _,U,_,U,l,_,_,_,U,U,.inl (g.seq z),at',_,U,t.1,p,t.2.1,t.2.2.1,t.2.2.2,P.1,P.2.1,P.2.2,U,et,.inr (SqT.of y.1),by lia,by lia,by lia,_,rfl;erw[ifN (λv=>?_) (λN=>?_)]
  ·have m:0<sv t.2 P:=by
    have:¬ sv t.2 P<=0:=v;lia
   erw[_,rfl,_,rfl,_,rfl,l,_,rfl,g.seq z,λc hc=>?_];rw[show(0:Int)+(i:Int)=((i:Nat):Int) from Ay _,gO];have I:=zC hc (.lst (zW (d.take i)));have ec:upd o c (.lst (zW (d.take i))) c=O (.lst (zW (d.take i))):=zA;generalize upd o c (.lst (zW (d.take i)))=H2 at I ec ⊢;have e:=g.trans I;rw[show(0:Int)+(i:Int)=((i:Nat):Int) from Ay _] at at';erw[_,rfl,_,rfl,l,_,_,_,rfl,rfl,.inl (e.seq z),at',c,t.1,d.take i,t.2,rfl,SqL.of ec,(λu a=>ok.same e u (AT a)),by rw[j3]; lia,et.same I,nt,c1,c2,c3,λH3 J no=>?_,λp3 P3' H3 J T C L Y=>?_]
   ·exists _,U,U,_,rfl;erw[qr ?_];erw[_,rfl,sz2,λG j=>?_];rwa[qn G i t P _ ((e.trans J).trans (zC j _)) zA ⟨gt,y.2.1,r,m,no⟩]
   ·exists _,U,U,_,rfl;erw[wX ?_];erw[e.trans J,p3,P3',_,T,λu a=>?_,?_,rfl]
    ·rw[xN gt] at a;rcases i7.mp a with a | a
     ·rwa[C u a]
     ·rw[e8] at a;rw[a,L];rwa[FO _]
    ·rcases Y with h | ⟨u,a,M,h⟩
     ·rwa[.inr (.inl ⟨t,mt,h⟩)]
     ·rwa[.inr (.inr ⟨t,mt,u,AT a,M,h⟩)]
  ·erw[g,p,P,_,y,λu a=>?_,cp,rfl];rw[xN gt] at a;rcases i7.mp a with a | a
   ·rwa[r u a]
   ·rw[e8] at a;rw[a];rwa[N]
 ·rintro B o ⟨g,p,P,D,y,r,cp,rfl⟩;rw[i4,zY,j5] at r;erw[_,rfl,sz2,λG j=>?_];have st:=zC j (.tup [.ref p,.non]);rwa[q G p P _ (g.trans st) zA (y.same st) r cp]
def jO(K:b9):Sp:=λd H Q _=>E4 λ(a:c5) (c:List V) (x y:Int)=>A5 (d=[.ref a]) (Sq K H a c) (atI c 0=O (.int x)) (atI c 1=O (.int y)) (Q (.int (uW x y)) H)
def bM(F:Fun K "span" "span" pA f fd)(Z:Zs mg)(e:Cb P w mg base)  : yN P w K mg base CX0 1 f fd ["direction"] (jO K):=by
 specialize cS
 ·obtain⟨a,d,x,y,rfl,_⟩:=h;rfl
 obtain⟨a,d,x,y,rfl,c,h0,h1,q⟩:=h
 refine'⟨_,(zD (zM ?_)),?_⟩
 nofun
 rwa[_,rfl,a,_,_,.int x,rfl,rfl,c,h0,_,rfl,_,rfl,a,_,_,.int y,rfl,rfl,c,h1,_,rfl,_,_,rfl,rfl,q]
def zu(K:b9):Sp:=λg H Q _=>E4 λ(a b:c5) (ns c:List Int)=>A8 (g=[.ref a,.ref b]) (SqL K H a (ns.map V.int)) (SqL K H b (c.map V.int)) (ns.length=c.length) (c.length<=900) (0<yF c) ((yF c:Int)<10^600) (∀(D:c5)(e:List Pr)(d:Hp),Same H d->H D=IS->d D=O (.lst (sS e))->XW d e->e.map (·.2)=ns.zip (rF c)->Q (.ref D) d)
def iP(F:Fun K "weighed" "weighed" qC f fd)(Z:Zs mg)(CB:Cb P w mg base)(X:Has P w K mg base "lowest" 2 ["numbers"] (uT K)):yN P w K mg base CX0 3 f fd ["numbers","weights"] (zu K):=by
 specialize re
 ·obtain⟨a,b,ns,j,rfl,_⟩:=h;rfl
 obtain⟨a,b,ns,j,rfl,ha,hb,hn,hl,Y,N,q⟩:=h
 refine'⟨_,(zB (zS 2 re.nd ?_)
   (zD (zM (yU (T:=["at"]) (caps:=[("least",2),("numbers",0)]) ⟨rfl,by ac_nf,by ac_nf,rfl,⟨⟨rfl,rfl,BB rfl⟩,⟨rfl,rfl,BB rfl⟩,o0⟩⟩ rfl (xC rfl Z.range ?_) (λ_=>(xR 0 (show(["at","least","numbers"]:List g8).Nodup by ac_nf))) (λ_=>yJ) (λ_=>?_))))),?_⟩
 nofun
 erw[_,rfl,b,j,rfl,.inl hb,by lia,Y,N,λp H1 J hp ep=>?_];have S:(rF j).length=j.length:=by unfold rF; rw[ac]
 have y:=J.seq ha;refine⟨_,U,a,_,U,.inl y,_,U,(by rw[ac]; lia),(by rw[ac]; lia),λcc D R=>wn (lo:=0) (n:=(((ns.map V.int).length:Nat):Int).toNat) (λi C l G=>A4 (Same H1 G) (G D=O (.lst l)) (∃ d:List Pr,A3 (l=sS d) (XW G d) (d.map (·.2)=(ns.zip (rF j)).take i)) (∃ I:Option V,C=[I,O (.ref p),O (.ref a)]))
  ⟨zC R _,zA,⟨[],rfl,(λt v=>nomatch v),rfl⟩,IS,rfl⟩ (λi C l G _ M=>by obtain⟨_,e,_⟩:=M; rwa[e]) ?_ ?_⟩
 ·rintro i C l G hi ⟨o,B,⟨d,rfl,c,r⟩,I,rfl⟩;rw[i4,ac] at hi;have lc:d.length<=i:=by
   have z:=congrArg AH r;rw[ac,j3] at z;lia
  obtain⟨n,gn,an⟩:=Zo (ns:=ns) (i:=i) (k:=0+(i:Int)) (by lia) hi;obtain⟨m,gm,am⟩:=Zo (ns:=rF j) (i:=i) (k:=0+(i:Int)) (by lia) (by lia);erw[_,rfl,_,rfl,a,_,_,_,rfl,rfl,.inl (o.seq y),an,_,rfl,_,rfl,p,_,_,_,rfl,rfl,.inr (SqT.of (o _ _ ep)),am,sz2,λt v=>?_];have st:=zC v (.tup [.int n,.int m]);have L:t≠D:=λz=>by rw[z,B] at v; cases v
  erw[st _ _ B,zK (by rw[vh]; lia),(o.trans st).putNew R,zA,⟨d++[(t,n,m)],by simp[sS],λu g=>?_,?_⟩,_,rfl]
  ·rcases i7.mp g with g | g
   ·rw[zF (aQ (st _ _ (c u g)) (st _ _ B) (by intro z; cases z))];rwa[st _ _ (c u g)]
   ·rw[e8] at g;subst g;show upd _ D _ t=_;rw[zF L];rwa[zA]
  ·rw[e7,r,xN (x:=(n,m)) (by rw[List.getElem?_zip_eq_some]; rwa[gn,gm])];rfl
 ·rintro C l G ⟨o,B,⟨d,rfl,c,r⟩,I,rfl⟩;rw[i4,ac,Ax (by rw[List.length_zip]; lia)] at r;rwa[q D d G (J.trans o) (J.free R) B c r]
def bC{a b c d:Int}(h:a.natAbs<=10^9)(g:b.natAbs<=10^9)(e:c.natAbs<=10^9)(hd:d.natAbs<=10^9):qu (a*b-c*d)<=10^19:=by
 have j:=zQ a b h g;have i:=zQ c d e hd;unfold qu;split <;> lia
def tM(K:b9):Sp:=λg H Q _=>E5 λ(l:c5) (a:List Sd) (j:Nat) (e:Sd) (P:P3)=>A7 (g=[.ref l,.int j]) (SqL K H l (zW a)) (jv H a) (a.length<=900) (Tr a j e P) (∀ t∈a.take j,tn e.2 t.2=0->sv t.2 (pt3 (ftL e.2))<=0) (∀(D:c5)(d:List Pr)(c:Hp),Same H c->H D=IS->c D=O (.lst (sS d))->XW c d->pf a (d.map (·.2))->Q (.ref D) c)
def wq(F:Fun K "clash_of_three" "clash_of_three" xW f fd)(Z:Zs mg)(CB:Cb P w mg base)(yBu:Has P w K mg base "weighed" 3 ["numbers","weights"] (zu K))(yCs:Has P w K mg base "turn" 1 ["one","other"] (vP K))(yBm:Has P w K mg base "edge_end" 5 ["sides","edge","hand"] (rZ K)):yN P w K mg base CX0 6 f fd ["sides","last"] (tM K):=by
 specialize yK
 ·obtain⟨l,n,j,e,P,rfl,_⟩:=h;rfl
 obtain⟨l,n,j,e,P,rfl,hl,ok,hlen,st,N,q⟩:=h;have hj:j<n.length:=(c7.mp st.at').1;obtain⟨e',me,ge,at'⟩:=vO (ss:=n) (i:=j) (k:=(j:Int)) rfl hj;rw[st.at'] at ge;cases ge;obtain⟨ee,ne,c1,c2,c3⟩:=ok e me;have hN:=oq ne;obtain⟨sf,f1⟩:=Xz ne
 refine'⟨_,(zB (zS 2 yK.nd ?_)
   (zB (zS 3 yK.nd (yE rB rfl Z.sorted uH ?_))
   (zB (zS 4 yK.nd ?_)
   (zB (zS 5 yK.nd ?_)
   (zB (zS 6 yK.nd ?_)
   (zD (zM (wL yBu (hr.mono (by decide)) rfl (zI (tR nE (pv 3) ?_) (zI (pv 6) zN)))))))))),?_⟩
 nofun
 exists _,U,_,U,l,_,_,_,U,U,.inl hl,at';refine⟨_,U,_,U,_,U,l,_,U,hl,λc hc=>?_⟩;rw[gO];have sc:=zC hc (.lst (zW (n.take j)));have ec:upd H c (.lst (zW (n.take j))) c=O (.lst (zW (n.take j))):=zA;generalize upd H c (.lst (zW (n.take j)))=H1 at sc ec ⊢;refine⟨_,U,_,U,c,e.1,n.take j,e.2,-1,U,SqL.of ec,(λu hu=>ok.same sc u (AT hu)),by rw[j3]; lia,.inr (SqT.of (sc _ _ ee)),ne,c1,c2,c3,.inr rfl,λr1 H2 s2 k1=>?_⟩;have T:=sc.trans s2;refine⟨_,U,_,U,_,U,l,_,U,T.seq hl,λd hd=>?_⟩;rw[gO];have sd:=zC hd (.lst (zW (n.take j)));have ed:upd H2 d (.lst (zW (n.take j))) d=O (.lst (zW (n.take j))):=zA;generalize upd H2 d (.lst (zW (n.take j)))=H3 at sd ed ⊢;have J:=T.trans sd;refine⟨_,U,d,e.1,n.take j,e.2,1,U,SqL.of ed,(λu hu=>ok.same J u (AT hu)),by rw[j3]; lia,.inr (SqT.of (J _ _ ee)),ne,c1,c2,c3,.inl rfl,λr2 H4 s4 k2=>?_⟩;have sH4:=J.trans s4;obtain⟨r,rfl⟩:∃ r,r1=O r:=by
  cases r1 with
  | some r=>rwa[r,rfl]
  | none=>exact(fD (h:=-1) (by decide) hN f1 sf.pos st.no N k1 (show pi (n.take j) e.2 (- -1) r2 from k2)).elim
 obtain⟨p,rfl⟩:∃ p,r2=O p:=by
  cases r2 with
  | some p=>rwa[p,rfl]
  | none=>exact(fD (h:=1) (by decide) hN f1 sf.pos st.no N k2 k1).elim
 obtain⟨a,ga,ha,ta⟩:=k1;obtain⟨b,gb,hb,tb⟩:=k2;refine⟨sz2,λY hnl=>?_⟩;have S:Same H4 (upd H4 Y (.lst [jq (O r),jq (O p)])):=zC hnl _;have enl:upd H4 Y (.lst [jq (O r),jq (O p)]) Y=O (.lst ([(r:Int),(p:Int)].map V.int)):=zA;generalize upd H4 Y (.lst [jq (O r),jq (O p)])=H5 at S enl ⊢;have sH5:=sH4.trans S;refine⟨Y,[(r:Int),(p:Int)],U,SqL.of enl,(by show 2<64; decide),λI ms hsn pm pw=>?_⟩;have di:r≠p:=λz=>by
  rw[z,gb] at ga;cases ga;lia
 obtain⟨x,y,g,m,h,rfl,hxy,gx,gy,h1,hs1,ht1,as1,at1⟩:∃(x y:Nat)(g m:Sd)(h:Int),ms=[(x:Int),(y:Int)]/\x<y/\(n.take j)[x]?=O g/\(n.take j)[y]?=O m/\(h=1\/h = -1)/\0<tn e.2 g.2*h/\0<tn e.2 m.2 * -h /\
   (∀ u∈n.take j,0<tn e.2 u.2*h->sv u.2 (pt3 (crL e.2 g.2))<=0)/\(∀ u∈n.take j,0<tn e.2 u.2 * -h->sv u.2 (pt3 (crL e.2 m.2))<=0):=by
  rcases cg pm pw with ⟨rfl,le⟩ | ⟨rfl,le⟩
  ·rwa[r,p,a,b,-1,rfl,by lia,ga,gb,.inr rfl,ha,hb,ta,tb]
  ·rwa[p,r,b,a,1,rfl,by lia,gb,ga,.inl rfl,hb,ha,tb,ta]
 have hh:h*h=1:=by rcases h1 with rfl | rfl <;> rfl
 obtain⟨A1,A2,A3,A4⟩:=bS hh hN f1 sf.pos st.no N (e9 gx) (e9 gy) hs1 ht1 as1 at1 st.pos st.ahead st.out;have gx':n[x]?=O g/\x<j:=by
  rw[Bj] at gx;split at gx
  ·rwa[gx,by lia]
  ·cases gx
 have M:n[y]?=O m/\y<j:=by
  rw[Bj] at gy;split at gy
  ·rwa[gy,by lia]
  ·cases gy
 obtain⟨_,mx,gx2,atx⟩:=vO (ss:=n) (i:=x) (k:=(x:Int)) rfl (by lia);rw[gx'.1] at gx2;cases gx2;obtain⟨_,my,gy2,aty⟩:=vO (ss:=n) (i:=y) (k:=(y:Int)) rfl (by lia);rw[M.1] at gy2;cases gy2;obtain⟨es,ns,d1,d2,d3⟩:=ok g mx;obtain⟨et,nt,g1,g2,g3⟩:=ok m my;have R:Same H5 (upd H5 I (.lst ([(x:Int),(y:Int)].map V.int))):=zC hsn _;have B:upd H5 I (.lst ([(x:Int),(y:Int)].map V.int)) I=O (.lst ([(x:Int),(y:Int)].map V.int)):=zA;generalize upd H5 I (.lst ([(x:Int),(y:Int)].map V.int))=H6 at R B ⊢;have o:=sH5.trans R;have hl6:Sq K H6 l (zW n):=.inl (o.seq hl);have ee6:Sq K H6 e.1 [.int e.2.1,.int e.2.2.1,.int e.2.2.2]:=.inr (SqT.of (o _ _ ee));have es6:Sq K H6 g.1 [.int g.2.1,.int g.2.2.1,.int g.2.2.2]:=.inr (SqT.of (o _ _ es));have et6:Sq K H6 m.1 [.int m.2.1,.int m.2.2.1,.int m.2.2.2]:=.inr (SqT.of (o _ _ et));exists _,U,_,U,I,_,_,.int (x:Int),U,U,.inl (SqL.of B),U,l,_,_,_,U,U,hl6,atx;exists _,U,_,U,I,_,_,.int (y:Int),U,U,.inl (SqL.of B),U,l,_,_,_,U,U,hl6,aty;refine⟨_,U,_,U,m.1,e.1,_,_,m.2.1,m.2.2.1,e.2.1,e.2.2.1,U,et6,ee6,U,U,U,U,by lia,by lia,_,U,
  _,rfl,_,rfl,e.1,g.1,_,_,e.2.1,e.2.2.1,g.2.1,g.2.2.1,rfl,ee6,es6,rfl,rfl,rfl,rfl,by lia,by lia,_,rfl,
  _,rfl,_,rfl,g.1,m.1,_,_,g.2.1,g.2.2.1,m.2.1,m.2.2.1,rfl,es6,et6,rfl,rfl,rfl,rfl,by lia,by lia,_,rfl,sz3,λwl hwl=>?_⟩
 erw[_,rfl,_,rfl,sz1,λol hol=>?_];have C:=zC hwl (.lst ([qu (tn m.2 e.2),qu (tn e.2 g.2),qu (tn g.2 m.2)].map V.int));have v:=zC hol (.lst [.int (j:Int)]);refine⟨I,ol,_,_,U,U,v _ _ (C _ _ B),zA,zb (by show 2+1<=1000; decide),λnc hnc=>?_⟩;have G:=zC hnc (.lst ([(x:Int),(y:Int),(j:Int)].map V.int));have pU:0<qu (tn m.2 e.2):=by rw[xO h1 A1]; rwa[A1]
 have pV:0<qu (tn e.2 g.2):=by rw[xO h1 A2]; rwa[A2]
 have pX:0<qu (tn g.2 m.2):=by rw[xO h1 A3]; rwa[A3]
 have bU:qu (tn m.2 e.2)<=10^19:=bC g1 c2 g2 c1;have bV:qu (tn e.2 g.2)<=10^19:=bC c1 d2 c2 d1;have bX:qu (tn g.2 m.2)<=10^19:=bC d1 g2 d2 g1;have gk:=XI (ws:=[qu (tn m.2 e.2),qu (tn e.2 g.2),qu (tn g.2 m.2)]) (Ab ..) pU (by lia);refine⟨_,U,nc,wl,[(x:Int),(y:Int),(j:Int)],[qu (tn m.2 e.2),qu (tn e.2 g.2),qu (tn g.2 m.2)],U,SqL.of zA,SqL.of (G _ _ (v _ _ zA)),U,(by show 3<=900; decide),gk.1,gk.2,λD cs H' s' hD eD okc mc=>?_⟩;have X:=((C.trans v).trans G).trans s';have L:=(C.trans v).trans G;refine q D cs H' (o.trans X) (o.free (L.free hD)) eD okc ?_;rw[mc];obtain⟨w1,w2⟩:=dM g.2 m.2 e.2;have f:∀ a b c:Int,tn m.2 e.2*h*a+tn e.2 g.2*h*b+tn g.2 m.2*h*c=(tn m.2 e.2*a+tn e.2 g.2*b+tn g.2 m.2*c)*h:=λa b c=>by
  rw[Aw,Aw,Aj,Aj (tn e.2 g.2),Aj (tn g.2 m.2)]
 erw[gF hxy M.2 gx'.1 M.1 st.at' pU pV pX bU bV bX ?_ ?_ ?_]
 ·rw[xO h1 A1,xO h1 A2,xO h1 A3,f];have w1':tn m.2 e.2*g.2.1+tn e.2 g.2*m.2.1+tn g.2 m.2*e.2.1=0:=w1;rw[w1',x9]
 ·rw[xO h1 A1,xO h1 A2,xO h1 A3,f];have w2':tn m.2 e.2*g.2.2.1+tn e.2 g.2*m.2.2.1+tn g.2 m.2*e.2.2.1=0:=w2;rw[w2',x9]
 ·rw[xO h1 A1,xO h1 A2,xO h1 A3,f];rwa[A4]
def mZ(K:b9):Sp:=λe H Q _=>E2 λ(l:c5) (c:List Sd)=>A6 (e=[.ref l]) (SqL K H l (zW c)) (jv H c) (c.length<=900) (∀(P:P3)(a:Hp),Same H a->0<P.2.2->inW c P->VR c P->Q .non a) (∀(D:c5)(d:List Pr)(a:Hp),Same H a->H D=IS->a D=O (.lst (sS d))->XW a d->pf c (d.map (·.2))->Q (.ref D) a)
def dD(F:Fun K "clash" "clash" uv f fd)(Z:Zs mg)(CB:Cb P w mg base)(yAa:Has P w K mg base "clash_of_three" 6 ["sides","last"] (tM K))(yCs:Has P w K mg base "turn" 1 ["one","other"] (vP K))(yCf:Has P w K mg base "holds" 2 ["side","spot"] (rK K))(yCr:Has P w K mg base "foot" 5 ["side"] (oF K))(yBu:Has P w K mg base "weighed" 3 ["numbers","weights"] (zu K))(yCq:Has P w K mg base "span" 1 ["direction"] (jO K))(yBw:Has P w K mg base "sought" 8 ["sides"] (oK K)):yN P w K mg base CX0 9 f fd ["sides"] (mZ K):=by
 specialize rJ
 ·obtain⟨l,c,rfl,_⟩:=h;rfl
 obtain⟨l,c,rfl,N,ok,g,qn,q⟩:=h
 refine'⟨_,(zB (zS 1 rJ.nd ?_)
   (zB (yO ?_ (zD (zM xq)) zX)
   (zB (zS 2 rJ.nd ?_)
   (zB (xM l9 rfl (xC rfl Z.range (zI (pv 1) zN)) (xR 3 rJ.nd) (zB (zS 4 rJ.nd ?_)
   (zD (yO ?_ (zD (zM ?_)) zX))))
   (zD (zM ?_)))))),?_⟩
 nofun
 erw[_,rfl,l,c,rfl,N,ok,g,λt j e P H1 G et st=>?_,λt p P H1 G et ep wp cp=>?_]
 ·exists t,_,_,.int j,U,U,.inr (SqT.of et),rfl;exists _,U,U,_,rfl;refine wX ?_;have hj:j<c.length:=(c7.mp st.at').1;obtain⟨e',me,ge,at'⟩:=vO (ss:=c) (i:=j) (k:=(j:Int)) rfl hj;rw[st.at'] at ge;cases ge;obtain⟨ee,ne,c1,c2,c3⟩:=ok e me;have hN:=oq ne;obtain⟨sf,f1⟩:=Xz ne;exists _,U,_,U,l,_,_,_,U,U,.inl (G.seq N),at';refine⟨_,U,_,U,(by lia),(by lia),wM (lo:=0) (n:=((j:Nat):Int).toNat) (λi S L=>A3 (Same H1 L) (∀ u∈c.take i,tn e.2 u.2=0->sv u.2 (pt3 (ftL e.2))<=0) (E2 λ(X T:Option V)=>S=[O (.ref l),O (.int j),O (.ref e.1),X,T]))
   ⟨Same.refl _,(λt ht=>nomatch ht),IS,IS,rfl⟩ ?_ ?_⟩
  ·rintro i S L hi ⟨B,a,X,T,rfl⟩;rw[i4] at hi;obtain⟨u,mu,R,atu⟩:=vO (ss:=c) (i:=i) (k:=0+(i:Int)) (by lia) (by lia);obtain⟨eu0,nu,d1,d2,d3⟩:=ok u mu;have d:=G.trans B;have eu:Sq K L u.1 [.int u.2.1,.int u.2.2.1,.int u.2.2.2]:=.inr (SqT.of (d _ _ eu0));have y:Sq K L e.1 [.int e.2.1,.int e.2.2.1,.int e.2.2.2]:=.inr (SqT.of (d _ _ ee));exists _,U,_,U,l,_,_,_,U,U,.inl (d.seq N),atu;exists _,U,_,U,e.1,u.1,_,_,e.2.1,e.2.2.1,u.2.1,u.2.2.1,U,y,eu,U,U,U,U,by lia,by lia,U,_,rfl;erw[ifE (λh0=>?_) (λh0=>?_)]
   ·have h0':tn e.2 u.2=0:=h0;refine⟨_,U,_,U,e.1,e.2,U,y,ne,c1,c2,λfp H2 C hfp efp=>?_⟩;have J:H2 fp=O (.tup [.int (pt3 (ftL e.2)).1,.int (pt3 (ftL e.2)).2.1,.int (pt3 (ftL e.2)).2.2]):=by
     rw[efp,sf.list];rfl
    exists u.1,fp,u.2.1,u.2.2.1,u.2.2.2,(pt3 (ftL e.2)).1,(pt3 (ftL e.2)).2.1,(pt3 (ftL e.2)).2.2,U,eu.same C,.inr (SqT.of J),by lia,by lia,by lia,_,rfl;erw[ifN (λI=>?_) (λhin=>?_)]
    ·have x:0<sv u.2 (pt3 (ftL e.2)):=by
      have:¬ sv u.2 (pt3 (ftL e.2))<=0:=I;lia
     obtain⟨z1,z2,z3⟩:=Yu h0' hN ne sf.pos st.pos f1 x (st.ahead u (e9 (i:=i) (by rw[Bj,y7 hi]; rwa[R]))) st.out;erw[_,rfl,_,rfl,sz2,λnl hnl=>?_];have m:=zC hnl (.lst ([0+(i:Int),(j:Int)].map V.int));erw[_,rfl,e.1,_,e.2.1,e.2.2.1,rfl,(y.same C).same m,rfl,rfl,_,rfl,u.1,_,u.2.1,u.2.2.1,rfl,(eu.same C).same m,rfl,rfl,sz2,λwl hwl=>?_];have z:=zC hwl (.lst ([uW e.2.1 e.2.2.1,uW u.2.1 u.2.2.1].map V.int));have pU:=oh ne;have pV:=oh nu;have bU:uW e.2.1 e.2.2.1<=10^19:=C4 (fT c1 c2) (by decide);have bV:uW u.2.1 u.2.2.1<=10^19:=C4 (fT d1 d2) (by decide);have gk:=XI (ws:=[uW e.2.1 e.2.2.1,uW u.2.1 u.2.2.1]) (Ab ..) pU (by lia);refine⟨nl,wl,[0+(i:Int),(j:Int)],[uW e.2.1 e.2.2.1,uW u.2.1 u.2.2.1],U,SqL.of (z _ _ zA),SqL.of zA,U,(by show 2<=900; decide),gk.1,gk.2,λD cs H5 Y hD eD o mc=>?_⟩;have sB:=(d.trans C).trans (m.trans z);erw[q D cs H5 (sB.trans Y) (sB.free hD) eD o ?_];rw[mc,Ay];rwa[aT hi R st.at' pU pV bU bV z1 z2 z3]
    ·erw[B.trans C,λv r M=>?_,_,_,rfl];rcases yi R r with r | rfl
     ·rwa[a v r M]
     ·rwa[hin]
   ·erw[wX ?_];erw[B,λv r M=>?_,_,_,rfl];rcases yi R r with r | rfl
    ·rwa[a v r M]
    ·rwa[x4 M h0]
  ·rintro S L ⟨B,a,X,T,rfl⟩;rw[i4] at a;have d:=G.trans B;rwa[_,rfl,_,rfl,l,c,j,e,P,rfl,d.seq N,ok.same d,g,st,a,λD cs H5 Y hD eD o cl=>q D cs H5 (d.trans Y) (d.free hD) eD o cl]
 ·exists t,_,_,.non,U,U,.inr (SqT.of et),rfl;exists _,U,U,_,rfl;erw[qr ?_];rwa[qn P H1 G ep.2.1 wp cp]
def qS(K:b9):Sp:=λc H Q _=>c=[]/\∀(d:c5)(a:Hp),Same H a->H d=IS->eK a d BS.nil->Q (.ref d) a
def qg(F:Fun K "nothing_yet" "nothing_yet" uR f fd)(Z:Zs mg)(J:Cb P w mg base)  : yN P w K mg base CX0 1 f fd [] (qS K):=by
 specialize pc
 ·obtain⟨rfl,_⟩:=h;rfl
 obtain⟨rfl,q⟩:=h
 refine'⟨_,zD ?h,?_⟩
 rotate_left
 with_reducible refine' zM ?_
 rotate_left
 with_reducible exact iZ (wI zU rA (wI zU rA (wI zU rA (wI zU rA (wI zU xV fo))))) rfl rfl (λz=>nomatch z) (by decide)
 try dsimp only[L2.cxOf]
 intro p j m u b v r hr n l;have y:=zC j (.dK []);have i:=zC u (.dK []);have g:=zC v (.dK []);have d:=zC hr (.dK []);have a:=zC l (.dK []);have em:=(g.trans (d.trans a)) _ _ zA;have I:=(d.trans a) _ _ zA;have D:=a _ _ zA;have G:=(i.trans (g.trans (d.trans a))) _ _ zA;exists G,[(.inr "marks",.ref m),(.inr "banks",.ref b),(.inr "runs",.ref r),(.inr "notes",.ref n),(.inr "coming",.int 1)],U,(show 5<=15 by decide);rw[ZB];have ne:∀{x:c5},(upd H p (.dK [])) x=IS->x≠p:=λ{x} h z=>by rw[z,zA] at h; cases h
 have nb:=ne (i.free v);have B:=ne (i.free (g.free hr));have C:=ne (i.free (g.free (d.free l)));erw[q p _ (λc o e=>?_) j ⟨m,b,r,n,.inl zA,.nil ?_,.nil ?_,.nil ?_,.nil ?_⟩]
 ·rw[zF (zH e j)];exact(y.trans (i.trans (g.trans (d.trans a)))) c o e
 ·rw[zF (ne u)]; rwa[em]
 ·rw[zF nb]; rwa[I]
 ·rw[zF B]; rwa[D]
 ·rw[zF C]; rwa[zA]
def sQ(K:b9):Sp:=λj H Q _=>E7 λ(d a:c5) (kind:g8) (g:Key) (v:V) (e i:List (Key×V))=>A7 (j=[.ref d,.str kind,kV g,v]) (Rd H d (.dK e)) (vR e (.inr kind)=O (.ref a)) (Rd H a (.dK i)) (e.length<=100) (i.length<=100) (∀(f c:c5)(h:Hp),Same H h->H f=IS->f≠c->h f=O (.dK (sC e (.inr kind) (.ref c)))->h c=O (.dK (sC i g v))->Q (.ref f) h)
def jN(F:Fun K "changed" "changed" qR f fd)(Z:Zs mg)(J:Cb P w mg base)  : yN P w K mg base CX0 1 f fd ["state","kind","key","value"] (sQ K):=by
 specialize rq
 ·obtain⟨d,a,kind,m,v,g,j,rfl,_⟩:=h;rfl
 obtain⟨d,a,kind,m,v,g,j,rfl,hd,B,z,I,G,q⟩:=h
 refine'⟨_,(zB (zS 4 rq.nd ?_)
   (zB (uU (yB hr) (pv 4) (pv 1) (yT rQ rfl Z.dict wx (zI (zO (yB hr) (pv 0) (pv 1) (λ_ _=>rfl)) zN)) rfl)
   (zB (uU (yB hr) (zO (yB hr) (pv 4) (pv 1) (λ_ _=>rfl)) (pv 2) (pv 3) rfl)
   (zD (zM (pv 4)))))),?_⟩
 nofun
 erw[_,rfl,d,g,rfl,hd,λp n=>?_];have l:=zC n (.dK g);have r:Rd (upd H p (.dK g)) d (.dK g):=hd.imp (l _ _) λ⟨o,e⟩=>⟨o,l _ _ e⟩;have x:Rd (upd H p (.dK g)) a (.dK j):=z.imp (l _ _) λ⟨o,e⟩=>⟨o,l _ _ e⟩;erw[_,rfl,_,rfl,d,.ref a,rfl,.inl ⟨g,.inr kind,r,rfl,B.symm⟩,a,j,rfl,x,λc u=>?_];have i:p≠c:=zH zA u;have y:=zC u (.dK j);have D:upd (upd H p (.dK g)) c (.dK j) p=O (.dK g):=y _ _ zA;exists _,U,_,U,p,_,U,mf.k (k:=.inr kind) D (zK (by lia));have C:upd (upd (upd H p (.dK g)) c (.dK j)) p (.dK (sC g (.inr kind) (.ref c))) c=O (.dK j):=by rw[zF i.symm,zA]
 erw[_,rfl,_,rfl,_,rfl,p,.ref c,rfl,.inl ⟨_,.inr kind,.inl zA,rfl,?_⟩,_,rfl,c,_,rfl,mf.k C (zK (by lia)),_,rfl,?_]
 ·rw[pM,y7 rfl]
 erw[q p c _ (λb o e=>?_) n i ?_ zA]
 ·have n1:=zH e n;have n2:=zH (l _ _ e) u;rw[zF n2,zF n1,zF n2,zF n1];rwa[e]
 ·rw[zF i,zA]
def rn(K:b9):Sp:=λj H Q _=>E7 λ(d a:c5) (kind:g8) (g:Key) (v:V) (e i:List (Key×V))=>A7 (j=[.ref d,.str kind,kV g]) (Rd H d (.dK e)) (vR e (.inr kind)=O (.ref a)) (Rd H a (.dK i)) (vR i g=O v) (e.length<=100) (∀(f c:c5)(h:Hp),Same H h->H f=IS->f≠c->h f=O (.dK (sC e (.inr kind) (.ref c)))->h c=O (.dK (qo i g))->Q (.ref f) h)
def ix(F:Fun K "without" "without" qA f fd)(Z:Zs mg)(J:Cb P w mg base)  : yN P w K mg base CX0 1 f fd ["state","kind","key"] (rn K):=by
 specialize qx
 ·obtain⟨d,a,kind,m,v,g,i,rfl,_⟩:=h;rfl
 obtain⟨d,a,kind,m,v,g,i,rfl,hd,D,B,C,I,q⟩:=h
 refine'⟨_,(zB (zS 3 qx.nd ?_)
   (zB (uU (yB hr) (pv 3) (pv 1) (yT rQ rfl Z.dict wx (zI (zO (yB hr) (pv 0) (pv 1) (λ_ _=>rfl)) zN)) rfl)
   (zB (yA (pJ (zO (yB hr) (pv 3) (pv 1) (λ_ _=>rfl)) (pv 2) ⟨rfl,rfl,rfl,rfl⟩))
   (zD (zM (pv 3)))))),?_⟩
 nofun
 erw[_,rfl,d,g,rfl,hd,λp n=>?_];have l:=zC n (.dK g);have r:Rd (upd H p (.dK g)) d (.dK g):=hd.imp (l _ _) λ⟨o,e⟩=>⟨o,l _ _ e⟩;have x:Rd (upd H p (.dK g)) a (.dK i):=B.imp (l _ _) λ⟨o,e⟩=>⟨o,l _ _ e⟩;erw[_,rfl,_,rfl,d,.ref a,rfl,.inl ⟨g,.inr kind,r,rfl,D.symm⟩,a,i,rfl,x,λc u=>?_];have j:p≠c:=zH zA u;have z:=zC u (.dK i);have G:upd (upd H p (.dK g)) c (.dK i) p=O (.dK g):=z _ _ zA;exists _,U,_,U,p,_,U,mf.k (k:=.inr kind) G (zK (by lia));have y:upd (upd (upd H p (.dK g)) c (.dK i)) p (.dK (sC g (.inr kind) (.ref c))) c=O (.dK i):=by rw[zF j.symm,zA]
 erw[_,rfl,_,rfl,p,.ref c,rfl,.inl ⟨_,.inr kind,.inl zA,rfl,?_⟩,c,rfl,.inl ⟨i,.inl y⟩,_,rfl,i,m,v,y,rfl,C,_,rfl,?_]
 ·rw[pM,y7 rfl]
 erw[q p c _ (λb o e=>?_) n j ?_ zA]
 ·have n1:=zH e n;have n2:=zH (l _ _ e) u;rw[zF n2,zF n1,zF n2,zF n1];rwa[e]
 ·rw[zF j,zA]
def iT(ns:List Int)(m:Int):Bool:=ns.all λn=>decide (-m<=n)&&decide (n<=m)
def qE(K:b9):Sp:=λd H Q _=>E3 λ(a:c5) (ns:List Int) (m:Int)=>A4 (d=[.ref a,.int m]) (H a=O (.tup (ns.map V.int))) (ns.length<=100) (∀ c,Same H c->Q (.bl (iT ns m)) c)
def hW(F:Fun K "within" "within" xt f fd)(Z:Zs mg)(I:Cb P w mg base)  : yN P w K mg base CX0 1 f fd ["numbers","most"] (qE K):=by
 specialize fh
 ·obtain⟨a,ns,m,rfl,_⟩:=h;rfl
 obtain⟨a,ns,m,rfl,z,G,q⟩:=h
 refine'⟨_,(zD (zM (yE (rL rfl) rfl Z.all lG (zI (yU (T:=["number"]) (caps:=[("most",1)]) ⟨rfl,by ac_nf,by ac_nf,rfl,⟨⟨rfl,rfl,BB rfl⟩,o0⟩⟩ rfl (xD (pv 0)) (λ_=>(xR 0 (show(["number","most"]:List g8).Nodup by ac_nf))) (λ_=>yJ) (λ_=>(eC dq dq ?_ (pv 0) (pv 1)))) zN)))),?_⟩
 nofun
 refine⟨_,U,a,U,.inr ⟨⟨_,SqT.of z⟩,λc D y=>?_⟩⟩;refine nv (K:=K) (a:=a) (xs:=ns.map V.int) (λi o g l=>A4 (Same H l) (l D=O (.lst g)) (g=((ns.take i).map λn=>decide (-m<=n)&&decide (n<=m)).map V.bl) (∃ u:Option V,o=[u,O (.int m)]))
  ⟨zC y _,zA,rfl,IS,rfl⟩ (λi o g l _ v=>by obtain⟨d,e,_⟩:=v; rwa[SqT.of (d _ _ z),e]) ?_ ?_
 ·rintro i x o g l hi ⟨d,p,rfl,u,rfl⟩;obtain⟨n,B,rfl⟩:=uC hi;have C:=(c7.mp B).1;have len:(((ns.take i).map λn=>decide (-m<=n)&&decide (n<=m)).map V.bl).length<sizeLine:=zK (by rw[ac,ac,j3]; lia);have j:∀ b:Bool,b=(decide (-m<=n)&&decide (n<=m))->((ns.take i).map λn=>decide (-m<=n)&&decide (n<=m)).map V.bl++[V.bl b]=((ns.take (i+1)).map λn=>decide (-m<=n)&&decide (n<=m)).map V.bl:=λb e=>by
   rw[o6,B,e,e7,e7];rfl
  exists _,U,_,U,_,U,_,_,U,U,_,rfl;erw[ite2 (λh1=>?_) (λh1=>?_)]
  ·rwa[_,rfl,_,_,rfl,rfl,p,len,d.putNew y,zA,j _ (by rw[h1,Bool.true_and]),_,rfl]
  ·rwa[p,len,d.putNew y,zA,j _ (by rw[eq_false_of_ne_true h1,He]),_,rfl]
 ·rintro o g l ⟨d,p,rfl,u,rfl⟩;exists D,_,U,SqL.of p;have r:=q _ d;rw[ac,j5,Fj];rwa[r]
def yu(K:b9):Sp:=λc H Q _=>∃ x:g8,A3 (c=[.str x]) (sI x) (∀ a,Same H a->Q .non a)
def XT(a c:Nat):(!decide ((⟨#[c]⟩:g8).cps.toList<(⟨#[a]⟩:g8).cps.toList))=decide (a<=c):=by
 have e:([c]<[a])↔c<a:=by
  rw[List.cons_lt_cons_iff];simp
 show(!decide ([c]<[a]))=_;by_cases h:c<a
 ·rw[y8 (e.mpr h),y9 (by lia)];rfl
 ·rw[y9 (λz=>h (e.mp z)),y8 (by lia)];rfl
def om(F:Fun K "check_name" "check_name" vH f fd)(Z:Zs mg)(L:Cb P w mg base)  : yN P w K mg base CX0 1 f fd ["name"] (yu K):=by
 specialize nX
 ·obtain⟨x,rfl,_⟩:=h;rfl
 obtain⟨x,rfl,⟨h1,h8,B⟩,q⟩:=h;exists _,(zD (yO (PW.pt (gT (xJ Wi (yE qy rfl Z.len sh (zI (pv 0) zN)) xV (xj _)) (gT (xJ YM (yE qy rfl Z.len sh (zI (pv 0) zN)) (fW L.LONGEST_NAME) (xj _)) (lS (sg (pZ (yE (rL rfl) rfl Z.all lG (zI (yU (T:=["letter"]) (caps:=[]) ⟨rfl,by ac_nf,by ac_nf,rfl,o0⟩ rfl (UJ (pv 0)) (λ_=>(jz (i:=0) (show(["letter"]:List g8).Nodup by ac_nf) rfl (BB rfl))) (λ_=>yJ) (λ_=>(eC jf jf zU (pv 0) zU))) zN)))))))) (zD vA) zX))
 try dsimp only[L2.cxOf,L2.cxComp,L2.Cx.nox,cG,cE]
 have u:x.length<=sizeLine:=f8 h8 (by decide);exists _,U,x,U,u,_,_,U,U,_,rfl;refine ifD (λz=>x4 z (by lia)) (λ_=>?_);exists _,U,x,U,u,_,_,U,U,_,rfl;refine ifD (λz=>x4 z (by lia)) (λ_=>?_);have r:x.cps.all (· < 128)=true:=by
  rw[Array.all_eq_true'];intro c I;have:=B c (FH.mpr I);rwa[y8 (by lia)]
 refine⟨_,U,x,U,r,λc D C=>?_⟩;refine Vo (xs:=jh x) (λi g a d=>A5 (Same H d) (d D=O (.lst a)) (a=(Be i IT).map V.bl) (i<=x.length) (∃ j:Option V,g=[j]))
  ⟨zC C _,zA,rfl,Aa _,IS,rfl⟩ (λi g a d m=>by obtain⟨_,e,_⟩:=m; rwa[o0,e]) ?_ ?_
 ·rintro i v g a d hi ⟨l,p,rfl,J,j,rfl⟩;unfold jh at hi;rw[d7,i8] at hi;obtain⟨n,G,rfl⟩:=hi;have y:=B n (e9 G);have o:i<x.length:=by
   have:=(c7.mp G).1;rw[Ap] at this;rwa[this]
  exists _,U,_,_,U,U,_,rfl;rw[show(!decide (((⟨#[n]⟩:g8).cps.toList)<(("a" : g8).cps.toList)))=IT from(XT 97 n).trans (y8 y.1)];erw[qr ?_];erw[_,_,rfl,rfl,p,zK (by rw[ac,Bc]; lia),l.putNew C,zA,?_,o,_,rfl];rw[show(!decide ((("z" : g8).cps.toList)<((⟨#[n]⟩:g8).cps.toList)))=IT from(XT n 122).trans (y8 y.2),CW,e7];rfl
 ·rintro g a d ⟨l,p,rfl,_,j,rfl⟩;exists D,_,U,SqL.of p,_,rfl;rw[show(Be (jh x).length IT).all id=IT from by simp];erw[wX ?_];rwa[q _ l]
def ze(K:b9):Sp:=λg H Q _=>E6 λ(d a:c5) (kind:g8) (n:g8) (c e:List (Key×V))=>A6 (g=[.ref d,.str kind,.str n]) (Rd H d (.dK c)) (vR c (.inr kind)=O (.ref a)) (Rd H a (.dK e)) (vR e (.inr n)=IS) (Q .non H)
def oB(F:Fun K "check_free" "check_free" uZ f fd)(Z:Zs mg)(l:Cb P w mg base)  : yN P w K mg base CX0 1 f fd ["state","kind","name"] (ze K):=by
 specialize oa
 ·obtain⟨d,a,kind,n,c,e,rfl,_⟩:=h;rfl
 obtain⟨d,a,kind,n,c,e,rfl,hd,j,g,i,q⟩:=h;exists _,(zD (yO (cR (XA (yB hr) (pv 2) (zO (yB hr) (pv 0) (pv 1) (λ_ _=>rfl))) (by with_unfolding_all rfl)) (zD vA) zX))
 try dsimp only[L2.cxOf,L2.cxComp,L2.Cx.nox,cG,cE]
 exists _,U,_,U,_,U,d,.ref a,U,.inl ⟨c,.inr kind,hd,U,j.symm⟩,a,_,U,.inl ⟨e,.inr n,g,U,U⟩,_,rfl;rw[i];rwa[wX q]
def qU(K:b9):Sp:=λd H Q _=>E3 λ(a:c5) (x y:Int)=>A4 (d=[.ref a]) (H a=O (.tup [.int x,.int y])) (vw (x,y)) (∀ c,Same H c->Q .non c)
def bb{x y:Int}(h:vw (x,y)):iT [x,y] 1000=true:=by
 obtain⟨h1,h2,h3,h4⟩:=h;simp only[iT,EN,Iw,Ia,AJ,decide_eq_true_eq];rwa[⟨h1,h2⟩,h3,h4]
def qc(F:Fun K "check_place" "check_place" uQ f fd)(Z:Zs mg)(j:Cb P w mg base)(c:Has P w K mg base "within" 1 ["numbers","most"] (qE K)):yN P w K mg base CX0 2 f fd ["place"] (qU K):=by
 specialize pj
 ·obtain⟨a,x,y,rfl,_⟩:=h;rfl
 obtain⟨a,x,y,rfl,g,e,q⟩:=h;exists _,(zD (yO (sg (pZ (wL c (hr.mono (by decide)) rfl (zI (pv 0) (zI (fW j.FARTHEST) zN))))) (zD vA) zX))
 try dsimp only[L2.cxOf,L2.cxComp,L2.Cx.nox,cG,cE]
 refine⟨_,U,a,[x,y],1000,U,g,(by show 2<=100; decide),λi d=>⟨_,rfl,?_⟩⟩;rw[bb e];rwa[wX (q i d)]
def xc(K:b9):Sp:=λd H Q _=>E3 λ(a:c5) (x y:Int)=>A4 (d=[.ref a]) (H a=O (.tup [.int x,.int y])) (vw (x,y)) (∀ c,Same H c->Q .non c)
def mF(F:Fun K "check_run" "check_run" tG f fd)(Z:Zs mg)(j:Cb P w mg base)(c:Has P w K mg base "within" 1 ["numbers","most"] (qE K)):yN P w K mg base CX0 2 f fd ["run"] (xc K):=by
 specialize mJ
 ·obtain⟨a,x,y,rfl,_⟩:=h;rfl
 obtain⟨a,x,y,rfl,g,e,q⟩:=h;exists _,(zD (yO (sg (pZ (wL c (hr.mono (by decide)) rfl (zI (pv 0) (zI (fW j.FARTHEST) zN))))) (zD vA) zX))
 try dsimp only[L2.cxOf,L2.cxComp,L2.Cx.nox,cG,cE]
 refine⟨_,U,a,[x,y],1000,U,g,(by show 2<=100; decide),λi d=>⟨_,rfl,?_⟩⟩;rw[bb e];rwa[wX (q i d)]
def uP(K:b9):Sp:=λh H Q _=>E6 λ(d a:c5) (kind:g8) (c g:List (Key×V)) (e:Int)=>A7 (h=[.ref d,.str kind]) (Rd H d (.dK c)) (vR c (.inr kind)=O (.ref a)) (Rd H a (.dK g)) (vR UR (.inr kind)=O (.int e)) ((g.length:Int)<e) (Q .non H)
def oW(F:Fun K "check_room" "check_room" vN f fd)(Z:Zs mg)(i:Cb P w mg base)  : yN P w K mg base CX0 1 f fd ["state","kind"] (uP K):=by
 specialize oC
 ·obtain⟨d,a,kind,c,g,e,rfl,_⟩:=h;rfl
 obtain⟨d,a,kind,c,g,e,rfl,hd,l,j,em,m,q⟩:=h;exists _,(zD (yO (xJ WT (yE vb rfl Z.len sh (zI (zO (yB hr) (pv 0) (pv 1) (λ_ _=>rfl)) zN)) (YR i.dMOST i.gMOST (pv 1)) (xj _)) (zD vA) zX))
 try dsimp only[L2.cxOf,L2.cxComp,L2.Cx.nox,cG,cE]
 exists _,U,_,U,d,.ref a,U,.inl ⟨c,.inr kind,hd,U,l.symm⟩,a,g,U,j,_,U,.inr kind,.int e,U,em,_,_,U,U,_,rfl;rwa[ifD (λz=>x4 z (by lia)) (λ_=>q)]
def tQ(K:b9):Sp:=λa H Q _=>E7 λ(d m b r n:c5) (S:BS) (x:g8)=>A4 (a=[.ref d,.str x]) (StA H d m b r n S) ((zV S x).isSome=IT) (Q .non H)
def oE(F:Fun K "check_mark" "check_mark" uY f fd)(Z:Zs mg)(i:Cb P w mg base)  : yN P w K mg base CX0 1 f fd ["state","name"] (tQ K):=by
 specialize mm
 ·obtain⟨d,m,b,r,n,S,x,rfl,_⟩:=h;rfl
 obtain⟨d,m,b,r,n,S,x,rfl,st,e,q⟩:=h;obtain⟨a,g,c⟩:=st.ma;exists _,(zD (yO (cR (jY (yB hr) (pv 1) (zO (yB hr) (pv 0) zU (λ_ _=>rfl))) (by with_unfolding_all rfl)) (zD vA) zX))
 try dsimp only[L2.cxOf,L2.cxComp,L2.Cx.nox,cG,cE]
 exists _,U,_,U,d,.ref m,U,.inl ⟨_,.inr "marks",st.at_,U,qH.symm⟩,m,_,U,.inl ⟨a,.inr x,g,U,U⟩,_,rfl;rw[c.isSome,um,CO,e];rwa[wX q]
def offM(n:Nat)(m:Int):Prop:=(m<0\/(n:Int)<m)/\m.natAbs.log2<1920
def xE(K:b9):Sp:=λe H Q E=>E3 λ(a:c5) (m:Int) (n:Nat)=>A3 (e=[.int m,.ref a]) ((∃ d,SqL K H a d/\d.length=n)\/∃ c,Rd H a (.dK c)/\c.length=n) ((A3 (0<=m) (m<=n) (Q .non H))\/(offM n m/\E (.ref qL) IS H))
def uf(F:Fun K "check_moment" "check_moment" wW f fd)(Z:Zs mg)(u:Cb P w mg base)  : yN P w K mg base (CX1 P w) 1 f fd ["moment","runs"] (xE K):=by
 erw[F.okX tz (λg H Q E h=>?_) (λp A outer s H g Q E hr h=>?_)]
 ·obtain⟨a,m,n,rfl,_⟩:=h;rfl
 obtain⟨a,m,n,rfl,l,q⟩:=h
 refine'⟨_,(zD (yO (PW.pt (gT ?_ (lS (xJ YM (pv 0) (yE (uN.or zk vb) rfl Z.len sh (zI (pv 1) zN)) (xj _))))) (zD (Xu (λ_=>E) u.e_NoMoment El (by decide) El ZR (zI (VJ (Ts (TN (pv 0) Tg))) zN))) zX)),?_⟩
 nofun
 exists _,U,_,_,U,U,_,rfl;have go:¬ (0<=m/\m<=n)->UP (Tl (Uv 0) UI) [O (.int m),O (.ref a)] H (λv r=>1<=sizeLine/\E (.ref qL) IS r):=λz=>by
  rcases q with ⟨h0,j,_⟩ | ⟨⟨_,i⟩,q⟩
  ·rwa[x4 ⟨h0,j⟩ z]
  ·rwa[_,rfl,.inl ⟨m,rfl,i⟩,λx _=>⟨by decide,q⟩]
 erw[ifD (λz=>?_) (λz=>?_)]
 ·erw[qr ?_];rwa[go (λy=>x4 y.1 (by lia))]
 exists _,U,_,rfl;rcases l with ⟨e,d,rfl⟩ | ⟨c,d,rfl⟩
 ·erw[.inl ⟨a,e,rfl,.inl d,_,_,rfl,rfl,_,rfl,?_⟩];erw[ifD (λy=>go (λy=>x4 y.2 (by lia))) (λy=>?_)];rcases q with ⟨_,_,q⟩ | ⟨⟨o,_⟩,_⟩
  ·rwa[q]
  ·rwa[x4 o (by lia)]
 ·erw[.inr ⟨a,c,rfl,d,_,_,rfl,rfl,_,rfl,?_⟩];erw[ifD (λy=>go (λy=>x4 y.2 (by lia))) (λy=>?_)];rcases q with ⟨_,_,q⟩ | ⟨⟨o,_⟩,_⟩
  ·rwa[q]
  ·rwa[x4 o (by lia)]
def xf(K:b9):Sp:=λd H Q _=>E3 λ(a:c5) (x y:Int)=>A4 (d=[.ref a]) (H a=O (.tup [.int x,.int y])) (wa (x,y)) (∀ c,Same H c->Q .non c)
def Tc{x y:Int}(h:wa (x,y)):iT [x,y] 100=true:=by
 obtain⟨_,h1,h2,h3,h4⟩:=h;simp only[iT,EN,Iw,Ia,AJ,decide_eq_true_eq];rwa[⟨h1,h2⟩,h3,h4]
def mI(F:Fun K "check_way" "check_way" tJ f fd)(Z:Zs mg)(n:Cb P w mg base)(d:Has P w K mg base "within" 1 ["numbers","most"] (qE K)):yN P w K mg base CX0 2 f fd ["direction"] (xf K):=by
 specialize md
 ·obtain⟨a,x,y,rfl,_⟩:=h;rfl
 obtain⟨a,x,y,rfl,l,g,q⟩:=h
 refine'⟨_,(zD (yO (PW.pt (gT (xJ (Zn hr.units0) (pv 0) ?_ (xj _)) (lS (sg (pZ (wL d (hr.mono (by decide)) rfl (zI (pv 0) (zI (fW n.LONGEST_WAY) zN)))))))) (zD vA) zX)),?_⟩
 nofun
 erw[_,rfl,sz2,λp j=>?_];have e:=zC j (.tup [.int 0,.int 0]);have c:=e _ _ l;exists a,p,[x,y],[0,0],U,U,SqT.of c,SqT.of zA,_,rfl;refine ifD (λz=>x4 (show(x,y)=(0,0) by simp at z; rw[z.1,z.2]) g.1) (λ_=>?_);refine⟨_,U,a,[x,y],100,U,c,(by show 2<=100; decide),λm i=>⟨_,rfl,?_⟩⟩;rw[Tc g];rwa[wX (q m (e.trans i))]
def qV(K:b9):Sp:=λa H Q _=>E10 λ(d m b r n:c5) (S:BS) (x y:g8) (p u:Int×Int)=>A6 (a=[.ref d,.str x,.str y]) (StA H d m b r n S) (zV S x=O p) (zV S y=O u) (p≠u) (Q .non H)
def qp(F:Fun K "check_apart" "check_apart" uK f fd)(Z:Zs mg)(D:Cb P w mg base)  : yN P w K mg base CX0 1 f fd ["state","left","right"] (qV K):=by
 specialize ph
 ·obtain⟨d,m,b,r,n,S,x,y,p,u,rfl,_⟩:=h;rfl
 obtain⟨d,m,b,r,n,S,x,y,p,u,rfl,st,ex,ey,ne,q⟩:=h;obtain⟨a,e,c⟩:=st.ma;obtain⟨C,l,i⟩:=c.get (k:=.inr x) (d:=ptD p) (by rw[um,ex]; rfl);obtain⟨B,j,g⟩:=c.get (k:=.inr y) (d:=ptD u) (by rw[um,ey]; rfl);obtain⟨v,rfl,h1⟩:=si i;obtain⟨o,rfl,h2⟩:=si g;exists _,(zD (yO (xJ (Zn hr.units0) (zO (yB hr) (zO (yB hr) (pv 0) zU (λ_ _=>rfl)) (pv 1) (λ_ _=>rfl)) (zO (yB hr) (zO (yB hr) (pv 0) zU (λ_ _=>rfl)) (pv 2) (λ_ _=>rfl)) (xj _)) (zD vA) zX))
 try dsimp only[L2.cxOf,L2.cxComp,L2.Cx.nox,cG,cE]
 refine⟨_,U,d,.ref m,U,.inl ⟨_,.inr "marks",st.at_,U,qH.symm⟩,_,U,m,_,U,.inl ⟨a,.inr x,e,U,l.symm⟩,_,U,d,.ref m,U,.inl ⟨_,.inr "marks",st.at_,U,qH.symm⟩,_,U,m,_,U,.inl ⟨a,.inr y,e,U,j.symm⟩,
  v,o,[p.1,p.2],[u.1,u.2],rfl,rfl,SqT.of h1,SqT.of h2,_,rfl,?_⟩
 exact ifD (λz=>x4 (show p=u by simp at z; rwa[Gk z.1 z.2]) ne) (λ_=>q)
def tX(_:b9):Sp:=dr λD=>E3 λn x y=>D=.mark n x y
def nR(F:Fun K "after_mark" "after_mark" vJ f fd)(Z:Zs mg)(CB:Cb P w mg base)(T:Has P w K mg base "changed" 1 ["state","kind","key","value"] (sQ K))(yAs:Has P w K mg base "check_room" 1 ["state","kind"] (uP K))(yAp:Has P w K mg base "check_place" 2 ["place"] (qU K))(X:Has P w K mg base "check_free" 1 ["state","kind","name"] (ze K))(Y:Has P w K mg base "check_name" 1 ["name"] (yu K)):yN P w K mg base CX0 3 f fd ["state","row"] (tX K):=by
 specialize tN
 ·obtain⟨d,v,S,D,rfl,_⟩:=h;rfl
 obtain⟨d,v,S,D,rfl,⟨n,x,y,rfl⟩,⟨m,b,r,t,st⟩,hv,⟨k1,L,k3,k4⟩,few,_,q⟩:=h;obtain⟨a,rfl,J⟩:=fu hv
 refine'⟨_,(zB (zS 2 tN.nd ?_)
   (zB (zS 3 tN.nd ?_)
   (zB (yA ?_)
   (zB (yA ?_)
   (zB (yA ?_)
   (zB (yA ?_)
   (zD (zM ?_)))))))),?_⟩
 nofun
 exists _,U,a,_,_,.str n,U,U,.inr (SqT.of J),rfl;erw[_,rfl,a,_,_,.int x,rfl,rfl,.inr (SqT.of J),rfl,_,rfl,a,_,_,.int y,rfl,rfl,.inr (SqT.of J),rfl,sz2,λp hp=>?_];have s1:=zC hp (.tup [.int x,.int y]);erw[_,rfl,n,rfl,k1,λH2 I=>?_];have u:=s1.trans I;have l:=st.to (.of u);obtain⟨i,M,C⟩:=l.ma;exists _,U,_,U,d,m, "marks",n,_,i,U,l.at_,qH,M,C.none (by rw[um,L]; rfl);erw[_,rfl,p,x,y,rfl,I _ _ zA,k3,λH3 B=>?_];have g:=u.trans B;have j:=st.to (.of g);have z:=Rd.same M B;erw[_,rfl,d,m, "marks",_,i,20,rfl,j.at_,qH,z,(by symm),by rw[C.length,jp]; lia,?_];erw[_,rfl,_,rfl,_,rfl,d,m, "marks",.inr n,.ref p,_,i,rfl,j.at_,qH,z,StA.stKlen,C.le (by rw[jp]; lia),λf c R G hf _ N ec=>?_];have o:=g.trans G;have e:=st.to (.of o);rw[Zj] at N;erw[q f R (.of o) (g.free hf) ⟨c,b,r,t,.inl N,⟨_,.inl ec,?_⟩,e.ba,e.ru,e.no⟩];show xY R _ (mkE (S.marks++[(n,x,y)]));rw[gC,<- sM (lX L)];exact(C.to (.of (B.trans G))).put (zv ((I.trans (B.trans G)) _ _ zA))
def tO(_:b9):Sp:=dr λD=>E2 λx y=>D=.sail x y
def mi(F:Fun K "after_sail" "after_sail" vG f fd)(Z:Zs mg)(CB:Cb P w mg base)(n:Has P w K mg base "changed" 1 ["state","kind","key","value"] (sQ K))(L:Has P w K mg base "check_room" 1 ["state","kind"] (uP K))(J:Has P w K mg base "check_run" 2 ["run"] (xc K)):yN P w K mg base CX0 3 f fd ["state","row"] (tO K):=by
 specialize zr
 ·obtain⟨d,v,S,D,rfl,_⟩:=h;rfl
 obtain⟨d,v,S,D,rfl,⟨x,y,rfl⟩,⟨m,b,r,t,st⟩,T,⟨R,k2⟩,few,_,q⟩:=h;obtain⟨a,rfl,C⟩:=ft T
 refine'⟨_,(zB (zS 2 zr.nd ?_)
   (zB (yA ?_)
   (zB (yA ?_)
   (zD (zM (wL n (hr.mono (by decide)) rfl (zI (pv 0) (zI zU (zI (yE vb rfl Z.len sh (zI (zO (yB hr) (pv 0) zU (λ_ _=>rfl)) zN)) (zI (pv 2) zN)))))))))),?_⟩
 nofun
 erw[_,rfl,a,_,_,.int x,rfl,rfl,.inr (SqT.of C),rfl,_,rfl,a,_,_,.int y,rfl,rfl,.inr (SqT.of C),rfl,sz2,λp X=>?_];have M:=zC X (.tup [.int x,.int y]);erw[_,rfl,p,x,y,rfl,zA,R,λH2 z=>?_];have j:=M.trans z;have g:=st.to (.of j);obtain⟨e,u,B⟩:=g.ru;have N:e.length=S.runs.length:=by rw[B.length,lU]
 erw[_,rfl,d,r, "runs",_,e,12,rfl,g.at_,ud,u,(by symm),by lia,?_];erw[_,rfl,_,rfl,d,.ref r,rfl,.inl ⟨_,.inr "runs",g.at_,rfl,ud.symm⟩,r,e,rfl,u,_,rfl,d,r, "runs",.inl (e.length:Int),.ref p,_,e,rfl,g.at_,ud,u,StA.stKlen,by lia,λf c I o Y _ G ec=>?_];have l:=j.trans o;have i:=st.to (.of l);rw[Yg] at G;erw[q f I (.of l) (j.free Y) ⟨m,b,c,t,.inl G,i.ma,i.ba,⟨_,.inl ec,?_⟩,i.no⟩];show xY I _ (rnE (S.runs++[(x,y)]));rw[WA,<- sM Xv,<- N];exact(B.to (.of o)).put (zv ((z.trans o) _ _ zA))
def tT(_:b9):Sp:=λc H Q _=>E4 λ(d:c5) (v:V) (S:BS) (D:Deed)=>A6 (c=[.ref d,v]) (eK H d S) (Rep H D.dt v) (S.notes.length<24) (gq S) (∀(d':c5)(a:Hp),Same H a->H d'=IS->eK a d' { S with notes:=S.notes++[(S.coming,D)],coming:=S.coming+1 }->Q (.ref d') a)
def og(F:Fun K "after_note" "after_note" vD f fd)(Z:Zs mg)(J:Cb P w mg base)(i:Has P w K mg base "changed" 1 ["state","kind","key","value"] (sQ K))(x:Has P w K mg base "check_room" 1 ["state","kind"] (uP K)):yN P w K mg base CX0 2 f fd ["state","row"] (tT K):=by
 specialize yo
 ·obtain⟨d,v,S,D,rfl,_⟩:=h;rfl
 obtain⟨d,v,S,D,rfl,⟨m,b,r,t,st⟩,y,I,z,q⟩:=h;obtain⟨e,o,n⟩:=st.no;have G:e.length=S.notes.length:=by rw[n.length,al]
 refine'⟨_,(zB (yA ?_)
   (zB (zS 2 yo.nd (wL i (hr.mono (by decide)) rfl (zI (pv 0) (zI zU (zI (zO (yB hr) (pv 0) zU (λ_ _=>rfl)) (zI (pv 1) zN))))))
   (zB (uU (yB hr) (pv 2) zU (tR fR (zO (yB hr) (pv 0) zU (λ_ _=>rfl)) xV) rfl)
   (zD (zM (pv 2)))))),?_⟩
 nofun
 erw[_,rfl,d,t, "notes",_,e,24,rfl,st.at_,vg,o,(by symm),by lia,?_];erw[_,rfl,_,rfl,d,.int S.coming,rfl,.inl ⟨_,.inr "coming",st.at_,rfl,nI.symm⟩,_,rfl,d,t, "notes",.inl S.coming,v,_,e,rfl,st.at_,vg,o,StA.stKlen,by lia,λf c C l p ne u B=>?_];have j:=st.to (.of l);rw[ij] at u;exists _,U,d,.int S.coming,U,.inl ⟨_,.inr "coming",j.at_,U,nI.symm⟩,_,_,U,U,_,U,f,_,U,mf.k (k:=.inr "coming") u (zK (f8 StA.stKlen (by decide))),_,rfl;rw[ck];have g:Same H (upd C f (.dK (stK m b r c (S.coming+1)))):=l.putNew p;have a:=st.to (.of g);erw[q f _ g p ⟨m,b,r,c,.inl zA,a.ma,a.ba,a.ru,⟨_,.inl (by rw[zF ne.symm]; rwa[B]),?_⟩⟩];rw[gG,<- sM (kO z)];exact(n.to (.of g)).put (y.to (.of g))
def uE(_:b9):Sp:=dr λD=>E6 λm n a b c d=>D=.bearing m n a b c d
def vt(F:Fun K "after_bearing" "after_bearing" wB f fd)(Z:Zs mg)(CB:Cb P w mg base)(yAu:Has P w K mg base "after_note" 2 ["state","row"] (tT K))(X:Has P w K mg base "turn" 1 ["one","other"] (vP K))(Y:Has P w K mg base "check_way" 2 ["direction"] (xf K))(yAz:Has P w K mg base "check_mark" 1 ["state","name"] (tQ K))(n:ae P w K mg base "check_moment" 1 ["moment","runs"] (xE K)):yN P w K mg base CX0 3 f fd ["state","row"] (uE K):=by
 specialize vf
 ·obtain⟨d,v,S,D,rfl,_⟩:=h;rfl
 obtain⟨d,v,S,D,rfl,⟨G,nm,j,i,x,o,rfl⟩,⟨m,b,r,t,st⟩,N,⟨k1,k2,k3,M,k5,k6,k7⟩,few,fr,q⟩:=h;obtain⟨a,p,u,rfl,l,T,R⟩:=tK N;obtain⟨C,I,kr⟩:=st.ru
 refine'⟨_,(zB (yA (tE (λ_=>E0) n kR (hr.mono (by decide)) rfl (zI ?_ (zI (zO (yB hr) (pv 0) zU (λ_ _=>rfl)) zN))))
   (zB (yA ?_)
   (zB (yA ?_)
   (zB (yA ?_)
   (zB (yO ?_ (zD vA) zX)
   (zD (zM ?_))))))),?_⟩
 nofun
 erw[_,rfl,a,_,_,.int G,rfl,rfl,.inr (SqT.of l),rfl,_,rfl,d,.ref r,rfl,.inl ⟨_,.inr "runs",st.at_,rfl,ud.symm⟩,r,G,S.runs.length,rfl,.inr ⟨C,I,by rw[kr.length,lU]⟩,.inl ⟨k1,k2,?_⟩];exists _,U,_,U,a,_,_,.str nm,U,U,.inr (SqT.of l),U,d,m,b,r,t,S,nm,U,st,k3;erw[_,rfl,a,_,_,.ref p,rfl,rfl,.inr (SqT.of l),rfl,p,j,i,rfl,T,M,λH2 B=>?_];have g:=B _ _ l;erw[_,rfl,a,_,_,.ref u,rfl,rfl,.inr (SqT.of g),rfl,u,x,o,rfl,B _ _ R,k5,λH3 L=>?_];have e:=L _ _ g;have c:=B.trans L;obtain⟨_,b1,b2,b3,b4⟩:=M;have n1:j.natAbs<=10^18:=by simp at b1 b2; lia
 have n2:i.natAbs<=10^18:=by simp at b3 b4; lia
 exists _,U,a,_,_,.ref p,U,U,.inr (SqT.of e),U,_,U,a,_,_,.ref u,U,U,.inr (SqT.of e),U,p,u,_,_,j,i,x,o,U,.inr (SqT.of (c _ _ T)),.inr (SqT.of (c _ _ R)),U,U,U,U,n1,n2,_,_,U,U,_,rfl;erw[ifD (λz=>x4 z (by lia)) (λ_=>?_)];erw[_,rfl,_,rfl,d,.ref a,S,.bearing G nm j i x o,rfl,⟨m,b,r,t,st.to (.of c)⟩,N.to (.of c),k7,fr,λd' H4 s4 J y=>q d' H4 (.of (c.trans s4)) (c.free J) y]
def vX(_:b9):Sp:=dr λD=>E3 λm l r=>D=.range m l r
def qb(F:Fun K "after_range" "after_range" uD f fd)(Z:Zs mg)(CB:Cb P w mg base)(I:Has P w K mg base "after_note" 2 ["state","row"] (tT K))(J:Has P w K mg base "check_apart" 1 ["state","left","right"] (qV K))(G:Has P w K mg base "check_mark" 1 ["state","name"] (tQ K))(i:ae P w K mg base "check_moment" 1 ["moment","runs"] (xE K)):yN P w K mg base CX0 3 f fd ["state","row"] (vX K):=by
 specialize qm
 ·obtain⟨d,v,S,D,rfl,_⟩:=h;rfl
 obtain⟨d,v,S,D,rfl,⟨n,g,e,rfl⟩,⟨m,b,r,t,st⟩,y,⟨X,T,x,u,R,N⟩,few,fr,q⟩:=h;obtain⟨a,rfl,Y⟩:=xy y;obtain⟨l,o,M⟩:=st.ru;obtain⟨p1,C⟩:=i3.mp x;obtain⟨p2,B⟩:=i3.mp u;have c:Sq K H a _:=.inr (SqT.of Y)
 refine'⟨_,(zB (yA (tE (λ_=>E0) i kR (hr.mono (by decide)) rfl (zI ?_ (zI (zO (yB hr) (pv 0) zU (λ_ _=>rfl)) zN))))
   (zB (yA ?_)
   (zB (yA ?_)
   (zB (yA ?_)
   (zD (zM ?_)))))),?_⟩
 nofun
 erw[_,rfl,a,_,_,.int n,rfl,rfl,c,rfl,_,rfl,d,.ref r,rfl,.inl ⟨_,.inr "runs",st.at_,rfl,ud.symm⟩,r,n,S.runs.length,rfl,.inr ⟨l,o,by rw[M.length,lU]⟩,.inl ⟨X,T,?_⟩];exists _,U,_,U,a,_,_,.str g,U,U,c,U,d,m,b,r,t,S,g,U,st,x;exists _,U,_,U,a,_,_,.str e,U,U,c,U,d,m,b,r,t,S,e,U,st,u;exists _,U,_,U,a,_,_,.str g,U,U,c,U,_,U,a,_,_,.str e,U,U,c,U,d,m,b,r,t,S,g,e,p1,p2,U,st,C,B,λz=>R (by rw[C,B,z]);erw[_,rfl,_,rfl,d,.ref a,S,.range n g e,rfl,⟨m,b,r,t,st⟩,y,N,fr,λd' H4 L p j=>q d' H4 (.of L) p j]
def uV(_:b9):Sp:=dr λD=>∃ k,D=.strike k
def sk(F:Fun K "after_strike" "after_strike" wS f fd)(Z:Zs mg)(I:Cb P w mg base)(p:Has P w K mg base "without" 1 ["state","kind","key"] (rn K)):yN P w K mg base CX0 2 f fd ["state","row"] (uV K):=by
 specialize rV
 ·obtain⟨d,v,S,D,rfl,_⟩:=h;rfl
 obtain⟨d,v,S,D,rfl,⟨k,rfl⟩,⟨m,b,r,t,st⟩,u,ok,few,C,q⟩:=h;obtain⟨a,rfl,y⟩:=oU u;obtain⟨i,j,kn⟩:=st.no;obtain⟨G,lk⟩:=ju (l:=S.notes) ok;obtain⟨v,n,_⟩:=kn.get lk
 refine'⟨_,(zB (zS 2 rV.nd ?_)
   (zB (yO (cR (jY (yB hr) (pv 2) (zO (yB hr) (pv 0) zU (λ_ _=>rfl))) (by with_unfolding_all rfl)) (zD vA) zX)
   (zD (zM ?_)))),?_⟩
 nofun
 exists _,U,a,_,_,.int k,U,U,.inr (SqT.of y),U,_,U,_,U,d,.ref t,U,.inl ⟨_,.inr "notes",st.at_,U,vg.symm⟩,t,_,U,.inl ⟨i,.inl k,j,U,U⟩,_,rfl;rw[n];erw[wX ?_];erw[_,rfl,_,rfl,d,t, "notes",.inl k,v,_,i,rfl,st.at_,vg,j,n,StA.stKlen,λf c B g x ne o z=>?_];have e:=st.to (.of g);rw[ij] at o;erw[q f B (.of g) x ⟨m,b,r,c,.inl o,e.ma,e.ba,e.ru,⟨_,.inl z,?_⟩⟩];have:=(kn.to (.of g)).drop (k:=.inl k);rw[fV] at this;rwa[this]
def WN:Deed->Prop
 | .mark .. | .sail .. | .bearing .. | .range .. | .strike ..=>True
 | _=>False
def lB(_:b9):Sp:=dr WN
def tabL:List (Key×Sp):=[(.inr "mark",tX []),(.inr "sail",tO []),(.inr "bearing",uE []),(.inr "range",vX []),(.inr "strike",uV [])]
def dI(F:Fun K "after" "after" ux f fd)(Z:Zs mg)(g:Cb P w mg base)(l:Has P w K mg base "after_mark" 3 ["state","row"] (tX K))(o:Has P w K mg base "after_sail" 3 ["state","row"] (tO K))(G:Has P w K mg base "after_bearing" 3 ["state","row"] (uE K))(B:Has P w K mg base "after_range" 3 ["state","row"] (vX K))(C:Has P w K mg base "after_strike" 2 ["state","row"] (uV K)):yN P w K mg base CX0 4 f fd ["state","row"] (lB K):=by
 specialize cw
 ·obtain⟨d,v,S,D,rfl,_⟩:=h;rfl
 obtain⟨d,v,S,D,rfl,kd,st,c,ok,few,j,q⟩:=h;have i:∀ r∈tabL,Sy P w K mg base 3 Xa r.1 r.2:=by
  intro r hr;simp only[tabL,j4,t7,or_false] at hr;rcases hr with rfl | rfl | rfl | rfl | rfl
  ·rwa["after_mark",_,_,_,by symm,g.t_mark,l,by decide]
  ·rwa["after_sail",_,_,_,by symm,g.t_sail,o,by decide]
  ·rwa["after_bearing",_,_,_,by symm,g.t_bearing,G,by decide]
  ·rwa["after_range",_,_,_,by symm,g.t_range,B,by decide]
  ·rwa["after_strike",_,_,_,by symm,g.t_strike,C,by decide]
 refine'⟨_,(zD (zM (Ud g.dAFTER g.gAFTER i (hr.mono (by decide)) ?_ (zI (pv 0) (zI (pv 1) zN))))),?_⟩
 nofun
 cases D with
 | mark n x y =>
  obtain⟨a,rfl,e⟩:=fu c;rwa[_,rfl,a,_,_,.str "mark",rfl,rfl,.inr (SqT.of e),rfl,.inr "mark",_,rfl,.head _,_,rfl,_,rfl,d,.ref a,S,_,rfl,⟨n,x,y,rfl⟩,st,c,ok,few,j,q]
 | sail x y =>
  obtain⟨a,rfl,e⟩:=ft c;rwa[_,rfl,a,_,_,.str "sail",rfl,rfl,.inr (SqT.of e),rfl,.inr "sail",_,rfl,.tail _ (.head _),_,rfl,_,rfl,d,.ref a,S,_,rfl,⟨x,y,rfl⟩,st,c,ok,few,j,q]
 | bearing m n x y z t =>
  obtain⟨a,p,u,rfl,e,_⟩:=tK c;rwa[_,rfl,a,_,_,.str "bearing",rfl,rfl,.inr (SqT.of e),rfl,.inr "bearing",_,rfl,.tail _ (.tail _ (.head _)),_,rfl,_,rfl,d,.ref a,S,_,rfl,⟨_,_,_,_,_,_,rfl⟩,st,c,ok,few,j,q]
 | range m n k =>
  obtain⟨a,rfl,e⟩:=xy c;rwa[_,rfl,a,_,_,.str "range",rfl,rfl,.inr (SqT.of e),rfl,.inr "range",_,rfl,.tail _ (.tail _ (.tail _ (.head _))),_,rfl,_,rfl,d,.ref a,S,_,rfl,⟨_,_,_,rfl⟩,st,c,ok,few,j,q]
 | strike k =>
  obtain⟨a,rfl,e⟩:=oU c;rwa[_,rfl,a,_,_,.str "strike",rfl,rfl,.inr (SqT.of e),rfl,.inr "strike",_,rfl,.tail _ (.tail _ (.tail _ (.tail _ (.head _)))),_,rfl,_,rfl,d,.ref a,S,_,rfl,⟨_,rfl⟩,st,c,ok,few,j,q]
 | move | unmark | bank | level | right=>rwa[kd.elim]
def uy(_:b9):Sp:=λg H Q _=>E4 λ(d:c5) (v:V) (S:BS) (D:Deed)=>A6 (g=[v,.ref d]) (Rep H D.dt v) (wk H d S) (rO S D) (∀ e∈S.marks,vw e.2) (∀(l:c5)(c:List c5)(a:Hp),Same H a->a l=O (.lst (c.map V.ref))->yI a c (vT S D)->Q (.ref l) a)
def kS(F:Fun K "sides_of" "sides_of" sF f fd)(Z:Zs mg)(CB:Cb P w mg base)(B:Has P w K mg base "range_side" 4 ["left","right"] (zg K))(C:Has P w K mg base "bearing_sides" 4 ["place","one","other"] (rC K)):yN P w K mg base CX0 5 f fd ["note","places"] (uy K):=by
 specialize kC
 ·obtain⟨d,v,S,D,rfl,_⟩:=h;rfl
 obtain⟨d,v,S,D,rfl,rep,⟨j,hd,M⟩,kn,N,q⟩:=h
 refine'⟨_,(zB (yO ?_ (zD (zM (wL C (hr.mono (by decide)) rfl (zI (zO (yB hr) (pv 1) ?_ (λ_ _=>rfl)) (zI ?_ (zI ?_ zN)))))) zX)
   (zD (zM (aZ (zI (wL B (hr.mono (by decide)) rfl (zI (zO (yB hr) (pv 1) ?_ (λ_ _=>rfl)) (zI (zO (yB hr) (pv 1) ?_ (λ_ _=>rfl)) zN))) zN))))),?_⟩
 nofun
 cases D with
 | bearing m n a b c e =>
  obtain⟨t,p1,p2,rfl,u,h1,h2⟩:=tK rep;obtain⟨_,_,hn,w1,w2⟩:=kn;obtain⟨pt,g⟩:=i3.mp hn;obtain⟨pa,X,T⟩:=M n pt g;obtain⟨n1,n2,n3,n4⟩:=xX N g;exists _,U,t,_,0,.str "bearing",U,U,.inr (SqT.of u),U,U,_,rfl;erw[qr ?_];have o:Sq K H t _:=.inr (SqT.of u);exists _,U,_,U,t,_,2,.str n,U,U,o,U,d,.ref pa,U,.inl ⟨j,.inr n,hd,U,X.symm⟩,_,U,t,_,3,.ref p1,U,U,o,U,_,U,t,_,4,.ref p2,U,U,o,rfl;obtain⟨I,w11,w12,w13,w14⟩:=w1;obtain⟨G,w21,w22,w23,w24⟩:=w2;refine⟨pa,p1,p2,pt.1,pt.2,a,b,c,e,U,SqT.of T,SqT.of h1,SqT.of h2,(by lia),(by lia),(by dsimp only at *; lia),(by dsimp only at *; lia),(by dsimp only at *; lia),(by dsimp only at *; lia),?_,?_,λl p q' H' J Y e2 e3=>?_⟩
  ·rcases C6 (a=0) with z | z
   ·rwa[.inr λx=>I (by rw[z,x])]
   ·rwa[.inl z]
  ·rcases C6 (c=0) with z | z
   ·rwa[.inr λx=>G (by rw[z,x])]
   ·rwa[.inl z]
  ·erw[q l [p,q'] H' J Y ?_];show yI H' ([p]++[q']) ([_]++[_]);rw[xH g];exact(yI.one e2).app (.one e3)
 | range m l r =>
  obtain⟨t,rfl,u⟩:=xy rep;obtain⟨_,_,hl,R,ne⟩:=kn;obtain⟨pt,g⟩:=i3.mp hl;obtain⟨y,i⟩:=i3.mp R;obtain⟨pa,X,T⟩:=M l pt g;obtain⟨pb,g3,g4⟩:=M r y i;obtain⟨n1,n2,n3,n4⟩:=xX N g;obtain⟨n5,n6,n7,n8⟩:=xX N i;exists _,U,t,_,0,.str "range",U,U,.inr (SqT.of u),U,U,_,rfl;erw[wX ?_];have o:Sq K H t _:=.inr (SqT.of u);exists _,U,_,U,t,_,2,.str l,U,U,o,U,d,.ref pa,U,.inl ⟨j,.inr l,hd,U,X.symm⟩,_,U,_,U,t,_,3,.str r,U,U,o,U,d,.ref pb,U,.inl ⟨j,.inr r,hd,U,g3.symm⟩;erw[pa,pb,pt.1,pt.2,y.1,y.2,rfl,.inr (SqT.of T),.inr (SqT.of g4),(by lia),(by lia),(by lia),(by lia),?_,λp H' J hp' Y=>⟨sz1,λL hL=>?_⟩]
  ·rcases C6 (pt.2-y.2=0) with z | z
   ·erw[.inr λx=>ne ?_];rw[g,i];rwa[congrArg O (Gk (by lia) (by lia))]
   ·rwa[.inl z]
  ·have sL:=zC hL (.lst [.ref p]);erw[q L [p] _ (J.trans sL) zA ?_];show yI _ [p] [_];rw[xH g,xH i];exact(yI.one Y).to (.of sL)
 | _=>rwa[kn.elim]
def lq(_:b9):Sp:=λa H Q _=>∃(n:Int),a=[.int n]/\∀ v:Int,0<=v->v<1000003->Q (.int v) H
def dL(F:Fun K "_law_power" "_law_power" wc f fd)(Z:Zs mg):yN P w K mg base CX0 1 f fd ["_law_number"] (lq K):=by
 specialize dy
 ·obtain⟨n,rfl,_⟩:=h;rfl
 obtain⟨n,rfl,q⟩:=h
 refine'⟨_,(zD (zM ?_)),?_⟩
 nofun
 have h1:=Ak n (show(1000003:Int)≠0 by decide);have h2:=r9 n (show(0:Int)<1000003 by decide);exists _,U,_,_,U,U,(by show(0:Int)<1000003; decide),_,_,rfl,rfl,⟨by decide,by decide,by lia⟩,_,_,rfl,rfl,(by show(0:Int)<1000003; decide);rwa[q _ (Ak _ (by decide)) (r9 _ (by decide))]
def lQ(K:b9):Sp:=λe H Q _=>E3 λ(a:c5) (ns:List Int) (c:Int)=>A6 (e=[.ref a,.int c]) (SqL K H a (ns.map V.int)) (ns.length<=63) (0<=c) (c<=500) (∀(r:c5)(rows:List Int)(d:Hp),Same H d->H r=IS->d r=O (.lst (rows.map V.int))->c<=rows.length->rows.length<=600->(∀ x∈rows,0<=x/\x<1000003)->Q (.ref r) d)
structure mn(H:Hp)(r c:c5)(ms:List Int)(H':Hp)(rows:List Int):Prop where
 same:Same H H'
 src:H' c=O (.lst (ms.map V.int))
 at':H' r=O (.lst (rows.map V.int))
 bd:∀ x∈rows,0<=x/\x<1000003
def mn.app{H h:Hp}{v:Int}(d:mn H r c g h rows)(j:H r=IS)(a:c≠r)(h0:0<=v)(h1:v<1000003):mn H r c g (upd h r (.lst (rows.map V.int++[.int v]))) (rows++[v]):=by
 erw[λb o e=>?_,?_,?_,λx i=>?_]
 ·rw[zF (zH e j)];rwa[d.same b o e]
 ·rw[zF a];rwa[d.src]
 ·rw[zA,e7];rfl
 ·rcases i7.mp i with e | e
  ·rwa[d.bd x e]
  ·rw[e8] at e;rw[e];rwa[h0,h1]
def cutR{ok:Int->Hp->Prop}{G:Prop}{R:Int->Hp->Prop}(h1:(∀ m H,ok m H->R m H)->G)(h2:∀ m H,ok m H->R m H):G:=h1 h2
def eZ(F:Fun K "_law_draws" "_law_draws" vn f fd)(Z:Zs mg)(CB:Cb P w mg base)(yCl:Has P w K mg base "_law_power" 1 ["_law_number"] (lq K)):yN P w K mg base CX0 2 f fd ["_law_script","_law_many"] (lQ K):=by
 specialize wG
 ·obtain⟨a,ns,g,rfl,_⟩:=h;rfl
 obtain⟨a,ns,g,rfl,hS,hl,hm0,hm1,q⟩:=h
 refine'⟨_,(zB (zS 2 wG.nd ?_)
   (zB (zS 3 wG.nd xV)
   (zB (xM l9 rfl (ff ?_) (xR 4 wG.nd) (zB (zS 3 wG.nd ?_)
   (zB (zS 5 wG.nd ?_)
   (zB (yO ?_ (zB (yA (ug (pv 2) ?_))
   (zD (zS 5 wG.nd xV))) zX)
   (zD (pH l9 ?_ (zB (yA (ug (pv 2) ?_))
   (zD (zS 5 wG.nd ?_)))))))))
   (zB (pH l9 ?_ (zB (zS 3 wG.nd ?_)
   (zD (yA (ug (pv 2) ?_)))))
   (zD (zM (pv 2))))))),?_⟩
 nofun
 refine⟨sz0,λr p=>?_⟩;have S1:=zC p (.lst []);refine⟨_,U,_,U,a,_,U,S1.seq hS,λc Y=>⟨c,U,⟨_,SqL.of zA⟩,?_⟩⟩;rw[yx];generalize hms:((ns.drop (HT.sIx ns.length 0 IS)).take (HT.sIx ns.length ns.length (O 63)-HT.sIx ns.length 0 IS))=R;have hml:R.length<=63:=by
  rw[<- hms,j3,Ad];lia
 have B:c≠r:=λe=>by
  rw[e,zA] at Y;cases Y
 have hc0:H c=none:=S1.free Y;refine wH (K:=K) (a:=c) (xs:=R.map V.int) (λi o G=>E4 λ(rows:List Int) (j:Int) (u v:Option V)=>A5 (o=[O (.ref a),O (.int g),O (.ref r),O (.int j),u,v]) (mn H r c R G rows) (0<=j) (j<2147483647) (rows.length<=g.toNat+i))
  ⟨[],7,IS,IS,rfl,⟨S1.trans (zC Y _),zA,by rw[zF (AW B),zA]; rfl,λx hx=>nomatch hx⟩,by decide,by decide,Aa _⟩ (λi o G _ hq'=>by obtain⟨_,_,_,_,_,d,_⟩:=hq'; rwa[SqL.of d.src]) ?_ ?_
 ·rintro i x o G hi ⟨rows,j,u,v,rfl,d,J,I,L⟩;obtain⟨n,hn,rfl⟩:=uC hi;have hi63:i<63:=m7 (c7.mp hn).1 hml;exists _,U,_,_,U,U,.inr ⟨by decide,by decide⟩,_,U,_,_,U,U,_,_,U,U,(by show(0:Int)<2147483647; decide);have X:=Ak (j*48271+n) (show(2147483647:Int)≠0 by decide);have T:=r9 (j*48271+n) (show(0:Int)<2147483647 by decide);exists _,U,n,rfl;have a0:0<=(if n<0 then -n else n):=by split <;> lia
  generalize (if n<0 then -n else n)=rest at a0 ⊢;revert G rest;apply cutR (ok:=λrest C=>0<=rest/\∃ rows,mn H r c R C rows/\rows.length<=g.toNat+(i+1))
  ·intro D G d rest a0;exists _,U,_,_,U,U,⟨by decide,by decide,by decide⟩,_,_,U,U,_,rfl;erw[ifD (λhsm=>?_) (λhsm=>?_)];rotate_left
   ·rwa[D rest G ⟨a0,rows,d,by lia⟩]
   ·erw[_,rfl,.inl ⟨rfl,_,SqL.of d.at'⟩,_,rfl,_,rfl,r,_,rfl,.inl (SqL.of d.at'),_,_,rfl,rfl,.inl ⟨by decide,by decide⟩,_,_,rfl,rfl,_,rfl,λv N M=>?_];exists r,_,_,U,U,d.at',zK (by rw[ac]; lia);rwa[D 0 _ ⟨FO 0,_,d.app p B N M,by rw[f7,Ca]; lia⟩]
  clear L rows;rintro rest G ⟨j0,rows,j1,j2⟩;refine uu (λo C=>E2 λ(rows:List Int) (rest:Int)=>A4 (o=[O (.ref a),O (.int g),O (.ref r),O (.int ((j*48271+n)%2147483647)),O (.int n),O (.int rest)]) (0<=rest) (mn H r c R C rows) (rows.length<=g.toNat+(i+1)))
   (λo _=>match o with | [_,_,_,_,_,O (.int z)]=>z.toNat | _=>0) ⟨_,_,rfl,j0,j1,j2⟩ ?_ (UZ (hJ (VN WF jZ mo_c)) (hJ (VN WF (Sz Xe (cT jZ XH)) jZ)))
  rintro o C ⟨rows,rest,rfl,r0,m,l2⟩;exists _,U,_,_,U,U,_,rfl;erw[ifD (λS=>?_) (λS=>?_)]
  ·exists _,U,r,_,U,.inl (SqL.of m.at'),_,U,_,_,U,U,_,rfl;erw[ifD (λy=>?_) (λy=>?_)]
   ·have l:((rows.map V.int).length:Int)<g:=y;rw[ac] at l;exists _,U,.inl ⟨U,_,SqL.of m.at'⟩,_,U,_,_,U,U,(by show(0:Int)<1000003; decide),r,_,_,rfl,rfl,m.at',zK (by rw[ac]; lia);have N:=Ak rest (show(1000003:Int)≠0 by decide);have M:=r9 rest (show(0:Int)<1000003 by decide);exists _,U,_,_,U,U,zm.of (by decide) (by ac_nf),⟨rows++[rest%1000003],_,U,by lia,m.app p B N M,by rw[f7,Ca]; lia⟩;show(rest/1000003).toNat<rest.toNat;lia
   ·rwa[rows,_,_,_,rfl,m,X,T,l2]
  ·rwa[rows,_,_,_,rfl,m,X,T,l2]
 ·rintro o G ⟨rows,j,u,v,rfl,d,J,I,L⟩;rw[ac] at L;refine uu (λo C=>E2 λ(rows:List Int) (j:Int)=>A6 (o=[O (.ref a),O (.int g),O (.ref r),O (.int j),u,v]) (mn H r c R C rows) (0<=j) (j<2147483647) (rows.length<=g.toNat+63) (C r=O (.lst (rows.map V.int))))
   (λo C=>match C r with | some (.lst xs)=>g.toNat-xs.length | _=>0) ⟨rows,j,rfl,d,J,I,by lia,d.at'⟩ ?_ (hJ (VN WF (Sz Xe (cT jZ XH)) jZ))
  rintro o C ⟨rows,j,rfl,m,J,I,l2,ha2⟩;exists _,U,r,_,U,.inl (SqL.of m.at'),_,U,_,_,U,U,_,rfl;erw[ifD (λy=>?_) (λy=>?_)]
  ·have l:((rows.map V.int).length:Int)<g:=y;rw[ac] at l;exists _,U,_,_,U,U,.inr ⟨by decide,by decide⟩,_,_,U,U,_,_,U,U,(by show(0:Int)<2147483647; decide);have X:=Ak (j*48271+11) (show(2147483647:Int)≠0 by decide);have T:=r9 (j*48271+11) (show(0:Int)<2147483647 by decide);erw[_,rfl,.inl ⟨rfl,_,SqL.of m.at'⟩,_,rfl,_,rfl,λv N M=>?_];exists r,_,_,U,U,m.at',zK (by rw[ac]; lia),⟨rows++[v],_,rfl,m.app p B N M,X,T,by rw[f7,Ca]; lia,(m.app p B N M).at'⟩;rw[ha2,zA];show g.toNat-(rows.map V.int++[V.int v]).length<g.toNat-(rows.map V.int).length;rw[f7,ac,Ca];lia
  ·have l:¬ ((rows.map V.int).length:Int)<g:=y;rw[ac] at l;rwa[_,rfl,q r rows C m.same p m.at' (by lia) (by lia) m.bd]
def jr(_:b9):Sp:=λc H Q _=>c=[]/\∀(d m b r n:c5)(a:Hp),Same H a->H d=IS->H m=IS->H r=IS->a d=O (.dK (lwK m b r n 1))->a m=O (.dK [])->a b=O (.dK [])->a r=O (.lst [])->a n=O (.dK [])->b≠m->n≠m->Q (.ref d) a
def ZS(F:Fun K "_law_new" "_law_new" lW f fd)(Z:Zs mg)(J:Cb P w mg base)  : yN P w K mg base CX0 1 f fd [] (jr K):=by
 specialize Yx
 ·obtain⟨rfl,_⟩:=h;rfl
 obtain⟨rfl,q⟩:=h
 refine'⟨_,zD ?h,?_⟩
 rotate_left
 with_reducible refine' zM ?_
 rotate_left
 with_reducible exact iZ (wI zU rA (wI zU rA (wI zU (aZ zN) (wI zU rA (wI zU xV fo))))) rfl rfl (λz=>nomatch z) (by decide)
 try dsimp only[L2.cxOf]
 intro p u m y b j;erw[sz0,λr hr n v=>?_];have l:=zC u (.dK []);have g:=zC y (.dK []);have a:=zC j (.dK []);have d:=zC hr (.lst []);have i:=zC v (.dK []);have em:=(a.trans (d.trans i)) _ _ zA;have I:=(d.trans i) _ _ zA;have D:=i _ _ zA;have G:=(g.trans (a.trans (d.trans i))) _ _ zA;exists G,[(.inr "marks",.ref m),(.inr "banks",.ref b),(.inr "runs",.ref r),(.inr "notes",.ref n),(.inr "next",.int 1)],U,(show 5<=15 by decide);rw[ZE];have ne:∀{x:c5},(upd H p (.dK [])) x=IS->x≠p:=λ{x} h z=>by rw[z,zA] at h; cases h
 have nb:=ne (g.free j);have B:=ne (g.free (a.free hr));have C:=ne (g.free (a.free (d.free v)));refine q p m b r n _ (λc o e=>?_) u (l.free y) (l.free (g.free (a.free hr))) zA ?_ ?_ ?_ ?_ (λz=>by rw[z,zA] at j; cases j) (λz=>by have:=a.free (d.free v); rw[z,zA] at this; cases this)
 ·rw[zF (zH e u)];exact(l.trans (g.trans (a.trans (d.trans i)))) c o e
 ·rw[zF (ne y)]; rwa[em]
 ·rw[zF nb]; rwa[I]
 ·rw[zF B]; rwa[D]
 ·rw[zF C]; rwa[zA]
def ou(_:b9):Sp:=λc H Q _=>E4 λ(d:c5) (S:BS) (i j:Nat)=>A6 (c=[.ref d,.int i,.int j]) (Ze H d S) (i<=S.runs.length) (j<=S.runs.length) (S.runs.length<=60) (∀(t:c5)(a:Hp),Same H a->H t=IS->a t=O (.tup [.int (uA S.runs i j).1,.int (uA S.runs i j).2])->Q (.ref t) a)
def bp(F:Fun K "_law_lead" "_law_lead" pB f fd)(Z:Zs mg)(CB:Cb P w mg base)  : yN P w K mg base CX0 1 f fd ["_law_m","_law_one","_law_other"] (ou K):=by
 specialize oy
 ·obtain⟨d,S,i,j,rfl,_⟩:=h;rfl
 obtain⟨d,S,l,g,rfl,⟨m,b,r,n,lw⟩,hi,hj,few,k⟩:=h;obtain⟨L,hr1,rep⟩:=lw.ru;have lrs:L.length=S.runs.length:=by rw[rep.length,ac]
 refine'⟨_,(zB (zS 3 oy.nd (tI Zy (zO (yB hr) (pv 0) zU (λ_ _=>rfl)) (rE ?_) (rE ?_)))
   (zB (zS 4 oy.nd ?_)
   (zD (zM (io (zI (tR jV (pv 4) (yE (zn rfl) rfl Z.sum iU (zI (yU (T:=["_law_x","_law_y"]) (caps:=[]) ⟨rfl,by ac_nf,by ac_nf,rfl,o0⟩ rfl (xD (pv 3)) (λ_=>(uS rfl (zT (xR 0 (show(["_law_x","_law_y"]:List g8).Nodup by ac_nf)) (zT (xR 1 (show(["_law_x","_law_y"]:List g8).Nodup by ac_nf)) xT)))) (λ_=>yJ) (λ_=>(pv 0))) zN))) (zI (tR jV (pv 4) (yE (zn rfl) rfl Z.sum iU (zI (yU (T:=["_law_x","_law_y"]) (caps:=[]) ⟨rfl,by ac_nf,by ac_nf,rfl,o0⟩ rfl (xD (pv 3)) (λ_=>(uS rfl (zT (xR 0 (show(["_law_x","_law_y"]:List g8).Nodup by ac_nf)) (zT (xR 1 (show(["_law_x","_law_y"]:List g8).Nodup by ac_nf)) xT)))) (λ_=>yJ) (λ_=>(pv 1))) zN))) zN))))))),?_⟩
 nofun
 erw[_,rfl,d,.ref r,rfl,.inl ⟨_,.inr "runs",lw.at_,rfl,ub.symm⟩,_,rfl,_,rfl,_,_,rfl,_,rfl,_,rfl,_,rfl,_,_,rfl,_,rfl,r,L,rfl,SqL.of hr1,λq hq=>?_];have e1:(if (g:Int)<l then(g:Int) else l)=((min l g:Nat):Int):=by split <;> lia
 have e2:(if (g:Int)>l then(g:Int) else l)=((max l g:Nat):Int):=by split <;> lia
 have ec:vi L (O (if (g:Int)<l then(g:Int) else l)) (O (if (g:Int)>l then(g:Int) else l))=(L.drop (min l g)).take (max l g-min l g):=by
  rw[e1,e2,eF (by lia) (by lia)]
 generalize hcs:vi L (O (if (g:Int)<l then(g:Int) else l)) (O (if (g:Int)>l then(g:Int) else l))=G at hq;have sq:=zC hq (.lst G);have rc:xS (upd H q (.lst G)) ((qY S.runs l g).map ptD) G:=by
  have ecs:G=(L.drop (min l g)).take (max l g-min l g):=hcs.symm.trans ec;have:=((rep.drop (min l g)).take (max l g-min l g)).to (.of sq);rw[<- ecs,<- CJ,<- Dg] at this;rwa[this]
 have ls:=wm S.runs l g;have N:(1:Int)-2*(if decide ((g:Int)<l) then 1 else 0)=tW l g:=by
  unfold tW;by_cases c:g<l
  ·rw[y7 c,y7 (y8 (by lia))]; rfl
  ·rw[y6 c,y6 (by simp; lia)]; rfl
 refine⟨_,U,_,U,_,_,U,U,.inr ⟨_,U,_,_,U,U,vK (by decide),_,_,U,U,?_⟩⟩;show aD 4 (V.int (1-2*if decide ((g:Int)<l)=IT then 1 else 0)) _ _ _;rw[N];have cmh:∀ y:Int,Us (tW l g) y:=λy=>vK (by unfold tW; split <;> decide);refine⟨_,U,_,U,q,U,.inl ⟨⟨_,SqL.of zA⟩,λc D R=>?_⟩⟩;refine yL (K:=K) (a:=q) (xs:=G) (λi B z I=>A4 (Same (upd H q (.lst G)) I) (I D=O (.lst z)) (z=(((qY S.runs l g).take i).map (·.1)).map V.int) (E2 λ(u v:Option V)=>B=[u,v]))
  ⟨zC R _,zA,rfl,IS,IS,rfl⟩ (λi B z I _ J=>by obtain⟨C,e,_⟩:=J; rwa[SqL.of (C _ _ zA),e]) ?_ ?_
 ·rintro i x B z I hi ⟨C,eD,rfl,u,v,rfl⟩;obtain⟨p,a,X,rfl,ea⟩:=jx rc hi;have hil:=(c7.mp X).1;erw[a,_,rfl,SqT.of (C _ _ ea),rfl,.int p.1,_,rfl,.int p.2,_,rfl,rfl,_,rfl,eD,zK (by rw[ac,ac,j3]; lia),C.putNew R,zA,?_,_,_,rfl];rw[o6,X,e7,e7];rfl
 rintro B z H2 ⟨s2,eD,rfl,u,v,rfl⟩;exists D,_,U,SqL.of eD,_,_,U,U,cmh _;have Y:=s2 _ _ (zA (H:=H) (a:=q) (o:=.lst G));have rc2:=rc.to (.of s2);refine⟨_,U,_,U,q,U,.inl ⟨⟨_,SqL.of Y⟩,λc D R=>?_⟩⟩;refine yL (K:=K) (a:=q) (xs:=G) (λi B z I=>A4 (Same H2 I) (I D=O (.lst z)) (z=(((qY S.runs l g).take i).map (·.2)).map V.int) (E2 λ(u v:Option V)=>B=[u,v]))
  ⟨zC R _,zA,rfl,IS,IS,rfl⟩ (λi B z I _ J=>by obtain⟨C,e,_⟩:=J; rwa[SqL.of (C _ _ Y),e]) ?_ ?_
 ·rintro i x B z I hi ⟨C,eD,rfl,u,v,rfl⟩;obtain⟨p,a,X,rfl,ea⟩:=jx rc2 hi;have hil:=(c7.mp X).1;erw[a,_,rfl,SqT.of (C _ _ ea),rfl,.int p.1,_,rfl,.int p.2,_,rfl,rfl,_,rfl,eD,zK (by rw[ac,ac,j3]; lia),C.putNew R,zA,?_,_,_,rfl];rw[o6,X,e7,e7];rfl
 rintro B z H3 ⟨s3,eD3,rfl,u,v,rfl⟩;erw[D,_,rfl,SqL.of eD3,_,_,rfl,rfl,cmh _,sz2,λt ht=>?_];have M:=s2.trans s3;erw[k t _ ((sq.trans M).trans (zC ht _)) (sq.free (M.free ht)) ?_];rw[zA,show G.length=(qY S.runs l g).length by rw[rc.length,ac],j5];rfl
def fH(_:b9):Sp:=λd H Q _=>E3 λ(o t a:Int)=>A4 (d=[.int o,.int t,.int a]) (1<=a) (a<=1000000) (∀(p:c5)(x y:Int)(c:Hp),Same H c->H p=IS->c p=O (.tup [.int x,.int y])->(x≠0\/y≠0)->x.natAbs<=a.natAbs->y.natAbs<=a.natAbs->Q (.ref p) c)
def YN(F:Fun K "_law_way" "_law_way" ka f fd)(Z:Zs mg)(n:Cb P w mg base)  : yN P w K mg base CX0 1 f fd ["_law_one","_law_two","_law_wide"] (fH K):=by
 specialize pR
 ·obtain⟨o,t,c,rfl,_⟩:=h;rfl
 obtain⟨o,t,c,rfl,w1,m,q⟩:=h
 refine'⟨_,(zB (zS 3 pR.nd ?_)
   (zB (zS 4 pR.nd ?_)
   (zB (yO ?_ (zD (zS 3 pR.nd ?_)) zX)
   (zD (zM ?_))))),?_⟩
 nofun
 have l:=Ak o (show 2*c+1≠0 by lia);have j:=r9 o (show 0<2*c+1 by lia);have i:=Ak t (show 2*c+1≠0 by lia);have g:=r9 t (show 0<2*c+1 by lia);exists _,U,_,U,_,_,U,U,.inl ⟨by decide,by decide⟩,_,_,U,U,_,_,U,U,(by show 0<2*c+1; lia),_,rfl,_,_,rfl,rfl;exists _,U,_,U,_,_,U,U,.inl ⟨by decide,by decide⟩,_,_,U,U,_,_,U,U,(by show 0<2*c+1; lia),_,rfl,_,_,rfl,rfl;exists _,U,U,_,rfl;erw[ifE (λe=>?_) (λe=>?_)]
 ·exists _,U,U,_,rfl;erw[ifE (λd=>?_) (λd=>?_)]
  ·exists _,U,_,_,U,U,gt2,_,_,U,U,.inl ⟨by decide,by decide⟩,_,_,U,rfl;erw[_,rfl,_,rfl,sz2,λp a=>?_];rwa[q p _ _ _ (zC a _) a zA (by left; lia) (by lia) (by lia)]
  ·erw[_,rfl,_,rfl,sz2,λp a=>?_];rwa[q p _ _ _ (zC a _) a zA (.inr d) (by lia) (by lia)]
 ·erw[wX ?_];erw[_,rfl,_,rfl,sz2,λp a=>?_];rwa[q p _ _ _ (zC a _) a zA (.inl e) (by lia) (by lia)]
def oM(K:b9):Sp:=λj H Q _=>E8 λ(a b:c5) (g e:List V) (d c i h:Int)=>A10 (j=[.ref a,.ref b]) (Sq K H a g) (Sq K H b e) (atI g 0=O (.int d)) (atI g 1=O (.int c)) (atI e 0=O (.int i)) (atI e 1=O (.int h)) (d.natAbs<=10^18) (c.natAbs<=10^18) (Q (.int (d*h-c*i)) H)
def gJ(F:Fun K "_law_turned" "_law_turned" yf f fd)(Z:Zs mg)(v:Cb P w mg base)  : yN P w K mg base CX0 1 f fd ["_law_one","_law_other"] (oM K):=by
 specialize gN
 ·obtain⟨a,b,n,l,g,d,e,c,rfl,_⟩:=h;rfl
 obtain⟨a,b,n,l,g,d,e,c,rfl,j,i,p,o,m,w1,u,r,q⟩:=h
 refine'⟨_,(zD (zM ?_)),?_⟩
 nofun
 exact⟨_,U,a,_,_,.int g,U,U,j,p,_,U,b,_,_,.int c,U,U,i,w1,_,_,U,U,vK (by lia),
  _,rfl,a,_,_,.int d,rfl,rfl,j,o,_,rfl,b,_,_,.int e,rfl,rfl,i,m,_,_,rfl,rfl,vK (by lia),_,_,rfl,rfl,q⟩
def xg(K:b9):Sp:=λj H Q _=>E3 λ(a:c5) (rows:List Int) (d:Int)=>A7 (j=[.ref a,.int d]) (SqL K H a (rows.map V.int)) (5<=rows.length) (∀ x∈rows,0<=x/\x<1000003) (1<=d) (d<=100) (∀(t p r:c5)(i h g e:Int)(c:Hp),Same H c->c t=O (.tup [.ref p,.ref r])->c p=O (.tup [.int i,.int h])->c r=O (.tup [.int g,.int e])->0<i*e-h*g->i.natAbs<=100->h.natAbs<=100->g.natAbs<=100->e.natAbs<=100->Q (.ref t) c)
def mG(F:Fun K "_law_left_pair" "_law_left_pair" vZ f fd)(Z:Zs mg)(CB:Cb P w mg base)(yBv:Has P w K mg base "_law_turned" 1 ["_law_one","_law_other"] (oM K))(yCt:Has P w K mg base "_law_way" 1 ["_law_one","_law_two","_law_wide"] (fH K)):yN P w K mg base CX0 2 f fd ["_law_d","_law_wide"] (xg K):=by
 specialize xQ
 ·obtain⟨a,rows,L,rfl,_⟩:=h;rfl
 obtain⟨a,rows,L,rfl,B,S,bd,w1,M,q⟩:=h
 refine'⟨_,(zB (zS 2 xQ.nd ?_)
   (zB (zS 3 xQ.nd ?_)
   (zB (yO ?_ (zD (zS 3 xQ.nd ?_)) zX)
   (zB (yO ?_ (zD (li (i:=2) (j:=3) rfl xQ.nd rfl rfl (by decide) rfl rfl (zI (pv 3) (zI (pv 2) zN)) rfl)) zX)
   (zB (yO ?_ (zD (zS 3 xQ.nd ?_)) zX)
   (zD (zM ?_))))))),?_⟩
 nofun
 obtain⟨v0,a0,_⟩:=wO bd (k:=0) (by decide) (by lia);obtain⟨v1,a1,_⟩:=wO bd (k:=1) (by decide) (by lia);obtain⟨v2,a2,_⟩:=wO bd (k:=2) (by decide) (by lia);obtain⟨v3,a3,_⟩:=wO bd (k:=3) (by decide) (by lia);obtain⟨v4,a4,_⟩:=wO bd (k:=4) (by decide) (by lia);erw[_,rfl,a,_,_,_,rfl,rfl,.inl B,a0,_,rfl,a,_,_,_,rfl,rfl,.inl B,a1,_,rfl,v0,v1,L,rfl,w1,by lia,λp1 g e H2 R hp1 e1' n1 m1 m2=>?_];have m:g.natAbs<=100:=by lia
 have l:e.natAbs<=100:=by lia
 clear m1 m2;apply cut4 (ok:=λc X Y G=>A5 (Same H G) (G p1=O (.tup [.int g,.int e])) (G c=O (.tup [.int X,.int Y])) (X.natAbs<=100) (Y.natAbs<=100))
 ·intro o;erw[_,rfl,a,_,_,_,rfl,rfl,.inl (R.seq B),a2,_,rfl,a,_,_,_,rfl,rfl,.inl (R.seq B),a3,_,rfl,v2,v3,L,rfl,w1,by lia,λp2 x2 y2 H3 s3 hp2 e3 n2 m3 m4=>?_];have p:=R.trans s3;have n:=s3 _ _ e1';exists _,U,a,_,_,_,U,U,.inl (p.seq B),a4,_,_,U,U,gt4,U,_,rfl;erw[ifE (λ_=>?_) (λ_=>?_)];rotate_left
  ·rwa[o p2 x2 y2 H3 ⟨p,n,e3,by lia,by lia⟩]
  ·erw[_,rfl,p1,_,_,.int e,rfl,rfl,.inr (SqT.of n),rfl,_,rfl,_,rfl,p1,_,_,.int g,rfl,rfl,.inr (SqT.of n),rfl,sz2,λd hd=>?_];have v:=zC hd (.tup [.int (-e),.int g]);rwa[o d (-e) g _ ⟨p.trans v,v _ _ n,zA,by rw[FI]; exact l,m⟩]
 rintro c X Y G ⟨N,J,e2,u,r⟩;have C:Sq K G p1 [.int g,.int e]:=.inr (SqT.of J);have T:Sq K G c [.int X,.int Y]:=.inr (SqT.of e2);have I:g.natAbs<=10^18:=f8 m (by decide);have D:e.natAbs<=10^18:=f8 l (by decide);exists _,U,_,U,p1,c,_,_,g,e,X,Y,U,C,T,U,U,U,U,I,D,_,_,U,U,_,rfl;have eT:X*e-Y*g = -(g*Y-e*X):=by rw[l7 X e,l7 Y g]; lia
 erw[ifD (λy=>?_) (λy=>?_)]
 ·exists _,U,_,U,_,_,rfl;exists _,U,_,U,c,p1,_,_,X,Y,g,e,U,T,C,U,U,U,U,f8 u (by decide),f8 r (by decide),U,_,rfl;erw[ifE (λz=>x4 z (by clear m l u r I D w1 M S; lia)) (λ_=>?_)];erw[_,rfl,_,rfl,sz2,λt x=>?_];have st:=zC x (.tup [.ref c,.ref p1]);rwa[q t c p1 X Y g e _ ((N).trans st) zA (st _ _ e2) (st _ _ J) (by clear m l u r I D w1 M S; lia) u r m l]
 ·exists _,U,_,U,p1,c,_,_,g,e,X,Y,U,C,T,U,U,U,U,I,D,U,_,rfl;erw[ifE (λhz=>?_) (λhz=>?_)]
  ·erw[_,rfl,p1,_,_,.int e,rfl,rfl,C,rfl,_,rfl,_,rfl,p1,_,_,.int g,rfl,rfl,C,rfl,sz2,λd hd=>?_];have v:=zC hd (.tup [.int (-e),.int g]);erw[_,rfl,_,rfl,sz2,λt x=>?_];have st:=zC x (.tup [.ref p1,.ref d]);have sp:=Wx n1;rwa[q t p1 d g e (-e) g _ (N.trans (v.trans st)) zA (st _ _ (v _ _ J)) (st _ _ zA) (by rw[BU]; lia) m l (by rw[FI]; exact l) m]
  ·erw[_,rfl,_,rfl,sz2,λt x=>?_];have st:=zC x (.tup [.ref p1,.ref c]);rwa[q t p1 c g e X Y _ (N.trans st) zA (st _ _ J) (st _ _ e2) (by clear m l u r I D w1 M S; lia) m l u r]
def rH(_:b9):Sp:=λi H Q _=>E9 λ(a d:c5) (rows:List Int) (S:BS) (g:Nat) (n:g8) (x y:Int) (pt:Int×Int)=>A12 (i=[.ref a,.ref d,.int g,.str n,.int x,.int y]) (H a=O (.lst (rows.map V.int))) (8<=rows.length) (∀ v∈rows,0<=v/\v<1000003) (Ze H d S) (g<=S.runs.length) (S.runs.length<=3) (∀ e∈S.runs,e.1.natAbs<=4/\e.2.natAbs<=4) (zV S n=O pt) ((pt.1-x).natAbs<=10) ((pt.2-y).natAbs<=10) (∀(v:V)(a b c e:Int)(h:Hp),Same H h->Rep h (Deed.bearing g n a b c e).dt v->wa (a,b)->wa (c,e)->0<a*e-b*c->Q v h)
def uo(F:Fun K "_law_true_bearing" "_law_true_bearing" wR f fd)(Z:Zs mg)(CB:Cb P w mg base)(yBe:Has P w K mg base "_law_left_pair" 2 ["_law_d","_law_wide"] (xg K))(yCo:Has P w K mg base "_law_lead" 1 ["_law_m","_law_one","_law_other"] (ou K)):yN P w K mg base CX0 3 f fd ["_law_d","_law_m","_law_moment","_law_mark","_law_x","_law_y"] (rH K):=by
 specialize yD
 ·obtain⟨a,d,rows,S,p,n,x,y,pt,rfl,_⟩:=h;rfl
 obtain⟨a,d,rows,S,p,n,x,y,pt,rfl,ha,l8,bd,X,hmo,l3,rb,hpt,hx,hy,q⟩:=h;obtain⟨m,b,r,nn,lw⟩:=id X;obtain⟨v2,a2,_⟩:=wO bd (k:=2) (by decide) (by lia);obtain⟨v3,a3,_⟩:=wO bd (k:=3) (by decide) (by lia)
 refine'⟨_,(zB (xo ?_ (uS rfl (zT (xR 6 yD.nd) (zT (xR 7 yD.nd) xT))))
   (zB (xo (zO (yB hr) (zO (yB hr) (pv 1) zU (λ_ _=>rfl)) (pv 3) (λ_ _=>rfl)) (uS rfl (zT (xR 8 yD.nd) (zT (xR 9 yD.nd) xT))))
   (zB (li (i:=8) (j:=9) rfl yD.nd rfl rfl (by decide) rfl rfl ?_ rfl)
   (zB (zS 10 yD.nd ?_)
   (zB (yO ?_ (zB (xo ?_ (uS rfl (zT (xR 11 yD.nd) (zT (xR 12 yD.nd) xT))))
   (zD (zM ?_))) zX)
   (zD (zM ?_))))))),?_⟩
 nofun
 erw[_,rfl,_,rfl,d,S,0,p,rfl,X,(by lia),hmo,(by lia),λt H1 B ht et=>?_];have lb:(uA S.runs 0 p).1.natAbs<=12/\(uA S.runs 0 p).2.natAbs<=12:=cm l3 rb;generalize uA S.runs 0 p=ld at et lb;obtain⟨kvs,pa,hm,g1,g2⟩:=tV (lw.ma.to (.of B)) hpt;exists t,_,U,SqT.of et,U,.int ld.1,_,U,.int ld.2,_,U,rfl;exists _,U,d,.ref m,U,.inl ⟨_,.inr "marks",Rd.same lw.at_ B,U,vM.symm⟩,_,U,m,.ref pa,U,.inl ⟨kvs,.inr n,hm,U,g1.symm⟩,pa,_,U,SqT.of g2,U,.int pt.1,_,U,.int pt.2,_,U,rfl;exists _,U,_,U,_,_,U,U,_,U,_,_,U,U,_,U,_,U,_,_,U,U,_,U,_,_,U,U,_,_,rfl;have bP:(pt.1-x-ld.1).natAbs<=22:=by lia
 have bQ:(pt.2-y-ld.2).natAbs<=22:=by lia
 generalize pt.1-x-ld.1=P at bP ⊢;generalize pt.2-y-ld.2=R at bQ ⊢;have D:Sq K H1 a (rows.map V.int):=.inl (SqL.of (B _ _ ha));exists _,U,a,_,_,_,U,U,D,a3,_,_,U,U,gt3,_,_,U,rfl;have b1:1<=1+v3%3:=by lia
 have b2:1+v3%3<=3:=by lia
 generalize 1+v3%3=k at b1 b2;have g:vi (rows.map V.int) (O ((3:Nat):Int)) IS=(rows.drop 3).map V.int:=by rw[yx,HT.sIx_nat rows.length 0 3,show min 3 rows.length=3 by lia,show HT.sIx rows.length rows.length IS=rows.length from rfl,Ax (by rw[Ad]; lia)]
 have g:vi (rows.map V.int) (O 3) IS=(rows.drop 3).map V.int:=g;have I:SqL K H1 a (rows.map V.int):=SqL.of (B _ _ ha);exists _,U,U,_,rfl;erw[ifE (λzP=>?_) (λzP=>?_)]
 ·exists _,U,U,_,rfl;erw[ifE (λzR=>?_) (λzR=>?_)]
  ·erw[qr ?_];erw[_,rfl,_,rfl,a,_,rfl,I,λc hc=>?_];have N:=zC hc (.lst (vi (rows.map V.int) (O 3) IS));erw[c,rows.drop 3,3,rfl,SqL.of (by rw[zA,g]),(by rw[Ad]; lia),(λv Y=>bd v (AS Y)),(by decide),(by decide),λM p1 p2 A0 A1 B0 B1 H2 T o e1 e2 tn n1 n2 n3 n4=>?_];exists M,_,U,SqT.of o,U,.ref p1,_,U,.ref p2,_,U,rfl;refine⟨_,U,_,U,_,U,_,U,(by show 5<=sizeLine; decide),λw C=>?_⟩;have e:=zC C (.tup [.str "bearing",.int p,.str n,.ref p1,.ref p2]);obtain⟨w1,u⟩:=iQ tn (f8 n1 (by decide)) (f8 n2 (by decide)) (f8 n3 (by decide)) (f8 n4 (by decide));rwa[q (.ref w) A0 A1 B0 B1 _ (B.trans (N.trans (T.trans e))) (tL zA (e _ _ e1) (e _ _ e2)) w1 u tn]
  ·exists _,U,a,_,_,_,U,U,D,a2,_,_,U,U,gt5,U,_,rfl;erw[ifE (λz5=>?_) (λz5=>?_)]
   ·
    erw[_,rfl,_,rfl,a,_,rfl,I,λc hc=>?_];have N:=zC hc (.lst (vi (rows.map V.int) (O 3) IS));erw[c,rows.drop 3,3,rfl,SqL.of (by rw[zA,g]),(by rw[Ad]; lia),(λv Y=>bd v (AS Y)),(by decide),(by decide),λM p1 p2 A0 A1 B0 B1 H2 T o e1 e2 tn n1 n2 n3 n4=>?_];exists M,_,U,SqT.of o,U,.ref p1,_,U,.ref p2,_,U,rfl;refine⟨_,U,_,U,_,U,_,U,(by show 5<=sizeLine; decide),λw C=>?_⟩;have e:=zC C (.tup [.str "bearing",.int p,.str n,.ref p1,.ref p2]);obtain⟨w1,u⟩:=iQ tn (f8 n1 (by decide)) (f8 n2 (by decide)) (f8 n3 (by decide)) (f8 n4 (by decide));rwa[q (.ref w) A0 A1 B0 B1 _ (B.trans (N.trans (T.trans e))) (tL zA (e _ _ e1) (e _ _ e2)) w1 u tn]
   ·have nz:¬ (P=0/\R=0):=λz=>zR z.2;erw[_,rfl,_,rfl,_,rfl,_,rfl,_,_,rfl,rfl,vK (by lia),_,rfl,_,_,rfl,rfl,_,rfl,_,rfl,_,_,rfl,rfl,vK (by lia),_,rfl,_,_,rfl,rfl,sz2,λp1 L=>?_];have G:=zC L (.tup [.int (k*P+R),.int (k*R-P)]);refine⟨_,U,_,U,_,_,U,U,vK (by lia),_,U,_,_,U,U,_,U,_,U,_,_,U,U,vK (by lia),_,U,_,_,U,U,sz2,λp2 J=>⟨(by show 5<=sizeLine; decide),λw C=>?_⟩⟩;have l:=zC J (.tup [.int (k*P-R),.int (k*R+P)]);have e:=zC C (.tup [.str "bearing",.int p,.str n,.ref p1,.ref p2]);have tn:=fZ b1 nz;have z1:=zQ k P (show k.natAbs<=3 by lia) bP;have z2:=zQ k R (show k.natAbs<=3 by lia) bQ;obtain⟨w1,u⟩:=iQ tn (by lia) (by lia) (by lia) (by lia);rwa[q (.ref w) _ _ _ _ _ (B.trans (G.trans (l.trans e))) (tL zA (e _ _ (l _ _ zA)) (e _ _ zA)) w1 u tn]
 ·erw[wX ?_];exists _,U,a,_,_,_,U,U,D,a2,_,_,U,U,gt5,U,_,rfl;erw[ifE (λz5=>?_) (λz5=>?_)]
  ·
   erw[_,rfl,_,rfl,a,_,rfl,I,λc hc=>?_];have N:=zC hc (.lst (vi (rows.map V.int) (O 3) IS));erw[c,rows.drop 3,3,rfl,SqL.of (by rw[zA,g]),(by rw[Ad]; lia),(λv Y=>bd v (AS Y)),(by decide),(by decide),λM p1 p2 A0 A1 B0 B1 H2 T o e1 e2 tn n1 n2 n3 n4=>?_];exists M,_,U,SqT.of o,U,.ref p1,_,U,.ref p2,_,U,rfl;refine⟨_,U,_,U,_,U,_,U,(by show 5<=sizeLine; decide),λw C=>?_⟩;have e:=zC C (.tup [.str "bearing",.int p,.str n,.ref p1,.ref p2]);obtain⟨w1,u⟩:=iQ tn (f8 n1 (by decide)) (f8 n2 (by decide)) (f8 n3 (by decide)) (f8 n4 (by decide));rwa[q (.ref w) A0 A1 B0 B1 _ (B.trans (N.trans (T.trans e))) (tL zA (e _ _ e1) (e _ _ e2)) w1 u tn]
  ·have nz:¬ (P=0/\R=0):=λz=>zP z.1;erw[_,rfl,_,rfl,_,rfl,_,rfl,_,_,rfl,rfl,vK (by lia),_,rfl,_,_,rfl,rfl,_,rfl,_,rfl,_,_,rfl,rfl,vK (by lia),_,rfl,_,_,rfl,rfl,sz2,λp1 L=>?_];have G:=zC L (.tup [.int (k*P+R),.int (k*R-P)]);refine⟨_,U,_,U,_,_,U,U,vK (by lia),_,U,_,_,U,U,_,U,_,U,_,_,U,U,vK (by lia),_,U,_,_,U,U,sz2,λp2 J=>⟨(by show 5<=sizeLine; decide),λw C=>?_⟩⟩;have l:=zC J (.tup [.int (k*P-R),.int (k*R+P)]);have e:=zC C (.tup [.str "bearing",.int p,.str n,.ref p1,.ref p2]);have tn:=fZ b1 nz;have z1:=zQ k P (show k.natAbs<=3 by lia) bP;have z2:=zQ k R (show k.natAbs<=3 by lia) bQ;obtain⟨w1,u⟩:=iQ tn (by lia) (by lia) (by lia) (by lia);rwa[q (.ref w) _ _ _ _ _ (B.trans (G.trans (l.trans e))) (tL zA (e _ _ (l _ _ zA)) (e _ _ zA)) w1 u tn]
def yt(_:b9):Sp:=TU
def nN(F:Fun K "_law_some_deeds" "_law_some_deeds" vE f fd)(Z:Zs mg)(CB:Cb P w mg base)(yAi:Has P w K mg base "_law_true_bearing" 3 ["_law_d","_law_m","_law_moment","_law_mark","_law_x","_law_y"] (rH K))(yCv:Has P w K mg base "_law_new" 1 [] (jr K)):yN P w K mg base CX0 4 f fd ["_law_some","_law_names_here"] (yt K):=by
 specialize zZ
 ·obtain⟨a,r,rows,ns,rfl,_⟩:=h;rfl
 obtain⟨a,R,rows,ns,rfl,ha,l90,bd,eR,ln,okn,nod,q⟩:=h;obtain⟨v5,a5,_⟩:=wO bd (k:=5) (by decide) (by lia);obtain⟨v6,a6,_⟩:=wO bd (k:=6) (by decide) (by lia);obtain⟨v7,a7,_⟩:=wO bd (k:=7) (by decide) (by lia);obtain⟨v18,a18,_⟩:=wO bd (k:=18) (by decide) (by lia);have sq:∀{H':Hp},H' a=O (.lst (rows.map V.int))->Sq K H' a (rows.map V.int):=λh=>.inl (SqL.of h)
 refine'⟨_,(zB (li (i:=2) (j:=3) rfl zZ.nd rfl rfl (by decide) rfl rfl ?_ rfl)
   (zB (zS 4 zZ.nd (nq yCv (hr.mono (by decide)) rfl))
   (zB (zS 5 zZ.nd ?_)
   (zB (xM l9 rfl (xC rfl Z.range ?_) (xR 6 zZ.nd) (zB (yA (ug (pv 5) ?_))
   (zD (uU (yB hr) (zO (yB hr) (pv 4) zU (λ_ _=>rfl)) ?_ (tI jW ?_ (rE xV) zp) rfl))))
   (zB (xM l9 rfl (xC rfl Z.range ?_) (xR 6 zZ.nd) (zB (yA (ug (pv 5) ?_))
   (zD (yA (ug (zO (yB hr) (pv 4) zU (λ_ _=>rfl)) (zI (tI jW ?_ (rE xV) zp) zN))))))
   (zB (zS 7 zZ.nd (yE qt rfl Z.sorted uH (zI (yT (vS rfl) rfl Z.list qM (zI (zO (yB hr) (pv 4) zU (λ_ _=>rfl)) zN)) zN)))
   (zB (xM l9 rfl (xC rfl Z.range ?_) (xR 6 zZ.nd) (zB (zS 8 zZ.nd ?_)
   (zB (zS 9 zZ.nd (tR Xf ?_ (tR fR (yE zk rfl Z.len sh (zI (zO (yB hr) (pv 4) zU (λ_ _=>rfl)) zN)) xV)))
   (zB (li (i:=10) (j:=11) rfl zZ.nd rfl rfl (by decide) rfl rfl ?_ rfl)
   (zB (zS 12 zZ.nd ?_)
   (zB (yO (PW.pt (gT ?_ (lS (xJ (Zn hr.units0) (zO (yB hr) (zO (yB hr) (pv 4) zU (λ_ _=>rfl)) (pv 10) (λ_ _=>rfl)) (zO (yB hr) (zO (yB hr) (pv 4) zU (λ_ _=>rfl)) (pv 11) (λ_ _=>rfl)) (xj _))))) (zD (zS 12 zZ.nd ?_)) zX)
   (zD (yA (ug (pv 5) (zI (pv 12) zN))))))))))
   (zD (zM (pv 5)))))))))),?_⟩
 nofun
 exists _,U,a,_,_,_,U,U,sq ha,a5,_,_,U,U,(by show(0:Int)<1701; decide),_,_,rfl,rfl,_,rfl,a,_,_,_,rfl,rfl,sq ha,a6,_,_,rfl,rfl,(by show(0:Int)<1701; decide),_,_,rfl,rfl,_,_,rfl;have x1:(v5%1701-850).natAbs<=850:=by lia
 have y1:(v6%1701-850).natAbs<=850:=by lia
 generalize v5%1701-850=X at x1 ⊢;generalize v6%1701-850=Y at y1 ⊢;erw[rfl,λd m b r n H1 s1 hd hm hr0 ed em eb er en nbm nnm=>?_];erw[sz0,λL hL=>?_];have sL:=zC hL (.lst []);have ndL:d≠L:=zH ed hL;have nmL:m≠L:=zH em hL;have nrL:r≠L:=zH er hL;have eL1:upd H1 L (.lst []) L=O (.lst []):=zA;have ha1:=sL _ _ (s1 _ _ ha);have eR1:=sL _ _ (s1 _ _ eR);have ed1:=sL _ _ ed;have em1:=sL _ _ em;have eb1:=sL _ _ eb;have er1:=sL _ _ er;have en1:=sL _ _ en;have s01:=s1.trans sL;have hL0:=s1.free hL;generalize upd H1 L (.lst [])=H2 at eL1 ha1 eR1 ed1 em1 eb1 er1 en1 s01 ⊢;have naL:a≠L:=λz=>by rw[z,hL0] at ha; cases ha
 have nam:a≠m:=λz=>by rw[z,hm] at ha; cases ha
 have nRL:R≠L:=λz=>by rw[z,hL0] at eR; cases eR
 have nRm:R≠m:=λz=>by rw[z,hm] at eR; cases eR
 have ndm:d≠m:=λz=>by rw[z,em1] at ed1; cases ed1
 exists _,U,a,_,_,_,U,U,sq ha1,a7,_,_,U,U,gt3,_,_,U,rfl;have k3:3<=3+v7%3:=by lia
 have k5:3+v7%3<=5:=by lia
 generalize 3+v7%3=M at k3 k5;refine⟨_,U,(by lia),(by lia),wM (lo:=0) (n:=M.toNat) (λi σ H'=>A3 (∀ x o,x≠L->x≠m->H2 x=O o->H' x=O o) (E4 λ(I:List Deed) (l:List (g8×Int×Int)) (G:List V) (mk:List (Key×V))=>A8 (H' L=O (.lst G)) (xS H' (I.map Deed.dt) G) (I.length=i) (mM I l [] [] 1) (l.map (·.1)=ns.take i) (H' m=O (.dK mk)) (xY H' mk (mkE l)) (∀ e∈l,(e.2.1-X).natAbs<=10/\(e.2.2-Y).natAbs<=10)) (∃ u:Option V,σ=[O (.ref a),O (.ref R),O (.int X),O (.int Y),O (.ref d),O (.ref L),u,IS,IS,IS,IS,IS,IS]))
  ⟨λ_ _ _ _ e=>e,⟨[],[],[],[],eL1,yC.mpr rfl,rfl,Yb,rfl,em1,.nil,λe he=>(nomatch he)⟩,IS,rfl⟩ ?_ ?_⟩
 ·rintro i σ H3 hi ⟨sH,⟨I,l,G,mk,eL,rp,lD,dn,nms,eM,kv,pl⟩,u,rfl⟩;have hi5:i<ns.length:=by lia
  have hn:ns[i]?=O ns[i]:=c9 hi5;have ha3:=sH _ _ naL nam ha1;have eR3:=sH _ _ nRL nRm eR1;obtain⟨w1,b1,_⟩:=wO bd (k:=8+2*i) (by lia) (by lia);obtain⟨w2,b2,_⟩:=wO bd (k:=9+2*i) (by lia) (by lia);rw[Ay];have c1:atI (rows.map V.int) (8+2*(i:Int))=O (.int w1):=by rw[show 8+2*(i:Int)=((8+2*i:Nat):Int) by lia]; rwa[b1]
  have c2:atI (rows.map V.int) (9+2*(i:Int))=O (.int w2):=by rw[show 9+2*(i:Int)=((9+2*i:Nat):Int) by lia]; rwa[b2]
  have cn:atI (ns.map V.str) (i:Int)=O (.str ns[i]):=tP (by rw[d7,hn]; rfl);exists _,U,.inl ⟨U,_,SqL.of eL⟩,_,U,_,U,R,_,_,.str ns[i],U,U,.inl (SqL.of eR3),cn;exists _,U,_,U,_,U,_,_,U,U,vK (by lia),_,_,U,U,a,_,_,_,U,U,sq ha3,c1,_,_,U,U,(by show(0:Int)<21; decide),_,_,rfl,rfl,_,_,rfl,rfl;refine⟨_,U,_,U,_,U,_,_,U,U,vK (by lia),_,_,U,U,a,_,_,_,U,U,sq ha3,c2,_,_,U,U,(by show(0:Int)<21; decide),_,_,rfl,rfl,_,_,rfl,rfl,(by show 4<=sizeLine; decide),λt ht=>?_⟩;have x3:(X+w1%21-10-X).natAbs<=10:=by lia
  have y3:(Y+w2%21-10-Y).natAbs<=10:=by lia
  generalize X+w1%21-10=g at x3 ⊢;generalize Y+w2%21-10=W at y3 ⊢;have st:=zC ht (.tup [.str "mark",.str ns[i],.int g,.int W]);have eL3:=st _ _ eL;exists L,_,.ref t,U,U,eL3,zK (by rw[rp.length,ac]; lia);have sE4:=xZ (o:=.lst (G++[.ref t])) eL3;have np4:=uF eL3;have ntL:t≠L:=λz=>by rw[z,eL] at ht; cases ht
  have rp4:xS (upd (upd H3 t (.tup [.str "mark",.str ns[i],.int g,.int W])) L (.lst (G++[.ref t]))) ((I++[Deed.mark ns[i] g W]).map Deed.dt) (G++[.ref t]):=by
   rw[e7];exact(xS.app (rp.to (.of st)) (.one (ZI zA))).sam sE4 np4
  have kv4:=(kv.to (.of st)).sam sE4 np4;have k4:∀ x o,x≠L->H3 x=O o->upd (upd H3 t (.tup [.str "mark",.str ns[i],.int g,.int W])) L (.lst (G++[.ref t])) x=O o:=λx o h e=>by rw[zF h]; rwa[st _ _ e]
  have eL4:upd (upd H3 t (.tup [.str "mark",.str ns[i],.int g,.int W])) L (.lst (G++[.ref t])) L=O (.lst (G++[.ref t])):=zA;have et4:upd (upd H3 t (.tup [.str "mark",.str ns[i],.int g,.int W])) L (.lst (G++[.ref t])) t=O (.tup [.str "mark",.str ns[i],.int g,.int W]):=by rw[zF ntL,zA]
  generalize upd (upd H3 t (.tup [.str "mark",.str ns[i],.int g,.int W])) L (.lst (G++[.ref t]))=H4 at rp4 kv4 k4 eL4 et4 ⊢;have eM4:=k4 _ _ nmL eM;have ed4:=k4 _ _ ndL (sH _ _ ndL ndm ed1);have eR4:=k4 _ _ nRL eR3;have lst1:atI (G++[.ref t]) (-1)=O (.ref t):=fE G (.ref t);refine⟨_,U,_,U,L,_,_,.ref t,U,U,.inl (SqL.of eL4),lst1,_,U,t,_,U,SqT.of et4,(λz=>x4 z.1 (by show ¬ HT.sIx 4 0 (O 2)=0; decide)),λc hc=>?_⟩;rw[show vi [V.str "mark",V.str ns[i],V.int g,V.int W] (O 2) IS=[V.int g,V.int W] from rfl];have sc:=zC hc (.tup [.int g,.int W]);have eM5:=sc _ _ eM4;have lk:mk.length=l.length:=by rw[kv.length,jp]
  have ll:l.length=i:=by have:=congrArg AH nms; rw[ac,j3] at this; lia
  exists _,U,d,.ref m,U,.inl ⟨_,.inr "marks",.inl (sc _ _ ed4),U,vM.symm⟩,_,U,_,U,R,_,_,.str ns[i],U,U,.inl (SqL.of (sc _ _ eR4)),cn,m,_,U,mf.k (k:=.inr ns[i]) eM5 (zK (by lia));have sE5:=xZ (o:=.dK (sC mk (.inr ns[i]) (.ref c))) eM5;have np5:=nQ eM5;have nmem:ns[i] ∉ l.map (·.1):=by
   rw[nms];rwa[cD nod hn]
  have nr5:vw (g,W):=⟨by dsimp only; lia,by dsimp only; lia,by dsimp only; lia,by dsimp only; lia⟩;erw[λx o h1 h2 e=>by rw[zF h2]; exact sc _ _ (k4 _ _ h1 (sH _ _ h1 h2 e)),⟨I++[.mark ns[i] g W],l++[(ns[i],g,W)],G++[.ref t],_,?_,(rp4.to (.of sc)).sam sE5 np5,(by rw[f7,lD]; rfl),dn.mark (Vs (okn _ (AX hi5)) nmem nr5 (by lia)),?_,zA,?_,λe he=>?_⟩,_,rfl]
  ·rw[zF nmL.symm]; rwa[sc _ _ eL4]
  ·rw[e7,nms,o6,hn]; rfl
  ·have:=((kv4.to (.of sc)).put (k:=.inr ns[i]) (zv (p:=(g,W)) zA)).sam sE5 np5;have pe:=sM (es:=mkE l) (k:=.inr ns[i]) (d:=ptD (g,W)) (lX (S:=stN l [] [] 1) (lF nmem));rw[pe] at this;rw[gC];rwa[this]
  ·rcases i7.mp he with z | z
   ·rwa[pl e z]
   ·rw[e8.mp z]; rwa[x3,y3]
 ·rintro σ H3 ⟨sH,⟨I,l,G,mk,eL,rp,lD,dn,nms,eM,kv,pl⟩,u,rfl⟩;have nrm:r≠m:=λz=>by rw[z,em1] at er1; cases er1
  have nar:a≠r:=λz=>by rw[z,hr0] at ha; cases ha
  have ndr:d≠r:=λz=>by rw[z,er1] at ed1; cases ed1
  have nbL:b≠L:=zH eb hL;have nnL:n≠L:=zH en hL;have nbr:b≠r:=λz=>by rw[z,er1] at eb1; cases eb1
  have nnr:n≠r:=λz=>by rw[z,er1] at en1; cases en1
  have ha3:=sH _ _ naL nam ha1;have ed3:=sH _ _ ndL ndm ed1;have er3:=sH _ _ nrL nrm er1;have eb3:=sH _ _ nbL nbm eb1;have en3:=sH _ _ nnL nnm en1;have s03:∀ x o,H x=O o->H3 x=O o:=λx o e=>sH x o (zH e hL0) (zH e hm) (s01 _ _ e);have lM:l.length=M.toNat:=by have:=congrArg AH nms; rw[ac,j3] at this; lia
  clear sH;exists _,U,a,_,_,_,U,U,sq ha3,a18,_,_,U,U,gt4;have n0:0<=v18%4:=by lia
  have n3:v18%4<=3:=by lia
  generalize v18%4=N at n0 n3;refine⟨_,U,(by lia),(by lia),wM (lo:=0) (n:=N.toNat) (λi σ H'=>A3 (∀ x o,x≠L->x≠r->H3 x=O o->H' x=O o) (E4 λ(I:List Deed) (T:List (Int×Int)) (G ys:List V)=>A8 (H' L=O (.lst G)) (xS H' (I.map Deed.dt) G) (I.length=M.toNat+i) (mM I l T [] 1) (T.length=i) (H' r=O (.lst ys)) (xS H' (T.map ptD) ys) (∀ e∈T,e.1.natAbs<=4/\e.2.natAbs<=4)) (∃ u:Option V,σ=[O (.ref a),O (.ref R),O (.int X),O (.int Y),O (.ref d),O (.ref L),u,IS,IS,IS,IS,IS,IS]))
   ⟨λ_ _ _ _ e=>e,⟨I,[],G,[],eL,rp,lD,dn,rfl,er3,yC.mpr rfl,λe he=>(nomatch he)⟩,u,rfl⟩ ?_ ?_⟩
  ·clear lD rp dn;rintro i σ H4 hi ⟨sK,⟨I,T,G,ys,eL,rp,lD,dn,lrs,er4,rr,rb⟩,u,rfl⟩;have ha4:=sK _ _ naL nar ha3;have ed4:=sK _ _ ndL ndr ed3;obtain⟨w1,b1,_⟩:=wO bd (k:=19+2*i) (by lia) (by lia);obtain⟨w2,b2,_⟩:=wO bd (k:=20+2*i) (by lia) (by lia);rw[Ay];have c1:atI (rows.map V.int) (19+2*(i:Int))=O (.int w1):=b1;have c2:atI (rows.map V.int) (20+2*(i:Int))=O (.int w2):=b2;exists _,U,.inl ⟨U,_,SqL.of eL⟩,_,U,_,U,_,_,U,U,vK (by lia),_,_,U,U,a,_,_,_,U,U,sq ha4,c1,_,_,U,U,(by show(0:Int)<9; decide),_,_,rfl,rfl;refine⟨_,U,_,U,_,_,U,U,vK (by lia),_,_,U,U,a,_,_,_,U,U,sq ha4,c2,_,_,U,U,(by show(0:Int)<9; decide),_,_,rfl,rfl,sz3,λt ht=>?_⟩;have x3:(w1%9-4).natAbs<=4:=by lia
   have y3:(w2%9-4).natAbs<=4:=by lia
   generalize w1%9-4=g at x3 ⊢;generalize w2%9-4=W at y3 ⊢;have st:=zC ht (.tup [.str "sail",.int g,.int W]);have eL3:=st _ _ eL;exists L,_,.ref t,U,U,eL3,zK (by rw[rp.length,ac]; lia);have sE4:=xZ (o:=.lst (G++[.ref t])) eL3;have np4:=uF eL3;have ntL:t≠L:=λz=>by rw[z,eL] at ht; cases ht
   have rp4:xS (upd (upd H4 t (.tup [.str "sail",.int g,.int W])) L (.lst (G++[.ref t]))) ((I++[Deed.sail g W]).map Deed.dt) (G++[.ref t]):=by
    rw[e7];exact(xS.app (rp.to (.of st)) (.one (Yp zA))).sam sE4 np4
   have rr4:=(rr.to (.of st)).sam sE4 np4;have k4:∀ x o,x≠L->H4 x=O o->upd (upd H4 t (.tup [.str "sail",.int g,.int W])) L (.lst (G++[.ref t])) x=O o:=λx o h e=>by rw[zF h]; rwa[st _ _ e]
   have eL4:upd (upd H4 t (.tup [.str "sail",.int g,.int W])) L (.lst (G++[.ref t])) L=O (.lst (G++[.ref t])):=zA;have et4:upd (upd H4 t (.tup [.str "sail",.int g,.int W])) L (.lst (G++[.ref t])) t=O (.tup [.str "sail",.int g,.int W]):=by rw[zF ntL,zA]
   generalize upd (upd H4 t (.tup [.str "sail",.int g,.int W])) L (.lst (G++[.ref t]))=H5 at rp4 rr4 k4 eL4 et4 ⊢;have er5:=k4 _ _ nrL er4;have ed5:=k4 _ _ ndL ed4;have lst1:atI (G++[.ref t]) (-1)=O (.ref t):=fE G (.ref t);refine⟨_,U,d,.ref r,U,.inl ⟨_,.inr "runs",.inl ed5,U,ub.symm⟩,.inl ⟨U,_,SqL.of er5⟩,_,U,_,U,L,_,_,.ref t,U,U,.inl (SqL.of eL4),lst1,_,U,t,_,U,SqT.of et4,(λz=>x4 z.1 (by show ¬ HT.sIx 3 0 (O 1)=0; decide)),λc hc=>?_⟩;rw[show vi [V.str "sail",V.int g,V.int W] (O 1) IS=[V.int g,V.int W] from rfl];have sc:=zC hc (.tup [.int g,.int W]);have er6:=sc _ _ er5;have ly:ys.length=T.length:=by rw[rr.length,ac]
   exists r,_,.ref c,U,U,er6,zK (by lia);have sE6:=xZ (o:=.lst (ys++[.ref c])) er6;have np6:=uF er6;have nr5:vw (g,W):=⟨by dsimp only; lia,by dsimp only; lia,by dsimp only; lia,by dsimp only; lia⟩;erw[λx o h1 h2 e=>by rw[zF h2]; exact sc _ _ (k4 _ _ h1 (sK _ _ h1 h2 e)),⟨I++[.sail g W],T++[(g,W)],G++[.ref t],ys++[.ref c],?_,(rp4.to (.of sc)).sam sE6 np6,(by rw[f7,lD]; rfl),dn.sail (VW nr5 (by lia)),(by rw[f7,lrs]; rfl),zA,?_,λe he=>?_⟩,_,rfl]
   ·rw[zF nrL.symm]; rwa[sc _ _ eL4]
   ·rw[e7];exact(xS.app (rr4.to (.of sc)) (.one (zv (p:=(g,W)) zA))).sam sE6 np6
   ·rcases i7.mp he with z | z
    ·rwa[rb e z]
    ·rw[e8.mp z]; rwa[x3,y3]
  ·rintro σ H4 ⟨sK,hh,u,rfl⟩;have sE4:vV (λx=>x=L\/x=r) H3 H4:=λx o hx e=>.inl (sK x o (λz=>hx (.inl z)) (λz=>hx (.inr z)) e);have np4:∀ b G,H3 b=O (.tup G)->¬ (b=L\/b=r):=λb G e z=>z.elim (uF eL b G e) (uF er3 b G e);have kv4:=kv.sam sE4 np4;clear eL rp lD dn;obtain⟨I,T,G,ys,eL,rp,lD,dn,lrs,er4,rr,rb⟩:=hh;have ha4:=sK _ _ naL nar ha3;have ed4:=sK _ _ ndL ndr ed3;have eM4:=sK _ _ nmL nrm.symm eM;have eb4:=sK _ _ nbL nbr eb3;have en4:=sK _ _ nnL nnr en3;have s04:∀ x o,H x=O o->H4 x=O o:=λx o e=>sK x o (zH e hL0) (zH e hr0) (s03 _ _ e);have lw4:LwA H4 d m b r n (stN l T [] 1):=⟨.inl ed4,⟨mk,.inl eM4,kv4⟩,.nil eb4,⟨ys,er4,rr⟩,.nil en4⟩;have lrm:(mk.map λkv=>kV kv.1)=(l.map (·.1)).map V.str:=kT kv4;have ly:ys.length=T.length:=by rw[rr.length,ac]
   erw[_,rfl,d,.ref m,rfl,.inl ⟨_,.inr "marks",.inl ed4,rfl,vM.symm⟩,m,mk,rfl,.inl eM4,λp1 hp1=>?_];rw[lrm];have s5:=zC hp1 (.lst ((l.map (·.1)).map V.str));erw[p1,l.map (·.1),rfl,SqL.of zA,(by rw[ac]; lia),λp2 ms hp2 pm srt=>?_];have s6:=zC hp2 (.lst (ms.map V.str));have s46:=s5.trans s6;have ep2:upd (upd H4 p1 (.lst ((l.map (·.1)).map V.str))) p2 (.lst (ms.map V.str)) p2=O (.lst (ms.map V.str)):=zA;generalize upd (upd H4 p1 (.lst ((l.map (·.1)).map V.str))) p2 (.lst (ms.map V.str))=H6 at s46 ep2 ⊢;have lms:ms.length=M.toNat:=by rw[pm.length_eq,ac,lM]
   have np2:p2≠L:=λz=>by rw[z] at hp2; rw[s5 _ _ eL] at hp2; cases hp2
   have ha6:=s46 _ _ ha4;have lw6:=lw4.to (.of s46);have rp6:=rp.to (.of s46);have eL6:=s46 _ _ eL;have s06:∀ x o,H x=O o->H6 x=O o:=λx o e=>s46 _ _ (s04 _ _ e);exists _,U,a,_,_,_,U,U,sq ha6,a7,_,_,U,U,zm.of (by decide) (by ac_nf),_,_,U,U,(by show(0:Int)<7; decide);have j0:0<=v7/3%7:=by lia
   have j6:v7/3%7<=6:=by lia
   generalize v7/3%7=J at j0 j6;refine⟨_,U,(by lia),(by lia),wM (lo:=0) (n:=J.toNat) (λi σ H'=>A3 (∀ x o,x≠L->H6 x=O o->H' x=O o) (E4 λ(I:List Deed) (no:List (Int×Deed)) (k:Int) (G:List V)=>A5 (H' L=O (.lst G)) (xS H' (I.map Deed.dt) G) (I.length=M.toNat+N.toNat+i) (mM I l T no k) (zh no k i)) (E6 λ(u1 u2 u3 u4 u5 u6:Option V)=>σ=[O (.ref a),O (.ref R),O (.int X),O (.int Y),O (.ref d),O (.ref L),u1,O (.ref p2),u2,u3,u4,u5,u6]))
    ⟨λ_ _ _ e=>e,⟨I,[],1,G,eL6,rp6,lD,dn,zh.nil⟩,u,IS,IS,IS,IS,IS,rfl⟩ ?_ ?_⟩
   ·clear lD rp dn rp6 eL6;rintro i σ H7 hi ⟨sJ,⟨I,no,k,G,eL7,rp,lD,dn,lno⟩,u1,u2,u3,u4,u5,u6,rfl⟩;have sE7:vV (λx=>x=L) H6 H7:=λx o hx e=>.inl (sJ x o hx e);have eLq:∃ zs,H6 L=O (.lst zs):=⟨_,s46 _ _ eL⟩;obtain⟨zs,eLq⟩:=eLq;have lw7:=lw6.samE sE7 (λa kvs h z=>by
     rw[z] at h;rcases h with h | ⟨o,h⟩ <;> rw[eLq] at h <;> cases h) (uF eLq) (λ_ _=>nrL)
    have ha7:=sJ _ _ naL ha6;have ep7:=sJ _ _ np2 ep2;rw[Ay];have cut:vi (rows.map V.int) (O (27+8*(i:Int))) IS=(rows.drop (27+8*i)).map V.int:=by
     rw[show 27+8*(i:Int)=((27+8*i:Nat):Int) by lia,yx,HT.sIx_nat rows.length 0 (27+8*i),show min (27+8*i) rows.length=27+8*i by lia,show HT.sIx rows.length rows.length IS=rows.length from rfl,Ax (by rw[Ad]; lia)]
    erw[_,rfl,_,rfl,_,_,rfl,rfl,vK (by lia),_,_,rfl,rfl,_,rfl,a,_,rfl,SqL.of ha7,λc hc=>?_];rw[cut];have bd8:∀ v∈rows.drop (27+8*i),0<=v/\v<1000003:=λv hv=>bd v (AS hv);have l8:8<=(rows.drop (27+8*i)).length:=by rw[Ad]; lia
    generalize rows.drop (27+8*i)=rw8 at bd8 l8 ⊢;have sc:=zC hc (.lst (rw8.map V.int));have ec:upd H7 c (.lst (rw8.map V.int)) c=O (.lst (rw8.map V.int)):=zA;have lw8:=lw7.to (.of sc);have rp8:=rp.to (.of sc);have eL8:=sc _ _ eL7;have ep8:=sc _ _ ep7;have k8:∀ x o,x≠L->H6 x=O o->upd H7 c (.lst (rw8.map V.int)) x=O o:=λx o h e=>sc _ _ (sJ x o h e);generalize upd H7 c (.lst (rw8.map V.int))=H8 at ec lw8 rp8 eL8 ep8 k8 ⊢;obtain⟨d0,g0,_⟩:=wO bd8 (k:=0) (by decide) (by lia);obtain⟨d1,g1,_⟩:=wO bd8 (k:=1) (by decide) (by lia);obtain⟨d2,g2,_⟩:=wO bd8 (k:=2) (by decide) (by lia);have cq:Sq K H8 c (rw8.map V.int):=.inl (SqL.of ec);obtain⟨ys8,er8,rr8⟩:=lw8.ru;have ly8:ys8.length=T.length:=by rw[rr8.length,ac]; rfl
    exists _,U,c,_,_,_,U,U,cq,g0,_,U,d,.ref r,U,.inl ⟨_,.inr "runs",lw8.at_,U,ub.symm⟩,r,ys8,U,.inl (SqL.of er8),_,_,U,U,_,_,U,U,(by show(0:Int)<(ys8.length:Int)+1; lia);rw[ly8];obtain⟨mo,emo⟩:∃ mo:Nat,d0%((T.length:Int)+1)=mo:=⟨(d0%((T.length:Int)+1)).toNat,(Bv (Ak _ (by lia))).symm⟩;have hmo:mo<=T.length:=by have:=r9 d0 (show(0:Int)<(T.length:Int)+1 by lia); lia
    rw[emo];have lk:((ms.map V.str).length:Int)=M:=by rw[ac,lms]; lia
    obtain⟨i1,h1,g3⟩:∃ n1,n1∈ms/\atI (ms.map V.str) (d1%((ms.map V.str).length:Int))=O (.str n1):=Wq (by lia);obtain⟨i2,h2,g4⟩:∃ n1,n1∈ms/\atI (ms.map V.str) (d2/5%((ms.map V.str).length:Int))=O (.str n1):=Wq (by lia);have pq:Sq K H8 p2 (ms.map V.str):=.inl (SqL.of ep8);exists _,U,_,U,c,_,_,_,U,U,cq,g1,_,U,p2,_,U,.inl (SqL.of ep8),_,_,U,U,(by show(0:Int)<((ms.map V.str).length:Int); lia),p2,_,_,.str i1,rfl,rfl,pq,g3;exists _,U,_,U,c,_,_,_,U,U,cq,g2,_,_,U,U,zm.of (by decide) (by ac_nf),_,U,p2,_,U,.inl (SqL.of ep8),_,_,U,U,(by show(0:Int)<((ms.map V.str).length:Int); lia),p2,_,_,.str i2,rfl,rfl,pq,g4,_,_,rfl;refine⟨_,U,_,U,_,U,(by show 4<=sizeLine; decide),λt ht=>?_⟩;have st:=zC ht (.tup [.str "range",.int mo,.str i1,.str i2]);have et:upd H8 t (.tup [.str "range",.int mo,.str i1,.str i2]) t=O (.tup [.str "range",.int mo,.str i1,.str i2]):=zA;have ec9:=st _ _ ec;have lw9:=lw8.to (.of st);have rp9:=rp8.to (.of st);have eL9:=st _ _ eL8;have k9:∀ x o,x≠L->H6 x=O o->upd H8 t (.tup [.str "range",.int mo,.str i1,.str i2]) x=O o:=λx o h e=>st _ _ (k8 x o h e);have ntL:t≠L:=λz=>by rw[z,eL8] at ht; cases ht
    generalize upd H8 t (.tup [.str "range",.int mo,.str i1,.str i2])=H9 at et ec9 lw9 rp9 eL9 k9 ⊢;have m1:i1∈l.map (·.1):=pm.mem_iff.mp h1;have m2:i2∈l.map (·.1):=pm.mem_iff.mp h2;obtain⟨q1,f1⟩:=rG (S:=stN l T [] 1) m1;obtain⟨q2,f2⟩:=rG (S:=stN l T [] 1) m2;obtain⟨kvs,pa,hkv,t1,t2⟩:=tV lw9.ma f1;obtain⟨kvs',pb,hkv',t3,t4⟩:=tV lw9.ma f2;have pl1:=pl _ (yb f1);have cq9:Sq K H9 c (rw8.map V.int):=.inl (SqL.of ec9);have lx:G.length=M.toNat+N.toNat+i:=by rw[rp.length,ac,lD]
    have fin:∀(v:V)(D:Deed)(no':List (Int×Deed))(k':Int)(Hz:Hp),Same H9 Hz->Rep Hz D.dt v->mM (I++[D]) l T no' k'->zh no' k' (i+1) ->
      Hz L=O (.lst G)/\((∀ x o,x≠L->H6 x=O o->upd Hz L (.lst (G++[v])) x=O o)/\(E4 λ(I:List Deed) (no:List (Int×Deed)) (k:Int) (ys:List V)=>A5 (upd Hz L (.lst (G++[v])) L=O (.lst ys)) (xS (upd Hz L (.lst (G++[v]))) (I.map Deed.dt) ys) (I.length=M.toNat+N.toNat+(i+1)) (mM I l T no k) (zh no k (i+1)))):=by
     intro v D no' k' Hz sz rv dz ln;have eLz:=sz _ _ eL9;erw[eLz,λx o h e=>by rw[zF h]; exact sz _ _ (k9 x o h e),I++[D],no',k',G++[v],zA,?_,by rw[f7,lD]; rfl,dz,ln];rw[e7];exact(xS.app (rp9.to (.of sz)) (.one rv)).sam (xZ eLz) (uF eLz)
    exists _,U,c,_,_,_,U,U,cq9,g2,_,_,U,U,gt5,_,_,U,U,_,rfl;erw[ifD (λz=>?_) (λz=>?_)]
    ·erw[qr ?_];refine⟨_,U,_,U,_,U,_,U,_,U,_,U,c,d,rw8,stN l T [] 1,mo,i1,X,Y,q1,U,ec9,l8,bd8,⟨m,b,r,n,lw9⟩,hmo,(by show T.length<=3; lia),rb,f1,pl1.1,pl1.2,λv A B C D Hz sz rv w1 w2 tn=>?_⟩;obtain⟨eLz,f3,f4⟩:=fin v _ _ _ Hz sz rv (dn.bearing (lJ hmo m1 w1 w2 tn (by rw[lno.len]; lia))) lno.snoc;erw[_,rfl,.inl ⟨rfl,_,SqL.of eLz⟩,_,rfl,L,_,v,rfl,rfl,eLz,zK (by lia),f3,f4,_,_,_,_,_,_,rfl]
    ·refine⟨_,U,d,.ref m,U,.inl ⟨_,.inr "marks",lw9.at_,U,vM.symm⟩,_,U,m,_,U,.inl ⟨kvs,.inr i1,hkv,U,t1.symm⟩,_,U,d,.ref m,U,.inl ⟨_,.inr "marks",lw9.at_,U,vM.symm⟩,_,U,m,_,U,.inl ⟨kvs',.inr i2,hkv',U,t3.symm⟩,
      pa,pb,[q1.1,q1.2],[q2.1,q2.2],rfl,rfl,SqT.of t2,SqT.of t4,_,rfl,?_⟩
     erw[ifD (λz=>?_) (λz=>?_)]
     ·
      refine⟨_,U,_,U,_,U,_,U,_,U,_,U,c,d,rw8,stN l T [] 1,mo,i1,X,Y,q1,U,ec9,l8,bd8,⟨m,b,r,n,lw9⟩,hmo,(by show T.length<=3; lia),rb,f1,pl1.1,pl1.2,λv A B C D Hz sz rv w1 w2 tn=>?_⟩;obtain⟨eLz,f3,f4⟩:=fin v _ _ _ Hz sz rv (dn.bearing (lJ hmo m1 w1 w2 tn (by rw[lno.len]; lia))) lno.snoc;erw[_,rfl,.inl ⟨rfl,_,SqL.of eLz⟩,_,rfl,L,_,v,rfl,rfl,eLz,zK (by lia),f3,f4,_,_,_,_,_,_,rfl]
     ·have ne:zV (stN l T no k) i1≠zV (stN l T no k) i2:=λy=>by
       have y:zV (stN l T [] 1) i1=zV (stN l T [] 1) i2:=y;rw[f1,f2] at y;injection y with y
       rwa[z (by rw[y])]
      obtain⟨eLz,f3,f4⟩:=fin (.ref t) _ _ _ H9 (Same.refl _) (bi et) (dn.range (Yh hmo m1 m2 ne (by rw[lno.len]; lia))) lno.snoc;erw[_,rfl,.inl ⟨rfl,_,SqL.of eLz⟩,_,rfl,L,_,.ref t,rfl,rfl,eLz,zK (by lia),f3,f4,_,_,_,_,_,_,rfl]
   ·clear lD rp dn;rintro σ H7 ⟨sJ,⟨I,no,k,G,eL7,rp,lD,dn,lno⟩,u1,u2,u3,u4,u5,u6,rfl⟩;refine⟨_,U,q L G I H7 (λx o e=>sJ x o (zH e hL0) (s06 _ _ e)) hL0 eL7 rp (by lia) dn.ok (by rw[dn.at_]; show T.length<=3; lia) dn.four ⟨J.toNat,by lia,by rw[dn.at_]; rwa[lno]⟩ (by rw[dn.at_]; exact⟨by show 3<=l.length; lia,by show l.length<=5; lia,λe he=>by have:=pl e he; lia,rfl⟩)⟩
def lP(K:b9):Sp:=λe H Q _=>E3 λ(a:c5) (rows:List Int) (c:Nat)=>A6 (e=[.ref a,.int c]) (SqL K H a (rows.map V.int)) (c<=rows.length) (c<=25) (∀ x∈rows,0<=x/\x<1000003) (∀(r:c5)(ns:List g8)(d:Hp),Same H d->H r=IS->d r=O (.lst (ns.map V.str))->ns.length=c->(∀ n∈ns,sI n)->ns.Nodup->Q (.ref r) d)
def cv(F:Fun K "_law_names" "_law_names" wj f fd)(Z:Zs mg)(CB:Cb P w mg base)  : yN P w K mg base CX0 1 f fd ["_law_some","_law_many"] (lP K):=by
 specialize yZ
 ·obtain⟨a,rows,d,rfl,_⟩:=h;rfl
 obtain⟨a,rows,d,rfl,ha,h1,h2,bd,q⟩:=h
 refine'⟨_,(zB (zS 2 yZ.nd zU)
   (zB (zS 3 yZ.nd ?_)
   (zB (xM l9 rfl (xC rfl Z.range (zI (pv 1) zN)) (xR 4 yZ.nd) (zB (zS 5 yZ.nd ?_)
   (zB (zS 6 yZ.nd ?_)
   (zB (zS 7 yZ.nd ?_)
   (zB (zS 8 yZ.nd (Zb PySem.F.plainAttrs_str PySem.F.slot_str_join PySem.F.type_str_join Wh zU (zI (yU (T:=["_law_k"]) (caps:=[("_law_letters",2),("_law_raw",5),("_law_step",7)]) ⟨rfl,by ac_nf,by ac_nf,rfl,⟨⟨rfl,rfl,BB rfl⟩,⟨rfl,rfl,BB rfl⟩,⟨rfl,rfl,BB rfl⟩,o0⟩⟩ rfl (xC rfl Z.range (zI (pv 6) zN)) (λ_=>(xR 0 (show(["_law_k","_law_letters","_law_raw","_law_step"]:List g8).Nodup by ac_nf))) (λ_=>yJ) (λ_=>(bR Wv (pv 1) ?_ (λ_ _=>rfl)))) zN)))
   (zB (zS 9 yZ.nd ?_)
   (zB (xM l9 rfl (xC rfl Z.range (zI xV zN)) (xR 10 yZ.nd) (zD (yO (xJ oH (pv 8) (pv 3) (by with_unfolding_all rfl)) (zB (zS 11 yZ.nd (bR Wv (pv 2) ?_ (λ_ _=>rfl)))
   (zD (zS 8 yZ.nd (tR lR (tR lR (tI XB (pv 8) zp (rE (pv 9))) (pv 11)) (tI XB (pv 8) (rE ?_) zp))))) zX)))
   (zD (yA (ug (pv 3) (zI (pv 8) zN)))))))))))
   (zD (zM (pv 3)))))),?_⟩
 nofun
 refine⟨sz0,λr N=>?_⟩;have s0:=zC N (.lst []);refine⟨_,U,_,U,by lia,by lia,wM (lo:=0) (n:=((d:Nat):Int).toNat) (λi B I=>∃ ns:List g8,A6 (Same H I) (I r=O (.lst (ns.map V.str))) (ns.length=i) (∀ n∈ns,sI n) ns.Nodup (E8 λ(u4 u5 u6 u7 u8 u9 o g:Option V)=>B=[O (.ref a),O (.int d),O (.str abc),O (.ref r),u4,u5,u6,u7,u8,u9,o,g]))
  ⟨[],s0,zA,rfl,(λ_ z=>nomatch z),FM,IS,IS,IS,IS,IS,IS,IS,IS,rfl⟩ ?_ ?_⟩
 ·rintro i B H1 hi ⟨ns,s1,er,ln,M,nd,u4,u5,u6,u7,u8,u9,o,g,rfl⟩;rw[i4] at hi;obtain⟨x,ax,x0,x1⟩:=wO bd (k:=(0:Int)+i) (by lia) (by lia);exists _,U,_,U,a,_,_,_,U,U,.inl (s1.seq ha),ax;exists _,U,_,_,U,U,(by show(0:Int)<8; decide),_,_,rfl,rfl;exists _,U,_,_,U,U,zm.of (by decide) (by ac_nf),_,_,U,U,gt5;have z0:0<=x%8:=Ak _ (by decide);have z1:x%8<8:=r9 _ (by decide);have t0:0<=x/8%5:=Ak _ (by decide);have t1:x/8%5<5:=r9 _ (by decide);obtain⟨sz,esz⟩:∃ n:Nat,1+x%8=(n:Int):=⟨(1+x%8).toNat,by lia⟩;have w1:1<=sz:=by lia
  have w8:sz<=8:=by lia
  refine⟨U,_,U,_,U,by lia,by lia,λc D hD=>?_⟩;have sD:=zC hD (.lst []);refine wn (lo:=0) (n:=(1+x%8).toNat) (λj B Y I=>A3 (Same H1 I) (I D=O (.lst Y)) (∃ l:List Nat,A4 (Y=(l.map chS).map V.str) (l.length=j) (∀ c∈l,97<=c/\c<=122) (∃ u0:Option V,B=[u0,O (.str abc),O (.int x),O (.int (x/8%5))])))
   ⟨sD,zA,[],rfl,rfl,(λ_ z=>nomatch z),IS,rfl⟩ (λj B Y I _ hq'=>by obtain⟨_,e,_⟩:=hq'; rwa[e]) ?_ ?_
  ·rintro j B Y I hj ⟨sH,eD,l,rfl,lj,lc,u0,rfl⟩;have m0:0<=(x/40+((0:Int)+j)*(x/8%5))%26:=Ak _ (by decide);have m1:(x/40+((0:Int)+j)*(x/8%5))%26<26:=r9 _ (by decide);exists _,U,_,U,_,_,U,U,zm.of (by decide) (by ac_nf),_,U,_,U,_,_,U,U,vK (by lia),_,_,U,U,_,_,U,U,(by show(0:Int)<26; decide),abc,_,_,rfl,rfl,(by decide),XD m0 m1;erw[eD,zK (by rw[ac,ac]; lia),sH.putNew hD,zA,l++[97+((x/40+((0:Int)+j)*(x/8%5))%26).toNat],?_,by rw[f7,lj]; rfl,λc J=>?_,_,rfl]
   ·rw[e7,e7];rfl
   ·rcases i7.mp J with J | J
    ·rwa[lc c J]
    ·rw[e8] at J;lia
  ·rintro B Y H2 ⟨s2,eD,l,rfl,lj,lc,u0,rfl⟩;have s12:=s1.trans s2;have R:=s2 _ _ er;have ll:l.length=sz:=by lia
   refine⟨"",D,l.map chS,U,U,SqL.of eD,by rw[dG,ll]; exact f8 w8 (by decide),?_⟩;rw[YB];obtain⟨L,epl⟩:∃ n:Nat,x/7%(1+x%8)=(n:Int):=⟨(x/7%(1+x%8)).toNat,by rw[Bv (Ak _ (by lia))]⟩;have plt:L<l.length:=by
    have:=r9 (x/7) (show 0<1+x%8 by lia);lia
   exists _,U,_,_,U,U,zm.of (by decide) (by ac_nf),_,U,_,_,U,U,(by show(0:Int)<1+x%8; lia);obtain⟨S,exn⟩:∃ n:Nat,x=(n:Int):=⟨x.toNat,by lia⟩;refine⟨26,U,by decide,by decide,wM (lo:=0) (n:=26) (λk B I=>I=H2/\∃ m:List Nat,A5 (txt m ∉ ns\/((k=0\/∃ j,j+1=k/\m=l.set L (97+(S+j)%26))/\∀ j,j+1<k->txt (l.set L (97+(S+j)%26))∈ns)) (m.length=l.length) (∀ c,m.set L c=l.set L c) (∀ c∈m,97<=c/\c<=122) (E2 λ(o g:Option V)=>B=[O (.ref a),O (.int d),O (.str abc),O (.ref r),O (.int (0+i)),O (.int x),O (.int (1+x%8)),O (.int (x/8%5)),O (.str (txt m)),O (.int (x/7%(1+x%8))),o,g]))
    ⟨rfl,l,.inr ⟨.inl rfl,λj hj=>x4 hj (CG _)⟩,rfl,λ_=>rfl,lc,o,g,rfl⟩ ?_ ?_⟩
   ·rintro k B I hk ⟨rfl,m,u,lm,C,mc,v10,v11,rfl⟩;exists _,U,_,U,r,_,U,.inl (SqL.of R),U,cM ns,_,rfl;show if inV (.str (txt m)) (ns.map V.str)=IT then _ else _
    rw[WB];erw[ifD (λv=>?_) (λv=>?_)]
    ·have b0:0<=(x+((0:Int)+k))%26:=Ak _ (by decide);have b1:(x+((0:Int)+k))%26<26:=r9 _ (by decide);exists _,U,_,U,_,U,_,_,U,U,_,_,U,U,(by show(0:Int)<26; decide),abc,_,_,rfl,rfl,(by decide),XD b0 b1;have lz:(txt m).length<=sizeLine:=by rw[rY,lm,ll]; rwa[f8 w8 (by decide)]
     have es:(97+((x+((0:Int)+k))%26).toNat)=97+(S+k)%26:=by lia
     have c1:C5 (txt m) IS (O (x/7%(1+x%8)))++chS (97+((x+((0:Int)+k))%26).toNat)++C5 (txt m) (O (x/7%(1+x%8)+1)) IS=txt (l.set L (97+(S+k)%26)):=by
      rw[epl,ZF (by lia),es,C]
     erw[_,rfl,_,rfl,_,rfl,txt m,rfl,lz,_,rfl,_,_,rfl,rfl,?_,_,rfl,_,rfl,_,_,rfl,rfl,_,rfl,txt m,rfl,lz,_,_,rfl,rfl,?_,?_]
     ·rwa[f8 (Em (Fi _ _ _) (f6 1)) (by rw[rY,lm,ll]; exact f8 (FQ w8 1) (by decide))]
     ·rw[strLen_append];rwa[f8 (Em (Em (Fi _ _ _) (f6 1)) (Fi _ _ _)) (by rw[rY,lm,ll]; exact f8 (Em (FQ w8 1) w8) (by decide))]
     ·erw[rfl,l.set L (97+(S+k)%26),.inr ⟨.inr ⟨k,rfl,rfl⟩,λj hj=>?_⟩,DN,λc=>List.set_set _,λc J=>?_,_,_,by rw[<- c1]; rfl]
      ·rcases u with u | ⟨u,G⟩
       ·rwa[x4 v u]
       ·by_cases e:j+1=k
        ·rcases u with u | ⟨j0,e0,rfl⟩
         ·lia
         ·rw[show j=j0 by lia];rwa[v]
        ·rwa[G j (by lia)]
      ·rcases Es J with J | J
       ·rwa[lc c J]
       ·lia
    ·rwa[rfl,m,.inl v,lm,C,mc,_,_,rfl]
   ·rintro B I ⟨rfl,m,u,lm,C,mc,v10,v11,rfl⟩;have out:txt m ∉ ns:=by
     rcases u with u | ⟨u,G⟩
     ·rwa[u]
     ·intro v;erw[Vc (l:=l) (p:=L) (r:=S) plt (ws:=ns) (by lia) λj hj=>?_];by_cases e:j+1<26
      ·rwa[G j e]
      ·rcases u with u | ⟨j0,e0,rfl⟩
       ·lia
       ·rw[show j=j0 by lia];rwa[v]
    exists _,U,.inl ⟨U,_,SqL.of R⟩,_,U,r,_,_,U,U,R,zK (by rw[ac]; lia);erw[ns++[txt m],s12.putNew N,?_,by rw[f7,ln]; rfl,λn X=>?_,?_,_,_,_,_,_,_,_,_,rfl]
    ·rw[zA,e7];rfl
    ·rcases i7.mp X with X | X
     ·rwa[M n X]
     ·rw[e8] at X;rw[X];rwa[cA (by lia) (by lia) mc]
    ·erw[Gp.mpr ⟨nd,by simp,λx hx y hy=>?_⟩];rw[e8] at hy;rw[hy];rwa[λz=>out (z ▸ hx)]
 ·rintro B H1 ⟨ns,s1,er,ln,M,nd,u4,u5,u6,u7,u8,u9,o,g,rfl⟩;rwa[_,rfl,q r ns H1 s1 N er (by rw[ln,i4]) M nd]
def uj(_:b9):Sp:=λc H Q _=>E4 λ(d:c5) (v:V) (S:BS) (D:Deed)=>A7 (c=[.ref d,v]) (Rep H D.dt v) (Ze H d S) (okD S D) (Few S) (gq S) (∀(d':c5)(a:Hp),Same H a->H d'=IS->LwN H a d' (aft S D)->Q (.ref d') a)
def dZ(F:Fun K "_law_after" "_law_after" vp f fd)(Z:Zs mg)(CB:Cb P w mg base)  : yN P w K mg base CX0 1 f fd ["_law_m","_law_deed"] (uj K):=by
 specialize lE
 ·obtain⟨d,v,S,D,rfl,_⟩:=h;rfl
 obtain⟨d,v,S,D,rfl,rep,⟨m,b,r,n,lw⟩,ok,few,fr,q⟩:=h;obtain⟨mk,hm,km⟩:=lw.ma;obtain⟨bk,hb,kb⟩:=lw.ba;obtain⟨rs,hr1,kr⟩:=lw.ru;obtain⟨Y,hn,kn⟩:=lw.no;have lm:mk.length=S.marks.length:=by rw[km.length,jp]
 have ln:Y.length=S.notes.length:=by rw[kn.length,al]
 have lr:rs.length=S.runs.length:=by rw[kr.length,ac]
 have fm:=few.ma;have fr':=few.ru;have fn:=few.no;have fb:=few.ba;have lb:bk.length=S.banks.length:=by rw[kb.length,WG]
 have dg:∀{H':Hp}{k:g8}{x:V},Same H H'->vR (lwK m b r n S.coming) (.inr k)=O x->aC H' d (.str k) (O x):=λ{H' k x} s e=>.inl ⟨_,.inr k,Rd.same lw.at_ s,rfl,e.symm⟩
 refine'⟨_,(zB (zS 2 lE.nd (iZ (wI zU (yT rQ rfl Z.dict wx (zI (zO (yB hr) (pv 0) zU (λ_ _=>rfl)) zN)) (wI zU (yT rQ rfl Z.dict wx (zI (zO (yB hr) (pv 0) zU (λ_ _=>rfl)) zN)) (wI zU (yT rm rfl Z.list qM (zI (zO (yB hr) (pv 0) zU (λ_ _=>rfl)) zN)) fo))) rfl rfl (λz=>nomatch z) (by decide)))
   (zB (uU (yB hr) (pv 2) zU (yT rQ rfl Z.dict wx (zI (zO (yB hr) (pv 0) zU (λ_ _=>rfl)) zN)) rfl)
   (zB (uU (yB hr) (pv 2) zU (zO (yB hr) (pv 0) zU (λ_ _=>rfl)) rfl)
   (zB (yO (xJ oH ?_ ?_ (by with_unfolding_all rfl)) (zD (uU (yB hr) (zO (yB hr) (pv 2) zU (λ_ _=>rfl)) ?_ (tI jW (pv 1) (rE xV) zp) rfl)) (zD (yO ?_ (zD (yA (pJ (zO (yB hr) (pv 2) zU (λ_ _=>rfl)) ?_ ⟨rfl,rfl,rfl,rfl⟩))) (zD (yO ?_ (zD (uU (yB hr) (zO (yB hr) (pv 2) zU (λ_ _=>rfl)) ?_ ?_ rfl)) (zD (yO ?_ (zD (yA (pJ (zO (yB hr) (pv 2) zU (λ_ _=>rfl)) ?_ ⟨rfl,rfl,rfl,rfl⟩))) (zD (yO ?_ (zD (yA (ug (zO (yB hr) (pv 2) zU (λ_ _=>rfl)) (zI (tI jW (pv 1) (rE xV) zp) zN)))) (zD (yO ?_ (zD (xo (tI jW (pv 1) (rE xV) zp) (UL (zO (yB hr) (pv 2) zU (λ_ _=>rfl)) ?_ YJ))) (zD (yO ?_ (zD (yA (pJ (zO (yB hr) (pv 2) zU (λ_ _=>rfl)) ?_ ⟨rfl,rfl,rfl,rfl⟩))) (zB (uU (yB hr) (zO (yB hr) (pv 2) zU (λ_ _=>rfl)) (zO (yB hr) (pv 0) zU (λ_ _=>rfl)) (pv 1) rfl)
   (zD (uU (yB hr) (pv 2) zU (tR fR (zO (yB hr) (pv 0) zU (λ_ _=>rfl)) xV) rfl))))))))))))))))
   (zD (zM (pv 2))))))),?_⟩
 nofun
 intro p hp;have s1:=zC hp (.dK []);erw[_,rfl,d,.ref m,rfl,dg s1 vM,m,mk,rfl,Rd.same hm s1,λI hmc=>?_];have s2:=s1.trans (zC hmc (.dK mk));erw[_,rfl,d,.ref b,rfl,dg s2 kB,b,bk,rfl,Rd.same hb s2,λL hbc=>?_];have s3:=s2.trans (zC hbc (.dK bk));erw[_,rfl,d,.ref r,rfl,dg s3 ub,r,rs,rfl,.inl (SqL.of (s3 _ _ hr1)),λM hrc=>?_];have s4:=s3.trans (zC hrc (.lst rs));have ep1:upd H p (.dK []) p=O (.dK []):=zA;have npm:p≠I:=zH ep1 hmc;have ep2:=(zC hmc (.dK mk)) _ _ ep1;have em2:upd (upd H p (.dK [])) I (.dK mk) I=O (.dK mk):=zA;have npb:p≠L:=zH ep2 hbc;have nmb:I≠L:=zH em2 hbc;have ep3:=(zC hbc (.dK bk)) _ _ ep2;have em3:=(zC hbc (.dK bk)) _ _ em2;have eb3:upd (upd (upd H p (.dK [])) I (.dK mk)) L (.dK bk) L=O (.dK bk):=zA;have npr:p≠M:=zH ep3 hrc;have nmr:I≠M:=zH em3 hrc;have nbr:L≠M:=zH eb3 hrc;have ep4:=(zC hrc (.lst rs)) _ _ ep3;have em4:=(zC hrc (.lst rs)) _ _ em3;have eb4:=(zC hrc (.lst rs)) _ _ eb3;have er4:upd (upd (upd (upd H p (.dK [])) I (.dK mk)) L (.dK bk)) M (.lst rs) M=O (.lst rs):=zA;generalize upd (upd (upd (upd H p (.dK [])) I (.dK mk)) L (.dK bk)) M (.lst rs)=H4 at s4 ep4 em4 eb4 er4;exists ep4,[(.inr "marks",.ref I),(.inr "banks",.ref L),(.inr "runs",.ref M)],U,(show 3<=15 by decide);rw[bY];have s5:Same H (upd H4 p (.dK [(.inr "marks",.ref I),(.inr "banks",.ref L),(.inr "runs",.ref M)])):=λx o e=>by rw[zF (zH e hp)]; rwa[s4 x o e]
 erw[_,rfl,d,.ref n,rfl,dg s5 sY,n,Y,rfl,Rd.same hn s5,λG hnc=>?_];have npn:p≠G:=zH zA hnc;have hnc4:H4 G=none:=by rw[zF npn.symm] at hnc; rwa[hnc]
 have nmn:I≠G:=zH em4 hnc4;have nbn:L≠G:=zH eb4 hnc4;have nrn:M≠G:=zH er4 hnc4;have s6:=s5.trans (zC hnc (.dK Y));exists _,U,p,_,U,mf.k (k:=.inr "notes") (by rw[zF npn,zA]) (zK (by show 3<=1000; decide));rw[VT];have s7:Same H (upd (upd (upd H4 p (.dK [(.inr "marks",.ref I),(.inr "banks",.ref L),(.inr "runs",.ref M)])) G (.dK Y)) p (.dK [(.inr "marks",.ref I),(.inr "banks",.ref L),(.inr "runs",.ref M),(.inr "notes",.ref G)])):=λx o e=>by rw[zF (zH e hp)]; rwa[s6 x o e]
 exists _,U,d,.int S.coming,U,dg s7 oj,_,U,p,_,U,mf.k (k:=.inr "next") zA (zK (by show 4<=1000; decide));rw[Wm];have keep:∀ x o,x≠p->x≠G->H4 x=O o->upd (upd (upd (upd H4 p (.dK [(.inr "marks",.ref I),(.inr "banks",.ref L),(.inr "runs",.ref M)])) G (.dK Y)) p (.dK [(.inr "marks",.ref I),(.inr "banks",.ref L),(.inr "runs",.ref M),(.inr "notes",.ref G)])) p (.dK [(.inr "marks",.ref I),(.inr "banks",.ref L),(.inr "runs",.ref M),(.inr "notes",.ref G),(.inr "next",.int S.coming)]) x=O o:=λx o h1 h2 e=>by
  rw[zF h1,zF h1,zF h2,zF h1]; rwa[e]
 have em:=keep _ _ npm.symm nmn em4;have eb:=keep _ _ npb.symm nbn eb4;have er:=keep _ _ npr.symm nrn er4;have s8:Same H _:=λx o e=>keep x o (zH e hp) (zH (s5 _ _ e) hnc) (s4 _ _ e);have en:upd (upd (upd (upd H4 p (.dK [(.inr "marks",.ref I),(.inr "banks",.ref L),(.inr "runs",.ref M)])) G (.dK Y)) p (.dK [(.inr "marks",.ref I),(.inr "banks",.ref L),(.inr "runs",.ref M),(.inr "notes",.ref G)])) p (.dK [(.inr "marks",.ref I),(.inr "banks",.ref L),(.inr "runs",.ref M),(.inr "notes",.ref G),(.inr "next",.int S.coming)]) G=O (.dK Y):=by rw[zF npn.symm,zF npn.symm,zA]
 have ep:upd (upd (upd (upd H4 p (.dK [(.inr "marks",.ref I),(.inr "banks",.ref L),(.inr "runs",.ref M)])) G (.dK Y)) p (.dK [(.inr "marks",.ref I),(.inr "banks",.ref L),(.inr "runs",.ref M),(.inr "notes",.ref G)])) p (.dK [(.inr "marks",.ref I),(.inr "banks",.ref L),(.inr "runs",.ref M),(.inr "notes",.ref G),(.inr "next",.int S.coming)]) p=O (.dK [(.inr "marks",.ref I),(.inr "banks",.ref L),(.inr "runs",.ref M),(.inr "notes",.ref G),(.inr "next",.int S.coming)]):=zA;clear keep s7 s6;generalize upd (upd (upd (upd H4 p (.dK [(.inr "marks",.ref I),(.inr "banks",.ref L),(.inr "runs",.ref M)])) G (.dK Y)) p (.dK [(.inr "marks",.ref I),(.inr "banks",.ref L),(.inr "runs",.ref M),(.inr "notes",.ref G)])) p (.dK [(.inr "marks",.ref I),(.inr "banks",.ref L),(.inr "runs",.ref M),(.inr "notes",.ref G),(.inr "next",.int S.coming)])=H8 at s8 ep em eb er en ⊢;have ep:H8 p=O (.dK (lwK I L M G S.coming)):=ep;have km8:=km.to (.of s8);have kb8:=kb.to (.of s8);have kr8:=kr.to (.of s8);have kn8:=kn.to (.of s8);have rep8:=rep.to (.of s8);have nmH:H I=none:=s1.free hmc;have nrH:H M=none:=s3.free hrc;have nbH:H L=none:=s2.free hbc;have nnH:H G=none:=s5.free hnc;obtain⟨t,xs,rfl,ht⟩:=Wf rep8;erw[_,rfl,t,_,0,.str (Wo D),rfl,rfl,.inr (SqT.of ht),tP (xs:=.str (Wo D)::xs) (j:=0) rfl,sz2,λz hz=>?_];have sz:=zC hz (.tup [.str "mark",.str "move"]);exists z,_,U,.inr (SqT.of zA),U,U,_,rfl;have s9:=s8.trans sz;have N:=sz _ _ ep;have X:=sz _ _ em;have T:=sz _ _ eb;have er9:=sz _ _ er;have R:=sz _ _ en;have km9:=km8.to (.of sz);have kb9:=kb8.to (.of sz);have kr9:=kr8.to (.of sz);have kn9:=kn8.to (.of sz);have a:=rep8.to (.of sz);generalize upd H8 z (.tup [.str "mark",.str "move"])=H9 at s9 N X T er9 R km9 kb9 kr9 kn9 a ⊢
 match D,a,ok,q with
 | .mark nm x y,a,ok,q =>
  obtain⟨_,e0,g⟩:=fu a;cases e0;have J:Sq K H9 t _:=.inr (SqT.of g);erw[qr ?_];refine⟨_,U,_,U,t,_,U,SqT.of g,(λz=>x4 z.1 (by show ¬ HT.sIx 4 0 (O 2)=0; decide)),λc hc=>?_⟩;have u:=zC hc (.tup [.int x,.int y]);have em10:=u _ _ X;exists _,U,p,.ref I,U,.inl ⟨_,.inr "marks",.inl (u _ _ N),U,vM.symm⟩,_,U,t,_,1,.str nm,U,U,.inr (SqT.of (u _ _ g)),U,I,_,U,mf.k (k:=.inr nm) em10 (zK (by lia)),_,rfl;have B:=xZ (o:=.dK (sC mk (.inr nm) (.ref c))) em10;have C:=nQ em10;erw[q p _ (λx o e=>by rw[zF (zH e nmH)]; rwa[u _ _ (s9 _ _ e)]) hp ⟨I,L,M,G,nrH,.inl ?_,⟨_,.inl zA,?_⟩,⟨bk,.inl ?_,(kb9.to (.of u)).sam B C⟩,⟨rs,?_,(kr9.to (.of u)).sam B C⟩,⟨Y,.inl ?_,(kn9.to (.of u)).sam B C⟩⟩]
  ·rw[zF npm]; rwa[u _ _ N]
  ·have:=((km9.to (.of u)).put (k:=.inr nm) (zv (p:=(x,y)) zA)).sam B C;rw[sM (lX ok.2.1)] at this;show xY _ _ (mkE (S.marks++[(nm,x,y)]));rw[gC];rwa[this]
  ·rw[zF nmb.symm]; rwa[u _ _ T]
  ·rw[zF nmr.symm]; rwa[u _ _ er9]
  ·rw[zF nmn.symm]; rwa[u _ _ R]
 | .move nm x y,a,ok,q =>
  obtain⟨_,e0,g⟩:=VS a;cases e0;have J:Sq K H9 t _:=.inr (SqT.of g);erw[qr ?_];refine⟨_,U,_,U,t,_,U,SqT.of g,(λz=>x4 z.1 (by show ¬ HT.sIx 4 0 (O 2)=0; decide)),λc hc=>?_⟩;have u:=zC hc (.tup [.int x,.int y]);have em10:=u _ _ X;exists _,U,p,.ref I,U,.inl ⟨_,.inr "marks",.inl (u _ _ N),U,vM.symm⟩,_,U,t,_,1,.str nm,U,U,.inr (SqT.of (u _ _ g)),U,I,_,U,mf.k (k:=.inr nm) em10 (zK (by lia)),_,rfl;have B:=xZ (o:=.dK (sC mk (.inr nm) (.ref c))) em10;have C:=nQ em10;erw[q p _ (λx o e=>by rw[zF (zH e nmH)]; rwa[u _ _ (s9 _ _ e)]) hp ⟨I,L,M,G,nrH,.inl ?_,⟨_,.inl zA,?_⟩,⟨bk,.inl ?_,(kb9.to (.of u)).sam B C⟩,⟨rs,?_,(kr9.to (.of u)).sam B C⟩,⟨Y,.inl ?_,(kn9.to (.of u)).sam B C⟩⟩]
  ·rw[zF npm]; rwa[u _ _ N]
  ·have:=((km9.to (.of u)).put (k:=.inr nm) (zv (p:=(x,y)) zA)).sam B C;rw[VF ok.1] at this;rwa[this]
  ·rw[zF nmb.symm]; rwa[u _ _ T]
  ·rw[zF nmr.symm]; rwa[u _ _ er9]
  ·rw[zF nmn.symm]; rwa[u _ _ R]
 | .unmark nm,a,ok,q =>
  obtain⟨_,e0,g⟩:=cQ a;cases e0;have J:Sq K H9 t _:=.inr (SqT.of g);erw[wX ?_];exists _,U,t,_,0,.str "unmark",U,U,J,U,U,_,rfl;erw[qr ?_];obtain⟨pm,epm⟩:=i3.mp ok.1;obtain⟨v,ev,_⟩:=km9.get (k:=.inr nm) (d:=ptD pm) (by rw[um,epm]; rfl);exists _,U,p,.ref I,U,.inl ⟨_,.inr "marks",.inl N,U,vM.symm⟩,I,U,.inl ⟨mk,.inl X⟩,_,U,t,_,1,.str nm,U,U,J,U,mk,.inr nm,v,X,U,ev,_,rfl;have B:=xZ (o:=.dK (qo mk (.inr nm))) X;have C:=nQ X;erw[q p _ (λx o e=>by rw[zF (zH e nmH)]; rwa[s9 _ _ e]) hp ⟨I,L,M,G,nrH,.inl ?_,⟨_,.inl zA,?_⟩,⟨bk,.inl ?_,kb9.sam B C⟩,⟨rs,?_,kr9.sam B C⟩,⟨Y,.inl ?_,kn9.sam B C⟩⟩]
  ·rw[zF npm]; rwa[N]
  ·have:=(km9.drop (k:=.inr nm)).sam B C;rw[Xl] at this;rwa[this]
  ·rw[zF nmb.symm]; rwa[T]
  ·rw[zF nmr.symm]; rwa[er9]
  ·rw[zF nmn.symm]; rwa[R]
 | .bank nm cs,a,ok,q =>
  obtain⟨_,cc,ps,e0,g,hcc,cn,rc0⟩:=Zl a;cases e0;have J:Sq K H9 t _:=.inr (SqT.of g);erw[wX ?_];exists _,U,t,_,0,.str "bank",U,U,J,U,U,_,rfl;erw[wX ?_];exists _,U,t,_,0,.str "bank",U,U,J,U,U,_,rfl;erw[qr ?_];obtain⟨_,_,_,e0,h0,_,_,rc9⟩:=Zl a;cases e0;rw[g] at h0;cases h0;exists _,U,t,_,2,.ref cc,U,U,J,U,_,U,p,.ref L,U,.inl ⟨_,.inr "banks",.inl N,U,kB.symm⟩,_,U,t,_,1,.str nm,U,U,J,U,L,_,U,mf.k (k:=.inr nm) T (zK (by lia)),_,rfl;have B:=xZ (o:=.dK (sC bk (.inr nm) (.ref cc))) T;have C:=nQ T;erw[q p _ (λx o e=>by rw[zF (zH e nbH)]; rwa[s9 _ _ e]) hp ⟨I,L,M,G,nrH,.inl ?_,⟨mk,.inl ?_,km9.sam B C⟩,⟨_,.inl zA,?_⟩,⟨rs,?_,kr9.sam B C⟩,⟨Y,.inl ?_,kn9.sam B C⟩⟩]
  ·rw[zF npb]; rwa[N]
  ·rw[zF nmb]; rwa[X]
  ·have:=(kb9.put (k:=.inr nm) rc9).sam B C;rw[sM (Xq ok.2.1)] at this;show xY _ _ (bkE (S.banks++[(nm,cs)]));rw[WU];rwa[this]
  ·rw[zF nbr.symm]; rwa[er9]
  ·rw[zF nbn.symm]; rwa[R]
 | .level nm,a,ok,q =>
  obtain⟨_,e0,g⟩:=Yt a;cases e0;have J:Sq K H9 t _:=.inr (SqT.of g);erw[wX ?_];exists _,U,t,_,0,.str "level",U,U,J,U,U,_,rfl;erw[wX ?_];exists _,U,t,_,0,.str "level",U,U,J,U,U,_,rfl;erw[wX ?_];exists _,U,t,_,0,.str "level",U,U,J,U,U,_,rfl;erw[qr ?_];obtain⟨dv,lk⟩:=Tp (l:=S.banks) ok;obtain⟨v,ev,_⟩:=kb9.get lk;exists _,U,p,.ref L,U,.inl ⟨_,.inr "banks",.inl N,U,kB.symm⟩,L,U,.inl ⟨bk,.inl T⟩,_,U,t,_,1,.str nm,U,U,J,U,bk,.inr nm,v,T,U,ev,_,rfl;have B:=xZ (o:=.dK (qo bk (.inr nm))) T;have C:=nQ T;erw[q p _ (λx o e=>by rw[zF (zH e nbH)]; rwa[s9 _ _ e]) hp ⟨I,L,M,G,nrH,.inl ?_,⟨mk,.inl ?_,km9.sam B C⟩,⟨_,.inl zA,?_⟩,⟨rs,?_,kr9.sam B C⟩,⟨Y,.inl ?_,kn9.sam B C⟩⟩]
  ·rw[zF npb]; rwa[N]
  ·rw[zF nmb]; rwa[X]
  ·have:=(kb9.drop (k:=.inr nm)).sam B C;rw[Yc] at this;rwa[this]
  ·rw[zF nbr.symm]; rwa[er9]
  ·rw[zF nbn.symm]; rwa[R]
 | .right k x y,a,ok,q =>
  obtain⟨_,e0,g⟩:=YK a;cases e0;have J:Sq K H9 t _:=.inr (SqT.of g);erw[wX ?_];exists _,U,t,_,0,.str "right",U,U,J,U,U,_,rfl;erw[wX ?_];exists _,U,t,_,0,.str "right",U,U,J,U,U,_,rfl;erw[wX ?_];exists _,U,t,_,0,.str "right",U,U,J,U,U,_,rfl;erw[wX ?_];exists _,U,t,_,0,.str "right",U,U,J,U,U,_,rfl;erw[wX ?_];exists _,U,t,_,0,.str "right",U,U,J,U,U,_,rfl;erw[qr ?_];refine⟨_,U,_,U,t,_,U,SqT.of g,(λz=>x4 z.1 (by show ¬ HT.sIx 4 0 (O 2)=0; decide)),λc hc=>?_⟩;have u:=zC hc (.tup [.int x,.int y]);have er10:=u _ _ er9;obtain⟨i,rfl⟩:=Bm ok.1;have hi:i<S.runs.length:=by have:=ok.2.1; lia
  exists _,U,p,.ref M,U,.inl ⟨_,.inr "runs",.inl (u _ _ N),U,ub.symm⟩,_,U,t,_,1,.int (i:Int),U,U,.inr (SqT.of (u _ _ g)),U,M,rs,(i:Int),i,U,U,er10,Tv (by rw[lr]; rwa[hi]),_,rfl;have B:=xZ (o:=.lst (rs.set i (.ref c))) er10;have C:=uF er10;erw[q p _ (λx o e=>by rw[zF (zH e nrH)]; rwa[u _ _ (s9 _ _ e)]) hp ⟨I,L,M,G,nrH,.inl ?_,⟨mk,.inl ?_,(km9.to (.of u)).sam B C⟩,⟨bk,.inl ?_,(kb9.to (.of u)).sam B C⟩,⟨_,zA,?_⟩,⟨Y,.inl ?_,(kn9.to (.of u)).sam B C⟩⟩]
  ·rw[zF npr]; rwa[u _ _ N]
  ·rw[zF nmr]; rwa[u _ _ X]
  ·rw[zF nbr]; rwa[u _ _ T]
  ·show xS _ ((S.runs.set i (x,y)).map ptD) _;rw[List.map_set];exact(xS.set (zv (p:=(x,y)) zA) i (kr9.to (.of u))).sam B C
  ·rw[zF nrn.symm]; rwa[u _ _ R]
 | .sail x y,a,ok,q =>
  obtain⟨_,e0,g⟩:=ft a;cases e0;have J:Sq K H9 t _:=.inr (SqT.of g);erw[wX ?_];exists _,U,t,_,0,.str "sail",U,U,J,U,U,_,rfl;erw[wX ?_];exists _,U,t,_,0,.str "sail",U,U,J,U,U,_,rfl;erw[wX ?_];exists _,U,t,_,0,.str "sail",U,U,J,U,U,_,rfl;erw[wX ?_];exists _,U,t,_,0,.str "sail",U,U,J,U,U,_,rfl;erw[qr ?_];refine⟨_,U,p,.ref M,U,.inl ⟨_,.inr "runs",.inl N,U,ub.symm⟩,.inl ⟨U,_,SqL.of er9⟩,_,U,_,U,t,_,U,SqT.of g,(λz=>x4 z.1 (by show ¬ HT.sIx 3 0 (O 1)=0; decide)),λc hc=>?_⟩;have u:=zC hc (.tup [.int x,.int y]);have er10:=u _ _ er9;exists M,_,.ref c,U,U,er10,zK (by lia),_,rfl;have B:=xZ (o:=.lst (rs++[.ref c])) er10;have C:=uF er10;erw[q p _ (λx o e=>by rw[zF (zH e nrH)]; rwa[u _ _ (s9 _ _ e)]) hp ⟨I,L,M,G,nrH,.inl ?_,⟨mk,.inl ?_,(km9.to (.of u)).sam B C⟩,⟨bk,.inl ?_,(kb9.to (.of u)).sam B C⟩,⟨_,zA,?_⟩,⟨Y,.inl ?_,(kn9.to (.of u)).sam B C⟩⟩]
  ·rw[zF npr]; rwa[u _ _ N]
  ·rw[zF nmr]; rwa[u _ _ X]
  ·rw[zF nbr]; rwa[u _ _ T]
  ·show xS _ ((S.runs++[(x,y)]).map ptD) _;rw[e7];exact(xS.app (kr9.to (.of u)) (.one (zv (p:=(x,y)) zA))).sam B C
  ·rw[zF nrn.symm]; rwa[u _ _ R]
 | .bearing mo nm x1 y1 x2 y2,a,ok,q =>
  obtain⟨_,_,_,e0,g,_⟩:=tK a;cases e0;have J:Sq K H9 t _:=.inr (SqT.of g);erw[wX ?_];exists _,U,t,_,0,.str "bearing",U,U,J,U,U,_,rfl;erw[wX ?_];exists _,U,t,_,0,.str "bearing",U,U,J,U,U,_,rfl;erw[wX ?_];exists _,U,t,_,0,.str "bearing",U,U,J,U,U,_,rfl;erw[wX ?_];exists _,U,t,_,0,.str "bearing",U,U,J,U,U,_,rfl;erw[wX ?_];exists _,U,t,_,0,.str "bearing",U,U,J,U,U,_,rfl;erw[wX ?_];exists _,U,t,_,0,.str "bearing",U,U,J,U,U,_,rfl;erw[wX ?_];exists _,U,_,U,p,.ref G,U,.inl ⟨_,.inr "notes",.inl N,U,sY.symm⟩,_,U,d,.int S.coming,U,dg s9 oj,G,_,U,mf.k (k:=.inl S.coming) R (zK (by lia));have B:=xZ (o:=.dK (sC Y (.inl S.coming) (.ref t))) R;have C:=nQ R;have s10:Same H (upd H9 G (.dK (sC Y (.inl S.coming) (.ref t)))):=λx o e=>by rw[zF (zH e nnH)]; rwa[s9 _ _ e]
  have ep10:upd H9 G (.dK (sC Y (.inl S.coming) (.ref t))) p=O (.dK (lwK I L M G S.coming)):=by rw[zF npn]; rwa[N]
  exists _,U,d,.int S.coming,U,dg s10 oj,_,_,U,U,_,U,p,_,U,mf.k (k:=.inr "next") ep10 (zK (by show 5<=1000; decide)),_,rfl;rw[pY];have sE2:=xZ (o:=.dK (lwK I L M G (S.coming+1))) ep10;have np2:=nQ ep10;erw[q p _ (λx o e=>by rw[zF (zH e hp)]; rwa[s10 _ _ e]) hp ⟨I,L,M,G,nrH,.inl zA,⟨mk,.inl ?_,(km9.sam B C).sam sE2 np2⟩,⟨bk,.inl ?_,(kb9.sam B C).sam sE2 np2⟩,⟨rs,?_,(kr9.sam B C).sam sE2 np2⟩,⟨sC Y (.inl S.coming) (.ref t),.inl ?_,?_⟩⟩]
  ·rw[zF npm.symm,zF nmn]; rwa[X]
  ·rw[zF npb.symm,zF nbn]; rwa[T]
  ·rw[zF npr.symm,zF nrn]; rwa[er9]
  ·rw[zF npn.symm,zA]
  ·have:=((kn9.put (k:=.inl S.coming) a).sam B C).sam sE2 np2;rw[sM (kO fr)] at this;show xY _ _ (ntE (S.notes++[(S.coming,_)]));rw[gG];rwa[this]
 | .range mo l1 r1,a,ok,q =>
  obtain⟨_,e0,g⟩:=xy a;cases e0;have J:Sq K H9 t _:=.inr (SqT.of g);erw[wX ?_];exists _,U,t,_,0,.str "range",U,U,J,U,U,_,rfl;erw[wX ?_];exists _,U,t,_,0,.str "range",U,U,J,U,U,_,rfl;erw[wX ?_];exists _,U,t,_,0,.str "range",U,U,J,U,U,_,rfl;erw[wX ?_];exists _,U,t,_,0,.str "range",U,U,J,U,U,_,rfl;erw[wX ?_];exists _,U,t,_,0,.str "range",U,U,J,U,U,_,rfl;erw[wX ?_];exists _,U,t,_,0,.str "range",U,U,J,U,U,_,rfl;erw[wX ?_];exists _,U,_,U,p,.ref G,U,.inl ⟨_,.inr "notes",.inl N,U,sY.symm⟩,_,U,d,.int S.coming,U,dg s9 oj,G,_,U,mf.k (k:=.inl S.coming) R (zK (by lia));have B:=xZ (o:=.dK (sC Y (.inl S.coming) (.ref t))) R;have C:=nQ R;have s10:Same H (upd H9 G (.dK (sC Y (.inl S.coming) (.ref t)))):=λx o e=>by rw[zF (zH e nnH)]; rwa[s9 _ _ e]
  have ep10:upd H9 G (.dK (sC Y (.inl S.coming) (.ref t))) p=O (.dK (lwK I L M G S.coming)):=by rw[zF npn]; rwa[N]
  exists _,U,d,.int S.coming,U,dg s10 oj,_,_,U,U,_,U,p,_,U,mf.k (k:=.inr "next") ep10 (zK (by show 5<=1000; decide)),_,rfl;rw[pY];have sE2:=xZ (o:=.dK (lwK I L M G (S.coming+1))) ep10;have np2:=nQ ep10;erw[q p _ (λx o e=>by rw[zF (zH e hp)]; rwa[s10 _ _ e]) hp ⟨I,L,M,G,nrH,.inl zA,⟨mk,.inl ?_,(km9.sam B C).sam sE2 np2⟩,⟨bk,.inl ?_,(kb9.sam B C).sam sE2 np2⟩,⟨rs,?_,(kr9.sam B C).sam sE2 np2⟩,⟨sC Y (.inl S.coming) (.ref t),.inl ?_,?_⟩⟩]
  ·rw[zF npm.symm,zF nmn]; rwa[X]
  ·rw[zF npb.symm,zF nbn]; rwa[T]
  ·rw[zF npr.symm,zF nrn]; rwa[er9]
  ·rw[zF npn.symm,zA]
  ·have:=((kn9.put (k:=.inl S.coming) a).sam B C).sam sE2 np2;rw[sM (kO fr)] at this;show xY _ _ (ntE (S.notes++[(S.coming,_)]));rw[gG];rwa[this]
 | .strike k,a,ok,q =>
  obtain⟨_,e0,g⟩:=oU a;cases e0;have J:Sq K H9 t _:=.inr (SqT.of g);erw[wX ?_];exists _,U,t,_,0,.str "strike",U,U,J,U,U,_,rfl;erw[wX ?_];exists _,U,t,_,0,.str "strike",U,U,J,U,U,_,rfl;erw[wX ?_];exists _,U,t,_,0,.str "strike",U,U,J,U,U,_,rfl;erw[wX ?_];exists _,U,t,_,0,.str "strike",U,U,J,U,U,_,rfl;erw[wX ?_];exists _,U,t,_,0,.str "strike",U,U,J,U,U,_,rfl;erw[wX ?_];exists _,U,t,_,0,.str "strike",U,U,J,U,U,_,rfl;erw[qr ?_];obtain⟨dv,lk⟩:=ju (l:=S.notes) ok;obtain⟨v,ev,_⟩:=kn9.get lk;exists _,U,p,.ref G,U,.inl ⟨_,.inr "notes",.inl N,U,sY.symm⟩,G,U,.inl ⟨Y,.inl R⟩,_,U,t,_,1,.int k,U,U,J,U,Y,.inl k,v,R,U,ev,_,rfl;have B:=xZ (o:=.dK (qo Y (.inl k))) R;have C:=nQ R;erw[q p _ (λx o e=>by rw[zF (zH e nnH)]; rwa[s9 _ _ e]) hp ⟨I,L,M,G,nrH,.inl ?_,⟨mk,.inl ?_,km9.sam B C⟩,⟨bk,.inl ?_,kb9.sam B C⟩,⟨rs,?_,kr9.sam B C⟩,⟨_,.inl zA,?_⟩⟩]
  ·rw[zF npn]; rwa[N]
  ·rw[zF nmn]; rwa[X]
  ·rw[zF nbn]; rwa[T]
  ·rw[zF nrn]; rwa[er9]
  ·have:=(kn9.drop (k:=.inl k)).sam B C;rw[fV] at this;rwa[this]
def kY(_:b9):Sp:=λa H Q _=>E2 λ(x y:Int)=>a=[.int x,.int y]/\Q (.int (w9 x.natAbs y.natAbs)) H
def YF(F:Fun K "_law_low" "_law_low" kM f fd)(Z:Zs mg):yN P w K mg base CX0 1 f fd ["_law_one","_law_other"] (kY K):=by
 specialize pI
 ·obtain⟨x,y,rfl,_⟩:=h;rfl
 obtain⟨x,y,rfl,q⟩:=h
 refine'⟨_,(zB (zS 0 pI.nd ?_)
   (zB (zS 1 pI.nd ?_)
   (zB (pH l9 ?_ (zD (li (i:=0) (j:=1) rfl pI.nd rfl rfl (by decide) rfl rfl ?_ rfl)))
   (zD (zM (pv 0)))))),?_⟩
 nofun
 exists _,U,_,U,_,U,_,rfl;refine uu (λc g=>g=H/\E2 λ(a b:Int)=>A4 (c=[O (.int a),O (.int b)]) (0<=a) (0<=b) (w9 a.toNat b.toNat=w9 x.natAbs y.natAbs))
  (λc _=>match c with | [_,O (.int b)]=>b.toNat | _=>0) ⟨rfl,_,_,rfl,by split <;> lia,by split <;> lia,by rw[fL,fL]; rfl⟩ ?_ (λc H Q r m z=>by
   obtain⟨v,l,i,j,p,o,k,n,z⟩:=z;rwa[v,l,i,j,p,o,k,n,m _ _ z])
 rintro c g ⟨rfl,a,b,rfl,h1,h2,h3⟩;exists _,U,_,_,U,U,_,rfl;erw[ifD (λd=>?_) (λd=>?_)]
 ·erw[_,rfl,_,rfl,_,rfl,_,_,rfl,rfl,d,_,_,rfl,⟨rfl,_,_,rfl,h2,Ak a (by lia),?_⟩,?_]
  ·rw[kZ h1 d]; rwa[h3]
  ·have h4:=r9 a d;show(a%b).toNat<b.toNat;lia
 ·exists _,rfl;have e:b=0:=by lia
  subst e;have h5:a=((w9 x.natAbs y.natAbs:Nat):Int):=by
   rw[<- h3];show a=((w9 a.toNat 0:Nat):Int);rw[Ek];lia
  rw[h5];rwa[q]
def oY(K:b9):Sp:=λe H Q _=>E4 λ(t:c5) (a b c:Int)=>A5 (e=[.ref t]) (SqT K H t [.int a,.int b,.int c]) (0<yF [a,b,c]) ((yF [a,b,c]:Int)<10^600) (∀(p:c5)(d:Hp),Same H d->H p=IS->d p=O (.tup ((rF [a,b,c]).map V.int))->Q (.ref p) d)
def fv(F:Fun K "_law_lowest" "_law_lowest" xx f fd)(Z:Zs mg)(o:Cb P w mg base)(j:Has P w K mg base "_law_low" 1 ["_law_one","_law_other"] (kY K)):yN P w K mg base CX0 2 f fd ["_law_side"] (oY K):=by
 specialize nY
 ·obtain⟨t,a,b,c,rfl,_⟩:=h;rfl
 obtain⟨t,a,b,c,rfl,l,n,m,q⟩:=h
 refine'⟨_,(zB (zS 1 nY.nd ?_)
   (zD (zM ?_))),?_⟩
 nofun
 have d:Sq K H t _:=.inr l;exists _,U,t,_,0,.int a,U,U,d,U,_,U,t,_,1,.int b,U,U,d,U,_,_,U,_,U,t,_,2,.int c,U,U,d,U,_,_,rfl;have e:((w9 (((w9 a.natAbs b.natAbs:Nat):Int).natAbs) c.natAbs:Nat):Int)=(yF [a,b,c]:Int):=by
  rw[uk,Eg]
 rw[e];have g:∀ x:Int,zm x (yF [a,b,c]):=λx=>.of (by lia) m;erw[_,rfl,t,_,0,.int a,rfl,rfl,d,rfl,_,rfl,_,_,rfl,rfl,g _,_,rfl,t,_,1,.int b,rfl,rfl,d,rfl,_,rfl,_,_,rfl,rfl,g _,_,rfl,t,_,2,.int c,rfl,rfl,d,rfl,_,rfl,_,_,rfl,rfl,g _,sz3,λp i=>?_];rwa[q p _ (zC i _) i zA]
def rj(_:b9):Sp:=λg H Q _=>E4 λ(d:c5) (v:V) (S:BS) (D:Deed)=>A6 (g=[.ref d,v]) (Rep H D.dt v) (Ze H d S) (rO S D) (∀ e∈S.marks,vw e.2) (∀(l:c5)(c:List c5)(a:Hp),Same H a->a l=O (.lst (c.map V.ref))->yI a c (vT S D)->Q (.ref l) a)
def jl(F:Fun K "_law_rows_of" "_law_rows_of" qP f fd)(Z:Zs mg)(CB:Cb P w mg base)(yCa:Has P w K mg base "_law_lowest" 2 ["_law_side"] (oY K)):yN P w K mg base CX0 3 f fd ["_law_m","_law_note"] (rj K):=by
 specialize yR
 ·obtain⟨d,v,S,D,rfl,_⟩:=h;rfl
 obtain⟨d,v,S,D,rfl,rep,⟨m,b,r,n,N⟩,kn,nr,q⟩:=h;have dm:∀{H':Hp},Same H H'->aC H' d (.str "marks") (O (.ref m)):=λ{H'} s=>.inl ⟨_,.inr "marks",Rd.same N.at_ s,rfl,vM.symm⟩;have zb:∀{ns:List Int}{M:Nat},(∃ x∈ns,x≠0/\x.natAbs<=M)->M<=10^9->0<yF ns/\(yF ns:Int)<10^600:=λ{ns M} h hM=>by
  obtain⟨h1,h2⟩:=Yo h;erw[h1,B6 (b:=(10:Int)^9) (by lia) (by ac_nf)]
 refine'⟨_,(zB (xo (zO (yB hr) (zO (yB hr) (pv 0) zU (λ_ _=>rfl)) ?_ (λ_ _=>rfl)) (uS rfl (zT (xR 2 yR.nd) (zT (xR 3 yR.nd) xT))))
   (zB (yO ?_ (zB (li (i:=4) (j:=5) rfl yR.nd rfl rfl (by decide) rfl rfl (zI (pv 2) (zI (pv 3) zN)) rfl)
   (zB (xo (zO (yB hr) (zO (yB hr) (pv 0) zU (λ_ _=>rfl)) ?_ (λ_ _=>rfl)) (uS rfl (zT (xR 2 yR.nd) (zT (xR 3 yR.nd) xT))))
   (zD (zM ?_)))) zX)
   (zB (xo ?_ (uS rfl (zT (xR 6 yR.nd) (zT (xR 7 yR.nd) xT))))
   (zB (xo ?_ (uS rfl (zT (xR 8 yR.nd) (zT (xR 9 yR.nd) xT))))
   (zD (zM ?_)))))),?_⟩
 nofun
 cases D with
 | bearing mo nm B u o l =>
  obtain⟨t,p1,p2,rfl,ht,h1,h2⟩:=tK rep;obtain⟨_,_,hn,w1,w2⟩:=kn;obtain⟨pt,a⟩:=i3.mp hn;obtain⟨p,pa,hm,g1,g2⟩:=tV N.ma a;obtain⟨n1,n2,n3,n4⟩:=xX nr a;have g:Sq K H t _:=.inr (SqT.of ht);exists _,U,d,.ref m,U,dm (Same.refl _),_,U,t,_,2,.str nm,U,U,g,U,m,.ref pa,U,.inl ⟨p,.inr nm,hm,U,g1.symm⟩;exists pa,_,U,SqT.of g2,U,.int pt.1,_,U,.int pt.2,_,U,rfl;exists _,U,t,_,0,.str "bearing",U,U,g,U,U,_,rfl;refine wX ?_;exists _,U,t,_,3,.ref p1,U,U,g,U,p1,_,U,SqT.of h1,U,.int B,_,U,.int u,_,U,rfl;exists _,U,t,_,4,.ref p2,U,U,g,U,p2,_,U,SqT.of h2,U,.int o,_,U,.int l,_,U,rfl;obtain⟨w10,w11,w12,w13,w14⟩:=w1;obtain⟨w20,w21,Y,X,T⟩:=w2;dsimp only at w11 w12 w13 w14 w21 Y X T;refine⟨_,U,_,U,_,U,_,U,_,U,_,_,U,U,vK (by lia),_,U,_,U,_,_,U,U,vK (by lia),_,_,U,U,sz3,λx hx=>?_⟩;have sx:=zC hx (.tup [.int (-u),.int B,.int (B*pt.2-u*pt.1)]);have G:∃ x∈[-u,B,B*pt.2-u*pt.1],x≠0/\x.natAbs<=100:=by
   rcases C6 (B=0) with z | z
   ·exact⟨-u,.head _,λz'=>w10 (by rw[z,show u=0 by lia]),by lia⟩
   ·rwa[B,.tail _ (.head _),z,by lia]
  have z2:∃ x∈[l,-o,l*pt.1-o*pt.2],x≠0/\x.natAbs<=100:=by
   rcases C6 (l=0) with z | z
   ·exact⟨-o,.tail _ (.head _),λz'=>w20 (by rw[z,show o=0 by lia]),by lia⟩
   ·rwa[l,.head _,z,by lia]
  erw[x,_,_,_,rfl,SqT.of zA,(zb G (by decide)).1,(zb G (by decide)).2,λy H1 s1 hy ey=>?_];erw[_,rfl,_,rfl,_,rfl,_,rfl,_,rfl,_,_,rfl,rfl,vK (by lia),_,rfl,_,rfl,_,_,rfl,rfl,vK (by lia),_,_,rfl,rfl,sz3,λx2 hx2=>?_];have I:=zC hx2 (.tup [.int l,.int (-o),.int (l*pt.1-o*pt.2)]);erw[x2,_,_,_,rfl,SqT.of zA,(zb z2 (by decide)).1,(zb z2 (by decide)).2,λR H2 s2 hy2 ey2=>⟨sz2,λL hL=>?_⟩];have C:=zC hL (.lst [.ref y,.ref R]);erw[q L [y,R] _ (sx.trans (s1.trans (I.trans (s2.trans C)))) zA ?_];show yI _ ([y]++[R]) ([_]++[_]);rw[xH a,l7 pt.1 l,l7 pt.2 o];exact(yI.one ((I.trans (s2.trans C)) _ _ ey)).app (.one (C _ _ ey2))
 | range mo l1 r1 =>
  obtain⟨t,rfl,ht⟩:=xy rep;obtain⟨_,_,hl,hr',ne⟩:=kn;obtain⟨pt,a⟩:=i3.mp hl;obtain⟨c,e⟩:=i3.mp hr';obtain⟨p,pa,hm,g1,g2⟩:=tV N.ma a;obtain⟨J,pb,hm',g3,g4⟩:=tV N.ma e;obtain⟨n1,n2,n3,n4⟩:=xX nr a;obtain⟨n5,n6,n7,n8⟩:=xX nr e;have g:Sq K H t _:=.inr (SqT.of ht);exists _,U,d,.ref m,U,dm (Same.refl _),_,U,t,_,2,.str l1,U,U,g,U,m,.ref pa,U,.inl ⟨p,.inr l1,hm,U,g1.symm⟩;exists pa,_,U,SqT.of g2,U,.int pt.1,_,U,.int pt.2,_,U,rfl;exists _,U,t,_,0,.str "range",U,U,g,U,U,_,rfl;refine qr ?_;exists _,U,_,U,_,_,rfl;exists _,U,d,.ref m,U,dm (Same.refl _),_,U,t,_,3,.str r1,U,U,g,U,m,.ref pb,U,.inl ⟨J,.inr r1,hm',U,g3.symm⟩,pb,_,U,SqT.of g4,U,.int c.1,_,U,.int c.2,_,U,rfl;refine⟨_,U,_,U,_,_,U,U,_,U,_,U,_,_,U,U,_,U,_,U,_,_,U,U,vK (by lia),_,U,_,U,_,_,U,U,vK (by lia),_,_,U,U,sz3,λx hx=>?_⟩;have sx:=zC hx (.tup [.int (pt.2-c.2),.int (c.1-pt.1),.int (c.1*pt.2-c.2*pt.1)]);have G:∃ x∈[pt.2-c.2,c.1-pt.1,c.1*pt.2-c.2*pt.1],x≠0/\x.natAbs<=2000:=by
   rcases C6 (pt.2-c.2=0) with z | z
   ·erw[c.1-pt.1,.tail _ (.head _),λz'=>ne ?_,by lia];rw[a,e];rwa[congrArg O (Gk (by lia) (by lia))]
   ·rwa[_,.head _,z,by lia]
  erw[x,_,_,_,rfl,SqT.of zA,(zb G (by decide)).1,(zb G (by decide)).2,λy H1 s1 hy ey=>⟨sz1,λL hL=>?_⟩];have C:=zC hL (.lst [.ref y]);erw[q L [y] _ (sx.trans (s1.trans C)) zA ?_];show yI _ [y] [_];rw[xH a,xH e];rwa[yI.one (C _ _ ey)]
 | _=>rwa[kn.elim]
def qD(_:b9):Sp:=λg H Q _=>E3 λ(d:c5) (S:BS) (j:Nat)=>A5 (g=[.ref d,.int j]) (Ze H d S) (lv S) (j<=S.runs.length) (∀(l:c5)(c:List c5)(a:Hp),Same H a->H l=IS->a l=O (.lst (c.map V.ref))->xB H a c (S.notes.map λe=>yM S j e.2)->Q (.ref l) a)
def kL(F:Fun K "_law_m_groups" "_law_m_groups" sO f fd)(Z:Zs mg)(CB:Cb P w mg base)(yBp:Has P w K mg base "_law_rows_of" 3 ["_law_m","_law_note"] (rj K))(yCo:Has P w K mg base "_law_lead" 1 ["_law_m","_law_one","_law_other"] (ou K)):yN P w K mg base CX0 4 f fd ["_law_m","_law_moment"] (qD K):=by
 specialize wF
 ·obtain⟨d,S,j,rfl,_⟩:=h;rfl
 obtain⟨d,S,j0,rfl,lwa,gd,hj,q⟩:=h;obtain⟨m,b,r,n,lw⟩:=id lwa;have dn:∀{l:Hp},Same H l->aC l d (.str "notes") (O (.ref n)):=λ{l} s=>.inl ⟨_,.inr "notes",Rd.same lw.at_ s,rfl,sY.symm⟩;obtain⟨kvs,hn0,kv⟩:=lw.no;have fn:=gd.few.no
 refine'⟨_,(zB (zS 2 wF.nd ?_)
   (zB (xM l9 rfl (xD (yE rB rfl Z.sorted uH (zI (yT (vS rfl) rfl Z.list qM (zI (zO (yB hr) (pv 0) zU (λ_ _=>rfl)) zN)) zN))) (xR 3 wF.nd) (zB (zS 4 wF.nd (zO (yB hr) (zO (yB hr) (pv 0) zU (λ_ _=>rfl)) (pv 3) (λ_ _=>rfl)))
   (zB (xo ?_ (uS rfl (zT (xR 5 wF.nd) (zT (xR 6 wF.nd) xT))))
   (zD (yA (ug (pv 2) (zI (yU (T:=["_law_a","_law_b","_law_c"]) (caps:=[("_law_x",5),("_law_y",6)]) ⟨rfl,by ac_nf,by ac_nf,rfl,⟨⟨rfl,rfl,BB rfl⟩,⟨rfl,rfl,BB rfl⟩,o0⟩⟩ rfl (xD ?_) (λ_=>(uS rfl (zT (xR 0 (show(["_law_a","_law_b","_law_c","_law_x","_law_y"]:List g8).Nodup by ac_nf)) (zT (xR 1 (show(["_law_a","_law_b","_law_c","_law_x","_law_y"]:List g8).Nodup by ac_nf)) (zT (xR 2 (show(["_law_a","_law_b","_law_c","_law_x","_law_y"]:List g8).Nodup by ac_nf)) xT))))) (λ_=>yJ) (λ_=>?_)) zN)))))))
   (zD (zM (pv 2))))),?_⟩
 nofun
 refine⟨sz0,λG hG=>?_⟩;have s3:=zC hG (.lst []);refine⟨_,U,d,.ref n,U,dn s3,n,kvs,U,Rd.same hn0 s3,λc0 hc0=>?_⟩;rw[pK kv];have s4a:=zC hc0 (.lst ((S.notes.map (·.1)).map V.int));refine⟨c0,_,U,SqL.of zA,(by rw[ac]; lia),λc ms hc pm srt=>?_⟩;obtain rfl:=oZ pm srt gd.rise;have s4:=s4a.trans (zC hc (.lst ((S.notes.map (·.1)).map V.int)));have e4:upd (upd (upd H G (.lst [])) c0 (.lst ((S.notes.map (·.1)).map V.int))) c (.lst ((S.notes.map (·.1)).map V.int)) c=O (.lst ((S.notes.map (·.1)).map V.int)):=zA;generalize upd (upd (upd H G (.lst [])) c0 (.lst ((S.notes.map (·.1)).map V.int))) c (.lst ((S.notes.map (·.1)).map V.int))=H4 at s4 e4 ⊢;have eG4:=s4 _ _ (zA (H:=H) (a:=G) (o:=.lst []));have ncG:c≠G:=λz=>by
  have:=s4a.free hc;rw[z,zA] at this;cases this
 refine⟨c,U,.inl ⟨⟨_,SqL.of e4⟩,wH (K:=K) (a:=c) (xs:=(S.notes.map (·.1)).map V.int) (λi J l=>A3 (∀ x o,x≠G->H4 x=O o->l x=O o) (∃ M:List c5,A3 (l G=O (.lst (M.map V.ref))) (∀ g∈M,g≠G) (xB H l M ((S.notes.take i).map λe=>yM S j0 e.2))) (E4 λ(u1 u2 u3 u4:Option V)=>J=[O (.ref d),O (.int j0),O (.ref G),u1,u2,u3,u4]))
  ⟨λ_ _ _ e=>e,⟨[],eG4,λ_ h=>(nomatch h),xB.nil⟩,IS,IS,IS,IS,rfl⟩ (λi J l _ hq=>SqL.of (hq.1 _ _ ncG e4)) ?_ ?_⟩⟩
 ·rintro i x J H5 hi ⟨sH,⟨M,eG,Y,ga⟩,u1,u2,u3,u4,rfl⟩;rw[d7,d7,FR,i8] at hi;obtain⟨I,hn,rfl⟩:=hi;have kn:=gd.note _ (e9 hn);have p:Same H H5:=λx o e=>sH x o (zH e hG) (s4 _ _ (s3 _ _ e));have hil:=(c7.mp hn).1;obtain⟨v,gv,rv⟩:=(kv.to (.of p)).get (k:=.inl I.1) (Zh gd.rise hn);obtain⟨t,xs,rfl,et,mo,m0,m1⟩:=oI kn rv;exists _,U,d,.ref n,U,dn p,_,U,n,.ref t,U,.inl ⟨kvs,.inl I.1,Rd.same hn0 p,U,gv.symm⟩;erw[_,rfl,_,rfl,t,xs,1,_,rfl,rfl,.inr (SqT.of et),mo,_,rfl,d,S,(wD I.2).toNat,j0,?_,lwa.to (.of p),(by lia),hj,gd.few.ru,λw H6 s6 hw ew=>?_]
  ·rwa[congrArg (λz=>[V.ref d,V.int z,V.int j0]) (Bv m0).symm]
  have gr:∀ ld,uA S.runs (wD I.2).toNat j0=ld->yM S j0 I.2=(vT S I.2).map (YL ld.1 ld.2):=λld e=>by unfold yM; rw[e]
  generalize eld:uA S.runs (wD I.2).toNat j0=ld at ew;have gr:=gr ld eld;exists w,_,U,SqT.of ew,U,.int ld.1,_,U,.int ld.2,_,U,rfl;refine⟨_,U,.inl ⟨U,_,SqL.of (s6 _ _ eG)⟩,_,U,_,U,d,.ref t,S,I.2,U,rv.to (.of s6),lwa.to (.of (p.trans s6)),kn,gd.mk_,λL sd H7 s7 eL ts=>?_⟩;have bS:=qz gd.mk_ kn;have two:=uq (S:=S) (D:=I.2);refine⟨L,U,.inl ⟨⟨_,SqL.of eL⟩,λcc B hB=>?_⟩⟩;refine yL (K:=K) (a:=L) (xs:=sd.map V.ref) (λi J zs l=>A4 (Same H7 l) (l B=O (.lst zs)) (∃ bs:List c5,zs=bs.map V.ref/\yI l bs (((vT S I.2).take i).map (YL ld.1 ld.2))) (E3 λ(u v w:Option V)=>J=[u,v,w,O (.int ld.1),O (.int ld.2)]))
   ⟨zC hB _,zA,⟨[],rfl,.nil⟩,IS,IS,IS,rfl⟩ (λi J zs l _ hq=>⟨SqL.of (hq.1 _ _ eL),hq.2⟩) ?_ ?_
  ·rintro i x J zs l hi ⟨sH',eB,⟨bs,rfl,tb⟩,u,v,w',rfl⟩;rw[d7,i8] at hi;obtain⟨y,hy,rfl⟩:=hi;have R:i<(vT S I.2).length:=by rw[<- ts.len]; exact(c7.mp hy).1
   have hr':(vT S I.2)[i]?=O (vT S I.2)[i]:=c9 R;obtain⟨A,B',C,e3,bA,bB⟩:=bS _ (AX R);have ey:=ts.at_ i y _ hy hr';rw[e3] at ey hr';exists y,_,U,SqT.of (sH' _ _ ey),U,.int A,_,U,.int B',_,U,.int C,_,U,rfl;erw[_,rfl,_,rfl,_,rfl,_,rfl,_,rfl,_,_,rfl,rfl,vK (by lia),_,_,rfl,rfl,_,rfl,_,rfl,_,_,rfl,rfl,vK (by lia),_,_,rfl,rfl,sz3,λz hz=>?_];have s8:=zC hz (.tup [.int A,.int B',.int (C+A*ld.1+B'*ld.2)]);have eB8:=s8 _ _ eB;erw[eB8,zK (by rw[ac,tb.len,ac,j3]; lia),(sH'.trans s8).putNew hB,zA,⟨bs++[z],by rw[e7]; rfl,?_⟩,_,_,_,rfl];rw[o6,hr',e7];exact((tb.to (.of s8)).app (.one zA)).samE (xZ eB8) (uF eB8)
  ·rintro J zs H8 ⟨s8,eB,⟨bs,rfl,tb⟩,u,v,w',rfl⟩;rw[ac,ts.len,j5,<- gr] at tb;have X:Same H5 H8:=s6.trans (s7.trans s8);have N:=X _ _ eG;have nB5:H5 B=none:=s6.free (s7.free hB);have nBG:B≠G:=λz=>by rw[z,eG] at nB5; cases nB5
   exists G,_,.ref B,U,U,N,zK (by rw[ac,ga.len,ac,j3]; lia);have sG:=xZ (o:=.lst (M.map V.ref++[.ref B])) N;erw[λx o n e=>by rw[zF n]; exact X _ _ (sH x o n e),⟨M++[B],by rw[zA,e7]; rfl,λg hg=>?_,?_⟩,_,_,_,_,rfl]
   ·rcases i7.mp hg with z | z
    ·rwa[Y g z]
    ·rw[e8.mp z]; rwa[nBG]
   ·rw[o6,hn,e7];have ga8:xB H H8 M _:=ga.samE (vV.of (φ:=λ_=>False) X) (λ_ _ _=>id) (λ_ _=>id);exact(ga8.samE sG (uF N) Y).snoc (p.free nB5) (by rw[zF nBG]; rwa[eB]) (tb.samE sG (uF N))
 ·rintro J H5 ⟨sH,⟨M,eG,Y,ga⟩,u1,u2,u3,u4,rfl⟩;rw[ac,ac,j5] at ga;rwa[_,rfl,q G M H5 (λx o e=>sH x o (zH e hG) (s4 _ _ (s3 _ _ e))) hG eG ga]
def rh(_:b9):Sp:=λg H Q _=>E3 λ(d:c5) (S:BS) (j:Nat)=>A5 (g=[.ref d,.int j]) (Ze H d S) (lv S) (j<=S.runs.length) (∀(l:c5)(c:List c5)(a:Hp),Same H a->a l=O (.lst (c.map V.ref))->yI a c (S.notes.map λe=>yM S j e.2).flatten->Q (.ref l) a)
def iz(F:Fun K "_law_m_sides" "_law_m_sides" qJ f fd)(Z:Zs mg)(CB:Cb P w mg base)(yBk:Has P w K mg base "_law_m_groups" 4 ["_law_m","_law_moment"] (qD K)):yN P w K mg base CX0 5 f fd ["_law_m","_law_moment"] (rh K):=by
 specialize sU
 ·obtain⟨d,S,j,rfl,_⟩:=h;rfl
 obtain⟨d,S,c,rfl,z,gd,hj,q⟩:=h
 refine'⟨_,(zB (zS 2 sU.nd ?_)
   (zB (xM l9 rfl (xD ?_) (xR 3 sU.nd) (zD (zS 2 sU.nd (tR nE (pv 2) (pv 3)))))
   (zD (zM (pv 2))))),?_⟩
 nofun
 refine⟨sz0,λL hL=>?_⟩;have T:=zC hL (.lst []);refine⟨_,U,_,U,d,S,c,U,z.to (.of T),gd,hj,λG gs H2 R hG eG I=>?_⟩;have J:=R _ _ (zA (H:=H) (a:=L) (o:=.lst []));refine⟨G,U,.inl ⟨⟨_,SqL.of eG⟩,wH (K:=K) (a:=G) (xs:=gs.map V.ref) (λi r v=>Same H2 v/\(E2 λ(m:c5) (l:List c5)=>A3 (v m=O (.lst (l.map V.ref))) (yI v l ((S.notes.take i).map λe=>yM S c e.2).flatten) (∃ u:Option V,r=[O (.ref d),O (.int c),O (.ref m),u])))
  ⟨Same.refl _,L,[],J,yI.nil,IS,rfl⟩ (λi r v _ hq=>SqL.of (hq.1 _ _ eG)) ?_ ?_⟩⟩
 ·rintro i x r H5 hi ⟨p,m,l,M,n,u,rfl⟩;rw[d7,i8] at hi;obtain⟨g,Y,rfl⟩:=hi;have B:i<S.notes.length:=by
   have:=I.len;rw[ac] at this;rw[<- this];exact(c7.mp Y).1
  have X:S.notes[i]?=O S.notes[i]:=c9 B;obtain⟨bs,eg,N⟩:=I.at_ i g (yM S c S.notes[i].2) Y (by rw[d7,X]; rfl);have l1:=ut (λe:Int×Deed=>yM S c e.2) (λ_=>uB) (S.notes.take i);have l2:=uB (S:=S) (j:=c) (D:=S.notes[i].2);have l3:=n.len;have l4:=N.len;have fn:=gd.few.no;rw[j3] at l1;erw[_,rfl,_,rfl,m,g,_,_,rfl,rfl,M,p _ _ eg,(by rw[ac,ac]; rwa[AV (zK (by lia))]),λL2 C=>?_];have y:=zC C (.lst (l.map V.ref++bs.map V.ref));erw[p.trans y,L2,l++bs,by rw[zA,e7],?_,_,rfl];rw[o6,X,e7,DW];refine(n.to (.of y)).app ?_;show yI _ bs [yM S c S.notes[i].2].flatten;rw[Fk];rwa[N.to (.of (p.trans y))]
 ·rintro r H5 ⟨p,m,l,M,n,u,rfl⟩;rw[ac,I.len,ac,j5] at n;rwa[_,rfl,q m l H5 (T.trans (R.trans p)) M n]
def yw(_:b9):Sp:=λc H Q _=>E3 λ(x y z:Int)=>A4 (c=[.int x,.int y,.int z]) (z≠0) (z.natAbs<=10^40) (∀(p:c5)(a:Hp),Same H a->H p=IS->a p=O (.tup ((rF (upL x y z)).map V.int))->Q (.ref p) a)
def iN(F:Fun K "_law_spot_of" "_law_spot_of" qG f fd)(Z:Zs mg)(B:Cb P w mg base)(m:Has P w K mg base "_law_low" 1 ["_law_one","_law_other"] (kY K)):yN P w K mg base CX0 2 f fd ["_law_x","_law_y","_law_w"] (yw K):=by
 specialize yp
 ·obtain⟨x,y,z,rfl,_⟩:=h;rfl
 obtain⟨x,y,z,rfl,v,o,q⟩:=h
 refine'⟨_,(zB (yO ?_ (zD (Vx (i:=0) (j:=1) (k:=2) rfl yp.nd rfl rfl rfl (by decide) (by decide) (by decide) rfl rfl rfl ?_ rfl)) zX)
   (zB (zS 3 yp.nd ?_)
   (zD (zM ?_)))),?_⟩
 nofun
 exists _,U,_,_,U,U,_,rfl;erw[ifD (λe=>?_) (λc=>?_)]
 ·exists _,U,_,U,_,U,_,U,_,U,_,U,_,_,_,rfl;have u:upL x y z=[-x,-y,-z]:=by unfold upL; rw[y7 e]
  have l:(w9 ((w9 (-x).natAbs (-y).natAbs:Nat):Int).natAbs (-z).natAbs:Nat)=yF [-x,-y,-z]:=gcd3 _ _ _;exists _,U,_,U,-x,-y,U,_,U,_,-z,rfl;rw[l];have r:0<yF [-x,-y,-z]:=xL (n:=-z) (by simp) (by lia);have g:=za (ns:=[-x,-y,-z]) (n:=-z) (by simp) (by lia);have a:∀ i:Int,zm i (yF [-x,-y,-z]:Int):=λi=>zm.of (by lia) (B6 (show(yF [-x,-y,-z]:Int)<=10^40 by lia) (by ac_nf));erw[_,rfl,_,rfl,_,_,rfl,rfl,a _,_,rfl,_,rfl,_,_,rfl,rfl,a _,_,rfl,_,rfl,_,_,rfl,rfl,a _,sz3,λp d=>?_];erw[q p _ (zC d _) d ?_];rw[u];rwa[zA]
 ·have u:upL x y z=[x,y,z]:=by unfold upL; rw[y6 c]
  have l:(w9 ((w9 (x).natAbs (y).natAbs:Nat):Int).natAbs (z).natAbs:Nat)=yF [x,y,z]:=gcd3 _ _ _;exists _,U,_,U,x,y,U,_,U,_,z,rfl;rw[l];have r:0<yF [x,y,z]:=xL (n:=z) (by simp) (by lia);have g:=za (ns:=[x,y,z]) (n:=z) (by simp) (by lia);have a:∀ i:Int,zm i (yF [x,y,z]:Int):=λi=>zm.of (by lia) (B6 (show(yF [x,y,z]:Int)<=10^40 by lia) (by ac_nf));erw[_,rfl,_,rfl,_,_,rfl,rfl,a _,_,rfl,_,rfl,_,_,rfl,rfl,a _,_,rfl,_,rfl,_,_,rfl,rfl,a _,sz3,λp d=>?_];erw[q p _ (zC d _) d ?_];rw[u];rwa[zA]
def iG(K:b9):Sp:=λd H Q _=>E4 λ(a b:c5) (e s:P3)=>A11 (d=[.ref a,.ref b]) (Sq K H a [.int e.1,.int e.2.1,.int e.2.2]) (Sq K H b [.int s.1,.int s.2.1,.int s.2.2]) (e.1.natAbs<=10^9) (e.2.1.natAbs<=10^9) (e.2.2.natAbs<=10^13) (s.1.natAbs<=10^9) (s.2.1.natAbs<=10^9) (s.2.2.natAbs<=10^13) (tn e s=0->Q .non H) (tn e s≠0->∀(p:c5)(c:Hp),Same H c->H p=IS->c p=O (.tup ((crL e s).map V.int))->Q (.ref p) c)
def cZ(F:Fun K "_law_meet" "_law_meet" pG f fd)(Z:Zs mg)(C:Cb P w mg base)(m:Has P w K mg base "_law_spot_of" 2 ["_law_x","_law_y","_law_w"] (yw K)):yN P w K mg base CX0 3 f fd ["_law_one","_law_other"] (iG K):=by
 specialize iu
 ·obtain⟨a,b,e,s,rfl,_⟩:=h;rfl
 obtain⟨a,b,e,t,rfl,d,c,i,l,x,j,c2,v,o,q⟩:=h
 refine'⟨_,(zB (zS 2 iu.nd ?_)
   (zB (yO ?_ (zD (zM xq)) zX)
   (zD (zM ?_)))),?_⟩
 nofun
 have B:=zQ e.1 t.2.1 i c2;have z:=zQ e.2.1 t.1 l j;exists _,U,a,_,_,.int e.1,U,U,d,U,_,U,b,_,_,.int t.2.1,U,U,c,U,_,_,U,U,vK (f8 i (by decide)),_,U,a,_,_,.int e.2.1,U,U,d,U,_,U,b,_,_,.int t.1,U,U,c,U,_,_,U,U,vK (f8 l (by decide)),_,_,U,rfl;exists _,U,U,_,rfl;refine ifE (λg=>o g) (λg=>?_);refine⟨_,U,a,_,_,.int e.2.2,U,U,d,U,_,U,b,_,_,.int t.2.1,U,U,c,U,_,_,U,U,vK (f8 x (by decide)),_,U,b,_,_,.int t.2.2,U,U,c,U,_,U,a,_,_,.int e.2.1,U,U,d,U,_,_,U,U,vK (f8 v (by decide)),_,_,U,U,
  _,rfl,a,_,_,.int e.1,rfl,rfl,d,rfl,_,rfl,b,_,_,.int t.2.2,rfl,rfl,c,rfl,_,_,rfl,rfl,vK (f8 i (by decide)),_,rfl,b,_,_,.int t.1,rfl,rfl,c,rfl,_,rfl,a,_,_,.int e.2.2,rfl,rfl,d,rfl,_,_,rfl,rfl,vK (f8 j (by decide)),_,_,rfl,rfl,_,rfl,
  e.2.2*t.2.1-t.2.2*e.2.1,e.1*t.2.2-t.1*e.2.2,e.1*t.2.1-e.2.1*t.1,rfl,g,(show(e.1*t.2.1-e.2.1*t.1).natAbs<=10^40 by lia),λp y n r u=>q g p y n r ?_⟩
 rw[u];unfold crL;rw[l7 t.2.2 e.2.1,l7 t.1 e.2.2]
def WD(a:List (c5×Int×Int×Int))(x y w:Int):List Bool:=a.map λt=>decide (t.2.1*x+t.2.2.1*y<=t.2.2.2*w)
def kj(K:b9):Sp:=λe H Q _=>E6 λ(a p:c5) (c:List (c5×Int×Int×Int)) (x y w:Int)=>A6 (e=[.ref a,.ref p]) (H a=O (.lst (c.map λt=>V.ref t.1))) (c.length<=1000) (∀ t∈c,H t.1=O (.tup [.int t.2.1,.int t.2.2.1,.int t.2.2.2])/\t.2.1.natAbs<=10^18/\t.2.2.1.natAbs<=10^18/\t.2.2.2.natAbs<=10^18) (H p=O (.tup [.int x,.int y,.int w])) (∀ d,Same H d->Q (.bl ((WD c x y w).all id)) d)
def YS(F:Fun K "_law_has" "_law_has" ku f fd)(Z:Zs mg)(S:Cb P w mg base)  : yN P w K mg base CX0 1 f fd ["_law_sides","_law_place"] (kj K):=by
 specialize pT
 ·obtain⟨a,p,d,x,y,w,rfl,_⟩:=h;rfl
 obtain⟨a,p,d,x,y,m,rfl,C,R,G,I,q⟩:=h
 refine'⟨_,(zB (xo (pv 1) (uS rfl (zT (xR 2 pT.nd) (zT (xR 3 pT.nd) (zT (xR 4 pT.nd) xT)))))
   (zD (zM (yE (rL rfl) rfl Z.all lG (zI (yU (T:=["_law_a","_law_b","_law_c"]) (caps:=[("_law_w",4),("_law_x",2),("_law_y",3)]) ⟨rfl,by ac_nf,by ac_nf,rfl,⟨⟨rfl,rfl,BB rfl⟩,⟨rfl,rfl,BB rfl⟩,⟨rfl,rfl,BB rfl⟩,o0⟩⟩ rfl (xD (pv 0)) (λ_=>(uS rfl (zT (xR 0 (show(["_law_a","_law_b","_law_c","_law_w","_law_x","_law_y"]:List g8).Nodup by ac_nf)) (zT (xR 1 (show(["_law_a","_law_b","_law_c","_law_w","_law_x","_law_y"]:List g8).Nodup by ac_nf)) (zT (xR 2 (show(["_law_a","_law_b","_law_c","_law_w","_law_x","_law_y"]:List g8).Nodup by ac_nf)) xT))))) (λ_=>yJ) (λ_=>?_)) zN))))),?_⟩
 nofun
 exists _,U,p,_,U,SqT.of I,U,.int x,_,U,.int y,_,U,.int m,_,U,rfl;refine⟨_,U,a,U,.inl ⟨⟨_,SqL.of C⟩,λc D B=>yL (K:=K) (a:=a) (xs:=d.map λt=>V.ref t.1) (λi l g n=>A3 (n=upd H D (.lst g)) (g=(WD (d.take i) x y m).map V.bl) (E3 λu v z=>l=[u,v,z,O (.int m),O (.int x),O (.int y)]))
  ⟨rfl,rfl,IS,IS,IS,rfl⟩ (λi l g n _ o=>by obtain⟨e,_⟩:=o; rw[e]; rwa[(zC B _).seq (SqL.of C),zA]) ?_ ?_⟩⟩
 ·rintro i r l g n hi ⟨rfl,rfl,u,v,z,rfl⟩;rw[d7] at hi;cases j:d[i]? with
  | none=>rw[j] at hi; cases hi
  | some t =>
   rw[j] at hi;cases hi;obtain⟨h1,N,M,L⟩:=G t (e9 j);have J:i<d.length:=(c7.mp j).1;exists t.1,_,U,SqT.of (zC B _ _ _ h1),U,_,_,U,_,_,U,_,_,U,rfl;erw[_,rfl,_,rfl,_,_,rfl,rfl,vK (by lia),_,rfl,_,rfl,_,_,rfl,rfl,vK (by lia),_,_,rfl,rfl,_,rfl,_,rfl,_,_,rfl,rfl,vK (by lia),_,_,rfl,rfl,zA,?_,nW,?_,_,_,_,rfl]
   ·erw[zK ?_];unfold WD;rw[ac,ac,j3];lia
   ·unfold WD;rw[xN j,e7,e7];rfl
 ·rintro l g n ⟨rfl,rfl,u,v,z,rfl⟩;rw[ac,j5];rwa[D,WD d x y m,rfl,SqL.of zA,q _ (zC B _)]
def aW{P:P3} : (WD a P.1 P.2.1 P.2.2).all id=fc a P:=by
 unfold WD fc;rw[Fj]
 congr 1
 funext t
 show decide (t.2.1*P.1+t.2.2.1*P.2.1<=t.2.2.2*P.2.2)=decide (sv t.2 P<=0);erw[decide_eq_decide.mpr ?_];unfold sv;lia
def XF{H:Hp}(ok:jv H a):∀ t∈a,H t.1=O (.tup [.int t.2.1,.int t.2.2.1,.int t.2.2.2])/\t.2.1.natAbs<=10^18/\t.2.2.1.natAbs<=10^18/\t.2.2.2.natAbs<=10^18:=λt c=>by
 obtain⟨h1,_,h2,h3,h4⟩:=ok t c;rwa[h1,by lia,by lia,by lia]
structure CrK(ss:List Sd)(i j:Nat)(ks:List (List Int)):Prop where
 each:∀ k∈ks,∃ t∈ss,∃ u∈ss,tn t.2 u.2≠0/\k=crL t.2 u.2/\inW ss (pt3 (crL t.2 u.2))
 all:∀(a b:Nat)(t u:Sd),a<b->(a<i\/(a=i/\b<i+1+j))->ss[a]?=O t->ss[b]?=O u->tn t.2 u.2≠0->inW ss (pt3 (crL t.2 u.2))->crL t.2 u.2∈ks
def zj(K:b9):Sp:=λe H Q _=>E2 λ(l:c5) (a:List Sd)=>A5 (e=[.ref l]) (H l=O (.lst (zW a))) (jv H a) (a.length<=900) (∀(D:c5)(c:List (c5×P3))(d:Hp),Same H d->H D=IS->d D=O (.lst (xA c))->mK d c->c.length<=1000000->(∀ t∈a,∀ u∈a,tn t.2 u.2≠0->inW a (pt3 (crL t.2 u.2))->pt3 (crL t.2 u.2)∈c.map (·.2))->(c.map (·.2)).Nodup->(∀ P∈c.map (·.2),Cor a P)->Q (.ref D) d)
def nF(F:Fun K "_law_corners_of" "_law_corners_of" vL f fd)(Z:Zs mg)(CB:Cb P w mg base)(yCu:Has P w K mg base "_law_has" 1 ["_law_sides","_law_place"] (kj K))(yCn:Has P w K mg base "_law_meet" 3 ["_law_one","_law_other"] (iG K)):yN P w K mg base CX0 4 f fd ["_law_sides"] (zj K):=by
 specialize xF
 ·obtain⟨l,o,rfl,_⟩:=h;rfl
 obtain⟨l,o,rfl,el,ok,hlen,q⟩:=h;have hu1:=BY (FU (show 1<=64 by decide) _) hr.units;have big:∀ n:Nat,n<=1000000->n<sizeLine:=λn hn=>BY hn (by decide)
 refine'⟨_,(zB (zS 1 xF.nd Xp)
   (zB (xM l9 rfl (gA rfl Z.enumerate (zI (pv 0) zN)) (uS rfl (zT (xR 2 xF.nd) (zT (xR 3 xF.nd) xT))) (zD (xM l9 rfl (ff ?_) (xR 4 xF.nd) (zB (zS 5 xF.nd ?_)
   (zD (yO ?_ (zD (uU (yB hr) (pv 1) (pv 5) kJ rfl)) zX))))))
   (zD (zM (yT (im rfl) rfl Z.list qM (zI (pv 1) zN)))))),?_⟩
 nofun
 refine λd hd=>?_;refine⟨_,U,l,_,U,zC hd _ _ _ el,eQ (K:=K) (l:=l) (xs:=zW o) (λi N D=>A3 (Same H D) (E2 λg m=>A4 (D d=O (.dT g)) (Zg g m) (m.length<=1000*i) (CrK o i 0 m)) (E4 λ(u2 u3 Y X:Option V)=>N=[O (.ref l),O (.ref d),u2,u3,Y,X]))
  ⟨zC hd _,⟨[],[],zA,.nil,f6 _,(λk hk=>nomatch hk),λa b t u I hc=>x4 hc (by lia)⟩,IS,IS,IS,IS,rfl⟩ (λi N D hq'=>by obtain⟨e,_⟩:=hq'; rwa[SqL.of (e _ _ el)]) ?_ ?_⟩
 ·rintro i v T N D hi hT ⟨sH,⟨g,m,eD,J,hks,C⟩,u2,u3,Y,X,rfl⟩;obtain⟨t,gt,rfl,hil⟩:=xv hi;obtain⟨et0,nt,b1,b2,b3⟩:=ok t (e9 gt);have sT:Same D (upd D T (.tup [.int i,.ref t.1])):=zC hT _;have eT:upd D T (.tup [.int i,.ref t.1]) T=O (.tup [.int i,.ref t.1]):=zA;generalize upd D T (.tup [.int i,.ref t.1])=H2 at sT eT ⊢;exists T,_,U,SqT.of eT,U,.int i,_,U,.ref t.1,_,U,rfl;have sH2:=sH.trans sT;erw[_,rfl,_,rfl,_,_,rfl,rfl,_,rfl,l,_,rfl,SqL.of (sH2 _ _ el),λc hc=>?_];rw[show((i:Nat):Int)+1=((i+1:Nat):Int) from by lia,Vj];have sc:Same H2 (upd H2 c (.lst (zW (o.drop (i+1))))):=zC hc _;have ec:upd H2 c (.lst (zW (o.drop (i+1)))) c=O (.lst (zW (o.drop (i+1)))):=zA;generalize upd H2 c (.lst (zW (o.drop (i+1))))=H3 at sc ec ⊢;have s3:=sH2.trans sc;have eD3:=sc _ _ (sT _ _ eD);have ncd:c≠d:=λz=>by rw[z] at ec; rw[ec] at eD3; cases eD3
  refine⟨c,U,⟨_,SqL.of ec⟩,wH (K:=K) (a:=c) (xs:=zW (o.drop (i+1))) (λj N D=>A4 (Same H D) (D c=O (.lst (zW (o.drop (i+1))))) (E2 λg m=>A4 (D d=O (.dT g)) (Zg g m) (m.length<=1000*i+j) (CrK o i j m)) (E2 λ(Y X:Option V)=>N=[O (.ref l),O (.ref d),O (.int i),O (.ref t.1),Y,X]))
   ⟨s3,ec,⟨g,m,eD3,J,by lia,C⟩,_,_,rfl⟩ (λj N D _ hq'=>by obtain⟨_,e,_⟩:=hq'; rwa[SqL.of e]) ?_ ?_⟩
  ·rintro j v N H4 hj ⟨s4,ec4,⟨g,m,M,J,S,C⟩,Y,X,rfl⟩;obtain⟨u,gu0,rfl,hjl⟩:=xv hj;rw[Ad] at hjl;have gu:o[i+1+j]?=O u:=by rw[Ei] at gu0; rwa[gu0]
   obtain⟨eu0,_,c1,c2,c3⟩:=ok u (e9 gu);have step:∀ B:List (List Int),(∀ k∈m,k∈B)->(∀ k∈B,k∈m\/(tn t.2 u.2≠0/\k=crL t.2 u.2/\inW o (pt3 (crL t.2 u.2))))->(tn t.2 u.2≠0->inW o (pt3 (crL t.2 u.2))->crL t.2 u.2∈B)->CrK o i (j+1) B:=λB k1 k2 k3=>by
    erw[λk hk=>?_,λa b x y I hc gx gy hxy G=>?_]
    ·rcases k2 k hk with h | ⟨h1,h2⟩
     ·rwa[C.each k h]
     ·rwa[t,e9 gt,u,e9 gu,h1,h2]
    ·by_cases e:a=i/\b=i+1+j
     ·obtain⟨rfl,rfl⟩:=e;rw[gt] at gx;rw[gu] at gy;cases gx;cases gy;rwa[k3 hxy G]
     ·rwa[k1 _ (C.all a b x y I (by lia) gx gy hxy G)]
   erw[_,rfl,_,rfl,t.1,u.1,t.2,u.2,rfl,.inr (SqT.of (s4 _ _ et0)),.inr (SqT.of (s4 _ _ eu0)),b1,b2,b3,c1,c2,c3,λh0=>?_,λh0 p H5 s5 hp ep=>?_]
   ·exists _,U,U,_,rfl;erw[wX ?_];erw[wX ?_];rwa[s4,ec4,⟨g,m,M,J,by lia,step m (λk h=>h) (λk h=>.inl h) λz=>x4 h0 z⟩,_,_,rfl]
   ·obtain⟨sp,_,_⟩:=ul h0;have ep':H5 p=O (.tup [.int (pt3 (crL t.2 u.2)).1,.int (pt3 (crL t.2 u.2)).2.1,.int (pt3 (crL t.2 u.2)).2.2]):=by
     rw[ep,sp.list];rfl
    have R:=s4.trans s5;exists _,U,U,_,rfl;erw[qr ?_];erw[_,rfl,_,rfl,l,p,o,_,_,_,rfl,by rw[<- rP]; exact R _ _ el,by lia,XF (ok.same R),ep',λH6 s6=>?_];rw[aW];exists _,rfl;by_cases G:fc o (pt3 (crL t.2 u.2))=IT
    ·rw[G];erw[qr ?_];have eD6:=s6 _ _ (s5 _ _ M);obtain⟨B,tk',L,len'⟩:=J.put (crL t.2 u.2) (.bl IT);have kl:=J.len;exists _,U,_,U,d,_,U,mf.t (k:=cF (crL t.2 u.2)) eD6 (by rw[jt]; rwa[s6 _ _ ep]) (by rw[kl]; rwa[big _ (by lia)]);erw[(R.trans s6).putNew hd,?_,⟨_,B,zA,tk',by lia,step B (λk h=>(L k).mpr (.inl h)) (λk h=>((L k).mp h).imp id λz=>⟨h0,z,qI.mp G⟩) λ_ _=>(L _).mpr (.inr rfl)⟩,_,_,rfl];rw[zF ncd];rwa[s6 _ _ (s5 _ _ ec4)]
    ·have hw':fc o (pt3 (crL t.2 u.2))=false:=by simpa using G
     rw[hw'];erw[wX ?_];rwa[R.trans s6,s6 _ _ (s5 _ _ ec4),⟨g,m,s6 _ _ (s5 _ _ M),J,by lia,step m (λk h=>h) (λk h=>.inl h) λ_ z=>x4 (qI.mpr z) G⟩,_,_,rfl]
  ·rintro N H4 ⟨s4,_,⟨g,m,M,J,S,C⟩,Y,X,rfl⟩;rw[zY,Ad] at S C;erw[s4,⟨g,m,M,J,by lia,C.each,λa b x y I hc gx gy=>?_⟩,_,_,_,_,rfl];have hb:b<o.length:=(c7.mp gy).1;rwa[C.all a b x y I (by lia) gx gy]
 ·rintro N D ⟨sH,⟨g,m,eD,J,hks,C⟩,u2,u3,Y,X,rfl⟩;rw[zY] at hks C;refine⟨_,U,d,g,U,eD,λp1 ts hp1 ets hts=>?_⟩;have sp1:=zC hp1 (.lst ((ts.map (·.1)).map V.ref));obtain⟨us,w1,w2,w3⟩:=J.refs ets hts;have hk:us.length=m.length:=by have z:=congrArg AH w2; (rw[ac] at z;assumption)
  erw[q p1 (us.map λu=>(u.1,pt3 u.2)) _ (sH.trans sp1) (sH.free hp1) (by rw[zA]; simp only[xA,AE]; rw[<- AE,<- w1]; simp) (λx hx=>?_) (by rw[ac]; lia) (λt ht u hu r G=>?_) ?_ λP hP=>?_]
  ·obtain⟨y,hy,rfl⟩:=g7.mp hx;have hyk:y.2∈m:=by rw[<- w2]; rwa[o9 hy]
   obtain⟨t,_,u,_,r,ek,_⟩:=C.each y.2 hyk;obtain⟨sp,_,_⟩:=ul r;have ey:=sp1 _ _ (w3 y hy);rw[ek] at ey ⊢;erw[?_,sp.pos,sp.low];show upd D p1 _ y.1=_;rw[ey,sp.list];rfl
  ·obtain⟨a,ha,ea⟩:=BN ht;obtain⟨b,hb,eb⟩:=BN hu;have ga:o[a]?=O t:=by rw[c9 ha,ea]
   have gb:o[b]?=O u:=by rw[c9 hb,eb]
   have key:crL t.2 u.2∈m:=by
    by_cases I:a<b
    ·rwa[C.all a b t u I (.inl (by lia)) ga gb r G]
    ·by_cases e:a=b
     ·subst e;rw[ga] at gb;cases gb;rwa[x4 (by unfold tn; rw[l7]; lia) r]
     ·have hut:tn u.2 t.2≠0:=λz=>r (by unfold tn at z ⊢; rw[l7 u.2.1,l7 u.2.2.1] at z; lia);rw[Wc r] at G ⊢;rwa[C.all b a u t (by lia) (.inl (by lia)) gb ga hut G]
   rw[AE];have z:crL t.2 u.2∈us.map (·.2):=by rw[w2]; rwa[key]
   obtain⟨y,hy,ey⟩:=g7.mp z;exact g7.mpr ⟨y,hy,by show pt3 y.2=_; rw[ey]⟩
  ·have e:(us.map λu=>(u.1,pt3 u.2)).map (·.2)=m.map pt3:=by rw[<- w2,AE,AE]; rfl
   rw[e,List.Nodup,Dw];erw[ER (λ{k k'} hk hk' hne ee=>?_) J.nodup];obtain⟨t,_,u,_,r,rfl,_⟩:=C.each k hk;obtain⟨t',_,u',_,htu',rfl,_⟩:=C.each k' hk';rwa[hne (by rw[(ul r).1.list,(ul htu').1.list,ee])]
  ·rw[AE] at hP;obtain⟨y,hy,rfl⟩:=g7.mp hP;have hyk:y.2∈m:=by rw[<- w2]; rwa[o9 hy]
   obtain⟨t,ht,u,hu,r,ek,G⟩:=C.each y.2 hyk;exact⟨t,ht,u,hu,r,by show pt3 y.2=_; rw[ek],by show inW o (pt3 y.2); rw[ek]; rwa[G]⟩
def jj(K:b9):Sp:=λe H Q _=>E2 λ(l:c5) (a:List Sd)=>A5 (e=[.ref l]) (SqL K H l (zW a)) (jv H a) (a.length<=900) (∀(D:c5)(d:List (c5×P3))(c:Hp),Same H c->H D=IS->c D=O (.lst (xA d))->mK c d->d.map (·.2)=a.map (λt=>pt3 (ftL t.2))->Q (.ref D) c)
def ao(F:Fun K "_law_feet" "_law_feet" pE f fd)(Z:Zs mg)(CB:Cb P w mg base)(yBo:Has P w K mg base "_law_spot_of" 2 ["_law_x","_law_y","_law_w"] (yw K)):yN P w K mg base CX0 3 f fd ["_law_sides"] (jj K):=by
 specialize aB
 ·obtain⟨l,B,rfl,_⟩:=h;rfl
 obtain⟨l,B,rfl,hl,ok,Y,q⟩:=h
 refine'⟨_,(zD (zM (yU (T:=["_law_a","_law_b","_law_c"]) (caps:=[]) ⟨rfl,by ac_nf,by ac_nf,rfl,o0⟩ rfl (xD (pv 0)) (λ_=>(uS rfl (zT (xR 0 (show(["_law_a","_law_b","_law_c"]:List g8).Nodup by ac_nf)) (zT (xR 1 (show(["_law_a","_law_b","_law_c"]:List g8).Nodup by ac_nf)) (zT (xR 2 (show(["_law_a","_law_b","_law_c"]:List g8).Nodup by ac_nf)) xT))))) (λ_=>yJ) (λ_=>?_)))),?_⟩
 nofun
 refine⟨_,U,l,U,.inl ⟨⟨_,hl⟩,λc D J=>yL (K:=K) (a:=l) (xs:=zW B) (λi r m g=>A4 (Same H g) (g D=O (.lst m)) (∃ d:List (c5×P3),A4 (m=xA d) (d.length=i) (mK g d) (d.map (·.2)=(B.take i).map (λt=>pt3 (ftL t.2)))) (E3 λ(u v z:Option V)=>r=[u,v,z]))
  ⟨zC J _,zA,⟨[],rfl,rfl,(λt ht=>nomatch ht),rfl⟩,IS,IS,IS,rfl⟩ (λi r m g _ I=>by obtain⟨e1,e2,_⟩:=I; rwa[e1.seq hl,e2]) ?_ ?_⟩⟩
 ·rintro i v r m g hi ⟨x,o,⟨d,rfl,S,e,y⟩,u,v',z,rfl⟩;obtain⟨t,gt,rfl,hil⟩:=xv hi;obtain⟨L,R,c1,c2,c3⟩:=ok t (e9 gt);have z1:=zQ t.2.1 t.2.1 c1 c1;have z2:=zQ t.2.2.1 t.2.2.1 c2 c2;have pos:=oq R;exists t.1,_,U,SqT.of (x _ _ L),U,.int t.2.1,_,U,.int t.2.2.1,_,U,.int t.2.2.2,_,U,rfl;refine⟨_,U,_,U,_,_,U,U,vK (by lia),_,U,_,U,_,_,U,U,vK (by lia),_,U,_,U,_,_,U,U,vK (by lia),_,U,_,U,_,_,U,U,vK (by lia),_,_,U,U,
   t.2.1*t.2.2.2,t.2.2.1*t.2.2.2,t.2.1*t.2.1+t.2.2.1*t.2.2.1,rfl,by lia,by lia,λp N n X ep=>?_⟩
  obtain⟨C,_⟩:=Xz (t:=t.2) R;have M:N p=O (.tup [.int (pt3 (ftL t.2)).1,.int (pt3 (ftL t.2)).2.1,.int (pt3 (ftL t.2)).2.2]):=by
   have z:N p=O (.tup ((ftL t.2).map V.int)):=ep;rw[z,C.list];rfl
  have G:p≠D:=λz=>by rw[z,o] at X; cases X
  erw[n _ _ o,zK (by simp only[ac]; lia),(x.trans n).putNew J,zA,⟨d++[(p,pt3 (ftL t.2))],by simp[xA],by rw[f7,S]; rfl,λu j=>?_,by rw[xN gt,e7,e7,y]; rfl⟩,_,_,_,rfl];rcases i7.mp j with j | j
  ·obtain⟨g1,g2⟩:=e u j;rwa[by rw[zF (aQ (n _ _ g1) (n _ _ o) (by intro z; cases z))]; exact n _ _ g1,g2]
  ·rw[e8] at j;subst j;erw[?_,C.pos,C.low];show upd N D _ p=_;rw[zF G];rwa[M]
 ·rintro r m g ⟨x,o,⟨d,rfl,S,e,y⟩,u,v',z,rfl⟩;rw[zY,j5] at y;rwa[q D d g x J o e y]
def xa(K:b9):Sp:=λd H Q _=>E2 λ(l:c5) (a:List Sd)=>A6 (d=[.ref l]) (H l=O (.lst (zW a))) (jv H a) (a.length<=900) (∀ c:Hp,Same H c->(∀ P:P3,VR a P->¬ inW a P)->Q .non c) (∀(p:c5)(P:P3)(c:Hp),Same H c->Xg c p P->inW a P->Q (.ref p) c)
def mC(F:Fun K "_law_any_place" "_law_any_place" tF f fd)(Z:Zs mg)(CB:Cb P w mg base)(yAw:Has P w K mg base "_law_corners_of" 4 ["_law_sides"] (zj K))(yCm:Has P w K mg base "_law_feet" 3 ["_law_sides"] (jj K))(yCu:Has P w K mg base "_law_has" 1 ["_law_sides","_law_place"] (kj K)):yN P w K mg base CX0 5 f fd ["_law_sides"] (xa K):=by
 specialize xk
 ·obtain⟨l,m,rfl,_⟩:=h;rfl
 obtain⟨l,m,rfl,el,ok,p,qn,q⟩:=h;have big:∀ n:Nat,n<=2000000->n<=sizeLine:=λn hn=>f8 hn (by decide)
 refine'⟨_,(zB (xM l9 rfl (xD (tR nE (tR nE ?_ ?_) ?_)) (xR 1 xk.nd) (zD (yO ?_ (zD (zM (pv 1))) zX)))
   (zD (zM xq))),?_⟩
 nofun
 refine⟨_,U,l,m,U,el,ok,p,λD1 d H1 s1 hD1 eD1 ok1 n1 all1 _ _=>?_⟩;refine⟨_,U,l,m,U,SqL.of (s1 _ _ el),ok.same s1,p,λD2 c H2 s2 hD2 eD2 ok2 m2=>?_⟩;have n2:c.length=m.length:=by have z:=congrArg AH m2; (rw[ac,ac] at z;assumption)
 erw[D1,D2,_,_,rfl,rfl,s2 _ _ eD1,eD2,big _ (by simp only[ac]; lia),λX hD3=>?_];have s3:Same H2 (upd H2 X (.lst (xA d++xA c))):=zC hD3 _;have T:upd H2 X (.lst (xA d++xA c)) X=O (.lst (xA (d++c))):=by rw[zA]; simp[xA]
 generalize upd H2 X (.lst (xA d++xA c))=H3 at s3 T ⊢;erw[sz3,λo ho=>?_];have so:Same H3 (upd H3 o (.tup [.int 0,.int 0,.int 1])):=zC ho _;have eo:upd H3 o (.tup [.int 0,.int 0,.int 1]) o=O (.tup [.int 0,.int 0,.int 1]):=zA;generalize upd H3 o (.tup [.int 0,.int 0,.int 1])=H4 at so eo ⊢;erw[sz1,λN hol=>?_];have r:Same H4 (upd H4 N (.lst [.ref o])):=zC hol _;have S:upd H4 N (.lst [.ref o]) N=O (.lst [.ref o]):=zA;generalize upd H4 N (.lst [.ref o])=H5 at r S ⊢;refine⟨X,N,_,_,U,U,r _ _ (so _ _ T),S,big _ (by simp only[ac,f7]; show d.length+c.length+1<=2000000; lia),λL hL=>?_⟩;have sL:Same H5 (upd H5 L (.lst (xA (d++c)++[.ref o]))):=zC hL _;have eL:upd H5 L (.lst (xA (d++c)++[.ref o])) L=O (.lst (xA ((d++c)++[(o,(0,0,1))]))):=by rw[zA]; simp[xA]
 generalize upd H5 L (.lst (xA (d++c)++[.ref o]))=H6 at sL eL ⊢;have G:=r.trans sL;have I:=(s3.trans so).trans G;have J:=s2.trans I;have M:=s1.trans J;have okA:mK H6 ((d++c)++[(o,(0,0,1))]):=λu e=>by
  rcases i7.mp e with e | e
  ·rcases i7.mp e with e | e
   ·rwa[ok1.same J u e]
   ·rwa[ok2.same I u e]
  ·rw[e8] at e;subst e;exact⟨G _ _ eo,(by show(0:Int)<1; decide),(by show w9 (w9 (0:Int).natAbs (0:Int).natAbs) (1:Int).natAbs=1; decide)⟩
 refine⟨L,U,.inl ⟨⟨_,SqL.of eL⟩,wH (K:=K) (a:=L) (xs:=xA ((d++c)++[(o,(0,0,1))])) (λi Y H'=>A3 (Same H6 H') (∀ j u,j<i->((d++c)++[(o,(0,0,1))])[j]?=O u->¬ inW m u.2) (∃ u2:Option V,Y=[O (.ref l),u2]))
  ⟨Same.refl _,λj t R=>x4 R (CG _),IS,rfl⟩ (λi Y H' _ hq'=>by obtain⟨e1,_⟩:=hq'; rwa[SqL.of (e1 _ _ eL)]) ?_ ?_⟩⟩
 ·rintro i v Y H' hi ⟨D,g,u2,rfl⟩;rw[d7,d7] at hi;cases gu:((d++c)++[(o,((0,0,1):P3))])[i]? with
  | none=>rw[gu] at hi; cases hi
  | some u =>
   rw[gu] at hi;cases hi;obtain⟨eu,pu,lu⟩:=okA u (e9 gu);have x:=M.trans D;erw[_,rfl,_,rfl,l,u.1,m,_,_,_,rfl,by rw[<- rP]; exact x _ _ el,by lia,XF (ok.same x),D _ _ eu,λH8 s8=>?_];rw[aW];exists _,rfl;by_cases hw:fc m u.2=IT
   ·rw[hw];erw[qr ?_];rwa[_,rfl,q u.1 u.2 _ (x.trans s8) ⟨s8 _ _ (D _ _ eu),pu,lu⟩ (qI.mp hw)]
   ·have hw':fc m u.2=false:=by simpa using hw
    rw[hw'];erw[wX ?_];erw[D.trans s8,λj t R C=>?_,_,rfl];by_cases ej:j=i
    ·rw[ej,gu] at C;cases C;rwa[λz=>hw (qI.mpr z)]
    ·rwa[g j t (by lia) C]
 ·rintro Y H' ⟨D,g,u2,rfl⟩;refine qn _ (M.trans D) λP cP wP=>?_;have B:∀ u∈(d++c)++[(o,((0,0,1):P3))],¬ inW m u.2:=λu e=>by
   obtain⟨j,R,ej⟩:=BN e;rwa[g j u (by simp only[ac]; exact R) (by rw[c9 R,ej])]
  rcases cP with rfl | ⟨t,C,rfl⟩ | ⟨t,C,u,e,htu,rfl⟩
  ·rwa[B (o,(0,0,1)) (by simp) wP]
  ·have z:pt3 (ftL t.2)∈c.map (·.2):=by rw[m2]; rwa[g7.mpr ⟨t,C,rfl⟩]
   obtain⟨y,hy,ey⟩:=g7.mp z;rwa[B y (Bk _ (z9 _ hy)) (by rw[ey]; exact wP)]
  ·obtain⟨y,hy,ey⟩:=g7.mp (all1 t C u e htu wP);rwa[B y (Bk _ (Bk _ hy)) (by rw[ey]; exact wP)]
def mQ(_:b9):Sp:=λa H Q _=>∃(x:Int),a=[.int x]/\Q (.bl IT) H
def dA(F:Fun K "_law_whole" "_law_whole" vd f fd)(Z:Zs mg):yN P w K mg base CX0 1 f fd ["_law_found"] (mQ K):=by
 specialize cb
 ·obtain⟨x,rfl,_⟩:=h;rfl
 obtain⟨x,rfl,q⟩:=h
 refine'⟨_,(zD (zM ?_)),?_⟩
 nofun
 erw[_,rfl,_, "int",_,_,rfl,.int x,gL K,_,rfl,qr ?_];rwa[_,rfl,_, "bool",_,_,rfl,.int x,jU K,_,rfl,q]
def jd(_:b9):Sp:=λc H Q _=>E2 λ(b d:c5)=>A3 (c=[.ref b]) (H b=O (.ins bkC d [])) (∀(p:c5)(a:Hp),vV (λx=>x=b) H a->H p=IS->qk bkC a b p BS.nil [] []->Q .non a)
def cU(F:Fun K "__init__" "Book.__init__" pN f fd)(Z:Zs mg)(I:Cb P w mg base)(y:Has P w K mg base "nothing_yet" 1 [] (qS K)):yN P w K mg base CX0 2 f fd ["self"] (jd K):=by
 specialize aE
 ·obtain⟨b,i,rfl,_⟩:=h;rfl
 obtain⟨b,i,rfl,N,q⟩:=h
 refine'⟨_,(zB (nP I.state (pv 0) (nq y (hr.mono (by decide)) rfl))
   (zB (nP I.past (pv 0) ?_)
   (zD (nP I.later (pv 0) ?_)))),?_⟩
 nofun
 refine⟨U,λd n B R st=>?_⟩;have m:=B _ _ N;exists _,U,b,i,[],U,m,(by show 0<1000; decide);refine⟨sz0,λp D=>?_⟩;have c:b≠p:=zH zA D;exists _,U,b,i,_,U,(by rw[zF c,zA]),(by show 1<1000; decide);refine⟨sz0,λl v=>?_⟩;have g:b≠l:=zH zA v;have j:p≠l:=λz=>by
  rw[<- z,zF c.symm,zA] at v;cases v
 exists _,U,b,i,_,U,(by rw[zF g,zA]),(by show 2<1000; decide);rw[Wj];have u:n p=none:=by rw[zF c.symm] at D; rwa[D]
 have G:n l=none:=by rw[zF g.symm,zF j.symm,zF g.symm] at v; rwa[v]
 have L:vV (λx=>x=b) n (upd (upd (upd (upd (upd n b (.ins bkC i (pQ "state" (.ref d) []))) p (.lst [])) b (.ins bkC i (pQ "past" (.ref p) (pQ "state" (.ref d) [])))) l (.lst [])) b (.ins bkC i (bkF d p l))):=λx o C e=>by
  have n1:=zH e u;have n2:=zH e G;rw[zF C,zF n2,zF C,zF n1,zF C];rwa[.inl e]
 have nd:∀ a r,Rd n a (.dK r)->¬ a=b:=λa r h z=>by
  subst z;rcases h with h | ⟨o,h⟩ <;> rw[m] at h <;> cases h
 have M:∀ a J,n a=O (.tup J)->¬ a=b:=λa J h z=>by
  subst z;rw[m] at h;cases h
 erw[q p _ ((vV.of B).trans L) (B.free u) ⟨i,d,l,[],[],zA,st.samE L nd M,?_,?_,rfl,rfl,j.symm⟩]
 ·rw[zF c.symm,zF j,zF c.symm,zA]
 ·rw[zF g.symm,zA]
def lI(_:b9):Sp:=λg H Q _=>E5 λ(b p:c5) (S:BS) (past later:List (Deed×BS))=>A4 (g=[.ref b]) (qk bkC H b p S past later) (Few S) (∀(c:c5)(e:List c5)(d:List g8)(a:Hp),Same H a->H c=IS->a c=O (.lst (e.map V.ref))->d.Perm (S.marks.map (·.1))->IG d=IT->yr a S e d->Q (.ref c) a)
def dk(F:Fun K "marks" "Book.marks" va f fd)(Z:Zs mg)(CB:Cb P w mg base)  : yN P w K mg base CX0 1 f fd ["self"] (lI K):=by
 specialize lK
 ·obtain⟨b,p,S,past,later,rfl,_⟩:=h;rfl
 obtain⟨b,p,S,past,later,rfl,⟨dx,d,l,ps,ls,k⟩,few,q⟩:=h;obtain⟨m,bk,r,n,st⟩:=k.st;obtain⟨R,hm,kv⟩:=id st.ma;have fm:=few.ma;refine⟨_,(zB (aw (i:=1) lK.nd rfl (GJ rfl) (zO (yB hr) (wo CB.state (pv 0)) zU (λ_ _=>rfl)))
   (zD (zM (yU (T:=["name"]) (caps:=[("places",1)]) ⟨rfl,by ac_nf,by ac_nf,rfl,⟨⟨rfl,rfl,BB rfl⟩,o0⟩⟩ rfl (xD (yE qt rfl Z.sorted uH (zI (yT (vS rfl) rfl Z.list qM (zI (pv 1) zN)) zN))) (λ_=>(jz (i:=0) (show(["name","places"]:List g8).Nodup by ac_nf) rfl (BB rfl))) (λ_=>yJ) (λ_=>(io (zI (pv 0) (zI (bR cI (zO (yB hr) (pv 1) (pv 0) (λ_ _=>rfl)) xV (λ_ _=>rfl)) (zI (bR cI (zO (yB hr) (pv 1) (pv 0) (λ_ _=>rfl)) xV (λ_ _=>rfl)) zN))))))))),?_⟩
 try dsimp only[L2.cxOf,L2.cxComp,L2.Cx.nox,cG,cE]
 erw[_,rfl,b,dx,_,_,rfl,k.ob,xz,d,.ref m,rfl,.inl ⟨_,.inr "marks",st.at_,rfl,qH.symm⟩,_,rfl,m,R,rfl,hm,λg hg=>?_];rw[kT kv];have s1:=zC hg (.lst ((S.marks.map (·.1)).map V.str));erw[g,_,rfl,SqL.of zA,(by rw[ac]; lia),λt v ht N L=>?_];have I:=s1.trans (zC ht (.lst (v.map V.str)));have lm:v.length=S.marks.length:=by rw[N.length_eq,ac]
 refine⟨t,U,.inl ⟨⟨_,SqL.of zA⟩,λcc D J=>?_⟩⟩;have s3:=I.trans (zC J (.lst []));refine yL (K:=K) (a:=t) (xs:=v.map V.str) (λi C z c=>A4 (Same (upd (upd H g (.lst ((S.marks.map (·.1)).map V.str))) t (.lst (v.map V.str))) c) (c D=O (.lst z)) (∃ y:List c5,z=y.map V.ref/\yr c S y (v.take i)) (∃ u:Option V,C=[u,O (.ref m)]))
  ⟨zC J _,zA,⟨[],rfl,rfl,λj a n e=>by simp at e⟩,IS,rfl⟩ (λi C z c _ hq=>⟨SqL.of (hq.1 _ _ zA),hq.2⟩) ?_ ?_
 ·rintro i x C z c hi ⟨G,eD,⟨y,rfl,ma⟩,u,rfl⟩;rw[d7,i8] at hi;obtain⟨x,Y,rfl⟩:=hi;obtain⟨pt,B⟩:=rG (S:=S) (n:=x) (N.mem_iff.mp (e9 Y));obtain⟨X,a,g1,g2,g3⟩:=tV (st.ma.to (.of (I.trans G))) B;have hil:=(c7.mp Y).1;have la:=ma.len;rw[j3] at la;have dg:aC c m (.str x) (O (.ref a)):=.inl ⟨X,.inr x,g1,rfl,g2.symm⟩;exists _,U,_,U,_,U,m,.ref a,U,dg;erw[a,_,0,.int pt.1,rfl,rfl,.inr (SqT.of g3),rfl,_,rfl,_,rfl,m,.ref a,rfl,dg,a,_,1,.int pt.2,rfl,rfl,.inr (SqT.of g3),rfl,sz3,λt3 ht3=>?_];have M:=zC ht3 (.tup [.str x,.int pt.1,.int pt.2]);have o:=M _ _ eD;erw[o,zK (by rw[ac]; lia),(G.trans M).putNew J,zA,⟨y++[t3],by rw[e7]; rfl,?_⟩,_,rfl];rw[o6,Y];exact((ma.samE (.of M) (λ_ _ _=>id)).app B zA).samE (xZ o) (uF o)
 ·rintro C z c ⟨G,eD,⟨y,rfl,ma⟩,u,rfl⟩;rw[ac,j5] at ma;rwa[q D y v c (I.trans G) (I.free J) eD N L ma]
def qX(_:b9):Sp:=λc H Q _=>E5 λ(b p:c5) (S:BS) (past later:List (Deed×BS))=>A4 (c=[.ref b]) (qk bkC H b p S past later) (Few S) (∀(d:c5)(a:Hp),Same H a->H d=IS->wk a d S->Q (.ref d) a)
def qf(F:Fun K "mark_places" "mark_places" uG f fd)(Z:Zs mg)(CB:Cb P w mg base)(j:eA P w K mg base jo 1 ["self"] (lI K)):yN P w K mg base CX0 2 f fd ["book"] (qX K):=by
 specialize vW
 ·obtain⟨b,p,S,past,later,rfl,_⟩:=h;rfl
 obtain⟨b,p,S,past,later,rfl,bk,few,q⟩:=h;have no:∀{d l:c5}{m:g8},m = "marks" ->(bkF d p l).lookup m=none:=λ{d l m} e=>by subst e; rwa[mH (by ac_nf) (by ac_nf) (by ac_nf)]
 refine'⟨_,(zB (zS 1 vW.nd rA)
   (zB (xM l9 rfl (xD (tZ CB.m_marks j (hr.mono (by decide)) (pv 0))) (xR 2 vW.nd) (zD (uU (yB hr) (pv 1) ?_ ?_ rfl)))
   (zD (zM (pv 1))))),?_⟩
 nofun
 intro D hD;have T:=zC hD (.dK []);obtain⟨dx,d,l,ps,ls,k⟩:=bk.to (.of T);erw[_,rfl,b,dx,_,rfl,k.ob,no rfl,b,p,S,past,later,rfl,bk.to (.of T),few,λc as r H1 s1 hc e1 pm srt ma=>?_];have fm:=few.ma;have lm:r.length=S.marks.length:=by rw[pm.length_eq,ac]
 have Y:c≠D:=λz=>by rw[z,zA] at hc; cases hc
 have G:=s1 _ _ (zA (H:=H) (a:=D) (o:=.dK []));refine⟨c,U,.inl ⟨⟨_,SqL.of e1⟩,wH (K:=K) (a:=c) (xs:=as.map V.ref) (λi J y=>A3 (∀ x o,x≠D->H1 x=O o->y x=O o) (∃ g,A3 (y D=O (.dK g)) (g.length<=i) (∀ n∈r.take i,∃(p:Int×Int)(a:c5),zV S n=O p/\vR g (.inr n)=O (.ref a)/\y a=O (.tup [.int p.1,.int p.2]))) (∃ u:Option V,J=[O (.ref b),O (.ref D),u]))
  ⟨λ_ _ _ e=>e,⟨[],G,f6 _,λn N=>by simp at N⟩,IS,rfl⟩ (λi J y _ hq=>SqL.of (hq.1 _ _ Y e1)) ?_ ?_⟩⟩
 ·rintro i x J y hi ⟨L,⟨g,I,lk,inv⟩,u,rfl⟩;rw[d7,i8] at hi;obtain⟨a,ha,rfl⟩:=hi;have hil:i<r.length:=by rw[<- ma.len]; exact(c7.mp ha).1
  have N:r[i]?=O r[i]:=c9 hil;obtain⟨pt,hpt,ea⟩:=ma.at_ i a _ ha N;have naD:a≠D:=λz=>by rw[z,G] at ea; cases ea
  have v:=L _ _ naD ea;erw[_,rfl,a,_,1,.int pt.1,rfl,rfl,.inr (SqT.of v),rfl,_,rfl,a,_,2,.int pt.2,rfl,rfl,.inr (SqT.of v),rfl,sz2,λt ht=>?_];have M:=zC ht (.tup [.int pt.1,.int pt.2]);exists _,U,_,U,a,_,0,.str r[i],U,U,.inr (SqT.of (M _ _ v)),U,D,_,U,mf.k (k:=.inr r[i]) (M _ _ I) (zK (by lia));have X:t≠D:=λz=>by rw[z,I] at ht; cases ht
  refine⟨λx o n e=>by rw[zF n]; exact M _ _ (L x o n e),⟨_,zA,(by have:=qO g (.inr r[i]:Key) (.ref t); lia),λn h=>?_⟩,_,rfl⟩;rw[o6,N,i7] at h;by_cases z:n=r[i]
  ·rwa[pt,t,by rw[z]; exact hpt,by rw[pM,z,y7 rfl],by rw[zF X,zA]]
  ·obtain⟨p',a',R,g2,C⟩:=inv n (h.resolve_right (by simpa using z));have B:a'≠D:=λz=>by rw[z,I] at C; cases C
   exact⟨p',a',R,by rw[pM,y6 (by intro w; injection w with w; rwa[z w])]; exact g2,by rw[zF B]; rwa[M _ _ C]⟩
 ·rintro J y ⟨L,⟨g,I,lk,inv⟩,u,rfl⟩;rw[ac,ma.len,j5] at inv;erw[_,rfl,q D y (λx o e=>?_) hD ⟨g,.inl I,λn p e=>?_⟩]
  ·rwa[L x o (zH e hD) (s1 _ _ (T _ _ e))]
  ·obtain⟨p',a,R,g2,C⟩:=inv n (pm.mem_iff.mpr (g7.mpr ⟨(n,p),yb e,rfl⟩));rw[e] at R;cases R;rwa[a,g2,C]
def oV(_:b9):Sp:=λe H Q _=>E5 λ(b p:c5) (S:BS) (past later:List (Deed×BS))=>A4 (e=[.ref b]) (qk bkC H b p S past later) (Few S) (∀(c:c5)(d:List V)(a:Hp),Same H a->H c=IS->a c=O (.lst d)->xS a (S.runs.map ptD) d->Q (.ref c) a)
def aG(F:Fun K "runs" "Book.runs" pO f fd)(Z:Zs mg)(CB:Cb P w mg base)  : yN P w K mg base CX0 1 f fd ["self"] (oV K):=by
 specialize jP
 ·obtain⟨b,p,S,past,later,rfl,_⟩:=h;rfl
 obtain⟨b,p,S,past,later,rfl,⟨dx,d,l,ps,ls,k⟩,few,q⟩:=h;obtain⟨m,bk,r,n,st⟩:=k.st;obtain⟨g,I,Y⟩:=id st.ru;have lr:g.length=S.runs.length:=by rw[Y.length,lU]
 refine⟨_,(zB (aw (i:=1) jP.nd rfl (GJ rfl) (zO (yB hr) (wo CB.state (pv 0)) zU (λ_ _=>rfl)))
   (zD (zM (yU (T:=["number"]) (caps:=[("runs",1)]) ⟨rfl,by ac_nf,by ac_nf,rfl,⟨⟨rfl,rfl,BB rfl⟩,o0⟩⟩ rfl (xC rfl Z.range (zI (yE vb rfl Z.len sh (zI (pv 1) zN)) zN)) (λ_=>(jz (i:=0) (show(["number","runs"]:List g8).Nodup by ac_nf) rfl (BB rfl))) (λ_=>yJ) (λ_=>(zO (yB hr) (pv 1) (pv 0) (λ_ _=>rfl))))))),?_⟩
 try dsimp only[L2.cxOf,L2.cxComp,L2.Cx.nox,cG,cE]
 exists _,U,b,dx,_,_,U,k.ob,xz,d,.ref r,U,.inl ⟨_,.inr "runs",st.at_,U,ud.symm⟩,_,U,r,g,U,I;refine⟨_,U,(by have:=few.ru; lia),(by have:=few.ru; lia),λcc D L=>wn (lo:=0) (n:=(g.length:Int).toNat) (λi y j c=>A4 (Same H c) (c D=O (.lst j)) (xS c ((S.runs.take i).map ptD) j) (∃ u:Option V,y=[u,O (.ref r)]))
  ⟨zC L _,zA,yC.mpr rfl,IS,rfl⟩ (λi y j c _ hq=>hq.2) ?_ ?_⟩
 ·rintro i y j c hi ⟨B,C,v,u,rfl⟩;have J:i<S.runs.length:=by lia
  have X:S.runs[i]?=O S.runs[i]:=c9 J;obtain⟨G,a,g1,g2,g3⟩:=ZC (st.ru.to (.of B)) X;refine⟨_,U,_,U,r,.ref a,U,.inl ⟨G,.inl (i:Int),g1,by rw[Ay]; rfl,g2.symm⟩,C,zK (by rw[v.length,ac,j3]; have:=few.ru; lia),B.putNew L,zA,?_,_,rfl⟩;rw[o6,X,e7];have N:vV (λx=>x=D) c (upd c D (.lst (j++[.ref a]))):=λx o hx e=>.inl (by rw[zF hx]; rwa[e]);have R:∀ b M,c b=O (.tup M)->¬ b=D:=λb M e z=>by rw[z,C] at e; cases e
  rwa[xS.app (v.sam N R) (.one ((zv g3).sam N R))]
 ·rintro y j c ⟨B,C,v,u,rfl⟩;rw[show(g.length:Int).toNat=S.runs.length by lia,j5] at v;rwa[q D j c B L C v]
def WQ(ask:c5->Int->List V->Prop):List V->Hp->XK->Prop:=λc H E=>∃(b p:c5)(S:BS)(past later:List (Deed×BS))(m:Int),ask b m c/\qk bkC H b p S past later/\Few S/\offM S.runs.length m/\∀ a:Hp,Same H a->E (.ref qL) IS a
def askW(b:c5)(m:Int)(a:List V):Prop:=∃ o:Int,(a=[.ref b,.int m,.int o]\/a=[.ref b,.int o,.int m])/\o.natAbs.log2<1920
def qW(_:b9):Sp:=λc H Q E=>(E7 λ(b p:c5) (S:BS) (past later:List (Deed×BS)) (i j:Nat)=>A6 (c=[.ref b,.int i,.int j]) (qk bkC H b p S past later) (Few S) (i<=S.runs.length) (j<=S.runs.length) (∀(t:c5)(a:Hp),Same H a->H t=IS->a t=O (.tup [.int (uA S.runs i j).1,.int (uA S.runs i j).2])->Q (.ref t) a))\/WQ askW c H E
def qi(F:Fun K "way_between" "way_between" uM f fd)(Z:Zs mg)(CB:Cb P w mg base)(yAe:ae P w K mg base "check_moment" 1 ["moment","runs"] (xE K))(G:eA P w K mg base kW 1 ["self"] (oV K)):yN P w K mg base (CX1 P w) 2 f fd ["book","one","other"] (qW K):=by
 erw[F.okX wV (λvs H Q E h=>?_) (λcdv A outer s H vs Q E hr h=>?_)]
 ·rcases h with ⟨b,p,S,past,later,i,j,rfl,_⟩ | ⟨b,p,S,past,later,m,⟨o,rfl | rfl,_⟩,_⟩ <;> rfl
 refine'⟨_,(zB (PS.nox (zS 3 wV.nd (tZ CB.m_runs G (hr.mono (by decide)) (pv 0))))
   (zB (yA (tE (λ_=>E) yAe wg (hr.mono (by decide)) rfl (zI (pv 1) (zI (pv 3) zN))))
   (zB (yA (tE (λ_=>E) yAe wg (hr.mono (by decide)) rfl (zI (pv 2) (zI (pv 3) zN))))
   (zB (PS.nox (zS 4 wV.nd ?_))
   (zB (PS.nox (zS 5 wV.nd ?_))
   (zD (PS.nox (zM (io (zI (tR jV (pv 5) (yE (zn rfl) rfl Z.sum iU (zI (yU (T:=["run"]) (caps:=[]) ⟨rfl,by ac_nf,by ac_nf,rfl,o0⟩ rfl (xD (pv 4)) (λ_=>(xR 0 (show(["run"]:List g8).Nodup by ac_nf))) (λ_=>yJ) (λ_=>?_)) zN))) (zI (tR jV (pv 5) (yE (zn rfl) rfl Z.sum iU (zI (yU (T:=["run"]) (caps:=[]) ⟨rfl,by ac_nf,by ac_nf,rfl,o0⟩ rfl (xD (pv 4)) (λ_=>(xR 0 (show(["run"]:List g8).Nodup by ac_nf))) (λ_=>yJ) (λ_=>?_)) zN))) zN))))))))))),?_⟩
 nofun
 rcases h with h | h
 rotate_left
 ·obtain⟨b,p,S,past,later,m,ask,bk,Y,off,k⟩:=h;have few:=Y.ru;obtain⟨dx,d,l,ps,ls,kk⟩:=id bk;have no:∀{d l:c5}{m:g8},m = "runs" ->(bkF d p l).lookup m=none:=λ{d l m} e=>by subst e; rwa[mH (by ac_nf) (by ac_nf) (by ac_nf)]
  obtain⟨o,e | e,so⟩:=ask
  ·subst e;erw[_,rfl,b,dx,_,rfl,kk.ob,no rfl,b,p,S,past,later,rfl,bk,Y,λr B H1 R hr0 v rep=>?_];have C:B.length=S.runs.length:=by rw[rep.length,ac]
   rwa[_,rfl,_,rfl,r,m,S.runs.length,rfl,.inl ⟨B,SqL.of v,C⟩,.inr ⟨off,k _ R⟩]
  ·subst e;erw[_,rfl,b,dx,_,rfl,kk.ob,no rfl,b,p,S,past,later,rfl,bk,Y,λr B H1 R hr0 v rep=>?_];have C:B.length=S.runs.length:=by rw[rep.length,ac]
   exists _,U,_,U,r,o,S.runs.length,U,.inl ⟨B,SqL.of v,C⟩;by_cases z:0<=o/\o<=(S.runs.length:Int)
   ·rwa[.inl ⟨z.1,z.2,_,rfl,_,rfl,r,m,S.runs.length,rfl,.inl ⟨B,SqL.of v,C⟩,.inr ⟨off,k _ R⟩⟩]
   ·rwa[.inr ⟨⟨by lia,so⟩,k _ R⟩]
 obtain⟨b,p,S,past,later,n,g,rfl,bk,Y,hi,hj,k⟩:=h;have few:=Y.ru;obtain⟨dx,d,l,ps,ls,kk⟩:=id bk;have no:∀{d l:c5}{m:g8},m = "runs" ->(bkF d p l).lookup m=none:=λ{d l m} e=>by subst e; rwa[mH (by ac_nf) (by ac_nf) (by ac_nf)]
 erw[_,rfl,b,dx,_,rfl,kk.ob,no rfl,b,p,S,past,later,rfl,bk,Y,λr B H1 R hr0 v rep=>?_];have C:B.length=S.runs.length:=by rw[rep.length,ac]
 erw[_,rfl,_,rfl,r,n,S.runs.length,rfl,.inl ⟨B,SqL.of v,C⟩,.inl ⟨(by lia),(by lia),?_⟩];erw[_,rfl,_,rfl,r,g,S.runs.length,rfl,.inl ⟨B,SqL.of v,C⟩,.inl ⟨(by lia),(by lia),?_⟩];erw[_,rfl,_,rfl,_,rfl,_,_,rfl,_,rfl,_,rfl,_,rfl,_,_,rfl,_,rfl,r,B,rfl,SqL.of v,λq hq=>?_];have e1:(if (g:Int)<n then(g:Int) else n)=((min n g:Nat):Int):=by split <;> lia
 have e2:(if (g:Int)>n then(g:Int) else n)=((max n g:Nat):Int):=by split <;> lia
 have ec:vi B (O (if (g:Int)<n then(g:Int) else n)) (O (if (g:Int)>n then(g:Int) else n))=(B.drop (min n g)).take (max n g-min n g):=by
  rw[e1,e2,eF (by lia) (by lia)]
 generalize hcs:vi B (O (if (g:Int)<n then(g:Int) else n)) (O (if (g:Int)>n then(g:Int) else n))=M at hq;have sq:=zC hq (.lst M);have rc:xS (upd H1 q (.lst M)) ((qY S.runs n g).map ptD) M:=by
  have ecs:M=(B.drop (min n g)).take (max n g-min n g):=hcs.symm.trans ec;have:=((rep.drop (min n g)).take (max n g-min n g)).to (.of sq);rw[<- ecs,<- CJ,<- Dg] at this;rwa[this]
 have ls:=wm S.runs n g;exists _,U,_,U,_,_,U,U,_,rfl;have cmh:∀ y:Int,Us (tW n g) y:=λy=>vK (by unfold tW; split <;> decide);refine VA (i:=n) (j:=g) ?_;refine⟨_,U,_,U,q,U,.inl ⟨⟨_,SqL.of zA⟩,λc D hD=>?_⟩⟩;refine yL (K:=K) (a:=q) (xs:=M) (λi J I N=>A4 (Same (upd H1 q (.lst M)) N) (N D=O (.lst I)) (I=(((qY S.runs n g).take i).map (·.1)).map V.int) (∃ u:Option V,J=[u]))
  ⟨zC hD _,zA,rfl,IS,rfl⟩ (λi J I N _ X=>by obtain⟨L,e,_⟩:=X; rwa[SqL.of (L _ _ zA),e]) ?_ ?_
 ·rintro i x J I N hi ⟨L,eD,rfl,u,rfl⟩;obtain⟨p,a,gp,rfl,ea⟩:=jx rc hi;have hil:=(c7.mp gp).1;erw[_,rfl,a,_,0,.int p.1,rfl,rfl,.inr (SqT.of (L _ _ ea)),rfl,eD,zK (by rw[ac,ac,j3]; lia),L.putNew hD,zA,?_,_,rfl];rw[o6,gp,e7,e7];rfl
 rintro J I H2 ⟨s2,eD,rfl,u,rfl⟩;exists D,_,U,SqL.of eD,_,_,U,U,cmh _;have eq2:=s2 _ _ (zA (H:=H1) (a:=q) (o:=.lst M));have rc2:=rc.to (.of s2);refine⟨_,U,_,U,q,U,.inl ⟨⟨_,SqL.of eq2⟩,λc D hD=>?_⟩⟩;refine yL (K:=K) (a:=q) (xs:=M) (λi J I N=>A4 (Same H2 N) (N D=O (.lst I)) (I=(((qY S.runs n g).take i).map (·.2)).map V.int) (∃ u:Option V,J=[u]))
  ⟨zC hD _,zA,rfl,IS,rfl⟩ (λi J I N _ X=>by obtain⟨L,e,_⟩:=X; rwa[SqL.of (L _ _ eq2),e]) ?_ ?_
 ·rintro i x J I N hi ⟨L,eD,rfl,u,rfl⟩;obtain⟨p,a,gp,rfl,ea⟩:=jx rc2 hi;have hil:=(c7.mp gp).1;erw[_,rfl,a,_,1,.int p.2,rfl,rfl,.inr (SqT.of (L _ _ ea)),rfl,eD,zK (by rw[ac,ac,j3]; lia),L.putNew hD,zA,?_,_,rfl];rw[o6,gp,e7,e7];rfl
 rintro J I H3 ⟨s3,eD3,rfl,u,rfl⟩;erw[D,_,rfl,SqL.of eD3,_,_,rfl,rfl,cmh _,sz2,λt ht=>?_];have s23:=s2.trans s3;erw[k t _ (R.trans ((sq.trans s23).trans (zC ht _))) (R.free (sq.free (s23.free ht))) ?_];rw[zA,show M.length=(qY S.runs n g).length by rw[rc.length,ac],j5];rfl
def tf(_:b9):Sp:=λe H Q _=>E5 λ(b p:c5) (S:BS) (past later:List (Deed×BS))=>A5 (e=[.ref b]) (qk bkC H b p S past later) (Few S) (Zw S) (∀(c:c5)(d:List c5)(a:Hp),Same H a->H c=IS->a c=O (.lst (d.map V.ref))->Vr a d S.notes->Q (.ref c) a)
def cj(F:Fun K "notes" "Book.notes" wf f fd)(Z:Zs mg)(CB:Cb P w mg base)  : yN P w K mg base CX0 1 f fd ["self"] (tf K):=by
 specialize db
 ·obtain⟨b,p,S,past,later,rfl,_⟩:=h;rfl
 obtain⟨b,p,S,past,later,rfl,⟨Y,d,l,ps,ls,k⟩,few,D,q⟩:=h;obtain⟨m,bk,r,n,st⟩:=k.st;obtain⟨G,B,I⟩:=st.no;obtain⟨g,rfl,y,C⟩:=eh I;have lk:g.length=S.notes.length:=by have:=congrArg AH y; simpa using this
 exists _,(zD (zM (yE (jg rfl) rfl Z.sorted uH (zI (ZD (zO (yB hr) (wo CB.state (pv 0)) zU (λ_ _=>rfl))) zN))))
 try dsimp only[L2.cxOf,L2.cxComp,L2.Cx.nox,cG,cE]
 refine⟨_,U,b,Y,_,_,U,k.ob,xz,d,.ref n,U,.inl ⟨_,.inr "notes",st.at_,U,vg.symm⟩,n,_,U,B,λv J=>?_⟩;have o:=zC J (.ext (jI v n));refine⟨v,n,g,U,zA,Rd.same B o,(by have:=few.no; lia),(by rw[y]; exact D),λc as H' z M L T N=>?_⟩;refine q c as H' (o.trans z) (o.free M) T ⟨L.trans lk,λj a e h1 h2=>?_⟩;have hj:=(c7.mp h1).1;have u:g[j]?=O g[j]:=c9 (by lia);obtain⟨_,h3⟩:=N j a _ h1 u;obtain⟨x,h4,h5⟩:=(C.to (.of (o.trans z))).at (i:=j) (d:=e.2.dt) (by rw[d7,h2]; rfl);rw[d7,u] at h4;have X:g[j].1=e.1:=by
  have:=congrArg (·[j]?) y;simp only[d7,u,h2,Cg,EF] at this;rwa[this]
 rw[X] at h3;have R:g[j].2=x:=by simpa using h4
 rwa[x,by rw[<- R]; exact h3,h5]
def askM(b:c5)(m:Int)(a:List V):Prop:=a=[.ref b,.int m]
def vU(_:b9):Sp:=λd H Q E=>(E6 λ(b p:c5) (S:BS) (past later:List (Deed×BS)) (j:Nat)=>A5 (d=[.ref b,.int j]) (qk bkC H b p S past later) (lv S) (j<=S.runs.length) (∀(l:c5)(c:List c5)(a:Hp),Same H a->H l=IS->(∀ g∈c,g≠l)->a l=O (.lst (c.map V.ref))->xB H a c (S.notes.map λe=>yM S j e.2)->Q (.ref l) a))\/WQ askM d H E
def qj(F:Fun K "note_groups" "note_groups" uJ f fd)(Z:Zs mg)(CB:Cb P w mg base)(I:eA P w K mg base pD 1 ["self"] (tf K))(yBj:Has P w K mg base "sides_of" 5 ["note","places"] (uy K))(yCc:Has P w K mg base "pushed" 1 ["side","x","y"] (nj K))(yAm:ae P w K mg base "way_between" 2 ["book","one","other"] (qW K))(yAk:Has P w K mg base "mark_places" 2 ["book"] (qX K))(yAe:ae P w K mg base "check_moment" 1 ["moment","runs"] (xE K))(J:eA P w K mg base kW 1 ["self"] (oV K)):yN P w K mg base (CX1 P w) 6 f fd ["book","moment"] (vU K):=by
 erw[F.okX yY (λvs H Q E h=>?_) (λcdv A outer s H vs Q E hr h=>?_)]
 ·rcases h with ⟨b,p,S,past,later,j,rfl,_⟩ | ⟨b,p,S,past,later,m,rfl,_⟩ <;> rfl
 refine'⟨_,(zB (yA (tE (λ_=>E) yAe wg (hr.mono (by decide)) rfl (zI (pv 1) (zI (tZ CB.m_runs J (hr.mono (by decide)) (pv 0)) zN))))
   (zB (PS.nox (zS 2 yY.nd ?_))
   (zB (PS.nox (zS 3 yY.nd ?_))
   (zB (xM Gx rfl (xD (tZ CB.m_notes I (hr.mono (by decide)) (pv 0))) (xR 4 yY.nd) (zB (PS.nox (zS 5 yY.nd ?_))
   (zB (zS 6 yY.nd (tE (λ_=>E) yAm wg (hr.mono (by decide)) rfl ?_))
   (zD (PS.nox (yA (ug (pv 3) (zI (yU (T:=["side"]) (caps:=[("way",6)]) ⟨rfl,by ac_nf,by ac_nf,rfl,⟨⟨rfl,rfl,BB rfl⟩,o0⟩⟩ rfl (xD ?_) (λ_=>(xR 0 (show(["side","way"]:List g8).Nodup by ac_nf))) (λ_=>yJ) (λ_=>?_)) zN))))))))
   (zD (PS.nox (zM (pv 3)))))))),?_⟩
 nofun
 rcases h with h | h
 rotate_left
 ·obtain⟨b,p,S,past,later,m,rfl,bk,fw,off,k⟩:=h;obtain⟨dx,d,l,ps,ls,kk⟩:=id bk;have no:(bkF d p l).lookup ("runs" : g8)=none:=mH (by ac_nf) (by ac_nf) (by ac_nf);erw[_,rfl,_,rfl,b,dx,_,rfl,kk.ob,no,b,p,S,past,later,rfl,bk,fw,λr rs H1 s1 hr0 hr1 rep=>?_];rwa[r,m,S.runs.length,rfl,.inl ⟨rs,SqL.of hr1,by rw[rep.length,ac]⟩,.inr ⟨off,k _ s1⟩]
 obtain⟨b,p,S,past,later,j0,rfl,bk,gd,hj,q⟩:=h;have no:∀{d l:c5}{m:g8},m = "runs" \/ m = "notes" ->(bkF d p l).lookup m=none:=λ{d l m} e=>by rcases e with e | e <;> subst e <;> rwa[mH (by ac_nf) (by ac_nf) (by ac_nf)]
 obtain⟨dx,d,l,ps,ls,kk⟩:=id bk;erw[_,rfl,_,rfl,b,dx,_,rfl,kk.ob,no (.inl rfl),b,p,S,past,later,rfl,bk,gd.few,λr rs H1 s1 hr0 hr1 rep=>?_];have lrs:rs.length=S.runs.length:=by rw[rep.length,ac]
 erw[r,j0,S.runs.length,rfl,.inl ⟨rs,SqL.of hr1,lrs⟩,.inl ⟨(by lia),(by lia),?_⟩];have bk1:=bk.to (.of s1);erw[_,rfl,b,p,S,past,later,rfl,bk1,gd.few,λdd H2 s2 hdd pl=>?_];erw[sz0,λG hG=>?_];have s3:=zC hG (.lst []);have bk3:=bk1.to (.of (s2.trans s3));obtain⟨dx3,d3,l3,ps3,ls3,kk3⟩:=id bk3;erw[_,rfl,b,dx3,_,rfl,kk3.ob,no (.inr rfl),b,p,S,past,later,rfl,bk3,gd.few,gd.rise,λc as H4 s4 hc e4 na=>?_];have ncG:c≠G:=λz=>by rw[z,zA] at hc; cases hc
 have eG4:=s4 _ _ (zA (H:=H2) (a:=G) (o:=.lst []));have s14:Same H1 H4:=s2.trans (s3.trans s4);have fn:=gd.few.no;have nG:H G=none:=s1.free (s2.free hG);refine⟨c,U,.inl ⟨⟨_,SqL.of e4⟩,wH (K:=K) (a:=c) (xs:=as.map V.ref) (λi N M=>A3 (∀ x o,x≠G->H4 x=O o->M x=O o) (∃ Y:List c5,A3 (M G=O (.lst (Y.map V.ref))) (∀ g∈Y,g≠G) (xB H M Y ((S.notes.take i).map λe=>yM S j0 e.2))) (E3 λ(u1 u2 u3:Option V)=>N=[O (.ref b),O (.int j0),O (.ref dd),O (.ref G),u1,u2,u3]))
  ⟨λ_ _ _ e=>e,⟨[],eG4,λ_ h=>(nomatch h),xB.nil⟩,IS,IS,IS,rfl⟩ (λi N M _ hq=>SqL.of (hq.1 _ _ ncG e4)) ?_ ?_⟩⟩
 ·rintro i x N H5 hi ⟨sH,⟨Y,eG,X,ga⟩,u1,u2,u3,rfl⟩;rw[d7,i8] at hi;obtain⟨a,ha,rfl⟩:=hi;have hil:i<S.notes.length:=by rw[<- na.len]; exact(c7.mp ha).1
  have hn:S.notes[i]?=O S.notes[i]:=c9 hil;obtain⟨v,ea,rv⟩:=na.at_ i a _ ha hn;have kn:=gd.note _ (AX hil);generalize S.notes[i]=R at hn ea rv kn;have sE:vV (λx=>x=G) H4 H5:=λx o hx e=>.inl (sH x o hx e);have npG:∀ a xs,H4 a=O (.tup xs)->¬ a=G:=uF eG4;have ea5:=sE.tup (npG _ _ ea) ea;have rv5:=rv.sam sE npG;obtain⟨t,xs,rfl,et,mo,m0,m1⟩:=oI kn rv5;exists _,U,a,_,1,.ref t,U,U,.inr (SqT.of ea5),rfl;have s05:Same H H5:=λx o e=>sH x o (zH e nG) (s14 _ _ (s1 _ _ e));have s25:Same H2 H5:=λx o e=>sH x o (zH e hG) ((s3.trans s4) _ _ e);erw[_,rfl,_,rfl,t,xs,1,_,rfl,rfl,.inr (SqT.of et),mo,_,rfl,.inl ⟨b,p,S,past,later,(wD R.2).toNat,j0,?_,bk.to (.of s05),gd.few,(by lia),hj,λw H6 s6 hw ew=>?_⟩]
  ·rwa[congrArg (λz=>[V.ref b,V.int z,V.int j0]) (Bv m0).symm]
  refine⟨_,U,.inl ⟨U,_,SqL.of (s6 _ _ eG)⟩,_,U,_,U,dd,.ref t,S,R.2,U,rv5.to (.of s6),pl.to (.of (s25.trans s6)),kn,gd.mk_,λL sd H7 s7 eL ts=>?_⟩;have bS:=qz gd.mk_ kn;have two:=uq (S:=S) (D:=R.2);refine⟨L,U,.inl ⟨⟨_,SqL.of eL⟩,λcc B hB=>?_⟩⟩;have ew7:=s7 _ _ ew;refine yL (K:=K) (a:=L) (xs:=sd.map V.ref) (λi N zs M=>A4 (Same H7 M) (M B=O (.lst zs)) (∃ bs:List c5,zs=bs.map V.ref/\yI M bs (((vT S R.2).take i).map (YL (uA S.runs (wD R.2).toNat j0).1 (uA S.runs (wD R.2).toNat j0).2))) (∃ u:Option V,N=[u,O (.ref w)]))
   ⟨zC hB _,zA,⟨[],rfl,.nil⟩,IS,rfl⟩ (λi N zs M _ hq=>⟨SqL.of (hq.1 _ _ eL),hq.2⟩) ?_ ?_
  ·rintro i x N zs M hi ⟨sH',eB,⟨bs,rfl,tb⟩,u,rfl⟩;rw[d7,i8] at hi;obtain⟨y,hy,rfl⟩:=hi;have hil':i<(vT S R.2).length:=by rw[<- ts.len]; exact(c7.mp hy).1
   have hr':(vT S R.2)[i]?=O (vT S R.2)[i]:=c9 hil';obtain⟨A,B',C,e3,bA,bB⟩:=bS _ (AX hil');have ey:=ts.at_ i y _ hy hr';rw[e3] at ey hr';have ewq:Sq K M w _:=.inr (SqT.of (sH' _ _ ew7));erw[_,rfl,_,rfl,w,_,0,_,rfl,rfl,ewq,rfl,_,rfl,w,_,1,_,rfl,rfl,ewq,rfl,y,A,B',C,_,_,rfl,.inr (SqT.of (sH' _ _ ey)),(by lia),(by lia),λz H8 s8 hz ez=>?_];have eB8:=s8 _ _ eB;erw[eB8,zK (by rw[ac,tb.len,ac,j3]; lia),(sH'.trans s8).putNew hB,zA,⟨bs++[z],by rw[e7]; rfl,?_⟩,_,rfl];rw[o6,hr',e7];exact((tb.to (.of s8)).app (.one ez)).samE (xZ eB8) (uF eB8)
  ·rintro N zs H8 ⟨s8,eB,⟨bs,rfl,tb⟩,u,rfl⟩;rw[ac,ts.len,j5] at tb;have s58:Same H5 H8:=s6.trans (s7.trans s8);have eG8:=s58 _ _ eG;have nB5:H5 B=none:=s6.free (s7.free hB);have nBG:B≠G:=λz=>by rw[z,eG] at nB5; cases nB5
   exists G,_,.ref B,U,U,eG8,zK (by rw[ac,ga.len,ac,j3]; lia);have sG:=xZ (o:=.lst (Y.map V.ref++[.ref B])) eG8;erw[λx o n e=>by rw[zF n]; exact s58 _ _ (sH x o n e),⟨Y++[B],by rw[zA,e7]; rfl,λg hg=>?_,?_⟩,_,_,_,rfl]
   ·rcases i7.mp hg with z | z
    ·rwa[X g z]
    ·rw[e8.mp z]; rwa[nBG]
   ·rw[o6,hn,e7];have ga8:xB H H8 Y _:=ga.samE (vV.of (φ:=λ_=>False) s58) (λ_ _ _=>id) (λ_ _=>id);exact(ga8.samE sG (uF eG8) X).snoc (s05.free nB5) (by rw[zF nBG]; rwa[eB]) (tb.samE sG (uF eG8))
 ·rintro N H5 ⟨sH,⟨Y,eG,X,ga⟩,u1,u2,u3,rfl⟩;rw[ac,na.len,j5] at ga;rwa[_,rfl,q G Y H5 (λx o e=>sH x o (zH e nG) (s14 _ _ (s1 _ _ e))) nG X eG ga]
def zz(_:b9):Sp:=λc H Q E=>(E6 λ(b p:c5) (S:BS) (past later:List (Deed×BS)) (j:Nat)=>A5 (c=[.ref b,.int j]) (qk bkC H b p S past later) (lv S) (j<=S.runs.length) (∀(l:c5)(d:List c5)(a:Hp),Same H a->H l=IS->a l=O (.lst (d.map V.ref))->yI a d (S.notes.map λe=>yM S j e.2).flatten->Q (.ref l) a))\/WQ askM c H E
def oR(F:Fun K "note_sides" "note_sides" vI f fd)(Z:Zs mg)(CB:Cb P w mg base)(X:ae P w K mg base "note_groups" 6 ["book","moment"] (vU K)):yN P w K mg base (CX1 P w) 7 f fd ["book","moment"] (zz K):=by
 erw[F.okX tU (λvs H Q E h=>?_) (λcdv A outer s H vs Q E hr h=>?_)]
 ·rcases h with ⟨b,p,S,past,later,j,rfl,_⟩ | ⟨b,p,S,past,later,m,rfl,_⟩ <;> rfl
 refine'⟨_,(zB (PS.nox (zS 2 tU.nd ?_))
   (zB (xM Gx rfl (xD (tE (λ_=>E) X wg (hr.mono (by decide)) rfl (zI (pv 0) (zI (pv 1) zN)))) (xR 3 tU.nd) (PSs.nox (zD (yA (Zb Do ES ET jM (pv 2) (zI (pv 3) zN))))))
   (zD (PS.nox (zM (pv 2)))))),?_⟩
 nofun
 rcases h with h | h
 rotate_left
 ·obtain⟨b,p,S,past,later,m,rfl,bk,fw,off,k⟩:=h;erw[sz0,λL B=>?_];have v:=zC B (.lst []);rwa[_,rfl,_,rfl,.inr ⟨b,p,S,past,later,m,rfl,bk.to (.of v),fw,off,λI N=>k _ (v.trans N)⟩]
 obtain⟨b,p,S,past,later,c,rfl,bk,gd,hj,q⟩:=h;erw[sz0,λL B=>?_];have v:=zC B (.lst []);erw[_,rfl,_,rfl,.inl ⟨b,p,S,past,later,c,rfl,bk.to (.of v),gd,hj,λG gs H2 N hG _ eG R=>?_⟩];have C:=N _ _ (zA (H:=H) (a:=L) (o:=.lst []));have nGL:G≠L:=λz=>by rw[z,zA] at hG; cases hG
 have ngL:∀ g∈gs,g≠L:=λg y z=>by
  have:=R.new g y;rw[z,zA] at this;cases this
 refine⟨G,U,.inl ⟨⟨_,SqL.of eG⟩,wH (K:=K) (a:=G) (xs:=gs.map V.ref) (λi J I=>A3 (∀ x o,x≠L->H2 x=O o->I x=O o) (∃ d:List c5,I L=O (.lst (d.map V.ref))/\yI I d ((S.notes.take i).map λe=>yM S c e.2).flatten) (∃ u:Option V,J=[O (.ref b),O (.int c),O (.ref L),u]))
  ⟨λ_ _ _ e=>e,⟨[],C,yI.nil⟩,IS,rfl⟩ (λi J I _ hq=>SqL.of (hq.1 _ _ nGL eG)) ?_ ?_⟩⟩
 ·rintro i x J T hi ⟨M,⟨d,l,r⟩,u,rfl⟩;rw[d7,i8] at hi;obtain⟨g,y,rfl⟩:=hi;have hil:i<S.notes.length:=by
   have:=R.len;rw[ac] at this;rw[<- this];exact(c7.mp y).1
  have hn:S.notes[i]?=O S.notes[i]:=c9 hil;obtain⟨bs,eg,tb⟩:=R.at_ i g (yM S c S.notes[i].2) y (by rw[d7,hn]; rfl);have sE:vV (λx=>x=L) H2 T:=λx o hx e=>.inl (M x o hx e);have eg5:=sE.lst (ngL g (e9 y)) eg;have Y:=tb.samE sE (uF C);have l1:=ut (λe:Int×Deed=>yM S c e.2) (λ_=>uB) (S.notes.take i);have l2:=uB (S:=S) (j:=c) (D:=S.notes[i].2);have l3:=r.len;have l4:=tb.len;have fn:=gd.few.no;rw[j3] at l1;exists _,U,.inl ⟨U,_,SqL.of l⟩,_,U,L,g,_,_,U,U,l,eg5,AV (zK (by rw[ac,ac]; lia));have sL:=xZ (o:=.lst (d.map V.ref++bs.map V.ref)) l;erw[λx o n e=>by rw[zF n]; exact M x o n e,⟨d++bs,by rw[zA,e7],?_⟩,_,rfl];rw[o6,hn,e7,DW];refine(r.app ?_).samE sL (uF l);show yI T bs [yM S c S.notes[i].2].flatten;rw[Fk];rwa[Y]
 ·rintro J T ⟨M,⟨d,l,r⟩,u,rfl⟩;rw[ac,R.len,ac,j5] at r;rwa[_,rfl,q L d T (λx o e=>M x o (zH e B) (N _ _ (v _ _ e))) B l r]
def rT(_:b9):Sp:=λc H Q _=>E5 λ(b p:c5) (S:BS) (past later:List (Deed×BS))=>A4 (c=[.ref b]) (qk bkC H b p S past later) (lv S) (∀(l:c5)(a:Hp),Same H a->H l=IS->a l=O (.lst ((S.notes.map (·.1)).map V.int))->Q (.ref l) a)
def sy(F:Fun K "note_numbers" "note_numbers" wQ f fd)(Z:Zs mg)(CB:Cb P w mg base)(e:eA P w K mg base pD 1 ["self"] (tf K)):yN P w K mg base CX0 2 f fd ["book"] (rT K):=by
 specialize uh
 ·obtain⟨b,p,S,past,later,rfl,_⟩:=h;rfl
 obtain⟨b,p,S,past,later,rfl,bk,gd,q⟩:=h;obtain⟨R,d,l,ps,ls,M⟩:=id bk;have no:(bkF d p l).lookup ("notes" : g8)=none:=mH (by ac_nf) (by ac_nf) (by ac_nf)
 refine'⟨_,(zD (zM (yU (T:=["pair"]) (caps:=[]) ⟨rfl,by ac_nf,by ac_nf,rfl,o0⟩ rfl (xD (tZ CB.m_notes e (hr.mono (by decide)) (pv 0))) (λ_=>(xR 0 (show(["pair"]:List g8).Nodup by ac_nf))) (λ_=>yJ) (λ_=>?_)))),?_⟩
 nofun
 refine⟨_,U,b,R,_,U,M.ob,no,b,p,S,past,later,U,bk,gd.few,gd.rise,λc X Y B hc J o=>?_⟩;have fn:=gd.few.no;refine⟨c,U,.inl ⟨⟨_,SqL.of J⟩,λcc D y=>?_⟩⟩;refine yL (K:=K) (a:=c) (xs:=X.map V.ref) (λi j g z=>A4 (Same Y z) (z D=O (.lst g)) (g=((S.notes.take i).map (·.1)).map V.int) (∃ u:Option V,j=[u]))
  ⟨zC y _,zA,rfl,IS,rfl⟩ (λi j g z _ C=>⟨SqL.of (C.1 _ _ J),C.2⟩) ?_ ?_
 ·rintro i x j g L hi ⟨m,n,rfl,u,rfl⟩;rw[d7,i8] at hi;obtain⟨a,I,rfl⟩:=hi;have r:i<S.notes.length:=by rw[<- o.len]; exact(c7.mp I).1
  have G:S.notes[i]?=O S.notes[i]:=c9 r;obtain⟨v,N,_⟩:=o.at_ i a _ I G;erw[_,rfl,a,_,0,_,rfl,rfl,.inr (SqT.of (m _ _ N)),rfl,n,zK (by rw[ac,ac,j3]; lia),m.putNew y,zA,?_,_,rfl];rw[o6,G,e7,e7];rfl
 ·rintro j g L ⟨m,n,rfl,u,rfl⟩;rw[ac,o.len,j5] at n;rwa[q D L (B.trans m) (B.free y) n]
def jR(S:BS)(n:Nat):List Int:=((S.notes.take n).map λe=>(yM S 0 e.2).map λ_=>e.1).flatten
def aX{S:BS}{n:Nat}(h:S.notes[n]?=O e):jR S (n+1)=jR S n++(yM S 0 e.2).map λ_=>e.1:=by
 unfold jR;rw[o6,h,e7,DW];rwa[congrArg _ (Cf _)]
def Xm(n:Nat):(jR S n).length<=2*S.notes.length:=by
 have:=ut (λe:Int×Deed=>(yM S 0 e.2).map λ_=>e.1) (λ_=>by rw[ac]; rwa[uB]) (S.notes.take n);rw[j3] at this;unfold jR;lia
def qT(_:b9):Sp:=λc H Q _=>E5 λ(b p:c5) (S:BS) (past later:List (Deed×BS))=>A4 (c=[.ref b]) (qk bkC H b p S past later) (lv S) (∀(l:c5)(a:Hp),Same H a->H l=IS->a l=O (.lst ((jR S S.notes.length).map V.int))->Q (.ref l) a)
def ql(F:Fun K "side_owners" "side_owners" uO f fd)(Z:Zs mg)(CB:Cb P w mg base)(X:ae P w K mg base "note_groups" 6 ["book","moment"] (vU K))(yAh:Has P w K mg base "note_numbers" 2 ["book"] (rT K)):yN P w K mg base CX0 7 f fd ["book"] (qT K):=by
 specialize xP
 ·obtain⟨b,p,S,past,later,rfl,_⟩:=h;rfl
 obtain⟨b,p,S,past,later,rfl,bk,gd,q⟩:=h
 refine'⟨_,(zB (zS 1 xP.nd ?_)
   (zB (zS 2 xP.nd ?_)
   (zB (zS 3 xP.nd (tE (λ_=>E0) X kR (hr.mono (by decide)) rfl (zI (pv 0) (zI xV zN))))
   (zB (xM l9 rfl (xC rfl Z.range ?_) (xR 4 xP.nd) (zD (yA (Zb Do ES ET jM (pv 1) (zI (yU (T:=["side"]) (caps:=[("at",4),("numbers",2)]) ⟨rfl,by ac_nf,by ac_nf,rfl,⟨⟨rfl,rfl,BB rfl⟩,⟨rfl,rfl,BB rfl⟩,o0⟩⟩ rfl (ff ?_) (λ_=>(xR 0 (show(["side","at","numbers"]:List g8).Nodup by ac_nf))) (λ_=>yJ) (λ_=>?_)) zN)))))
   (zD (zM (pv 1))))))),?_⟩
 nofun
 erw[sz0,λc hO=>?_];have s1:=zC hO (.lst []);erw[_,rfl,b,p,S,past,later,rfl,bk.to (.of s1),gd,λN H2 C hN eN=>?_];erw[_,rfl,.inl ⟨b,p,S,past,later,0,rfl,bk.to (.of (s1.trans C)),gd,Aa _,λG l H3 s3 hG _ eG ga=>?_⟩];have eO3:=s3 _ _ (C _ _ (zA (H:=H) (a:=c) (o:=.lst [])));have eN3:=s3 _ _ eN;have s03:Same H H3:=s1.trans (C.trans s3);have nNO:N≠c:=λz=>by rw[z,zA] at hN; cases hN
 have nGO:G≠c:=λz=>by rw[z,C _ _ zA] at hG; cases hG
 have ngO:∀ g∈l,g≠c:=λg r z=>by
  have:=ga.new g r;rw[z,C _ _ zA] at this;cases this
 have lg:l.length=S.notes.length:=by rw[ga.len,ac]
 have fn:=gd.few.no;refine⟨_,U,G,l.map V.ref,U,.inl (SqL.of eG),_,U,by rw[ac]; lia,by rw[ac]; lia,wM (lo:=0) (n:=(((l.map V.ref).length:Nat):Int).toNat) (λi d v=>A3 (∀ x o,x≠c->H3 x=O o->v x=O o) (v c=O (.lst ((jR S i).map V.int))) (∃ Y:Option V,d=[O (.ref b),O (.ref c),O (.ref N),O (.ref G),Y]))
  ⟨λ_ _ _ e=>e,eO3,IS,rfl⟩ ?_ ?_⟩
 ·rintro i d H5 hi ⟨m,J,Y,rfl⟩;rw[i4,ac] at hi;have M:S.notes[i]?=O S.notes[i]:=c9 (by lia);have r:l[i]?=O l[i]:=c9 hi;generalize S.notes[i]=L at M;generalize l[i]=g at r;obtain⟨as,eg,ta⟩:=ga.at_ i g (yM S 0 L.2) r (by rw[d7,M]; rfl);have I:=m _ _ (ngO g (e9 r)) eg;have eN5:=m _ _ nNO eN3;have eG5:=m _ _ nGO eG;have a1:atI (l.map V.ref) (0+(i:Int))=O (.ref g):=by
   rw[Ay];rwa[tP (by rw[d7,r]; rfl)]
  have a2:atI ((S.notes.map (·.1)).map V.int) (0+(i:Int))=O (.int L.1):=by
   rw[Ay];rwa[tP (by rw[d7,d7,M]; rfl)]
  have two:=uB (S:=S) (j:=0) (D:=L.2);have la:=ta.len;refine⟨_,U,.inl ⟨U,_,SqL.of J⟩,_,U,_,U,G,_,_,_,U,U,.inl (SqL.of eG5),a1,g,U,⟨_,SqL.of I⟩,λcc D hD=>?_⟩;refine yL (K:=K) (a:=g) (xs:=as.map V.ref) (λj d y v=>A4 (Same H5 v) (v D=O (.lst y)) (y=(Be j L.1).map V.int) (∃ u:Option V,d=[u,O (.int (0+(i:Int))),O (.ref N)]))
   ⟨zC hD _,zA,rfl,IS,rfl⟩ (λj d y v _ hq=>⟨SqL.of (hq.1 _ _ I),hq.2⟩) ?_ ?_
  ·rintro j x d y H6 hj ⟨B,R,rfl,u,rfl⟩;have hjl:=(c7.mp hj).1;rw[ac] at hjl;erw[_,rfl,_,rfl,N,_,_,_,rfl,rfl,.inl (SqL.of (B _ _ eN5)),a2,R,zK (by rw[ac,Bc]; lia),B.putNew hD,zA,?_,_,rfl];rw[CW,e7];rfl
  ·rintro d y H6 ⟨B,R,rfl,u,rfl⟩;rw[ac,la,<- List.map_const'] at R;have eO6:=B _ _ J;have l1:=Xm (S:=S) i;erw[c,D,_,_,rfl,rfl,eO6,R,AV (zK (by rw[ac,ac,ac]; lia)),λx o n e=>by rw[zF n]; exact B _ _ (m x o n e),?_,_,rfl];rw[zA,aX M,e7]
 ·rintro d H5 ⟨m,J,Y,rfl⟩;rw[i4,ac,lg] at J;rwa[_,rfl,q c H5 (λx o e=>m x o (zH e hO) (s03 _ _ e)) hO J]
def Xi{c d:Type}(f:c->List d)(g:c->Int):∀(l:List c)(k:Nat)(r:d),(l.map f).flatten[k]?=O r->∃ e∈l,((l.map λe=>(f e).map λ_=>g e).flatten)[k]?=O (g e)/\r∈f e
 | [],k,r,h=>by simp at h
 | a::l,k,r,h=>by
  rw[g9,Gu] at h ⊢;by_cases i:k<(f a).length
  ·rw[Ag i] at h;erw[a,.head _,?_,e9 h];rw[Ag (by rw[ac]; rwa[i]),d7,h];rfl
  ·rw[t9 (by lia)] at h;obtain⟨e,j,h1,h2⟩:=Xi f g l _ r h;erw[e,.tail _ j,?_,h2];rw[t9 (by rw[ac]; lia),ac];rwa[h1]
def gD(S:BS):List (List Int):=(S.notes.map λe=>yM S 0 e.2).flatten
def YA{k:Nat}(h:(gD S)[k]?=O r):∃ e∈S.notes,(jR S S.notes.length)[k]?=O e.1/\r∈yM S 0 e.2:=by
 obtain⟨e,a,h1,h2⟩:=Xi (λe:Int×Deed=>yM S 0 e.2) (λe=>e.1) S.notes k r h;erw[e,a,?_,h2];unfold jR;rw[j5];rwa[h1]
structure UQ(H:Hp)(l:c5)(ss:List Sd)(S:BS):Prop where
 mk ::
 at_:H l=O (.lst (zW ss))
 ok:jv H ss
 rows:ss.map (·.2)=(gD S).map p3
 few:ss.length<=2*S.notes.length
def XC{H:Hp}{h:List c5}(gd:lv S)(n:H l=O (.lst (h.map V.ref)))(i:yI H h (gD S)):∃ a,UQ H l a S:=by
 obtain⟨a,o,ok,d⟩:=af i λr c=>by
  obtain⟨g,j,c⟩:=GW.mp c;obtain⟨e,m,rfl⟩:=g7.mp j;rwa[rf gd (gd.note e m) r c]
 erw[a,?_,ok,d,?_]
 ·rw[n,<- o]
 ·have:=congrArg AH d;rw[ac,ac] at this;have p:=ut (λe:Int×Deed=>yM S 0 e.2) (λ_=>uB) S.notes;unfold gD at this;lia
structure TW(S:BS)(ys:List Nat):Prop where
 mk ::
 some_:1<=ys.length
 few:ys.length<=3
 rise:ys.Pairwise (· < ·)
 has:∀ y∈ys,((y:Nat):Int)∈S.notes.map (·.1)
 no:∀ os:List Sd,(∀ e∈S.notes,(∃ y∈ys,e.1=((y:Nat):Int))->∀ r∈yM S 0 e.2,∃ t∈os,t.2=p3 r)->∀ z:P3,0<z.2.2->¬ inW os z
def yq(_:b9):Sp:=λg H Q _=>E5 λ(b p:c5) (S:BS) (past later:List (Deed×BS))=>A6 (g=[.ref b]) (qk bkC H b p S past later) (lv S) (∀ e∈S.notes,1<=e.1/\e.1<=6) (∀(P:P3)(c:List Sd)(a:Hp),Same H a->c.map (·.2)=(gD S).map p3->0<P.2.2->inW c P->VR c P->Q .non a) (∀(D:c5)(d:List Nat)(a:Hp),Same H a->H D=IS->a D=O (.lst (d.map λk=>V.int (k:Nat)))->TW S d->Q (.ref D) a)
def ml(F:Fun K "book_clash" "book_clash" vF f fd)(Z:Zs mg)(CB:Cb P w mg base)(yAq:Has P w K mg base "side_owners" 7 ["book"] (qT K))(yCj:Has P w K mg base "clash" 9 ["sides"] (mZ K))(yAv:ae P w K mg base "note_sides" 7 ["book","moment"] (zz K)):yN P w K mg base CX0 10 f fd ["book"] (yq K):=by
 specialize sA
 ·obtain⟨b,p,S,past,later,rfl,_⟩:=h;rfl
 obtain⟨b,p,S,past,later,rfl,bk,gd,n,qn,q⟩:=h;have fn:=gd.few.no
 refine'⟨_,(zB (zS 1 sA.nd (wL yCj (hr.mono (by decide)) rfl (zI (tE (λ_=>E0) yAv kR (hr.mono (by decide)) rfl (zI (pv 0) (zI xV zN))) zN)))
   (zB (yO ?_ (zD (zM xq)) zX)
   (zB (zS 2 sA.nd ?_)
   (zD (zM (yE (jL rfl) rfl Z.sorted uH (zI (yT (iW rfl) rfl Z.set Ws (zI (yU (T:=["pair"]) (caps:=[("owners",2)]) ⟨rfl,by ac_nf,by ac_nf,rfl,⟨⟨rfl,rfl,BB rfl⟩,o0⟩⟩ rfl (xD (pv 1)) (λ_=>(xR 0 (show(["pair","owners"]:List g8).Nodup by ac_nf))) (λ_=>yJ) (λ_=>?_)) zN)) zN))))))),?_⟩
 nofun
 erw[_,rfl,.inl ⟨b,p,S,past,later,0,rfl,bk,gd,Aa _,λl as H1 s1 hl el ta=>?_⟩];obtain⟨o,v⟩:=XC gd el ta;have fw:=v.few;erw[l,o,rfl,SqL.of v.at_,v.ok,by lia,λP H2 M p0 iw cd=>?_,λD Y H2 M hD eD pr cl=>?_]
 ·exists _,U,U,_,rfl;erw[qr ?_];rwa[qn P o H2 (s1.trans M) v.rows p0 iw cd]
 ·exists _,U,U,_,rfl;refine wX ?_;refine⟨_,U,b,p,S,past,later,U,bk.to (.of (s1.trans M)),gd,λd H3 s3 hO eO=>?_⟩;have X:=s3 _ _ eD;have pr3:=pr.same s3;obtain⟨lc,rg⟩:=cl.range;rw[ac] at lc;have R:∀ c∈Y,∃ e∈S.notes,(jR S S.notes.length)[c.2.1.toNat]?=O e.1/\∀ t,o[c.2.1.toNat]?=O t->∃ r∈yM S 0 e.2,t.2=p3 r:=λc g=>by
   obtain⟨g0,g1⟩:=rg c.2 (o9 g);have hk:c.2.1.toNat<o.length:=by lia
   have lf:=congrArg AH v.rows;rw[ac,ac] at lf;have hr:(gD S)[c.2.1.toNat]?=O (gD S)[c.2.1.toNat]:=c9 (by lia);obtain⟨e,i,h1,h2⟩:=YA hr;erw[e,i,h1,λt G=>⟨_,h2,?_⟩];have z:=congrArg (λl=>l[c.2.1.toNat]?) v.rows;rw[d7,d7,G,hr] at z;rwa[o8 z]
  refine⟨_,U,D,U,.inl ⟨⟨_,SqL.of X⟩,λcc B hB=>?_⟩⟩;refine yL (K:=K) (a:=D) (xs:=sS Y) (λj σ I H'=>A4 (Same H3 H') (H' B=O (.lst I)) (I=((Y.take j).map λc=>((jR S S.notes.length).getD c.2.1.toNat 0).toNat).map (λk=>V.int (k:Nat))) (∃ u:Option V,σ=[u,O (.ref d)]))
   ⟨zC hB _,zA,rfl,IS,rfl⟩ (λj σ I H' _ hq=>⟨SqL.of (hq.1 _ _ X),hq.2⟩) ?_ ?_
  ·rintro j x σ I H4 hj ⟨L,eB,rfl,u,rfl⟩;obtain⟨c,g,rfl,hjl⟩:=cB hj;have C:=e9 g;obtain⟨e,i,h1,_⟩:=R c C;obtain⟨b0,b1⟩:=n e i;obtain⟨g0,g1⟩:=rg c.2 (o9 C);have a1:atI ((jR S S.notes.length).map V.int) c.2.1=O (.int e.1):=by
    rw[<- Bv g0];rwa[tP (by rw[d7,h1]; rfl)]
   erw[_,rfl,_,rfl,c.1,_,0,_,rfl,rfl,.inr (SqT.of (L _ _ (pr3 c C))),rfl,d,_,_,_,rfl,rfl,.inl (SqL.of (L _ _ eO)),a1,eB,zK (by rw[ac,ac,j3]; lia),L.putNew hB,zA,?_,_,rfl];rw[o6,g,e7,e7];erw[congrArg _ ?_];show [V.int e.1]=[V.int ((((jR S S.notes.length).getD c.2.1.toNat 0).toNat:Nat):Int)];rw[Bs,h1,GX,Bv (by lia)]
  ·rintro σ I H4 ⟨L,eB,rfl,u,rfl⟩;rw[vh,j5] at eB;have ow:∀ c∈Y,∃ e∈S.notes,(((jR S S.notes.length).getD c.2.1.toNat 0).toNat:Int)=e.1/\∀ t,o[c.2.1.toNat]?=O t->∃ r∈yM S 0 e.2,t.2=p3 r:=λc g=>by
    obtain⟨e,i,h1,h2⟩:=R c g;erw[e,i,?_,h2];rw[Bs,h1,GX,Bv (by have:=n e i; lia)]
   erw[B,_,rfl,SqL.of eB,by rw[ac]; lia,λk hk=>?_,λT J hT y1 y2 y3=>?_]
   ·obtain⟨c,g,rfl⟩:=g7.mp hk;obtain⟨e,i,h1,_⟩:=ow c g;obtain⟨b0,b1⟩:=n e i;generalize ((jR S S.notes.length).getD c.2.1.toNat 0).toNat=k at h1;simp;lia
   have s5:=L.trans (zC hT (.ext (cH T J (!w.params.followText "set-order"))));erw[T,J,rfl,zA,y1,λp' N=>?_];have s6:=s5.trans (zC N (.lst (J.map λk=>V.int (k:Nat))));have s06:=(s1.trans M).trans (s3.trans s6);erw[q p' J _ s06 (((s1.trans M).trans (s3.trans s5)).free N) zA ⟨?_,y2,(mh J y1).1,λy hy=>?_,λos hos z z0 iw=>?_⟩]
   ·obtain⟨c,g⟩:∃ c,c∈Y:=List.exists_mem_of_length_pos (by lia);have m:=(y3 _).mpr (o9 (f:=λc:Pr=>((jR S S.notes.length).getD c.2.1.toNat 0).toNat) g);rwa[List.length_pos_of_mem m]
   ·obtain⟨c,g,rfl⟩:=g7.mp ((y3 y).mp hy);obtain⟨e,i,h1,_⟩:=ow c g;rw[h1];rwa[o9 i]
   ·erw[cl.own (os:=o.filter λt=>decide (sv t.2 z<=0)) (λc g t G=>?_) z z0 λt G=>of_decide_eq_true (Bw.mp G).2];obtain⟨c,C,rfl⟩:=g7.mp g;obtain⟨e,i,h1,h2⟩:=ow c C;obtain⟨r,mr,er⟩:=h2 t G;obtain⟨t',mt,et⟩:=hos e i ⟨_,(y3 _).mpr (o9 (f:=λc:Pr=>((jR S S.notes.length).getD c.2.1.toNat 0).toNat) C),h1.symm⟩ r mr;erw[Bw.mpr ⟨e9 G,y8 ?_⟩];rw[er,<- et];rwa[iw t' mt]
def oX(_:b9):Sp:=λa H Q _=>E5 λ(b p:c5) (S:BS) (past later:List (Deed×BS))=>A3 (a=[.ref b]) (qk bkC H b p S past later) (Q (.int S.coming) H)
def gW(F:Fun K "coming" "Book.coming" yg f fd)(Z:Zs mg)(c:Cb P w mg base)  : yN P w K mg base CX0 1 f fd ["self"] (oX K):=by
 specialize gX
 ·obtain⟨b,p,S,past,later,rfl,_⟩:=h;rfl
 obtain⟨b,p,S,past,later,rfl,⟨a,d,l,e,g,k⟩,q⟩:=h;obtain⟨m,bk,r,n,st⟩:=k.st;exists _,(zD (zM (zO (yB hr) (wo c.state (pv 0)) zU (λ_ _=>rfl))))
 try dsimp only[L2.cxOf,L2.cxComp,L2.Cx.nox,cG,cE]
 rwa[_,rfl,b,a,_,_,rfl,k.ob,xz,d,.int S.coming,rfl,.inl ⟨_,.inr "coming",st.at_,rfl,nI.symm⟩,q]
def nV(_:b9):Sp:=λc H Q _=>E7 λ(b p:c5) (v:V) (S:BS) (D:Deed) (past later:List (Deed×BS))=>A9 (c=[.ref b,v]) (qk bkC H b p S past later) (WN D) (Rep H D.dt v) (okD S D) (Few S) (gq S) (past.length<=500) (∀(a:Hp),vV (Bp b p) H a->qk bkC a b p (aft S D) (past++[(D,S)]) []->Q (if S.coming=(aft S D).coming then .non else .int S.coming) a)
def aL(F:Fun K "deed" "Book.deed" pF f fd)(Z:Zs mg)(y:Cb P w mg base)(a:eA P w K mg base oz 1 ["self"] (oX K))(N:Has P w K mg base "after" 4 ["state","row"] (lB K)):yN P w K mg base CX0 5 f fd ["self","row"] (nV K):=by
 specialize nC
 ·obtain⟨b,p,v,S,D,past,later,rfl,_⟩:=h;rfl
 obtain⟨b,p,v,S,D,past,later,rfl,bk,kd,hv,ok,few,fr,hl,q⟩:=h;obtain⟨c,d,l,C,ls,k⟩:=bk;have no:∀{d l:c5}{m:g8},m = "coming" ->(bkF d p l).lookup m=none:=λ{d l m} e=>by subst e; rwa[mH (by ac_nf) (by ac_nf) (by ac_nf)]
 refine'⟨_,(zB (zS 2 nC.nd (tZ y.m_coming a (hr.mono (by decide)) (pv 0)))
   (zB (zS 3 nC.nd (wL N (hr.mono (by decide)) rfl (zI (wo y.state (pv 0)) (zI (pv 1) zN))))
   (zB (yA (ug (wo y.past (pv 0)) (zI (io (zI (pv 1) (zI (wo y.state (pv 0)) zN))) zN)))
   (zB (nP y.state (pv 0) (pv 3))
   (zB (nP y.later (pv 0) ?_)
   (zD (zM (fS (xJ Wl (tZ y.m_coming a (hr.mono (by decide)) (pv 0)) (pv 2) (xj _)) xq (pv 2))))))))),?_⟩
 nofun
 exists _,U,b,c,_,U,k.ob,no rfl,b,p,S,past,later,U,⟨c,d,l,C,ls,k⟩;erw[_,rfl,b,c,_,_,rfl,k.ob,xz,_,rfl,d,v,S,D,rfl,kd,k.st,hv,ok,few,fr,λd' J X hd' T=>?_];have M:=k.to X;have Y:=hv.to X;erw[_,rfl,b,c,_,_,rfl,M.ob,WI,.inl ⟨rfl,_,SqL.of M.pa⟩,_,rfl,_,rfl,b,c,_,_,rfl,M.ob,xz,sz2,λt ht=>?_];have L:=zC ht (.tup [v,.ref d]);have i:=M.to (.of L);exists p,C,.ref t,U,U,i.pa,zK (by rw[i.pp.len]; lia);have j:b≠p:=aQ i.ob i.pa (λz=>nomatch z);have e3:upd (upd J t (.tup [v,.ref d])) p (.lst (C++[.ref t])) b=O (.ins bkC c (bkF d p l)):=by rw[zF j]; rwa[i.ob]
 exists _,U,_,U,b,c,_,U,e3,(by show 3<1000; decide);rw[ig];refine⟨sz0,λg I=>?_⟩;have u:b≠g:=zH zA I;have r:p≠g:=λz=>by
  rw[<- z,zF j.symm,zA] at I;cases I
 exists _,U,b,c,_,U,(by rw[zF u,zA]),(by show 3<1000; decide);rw[iV];have hgt:(upd J t (.tup [v,.ref d])) g=none:=by rw[zF u.symm,zF r.symm] at I; rwa[I]
 have B:vV (Bp b p) (upd J t (.tup [v,.ref d])) (upd (upd (upd (upd (upd J t (.tup [v,.ref d])) p (.lst (C++[.ref t]))) b (.ins bkC c (bkF d' p l))) g (.lst [])) b (.ins bkC c (bkF d' p g))):=λx o hx e=>by
  have n1:x≠b:=λz=>hx (.inl z);have n2:x≠p:=λz=>hx (.inr z);rw[zF n1,zF (zH e hgt),zF n1,zF n2];rwa[.inl e]
 have nd:=ZJ i.ob i.pa;have G:=YV i.ob i.pa;have R:=T.to (.of L);have BK:qk bkC (upd (upd (upd (upd (upd J t (.tup [v,.ref d])) p (.lst (C++[.ref t]))) b (.ins bkC c (bkF d' p l))) g (.lst [])) b (.ins bkC c (bkF d' p g))) b p (aft S D) (past++[(D,S)]) []:=by
  erw[c,d',g,C++[.ref t],[],zA,R.samE B nd G,?_,?_,?_,rfl,r.symm]
  ·rw[zF j.symm,zF r,zF j.symm,zA]
  ·rw[zF u.symm,zA]
  ·rwa[tY.app (B.tup (G _ _ zA) zA) ((Y.to (.of L)).sam B G) (i.st.samE B nd G) (i.pp.samE B nd G)]
 have n:=q _ (((X.trans (.of L)).wider (λ_ z=>z.elim)).trans B) BK;exists _,U,b,c,_,U,zA,no rfl,b,p,aft S D,_,[],U,BK,_,U,U,_,rfl;erw[ifE (λe=>?_) (λe=>?_)]
 ·rw[y7 e.symm] at n;rwa[n]
 ·rw[y6 (λz=>e z.symm)] at n;rwa[_,rfl,n]
def mq(_:b9):Sp:=λe H Q _=>E4 λ(a b p:c5) (rows:List Int)=>A7 (e=[.ref a,.ref b]) (H a=O (.lst (rows.map V.int))) (90<=rows.length) (∀ x∈rows,0<=x/\x<1000003) (qk bkC H b p BS.nil [] []) (a≠p) (∀(d:c5)(S:BS)(past:List (Deed×BS))(c:Hp),vV (Bp b p) H c->qk bkC c b p S past []->LwP c d p S->lv S->S.runs.length<=3->past.length<=14->(∃ i,i<=6/\zh S.notes S.coming i)->Q (.ref d) c)
def gK(F:Fun K "_law_raised" "_law_raised" ya f fd)(Z:Zs mg)(CB:Cb P w mg base)(yAt:Has P w K mg base "_law_some_deeds" 4 ["_law_some","_law_names_here"] (yt K))(yCe:Has P w K mg base "_law_names" 1 ["_law_some","_law_many"] (lP K))(yCk:Has P w K mg base "_law_after" 1 ["_law_m","_law_deed"] (uj K))(g:eA P w K mg base kA 5 ["self","row"] (nV K))(yCv:Has P w K mg base "_law_new" 1 [] (jr K)):yN P w K mg base CX0 6 f fd ["_law_some","_law_book"] (mq K):=by
 specialize rW
 ·obtain⟨a,b,p,rows,rfl,_⟩:=h;rfl
 obtain⟨a,b,p,rows,rfl,ha,l90,bd,bk,nap,q⟩:=h;have no:∀{d l:c5}{m:g8},m = "deed" ->(bkF d p l).lookup m=none:=λ{d l m} e=>by subst e; rwa[mH (by ac_nf) (by ac_nf) (by ac_nf)]
 obtain⟨dx0,d0,l0,ps0,ls0,k0⟩:=id bk
 refine'⟨_,(zB (zS 2 rW.nd (nq yCv (hr.mono (by decide)) rfl))
   (zB (xM l9 rfl (xD ?_) (xR 3 rW.nd) (zB (yA (kK CB.m_deed g (hr.mono (by decide)) (pv 1) (zI (pv 3) zN)))
   (zD (zS 2 rW.nd ?_))))
   (zD (zM (pv 2))))),?_⟩
 nofun
 erw[rfl,λd m b' r n H1 s1 hd hm Y ed em eb er en _ _=>?_];have lw1:LwA H1 d m b' r n BS.nil:=⟨.inl ed,.nil em,.nil eb,⟨[],er,yC.mpr rfl⟩,.nil en⟩;have nrp:r≠p:=λz=>by rw[z,k0.pa] at Y; cases Y
 erw[_,rfl,_,rfl,a,rows,5,rfl,SqL.of (s1 _ _ ha),(by lia),(by decide),bd,λR ns H2 s2 hR eR ln okn nd=>?_];erw[a,R,rows,ns,rfl,s2 _ _ (s1 _ _ ha),l90,bd,eR,ln,okn,nd,λL xs x H3 s3 hL eL rp l14 ch l3 four sm _=>?_];have G:=s2.trans s3;have I:=s1.trans G;have o:H L=none:=s1.free (s2.free hL);have nLp:L≠p:=λz=>by rw[z,k0.pa] at o; cases o
 have nLb:L≠b:=λz=>by rw[z,k0.ob] at o; cases o
 have nLB:¬ Bp b p L:=λz=>z.elim nLb nLp;have T:xs.length=x.length:=by rw[rp.length,ac]
 have bk3:=bk.to (.of I);obtain⟨dx3,d3,l3',ps3,ls3,k3⟩:=id bk3;have nd3:=ZJ k3.ob k3.pa;have np3:=YV k3.ob k3.pa;refine⟨L,U,.inl ⟨⟨_,SqL.of eL⟩,wH (K:=K) (a:=L) (xs:=xs) (λi σ H'=>vV (Bp b p) H3 H'/\E2 λ(d':c5) (past:List (Deed×BS))=>A4 (qk bkC H' b p (vQ BS.nil (x.take i)) past []) (past.length<=i) (E4 λm b' r n=>r≠p/\LwA H' d' m b' r n (vQ BS.nil (x.take i))) (∃ u:Option V,σ=[O (.ref a),O (.ref b),O (.ref d'),u]))
  ⟨vV.refl _,d,[],bk3,f6 _,⟨m,b',r,n,nrp,lw1.to (.of G)⟩,IS,rfl⟩ (λi σ H' _ hq=>SqL.of (hq.1.lst nLB eL)) ?_ ?_⟩⟩
 ·rintro i v σ H4 hi ⟨s4,d',past,j,lp,⟨m4,b4,J,n4,B,c⟩,u,rfl⟩;have hil:i<x.length:=by rw[<- T]; exact(c7.mp hi).1
  have hD:x[i]?=O x[i]:=c9 hil;have f4:=four _ (AX hil);generalize x[i]=D at hD f4;obtain⟨dt,g1,g2⟩:=rp.back hi;rw[d7,hD] at g1;cases g1;have y:=lC ch hD;have gd:=ua (S:=BS.nil) (l:=x.take i) eI (se ch);rw[hZ hD];generalize vQ BS.nil (x.take i)=S at j c y gd;have it:WN D:=by cases D <;> first | exact trivial | exact f4.elim
  have rv:=g2.sam s4 np3;obtain⟨dx4,d4,l4,ps4,ls4,C⟩:=id j;refine⟨_,U,b,dx4,_,U,C.ob,no rfl,_,U,b,p,v,S,D,past,[],U,j,it,rv,y,gd.few,gd.fresh,(by lia),λH5 s5 bk5=>?_⟩;have nd4:=ZJ C.ob C.pa;have N:=YV C.ob C.pa;have M:¬ Bp b p J:=λz=>z.elim (λz=>by
   obtain⟨rs,e,_⟩:=c.ru;rw[z,C.ob] at e;cases e) B
  have lw5:LwA H5 d' m4 b4 J n4 S:=c.samE s5 nd4 N (λ_ _=>M);erw[_,rfl,_,rfl,d',v,S,D,rfl,rv.sam s5 N,⟨m4,b4,J,n4,lw5⟩,y,gd.few,gd.fresh,λd'' H6 s6 hd'' lwn=>?_];obtain⟨m6,b6,r6,n6,X,lw6⟩:=lwn;obtain⟨dx5,d5,l5,ps5,ls5,k5⟩:=id bk5;have nr6:r6≠p:=λz=>by rw[z,k5.pa] at X; cases X
  rwa[(s4.trans s5).trans (.of s6),d'',_,bk5.to (.of s6),(by rw[f7]; simp only[n9,Bg]; lia),⟨m6,b6,r6,n6,nr6,lw6⟩,_,rfl]
 ·rintro σ H4 ⟨s4,d',past,j,lp,⟨m4,b4,J,n4,B,c⟩,u,rfl⟩;rw[T,j5] at j c;rwa[_,rfl,q d' _ past H4 ((vV.of I).trans s4) j ⟨m4,b4,J,n4,B,c⟩ (ua eI ch) l3 (by lia) sm]
def mj(_:b9):Sp:=λc H Q _=>E6 λ(b p:c5) (k:Int) (S:BS) (past later:List (Deed×BS))=>A7 (c=[.ref b,.int k]) (qk bkC H b p S past later) (okD S (.strike k)) (Few S) (gq S) (past.length<=500) (∀(a:Hp),vV (Bp b p) H a->qk bkC a b p (aft S (.strike k)) (past++[(.strike k,S)]) []->Q .non a)
def gY(F:Fun K "strike" "Book.strike" xu f fd)(Z:Zs mg)(x:Cb P w mg base)(a:eA P w K mg base kA 5 ["self","row"] (nV K)):yN P w K mg base CX0 6 f fd ["self","number"] (mj K):=by
 specialize fq
 ·obtain⟨b,p,k,S,past,later,rfl,_⟩:=h;rfl
 obtain⟨b,p,k,S,past,later,rfl,bk,ok,few,r,o,q⟩:=h;have no:∀{d l:c5}{m:g8},m = "deed" ->(bkF d p l).lookup m=none:=λ{d l m} e=>by subst e; rwa[mH (by ac_nf) (by ac_nf) (by ac_nf)]
 obtain⟨u,d,l,y,z,j⟩:=id bk
 refine'⟨_,(zD (yA (kK x.m_deed a (hr.mono (by decide)) (pv 0) ?_))),?_⟩
 nofun
 erw[_,rfl,b,u,_,rfl,j.ob,no rfl,_,rfl,sz2,λt n=>?_];have g:=zC n (.tup [.str "strike",.int k]);erw[b,p,.ref t,S,.strike k,past,later,rfl,bk.to (.of g),trivial,mR zA,ok,few,r,o,λv i c=>?_];rwa[q v (vV.trans (vV.of g) i) c]
def sp_law(K:b9):Sp:=λc H Q _=>E2 λ(a:c5) (ns:List Int)=>A4 (c=[.ref a]) (SqL K H a (ns.map V.int)) (ns.length<=63) (∀ d,Q (.bl IT) d)
def cutA{ok:c5->Hp->Prop}{G:Prop}{R:c5->Hp->Prop}(h1:(∀ a H,ok a H->R a H)->G)(h2:∀ a H,ok a H->R a H):G:=h1 h2
def dQ{K:b9}{g:TG}{j:TE}{h:St}{n:Hp}{Q:VK}(d:Nat->St->List V->Hp->Prop)(h0:d 0 h [] (upd n D (.lst [])))(q:∀ i c a H,d i c a H->SqL K H l xs/\H D=O (.lst a))
  (o:∀ i x T c a H,xs[i]?=O x->H T=IS->d i c a H->g (.ref T) c (upd H T (.tup [.int i,x])) λe u=>j e u λz m=>m D=O (.lst a)/\a.length<sizeLine/\d (i+1) e (a++[z]) (upd m D (.lst (a++[z]))))
  (hd:∀ c a H,d xs.length c a H->Q (.ref D) H):ui (Ite K l) D g Wb j h n Q:=bK d h0 q (λi x T c a H s r p=>o i x T c a H s r p) hd
def Yy{c a:List Sd}{P:P3}(e:c.map (·.2)=a.map (·.2))(h:inW c P):inW a P:=λt g=>by
 have m:=o9 (f:=λt:Sd=>t.2) g;rw[<- e] at m;obtain⟨u,d,q⟩:=g7.mp m;rw[<- q];rwa[h u d]
def aH{g c:List Sd}{P:P3}(e:g.map (·.2)=c.map (·.2))(h:VR g P):VR c P:=by
 have go:∀ t∈g,∃ u∈c,u.2=t.2:=λt a=>by
  have m:=o9 (f:=λt:Sd=>t.2) a;rw[e] at m;rwa[g7.mp m]
 rcases h with h | ⟨t,a,h⟩ | ⟨t,a,u,n,h1,h2⟩
 ·rwa[.inl h]
 ·obtain⟨d,m,q⟩:=go t a;rwa[.inr (.inl ⟨d,m,by rw[q]; exact h⟩)]
 ·obtain⟨d,m,q⟩:=go t a;obtain⟨j,l,i⟩:=go u n;rwa[.inr (.inr ⟨d,m,j,l,by rw[q,i]; exact h1,by rw[q,i]; exact h2⟩)]
def Yk(a:List V)(h:1<=a.length):vi a (O 1) IS=a.drop 1:=by
 unfold vi;rw[show(O (1:Int))=O ((1:Nat):Int) from rfl,HT.sIx_nat a.length 0 1,show HT.sIx a.length a.length IS=a.length from rfl,DR h,Ax (by rw[Ad] <;> lia)]
def Vh{n:Int}{c:List Nat} : inV (.int n) (c.map λk=>V.int (k:Nat))=IT↔∃ y∈c,n=((y:Nat):Int):=by
 unfold inV;rw[List.any_map,C3];constructor
 ·rintro⟨y,a,h⟩;exact⟨y,a,(beq_iff_eq.mp (show(((y:Nat):Int) == n)=IT from h)).symm⟩
 ·rintro⟨y,a,h⟩;exact⟨y,a,show(((y:Nat):Int) == n)=IT from beq_iff_eq.mpr h.symm⟩
structure VB(S0 S:BS)(i:Nat):Prop where
 mk ::
 good:lv S
 run:S.runs=S0.runs
 sub:∀ e∈S.notes,e∈S0.notes
 fewer:S.notes.length<=S0.notes.length
 has:∀ j,i<=j->∀ e,S0.notes[j]?=O e->e.1∈S.notes.map (·.1)
def VB.next{i:Nat}(h:VB a S i):VB a S (i+1):=⟨h.good,h.run,h.sub,h.fewer,λj c=>h.has j (by lia)⟩
def VB.strike{i:Nat}(g:Zw c)(h:VB c S i)(d:c.notes[i]?=O e)(ok:okD S (.strike e.1)):VB c (aft S (.strike e.1)) (i+1):=by
 erw[fG h.good ok,h.run,λx a=>h.sub x (Bw.mp a).1,f8 (Cc _ _) h.fewer,λj m x a=>?_];obtain⟨y,l,ey⟩:=g7.mp (h.has j (by lia) x a);erw[g7.mpr ⟨y,Bw.mpr ⟨l,y8 λz=>?_⟩,ey⟩];have p:=Da.mp g i j (by rw[ac]; exact(c7.mp d).1) (by rw[ac]; exact(c7.mp a).1) (by lia);rw[DF,DF,(c7.mp d).2,(c7.mp a).2] at p;lia
def UC(F:Fun K "law" "law" gE f fd)(Z:Zs mg)(CB:Cb P w mg base)(yBf:Has P w K mg base "_law_any_place" 5 ["_law_sides"] (xa K))(yBk:Has P w K mg base "_law_m_groups" 4 ["_law_m","_law_moment"] (qD K))(yCg:Has P w K mg base "_law_whole" 1 ["_law_found"] (mQ K))(yBa:Has P w K mg base "book_clash" 10 ["book"] (yq K))(yBq:Has P w K mg base "_law_m_sides" 5 ["_law_m","_law_moment"] (rh K))(yCk:Has P w K mg base "_law_after" 1 ["_law_m","_law_deed"] (uj K))(h_b_strike:eA P w K mg base nD 6 ["self","number"] (mj K))(yCb:Has P w K mg base "_law_raised" 6 ["_law_some","_law_book"] (mq K))(h_b_init:eA P w K mg base gf 2 ["self"] (jd K))(yCd:Has P w K mg base "_law_draws" 2 ["_law_script","_law_many"] (lQ K)):yN P w K mg base CX0 11 f fd ["_law_script"] (sp_law K):=by
 specialize sP
 ·obtain⟨a,ns,rfl,_⟩:=h;rfl
 obtain⟨ad,ns,rfl,hS,hl,q⟩:=h
 refine'⟨_,(zB (zS 1 sP.nd ?_)
   (zB (yO ?_ (zD (zS 1 sP.nd (tR nE ?_ (yU (T:=["_law_k","_law_one"]) (caps:=[]) ⟨rfl,by ac_nf,by ac_nf,rfl,o0⟩ rfl (gA rfl Z.enumerate ?_) (λ_=>(uS rfl (zT (xR 0 (show(["_law_k","_law_one"]:List g8).Nodup by ac_nf)) (zT (xR 1 (show(["_law_k","_law_one"]:List g8).Nodup by ac_nf)) xT)))) (λ_=>yJ) (λ_=>?_))))) zX)
   (zB (zS 2 sP.nd (Zt CB.make h_b_init (hr.mono (by decide)) CB.gBook))
   (zB (zS 3 sP.nd ?_)
   (zB (xM l9 rfl (xD (yE rB rfl Z.sorted uH (zI (yT (vS rfl) rfl Z.list qM (zI (zO (yB hr) (pv 3) zU (λ_ _=>rfl)) zN)) zN))) (xR 4 sP.nd) (zD (yO ?_ (zB (yA (kK CB.m_strike h_b_strike (hr.mono (by decide)) (pv 2) (zI (pv 4) zN)))
   (zD (zS 3 sP.nd ?_))) zX)))
   (zB (zS 5 sP.nd ?_)
   (zB (xM l9 rfl (xC rfl Z.range (zI xV zN)) (xR 6 sP.nd) (zB (zS 7 sP.nd ?_)
   (zB (yO ?_ (zD (zM ?_)) zX)
   (zB (yO (PW.pt (gT ?_ (lS (sg (ZY dq dq xV ?_ xV))))) (zD (zM kJ)) zX)
   (zB (yO (sg (pZ (yE (rL rfl) rfl Z.all lG (zI (yU (T:=["_law_one"]) (caps:=[("_law_m",3)]) ⟨rfl,by ac_nf,by ac_nf,rfl,⟨⟨rfl,rfl,BB rfl⟩,o0⟩⟩ rfl (xD (pv 7)) (λ_=>(xR 0 (show(["_law_one","_law_m"]:List g8).Nodup by ac_nf))) (λ_=>yJ) (λ_=>(XM ?_ (Xh (UN (XA (yB hr) (pv 0) (zO (yB hr) (pv 1) zU (λ_ _=>rfl))) (by with_unfolding_all rfl)))))) zN)))) (zD (zM kJ)) zX)
   (zB (yO (sg (pZ (yE (rL rfl) rfl Z.all lG (zI (yU (T:=["_law_one","_law_other"]) (caps:=[]) ⟨rfl,by ac_nf,by ac_nf,rfl,o0⟩ rfl (TF rfl Z.zip ?_) (λ_=>(uS rfl (zT (xR 0 (show(["_law_one","_law_other"]:List g8).Nodup by ac_nf)) (zT (xR 1 (show(["_law_one","_law_other"]:List g8).Nodup by ac_nf)) xT)))) (λ_=>yJ) (λ_=>?_)) zN)))) (zD (zM kJ)) zX)
   (zB (zS 8 sP.nd ?_)
   (zB (xM l9 rfl (gA rfl Z.enumerate (zI (yE rB rfl Z.sorted uH (zI (yT (vS rfl) rfl Z.list qM (zI (zO (yB hr) (pv 3) zU (λ_ _=>rfl)) zN)) zN)) zN)) (uS rfl (zT (xR 9 sP.nd) (zT (xR 4 sP.nd) xT))) (zD (yO (xJ oH (pv 4) (pv 7) (by with_unfolding_all rfl)) (zD (zS 8 sP.nd (tR nE (pv 8) ?_))) zX)))
   (zB (yO ?_ (zD (zM kJ)) zX)
   (zD (yA (ug (pv 7) (zI xV zN)))))))))))))
   (zD (zM kJ))))))))),?_⟩
 nofun
 erw[_,rfl,ad,ns,96,rfl,hS,hl,by decide,by decide,λr0 C H1 s1 hr0 R l1 l2 bd0=>?_];clear s1 hr0;obtain⟨v84,a84,_⟩:=wO bd0 (k:=84) (by decide) (by lia);apply cutA (ok:=λrr H=>∃ rows:List Int,A3 (H rr=O (.lst (rows.map V.int))) (96<=rows.length) (∀ x∈rows,0<=x/\x<1000003))
 ·intro main;exists _,U,r0,_,_,_,U,U,.inl (SqL.of R),a84,_,_,U,U,gt2,U,_,rfl;erw[ifE (λ_=>?_) (λ_=>?_)]
  ·refine⟨_,U,_,U,r0,_,U,SqL.of R,λc1 hc1=>?_⟩;rw[yx,show HT.sIx C.length 0 IS=0 from rfl,Hr,Iv,show HT.sIx C.length C.length (O 27)=27 from by rw[show(27:Int)=((27:Nat):Int) from rfl,HT.sIx_nat]; lia];have sc1:=zC hc1 (.lst ((C.take 27).map V.int));have er2:=sc1 _ _ R;refine⟨_,U,_,U,r0,_,U,SqL.of er2,λc2 hc2=>?_⟩;rw[show vi (C.map V.int) (O 27) IS=(C.drop 27).map V.int from by rw[yx,show(27:Int)=((27:Nat):Int) from rfl,HT.sIx_nat C.length 0 27,show min 27 C.length=27 by lia,show HT.sIx C.length C.length IS=C.length from rfl,Ax (by rw[Ad]; lia)]];have sc2:=zC hc2 (.lst ((C.drop 27).map V.int));have ec1:=sc2 _ _ (zA (H:=H1) (a:=c1) (o:=.lst ((C.take 27).map V.int)));have ec2:upd (upd H1 c1 (.lst ((C.take 27).map V.int))) c2 (.lst ((C.drop 27).map V.int)) c2=O (.lst ((C.drop 27).map V.int)):=zA;generalize upd (upd H1 c1 (.lst ((C.take 27).map V.int))) c2 (.lst ((C.drop 27).map V.int))=H2 at ec1 ec2 ⊢;refine⟨c2,_,U,ec2,λcc D hD=>dQ (K:=K) (l:=c2) (xs:=(C.drop 27).map V.int) (λi J Y M=>A4 (Same H2 M) (M D=O (.lst Y)) (∃ ms:List Int,A3 (Y=ms.map V.int) (ms.length=i) (∀ x∈ms,0<=x/\x<1000003)) (E2 λ(u v:Option V)=>J=[u,v]))
    ⟨zC hD _,zA,⟨[],rfl,rfl,λx hx=>(nomatch hx)⟩,IS,IS,rfl⟩ (λi J Y M hq=>⟨SqL.of (hq.1 _ _ ec2),hq.2⟩) ?_ ?_⟩
   ·rintro i x T J Y H3 hx hT ⟨s3,eD,⟨ms,rfl,lm,bm⟩,u,v,rfl⟩;rw[d7,i8] at hx;obtain⟨y,hy,rfl⟩:=hx;have hil:=(c7.mp hy).1;rw[Ad] at hil;obtain⟨y0,y1⟩:=bd0 y (AS (e9 hy));have sT:=zC hT (.tup [.int i,.int y]);have fin:∀ z:Int,0<=z->z<1000003->upd H3 T (.tup [.int i,.int y]) D=O (.lst (ms.map V.int))/\(ms.map V.int).length<sizeLine/\Same H2 (upd (upd H3 T (.tup [.int i,.int y])) D (.lst (ms.map V.int++[.int z])))/\upd (upd H3 T (.tup [.int i,.int y])) D (.lst (ms.map V.int++[.int z])) D=O (.lst (ms.map V.int++[.int z]))/\(∃ ms':List Int,A3 (ms.map V.int++[.int z]=ms'.map V.int) (ms'.length=i+1) (∀ x∈ms',0<=x/\x<1000003)):=λz z0 z1=>by
     erw[sT _ _ eD,zK (by rw[ac]; lia),(s3.trans sT).putNew hD,zA,ms++[z],by rw[e7]; rfl,by rw[f7,lm]; rfl,λx hx=>?_];rcases i7.mp hx with e | e
     ·rwa[bm x e]
     ·rw[e8.mp e]; rwa[z0,z1]
    exists T,[.int i,.int y],U,SqT.of zA,U,.int i,[.int y],U,.int y,[],U,rfl;exists _,U,_,_,U,U,(by show(0:Int)<8; decide),rfl,_,rfl;erw[ifE (λ_=>?_) (λ_=>?_)]
    ·exists _,U,_,_,U,U,zm.of (by decide) (by ac_nf),_,_,U,U,vK (by lia),_,_,U,rfl;obtain⟨f1,f2,f3,f4,f5⟩:=fin (y/5*5+1) (by lia) (by lia);rwa[f1,f2,f3,f4,f5,_,_,rfl]
    ·exists _,rfl;obtain⟨f1,f2,f3,f4,f5⟩:=fin y y0 y1;rwa[f1,f2,f3,f4,f5,_,_,rfl]
   ·rintro J Y H3 ⟨s3,eD,⟨ms,rfl,lm,bm⟩,u,v,rfl⟩;rw[ac,Ad] at lm;refine⟨c1,D,_,_,U,U,s3 _ _ ec1,eD,AV (zK (by rw[ac,ac,j3]; lia)),λr2 hr2=>?_⟩;have e2:upd H3 r2 (.lst ((C.take 27).map V.int++ms.map V.int)) r2=O (.lst ((C.take 27).map V.int++ms.map V.int)):=zA;rw[<- e7] at e2 ⊢;generalize upd H3 r2 (.lst ((C.take 27++ms).map V.int))=H4 at e2 ⊢;exact main r2 H4 ⟨_,e2,by rw[f7,j3]; lia,λx hx=>by
     rcases i7.mp hx with e | e
     ·rwa[bd0 x (AT e)]
     ·rwa[bm x e]⟩
  ·rwa[main r0 H1 ⟨C,R,by lia,bd0⟩]
 clear R bd0 l1 l2 a84;rintro rr H1 ⟨rows,R,l1,bd⟩;intro bk dx hb hdx nbd;erw[bk,dx,rfl,zA,λp H2 s2 hp bk2=>⟨rfl,?_⟩];have nrb:rr≠bk:=zH R hb;have er1':upd (upd H1 dx (.own bk)) bk (.ins bkC dx []) rr=O (.lst (rows.map V.int)):=by rw[zF nrb,zF (zH R hdx)]; rwa[R]
 have er2:=s2.lst nrb er1';have nrp:rr≠p:=zH er1' hp;refine⟨_,U,_,U,rr,bk,p,rows,U,er2,by lia,bd,bk2,nrp,λd S past H3 s3 bk3 lwp gd l3 lp sm=>?_⟩;have nrB:¬ Bp bk p rr:=λz=>z.elim nrb nrp;have er3:=s3.lst nrB er2;clear s2 s3 R er1' er2 bk2;obtain⟨i6,hi6,sm⟩:=sm;obtain⟨m,b',r,n,_,lw⟩:=id lwp;obtain⟨nk,hn0,kv⟩:=lw.no;refine⟨_,U,d,.ref n,U,.inl ⟨_,.inr "notes",lw.at_,U,sY.symm⟩,n,nk,U,hn0,λc0 hc0=>?_⟩;rw[pK kv];have ln:=sm.len;have s4a:=zC hc0 (.lst ((S.notes.map (·.1)).map V.int));refine⟨c0,_,U,SqL.of zA,(by rw[ac]; lia),λc ms hc pm srt=>?_⟩;obtain rfl:=oZ pm srt gd.rise;have s4:=s4a.trans (zC hc (.lst ((S.notes.map (·.1)).map V.int)));have e4:upd (upd H3 c0 (.lst ((S.notes.map (·.1)).map V.int))) c (.lst ((S.notes.map (·.1)).map V.int)) c=O (.lst ((S.notes.map (·.1)).map V.int)):=zA;have nc3:H3 c=none:=s4a.free hc;generalize upd (upd H3 c0 (.lst ((S.notes.map (·.1)).map V.int))) c (.lst ((S.notes.map (·.1)).map V.int))=H4 at s4 e4 ⊢;obtain⟨dx3,d3,l3',ps3,ls3,k3⟩:=id bk3;have ncB:¬ Bp bk p c:=λz=>z.elim (λz=>by rw[z,k3.ob] at nc3; cases nc3) (λz=>by rw[z,k3.pa] at nc3; cases nc3);have er4:=s4 _ _ er3;have bk4:=bk3.to (.of s4);have lw4:=lwp.to (.of s4);clear lwp lw hn0 kv er3 k3;refine⟨c,U,.inl ⟨⟨_,SqL.of e4⟩,wH (K:=K) (a:=c) (xs:=(S.notes.map (·.1)).map V.int) (λi J M=>A3 (M rr=O (.lst (rows.map V.int))) (M c=O (.lst ((S.notes.map (·.1)).map V.int))) (E3 λ(d':c5) (L:BS) (I:List (Deed×BS))=>A5 (qk bkC M bk p L I []) (LwP M d' p L) (VB S L i) (I.length<=14+i) (∃ u4:Option V,J=[O (.ref ad),O (.ref rr),O (.ref bk),O (.ref d'),u4,IS,IS,IS,IS,IS])))
  ⟨er4,e4,d,S,past,bk4,lw4,⟨gd,rfl,λe X=>X,f6 _,λj _ e X=>g7.mpr ⟨e,e9 X,rfl⟩⟩,by lia,IS,rfl⟩ (λi J M _ hq=>SqL.of hq.2) ?_ ?_⟩⟩
 ·rintro i x J H5 hi ⟨er5,ec5,d',L,I,bk5,⟨m5,b5,r5,n5,nr5,lw5⟩,lf,lp5,u4,rfl⟩;rw[d7,d7,FR,i8] at hi;obtain⟨e,X,rfl⟩:=hi;have me:=e9 X;have hil:=(c7.mp X).1;have p1:=sm.pos e me;have p2:=gd.fresh e me;have p3:=sm.num;obtain⟨k,ek⟩:=Bm (show 0<=e.1 by lia);obtain⟨v,av,_⟩:=wO bd (k:=85+e.1) (by lia) (by lia);exists _,U,_,U,_,_,U,U,rr,_,_,_,U,U,.inl (SqL.of er5),av,_,_,U,U,gt5,U,_,rfl;have okk:okD L (.strike e.1):=lf.has i (f6 _) e X;erw[ifE (λ_=>?_) (λ_=>?_)];rotate_left
  ·rwa[er5,ec5,d',L,I,bk5,⟨m5,b5,r5,n5,nr5,lw5⟩,lf.next,by lia,_,rfl]
  obtain⟨dx5,d5,l5,ps5,ls5,k5⟩:=id bk5;have no:(bkF d5 p l5).lookup ("strike" : g8)=none:=mH (by ac_nf) (by ac_nf) (by ac_nf);refine⟨_,U,bk,dx5,_,U,k5.ob,no,_,U,bk,p,e.1,L,I,[],U,bk5,okk,lf.good.few,lf.good.fresh,by lia,λH6 s6 bk6=>?_⟩;have nd5:=ZJ k5.ob k5.pa;have np5:=YV k5.ob k5.pa;have nr5b:¬ Bp bk p r5:=λz=>z.elim (λz=>by
   obtain⟨rs,e,_⟩:=lw5.ru;rw[z,k5.ob] at e;cases e) nr5
  have lw6:LwA H6 d' m5 b5 r5 n5 L:=lw5.samE s6 nd5 np5 (λ_ _=>nr5b);refine⟨_,U,_,U,sz2,λt ht=>?_⟩;have s7:=zC ht (.tup [.str "strike",.int e.1]);refine⟨d',.ref t,L,.strike e.1,U,mR zA,⟨m5,b5,r5,n5,lw6.to (.of s7)⟩,okk,lf.good.few,lf.good.fresh,λd'' H8 s8 hd8 lwn=>?_⟩;obtain⟨m8,b8,r8,n8,hr8,lw8⟩:=lwn;obtain⟨dx6,d6,l6,ps6,ls6,k6⟩:=id (bk6.to (.of s7));have nr8:r8≠p:=λz=>by
   have h:=(z ▸ hr8 : _=IS);have:=h.symm.trans k6.pa;cases this
  have N:=s7.trans s8;rwa[N _ _ (s6.lst nrB er5),N _ _ (s6.lst ncB ec5),d'',_,_,bk6.to (.of N),⟨m8,b8,r8,n8,nr8,lw8⟩,lf.strike gd.rise X okk,by rw[f7]; simp only[n9,Bg]; lia,_,rfl]
 ·rintro J H5 ⟨er5,ec5,d',L,I,bk5,lwp5,lf,lp5,u4,rfl⟩;clear er5 ec5 bk4 lw4 e4 er4;have gd':=lf.good;have h16:∀ e∈L.notes,1<=e.1/\e.1<=6:=λe X=>by
   have me:=lf.sub e X;have p1:=sm.pos e me;have p2:=gd.fresh e me;have p3:=sm.num;lia
  have l6:L.notes.length<=6:=f8 lf.fewer (by lia);have lw5:=lwp5.at;clear sm lf lp5 bd l1 nc3 ncB nrB;erw[_,rfl,d',L,0,rfl,lw5,gd',Aa _,λsl as H6 s6 el ta=>?_];obtain⟨ss,sd⟩:=XC gd' el ta;have bk6:=bk5.to (.of s6);have lwp6:=lwp5.to (.of s6);clear el ta bk5 lwp5 lw5 s6;have n12:ss.length<=12:=by have:=sd.few; lia
  refine⟨2,U,by decide,by decide,wM (lo:=0) (n:=2) (λi J M=>Same H6 M/\E5 λ(u4 u6 u7 u8 u9:Option V)=>J=[O (.ref ad),O (.ref rr),O (.ref bk),O (.ref d'),u4,O (.ref sl),u6,u7,u8,u9])
   ⟨Same.refl _,_,_,_,_,_,rfl⟩ ?_ (λJ M _=>q M)⟩
  rintro again J H7 hag ⟨s7,u4',u6,u7,u8,u9,rfl⟩;have bk7:=bk6.to (.of s7);erw[_,rfl,bk,p,L,I,[],rfl,bk7,gd',h16,λP tt H8 s8 er p0 iw cd=>?_,λD ys H8 s8 hD eD nb=>?_]
  ·have N:=s7.trans s8;erw[_,rfl,sl,ss,rfl,N _ _ sd.at_,sd.ok.same N,by lia,λH9 s9 no=>x4 (Yy (er.trans sd.rows.symm) iw) (no P (aH (er.trans sd.rows.symm) cd)),λp' P' H9 s9 ep' wp'=>?_];exists rfl,_,rfl;erw[qr ?_];rwa[_,rfl,rfl,q _]
  have N:=s7.trans s8;erw[_,rfl,sl,ss,rfl,N _ _ sd.at_,sd.ok.same N,by lia,λH9 s9 no=>?_,λp' P' H9 s9 ep' wp'=>x4 wp' (nb.no ss (λe X _ r hr=>?_) P' ep'.2.1)];rotate_left
  ·have m:p3 r∈ss.map (·.2):=by
    rw[sd.rows];rwa[o9 (GW.mpr ⟨_,o9 (f:=λe:Int×Deed=>yM L 0 e.2) X,hr⟩)]
   rwa[g7.mp m]
  exists rfl,_,rfl;refine wX ?_;clear no;have s69:=N.trans s9;have eD9:=s9 _ _ eD;have hD6:H6 D=none:=s7.free hD;have ly:ys.length<=3:=nb.few;have ly1:1<=ys.length:=nb.some_;have sqD:=SqL.of (K:=K) eD9;clear eD s8;exists _,U,_, "list",_,_,U,.lst eD9,kF K,_,rfl;refine wX ?_;exists _,U,D,_,U,.inl sqD,_,_,U,U,_,rfl;refine ifD (λ_=>?_) (λz=>x4 (by rw[ac]; lia) z);exists _,_,U,U,_,rfl;refine ifN (λz=>x4 (by rw[ac]; lia) z) (λ_=>?_);obtain⟨m6,b6,r6,n6,_,lw6⟩:=id lwp6;obtain⟨nk,hn6,kv6⟩:=lw6.no;have nkb:∀ y∈ys,(vR nk (.inl ((y:Nat):Int))).isSome=true:=λy hy=>by
   cases h:vR nk (.inl ((y:Nat):Int)) with
   | none=>rwa[x4 (nb.has y hy) ((WM kv6).mp h)]
   | some _=>rfl
  refine⟨_,U,D,U,.inl ⟨⟨_,sqD⟩,λcc B hB=>?_⟩⟩;refine yL (K:=K) (a:=D) (xs:=ys.map λk=>V.int (k:Nat)) (λi J Y M=>A4 (Same H9 M) (M B=O (.lst Y)) (Y=(Be i IT).map V.bl) (∃ u:Option V,J=[u,O (.ref d')]))
   ⟨zC hB _,zA,rfl,IS,rfl⟩ (λi J Y M _ hq=>⟨SqL.of (hq.1 _ _ eD9),hq.2⟩) ?_ ?_
  ·rintro i x J Y H10 hi ⟨s10,eB,rfl,u,rfl⟩;rw[d7,i8] at hi;obtain⟨y,hy,rfl⟩:=hi;have hil:=(c7.mp hy).1;have s610:=s69.trans s10;exists _,U,_,U,_,rfl;erw[qr ?_];have lw10:=lw6.to (.of s610);erw[_,rfl,_,rfl,d',.ref n6,rfl,.inl ⟨_,.inr "notes",lw10.at_,rfl,sY.symm⟩,n6,_,rfl,.inl ⟨nk,.inl ((y:Nat):Int),Rd.same hn6 s610,rfl,rfl⟩,eB,zK (by rw[ac,Bc]; lia),s10.putNew hB,zA,?_,_,rfl];rw[nkb y (e9 hy),CW,e7];rfl
  rintro J Y H10 ⟨s10,eB,rfl,u,rfl⟩;exists B,_,U,SqL.of eB,_,rfl;rw[show(Be (ys.map λk=>V.int (k:Nat)).length IT).all id=IT from by simp];refine wX ?_;clear eB hB;have eD10:=s10 _ _ eD9;refine⟨_,U,_,U,_,U,D,_,U,SqL.of eD10,λc2 hc2=>?_⟩;rw[Yk _ (by rw[ac]; exact ly1),<- CJ];have sc2:=zC hc2 (.lst ((ys.drop 1).map λk=>V.int (k:Nat)));have ec2:upd H10 c2 (.lst ((ys.drop 1).map λk=>V.int (k:Nat))) c2=O (.lst ((ys.drop 1).map λk=>V.int (k:Nat))):=zA;generalize upd H10 c2 (.lst ((ys.drop 1).map λk=>V.int (k:Nat)))=H11 at sc2 ec2 ⊢;have eD11:=sc2 _ _ eD10;refine⟨IT,IT,D,c2,_,_,U,SqL.of eD11,SqL.of ec2,λc B hB=>bE (K:=K) (b1:=IT) (b2:=IT) (l1:=D) (l2:=c2) (xs:=ys.map λk=>V.int (k:Nat)) (ys:=(ys.drop 1).map λk=>V.int (k:Nat)) (λi J Y M=>A4 (Same H11 M) (M B=O (.lst Y)) (Y=(Be i IT).map V.bl) (E2 λ(u v:Option V)=>J=[u,v]))
   ⟨zC hB _,zA,rfl,IS,IS,rfl⟩ (λi J Y M hq=>⟨SqL.of (hq.1 _ _ eD11),SqL.of (hq.1 _ _ ec2),hq.2⟩) ?_ ?_⟩
  ·rintro i x y T J Y H12 hx hy hT ⟨s12,eB,rfl,u,v,rfl⟩;rw[d7,i8] at hx hy;obtain⟨a,ha,rfl⟩:=hx;obtain⟨b,hb',rfl⟩:=hy;rw[Ei] at hb';obtain⟨ia,ea⟩:=c7.mp ha;obtain⟨ib,eb⟩:=c7.mp hb';have lt:a<b:=by
    rw[<- ea,<- eb];rwa[Da.mp nb.rise i (1+i) ia ib (by lia)]
   have sT:=zC hT (.tup [.int (a:Nat),.int (b:Nat)]);exists T,_,U,SqT.of zA,U,_,_,U,_,_,U,rfl;erw[_,rfl,_,rfl,_,_,rfl,rfl,sT _ _ eB,zK (by rw[ac,Bc]; lia),(s12.trans sT).putNew hB,zA,?_,_,_,rfl];rw[y8 (show((a:Nat):Int)<((b:Nat):Int) by lia),CW,e7];rfl
  rintro J Y H12 ⟨s12,eB,rfl,u,v,rfl⟩;exists B,_,U,SqL.of eB,_,rfl;rw[show(Be (min (ys.map λk=>V.int (k:Nat)).length ((ys.drop 1).map λk=>V.int (k:Nat)).length) IT).all id=IT from by simp];refine wX ?_;clear eB hB;have eD12:=s12 _ _ eD11;have s612:Same H6 H12:=s69.trans (s10.trans (sc2.trans s12));clear sc2 ec2 eD11 eD10 s10 s12 hc2;refine⟨sz0,λW0 hW0=>?_⟩;have sW:=zC hW0 (.lst []);have eW0:upd H12 W0 (.lst []) W0=O (.lst []):=zA;have eD13:=sW _ _ eD12;have s613:=s612.trans sW;generalize upd H12 W0 (.lst [])=H13 at sW eW0 eD13 s613 ⊢;refine⟨_,U,d',.ref n6,U,.inl ⟨_,.inr "notes",(lw6.to (.of s613)).at_,U,sY.symm⟩,n6,nk,U,Rd.same hn6 s613,λc0 hc0=>?_⟩;rw[pK kv6];have s14a:=zC hc0 (.lst ((L.notes.map (·.1)).map V.int));refine⟨c0,_,U,SqL.of zA,(by rw[ac]; lia),λnl ms hnl pm srt=>?_⟩;obtain rfl:=oZ pm srt gd'.rise;have s14:=s14a.trans (zC hnl (.lst ((L.notes.map (·.1)).map V.int)));have enl:upd (upd H13 c0 (.lst ((L.notes.map (·.1)).map V.int))) nl (.lst ((L.notes.map (·.1)).map V.int)) nl=O (.lst ((L.notes.map (·.1)).map V.int)):=zA;generalize upd (upd H13 c0 (.lst ((L.notes.map (·.1)).map V.int))) nl (.lst ((L.notes.map (·.1)).map V.int))=H14 at s14 enl ⊢;have eD14:=s14 _ _ eD13;have s614:=s613.trans s14;refine⟨nl,_,U,enl,eQ (K:=K) (l:=nl) (xs:=(L.notes.map (·.1)).map V.int) (λi J M=>Same H14 M/\(E2 λ(W:c5) (os:List Sd)=>A5 (M W=O (.lst (zW os))) (jv M os) (os.length<=2*i) (∀ e∈L.notes.take i,(∃ y∈ys,e.1=((y:Nat):Int))->∀ r∈yM L 0 e.2,∃ t∈os,t.2=p3 r) (E2 λ(u4 u9:Option V)=>J=[O (.ref ad),O (.ref rr),O (.ref bk),O (.ref d'),u4,O (.ref sl),O (.int (0+(again:Int))),O (.ref D),O (.ref W),u9])))
   ⟨Same.refl _,W0,[],s14 _ _ eW0,(λt ht=>nomatch ht),Aa _,(λe X=>nomatch X),_,_,rfl⟩ (λi J M hq=>SqL.of (hq.1 _ _ enl)) ?_ ?_⟩
  ·rintro i x T J H15 hx hT ⟨s15,W,os,eW,okW,lo,cov,v4,v9,rfl⟩;rw[d7,d7,FR,i8] at hx;obtain⟨e,X,ex⟩:=hx;obtain rfl:x=V.int e.1:=ex.symm;clear ex;have hil:=(c7.mp X).1;have sT:=zC hT (.tup [.int i,.int e.1]);have eT:upd H15 T (.tup [.int i,.int e.1]) T=O (.tup [.int i,.int e.1]):=zA;exists T,[.int i,.int e.1],U,SqT.of eT,U,.int i,[.int e.1],U,.int e.1,[],U,rfl;have G:=s15.trans sT;generalize upd H15 T (.tup [.int i,.int e.1])=H16 at sT eT G ⊢;exists _,U,_,U,D,_,U,.inl (SqL.of (G _ _ eD14)),U,by rw[Fj]; exact AG.mpr λ_ _=>rfl,_,rfl;show if inV (V.int e.1) (ys.map λk=>V.int (k:Nat))=IT then _ else _
   erw[ifBo (λhin=>?_) (λhin=>?_)];rotate_left
   ·erw[G,W,os,sT _ _ eW,okW.same sT,by lia,λe' he' hy=>?_,_,_,rfl];rw[o6,X] at he';rcases i7.mp he' with z | z
    ·rwa[cov e' z hy]
    ·obtain rfl:=e8.mp z;rw[Vh.mpr hy] at hin;cases hin
   refine⟨_,U,_,U,d',L,0,U,(lwp6.to (.of (s614.trans G))).at,gd',Aa _,λg gs H17 s17 hg eg ga=>?_⟩;have hgi:gs[i]?=O (gs[i]'(by rw[ga.len,ac]; exact hil)):=c9 _;generalize gs[i]'(by rw[ga.len,ac]; exact hil)=gi at hgi;obtain⟨as,egi,ta⟩:=ga.at_ i gi (yM L 0 e.2) hgi (by rw[d7,X]; rfl);obtain⟨gs',e1,ok',e3⟩:=af ta (rf gd' (gd'.note e (e9 X)));have a1:atI (gs.map V.ref) (i:Int)=O (.ref gi):=tP (by rw[d7,hgi]; rfl);have two:=uB (S:=L) (j:=0) (D:=e.2);have l2:gs'.length<=2:=by
    have:=congrArg AH e3;rw[ac,ac] at this;lia
   have eW17:=s17 _ _ (sT _ _ eW);have egi':H17 gi=O (.lst (zW gs')):=by rw[egi,<- e1]
   erw[_,rfl,g,_,_,_,rfl,rfl,.inl (SqL.of eg),a1,W,gi,_,_,rfl,rfl,eW17,egi',AV (zK (by rw[zY,zY]; lia)),λr2 hr2=>?_];have sr:=zC hr2 (.lst (zW os++zW gs'));erw[G.trans (s17.trans sr),r2,os++gs',?_,λt ht=>?_,by rw[f7]; lia,λe' he' hy r hr'=>?_,_,_,rfl]
   ·rw[zA,rP,rP,rP,e7]
   ·rcases i7.mp ht with z | z
    ·exact(okW.same (sT.trans (s17.trans sr))) t z
    ·exact(ok'.same sr) t z
   ·rw[o6,X] at he';rcases i7.mp he' with z | z
    ·obtain⟨t,mt,et⟩:=cov e' z hy r hr';rwa[t,Bk _ mt,et]
    ·obtain rfl:=e8.mp z;have m:p3 r∈gs'.map (·.2):=by rw[e3]; rwa[o9 hr']
     obtain⟨t,mt,et⟩:=g7.mp m;rwa[t,z9 _ mt,et]
  ·rintro J H15 ⟨s15,W,os,eW,okW,lo,cov,v4,v9,rfl⟩;rw[ac,ac] at lo;rw[ac,ac,j5] at cov;erw[_,rfl,W,os,rfl,eW,okW,by lia,λH16 s16 no=>?_,λp' P' H16 s16 ep' wp'=>x4 wp' (nb.no os cov P' ep'.2.1)];exists rfl,_,rfl;erw[wX ?_];have G:=s15.trans s16;have eD16:=G _ _ eD14;exists _,U,.inl ⟨U,_,SqL.of eD16⟩,D,_,_,U,U,eD16,zK (by rw[ac]; lia);rwa[(s614.trans G).putNew hD6,_,_,_,_,_,rfl]
end
def VI{K:b9}(h:AO K (.ref C) f=O IS):xm K C f:=h
def kh(P:Cy):Cls (KK P) bkC:=⟨by symm,by symm,by symm,by symm⟩
set_option maxHeartbeats 0 in
def cb_mk{w:m9}{mg:g8->Option c6}(X:AF (KK w.params) base)(G:base.Ns mainGlobals mg):Cb P w mg base :=
 ⟨⟨_,X,kh _,VI (by symm)⟩,
   ⟨_,X,kh _,VI (by symm)⟩,
   ⟨_,X,kh _,VI (by symm)⟩,
   ⟨_,X,kh _,⟨(by symm),(by symm),(by symm)⟩⟩,
   ⟨_,X,kh _,⟨(by symm),(by symm),(by symm)⟩⟩,
   ⟨_,X,kh _,⟨(by symm),(by symm),(by symm)⟩⟩,
   ⟨_,X,kh _,⟨(by symm),(by symm),(by symm)⟩⟩,
   ⟨_,X,kh _,⟨(by symm),(by symm),(by symm)⟩⟩,
   ⟨_,X,kh _,⟨(by symm),(by symm),(by symm)⟩⟩,
   ⟨_,X,⟨(by symm),(by symm),(by symm),(by symm)⟩⟩,
   (AB X G (by symm)),
   (bv (ep:=4) (l:=[("marks",692,.int 20,.int 20 693),("banks",694,.int 8,.int 8 695),("runs",696,.int 12,.int 12 697),("notes",698,.int 24,.int 24 699)]) (X _ _ (by symm)) (λe a=>by simp only[j4,t7,or_false] at a; rcases a with rfl | rfl | rfl | rfl <;> rwa[_,rfl]) (by ac_nf)),
   (AB X G (by symm)),
   (bv (ep:=10) (l:=[("mark",917,.ref 481,.ref 481),("move",918,.ref 488,.ref 488),("unmark",919,.ref 495,.ref 495),("bank",920,.ref 502,.ref 502),("level",921,.ref 509,.ref 509),("sail",922,.ref 516,.ref 516),("right",923,.ref 523,.ref 523),("bearing",924,.ref 537,.ref 537),("range",925,.ref 544,.ref 544),("strike",926,.ref 551,.ref 551)]) (X _ _ (by symm)) (λe a=>by simp only[j4,t7,or_false] at a; rcases a with rfl | rfl | rfl | rfl | rfl | rfl | rfl | rfl | rfl | rfl <;> rwa[rfl]) (by ac_nf)),
   (AB X G (by symm)),
   ⟨705,(AB X G (by symm))⟩,
   ⟨707,(AB X G (by symm))⟩,
   ⟨709,(AB X G (by symm))⟩,
   (AB X G (by symm)),
   (AB X G (by symm)),
   (AB X G (by symm)),
   (AB X G (by symm)),
   (AB X G (by symm)),
   (ZP X (AB X G (by symm)) (by symm))⟩
def us0{R:List c6->Prop}(h:R []):∀ a:List c6,a.length=0->R a
 | [],_=>h
 | _::_,e=>nomatch e
def usS{R:List c6->Prop}{n:Nat}(h:∀ a (c:List c6),c.length=n->R (a::c)):∀ c:List c6,c.length=n+1->R c
 | [],e=>nomatch e
 | a::l,e=>h a l (Nat.succ.inj e)
def us1{R:List c6->Prop}(h:∀ a,R [a]):∀ c:List c6,c.length=1->R c:=usS λa=>us0 (R:=λl=>R (a::l)) (h a)
def us2{R:List c6->Prop}(h:∀ a b,R [a,b]):∀ c:List c6,c.length=2->R c:=usS λa=>us1 (R:=λl=>R (a::l)) (h a)
def us3{R:List c6->Prop}(h:∀ a b c,R [a,b,c]):∀ d:List c6,d.length=3->R d:=usS λa=>us2 (R:=λl=>R (a::l)) (h a)
def us4{R:List c6->Prop}(h:∀ a b c d,R [a,b,c,d]):∀ e:List c6,e.length=4->R e:=usS λa=>us3 (R:=λl=>R (a::l)) (h a)
def us5{R:List c6->Prop}(h:∀ a b c d e,R [a,b,c,d,e]):∀ f:List c6,f.length=5->R f:=usS λa=>us4 (R:=λl=>R (a::l)) (h a)
def us6{R:List c6->Prop}(h:∀ a b c d e f,R [a,b,c,d,e,f]):∀ g:List c6,g.length=6->R g:=usS λa=>us5 (R:=λl=>R (a::l)) (h a)
abbrev AtK(j:Cy)(x:g8)(s:Ae)(f:c5)(g:c6)(e:Option c5)(c:Array (Option c6))(kV h d:c6)(i:Option c5)(a ct:c6):Prop :=
 Az (KK j) mainGlobals x=O (O (.ref f))/\Am f KC=O ⟨g,e,.func (AD x x (wZ s) (wA s) (zG s) .none kV h d i a ct),c⟩/\CT KC a x=IT/\AQ KC (.ref f)=IT
section
variable{Pm:Cy}{x:g8}{s:Ae}{f:c5}{oc kV dc pm cd ct:c6}{od an:Option c5}{sl:Array (Option c6)}{h:v8}{mg:g8->Option c6}
def Wg(q:AtK Pm x s f oc od sl kV dc pm an cd ct):Fun K x x s f (AD x x (wZ s) (wA s) (zG s) .none kV dc pm an cd ct):=XR (st:=s) (by rw[Wp]; rwa[q.2.1]) (by rw[Wp]; rwa[q.2.2.1]) (by rw[Wp]; rwa[q.2.2.2])
abbrev AtE(Pm:Cy)(x:g8)(s:Ae):Prop:=∃(f:c5)(oc:c6)(od:Option c5)(sl:Array (Option c6))(kV dc pm:c6)(an:Option c5)(cd ct:c6),AtK Pm x s f oc od sl kV dc pm an cd ct
def at_mk(q:AtK Pm x s f oc od sl kV dc pm an cd ct):AtE Pm x s:=⟨_,_,_,_,_,_,_,_,_,_,q⟩
def WE(P:j7)(w:m9)(base:v8)(X:AF (KK Pm) h)(G:h.Ns mainGlobals mg)(q:AtE Pm x s){n:Nat}{g:Sp}(o:∀ {f:c5} {fd:AN},Fun K x x s f fd->nh K fd a []->AQ K (.ref f)=IT->mg x=O (.ref f)->yN P w K mg base CX0 n f fd a g)
  (b:∀(kV d pm:c6)(an:Option c5)(e ct:c6)(c:List c6),c.length=a.length->bindArgs (AD x x (wZ s) (wA s) (zG s) .none kV d pm an e ct) ⟨c,[]⟩=pure (a.zip c)):Has P w K mg base x n a g:=by
 obtain⟨f,oc,od,sl,kV,dc,pm,an,cd,ct,q⟩:=q;have F:=Wg q;rwa[_,_,o F (F.binds b) F.kp (AB X G q.1),F.binds b,F.kp,AB X G q.1]
def UY(P:j7)(w:m9)(base:v8)(X:AF (KK Pm) h)(G:h.Ns mainGlobals mg){x:g8}{s:Ae}(q:AtE Pm x s){a:List g8}{n:Nat}{g:Sp}(o:∀ {f:c5} {fd:AN},Fun K x x s f fd->yN P w K mg base CX0 n f fd a g)
  (b:∀(kV d pm:c6)(an:Option c5)(e ct:c6)(c:List c6),c.length=a.length->bindArgs (AD x x (wZ s) (wA s) (zG s) .none kV d pm an e ct) ⟨c,[]⟩=pure (a.zip c):=by first | exact λ_ _ _ _ _ _=>us0 rfl | exact λ_ _ _ _ _ _=>us1 λ_=>rfl | exact λ_ _ _ _ _ _=>us2 λ_ _=>rfl | exact λ_ _ _ _ _ _=>us3 λ_ _ _=>rfl | exact λ_ _ _ _ _ _=>us4 λ_ _ _ _=>rfl | exact λ_ _ _ _ _ _=>us6 λ_ _ _ _ _ _=>rfl):Has P w K mg base x n a g:=WE P w base X G q (λF _ _ _=>o F) b
abbrev AtM(x q:g8)(s:Ae)(f:c5):Prop:=∃(oc:c6)(od:Option c5)(sl:Array (Option c6))(kV dc pm:c6)(an:Option c5)(cd ct:c6),Am f KC=O ⟨oc,od,.func (AD x q (wZ s) (wA s) (zG s) .none kV dc pm an cd ct),sl⟩/\CT KC cd q=IT/\AQ KC (.ref f)=IT
def atm_mk(h:Am f KC=O ⟨oc,od,.func (AD x q (wZ s) (wA s) (zG s) .none kV dc pm an cd ct),sl⟩/\CT KC cd q=IT/\AQ KC (.ref f)=IT):AtM x q s f:=⟨_,_,_,_,_,_,_,_,_,h⟩
def Uy(P:j7)(w:m9)(base:v8)(X:AF (KK Pm) h)(G:h.Ns mainGlobals mg){x:g8}{s:Ae}(q:AtE Pm x s){a:List g8}{n:Nat}{g:Sp}(o:∀ {f:c5} {fd:AN},Fun K x x s f fd->yN P w K mg base (CX1 P w) n f fd a g)
  (b:∀(kV d pm:c6)(an:Option c5)(e ct:c6)(c:List c6),c.length=a.length->bindArgs (AD x x (wZ s) (wA s) (zG s) .none kV d pm an e ct) ⟨c,[]⟩=pure (a.zip c):=by first | exact λ_ _ _ _ _ _=>us0 rfl | exact λ_ _ _ _ _ _=>us1 λ_=>rfl | exact λ_ _ _ _ _ _=>us2 λ_ _=>rfl | exact λ_ _ _ _ _ _=>us3 λ_ _ _=>rfl | exact λ_ _ _ _ _ _=>us4 λ_ _ _ _=>rfl | exact λ_ _ _ _ _ _=>us6 λ_ _ _ _ _ _=>rfl):ae P w K mg base x n a g:=by
 obtain⟨f,oc,od,sl,kV,dc,pm,an,cd,ct,q⟩:=q;have F:=Wg q;rwa[_,_,o F,F.binds b,F.kp,AB X G q.1]
def wu(P:j7)(w:m9)(mg:g8->Option c6)(base:v8)(a:AtM x q s f){n:Nat}{i:Sp}(o:∀ {fd:AN},Fun K x q s f fd->yN P w K mg base CX0 n f fd c i)
  (b:∀(kV e pm:c6)(an:Option c5)(g ct:c6)(d:List c6),d.length=c.length->bindArgs (AD x q (wZ s) (wA s) (zG s) .none kV e pm an g ct) ⟨d,[]⟩=pure (c.zip d)):eA P w K mg base f n c i:=by
 obtain⟨oc,od,sl,kV,dc,pm,an,cd,ct,m,l,j⟩:=a;rwa[_,o (XR (st:=s) (by rw[Wp]; exact m) (by rw[Wp]; exact l) (by rw[Wp]; exact j)),b _ _ _ _ _ _]
def K_in{Pm:Cy}{h:v8}(X:AF (KK Pm) h):AF K h:=by
 rw[Wp];rwa[ZU (F:=KF Pm) (by symm) X]
end
def all_mk{l:Ft}{w:m9}{mg:g8->Option c6}(X:AF (KK w.params) h)(G:h.Ns mainGlobals mg)(hfa:mg "law" = O (.ref fa))
  
  
  
  
  (q1:AtE w.params "common_factor" wJ)
  (q2:AtE w.params "lowest" xw)
  (q3:AtE w.params "upright" rX)
  (q4:AtE w.params "spot" pS)
  (q5:AtE w.params "turn" pW)
  (q6:AtE w.params "along" vq)
  (q7:AtE w.params "plain_side" vB)
  (q8:AtE w.params "beyond" yc)
  (q9:AtE w.params "holds" vo)
  (q10:AtE w.params "crossing" sV)
  (q11:AtE w.params "pushed" ye)
  (q12:AtE w.params "bearing_sides" wK)
  (q13:AtE w.params "range_side" vC)
  (q14:AtE w.params "in_water" sZ)
  (q15:AtE w.params "foot" pC)
  (q16:AtE w.params "edge_end" sN)
  (q17:AtE w.params "edge_ends" tD)
  (q18:AtE w.params "spot_on_edge" wT)
  (q19:AtE w.params "sought" yh)
  (q20:AtE w.params "span" pA)
  (q21:AtE w.params "weighed" qC)
  (q22:AtE w.params "clash_of_three" xW)
  (q23:AtE w.params "clash" uv)
  (q24:AtE w.params "nothing_yet" uR)
  (q25:AtE w.params "changed" qR)
  (q26:AtE w.params "without" qA)
  (q27:AtE w.params "within" xt)
  (q28:AtE w.params "check_name" vH)
  (q29:AtE w.params "check_free" uZ)
  (q30:AtE w.params "check_place" uQ)
  (q31:AtE w.params "check_run" tG)
  (q32:AtE w.params "check_room" vN)
  (q33:AtE w.params "check_mark" uY)
  (q34:AtE w.params "check_moment" wW)
  (q35:AtE w.params "check_way" tJ)
  (q36:AtE w.params "check_apart" uK)
  (q37:AtE w.params "after_mark" vJ)
  (q38:AtE w.params "after_sail" vG)
  (q39:AtE w.params "after_note" vD)
  (q40:AtE w.params "after_bearing" wB)
  (q41:AtE w.params "after_range" uD)
  (q42:AtE w.params "after_strike" wS)
  (q43:AtE w.params "after" ux)
  (q44:AtE w.params "way_between" uM)
  (q45:AtE w.params "mark_places" uG)
  (q46:AtE w.params "sides_of" sF)
  (q47:AtE w.params "note_groups" uJ)
  (q48:AtE w.params "note_sides" vI)
  (q49:AtE w.params "note_numbers" wQ)
  (q50:AtE w.params "side_owners" uO)
  (q51:AtE w.params "book_clash" vF)
  (q52:AtE w.params "_law_power" wc)
  (q53:AtE w.params "_law_draws" vn)
  (q54:AtE w.params "_law_new" lW)
  (q55:AtE w.params "_law_lead" pB)
  (q56:AtE w.params "_law_way" ka)
  (q57:AtE w.params "_law_turned" yf)
  (q58:AtE w.params "_law_left_pair" vZ)
  (q59:AtE w.params "_law_true_bearing" wR)
  (q60:AtE w.params "_law_some_deeds" vE)
  (q61:AtE w.params "_law_names" wj)
  (q62:AtE w.params "_law_after" vp)
  (q63:AtE w.params "_law_raised" ya)
  (q64:AtE w.params "_law_low" kM)
  (q65:AtE w.params "_law_lowest" xx)
  (q66:AtE w.params "_law_rows_of" qP)
  (q67:AtE w.params "_law_m_groups" sO)
  (q68:AtE w.params "_law_m_sides" qJ)
  (q69:AtE w.params "_law_spot_of" qG)
  (q70:AtE w.params "_law_meet" pG)
  (q71:AtE w.params "_law_has" ku)
  (q72:AtE w.params "_law_corners_of" vL)
  (q73:AtE w.params "_law_feet" pE)
  (q74:AtE w.params "_law_any_place" tF)
  (q75:AtE w.params "_law_whole" vd)
  (q76:AtK w.params "law" gE f76 oc76 od76 sl76 E H D L J I)
  (q77:AtM "__init__" "Book.__init__" pN gf)
  (q78:AtM "strike" "Book.strike" xu nD)
  (q79:AtM "deed" "Book.deed" pF kA)
  (q80:AtM "marks" "Book.marks" va jo)
  (q81:AtM "runs" "Book.runs" pO kW)
  (q82:AtM "notes" "Book.notes" wf pD)
  (q83:AtM "coming" "Book.coming" yg oz)
  (z_abs:Az (KK w.params) mainGlobals "abs" = O IS)
  (Y:Az (KK w.params) mainGlobals "all" = O IS)
  (A:Az (KK w.params) mainGlobals "bool" = O IS)
  (z:Az (KK w.params) mainGlobals "dict" = O IS)
  (j:Az (KK w.params) mainGlobals "enumerate" = O IS)
  (T:Az (KK w.params) mainGlobals "int" = O IS)
  (f:Az (KK w.params) mainGlobals "isinstance" = O IS)
  (S:Az (KK w.params) mainGlobals "len" = O IS)
  (y:Az (KK w.params) mainGlobals "list" = O IS)
  (R:Az (KK w.params) mainGlobals "max" = O IS)
  (Q:Az (KK w.params) mainGlobals "min" = O IS)
  (x:Az (KK w.params) mainGlobals "range" = O IS)
  (P:Az (KK w.params) mainGlobals "set" = O IS)
  (q:Az (KK w.params) mainGlobals "sorted" = O IS)
  (N:Az (KK w.params) mainGlobals "sum" = O IS)
  (u:Az (KK w.params) mainGlobals "tuple" = O IS)
  (M:Az (KK w.params) mainGlobals "zip" = O IS) :
  ∃ fd:AN,(∀(s:d8)(v:c6),Fe s fd ⟨[v],[]⟩ [("_law_script",v)])/\∀ base:v8,AF (KK w.params) base->base.Ns mainGlobals mg->yN l.prog w K mg base CX0 11 fa fd ["_law_script"] (sp_law K):=by
 have e:=hfa.symm.trans (AB X G q76.1);cases e;have Z:Zs mg:=⟨t5 X G z_abs,t5 X G Y,t5 X G A,t5 X G z,t5 X G j,t5 X G T,t5 X G f,t5 X G S,t5 X G y,t5 X G R,t5 X G Q,t5 X G x,t5 X G P,t5 X G q,t5 X G N,t5 X G u,t5 X G M⟩;erw[AD "law" "law" (wZ gE) (wA gE) (zG gE) .none E H D L J I,λs v=>.of_eq rfl,λbase KB GB=>?_];have a:Cb l.prog w mg base:=cb_mk KB GB;have c:=@UY w.params h mg l.prog w base X G;have DX:=@Uy w.params h mg l.prog w base X G;have yAb:=c q1 λF=>uz F Z ;have yBy:=c q2 λF=>gU F Z a yAb;have yBs:=c q3 λF=>iy F Z a yBy;have yCp:=c q4 λF=>bD F Z a yBs;have o:=c q5 λF=>Zz F Z a ;have yCi:=c q6 λF=>dU F Z a ;have yAx:=c q7 λF=>nK F Z a yBy;have yBx:=c q8 λF=>gg F Z a ;have B:=c q9 λF=>dF F Z a yBx;have yBn:=c q10 λF=>lV F Z a yBs o;have yCc:=c q11 λF=>gH F Z a ;have yAc:=c q12 λF=>we F Z a yAx o;have yAy:=c q13 λF=>nM F Z a yAx o;have yBl:=c q14 λF=>kG F Z a B;have yCr:=c q15 λF=>bH F Z a yCp yCi;have yBm:=c q16 λF=>ke F Z a o B yBn;have yBg:=c q17 λF=>mB F Z a yBn yBm;have yAg:=c q18 λF=>sj F Z a yBg yCr yBl;have yBw:=c q19 λF=>fe F Z a B yAg yCp;have yCq:=c q20 λF=>bM F Z a ;have yBu:=c q21 λF=>iP F Z a yBy;have yAa:=c q22 λF=>wq F Z a yBu o yBm;have yCj:=c q23 λF=>dD F Z a yAa o B yCr yBu yCq yBw;have yAj:=c q24 λF=>qg F Z a ;have yBr:=c q25 λF=>jN F Z a ;have yBt:=c q26 λF=>ix F Z a ;have yBz:=c q27 λF=>hW F Z a ;have yBb:=c q28 λF=>om F Z a ;have yBc:=c q29 λF=>oB F Z a ;have yAp:=c q30 λF=>qc F Z a yBz;have yBh:=c q31 λF=>mF F Z a yBz;have yAs:=c q32 λF=>oW F Z a ;have yAz:=c q33 λF=>oE F Z a ;have C:=DX q34 λF=>uf F Z a ;have yBi:=c q35 λF=>mI F Z a yBz;have yAl:=c q36 λF=>qp F Z a ;have yBd:=c q37 λF=>nR F Z a yBr yAs yAp yBc yBb;have yAr:=c q38 λF=>mi F Z a yBr yAs yBh
 have yAu:=c q39 λF=>og F Z a yBr yAs;have yAd:=c q40 λF=>vt F Z a yAu o yBi yAz C;have yAo:=c q41 λF=>qb F Z a yAu yAl yAz C;have yAf:=c q42 λF=>sk F Z a yBt;have yCh:=c q43 λF=>dI F Z a yBd yAr yAd yAo yAf;have yBj:=c q46 λF=>kS F Z a yAy yAc;have yCl:=c q52 λF=>dL F Z ;have yCd:=c q53 λF=>eZ F Z a yCl;have yCv:=c q54 λF=>ZS F Z a ;have yCo:=c q55 λF=>bp F Z a ;have yCt:=c q56 λF=>YN F Z a ;have yBv:=c q57 λF=>gJ F Z a ;have yBe:=c q58 λF=>mG F Z a yBv yCt;have yAi:=c q59 λF=>uo F Z a yBe yCo;have yAt:=c q60 λF=>nN F Z a yAi yCv;have yCe:=c q61 λF=>cv F Z a ;have yCk:=c q62 λF=>dZ F Z a ;have yCw:=c q64 λF=>YF F Z ;have yCa:=c q65 λF=>fv F Z a yCw;have yBp:=c q66 λF=>jl F Z a yCa;have yBk:=c q67 λF=>kL F Z a yBp yCo;have yBq:=c q68 λF=>iz F Z a yBk;have yBo:=c q69 λF=>iN F Z a yCw;have yCn:=c q70 λF=>cZ F Z a yBo;have yCu:=c q71 λF=>YS F Z a ;have yAw:=c q72 λF=>nF F Z a yCu yCn;have yCm:=c q73 λF=>ao F Z a yBo;have yBf:=c q74 λF=>mC F Z a yAw yCm yCu;have yCg:=c q75 λF=>dA F Z ;have r:=wu l.prog w mg base q77 (λF=>cU F Z a yAj) (λ_ _ _ _ _ _=>us1 λ_=>rfl);have p:=wu l.prog w mg base q80 (λF=>dk F Z a ) (λ_ _ _ _ _ _=>us1 λ_=>rfl);have yAk:=c q45 λF=>qf F Z a p;have g:=wu l.prog w mg base q81 (λF=>aG F Z a ) (λ_ _ _ _ _ _=>us1 λ_=>rfl);have yAm:=DX q44 λF=>qi F Z a C g;have d:=wu l.prog w mg base q82 (λF=>cj F Z a ) (λ_ _ _ _ _ _=>us1 λ_=>rfl);have yAn:=DX q47 λF=>qj F Z a d yBj yCc yAm yAk C g;have yAv:=DX q48 λF=>oR F Z a yAn;have yAh:=c q49 λF=>sy F Z a d;have yAq:=c q50 λF=>ql F Z a yAn yAh;have yBa:=c q51 λF=>ml F Z a yAq yCj yAv;have n:=wu l.prog w mg base q83 (λF=>gW F Z a ) (λ_ _ _ _ _ _=>us1 λ_=>rfl);have i:=wu l.prog w mg base q79 (λF=>aL F Z a n yCh) (λ_ _ _ _ _ _=>us2 λ_ _=>rfl);have yCb:=c q63 λF=>gK F Z a yAt yCe yCk i yCv;have m:=wu l.prog w mg base q78 (λF=>gY F Z a i) (λ_ _ _ _ _ _=>us2 λ_ _=>rfl)
 rwa[UC (Wg q76) Z a yBf yBk yCg yBa yBq yCk m yCb r yCd]
def walk{l:Ft}{A:(g8->Option c6)->v8->Prop}{j:m9->v8->Prop}{d:DefRec}(r:l.most=O 63)(g:d.params.defaults=[])
  (y:∀(w:m9)(h:v8),j w h->AF (KK w.params) h)
  (F:∀(w:m9)(mg:g8->Option c6)(i:c5)(h:v8),AF (KK w.params) h->h.Ns mainGlobals mg->mg d.name=O (.ref i) ->
   ∃ fd:AN,(∀(s:d8)(u:c6),Fe s fd ⟨[u],[]⟩ [("_law_script",u)])/\∀ base:v8,AF (KK w.params) base->base.Ns mainGlobals mg->yN l.prog w K mg base CX0 11 i fd ["_law_script"] (sp_law K)) :
  HY q e A j l.row.toRowW d [] (λf m=>Hj f m) :=
 L2.walk_of3 (n:=63) (k:=11) (x := "_law_script") (KK:=KK) (K:=K) (sp:=sp_law K) r (by decide) g ⟨rfl,by decide,by decide,rfl⟩ y (λ_ _ X=>K_in X) (λp a o h c=>by rw[Wp]; rwa[bz (F:=KF p) (by symm) h c]) F (λ_ a ns v z=>⟨a,ns,rfl,z,v,λ_=>rfl⟩)

end Sea
open PySem PySem.W PyProof.Rows
set_option maxRecDepth 100000 in
set_option maxHeartbeats 0 in
theorem PySem.Challenge.cw_seamarks_k44_clashes_by_notes_holds : PySem.Challenge.rw_seamarks_k44_clashes_by_notes.Holds := by
 w_on
 refine holds_law Sea.said_ok λsaid=>?_;refine holds_open (q:=Sea.qv) (loose:=Sea.lse) (XP:=XL Sea.qv []) (YP:=InK Sea.KK) Sea.left_ok (InK.of Sea.kas_ok)
  InK.keeps (λs e=>xl_of s (FS.mp e).1) XL.keeps (by rfl) (by rfl) (by rfl)
  (λs e=>recFacts_of (FS.mp e).2) (by rfl) (by assumption) (by ac_nf)
  ⟨rfl,rfl,rfl,rfl,rfl,by ac_nf⟩ ?hw ?hc
 case hw=>w_witness2
 k_fill
 erw[Sea.walk (l:=PySem.Challenge.rw_seamarks_k44_clashes_by_notes) rfl rfl (λw h Y=>Y) ?F]
 case F =>
  intro w mg fa h KX G hmg
  refine' Sea.all_mk KX G hmg ?q1 ?q2 ?q3 ?q4 ?q5 ?q6 ?q7 ?q8 ?q9 ?q10 ?q11 ?q12 ?q13 ?q14 ?q15 ?q16 ?q17 ?q18 ?q19 ?q20 ?q21 ?q22 ?q23 ?q24 ?q25 ?q26 ?q27 ?q28 ?q29 ?q30 ?q31 ?q32 ?q33 ?q34 ?q35 ?q36 ?q37 ?q38 ?q39 ?q40 ?q41 ?q42 ?q43 ?q44 ?q45 ?q46 ?q47 ?q48 ?q49 ?q50 ?q51 ?q52 ?q53 ?q54 ?q55 ?q56 ?q57 ?q58 ?q59 ?q60 ?q61 ?q62 ?q63 ?q64 ?q65 ?q66 ?q67 ?q68 ?q69 ?q70 ?q71 ?q72 ?q73 ?q74 ?q75 ?q76 ?q77 ?q78 ?q79 ?q80 ?q81 ?q82 ?q83 ?z_abs ?z_all ?z_bool ?z_dict ?z_enumerate ?z_int ?z_isinstance ?z_len ?z_list ?z_max ?z_min ?z_range ?z_set ?z_sorted ?z_sum ?z_tuple ?z_zip
  (case q77 | q78 | q79 | q80 | q81 | q82 | q83=>refine' Sea.atm_mk ⟨?b,?c,?d⟩;(case b=>rwa[rfl]);(case c=>symm);(case d=>symm))
  (case q76=>refine'⟨?_,?_,?_,?_⟩; k_is; rwa[rfl]; symm; symm)
  (case q1 | q2 | q3 | q4 | q5 | q6 | q7 | q8 | q9 | q10 | q11 | q12 | q13 | q14 | q15 | q16 | q17 | q18 | q19 | q20 | q21 | q22 | q23 | q24 | q25 | q26 | q27 | q28 | q29 | q30 | q31 | q32 | q33 | q34 | q35 | q36 | q37 | q38 | q39 | q40 | q41 | q42 | q43 | q44 | q45 | q46 | q47 | q48 | q49 | q50 | q51 | q52 | q53 | q54 | q55 | q56 | q57 | q58 | q59 | q60 | q61 | q62 | q63 | q64 | q65 | q66 | q67 | q68 | q69 | q70 | q71 | q72 | q73 | q74 | q75=>refine' Sea.at_mk ⟨?a,?b,?c,?d⟩;(case a=>k_is);(case b=>rwa[rfl]);(case c=>symm);(case d=>symm))
  (case z_abs | z_all | z_bool | z_dict | z_enumerate | z_int | z_isinstance | z_len | z_list | z_max | z_min | z_range | z_set | z_sorted | z_sum | z_tuple | z_zip=>k_is)
