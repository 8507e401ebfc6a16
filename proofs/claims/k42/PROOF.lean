import PyProof.Rows.All
import Wide.All
import OpenK.AllK
import Wide.FinOn
import Lean
import PyProof.EqAt
import PyProof.EqKinds
import PyProof.TupleCall
import PyProof.ZipIter
import PyProof.Rows.ZipGen
import PyProof.EnumFor
import PyProof.EnumStmt
import KE.KSortTup
import KE.KDictList
import KE.KItemsList
import KE.KTryMore
import PyProof.Rows.TopTwo
import PyProof.ExcBaseAll.ValueError
import PyProof.ExcAttrAll.ValueError
import KE.KEqDict
import KE.KRevSl
import PySem.Challenge.RW_seamarks_k42_whole_put_right_as_from_the
set_option compiler.extract_closed false
set_option Elab.async false
set_option linter.all false
set_option maxRecDepth 100000
set_option maxHeartbeats 4000000
theorem nabs{a:Int}{n:Nat} : a.natAbs<=n↔-(n:Int)<=a/\a<=n:=by omega
local macro_rules | `(tactic| lia) => `(tactic| first | (simp only [nabs] at *; lia (config := {})) | lia (config := {}) | omega)
local macro_rules | `(tactic| exists $es,*) => `(tactic| refine ⟨$es,*, ?_⟩)
open List renaming length_map->b9,getElem?_eq_getElem->c6,getElem?_map->e7,getElem?_eq_some_iff->e8,map_append->f8,length_append->f9,mem_singleton->g6,length_cons->g8,size_toArray->i7,mem_map->i9,map_cons->j3,mem_of_getElem?->j4,mem_append->j5,mem_cons->l9,length_take->m8,take_length->o5,getElem_mem->r6,append_assoc->r9,mem_append_right->t5,take_succ->w9,map_map->x5,mem_cons_of_mem->x8,mem_cons_self->x9,lookup_cons->Ac,range->Ad,getElem?_append_right->Ae,length_drop->Ai,length_singleton->Al,toArray->Ap,take_of_length_le->Au,lookup->Av,all_eq_true->Aw,length_nil->Ax,length->Ay,mem_map_of_mem->Az,getElem?_append_left->AF,mem_of_mem_drop->AM,find?_cons->AN,getElem_map->AR,mem_filter->AS,filterMap_cons->AT,getElem_of_mem->AU,map_congr_left->AV,take_append_drop->AX,getElem?_eq_none->AY,perm_append_comm->AZ,filterMap_append->Ba,mem_append_left->Bb,filter_append->Bf,filter_cons->Bj,drop_eq_getElem_cons->Bm,length_filter_le->Bs,mem_range->Bt,any_cons->Bu,pairwise_cons->By,any_eq_true->Bz,extract_eq_take_drop->BF,mem_of_mem_take->BP,pairwise_map->BU,append_nil->BX,zipIdx_cons->Ce,find?_eq_none->Ci,nodup_iff_pairwise_ne->Cj,getD_eq_getElem?_getD->Ck,pairwise_singleton->CK,filter_cons_of_pos->CM,length_eq_zero_iff->CN,getElem?_set_self->CQ,mem_filterMap->CS,getElem?_take->CW,length_replicate->C0,length_range->C9,replicate->Df,pairwise_iff_getElem->Dp,mem_or_eq_of_mem_set->Dq,filterMap_eq_nil_iff->Dr,all_cons->Dx,map_take->DA,nodup_cons->DC,length_set->DD,range_succ->DE,map_nil->DV,ext_getElem?->DW,filter_congr->D3,take_succ_eq_append_getElem->D4,mem_iff_getElem?->Ea,not_mem_nil->Ee,map_drop->Eg,all_map->EB,zip_cons_cons->EL,takeWhile_cons_of_pos->ES,takeWhile_cons_of_neg->ET,dropWhile_cons_of_pos->EU,dropWhile_cons_of_neg->EV,nodup_nil->EW,perm_append_singleton->EY,perm_ext_iff_of_nodup->Fd,snd_lt_of_mem_zipIdx->Fg,foldl_append->Fl,nodup_append->Fp,reverse_perm->Fs,getElem?_take_of_lt->Fz,sublist_append_left->FI,getElem_inj->FK,getElem?_replicate->FL,cons_append->FP,map_snd_zip->FT,filter_cons_of_neg->FV,ext_getElem->FW,mem_flatMap->FX,drop_of_length_le->F6,of_mem_zip->Gd,filter_map->Gf,set_append_right->Go,getElem?_set_ne->Gq,getElem_toArray->Gv,pairwise_append->Gw,drop_zero->Gx,map_id->Gy,filter->GE,length_pos_iff->GK,filter_sublist->GM,flatMap_append->GO,sum_cons->GR,zip_nil_right->G0,any_eq_false->G9,take_add_one->Hk,mapM_toArray->Hl,all_nil->Ht,length_zip->Io,perm_cons->IA,nil_perm->Ji,perm_nil->Jj
open PySem.W renaming Frag->c5,mg_of->o8,mg_none_of->AC,fnOf->AD,keepIn->AJ,findIn->Bc,emptyDict->Bq,nsIn->Bx,instObj->BV,callWith_K->CT,codeIn->Dg,methodCall_KW->D9,plainGet->Eb,plainGet_of->Eu,callWith_K0->Ev,lookIn->EK,methodObj->Fi,hasDictIn->Fj,cellsFrom_some->F1,hideAll->Gb,takerIn->Gc,OpenLaw->Gg,hideAll_get->GG,of_hideAll->GW,isFn->Hb,plainOver->Hc,specialIn->Hd,handedIn->HA,kdl_call->HM,makesIn->Ia,exmOne->ID,WalkO->Jk,SharedT->Jr
open PySem renaming Addr->c7,Value->c8,wpAny_bind->c9,Shared->d7,wpAny_pure->i5,Str->j9,Program->o0,World->t7,Heap->Aa,Around->Ak,Stmt->Ao,Expr->Ar,wpAny_newObj_type->AI,FuncData->AK,wpAny_mono->AW,Obj->Bk,wpAny_typeNameOfWhole_keyiter->BQ,DictEntry->BR,mem_of_lookup->BY,wpAny_holding->Cc,wpAny_Call_Name_kw->Cf,wpAny_passesOwn->Co,wpAny_truthy_bool->Cr,wpAny_typeNameOf_keyiter->Cy,wpAny_call_entry->CJ,wpAny_getItem_str_slice->CL,Params->CO,OsState->CP,ofString_length->C4,NameKind->De,wpAny_standAt->Dw,wpAny_comprehension_free->Dz,wpAny_execs_nil->DB,Scope->DK,wpAny_field->DL,wpAny_callSpecial?_slot->DM,wpAny_pyIter_list->DT,wpAny_setField->DY,Pos->D5,wpAny_isOneOf_keyiter->D7,wpAny_newFunctionEnv->Ek,wpAny_pyIter_keyiter->Em,Env->ED,Sem->EF,wpAny_fieldsOf->EX,wpAny_FormattedValue_plain->Fa,Builtin->Fh,Keyword->Fk,wpAny_dictEntries->Fo,wpAny_Call_method->Fu,wpAny_attempt->FC,wpAny_newList->FE,wpAny_eqBool_int->FJ,BindsTo->F0,wpAny_dictEpoch->Ge,wpAny_isTrue_Compare1->Gk,wpAny_formatField_int->Gp,evalArgs_none->GL,Model->GP,wpAny_rule->GY,IsPart->G1,Within->G7,wpAny_assign_Name->G8,Paired->Hw,wpAny_execs_cons->Hx,wpAny_getItem_of->HI,wpAny_Dict_empty->HJ,wpAny_noted->HY,wpAny_loadPart'->Ib,wpAny_Name->Iq,CmpOp->Ir,wpAny_call->Iu,call->Iy,Tok->JD,Fin->JY
open PySem.Heap renaming get?_push_of_some->e9,lt_size->m7,get?_push_size->n9,get?_update_other->AL,SameBut->BZ,size_push->CH,get?_update_self->C3,get?_none_of_le->Eh,get?_update_ne->GI,MadeExcOf->IC
open Nat renaming le_refl->f7,le_trans->i4,lt_of_lt_of_le->o3,ne_of_lt->t8,zero_le->x6,gcd->Af,lt_of_le_of_lt->Am,lt_irrefl->Bg,not_lt_zero->Bh,le_of_lt->BM,le_succ->BO,lt_trans->Cs,lt_succ_self->CI,zero_add->CV,add_le_add_left->Du,lt_of_le_of_ne->DG,ne_of_gt->DS,le_max_right->Ef,min_eq_left->Es,le_of_eq->Ey,sub_self->EA,add_le_add->Fc,le_succ_of_le->Ft,succ_ne_self->FO,dvd_mul_left->FQ,le_add_right->FR,mul_le_mul_right->GC,add_le_add_right->GD,le_of_dvd->GQ,eq_zero_or_pos->G2,gcd_zero_right->G5,gcd_zero_left->Hg,pow_succ->Hh,lt_succ_of_lt->Hj,lt_or_ge->Hq,le_of_not_lt->HF,gcd_mul_left->HN,dvd_gcd->HW,log2_lt->HZ,mul_le_mul->Iz,dvd_trans->Jg,mul_assoc->Jh,mul_comm->Ju,gcd_comm->Jv,sub_zero->Jy,succ_sub->Jz,add_zero->JA,min_self->JC,mul_one->JJ
open PySem.F renaming excBase_ValueError->i8,slot_dict_keyiterator_next->Bw,slot_dict_getitem->Do,plainAttrs_list->DR,slot_tuple_lt->D6,args_dict_keyiterator_next_1->Ed,entry_dict_keyiterator_next->El,slot_dict_delitem->Fe,args_tuple_add_2->FA,slot_list_extend->FG,type_list_extend->FH,args_tuple_lt_2->FM,entry_tuple_add->FN,entry_tuple_lt->F2,slot_tuple_add->F3,slot_dict_pop->Gm,slot_dict_values->G4,plainAttrs_dict->Hn,slot_dict_items->Ho,slot_dict_iter->HK
open Option renaming isSome_iff_exists->j7,map_eq_some_iff->o6,map_some->AB,isSome_map->Ct,map_eq_none_iff->DZ,getD_none->HD,none->JI
open Classical renaming not_not->j8,choose_spec->Gj,choose->Hv
open Bool renaming false_ne_true->o4,and_eq_true->AA,false_eq_true->BL,eq_iff_iff->BW,false_and->EJ,eq_false_iff->Fm,and_eq_true_iff->GF,true_and->GS,and_true->GT,or_eq_true->Ih,and_false->Ix,or_false->Jf
open Array renaming length_toList->o7,toList_append->Ab,getElem?_eq_getElem->Ah,getElem_toList->BB,getElem?_toList->BI,getElem?_eq_some_iff->Cm,toList_extract->Cu,toList_push->C8,toArray_toList->En,toList_reverse->Eo,toList_setIfInBounds->EZ,size_extract->E1,toList_inj->FS,getElem?_eq_none->F5,mem_toList_iff->Gr,getElem_map->Hm,toList_map->HP,toList_zip->HQ,size_map->IB,toList->Js
open PySem.Value renaming ref->o9,none->Bo,str->CG,int->Dj,bool->FY,bytes->HS,float->HU,type->Ip,isStrOf->IS,isInt->JG
open Option.some renaming inj->t6,injEq->Cv
open PySem.PassesOwn renaming never->v8,leaving->Da
open PyProof.Rows renaming SortSt->v9,OwnCls->Ag,Keyed->Aj,SortKind->BA,slot_tuple_getitem->Cz,expectedOf->CA,plainGoodE->CD,plainGoodD->CF,callWith_type1->C6,IntsAre->C7,drecsOf->Db,AllBare->Ex,callWith_builtin1->HC,Subscript_->Iw,IsTup->Jl,sortedS->JM,lt_int->JN
open Int renaming emod_lt_of_pos->z7,mul_comm->z9,emod_nonneg->An,le_of_lt->As,mul_assoc->AE,eq_ofNat_of_zero_le->AQ,mul_right_comm->Be,toNat_natCast->Br,zero_mul->Bv,mul_nonneg->BC,mul_left_comm->BD,natAbs_ediv_le_natAbs->BG,mul_le_mul_of_nonneg_right->BJ,zero_add->BN,natAbs_mul->Cg,natCast_nonneg->Ch,mul_ne_zero->CY,neg_mul->Dh,eq_of_mul_eq_mul_right->Di,le_of_eq->Dl,natAbs_mul_self->Dv,mul_nonneg_of_nonpos_of_nonpos->DJ,add_mul->DN,mul_sub->DO,mul_pos->DP,le_refl->DQ,mul_neg->Ej,toNat_of_nonneg->Ew,mul_lt_mul_of_pos_right->Ez,ediv_pos_of_pos_of_dvd->EO,lt_of_mul_lt_mul_right->ER,mul_add->Fq,natAbs_add_le->Fw,le_trans->F7,not_lt->F8,natAbs_neg->Gu,lt_of_le_of_lt->G6,natCast_emod->HH,mul_one->HV,neg_neg->HX,mul_eq_zero->Ii,sub_self->Jw,mul_zero->Jx,le_total->JB,sub_mul->JL
open True renaming intro->z8
open List.Perm renaming append_left->Aq,trans->Er,refl->EQ,of_eq->Ij
open PySem.NameKind renaming free->At,cell->CZ
open PySem.Obj renaming mapSeq->AG,mapFields->Cd,data_mapFields->CU,isFreed_of_fields->D8,cls_mapFields->Hi
open PySem.W.Frag renaming In->AH
open False renaming elim->AO
open Ne renaming symm->Bi
open ForInStep renaming yield->BE
open PySem.World renaming withFollow_self->BH
open Or renaming inl->B9,inr->HG
open PySem.Builtin.Str renaming strSliceIndices->Ca,glued->Fv
open PySem.Builtin.Slice renaming slicePlaces->Cn,sliceAdjust->Dn,sliceApplied->EM,slicePartIndex->Ic,sliceFields->IQ
open Sum renaming inl->Cp,inr->Cq
open PySem.Builtin.Tuple renaming tupleExact->Cw,tupleCompareSizes->Hu,tupleItemsOf->Iv
open PySem.W.Fast renaming te14364793385576792824->C5,te2368527892694137696->Dd,te5923862056798008813->EH
open PySem.Str renaming ofString->Dk,join->FU,empty->Jn
open PySem.Txt renaming slice->Dm,slice_le->F9
open PySem.Builtin.List renaming listTooLong->Dy
open PySem.SeqAt.EqAt renaming int_int->DF,of_refs->DI,str_str->EN,int_str->GU,str_int->GV,same->Ie
open Prod renaming ext->DU
open PySem.SeqAt renaming EqAt->Ec,in_tupleAt->HE,in_listAt->Ig
open PySem.Calls renaming evalArgs_plain->Ei,Name_function_global->EI,call_function_entry->Ff,callWith_builtin->F4,Constant_str->GX,spliced_cons->GZ,spliced_nil->Hf
open PySem.Builtin.Dict_items renaming ownsTuple->Ep
open PySem.PyData renaming shownAll->Et,keyHash->EG,showableAll->Fb,hasDictAll->Fx,showable->Gh,depthAll->Gi,hasDict->GA,shown->Hr,depth->Hs
open PySem.StrLaws renaming glued_eq_join->EC,reprText_len->Gz,joinTotal->Jo
open PySem.Paired renaming length->Fy,snoc->JK
open List.cons renaming inj->FD,injEq->Il
open List.Pairwise renaming imp_of_mem->FF,sublist->JE,nil->JV
open PySem.Around renaming under->FZ
open Decidable renaming em->Ga
open PySem.Builtin.Dict renaming showsAll->Gn,dictSlotNone->IR
open PySem.Builtin.Int renaming intBits->GH
open PySem.Heap.SameBut renaming update->GJ
open PySem.EntryCells renaming newEntry->GN
open PySem.SeqAt.RcNeAt renaming lists->G3,lists_lengths->IE,tuples->JO
open PySem.Code renaming isFrame->He,isGuard->Jt,frames->JH
open PyProof.Rows.IsTup renaming new->Hy
open Sum.inr renaming inj->HR
open StateT renaming run_pure->Ik
open PySem.W.KasT renaming kasWp_bind->Im
open PySem.EqNone renaming eq_none_none->IF,eq_none_bool->IG,eq_bool_none->IH,ne_none_none->IK,ne_none_bool->IL,ne_bool_none->IM,eq_none_int->IT,eq_none_str->IU,eq_int_none->IV,eq_str_none->IX,ne_none_int->IZ,ne_none_str->Ja,ne_int_none->Jb,ne_str_none->Jd
open PySem.EqMixed renaming eq_bool_str->II,eq_str_bool->IJ,ne_bool_str->IN,ne_str_bool->IP,eq_int_str->IW,eq_str_int->IY,ne_int_str->Jc,ne_str_int->Je
open PySem.Builtin.Range renaming rangeSize->Jm
open PySem.Heap.UpToSlots renaming of_keeps->Jp
open And renaming intro->Jq
open PySem.W.SharedT renaming abs->JF
open List.Sublist renaming append->JP,refl->JW,map->J0
open PySem.W.Looks renaming here->JQ,ld->JZ
open PySem.Heap.IsSliceOf renaming new->JR
open PySem.W.WShape renaming has->JS
open PySem.Walks renaming list->JT
open PySem.Within renaming cons->JU
open PySem.W.WData renaming int->JX
open Option renaming some->O,none->J2
open Bool renaming true->J3,false->J7
local macro_rules | `(tactic| rwa [$e:term]) => `(tactic| exact $e)
local macro_rules | `(tactic| rwa [$e:term, $[$es:term],*]) => `(tactic| exact ⟨$e, $es,*⟩)
local macro_rules | `(tactic| erw [$e:term]) => `(tactic| refine $e)
local macro_rules | `(tactic| erw [$e:term, $[$es:term],*]) => `(tactic| refine ⟨$e, $es,*⟩)
theorem U{α:Sort _}{a:α}:a=a:=rfl
set_option hygiene false in
local macro_rules|`('C')=>`((.lst []))|`('B')=>`((starEach es X.env))|`('A')=>`((J7,eval e X.env))|`('z')=>`((by intro z; cases z))|`('y')=>`(["one","other"])|`('x')=>`((Int×Int))|`('w')=>`((CX1 P w))|`('v')=>`((show J7=J3 from f))|`('u')=>`((rows.map V.int))|`('t')=>`((.Call (.Name x p) (e::es) [] pos))|`('s')=>`((xW X (o8 X G 'g') 'g'))|`('r')=>`((.tup [.int x,.int y]))|`('q')=>`((.tup xs))|`('p')=>`((ns.map V.int))|`('o')=>`((vh bkC H b p S past later))|`('n')=>`((λz=>nomatch z))|`('m')=>`((by ac_nf))|`('l')=>`((s.heap.objs.size+1))|`('k')=>`((compEnvC scope (xt X.env scope.names []) G.objs.size X.env))|`('j')=>`((λ_ _=>rfl))|`('i')=>`(["state","row"])|`('h')=>`((k == At&&env.scope.kind == .function&&env.kindOf n == O .cell))|`('g')=>`((by symm))|`('f')=>`((.ListComp elt [⟨target,iter,ifs,0⟩] scope pos))|`('e')=>`((hr.mono 'a'))|`('d')=>`((by simp))|`('c')=>`((model prog w))|`('b')=>`((model X.prog X.w))|`('a')=>`((by decide))
namespace L2
open PySem
def wO(s:Ao):Arguments:=match s with
 | .FunctionDef _ a _ _ _ _ _ _ _ _=>a
 | _=>{ posonlyargs:=[],args:=[],vararg:=J2,kwonlyargs:=[],kw_defaults:=[],kwarg:=J2,defaults:=[] }
def xX(s:Ao):List Ao:=match s with
 | .FunctionDef _ _ b _ _ _ _ _ _ _=>b
 | _=>[]
def zF(s:Ao):DK:=match s with
 | .FunctionDef _ _ _ _ _ _ c _ _ _=>c
 | _=>{ kind:=.function,names:=[],isGenerator:=J7,isCoroutine:=J7 }
def yt(s:Ao)(j:Nat):Ao:=match s with
 | .ClassDef _ _ _ body _ _ _ _ _ _ _=>body.getD j (.Pass ⟨0,0,0,0⟩)
 | _=>.Pass ⟨0,0,0,0⟩
end L2
namespace PySem.W
open PySem
noncomputable def iC(e:String->Option Fh)(p:o0)(w:t7)(c:Nat)(d:Option c8):Nat->Jr->Thread->Option Jr
 | 0,_,_=>J2
 | n+1,s,t=>match through t with
  | true=>O s
  | false=>match Fast.tw6613529449190102663 c d t with
   | false=>J2
   | true=>match Fast.tw10156331382660048174 (Fast.tw11892475500146522536 e) p w s t with
    | some (g,f)=>iC e p w c d n g f
    | none=>J2
def dY{e:String->Option Fh}{c:Nat} : ∀{n:Nat}{s f:Jr}{t:Thread},iC e p w c d n s t=O f->topRun e p w c d n s.abs t=O f.abs
 | 0,_,_,_,h=>by cases h
 | n+1,s,f,t,h=>by
  unfold iC at h;rw[<- Fast.te6613529449190102663,<- Fast.te10156331382660048174,<- Fast.te11892475500146522536] at h;unfold topRun;cases m:through t with
  | true=>rw[m] at h; cases h; rfl
  | false =>
   rw[m] at h;cases l:stepOk c d t with
   | false=>rw[l] at h; cases h
   | true =>
    rw[l] at h;cases g:stepT (denote e) p w s t with
    | none=>rw[g] at h; cases h
    | some r=>obtain⟨j,i⟩:=r; rw[g] at h; rw[stepT_spec g]; rwa[dY h]
noncomputable def SY(P:CO):BT:=((boot_heap P).objs.toList.zipIdx).foldl (λt x=>t.ins x.2 x.1) .nil
def VU(P:CO):absHeap (SY P) 11 (boot_heap P).life=boot_heap P:=by kernel_rfl
def Wa(P:CO):((boot_heap P).isNs mainGlobals,(boot_heap P).objs.size,(boot_heap P).nsMap mainGlobals "__annotations__")=(J3,11,O (.ref 6)):=by kernel_rfl
noncomputable abbrev Oj(c:String->Option Fh)(p:o0)(N:Nat)(w:t7)(os:CP):Option Jr:=iC c p w 11 (O (.ref 6)) N ⟨SY w.params,11,(boot_heap w.params).life,#[],boot_drawn,boot_toks,os⟩ (topStub p)
def hV{e d c:Type}{x:Option e}{f:e->d×c}{a:d}{b:c}(h1:x.map (λs=>(f s).1)=O a)(h2:x.map (λs=>(f s).2)=O b):x.map f=O (a,b):=by
 cases x with
 | none=>cases h1
 | some s =>
  injection h1 with h1
  injection h2 with h2
  subst h1 h2;rfl
def XV{p q:o0}{c:List j9}{o:d7->Bool}{g:Type}{m:d7->g}{n:t7->g}{N:Nat}
  (f:∀ w:t7,(fencedOpening treeTable p w N).map (λs=>(s.heap,s.gens,s.drawn,s.toks))=O (boot_heap w.params,Array.mk [],boot_drawn,boot_toks))
  (h1:∀ w os,(Oj treeTable p N w os).map (λs=>(staticsOk (importedModules p.main.body) (boot_heap w.params) s.abs.heap&&namesBound p s.abs.heap&&gensDone s.abs&&laidKept (boot_heap w.params) s.abs.heap))=O J3)
  (h2:∀ w os,(Oj treeTable p N w os).map (λs=>openSeen q c (importedModules p.main.body) o J3 s.abs)=O (openGood q c))
  (h3:∀ w os,(Oj treeTable p N w os).map (λs=>m s.abs)=O (n w)):LeftO p q c o m n N:=λw=>by
 obtain⟨⟨h,C,d,k,os⟩,e,D⟩:=o6.mp (f w);obtain⟨rfl,rfl,rfl,rfl⟩:h=boot_heap w.params/\C = #[]/\d=boot_drawn/\k=boot_toks:=by simpa using D
 obtain⟨x,v,u⟩ : _/\_/\_:=by simpa only[Prod.mk.injEq] using Wa w.params
 obtain⟨s,l,B⟩:=o6.mp (h1 w os);obtain⟨E,j,A⟩:=o6.mp (h2 w os);obtain⟨y,i,z⟩:=o6.mp (h3 w os);rw[l] at j i;cases j;cases i;have r:=dY l;rw[show JF ⟨SY w.params,11,(boot_heap w.params).life,#[],boot_drawn,boot_toks,os⟩=⟨boot_heap w.params,#[],boot_drawn,boot_toks,os⟩ from by unfold JF; rw[VU]] at r;have t:topFrom treeTable p w N ⟨boot_heap w.params,#[],boot_drawn,boot_toks,os⟩=O s.abs:=by
  unfold topFrom;dsimp only;rw[x,v,u,r];show(match staticsOk (importedModules p.main.body) (boot_heap w.params) s.abs.heap&&namesBound p s.abs.heap&&gensDone s.abs&&laidKept (boot_heap w.params) s.abs.heap with | true=>_ | false=>_)=_;rw[B]
 unfold openEnds;rw[e];show(topFrom treeTable p w N _).map _=_;rw[t];show O (_,_)=_;rw[A,z]
end PySem.W
namespace Sea
open PySem L2
def top(i:Nat):Stmt:=PySem.Challenge.pw_seamarks_k42_whole_put_right_as_from_the.main.body.getD i (.Pass ⟨0,0,0,0⟩)
abbrev wR:Ao:=top 2
abbrev wq:Ao:=top 3
abbrev zj:Ao:=top 4
abbrev nR:Ao:=top 5
abbrev si:Ao:=top 6
abbrev wk:Ao:=top 7
abbrev tY:Ao:=top 8
abbrev mh:Ao:=top 10
abbrev tz:Ao:=top 11
abbrev tL:Ao:=top 12
abbrev vx:Ao:=top 13
abbrev sg:Ao:=top 14
abbrev qW:Ao:=top 15
abbrev wn:Ao:=top 16
abbrev wS:Ao:=top 17
abbrev tK:Ao:=top 18
abbrev qV:Ao:=top 20
abbrev nM:Ao:=top 21
abbrev qS:Ao:=top 22
abbrev sW:Ao:=top 23
abbrev yu:Ao:=top 24
abbrev vF:Ao:=top 26
abbrev vK:Ao:=top 27
abbrev zb:Ao:=top 28
abbrev vN:Ao:=top 51
abbrev ze:Ao:=top 52
abbrev zi:Ao:=top 53
abbrev wa:Ao:=top 54
abbrev tT:Ao:=top 55
abbrev tN:Ao:=top 56
abbrev vO:Ao:=top 57
abbrev sZ:Ao:=top 58
abbrev tQ:Ao:=top 59
abbrev tR:Ao:=top 60
abbrev uF:Ao:=top 61
abbrev sX:Ao:=top 62
abbrev vG:Ao:=top 63
abbrev tF:Ao:=top 64
abbrev tM:Ao:=top 65
abbrev uI:Ao:=top 66
abbrev tJ:Ao:=top 67
abbrev vD:Ao:=top 68
abbrev tO:Ao:=top 69
abbrev vQ:Ao:=top 70
abbrev tI:Ao:=top 71
abbrev wW:Ao:=top 72
abbrev vH:Ao:=top 73
abbrev uN:Ao:=top 74
abbrev qx:Ao:=top 76
abbrev zf:Ao:=top 80
abbrev wV:Ao:=top 81
abbrev uK:Ao:=top 82
abbrev za:Ao:=top 83
abbrev uZ:Ao:=top 85
abbrev vI:Ao:=top 86
abbrev qK:Ao:=top 87
abbrev vB:Ao:=top 88
abbrev tH:Ao:=top 89
abbrev uH:Ao:=top 90
abbrev uP:Ao:=top 91
abbrev uL:Ao:=top 92
abbrev uj:Ao:=top 94
abbrev tw:Ao:=top 95
abbrev ud:Ao:=top 96
abbrev iQ:Ao:=top 97
abbrev mf:Ao:=top 98
abbrev gh:Ao:=top 99
abbrev wt:Ao:=top 100
abbrev sU:Ao:=top 101
abbrev uM:Ao:=top 102
abbrev tE:Ao:=top 103
abbrev qj:Ao:=top 104
abbrev cH:Ao:=top 105
abbrev nQ:Ao:=yt (top 78) 0
abbrev md:Ao:=yt (top 78) 1
abbrev mi:Ao:=yt (top 78) 2
abbrev qu:Ao:=yt (top 78) 7
abbrev nX:Ao:=yt (top 78) 11
abbrev ug:Ao:=yt (top 78) 18
abbrev nT:Ao:=yt (top 78) 20
abbrev qi:Ao:=yt (top 78) 21
abbrev wj:Ao:=yt (top 78) 22
noncomputable def qv:Program:={ PySem.Challenge.pw_seamarks_k42_whole_put_right_as_from_the with main:={ PySem.Challenge.pw_seamarks_k42_whole_put_right_as_from_the.main with body:=[top 2,top 3,top 4,top 5,top 6,top 7,top 8,top 10,top 11,top 12,top 13,top 14,top 15,top 16,top 17,top 18,top 20,top 21,top 22,top 23,top 24,top 26,top 27,top 28,top 51,top 52,top 53,top 54,top 55,top 56,top 57,top 58,top 59,top 60,top 61,top 62,top 63,top 64,top 65,top 66,top 67,top 68,top 69,top 70,top 71,top 72,top 73,top 74,top 76,top 80,top 81,top 82,top 83,top 85,top 86,top 87,top 88,top 89,top 90,top 91,top 92,top 94,top 95,top 96,top 97,top 98,top 99,top 100,top 101,top 102,top 103,top 104,top 105] } }
def lse:List j9:=("_wall" : j9)::("MarkError" : j9)::("BadName" : j9)::("Taken" : j9)::("BadPlace" : j9)::("Full" : j9)::("NoMark" : j9)::("Same" : j9)::("Needed" : j9)::("BadBank" : j9)::("NoBank" : j9)::("BadRun" : j9)::("NoRun" : j9)::("NoMoment" : j9)::("BadWay" : j9)::("BadTurn" : j9)::("NoNote" : j9)::("MOST" : j9)::("LONGEST_NAME" : j9)::("FARTHEST" : j9)::("LONGEST_WAY" : j9)::("AFTER" : j9)::("Book" : j9)::[]
noncomputable def kd(P:CO)(x:j9)(t:Nat)(v:c8):BR:=⟨EG P x,.str x t,v⟩
noncomputable def kc(l:List c8):Bk:=⟨.type "code",J2,.fields (Ap l),Ap []⟩
noncomputable def kq(x:j9)(a:Nat)(l g:Int)(r:Nat)(u v w y z:c8)(h:Int)(b:Nat):Bk:=kc [.str x a,.str x (a+1),.str "/claim/cut.py" (a+2),.int l 0,.int g 0,.int 0 0,.int 0 0,.int 3 0,.ref r,.bool J3,.int 181 0,u,v,w,y,z,.int h 0,.int l 0,.str "/claim/cut.py" b]
noncomputable abbrev kf(x:j9)(s:Ao)(kV c pm d ct:c8):Bk:=⟨.type "function",J2,.func (AD x x (wO s) (xX s) (zF s) .none kV c pm J2 d ct),Ap []⟩
noncomputable abbrev kg(x:j9)(s:Ao)(m:j9)(t c:Nat):Bk:=kf x s .none .none (.str m t) (.ref c) .none
noncomputable abbrev kf2(x q:j9)(s:Ao)(kV c pm d ct:c8):Bk:=⟨.type "function",J2,.func (AD x q (wO s) (xX s) (zF s) .none kV c pm J2 d ct),Ap []⟩
noncomputable def kn(n:Nat)(o:Bk)(T:c5):c5:=(n,o)::T
noncomputable def kp(r a:Nat)(l g:Int)(h:Nat)(x:j9)(s:Ao)(m:c8)(T:c5):c5:=(r+5,kq x a l g r (.ref (r+1)) .none (.ref (r+2)) (.ref (r+3)) (.ref (r+4)) h (h+1))::(r+6,kf x s .none .none m (.ref (r+5)) .none)::T
noncomputable def km(r a:Nat)(l g:Int)(h:Nat)(x q:j9)(s:Ao)(m:c8)(T:c5):c5:=(r+5,kc [.str x a,.str q (a+1),.str "/claim/cut.py" (a+2),.int l 0,.int g 0,.int 0 0,.int 0 0,.int 3 0,.ref r,.bool J3,.int 181 0,.ref (r+1),.none,.ref (r+2),.ref (r+3),.ref (r+4),.int h 0,.int l 0,.str "/claim/cut.py" (h+1)])::(r+6,kf2 x q s .none .none m (.ref (r+5)) .none)::T
noncomputable def kx(n:Nat)(x:j9)(e a p:Nat)(T:c5):c5:=(n+1,⟨.type "type",J2,.cls ⟨x,[.ref p],[.ref (n+1),.ref p,.type "ValueError",.type "Exception",.type "BaseException",.type "object"],n,x,J3,[],[],J7,J2,J7⟩,Ap [O (.ref e),J2,O (.str x a),O (.str x (a+8)),O (.builtin "ValueError.__new__"),O (.bool J3)]⟩)::T
noncomputable def ky(P:CO)(n a:Nat)(l:Int)(m:c8)(T:c5):c5:=(n+1,⟨.type "dict",J2,.dict (Ap [kd P "__module__" a m,kd P "__firstlineno__" (a+4) (.int l (a+3)),kd P "__static_attributes__" (a+5) (.ref n),kd P "__doc__" (a+6) .none]) 2,Ap []⟩)::T
noncomputable def kNs(P:CO):Bk:=⟨.type "dict",J2,.dict (Ap (kd P "__name__" 165 (.str "law_seamarks_k42_whole_put_right_as_from_the" 1233)::kd P "__doc__" 166 .none::kd P "__package__" 167 .none::kd P "__loader__" 168 (.builtin "__main__.__loader__#opaque")::kd P "__spec__" 169 .none::kd P "__annotations__" 170 (.ref 6)::kd P "__builtins__" 171 (.ref 4)::kd P "__file__" 173 (.str "/claim/cut.py" 172)::kd P "__cached__" 174 .none::kd P "_wall" 193 (.ref 21)::kd P "common_factor" 206 (.ref 28)::kd P "lowest" 212 (.ref 33)::kd P "upright" 218 (.ref 38)::kd P "spot" 227 (.ref 45)::kd P "ahead" 236 (.ref 52)::kd P "merged" 247 (.ref 59)::kd P "in_order" 255 (.ref 66)::kd P "turn" 265 (.ref 73)::kd P "along" 273 (.ref 80)::kd P "plain_side" 280 (.ref 87)::kd P "beyond" 288 (.ref 94)::kd P "holds" 296 (.ref 101)::kd P "crossing" 307 (.ref 108)::kd P "pushed" 316 (.ref 115)::kd P "bearing_sides" 327 (.ref 122)::kd P "range_side" 335 (.ref 129)::kd P "in_water" 346 (.ref 136)::kd P "foot" 353 (.ref 143)::kd P "edge_end" 366 (.ref 150)::kd P "edge_ends" 372 (.ref 155)::kd P "corners" 382 (.ref 162)::kd P "stretch_way" 392 (.ref 169)::kd P "all_left_of" 404 (.ref 176)::kd P "is_bank" 410 (.ref 181)::kd P "MarkError" 430 (.ref 191)::kd P "BadName" 446 (.ref 204)::kd P "Taken" 462 (.ref 216)::kd P "BadPlace" 478 (.ref 228)::kd P "Full" 494 (.ref 240)::kd P "NoMark" 510 (.ref 252)::kd P "Same" 526 (.ref 264)::kd P "Needed" 542 (.ref 276)::kd P "BadBank" 558 (.ref 288)::kd P "NoBank" 574 (.ref 300)::kd P "BadRun" 590 (.ref 312)::kd P "NoRun" 606 (.ref 324)::kd P "NoMoment" 622 (.ref 336)::kd P "BadWay" 638 (.ref 348)::kd P "BadTurn" 654 (.ref 360)::kd P "NoNote" 670 (.ref 372)::kd P "MOST" 685 (.ref 375)::kd P "LONGEST_NAME" 687 (.int 8 686)::kd P "FARTHEST" 689 (.int 1000 688)::kd P "LONGEST_WAY" 691 (.int 100 690)::kd P "nothing_yet" 697 (.ref 382)::kd P "changed" 708 (.ref 389)::kd P "without" 718 (.ref 396)::kd P "within" 724 (.ref 401)::kd P "check_name" 730 (.ref 406)::kd P "check_free" 739 (.ref 413)::kd P "check_place" 746 (.ref 420)::kd P "check_run" 753 (.ref 427)::kd P "check_room" 761 (.ref 434)::kd P "check_mark" 769 (.ref 441)::kd P "check_moment" 777 (.ref 448)::kd P "check_way" 784 (.ref 455)::kd P "check_apart" 793 (.ref 462)::kd P "after_mark" 803 (.ref 469)::kd P "after_move" 814 (.ref 476)::kd P "after_unmark" 824 (.ref 483)::kd P "after_bank" 835 (.ref 490)::kd P "after_level" 844 (.ref 497)::kd P "after_sail" 853 (.ref 504)::kd P "after_right" 863 (.ref 511)::kd P "after_note" 872 (.ref 518)::kd P "after_bearing" 880 (.ref 525)::kd P "after_range" 888 (.ref 532)::kd P "after_strike" 897 (.ref 539)::kd P "AFTER" 918 (.ref 540)::kd P "after" 926 (.ref 547)::kd P "Book" 1138 (.ref 714)::kd P "doubted" 1146 (.ref 723)::kd P "places_to_try" 1159 (.ref 730)::kd P "least_doubts" 1165 (.ref 735)::kd P "choices" 1171 (.ref 740)::kd P "way_between" 1179 (.ref 745)::kd P "mark_places" 1188 (.ref 752)::kd P "sides_of" 1196 (.ref 759)::kd P "note_groups" 1202 (.ref 764)::kd P "note_sides" 1212 (.ref 771)::kd P "book_corners" 1220 (.ref 778)::kd P "note_numbers" 1226 (.ref 783)::kd P "book_choices" 1232 (.ref 788)::kd P "_law_power" 1241 (.ref 795)::kd P "_law_draws" 1253 (.ref 802)::kd P "_law_names" 1259 (.ref 807)::kd P "_law_new" 1265 (.ref 814)::kd P "_law_lead" 1271 (.ref 819)::kd P "_law_way" 1282 (.ref 826)::kd P "_law_turned" 1290 (.ref 833)::kd P "_law_left_pair" 1300 (.ref 840)::kd P "_law_true_bearing" 1319 (.ref 847)::kd P "_law_some_deeds" 1338 (.ref 854)::kd P "_law_moved" 1348 (.ref 861)::kd P "law" 1354 (.ref 866)::[])) 105,Ap []⟩
noncomputable abbrev mo1:c8:=.str "seamarks.parts" 194
noncomputable abbrev mo2:c8:=.str "seamarks.sides" 256
noncomputable abbrev mo3:c8:=.str "seamarks.water" 336
noncomputable abbrev mo4:c8:=.str "seamarks.banks" 383
noncomputable abbrev mo5:c8:=.str "seamarks.deeds" 671
noncomputable abbrev mo6:c8:=.str "seamarks.book" 927
noncomputable abbrev mo7:c8:=.str "seamarks.trust" 1139
noncomputable abbrev mo8:c8:=.str "seamarks.asks" 1172
noncomputable abbrev mo9:c8:=.str "law_seamarks_k42_whole_put_right_as_from_the" 1233
noncomputable abbrev bn:c8:=.str "seamarks.errors" 411
noncomputable def KG(P:CO):c5 :=
 kn (nat_lit 190) ⟨.type "dict",J2,.dict (Ap (kd P "__module__" 420 (.str "seamarks.errors" 411)::kd P "__firstlineno__" 424 (.int 111 423)::kd P "__static_attributes__" 425 (.ref 189)::kd P "__weakref__" 427 (.ref 192)::kd P "__doc__" 428 .none::[])) 3,Ap []⟩ <|
 ky P 202 438 113 bn <|
 ky P 214 454 115 bn <|
 ky P 226 470 117 bn <|
 ky P 238 486 119 bn <|
 ky P 250 502 121 bn <|
 ky P 262 518 123 bn <|
 ky P 274 534 125 bn <|
 ky P 286 550 127 bn <|
 ky P 298 566 129 bn <|
 ky P 310 582 131 bn <|
 ky P 322 598 133 bn <|
 ky P 334 614 135 bn <|
 ky P 346 630 137 bn <|
 ky P 358 646 139 bn <|
 ky P 370 662 141 bn <|
 kn (nat_lit 375) ⟨.type "dict",J2,.dict (Ap (kd P "marks" 673 (.int 20 674)::kd P "banks" 675 (.int 8 676)::kd P "runs" 677 (.int 12 678)::kd P "notes" 679 (.int 24 680)::[])) 4,Ap []⟩ <|
 kn (nat_lit 540) ⟨.type "dict",J2,.dict (Ap (kd P "mark" 898 (.ref 469)::kd P "move" 899 (.ref 476)::kd P "unmark" 900 (.ref 483)::kd P "bank" 901 (.ref 490)::kd P "level" 902 (.ref 497)::kd P "sail" 903 (.ref 504)::kd P "right" 904 (.ref 511)::kd P "bearing" 905 (.ref 525)::kd P "range" 906 (.ref 532)::kd P "strike" 907 (.ref 539)::[])) 10,Ap []⟩ <|
 kn (nat_lit 713) ⟨.type "dict",J2,.dict (Ap (kd P "__module__" 936 (.str "seamarks.book" 927)::kd P "__firstlineno__" 940 (.int 269 939)::kd P "__init__" 947 (.ref 561)::kd P "mark" 957 (.ref 568)::kd P "move" 967 (.ref 575)::kd P "unmark" 975 (.ref 582)::kd P "bank" 984 (.ref 589)::kd P "level" 992 (.ref 596)::kd P "sail" 1001 (.ref 603)::kd P "right" 1011 (.ref 610)::kd P "bearing" 1022 (.ref 617)::kd P "range_note" 1032 (.ref 624)::kd P "strike" 1040 (.ref 631)::kd P "deed" 1050 (.ref 638)::kd P "step" 1059 (.ref 645)::kd P "undo" 1066 (.ref 652)::kd P "redo" 1073 (.ref 659)::kd P "deeds" 1080 (.ref 666)::kd P "undone" 1087 (.ref 673)::kd P "twin" 1094 (.ref 680)::kd P "marks" 1100 (.ref 685)::kd P "banks" 1107 (.ref 692)::kd P "runs" 1113 (.ref 697)::kd P "notes" 1120 (.ref 704)::kd P "coming" 1127 (.ref 711)::kd P "__static_attributes__" 1131 (.ref 712)::kd P "__dict__" 1133 (.ref 715)::kd P "__weakref__" 1135 (.ref 716)::kd P "__doc__" 1136 .none::[])) 4,Ap []⟩ <| []
noncomputable abbrev KF(P:CO):c5:=(nat_lit 3,kNs P)::KG P
noncomputable def KC:c5 :=
 kp 22 196 5 1 204 "common_factor" wR mo1 <|
 kn (nat_lit 32) (kq "lowest" 207 14 1 29 (.ref 30) .none .none .none (.ref 31) 210 211) <|
 kn (nat_lit 33) (kg "lowest" wq "seamarks.parts" 194 32) <|
 kn (nat_lit 37) (kq "upright" 213 17 1 34 (.ref 35) .none .none .none (.ref 36) 216 217) <|
 kn (nat_lit 38) (kg "upright" zj "seamarks.parts" 194 37) <|
 kp 39 219 21 3 225 "spot" nR mo1 <|
 kp 46 228 23 2 234 "ahead" si mo1 <|
 kp 53 237 28 2 245 "merged" wk mo1 <|
 kp 60 248 37 1 253 "in_order" tY mo1 <|
 kp 67 258 43 2 263 "turn" mh mo2 <|
 kp 74 266 45 2 271 "along" tz mo2 <|
 kp 81 274 47 1 278 "plain_side" tL mo2 <|
 kp 88 281 49 2 286 "beyond" vx mo2 <|
 kp 95 289 51 2 294 "holds" sg mo2 <|
 kp 102 297 53 2 305 "crossing" qW mo2 <|
 kp 109 308 60 3 314 "pushed" wn mo2 <|
 kp 116 317 62 3 325 "bearing_sides" wS mo2 <|
 kp 123 328 66 2 333 "range_side" tK mo2 <|
 kp 130 338 69 2 344 "in_water" qV mo3 <|
 kp 137 347 74 1 351 "foot" nM mo3 <|
 kp 144 354 76 3 364 "edge_end" qS mo3 <|
 kn (nat_lit 154) (kq "edge_ends" 367 85 2 151 (.ref 152) .none .none .none (.ref 153) 370 371) <|
 kn (nat_lit 155) (kg "edge_ends" sW "seamarks.water" 336 154) <|
 kp 156 373 88 1 380 "corners" yu mo3 <|
 kp 163 385 96 2 390 "stretch_way" vF mo4 <|
 kp 170 393 98 2 402 "all_left_of" vK mo4 <|
 kn (nat_lit 180) (kq "is_bank" 405 106 1 177 (.ref 178) .none .none .none (.ref 179) 408 409) <|
 kn (nat_lit 181) (kg "is_bank" zb "seamarks.banks" 383 180) <|
 kn (nat_lit 191) (@PySem.Obj.mk (.type "type") J2 (@PySem.Data.cls (@PySem.ClassData.mk "MarkError" ((.type "ValueError")::[]) ((.ref 191)::((.type "ValueError")::((.type "Exception")::((.type "BaseException")::((.type "object")::[]))))) 190 "MarkError" J3 [] ((.ref 204)::((.ref 216)::((.ref 228)::((.ref 240)::((.ref 252)::((.ref 264)::((.ref 276)::((.ref 288)::((.ref 300)::((.ref 312)::((.ref 324)::((.ref 336)::((.ref 348)::((.ref 360)::((.ref 372)::[]))))))))))))))) J7 J2 J7)) (Ap ((O (.ref 182))::(J2::((O (.str "MarkError" 413))::((O (.str "MarkError" 421))::((O (.builtin "ValueError.__new__"))::((O (.bool J3))::[])))))))) <|
 kx 203 "BadName" 195 431 191 <|
 kx 215 "Taken" 207 447 191 <|
 kx 227 "BadPlace" 219 463 191 <|
 kx 239 "Full" 231 479 191 <|
 kx 251 "NoMark" 243 495 191 <|
 kx 263 "Same" 255 511 191 <|
 kx 275 "Needed" 267 527 191 <|
 kx 287 "BadBank" 279 543 191 <|
 kx 299 "NoBank" 291 559 191 <|
 kx 311 "BadRun" 303 575 191 <|
 kx 323 "NoRun" 315 591 191 <|
 kx 335 "NoMoment" 327 607 191 <|
 kx 347 "BadWay" 339 623 191 <|
 kx 359 "BadTurn" 351 639 191 <|
 kx 371 "NoNote" 363 655 191 <|
 kp 376 692 148 0 695 "nothing_yet" vN mo5 <|
 kp 383 698 150 4 706 "changed" ze mo5 <|
 kp 390 709 155 3 716 "without" zi mo5 <|
 kn (nat_lit 400) (kq "within" 719 160 2 397 (.ref 398) .none .none .none (.ref 399) 722 723) <|
 kn (nat_lit 401) (kg "within" wa "seamarks.deeds" 671 400) <|
 kn (nat_lit 405) (kq "check_name" 725 162 1 402 (.ref 403) .none .none .none (.ref 404) 728 729) <|
 kn (nat_lit 406) (kg "check_name" tT "seamarks.deeds" 671 405) <|
 kp 407 731 165 3 737 "check_free" tN mo5 <|
 kp 414 740 168 1 744 "check_place" vO mo5 <|
 kp 421 747 171 1 751 "check_run" sZ mo5 <|
 kp 428 754 174 2 759 "check_room" tQ mo5 <|
 kp 435 762 177 2 767 "check_mark" tR mo5 <|
 kp 442 770 180 2 775 "check_moment" uF mo5 <|
 kp 449 778 183 1 782 "check_way" sX mo5 <|
 kp 456 785 186 3 791 "check_apart" vG mo5 <|
 kp 463 794 189 2 801 "after_mark" tF mo5 <|
 kp 470 804 197 2 812 "after_move" tM mo5 <|
 kp 477 815 206 2 822 "after_unmark" uI mo5 <|
 kp 484 825 213 2 833 "after_bank" tJ mo5 <|
 kp 491 836 224 2 842 "after_level" vD mo5 <|
 kp 498 845 229 2 851 "after_sail" tO mo5 <|
 kp 505 854 234 2 861 "after_right" vQ mo5 <|
 kp 512 864 241 2 870 "after_note" tI mo5 <|
 kp 519 873 246 2 878 "after_bearing" wW mo5 <|
 kp 526 881 254 2 886 "after_range" vH mo5 <|
 kp 533 889 260 2 895 "after_strike" uN mo5 <|
 kp 541 919 266 2 924 "after" qx mo5 <|
 km 555 941 271 1 945 "__init__" "Book.__init__" nQ mo6 <|
 km 562 948 276 4 955 "mark" "Book.mark" md mo6 <|
 km 569 958 279 4 965 "move" "Book.move" mi mo6 <|
 km 604 1002 294 4 1009 "right" "Book.right" qu mo6 <|
 km 632 1041 306 2 1048 "deed" "Book.deed" nX mo6 <|
 kn (nat_lit 684) (kc ((.str "marks" 1095)::((.str "Book.marks" 1096)::((.str "/claim/cut.py" 1097)::((.int 332 0)::((.int 1 0)::((.int 0 0)::((.int 0 0)::((.int 3 0)::((.ref 681)::((.bool J3)::((.int 181 0)::((.ref 682)::(.none::(.none::(.none::((.ref 683)::((.int 1098 0)::((.int 332 0)::((.str "/claim/cut.py" 1099)::[])))))))))))))))))))) <|
 kn (nat_lit 685) (kf2 "marks" "Book.marks" ug .none .none (.str "seamarks.book" 927) (.ref 684) .none) <|
 kn (nat_lit 696) (kc ((.str "runs" 1108)::((.str "Book.runs" 1109)::((.str "/claim/cut.py" 1110)::((.int 339 0)::((.int 1 0)::((.int 0 0)::((.int 0 0)::((.int 3 0)::((.ref 693)::((.bool J3)::((.int 181 0)::((.ref 694)::(.none::(.none::(.none::((.ref 695)::((.int 1111 0)::((.int 339 0)::((.str "/claim/cut.py" 1112)::[])))))))))))))))))))) <|
 kn (nat_lit 697) (kf2 "runs" "Book.runs" nT .none .none (.str "seamarks.book" 927) (.ref 696) .none) <|
 km 698 1114 343 1 1118 "notes" "Book.notes" qi mo6 <|
 km 705 1121 346 1 1125 "coming" "Book.coming" wj mo6 <|
 kn (nat_lit 714) (@PySem.Obj.mk (.type "type") J2 (@PySem.Data.cls (@PySem.ClassData.mk "Book" ((.type "object")::[]) ((.ref 714)::((.type "object")::[])) 713 "Book" J3 [] [] J7 J2 J7)) (Ap (J2::(J2::((O (.str "Book" 929))::((O (.str "Book" 937))::((O (.builtin "object.__new__"))::((O (.bool J3))::[])))))))) <|
 kn (nat_lit 722) (kq "doubted" 1141 349 2 719 (.ref 720) .none .none .none (.ref 721) 1144 1145) <|
 kn (nat_lit 723) (kg "doubted" zf "seamarks.trust" 1139 722) <|
 kp 724 1147 351 1 1157 "places_to_try" wV mo7 <|
 kn (nat_lit 734) (kq "least_doubts" 1160 363 1 731 (.ref 732) .none .none .none (.ref 733) 1163 1164) <|
 kn (nat_lit 735) (kg "least_doubts" uK "seamarks.trust" 1139 734) <|
 kn (nat_lit 739) (kq "choices" 1166 373 1 736 (.ref 737) .none .none .none (.ref 738) 1169 1170) <|
 kn (nat_lit 740) (kg "choices" za "seamarks.trust" 1139 739) <|
 kn (nat_lit 744) (kq "way_between" 1174 376 3 741 (.ref 742) .none .none .none (.ref 743) 1177 1178) <|
 kn (nat_lit 745) (kg "way_between" uZ "seamarks.asks" 1172 744) <|
 kp 746 1180 383 1 1186 "mark_places" vI mo8 <|
 kp 753 1189 388 2 1194 "sides_of" qK mo8 <|
 kn (nat_lit 763) (kq "note_groups" 1197 392 2 760 (.ref 761) .none .none .none (.ref 762) 1200 1201) <|
 kn (nat_lit 764) (kg "note_groups" vB "seamarks.asks" 1172 763) <|
 kp 765 1203 401 2 1210 "note_sides" tH mo8 <|
 kp 772 1213 406 2 1218 "book_corners" uH mo8 <|
 kn (nat_lit 782) (kq "note_numbers" 1221 408 1 779 (.ref 780) .none .none .none (.ref 781) 1224 1225) <|
 kn (nat_lit 783) (kg "note_numbers" uP "seamarks.asks" 1172 782) <|
 kn (nat_lit 787) (kq "book_choices" 1227 410 1 784 (.ref 785) .none .none .none (.ref 786) 1230 1231) <|
 kn (nat_lit 788) (kg "book_choices" uL "seamarks.asks" 1172 787) <|
 kp 789 1235 414 1 1239 "_law_power" uj mo9 <|
 kp 796 1242 416 2 1251 "_law_draws" tw mo9 <|
 kn (nat_lit 806) (kq "_law_names" 1254 432 2 803 (.ref 804) .none .none .none (.ref 805) 1257 1258) <|
 kn (nat_lit 807) (kg "_law_names" ud "law_seamarks_k42_whole_put_right_as_from_the" 1233 806) <|
 kp 808 1260 447 0 1263 "_law_new" iQ mo9 <|
 kn (nat_lit 818) (kq "_law_lead" 1266 449 3 815 (.ref 816) .none .none .none (.ref 817) 1269 1270) <|
 kn (nat_lit 819) (kg "_law_lead" mf "law_seamarks_k42_whole_put_right_as_from_the" 1233 818) <|
 kp 820 1272 453 3 1280 "_law_way" gh mo9 <|
 kp 827 1283 459 2 1288 "_law_turned" wt mo9 <|
 kp 834 1291 461 2 1298 "_law_left_pair" sU mo9 <|
 kp 841 1301 471 6 1317 "_law_true_bearing" uM mo9 <|
 kp 848 1320 480 2 1336 "_law_some_deeds" tE mo9 <|
 kp 855 1339 500 4 1346 "_law_moved" qj mo9 <|
 kn (nat_lit 865) (kq "law" 1349 506 1 862 (.ref 863) .none .none .none (.ref 864) 1352 1353) <|
 kn (nat_lit 866) (kg "law" cH "law_seamarks_k42_whole_put_right_as_from_the" 1233 865) <| []
noncomputable def KK(P:CO):c5:=(nat_lit 3,kNs P)::(KG P++KC)
noncomputable def K:c5:=Hv (⟨KC,rfl⟩:∃ k,k=KC)
def Vs:K=KC:=Gj (⟨KC,rfl⟩:∃ k,k=KC)
noncomputable def kas:List Nat:=nat_lit 3::nat_lit 190::nat_lit 203::nat_lit 215::nat_lit 227::nat_lit 239::nat_lit 251::nat_lit 263::nat_lit 275::nat_lit 287::nat_lit 299::nat_lit 311::nat_lit 323::nat_lit 335::nat_lit 347::nat_lit 359::nat_lit 371::nat_lit 375::nat_lit 540::nat_lit 713::KC.map (·.1)
def kas_ok:∀ P:CO,kas=(KK P).map (·.1):=λ_=>by kernel_rfl
def Pu{a b:Bool}(h:a=J3)(k:b=J3):(a&&b)=true:=by rw[h,k]; rfl
set_option maxHeartbeats 0 in
open PySem.W in
def said_ok:PySem.Challenge.rw_seamarks_k42_whole_put_right_as_from_the.wellSaid=true:=by
 unfold OpenLaw.wellSaid
 repeat' first | with_reducible apply Pu | unfold OpenRow.wellSaid | unfold OpenRow.partSaid | unfold looksOpen
 all_goals decide +kernel
open PySem.W in
noncomputable abbrev lkM:=Fast.tw5923862056798008813 (Fast.tw2368527892694137696 PySem.Challenge.rw_seamarks_k42_whole_put_right_as_from_the).prog.main.body
open PySem.W in
noncomputable abbrev lkT(w:World)(os:OsState):=Oj Fast.tw14364793385576792824 (Fast.tw2368527892694137696 PySem.Challenge.rw_seamarks_k42_whole_put_right_as_from_the).prog 90000 w os
open PySem.W in
noncomputable abbrev lkS(s:SharedT):=Fast.tw4187177175401517315 qv lse lkM (λs=>xlAt qv [] s&&recOk (Fast.tw2368527892694137696 PySem.Challenge.rw_seamarks_k42_whole_put_right_as_from_the).records s) J3 s.abs
set_option maxHeartbeats 0 in
open PySem.W in
def Sj(u:World)(os:OsState):(lkT (u.withFollow "special-get-raises" J3) os).map (λs=>(staticsOk lkM (boot_heap (u.withFollow "special-get-raises" J3).params) s.abs.heap&&namesBound (Fast.tw2368527892694137696 PySem.Challenge.rw_seamarks_k42_whole_put_right_as_from_the).prog s.abs.heap&&gensDone s.abs&&laidKept (boot_heap (u.withFollow "special-get-raises" J3).params) s.abs.heap))=O true:=by kernel_rfl
set_option maxHeartbeats 0 in
open PySem.W in
def Rk(u:World)(os:OsState):(lkT (u.withFollow "special-get-raises" J7) os).map (λs=>(staticsOk lkM (boot_heap (u.withFollow "special-get-raises" J7).params) s.abs.heap&&namesBound (Fast.tw2368527892694137696 PySem.Challenge.rw_seamarks_k42_whole_put_right_as_from_the).prog s.abs.heap&&gensDone s.abs&&laidKept (boot_heap (u.withFollow "special-get-raises" J7).params) s.abs.heap))=O true:=by kernel_rfl
set_option maxHeartbeats 0 in
open PySem.W in
def QT(w:World)(os:OsState):(lkT w os).map (λs=>(staticsOk lkM (boot_heap w.params) s.abs.heap&&namesBound (Fast.tw2368527892694137696 PySem.Challenge.rw_seamarks_k42_whole_put_right_as_from_the).prog s.abs.heap&&gensDone s.abs&&laidKept (boot_heap w.params) s.abs.heap))=O true:=by
 have h:∀(b:Bool)(u:World),(λw:World=>(lkT w os).map (λs=>(staticsOk lkM (boot_heap w.params) s.abs.heap&&namesBound (Fast.tw2368527892694137696 PySem.Challenge.rw_seamarks_k42_whole_put_right_as_from_the).prog s.abs.heap&&gensDone s.abs&&laidKept (boot_heap w.params) s.abs.heap))=O J3) (u.withFollow "special-get-raises" b):=λb u=>by cases b; rwa[Rk u os]; rwa[Sj u os]
 have:=h (w.params.followText "special-get-raises") w;(rw[BH] at this;assumption)
set_option maxHeartbeats 0 in
open PySem.W in
def Sb(u:t7)(os:CP):(lkT (u.withFollow "special-get-raises" J3) os).map (λs=>(lkS s).1)=O (CA qv):=by kernel_rfl
set_option maxHeartbeats 0 in
open PySem.W in
def SK(u:t7)(os:CP):(lkT (u.withFollow "special-get-raises" J7) os).map (λs=>(lkS s).1)=O (CA qv):=by kernel_rfl
set_option maxHeartbeats 0 in
open PySem.W in
def PQ(w:t7)(os:CP):(lkT w os).map (λs=>(lkS s).1)=O (CA qv):=by
 have h:∀(b:Bool)(u:t7),(λw:t7=>(lkT w os).map (λs=>(lkS s).1)=O (CA qv)) (u.withFollow "special-get-raises" b):=λb u=>by cases b; rwa[SK u os]; rwa[Sb u os]
 have:=h (w.params.followText "special-get-raises") w;(rw[BH] at this;assumption)
set_option maxHeartbeats 0 in
open PySem.W in
def Qz(u:t7)(os:CP):(lkT (u.withFollow "special-get-raises" J3) os).map (λs=>(lkS s).2.1)=O bltViewBooted:=by kernel_rfl
set_option maxHeartbeats 0 in
open PySem.W in
def Se(u:t7)(os:CP):(lkT (u.withFollow "special-get-raises" J7) os).map (λs=>(lkS s).2.1)=O bltViewBooted:=by kernel_rfl
set_option maxHeartbeats 0 in
open PySem.W in
def Qc(w:t7)(os:CP):(lkT w os).map (λs=>(lkS s).2.1)=O bltViewBooted:=by
 have h:∀(b:Bool)(u:t7),(λw:t7=>(lkT w os).map (λs=>(lkS s).2.1)=O bltViewBooted) (u.withFollow "special-get-raises" b):=λb u=>by cases b; rwa[Se u os]; rwa[Qz u os]
 have:=h (w.params.followText "special-get-raises") w;(rw[BH] at this;assumption)
set_option maxHeartbeats 0 in
open PySem.W in
def RQ(u:t7)(os:CP):(lkT (u.withFollow "special-get-raises" J3) os).map (λs=>(lkS s).2.2.1)=O true:=by kernel_rfl
set_option maxHeartbeats 0 in
open PySem.W in
def SZ(u:t7)(os:CP):(lkT (u.withFollow "special-get-raises" J7) os).map (λs=>(lkS s).2.2.1)=O true:=by kernel_rfl
set_option maxHeartbeats 0 in
open PySem.W in
def PX(w:t7)(os:CP):(lkT w os).map (λs=>(lkS s).2.2.1)=O true:=by
 have h:∀(b:Bool)(u:t7),(λw:t7=>(lkT w os).map (λs=>(lkS s).2.2.1)=O J3) (u.withFollow "special-get-raises" b):=λb u=>by cases b; rwa[SZ u os]; rwa[RQ u os]
 have:=h (w.params.followText "special-get-raises") w;(rw[BH] at this;assumption)
set_option maxHeartbeats 0 in
open PySem.W in
def Rr(u:t7)(os:CP):(lkT (u.withFollow "special-get-raises" J3) os).map (λs=>(lkS s).2.2.2)=O (J3,pinGoodD (Db qv),CD qv (looseW qv lse),CF qv lse,wideGood qv,clsGoodW qv lse):=by kernel_rfl
set_option maxHeartbeats 0 in
open PySem.W in
def RC(u:t7)(os:CP):(lkT (u.withFollow "special-get-raises" J7) os).map (λs=>(lkS s).2.2.2)=O (J3,pinGoodD (Db qv),CD qv (looseW qv lse),CF qv lse,wideGood qv,clsGoodW qv lse):=by kernel_rfl
set_option maxHeartbeats 0 in
open PySem.W in
def QI(w:t7)(os:CP):(lkT w os).map (λs=>(lkS s).2.2.2)=O (J3,pinGoodD (Db qv),CD qv (looseW qv lse),CF qv lse,wideGood qv,clsGoodW qv lse):=by
 have h:∀(b:Bool)(u:t7),(λw:t7=>(lkT w os).map (λs=>(lkS s).2.2.2)=O (J3,pinGoodD (Db qv),CD qv (looseW qv lse),CF qv lse,wideGood qv,clsGoodW qv lse)) (u.withFollow "special-get-raises" b):=λb u=>by cases b; rwa[RC u os]; rwa[Rr u os]
 have:=h (w.params.followText "special-get-raises") w;(rw[BH] at this;assumption)
set_option maxHeartbeats 0 in
open PySem.W in
def RS(u:t7)(os:CP):(lkT (u.withFollow "special-get-raises" J3) os).map (λs=>kas.map s.abs.heap.get?)=O ((KK (u.withFollow "special-get-raises" J3).params).map λp=>O p.2):=by kernel_rfl
set_option maxHeartbeats 0 in
open PySem.W in
def SQ(u:t7)(os:CP):(lkT (u.withFollow "special-get-raises" J7) os).map (λs=>kas.map s.abs.heap.get?)=O ((KK (u.withFollow "special-get-raises" J7).params).map λp=>O p.2):=by kernel_rfl
set_option maxHeartbeats 0 in
open PySem.W in
def Qk(w:t7)(os:CP):(lkT w os).map (λs=>kas.map s.abs.heap.get?)=O ((KK w.params).map λp=>O p.2):=by
 have h:∀(b:Bool)(u:t7),(λw:t7=>(lkT w os).map (λs=>kas.map s.abs.heap.get?)=O ((KK w.params).map λp=>O p.2)) (u.withFollow "special-get-raises" b):=λb u=>by cases b; rwa[SQ u os]; rwa[RS u os]
 have:=h (w.params.followText "special-get-raises") w;(rw[BH] at this;assumption)
set_option maxHeartbeats 0 in
open PySem.W in
def left_ok:LeftO PySem.Challenge.rw_seamarks_k42_whole_put_right_as_from_the.row.prog qv lse (λs=>xlAt qv [] s&&recOk (RowW.records (OpenRow.toRowW PySem.Challenge.rw_seamarks_k42_whole_put_right_as_from_the.row)) s)
  (λs=>kas.map s.heap.get?) (λw=>(KK w.params).map λp=>O p.2) 90000:=by
 erw[XV (boot_open (by kernel_rfl) 'a' (λs=>by kernel_rfl)) ?a ?b ?c]
 case a =>
  rw[EH,Dd,C5];rwa[QT]
 case b =>
  rw[Fast.te4187177175401517315,EH,Dd,C5];rwa[λw os=>hV (f:=lkS) (PQ w os) (hV (f:=λs=>(lkS s).2) (Qc w os) (hV (f:=λs=>(lkS s).2.2) (PX w os) (QI w os)))]
 case c =>
  rw[Dd,C5];rwa[Qk]
end Sea
-- BASE
open PySem PySem.Spec L2
open PyProof.Rows hiding St
local macro_rules | `(tactic| symm) => `(tactic| kernel_rfl)
local macro_rules | `(tactic| ac_nf) => `(tactic| decide +kernel)
def y4{c:Prop}{d:Decidable c}(h:¬c){e:Sort _}{a b:e}:ite c a b=b:=if_neg h
def y6{c:Prop}{d:Decidable c}(h:c){e:Sort _}{a b:e}:ite c a b=a:=if_pos h
def y7{p:Prop}[Decidable p](h:p):decide p=true:=decide_eq_true h
def y8{p:Prop}[Decidable p](h:¬p):decide p=false:=decide_eq_false h
def y9{a b:Prop}(h:a)(n:¬a):b:=absurd h n
def x4{c:Type _}[BEq c][LawfulBEq c]{a b:c}:(a==b)=J7↔a≠b:=beq_eq_false_iff_ne
namespace L2
inductive E2{α0 α1:Type}(P:α0->α1->Prop):Prop where
 | mk (a0:α0) (a1:α1) (h:P a0 a1):E2 P
inductive E3{α0 α1 α2:Type}(P:α0->α1->α2->Prop):Prop where
 | mk (a0:α0) (a1:α1) (a2:α2) (h:P a0 a1 a2):E3 P
inductive E4{α0 α1 α2 α3:Type}(P:α0->α1->α2->α3->Prop):Prop where
 | mk (a0:α0) (a1:α1) (a2:α2) (a3:α3) (h:P a0 a1 a2 a3):E4 P
inductive E5{α0 α1 α2 α3 α4:Type}(P:α0->α1->α2->α3->α4->Prop):Prop where
 | mk (a0:α0) (a1:α1) (a2:α2) (a3:α3) (a4:α4) (h:P a0 a1 a2 a3 a4):E5 P
inductive E6{α0 α1 α2 α3 α4 α5:Type}(P:α0->α1->α2->α3->α4->α5->Prop):Prop where
 | mk (a0:α0) (a1:α1) (a2:α2) (a3:α3) (a4:α4) (a5:α5) (h:P a0 a1 a2 a3 a4 a5):E6 P
inductive E7{α0 α1 α2 α3 α4 α5 α6:Type}(P:α0->α1->α2->α3->α4->α5->α6->Prop):Prop where
 | mk (a0:α0) (a1:α1) (a2:α2) (a3:α3) (a4:α4) (a5:α5) (a6:α6) (h:P a0 a1 a2 a3 a4 a5 a6):E7 P
inductive E8{α0 α1 α2 α3 α4 α5 α6 α7:Type}(P:α0->α1->α2->α3->α4->α5->α6->α7->Prop):Prop where
 | mk (a0:α0) (a1:α1) (a2:α2) (a3:α3) (a4:α4) (a5:α5) (a6:α6) (a7:α7) (h:P a0 a1 a2 a3 a4 a5 a6 a7):E8 P
inductive E9{α0 α1 α2 α3 α4 α5 α6 α7 α8:Type}(P:α0->α1->α2->α3->α4->α5->α6->α7->α8->Prop):Prop where
 | mk (a0:α0) (a1:α1) (a2:α2) (a3:α3) (a4:α4) (a5:α5) (a6:α6) (a7:α7) (a8:α8) (h:P a0 a1 a2 a3 a4 a5 a6 a7 a8):E9 P
inductive E10{α0 α1 α2 α3 α4 α5 α6 α7 α8 α9:Type}(P:α0->α1->α2->α3->α4->α5->α6->α7->α8->α9->Prop):Prop where
 | mk (a0:α0) (a1:α1) (a2:α2) (a3:α3) (a4:α4) (a5:α5) (a6:α6) (a7:α7) (a8:α8) (a9:α9) (h:P a0 a1 a2 a3 a4 a5 a6 a7 a8 a9):E10 P
structure A3(p0 p1 p2:Prop):Prop where
 mk ::
 h0:p0
 h1:p1
 h2:p2
structure A4(p0 p1 p2 p3:Prop):Prop where
 mk ::
 h0:p0
 h1:p1
 h2:p2
 h3:p3
structure A5(p0 p1 p2 p3 p4:Prop):Prop where
 mk ::
 h0:p0
 h1:p1
 h2:p2
 h3:p3
 h4:p4
structure A6(p0 p1 p2 p3 p4 p5:Prop):Prop where
 mk ::
 h0:p0
 h1:p1
 h2:p2
 h3:p3
 h4:p4
 h5:p5
structure A7(p0 p1 p2 p3 p4 p5 p6:Prop):Prop where
 mk ::
 h0:p0
 h1:p1
 h2:p2
 h3:p3
 h4:p4
 h5:p5
 h6:p6
structure A8(p0 p1 p2 p3 p4 p5 p6 p7:Prop):Prop where
 mk ::
 h0:p0
 h1:p1
 h2:p2
 h3:p3
 h4:p4
 h5:p5
 h6:p6
 h7:p7
structure A9(p0 p1 p2 p3 p4 p5 p6 p7 p8:Prop):Prop where
 mk ::
 h0:p0
 h1:p1
 h2:p2
 h3:p3
 h4:p4
 h5:p5
 h6:p6
 h7:p7
 h8:p8
structure A10(p0 p1 p2 p3 p4 p5 p6 p7 p8 p9:Prop):Prop where
 mk ::
 h0:p0
 h1:p1
 h2:p2
 h3:p3
 h4:p4
 h5:p5
 h6:p6
 h7:p7
 h8:p8
 h9:p9
structure A11(p0 p1 p2 p3 p4 p5 p6 p7 p8 p9 p10:Prop):Prop where
 mk ::
 h0:p0
 h1:p1
 h2:p2
 h3:p3
 h4:p4
 h5:p5
 h6:p6
 h7:p7
 h8:p8
 h9:p9
 h10:p10
structure A12(p0 p1 p2 p3 p4 p5 p6 p7 p8 p9 p10 p11:Prop):Prop where
 mk ::
 h0:p0
 h1:p1
 h2:p2
 h3:p3
 h4:p4
 h5:p5
 h6:p6
 h7:p7
 h8:p8
 h9:p9
 h10:p10
 h11:p11
structure A13(p0 p1 p2 p3 p4 p5 p6 p7 p8 p9 p10 p11 p12:Prop):Prop where
 mk ::
 h0:p0
 h1:p1
 h2:p2
 h3:p3
 h4:p4
 h5:p5
 h6:p6
 h7:p7
 h8:p8
 h9:p9
 h10:p10
 h11:p11
 h12:p12

abbrev Key:=Sum Int j9
def bJ:Key->c8->Bool
 | .inl k,v=>JG k v
 | .inr x,v=>IS x v
def keyH(w:t7):Key->Int
 | .inl k=>hashInt k
 | .inr x=>hashStr w x
def yT:∀{k:Key}{v:c8},bJ k v=J3->(∃ i t,k=Cp i/\v=Dj i t)\/(∃ x t,k=Cq x/\v=CG x t)
 | .inl i,v,h=>by
  obtain⟨t,e⟩:=Value.isInt_shape (k:=i) (v:=v) h;rwa[.inl ⟨i,t,rfl,e⟩]
 | .inr x,v,h=>by
  obtain⟨t,e⟩:=Value.isStrOf_shape (x:=x) (v:=v) h;rwa[.inr ⟨x,t,rfl,e⟩]
def WY(i:Int)(t:JD):bJ (.inl i) (.int i t)=true:=by simp[bJ,JG]
def Wj(x:j9)(t:JD):bJ (.inr x) (.str x t)=true:=by simp[bJ,IS]
def QW(a b:Int):decide ((Cp a:Key)=Cp b)=(a == b):=by
 by_cases e:a=b
 ·subst e; simp
 ·have h:¬ (Cp a:Key)=Cp b:=λq=>e (Sum.inl.inj q);rw[y8 h];exact(x4.mpr e).symm
def QP(a b:j9):decide ((Cq a:Key)=Cq b)=decide (a=b):=by
 by_cases e:a=b
 ·subst e; simp
 ·have h:¬ (Cq a:Key)=Cq b:=λq=>e (HR q);rw[y8 h,y8 e]
def PF(a:Int)(b:j9):decide ((Cp a:Key)=Cq b)=false:=y8 (λq=>nomatch q)
def QM(a:j9)(b:Int):decide ((Cq a:Key)=Cp b)=false:=y8 (λq=>nomatch q)

def yQ(prog:o0)(w:t7):PySem.KeyKind prog w Key where
 is:=bJ
 hash:=keyH w
 inj:=λv a b g d=>by
  rcases yT g with ⟨i,t,rfl,rfl⟩ | ⟨x,t,rfl,rfl⟩
  ·rcases yT d with ⟨j,u,rfl,e⟩ | ⟨y,u,rfl,e⟩
   ·injection e with e1 _; rw[e1]
   ·exact nomatch e
  ·rcases yT d with ⟨j,u,rfl,e⟩ | ⟨y,u,rfl,e⟩
   ·exact nomatch e
   ·injection e with e1 _; rw[e1]
 byValue:=λk v h=>by
  rcases yT h with ⟨i,t,rfl,rfl⟩ | ⟨x,t,rfl,rfl⟩ <;> rfl
 pyHash:=λc h=>by
  rcases yT c with ⟨i,t,rfl,rfl⟩ | ⟨x,t,rfl,rfl⟩
  ·rwa[wpAny_pyHash_int h]
  ·rwa[wpAny_pyHash_str h]
 eqBool:=λf c h=>by
  rcases yT f with ⟨i,t,rfl,rfl⟩ | ⟨x,t,rfl,rfl⟩
  ·rcases yT c with ⟨j,u,rfl,rfl⟩ | ⟨y,u,rfl,rfl⟩
   ·rw[QW] at h; rwa[FJ h]
   ·rw[PF] at h; rwa[GU i t y u _ _ _ _ h]
  ·rcases yT c with ⟨j,u,rfl,rfl⟩ | ⟨y,u,rfl,rfl⟩
   ·rw[QM] at h; rwa[GV x t j u _ _ _ _ h]
   ·rw[QP] at h; rwa[wpAny_eqBool_str h]
 «strs»:=λk x t v h=>by
  rcases yT h with ⟨i,u,rfl,e⟩ | ⟨y,u,rfl,e⟩
  ·exact nomatch e
  ·injection e with e1 _
   subst e1;cases v <;> rfl

def cM(prog:o0)(w:t7)(i:Int)(t:JD):(yQ prog w).is (.inl i) (.int i t)=true:=WY i t
def uw(prog:o0)(w:t7)(x:j9)(t:JD):(yQ prog w).is (.inr x) (.str x t)=true:=Wj x t
end L2

namespace L2

inductive V where
 | non | bl (b:Bool) | int (i:Int) | str (x:j9) | byt (b:Array UInt8) | flt (b:UInt64) | ref (a:c7) | ty (n:String)
 deriving DecidableEq

def xV:V->c8->Prop
 | .non,u=>u=Bo
 | .bl b,u=>u=FY b
 | .int i,u=>∃ t,u=Dj i t
 | .str x,u=>∃ t,u=CG x t
 | .byt b,u=>∃ t,u=HS b t
 | .flt b,u=>∃ t,u=HU b t
 | .ref a,u=>u=o9 a
 | .ty n,u=>u=Ip n

abbrev yY:List V->List c8->Prop:=Hw xV
def yY.length(r:yY xs c):xs.length=c.length:=Fy r
def yY.get:∀{xs:List V}{c:List c8}{i:Nat}{x:V},yY xs c->xs[i]?=O x->∃ u,c[i]?=O u/\xV x u
 | _,_,_,_,.nil,e=>by simp at e
 | _,_,0,_,.cons r _,e=>by simp at e; subst e; rwa[_,rfl,r]
 | _,_,i+1,x,.cons _ t,e=>by
  obtain⟨u,h1,h2⟩:=yY.get (i:=i) (x:=x) t (by simpa using e);exact⟨u,by simpa using h1,h2⟩
def yY.set(r:xV x u):∀{xs:List V}{c:List c8}(i:Nat),yY xs c->yY (xs.set i x) (c.set i u)
 | _,_,_,.nil=>.nil
 | _,_,0,.cons _ t=>.cons r t
 | _,_,i+1,.cons q t=>.cons q (yY.set r i t)
def yY.append:∀{xs c:List V}{e d:List c8},yY xs e->yY c d->yY (xs++c) (e++d)
 | _,_,_,_,.nil,s=>s
 | _,_,_,_,.cons r t,s=>.cons r (yY.append t s)
def yY.take:∀{xs:List V}{c:List c8}(n:Nat),yY xs c->yY (xs.take n) (c.take n)
 | _,_,0,_=>.nil
 | _,_,_+1,.nil=>.nil
 | _,_,n+1,.cons r t=>.cons r (yY.take n t)
def yY.drop:∀{xs:List V}{c:List c8}(n:Nat),yY xs c->yY (xs.drop n) (c.drop n)
 | _,_,0,r=>r
 | _,_,_+1,.nil=>.nil
 | _,_,n+1,.cons _ t=>yY.drop n t
def gO:Option V->Option c8->Prop
 | some v,O u=>xV v u
 | none,J2=>True
 | _,_=>False
def KV{c:Type} : List (c×V)->List (c×c8)->Prop:=Hw λ(p:c×V) (q:c×c8)=>p.1=q.1/\xV p.2 q.2

def kV:Key->V
 | .inl i=>.int i
 | .inr x=>.str x

inductive HO where
 | lst (xs:List V)
 | tup (xs:List V)
 | dK (kvs:List (Key×V)) | dT (kvs:List (List Key×V))
 | set (S:Int->Bool) (n:Nat)
 | ins (C dx:c7) (fs:List (j9×V))
 | own (x:c7)
 | xd (fs:List (j9×V))
 | met (f x:c7)
 | rng (lo hi:Int)
 | frz (o:Bk) (u:HO)
 | tbl (ps:Array c8)
 | ext (φ:Aa->Prop)

abbrev Hp:=c7->Option HO
def upd(H:Hp)(a:c7)(o:HO):Hp:=λb=>if b=a then O o else H b
def zA{H:Hp}{a:c7}{o:HO} : upd H a o a=O o:=by unfold upd; rw[y6 rfl]
def zG{H:Hp}{a b:c7}{o:HO}(h:b≠a):upd H a o b=H b:=by unfold upd; rw[y4 h]
def ux{H:Hp} : upd (upd H a o) a u=upd H a u:=by
 funext b; unfold upd; split <;> rfl
def vq{H:Hp}(h:H a=O o)(c:H b=O u)(d:o≠u):a≠b:=by
 intro e; subst e; rw[h] at c; rwa[d (t6 c)]
def zI{H:Hp}(h:H a=O o)(c:H b=J2):a≠b:=by
 intro e; subst e; rw[h] at c; cases c

section
variable(P:o0)(w:t7)
def wD(H:Hp)(h:Aa)(a:c7):HO->Prop
 | .lst xs=>xs.length<=sizeLine/\∃(d:List c8)(n:Nat),yY xs d/\h.get? a=O { cls:=.type "list",data:=.seq d.toArray n }
 | .tup xs=>xs.length<=sizeLine/\∃ d:List c8,yY xs d/\Jl h a d.toArray
 | .dK c=>c.length<=sizeLine/\(a == sysModules)=J7/\∃ j,KV c j/\h.DictOf (yQ P w) a j
 | .dT c=>c.length<=sizeLine/\(a == sysModules)=J7/\∃ xs:List (List Key×c7×c8),
   Hw (λ(p:List Key×V) (q:List Key×c7×c8)=>p.1=q.1/\H q.2.1=O (.tup (p.1.map kV))/\xV p.2 q.2.2) c xs /\
   ∃ o l r,h.get? a=O o/\o.ExactDict/\o.data=.dict l r/\l.toList=xs.map (entryOfKey (tupleKind (yQ P w)))/\(xs.map (·.1)).Nodup
 | .set S n=>h.SetOf (intKind P w) a S n
 | .ins C g fs=>H g=O (.own a)/\fs.length<=1000/\g≠a/\h.get? a=O (BV C g) /\
   ∃ e,h.Ns1 g e/\(∀ f,gO (fs.lookup f) (e f))/\G7 e (fs.map (·.1))
 | .own _=>∃ o,h.get? a=O o
 | .xd fs=>∃ e,h.Ns1 a e/\∀ f,gO (fs.lookup f) (e f)
 | .rng lo hi=>∃ t u v,h.get? a=O { cls:=.type "range",data:=.fields #[.int lo t,.int hi u,.int 1 v] }
 | .frz o u=>h.get? a=O o/\wD H h a u
 | .tbl m=>h.get? a=O { cls:=.none,data:=.fields m }
 | .met f x=>h.get? a=O (Fi (.ref f) (.ref x))
 | .ext i=>i h/\(∃ o,h.get? a=O o)/\∀ h1 h2:Aa,i h1->(∀ o,h1.get? a=O o->h2.get? a=O o)->i h2
def HOk(H:Hp)(h:Aa):Prop:=∀ a o,H a=O o->wD P w H h a o
end

section
variable{P:o0}{w:t7}{H H':Hp}{h h':Aa}{a:c7}{o:HO}
def wD.lt(x:wD P w H h a o):a<h.objs.size:=by
 cases o with
 | lst xs=>obtain⟨_,_,_,_,e⟩:=x; rwa[m7 e]
 | tup xs=>obtain⟨_,_,_,p⟩:=x; rwa[p.lt]
 | dK c=>obtain⟨_,_,_,_,o,_,_,e,_⟩:=x; rwa[m7 e]
 | dT c=>obtain⟨_,_,_,_,o,_,_,e,_⟩:=x; rwa[m7 e]
 | set S n=>obtain⟨o,_,_,_,e,_⟩:=x; rwa[m7 e]
 | ins C i fs=>obtain⟨_,_,_,e,_⟩:=x; rwa[m7 e]
 | own y=>obtain⟨_,e⟩:=x; rwa[m7 e]
 | xd fs=>obtain⟨_,⟨_,_,_,e,_⟩,_⟩:=x; rwa[m7 e]
 | rng lo hi=>obtain⟨_,_,_,e⟩:=x; rwa[m7 e]
 | frz ob u=>obtain⟨e,_⟩:=x; rwa[m7 e]
 | tbl g=>exact m7 (show h.get? a=O _ from x)
 | met f y=>exact m7 (show h.get? a=O _ from x)
 | ext d=>obtain⟨_,⟨_,e⟩,_⟩:=x; rwa[m7 e]
def Paired.mapP{g e:Type}{F G:g->e->Prop} : ∀{d:List g}{c:List e},Hw F d c->(∀ a b,F a b->G a b)->Hw G d c
 | _,_,.nil,_=>.nil
 | _,_,.cons r t,f=>.cons (f _ _ r) (Paired.mapP t f)
def wD.stay(x:wD P w H h a o)(k:∀ b u,(b=a\/H b=O (.own a))->h.get? b=O u->h'.get? b=O u)
  (G:∀ b,H b=O (.own a)->H' b=O (.own a)) (E:∀ b xs,H b=O 'q'->H' b=O 'q'):wD P w H' h' a o:=by
 induction o with
 | lst xs=>obtain⟨z,j,n,r,e⟩:=x; rwa[z,j,n,r,k _ _ (.inl rfl) e]
 | tup xs=>obtain⟨z,j,r,ob,e,c⟩:=x; rwa[z,j,r,ob,k _ _ (.inl rfl) e,c]
 | dK s=>obtain⟨z,y,B,r,ob,g,i,e,c⟩:=x; rwa[z,y,B,r,ob,g,i,k _ _ (.inl rfl) e,c]
 | dT s =>
  obtain⟨z,y,xs,r,ob,g,i,e,c⟩:=x;rwa[z,y,xs,Paired.mapP r λp q z=>⟨z.1,E _ _ z.2.1,z.2.2⟩,ob,g,i,k _ _ (.inl rfl) e,c]
 | set S n=>obtain⟨ob,g,i,t,e,c⟩:=x; rwa[ob,g,i,t,k _ _ (.inl rfl) e,c]
 | ins C L fs =>
  obtain⟨d,z,ne,e,m,⟨l,g,i,I,c⟩,r⟩:=x;rwa[G _ d,z,ne,k _ _ (.inl rfl) e,m,⟨l,g,i,k _ _ (.inr d) I,c⟩,r]
 | own y=>obtain⟨ob,e⟩:=x; rwa[ob,k _ _ (.inl rfl) e]
 | xd fs=>obtain⟨m,⟨l,g,i,e,c⟩,r⟩:=x; rwa[m,⟨l,g,i,k _ _ (.inl rfl) e,c⟩,r]
 | rng lo hi=>obtain⟨t,u,v,e⟩:=x; rwa[t,u,v,k _ _ (.inl rfl) e]
 | frz ob u D=>obtain⟨e,q⟩:=x; rwa[k _ _ (.inl rfl) e,D q]
 | tbl A =>
  have e:h.get? a=O { cls:=.none,data:=.fields A }:=x;show h'.get? a=O { cls:=.none,data:=.fields A };rwa[k a _ (.inl rfl) e]
 | met f y =>
  have e:h.get? a=O (Fi (.ref f) (.ref y)):=x;show h'.get? a=O (Fi (.ref f) (.ref y));rwa[k a _ (.inl rfl) e]
 | ext J=>obtain⟨p,⟨o,e⟩,st⟩:=x; rwa[st _ _ p λo q=>k _ _ (.inl rfl) q,⟨o,k _ _ (.inl rfl) e⟩,st]
def HOk.lt(x:HOk P w H h)(e:H a=O o):a<h.objs.size:=(x a o e).lt
def HOk.fresh(x:HOk P w H h)(e:h.objs.size<=a):H a=none:=by
 cases q:H a with
 | none=>rfl
 | some u=>rwa[y9 (o3 (x.lt q) e) (Bg _)]
def HOk.kept(x:HOk P w H h)(k:∀ b u,h.get? b=O u->h'.get? b=O u):HOk P w H h':=λa o e =>
 (x a o e).stay (λb u _ q=>k b u q) (λ_ q=>q) λ_ _ q=>q
def HOk.laid(x:HOk P w H h)(k:∀ b u,h.get? b=O u->h'.get? b=O u)(g:h.objs.size<=a)(new:wD P w (upd H a o) h' a o):HOk P w (upd H a o) h':=λb u e=>by
 have d:=x.fresh g;by_cases f:b=a
 ·subst f; rw[zA] at e; cases e; rwa[new]
 ·rw[zG f] at e;exact(x b u e).stay (λc v _ q=>k c v q) (λc q=>by rw[zG (zI q d)]; rwa[q]) λc xs q=>by rw[zG (zI q d)]; rwa[q]
end

def Rd(H:Hp)(a:c7)(u:HO):Prop:=H a=O u\/∃ o,H a=O (.frz o u)
def Rd.ok{H:Hp}(r:Rd H a u)(x:HOk P w H h):wD P w H h a u:=by
 rcases r with r | ⟨o,r⟩
 ·rwa[x a u r]
 ·obtain⟨_,q⟩:=x a _ r;rwa[q]
def Mut:Option HO->Prop
 | some (.lst _)=>True
 | some (.dK _)=>True
 | some (.dT _)=>True
 | some (.set _ _)=>True
 | some (.ins _ _ _)=>True
 | some (.ext _)=>True
 | _=>False
section
variable{P:o0}{w:t7}{H:Hp}{h h':Aa}{x e:c7}{o':HO}
def HOk.write(ok:HOk P w H h)(i:Mut (H x))(o:e=x\/H e=O (.own x))(k:∀ b u,b≠e->h.get? b=O u->h'.get? b=O u)(m:∃ u,h'.get? e=O u)
  (new:wD P w (upd H x o') h' x o'):HOk P w (upd H x o') h':=λb u q=>by
 have f:∀ c y,H c=O (.own y)->c≠x:=λc y r z=>by subst z; rw[r] at i; rwa[i]
 have g:∀ c xs,H c=O 'q'->c≠x:=λc xs r z=>by subst z; rw[r] at i; rwa[i]
 by_cases l:b=x
 ·subst l; rw[zA] at q; cases q; rwa[new]
 ·rw[zG l] at q;by_cases d:b=e
  ·have n:H b=O (.own x):=by
    rcases o with z | z
    ·rwa[y9 (d.trans z) l]
    ·rw[d]; rwa[z]
   rw[q] at n; cases n;obtain⟨v,p⟩:=m;rwa[v,by rw[d]; exact p]
  ·refine(ok b u q).stay (λc v j r=>k c v ?_ r) (λc r=>by rw[zG (f c b r)]; rwa[r]) λc xs r=>by rw[zG (g c xs r)]; rwa[r]
   rcases j with rfl | j
   ·rwa[d]
   ·rintro rfl;rcases o with z | z
    ·rwa[f c b j z]
    ·rw[j] at z; cases z; rwa[l rfl]
end

structure Un(fs ex:List c7)(H H':Hp)(h h':Aa):Prop where
 keep:∀ b o,h.get? b=O o->H b=J2->b ∉ fs->b ∉ ex->h'.get? b=O o
 slot:∀ b o,h.get? b=O o->H b=J2->b∈fs->b ∉ ex->∃ sl,h'.get? b=O { o with slots:=sl }
 free:∀ b o,h.get? b=O o->H b=J2->b ∉ ex->H' b=J2
 there:∀ b o,h.get? b=O o->b ∉ ex->∃ o',h'.get? b=O o'
 tups:∀ b xs,H b=O (.tup xs)->H' b=O (.tup xs)
 frzs:∀ b o u,H b=O (.frz o u)->H' b=O (.frz o u)
 tbls:∀ b ps,H b=O (.tbl ps)->∃ more,H' b=O (.tbl (ps++more))
section
variable{fs fs' ex ex':List c7}{H H1 H2:Hp}{h h1 h2 h':Aa}{a x e:c7}{o:HO}
def Un.any(u:Un fs ex H H1 h h1)(q:h.get? b=O ob)(n:H b=J2)(c:b ∉ ex):∃ f,h1.get? b=O { ob with slots:=f }:=by
 by_cases d:b∈fs
 ·rwa[u.slot b ob q n d c]
 ·rwa[ob.slots,u.keep b ob q n d c]
def Un.kept(k:∀ b u,h.get? b=O u->h'.get? b=O u):Un fs ex H H h h' :=
 ⟨λb ob q _ _ _=>k b ob q,λb ob q _ _ _=>⟨ob.slots,k b ob q⟩,λ_ _ _ n _=>n,λb ob q _=>⟨ob,k b ob q⟩,λ_ _ q=>q,λ_ _ _ q=>q,λ_ c q=>⟨#[],by rw[q]; simp⟩⟩
def Un.refl:Un fs ex H H h h:=Un.kept λ_ _ q=>q
def Un.laid(k:∀ b u,h.get? b=O u->h'.get? b=O u)(d:h.objs.size<=a)(c:H a=J2):Un fs ex H (upd H a o) h h' where
 keep:=λb u q _ _ _=>k b u q
 slot:=λb u q _ _ _=>⟨u.slots,k b u q⟩
 free:=λb u q n _=>by rw[zG (t8 (o3 (m7 q) d))]; rwa[n]
 there:=λb u q _=>⟨u,k b u q⟩
 tups:=λb xs q=>by rw[zG (zI q c)]; rwa[q]
 frzs:=λb u xs q=>by rw[zG (zI q c)]; rwa[q]
 tbls:=λb f q=>⟨#[],by rw[zG (zI q c),q]; simp⟩
def Un.write(d:Mut (H x))(l:e=x\/H e=O (.own x))(k:∀ b u,b≠e->h.get? b=O u->h'.get? b=O u)(g:∃ u,h'.get? e=O u):Un fs ex H (upd H x o) h h':=by
 have i:∀ b,H b=J2->b≠x:=λb n z=>by subst z; rw[n] at d; rwa[d]
 have j:∀ b,H b=J2->b≠e:=λb n z=>by
  subst z;rcases l with r | r
  ·rwa[i b n r]
  ·rw[n] at r; cases r
 have f:∀ b u,H b=O u->¬ Mut (O u)->b≠x:=λb u q nm z=>by subst z; rw[q] at d; rwa[nm d]
 refine⟨λb u q n _ _=>k b u (j b n) q,λb u q n _ _=>⟨u.slots,k b u (j b n) q⟩,λb u q n _=>by rw[zG (i b n)]; exact n,λb u q _=>?_,
  λb xs q=>by rw[zG (f b _ q λz=>z)]; exact q,λb u xs q=>by rw[zG (f b _ q λz=>z)]; exact q,λb m q=>⟨#[],by rw[zG (f b _ q λz=>z),q]; simp⟩⟩
 by_cases c:b=e
 ·subst c; rwa[g]
 ·rwa[u,k b u c q]
end

def trk(h:Aa)(H:Hp):List c7:=(Ad h.objs.size).filter λa=>(H a).isSome
def Ve(h:Aa)(H:Hp):Aa:=Gb h (trk h H)
def XW(h:Aa)(H:Hp):(Ve h H).objs.size=h.objs.size:=PySem.W.hideAll_size _ _
def Uc{h:Aa}{H:Hp}(e:h.get? b=O o)(n:H b=J2):(Ve h H).get? b=O o :=
 GG _ e λc=>by
  have q:(H b).isSome=true:=(AS.mp c).2;rw[n] at q; simp at q
def SR{H:Hp}(e:(Ve h H).get? b=O o):h.get? b=O o/\H b=none:=by
 have c:h.get? b=O o:=GW (trk h H) e;exists c;cases q:H b with
 | none=>rfl
 | some x =>
  have d:b∈trk h H:=AS.mpr ⟨Bt.mpr (m7 c),by simp[q]⟩;have z:(Ve h H).get? b=none:=PySem.W.hideAll_none (trk h H) d;rw[z] at e; cases e

end L2

namespace L2

structure Mod(K:c5)(mg:j9->Option c8)(base:Aa):Prop where
 kin:K.In base
 glob:base.Ns mainGlobals mg
 blt:∃ mb,base.Ns builtinsNs mb/\∀ x:j9,x ≠ "__name__" -> mb x=bootBuiltins x
 nolimit:base.NoLimit

structure Cx where
 prog:o0
 w:t7
 K:c5
 mg:j9->Option c8
 base:Aa
 A:Ak
 N:List j9
 s₀:d7
 H₀:Hp
 env:ED
 outer:List ED
 stack:List ED
 ex:List c7
 fn:j9->Bool
 calm:Bool
 pn:List (c7×Bk)
 xe:c8->d7->Prop
def frs(l:List ED):List c7:=l.filterMap (·.frame)
abbrev Cx.fs(X:Cx):List c7:=frs X.outer

def Vis(c:DK)(x:j9):Prop:=c.names.lookup x=O .local\/c.names.lookup x=O .cell\/c.names.lookup x=O .free
def Loc(c:DK)(x:j9):Prop:=c.names.lookup x=O .local\/c.names.lookup x=O .cell
def Look(env:ED)(h:Aa)(m:j9->Option c8)(x:j9)(u:c8):Prop :=
 (env.kindOf x=O .local/\m x=O u)\/((env.kindOf x=O .cell\/env.kindOf x=O .free)/\∃ c,env.cells.lookup x=O c/\h.IsCell c (O u))

structure Cx.Ok(X:Cx):Prop where
 mod:Mod X.K X.mg X.base
 kind:X.env.scope.kind=.function
 glob:X.env.globals=mainGlobals
 blt:X.env.builtins=builtinsNs
 above:X.s₀.heap.objs.size<=X.env.locals
 inj:∀ x y c,X.env.cells.lookup x=O c->X.env.cells.lookup y=O c->x=y
 has:∀ x,(X.env.kindOf x=O .cell\/X.env.kindOf x=O .free)->∃ c,X.env.cells.lookup x=O c
 cab:∀ x c,X.fn x=J3->X.env.cells.lookup x=O c->X.s₀.heap.objs.size<=c
 hd:X.calm=J3->X.A.handled=J2
 frames:X.A.frames=O X.stack
 stk:X.stack=X.outer\/(X.stack=X.env::X.outer/\X.env.frame=O X.env.locals)
 exf:∀ b∈X.ex,b≠X.env.locals/\∀ x c,X.env.cells.lookup x=O c->c≠b
 bs:∀ b o,X.base.get? b=O o->X.s₀.heap.get? b=O o/\X.H₀ b=J2
 bsz:X.base.objs.size<=X.s₀.heap.objs.size
 noex:∀ b o,X.base.get? b=O o->b ∉ X.ex
 exfs:∀ b∈X.ex,b ∉ X.fs
 funs:X.s₀.heap.FunFrames X.base X.outer
 frf:∀ b∈X.fs,X.H₀ b=J2

structure Inv(X:Cx)(J8:List (c7×Bk))(σ:List (Option V))(H:Hp)(s:d7):Prop where
 ok:X.Ok
 os:s.os=X.s₀.os
 bare:Ex s.gens
 base:Un X.fs X.ex X.H₀ H X.s₀.heap s.heap
 loc:∃ m,s.heap.Ns X.env.locals m/\∀(i:Nat)(x:j9)(v:V),X.N[i]?=O x->σ[i]?=O (O v)->Vis X.env.scope x->∃ u,xV v u/\Look X.env s.heap m x u
 cell:∀ x c,X.env.cells.lookup x=O c->∃ v,s.heap.IsCell c v
 free:H X.env.locals=J2
 freeC:∀ x c,X.env.cells.lookup x=O c->H c=J2
 pin:∀ p∈X.pn++J8,s.heap.get? p.1=O p.2/\H p.1=J2/\p.1≠X.env.locals/\p.1 ∉ X.fs/\∀ v,p.2.data≠.cell v
 hok:HOk X.prog X.w H s.heap
 len:σ.length=X.N.length

section
variable{X:Cx}{J8:List (c7×Bk)}{σ:List (Option V)}{H H':Hp}{s:d7}{h':Aa}

def Cx.Ok.nofr(ok:X.Ok)(e:X.base.get? b=O o):b ∉ X.fs:=λc=>by
 have:=(ok.funs.mem c).1;rw[e] at this; cases this
def Inv.bs(I:Inv X J8 σ H s):∀ b o,X.base.get? b=O o->s.heap.get? b=O o/\H b=none:=λb o e =>
 ⟨I.base.keep b o (I.ok.bs b o e).1 (I.ok.bs b o e).2 (I.ok.nofr e) (I.ok.noex b o e),I.base.free b o (I.ok.bs b o e).1 (I.ok.bs b o e).2 (I.ok.noex b o e)⟩
def Inv.bk(I:Inv X J8 σ H s):∀ b o,X.base.get? b=O o->s.heap.get? b=O o:=λb o e=>(I.bs b o e).1
def Inv.mod(I:Inv X J8 σ H s):Mod X.K X.mg X.base:=I.ok.mod
def Inv.kIn(I:Inv X J8 σ H s):X.K.In s.heap:=I.ok.mod.kin.keeps I.bk
def Inv.lt(I:Inv X J8 σ H s):X.env.locals<s.heap.objs.size:=let ⟨_,hn,_⟩:=I.loc; hn.lt
def Inv.sz(I:Inv X J8 σ H s):X.s₀.heap.objs.size<=s.heap.objs.size:=i4 I.ok.above (BM I.lt)
def Inv.nofs(I:Inv X J8 σ H s){a:c7}(h:s.heap.objs.size<=a):a ∉ X.fs:=λd=>by
 obtain⟨_,o,c,_⟩:=I.ok.funs.mem d;rwa[y9 (o3 (m7 c) (i4 I.sz h)) (Bg _)]
def Inv.cne(I:Inv X J8 σ H s):∀ x c,X.env.cells.lookup x=O c->c≠X.env.locals:=λx c e z=>by
 obtain⟨v,o,g,hd⟩:=I.cell x c e;obtain⟨m,⟨h,i,j,d,f,_⟩,_⟩:=I.loc;rw[z,d] at g; cases g; rw[f] at hd; cases hd
def Inv.funs(I:Inv X J8 σ H s):s.heap.FunFrames X.base X.outer:=by
 have all:∀(l:List ED),(∀ b∈frs l,b∈X.fs)->X.s₀.heap.FunFrames X.base l->s.heap.FunFrames X.base l:=by
  intro l
  induction l with
  | nil=>intro _ _; trivial
  | cons env r h =>
   intro g n;obtain⟨p,⟨L,o,c,m,j,hd⟩,i⟩:=n;have f:L∈X.fs:=g L (by unfold frs; rw[AT,c]; rwa[x9]);obtain⟨q,e⟩:=I.base.slot L o j (I.ok.frf L f) f λz=>I.ok.exfs L z f;rwa[p,⟨L,_,c,m,e,hd⟩,h (λb d=>g b (by unfold frs; rw[AT,c]; exact x8 _ d)) i]
 rwa[all X.outer (λ_ d=>d) I.ok.funs]

def Inv.stack(I:Inv X J8 σ H s):s.heap.FunFrames X.base X.stack:=by
 rcases I.ok.stk with e | ⟨e,d⟩
 ·rw[e]; rwa[I.funs]
 ·rw[e];obtain⟨m,c,_⟩:=I.loc;erw[.cons (by rw[I.ok.kind]; decide) d c ?_ I.funs];rwa[Eh (i4 I.ok.bsz I.ok.above)]
def Inv.stkSub(I:Inv X J8 σ H s):∀ b∈frs X.stack,b∈X.env.locals::X.fs:=λb c=>by
 rcases I.ok.stk with e | ⟨e,d⟩
 ·rw[e] at c; rwa[x8 _ c]
 ·rw[e] at c;unfold frs at c;rw[AT,d] at c;rwa[c]
def Inv.stkFree(I:Inv X J8 σ H s):∀ b∈frs X.stack,H b=none:=λb c=>by
 rcases l9.mp (I.stkSub b c) with e | c
 ·rw[e]; rwa[I.free]
 ·obtain⟨_,o,d,_⟩:=I.ok.funs.mem c;rwa[I.base.free b o d (I.ok.frf b c) λz=>I.ok.exfs b z c]

def Inv.step{g':Array GenState}{t':Nat}{d':Drawn}{ch:List c7}(I:Inv X J8 σ H s)
  (h:∀ b∈ch,(b∈X.ex\/X.s₀.heap.objs.size<=b)/\b≠X.env.locals/\(∀ x c,X.env.cells.lookup x=O c->c≠b)/\∀ p∈X.pn++J8,p.1≠b)
  (keep:∀ b o,b≠X.env.locals->b ∉ X.fs->b ∉ ch->s.heap.get? b=O o->H b=J2->h'.get? b=O o)
  (slot:∀ b o,b≠X.env.locals->b∈X.fs->b ∉ ch->s.heap.get? b=O o->H b=J2->∃ M,h'.get? b=O { o with slots:=M }) (free:∀ b o,b ∉ ch->s.heap.get? b=O o->H b=J2->H' b=J2)
  (there:∀ b o,b ∉ ch->s.heap.get? b=O o->∃ D,h'.get? b=O D)
  (tups:∀ b xs,H b=O 'q'->H' b=O 'q') (frzs:∀ b o u,H b=O (.frz o u)->H' b=O (.frz o u)) (tbls:∀ b J,H b=O (.tbl J)->∃ more,H' b=O (.tbl (J++more)))
  (ns:∀ m,s.heap.Ns X.env.locals m->h'.Ns X.env.locals m) (hok:HOk X.prog X.w H' h') (Z:Ex g') :
  Inv X J8 σ H' { s with heap:=h',gens:=g',drawn:=d',toks:=t' }:=by
 have E:∀ b o,X.s₀.heap.get? b=O o->b≠X.env.locals:=λb o e=>t8 (o3 (m7 e) I.ok.above);have y:∀ b o,X.s₀.heap.get? b=O o->b ∉ X.ex->b ∉ ch:=λb o e f B=>by
  rcases (h b B).1 with z | z
  ·rwa[f z]
  ·rwa[y9 (o3 (m7 e) z) (Bg _)]
 have j:∀ x c,X.env.cells.lookup x=O c->∀ v,s.heap.IsCell c v->h'.IsCell c v:=λx c e v ⟨o,C,hd⟩=>by
  have g:c ∉ ch:=λz=>(h c z).2.2.1 x c e rfl;by_cases Q:c∈X.fs
  ·obtain⟨M,q⟩:=slot c o (I.cne x c e) Q g C (I.freeC x c e);rwa[_,q,hd]
  ·rwa[o,keep c o (I.cne x c e) Q g C (I.freeC x c e),hd]
 erw[I.ok,I.os,Z,⟨λb o e n B f=>?_,λb o e n B f=>?_,λb o e n f=>?_,λb o e f=>?_,λb xs e=>tups b xs (I.base.tups b xs e),λb o xs e=>frzs b o xs (I.base.frzs b o xs e),λb J e=>?_⟩,?_,λx c e=>?_,?_,λx c e=>?_,λp P=>?_,hok,I.len]
 ·rwa[keep b o (E b o e) B (y b o e f) (I.base.keep b o e n B f) (I.base.free b o e n f)]
 ·obtain⟨M,A⟩:=I.base.slot b o e n B f;obtain⟨L,G⟩:=slot b _ (E b o e) B (y b o e f) A (I.base.free b o e n f);rwa[L,G]
 ·obtain⟨D,A⟩:=I.base.there b o e f;rwa[free b D (y b o e f) A (I.base.free b o e n f)]
 ·obtain⟨D,A⟩:=I.base.there b o e f;rwa[there b D (y b o e f) A]
 ·obtain⟨S,A⟩:=I.base.tbls b J e;obtain⟨R,G⟩:=tbls b _ A;rwa[S++R,by rw[G,Array.append_assoc]]
 ·obtain⟨m,T,Y⟩:=I.loc;erw[m,ns m T,λi x v A G e3=>?_];obtain⟨u,r,l⟩:=Y i x v A G e3;exists u,r;rcases l with l | ⟨k,c,e,z⟩
  ·rwa[.inl l]
  ·rwa[.inr ⟨k,c,e,j x c e _ z⟩]
 ·obtain⟨v,z⟩:=I.cell x c e;rwa[v,j x c e v z]
 ·obtain⟨m,⟨o,_,_,C,_⟩,_⟩:=I.loc;rwa[free _ o (λz=>(h _ z).2.1 rfl) C I.free]
 ·obtain⟨v,o,C,hd⟩:=I.cell x c e;rwa[free c o (λz=>(h c z).2.2.1 x c e rfl) C (I.freeC x c e)]
 ·obtain⟨e,n,ne,N,d⟩:=I.pin p P;have g:p.1 ∉ ch:=λz=>(h p.1 z).2.2.2 p P rfl;rwa[keep p.1 p.2 ne N g e n,free p.1 p.2 g e n,ne,N,d]
def Inv.un{t':Nat}(I:Inv X J8 σ H s)(u:Un X.fs [] H H' s.heap h')(hok:HOk X.prog X.w H' h'):Inv X J8 σ H' { s with heap:=h',toks:=t' }:=by
 obtain⟨m,⟨o,x,y,h,r⟩,_⟩:=id I.loc;obtain⟨p,l⟩:=u.any h I.free 'd';exact I.step (g':=s.gens) (d':=s.drawn) (ch:=[]) (λ_ z=>nomatch z) (λb o _ d _ e n=>u.keep b o e n d 'd') (λb o _ d _ e n=>u.slot b o e n d 'd') (λb o _ e n=>u.free b o e n 'd') (λb o _ e=>u.there b o e 'd') u.tups u.frzs u.tbls (λv j=>by
  obtain⟨q,f,g,c,i⟩:=j;rw[h] at c; cases c;rwa[_,f,g,l,i]) hok I.bare
def Inv.call{g':Array GenState}{t':Nat}{d':Drawn}{ch:List c7}(I:Inv X J8 σ H s)(u:Un (frs X.stack) ch H H' s.heap h')(hok:HOk X.prog X.w H' h')(y:Ex g')
  (g:∀ b∈ch,(b∈X.ex\/X.s₀.heap.objs.size<=b)/\b≠X.env.locals/\(∀ x c,X.env.cells.lookup x=O c->c≠b)/\∀ p∈X.pn++J8,p.1≠b) :
  Inv X J8 σ H' { s with heap:=h',gens:=g',drawn:=d',toks:=t' }:=by
 obtain⟨m,⟨o,E,G,l,r⟩,_⟩:=id I.loc;obtain⟨B,h⟩:=u.any l I.free λz=>(g _ z).2.1 rfl;exact I.step (ch:=ch) g (λb o h A d e n=>u.keep b o e n (λz=>(l9.mp (I.stkSub b z)).elim h A) d) (λb o _ _ d e n=>u.any e n d) (λb o d e n=>u.free b o e n d) (λb o d e=>u.there b o e d) u.tups u.frzs u.tbls (λD v=>by
  obtain⟨C,i,j,f,q⟩:=v;rw[l] at f; cases f;rwa[_,i,j,h,q]) hok y
def Inv.turned{t':Nat}{d:c7}(I:Inv X J8 σ H s)(k:∀ b o,b≠d->s.heap.get? b=O o->h'.get? b=O o)(j:H d=J2)(h:d≠X.env.locals)
  (h1:d∈X.ex\/X.s₀.heap.objs.size<=d) (h2:∀ x c,X.env.cells.lookup x=O c->c≠d) (h3:∀ p∈X.pn++J8,p.1≠d):Inv X J8 σ H { s with heap:=h',toks:=t' }:=by
 have g:∀ b u,H b=O u->b≠d:=λb u e z=>by rw[z,j] at e; cases e
 refine I.step (g':=s.gens) (d':=s.drawn) (ch:=[d]) (λb w=>?_) (λb o _ _ f e _=>k b o (λz=>f (by simp[z])) e) (λb o _ _ f e _=>⟨o.slots,k b o (λz=>f (by simp[z])) e⟩) (λ_ _ _ _ n=>n)
  (λb o f e=>⟨o,k b o (λz=>f (by simp[z])) e⟩) (λ_ _ e=>e) (λ_ _ _ e=>e) (λb B e=>⟨#[],by rw[e]; simp⟩) (λm l=>?_) (λb u e=>?_) I.bare
 ·have e:b=d:=by simpa using w
  subst e;rwa[h1,h,h2,h3]
 ·obtain⟨o,y,A,i,r⟩:=l;rwa[o,y,A,k _ o (Bi h) i,r]
 ·refine(I.hok b u e).stay (λc v f q=>k c v ?_ q) (λ_ q=>q) λ_ _ q=>q;rcases f with z | z
  ·rw[z]; rwa[g b u e]
  ·rwa[g c _ z]
def Inv.tok(I:Inv X J8 σ H s)(t:Nat):Inv X J8 σ H { s with toks:=t }:=I.un (h':=s.heap) (t':=t) Un.refl I.hok
def Inv.kept{t':Nat}(I:Inv X J8 σ H s)(k:∀ b u,s.heap.get? b=O u->h'.get? b=O u):Inv X J8 σ H { s with heap:=h',toks:=t' }:=I.un (Un.kept k) (I.hok.kept k)
def Inv.laid{a:c7}{t':Nat}(I:Inv X J8 σ H s)(k:∀ b u,s.heap.get? b=O u->h'.get? b=O u)(c:s.heap.objs.size<=a)(new:wD X.prog X.w (upd H a o) h' a o) :
  Inv X J8 σ (upd H a o) { s with heap:=h',toks:=t' }:=I.un (Un.laid k c (I.hok.fresh c)) (I.hok.laid k c new)
def Inv.write{x e:c7}{t':Nat}(I:Inv X J8 σ H s)(d:Mut (H x))(f:e=x\/H e=O (.own x))(k:∀ b u,b≠e->s.heap.get? b=O u->h'.get? b=O u)(c:∃ u,h'.get? e=O u)
  (new:wD X.prog X.w (upd H x o) h' x o):Inv X J8 σ (upd H x o) { s with heap:=h',toks:=t' }:=I.un (Un.write d f k c) (I.hok.write d f k c new)
def Inv.pins_of{c:List (c7×Bk)}(I:Inv X J8 σ H s)(h:∀ p∈c,s.heap.get? p.1=O p.2/\H p.1=J2/\p.1≠X.env.locals/\p.1 ∉ X.fs/\∀ v,p.2.data≠.cell v):Inv X c σ H s :=
 ⟨I.ok,I.os,I.bare,I.base,I.loc,I.cell,I.free,I.freeC,λp d=>(j5.mp d).elim (λz=>I.pin p (Bb _ z)) (h p),I.hok,I.len⟩

def Zz{N:List j9}(c:N.Nodup){i j:Nat}(a:N[i]?=O x)(b:N[j]?=O x):i=j:=by
 obtain⟨h1,e⟩:=e8.mp a;obtain⟨h2,d⟩:=e8.mp b;exact(FK c).mp (e.trans d.symm)

def du{E:c8->d7->Prop}{i:Nat}{Q:Unit->d7->Prop}(I:Inv X J8 σ H s)(hN:X.N.Nodup)(hi:X.N[i]?=O x)(C:Loc X.env.scope x)(r:xV v u)
  (h:∀ s',Inv X J8 (σ.set i (O v)) H s'->(∃ a,BZ a s.heap s'.heap/\(a=X.env.locals\/X.env.cells.lookup x=O a))->Q () s') (hf:X.fn x=J3\/X.env.scope.names.lookup x=O .local:=by first | exact .inl rfl | exact .inr rfl | assumption):wpAny M A (storeName X.env x u) Q E s:=by
 obtain⟨m,hn,hl⟩:=id I.loc;have Z:(X.env.scope.kind == .class||(X.env.scope.kind == .module&&X.env.locals != X.env.globals))=false:=by rw[I.ok.kind]; rfl
 have L:i<σ.length:=by rw[I.len]; exact(e8.mp hi).1
 have cne:=I.cne;have g:∀{a:c7}{h':Aa},(∃ o,s.heap.get? a=O o/\H a=J2)->BZ a s.heap h'->HOk X.prog X.w H h':=λ{a h'} ha f b ob e=>by
  obtain⟨_,_,D⟩:=ha;refine(I.hok b ob e).stay (λc w' B q=>(f.2 c ?_).trans q) (λ_ q=>q) λ_ _ q=>q;rintro rfl;rcases B with rfl | B
  ·rw[D] at e; cases e
  ·rw[D] at B; cases B
 rcases C with J | J
 ·erw[wpAny_storeName_local J hn (λh' hn' f=>?_) Z];obtain⟨oL,_,_,hoL,_⟩:=id hn;refine h _ ⟨I.ok,I.os,I.bare,⟨λb o e n S C=>?_,λb o e n S C=>?_,I.base.free,λb o e C=>?_,I.base.tups,I.base.frzs,I.base.tbls⟩,⟨_,hn',λj y v' l G e3=>?_⟩,λy c e=>?_,I.free,I.freeC,λp hp=>?_,g ⟨oL,hoL,I.free⟩ f,by simpa using I.len⟩ ⟨_,f,.inl rfl⟩
  ·exact(f.2 b (t8 (o3 (m7 e) I.ok.above))).trans (I.base.keep b o e n S C)
  ·obtain⟨sl,l⟩:=I.base.slot b o e n S C;rwa[sl,(f.2 b (t8 (o3 (m7 e) I.ok.above))).trans l]
  ·obtain⟨o',l⟩:=I.base.there b o e C;rwa[o',(f.2 b (t8 (o3 (m7 e) I.ok.above))).trans l]
  ·by_cases P:j=i
   ·subst P;rw[hi] at l; cases l;rw[CQ L] at G;cases G;rwa[u,r,.inl ⟨J,by simp⟩]
   ·rw[Gq (Bi P)] at G;obtain⟨u',r',q⟩:=hl j y v' l G e3;exists u',r';rcases q with ⟨k,e⟩ | ⟨k,c,e,z⟩
    ·erw[.inl ⟨k,?_⟩];have:y≠x:=λe=>P (Zz hN l (e ▸ hi));simp[this,e]
    ·rwa[.inr ⟨k,c,e,z.sameBut f (cne y c e)⟩]
  ·obtain⟨w',z⟩:=I.cell y c e;rwa[w',z.sameBut f (cne y c e)]
  ·obtain⟨e,n,ne,nf,d⟩:=I.pin p hp;rwa[(f.2 p.1 ne).trans e,n,ne,nf,d]
 ·have R:X.fn x=true:=by
   rcases hf with z | z
   ·rwa[z]
   ·rw[z] at J; cases J
  obtain⟨c,B⟩:=I.ok.has x (.inl J);obtain⟨w',z⟩:=I.cell x c B;erw[wpAny_storeName_cell I.ok.kind J B z (λh' hc' f=>?_)];obtain⟨oc,Y,T⟩:=id z;refine h { s with heap:=h' } ⟨I.ok,I.os,I.bare,⟨λb o e n S C=>?_,λb o e n S C=>?_,I.base.free,λb o e C=>?_,I.base.tups,I.base.frzs,I.base.tbls⟩,⟨m,hn.sameBut f (Bi (cne x c B)),λj y v' l G e3=>?_⟩,λy c' e=>?_,I.free,I.freeC,λp hp=>?_,g ⟨oc,Y,I.freeC x c B⟩ f,by simpa using I.len⟩ ⟨c,f,.inr B⟩
  ·exact(f.2 b (t8 (o3 (m7 e) (I.ok.cab x c R B)))).trans (I.base.keep b o e n S C)
  ·obtain⟨sl,l⟩:=I.base.slot b o e n S C;rwa[sl,(f.2 b (t8 (o3 (m7 e) (I.ok.cab x c R B)))).trans l]
  ·obtain⟨o',l⟩:=I.base.there b o e C;rwa[o',(f.2 b (t8 (o3 (m7 e) (I.ok.cab x c R B)))).trans l]
  ·by_cases P:j=i
   ·subst P;rw[hi] at l; cases l;rw[CQ L] at G;cases G;rwa[u,r,.inr ⟨.inl J,c,B,hc'⟩]
   ·rw[Gq (Bi P)] at G;obtain⟨u',r',q⟩:=hl j y v' l G e3;exists u',r';rcases q with q | ⟨k,c',e,z'⟩
    ·rwa[.inl q]
    ·erw[.inr ⟨k,c',e,z'.sameBut f ?_⟩];rintro rfl;rwa[P (Zz hN l (I.ok.inj _ _ _ e B ▸ hi))]
  ·by_cases hcc:c'=c
   ·subst hcc; rwa[_,hc']
   ·obtain⟨w2,z2⟩:=I.cell y c' e;rwa[w2,z2.sameBut f hcc]
  ·obtain⟨e,n,ne,nf,d⟩:=I.pin p hp;erw[(f.2 p.1 ?_).trans e,n,ne,nf,d];intro q;rw[q,Y] at e;have q':oc=p.2:=t6 e;rwa[d w' (by rw[<- q']; exact T)]
def ml{E:c8->d7->Prop}{i:Nat}{Q:Unit->d7->Prop}(I:Inv X J8 σ H s)(f:X.N.Nodup)(hi:X.N[i]?=O x)(d:Loc X.env.scope x)(r:xV v u)
  (h:∀ c,Inv X J8 (σ.set i (O v)) H c->Q () c) (e:X.fn x=J3\/X.env.scope.names.lookup x=O .local:=by first | exact .inl rfl | exact .inr rfl | assumption):wpAny M A (storeName X.env x u) Q E s :=
 du I f hi d r (λc g _=>h c g) e
def Inv.call'{s':d7}(I:Inv X J8 σ H s)(h:s'.os=s.os)(u:Un (frs X.stack) ch H H' s.heap s'.heap)(hok:HOk X.prog X.w H' s'.heap)(i:Ex s'.gens)
  (d:∀ b∈ch,(b∈X.ex\/X.s₀.heap.objs.size<=b)/\b≠X.env.locals/\(∀ x c,X.env.cells.lookup x=O c->c≠b)/\∀ p∈X.pn++J8,p.1≠b):Inv X J8 σ H' s':=by
 obtain⟨h',f,d',t',g⟩:=s';have e:g=s.os:=h;subst e;rwa[I.call (g':=f) (t':=t') (d':=d') u hok i d]
end

abbrev XK:=c8->Option c7->Hp->Prop
abbrev St:=List (Option V)
abbrev VK:=V->Hp->Prop
abbrev TE:=St->Hp->VK->Prop
abbrev TT:=St->Hp->(Bool->Hp->Prop)->Prop
abbrev TA:=St->Hp->(List V->Hp->Prop)->Prop
structure Wi where
 nx:St->Hp->Prop
 rt:VK
 bk:St->Hp->Prop:=λ_ _=>False
 ct:St->Hp->Prop:=λ_ _=>False
abbrev TS:=Wi->St->Hp->Prop

def EP(X:Cx)(f:List (c7×Bk))(d:St)(Q:VK)(u:c8)(e:d7):Prop:=∃ v c,Inv X f d c e/\xV v u/\Q v c
def TP(X:Cx)(f:List (c7×Bk))(d:St)(Q:Bool->Hp->Prop)(b:Bool)(e:d7):Prop:=∃ c,Inv X f d c e/\Q b c
def AP(X:Cx)(h:List (c7×Bk))(e:St)(Q:List V->Hp->Prop)(f:List c8)(g:d7):Prop:=∃ c d,Inv X h e d g/\yY c f/\Q c d
def SP(X:Cx)(g:List (c7×Bk))(D:Wi)(f:Flow)(e:d7):Prop :=
 match f with
 | .next=>∃ c d,Inv X g c d e/\D.nx c d
 | .brk=>∃ c d,Inv X g c d e/\D.bk c d
 | .cont=>∃ c d,Inv X g c d e/\D.ct c d
 | .ret u=>∃ v c d,Inv X g c d e/\xV v u/\D.rt v d

def PE(X:Cx)(e:Ar)(t:TE):Prop :=
 ∀(d:List (c7×Bk))(s:d7)(c:St)(H:Hp)(Q:VK),Inv X d c H s->t c H Q->wpAny 'b' X.A (eval e X.env) (EP X d c Q) X.xe s
def PT(X:Cx)(e:Ar)(t:TT):Prop :=
 ∀(d:List (c7×Bk))(s:d7)(c:St)(H:Hp)(Q:Bool->Hp->Prop),Inv X d c H s->t c H Q->wpAny 'b' X.A (isTrue e X.env (eval e X.env)) (TP X d c Q) X.xe s
def PW(X:Cx)(e:Ar)(t:TT):Prop :=
 ∀(c:EF c8)(f:List (c7×Bk))(s:d7)(d:St)(H:Hp)(Q:Bool->Hp->Prop),Inv X f d H s->t d H Q->wpAny 'b' X.A (isTrue e X.env c) (TP X f d Q) X.xe s
def PW.pt(h:PW X e t):PT X e t:=h _
def PA(X:Cx)(e:List Ar)(t:TA):Prop :=
 ∀(pos:D5)(d:List (c7×Bk))(s:d7)(c:St)(H:Hp)(Q:List V->Hp->Prop),Inv X d c H s->t c H Q->wpAny 'b' X.A (spliced (backTo pos (starEach e X.env))) (AP X d c Q) X.xe s
def PS(X:Cx)(st:Ao)(t:TS):Prop :=
 ∀(d:List (c7×Bk))(s:d7)(c:St)(H:Hp)(D:Wi),Inv X d c H s->t D c H->wpAny 'b' X.A (exec st X.env) (SP X d D) X.xe s
def PSs(X:Cx)(st:List Ao)(t:TS):Prop :=
 ∀(d:List (c7×Bk))(s:d7)(c:St)(H:Hp)(D:Wi),Inv X d c H s->t D c H->wpAny 'b' X.A (execs st X.env) (SP X d D) X.xe s
def thn{c:Type}{t:EF c}{Q d:c->d7->Prop}{M:GP}{A:Ak}{E:c8->d7->Prop}{s:d7}(h:wpAny M A t Q E s)(e:∀ a s,Q a s->d a s):wpAny M A t d E s:=AW h e λ_ _ x=>x
end L2

namespace L2
section
variable{X:Cx}

def bin{a b:Ar}{o n:TE}(E:PE X a o)(D:PE X b n){j:List (c7×Bk)}{s:d7}{c:St}{H:Hp}{R:V->V->Hp->Prop}(I:Inv X j c H s)(h:o c H λx l=>n c l λy d=>R x y d)
  {m:Type} {Q:m->d7->Prop} {f:c8->c8->EF m}
  (C:∀ v u i x y d,Inv X j c d i->xV x v->xV y u->R x y d->wpAny 'b' X.A (f v u) Q X.xe i) :
  wpAny 'b' X.A (eval a X.env) (λv g=>wpAny 'b' X.A (eval b X.env) (λu e=>wpAny 'b' X.A (f v u) Q X.xe e) X.xe g) X.xe s:=by
 erw[thn (E j s c H _ I h) λv p ⟨x,l,J,r,B⟩=>?_];erw[thn (D j p c l _ J B) λu i ⟨y,d,G,q,z⟩=>?_];rwa[C v u i x y d G r q z]

inductive TVar(i:Nat)(σ:St)(H:Hp)(Q:VK):Prop where
 | mk (v:V) (e:σ[i]?=O (O v)) (q:Q v H)
def Uv(i:Nat):TE:=λc H Q=>TVar i c H Q
def tC(v:V):TE:=λ_ H Q=>Q v H
def PY{i:Nat}(z:X.N[i]?=O x)(p:Vis X.env.scope x)(hd:(x ==("__debug__" : j9))=false:=by decide)(j:(x ==("__classdict__" : j9))=false:=by decide):PE X (.Name x pos) (Uv i):=by
 intro A s o H Q I h;obtain⟨v,e,h⟩:=h;obtain⟨m,q,y⟩:=I.loc;obtain⟨u,r,l⟩:=y i x v z e p;have g:EP X A o Q u s:=⟨v,H,I,r,h⟩;rcases l with ⟨f,w⟩ | ⟨f,c,n,d⟩
 ·rwa[Iq (wpAny_loadName_local I.ok.kind f q w g) hd]
 ·rcases f with f | f
  ·rwa[Iq (wpAny_loadName_cell I.ok.kind f n d g) hd]
  ·rwa[Iq (wpAny_loadName_free I.ok.kind f n d g j) hd]
def wH{i j pos} : PE X (.Constant (.int i) j pos) (tC (.int i)):=λ_ _ _ H _ I h=>wpAny_Constant_int ⟨.int i,H,I.tok _,⟨_,rfl⟩,h⟩
def oS{b j pos} : PE X (.Constant (.bool b) j pos) (tC (.bl b)):=λ_ _ _ H _ I h=>Constant_bool ⟨.bl b,H,I,rfl,h⟩
def ff{j pos} : PE X (.Constant .none j pos) (tC .non):=λ_ _ _ H _ I h=>Constant_none ⟨.non,H,I,rfl,h⟩
def zZ{x j pos} : PE X (.Constant (.str x) j pos) (tC (.str x)):=λ_ _ _ H _ I h=>GX ⟨.str x,H,I.tok _,⟨_,rfl⟩,h⟩

def Gl(X:Cx)(x:j9):Prop:=X.env.kindOf x=O .globalImplicit
def yr{E:c8->d7->Prop}{c:St}{H:Hp}{Q:c8->d7->Prop}(I:Inv X f c H s)(e:Gl X x)(d:X.mg x=O u)(h:Q u s)
  (hd:(x ==("__debug__" : j9))=false:=by decide):wpAny 'b' X.A (eval (.Name x pos) X.env) Q E s :=
 EI I.ok.kind e (Calls.loadGlobal_global (by rw[I.ok.glob]; rwa[I.mod.glob.keeps I.bk]) d h) hd
def ae{E:c8->d7->Prop}{c:St}{H:Hp}{Q:c8->d7->Prop}(I:Inv X i c H s)(g:Gl X x)(f:X.mg x=J2)(d:bootBuiltins x=O u)(h:Q u s)
  (e:x ≠ "__name__" := by decide) (hd:(x ==("__debug__" : j9))=false:=by decide):wpAny 'b' X.A (eval (.Name x pos) X.env) Q E s:=by
 obtain⟨j,h1,h2⟩:=I.mod.blt;rwa[EI I.ok.kind g (Calls.loadGlobal_builtin (by rw[I.ok.glob]; exact I.mod.glob.keeps I.bk) f (by rw[I.ok.blt]; exact h1.keeps I.bk) ((h2 x e).trans d) h) hd]
variable{a b:Ar}{ta tb:TE}{pos:D5}
def PC(X:Cx)(g:Ir)(a b:Ar)(t:TE):Prop :=
 ∀(f:List (c7×Bk))(s:d7)(e:St)(H:Hp)(Q:VK),Inv X f e H s->t e H Q ->
  wpAny 'b' X.A (eval a X.env) (λv d=>wpAny 'b' X.A (eval b X.env) (λu c=>wpAny 'b' X.A (compareOp g v u) (EP X f e Q) X.xe c) X.xe d) X.xe s
def tB(t:TE):TT:=λd H Q=>t d H λx e=>∃ c,x=.bl c/\Q c e
def dC{t:TE}(h:PC X e a b t)(h1:behindInMarks e b=false:=by first | exact nobehind _ (by decide) (by decide) | rfl):PT X (.Compare a [e] [b] pos) (tB t):=by
 intro l s f H Q I j;erw[Gk (thn (h l s f H _ I j) λv r h1=>thn h1 λu p h2=>thn h2 λc o ⟨x,n,m,g,i⟩=>?_) h1];obtain⟨d,rfl,q⟩:=i;cases g;rwa[Cr ⟨n,m,q⟩]
def kG{t:TE}(h:PE X e t)(l:∀ c,isTrue e X.env c=(do let v <- c; standAt e.pos; holding [v] (truthy v)):=by intro _; rfl):PT X e (tB t):=by
 intro m s f H Q I j;erw[isTrue_plain (thn (h m s f H _ I j) λv p ⟨x,o,n,g,i⟩=>?_) (l _)];obtain⟨d,rfl,q⟩:=i;cases g;rwa[Cr ⟨o,n,q⟩]

variable{tA tB':TT}{rest:List Ar}
def tAnd(t u:TT):TT:=λd H Q=>t d H λc e=>if c=J3 then u d e Q else Q J7 e
def tOr(t u:TT):TT:=λd H Q=>t d H λc e=>if c=J3 then Q J3 e else u d e Q
def tNot(t:TT):TT:=λd H Q=>t d H λc e=>Q (!c) e
def bR(f:PT X a tA):PW X (.BoolOp .And [a] pos) tA:=by
 intro i g s d H Q I h;erw[isTrue_and (thn (f g s d H Q I h) λc j e=>?_)];cases c with
 | true=>rwa[isTrue_and_nil e]
 | false=>rwa[e]
def fD(f:PT X a tA):PW X (.BoolOp .Or [a] pos) tA:=by
 intro i g s d H Q I h;erw[isTrue_or (thn (f g s d H Q I h) λc j e=>?_)];cases c with
 | false=>rwa[isTrue_or_nil e]
 | true=>rwa[e]
def Wx(n:PT X a tA)(m:PW X (.BoolOp .And (b::rest) pos) tB'):PW X (.BoolOp .And (a::b::rest) pos) (tAnd tA tB'):=by
 intro j f s d H Q I h;erw[isTrue_and (thn (n f s d H _ I h) λc l ⟨i,g,e⟩=>?_)];cases c with
 | true=>rwa[m j f l d i Q g e]
 | false=>rwa[i,g,e]
def ZT(n:PT X a tA)(m:PW X (.BoolOp .Or (b::rest) pos) tB'):PW X (.BoolOp .Or (a::b::rest) pos) (tOr tA tB'):=by
 intro j f s d H Q I h;erw[isTrue_or (thn (n f s d H _ I h) λc l ⟨i,g,e⟩=>?_)];cases c with
 | true=>rwa[i,g,e]
 | false=>rwa[m j f l d i Q g e]
def iy(e:PT X a tA):PT X (.UnaryOp .Not a pos) (tNot tA):=by
 intro f s d H Q I h;rwa[isTrue_not (e f s d H (λc g=>Q (!c) g) I h)]
def tIf(t:TT)(ta tb:TE):TE:=λd H Q=>t d H λc e=>if c=J3 then ta d e Q else tb d e Q
def au(m:PT X c tA)(o:PE X a ta)(n:PE X b tb):PE X (.IfExp c a b pos) (tIf tA ta tb):=by
 intro f s e H Q I h;erw[wpAny_IfExp (thn (m f s e H _ I h) λd g ⟨l,j,i⟩=>?_)];cases d with
 | true=>rwa[o f g e l Q j i]
 | false=>rwa[n f g e l Q j i]
end
end L2

namespace L2

def SqL(K:c5)(H:Hp)(a:c7)(xs:List V):Prop :=
 Rd H a (.lst xs) \/
  ∃(o:Bk)(c:Array c8)(n:Nat),K.lookup a=O o/\o.cls=.type "list" /\ o.dict=J2/\o.data=.seq c n/\c.size<=sizeLine/\yY xs c.toList
def SqT(K:c5)(H:Hp)(a:c7)(xs:List V):Prop :=
 Rd H a 'q' \/
  ∃(o:Bk)(c:Array c8)(n:Nat),K.lookup a=O o/\o.cls=.type "tuple" /\ o.data=.seq c n/\c.size<=sizeLine/\yY xs c.toList
def absV:c8->Option V
 | .none=>O .non
 | .bool b=>O (.bl b)
 | .int i _=>O (.int i)
 | .str x _=>O (.str x)
 | .bytes b _=>O (.byt b)
 | .float b _=>O (.flt b)
 | .ref a=>O (.ref a)
 | .type n=>O (.ty n)
 | _=>J2
def xV.abs(r:xV x u):absV u=O x:=by
 cases x with
 | non=>cases r; rfl
 | bl _=>cases r; rfl
 | int _=>obtain⟨t,rfl⟩:=r; rfl
 | str _=>obtain⟨t,rfl⟩:=r; rfl
 | byt _=>obtain⟨t,rfl⟩:=r; rfl
 | flt _=>obtain⟨t,rfl⟩:=r; rfl
 | ref _=>cases r; rfl
 | ty _=>cases r; rfl
def xV.inj(r:xV x u)(q:xV y u):x=y:=t6 (r.abs.symm.trans q.abs)
def yY.inj:∀{xs c:List V}{d:List c8},yY xs d->yY c d->xs=c
 | _,_,_,.nil,.nil=>rfl
 | _,_,_,.cons r t,.cons f e=>by rw[r.inj f,yY.inj t e]
section
variable{X:Cx}{J8:List (c7×Bk)}{σ:St}{H:Hp}{s:d7}{a:c7}{xs ys:List V}
def SqL.of{K:c5}(h:H a=O (.lst xs)):SqL K H a xs:=.inl (.inl h)
def SqT.of{K:c5}(h:H a=O 'q'):SqT K H a xs:=.inl (.inl h)
def Inv.list(I:Inv X J8 σ H s)(h:SqL X.K H a xs):∃ c:List c8,yY xs c/\PlainL s.heap a c.toArray/\xs.length<=sizeLine:=by
 rcases h with h | ⟨o,c,n,f,g,hd,d,i,r⟩
 ·obtain⟨z,c,n,r,e⟩:=h.ok I.hok;rwa[c,r,⟨_,n,e,rfl,rfl,rfl⟩,z]
 ·exists c.toList,r,⟨o,n,I.kIn a o f,g,hd,by simpa using d⟩;have e:=r.length;simp only[o7] at e;lia
def Inv.tuple(I:Inv X J8 σ H s)(h:SqT X.K H a xs):∃ c:List c8,yY xs c/\Jl s.heap a c.toArray/\xs.length<=sizeLine:=by
 rcases h with h | ⟨o,c,n,f,g,d,i,r⟩
 ·obtain⟨z,c,r,p⟩:=h.ok I.hok;rwa[c,r,p,z]
 ·exists c.toList,r,⟨o,I.kIn a o f,g,n,by simpa using d⟩;have e:=r.length;simp only[o7] at e;lia
def Inv.list_inj(I:Inv X J8 σ H s)(h:SqL X.K H a xs)(h':SqL X.K H a ys):xs=ys:=by
 obtain⟨f,r,⟨o,n,e,_,_,d⟩,_⟩:=I.list h;obtain⟨c,i,⟨j,l,g,_,_,d'⟩,_⟩:=I.list h';rw[e] at g; cases g;rw[d] at d';injection d' with d1 _
 have:f=c:=by simpa using congrArg Js d1
 subst this;rwa[r.inj i]
def Inv.tuple_inj(I:Inv X J8 σ H s)(h:SqT X.K H a xs)(h':SqT X.K H a ys):xs=ys:=by
 obtain⟨f,r,⟨o,e,_,n,d⟩,_⟩:=I.tuple h;obtain⟨c,i,⟨j,g,_,l,d'⟩,_⟩:=I.tuple h';rw[e] at g; cases g;rw[d] at d';injection d' with d1 _
 have:f=c:=by simpa using congrArg Js d1
 subst this;rwa[r.inj i]
end

abbrev Cx.wish(X:Cx)(E:c8->d7->Prop):Cx:={ X with xe:=E }
abbrev Cx.nox(X:Cx):Cx:=X.wish λ_ _=>False
def Cx.Ok.wish{X:Cx}(ok:X.Ok)(E:c8->d7->Prop):(X.wish E).Ok :=
 ⟨ok.mod,ok.kind,ok.glob,ok.blt,ok.above,ok.inj,ok.has,ok.cab,ok.hd,ok.frames,ok.stk,ok.exf,ok.bs,ok.bsz,ok.noex,ok.exfs,ok.funs,ok.frf⟩
def Cx.Ok.unwish{X:Cx}{E:c8->d7->Prop}(ok:(X.wish E).Ok):X.Ok :=
 ⟨ok.mod,ok.kind,ok.glob,ok.blt,ok.above,ok.inj,ok.has,ok.cab,ok.hd,ok.frames,ok.stk,ok.exf,ok.bs,ok.bsz,ok.noex,ok.exfs,ok.funs,ok.frf⟩
section
variable{X:Cx}{J8:List (c7×Bk)}{σ:St}{H:Hp}{s:d7}{E:c8->d7->Prop}
def Inv.wish(I:Inv X J8 σ H s)(E:c8->d7->Prop):Inv (X.wish E) J8 σ H s:=⟨I.ok.wish E,I.os,I.bare,I.base,I.loc,I.cell,I.free,I.freeC,I.pin,I.hok,I.len⟩
def Inv.unwish(I:Inv (X.wish E) J8 σ H s):Inv X J8 σ H s:=⟨I.ok.unwish,I.os,I.bare,I.base,I.loc,I.cell,I.free,I.freeC,I.pin,I.hok,I.len⟩
def SP.unwish(h:SP (X.wish E) J8 D f e):SP X J8 D f e:=by
 cases f with
 | next=>obtain⟨c,d,I,q⟩:=h; rwa[c,d,I.unwish,q]
 | brk=>obtain⟨c,d,I,q⟩:=h; rwa[c,d,I.unwish,q]
 | cont=>obtain⟨c,d,I,q⟩:=h; rwa[c,d,I.unwish,q]
 | ret u=>obtain⟨v,c,d,I,r,q⟩:=h; rwa[v,c,d,I.unwish,r,q]
def PSs.nox{st:List Ao}(h:PSs X.nox st t):PSs X st t:=λJ8 s σ H D I c =>
 AW (h J8 s σ H D (I.wish _) c) (λ_ _ q=>q.unwish) λ_ _ z=>AO z
end

section
variable{X:Cx}{st:Ao}{rest:List Ao}{t u:TS}{e:Ar}{te:TE}{pos:D5}
def tNext:TS:=λD c H=>D.nx c H
def tSeq(t u:TS):TS:=λD c H=>t { D with nx:=u D } c H
def zV:PSs X [] tNext:=λ_ _ c H _ I h=>DB ⟨c,H,I,h⟩
def zB(h1:PS X st t)(h2:PSs X rest u):PSs X (st::rest) (tSeq t u):=by
 intro d s g H D I h;refine Hx (thn (h1 d s g H { D with nx:=u D } I h) λf i q=>?_);cases f with
 | next =>
  obtain⟨c,l,j,q⟩:=q;rwa[h2 d i c l D j q]
 | ret v=>rwa[q]
 | brk=>rwa[q]
 | cont=>rwa[q]
def zE(h1:PS X st t):PSs X [st] t:=by
 intro d s c H D I h;erw[Hx (thn (h1 d s c H D I h) λf g q=>?_)];cases f with
 | next=>rwa[DB q]
 | ret v=>rwa[q]
 | brk=>rwa[q]
 | cont=>rwa[q]
def Inv.quiet{c:St}{H:Hp}(I:Inv X d c H s):interactive X.env=false:=by simp[interactive,I.ok.kind]
def tDrop(te:TE):TS:=λD c H=>te c H λ_ d=>D.nx c d
def zO(g:PE X e te)(f:swapsWith e J2 pos.line X.env=pure false:=by rfl):PS X (.Expr e pos) (tDrop te):=by
 intro i s c H D I h;rwa[wpAny_Expr_any (thn (g i s c H _ I h) λv m ⟨x,l,j,n,d⟩=>⟨c,l,j,d⟩) I.quiet f]
def tRet(te:TE):TS:=λD c H=>te c H D.rt
def zN(g:PE X e te):PS X (.Return (O e) pos) (tRet te):=by
 intro i s c H D I h;rwa[wpAny_Return_some (thn (g i s c H _ I h) λv m ⟨x,l,j,d,f⟩=>⟨x,c,l,j,d,f⟩)]
def tIfS(c:TT)(t u:TS):TS:=λD d H=>c d H λb f=>if b=J3 then t D d f else u D d f
def xL(o:PT X c i)(q:PSs X a t)(p:PSs X b u):PS X (.If c a b pos) (tIfS i t u):=by
 intro g s f H D I h;erw[wpAny_If (thn (o g s f H _ I h) λd j ⟨n,m,l⟩=>?_)];cases d with
 | true=>rwa[q g j f n D m l]
 | false=>rwa[p g j f n D m l]
end

abbrev TG:=V->St->Hp->(St->Hp->Prop)->Prop
abbrev TGs:=List V->St->Hp->(St->Hp->Prop)->Prop
def PG(X:Cx)(c:Ar)(t:TG):Prop :=
 ∀(f:List (c7×Bk))(s:d7)(e:St)(H:Hp)(v:V)(u:c8)(Q:St->Hp->Prop),Inv X f e H s->xV v u->t v e H Q ->
  wpAny 'b' X.A (assign c X.env u) (λ_ h=>∃ d g,Inv X f d g h/\Q d g) X.xe s
def PGs(X:Cx)(i:List Ar)(t:TGs):Prop :=
 ∀(g:List (c7×Bk))(s:d7)(d:St)(H:Hp)(e:List V)(f:List c8)(Q:St->Hp->Prop),Inv X g d H s->yY e f->t e d H Q ->
  wpAny 'b' X.A (assignInOrder ((assignEach i X.env).map (·.2)) f) (λ_ j=>∃ c h,Inv X g c h j/\Q c h) X.xe s
abbrev Of:=V->V->V->Hp->(Hp->Prop)->Prop
def PSet(X:Cx)(t:Of):Prop :=
 ∀(f:List (c7×Bk))(s:d7)(c:St)(H:Hp)(o i v:V)(d e u:c8)(Q:Hp->Prop),Inv X f c H s->xV o d->xV i e->xV v u->t o i v H Q ->
  wpAny 'b' X.A (setItem d e u) (λ_ h=>∃ g,Inv X f c g h/\Q g) X.xe s
section
variable{X:Cx}{pos:D5}
def Za(i:Nat):TG:=λv c H Q=>Q (c.set i (O v)) H
def iU{i:Nat}(e:X.N.Nodup)(hi:X.N[i]?=O x)(c:Loc X.env.scope x)(d:X.fn x=J3\/X.env.scope.names.lookup x=O .local:=by first | exact .inl rfl | exact .inr rfl | assumption):PG X (.Name x pos) (Za i):=by
 intro l s g H v u Q I r h;rwa[G8 (ml I e hi c r (λj f=>⟨_,H,f,h⟩) d)]
def gNil:TGs:=λd c H Q=>d=[]/\Q c H
def gCons(t:TG)(u:TGs):TGs:=λe d H Q=>E2 λv r=>e=v::r/\t v d H λc f=>u r c f Q
def pc:PGs X [] gNil:=by
 intro g s c H d f Q I r h;obtain⟨e,h⟩:=h;subst e;cases r;rwa[assignInOrder_nil ⟨c,H,I,h⟩]
def wX(h1:PG X e t)(h2:PGs X c u)
  (m:(assignEach (e::c) X.env).map (·.2)=assign e X.env::(assignEach c X.env).map (·.2):=by rfl):PGs X (e::c) (gCons t u):=by
 intro f s g H q x Q I r h;obtain⟨v,w,n,h⟩:=h;subst n;cases r with
 | cons r j =>
  rw[m];erw[assignInOrder_cons (thn (h1 f s g H _ _ _ I r h) λ_ i ⟨d,p,o,l⟩=>?_)];rwa[h2 f i d p _ _ Q o j l]
def gTup(K:c5)(n:Nat)(t:TGs):TG:=λv c H Q=>E2 λa xs=>A4 (v=.ref a) (SqT K H a xs) (xs.length=n) (t xs c H Q)
def jU{k:Nat}{n:Nat}(y:X.calm=J3)(h:PGs X c t)
  (w:(assignEach c X.env).length=n:=by rfl) (f:(assignEach c X.env).findIdx? (·.1)=none:=by rfl):PG X (.Tuple c k pos) (gTup X.K n t):=by
 intro j s g H v u Q I r d;obtain⟨a,xs,A,q,x,d⟩:=d;subst A;cases r;obtain⟨l,i,p,C⟩:=I.tuple q;erw[assign_Tuple_tuple (I.ok.hd y) p (by simp[w,<- x,i.length]) f λz m=>?_];have B:Inv X j g H { s with heap:=z }:=I.kept (t':=s.toks) λb o e=>m b o (t8 (m7 e)) e;exact h j _ g H xs _ Q B (by simpa using i) d
def gSub(to d:TE)(t:Of):TG:=λv c H Q=>to c H λo g=>d c g λi f=>t o i v f λe=>Q c e
def Pe{to g:TE}(A:PE X o to)(hi:PE X i g)(z:PSet X t)
  (B:∀ v,assign (.Subscript o i pos) X.env v=(do
   let c <- holding [v] (eval o X.env)
   let d <- holding [v,c] (eval i X.env)
   standAt pos
   holding [v,c,d] (setItem c d v)
   release [v,c,d] []):=by intro _; rfl):PG X (.Subscript o i pos) (gSub to g t):=by
 intro f s e H v u Q I r h;rw[B];erw[c9 (Cc (thn (A f s e H _ I h) λc l ⟨x,L,E,n,w⟩=>?_))];erw[c9 (Cc (thn (hi f l e L _ E w) λd j ⟨y,J,D,m,q⟩=>?_))];erw[c9 (Dw (c9 (Cc (thn (z f j e J x y v c d u _ D n m r q) λ_ M ⟨G,C,p⟩=>?_))))];rwa[wpAny_release ⟨e,G,C,p⟩]
def Ol(d:TE)(g:TG):TS:=λD c H=>d c H λx e=>g x c e D.nx
def aK{f:TE}(r:PE X e f)(p:PG X c g)(o:swapsWithSole [c] e pos.line X.env=pure false:=by rfl)(n:swappedStores [c] e X.env=pure none:=by rfl)
  (h1:(assignEach [c] X.env).map (·.2)=[assign c X.env]:=by rfl):PS X (.Assign [c] e pos) (Ol f g):=by
 intro i s d H D I h;erw[wpAny_Assign_stores (thn (r i s d H _ I h) λv j ⟨x,w,u,l,m⟩=>?_) o n];rw[h1];rwa[thn (p i j d w x v _ u l m) λ_ y q=>q]
def aV{i:Nat}{c:TE}(o:X.N.Nodup)(hi:X.N[i]?=O x)(j:Loc X.env.scope x)(n:PE X e c)(l:swapsWith e (O (.Name x pos')) pos.line X.env=pure false:=by rfl)(m:X.fn x=J3\/X.env.scope.names.lookup x=O .local:=by first | exact .inl rfl | exact .inr rfl | assumption) :
  PS X (.Assign [.Name x pos'] e pos) (Ol c (Za i)):=by
 intro p s d H D I h;erw[wpAny_Assign_Name (thn (n p s d H _ I h) λv z ⟨y,u,r,f,g⟩=>?_) l];rwa[ml r o hi j f (λw q=>⟨_,u,q,g⟩) m]
def tPar(i j:Nat)(e:TA):TS:=λD c H=>e c H λd f=>E2 λv w=>d=[v,w]/\D.nx ((c.set i (O v)).set j (O w)) f
def jW{i j:Nat}{a b:Ar}{kt k2 pt2}(hc:X.calm=J3)(J:X.N.Nodup)(hi:X.N[i]?=O x)(hj:X.N[j]?=O y)(z:i≠j)
  (G:X.env.scope.names.lookup x=O .local) (E:X.env.scope.names.lookup y=O .local) (ha:PA X [a,b] C)
  (hw:swappedStores [.Tuple [.Name x r,.Name y n] kt pt] (.Tuple [a,b] k2 pt2) X.env=pure (O [x,y]))
  (hs:swapsWithSole [.Tuple [.Name x r,.Name y n] kt pt] (.Tuple [a,b] k2 pt2) pos.line X.env=pure false:=by rfl) :
  PS X (.Assign [.Tuple [.Name x r,.Name y n] kt pt] (.Tuple [a,b] k2 pt2) pos) (tPar i j C):=by
 intro M s B H D I h;rw[exec_Assign_arm];refine c9 (Dw ?_);rw[hs];refine c9 (i5 ?_);rw[y4 'a'];refine c9 (Tuple_ (thn (ha _ M s B H _ I h) λR g ⟨vs,Q,I1,T,m⟩=>?_));obtain⟨v,w,e1,m⟩:=m;subst e1;obtain⟨f,d,rfl,S,l⟩:∃ f d,R=[f,d]/\xV v f/\xV w d:=by
  cases T with
  | cons p q =>
   cases q with
   | cons Z Y =>
    cases Y;rwa[_,_,rfl,p,Z]
 refine AI ?_ (by show 2<=sizeLine; decide);have I2:Inv X M B Q { g with heap:=g.heap.push { cls:=.type "tuple",data:=.seq [f,d].toArray } }:=I1.kept (t':=g.toks) λb o e=>e9 _ e;rw[hw];erw[c9 (i5 ?_)];show wpAny 'b' X.A (do rule "assign.swapped-stores"; let c <- unpackItems (.ref g.heap.objs.size) 2 J2; assignInOrder [λv=>bindName X.env y v,λv=>bindName X.env x v] c.reverse; pure Flow.next) _ _ _;erw[c9 (GY (c9 (unpackItems_tuple (items:=#[f,d]) (I.ok.hd hc) (Hy g.heap _) λL u=>?_)))];have I3:=I2.kept (h':=L) (t':=g.toks) λb o e=>u b o (t8 (m7 e)) e;show wpAny _ _ (assignInOrder [λv=>bindName X.env y v,λv=>bindName X.env x v] [d,f] >>= λ_=>pure Flow.next) _ _ _;erw[c9 (assignInOrder_cons (wpAny_bindName (ml I3 J hj (.inl E) l (λs2 I4=>?_) (.inr E))))];erw[assignInOrder_cons (wpAny_bindName (ml I4 J hi (.inl G) S (λs3 P=>assignInOrder_nil (i5 ?_)) (.inr G)))];rw[List.set_comm _ _ (Bi z)] at P;rwa[_,Q,P,m]
end

section
variable{X:Cx}{pos:D5}
def TZ(c:TT)(i:TS):TS:=λD d H=>∃ W:Nat->St->Hp->Prop,(∃ m,W m d H)/\∀ m d H,W m d H->c d H λb g=>if b=J3 then ∃ N:St->Hp->Prop,(∀ e h,N e h->∃ f,f<m/\W f e h)/\i { D with nx:=N,ct:=N,bk:=D.nx } d g else D.nx d g
def nK(y:PassesOwn 'b' X.A X.env X.xe)(S:PT X c u)(T:PSs X body x):PS X (.While c body [] pos) (TZ u x):=by
 intro q s J H D I h;obtain⟨W,⟨R,L⟩,turn⟩:=h;erw[wpAny_While (codeAny_whileLoop (λn Q=>∃ g G,Inv X q g G Q/\W n g G) ?_ R ⟨J,H,I,L⟩)];rintro n P ⟨e,E,Y,w1⟩;erw[Co y (thn (S q P e E _ Y (turn n e E w1)) λb M ⟨C,B,l⟩=>?_)];cases b with
 | true =>
  obtain⟨N,z,l⟩:=l;rw[y6 rfl];erw[Co y (thn (T q M e C _ B l) λf Z j=>?_)];cases f with
  | next =>
   obtain⟨d,i,r,n3⟩:=j;obtain⟨o,p,m⟩:=z d i n3;rwa[o,p,d,i,r,m]
  | cont =>
   obtain⟨d,i,r,n3⟩:=j;obtain⟨o,p,m⟩:=z d i n3;rwa[o,p,d,i,r,m]
  | brk=>rwa[j]
  | ret v=>rwa[j]
 | false =>
  rw[y4 o4];rwa[DB ⟨e,C,B,l⟩]
end

structure It where
 go:Nat->Hp->Prop
 yld:Nat->Hp->V->Hp->Prop
 stop:Nat->Hp->Prop
def bY(X:Cx)(d:List (c7×Bk))(H:Hp)(b:c7):Prop :=
 H b=J2/\b≠X.env.locals/\b ∉ X.fs/\(b∈X.ex\/X.s₀.heap.objs.size<=b)/\(∀ x c,X.env.cells.lookup x=O c->c≠b)/\∀ p∈X.pn++d,p.1≠b
def Inv.fpOk{g:St}{H H':Hp}{b:c7}(I:Inv X f g H s)(d:s.heap.objs.size<=b)(i:H' b=J2):bY X f H' b:=by
 erw[i,DS (o3 I.lt d),I.nofs d,.inr (i4 I.sz d),λx c e z=>?_,λp h z=>?_]
 ·obtain⟨v,q⟩:=I.cell x c e;rwa[y9 (o3 q.lt (by rw[z]; exact d)) (Bg _)]
 ·rwa[y9 (o3 (m7 (I.pin p h).1) (by rw[z]; exact d)) (Bg _)]
structure Sx(P:o0)(w:t7)(K:c5)(tg:Ar)(J:It)(fp:List c7)(it:c7)(tn:Nat->Aa->Prop):Prop where
 mem:it∈fp
 obj:∀ i h,tn i h->∀ b∈fp,∃ o,h.get? b=O o/\∀ v,o.data≠.cell v
 keep:∀ i h h',tn i h->(∀ b∈fp,∀ o,h.get? b=O o->h'.get? b=O o)->tn i h'
 item:∀(X:Cx),X.prog=P->X.w=w->X.K=K->X.calm=J3->∀(i:Nat)(J8:List (c7×Bk))(s:d7)(σ:St)(H:Hp)(E:c8->d7->Prop),Inv X J8 σ H s->(∀ b∈fp,bY X J8 H b)->tn i s.heap->J.go i H ->
  wpAny (model P w) X.A (pyNext (.ref it)) (λr s1=>∃ u,r=O u /\
   wpAny (model P w) X.A (letOwnedTupleGo tg (.ref it) u) (λ_ s2=>∃ x H',Inv X J8 σ H' s2/\xV x u/\J.yld i H x H'/\tn (i+1) s2.heap/\∀ b∈fp,H' b=J2) E s1) E s
 done:∀(X:Cx),X.prog=P->X.w=w->X.K=K->X.calm=J3->∀(i:Nat)(J8:List (c7×Bk))(s:d7)(σ:St)(H:Hp)(E:c8->d7->Prop),Inv X J8 σ H s->(∀ b∈fp,bY X J8 H b)->tn i s.heap->J.stop i H ->
  wpAny (model P w) X.A (pyNext (.ref it)) (λr s1=>r=J2/\Inv X J8 σ H s1) E s
 self:∀(A:Ak)(i:Nat)(s:d7)(Q:c8->d7->Prop)(E:c8->d7->Prop),tn i s.heap->Q (.ref it) s->wpAny (model P w) A (pyIter (.ref it)) Q E s
abbrev TI:=St->Hp->(It->Hp->Prop)->Prop
def PIE(X:Cx)(g:List (c7×Bk))(h:St)(i:Ar)(R:It->Hp->Prop)(c:c8)(e:d7):Prop :=
 ∃(f:c7)(fp:List c7)(tn:Nat->Aa->Prop)(J:It)(d:Hp),c=.ref f/\Inv X g h d e/\Sx X.prog X.w X.K i J fp f tn/\tn 0 e.heap/\(∀ b∈fp,bY X g d b)/\R J d
def PI(X:Cx)(f iter:Ar)(e:TI):Prop :=
 ∀(d:List (c7×Bk))(s:d7)(c:St)(H:Hp)(R:It->Hp->Prop),Inv X d c H s->e c H R ->
  wpAny 'b' X.A (eval iter X.env) (λv g=>wpAny 'b' X.A (pyIter v) (PIE X d c f R) X.xe g) X.xe s

def bv{E:c8->d7->Prop}{s:d7}{Q:Unit->d7->Prop}(g:s.heap.get? f=O o)(j:o.cls=.type n)(hd:o.data=.fields d)
  (i:["enumerate","zip","dict_itemiterator","dict_reverseitemiterator","odict_iterator","itertools.zip_longest","itertools.pairwise"].contains n=J7) (c:Q () s):wpAny M A (letOwnedTupleGo e (.ref f) u) Q E s:=by
 unfold letOwnedTupleGo;cases e <;> first
  | exact i5 c
  | (cases u <;> first
    | exact i5 c
    | (refine c9 (wpAny_load g ?_)
       rw[j,hd];show wpAny M A (if (["enumerate","zip","dict_itemiterator","dict_reverseitemiterator","odict_iterator","itertools.zip_longest","itertools.pairwise"].contains n&&d[0]? == O (rawInt _))=J3 then _ else _) Q E s;rw[y4 (by intro h; rw[i,EJ] at h; cases h)];rwa[i5 c]))

def Itl(K:c5)(a:c7):It :=
 ⟨λi H=>∃ xs x,SqL K H a xs/\xs[i]?=O x,λi H x c=>c=H/\∀ xs,SqL K H a xs->xs[i]?=O x,λi H=>∃ xs,SqL K H a xs/\xs.length<=i⟩
def Itt(K:c5)(a:c7):It :=
 ⟨λi H=>∃ xs x,SqT K H a xs/\xs[i]?=O x,λi H x c=>c=H/\∀ xs,SqT K H a xs->xs[i]?=O x,λi H=>∃ xs,SqT K H a xs/\xs.length<=i⟩
def Itr(lo:Int)(n:Nat):It:=⟨λi _=>i<n,λi H x c=>c=H/\x=.int (lo+i),λi _=>n<=i⟩
def dF{K:c5}(a f:c7):Sx P w K T (Itl K a) [f] f (λi h=>h.IsListIter f a i) where
 mem:=by simp
 obj:=λi h st b g=>by
  have e:b=f:=by simpa using g
  subst e;obtain⟨o,e,c,d⟩:=st;exact⟨o,e,λv z=>by rw[d] at z; cases z⟩
 keep:=λi h n st k=>st.at λo e=>k f 'd' o e
 item:=by
  intro X C A D R i S s Q H E I m st B;subst C A D;obtain⟨xs,x,l,y⟩:=B;obtain⟨r,q,p,Z⟩:=I.list l;obtain⟨u,hu,ru⟩:=q.get y;obtain⟨N,M,f2,L,J,G⟩:=m f 'd';refine wpAny_pyNext_list_item st p.isList (x:=u) (by simpa using hu) λn j Y=>?_;have I1:Inv X S Q H { s with heap:=n }:=I.turned (t':=s.toks) (λb o g e=>(Y.2 b g).trans e) N M L J G;obtain⟨o,e,c,d⟩:=id j;exact⟨u,U,bv (s:={ s with heap:=n }) e c d 'a' ⟨x,H,I1,ru,⟨U,λys hy=>by rw[I.list_inj hy l]; rwa[y]⟩,j,λb g=>(m b g).1⟩⟩
 done:=by
  intro X C A D R i S s Q H E I m st B;subst C A D;obtain⟨xs,l,y⟩:=B;obtain⟨r,q,p,Z⟩:=I.list l;obtain⟨N,M,f2,L,J,G⟩:=m f 'd';have hl:=q.length;rwa[wpAny_pyNext_list_end (I.ok.hd R) st p.isList (by simp; lia) λn eb=>⟨rfl,I.turned (t':=s.toks) (λb o g e=>eb b o g e) N M L J G⟩]
 self:=λ_ _ _ _ _ st h=>wpAny_pyIter_listiter st h
def Yw{K:c5}(a g:c7):Sx P w K T (Itt K a) [g] g (λi h=>h.IsTupleIter g a i) where
 mem:=by simp
 obj:=λi h st b j=>by
  have e:b=g:=by simpa using j
  subst e;obtain⟨o,e,c,d⟩:=st;exact⟨o,e,λv z=>by rw[d] at z; cases z⟩
 keep:=λi h q st k=>st.at λo e=>k g 'd' o e
 item:=by
  intro X C A D R i S s Q H E I n st B;subst C A D;obtain⟨xs,x,m,y⟩:=B;obtain⟨f,r,p,Z⟩:=I.tuple m;obtain⟨u,hu,ru⟩:=r.get y;obtain⟨N,M,f2,L,J,G⟩:=n g 'd';refine wpAny_pyNext_tuple_item st (show s.heap.IsTuple a f.toArray from p) (x:=u) (by simpa using hu) λq l Y=>?_;have I1:Inv X S Q H { s with heap:=q }:=I.turned (t':=s.toks) (λb o j e=>(Y.2 b j).trans e) N M L J G;obtain⟨o,e,c,d⟩:=id l;exact⟨u,U,bv (s:={ s with heap:=q }) e c d 'a' ⟨x,H,I1,ru,⟨U,λys hy=>by rw[I.tuple_inj hy m]; rwa[y]⟩,l,λb j=>(n b j).1⟩⟩
 done:=by
  intro X C A D R i S s Q H E I n st B;subst C A D;obtain⟨xs,m,y⟩:=B;obtain⟨f,r,p,Z⟩:=I.tuple m;obtain⟨N,M,f2,L,J,G⟩:=n g 'd';have hl:=r.length;exact wpAny_pyNext_tuple_end (I.ok.hd R) st (show s.heap.IsTuple a f.toArray from p) (by simp; lia) λq eb=>⟨rfl,I.turned (t':=s.toks) (λb o j e=>eb b o j e) N M L J G⟩
 self:=λ_ _ _ _ _ st h=>wpAny_pyIter_tupleiter st h
def Yy{K:c5}(c:c7)(lo:Int)(n:Nat):Sx P w K L (Itr lo n) [c] c (λi h=>IsRangeIter h c (lo+(i:Nat)*1) ((n:Int)-(i:Nat)) 1) where
 mem:=by simp
 obj:=λi h st b d=>by
  have e:b=c:=by simpa using d
  subst e;exact⟨_,st,λv z=>by
   have J:Data.fields _=Data.cell v:=z;cases J⟩
 keep:=λi h j st k=>k c 'd' _ st
 item:=by
  intro X q l r p i G s C H E I g st m;subst q l r;obtain⟨B,A,Q,y,x,u⟩:=g c 'd';have W:=Walks.range (prog:=X.prog) (w:=X.w) (I.ok.hd p) c lo 1 n;erw[W.item i s _ _ m st λv j D N f M=>?_];obtain⟨t,rfl⟩:=N;have S:Inv X G C H { s with heap:=j,toks:=D }:=I.turned (λb o d e=>M b o (by simpa using d) e) B A y x u;refine⟨_,U,bv (s:={ s with heap:=j,toks:=D }) (n := "range_iterator") f rfl rfl 'a' ⟨.int (lo+i),H,S,⟨t,?_⟩,⟨U,U⟩,f,λb d=>(g b d).1⟩⟩;rw[HV]
 done:=by
  intro X q l r p i G s C H E I g st m;subst q l r;obtain⟨B,A,Q,y,x,u⟩:=g c 'd';exact wpAny_pyNext_range_end (I.ok.hd p) st (by have:n<=i:=m; lia) λj R=>⟨rfl,I.turned (t':=s.toks) (λb o d e=>R b o d e) B A y x u⟩
 self:=λ_ _ _ _ _ st h=>wpAny_pyIter_rangeiter st h
end L2

namespace L2
section
variable{X:Cx}{tg:Ar}
def iList(K:c5)(tl:TE):TI:=λd H R=>tl d H λx c=>∃ a,A3 (x=.ref a) (∃ xs,SqL K c a xs) (R (Itl K a) c)
def Vp{tl:TE}(n:PE X l tl):PI X tg l (iList X.K tl):=by
 intro u s f H R I h;erw[thn (n u s f H _ I h) λv c ⟨x,w,d,g,i⟩=>?_];obtain⟨a,e,⟨xs,m⟩,q⟩:=i;subst e;cases g;obtain⟨j,y,p,z⟩:=d.list m;erw[DT p.isList ?_];erw[c.heap.objs.size,[c.heap.objs.size],_,_,w,rfl,d.kept (t':=c.toks) λb o e=>e9 _ e,dF a _,⟨_,n9 _ rfl,rfl,rfl⟩,λb r=>?_,q];have e:b=c.heap.objs.size:=by simpa using r
 subst e;rwa[d.fpOk (f7 _) (d.hok.fresh (f7 _))]
def aj{c:St}{H:Hp}{R:It->Hp->Prop}{E:c8->d7->Prop}{lo hi:Int}{d:Nat}(I:Inv X f c H s)(h1 : -(2^62)<=lo)(h2:lo<2^62)(h3 : -(2^62)<=hi)(h4:hi<2^62)
  (q:R (Itr lo (hi-lo).toNat) H):wpAny 'b' X.A (pyIter (.ref s.heap.objs.size)) (PIE X f c tg R) E { s with heap:=s.heap.push { cls:=.type "range",data:=.fields #[.int lo t,.int hi u,.int 1 v] },toks:=d }:=by
 refine wpAny_pyIter_range (IsRange.new ..) (small_one h1 h2 h3 h4) ?_;have g:Inv X f c H { s with heap:=s.heap.push { cls:=.type "range",data:=.fields #[.int lo t,.int hi u,.int 1 v] },toks:=d }:=I.kept λb o e=>e9 _ e;refine⟨(s.heap.push { cls:=.type "range",data:=.fields #[.int lo t,.int hi u,.int 1 v] }).objs.size,[(s.heap.push { cls:=.type "range",data:=.fields #[.int lo t,.int hi u,.int 1 v] }).objs.size],_,_,H,U,
  g.kept (t':=d) λb o e=>e9 _ e,Yy _ lo (hi-lo).toNat,?_,λb h=>?_,q⟩
 ·have j:lo+((0:Nat):Int)*1=lo:=by simp
  have i:(((hi-lo).toNat:Nat):Int)-((0:Nat):Int)=Jm lo hi 1:=by rw[rangeSize_one]; split <;> lia
  show IsRangeIter _ _ (lo+((0:Nat):Int)*1) ((((hi-lo).toNat:Nat):Int)-((0:Nat):Int)) 1;rw[j,i];rwa[n9 _ rfl]
 ·have e:b=(s.heap.push { cls:=.type "range",data:=.fields #[.int lo t,.int hi u,.int 1 v] }).objs.size:=by simpa using h
  subst e;rwa[g.fpOk (f7 _) (g.hok.fresh (f7 _))]
def iRng1(e:TA):TI:=λc H R=>e c H λd f=>∃ j:Int,A4 (d=[.int j]) (-(2^62)<=j) (j<2^62) (R (Itr 0 j.toNat) f)
def iRng2(e:TA):TI:=λc H R=>e c H λd f=>E2 λ(i j:Int)=>A3 (d=[.int i,.int j]) (A4 (-(2^62)<=i) (i<2^62) (-(2^62)<=j) (j<2^62)) (R (Itr i (j-i).toNat) f)
def xP{a:Ar}(o:Gl X "range")(n:X.mg "range" = J2)(u:PA X [a] d)(m:starEach [a] X.env=[(J7,eval a X.env)]:=by rfl):PI X tg (.Call (.Name "range" p) [a] [] pos) (iRng1 d):=by
 intro v s f H R I h;erw[Call_ (ae I o n boot_range (C6 (thn (u pos v s f H _ I h) λy z ⟨x,A,w,i,c⟩=>?_) m rfl))];obtain⟨j,e,c,l,q⟩:=c;subst e;cases i with
 | cons r g =>
  cases g;obtain⟨t,rfl⟩:=r;exact call_range_1 (aj w (by lia) (by lia) c l (by simpa using q))
def YL{a b:Ar}(y:Gl X "range")(x:X.mg "range" = J2)(z:PA X [a,b] g)(w:starEach [a,b] X.env=[(J7,eval a X.env),(J7,eval b X.env)]:=by rfl)(c:starEach [b] X.env=[(J7,eval b X.env)]:=by rfl) :
  PI X tg (.Call (.Name "range" p) [a,b] [] pos) (iRng2 g):=by
 intro A s l H R I h;erw[Call_ (ae I y x boot_range (C6 (thn (z pos A s l H _ I h) λD G ⟨C,J,B,m,f⟩=>?_) (by rw[w,c]) (by rw[c]; rfl)))];obtain⟨i,j,e,⟨f,v,u,o⟩,q⟩:=f;subst e;cases m with
 | cons r d =>
  cases d with
  | cons n d =>
   cases d;obtain⟨t,rfl⟩:=r;obtain⟨E,rfl⟩:=n;rwa[call_range_2 (aj B f v u o q)]

def tFor(j:TI)(g:TG)(l:TS):TS:=λD c H=>j c H λJ o=>∃ W:Nat->Nat->St->Hp->Prop,(∃ m,W 0 m c o)/\∀ i m c H,W i m c H->(J.stop i H/\D.nx c H)\/(J.go i H/\∃ N:St->Hp->Prop,(∀ d e,N d e->∃ h,h<m/\W (i+1) h d e)/\∀ x e,J.yld i H x e->g x c e λf n=>l { D with nx:=N,ct:=N,bk:=D.nx } f n)
def kP(fp:List c7)(h:Aa):List (c7×Bk):=fp.filterMap λb=>(h.get? b).map λo=>(b,o)
def uW{fp:List c7}{h:Aa}{b:c7}(c:b∈fp)(e:h.get? b=O o):(b,o)∈kP fp h:=CS.mpr ⟨b,c,by rw[e]; rfl⟩
def YM{p:c7×Bk}(c:p∈kP fp h):p.1∈fp/\h.get? p.1=O p.2:=by
 obtain⟨b,d,e⟩:=CS.mp c;cases q:h.get? b with
 | none=>rw[q] at e; cases e
 | some o =>
  rw[q] at e;have f:(b,o)=p:=t6 e;subst f;rwa[d,q]
def Inv.pinned{f:St}{H:Hp}{fp:List c7}(I:Inv X c f H s)(l:∀ b∈fp,bY X c H b)(j:∀ b∈fp,∃ o,s.heap.get? b=O o/\∀ v,o.data≠.cell v):Inv X (c++kP fp s.heap) f H s :=
 I.pins_of λp i=>(j5.mp i).elim (λz=>I.pin p (t5 _ z)) λz=>by
  obtain⟨g,e⟩:=YM z;obtain⟨q,n,m,_⟩:=l p.1 g;obtain⟨o,h,d⟩:=j p.1 g;rw[e] at h; cases h;rwa[e,q,n,m,d]
def Inv.unpinned{d e:List (c7×Bk)}{c:St}{H:Hp}(I:Inv X (d++e) c H s):Inv X d c H s:=I.pins_of λp f=>I.pin p (t5 _ (Bb _ f))
def xH{iter:Ar}(P:PassesOwn 'b' X.A X.env X.xe)(hc:X.calm=J3)(hi:PI X tg iter wi)(hg:PG X tg g)(q:PSs X body tb)
  (hs:∀ x,foldedSetIterable iter X.env x=pure x:=by intro _; rfl):PS X (.For tg iter body [] pos) (tFor wi g tb):=by
 intro G s σ H D I h;erw[wpAny_For (thn (hi G s σ H _ I h) λv s1 h1=>thn h1 λitv s2 h2=>?_) hs];obtain⟨it,fp,tn,J,H2,e,I2,T,Y,f2,W,⟨m0,w0⟩,turn⟩:=h2;subst e;have p:∀{B:Hp},(∀ b∈fp,B b=J2)->∀ b∈fp,bY X G B b:=λhn b q=>⟨hn b q,(f2 b q).2⟩;erw[codeAny_forLoop_any (λn s'=>∃ i l B,Inv X G l B s'/\tn i s'.heap/\(∀ b∈fp,B b=J2)/\W i n l B) ?_ m0 ⟨0,σ,H2,I2,Y,λb q=>(f2 b q).1,w0⟩];rintro n s3 ⟨i,j,R,I3,L,Q,w3⟩;rcases turn i n j R w3 with ⟨stop,qn⟩ | ⟨go,N,hN,step⟩
 ·erw[Co P (thn (T.done X rfl rfl rfl hc i G s3 j R X.xe I3 (p Q) L stop) λr s4 ⟨hr,I4⟩=>?_)];subst hr;rwa[DB ⟨j,R,I4,qn⟩]
 ·refine Co P (thn (T.item X rfl rfl rfl hc i G s3 j R X.xe I3 (p Q) L go) λr s4 ⟨u,hr,h4⟩=>?_);subst hr;refine Co P (thn h4 λ_ s5 ⟨x,H5,I5,r5,y5,E,fr5⟩=>?_);have I5':=I5.pinned (p fr5) (T.obj _ _ E);refine Co P (thn (hg _ s5 j H5 x u _ I5' r5 (step x H5 y5)) λ_ s6 ⟨S,H6,I6,q6⟩=>?_);refine Co P (thn (q _ s6 S H6 _ I6 q6) λf Z C=>?_);have again:∀{c:St}{z:Hp},Inv X (G++kP fp s5.heap) c z Z->N c z->∃ m,m<n/\∃ i l B,Inv X G l B Z/\tn i Z.heap/\(∀ b∈fp,B b=J2)/\W i m l B:=λ{c z} y M=>by
   obtain⟨m',hm,w7⟩:=hN c z M;erw[m',hm,i+1,c,z,y.unpinned,T.keep _ _ _ E λb q o e=>(y.pin (b,o) (t5 _ (t5 _ (uW q e)))).1,λb q=>?_,w7];obtain⟨o,e,d⟩:=T.obj _ _ E b q;exact(y.pin (b,o) (t5 _ (t5 _ (uW q e)))).2.1
  cases f with
  | next=>obtain⟨c,z,y,M⟩:=C; rwa[again y M]
  | cont=>obtain⟨c,z,y,M⟩:=C; rwa[again y M]
  | brk=>obtain⟨c,z,y,C⟩:=C; rwa[c,z,y.unpinned,C]
  | ret v=>obtain⟨x7,c,z,y,r7,C⟩:=C; rwa[x7,c,z,y.unpinned,r7,C]
end

def xM{K:c5}{xs:List V}{g:TG}{o:TS}{D:Wi}{c:St}{H:Hp}(d:Nat->St->Hp->Prop)(h0:d 0 c H)(v:∀ i c H,i<=xs.length->d i c H->SqL K H a xs)
  (u:∀ i x c H,xs[i]?=O x->d i c H->g x c H λf n=>o { D with nx:=d (i+1),ct:=d (i+1),bk:=D.nx } f n) (hd:∀ c H,d xs.length c H->D.nx c H) :
  ∃ W:Nat->Nat->St->Hp->Prop,(∃ m,W 0 m c H)/\∀ i m c H,W i m c H ->
   ((Itl K a).stop i H/\D.nx c H)\/((Itl K a).go i H/\∃ N:St->Hp->Prop,(∀ h j,N h j->∃ r,r<m/\W (i+1) r h j)/\∀ x j,(Itl K a).yld i H x j->g x c j λf n=>o { D with nx:=N,ct:=N,bk:=D.nx } f n):=by
 exists λi m c H=>m=xs.length-i/\i<=xs.length/\d i c H,⟨xs.length,by simp,x6 _,h0⟩;rintro i m c H ⟨rfl,hi,p⟩;have q:=v i c H hi p;by_cases l:i<xs.length
 ·erw[.inr ⟨⟨xs,xs[i],q,by simp[l]⟩,d (i+1),λh j s=>⟨xs.length-(i+1),by lia,rfl,l,s⟩,λx j y=>?_⟩];obtain⟨e,y⟩:=y;subst e;rwa[u i x c _ (y xs q) p]
 ·have e:i=xs.length:=by lia
  subst e;rwa[.inl ⟨⟨xs,q,f7 _⟩,hd c H p⟩]
def YU{K:c5}{xs:List V}{g:TG}{o:TS}{D:Wi}{c:St}{H:Hp}(d:Nat->St->Hp->Prop)(h0:d 0 c H)(v:∀ i c H,i<=xs.length->d i c H->SqT K H a xs)
  (u:∀ i x c H,xs[i]?=O x->d i c H->g x c H λf n=>o { D with nx:=d (i+1),ct:=d (i+1),bk:=D.nx } f n) (hd:∀ c H,d xs.length c H->D.nx c H) :
  ∃ W:Nat->Nat->St->Hp->Prop,(∃ m,W 0 m c H)/\∀ i m c H,W i m c H ->
   ((Itt K a).stop i H/\D.nx c H)\/((Itt K a).go i H/\∃ N:St->Hp->Prop,(∀ h j,N h j->∃ r,r<m/\W (i+1) r h j)/\∀ x j,(Itt K a).yld i H x j->g x c j λf n=>o { D with nx:=N,ct:=N,bk:=D.nx } f n):=by
 exists λi m c H=>m=xs.length-i/\i<=xs.length/\d i c H,⟨xs.length,by simp,x6 _,h0⟩;rintro i m c H ⟨rfl,hi,p⟩;have q:=v i c H hi p;by_cases l:i<xs.length
 ·erw[.inr ⟨⟨xs,xs[i],q,by simp[l]⟩,d (i+1),λh j s=>⟨xs.length-(i+1),by lia,rfl,l,s⟩,λx j y=>?_⟩];obtain⟨e,y⟩:=y;subst e;rwa[u i x c _ (y xs q) p]
 ·have e:i=xs.length:=by lia
  subst e;rwa[.inl ⟨⟨xs,q,f7 _⟩,hd c H p⟩]
def uC{lo:Int}{n:Nat}{g:TG}{q:TS}{D:Wi}{c:St}{H:Hp}(j:Nat->St->Hp->Prop)(h0:j 0 c H)
  (u:∀ i c H,i<n->j i c H->g (.int (lo+i)) c H λd o=>q { D with nx:=j (i+1),ct:=j (i+1),bk:=D.nx } d o) (hd:∀ c H,j n c H->D.nx c H) :
  ∃ W:Nat->Nat->St->Hp->Prop,(∃ m,W 0 m c H)/\∀ i m c H,W i m c H ->
   ((Itr lo n).stop i H/\D.nx c H)\/((Itr lo n).go i H/\∃ N:St->Hp->Prop,(∀ f l,N f l->∃ r,r<m/\W (i+1) r f l)/\∀ x l,(Itr lo n).yld i H x l->g x c l λd o=>q { D with nx:=N,ct:=N,bk:=D.nx } d o):=by
 exists λi m c H=>m=n-i/\i<=n/\j i c H,⟨n,by simp,x6 _,h0⟩;rintro i m c H ⟨rfl,hi,p⟩;by_cases h:i<n
 ·erw[.inr ⟨h,j (i+1),λf l s=>⟨n-(i+1),by lia,rfl,h,s⟩,λx l y=>?_⟩];obtain⟨e,y⟩:=y;subst e y;rwa[u i c _ h p]
 ·have e:i=n:=by lia
  subst e;rwa[.inl ⟨f7 _,hd c H p⟩]
def uk{c:TT}{j:TS}{D:Wi}{d:St}{H:Hp}(i:St->Hp->Prop)(h:St->Hp->Nat)(h0:i d H)
  (r:∀ d H,i d H->c d H λb f=>if b=J3 then j { D with nx:=λe g=>i e g/\h e g<h d H,ct:=λe g=>i e g/\h e g<h d H,bk:=D.nx } d f else D.nx d f)
  (mono:∀ d H Q n,(∀ b f,Q b f->n b f)->c d H Q->c d H n):TZ c j D d H:=by
 exists λm d H=>m=h d H/\i d H,⟨_,U,h0⟩;rintro m d H ⟨rfl,p⟩;erw[mono d H _ _ (λb f q=>?_) (r d H p)];cases b with
 | true=>rwa[_,λe g ⟨o,l⟩=>⟨_,l,rfl,o⟩,q]
 | false=>rwa[q]
end L2

namespace L2

abbrev R2:=V->V->Hp->VK->Prop
def OpR(X:Cx)(f:c8->c8->EF c8)(r:R2):Prop :=
 ∀(d:List (c7×Bk))(s:d7)(c:St)(H:Hp)(x y:V)(v u:c8)(Q:VK),Inv X d c H s->xV x v->xV y u->r x y H Q ->
  wpAny 'b' X.A (f v u) (EP X d c Q) X.xe s
def UnR(X:Cx)(f:c8->EF c8)(r:V->Hp->VK->Prop):Prop :=
 ∀(d:List (c7×Bk))(s:d7)(c:St)(H:Hp)(x:V)(v:c8)(Q:VK),Inv X d c H s->xV x v->r x H Q ->
  wpAny 'b' X.A (f v) (EP X d c Q) X.xe s
def tD(X:Cx)(f:c8)(r:List V->Hp->VK->Prop):Prop :=
 ∀(e:List (c7×Bk))(s:d7)(c:St)(H:Hp)(xs:List V)(d:List c8)(Q:VK),Inv X e c H s->yY xs d->r xs H Q ->
  wpAny 'b' X.A (call f d) (EP X e c Q) X.xe s
def tOp(r:R2)(e d:TE):TE:=λc H Q=>e c H λx g=>d c g λy f=>r x y f Q
def tUn(r:V->Hp->VK->Prop)(d:TE):TE:=λc H Q=>d c H λx e=>r x e Q
inductive RI(C:Int->Int->Prop)(g:Int->Int->V)(x y:V)(H:Hp)(Q:VK):Prop where
 | mk (i j:Int) (ex:x=.int i) (ey:y=.int j) (c:C i j) (q:Q (g i j) H)
def rI(C:Int->Int->Prop)(g:Int->Int->V):R2:=λx y H Q=>RI C g x y H Q
inductive RI0(g:Int->Int->V)(x y:V)(H:Hp)(Q:VK):Prop where
 | mk (i j:Int) (ex:x=.int i) (ey:y=.int j) (q:Q (g i j) H)
def rI0(g:Int->Int->V):R2:=λx y H Q=>RI0 g x y H Q
inductive RU(g:Int->V)(x:V)(H:Hp)(Q:VK):Prop where
 | mk (i:Int) (ex:x=.int i) (q:Q (g i) H)
def rU(g:Int->V):V->Hp->VK->Prop:=λx H Q=>RU g x H Q

section
variable{X:Cx}{a b c:Ar}{ta tb tc:TE}{pos:D5}

def Oe(C:PE X a ta)(B:PE X b tb){d:St}{H:Hp}{R:V->V->Hp->Prop}(I:Inv X l d H s)
  (h:ta d H λx m=>tb d m λy e=>R x y e) {Q:c8->d7->Prop} {f:c8->c8->EF c8}
  (z:∀ v u j x y e,Inv X l d e j->xV x v->xV y u->R x y e->wpAny 'b' X.A (f v u) Q X.xe j) :
  wpAny 'b' X.A (eval a X.env) (λv i=>wpAny 'b' X.A (eval b X.env) (λu g=>wpAny 'b' X.A (f v u) Q X.xe g) X.xe i) X.xe s:=by
 erw[thn (C l s d H _ I h) λv n ⟨x,m,E,p,r⟩=>?_];erw[thn (B l n d m _ E r) λu j ⟨y,e,D,o,q⟩=>?_];rwa[z v u j x y e D p o q]

def tZ(j:OpR X (binaryOp d) r)(m:PE X a ta)(l:PE X b tb):PE X (.BinOp a d b pos) (tOp r ta tb):=by
 intro n s e H Q I h;rwa[wpAny_BinOp (Oe m l I h λv u f x y p o i g q=>j n f e p x y v u Q o i g q)]
def pe_un{r:V->Hp->VK->Prop}(l:UnR X (unaryOp e) r)(m:PE X a ta):PE X (.UnaryOp e a pos) (tUn r ta):=by
 intro f s d H Q I h;rwa[UnaryOp_ (thn (m f s d H _ I h) λv g ⟨x,o,n,i,j⟩=>l f g d o x v Q n i j)]
def opI{f:c8->c8->EF c8}{C:Int->Int->Prop}{g:Int->Int->Int}
  (rule:∀(i j:Int)(t u:JD)(s:d7)(Q:c8->d7->Prop)(E:c8->d7->Prop),C i j->Q (.int (g i j) s.toks) { s with toks:=s.toks+1 }->wpAny 'b' X.A (f (.int i t) (.int j u)) Q E s) :
  OpR X f (rI C λi j=>.int (g i j)):=by
 intro o s n H x y v u Q I l e h;obtain⟨i,j,rfl,rfl,m,q⟩:=h;obtain⟨t,rfl⟩:=l;obtain⟨d,rfl⟩:=e;rwa[rule i j t d s _ _ m ⟨.int (g i j),H,I.tok _,⟨_,rfl⟩,q⟩]
def opI0{f:c8->c8->EF c8}{g:Int->Int->Int}
  (rule:∀(i j:Int)(t u:JD)(s:d7)(Q:c8->d7->Prop)(E:c8->d7->Prop),Q (.int (g i j) s.toks) { s with toks:=s.toks+1 }->wpAny 'b' X.A (f (.int i t) (.int j u)) Q E s) :
  OpR X f (rI0 λi j=>.int (g i j)):=by
 intro n s m H x y v u Q I l e h;obtain⟨i,j,rfl,rfl,q⟩:=h;obtain⟨t,rfl⟩:=l;obtain⟨d,rfl⟩:=e;rwa[rule i j t d s _ _ ⟨.int (g i j),H,I.tok _,⟨_,rfl⟩,q⟩]
def On{f:c8->c8->EF c8}{g:Int->Int->Bool}
  (rule:∀(i j:Int)(t u:JD)(s:d7)(Q:c8->d7->Prop)(E:c8->d7->Prop),Q (.bool (g i j)) s->wpAny 'b' X.A (f (.int i t) (.int j u)) Q E s) :
  OpR X f (rI0 λi j=>.bl (g i j)):=by
 intro n s m H x y v u Q I l e h;obtain⟨i,j,rfl,rfl,q⟩:=h;obtain⟨t,rfl⟩:=l;obtain⟨d,rfl⟩:=e;rwa[rule i j t d s _ _ ⟨.bl (g i j),H,I,rfl,q⟩]

def CPow(i j:Int):Prop:=0<=j/\j<=1000000/\i.natAbs<2^64
def Qx(i j:Int):Prop:=(-(2^64)<i/\i<2^64)\/(-(2^64)<j/\j<2^64)
def Qx.ok{i j:Int}(h:Qx i j):IntMulOk i j:=by
 rcases h with ⟨h1,h2⟩ | ⟨h1,h2⟩
 ·rwa[.of_left (intBits_le_64 h1 h2)]
 ·rwa[.of_right (intBits_le_64 h1 h2)]
def fH:OpR X (binaryOp .Add) (rI0 λi j=>.int (i+j)):=opI0 λ_ _ _ _ _ _ _ q=>add_int q
def Xy:OpR X (binaryOp .Sub) (rI0 λi j=>.int (i-j)):=opI0 λ_ _ _ _ _ _ _ q=>sub_int q
def fK:OpR X (binaryOp .Mult) (rI Qx λi j=>.int (i*j)):=opI λ_ _ _ _ _ _ _ d q=>mul_int q d.ok
def Tl:OpR X (binaryOp .Mod) (rI (λ_ j=>0<j) λi j=>.int (i%j)):=opI λi j _ _ _ _ _ d q=>by
 have h1:(0:Int)<j:=d;rwa[mod_int' (by lia) (by rw[Int.fmod_eq_emod_of_nonneg i (by lia)]; exact q)]
def Ov:OpR X (binaryOp .Pow) (rI CPow λi j=>.int (i^j.toNat)):=opI λ_ _ _ _ _ _ _ d q=>pow_int_small d.1 d.2.1 d.2.2 q
def unI{f:c8->EF c8}{g:Int->Int}
  (rule:∀(i:Int)(t:JD)(s:d7)(Q:c8->d7->Prop)(E:c8->d7->Prop),Q (.int (g i) s.toks) { s with toks:=s.toks+1 }->wpAny 'b' X.A (f (.int i t)) Q E s) :
  UnR X f (rU λi=>.int (g i)):=by
 intro j s e H x v Q I d h;obtain⟨i,rfl,q⟩:=h;obtain⟨t,rfl⟩:=d;rwa[rule i t s _ _ ⟨.int (g i),H,I.tok _,⟨_,rfl⟩,q⟩]
def Qm:UnR X (unaryOp .USub) (rU λi=>.int (-i)):=unI λ_ _ _ _ _ q=>neg_int q
end

def scal:V->V->Bool
 | .non,.non=>J3 | .non,.int _=>J3 | .int _,.non=>J3 | .non,.bl _=>J3 | .bl _,.non=>J3 | .non,.str _=>J3 | .str _,.non=>J3
 | .int _,.int _=>J3 | .bl _,.bl _=>J3 | .str _,.str _=>J3 | .byt _,.byt _=>J3
 | .int _,.str _=>J3 | .str _,.int _=>J3 | .bl _,.str _=>J3 | .str _,.bl _=>J3
 | _,_=>J7
def rEq:R2:=λx y H Q=>scal x y=J3/\Q (.bl (decide (x=y))) H
def rNe:R2:=λx y H Q=>scal x y=J3/\Q (.bl (!decide (x=y))) H

def XG{i j:Int} : decide (V.int i=V.int j)=(i == j):=by
 rw[BW];simp
def Sy : decide (V.bl i=V.bl j)=(i == j):=by
 rw[BW];simp
def YJ : decide (V.str i=V.str j)=(i == j):=by
 rw[BW];simp
def Xi : decide (V.byt i=V.byt j)=(i.toList == j.toList):=by
 rw[BW];cases i;cases j;simp

section
variable{X:Cx}{a b c:Ar}{ta tb tc:TE}{pos:D5}
def yW{d:St}{H:Hp}{Q:VK}{k f:Bool}(I:Inv X g d H s)(q:Q (.bl k) H)(e:k=f):EP X g d Q (.bool f) s:=by
 subst e;rwa[.bl k,H,I,rfl,q]
def SA:OpR X (compareOp .Eq) rEq:=by
 intro m s l H x y v u Q I g d h;obtain⟨f,q⟩:=h;cases x with
 | non =>
  cases g;cases y with
  | non=>cases d; rwa[IF (yW I q 'd')]
  | bl j=>cases d; rwa[IG (yW I q 'd')]
  | int j=>obtain⟨e,rfl⟩:=d; rwa[IT (yW I q 'd')]
  | str j=>obtain⟨e,rfl⟩:=d; rwa[IU (yW I q 'd')]
  | _=>exact y9 'v' o4
 | bl i =>
  cases g;cases y with
  | non=>cases d; rwa[IH (yW I q 'd')]
  | bl j=>cases d; rwa[eq_bool (yW I q Sy)]
  | str j=>obtain⟨e,rfl⟩:=d; rwa[II (yW I q 'd')]
  | _=>exact y9 'v' o4
 | int i =>
  obtain⟨t,rfl⟩:=g;cases y with
  | non=>cases d; rwa[IV (yW I q 'd')]
  | int j=>obtain⟨e,rfl⟩:=d; rwa[eq_int (yW I q XG)]
  | str j=>obtain⟨e,rfl⟩:=d; rwa[IW (yW I q 'd')]
  | _=>exact y9 'v' o4
 | str i =>
  obtain⟨t,rfl⟩:=g;cases y with
  | non=>cases d; rwa[IX (yW I q 'd')]
  | bl j=>cases d; rwa[IJ (yW I q 'd')]
  | int j=>obtain⟨e,rfl⟩:=d; rwa[IY (yW I q 'd')]
  | str j=>obtain⟨e,rfl⟩:=d; rwa[eq_str (yW I q YJ)]
  | _=>exact y9 'v' o4
 | byt i =>
  obtain⟨t,rfl⟩:=g;cases y with
  | byt j=>obtain⟨e,rfl⟩:=d; rwa[PySem.W.eq_bytes (yW I q Xi)]
  | _=>exact y9 'v' o4
 | _=>cases y <;> exact y9 'v' o4
def PD:OpR X (compareOp .NotEq) rNe:=by
 intro m s l H x y v u Q I g d h;obtain⟨f,q⟩:=h;cases x with
 | non =>
  cases g;cases y with
  | non=>cases d; rwa[IK (yW I q 'd')]
  | bl j=>cases d; rwa[IL (yW I q 'd')]
  | int j=>obtain⟨e,rfl⟩:=d; rwa[IZ (yW I q 'd')]
  | str j=>obtain⟨e,rfl⟩:=d; rwa[Ja (yW I q 'd')]
  | _=>exact y9 'v' o4
 | bl i =>
  cases g;cases y with
  | non=>cases d; rwa[IM (yW I q 'd')]
  | bl j=>cases d; rwa[ne_bool (yW I q (congrArg not Sy))]
  | str j=>obtain⟨e,rfl⟩:=d; rwa[IN (yW I q 'd')]
  | _=>exact y9 'v' o4
 | int i =>
  obtain⟨t,rfl⟩:=g;cases y with
  | non=>cases d; rwa[Jb (yW I q 'd')]
  | int j=>obtain⟨e,rfl⟩:=d; rwa[ne_int (yW I q (congrArg not XG))]
  | str j=>obtain⟨e,rfl⟩:=d; rwa[Jc (yW I q 'd')]
  | _=>exact y9 'v' o4
 | str i =>
  obtain⟨t,rfl⟩:=g;cases y with
  | non=>cases d; rwa[Jd (yW I q 'd')]
  | bl j=>cases d; rwa[IP (yW I q 'd')]
  | int j=>obtain⟨e,rfl⟩:=d; rwa[Je (yW I q 'd')]
  | str j=>obtain⟨e,rfl⟩:=d; rwa[ne_str (yW I q (congrArg not YJ))]
  | _=>exact y9 'v' o4
 | byt i =>
  obtain⟨t,rfl⟩:=g;cases y with
  | byt j=>obtain⟨e,rfl⟩:=d; rwa[PySem.W.ne_bytes (yW I q (congrArg not Xi))]
  | _=>exact y9 'v' o4
 | _=>cases y <;> exact y9 'v' o4

def US:OpR X (compareOp .Lt) (rI0 λi j=>.bl (decide (i<j))):=On λ_ _ _ _ _ _ _ q=>lt_int q
def Uk:OpR X (compareOp .LtE) (rI0 λi j=>.bl (decide (i<=j))):=On λ_ _ _ _ _ _ _ q=>le_int q
def Uz:OpR X (compareOp .Gt) (rI0 λi j=>.bl (decide (j<i))):=On λ_ _ _ _ _ _ _ q=>gt_int q
def RG:OpR X (compareOp .GtE) (rI0 λi j=>.bl (decide (j<=i))):=On λ_ _ _ _ _ _ _ q=>ge_int q
def TM:OpR X (compareOp .Is) (λx y H Q=>y=.non/\Q (.bl (decide (x=.non))) H):=by
 intro g s f H x y v u Q I d e h;obtain⟨rfl,q⟩:=h;cases e;refine is_none_gen (yW I q ?_);cases x <;> first
  | (cases d; rfl)
  | (obtain⟨t,rfl⟩:=d; rfl)
def WF:OpR X (compareOp .IsNot) (λx y H Q=>y=.non/\Q (.bl (!decide (x=.non))) H):=by
 intro g s f H x y v u Q I d e h;obtain⟨rfl,q⟩:=h;cases e;refine isnot_none_gen (yW I q ?_);cases x <;> first
  | (cases d; rfl)
  | (obtain⟨t,rfl⟩:=d; rfl)

def sS(b:Ar){d:Ir}(h:d≠.In:=by decide)(h2:d≠.NotIn:=by decide):behindInMarks d b=false:=by
 have f:(d == CmpOp.In)=false:=by cases d <;> first | rfl | exact y9 rfl h
 have e:(d == CmpOp.NotIn)=false:=by cases d <;> first | rfl | exact y9 rfl h2
 cases b <;> simp[behindInMarks,f,e]
def rG(j:OpR X (compareOp d) r)(n:PE X a ta)(m:PE X b tb)(l:behindInMarks d b=J7):PE X (.Compare a [d] [b] pos) (tOp r ta tb):=by
 intro o s e H Q I h;rwa[wpAny_Compare1 (Oe n m I h λv u f x y w p i g q=>j o f e w x y v u Q p i g q) l]
def Ub(t:TE):TT:=λd H Q=>t d H λx e=>∃ k,x=.bl k/\Q k e
def xA(w:OpR X (compareOp f) r)(C:PE X a ta)(B:PE X b tb)(A:behindInMarks f b=J7):PT X (.Compare a [f] [b] pos) (Ub (tOp r ta tb)):=by
 intro g s d H Q I h;refine Gk (thn (C g s d H _ I h) λv j ⟨x,M,G,n,q⟩=>thn (B g j d M _ G q) λu i ⟨y,L,E,m,p⟩ =>
  thn (w g i d L x y v u _ E n m p) λc N ⟨z,J,D,l,k,e,o⟩=>?_) A
 subst e;cases l;rwa[Cr ⟨J,D,o⟩]
def PM(r g:R2)(ta tb tc:TE):TE:=λd H Q=>ta d H λx j=>tb d j λy i=>r x y i λz e=>∃ k,z=.bl k/\(if k=J3 then tc d e λf h=>g y f h Q else Q (.bl J7) e)
def ao(R:OpR X (compareOp j) r)(l:OpR X (compareOp f) n)(Z:PE X a ta)(Y:PE X b tb)(T:PE X c tc)
  (S:lastMarks [j,f] [b,c]=false:=by with_unfolding_all rfl):PE X (.Compare a [j,f] [b,c] pos) (PM r n ta tb tc):=by
 intro i s g H Q I h;refine Compare_chain (thn (Z i s g H _ I h) λv E ⟨x,H1,I1,L,P⟩=>chain_link (thn (Y i E g H1 _ I1 P) λu D ⟨y,H2,I2,m,N⟩ =>
  thn (R i D g H2 x y v u _ I2 L m N) λd C ⟨z,q,p,J,k,e,o⟩=>?_)) S
 subst e;cases J;erw[Cr ?_];cases k with
 | false=>rwa[ite_ff ⟨.bl J7,q,p,rfl,o⟩]
 | true=>rwa[ite_tt (chain_last (thn (T i C g q _ p o) λA B ⟨w,H4,I4,G,M⟩=>l i B g H4 y w u A Q I4 m G M))]
def jX:(sizeLine:Nat)<2^63:=by rw[sizeLine_eq]; decide
def jB:OpR X (binaryOp .Add) (λx y H Q=>E2 λi j=>A4 (x=.str i) (y=.str j) (i.length+j.length<=sizeLine) (Q (.str (i++j)) H)):=by
 intro n s l H x y v u Q I f e h;obtain⟨i,j,rfl,rfl,g,q⟩:=h;obtain⟨t,rfl⟩:=f;obtain⟨d,rfl⟩:=e;rwa[add_str (λd m=>⟨.str (i++j),H,I.tok _,⟨_,rfl⟩,q⟩) g]
def ka{x:V}(r:yY [x] d):∃ u,d=[u]/\xV x u:=by
 cases r with
 | cons f e=>cases e; rwa[_,rfl,f]
def QQ{x y:V}(r:yY [x,y] e):∃ u d,e=[u,d]/\xV x u/\xV y d:=by
 cases r with
 | cons i h =>
  cases h with
  | cons g f=>cases f; rwa[_,_,rfl,i,g]
def Ud:tD X (.builtin "abs") (λxs H Q=>∃ i,xs=[.int i]/\Q (.int (if i<0 then -i else i)) H):=by
 intro g s d H xs e Q I r h;obtain⟨i,rfl,q⟩:=h;obtain⟨u,rfl,t,rfl⟩:=ka r;exact call_abs_int λu f=>⟨.int (if i<0 then -i else i),H,I.tok _,⟨_,rfl⟩,q⟩
def WW(e:X.calm=J3):tD X (.builtin "max") (λxs H Q=>E2 λi j=>xs=[.int i,.int j]/\Q (.int (if j>i then j else i)) H):=by
 intro p s f H xs l Q I r h;obtain⟨i,j,rfl,q⟩:=h;obtain⟨u,g,rfl,⟨t,rfl⟩,⟨n,rfl⟩⟩:=QQ r;erw[max_two_ints (I.ok.hd e) λo m k=>⟨_,H,I.kept k,?_,q⟩];by_cases d:j>i
 ·rw[y6 d,y6 d]; rwa[_,rfl]
 ·rw[y4 d,y4 d]; rwa[_,rfl]
def YW(e:X.calm=J3):tD X (.builtin "min") (λxs H Q=>E2 λi j=>xs=[.int i,.int j]/\Q (.int (if j<i then j else i)) H):=by
 intro p s f H xs l Q I r h;obtain⟨i,j,rfl,q⟩:=h;obtain⟨u,g,rfl,⟨t,rfl⟩,⟨n,rfl⟩⟩:=QQ r;erw[min_two_ints (I.ok.hd e) λo m k=>⟨_,H,I.kept k,?_,q⟩];by_cases d:j<i
 ·rw[y6 d,y6 d]; rwa[_,rfl]
 ·rw[y4 d,y4 d]; rwa[_,rfl]
def Wt:tD X (.type "int") (λxs H Q=>(∃ i,xs=[.int i]/\Q (.int i) H)\/∃ k,xs=[.bl k]/\Q (.int (if k then 1 else 0)) H):=by
 intro g s e H xs f Q I r h;rcases h with ⟨i,rfl,q⟩ | ⟨k,rfl,q⟩
 ·obtain⟨u,rfl,t,rfl⟩:=ka r;rwa[call_int_int ⟨.int i,H,I,⟨_,rfl⟩,q⟩]
 ·obtain⟨u,rfl,d⟩:=ka r;cases d;exact call_int_bool ⟨.int (if k then 1 else 0),H,I.tok _,⟨_,rfl⟩,q⟩
end
end L2

namespace L2

structure SX(h:Aa)(x dx C:c7)(mA:j9->Option c8):Prop where
 obj:h.get? x=O (BV C dx)
 ns:h.Ns1 dx mA
 ne:dx≠x

def Vz{h:Aa}{g:j9->Option c8}(n:h.Ns1 j g):∃ f,h.get? j=O f/\∀ c,EK c f=O (g c):=by
 obtain⟨o,i,u,m,hd,r,_,p⟩:=n;erw[o,m,λc=>?_];have e:=p c;unfold nsFind findBy at e;rw[<- Array.find?_toList] at e;unfold EK;rw[hd];dsimp only;split
 ·rename_i y q
  rw[q] at e;rwa[congrArg O e]
 ·rename_i q
  rw[q] at e;have a:i.toList.any (·.refKey)=false:=by
   rw[G9];intro y l;obtain⟨z,t,d⟩:=r y (Gr.mp l);simp[DictEntry.refKey,d]
  have s:¬ i.toList.any (·.refKey)=true:=by rw[a]; rwa[o4]
  rw[y4 s];rwa[congrArg O e]

def SX.look{e:j9->Option c8}(I:SX h x f C e):∃ d,PySem.W.InstAt h x (BV C f) C (O d)/\∀ c,EK c d=O (e c) :=
 let ⟨d,ho,hl⟩:=Vz I.ns
 ⟨d,⟨I.obj,rfl,rfl,ho⟩,hl⟩

section
variable{prog:o0}{w:t7}{A:Ak}{E:c8->d7->Prop}{s:d7}{K:c5}{x dx C f:c7}{mA:j9->Option c8}{name:j9}{v:c8}

def RM{Q:c8->d7->Prop}(X:K.In s.heap)(I:SX s.heap x dx C mA)(i:Eb K C name=J3)(g:Fj K C=J3)
  (j:Bc K (.ref C) name=O J2) (d:mA name=O v) (c:HA v=J3) (h:Q v { s with toks:=s.toks+1 }) :
  wpAny 'c' A (getAttr (.ref x) name expr) Q E s:=by
 obtain⟨l,J,e⟩:=I.look;rwa[PySem.W.get_value X J (Eu i).1 (PySem.W.findObj_own g j rfl (by rw[e,d])) c h]

def Uu{Q:c8×List c8->d7->Prop}(X:K.In s.heap)(I:SX s.heap x dx C mA)(c:Eb K C name=J3)
  (l:Bc K (.ref C) name=O (O (.ref f))) (i:Hb K (.ref f)=J3) (g:mA name=J2) (h:Q (.ref f,[.ref x]) s) :
  wpAny 'c' A (getMethod (.ref x) name d) Q E s:=by
 obtain⟨e,J,j⟩:=I.look;exact PySem.W.method_fn X J (Eu c).1 (Eu c).2 l (beq_iff_eq.mp i) (by show(EK name e).map (·.isSome)=O J7; rw[j,g]; rfl) h

def Sa{Q:Unit->d7->Prop}(X:K.In s.heap)(I:SX s.heap x dx C mA)
  (q:Bc K (.ref C) "__setattr__" = O (O (.builtin "object.__setattr__"))) (u:Hc K C=J3) (o:Gc K C name=O J2) (z:Fj K C=J3)
  (n:G7 mA ns) (p:ns.length<=sizeLine)
  (h:∀ e,SX e x dx C (λy=>if y=name then O v else mA y)->BZ dx s.heap e->Q () { s with heap:=e,toks:=s.toks+2 }) :
  wpAny 'c' A (setAttr (.ref x) name v) Q E s:=by
 obtain⟨H,J,M⟩:=I.look;refine PySem.W.set_plain X J q (PySem.W.osa_open (s:={ s with toks:=s.toks+1 }) (r:=J2) X J u o λb=>?_);obtain⟨N,B,j⟩:=PySem.W.any_some z;have m:s.heap.get? x=O ⟨.ref C,O dx,.plain,#[]⟩:=I.obj;refine c9 (i5 (c9 (c9 (wpAny_loadPart m (c9 (JQ (s:={ s with toks:=s.toks+1 }) (PySem.W.looks_clsIn X B) ?_))))));rw[j];erw[i5 (a:=O dx) (c9 (i5 (c9 ?_)))];refine wpAny_nsSet1 (s:={ s with toks:=s.toks+1 }) I.ns λe d c=>?_;obtain⟨L,D,G,g,i,l⟩:=d.count (JU name v n);erw[c9 (wpAny_lookBehind g (by rw[i]; rwa[pastItsLine_dict (i4 l (by rw[g8]; lia))]) ?_)];rwa[i5 (h _ ⟨(c.2 _ (Bi I.ne)).trans I.obj,d,I.ne⟩ c)]

def UQ{R:Result->d7->Prop}{c:List c8}{e:List (j9×c8)}(X:K.In s.heap)(i:Ia K C=J3)
  (hi:Bc K (.ref C) "__init__" = O (O (.ref f))) (j:PySem.W.typeIn K (.ref f)=O (.type "function"))
  (h:codeAny 'c' (A.under (.builtin "type.__call__" ⟨.ref C::c,e⟩)) (.call (.ref f) ⟨.ref 'l'::c,e⟩) (PySem.W.InitBack 'l' R)
   { s with heap:=(s.heap.push Bq).push (BV C s.heap.objs.size) }) :
  codeAny 'c' A (.call (.ref C) ⟨c,e⟩) R s:=by
 obtain⟨l,g,d,t,os⟩:=s;rwa[PySem.W.make_core (PySem.W.makes_of X i) (PySem.W.looks_findIn X hi) (λself=>PySem.W.bind_fn X self j) (.inl rfl) h]
end

def nZ(f:j9)(v:V):List (j9×V)->List (j9×V)
 | []=>[(f,v)]
 | (g,x)::r=>if g=f then(g,v)::r else(g,x)::nZ f v r
def kI(f g:j9)(v:V):∀ fs:List (j9×V),(nZ f v fs).lookup g=if g=f then O v else fs.lookup g
 | []=>by
  show Av g [(f,v)]=_;by_cases h:g=f
  ·have c:(g == f)=true:=beq_iff_eq.mpr h;simp only[Av,c,y6 h]
  ·have c:(g == f)=false:=x4.mpr h;simp only[Av,c,y4 h]
 | (k,x)::r=>by
  have i:=kI f g v r;rw[show nZ f v ((k,x)::r)=(if k=f then(k,v)::r else(k,x)::nZ f v r) from rfl];by_cases d:k=f
  ·rw[y6 d];by_cases h:g=k
   ·have c:(g == k)=true:=beq_iff_eq.mpr h;simp only[Av,c,y6 (h.trans d)]
   ·have c:(g == k)=false:=x4.mpr h;simp only[Av,c,y4 (λe:g=f=>h (e.trans d.symm))]
  ·rw[y4 d];by_cases h:g=k
   ·have c:(g == k)=true:=beq_iff_eq.mpr h;simp only[Av,c,y4 (λe:g=f=>d (h.symm.trans e))]
   ·have c:(g == k)=false:=x4.mpr h;simp only[Av,c];rwa[i]
def kz(f:j9)(v:V):∀ fs:List (j9×V),f∈(nZ f v fs).map (·.1)/\∀ g,g∈fs.map (·.1)->g∈(nZ f v fs).map (·.1)
 | []=>⟨by simp[nZ],λg h=>by simp at h⟩
 | (k,x)::r=>by
  obtain⟨i,d⟩:=kz f v r;rw[show nZ f v ((k,x)::r)=(if k=f then(k,v)::r else(k,x)::nZ f v r) from rfl];by_cases c:k=f
  ·rw[y6 c];subst c;exact⟨by simp,λg h=>by simpa using h⟩
  ·rw[y4 c];erw[?_,λg h=>?_]
   ·rw[j3];rwa[x8 _ i]
   ·rw[j3] at h ⊢;rcases l9.mp h with e | e
    ·rwa[l9.mpr (.inl e)]
    ·rwa[x8 _ (d g e)]
def lF(f:j9)(v:V):∀ fs:List (j9×V),(nZ f v fs).length<=fs.length+1
 | []=>by simp[nZ]
 | (k,x)::r=>by
  have d:=lF f v r;rw[show nZ f v ((k,x)::r)=(if k=f then(k,v)::r else(k,x)::nZ f v r) from rfl];by_cases c:k=f
  ·rw[y6 c,g8,g8]; lia
  ·rw[y4 c,g8,g8]; lia

def gO.some_of(r:gO (O v) o):∃ u,o=O u/\xV v u:=by
 cases o with
 | none=>exact(show False from r).elim
 | some u=>rwa[u,rfl,r]
def gO.none_of(r:gO J2 o):o=none:=by
 cases o with
 | none=>rfl
 | some u=>exact(show False from r).elim
def XD(r:xV v u):HA u=true:=by
 cases v with
 | non=>cases (show u=Bo from r); rfl
 | bl b=>cases (show u=FY b from r); rfl
 | int i=>obtain⟨t,e⟩:=(show ∃ t,u=Dj i t from r); cases e; rfl
 | str x=>obtain⟨t,e⟩:=(show ∃ t,u=CG x t from r); cases e; rfl
 | byt b=>obtain⟨t,e⟩:=(show ∃ t,u=HS b t from r); cases e; rfl
 | flt b=>obtain⟨t,e⟩:=(show ∃ t,u=HU b t from r); cases e; rfl
 | ref a=>cases (show u=o9 a from r); rfl
 | ty n=>cases (show u=Ip n from r); rfl

section
variable{P:o0}{w:t7}{H H':Hp}{h h':Aa}{a C dx:c7}{fs fs':List (j9×V)}
def be(hok:HOk P w H h)(e:H a=O (.ins C dx fs)):∃ c,SX h a dx C c/\(∀ f,gO (fs.lookup f) (c f))/\G7 c (fs.map (·.1))/\fs.length<=1000/\H dx=O (.own a):=by
 obtain⟨d,z,ne,ob,c,n,r,q⟩:=(show wD P w H h a (.ins C dx fs) from hok a _ e);rwa[c,⟨ob,n,ne⟩,r,q,z,d]
end

structure Cls(K:c5)(C:c7):Prop where
 pg:Eb K C Jn=J3
 hd:Fj K C=J3
 po:Hc K C=J3
 sa:Bc K (.ref C) "__setattr__" = O (O (.builtin "object.__setattr__"))
def Cls.get{K:c5}(c:Cls K C)(f:j9):Eb K C f=true:=c.pg
def vn(K:c5)(C:c7)(f:j9):Prop:=Bc K (.ref C) f=O J2
def vn.taker{K:c5}(n:vn K C f):Gc K C f=O none:=by
 unfold Gc;rw[show Bc K (.ref C) f=O J2 from n];rfl
structure Con(K:c5)(C:c7)(f:j9)(v:V)(u:c8):Prop where
 at_:Bc K (.ref C) f=O (O u)
 rel:xV v u
 get:Hd K u "__get__" = O J2
 cp:PySem.W.copiedNames.contains f=J7
structure YG(K:c5)(C:c7)(m:j9)(f:c7):Prop where
 at_:Bc K (.ref C) m=O (O (.ref f))
 fn:Hb K (.ref f)=J3
 kp:AJ K (.ref f)=J3

section
variable{X:Cx}{J8:List (c7×Bk)}{σ:St}{H:Hp}{s:d7}{a C dx:c7}{fs:List (j9×V)}{f:j9}{v:V}{A:Ak}{E:c8->d7->Prop}

def Yj{Q:c8->d7->Prop}(I:Inv X J8 σ H s)(e:H a=O (.ins C dx fs))(c:Cls X.K C)(n:vn X.K C f)(l:fs.lookup f=O v)
  (h:∀ u g,Inv X J8 σ H g->xV v u->Q u g):wpAny 'b' A (getAttr (.ref a) f b) Q E s:=by
 obtain⟨i,d,r,_,_,_⟩:=be I.hok e;obtain⟨u,j,ru⟩:=gO.some_of (v:=v) (o:=i f) (by rw[<- l]; rwa[r f]);rwa[RM I.kIn d (c.get f) c.hd n j (XD ru) (h u _ (I.tok _) ru)]

def ph{Q:c8×List c8->d7->Prop}(I:Inv X J8 σ H s)(e:H a=O (.ins C dx fs))(c:Cls X.K C)(k:YG X.K C m g)(l:fs.lookup m=J2)
  (h:Q (.ref g,[.ref a]) s):wpAny 'b' A (getMethod (.ref a) m i) Q E s:=by
 obtain⟨j,d,r,_,_,_⟩:=be I.hok e;have n:j m=none:=gO.none_of (by rw[<- l]; rwa[r m]);rwa[Uu I.kIn d (c.get m) k.at_ k.fn n h]

def Yt{Q:Unit->d7->Prop}(I:Inv X J8 σ H s)(e:H a=O (.ins C dx fs))(c:Cls X.K C)(n:vn X.K C f)(N:fs.length<1000)(D:xV y u)
  (h:∀ l,Inv X J8 σ (upd H a (.ins C dx (nZ f y fs))) l->Q () l):wpAny 'b' A (setAttr (.ref a) f u) Q E s:=by
 obtain⟨m,d,r,j,_,p⟩:=be I.hok e;have G:(fs.map (·.1)).length<=sizeLine:=by rw[b9,sizeLine_eq]; lia
 erw[Sa I.kIn d c.sa c.po n.taker c.hd j G λM i B=>h _ ?_];have hd:∃ o,M.get? dx=O o:=let ⟨o,_,_,e',_⟩:=i.ns;⟨o,e'⟩;erw[I.write (x:=a) (e:=dx) (by rw[e]; rwa[z8]) (.inr p) (λb q L z=>(B.2 b L).trans z) hd ?_];erw[by rw[zG d.ne]; exact p,?_,d.ne,i.obj,_,i.ns,λg=>?_,λg J=>?_]
 ·have:=lF f y fs; lia
 ·show gO ((nZ f y fs).lookup g) (if g=f then O u else m g);rw[kI];by_cases q:g=f
  ·rw[y6 q,y6 q]; rwa[D]
  ·rw[y4 q,y4 q]; rwa[r g]
 ·by_cases q:g=f
  ·rw[q]; exact(kz f y fs).1
  ·refine(kz f y fs).2 g (j g λz=>J ?_);show(if g=f then O u else m g)=J2;rw[y4 q]; rwa[z]

def Inv.made(I:Inv X J8 σ H s):Inv X J8 σ (upd (upd H s.heap.objs.size (.own 'l')) 'l' (.ins C s.heap.objs.size []))
  { s with heap:=(s.heap.push Bq).push (BV C s.heap.objs.size) }:=by
 have c:(s.heap.push Bq).get? s.heap.objs.size=O Bq:=n9 s.heap rfl;have i:((s.heap.push Bq).push (BV C s.heap.objs.size)).get? 'l'=O (BV C s.heap.objs.size):=by
  have:=n9 (s.heap.push Bq) (o:=BV C s.heap.objs.size) rfl;(rw[CH] at this;assumption)
 have h:(s.heap.push Bq).Ns s.heap.objs.size (λ_=>J2):=⟨Bq,#[],_,c,rfl,(λe g=>y9 g 'd'),λ_=>rfl⟩;have j:=I.laid (a:=s.heap.objs.size) (o:=.own 'l') (h':=s.heap.push Bq) (t':=s.toks) (λb u q=>e9 _ q) (f7 _) ⟨_,c⟩;erw[j.laid (a:=s.heap.objs.size+1) (o:=.ins C s.heap.objs.size []) (t':=s.toks) (λb u q=>e9 _ q) (Ey (CH _ _)) ?_];have ne:s.heap.objs.size≠s.heap.objs.size+1:=t8 (CI _);erw[by rw[zG ne,zA],x6 _,ne,i,λ_=>J2,(Heap.Ns1.of_empty h).at λo q=>e9 _ q,λ_=>z8,λy d=>y9 rfl d]

def RT{f:j9}{s:d7}{Q:c8->d7->Prop}(d:attributeBase e f env (eval e env)=eval e env)
  (h:wpAny 'c' A (eval e env) (λo c=>wpAny 'c' A (getAttr o f J3) Q E c) E s):wpAny 'c' A (eval (.Attribute e f pos) env) Q E s :=
 Attribute_any_ h (by rw[arm_eval_Attribute,d])
end


section
variable{X:Cx}{J8:List (c7×Bk)}{σ:St}{H:Hp}{s:d7}{A:Ak}{E:c8->d7->Prop}{Q:c8->d7->Prop}{c:c8}{b:Bool}
inductive TyOf(K:c5)(H:Hp):V->c8->Prop where
 | non:TyOf K H .non (.type "NoneType")
 | bl (x:Bool):TyOf K H (.bl x) (.type "bool")
 | int (i:Int):TyOf K H (.int i) (.type "int")
 | str (x:j9):TyOf K H (.str x) (.type "str")
 | flt (x:UInt64):TyOf K H (.flt x) (.type "float")
 | lst {a:c7} {xs:List V} (e:H a=O (.lst xs)):TyOf K H (.ref a) (.type "list")
 | frz {a:c7} {o:Bk} {xs:List V} (e:H a=O (.frz o (.lst xs))):TyOf K H (.ref a) (.type "list")
 | tup {a:c7} {xs:List V} (e:H a=O (.tup xs)):TyOf K H (.ref a) (.type "tuple")
 | dK {a:c7} {kvs:List (Key×V)} (e:H a=O (.dK kvs)):TyOf K H (.ref a) (.type "dict")
 | dT {a:c7} {kvs:List (List Key×V)} (e:H a=O (.dT kvs)):TyOf K H (.ref a) (.type "dict")
 | ins {a C dx:c7} {fs:List (j9×V)} (e:H a=O (.ins C dx fs)) (cl:Cls K C) (ha:Bc K (.ref C) "__class__" = O (O (.builtin "object.__class__")))
   (hn:Hd K (.builtin "object.__class__") "__get__" = O (O (.builtin "getset_descriptor.__get__"))) (htk:PySem.W.takesIn K (.builtin "object.__class__")=O J3)
   (hm:PySem.W.mroIn K C (.type "object")=O J3):TyOf K H (.ref a) (.ref C)
end
end L2

namespace L2

structure yn(k:Nat)(A:Ak):Prop where
 hd:A.handled=J2
 dp:A.depth+3*k+5<recursionLimit
 un:A.units+16*k+200<cLine
 gd:A.guards=O []
def yn.mono{j k:Nat}(r:yn k A)(h:j<=k):yn j A:=⟨r.hd,by have:=r.dp; lia,by have:=r.un; lia,r.gd⟩
def yn.deeper{k:Nat}(r:yn (k+1) A)(env:ED):yn k (A.deeper env) :=
 ⟨r.hd,by have:=r.dp; show A.depth+1+3*k+5<_; lia,by have:=r.un; show A.units+3+16*k+200<_; lia,r.gd⟩
def ZE{A:Ak}{c:List c8}{d:List (j9×c8)} : (A.under (.builtin "type.__call__" ⟨.ref C::c,d⟩)).depth=A.depth+1:=by
 first | rfl | simp[FZ,Code.weight,Code.isCreation,Jt,Code.isCaller,JH,He,guardIds]
def ZI{A:Ak}{c:List c8}{d:List (j9×c8)} : (A.under (.builtin "type.__call__" ⟨.ref C::c,d⟩)).units=A.units+1:=by
 first | rfl | simp[FZ,Code.cUnits,JH,He]
def yn.make{k:Nat}(r:yn (k+1) A)(C:c7)(c:List c8)(d:List (j9×c8)):yn k (A.under (.builtin "type.__call__" ⟨.ref C::c,d⟩)) :=
 ⟨r.hd,by have:=r.dp; rw[ZE]; lia,by have:=r.un; rw[ZI]; lia,by first | exact r.gd | (rw[FZ]; simpa [pushGuards,Code.guards,Jt,guardIds] using r.gd)⟩
def yn.depth{k:Nat}(r:yn k A):A.depth<recursionLimit:=by have:=r.dp; lia
def yn.units{k:Nat}(r:yn k A):A.units+64<cLine:=by have:=r.un; lia
def yn.units0{k:Nat}(r:yn k A):A.units<cLine:=by have:=r.un; lia

def Pn:TA:=λ_ H Q=>Q [] H
def Sm(d:TE)(tr:TA):TA:=λc H Q=>d c H λx f=>tr c f λxs e=>Q (x::xs) e
section
variable{X:Cx}{e:Ar}{es:List Ar}{te:TE}{t:TA}{pos:D5}
def zL:PA X [] Pn:=λ_ _ _ _ H Q I h=>Hf ⟨[],H,I,.nil,h⟩
def zD(o:PE X e te)(n:PA X es t)(m:starEach (e::es) X.env='A'::starEach es X.env:=by rfl):PA X (e::es) (Sm te t):=by
 intro pos d s c H Q I h;rw[m];show wpAny _ _ (spliced ('A'::backTo pos 'B')) _ _ s;erw[GZ (thn (o d s c H _ I h) λu f ⟨x,v,q,i,l⟩=>?_)];rwa[thn (n pos d f c v _ q l) λw y ⟨xs,r,p,g,j⟩=>⟨x::xs,r,p,.cons i g,j⟩]

def tTup(t:TA):TE:=λd H Q=>t d H λxs c=>xs.length<=sizeLine/\∀ p,c p=J2->Q (.ref p) (upd c p 'q')
def tLst(t:TA):TE:=λd H Q=>t d H λxs c=>xs.length<=sizeLine/\∀ p,c p=J2->Q (.ref p) (upd c p (.lst xs))
def fM{x1}(h:PA X es t):PE X (.Tuple es x1 pos) (tTup t):=by
 intro m s g H Q I j;erw[wpAny_Tuple_spliced (thn (h pos m s g H _ I j) λi c ⟨xs,f,d,r,z,q⟩=>⟨by rw[<- r.length]; exact z,?_⟩)];have l:f c.heap.objs.size=none:=d.hok.fresh (f7 _);erw[.ref c.heap.objs.size,upd f c.heap.objs.size 'q',d.laid (t':=c.toks) (λb u e=>e9 _ e) (f7 _) ?_,rfl,q _ l];rwa[z,i,r,⟨_,n9 _ rfl,rfl,_,rfl⟩]
def Wu(h:PA X es t):PE X (.List es pos) (tLst t):=by
 intro m s g H Q I j;erw[wpAny_List_spliced (thn (h pos m s g H _ I j) λi c ⟨xs,f,d,r,z,q⟩=>⟨by rw[<- r.length]; exact z,?_⟩)];have l:f c.heap.objs.size=none:=d.hok.fresh (f7 _);erw[.ref c.heap.objs.size,upd f c.heap.objs.size (.lst xs),d.laid (t':=c.toks) (λb u e=>e9 _ e) (f7 _) ?_,rfl,q _ l];rwa[z,i,0,r,n9 _ rfl]
end

abbrev Sp:=List V->Hp->VK->XK->Prop
abbrev CXT:=List ED->Hp->d7->XK->c8->d7->Prop

structure TN(P:o0)(w:t7)(K:c5)(mg:j9->Option c8)(base:Aa)(A:Ak)(outer:List ED)(s:d7)(H:Hp):Prop where
 frames:A.frames=O outer
 mod:Mod K mg base
 bs:∀ b o,base.get? b=O o->s.heap.get? b=O o/\H b=J2
 bsz:base.objs.size<=s.heap.objs.size
 funs:s.heap.FunFrames base outer
 frf:∀ b∈frs outer,H b=J2
 hok:HOk P w H s.heap
 bare:Ex s.gens
def CE(outer:List ED)(P:o0)(w:t7)(H:Hp)(s:d7)(Q:VK)(u:c8)(c:d7):Prop :=
 ∃ v d,c.os=s.os/\Ex c.gens/\Un (frs outer) [] H d s.heap c.heap/\HOk P w d c.heap/\xV v u/\Q v d
def CR(d:CXT)(outer:List ED)(P:o0)(w:t7)(H:Hp)(s:d7)(Q:VK)(E:XK)(r:Result)(c:d7):Prop :=
 match r with
 | .ok (.ret u)=>CE outer P w H s Q u c
 | .ok _=>False
 | .error e=>d outer H s E e c
structure yR(P:o0)(w:t7)(K:c5)(mg:j9->Option c8)(base:Aa)(CX:CXT)(k:Nat)(f:c7)(fd:AK)(ps:List j9)(sp:Sp):Prop where
 len:∀ vs H Q E,sp vs H Q E->vs.length=ps.length
 run:∀(A:Ak)(outer:List ED)(s:d7)(H:Hp)(args:Args)(us:List c8)(vs:List V)(Q:VK)(E:XK),yn k A->TN P w K mg base A outer s H->F0 s fd args (ps.zip us)->yY vs us->sp vs H Q E ->
  codeAny (model P w) A (.call (.ref f) args) (CR CX outer P w H s Q E) s
def TN.make{K:c5}{mg:j9->Option c8}{H:Hp}(e:TN P w K mg base A outer s H)(C:c7)(c:List c8)(d:List (j9×c8)) :
  TN P w K mg base (A.under (.builtin "type.__call__" ⟨.ref C::c,d⟩)) outer s H:=⟨by first | exact e.frames | (simpa [FZ,Code.envs,He,pushEnvs] using e.frames),e.mod,e.bs,e.bsz,e.funs,e.frf,e.hok,e.bare⟩
section
variable{X:Cx}{J8:List (c7×Bk)}{σ:St}{H:Hp}{s s':d7}
def Inv.env0(I:Inv X J8 σ H s):TN X.prog X.w X.K X.mg X.base X.A X.stack s H :=
 ⟨I.ok.frames,I.ok.mod,I.bs,i4 I.ok.bsz I.sz,I.stack,I.stkFree,I.hok,I.bare⟩
def Inv.after{Q:VK}(I:Inv X J8 σ H s)(h:CE X.stack X.prog X.w H s Q u s'):EP X J8 σ Q u s':=by
 obtain⟨v,f,os,bare,un,hok,r,q⟩:=h;obtain⟨e,g,d,t,c⟩:=s';obtain rfl:c=s.os:=os;rwa[v,f,I.call (h':=e) (g':=g) (d':=d) (t':=t) (ch:=[]) un hok bare (λb z=>y9 z 'd'),r,q]
end

def ZO(sp:Sp)(c:List V)(E:XK)(t:TA):TE:=λd H Q=>t d H λe f=>sp (e++c) f Q E
def qf(K:c5)(fd:AK)(d:List j9)(e:List c8):Prop :=
 ∀(s:d7)(c:List c8),K.In s.heap->(c++e).length=d.length->F0 s fd ⟨c,[]⟩ (d.zip (c++e))
def qf.all{K:c5}{d:List j9}(h:∀ c:List c8,c.length=d.length->bindArgs fd ⟨c,[]⟩=pure (d.zip c)):qf K fd d []:=λs c _ e=>by
 rw[BX] at e ⊢;rwa[.of_eq (h c e)]

def fu(g:CXT)(X:Cx)(E:XK):Prop:=∀(f:List (c7×Bk))(d:St)(H:Hp)(s:d7)(e:c8)(c:d7),Inv X f d H s->g X.stack H s E e c->X.xe e c

section
variable{X:Cx}{CX:CXT}{k:Nat}{f C:c7}{fd:AK}{ps:List j9}{sp:Sp}{dvs:List V}{ds:List c8}{E:XK}{x m:j9}{p pos apos:D5}{e o:Ar}{es:List Ar}{ta:TE}{t:TA}

def Zq{d:St}{H:Hp}{Q:VK}(F:yR X.prog X.w X.K X.mg X.base CX k f fd ps sp)(n:yn k X.A)(v:qf X.K fd ps ds)(hd:yY dvs ds)(l:fu CX X E)
  (I:Inv X g d H s) (r:yY vs us) (h:sp (vs++dvs) H Q E):wpAny 'b' X.A (call (.ref f) us) (EP X g d Q) X.xe s:=by
 have i:yY (vs++dvs) (us++ds):=r.append hd;have q:(us++ds).length=ps.length:=by rw[<- i.length]; rwa[F.len _ _ _ _ h]
 erw[Iu (codeAny_mono (F.run X.A X.stack s H ⟨us,[]⟩ (us++ds) (vs++dvs) Q E n I.env0 (v s us I.kIn q) i h) λr j c=>?_)];cases r with
 | error e=>rwa[l g d H s e j I c]
 | ok y =>
  cases y with
  | ret u=>rwa[I.after c]
  | next=>rwa[AO c]
  | brk=>rwa[AO c]
  | cont=>rwa[AO c]

def SE(F:yR X.prog X.w X.K X.mg X.base CX k f fd ps sp)(l:yn k X.A)(v:Gl X x)(n:X.mg x=O (.ref f))(u:AJ X.K (.ref f)=J3)(z:qf X.K fd ps ds)(hd:yY dvs ds)(j:fu CX X E)
  (B:PA X (e::es) t) (d:(x ==("__debug__" : j9))=false:=by decide) (y:starEach (e::es) X.env='A'::starEach es X.env:=by rfl) (c:(backTo pos 'B').any (·.1)=false:=by rfl) :
  PE X 't' (ZO sp dvs E t):=by
 intro D s i H Q I h;erw[Cf (yr I v n ?_ d)];erw[CT (h₀:=X.base) I.ok.mod.kin u (thn (B pos D s i H _ I h) λJ L ⟨G,M,g,r,q⟩=>⟨g.kIn,?_⟩) y c];rwa[Zq F l z hd j g r q]
def Vc(F:yR X.prog X.w X.K X.mg X.base CX k f fd ps sp)(g:yn k X.A)(l:Gl X x)(i:X.mg x=O (.ref f))(j:AJ X.K (.ref f)=J3)(n:qf X.K fd ps ds)(hd:yY dvs ds)(d:fu CX X E)
  (c:(x ==("__debug__" : j9))=false:=by decide):PE X (.Call (.Name x p) [] [] pos) (ZO sp dvs E Pn):=by
 intro r s q H Q I h;erw[Cf (yr I l i ?_ c)];rwa[Ev I.kIn j (Zq (us:=[]) F g n hd d I .nil h)]

structure Mk(K:c5)(C f:c7):Prop where
 makes:Ia K C=J3
 init:Bc K (.ref C) "__init__" = O (O (.ref f))
 fn:Hb K (.ref f)=J3
 kp:AJ K (.ref C)=J3

def VX{i:St}{H:Hp}{Q:VK}(M:Mk X.K C f)(F:yR X.prog X.w X.K X.mg X.base CX k f fd ps sp)(D:yn (k+1) X.A)(J:qf X.K fd ps ds)(hd:yY dvs ds)
  (B:fu CX X E) (I:Inv X j i H s) (r:yY vs us)
  (h:∀ x d,H x=J2->H d=J2->d≠x->sp (.ref x::(vs++dvs)) (upd (upd H d (.own x)) x (.ins C d [])) (λv R=>v=.non/\Q (.ref x) R) E) :
  wpAny 'b' X.A (call (.ref C) us) (EP X j i Q) X.xe s:=by
 have n:=h 'l' s.heap.objs.size (I.hok.fresh (BO _)) (I.hok.fresh (f7 _)) (t8 (CI _));have g:=Inv.made (C:=C) I;have l:yY (V.ref 'l'::(vs++dvs)) (o9 'l'::(us++ds)):=.cons rfl (r.append hd);have G:(o9 'l'::us++ds).length=ps.length:=by
  have e:=l.length;rw[F.len _ _ _ _ n] at e;rwa[e.symm]
 refine Iu (UQ (f:=f) I.kIn M.makes M.init (beq_iff_eq.mp M.fn) (codeAny_mono (F.run _ X.stack _ _ ⟨o9 'l'::us,[]⟩ (o9 'l'::(us++ds)) _ _ E (D.make C us [])
  (g.env0.make C us []) (J _ (o9 'l'::us) g.kIn G) l n) λr q c=>?_))
 cases r with
 | error e=>rwa[B j i _ _ e q g c]
 | ok L =>
  cases L with
  | ret u =>
   obtain⟨v,S,P,y,N,z⟩:=g.after c;subst N;rwa[y,⟨V.ref 'l',S,P,rfl,z⟩]
  | next=>rwa[AO c]
  | brk=>rwa[AO c]
  | cont=>rwa[AO c]
end

section
variable{X:Cx}{CX:CXT}{k:Nat}{f C:c7}{fd:AK}{ps ks:List j9}{sp:Sp}{E:XK}{x m:j9}{p pos apos kpos:D5}{e o:Ar}{es:List Ar}{kws:List Fk}{te ta:TE}{t tk:TA}{nm:Option j9}
structure KBinds(K:c5)(fd:AK)(ps ks:List j9)(g:List c8->List c8->List c8)(gV:List V->List V->List V):Prop where
 to:∀(s:d7)(us ws:List c8),K.In s.heap->(g us ws).length=ps.length->F0 s fd ⟨us,ks.zip ws⟩ (ps.zip (g us ws))
 rel:∀{vs:List V}{us:List c8}{zs:List V}{ws:List c8},yY vs us->yY zs ws->yY (gV vs zs) (g us ws)
variable{g:List c8->List c8->List c8}{gV:List V->List V->List V}
end

structure zJ(N P:List j9)(sc:DK):Prop where
 kind:sc.kind=.function
 co:sc.isCoroutine=J7
 gen:sc.isGenerator=J7
 nd:N.Nodup
 pre:N.take P.length=P
 par:∀ x∈P,sc.names.lookup x=O .local\/sc.names.lookup x=O .cell
 nofree:∀ y∈sc.names,y.2≠.free

def dU{kindOf:j9->Option De}{x:j9} : ∀{binds:List (j9×c8)}{m:j9->Option c8},(∀ v,(x,v) ∉ binds)->bindL kindOf binds m x=m x
 | [],_,_=>rfl
 | (n,v)::r,m,h=>by
  unfold bindL;rw[dU λw c=>h w (x8 _ c)];split
  ·have:x≠n:=by rintro rfl; rwa[h v x9]
   simp[this]
  ·rfl
def dL{kindOf:j9->Option De}{x:j9} : ∀{binds:List (j9×c8)}{m:j9->Option c8},(∀ v,(x,v) ∉ binds)->bindC kindOf binds m x=m x
 | [],_,_=>rfl
 | (n,v)::r,m,h=>by
  unfold bindC;rw[dL λw c=>h w (x8 _ c)];split
  ·rfl
  ·have:x≠n:=by rintro rfl; rwa[h v x9]
   simp[this]
def dD{kindOf:j9->Option De} : ∀{P:List j9}{c:List c8}{i:Nat}{m:j9->Option c8},P.Nodup->P[i]?=O x->c[i]?=O v->kindOf x=O .local ->
  bindL kindOf (P.zip c) m x=O v
 | [],_,_,_,_,h,_,_=>by simp at h
 | _::_,[],_,_,_,_,h,_=>by simp at h
 | p::P,w::c,0,m,nd,h1,h2,d=>by
  simp at h1 h2; subst h1; subst h2;show bindL kindOf ((p,w)::P.zip c) m p=_;unfold bindL;rw[dU λv e=>(DC.mp nd).1 (Gd e).1,y6 d];simp
 | p::P,w::c,i+1,m,nd,h1,h2,d=>by
  show bindL kindOf ((p,w)::P.zip c) m x=_;unfold bindL;exact dD (i:=i) (DC.mp nd).2 (by simpa using h1) (by simpa using h2) d
def gS{kindOf:j9->Option De} : ∀{P:List j9}{c:List c8}{i:Nat}{m:j9->Option c8},P.Nodup->P[i]?=O x->c[i]?=O v->kindOf x≠O .local ->
  bindC kindOf (P.zip c) m x=O v
 | [],_,_,_,_,h,_,_=>by simp at h
 | _::_,[],_,_,_,_,h,_=>by simp at h
 | p::P,w::c,0,m,nd,h1,h2,d=>by
  simp at h1 h2; subst h1; subst h2;show bindC kindOf ((p,w)::P.zip c) m p=_;unfold bindC;rw[dL λv e=>(DC.mp nd).1 (Gd e).1,y4 d];simp
 | p::P,w::c,i+1,m,nd,h1,h2,d=>by
  show bindC kindOf ((p,w)::P.zip c) m x=_;unfold bindC;exact gS (i:=i) (DC.mp nd).2 (by simpa using h1) (by simpa using h2) d

def start(N:List j9)(c:List V):St:=c.map O++Df (N.length-c.length) J2

def cxOf(i:CXT)(P:o0)(w:t7)(K:c5)(mg:j9->Option c8)(base:Aa)(N:List j9)(d:j9)(c:DK)(f:c7)(h:c8)(A:Ak)(outer:List ED)(s:d7)(H:Hp)(E:XK):Cx where
 prog:=P
 w:=w
 K:=K
 mg:=mg
 base:=base
 A:=A.deeper (envOfC d c s.heap.objs.size f h)
 N:=N
 s₀:=s
 H₀:=H
 env:=envOfC d c s.heap.objs.size f h
 outer:=outer
 stack:=envOfC d c s.heap.objs.size f h::outer
 ex:=[]
 calm:=J3
 fn:=λ_=>J3
 pn:=[]
 xe:=λe j=>wpAny (model P w) (A.deeper (envOfC d c s.heap.objs.size f h)) (leaving (envOfC d c s.heap.objs.size f h) e) (λ_ g=>i outer H s E e g) (λl g=>i outer H s E l g) j

def av{d:DK}{n:Nat}(h:d.names.lookup x=O .cell):∃ c,(cellsFrom n d.names []).lookup x=O c:=by
 have q:=F1 d.names n [] (.inl h);rwa[j7.mp q]

def Vm{Q:CXT}{K:c5}{mg:j9->Option c8}{A:Ak}{H:Hp}{E:XK}{l:List V}
  (S:zJ N m d) (hd:A.handled=J2) (j:TN P w K mg base A outer s H) (Z:l.length=m.length) (r:yY l I)
  (x:InCallC s s.heap.objs.size (bindL (envOfC g d s.heap.objs.size f G).kindOf (m.zip I) λ_=>J2) (cellsFrom 'l' d.names []) (bindC (envOfC g d s.heap.objs.size f G).kindOf (m.zip I) λ_=>J2) J) :
  Inv (cxOf Q P w K mg base N g d f G A outer s H E) [] (start N l) H J:=by
 have T:m.length<=N.length:=by have:=congrArg Ay S.pre; rw[m8] at this; lia
 obtain⟨h1,Y,rfl,M⟩:=x.done;have o:∀ b:c7,b ∉ (cxOf Q P w K mg base N g d f G A outer s H E).ex:=λb z=>y9 (show b∈([]:List c7) from z) 'd';refine⟨⟨j.mod,S.kind,U,U,f7 _,λy z c h1 h2=>?_,λy B=>?_,λy c _ h=>?_,λ_=>hd,Around.frames_deeper j.frames,.inr ⟨U,U⟩,λb z=>y9 z (o b),j.bs,j.bsz,λb _ _=>o b,λb z=>y9 z (o b),j.funs,j.frf⟩,
  rfl,j.bare,Un.kept M,⟨_,x.toInCall.ns,λi y v h1 h2 h3=>?_⟩,λy c h=>⟨_,x.cell y c h⟩,j.hok.fresh (f7 _),λy c h=>?_,λp D=>y9 (show p∈([]:List (c7×Bk)) from D) 'd',j.hok.kept M,?_⟩
 ·rwa[name_of_addr x.apart (BY h1) (BY h2)]
 ·have B:d.names.lookup y=O .cell\/d.names.lookup y=O .free:=B;rcases B with B | B
  ·rwa[av B]
  ·rwa[y9 rfl (S.nofree _ (BY B))]
 ·rwa[BM (x.above y c (BY h))]
 ·have hi:i<l.length:=by
   unfold start at h2;by_cases hi:i<l.length
   ·rwa[hi]
   ·rw[Ae (by simpa using hi)] at h2;rw[FL] at h2;split at h2 <;> cases h2
  have X:l[i]?=O v:=by
   unfold start at h2;rw[AF (by simpa using hi),e7] at h2;cases e:l[i]? with
   | none=>rw[e] at h2; cases h2
   | some a=>rw[e] at h2; cases h2; rfl
  obtain⟨u,L,R⟩:=r.get X;have D:m[i]?=O y:=by
   rw[<- S.pre,Fz (by lia)]; rwa[h1]
  have C:m.Nodup:=by rw[<- S.pre]; rwa[S.nd.sublist (List.take_sublist _ _)]
  exists u,R;rcases S.par y (j4 D) with k | k
  ·rwa[.inl ⟨k,dD C D L k⟩]
  ·obtain⟨c,e⟩:=av (n:=s.heap.objs.size+1) k;erw[.inr ⟨.inl k,c,e,?_⟩];have q:=x.cell y c e;rw[gS C D L (by show d.names.lookup y≠_; rw[k]; decide)] at q;rwa[q]
 ·rwa[j.hok.fresh (BM (x.above y c (BY h)))]
 ·unfold start;show _=N.length;rw[f9,b9,C0];lia

def QO{M:CXT}{K:c5}{mg:j9->Option c8}{k:Nat}{dV kV G pm g ct oc:c8}{an od:Option c7}
  {X:Array (Option c8)}  {sp:Sp} (lk:K.lookup f=O ⟨oc,od,.func (AD j d params body c dV kV G pm an g ct),X⟩) (hcd:Dg K g d=J3) (S:zJ N L c)
  (len:∀ i H Q E,sp i H Q E->i.length=L.length)
  (p:∀(A:Ak)(outer:List ED)(s:d7)(H:Hp)(i:List V)(Q:VK)(E:XK),yn k (A.deeper (envOfC d c s.heap.objs.size f g))->sp i H Q E ->
   ∃ t,PSs (cxOf M P w K mg base N d c f g A outer s H E) body t/\t { nx:=λ_ l=>Q .non l,rt:=Q } (start N i) H) :
  yR P w K mg base M (k+1) f (AD j d params body c dV kV G pm an g ct) L sp:=by
 refine⟨len,λA outer s H args us i Q E Z D hb r B=>?_⟩;have hl:=len _ _ _ _ B;have KX:K.In s.heap:=D.mod.kin.keeps λb o e=>(D.bs b o e).1;have Y:s.heap.NoLimit:=D.mod.nolimit.keeps λb o e=>(D.bs b o e).1;have m:∀ y∈L.zip us,c.names.lookup y.1=O .local\/(c.names.lookup y.1=O .cell/\((cellsFrom 'l' c.names []).lookup y.1).isSome=J3):=λ⟨n,v⟩ hy=>by
  rcases S.par n (Gd hy).1 with q | q
  ·rwa[.inl q]
  ·rwa[.inr ⟨q,F1 _ _ _ (.inl q)⟩]
 refine codeAny_call_function Z.depth (KX _ _ lk) rfl S.co S.gen rfl (PySem.W.codeRec_of KX hcd) (hb _ _ _ _ ?_);refine wpAny_newFunctionEnv_cells S.kind m λenv he s1 x=>?_;subst he;refine⟨Y.keeps x.toInCall.keep,codeAny_func ?_⟩;obtain⟨t,ht,hq⟩:=p A outer s H i Q E (Z.deeper _) B;have I:Inv (cxOf M P w K mg base N d c f g A outer s H E) [] (start N i) H s1:=Vm S Z.hd D hl r x;refine AW (ht [] s1 (start N i) H _ I hq) (λfl R z=>?_) λe R z=>z;have C:∀{h:St}{l:Hp}{v:V}{u:c8},Inv (cxOf M P w K mg base N d c f g A outer s H E) [] h l R->xV v u->Q v l->CE outer P w H s Q u R :=
  λ{h l v u} J T q=>⟨v,l,J.os,J.bare,J.base,J.hok,T,q⟩
 cases fl with
 | ret u =>
  obtain⟨v,h,l,J,T,q⟩:=z;rwa[C J T q]
 | next =>
  obtain⟨h,l,J,q⟩:=z;rwa[C (v:=V.non) (u:=Bo) J rfl q]
 | brk =>
  obtain⟨_,_,_,q⟩:=z;rwa[AO q]
 | cont =>
  obtain⟨_,_,_,q⟩:=z;rwa[AO q]
end L2

namespace L2
section
variable{X:Cx}{x:j9}{p pos:D5}{e:Ar}{es:List Ar}{t:TA}{id T:String}{r:List V->Hp->VK->Prop}

def tCB(r:List V->Hp->VK->Prop)(t:TA):TE:=λc H Q=>t c H λd f=>r d f Q
def yP(y:tD X (.builtin id) r)(v:Gl X x)(u:X.mg x=J2)(o:bootBuiltins x=O (.builtin id))(z:PA X (e::es) t)(q:x ≠ "__name__" := by decide)(d:(x ==("__debug__" : j9))=false:=by decide)
  (w:starEach (e::es) X.env='A'::starEach es X.env:=by rfl) (c:(backTo pos 'B').any (·.1)=false:=by rfl):PE X 't' (tCB r t):=by
 intro g s f H Q I h;erw[Cf (ae I v u o ?_ q d)];rwa[HC (thn (z pos g s f H _ I h) λj l ⟨i,B,A,m,n⟩=>y g l f B i j Q A m n) w c]
def tV(y:tD X (.type T) r)(v:Gl X x)(u:X.mg x=J2)(o:bootBuiltins x=O (.type T))(z:PA X (e::es) t)(q:x ≠ "__name__" := by decide)(d:(x ==("__debug__" : j9))=false:=by decide)
  (w:starEach (e::es) X.env='A'::starEach es X.env:=by rfl) (c:(backTo pos 'B').any (·.1)=false:=by rfl):PE X 't' (tCB r t):=by
 intro g s f H Q I h;erw[Cf (ae I v u o ?_ q d)];rwa[C6 (thn (z pos g s f H _ I h) λj l ⟨i,B,A,m,n⟩=>y g l f B i j Q A m n) w c]
end
end L2

namespace HT
open PySem PyProof.Rows

def lexLt:List Int->List Int->Bool
 | [],[]=>J7
 | [],_::_=>J3
 | _::_,[]=>J7
 | x::xs,y::c=>if x=y then lexLt xs c else decide (x<y)
def lexLt_cons(x y:Int)(xs c:List Int):lexLt (x::xs) (y::c)=if x=y then lexLt xs c else decide (x<y):=rfl
def gD:lexLt [] []=false:=rfl
def jp(y:Int)(c:List Int):lexLt [] (y::c)=true:=rfl
def ju(x:Int)(xs:List Int):lexLt (x::xs) []=false:=rfl

def VZ(A:Ak)(s:d7)(a:Int)(t:JD)(c:Int)(u:JD):∃ e,Ec A s (.int a t) (.int c u) e/\(e=J3↔a=c) :=
 ⟨(a == c),DF a t c u,by simp⟩
def VM(A:Ak)(s:d7)(a:Int)(t:JD)(c:Int)(u:JD)(prog:o0)(w:t7)(E:c8->d7->Prop)(Q:c8->d7->Prop)(h:Q (.bool (decide (a<c))) s) :
  wpAny 'c' A (richCompare .Lt (.int a t) (.int c u)) Q E s :=
 (JN h:wpAny 'c' A (compareOp .Lt (.int a t) (.int c u)) Q E s)

section
open PySem.SeqAt
open PySem.AutoSeq1 (wpAny_loadPart')
open PySem.MeetsSeq PySem.MeetsSeq2 PySem.MeetsSeq3

def tuple_lt_ints(l b:c7)(i f:Array c8)(n n2:Nat)(dd S:Option c7)(Y N:Array (Option c8))(ns L:List Int)(hi:C7 i.toList ns)(X:C7 f.toList L) :
  Meets (Fh.«tuple.__lt__» ⟨[.ref l,.ref b],[]⟩)
   (λ_ R s=>s.heap.get? l=O { cls:=.type "tuple",dict:=dd,data:=.seq i n,slots:=Y }/\s.heap.get? b=O { cls:=.type "tuple",dict:=S,data:=.seq f n2,slots:=N } /\
    R (.ok (.ret (.bool (lexLt ns L)))) s) :=
 .of_wp λprog w A R s h=>by
  obtain⟨M,g,d,J,os⟩:=s; obtain⟨hl,hb,h⟩:=h;have f2:=AutoSeq1.sub_tuple_tuple;have z1:i.size=ns.length:=by rw[<- hi.length]; simp
  have z2:f.size=L.length:=by rw[<- X.length]; simp
  wp_walk using Ib hl,Ib hb,wpAny_forIn_list _ (λv b P=>b.1=J2/\P=⟨M,g,d,J,os⟩/\∃(I H:List c8)(m o:List Int),v=I.zip H /\
   C7 I m/\C7 H o/\m.length+f.size=o.length+i.size/\R (.ok (.ret (.bool (lexLt m o)))) ⟨M,g,d,J,os⟩) _
  case turn =>
   rintro⟨y,x⟩ v b P ⟨D,rfl,I,H,m,o,p,C,r,j,B⟩;cases C with
   | nil=>rw[List.zip_nil_left] at p; cases p
   | cons a t G =>
    cases r with
    | nil=>rw[G0] at p; cases p
    | cons c u E =>
     rw[EL] at p;injection p with hyx hrest
     injection hyx with hy hx
     subst hy hx;rw[lexLt_cons] at B;simp only[g8] at j;obtain⟨e,he,z⟩:=VZ A.in1 ⟨M,g,d,J,os⟩ a t c u;erw[c9 (he prog w _ _ ?_)];cases e with
     | true =>
      rw[y6 (z.mp rfl)] at B
      wp_walk
      rwa[rfl,rfl,_,_,_,_,hrest,G,E,by lia,B]
     | false =>
      rw[y4 (λq=>y9 (z.mpr q) o4)] at B;have Q:=VM A.in1 ⟨M,g,d,J,os⟩ a t c u prog w
      wp_walk using Q
      exact⟨_,U,by simpa using B⟩
  case fin =>
   rintro⟨b1,b2⟩ P ⟨D,rfl,I,H,m,o,p,C,r,j,B⟩;simp only at D;subst D;have T:lexLt m o=decide (i.size<f.size):=by
    cases C with
    | nil =>
     cases r with
     | nil =>
      simp only[Ax] at j;rw[gD];exact(y8 (by lia)).symm
     | cons c u Z =>
      simp only[Ax,g8] at j;rw[jp];exact(y7 (by lia)).symm
    | cons a t T =>
     cases r with
     | nil =>
      simp only[Ax,g8] at j;rw[ju];exact(y8 (by lia)).symm
     | cons c u Z =>
      rw[EL] at p;cases p
   rw[T] at B
   wp_walk
   exact⟨_,U,by simpa [Hu] using B⟩
  case h =>
   rwa[rfl,rfl,i.toList,f.toList,ns,L,rfl,hi,X,by lia,h]
end

section
variable{prog:o0}{w:t7}{A:Ak}{E:c8->d7->Prop}{s:d7}

def lt_tupInts{Q:c8->d7->Prop}(v:Jl s.heap l d)(z:Jl s.heap b c)(hi:C7 d.toList ns)(y:C7 c.toList e)
  (u:A.units<cLine) (h:Q (.bool (lexLt ns e)) s):wpAny 'c' A (compareOp .Lt (.ref l) (.ref b)) Q E s:=by
 obtain⟨⟨cls,B,data,r⟩,o,p,n,hd⟩:=id v;obtain⟨⟨q,m,data2,j⟩,f,i,n2,g⟩:=id z;simp only at p hd i g;subst p hd i g;exact richCompare_meets_room (op:=.Lt) ⟨_,o,rfl⟩ ⟨_,f,rfl⟩ D6 F2 (FM _ _) (tuple_lt_ints l b d c n n2 B m r j ns e hi y)
  ⟨o,f,show FY (lexLt ns e)≠Value.notImplemented/\Q (.bool (lexLt ns e)) s from⟨(λx=>nomatch x),h⟩⟩ u

def cat_tup{f c:List c8}{Q:c8->d7->Prop}(x:Jl s.heap t f.toArray)(y:Jl s.heap b c.toArray)(q:f≠[])
  (h1:c=[]->Q (.ref t) s) (h2:c≠[]->Q (.ref s.heap.objs.size) { s with heap:=s.heap.push { cls:=.type "tuple",data:=.seq (f++c).toArray } })
  (o:f.length+c.length<=sizeLine):wpAny 'c' A (binaryOp .Add (.ref t) (.ref b)) Q E s:=by
 obtain⟨⟨cls,u,data,p⟩,m,r,n,hd⟩:=id x;obtain⟨⟨v,j,data2,g⟩,d,i,n2,h⟩:=id y;simp only at r hd i h;subst r hd i h;have e:f.toArray++c.toArray=(f++c).toArray:=by simp
 by_cases l:c=[]
 ·exact concat_meets ⟨_,m,rfl⟩ ⟨_,d,rfl⟩ noFill_tuple_add seq_tuple_add F3 FN (FA _ _)
   (tuple_addW1 t b f.toArray c.toArray n n2 u j p g (by simpa using q) (by simp[l])) ⟨m,d,h1 l⟩
 ·refine concat_meets ⟨_,m,rfl⟩ ⟨_,d,rfl⟩ noFill_tuple_add seq_tuple_add F3 FN (FA _ _)
   (tuple_addW2 t b f.toArray c.toArray n n2 u j p g (by simpa using q) (by simpa using l) (by rw[i7,i7]; rwa[o])) ⟨m,d,?_⟩
  rw[e];rwa[h2 l]

def sIx(n d:Nat):Option Int->Nat
 | none=>d
 | some v=>if v<0 then(v+(n:Int)).toNat else min v.toNat n
def sIx_nat(n d k:Nat):sIx n d (O (k:Int))=min k n:=by
 show(if (k:Int)<0 then((k:Int)+(n:Int)).toNat else min (k:Int).toNat n)=min k n;rw[y4 (by lia),Br]
def QY(n d:Nat)(hd:d<=n)(o:Option Int):sIx n d o<=n:=by
 cases o with
 | none=>rwa[hd]
 | some v =>
  show(if v<0 then(v+(n:Int)).toNat else min v.toNat n)<=n;by_cases c:v<0
  ·rw[y6 c]; lia
  ·rw[y4 c]; rwa[Nat.min_le_right _ _]
def WA(v:Int)(n d:Nat):(if v<0 then max (v+(n:Int)) 0 else min v (n:Int))=((sIx n d (O v):Nat):Int):=by
 show(if v<0 then max (v+(n:Int)) 0 else min v (n:Int))=(((if v<0 then(v+(n:Int)).toNat else min v.toNat n):Nat):Int);by_cases c:v<0
 ·simp only[y6 c]; lia
 ·simp only[y4 c]; lia
def Yv(lo hi:Option Int)(n:Nat):Dn lo hi 1 (n:Int)=(((sIx n 0 lo:Nat):Int),((sIx n n hi:Nat):Int)):=by
 have h1:¬ ((1:Int)<0):=by lia
 unfold Dn;simp only[h1,if_false];erw[DU ?_ ?_]
 ·cases lo with
  | none=>rfl
  | some v=>rwa[WA v n 0]
 ·cases hi with
  | none=>rfl
  | some v=>rwa[WA v n n]
def Yb(i j:Nat):Cn (i:Int) (j:Int) 1=j-i:=by
 unfold Cn;have h1:(1:Int)>0:=by lia
 simp only[h1,if_true,Int.ediv_one];split <;> lia
def jJ{Q:Option Int->d7->Prop}(p:G1 v o)(h:Q o s):wpAny 'c' A (Ic v) Q E s:=by
 cases p with
 | none=>rwa[slicePart_none h]
 | int i t=>rwa[slicePart_int h]
def nH{lo hi:Option Int}{n:Nat}{Q:Int×Int×Nat->d7->Prop}(l:s.heap.IsSliceOf g f e .none)(j:G1 f lo)(i:G1 e hi)
  (h:Q (((sIx n 0 lo:Nat):Int),1,sIx n n hi-sIx n 0 lo) s):wpAny 'c' A (EM (.ref g) (pure (n:Int))) Q E s:=by
 obtain⟨os,c,m,d⟩:=id l;unfold EM IQ;erw[c9 (c9 (DL c d (x:=f) rfl (c9 (DL c d (x:=e) rfl (c9 (DL c d (x:=.none) rfl (i5 ?_)))))))];erw[c9 (slicePart_none ?_)];show wpAny _ _ (if ((1:Int) == 0)=J3 then _ else _) _ _ s;rw[y4 'a'];erw[c9 (jJ j (c9 (jJ i (c9 (i5 ?_)))))];show wpAny _ _ (match Dn lo hi 1 (n:Int) with | (lo,hi)=>pure (lo,(1:Int),Cn lo hi 1)) _ _ s;rw[Yv lo hi n];show wpAny _ _ (pure (((sIx n 0 lo:Nat):Int),(1:Int),Cn ((sIx n 0 lo:Nat):Int) ((sIx n n hi:Nat):Int) 1)) _ _ s;rw[Yb];rwa[i5 h]
def UJ(xs:Array c8)(i k:Nat):((Ad k).filterMap λ(m:Nat)=>xs[((i:Int)+(m:Int)*1).toNat]?).toArray=((xs.toList.drop i).take k).toArray:=by
 have e:(λ(m:Nat)=>xs[((i:Int)+(m:Int)*1).toNat]?)=λm=>xs[i+m]?:=by
  funext m
  have:((i:Int)+(m:Int)*1).toNat=i+m:=by lia
  rw[this]
 rw[e];have:=pick_run xs i k;rw[List.filterMap_map] at this;have c:((λx=>xs[x]?) ∘ λx=>i+x)=λm=>xs[i+m]?:=rfl;rw[c] at this;rw[this]

def getItem_tuple_cut{lo hi:Option Int}{Q:c8->d7->Prop}(e:Jl s.heap t c)(p:s.heap.IsSliceOf f o n .none)(u:G1 o lo)(r:G1 n hi)
  (v:¬ (sIx c.size 0 lo=0/\sIx c.size c.size hi=c.size))
  (h:Q (.ref s.heap.objs.size) { s with heap:=s.heap.push { cls:=.type "tuple",data:=.seq ((c.toList.drop (sIx c.size 0 lo)).take (sIx c.size c.size hi-sIx c.size 0 lo)).toArray } })
  (x:c.size<=sizeLine):wpAny 'c' A (getItem (.ref t) (.ref f)) Q E s:=by
 have d:sizeOk (.seq ((c.toList.drop (sIx c.size 0 lo)).take (sIx c.size c.size hi-sIx c.size 0 lo)).toArray):=by
  show((c.toList.drop (sIx c.size 0 lo)).take (sIx c.size c.size hi-sIx c.size 0 lo)).toArray.size<=sizeLine;rw[i7,m8,Ai,o7];lia
 have C:sIx c.size c.size hi<=c.size:=QY _ _ (f7 _) hi;obtain⟨os,g,j,y⟩:=id p;have l:s.TypeIs (.ref f) "slice" :=⟨os,g,j⟩;unfold getItem
 try with_reducible refine Cc ?_
 first | refine c9 (i5 ?_) | skip
 refine c9 (wpAny_sequenceKey e.typeIs 'a' ?_);refine c9 (DM (name:=Dk "__getitem__") e.typeIs Cz
  (CJ Cz e.typeIs entry_tuple_getitem ?_ (args_tuple_getitem _ _)))
 show wpAny _ _ (Iv (.ref t) >>= _) _ _ s;refine c9 (tupleItemsOf_ e ?_);refine c9 (wpAny_typeOf l ?_);rw[y6 'a'];refine c9 (nH p u r ?_);have i:¬ ((((sIx c.size 0 lo:Nat):Int) == 0&&(1:Int) == 1&&(sIx c.size c.size hi-sIx c.size 0 lo) == c.size)=J3):=by
  intro q;rw[AA,AA] at q;have B:((sIx c.size 0 lo:Nat):Int)=0:=eq_of_beq q.1.1;have z:sIx c.size c.size hi-sIx c.size 0 lo=c.size:=eq_of_beq q.2;rwa[v ⟨by lia,by lia⟩]
 show wpAny _ _ (if (((sIx c.size 0 lo:Nat):Int) == 0&&(1:Int) == 1&&(sIx c.size c.size hi-sIx c.size 0 lo) == c.size)=J3 then _ else _) _ _ s;rw[y4 i,UJ]
 first
  | exact c9 (m:=Cw _) (AI (i5 ⟨_,rfl,i5 h⟩) d)
  | exact c9 (m:=Cw _) (AI (c9 (i5 (i5 ⟨_,rfl,i5 h⟩))) d)
  | exact c9 (c9 (m:=Cw _) (AI (i5 (i5 ⟨_,rfl,i5 h⟩)) d))
  | exact c9 (c9 (m:=Cw _) (AI (i5 ⟨_,rfl,i5 h⟩) d))
end
end HT

namespace L2

abbrev TO:=St->Hp->(Option Int->Hp->Prop)->Prop
def PO(X:Cx)(e:Option Ar)(t:TO):Prop :=
 ∀(d:List (c7×Bk))(s:d7)(c:St)(H:Hp)(Q:Option Int->Hp->Prop),Inv X d c H s->t c H Q ->
  wpAny 'b' X.A (evalPart e X.env) (λu g=>∃ o f,Inv X d c f g/\G1 u o/\Q o f) X.xe s
def RB:TO:=λ_ H Q=>Q J2 H
def tPart(t:TE):TO:=λc H Q=>t c H λx d=>∃ i,x=.int i/\Q (O i) d

def oq{ns:List Int} : ∀{c:List c8},yY 'p' c->C7 c ns:=by
 induction ns with
 | nil=>intro c r; rw[DV] at r; cases r; rwa[.nil]
 | cons n ns g =>
  intro c r;rw[j3] at r;cases r with
  | cons f d =>
   obtain⟨t,e⟩:=f;subst e;rwa[.cons n t (g d)]

section
variable{X:Cx}{e:Ar}{te:TE}{lo hi:Option Ar}{tl th:TO}{pos p2:D5}

def oz:PO X J2 RB:=by
 intro d s c H Q I h;rw[evalPart_none];rwa[i5 ⟨J2,H,I,.none,h⟩]
def xy(h:PE X e te):PO X (O e) (tPart te):=by
 intro j s c H Q I g;rw[evalPart_some];erw[thn (h j s c H _ I g) λu n ⟨x,m,l,d,f⟩=>?_];obtain⟨i,rfl,q⟩:=f;obtain⟨t,rfl⟩:=d;rwa[O i,m,l,.int i t,q]

def SlR(X:Cx)(r:V->Option Int->Option Int->Hp->VK->Prop):Prop :=
 ∀(h:List (c7×Bk))(s:d7)(c:St)(H:Hp)(x:V)(v f d:c8)(lo hi:Option Int)(g:c7)(Q:VK),Inv X h c H s->xV x v->s.heap.IsSliceOf g f d .none->G1 f lo->G1 d hi->r x lo hi H Q ->
  ∃ T id,typeLookup (.type T) "__getitem__" = pure (O (.builtin id))/\s.TypeIs v T/\wpAny 'b' X.A (getItem v (.ref g)) (EP X h c Q) X.xe s
def tSl(r:V->Option Int->Option Int->Hp->VK->Prop)(te:TE)(tl th:TO):TE:=λc H Q=>te c H λx g=>tl c g λl f=>th c f λu d=>r x l u d Q
def zk{r:V->Option Int->Option Int->Hp->VK->Prop}(G:SlR X r)(M:PE X e te)(J:PO X lo tl)(D:PO X hi th):PE X (.Subscript e (.Slice lo hi J2 p2) pos) (tSl r te tl th):=by
 intro f s d H Q I h;erw[Iw (thn (M f s d H _ I h) λv n ⟨x,H1,Y,o,z⟩=>?_)];erw[wpAny_Slice (thn (J f n d H1 _ Y z) λi m ⟨l,Z,S,C,y⟩=>thn (D f m d Z _ S y) λg c ⟨u,j,R,B,p⟩=>?_)];rw[evalPart_none];erw[i5 ?_];have P:Inv X f d j { c with heap:=c.heap.push { cls:=.type "slice",data:=.fields #[i,g,.none] } }:=R.kept (t':=c.toks) λb ob q=>e9 _ q;obtain⟨T,id,N,E,L⟩:=G f { c with heap:=c.heap.push { cls:=.type "slice",data:=.fields #[i,g,.none] } } d j x v i g l u c.heap.objs.size Q P o (JR ..) C B p;show wpAny 'b' X.A (subscriptTail e (.Slice lo hi J2 p2) v (.ref c.heap.objs.size)) (EP X f d Q) X.xe { c with heap:=c.heap.push { cls:=.type "slice",data:=.fields #[i,g,.none] } };rwa[tail_any (ops:=[.ref c.heap.objs.size,v]) E N L (by with_unfolding_all rfl)]

def xf(xs:List V)(lo hi:Option Int):List V:=(xs.drop (HT.sIx xs.length 0 lo)).take (HT.sIx xs.length xs.length hi-HT.sIx xs.length 0 lo)
def kE(xs:List V)(lo hi:Option Int):(xf xs lo hi).length<=xs.length:=by
 unfold xf;rw[m8,Ai];lia
def rSlT(K:c5):V->Option Int->Option Int->Hp->VK->Prop:=λx lo hi H Q=>E2 λa xs=>A4 (x=.ref a) (SqT K H a xs) (¬ (HT.sIx xs.length 0 lo=0/\HT.sIx xs.length xs.length hi=xs.length)) (∀ p,H p=J2->Q (.ref p) (upd H p (.tup (xf xs lo hi))))
def WM:SlR X (rSlT X.K):=by
 intro A s u H x v y w lo hi z Q I i p l j h;obtain⟨a,xs,rfl,m,n,q⟩:=h;cases i;obtain⟨d,r,g,f⟩:=I.tuple m;have c:d.toArray.size=xs.length:=by rw[i7]; rwa[r.length.symm]
 exists "tuple",_,Cz.lookup,g.typeIs;erw[HT.getItem_tuple_cut g p l j (by rw[c]; rwa[n]) ?_ (by rw[c]; rwa[f])];rw[c];erw[.ref s.heap.objs.size,_,I.laid (t':=s.toks) (o:=.tup (xf xs lo hi)) (λb ob q=>e9 _ q) (f7 _) ?_,rfl,q _ (I.hok.fresh (f7 _))];rwa[i4 (kE xs lo hi) f,_,(r.drop (HT.sIx xs.length 0 lo)).take (HT.sIx xs.length xs.length hi-HT.sIx xs.length 0 lo),Hy _ _]

def rCatT(K:c5):R2:=λx y H Q=>E4 λa b xs c=>A8 (x=.ref a) (y=.ref b) (SqT K H a xs) (SqT K H b c) (xs≠[]) (xs.length+c.length<=sizeLine) (c=[]->Q (.ref a) H) (c≠[]->∀ p,H p=J2->Q (.ref p) (upd H p (.tup (xs++c))))
def yY.nil_iff(r:yY xs c):c=[]↔xs=[]:=by
 cases r with
 | nil=>simp
 | cons _ _=>simp
def Ri:OpR X (binaryOp .Add) (rCatT X.K):=by
 intro D s C H x y v u Q I l j h;obtain⟨a,b,xs,i,rfl,rfl,B,A,r,g,n,m⟩:=h;cases l;cases j;obtain⟨p,d,p1,_⟩:=I.tuple B;obtain⟨f,c,p2,_⟩:=I.tuple A;erw[HT.cat_tup p1 p2 (λz=>r (d.nil_iff.mp z)) (λz=>⟨.ref a,H,I,rfl,n (c.nil_iff.mp z)⟩) (λz=>?_) (by rw[<- d.length,<- c.length]; rwa[g])];erw[.ref s.heap.objs.size,_,I.laid (t':=s.toks) (o:=.tup (xs++i)) (λb ob q=>e9 _ q) (f7 _) ?_,rfl,m (λw=>z (c.nil_iff.mpr w)) _ (I.hok.fresh (f7 _))];rwa[by rw[f9]; exact g,_,d.append c,Hy _ _]
end
end L2

namespace L2

def ixN(n:Nat)(i:Int):Option Nat:=if 0<=i then(if i<n then O i.toNat else J2) else if -(n:Int)<=i then O (i+n).toNat else J2
def atI{c:Type}(xs:List c)(i:Int):Option c:=(ixN xs.length i).bind λj=>xs[j]?
def Wh{n:Nat}{i:Int}{j:Nat}(h:ixN n i=O j):seqIndex? i n=O j/\j<n/\-(n:Int)<=i/\i<n:=by
 unfold ixN at h;by_cases h0:0<=i
 ·rw[y6 h0] at h;by_cases h1:i<n
  ·rw[y6 h1] at h;have e:i.toNat=j:=t6 h;rwa[by rw[seqIndex_of h0 h1,e],by lia,by lia,h1]
  ·rw[y4 h1] at h; cases h
 ·rw[y4 h0] at h;by_cases h1 : -(n:Int)<=i
  ·rw[y6 h1] at h;have e:(i+n).toNat=j:=t6 h;rwa[by rw[seqIndex_neg (by lia) h1,e],by lia,h1,by lia]
  ·rw[y4 h1] at h; cases h
def cW{c:Type}{xs:List c}{i:Int}{v:c}(h:atI xs i=O v):∃ j,seqIndex? i xs.length=O j/\xs[j]?=O v/\j<xs.length/\-(xs.length:Int)<=i/\i<xs.length:=by
 unfold atI at h;cases e:ixN xs.length i with
 | none=>rw[e] at h; cases h
 | some j =>
  rw[e] at h;obtain⟨h1,h2,h3,h4⟩:=Wh e;rwa[j,h1,h,h2,h3,h4]
def vX{c:Type}{xs:List c}{j:Nat}{v:c}(h:xs[j]?=O v):atI xs (j:Int)=O v:=by
 have d:j<xs.length:=(e8.mp h).1;have e:ixN xs.length (j:Int)=O j:=by
  unfold ixN;rw[y6 (by lia),y6 (by lia)]; simp
 unfold atI; rw[e]; rwa[h]
def Zl{c:Type}(xs:List c)(v:c):atI (xs++[v]) (-1)=O v:=by
 have d:(xs++[v]).length=xs.length+1:=by simp
 have e:ixN (xs++[v]).length (-1)=O xs.length:=by
  unfold ixN;rw[d,y4 'a',y6 (by lia)]
  congr 1
  lia
 unfold atI;rw[e];show(xs++[v])[xs.length]?=O v;simp

def Xs(b:Ar):Prop:=∀ o i,subscripted b J7 o i=operate [o,i] (getItem o i)
def IxR(X:Cx)(r:R2):Prop :=
 ∀(value slice:Ar)(d:List (c7×Bk))(s:d7)(c:St)(H:Hp)(x y:V)(v u:c8)(Q:VK),Inv X d c H s->xV x v->xV y u->r x y H Q ->
  subscripted slice J7 v u=operate [v,u] (getItem v u)->wpAny 'b' X.A (subscriptTail value slice v u) (EP X d c Q) X.xe s
def MtR(X:Cx)(id:String)(r:V->List V->Hp->VK->Prop):Prop :=
 ∀(e:List (c7×Bk))(s:d7)(c:St)(H:Hp)(x:V)(xs:List V)(v:c8)(d:List c8)(Q:VK),Inv X e c H s->xV x v->yY xs d->r x xs H Q ->
  wpAny 'b' X.A (call (.builtin id) (v::d)) (EP X e c Q) X.xe s
section
variable{X:Cx}{a b:Ar}{ta tb:TE}{pos:D5}
def iF(i:IxR X r)(l:PE X a ta)(j:PE X b tb)(g:Xs b):PE X (.Subscript a b pos) (tOp r ta tb):=by
 intro m s c H Q I h;rwa[Iw (Oe l j I h λv u d x y o n f e q=>i a b m d c o x y v u Q n f e q (g _ _))]

def rIxL(K:c5):R2:=λx y H Q=>E4 λp xs i v=>A5 (x=.ref p) (y=.int i) (SqL K H p xs) (atI xs i=O v) (Q v H)
def rIxT(K:c5):R2:=λx y H Q=>E4 λp xs i v=>A5 (x=.ref p) (y=.int i) (SqT K H p xs) (atI xs i=O v) (Q v H)
def rIxS:R2:=λx y H Q=>E3 λz i c=>A5 (x=.str z) (y=.int i) (z.length<=sizeLine) (atI z.cps.toList i=O c) (Q (.str ⟨#[c]⟩) H)
def Rx:IxR X (rIxL X.K):=by
 intro value slice o s l H x y v u Q I C B h m;obtain⟨p,xs,i,z,rfl,rfl,D,G,q⟩:=h;cases C;obtain⟨t,rfl⟩:=B;obtain⟨f,r,e,J⟩:=I.list D;obtain⟨j,h1,h2,h3,h4,h5⟩:=cW G;obtain⟨w,n,d⟩:=r.get h2;have E:=r.length;have L:=jX;have c:EP X o l Q w s:=⟨z,H,I,d,q⟩;by_cases h0:0<=i
 ·have g:i.toNat=j:=by
   rw[seqIndex_of h0 h5] at h1;rwa[t6 h1]
  exact item_listR e.isList h0 (by lia) (by rw[g]; simpa using n) c m
 ·have g:(i+(f.toArray.size:Int)).toNat=j:=by
   rw[seqIndex_neg (by lia) h4] at h1;rw[i7,<- E];rwa[t6 h1]
  exact subscriptTail_builtinR (x:=w) e.isList.typeIs slot_list_getitem.lookup
   (wpAny_getItem_list_neg (Q:=λr A=>r=w/\EP X o l Q r A) e.isList (by lia) (by rw[i7] <;> lia) (by lia) (by rw[g]; simpa using n) ⟨rfl,c⟩) m
def QF:IxR X (rIxT X.K):=by
 intro value slice g s e H x y v u Q I n m h A;obtain⟨p,xs,i,z,rfl,rfl,B,D,q⟩:=h;cases n;obtain⟨t,rfl⟩:=m;obtain⟨o,r,f,G⟩:=I.tuple B;obtain⟨j,h1,h2,h3,h4,h5⟩:=cW D;obtain⟨w,E,c⟩:=r.get h2;have C:=r.length;have J:=jX;have d:EP X g e Q w s:=⟨z,H,I,c,q⟩;exact subscriptTail_builtinR (x:=w) f.typeIs slot_tuple_getitem.lookup
  (getItem_tuple (j:=j) (Q:=λr l=>r=w/\EP X g e Q r l) f (by lia) (by lia) (by rw[i7,<- C]; rwa[h1]) (by simpa using E) ⟨rfl,d⟩) A
def Td:IxR X rIxS:=by
 intro value slice A s o H x y v u Q I e d h f;obtain⟨z,i,c,rfl,rfl,r,l,q⟩:=h;obtain⟨t,rfl⟩:=e;obtain⟨p,rfl⟩:=d;obtain⟨j,h1,h2,h3,h4,h5⟩:=cW l;have g:z.cps.toList.length=z.length:=by simp[Str.length]
 rw[g] at h1 h4 h5;have w:=jX;exact tail_any (typeIs_str s z t) slot_str_getitem.lookup (getItem_str (c:=c) (by
  have n:decide (i < -(2^63:Int))=false:=y8 (by lia);have m:decide (i >= 2^63)=false:=y8 (by lia);rw[n,m,Jf]) (by rw[h1]; simpa using h2) ⟨.str ⟨#[c]⟩,H,I.tok _,⟨_,rfl⟩,q⟩) f
def Ye(c:List c8)(n j:Nat)(u:c8):AG (·.setIfInBounds j u) { cls:=.type "list",data:=.seq c.toArray n }={ cls:=.type "list",data:=.seq (c.set j u).toArray n }:=by
 simp[AG]
def Inv.lst{d:St}{H:Hp}(I:Inv X f d H s)(h:H p=O (.lst xs)) :
  ∃(c:List c8)(n:Nat),yY xs c/\s.heap.get? p=O { cls:=.type "list",data:=.seq c.toArray n }/\xs.length<=sizeLine:=by
 obtain⟨z,c,n,r,e⟩:=I.hok p _ h;rwa[c,n,r,e,z]
def Inv.lstUpd{j:St}{H:Hp}{d c:List c8}{n i:Nat}{f:Bk->Bk}(I:Inv X m j H s)(h:H p=O (.lst xs))
  (v:s.heap.get? p=O { cls:=.type "list",data:=.seq d.toArray n }) (l:f { cls:=.type "list",data:=.seq d.toArray n }={ cls:=.type "list",data:=.seq c.toArray i }) (r:yY g c) (o:g.length<=sizeLine) (t:Nat) :
  Inv X m j (upd H p (.lst g)) { s with heap:=s.heap.update p f,toks:=t }:=by
 have e:(s.heap.update p f).get? p=O { cls:=.type "list",data:=.seq c.toArray i }:=by
  rw[C3 f v (by rw[l] <;> rfl),l]
 erw[I.write (x:=p) (e:=p) (by rw[h]; trivial) (.inl rfl) (λb u w q=>(AL _ _ (Bi w)).trans q) ⟨_,e⟩ ?_];rwa[o,c,i,r,e]
def rSetL:V->V->V->Hp->(Hp->Prop)->Prop:=λo i v H Q=>E4 λp xs k j=>A5 (o=.ref p) (i=.int k) (H p=O (.lst xs)) (ixN xs.length k=O j) (Q (upd H p (.lst (xs.set j v))))
def VR:PSet X rSetL:=by
 intro B s m H o i v C D u Q I x y w h;obtain⟨p,xs,k,j,rfl,rfl,g,A,q⟩:=h;cases x;obtain⟨t,rfl⟩:=y;obtain⟨c,n,r,d,z⟩:=I.lst g;obtain⟨h1,h2,h3,h4⟩:=Wh A;have e:=r.length;have E:=jX;have l:Inv X B m (upd H p (.lst (xs.set j v))) { s with heap:=s.heap.update p (AG (·.setIfInBounds j u)) } :=
  I.lstUpd g d (Ye c n j u) (r.set w j) (by rw[DD]; rwa[z]) s.toks
 by_cases h0:0<=k
 ·have f:k.toNat=j:=by
   rw[seqIndex_of h0 h4] at h1;rwa[t6 h1]
  rwa[PySem.W.ki_setAt d h0 (by lia) (by rw[i7,<- e]; exact h4) (by rw[f]; exact⟨_,l,q⟩)]
 ·have f:(k+(c.toArray.size:Int)).toNat=j:=by
   rw[seqIndex_neg (by lia) h3] at h1;rw[i7,<- e];rwa[t6 h1]
  rwa[PySem.W.ki_setBack d (by lia) (by rw[i7,<- e]; exact h3) (by lia) (by rw[f]; exact⟨_,l,q⟩)]

def fC(lo hi:Option Int)(n:Nat):(sliceBounds lo hi J2 n).1=((HT.sIx n 0 lo:Nat):Int)/\(sliceBounds lo hi J2 n).2.1=((HT.sIx n n hi:Nat):Int)/\(sliceBounds lo hi J2 n).2.2=1:=by
 erw[?_,?_,rfl]
 ·cases lo with
  | none=>simp[sliceBounds,HT.sIx]
  | some i =>
   simp only[sliceBounds,HT.sIx,HD,show(1:Int)>0 by decide,if_true];by_cases h:i<0
   ·simp only[h,if_true] <;> lia
   ·simp only[h,if_false] <;> lia
 ·cases hi with
  | none=>simp[sliceBounds,HT.sIx]
  | some i =>
   simp only[sliceBounds,HT.sIx,HD,show(1:Int)>0 by decide,if_true];by_cases h:i<0
   ·simp only[h,if_true] <;> lia
   ·simp only[h,if_false] <;> lia
def hX(c:List c8)(lo hi:Option Int):slicePick c.toArray lo hi J2=((c.drop (HT.sIx c.length 0 lo)).take (HT.sIx c.length c.length hi-HT.sIx c.length 0 lo)).toArray:=by
 obtain⟨h1,h2,h3⟩:=fC lo hi c.toArray.size;unfold slicePick;rw[h1,h2,h3];simp only[sliceRange_one,pick_run,i7] <;> rfl
def rSlL(K:c5):V->Option Int->Option Int->Hp->VK->Prop:=λx lo hi H Q=>E2 λa xs=>A3 (x=.ref a) (SqL K H a xs) (∀ p,H p=J2->Q (.ref p) (upd H p (.lst (xf xs lo hi))))
def Xq:SlR X (rSlL X.K):=by
 intro y s n H x v u p lo hi w Q I e m g f h;obtain⟨a,xs,rfl,l,q⟩:=h;cases e;obtain⟨i,r,d,j⟩:=I.list l;have c:=r.length;exists "list",_,slot_list_getitem.lookup,d.isList.typeIs;erw[wpAny_getItem_list_slice d.isList m g f .none 'd' ?_ (by rw[i7] <;> lia)];rw[hX,<- c];erw[.ref s.heap.objs.size,_,I.laid (t':=s.toks) (o:=.lst (xf xs lo hi)) (λb ob q=>e9 _ q) (f7 _) ?_,rfl,q _ (I.hok.fresh (f7 _))];rwa[i4 (kE xs lo hi) j,_,0,(r.drop (HT.sIx xs.length 0 lo)).take (HT.sIx xs.length xs.length hi-HT.sIx xs.length 0 lo),n9 _ rfl]

def gE:V->Bool
 | .non=>J3
 | .bl _=>J3
 | .int _=>J3
 | .str _=>J3
 | _=>J7
def eqV:V->V->Bool
 | .non,.non=>J3
 | .bl a,.bl b=>a == b
 | .bl a,.int b=>(if a then 1 else 0) == b
 | .int a,.bl b=>a ==(if b then 1 else 0)
 | .int a,.int b=>a == b
 | .str a,.str b=>a == b
 | _,_=>J7
def QL(e:xV y u)(c:xV x v)(g:gE y=J3)(f:gE x=J3):Ec A s u v (eqV y x):=by
 cases y with
 | non =>
  cases e;cases x with
  | non=>cases c; rwa[Ie _]
  | bl b=>cases c; rwa[SeqAt.EqAt.none_bool b]
  | int b=>obtain⟨t,rfl⟩:=c; rwa[SeqAt.EqAt.none_int b t]
  | str b=>obtain⟨t,rfl⟩:=c; rwa[SeqAt.EqAt.none_str b t]
  | _=>exact y9 'v' o4
 | bl a =>
  cases e;cases x with
  | non=>cases c; rwa[SeqAt.EqAt.bool_none a]
  | bl b=>cases c; rwa[SeqAt.EqAt.bool_bool a b]
  | int b=>obtain⟨t,rfl⟩:=c; rwa[SeqAt.EqAt.bool_int a b t]
  | str b=>obtain⟨t,rfl⟩:=c; rwa[SeqAt.EqAt.bool_str a b t]
  | _=>exact y9 'v' o4
 | int a =>
  obtain⟨d,rfl⟩:=e;cases x with
  | non=>cases c; rwa[SeqAt.EqAt.int_none a d]
  | bl b=>cases c; rwa[SeqAt.EqAt.int_bool a d b]
  | int b=>obtain⟨t,rfl⟩:=c; rwa[DF a d b t]
  | str b=>obtain⟨t,rfl⟩:=c; rwa[GU a d b t]
  | _=>exact y9 'v' o4
 | str a =>
  obtain⟨d,rfl⟩:=e;cases x with
  | non=>cases c; rwa[SeqAt.EqAt.str_none a d]
  | bl b=>cases c; rwa[SeqAt.EqAt.str_bool a d b]
  | int b=>obtain⟨t,rfl⟩:=c; rwa[GV a d b t]
  | str b=>obtain⟨t,rfl⟩:=c; rwa[EN a d b t]
  | _=>exact y9 'v' o4
 | _=>exact y9 (show J7=J3 from g) o4
def eqU(x:V)(u:c8):Bool:=match u with
 | .none=>eqV .non x
 | .bool b=>eqV (.bl b) x
 | .int i _=>eqV (.int i) x
 | .str z _=>eqV (.str z) x
 | _=>J7
def Tj(r:xV y u)(f:gE y=J3):eqU x u=eqV y x:=by
 cases y with
 | non=>cases r; rfl
 | bl b=>cases r; rfl
 | int i=>obtain⟨t,rfl⟩:=r; rfl
 | str z=>obtain⟨t,rfl⟩:=r; rfl
 | _=>exact y9 'v' o4
def bH : ∀{xs:List V}{c:List c8},yY xs c->xs.all gE=J3->c.any (eqU x)=xs.any λy=>eqV y x
 | _,_,.nil,_=>rfl
 | y::xs,u::c,.cons r t,f=>by
  rw[Dx,AA] at f;rw[Bu,Bu,Tj r f.1,bH t f.2]
def gL(e:xV x v)(g:gE x=J3):∀{xs:List V}{d:List c8},yY xs d->xs.all gE=J3->∀ u∈d,Ec A s u v (eqU x u)
 | _,_,.nil,_=>λu c=>by cases c
 | y::xs,u::d,.cons r t,f=>λh c=>by
  rw[Dx,AA] at f;rcases l9.mp c with rfl | c
  ·rw[Tj r f.1]; rwa[QL r e f.1 g]
  ·rwa[gL e g t f.2 h c]
def inV(x:V)(xs:List V):Bool:=xs.any λy=>eqV y x
def rIn(K:c5)(neg:Bool):R2:=λx y H Q=>E2 λp xs=>A5 (y=.ref p) (SqL K H p xs\/SqT K H p xs) (gE x=J3) (xs.all gE=J3) (Q (.bl (if neg then !inV x xs else inV x xs)) H)
def dX:OpR X (compareOp .In) (rIn X.K J7):=by
 intro n s m H x y v u Q I g j h;obtain⟨p,xs,rfl,d,i,fs,q⟩:=h;cases j;rcases d with d | d
 ·obtain⟨c,r,e,l⟩:=I.list d;refine Ig (eqU x) e.isList (λw f=>gL g i r fs w (by simpa using f)) ⟨.bl _,H,I,rfl,?_⟩;rw[show c.toArray.any (eqU x)=c.any (eqU x) by simp,bH r fs];rwa[q]
 ·obtain⟨c,r,e,l⟩:=I.tuple d;refine HE (eqU x) e (λw f=>gL g i r fs w (by simpa using f)) ⟨.bl _,H,I,rfl,?_⟩;rw[show c.toArray.any (eqU x)=c.any (eqU x) by simp,bH r fs];rwa[q]
def xz:tD X (.builtin "len") (λxs H Q=>E2 λp d=>A3 (xs=[.ref p]) (SqL X.K H p d\/SqT X.K H p d) (Q (.int d.length) H)):=by
 intro v s m H xs n Q I r h;obtain⟨p,d,rfl,e,q⟩:=h;obtain⟨u,rfl,j⟩:=ka r;cases j;have o:=jX;rcases e with e | e
 ·obtain⟨i,f,g,l⟩:=I.list e;have c:=f.length;rwa[Calls.call_len_list g.isList (by simp only[i7] <;> lia) ⟨.int d.length,H,I.tok _,⟨s.toks+1,by rw[i7,c]⟩,q⟩]
 ·obtain⟨i,f,g,l⟩:=I.tuple e;have c:=f.length;rwa[len_tuple g (by simp only[i7] <;> lia) ⟨.int d.length,H,I.tok _,⟨s.toks+1,by rw[i7,c]⟩,q⟩]
def oE:tD X (.builtin "len") (λxs H Q=>∃ z,A3 (xs=[.str z]) (z.length<=sizeLine) (Q (.int z.length) H)):=by
 intro g s c H xs d Q I r h;obtain⟨z,rfl,e,q⟩:=h;obtain⟨u,rfl,t,rfl⟩:=ka r;have f:=jX;rwa[len_str (by lia) ⟨.int z.length,H,I.tok _,⟨_,rfl⟩,q⟩]
def tD.or{r g:List V->Hp->VK->Prop}(h:tD X f r)(j:tD X f g):tD X f (λxs H Q=>r xs H Q\/g xs H Q):=by
 intro i s c H xs d Q I e q;rcases q with q | q
 ·rwa[h i s c H xs d Q I e q]
 ·rwa[j i s c H xs d Q I e q]
def dM:tD X (.type "list") (λxs H Q=>E2 λp f=>A3 (xs=[.ref p]) (SqL X.K H p f\/SqT X.K H p f) (∀ l,H l=J2->Q (.ref l) (upd H l (.lst f)))):=by
 intro E s C H xs G Q I r h;obtain⟨p,f,rfl,m,q⟩:=h;obtain⟨u,rfl,D⟩:=ka r;cases D;have x:∀(c:List c8),yY f c->f.length<=sizeLine->∀(d:Aa)(i:Nat),(∀ b B,s.heap.get? b=O B->d.get? b=O B) ->
   d.get? s.heap.objs.size=O { cls:=.type "list",dict:=J2,data:=.seq c.toArray i,slots:=#[] }->EP X E C Q (.ref s.heap.objs.size) { s with heap:=d }:=λc g j d i kp e =>
  ⟨.ref s.heap.objs.size,_,I.laid (t':=s.toks) kp (f7 _) (show wD X.prog X.w _ d _ (.lst f) from⟨j,c,i,g,e⟩),rfl,q _ (I.hok.fresh (f7 _))⟩
 rcases m with m | m
 ·obtain⟨c,g,y,j⟩:=I.list m;have v:=g.length;obtain⟨o,z,A,n,hd⟩:=y.isList;rwa[call_list_seq p (.inl rfl) z A hd (λd i kp e=>x c g j d i kp e) (by simp only[i7] <;> lia)]
 ·obtain⟨c,g,y,j⟩:=I.tuple m;have v:=g.length;obtain⟨o,z,A,n,hd⟩:=y;rwa[call_list_seq p (.inr rfl) z A hd (λd i kp e=>x c g j d i kp e) (by simp only[i7] <;> lia)]
def sj:tD X (.type "tuple") (λxs H Q=>E2 λp d=>xs=[.ref p]/\((SqL X.K H p d/\∀ l,H l=J2->Q (.ref l) (upd H l (.tup d)))\/(SqT X.K H p d/\Q (.ref p) H))):=by
 intro x s m H xs B Q I r h;obtain⟨p,d,rfl,h⟩:=h;obtain⟨u,rfl,z⟩:=ka r;cases z;rcases h with ⟨j,q⟩ | ⟨j,q⟩
 ·obtain⟨c,g,i,n⟩:=I.list j;have v:=g.length;refine call_tuple_list i.isList (λf kp=>?_) (by simp only[i7] <;> lia);have y:Inv X x m H { s with heap:=f }:=I.kept (t':=s.toks) kp;have A:Inv X x m (upd H f.objs.size (.tup d)) { s with heap:=f.push { cls:=.type "tuple",data:=.seq c.toArray } } :=
   y.laid (t':=s.toks) (λb o e=>e9 _ e) (f7 _) (show wD X.prog X.w _ _ _ (.tup d) from⟨n,c,g,Hy _ _⟩)
  rwa[.ref f.objs.size,_,A,rfl,q _ (y.hok.fresh (f7 _))]
 ·obtain⟨c,g,i,n⟩:=I.tuple j;rwa[call_tuple_same i ⟨.ref p,H,I,rfl,q⟩]

def tyV(K:c5)(T:String)(x:V)(H:Hp):Prop:=match x with
 | .str _=>T = "str"
 | .int _=>T = "int"
 | .ref p=>(T = "list" /\ ∃ xs,SqL K H p xs)\/(T = "tuple" /\ ∃ o,K.lookup p=O o/\o.cls=.type "tuple" /\ o.dict=J2) \/
   (T = "dict" /\ ((∃ c,H p=O (.dK c))\/∃ c,H p=O (.dT c)))\/(T = "set" /\ ∃ S n,H p=O (.set S n))
 | _=>False
def Qj{j:St}{H:Hp}(I:Inv X u j H s)(r:xV x v)(ty:tyV X.K T x H) :
  s.TypeIs v T/\∀ a,v=.ref a->∃ ob,s.heap.get? a=O ob/\ob.dict=none:=by
 cases x with
 | str z =>
  obtain⟨t,rfl⟩:=r;cases (show T = "str" from ty);exact⟨typeIs_str s z t,λ_ e=>nomatch e⟩
 | int i =>
  obtain⟨t,rfl⟩:=r;cases (show T = "int" from ty);exact⟨typeIs_int s i t,λ_ e=>nomatch e⟩
 | ref p =>
  cases r;rcases ty with ⟨rfl,xs,m⟩ | ⟨rfl,o,d,q,hd⟩ | ⟨rfl,d⟩ | ⟨rfl,S,n,d⟩
  ·obtain⟨l,_,h,_⟩:=I.list m;erw[h.isList.typeIs,λa e=>?_];cases e;obtain⟨o,n,e,c,hd,_⟩:=h;rwa[o,e,hd]
  ·erw[⟨o,I.kIn p o d,q⟩,λa e=>?_];cases e;rwa[o,I.kIn _ o d,hd]
  ·have z:∃ o,s.heap.get? p=O o/\o.ExactDict:=by
    rcases d with ⟨f,d⟩ | ⟨f,d⟩
    ·obtain⟨_,_,_,_,o,_,_,e,ex,_⟩:=I.hok p _ d;rwa[o,e,ex]
    ·obtain⟨_,_,_,_,o,_,_,e,ex,_⟩:=I.hok p _ d;rwa[o,e,ex]
   obtain⟨o,e,ex⟩:=z;erw[⟨o,e,ex.1⟩,λa g=>?_];cases g;rwa[o,e,ex.2.1]
  ·obtain⟨o,_,_,_,e,ex,_⟩:=I.hok p _ d;erw[⟨o,e,ex.1⟩,λa g=>?_];cases g;rwa[o,e,ex.2.1]
 | _=>rwa[AO ty]
def tBM(K:c5)(T:String)(r:V->List V->Hp->VK->Prop)(to:TE)(t:TA):TE:=λc H Q=>to c H λx d=>tyV K T x d/\t c d λxs e=>r x xs e Q
variable{o e:Ar}{es:List Ar}{to:TE}{t:TA}{name:j9}{apos cpos:D5}{T id:String}{r:V->List V->Hp->VK->Prop}
def VT(pa:PlainAttrs T)(slot:Slot T name id)(j:typeOf (.builtin id)=pure (.type "method_descriptor"))(E:MtR X id r)(D:PE X o to)(G:PA X (e::es) t)
  (f:attributeBase o name X.env (eval o X.env)=eval o X.env:=by rfl)
  (g:((backTo cpos (starEach (e::es) X.env)).all (λx=>!x.1)&&(backToKw cpos (keywordEach [] X.env)).all (λx=>x.1.isSome)
   && decide ((e::es).length+([]:List Fk).length+(if ([]:List Fk).isEmpty then 0 else 1)<30))=true:=by rfl)
  (d:(apos.endLine == cpos.line)=true:=by rfl) (C:starEach (e::es) X.env='A'::starEach es X.env:=by rfl) (c:(backTo cpos 'B').any (·.1)=false:=by rfl) :
  PE X (.Call (.Attribute o name apos) (e::es) [] cpos) (tBM X.K T r to t):=by
 intro l s i H Q I h;erw[wpAny_Call_method_late f g d rfl (thn (D l s i H _ I h) λv y ⟨x,M,p,m,ty,B⟩=>?_)];obtain⟨h1,h2⟩:=Qj p m ty;exists T,id,pa,slot,j,h1,h2;have n:=G cpos l y i M _ p B;rw[C] at n ⊢;refine F4 (by show(J7||(backTo cpos (starEach es X.env)).any (·.1))=J7; rw[c] <;> rfl) (Ei ?_);rwa[thn n λu w ⟨q,L,J,z,A⟩=>E l w i L x q v u Q J m z A]
end
end L2

namespace L2

def MtM(X:Cx)(id:String)(r:V->List V->Hp->VK->Prop):Prop :=
 ∀(e:List (c7×Bk))(s:d7)(c:St)(H:Hp)(x:V)(xs:List V)(v:c8)(d:List c8)(Q:VK),Inv X e c H s->xV x v->yY xs d->r x xs H Q ->
  wpAny 'b' X.A (call (.builtin id) (v::d)) (EP X e c Q) X.xe s

def yY.one:∀{x:V}{c:List c8},yY [x] c->∃ u,c=[u]/\xV x u
 | _,_,.cons r .nil=>⟨_,rfl,r⟩
def yY.zero:∀{c:List c8},yY [] c->c=[]
 | _,.nil=>rfl
section
variable{X:Cx}{J8:List (c7×Bk)}{σ:St}{H:Hp}{s:d7}{l b:c7}{xs ys zs:List V}

def Inv.lset{c its':List c8}{n:Nat}{f:Array c8->Array c8}{t':Nat}(I:Inv X J8 σ H s)(m:H l=O (.lst xs))
  (e:s.heap.get? l=O { cls:=.type "list",data:=.seq c.toArray n }) (i:f c.toArray=its'.toArray) (g:yY ys its') (d:ys.length<=sizeLine) :
  Inv X J8 σ (upd H l (.lst ys)) { s with heap:=s.heap.update l (AG f),toks:=t' }:=by
 have q:=PySem.IsL.update e f;rw[i] at q;erw[I.write (x:=l) (e:=l) (by rw[m]; rwa[trivial]) (.inl rfl) (λo u j h=>(AL s.heap (AG f) (Bi j)).trans h) ⟨_,q⟩ ?_];rwa[d,its',_,g,q]
def Inv.lnew{t':Nat}(I:Inv X J8 σ H s)(e:yY ys c)(d:ys.length<=sizeLine) :
  Inv X J8 σ (upd H s.heap.objs.size (.lst ys)) { s with heap:=s.heap.push { cls:=.type "list",data:=.seq c.toArray },toks:=t' } :=
 I.laid (λ_ _ q=>e9 _ q) (f7 _) ⟨d,c,0,e,n9 _ rfl⟩
def Inv.fresh(I:Inv X J8 σ H s):H s.heap.objs.size=none:=I.hok.fresh (f7 _)
def Inv.lstM(I:Inv X J8 σ H s)(d:H l=O (.lst xs)):xs.length<=sizeLine/\∃(c:List c8)(n:Nat),yY xs c/\xs.length=c.length/\s.heap.get? l=O { cls:=.type "list",data:=.seq c.toArray n }:=by
 obtain⟨z,c,n,r,e⟩:=I.hok l _ d;rwa[z,c,n,r,r.length,e]

def UK{n:Nat}(h:n<=sizeLine):Dy n=false:=by
 unfold Dy;rwa[y8 (by lia)]
end

section
variable{X:Cx}

def Wb:V->List V->Hp->VK->Prop:=λx c H Q=>E3 λl xs y=>A5 (x=.ref l) (c=[y]) (H l=O (.lst xs)) (xs.length<sizeLine) (Q .non (upd H l (.lst (xs++[y]))))
def ql:MtM X "list.append" Wb:=by
 intro w s i H x j v m Q I f g h;obtain⟨l,xs,y,rfl,rfl,d,o,q⟩:=h;cases f;obtain⟨u,rfl,ru⟩:=g.one;obtain⟨z,c,n,r,p,e⟩:=I.lstM d;erw[call_meets F.slot_list_append ⟨_,e,rfl⟩ F.entry_list_append (F.args_list_append_2 _ _) (PySem.list_append l c.toArray n u (by rw[i7]; lia)) ⟨e,?_⟩];erw[.non,_,I.lset (its':=c++[u]) d e 'd' (r.append (.cons ru .nil)) ?_,rfl,q];rw[f9,Al];lia

def Rh:V->List V->Hp->VK->Prop:=λx d H Q=>E4 λl b xs c=>A6 (x=.ref l) (d=[.ref b]) (H l=O (.lst xs)) (H b=O (.lst c)) (xs.length+c.length<=sizeLine) (Q .non (upd H l (.lst (xs++c))))
def cr:MtM X "list.extend" Rh:=by
 intro L s A H x D v E Q I j m h;obtain⟨l,b,xs,B,rfl,rfl,i,w,G,q⟩:=h;cases j;obtain⟨u,rfl,ru⟩:=m.one;cases ru;obtain⟨z,d,n,r,J,e⟩:=I.lstM i;obtain⟨C,c,n2,o,p,y⟩:=I.lstM w;have g:d.toArray.size+c.toArray.size<=sizeLine:=by rw[i7,i7]; lia
 have f:¬ (!d.toArray.isEmpty&&Dy (d.toArray.size+c.toArray.size))=true:=by
  rw[UK g,Ix];rwa[o4]
 refine call_meets FG ⟨_,e,rfl⟩ F.entry_list_extend (F.args_list_extend_2 _ _)
  (AutoSeq1.list_extend_list_list_0 l d.toArray n b c.toArray n2 f (by rw[i7]; lia) (by lia)) ⟨e,y,?_⟩
 erw[.non,_,I.lset (its':=d++c) i e 'd' (r.append o) ?_,rfl,q];rw[f9];lia

def rCat:R2:=λx y H Q=>E4 λl b xs c=>A6 (x=.ref l) (y=.ref b) (H l=O (.lst xs)) (H b=O (.lst c)) (xs.length+c.length<=sizeLine) (∀ p,H p=J2->Q (.ref p) (upd H p (.lst (xs++c))))
def Tf:OpR X (binaryOp .Add) rCat:=by
 intro G s A H x y v u Q I g f h;obtain⟨l,b,xs,B,rfl,rfl,m,o,D,q⟩:=h;cases g;cases f;obtain⟨z,d,n,r,E,e⟩:=I.lstM m;obtain⟨C,c,n2,i,j,w⟩:=I.lstM o;erw[PySem.P.add_list e w ?_ (by rw[i7,i7]; lia)];have p:d.toArray++c.toArray=(d++c).toArray:=by simp
 rw[p];rwa[.ref _,_,I.lnew (t':=s.toks) (r.append i) (by rw[f9]; lia),rfl,q _ I.fresh]
end


end L2

namespace Att
open PySem PySem.W PySem.Calls PyProof.Rows

def kF : ∀(ns:List Int)(c:List c8),WellAll P h c (ns.map JX)->C7 c ns:=by
 intro ns
 induction ns with
 | nil =>
  intro c w;rw[DV] at w;cases w;rwa[.nil]
 | cons n ns d =>
  intro c w;rw[j3] at w;cases w with
  | cons a b =>
   cases a;rwa[.cons _ _ (d _ b)]

def WN{l:Gg}{n:Nat}(v:l.most=O n)
  (e:l.row.toRowW.claim.pre c=J3) (i:WellAll P h vals c) :
  ∃ a m ns,vals=[o9 a]/\c=[WData.list (ns.map JX)]/\h.get? a=O { cls:=.type "list",data:=.seq m.toArray }/\C7 m ns/\ns.length<=n:=by
 have j:WShape.hasAll [] c [.list .int]=true:=(pre_splitW e).1;have o:l.pre.holds [] { args:=c }=true:=(pre_splitW e).2;obtain⟨d,r,rfl,h1,h2⟩:=hasAllW_cons j;obtain rfl:=hasAllW_nil h2;obtain⟨xs,rfl,h3⟩:=hasW_list h1;obtain⟨ns,rfl⟩:=items_int h3;have f:ns.length<=n:=by
  unfold OpenLaw.pre at o;have h4:(WTm.not (.lt (.lit (.int (n:Int))) (.len (.arg 0)))).holds [] { args:=[.list (ns.map .int)] }=true:=by
   have h4:=(holds_andW o).1;rw[v] at h4;rwa[h4]
  have h5:=condW_of h4 (w_not (w_lt w_lit (w_len_list (w_arg rfl))));rw[b9] at h5;erw[HF λq=>?_];have s:(n:Int)<((ns.length:Nat):Int):=by lia
  first
   | (rw[y7 s] at h5; rwa[y9 h5 'a'])
   | (simp at h5; lia)
 cases i with
 | cons w1 p =>
  cases p;cases w1 with
  | list u g=>rwa[_,_,ns,rfl,rfl,u,kF ns _ g,f]

def YS(l:Gg)(c:List WData):l.row.toRowW.claim.post c (.bool J3) c=true :=
 postW_of (r:=l.row.toRowW) (X:=(J3 == J3))
  (show JS [] (.bool J3) .bool=J3 by first | rfl | decide | simp[JS,WShape.arms,WShape.armsAll])
  (show(WTm.eq .res (.lit (.bool J3))).value [] { args:=c,res:=O (.bool J3),after:=c }=O (.bool (J3 == J3)) from w_eq_bool (w_res rfl) w_lit) rfl

def attach_call{l:Gg}{n:Nat}{I:(j9->Option c8)->Aa->Prop}{H:t7->Aa->Prop}{d:DefRec}
  (N:l.most=O n) (A:d.params.defaults=[])
  (call:∀(w:t7)(s₀ c:d7)(mg x:j9->Option c8)(s:c7)(o:Bk)(pm v h:c8)(a:c7)(i:List c8)(ns:List Int),
   Ground q e [] I w s₀ mg x c.heap->H w c.heap ->
   c.heap.get? s=O o->o.data=.func (docDef d.name d.params d.body d.scope pm v h)->c.heap.CodeRec v d.name->mg d.name=O (.ref s) ->
   c.heap.get? a=O { cls:=.type "list",data:=.seq i.toArray }->C7 i ns->ns.length<=n->c.gens = #[] ->
   codeAny (model l.prog w) callerA (.call (.ref s) ⟨[.ref a],[]⟩) (λr u=>r=.ok (.ret (.bool J3))/\OldK c.heap u.heap/\u.os=c.os/\Ex u.gens) c) :
  Jk q e I H l.row.toRowW d [] (λf i=>Iy f i):=by
 intro w s₀ c mg x G Y s o pm v h S kV M hd B D z R E vals as j C J y Q;obtain rfl:S=.none:=Dflts.none D A;obtain rfl:kV=.none:=Dflts.noKw D;obtain⟨a,i,ns,rfl,rfl,m,g,p⟩:=WN N j y;erw[enter_call (codeAny_mono (call w s₀ c mg x s o pm v h a i ns G Y M (fd_plain hd) B z m g p R) λr u L=>?_)];obtain⟨rfl,h2,h3,h4⟩:=L;exact⟨.inl ⟨.bool J3,.bool J3,[],rfl,λ_=>rfl,.bool J3,YS l _,λ_=>⟨JV,λ_ P=>(nomatch P)⟩⟩,h2,h3,h4⟩

section
variable{prog:o0}{w:t7}{A:Ak}{E:c8->d7->Prop}{s:d7}{K:c5}

end
end Att

namespace L2

def eh:∀{c:List c8}{ns:List Int},C7 c ns->yY 'p' c
 | _,_,.nil=>.nil
 | _,_,.cons n t h=>.cons ⟨t,rfl⟩ (eh h)

def Only(H:Hp):Prop:=∀ b,H b=J2\/∃ o xs,H b=O (.frz o (.lst xs))

def Uw{K:c5}{mg N:j9->Option c8}{CX:CXT}{k:Nat}{x:j9}{sp:Sp}{c:d7}{p:List c8}
  (KX:K.In c.heap) (D:c.heap.Ns mainGlobals mg) (g:c.heap.Ns builtinsNs N) (S:∀ x:j9,x ≠ "__name__" -> N x=bootBuiltins x) (E:c.heap.NoLimit) (hg:c.gens = #[])
  (L:c.heap.get? a=O { cls:=.type "list",data:=.seq p.toArray }) (hi:C7 p ns) (hl:ns.length<=sizeLine) (hr:yn k callerA)
  (F:∀ base:Aa,K.In base->base.Ns mainGlobals mg->yR P w K mg base CX k X fd [x] sp) (y:∀(s:d7)(u:c8),F0 s fd ⟨[u],[]⟩ [(x,u)])
  (Q:∀ H:Hp,Only H->SqL K H a 'p'->sp [.ref a] H (λv _=>v=.bl J3) λ_ _ _=>False)
  (T:∀ H e i,CX [] H c (λ_ _ _=>False) e i->False) :
  codeAny (model P w) callerA (.call (.ref X) ⟨[.ref a],[]⟩) (λr i=>r=.ok (.ret (.bool J3))/\OldK c.heap i.heap/\i.os=c.os/\Ex i.gens) c:=by
 have Z:=eh hi;have B:=hi.length;have l:∀ H:Hp,Only H->SqL K H a 'p'->HOk P w H c.heap->(∀ b,H b≠J2->b=a)->(H a≠J2->K.lookup a=J2) ->
   codeAny (model P w) callerA (.call (.ref X) ⟨[.ref a],[]⟩) (λr i=>r=.ok (.ret (.bool J3))/\OldK c.heap i.heap/\i.os=c.os/\Ex i.gens) c:=by
  intro H hO hS hok hA hK;have f:∀{b:c7}{o:Bk},c.heap.get? b=O o->H b=J2->(Ve c.heap H).get? b=O o:=λe n=>Uc e n;have M:∀{b:c7}{o:Bk}{I:Array BR}{J:Nat},c.heap.get? b=O o->o.data=.dict I J->H b=none:=λ{b o I J} e d=>by
   cases q:H b with
   | none=>rfl
   | some u =>
    have Y:b=a:=hA b (by rw[q]; simp);subst Y;rw[L] at e; cases e;have d':Data.seq p.toArray _=Data.dict I J:=d;cases d'
  have j:∀{b:c7}{m:j9->Option c8},c.heap.Ns b m->(Ve c.heap H).Ns b m:=λ{b m} ⟨o,I,J,e,d,r⟩=>⟨o,I,J,f e (M e d),d,r⟩;have G:K.In (Ve c.heap H):=λb o e=>f (KX b o e) (by
   cases q:H b with
   | none=>rfl
   | some u =>
    have Y:b=a:=hA b (by rw[q]; simp);subst Y;rw[hK (by rw[q]; simp)] at e; cases e)
  have hM:Mod K mg (Ve c.heap H):=⟨G,j D,⟨N,j g,S⟩,let ⟨mc,h1,h2⟩:=E;⟨mc,j h1,h2⟩⟩;have e0:TN P w K mg (Ve c.heap H) callerA [] c H:=⟨rfl,hM,λb o e=>SR e,Ey (XW _ _),trivial,λb g=>y9 (show b∈([]:List c7) from g) 'd',hok,.of_eq hg⟩;erw[codeAny_mono ((F _ G (j D)).run callerA [] c H ⟨[.ref a],[]⟩ [.ref a] [.ref a] _ _ hr e0 (y c (.ref a)) (.cons rfl .nil) (Q H hO hS)) λr i h=>?_];cases r with
  | error e=>exact(T H e i h).elim
  | ok fl =>
   cases fl with
   | next=>rwa[AO h]
   | brk=>rwa[AO h]
   | cont=>rwa[AO h]
   | ret u =>
    obtain⟨v,H',os,bare,un,C,r',q⟩:=h;have q':v=.bl true:=q;subst q';obtain rfl:u=FY true:=r';erw[rfl,OldK.of_keep λb o e=>?_,os,bare];cases q:H b with
    | none=>exact un.keep b o e q (by intro z; exact y9 (show b∈([]:List c7) from z) 'd') 'd'
    | some u =>
     rcases hO b with z | ⟨ob,xs,z⟩
     ·rw[q] at z; cases z
     ·have z2:=un.frzs b ob _ z;obtain⟨e1,_⟩:=hok b _ z;obtain⟨e2,_⟩:=C b _ z2;rw[e] at e1; cases e1;rwa[e2]
 cases R:K.lookup a with
 | some o =>
  have e:=KX a o R;rw[L] at e;cases e;refine l (λ_=>J2) (λ_=>.inl rfl) (.inr ⟨_,p.toArray,_,R,rfl,rfl,rfl,by rw[i7,B]; exact hl,by simpa using Z⟩) (λb u z=>by have A:(J2:Option HO)=O u:=z; cases A) (λb z=>y9 rfl z) λz=>y9 rfl z
 | none =>
  refine l (λb=>if b=a then O (.frz { cls:=.type "list",data:=.seq p.toArray } (.lst 'p')) else J2) (λb=>?_) (.inl (.inr ⟨{ cls:=.type "list",data:=.seq p.toArray },y6 rfl⟩)) (λb u z=>?_) (λb z=>?_) λ_=>R
  ·by_cases g:b=a
   ·rwa[.inr ⟨_,_,y6 g⟩]
   ·rwa[.inl (y4 g)]
  ·by_cases g:b=a
   ·have A:=(y6 g).symm.trans z;cases A;subst g;rwa[L,by rw[b9]; exact hl,p,_,Z,L]
   ·have A:=(y4 g).symm.trans z;cases A
  ·by_cases g:b=a
   ·rwa[g]
   ·rwa[y9 (y4 g) z]
end L2

namespace L2

end L2

namespace L2


abbrev CX0:CXT:=λ_ _ _ _ _ _=>False
abbrev E0:XK:=λ_ _ _=>False
def YO : fu CX0 X E0:=λ_ _ _ _ _ _ _ h=>h.elim

structure Fun(K:c5)(x qual:j9)(st:Ao)(f:c7)(fd:AK):Prop where
 ex:∃(oc:c8)(od:Option c7)(kV doc pm:c8)(an:Option c7)(cdv ct:c8)(osl:Array (Option c8)),
  fd=AD x qual (wO st) (xX st) (zF st) .none kV doc pm an cdv ct/\K.lookup f=O ⟨oc,od,.func fd,osl⟩/\Dg K cdv qual=J3
 kp:AJ K (.ref f)=J3
section
variable{P:o0}{w:t7}{K:c5}{mg:j9->Option c8}{base:Aa}
def Fun.ok{st:Ao}{k:Nat}{sp:Sp}(F:Fun K x c st f fd)(S:zJ N i (zF st))(len:∀ e H Q E,sp e H Q E->e.length=i.length)
  (g:∀(d:c8)(A:Ak)(outer:List ED)(s:d7)(H:Hp)(e:List V)(Q:VK)(E:XK),yn k (A.deeper (envOfC c (zF st) s.heap.objs.size f d))->sp e H Q E ->
   ∃ t,PSs (cxOf CX0 P w K mg base N c (zF st) f d A outer s H E).nox (xX st) t/\t { nx:=λ_ p=>Q .non p,rt:=Q } (start N e) H):yR P w K mg base CX0 (k+1) f fd i sp:=by
 obtain⟨u,r,kV,o,pm,v,d,ct,m,rfl,lk,l⟩:=F.ex;erw[QO lk l S len λA outer s H e Q E n j=>?_];obtain⟨t,h,q⟩:=g d A outer s H e Q E n j;rwa[t,h.nox,q]
def Fun.binds{st:Ao}{i:List j9}(F:Fun K x c st f fd)
  (h:∀(kV d pm:c8)(j:Option c7)(e ct:c8)(g:List c8),g.length=i.length->bindArgs (AD x c (wO st) (xX st) (zF st) .none kV d pm j e ct) ⟨g,[]⟩=pure (i.zip g)):qf K fd i []:=by
 obtain⟨o,n,kV,d,pm,j,e,ct,l,rfl,lk,m⟩:=F.ex;rwa[.all (h kV d pm j e ct)]
def Wr{st:Ao}{m:c8}{j i:Option c7}{h:Array (Option c8)}{kV g pm e ct:c8}(l:K.lookup f=O ⟨m,j,.func (AD x d (wO st) (xX st) (zF st) .none kV g pm i e ct),h⟩)
  (c:Dg K e d=J3) (k:AJ K (.ref f)=J3):Fun K x d st f (AD x d (wO st) (xX st) (zF st) .none kV g pm i e ct):=⟨⟨m,j,kV,g,pm,i,e,ct,h,rfl,l,c⟩,k⟩
end
def yH{k:Nat}(c:yn k A):A.units+1<cLine:=Am (Du (by decide:1<=64) _) c.units
def zM{n:Nat}(h:n<=1000):n<sizeLine:=Am h 'a'

section
variable{X:Cx}
def pv(i:Nat)(e:X.N[i]?=O x:=by rfl)(d:Vis X.env.scope x:=by first | exact B9 rfl | exact HG (B9 rfl) | exact HG (HG rfl))(hd:(x ==("__debug__" : j9))=false:=by decide)
  (c:(x ==("__classdict__" : j9))=false:=by decide):PE X (.Name x pos) (Uv i):=PY e d hd c
end

def zd{A B:Prop}(h:B):if J7=J3 then A else B:=by
 rw[y4 o4];rwa[h]
def vf{A B:Prop}(h:A):if J3=J3 then A else B:=by
 rw[y6 rfl];rwa[h]
def ite2{c A B:Prop}[Decidable c](h1:c->A)(h2:¬ c->B):if c then A else B:=by
 by_cases h:c
 ·rw[y6 h];rwa[h1 h]
 ·rw[y4 h];rwa[h2 h]
def Same(H c:Hp):Prop:=∀ b o,H b=O o->c b=O o
def Same.refl(H:Hp):Same H H:=λ_ _ h=>h
def Same.trans{H e d:Hp}(a:Same H e)(b:Same e d):Same H d:=λc o h=>b c o (a c o h)
def Same.free{H c:Hp}(e:Same H c)(h:c l=JI):H l=JI:=by
 cases q:H l with
 | none=>rfl
 | some o =>
  rw[e l o q] at h;cases h
def Same.seq{K:c5}{H c:Hp}(e:Same H c)(h:SqL K H a xs):SqL K c a xs:=by
 rcases h with (h | ⟨o,h⟩) | h
 ·rwa[.inl (.inl (e _ _ h))]
 ·rwa[.inl (.inr ⟨o,e _ _ h⟩)]
 ·rwa[.inr h]

end L2

namespace Sea
def xY(ns:List Int):Nat:=ns.foldl (λg n=>Af g n.natAbs) 0
def dE(ns:List Int)(n:Int):xY (ns++[n])=Af (xY ns) n.natAbs:=by
 unfold xY;rw[Fl];rfl
def aD:∀(ns:List Int)(g:Nat),ns.foldl (λg n=>Af g n.natAbs) g ∣ g/\∀ n∈ns,ns.foldl (λg n=>Af g n.natAbs) g ∣ n.natAbs
 | [],g=>⟨Nat.dvd_refl g,λ_ h=>nomatch h⟩
 | x::r,g=>by
  obtain⟨h1,h2⟩:=aD r (Af g x.natAbs);erw[Jg h1 (Nat.gcd_dvd_left _ _),λn c=>?_];rcases l9.mp c with e | e
  ·rw[e];rwa[Jg h1 (Nat.gcd_dvd_right _ _)]
  ·rwa[h2 n e]
def wg{ns:List Int}{n:Int}(h:n∈ns):xY ns ∣ n.natAbs:=(aD ns 0).2 n h
def uD{ns:List Int}{n:Int}(h:n∈ns):(xY ns:Int) ∣ n:=Int.ofNat_dvd_left.mpr (wg h)
def aC{d:Nat} : ∀(ns:List Int)(g:Nat),d ∣ g->(∀ n∈ns,d ∣ n.natAbs)->d ∣ ns.foldl (λg n=>Af g n.natAbs) g
 | [],_,h,_=>h
 | x::r,g,h,c=>aC r _ (HW h (c x x9)) λn e=>c n (x8 _ e)
def Vd{d:Nat}{ns:List Int}(h:∀ n∈ns,d ∣ n.natAbs):d ∣ xY ns:=aC ns 0 (Nat.dvd_zero d) h
def sV{ns:List Int}{n:Int}(h:n∈ns)(h0:n≠0):0<xY ns:=by
 rcases G2 (xY ns) with e | e
 ·have q:=wg h;rw[e,Nat.zero_dvd] at q;lia
 ·rwa[e]
def mL{ns:List Int}{n:Int}(h:n∈ns)(h0:n≠0):(xY ns:Int)<=n.natAbs:=by
 have q:=GQ (by lia) (wg h);lia
def wc(ns:List Int):List Int:=ns.map λn=>n/(xY ns:Int)
def uG{ns:List Int}{n:Int}(h:n∈ns):n/(xY ns:Int)*(xY ns:Int)=n:=Int.ediv_mul_cancel (uD h)
def lY(h:0<xY ns):xY (wc ns)=1:=by
 have d:xY ns*xY (wc ns) ∣ xY ns:=by
  erw[Vd λn f=>?_];have h1:xY (wc ns) ∣ (n/(xY ns:Int)).natAbs:=wg (i9.mpr ⟨n,f,rfl⟩);obtain⟨c,e⟩:=h1;have h2:=congrArg Int.natAbs (uG f);rw[Cg,Int.natAbs_natCast,e] at h2;rw[<- h2];rwa[c,by rw[Ju,Jh]]
 obtain⟨c,e⟩:=d;have h3:xY ns*(xY (wc ns)*c)=xY ns*1:=by
  rw[<- Jh,<- e,JJ]
 have h4:=Nat.eq_of_mul_eq_mul_left h h3;rwa[Nat.dvd_one.mp ⟨c,h4.symm⟩]
def Zj(x y:Int):xY [x,y]=Af x.natAbs y.natAbs:=by
 show Af (Af 0 x.natAbs) y.natAbs=_;rw[Hg]
def ZU(x y z:Int):xY [x,y,z]=Af (Af x.natAbs y.natAbs) z.natAbs:=by
 show Af (Af (Af 0 x.natAbs) y.natAbs) z.natAbs=_;rw[Hg]
def Zu(ns:List Int):xY (ns.map λn=>-n)=xY ns:=by
 have c:∀(l:List Int)(g:Nat),(l.map λn=>-n).foldl (λg n=>Af g n.natAbs) g=l.foldl (λg n=>Af g n.natAbs) g:=by
  intro l
  induction l with
  | nil=>intro g; rfl
  | cons x r d =>
   intro g;show(r.map λn=>-n).foldl _ (Af g (-x).natAbs)=r.foldl _ (Af g x.natAbs);rw[d,Gu]
 rwa[c ns 0]
def Zf{a b:Int}(d:0<=a)(c:0<b):Af b.toNat (a%b).toNat=Af a.toNat b.toNat:=by
 obtain⟨m,rfl⟩:=AQ d;obtain⟨n,rfl⟩:=AQ (As c);have e:((m:Int)%(n:Int)).toNat=m%n:=by
  rw[<- HH];rfl
 show Af n ((m:Int)%(n:Int)).toNat=Af m n;rw[e,Jv m n,Nat.gcd_rec n m,Jv]
def TX(i:Int):(if i<0 then -i else i)=(i.natAbs:Int):=by
 split <;> lia
structure TR(t b x y:Int):Prop where
 pos:1<=y
 low:Af x.natAbs y.natAbs=1
 eq:x*b=y*t
 xle:x.natAbs<=t.natAbs
 yle:y.natAbs<=b.natAbs
def uQ(n:Int){g:Int}(e:0<g)(h:g ∣ n):(n/g).natAbs<=n.natAbs:=by
 obtain⟨c,d⟩:=h;subst d;rw[Int.mul_ediv_cancel_left c (by lia),Cg];rwa[Nat.le_mul_of_pos_left _ (by lia)]
def Qu(t:Int){b:Int}(f:b≠0):∃ x y:Int,(wc (if b<0 then [t,b].map (λn=>-n) else [t,b]))=[x,y]/\TR t b x y:=by
 have c:∀(t b:Int),0<b->∃ x y:Int,wc [t,b]=[x,y]/\TR t b x y:=λt b f=>by
  have l:0<xY [t,b]:=sV (n:=b) 'd' (by lia);have j:=uG (ns:=[t,b]) (n:=t) 'd';have i:=uG (ns:=[t,b]) (n:=b) 'd';have d:(0:Int)<(xY [t,b]:Int):=by lia
  erw[t/(xY [t,b]:Int),b/(xY [t,b]:Int),rfl,?_,?_,?_,uQ t d (uD 'd'),uQ b d (uD 'd')]
  ·rwa[EO f (As d) (uD 'd')]
  ·have h3:=lY l;rw[<- Zj];rwa[h3]
  ·generalize (xY [t,b]:Int)=g at j i
   calc t/g*b=t/g*(b/g*g):=by rw[i]
    _=b/g*(t/g*g):=by rw[<- AE,<- AE,z9 (t/g)]
    _=b/g*t:=by rw[j]
 by_cases h:b<0
 ·rw[y6 h];obtain⟨x,y,e,p⟩:=c (-t) (-b) (by lia);refine⟨x,y,e,p.pos,p.low,?_,by have:=p.xle; lia,by have:=p.yle; lia⟩;have q:=p.eq;rw[Ej,Ej] at q;lia
 ·rw[y4 h];rwa[c t b (by lia)]
def zW(a b:Int){m n:Nat}(d:a.natAbs<=m)(c:b.natAbs<=n):(a*b).natAbs<=m*n:=by
 rw[Cg];rwa[Iz d c]
def Op{b:Int}(h:b.natAbs<=10^40):b.natAbs<10^500:=Am h 'm'
def dir_low{X Y:Int}(h:X≠0\/Y≠0):∃ x y:Int,wc [X,Y]=[x,y]/\0<xY [X,Y]/\(xY [X,Y]<=X.natAbs\/xY [X,Y]<=Y.natAbs)/\Af x.natAbs y.natAbs=1/\x*Y-y*X=0/\0<x*X+y*Y/\x.natAbs<=X.natAbs/\y.natAbs<=Y.natAbs:=by
 have f:0<xY [X,Y]:=by
  rcases h with h | h
  ·rwa[sV (n:=X) 'd' h]
  ·rwa[sV (n:=Y) 'd' h]
 have e:(0:Int)<(xY [X,Y]:Int):=by lia
 have d:=uG (ns:=[X,Y]) (n:=X) 'd';have c:=uG (ns:=[X,Y]) (n:=Y) 'd';erw[X/(xY [X,Y]:Int),Y/(xY [X,Y]:Int),rfl,f,?_,?_,?_,?_,uQ X e (uD 'd'),uQ Y e (uD 'd')]
 ·rcases h with h | h
  ·rwa[.inl (GQ (by lia) (wg 'd'))]
  ·rwa[.inr (GQ (by lia) (wg 'd'))]
 ·rw[<- Zj];rwa[lY f]
 ·generalize (xY [X,Y]:Int)=g at d c;generalize X/g=x at d;generalize Y/g=y at c;rw[<- d,<- c,<- AE,<- AE,z9 x y];lia
 ·generalize (xY [X,Y]:Int)=g at d c e;have j:0<=X/g*X:=by
   have:X/g*X=X/g*(X/g)*g:=by rw[AE,d]
   rw[this];rwa[BC (by rw[<- Dv]; exact Ch _) (As e)]
  have i:0<=Y/g*Y:=by
   have:Y/g*Y=Y/g*(Y/g)*g:=by rw[AE,c]
   rw[this];rwa[BC (by rw[<- Dv]; exact Ch _) (As e)]
  rcases h with h | h
  ·have:X/g*X≠0:=CY (λz=>h (by rw[<- d,z,Bv])) h;lia
  ·have:Y/g*Y≠0:=CY (λz=>h (by rw[<- c,z,Bv])) h;lia
def upL(X Y W:Int):List Int:=if W<0 then [-X,-Y,-W] else [X,Y,W]
def Rt{X Y W:Int}(h:W≠0):upL (-X) (-Y) (-W)=upL X Y W:=by
 unfold upL;by_cases c:W<0
 ·rw[y6 c,y4 (by lia)]
 ·rw[y4 c,y6 (by lia),HX,HX,HX]
structure Vh(X Y W x y w:Int):Prop where
 pos:1<=w
 low:Af (Af x.natAbs y.natAbs) w.natAbs=1
 ex:x*W=X*w
 ey:y*W=Y*w
 xle:x.natAbs<=X.natAbs
 yle:y.natAbs<=Y.natAbs
 wle:w.natAbs<=W.natAbs
def Zp{X Y W:Int}(h:0<W):∃ x y w:Int,wc [X,Y,W]=[x,y,w]/\Vh X Y W x y w:=by
 have i:0<xY [X,Y,W]:=sV (n:=W) 'd' (by lia);have d:(0:Int)<(xY [X,Y,W]:Int):=by lia
 have f:=uG (ns:=[X,Y,W]) (n:=X) 'd';have e:=uG (ns:=[X,Y,W]) (n:=Y) 'd';have c:=uG (ns:=[X,Y,W]) (n:=W) 'd';have lo:=lY i;erw[X/(xY [X,Y,W]:Int),Y/(xY [X,Y,W]:Int),W/(xY [X,Y,W]:Int),rfl,EO h (As d) (uD 'd'),?_,?_,?_,uQ X d (uD 'd'),uQ Y d (uD 'd'),uQ W d (uD 'd')]
 ·rw[<- ZU];rwa[lo]
 ·generalize (xY [X,Y,W]:Int)=g at f c;generalize X/g=x at f;generalize W/g=w at c;rw[<- f,<- c,AE,z9 g w]
 ·generalize (xY [X,Y,W]:Int)=g at e c;generalize Y/g=y at e;generalize W/g=w at c;rw[<- e,<- c,AE,z9 g w]
def ic{X Y W:Int}(h:W≠0):∃ x y w:Int,wc (upL X Y W)=[x,y,w]/\Vh X Y W x y w:=by
 unfold upL;by_cases c:W<0
 ·rw[y6 c];obtain⟨x,y,w,e,p⟩:=Zp (X:=-X) (Y:=-Y) (W:=-W) (by lia);refine⟨x,y,w,e,p.pos,p.low,?_,?_,by have:=p.xle; lia,by have:=p.yle; lia,by have:=p.wle; lia⟩
  ·have q:=p.ex;rw[Ej,Dh] at q;lia
  ·have q:=p.ey;rw[Ej,Dh] at q;lia
 ·rw[y4 c];rwa[Zp (by lia)]
def iI{A B C X Y W x y w:Int}(h:W≠0)(p:Vh X Y W x y w)(e:A*X+B*Y=C*W):A*x+B*y=C*w:=by
 erw[Di h ?_];have d:(A*x+B*y)*W=A*(x*W)+B*(y*W):=by rw[DN,AE,AE]
 have c:A*(X*w)+B*(Y*w)=(A*X+B*Y)*w:=by rw[DN,AE,AE]
 rw[d,p.ex,p.ey,c,e,AE,z9 W w,<- AE]
def Xx(e d c h g f:Int):e*(c*g-d*f)+d*(e*f-c*h)=c*(e*g-d*h):=by
 simp only[DO,z9,BD];lia
def YT(h g f e d c:Int):e*(f*d-g*c)+d*(h*c-f*e)=c*(h*d-g*e):=by
 simp only[DO,z9,BD];lia
end Sea

namespace Sea
def Sz{a b:Int}(h:a≠0\/b≠0):1<=a*a+b*b:=by
 have d:0<=a*a:=by rw[<- Dv]; rwa[Ch _]
 have c:0<=b*b:=by rw[<- Dv]; rwa[Ch _]
 rcases h with h | h
 ·have:a*a≠0:=CY h h;lia
 ·have:b*b≠0:=CY h h;lia
end Sea

namespace Sea
abbrev SpT:=Nat×Int×Int×Int
def ahB(s t:SpT):Bool:=if s.2.1*t.2.2.2-t.2.1*s.2.2.2=0 then decide (s.2.2.1*t.2.2.2<t.2.2.1*s.2.2.2) else decide (s.2.1*t.2.2.2-t.2.1*s.2.2.2<0)
def xJ:List SpT->List SpT->List SpT
 | xs,[]=>xs
 | xs,o::r=>xs.takeWhile (λx=>!ahB o x)++o::xJ (xs.dropWhile λx=>!ahB o x) r
def zl:∀(c xs:List SpT),(xJ xs c).Perm (xs++c)
 | [],xs=>by rw[xJ,BX]
 | o::r,xs=>by
  rw[xJ];have h:=zl r (xs.dropWhile λx=>!ahB o x);have e:xs.takeWhile (λx=>!ahB o x)++xs.dropWhile (λx=>!ahB o x)=xs:=List.takeWhile_append_dropWhile;refine((h.cons o).append_left _).trans ?_;conv=>rhs; rw[<- e]
  rw[r9];erw[Aq _ ?_];exact(List.perm_middle).symm
def vt:Nat->List SpT->List SpT
 | 0,xs=>xs
 | n+1,xs=>if xs.length<2 then xs else xJ (vt n (xs.take (xs.length/2))) (vt n (xs.drop (xs.length/2)))
def vV:∀(n:Nat)(xs:List SpT),(vt n xs).Perm xs
 | 0,_=>EQ _
 | n+1,xs=>by
  rw[vt];split
  ·rwa[EQ _]
  ·refine(zl _ _).trans (((vV n _).append (vV n _)).trans ?_);rw[AX]
end Sea

namespace L2

structure CC where
 C:c7
 s:d7
 H:Hp
 fp:List c7

def xt(env:ED):List (j9×De)->List (j9×c7)->List (j9×c7)
 | [],c=>c
 | (n,k)::r,c=>xt env r (if (k == At)=J3 then(n,(env.cells.lookup n).getD 0)::c else c)
def bu{d:DK}{env:ED}(h:∀ x∈d.names,x.2=.free->∃ c,env.cells.lookup x.1=O c):closureFor d env=pure (xt env d.names []):=by
 simp only[closureFor];have m:∀(names:List (j9×De))(f:List (j9×c7)),(∀ x∈names,x.2=.free->∃ c,env.cells.lookup x.1=O c) ->
  (forIn names f (λ(x:j9×De) (r:List (j9×c7))=>match x with | (g,kind)=>if (kind == At)=J3 then(do let a <- cellOf env g; pure (BE ((g,a)::r))) else pure (BE r)):EF (List (j9×c7)))=pure (xt env names f):=by
  intro names
  induction names with
  | nil=>intro f _; rfl
  | cons x r q =>
   intro f o;obtain⟨n,k⟩:=x;rw[List.forIn_cons];have j:=q (if (k == At)=J3 then(n,(env.cells.lookup n).getD 0)::f else f) λy s=>o y (x8 _ s);by_cases i:(k == At)=J3
   ·obtain⟨c,p⟩:=o (n,k) x9 (by simpa using i);have e:cellOf env n=pure c:=by unfold cellOf; rw[p]
    rw[y6 i] at j;have l:env.cells.lookup n=O c:=p;rw[l] at j;show(((if (k == At)=J3 then(do let a <- cellOf env n; pure (BE ((n,a)::f))) else pure (BE f)):EF _) >>= _)=_;rw[y6 i,e];erw[Eq.trans ?_ (j.trans ?_)]
    ·rfl
    ·rw[xt,y6 i,l]
   ·rw[y4 i] at j;show(((if (k == At)=J3 then(do let a <- cellOf env n; pure (BE ((n,a)::f))) else pure (BE f)):EF _) >>= _)=_;rw[y4 i];erw[Eq.trans ?_ (j.trans ?_)]
    ·rfl
    ·rw[xt,y4 i]
 rwa[congrArg (λ(z:EF (List (j9×c7)))=>z >>= λf=>pure f) (m d.names [] h)]
def rS{env:ED} : ∀(names:List (j9×De))(l:List (j9×c7)),(∀ x∈names,x.2=.free->∃ c,env.cells.lookup x.1=O c) ->
  (∀ x c,l.lookup x=O c->env.cells.lookup x=O c)->∀ x c,(xt env names l).lookup x=O c->env.cells.lookup x=O c
 | [],_,_,g=>g
 | (n,k)::r,l,h,g=>by
  erw[rS r _ (λy m=>h y (x8 _ m)) λx c=>?_];by_cases j:(k == At)=J3
  ·rw[y6 j];obtain⟨d,hd⟩:=h (n,k) x9 (by simpa using j);have f:env.cells.lookup n=O d:=hd;intro e;rw[Ac] at e;cases i:x == n with
   | true =>
    rw[i,f] at e;have ex:x=n:=by simpa using i
    rw[ex,f];rwa[e]
   | false =>
    rw[i] at e;rwa[g x c e]
  ·rw[y4 j];rwa[g x c]
def kO : ∀(names:List (j9×De))(g:List (j9×c7))(x:j9),((x,At)∈names\/∃ c,g.lookup x=O c)->∃ c,(xt env names g).lookup x=O c
 | [],_,_,h=>h.elim 'n' id
 | (n,k)::r,g,x,h=>by
  erw[kO r _ x ?_];by_cases f:(k == At)=J3
  ·rw[y6 f];cases d:x == n with
   | true=>rwa[.inr ⟨_,by rw[Ac,d]⟩]
   | false =>
    rcases h with h | ⟨c,h⟩
    ·rcases l9.mp h with e | e
     ·injection e with e1 _
      subst e1;simp at d
     ·rwa[.inl e]
    ·rwa[.inr ⟨c,by rw[Ac,d]; exact h⟩]
  ·rw[y4 f];rcases h with h | h
   ·rcases l9.mp h with e | e
    ·injection e with _ e2
     subst e2;rwa[y9 rfl f]
    ·rwa[.inl e]
   ·rwa[.inr h]
def oB{env:ED} : ∀{names:List (j9×De)}{x:j9},names.lookup x=O .free ->
  (names.map λ(n,k)=>if 'h' then(n,CZ) else(n,k)).lookup x=O .cell \/
  (names.map λ(n,k)=>if 'h' then(n,CZ) else(n,k)).lookup x=O .free
 | [],_,h=>by simp at h
 | (n,k)::r,x,h=>by
  have d:=@oB env r x;show Av x ((if 'h'=J3 then(n,CZ) else(n,k))::_)=_\/Av x ((if 'h'=J3 then(n,CZ) else(n,k))::_)=_;by_cases e:'h'=J3
  ·rw[y6 e];cases c:x == n with
   | true=>rwa[.inl (by rw[Ac,c])]
   | false =>
    rw[Ac,c] at h;rw[Ac,c];rwa[d h]
  ·rw[y4 e];cases c:x == n with
   | true =>
    rw[Ac,c] at h;rwa[.inr (by rw[Ac,c]; exact h)]
   | false =>
    rw[Ac,c] at h;rw[Ac,c];rwa[d h]
def xq{env:ED} : ∀{names:List (j9×De)}{x:j9}{j:De},(∀ y∈names,y.2≠.cell)->(j=.cell\/j=.free) ->
  (names.map λ(n,k)=>if 'h' then(n,CZ) else(n,k)).lookup x=O j->(x,At)∈names
 | [],_,_,_,_,h=>by simp at h
 | (n,k)::r,x,j,i,d,h=>by
  have g:=@xq env r x j (λy m=>i y (x8 _ m)) d;have f:k≠.cell:=i (n,k) x9
  replace h:Av x ((if 'h'=J3 then(n,CZ) else(n,k))::(r.map λ(n,k)=>if 'h' then(n,CZ) else(n,k)))=O j:=h
  by_cases e:'h'=J3
  ·rw[y6 e] at h;have o:k=.free:=by
    simp only[AA] at e;simpa using e.1.1
   cases c:x == n with
   | true =>
    have ex:x=n:=by simpa using c
    subst ex;rw[<- o];rwa[x9]
   | false =>
    rw[Ac,c] at h;rwa[x8 _ (g h)]
  ·rw[y4 e] at h;cases c:x == n with
   | true =>
    rw[Ac,c] at h;have ex:x=n:=by simpa using c
    have l:k=j:=t6 h;subst ex;rcases d with d | d
    ·rwa[y9 (l.trans d) f]
    ·rw[<- d,<- l];rwa[x9]
   | false =>
    rw[Ac,c] at h;rwa[x8 _ (g h)]

def cxComp(X:Cx)(N:List j9)(d:DK)(c:CC):Cx where
 prog:=X.prog
 w:=X.w
 K:=X.K
 mg:=X.mg
 base:=X.base
 A:=X.A
 N:=N
 s₀:=c.s
 H₀:=c.H
 env:=compEnvC d (xt X.env d.names []) c.C X.env
 outer:=X.stack
 stack:=X.stack
 ex:=c.fp
 fn:=λ_=>J7
 calm:=X.calm
 pn:=[]
 xe:=λ_ _=>False

def ik(X:Cx)(c:DK):List (j9×Nat)->Prop
 | []=>True
 | p::r=>(X.N[p.2]?=O p.1/\c.names.lookup p.1=O .free/\(X.env.kindOf p.1=O .cell\/X.env.kindOf p.1=O .free))/\ik X c r
def ik.mem : ∀{d:List (j9×Nat)},ik X c d->∀ p∈d,X.N[p.2]?=O p.1/\c.names.lookup p.1=O .free/\(X.env.kindOf p.1=O .cell\/X.env.kindOf p.1=O .free)
 | [],_,_,h=>nomatch h
 | q::r,h,p,f=>by
  rcases l9.mp f with e | e
  ·rw[e]; rwa[h.1]
  ·rwa[ik.mem h.2 p e]
structure rH(X:Cx)(caps:List (j9×Nat))(scope:DK):Prop where
 kind:scope.kind=.function
 nocell:∀ y∈scope.names,y.2≠.cell
 loc:∀ y∈scope.names,y.2=.local->scope.names.lookup y.1=O .local
 clos:(scope.names.all λx=>!(x.2 == .free)||(X.env.cells.lookup x.1).isSome)=J3
 cap:ik X scope caps
def rH.cells(S:rH X e d):∀ x∈d.names,x.2=.free->∃ c,X.env.cells.lookup x.1=O c:=λx f g=>by
 have h:=Aw.mp S.clos x f;rw[g] at h;simp only[Ih] at h;rcases h with h | h
 ·rwa[y9 h 'a']
 ·rwa[j7.mp h]

def fg(c:List (j9×Nat))(e:Nat)(d:St):St:=Df e J2++c.map λp=>(d[p.2]?).join

def Qw(Y:Cx)(e:List Ar)(t:TT):Prop :=
 ∀(f:List (c7×Bk))(s:d7)(d:St)(H:Hp)(Q:Bool->Hp->Prop),Inv Y f d H s->t d H Q ->
  wpAny (model Y.prog Y.w) Y.A (forIn e J3 λc r=>if r=J3 then do let ok <- isTrue c Y.env (eval c Y.env); pure (BE ok) else pure (BE r)) (TP Y f d Q) Y.xe s
def Qr:TT:=λ_ H Q=>Q J3 H
def yX : Qw Y [] Qr:=λ_ _ _ H _ I h=>wpAny_tests_nil ⟨H,I,h⟩
def qy(h:PT Y c t):Qw Y [c] t:=λe s d H Q I q=>wpAny_tests_one (h e s d H Q I q)

def nD(J:It)(D:c7)(g:TG)(q:TT)(r:TE)(h:St)(u:Hp)(Q:VK):Prop :=
 ∃ W:Nat->Nat->St->List V->Hp->Prop,(∃ m,W 0 m h [] (upd u D 'C'))/\∀ i m j d H,W i m j d H->H D=O (.lst d) /\
  ((J.stop i H/\Q (.ref D) H)\/(J.go i H/\∃ N:St->List V->Hp->Prop,(∀ e l f,N e l f->∃ n,n<m/\W (i+1) n e l f)/\∀ x f,J.yld i H x f->g x j f λc s=>q c s λb p =>
   if b=J3 then r c p λy o=>o D=O (.lst d)/\d.length<sizeLine/\N c (d++[y]) (upd o D (.lst (d++[y]))) else N c d p))
def Rg(l:Nat)(d:List (j9×Nat))(h:TI)(g:CC->TG)(i:CC->TT)(j:CC->TE):TE:=λe H Q =>
 h e H λJ f=>∀(c:CC)(D:c7),f D=J2->nD J D (g c) (i c) (j c) (fg d l e) f Q

def gN{c:Type}{t:EF c}{Q d:c->d7->Prop}{M:GP}{A:Ak}{E:c8->d7->Prop}{s:d7}(h:wpAny M A t Q (λ_ _=>False) s)(e:∀ a s,Q a s->d a s):wpAny M A t d E s:=AW h e λ_ _ x=>x.elim
def Un.same{H g:Hp}(u:Un fs ex H g h h1)(d:BZ C h1 h2)(l:h.get? C=J2):Un fs ex H g h h2:=by
 have ne:∀ b o,h.get? b=O o->b≠C:=λb o e z=>by rw[z,l] at e; cases e
 erw[λb o e n f c=>(d.2 b (ne b o e)).trans (u.keep b o e n f c),λb o e n f c=>?_,u.free,λb o e c=>?_,u.tups,u.frzs,u.tbls]
 ·obtain⟨i,q⟩:=u.slot b o e n f c;rwa[i,(d.2 b (ne b o e)).trans q]
 ·obtain⟨j,q⟩:=u.there b o e c;rwa[j,(d.2 b (ne b o e)).trans q]
def HOk.same{H:Hp}(k:HOk P w H h)(g:BZ C h f)(d:H C=J2):HOk P w H f:=λb o e=>by
 refine(k b o e).stay (λc v i q=>(g.2 c ?_).trans q) (λ_ q=>q) λ_ _ q=>q;rintro rfl;rcases i with z | z
 ·rw[z,e] at d; cases d
 ·rw[d] at z; cases z

section
variable{X:Cx}{T:List j9}{caps:List (j9×Nat)}{scope:DK}{elt target iter:Ar}{ifs:List Ar}{pos:D5}{wi:TI}{g:CC->TG}{tt:CC->TT}{te:CC->TE}

def pA{I:St}{H:Hp}{fp:List c7}{C D:c7}{h1:Aa}{tk:Nat}{m:j9->Option c8}(S:rH X caps scope)(f:Inv X J8 I H w)(P:∀ b∈fp,bY X J8 H b)
  (hfp:∀ b∈fp,b<w.heap.objs.size) (N:w.heap.objs.size<=D) (hC:w.heap.objs.size<=C) (hDC:C≠D) (r:∀ b o,w.heap.get? b=O o->h1.get? b=O o)
  (acc:∃ n,h1.get? D=O { cls:=.type "list",data:=.seq ([]:List c8).toArray n }) (hn:h1.Ns C m) :
  Inv (cxComp X (T++caps.map (·.1)) scope ⟨C,w,H,fp⟩) [] (fg caps T.length I) (upd H D 'C') { w with heap:=h1,toks:=tk }:=by
 have G:=rS (env:=X.env) scope.names [] S.cells (λ_ _ z=>by cases z);have j:∀ x c,X.env.cells.lookup x=O c->c<w.heap.objs.size:=λx c e=>by
  obtain⟨v,q⟩:=f.cell x c e;rwa[q.lt]
 have A:∀ b∈fp,b ∉ frs X.stack:=λb E z=>by
  rcases l9.mp (f.stkSub b z) with e | e
  ·exact(P b E).2.1 e
  ·exact(P b E).2.2.1 e
 have fr:H D=none:=f.hok.fresh N;refine⟨⟨f.ok.mod,S.kind,f.ok.glob,f.ok.blt,hC,λx y c e1 s=>f.ok.inj x y c (G x c e1) (G y c s),λx hx=>?_,λ_ _ z=>y9 (show J7=J3 from z) o4,f.ok.hd,f.ok.frames,.inl rfl,λb E=>⟨?_,λx c e=>(P b E).2.2.2.2.1 x c (G x c e)⟩,
  λb o e=>f.bs b o e,i4 f.ok.bsz f.sz,λb o e E=>?_,A,f.stack,f.stkFree⟩,rfl,f.bare,?_,⟨m,hn,λi x v e1 s e3=>?_⟩,λx c e=>?_,?_,λx c e=>?_,λp J=>y9 (show p∈([]:List (c7×Bk)) from J) 'd',?_,?_⟩
 ·have R:(x,At)∈scope.names:=by
   rcases hx with z | z
   ·rwa[xq S.nocell (.inl rfl) z]
   ·rwa[xq S.nocell (.inr rfl) z]
  rwa[kO scope.names [] x (.inl R)]
 ·rwa[t8 (o3 (hfp b E) hC)]
 ·rcases (P b E).2.2.2.1 with z | z
  ·rwa[f.ok.noex b o e z]
  ·exact y9 (o3 (m7 (show X.base.get? b=O o from e)) (i4 f.ok.bsz z)) (Bg _)
 ·rwa[Un.laid r N fr]
 ·have hlt:¬ i<T.length:=λhi=>by
   unfold fg at s;rw[AF (by simpa using hi),FL,y6 hi] at s;cases s
  have L:T.length<=i:=HF hlt;have h:(T++caps.map (·.1))[i]?=O x:=e1;rw[Ae L,e7] at h;unfold fg at s;rw[Ae (by simpa using L),C0,e7] at s;cases J:caps[i-T.length]? with
  | none=>rw[J] at h; cases h
  | some p =>
   rw[J] at h s;have ex:p.1=x:=t6 h;have Q:(I[p.2]?).join=O v:=t6 s;obtain⟨hN,hf,hk⟩:=S.cap.mem p (j4 J);have ev':I[p.2]?=O (O v):=by
    cases hq:I[p.2]? with
    | none=>rw[hq] at Q; cases Q
    | some o =>
     rw[hq] at Q;rwa[congrArg O Q]
   obtain⟨m2,_,hl2⟩:=f.loc;obtain⟨u,ru,l⟩:=hl2 p.2 p.1 v hN ev' (hk.elim (λz=>.inr (.inl z)) λz=>.inr (.inr z));erw[u,ru,.inr ⟨?_,?_⟩]
   ·rw[<- ex];rwa[oB (env:=X.env) hf]
   ·rcases l with ⟨kl,_⟩ | ⟨_,c,ec,B⟩
    ·rcases hk with z | z <;>(rw[kl] at z; cases z)
    ·obtain⟨d,hd⟩:=kO (env:=X.env) scope.names [] p.1 (.inl (BY hf));have M:=G p.1 d hd;rw[ec] at M;cases M;obtain⟨o,Z,Y⟩:=B;rwa[c,by rw[<- ex]; exact hd,o,r c o Z,Y]
 ·obtain⟨v,o,Z,hd⟩:=f.cell x c (G x c e);rwa[v,o,r c o Z,hd]
 ·show upd H D 'C' C=J2;rw[zG hDC];rwa[f.hok.fresh hC]
 ·show upd H D 'C' c=J2;rw[zG (t8 (o3 (j x c (G x c e)) N))];rwa[f.freeC x c (G x c e)]
 ·obtain⟨n,e⟩:=acc;rwa[f.hok.laid r N ⟨x6 _,[],n,.nil,e⟩]
 ·show(fg caps T.length I).length=(T++caps.map (·.1)).length;unfold fg;rw[f9,f9,b9,b9,C0]

def xO(S:rH X caps scope)(hc:X.calm=J3)(hi:PI X target iter wi)(hg:∀ c,PG (cxComp X (T++caps.map (·.1)) scope c) target (g c))(ht:∀ c,Qw (cxComp X (T++caps.map (·.1)) scope c) ifs (tt c))(he:∀ c,PE (cxComp X (T++caps.map (·.1)) scope c) elt (te c))
  (hs:∀ x,foldedSetIterable iter X.env x=pure x:=by intro _; rfl):PE X 'f' (Rg T.length caps wi g tt te):=by
 intro J8 s σ H Q I h;rw[eval_ListComp];erw[Dz (use:=J2) rfl hs (bu S.cells) S.kind S.loc (thn (hi J8 s σ H _ I h) λv s1 h1=>thn h1 λitv f h2=>?_)];obtain⟨it,fp,tn,J,R,e,I2,TT,st2,f2,q2⟩:=h2;subst e;refine AI (Ek S.nocell (by intro y hy; simp at hy) (λh1 hn M=>?_) S.kind);dsimp only at hn M ⊢;generalize hg2:f.heap.push { cls:=.type "list",dict:=J2,data:=.seq ([]:List c8).toArray }=G at hn M ⊢;have hCv:G.objs.size=f.heap.objs.size+1:=by rw[<- hg2,CH]
 have hDC:G.objs.size≠f.heap.objs.size:=by rw[hCv]; rwa[FO _]
 have l:f.heap.objs.size<=G.objs.size:=by rw[hCv]; rwa[BO _]
 have old:∀ b o,f.heap.get? b=O o->h1.get? b=O o:=λb o e=>M.extBut b o (t8 (o3 (m7 e) l)) (e9 _ (hg2 ▸ e9 _ e));have hacc:∃ n,h1.get? f.heap.objs.size=O { cls:=.type "list",data:=.seq ([]:List c8).toArray n }:=⟨_,M.extBut _ _ (Bi hDC) (e9 _ (hg2 ▸ n9 _ rfl))⟩;have hfp:∀ b∈fp,b<f.heap.objs.size:=λb j=>by
  obtain⟨o,e,_⟩:=TT.obj _ _ st2 b j;rwa[m7 e]
 have cs:=rS (env:=X.env) scope.names [] S.cells (λ_ _ z=>by cases z);have I0:=pA (T:=T) (tk:=f.toks+([]:List (j9×c8)).length) S I2 f2 hfp (f7 _) l hDC old hacc hn;have st0:tn 0 h1:=TT.keep _ _ _ st2 λb _ o e=>old b o e;obtain⟨W,⟨m0,w0⟩,turn⟩:=q2 ⟨G.objs.size,f,R,fp⟩ f.heap.objs.size (I2.hok.fresh (f7 _));have fr0:∀ b∈fp,upd R f.heap.objs.size 'C' b=none:=λb j=>by
  rw[zG (t8 (hfp b j))];exact(f2 b j).1
 have C:∀{D:Hp},(∀ b∈fp,D b=J2)->∀ b∈fp,bY (cxComp X (T++caps.map (·.1)) scope ⟨G.objs.size,f,R,fp⟩) [] D b:=λ{D} hn' b j =>
  ⟨hn' b j,t8 (o3 (hfp b j) l),I0.ok.exfs b j,.inl j,λx c e=>(f2 b j).2.2.2.2.1 x c (cs x c e),λp hp=>y9 (show p∈([]:List (c7×Bk)) from hp) 'd'⟩
 have P:codeAny 'b' X.A (.compLoop 'f' 0 (.ref it) (.ref f.heap.objs.size) 'k')
   (compPost 'b' X.A X.xe J2 (EP X J8 σ Q) (.ref f.heap.objs.size) G.objs.size) { f with heap:=h1,toks:=f.toks+([]:List (j9×c8)).length }:=by
  erw[codeAny_loop rfl (λn s'=>∃ i B Y D,Inv (cxComp X (T++caps.map (·.1)) scope ⟨G.objs.size,f,R,fp⟩) [] B D s'/\tn i s'.heap/\(∀ b∈fp,D b=J2)/\W i n B Y D) (λn s3 hI=>?_) m0 ⟨0,_,[],_,I0,st0,fr0,w0⟩];obtain⟨i,L,Y,H3,I3,st3,fr3,w3⟩:=hI;show wpAny _ X.A ((compTurn 'f' 0 (.ref it) (.ref f.heap.objs.size) 'k').onRaise (λx=>do noteFrame x 'k'; theTreesLotGoes x)) _ _ s3;erw[HY ?_];rw[compTurn_list];erw[c9 (Dw (c9 ?_))];obtain⟨hD3,Z⟩:=turn i n L Y H3 w3;rcases Z with ⟨stop,qn⟩ | ⟨go,N,hN,step⟩
  ·erw[gN (TT.done (cxComp X (T++caps.map (·.1)) scope ⟨G.objs.size,f,R,fp⟩) rfl rfl rfl hc i [] s3 L H3 _ I3 (C fr3) st3 stop) λr s4 ⟨hr,I4⟩=>?_];subst hr;erw[i5 ?_];show ∃ m,s4.heap.Ns G.objs.size m/\∀ h',BZ G.objs.size s4.heap h'->EP X J8 σ Q (.ref f.heap.objs.size) { s4 with heap:=h' };obtain⟨m4,hn4,_⟩:=I4.loc;erw[m4,hn4,λh' sb=>⟨.ref f.heap.objs.size,H3,?_,rfl,qn⟩];refine I2.call' (s':={ s4 with heap:=h' }) (ch:=fp) I4.os (Un.same I4.base sb (Eh l)) (HOk.same I4.hok sb I4.free) I4.bare λb j=>?_;obtain⟨_,f1,_,f3,f4,f5⟩:=f2 b j;rwa[f3,f1,f4,f5]
  ·refine gN (TT.item (cxComp X (T++caps.map (·.1)) scope ⟨G.objs.size,f,R,fp⟩) rfl rfl rfl hc i [] s3 L H3 _ I3 (C fr3) st3 go) λr s4 ⟨u,hr,h4⟩=>?_;subst hr;refine c9 (gN h4 λ_ s5 ⟨x,H5,I5,r5,y5,st5,fr5⟩=>?_);have I5':=I5.pinned (C fr5) (TT.obj _ _ st5);refine c9 (gN (hg _ _ s5 L H5 x u _ I5' r5 (step x H5 y5)) λ_ s6 ⟨E,H6,I6,q6⟩=>?_);have again:∀{s7:d7}{q:St}{zs:List V}{H7:Hp},Inv (cxComp X (T++caps.map (·.1)) scope ⟨G.objs.size,f,R,fp⟩) ([]++kP fp s5.heap) q H7 s7->N q zs H7 ->
     ∃ m,m<n/\∃ i B Y D,Inv (cxComp X (T++caps.map (·.1)) scope ⟨G.objs.size,f,R,fp⟩) [] B D s7/\tn i s7.heap/\(∀ b∈fp,D b=J2)/\W i m B Y D:=λ{s7 q zs H7} I7 n7=>by
    obtain⟨m',hm,w7⟩:=hN q zs H7 n7;erw[m',hm,i+1,q,zs,H7,I7.unpinned,TT.keep _ _ _ st5 λb j o e=>(I7.pin (b,o) (t5 _ (t5 _ (uW j e)))).1,λb j=>?_,w7];obtain⟨o,e,d⟩:=TT.obj _ _ st5 b j;exact(I7.pin (b,o) (t5 _ (t5 _ (uW j e)))).2.1
   erw[c9 (gN (ht _ _ s6 E H6 _ I6 q6) λok s7 ⟨H7,I7,q7⟩=>?_)];cases ok with
   | false=>rwa[i5 ⟨rfl,again I7 q7⟩]
   | true =>
    erw[c9 (c9 (gN (he _ _ s7 E H7 _ I7 q7) λy s8 ⟨yv,H8,I8,r8,hD8,hl8,q8⟩=>?_))];erw[c9 (gN (ql _ s8 E H8 (.ref f.heap.objs.size) [yv] (.ref f.heap.objs.size) [y] (λ_ H9=>N E (Y++[yv]) H9) I8 rfl (.cons r8 .nil) ⟨_,Y,yv,rfl,rfl,hD8,hl8,q8⟩) λ_ s9 ⟨_,H9,I9,_,q9⟩=>?_)];rwa[i5 (i5 ⟨rfl,again I9 q9⟩)]
 rwa[codeAny_compStart_list P (TT.self _ 0 _ _ _ st0 P)]
end
end L2

namespace L2

def oG:bootBuiltins "len" = O (.builtin "len"):=by ac_nf
def Pc:bootBuiltins "abs" = O (.builtin "abs"):=by ac_nf
def fG:bootBuiltins "all" = O (.builtin "all"):=by ac_nf
def Po:bootBuiltins "max" = O (.builtin "max"):=by ac_nf
def TY:bootBuiltins "min" = O (.builtin "min"):=by ac_nf
def Te:bootBuiltins "int" = O (.type "int"):=by ac_nf
def pU:bootBuiltins "list" = O (.type "list"):=by ac_nf
def iE:bootBuiltins "tuple" = O (.type "tuple"):=by ac_nf
def Has(P:o0)(w:t7)(K:c5)(mg:j9->Option c8)(base:Aa)(x:j9)(n:Nat)(c:List j9)(sp:Sp):Prop :=
 ∃(f:c7)(fd:AK),yR P w K mg base CX0 n f fd c sp/\qf K fd c []/\AJ K (.ref f)=J3/\mg x=O (.ref f)
section
variable{X:Cx}{x:j9}{p pos:D5}{e:Ar}{es:List Ar}{t:TA}{n:Nat}{ps:List j9}{sp:Sp}
def xI(h:Has X.prog X.w X.K X.mg X.base x n ps sp)(g:yn n X.A)(i:Gl X x)(l:PA X (e::es) t)(d:(x ==("__debug__" : j9))=false:=by decide)
  (j:starEach (e::es) X.env='A'::starEach es X.env:=by rfl) (c:(backTo pos 'B').any (·.1)=false:=by rfl):PE X 't' (ZO sp [] E0 t):=by
 obtain⟨f,fd,F,b,k,m⟩:=h;rwa[SE F g i m k b .nil YO l d j c]
end

section
variable{X:Cx}
def pH(i j:Int):Prop:=0<j/\j.natAbs<2^4096
def Ts:OpR X (binaryOp .FloorDiv) (rI pH λi j=>.int (i/j)):=opI λi j _ _ _ _ _ c q=>by
 have h1:(0:Int)<j:=c.1;have h3:j.natAbs.log2<9000:=Cs ((HZ (by lia)).mpr c.2) 'a';rwa[floordiv_int (by lia) (by rw[Int.fdiv_eq_ediv_of_nonneg i (by lia)]; exact q) (.inl (PyProof.noPylong_of_log2 h3))]
def pH.of{i j:Int}(h:0<j)(h2:j<10^600):pH i j:=by
 exists h;have e:(10:Nat)^600<2^4096:=by ac_nf
 lia
def YQ(i j:Int):Prop:=i.natAbs<2^4096/\j.natAbs<2^4096
def io{i:Int}(h:i.natAbs<2^4096):GH i<=2^20:=by
 unfold GH;split
 ·rwa[x6 _]
 ·have q:i.natAbs.log2<4096:=by
   rcases G2 i.natAbs with h0 | c
   ·rw[h0]; decide
   ·exact(HZ (DS c)).mpr h
  have e:(2:Nat)^20=1048576:=by decide
  lia
def iK:OpR X (binaryOp .Mult) (rI YQ λi j=>.int (i*j)):=opI λ_ _ _ _ _ _ _ c q=>mul_int q (IntMulOk.of_bits (io c.1) (io c.2))

def Sq(K:c5)(H:Hp)(p:c7)(xs:List V):Prop:=SqL K H p xs\/SqT K H p xs
inductive RIx(K:c5)(x y:V)(H:Hp)(Q:VK):Prop where
 | mk (p:c7) (xs:List V) (i:Int) (v:V) (ex:x=.ref p) (ey:y=.int i) (sq:Sq K H p xs) (at':atI xs i=O v) (q:Q v H)
def Od(K:c5):R2:=λx y H Q=>RIx K x y H Q
def lL:IxR X (Od X.K):=by
 intro value slice m s d H x y v u Q I f e q g;obtain⟨p,xs,i,z,l,j,c,h,q⟩:=q;rcases c with c | c
 ·rwa[Rx value slice m s d H x y v u Q I f e ⟨p,xs,i,z,l,j,c,h,q⟩ g]
 ·rwa[QF value slice m s d H x y v u Q I f e ⟨p,xs,i,z,l,j,c,h,q⟩ g]
def iSeq(K:c5)(tl:TE):TI:=λd H R=>tl d H λx c=>∃ a,x=.ref a/\(((∃ xs,SqL K c a xs)/\R (Itl K a) c)\/((∃ xs,SqT K c a xs)/\R (Itt K a) c))
def xB{tl:TE}(A:PE X l tl):PI X r l (iSeq X.K tl):=by
 intro m s n H R I h;refine thn (A m s n H _ I h) λv c ⟨x,i,d,w,y⟩=>?_;obtain⟨a,e,q⟩:=y;subst e;cases w;have own:∀ b,b∈[c.heap.objs.size]->bY X m i b:=λb j=>by
  rw[g6] at j;subst j;rwa[d.fpOk (f7 _) (d.hok.fresh (f7 _))]
 rcases q with ⟨⟨xs,g⟩,q⟩ | ⟨⟨xs,g⟩,q⟩
 ·obtain⟨f,u,p,z⟩:=d.list g;rwa[DT p.isList ⟨c.heap.objs.size,[c.heap.objs.size],_,_,i,rfl,d.kept (t':=c.toks) λb o e=>e9 _ e,dF a _,⟨_,n9 _ rfl,rfl,rfl⟩,own,q⟩]
 ·obtain⟨f,u,p,z⟩:=d.tuple g;exact wpAny_pyIter_tuple (show c.heap.IsTuple a f.toArray from p) ⟨c.heap.objs.size,[c.heap.objs.size],_,_,i,rfl,d.kept (t':=c.toks) λb o e=>e9 _ e,Yw a _,⟨_,n9 _ rfl,rfl,rfl⟩,own,q⟩
end

section
variable{K:c5}{a D:c7}{xs:List V}{g:TG}{tt:TT}{te:TE}{σ0:St}{H1:Hp}{Q:VK}
def ye(h:Nat->St->List V->Hp->Prop)(h0:h 0 σ0 [] (upd H1 D 'C'))(u:∀ i d c H,i<=xs.length->h i d c H->SqL K H a xs/\H D=O (.lst c))
  (s:∀ i x d c H,xs[i]?=O x->h i d c H->g x d H λf v=>tt f v λb n =>
   if b=J3 then te f n λy l=>l D=O (.lst c)/\c.length<sizeLine/\h (i+1) f (c++[y]) (upd l D (.lst (c++[y]))) else h (i+1) f c n)
  (hd:∀ d c H,h xs.length d c H->Q (.ref D) H):nD (Itl K a) D g tt te σ0 H1 Q:=by
 exists λi m d c H=>m=xs.length-i/\i<=xs.length/\h i d c H,⟨xs.length,by simp,x6 _,h0⟩;rintro i m d c H ⟨rfl,hi,p⟩;obtain⟨q,r⟩:=u i d c H hi p;exists r;by_cases j:i<xs.length
 ·erw[.inr ⟨⟨xs,xs[i],q,by simp[j]⟩,h (i+1),λo A w z=>⟨xs.length-(i+1),by lia,rfl,j,z⟩,λx w y=>?_⟩];obtain⟨e,y⟩:=y;subst e;rwa[s i x d c _ (y xs q) p]
 ·have e:i=xs.length:=by lia
  subst e;rwa[.inl ⟨⟨xs,q,f7 _⟩,hd d c H p⟩]
def VW(h:Nat->St->List V->Hp->Prop)(h0:h 0 σ0 [] (upd H1 D 'C'))(u:∀ i d c H,i<=xs.length->h i d c H->SqT K H a xs/\H D=O (.lst c))
  (s:∀ i x d c H,xs[i]?=O x->h i d c H->g x d H λf v=>tt f v λb n =>
   if b=J3 then te f n λy l=>l D=O (.lst c)/\c.length<sizeLine/\h (i+1) f (c++[y]) (upd l D (.lst (c++[y]))) else h (i+1) f c n)
  (hd:∀ d c H,h xs.length d c H->Q (.ref D) H):nD (Itt K a) D g tt te σ0 H1 Q:=by
 exists λi m d c H=>m=xs.length-i/\i<=xs.length/\h i d c H,⟨xs.length,by simp,x6 _,h0⟩;rintro i m d c H ⟨rfl,hi,p⟩;obtain⟨q,r⟩:=u i d c H hi p;exists r;by_cases j:i<xs.length
 ·erw[.inr ⟨⟨xs,xs[i],q,by simp[j]⟩,h (i+1),λo A w z=>⟨xs.length-(i+1),by lia,rfl,j,z⟩,λx w y=>?_⟩];obtain⟨e,y⟩:=y;subst e;rwa[s i x d c _ (y xs q) p]
 ·have e:i=xs.length:=by lia
  subst e;rwa[.inl ⟨⟨xs,q,f7 _⟩,hd d c H p⟩]
def jC{lo:Int}{n:Nat}(h:Nat->St->List V->Hp->Prop)(h0:h 0 σ0 [] (upd H1 D 'C'))(u:∀ i d c H,i<=n->h i d c H->H D=O (.lst c))
  (s:∀ i d c H,i<n->h i d c H->g (.int (lo+i)) d H λf v=>tt f v λb o =>
   if b=J3 then te f o λy l=>l D=O (.lst c)/\c.length<sizeLine/\h (i+1) f (c++[y]) (upd l D (.lst (c++[y]))) else h (i+1) f c o)
  (hd:∀ d c H,h n d c H->Q (.ref D) H):nD (Itr lo n) D g tt te σ0 H1 Q:=by
 exists λi m d c H=>m=n-i/\i<=n/\h i d c H,⟨n,by simp,x6 _,h0⟩;rintro i m d c H ⟨rfl,hi,p⟩;have r:=u i d c H hi p;exists r;by_cases j:i<n
 ·erw[.inr ⟨j,h (i+1),λq A w z=>⟨n-(i+1),by lia,rfl,j,z⟩,λx w y=>?_⟩];obtain⟨e,y⟩:=y;subst e y;rwa[s i d c _ j p]
 ·have e:i=n:=by lia
  subst e;rwa[.inl ⟨f7 _,hd d c H p⟩]
end
section
variable{K:c5}{a D:c7}{xs:List V}{g:TG}{te:TE}{σ0:St}{H1:Hp}{Q:VK}
def xN(f:Nat->St->List V->Hp->Prop)(h0:f 0 σ0 [] (upd H1 D 'C'))(m:∀ i d c H,i<=xs.length->f i d c H->SqL K H a xs/\H D=O (.lst c))
  (l:∀ i x d c H,xs[i]?=O x->f i d c H->g x d H λh n=>te h n λy j=>j D=O (.lst c)/\c.length<sizeLine/\f (i+1) h (c++[y]) (upd j D (.lst (c++[y]))))
  (hd:∀ d c H,f xs.length d c H->Q (.ref D) H):nD (Itl K a) D g Qr te σ0 H1 Q:=ye f h0 m (λi x d c H e p=>l i x d c H e p) hd
def kT(f:Nat->St->List V->Hp->Prop)(h0:f 0 σ0 [] (upd H1 D 'C'))(m:∀ i d c H,i<=xs.length->f i d c H->SqT K H a xs/\H D=O (.lst c))
  (l:∀ i x d c H,xs[i]?=O x->f i d c H->g x d H λh n=>te h n λy j=>j D=O (.lst c)/\c.length<sizeLine/\f (i+1) h (c++[y]) (upd j D (.lst (c++[y]))))
  (hd:∀ d c H,f xs.length d c H->Q (.ref D) H):nD (Itt K a) D g Qr te σ0 H1 Q:=VW f h0 m (λi x d c H e p=>l i x d c H e p) hd
def vb{lo:Int}{n:Nat}(f:Nat->St->List V->Hp->Prop)(h0:f 0 σ0 [] (upd H1 D 'C'))(m:∀ i d c H,i<=n->f i d c H->H D=O (.lst c))
  (l:∀ i d c H,i<n->f i d c H->g (.int (lo+i)) d H λh o=>te h o λy j=>j D=O (.lst c)/\c.length<sizeLine/\f (i+1) h (c++[y]) (upd j D (.lst (c++[y]))))
  (hd:∀ d c H,f n d c H->Q (.ref D) H):nD (Itr lo n) D g Qr te σ0 H1 Q:=jC f h0 m (λi d c H e p=>l i d c H e p) hd
end
end L2

namespace L2
def WB:∀ bs:List Bool,(Ad bs.length).all (λi=>(bs[i]?).getD J3)=bs.all id:=by
 intro bs;rw[BW,Aw,Aw];constructor
 ·intro h b d;obtain⟨i,hi,e⟩:=AU d;have q:=h i (Bt.mpr hi);rw[c6 hi,e] at q;rwa[q]
 ·intro h i hi;have c:=Bt.mp hi;rw[c6 c];rwa[h _ (r6 c)]
def Us{bs:List Bool}(r:yY (bs.map V.bl) c){i:Nat}(h:c[i]?=O v):v=.bool ((bs[i]?).getD J3):=by
 have f:=r.length;rw[b9] at f;have hi:i<c.length:=(e8.mp h).1;have d:i<bs.length:=by lia
 obtain⟨u,e,ru⟩:=r.get (i:=i) (x:=.bl bs[i]) (by rw[e7,c6 d]; rfl);rw[e] at h;cases h;rw[c6 d];rwa[ru]
section
variable{X:Cx}
def xw(n:X.calm=J3):tD X (.builtin "all") (λxs H Q=>E2 λ(p:c7) (bs:List Bool)=>A3 (xs=[.ref p]) (SqL X.K H p (bs.map V.bl)) (Q (.bl (bs.all id)) H)):=by
 intro J s B H xs C Q I r h;obtain⟨p,bs,rfl,m,q⟩:=h;obtain⟨u,rfl,ru⟩:=yY.one r;cases ru;obtain⟨c,g,f,D⟩:=I.list m;have d:p<s.heap.objs.size:=by
  obtain⟨_,e,_⟩:=f.isList;rwa[m7 e]
 erw[call_all_walk (DT f.isList ?_)];refine⟨s.heap.objs.size,_,_,_,_,_,λi=>(bs[i]?).getD J3,U,JT (A:=X.A.in1) (show X.A.in1.handled=J2 from I.ok.hd n) _ p (t8 d) c.toArray,⟨⟨_,n9 _ rfl,U,U⟩,Heap.IsList.push f.isList _⟩,λi v s Q E y x=>?_,λG l k=>?_⟩
 ·have e:=Us g (by simpa using y);subst e;rwa[Cr x]
 ·have e:(Ad c.toArray.size).all (λi=>(bs[i]?).getD J3)=bs.all id:=by
   have j:=g.length;rw[b9] at j;rw[i7,<- j];rwa[WB bs]
  rw[e];exact⟨.bl (bs.all id),H,I.kept (t':=l) λb o z=>k b o (λw=>by rw[g6] at w; rwa[Bg _ (w ▸ m7 z)]) (e9 _ z),rfl,q⟩
end
end L2

namespace L2

end L2

namespace L2
end L2

namespace L2
def ifD{p A B:Prop}[Decidable p](h1:p->A)(h2:¬ p->B):if decide p=J3 then A else B:=by
 by_cases h:p
 ·rw[y6 (y7 h)]; rwa[h1 h]
 ·rw[y4 (by rw[y8 h]; rwa[o4])]; rwa[h2 h]
def ifN{p A B:Prop}[Decidable p](h1:¬ p->A)(h2:p->B):if (!decide p)=J3 then A else B:=by
 by_cases h:p
 ·rw[y4 (by rw[y7 h]; rwa[o4])]; rwa[h2 h]
 ·rw[y6 (by rw[y8 h]; rfl)]; rwa[h1 h]
def ifE{x y:Int}{A B:Prop}(h1:x=y->A)(h2:x≠y->B):if decide (V.int x=V.int y)=J3 then A else B :=
 ifD (λh=>h1 (V.int.inj h)) λh=>h2 λe=>h (congrArg V.int e)
def Oh{x y:Int}{A B:Prop}(h1:x≠y->A)(h2:x=y->B):if (!decide (V.int x=V.int y))=J3 then A else B :=
 ifN (λh=>h1 λe=>h (congrArg V.int e)) λh=>h2 (V.int.inj h)
def zC{H:Hp}(h:H p=J2)(o:HO):Same H (upd H p o):=λb u q=>by rw[zG (zI q h)]; rwa[q]
def Sq.same{K:c5}{H c:Hp}(h:Sq K H a xs)(e:Same H c):Sq K c a xs:=by
 rcases h with h | h
 ·rwa[.inl (e.seq h)]
 ·erw[.inr ?_];rcases h with h | h
  ·rcases h with h | ⟨o,h⟩
   ·rwa[.inl (.inl (e _ _ h))]
   ·rwa[.inl (.inr ⟨o,e _ _ h⟩)]
  ·rwa[.inr h]
def uU{ns:List Int}{i:Nat}(h:'p'[i]?=O x):∃ n,ns[i]?=O n/\x=.int n:=by
 rw[e7] at h;cases e:ns[i]? with
 | none=>rw[e] at h; cases h
 | some n=>rw[e] at h; rwa[n,rfl,(t6 h).symm]
def wM{c:Type}{l:List c}{i:Nat}{x:c}(h:l[i]?=O x):l.take (i+1)=l.take i++[x]:=by
 rw[w9,h]; rfl
def Wm{n:Nat}(h:n<=1000):n<=sizeLine:=BM (zM h)
def SqT.same{K:c5}{H c:Hp}(h:SqT K H a xs)(e:Same H c):SqT K c a xs:=by
 rcases h with h | h
 ·rcases h with h | ⟨o,h⟩
  ·rwa[.inl (.inl (e _ _ h))]
  ·rwa[.inl (.inr ⟨o,e _ _ h⟩)]
 ·rwa[.inr h]
def bF(t:TT):Prop:=∀(c:St)(H:Hp)(Q d:Bool->Hp->Prop),(∀ b e,Q b e->d b e)->t c H Q->t c H d
def jv(t:TE):Prop:=∀(c:St)(H:Hp)(Q d:VK),(∀ b e,Q b e->d b e)->t c H Q->t c H d
def Wv(t:TA):Prop:=∀(c:St)(H:Hp)(Q d:List V->Hp->Prop),(∀ b e,Q b e->d b e)->t c H Q->t c H d
def Rb(r:R2):Prop:=∀(x y:V)(H:Hp)(Q c:VK),(∀ b d,Q b d->c b d)->r x y H Q->r x y H c
def QE(r:List V->Hp->VK->Prop):Prop:=∀(xs:List V)(H:Hp)(Q c:VK),(∀ b d,Q b d->c b d)->r xs H Q->r xs H c
def vg{i:Nat} : jv (Uv i):=λ_ _ _ _ c ⟨v,e,z⟩=>⟨v,e,c _ _ z⟩
def mo_c : jv (tC v):=λ_ _ _ _ c z=>c _ _ z
def Vo{e d:TE}(f:Rb r)(i:jv e)(h:jv d):jv (tOp r e d):=λc _ _ _ g z=>i c _ _ _ (λ_ _ z=>h c _ _ _ (λ_ _ z=>f _ _ _ _ _ g z) z) z
def UT{g:Int->Int->V} : Rb (rI0 g):=λ_ _ _ _ _ c ⟨i,j,e,d,z⟩=>⟨i,j,e,d,c _ _ z⟩
def PP{K:c5} : Rb (Od K):=λ_ _ _ _ _ e ⟨p,xs,i,v,a,b,c,d,z⟩=>⟨p,xs,i,v,a,b,c,d,e _ _ z⟩
def gK{t:TE}(h:jv t):bF (Ub t):=λc _ _ _ d z=>h c _ _ _ (λ_ _ ⟨k,e,z⟩=>⟨k,e,d _ _ z⟩) z
def mo_b{t:TE}(h:jv t):bF (tB t):=λc _ _ _ d z=>h c _ _ _ (λ_ _ ⟨k,e,z⟩=>⟨k,e,d _ _ z⟩) z
def PR(h:bF t):bF (tNot t):=λc _ _ _ d z=>h c _ _ _ (λ_ _ z=>d _ _ z) z
def Tc(h:bF t)(e:bF u):bF (tAnd t u):=λc _ _ _ d z=>h c _ _ _ (λb _ z=>by
 cases b with
 | true=>rwa[e c _ _ _ d z]
 | false=>rwa[d _ _ z]) z
def aa:Wv Pn:=λ_ _ _ _ c z=>c _ _ z
def mE{d:TE}(h:jv d)(g:Wv e):Wv (Sm d e):=λc _ _ _ f z=>h c _ _ _ (λ_ _ z=>g c _ _ _ (λ_ _ z=>f _ _ z) z) z
def SJ{r:List V->Hp->VK->Prop}(d:QE r)(h:Wv t):jv (tCB r t):=λc _ _ _ e z=>h c _ _ _ (λ_ _ z=>d _ _ _ _ e z) z
def WZ{K:c5} : QE (λxs H Q=>E2 λp c=>A3 (xs=[.ref p]) (SqL K H p c\/SqT K H p c) (Q (.int c.length) H)):=λ_ _ _ _ d ⟨p,c,e,s,z⟩=>⟨p,c,e,s,d _ _ z⟩
def kD(ns:List Int)(lo hi:Option Int):xf 'p' lo hi=((ns.drop (HT.sIx ns.length 0 lo)).take (HT.sIx ns.length ns.length hi-HT.sIx ns.length 0 lo)).map V.int:=by
 unfold xf;rw[b9,DA,Eg]
def ifTF{b:Bool}{A B:Prop}(h1:b=J3->A)(h2:b=J7->B):if b=J3 then A else B:=by
 cases b with
 | true=>rwa[h1 rfl]
 | false=>rwa[h2 rfl]
end L2

namespace L2
def Pd{xs c:List Int}(l:yY (xs.map V.int) e)(g:yY (c.map V.int) d):∀ j (h1:j<e.toArray.size) (h2:j<d.toArray.size),
  Ec A s e.toArray[j] d.toArray[j] (decide (xs[j]?=c[j]?)):=λj h1 h2=>by
 have q:=l.length;have p:=g.length;rw[b9] at q p;have B:j<e.length:=by simpa using h1
 have y:j<d.length:=by simpa using h2
 have n:j<xs.length:=by lia
 have m:j<c.length:=by lia
 obtain⟨u,v,t,ru⟩:=l.get (i:=j) (x:=.int xs[j]) (by rw[e7,c6 n]; rfl);obtain⟨w,r,o,f⟩:=g.get (i:=j) (x:=.int c[j]) (by rw[e7,c6 m]; rfl);have E:e.toArray[j]=.int xs[j] t:=by
  have z:=c6 B;rw[v] at z;rw[Gv,<- t6 z,ru]
 have D:d.toArray[j]=.int c[j] o:=by
  have z:=c6 y;rw[r] at z;rw[Gv,<- t6 z,f]
 rw[E,D];have C:decide (xs[j]?=c[j]?)=(xs[j] == c[j]):=by
  rw[c6 n,c6 m];by_cases h:xs[j]=c[j]
  ·rw[h]; simp
  ·rw[y8 (λz=>h (t6 z))];exact(x4.mpr h).symm
 rw[C];rwa[DF _ _ _ _]
def RZ{xs c:List Int} : ((Ad (min xs.length c.length)).all (λj=>decide (xs[j]?=c[j]?))&&xs.length == c.length)=decide (xs=c):=by
 by_cases h:xs=c
 ·subst h;rw[y7 rfl,AA];rwa[Aw.mpr λj _=>y7 rfl,by simp]
 ·rw[y8 h,Bool.and_eq_false_iff];by_cases d:xs.length=c.length
  ·left;rw[Fm];intro z;apply h;rw[Aw] at z;erw[DW λj=>?_];by_cases e:j<xs.length
   ·rwa[of_decide_eq_true (z j (Bt.mpr (by lia)))]
   ·rw[AY (by lia),AY (by lia)]
  ·right;rwa[x4.mpr d]
section
variable{X:Cx}
def rEqT(K:c5)(neg:Bool):R2:=λx y H Q=>E4 λ(a b:c7) (xs c:List Int)=>A5 (x=.ref a) (y=.ref b) (SqT K H a (xs.map V.int)) (SqT K H b (c.map V.int)) (Q (.bl (if neg then !decide (xs=c) else decide (xs=c))) H)
def Vi(p:X.A.units<cLine):OpR X (compareOp .Eq) (rEqT X.K J7):=by
 intro w s r H x y v u Q I o n h;obtain⟨a,b,xs,c,rfl,rfl,h1,h2,q⟩:=h;cases o;cases n;obtain⟨m,f,p1,_⟩:=I.tuple h1;obtain⟨l,d,p2,_⟩:=I.tuple h2;refine SeqAt.eq_tupleAt (e:=λj=>decide (xs[j]?=c[j]?)) (show s.heap.IsTuple a m.toArray from p1) (show s.heap.IsTuple b l.toArray from p2) p (Pd f d) ?_;have i:=f.length;have g:=d.length;rw[b9] at i g;rw[i7,i7,<- i,<- g,RZ];rwa[.bl (decide (xs=c)),H,I,rfl,q]
end
def xQ{rows:List Int}{P:Int->Prop}(bd:∀ x∈rows,P x){k:Int}(e:0<=k)(d:k<rows.length):∃ v:Int,atI 'u' k=O (.int v)/\P v:=by
 have c:k.toNat<rows.length:=by lia
 erw[rows[k.toNat],?_,bd _ (r6 c)];have q:atI 'u' ((k.toNat:Nat):Int)=O (.int rows[k.toNat]):=vX (by rw[e7,c6 c] <;> rfl);rw[show((k.toNat:Nat):Int)=k from by lia] at q;rwa[q]
def YQ.of{i j:Int}(hi:i.natAbs<=10^100)(c:j.natAbs<=10^100):YQ i j :=
 ⟨Am hi 'm',Am c 'm'⟩
def RA{n:Nat}(h:n<=10^40):n<=10^100:=i4 h 'm'
end L2

namespace L2
section
variable{X:Cx}{T:List j9}{caps:List (j9×Nat)}{scope:DK}{elt target iter:Ar}{ifs:List Ar}{pos cpos:D5}{wi:TI}{g:CC->TG}{tt:CC->TT}{te:CC->TE}
def UL(S:rH X caps scope)(hc:X.calm=J3)(hi:PI X target iter wi)(hg:∀ c,PG (cxComp X (T++caps.map (·.1)) scope c) target (g c))(ht:∀ c,Qw (cxComp X (T++caps.map (·.1)) scope c) ifs (tt c))(he:∀ c,PE (cxComp X (T++caps.map (·.1)) scope c) elt (te c))
  {use:Option (c8->EF Unit)} {Qv:c8->d7->Prop}   {σ:St} {H:Hp} {Q:VK} (I:Inv X J8 σ H s) (h:Rg T.length caps wi g tt te σ H Q)
  (hfin:∀(D C:c7)(Z:d7)(Y:Hp),Inv X J8 σ Y Z->Q (.ref D) Y->∀ m,Z.heap.Ns C m->Y C=J2->C≠X.env.locals->X.s₀.heap.objs.size<=C->(∀ x c,X.env.cells.lookup x=O c->c≠C)->(∀ p∈X.pn++J8,p.1≠C)->compPost 'b' X.A X.xe use Qv (.ref D) C (.ok .next) Z)
  (hs:∀ x,foldedSetIterable iter X.env x=pure x:=by intro _; rfl) :
  wpAny 'b' X.A (comprehension 'f' scope X.env cpos (newList []) J7 (eval iter X.env) use) Qv X.xe s:=by
 erw[Dz (use:=use) rfl hs (bu S.cells) S.kind S.loc (thn (hi J8 s σ H _ I h) λv s1 h1=>thn h1 λitv f h2=>?_)];obtain⟨it,fp,tn,J,H2,e,I2,TT,st2,f2,q2⟩:=h2;subst e;refine AI (Ek S.nocell (by intro y hy; simp at hy) (λh1 hn R=>?_) S.kind);dsimp only at hn R ⊢;generalize hg2:f.heap.push { cls:=.type "list",dict:=J2,data:=.seq ([]:List c8).toArray }=G at hn R ⊢;have hCv:G.objs.size=f.heap.objs.size+1:=by rw[<- hg2,CH]
 have hDC:G.objs.size≠f.heap.objs.size:=by rw[hCv]; rwa[FO _]
 have j:f.heap.objs.size<=G.objs.size:=by rw[hCv]; rwa[BO _]
 have old:∀ b o,f.heap.get? b=O o->h1.get? b=O o:=λb o e=>R.extBut b o (t8 (o3 (m7 e) j)) (e9 _ (hg2 ▸ e9 _ e));have hacc:∃ n,h1.get? f.heap.objs.size=O { cls:=.type "list",data:=.seq ([]:List c8).toArray n }:=⟨_,R.extBut _ _ (Bi hDC) (e9 _ (hg2 ▸ n9 _ rfl))⟩;have hfp:∀ b∈fp,b<f.heap.objs.size:=λb l=>by
  obtain⟨o,e,_⟩:=TT.obj _ _ st2 b l;rwa[m7 e]
 have cs:=rS (env:=X.env) scope.names [] S.cells (λ_ _ z=>by cases z);have I0:=pA (T:=T) (tk:=f.toks+([]:List (j9×c8)).length) S I2 f2 hfp (f7 _) j hDC old hacc hn;have st0:tn 0 h1:=TT.keep _ _ _ st2 λb _ o e=>old b o e;obtain⟨W,⟨m0,w0⟩,turn⟩:=q2 ⟨G.objs.size,f,H2,fp⟩ f.heap.objs.size (I2.hok.fresh (f7 _));have fr0:∀ b∈fp,upd H2 f.heap.objs.size 'C' b=none:=λb l=>by
  rw[zG (t8 (hfp b l))];exact(f2 b l).1
 have E:∀{L:Hp},(∀ b∈fp,L b=J2)->∀ b∈fp,bY (cxComp X (T++caps.map (·.1)) scope ⟨G.objs.size,f,H2,fp⟩) [] L b:=λ{L} hn' b l =>
  ⟨hn' b l,t8 (o3 (hfp b l) j),I0.ok.exfs b l,.inl l,λx c e=>(f2 b l).2.2.2.2.1 x c (cs x c e),λp hp=>y9 (show p∈([]:List (c7×Bk)) from hp) 'd'⟩
 have loop:codeAny 'b' X.A (.compLoop 'f' 0 (.ref it) (.ref f.heap.objs.size) 'k')
   (compPost 'b' X.A X.xe use Qv (.ref f.heap.objs.size) G.objs.size) { f with heap:=h1,toks:=f.toks+([]:List (j9×c8)).length }:=by
  erw[codeAny_loop rfl (λn s'=>∃ i B ys L,Inv (cxComp X (T++caps.map (·.1)) scope ⟨G.objs.size,f,H2,fp⟩) [] B L s'/\tn i s'.heap/\(∀ b∈fp,L b=J2)/\W i n B ys L) (λn s3 hI=>?_) m0 ⟨0,_,[],_,I0,st0,fr0,w0⟩];obtain⟨i,P,ys,Y,I3,st3,fr3,w3⟩:=hI;show wpAny _ X.A ((compTurn 'f' 0 (.ref it) (.ref f.heap.objs.size) 'k').onRaise (λx=>do noteFrame x 'k'; theTreesLotGoes x)) _ _ s3;erw[HY ?_];rw[compTurn_list];erw[c9 (Dw (c9 ?_))];obtain⟨hD3,turn3⟩:=turn i n P ys Y w3;rcases turn3 with ⟨stop,qn⟩ | ⟨go,N,hN,step⟩
  ·refine gN (TT.done (cxComp X (T++caps.map (·.1)) scope ⟨G.objs.size,f,H2,fp⟩) rfl rfl rfl hc i [] s3 P Y _ I3 (E fr3) st3 stop) λr Z ⟨hr,I4⟩=>?_;subst hr;refine i5 ?_;obtain⟨m4,hn4,_⟩:=I4.loc;have J4:Inv X J8 σ Y Z:=by
    erw[I2.call' (s':=Z) (ch:=fp) I4.os I4.base I4.hok I4.bare λb l=>?_];obtain⟨_,f1,_,f3,f4,f5⟩:=f2 b l;rwa[f3,f1,f4,f5]
   erw[hfin _ G.objs.size Z Y J4 qn m4 hn4 I4.free (DS (o3 I2.lt j)) (i4 I2.sz j) (λx c e z=>?_) (λp hp z=>?_)]
   ·obtain⟨v,qq⟩:=I2.cell x c e;rwa[y9 (o3 qq.lt (by rw[z]; exact j)) (Bg _)]
   ·rwa[y9 (o3 (m7 (I2.pin p hp).1) (by rw[z]; exact j)) (Bg _)]
  ·refine gN (TT.item (cxComp X (T++caps.map (·.1)) scope ⟨G.objs.size,f,H2,fp⟩) rfl rfl rfl hc i [] s3 P Y _ I3 (E fr3) st3 go) λr Z ⟨u,hr,h4⟩=>?_;subst hr;refine c9 (gN h4 λ_ s5 ⟨x,H5,I5,r5,y5,st5,fr5⟩=>?_);have I5':=I5.pinned (E fr5) (TT.obj _ _ st5);refine c9 (gN (hg _ _ s5 P H5 x u _ I5' r5 (step x H5 y5)) λ_ s6 ⟨M,H6,I6,q6⟩=>?_);have again:∀{s7:d7}{q:St}{zs:List V}{H7:Hp},Inv (cxComp X (T++caps.map (·.1)) scope ⟨G.objs.size,f,H2,fp⟩) ([]++kP fp s5.heap) q H7 s7->N q zs H7 ->
     ∃ m,m<n/\∃ i B ys L,Inv (cxComp X (T++caps.map (·.1)) scope ⟨G.objs.size,f,H2,fp⟩) [] B L s7/\tn i s7.heap/\(∀ b∈fp,L b=J2)/\W i m B ys L:=λ{s7 q zs H7} I7 n7=>by
    obtain⟨m',hm,w7⟩:=hN q zs H7 n7;erw[m',hm,i+1,q,zs,H7,I7.unpinned,TT.keep _ _ _ st5 λb l o e=>(I7.pin (b,o) (t5 _ (t5 _ (uW l e)))).1,λb l=>?_,w7];obtain⟨o,e,d⟩:=TT.obj _ _ st5 b l;exact(I7.pin (b,o) (t5 _ (t5 _ (uW l e)))).2.1
   erw[c9 (gN (ht _ _ s6 M H6 _ I6 q6) λok s7 ⟨H7,I7,q7⟩=>?_)];cases ok with
   | false=>rwa[i5 ⟨rfl,again I7 q7⟩]
   | true =>
    erw[c9 (c9 (gN (he _ _ s7 M H7 _ I7 q7) λy s8 ⟨yv,H8,I8,r8,hD8,hl8,q8⟩=>?_))];erw[c9 (gN (ql _ s8 M H8 (.ref f.heap.objs.size) [yv] (.ref f.heap.objs.size) [y] (λ_ H9=>N M (ys++[yv]) H9) I8 rfl (.cons r8 .nil) ⟨_,ys,yv,rfl,rfl,hD8,hl8,q8⟩) λ_ s9 ⟨_,H9,I9,_,q9⟩=>?_)];rwa[i5 (i5 ⟨rfl,again I9 q9⟩)]
 rwa[codeAny_compStart_list loop (TT.self _ 0 _ _ _ st0 loop)]
def ii{i:Nat}{p f:D5}(hN:X.N.Nodup)(hy:X.N[i]?=O y)(j:X.env.scope.names.lookup y=O .local)(S:rH X caps scope)(hc:X.calm=J3)(hi:PI X target iter wi)(hg:∀ c,PG (cxComp X (T++caps.map (·.1)) scope c) target (g c))(ht:∀ c,Qw (cxComp X (T++caps.map (·.1)) scope c) ifs (tt c))(he:∀ c,PE (cxComp X (T++caps.map (·.1)) scope c) elt (te c))
  (r:swapsWith 'f' (O (.Name y p)) f.line X.env=pure true:=by rfl) (hs:∀ x,foldedSetIterable iter X.env x=pure x:=by intro _; rfl) :
  PS X (.Assign [.Name y p] 'f' f) (Ol (Rg T.length caps wi g tt te) (Za i)):=by
 intro M s σ H D I h;rw[exec_Assign_Name_used _ _ _ _ r];refine c9 (Dw (c9 ?_));show wpAny _ X.A (do let _ <- comprehension 'f' scope X.env _ (newList []) J7 (eval iter X.env) (O (assign (.Name y p) X.env))) _ _ s;refine c9 (AW (UL (Qv:=λ_ J=>SP X M D .next J) S hc hi hg ht he I h (λD' C R H3 J4 Y Z u hC L hS d n=>?_) hs) (λ_ J hq=>i5 (i5 hq)) λ_ _ e=>e);show wpAny 'b' X.A (assign (.Name y p) X.env (.ref D')) (λ_ l=>∃ m,l.heap.Ns C m/\∀ G,BZ C l.heap G->SP X M D .next { l with heap:=G }) X.xe R;refine G8 (du J4 hN hy (.inl j) (v:=.ref D') rfl (λQ J5 B=>?_) (.inr j));obtain⟨a,P,ha⟩:=B;have E:C≠a:=by
  rcases ha with z | z
  ·rw[z]; rwa[L]
  ·rwa[λe=>d y a z e.symm]
 erw[Z,u.sameBut P E,λG q=>⟨_,H3,?_,Y⟩];rwa[J5.turned (t':=Q.toks) (λb o B e=>(q.2 b B).trans e) hC L (.inr hS) d n]
end
end L2

namespace L2
end L2

namespace L2
def mP:∀{c:List c7}{d:List c8},yY (c.map V.ref) d->d=c.map o9
 | [],_,r=>by cases r; rfl
 | a::c,_,r=>by
  cases r with
  | cons f e =>
   cases f;rw[mP e];rfl
section
variable{X:Cx}
def xi(n:Nat):(Ad n).all (λ_=>J3)=true:=Aw.mpr λ_ _=>rfl
end
def Same.putNew{H c:Hp}(s:Same H c)(h:H D=J2):Same H (upd c D o):=λb u q=>by
 rw[zG (zI q h)];rwa[s _ _ q]
abbrev Pr:=c7×Int×Int
abbrev sT(c:List Pr):List V:=(c.map (·.1)).map V.ref
def Qy(H:Hp)(M:Nat)(c:List Pr):Prop:=∀ t∈c,H t.1=O (.tup [.int t.2.1,.int t.2.2])/\t.2.1.natAbs<=M/\t.2.2.natAbs<=M
def Qy.same{H e:Hp}{M:Nat}(h:Qy H M c)(s:Same H e):Qy e M c:=λt d=>⟨s _ _ (h t d).1,(h t d).2⟩
def wQ(c:List Pr):(sT c).length=c.length:=by simp[sT]
def kJ{ps:List Pr}{i:Nat}{k:Int}(e:k=i)(h:i<ps.length):∃ t,t∈ps/\ps[i]?=O t/\atI (sT ps) k=O (.ref t.1):=by
 erw[ps[i],r6 h,c6 h,?_];rw[e];rwa[vX (by rw[e7,e7,c6 h] <;> rfl)]
def iu:∀{xs c:List Int},xs.map V.int=c.map V.int->xs=c
 | [],[],_=>rfl
 | [],_::_,h=>nomatch h
 | _::_,[],h=>nomatch h
 | x::xs,y::c,h=>by
  rw[j3,j3] at h;injection h with h1 h2
  rw[V.int.inj h1,iu h2]
end L2

namespace L2
def crs(p q r:Int×Int):Int:=(q.1-p.1)*(r.2-p.2)-(q.2-p.2)*(r.1-p.1)
def ptA(c:List (c7×Int×Int))(i:Nat):Int×Int:=((c[i]?).map (·.2)).getD (0,0)
def Xh{c:List (c7×Int×Int)}{i:Nat}(h:c[i]?=O t):ptA c i=t.2:=by
 unfold ptA;rw[h];rfl
def YY(c:List (c7×Int×Int))(i k:Nat):Bool:=decide (0<crs (ptA c i) (ptA c ((i+1)%c.length)) (ptA c k))
def rK(c:List (c7×Int×Int))(i:Nat):Bool:=(Ad (c.length-2)).all λj=>YY c i ((i+(2+j))%c.length)
def isB(c:List (c7×Int×Int)):Bool:=decide (3<=c.length)&&(decide (c.length<=8)&&(Ad c.length).all (rK c))
end L2

namespace PySem.W
open PySem PySem.Calls PyProof.Rows
section
variable{prog:o0}{w:t7}{A:Ak}{E:c8->d7->Prop}{s:d7}
def xh(h:Aa)(a:c7)(c:List c8):Aa:=((h.update a (AG λ_=>#[])).push (seqObj "tuple" c.toArray 0)).push (seqObj "list" #[] 0)
def bi{h:Aa}{a b:c7}(d:b≠a)(e:h.get? b=O o):(xh h a c).get? b=O o:=by
 unfold xh;erw[e9 _ (e9 _ ?_)];rw[GI _ _ _ _ d];rwa[e]
def va(h:Aa)(c:List c8):Aa:=((h.push (seqObj "list" #[] 0)).update h.objs.size (AG (· ++ c.toArray))).push (seqObj "list" c.toArray 0)
def bj{h:Aa}(e:h.get? b=O o):(va h d).get? b=O o:=by
 have c:b<h.objs.size:=m7 e;unfold va;erw[e9 _ ?_];rw[GI _ _ _ _ (t8 c),Heap.get?_push_ne _ _ _ (t8 c)];rwa[e]
end
end PySem.W

namespace L2
open PySem PySem.Spec PyProof.Rows PySem.W
def fP:∀ a:List Int,HT.lexLt a a=J7
 | []=>rfl
 | x::xs=>by rw[HT.lexLt_cons,y6 rfl]; rwa[fP xs]
def ag:∀ a b c:List Int,HT.lexLt a b=J3->HT.lexLt b c=J3->HT.lexLt a c=J3
 | [],[],_,h,_=>nomatch h
 | [],_::_,[],_,h=>nomatch h
 | [],_::_,_::_,_,_=>rfl
 | _::_,[],_,h,_=>nomatch h
 | _::_,_::_,[],_,h=>nomatch h
 | x::xs,y::g,z::f,h1,h2=>by
  rw[HT.lexLt_cons] at h1 h2 ⊢;by_cases e:x=y
  ·rw[y6 e] at h1;by_cases d:y=z
   ·rw[y6 d] at h2;rw[y6 (e.trans d)];rwa[ag xs g f h1 h2]
   ·rw[y4 d] at h2;rw[y4 (by lia),e];rwa[h2]
  ·rw[y4 e] at h1;have j:=of_decide_eq_true h1;by_cases d:y=z
   ·rw[y4 (by lia),<- d];rwa[h1]
   ·rw[y4 d] at h2;have i:=of_decide_eq_true h2;rw[y4 (by lia)];rwa[y7 (by lia)]
def af:∀ a b c:List Int,HT.lexLt a c=J3->HT.lexLt a b=J3\/HT.lexLt b c=J3
 | [],_,[],h=>nomatch h
 | [],[],_::_,_=>.inr rfl
 | [],_::_,_::_,_=>.inl rfl
 | _::_,_,[],h=>nomatch h
 | _::_,[],_::_,_=>.inr rfl
 | x::xs,y::i,z::f,h=>by
  rw[HT.lexLt_cons] at h ⊢;rw[HT.lexLt_cons];by_cases e:x=y
  ·by_cases d:y=z
   ·rw[y6 (e.trans d)] at h;rw[y6 e,y6 d];rwa[af xs i f h]
   ·rw[y4 (by lia)] at h;right;rw[y4 d,<- e];rwa[h]
  ·by_cases d:y=z
   ·rw[y4 (by lia)] at h;left;rw[y4 e,d];rwa[h]
   ·rw[y4 e,y4 d];by_cases g:x<y
    ·rwa[.inl (y7 g)]
    ·right;by_cases j:x=z
     ·rwa[y7 (by lia)]
     ·rw[y4 j] at h;have:=of_decide_eq_true h;rwa[y7 (by lia)]
def dR:∀ a b:List Int,HT.lexLt a b=J7->HT.lexLt b a=J7->a=b
 | [],[],_,_=>rfl
 | [],_::_,h,_=>nomatch h
 | _::_,[],_,h=>nomatch h
 | x::xs,y::c,h1,h2=>by
  rw[HT.lexLt_cons] at h1 h2;by_cases e:x=y
  ·rw[y6 e] at h1;rw[y6 e.symm] at h2;rw[e,dR xs c h1 h2]
  ·rw[y4 e] at h1;rw[y4 (λz=>e z.symm)] at h2;have f:=of_decide_eq_false h1;have d:=of_decide_eq_false h2;lia
def YH(h:Aa)(v:c8)(ns:List Int):Prop:=∃(a:c7)(o:Bk)(n:Nat)(c:List c8),v=.ref a/\h.get? a=O o/\o.cls=.type "tuple" /\ o.data=.seq c.toArray n/\yY 'p' c
def YH.keep{h d:Aa}(e:YH h v t)(k:∀ b o,h.get? b=O o->d.get? b=O o):YH d v t:=by
 obtain⟨a,o,n,c,i,g,f⟩:=e;rwa[a,o,n,c,i,k _ _ g,f]
def tu:∀ c:List c7,yY (c.map V.ref) (c.map o9)
 | []=>.nil
 | _::c=>.cons rfl (tu c)
section
variable{X:Cx}
def wv:bootBuiltins "sorted" = O (.builtin "sorted"):=by ac_nf
end
end L2

namespace Sea
def Rz{a b c p q r:Int}(f:0<p)(e:0<q)(d:0<r)(h1:a*q<=b*p)(h2:b*r<=c*q):a*r<=c*p:=by
 have l:=BJ h1 (As d);have j:=BJ h2 (As f);have i:a*q*r=a*r*q:=Be a q r;have h:b*p*r=b*r*p:=Be b p r;have g:c*q*p=c*p*q:=Be c q p;rwa[Int.le_of_mul_le_mul_right (by lia) e]
def TC{a b c p q r:Int}(f:0<p)(e:0<q)(d:0<r)(h1:a*q<b*p)(h2:b*r<=c*q):a*r<c*p:=by
 have l:=Ez h1 d;have j:=BJ h2 (As f);have i:a*q*r=a*r*q:=Be a q r;have h:b*p*r=b*r*p:=Be b p r;have g:c*q*p=c*p*q:=Be c q p;rwa[ER (by lia) (As e)]
def Pt{a b c p q r:Int}(f:0<p)(e:0<q)(d:0<r)(h1:a*q<=b*p)(h2:b*r<c*q):a*r<c*p:=by
 have l:=BJ h1 (As d);have j:=Ez h2 f;have i:a*q*r=a*r*q:=Be a q r;have h:b*p*r=b*r*p:=Be b p r;have g:c*q*p=c*p*q:=Be c q p;rwa[ER (by lia) (As e)]
def leS(s t:SpT):Prop:=ahB t s=J7
def Xn(s t:SpT):leS s t↔s.2.1*t.2.2.2<t.2.1*s.2.2.2\/(s.2.1*t.2.2.2=t.2.1*s.2.2.2/\s.2.2.1*t.2.2.2<=t.2.2.1*s.2.2.2):=by
 unfold leS ahB;by_cases h:t.2.1*s.2.2.2-s.2.1*t.2.2.2=0
 ·rw[y6 h,decide_eq_false_iff_not];lia
 ·rw[y4 h,decide_eq_false_iff_not];lia
def WV(h:ahB s t=J3):leS s t:=by
 rw[Xn];unfold ahB at h;by_cases e:s.2.1*t.2.2.2-t.2.1*s.2.2.2=0
 ·rw[y6 e] at h;have:=of_decide_eq_true h;lia
 ·rw[y4 e] at h;have:=of_decide_eq_true h;lia
def TH{s t u:SpT}(f:0<s.2.2.2)(e:0<t.2.2.2)(d:0<u.2.2.2)(h1:leS s t)(h2:leS t u):leS s u:=by
 rw[Xn] at h1 h2 ⊢;rcases h1 with h1 | ⟨h1,h⟩
 ·left;rcases h2 with h2 | ⟨h2,g⟩
  ·rwa[TC f e d h1 (As h2)]
  ·rwa[TC f e d h1 (Dl h2)]
 ·rcases h2 with h2 | ⟨h2,g⟩
  ·left;rwa[Pt f e d (Dl h1) h2]
  ·right;erw[Int.le_antisymm (Rz f e d (Dl h1) (Dl h2)) ?_,Rz f e d h g];have z:=Rz (a:=u.2.1) (b:=t.2.1) (c:=s.2.1) d e f (Dl h2.symm) (Dl h1.symm);rwa[z]
def SM(xs:List SpT):Prop:=∀ t∈xs,0<t.2.2.2
def mQ{p:SpT->Bool} : ∀{xs:List SpT}{x:SpT},x∈xs.takeWhile p->p x=J3/\x∈xs
 | [],_,h=>nomatch h
 | y::d,x,h=>by
  by_cases c:p y=J3
  ·rw[ES c] at h;rcases l9.mp h with rfl | h
   ·rwa[c,x9 ..]
   ·rwa[(mQ h).1,x8 _ (mQ h).2]
  ·rw[ET c] at h;exact nomatch h
def jT{p:SpT->Bool} : ∀{xs:List SpT},xs.dropWhile p=[]\/∃ y c,xs.dropWhile p=y::c/\p y=J7
 | []=>.inl rfl
 | y::c=>by
  by_cases d:p y=J3
  ·rw[EU d];rwa[jT]
  ·rw[EV d];exact .inr ⟨y,c,rfl,by simpa using d⟩
def lI:∀(j xs:List SpT),SM xs->SM j->xs.Pairwise leS->j.Pairwise leS->(xJ xs j).Pairwise leS
 | [],xs,_,_,f,_=>by rw[xJ]; rwa[f]
 | o::r,xs,v,u,f,H=>by
  rw[xJ];have A:0<o.2.2.2:=u o (x9 ..);have w:SM r:=λt q=>u t (x8 _ q);obtain⟨s,I⟩:=By.mp H;have m:(xs.dropWhile λx=>!ahB o x).Sublist xs:=List.dropWhile_sublist _;have st:(xs.takeWhile λx=>!ahB o x).Sublist xs:=List.takeWhile_sublist _;have g:SM (xs.dropWhile λx=>!ahB o x):=λt q=>v t (m.subset q);have G:=lI r (xs.dropWhile λx=>!ahB o x) g w (f.sublist m) I;have E:∀ y∈xs.dropWhile (λx=>!ahB o x),leS o y:=λy c=>by
   rcases jT (p:=λx=>!ahB o x) (xs:=xs) with e | ⟨z,zs,e,hz⟩
   ·rw[e] at c;exact nomatch c
   ·have d:ahB o z=true:=by simpa using hz
    have pw:=f.sublist m;rw[e] at c pw;rcases l9.mp c with rfl | h
    ·rwa[WV d]
    ·have C:0<z.2.2.2:=g z (by rw[e]; rwa[x9 ..]);have l:0<y.2.2.2:=g y (by rw[e]; rwa[x8 _ h]);rwa[TH A C l (WV d) ((By.mp pw).1 y h)]
  have B:∀ y∈xJ (xs.dropWhile λx=>!ahB o x) r,leS o y:=λy n=>by
   rcases j5.mp ((zl r _).mem_iff.mp n) with h | h
   ·rwa[E y h]
   ·rwa[s y h]
  rw[Gw];refine⟨f.sublist st,By.mpr ⟨B,G⟩,λa J b i=>?_⟩;obtain⟨pa,ma⟩:=mQ J;have la:leS a o:=by
   show ahB o a=J7;simpa using pa
  rcases l9.mp i with rfl | i
  ·rwa[la]
  ·have D:0<b.2.2.2:=by
    rcases j5.mp ((zl r _).mem_iff.mp i) with h | h
    ·rwa[g b h]
    ·rwa[w b h]
   rwa[TH (v a ma) A D la (B b i)]
def ow:∀(n:Nat)(xs:List SpT),xs.length<=2^n->SM xs->(vt n xs).Pairwise leS
 | 0,xs,h,_=>by
  rw[vt]
  match xs,h with
  | [],_=>rwa[.nil]
  | [x],_=>rwa[CK ..]
  | _::_::_,h=>rw[g8,g8] at h; lia
 | n+1,xs,h,w=>by
  rw[vt];split
  ·rename_i h2
   match xs,h2 with
   | [],_=>rwa[.nil]
   | [x],_=>rwa[CK ..]
   | _::_::_,h=>rw[g8,g8] at h; lia
  ·have e:2^(n+1)=2^n*2:=Hh 2 n;have w1:SM (xs.take (xs.length/2)):=λt c=>w t (BP c);have d:SM (xs.drop (xs.length/2)):=λt c=>w t (AM c);erw[lI _ _ (λt c=>w1 t ((vV n _).mem_iff.mp c)) (λt c=>d t ((vV n _).mem_iff.mp c)) (ow n _ (by rw[m8]; lia) w1) (ow n _ (by rw[Ai]; lia) d)]
def XZ:∀{xs c:List (List Int)},xs.Perm c->xs.Pairwise (λa b=>HT.lexLt b a=J7)->c.Pairwise (λa b=>HT.lexLt b a=J7)->xs=c
 | [],c,h,_,_=>(Ji.mp h).symm
 | x::xs,[],h,_,_=>y9 (Jj.mp h) 'd'
 | x::xs,y::c,h,n,m=>by
  obtain⟨l,j⟩:=By.mp n;obtain⟨i,g⟩:=By.mp m;have e:x=y:=by
   have f:x∈y::c:=h.mem_iff.mp (x9 ..);have d:y∈x::xs:=h.mem_iff.mpr (x9 ..);rcases l9.mp f with e | f
   ·rwa[e]
   ·rcases l9.mp d with e | d
    ·rwa[e.symm]
    ·rwa[dR _ _ (i x f) (l y d)]
  subst e;rw[XZ (IA x |>.mp h) j g]
end Sea

namespace L2
section
variable{κ:Type}[DecidableEq κ]
def vR(c:List (κ×V))(k:κ):Option V:=(c.find? λkv=>decide (kv.1=k)).map (·.2)
def zz(c:List (κ×V))(k:κ)(v:V):List (κ×V) :=
 if (c.any λkv=>decide (kv.1=k))=J3 then c.map (λkv=>if kv.1=k then(kv.1,v) else kv) else c++[(k,v)]
def gF(c:List (κ×V))(k:κ):List (κ×V):=c.filter λkv=>decide (kv.1≠k)

def uE{p:κ×V}{r:List (κ×V)}{k:κ}(e:p.1=k):vR (p::r) k=O p.2:=by simp[vR,AN,e]
def wU{p:κ×V}{r:List (κ×V)}{k:κ}(e:¬ p.1=k):vR (p::r) k=vR r k:=by simp[vR,AN,e]
def nJ(k:κ):∀ c:List (κ×V),(c.any λkv=>decide (kv.1=k))=(vR c k).isSome
 | []=>rfl
 | p::r=>by
  rw[Bu];by_cases e:p.1=k
  ·simp only[uE e,y7 e,Bool.true_or,Option.isSome_some]
  ·rw[wU e,y8 e,Bool.false_or]; rwa[nJ k r]
def aR(k j:κ)(y:V):∀ c:List (κ×V),vR (c.map λkv=>if kv.1=k then(kv.1,y) else kv) j=(vR c j).map λx=>if j=k then y else x
 | []=>rfl
 | p::r=>by
  have d:=aR k j y r;rw[j3];by_cases h:p.1=k
  ·rw[y6 h];by_cases e:p.1=j
   ·rw[uE (p:=(p.1,y)) e,uE e,AB,y6 (e.symm.trans h)]
   ·rw[wU (p:=(p.1,y)) e,wU e,d]
  ·rw[y4 h];by_cases e:p.1=j
   ·rw[uE (p:=p) e,uE e,AB,y4 (λz=>h (e.trans z))]
   ·rw[wU (p:=p) e,wU e,d]
def fF(k j:κ)(y:V):∀ c:List (κ×V),vR c k=J2->vR (c++[(k,y)]) j=if j=k then O y else vR c j
 | [],_=>by
  by_cases e:k=j
  ·rw[y6 e.symm]; rwa[uE (p:=(k,y)) e]
  ·rw[y4 (λz=>e z.symm)]; rwa[wU (p:=(k,y)) e]
 | p::r,d=>by
  rw[FP];have f:¬ p.1=k:=λz=>by rw[uE z] at d; cases d
  rw[wU f] at d;have g:=fF k j y r d;by_cases e:p.1=j
  ·rw[uE e,uE e,y4 (λz=>f (e.trans z))]
  ·rw[wU e,wU e,g]
def wm(c:List (κ×V))(k j:κ)(y:V):vR (zz c k y) j=if j=k then O y else vR c j:=by
 unfold zz;by_cases a:(c.any λkv=>decide (kv.1=k))=J3
 ·rw[y6 a,aR];rw[nJ] at a;by_cases e:j=k
  ·obtain⟨x,d⟩:=j7.mp a;rw[y6 e,e,d,AB,y6 rfl]
  ·rw[y4 e];cases vR c j with
   | none=>rfl
   | some x=>rw[AB,y4 e]
 ·rw[y4 a];erw[fF k j y c ?_];rw[nJ] at a;cases q:vR c k with
  | none=>rfl
  | some x=>rw[q] at a; exact(a rfl).elim
def zg(c:List (κ×V))(k:κ)(v:V):(zz c k v).length<=c.length+1:=by
 unfold zz;split
 ·rw[b9]; lia
 ·rw[f9,g8,Ax]; lia
def gO.isSome_eq(r:gO o u):o.isSome=u.isSome:=by
 cases o with
 | none=>cases u with
  | none=>rfl
  | some _=>exact(show False from r).elim
 | some _=>cases u with
  | none=>exact(show False from r).elim
  | some _=>rfl
def KV.val(r:KV c vs)(k:κ):gO (vR c k) (valueAt vs k):=by
 unfold KV at r
 induction r with
 | nil=>rwa[z8]
 | @cons p q i d h t g =>
  obtain⟨h1,h2⟩:=h;by_cases e:p.1=k
  ·have f:q.1=k:=h1.symm.trans e;have b:valueAt (q::d) k=O q.2:=by simp[valueAt,AN,f]
   rw[uE e,b]; rwa[h2]
  ·have f:¬ q.1=k:=λz=>e (h1.trans z);have b:valueAt (q::d) k=valueAt d k:=by simp[valueAt,AN,f]
   rw[wU e,b]; rwa[g]
def KV.any(r:KV c vs)(k:κ):(c.any λkv=>decide (kv.1=k))=vs.any λkv=>decide (kv.1=k):=by
 unfold KV at r
 induction r with
 | nil=>rfl
 | cons h t d=>rw[Bu,Bu,d,h.1]
def KV.repl(r:KV c vs)(k:κ)(d:xV y u) :
  KV (c.map λkv=>if kv.1=k then(kv.1,y) else kv) (vs.map λkv=>if kv.1=k then(kv.1,u) else kv):=by
 unfold KV at r ⊢
 induction r with
 | nil=>rwa[.nil]
 | @cons p q i g h t f =>
  rw[j3,j3];erw[.cons ?_ f];obtain⟨h1,h2⟩:=h;by_cases e:p.1=k
  ·rw[y6 e,y6 (h1.symm.trans e)]; rwa[h1,d]
  ·rw[y4 e,y4 (λz=>e (h1.trans z))]; rwa[h1,h2]
def KV.put(r:KV c vs)(k:κ)(d:xV y u):KV (zz c k y) (stored vs k u):=by
 unfold zz stored;rw[r.any k];by_cases e:(vs.any λkv=>decide (kv.1=k))=J3
 ·rw[y6 e,y6 e]; rwa[r.repl k d]
 ·rw[y4 e,y4 e]; rwa[JK r ⟨rfl,d⟩]
def KV.drop(r:KV c vs)(k:κ):KV (gF c k) (without vs k):=by
 unfold KV at r ⊢;unfold gF without
 induction r with
 | nil=>rwa[.nil]
 | @cons p q i g h t d =>
  obtain⟨h1,h2⟩:=h;rw[Bj,Bj];by_cases e:p.1=k
  ·have a:¬ decide (p.1≠k)=true:=by simp[e]
   have b:¬ decide (q.1≠k)=true:=by simp[h1.symm.trans e]
   rw[y4 a,y4 b]; rwa[d]
  ·have f:¬ q.1=k:=λz=>e (h1.trans z);have a:decide (p.1≠k)=true:=by simp[e]
   have b:decide (q.1≠k)=true:=by simp[f]
   rw[y6 a,y6 b]; rwa[.cons ⟨h1,h2⟩ d]
def KV.length(r:KV c vs):c.length=vs.length:=Fy r
def aN(c:List (κ×V))(k:κ):(gF c k).length<=c.length:=Bs _ _
end


def iR(r:xV (kV k) u):(yQ P w).is k u=true:=by
 cases k with
 | inl i=>obtain⟨t,e⟩:=(show ∃ t,u=Dj i t from r); subst e; rwa[cM P w i t]
 | inr x=>obtain⟨t,e⟩:=(show ∃ t,u=CG x t from r); subst e; rwa[uw P w x t]
def dA : ∀{c:List Key}{d:List c8},yY (c.map kV) d->ItemsAre (yQ P w) c d
 | [],_,r=>by rw[DV] at r; cases r; rwa[.nil]
 | k::c,_,r=>by
  rw[j3] at r;cases r with
  | cons h t=>rwa[.cons (iR h) (dA t)]

abbrev KT(H:Hp):List (List Key×V)->List (List Key×c7×c8)->Prop:=Hw λp q=>p.1=q.1/\H q.2.1=O (.tup (p.1.map kV))/\xV p.2 q.2.2
def KT.val{H:Hp}(r:KT H c xs)(k:List Key):gO (vR c k) ((atKey xs k).map (·.2)):=by
 induction r with
 | nil=>rwa[z8]
 | @cons p q i d h t g =>
  obtain⟨h1,_,h2⟩:=h;by_cases e:p.1=k
  ·have f:q.1=k:=h1.symm.trans e;have b:atKey (q::d) k=O q.2:=by simp[atKey,AN,f]
   rw[uE e,b]; rwa[h2]
  ·have f:¬ q.1=k:=λz=>e (h1.trans z);have b:atKey (q::d) k=atKey d k:=by simp[atKey,AN,f]
   rw[wU e,b]; rwa[g]
def KT.repl{H:Hp}(r:KT H c xs)(k:List Key)(d:xV y u) :
  KT H (c.map λkv=>if kv.1=k then(kv.1,y) else kv) (xs.map (putAt k u)):=by
 induction r with
 | nil=>rwa[.nil]
 | @cons p q i g h t f =>
  rw[j3,j3];erw[.cons ?_ f];obtain⟨h1,h2,h3⟩:=h;unfold putAt;by_cases e:p.1=k
  ·rw[y6 e,y6 (h1.symm.trans e)]; rwa[h1,h2,d]
  ·rw[y4 e,y4 (λz=>e (h1.trans z))]; rwa[h1,h2,h3]
def KT.put{H:Hp}(r:KT H c xs)(k:List Key)(f:H b=O (.tup (k.map kV)))(d:xV y u) :
  KT H (zz c k y) (storedH xs k b u):=by
 have e:(c.any λkv=>decide (kv.1=k))=(atKey xs k).isSome:=by
  rw[nJ,(r.val k).isSome_eq,Ct]
 unfold zz storedH;rw[e];by_cases q:(atKey xs k).isSome=J3
 ·rw[y6 q,y6 q]; rwa[r.repl k d]
 ·rw[y4 q,y4 q]; rwa[JK r ⟨rfl,f,d⟩]
def KT.keeps{H e:Hp}(r:KT H c xs)(f:∀ b d,H b=O (.tup d)->e b=O (.tup d)):KT e c xs :=
 Paired.mapP r λ_ _ z=>⟨z.1,f _ _ z.2.1,z.2.2⟩

section
variable{P:o0}{w:t7}{H:Hp}{h:Aa}{a:c7}
def PZ(ok:HOk P w H h)(e:Rd H a u):wD P w H h a u:=e.ok ok
def gf(ok:HOk P w H h)(e:Rd H a (.dK c)):c.length<=sizeLine/\(a == sysModules)=J7/\∃ d,KV c d/\h.DictOf (yQ P w) a d :=
 show wD P w H h a (.dK c) from PZ ok e
def Uy(ok:HOk P w H h)(e:H a=O (.dK c)):c.length<=sizeLine/\(a == sysModules)=J7/\∃ d,KV c d/\h.DictOf (yQ P w) a d:=gf ok (.inl e)
def eZ{c:List Key}(ok:HOk P w H h)(e:H a=O (.tup (c.map kV))):(tupleKind (yQ P w)).is h c a:=by
 obtain⟨_,d,r,o,h1,h2,n,h3⟩:=(show wD P w H h a (.tup (c.map kV)) from ok a _ e);exact⟨o,d.toArray,n,h1,h2,h3,by simpa using dA r⟩
def Yi(ok:HOk P w H h)(e:Rd H a (.dT c)):c.length<=sizeLine/\(a == sysModules)=J7 /\
  ∃ xs,KT H c xs/\h.DictOfH (tupleKind (yQ P w)) a xs:=by
 obtain⟨z,y,xs,r,o,i,j,h1,h2,h3,h4,h5⟩:=(show wD P w H h a (.dT c) from PZ ok e);refine⟨z,y,xs,r,o,i,j,h1,h2,h3,h4,λx d=>?_,h5⟩;have all:∀{l:List (List Key×V)}{m:List (List Key×c7×c8)},KT H l m->∀ x∈m,(tupleKind (yQ P w)).is h x.1 x.2.1:=by
  intro l m q
  induction q with
  | nil=>intro x d; exact nomatch d
  | @cons p q s n f t g =>
   intro x d;rcases l9.mp d with e | d
   ·subst e;rwa[eZ ok (by rw[<- f.1]; exact f.2.1)]
   ·rwa[g x d]
 rwa[all r x d]
def RX(ok:HOk P w H h)(e:H a=O (.dT c)):c.length<=sizeLine/\(a == sysModules)=J7 /\
  ∃ xs,KT H c xs/\h.DictOfH (tupleKind (yQ P w)) a xs:=Yi ok (.inl e)
end

def YZ(H:Hp)(a:c7)(y:V)(r:Option V):Prop :=
 (∃ c k,Rd H a (.dK c)/\y=kV k/\r=vR c k)\/∃ c k b,Rd H a (.dT c)/\y=.ref b/\H b=O (.tup (k.map kV))/\r=vR c k
def cC(H:Hp)(a:c7)(y v:V)(d:Hp):Prop :=
 (∃ c k,H a=O (.dK c)/\y=kV k/\c.length<sizeLine/\d=upd H a (.dK (zz c k v))) \/
 ∃ c k b,H a=O (.dT c)/\y=.ref b/\H b=O (.tup (k.map kV))/\c.length<sizeLine/\d=upd H a (.dT (zz c k v))
def YZ.t{H:Hp}{k:List Key}(e:H a=O (.dT c))(d:H b=O (.tup (k.map kV))):YZ H a (.ref b) (vR c k):=.inr ⟨c,k,b,.inl e,rfl,d,rfl⟩
def cC.k{H:Hp}{k:Key}(e:H a=O (.dK c))(d:c.length<sizeLine):cC H a (kV k) v (upd H a (.dK (zz c k v))):=.inl ⟨c,k,e,rfl,d,rfl⟩
def cC.t{H:Hp}{k:List Key}(e:H a=O (.dT c))(f:H b=O (.tup (k.map kV)))(d:c.length<sizeLine) :
  cC H a (.ref b) v (upd H a (.dT (zz c k v))):=.inr ⟨c,k,b,e,rfl,f,d,rfl⟩


section
variable{X:Cx}{J8:List (c7×Bk)}{σ:St}{H:Hp}{s:d7}{a:c7}{y v:V}{u r:c8}{o:Option V}{A:Ak}{E:c8->d7->Prop}

def Inv.big(I:Inv X J8 σ H s):sysModules<s.heap.objs.size:=by
 have h:mainGlobals<s.heap.objs.size:=(I.mod.glob.keeps I.bk).lt;rwa[Cs 'a' h]

def Vj{Q:c8->d7->Prop}(B:A.units+1<cLine)(I:Inv X J8 σ H s)(g:YZ H a y (O v))(q:xV y u)(h:∀ d n,Inv X J8 σ H n->xV v d->Q d n) :
  wpAny 'b' A (getItem (.ref a) u) Q E s:=by
 rcases g with ⟨f,k,e,ey,l⟩ | ⟨f,k,b,e,ey,D,l⟩
 ·subst ey;obtain⟨z,hd,x,rel,m⟩:=gf I.hok e;obtain⟨d,i,c⟩:=gO.some_of (v:=v) (o:=valueAt x k) (by rw[l]; rwa[rel.val k]);rwa[HI (iR q) m.mapOf i (h d _ (I.tok _) c)]
 ·subst ey;cases (show u=o9 b from q);obtain⟨z,hd,xs,rel,m⟩:=Yi I.hok e;obtain⟨d,i,c⟩:=gO.some_of (v:=v) (o:=(atKey xs k).map (·.2)) (by rw[l]; rwa[rel.val k]);obtain⟨p,C,j⟩:=o6.mp i;erw[wpAny_getItem_heap (tupleKind_room_in1 B) (eZ I.hok D) m C ?_];rw[j];rwa[h d _ (I.tok _) c]
def d_in{Q:c8->d7->Prop}(j:A.units+1<cLine)(I:Inv X J8 σ H s)(g:YZ H a y o)(i:xV y u)(h:∀ f,Inv X J8 σ H f->Q (.bool o.isSome) f) :
  wpAny 'b' A (compareOp .In u (.ref a)) Q E s:=by
 rcases g with ⟨c,k,e,ey,l⟩ | ⟨c,k,b,e,ey,m,l⟩
 ·subst ey;obtain⟨z,hd,n,rel,d⟩:=gf I.hok e;erw[wpAny_in_of (iR i) hd d.mapOf ?_];rw[<- (rel.val k).isSome_eq,<- l];rwa[h _ (I.tok _)]
 ·subst ey;cases (show u=o9 b from i);obtain⟨z,hd,xs,rel,d⟩:=Yi I.hok e;erw[wpAny_in_heap (tupleKind_room_in1 j) (eZ I.hok m) hd d ?_];have q:=(rel.val k).isSome_eq;rw[Ct] at q;rw[<- q,<- l];rwa[h _ (I.tok _)]
def SU{Q:c8->d7->Prop}(j:A.units+1<cLine)(I:Inv X J8 σ H s)(g:YZ H a y o)(i:xV y u)(h:∀ f,Inv X J8 σ H f->Q (.bool (!o.isSome)) f) :
  wpAny 'b' A (compareOp .NotIn u (.ref a)) Q E s:=by
 rcases g with ⟨c,k,e,ey,l⟩ | ⟨c,k,b,e,ey,m,l⟩
 ·subst ey;obtain⟨z,hd,n,rel,d⟩:=gf I.hok e;erw[wpAny_notIn_of (iR i) hd d.mapOf ?_];rw[<- (rel.val k).isSome_eq,<- l];rwa[h _ (I.tok _)]
 ·subst ey;cases (show u=o9 b from i);obtain⟨z,hd,xs,rel,d⟩:=Yi I.hok e;erw[wpAny_notIn_heap (tupleKind_room_in1 j) (eZ I.hok m) hd d ?_];have q:=(rel.val k).isSome_eq;rw[Ct] at q;rw[<- q,<- l];rwa[h _ (I.tok _)]
def mH{d:Nat}(I:Inv X J8 σ H s)(f:Mut (H a))(g:BZ a s.heap c)(h:∃ q,c.get? a=O q)(new:wD X.prog X.w (upd H a ob) c a ob) :
  Inv X J8 σ (upd H a ob) { s with heap:=c,toks:=d } :=
 I.write (x:=a) (e:=a) f (.inl rfl) (λb q i z=>(g.2 b i).trans z) h new
def dN{g:Hp}{e:Aa}{c:List (Key×V)}(z:c.length<=sizeLine)(hd:(a == sysModules)=J7)(rel:KV c d)(f:e.DictOf (yQ P w) a d) :
  wD P w g e a (.dK c):=⟨z,hd,d,rel,f⟩
def XT{M:Hp}{Q:Unit->d7->Prop}(P:A.units+1<cLine)(I:Inv X J8 σ H s)(g:cC H a y v M)(C:xV y u)(D:xV v r)(h:∀ B,Inv X J8 σ M B->Q () B) :
  wpAny 'b' A (setItem (.ref a) u r) Q E s:=by
 rcases g with ⟨d,k,e,ey,l,p⟩ | ⟨d,k,b,e,ey,L,l,p⟩
 ·subst ey p;obtain⟨z,hd,N,rel,x⟩:=Uy I.hok e;have j:N.length<=sizeLine:=by rw[<- rel.length]; rwa[z]
  have n:(zz d k v).length<=sizeLine:=by have:=zg d k v; lia
  erw[wpAny_setItem_pairs (hsz:=j) (iR C) x λG f m=>h _ ?_];have R:∃ q,G.get? a=O q:=let ⟨q,_,_,i,_⟩:=f;⟨q,i⟩;rwa[mH I (by rw[e]; exact z8) m R (dN n hd (rel.put k D) f)]
 ·subst ey p;cases (show u=o9 b from C);obtain⟨z,hd,xs,rel,x⟩:=RX I.hok e;have j:xs.length<=sizeLine:=by rw[<- Fy rel]; rwa[z]
  have n:(zz d k v).length<=sizeLine:=by have:=zg d k v; lia
  erw[wpAny_setItem_heap (hsz:=j) (tupleKind_room_in1 P) (eZ I.hok L) x λG f m=>h _ ?_];obtain⟨q,S,T,i,h2,h3,h4,_,h5⟩:=f;erw[mH I (by rw[e]; rwa[z8]) m ⟨q,i⟩ ⟨n,hd,_,(rel.put k L D).keeps λc Y J=>?_,q,S,T,i,h2,h3,h4,h5⟩];rw[zG (vq J e 'n')];rwa[J]
end

section
variable{X:Cx}{J8:List (c7×Bk)}{σ:St}{H:Hp}{s:d7}{a:c7}{kvs:List (Key×V)}{k:Key}{u:c8}{A:Ak}{E:c8->d7->Prop}
def Qi{Q:Unit->d7->Prop}(I:Inv X J8 σ H s)(e:H a=O (.dK kvs))(i:xV (kV k) u)(l:(vR kvs k).isSome=J3)(h:∀ f,Inv X J8 σ (upd H a (.dK (gF kvs k))) f->Q () f) :
  wpAny 'b' A (delItem (.ref a) u) Q E s:=by
 obtain⟨z,hd,g,rel,d⟩:=Uy I.hok e;refine wpAny_delItem_slot d.typeIs 'a' Fe
  (call_meetsIn Fe d.typeIs PySem.F.entry_dict_delitem (PySem.F.args_dict_delitem_2 _ _) (meets_dict_delitem_pairs (yQ X.prog X.w) a (iR i)) ⟨g,d,by rw[<- rel.length]; exact z,by rw[<- (rel.val k).isSome_eq]; exact l,λn c j=>h _ ?_⟩)
 have m:∃ q,n.get? a=O q:=let ⟨q,_,_,hq,_⟩:=c;⟨q,hq⟩;rwa[mH I (by rw[e]; exact z8) j m (dN (i4 (aN kvs k) z) hd (rel.drop k) c)]
def d_pop{more:List c8}{Q:c8->d7->Prop}(I:Inv X J8 σ H s)(e:H a=O (.dK kvs))(f:xV (kV k) u)(l:vR kvs k=O v)(n:more=[]\/∃ x,more=[x])
  (h:∀ c m,Inv X J8 σ (upd H a (.dK (gF kvs k))) m->xV v c->Q c m):wpAny 'b' A (call (.builtin "dict.pop") (.ref a::u::more)) Q E s:=by
 obtain⟨z,hd,j,rel,p⟩:=Uy I.hok e;obtain⟨c,r,g⟩:=gO.some_of (v:=v) (o:=valueAt j k) (by rw[<- l]; exact rel.val k);have B:(keyPart u).isSome=true:=by
  cases k with
  | inl i=>obtain⟨t,q⟩:=(show ∃ t,u=Dj i t from f); subst q; rfl
  | inr x=>obtain⟨t,q⟩:=(show ∃ t,u=CG x t from f); subst q; rfl
 have D:argsOk "dict.pop" ⟨.ref a::u::more,[]⟩:=by
  rcases n with q | ⟨x,q⟩
  ·subst q; rwa[PySem.F.args_dict_pop_2 _ _]
  ·subst q; rwa[PySem.F.args_dict_pop_3 _ _ _]
 refine call_meetsIn Gm p.typeIs PySem.F.entry_dict_pop D (meets_dict_pop_there (yQ X.prog X.w) a (iR f) more n B)
  ⟨j,c,p,by rw[<- rel.length]; exact z,r,λG d y=>h c _ ?_ g⟩
 have C:∃ q,G.get? a=O q:=let ⟨q,_,_,hq,_⟩:=d;⟨q,hq⟩;rwa[mH I (by rw[e]; exact z8) y C (dN (i4 (aN kvs k) z) hd (rel.drop k) d)]
def d_len{Q:c8->d7->Prop}(I:Inv X J8 σ H s)(e:Rd H a (.dK kvs))(h:∀ t c,Inv X J8 σ H c->Q (.int kvs.length t) c):wpAny 'b' A (call (.builtin "len") [.ref a]) Q E s:=by
 obtain⟨z,hd,f,rel,d⟩:=gf I.hok e;refine call_len_dict hd d (by rw[<- rel.length]; rw[sizeLine_eq] at z; lia) ?_;rw[<- rel.length];rwa[h _ _ (I.tok _)]
end


def Oo(i:Ar):Prop:=∀ c d,subscripted i J7 c d=operate [c,d] (getItem c d)
def bx{E:c8->d7->Prop}{T id:String}{Q:c8->d7->Prop}
  (p:typeLookup (.type T) "__getitem__" = pure (O (.builtin id))) (n:Oo slice)
  (h:wpAny 'c' A (eval value env) (λo f=>wpAny 'c' A (eval slice env) (λi c=>c.TypeIs o T/\wpAny 'c' A (getItem o i) Q E c) E f) E s) :
  wpAny 'c' A (eval (.Subscript value slice pos) env) Q E s:=by
 refine Iw (AW h (λo f l=>AW l (λi c d=>?_) λ_ _ x=>x) λ_ _ x=>x);obtain⟨m,d⟩:=d;unfold subscriptTail;refine c9 ?_;rw[getitemInPython_of_ne m.not_modules];refine c9 (wpAny_specialOf m p ?_);have g:wpAny 'c' A (subscripted slice J7 o i) (λr e=>wpAny 'c' A (letTemporaryGo value o r >>= λ_=>pure r) Q E e) E c:=by
  rw[n o i];rwa[wpAny_operating (AW d (λr e j=>c9 (wpAny_letTemporaryGo (i5 j))) λ_ _ x=>x)]
 first
  | exact i5 (c9 g)
  | exact c9 (i5 (c9 g))
  | exact c9 g

def bq{f:St}{H:Hp}(I:Inv X h f H s)(g:YZ H a y o):s.TypeIs (.ref a) "dict" := by
 rcases g with ⟨c,k,e,_,_⟩ | ⟨c,k,b,e,_,_,_⟩
 ·obtain⟨_,_,i,_,d⟩:=gf I.hok e;rwa[d.typeIs]
 ·obtain⟨_,_,xs,_,d⟩:=Yi I.hok e;rwa[d.typeIs]
def tDGet(e ty:TE):TE:=λc H Q=>e c H λx f=>ty c f λy d=>E2 λa v=>A3 (x=.ref a) (YZ d a y (O v)) (Q v d)
def tDIn(ty e:TE):TE:=λc H Q=>ty c H λy f=>e c f λx d=>E2 λa o=>A3 (x=.ref a) (YZ d a y o) (Q (.bl o.isSome) d)
def SH(ty e:TE):TE:=λc H Q=>ty c H λy f=>e c f λx d=>E2 λa o=>A3 (x=.ref a) (YZ d a y o) (Q (.bl (!o.isSome)) d)
def sDPut(f ty e:TE):TS:=λD c H=>e c H λv i=>f c i λx h=>ty c h λy g=>E2 λa d=>A3 (x=.ref a) (cC g a y v d) (D.nx c d)
section
variable{X:Cx}{o i e value:Ar}{pos pos' tpos:D5}{td ty tv:TE}
def zU(r:X.A.units+1<cLine)(z:PE X o td)(hi:PE X i ty)(w:Oo i):PE X (.Subscript o i pos) (tDGet td ty):=by
 intro f s d H Q I h;erw[bx Do.lookup w (thn (z f s d H _ I h) λu l ⟨x,E,C,n,q⟩=>thn (hi f l d E _ C q) λM L ⟨y,D,j,m,a,v,ex,g,p⟩=>?_)];subst ex;obtain rfl:u=o9 a:=n;rwa[bq j g,Vj r j g m λG J B c=>⟨v,D,B,c,p⟩]
def Qb(q:X.A.units+1<cLine)(hi:PE X i ty)(r:PE X o td):PC X .In i o (tDIn ty td):=by
 intro d s c H Q I h;erw[thn (hi d s c H _ I h) λG f ⟨y,C,z,j,n⟩=>thn (r d f c C _ z n) λu E ⟨x,B,w,l,a,p,ex,g,m⟩=>?_];subst ex;obtain rfl:u=o9 a:=l;rwa[d_in q w g j λD v=>⟨.bl p.isSome,B,v,rfl,m⟩]
def qz(q:X.A.units+1<cLine)(hi:PE X i ty)(r:PE X o td):PC X .NotIn i o (SH ty td):=by
 intro d s c H Q I h;erw[thn (hi d s c H _ I h) λG f ⟨y,C,z,j,n⟩=>thn (r d f c C _ z n) λu E ⟨x,B,w,l,a,p,ex,g,m⟩=>?_];subst ex;obtain rfl:u=o9 a:=l;rwa[SU q w g j λD v=>⟨.bl (!p.isSome),B,v,rfl,m⟩]
def qY(B:X.A.units+1<cLine)(E:PE X o td)(hi:PE X i ty)(z:PE X value tv)(C:swapsWith value (O (.Subscript o i pos')) pos.line X.env=pure J7) :
  PS X (.Assign [.Subscript o i pos'] value pos) (sDPut td ty tv):=by
 intro d s c H D I h;erw[wpAny_Assign_Subscript (thn (z d s c H _ I h) λr j ⟨v,Q,M,n,w⟩=>thn (E d j c Q _ M w) λu f ⟨x,P,L,m,q⟩=>thn (hi d f c P _ L q) λT S ⟨y,Y,J,l,a,N,ex,g,p⟩=>?_) C];subst ex;obtain rfl:u=o9 a:=m;rwa[XT B J g l n λR G=>⟨c,N,G,p⟩]
end


def az{H:Hp}(h:Aa)(c:sysModules<h.objs.size):wD P w H (h.push { cls:=.type "dict",data:=.dict #[] }) h.objs.size (.dK []) :=
 ⟨x6 _,x4.mpr (Bi (t8 c)),[],.nil,Heap.DictOf.new h⟩
def VJ{H:Hp}(h:Aa)(c:sysModules<h.objs.size):wD P w H (h.push { cls:=.type "dict",data:=.dict #[] }) h.objs.size (.dT []) :=
 ⟨x6 _,x4.mpr (Bi (t8 c)),[],.nil,_,#[],0,n9 _ rfl,⟨rfl,rfl,rfl⟩,rfl,rfl,EW⟩
def QA:TE:=λ_ H Q=>∀ p,H p=J2->Q (.ref p) (upd H p (.dK []))
def QR:TE:=λ_ H Q=>∀ p,H p=J2->Q (.ref p) (upd H p (.dT []))
section
variable{X:Cx}{pos:D5}
def tS:PE X (.Dict [] [] pos) QA:=λd s c H Q I h =>
 HJ ⟨.ref s.heap.objs.size,_,I.laid (a:=s.heap.objs.size) (o:=.dK []) (t':=s.toks) (λ_ _ q=>e9 _ q) (f7 _) (az s.heap I.big),rfl,h _ (I.hok.fresh (f7 _))⟩
def gr:PE X (.Dict [] [] pos) QR:=λd s c H Q I h =>
 HJ ⟨.ref s.heap.objs.size,_,I.laid (a:=s.heap.objs.size) (o:=.dT []) (t':=s.toks) (λ_ _ q=>e9 _ q) (f7 _) (VJ s.heap I.big),rfl,h _ (I.hok.fresh (f7 _))⟩
end

def Vt:List (TE×TE)->St->Hp->(List (V×V)->Hp->Prop)->Prop
 | [],_,H,Q=>Q [] H
 | (e,d)::r,c,H,Q=>e c H λx i=>d c i λy h=>Vt r c h λf g=>Q ((x,y)::f) g
abbrev VV:List (V×V)->List (c8×c8)->Prop:=Hw λp q=>xV p.1 q.1/\xV p.2 q.2
def PPs(X:Cx)(pos:D5)(keys:List (Option Ar))(c:List Ar)(e:List (TE×TE)):Prop :=
 ∀(g:List (c7×Bk))(s:d7)(d:St)(H:Hp)(Q:List (V×V)->Hp->Prop),Inv X g d H s->Vt e d H Q ->
  wpAny 'b' X.A (evalPairs (pairTrees keys c X.env pos)) (λi j=>∃ f h,Inv X g d h j/\VV f i/\Q f h) X.xe s
def XH : PPs X pos [] [] []:=λd s c H Q I h=>pairTrees_nil_walk ⟨[],H,I,.nil,h⟩
def tG{i g:TE}(B:PE X k i)(z:PE X v g)(A:PPs X pos j f c) :
  PPs X pos (O k::j) (v::f) ((i,g)::c):=λe s d H Q I h =>
 pairTrees_cons_walk (thn (B e s d H _ I h) λu m ⟨x,L,E,o,r⟩=>thn (z e m d L _ E r) λN l ⟨y,J,D,n,q⟩ =>
  thn (A e l d J _ D q) λM P ⟨w,G,C,rel,p⟩=>⟨(x,y)::w,G,C,.cons ⟨o,n⟩ rel,p⟩)

def lB(c more:List (Key×V)):List (Key×V):=more.foldl (λd kv=>zz d kv.1 kv.2) c
def KV.merge:∀{more:List (Key×V)}{d:List (Key×c8)}{c:List (Key×V)}{vs:List (Key×c8)},KV more d->KV c vs->KV (lB c more) (merged vs d):=by
 intro more d c vs r;unfold KV at r
 induction r generalizing c vs with
 | nil=>intro q; rwa[q]
 | @cons p q j i h t g =>
  intro f;have e:KV (zz c p.1 p.2) (stored vs q.1 q.2):=by
   have:=f.put p.1 h.2;rw[<- h.1]; rwa[this]
  rwa[g e]
def ua:∀(more c:List (Key×V)),(lB c more).length<=c.length+more.length
 | [],c=>by show c.length<=c.length+0; lia
 | p::r,c=>by
  have h1:=ua r (zz c p.1 p.2);have h2:=zg c p.1 p.2;show(lB (zz c p.1 p.2) r).length<=_;rw[g8]; lia
def jG : ∀{d:List (Key×V)}{f:List (c8×c8)},VV (d.map λkv=>(kV kv.1,kv.2)) f->∃ e,Carries (yQ P w) f e/\KV d e
 | [],_,r=>by rw[DV] at r; cases r; rwa[[],z8,.nil]
 | p::d,_,r=>by
  rw[j3] at r;cases r with
  | @cons a b as bs h t =>
   obtain⟨e,c,q⟩:=jG (P:=P) (w:=w) t;obtain⟨i,g⟩:=b;rwa[(p.1,g)::e,⟨iR h.1,rfl,c⟩,.cons ⟨rfl,h.2⟩ q]
def tDisp(d:List (TE×TE)):TE:=λf H Q=>∀ p,H p=J2->Vt d f (upd H p (.dK [])) λg e=>e p=O (.dK [])/\∃ c:List (Key×V),A3 (g=c.map (λkv=>(kV kv.1,kv.2))) (c.length<=15) (Q (.ref p) (upd e p (.dK (lB [] c))))
def WR(h:PPs X pos keys d f)(i:keys.all (·.isSome)=J3)(C:keys.length=d.length)(h0:keys≠[])
  (l:keys.length<=15):PE X (.Dict keys d pos) (tDisp f):=by
 intro J s p H Q I q;have B:=I.hok.fresh (f7 s.heap.objs.size);have L:=I.laid (a:=s.heap.objs.size) (o:=.dK []) (h':=s.heap.push { cls:=.type "dict",data:=.dict #[] }) (t':=s.toks) (λ_ _ q=>e9 _ q) (f7 _) (az s.heap I.big);refine wpAny_Dict_walk (knd:=yQ X.prog X.w) i C h0 l (thn (h J _ p _ _ L (q _ B)) λM N ⟨R,S,n,rel,e,g,E,lk,x⟩=>?_);subst E;obtain⟨u,c,rk⟩:=jG (P:=X.prog) (w:=X.w) rel;obtain⟨z,hd,r,v,G⟩:=Uy n.hok e;cases v;refine⟨u,c,G,λm j A=>⟨.ref s.heap.objs.size,_,?_,U,x⟩⟩;have y:(lB [] g).length<=sizeLine:=by
  have h1:=ua g [];rw[Ax] at h1;rw[sizeLine_eq]; lia
 have D:∃ q,m.get? s.heap.objs.size=O q:=let ⟨q,_,_,hq,_⟩:=j;⟨q,hq⟩;rwa[mH n (by rw[e]; exact z8) A D (dN y hd (rk.merge .nil) j)]



end L2

namespace L2
def YF(h:Aa)(a:c7)(rows:Array BR)(c:Nat):Prop:=∃ ob,h.get? a=O ob/\ob.ExactDict/\ob.data=.dict rows c
def YF.at{h d:Aa}{c:Nat}(x:YF h a rows c)(e:∀ ob,h.get? a=O ob->d.get? a=O ob):YF d a rows c:=let ⟨ob,g,r⟩:=x;⟨ob,e _ g,r⟩
def YF.typeIs{z:d7}{d:Nat}(x:YF z.heap a rows d):z.TypeIs (.ref a) "dict" := let ⟨ob,g,c,_⟩:=x;⟨ob,g,c.1⟩
section
variable{prog:o0}{w:t7}{A:Ak}{E:c8->d7->Prop}{z:d7}{it a:c7}{rows:Array BR}{age k:Nat}
def aB{R:c8->d7->Prop}(d:(a == sysModules)=J7)(x:YF z.heap a rows age)(e:R (.ref z.heap.objs.size) { z with heap:=z.heap.push { cls:=.type "dict_keyiterator",data:=.fields #[.ref a,.int 0 0,.int rows.size 0,.int age 0] } }) :
  wpAny 'c' A (pyIter (.ref a)) R E z:=by
 have ty:=x.typeIs;obtain⟨ob,g,_,c⟩:=x;erw[wpAny_pyIter_slot ty HK (CJ HK ty F.entry_dict_iter ?walk (F.args_dict_iter_1 _))]
 case walk =>
  unfold Fh.«dict.__iter__» IR;refine c9 (c9 (wpAny_notOrdered_dict ty (show wpAny _ _ (pure (o9 a)) _ _ z from i5 ?_)));show wpAny _ _ (Gn a >>= _) _ _ z;unfold Gn;rw[y4 (by rw[d]; decide)];erw[c9 (i5 (c9 (Fo g c (c9 (Ge g c ?_)))))];erw[c9 (AI (i5 ⟨_,rfl, "dict_keyiterator",_,⟨_,n9 _ rfl,rfl⟩,Bw.lookup,?_⟩))];simpa [rawInt] using e
def aL{R:Option c8->d7->Prop}(i:z.heap.IsKeyIter it a k rows.size age)(x:YF z.heap a rows age)(j:k<rows.size)
  (l:∀ h,h.IsKeyIter it a (k+1) rows.size age->BZ it z.heap h->R (O rows[k].key) { z with heap:=h }):wpAny 'c' A (pyNext (.ref it)) R E z:=by
 have ty:=i.typeIs;obtain⟨n,f,m,d⟩:=id i;obtain⟨ob,g,_,e⟩:=x;unfold pyNext;erw[c9 (FC (DM (name:=Dk "__next__") ty Bw (CJ Bw ty El ?walk (Ed _))))]
 case walk =>
  erw[c9 (i5 (c9 (c9 ?_)))]
  first | refine c9 (BQ ty (i5 (c9 (EX f d ?_)))) | refine c9 (Cy ty (i5 (c9 (EX f d ?_))))
  simp only[show Ep "dict_keyiterator" = J7 by decide,BL,if_false];show wpAny _ _ (if (o9 a == Bo)=J3 then _ else _) _ _ z;rw[y4 (show ¬ ((o9 a == Bo)=J3) from o4)];erw[c9 (i5 (c9 (Fo g e ?_)))];rw[y4 'd'];erw[c9 (i5 (c9 (Ge g e ?_)))];rw[y4 'd'];erw[i5 ?_];simp only[show ¬ ((k:Int)<0) from by lia,if_false,Br,Ah j];erw[c9 ?_]
  first | refine c9 (BQ ty (i5 (c9 (D7 ty ?_)))) | refine c9 (Cy ty (i5 (c9 (D7 ty ?_))))
  show wpAny _ _ (setField (.ref it) 1 (rawInt ((k:Int)+1)) >>= _) _ _ z;refine c9 (DY f d 'd' ?_);have c:(z.heap.update it (Cd (·.setIfInBounds 1 (rawInt ((k:Int)+1))))).IsKeyIter it a (k+1) rows.size age :=
   ⟨_,C3 _ f (D8 (CU d _)),(Hi ..).trans m,by rw[CU d]; simp[rawInt]⟩
  refine c9 (Cc (c9 (D7 (s:={ z with heap:=z.heap.update it (Cd (·.setIfInBounds 1 (rawInt ((k:Int)+1)))) }) c.typeIs ?_)));show wpAny _ _ (pure rows[k].key) _ _ _;rwa[i5 (i5 ⟨_,rfl,i5 (l _ c (GJ ..))⟩)]
def Vq{R:Option c8->d7->Prop}(j:A.handled=J2)(f:z.heap.IsKeyIter it a k rows.size age)(x:YF z.heap a rows age)(i:rows.size<=k)
  (l:∀ h,Heap.ExtBut it z.heap h->R J2 { z with heap:=h }):wpAny 'c' A (pyNext (.ref it)) R E z:=by
 have ty:=f.typeIs;obtain⟨n,d,o,e⟩:=id f;obtain⟨ob,g,_,c⟩:=x;unfold pyNext;erw[c9 (FC (DM (name:=Dk "__next__") ty Bw (CJ Bw ty El ?walk (Ed _))))]
 case walk =>
  erw[c9 (i5 (c9 (c9 ?_)))]
  first | refine c9 (BQ ty (i5 (c9 (EX d e ?_)))) | refine c9 (Cy ty (i5 (c9 (EX d e ?_))))
  simp only[show Ep "dict_keyiterator" = J7 by decide,BL,if_false];show wpAny _ _ (if (o9 a == Bo)=J3 then _ else _) _ _ z;rw[y4 (show ¬ ((o9 a == Bo)=J3) from o4)];erw[c9 (i5 (c9 (Fo g c ?_)))];rw[y4 'd'];erw[c9 (i5 (c9 (Ge g c ?_)))];rw[y4 'd'];erw[i5 ?_];simp only[show ¬ ((k:Int)<0) from by lia,if_false,Br,F5 i];erw[c9 ?_]
  first | refine c9 (BQ ty (i5 ?_)) | refine c9 (Cy ty (i5 ?_))
  show wpAny _ _ (setField (.ref it) 0 .none >>= _) _ _ z;refine c9 (DY d e 'd' (show wpAny _ _ (newExc (.type "StopIteration") [] >>= _) _ _ _ from c9 ?_));simp only[newExc,newTuple];refine c9 (AI (c9 (m:=firstArgMember _ _) (wpAny_of_eq (a:=Bo) (by first | rfl | (simp only[firstArgMember]; rfl)) (AI ?_ (by size_fits)))) (by size_fits));simp only[raiseNew];erw[c9 (wpAny_handled ?_)];rw[show A.in1.handled=J2 from j];erw[c9 (i5 (wpAny_throw ?_))];erw[c9 (wpAny_isInstance (T := "StopIteration") (b:=J3) ⟨_,n9 _ rfl,rfl⟩ isSubtype_stop ?_)];rwa[i5 (l _ (((GJ ..).extBut.push _).push _))]
def Wg(p:A.handled=J2)(j:a≠it):Walks prog w A it [it,a] [it] rows.size (λi v=>∃ h:i<rows.size,v=rows[i].key) (λi h=>h.IsKeyIter it a i rows.size age/\YF h a rows age) where
 sub:=λb c=>by simp at c; simp[c]
 frame:=λ_ _ _ st n=>⟨st.1.at λo e=>n it 'd' o e,st.2.at λo e=>n a 'd' o e⟩
 item:=λi s Q E hi st f=>aL st.1 st.2 hi λm g d =>
  f _ m s.toks ⟨hi,rfl⟩ ⟨g,st.2.at λo e=>d.extBut a o j e⟩ λb o c e=>d.extBut b o (λh=>c (by simp[h])) e
 done:=λs Q E st f=>Vq p st.1 st.2 (f7 _) λm l=>f m s.toks λb o c e=>l b o (λh=>c (by simp[h])) e
 self:=λ_ _ _ _ st f=>Em st.1 f
def Xe(d:(a == sysModules)=J7):PySem.W.KdlSrc prog w "dict" a a rows.size (λi v=>∃ h:i<rows.size,v=rows[i].key) (λh=>YF h a rows age) where
 type:=λ_ x=>x.typeIs
 there:=λ_ x=>let ⟨_,g,_⟩:=x;⟨m7 g,m7 g⟩
 keep:=λ_ _ x f=>x.at λo e=>f a (.inl rfl) o e
 notList:=by decide
 notTuple:=by decide
 hint:=λ_ _ _ _ x c=>PySem.W.kdl_hint_dict x.typeIs c
 iter:=λ_ s j x=>⟨_,_,(λ_ _ c=>aB d x c),Wg j (let ⟨_,g,_⟩:=x; t8 (m7 g)),⟨⟨_,n9 _ rfl,rfl,rfl⟩,x.at λo e=>e9 _ e⟩⟩
end
section
variable{X:Cx}
def og(hc:X.calm=J3):tD X (.type "list") (λxs H Q=>E2 λ(d:c7) (i:List (List Key×V))=>A3 (xs=[.ref d]) (H d=O (.dT i)) (∀(p:c7)(E:List (c7×List Key)),H p=J2->E.map (·.2)=i.map (·.1)->(∀ t∈E,H t.1=O (.tup (t.2.map kV)))->Q (.ref p) (upd H p (.lst ((E.map (·.1)).map V.ref))))):=by
 intro J8 s σ H xs us Q I r h;obtain⟨d,i,rfl,hd,q⟩:=h;obtain⟨u,rfl,ru⟩:=yY.one r;cases ru;obtain⟨G,J,n,rel,ob,P,D,g,ex,R,z,x⟩:=RX I.hok hd;have m:P.size=n.length:=size_of_entries z;have l:i.length=n.length:=Fy rel;refine HM (Xe (rows:=P) (age:=D) J) (show X.A.handled=J2 from I.ok.hd hc) ⟨ob,g,ex,R⟩ (by rw[m,<- l]; exact G) λh' tk B c keep at' v=>?_;have C:B.toList=((n.map λy=>(y.2.1,y.1)).map (·.1)).map o9:=by
  erw[DW λj=>?_];by_cases N:j<n.length
  ·have T:j<B.size:=by rw[v.1,m]; rwa[N]
   obtain⟨M,e⟩:=v.2 j B[j] (by simp[T]);have Z:=entry_at z j;rw[Ah M,c6 N,AB] at Z;have ev:P[j].key=o9 n[j].2.1:=by rw[t6 Z]; rfl
   rw[BI,Ah T,e,ev,e7,e7,e7,c6 N];rfl
  ·rw[AY (by rw[o7,v.1,m]; lia),AY (by simp; lia)]
 have f:(n.map λy=>(y.2.1,y.1)).map (·.2)=i.map (·.1)/\∀ t∈n.map (λy=>(y.2.1,y.1)),H t.1=O (.tup (t.2.map kV)):=by
  clear z m l q C hd G x
  induction rel with
  | nil=>exact⟨rfl,λt ht=>nomatch ht⟩
  | @cons p y ps zs L t Y =>
   erw[by rw[j3,j3,j3,Y.1,L.1],λS w=>?_];rcases l9.mp w with e | w
   ·subst e;show H y.2.1=O (.tup (y.1.map kV));rw[<- L.1];rwa[L.2.1]
   ·rwa[Y.2 S w]
 have fr:H s.heap.objs.size=none:=I.hok.fresh (f7 _);erw[.ref s.heap.objs.size,_,I.laid (t':=tk) (a:=s.heap.objs.size) (o:=.lst (((n.map λy=>(y.2.1,y.1)).map (·.1)).map V.ref)) keep (f7 _) ?_,rfl,q _ _ fr f.1 f.2];exists by rw[b9,b9,b9,<- l]; exact G,_,c,tu _;rw[<- C,En];rwa[at']
end
end L2

namespace Sea
abbrev Sd:=c7×Int×Int×Int
abbrev yM(c:List Sd):List V:=(c.map (·.1)).map V.ref
def bE(H:Hp)(c:List Sd):Prop:=∀ t∈c,H t.1=O (.tup [.int t.2.1,.int t.2.2.1,.int t.2.2.2])/\(t.2.1≠0\/t.2.2.1≠0)/\t.2.1.natAbs<=10^9/\t.2.2.1.natAbs<=10^9/\t.2.2.2.natAbs<=10^13
def bE.same{H e:Hp}(h:bE H c)(s:Same H e):bE e c:=λt d=>⟨s _ _ (h t d).1,(h t d).2⟩
def yA(c:List Sd):(yM c).length=c.length:=by simp[yM]
def pE{i:Nat}(h:(yM c)[i]?=O v):∃ t,c[i]?=O t/\v=.ref t.1/\i<c.length:=by
 rw[e7,e7] at h;cases e:c[i]? with
 | none=>rw[e] at h; cases h
 | some t=>rw[e] at h; rwa[t,rfl,(t6 h).symm,(e8.mp e).1]
def lJ{ss:List Sd}{i:Nat}{k:Int}(e:k=i)(h:i<ss.length):∃ t,t∈ss/\ss[i]?=O t/\atI (yM ss) k=O (.ref t.1):=by
 erw[ss[i],r6 h,c6 h,?_];rw[e];rwa[vX (by rw[e7,e7,c6 h] <;> rfl)]
def So(c:List Sd)(x y:Int):Bool:=c.all λt=>decide (t.2.1*x+t.2.2.1*y<=0)
def WK(c:List Sd)(n:Nat)(k:List Int):Prop:=∃ j t,j<n/\c[j]?=O t/\((k=wc [-t.2.2.1,t.2.1]/\So c (-t.2.2.1) t.2.1=J3)\/(k=wc [t.2.2.1,-t.2.1]/\So c t.2.2.1 (-t.2.1)=J3))
def UF{x y g:Int}(d:0<g):So ss (x*g) (y*g)=So ss x y:=by
 unfold So
 congr 1
 funext t
 erw[decide_eq_decide.mpr ?_];have e:t.2.1*(x*g)+t.2.2.1*(y*g)=(t.2.1*x+t.2.2.1*y)*g:=by rw[DN,AE,AE]
 rw[e];constructor
 ·intro h;by_cases c:t.2.1*x+t.2.2.1*y<=0
  ·rwa[c]
  ·have:=DP (show 0<t.2.1*x+t.2.2.1*y by lia) d;lia
 ·intro h;have:=BC (show 0<=-(t.2.1*x+t.2.2.1*y) by lia) (As d);rw[Dh] at this;lia
def way_low{x y:Int}(g:0<xY [x,y]):So c (x/(xY [x,y]:Int)) (y/(xY [x,y]:Int))=So c x y:=by
 have d:(0:Int)<(xY [x,y]:Int):=by lia
 have f:=uG (ns:=[x,y]) (n:=x) 'd';have e:=uG (ns:=[x,y]) (n:=y) 'd';have z:=UF (ss:=c) (x:=x/(xY [x,y]:Int)) (y:=y/(xY [x,y]:Int)) d;rw[f,e] at z;rwa[z.symm]
def pi(ns:List Int):List Key:=ns.map Cp
def ur(ns:List Int):(pi ns).map kV=ns.map V.int:=by
 unfold pi;rw[x5];rfl
def gH(h:pi a=pi b):a=b:=by
 have z:=congrArg (List.map kV) h;rw[ur,ur] at z;rwa[iu z]
structure cD(kvs:List (List Key×V))(ks:List (List Int)):Prop where
 keys:kvs.map (·.1)=ks.map pi
 nodup:ks.Nodup
def cD.nil:cD [] []:=⟨rfl,EW⟩
def cD.put(h:cD d g)(k:List Int)(v:V):∃ i,cD (zz d (pi k) v) i/\(∀ x,x∈i↔x∈g\/x=k)/\i.length<=g.length+1:=by
 have o:∀ kv∈d,∃ x∈g,kv.1=pi x:=λkv f=>by
  have z:kv.1∈g.map pi:=by rw[<- h.keys]; rwa[Az f]
  obtain⟨x,j,e⟩:=i9.mp z;rwa[x,j,e.symm]
 unfold zz;by_cases c:(d.any λkv=>decide (kv.1=pi k))=J3
 ·rw[y6 c];obtain⟨kv,f,e⟩:=Bz.mp c;obtain⟨x,j,ex⟩:=o kv f;have l:x=k:=gH (ex.symm.trans (of_decide_eq_true e));erw[g,⟨?_,h.nodup⟩,λy=>⟨.inl,λz=>z.elim id λz=>by rw[z,<- l]; rwa[j]⟩,BO _];rw[x5,<- h.keys];erw[AV λa _=>?_];show(if a.1=pi k then(a.1,v) else a).1=a.1;split <;> rfl
 ·rw[y4 c];have n:k ∉ g:=λp=>c (by
   have z:pi k∈d.map (·.1):=by rw[h.keys]; rwa[Az p]
   obtain⟨kv,f,e⟩:=i9.mp z;rwa[Bz.mpr ⟨kv,f,y7 e⟩])
  erw[g++[k],⟨by rw[f8,f8,h.keys]; rfl,?_⟩,λy=>by rw[j5,g6],by rw[f9]; rwa[f7 _]];rw[Fp];erw[h.nodup,by simp,λa q b m=>?_];rw[g6] at m;intro e;rwa[n (m ▸ e ▸ q)]
def cD.len(h:cD c d):c.length=d.length:=by
 have z:=congrArg Ay h.keys;(rw[b9,b9] at z;assumption)
def cD.refs{H:Hp}{f:List (c7×List Key)}(h:cD g c)(e:f.map (·.2)=g.map (·.1))(l:∀ t∈f,H t.1=O (.tup (t.2.map kV))) :
  ∃ d:List (c7×List Int),d.map (·.1)=f.map (·.1)/\d.map (·.2)=c/\∀ u∈d,H u.1=O (.tup (u.2.map V.int)):=by
 rw[h.keys] at e;clear h
 induction f generalizing c with
 | nil =>
  cases c with
  | nil=>exact⟨[],rfl,rfl,λu i=>nomatch i⟩
  | cons k c=>rwa[y9 e 'd']
 | cons t f n =>
  cases c with
  | nil=>rwa[y9 e 'd']
  | cons k c =>
   rw[j3,j3] at e;injection e with e1 e2
   obtain⟨d,h1,h2,h3⟩:=n e2 λm j=>l m (x8 _ j);erw[(t.1,k)::d,by rw[j3,j3,h1],by rw[j3,h2],λu i=>?_];rcases l9.mp i with rfl | i
   ·have z:=l t (x9 ..);rw[e1,ur] at z;rwa[z]
   ·rwa[h3 u i]
structure WaysAt(H:Hp)(l:c7)(ss:List Sd)(us:List (c7×List Int)):Prop where
 at':H l=O (.lst ((us.map (·.1)).map V.ref))
 all:∀ u∈us,H u.1=O (.tup (u.2.map V.int))
 rises:(us.map (·.2)).Pairwise (λa b=>HT.lexLt b a=J7)
 nodup:(us.map (·.2)).Nodup
 mem:∀ k,k∈us.map (·.2)↔WK ss ss.length k
 few:us.length<=80
structure SdSt(H0:Hp)(D:c7)(ss:List Sd)(H:Hp):Prop where
 same:Same H0 H
 new:H0 D=J2
 at':H D=O (.lst (yM ss))
 all:bE H ss
end Sea

namespace Sea
def xu{i j:Int}(h:i.natAbs<=10^18):Qx i j:=.inl ⟨by lia,by lia⟩
abbrev P3:=Int×Int×Int
abbrev rP(c:List (c7×P3)):List V:=(c.map (·.1)).map V.ref
def jq(H:Hp)(c:List (c7×P3)):Prop:=∀ t∈c,H t.1=O (.tup [.int t.2.1,.int t.2.2.1,.int t.2.2.2])/\0<t.2.2.2/\Af (Af t.2.1.natAbs t.2.2.1.natAbs) t.2.2.2.natAbs=1
def jq.same{H e:Hp}(h:jq H c)(s:Same H e):jq e c:=λt d=>⟨s _ _ (h t d).1,(h t d).2⟩
def sv(t p:P3):Int:=t.1*p.1+t.2.1*p.2.1-t.2.2*p.2.2
def tn(e s:P3):Int:=e.1*s.2.1-e.2.1*s.1
def dl(e p q:P3):Int:=e.1*(p.2.1*q.2.2-q.2.1*p.2.2)-e.2.1*(p.1*q.2.2-q.1*p.2.2)
def QV(a b u v X Y:Int):(a*a+b*b)*(u*X+v*Y)=(a*Y-b*X)*(a*v-b*u)+(a*X+b*Y)*(a*u+b*v):=by
 simp only[DO,JL,Fq,DN,z9,BD];lia
def cV(s p q:P3):sv s p*q.2.2-sv s q*p.2.2=s.1*(p.1*q.2.2-q.1*p.2.2)+s.2.1*(p.2.1*q.2.2-q.2.1*p.2.2):=by
 unfold sv;simp only[DO,JL,DN,Fq,z9,BD];lia
def Wq(d:sv e p=0)(c:sv e q=0)(s:P3):(e.1*e.1+e.2.1*e.2.1)*(sv s p*q.2.2-sv s q*p.2.2)=dl e p q*tn e s:=by
 have z:=cV e p q;rw[d,c,Bv,Bv,Jw] at z;rw[cV s p q,QV,<- z,Bv,Int.add_zero];rfl
def bD{x y h:Int}(c:h*h=1):(x*h)*(y*h)=x*y:=by
 have e:(x*h)*(y*h)=x*y*(h*h):=by simp only[z9,BD]
 rw[e,c,HV]
def sv_on{e p q:P3}{h:Int}(j:h*h=1)(l:0<e.1*e.1+e.2.1*e.2.1)(i:sv e p=0)(g:sv e q=0)(pw:0<p.2.2)(d:0<q.2.2)(s:P3)(f:(dl e p q*h)*(tn e s*h)<=0)(m:sv s q<=0):sv s p<=0:=by
 have k:=Wq i g s;rw[<- bD (x:=dl e p q) (y:=tn e s) j] at k;rw[<- k] at f;have h1:sv s p*q.2.2-sv s q*p.2.2<=0:=by
  by_cases c:sv s p*q.2.2-sv s q*p.2.2<=0
  ·rwa[c]
  ·have:=DP l (show 0<sv s p*q.2.2-sv s q*p.2.2 by lia);lia
 have h2:sv s q*p.2.2<=0:=by
  have:=BC (show 0<=-sv s q by lia) (As pw);rw[Dh] at this;lia
 by_cases c:sv s p<=0
 ·rwa[c]
 ·have:=DP (show 0<sv s p by lia) d;lia
def Ux{e p q s:P3}{h:Int}(i:h*h=1)(j:0<e.1*e.1+e.2.1*e.2.1)(g:sv e p=0)(f:sv e q=0)(pw:0<p.2.2)(h0:sv s p=0)(l:sv s q<=0)(d:0<tn e s*h):0<=dl e p q*h:=by
 have k:=Wq g f s;rw[h0,Bv,<- bD (x:=dl e p q) (y:=tn e s) i] at k;have h2:0<=-sv s q*p.2.2:=BC (by lia) (As pw);rw[Dh] at h2;have h3:=BC (As j) (show 0<=0-sv s q*p.2.2 by lia);rw[k] at h3;by_cases c:0<=dl e p q*h
 ·rwa[c]
 ·have:=DP (show 0 < -(dl e p q*h) by lia) d;rw[Dh] at this;lia
def dl_le{e p q s:P3}{h:Int}(j:h*h=1)(l:0<e.1*e.1+e.2.1*e.2.1)(i:sv e p=0)(g:sv e q=0)(pw:0<p.2.2)(h0:sv s p=0)(d:0<sv s q)(f:0<tn e s*h):dl e p q*h<=0:=by
 have k:=Wq i g s;rw[h0,Bv,<- bD (x:=dl e p q) (y:=tn e s) j] at k;have h2:=DP d pw;have h3:=BC (As l) (show 0<=sv s q*p.2.2 by lia);have h4:(e.1*e.1+e.2.1*e.2.1)*(0-sv s q*p.2.2) = -((e.1*e.1+e.2.1*e.2.1)*(sv s q*p.2.2)):=by rw[Int.zero_sub,Ej]
 rw[h4] at k;by_cases c:dl e p q*h<=0
 ·rwa[c]
 ·have:=DP (show 0<dl e p q*h by lia) f;lia
def pt3(l:List Int):P3:=match l with
 | [x,y,w]=>(x,y,w)
 | _=>(0,0,1)
def crL(e s:P3):List Int:=wc (upL (e.2.2*s.2.1-e.2.1*s.2.2) (e.1*s.2.2-e.2.2*s.1) (e.1*s.2.1-e.2.1*s.1))
def ftL(t:P3):List Int:=wc (upL (t.1*t.2.2) (t.2.1*t.2.2) (t.1*t.1+t.2.1*t.2.1))
structure WG(l:List Int)(p:P3):Prop where
 list:l=[p.1,p.2.1,p.2.2]
 pos:0<p.2.2
 low:Af (Af p.1.natAbs p.2.1.natAbs) p.2.2.natAbs=1
def oW(h:tn e s≠0):WG (crL e s) (pt3 (crL e s))/\sv e (pt3 (crL e s))=0/\sv s (pt3 (crL e s))=0:=by
 obtain⟨x,y,w,c,sp⟩:=ic (X:=e.2.2*s.2.1-e.2.1*s.2.2) (Y:=e.1*s.2.2-e.2.2*s.1) (W:=e.1*s.2.1-e.2.1*s.1) h;have d:crL e s=[x,y,w]:=c;rw[d];refine⟨⟨U,by have:=sp.pos; show 0<w; lia,sp.low⟩,?_,?_⟩
 ·have z:=iI (A:=e.1) (B:=e.2.1) (C:=e.2.2) h sp (Xx e.1 e.2.1 e.2.2 s.1 s.2.1 s.2.2);show e.1*x+e.2.1*y-e.2.2*w=0;lia
 ·have z:=iI (A:=s.1) (B:=s.2.1) (C:=s.2.2) h sp (YT e.1 e.2.1 e.2.2 s.1 s.2.1 s.2.2);show s.1*x+s.2.1*y-s.2.2*w=0;lia
def fA{t:P3}(h:t.1≠0\/t.2.1≠0):0<t.1*t.1+t.2.1*t.2.1:=Sz h
def ft_ok{t:P3}(h:t.1≠0\/t.2.1≠0):WG (ftL t) (pt3 (ftL t))/\sv t (pt3 (ftL t))=0:=by
 have e:=fA h;obtain⟨x,y,w,c,sp⟩:=ic (X:=t.1*t.2.2) (Y:=t.2.1*t.2.2) (W:=t.1*t.1+t.2.1*t.2.1) (by lia);have d:ftL t=[x,y,w]:=c;rw[d];exists ⟨U,by have:=sp.pos; show 0<w; lia,sp.low⟩;have z:=iI (A:=t.1) (B:=t.2.1) (C:=t.2.2) (show t.1*t.1+t.2.1*t.2.1≠0 by lia) sp (by simp only[Fq,z9,BD]);show t.1*x+t.2.1*y-t.2.2*w=0;lia
def inW(c:List Sd)(p:P3):Prop:=∀ t∈c,sv t.2 p<=0
def bT(c:List Sd)(e:P3)(h:Int):Option Nat->Prop
 | none=>∀ t∈c,tn e t.2*h<=0
 | some j=>∃ t,c[j]?=O t/\0<tn e t.2*h/\∀ u∈c,0<tn e u.2*h->sv u.2 (pt3 (crL e t.2))<=0
def sI{x h:Int}(h0:0<x*h):x≠0:=λz=>by rw[z,Bv] at h0; rwa[y9 h0 'a']
end Sea

namespace L2
end L2
namespace Sea
def XE(h:tn e s≠0):crL e s=crL s e:=by
 unfold crL;have f:s.2.2*e.2.1-s.2.1*e.2.2 = -(e.2.2*s.2.1-e.2.1*s.2.2):=by rw[z9 s.2.2,z9 s.2.1]; lia
 have d:s.1*e.2.2-s.2.2*e.1 = -(e.1*s.2.2-e.2.2*s.1):=by rw[z9 s.1,z9 s.2.2]; lia
 have c:s.1*e.2.1-s.2.1*e.1 = -(e.1*s.2.1-e.2.1*s.1):=by rw[z9 s.1,z9 s.2.1]; lia
 rw[f,d,c,Rt (show e.1*s.2.1-e.2.1*s.1≠0 from h)]
end Sea

namespace Sea
def XN(e p q:P3):dl e p q = -dl e q p:=by
 unfold dl;simp only[DO];lia
def Px{a b X Y:Int}(e:0<a*a+b*b)(h1:a*X+b*Y=0)(h2:a*Y-b*X=0):X=0/\Y=0:=by
 have d:(a*a+b*b)*X=a*(a*X+b*Y)-b*(a*Y-b*X):=by
  simp only[DO,Fq,DN,z9,BD];lia
 have c:(a*a+b*b)*Y=b*(a*X+b*Y)+a*(a*Y-b*X):=by
  simp only[DO,Fq,DN,z9,BD];lia
 rw[h1,h2,Jx,Jx] at d c;constructor
 ·rcases Ii.mp d with z | z
  ·lia
  ·rwa[z]
 ·rcases Ii.mp c with z | z
  ·lia
  ·rwa[z]
def je{e p q:P3}(f:0<e.1*e.1+e.2.1*e.2.1)(d:sv e p=0)(c:sv e q=0)(hd:dl e p q=0):p.1*q.2.2=q.1*p.2.2/\p.2.1*q.2.2=q.2.1*p.2.2:=by
 have z:=cV e p q;rw[d,c,Bv,Bv,Jw] at z;have w:=Px f z.symm hd;lia
def jN{x y w e c v:Int}(i:0<v)(h1:x*v=e*w)(h2:y*v=c*w)(low:Af (Af x.natAbs y.natAbs) w.natAbs=1):w.natAbs ∣ v.natAbs:=by
 have h:w.natAbs ∣ v.natAbs*x.natAbs:=by
  rw[<- Cg,z9,h1,Cg];rwa[FQ _ _]
 have g:w.natAbs ∣ v.natAbs*y.natAbs:=by
  rw[<- Cg,z9,h2,Cg];rwa[FQ _ _]
 have f:w.natAbs ∣ v.natAbs*w.natAbs:=FQ _ _;have d:=HW (HW h g) f;rw[HN,HN,low,JJ] at d;rwa[d]
def kK{p q:P3}(pp:0<p.2.2)(d:0<q.2.2)(lp:Af (Af p.1.natAbs p.2.1.natAbs) p.2.2.natAbs=1)(f:Af (Af q.1.natAbs q.2.1.natAbs) q.2.2.natAbs=1)(h1:p.1*q.2.2=q.1*p.2.2)(h2:p.2.1*q.2.2=q.2.1*p.2.2):p=q:=by
 have j:=jN d h1 h2 lp;have i:=jN pp h1.symm h2.symm f;have e:=Nat.dvd_antisymm j i;have c:p.2.2=q.2.2:=by lia
 rw[c] at h1 h2;have h:=Di (by lia) h1;have g:=Di (by lia) h2;rwa[DU h (DU g c)]
def Cor(c:List Sd)(P:P3):Prop:=∃ t∈c,∃ u∈c,tn t.2 u.2≠0/\P=pt3 (crL t.2 u.2)/\inW c P
def jt(c:List Sd)(e:P3)(h:Int)(d:List P3):Prop:=bT c e h J2\/∃(j:Nat)(t:Sd),c[j]?=O t/\0<tn e t.2*h/\(∀ u∈c,0<tn e u.2*h->sv u.2 (pt3 (crL e t.2))<=0)/\pt3 (crL e t.2)∈d
def jt.app{h:Int}{d i:List P3}(f:jt c e h d):jt c e h (d++i):=by
 rcases f with f | ⟨j,t,g,p,a,m⟩
 ·rwa[.inl f]
 ·rwa[.inr ⟨j,t,g,p,a,Bb _ m⟩]
def RV{c:List Sd}{e:P3}{s:Sd}{h:Int}(q:h*h=1)(r:0<e.1*e.1+e.2.1*e.2.1)(v:s∈c)(o:0<tn e s.2*h)(B:inW c (pt3 (crL e s.2)))(f:jt c e h u):pt3 (crL e s.2)∈u:=by
 rcases f with f | ⟨j,t,g,p,a,m⟩
 ·have:=f s v;lia
 ·obtain⟨i,n,A⟩:=oW (sI o);obtain⟨d,l,y⟩:=oW (sI p);have G:=Ux q r n l i.pos A (a s v o) o;have D:=Ux q r l n d.pos y (B t (j4 g)) p;rw[XN,Dh] at D;have E:dl e (pt3 (crL e s.2)) (pt3 (crL e t.2))*h=0:=by lia
  have C:dl e (pt3 (crL e s.2)) (pt3 (crL e t.2))=0:=by
   have z:dl e (pt3 (crL e s.2)) (pt3 (crL e t.2))*h*h=0:=by rw[E,Bv]
   rw[AE,q,HV] at z;rwa[z]
  obtain⟨x,w⟩:=je r n l C;rw[kK i.pos d.pos i.low d.low x w];rwa[m]
def Ro{x:Int}(h:x≠0):∃ k:Int,(k=1\/k = -1)/\k*k=1/\0<x*k:=by
 by_cases c:0<x
 ·rwa[1,.inl rfl,by decide,by lia]
 ·rwa[-1,.inr rfl,by decide,by lia]
def UC(h:tn e s≠0)(i:e.1.natAbs<=10^9)(g:e.2.1.natAbs<=10^9)(f:e.2.2.natAbs<=10^13)(d:s.1.natAbs<=10^9)(c2:s.2.1.natAbs<=10^9)(c:s.2.2.natAbs<=10^13) :
  (pt3 (crL e s)).1.natAbs<=10^40/\(pt3 (crL e s)).2.1.natAbs<=10^40/\(pt3 (crL e s)).2.2.natAbs<=10^40:=by
 obtain⟨x,y,w,j,sp⟩:=ic (X:=e.2.2*s.2.1-e.2.1*s.2.2) (Y:=e.1*s.2.2-e.2.2*s.1) (W:=e.1*s.2.1-e.2.1*s.1) h;have l:crL e s=[x,y,w]:=j;rw[l];have r:=zW e.2.2 s.2.1 f c2;have q:=zW e.2.1 s.2.2 g c;have p:=zW e.1 s.2.2 i c;have o:=zW e.2.2 s.1 f d;have n:=zW e.1 s.2.1 i c2;have m:=zW e.2.1 s.1 g d;have z:=sp.xle;have v:=sp.yle;have u:=sp.wle;erw[?_,?_,?_]
 ·show x.natAbs<=10^40;lia
 ·show y.natAbs<=10^40;lia
 ·show w.natAbs<=10^40;lia
def Zo{d:Type}[DecidableEq d]:∀{xs ys:List d},xs.Nodup->(∀ a∈xs,a∈ys)->xs.length<=ys.length
 | [],_,_,_=>x6 _
 | x::xs,ys,g,h=>by
  have c:=DC.mp g;have m:x∈ys:=h x (x9 ..);have z:=Zo (ys:=ys.erase x) c.2 λa f=>by
   have ne:a≠x:=λe=>c.1 (by rw[<- e]; rwa[f]);exact(List.mem_erase_of_ne ne).mpr (h a (x8 _ f))
  have:=List.length_erase_of_mem m;have i:0<ys.length:=List.length_pos_of_mem m;rw[g8];lia
end Sea

namespace L2
open PySem PySem.Spec PyProof.Rows PySem.W
def PrAt(H:Hp)(c:List Pr):Prop:=∀ t∈c,H t.1=O (.tup [.int t.2.1,.int t.2.2])
end L2

namespace Sea
def dt(s g:P3):Int:=s.1*g.1+s.2.1*g.2.1
structure Bound(ss:List Sd)(g:P3):Prop where
 nz:∀ t∈ss,t.2.1≠0\/t.2.2.1≠0
 gz:g.1≠0\/g.2.1≠0
 ways:∀ t∈ss,∀ h:Int,(h=1\/h = -1)->(∀ s∈ss,tn t.2 s.2*h<=0)->tn t.2 g*h<=0
 lead:¬ ∀ s∈ss,dt s.2 g<=0
 one:∀ t∈ss,tn t.2 g=0->0<dt t.2 g->∀ P:P3,0<P.2.2->sv t.2 P=0->¬ inW ss P
end Sea

namespace L2
open PySem PySem.Spec PyProof.Rows PySem.W
def cut4{ok:c7->Int->Int->Hp->Prop}{G:Prop}{R:c7->Int->Int->Hp->Prop}(h1:(∀ p x y G,ok p x y G->R p x y G)->G)(h2:∀ p x y G,ok p x y G->R p x y G):G:=h1 h2
end L2

namespace L2

def Rf(c:DK)(x:j9):Bool:=c.names.any λy=>y.1 == x&&y.2 == .cell
structure OwnScope(X:Cx)(caps:List (j9×Nat))(scope:DK):Prop where
 kind:scope.kind=.function
 dis:(scope.names.all λx=>!(x.2 == .free) || !Rf scope x.1)=J3
 loc:∀ y∈scope.names,y.2=.local->scope.names.lookup y.1=O .local
 clos:(scope.names.all λx=>!(x.2 == .free)||(X.env.cells.lookup x.1).isSome)=J3
 cap:ik X scope caps
section
variable{X:Cx}{T:List j9}{caps:List (j9×Nat)}{scope:DK}{elt target iter:Ar}{ifs:List Ar}{pos cpos:D5}{wi:TI}{g:CC->TG}{tt:CC->TT}{te:CC->TE}

end
end L2

namespace Sea
def awB(N:Nat):List 'x'->Int->Bool
 | [],_=>J3
 | c::d,least=>if least<=c.1/\c.1<N/\1<=c.2 then awB N d (c.1+1) else J7
def Ql(c:List Sd)(f:Sd->Int)(n:Int):Int:=match c[n.toNat]? with
 | some t=>f t
 | none=>0
def SG(d:List Sd)(f:Sd->Int):List 'x'->Int->Int
 | [],T=>T
 | c::e,T=>SG d f e (T+c.2*Ql d f c.1)
def fAt(k:Int)(t:Sd):Int:=if k=0 then t.2.1 else if k=1 then t.2.2.1 else t.2.2.2
structure PrSt(H0:Hp)(D:c7)(cs:List Pr)(H:Hp):Prop where
 same:Same H0 H
 new:H0 D=J2
 at':H D=O (.lst (sT cs))
 all:PrAt H cs
end Sea

namespace L2
def cy:bootBuiltins "sum" = O (.builtin "sum"):=by ac_nf
def jO(ns:List Int):∀ n,n<=ns.length->preSum (λi=>ns.getD i 0) n=(ns.take n).sum
 | 0,_=>by simp[preSum]
 | n+1,h=>by
  have c:n<ns.length:=h;rw[preSum,jO ns n (BM c),w9,c6 c,List.sum_append];simp[List.getD,c6 c]
def ku:∀{ns:List Int}{c:List c8},yY 'p' c->∀(i:Nat)(v:c8),c[i]?=O v->∃ t,v=.int (ns.getD i 0) t
 | [],c,r,i,v,h=>by
  have e:=yY.zero r;subst e;simp at h
 | n::ns,c,r,i,v,h=>by
  cases r with
  | cons f d =>
   match i,h with
   | 0,h =>
    obtain⟨t,rfl⟩:=f;rwa[t,(t6 h).symm]
   | i+1,h=>rwa[ku d i v h]
section
variable{X:Cx}
def yc(g:X.calm=J3):tD X (.builtin "sum") (λxs H Q=>E2 λ(p:c7) (ns:List Int)=>A3 (xs=[.ref p]) (SqL X.K H p 'p') (Q (.int ns.sum) H)):=by
 intro R s L H xs M Q I r h;obtain⟨p,ns,rfl,C,q⟩:=h;obtain⟨u,rfl,w⟩:=ka r;cases w;obtain⟨d,m,x,N⟩:=I.list C;have j:s.heap.IsList p d.toArray:=x.isList;have f:p<s.heap.objs.size:=by obtain⟨o,D,_⟩:=j; rwa[m7 D]
 have y:d.length=ns.length:=by
  have z:=m.length;rw[b9] at z;rwa[z.symm]
 refine call_sum_walkG (DT j ?_);refine⟨_,[_,p],[_],_,_,_,λi=>ns.getD i 0,U,JT (A:=X.A.in1) (I.ok.hd g) _ p (t8 f) d.toArray,
  ⟨⟨_,n9 _ rfl,rfl,rfl⟩,j.push _⟩,λc g=>?_,λi v B=>ku m i v (by simpa using B),λP n l G=>?_⟩
 ·have sz:(s.heap.push { cls:=.type "list_iterator",data:=.fields #[.ref p,.int 0 0] }).objs.size=s.heap.objs.size+1:=CH ..;show c<(s.heap.push { cls:=.type "list_iterator",data:=.fields #[.ref p,.int 0 0] }).objs.size;rw[sz];simp only[l9,Ee,or_false] at g;rcases g with e | e
  ·rw[e]; rwa[CI _]
  ·rw[e]; rwa[Hj f]
 ·erw[.int ns.sum,H,I.kept (t':=n) λc o e=>G c o (λE=>?_) (e9 _ e),⟨l,?_⟩,q]
  ·have J:=g6.mp E;have z:=m7 e;rw[J] at z;rwa[Bg _ z]
  ·have e:d.toArray.size=ns.length:=by simp[y]
   rw[e,jO ns ns.length (f7 _),o5]
end
end L2

namespace Sea
def Rs(n:Nat)(d:List 'x'):List 'x':=d.filter λc=>decide (c.1<(n:Int))
structure Apart(ss es:List Sd)(cs:List (Int×Int)):Prop where
 out:∀ v:P3,0<v.2.2->inW es v->SG ss (fAt 2) (Rs ss.length cs) 0*v.2.2<SG ss (fAt 0) (Rs ss.length cs) 0*v.1+SG ss (fAt 1) (Rs ss.length cs) 0*v.2.1
 ins:∀ v:P3,inW ss v->SG ss (fAt 0) (Rs ss.length cs) 0*v.1+SG ss (fAt 1) (Rs ss.length cs) 0*v.2.1<=SG ss (fAt 2) (Rs ss.length cs) 0*v.2.2
 few:(∃ z:P3,0<z.2.2/\inW ss z)->(Rs ss.length cs).length<=2
end Sea

namespace Sea
structure PIb(t:TE)(σ:St)(i:Int)(n:Nat):Prop where
 rd:∀(H:Hp)(Q:VK),Q (.int i) H->t σ H Q
 le:i.natAbs<=n
abbrev QC(xs:List (c7×List Pr)):List V:=(xs.map (·.1)).map V.ref
structure Leads(G:Hp)(lo:c7)(M:Nat)(xs:List (c7×List Pr)):Prop where
 at':G lo=O (.lst (QC xs))
 all:∀ u∈xs,u.1≠lo/\G u.1=O (.lst (sT u.2))/\Qy G M u.2
end Sea

namespace Sea
end Sea

namespace PyProof.Rows
abbrev Wk:Bool->Aj->Array Aj->Nat->Nat->Nat->StateT v9 EF (Option Nat):=sortPriv% PySem.Builtin.gallop
abbrev UD:Array Aj->Array Aj->StateT v9 EF (Array Aj):=sortPriv% PySem.Builtin.mergeLo
abbrev VQ:Array Aj->Array Aj->StateT v9 EF (Array Aj):=sortPriv% PySem.Builtin.mergeHi
def VB(prog:o0)(w:t7)(A:Ak)(s:d7)(d:BA)(c:List Aj):Prop :=
 ∀ x y:Aj,x∈c->y∈c->∀ Q:Bool->d7->Prop,(∀ b,Q b s)->wpAny 'c' A (keyLt' d x.1 y.1) Q (λ_ _=>False) s
def um(st c:v9):Prop:=kindOf c=kindOf st/\arrOf c=arrOf st/\pendingOf c=pendingOf st/\failedOf c=failedOf st
def um.refl(st:v9):um st st:=⟨rfl,rfl,rfl,rfl⟩
def um.trans(h:um a b)(k:um b c):um a c:=⟨k.1.trans h.1,k.2.1.trans h.2.1,k.2.2.1.trans h.2.2.1,k.2.2.2.trans h.2.2.2⟩
section
variable{prog:o0}{w:t7}{A:Ak}{E:c8->d7->Prop}{s:d7}{st:v9}{κ:BA}{ys:List Aj}
def qb{c:Type}{m:EF c}{Q:c->v9->Prop}(h:wpAny 'c' A m (λa d=>d=s/\Q a st) E s):wpS 'c' A E s (liftM m:StateT v9 EF c) Q st:=by
 unfold wpS;show wpAny 'c' A ((StateT.lift m:StateT v9 EF c).run st) _ E s;rw[StateT.run_lift];rwa[c9 (AW h (λa d f=>i5 f) λ_ _ e=>e)]
def bC(i:VB prog w A s κ ys)(g:kindOf st=κ){x y:Aj}(f:x∈ys)(d:y∈ys){Q:Option Bool->v9->Prop}(h:∀ b,Q (O b) st):wpS 'c' A E s (lt' x y) Q st:=by
 rw[lt'_eq];erw[wpS_bind (wpS_get ?_)];rw[g];erw[wpS_bind (qb (FC (AW (i x y f d (λb c=>c=s) λb=>rfl) (λb c e=>?_) λ_ _ e=>e.elim)))];rwa[e,wpS_pure (h b)]
def XC{c:Array Aj}{i:Nat}(hi:i<c.size){Q:Aj->v9->Prop}(h:Q c[i] st):wpS 'c' A E s (elem' c i) Q st:=by
 rw[elem'_eq,Ah hi];rwa[wpS_pure h]
def yL{d:Type}{c:Prop}[Decidable c]{m e:StateT v9 EF d}{Q:d->v9->Prop}(h1:c->wpS 'c' A E s m Q st)(h2:¬ c->wpS 'c' A E s e Q st):wpS 'c' A E s (if c then m else e) Q st:=by
 split
 ·rwa[h1 (by assumption)]
 ·rwa[h2 (by assumption)]
def yN{c:Type}{x y:Nat}{m d:StateT v9 EF c}{Q:c->v9->Prop}(h1:x=y->wpS 'c' A E s m Q st)(h2:x≠y->wpS 'c' A E s d Q st):wpS 'c' A E s (if (x == y)=J3 then m else d) Q st:=by
 refine yL (λe=>h1 (by simpa using e)) λe=>h2 (by simpa using e)
def yB{d:Type}{c:Array Aj}{i:Nat}(hi:i<c.size){f:Aj->StateT v9 EF d}{Q:d->v9->Prop}(h:wpS 'c' A E s (f c[i]) Q st):wpS 'c' A E s (elem' c i >>= f) Q st:=wpS_bind (XC hi h)
def xC{g n:Type}{a b:Nat}{f:Nat->g->StateT v9 EF (ForInStep g)}{k:g->StateT v9 EF n}{R:n->v9->Prop}(I:Nat->g->v9->Prop)(Q:g->v9->Prop)
  (e:∀ i c st,a<=i->i<b->I i c st->wpS 'c' A E s (f i c) (λr d=>match r with | .done m=>Q m d | .yield m=>I (i+1) m d) st)
  (l:∀ c st,I (max a b) c st->Q c st) {c:g} (h:I a c st) (j:∀ c d,Q c d->wpS 'c' A E s (k c) R d):wpS 'c' A E s (forIn [a:b] c f >>= k) R st:=wpS_bind (wpS_mono (wpS_forRange (I:=I) (Q:=Q) e l h) j)
def zx{c:Type}{tag:String}{f:Unit->StateT v9 EF c}{Q:c->v9->Prop}(h:wpS 'c' A E s (f ()) Q st):wpS 'c' A E s ((liftM (rule tag):StateT v9 EF Unit) >>= f) Q st:=wpS_bind (qb (GY ⟨rfl,h⟩))
def rB{c:Type}{f:v9->StateT v9 EF c}{Q:c->v9->Prop}(h:wpS 'c' A E s (f st) Q st):wpS 'c' A E s ((get:StateT v9 EF v9) >>= f) Q st:=wpS_bind (wpS_get h)
def qQ{c:Type}{g:v9->v9}{f:PUnit->StateT v9 EF c}{Q:c->v9->Prop}(h:wpS 'c' A E s (f ⟨⟩) Q (g st)):wpS 'c' A E s ((modify g:StateT v9 EF PUnit) >>= f) Q st:=wpS_bind (wpS_modify h)
def Wc{c:Type}(i:VB prog w A s κ ys)(g:kindOf st=κ){x y:Aj}(e:x∈ys)(d:y∈ys){f:Option Bool->StateT v9 EF c}{Q:c->v9->Prop}(h:∀ b,wpS 'c' A E s (f (O b)) Q st):wpS 'c' A E s (lt' x y >>= f) Q st:=wpS_bind (bC i g e d h)
def Yc(D:VB prog w A s κ ys)(C:kindOf st=κ){left:Bool}{m:Aj}{p:Array Aj}{base n g:Nat}(u:m∈ys)(z:∀ i,i<n->∃ h:base+i<p.size,p[base+i]∈ys)(G:g<n)
  {Q:Option Nat->v9->Prop} (h:∀ k,k<=n->Q (O k) st):wpS 'c' A E s (Wk left m p base n g) Q st:=by
 have j:∀(i:Nat),i<n->∀{B:Option Bool->v9->Prop},(∀ b,B (O b) st)->wpS 'c' A E s (do
   let x <- elem' p (base+i)
   if left=J3 then lt' x m else do
    let r <- lt' m x
    pure (Option.map (λx=>!x) r)) B st:=λi hi {B} q=>by
  obtain⟨h1,h2⟩:=z i hi;erw[yB h1 ?_];cases left with
  | true=>rwa[bC D C h2 u q]
  | false=>rwa[wpS_bind (bC D C u h2 λb=>wpS_pure (q _))]
 erw[wpS_bind (j g G λright=>?_)];dsimp only;cases right with
 | true =>
  simp only[if_true];erw[xC (I:=λ_ c d=>L2.E2 λl o=>d=st/\c=(J2,l,o)) (Q:=λc d=>L2.E2 λl o=>d=st/\c=(J2,l,o)) ?_ (λc d y=>y) ⟨_,_,rfl,rfl⟩ ?_]
  ·rintro i c d _ hi ⟨l,o,rfl,rfl⟩;dsimp only;split
   ·rwa[wpS_pure ⟨_,_,rfl,rfl⟩]
   ·erw[wpS_bind (j (g+o) (by lia) λb=>?_)];cases b with
    | true=>rwa[wpS_pure ⟨_,_,rfl,rfl⟩]
    | false=>rwa[wpS_pure ⟨_,_,rfl,rfl⟩]
  ·rintro c d ⟨l,o,rfl,rfl⟩;dsimp only;erw[xC (I:=λ_ c e=>L2.E2 λlo hi=>L2.A3 (e=d) (c=(J2,lo,hi)) (hi<=n)) (Q:=λc e=>L2.E2 λlo hi=>L2.A3 (e=d) (c=(J2,lo,hi)) (hi<=n)) ?_ (λc d y=>y) ⟨_,_,rfl,rfl,by lia⟩ ?_]
   ·rintro i c e _ hi ⟨lo,v,rfl,rfl,f⟩;dsimp only;split
    ·rwa[wpS_pure ⟨_,_,rfl,rfl,f⟩]
    ·erw[wpS_bind (j _ (by lia) λb=>?_)];cases b with
     | true=>rwa[wpS_pure ⟨_,_,rfl,rfl,f⟩]
     | false=>rwa[wpS_pure ⟨_,_,rfl,rfl,by lia⟩]
   ·rintro c e ⟨lo,v,rfl,rfl,f⟩;rwa[wpS_pure (h _ f)]
 | false =>
  simp only[BL,if_false];erw[xC (I:=λ_ c d=>L2.E2 λl o=>d=st/\c=(J2,l,o)) (Q:=λc d=>L2.E2 λl o=>d=st/\c=(J2,l,o)) ?_ (λc d y=>y) ⟨_,_,rfl,rfl⟩ ?_]
  ·rintro i c d _ hi ⟨l,o,rfl,rfl⟩;dsimp only;split
   ·rwa[wpS_pure ⟨_,_,rfl,rfl⟩]
   ·erw[wpS_bind (j (g-o) (by lia) λb=>?_)];cases b with
    | true=>rwa[wpS_pure ⟨_,_,rfl,rfl⟩]
    | false=>rwa[wpS_pure ⟨_,_,rfl,rfl⟩]
  ·rintro c d ⟨l,o,rfl,rfl⟩;dsimp only;erw[xC (I:=λ_ c e=>L2.E2 λlo hi=>L2.A3 (e=d) (c=(J2,lo,hi)) (hi<=n)) (Q:=λc e=>L2.E2 λlo hi=>L2.A3 (e=d) (c=(J2,lo,hi)) (hi<=n)) ?_ (λc d y=>y) ⟨_,_,rfl,rfl,by lia⟩ ?_]
   ·rintro i c e _ hi ⟨lo,v,rfl,rfl,f⟩;dsimp only;split
    ·rwa[wpS_pure ⟨_,_,rfl,rfl,f⟩]
    ·erw[wpS_bind (j _ (by lia) λb=>?_)];cases b with
     | true=>rwa[wpS_pure ⟨_,_,rfl,rfl,f⟩]
     | false=>rwa[wpS_pure ⟨_,_,rfl,rfl,by lia⟩]
   ·rintro c e ⟨lo,v,rfl,rfl,f⟩;rwa[wpS_pure (h _ f)]
def pK{j:Type}(o:VB prog w A s κ ys)(l:kindOf st=κ){left:Bool}{d:Aj}{arr:Array Aj}{base n c:Nat}(e:d∈ys)(g:∀ i,i<n->∃ h:base+i<arr.size,arr[base+i]∈ys)(m:c<n)
  {f:Option Nat->StateT v9 EF j} {Q:j->v9->Prop} (h:∀ k,k<=n->wpS 'c' A E s (f (O k)) Q st):wpS 'c' A E s (Wk left d arr base n c >>= f) Q st:=wpS_bind (Yc o l e g m h)
end
structure nO(x y out:Array Aj)(ia ib:Nat):Prop where
 pm:out.toList.Perm (x.toList.take ia++y.toList.take ib)
 la:ia<=x.size
 lb:ib<=y.size
section
variable{x y out:Array Aj}{ia ib:Nat}
def dS{z:Array Aj}{i k:Nat}(h:i+k<=z.size):z.toList.take (i+k)=z.toList.take i++(z.extract i (i+k)).toList:=by
 rw[Cu,BF,Nat.add_sub_cancel_left,List.take_add]
def iV{z:Array Aj}{i:Nat}(h:i<z.size):z.toList.take (i+1)=z.toList.take i++[z[i]]:=by
 rw[Hk,c6 (by rw[o7]; rwa[h])];rfl
def nO.b(t:nO x y out ia ib)(h:ib<y.size):nO x y (out.push y[ib]) ia (ib+1):=by
 erw[?_,t.la,h];rw[C8,iV h,<- r9];rwa[t.pm.append_right _]
def nO.a(t:nO x y out ia ib)(h:ia<x.size):nO x y (out.push x[ia]) (ia+1) ib:=by
 erw[?_,h,t.lb];rw[C8,iV h];refine(t.pm.append_right _).trans ?_;rw[r9,r9];rwa[Aq _ AZ]
def nO.as(t:nO x y out ia ib){k:Nat}(h:ia+k<=x.size):nO x y (out++x.extract ia (ia+k)) (ia+k) ib:=by
 erw[?_,h,t.lb];rw[Ab,dS h];refine(t.pm.append_right _).trans ?_;rw[r9,r9];rwa[Aq _ AZ]
def nO.bs(t:nO x y out ia ib){k:Nat}(h:ib+k<=y.size):nO x y (out++y.extract ib (ib+k)) ia (ib+k):=by
 erw[?_,t.la,h];rw[Ab,dS h,<- r9];rwa[t.pm.append_right _]
def XM(z:Array Aj)(i:Nat):(z.extract i z.size).toList=z.toList.drop i:=by
 rw[Cu,BF,Au (by rw[Ai,o7]; rwa[f7 _])]
def nO.done(t:nO x y out ia ib):(out++x.extract ia x.size++y.extract ib y.size).toList.Perm (x.toList++y.toList):=by
 rw[Ab,Ab,XM,XM];have h:(x.toList++y.toList)=(x.toList.take ia++x.toList.drop ia)++(y.toList.take ib++y.toList.drop ib):=by rw[AX,AX]
 rw[h];refine((t.pm.append_right _).append_right _).trans ?_;simp only[r9];erw[Aq _ ?_];rw[<- r9,<- r9];rwa[AZ.append_right _]
def nO.last(t:nO x y out ia ib):(out++y.extract ib y.size++x.extract ia x.size).toList.Perm (x.toList++y.toList):=by
 erw[Er ?_ t.done];rw[Ab,Ab,Ab,Ab,r9,r9];rwa[Aq _ AZ]
end
section
variable{prog:o0}{w:t7}{A:Ak}{E:c8->d7->Prop}{s:d7}{st:v9}{κ:BA}{ys:List Aj}
def jL{d:Type}{G:Prop}{code:Nat->StateT v9 EF d}{P:Nat->v9->Prop}{Q:d->v9->Prop}(use:(∀ n c,P n c->wpS 'c' A E s (code n) Q c)->G)(H:∀ n c,P n c->wpS 'c' A E s (code n) Q c):G:=use H
def vy{c:Type}{G:Prop}{code:Array Aj->Nat->StateT v9 EF c}{P:Array Aj->Nat->Prop}{Q:c->v9->Prop}(use:(∀ o n,P o n->wpS 'c' A E s (code o n) Q st)->G)(H:∀ o n,P o n->wpS 'c' A E s (code o n) Q st):G:=use H
def cX(ha:VB prog w A s κ ys)(hk:kindOf st=κ){a b:Array Aj}(hae:∀ u∈a.toList,u∈ys)(hbe:∀ u∈b.toList,u∈ys)(ha0:0<a.size)(L:0<b.size){Q:Array Aj->v9->Prop}
  (h:∀ out l,um st l->out.toList.Perm (a.toList++b.toList)->Q out l):wpS 'c' A E s (UD a b) Q st:=by
 have am:∀ i,(hi:i<a.size)->a[i]∈ys:=λi hi=>hae _ (by rw[<- BB]; rwa[r6 _]);have bm:∀ i,(hi:i<b.size)->b[i]∈ys:=λi hi=>hbe _ (by rw[<- BB]; rwa[r6 _]);erw[zx ?_];erw[yB L ?_];have t0:nO a b #[b[0]] 0 1:=⟨by rw[iV L]; simp,x6 _,L⟩;erw[yN (λe=>?_) (λR=>?_)]
 ·rwa[wpS_pure (h _ _ (um.refl _) t0.done)]
 erw[yN (λe=>?_) (λS=>?_)]
 ·rwa[wpS_pure (h _ _ (um.refl _) t0.last)]
 have R:1<b.size:=DG L R;have S:1<a.size:=DG ha0 S;refine rB ?_;refine xC (I:=λi c l=>L2.E4 λout o n mg=>L2.A6 (um st l) (c=(J2,out,o,n,mg)) (nO a b out o n) (o+1<a.size) (n<b.size) (i+1<=o+n))
  (Q:=λc l=>L2.E5 λr out o n mg=>L2.A3 (um st l) (c=(O r,out,o,n,mg)) (r.toList.Perm (a.toList++b.toList))) ?_ ?_ ⟨_,_,_,_,um.refl _,rfl,t0,S,R,f7 _⟩ ?_
 ·rintro i c st1 _ hi ⟨out,o,n,mg,kp,rfl,q,la,lb,G⟩;refine xC (I:=λj c l=>L2.E5 λg d f D C=>L2.A6 (um st l) (c=(J2,g,d,f,D,C)) (nO a b g d f) (d+1<a.size) (f<b.size) (i+1+j<=d+f))
   (Q:=λc l=>L2.E6 λr g d f D C=>L2.A3 (um st l) (c=(r,g,d,f,D,C)) ((∃ z,r=O z/\z.toList.Perm (a.toList++b.toList))\/(r=J2/\nO a b g d f/\d+1<a.size/\f<b.size/\i+2<=d+f))) ?_ ?_ ⟨_,_,_,_,_,kp,rfl,q,la,lb,by lia⟩ ?_
  ·rintro j c st2 _ hj ⟨out,o,n,D,C,p,rfl,q,la,lb,G⟩;refine yB lb (yB (show o<a.size by lia) (Wc ha (p.1.trans hk) (bm n lb) (am o (by lia)) λwin=>?_));cases win with
   | true =>
    erw[yB lb ?_];have m:=q.b lb;erw[yN (λe1=>?_) (λe1=>?_)]
    ·rwa[wpS_pure ⟨_,_,_,_,_,_,p,rfl,.inl ⟨_,rfl,m.done⟩⟩]
    ·have lb':n+1<b.size:=DG lb e1;erw[yL (λY=>?_) (λY=>?_)]
     ·rwa[wpS_pure ⟨J2,_,o,n+1,0,C+1,p,rfl,.inr ⟨rfl,m,la,lb',by lia⟩⟩]
     ·rwa[wpS_pure ⟨_,o,n+1,0,C+1,p,rfl,m,la,lb',by lia⟩]
   | false =>
    refine yB (show o<a.size by lia) ?_;have m:=q.a (show o<a.size by lia);erw[yN (λe1=>?_) (λe1=>?_)]
    ·rwa[wpS_pure ⟨_,_,_,_,_,_,p,rfl,.inl ⟨_,rfl,m.last⟩⟩]
    ·have la':o+1+1<a.size:=DG la e1;erw[yL (λY=>?_) (λY=>?_)]
     ·rwa[wpS_pure ⟨J2,_,o+1,n,D+1,0,p,rfl,.inr ⟨rfl,m,la',lb,by lia⟩⟩]
     ·rwa[wpS_pure ⟨_,o+1,n,D+1,0,p,rfl,m,la',lb,by lia⟩]
  ·rintro c st2 ⟨out,o,n,D,C,_,rfl,_,h1,h2,h3⟩;exfalso;have:a.size+b.size<=max 0 (a.size+b.size):=Ef _ _;lia
  ·rintro c st2 ⟨r,out,o,n,D,C,p,rfl,hr⟩;rcases hr with ⟨z,rfl,pm⟩ | ⟨rfl,q,la,lb,G⟩
   ·rwa[wpS_pure ⟨_,_,_,_,_,p,rfl,pm⟩]
   ·erw[zx ?_];erw[xC (I:=λ_ c l=>L2.E6 λg d f T ac' Z=>L2.A6 (um st l) (c=(J2,g,d,f,T,ac',Z)) (nO a b g d f) (d+1<a.size) (f<b.size) (i+2<=d+f)) (Q:=λc l=>L2.E7 λr g d f T ac' Z=>L2.A3 (um st l) (c=(r,g,d,f,T,ac',Z)) ((∃ z,r=O z/\z.toList.Perm (a.toList++b.toList))\/(r=J2/\nO a b g d f/\d+1<a.size/\f<b.size/\i+2<=d+f))) ?_ ?_ ⟨_,_,_,_,_,_,p,rfl,q,la,lb,G⟩ ?_]
    ·rintro j c N _ hj ⟨out,o,n,mg,D,C,x,rfl,q,la,lb,G⟩;dsimp only;revert mg;apply jL (prog:=prog) (w:=w) (A:=A) (E:=E) (s:=s) (P:=λ_ l=>um st l)
     case use =>
      intro H mg;erw[yL (λe=>?_) (λe=>?_)];rotate_left
      ·rwa[H mg _ x]
      ·rwa[H _ _ x]
     clear x N;intro mg st4 v;erw[qQ ?_];erw[yB lb ?_];erw[pK ha ?g0 ?g1 ?g2 ?g3 (λk1 hk1=>?_)]
     case g0=>rwa[v.1.trans hk]
     case g1=>rwa[bm _ lb]
     case g2=>exact(λi hi=>⟨by lia,am _ (by lia)⟩)
     case g3=>lia
     dsimp only;revert out o;apply vy (prog:=prog) (w:=w) (A:=A) (E:=E) (s:=s) (P:=λg d=>nO a b g d n/\d+1<a.size/\i+2<=d+n)
     case use =>
      intro H out o q la G hk1;erw[yL (λe=>?_) (λe=>?_)];rotate_left
      ·rwa[H out o ⟨q,la,G⟩]
      ·have m:=q.as (k:=k1) (by lia);erw[yN (λY=>?_) (λY=>?_)]
       ·rwa[wpS_pure ⟨_,_,_,_,_,_,_,v.trans ⟨rfl,rfl,rfl,rfl⟩,rfl,.inl ⟨_,rfl,m.last⟩⟩]
       erw[yN (λe3=>?_) (λe3=>?_)]
       ·rwa[wpS_pure ⟨_,_,_,_,_,_,_,v.trans ⟨rfl,rfl,rfl,rfl⟩,rfl,.inl ⟨_,rfl,m.done⟩⟩]
       rwa[H _ _ ⟨m,by lia,by lia⟩]
     rintro out d ⟨q,la,q5⟩;erw[yB lb ?_];have y:=q.b lb;erw[yN (λe=>?_) (λe=>?_)]
     ·rwa[wpS_pure ⟨_,_,_,_,_,_,_,v.trans ⟨rfl,rfl,rfl,rfl⟩,rfl,.inl ⟨_,rfl,y.done⟩⟩]
     have J:d<a.size:=by lia
     erw[yB J ?_];erw[pK ha ?g0 ?g1 ?g2 ?g3 (λk2 hk2=>?_)]
     case g0=>rwa[v.1.trans hk]
     case g1=>rwa[am _ J]
     case g2=>exact(λi hi=>⟨by lia,bm _ (by lia)⟩)
     case g3=>lia
     dsimp only;generalize out.push b[n]=B at y ⊢;clear q;have lb6:n+1<b.size:=by lia
     have q6:i+3<=d+(n+1):=by lia
     clear lb e q5;generalize n+1=X at *;revert B X;apply vy (prog:=prog) (w:=w) (A:=A) (E:=E) (s:=s) (P:=λg f=>nO a b g d f/\f<b.size/\i+3<=d+f)
     case use =>
      intro H;rintro B X
      intros
      rename_i hk2 y lb6 q6
      erw[yL (λe=>?_) (λe=>?_)];rotate_left
      ·rwa[H B X ⟨y,lb6,q6⟩]
      ·have m:=y.bs (k:=k2) (by lia);erw[yN (λY=>?_) (λY=>?_)]
       ·rwa[wpS_pure ⟨_,_,_,_,_,_,_,v.trans ⟨rfl,rfl,rfl,rfl⟩,rfl,.inl ⟨_,rfl,m.done⟩⟩]
       rwa[H _ _ ⟨m,by lia,by lia⟩]
     rintro out f ⟨q,lb7,q7⟩;erw[yB J ?_];have M:=q.a J;erw[yN (λe=>?_) (λe=>?_)]
     ·rwa[wpS_pure ⟨_,_,_,_,_,_,_,v.trans ⟨rfl,rfl,rfl,rfl⟩,rfl,.inl ⟨_,rfl,M.last⟩⟩]
     erw[yL (λe=>?_) (λe=>?_)]
     ·rwa[wpS_pure ⟨_,_,_,_,_,_,_,v.trans ⟨rfl,rfl,rfl,rfl⟩,rfl,.inr ⟨rfl,M,by lia,lb7,by lia⟩⟩]
     ·rwa[wpS_pure ⟨_,_,_,_,_,_,v.trans ⟨rfl,rfl,rfl,rfl⟩,rfl,M,by lia,lb7,by lia⟩]
    ·rintro c N ⟨out,o,n,mg,D,C,x,rfl,q,la,lb,G⟩;rwa[_,_,_,_,_,_,_,x,rfl,.inr ⟨rfl,q,la,lb,G⟩]
    ·rintro c N ⟨r,out,o,n,mg,D,C,x,rfl,hr⟩;rcases hr with ⟨z,rfl,pm⟩ | ⟨rfl,q,la,lb,G⟩
     ·rwa[wpS_pure ⟨_,_,_,_,_,x,rfl,pm⟩]
     ·erw[qQ ?_];rwa[wpS_pure ⟨_,_,_,_,x.trans ⟨rfl,rfl,rfl,rfl⟩,rfl,q,la,lb,by lia⟩]
 ·rintro c l ⟨out,o,n,mg,_,rfl,_,h1,h2,h3⟩;exfalso;have:a.size+b.size<=max 0 (a.size+b.size):=Ef _ _;lia
 ·rintro c l ⟨r,out,o,n,mg,kp,rfl,pm⟩;rwa[wpS_pure (h _ _ kp pm)]
end
structure nU(x y out:Array Aj)(na nb:Nat):Prop where
 pm:out.toList.Perm (x.toList.drop na++y.toList.drop nb)
 la:na<=x.size
 lb:nb<=y.size
section
variable{x y out:Array Aj}{na nb:Nat}
def gA{z:Array Aj}{i:Nat}(h:0<i)(h2:i<=z.size):z.toList.drop (i-1)=z[i-1]'(by lia)::z.toList.drop i:=by
 have e:i-1<z.toList.length:=by rw[o7]; lia
 rw[Bm e,show i-1+1=i by lia];rfl
def rg{z:Array Aj}{i k:Nat}(h:k<=i):z.toList.drop k=(z.extract k i).toList++z.toList.drop i:=by
 rw[Cu,BF];have e:=AX (i-k) (z.toList.drop k);rw[List.drop_drop,show k+(i-k)=i by lia] at e;rwa[e.symm]
def nU.a(t:nU x y out na nb)(h:0<na):nU x y (out.push (x[na-1]'(by have:=t.la; lia))) (na-1) nb:=by
 have:=t.la;erw[?_,by lia,t.lb];rw[C8,gA h t.la];refine(t.pm.append_right _).trans ?_;rw[FP];exact(EY _ _)
def nU.b(t:nU x y out na nb)(h:0<nb):nU x y (out.push (y[nb-1]'(by have:=t.lb; lia))) na (nb-1):=by
 have:=t.lb;erw[?_,t.la,by lia];rw[C8,gA h t.lb];refine(t.pm.append_right _).trans ?_;rw[r9];rwa[Aq _ (EY _ _)]
def nU.as(t:nU x y out na nb){k:Nat}(h:k<=na):nU x y (out++(x.extract k na).reverse) k nb:=by
 have:=t.la;erw[?_,by lia,t.lb];rw[Ab,Eo,rg h];refine((t.pm.append_right _).trans (Aq _ (Fs _))).trans ?_;erw[AZ.trans ?_];rw[r9]
def nU.bs(t:nU x y out na nb){k:Nat}(h:k<=nb):nU x y (out++(y.extract k nb).reverse) na k:=by
 have:=t.lb;erw[?_,t.la,by lia];rw[Ab,Eo,rg h];refine((t.pm.append_right _).trans (Aq _ (Fs _))).trans ?_;rw[r9];rwa[Aq _ AZ]
def gX(z:Array Aj)(i:Nat):(z.extract 0 i).toList=z.toList.take i:=by
 rw[Cu,BF,Jy,Gx]
def nU.done(t:nU x y out na nb):(x.extract 0 na++y.extract 0 nb++out.reverse).toList.Perm (x.toList++y.toList):=by
 rw[Ab,Ab,Eo,gX,gX];have h:(x.toList++y.toList)=(x.toList.take na++x.toList.drop na)++(y.toList.take nb++y.toList.drop nb):=by rw[AX,AX]
 rw[h];refine(Aq _ ((Fs _).trans t.pm)).trans ?_;simp only[r9];erw[Aq _ ?_];rw[<- r9,<- r9];rwa[AZ.append_right _]
def nU.first(t:nU x y out na nb):(y.extract 0 nb++x.extract 0 na++out.reverse).toList.Perm (x.toList++y.toList):=by
 erw[Er ?_ t.done];rw[Ab,Ab,Ab,Ab];rwa[AZ.append_right _]
end
section
variable{prog:o0}{w:t7}{A:Ak}{E:c8->d7->Prop}{s:d7}{st:v9}{κ:BA}{ys:List Aj}
def cJ(ha:VB prog w A s κ ys)(hk:kindOf st=κ){a b:Array Aj}(hae:∀ u∈a.toList,u∈ys)(hbe:∀ u∈b.toList,u∈ys)(ha0:0<a.size)(hb0:0<b.size){Q:Array Aj->v9->Prop}
  (h:∀ out l,um st l->out.toList.Perm (a.toList++b.toList)->Q out l):wpS 'c' A E s (VQ a b) Q st:=by
 have am:∀ i,(hi:i<a.size)->a[i]∈ys:=λi hi=>hae _ (by rw[<- BB]; exact r6 _);have bm:∀ i,(hi:i<b.size)->b[i]∈ys:=λi hi=>hbe _ (by rw[<- BB]; exact r6 _);refine zx ?_;refine yB (show a.size-1<a.size by lia) ?_;have t0:nU a b #[a[a.size-1]'(by lia)] (a.size-1) b.size:=by
  erw[?_,by lia,f7 _];rw[gA ha0 (f7 _),F6 (by rw[o7]; rwa[f7 _]),F6 (by rw[o7]; rwa[f7 _])];rwa[EQ _]
 erw[yN (λe=>?_) (λe1=>?_)]
 ·rwa[wpS_pure (h _ _ (um.refl _) t0.done)]
 erw[yN (λe=>?_) (λG=>?_)]
 ·rwa[wpS_pure (h _ _ (um.refl _) t0.first)]
 refine rB ?_;refine xC (I:=λi c l=>L2.E4 λout m nb mg=>L2.A6 (um st l) (c=(J2,m,nb,out,mg)) (nU a b out m nb) (0<m) (1<nb) (i+1+m+nb<=a.size+b.size))
  (Q:=λc l=>L2.E5 λr out m nb mg=>L2.A3 (um st l) (c=(O r,m,nb,out,mg)) (r.toList.Perm (a.toList++b.toList))) ?_ ?_ ⟨_,_,_,_,um.refl _,rfl,t0,by lia,by lia,by lia⟩ ?_
 ·rintro i c st1 _ hi ⟨out,m,nb,mg,kp,rfl,o,la,lb,D⟩;refine xC (I:=λj c l=>L2.E5 λf g d C B=>L2.A6 (um st l) (c=(J2,g,d,f,C,B)) (nU a b f g d) (0<g) (1<d) (i+1+j+g+d<=a.size+b.size))
   (Q:=λc l=>L2.E6 λr f g d C B=>L2.A3 (um st l) (c=(r,g,d,f,C,B)) ((∃ z,r=O z/\z.toList.Perm (a.toList++b.toList))\/(r=J2/\nU a b f g d/\0<g/\1<d/\i+2+g+d<=a.size+b.size))) ?_ ?_ ⟨_,_,_,_,_,kp,rfl,o,la,lb,by lia⟩ ?_
  ·rintro j c X _ hj ⟨out,m,nb,C,B,p,rfl,o,la,lb,D⟩;have l1:=o.la;have l2:=o.lb;refine yB (show nb-1<b.size by lia) (yB (show m-1<a.size by lia) (Wc ha (p.1.trans hk) (bm _ (by lia)) (am _ (by lia)) λwin=>?_));cases win with
   | true =>
    refine yB (show m-1<a.size by lia) ?_;have n:=o.a la;erw[yN (λe=>?_) (λe=>?_)]
    ·rwa[wpS_pure ⟨_,_,_,_,_,_,p,rfl,.inl ⟨_,rfl,n.done⟩⟩]
    ·dsimp only at e;erw[yL (λG=>?_) (λG=>?_)]
     ·rwa[wpS_pure ⟨J2,_,m-1,nb,C+1,0,p,rfl,.inr ⟨rfl,n,by lia,lb,by lia⟩⟩]
     ·rwa[wpS_pure ⟨_,m-1,nb,C+1,0,p,rfl,n,by lia,lb,by lia⟩]
   | false =>
    refine yB (show nb-1<b.size by lia) ?_;have n:=o.b (show 0<nb by lia);erw[yN (λe=>?_) (λe=>?_)]
    ·rwa[wpS_pure ⟨_,_,_,_,_,_,p,rfl,.inl ⟨_,rfl,n.first⟩⟩]
    ·dsimp only at e;erw[yL (λG=>?_) (λG=>?_)]
     ·rwa[wpS_pure ⟨J2,_,m,nb-1,0,B+1,p,rfl,.inr ⟨rfl,n,la,by lia,by lia⟩⟩]
     ·rwa[wpS_pure ⟨_,m,nb-1,0,B+1,p,rfl,n,la,by lia,by lia⟩]
  ·rintro c X ⟨out,m,nb,C,B,_,rfl,o,h1,h2,h3⟩;exfalso;have:a.size+b.size<=max 0 (a.size+b.size):=Ef _ _;lia
  ·rintro c X ⟨r,out,m,nb,C,B,p,rfl,hr⟩;rcases hr with ⟨z,rfl,pm⟩ | ⟨rfl,o,la,lb,D⟩
   ·rwa[wpS_pure ⟨_,_,_,_,_,p,rfl,pm⟩]
   ·erw[zx ?_];erw[xC (I:=λ_ c l=>L2.E6 λf g d N T S=>L2.A6 (um st l) (c=(J2,g,d,f,N,T,S)) (nU a b f g d) (0<g) (1<d) (i+2+g+d<=a.size+b.size)) (Q:=λc l=>L2.E7 λr f g d N T S=>L2.A3 (um st l) (c=(r,g,d,f,N,T,S)) ((∃ z,r=O z/\z.toList.Perm (a.toList++b.toList))\/(r=J2/\nU a b f g d/\0<g/\1<d/\i+2+g+d<=a.size+b.size))) ?_ ?_ ⟨_,_,_,_,_,_,p,rfl,o,la,lb,D⟩ ?_]
    ·rintro j c L _ hj ⟨out,m,nb,mg,C,B,v,rfl,o,la,lb,D⟩;have l1:=o.la;have l2:=o.lb;dsimp only;revert mg;apply jL (prog:=prog) (w:=w) (A:=A) (E:=E) (s:=s) (P:=λ_ l=>um st l)
     case use =>
      intro H mg;erw[yL (λe=>?_) (λe=>?_)];rotate_left
      ·rwa[H mg _ v]
      ·rwa[H _ _ v]
     clear v L;intro mg st4 q;have xb:nb-1<b.size:=by lia
     erw[qQ ?_];erw[yB xb ?_];erw[pK ha ?g0 ?g1 ?g2 ?g3 (λk1 hk1=>?_)]
     case g0=>rwa[q.1.trans hk]
     case g1=>rwa[bm _ xb]
     case g2=>exact(λi hi=>⟨by lia,am _ (by lia)⟩)
     case g3=>lia
     dsimp only;generalize hac:m-k1=acn;revert out m;apply vy (prog:=prog) (w:=w) (A:=A) (E:=E) (s:=s) (P:=λf g=>nU a b f g nb/\0<g/\i+2+g+nb<=a.size+b.size)
     case use =>
      intro H out m
      intros
      rename_i o la D l1 hk1 hac
      erw[yL (λe=>?_) (λe=>?_)];rotate_left
      ·rwa[H out m ⟨o,la,D⟩]
      ·have n:=o.as (k:=k1) (by lia);erw[yN (λG=>?_) (λG=>?_)]
       ·rwa[wpS_pure ⟨_,_,_,_,_,_,_,q.trans ⟨rfl,rfl,rfl,rfl⟩,rfl,.inl ⟨_,rfl,n.done⟩⟩]
       rwa[H _ _ ⟨n,by lia,by lia⟩]
     rintro out m ⟨o,la,q5⟩;erw[yB xb ?_];have x:=o.b (show 0<nb by lia);erw[yN (λe=>?_) (λe=>?_)]
     ·rwa[wpS_pure ⟨_,_,_,_,_,_,_,q.trans ⟨rfl,rfl,rfl,rfl⟩,rfl,.inl ⟨_,rfl,x.first⟩⟩]
     have l1:=o.la;have xa:m-1<a.size:=by lia
     erw[yB xa ?_];erw[pK ha ?g0 ?g1 ?g2 ?g3 (λk2 R=>?_)]
     case g0=>rwa[q.1.trans hk]
     case g1=>rwa[am _ xa]
     case g2=>exact(λi hi=>⟨by lia,bm _ (by lia)⟩)
     case g3=>lia
     dsimp only;generalize out.push b[nb-1]=y at x ⊢;clear o;have Z:1<nb-1:=by lia
     have q6:i+3+m+(nb-1)<=a.size+b.size:=by lia
     have R:k2<=nb-1:=R;have l6:=x.lb;generalize hbc:nb-1-k2=bcn;clear lb e q5 l2;clear xb;generalize nb-1=M at *;revert y M;apply vy (prog:=prog) (w:=w) (A:=A) (E:=E) (s:=s) (P:=λf d=>nU a b f m d/\1<d/\i+3+m+d<=a.size+b.size)
     case use =>
      intro H;rintro y M
      intros
      rename_i _ x Z q6 R l6 hbc
      erw[yL (λe=>?_) (λe=>?_)];rotate_left
      ·rwa[H y M ⟨x,Z,q6⟩]
      ·have n:=x.bs (k:=k2) (by lia);erw[yN (λG=>?_) (λG=>?_)]
       ·rwa[wpS_pure ⟨_,_,_,_,_,_,_,q.trans ⟨rfl,rfl,rfl,rfl⟩,rfl,.inl ⟨_,rfl,n.first⟩⟩]
       erw[yN (λe3=>?_) (λe3=>?_)]
       ·rwa[wpS_pure ⟨_,_,_,_,_,_,_,q.trans ⟨rfl,rfl,rfl,rfl⟩,rfl,.inl ⟨_,rfl,n.done⟩⟩]
       rwa[H _ _ ⟨n,by lia,by lia⟩]
     rintro out d ⟨o,Y,q7⟩;erw[yB xa ?_];have J:=o.a la;erw[yN (λe=>?_) (λe=>?_)]
     ·rwa[wpS_pure ⟨_,_,_,_,_,_,_,q.trans ⟨rfl,rfl,rfl,rfl⟩,rfl,.inl ⟨_,rfl,J.done⟩⟩]
     erw[yL (λe=>?_) (λe=>?_)]
     ·rwa[wpS_pure ⟨_,_,_,_,_,_,_,q.trans ⟨rfl,rfl,rfl,rfl⟩,rfl,.inr ⟨rfl,J,by lia,Y,by lia⟩⟩]
     ·rwa[wpS_pure ⟨_,_,_,_,_,_,q.trans ⟨rfl,rfl,rfl,rfl⟩,rfl,J,by lia,Y,by lia⟩]
    ·rintro c L ⟨out,m,nb,mg,C,B,v,rfl,o,la,lb,D⟩;rwa[_,_,_,_,_,_,_,v,rfl,.inr ⟨rfl,o,la,lb,D⟩]
    ·rintro c L ⟨r,out,m,nb,mg,C,B,v,rfl,hr⟩;rcases hr with ⟨z,rfl,pm⟩ | ⟨rfl,o,la,lb,D⟩
     ·rwa[wpS_pure ⟨_,_,_,_,_,v,rfl,pm⟩]
     ·erw[qQ ?_];rwa[wpS_pure ⟨_,_,_,_,v.trans ⟨rfl,rfl,rfl,rfl⟩,rfl,o,la,lb,by lia⟩]
 ·rintro c l ⟨out,m,nb,mg,_,rfl,o,h1,h2,h3⟩;exfalso;have:a.size+b.size<=max 0 (a.size+b.size):=Ef _ _;lia
 ·rintro c l ⟨r,out,m,nb,mg,kp,rfl,pm⟩;rwa[wpS_pure (h _ _ kp pm)]
end
end PyProof.Rows

namespace PyProof.Rows
structure xK(κ:BA)(ys:List Aj)(st:v9):Prop where
 perm:(arrOf st).toList.Perm ys
 kind:kindOf st=κ
 failed:failedOf st=J2
section
variable{prog:o0}{w:t7}{A:Ak}{E:c8->d7->Prop}{s:d7}{st st':v9}{κ:BA}{ys:List Aj}
def xK.size(h:xK κ ys st):(arrOf st).size=ys.length:=by rw[<- o7]; rwa[h.perm.length_eq]
def xK.mem(h:xK κ ys st){i:Nat}(hi:i<(arrOf st).size):(arrOf st)[i]∈ys:=h.perm.mem_iff.mp (by rw[<- BB]; rwa[r6 _])
def xK.set(h:xK κ ys st){xs:Array Aj}(c:xs.Perm (arrOf st)):xK κ ys (setArr st xs):=⟨(Array.perm_iff_toList_perm.mp c).trans h.perm,h.kind,h.failed⟩
def xK.keep(h:xK κ ys st)(k:um st st'):xK κ ys st':=⟨by rw[k.2.1]; exact h.perm,k.1.trans h.kind,k.2.2.2.trans h.failed⟩
def kM{d:Type}{code:StateT v9 EF d}{P:v9->Prop}{Q:d->v9->Prop}{m:StateT v9 EF d}(use:(∀ c,P c->wpS 'c' A E s code Q c)->wpS 'c' A E s m Q st)(H:∀ c,P c->wpS 'c' A E s code Q c):wpS 'c' A E s m Q st:=use H
def jQ{d:Type}{code:Nat->StateT v9 EF d}{P:Nat->v9->Prop}{Q:d->v9->Prop}{m:StateT v9 EF d}(use:(∀ n c,P n c->wpS 'c' A E s (code n) Q c)->wpS 'c' A E s m Q st)(H:∀ n c,P n c->wpS 'c' A E s (code n) Q c):wpS 'c' A E s m Q st:=use H
def Rc{Q:PUnit->v9->Prop}(h:Q ⟨⟩ c):wpS 'c' A E s (set c:StateT v9 EF PUnit) Q st:=by
 unfold wpS; rw[StateT.run_set]; rwa[i5 ⟨rfl,h⟩]
end
def Wz:∀(m:List Aj)(k o:Nat)(z:Array Aj),o+k+m.length<=z.size->((m.zipIdx k).foldl (λa (p:Aj×Nat)=>a.setIfInBounds (o+p.2) p.1) z).toList=z.toList.take (o+k)++m++z.toList.drop (o+k+m.length)
 | [],k,o,z,_=>by simp
 | x::m,k,o,z,h=>by
  have h:o+k+(m.length+1)<=z.size:=h;rw[Ce,List.foldl_cons,Wz m (k+1) o _ (by rw[Array.size_setIfInBounds]; lia),EZ];have c:o+k<z.toList.length:=by rw[o7]; lia
  rw[List.take_set,List.drop_set_of_lt (by lia)];rw[show o+(k+1)=(o+k)+1 by lia,Hk,c6 c,show o+k+1+m.length=o+k+(m.length+1) by lia];have d:(z.toList.take (o+k)).length=o+k:=by rw[m8]; lia
  show((z.toList.take (o+k))++[z.toList[o+k]]).set (o+k) x++m++_=_;rw[Go _ _ (by lia),d,EA];simp
def uo:Nat->List (Nat×Nat×Nat)->Nat->Prop
 | a,[],b=>a=b
 | a,(x,n,_)::r,b=>x=a/\0<n/\uo (a+n) r b
def uo.le:∀{a:Nat}{l:List (Nat×Nat×Nat)}{b:Nat},uo a l b->a<=b
 | _,[],_,h=>Ey h
 | _,_::_,_,h=>i4 (FR _ _) h.2.2.le
def uo.split:∀{l d:List (Nat×Nat×Nat)}{a b:Nat},uo a (l++d) b↔∃ c,uo a l c/\uo c d b
 | [],d,a,b=>⟨λh=>⟨a,rfl,h⟩,λ⟨c,e,h⟩=>by cases e; rwa[h]⟩
 | (x,n,p)::l,d,a,b=>⟨λ⟨h1,h2,h3⟩=>by obtain⟨c,f,c2⟩:=uo.split.mp h3; exact⟨c,⟨h1,h2,f⟩,c2⟩,λ⟨c,⟨h1,h2,h3⟩,h4⟩=>⟨h1,h2,uo.split.mpr ⟨c,h3,h4⟩⟩⟩
section
variable{prog:o0}{w:t7}{A:Ak}{E:c8->d7->Prop}{s:d7}{st st':v9}{κ:BA}{ys:List Aj}
def bO(x:VB prog w A s κ ys)(j:xK κ ys st){i:Nat}{pre g:List (Nat×Nat×Nat)}{sa d pa f nb H:Nat}(B:(pendingOf st).toList=pre++(sa,d,pa)::(f,nb,H)::g)(hi:pre.length=i)
  (h1:0<d) (h2:0<nb) (h3:sa+d=f) (h4:f+nb<=ys.length) {Q:Bool->v9->Prop}
  (h:∀ st',xK κ ys st'->(pendingOf st').toList=pre++(sa,d+nb,pa)::g->Q J3 st'):wpS 'c' A E s (mergeAt' i) Q st:=by
 have N:(pendingOf st)[i]?=O (sa,d,pa):=by rw[<- BI,B,<- hi,Ae (f7 _),EA]; rfl
 have C:(pendingOf st)[i+1]?=O (f,nb,H):=by rw[<- BI,B,<- hi,Ae (BO _),Jz (f7 _),EA]; rfl
 have z:=j.size;refine rB ?_;rw[N,C];refine wpS_bind (Rc ?_);have J:(((pendingOf st).setIfInBounds i (sa,d+nb,pa)).eraseIdxIfInBounds (i+1)).toList=pre++(sa,d+nb,pa)::g:=by
  rw[Array.toList_eraseIdxIfInBounds,EZ,B,<- hi,Go _ _ (f7 _),EA,List.eraseIdx_append_of_length_le (BO _),Jz (f7 _),EA];rfl
 have l:xK κ ys (setPending st (((pendingOf st).setIfInBounds i (sa,d+nb,pa)).eraseIdxIfInBounds (i+1))):=⟨j.perm,j.kind,j.failed⟩;have r:(pendingOf (setPending st (((pendingOf st).setIfInBounds i (sa,d+nb,pa)).eraseIdxIfInBounds (i+1)))).toList=pre++(sa,d+nb,pa)::g:=J;have G:arrOf (setPending st (((pendingOf st).setIfInBounds i (sa,d+nb,pa)).eraseIdxIfInBounds (i+1)))=arrOf st:=rfl;revert l r G;show _->_->_->wpS _ _ _ _ _ _ (setPending st (((pendingOf st).setIfInBounds i (sa,d+nb,pa)).eraseIdxIfInBounds (i+1)));generalize setPending st (((pendingOf st).setIfInBounds i (sa,d+nb,pa)).eraseIdxIfInBounds (i+1))=y;intro l r G;refine yB (show f<(arrOf st).size by lia) ?_;refine pK (arr:=arrOf st) (base:=sa) (n:=d) x l.kind (j.mem (show f<(arrOf st).size by lia)) (λi hi=>⟨by lia,j.mem _⟩) h1 λk S=>?_;dsimp only;refine yN (λe=>wpS_pure (h _ l r)) (λe=>?_);refine yB (show sa+k+(d-k)-1<(arrOf st).size by lia) ?_;refine pK (arr:=arrOf st) (base:=f) (n:=nb) x l.kind (j.mem (show sa+k+(d-k)-1<(arrOf st).size by lia)) (λi hi=>⟨by lia,j.mem _⟩) (show nb-1<nb by lia) λm R=>?_;dsimp only;refine yN (λe=>wpS_pure (h _ l r)) (λe=>?_);have v:∀{p q:Nat},∀ u∈((arrOf st).extract p q).toList,u∈ys:=λ{p q} u I=>by
  rw[Cu,BF] at I;rwa[j.perm.mem_iff.mp (AM (BP I))]
 have o:∀(out:Array Aj) c,um y c->out.toList.Perm (((arrOf st).extract (sa+k) f).toList++((arrOf st).extract f (f+m)).toList)->wpS 'c' A E s (do
   modify λs=>setArr s (out.toList.zipIdx.foldl (λa (p:Aj×Nat)=>a.setIfInBounds (sa+k+p.2) p.1) (arrOf s))
   return (failedOf (<- get)).isNone) Q c:=λout c kp pm=>by
  have T:out.toList.length=(d-k)+m:=by
   rw[pm.length_eq,f9,o7,o7,E1,E1];lia
  have P:arrOf c=arrOf st:=kp.2.1.trans G;have D:=l.keep kp;erw[qQ (rB ?_)];have L:failedOf c=none:=D.failed;rw[show(failedOf (setArr c (out.toList.zipIdx.foldl (λa (p:Aj×Nat)=>a.setIfInBounds (sa+k+p.2) p.1) (arrOf c)))).isNone=J3 from by rw[show failedOf (setArr c _)=failedOf c from rfl,L]; rfl];erw[wpS_pure (h _ ⟨?_,D.kind,D.failed⟩ ?_)]
  ·show(out.toList.zipIdx.foldl (λa (p:Aj×Nat)=>a.setIfInBounds (sa+k+p.2) p.1) (arrOf c)).toList.Perm ys;rw[P,Wz out.toList 0 (sa+k) _ (by lia)];refine Er ?_ j.perm;have M:((arrOf st).extract (sa+k) f).toList++((arrOf st).extract f (f+m)).toList++(arrOf st).toList.drop (f+m)=(arrOf st).toList.drop (sa+k):=by
    rw[r9,<- rg (by lia),<- rg (by lia)]
   erw[Er ?_ (Ij (AX (sa+k) (arrOf st).toList))];rw[<- M,r9,show sa+k+0+out.toList.length=f+m by lia];rwa[Aq _ (pm.append_right _)]
  ·rw[show pendingOf (setArr c _)=pendingOf c from rfl,kp.2.2.1];rwa[r]
 erw[yL (λC=>wpS_bind (cX x l.kind v v ?_ ?_ λout c kp pm=>o _ _ kp pm)) (λC=>wpS_bind (cJ x l.kind v v ?_ ?_ λout c kp pm=>o _ _ kp pm))]
 all_goals (rw[E1]; lia)
def uo.power:∀{p:List (Nat×Nat×Nat)}{a b:Nat},uo a p b->∀(i pw:Nat),uo a (p.modify i λx=>(x.1,x.2.1,pw)) b
 | [],_,_,h,i,pw=>by cases i <;> rwa[h]
 | (x,n,q)::p,a,b,h,0,pw=>h
 | (x,n,q)::p,a,b,h,i+1,pw=>⟨h.1,h.2.1,h.2.2.power i pw⟩
def uo.two{b i:Nat}(h:uo 0 p b)(hi:i+1<p.length):∃ pre d sa f pa g nb j,p=pre++(sa,f,pa)::(g,nb,j)::d/\pre.length=i/\0<f/\0<nb/\sa+f=g/\g+nb<=b/\uo 0 (pre++(sa,f+nb,pa)::d) b:=by
 have e:p=p.take i++(p[i]::p[i+1]::p.drop (i+2)):=by
  rw[<- Bm,<- Bm,AX]
 rcases m:p[i] with ⟨sa,f,pa⟩
 rcases l:p[i+1] with ⟨g,nb,j⟩
 rw[m,l] at e;rw[e] at h;obtain⟨c,h1,h2,h3,h4,h5,h6⟩:=uo.split.mp h;subst h2 h4;erw[_,_,_,_,_,_,_,_,e,by rw[m8]; lia,h3,h5,rfl,h6.le,uo.split.mpr ⟨_,h1,rfl,by lia,?_⟩];rw[<- Nat.add_assoc];rwa[h6]
def qk(g:VB prog w A s κ ys)(j:xK κ ys st){i b:Nat}(f:uo 0 (pendingOf st).toList b)(q:b<=ys.length)(hi:i+1<(pendingOf st).size){Q:Bool->v9->Prop}
  (h:∀ st',xK κ ys st'->uo 0 (pendingOf st').toList b->(pendingOf st').size+1=(pendingOf st).size->Q J3 st'):wpS 'c' A E s (mergeAt' i) Q st:=by
 obtain⟨pre,c,sa,p,pa,n,nb,o,e,l,h1,h2,h3,h4,h5⟩:=f.two (i:=i) (by rw[o7]; rwa[hi]);erw[bO g j e l h1 h2 h3 (by lia) λst' m d=>h st' m (by rw[d]; rwa[h5]) ?_];rw[<- o7,<- o7,d,e,f9,f9,g8,g8,g8];lia
end
end PyProof.Rows

namespace PySem.W
open PySem PySem.Calls PyProof.Rows
end PySem.W
namespace L2
open PySem PySem.Spec PyProof.Rows PySem.W
section
variable{prog:o0}{w:t7}{A:Ak}{E:c8->d7->Prop}{s:d7}
def lU{M:GP}{d:Type}{f:c8->EF d}{R:d->Prop} : ∀{e:List c8}{Q:List d->d7->Prop},(∀ v∈e,∀ Q:d->d7->Prop,(∀ b,R b->Q b s)->wpAny M A (f v) Q E s)->(∀ bs,(∀ b∈bs,R b)->Q bs s)->wpAny M A (e.mapM f) Q E s
 | [],Q,_,h=>by rw[List.mapM_nil]; exact i5 (h [] λb n=>nomatch n)
 | v::e,Q,j,h=>by
  rw[List.mapM_cons];erw[c9 (j v (.head _) _ λb l=>c9 (lU (R:=R) (λu m=>j u (.tail _ m)) λbs i=>i5 (h _ λc g=>?_)))];rcases l9.mp g with rfl | g
  ·rwa[l]
  ·rwa[i c g]
def VY(h:Aa)(v:c8):Prop:=(∃ i t,v=.int i t)\/∃ a o,v=.ref a/\h.get? a=O o
def Ry(c:VY s.heap v){Q:c8->d7->Prop}(h:∀ b,Q b s):wpAny M A (typeOf v) Q E s:=by
 rcases c with ⟨i,t,rfl⟩ | ⟨a,o,rfl,d⟩
 ·rwa[i5 (h _)]
 ·exact JQ (show Looks M s.heap (typeOf (.ref a)) o.cls from(JZ d).andThen .now) (h _)
def ay{M:GP}{c:List c8}(d:∀ v∈c,VY s.heap v){Q:Option c8->d7->Prop}(h:∀ b,Q b s):wpAny M A (oneTypeOnly' c.toArray) Q E s:=by
 rw[oneTypeOnly'_eq,Hl,map_eq_pure_bind];erw[c9 (c9 (lU (R:=λ_=>True) (λv f g e=>Ry (d v f) λb=>e b trivial) λbs _=>i5 ?_))];split
 ·rwa[i5 (h _)]
 ·rwa[i5 (h _)]
def Tw{M:GP}{d:List c8}(j:∀ v∈d,∃ ns,YH s.heap v ns){Q:BA->d7->Prop}(h:∀ l,Q l s):wpAny M A (keyKind' d.toArray) Q E s:=by
 have m:∀ v∈d,VY s.heap v:=λv g=>by
  obtain⟨ns,a,o,n,f,e,c,_⟩:=j v g;rwa[.inr ⟨a,o,e,c⟩]
 rw[kat_kind_eq,Hl,map_eq_pure_bind];erw[c9 (c9 (lU (R:=λb=>∀ v,b=O v->VY s.heap v) (λv x C u=>?_) λbs i=>i5 ?_))]
 ·obtain⟨ns,a,o,n,f,rfl,c,y,hd,r⟩:=j v x;rw[kas_first_eq];refine c9 (JQ (show Looks M s.heap (typeOf (.ref a)) o.cls from(JZ c).andThen .now) ?_);rw[y,y4 (by first | decide | simp)];erw[c9 (listItems_at c hd (i5 (u _ λv e=>?_)))];cases ns with
  | nil =>
   cases r;cases e
  | cons k B =>
   cases r with
   | cons p q =>
    obtain⟨t,rfl⟩:=p;rw[List.getElem?_toArray,List.getElem?_cons_zero] at e;cases e;rwa[.inl ⟨_,_,rfl⟩]
 ·split
  ·erw[c9 (GY ?_)];have e:bs.toArray.filterMap id=(bs.filterMap id).toArray:=by simp
   rw[e];erw[c9 (ay (λv g=>?_) λb=>i5 (h _))];obtain⟨b,z,e⟩:=CS.mp g;rwa[i b z v e]
  ·split
   ·rwa[i5 (h _)]
   ·rwa[c9 (ay m λb=>i5 (h _))]
end
def cw{d o:Type}{f:d->o}{out m:List o}(h:out.Perm m):∀{l:List d},l.map f=m->∃ c:List d,c.Perm l/\c.map f=out:=by
 induction h with
 | nil=>rwa[λ{l} e=>⟨l,.refl _,e⟩]
 | cons x _ r =>
  intro l e;cases l with
  | nil=>cases e
  | cons a l =>
   obtain⟨c,p,v⟩:=r (FD e).2;rwa[a::c,p.cons _,by rw[j3,v,(FD e).1]]
 | swap x y t =>
  intro l e
  match l,e with
  | a::b::l,e =>
   obtain⟨n,j⟩:=FD e;obtain⟨u,s⟩:=FD j;rwa[b::a::l,.swap ..,by rw[j3,j3,n,u,s]]
 | trans _ _ i g =>
  intro l e;obtain⟨w,p2,j⟩:=g e;obtain⟨q,p1,n⟩:=i j;rwa[q,p1.trans p2,n]
end L2

namespace L2
def wF(H:Hp)(d:c7):Hp:=λb=>if b=d then J2 else H b
def tX{H:Hp} : wF H d d=none:=y6 rfl
def wZ{H:Hp}{d b:c7}(h:b≠d):wF H d b=H b:=y4 h
def gg{H:Hp}(h:wF H d b=O o):b≠d/\H b=O o:=by
 by_cases e:b=d
 ·rw[e,tX] at h; cases h
 ·rwa[e,by rw[<- h,wZ e]]
def uB{H:Hp}(h:H b=J2):wF H d b=none:=by
 by_cases e:b=d
 ·rw[e,tX]
 ·rw[wZ e,h]
def wK{H:Hp}(hd:H d=O ob)(h:H b=O o)(n:ob≠o):wF H d b=O o:=by
 rw[wZ λe=>n ?_]
 ·rwa[h]
 ·rw[e,hd] at h;rwa[t6 h]
def Vy{H:Hp}{d D:c7}(hd:H d=O o)(n:D≠d):upd (upd (wF H d) D v) d o=upd H D v:=by
 funext b
 by_cases e:b=d
 ·rw[e,zA,zG (Bi n),hd]
 ·rw[zG e];by_cases c:b=D
  ·rw[c,zA,zA]
  ·rw[zG c,zG c,wZ e]
section
variable{X:Cx}{J8:List (c7×Bk)}{σ:St}{H H3:Hp}{s s3:d7}{d:c7}{kvs:List (List Key×V)}
def Inv.hide(I:Inv X J8 σ H s)(hd:H d=O (.dT kvs)):Inv X J8 σ (wF H d) s where
 ok:=I.ok
 os:=I.os
 bare:=I.bare
 base:=⟨I.base.keep,I.base.slot,λb o e n g=>uB (I.base.free b o e n g),I.base.there,λb xs e=>wK hd (I.base.tups b xs e) 'n',λb o u e=>wK hd (I.base.frzs b o u e) 'n',
  λb f e=>let ⟨more,q⟩:=I.base.tbls b f e;⟨more,wK hd q 'n'⟩⟩
 loc:=I.loc
 cell:=I.cell
 free:=uB I.free
 freeC:=λx c e=>uB (I.freeC x c e)
 pin:=λp h=>let ⟨h1,h2,h3⟩:=I.pin p h;⟨h1,uB h2,h3⟩
 hok:=λb o e=>by
  obtain⟨_,i⟩:=gg e;exact(I.hok b o i).stay (λc u _ q=>q) (λc q=>wK hd q 'n') λc xs q=>wK hd q 'n'
 len:=I.len
def Inv.back(I:Inv X J8 σ H s)(hd:H d=O (.dT kvs))(J:Inv X J8 σ H3 s3)(v:H3 d=J2)(same:∀ o,s.heap.get? d=O o->s3.heap.get? d=O o)(l:∀ b xs,H b=O 'q'->H3 b=O 'q'):Inv X J8 σ (upd H3 d (.dT kvs)) s3:=by
 have ne:∀{b:c7},H b=J2->b≠d:=λ{b} n e=>by rw[e,hd] at n; cases n
 have f:∀{b:c7}{o:HO},H3 b=O o->upd H3 d (.dT kvs) b=O o:=λ{b o} e=>by
  rw[zG λz=>by rw[z,v] at e; cases e];rwa[e]
 refine⟨J.ok,J.os,J.bare,⟨J.base.keep,J.base.slot,λb o e n g=>?_,J.base.there,λb xs e=>f (J.base.tups b xs e),λb o u e=>f (J.base.frzs b o u e),λb m e=>let ⟨more,q⟩:=J.base.tbls b m e;⟨more,f q⟩⟩,J.loc,J.cell,?_,λx c e=>?_,λp h=>?_,λb o e=>?_,J.len⟩
 ·rw[zG (ne (I.base.free b o e n g))];rwa[J.base.free b o e n g]
 ·rw[zG (ne I.free)];rwa[J.free]
 ·rw[zG (ne (I.freeC x c e))];rwa[J.freeC x c e]
 ·obtain⟨h1,h2,h3⟩:=J.pin p h;rwa[h1,by rw[zG (ne (I.pin p h).2.1)]; exact h2,h3]
 ·by_cases i:b=d
  ·subst i;rw[zA] at e;cases e;obtain⟨z,y,xs,r,o,A,B,h1,h2⟩:=(show wD X.prog X.w H s.heap b (.dT kvs) from I.hok b _ hd);rwa[z,y,xs,KT.keeps r (λc j q=>f (l c j q)),o,A,B,same _ h1,h2]
  ·rw[zG i] at e;exact(J.hok b o e).stay (λc u _ q=>q) (λc q=>f q) λc xs q=>f q
def Itk(c:List (c7×List Key)):It:=⟨λk _=>k<c.length,λk H v e=>e=H/\∃ t,c[k]?=O t/\v=.ref t.1,λk _=>c.length<=k⟩
def Ou(m:Nat)(e:List (j9×Nat))(tl:TE)(g:CC->TG)(j:CC->TT)(l:CC->TE):TE:=λσ H Q=>tl σ H λx f=>E2 λ(d:c7) (kvs:List (List Key×V))=>A3 (x=.ref d) (f d=O (.dT kvs)) (∀(h:List (c7×List Key)),h.map (·.2)=kvs.map (·.1)->(∀ t∈h,f t.1=O (.tup (t.2.map kV)))->∀(c:CC)(D:c7),f D=J2->nD (Itk h) D (g c) (j c) (l c) (fg e m σ) (wF f d) (λv i=>i d=J2->Q v (upd i d (.dT kvs))))
variable{T:List j9}{caps:List (j9×Nat)}{scope:DK}{elt target iter:Ar}{ifs:List Ar}{pos:D5}{tl:TE}{g:CC->TG}{tt:CC->TT}{te:CC->TE}
def Zh(S:rH X caps scope)(hc:X.calm=J3)(hl:PE X iter tl)(hg:∀ c,PG (cxComp X (T++caps.map (·.1)) scope c) target (g c))(ht:∀ c,Qw (cxComp X (T++caps.map (·.1)) scope c) ifs (tt c))(he:∀ c,PE (cxComp X (T++caps.map (·.1)) scope c) elt (te c))
  (hs:∀ x,foldedSetIterable iter X.env x=pure x:=by intro _; rfl):PE X 'f' (Ou T.length caps tl g tt te):=by
 intro J8 s σ H Q I h;rw[eval_ListComp];refine Dz (use:=J2) rfl hs (bu S.cells) S.kind S.loc (thn (hl J8 s σ H _ I h) λv r ⟨x,M,I1,r1,q1⟩=>?_);obtain⟨d,kvs,e,hd,q⟩:=q1;subst e;cases r1;obtain⟨hz,hsm,P,rel,ob,L,l,gd,ex,dat,hes,hjunk⟩:=RX I1.hok hd;have hsz:L.size=P.length:=size_of_entries hes;have R:(P.map λy=>(y.2.1,y.1)).map (·.2)=kvs.map (·.1)/\∀ t∈P.map (λy=>(y.2.1,y.1)),M t.1=O (.tup (t.2.map kV)):=by
  clear hes hsz q hd hz hjunk
  induction rel with
  | nil=>exact⟨rfl,λt ht=>nomatch ht⟩
  | @cons p y ps zs hp t ih =>
   erw[by rw[j3,j3,j3,ih.1,hp.1],λt' ht'=>?_];rcases l9.mp ht' with e | ht'
   ·subst e;show M y.2.1=O (.tup (y.1.map kV));rw[<- hp.1];rwa[hp.2.1]
   ·rwa[ih.2 t' ht']
 have keyAt:∀(k:Nat)(hk:k<L.size),∃ t,(P.map λy=>(y.2.1,y.1))[k]?=O t/\L[k].key=o9 t.1:=λk hk=>by
  have ek:=entry_at hes k;have hk':k<P.length:=by lia
  rw[Ah hk,c6 hk',AB] at ek;erw[_,by rw[e7,c6 hk']; rfl,?_];rw[t6 ek];rfl
 have q:=q _ R.1 R.2;have tlen:(P.map λy=>(y.2.1,y.1)).length=L.size:=by rw[b9,hsz]
 generalize (P.map λy=>(y.2.1,y.1))=ts at R keyAt q tlen;have raw1:YF r.heap d L l:=⟨ob,gd,ex,dat⟩;refine aB hsm raw1 ?_;have I2:Inv X J8 σ (wF M d) { r with heap:=r.heap.push { cls:=.type "dict_keyiterator",data:=.fields #[.ref d,.int 0 0,.int L.size 0,.int l 0] } }:=(I1.hide hd).kept (t':=r.toks) λb o e=>e9 _ e;have ki0:({ r with heap:=r.heap.push { cls:=.type "dict_keyiterator",data:=.fields #[.ref d,.int 0 0,.int L.size 0,.int l 0] } } : d7).heap.IsKeyIter r.heap.objs.size d 0 L.size l:=⟨_,n9 _ rfl,rfl,rfl⟩;have gd2:({ r with heap:=r.heap.push { cls:=.type "dict_keyiterator",data:=.fields #[.ref d,.int 0 0,.int L.size 0,.int l 0] } } : d7).heap.get? d=O ob:=e9 _ gd;have f2:∀ b∈[r.heap.objs.size],bY X J8 (wF M d) b:=λb f=>by
  rw[g6] at f;subst f;rwa[I1.fpOk (f7 _) (uB (I1.hok.fresh (f7 _)))]
 have ndf:d ∉ frs X.stack:=λz=>by
  have:=I1.stkFree d z;rw[hd] at this;cases this
 have dlt:d<r.heap.objs.size:=m7 gd;have fr1:∀ b,r.heap.objs.size<=b->M b=none:=λb f=>I1.hok.fresh f;have q2:∀ c:CC,∀ D:c7,M D=J2->nD (Itk ts) D (g c) (tt c) (te c) (fg caps T.length σ) (wF M d) (λv B=>B d=J2->Q v (upd B d (.dT kvs))):=q;have hsize:({ r with heap:=r.heap.push { cls:=.type "dict_keyiterator",data:=.fields #[.ref d,.int 0 0,.int L.size 0,.int l 0] } } : d7).heap.objs.size=r.heap.objs.size+1:=by rw[CH]
 generalize ({ r with heap:=r.heap.push { cls:=.type "dict_keyiterator",data:=.fields #[.ref d,.int 0 0,.int L.size 0,.int l 0] } } : d7)=s2 at I2 hsize ki0 gd2 ⊢;have itlt:r.heap.objs.size<s2.heap.objs.size:=by rw[hsize]; rwa[CI _]
 generalize r.heap.objs.size=j at ki0 itlt f2 dlt ⊢;refine AI (Ek S.nocell (by intro y hy; simp at hy) (λh1 hn hsb=>?_) S.kind);dsimp only at hn hsb ⊢;generalize hg2:s2.heap.push { cls:=.type "list",dict:=J2,data:=.seq ([]:List c8).toArray }=G at hn hsb ⊢;have hCv:G.objs.size=s2.heap.objs.size+1:=by rw[<- hg2,CH]
 have hDC:G.objs.size≠s2.heap.objs.size:=by rw[hCv]; rwa[FO _]
 have E:s2.heap.objs.size<=G.objs.size:=by rw[hCv]; rwa[BO _]
 have old:∀ b o,s2.heap.get? b=O o->h1.get? b=O o:=λb o e=>hsb.extBut b o (t8 (o3 (m7 e) E)) (e9 _ (hg2 ▸ e9 _ e));have hacc:∃ n,h1.get? s2.heap.objs.size=O { cls:=.type "list",data:=.seq ([]:List c8).toArray n }:=⟨_,hsb.extBut _ _ (Bi hDC) (e9 _ (hg2 ▸ n9 _ rfl))⟩;have hfp:∀ b∈[j],b<s2.heap.objs.size:=λb f=>by
  rw[g6] at f;subst f;rwa[itlt]
 have cs:=rS (env:=X.env) scope.names [] S.cells (λ_ _ z=>by cases z);have I0:=pA (T:=T) (tk:=s2.toks+([]:List (j9×c8)).length) S I2 f2 hfp (f7 _) E hDC old hacc hn;have st0:h1.IsKeyIter j d 0 L.size l:=ki0.at λo e=>old _ o e;have fresh2:wF M d s2.heap.objs.size=none:=I2.hok.fresh (f7 _);have dlt2:d<s2.heap.objs.size:=m7 gd2;obtain⟨W,⟨m0,w0⟩,turn⟩:=q2 ⟨G.objs.size,s2,wF M d,[j]⟩ s2.heap.objs.size (by rw[<- wZ (H:=M) (DS dlt2)]; exact fresh2);have fr0:∀ b∈[j],upd (wF M d) s2.heap.objs.size 'C' b=none:=λb f=>by
  rw[zG (t8 (hfp b f))];exact(f2 b f).1
 have stat:∀{B:Hp},(∀ b∈[j],B b=J2)->∀ b∈[j],bY (cxComp X (T++caps.map (·.1)) scope ⟨G.objs.size,s2,wF M d,[j]⟩) [] B b:=λ{B} hn' b f =>
  ⟨hn' b f,t8 (o3 (hfp b f) E),I0.ok.exfs b f,.inl f,λx c e=>(f2 b f).2.2.2.2.1 x c (cs x c e),λp hp=>y9 (show p∈([]:List (c7×Bk)) from hp) 'd'⟩
 have ndit:d ∉ [j]:=λz=>by rw[g6] at z; rwa[y9 dlt (by rw[z]; exact Bg _)]
 have rawAt:∀{pl:List (c7×Bk)}{C:St}{B:Hp}{s':d7},Inv (cxComp X (T++caps.map (·.1)) scope ⟨G.objs.size,s2,wF M d,[j]⟩) pl C B s'->s'.heap.get? d=O ob/\B d=none:=λ{pl C B s'} I' =>
  ⟨I'.base.keep d ob gd2 tX ndf ndit,I'.base.free d ob gd2 tX ndit⟩
 have Z:∀{h':Aa}{k:Nat},h'.IsKeyIter j d k L.size l->∀ b∈[j],∃ o,h'.get? b=O o/\∀ v,o.data≠.cell v:=λ{h' k} ki b f=>by
  rw[g6] at f;subst f;obtain⟨o,e,_,d2⟩:=ki;exact⟨o,e,λv z=>by rw[d2] at z; cases z⟩
 have loop:codeAny 'b' X.A (.compLoop 'f' 0 (.ref j) (.ref s2.heap.objs.size) 'k')
   (compPost 'b' X.A X.xe J2 (EP X J8 σ Q) (.ref s2.heap.objs.size) G.objs.size) { s2 with heap:=h1,toks:=s2.toks+([]:List (j9×c8)).length }:=by
  erw[codeAny_loop rfl (λn s'=>∃ i C P B,Inv (cxComp X (T++caps.map (·.1)) scope ⟨G.objs.size,s2,wF M d,[j]⟩) [] C B s'/\s'.heap.IsKeyIter j d i L.size l/\(∀ b∈[j],B b=J2)/\W i n C P B) (λn s3 hI=>?_) m0 ⟨0,_,[],_,I0,st0,fr0,w0⟩];obtain⟨i,σ3,P,H3,I3,st3,fr3,w3⟩:=hI;show wpAny _ X.A ((compTurn 'f' 0 (.ref j) (.ref s2.heap.objs.size) 'k').onRaise (λx=>do noteFrame x 'k'; theTreesLotGoes x)) _ _ s3;erw[HY ?_];rw[compTurn_list];erw[c9 (Dw (c9 ?_))];obtain⟨hD3,turn3⟩:=turn i n σ3 P H3 w3;obtain⟨gd3,hd3⟩:=rawAt I3;have raw3:YF s3.heap d L l:=⟨ob,gd3,ex,dat⟩;obtain⟨f0,f1,f2',f3,f4,f5⟩:=stat fr3 j (.head _);rcases turn3 with ⟨stop,qn⟩ | ⟨go,N,hN,step⟩
  ·have stop:ts.length<=i:=stop;refine Vq (I3.ok.hd hc) st3 raw3 (by lia) λh' eb=>?_;have I4:=I3.turned (t':=s3.toks) (λb o f q=>eb b o f q) f0 f1 f3 f4 f5;refine i5 ?_;show ∃ m,h'.Ns G.objs.size m/\∀ h'',BZ G.objs.size h' h''->EP X J8 σ Q (.ref s2.heap.objs.size) { s3 with heap:=h'' };obtain⟨m4,hn4,_⟩:=I4.loc;refine⟨m4,hn4,λh'' sb=>⟨.ref s2.heap.objs.size,upd H3 d (.dT kvs),?_,U,qn hd3⟩⟩;have J:Inv X J8 σ H3 { s3 with heap:=h'' }:=by
    refine I2.call' (s':={ s3 with heap:=h'' }) (ch:=[j]) I4.os (Un.same I4.base sb (Eh E)) (HOk.same I4.hok sb I4.free) I4.bare λb f=>?_;obtain⟨_,f1,_,f3,f4,f5⟩:=f2 b f;rwa[f3,f1,f4,f5]
   erw[I1.back hd J hd3 (λo e=>?_) λb xs e=>?_]
   ·rw[gd] at e;cases e;exact(sb.2 d (t8 (o3 dlt2 E))).trans (eb d ob (λz=>ndit (by rw[z]; rwa[.head _])) gd3)
   ·exact I3.base.tups b xs (wK hd e 'n')
  ·have go:i<ts.length:=go;have hi':i<L.size:=by lia
   obtain⟨t,gt,ek⟩:=keyAt i hi';refine aL st3 raw3 hi' λh' ki' hs'=>?_;have I4:=I3.turned (t':=s3.toks) (λb o f q=>hs'.extBut b o f q) f0 f1 f3 f4 f5;have go':∀{Q':Unit->d7->Prop}{E':c8->d7->Prop}{u:c8},Q' () { s3 with heap:=h' }->wpAny 'b' X.A (letOwnedTupleGo target (.ref j) u) Q' E' { s3 with heap:=h' }:=λ{Q' E' u} hq=>by
    obtain⟨o,e,c,d2⟩:=ki';rwa[bv e c d2 'a' hq]
   refine c9 (go' ?_);have I5':=I4.pinned (stat fr3) (Z ki');rw[ek];refine c9 (gN (hg _ _ _ σ3 H3 (.ref t.1) _ _ I5' rfl (step (.ref t.1) H3 ⟨rfl,t,gt,rfl⟩)) λ_ s6 ⟨σ6,H6,I6,q6⟩=>?_);have again:∀{s7:d7}{Y:St}{zs:List V}{H7:Hp},Inv (cxComp X (T++caps.map (·.1)) scope ⟨G.objs.size,s2,wF M d,[j]⟩) ([]++kP [j] h') Y H7 s7->N Y zs H7 ->
     ∃ m,m<n/\∃ i C P B,Inv (cxComp X (T++caps.map (·.1)) scope ⟨G.objs.size,s2,wF M d,[j]⟩) [] C B s7/\s7.heap.IsKeyIter j d i L.size l/\(∀ b∈[j],B b=J2)/\W i m C P B:=λ{s7 Y zs H7} I7 n7=>by
    obtain⟨m',hm,w7⟩:=hN Y zs H7 n7;erw[m',hm,i+1,Y,zs,H7,I7.unpinned,ki'.at λo e=>(I7.pin (j,o) (t5 _ (t5 _ (uW (.head _) e)))).1,λb f=>?_,w7];obtain⟨o,e,d⟩:=Z ki' b f;exact(I7.pin (b,o) (t5 _ (t5 _ (uW f e)))).2.1
   erw[c9 (gN (ht _ _ s6 σ6 H6 _ I6 q6) λok s7 ⟨H7,I7,q7⟩=>?_)];cases ok with
   | false=>rwa[i5 ⟨rfl,again I7 q7⟩]
   | true =>
    erw[c9 (c9 (gN (he _ _ s7 σ6 H7 _ I7 q7) λy s8 ⟨yv,H8,I8,r8,hD8,hl8,q8⟩=>?_))];erw[c9 (gN (ql _ s8 σ6 H8 (.ref s2.heap.objs.size) [yv] (.ref s2.heap.objs.size) [y] (λ_ H9=>N σ6 (P++[yv]) H9) I8 rfl (.cons r8 .nil) ⟨_,P,yv,rfl,rfl,hD8,hl8,q8⟩) λ_ s9 ⟨_,H9,I9,_,q9⟩=>?_)];rwa[i5 (i5 ⟨rfl,again I9 q9⟩)]
 rwa[codeAny_compStart_list loop (Em st0 loop)]
end
end L2

namespace L2
inductive Deep(K:c5)(H:Hp):Nat->V->V->Bool->Prop where
 | same (n:Nat) (a:c7):Deep K H n (.ref a) (.ref a) J3
 | int (n:Nat) (i j:Int):Deep K H n (.int i) (.int j) (i == j)
 | str (n:Nat) (i j:j9):Deep K H n (.str i) (.str j) (i == j)
 | lst {n:Nat} {a b:c7} {xs ys:List V} {e:Nat->Bool} (ne:a≠b) (ha:SqL K H a xs) (hb:SqL K H b ys) (hl:xs.length=ys.length) (he:∀(j:Nat)(h1:j<xs.length)(h2:j<ys.length),Deep K H n xs[j] ys[j] (e j)):Deep K H (n+1) (.ref a) (.ref b) ((Ad xs.length).all e)
 | lstN {n:Nat} {a b:c7} {xs ys:List V} (ne:a≠b) (ha:SqL K H a xs) (hb:SqL K H b ys) (hl:xs.length≠ys.length):Deep K H (n+1) (.ref a) (.ref b) J7
 | tup {n:Nat} {a b:c7} {xs ys:List V} {e:Nat->Bool} (ne:a≠b) (ha:SqT K H a xs) (hb:SqT K H b ys) (he:∀(j:Nat)(h1:j<xs.length)(h2:j<ys.length),Deep K H n xs[j] ys[j] (e j)):Deep K H (n+1) (.ref a) (.ref b) ((Ad (min xs.length ys.length)).all e&&xs.length == ys.length)
 | tl {n:Nat} {a b:c7} {xs ys:List V} (ne:a≠b) (ha:SqT K H a xs) (hb:SqL K H b ys):Deep K H (n+1) (.ref a) (.ref b) J7
section
variable{X:Cx}{J8:List (c7×Bk)}{σ:St}{H:Hp}{s:d7}
def yY.at(r:yY xs c){j:Nat}(h1:j<xs.length)(h2:j<c.length):xV xs[j] c[j]:=by
 obtain⟨u,e,ru⟩:=r.get (c6 h1);rw[c6 h2] at e;cases e;rwa[ru]
def Deep.at(I:Inv X J8 σ H s){n:Nat}(d:Deep X.K H n x y r):∀{A:Ak}{u v:c8},A.units+n<cLine->xV x u->xV y v->Ec A s u v r/\(u≠v->(∃ a,x=.ref a)->SeqAt.RcAt A s u v r):=by
 induction d with
 | same n a =>
  intro A u v B f c;cases f;cases c;rwa[Ie _,λh=>y9 rfl h]
 | int n i j =>
  intro A u v B f c;obtain⟨t,rfl⟩:=f;obtain⟨J,rfl⟩:=c;exact⟨DF _ _ _ _,λ_ ⟨a,e⟩=>nomatch e⟩
 | str n i j =>
  intro A u v B f c;obtain⟨t,rfl⟩:=f;obtain⟨J,rfl⟩:=c;exact⟨EN _ _ _ _,λ_ ⟨a,e⟩=>nomatch e⟩
 | lst ne q p L M G =>
  intro A u v B f c;cases f;cases c;obtain⟨C,l,o,_⟩:=I.list q;obtain⟨E,g,m,_⟩:=I.list p;have w:=l.length;have D:=g.length;have z:=SeqAt.RcAt.lists (A:=A) (s:=s) o.isList m.isList (by rw[i7,i7]; lia) (by lia) (λj h1 h2=>(G j (by simpa [w] using h1) (by simpa [D] using h2) (A:=A.in1) (show A.units+1+_<cLine by lia) (l.at _ (by simpa using h1)) (g.at _ (by simpa using h2))).1);rw[i7,<- w] at z;rwa[DI ne z,λ_ _=>z]
 | lstN ne q p L =>
  intro A u v B f c;cases f;cases c;obtain⟨C,l,o,_⟩:=I.list q;obtain⟨E,g,m,_⟩:=I.list p;have w:=l.length;have D:=g.length;have z:=SeqAt.RcAt.lists_lengths (A:=A) (s:=s) o.isList m.isList (by rw[i7,i7,bne_iff_ne]; lia) (by lia);rwa[DI ne z,λ_ _=>z]
 | tup ne q p M G =>
  intro A u v B f c;cases f;cases c;obtain⟨C,l,o,_⟩:=I.tuple q;obtain⟨E,g,m,_⟩:=I.tuple p;have w:=l.length;have D:=g.length;have z:=SeqAt.RcAt.tuples (A:=A) (s:=s) (show s.heap.IsTuple _ C.toArray from o) (show s.heap.IsTuple _ E.toArray from m) (by lia) (λj h1 h2=>(G j (by simpa [w] using h1) (by simpa [D] using h2) (A:=A.in1) (show A.units+1+_<cLine by lia) (l.at _ (by simpa using h1)) (g.at _ (by simpa using h2))).1);rw[i7,i7,<- w,<- D] at z;rwa[DI ne z,λ_ _=>z]
 | tl ne q p =>
  intro A u v B f c;cases f;cases c;obtain⟨C,l,o,_⟩:=I.tuple q;obtain⟨E,g,m,_⟩:=I.list p;have z:=SeqAt.RcAt.tuple_list (A:=A) (s:=s) (show s.heap.IsTuple _ C.toArray from o) m.isList (by lia);rwa[DI ne z,λ_ _=>z]
def rEqD(K:c5):R2:=λx y H Q=>E3 λ(a b:c7) (r:Bool)=>A5 (x=.ref a) (y=.ref b) (a≠b) (Deep K H 8 (.ref a) (.ref b) r) (Q (.bl r) H)
def Qa(g:X.A.units+64<cLine):OpR X (compareOp .Eq) (rEqD X.K):=by
 intro J8 s σ H x y v u Q I f c h;obtain⟨a,b,r,rfl,rfl,ne,d,q⟩:=h;cases f;cases c;refine(Deep.at I d (A:=X.A) (by lia) rfl rfl).2 (λe=>ne (by injection e)) ⟨a,rfl⟩ X.prog X.w _ _ ?_;rwa[.bl r,H,I,rfl,q]
def bX:∀(ns d:List Int),ns.length=d.length->(Ad ns.length).all (λj=>ns.getD j 0 == d.getD j 0)=decide (ns=d)
 | [],[],_=>rfl
 | [],_::_,h=>nomatch h
 | _::_,[],h=>nomatch h
 | x::xs,y::c,h=>by
  have i:=bX xs c (by simpa using h);rw[g8,List.range_succ_eq_map,Dx,EB];have e:(Ad xs.length).all ((λj=>(x::xs).getD j 0 ==(y::c).getD j 0) ∘ Nat.succ)=decide (xs=c):=by
   rw[<- i];rfl
  rw[e];by_cases f:x=y
  ·by_cases g:xs=c
   ·simp[f,g]
   ·simp[f,g]
  ·simp[f]
def Xo{K:c5}{H:Hp}{a b:c7}{ns c:List Int}(n:Nat)(ne:a≠b)(h:SqL K H a 'p')(g:SqL K H b (c.map V.int)):Deep K H (n+1) (.ref a) (.ref b) (decide (ns=c)):=by
 by_cases f:ns.length=c.length
 ·have d:=Deep.lst (n:=n) (e:=λj=>ns.getD j 0 == c.getD j 0) ne h g (by rw[b9,b9]; exact f) λj h1 h2=>by
   rw[AR,AR];have l:ns.getD j 0=ns[j]'(by simpa using h1):=by simp[show j<ns.length by simpa using h1]
   have i:c.getD j 0=c[j]'(by simpa using h2):=by simp[show j<c.length by simpa using h2]
   rw[l,i];rwa[.int _ _ _]
  rw[b9,bX ns c f] at d;rwa[d]
 ·rw[y8 (λe=>f (by rw[e]))];rwa[.lstN ne h g (by rw[b9,b9]; exact f)]
def Wd(B:X.calm=J3):tD X (.builtin "min") (λxs H Q=>E2 λ(p:c7) (ns:List Int)=>A4 (xs=[.ref p]) (SqL X.K H p 'p') (ns≠[]) (∀ M:Int,M∈ns->(∀ a∈ns,M<=a)->Q (.int M) H)):=by
 intro J8 s σ H xs D Q I r h;obtain⟨p,ns,rfl,y,i,q⟩:=h;obtain⟨u,rfl,o⟩:=ka r;cases o;obtain⟨f,n,w,E⟩:=I.list y;have hi:C7 f.toArray.toList ns:=oq n;obtain⟨d,e⟩:=hi.allInts.items;have c:ns=d.toList.map (·.1):=by rw[<- hi.numsOf,<- nums_intItems,<- e]
 have g:0<d.size:=by
  have h3:0<ns.length:=GK.mpr i;rw[c,b9,o7] at h3;rwa[h3]
 have C:s.heap.IsList p (intItems d):=by rw[<- e]; rwa[w.isList]
 erw[min_intList (I.ok.hd B) C g λv G m x z=>?_];obtain⟨t,rfl⟩:=intItems_at x;obtain⟨h1,h2⟩:=argBest_lt (numAt d) (d.size-1);erw[.int _,H,I.kept (t':=m) z,⟨t,rfl⟩,q _ ?_ λa l=>?_]
 ·rw[c,numAt_eq]; rwa[getD_mem (by rw[b9,o7]; lia)]
 ·rw[c] at l;obtain⟨j,A,rfl⟩:=mem_getD l;rw[b9,o7] at A;rw[<- numAt_eq]; rwa[h2 j (by lia)]
end
end L2

namespace PyProof.Rows
def rk(r:Aj->Int)(xs:Array Aj)(i:Nat):Int:=(xs[i]?.map r).getD 0
section
variable{r:Aj->Int}{xs zs:Array Aj}{i j:Nat}
def Uh(h:i<xs.size):rk r xs i=r xs[i]:=by unfold rk; rw[Ah h]; rfl
def tf(h:xs[i]?=zs[j]?):rk r xs i=rk r zs j:=by unfold rk; rw[h]
end
def Asc(r:Aj->Int)(xs:Array Aj)(lo hi:Nat):Prop:=∀ i j,lo<=i->i<=j->j<hi->rk r xs i<=rk r xs j
def kQ(prog:o0)(w:t7)(A:Ak)(s:d7)(d:BA)(c:List Aj)(r:Aj->Int):Prop :=
 ∀ x y:Aj,x∈c->y∈c->∀ Q:Bool->d7->Prop,Q (decide (r x<r y)) s->wpAny 'c' A (keyLt' d x.1 y.1) Q (λ_ _=>False) s
section
variable{prog:o0}{w:t7}{A:Ak}{E:c8->d7->Prop}{s:d7}{st:v9}{κ:BA}{ys:List Aj}{r:Aj->Int}
def SV(i:kQ prog w A s κ ys r)(g:kindOf st=κ){x y:Aj}(f:x∈ys)(d:y∈ys){Q:Option Bool->v9->Prop}(h:Q (O (decide (r x<r y))) st):wpS 'c' A E s (lt' x y) Q st:=by
 rw[lt'_eq];erw[wpS_bind (wpS_get ?_)];rw[g];erw[wpS_bind (qb (FC (AW (i x y f d (λb c=>c=s/\b=decide (r x<r y)) ⟨rfl,rfl⟩) (λb c e=>?_) λ_ _ e=>e.elim)))];obtain⟨j,rfl⟩:=e;rwa[j,wpS_pure h]
end
structure Mrg(R:Aj->Aj->Prop)(T o p q:List Aj):Prop where
 pm:(o++(p++q)).Perm T
 sp:(o++p).Pairwise R
 sq:(o++q).Pairwise R
section
variable{r:Aj->Int}{x y out:Array Aj}{ia ib na nb i:Nat}{c:Int}
structure TookR(r:Aj->Int)(x y out:Array Aj)(ia ib:Nat):Prop where
 m:Mrg (λu v=>r u<=r v) (x.toList++y.toList) out.toList (x.toList.drop ia) (y.toList.drop ib)
 la:ia<=x.size
 lb:ib<=y.size
structure LeftR(r:Aj->Int)(x y out:Array Aj)(na nb:Nat):Prop where
 m:Mrg (λu v=>r v<=r u) (x.toList++y.toList) out.toList (x.toList.take na).reverse (y.toList.take nb).reverse
 la:na<=x.size
 lb:nb<=y.size
end
end PyProof.Rows

namespace PyProof.Rows
section
variable{r:Aj->Int}{xs:Array Aj}{lo hi:Nat}
def Asc.snoc(h:Asc r xs lo hi)(d:lo<hi)(o:rk r xs (hi-1)<=rk r xs hi):Asc r xs lo (hi+1):=by
 intro i j h1 h2 h3;by_cases c:j<hi
 ·rwa[h i j h1 h2 c]
 ·have e:j=hi:=by lia
  subst e;by_cases c2:i=j
  ·subst c2;rwa[DQ _]
  ·rwa[F7 (h i (j-1) h1 (by lia) (by lia)) o]
def Asc.one:Asc r xs lo (lo+1):=λi j h1 h2 h3=>by
 rw[show i=j by lia];rwa[DQ _]
def Dsc(r:Aj->Int)(xs:Array Aj)(lo hi:Nat):Prop:=∀ i j,lo<=i->i<=j->j<hi->rk r xs j<=rk r xs i
def Dsc.snoc(h:Dsc r xs lo hi)(d:lo<hi)(o:rk r xs hi<=rk r xs (hi-1)):Dsc r xs lo (hi+1):=by
 intro i j h1 h2 h3;by_cases c:j<hi
 ·rwa[h i j h1 h2 c]
 ·have e:j=hi:=by lia
  subst e;by_cases c2:i=j
  ·subst c2;rwa[DQ _]
  ·rwa[F7 o (h i (j-1) h1 (by lia) (by lia))]
def Dsc.ranks(h:Dsc r xs lo hi)(e:∀ j,rk r c j=rk r xs j):Dsc r c lo hi:=λi j h1 h2 h3=>by
 rw[e i,e j];rwa[h i j h1 h2 h3]
def jz{i j:Nat}(c:j<=xs.size)(k:Nat):rk r (mirror xs i j ((j-i)/2)) k=if i<=k/\k<j then rk r xs (i+j-1-k) else rk r xs k:=by
 have e:=getElem?_mirror_all (i:=i) c k;by_cases h1:i<=k/\k<j
 ·rw[y6 h1] at e ⊢; rwa[tf e]
 ·rw[y4 h1] at e ⊢; rwa[tf e]
def rW{i j:Nat}(d:j<=xs.size)(c:∀ k,i<=k->k<j->rk r xs k=rk r xs (j-1))(k:Nat):rk r (mirror xs i j ((j-i)/2)) k=rk r xs k:=by
 rw[jz d];split
 ·rw[c _ (by lia) (by lia),c k (by lia) (by lia)]
 ·rfl
def Dsc.turn(h:Dsc r xs lo hi)(c:hi<=xs.size):Asc r (mirror xs lo hi ((hi-lo)/2)) lo hi:=λi j h1 h2 h3=>by
 rw[jz c,jz c,y6 ⟨h1,by lia⟩,y6 ⟨by lia,h3⟩];rwa[h _ _ (by lia) (by lia) (by lia)]
def gQ{src d:Nat}(c:src<xs.size)(hd:d<=src)(k:Nat):rk r (bubble xs src d) k=if k=src-d then rk r xs src else if src-d<k/\k<=src then rk r xs (k-1) else rk r xs k:=by
 have e:=getElem?_bubble c d hd k;by_cases h1:k=src-d
 ·rw[y6 h1] at e ⊢; rwa[tf e]
 ·rw[y4 h1] at e ⊢;by_cases h2:src-d<k/\k<=src
  ·rw[y6 h2] at e ⊢; rwa[tf e]
  ·rw[y4 h2] at e ⊢; rwa[tf e]
def Sc(h:∀ i,lo<=i->i+1<hi->rk r xs i<=rk r xs (i+1)):Asc r xs lo hi:=λi j h1 h2 h3=>by
 obtain⟨d,rfl⟩:=Nat.le.dest h2
 induction d with
 | zero=>rwa[DQ _]
 | succ d c=>rwa[F7 (c (FR _ _) (Nat.lt_of_succ_lt h3)) (h (i+d) (i4 h1 (FR _ _)) h3)]
def YC{k l:Nat}(as:Asc r xs lo (lo+k))(d:lo+k<xs.size)(n:l<=k)(h:0<l->rk r xs (lo+(l-1))<=rk r xs (lo+k))(g:l<k->rk r xs (lo+k)<=rk r xs (lo+l)):Asc r (bubble xs (lo+k) (lo+k-(lo+l))) lo (lo+(k+1)):=Sc λi f m=>by
 have e:lo+k-(lo+k-(lo+l))=lo+l:=by lia
 rw[gQ d (Nat.sub_le _ _),gQ d (Nat.sub_le _ _),e];clear e;by_cases o:i+1<lo+l
 ·rw[y4 (by lia),y4 (by lia),y4 (by lia),y4 (by lia)];rwa[as _ _ f (BO _) (by lia)]
 by_cases j:i+1=lo+l
 ·rw[y4 (by lia),y4 (by lia),y6 j];have z:=h (by lia);(rw[show lo+(l-1)=i by lia] at z;assumption)
 by_cases c:i=lo+l
 ·rw[y6 c,y4 (by lia),y6 ⟨by lia,by lia⟩,c];rwa[g (by lia)]
 ·rw[y4 c,y6 ⟨by lia,by lia⟩,y4 (by lia),y6 ⟨by lia,by lia⟩];rwa[as _ _ (by lia) (by lia) (by lia)]
end
section
variable{prog:o0}{w:t7}{A:Ak}{E:c8->d7->Prop}{s:d7}{st st':v9}{κ:BA}{ys:List Aj}{r:Aj->Int}
def Xb(f:kQ prog w A s κ ys r)(e:xK κ ys st){i j:Nat}(hi:i<ys.length)(g:j<ys.length){Q:Option Bool->v9->Prop}(h:Q (O (decide (rk r (arrOf st) i<rk r (arrOf st) j))) st):wpS 'c' A E s (ltAt' i j) Q st:=by
 rw[ltAt'_eq];have z:=e.size;have d:i<(arrOf st).size:=by lia
 have c:j<(arrOf st).size:=by lia
 erw[rB ?_];erw[yB d ?_];erw[yB c ?_];rw[Uh d,Uh c] at h;rwa[SV f e.kind (e.mem _) (e.mem _) h]
def zu{c:Type}(e:kQ prog w A s κ ys r)(g:xK κ ys st){i j:Nat}(hi:i<ys.length)(d:j<ys.length){f:Option Bool->StateT v9 EF c}{Q:c->v9->Prop}(h:wpS 'c' A E s (f (O (decide (rk r (arrOf st) i<rk r (arrOf st) j)))) Q st):wpS 'c' A E s (ltAt' i j >>= f) Q st:=wpS_bind (Xb e g hi d h)
structure qc(κ:BA)(ys:List Aj)(lo:Nat)(st st':v9):Prop where
 base:xK κ ys st'
 pend:pendingOf st'=pendingOf st
 fix:∀ j,j<lo->(arrOf st')[j]?=(arrOf st)[j]?
def qc.rev{lo:Nat}(h:qc κ ys lo st st'){i j:Nat}(hi:lo<=i)(d:j<=ys.length):qc κ ys lo st (setArr st' (mirror (arrOf st') i j ((j-i)/2))):=by
 erw[h.base.set (mirror_perm _ _ _ _),h.pend,λk c=>?_];show(mirror (arrOf st') i j ((j-i)/2))[k]?=_;rw[getElem?_mirror_all (by rw[h.base.size]; rwa[d]),y4 (by lia)];rwa[h.fix k c]
def qr(J:kQ prog w A s κ ys r)(R:xK κ ys st){lo d:Nat}(h1:1<=d)(hn:lo+d<=ys.length){Q:Option Nat->v9->Prop}
  (h:∀ m st',qc κ ys lo st st'->1<=m->m<=d->Asc r (arrOf st') lo (lo+m)->Q (O m) st'):wpS 'c' A E s (countRun' lo d) Q st:=by
 rw[countRun'_eq];erw[xC (I:=λx c st'=>st'=st/\c=(J2,x)/\Asc r (arrOf st) lo (lo+x)) (Q:=λc st'=>∃ n,L2.A6 (st'=st) (c=(J2,n)) (1<=n) (n<=d) (Asc r (arrOf st) lo (lo+n)) (n<d->rk r (arrOf st) (lo+n)<rk r (arrOf st) (lo+n-1))) ?_ ?_ ⟨rfl,rfl,Asc.one⟩ ?_]
 ·rintro x c st' B D ⟨rfl,rfl,as⟩;erw[zu J R (by dsimp only; lia) (by dsimp only; lia) ?_];by_cases c:rk r (arrOf st') (lo+x)<rk r (arrOf st') (lo+x-1)
  ·rw[y7 c];rwa[wpS_pure ⟨x,rfl,rfl,B,by lia,as,λ_=>c⟩]
  ·rw[y8 c];rwa[wpS_pure ⟨rfl,rfl,as.snoc (by lia) (F8.mp c)⟩]
 ·rintro c st' ⟨rfl,rfl,as⟩;have e:max 1 d=d:=by lia
  rw[e] at as ⊢;rwa[_,rfl,rfl,by lia,by lia,as,λz=>y9 z (by lia)]
 rintro c f ⟨n,rfl,rfl,n1,n2,as,l⟩;dsimp only;have N:qc κ ys lo f f:=⟨R,rfl,λ_ _=>rfl⟩;have z1:=R.size;erw[yN (λe=>wpS_pure (h _ _ N n1 n2 as)) (λe1=>?_)];have l:=l (by lia);apply kM (prog:=prog) (w:=w) (A:=A) (E:=E) (s:=s) (P:=λy=>qc κ ys lo f y/\Dsc r (arrOf y) lo (lo+(n+1))) (Q:=Q)
 case use =>
  intro H;erw[yL (λY=>?_) (λY=>?_)]
  ·erw[zu J R (by lia) (by lia) ?_];by_cases c:rk r (arrOf f) lo<rk r (arrOf f) (lo+n-1)
   ·rw[y7 c];rwa[wpS_pure (h _ _ N n1 n2 as)]
   ·rw[y8 c];have eq:∀ k,lo<=k->k<lo+n->rk r (arrOf f) k=rk r (arrOf f) (lo+n-1):=λk k1 k2=>by
     have y1:=as lo k (f7 _) k1 k2;have y2:=as k (lo+n-1) k1 (by lia) (by lia);lia
    have v:=rW (r:=r) (xs:=arrOf f) (i:=lo) (j:=lo+n) (by lia) eq;have p:Dsc r (arrOf f) lo (lo+n):=λi j i1 i2 i3=>by
     rw[eq i i1 (by lia),eq j (by lia) i3];rwa[DQ _]
    erw[wpS_bind (wpS_reverse (H _ ⟨N.rev (f7 _) (by lia),?_⟩))];rwa[Dsc.ranks (p.snoc (by lia) (As l)) v]
  ·have e:n=1:=by lia
   subst e;refine H _ ⟨N,?_⟩;have p:Dsc r (arrOf f) lo (lo+1):=λi j i1 i2 i3=>by
    rw[show i=j by lia];rwa[DQ _]
   rwa[p.snoc (by lia) (As l)]
 intro y ⟨S,p⟩;erw[zx ?_];refine xC (I:=λx c st'=>∃ q,L2.A5 (qc κ ys lo f st') (c=(J2,x,q)) (Dsc r (arrOf st') lo (lo+x)) (q+1<=x) (∀ j,lo+x-(q+1)<=j->j<lo+x->rk r (arrOf st') j=rk r (arrOf st') (lo+x-1))) (Q:=λc st'=>L2.E2 λm q=>L2.A7 (qc κ ys lo f st') (c=(J2,m,q)) (1<=m) (m<=d) (Dsc r (arrOf st') lo (lo+m)) (q+1<=m) (∀ j,lo+m-(q+1)<=j->j<lo+m->rk r (arrOf st') j=rk r (arrOf st') (lo+m-1))) ?_ ?_ ⟨_,S,rfl,p,by lia,λj X T=>by rw[show j=lo+(n+1)-1 by lia]⟩ ?_
 ·rintro x c g B D ⟨q,o,rfl,p,G,eq⟩;have z3:=o.base.size;dsimp only;erw[zu J o.base (by lia) (by lia) ?_];by_cases c:rk r (arrOf g) (lo+x)<rk r (arrOf g) (lo+x-1)
  ·rw[y7 c];erw[yL (λ_=>?_) (λe=>y9 rfl e)];have M:=p.snoc (by lia) (As c);erw[yL (λe=>?_) (λe=>?_)]
   ·have v:=rW (r:=r) (xs:=arrOf g) (i:=lo+x-(q+1)) (j:=lo+x) (by lia) eq;exact wpS_bind (wpS_reverse (wpS_pure ⟨_,o.rev (by lia) (by lia),rfl,Dsc.ranks M v,by lia,λj X T=>by rw[show j=lo+(x+1)-1 by lia]⟩))
   ·exact wpS_pure ⟨_,o,rfl,M,by lia,λj X T=>by rw[show j=lo+(x+1)-1 by lia]⟩
  ·rw[y8 c];erw[zu J o.base (by lia) (by lia) ?_];by_cases c2:rk r (arrOf g) (lo+x-1)<rk r (arrOf g) (lo+x)
   ·rw[y7 c2];rwa[wpS_pure ⟨_,_,o,rfl,by lia,by lia,p,G,eq⟩]
   ·rw[y8 c2];have e0:rk r (arrOf g) (lo+x)=rk r (arrOf g) (lo+x-1):=by lia
    erw[wpS_pure ⟨_,o,rfl,p.snoc (by lia) (by lia),by lia,λj X T=>?_⟩];rw[show lo+(x+1)-1=lo+x by lia,e0];by_cases cj:j=lo+x
    ·rw[cj,e0]
    ·rwa[eq j (by lia) (by lia)]
 ·rintro c g ⟨q,o,rfl,p,G,eq⟩;have e:max (n+1) d=d:=by lia
  rw[e] at p G eq ⊢;rwa[_,_,o,rfl,by lia,by lia,p,G,eq]
 rintro c g ⟨m,q,o,rfl,m1,m2,L,G,eq⟩;have z3:=o.base.size;dsimp only;apply kM (prog:=prog) (w:=w) (A:=A) (E:=E) (s:=s) (P:=λu=>qc κ ys lo f u/\Dsc r (arrOf u) lo (lo+m)) (Q:=Q)
 case use =>
  intro H;erw[yL (λY=>?_) (λY=>?_)]
  ·have v:=rW (r:=r) (xs:=arrOf g) (i:=lo+m-(q+1)) (j:=lo+m) (by lia) eq;rwa[wpS_bind (wpS_reverse (H _ ⟨o.rev (by lia) (by lia),Dsc.ranks L v⟩))]
  ·rwa[H _ ⟨o,L⟩]
 intro u ⟨S4,ds4⟩;have z4:=S4.base.size;erw[wpS_bind (wpS_reverse ?_)];have S5:=S4.rev (i:=lo) (j:=lo+m) (f7 _) (by lia);have Z:Asc r (arrOf (setArr u (mirror (arrOf u) lo (lo+m) ((lo+m-lo)/2)))) lo (lo+m):=ds4.turn (by lia);erw[xC (I:=λx c st'=>qc κ ys lo f st'/\c=(J2,x)/\Asc r (arrOf st') lo (lo+x)) (Q:=λc st'=>∃ n,L2.A5 (qc κ ys lo f st') (c=(J2,n)) (1<=n) (n<=d) (Asc r (arrOf st') lo (lo+n))) ?_ ?_ ⟨S5,rfl,Z⟩ ?_]
 ·rintro x c st' B D ⟨C,rfl,as⟩;erw[zu J C.base (by dsimp only; lia) (by dsimp only; lia) ?_];by_cases c:rk r (arrOf st') (lo+x)<rk r (arrOf st') (lo+x-1)
  ·rw[y7 c];rwa[wpS_pure ⟨x,C,rfl,by lia,by lia,as⟩]
  ·rw[y8 c];rwa[wpS_pure ⟨C,rfl,as.snoc (by lia) (F8.mp c)⟩]
 ·rintro c st' ⟨C,rfl,as⟩;have e:max m d=d:=by lia
  rw[e] at as ⊢;rwa[_,C,rfl,by lia,by lia,as]
 rintro c st6 ⟨k,C,rfl,r1,r2,as⟩;rwa[wpS_pure (h _ _ C r1 r2 as)]
def xx(z:kQ prog w A s κ ys r)(B:xK κ ys st){lo n ok:Nat}(M:lo+n<=ys.length)(h1:1<=ok)(h2:ok<=n)(p:Asc r (arrOf st) lo (lo+ok)){Q:Bool->v9->Prop}
  (h:∀ st',qc κ ys lo st st'->Asc r (arrOf st') lo (lo+n)->Q J3 st'):wpS 'c' A E s (binarySort' lo n ok) Q st:=by
 rw[binarySort'_eq];have G:max ok 1=ok:=by lia
 rw[G];refine xC (I:=λk c st'=>c=(J2,())/\qc κ ys lo st st'/\Asc r (arrOf st') lo (lo+k)) (Q:=λc st'=>c=(J2,())/\qc κ ys lo st st'/\Asc r (arrOf st') lo (lo+n)) ?_ (λ_ _ h=>by rw[show max ok n=n by lia] at h; rwa[h]) ⟨rfl,⟨B,rfl,λ_ _=>rfl⟩,p⟩ ?_
 ·rintro k c d v u ⟨rfl,S,as⟩;have H:=S.base.size;erw[xC (I:=λx c st'=>L2.E2 λl q=>L2.A7 (st'=d) (c=(J2,l,q)) (l<=q) (q<=k) (q-l<=k-x) (∀ j,j<l->rk r (arrOf d) (lo+j)<=rk r (arrOf d) (lo+k)) (∀ j,q<=j->j<k->rk r (arrOf d) (lo+k)<rk r (arrOf d) (lo+j))) (Q:=λc st'=>L2.E2 λl q=>L2.A6 (st'=d) (c=(J2,l,q)) (l=q) (q<=k) (∀ j,j<l->rk r (arrOf d) (lo+j)<=rk r (arrOf d) (lo+k)) (∀ j,q<=j->j<k->rk r (arrOf d) (lo+k)<rk r (arrOf d) (lo+j))) ?_ ?_ ⟨_,_,rfl,rfl,x6 _,f7 _,by lia,λj h=>y9 h (Bh _),λj h1 h2=>y9 h2 (by lia)⟩ ?_]
  ·rintro x c f _ L ⟨l,q,rfl,rfl,D,m,C,i,g⟩;dsimp only;erw[yL (λe=>wpS_pure ⟨_,_,rfl,rfl,by lia,m,i,g⟩) (λe=>?_)];erw[zu z S.base (by lia) (by lia) ?_];by_cases c:rk r (arrOf f) (lo+k)<rk r (arrOf f) (lo+(l+q)/2)
   ·rw[y7 c];erw[wpS_pure ⟨_,_,rfl,rfl,by lia,by lia,by lia,i,λj o J=>?_⟩];rwa[Int.lt_of_lt_of_le c (as _ _ (by lia) (by lia) (by lia))]
   ·rw[y8 c];erw[wpS_pure ⟨_,_,rfl,rfl,by lia,by lia,by lia,λj o=>?_,g⟩];rwa[F7 (as _ _ (by lia) (by lia) (by lia)) (F8.mp c)]
  ·rintro c f ⟨l,q,rfl,rfl,D,m,C,i,g⟩;rwa[_,_,rfl,rfl,by lia,m,i,g]
  ·rintro c f ⟨l,q,rfl,rfl,rfl,m,i,g⟩;show wpS _ _ _ _ (do moveDown' (lo+k) (lo+l); pure (BE (J2,()))) _ _;rw[moveDown'_eq];erw[qQ (wpS_pure ⟨rfl,⟨S.base.set (bubble_perm _ _ _),S.pend,λj y=>?_⟩,?_⟩)]
   ·show(bubble (arrOf f) (lo+k) (lo+k-(lo+l)))[j]?=_;rw[getElem?_bubble (by lia) _ (by lia),y4 (by lia),y4 (by lia)];rwa[S.fix j y]
   ·rwa[YC as (by lia) m (λh=>i _ (Nat.sub_lt h Nat.one_pos)) λh=>As (g l (f7 _) h)]
 ·rintro c d ⟨rfl,S,as⟩;rwa[wpS_pure (h _ S as)]
end
end PyProof.Rows

namespace HT
end HT
namespace PySem.W
open PySem PySem.Calls PyProof.Rows
section
variable{prog:o0}{w:t7}{A:Ak}{E:c8->d7->Prop}{s:d7}
def bt{c:List c8}{n:Nat}{P:JY->d7->Prop}(G:Prop){p:c8->Int}(C:s.heap.get? a=O (seqObj "list" c.toArray n))(B:c.length<=sizeLine)
  (L:2<=c.length->∀ Q:BA->d7->Prop,(∀ o,Q o { s with heap:=xh s.heap a c })->wpAny 'c' A (keyKind' c.toArray) Q E { s with heap:=xh s.heap a c })
  (run:2<=c.length->∀(o:BA)(st:v9),xK o (c.zip c) st->pendingOf st = #[]->∀ Q:Unit->v9->Prop,(∀ d,xK o (c.zip c) d->(G->Asc (λx=>p x.2) (arrOf d) 0 (c.zip c).length)->Q () d)->wpS 'c' A E { s with heap:=xh s.heap a c } sortRuns' Q st)
  (h:∀ out:List c8,out.Perm c->(G->out.Pairwise (λu v=>p u<=p v))->P (.done (.ret .none)) { s with heap:=sortedHeap s.heap a c out.toArray }) :
  wpAny 'c' A (Fh.«list.sort» ⟨[.ref a],[]⟩) P E s:=by
 have N:a<s.heap.objs.size:=m7 C;obtain⟨J,r⟩:∃ J,(s.heap.update a (AG λ_=>(#[]:Array c8))).get? a=O (seqObj "list" #[] J):=⟨_,get?_update_seq C λ_=>#[]⟩;have l:(xh s.heap a c).get? a=O (seqObj "list" #[] J):=e9 _ (e9 _ r);rw[list_sort_plain];refine c9 (listItems_at C rfl ?_);refine c9 (listUpdate_at C rfl ?_ (by rw[i7]; exact B) (x6 _));refine c9 (seqEpoch_at r rfl ?_);refine c9 (wpAny_newTuple ?_ (by show c.length<=_; exact B));refine c9 (FE ?_ (x6 _));refine Cc ?_;show wpAny 'c' A _ P E { s with heap:=xh s.heap a c };dsimp only;have m:(c.toArray.zip c.toArray).map (·.2)=c.toArray:=by
  apply FS.mp;rw[HP,HQ];rwa[FT (f7 _)]
 by_cases h2:c.toArray.size<2
 ·rw[y6 h2,y6 h2];rw[i7] at h2;refine c9 (i5 ?_);rw[Ik];refine c9 (i5 ?_);dsimp only;refine c9 (seqEpoch_at l rfl ?_);refine c9 (listUpdate_at l rfl ?_ (x6 _) (Ft (i4 (Ey ((congrArg Array.size m).trans i7)) B)));simp only[bne_self_eq_false,BL,if_false];refine i5 ?_;have q:=h c (EQ _) (λ_=>by
   match c,h2 with
   | [],_=>rwa[.nil]
   | [x],_=>rwa[CK ..]
   | _::_::_,h=>rwa[y9 h 'd'])
  rw[<- m] at q;rwa[q]
 ·rw[y4 h2,y4 h2];rw[i7] at h2;have y:2<=c.length:=by lia
  refine c9 (L y _ λo=>?_);refine c9 (AW (run y o _ ⟨by rw[show arrOf _=c.toArray.zip c.toArray from rfl,HQ],rfl,rfl⟩ rfl (λ_ d=>xK o (c.zip c) d/\(G->Asc (λx=>p x.2) (arrOf d) 0 (c.zip c).length)) λd b as=>⟨b,as⟩) ?_ λ_ _ e=>e);rintro⟨⟨⟩,d⟩ M ⟨rfl,b,as⟩;dsimp only;have pm:((arrOf d).map (·.2)).toList.Perm c:=by
   rw[HP];refine(b.perm.map _).trans (Ij ?_);rwa[FT (f7 _)]
  have D:((arrOf d).map (·.2)).size<=sizeLine:=by
   rw[<- o7,pm.length_eq];rwa[B]
  have pw:G->((arrOf d).map (·.2)).toList.Pairwise (λu v=>p u<=p v):=λg=>by
   rw[Dp];intro i j hi H I;rw[o7,IB] at hi H;have z:=as g i j (x6 _) (BM I) (by rw[<- b.size]; rwa[H]);rw[Uh hi,Uh H] at z;rw[BB,BB,Hm,Hm];rwa[z]
  erw[c9 (seqEpoch_at l rfl ?_)];erw[c9 (listUpdate_at l rfl ?_ (x6 _) (Ft D))];rw[b.failed];simp only[bne_self_eq_false,BL,if_false];have q:=h _ pm pw;rw[En] at q;rwa[i5 q]
def Um(G:Prop){c:List c8}{Q:c8->d7->Prop}{ρ:c8->Int}(z:s.heap.IsList l c.toArray)(n:c.length<=sizeLine)
  (B:2<=c.length->∀ f:d7,(∀ b o,s.heap.get? b=O o->f.heap.get? b=O o)->∀(q:c8->d7->Prop)(Q:BA->d7->Prop),(∀ j,Q j f)->wpAny 'c' A.in1.in1 (keyKind' c.toArray) Q q f)
  (run:2<=c.length->∀ f:d7,(∀ b o,s.heap.get? b=O o->f.heap.get? b=O o)->∀(q:c8->d7->Prop)(j:BA)(st:v9),xK j (c.zip c) st->pendingOf st = #[]->∀ Q:Unit->v9->Prop,(∀ d,xK j (c.zip c) d->(G->Asc (λx=>ρ x.2) (arrOf d) 0 (c.zip c).length)->Q () d)->wpS 'c' A.in1.in1 q f sortRuns' Q st)
  (h:∀ out:List c8,out.Perm c->(G->out.Pairwise (λu v=>ρ u<=ρ v))->Q (.ref 'l') { s with heap:=sortedAll s.heap c out.toArray }) :
  wpAny 'c' A (call (.builtin "sorted") [.ref l]) Q E s:=by
 refine Ff kind_sorted plain_sorted entry_sorted (args_sorted1 _) ?_;unfold Fh.«sorted»;refine c9 (m:=checkCount "sorted" 1 1 _) (i5 ?_);refine c9 (collect_list z ?_ n);refine c9 (FE ?_ n);have g:((s.heap.push (seqObj "list" #[] 0)).update s.heap.objs.size (AG (· ++ c.toArray))).objs.size=s.heap.objs.size+1:=by
  rw[Heap.size_update,size_push']
 have i:(va s.heap c).get? 'l'=O (seqObj "list" c.toArray 0):=by
  unfold va;rw[<- g]; rwa[n9 _ rfl]
 have keep:∀ b o,s.heap.get? b=O o->(xh (va s.heap c) 'l' c).get? b=O o:=λb o e=>by
  have p:b<s.heap.objs.size:=m7 e;rwa[bi (t8 (Hj p)) (bj e)]
 show wpAny _ _ _ _ _ { s with heap:=va s.heap c };rw[g];erw[c9 (Cc (CJ slot_list_sort ⟨_,i,rfl⟩ entry_list_sort ?body (args_list_sort _)))]
 case body =>
  exact bt G (s:={ s with heap:=va s.heap c }) i n (λh2 D r=>B h2 _ keep _ D r) (λh2=>run h2 _ keep _) λout C y=>⟨_,rfl,i5 ⟨_,rfl,h out C y⟩⟩
end
end PySem.W
namespace L2
open PySem PySem.Spec PyProof.Rows PySem.W
def gq(all:List (List Int))(a:List Int):Int:=((all.filter λb=>HT.lexLt b a).length:Int)
def kh{d:Type}{p q:d->Bool} : ∀{l:List d},(∀ x∈l,p x=J3->q x=J3)->(l.filter p).length<=(l.filter q).length
 | [],_=>f7 _
 | x::l,h=>by
  have e:=kh (l:=l) λy f=>h y (.tail _ f);rw[Bj,Bj];by_cases c:p x=J3
  ·rw[y6 c,y6 (h x (.head _) c),g8,g8];lia
  ·rw[y4 c];split
   ·rw[g8]; lia
   ·rwa[e]
def eY{d:Type}{p q:d->Bool} : ∀{l:List d}{z:d},(∀ x∈l,p x=J3->q x=J3)->z∈l->p z=J7->q z=J3->(l.filter p).length<(l.filter q).length
 | x::l,z,h,e,h1,h2=>by
  rw[Bj,Bj];rcases l9.mp e with rfl | e
  ·rw[y4 (by rw[h1]; decide),y6 h2,g8];have:=kh (l:=l) λy f=>h y (.tail _ f);lia
  ·have g:=eY (l:=l) (λy f=>h y (.tail _ f)) e h1 h2;by_cases c:p x=J3
   ·rw[y6 c,y6 (h x (.head _) c),g8,g8];lia
   ·rw[y4 c];split
    ·rw[g8]; lia
    ·rwa[g]
def Xu{all:List (List Int)}{a b:List Int}(d:a∈all):decide (gq all a<gq all b)=HT.lexLt a b:=by
 unfold gq;cases e:HT.lexLt a b with
 | true =>
  erw[y7 (Int.ofNat_lt.mpr (eY (z:=a) (λx _ c=>ag x a b c e) d (fP a) e))]
 | false =>
  erw[y8 (F8.mpr (Int.ofNat_le.mpr (kh λx _ c=>?_)))];rcases af x a b c with h | h
  ·rwa[h]
  ·rw[e] at h; cases h
def RY{all:List (List Int)}{a b:List Int}(c:b∈all)(h:gq all a<=gq all b):HT.lexLt b a=false:=by
 have z:=Xu (b:=a) c;rw[y8 (F8.mpr h)] at z;rwa[z.symm]
def ZX(xs:List V):List Int:=xs.map λ| V.int i=>i | _=>0
def jV:∀ ns:List Int,ZX 'p'=ns
 | []=>rfl
 | x::ns=>by
  show x::ZX 'p'=_;rw[jV ns]
def XS(H:Hp):c8->List Int
 | .ref a=>match H a with
  | some (.lst xs)=>ZX xs
  | some (.tup xs)=>ZX xs
  | _=>[]
 | _=>[]
def pk{H:Hp}{ns:List Int}(h:H a=O (.tup 'p')):XS H (.ref a)=ns:=by
 show(match H a with | some (.lst xs)=>ZX xs | some (.tup xs)=>ZX xs | _=>[])=_;rw[h];rwa[jV ns]
section
variable{prog:o0}{w:t7}{A:Ak}{E:c8->d7->Prop}{s:d7}
def cA{C:Bool->d7->Prop}{b g:Bool} : ∀{ns j:List Int}{m l:List c8}(_:yY 'p' m)(_:yY (j.map V.int) l)(i:Nat)(_:g=decide (ns.length<j.length))(_:C (HT.lexLt ns j) s),KatLex prog w A b g C (m.zip l) i s
 | [],[],_,_,d,f,i,c,h=>by
  cases d;cases f;rw[c];rwa[kat_nil h]
 | [],_::_,_,_,d,_,i,c,h=>by
  cases d;rw[c];erw[kat_nil ?_];rwa[h]
 | _::_,[],_,_,d,f,i,c,h=>by
  cases f;rw[c,G0];rwa[kat_nil h]
 | x::xs,y::p,_,_,d,f,i,c,h=>by
  cases d with
  | cons p1 o =>
   cases f with
   | cons p2 n =>
    obtain⟨t,rfl⟩:=p1;obtain⟨q,rfl⟩:=p2;rw[EL];erw[kat_cons (FJ ?_)];rw[HT.lexLt_cons] at h;by_cases e:x=y
    ·rw[y6 e] at h;rw[show(x == y)=J3 from by simpa using e];erw[kat_yes (cA o n (i+1) ?_ h)];rw[c,g8,g8];rwa[decide_eq_decide.mpr ⟨λz=>by lia,λz=>by lia⟩]
    ·rw[y4 e] at h;rw[show(x == y)=J7 from by simpa using e];erw[kat_no ?_];cases (b&&i == 0) with
     | true=>rwa[oneLt_int h]
     | false=>rwa[kat_one _ _ (wpAny_lt_int h)]
def ZW{g:List c8}{ρ:c8->Int}(P:A.units<cLine)(R:∀ v∈g,∃ ns,YH s.heap v ns)(B:∀ u∈g,∀ v∈g,∀ ns d,YH s.heap u ns->YH s.heap v d->decide (ρ u<ρ v)=HT.lexLt ns d)(G:BA):kQ prog w A s G (g.zip g) λx=>ρ x.2:=λx y Y X Q h=>by
 have p:=mem_zip_self Y;have m:=mem_zip_self X;obtain⟨ns,j⟩:=R _ p.2;obtain⟨d,i⟩:=R _ m.2;have h:Q (HT.lexLt ns d) s:=by
  rw[<- B x.2 (by rw[<- p.1]; rwa[p.2]) y.2 (by rw[<- m.1]; rwa[m.2]) ns d (by rw[<- p.1]; rwa[j]) (by rw[<- m.1]; rwa[i])];rwa[h]
 obtain⟨a,o,n,I,e1,l,C,hd,z⟩:=j;obtain⟨b,J,L,H,Z,e,f,c,r⟩:=i;rw[e1,Z];have N:C7 I.toArray.toList ns:=oq z;have M:C7 H.toArray.toList d:=oq r;rcases G with _ | _ | bb
 ·show wpAny 'c' A (oneLt' J7 (.ref a) (.ref b)) Q _ s;exact kat_one _ _ (HT.lt_tupInts ⟨o,l,C,n,hd⟩ ⟨J,e,f,L,c⟩ N M P (by first | exact h | exact⟨_,U,h⟩))
 ·show wpAny 'c' A (oneLt' J3 (.ref a) (.ref b)) Q _ s;rw[oneLt'_eq];simp only[if_true];erw[c9 (wpAny_cRoomFor P ?_)];obtain⟨cls,dd,data,T⟩:=o;obtain⟨S,D,data2,q⟩:=J;simp only at C hd f c;subst C hd f c;erw[c9 (wpAny_callSpecialIfBound?_slot ⟨_,l,rfl⟩ D6 (call_meets D6 ⟨_,l,rfl⟩ F2 (FM _ _) (HT.tuple_lt_ints a b I.toArray H.toArray n L dd D T q ns d N M) ⟨l,e,?_⟩))];rwa[Cr h]
 ·have j:=z.length;have i:=r.length;rw[b9] at j i;rwa[kat_lt l hd e c (cA z r 0 (by rw[i7,i7,<- j,<- i]) h)]
end
def Xj:∀{ns g:List Int}{f:List c8},yY 'p' f->yY (g.map V.int) f->ns=g
 | [],[],_,_,_=>rfl
 | [],_::_,_,d,c=>by cases d; cases c
 | _::_,[],_,d,c=>by cases c; cases d
 | x::xs,y::j,_,d,c=>by
  cases d with
  | cons p1 i =>
   cases c with
   | cons p2 h =>
    obtain⟨t,rfl⟩:=p1;obtain⟨l,e⟩:=p2;cases e;rw[Xj i h]
def YH.inj(a:YH h v ns)(b:YH h v f):ns=f:=by
 obtain⟨p,o,n,d,rfl,m,_,r,l⟩:=a;obtain⟨q,s,u,c,e,g,_,i,j⟩:=b;cases e;rw[m] at g;cases g;rw[r] at i;injection i with d3 d4
 have e:d=c:=by injection d3
 subst e;rwa[Xj l j]
end L2

namespace PyProof.Rows
section
variable{prog:o0}{w:t7}{A:Ak}{E:c8->d7->Prop}{s:d7}{st st':v9}{κ:BA}{ys:List Aj}{r:Aj->Int}
def ie(h2:2<=ys.length)(C:ys.length<64)(q:kQ prog w A s κ ys r)(u:xK κ ys st)(p:pendingOf st = #[]){Q:Unit->v9->Prop}(h:∀ st',xK κ ys st'->Asc r (arrOf st') 0 ys.length->Q () st'):wpS 'c' A E s sortRuns' Q st:=by
 rw[sortRuns'_eq];refine wpS_bind (wpS_get ?_);dsimp only;rw[u.size];have em:minRun' ys.length ys.length 0=ys.length:=by
  obtain⟨k,e⟩:∃ k,ys.length=k+1:=⟨ys.length-1,by lia⟩;rw[e,minRun'_succ,y6 (by lia),JA]
 rw[em];erw[wpS_bind (wpS_mono (wpS_forRange (I:=λx c st'=>(x=0/\c=(J2,0)/\st'=st)\/(1<=x/\c=(J2,ys.length)/\xK κ ys st'/\Asc r (arrOf st') 0 ys.length/\(pendingOf st').size=1)) (Q:=λc st'=>c=(J2,ys.length)/\xK κ ys st'/\Asc r (arrOf st') 0 ys.length/\(pendingOf st').size=1) ?_ ?_ (.inl ⟨rfl,rfl,rfl⟩)) ?_)]
 ·rintro x c g _ B (⟨rfl,rfl,rfl⟩ | ⟨y,rfl,m,f,p1⟩)
  ·dsimp only;erw[yL (λe=>y9 e (by lia)) (λe=>?_)];apply jQ (prog:=prog) (w:=w) (A:=A) (E:=E) (s:=s) (P:=λn d=>n=ys.length/\xK κ ys d/\Asc r (arrOf d) 0 ys.length/\pendingOf d = #[])
   case use =>
    intro H;erw[wpS_bind (qr q u (by lia) (by lia) λn l S z J as=>?_)];rw[CV] at as;dsimp only;erw[yL (λG=>?_) (λG=>?_)];rotate_left
    ·have j:n=ys.length:=by lia
     rwa[H n _ ⟨j,S.base,by rw[<- j]; exact as,by rw[S.pend]; exact p⟩]
    ·erw[wpS_bind (qb (GY ⟨rfl,?_⟩))];erw[wpS_bind (xx q S.base (by lia) z (by lia) (by rw[CV]; rwa[as]) λd v i=>?_)];refine yL (λe=>nomatch e) (λ_=>?_);have j:min (ys.length-0) ys.length=ys.length:=by lia
     exact H _ _ ⟨j,v.base,by rw[j,CV] at i; exact i,by rw[v.pend,S.pend]; rwa[p]⟩
   rintro n d ⟨j,o,i,p3⟩;erw[wpS_bind (wpS_get ?_)];have D:(pendingOf d).back?=none:=by rw[p3]; rfl
   rw[D];erw[wpS_bind (wpS_modify (wpS_pure (.inr ⟨by lia,by rw[j,CV],⟨o.perm,o.kind,o.failed⟩,i,?_⟩)))];show((pendingOf d).push _).size=1;rw[Array.size_push,p3];rfl
  ·dsimp only;erw[yL (λe=>wpS_pure ⟨rfl,m,f,p1⟩) (λe=>y9 (f7 _) e)]
 ·rintro c g (⟨h0,_⟩ | ⟨y,rfl,m,f,p1⟩)
  ·lia
  ·rwa[rfl,m,f,p1]
 ·rintro c g ⟨rfl,m,f,p1⟩;erw[wpS_bind (wpS_mono (wpS_forRange (I:=λ_ c st'=>c=(J2,())/\st'=g) (Q:=λc st'=>c=(J2,())/\st'=g) ?_ (λ_ _ h=>h) ⟨rfl,rfl⟩) ?_)]
  ·rintro x c l _ B ⟨rfl,rfl⟩;erw[wpS_bind (wpS_get ?_)];erw[yL (λe=>wpS_pure ⟨rfl,rfl⟩) (λe=>y9 (Ey p1) e)]
  ·rintro c l ⟨rfl,rfl⟩;rwa[wpS_pure (h _ m f)]
end
end PyProof.Rows
namespace L2
open PySem PySem.Spec PyProof.Rows PySem.W
end L2

namespace Sea
structure Rel(b x y:Int)(P P':P3):Prop where
 pos:0<P.2.2
 pos':0<P'.2.2
 ex:(b*P.1+x*P.2.2)*P'.2.2=P'.1*P.2.2
 ey:(b*P.2.1+y*P.2.2)*P'.2.2=P'.2.1*P.2.2
def YX(P:P3):Prop:=0<P.2.2/\Af (Af P.1.natAbs P.2.1.natAbs) P.2.2.natAbs=1
section
variable{b x y:Int}
def leP(P Q:P3):Prop:=leS (0,P) (0,Q)
def RJ(P Q:P3):ahB (0,P) (0,Q)=J3↔P.1*Q.2.2-Q.1*P.2.2<0\/(P.1*Q.2.2-Q.1*P.2.2=0/\P.2.1*Q.2.2-Q.2.1*P.2.2<0):=by
 unfold ahB;dsimp only;split
 ·rename_i h
  rw[decide_eq_true_iff];lia
 ·rename_i h
  rw[decide_eq_true_iff];lia
def UR(d:YX P)(c:YX Q)(h1:leP P Q)(h2:leP Q P):P=Q:=by
 have n1:¬ ahB (0,Q) (0,P)=true:=by intro z; have h1:ahB (0,Q) (0,P)=false:=h1; rw[h1] at z; cases z
 have n2:¬ ahB (0,P) (0,Q)=true:=by intro z; have h2:ahB (0,P) (0,Q)=false:=h2; rw[h2] at z; cases z
 rw[RJ] at n1 n2;rwa[kK d.1 c.1 d.2 c.2 (by lia) (by lia)]
def jZ(c:Cor d P):YX P:=by
 obtain⟨t,_,u,_,h,rfl,_⟩:=c;obtain⟨sp,_,_⟩:=oW h;rwa[sp.pos,sp.low]
def uniq{g:Type}{R:g->g->Prop} : ∀{xs d:List g},xs.Perm d->(∀ a∈xs,∀ c∈xs,R a c->R c a->a=c)->xs.Pairwise R->d.Pairwise R->xs=d
 | [],d,h,_,_,_=>(Ji.mp h).symm
 | u::o,[],h,_,_,_=>y9 (Jj.mp h) 'd'
 | u::o,v::q,h,p,s,r=>by
  obtain⟨n,m⟩:=By.mp s;obtain⟨l,j⟩:=By.mp r;have e:u=v:=by
   have i:u∈v::q:=h.mem_iff.mp (x9 ..);have f:v∈u::o:=h.mem_iff.mpr (x9 ..);rcases l9.mp i with e | i
   ·rwa[e]
   ·rcases l9.mp f with e | f
    ·rwa[e.symm]
    ·rwa[p u (.head _) v (.tail _ f) (n v f) (l u i)]
  subst e;rw[uniq (IA u |>.mp h) (λa z c w=>p a (.tail _ z) c (.tail _ w)) m j]
end
end Sea

namespace L2
section
variable{X:Cx}
def rNeDT(K:c5):R2:=λx y H Q=>E5 λ(a b:c7) (xs c:List V) (e:Nat->Bool)=>A6 (x=.ref a) (y=.ref b) (SqT K H a xs) (SqT K H b c) (∀(j:Nat)(h1:j<xs.length)(h2:j<c.length),Deep K H 8 xs[j] c[j] (e j)) (Q (.bl (!((Ad (min xs.length c.length)).all e&&xs.length == c.length))) H)
def op_neDT(E:X.A.units+64<cLine):OpR X (compareOp .NotEq) (rNeDT X.K):=by
 intro G s C H x y v u Q I n m h;obtain⟨a,b,xs,D,e,rfl,rfl,B,z,r,q⟩:=h;cases n;cases m;obtain⟨l,d,p,_⟩:=I.tuple B;obtain⟨i,c,o,_⟩:=I.tuple z;have g:=d.length;have f:=c.length;refine JO (e:=e) (show s.heap.IsTuple _ l.toArray from p) (show s.heap.IsTuple _ i.toArray from o) (show X.A.units<cLine by lia) (λj h1 h2=>?_) X.prog X.w _ _ ?_
 ·exact(Deep.at I (r j (by simpa [g] using h1) (by simpa [f] using h2)) (A:=X.A.in1) (show X.A.units+1+8<cLine by lia) (d.at _ (by simpa using h1)) (c.at _ (by simpa using h2))).1
 ·rw[i7,i7,<- g,<- f];rwa[.bl _,H,I,rfl,q]
def rNeDL(K:c5):R2:=λx y H Q=>E4 λ(a b:c7) (xs c:List V)=>A7 (x=.ref a) (y=.ref b) (SqL K H a xs) (SqL K H b c) (xs.length=c.length) (∀(j:Nat)(h1:j<xs.length)(h2:j<c.length),Deep K H 8 xs[j] c[j] J3) (Q (.bl J7) H)
def Ws(E:X.A.units+64<cLine):OpR X (compareOp .NotEq) (rNeDL X.K):=by
 intro J s z H x y v u Q I g f h;obtain⟨a,b,xs,B,rfl,rfl,r,p,G,o,q⟩:=h;cases g;cases f;obtain⟨D,d,n,_⟩:=I.list r;obtain⟨C,c,m,_⟩:=I.list p;have l:=d.length;have i:=c.length;refine G3 (e:=λ_=>J3) n.isList m.isList (by rw[i7,i7]; lia) (show X.A.units<cLine by lia) (λj h1 h2=>?_) X.prog X.w _ _ ?_
 ·exact(Deep.at I (o j (by simpa [l] using h1) (by simpa [i] using h2)) (A:=X.A.in1) (show X.A.units+1+8<cLine by lia) (d.at _ (by simpa using h1)) (c.at _ (by simpa using h2))).1
 ·rw[xi];rwa[.bl _,H,I,rfl,q]
end
end L2

namespace L2
def sz0:0<=sizeLine:=by decide
def sz1:1<=sizeLine:=by decide
def sz2:2<=sizeLine:=by decide
def sz3:3<=sizeLine:=by decide
def gt2:(0:Int)<2:=by decide
def gt3:(0:Int)<3:=by decide
def gt4:(0:Int)<4:=by decide
def gt5:(0:Int)<5:=by decide
section
variable{X:Cx}{x:j9}{p pos:D5}{a b e c:Ar}{es:List Ar}{t:TA}{te ta tb:TE}{id T:String}{r:List V->Hp->VK->Prop}{n:Nat}{ps:List j9}{sp:Sp}
def Qd(h:starEach (e::es) X.env='A'::starEach es X.env)(f:PE X e te)(d:PA X es t):PA X (e::es) (Sm te t):=zD f d h
def Oq(h:PE X (.Name x pos) te):PE X (.Name x pos) te:=h
def m_sub(h:PE X (.Subscript a b pos) te):PE X (.Subscript a b pos) te:=h
def PK(h:PE X 't' te):PE X 't' te:=h
def m_bin(h:PE X (.BinOp a d b pos) te):PE X (.BinOp a d b pos) te:=h
def m_cmp{d:Ir}(h:PE X (.Compare a [d] [b] pos) te):PE X (.Compare a [d] [b] pos) te:=h
def Pg{f:Ir}(h:PT X (.Compare a [f] [b] pos) d):PT X (.Compare a [f] [b] pos) d:=h
def RO(h:PW X (.BoolOp f es pos) d):PT X (.BoolOp f es pos) d:=h.pt
def m_val{f:TE}(g:∀ d,isTrue e X.env d=(do let v <- d; standAt e.pos; holding [v] (truthy v)))(h:PE X e f):PT X e (tB f):=kG h g
def m_ix(d:Xs b)(g:PE X a ta)(f:PE X b tb):PE X (.Subscript a b pos) (tOp (Od X.K) ta tb):=iF lL g f d
def cL(m:tD X (.builtin id) r)(g:bootBuiltins x=O (.builtin id))(i:X.mg x=J2)(j:Gl X x)(h:x ≠ "__name__")(f:(x ==("__debug__" : j9))=J7)
  (l:starEach (e::es) X.env='A'::starEach es X.env) (d:(backTo pos 'B').any (·.1)=J7) (o:PA X (e::es) t):PE X 't' (tCB r t):=yP m j i g o h f l d
def Om(m:tD X (.type T) r)(g:bootBuiltins x=O (.type T))(i:X.mg x=J2)(j:Gl X x)(h:x ≠ "__name__")(f:(x ==("__debug__" : j9))=J7)
  (l:starEach (e::es) X.env='A'::starEach es X.env) (d:(backTo pos 'B').any (·.1)=J7) (o:PA X (e::es) t):PE X 't' (tCB r t):=tV m j i g o h f l d
def m_own{K:c5}{mg:j9->Option c8}(h:Has P w K mg B x n ps sp)(m:X.prog=P/\X.w=w/\X.K=K/\X.mg=mg/\X.base=B)(g:yn n X.A)(i:Gl X x)(f:(x ==("__debug__" : j9))=J7)
  (j:starEach (e::es) X.env='A'::starEach es X.env) (d:(backTo pos 'B').any (·.1)=J7) (l:PA X (e::es) t):PE X 't' (ZO sp [] E0 t):=by
 obtain⟨rfl,rfl,rfl,rfl,rfl⟩:=m;rwa[xI h g i l f j d]
def zQ(i:Nat){te:TE}(j:X.N.Nodup)(h:PE X e te)(hi:X.N[i]?=O x:=by rfl)(d:Loc X.env.scope x:=by first | exact B9 rfl | exact HG rfl)(f:swapsWith e (O (.Name x pos')) pos.line X.env=pure false:=by rfl)
  (g:X.fn x=J3\/X.env.scope.names.lookup x=O .local:=by first | exact .inl rfl | exact .inr rfl | assumption):PS X (.Assign [.Name x pos'] e pos) (Ol te (Za i)):=aV j hi d h f g
def uY(i:Nat)(g:X.N.Nodup)(hi:X.N[i]?=O x:=by rfl)(d:Loc X.env.scope x:=by first | exact B9 rfl | exact HG rfl)(f:X.fn x=J3\/X.env.scope.names.lookup x=O .local:=by first | exact .inl rfl | exact .inr rfl | assumption) :
  PG X (.Name x pos) (Za i):=iU g hi d f
def qo{to:TE}{g d:D5}(m:PE X o to)(q:PA X (e::es) t)
  (i:attributeBase o "append" X.env (eval o X.env)=eval o X.env:=by rfl)
  (j:((backTo d (starEach (e::es) X.env)).all (λx=>!x.1)&&(backToKw d (keywordEach [] X.env)).all (λx=>x.1.isSome)
   && decide ((e::es).length+([]:List Fk).length+(if ([]:List Fk).isEmpty then 0 else 1)<30))=true:=by rfl)
  (h:(g.endLine == d.line)=true:=by rfl) (l:starEach (e::es) X.env='A'::starEach es X.env:=by rfl) (f:(backTo d 'B').any (·.1)=false:=by rfl) :
  PE X (.Call (.Attribute o "append" g) (e::es) [] d) (tBM X.K "list" Wb to t):=VT DR PySem.F.slot_list_append PySem.F.type_list_append ql m q i j h l f
end
end L2

namespace L2
def InB(B:Aa)(c:c5->Prop):Prop:=∃ K:c5,K.In B/\c K
abbrev Cx.withK(X:Cx)(K:c5):Cx:={ X with K:=K }
def Mod.withK{K c:c5}{mg:j9->Option c8}(m:Mod K mg B)(h:c.In B):Mod c mg B:={ m with kin:=h }
section
variable{X:Cx}{J8:List (c7×Bk)}{σ:St}{H:Hp}{s:d7}{K:c5}
def Cx.Ok.withK(ok:X.Ok)(h:K.In X.base):(X.withK K).Ok :=
 ⟨ok.mod.withK h,ok.kind,ok.glob,ok.blt,ok.above,ok.inj,ok.has,ok.cab,ok.hd,ok.frames,ok.stk,ok.exf,ok.bs,ok.bsz,ok.noex,ok.exfs,ok.funs,ok.frf⟩
def Cx.Ok.unK(ok:(X.withK K).Ok)(h:Mod X.K X.mg X.base):X.Ok :=
 ⟨h,ok.kind,ok.glob,ok.blt,ok.above,ok.inj,ok.has,ok.cab,ok.hd,ok.frames,ok.stk,ok.exf,ok.bs,ok.bsz,ok.noex,ok.exfs,ok.funs,ok.frf⟩
def Inv.withK(I:Inv X J8 σ H s)(h:K.In X.base):Inv (X.withK K) J8 σ H s:=⟨I.ok.withK h,I.os,I.bare,I.base,I.loc,I.cell,I.free,I.freeC,I.pin,I.hok,I.len⟩
def Inv.unK(I:Inv (X.withK K) J8 σ H s)(h:Mod X.K X.mg X.base):Inv X J8 σ H s:=⟨I.ok.unK h,I.os,I.bare,I.base,I.loc,I.cell,I.free,I.freeC,I.pin,I.hok,I.len⟩
end
section
variable{X:Cx}{o e value:Ar}{es:List Ar}{f m:j9}{pos pos' apos:D5}{ta tv:TE}{t:TA}{C g:c7}{n:Nat}{ps:List j9}{sp:Sp}
inductive TFld(C:c7)(f:j9)(x:V)(H:Hp)(Q:VK):Prop where
 | mk (a dx:c7) (fs:List (j9×V)) (v:V) (ex:x=.ref a) (ea:H a=O (.ins C dx fs)) (l:fs.lookup f=O v) (q:Q v H)
def tFld2(C:c7)(f:j9)(ta:TE):TE:=λc H Q=>ta c H λx d=>TFld C f x d Q
def vc(p:InB X.base λK=>Cls K C/\vn K C f)(j:PE X e ta)(r:attributeBase e f X.env (eval e X.env)=eval e X.env:=by rfl):PE X (.Attribute e f pos) (tFld2 C f ta):=by
 obtain⟨K,y,c,n⟩:=p;intro z s d H Q I h;erw[RT r (thn (j z s d H _ I h) λu J ⟨x,D,B,i,a,L,fs,v,ex,w,l,q⟩=>?_)];subst ex;obtain rfl:u=o9 a:=i;rwa[Yj (X:=X.withK K) (B.withK y) w c n l λE G A ru=>⟨v,D,A.unK I.ok.mod,ru,q⟩]
inductive SFld(C:c7)(f:j9)(y x:V)(H:Hp)(Q:Hp->Prop):Prop where
 | mk (a dx:c7) (fs:List (j9×V)) (ex:x=.ref a) (ea:H a=O (.ins C dx fs)) (l:fs.length<1000) (q:Q (upd H a (.ins C dx (nZ f y fs))))
def sFld2(C:c7)(f:j9)(ta tv:TE):TS:=λD c H=>tv c H λy h=>ta c h λx d=>SFld C f y x d (D.nx c)
def mR(B:InB X.base λK=>Cls K C/\vn K C f)(E:PE X o ta)(z:PE X value tv)(A:swapsWith value (O (.Attribute o f pos')) pos.line X.env=pure false:=by rfl):PS X (.Assign [.Attribute o f pos'] value pos) (sFld2 C f ta tv):=by
 obtain⟨K,J,c,n⟩:=B;intro i s d H D I h;erw[plainObj_wpAny_Assign_Attribute (thn (z i s d H _ I h) λu j ⟨y,P,N,p,q⟩=>thn (E i j d P _ N q) λw R ⟨x,T,M,r,a,S,fs,ex,G,l,v⟩=>?_) A];subst ex;obtain rfl:w=o9 a:=r;rwa[Yt (X:=X.withK K) (M.withK J) G c n l p λQ L=>⟨d,_,L.unK I.ok.mod,v⟩]
def eF(h:Has X.prog X.w X.K X.mg X.base x n ps sp)(d:yn n X.A)(i:Gl X x)(c:(x ==("__debug__" : j9))=false:=by decide):PE X (.Call (.Name x p) [] [] pos) (ZO sp [] E0 Pn):=by
 obtain⟨f,fd,F,b,k,m⟩:=h;rwa[Vc F d i m k b .nil YO c]
def YE(P:o0)(w:t7)(K:c5)(mg:j9->Option c8)(base:Aa)(g:c7)(n:Nat)(ps:List j9)(sp:Sp):Prop :=
 ∃ fd:AK,yR P w K mg base CX0 n g fd ps sp/\∀ c:List c8,c.length=ps.length->bindArgs fd ⟨c,[]⟩=pure (ps.zip c)
inductive TMeth(C:c7)(m:j9)(x:V)(H:Hp)(q:Prop):Prop where
 | mk (a dx:c7) (fs:List (j9×V)) (ex:x=.ref a) (ea:H a=O (.ins C dx fs)) (l:fs.lookup m=J2) (k:q)
def TW(C:c7)(m:j9)(sp:Sp)(ta:TE)(t:TA):TE:=λc H Q=>ta c H λx d=>TMeth C m x d (t c d λh i=>sp (x::h) i Q E0)
def pe_methH(T:InB X.base λK=>Cls K C/\YG K C m g)(h:YE X.prog X.w X.K X.mg X.base g n ps sp)(R:yn n X.A)(S:PE X o ta)(Y:PA X (e::es) t)
  (i:starEach (e::es) X.env='A'::starEach es X.env:=by rfl) (j:(backTo pos 'B').any (·.1)=false:=by rfl)
  (P:eval (.Call (.Attribute o m apos) (e::es) [] pos) X.env=(do
   let B <- eval o X.env
   standAt apos.atName
   let (f,first) <- holding [B] (getMethod B m d)
   callWith pos f first (backTo pos (starEach (e::es) X.env)) (backToKw pos (keywordEach [] X.env))):=by rfl) :
  PE X (.Call (.Attribute o m apos) (e::es) [] pos) (TW C m sp ta t):=by
 obtain⟨K,p,c,D⟩:=T;obtain⟨fd,F,b⟩:=h;intro E s v H Q I h;erw[D9 (pl:=d) (thn (S E s v H _ I h) λu L ⟨x,H1,J,M,a,dx,fs,ex,Z,l,q⟩=>?_) P];subst ex;obtain rfl:u=o9 a:=M;erw[ph (X:=X.withK K) (J.withK p) Z c D l ?_];erw[CT (first:=[.ref a]) (h₀:=X.base) (K:=K) p D.kp (thn (Y pos E L v H1 _ J q) λz s2 ⟨y,H2,G,r,N⟩=>⟨(G.withK p).kIn,?_⟩) i j];rwa[Zq (us:=.ref a::z) (vs:=.ref a::y) (dvs:=[]) (ds:=[]) F R (.all b) .nil YO G (.cons rfl r) (by rw[BX]; exact N)]
def wN(E:InB X.base λK=>Cls K C/\YG K C m g)(h:YE X.prog X.w X.K X.mg X.base g n ps sp)(B:yn n X.A)(D:PE X o ta)
  (z:eval (.Call (.Attribute o m apos) [] [] pos) X.env=(do
   let j <- eval o X.env
   standAt apos.atName
   let (f,first) <- holding [j] (getMethod j m d)
   callWith pos f first (backTo pos (starEach [] X.env)) (backToKw pos (keywordEach [] X.env))):=by rfl) :
  PE X (.Call (.Attribute o m apos) [] [] pos) (TW C m sp ta Pn):=by
 obtain⟨K,r,c,p⟩:=E;obtain⟨fd,F,b⟩:=h;intro J s v H Q I h;erw[D9 (pl:=d) (thn (D J s v H _ I h) λu L ⟨x,N,i,y,a,M,fs,ex,G,l,q⟩=>?_) z];subst ex;obtain rfl:u=o9 a:=y;erw[ph (X:=X.withK K) (i.withK r) G c p l ?_];rwa[Ev (first:=[.ref a]) (i.withK r).kIn p.kp (Zq (us:=[.ref a]) (vs:=[.ref a]) (dvs:=[]) (ds:=[]) F B (.all b) .nil YO i (.cons rfl .nil) q)]
def PB(C:c7)(sp:Sp):TE:=λ_ H Q=>∀ x c,H x=J2->H c=J2->c≠x->sp [.ref x] (upd (upd H c (.own x)) x (.ins C c [])) (λv d=>v=.non/\Q (.ref x) d) E0
def yR.withK{K u:c5}{mg:j9->Option c8}{k:Nat}{f:c7}(F:yR P w K mg B CX0 k f fd ps sp)(h:K.In B):yR P w u mg B CX0 k f fd ps sp :=
 ⟨F.len,λA outer s H c l j Q E p i q r d=>F.run A outer s H c l j Q E p { i with mod:=i.mod.withK h } q r d⟩
def fW(l:InB X.base λK=>Mk K C g)(h:YE X.prog X.w X.K X.mg X.base g n ps sp)(d:yn (n+1) X.A)(i:X.mg x=O (.ref C))(j:Gl X x:=by rfl)(c:(x ==("__debug__" : j9))=false:=by decide) :
  PE X (.Call (.Name x p) [] [] pos) (PB C sp):=by
 obtain⟨K,y,M⟩:=l;obtain⟨fd,F,b⟩:=h;intro L s E H Q I h;erw[Cf (yr I j i ?_ c)];have J:=I.withK y;erw[Ev J.kIn M.kp (AW (VX (X:=X.withK K) (us:=[]) (vs:=[]) (dvs:=[]) (ds:=[]) M (F.withK I.ok.mod.kin) d (.all b) .nil YO J .nil h) (λu G ⟨v,D,B,r,q⟩=>⟨v,D,B.unK I.ok.mod,r,q⟩) λ_ _ z=>z)]
end
end L2

namespace L2
structure M1(X:Cx)(o:Ar)(m:j9)(apos:D5)(e:Ar)(cpos:D5):Prop where
 base:attributeBase o m X.env (eval o X.env)=eval o X.env
 few:((backTo cpos (starEach [e] X.env)).all (λx=>!x.1)&&(backToKw cpos (keywordEach [] X.env)).all (λx=>x.1.isSome)
  && decide (([e]:List Ar).length+([]:List Fk).length+(if ([]:List Fk).isEmpty then 0 else 1)<30))=J3
 line:(apos.endLine == cpos.line)=J3
 trees:backTo cpos (starEach [e] X.env)=[(J7,eval e X.env)]
structure M2(X:Cx)(o:Ar)(m:j9)(apos:D5)(e f:Ar)(cpos:D5):Prop where
 base:attributeBase o m X.env (eval o X.env)=eval o X.env
 few:((backTo cpos (starEach [e,f] X.env)).all (λx=>!x.1)&&(backToKw cpos (keywordEach [] X.env)).all (λx=>x.1.isSome)
  && decide (([e,f]:List Ar).length+([]:List Fk).length+(if ([]:List Fk).isEmpty then 0 else 1)<30))=J3
 line:(apos.endLine == cpos.line)=J3
 trees:backTo cpos (starEach [e,f] X.env)=[(J7,eval e X.env),(J7,eval f X.env)]

def IsD(H:Hp)(a:c7):Prop:=(∃ c,Rd H a (.dK c))\/∃ c,Rd H a (.dT c)
def PU{g:St}{H:Hp}(I:Inv X h g H s)(d:IsD H a) :
  s.TypeIs (.ref a) "dict" /\ (∀ b,o9 a=.ref b->∃ ob,s.heap.get? b=O ob/\ob.dict=J2)/\(a == sysModules)=false:=by
 rcases d with ⟨f,e⟩ | ⟨f,e⟩
 ·obtain⟨_,hd,i,_,c⟩:=gf I.hok e;erw[c.typeIs,λb q=>?_,hd];cases q;obtain⟨ob,_,_,h1,h2,_⟩:=c;rwa[ob,h1,h2.2.1]
 ·obtain⟨_,hd,xs,_,c⟩:=Yi I.hok e;erw[c.typeIs,λb q=>?_,hd];cases q;obtain⟨ob,_,_,h1,h2,_⟩:=c;rwa[ob,h1,h2.2.1]


def PH(g ty:TE):TE:=λd H Q=>g d H λx f=>∃ a,A3 (x=.ref a) (IsD f a) (ty d f λy e=>E3 λc k v=>A4 (e a=O (.dK c)) (y=kV k) (vR c k=O v) (Q v (upd e a (.dK (gF c k)))))
section
variable{X:Cx}{o e f:Ar}{apos cpos:D5}{td ty tx:TE}
def Tx(C:PE X o td)(D:PE X e ty)(m:M1 X o "pop" apos e cpos):PE X (.Call (.Attribute o "pop" apos) [e] [] cpos) (PH td ty):=by
 intro i s g H Q I h;erw[Fu m.base m.few m.line Hn Gm PySem.F.type_dict_pop (thn (C i s g H _ I h) λu q ⟨x,L,j,w,a,ex,d,A⟩=>?_)];subst ex;obtain rfl:u=o9 a:=w;obtain⟨p,n,_⟩:=PU j d;exists p,n;rw[m.trees];erw[F4 rfl (Ei (GZ (thn (D i q g L _ j A) λR P ⟨y,S,J,r,B,k,v,E,ey,l,z⟩=>Hf ?_)))];subst ey;rwa[d_pop J E r l (.inl rfl) λM N G c=>⟨v,_,G,c,z⟩]
end

section
variable{X:Cx}{J8:List (c7×Bk)}{σ:St}{H:Hp}{s:d7}{a:c7}{kvs:List (Key×V)}{A:Ak}{E:c8->d7->Prop}
def VL{Q:c8->d7->Prop}(I:Inv X J8 σ H s)(e:Rd H a (.dK kvs))(h:∀ p d,H p=J2->Inv X J8 σ (upd H p (.dK kvs)) d->Q (.ref p) d):wpAny 'b' A (call (.type "dict") [.ref a]) Q E s:=by
 obtain⟨z,hd,j,rel,i⟩:=gf I.hok e;erw[kt_call_dict hd i (by rw[<- rel.length]; rwa[z]) λl c g=>?_];erw[h _ _ (I.hok.fresh (f7 _)) (I.laid (a:=s.heap.objs.size) (o:=.dK kvs) (t':=s.toks) (λb q f=>?_) (f7 _) (dN z (x4.mpr (Bi (t8 I.big))) rel c))];exact(g.2 b (t8 (m7 f))).trans (e9 _ f)
end


end L2


namespace L2
section
variable{X:Cx}{J8:List (c7×Bk)}{σ:St}{H:Hp}{s:d7}{d:c7}{kvs:List (Key×V)}
def Inv.freeze(I:Inv X J8 σ H s)(hd:H d=O (.dK kvs))(m:s.heap.get? d=O o):Inv X J8 σ (upd H d (.frz o (.dK kvs))) s:=by
 have ne:∀{b:c7},H b=J2->b≠d:=λ{b} n e=>by rw[e,hd] at n; cases n
 have f:∀{b:c7}{u:HO},H b=O u->u≠.dK kvs->upd H d (.frz o (.dK kvs)) b=O u:=λ{b u} e z=>by
  rw[zG (λq=>z (by rw[q,hd] at e; exact(t6 e).symm))];rwa[e]
 have g:∀{b:c7},H b=J2->upd H d (.frz o (.dK kvs)) b=none:=λ{b} n=>by rw[zG (ne n)]; rwa[n]
 have st:∀(b:c7)(u:HO),wD X.prog X.w H s.heap b u->wD X.prog X.w (upd H d (.frz o (.dK kvs))) s.heap b u:=λb u k =>
  k.stay (λc v _ q=>q) (λc q=>f q 'n') λc xs q=>f q 'n'
 refine⟨I.ok,I.os,I.bare,⟨I.base.keep,I.base.slot,λb u e n j=>g (I.base.free b u e n j),I.base.there,λb xs e=>f (I.base.tups b xs e) 'n',λb u v e=>f (I.base.frzs b u v e) 'n',
  λb i e=>let ⟨more,q⟩:=I.base.tbls b i e;⟨more,f q 'n'⟩⟩,I.loc,I.cell,g I.free,λx c e=>g (I.freeC x c e),λp l=>?_,λb u e=>?_,I.len⟩
 ·obtain⟨h1,h2,h3⟩:=I.pin p l;rwa[h1,g h2,h3]
 ·by_cases h:b=d
  ·subst h;rw[zA] at e;cases e;rwa[m,st b _ (I.hok b _ hd)]
  ·rw[zG h] at e;rwa[st b u (I.hok b u e)]
def Inv.frzAt(I:Inv X J8 σ H s){i:Nat}(hd:H d=O (.frz o (.dK kvs)))(g:o.data=.dict h i) :
  ∃ f,KV kvs f/\s.heap.DictAt (yQ X.prog X.w) d f i/\kvs.length<=sizeLine/\(d == sysModules)=false:=by
 obtain⟨e,z,y,f,r,q,l,m,j,c,dt,k,p,n⟩:=(show wD X.prog X.w H s.heap d (.frz o (.dK kvs)) from I.hok d _ hd);rw[e] at j;cases j;rw[g] at dt;injection dt with d1 d2
 subst d1 d2;rwa[f,r,⟨o,h,e,c,g,k,p,n⟩,z,y]
def KV.at{vs:List (Key×c8)} : ∀{kvs:List (Key×V)}{vs:List (Key×c8)}{i:Nat}{k:Key}{v:V},KV kvs vs->kvs[i]?=O (k,v)->∃ u,vs[i]?=O (k,u)/\xV v u
 | _,_,_,_,_,.nil,e=>by simp at e
 | _,_,0,k,v,.cons (a:=a) (b:=b) ⟨f,c⟩ _,e=>by
  simp at e;subst e;exact⟨b.2,by rw[show(k,b.2)=b from by rw[show k=b.1 from f]]; rfl,c⟩
 | _,_,i+1,k,v,.cons _ t,e=>KV.at (vs:=[]) (i:=i) t (by simpa using e)
def Itc(c:Hp->Prop)(xs:List V):It:=⟨λi H=>c H/\i<xs.length,λi H x e=>e=H/\xs[i]?=O x,λi H=>c H/\xs.length<=i⟩
abbrev ZS(d:c7)(o:Bk)(kvs:List (Key×V))(H:Hp):Prop:=H d=O (.frz o (.dK kvs))
def Xv{K:c5}{o:Bk}{q:Nat}(M:o.data=.dict Y q)(f:c7) :
  Sx P w K Q (Itc (ZS d o kvs) (kvs.map (·.2))) [f] f (λi h=>h.IsValIter f d i kvs.length q) where
 mem:=by simp
 obj:=λi h st b l=>by
  have e:b=f:=by simpa using l
  subst e;obtain⟨o,e,c,d⟩:=st;exact⟨o,e,λv z=>by rw[d] at z; cases z⟩
 keep:=λi h p st k=>st.at λo e=>k f 'd' o e
 item:=by
  intro X y x A N i J8 s σ H E I n st ⟨fz,hi⟩;subst y x A;obtain⟨m,r,L,_,_⟩:=I.frzAt fz M;rw[b9] at hi;obtain⟨u,S,ru⟩:=KV.at (vs:=m) (k:=kvs[i].1) (v:=kvs[i].2) r (c6 hi);obtain⟨J,G,T,D,C,B⟩:=n f 'd';have j:s.heap.IsValIter f d i m.length q:=by rw[<- r.length]; rwa[st]
  erw[wpAny_pyNext_values_item j L S λp g R=>?_];have I1:Inv X J8 σ H { s with heap:=p }:=I.turned (t':=s.toks) (λb o l e=>(R.2 b l).trans e) J G D C B;obtain⟨o,e,c,dd⟩:=id g;rw[<- r.length] at g;exact⟨u,U,bv (s:={ s with heap:=p }) e c dd 'a' ⟨kvs[i].2,H,I1,ru,⟨U,by rw[e7,c6 hi]; rfl⟩,g,λb l=>(n b l).1⟩⟩
 done:=by
  intro X y x A N i J8 s σ H E I n st ⟨fz,hi⟩;subst y x A;obtain⟨m,r,L,_,_⟩:=I.frzAt fz M;rw[b9] at hi;obtain⟨J,G,T,D,C,B⟩:=n f 'd';have j:s.heap.IsValIter f d i m.length q:=by rw[<- r.length]; rwa[st]
  rwa[wpAny_pyNext_values_end (I.ok.hd N) j L (AY (by rw[<- r.length]; exact hi)) λp Z=>⟨rfl,I.turned (t':=s.toks) (λb o l e=>Z b o l e) J G D C B⟩]
 self:=λ_ _ _ _ _ st h=>wpAny_pyIter_valiter st h
def Xc{K:c5}{o:Bk}{A:Nat}(T:o.data=.dict es A)(f:c7) :
  Sx P w K Z (Itc (ZS d o kvs) (kvs.map λkv=>kV kv.1)) [f] f (λi h=>h.IsKeyIter f d i kvs.length A) where
 mem:=by simp
 obj:=λi h st b m=>by
  have e:b=f:=by simpa using m
  subst e;obtain⟨o,e,c,d⟩:=st;exact⟨o,e,λv z=>by rw[d] at z; cases z⟩
 keep:=λi h y st k=>st.at λo e=>k f 'd' o e
 item:=by
  intro X C B D Y i J8 s σ H E I q st ⟨fz,hi⟩;subst C B D;obtain⟨n,r,S,_,_⟩:=I.frzAt fz T;rw[b9] at hi;obtain⟨u,hu,ru⟩:=KV.at (vs:=n) (k:=kvs[i].1) (v:=kvs[i].2) r (c6 hi);obtain⟨N,M,f2,L,J,G⟩:=q f 'd';have l:s.heap.IsKeyIter f d i n.length A:=by rw[<- r.length]; rwa[st]
  refine wpAny_pyNext_dict_item l S hu λp y hk g sb=>?_;have I1:Inv X J8 σ H { s with heap:=y }:=I.turned (t':=s.toks) (λb o m e=>(sb.2 b m).trans e) N M L J G;obtain⟨o,e,c,dd⟩:=id g;rw[<- r.length] at g;have rk:xV (kV kvs[i].1) p:=by
   rcases yT hk with ⟨j,t,R,Q⟩ | ⟨x,t,R,Q⟩
   ·rw[R,Q]; rwa[t,rfl]
   ·rw[R,Q]; rwa[t,rfl]
  exact⟨p,U,bv (s:={ s with heap:=y }) e c dd 'a' ⟨kV kvs[i].1,H,I1,rk,⟨U,by rw[e7,c6 hi]; rfl⟩,g,λb m=>(q b m).1⟩⟩
 done:=by
  intro X C B D Y i J8 s σ H E I q st ⟨fz,hi⟩;subst C B D;obtain⟨n,r,S,_,_⟩:=I.frzAt fz T;rw[b9] at hi;obtain⟨N,M,f2,L,J,G⟩:=q f 'd';have l:s.heap.IsKeyIter f d i n.length A:=by rw[<- r.length]; rwa[st]
  rwa[wpAny_pyNext_dict_end (I.ok.hd Y) l S (AY (by rw[<- r.length]; exact hi)) λy eb=>⟨rfl,I.turned (t':=s.toks) (λb o m e=>eb b o m e) N M L J G⟩]
 self:=λ_ _ _ _ _ st h=>Em st h
def VF(d:c7)(o:Bk)(kvs:List (Key×V))(H e:Hp):Prop:=e d=O (.frz o (.dK kvs))/\(∀ b,b≠d->e b=H b)/\∀ c,H d=O (.frz c (.dK kvs))->c=o
def Inv.frozen(I:Inv X J8 σ H s)(hd:Rd H d (.dK kvs)):∃(o:Bk)(g:Array BR)(h:Nat)(j:Hp),o.data=.dict g h/\VF d o kvs H j/\Inv X J8 σ j s:=by
 obtain⟨z,y,m,r,o,g,h,e,c,dt,_⟩:=hd.ok I.hok;rcases hd with hd | ⟨i,hd⟩
 ·exact⟨o,g,h,_,dt,⟨zA,λb l=>zG l,λi f=>by rw[hd] at f; cases f⟩,I.freeze hd e⟩
 ·obtain⟨f,_⟩:=(show wD X.prog X.w H s.heap d (.frz i (.dK kvs)) from I.hok d _ hd);rw[e] at f;cases f;exact⟨o,g,h,H,dt,⟨hd,λ_ _=>rfl,λi f=>by rw[hd] at f; cases f; rfl⟩,I⟩
def iVals(f:TE):TI:=λσ H R=>f σ H λx e=>E2 λ(d:c7) (kvs:List (Key×V))=>A3 (x=.ref d) (Rd e d (.dK kvs)) (∀(o:Bk)(c:Hp),VF d o kvs e c->R (Itc (ZS d o kvs) (kvs.map (·.2))) c)
def iKeys(f:TE):TI:=λσ H R=>f σ H λx e=>E2 λ(d:c7) (kvs:List (Key×V))=>A3 (x=.ref d) (Rd e d (.dK kvs)) (∀(o:Bk)(c:Hp),VF d o kvs e c->R (Itc (ZS d o kvs) (kvs.map λkv=>kV kv.1)) c)
variable{tg l:Ar}{te:TE}{apos pos:D5}
def RW(n:PE X l te):PI X tg l (iKeys te):=by
 intro J8 s σ H R I h;erw[thn (n J8 s σ H _ I h) λv c ⟨x,B,w,m,d,kvs,e,hd,q⟩=>?_];subst e;cases m;obtain⟨o,z,A,j,g,i,f⟩:=w.frozen hd;obtain⟨y,r,u,_,ns⟩:=f.frzAt i.1 g;erw[wpAny_pyIter_dict ns u ?_];erw[c.heap.objs.size,[c.heap.objs.size],_,_,j,rfl,f.kept (t':=c.toks) λb o e=>e9 _ e,Xc g _,⟨_,n9 _ rfl,rfl,by rw[r.length]; rfl⟩,λb p=>?_,q o j i];have e:b=c.heap.objs.size:=by simpa using p
 subst e;rwa[f.fpOk (f7 _) (f.hok.fresh (f7 _))]
def XJ(B:PE X l te)(f:attributeBase l "values" X.env (eval l X.env)=eval l X.env:=by rfl)(c:(apos.endLine == pos.line)=true:=by rfl):PI X tg (.Call (.Attribute l "values" apos) [] [] pos) (iVals te):=by
 intro J8 s σ H R I h;erw[Fu (T := "dict") (id := "dict.values") f rfl c Hn G4 F.type_dict_values (thn (B J8 s σ H _ I h) λv g ⟨x,J,E,A,d,kvs,e,hd,q⟩=>?_)];subst e;cases A;obtain⟨o,G,m,z,p,u,y⟩:=E.frozen hd;obtain⟨j,r,i,_,ns⟩:=y.frzAt u.1 p;exists i.dictOf.typeIs,i.dictOf.mapOf.noDict;show wpAny _ _ (callWith pos (.builtin "dict.values") [.ref d] [] []) _ _ g;erw[method_meetsIn G4 F.entry_dict_values rfl (GL ⟨rfl,i.dictOf.typeIs,F.args_dict_values_1 _,_,meets_dict_values (yQ X.prog X.w) d ns,⟨j,i.dictOf⟩,?_⟩)];erw[wpAny_pyIter_values (knd:=yQ X.prog X.w) (d:=d) (kvs:=j) (ep:=m) ⟨_,n9 _ rfl,rfl,rfl⟩ (i.push _) ?_];have n:=y.kept (t':=g.toks) (h':=g.heap.push { cls:=.type "dict_values",data:=.fields #[.ref d] }) λb o e=>e9 _ e;have D:=n.kept (t':=g.toks) (h':=(g.heap.push { cls:=.type "dict_values",data:=.fields #[.ref d] }).push { cls:=.type "dict_valueiterator",data:=.fields #[.ref d,.int 0 0,.int j.length 0,.int m 0] }) λb o e=>e9 _ e;erw[_,[_],_,_,z,rfl,D,Xv p _,⟨_,n9 _ rfl,rfl,by rw[r.length]; rfl⟩,λb C=>?_,q o z u];have e:=g6.mp C;subst e;rwa[n.fpOk (f7 _) (n.hok.fresh (f7 _))]
end
end L2

namespace L2
section
variable{φ:Hp->Prop}{xs:List V}{g:TG}{tb:TS}{E:Wi}{σ σ0:St}{H H1:Hp}{D:c7}{tt:TT}{te:TE}{Q:VK}
def QK(c:Nat->St->Hp->Prop)(h0:c 0 σ H)(o:∀ i σ H,c i σ H->φ H)
  (r:∀ i x σ H,xs[i]?=O x->c i σ H->g x σ H λd l=>tb { E with nx:=c (i+1),ct:=c (i+1),bk:=E.nx } d l) (hd:∀ σ H,c xs.length σ H->E.nx σ H) :
  ∃ W:Nat->Nat->St->Hp->Prop,(∃ m,W 0 m σ H)/\∀ i m σ H,W i m σ H ->
   ((Itc φ xs).stop i H/\E.nx σ H)\/((Itc φ xs).go i H/\∃ N:St->Hp->Prop,(∀ f h,N f h->∃ n,n<m/\W (i+1) n f h)/\∀ x h,(Itc φ xs).yld i H x h->g x σ h λd l=>tb { E with nx:=N,ct:=N,bk:=E.nx } d l):=by
 exists λi m σ H=>m=xs.length-i/\i<=xs.length/\c i σ H,⟨xs.length,by simp,x6 _,h0⟩;rintro i m σ H ⟨rfl,hi,p⟩;by_cases j:i<xs.length
 ·erw[.inr ⟨⟨o i σ H p,j⟩,c (i+1),λf h q=>⟨xs.length-(i+1),by lia,rfl,j,q⟩,λx h ⟨e,y⟩=>?_⟩];subst e;rwa[r i x σ _ y p]
 ·have e:i=xs.length:=by lia
  subst e;rwa[.inl ⟨⟨o _ σ H p,f7 _⟩,hd σ H p⟩]
def Oz(f:Nat->St->List V->Hp->Prop)(h0:f 0 σ0 [] (upd H1 D 'C'))(s:∀ i σ c H,f i σ c H->φ H/\H D=O (.lst c))
  (r:∀ i x σ c H,xs[i]?=O x->f i σ c H->g x σ H λd u=>tt d u λb l =>
   if b=J3 then te d l λy j=>j D=O (.lst c)/\c.length<sizeLine/\f (i+1) d (c++[y]) (upd j D (.lst (c++[y]))) else f (i+1) d c l)
  (hd:∀ σ c H,f xs.length σ c H->Q (.ref D) H):nD (Itc φ xs) D g tt te σ0 H1 Q:=by
 exists λi m σ c H=>m=xs.length-i/\i<=xs.length/\f i σ c H,⟨xs.length,by simp,x6 _,h0⟩;rintro i m σ c H ⟨rfl,hi,p⟩;obtain⟨q,o⟩:=s i σ c H p;exists o;by_cases h:i<xs.length
 ·erw[.inr ⟨⟨q,h⟩,f (i+1),λn w v z=>⟨xs.length-(i+1),by lia,rfl,h,z⟩,λx v ⟨e,y⟩=>?_⟩];subst e;rwa[r i x σ c _ y p]
 ·have e:i=xs.length:=by lia
  subst e;rwa[.inl ⟨⟨q,f7 _⟩,hd σ c H p⟩]
def Vn(d:Nat->St->List V->Hp->Prop)(h0:d 0 σ0 [] (upd H1 D 'C'))(l:∀ i σ c H,d i σ c H->φ H/\H D=O (.lst c))
  (j:∀ i x σ c H,xs[i]?=O x->d i σ c H->g x σ H λf m=>te f m λy h=>h D=O (.lst c)/\c.length<sizeLine/\d (i+1) f (c++[y]) (upd h D (.lst (c++[y]))))
  (hd:∀ σ c H,d xs.length σ c H->Q (.ref D) H):nD (Itc φ xs) D g Qr te σ0 H1 Q:=Oz d h0 l (λi x σ c H e p=>j i x σ c H e p) hd
end
section
variable{X:Cx}{x y:j9}{p pos:D5}{i e:Ar}{es:List Ar}{ty:TE}{t:TA}
def aF{n:Int}(c:∃ k,X.mg x=O (.int n k))(d:Gl X x:=by rfl)(hd:(x ==("__debug__" : j9))=false:=by decide):PE X (.Name x pos) (tC (.int n)):=λ_ _ _ H _ I h=>by
 obtain⟨k,c⟩:=c;rwa[yr I d c ⟨.int n,H,I,⟨k,rfl⟩,h⟩ hd]
def Qt(P:o0)(w:t7)(B:Aa)(a:c7)(c:List (Key×V)):Prop:=∃ d,KV c d/\B.DictOf (yQ P w) a d
def tGet(c:List (Key×V))(ty:TE):TE:=λd H Q=>ty d H λy f=>E2 λ(k:Key) (v:V)=>A3 (y=kV k) (vR c k=O v) (Q v f)
def To{j:St}{H:Hp}{E:c8->d7->Prop}{Q:c8->d7->Prop}(B:Qt X.prog X.w X.base a c)(I:Inv X q j H s)(l:vR c k=O v)(r:xV (kV k) u)
  (h:∀ d n,Inv X q j H n->xV v d->Q d n):s.TypeIs (.ref a) "dict" /\ wpAny 'b' X.A (getItem (.ref a) u) Q E s:=by
 obtain⟨m,rel,f⟩:=B;have f:s.heap.DictOf (yQ X.prog X.w) a m:=f.at λo e=>I.bk a o e;obtain⟨d,z,g⟩:=gO.some_of (v:=v) (o:=valueAt m k) (by rw[<- l]; rwa[rel.val k]);rwa[f.typeIs,HI (iR r) f.mapOf z (h d _ (I.tok _) g)]
def VS(q:Qt X.prog X.w X.base a c)(n:X.mg x=O (.ref a))(hi:PE X i ty)(m:Oo i:=by exact λ_ _=>rfl)(o:Gl X x:=by rfl)(hd:(x ==("__debug__" : j9))=false:=by decide) :
  PE X (.Subscript (.Name x p) i pos) (tGet c ty):=by
 intro r s f H Q I h;erw[bx Do.lookup m (yr I o n (thn (hi r s f H _ I h) λE D ⟨y,A,z,g,k,v,ey,l,j⟩=>?_) hd)];subst ey;rwa[To q z l g λB C u d=>⟨v,A,u,d,j⟩]
structure TabAt(P:o0)(w:t7)(K:c5)(mg:j9->Option c8)(B:Aa)(m:Nat)(kvs:List (Key×V))(k:Key)(sp:Sp):Prop where
 mk ::
 has:∃(x:j9)(f:c7)(n:Nat)(ps:List j9),vR kvs k=O (.ref f)/\mg x=O (.ref f)/\Has P w K mg B x n ps sp/\n<=m
end
def iP:bootBuiltins "dict" = O (.type "dict"):=by ac_nf
section
variable{X:Cx}
def mY:tD X (.type "dict") (λxs H Q=>E2 λ(a:c7) (c:List (Key×V))=>A3 (xs=[.ref a]) (Rd H a (.dK c)) (∀ p,H p=J2->Q (.ref p) (upd H p (.dK c)))):=by
 intro l s g H xs i Q I r h;obtain⟨a,c,rfl,e,q⟩:=h;obtain⟨u,rfl,ru⟩:=ka r;cases ru;rwa[VL I e λp j d f=>⟨.ref p,_,f,rfl,q p d⟩]
def qe:tD X (.builtin "len") (λxs H Q=>E2 λ(a:c7) (c:List (Key×V))=>A3 (xs=[.ref a]) (Rd H a (.dK c)) (Q (.int c.length) H)):=by
 intro j s f H xs g Q I r h;obtain⟨a,c,rfl,d,q⟩:=h;obtain⟨u,rfl,ru⟩:=ka r;cases ru;rwa[d_len I d λt i e=>⟨.int c.length,H,e,⟨t,rfl⟩,q⟩]
def fE : ∀{g:List BR}{c:List (Key×V)}{f:List (Key×c8)},KV c f->Pairs (yQ P w) g f->yY (c.map λkv=>kV kv.1) (g.map (·.key))
 | _,_,_,.nil,.nil=>.nil
 | _,_,_,.cons ⟨h,_⟩ t,.cons i _ p=>by
  erw[.cons ?_ (fE t p)];dsimp only;rw[h];rcases yT i with ⟨j,t,e,d⟩ | ⟨x,t,e,d⟩
  ·rw[e,d]; rwa[t,rfl]
  ·rw[e,d]; rwa[t,rfl]
def oF(M:X.calm=J3):tD X (.type "list") (λxs H Q=>E2 λ(d:c7) (f:List (Key×V))=>A3 (xs=[.ref d]) (Rd H d (.dK f)) (∀ p,H p=J2->Q (.ref p) (upd H p (.lst (f.map λkv=>kV kv.1))))):=by
 intro Z s N H xs R Q I r h;obtain⟨d,f,rfl,hd,q⟩:=h;obtain⟨u,rfl,ru⟩:=yY.one r;cases ru;obtain⟨D,w,P,rel,ob,n,m,g,ex,y,T,J,S⟩:=gf I.hok hd;have B:=fE rel J;have v:n.size=f.length:=by
  have z:=B.length;rw[b9,b9,o7] at z;rwa[z.symm]
 refine HM (Xe (rows:=n) (age:=m) w) (show X.A.handled=J2 from I.ok.hd M) ⟨ob,g,ex,y⟩ (by rw[v]; exact D) λY G l c keep at' i=>?_;have x:l.toList=n.toList.map (·.key):=by
  erw[DW λj=>?_];by_cases E:j<n.size
  ·have C:j<l.size:=by rw[i.1]; rwa[E]
   obtain⟨L,e⟩:=i.2 j l[j] (by simp[C]);rw[BI,Ah C,e,e7,BI,Ah E];rfl
  ·rw[AY (by rw[o7,i.1]; lia),AY (by simp; lia)]
 erw[.ref s.heap.objs.size,_,I.laid (t':=G) (a:=s.heap.objs.size) (o:=.lst (f.map λkv=>kV kv.1)) keep (f7 _) ?_,rfl,q _ (I.hok.fresh (f7 _))];exists by rw[b9]; exact D,_,c,B;rw[<- x,En];rwa[at']
end
end L2

namespace L2
def dk(x:j9):List V:=x.cps.toList.map λc=>.str ⟨#[c]⟩
section
variable{X:Cx}{tg l:Ar}{te:TE}
def UB{K:c5}{tg:Ar}(x:j9)(t:JD)(g:c7):Sx P w K tg (Itc (λ_=>True) (dk x)) [g] g (λi h=>h.IsStrIter g "str_ascii_iterator" x t i) where
 mem:=by simp
 obj:=λi h st b j=>by
  have e:b=g:=by simpa using j
  subst e;obtain⟨o,e,c,d⟩:=st;exact⟨o,e,λv z=>by rw[d] at z; cases z⟩
 keep:=λi h p ⟨o,Q,r⟩ k=>⟨o,k g 'd' o Q,r⟩
 item:=by
  intro X u q y L i M s J H E I n st ⟨_,hi⟩;subst u q y;have f:i<x.cps.size:=by unfold dk at hi; rw[b9,o7] at hi; rwa[hi]
  obtain⟨G,D,R,C,B,A⟩:=n g 'd';erw[wpAny_pyNext_ascii_item st (c:=x.cps[i]) (Ah f) λp m N=>?_];have Y:Inv X M J H { s with heap:=p,toks:=s.toks+1 }:=I.turned (t':=s.toks+1) (λb o j e=>(N.2 b j).trans e) G D C B A;obtain⟨o,e,c,T⟩:=id m;exact⟨_,U,bv (s:={ s with heap:=p,toks:=s.toks+1 }) e c T 'a' ⟨.str ⟨#[x.cps[i]]⟩,H,Y,⟨_,U⟩,⟨U,by unfold dk; rw[e7,BI,Ah f]; rfl⟩,m,λb j=>(n b j).1⟩⟩
 done:=by
  intro X u q y L i M s J H E I n st ⟨_,hi⟩;subst u q y;have f:x.cps.size<=i:=by unfold dk at hi; rw[b9,o7] at hi; rwa[hi]
  obtain⟨G,D,R,C,B,A⟩:=n g 'd';rwa[wpAny_pyNext_ascii_end (I.ok.hd L) st (F5 f) λp S=>⟨rfl,I.turned (t':=s.toks) (λb o j e=>S b o j e) G D C B A⟩]
 self:=λ_ _ _ _ _ st h=>wpAny_pyIter_striter_ascii st h
def iStr(te:TE):TI:=λc H R=>te c H λv d=>∃ x:j9,A3 (v=.str x) (x.cps.all (· < 128)=J3) (R (Itc (λ_=>True) (dk x)) d)
def Ph(i:PE X l te):PI X tg l (iStr te):=by
 intro n s f H R I h;erw[thn (i n s f H _ I h) λv c ⟨y,p,d,g,x,e,m,q⟩=>?_];subst e;obtain⟨t,rfl⟩:=g;erw[wpAny_pyIter_ascii m ?_];erw[c.heap.objs.size,[c.heap.objs.size],_,_,p,rfl,d.kept (t':=c.toks) λb o e=>e9 _ e,UB x t _,⟨_,n9 _ rfl,rfl,rfl⟩,λb j=>?_,q];have e:b=c.heap.objs.size:=by simpa using j
 subst e;rwa[d.fpOk (f7 _) (d.hok.fresh (f7 _))]
def fZ:OpR X (compareOp .LtE) (λx y H Q=>E2 λi j=>A3 (x=.str i) (y=.str j) (Q (.bl (!decide (j.cps.toList<i.cps.toList))) H)):=by
 intro g s e H x y v u Q I d c h;obtain⟨i,j,rfl,rfl,q⟩:=h;obtain⟨t,rfl⟩:=d;obtain⟨f,rfl⟩:=c;rwa[PySem.P.le_str (yW I q rfl)]
def TF:SlR X (λx lo hi H Q=>∃ z:j9,x=.str z/\z.length<=sizeLine/\Q (.str (Dm z lo hi)) H):=by
 intro p s m H x v G E lo hi J Q I w B y n h;obtain⟨z,rfl,A,q⟩:=h;obtain⟨t,rfl⟩:=w;have c:∀(l u:Option (Int×JD)),l.map (·.1)=lo->u.map (·.1)=hi->(sliceMade z t l u J2).post (EP X p m Q) s:=λl u D C=>by
  subst D C;rwa[post_val_or_str (t:=t) (s:=s) (Q:=EP X p m Q) ⟨i4 (F9 z _ _) A,λr k=>⟨.str (Dm z _ _),H,I.tok k,⟨r,rfl⟩,q⟩⟩]
 exists "str",_,F.slot_str_getitem.lookup,typeIs_str _ _ _;obtain⟨o,f,g,hd⟩:=B;cases y with
 | none =>
  cases n with
  | none=>rwa[CL (l:=J2) (u:=J2) (st:=J2) ⟨o,f,g,hd⟩ rfl (c J2 J2 rfl rfl)]
  | int j d=>rwa[CL (l:=J2) (u:=O (j,d)) (st:=J2) ⟨o,f,g,hd⟩ rfl (c J2 (O (j,d)) rfl rfl)]
 | int i e =>
  cases n with
  | none=>rwa[CL (l:=O (i,e)) (u:=J2) (st:=J2) ⟨o,f,g,hd⟩ rfl (c (O (i,e)) J2 rfl rfl)]
  | int j d=>rwa[CL (l:=O (i,e)) (u:=O (j,d)) (st:=J2) ⟨o,f,g,hd⟩ rfl (c (O (i,e)) (O (j,d)) rfl rfl)]
def fY:∀{c:List j9}{d:List c8},yY (c.map V.str) d->∃ l:List (j9×JD),d=strValues l/\l.map (·.1)=c
 | [],_,.nil=>⟨[],rfl,rfl⟩
 | x::c,_,.cons ⟨t,e⟩ r=>by
  obtain⟨l,g,f⟩:=fY r;subst e;rwa[(x,t)::l,by rw[g]; rfl,by rw[j3,f]]
def Xd(c:j9):∀ d:List j9,(FU c d).length<=(d.map (·.length)).sum+d.length*c.length
 | []=>x6 _
 | [y]=>by
  show y.length<=_;simp
 | y::z::l=>by
  have f:=Xd c (z::l);have e:(FU c (y::z::l)).length=y.length+c.length+(FU c (z::l)).length:=by
   show(y++c++FU c (z::l)).length=_;rw[strLen_append,strLen_append]
  rw[e];simp only[j3,GR,g8,Nat.succ_mul] at f ⊢;lia
def jy(c:j9)(d:List j9):Nat:=(d.map (·.length)).sum+d.length*c.length
def Rq:MtR X "str.join" (λx xs H Q=>∃(c:j9)(a:c7)(f:List j9),x=.str c/\xs=[.ref a]/\SqL X.K H a (f.map V.str)/\jy c f<=sizeLine/\Q (.str (Fv c f)) H):=by
 intro C s A H x xs v B Q I j m h;obtain⟨c,a,f,rfl,rfl,w,g,q⟩:=h;obtain⟨t,rfl⟩:=j;obtain⟨u,rfl,ru⟩:=yY.one m;cases ru;obtain⟨n,r,p,_⟩:=I.list w;obtain⟨l,rfl,d⟩:=fY r;have o:Builtin.Str.tooLong ((l.map (·.1)).toArray.foldl (· + ·.length+c.length) 0)=false:=by
  rw[d,Jo];exact y8 (by unfold jy at g; lia)
 refine call_meets F.slot_str_join (typeIs_str _ _ _) F.entry_str_join (F.args_str_join_2 _ _) (meets_str_join_list c t a l o) ⟨p.isList,?_⟩;have i:∀ e:List j9,(Fv c e).length<=jy c e:=λe=>by
  rw[EC];rwa[Xd c e]
 match l,d with
 | [],d =>
  subst d;rwa[i4 (i []) g,⟨.str _,H,I.tok _,⟨_,rfl⟩,q⟩]
 | [y],d =>
  subst d;rwa[.str y.1,H,I,⟨y.2,rfl⟩,q]
 | y::z::l,d =>
  subst d;rwa[i4 (i _) g,⟨.str _,H,I.tok _,⟨_,rfl⟩,q⟩]
end
end L2

namespace Sea
inductive Dt where
 | int (i:Int)
 | str (x:j9)
 | tup (l:List Dt)
mutual
def Rep(H:Hp):Dt->V->Prop
 | .int i,v=>v=.int i
 | .str x,v=>v=.str x
 | .tup l,v=>∃(a:c7)(xs:List V),v=.ref a/\H a=O 'q'/\xS H l xs
def xS(H:Hp):List Dt->List V->Prop
 | [],xs=>xs=[]
 | d::l,xs=>∃(x:V)(r:List V),xs=x::r/\Rep H d x/\xS H l r
end
def wG(φ:c7->Prop)(H d:Hp):Prop:=∀ b o,¬ φ b->H b=O o->d b=O o\/∃(ob:Bk)(c:List (Key×V)),o=.dK c/\d b=O (.frz ob (.dK c))
abbrev Sam(H c:Hp):Prop:=wG (λ_=>False) H c
section
variable{φ ψ:c7->Prop}{H H1 H2:Hp}{a:c7}{xs:List V}
def wG.of(s:Same H H1):wG φ H H1:=λb o _ e=>.inl (s b o e)
def wG.refl(H:Hp):wG φ H H:=λ_ _ _ e=>.inl e
def wG.trans(s:wG φ H H1)(t:wG φ H1 H2):wG φ H H2:=λb o n e=>by
 rcases s b o n e with d | ⟨ob,c,g,d⟩
 ·rwa[t b o n d]
 ·subst g;rcases t b _ n d with f | ⟨_,_,z,_⟩
  ·rwa[.inr ⟨ob,c,rfl,f⟩]
  ·cases z
def wG.wider(s:wG φ H H1)(h:∀ b,φ b->ψ b):wG ψ H H1:=λb o n e=>s b o (λz=>n (h b z)) e
def wG.lst(s:wG φ H H1)(n:¬ φ a)(e:H a=O (.lst xs)):H1 a=O (.lst xs):=by
 rcases s a _ n e with z | ⟨_,_,z,_⟩
 ·rwa[z]
 ·cases z
def wG.tup(s:wG φ H H1)(n:¬ φ a)(e:H a=O 'q'):H1 a=O 'q':=by
 rcases s a _ n e with z | ⟨_,_,z,_⟩
 ·rwa[z]
 ·cases z
def wG.ins(s:wG φ H H1)(n:¬ φ a)(e:H a=O (.ins C c fs)):H1 a=O (.ins C c fs):=by
 rcases s a _ n e with z | ⟨_,_,z,_⟩
 ·rwa[z]
 ·cases z
def wG.rd(s:wG φ H H1)(n:¬ φ a)(e:Rd H a (.dK c)):Rd H1 a (.dK c):=by
 rcases e with e | ⟨ob,e⟩
 ·rcases s a _ n e with z | ⟨ob,d,z,w⟩
  ·rwa[.inl z]
  ·cases z;rwa[.inr ⟨ob,w⟩]
 ·rcases s a _ n e with z | ⟨_,_,z,_⟩
  ·rwa[.inr ⟨ob,z⟩]
  ·cases z
def wG.some(s:wG φ H H1)(n:¬ φ a)(e:H a=O o):∃ c,H1 a=O c:=by
 rcases s a _ n e with z | ⟨_,_,_,w⟩
 ·rwa[_,z]
 ·rwa[_,w]
def wG.free(s:wG φ H H1)(n:¬ φ a)(e:H1 a=J2):H a=none:=by
 cases q:H a with
 | none=>rfl
 | some o =>
  obtain⟨c,z⟩:=s.some n q;rw[e] at z;cases z
def cE(hd:Rd H d (.dK c))(f:VF d o c H H1):wG φ H H1:=λb u _ e=>by
 by_cases z:b=d
 ·subst z;rcases hd with hd | ⟨g,hd⟩
  ·rw[hd] at e;cases e;rwa[.inr ⟨o,c,rfl,f.1⟩]
  ·rw[hd] at e;cases e;rw[<- f.2.2 g hd] at f;rwa[.inl f.1]
 ·rwa[.inl (by rw[f.2.1 b z]; exact e)]
end
mutual
def Rep.sam{c:c7->Prop}{H g:Hp}(s:wG c H g)(f:∀ b xs,H b=O 'q'->¬ c b):∀{d:Dt}{v:V},Rep H d v->Rep g d v
 | .int _,_,h=>by rw[Rep] at h ⊢; rwa[h]
 | .str _,_,h=>by rw[Rep] at h ⊢; rwa[h]
 | .tup l,v,h=>by
  rw[Rep] at h ⊢;obtain⟨a,xs,e,h1,h2⟩:=h;rwa[a,xs,e,s.tup (f a xs h1) h1,xS.sam s f h2]
def xS.sam{c:c7->Prop}{H g:Hp}(s:wG c H g)(f:∀ b xs,H b=O 'q'->¬ c b):∀{l:List Dt}{xs:List V},xS H l xs->xS g l xs
 | [],_,h=>by rw[xS] at h ⊢; rwa[h]
 | d::l,xs,h=>by
  rw[xS] at h ⊢;obtain⟨x,r,e,h1,h2⟩:=h;rwa[x,r,e,Rep.sam s f h1,xS.sam s f h2]
end
section
variable{H H1:Hp}
def no_f{H:Hp} : ∀ b xs,H b=O 'q'->¬ (λ_:c7=>False) b:=λ_ _ _ z=>z
def Rep.to(h:Rep H d v)(s:Sam H H1):Rep H1 d v:=h.sam s no_f
def xS.to(h:xS H l xs)(s:Sam H H1):xS H1 l xs:=h.sam s no_f
def yJ{i:Int} : Rep H (.int i) v↔v=.int i:=by rw[Rep]
def yF : Rep H (.str x) v↔v=.str x:=by rw[Rep]
def xE : Rep H (.tup l) v↔∃(a:c7)(xs:List V),v=.ref a/\H a=O 'q'/\xS H l xs:=by rw[Rep]
def zY : xS H [] xs↔xs=[]:=by rw[xS]
def zH{d:Dt}{l:List Dt} : xS H (d::l) xs↔∃(x:V)(r:List V),xs=x::r/\Rep H d x/\xS H l r:=by rw[xS]
def xS.length:∀{l:List Dt}{xs:List V},xS H l xs->xs.length=l.length
 | [],_,h=>by rw[zY.mp h]; rfl
 | d::l,_,h=>by
  obtain⟨x,r,e,_,h2⟩:=zH.mp h;rw[e,g8,g8,xS.length h2]
def xS.at:∀{l:List Dt}{xs:List V}{i:Nat}{d:Dt},xS H l xs->l[i]?=O d->∃ x,xs[i]?=O x/\Rep H d x
 | [],_,_,_,_,e=>by simp at e
 | d::l,_,0,_,h,e=>by
  obtain⟨x,r,ex,h1,_⟩:=zH.mp h;simp at e;subst e;rwa[x,by rw[ex]; rfl,h1]
 | d::l,_,i+1,d',h,e=>by
  obtain⟨x,r,ex,_,h2⟩:=zH.mp h;obtain⟨y,h3,h4⟩:=xS.at (i:=i) (d:=d') h2 (by simpa using e);exact⟨y,by rw[ex]; simpa using h3,h4⟩
def xS.back:∀{l:List Dt}{xs:List V}{i:Nat}{x:V},xS H l xs->xs[i]?=O x->∃ d,l[i]?=O d/\Rep H d x
 | [],_,i,x,h,e=>by rw[zY.mp h] at e; simp at e
 | d::l,_,0,x,h,e=>by
  obtain⟨y,r,ex,h1,_⟩:=zH.mp h;rw[ex] at e;simp at e;subst e;rwa[d,rfl,h1]
 | d::l,_,i+1,x,h,e=>by
  obtain⟨y,r,ex,_,h2⟩:=zH.mp h;rw[ex] at e;obtain⟨d',h3,h4⟩:=xS.back (i:=i) (x:=x) h2 (by simpa using e);exact⟨d',by simpa using h3,h4⟩
def xS.app:∀{l m:List Dt}{xs c:List V},xS H l xs->xS H m c->xS H (l++m) (xs++c)
 | [],_,_,_,h,k=>by rw[zY.mp h]; rwa[k]
 | d::l,_,_,_,h,k=>by
  obtain⟨x,r,e,h1,h2⟩:=zH.mp h;rw[e];rwa[zH.mpr ⟨x,_,rfl,h1,xS.app h2 k⟩]
def xS.one(h:Rep H d v):xS H [d] [v]:=zH.mpr ⟨v,[],rfl,h,zY.mpr rfl⟩
def xS.two(h:Rep H d v)(k:Rep H e u):xS H [d,e] [v,u]:=zH.mpr ⟨v,_,rfl,h,.one k⟩
end
structure wC(H:Hp)(kvs:List (Key×V))(es:List (Key×Dt)):Prop where
 keys:kvs.map (·.1)=es.map (·.1)
 vals:xS H (es.map (·.2)) (kvs.map (·.2))
def xv(H:Hp)(a:c7)(d:List (Key×Dt)):Prop:=∃ c,Rd H a (.dK c)/\wC H c d
def look(c:List (Key×Dt))(k:Key):Option Dt:=(c.find? λe=>decide (e.1=k)).map (·.2)
def Vf(c:List (Key×Dt))(k:Key)(d:Dt):List (Key×Dt):=if c.any (λe=>decide (e.1=k)) then c.map λe=>if e.1=k then(e.1,d) else e else c++[(k,d)]
def fV(c:List (Key×Dt))(k:Key):List (Key×Dt):=c.filter λe=>decide (e.1≠k)
def wC.nil{H:Hp} : wC H [] []:=⟨rfl,zY.mpr rfl⟩
def wC.cons_iff{H:Hp}{k:Key}{d:Dt}{f:List (Key×Dt)} : wC H c ((k,d)::f)↔∃(v:V)(r:List (Key×V)),c=(k,v)::r/\Rep H d v/\wC H r f:=by
 constructor
 ·rintro⟨h1,h2⟩;cases c with
  | nil=>simp at h1
  | cons p r =>
   obtain⟨m,v⟩:=p;simp only[j3,Il] at h1;obtain⟨j,i⟩:=h1;subst j;obtain⟨x,l,e,h3,h4⟩:=zH.mp h2;simp only[j3,Il] at e;obtain⟨h,g⟩:=e;subst h g;rwa[v,r,rfl,h3,i,h4]
 ·rintro⟨v,r,rfl,h1,h2⟩;rwa[by simp[h2.keys],zH.mpr ⟨v,_,rfl,h1,h2.vals⟩]
def wC.nil_iff{H:Hp}(h:wC H c []):c=[]:=by
 have:=h.keys;simpa using this
def wC.to{H e:Hp}(h:wC H c d)(s:Sam H e):wC e c d:=⟨h.keys,h.vals.to s⟩
def wC.sam{d:c7->Prop}{H f:Hp}(h:wC H c e)(s:wG d H f)(g:∀ b xs,H b=O 'q'->¬ d b):wC f c e:=⟨h.keys,h.vals.sam s g⟩
def xv.to{H d:Hp}(h:xv H a c)(s:Sam H d):xv d a c:=let ⟨kvs,h1,h2⟩:=h;⟨kvs,s.rd id h1,h2.to s⟩
def wC.length{H:Hp}(h:wC H c d):c.length=d.length:=by
 have:=congrArg Ay h.keys;simpa using this
def wC.get{H:Hp} : ∀{f:List (Key×Dt)}{c:List (Key×V)}{d:Dt},wC H c f->look f k=O d->∃ v,vR c k=O v/\Rep H d v
 | [],_,_,_,e=>by simp[look] at e
 | (g,d')::f,c,d,h,e=>by
  obtain⟨v,r,rfl,h1,h2⟩:=wC.cons_iff.mp h;by_cases z:g=k
  ·rw[uE z];simp only[look,AN,y7 z,AB,Cv] at e;subst e;rwa[v,rfl,h1]
  ·rw[wU z];erw[wC.get h2 ?_];simp only[look,AN,y8 z] at e;rwa[e]
def wC.none{H:Hp} : ∀{d:List (Key×Dt)}{c:List (Key×V)},wC H c d->look d k=J2->vR c k=J2
 | [],_,h,_=>by rw[h.nil_iff]; rfl
 | (f,d')::d,c,h,e=>by
  obtain⟨v,r,rfl,h1,h2⟩:=wC.cons_iff.mp h;by_cases z:f=k
  ·simp[look,AN,z] at e
  ·rw[wU z];erw[wC.none h2 ?_];simp only[look,AN,y8 z] at e;rwa[e]
def wC.isSome{H:Hp}(h:wC H c f):(vR c k).isSome=(look f k).isSome:=by
 cases e:look f k with
 | none=>rw[h.none e]; rfl
 | some d =>
  obtain⟨v,z,_⟩:=h.get e;rw[z];rfl
def wC.any{H:Hp}{k:Key} : ∀{d:List (Key×Dt)}{c:List (Key×V)},wC H c d->(c.any λe=>decide (e.1=k))=d.any λe=>decide (e.1=k)
 | [],_,h=>by rw[h.nil_iff]; rfl
 | (f,d')::d,c,h=>by
  obtain⟨v,r,rfl,h1,h2⟩:=wC.cons_iff.mp h;rw[Bu,Bu,wC.any h2]
def wC.rep{H:Hp}{k:Key}(f:Rep H d v):∀{g:List (Key×Dt)}{c:List (Key×V)},wC H c g->wC H (c.map λe=>if e.1=k then(e.1,v) else e) (g.map λe=>if e.1=k then(e.1,d) else e)
 | [],_,h=>by rw[h.nil_iff]; rwa[.nil]
 | (i,d')::g,c,h=>by
  obtain⟨u,r,rfl,h1,h2⟩:=wC.cons_iff.mp h;rw[j3,j3];by_cases z:i=k
  ·rw[y6 z,y6 z];rwa[wC.cons_iff.mpr ⟨v,_,rfl,f,wC.rep f h2⟩]
  ·rw[y4 z,y4 z];rwa[wC.cons_iff.mpr ⟨u,_,rfl,h1,wC.rep f h2⟩]
def wC.app{H:Hp}{k:Key}(f:Rep H d v):∀{e:List (Key×Dt)}{c:List (Key×V)},wC H c e->wC H (c++[(k,v)]) (e++[(k,d)])
 | [],_,h=>by rw[h.nil_iff]; rwa[wC.cons_iff.mpr ⟨v,[],rfl,f,.nil⟩]
 | (g,d')::e,c,h=>by
  obtain⟨u,r,rfl,h1,h2⟩:=wC.cons_iff.mp h;rwa[wC.cons_iff.mpr ⟨u,_,rfl,h1,wC.app f h2⟩]
def wC.put{H:Hp}(h:wC H c f)(e:Rep H d v):wC H (zz c k v) (Vf f k d):=by
 unfold zz Vf;rw[h.any];split
 ·rwa[h.rep e]
 ·rwa[h.app e]
def wC.drop{H:Hp} : ∀{d:List (Key×Dt)}{c:List (Key×V)},wC H c d->wC H (gF c k) (fV d k)
 | [],_,h=>by rw[h.nil_iff]; rwa[.nil]
 | (e,d')::d,c,h=>by
  obtain⟨u,r,rfl,h1,h2⟩:=wC.cons_iff.mp h;unfold gF fV;by_cases z:e=k
  ·rw[FV (by simp[z]),FV (by simp[z])];rwa[wC.drop h2]
  ·rw[CM (by simp[z]),CM (by simp[z])];rwa[wC.cons_iff.mpr ⟨u,_,rfl,h1,wC.drop h2⟩]
end Sea

namespace Sea
inductive Deed where
 | mark (n:j9) (x y:Int)
 | move (n:j9) (x y:Int)
 | unmark (n:j9)
 | bank (n:j9) (cs:List (Int×Int))
 | level (n:j9)
 | sail (x y:Int)
 | right (k x y:Int)
 | bearing (m:Int) (n:j9) (a b c d:Int)
 | range (m:Int) (l r:j9)
 | strike (k:Int)
def ptD(p:Int×Int):Dt:=.tup [.int p.1,.int p.2]
def Deed.dt:Deed->Dt
 | .mark n x y=>.tup [.str "mark",.str n,.int x,.int y]
 | .move n x y=>.tup [.str "move",.str n,.int x,.int y]
 | .unmark n=>.tup [.str "unmark",.str n]
 | .bank n e=>.tup [.str "bank",.str n,.tup (e.map ptD)]
 | .level n=>.tup [.str "level",.str n]
 | .sail x y=>.tup [.str "sail",.int x,.int y]
 | .right k x y=>.tup [.str "right",.int k,.int x,.int y]
 | .bearing m n a b c d=>.tup [.str "bearing",.int m,.str n,ptD (a,b),ptD (c,d)]
 | .range m l r=>.tup [.str "range",.int m,.str l,.str r]
 | .strike k=>.tup [.str "strike",.int k]
structure BS where
 marks:List (j9×Int×Int)
 banks:List (j9×List (Int×Int))
 runs:List (Int×Int)
 notes:List (Int×Deed)
 coming:Int
def BS.nil:BS:=⟨[],[],[],[],1⟩
def mkE(l:List (j9×Int×Int)):List (Key×Dt):=l.map λe=>(.inr e.1,ptD e.2)
def bkE(l:List (j9×List 'x')):List (Key×Dt):=l.map λe=>(.inr e.1,.tup (e.2.map ptD))
def rnE(l:List 'x'):List (Key×Dt):=l.zipIdx.map λe=>(.inl (e.2:Int),ptD e.1)
def ntE(l:List (Int×Deed)):List (Key×Dt):=l.map λe=>(.inl e.1,e.2.dt)
def stK(m b r n:c7)(k:Int):List (Key×V):=[(.inr "marks",.ref m),(.inr "banks",.ref b),(.inr "runs",.ref r),(.inr "notes",.ref n),(.inr "coming",.int k)]
structure StA(H:Hp)(d m b r n:c7)(S:BS):Prop where
 at_:Rd H d (.dK (stK m b r n S.coming))
 ma:xv H m (mkE S.marks)
 ba:xv H b (bkE S.banks)
 ru:xv H r (rnE S.runs)
 no:xv H n (ntE S.notes)
def aP(H:Hp)(d:c7)(S:BS):Prop:=∃ m b r n,StA H d m b r n S
def StA.to{H c:Hp}(h:StA H d m b r n S)(s:Sam H c):StA c d m b r n S:=⟨s.rd id h.at_,h.ma.to s,h.ba.to s,h.ru.to s,h.no.to s⟩
def aP.to{H c:Hp}(h:aP H d S)(s:Sam H c):aP c d S:=let ⟨m,b,r,n,q⟩:=h;⟨m,b,r,n,q.to s⟩
def zK(S:BS)(n:j9):Option 'x':=(S.marks.find? λe=>decide (e.1=n)).map (·.2)
def uu{S:BS} : look (mkE S.marks) (.inr n)=(zK S n).map ptD:=by
 unfold look mkE zK;rw[List.find?_map];have e:((λe:Key×Dt=>decide (e.1=Cq n)) ∘ λe:j9×Int×Int=>((Cq e.1,ptD e.2):Key×Dt))=λe=>decide (e.1=n):=by
  funext e
  simp
 rw[e];cases S.marks.find? λe=>decide (e.1=n) <;> rfl
structure Few(S:BS):Prop where
 ma:S.marks.length<=60
 ba:S.banks.length<=60
 ru:S.runs.length<=60
 no:S.notes.length<=60
def vS(x:j9):Prop:=1<=x.length/\x.length<=8/\∀ c∈x.cps.toList,97<=c/\c<=122
def zm(p:Int×Int):Prop:=-1000<=p.1/\p.1<=1000/\-1000<=p.2/\p.2<=1000
def uz(p:Int×Int):Prop:=p≠(0,0)/\-100<=p.1/\p.1<=100/\-100<=p.2/\p.2<=100
def aft(S:BS):Deed->BS
 | .mark n x y=>{ S with marks:=S.marks++[(n,x,y)] }
 | .move n x y=>{ S with marks:=S.marks.map λe=>if e.1=n then(e.1,x,y) else e }
 | .unmark n=>{ S with marks:=S.marks.filter λe=>decide (e.1≠n) }
 | .bank n f=>{ S with banks:=S.banks++[(n,f)] }
 | .level n=>{ S with banks:=S.banks.filter λe=>decide (e.1≠n) }
 | .sail x y=>{ S with runs:=S.runs++[(x,y)] }
 | .right k x y=>{ S with runs:=S.runs.set k.toNat (x,y) }
 | .bearing m n a b c d=>{ S with notes:=S.notes++[(S.coming,.bearing m n a b c d)],coming:=S.coming+1 }
 | .range m l r=>{ S with notes:=S.notes++[(S.coming,.range m l r)],coming:=S.coming+1 }
 | .strike k=>{ S with notes:=S.notes.filter λe=>decide (e.1≠k) }
def bM(S:BS):Deed->Prop
 | .bearing _ _ _ _ _ _=>True
 | .range _ l r=>∃ p u,zK S l=O p/\zK S r=O u/\p≠u
 | _=>False
def uh(n:j9):Deed->Prop
 | .bearing _ k _ _ _ _=>k≠n
 | .range _ l r=>l≠n/\r≠n
 | _=>False
def TQ(d:List 'x'):Bool:=isB (d.map λc=>(0,c))
def okD(S:BS):Deed->Prop
 | .mark n x y=>vS n/\zK S n=J2/\zm (x,y)/\S.marks.length<20
 | .move n x y=>(zK S n).isSome=J3/\zm (x,y)/\∀ e∈S.notes,bM (aft S (.move n x y)) e.2
 | .unmark n=>(zK S n).isSome=J3/\∀ e∈S.notes,uh n e.2
 | .bank n f=>vS n/\n ∉ S.banks.map (·.1)/\(∀ c∈f,zm c)/\TQ f=J3/\S.banks.length<8
 | .level n=>n∈S.banks.map (·.1)
 | .sail x y=>zm (x,y)/\S.runs.length<12
 | .right k x y=>0<=k/\k<S.runs.length/\zm (x,y)
 | .bearing m n a b c d=>0<=m/\m<=S.runs.length/\(zK S n).isSome=J3/\uz (a,b)/\uz (c,d)/\0<a*d-b*c/\S.notes.length<24
 | .range m l r=>0<=m/\m<=S.runs.length/\(zK S l).isSome=J3/\(zK S r).isSome=J3/\zK S l≠zK S r/\S.notes.length<24
 | .strike k=>k∈S.notes.map (·.1)
def Sv(S:BS):Prop:=∀ e∈S.notes,e.1<S.coming
def sy{es:List (Key×Dt)}{k:Key}(h:∀ e∈es,e.1≠k):Vf es k d=es++[(k,d)]:=by
 unfold Vf;rw[y4];intro z;obtain⟨e,c,q⟩:=Bz.mp z;rwa[h e c (of_decide_eq_true q)]
def bh(l:List (j9×Int×Int))(n:j9)(x y:Int):mkE (l++[(n,x,y)])=mkE l++[(.inr n,ptD (x,y))]:=by
 unfold mkE;rw[f8];rfl
def Rl(l:List 'x')(x y:Int):rnE (l++[(x,y)])=rnE l++[(.inl (l.length:Int),ptD (x,y))]:=by
 unfold rnE;rw[List.zipIdx_append,f8];simp
def Rw(l:List (Int×Deed))(k:Int)(D:Deed):ntE (l++[(k,D)])=ntE l++[(.inl k,D.dt)]:=by
 unfold ntE;rw[f8];rfl
def UO : ∀ e∈rnE l,e.1≠.inl (l.length:Int):=λe d z=>by
 unfold rnE at d;obtain⟨q,g,rfl⟩:=i9.mp d;obtain⟨h,f⟩:=q;have:=Fg g;have c:(Cp (f:Int):Key)=Cp (l.length:Int):=z;injection c with c
 simp at this;lia
def Ut(h:Sv S):∀ e∈ntE S.notes,e.1≠.inl S.coming:=λe d z=>by
 unfold ntE at d;obtain⟨q,f,rfl⟩:=i9.mp d;have:=h q f;have c:(Cp q.1:Key)=Cp S.coming:=z;injection c with c
 lia
def aH(h:zK S n=J2):∀ e∈mkE S.marks,e.1≠.inr n:=λe d z=>by
 unfold mkE at d;obtain⟨q,f,rfl⟩:=i9.mp d;have c:(Cq q.1:Key)=Cq n:=z;injection c with c
 unfold zK at h;rw[DZ,Ci] at h;rwa[h q f (by simp[c])]
def Tv(a b c d e:V):lB [] [(.inr "marks",a),(.inr "banks",b),(.inr "runs",c),(.inr "notes",d),(.inr "coming",e)]=[(.inr "marks",a),(.inr "banks",b),(.inr "runs",c),(.inr "notes",d),(.inr "coming",e)]:=by symm
def VP(a b c d e:V):lB [] [(.inr "marks",a),(.inr "banks",b),(.inr "runs",c),(.inr "notes",d),(.inr "next",e)]=[(.inr "marks",a),(.inr "banks",b),(.inr "runs",c),(.inr "notes",d),(.inr "next",e)]:=by symm
def rC{k:Int} : vR (stK m b r n k) (.inr "marks")=O (.ref m):=by symm
def qg{k:Int} : vR (stK m b r n k) (.inr "banks")=O (.ref b):=by symm
def qZ{k:Int} : vR (stK m b r n k) (.inr "runs")=O (.ref r):=by symm
def zh{k:Int} : vR (stK m b r n k) (.inr "notes")=O (.ref n):=by symm
def jx{k:Int} : vR (stK m b r n k) (.inr "coming")=O (.int k):=by symm
def lE{k:Int} : zz (stK m b r n k) (.inr "marks") (.ref c)=stK c b r n k:=by symm
def fL{k:Int} : zz (stK m b r n k) (.inr "banks") (.ref c)=stK m c r n k:=by symm
def Zy{k:Int} : zz (stK m b r n k) (.inr "runs") (.ref c)=stK m b c n k:=by symm
def gY{k:Int} : zz (stK m b r n k) (.inr "notes") (.ref c)=stK m b r c k:=by symm
def ZK{k j:Int} : zz (stK m b r n k) (.inr "coming") (.int j)=stK m b r n j:=by symm
def Rd.same{H c:Hp}(h:Rd H a u)(s:Same H c):Rd c a u:=h.imp (s _ _) λ⟨o,e⟩=>⟨o,s _ _ e⟩
def xv.nil{H:Hp}(h:H a=O (.dK [])):xv H a []:=⟨[],.inl h,.nil⟩
def rf{H:Hp}(h:Rep H (ptD p) v):∃ a,v=.ref a/\H a=O (.tup [.int p.1,.int p.2]):=by
 obtain⟨a,xs,e,h1,h2⟩:=xE.mp h;obtain⟨x,r,rfl,h3,h4⟩:=zH.mp h2;obtain⟨y,c,rfl,h5,h6⟩:=zH.mp h4;rw[yJ.mp h3,yJ.mp h5,zY.mp h6] at h1;rwa[a,e,h1]
def zp{H:Hp}{p:Int×Int}(h:H a=O (.tup [.int p.1,.int p.2])):Rep H (ptD p) (.ref a):=xE.mpr ⟨a,_,rfl,h,.two (yJ.mpr rfl) (yJ.mpr rfl)⟩
section
variable{H:Hp}{v:V}
def iJ{x y:Int}(h:Rep H (Deed.mark n x y).dt v):∃ a,v=.ref a/\H a=O (.tup [.str "mark",.str n,.int x,.int y]):=by
 obtain⟨a,xs,e,h1,h2⟩:=xE.mp h;obtain⟨_,_,rfl,g,h2⟩:=zH.mp h2;obtain⟨_,_,rfl,f,h2⟩:=zH.mp h2;obtain⟨_,_,rfl,d,h2⟩:=zH.mp h2;obtain⟨_,_,rfl,c,h2⟩:=zH.mp h2;rw[yF.mp g,yF.mp f,yJ.mp d,yJ.mp c,zY.mp h2] at h1;rwa[a,e,h1]
def gG{x y:Int}(h:Rep H (Deed.sail x y).dt v):∃ a,v=.ref a/\H a=O (.tup [.str "sail",.int x,.int y]):=by
 obtain⟨a,xs,e,h1,h2⟩:=xE.mp h;obtain⟨_,_,rfl,f,h2⟩:=zH.mp h2;obtain⟨_,_,rfl,d,h2⟩:=zH.mp h2;obtain⟨_,_,rfl,c,h2⟩:=zH.mp h2;rw[yF.mp f,yJ.mp d,yJ.mp c,zY.mp h2] at h1;rwa[a,e,h1]
def uS{m:Int}{a b c d:Int}(h:Rep H (Deed.bearing m n a b c d).dt v):∃ t p q,v=.ref t/\H t=O (.tup [.str "bearing",.int m,.str n,.ref p,.ref q])/\H p=O (.tup [.int a,.int b])/\H q=O (.tup [.int c,.int d]):=by
 obtain⟨t,xs,e,h1,h2⟩:=xE.mp h;obtain⟨_,_,rfl,l,h3⟩:=zH.mp h2;obtain⟨_,_,rfl,j,h4⟩:=zH.mp h3;obtain⟨_,_,rfl,i,h5⟩:=zH.mp h4;obtain⟨_,_,rfl,g,h6⟩:=zH.mp h5;obtain⟨_,_,rfl,f,h7⟩:=zH.mp h6;obtain⟨p,rfl,r⟩:=rf g;obtain⟨q,rfl,o⟩:=rf f;have s:=zY.mp h7;rw[yF.mp l,yJ.mp j,yF.mp i,s] at h1;rwa[t,p,q,e,h1,r,o]
def qT{m:Int}(h:Rep H (Deed.range m l r).dt v):∃ t,v=.ref t/\H t=O (.tup [.str "range",.int m,.str l,.str r]):=by
 obtain⟨t,xs,e,h1,h2⟩:=xE.mp h;obtain⟨_,_,rfl,g,h2⟩:=zH.mp h2;obtain⟨_,_,rfl,f,h2⟩:=zH.mp h2;obtain⟨_,_,rfl,d,h2⟩:=zH.mp h2;obtain⟨_,_,rfl,c,h2⟩:=zH.mp h2;rw[yF.mp g,yJ.mp f,yF.mp d,yF.mp c,zY.mp h2] at h1;rwa[t,e,h1]
end
def fe{H:Hp}{k:Int}(h:Rep H (Deed.strike k).dt v):∃ t,v=.ref t/\H t=O (.tup [.str "strike",.int k]):=by
 obtain⟨t,xs,e,h1,h2⟩:=xE.mp h;obtain⟨_,_,rfl,d,h2⟩:=zH.mp h2;obtain⟨_,_,rfl,c,h2⟩:=zH.mp h2;rw[yF.mp d,yJ.mp c,zY.mp h2] at h1;rwa[t,e,h1]
def Vb(l:List (Int×Deed))(k:Int):fV (ntE l) (.inl k)=ntE (l.filter λe=>decide (e.1≠k)):=by
 unfold fV ntE;rw[Gf]
 congr 1
 erw[D3 λe _=>?_];simp
def Tz{l:List (Int×Deed)}{k:Int}(h:k∈l.map (·.1)):∃ d,look (ntE l) (.inl k)=O d:=by
 obtain⟨e,c,rfl⟩:=i9.mp h;unfold look;cases q:(ntE l).find? λx=>decide (x.1=Cp e.1) with
 | none =>
  have:=Ci.mp q (.inl e.1,e.2.dt) (i9.mpr ⟨e,c,rfl⟩);simp at this
 | some x=>rwa[x.2,rfl]
def StA.stKlen{k:Int} : (stK m b r n k).length<=100:=by show 5<=100; decide
def wC.le{H:Hp}(h:wC H c d){n:Nat}(e:d.length<=n):c.length<=n:=by rw[h.length]; rwa[e]
def kB(l:List (j9×Int×Int)):(mkE l).length=l.length:=by unfold mkE; rw[b9]
def uv(l:List 'x'):(rnE l).length=l.length:=by unfold rnE; rw[b9,List.length_zipIdx]
def SB(l:List (Int×Deed)):(ntE l).length=l.length:=by unfold ntE; rw[b9]
end Sea

namespace Sea
def bkF(d p l:c7):List (j9×V):=[("state",.ref d),("past",.ref p),("later",.ref l)]
def we : (bkF d p l).lookup ("state" : j9)=O (.ref d):=by symm
def Rj : (bkF d p l).lookup ("past" : j9)=O (.ref p):=by symm
def dh : nZ "state" (.ref c) (bkF d p l)=bkF c p l:=by symm
def dj : nZ "later" (.ref c) (bkF d p l)=bkF d p c:=by symm
def Rn : nZ "later" (.ref l) (nZ "past" (.ref p) (nZ "state" (.ref d) []))=bkF d p l:=by symm
def rD(H:Hp):List (Deed×BS)->List V->Prop
 | [],xs=>xs=[]
 | (D,S)::r,xs=>∃(t d:c7)(v:V)(c:List V),xs=.ref t::c/\H t=O (.tup [v,.ref d])/\Rep H D.dt v/\aP H d S/\rD H r c
structure BkA(C:c7)(H:Hp)(b p dx d l:c7)(ps ls:List V)(S:BS)(past later:List (Deed×BS)):Prop where
 ob:H b=O (.ins C dx (bkF d p l))
 st:aP H d S
 pa:H p=O (.lst ps)
 la:H l=O (.lst ls)
 pp:rD H past ps
 ll:rD H later ls
 ne:l≠p
def vh(C:c7)(H:Hp)(b p:c7)(S:BS)(past later:List (Deed×BS)):Prop:=∃ f d l c e,BkA C H b p f d l c e S past later
section
variable{φ:c7->Prop}{H H1:Hp}
def xv.samE(h:xv H a d)(s:wG φ H H1)(nd:∀ a c,Rd H a (.dK c)->¬ φ a)(e:∀ a xs,H a=O 'q'->¬ φ a):xv H1 a d:=let ⟨c,h1,h2⟩:=h;⟨c,s.rd (nd _ _ h1) h1,h2.sam s e⟩
def aP.samE(h:aP H d S)(s:wG φ H H1)(nd:∀ a e,Rd H a (.dK e)->¬ φ a)(c:∀ a xs,H a=O 'q'->¬ φ a):aP H1 d S :=
 let ⟨m,b,r,n,q⟩:=h;⟨m,b,r,n,s.rd (nd _ _ q.at_) q.at_,q.ma.samE s nd c,q.ba.samE s nd c,q.ru.samE s nd c,q.no.samE s nd c⟩
def rD.samE(s:wG φ H H1)(nd:∀ a f,Rd H a (.dK f)->¬ φ a)(c:∀ a xs,H a=O 'q'->¬ φ a):∀{l:List (Deed×BS)}{xs:List V},rD H l xs->rD H1 l xs
 | [],_,h=>h
 | (D,S)::r,xs,h=>by
  obtain⟨t,d,v,g,e,h1,h2,h3,h4⟩:=h;rwa[t,d,v,g,e,s.tup (c _ _ h1) h1,h2.sam s c,h3.samE s nd c,rD.samE s nd c h4]
def rD.app{D:Deed}{v:V}(h1:H t=O (.tup [v,.ref d]))(h2:Rep H D.dt v)(h3:aP H d S):∀{l:List (Deed×BS)}{xs:List V},rD H l xs->rD H (l++[(D,S)]) (xs++[.ref t])
 | [],xs,h=>by
  have h:xs=[]:=h;rw[h];rwa[t,d,v,[],rfl,h1,h2,h3,rfl]
 | (D',o)::r,xs,h=>by
  obtain⟨f,d',c,n,e,m,j,i,g⟩:=h;rw[e];rwa[f,d',c,_,rfl,m,j,i,rD.app h1 h2 h3 g]
def rD.len:∀{l:List (Deed×BS)}{xs:List V},rD H l xs->xs.length=l.length
 | [],xs,h=>by have h:xs=[]:=h; rw[h]; rfl
 | (D,S)::r,xs,h=>by
  obtain⟨t,d,v,c,e,_,_,_,h4⟩:=h;rw[e,g8,g8,rD.len h4]
abbrev Bp(b p:c7):c7->Prop:=λx=>x=b\/x=p
def QB(e:H b=O (.ins C g fs))(d:H p=O (.lst f)):∀ a c,Rd H a (.dK c)->¬ Bp b p a:=λa c h z=>by
 rcases z with z | z <;> subst z <;> rcases h with h | ⟨o,h⟩
 ·rw[e] at h; cases h
 ·rw[e] at h; cases h
 ·rw[d] at h; cases h
 ·rw[d] at h; cases h
def jm(e:H b=O (.ins C f fs))(d:H p=O (.lst c)):∀ a xs,H a=O 'q'->¬ Bp b p a:=λa xs h z=>by
 rcases z with z | z <;> subst z
 ·rw[e] at h; cases h
 ·rw[d] at h; cases h
def BkA.to(k:BkA C H b p f d l c e S past later)(s:Sam H H1):BkA C H1 b p f d l c e S past later :=
 ⟨s.ins id k.ob,k.st.to s,s.lst id k.pa,s.lst id k.la,k.pp.samE s (λ_ _ _=>id) (λ_ _ _=>id),k.ll.samE s (λ_ _ _=>id) (λ_ _ _=>id),k.ne⟩
def vh.to(k:vh C H b p S past later)(s:Sam H H1):vh C H1 b p S past later:=let ⟨dx,d,l,ps,ls,q⟩:=k;⟨dx,d,l,ps,ls,q.to s⟩
def nh{m:j9}(h1:m ≠ "state")(h2:m ≠ "past")(h3:m ≠ "later"):(bkF d p l).lookup m=none:=by
 unfold bkF;rw[Ac,x4.mpr h1,Ac,x4.mpr h2,Ac,x4.mpr h3];rfl
end
end Sea

namespace Sea
def abc:j9 := "abcdefghijklmnopqrstuvwxyz"
def UA:abc.cps.toList=(Ad 26).map (97 + ·):=by ac_nf
def TL{i:Int}(h0:0<=i)(h1:i<26):atI abc.cps.toList i=O (97+i.toNat):=by
 obtain⟨n,rfl⟩:=AQ h0;erw[vX ?_];rw[UA,e7,List.getElem?_range (by lia)];rfl
def chS(c:Nat):j9:=⟨#[c]⟩
def txt(l:List Nat):j9:=⟨l.toArray⟩
def yz(l:List Nat):(txt l).length=l.length:=by
 show l.toArray.size=_;rwa[i7]
def RR(h:txt l=txt m):l=m:=by
 have:=congrArg (λx:j9=>x.cps.toList) h;simpa [txt] using this
def gk(l m:List Nat):txt l++txt m=txt (l++m):=by
 show(⟨l.toArray++m.toArray⟩:j9)=⟨(l++m).toArray⟩;rw[List.append_toArray]
def YV:∀ l:List Nat,FU "" (l.map chS)=txt l
 | []=>rfl
 | [c]=>rfl
 | c::d::l=>by
  show chS c++("" : j9)++FU "" ((d::l).map chS)=_;rw[YV (d::l)];show txt [c]++txt []++txt (d::l)=_;rw[gk,gk];rfl
def Uo(l:List Nat):Fv "" (l.map chS)=txt l:=by
 rw[EC];rwa[YV l]
def Zd(l:List Nat):jy "" (l.map chS)=l.length:=by
 unfold jy;rw[show("" : j9).length=0 from by decide,Nat.mul_zero,JA]
 induction l with
 | nil=>rfl
 | cons c l d =>
  rw[j3,j3,GR,d,g8];show 1+l.length=_;lia
def Zb(l:List Nat)(k:Nat)(h:k<=l.length):Dm (txt l) J2 (O (k:Int))=txt (l.take k):=by
 have e:Ca J2 (O (k:Int)) 1 (txt l).length=Ad k:=by
  unfold Ca sliceRange;rw[yz];have n:¬ ((k:Int)<0):=by lia
  have c2:max 0 (min (k:Int) (l.length:Int))=k:=by lia
  simp only[n,if_false,show(1:Int)>0 by decide,if_true,c2];by_cases z:(0:Int)<k
  ·rw[y6 z];have g:(((k:Int)-0+1-1)/1).toNat=k:=by lia
   rw[g];erw[FW 'd' λi h1 h2=>?_];simp
  ·have f:k=0:=by lia
   subst f;simp
 unfold Dm;rw[e,C9,yz];by_cases c:k=l.length
 ·rw[y6 (by simp[c]),Au (by lia)]
 ·rw[y4 (by simp; rwa[c])];show(⟨_⟩:j9)=⟨_⟩
  congr 1
  congr 1
  refine DW λi=>?_;rw[CW];have h2:(Ad k).filterMap (λj=>(txt l).cps[j]?)=l.take k:=by
   have:∀ m,m<=l.length->(Ad m).filterMap (λj=>(txt l).cps[j]?)=l.take m:=by
    intro m
    induction m with
    | zero=>intro _; simp
    | succ m d =>
     intro o;rw[DE,Ba,d (by lia),w9]
     congr 1
     rw[c6 (by lia)];simp[txt,AT,show m<l.length by lia]
   rwa[this k h]
  rw[h2,CW]
def YA(l:List Nat)(k:Nat)(h:k<=l.length):Dm (txt l) (O (k:Int)) J2=txt (l.drop k):=by
 have e:Ca (O (k:Int)) J2 1 (txt l).length=(Ad (l.length-k)).map (k + ·):=by
  unfold Ca sliceRange;rw[yz];have n:¬ ((k:Int)<0):=by lia
  have c2:max 0 (min (k:Int) (l.length:Int))=k:=by lia
  simp only[n,if_false,show(1:Int)>0 by decide,if_true,c2];by_cases z:(k:Int)<l.length
  ·rw[y6 z];have g:(((l.length:Int)-k+1-1)/1).toNat=l.length-k:=by lia
   rw[g];erw[FW 'd' λi h1 h2=>?_];simp;lia
  ·have f:l.length-k=0:=by lia
   rw[y4 z,f];rfl
 unfold Dm;rw[e,b9,C9,yz];by_cases c:k=0
 ·subst c;rw[y6 'd'];rfl
 ·by_cases o:l.length=0
  ·have:l=[]:=CN.mp o;subst this;rw[y6 'd'];rw[List.drop_nil]
  rw[y4 (by simp; lia)];show(⟨_⟩:j9)=⟨_⟩
  congr 1
  congr 1
  have:∀ m,m<=l.length-k->((Ad m).map (k + ·)).filterMap (λj=>(txt l).cps[j]?)=(l.drop k).take m:=by
   intro m
   induction m with
   | zero=>intro _; simp
   | succ m d =>
    intro p;rw[DE,f8,Ba,d (by lia),w9]
    congr 1
    rw[List.getElem?_drop,c6 (by lia)];simp[txt,AT,show k+m<l.length by lia]
  rw[this _ (f7 _),Au 'd']
def UZ{l:List Nat}{p c:Nat}(h:p<l.length):l.take p++[c]++l.drop (p+1)=l.set p c:=by
 rw[List.set_eq_take_append_cons_drop,y6 h];simp
def Uj{l:List Nat}{p c:Nat}(h:p<l.length):Dm (txt l) J2 (O (p:Int))++chS c++Dm (txt l) (O ((p:Int)+1)) J2=txt (l.set p c):=by
 rw[Zb l p (by lia),show((p:Int)+1)=((p+1:Nat):Int) from rfl,YA l (p+1) (by lia)];show txt _++txt [c]++txt _=_;rw[gk,gk,UZ h]
def ZL{l:List Nat}(h1:1<=l.length)(h8:l.length<=8)(h:∀ c∈l,97<=c/\c<=122):vS (txt l):=⟨by rw[yz]; exact h1,by rw[yz]; exact h8,λc d=>h c (by simpa [txt] using d)⟩
def RF{l:List Nat}{p r:Nat}(f:p<l.length){ws:List j9}(i:ws.length<26):¬ ∀ j,j<26->txt (l.set p (97+(r+j)%26))∈ws:=λh=>by
 have nd:((Ad 26).map λj=>txt (l.set p (97+(r+j)%26))).Nodup:=by
  erw[Cj.mpr (BU.mpr ?_)];erw[FF ?_ (Cj.mp List.nodup_range)];intro a b d c ne z;have d:=Bt.mp d;have c:=Bt.mp c;have z:=RR z;have z:=congrArg (λm:List Nat=>m[p]?) z;simp only[CQ f,Cv] at z;lia
 have:=nd.length_le_of_subset (l₂:=ws) λx e=>by
  obtain⟨j,g,rfl⟩:=i9.mp e;rwa[h j (Bt.mp g)]
 rw[b9,C9] at this;lia
def Sh(x y:j9):eqV (.str x) (.str y)=decide (x=y):=by
 unfold eqV
 first
  | rfl
  | simp
  | (by_cases h:x=y <;> simp[h])
def SD(x:j9)(ns:List j9):inV (.str x) (ns.map V.str)=decide (x∈ns):=by
 unfold inV
 induction ns with
 | nil=>simp
 | cons y ns c =>
  rw[j3,Bu,c,Sh];by_cases h:x=y
  ·subst h; simp
  ·simp[h,Bi h]
def YN(ns:List j9):(ns.map V.str).all gE=true:=by
 rw[EB];rwa[Aw.mpr λ_ _=>rfl]
end Sea

namespace Sea
def lwK(m b r n:c7)(k:Int):List (Key×V):=[(.inr "marks",.ref m),(.inr "banks",.ref b),(.inr "runs",.ref r),(.inr "notes",.ref n),(.inr "next",.int k)]
section
variable{m b r n c:c7}{k j:Int}
def qh:vR (lwK m b r n k) (.inr "marks")=O (.ref m):=by symm
def bL:vR (lwK m b r n k) (.inr "runs")=O (.ref r):=by symm
end
structure LwA(H:Hp)(d m b r n:c7)(S:BS):Prop where
 at_:Rd H d (.dK (lwK m b r n S.coming))
 ma:xv H m (mkE S.marks)
 ba:xv H b (bkE S.banks)
 ru:∃ rs,H r=O (.lst rs)/\xS H (S.runs.map ptD) rs
 no:xv H n (ntE S.notes)
def LwAt(H:Hp)(d:c7)(S:BS):Prop:=∃ m b r n,LwA H d m b r n S
section
variable{φ:c7->Prop}{H H1:Hp}{d m b r n:c7}{S:BS}
def LwA.samE(h:LwA H d m b r n S)(s:wG φ H H1)(nd:∀ a e,Rd H a (.dK e)->¬ φ a)(c:∀ a xs,H a=O 'q'->¬ φ a)(f:∀ xs,H r=O (.lst xs)->¬ φ r):LwA H1 d m b r n S :=
 ⟨s.rd (nd _ _ h.at_) h.at_,h.ma.samE s nd c,h.ba.samE s nd c,let ⟨rs,h1,h2⟩:=h.ru;⟨rs,s.lst (f _ h1) h1,h2.sam s c⟩,h.no.samE s nd c⟩
def LwA.to(h:LwA H d m b r n S)(s:Sam H H1):LwA H1 d m b r n S:=h.samE s (λ_ _ _=>id) (λ_ _ _=>id) (λ_ _=>id)
def xS.drop:∀{l:List Dt}{xs:List V}(k:Nat),xS H l xs->xS H (l.drop k) (xs.drop k)
 | _,_,0,h=>h
 | [],_,k+1,h=>by rw[zY.mp h]; rwa[zY.mpr rfl]
 | d::l,_,k+1,h=>by
  obtain⟨x,r,e,_,h2⟩:=zH.mp h;rw[e];rwa[xS.drop k h2]
def xS.take:∀{l:List Dt}{xs:List V}(k:Nat),xS H l xs->xS H (l.take k) (xs.take k)
 | _,_,0,h=>zY.mpr rfl
 | [],_,k+1,h=>by rw[zY.mp h]; rwa[zY.mpr rfl]
 | d::l,_,k+1,h=>by
  obtain⟨x,r,e,h1,h2⟩:=zH.mp h;rw[e];rwa[zH.mpr ⟨x,_,rfl,h1,xS.take k h2⟩]
def iO{c:List 'x'}{i:Nat}(h:xS H (c.map ptD) xs)(e:xs[i]?=O x):∃(p:Int×Int)(a:c7),c[i]?=O p/\x=.ref a/\H a=O (.tup [.int p.1,.int p.2]):=by
 obtain⟨d,g,hd⟩:=h.back e;rw[e7,o6] at g;obtain⟨p,f,rfl⟩:=g;obtain⟨a,l,j⟩:=rf hd;rwa[p,a,f,l,j]
end
def Zk{xs:List V}{i j:Nat}(c:j<=xs.length)(hi:i<=xs.length):xf xs (O (i:Int)) (O (j:Int))=(xs.drop i).take (j-i):=by
 unfold xf;rw[HT.sIx_nat,HT.sIx_nat,Es hi,Es c]
def yi(runs:List 'x')(i j:Nat):List 'x':=(runs.drop (min i j)).take (max i j-min i j)
def rO(i j:Nat):Int:=if j<i then -1 else 1
def vT(runs:List 'x')(i j:Nat):Int×Int:=(rO i j*((yi runs i j).map (·.1)).sum,rO i j*((yi runs i j).map (·.2)).sum)
def ue(runs:List 'x')(i j:Nat):(yi runs i j).length<=runs.length:=by
 unfold yi;rw[m8,Ai];lia
def kH:∀(l:List Int)(M:Nat),(∀ x∈l,x.natAbs<=M)->l.sum.natAbs<=l.length*M
 | [],_,_=>by simp
 | x::l,M,h=>by
  have d:=kH l M λy c=>h y (.tail _ c);have e:=h x (.head _);rw[GR,g8,Nat.add_mul,Nat.one_mul];have:=Fw x l.sum;lia
end Sea

namespace L2
def Yx{ns:List j9} : ∀{c:List c8},yY (ns.map V.str) c->StrsAre c ns:=by
 induction ns with
 | nil=>intro c r; rw[DV] at r; cases r; rwa[.nil]
 | cons n ns g =>
  intro c r;rw[j3] at r;cases r with
  | cons f d =>
   obtain⟨t,e⟩:=f;subst e;rwa[.cons n t (g d)]
def Os:∀{c:List c8}{ns:List j9},StrsAre c ns->yY (ns.map V.str) c
 | _,_,.nil=>.nil
 | _,_,.cons n t h=>.cons ⟨t,rfl⟩ (Os h)
section
variable{X:Cx}
def oo:tD X (.builtin "sorted") (λxs H Q=>E2 λ(l:c7) (ns:List j9)=>A4 (xs=[.ref l]) (SqL X.K H l (ns.map V.str)) (ns.length<64) (∀(p:c7)(c:List j9),H p=J2->c.Perm ns->sortedS c=J3->Q (.ref p) (upd H p (.lst (c.map V.str))))):=by
 intro B s y H xs z Q I r h;obtain⟨l,ns,rfl,m,f,q⟩:=h;obtain⟨u,rfl,ru⟩:=yY.one r;cases ru;obtain⟨d,g,j,A⟩:=I.list m;have n:=g.length;rw[b9] at n;erw[sorted_strs (ss:=ns) j.isList (Yx g) (by lia) λout c x i w=>?_];obtain⟨e,at'⟩:=sortedAll_at s.heap d out;have v:H 'l'=none:=I.hok.fresh (BO _);erw[.ref 'l',_,I.laid (t':=s.toks) (a:=s.heap.objs.size+1) (o:=.lst (c.map V.str)) (λb ob q=>sortedAll_old q) (BO _) ?_,rfl,q _ c v i w];refine⟨?_,out.toList,e,Os x,by simpa using at'⟩;rw[b9,i.length_eq];rwa[i4 (BM f) (by rw[sizeLine_eq]; decide)]
end
def de(v d:c7)(h:Aa):Prop:=h.IsItemsView v d
section
variable{X:Cx}{l:Ar}{te:TE}{apos pos:D5}
def Pp(te:TE):TE:=λf H Q=>te f H λx e=>E2 λ(d:c7) (c:List (Key×V))=>A3 (x=.ref d) (Rd e d (.dK c)) (∀ v,e v=J2->Q (.ref v) (upd e v (.ext (de v d))))
def VD(y:PE X l te)(g:attributeBase l "items" X.env (eval l X.env)=eval l X.env:=by rfl)(f:(apos.endLine == pos.line)=true:=by rfl):PE X (.Call (.Attribute l "items" apos) [] [] pos) (Pp te):=by
 intro z s n H Q I h;erw[Fu (T := "dict") (id := "dict.items") g rfl f Hn Ho F.type_dict_items (thn (y z s n H _ I h) λv i ⟨x,B,m,r,d,u,e,hd,q⟩=>?_)];subst e;cases r;obtain⟨A,ns,p,rel,j⟩:=hd.ok m.hok;exists j.typeIs,j.mapOf.noDict;show wpAny _ _ (callWith pos (.builtin "dict.items") [.ref d] [] []) _ _ i;erw[method_meetsIn Ho F.entry_dict_items rfl (GL ⟨rfl,j.typeIs,F.args_dict_items_1 _,_,meets_dict_items (yQ X.prog X.w) d ns,⟨p,j⟩,?_⟩)];erw[.ref i.heap.objs.size,_,m.laid (t':=i.toks) (a:=i.heap.objs.size) (o:=.ext (de i.heap.objs.size d)) (λb o e=>e9 _ e) (f7 _) ⟨⟨_,n9 _ rfl,rfl,rfl⟩,⟨_,n9 _ rfl⟩,λh1 h2 ⟨o,e,c⟩ k=>⟨o,k o e,c⟩⟩,rfl,q _ (m.hok.fresh (f7 _))]
end
def Inv.more{j:St}{H:Hp}(I:Inv X i j H s)(f:bY X i H a)(new:wD X.prog X.w (upd H a o) s.heap a o):Inv X i j (upd H a o) s:=by
 obtain⟨D,C,E,B,A,y⟩:=f;have d:∀{b:c7}{u:HO},H b=O u->upd H a o b=O u:=λ{b u} e=>by
  rw[zG (λz=>by rw[z,D] at e; cases e)];rwa[e]
 have g:∀{b:c7},b≠a->H b=J2->upd H a o b=none:=λ{b} n e=>by rw[zG n]; rwa[e]
 have lo:∀{b:c7}{u:Bk},X.s₀.heap.get? b=O u->b ∉ X.ex->b≠a:=λ{b u} e h z=>by
  rcases B with q | q
  ·rwa[h (by rw[z]; exact q)]
  ·rwa[y9 (m7 e) (Nat.not_lt.mpr (by rw[z]; exact q))]
 refine⟨I.ok,I.os,I.bare,⟨I.base.keep,I.base.slot,λb u e n h=>g (lo e h) (I.base.free b u e n h),I.base.there,λb xs e=>d (I.base.tups b xs e),λb u v e=>d (I.base.frzs b u v e),
  λb r e=>let ⟨more,q⟩:=I.base.tbls b r e;⟨more,d q⟩⟩,I.loc,I.cell,g (Bi C) I.free,λx c e=>g (A x c e) (I.freeC x c e),λp l=>?_,λb u e=>?_,I.len⟩
 ·obtain⟨h1,h2,h3⟩:=I.pin p l;rwa[h1,g (y p l) h2,h3]
 ·by_cases m:b=a
  ·subst m;rw[zA] at e;cases e;rwa[new]
  ·rw[zG m] at e;exact(I.hok b u e).stay (λc v _ q=>q) (λc q=>d q) λc xs q=>d q
section
open PySem.W
variable{prog:o0}{w:t7}{A:Ak}{E:c8->d7->Prop}{s:d7}
def Wf{c:Nat->Nat->(Bool->d7->Prop)->d7->Prop}{p:Array Nat}{Q:Nat->d7->Prop} : ∀(f m:Nat),(∀ i,m<=i->i<m+f->∀ C:Bool->d7->Prop,C J7 s->c (p.getD i 0) (p.getD (i-1) 0) C s)->Q (m+f) s->(kas_asc p f m).kasWp c Q s
 | 0,m,_,h=>h
 | f+1,m,d,h=>by
  erw[d m (f7 _) (by lia) _ ?_];show(if J7=J3 then KasT.ret m else kas_asc p f (m+1)).kasWp c Q s;rw[y4 'd'];exact Wf f (m+1) (λi h1 h2=>d i (by lia) (by lia)) (by rw[show m+1+f=m+(f+1) by lia]; rwa[h])
def cN{c:Nat->Nat->(Bool->d7->Prop)->d7->Prop}{n:Nat}{Q:Array Nat->d7->Prop}(h1:1<=n)(d:∀ i,1<=i->i<n->∀ C:Bool->d7->Prop,C J7 s->c i (i-1) C s)(h:Q (Ap (Ad n)) s) :
  (kas_sort n).kasWp c Q s:=by
 have g:∀{i:Nat},i<n->(Ap (Ad n)).getD i 0=i:=λ{i} hi=>by simp[hi]
 unfold kas_sort kas_count;rw[Im,Im];erw[Wf (n-1) 1 (λi a b=>?_) ?_]
 ·rw[g (by lia),g (by lia)];rwa[d i a (by lia)]
 ·rw[show 1+(n-1)=n by lia,y6 'd'];show(if n<n then _ else KasT.ret (Ap (Ad n))).kasWp c Q s;rw[y4 (Bg _)];rwa[h]
def oZ{d:List c8}{n:Nat}{P:JY->d7->Prop}(x:s.heap.get? a=O (seqObj "list" d.toArray n))(I:d.length<64)
  (N:∀ l:Aa,(∀ b o,b≠a->s.heap.get? b=O o->l.get? b=O o)->2<=d.length->∃ m:BA,(∀ Q:BA->d7->Prop,Q m { s with heap:=l }->wpAny 'c' A (keyKind' d.toArray) Q E { s with heap:=l }) /\
   ∀ i,1<=i->i<d.length->∀ C:Bool->d7->Prop,C J7 { s with heap:=l }->kas_ask prog w A m d i (i-1) C { s with heap:=l })
  (h:∀(l:Aa)(c:Nat),(∀ b o,b≠a->s.heap.get? b=O o->l.get? b=O o)->l.get? a=O (seqObj "list" d.toArray c)->P (.done (.ret .none)) { s with heap:=l }) :
  wpAny 'c' A (Fh.«list.sort» ⟨[.ref a],[]⟩) P E s:=by
 have ha:a<s.heap.objs.size:=m7 x;obtain⟨L,u⟩:∃ L,(s.heap.update a (AG λ_=>(#[]:Array c8))).get? a=O (seqObj "list" #[] L):=⟨_,get?_update_seq x λ_=>#[]⟩;rw[list_sort_plain];refine c9 (listItems_at x rfl ?_);refine c9 (listUpdate_at x rfl ?_ (by rw[i7,sizeLine_eq]; lia) (x6 _));refine c9 (seqEpoch_at u rfl ?_);refine c9 (wpAny_newTuple ?_ (by show d.length<=_; rw[sizeLine_eq]; lia));refine c9 (FE ?_ (x6 _));refine Cc ?_;have g:(((s.heap.update a (AG λ_=>#[])).push (seqObj "tuple" d.toArray 0)).push (seqObj "list" #[] 0)).get? a=O (seqObj "list" #[] L):=e9 _ (e9 _ u);have kp:∀ b o,b≠a->s.heap.get? b=O o->(((s.heap.update a (AG λ_=>#[])).push (seqObj "tuple" d.toArray 0)).push (seqObj "list" #[] 0)).get? b=O o:=λb o y e =>
  e9 _ (e9 _ ((AL _ _ (Bi y)).trans e))
 have J:∀ c,(((((s.heap.update a (AG λ_=>#[])).push (seqObj "tuple" d.toArray 0)).push (seqObj "list" #[] 0)).update a (AG λ_=>d.toArray))).get? a=O (seqObj "list" d.toArray c)->P (.done (.ret .none)) { s with heap:=((((s.heap.update a (AG λ_=>#[])).push (seqObj "tuple" d.toArray 0)).push (seqObj "list" #[] 0)).update a (AG λ_=>d.toArray)) }:=λc e =>
  h _ c (λb o y q=>(AL _ _ (Bi y)).trans (kp b o y q)) e
 obtain⟨c2,H⟩:∃ c2,(((((s.heap.update a (AG λ_=>#[])).push (seqObj "tuple" d.toArray 0)).push (seqObj "list" #[] 0)).update a (AG λ_=>d.toArray))).get? a=O (seqObj "list" d.toArray c2):=⟨_,get?_update_seq g λ_=>d.toArray⟩;have done:=J c2 H;show wpAny 'c' A _ P E { s with heap:=((s.heap.update a (AG λ_=>#[])).push (seqObj "tuple" d.toArray 0)).push (seqObj "list" #[] 0) };dsimp only;have B:d.toArray.size=d.length:=by simp
 by_cases h2:d.toArray.size<2
 ·rw[y6 h2,y6 h2];refine c9 (i5 ?_);rw[Ik];refine c9 (i5 ?_);dsimp only;have em:(d.toArray.zip d.toArray).map (·.2)=d.toArray:=by
   apply FS.mp;simp;rwa[FT (f7 _)]
  erw[c9 (seqEpoch_at g rfl ?_)];refine c9 (listUpdate_at g rfl ?_ (hsz2:=by rw[IB]; show(pairsOf d).size<=_; rw[pairsOf_size,sizeLine_eq]; lia));simp only[bne_self_eq_false,BL,if_false];erw[i5 ?_];show P _ { s with heap:=Heap.update _ a (AG λ_=>(d.toArray.zip d.toArray).map (·.2)) };rw[em];rwa[done]
 ·rw[y4 h2,y4 h2];have v:2<=d.length:=by lia
  obtain⟨m,z,D⟩:=N _ kp v;refine c9 (z _ ?_);refine c9 (AW (kat_run (s:={ s with heap:=((s.heap.update a (AG λ_=>#[])).push (seqObj "tuple" d.toArray 0)).push (seqObj "list" #[] 0) }) (κ:=m) (ks:=d) (vs:=d)
   (G:=λp r=>p=Ap (Ad d.length)/\r={ s with heap:=((s.heap.update a (AG λ_=>#[])).push (seqObj "tuple" d.toArray 0)).push (seqObj "list" #[] 0) })
   (Q:=λj r=>(arrOf j).map (·.2)=d.toArray/\failedOf j=J2/\r={ s with heap:=((s.heap.update a (AG λ_=>#[])).push (seqObj "tuple" d.toArray 0)).push (seqObj "list" #[] 0) })
   rfl v I (λZ j r a1 Y X ⟨T,S⟩=>⟨?_,X,S⟩) (cN (by lia) D ⟨rfl,rfl⟩)) ?_ λ_ _ e=>e)
  ·rw[kat_snds rfl Y,T];apply FS.mp;show(Ad d.length).map (λi=>d.getD i Bo)=d;erw[FW 'd' λi h1 h3=>?_];simp at h1;simp[h1]
  rintro⟨⟨⟩,j⟩ r ⟨M,R,rfl⟩;dsimp only;erw[c9 (seqEpoch_at g rfl ?_)];erw[c9 (listUpdate_at g rfl ?_ (hsz2:=by rw[M,B,sizeLine_eq]; lia))];rw[R,M];simp only[bne_self_eq_false,BL,if_false];rwa[i5 done]
end
section
open PySem.W
variable{X:Cx}{J8:List (c7×Bk)}{σ:St}{H:Hp}{s:d7}
def Inv.tuples{lo:c7} : ∀{as:List c7}{H:Hp}(c:List (List V)),Inv X J8 σ H s->as.Pairwise (· < ·)->(∀ a∈as,bY X J8 H a)->as.length=c.length->(∀(j:Nat)(a:c7)(xs:List V),as[j]?=O a->c[j]?=O xs->∀ C,wD X.prog X.w C s.heap a 'q') ->
  ∃ d,Inv X J8 σ d s/\Same H d/\(∀(j:Nat)(a:c7)(xs:List V),as[j]?=O a->c[j]?=O xs->d a=O 'q')/\∀ b,b ∉ as->d b=H b
 | [],H,[],I,_,_,_,_=>⟨H,I,Same.refl _,λj a xs e=>by simp at e,λ_ _=>rfl⟩
 | [],_,_::_,_,_,_,g,_=>by simp at g
 | _::_,_,[],_,_,_,g,_=>by simp at g
 | a::as,H,xs::c,I,u,q,g,p=>by
  have r:=q a (.head _);have f:=By.mp u;have B:=I.more (o:=.tup xs) r (p 0 a xs rfl rfl _);obtain⟨d,A,n,v,n2⟩:=Inv.tuples (lo:=lo) (as:=as) c B f.2 (λb h=>by
   obtain⟨y,x⟩:=q b (.tail _ h);rwa[by rw[zG (DS (f.1 b h))]; exact y,x]) (by simpa using g) (λj b m l i=>p (j+1) b m (by simpa using l) (by simpa using i))
  erw[d,A,(zC r.1 _).trans n,λj b m l i=>?_,λb h=>?_]
  ·cases j with
   | zero =>
    simp at l i;subst l i;rwa[n _ _ zA]
   | succ j=>exact v j b m (by simpa using l) (by simpa using i)
  ·rw[n2 b (λz=>h (.tail _ z)),zG (λz=>h (by rw[z]; rwa[.head _]))]
def jM{h:Aa} : ∀{as:List c7}{ns:List Int},as.length=ns.length->(∀(j:Nat)(a:c7)(n:Int),as[j]?=O a->ns[j]?=O n->∃ t x,h.get? a=O { cls:=.type "tuple",data:=.seq #[.int n t,x] }) ->
  ∃ fs,KatTups h (as.map o9) fs/\fs.length=ns.length/\∀ v∈fs,∃ n t,v=Dj n t
 | [],[],_,_=>⟨[],.nil,rfl,λv c=>nomatch c⟩
 | [],_::_,d,_=>by simp at d
 | _::_,[],d,_=>by simp at d
 | a::as,n::ns,d,g=>by
  obtain⟨t,x,e⟩:=g 0 a n rfl rfl;obtain⟨fs,k,l,f⟩:=jM (as:=as) (ns:=ns) (by simpa using d) λj b m h1 h2=>g (j+1) b m (by simpa using h1) (by simpa using h2);erw[.int n t::fs,.cons e rfl rfl rfl k,by simp[l],λv c=>?_];rcases l9.mp c with rfl | c
  ·rwa[n,t,rfl]
  ·rwa[f v c]
def fQ(hc:X.calm=J3):tD X (.builtin "sorted") (λxs H Q=>E3 λ(v d:c7) (f:List (Int×V))=>A6 (xs=[.ref v]) (H v=O (.ext (de v d))) (Rd H d (.dK (f.map λe=>(.inl e.1,e.2)))) (f.length<64) ((f.map (·.1)).Pairwise (· < ·)) (∀(p:c7)(as:List c7)(H2:Hp),Same H H2->H p=J2->as.length=f.length->H2 p=O (.lst (as.map V.ref))->(∀(j:Nat)(a:c7)(e:Int×V),as[j]?=O a->f[j]?=O e->H a=J2/\H2 a=O (.tup [.int e.1,e.2]))->Q (.ref p) H2)):=by
 intro J8 s σ H xs us Q I r h;obtain⟨v,d,f,rfl,hv,hd,h64,hr,q⟩:=h;obtain⟨u,rfl,ru⟩:=yY.one r;cases ru;obtain⟨hz,ns,P,rel,da⟩:=hd.ok I.hok;obtain⟨o,es,ep,e,c,dt,hk,hp,hn⟩:=da;have hl:P.length=f.length:=by rw[<- rel.length,b9]
 have dat:s.heap.DictAt (yQ X.prog X.w) d P ep:=⟨o,es,e,c,dt,hk,hp,hn⟩;have M:s.heap.IsItemsView v d:=(show wD X.prog X.w H s.heap v (.ext (de v d)) from I.hok v _ hv).1;have Wm:f.length<=sizeLine:=by rw[sizeLine_eq]; lia
 have hh:X.A.in1.handled=none:=I.ok.hd hc;refine Ff kind_sorted plain_sorted entry_sorted (args_sorted1 _) ?_;unfold Fh.«sorted»;refine c9 (m:=checkCount "sorted" 1 1 _) (i5 ?_);refine c9 (kdx_collect (knd:=yQ X.prog X.w) (kvs:=P) (ep:=ep) hh M dat (by rw[hl]; exact Wm) λB J as keep la G=>?_);refine c9 (FE ?_ (by rw[b9,la,hl]; exact Wm));have L:as.length=f.length:=la.trans hl;have at_:∀(j:Nat)(a:c7)(e:Int×V),as[j]?=O a->f[j]?=O e->∃ t x,xV e.2 x/\B.get? a=O { cls:=.type "tuple",data:=.seq #[.int e.1 t,x] }:=λj a e l z=>by
  obtain⟨key,k,x,E,D,g3⟩:=G.pairs j a l;obtain⟨u,hu,ru⟩:=KV.at (vs:=P) (i:=j) (k:=.inl e.1) (v:=e.2) rel (by rw[e7,z]; rfl);rw[hu] at E;cases E;have g2':bJ (Cp e.1) key=true:=D;rcases yT g2' with ⟨i,t,S,N⟩ | ⟨y,t,S,N⟩
  ·cases S;rw[N] at g3;rwa[t,_,ru,g3]
  ·cases S
 have R:(B.push (seqObj "list" (as.map o9).toArray 0)).get? B.objs.size=O (seqObj "list" (as.map o9).toArray 0):=n9 _ rfl;show wpAny _ _ _ _ _ { s with heap:=B.push (seqObj "list" (as.map o9).toArray 0),toks:=J };erw[c9 (Cc (CJ slot_list_sort ⟨_,R,rfl⟩ entry_list_sort ?body (args_list_sort _)))]
 case body =>
  refine oZ (s:={ s with heap:=B.push (seqObj "list" (as.map o9).toArray 0),toks:=J }) R (by rw[b9,L]; rwa[h64]) (λh2 Z two=>?_) λh2 c Z N=>⟨_,rfl,i5 ⟨_,rfl,?_⟩⟩
  ·have Y:∀(j:Nat)(a:c7)(e:Int×V),as[j]?=O a->f[j]?=O e->∃ t x,xV e.2 x/\h2.get? a=O { cls:=.type "tuple",data:=.seq #[.int e.1 t,x] }:=λj a e l z=>by
    obtain⟨t,x,E,D⟩:=at_ j a e l z;rwa[t,x,E,Z a _ (t8 (m7 D)) (e9 _ D)]
   have one:∀ j,j<f.length->∃(a:c7)(t:JD)(x:c8),(as.map o9)[j]?=O (.ref a)/\h2.get? a=O { cls:=.type "tuple",data:=.seq #[.int (f[j]?.getD (0,V.int 0)).1 t,x] }:=λj hj=>by
    have ej:f[j]?=O f[j]:=c6 hj;have ea:as[j]?=O as[j]:=c6 (by lia);obtain⟨t,x,_,g⟩:=Y j _ _ ea ej;rwa[as[j],t,x,by rw[e7,ea]; rfl,by rw[ej]; exact g]
   rw[b9,L] at two;erw[tuples' J3,λQ' hq=>?_,λi h1 hi C hC=>?_]
   ·obtain⟨fs,kt,fl,fi⟩:=jM (h:=h2) (ns:=f.map (·.1)) (as:=as) (by rw[b9,L]) λj a n l hn=>by
     rw[e7,o6] at hn;obtain⟨e,z,rfl⟩:=hn;obtain⟨t,x,_,g⟩:=Y j a e l z;rwa[t,x,g]
    exact kat_kind (T:=.type "int") kt (by rw[fl,b9]; lia) (λv hv=>let ⟨n,t,e⟩:=fi v hv; by rw[e]; rwa[.now]) 'a' hq
   ·rw[b9,L] at hi;obtain⟨a,t,x,S,E⟩:=one i hi;obtain⟨b,u,y,N,D⟩:=one (i-1) (by lia);unfold kas_ask;rw[Ck,Ck,S,N];refine kat_lt E rfl D rfl (kat_cons (FJ ?_));have lt:(f[i-1]?.getD (0,V.int 0)).1<(f[i]?.getD (0,V.int 0)).1:=by
     rw[c6 hi,c6 (show i-1<f.length by lia)];have:=Dp.mp hr (i-1) i (by rw[b9]; lia) (by rw[b9]; lia) (by lia);rw[AR,AR] at this;rwa[this]
    rw[show((f[i]?.getD (0,V.int 0)).1 ==(f[i-1]?.getD (0,V.int 0)).1)=J7 from by
     rw[x4];lia]
    erw[kat_no (oneLt_int ?_)];rw[y8 (by lia)];rwa[hC]
  ·have kp:∀ b o,s.heap.get? b=O o->h2.get? b=O o:=λb o e=>Z b o (t8 (m7 (keep b o e))) (e9 _ (keep b o e));have I2:Inv X J8 σ H { s with heap:=h2,toks:=J }:=I.kept (t':=J) kp;have ab:∀ a∈as,s.heap.objs.size<=a:=λa l=>BM (G.above a l);have I1:Inv X J8 σ H { s with heap:=B,toks:=J }:=I.kept (t':=J) keep;have fp:=I1.fpOk (H':=H) (f7 _) (I1.hok.fresh (f7 _));have I3:Inv X J8 σ (upd H B.objs.size (.lst (as.map V.ref))) { s with heap:=h2,toks:=J }:=I2.more fp ⟨by rw[b9,L]; exact Wm,as.map o9,c,tu as,N⟩;obtain⟨H3,I4,s3,g3,n3⟩:=I3.tuples (lo:=0) (f.map λe=>[V.int e.1,e.2]) G.rise (λa l=>by
    refine I.fpOk (ab a l) ?_;rw[zG (t8 (G.there l))];exact I.hok.fresh (ab a l)) (by rw[b9,L]) λj a xs l hx H'=>by
     rw[e7,o6] at hx;obtain⟨e,z,rfl⟩:=hx;obtain⟨t,x,E,D⟩:=at_ j a e l z;exact⟨by show 2<=sizeLine; rw[sizeLine_eq]; decide,[.int e.1 t,x],.cons ⟨t,rfl⟩ (.cons E .nil),_,Z a _ (t8 (m7 D)) (e9 _ D),rfl,_,rfl⟩
   rwa[.ref B.objs.size,H3,I4,rfl,q B.objs.size as H3 ((zC fp.1 _).trans s3) fp.1 L (s3 _ _ zA) λj a e l z=>⟨I.hok.fresh (ab a (j4 l)),g3 j a _ l (by rw[e7,z]; rfl)⟩]
end
end L2

namespace Sea
section
variable{H H1:Hp}
def nS:∀{l:List (Int×Deed)}{c:List (Key×V)},wC H c (ntE l)->∃ d:List (Int×V),c=d.map (λe=>(.inl e.1,e.2))/\d.map (·.1)=l.map (·.1)/\xS H (l.map (·.2.dt)) (d.map (·.2))
 | [],_,h=>⟨[],h.nil_iff,rfl,zY.mpr rfl⟩
 | (n,D)::l,_,h=>by
  obtain⟨v,r,rfl,h1,h2⟩:=wC.cons_iff.mp h;obtain⟨d,rfl,e,h3⟩:=nS (l:=l) h2;rwa[(n,v)::d,rfl,by rw[j3,j3,e],zH.mpr ⟨v,_,rfl,h1,h3⟩]
def hW:∀{l:List (j9×Int×Int)}{c:List (Key×V)},wC H c (mkE l)->c.map (λkv=>kV kv.1)=(l.map (·.1)).map V.str
 | [],_,h=>by rw[h.nil_iff]; rfl
 | (n,p)::l,_,h=>by
  obtain⟨v,r,rfl,h1,h2⟩:=wC.cons_iff.mp h;rw[j3,hW h2];rfl
structure SO(H:Hp)(as:List c7)(l:List (Int×Deed)):Prop where
 len:as.length=l.length
 at_:∀(j:Nat)(a:c7)(e:Int×Deed),as[j]?=O a->l[j]?=O e->∃ v,H a=O (.tup [.int e.1,v])/\Rep H e.2.dt v
def TB(S:BS):Prop:=(S.notes.map (·.1)).Pairwise (· < ·)
def yS(h:zK S n=O p):(n,p)∈S.marks:=by
 unfold zK at h;rw[o6] at h;obtain⟨e,h1,rfl⟩:=h;have h2:=List.find?_some h1;have c:e.1=n:=of_decide_eq_true h2;rw[<- c];rwa[List.mem_of_find?_eq_some h1]
def wJ{S:BS}{n:j9}(h:n∈S.marks.map (·.1)):∃ p,zK S n=O p:=by
 obtain⟨e,h1,h2⟩:=i9.mp h;unfold zK;cases q:S.marks.find? λe=>decide (e.1=n) with
 | none=>rwa[y9 (Ci.mp q e h1) (by simp[h2])]
 | some c=>rwa[c.2,rfl]
def ui{S:BS}(h:xv H m (mkE S.marks))(e:zK S n=O p):∃(c:List (Key×V))(a:c7),Rd H m (.dK c)/\vR c (.inr n)=O (.ref a)/\H a=O (.tup [.int p.1,.int p.2]):=by
 obtain⟨c,h1,h2⟩:=h;obtain⟨v,g,r⟩:=h2.get (k:=.inr n) (d:=ptD p) (by rw[uu,e]; rfl);obtain⟨a,rfl,f⟩:=rf r;rwa[c,a,h1,g,f]
def iW:∀{l:List 'x'}{k i:Nat}{p:Int×Int},l[i]?=O p->look ((l.zipIdx k).map λe=>((.inl (e.2:Int):Key),ptD e.1)) (.inl ((k+i:Nat):Int))=O (ptD p)
 | [],_,_,_,e=>by simp at e
 | q::l,k,0,p,e=>by
  simp at e;subst e;simp[look,Ce]
 | q::l,k,i+1,p,e=>by
  have c:=iW (l:=l) (k:=k+1) (i:=i) (p:=p) (by simpa using e);rw[Ce,j3];unfold look at c ⊢;rw[AN,y8 (by intro z; injection z with z; simp at z; lia)];rw[show k+1+i=k+(i+1) by lia] at c;rwa[c]
def Uf{S:BS}{i:Nat}(h:xv H r (rnE S.runs))(e:S.runs[i]?=O p):∃(c:List (Key×V))(a:c7),Rd H r (.dK c)/\vR c (.inl (i:Int))=O (.ref a)/\H a=O (.tup [.int p.1,.int p.2]):=by
 obtain⟨c,h1,h2⟩:=h;have:=iW (k:=0) e;rw[CV] at this;obtain⟨v,g,r⟩:=h2.get (k:=.inl (i:Int)) (d:=ptD p) this;obtain⟨a,rfl,f⟩:=rf r;rwa[c,a,h1,g,f]
end
section
variable{H H1:Hp}{S:BS}
structure rL(H:Hp)(S:BS)(as:List c7)(ms:List j9):Prop where
 mk ::
 len:as.length=ms.length
 at_:∀(j:Nat)(a:c7)(n:j9),as[j]?=O a->ms[j]?=O n->∃ p:Int×Int,zK S n=O p/\H a=O (.tup [.str n,.int p.1,.int p.2])
def rL.samE{c:c7->Prop}(h:rL H S as d)(s:wG c H H1)(e:∀ a xs,H a=O 'q'->¬ c a):rL H1 S as d :=
 ⟨h.len,λj a n g f=>let ⟨p,h1,h2⟩:=h.at_ j a n g f;⟨p,h1,s.tup (e _ _ h2) h2⟩⟩
def rL.app(h:rL H S as f)(h1:zK S n=O p)(h2:H a=O (.tup [.str n,.int p.1,.int p.2])):rL H S (as++[a]) (f++[n]) :=
 ⟨by rw[f9,f9,h.len]; rfl,λj b m c d=>by
  rcases Hq j as.length with z | z
  ·rw[AF z] at c;rw[AF (by rw[<- h.len]; rwa[z])] at d;rwa[h.at_ j b m c d]
  ·rw[Ae z] at c;rw[Ae (by rw[<- h.len]; rwa[z]),<- h.len] at d;have e:j-as.length=0:=by have:=(e8.mp c).1; simp at this; lia
   rw[e] at c d;simp at c d;subst c d;rwa[p,h1,h2]⟩
def sk(H:Hp)(d:c7)(S:BS):Prop:=∃ c,Rd H d (.dK c)/\∀ n p,zK S n=O p->∃ a,vR c (.inr n)=O (.ref a)/\H a=O (.tup [.int p.1,.int p.2])
def sk.to(h:sk H d S)(s:Sam H H1):sk H1 d S:=let ⟨kvs,h1,h2⟩:=h;⟨kvs,s.rd id h1,λn p e=>let ⟨a,h3,h4⟩:=h2 n p e;⟨a,h3,s.tup id h4⟩⟩
def vi(d:H D=O u):wG (λx=>x=D) H (upd H D o):=λx o c e=>.inl (by rw[zG c]; rwa[e])
def vU(d:H D=O (.lst c)):∀ b xs,H b=O 'q'->¬ b=D:=λb xs e z=>by rw[z,d] at e; cases e
end
def Rm{i j:Nat}{c:St}{G:V->Hp->Prop}{H:Hp}(h:G (.int (rO i j)) H):if decide ((i:Int)<=j)=J3 then tC (.int 1) c H G else tUn (rU λi=>V.int (-i)) (tC (.int 1)) c H G:=by
 erw[ifD (λz=>?_) (λz=>?_)]
 ·have:rO i j=1:=by unfold rO; rw[y4 (by lia)]
  rw[this] at h;rwa[h]
 ·have:rO i j = -1:=by unfold rO; rw[y6 (by lia)]
  rw[this] at h;rwa[_,rfl,h]
end Sea

namespace Sea
structure xD(H:Hp)(as:List c7)(rows:List (List Int)):Prop where
 mk ::
 len:as.length=rows.length
 at_:∀(j:Nat)(a:c7)(r:List Int),as[j]?=O a->rows[j]?=O r->H a=O (.tup (r.map V.int))
def yE(S:BS)(n:j9):Int×Int:=(zK S n).getD (0,0)
def ym(S:BS):Deed->List (List Int)
 | .bearing _ n a b c d=>[wc [-b,a,a*(yE S n).2-b*(yE S n).1],wc [d,-c,(yE S n).1*d-(yE S n).2*c]]
 | .range _ l r=>[wc [(yE S l).2-(yE S r).2,(yE S r).1-(yE S l).1,(yE S r).1*(yE S l).2-(yE S r).2*(yE S l).1]]
 | _=>[]
def QX(x y:Int):List Int->List Int
 | [a,b,c]=>[a,b,c+a*x+b*y]
 | l=>l
def tP:Deed->Int
 | .bearing m _ _ _ _ _=>m
 | .range m _ _=>m
 | _=>0
def uA(S:BS)(j:Nat)(D:Deed):List (List Int):=(ym S D).map (QX (vT S.runs (tP D).toNat j).1 (vT S.runs (tP D).toNat j).2)
def qI(S:BS):Deed->Prop
 | .bearing m n a b c d=>0<=m/\m<=S.runs.length/\(zK S n).isSome=J3/\uz (a,b)/\uz (c,d)
 | .range m l r=>0<=m/\m<=S.runs.length/\(zK S l).isSome=J3/\(zK S r).isSome=J3/\zK S l≠zK S r
 | _=>False
structure Yh(S:BS):Prop where
 few:Few S
 fresh:Sv S
 rise:TB S
 mk_:∀ e∈S.marks,zm e.2
 way:∀ e∈S.runs,zm e
 note:∀ e∈S.notes,qI S e.2
section
variable{H H1:Hp}{S:BS}
def xD.to(h:xD H as rows)(s:Sam H H1):xD H1 as rows:=⟨h.len,λj a r d c=>s.tup id (h.at_ j a r d c)⟩
def xD.samE{c:c7->Prop}(h:xD H as rows)(s:wG c H H1)(f:∀ a xs,H a=O 'q'->¬ c a):xD H1 as rows:=⟨h.len,λj a r e d=>s.tup (f _ _ (h.at_ j a r e d)) (h.at_ j a r e d)⟩
def xD.nil:xD H [] []:=⟨rfl,λj a r e=>by simp at e⟩
def xD.one{r:List Int}(h:H a=O (.tup (r.map V.int))):xD H [a] [r]:=⟨rfl,λj b e c d=>by
 cases j with
 | zero=>simp at c d; subst c d; rwa[h]
 | succ j=>simp at c⟩
def xD.app(h:xD H as rows)(k:xD H bs more):xD H (as++bs) (rows++more):=⟨by rw[f9,f9,h.len,k.len],λj a r d c=>by
 rcases Hq j as.length with z | z
 ·rw[AF z] at d;rw[AF (by rw[<- h.len]; rwa[z])] at c;rwa[h.at_ j a r d c]
 ·rw[Ae z] at d;rw[Ae (by rw[<- h.len]; rwa[z]),<- h.len] at c;rwa[k.at_ _ a r d c]⟩
def tW(h:∀ e∈S.marks,zm e.2)(e:zK S n=O p):zm p:=h _ (yS e)
def uV(e:zK S n=O p):yE S n=p:=by unfold yE; rw[e]; rfl
end
structure wT(H0 H:Hp)(gs:List c7)(rows:List (List (List Int))):Prop where
 mk ::
 len:gs.length=rows.length
 new:∀ g∈gs,H0 g=J2
 at_:∀(j:Nat)(g:c7)(r:List (List Int)),gs[j]?=O g->rows[j]?=O r->∃ as:List c7,H g=O (.lst (as.map V.ref))/\xD H as r
section
variable{H0 H H1:Hp}{S:BS}
def wT.samE{c:c7->Prop}(h:wT H0 H d rows)(s:wG c H H1)(f:∀ a xs,H a=O 'q'->¬ c a)(i:∀ g∈d,¬ c g):wT H0 H1 d rows :=
 ⟨h.len,h.new,λj g r e l=>let ⟨as,h1,h2⟩:=h.at_ j g r e l;⟨as,s.lst (i g (j4 e)) h1,h2.samE s f⟩⟩
def wT.nil:wT H0 H [] []:=⟨rfl,λg c=>(nomatch c),λj a r e=>by simp at e⟩
def wT.snoc{as:List c7}(h:wT H0 H f rows)(h0:H0 g=J2)(h1:H g=O (.lst (as.map V.ref)))(h2:xD H as r):wT H0 H (f++[g]) (rows++[r]) :=
 ⟨by rw[f9,f9,h.len]; rfl,λx l=>by
  rcases j5.mp l with z | z
  ·rwa[h.new x z]
  ·rw[g6.mp z]; exact h0,λj a i c d=>by
  rcases Hq j f.length with z | z
  ·rw[AF z] at c;rw[AF (by rw[<- h.len]; rwa[z])] at d;rwa[h.at_ j a i c d]
  ·rw[Ae z] at c;rw[Ae (by rw[<- h.len]; rwa[z]),<- h.len] at d;have e:j-f.length=0:=by have:=(e8.mp c).1; simp at this; lia
   rw[e] at c d;simp at c d;subst c d;rwa[as,h1,h2]⟩
def SF{a b c:Int}{M:Nat}(e:a.natAbs<=M)(d:b.natAbs<=M):∃ x y z:Int,wc [a,b,c]=[x,y,z]/\x.natAbs<=M/\y.natAbs<=M :=
 ⟨_,_,_,rfl,i4 (BG _ _) e,i4 (BG _ _) d⟩
def fU(i:∀ e∈S.marks,zm e.2)(kn:qI S D):∀ r∈ym S D,∃ x y z:Int,r=[x,y,z]/\x.natAbs<=10^4/\y.natAbs<=10^4:=by
 match D,kn with
 | .bearing m n a b c d,kn =>
  obtain⟨_,_,_,⟨_,w1,v,u,s⟩,⟨_,q,p,o,j⟩⟩:=kn;dsimp only at w1 v u s q p o j;intro r f;rcases l9.mp f with e | f
  ·rw[e]; rwa[SF (by lia) (by lia)]
  ·rw[g6.mp f]; rwa[SF (by lia) (by lia)]
 | .range m l r,kn =>
  obtain⟨_,_,h1,h2,_⟩:=kn;obtain⟨pt,h⟩:=j7.mp h1;obtain⟨A,g⟩:=j7.mp h2;obtain⟨n1,n2,n3,n4⟩:=tW i h;obtain⟨G,E,C,B⟩:=tW i g;intro w f;rw[g6.mp f,uV h,uV g];rwa[SF (by lia) (by lia)]
def iw : (ym S D).length<=2:=by
 unfold ym;split <;> simp
def br(kn:qI S D)(h:Rep H D.dt v):∃(t:c7)(xs:List V),v=.ref t/\H t=O 'q'/\atI xs 1=O (.int (tP D))/\0<=tP D/\tP D<=S.runs.length:=by
 match D,kn,h with
 | .bearing m n a b c d,kn,h =>
  obtain⟨t,_,_,e,f,_⟩:=uS h;rwa[t,_,e,f,rfl,kn.1,kn.2.1]
 | .range m l r,kn,h =>
  obtain⟨t,e,f⟩:=qT h;rwa[t,_,e,f,rfl,kn.1,kn.2.1]
end
def hU{c d:Type}(f:c->List d)(h:∀ x,(f x).length<=2):∀ l:List c,((l.map f).flatten).length<=2*l.length
 | []=>f7 _
 | x::l=>by
  have:=hU f h l;have:=h x;simp only[j3,List.flatten_cons,f9,g8];lia
def vw{j:Nat} : (uA S j D).length<=2:=by unfold uA; rw[b9]; rwa[iw]
def np_dk{H:Hp}(d:H D=O (.dK c)):∀ b xs,H b=O 'q'->¬ b=D:=λb xs e z=>by rw[z,d] at e; cases e
def ZC{runs:List 'x'}{j:Nat}(h:runs.length<=3)(g:∀ e∈runs,e.1.natAbs<=4/\e.2.natAbs<=4):(vT runs 0 j).1.natAbs<=12/\(vT runs 0 j).2.natAbs<=12:=by
 have f:∀ e∈yi runs 0 j,e∈runs:=λe c=>AM (BP c);have l:=ue runs 0 j;have a:=kH ((yi runs 0 j).map (·.1)) 4 λx d=>by
  obtain⟨e,c,rfl⟩:=i9.mp d;exact(g e (f e c)).1
 have b:=kH ((yi runs 0 j).map (·.2)) 4 λx d=>by
  obtain⟨e,c,rfl⟩:=i9.mp d;exact(g e (f e c)).2
 rw[b9] at a b;unfold vT rO;split <;> rwa[by dsimp only; lia,by dsimp only; lia]
def aQ{k p q:Int}(d:1<=k)(h:¬ (p=0/\q=0)):0<(k*p+q)*(k*q+p)-(k*q-p)*(k*p-q):=by
 have e:(k*p+q)*(k*q+p)-(k*q-p)*(k*p-q)=2*k*(p*p+q*q):=by grind
 rw[e];have h1:0<=p*p:=by rcases JB 0 p with z | z; rwa[BC z z]; rwa[DJ z z]
 have h2:0<=q*q:=by rcases JB 0 q with z | z; rwa[BC z z]; rwa[DJ z z]
 have h3:0<p*p+q*q:=by
  rcases Ga (p=0) with z | z
  ·have c:q≠0:=λw=>h ⟨z,w⟩;have:q*q≠0:=CY c c;lia
  ·have:p*p≠0:=CY z z;lia
 rwa[DP (by lia) h3]
def qE{H:Hp}{m:Int}{a b c d:Int}(e:H w=O (.tup [.str "bearing",.int m,.str n,.ref p,.ref q]))(g:H p=O (.tup [.int a,.int b]))(f:H q=O (.tup [.int c,.int d])):Rep H (Deed.bearing m n a b c d).dt (.ref w) :=
 xE.mpr ⟨w,_,rfl,e,zH.mpr ⟨_,_,rfl,yF.mpr rfl,zH.mpr ⟨_,_,rfl,yJ.mpr rfl,zH.mpr ⟨_,_,rfl,yF.mpr rfl,.two (zp (p:=(a,b)) g) (zp (p:=(c,d)) f)⟩⟩⟩⟩
def Wp{H:Hp}{m:Int}(c:H w=O (.tup [.str "range",.int m,.str l,.str r])):Rep H (Deed.range m l r).dt (.ref w) :=
 xE.mpr ⟨w,_,rfl,c,zH.mpr ⟨_,_,rfl,yF.mpr rfl,zH.mpr ⟨_,_,rfl,yJ.mpr rfl,.two (yF.mpr rfl) (yF.mpr rfl)⟩⟩⟩
def Zx{H:Hp}{x y:Int}(c:H w=O (.tup [.str "mark",.str n,.int x,.int y])):Rep H (Deed.mark n x y).dt (.ref w) :=
 xE.mpr ⟨w,_,rfl,c,zH.mpr ⟨_,_,rfl,yF.mpr rfl,zH.mpr ⟨_,_,rfl,yF.mpr rfl,.two (yJ.mpr rfl) (yJ.mpr rfl)⟩⟩⟩
def aJ{H:Hp}{x y:Int}(c:H w=O (.tup [.str "sail",.int x,.int y])):Rep H (Deed.sail x y).dt (.ref w) :=
 xE.mpr ⟨w,_,rfl,c,zH.mpr ⟨_,_,rfl,yF.mpr rfl,.two (yJ.mpr rfl) (yJ.mpr rfl)⟩⟩
def fv{a b c d:Int}(t:0<a*d-b*c)(h1:a.natAbs<=100)(h2:b.natAbs<=100)(h3:c.natAbs<=100)(h4:d.natAbs<=100):uz (a,b)/\uz (c,d):=by
 erw[⟨λz=>?_,by dsimp only; lia,by dsimp only; lia,by dsimp only; lia,by dsimp only; lia⟩,⟨λz=>?_,by dsimp only; lia,by dsimp only; lia,by dsimp only; lia,by dsimp only; lia⟩]
 ·injection z with z1 z2
  rw[z1,z2] at t;simp at t
 ·injection z with z1 z2
  rw[z1,z2] at t;simp at t
end Sea

namespace Sea
def zw{e:j9×Int×Int}(h:(zK S n).isSome=J3):zK { S with marks:=S.marks++[e] } n=zK S n:=by
 unfold zK at h ⊢;dsimp only;rw[List.find?_append];cases q:S.marks.find? λe=>decide (e.1=n) with
 | none=>rw[q] at h; simp at h
 | some c=>rfl
def ZV{e:j9×Int×Int}(h:qI S D):qI { S with marks:=S.marks++[e] } D:=by
 match D,h with
 | .bearing m n a b c d,h=>rwa[h.1,h.2.1,by rw[zw h.2.2.1]; exact h.2.2.1,h.2.2.2]
 | .range m l r,h=>rwa[h.1,h.2.1,by rw[zw h.2.2.1]; exact h.2.2.1,by rw[zw h.2.2.2.1]; exact h.2.2.2.1,by rw[zw h.2.2.1,zw h.2.2.2.1]; exact h.2.2.2.2]
def Xp{e:Int×Int}(h:qI S D):qI { S with runs:=S.runs++[e] } D:=by
 match D,h with
 | .bearing m n a b c d,h=>exact⟨h.1,by have:=h.2.1; dsimp only; rw[f9]; simp only[g8,Ax]; lia,h.2.2⟩
 | .range m l r,h=>exact⟨h.1,by have:=h.2.1; dsimp only; rw[f9]; simp only[g8,Ax]; lia,h.2.2⟩
def pM{l:List (Int×Deed)}{k:Int}(h:qI S D):qI { S with notes:=l,coming:=k } D:=by
 match D,h with
 | .bearing m n a b c d,h=>rwa[h]
 | .range m l r,h=>rwa[h]
def Tt:Yh BS.nil:=⟨⟨by decide,by decide,by decide,by decide⟩,λe c=>(nomatch c),.nil,λe c=>(nomatch c),λe c=>(nomatch c),λe c=>(nomatch c)⟩
def gP(g:Yh S)(kn:qI S D)(l:S.notes.length<24):Yh { S with notes:=S.notes++[(S.coming,D)],coming:=S.coming+1 }:=by
 refine⟨⟨g.few.ma,g.few.ba,g.few.ru,by show(S.notes++[_]).length<=60; rw[f9]; simp only[g8,Ax]; lia⟩,λe c=>?_,?_,g.mk_,g.way,λe c=>?_⟩
 ·rcases j5.mp c with z | z
  ·have:=g.fresh e z;show e.1<S.coming+1;lia
  ·rw[g6.mp z];show S.coming<S.coming+1;lia
 ·show((S.notes++[(S.coming,D)]).map (·.1)).Pairwise (· < ·);rw[f8,Gw];erw[g.rise,CK _ _,λx f y d=>?_];obtain⟨e,c,rfl⟩:=i9.mp f;rw[g6.mp d];rwa[g.fresh e c]
 ·rcases j5.mp c with z | z
  ·rwa[pM (g.note e z)]
  ·rw[g6.mp z];rwa[pM kn]
def pQ{n k:j9}{x y:Int} : ∀{l:List (j9×Int×Int)},((l.map λe=>if e.1=n then(e.1,x,y) else e).find? λe=>decide (e.1=k)).map (·.2)=((l.find? λe=>decide (e.1=k)).map (·.2)).map λp=>if k=n then(x,y) else p
 | []=>rfl
 | (m,p)::l=>by
  rw[j3,AN,AN];by_cases d:m=n
  ·rw[y6 d];by_cases c:m=k
   ·subst d c;simp
   ·rw[y8 (show ¬ (m,x,y).1=k from c)];rwa[pQ]
  ·rw[y4 d];by_cases c:m=k
   ·subst c;simp[d]
   ·rw[y8 (show ¬ (m,p).1=k from c)];rwa[pQ]
def oI{x y:Int} : zK (aft S (.move n x y)) k=(zK S k).map λp=>if k=n then(x,y) else p:=pQ
def vP{n k:j9}(h:k≠n):zK (aft S (.unmark n)) k=zK S k:=by
 unfold zK;show(List.find? _ (S.marks.filter _)).map _=_;rw[List.find?_filter]
 congr 2
 funext e
 by_cases z:e.1=k
 ·simp[z,h]
 ·simp[z]
def sC{x y:Int}(h:(zK S k).isSome=J3):(zK (aft S (.move n x y)) k).isSome=true:=by
 rw[oI,Ct];rwa[h]
def ZP{x y:Int}(h:qI S D)(g:bM (aft S (.move n x y)) D):qI (aft S (.move n x y)) D:=by
 match D,h,g with
 | .bearing m k a b c d,h,_=>rwa[h.1,h.2.1,sC h.2.2.1,h.2.2.2]
 | .range m l r,h,⟨p,u,f,e,ne⟩=>rwa[h.1,h.2.1,sC h.2.2.1,sC h.2.2.2.1,by rw[f,e]; exact λz=>ne (t6 z)]
def gU(h:qI S D)(g:uh n D):qI (aft S (.unmark n)) D:=by
 match D,h,g with
 | .bearing m k a b c d,h,g=>rwa[h.1,h.2.1,by rw[vP g]; exact h.2.2.1,h.2.2.2]
 | .range m l r,h,g=>rwa[h.1,h.2.1,by rw[vP g.1]; exact h.2.2.1,by rw[vP g.2]; exact h.2.2.2.1,by rw[vP g.1,vP g.2]; exact h.2.2.2.2]
def pR{S f:BS}(h:qI S D)(i:f.marks=S.marks)(g:f.runs.length=S.runs.length):qI f D:=by
 have e:∀ n,zK f n=zK S n:=λn=>by unfold zK; rw[i]
 match D,h with
 | .bearing m k a b c d,h=>rwa[h.1,by rw[g]; exact h.2.1,by rw[e]; exact h.2.2.1,h.2.2.2]
 | .range m l r,h=>rwa[h.1,by rw[g]; exact h.2.1,by rw[e]; exact h.2.2.1,by rw[e]; exact h.2.2.2.1,by rw[e,e]; exact h.2.2.2.2]
def Ul(g:Yh S)(ok:okD S D):Yh (aft S D):=by
 match D,ok with
 | .mark n x y,ok =>
  refine⟨⟨by show(S.marks++[_]).length<=60; rw[f9]; have:=ok.2.2.2; simp only[g8,Ax]; lia,g.few.ba,g.few.ru,g.few.no⟩,g.fresh,g.rise,λe f=>?_,g.way,λe f=>ZV (g.note e f)⟩;rcases j5.mp f with z | z
  ·rwa[g.mk_ e z]
  ·rw[g6.mp z];rwa[ok.2.2.1]
 | .sail x y,ok =>
  refine⟨⟨g.few.ma,g.few.ba,by show(S.runs++[_]).length<=60; rw[f9]; have:=ok.2; simp only[g8,Ax]; lia,g.few.no⟩,g.fresh,g.rise,g.mk_,λe f=>?_,λe f=>Xp (g.note e f)⟩;rcases j5.mp f with z | z
  ·rwa[g.way e z]
  ·rw[g6.mp z];rwa[ok.1]
 | .bearing m n a b c d,ok=>rwa[gP g ⟨ok.1,ok.2.1,ok.2.2.1,ok.2.2.2.1,ok.2.2.2.2.1⟩ ok.2.2.2.2.2.2]
 | .range m l r,ok=>rwa[gP g ⟨ok.1,ok.2.1,ok.2.2.1,ok.2.2.2.1,ok.2.2.2.2.1⟩ ok.2.2.2.2.2]
 | .move n x y,ok =>
  refine⟨⟨by show(S.marks.map _).length<=60; rw[b9]; exact g.few.ma,g.few.ba,g.few.ru,g.few.no⟩,g.fresh,g.rise,λe f=>?_,g.way,λe f=>ZP (g.note e f) (ok.2.2 e f)⟩;obtain⟨h,h1,rfl⟩:=i9.mp f;by_cases z:h.1=n
  ·rw[y6 z];rwa[ok.2.1]
  ·rw[y4 z];rwa[g.mk_ h h1]
 | .unmark n,ok =>
  rwa[⟨i4 (Bs _ _) g.few.ma,g.few.ba,g.few.ru,g.few.no⟩,g.fresh,g.rise,λe f=>g.mk_ e (AS.mp f).1,g.way,λe f=>gU (g.note e f) (ok.2 e f)]
 | .bank n i,ok =>
  exact⟨⟨g.few.ma,by show(S.banks++[_]).length<=60; rw[f9]; have:=ok.2.2.2.2; simp only[g8,Ax]; lia,g.few.ru,g.few.no⟩,g.fresh,g.rise,g.mk_,g.way,λe f=>pR (g.note e f) rfl rfl⟩
 | .level n,_ =>
  rwa[⟨g.few.ma,i4 (Bs _ _) g.few.ba,g.few.ru,g.few.no⟩,g.fresh,g.rise,g.mk_,g.way,λe f=>pR (g.note e f) rfl rfl]
 | .right k x y,ok =>
  refine⟨⟨g.few.ma,g.few.ba,by show(S.runs.set _ _).length<=60; rw[DD]; exact g.few.ru,g.few.no⟩,g.fresh,g.rise,g.mk_,λe f=>?_,λe f=>pR (g.note e f) rfl (by show(S.runs.set _ _).length=_; rw[DD])⟩;rcases Dq f with z | z
  ·rwa[g.way e z]
  ·rw[z];rwa[ok.2.2]
 | .strike k,_ =>
  erw[⟨g.few.ma,g.few.ba,g.few.ru,i4 (Bs _ _) g.few.no⟩,λe f=>g.fresh e (AS.mp f).1,?_,g.mk_,g.way,λe f=>pM (g.note e (AS.mp f).1)];rwa[g.rise.sublist (GM.map _)]
def wE:BS->List Deed->Prop
 | _,[]=>True
 | S,D::r=>okD S D/\wE (aft S D) r
def yU(S:BS)(l:List Deed):BS:=l.foldl aft S
def lN:∀{l:List Deed}{S:BS}{D:Deed},wE S l->okD (yU S l) D->wE S (l++[D])
 | [],_,_,_,h=>⟨h,trivial⟩
 | _::_,_,_,⟨h1,h2⟩,h=>⟨h1,lN h2 h⟩
def pC:∀{l:List Deed}{S:BS}{i:Nat}{D:Deed},wE S l->l[i]?=O D->okD (yU S (l.take i)) D
 | [],_,_,_,_,e=>by simp at e
 | _::_,_,0,_,⟨h1,_⟩,e=>by
  simp at e;subst e;rwa[h1]
 | D'::l,S,i+1,D,⟨_,h2⟩,e=>pC (l:=l) (S:=aft S D') (i:=i) h2 (by simpa using e)
def kj{l:List Deed}{i:Nat}(e:l[i]?=O D):yU S (l.take (i+1))=aft (yU S (l.take i)) D:=by
 unfold yU;rw[w9,e,Fl];rfl
structure vj(no:List (Int×Deed))(k:Int)(i:Nat):Prop where
 mk ::
 len:no.length=i
 num:k=1+(i:Int)
 pos:∀ e∈no,1<=e.1
def vj.nil:vj [] 1 0:=⟨rfl,rfl,λe c=>(nomatch c)⟩
def vj.snoc{k:Int}{i:Nat}{D:Deed}(h:vj no k i):vj (no++[(k,D)]) (k+1) (i+1) :=
 ⟨by rw[f9,h.len]; rfl,by rw[h.num]; lia,λe c=>by
  rcases j5.mp c with z | z
  ·rwa[h.pos e z]
  ·rw[g6.mp z];have:=h.num;show 1<=k;lia⟩
def lC:Deed->Prop
 | .mark _ _ _ | .sail _ _ | .bearing _ _ _ _ _ _ | .range _ _ _=>True
 | _=>False
structure Qh(S:BS):Prop where
 mk ::
 lo:3<=S.marks.length
 hi:S.marks.length<=5
 bd:∀ e∈S.marks,e.2.1.natAbs<=860/\e.2.2.natAbs<=860
 bk:S.banks=[]
def QG:Sp:=λe H Q _=>E4 λ(a r:c7) (rows:List Int) (ns:List j9)=>A9 (e=[.ref a,.ref r]) (H a=O (.lst 'u')) (90<=rows.length) (∀ x∈rows,0<=x/\x<1000003) (H r=O (.lst (ns.map V.str))) (ns.length=5) (∀ n∈ns,vS n) ns.Nodup (∀(l:c7)(xs:List V)(c:List Deed)(d:Hp),Same H d->H l=J2->d l=O (.lst xs)->xS d (c.map Deed.dt) xs->c.length<=14->wE BS.nil c->(yU BS.nil c).runs.length<=3->(∀ D∈c,lC D)->(∃ i,i<=6/\vj (yU BS.nil c).notes (yU BS.nil c).coming i)->Qh (yU BS.nil c)->Q (.ref l) d)
def oC:∀{l:List Deed}{S:BS}{i:Nat},wE S l->wE S (l.take i)
 | [],_,_,_=>by rw[List.take_nil]; rwa[trivial]
 | _::_,_,0,_=>trivial
 | _::_,_,i+1,⟨h1,h2⟩=>⟨h1,oC (i:=i) h2⟩
end Sea

namespace Sea
def stN(l:List (j9×Int×Int))(c:List 'x')(no:List (Int×Deed))(k:Int):BS:=⟨l,[],c,no,k⟩
section
variable{l:List (j9×Int×Int)}{rs:List (Int×Int)}{no:List (Int×Deed)}{k:Int}
def Zi{x y:Int} : aft (stN l rs no k) (.mark n x y)=stN (l++[(n,x,y)]) rs no k:=rfl
def aG{x y:Int} : aft (stN l rs no k) (.sail x y)=stN l (rs++[(x,y)]) no k:=rfl
def lX{m:Int}{a b c d:Int} : aft (stN l rs no k) (.bearing m n a b c d)=stN l rs (no++[(k,.bearing m n a b c d)]) (k+1):=rfl
def dO{m:Int} : aft (stN l rs no k) (.range m a b)=stN l rs (no++[(k,.range m a b)]) (k+1):=rfl
def ix{n:j9}(h:n ∉ l.map (·.1)):zK (stN l rs no k) n=none:=by
 unfold zK;rw[DZ,Ci];intro e c z;rwa[h (i9.mpr ⟨e,c,of_decide_eq_true z⟩)]
def Xa{x y:Int}(d:vS n)(h:n ∉ l.map (·.1))(c:zm (x,y))(e:l.length<20):okD (stN l rs no k) (.mark n x y):=⟨d,ix h,c,e⟩
def YR{x y:Int}(c:zm (x,y))(d:rs.length<12):okD (stN l rs no k) (.sail x y):=⟨c,d⟩
def jP{m:Nat}{n:j9}{a b c d:Int}(i:m<=rs.length)(g:n∈l.map (·.1))(w1:uz (a,b))(f:uz (c,d))(t:0<a*d-b*c)(h:no.length<24):okD (stN l rs no k) (.bearing m n a b c d) :=
 ⟨by lia,by show(m:Int)<=(rs.length:Int); lia,by obtain⟨p,e⟩:=wJ (S:=stN l rs no k) g; rw[e]; rfl,w1,f,t,h⟩
def UV{m:Nat}{a b:j9}(g:m<=rs.length)(f:a∈l.map (·.1))(d:b∈l.map (·.1))(ne:zK (stN l rs no k) a≠zK (stN l rs no k) b)(c:no.length<24):okD (stN l rs no k) (.range m a b) :=
 ⟨by lia,by show(m:Int)<=(rs.length:Int); lia,by obtain⟨p,e⟩:=wJ (S:=stN l rs no k) f; rw[e]; rfl,by obtain⟨p,e⟩:=wJ (S:=stN l rs no k) d; rw[e]; rfl,ne,c⟩
structure jA(Ds:List Deed)(l:List (j9×Int×Int))(rs:List (Int×Int))(no:List (Int×Deed))(k:Int):Prop where
 mk ::
 ok:wE BS.nil Ds
 at_:yU BS.nil Ds=stN l rs no k
 four:∀ D∈Ds,lC D
def VI:jA [] [] [] [] 1:=⟨trivial,rfl,λD c=>(nomatch c)⟩
def qt{c:List Deed}{D:Deed}(h:∀ D∈c,lC D)(k:lC D):∀ E∈c++[D],lC E:=λE d=>by
 rcases j5.mp d with z | z
 ·rwa[h E z]
 ·rw[g6.mp z]; rwa[k]
def jA.snoc(h:jA c l rs no k)(ok:okD (stN l rs no k) D):wE BS.nil (c++[D])/\yU BS.nil (c++[D])=aft (stN l rs no k) D:=by
 exists lN h.ok (by rw[h.at_]; rwa[ok]);have e:=h.at_;unfold yU at e ⊢;rw[Fl,e];rfl
def jA.mark{x y:Int}(h:jA c l rs no k)(ok:okD (stN l rs no k) (.mark n x y)):jA (c++[.mark n x y]) (l++[(n,x,y)]) rs no k:=let ⟨a,b⟩:=h.snoc ok;⟨a,b,qt h.four trivial⟩
def jA.sail{x y:Int}(h:jA c l rs no k)(ok:okD (stN l rs no k) (.sail x y)):jA (c++[.sail x y]) l (rs++[(x,y)]) no k:=let ⟨a,b⟩:=h.snoc ok;⟨a,b,qt h.four trivial⟩
def jA.bearing{m:Int}{a b c d:Int}(h:jA e l rs no k)(ok:okD (stN l rs no k) (.bearing m n a b c d)):jA (e++[.bearing m n a b c d]) l rs (no++[(k,.bearing m n a b c d)]) (k+1):=let ⟨x,y⟩:=h.snoc ok;⟨x,y,qt h.four trivial⟩
def jA.range{m:Int}(h:jA c l rs no k)(ok:okD (stN l rs no k) (.range m a b)):jA (c++[.range m a b]) l rs (no++[(k,.range m a b)]) (k+1):=let ⟨x,y⟩:=h.snoc ok;⟨x,y,qt h.four trivial⟩
end
def ig{d:Type}{l:List d}{i:Nat}{x:d}(h:l.Nodup)(e:l[i]?=O x):x ∉ l.take i:=λm=>by
 obtain⟨j,c⟩:=Ea.mp m;have lt:j<i:=by have:=(e8.mp c).1; rw[m8] at this; lia
 rw[CW,y6 lt] at c;obtain⟨h1,g⟩:=e8.mp c;obtain⟨h2,f⟩:=e8.mp e;have:=(FK h).mp (g.trans f.symm);lia
def Tq{c:List j9}{x:Int}(h:0<((c.map V.str).length:Int)):∃ n,n∈c/\atI (c.map V.str) (x%((c.map V.str).length:Int))=O (.str n):=by
 have h0:=An x (show((c.map V.str).length:Int)≠0 by lia);have h1:=z7 x h;generalize x%((c.map V.str).length:Int)=y at h0 h1;obtain⟨k,rfl⟩:=AQ h0;have d:k<c.length:=by rw[b9] at h1; lia
 rwa[c[k],r6 d,vX (by rw[e7,c6 d]; rfl)]
end Sea

namespace L2
def jj(o:Bk)(f:Array c8->Array c8):(Cd f o).dict=o.dict:=by unfold Cd; split <;> rfl
def bW(h base:Aa)(e:c7)(cls i:c8):Prop :=
 ∃ c d T g f,h.get? e=O c/\(c.cls=cls/\c.dict=J2/\d[2]?=O .none)/\c.data=.fields d/\d[1]?=O (.ref T)/\base.get? T=J2/\T≠e/\h.get? T=O g/\g.data=.fields f/\f[3]?=O i
def vE(base:Aa)(l:List ED)(e:c7)(cls:c8)(h:Aa):Prop:=base.StaysIn h/\base.get? e=J2/\h.FunFrames base l/\bW h base e cls .none
def UW(base:Aa)(l:List ED)(e:c7)(cls:c8)(L:c7)(h:Aa):Prop:=base.StaysIn h/\base.get? e=J2/\h.FunFrames base l/\bW h base e cls (rawInt L)
def Sl(a:c7)(cls:c8)(h:Aa):Prop:=∃ ob c,h.get? a=O ob/\ob.cls=cls/\ob.dict=J2/\ob.data=.fields c/\c[2]?=O .none
def vE.there(x:vE base l e cls h):Sl e cls h:=by
 obtain⟨_,_,_,f,d,_,_,_,g,c,hd,_⟩:=x;rwa[f,d,g,c.1,c.2.1,hd,c.2.2]
section
variable{M:GP}{A:Ak}{E:c8->d7->Prop}{s:d7}
def TK{env:ED}{outer:List ED}{head:c8}{Q:Unit->d7->Prop}
  (Z:A.frames=O (env::outer)) (R:s.heap.FunFrames base (env::outer)) (hf:env.frame=O L)
  (S:s.heap.get? e=O z) (Y:base.StaysIn s.heap) (J:base.get? e=J2) (hd:z.data=.fields u) (B:1<u.size) (hdi:z.dict=J2) (h0:u[2]?=O .none)
  (h:∀ h',UW base (env::outer) e z.cls L h'->s.heap.UpToSlots h'->Q () { s with heap:=h' }) :
  wpAny M A (do let a <- frameOf env; let y <- entryPlaceOf L r; let b <- GN head a .none (rawInt L) .none y; setField (.ref e) 1 b) Q E s:=by
 have I:e ∉ (env::outer).filterMap (·.frame):=λX=>by
  obtain⟨_,o,P,f⟩:=R.mem X;rw[S] at P; injection P with P; subst P; rwa[f u hd]
 erw[c9 (wpAny_frameOf_fun Z R hf λc d=>?_)];erw[c9 (wpAny_entryPlaceOf λy C=>?_)];unfold GN newFields;erw[c9 (AI ?_ (C.sizeOk5 _ _ _ _ _))];have n:c.get? e=O z:=(d.2.1 e I).trans S;have l:base.StaysIn c:=λb o g=>(d.2.1 b λX=>by rw[(R.mem X).1] at g; cases g).trans (Y b o g);generalize H:({ cls:=.type "traceback",dict:=J2,data:=.fields ([head,.ref L,.none,rawInt L,.none]++(if y.isEmpty then Df 6 Bo else y)).toArray } : Bk)=ob;have D:ob.isFreed=false:=by rw[<- H]; rfl
 have G:ob.data=.fields ([head,.ref L,.none,rawInt L,.none]++(if y.isEmpty then Df 6 Bo else y)).toArray:=by rw[<- H]
 have m:=e9 (h:=c) ob n;erw[DY m hd B (h _ ?_ ?_)]
 ·have N:c.objs.size≠e:=DS (m7 n);have p:=CU hd (·.setIfInBounds 1 (o9 c.objs.size));have v:=C3 (Cd (·.setIfInBounds 1 (o9 c.objs.size))) m (D8 p);have x:=(AL (c.push ob) (Cd (·.setIfInBounds 1 (o9 c.objs.size))) (Bi N)).trans (n9 c D);have keep:∀ b o,b≠e->c.get? b=O o->((c.push ob).update e (Cd (·.setIfInBounds 1 (o9 c.objs.size)))).get? b=O o:=λb o w i=>by
   rw[AL _ _ (Bi w)];rwa[e9 _ i]
  have j:∀ b o,s.heap.get? b=O o->(∀ u,o.data≠.fields u)->b≠e:=λb o i f q=>by
   rw[q,S] at i; injection i with i; subst i; rwa[f u hd]
  refine⟨λb o g=>keep b o (λq=>by rw[q,J] at g; cases g) (l b o g),J,R.of_keeps λb o i f=>?_,?_⟩
  ·obtain⟨sl,T⟩:=d.2.2 b o i;rwa[_,keep b _ (j b o i f) T,rfl]
  ·exact⟨_,_,c.objs.size,_,_,v,⟨Hi _ _,by rw[jj]; exact hdi,by rw[Array.getElem?_setIfInBounds_ne 'a']; rwa[h0]⟩,p,by simp[B],l.fresh,N,x,G,by first | (simp; done) | (rcases C with rfl | ⟨_,_,_,_,_,_,_,rfl⟩ <;> simp)⟩
 ·intro b o i f;have w:b≠e:=λq=>by rw[q,S] at i; injection i with i; subst i; rwa[f u hd]
  obtain⟨sl,T⟩:=d.2.2 b o i;exists sl;rw[AL _ _ (Bi w)];rwa[e9 _ T]
def cI{env:ED}{outer:List ED}{Q:Unit->d7->Prop}
  (g:A.frames=O (env::outer)) (o:s.heap.FunFrames base (env::outer)) (m:env.frame=O L)
  (n:s.heap.get? e=O c) (f:base.StaysIn s.heap) (i:base.get? e=J2) (hd:c.data=.fields d) (h1:d[1]?=O .none) (j:c.dict=J2) (h0:d[2]?=O .none)
  (h:∀ l,UW base (env::outer) e c.cls L l->s.heap.UpToSlots l->Q () { s with heap:=l }):wpAny M A (noteFrame (.ref e) env) Q E s:=by
 unfold noteFrame;simp only[m];erw[c9 (DL n hd h1 ?_)];rw[y4 'a'];rwa[TK g o m n f i hd (Cm.mp h1).1 j h0 h]
def fh{env:ED}{outer:List ED}{Q:Unit->d7->Prop}
  (p:A.frames=O (env::outer)) (z:env.frame=O L) (r:vE base (env::outer) e cls s.heap)
  (h:∀ l,UW base (env::outer) e cls L l->s.heap.UpToSlots l->Q () { s with heap:=l }):wpAny M A (noteFrame (.ref e) env) Q E s:=by
 obtain⟨n,u,H,I,y,T,J,G,B,⟨j,v,h0⟩,hd,h1,m,w,x,g,h3⟩:=r;subst j;unfold noteFrame;simp only[z];refine c9 (DL B hd h1 ?_);rw[y6 (show(o9 T != Bo)=J3 from by simp)];refine c9 (DL x g h3 ?_);rw[y4 (show ¬ ((Bo == rawInt L)=J3) from by simp[rawInt])];refine c9 (DY x g (Cm.mp h3).1 ?_);have other:∀ b,b≠T->(s.heap.update T (Cd (·.setIfInBounds 3 Bo))).get? b=s.heap.get? b:=λb f=>AL _ _ (Bi f);have c:∀ b o,s.heap.get? b=O o->(∀ y,o.data≠.fields y)->b≠T:=λb o f d q=>by
  rw[q,x] at f; injection f with f; subst f; rwa[d G g]
 refine TK p (H.of_keeps λb o f d=>⟨o,(other b (c b o f d)).trans f,rfl⟩) z ((other e (Bi w)).trans B)
  (λb o i=>(other b λq=>by rw[q,m] at i; cases i).trans (n b o i)) u hd (Cm.mp h1).1 v h0
  λl D C=>h l D λb o f d=>C b o ((other b (c b o f d)).trans f) d
def WP{base:Aa}{Q:Unit->d7->Prop}(G:base.StaysIn s.heap/\base.get? e=J2/\s.heap.FunFrames base l/\bW s.heap base e cls H)
  (h:∀ y,vE base l e cls y->s.heap.UpToSlots y->Q () { s with heap:=y }):wpAny M A (setFlight (.ref e) J2) Q E s:=by
 obtain⟨v,w,D,C,u,T,I,z,B,p,hd,h1,n,r,x,i,h3⟩:=G;have j:3<z.size:=(Cm.mp h3).1;have other:∀ b,b≠T->(s.heap.update T (Cd (·.setIfInBounds 3 ((J2:Option c7).elim Bo λf=>rawInt f)))).get? b=s.heap.get? b :=
  λb d=>AL _ _ (Bi d)
 have c:∀ b o,s.heap.get? b=O o->(∀ u,o.data≠.fields u)->b≠T:=λb o d g q=>by
  rw[q,x] at d; injection d with d; subst d; rwa[g z i]
 unfold setFlight;refine c9 (DL B hd h1 ?_);rw[y6 (show(o9 T != Bo)=J3 from by simp)];refine DY x i j (h _ ⟨λb o m=>(other b λq=>by rw[q,n] at m; cases m).trans (v b o m),w,
  D.of_keeps λb o d g=>⟨o,(other b (c b o d g)).trans d,rfl⟩,?_⟩ λb o d g=>⟨o.slots,(other b (c b o d g)).trans d⟩)
 rwa[C,u,T,_,_,(other e (Bi r)).trans B,p,hd,h1,n,r,C3 _ x (D8 (CU i _)),CU i _,by simp[j]]
def XI{Q:Unit->d7->Prop}(d:UW base l e cls L s.heap)
  (h:∀ c,vE base l e cls c->s.heap.UpToSlots c->Q () { s with heap:=c }):wpAny M A (setFlight (.ref e) J2) Q E s:=WP d h
def fI{Q:Unit->d7->Prop}(d:vE base l e cls s.heap)
  (h:∀ c,vE base l e cls c->s.heap.UpToSlots c->Q () { s with heap:=c }):wpAny M A (setFlight (.ref e) J2) Q E s:=WP d h
def Ym{env:ED}{outer:List ED}{Q:Unit->d7->Prop}
  (c:A.frames=O (env::outer)) (o:env.frame=O L) (d:vE base (env::outer) e cls s.heap)
  (p:∀ f,vE base outer e cls f->s.heap.UpToSlots f->Q () { s with heap:=f }):wpAny M A (leaving env (.ref e)) Q E s:=by
 unfold leaving;erw[c9 (fh c o d λh1 g i=>?_)];erw[XI g λh2 ⟨n,m,⟨_,_,l⟩,j⟩ h=>p h2 ⟨n,m,l,j⟩ (i.trans h)]
def fX{base h:Aa}{env:ED}{outer:List ED}{Q:Unit->d7->Prop}
  (g:A.frames=O (env::outer)) (y:env.frame=O L) (c:base.StaysIn h) (x:h.FunFrames base (env::outer)) (f:IC h s.heap e cls args)
  (B:∀ i,vE base outer e cls i->s.heap.UpToSlots i->Q () { s with heap:=i }):wpAny M A (leaving env (.ref e)) Q E s:=by
 obtain⟨t,z,v,C⟩:=f.there;have fresh:∀ b,h.get? b=J2->base.get? b=none:=λb d=>by
  cases w:base.get? b with
  | none=>rfl
  | some n=>have:=c b n w; rw[d] at this; cases this
 unfold leaving;erw[c9 (cI g (x.of_keeps λb o d _=>⟨o,f.keeps b o d,rfl⟩) y z (λb o d=>f.keeps b o (c b o d)) (fresh e f.new) rfl rfl rfl rfl λh1 j m=>?_)];erw[XI j λh2 ⟨u,r,⟨_,_,q⟩,p⟩ l=>B h2 ⟨u,r,q,p⟩ (m.trans l)]
end
end L2

namespace L2
def wD.some{H:Hp}(x:wD P w H h a o):∃ ob,h.get? a=O ob:=by
 cases o with
 | lst xs=>obtain⟨_,_,_,_,e⟩:=x; rwa[_,e]
 | tup xs=>obtain⟨_,_,_,o,e,_⟩:=x; rwa[_,e]
 | dK c=>obtain⟨_,_,_,_,o,_,_,e,_⟩:=x; rwa[_,e]
 | dT c=>obtain⟨_,_,_,_,o,_,_,e,_⟩:=x; rwa[_,e]
 | set S n=>obtain⟨o,_,_,_,e,_⟩:=x; rwa[_,e]
 | ins C i fs=>obtain⟨_,_,_,e,_⟩:=x; rwa[_,e]
 | own y=>obtain⟨_,e⟩:=x; rwa[_,e]
 | xd fs=>obtain⟨_,⟨_,_,_,e,_⟩,_⟩:=x; rwa[_,e]
 | rng lo hi=>obtain⟨_,_,_,e⟩:=x; rwa[_,e]
 | frz ob u=>obtain⟨e,_⟩:=x; rwa[_,e]
 | tbl g=>rwa[_,x]
 | met f y=>rwa[_,x]
 | ext d=>obtain⟨_,⟨_,e⟩,_⟩:=x; rwa[_,e]
section
variable{fs:List c7}{H H':Hp}{h h2 h3 B:Aa}{P:o0}{w:t7}
def QJ(u:Un fs [] H H' h h2)(st:B.StaysIn h3)(m:∀ b o f,h.get? b=O f->h2.get? b=O o->b ∉ fs->B.get? b=O o)
  (l:∀ b∈fs,∀ o,h2.get? b=O o->∃ i,h3.get? b=O { o with slots:=i }):Un fs [] H H' h h3 where
 keep:=λb o q n c d=>st _ _ (m b o o q (u.keep b o q n c d) c)
 slot:=λb o q n c d=>by
  obtain⟨i,e⟩:=u.slot b o q n c d;obtain⟨g,j⟩:=l b c _ e;rwa[g,j]
 free:=u.free
 there:=λb o q d=>by
  obtain⟨f,e⟩:=u.there b o q d;by_cases c:b∈fs
  ·obtain⟨i,j⟩:=l b c _ e;rwa[_,j]
  ·rwa[f,st _ _ (m b f o q e c)]
 tups:=u.tups
 frzs:=u.frzs
 tbls:=u.tbls
def TU(ok:HOk P w H' h2)(st:B.StaysIn h3)(d:∀ b o u,H' b=O u->h2.get? b=O o->B.get? b=O o):HOk P w H' h3:=λa o e =>
 (ok a o e).stay (λb u c q=>st _ _ (by
  rcases c with rfl | c
  ·rwa[d _ u o e q]
  ·rwa[d b u _ c q])) (λ_ q=>q) λ_ _ q=>q
end
structure fR(P:o0)(w:t7)(outer:List ED)(H:Hp)(s:d7)(ea:c7)(cls:c8)(H':Hp)(B:Aa)(s':d7):Prop where
 mk ::
 os:s'.os=s.os
 bare:Ex s'.gens
 un:Un (frs outer) [] H H' s.heap s'.heap
 hok:HOk P w H' s'.heap
 new:H' ea=J2
 fresh:s.heap.get? ea=J2
 fly:vE B outer ea cls s'.heap
 has:∀ b o,s'.heap.get? b=O o->((s.heap.get? b).isSome=J3\/(H' b).isSome=J3)->b ∉ frs outer->B.get? b=O o
def CX1(P:o0)(w:t7):CXT:=λouter H s E e f=>∃(c:c7)(cls:c8)(d:Hp)(B:Aa),e=.ref c/\fR P w outer H s c cls d B f/\E cls J2 d
def CX1.none{H:Hp}(h:CX1 P w outer H s E0 e c):False:=let ⟨_,_,_,_,_,_,z⟩:=h; z
def dm{X:Cx}{v:St}{g:Hp}{B h3:Aa}{env:ED}{outer:List ED}(r:X.stack=env::outer)(E:X.outer=outer)(D:X.ex=[])(s:env.frame=O X.env.locals)(J:Inv X I v g s2)
  (p:∀ b o,s2.heap.get? b=O o->((X.s₀.heap.get? b).isSome=J3\/(g b).isSome=J3)->b ∉ frs (env::outer)->B.get? b=O o) (A:g i=J2) (H:X.s₀.heap.get? i=J2)
  (fly:vE B outer i cls h3) (x:s2.heap.UpToSlots h3):fR X.prog X.w outer X.H₀ X.s₀ i cls g B { s2 with heap:=h3 }:=by
 have st:=fly.1;have c:∀ b o,X.s₀.heap.get? b=O o->b ∉ frs outer->b ∉ frs (env::outer):=λb o q f z=>by
  rcases l9.mp (show b∈X.env.locals::frs outer by
   have:frs (env::outer)=X.env.locals::frs outer:=by unfold frs; rw[AT,s]
   rw[<- this]; rwa[z]) with e | e
  ·have l:=o3 (m7 q) J.ok.above;rw[e] at l;rwa[Bg _ l]
  ·rwa[f e]
 have trk:∀ b u,g b=O u->b ∉ frs (env::outer):=λb u e z=>by
  have:=J.stkFree b (by rw[r]; rwa[z]);rw[e] at this;cases this
 have fs:X.fs=frs outer:=by show frs X.outer=_; rw[E]
 have G:∀ b∈frs outer,∀ o,s2.heap.get? b=O o->∃ y,h3.get? b=O { o with slots:=y }:=λb f o e=>by
  obtain⟨_,d,j,C⟩:=J.stack.mem (show b∈X.stack.filterMap (·.frame) by
   rw[r];show b∈frs (env::outer);have:frs (env::outer)=X.env.locals::frs outer:=by unfold frs; rw[AT,s]
   rw[this];rwa[.tail _ f])
  rw[e] at j;cases j;rwa[x b o e C]
 have un:Un (frs outer) [] X.H₀ g X.s₀.heap s2.heap:=by
  have:=J.base;rw[fs,D] at this;rwa[this]
 refine⟨J.os,J.bare,QJ un st (λb o d q e f=>p b o e (.inl (by rw[q]; rfl)) (c b d q f)) G,TU J.hok st λb o u e q=>p b o q (.inr (by rw[e]; rfl)) (trk b u e),A,H,fly,λb o e z f=>?_⟩;have m:∃ d,s2.heap.get? b=O d:=by
  rcases z with z | z
  ·obtain⟨d,q⟩:=j7.mp z;exact un.there b d q 'n'
  ·obtain⟨u,q⟩:=j7.mp z;exact(J.hok b u q).some
 obtain⟨d,j⟩:=m;have n:b ∉ frs (env::outer):=by
  rcases z with z | z
  ·obtain⟨d,q⟩:=j7.mp z;rwa[c b d q f]
  ·obtain⟨u,q⟩:=j7.mp z;rwa[trk b u q]
 have h:=p b d j z n;have:=st _ _ h;rw[show({ s2 with heap:=h3 } : d7).heap=h3 from rfl] at e;rw[this] at e;cases e;rwa[h]
def fR.inv{c:St}{H g:Hp}(I:Inv X e c H s)(f:fR X.prog X.w X.stack H s h cls g B d):Inv X e c g d :=
 I.call' (ch:=[]) f.os f.un f.hok f.bare λb z=>y9 z 'd'
def fR.on{H l:Hp}{s g:d7}(v:g.heap.FunFrames base outer)(f:fR P w outer H s n cls l B g)(d:∀ b∈frs outer,l b=J2)
  (fly:vE B outer n cls h3) (p:g.heap.UpToSlots h3):fR P w outer H s n cls l B { g with heap:=h3 }:=by
 have st:=fly.1;have trk:∀ b u,l b=O u->b ∉ frs outer:=λb u e z=>by
  have:=d b z;rw[e] at this;cases this
 refine⟨f.os,f.bare,QJ f.un st (λb o c q e i=>f.has b o e (.inl (by rw[q]; rfl)) i) (λb i o e=>by
  obtain⟨_,c,j,r⟩:=v.mem i;rw[e] at j;cases j;rwa[p b o e r]),TU f.hok st λb o u e q=>f.has b o q (.inr (by rw[e]; rfl)) (trk b u e),f.new,f.fresh,fly,λb o e z i=>?_⟩
 have m:∃ c,g.heap.get? b=O c:=by
  rcases z with z | z
  ·obtain⟨c,q⟩:=j7.mp z;exact f.un.there b c q 'n'
  ·obtain⟨u,q⟩:=j7.mp z;exact(f.hok b u q).some
 obtain⟨c,j⟩:=m;have h:=f.has b c j z i;have:=st _ _ h;rw[show({ g with heap:=h3 } : d7).heap=h3 from rfl] at e;rw[this] at e;cases e;rwa[h]
def cK(X:Cx)(g:St->XK):Prop:=∀(f:List (c7×Bk))(c:St)(H:Hp)(s:d7)(e:c8)(d:d7),Inv X f c H s->CX1 X.prog X.w X.stack H s (g c) e d->X.xe e d
def Oy(X:Cx)(h:St->XK):Prop:=∀(g:List (c7×Bk))(c:St)(H:Hp)(s:d7)(d:Aa)(e:c7)(cls:c8)(f:List c8),Inv X g c H s->IC s.heap d e cls f->h c cls J2 H->X.xe (.ref e) { s with heap:=d }
def xo : cK X (λ_=>E0):=λ_ _ _ _ _ _ _ h=>h.none.elim
section
variable{P:o0}{w:t7}{K:c5}{mg:j9->Option c8}{base:Aa}{N:List j9}{qual:j9}{scope:DK}{f:c7}{cd:c8}{A:Ak}{outer:List ED}{s:d7}{H:Hp}{E:XK}
def zT:cK (cxOf 'w' P w K mg base N qual scope f cd A outer s H E) (λ_=>E):=by
 intro x r y v e u I h;obtain⟨g,cls,p,B,rfl,d,q⟩:=h;have J:=d.inv I;erw[Ym (base:=B) (cls:=cls) (L:=s.heap.objs.size) I.ok.frames rfl d.fly λh3 fly m=>?_];erw[g,cls,p,B,rfl,dm (X:=cxOf 'w' P w K mg base N qual scope f cd A outer s H E) rfl rfl rfl rfl J (λb o e z n=>d.has b o e (z.imp (λz=>?_) id) n) d.new ?_ fly m,q]
 ·obtain⟨l,i⟩:=j7.mp z;obtain⟨j,c⟩:=I.base.there b l i 'n';rw[c];rfl
 ·show s.heap.get? g=J2;cases i:s.heap.get? g with
  | none=>rfl
  | some l =>
   obtain⟨j,c⟩:=I.base.there g l i 'n';rw[d.fresh] at c;cases c
def xT:Oy (cxOf 'w' P w K mg base N qual scope f cd A outer s H E) (λ_=>E):=by
 intro J D m d G e cls p I j q;have l:∀ env∈(cxOf 'w' P w K mg base N qual scope f cd A outer s H E).stack,∀ b,env.frame=O b->b∈frs (cxOf 'w' P w K mg base N qual scope f cd A outer s H E).stack:=λenv C b i=>CS.mpr ⟨env,C,i⟩;have c:∀ b o,d.heap.get? b=O o->b ∉ frs (cxOf 'w' P w K mg base N qual scope f cd A outer s H E).stack->(Gb d.heap (frs (cxOf 'w' P w K mg base N qual scope f cd A outer s H E).stack)).get? b=O o:=λb o e i=>GG _ e i;refine fX (h:=d.heap) (base:=Gb d.heap (frs (cxOf 'w' P w K mg base N qual scope f cd A outer s H E).stack)) (cls:=cls) (args:=p) (L:=s.heap.objs.size) I.ok.frames rfl (λb o q=>GW _ q) (PySem.W.funFrames_hide I.stack l) j λh3 fly r=>?_;have B:m e=none:=by
  cases z:m e with
  | none=>rfl
  | some u =>
   obtain⟨ob,n⟩:=(I.hok e u z).some;rw[j.new] at n;cases n
 erw[e,cls,m,_,rfl,dm (X:=cxOf 'w' P w K mg base N qual scope f cd A outer s H E) (s2:=d) rfl rfl rfl rfl I (λb o e _ i=>c b o e i) B ?_ fly ((Jp j.keeps).trans r),q];show s.heap.get? e=J2;cases v:s.heap.get? e with
 | none=>rfl
 | some y =>
  obtain⟨x,g⟩:=I.base.there e y v 'n';rw[j.new] at g;cases g
def Fun.okX{x qual:j9}{st:Ao}{f:c7}{N g:List j9}{k:Nat}{sp:Sp}(F:Fun K x qual st f fd)(S:zJ N g (zF st))(len:∀ d H Q E,sp d H Q E->d.length=g.length)
  (e:∀(c:c8)(A:Ak)(outer:List ED)(s:d7)(H:Hp)(d:List V)(Q:VK)(E:XK),yn k (A.deeper (envOfC qual (zF st) s.heap.objs.size f c))->sp d H Q E ->
   ∃ t,PSs (cxOf 'w' P w K mg base N qual (zF st) f c A outer s H E) (xX st) t/\t { nx:=λ_ n=>Q .non n,rt:=Q } (start N d) H):yR P w K mg base 'w' (k+1) f fd g sp:=by
 obtain⟨p,o,kV,m,pm,q,c,ct,j,rfl,lk,i⟩:=F.ex;rwa[QO lk i S len λA outer s H d Q E l h=>e c A outer s H d Q E l h]
end
def qJ(P:o0)(w:t7)(K:c5)(mg:j9->Option c8)(base:Aa)(x:j9)(n:Nat)(c:List j9)(sp:Sp):Prop :=
 ∃(f:c7)(fd:AK),yR P w K mg base 'w' n f fd c sp/\qf K fd c []/\AJ K (.ref f)=J3/\mg x=O (.ref f)
def iA(P:o0)(w:t7)(K:c5)(mg:j9->Option c8)(base:Aa)(g:c7)(n:Nat)(d:List j9)(sp:Sp):Prop :=
 ∃ fd:AK,yR P w K mg base 'w' n g fd d sp/\∀ c:List c8,c.length=d.length->bindArgs fd ⟨c,[]⟩=pure (d.zip c)
section
variable{X:Cx}{n:Nat}{f:c7}{fd:AK}{ps:List j9}{sp:Sp}{x m:j9}{p pos apos:D5}{e o:Ar}{es:List Ar}{ta:TE}{t:TA}{EE:St->XK}{C g:c7}
def cU{c:St}{H:Hp}{Q:VK}(F:yR X.prog X.w X.K X.mg X.base (CX1 X.prog X.w) n f fd ps sp)(v:yn n X.A)(z:qf X.K fd ps [])(q:cK X EE)
  (I:Inv X j c H s) (r:yY vs us) (h:sp vs H Q (EE c)):wpAny 'b' X.A (call (.ref f) us) (EP X j c Q) X.xe s:=by
 have y:us.length=ps.length:=by rw[<- r.length]; rwa[F.len _ _ _ _ h]
 have i:=z s us I.kIn (by rw[BX]; rwa[y]);rw[BX] at i;erw[Iu (codeAny_mono (F.run X.A X.stack s H ⟨us,[]⟩ us vs Q (EE c) v I.env0 i r h) λr l d=>?_)];cases r with
 | error e=>rwa[q j c H s e l I d]
 | ok B =>
  cases B with
  | ret u=>rwa[I.after d]
  | next=>rwa[AO d]
  | brk=>rwa[AO d]
  | cont=>rwa[AO d]
def QD(sp:Sp)(EE:St->XK)(t:TA):TE:=λc H Q=>t c H λd h=>sp d h Q (EE c)
def zS(EE:St->XK)(h:qJ X.prog X.w X.K X.mg X.base x n ps sp)(l:cK X EE)(u:yn n X.A)(z:Gl X x)
  (E:PA X (e::es) t) (d:(x ==("__debug__" : j9))=false:=by decide) (B:starEach (e::es) X.env='A'::starEach es X.env:=by rfl) (c:(backTo pos 'B').any (·.1)=false:=by rfl) :
  PE X 't' (QD sp EE t):=by
 obtain⟨f,fd,F,D,y,v⟩:=h;intro G s j H Q I h;erw[Cf (yr I z v ?_ d)];erw[CT (h₀:=X.base) I.ok.mod.kin y (thn (E pos G s j H _ I h) λL M ⟨J,N,i,r,q⟩=>⟨i.kIn,?_⟩) B c];rwa[cU F u D l i r q]
def QN(C:c7)(m:j9)(sp:Sp)(EE:St->XK)(ta:TE)(t:TA):TE:=λc H Q=>ta c H λx d=>TMeth C m x d (t c d λh i=>sp (x::h) i Q (EE c))
def qU(EE:St->XK)(Z:InB X.base λK=>Cls K C/\YG K C m g)(h:iA X.prog X.w X.K X.mg X.base g n ps sp)(R:cK X EE)(T:yn n X.A)(Y:PE X o ta)(ha:PA X (e::es) t)
  (i:starEach (e::es) X.env='A'::starEach es X.env:=by rfl) (j:(backTo pos 'B').any (·.1)=false:=by rfl)
  (S:eval (.Call (.Attribute o m apos) (e::es) [] pos) X.env=(do
   let D <- eval o X.env
   standAt apos.atName
   let (f,first) <- holding [D] (getMethod D m d)
   callWith pos f first (backTo pos (starEach (e::es) X.env)) (backToKw pos (keywordEach [] X.env))):=by rfl) :
  PE X (.Call (.Attribute o m apos) (e::es) [] pos) (QN C m sp EE ta t):=by
 obtain⟨K,v,c,E⟩:=Z;obtain⟨fd,F,b⟩:=h;intro G s y H Q I h;erw[D9 (pl:=d) (thn (Y G s y H _ I h) λu M ⟨x,H1,L,N,a,dx,fs,ex,ea,l,q⟩=>?_) S];subst ex;obtain rfl:u=o9 a:=N;erw[ph (X:=X.withK K) (L.withK v) ea c E l ?_];erw[CT (first:=[.ref a]) (h₀:=X.base) (K:=K) v E.kp (thn (ha pos G M y H1 _ L q) λB s2 ⟨z,H2,J,r,P⟩=>⟨(J.withK v).kIn,?_⟩) i j];rwa[cU (us:=.ref a::B) (vs:=.ref a::z) F T (.all b) R J (.cons rfl r) P]
def PS.nox{st:Ao}{t:TS}(h:PS X.nox st t):PS X st t:=λi s c H D I d =>
 AW (h i s c H D (I.wish _) d) (λ_ _ q=>q.unwish) λ_ _ z=>AO z
def QS(cls:c8)(EE:St->XK)(t:TA):TS:=λ_ c H=>t c H λd h=>d.length<=sizeLine/\EE c cls J2 h
def xU(EE:St->XK)(c:Ag x C v i X.mg X.base)(Fn:ExcBaseFacts Bn i A L)(J:v.contains (.type Bn)=J3)(FB:ExcBaseFacts B z j v)(hx:Oy X EE)
   (ha:PA X (e::es) t) (hc:X.calm=true:=by rfl) (hg:Gl X x:=by rfl) (hd:(x ==("__debug__" : j9))=false:=by decide) (he:starEach (e::es) X.env='A'::starEach es X.env:=by rfl) (E:(backTo d 'B').any (·.1)=false:=by rfl) :
  PS X (.Raise (O (.Call (.Name x np) (e::es) [] d)) J2 pos) (QS (.ref C) EE t):=by
 obtain⟨tl,N,nm,q,bs,l,P,sub,ab,u,dd,k0,Z,Y,S,R,Q,hC,hN,G,T⟩:=c.obj;intro J8 s M H D I h;refine wpAny_Raise_call_subU (C:=C) (nm:=nm) (q:=q) (N:=N) (bs:=bs) (bm:=tl) (hdct:=l) (sn:=P) (sub:=sub) (ab:=ab) (col:=u) (dd:=dd) (k0:=k0) (k1:=Z) (k2:=Y) (k3:=S) (k5:=R)
  Fn J FB (mN:=Q) (T.hasType FB.hasBase) (I.ok.hd hc) (by rw[he]; show(J7||(backTo d (starEach es X.env)).any (·.1))=J7; rw[E]; rfl) G (yr I hg c.bound ⟨rfl,?_⟩ hd)
 have h:=ha d J8 s M H _ I h;rw[he] at h ⊢;erw[Ei (AW h (λus s2 ⟨vs,H1,w,r,len,q⟩=>⟨rfl,?_,w.bk _ _ hC,hN.keeps w.bk,T.keeps w.bk,λh' e hm=>?_⟩) λ_ _ y=>y)]
 ·rw[<- r.length]; rwa[len]
 ·rwa[hx J8 M H1 s2 h' e _ _ w hm q]
end
end L2

namespace L2
abbrev Cx.tr(X:Cx)(d:List (c7×Bk))(g:St->XK):Cx :=
 { X with pn:=X.pn++d,xe:=λe f=>∃(c:St)(H:Hp)(s:d7),Inv X d c H s/\CX1 X.prog X.w X.stack H s (g c) e f }
abbrev Cx.hd(X:Cx)(e:c8):Cx:={ X with A:=X.A.mark (O e),calm:=J7,xe:=λ_ _=>False }
section
variable{X:Cx}{J8 pins':List (c7×Bk)}{σ:St}{H:Hp}{s:d7}{EE:St->XK}{e:c8}
def Inv.tr(I:Inv X J8 σ H s)(EE:St->XK):Inv (X.tr J8 EE) [] σ H s :=
 ⟨⟨I.ok.mod,I.ok.kind,I.ok.glob,I.ok.blt,I.ok.above,I.ok.inj,I.ok.has,I.ok.cab,I.ok.hd,I.ok.frames,I.ok.stk,I.ok.exf,I.ok.bs,I.ok.bsz,I.ok.noex,I.ok.exfs,I.ok.funs,I.ok.frf⟩,I.os,I.bare,I.base,I.loc,I.cell,I.free,I.freeC,λp c=>I.pin p (by rw[BX] at c; rwa[c]),I.hok,I.len⟩
def Inv.untr(I:Inv (X.tr J8 EE) pins' σ H s):Inv X J8 σ H s :=
 ⟨⟨I.ok.mod,I.ok.kind,I.ok.glob,I.ok.blt,I.ok.above,I.ok.inj,I.ok.has,I.ok.cab,I.ok.hd,I.ok.frames,I.ok.stk,I.ok.exf,I.ok.bs,I.ok.bsz,I.ok.noex,I.ok.exfs,I.ok.funs,I.ok.frf⟩,I.os,I.bare,I.base,I.loc,I.cell,I.free,I.freeC,λp c=>I.pin p (Bb _ c),I.hok,I.len⟩
def Inv.hd(I:Inv X J8 σ H s)(e:c8):Inv (X.hd e) J8 σ H s :=
 ⟨⟨I.ok.mod,I.ok.kind,I.ok.glob,I.ok.blt,I.ok.above,I.ok.inj,I.ok.has,I.ok.cab,λz=>(nomatch z),I.ok.frames,I.ok.stk,I.ok.exf,I.ok.bs,I.ok.bsz,I.ok.noex,I.ok.exfs,I.ok.funs,I.ok.frf⟩,I.os,I.bare,I.base,I.loc,I.cell,I.free,I.freeC,I.pin,I.hok,I.len⟩
def Inv.unhd(I:Inv (X.hd e) J8 σ H s)(c:X.calm=J3->X.A.handled=J2):Inv X J8 σ H s :=
 ⟨⟨I.ok.mod,I.ok.kind,I.ok.glob,I.ok.blt,I.ok.above,I.ok.inj,I.ok.has,I.ok.cab,c,I.ok.frames,I.ok.stk,I.ok.exf,I.ok.bs,I.ok.bsz,I.ok.noex,I.ok.exfs,I.ok.funs,I.ok.frf⟩,I.os,I.bare,I.base,I.loc,I.cell,I.free,I.freeC,I.pin,I.hok,I.len⟩
def SP.untr(h:SP (X.tr J8 EE) pins' D f g):SP X J8 D f g:=by
 cases f with
 | next=>obtain⟨c,d,I,q⟩:=h; rwa[c,d,I.untr,q]
 | brk=>obtain⟨c,d,I,q⟩:=h; rwa[c,d,I.untr,q]
 | cont=>obtain⟨c,d,I,q⟩:=h; rwa[c,d,I.untr,q]
 | ret u=>obtain⟨v,c,d,I,r,q⟩:=h; rwa[v,c,d,I.untr,r,q]
def UI:cK (X.tr J8 EE) EE:=λ_ σ H s _ _ I h=>⟨σ,H,s,I.untr,h⟩
def Inv.moreX(I:Inv X J8 σ H s)(A:H a=J2)(y:a≠X.env.locals)(r:X.s₀.heap.get? a=J2)(m:∀ x c,X.env.cells.lookup x=O c->c≠a)(l:∀ p∈X.pn++J8,p.1≠a)
  (new:wD X.prog X.w (upd H a o) s.heap a o):Inv X J8 σ (upd H a o) s:=by
 have d:∀{b:c7}{u:HO},H b=O u->upd H a o b=O u:=λ{b u} e=>by
  rw[zG (λz=>by rw[z,A] at e; cases e)];rwa[e]
 have f:∀{b:c7},b≠a->H b=J2->upd H a o b=none:=λ{b} n e=>by rw[zG n]; rwa[e]
 have lo:∀{b:c7}{u:Bk},X.s₀.heap.get? b=O u->b≠a:=λ{b u} e z=>by rw[z,r] at e; cases e
 refine⟨I.ok,I.os,I.bare,⟨I.base.keep,I.base.slot,λb u e n j=>f (lo e) (I.base.free b u e n j),I.base.there,λb xs e=>d (I.base.tups b xs e),λb u v e=>d (I.base.frzs b u v e),
  λb i e=>let ⟨more,q⟩:=I.base.tbls b i e;⟨more,d q⟩⟩,I.loc,I.cell,f (Bi y) I.free,λx c e=>f (m x c e) (I.freeC x c e),λp g=>?_,λb u e=>?_,I.len⟩
 ·obtain⟨h1,h2,h3⟩:=I.pin p g;rwa[h1,f (l p g) h2,h3]
 ·by_cases h:b=a
  ·subst h;rw[zA] at e;cases e;rwa[new]
  ·rw[zG h] at e;exact(I.hok b u e).stay (λc v _ q=>q) (λc q=>d q) λc xs q=>d q
end
def Qg(B:Aa)(cls:c8)(D:c7):Prop:=InB B λK=>ID K cls (.ref D)=O J3
def sTry0(B:Aa)(D:c7)(f:(St->XK)->TS)(e:TS):TS:=λE d H=>f (λc cls _ g=>Qg B cls D/\e { nx:=λ_ _=>False,rt:=E.rt } c g) E d H
section
variable{X:Cx}{x n:j9}{i:Nat}{D:c7}{body suite:List Ao}{b₀:Ao}{np hpos pos:D5}{tb:(St->XK)->TS}{th:TS}
def XX{K:c5}{D:c7}(X:K.In h)(e:Sl a cls h)(c:ID K cls (.ref D)=O b):PySem.W.Looks M h (excMatches (.ref a) (.ref D)) b:=by
 obtain⟨ob,_,h1,h2,_⟩:=e;rwa[PySem.W.exm_one X (h2 ▸ (JZ h1).andThen .now) c]
def cz{l:St}{H j:Hp}(E:X.ex=[])(I:Inv X u l H s)(g:fR X.prog X.w X.stack H s d cls j B f)
  (fly:vE B X.stack d cls h) (A:f.heap.UpToSlots h):Inv X u l j { f with heap:=h }/\Sl d cls h/\∀ o,wD X.prog X.w (upd j d o) h d o->Inv X u l (upd j d o) { f with heap:=h }:=by
 have J:=g.inv I;have M:=g.on J.stack J.stkFree fly A;have y:=M.inv I;have ne:∀{b:c7}{o:Bk},s.heap.get? b=O o->b≠d:=λ{b o} q z=>by rw[z,g.fresh] at q; cases q
 erw[y,fly.there,λo new=>y.moreX g.new ?_ ?_ (λx c e=>?_) (λp G=>ne (I.pin p G).1) new]
 ·obtain⟨m,⟨N,_,_,r,_⟩,_⟩:=I.loc;exact(ne r).symm
 ·cases q:X.s₀.heap.get? d with
  | none=>rfl
  | some o =>
   obtain⟨P,C⟩:=I.base.there d o q (by rw[E]; exact λz=>nomatch z);rwa[y9 rfl (ne C)]
 ·obtain⟨v,o,L,_⟩:=I.cell x c e;rwa[ne L]
def Rp(hb:∀ (o:List (c7×Bk)) (N:St->XK),PSs (X.tr o N) body (tb N))(Y:X.mg x=O (.ref D))(Z:∀ m:c7,PSs (X.hd (.ref m)) (b₀::suite) th)
  (d:X.stack=X.env::X.outer/\X.env.frame=O X.env.locals:=by rwa[rfl,rfl]) (hex:X.ex=[]:=by rfl) (hg:Gl X x:=by rfl) (hd:(x ==("__debug__" : j9))=false:=by decide) :
  PS X (.Try body [.ExceptHandler (O (.Name x np)) J2 (b₀::suite) hpos] [] [] pos) (sTry0 X.base D tb th):=by
 intro o s R H E I h;erw[wpAny_Try_except (AW (hb o _ [] s R H E (I.tr _) h) (λf T q=>?_) λe T q=>?_)]
 ·have q:=q.untr;cases f with
  | next=>rwa[DB q]
  | ret v=>rwa[q]
  | brk=>rwa[q]
  | cont=>rwa[q]
 ·obtain⟨Q,H0,s0,M,m,cls,H',B,rfl,A,S,hc⟩:=q;have g:=A.fly;rw[d.1] at g;erw[fh (L:=X.env.locals) (by rw[I.ok.frames,d.1]) d.2 g λh4 j y=>?_];erw[XI j λh5 c w=>?_];have G:=y.trans w;rw[<- d.1] at c;obtain⟨J,C,_⟩:=cz hex M A c G;obtain⟨K,KB,hK⟩:=S;have K5:K.In h5:=KB.keeps J.bk;erw[wpAny_handleBy_cons (codeAny_handlers_test (yr (J.hd (.ref m)) hg Y ?_ hd)) (by intro q; cases q)];refine(XX K5 C hK).here ?_;erw[codeAny_handlers_suite ?_];erw[fI c λh6 l p=>?_];obtain⟨J6,ex6,_⟩:=cz hex M A l (G.trans p);erw[AW (Z m o _ _ _ { nx:=λ_ _=>False,rt:=E.rt } (J6.hd (.ref m)) hc) (λf s9 q=>?_) λ_ _ z=>AO z];cases f with
  | next=>obtain⟨_,_,_,z⟩:=q; rwa[AO z]
  | brk=>obtain⟨_,_,_,z⟩:=q; rwa[AO z]
  | cont=>obtain⟨_,_,_,z⟩:=q; rwa[AO z]
  | ret u =>
   obtain⟨v,P,H9,I9,r,q⟩:=q;rwa[v,_,H9,I9.unhd I.ok.hd,r,q]
end
section
open PySem.W
structure ExcCls(K:c5)(D:c7):Prop where
 mk ::
 ga:findIn K (.ref D) "__getattribute__" = O (O (.builtin "BaseException.__getattribute__"))
 gx:findIn K (.ref D) "__getattr__" = O J2
 fc:findObj K D J2 "__class__" = O (.bind (.builtin "getset_descriptor.__get__") (.builtin "object.__class__"))
 mB:mroIn K D (.type "BaseException")=O J3
 mo:mroIn K D (.type "object")=O J3
end
end L2

namespace L2
abbrev TJ:=St->Hp->(Hp->Prop)->Prop
section
variable{X:Cx}{e:Ar}{es:List Ar}{t:TJ}{te:TE}{pos p:D5}{n:Nat}
def PJ(X:Cx)(es:List Ar)(n:Nat)(t:TJ):Prop:=∀(g:List (c7×Bk))(s:d7)(d:St)(H:Hp)(k:Nat)(c:j9)(Q:j9->d7->Prop)(C:Hp->Prop),Inv X g d H s->c.length<=2000*k->k+n<=100 ->
 t d H C->(∀(h:Hp)(out:j9)(f:d7),C h->out.length<=200000->Inv X g d h f->Q out f)->Joins 'b' X.A X.xe (evalEach es X.env) c Q s
def Xr:TJ:=λ_ H K=>K H
def Sn(te:TE)(t:TJ):TJ:=λc H K=>te c H λv d=>((∃ i,v=.int i/\i.natAbs.log2<1920)\/∃ x,v=.str x/\x.length<=1000)/\t c d K
def qF:PJ X [] 0 Xr:=λ_ s _ H _ c _ _ I h d q z=>z H c s q (by lia) I
def uT{c:j9}{j:Nat}(g:PJ X es n t)(o:c.length<=1000:=by decide)(i:evalEach (.Constant (.str c) j p::es) X.env=eval (.Constant (.str c) j p) X.env::evalEach es X.env:=by rfl):PJ X (.Constant (.str c) j p::es) (n+1) t:=by
 intro l s f H k d Q C I h m q z;rw[i];erw[GX ⟨c,_,rfl,?_,?_⟩]
 ·rw[strLen_append];show d.length+c.length<=2^24;lia
 ·rwa[g l _ f H (k+1) _ _ C (I.tok _) (by rw[strLen_append]; lia) (by lia) q z]
def sr(M:PE X e te)(D:PJ X es n t)(N:evalEach (.FormattedValue e (-1) J2 p::es) X.env=eval (.FormattedValue e (-1) J2 p) X.env::evalEach es X.env:=by rfl):PJ X (.FormattedValue e (-1) J2 p::es) (n+1) (Sn te t):=by
 intro o s j H k f Q C I h R q z;rw[N];erw[Fa (thn (M o s j H _ I q) λu L ⟨v,G,E,r,c,B⟩=>?_)];rcases c with ⟨i,rfl,hi⟩ | ⟨x,rfl,P⟩
 ·obtain⟨J,rfl⟩:=(show ∃ t,u=Dj i t from r);have l:=int_text_length_le (k:=1920) 'a' hi;rw[<- C4] at l;erw[Gp hi ⟨_,_,rfl,?_,?_⟩]
  ·rw[strLen_append];show f.length+_<=2^24;lia
  ·rwa[D o _ j G (k+1) _ _ C (E.tok _) (by rw[strLen_append]; lia) (by lia) B z]
 ·obtain⟨J,rfl⟩:=(show ∃ t,u=CG x t from r);have m:∀(g:JD)(d:Nat),∃ y t,CG x g=.str y t/\(f++y).length<=sizeLine/\Joins 'b' X.A X.xe (evalEach es X.env) (f++y) Q { L with toks:=d }:=λg d =>
   ⟨x,g,rfl,by rw[strLen_append]; show f.length+x.length<=2^24; lia,D o _ j G (k+1) _ _ C (E.tok _) (by rw[strLen_append]; lia) (by lia) B z⟩
  exact formatField_str (λg d=>m g d) (by show x.length<=2^24; lia)
def XB(t:TJ):TE:=λc H Q=>t c H λd=>∀ x:j9,x.length<=200000->Q (.str x) d
def uR{a b:Ar}(f:PJ X (a::b::es) n t)(o:n<=100:=by decide):PE X (.JoinedStr (a::b::es) pos) (XB t):=by
 intro g s d H Q I h;exact wpAny_JoinedStr (f g s d H 0 Jn _ _ I 'a' (by lia) h λj out m c l i=>⟨by show out.length<=2^24; lia,.str out,j,i.tok _,⟨_,rfl⟩,c out l⟩)
end
def bmV:List c8:=[.type "ValueError",.type "Exception",.type "BaseException",.type "object"]
end L2

namespace L2
def UH(w:t7)(x:j9):keyH w (.inr x)=EG w.params x:=rfl
def Vx{w:t7}{B:Aa}{l:List (j9×Nat×V×c8)}{ep:Nat}(h:B.get? a=O ⟨.type "dict",J2,.dict ((l.map λe=>(⟨EG w.params e.1,.str e.1 e.2.1,e.2.2.2⟩:BR)).toArray) ep,#[]⟩)
  (r:∀ e∈l,xV e.2.2.1 e.2.2.2) (nd:(l.map (·.1)).Nodup):Qt P w B a (l.map λe=>(.inr e.1,e.2.2.1)):=by
 erw[l.map λe=>(.inr e.1,e.2.2.2),?_,_,_,ep,h,⟨rfl,rfl,rfl⟩,rfl,λe c=>?_,?_,?_]
 ·clear h nd
  induction l with
  | nil=>rwa[.nil]
  | cons e l d=>rwa[.cons ⟨rfl,r e (.head _)⟩ (d λe c=>r e (.tail _ c))]
 ·have c:e∈l.map λe=>(⟨EG w.params e.1,.str e.1 e.2.1,e.2.2.2⟩:BR):=by simpa using c
  obtain⟨q,_,rfl⟩:=i9.mp c;rwa[.inr q.1,uw P w q.1 q.2.1,(UH w q.1).symm]
 ·rw[List.toList_toArray];clear h nd r
  induction l with
  | nil=>rwa[.nil]
  | cons e l d=>rwa[.cons (uw P w e.1 e.2.1) rfl d]
 ·rw[x5];have:((λe:Key×c8=>e.1) ∘ λe:j9×Nat×V×c8=>((.inr e.1:Key),e.2.2.2))=(λx:j9=>(.inr x:Key)) ∘ λe=>e.1:=rfl;rw[this,<- x5];erw[Cj.mpr (BU.mpr ((Cj.mp nd).imp λn z=>n ?_))];injection z
def Ti(c:Array BR):Bool:=c.toList.all λe=>match e.key with | .str _ _=>J3 | _=>J7
def WQ(h:Ti c=J3):StrKeys c:=λe d=>by
 have:=Aw.mp h e (by simpa using d);cases q:e.key <;> rw[q] at this <;> first | exact⟨_,_,U⟩ | cases this
def aY(K:c5)(N:c7):Bool:=match K.lookup N with
 | some ⟨_,_,.dict c _,_⟩=>Ti c&&(nsFind c "__init__").isNone
 | _=>J7
def dG{K:c5}(X:K.In B)(h:aY K N=J3):∃ m,B.Ns N m/\m "__init__" = none:=by
 unfold aY at h;split at h
 ·rename_i c d e f g q
  rw[AA] at h;exact⟨nsFind e,⟨_,e,f,X _ _ q,U,WQ h.1,λ_=>rfl⟩,by simpa using h.2⟩
 ·cases h
def Zn(K:c5):List c8->Bool
 | []=>J7
 | .ref A::tl=>(match K.lookup A with | some ⟨_,_,.cls c,_⟩=>aY K c.ns&&Zn K tl | _=>J7)
 | v::tl=>(v::tl) == bmV
def eV{K:c5}(X:K.In B):∀{tl:List c8},Zn K tl=J3->OwnTail B bmV tl
 | [],h=>by cases h
 | .ref A::tl,h=>by
  unfold Zn at h;split at h
  ·rename_i c d g f q
   rw[AA] at h;obtain⟨m,h1,h2⟩:=dG X h.1;rwa[.own (X _ _ q) h1 h2 (eV X h.2)]
  ·cases h
 | .type T::tl,h=>by
  have e:(Ip T::tl)=bmV:=beq_iff_eq.mp h;rw[e];rwa[.base]
 | .none::tl,h=>by have e:(Bo::tl)=bmV:=beq_iff_eq.mp h; rw[e]; rwa[.base]
 | .bool b::tl,h=>by have e:(FY b::tl)=bmV:=beq_iff_eq.mp h; rw[e]; rwa[.base]
 | .int i t::tl,h=>by have e:(Dj i t::tl)=bmV:=beq_iff_eq.mp h; rw[e]; rwa[.base]
 | .float i t::tl,h=>by have e:(HU i t::tl)=bmV:=beq_iff_eq.mp h; rw[e]; rwa[.base]
 | .str i t::tl,h=>by have e:(CG i t::tl)=bmV:=beq_iff_eq.mp h; rw[e]; rwa[.base]
 | .bytes i t::tl,h=>by have e:(HS i t::tl)=bmV:=beq_iff_eq.mp h; rw[e]; rwa[.base]
 | .builtin i::tl,h=>by have e:(Value.builtin i::tl)=bmV:=beq_iff_eq.mp h; rw[e]; rwa[.base]
def Pw(K:c5)(C:c7):Bool:=match K.lookup C with
 | some ⟨.type "type",_,.cls c,d⟩=>(match c.mro,d.toList with
  | .ref f::e,[_,_,_,_,O (.builtin n),_]=>f == C&&(!c.hasDel&&(n == "ValueError.__new__" && (aY K c.ns&&Zn K e)))
  | _,_=>J7)
 | _=>J7
def xW{K:c5}{mg:j9->Option c8}(X:K.In B)(y:mg x=O (.ref C))(q:Pw K C=J3):Ag x C bmV "ValueError.__new__" mg B:=by
 unfold Pw at q;split at q
 ·rename_i A D g w
  split at q
  ·rename_i H E p o j i n h d r
   simp only[AA,beq_iff_eq,Bool.not_eq_true'] at q;obtain⟨rfl,c,rfl,hi,v⟩:=q;obtain⟨nm,bs,mro,ns,u,hd,s,sub,G,f,z⟩:=D;dsimp only at d c hi;subst d c;have e:g = #[p,o,j,i,O (.builtin "ValueError.__new__"),h]:=by
    obtain⟨l⟩:=g;simp only at r;rw[r]
   subst e;obtain⟨m,h1,h2⟩:=dG X hi;rwa[y,E,ns,nm,u,bs,hd,s,sub,G,f,A,p,o,j,i,h,m,X _ _ w,h1,h2,eV X v]
  ·cases q
 ·cases q
def Zm{F K:c5} : Av a (F++K)=match Av a F with | some o=>O o | none=>Av a K:=by
 induction F with
 | nil=>rfl
 | cons e F c =>
  rw[FP,Ac,Ac];cases a == e.1 with
  | true=>rfl
  | false=>rwa[c]
def iS:∀{F:c5}{a:c7}{o:Bk},Av a F=O o->(a,o)∈F
 | [],_,_,h=>by cases h
 | (b,u)::F,a,o,h=>by
  rw[Ac] at h;cases z:a == b with
  | true =>
   rw[z] at h;cases h;rw[beq_iff_eq.mp z];rwa[.head _]
  | false =>
   rw[z] at h;rwa[.tail _ (iS h)]
def VN{F K:c5}(n:(F.map (·.1)).all (λa=>(Av a K).isNone)=J3)(X:AH (F++K) h):AH K h:=λa o q=>X a o (by
 rw[Zm];cases z:Av a F with
 | none=>rwa[q]
 | some u =>
  have m:a∈F.map (·.1):=i9.mpr ⟨(a,u),iS z,rfl⟩;have:=Aw.mp n a m;rw[q] at this;cases this)
def Vr{F K:c5}(n:(F.map (·.2.cls)).all (λc=>!(c == .type "list"))=J3)(h:Av a (F++K)=O o)(c:o.cls=.type "list"):Av a K=O o:=by
 rw[Zm] at h;cases z:Av a F with
 | none=>rw[z] at h; rwa[h]
 | some u =>
  rw[z] at h;have h:O u=O o:=h;injection h with h
  subst h;have:=Aw.mp n u.cls (i9.mpr ⟨(a,u),iS z,rfl⟩);rw[c] at this;simp at this
def walk_of3{l:Gg}{n k:Nat}{XP:(j9->Option c8)->Aa->Prop}{L:t7->Aa->Prop}{d:DefRec}{KK:CO->c5}{K:c5}{sp:Sp}{x:j9}
  (P:l.most=O n) (B:n<=sizeLine) (D:d.params.defaults=[]) (N:yn k callerA)
  (X:∀(w:t7)(h:Aa),L w h->(KK w.params).In h) (sub:∀(p:CO)(h:Aa),(KK p).In h->K.In h) (past:∀(p:CO)(a:c7)(o:Bk),Av a (KK p)=O o->o.cls=.type "list" -> Av a K=O o)
  (F:∀(w:t7)(mg:j9->Option c8)(r:c7)(h:Aa),(KK w.params).In h->h.Ns mainGlobals mg->mg d.name=O (.ref r) ->
   ∃ fd:AK,(∀(s:d7)(u:c8),F0 s fd ⟨[u],[]⟩ [(x,u)]) /\
    ∀ base:Aa,(KK w.params).In base->base.Ns mainGlobals mg->yR l.prog w K mg base CX0 k r fd [x] sp)
  (A:∀(H:Hp)(a:c7)(ns:List Int),ns.length<=n->SqL K H a 'p'->sp [.ref a] H (λv _=>v=.bl J3) λ_ _ _=>False) :
  Jk q i XP L l.row.toRowW d [] (λf E=>Iy f E):=by
 erw[Att.attach_call P D λw s₀ I mg mb r o pm cd doc a E ns G Y ho hd R C m j c Q=>?_];have M:=X w _ Y;obtain⟨fd,S,hF⟩:=F w mg r _ M G.T.g C;erw[Uw (K:=KK w.params) M G.T.g G.T.b G.T.builtins G.T.nolimit Q m j (i4 c B) N (λbase J hN=>(hF base J hN).withK (sub _ _ J)) S (λH hO Z=>A H a ns c ?_) λH e s' z=>z];rcases Z with h | ⟨o,y,n,h1,h2,h3⟩
 ·rwa[.inl h]
 ·rwa[.inr ⟨o,y,n,past _ _ _ h1 h2,h2,h3⟩]
end L2

namespace Sea
def WU{a b c:Int}{M N:Nat}(h:a≠0\/b≠0)(f:a.natAbs<=M)(e:b.natAbs<=M)(d:c.natAbs<=N):∃ x y z:Int,wc [a,b,c]=[x,y,z]/\(x≠0\/y≠0)/\x.natAbs<=M/\y.natAbs<=M/\z.natAbs<=N:=by
 erw[_,_,_,rfl,h.imp (λn z=>n ?_) (λn z=>n ?_),i4 (BG _ _) f,i4 (BG _ _) e,i4 (BG _ _) d]
 ·have:=uG (ns:=[a,b,c]) (n:=a) (.head _);rw[show _/_=(0:Int) from z,Bv] at this;rwa[this.symm]
 ·have:=uG (ns:=[a,b,c]) (n:=b) (.tail _ (.head _));rw[show _/_=(0:Int) from z,Bv] at this;rwa[this.symm]
def TV{a b:Int}{M N:Nat}(d:a.natAbs<=M)(c:b.natAbs<=N):(a*b).natAbs<=M*N:=by
 rw[Cg];rwa[Iz d c]
def UE(M N:Nat)(r:List Int):Prop:=∃ x y z:Int,r=[x,y,z]/\(x≠0\/y≠0)/\x.natAbs<=M/\y.natAbs<=M/\z.natAbs<=N
section
variable{S:BS}{D:Deed}
def Yg(o:∀ e∈S.marks,zm e.2)(kn:qI S D):∀ r∈ym S D,UE 2000 (2000000) r:=by
 match D,kn with
 | .bearing m n a b c d,kn =>
  obtain⟨_,_,h1,⟨q,w1,A,y,x⟩,⟨p,w,v,u,s⟩⟩:=kn;dsimp only at w1 A y x w v u s;obtain⟨pt,f⟩:=j7.mp h1;obtain⟨n1,n2,n3,n4⟩:=tW o f;rw[show ym S (.bearing m n a b c d)=[wc [-b,a,a*(yE S n).2-b*(yE S n).1],wc [d,-c,(yE S n).1*d-(yE S n).2*c]] from rfl,uV f];have H:a≠0\/b≠0:=by
   by_cases e:a=0
   ·rwa[.inr λj=>q (by rw[e,j])]
   ·rwa[.inl e]
  have G:c≠0\/d≠0:=by
   by_cases e:c=0
   ·rwa[.inr λj=>p (by rw[e,j])]
   ·rwa[.inl e]
  have C:=TV (a:=a) (b:=pt.2) (M:=100) (N:=1000) (by lia) (by lia);have B:=TV (a:=b) (b:=pt.1) (M:=100) (N:=1000) (by lia) (by lia);have R:=TV (a:=pt.1) (b:=d) (M:=1000) (N:=100) (by lia) (by lia);have Q:=TV (a:=pt.2) (b:=c) (M:=1000) (N:=100) (by lia) (by lia);intro r i;rcases l9.mp i with e | i
  ·rw[e];rwa[WU (by lia) (by lia) (by lia) (by lia)]
  ·rw[g6.mp i];rwa[WU (by lia) (by lia) (by lia) (by lia)]
 | .range m l r,kn =>
  obtain⟨_,_,h1,h2,ne⟩:=kn;obtain⟨pt,f⟩:=j7.mp h1;obtain⟨h,g⟩:=j7.mp h2;obtain⟨n1,n2,n3,n4⟩:=tW o f;obtain⟨P,L,J,I⟩:=tW o g;have ne:pt≠h:=λz=>ne (by rw[f,g,z]);have nz:pt.2-h.2≠0\/h.1-pt.1≠0:=by
   by_cases e:pt.2=h.2
   ·rwa[.inr λj=>ne (DU (by lia) e)]
   ·rwa[.inl (by lia)]
  have C:=TV (a:=h.1) (b:=pt.2) (M:=1000) (N:=1000) (by lia) (by lia);have B:=TV (a:=h.2) (b:=pt.1) (M:=1000) (N:=1000) (by lia) (by lia);intro E i;rw[g6.mp i,uV f,uV g];rwa[WU nz (by lia) (by lia) (by lia)]
def Uq{runs:List 'x'}{i j:Nat}(h:runs.length<=60)(g:∀ e∈runs,zm e):(vT runs i j).1.natAbs<=60000/\(vT runs i j).2.natAbs<=60000:=by
 have f:∀ e∈yi runs i j,e∈runs:=λe c=>AM (BP c);have l:=ue runs i j;have a:=kH ((yi runs i j).map (·.1)) 1000 λx d=>by
  obtain⟨e,c,rfl⟩:=i9.mp d;obtain⟨n,m,_,_⟩:=g e (f e c);lia
 have b:=kH ((yi runs i j).map (·.2)) 1000 λx d=>by
  obtain⟨e,c,rfl⟩:=i9.mp d;obtain⟨_,_,n,m⟩:=g e (f e c);lia
 rw[b9] at a b;unfold vT rO;split <;> rwa[by dsimp only; lia,by dsimp only; lia]
def ol{j:Nat}(g:Yh S)(kn:qI S D):∀ r∈uA S j D,UE 2000 (10^9) r:=by
 intro r f;unfold uA at f;obtain⟨x,m,rfl⟩:=i9.mp f;obtain⟨a,b,c,rfl,nz,l,h,p⟩:=Yg g.mk_ kn x m;obtain⟨e,d⟩:=Uq (i:=(tP D).toNat) (j:=j) g.few.ru g.way;generalize vT S.runs (tP D).toNat j=ld at e d;have o:=TV l e;have n:=TV h d;exists a,b,c+a*ld.1+b*ld.2,U,nz,l,h;have:=Fw (c+a*ld.1) (b*ld.2);have:=Fw c (a*ld.1);lia
end
def p3:List Int->P3
 | [a,b,c]=>(a,b,c)
 | _=>(0,0,0)
def WI{H:Hp} : ∀{as:List c7}{rows:List (List Int)},xD H as rows->(∀ r∈rows,UE 2000 (10^9) r)->∃ c:List Sd,c.map (·.1)=as/\bE H c/\c.map (·.2)=rows.map p3
 | [],[],_,_=>⟨[],rfl,λt d=>(nomatch d),rfl⟩
 | [],_::_,h,_=>by have:=h.len; simp at this
 | _::_,[],h,_=>by have:=h.len; simp at this
 | a::as,r::rows,h,ok=>by
  obtain⟨x,y,z,rfl,nz,m,l,i⟩:=ok r (.head _);have e:=h.at_ 0 a [x,y,z] rfl rfl;obtain⟨c,s,p,o⟩:=WI (as:=as) (rows:=rows) ⟨by have:=h.len; simpa using this,λj b g n f=>h.at_ (j+1) b g (by simpa using n) (by simpa using f)⟩ λr f=>ok r (.tail _ f);erw[(a,x,y,z)::c,by rw[j3,s],λt d=>?_,by rw[j3,j3,o]; rfl];rcases l9.mp d with q | q
  ·rw[q];rwa[e,nz,i4 m 'a',i4 l 'a',i4 i 'a']
  ·rwa[p t q]
def eU{A H:Hp} : ∀{gs:List c7}{rows:List (List (List Int))},wT A H gs rows->(∀ g∈rows,∀ r∈g,UE 2000 (10^9) r)->∃ c:List (c7×List Sd),c.map (·.1)=gs/\(∀ g∈c,H g.1=O (.lst (yM g.2))/\bE H g.2)/\c.map (λg=>g.2.map (·.2))=rows.map λr=>r.map p3
 | [],[],_,_=>⟨[],rfl,λt f=>(nomatch f),rfl⟩
 | [],_::_,h,_=>by have:=h.len; simp at this
 | _::_,[],h,_=>by have:=h.len; simp at this
 | g::gs,r::rows,h,ok=>by
  obtain⟨as,e,i⟩:=h.at_ 0 g r rfl rfl;obtain⟨d,v,u,s⟩:=WI i (ok r (.head _));obtain⟨c,z,y,w⟩:=eU (gs:=gs) (rows:=rows) ⟨by have:=h.len; simpa using this,λx m=>h.new x (.tail _ m),λj b l p n=>h.at_ (j+1) b l (by simpa using p) (by simpa using n)⟩ λg o=>ok g (.tail _ o);refine⟨(g,d)::c,by rw[j3,z],λt f=>?_,by rw[j3,j3,w]; show d.map (·.2)::_=_; rw[s]⟩;rcases l9.mp f with q | q
  ·rw[q];erw[?_,u];show H g=O (.lst ((d.map (·.1)).map V.ref));rw[v];rwa[e]
  ·rwa[y t q]
end Sea

namespace Sea
section
variable{H:Hp}{v:V}
def Wl{x y:Int}(h:Rep H (Deed.move n x y).dt v):∃ a,v=.ref a/\H a=O (.tup [.str "move",.str n,.int x,.int y]):=by
 obtain⟨a,xs,e,h1,h2⟩:=xE.mp h;obtain⟨_,_,rfl,g,h2⟩:=zH.mp h2;obtain⟨_,_,rfl,f,h2⟩:=zH.mp h2;obtain⟨_,_,rfl,d,h2⟩:=zH.mp h2;obtain⟨_,_,rfl,c,h2⟩:=zH.mp h2;rw[yF.mp g,yF.mp f,yJ.mp d,yJ.mp c,zY.mp h2] at h1;rwa[a,e,h1]
def eI(h:Rep H (Deed.unmark n).dt v):∃ a,v=.ref a/\H a=O (.tup [.str "unmark",.str n]):=by
 obtain⟨a,xs,e,h1,h2⟩:=xE.mp h;obtain⟨_,_,rfl,d,h2⟩:=zH.mp h2;obtain⟨_,_,rfl,c,h2⟩:=zH.mp h2;rw[yF.mp d,yF.mp c,zY.mp h2] at h1;rwa[a,e,h1]
def aA(h:Rep H (Deed.level n).dt v):∃ a,v=.ref a/\H a=O (.tup [.str "level",.str n]):=by
 obtain⟨a,xs,e,h1,h2⟩:=xE.mp h;obtain⟨_,_,rfl,d,h2⟩:=zH.mp h2;obtain⟨_,_,rfl,c,h2⟩:=zH.mp h2;rw[yF.mp d,yF.mp c,zY.mp h2] at h1;rwa[a,e,h1]
def ah{k x y:Int}(h:Rep H (Deed.right k x y).dt v):∃ a,v=.ref a/\H a=O (.tup [.str "right",.int k,.int x,.int y]):=by
 obtain⟨a,xs,e,h1,h2⟩:=xE.mp h;obtain⟨_,_,rfl,g,h2⟩:=zH.mp h2;obtain⟨_,_,rfl,f,h2⟩:=zH.mp h2;obtain⟨_,_,rfl,d,h2⟩:=zH.mp h2;obtain⟨_,_,rfl,c,h2⟩:=zH.mp h2;rw[yF.mp g,yJ.mp f,yJ.mp d,yJ.mp c,zY.mp h2] at h1;rwa[a,e,h1]
structure Oc(H:Hp)(cs:List (Int×Int))(ps:List Pr):Prop where
 mk ::
 pt:ps.map (·.2)=cs
 at_:∀ t∈ps,H t.1=O (.tup [.int t.2.1,.int t.2.2])
def jS:∀{g:List 'x'}{xs:List V},xS H (g.map ptD) xs->∃ d:List Pr,xs=sT d/\Oc H g d
 | [],_,h=>⟨[],zY.mp h,rfl,λt f=>(nomatch f)⟩
 | c::g,_,h=>by
  obtain⟨x,r,rfl,h1,h2⟩:=zH.mp h;obtain⟨a,rfl,i⟩:=rf h1;obtain⟨d,rfl,e,h3⟩:=jS h2;erw[(a,c)::d,rfl,by rw[j3,e],λt f=>?_];rcases l9.mp f with z | z
  ·rw[z]; rwa[i]
  ·rwa[h3 t z]
def XY(h:Rep H (Deed.bank n f).dt v):∃(a c:c7)(d:List Pr),v=.ref a/\H a=O (.tup [.str "bank",.str n,.ref c])/\H c=O (.tup (sT d))/\Oc H f d/\Rep H (.tup (f.map ptD)) (.ref c):=by
 obtain⟨a,xs,e,h1,h2⟩:=xE.mp h;obtain⟨_,_,rfl,j,h2⟩:=zH.mp h2;obtain⟨_,_,rfl,i,h2⟩:=zH.mp h2;obtain⟨_,_,rfl,g,h6⟩:=zH.mp h2;obtain⟨c,m,rfl,h3,h4⟩:=xE.mp g;obtain⟨d,rfl,h5⟩:=jS h4;have l:=zY.mp h6;rw[yF.mp j,yF.mp i,l] at h1;rwa[a,c,d,e,h1,h3,h5,g]
end
def Pb : isB d=TQ (d.map (·.2)):=by
 have e:∀ i,ptA ((d.map (·.2)).map λc=>((0,c):c7×Int×Int)) i=ptA d i:=λi=>by
  unfold ptA;rw[e7,e7];cases d[i]? <;> rfl
 have l:((d.map (·.2)).map λc=>((0,c):c7×Int×Int)).length=d.length:=by rw[b9,b9]
 unfold TQ isB rK YY;simp only[e,l]
def RK{x y:Int}(h:(zK S n).isSome=J3):Vf (mkE S.marks) (.inr n) (ptD (x,y))=mkE (aft S (.move n x y)).marks:=by
 have any:(mkE S.marks).any (λe=>decide (e.1=.inr n))=true:=by
  obtain⟨p,e⟩:=j7.mp h;rwa[Bz.mpr ⟨(.inr n,ptD p),i9.mpr ⟨(n,p),yS e,rfl⟩,by simp⟩]
 unfold Vf;rw[y6 any];show _=mkE (S.marks.map _);unfold mkE;rw[x5,x5];erw[AV λe _=>?_];show(if (Cq e.1:Key)=Cq n then((Cq e.1:Key),ptD (x,y)) else(Cq e.1,ptD e.2))=_;by_cases z:e.1=n
 ·rw[y6 (by rw[z])];show _=((Cq (if e.1=n then(e.1,x,y) else e).1:Key),ptD (if e.1=n then(e.1,x,y) else e).2);rw[y6 z]
 ·rw[y4 (λq=>z (HR q))];show _=((Cq (if e.1=n then(e.1,x,y) else e).1:Key),ptD (if e.1=n then(e.1,x,y) else e).2);rw[y4 z]
def UU(l:List (j9×Int×Int))(n:j9):fV (mkE l) (.inr n)=mkE (l.filter λe=>decide (e.1≠n)):=by
 unfold fV mkE;rw[Gf]
 congr 1
 erw[D3 λe _=>?_];simp
def bz(l:List (j9×List 'x')):(bkE l).length=l.length:=by unfold bkE; rw[b9]
def Sw(l:List (j9×List 'x'))(n:j9)(c:List 'x'):bkE (l++[(n,c)])=bkE l++[(.inr n,.tup (c.map ptD))]:=by
 unfold bkE;rw[f8];rfl
def VG(l:List (j9×List 'x'))(n:j9):fV (bkE l) (.inr n)=bkE (l.filter λe=>decide (e.1≠n)):=by
 unfold fV bkE;rw[Gf]
 congr 1
 erw[D3 λe _=>?_];simp
def aU{l:List (j9×List 'x')}{n:j9}(h:n ∉ l.map (·.1)):∀ e∈bkE l,e.1≠.inr n:=λe c z=>by
 unfold bkE at c;obtain⟨q,d,rfl⟩:=i9.mp c;rwa[h (i9.mpr ⟨q,d,HR z⟩)]
def nV{es:List (Key×Dt)}{k:Key}(h:∀ e∈es,e.1≠k):look es k=none:=by
 unfold look;rw[DZ,Ci];rwa[λe c z=>h e c (of_decide_eq_true z)]
def RL{c:List (Key×Dt)}{k:Key}(h:k∈c.map (·.1)):∃ d,look c k=O d:=by
 obtain⟨e,f,rfl⟩:=i9.mp h;unfold look;cases q:c.find? λx=>decide (x.1=e.1) with
 | none=>rwa[y9 (Ci.mp q e f) 'd']
 | some x=>rwa[x.2,rfl]
def Pa{l:List (j9×List 'x')}{n:j9}(h:n∈l.map (·.1)):∃ d,look (bkE l) (.inr n)=O d:=RL (by
 obtain⟨e,c,rfl⟩:=i9.mp h;rwa[i9.mpr ⟨_,i9.mpr ⟨e,c,rfl⟩,rfl⟩])
def Tg:∀{l:List 'x'}{k i:Nat}{p:Int×Int},((l.zipIdx k).map λe=>((.inl (e.2:Int):Key),ptD e.1)).map (λe=>if e.1=.inl ((k+i:Nat):Int) then(e.1,ptD p) else e)=((l.set i p).zipIdx k).map λe=>((.inl (e.2:Int):Key),ptD e.1)
 | [],_,_,_=>rfl
 | q::l,k,0,p=>by
  rw[List.set_cons_zero,Ce,Ce,j3,j3,j3,y6 (by rfl)]
  congr 1
  rw[AV (g:=id),Gy];intro e f;obtain⟨u,d,rfl⟩:=i9.mp f;rw[y4]
  ·rfl
  intro z;injection z with z
  have:=List.le_snd_of_mem_zipIdx d;simp at z;lia
 | q::l,k,i+1,p=>by
  have c:=Tg (l:=l) (k:=k+1) (i:=i) (p:=p);rw[show k+1+i=k+(i+1) by lia] at c;rw[List.set_cons_succ,Ce,Ce,j3,j3,j3,c,y4];intro z;injection z with z
  simp at z;lia
def RN{l:List 'x'}{i:Nat}(h:i<l.length):Vf (rnE l) (.inl (i:Int)) (ptD p)=rnE (l.set i p):=by
 have e:=iW (k:=0) (c6 h);rw[CV] at e;have any:(rnE l).any (λe=>decide (e.1=.inl (i:Int)))=true:=by
  cases q:(rnE l).any (λe=>decide (e.1=.inl (i:Int))) with
  | true=>rfl
  | false =>
   have:=nV (es:=rnE l) (k:=.inl (i:Int)) λe c z=>by
    have:=G9.mp q e c;simp[z] at this
   rw[show look (rnE l) (.inl (i:Int))=_ from e] at this;cases this
 unfold Vf;rw[y6 any];have:=Tg (l:=l) (k:=0) (i:=i) (p:=p);rw[CV] at this;rwa[this]
def xS.set{H:Hp}(h:Rep H d v):∀{l:List Dt}{xs:List V}(i:Nat),xS H l xs->xS H (l.set i d) (xs.set i v)
 | [],_,i,q=>by rw[zY.mp q]; rwa[zY.mpr rfl]
 | d'::l,_,0,q=>by
  obtain⟨x,r,rfl,h1,h2⟩:=zH.mp q;rwa[zH.mpr ⟨v,r,rfl,h,h2⟩]
 | d'::l,_,i+1,q=>by
  obtain⟨x,r,rfl,h1,h2⟩:=zH.mp q;rwa[zH.mpr ⟨x,_,rfl,h1,xS.set h i h2⟩]
def Ot{n i:Nat}(h:i<n):ixN n (i:Int)=O i:=by
 unfold ixN;simp;lia
end Sea

namespace L2
def isS(n:j9):V->Bool
 | .str z=>z == n
 | _=>J7
def rInM(K:c5):R2:=λx y H Q=>∃(p:c7)(xs:List V)(n:j9),y=.ref p/\x=.str n/\SqT K H p xs/\(∀ v∈xs,(∃ z,v=.str z)\/∃ a c,v=.ref a/\SqT K H a c)/\Q (.bl (xs.any (isS n))) H
section
variable{X:Cx}
def Qn(i:X.A.units+1<cLine):OpR X (compareOp .In) (rInM X.K):=by
 intro L s G H x y v u Q I o m h;obtain⟨p,xs,n,rfl,rfl,D,ok,q⟩:=h;cases m;obtain⟨t,rfl⟩:=o;obtain⟨e,r,B,J⟩:=I.tuple D;have f:∀{xs:List V}{d:List c8},yY xs d->(∀ v∈xs,(∃ z,v=.str z)\/∃ a j,v=.ref a/\SqT X.K H a j)->(∀ u∈d,Ec X.A.in1 s u (.str n t) (eqU (.str n) u))/\d.any (eqU (.str n))=xs.any (isS n):=by
  intro xs d g
  induction g with
  | nil=>exact λ_=>⟨λu i=>(nomatch i),rfl⟩
  | @cons y u xs d r _ C =>
   intro ok;obtain⟨h1,h2⟩:=C λv g=>ok v (.tail _ g);rcases ok y (.head _) with ⟨z,rfl⟩ | ⟨a,j,rfl,E⟩
   ·obtain⟨l,rfl⟩:=r;erw[λw c=>?_,by rw[Bu,Bu,h2]; rfl];rcases l9.mp c with rfl | c
    ·rwa[EN z l n t]
    ·rwa[h1 w c]
   ·cases r;obtain⟨_,_,pa,_⟩:=I.tuple E;erw[λw c=>?_,by rw[Bu,Bu,h2]; rfl];rcases l9.mp c with rfl | c
    ·rwa[SeqAt.EqAt.tuple_str n t pa i]
    ·rwa[h1 w c]
 obtain⟨h1,h2⟩:=f r ok;refine HE (eqU (.str n)) B (λw c=>h1 w (by simpa using c)) ⟨.bl _,H,I,rfl,?_⟩;rw[show e.toArray.any (eqU (.str n))=e.any (eqU (.str n)) by simp,h2];rwa[q]
end
def Same.seqT{K:c5}{H c:Hp}(e:Same H c)(h:SqT K H a xs):SqT K c a xs:=by
 rcases h with (h | ⟨o,h⟩) | h
 ·rwa[.inl (.inl (e _ _ h))]
 ·rwa[.inl (.inr ⟨o,e _ _ h⟩)]
 ·rwa[.inr h]
def Same.sq{K:c5}{H c:Hp}(s:Same H c)(h:Sq K H l xs):Sq K c l xs:=by
 rcases h with h | h
 ·rwa[.inl (s.seq h)]
 ·rwa[.inr (s.seqT h)]
end L2

namespace Sea
def BkL(C:c7)(H:Hp)(b p l:c7)(S:BS)(past later:List (Deed×BS)):Prop:=∃ f d c e,BkA C H b p f d l c e S past later
abbrev Bl(b p l:c7):c7->Prop:=λx=>x=b\/x=p\/x=l
section
variable{H H1:Hp}
def BkL.to(k:BkL C H b p l S past later)(s:Sam H H1):BkL C H1 b p l S past later:=let ⟨dx,d,ps,ls,q⟩:=k;⟨dx,d,ps,ls,q.to s⟩
def BkL.at(k:BkL C H b p l S past later):vh C H b p S past later:=let ⟨dx,d,ps,ls,q⟩:=k;⟨dx,d,l,ps,ls,q⟩
def bl_nd(f:H b=O (.ins C j fs))(d:H p=O (.lst g))(e:H l=O (.lst i)):∀ a c,Rd H a (.dK c)->¬ Bl b p l a:=λa c h z=>by
 rcases z with z | z | z <;> subst z <;> rcases h with h | ⟨o,h⟩
 ·rw[f] at h; cases h
 ·rw[f] at h; cases h
 ·rw[d] at h; cases h
 ·rw[d] at h; cases h
 ·rw[e] at h; cases h
 ·rw[e] at h; cases h
def bl_np(g:H b=O (.ins C i fs))(e:H p=O (.lst c))(f:H l=O (.lst d)):∀ a xs,H a=O 'q'->¬ Bl b p l a:=λa xs h z=>by
 rcases z with z | z | z <;> subst z
 ·rw[g] at h; cases h
 ·rw[e] at h; cases h
 ·rw[f] at h; cases h
end
end Sea

namespace Sea
mutual
def sx:Dt->List j9
 | .int i=>[Dk (toString i)]
 | .str x=>[x]
 | .tup l=>yd l
def yd:List Dt->List j9
 | []=>[]
 | d::l=>sx d++yd l
end
def eO:Nat->Dt->Prop
 | _,.int i=>i.natAbs.log2<1920
 | _,.str x=>x.length<=1921
 | 0,.tup _=>False
 | n+1,.tup l=>l.length<=900/\∀ d∈l,eO n d
mutual
def Wo:∀(n:Nat)(d:Dt),eO n d->∀ w∈sx d,w.length<=1921
 | n,.int i,h,w,c=>by
  have h:i.natAbs.log2<1920:=by cases n <;> rwa[h]
  rw[sx] at c;rw[g6.mp c,C4];rwa[int_text_length_le (k:=1920) 'a' h]
 | n,.str x,h,w,c=>by
  have h:x.length<=1921:=by cases n <;> rwa[h]
  rw[sx] at c;rw[g6.mp c];rwa[h]
 | 0,.tup _,h,_,_=>h.elim
 | n+1,.tup l,h,w,c=>by
  rw[sx] at c;rwa[ij n l h.2 w c]
def ij:∀(n:Nat)(l:List Dt),(∀ d∈l,eO n d)->∀ w∈yd l,w.length<=1921
 | _,[],_,w,c=>by rw[yd] at c; exact nomatch c
 | n,d::l,h,w,c=>by
  rw[yd] at c;rcases j5.mp c with z | z
  ·rwa[Wo n d (h d (.head _)) w z]
  ·rwa[ij n l (λd hd=>h d (.tail _ hd)) w z]
end
mutual
def yx:Dt->List Dt
 | .int i=>[.int i]
 | .str x=>[.str x]
 | .tup l=>qR l
def qR:List Dt->List Dt
 | []=>[]
 | d::l=>yx d++qR l
end
def w1:Dt->j9
 | .int i=>Dk (toString i)
 | .str x=>x
 | .tup _=>Jn
mutual
def dQ:∀ d:Dt,sx d=(yx d).map w1
 | .int i=>by rw[sx,yx]; rfl
 | .str x=>by rw[sx,yx]; rfl
 | .tup l=>by rw[sx,yx]; rwa[uc l]
def uc:∀ l:List Dt,yd l=(qR l).map w1
 | []=>by rw[yd,qR]; rfl
 | d::l=>by rw[yd,qR,f8,dQ d,uc l]
end
mutual
def XA:∀(n:Nat)(d:Dt),eO n d->∀ e∈yx d,eO 0 e
 | n,.int i,h,e,c=>by
  rw[yx] at c;rw[g6.mp c];cases n <;> rwa[h]
 | n,.str x,h,e,c=>by
  rw[yx] at c;rw[g6.mp c];cases n <;> rwa[h]
 | 0,.tup _,h,_,_=>h.elim
 | n+1,.tup l,h,e,c=>by
  rw[yx] at c;rwa[ip n l h.2 e c]
def ip:∀(n:Nat)(l:List Dt),(∀ d∈l,eO n d)->∀ e∈qR l,eO 0 e
 | _,[],_,e,c=>by rw[qR] at c; exact nomatch c
 | n,d::l,h,e,c=>by
  rw[qR] at c;rcases j5.mp c with z | z
  ·rwa[XA n d (h d (.head _)) e z]
  ·rwa[ip n l (λd hd=>h d (.tail _ hd)) e z]
end
end Sea

namespace L2
section
variable{X:Cx}
def rNeDK:R2:=λx y H Q=>E3 λ(a b:c7) (c:List (Key×V))=>A5 (x=.ref a) (y=.ref b) (Rd H a (.dK c)) (H b=O (.dK [])) (Q (.bl (!c.isEmpty)) H)
def Su(m:X.A.units<cLine):OpR X (compareOp .NotEq) rNeDK:=by
 intro D s C H x y v u Q I i g h;obtain⟨a,b,c,rfl,rfl,p,o,q⟩:=h;cases i;cases g;obtain⟨_,l,d,r,B⟩:=p.ok I.hok;obtain⟨_,nb,f,j,db⟩:=(show Rd H b (.dK []) from .inl o).ok I.hok;have w:f=[]:=CN.mp (by rw[<- j.length]; rfl);subst w;have n:=r.length;have e:(!(d.length ==([]:List (Key×c8)).length&&J3)) = !c.isEmpty:=by
  rw[<- n];cases c <;> rfl
 erw[PySem.W.keq_ne (r:=J3) l nb B db m (λz=>?_) ?_]
 ·rw[CN.mp z];rwa[.nil]
 ·rw[e];rwa[.bl _,H,I,rfl,q]
def rNeA(K:c5):R2:=λx y H Q=>E3 λ(a b:c7) (xs:List V)=>A5 (x=.ref a) (y=.ref b) (SqL K H a xs) (SqL K H b []) (Q (.bl (!xs.isEmpty)) H)
def Pl(c:X.A.units<cLine):OpR X (compareOp .NotEq) (rNeA X.K):=by
 intro B s n H x y v u Q I f d h;obtain⟨a,b,xs,rfl,rfl,h1,h2,q⟩:=h;cases f;cases d;obtain⟨p,l,p1,_⟩:=I.list h1;obtain⟨o,i,p2,_⟩:=I.list h2;have m:=yY.zero i;subst m;cases l with
 | nil =>
  erw[G3 (e:=λ_=>J3) p1.isList p2.isList rfl c (λj g _=>y9 g 'd') X.prog X.w _ _ ?_];rwa[.bl J7,H,I,rfl,q]
 | cons r z =>
  erw[IE p1.isList p2.isList 'd' c X.prog X.w _ _ ?_];rwa[.bl J3,H,I,rfl,q]
variable{e:Ar}{te:TE}{st:Ar}{ts:TO}{pos p2:D5}
end
end L2

namespace Sea
def UN{n:Nat}{x:j9}(h:x.length<=8):eO n (.str x):=by
 have:x.length<=1921:=by lia
 cases n <;> rwa[this]
def rm{n:Nat}{l:List Dt}(h:l.length<=900)(g:∀ d∈l,eO n d):eO (n+1) (.tup l):=⟨h,g⟩
structure Tame(S:BS)(k:Nat):Prop where
 mk ::
 ma:∀ e∈S.marks,vS e.1
 ba:∀ e∈S.banks,vS e.1
 ru:S.runs.length<=k
 no:∀ e∈S.notes,0<=e.1/\e.1<=S.coming
 co:0<=S.coming/\S.coming<=1+k
def dt2{P:Dt->Prop}(h1:P a)(h2:P b):∀ d∈[a,b],P d:=λd hd=>by
 rcases l9.mp hd with rfl | hd
 ·rwa[h1]
 ·rw[g6.mp hd]; rwa[h2]
def dt3{P:Dt->Prop}(h1:P a)(h2:P b)(h3:P c):∀ d∈[a,b,c],P d:=λd hd=>by
 rcases l9.mp hd with rfl | hd
 ·rwa[h1]
 ·rwa[dt2 h2 h3 d hd]
def dt4{P:Dt->Prop}(h1:P a)(h2:P b)(h3:P c)(h4:P e):∀ d∈[a,b,c,e],P d:=λd hd=>by
 rcases l9.mp hd with rfl | hd
 ·rwa[h1]
 ·rwa[dt3 h2 h3 h4 d hd]
def Bd(S:BS)(B:Nat):Prop:=∀ e∈S.marks,e.2.1.natAbs<=B/\e.2.2.natAbs<=B
structure GrowD(S:BS)(D:Deed)(B:Nat):Prop where
 mk ::
 ok:okD S D
 bd:Bd (aft S D) (B+5)
 lo:S.marks.length<=(aft S D).marks.length
 hi:(aft S D).marks.length<=S.marks.length+1
 bk:(aft S D).banks=S.banks
def Up{c:c7->Prop}{H d:Hp}(s:wG c H d)(n:¬ c a)(e:H a=O (.frz o u)):d a=O (.frz o u):=by
 rcases s a _ n e with z | ⟨_,_,z,_⟩
 ·rwa[z]
 ·cases z
end Sea

namespace L2
abbrev calmA(A:Ak):Ak:={ A with handled:=J2 }
structure Qo(P:o0)(w:t7)(K:c5)(mg:j9->Option c8)(base:Aa)(k:Nat)(f:c7)(fd:AK)(ps:List j9)(sp:c7->Sp):Prop where
 mk ::
 len:∀ x vs H Q E,sp x vs H Q E->vs.length=ps.length
 run:∀(x:c7)(A:Ak)(outer:List ED)(s:d7)(H:Hp)(args:Args)(us:List c8)(vs:List V)(Q:VK),A.handled=O (.ref x)->yn k (calmA A)->TN P w K mg base A outer s H->F0 s fd args (ps.zip us)->yY vs us->sp x vs H Q E0 ->
  codeAny (model P w) A (.call (.ref f) args) (CR CX0 outer P w H s Q E0) s
def HasH(P:o0)(w:t7)(K:c5)(mg:j9->Option c8)(base:Aa)(x:j9)(n:Nat)(c:List j9)(sp:c7->Sp):Prop :=
 ∃(f:c7)(fd:AK),Qo P w K mg base n f fd c sp/\qf K fd c []/\AJ K (.ref f)=J3/\mg x=O (.ref f)
open PySem PySem.Spec PyProof.Rows PySem.W
end L2

namespace Sea
open PySem L2 PySem.Spec
open PyProof.Rows hiding St
mutual
def pd:Dt->PyData
 | .int i=>.int i
 | .str x=>.str x
 | .tup l=>.tuple (pds l)
def pds:List Dt->List PyData
 | []=>[]
 | d::l=>pd d::pds l
end
mutual
def shB:Dt->Nat
 | .int i=>i.natAbs.log2+3
 | .str x=>10*x.length+2
 | .tup l=>Ys l+4
def Ys:List Dt->Nat
 | []=>0
 | d::l=>shB d+2+Ys l
end
mutual
def okS:Dt->Prop
 | .int i=>i.natAbs.log2<1920
 | .str x=>∀ c∈x.cps.toList,c<16^8
 | .tup l=>jl l
def jl:List Dt->Prop
 | []=>True
 | d::l=>okS d/\jl l
end
def dH(c:List j9):(tupleText c).length<=piled c+4:=by
 unfold tupleText;rw[strLen_append,strLen_append];have h1:("(" : j9).length=1:=rfl;have h2:(Dk (if c.length == 1 then ",)" else ")")).length<=2:=by split <;> decide
 have h3:(FU ", " c).length<=piled c:=by
  by_cases z:c=[]
  ·subst z; decide
  ·have:=join_length_add c z; lia
 lia
mutual
def aO:∀ d:Dt,okS d->(pd d).shown.length<=shB d
 | .int i,h=>by
  rw[okS] at h;rw[pd,shB,Hr];have:=int_text_length_le (k:=i.natAbs.log2+1) (by lia) (CI i.natAbs.log2);rw[<- C4] at this;lia
 | .str x,h=>by
  rw[okS] at h;rw[pd,shB,Hr];rwa[Gz x h]
 | .tup l,h=>by
  rw[okS] at h;rw[pd,shB,Hr];have:=dH (Et (pds l));have:=gR l h;lia
def gR:∀ l:List Dt,jl l->piled (Et (pds l))<=Ys l
 | [],_=>by rw[pds,Et,Ys]; decide
 | d::l,h=>by
  rw[jl] at h;rw[pds,Et,Ys,piled_cons];have:=aO d h.1;have:=gR l h.2;lia
end
mutual
def Zw:∀ d:Dt,okS d->(pd d).showable=J3
 | .int i,h=>by rw[okS] at h; rw[pd,Gh]; rwa[y7 h]
 | .str x,_=>by rw[pd,Gh]
 | .tup l,h=>by rw[okS] at h; rw[pd,Gh]; rwa[dJ l h]
def dJ:∀ l:List Dt,jl l->Fb (pds l)=J3
 | [],_=>by rw[pds,Fb]
 | d::l,h=>by rw[jl] at h; rw[pds,Fb,Zw d h.1,dJ l h.2]; rfl
end
mutual
def Vk:∀ d:Dt,(pd d).hasDict=J7
 | .int i=>by rw[pd,GA]
 | .str x=>by rw[pd,GA]
 | .tup l=>by rw[pd,GA]; rwa[Zg l]
def Zg:∀ l:List Dt,Fx (pds l)=J7
 | []=>by rw[pds,Fx]
 | d::l=>by rw[pds,Fx,Vk d,Zg l]; rfl
end
def mX{n:Nat} : ∀ l:List Dt,(∀ d∈l,(pd d).depth<=n)->Gi (pds l)<=n
 | [],_=>by rw[pds,Gi]; rwa[x6 _]
 | d::l,h=>by
  rw[pds,Gi];have:=h d (.head _);have:=mX l λd hd=>h d (.tail _ hd);lia
def aM:∀(n:Nat)(d:Dt),eO n d->(pd d).depth<=n
 | n,.int i,_=>by rw[pd,Hs]; rwa[x6 _]
 | n,.str x,_=>by rw[pd,Hs]; rwa[x6 _]
 | 0,.tup _,h=>h.elim
 | n+1,.tup l,h=>by
  rw[pd,Hs];have:=mX (n:=n) l λd hd=>aM n d (h.2 d hd);lia
section
variable{X:Cx}{J8:List (c7×Bk)}{σ:St}{H:Hp}{s:d7}
mutual
def aI(I:Inv X J8 σ H s):∀(d:Dt){v:V}{u:c8},Rep H d v->xV v u->∃ as,Reads s.heap u (pd d) as
 | .int i,v,u,h,r=>by
  rw[yJ.mp h] at r;obtain⟨t,rfl⟩:=(show ∃ t,u=Dj i t from r);rw[pd];rwa[_,.int i t]
 | .str x,v,u,h,r=>by
  rw[yF.mp h] at r;obtain⟨t,rfl⟩:=(show ∃ t,u=CG x t from r);rw[pd];rwa[_,.str x t]
 | .tup l,v,u,h,r=>by
  obtain⟨a,xs,rfl,j,e⟩:=xE.mp h;obtain rfl:u=o9 a:=r;obtain⟨g,c,⟨o,h1,h2,n,h3⟩,m⟩:=I.tuple (SqT.of j);obtain⟨as,f⟩:=fq I l e c;rw[pd];exact⟨_,.tuple h1 h2 h3 (by simpa using f)⟩
def fq(I:Inv X J8 σ H s):∀(l:List Dt){xs:List V}{c:List c8},xS H l xs->yY xs c->∃ as,ReadsAll s.heap c (pds l) as
 | [],xs,c,h,r=>by
  rw[zY.mp h] at r;cases r;rw[pds];rwa[_,.nil]
 | d::l,xs,c,h,r=>by
  obtain⟨x,j,rfl,h1,h2⟩:=zH.mp h;cases r with
  | cons i g =>
   obtain⟨as,f⟩:=aI I d h1 i;obtain⟨bs,e⟩:=fq I l h2 g;rw[pds];rwa[_,.cons f e]
end
end
section
variable{X:Cx}{e:Ar}{es:List Ar}{t:TJ}{te:TE}{pos p:D5}{n:Nat}
def Ps(te:TE)(t:TJ):TJ:=λc H K=>te c H λv f=>(∃ d,A4 (Rep f d v) (okS d) (eO 4 d) (shB d<=2000))/\t c f K
def eA(Y:X.A.guards=O [])(hu:X.A.units+64<cLine)(S:PE X e te)(T:PJ X es n t)(Z:evalEach (.FormattedValue e (-1) J2 p::es) X.env=eval (.FormattedValue e (-1) J2 p) X.env::evalEach es X.env:=by rfl):PJ X (.FormattedValue e (-1) J2 p::es) (n+1) (Ps te t):=by
 intro G s B H k f Q C I h J q z;rw[Z];refine Fa (thn (S G s B H _ I q) λu s1 ⟨v,L,o,r,⟨d,rd,ok,N,hb⟩,R⟩=>?_);have m:=aO d ok;have c:∀(y:j9)(j:d7)(g:JD),y.length<=2000->Inv X G B L j->∃ D t,CG y g=.str D t/\(f++D).length<=sizeLine/\Joins 'b' X.A X.xe (evalEach es X.env) (f++D) Q j:=λy j g hy I2 =>
  ⟨y,g,rfl,by rw[strLen_append]; show f.length+y.length<=2^24; lia,T G j B L (k+1) _ _ C I2 (by rw[strLen_append]; lia) (by lia) R z⟩
 match d,rd,ok,m with
 | .int i,rd,ok,m =>
  rw[yJ.mp rd] at r;obtain⟨E,rfl⟩:=(show ∃ t,u=Dj i t from r);rw[okS] at ok;have l:=int_text_length_le (k:=1920) 'a' ok;rw[<- C4] at l;rwa[Gp ok (c _ _ _ (by lia) (o.tok _))]
 | .str x,rd,ok,m =>
  rw[yF.mp rd] at r;obtain⟨E,rfl⟩:=(show ∃ t,u=CG x t from r);rw[shB] at hb;exact formatField_str (λg M=>c x _ g (by lia) (o.tok _)) (by show x.length<=2^24; lia)
 | .tup l,rd,ok,m =>
  obtain⟨as,P⟩:=aI o _ rd r;obtain⟨a,xs,rfl,_⟩:=xE.mp rd;obtain rfl:u=o9 a:=r;have dl:=aM 4 _ N;refine formatField_of_reads P (Zw _ ok) (λz=>by rw[Vk] at z; cases z) Y (by lia) (λ_ _ e=>e) (λh' u E J=>?_) (by show _<=2^24; lia);rwa[c _ _ _ (by lia) (o.kept (t':=E) J)]
def PN(te:TE)(t:TJ):TJ:=λd H K=>te d H λv f=>(∃ x:j9,A3 (v=.str x) (∀ c∈x.cps.toList,c<16^8) (x.length<=190))/\t d f K
def cS(l:PE X e te)(m:PJ X es n t)(o:evalEach (.FormattedValue e 114 J2 p::es) X.env=eval (.FormattedValue e 114 J2 p) X.env::evalEach es X.env:=by rfl):PJ X (.FormattedValue e 114 J2 p::es) (n+1) (PN te t):=by
 intro f s d H k c Q C I h J q z;rw[o];erw[wpAny_FormattedValue_repr (thn (l f s d H _ I q) λu D ⟨v,A,y,r,⟨x,ex,w,E⟩,j⟩=>?_)];subst ex;obtain⟨B,rfl⟩:=(show ∃ t,u=CG x t from r);have G:=Gz x w;refine wpAny_pyReprObj_str ?_ (by show _<=2^24; lia);refine formatField_str (λi g=>?_) (by show _<=2^24; lia);exact⟨_,i,U,by rw[strLen_append]; show c.length+_<=2^24; lia,m f _ d A (k+1) _ _ C (y.tok _) (by rw[strLen_append]; lia) (by lia) j z⟩
end
end Sea
namespace L2
section
variable{X:Cx}{x y:j9}{p pos:D5}{i e:Ar}{es:List Ar}{ty:TE}{t:TA}
structure Ta(P:o0)(w:t7)(K:c5)(mg:j9->Option c8)(B:Aa)(m:Nat)(kvs:List (Key×V))(k:Key)(sp:Sp):Prop where
 mk ::
 has:∃(x:j9)(f:c7)(n:Nat)(ps:List j9),vR kvs k=O (.ref f)/\mg x=O (.ref f)/\qJ P w K mg B x n ps sp/\n<=m
def tTabX(tab:List (Key×Sp))(h:St->XK)(ty:TE)(t:TA):TE:=λc H Q=>ty c H λy g=>E2 λ(k:Key) (sp:Sp)=>A3 (y=kV k) ((k,sp)∈tab) (t c g λd f=>sp d f Q (h c))
def SW(B:St->XK){m:Nat}{tab:List (Key×Sp)}(Y:Qt X.prog X.w X.base a d)(R:X.mg x=O (.ref a))(hT:∀ r∈tab,Ta X.prog X.w X.K X.mg X.base m d r.1 r.2)(L:cK X B)(N:yn m X.A)(hi:PE X i ty)(Z:PA X (e::es) t)
  (M:Oo i:=by rwa[λ_ _=>rfl]) (S:Gl X x:=by rfl) (hd:(x ==("__debug__" : j9))=false:=by decide)
  (T:starEach (e::es) X.env='A'::starEach es X.env:=by rfl) (o:(backTo pos 'B').any (·.1)=false:=by rfl)
  (q:eval (.Call (.Subscript (.Name x p) i j) (e::es) [] pos) X.env=(do callWith pos (<- eval (.Subscript (.Name x p) i j) X.env) [] (backTo pos (starEach (e::es) X.env)) (backToKw pos (keywordEach [] X.env))):=by rfl) :
  PE X (.Call (.Subscript (.Name x p) i j) (e::es) [] pos) (tTabX tab B ty t):=by
 intro v s u H Q I h;erw[Call_ (bx Do.lookup M (yr I S R (thn (hi v s u H _ I h) λiv s2 ⟨y,H2,I2,D,k,sp,ey,mem,G⟩=>?_) hd)) q];subst ey;obtain⟨x',f,n,ps,l,J,⟨f',fd,F,b,kp,c⟩,P⟩:=(hT _ mem).has;rw[J] at c;cases c;erw[To Y I2 l D λw' C I3 g=>?_];cases g;erw[CT (h₀:=X.base) I.ok.mod.kin kp (thn (Z pos v C u H2 _ I3 G) λus s4 ⟨vs,H4,z,r,E⟩=>⟨z.kIn,?_⟩) T o];rwa[cU F (N.mono P) b L z r E]
end
end L2

namespace Sea
inductive Cl where
 | badName | taken | badPlace | full | noMark | same | needed | badBank | noBank | badRun | noRun | noMoment | badWay | badTurn | noNote
 deriving DecidableEq
open Classical in
noncomputable def yC(S:BS):Deed->Option Cl
 | .mark n x y=>if ¬ vS n then O .badName else if (zK S n).isSome=J3 then O .taken else if ¬ zm (x,y) then O .badPlace else if 20<=S.marks.length then O .full else J2
 | .move n x y=>if zK S n=J2 then O .noMark else if ¬ zm (x,y) then O .badPlace else if ∀ e∈S.notes,bM (aft S (.move n x y)) e.2 then J2 else O .same
 | .unmark n=>if zK S n=J2 then O .noMark else if ∀ e∈S.notes,uh n e.2 then J2 else O .needed
 | .bank n f=>if ¬ vS n then O .badName else if n∈S.banks.map (·.1) then O .taken else if ¬ ∀ c∈f,zm c then O .badPlace else if TQ f=J7 then O .badBank else if 8<=S.banks.length then O .full else J2
 | .level n=>if n∈S.banks.map (·.1) then J2 else O .noBank
 | .sail x y=>if ¬ zm (x,y) then O .badRun else if 12<=S.runs.length then O .full else J2
 | .right k x y=>if 0<=k/\k<S.runs.length then(if zm (x,y) then J2 else O .badRun) else O .noRun
 | .bearing m n a b c d=>if ¬ (0<=m/\m<=S.runs.length) then O .noMoment else if zK S n=J2 then O .noMark else if ¬ uz (a,b) then O .badWay else if ¬ uz (c,d) then O .badWay else if a*d-b*c<=0 then O .badTurn else if 24<=S.notes.length then O .full else J2
 | .range m l r=>if ¬ (0<=m/\m<=S.runs.length) then O .noMoment else if zK S l=J2 then O .noMark else if zK S r=J2 then O .noMark else if zK S l=zK S r then O .same else if 24<=S.notes.length then O .full else J2
 | .strike k=>if k∈S.notes.map (·.1) then J2 else O .noNote
def vz{c:Type}{o:Option c}(h:¬ o=J2):o.isSome=true:=by cases o <;> simp at h ⊢
def UX(h:yC S D=J2):okD S D:=by
 cases D with
 | mark n x y =>
  simp only[yC] at h;split at h; · cases h
  split at h; · cases h
  split at h; · cases h
  split at h; · cases h
  rename_i h1 h2 h3 h4
  exact⟨j8.mp h1,by cases e:zK S n <;> simp[e] at h2 ⊢,j8.mp h3,by lia⟩
 | move n x y =>
  simp only[yC] at h;split at h; · cases h
  split at h; · cases h
  split at h
  ·rename_i h1 h2 h3; rwa[vz h1,j8.mp h2,h3]
  ·cases h
 | unmark n =>
  simp only[yC] at h;split at h; · cases h
  split at h
  ·rename_i h1 h2; rwa[vz h1,h2]
  ·cases h
 | bank n f =>
  simp only[yC] at h;split at h; · cases h
  split at h; · cases h
  split at h; · cases h
  split at h; · cases h
  split at h; · cases h
  rename_i h1 h2 h3 h4 h5
  exact⟨j8.mp h1,h2,j8.mp h3,by cases e:TQ f <;> simp[e] at h4 ⊢,by lia⟩
 | level n =>
  simp only[yC] at h;split at h
  ·rename_i h1; rwa[h1]
  ·cases h
 | sail x y =>
  simp only[yC] at h;split at h; · cases h
  split at h; · cases h
  rename_i h1 h2
  rwa[j8.mp h1,by lia]
 | right k x y =>
  simp only[yC] at h;split at h
  ·split at h
   ·rename_i h1 h2; rwa[h1.1,h1.2,h2]
   ·cases h
  ·cases h
 | bearing m n a b c d =>
  simp only[yC] at h;split at h; · cases h
  split at h; · cases h
  split at h; · cases h
  split at h; · cases h
  split at h; · cases h
  split at h; · cases h
  rename_i h1 h2 h3 h4 h5 h6
  have h1:=j8.mp h1;rwa[h1.1,h1.2,vz h2,j8.mp h3,j8.mp h4,by lia,by lia]
 | range m l r =>
  simp only[yC] at h;split at h; · cases h
  split at h; · cases h
  split at h; · cases h
  split at h; · cases h
  split at h; · cases h
  rename_i h1 h2 h3 h4 h5
  have h1:=j8.mp h1;rwa[h1.1,h1.2,vz h2,vz h3,h4,by lia]
 | strike k =>
  simp only[yC] at h;split at h
  ·rename_i h1; rwa[h1]
  ·cases h
def Zt(ok:Prop)(Q:VK)(E:XK)(c:c7)(H:Hp):Prop:=(ok/\∀ d,Same H d->Q .non d)\/(¬ ok/\∀ d,Same H d->E (.ref c) J2 d)
section
variable{ok:Prop}{Q:VK}{E:XK}{c:c7}{H H':Hp}
def Zt.yes(h:Zt ok Q E c H)(o:ok)(s:Same H H'):Q .non H':=by
 rcases h with ⟨_,h⟩ | ⟨n,_⟩
 ·rwa[h H' s]
 ·rwa[y9 o n]
def Zt.no(h:Zt ok Q E c H)(o:¬ ok)(s:Same H H'):E (.ref c) J2 H':=by
 rcases h with ⟨y,_⟩ | ⟨_,h⟩
 ·rwa[y9 y o]
 ·rwa[h H' s]
def Zt.of(h1:ok->∀ H',Same H H'->Q .non H')(h2:¬ ok->∀ H',Same H H'->E (.ref c) J2 H'):Zt ok Q E c H:=by
 by_cases o:ok
 ·rwa[.inl ⟨o,h1 o⟩]
 ·rwa[.inr ⟨o,h2 o⟩]
end
def ai(x:j9):Prop:=(∀ c∈x.cps.toList,c<128)/\x.length<=50
def ai.big(h:ai x):∀ c∈x.cps.toList,c<16^8:=λc d=>Cs (h.1 c d) 'a'
def vS.asc(h:vS x):ai x:=⟨λc d=>by have:=h.2.2 c d; lia,by have:=h.2.1; lia⟩
def vm(i:Int):Prop:=i.natAbs.log2<200
def rQ{p:Int×Int}(h1:vm p.1)(h2:vm p.2):okS (ptD p)/\eO 4 (ptD p)/\shB (ptD p)<=2000:=by
 unfold vm at h1 h2;refine⟨?_,rm (by show 2<=900; decide) (dt2 (by show _<1920; lia) (by show _<1920; lia)),?_⟩
 ·unfold ptD;rw[okS,jl,jl,jl,okS,okS];rwa[by lia,by lia,trivial]
 ·unfold ptD;rw[shB,Ys,Ys,Ys,shB,shB];lia
def ZJ:Deed->Prop
 | .mark n x y=>ai n/\vm x/\vm y
 | .move n x y=>ai n/\vm x/\vm y
 | .unmark n=>ai n
 | .bank n e=>ai n/\e.length<=12/\∀ c∈e,c.1.natAbs.log2<20/\c.2.natAbs.log2<20
 | .level n=>ai n
 | .sail x y=>vm x/\vm y
 | .right k x y=>vm k/\vm x/\vm y
 | .bearing m n a b c d=>vm m/\ai n/\vm a/\vm b/\vm c/\vm d
 | .range m l r=>vm m/\ai l/\ai r
 | .strike k=>vm k
def df{m:Int}{a b c d:Int}(h:ZJ (.bearing m n a b c d)):okS (Deed.bearing m n a b c d).dt/\eO 4 (Deed.bearing m n a b c d).dt/\shB (Deed.bearing m n a b c d).dt<=2000:=by
 obtain⟨h1,h2,h3,h4,h5,h6⟩:=h;obtain⟨i,l,_⟩:=rQ (p:=(a,b)) h3 h4;obtain⟨g,j,_⟩:=rQ (p:=(c,d)) h5 h6;unfold vm at h1 h3 h4 h5 h6;have o:(Dk "bearing").length=7:=rfl;erw[?_,?_,?_]
 ·unfold Deed.dt;rw[okS,jl,jl,jl,jl,jl,jl,okS,okS,okS];rwa[by decide,by lia,h2.big,i,g,trivial]
 ·unfold Deed.dt;erw[rm (Nat.le_of_ble_eq_true rfl) λe f=>?_];rcases l9.mp f with rfl | f
  ·rwa[UN 'a']
  ·have p3:∀{p:Int×Int},p.1.natAbs.log2<200->p.2.natAbs.log2<200->eO 3 (ptD p):=λ{p} h1 h2=>rm (n:=2) (by show 2<=900; decide) (dt2 (by show _<1920; lia) (by show _<1920; lia));exact dt4 (P:=eO 3) (by show _<1920; lia) (by show _<=1921; have:=h2.2; lia) (p3 h3 h4) (p3 h5 h6) e f
 ·unfold Deed.dt ptD;simp only[shB,Ys];have:=h2.2;lia
def cb{e:List 'x'}(r:e.length<=12)(h:∀ c∈e,c.1.natAbs.log2<20/\c.2.natAbs.log2<20):okS (.tup (e.map ptD))/\eO 4 (.tup (e.map ptD))/\shB (.tup (e.map ptD))<=2000:=by
 have g:∀ l:List 'x',(∀ c∈l,c.1.natAbs.log2<20/\c.2.natAbs.log2<20)->jl (l.map ptD)/\Ys (l.map ptD)<=l.length*60:=by
  intro l
  induction l with
  | nil=>intro _; rw[DV,jl,Ys]; rwa[trivial,x6 _]
  | cons c l i =>
   intro h;obtain⟨j,q⟩:=i λc f=>h c (.tail _ f);obtain⟨p,c2⟩:=h c (.head _);have o:okS (ptD c):=by
    unfold ptD;rw[okS,jl,jl,jl,okS,okS];rwa[by lia,by lia,trivial]
   have u:shB (ptD c)<=58:=by
    unfold ptD;simp only[shB,Ys];lia
   rw[j3,jl,Ys,g8];rwa[⟨o,j⟩,by lia]
 obtain⟨m,s⟩:=g e h;erw[by rw[okS]; exact m,rm (by rw[b9]; lia) λd hd=>?_,by rw[shB]; lia];obtain⟨c,f,rfl⟩:=i9.mp hd;obtain⟨p,c2⟩:=h c f;exact rm (n:=2) (by show 2<=900; decide) (dt2 (by show _<1920; lia) (by show _<1920; lia))
structure mT(S:BS):Prop where
 mk ::
 good:Yh S
 names:∀ e∈S.marks,vS e.1
def mT.nil:mT BS.nil:=⟨Tt,λe c=>(nomatch c)⟩
def mT.mark(h:mT S)(k:(zK S n).isSome=J3):vS n:=by
 obtain⟨p,e⟩:=j7.mp k;rwa[h.names _ (yS e)]
def mT.aft(h:mT S)(ok:okD S D):mT (aft S D):=by
 exists Ul h.good ok
 match D,ok with
 | .mark n x y,ok =>
  intro e f;rcases j5.mp f with z | z
  ·rwa[h.names e z]
  ·rw[g6.mp z]; rwa[ok.1]
 | .move n x y,ok =>
  intro e f;obtain⟨g,h1,rfl⟩:=i9.mp f;have:=h.names g h1;split <;> rwa[this]
 | .unmark n,ok=>rwa[λe f=>h.names e (AS.mp f).1]
 | .bank n i,ok=>rwa[h.names]
 | .level n,ok=>rwa[h.names]
 | .sail x y,ok=>rwa[h.names]
 | .right j x y,ok=>rwa[h.names]
 | .bearing m n a b c d,ok=>rwa[h.names]
 | .range m l r,ok=>rwa[h.names]
 | .strike j,ok=>rwa[h.names]
def mO(h:Cl->c7)(f:Deed->Prop):Sp:=λg H Q E=>E4 λ(d:c7) (v:V) (S:BS) (D:Deed)=>A8 (g=[.ref d,v]) (f D) (aP H d S) (Rep H D.dt v) (ZJ D) (mT S) (yC S D=J2->∀(d':c7)(e:Hp),Sam H e->H d'=J2->aP e d' (aft S D)->Q (.ref d') e) (∀ c,yC S D=O c->∀ e,Sam H e->E (.ref (h c)) J2 e)
section
variable{H:Hp}{S:BS}{kvs:List (Key×V)}
def Vw(h:wC H kvs (mkE S.marks)):vR kvs (.inr n)=J2↔zK S n=none:=by
 have e:=h.isSome (k:=.inr n);rw[uu,Ct] at e;cases h1:vR kvs (.inr n) <;> cases h2:zK S n <;> simp[h1,h2] at e ⊢
def hZ(h:wC H kvs (bkE S.banks)):vR kvs (.inr n)=J2↔n ∉ S.banks.map (·.1):=by
 by_cases z:n∈S.banks.map (·.1)
 ·obtain⟨d,lk⟩:=Pa (l:=S.banks) z;obtain⟨v,c,_⟩:=h.get lk;simp[c,z]
 ·simp[h.none (nV (aU z)),z]
def Xg{k:Int}(h:wC H kvs (ntE S.notes)):vR kvs (.inl k)=J2↔k ∉ S.notes.map (·.1):=by
 by_cases z:k∈S.notes.map (·.1)
 ·obtain⟨g,lk⟩:=Tz (l:=S.notes) z;obtain⟨v,f,_⟩:=h.get lk;simp[f,z]
 ·erw[λ_=>z,λ_=>h.none (nV λe c y=>z ?_)];unfold ntE at c;obtain⟨q,d,rfl⟩:=i9.mp c;have y:(Cp q.1:Key)=Cp k:=y;injection y with y
  rwa[i9.mpr ⟨q,d,y⟩]
def Wn{k:Int}(h:wC H kvs (rnE S.runs)):vR kvs (.inl k)=J2↔¬ (0<=k/\k<S.runs.length):=by
 by_cases z:0<=k/\k<S.runs.length
 ·obtain⟨i,rfl⟩:=AQ z.1;have hi:i<S.runs.length:=by lia
  have lk:=iW (k:=0) (c6 hi);rw[CV] at lk;obtain⟨v,g,_⟩:=h.get lk;exact⟨(λy=>by rw[g] at y; cases y),λy=>y9 z y⟩
 ·erw[λ_=>z,λ_=>h.none (nV λe c y=>z ?_)];unfold rnE at c;obtain⟨⟨j,d⟩,f,rfl⟩:=i9.mp c;have y:(Cp (d:Int):Key)=Cp k:=y;injection y with y
  have:=Fg f;simp at this;lia
end
structure RwAt(H:Hp)(ts:List c7)(ws:List (j9×Bool)):Prop where
 mk ::
 len:ts.length=ws.length
 at_:∀(j:Nat)(t:c7)(w:j9×Bool),ts[j]?=O t->ws[j]?=O w->H t=O (.tup [.str w.1,.bl w.2])
def Oi(S:BS)(D:Deed):V:=if S.coming=(aft S D).coming then .non else .int S.coming
end Sea

namespace Sea
structure Neat(S:BS):Prop where
 mk ::
 well:mT S
 nm:(S.marks.map (·.1)).Nodup
 nb:(S.banks.map (·.1)).Nodup
 bk:∀ e∈S.banks,vS e.1/\e.2.length<=8/\∀ c∈e.2,zm c
end Sea

namespace Sea
def mkOf(e:j9×Int×Int):Deed:=.mark e.1 e.2.1 e.2.2
def bkOf(e:j9×List 'x'):Deed:=.bank e.1 e.2
def slOf(e:Int×Int):Deed:=.sail e.1 e.2
def noteF(ns:List j9)(D:Deed):Prop:=(∃(m:Int)(i:Nat)(l r:j9),D=.range m l r/\0<=m/\m<=12/\i<18/\ns[i]?=O l/\ns[i+1]?=O r)\/∃(m k:Int)(i:Nat)(n:j9),D=.bearing m n 100 k (-k) 100/\0<=m/\m<=12/\0<=k/\k<24/\i<19/\ns[i]?=O n
structure FillD(ns:List j9)(Ds:List Deed)(l1:List (j9×Int×Int))(l2:List (j9×List (Int×Int)))(l3:List (Int×Int))(l4:List Deed)(c:Nat):Prop where
 mk ::
 eq:Ds=l1.map mkOf++l2.map bkOf++l3.map slOf++l4
 n1:l1.map (·.1)=ns.take 20
 p1:∀(j:Nat)(e:j9×Int×Int),l1[j]?=O e->zm e.2/\e.2.2=j
 c2:c<=2
 n2:l2.map (·.1)=(ns.drop c).take 8
 p2:∀(j:Nat)(e:j9×List (Int×Int)),l2[j]?=O e->j<8/\e.2=[((j:Int),0),((j:Int)+3,0),((j:Int),2)]
 n3:l3.length=12
 p3:∀ e∈l3,zm e
 n4:l4.length=24
 p4:∀ D∈l4,noteF ns D
def nY(h:okD S D):yC S D=none:=by
 have f:∀{g:Type}{o:Option g},o.isSome=J3->¬ o=none:=λh z=>by rw[z] at h; cases h
 have e:∀{p:Prop},p->¬ ¬ p:=λh z=>z h;cases D with
 | mark n x y=>obtain⟨h1,h2,h3,h4⟩:=h; simp only[yC,y4 (e h1),h2,y4 (e h3),y4 (show ¬ 20<=S.marks.length by lia)]; rfl
 | move n x y=>obtain⟨h1,h2,h3⟩:=h; simp only[yC,y4 (f h1),y4 (e h2),y6 h3]
 | unmark n=>obtain⟨h1,h2⟩:=h; simp only[yC,y4 (f h1),y6 h2]
 | bank n i=>obtain⟨h1,h2,h3,h4,h5⟩:=h; simp only[yC,y4 (e h1),y4 h2,y4 (e h3),y4 (show ¬ TQ i=J7 by rw[h4]; rwa[Bool.noConfusion]),y4 (show ¬ 8<=S.banks.length by lia)]
 | level n=>simp only[yC,y6 (show n∈S.banks.map (·.1) from h)]
 | sail x y=>obtain⟨h1,h2⟩:=h; simp only[yC,y4 (e h1),y4 (show ¬ 12<=S.runs.length by lia)]
 | right k x y=>obtain⟨h1,h2,h3⟩:=h; simp only[yC,y6 (Jq h1 h2),y6 h3]
 | bearing m n a b c d=>obtain⟨h1,h2,h3,h4,h5,h6,h7⟩:=h; simp only[yC,y4 (e (Jq h1 h2)),y4 (f h3),y4 (e h4),y4 (e h5),y4 (show ¬ a*d-b*c<=0 by lia),y4 (show ¬ 24<=S.notes.length by lia)]
 | range m l r=>obtain⟨h1,h2,h3,h4,h5,h6⟩:=h; simp only[yC,y4 (e (Jq h1 h2)),y4 (f h3),y4 (f h4),y4 h5,y4 (show ¬ 24<=S.notes.length by lia)]
 | strike k=>simp only[yC,y6 (show k∈S.notes.map (·.1) from h)]
noncomputable def stepD(S:BS)(D:Deed):BS:=match yC S D with
 | none=>aft S D
 | some _=>S
noncomputable def stepAll(S:BS)(l:List Deed):BS:=l.foldl stepD S
section
variable{S:BS}{D:Deed}
structure NotesF(S S':BS)(l:List Deed):Prop where
 mk ::
 m:S'.marks=S.marks
 b:S'.banks=S.banks
 r:S'.runs=S.runs
 c:S'.coming=S.coming+l.length
 n:S'.notes.map (·.2)=S.notes.map (·.2)++l
 k:∀ k:Int,(k∈S.notes.map (·.1)\/(S.coming<=k/\k<S'.coming))->k∈S'.notes.map (·.1)
structure Brim(ns:List j9)(n19:j9)(c:Nat)(S:BS):Prop where
 mk ::
 neat:Neat S
 m:S.marks.map (·.1)=ns.take 20
 c2:c<=2
 b:S.banks.map (·.1)=(ns.drop c).take 8
 r:S.runs.length=12
 n:S.notes.length=24
 all:∀ k:Int,1<=k->k<25->k∈S.notes.map (·.1)
 co:S.coming=25
 un:∀ e∈S.notes,uh n19 e.2
end
end Sea

namespace Sea
def Sr{vs:List V}{x n:Int}(h:0<n)(d:n=(vs.length:Int)):∃ v,v∈vs/\atI vs (x%n)=O v:=by
 have h0:=An x (show n≠0 by lia);have h1:=z7 x h;generalize x%n=y at h0 h1;obtain⟨k,rfl⟩:=AQ h0;have c:k<vs.length:=by lia
 rwa[vs[k],r6 c,vX (c6 c)]
end Sea

namespace Sea
def Re:Deed->j9
 | .mark _ _ _ => "mark"
 | .move _ _ _ => "move"
 | .unmark _ => "unmark"
 | .bank _ _ => "bank"
 | .level _ => "level"
 | .sail _ _ => "sail"
 | .right _ _ _ => "right"
 | .bearing _ _ _ _ _ _ => "bearing"
 | .range _ _ _ => "range"
 | .strike _ => "strike"
def Ru{H:Hp}{D:Deed}(h:Rep H D.dt v):∃(t:c7)(xs:List V),v=.ref t/\H t=O (.tup (.str (Re D)::xs)):=by
 cases D <;>(obtain⟨t,xs,rfl,c,r⟩:=xE.mp h; obtain⟨_,_,rfl,d,_⟩:=zH.mp r; rw[yF.mp d] at c; rwa[_,_,rfl,c])
end Sea

namespace Sea
def LwO(H:Hp)(X:c7->Prop)(d:c7)(S:BS):Prop:=∃ m b r n,¬ X r/\LwA H d m b r n S
structure HL(H:Hp)(X:c7->Prop)(sl rl:c7)(Ss:List BS)(Ds:List Deed):Prop where
 mk ::
 n1:¬ X sl
 n2:¬ X rl
 s:∃ ss:List c7,H sl=O (.lst (ss.map V.ref))/\ss.length=Ss.length/\∀(i:Nat)(d:c7)(S:BS),ss[i]?=O d->Ss[i]?=O S->LwO H X d S
 r:∃ xs,H rl=O (.lst xs)/\xS H (Ds.map Deed.dt) xs
section
variable{φ X X':c7->Prop}{H H1:Hp}{C b p l l' sl rl tp:c7}{Ss:List BS}{Ds:List Deed}{j k:Nat}{S S':BS}{D:Deed}
def HL.sam(h:HL H X sl rl Ss Ds)(s:wG φ H H1)(nd:∀ a f,Rd H a (.dK f)->¬ φ a)(o:∀ a xs,H a=O 'q'->¬ φ a)(c:∀ x xs,H x=O (.lst xs)->¬ X x->¬ φ x):HL H1 X sl rl Ss Ds:=by
 obtain⟨v,u,B,A⟩:=h.s;obtain⟨xs,q,z⟩:=h.r;erw[h.n1,h.n2,⟨v,s.lst (c _ _ u h.n1) u,B,λi d S y w=>?_⟩,xs,s.lst (c _ _ q h.n2) q,z.sam s o];obtain⟨m,b,r,n,g,k⟩:=A i d S y w;rwa[m,b,r,n,g,k.samE s nd o λxs e=>c r xs e g]
structure HB(C:c7)(H:Hp)(b p l:c7)(X:c7->Prop)(tp:c7)(Ss:List BS)(Ds:List Deed)(j k:Nat):Prop where
 mk ::
 bk:∃ S,Ss[j]?=O S/\BkL C H b p l S ((Ds.zip Ss).take j) ((Ds.zip Ss.tail).drop j).reverse
 lp:∃ sl rl,H tp=O (.tup [.ref sl,.ref rl,.int j])/\HL H X sl rl Ss Ds
 xp:X p
 xl:X l
 len:Ss.length=Ds.length+1
 le:j<=Ds.length
 lk:Ds.length<=k
 st:∀ S∈Ss,Neat S/\1<=S.coming/\S.coming<=1+k
 tm:∀ D∈Ds,ZJ D
end
end Sea

namespace Sea
def mkO:Deed->Option (j9×Int×Int)
 | .mark n x y=>O (n,x,y)
 | _=>J2
def slO:Deed->Option 'x'
 | .sail x y=>O (x,y)
 | _=>J2
def rF:Deed->Bool
 | .bearing _ _ _ _ _ _=>J3
 | .range _ _ _=>J3
 | _=>J7
def cQ(k:Int):List Deed->List (Int×Deed)
 | []=>[]
 | D::l=>(k,D)::cQ (k+1) l
def ar:∀{l:List Deed}{k:Int}{D:Deed},D∈l->∃ j,(j,D)∈cQ k l
 | [],_,_,h=>nomatch h
 | E::l,k,D,h=>by
  rcases l9.mp h with z | z
  ·rw[z]; rwa[k,.head _]
  ·obtain⟨j,c⟩:=ar (k:=k+1) z;rwa[j,.tail _ c]
def mj:∀(l:List Deed)(k:Int),(cQ k l).length=l.length
 | [],_=>rfl
 | D::l,k=>by rw[cQ,g8,g8,mj l]
def parts:∀(e:List Deed)(l:List (j9×Int×Int))(f:List 'x')(no:List (Int×Deed))(k:Int),(∀ D∈e,lC D) ->
  yU (stN l f no k) e=stN (l++e.filterMap mkO) (f++e.filterMap slO) (no++cQ k (e.filter rF)) (k+(e.filter rF).length)
 | [],l,f,no,k,_=>by simp[yU,cQ]
 | D::e,l,f,no,k,h=>by
  have j:=h D (.head _);have g:∀ D∈e,lC D:=λE i=>h E (.tail _ i);show yU (aft (stN l f no k) D) e=_
  match D,j with
  | .mark n x y,_ =>
   rw[Zi,parts e _ _ _ _ g,r9];rfl
  | .sail x y,_ =>
   rw[aG,parts e _ _ _ _ g,r9];rfl
  | .bearing m n a b c d,_ =>
   rw[lX,parts e _ _ _ _ g,r9,CM (by rfl),g8,show k+1+((e.filter rF).length:Int)=k+(((e.filter rF).length+1:Nat):Int) by lia];rfl
  | .range m a b,_ =>
   rw[dO,parts e _ _ _ _ g,r9,CM (by rfl),g8,show k+1+((e.filter rF).length:Int)=k+(((e.filter rF).length+1:Nat):Int) by lia];rfl
def XU:Deed->Prop
 | .bearing _ _ a b c d=>0<a*d-b*c
 | _=>True
def VC(h:okD S D):XU D:=by
 cases D with
 | bearing m n a b c d=>rwa[h.2.2.2.2.2.1]
 | _=>trivial
def iq:∀{d:List Deed}{S:BS},wE S d->∀ D∈d,XU D
 | [],_,_,_,c=>nomatch c
 | _::_,_,⟨h1,h2⟩,D,c=>by
  rcases l9.mp c with z | z
  ·rw[z]; rwa[VC h1]
  ·rwa[iq h2 D z]
def Ug(kn:qI S D)(f:XU D)(e:∀ n,zK g n=zK S n)(h:g.runs.length=S.runs.length)(i:g.notes.length<24):okD g D:=by
 match D,kn,f with
 | .bearing m n a b c d,⟨h1,h2,h3,h4,h5⟩,f=>rwa[h1,by rw[h]; exact h2,by rw[e]; exact h3,h4,h5,f,i]
 | .range m l r,⟨h1,h2,h3,h4,h5⟩,f=>rwa[h1,by rw[h]; exact h2,by rw[e]; exact h3,by rw[e]; exact h4,by rw[e,e]; exact h5,i]
def aS{j:Nat}(e:∀ n,zK c n=zK S n)(d:c.runs=S.runs):uA c j D=uA S j D:=by
 unfold uA;rw[d]
 congr 1
 unfold ym yE;cases D <;> simp only[e]
def NdM(S:BS):Prop:=(S.marks.map (·.1)).Nodup
def ZG(h:zK S n=J2):n ∉ S.marks.map (·.1):=λz=>by
 obtain⟨p,e⟩:=wJ z;rw[h] at e;cases e
def ir{x y:Int} : (aft S (.move n x y)).marks.map (·.1)=S.marks.map (·.1):=by
 show(S.marks.map _).map _=_;rw[x5];erw[AV λe _=>?_];show(if e.1=n then(e.1,x,y) else e).1=e.1;split <;> rfl
def NdM.aft(h:NdM S)(ok:okD S D):NdM (aft S D):=by
 match D,ok with
 | .mark n x y,ok =>
  unfold NdM;show((S.marks++[(n,x,y)]).map (·.1)).Nodup;rw[f8,Fp];erw[h,by simp,λa f b e z=>?_];have e:b=n:=by simpa using e
  rw[z,e] at f;rwa[ZG ok.2.1 f]
 | .move n x y,ok=>unfold NdM; rw[ir]; rwa[h]
 | .unmark n,ok=>rwa[List.Nodup.sublist (J0 _ (GM)) h]
 | .bank n g,ok=>rwa[h]
 | .level n,ok=>rwa[h]
 | .sail x y,ok=>rwa[h]
 | .right j x y,ok=>rwa[h]
 | .bearing m n a b c d,ok=>rwa[h]
 | .range m l r,ok=>rwa[h]
 | .strike j,ok=>rwa[h]
def cv:∀{c:List Deed}{S:BS},NdM S->wE S c->NdM (yU S c)
 | [],_,h,_=>h
 | D::c,S,h,⟨h1,h2⟩=>by
  show NdM (yU (aft S D) c);rwa[cv (h.aft h1) h2]
def pS:∀{c:List Deed}{S:BS},mT S->wE S c->mT (yU S c)
 | [],_,h,_=>h
 | D::c,S,h,⟨h1,h2⟩=>by
  show mT (yU (aft S D) c);rwa[pS (h.aft h1) h2]
def PL{l:List (j9×Int×Int)}(h:(l.map (·.1)).Nodup){n:j9}{p q:Int×Int}(m:(n,p)∈l)(g:(n,q)∈l):p=q:=by
 obtain⟨i,hi⟩:=Ea.mp m;obtain⟨j,c⟩:=Ea.mp g;obtain⟨f,r⟩:=e8.mp hi;obtain⟨d,o⟩:=e8.mp c;have e:(l.map (·.1))[i]'(by rw[b9]; exact f)=(l.map (·.1))[j]'(by rw[b9]; exact d):=by
  rw[AR,AR,r,o]
 have z:=(FK h).mp e;subst z;rw[hi] at c;have:=t6 c;rwa[congrArg Prod.snd this]
def pL(h:NdM S){n:j9}{p:Int×Int}(c:(n,p)∈S.marks):zK S n=O p:=by
 obtain⟨q,e⟩:=wJ (S:=S) (i9.mpr ⟨_,c,rfl⟩);rw[e,PL h (yS e) c]
def cF(h:NdM S)(d:NdM c)(m:∀ e,e∈c.marks↔e∈S.marks)(n:j9):zK c n=zK S n:=by
 cases e:zK S n with
 | some p=>rwa[pL d ((m _).mpr (yS e))]
 | none =>
  cases f:zK c n with
  | none=>rfl
  | some p =>
   have:=pL h ((m _).mp (yS f));rw[e] at this;cases this
def ut{i:Int}(h:i.natAbs<=10000000):vm i:=by
 unfold vm;by_cases z:i.natAbs=0
 ·rw[z]; decide
 ·exact(HZ z).mpr (Am h 'a')
def vC(h:zm p):vm p.1/\vm p.2:=by
 obtain⟨h1,h2,h3,h4⟩:=h;rwa[ut (by lia),ut (by lia)]
def nP(h:uz p):vm p.1/\vm p.2:=by
 obtain⟨_,h1,h2,h3,h4⟩:=h;rwa[ut (by lia),ut (by lia)]
def gZ(e:mT S)(g:S.runs.length<=60)(f:lC D)(h:okD S D):ZJ D:=by
 match D,f,h with
 | .mark n x y,_,h=>rwa[h.1.asc,(vC h.2.2.1).1,(vC h.2.2.1).2]
 | .sail x y,_,h=>rwa[vC h.1]
 | .bearing m n a b c d,_,⟨h1,h2,h3,h4,h5,_⟩=>rwa[ut (by lia),(e.mark h3).asc,(nP h4).1,(nP h4).2,(nP h5).1,(nP h5).2]
 | .range m l r,_,⟨h1,h2,h3,h4,_⟩=>rwa[ut (by lia),(e.mark h3).asc,(e.mark h4).asc]
end Sea

namespace L2
abbrev Qq:=c7×j9×Int×Int
def xc(t:j9×Int×Int):List V:=[.str t.1,.int t.2.1,.int t.2.2]
def Ua{K:c5}{H:Hp}{a b:c7}(n:Nat)(ne:a≠b)(f:H a=O (.tup (xc t)))(c:H b=O (.tup (xc u))):Deep K H (n+1) (.ref a) (.ref b) (decide (t=u)):=by
 have d:=Deep.tup (n:=n) (e:=λj=>if j=0 then t.1 == u.1 else if j=1 then t.2.1 == u.2.1 else t.2.2 == u.2.2) ne (SqT.of (K:=K) f) (SqT.of (K:=K) c) λj h1 h2=>by
  have h1:j<3:=h1
  match j,h1 with
  | 0,_=>rwa[.str _ _ _]
  | 1,_=>rwa[.int _ _ _]
  | 2,_=>rwa[.int _ _ _]
 have e:((Ad (min (xc t).length (xc u).length)).all (λj=>if j=0 then t.1 == u.1 else if j=1 then t.2.1 == u.2.1 else t.2.2 == u.2.2)&&(xc t).length ==(xc u).length)=decide (t=u):=by
  rw[show(xc t).length=3 from rfl,show(xc u).length=3 from rfl,BW,decide_eq_true_iff];obtain⟨o,m,l⟩:=t;obtain⟨i,h,g⟩:=u;simp[Ad,List.range.loop,Prod.ext_iff]
 (rw[e] at d;assumption)
def fo(h:xc t=xc u):t=u:=by
 unfold xc at h;injection h with a1 h
 injection h with a2 h
 injection h with a3 h
 injection a1 with a1
 injection a2 with a2
 injection a3 with a3
 rwa[DU a1 (DU a2 a3)]
def Vl{K:c5}{H:Hp}(n:Nat)(d:H a=O (.tup (xc t)))(c:H b=O (.tup (xc u))):Deep K H (n+1) (.ref a) (.ref b) (decide (t=u)):=by
 by_cases ne:a=b
 ·subst ne;rw[d] at c;have e:=t6 c;injection e with e
  rw[y7 (fo e)];rwa[.same _ _]
 ·rwa[Ua n ne d c]
def rInMk(K:c5):R2:=λx y H Q=>E4 λ(a p:c7) (u:j9×Int×Int) (c:List Qq)=>A6 (x=.ref a) (y=.ref p) (H a=O (.tup (xc u))) (SqL K H p ((c.map (·.1)).map V.ref)) (∀ t∈c,H t.1=O (.tup (xc t.2))) (Q (.bl (c.any λt=>decide (t.2=u))) H)
section
variable{X:Cx}
def SL(S:X.A.units+64<cLine):OpR X (compareOp .In) (rInMk X.K):=by
 intro T s R H x y v w Q I n m h;obtain⟨a,p,u,e,rfl,rfl,J,E,g,q⟩:=h;cases n;cases m;obtain⟨C,r,o,_⟩:=I.list E;have M:=mP r;subst M;have B:∀ c,c∈e.map (·.1)->∃ t∈e,t.1=c:=λc G=>i9.mp G
 let f:c8->Bool:=λz=>e.any λt=>decide (z=.ref t.1)&&decide (t.2=u)
 have one:∀ t∈e,f (.ref t.1)=decide (t.2=u):=λt d=>by
  rw[BW,Bz,decide_eq_true_iff];constructor
  ·rintro⟨l,j,z⟩;rw[AA,decide_eq_true_iff,decide_eq_true_iff] at z;have P:t.1=l.1:=by have:=z.1; injection this
   have h1:=(g t d);have h2:=(g l j);rw[P,h2] at h1;have h3:=t6 h1;injection h3 with h3
   rw[<- z.2];exact(fo h3).symm
  ·intro z;rwa[t,d,by rw[AA,decide_eq_true_iff,decide_eq_true_iff]; exact⟨U,z⟩]
 erw[Ig f o.isList (λz D=>?_) ⟨.bl _,H,I,rfl,?_⟩]
 ·have i:z∈(e.map (·.1)).map o9:=by simpa using D
  rw[x5] at i;obtain⟨t,d,L⟩:=i9.mp i;subst L;show Ec X.A.in1 s (.ref t.1) (.ref a) (f (.ref t.1));rw[one t d];exact(Deep.at I (Vl (K:=X.K) 7 (g t d) J) (A:=X.A.in1) (show X.A.units+1+8<cLine by lia) rfl rfl).1
 ·have N:(((e.map (·.1)).map o9).toArray.any f)=e.any λt=>decide (t.2=u):=by
   rw[show(((e.map (·.1)).map o9).toArray.any f)=((e.map (·.1)).map o9).any f by simp,x5,List.any_map];rw[BW,Bz,Bz];constructor
   ·rintro⟨t,d,z⟩;rwa[t,d,by rw[<- one t d]; exact z]
   ·rintro⟨t,d,z⟩;exact⟨t,d,by show f (.ref t.1)=J3; rw[one t d]; rwa[z]⟩
  rw[N];rwa[q]
end
end L2

namespace L2
section
variable{X:Cx}{J8:List (c7×Bk)}{σ:St}{H H1:Hp}{s s1:d7}{d:c7}{kvs:List (Key×V)}
def Inv.hideK(I:Inv X J8 σ H s)(hd:H d=O (.dK kvs))(i:s.heap.get? d=O o):Inv X ((d,o)::J8) σ (wF H d) s where
 ok:=I.ok
 os:=I.os
 bare:=I.bare
 base:=⟨I.base.keep,I.base.slot,λb o e n m=>uB (I.base.free b o e n m),I.base.there,λb xs e=>wK hd (I.base.tups b xs e) 'n',λb o u e=>wK hd (I.base.frzs b o u e) 'n',
  λb j e=>let ⟨more,q⟩:=I.base.tbls b j e;⟨more,wK hd q 'n'⟩⟩
 loc:=I.loc
 cell:=I.cell
 free:=uB I.free
 freeC:=λx c e=>uB (I.freeC x c e)
 pin:=λp r=>by
  have f:p∈X.pn++J8\/p=(d,o):=by
   rcases j5.mp r with z | z
   ·rwa[.inl (j5.mpr (.inl z))]
   ·rcases l9.mp z with z | z
    ·rwa[.inr z]
    ·rwa[.inl (j5.mpr (.inr z))]
  rcases f with z | z
  rotate_left
  ·rw[z];refine⟨i,tX,(λe=>by have:=I.free; rw[<- e,hd] at this; cases this),λh=>?_,λv z=>?_⟩
   ·obtain⟨_,l,g,_⟩:=I.ok.funs.mem h;have:=I.base.free d l g (I.ok.frf d h) λz=>I.ok.exfs d z h;rw[hd] at this;cases this
   ·obtain⟨_,_,_,_,ob,A,B,h1,_,h2,_⟩:=(show wD X.prog X.w H s.heap d (.dK kvs) from I.hok d _ hd);rw[i] at h1;cases h1;rw[h2] at z;cases z
  ·obtain⟨h1,h2,h3⟩:=I.pin p z;rwa[h1,uB h2,h3]
 hok:=λb o e=>by
  obtain⟨_,y⟩:=gg e;exact(I.hok b o y).stay (λc u _ q=>q) (λc q=>wK hd q 'n') λc xs q=>wK hd q 'n'
 len:=I.len
def Inv.backK(I:Inv X J8 σ H s)(hd:H d=O (.dK kvs))(A:s.heap.get? d=O o)(J:Inv X ((d,o)::J8) σ H1 s1):H1 d=J2/\Inv X J8 σ (upd H1 d (.dK kvs)) s1:=by
 obtain⟨g,j,D,E⟩:=J.pin (d,o) (j5.mpr (.inr (.head _)));have ne:∀{b:c7},H b=J2->b≠d:=λ{b} n e=>by rw[e,hd] at n; cases n
 have f:∀{b:c7}{u:HO},H1 b=O u->upd H1 d (.dK kvs) b=O u:=λ{b u} e=>by
  rw[zG λz=>by rw[z,j] at e; cases e];rwa[e]
 refine⟨j,J.ok,J.os,J.bare,⟨J.base.keep,J.base.slot,λb u e n h=>?_,J.base.there,λb xs e=>f (J.base.tups b xs e),λb o u e=>f (J.base.frzs b o u e),λb v e=>let ⟨more,q⟩:=J.base.tbls b v e;⟨more,f q⟩⟩,J.loc,J.cell,?_,λx c e=>?_,λp i=>?_,λb u e=>?_,J.len⟩
 ·rw[zG (ne (I.base.free b u e n h))];rwa[J.base.free b u e n h]
 ·rw[zG (ne I.free)];rwa[J.free]
 ·rw[zG (ne (I.freeC x c e))];rwa[J.freeC x c e]
 ·obtain⟨h1,h2,h3⟩:=J.pin p (by
   rcases j5.mp i with z | z
   ·rwa[j5.mpr (.inl z)]
   ·rwa[j5.mpr (.inr (.tail _ z))])
  rwa[h1,by rw[zG (ne (I.pin p i).2.1)]; exact h2,h3]
 ·by_cases l:b=d
  ·subst l;rw[zA] at e;cases e;obtain⟨z,y,m,r,ob,B,C,h1,h2⟩:=(show wD X.prog X.w H s.heap b (.dK kvs) from I.hok b _ hd);rw[A] at h1;cases h1;rwa[z,y,m,r,_,B,C,g,h2]
  ·rw[zG l] at e;exact(J.hok b u e).stay (λc u _ q=>q) (λc q=>f q) λc xs q=>f q
end
def tHide(g:TE):TE:=λf H Q=>E2 λ(d:c7) (c:List (Key×V))=>H d=O (.dK c)/\g f (wF H d) λv e=>e d=J2->Q v (upd e d (.dK c))
def SI{c:TE}(l:PE X e c):PE X e (tHide c):=by
 intro n s g H Q I h;obtain⟨d,i,hd,h⟩:=h;obtain⟨o,f⟩:=(I.hok d _ hd).some;erw[AW (l _ s g _ _ (I.hideK hd f) h) (λv m ⟨x,p,J,r,q⟩=>?_) λ_ _ z=>z];obtain⟨j,B⟩:=I.backK hd f J;rwa[x,_,B,r,q j]
def iT{H:Hp}(h:H d=J2):wF (upd H d o) d=H:=by
 funext b
 by_cases e:b=d
 ·rw[e,tX,h]
 ·rw[wZ e,zG e]
def dy{H:Hp} : Same (wF H d) H:=λb o e=>(gg e).2
def lZ{H c:Hp}(s:Same H c):Same (wF H d) (wF c d):=λb o e=>by
 obtain⟨n,f⟩:=gg e;rw[wZ n];rwa[s _ _ f]
end L2

namespace PyProof.Rows
section
variable{prog:o0}{w:t7}{A:Ak}{E:c8->d7->Prop}{s:d7}{st st':v9}{κ:BA}{ys:List Aj}{r:Aj->Int}
def kQ.asks(e:kQ prog w A s κ ys r):VB prog w A s κ ys:=λx y d c Q h=>e x y d c Q (h _)
def iX(p:kQ prog w A s κ ys r)(G:xK κ ys st)(M:pendingOf st = #[]){Q:Unit->v9->Prop}(h:∀ st',xK κ ys st'->Q () st'):wpS 'c' A E s sortRuns' Q st:=by
 rw[sortRuns'_eq];erw[rB ?_];dsimp only;rw[G.size];generalize minRun' ys.length ys.length 0=mr;erw[xC (I:=λx c st'=>xK κ ys st'/\∃ lo,c=(J2,lo)/\uo 0 (pendingOf st').toList lo/\lo<=ys.length/\x<=lo) (Q:=λc st'=>xK κ ys st'/\∃ lo,c=(J2,lo)/\uo 0 (pendingOf st').toList ys.length) ?_ ?_ ⟨G,0,rfl,by rw[M]; rfl,x6 _,f7 _⟩ ?_]
 ·rintro x c o _ D ⟨m,lo,rfl,v,B,L⟩;dsimp only;erw[yL (λe=>wpS_pure ⟨m,_,rfl,?_⟩) (λe=>?_)]
  ·(rw[show ys.length=lo by lia];assumption)
  apply jQ (prog:=prog) (w:=w) (A:=A) (E:=E) (s:=s) (P:=λn f=>xK κ ys f/\uo 0 (pendingOf f).toList lo/\1<=n/\lo+n<=ys.length)
  case use =>
   intro H;erw[wpS_bind (qr p m (by lia) (by lia) λn i st z m2 as=>?_)];have l:=st.base;have u:uo 0 (pendingOf i).toList lo:=by rw[st.pend]; rwa[v]
   clear st;dsimp only;erw[yL (λN=>?_) (λN=>?_)];rotate_left
   ·rwa[H n _ ⟨l,u,z,by lia⟩]
   ·erw[zx ?_];erw[wpS_bind (xx p l (by lia) z (by lia) as λf st _=>?_)];refine yL (λe=>nomatch e) (λ_=>?_);rwa[H _ _ ⟨st.base,by rw[st.pend]; exact u,by lia,by lia⟩]
  intro n f ⟨y,q,k1,k2⟩;erw[rB ?_];apply kM (prog:=prog) (w:=w) (A:=A) (E:=E) (s:=s) (P:=λf=>xK κ ys f/\uo 0 (pendingOf f).toList lo)
  case use =>
   intro H;cases eb:(pendingOf f).back? with
   | none=>rwa[H _ ⟨y,q⟩]
   | some t =>
    obtain⟨s1,n1,Z⟩:=t;dsimp only;erw[xC (I:=λ_ c st'=>c=(J2,())/\xK κ ys st'/\uo 0 (pendingOf st').toList lo) (Q:=λc st'=>c=(J2,())/\xK κ ys st'/\uo 0 (pendingOf st').toList lo) ?_ (λ_ _ h=>h) ⟨rfl,y,q⟩ ?_]
    ·rintro x c d _ D ⟨rfl,g,j⟩;erw[rB ?_];by_cases C:(pendingOf d).size>1
     ·rw[y6 C,Ah (show(pendingOf d).size-2<(pendingOf d).size by lia)];rcases (pendingOf d)[(pendingOf d).size-2] with ⟨Y,X,T⟩
      erw[yL (λe=>wpS_pure ⟨rfl,g,j⟩) (λe=>?_)];erw[wpS_bind (qk p.asks g j B (by lia) λJ S R _=>?_)];rwa[wpS_pure ⟨rfl,S,R⟩]
     ·rw[y4 C];rwa[wpS_pure ⟨rfl,g,j⟩]
    ·rintro c d ⟨rfl,g,j⟩;erw[qQ (H _ ⟨⟨g.perm,g.kind,g.failed⟩,?_⟩)];show uo 0 ((pendingOf d).modify ((pendingOf d).size-1) _).toList lo;rw[Array.toList_modify];rwa[j.power _ _]
  intro d ⟨g,j⟩;erw[qQ (wpS_pure ⟨⟨g.perm,g.kind,g.failed⟩,_,rfl,?_,k2,by lia⟩)];show uo 0 ((pendingOf d).push (lo,n,0)).toList (lo+n);rw[C8];rwa[uo.split.mpr ⟨_,j,rfl,by lia,rfl⟩]
 ·rintro c o ⟨m,lo,rfl,v,B,L⟩;exists m,_,rfl;(rw[show ys.length=lo by lia];assumption)
 ·rintro c o ⟨m,lo,rfl,v⟩;erw[xC (I:=λ_ c st'=>c=(J2,())/\xK κ ys st'/\uo 0 (pendingOf st').toList ys.length) (Q:=λc st'=>c=(J2,())/\xK κ ys st') ?_ (λ_ _ h=>⟨h.1,h.2.1⟩) ⟨rfl,m,v⟩ ?_]
  ·rintro x c i _ D ⟨rfl,l,u⟩;erw[rB ?_];erw[yL (λe=>wpS_pure ⟨rfl,l⟩) (λe=>?_)];erw[wpS_bind (qk p.asks l u (f7 _) ?_ λf y q _=>?_)]
   ·(repeat' split) <;> lia
   ·rwa[wpS_pure ⟨rfl,y,q⟩]
  ·rintro c i ⟨rfl,l⟩;rwa[wpS_pure (h _ l)]
def iH(h2:2<=ys.length)(e:kQ prog w A s κ ys r)(f:xK κ ys st)(d:pendingOf st = #[]){Q:Unit->v9->Prop}(h:∀ st',xK κ ys st'->(ys.length<64->Asc r (arrOf st') 0 ys.length)->Q () st'):wpS 'c' A E s sortRuns' Q st:=by
 by_cases c:ys.length<64
 ·rwa[ie h2 c e f d λst' b as=>h st' b λ_=>as]
 ·rwa[iX e f d λst' b=>h st' b λz=>y9 z c]
end
end PyProof.Rows
namespace L2
open PySem PySem.Spec PyProof.Rows PySem.W
section
variable{X:Cx}
def iL(N:X.A.units+2<cLine):tD X (.builtin "sorted") (λxs H Q=>E2 λ(l:c7) (f:List (c7×List Int))=>A4 (xs=[.ref l]) (SqL X.K H l ((f.map (·.1)).map V.ref)) (∀ t∈f,H t.1=O (.tup (t.2.map V.int))) (∀(p:c7)(j:List (c7×List Int)),H p=J2->j.Perm f->(f.length<64->j.Pairwise (λa b=>HT.lexLt b.2 a.2=J7))->Q (.ref p) (upd H p (.lst ((j.map (·.1)).map V.ref))))):=by
 intro J8 s σ H xs j Q I r h;obtain⟨l,f,rfl,P,i,q⟩:=h;obtain⟨u,rfl,ru⟩:=yY.one r;cases ru;obtain⟨y,rv,pl,M⟩:=I.list P;have ei:=mP rv;subst ei;have Y:∀ t∈f,YH s.heap (.ref t.1) t.2:=λt w=>by
  obtain⟨y,r1,⟨o,e,c,n,d⟩,_⟩:=I.tuple (SqT.of (i t w));rwa[_,o,n,y,rfl,e,c,d,r1]
 have T:∀ v∈(f.map (·.1)).map o9,∃ t∈f,v=.ref t.1:=λv m=>by
  obtain⟨a,S,rfl⟩:=i9.mp m;obtain⟨t,w,rfl⟩:=i9.mp S;rwa[t,w,rfl]
 have Z:∀ v∈(f.map (·.1)).map o9,∃ ns,YH s.heap v ns:=λv m=>by
  obtain⟨t,w,rfl⟩:=T v m;rwa[_,Y t w]
 refine Um (f.length<64) (ρ:=λv=>gq (f.map (·.2)) (XS H v)) pl.isList ?_ (λ_ s' kp E' Q' P=>Tw (λv m=>let ⟨ns,e⟩:=Z v m;⟨ns,e.keep kp⟩) P) (λh2 s' kp E' κ st B hp Q h=>iH (by rw[Io,JC]; rwa[h2]) (ZW (ρ:=λv=>gq (f.map (·.2)) (XS H v)) N (λv m=>let ⟨ns,e⟩:=Z v m;⟨ns,e.keep kp⟩) (λu N v m ns ms l1 l2=>?_) κ) B hp λJ b as=>h J b λg=>as (by rw[Io,JC,b9,b9]; rwa[g])) λout pm pw=>?_
 ·rw[b9]; rw[b9] at M; rwa[M]
 ·obtain⟨t,w,rfl⟩:=T u N;obtain⟨G,C,rfl⟩:=T v m;rw[l1.inj ((Y t w).keep kp),l2.inj ((Y G C).keep kp)];rw[pk (i t w),pk (i G C)];rwa[Xu (Az w)]
 ·rw[x5] at pm;obtain⟨j,E,rfl⟩:=cw pm rfl;have e0:j.map (o9 ∘ λx:c7×List Int=>x.1)=(j.map (·.1)).map o9:=by rw[x5]
  rw[e0];obtain⟨e,at'⟩:=sortedAll_at s.heap ((f.map (·.1)).map o9) ((j.map (·.1)).map o9).toArray;have fr:H 'l'=none:=I.hok.fresh (BO _);have L:f.length<64->j.Pairwise (λa b=>HT.lexLt b.2 a.2=J7):=λg=>by
   have pw:=pw g;rw[BU] at pw;erw[pw.imp_of_mem λ{a b} S hb z=>?_];have R:=E.mem_iff.mp S;have D:=E.mem_iff.mp hb;have z:gq (f.map (·.2)) (XS H (.ref a.1))<=gq (f.map (·.2)) (XS H (.ref b.1)):=z;rw[pk (i a R),pk (i b D)] at z;rwa[RY (Az D) z]
  erw[.ref 'l',_,I.laid (t':=s.toks) (a:=s.heap.objs.size+1) (o:=.lst ((j.map (·.1)).map V.ref)) (λb ob q=>sortedAll_old q) (BO _) ?_,rfl,q _ _ fr E L];erw[?_,_,e,tu _,at'];rw[b9,b9,E.length_eq];simpa using M
end
end L2

namespace Sea
def flatJ(S:BS)(j:Nat):List (List Int):=(S.notes.map λe=>uA S j e.2).flatten
structure SidesJ(H:Hp)(l:c7)(ss:List Sd)(S:BS)(j:Nat):Prop where
 mk ::
 at_:H l=O (.lst (yM ss))
 ok:bE H ss
 rows:ss.map (·.2)=(flatJ S j).map p3
 few:ss.length<=2*S.notes.length
end Sea

-- LAW
namespace Sea
local macro_rules | `(tactic| ac_rfl) => `(tactic| exact ⟨rfl, rfl, rfl, by decide +kernel, rfl, by decide +kernel, by decide +kernel⟩)
structure Zs(mg:j9->Option c8):Prop where
 abs:mg "abs" = J2
 all:mg "all" = J2
 dict:mg "dict" = J2
 int:mg "int" = J2
 len:mg "len" = J2
 list:mg "list" = J2
 max:mg "max" = J2
 min:mg "min" = J2
 range:mg "range" = J2
 sorted:mg "sorted" = J2
 sum:mg "sum" = J2
 tuple:mg "tuple" = J2
def yI:zJ ["numbers","shared","number","rest","smaller"] ["numbers"] (zF wR):=by ac_rfl
def lH:zJ ["numbers","shared"] ["numbers"] (zF wq):=by ac_rfl
def fk:zJ ["numbers"] ["numbers"] (zF zj):=by ac_rfl
def WS:zJ ["x","y","w"] ["x","y","w"] (zF nR):=by ac_rfl
def jR:zJ ["one","other","east"] 'y' (zF si):=by ac_rfl
def rZ:zJ ["ones","others","told","taken","other"] ["ones","others"] (zF wk):=by ac_rfl
def qp:zJ ["spots","middle"] ["spots"] (zF tY):=by ac_rfl
def Xz:zJ 'y' 'y' (zF mh):=by ac_rfl
def ZY:zJ 'y' 'y' (zF tz):=by ac_rfl
def mW:zJ ["side"] ["side"] (zF tL):=by ac_rfl
def cO:zJ ["side","spot"] ["side","spot"] (zF vx):=by ac_rfl
def Yz:zJ ["side","spot"] ["side","spot"] (zF sg):=by ac_rfl
def sY:zJ ["one","other","w","x","y"] 'y' (zF qW):=by ac_rfl
def bN:zJ ["side","x","y"] ["side","x","y"] (zF wn):=by ac_rfl
def vA:zJ ["place","one","other","first","second"] ["place","one","other"] (zF wS):=by ac_rfl
def lK:zJ ["left","right"] ["left","right"] (zF tK):=by ac_rfl
def qa:zJ ["sides","place","side"] ["sides","place"] (zF qV):=by ac_rfl
def XF:zJ ["side"] ["side"] (zF nM):=by ac_rfl
def xZ:zJ ["sides","edge","hand","found","place","number","side"] ["sides","edge","hand"] (zF qS):=by ac_rfl
def vo:zJ ["sides","edge","numbers"] ["sides","edge"] (zF sW):=by ac_rfl
def qO:zJ ["sides","found","edge","place"] ["sides"] (zF yu):=by ac_rfl
def nC:zJ ["start","end"] ["start","end"] (zF vF):=by ac_rfl
def wA:zJ ["corners","number","start","way","further","other"] ["corners","number"] (zF vK):=by ac_rfl
def eJ:zJ ["corners"] ["corners"] (zF zb):=by ac_rfl
def ni:zJ [] [] (zF vN):=by ac_rfl
def oa:zJ ["state","kind","key","value","fresh"] ["state","kind","key","value"] (zF ze):=by ac_rfl
def oN:zJ ["state","kind","key","fresh"] ["state","kind","key"] (zF zi):=by ac_rfl
def cY:zJ ["numbers","most"] ["numbers","most"] (zF wa):=by ac_rfl
def lR:zJ ["name"] ["name"] (zF tT):=by ac_rfl
def mK:zJ ["state","kind","name"] ["state","kind","name"] (zF tN):=by ac_rfl
def nF:zJ ["place"] ["place"] (zF vO):=by ac_rfl
def jo:zJ ["run"] ["run"] (zF sZ):=by ac_rfl
def mC:zJ ["state","kind"] ["state","kind"] (zF tQ):=by ac_rfl
def mG:zJ ["state","name"] ["state","name"] (zF tR):=by ac_rfl
def pZ:zJ ["moment","runs"] ["moment","runs"] (zF uF):=by ac_rfl
def jr:zJ ["direction"] ["direction"] (zF sX):=by ac_rfl
def oX:zJ ["state","left","right"] ["state","left","right"] (zF vG):=by ac_rfl
def rN:zJ ["state","row","name","place"] 'i' (zF tF):=by ac_rfl
def vL:zJ ["state","row","place","fresh","note"] 'i' (zF tM):=by ac_rfl
def vY:zJ ["state","row","name","note"] 'i' (zF uI):=by ac_rfl
def vJ:zJ ["state","row","name","corners","corner"] 'i' (zF tJ):=by ac_rfl
def yq:zJ ["state","row","name"] 'i' (zF vD):=by ac_rfl
def ww:zJ ["state","row","run"] 'i' (zF tO):=by ac_rfl
def sR:zJ ["state","row","number","run"] 'i' (zF vQ):=by ac_rfl
def ya:zJ ["state","row","fresh"] 'i' (zF tI):=by ac_rfl
def ub:zJ 'i' 'i' (zF wW):=by ac_rfl
def oY:zJ 'i' 'i' (zF vH):=by ac_rfl
def zv:zJ ["state","row","number"] 'i' (zF uN):=by ac_rfl
def ZR:zJ 'i' 'i' (zF qx):=by ac_rfl
def fj:zJ ["groups","place"] ["groups","place"] (zF zf):=by ac_rfl
def yK:zJ ["groups","sides","group","places","number","other","place"] ["groups"] (zF wV):=by ac_rfl
def yZ:zJ ["groups","shown","place","least","told","choice"] ["groups"] (zF uK):=by ac_rfl
def dW:zJ ["groups"] ["groups"] (zF za):=by ac_rfl
def uO:zJ ["book","one","other","runs","between","hand"] ["book","one","other"] (zF uZ):=by ac_rfl
def sO:zJ ["book","places","mark"] ["book"] (zF vI):=by ac_rfl
def gv:zJ ["note","places"] ["note","places"] (zF qK):=by ac_rfl
def xG:zJ ["book","moment","places","groups","pair","note","way"] ["book","moment"] (zF vB):=by ac_rfl
def qG:zJ ["book","moment","sides","group"] ["book","moment"] (zF tH):=by ac_rfl
def ox:zJ ["book","moment"] ["book","moment"] (zF uH):=by ac_rfl
def pI:zJ ["book"] ["book"] (zF uP):=by ac_rfl
def zq:zJ ["book","numbers"] ["book"] (zF uL):=by ac_rfl
def Yl:zJ ["_law_number"] ["_law_number"] (zF uj):=by ac_rfl
def wY:zJ ["_law_script","_law_many","_law_rows","_law_mix","_law_cell","_law_rest"] ["_law_script","_law_many"] (zF tw):=by ac_rfl
def xF:zJ ["_law_some","_law_many","_law_letters","_law_rows","_law_at","_law_raw","_law_size","_law_step","_law_word","_law_place","_law_k","_law_sign"] ["_law_some","_law_many"] (zF ud):=by ac_rfl
def VE:zJ [] [] (zF iQ):=by ac_rfl
def kZ:zJ ["_law_m","_law_one","_law_other","_law_steps","_law_sign"] ["_law_m","_law_one","_law_other"] (zF mf):=by ac_rfl
def nL:zJ ["_law_one","_law_two","_law_wide","_law_x","_law_y"] ["_law_one","_law_two","_law_wide"] (zF gh):=by ac_rfl
def bK:zJ ["_law_one","_law_other"] ["_law_one","_law_other"] (zF wt):=by ac_rfl
def wB:zJ ["_law_d","_law_wide","_law_one","_law_other"] ["_law_d","_law_wide"] (zF sU):=by ac_rfl
def yD:zJ ["_law_d","_law_m","_law_moment","_law_mark","_law_x","_law_y","_law_dx","_law_dy","_law_p","_law_q","_law_by","_law_one","_law_other"] ["_law_d","_law_m","_law_moment","_law_mark","_law_x","_law_y"] (zF uM):=by ac_rfl
def zX:zJ ["_law_some","_law_names_here","_law_x","_law_y","_law_m","_law_deeds","_law_k","_law_known","_law_d","_law_moment","_law_one","_law_other","_law_deed"] ["_law_some","_law_names_here"] (zF tE):=by ac_rfl
def Yq:zJ ["_law_book","_law_name","_law_x","_law_y"] ["_law_book","_law_name","_law_x","_law_y"] (zF qj):=by ac_rfl
def uX:zJ ["_law_script","_law_some","_law_names_here","_law_deeds","_law_book","_law_deed","_law_places","_law_known","_law_k","_law_name","_law_x","_law_y","_law_runs","_law_at","_law_other","_law_moment"] ["_law_script"] (zF cH):=by ac_rfl
def Xk:zJ ["self"] ["self"] (zF nQ):=by ac_rfl
def Wy:zJ ["self","name","x","y"] ["self","name","x","y"] (zF md):=by ac_rfl
def XQ:zJ ["self","name","x","y"] ["self","name","x","y"] (zF mi):=by ac_rfl
def Yp:zJ ["self","number","x","y"] ["self","number","x","y"] (zF qu):=by ac_rfl
def lv:zJ ["self","row","number","fresh"] ["self","row"] (zF nX):=by ac_rfl
def iz:zJ ["self","places"] ["self"] (zF ug):=by ac_rfl
def fN:zJ ["self","runs"] ["self"] (zF nT):=by ac_rfl
def Yk:zJ ["self"] ["self"] (zF qi):=by ac_rfl
def bG:zJ ["self"] ["self"] (zF wj):=by ac_rfl
def iM:c7:=216
def pX:c7:=264
def aT:c7:=324
def dI:c7:=372
def rY:c7:=336
def mD:c7:=252
def fJ:c7:=300
def lS:c7:=276
def gJ:c7:=240
def rh:c7:=348
def jf:c7:=360
def kX:c7:=312
def uy:c7:=228
def wf:c7:=204
def jH:c7:=288
def bkC:c7:=714
def Qp:c7:=375
def Ow:List (Key×V):=[(.inr "marks",.int 20),(.inr "banks",.int 8),(.inr "runs",.int 12),(.inr "notes",.int 24)]
def Th:c7:=540
def Tb:List (Key×V):=[(.inr "mark",.ref 469),(.inr "move",.ref 476),(.inr "unmark",.ref 483),(.inr "bank",.ref 490),(.inr "level",.ref 497),(.inr "sail",.ref 504),(.inr "right",.ref 511),(.inr "bearing",.ref 525),(.inr "range",.ref 532),(.inr "strike",.ref 539)]
def bo:c7:=561
def cG:c7:=568
def bg:c7:=575
def iG:c7:=610
def pf:c7:=638
def mm:c7:=685
def iB:c7:=697
def mw:c7:=704
def kY:c7:=711
structure Cb(P:o0)(w:t7)(mg:j9->Option c8)(base:Aa):Prop where
 state:InB base λK=>Cls K bkC/\vn K bkC "state"
 past:InB base λK=>Cls K bkC/\vn K bkC "past"
 later:InB base λK=>Cls K bkC/\vn K bkC "later"
 m_mark:InB base λK=>Cls K bkC/\YG K bkC "mark" cG
 m_move:InB base λK=>Cls K bkC/\YG K bkC "move" bg
 m_right:InB base λK=>Cls K bkC/\YG K bkC "right" iG
 m_deed:InB base λK=>Cls K bkC/\YG K bkC "deed" pf
 m_marks:InB base λK=>Cls K bkC/\YG K bkC "marks" mm
 m_runs:InB base λK=>Cls K bkC/\YG K bkC "runs" iB
 m_notes:InB base λK=>Cls K bkC/\YG K bkC "notes" mw
 m_coming:InB base λK=>Cls K bkC/\YG K bkC "coming" kY
 make:InB base λK=>Mk K bkC bo
 gBook:mg "Book" = O (.ref bkC)
 dMOST:Qt P w base Qp Ow
 gMOST:mg "MOST" = O (.ref Qp)
 dAFTER:Qt P w base Th Tb
 gAFTER:mg "AFTER" = O (.ref Th)
 LONGEST_NAME:∃ k,mg "LONGEST_NAME" = O (.int 8 k)
 FARTHEST:∃ k,mg "FARTHEST" = O (.int 1000 k)
 LONGEST_WAY:∃ k,mg "LONGEST_WAY" = O (.int 100 k)
 t_mark:mg "after_mark" = O (.ref 469)
 t_move:mg "after_move" = O (.ref 476)
 t_unmark:mg "after_unmark" = O (.ref 483)
 t_bank:mg "after_bank" = O (.ref 490)
 t_level:mg "after_level" = O (.ref 497)
 t_sail:mg "after_sail" = O (.ref 504)
 t_right:mg "after_right" = O (.ref 511)
 t_bearing:mg "after_bearing" = O (.ref 525)
 t_range:mg "after_range" = O (.ref 532)
 t_strike:mg "after_strike" = O (.ref 539)
 gSame:mg "Same" = O (.ref pX)
 e_BadBank:Ag "BadBank" jH bmV "ValueError.__new__" mg base
 e_BadName:Ag "BadName" wf bmV "ValueError.__new__" mg base
 e_BadPlace:Ag "BadPlace" uy bmV "ValueError.__new__" mg base
 e_BadRun:Ag "BadRun" kX bmV "ValueError.__new__" mg base
 e_BadTurn:Ag "BadTurn" jf bmV "ValueError.__new__" mg base
 e_BadWay:Ag "BadWay" rh bmV "ValueError.__new__" mg base
 e_Full:Ag "Full" gJ bmV "ValueError.__new__" mg base
 e_Needed:Ag "Needed" lS bmV "ValueError.__new__" mg base
 e_NoBank:Ag "NoBank" fJ bmV "ValueError.__new__" mg base
 e_NoMark:Ag "NoMark" mD bmV "ValueError.__new__" mg base
 e_NoMoment:Ag "NoMoment" rY bmV "ValueError.__new__" mg base
 e_NoNote:Ag "NoNote" dI bmV "ValueError.__new__" mg base
 e_NoRun:Ag "NoRun" aT bmV "ValueError.__new__" mg base
 e_Same:Ag "Same" pX bmV "ValueError.__new__" mg base
 t_Same_Same:Qg base (.ref pX) pX
 e_Taken:Ag "Taken" iM bmV "ValueError.__new__" mg base
set_option hygiene false in
local macro_rules | `(tactic| fail) => `(tactic| first | (with_reducible first | exact wH | exact zL) | ((with_reducible apply Qd); exact rfl; fail; fail) | (with_reducible first | exact zZ | exact oS | exact ff) | ((with_reducible apply Oq); first | ((with_reducible apply m_nm "dict"); exact pe_bltn (v := .ty "dict") rfl Z.dict iP rfl) | ((with_reducible apply m_nm "int"); exact pe_bltn (v := .ty "int") rfl Z.int Te rfl) | ((with_reducible apply m_nm "list"); exact pe_bltn (v := .ty "list") rfl Z.list pU rfl) | ((with_reducible apply m_nm "tuple"); exact pe_bltn (v := .ty "tuple") rfl Z.tuple iE rfl) | exact pv 0 | exact pv 1 | exact pv 2 | exact pv 3 | exact pv 4 | exact pv 5 | exact pv 6 | exact pv 7 | exact pv 8 | exact pv 9 | exact pv 10 | exact pv 11 | exact pv 12 | exact pv 13 | exact pv 14 | exact pv 15) | ((with_reducible apply m_sub); first | ((with_reducible apply zk Xq); fail; fail; fail) | ((with_reducible apply m_ix); exact λ_ _ => rfl; fail; fail)) | ((with_reducible apply m_bin); (with_reducible first | apply tZ fH | apply tZ Xy | apply tZ fK | apply tZ Ts | apply tZ Tl | apply tZ Ov); fail; fail) | ((with_reducible apply PK); first | ((with_reducible apply m_own); (with_reducible assumption); exact ⟨rfl, rfl, rfl, rfl, rfl⟩; exact hr.mono (by decide); exact rfl; decide; exact rfl; exact rfl; fail) | ((first | ((with_reducible apply cL Ud Pc); exact Z.abs) | ((with_reducible apply cL (xw rfl) fG); exact Z.all) | ((with_reducible apply cL xz oG); exact Z.len) | ((with_reducible apply cL (WW rfl) Po); exact Z.max) | ((with_reducible apply cL (YW rfl) TY); exact Z.min) | ((with_reducible apply cL call_sortedT wv); exact Z.sorted) | ((with_reducible apply cL (yc rfl) cy); exact Z.sum) | ((with_reducible apply Om mY iP); exact Z.dict) | ((with_reducible apply Om Wt Te); exact Z.int) | ((with_reducible apply Om dM pU); exact Z.list) | ((with_reducible apply Om sj iE); exact Z.tuple)); exact rfl; decide; decide; exact rfl; exact rfl; fail)) | ((with_reducible first | apply fM | apply Wu | apply pe_un Qm | apply pe_not); fail) | ((with_reducible apply m_cmp); (with_reducible first | apply rG SA | apply rG PD | apply rG US | apply rG Uk | apply rG Uz | apply rG RG | apply rG TM | apply rG WF); fail; fail; exact sS _) | ((with_reducible apply Pg); (with_reducible first | apply xA SA | apply xA PD | apply xA US | apply xA Uk | apply xA Uz | apply xA RG | apply xA TM | apply xA WF); fail; fail; exact sS _) | ((with_reducible first | apply RO | apply bR | apply fD); fail) | ((with_reducible first | apply Wx | apply ZT); fail; fail) | ((with_reducible first | apply iy | apply pe_one); fail) | ((with_reducible first | apply pe_and | apply pe_or); fail; fail) | ((with_reducible apply au); fail; fail; fail) | with_reducible exact oz | ((with_reducible apply xy); fail) | ((with_reducible apply m_val); exact λ_ => rfl; fail))
set_option hygiene false in
local macro_rules | `(tactic| specialize $e) => `(tactic| refine F.ok $e (λvs H Q E h => ?_) (λcdv A outer s H vs Q E hr h => ?_))
local macro_rules | `(tactic| nofun) => `(tactic| ((any_goals fail); try dsimp only [L2.cxOf, L2.cxComp, L2.Cx.nox]))
section
variable{P:o0}{w:t7}{mg:j9->Option c8}{base:Aa}{f:c7}{fd:AK}
def qN(K:c5):Sp:=λc H Q _=>E2 λ(a:c7) (ns:List Int)=>A3 (c=[.ref a]) (Sq K H a 'p') (Q (.int (xY ns)) H)
def rq(F:Fun K "common_factor" "common_factor" wR f fd)(Z:Zs mg):yR P w K mg base CX0 1 f fd ["numbers"] (qN K):=by
 specialize yI
 ·obtain⟨a,ns,rfl,_⟩:=h;rfl
 obtain⟨a,ns,rfl,o,q⟩:=h
 refine'⟨_,(zB (zQ 1 yI.nd wH)
   (zB (xH v8 rfl (xB (pv 0)) (uY 2 yI.nd) (zB (zQ 3 yI.nd ?_)
   (zE (nK v8 ?_ (zB (zQ 4 yI.nd ?_)
   (zB (zQ 1 yI.nd (pv 3))
   (zE (zQ 3 yI.nd (pv 4)))))))))
   (zE (zN (pv 1))))),?_⟩
 nofun
 have mono:∀(c:St)(H:Hp)(Q B:Bool->Hp->Prop),(∀ b l,Q b l->B b l)->Ub (tOp rNe (Uv 3) (tC (.int 0))) c H Q->Ub (tOp rNe (Uv 3) (tC (.int 0))) c H B:=λc H Q B G z=>by
  obtain⟨v,C,D,k,I,z⟩:=z;rwa[v,C,D,k,I,G _ _ z]
 rcases o with o | o
 ·erw[_,rfl,a,rfl,.inl ⟨⟨_,o⟩,xM (K:=K) (a:=a) (xs:=ns.map V.int) (λi c j=>j=H/\E3 λ(u v z:Option V)=>c=[O (.ref a),O (.int (xY (ns.take i))),u,v,z]) ⟨rfl,J2,J2,J2,rfl⟩ (λi c j _ m=>by obtain⟨e,_⟩:=m; rw[e]; rwa[o]) ?_ ?_⟩]
  ·rintro i x c j hi ⟨rfl,u,v,z,rfl⟩;obtain⟨n,p,rfl⟩:=uU hi;exists _,U,n,rfl;refine uk (λc l=>l=j/\E3 λ(g r:Int) (y:Option V)=>A4 (c=[O (.ref a),O (.int g),O (.int n),O (.int r),y]) (0<=g) (0<=r) (Af g.toNat r.toNat=xY (ns.take (i+1))))
    (λc _=>match c with | [_,_,_,O (.int r),_]=>r.toNat | _=>0) ⟨rfl,_,_,_,rfl,Ch _,by split <;> lia,?_⟩ ?_ mono
   ·rw[wM p,dE,TX]; rfl
   ·rintro c l ⟨rfl,g,r,y,rfl,h1,h2,h3⟩;exists _,U,U,_,rfl;erw[Oh (λd=>?_) (λd=>?_)]
    ·refine⟨_,U,_,U,_,_,U,U,(by show(0:Int)<r; lia),_,rfl,_,rfl,⟨rfl,_,_,_,rfl,h2,An g d,?_⟩,?_⟩
     ·rw[Zf h1 (by lia)]; rwa[h3]
     ·have h4:=z7 g (show 0<r by lia);show(g%r).toNat<r.toNat;lia
    ·subst d;have h5:g=((xY (ns.take (i+1)):Nat):Int):=by
      rw[<- h3];show g=((Af g.toNat 0:Nat):Int);rw[G5];lia
     rwa[rfl,O (.int n),O (.int 0),y,by rw[h5]]
  ·rintro c j ⟨rfl,u,v,z,rfl⟩;exists _,rfl;rw[b9,o5];rwa[q]
 ·erw[_,rfl,a,rfl,.inr ⟨⟨_,o⟩,YU (K:=K) (a:=a) (xs:=ns.map V.int) (λi c j=>j=H/\E3 λ(u v z:Option V)=>c=[O (.ref a),O (.int (xY (ns.take i))),u,v,z]) ⟨rfl,J2,J2,J2,rfl⟩ (λi c j _ m=>by obtain⟨e,_⟩:=m; rw[e]; rwa[o]) ?_ ?_⟩]
  ·rintro i x c j hi ⟨rfl,u,v,z,rfl⟩;obtain⟨n,p,rfl⟩:=uU hi;exists _,U,n,rfl;refine uk (λc l=>l=j/\E3 λ(g r:Int) (y:Option V)=>A4 (c=[O (.ref a),O (.int g),O (.int n),O (.int r),y]) (0<=g) (0<=r) (Af g.toNat r.toNat=xY (ns.take (i+1))))
    (λc _=>match c with | [_,_,_,O (.int r),_]=>r.toNat | _=>0) ⟨rfl,_,_,_,rfl,Ch _,by split <;> lia,?_⟩ ?_ mono
   ·rw[wM p,dE,TX]; rfl
   ·rintro c l ⟨rfl,g,r,y,rfl,h1,h2,h3⟩;exists _,U,U,_,rfl;erw[Oh (λd=>?_) (λd=>?_)]
    ·refine⟨_,U,_,U,_,_,U,U,(by show(0:Int)<r; lia),_,rfl,_,rfl,⟨rfl,_,_,_,rfl,h2,An g d,?_⟩,?_⟩
     ·rw[Zf h1 (by lia)]; rwa[h3]
     ·have h4:=z7 g (show 0<r by lia);show(g%r).toNat<r.toNat;lia
    ·subst d;have h5:g=((xY (ns.take (i+1)):Nat):Int):=by
      rw[<- h3];show g=((Af g.toNat 0:Nat):Int);rw[G5];lia
     rwa[rfl,O (.int n),O (.int 0),y,by rw[h5]]
  ·rintro c j ⟨rfl,u,v,z,rfl⟩;exists _,rfl;rw[b9,o5];rwa[q]
def rX(K:c5):Sp:=λd H Q _=>E2 λ(a:c7) (ns:List Int)=>A6 (d=[.ref a]) (Sq K H a 'p') (ns.length<=1000) (0<xY ns) ((xY ns:Int)<10^600) (∀(p:c7)(c:Hp),Same H c->H p=J2->c p=O (.tup ((wc ns).map V.int))->Q (.ref p) c)
def bw(F:Fun K "lowest" "lowest" wq f fd)(Z:Zs mg)(I:Cb P w mg base)(C:Has P w K mg base "common_factor" 1 ["numbers"] (qN K)):yR P w K mg base CX0 2 f fd ["numbers"] (rX K):=by
 specialize lH
 ·obtain⟨a,ns,rfl,_⟩:=h;rfl
 obtain⟨a,ns,rfl,m,z,G,r,q⟩:=h
 refine'⟨_,(zB (zQ 1 lH.nd ?_)
   (zE (zN (tV sj rfl Z.tuple iE (zD (xO (T:=["number"]) (caps:=[("shared",1)]) ⟨rfl,by ac_nf,by ac_nf,rfl,⟨⟨rfl,rfl,B9 rfl⟩,z8⟩⟩ rfl (xB (pv 0)) (λ_=>(uY 0 (show(["number","shared"]:List j9).Nodup by ac_nf))) (λ_=>yX) (λ_=>?_)) zL))))),?_⟩
 nofun
 exists _,U,a,ns,U,m;have v:∀(D:c7)(d:Hp),H D=J2->Same H d->d D=O (.lst ((wc ns).map V.int))->∀ l,d l=J2->Q (.ref l) (upd d l (.tup ((wc ns).map V.int))):=λD d o B e l z =>
  q l _ (B.trans (zC z _)) (B.free z) zA
 have len:∀ i,((ns.take i).map λn=>V.int (n/(xY ns:Int))).length<sizeLine:=λi=>zM (by rw[b9,m8]; lia);rcases m with m | m
 ·refine⟨_,U,a,U,.inl ⟨⟨_,m⟩,λc D o=>xN (K:=K) (a:=a) (xs:=ns.map V.int) (λi j g d=>A3 (d=upd H D (.lst g)) (g=(ns.take i).map (λn=>V.int (n/(xY ns:Int)))) (∃ u,j=[u,O (.int (xY ns))]))
   ⟨rfl,rfl,J2,rfl⟩ (λi j g d _ p=>by obtain⟨e,_⟩:=p; rw[e]; rwa[(zC o _).seq m,zA]) ?_ ?_⟩⟩
  ·rintro i x j g d hi ⟨rfl,rfl,u,rfl⟩;obtain⟨n,y,rfl⟩:=uU hi;exists _,U,_,U,_,_,U,U,pH.of (by lia) r,zA,len i;erw[ux,?_,_,rfl];rw[wM y,f8];rfl
  ·rintro j g d ⟨rfl,rfl,u,rfl⟩;rw[b9,o5];have e:(ns.map λn=>V.int (n/(xY ns:Int)))=(wc ns).map V.int:=by unfold wc; rw[x5]; rfl
   rw[e];rwa[D,_,rfl,.inl ⟨SqL.of zA,v D _ o (zC o _) zA⟩]
 ·refine⟨_,U,a,U,.inr ⟨⟨_,m⟩,λc D o=>kT (K:=K) (a:=a) (xs:=ns.map V.int) (λi j g d=>A3 (d=upd H D (.lst g)) (g=(ns.take i).map (λn=>V.int (n/(xY ns:Int)))) (∃ u,j=[u,O (.int (xY ns))]))
   ⟨rfl,rfl,J2,rfl⟩ (λi j g d _ p=>by obtain⟨e,_⟩:=p; rw[e]; rwa[SqT.same m (zC o _),zA]) ?_ ?_⟩⟩
  ·rintro i x j g d hi ⟨rfl,rfl,u,rfl⟩;obtain⟨n,y,rfl⟩:=uU hi;exists _,U,_,U,_,_,U,U,pH.of (by lia) r,zA,len i;erw[ux,?_,_,rfl];rw[wM y,f8];rfl
  ·rintro j g d ⟨rfl,rfl,u,rfl⟩;rw[b9,o5];have e:(ns.map λn=>V.int (n/(xY ns:Int)))=(wc ns).map V.int:=by unfold wc; rw[x5]; rfl
   rw[e];rwa[D,_,rfl,.inl ⟨SqL.of zA,v D _ o (zC o _) zA⟩]
def xg(K:c5):Sp:=λd H Q _=>E3 λ(a:c7) (ns:List Int) (l:Int)=>A8 (d=[.ref a]) (Sq K H a 'p') (ns.length<=1000) (atI 'p' (-1)=O (.int l)) (l∈ns) (l≠0) (l.natAbs<10^500) (∀(p:c7)(c:Hp),Same H c->H p=J2->c p=O (.tup ((wc (if l<0 then ns.map (λn=>-n) else ns)).map V.int))->Q (.ref p) c)
def ce(F:Fun K "upright" "upright" zj f fd)(Z:Zs mg)(CB:Cb P w mg base)(z:Has P w K mg base "lowest" 2 ["numbers"] (rX K)):yR P w K mg base CX0 3 f fd ["numbers"] (xg K):=by
 specialize fk
 ·obtain⟨a,ns,l,rfl,_⟩:=h;rfl
 obtain⟨a,ns,l,rfl,o,R,I,N,h0,Y,q⟩:=h
 refine'⟨_,(zB (xL ?_ (zE (zN (xI z 'e' rfl (zD (xO (T:=["number"]) (caps:=[]) ⟨rfl,by ac_nf,by ac_nf,rfl,z8⟩ rfl (xB (pv 0)) (λ_=>(uY 0 (show(["number"]:List j9).Nodup by ac_nf))) (λ_=>yX) (λ_=>?_)) zL)))) zV)
   (zE (zN ?_))),?_⟩
 nofun
 exists _,U,_,U,a,_,_,_,U,U,o,I,_,_,U,U,_,rfl;have S:0<xY ns:=sV N h0;have X:(xY ns:Int)<10^600:=by
  have h1:=mL N h0;have h2:(10:Nat)^500<10^600:=by ac_nf
  have h3:((10:Int)^600)=((10^600:Nat):Int):=by rw[Int.natCast_pow]; rfl
  rw[h3];lia
 erw[ifD (λj=>?_) (λj=>?_)]
 ·have len:∀ i,((ns.take i).map λn=>V.int (-n)).length<sizeLine:=λi=>zM (by rw[b9,m8]; lia);have y:∀(D:c7)(d:Hp),H D=J2->Same H d->d D=O (.lst ((ns.map λn=>-n).map V.int))->rX K [.ref D] d Q E0:=λD d r M e=>by
   erw[D,ns.map λn=>-n,rfl,.inl (SqL.of e),by rw[b9]; exact R,by rw[Zu]; exact S,by rw[Zu]; exact X,λp L B C J=>?_];rwa[q p L (M.trans B) (M.free C) (by rw[y6 j]; exact J)]
  rcases o with o | o
  ·refine⟨_,U,a,U,.inl ⟨⟨_,o⟩,λc D r=>xN (K:=K) (a:=a) (xs:=ns.map V.int) (λi m g d=>A3 (d=upd H D (.lst g)) (g=(ns.take i).map (λn=>V.int (-n))) (∃ u,m=[u]))
    ⟨rfl,rfl,J2,rfl⟩ (λi m g d _ v=>by obtain⟨e,_⟩:=v; rw[e]; rwa[(zC r _).seq o,zA]) ?_ ?_⟩⟩
   ·rintro i x m g d hi ⟨rfl,rfl,u,rfl⟩;obtain⟨n,G,rfl⟩:=uU hi;exists _,U,_,U,zA,len i;erw[ux,?_,_,rfl];rw[wM G,f8];rfl
   ·rintro m g d ⟨rfl,rfl,u,rfl⟩;rw[b9,o5];have e:(ns.map λn=>V.int (-n))=(ns.map λn=>-n).map V.int:=by rw[x5]; rfl
    rw[e];rwa[y D _ r (zC r _) zA]
  ·refine⟨_,U,a,U,.inr ⟨⟨_,o⟩,λc D r=>kT (K:=K) (a:=a) (xs:=ns.map V.int) (λi m g d=>A3 (d=upd H D (.lst g)) (g=(ns.take i).map (λn=>V.int (-n))) (∃ u,m=[u]))
    ⟨rfl,rfl,J2,rfl⟩ (λi m g d _ v=>by obtain⟨e,_⟩:=v; rw[e]; rwa[SqT.same o (zC r _),zA]) ?_ ?_⟩⟩
   ·rintro i x m g d hi ⟨rfl,rfl,u,rfl⟩;obtain⟨n,G,rfl⟩:=uU hi;exists _,U,_,U,zA,len i;erw[ux,?_,_,rfl];rw[wM G,f8];rfl
   ·rintro m g d ⟨rfl,rfl,u,rfl⟩;rw[b9,o5];have e:(ns.map λn=>V.int (-n))=(ns.map λn=>-n).map V.int:=by rw[x5]; rfl
    rw[e];rwa[y D _ r (zC r _) zA]
 ·erw[_,rfl,a,ns,rfl,o,R,S,X,λp L B C J=>?_];rwa[q p L B C (by rw[y4 j]; exact J)]
def mU(K:c5):Sp:=λd H Q _=>E3 λ(X Y W:Int)=>A4 (d=[.int X,.int Y,.int W]) (W≠0) (W.natAbs<10^500) (∀(p:c7)(c:Hp),Same H c->H p=J2->c p=O (.tup ((wc (upL X Y W)).map V.int))->Q (.ref p) c)
def YK(F:Fun K "spot" "spot" nR f fd)(Z:Zs mg)(n:Cb P w mg base)(g:Has P w K mg base "upright" 3 ["numbers"] (xg K)):yR P w K mg base CX0 4 f fd ["x","y","w"] (mU K):=by
 specialize WS
 ·obtain⟨X,Y,W,rfl,_⟩:=h;rfl
 obtain⟨X,Y,W,rfl,j,c,q⟩:=h
 refine'⟨_,(zE (zN ?_)),?_⟩
 nofun
 refine⟨_,U,_,U,_,U,sz3,λp e=>⟨p,[X,Y,W],W,U,.inr (SqT.of zA),by show 3<=1000; decide,rfl,by simp,j,c,λr m i d l=>?_⟩⟩;rwa[q r m ((zC e _).trans i) ((zC e _).free d) l]
def cB{i j:Int}(hi:i.natAbs<=10^100)(c:j.natAbs<=10^100):YQ i j:=YQ.of hi c
def YI(H:Hp)(t:SpT):Prop:=H t.1=O (.tup [.int t.2.1,.int t.2.2.1,.int t.2.2.2])/\t.2.1.natAbs<=10^100/\t.2.2.1.natAbs<=10^100/\t.2.2.2.natAbs<=10^100
def YI.same{H c:Hp}(h:YI H t)(e:Same H c):YI c t:=⟨e _ _ h.1,h.2⟩
def vv(K:c5):Sp:=λc H Q _=>E2 λ(s t:SpT)=>A4 (c=[.ref s.1,.ref t.1]) (YI H s) (YI H t) (Q (.bl (ahB s t)) H)
def ZB(F:Fun K "ahead" "ahead" si f fd)(Z:Zs mg)(z:Cb P w mg base)  : yR P w K mg base CX0 1 f fd 'y' (vv K):=by
 specialize jR
 ·obtain⟨s,t,rfl,_⟩:=h;rfl
 obtain⟨⟨a,l,i,w1⟩,⟨b,j,g,d⟩,rfl,⟨r,y,x,o⟩,⟨p,v,u,n⟩,q⟩:=h
 refine'⟨_,(zB (zQ 2 jR.nd (tZ Xy (tZ iK ?_ ?_) (tZ iK ?_ ?_)))
   (zB (xL ?_ (zE (zN ?_)) zV)
   (zE (zN (rG US (tZ iK ?_ ?_) (tZ iK ?_ ?_) (sS _)))))),?_⟩
 nofun
 have c:Sq K H a [.int l,.int i,.int w1]:=.inr (SqT.of r);have m:Sq K H b [.int j,.int g,.int d]:=.inr (SqT.of p);exists _,U,a,_,_,.int l,U,U,c,U,_,U,b,_,_,.int d,U,U,m,U,_,_,U,U,cB y n,_,U,b,_,_,.int j,U,U,m,U,_,U,a,_,_,.int w1,U,U,c,U,_,_,U,U,cB v o,_,_,U,rfl;exists _,U,U,_,rfl;erw[Oh (λh=>?_) (λh=>?_)]
 ·have e:ahB (a,l,i,w1) (b,j,g,d)=decide (l*d-j*w1<0):=y4 h;rw[e] at q;rwa[_,rfl,_,_,rfl,rfl,q]
 ·have e:ahB (a,l,i,w1) (b,j,g,d)=decide (i*d<g*w1):=y6 h;rw[e] at q;rwa[_,rfl,a,_,_,.int i,rfl,rfl,c,rfl,_,rfl,b,_,_,.int d,rfl,rfl,m,rfl,_,_,rfl,rfl,cB x n,_,rfl,b,_,_,.int g,rfl,rfl,m,rfl,_,rfl,a,_,_,.int w1,rfl,rfl,c,rfl,_,_,rfl,rfl,cB u o,_,_,rfl,rfl,q]
def SS{sp:Sp}{E:XK}(j:∀ (d:List V) (H:Hp) (Q e:VK),(∀ v g,Q v g->e v g)->sp d H Q E->sp d H e E)(i:Wv t):jv (ZO sp c E t):=λh _ _ _ l z=>i h _ _ _ (λ_ _ z=>j _ _ _ _ l z) z
def ZF{K:c5} : ∀(d:List V)(H:Hp)(Q e:VK),(∀ v g,Q v g->e v g)->vv K d H Q E0->vv K d H e E0:=λ_ _ _ _ h ⟨s,t,a,b,c,z⟩=>⟨s,t,a,b,c,h _ _ z⟩
def yV(c:List SpT):List V:=c.map λt=>V.ref t.1
def uq(K:c5):Sp:=λe H Q _=>E4 λ(a b:c7) (xs c:List SpT)=>A7 (e=[.ref a,.ref b]) (H a=O (.lst (yV xs))) (H b=O (.lst (yV c))) (∀ t∈xs,YI H t) (∀ t∈c,YI H t) (xs.length+c.length<=5000) (∀(p:c7)(d:Hp),Same H d->H p=J2->d p=O (.lst (yV (xJ xs c)))->Q (.ref p) d)
def ZZ{xs g:List SpT}{o:SpT}{r:List SpT}{k:Nat}(l:k<=xs.length){c:List SpT}(h:c++xJ (xs.drop k) (o::r)=xJ xs g)(i:xs[k]?=O x)(j:ahB o x=J7):(c++[x])++xJ (xs.drop (k+1)) (o::r)=xJ xs g:=by
 rw[<- h];have d:k<xs.length:=(e8.mp i).1;have e:xs.drop k=x::xs.drop (k+1):=by
  rw[Bm d]
  congr 1
  exact(e8.mp i).2
 rw[e,xJ,xJ,ES (by rw[j]; rfl),EU (by rw[j]; rfl),r9];rfl
def cf{xs i:List SpT}{o:SpT}{r:List SpT}{k:Nat}{c:List SpT}(h:c++xJ (xs.drop k) (o::r)=xJ xs i)(d:xs.length<=k\/∃ x,xs[k]?=O x/\ahB o x=J3):(c++[o])++xJ (xs.drop k) r=xJ xs i:=by
 rw[<- h];rcases d with d | ⟨x,d,j⟩
 ·rw[List.drop_eq_nil_of_le d,xJ,List.takeWhile_nil,List.dropWhile_nil,r9];rfl
 ·have g:k<xs.length:=(e8.mp d).1;have e:xs.drop k=x::xs.drop (k+1):=by
   rw[Bm g]
   congr 1
   exact(e8.mp d).2
  rw[e,xJ,ET (by rw[j]; decide),EV (by rw[j]; decide),r9];rfl
structure Qs(H:Hp)(l:c7)(told:List SpT)(H':Hp):Prop where
 same:Same H H'
 at':H' l=O (.lst (yV told))
def Qs.app{H g:Hp}{x:SpT}(d:Qs H l c g)(h:H l=J2):Qs H l (c++[x]) (upd g l (.lst (yV c++[.ref x.1]))):=by
 erw[λb o e=>?_,?_]
 ·rw[zG (zI e h)];rwa[d.same b o e]
 ·rw[zA];unfold yV;rw[f8];rfl
def VH{c:List SpT}{i:Nat}(h:c[i]?=O x):(yV c)[i]?=O (.ref x.1):=by
 unfold yV;rw[e7,h];rfl
def mP{i:Nat}(h:(yV c)[i]?=O v):∃ x,c[i]?=O x/\v=.ref x.1:=by
 unfold yV at h;rw[e7] at h;cases e:c[i]? with
 | none=>rw[e] at h; cases h
 | some x=>rw[e] at h; rwa[x,rfl,(t6 h).symm]
def yO(c:List SpT):(yV c).length=c.length:=b9 _
def bf(F:Fun K "merged" "merged" wk f fd)(Z:Zs mg)(CB:Cb P w mg base)(yCl:Has P w K mg base "ahead" 1 'y' (vv K)):yR P w K mg base CX0 2 f fd ["ones","others"] (uq K):=by
 specialize rZ
 ·obtain⟨a,b,xs,r,rfl,_⟩:=h;rfl
 obtain⟨a,b,xs,r,rfl,ha,hb,N,M,hlen,q⟩:=h
 refine'⟨_,(zB (zQ 2 rZ.nd ?_)
   (zB (zQ 3 rZ.nd wH)
   (zB (xH v8 rfl (xB (pv 1)) (uY 4 rZ.nd) (zB (nK v8 ?_ (zB (zO (qo (pv 2) ?_))
   (zE (zQ 3 rZ.nd ?_))))
   (zE (zO (qo (pv 2) (zD (pv 4) zL))))))
   (zE (zN (tZ Tf (pv 2) ?_)))))),?_⟩
 nofun
 have big:∀ n:Nat,n<=5000->n<sizeLine:=λn hn=>Am hn 'a';refine⟨sz0,λl I=>?_⟩;have D0:Qs H l [] (upd H l 'C'):=⟨zC I _,zA⟩;refine⟨_,U,b,U,.inl ⟨⟨_,SqL.of (D0.same _ _ hb)⟩,xM (K:=K) (a:=b) (xs:=yV r) (λj m J=>E3 λ(e:List SpT) (k:Nat) (u:Option V)=>A5 (m=[O (.ref a),O (.ref b),O (.ref l),O (.int k),u]) (Qs H l e J) (k<=xs.length) (e.length=k+j) (e++xJ (xs.drop k) (r.drop j)=xJ xs r))
  ⟨[],0,J2,rfl,D0,x6 _,rfl,rfl⟩ (λj m J _ T=>by obtain⟨_,_,_,_,d,_⟩:=T; rwa[SqL.of (d.same _ _ hb)]) ?_ ?_⟩⟩
 ·rintro j v m J hj ⟨e,k,u,rfl,d,D,x,i⟩;obtain⟨o,X,rfl⟩:=mP hj;have Y:j<r.length:=(e8.mp X).1;have R:=M o (j4 X);have eo:r.drop j=o::r.drop (j+1):=by
   rw[Bm Y]
   congr 1
   exact(e8.mp X).2
  rw[eo] at i;refine uk (λm H1=>E2 λ(e:List SpT) (k:Nat)=>A5 (m=[O (.ref a),O (.ref b),O (.ref l),O (.int k),O (.ref o.1)]) (Qs H l e H1) (k<=xs.length) (e.length=k+j) (e++xJ (xs.drop k) (o::r.drop (j+1))=xJ xs r))
   (λm _=>match m with | [_,_,_,O (.int z),_]=>xs.length-z.toNat | _=>0) ⟨e,k,rfl,d,D,x,i⟩ ?_ (Tc (gK (Vo UT vg (SJ WZ (mE vg aa)))) (PR (mo_b (SS ZF (mE vg (mE (Vo PP vg vg) aa))))))
  rintro m H1 ⟨e,k,rfl,d,D,x,i⟩;have G:Sq K H1 a (yV xs):=.inl (SqL.of (d.same _ _ ha));exists _,U,_,U,a,_,U,.inl (SqL.of (d.same _ _ ha)),_,_,U,U,_,rfl;erw[ifD (λy=>?_) (λy=>?_)]
  ·have g:(k:Int)<((yV xs).length:Int):=y;rw[yO] at g;have B:k<xs.length:=by lia
   have S:xs[k]?=O xs[k]:=c6 B;have at':atI (yV xs) (k:Int)=O (.ref (xs[k]).1):=vX (VH S);have okX:=N xs[k] (r6 B);exists _,U,_,U,_,U,a,_,_,_,U,U,G,at',o,xs[k],U,R.same d.same,okX.same d.same,_,rfl;erw[ifTF (λhb'=>?_) (λhb'=>?_)]
   ·have C:ahB o xs[k]=false:=by cases h:ahB o xs[k] <;> simp_all
    exists _,U,.inl ⟨U,_,SqL.of d.at'⟩,_,U,_,U,a,_,_,_,U,U,G,at',l,_,_,U,U,d.at',big _ (by rw[yO]; lia);exists _,U,_,_,U,U,⟨e++[xs[k]],k+1,U,d.app I,B,by rw[f9,Al]; lia,ZZ D i S C⟩;show xs.length-((k:Int)+1).toNat<xs.length-((k:Int)).toNat;lia
   ·have C:ahB o xs[k]=true:=by cases h:ahB o xs[k] <;> simp_all
    exists _,U,.inl ⟨U,_,SqL.of d.at'⟩,_,U,l,_,_,U,U,d.at',big _ (by rw[yO]; lia);rwa[e++[o],k,_,rfl,d.app I,D,by rw[f9,Al]; lia,cf i (.inr ⟨_,S,C⟩)]
  ·have g:¬ (k:Int)<((yV xs).length:Int):=y;rw[yO] at g;erw[zd ?_];exists _,U,.inl ⟨U,_,SqL.of d.at'⟩,_,U,l,_,_,U,U,d.at',big _ (by rw[yO]; lia);rwa[e++[o],k,_,rfl,d.app I,D,by rw[f9,Al]; lia,cf i (.inl (by lia))]
 ·rintro m J ⟨e,k,u,rfl,d,D,x,i⟩;rw[yO] at x i;rw[List.drop_length,xJ] at i;refine⟨_,U,_,U,_,U,_,U,a,_,U,SqL.of (d.same _ _ ha),λc hc=>?_⟩;have L:=zC hc (.lst (xf (yV xs) (O (k:Int)) J2));have ec:xf (yV xs) (O (k:Int)) J2=yV (xs.drop k):=by
   unfold xf;rw[HT.sIx_nat,yO,show min k xs.length=k by lia,show HT.sIx xs.length xs.length J2=xs.length from rfl,Au (by rw[Ai,yO]; lia)];unfold yV;rw[Eg]
  erw[l,c,_,_,rfl,rfl,L _ _ d.at',zA,?_,λp hp=>?_]
  ·rw[ec,yO,yO,Ai];rwa[BM (big _ (by lia))]
  ·erw[q p _ (d.same.trans (L.trans (zC hp _))) ((d.same.trans L).free hp) ?_];rw[zA,ec,<- i];unfold yV;rw[f8]
def yf(K:c5):Nat->Sp
 | 0=>λ_ _ _ _=>False
 | n+1=>λd H Q _=>∃(a:c7)(xs:List SpT),d=[.ref a]/\SqL K H a (yV xs)/\(∀ t∈xs,YI H t)/\xs.length<=2^n/\xs.length<=5000/\∀(p:c7)(c:Hp),Same H c->H p=J2->c p=O (.lst (yV (vt n xs)))->Q (.ref p) c
def pj(K:c5):Sp:=yf K 13
def oH{f:c7}{fd:AK}(F:Fun K "in_order" "in_order" tY f fd)(Z:Zs mg)(CB:Cb P w mg base)(r:Has P w K mg base "merged" 2 ["ones","others"] (uq K))(R:qf K fd ["spots"] [])(N:AJ K (.ref f)=J3)(M:mg "in_order" = O (.ref f)) :
  ∀ n:Nat,yR P w K mg base CX0 (n+2) f fd ["spots"] (yf K n)
 | 0=>⟨λ_ _ _ _ h=>h.elim,λ_ _ _ _ _ _ _ _ _ _ _ _ _ h=>h.elim⟩
 | n+1=>by
  have ih:=oH F Z CB r R N M n;have u:Has P w K mg base "in_order" (n+2) ["spots"] (yf K n):=⟨f,fd,ih,R,N,M⟩;rw[show n+1+2=n+2+1 from by lia]
  specialize qp
  ·obtain⟨a,xs,rfl,_⟩:=h;rfl
  obtain⟨a,xs,rfl,z,ok,hl,hl5,q⟩:=h;have c:=hr;have x:yn 2 _:=hr.mono (Nat.le_add_left _ _)
  refine'⟨_,(zB (xL ?_ (zE (zN ?_)) zV)
   (zB (zQ 1 qp.nd ?_)
   (zE (zN (xI r x rfl (zD (xI u c rfl ?_) (zD (xI u c rfl ?_) zL))))))),?_⟩
  nofun
  have big:∀ n:Nat,n<=5000->n<sizeLine:=λn hn=>Am hn 'a';exists _,U,a,_,U,.inl z,_,_,U,U,_,rfl;erw[ifD (λo=>?_) (λo=>?_)]
  ·have d:((yV xs).length:Int)<2:=o;rw[yO] at d;refine⟨_,U,a,_,U,.inl z,λl y=>?_⟩;refine q l _ (zC y _) y ?_;rw[zA];have e:vt n xs=xs:=by
    cases n with
    | zero=>rfl
    | succ m=>rwa[y6 (by lia)]
   rw[e]
  ·have d:¬ ((yV xs).length:Int)<2:=o;rw[yO] at d;cases n with
   | zero=>exact y9 hl (by show ¬ xs.length<=1; lia)
   | succ m =>
    exists _,U,a,_,U,.inl z,_,_,U,U,pH.of 'a' 'm';have g:((yV xs).length:Int)/2=((xs.length/2:Nat):Int):=by rw[yO]; rfl
    have e1:xf (yV xs) J2 (O (((yV xs).length:Int)/2))=yV (xs.take (xs.length/2)):=by
     rw[g];unfold xf;rw[HT.sIx_nat,yO,show HT.sIx xs.length 0 J2=0 from rfl,Gx,show min (xs.length/2) xs.length-0=xs.length/2 by lia];unfold yV;rw[DA]
    have e2:xf (yV xs) (O (((yV xs).length:Int)/2)) J2=yV (xs.drop (xs.length/2)):=by
     rw[g];unfold xf;rw[HT.sIx_nat,yO,show min (xs.length/2) xs.length=xs.length/2 by lia,show HT.sIx xs.length xs.length J2=xs.length from rfl,Au (by rw[Ai,yO]; lia)];unfold yV;rw[Eg]
    have p2:2^(m+1)=2*2^m:=by rw[Hh,Ju]
    erw[_,rfl,_,rfl,_,rfl,a,_,rfl,z,λc1 G=>?_];have v:=zC G (.lst (xf (yV xs) J2 (O (((yV xs).length:Int)/2))));erw[c1,xs.take (xs.length/2),rfl,SqL.of (by rw[zA,e1]),λt j=>(ok t (BP j)).same v,by rw[m8]; lia,by rw[m8]; lia,λr1 H1 Y hr1 J=>?_];have C:=v.trans Y;erw[_,rfl,_,rfl,_,rfl,a,_,rfl,C.seq z,λc2 D=>?_];have i:=zC D (.lst (xf (yV xs) (O (((yV xs).length:Int)/2)) J2));erw[c2,xs.drop (xs.length/2),rfl,SqL.of (by rw[zA,e2]),λt j=>(ok t (AM j)).same (C.trans i),by rw[Ai]; lia,by rw[Ai]; lia,λr2 H2 L hr2 I=>?_];have B:=C.trans (i.trans L);have T:=vV m (xs.take (xs.length/2));have S:=vV m (xs.drop (xs.length/2));erw[r1,r2,vt m (xs.take (xs.length/2)),vt m (xs.drop (xs.length/2)),rfl,L _ _ (i _ _ J),I,λt j=>(ok t (BP (T.mem_iff.mp j))).same B,λt j=>(ok t (AM (S.mem_iff.mp j))).same B,by rw[T.length_eq,S.length_eq,m8,Ai]; lia,λp H3 X hp e3=>?_];erw[q p H3 (B.trans X) (B.free hp) ?_];rw[e3];have e:vt (m+1) xs=xJ (vt m (xs.take (xs.length/2))) (vt m (xs.drop (xs.length/2))):=y4 (by lia);rw[e]
def hJ(F:Fun K "in_order" "in_order" tY f fd)(Z:Zs mg)(h:Cb P w mg base)(c:Has P w K mg base "merged" 2 ["ones","others"] (uq K))(g:qf K fd ["spots"] [])(e:AJ K (.ref f)=J3)(d:mg "in_order" = O (.ref f)):yR P w K mg base CX0 15 f fd ["spots"] (pj K):=oH F Z h c g e d 13
def Pf(K:c5):Sp:=λj H Q _=>E8 λ(a b:c7) (g e:List V) (d c i h:Int)=>A10 (j=[.ref a,.ref b]) (Sq K H a g) (Sq K H b e) (atI g 0=O (.int d)) (atI g 1=O (.int c)) (atI e 0=O (.int i)) (atI e 1=O (.int h)) (d.natAbs<=10^18) (c.natAbs<=10^18) (Q (.int (d*h-c*i)) H)
def qC(K:c5):Sp:=Pf K
def Xl(F:Fun K "turn" "turn" mh f fd)(Z:Zs mg)(v:Cb P w mg base)  : yR P w K mg base CX0 1 f fd 'y' (qC K):=by
 specialize Xz
 ·obtain⟨a,b,n,l,g,d,e,c,rfl,_⟩:=h;rfl
 obtain⟨a,b,n,l,g,d,e,c,rfl,j,i,p,o,m,w1,u,r,q⟩:=h
 refine'⟨_,(zE (zN ?_)),?_⟩
 nofun
 exact⟨_,U,a,_,_,.int g,U,U,j,p,_,U,b,_,_,.int c,U,U,i,w1,_,_,U,U,xu (by lia),
  _,rfl,a,_,_,.int d,rfl,rfl,j,o,_,rfl,b,_,_,.int e,rfl,rfl,i,m,_,_,rfl,rfl,xu (by lia),_,_,rfl,rfl,q⟩
def jD(K:c5):Sp:=λj H Q _=>E8 λ(a b:c7) (g e:List V) (d c i h:Int)=>A10 (j=[.ref a,.ref b]) (Sq K H a g) (Sq K H b e) (atI g 0=O (.int d)) (atI g 1=O (.int c)) (atI e 0=O (.int i)) (atI e 1=O (.int h)) (d.natAbs<=10^18) (c.natAbs<=10^18) (Q (.int (d*i+c*h)) H)
def Yr(F:Fun K "along" "along" tz f fd)(Z:Zs mg)(v:Cb P w mg base)  : yR P w K mg base CX0 1 f fd 'y' (jD K):=by
 specialize ZY
 ·obtain⟨a,b,n,l,g,d,e,c,rfl,_⟩:=h;rfl
 obtain⟨a,b,n,l,g,d,e,c,rfl,j,i,p,o,m,w1,u,r,q⟩:=h
 refine'⟨_,(zE (zN ?_)),?_⟩
 nofun
 exact⟨_,U,a,_,_,.int g,U,U,j,p,_,U,b,_,_,.int e,U,U,i,m,_,_,U,U,xu (by lia),
  _,rfl,a,_,_,.int d,rfl,rfl,j,o,_,rfl,b,_,_,.int c,rfl,rfl,i,w1,_,_,rfl,rfl,xu (by lia),_,_,rfl,rfl,q⟩
def rV(K:c5):Sp:=rX K
def mV(F:Fun K "plain_side" "plain_side" tL f fd)(Z:Zs mg)(d:Cb P w mg base)(c:Has P w K mg base "lowest" 2 ["numbers"] (rX K)):yR P w K mg base CX0 3 f fd ["side"] (rV K):=by
 specialize mW
 ·obtain⟨a,ns,rfl,_⟩:=h;rfl
 obtain⟨a,ns,rfl,h1,h2,h3,h4,h5⟩:=h;rwa[_,(zE (zN (xI c 'e' rfl (zD (pv 0) zL)))),⟨_,rfl,a,ns,rfl,h1,h2,h3,h4,h5⟩]
def Tn(K:c5)(R:Int->Int->Int->Int->Int->Int->Hp->VK->Prop):Sp:=λc H Q _=>E8 λ(a b:c7) (A B C x y z:Int)=>A7 (c=[.ref a,.ref b]) (Sq K H a [.int A,.int B,.int C]) (Sq K H b [.int x,.int y,.int z]) (A.natAbs<=10^18) (B.natAbs<=10^18) (C.natAbs<=10^18) (R A B C x y z H Q)
def lh(K:c5):Sp:=Tn K λA B C x y z H Q=>Q (.int (A*x+B*y-C*z)) H
def cT(F:Fun K "beyond" "beyond" vx f fd)(Z:Zs mg)(l:Cb P w mg base)  : yR P w K mg base CX0 1 f fd ["side","spot"] (lh K):=by
 specialize cO
 ·obtain⟨a,b,A,B,C,x,y,z,rfl,_⟩:=h;rfl
 obtain⟨a,b,e,B,C,x,y,z,rfl,d,c,j,i,g,q⟩:=h
 refine'⟨_,(zE (zN ?_)),?_⟩
 nofun
 rwa[_,rfl,a,_,_,.int e,rfl,rfl,d,rfl,_,rfl,b,_,_,.int x,rfl,rfl,c,rfl,_,_,rfl,rfl,xu (by lia),_,rfl,a,_,_,.int B,rfl,rfl,d,rfl,_,rfl,b,_,_,.int y,rfl,rfl,c,rfl,_,_,rfl,rfl,xu (by lia),_,_,rfl,rfl,_,rfl,a,_,_,.int C,rfl,rfl,d,rfl,_,rfl,b,_,_,.int z,rfl,rfl,c,rfl,_,_,rfl,rfl,xu (by lia),_,_,rfl,rfl,q]
def pO(K:c5):Sp:=Tn K λA B C x y z H Q=>Q (.bl (decide (A*x+B*y-C*z<=0))) H
def Yn(F:Fun K "holds" "holds" sg f fd)(Z:Zs mg)(m:Cb P w mg base)(c:Has P w K mg base "beyond" 1 ["side","spot"] (lh K)):yR P w K mg base CX0 2 f fd ["side","spot"] (pO K):=by
 specialize Yz
 ·obtain⟨a,b,A,B,C,x,y,z,rfl,_⟩:=h;rfl
 obtain⟨a,b,l,B,C,x,y,z,rfl,j,i,g,e,d,q⟩:=h
 refine'⟨_,(zE (zN ?_)),?_⟩
 nofun
 rwa[_,rfl,_,rfl,a,b,l,B,C,x,y,z,rfl,j,i,g,e,d,_,_,rfl,rfl,q]
def rA(K:c5):Sp:=λl H Q _=>E8 λ(a b:c7) (g d h e c j:Int)=>A10 (l=[.ref a,.ref b]) (Sq K H a [.int g,.int d,.int h]) (Sq K H b [.int e,.int c,.int j]) (g.natAbs<=10^18) (d.natAbs<=10^18) (h.natAbs<=10^18) (e.natAbs<=10^18) (c.natAbs<=10^18) (g*c-d*e=0->Q .non H) (g*c-d*e≠0->∀(p:c7)(i:Hp),Same H i->H p=J2->i p=O (.tup ((wc (upL (h*c-d*j) (g*j-h*e) (g*c-d*e))).map V.int))->Q (.ref p) i)
def gw(F:Fun K "crossing" "crossing" qW f fd)(Z:Zs mg)(T:Cb P w mg base)(z:Has P w K mg base "upright" 3 ["numbers"] (xg K))(y:Has P w K mg base "turn" 1 'y' (qC K)):yR P w K mg base CX0 4 f fd 'y' (rA K):=by
 specialize sY
 ·obtain⟨a,b,g,d,m,e,c,l,rfl,_⟩:=h;rfl
 obtain⟨a,b,g,d,m,e,c,l,rfl,j,i,v,u,S,G,D,C,q⟩:=h
 refine'⟨_,(zB (zQ 2 sY.nd ?_)
   (zB (xL ?_ (zE (zN ff)) zV)
   (zB (zQ 3 sY.nd ?_)
   (zB (zQ 4 sY.nd ?_)
   (zE (zN ?_)))))),?_⟩
 nofun
 exists _,U,_,U,a,b,_,_,g,d,e,c,U,j,i,U,U,U,U,v,u;exists _,U,U,_,rfl;erw[ifE (λn=>C n) (λn=>?_)];have N:=zW g c v D;have M:=zW d e u G;have R:(10:Nat)^18*10^18=10^36:=by decide
 have L:(10:Nat)^36+10^36<=10^40:=by decide
 exists _,U,a,_,_,.int m,U,U,j,U,_,U,b,_,_,.int c,U,U,i,U,_,_,U,U,xu (by lia),_,U,a,_,_,.int d,U,U,j,U,_,U,b,_,_,.int l,U,U,i,U,_,_,U,U,xu (by lia),_,_,U,rfl;exists _,U,a,_,_,.int g,U,U,j,U,_,U,b,_,_,.int l,U,U,i,U,_,_,U,U,xu (by lia),_,U,a,_,_,.int m,U,U,j,U,_,U,b,_,_,.int e,U,U,i,U,_,_,U,U,xu (by lia),_,_,U,rfl;refine⟨_,U,_,U,_,U,sz3,λp x=>⟨p,[m*c-d*l,g*l-m*e,g*c-d*e],g*c-d*e,U,.inr (SqT.of zA),by show 3<=1000; decide,rfl,by simp,n,Op (by lia),λr J B o I=>?_⟩⟩;rwa[q n r J ((zC x _).trans B) ((zC x _).free o) I]
def lW(K:c5):Sp:=λd H Q _=>E6 λ(a:c7) (A B C x y:Int)=>A5 (d=[.ref a,.int x,.int y]) (Sq K H a [.int A,.int B,.int C]) (A.natAbs<=10^18) (B.natAbs<=10^18) (∀(p:c7)(c:Hp),Same H c->H p=J2->c p=O (.tup [.int A,.int B,.int (C+A*x+B*y)])->Q (.ref p) c)
def bI(F:Fun K "pushed" "pushed" wn f fd)(Z:Zs mg)(j:Cb P w mg base)  : yR P w K mg base CX0 1 f fd ["side","x","y"] (lW K):=by
 specialize bN
 ·obtain⟨a,A,B,C,x,y,rfl,_⟩:=h;rfl
 obtain⟨a,e,B,C,x,y,rfl,c,i,g,q⟩:=h
 refine'⟨_,(zE (zN ?_)),?_⟩
 nofun
 refine⟨_,U,a,_,_,.int e,U,U,c,U,_,U,a,_,_,.int B,U,U,c,U,_,U,a,_,_,.int C,U,U,c,U,_,U,a,_,_,.int e,U,U,c,U,_,U,_,_,U,U,.inl ⟨by lia,by lia⟩,_,_,U,U,
  _,rfl,a,_,_,.int B,rfl,rfl,c,rfl,_,rfl,_,_,rfl,rfl,.inl ⟨by lia,by lia⟩,_,_,rfl,rfl,sz3,λp d=>?_⟩
 rwa[q p _ (zC d _) d zA]
def Xm{D0 D1 D2:Int}(n:D0≠0\/D1≠0)(e:D0.natAbs<=10^9)(d:D1.natAbs<=10^9):0<xY [D0,D1,D2]/\(xY [D0,D1,D2]:Int)<=10^9/\(xY [D0,D1,D2]:Int)<10^600:=by
 have c:0<xY [D0,D1,D2]:=by
  rcases n with n | n
  ·rwa[sV (n:=D0) 'd' n]
  ·rwa[sV (n:=D1) 'd' n]
 have z:(xY [D0,D1,D2]:Int)<=10^9:=by
  rcases n with n | n
  ·have:=mL (ns:=[D0,D1,D2]) (n:=D0) 'd' n;lia
  ·have:=mL (ns:=[D0,D1,D2]) (n:=D1) 'd' n;lia
 rwa[c,z,G6 z 'm']
def qL(K:c5):Sp:=λj H Q _=>E9 λ(m a b:c7) (i M1 h g e d:Int)=>A13 (j=[.ref m,.ref a,.ref b]) (SqT K H m [.int i,.int M1]) (SqT K H a [.int h,.int g]) (SqT K H b [.int e,.int d]) (i.natAbs<=10^6) (M1.natAbs<=10^6) (h.natAbs<=10^6) (g.natAbs<=10^6) (e.natAbs<=10^6) (d.natAbs<=10^6) (h≠0\/g≠0) (e≠0\/d≠0) (∀(l p q:c7)(c:Hp),Same H c->c l=O (.lst [.ref p,.ref q])->c p=O (.tup ((wc [-g,h,h*M1-g*i]).map V.int))->c q=O (.tup ((wc [d,-e,i*d-M1*e]).map V.int))->Q (.ref l) c)
def qm(F:Fun K "bearing_sides" "bearing_sides" wS f fd)(Z:Zs mg)(CB:Cb P w mg base)(I:Has P w K mg base "plain_side" 3 ["side"] (rV K))(G:Has P w K mg base "turn" 1 'y' (qC K)):yR P w K mg base CX0 4 f fd ["place","one","other"] (qL K):=by
 specialize vA
 ·obtain⟨m,a,b,c,M1,i,g,e,d,rfl,_⟩:=h;rfl
 obtain⟨m,a,b,c,M1,i,g,e,d,rfl,D,x,N,m1,m2,m3,m4,m5,m6,nA,nB,q⟩:=h
 refine'⟨_,(zB (zQ 3 vA.nd ?_)
   (zB (zQ 4 vA.nd ?_)
   (zE (zN ?_)))),?_⟩
 nofun
 obtain⟨X,_,T⟩:=Xm (D0:=-g) (D1:=i) (D2:=i*M1-g*c) (by lia) (by lia) (by lia);obtain⟨S,_,R⟩:=Xm (D0:=d) (D1:=-e) (D2:=c*d-M1*e) (by lia) (by lia) (by lia);erw[_,rfl,a,_,_,.int g,rfl,rfl,.inr x,rfl,_,rfl,_,rfl,a,_,_,.int i,rfl,rfl,.inr x,rfl,_,rfl,_,rfl,a,m,_,_,i,g,c,M1,rfl,.inr x,.inr D,rfl,rfl,rfl,rfl,by lia,by lia,sz3,λL u=>?_];have o:=zC u (.tup [.int (-g),.int i,.int (i*M1-g*c)]);have j:=SqT.same N o;have v:=SqT.same D o;erw[_,rfl,b,_,_,.int d,rfl,rfl,.inr j,rfl,_,rfl,b,_,_,.int e,rfl,rfl,.inr j,rfl,_,rfl,_,rfl,_,rfl,m,b,_,_,c,M1,e,d,rfl,.inr v,.inr j,rfl,rfl,rfl,rfl,by lia,by lia,sz3,λJ r=>?_];have B:=zC r (.tup [.int d,.int (-e),.int (c*d-M1*e)]);refine⟨_,U,L,[-g,i,i*M1-g*c],U,.inr (SqT.of (B _ _ zA)),by show 3<=1000; decide,X,T,λp H3 z hp e3=>?_⟩;refine⟨_,U,J,[d,-e,c*d-M1*e],U,.inr (SqT.of (z _ _ zA)),by show 3<=1000; decide,S,R,λC H4 y hq Y=>?_⟩;erw[sz2,λl M=>?_];have n:=zC M (.lst [.ref p,.ref C]);rwa[q l p C _ (o.trans (B.trans (z.trans (y.trans n)))) zA (n _ _ (y _ _ e3)) (n _ _ Y)]
def yh(K:c5):Sp:=λi H Q _=>E6 λ(a b:c7) (g e d c:Int)=>A9 (i=[.ref a,.ref b]) (Sq K H a [.int g,.int e]) (Sq K H b [.int d,.int c]) (g.natAbs<=10^6) (e.natAbs<=10^6) (d.natAbs<=10^6) (c.natAbs<=10^6) (e-c≠0\/d-g≠0) (∀(p:c7)(h:Hp),Same H h->H p=J2->h p=O (.tup ((wc [e-c,d-g,d*e-c*g]).map V.int))->Q (.ref p) h)
def kL(F:Fun K "range_side" "range_side" tK f fd)(Z:Zs mg)(J:Cb P w mg base)(o:Has P w K mg base "plain_side" 3 ["side"] (rV K))(m:Has P w K mg base "turn" 1 'y' (qC K)):yR P w K mg base CX0 4 f fd ["left","right"] (yh K):=by
 specialize lK
 ·obtain⟨a,b,g,e,d,c,rfl,_⟩:=h;rfl
 obtain⟨a,b,g,e,d,c,rfl,j,i,I,G,D,C,n,q⟩:=h
 refine'⟨_,(zE (zN ?_)),?_⟩
 nofun
 have v:0<xY [e-c,d-g,d*e-c*g]:=by
  rcases n with n | n
  ·rwa[sV (n:=e-c) 'd' n]
  ·rwa[sV (n:=d-g) 'd' n]
 have x:(xY [e-c,d-g,d*e-c*g]:Int)<10^600:=by
  have z:(xY [e-c,d-g,d*e-c*g]:Int)<=10^7:=by
   rcases n with n | n
   ·have:=mL (ns:=[e-c,d-g,d*e-c*g]) (n:=e-c) 'd' n;lia
   ·have:=mL (ns:=[e-c,d-g,d*e-c*g]) (n:=d-g) 'd' n;lia
  rwa[G6 z 'm']
 refine⟨_,U,a,_,_,.int e,U,U,j,U,_,U,b,_,_,.int c,U,U,i,U,_,_,U,U,_,U,b,_,_,.int d,U,U,i,U,_,U,a,_,_,.int g,U,U,j,U,_,_,U,U,_,U,_,U,b,a,_,_,d,c,g,e,U,i,j,U,U,U,U,by lia,by lia,sz3,λt l =>
  ⟨t,[e-c,d-g,d*e-c*g],rfl,.inr (SqT.of zA),by show 3<=1000; decide,v,x,λp B r u y=>?_⟩⟩
 rwa[q p B ((zC l _).trans r) ((zC l _).free u) y]
def iY(c:List Sd)(p:P3):Bool:=c.all λt=>decide (sv t.2 p<=0)
def iD : iY d p=J3↔inW d p:=by
 unfold iY inW;rw[Aw];rwa[λh t c=>of_decide_eq_true (h t c),λh t c=>y7 (h t c)]
def zc(K:c5):Sp:=λd H Q _=>E4 λ(l p:c7) (c:List Sd) (P:P3)=>A5 (d=[.ref l,.ref p]) (SqL K H l (yM c)) (bE H c) (Sq K H p [.int P.1,.int P.2.1,.int P.2.2]) (Q (.bl (iY c P)) H)
def gM(F:Fun K "in_water" "in_water" qV f fd)(Z:Zs mg)(T:Cb P w mg base)(C:Has P w K mg base "holds" 2 ["side","spot"] (pO K)):yR P w K mg base CX0 3 f fd ["sides","place"] (zc K):=by
 specialize qa
 ·obtain⟨l,p,g,P,rfl,_⟩:=h;rfl
 obtain⟨l,p,g,P,rfl,B,ok,I,q⟩:=h
 refine'⟨_,(zB (xH v8 rfl (xB (pv 0)) (uY 2 qa.nd) (zE (xL ?_ (zE (zN oS)) zV)))
   (zE (zN oS))),?_⟩
 nofun
 refine⟨_,U,l,U,.inl ⟨⟨_,B⟩,xM (K:=K) (a:=l) (xs:=yM g) (λi r u=>A3 (H=u) (∀ j t,j<i->g[j]?=O t->sv t.2 P<=0) (∃ x:Option V,r=[O (.ref l),O (.ref p),x]))
  ⟨rfl,λj t o=>y9 o (Bh _),J2,rfl⟩ (λi r u _ y=>by obtain⟨e,_⟩:=y; rw[<- e]; rwa[B]) ?_ ?_⟩⟩
 ·rintro i v r u hi ⟨rfl,c,x,rfl⟩;obtain⟨t,gt,rfl,J⟩:=pE hi;obtain⟨L,_,S,R,N⟩:=ok t (j4 gt);exists _,U,_,U,t.1,p,t.2.1,t.2.2.1,t.2.2.2,P.1,P.2.1,P.2.2,U,.inr (SqT.of L),I,by lia,by lia,by lia,_,rfl;erw[ifN (λm=>?_) (λn=>?_)]
  ·have e:iY g P=false:=by
    unfold iY;rw[Fm];intro z;rwa[m (of_decide_eq_true (Aw.mp z t (j4 gt)))]
   rw[e] at q;rwa[q]
  ·erw[rfl,λj D o d=>?_,_,rfl];by_cases e:j=i
   ·rw[e,gt] at d;cases d;rwa[n]
   ·rwa[c j D (by lia) d]
 ·rintro r u ⟨rfl,c,x,rfl⟩;have e:iY g P=true:=iD.mpr λt G=>by
   obtain⟨j,o,M⟩:=AU G;rwa[c j t (by rw[yA]; exact o) (by rw[c6 o,M])]
  rw[e] at q;rwa[q]
def cu(K:c5):Sp:=λd H Q _=>E2 λ(a:c7) (t:P3)=>A6 (d=[.ref a]) (Sq K H a [.int t.1,.int t.2.1,.int t.2.2]) (t.1≠0\/t.2.1≠0) (t.1.natAbs<=10^9) (t.2.1.natAbs<=10^9) (∀(p:c7)(c:Hp),Same H c->H p=J2->c p=O (.tup ((ftL t).map V.int))->Q (.ref p) c)
def WC(F:Fun K "foot" "foot" nM f fd)(Z:Zs mg)(v:Cb P w mg base)(g:Has P w K mg base "spot" 4 ["x","y","w"] (mU K))(i:Has P w K mg base "along" 1 'y' (jD K)):yR P w K mg base CX0 5 f fd ["side"] (cu K):=by
 specialize XF
 ·obtain⟨a,t,rfl,_⟩:=h;rfl
 obtain⟨a,t,rfl,c,m,e,d,q⟩:=h
 refine'⟨_,(zE (zN ?_)),?_⟩
 nofun
 have pos:=fA m;have u:=zW t.1 t.1 e e;have r:=zW t.2.1 t.2.1 d d;refine⟨_,U,a,_,_,.int t.1,U,U,c,U,_,U,a,_,_,.int t.2.2,U,U,c,U,_,_,U,U,xu (by lia),
  _,rfl,a,_,_,.int t.2.1,rfl,rfl,c,rfl,_,rfl,a,_,_,.int t.2.2,rfl,rfl,c,rfl,_,_,rfl,rfl,xu (by lia),
  _,rfl,_,rfl,a,a,_,_,t.1,t.2.1,t.1,t.2.1,rfl,c,c,rfl,rfl,rfl,rfl,by lia,by lia,
  t.1*t.2.2,t.2.1*t.2.2,t.1*t.1+t.2.1*t.2.1,rfl,by lia,Am (show(t.1*t.1+t.2.1*t.2.1).natAbs<=10^40 by lia) 'm',λp o j l n=>q p o j l n⟩
def YD:Option Nat->V
 | none=>.non
 | some j=>.int j
def nW{c:List Sd}{i:Nat}{t u:Sd}(gt:c[i]?=O t)(d:u∈c.take (i+1)):u∈c.take i\/u=t:=by
 rw[wM gt] at d;rcases j5.mp d with h | h
 ·rwa[.inl h]
 ·rwa[.inr (g6.mp h)]
def ak{c:List Sd}{i j:Nat}(h:(c.take i)[j]?=O t):(c.take (i+1))[j]?=O t:=by
 rw[CW] at h ⊢;split at h
 ·rw[y6 (by lia)];rwa[h]
 ·cases h
def fT(c:List Sd)(e:P3)(h:Int)(H:Hp)(x y:V):Prop:=(x=.non/\y=.non/\bT c e h J2)\/∃(j:Nat)(t:Sd)(p:c7),x=.int j/\y=.ref p/\H p=O (.tup ((crL e t.2).map V.int))/\c[j]?=O t/\0<tn e t.2*h/\∀ u∈c,0<tn e u.2*h->sv u.2 (pt3 (crL e t.2))<=0
def fT.skip{d:List Sd}{h:Int}{H:Hp}{i:Nat}(S:fT (d.take i) e h H x y)(gt:d[i]?=O t)(o:¬ 0<tn e t.2*h):fT (d.take (i+1)) e h H x y:=by
 rcases S with ⟨l,g,S⟩ | ⟨j,u,p,l,g,s,r,n,q⟩
 ·erw[.inl ⟨l,g,λv c=>?_⟩];rcases nW gt c with c | rfl
  ·rwa[S v c]
  ·lia
 ·erw[.inr ⟨j,u,p,l,g,s,ak r,n,λv c m=>?_⟩];rcases nW gt c with c | rfl
  ·rwa[q v c m]
  ·rwa[y9 m o]
def fT.keep{h:Int}{H d:Hp}(S:fT c e h H x y)(s:Same H d):fT c e h d x y:=by
 rcases S with S | ⟨j,u,p,l,i,g,r⟩
 ·rwa[.inl S]
 ·rwa[.inr ⟨j,u,p,l,i,s _ _ g,r⟩]
def uf(K:c5):Sp:=λg H Q _=>E5 λ(l a:c7) (c:List Sd) (e:P3) (h:Int)=>A11 (g=[.ref l,.ref a,.int h]) (SqL K H l (yM c)) (bE H c) (c.length<=1000) (Sq K H a [.int e.1,.int e.2.1,.int e.2.2]) (e.1≠0\/e.2.1≠0) (e.1.natAbs<=10^9) (e.2.1.natAbs<=10^9) (e.2.2.natAbs<=10^13) (h=1\/h = -1) (∀(r:Option Nat)(d:Hp),Same H d->bT c e h r->Q (YD r) d)
def gB(F:Fun K "edge_end" "edge_end" qS f fd)(Z:Zs mg)(CB:Cb P w mg base)(yCq:Has P w K mg base "turn" 1 'y' (qC K))(yCg:Has P w K mg base "holds" 2 ["side","spot"] (pO K))(yBs:Has P w K mg base "crossing" 4 'y' (rA K)):yR P w K mg base CX0 5 f fd ["sides","edge","hand"] (uf K):=by
 specialize xZ
 ·obtain⟨l,a,m,e,h,rfl,_⟩:=h;rfl
 obtain⟨l,a,m,e,hd,rfl,hl,ok,hlen,ha,hn,b1,b2,b3,h1,q⟩:=h;have hh:hd*hd=1:=by rcases h1 with rfl | rfl <;> rfl
 have hN:=fA hn
 refine'⟨_,(zB (zQ 3 xZ.nd ff)
   (zB (zQ 4 xZ.nd ff)
   (zB (xH v8 rfl (xP rfl Z.range ?_) (uY 5 xZ.nd) (zB (zQ 6 xZ.nd ?_)
   (zE (xL ?_ (zB (zQ 3 xZ.nd (pv 5))
   (zE (zQ 4 xZ.nd ?_))) zV))))
   (zE (zN (pv 3)))))),?_⟩
 nofun
 refine⟨_,U,l,_,U,.inl hl,_,U,(by rw[yA]; lia),(by rw[yA]; lia),uC (lo:=0) (n:=(((yM m).length:Nat):Int).toNat) (λi σ g=>Same H g/\E4 λ(x y:V) (u5 u6:Option V)=>fT (m.take i) e hd g x y/\σ=[O (.ref l),O (.ref a),O (.int hd),O x,O y,u5,u6])
  ⟨Same.refl _,.non,.non,J2,J2,.inl ⟨rfl,rfl,λt ht=>nomatch ht⟩,rfl⟩ ?_ ?_⟩
 ·rintro i σ g hi ⟨d,x,y,u5,u6,S,rfl⟩;have hil:i<m.length:=by rw[Br,yA] at hi; rwa[hi]
  obtain⟨t,mt,gt,at'⟩:=lJ (ss:=m) (i:=i) (k:=0+(i:Int)) (by lia) hil;obtain⟨et0,nt,c1,c2,c3⟩:=ok t mt;have et:Sq K g t.1 [.int t.2.1,.int t.2.2.1,.int t.2.2.2]:=.inr (SqT.of (d _ _ et0));have G:=ha.same d;have z1:=zW e.1 t.2.2.1 b1 c2;have z2:=zW e.2.1 t.2.1 b2 c1;exists _,U,_,U,l,_,_,_,U,U,.inl (d.seq hl),at';exists _,U,_,U,a,t.1,_,_,e.1,e.2.1,t.2.1,t.2.2.1,U,G,et,U,U,U,U,by lia,by lia,_,U,_,_,U,U,.inl ⟨by lia,by lia⟩,_,_,U,U,_,rfl;erw[ifD (λR=>?_) (λX=>?_)]
  ·have c:0<tn e t.2*hd:=R;have put:∀(r:Hp)(p:c7),Same g r->r p=O (.tup ((crL e t.2).map V.int))->(∀ u∈m.take i,0<tn e u.2*hd->sv u.2 (pt3 (crL e t.2))<=0)->fT (m.take (i+1)) e hd r (.int (0+(i:Int))) (.ref p):=λr p J Y L=>by
    erw[.inr ⟨i,t,p,by rw[BN],rfl,Y,?_,c,λu o C=>?_⟩]
    ·rw[CW,y6 (by lia)];rwa[gt]
    ·rcases nW gt o with o | rfl
     ·rwa[L u o C]
     ·rwa[Dl (oW (sI c)).2.2]
   rcases S with ⟨rfl,rfl,S⟩ | ⟨j,u,p,rfl,rfl,Y,gu,o,L⟩
   ·exists _,U,U,_,rfl;erw[vf ?_];erw[_,rfl,_,rfl,_,rfl,a,t.1,e.1,e.2.1,e.2.2,t.2.1,t.2.2.1,t.2.2.2,rfl,G,et,by lia,by lia,by lia,by lia,by lia,λz=>y9 z (sI c),λ_ p2 r J hp2 I=>?_];exact⟨d.trans J,_,_,_,_,put r p2 J I λv B C=>by have:=S v B; lia,rfl⟩
   ·obtain⟨N,q1,q2⟩:=oW (sI o);exists _,U,U,_,rfl;erw[zd ?_];have ep3:Sq K g p [.int (pt3 (crL e u.2)).1,.int (pt3 (crL e u.2)).2.1,.int (pt3 (crL e u.2)).2.2]:=.inr (SqT.of (by rw[Y]; rw[N.list]; rfl));exists _,U,_,U,t.1,p,t.2.1,t.2.2.1,t.2.2.2,_,_,_,U,et,ep3,by lia,by lia,by lia,_,rfl;erw[ifN (λT=>?_) (λhin=>?_)]
    ·have D:0<sv t.2 (pt3 (crL e u.2)):=by
      have:¬ sv t.2 (pt3 (crL e u.2))<=0:=T;lia
     erw[_,rfl,_,rfl,_,rfl,a,t.1,e.1,e.2.1,e.2.2,t.2.1,t.2.2.1,t.2.2.2,rfl,G,et,by lia,by lia,by lia,by lia,by lia,λz=>y9 z (sI c),λ_ p2 r J hp2 I=>?_];obtain⟨M,r1,r2⟩:=oW (sI c);have d1:=dl_le hh hN r1 q1 M.pos r2 D c;erw[d.trans J,_,_,_,_,put r p2 J I λv B C=>?_,rfl];erw[sv_on hh hN r1 q1 M.pos N.pos v.2 ?_ (L v B C)];have:=BC (show 0<=-(dl e (pt3 (crL e t.2)) (pt3 (crL e u.2))*hd) by lia) (As C);rw[Dh] at this;lia
    ·erw[d,_,_,_,_,.inr ⟨j,u,p,rfl,rfl,Y,ak gu,o,λv B C=>?_⟩,rfl];rcases nW gt B with B | rfl
     ·rwa[L v B C]
     ·rwa[hin]
  ·erw[zd ?_];rwa[d,x,y,_,_,S.skip gt X,rfl]
 ·rintro σ g ⟨d,x,y,u5,u6,S,rfl⟩;rw[Br,yA,o5] at S;rcases S with ⟨rfl,rfl,S⟩ | ⟨j,u,p,rfl,rfl,Y,gu,o,L⟩
  ·rwa[_,rfl,q J2 g d S]
  ·rwa[_,rfl,q (O j) g d ⟨u,gu,o,L⟩]
structure QZ(ss:List Sd)(e:P3)(qs:List (c7×P3)):Prop where
 each:∀ q∈qs,∃(h:Int)(j:Nat)(t:Sd),h*h=1/\ss[j]?=O t/\0<tn e t.2*h/\(∀ u∈ss,0<tn e u.2*h->sv u.2 (pt3 (crL e t.2))<=0)/\q.2=pt3 (crL e t.2)
 J2:qs=[]->bT ss e 1 J2/\bT ss e (-1) J2
 full:jt ss e 1 (qs.map (·.2))/\jt ss e (-1) (qs.map (·.2))
def vd(K:c5):Sp:=λh H Q _=>E4 λ(l a:c7) (c:List Sd) (e:P3)=>A10 (h=[.ref l,.ref a]) (SqL K H l (yM c)) (bE H c) (c.length<=1000) (Sq K H a [.int e.1,.int e.2.1,.int e.2.2]) (e.1≠0\/e.2.1≠0) (e.1.natAbs<=10^9) (e.2.1.natAbs<=10^9) (e.2.2.natAbs<=10^13) (∀(D:c7)(d:List (c7×P3))(g:Hp),Same H g->H D=J2->g D=O (.lst (rP d))->jq g d->d.length<=2->QZ c e d->Q (.ref D) g)
def ji(F:Fun K "edge_ends" "edge_ends" sW f fd)(Z:Zs mg)(CB:Cb P w mg base)(yBs:Has P w K mg base "crossing" 4 'y' (rA K))(yBo:Has P w K mg base "edge_end" 5 ["sides","edge","hand"] (uf K)):yR P w K mg base CX0 6 f fd ["sides","edge"] (vd K):=by
 specialize vo
 ·obtain⟨l,a,d,e,rfl,_⟩:=h;rfl
 obtain⟨l,a,d,e,rfl,hl,ok,y,ha,hn,b1,b2,b3,q⟩:=h
 refine'⟨_,(zB (zQ 2 vo.nd ?_)
   (zE (zN (xO (T:=["number"]) (caps:=[("edge",1),("sides",0)]) ⟨rfl,by ac_nf,by ac_nf,rfl,⟨⟨rfl,rfl,B9 rfl⟩,⟨rfl,rfl,B9 rfl⟩,z8⟩⟩ rfl (xB (pv 2)) (λ_=>(uY 0 (show(["number","edge","sides"]:List j9).Nodup by ac_nf))) (λ_=>(qy ?_)) (λ_=>?_))))),?_⟩
 nofun
 refine⟨_,U,_,U,_,U,l,a,d,e,-1,U,hl,ok,y,ha,hn,b1,b2,b3,.inr rfl,λG H1 s1 k1=>?_⟩;refine⟨_,U,_,U,l,a,d,e,1,U,s1.seq hl,ok.same s1,y,ha.same s1,hn,b1,b2,b3,.inl rfl,λC H2 s2 k2=>?_⟩;refine⟨sz2,λM hnl=>?_⟩;have S:Same H2 (upd H2 M (.lst [YD G,YD C])):=zC hnl _;have J:upd H2 M (.lst [YD G,YD C]) M=O (.lst [YD G,YD C]):=zA;generalize upd H2 M (.lst [YD G,YD C])=H3 at S J ⊢;have s3:=(s1.trans s2).trans S;have one:∀(i:Nat)(v:V),[YD G,YD C][i]?=O v->(v=.non/\((i=0/\bT d e (-1) J2)\/(i=1/\bT d e 1 J2)))\/∃(j:Nat)(t:Sd)(h:Int),v=.int j/\((i=0/\h = -1)\/(i=1/\h=1))/\h*h=1/\d[j]?=O t/\0<tn e t.2*h/\∀ u∈d,0<tn e u.2*h->sv u.2 (pt3 (crL e t.2))<=0:=λi v hv=>by
  match i,hv with
  | 0,hv =>
   cases hv;cases G with
   | none=>rwa[.inl ⟨rfl,.inl ⟨rfl,k1⟩⟩]
   | some j=>obtain⟨t,g,p,r⟩:=k1; rwa[.inr ⟨j,t,-1,rfl,.inl ⟨rfl,rfl⟩,rfl,g,p,r⟩]
  | 1,hv =>
   cases hv;cases C with
   | none=>rwa[.inl ⟨rfl,.inr ⟨rfl,k2⟩⟩]
   | some j=>obtain⟨t,g,p,r⟩:=k2; rwa[.inr ⟨j,t,1,rfl,.inr ⟨rfl,rfl⟩,rfl,g,p,r⟩]
 refine⟨_,U,M,U,.inl ⟨⟨_,SqL.of J⟩,λc D hD=>ye (K:=K) (a:=M) (xs:=[YD G,YD C]) (λi σ R L=>A4 (Same H3 L) (L D=O (.lst R)) (∃ n:List (c7×P3),A5 (R=rP n) (n.length<=i) (jq L n) (∀ q∈n,∃(h:Int)(j:Nat)(t:Sd),h*h=1/\d[j]?=O t/\0<tn e t.2*h/\(∀ u∈d,0<tn e u.2*h->sv u.2 (pt3 (crL e t.2))<=0)/\q.2=pt3 (crL e t.2)) ((0<i->jt d e (-1) (n.map (·.2)))/\(1<i->jt d e 1 (n.map (·.2))))) (∃ u0:Option V,σ=[u0,O (.ref a),O (.ref l)]))
  ⟨zC hD _,zA,⟨[],rfl,f7 _,(λt ht=>nomatch ht),(λt ht=>nomatch ht),⟨λz=>y9 z (Bh _),λz=>y9 z (Bh _)⟩⟩,J2,rfl⟩ (λi σ R L _ hq'=>by obtain⟨e1,e2,_⟩:=hq'; rwa[SqL.of (e1 _ _ J),e2]) ?_ ?_⟩⟩
 ·rintro i v σ R L hi ⟨X,N,⟨n,rfl,hq,x,each,non⟩,u0,rfl⟩;have hi2:i<2:=(e8.mp hi).1;rcases one i v hi with ⟨rfl,I⟩ | ⟨j,t,h,rfl,hih,hh,gt,hp,hb⟩
  ·exists _,U,U,_,rfl;erw[zd ?_];erw[X,N,⟨n,rfl,by lia,x,each,?_⟩,_,rfl];rcases I with ⟨rfl,k⟩ | ⟨rfl,k⟩
   ·rwa[λ_=>.inl k,λz'=>y9 z' 'a']
   ·rwa[λ_=>non.1 'a',λ_=>.inl k]
  ·exists _,U,U,_,rfl;refine vf ?_;have hj:j<d.length:=(e8.mp gt).1;obtain⟨t',mt,gt',at'⟩:=lJ (ss:=d) (i:=j) (k:=(j:Int)) rfl hj;rw[gt] at gt';cases gt';obtain⟨et0,_,c1,c2,c3⟩:=ok t mt;have B:=s3.trans X;refine⟨_,U,_,U,_,U,l,_,_,_,U,U,.inl (B.seq hl),at',a,t.1,e.1,e.2.1,e.2.2,t.2.1,t.2.2.1,t.2.2.2,U,ha.same B,.inr (SqT.of (B _ _ et0)),by lia,by lia,by lia,by lia,by lia,λz=>y9 z (sI hp),λ_ p H5 Y hp5 ep5=>?_⟩;obtain⟨sp,_,_⟩:=oW (sI hp);have ep5':H5 p=O (.tup [.int (pt3 (crL e t.2)).1,.int (pt3 (crL e t.2)).2.1,.int (pt3 (crL e t.2)).2.2]):=by
    have z:H5 p=O (.tup ((crL e t.2).map V.int)):=ep5;rw[z,sp.list];rfl
   have npD:p≠D:=λz=>by rw[z,N] at hp5; cases hp5
   refine⟨Y _ _ N,zM (by simp only[b9]; lia),(X.trans Y).putNew hD,zA,⟨n++[(p,pt3 (crL e t.2))],by simp[rP],by rw[f9]; show n.length+1<=i+1; lia,λu o=>?_,λu o=>?_,?_⟩,_,rfl⟩
   ·rcases j5.mp o with o | o
    ·obtain⟨g1,g2⟩:=x u o;rwa[by rw[zG (vq (Y _ _ g1) (Y _ _ N) 'z')]; exact Y _ _ g1,g2]
    ·rw[g6] at o;subst o;erw[?_,sp.pos,sp.low];show upd H5 D _ p=_;rw[zG npD];rwa[ep5']
   ·rcases j5.mp o with o | o
    ·rwa[each u o]
    ·rw[g6] at o;subst o;rwa[h,j,t,hh,gt,hp,hb,rfl]
   ·have me:jt d e h ((n++[(p,pt3 (crL e t.2))]).map (·.2)):=.inr ⟨j,t,gt,hp,hb,by rw[f8]; rwa[t5 _ (g6.mpr rfl)]⟩;rcases hih with ⟨rfl,rfl⟩ | ⟨rfl,rfl⟩
    ·rwa[λ_=>me,λz'=>y9 z' 'a']
    ·rwa[λ_=>by rw[f8]; exact(non.1 'a').app,λ_=>me]
 ·rintro σ R L ⟨X,N,⟨n,rfl,hq,x,each,non⟩,u0,rfl⟩;have f1:=non.2 (by show 1<2; decide);have f2:=non.1 (by show 0<2; decide);erw[q D n L (s3.trans X) (s3.free hD) N x hq ⟨each,λz=>?_,f1,f2⟩];rw[z] at f1 f2;erw[?_,?_]
  ·rcases f1 with f | ⟨_,_,_,_,_,m⟩
   ·rwa[f]
   ·exact nomatch m
  ·rcases f2 with f | ⟨_,_,_,_,_,m⟩
   ·rwa[f]
   ·exact nomatch m
def sdN(p:c7)(P:P3):SpT:=(p,P.1,P.2.1,P.2.2)
structure CoK(ss:List Sd)(n:Nat)(ks:List (List Int)):Prop where
 each:∀ k∈ks,∃ P:P3,Cor ss P/\k=[P.1,P.2.1,P.2.2]
 all:∀(a:Nat)(t:Sd),a<n->ss[a]?=O t->∀ u∈ss,tn t.2 u.2≠0->inW ss (pt3 (crL t.2 u.2))->crL t.2 u.2∈ks
structure rM(H:Hp)(D:c7)(ss:List Sd)(ps:List SpT):Prop where
 at':H D=O (.lst (yV ps))
 ok:∀ t∈ps,YI H t/\0<t.2.2.2/\Af (Af t.2.1.natAbs t.2.2.1.natAbs) t.2.2.2.natAbs=1
 nodup:(ps.map (·.2)).Nodup
 mem:∀ P:P3,P∈ps.map (·.2)↔Cor ss P
 rises:ps.Pairwise leS
 few:ps.length<=ss.length
def Sk{P:P3}(c:Cor d P):0<P.2.2/\Af (Af P.1.natAbs P.2.1.natAbs) P.2.2.natAbs=1:=by
 obtain⟨t,_,u,_,h,rfl,_⟩:=c;obtain⟨sp,_,_⟩:=oW h;rwa[sp.pos,sp.low]
def RE{d:List Sd}(L:∀ t∈d,t.2.1≠0\/t.2.2.1≠0){r:List P3}(nd:r.Nodup)(M:∀ P∈r,Cor d P):r.length<=d.length:=by
 have ex:∀ e:Sd,∃ q:P3,e∈d->∀ u∈d,0<tn e.2 u.2*1->inW d (pt3 (crL e.2 u.2))->pt3 (crL e.2 u.2)=q:=λe=>by
  by_cases h:∃ u∈d,0<tn e.2 u.2*1/\inW d (pt3 (crL e.2 u.2))
  ·obtain⟨u,j,D,i⟩:=h;erw[pt3 (crL e.2 u.2),λB v x l s=>?_];have C:=fA (L e B);obtain⟨n,p,J⟩:=oW (sI l);obtain⟨m,o,I⟩:=oW (sI D);have R:=Ux (h:=1) 'a' C p o n.pos J (i v x) l;have Q:=Ux (h:=1) 'a' C o p m.pos I (s u j) D;rw[XN] at Q;obtain⟨H,G⟩:=je C p o (by lia);rwa[kK n.pos m.pos n.low m.low H G]
  ·rwa[(0,0,1),λ_ v x l s=>y9 ⟨v,x,l,s⟩ h]
 have fn:∃ g:Sd->P3,∀ e∈d,∀ u∈d,0<tn e.2 u.2*1->inW d (pt3 (crL e.2 u.2))->pt3 (crL e.2 u.2)=g e:=⟨λe=>Hv (ex e),λe B=>Gj (ex e) B⟩;obtain⟨g,E⟩:=fn;have z:=Zo (ys:=d.map g) nd λP N=>by
  obtain⟨t,A,u,j,h0,rfl,i⟩:=M P N;by_cases c:0<tn t.2 u.2
  ·rw[E t A u j (by lia) i];rwa[Az A]
  ·have y:0<tn u.2 t.2*1:=by
    unfold tn at c h0 ⊢;rw[z9 u.2.1,z9 u.2.2.1];lia
   rw[XE h0] at i ⊢;rw[E u j t A y i];rwa[Az j]
 (rw[b9] at z;assumption)
def key3{P Q:P3}(h:[P.1,P.2.1,P.2.2]=[Q.1,Q.2.1,Q.2.2]):P=Q:=by
 injection h with h1 h
 injection h with h2 h
 injection h with h3 _
 rwa[DU h1 (DU h2 h3)]
def Qe{ss:List Sd}{t u:Sd}(h:tn t.2 u.2≠0):crL t.2 u.2=[(pt3 (crL t.2 u.2)).1,(pt3 (crL t.2 u.2)).2.1,(pt3 (crL t.2 u.2)).2.2]:=(oW h).1.list
def oO(K:c5):Sp:=λe H Q _=>E2 λ(l:c7) (c:List Sd)=>A5 (e=[.ref l]) (SqL K H l (yM c)) (bE H c) (c.length<=63) (∀(D:c7)(g:List SpT)(d:Hp),Same H d->H D=J2->rM d D c g->Q (.ref D) d)
def dZ(F:Fun K "corners" "corners" yu f fd)(Z:Zs mg)(CB:Cb P w mg base)(yBp:Has P w K mg base "in_order" 15 ["spots"] (pj K))(yBn:Has P w K mg base "edge_ends" 6 ["sides","edge"] (vd K))(yBq:Has P w K mg base "in_water" 3 ["sides","place"] (zc K)):yR P w K mg base CX0 16 f fd ["sides"] (oO K):=by
 specialize qO
 ·obtain⟨l,G,rfl,_⟩:=h;rfl
 obtain⟨l,G,rfl,hl,ok,hlen,q⟩:=h;have hu1:=Am (Du (show 1<=64 by decide) _) hr.units;have big:∀ n:Nat,n<=1000000->n<sizeLine:=λn hn=>Am hn 'a'
 refine'⟨_,(zB (zQ 1 qO.nd gr)
   (zB (xH v8 rfl (xB (pv 0)) (uY 2 qO.nd) (zE (xH v8 rfl (xB ?_) (uY 3 qO.nd) (zE (xL ?_ (zE (qY (yH hr) (pv 1) (pv 3) oS rfl)) zV)))))
   (zE (zN (xI yBp 'e' rfl (zD (tV (og rfl) rfl Z.list pU (zD (pv 1) zL)) zL)))))),?_⟩
 nofun
 refine λd hd=>?_;refine⟨_,U,l,U,.inl ⟨⟨_,(zC hd _).seq hl⟩,xM (K:=K) (a:=l) (xs:=yM G) (λi X o=>A3 (Same H o) (E2 λc g=>A4 (o d=O (.dT c)) (cD c g) (g.length<=2*i) (CoK G i g)) (E2 λ(u2 u3:Option V)=>X=[O (.ref l),O (.ref d),u2,u3]))
  ⟨zC hd _,⟨[],[],zA,.nil,f7 _,(λk hk=>nomatch hk),λa t ha=>y9 ha (Bh _)⟩,J2,J2,rfl⟩ (λi X o _ hq'=>by obtain⟨e,_⟩:=hq'; rwa[e.seq hl]) ?_ ?_⟩⟩
 ·rintro i v X o hi ⟨sH,⟨c,g,eD,T,hks,B⟩,u2,u3,rfl⟩;obtain⟨t,gt,rfl,hil⟩:=pE hi;obtain⟨et0,nt,b1,b2,b3⟩:=ok t (j4 gt);have hN:=fA (t:=t.2) nt;erw[_,rfl,_,rfl,l,t.1,G,t.2,rfl,sH.seq hl,ok.same sH,by lia,.inr (SqT.of (sH _ _ et0)),nt,b1,b2,b3,λL qs H2 s2 hL eL okq hq R=>?_];have eD2:=s2 _ _ eD;have nLd:L≠d:=λz=>by rw[z] at eL; rw[eL] at eD2; cases eD2
  refine⟨L,U,.inl ⟨⟨_,SqL.of eL⟩,xM (K:=K) (a:=L) (xs:=rP qs) (λj X o=>A5 (Same H o) (o L=O (.lst (rP qs))) (jq o qs) (E2 λc g=>A5 (o d=O (.dT c)) (cD c g) (g.length<=2*i+j) (CoK G i g) (∀ m x,m<j->qs[m]?=O x->inW G x.2->[x.2.1,x.2.2.1,x.2.2.2]∈g)) (∃ u3:Option V,X=[O (.ref l),O (.ref d),O (.ref t.1),u3]))
   ⟨sH.trans s2,eL,okq,⟨c,g,eD2,T,by lia,B,λm x hm=>y9 hm (Bh _)⟩,_,rfl⟩ (λj X o _ hq'=>by obtain⟨_,e,_⟩:=hq'; rwa[SqL.of e]) ?_ ?_⟩⟩
  ·rintro j v X H4 hj ⟨s4,eL4,I,⟨c,g,S,T,hks4,B,done⟩,u3,rfl⟩;rw[e7,e7] at hj;cases gx:qs[j]? with
   | none=>rw[gx] at hj; cases hj
   | some x =>
    rw[gx] at hj;cases hj;have hj2:j<qs.length:=(e8.mp gx).1;obtain⟨ex,px,lx⟩:=I x (j4 gx);exists _,U,_,U,l,x.1,G,x.2,U,s4.seq hl,ok.same s4,.inr (SqT.of ex),_,rfl;by_cases hw:iY G x.2=J3
    ·rw[hw];refine vf ?_;obtain⟨ks',tk',C,len'⟩:=T.put [x.2.1,x.2.2.1,x.2.2.2] (.bl J3);have kl:=T.len;exists _,U,_,U,d,_,U,cC.t (k:=pi [x.2.1,x.2.2.1,x.2.2.2]) S (by rw[ur]; exact ex) (by rw[kl]; exact big _ (by lia));have keepT:∀(b:c7)(xs:List V),H4 b=O 'q'->upd H4 d (.dT (zz c (pi [x.2.1,x.2.2.1,x.2.2.2]) (.bl J3))) b=O 'q':=λb xs e=>by
      rw[zG (vq e S 'z')];rwa[e]
     erw[s4.putNew hd,by rw[zG nLd]; exact eL4,λy hy=>⟨keepT _ _ (I y hy).1,(I y hy).2⟩,⟨_,ks',zA,tk',by lia,⟨λk hk=>?_,λa t' ha r u M p J=>(C _).mpr (.inl (B.all a t' ha r u M p J))⟩,λm y hm gy hwy=>?_⟩,_,rfl]
     ·rcases (C k).mp hk with h | h
      ·rwa[B.each k h]
      ·obtain⟨hh,j',t',_,r,hp,_,eq⟩:=R.each x (j4 gx);erw[x.2,⟨t,j4 gt,t',j4 r,sI hp,eq,iD.mp hw⟩,h]
     ·by_cases e:m=j
      ·rw[e,gx] at gy;cases gy;exact(C _).mpr (.inr rfl)
      ·exact(C _).mpr (.inl (done m y (by lia) gy hwy))
    ·have hw':iY G x.2=false:=by simpa using hw
     rw[hw'];erw[zd ?_];erw[s4,eL4,I,⟨c,g,S,T,by lia,B,λm y hm gy hwy=>?_⟩,_,rfl];by_cases e:m=j
     ·rw[e,gx] at gy;cases gy;rwa[y9 (iD.mpr hwy) hw]
     ·rwa[done m y (by lia) gy hwy]
  ·rintro X H4 ⟨s4,eL4,I,⟨c,g,S,T,hks4,B,done⟩,u3,rfl⟩;have hq2:(rP qs).length=qs.length:=by simp
   rw[hq2] at hks4 done;erw[s4,⟨c,g,S,T,by lia,B.each,λa t' ha r u M p J=>?_⟩,_,_,rfl];by_cases e:a=i
   ·rw[e,gt] at r;cases r;obtain⟨k,hk1,hkk,hpos⟩:=Ro p;have f:jt G t.2 k (qs.map (·.2)):=by
     rcases hk1 with rfl | rfl
     ·rwa[R.full.1]
     ·rwa[R.full.2]
    have m:=RV hkk hN M hpos J f;obtain⟨y,hy,ey⟩:=i9.mp m;obtain⟨b,hb,eb⟩:=AU hy;have z:=done b y hb (by rw[c6 hb,eb]) (by rw[ey]; rwa[J]);rw[ey] at z;rw[Qe (ss:=G) p];rwa[z]
   ·rwa[B.all a t' (by lia) r u M p J]
 ·rintro X o ⟨sH,⟨c,g,eD,T,hks,B⟩,u2,u3,rfl⟩;rw[yA] at hks B;erw[_,rfl,d,c,rfl,eD,λp1 ts hp1 ets hts=>?_];have Y:Same o (upd o p1 (.lst ((ts.map (·.1)).map V.ref))):=zC hp1 _;have ep1:upd o p1 (.lst ((ts.map (·.1)).map V.ref)) p1=O (.lst ((ts.map (·.1)).map V.ref)):=zA;obtain⟨us,w1,w2,w3⟩:=T.refs ets hts;have w3':∀ u∈us,upd o p1 (.lst ((ts.map (·.1)).map V.ref)) u.1=O (.tup (u.2.map V.int)):=λu M=>Y _ _ (w3 u M);generalize upd o p1 (.lst ((ts.map (·.1)).map V.ref))=H2 at Y ep1 w3' ⊢
  let xs:List SpT:=us.map λu=>(u.1,pt3 u.2)
  have xk:xs.map (·.2)=g.map pt3:=by
   show(us.map λu=>((u.1,pt3 u.2):SpT)).map (·.2)=_;rw[<- w2,x5,x5];rfl
  have xr:yV xs=(ts.map (·.1)).map V.ref:=by
   show(us.map λu=>((u.1,pt3 u.2):SpT)).map (λt=>V.ref t.1)=_;rw[<- w1,x5,x5];rfl
  have xl:xs.length=g.length:=by
   have z:=congrArg Ay w2;rw[b9] at z;show(us.map λu=>((u.1,pt3 u.2):SpT)).length=_;rw[b9];rwa[z]
  have kc:∀ P∈g.map pt3,Cor G P:=λP hP=>by
   obtain⟨k,hk,rfl⟩:=i9.mp hP;obtain⟨P,cP,rfl⟩:=B.each k hk;rwa[cP]
  have knd:(g.map pt3).Nodup:=by
   rw[List.Nodup,BU];erw[FF (λ{k k'} hk hk' hne e=>?_) T.nodup];obtain⟨P,cP,rfl⟩:=B.each k hk;obtain⟨P',cP',rfl⟩:=B.each k' hk';have e':P=P':=e;rwa[hne (by rw[e'])]
  have few:=RE (λt N=>(ok t N).2.1) knd kc;rw[b9] at few;have okx:∀ t∈xs,YI H2 t/\0<t.2.2.2/\Af (Af t.2.1.natAbs t.2.2.1.natAbs) t.2.2.2.natAbs=1:=λt N=>by
   obtain⟨u,M,rfl⟩:=i9.mp N;have huk:u.2∈g:=by rw[<- w2]; rwa[Az M]
   obtain⟨P,cP,eP⟩:=B.each u.2 huk;have e0:=w3' u M;have lw:=Sk cP;obtain⟨a,ha,b,hb,hab,rfl,_⟩:=cP;obtain⟨_,_,x1,x2,x3⟩:=ok a ha;obtain⟨_,_,y1,y2,y3⟩:=ok b hb;obtain⟨z1,z2,z3⟩:=UC hab x1 x2 x3 y1 y2 y3;rw[eP] at e0;have e1:pt3 u.2=pt3 (crL a.2 b.2):=by rw[eP]; rfl
   erw[⟨?_,?_⟩,?_]
   ·show H2 u.1=O (.tup [.int (pt3 u.2).1,.int (pt3 u.2).2.1,.int (pt3 u.2).2.2]);rw[e1];rwa[e0]
   ·show(pt3 u.2).1.natAbs<=10^100/\(pt3 u.2).2.1.natAbs<=10^100/\(pt3 u.2).2.2.natAbs<=10^100;rw[e1];rwa[RA z1,RA z2,RA z3]
   ·show 0<(pt3 u.2).2.2/\Af (Af (pt3 u.2).1.natAbs (pt3 u.2).2.1.natAbs) (pt3 u.2).2.2.natAbs=1;rw[e1];rwa[lw]
  refine⟨p1,xs,U,by rw[xr]; exact SqL.of ep1,λt N=>(okx t N).1,i4 (show xs.length<=63 by lia) 'a',by lia,λD H3 s3 hD eD3=>?_⟩;have pm:=vV 12 xs;have pm2:((vt 12 xs).map (·.2)).Perm (g.map pt3):=by rw[<- xk]; rwa[pm.map _]
  refine q D (vt 12 xs) H3 ((sH.trans Y).trans s3) ((sH.trans Y).free hD) ⟨eD3,λt N=>?_,pm2.nodup_iff.mpr knd,λP=>?_,ow 12 xs (i4 (show xs.length<=63 by lia) 'a') λt N=>(okx t N).2.1,?_⟩
  ·obtain⟨h1,h2⟩:=okx t (pm.mem_iff.mp N);rwa[h1.same s3,h2]
  ·rw[pm2.mem_iff];erw[kc P,λcP=>?_];obtain⟨t,N,u,M,p,rfl,hw⟩:=cP;obtain⟨a,ha,ea⟩:=AU N;rwa[Az (B.all a t ha (by rw[c6 ha,ea]) u M p hw)]
  ·rw[pm.length_eq,xl];rwa[few]
def yj(K:c5):Sp:=λh H Q _=>E6 λ(a b:c7) (g d e c:Int)=>A4 (h=[.ref a,.ref b]) (Sq K H a [.int g,.int d]) (Sq K H b [.int e,.int c]) (∀ p,H p=J2->Q (.ref p) (upd H p (.tup [.int (e-g),.int (c-d)])))
def ny(F:Fun K "stretch_way" "stretch_way" vF f fd)(Z:Zs mg)(m:Cb P w mg base)  : yR P w K mg base CX0 1 f fd ["start","end"] (yj K):=by
 specialize nC
 ·obtain⟨a,b,g,d,e,c,rfl,_⟩:=h;rfl
 obtain⟨a,b,g,d,e,c,rfl,j,i,q⟩:=h
 refine'⟨_,(zE (zN ?_)),?_⟩
 nofun
 exact⟨_,U,b,_,_,.int e,U,U,i,U,_,U,a,_,_,.int g,U,U,j,U,_,_,U,U,
  _,rfl,b,_,_,.int c,rfl,rfl,i,rfl,_,rfl,a,_,_,.int d,rfl,rfl,j,rfl,_,_,rfl,rfl,sz2,λp l=>q p l⟩
def PrQ(K:c5)(H:Hp)(l:c7)(c:List Pr):Prop:=Sq K H l (sT c)/\Qy H (10^8) c
def PrQ.same{K:c5}{H d:Hp}(h:PrQ K H l c)(s:Same H d):PrQ K d l c:=⟨s.sq h.1,h.2.same s⟩
def modI{i n:Nat}{k:Int}(e:k=(i:Int)):k%(n:Int)=((i%n:Nat):Int):=by
 rw[e];exact(HH i n).symm
def yk(K:c5):Sp:=λe H Q _=>E3 λ(l:c7) (c:List Pr) (i:Nat)=>A5 (e=[.ref l,.int (i:Int)]) (PrQ K H l c) (i<c.length) (c.length<=1000) (∀ d,Same H d->Q (.bl (rK c i)) d)
def nE(F:Fun K "all_left_of" "all_left_of" vK f fd)(Z:Zs mg)(CB:Cb P w mg base)(yCq:Has P w K mg base "turn" 1 'y' (qC K))(yAr:Has P w K mg base "stretch_way" 1 ["start","end"] (yj K)):yR P w K mg base CX0 2 f fd ["corners","number"] (yk K):=by
 specialize wA
 ·obtain⟨l,c,i,rfl,_⟩:=h;rfl
 obtain⟨l,c,i,rfl,u,hi,hn,q⟩:=h
 refine'⟨_,(zB (zQ 2 wA.nd ?_)
   (zB (zQ 3 wA.nd ?_)
   (zB (xH v8 rfl (YL rfl Z.range ?_) (uY 4 wA.nd) (zB (zQ 5 wA.nd ?_)
   (zE (xL ?_ (zE (zN oS)) zV))))
   (zE (zN oS))))),?_⟩
 nofun
 obtain⟨g,m0,g0,a0⟩:=kJ (ps:=c) (i:=i) (k:=(i:Int)) rfl hi;have J:(i+1)%c.length<c.length:=Nat.mod_lt _ (by lia);obtain⟨m,m1,g1,a1⟩:=kJ (ps:=c) (i:=(i+1)%c.length) (k:=((i:Int)+1)%(c.length:Int)) (modI (by lia)) J;rw[<- wQ c] at a1;obtain⟨e0,b00,b01⟩:=u.2 g m0;obtain⟨e1,b10,b11⟩:=u.2 m m1;have nl:((sT c).length:Int)=(c.length:Int):=by rw[wQ]
 exists _,U,_,U,l,_,_,_,U,U,u.1,a0;refine⟨_,U,_,U,_,U,_,_,U,U,_,U,l,_,U,u.1,_,_,U,U,(by show(0:Int)<((sT c).length:Int); lia),l,_,_,_,rfl,rfl,u.1,a1,
  g.1,m.1,g.2.1,g.2.2,m.2.1,m.2.2,rfl,.inr (SqT.of e0),.inr (SqT.of e1),λd hd=>?_⟩
 have C:Same H (upd H d (.tup [.int (m.2.1-g.2.1),.int (m.2.2-g.2.2)])):=zC hd _;have ed:upd H d (.tup [.int (m.2.1-g.2.1),.int (m.2.2-g.2.2)]) d=O (.tup [.int (m.2.1-g.2.1),.int (m.2.2-g.2.2)]):=zA;generalize upd H d (.tup [.int (m.2.1-g.2.1),.int (m.2.2-g.2.2)])=H1 at C ed ⊢;exists _,U,l,_,U,(C.sq u.1),2,_,U,⟨(by lia),(by lia),(by lia),(by lia)⟩;refine uC (lo:=2) (n:=(((sT c).length:Int)-2).toNat) (λj D H'=>A3 (Same H1 H') (∀ y<j,YY c i ((i+(2+y))%c.length)=J3) (E2 λ(T S:Option V)=>D=[O (.ref l),O (.int (i:Int)),O (.ref g.1),O (.ref d),T,S]))
  ⟨Same.refl _,λy B=>y9 B (Bh _),J2,J2,rfl⟩ ?_ ?_
 ·rintro j D H' Y ⟨v,o,T,S,rfl⟩;have x:=C.trans v;have L:j<c.length-2:=by lia
  have I:(i+(2+j))%c.length<c.length:=Nat.mod_lt _ (by lia);obtain⟨p,m2,g2,a2⟩:=kJ (ps:=c) (i:=(i+(2+j))%c.length) (k:=((i:Int)+(2+(j:Int)))%(c.length:Int)) (modI (by lia)) I;rw[<- wQ c] at a2;obtain⟨e2,b20,b21⟩:=u.2 p m2;have X:YY c i ((i+(2+j))%c.length)=decide (0<(m.2.1-g.2.1)*(p.2.2-g.2.2)-(m.2.2-g.2.2)*(p.2.1-g.2.1)):=by
   unfold YY;rw[Xh g0,Xh g1,Xh g2];rfl
  exists _,U,_,U,_,U,_,_,U,U,_,U,l,_,U,(x.sq u.1),_,_,U,U,(by show(0:Int)<((sT c).length:Int); lia),l,_,_,_,rfl,rfl,(x.sq u.1),a2;erw[_,rfl,_,rfl,_,rfl,g.1,p.1,g.2.1,g.2.2,p.2.1,p.2.2,rfl,.inr (SqT.of (x _ _ e0)),.inr (SqT.of (x _ _ e2)),λd2 M=>?_];have G:=zC M (.tup [.int (p.2.1-g.2.1),.int (p.2.2-g.2.2)]);exists d,d2,_,_,m.2.1-g.2.1,m.2.2-g.2.2,p.2.1-g.2.1,p.2.2-g.2.2,U,.inr (SqT.of (G _ _ (v _ _ ed))),.inr (SqT.of zA),U,U,U,U,by lia,by lia,_,_,U,U,_,rfl;erw[ifD (λhle=>?_) (λhgt=>?_)]
  ·have N:rK c i=false:=by
    unfold rK;rw[Fm];intro z;have R:=Aw.mp z j (Bt.mpr L);rw[X] at R;have z3:=of_decide_eq_true R;lia
   have r:=q _ (x.trans G);rw[N] at r;rwa[r]
  ·erw[v.trans G,λy B=>?_,_,_,rfl];by_cases e:y=j
   ·rw[e,X];rwa[y7 (by lia)]
   ·rwa[o y (by lia)]
 ·rintro D H2 ⟨v,o,_,_,rfl⟩;have N:rK c i=true:=by
   unfold rK;rw[Aw];intro j Y;exact o j (by have:=Bt.mp Y; lia)
  have r:=q _ (C.trans v);rw[N] at r;rwa[r]
def oM(K:c5):Sp:=λe H Q _=>E2 λ(l:c7) (c:List Pr)=>A4 (e=[.ref l]) (PrQ K H l c) (c.length<=1000) (∀ d,Same H d->Q (.bl (isB c)) d)
def dw(F:Fun K "is_bank" "is_bank" zb f fd)(Z:Zs mg)(S:Cb P w mg base)(I:Has P w K mg base "all_left_of" 2 ["corners","number"] (yk K)):yR P w K mg base CX0 3 f fd ["corners"] (oM K):=by
 specialize eJ
 ·obtain⟨l,d,rfl,_⟩:=h;rfl
 obtain⟨l,d,rfl,x,J,q⟩:=h
 refine'⟨_,(zB (xL ?_ (zE (zN oS)) zV)
   (zE (zN (yP (xw rfl) rfl Z.all fG (zD (xO (T:=["number"]) (caps:=[("corners",0)]) ⟨rfl,by ac_nf,by ac_nf,rfl,⟨⟨rfl,rfl,B9 rfl⟩,z8⟩⟩ rfl (xP rfl Z.range ?_) (λ_=>(uY 0 (show(["number","corners"]:List j9).Nodup by ac_nf))) (λ_=>yX) (λ_=>?_)) zL))))),?_⟩
 nofun
 have M:((sT d).length:Int)=(d.length:Int):=by rw[wQ]
 exists _,U,l,_,U,x.1,_,_,U,U,_,rfl;erw[ifD (λh3=>?_) (λh3=>?_)]
 ·have g:isB d=false:=by unfold isB; rw[y8 (by lia),EJ]
  have r:=q _ (Same.refl _);rw[g] at r;rwa[r]
 exists _,U,l,_,U,x.1,_,_,U,U,_,rfl;erw[ifD (λh8=>?_) (λh8=>?_)]
 ·have g:isB d=false:=by unfold isB; rw[y8 (p:=d.length<=8) (by lia),EJ,Ix]
  have r:=q _ (Same.refl _);rw[g] at r;rwa[r]
 have g:isB d=(Ad d.length).all (rK d):=by unfold isB; rw[y7 (by lia),y7 (by lia),GS,GS]
 refine⟨_,U,l,_,U,x.1,_,U,(by lia),(by lia),λc D G=>?_⟩;refine vb (lo:=0) (n:=(((sT d).length:Nat):Int).toNat) (λj o u m=>A4 (Same H m) (m D=O (.lst u)) (u=((Ad j).map (rK d)).map V.bl) (∃ y:Option V,o=[y,O (.ref l)]))
  ⟨zC G _,zA,rfl,J2,rfl⟩ (λi o L m _ z=>by obtain⟨_,e,_⟩:=z; rwa[e]) ?_ ?_
 ·rintro j o u m N ⟨v,B,rfl,y,rfl⟩;erw[_,rfl,_,rfl,l,d,j,(by rw[BN]; rfl),x.same v,by lia,J,λR C=>⟨C _ _ B,zM (by rw[b9,b9,C9]; lia),(v.trans C).putNew G,zA,?_,_,rfl⟩];rw[DE,f8,f8];rfl
 ·rintro o u m ⟨v,B,rfl,y,rfl⟩;exists D,_,U,SqL.of B;have r:=q _ v;rw[g] at r;have e:((Ad (((sT d).length:Nat):Int).toNat).map (rK d)).all id=(Ad d.length).all (rK d):=by
   rw[Br,wQ,EB];rfl
  rw[e];rwa[r]
def yp(K:c5):Sp:=λe H Q _=>e=[]/\∀(d:c7)(c:Hp),Same H c->H d=J2->aP c d BS.nil->Q (.ref d) c
def nI(F:Fun K "nothing_yet" "nothing_yet" vN f fd)(Z:Zs mg)(J:Cb P w mg base)  : yR P w K mg base CX0 1 f fd [] (yp K):=by
 specialize ni
 ·obtain⟨rfl,_⟩:=h;rfl
 obtain⟨rfl,q⟩:=h
 refine'⟨_,zE ?h,?_⟩
 rotate_left
 with_reducible refine' zN ?_
 rotate_left
 with_reducible exact WR (tG zZ tS (tG zZ tS (tG zZ tS (tG zZ tS (tG zZ wH XH))))) rfl rfl 'n' 'a'
 try dsimp only[L2.cxOf]
 intro p l m v b y r hr n u;have B:=zC l (.dK []);have j:=zC v (.dK []);have i:=zC y (.dK []);have g:=zC hr (.dK []);have d:=zC u (.dK []);have em:=(i.trans (g.trans d)) _ _ zA;have I:=(g.trans d) _ _ zA;have er:=d _ _ zA;have G:=(j.trans (i.trans (g.trans d))) _ _ zA;exists G,[(.inr "marks",.ref m),(.inr "banks",.ref b),(.inr "runs",.ref r),(.inr "notes",.ref n),(.inr "coming",.int 1)],U,(show 5<=15 by decide);rw[Tv];have ne:∀{x:c7},(upd H p (.dK [])) x=J2->x≠p:=λ{x} h z=>by rw[z,zA] at h; cases h
 have nb:=ne (j.free y);have C:=ne (j.free (i.free hr));have D:=ne (j.free (i.free (g.free u)));erw[q p _ (λc o e=>?_) l ⟨m,b,r,n,.inl zA,.nil ?_,.nil ?_,.nil ?_,.nil ?_⟩]
 ·rw[zG (zI e l)];exact(B.trans (j.trans (i.trans (g.trans d)))) c o e
 ·rw[zG (ne v)]; rwa[em]
 ·rw[zG nb]; rwa[I]
 ·rw[zG C]; rwa[er]
 ·rw[zG D]; rwa[zA]
def wP(K:c5):Sp:=λj H Q _=>E7 λ(d a:c7) (kind:j9) (g:Key) (v:V) (e i:List (Key×V))=>A7 (j=[.ref d,.str kind,kV g,v]) (Rd H d (.dK e)) (vR e (.inr kind)=O (.ref a)) (Rd H a (.dK i)) (e.length<=100) (i.length<=100) (∀(f c:c7)(h:Hp),Same H h->H f=J2->f≠c->h f=O (.dK (zz e (.inr kind) (.ref c)))->h c=O (.dK (zz i g v))->Q (.ref f) h)
def fB(F:Fun K "changed" "changed" ze f fd)(Z:Zs mg)(J:Cb P w mg base)  : yR P w K mg base CX0 1 f fd ["state","kind","key","value"] (wP K):=by
 specialize oa
 ·obtain⟨d,a,kind,m,v,g,j,rfl,_⟩:=h;rfl
 obtain⟨d,a,kind,m,v,g,j,rfl,hd,B,z,I,G,q⟩:=h
 refine'⟨_,(zB (zQ 4 oa.nd ?_)
   (zB (qY (yH hr) (pv 4) (pv 1) (tV mY rfl Z.dict iP (zD (zU (yH hr) (pv 0) (pv 1) 'j') zL)) rfl)
   (zB (qY (yH hr) (zU (yH hr) (pv 4) (pv 1) 'j') (pv 2) (pv 3) rfl)
   (zE (zN (pv 4)))))),?_⟩
 nofun
 erw[_,rfl,d,g,rfl,hd,λp n=>?_];have l:=zC n (.dK g);have r:Rd (upd H p (.dK g)) d (.dK g):=hd.imp (l _ _) λ⟨o,e⟩=>⟨o,l _ _ e⟩;have x:Rd (upd H p (.dK g)) a (.dK j):=z.imp (l _ _) λ⟨o,e⟩=>⟨o,l _ _ e⟩;erw[_,rfl,_,rfl,d,.ref a,rfl,.inl ⟨g,.inr kind,r,rfl,B.symm⟩,a,j,rfl,x,λc u=>?_];have i:p≠c:=zI zA u;have y:=zC u (.dK j);have D:upd (upd H p (.dK g)) c (.dK j) p=O (.dK g):=y _ _ zA;exists _,U,_,U,p,_,U,cC.k (k:=.inr kind) D (zM (by lia));have C:upd (upd (upd H p (.dK g)) c (.dK j)) p (.dK (zz g (.inr kind) (.ref c))) c=O (.dK j):=by rw[zG i.symm,zA]
 erw[_,rfl,_,rfl,_,rfl,p,.ref c,rfl,.inl ⟨_,.inr kind,.inl zA,rfl,?_⟩,_,rfl,c,_,rfl,cC.k C (zM (by lia)),_,rfl,?_]
 ·rw[wm,y6 rfl]
 erw[q p c _ (λb o e=>?_) n i ?_ zA]
 ·have n1:=zI e n;have n2:=zI (l _ _ e) u;rw[zG n2,zG n1,zG n2,zG n1];rwa[e]
 ·rw[zG i,zA]
def qM(K:c5):Sp:=λj H Q _=>E7 λ(d a:c7) (kind:j9) (g:Key) (v:V) (e i:List (Key×V))=>A7 (j=[.ref d,.str kind,kV g]) (Rd H d (.dK e)) (vR e (.inr kind)=O (.ref a)) (Rd H a (.dK i)) (vR i g=O v) (e.length<=100) (∀(f c:c7)(h:Hp),Same H h->H f=J2->f≠c->h f=O (.dK (zz e (.inr kind) (.ref c)))->h c=O (.dK (gF i g))->Q (.ref f) h)
def fS(F:Fun K "without" "without" zi f fd)(Z:Zs mg)(J:Cb P w mg base)  : yR P w K mg base CX0 1 f fd ["state","kind","key"] (qM K):=by
 specialize oN
 ·obtain⟨d,a,kind,m,v,g,i,rfl,_⟩:=h;rfl
 obtain⟨d,a,kind,m,v,g,i,rfl,hd,D,B,C,I,q⟩:=h
 refine'⟨_,(zB (zQ 3 oN.nd ?_)
   (zB (qY (yH hr) (pv 3) (pv 1) (tV mY rfl Z.dict iP (zD (zU (yH hr) (pv 0) (pv 1) 'j') zL)) rfl)
   (zB (zO (Tx (zU (yH hr) (pv 3) (pv 1) 'j') (pv 2) ⟨rfl,rfl,rfl,rfl⟩))
   (zE (zN (pv 3)))))),?_⟩
 nofun
 erw[_,rfl,d,g,rfl,hd,λp n=>?_];have l:=zC n (.dK g);have r:Rd (upd H p (.dK g)) d (.dK g):=hd.imp (l _ _) λ⟨o,e⟩=>⟨o,l _ _ e⟩;have x:Rd (upd H p (.dK g)) a (.dK i):=B.imp (l _ _) λ⟨o,e⟩=>⟨o,l _ _ e⟩;erw[_,rfl,_,rfl,d,.ref a,rfl,.inl ⟨g,.inr kind,r,rfl,D.symm⟩,a,i,rfl,x,λc u=>?_];have j:p≠c:=zI zA u;have z:=zC u (.dK i);have G:upd (upd H p (.dK g)) c (.dK i) p=O (.dK g):=z _ _ zA;exists _,U,_,U,p,_,U,cC.k (k:=.inr kind) G (zM (by lia));have y:upd (upd (upd H p (.dK g)) c (.dK i)) p (.dK (zz g (.inr kind) (.ref c))) c=O (.dK i):=by rw[zG j.symm,zA]
 erw[_,rfl,_,rfl,p,.ref c,rfl,.inl ⟨_,.inr kind,.inl zA,rfl,?_⟩,c,rfl,.inl ⟨i,.inl y⟩,_,rfl,i,m,v,y,rfl,C,_,rfl,?_]
 ·rw[wm,y6 rfl]
 erw[q p c _ (λb o e=>?_) n j ?_ zA]
 ·have n1:=zI e n;have n2:=zI (l _ _ e) u;rw[zG n2,zG n1,zG n2,zG n1];rwa[e]
 ·rw[zG j,zA]
def oJ(ns:List Int)(m:Int):Bool:=ns.all λn=>decide (-m<=n)&&decide (n<=m)
def yw(K:c5):Sp:=λd H Q _=>E3 λ(a:c7) (ns:List Int) (m:Int)=>A4 (d=[.ref a,.int m]) (H a=O (.tup 'p')) (ns.length<=100) (∀ c,Same H c->Q (.bl (oJ ns m)) c)
def bp(F:Fun K "within" "within" wa f fd)(Z:Zs mg)(I:Cb P w mg base)  : yR P w K mg base CX0 1 f fd ["numbers","most"] (yw K):=by
 specialize cY
 ·obtain⟨a,ns,m,rfl,_⟩:=h;rfl
 obtain⟨a,ns,m,rfl,z,G,q⟩:=h
 refine'⟨_,(zE (zN (yP (xw rfl) rfl Z.all fG (zD (xO (T:=["number"]) (caps:=[("most",1)]) ⟨rfl,by ac_nf,by ac_nf,rfl,⟨⟨rfl,rfl,B9 rfl⟩,z8⟩⟩ rfl (xB (pv 0)) (λ_=>(uY 0 (show(["number","most"]:List j9).Nodup by ac_nf))) (λ_=>yX) (λ_=>(ao Uk Uk ?_ (pv 0) (pv 1)))) zL)))),?_⟩
 nofun
 refine⟨_,U,a,U,.inr ⟨⟨_,SqT.of z⟩,λc D y=>?_⟩⟩;refine kT (K:=K) (a:=a) (xs:=ns.map V.int) (λi o g l=>A4 (Same H l) (l D=O (.lst g)) (g=((ns.take i).map λn=>decide (-m<=n)&&decide (n<=m)).map V.bl) (∃ u:Option V,o=[u,O (.int m)]))
  ⟨zC y _,zA,rfl,J2,rfl⟩ (λi o g l _ v=>by obtain⟨d,e,_⟩:=v; rwa[SqT.of (d _ _ z),e]) ?_ ?_
 ·rintro i x o g l hi ⟨d,p,rfl,u,rfl⟩;obtain⟨n,B,rfl⟩:=uU hi;have C:=(e8.mp B).1;have len:(((ns.take i).map λn=>decide (-m<=n)&&decide (n<=m)).map V.bl).length<sizeLine:=zM (by rw[b9,b9,m8]; lia);have j:∀ b:Bool,b=(decide (-m<=n)&&decide (n<=m))->((ns.take i).map λn=>decide (-m<=n)&&decide (n<=m)).map V.bl++[V.bl b]=((ns.take (i+1)).map λn=>decide (-m<=n)&&decide (n<=m)).map V.bl:=λb e=>by
   rw[w9,B,e,f8,f8];rfl
  exists _,U,_,U,_,U,_,_,U,U,_,rfl;erw[ite2 (λh1=>?_) (λh1=>?_)]
  ·rwa[_,rfl,_,_,rfl,rfl,p,len,d.putNew y,zA,j _ (by rw[h1,GS]),_,rfl]
  ·rwa[p,len,d.putNew y,zA,j _ (by rw[eq_false_of_ne_true h1,EJ]),_,rfl]
 ·rintro o g l ⟨d,p,rfl,u,rfl⟩;exists D,_,U,SqL.of p;have r:=q _ d;rw[b9,o5,EB];rwa[r]
def axC:Cl->c7
 | .badName=>wf
 | .taken=>iM
 | .badPlace=>uy
 | .full=>gJ
 | .noMark=>mD
 | .same=>pX
 | .needed=>lS
 | .badBank=>jH
 | .noBank=>fJ
 | .badRun=>kX
 | .noRun=>aT
 | .noMoment=>rY
 | .badWay=>rh
 | .badTurn=>jf
 | .noNote=>dI
def qB(_:c5):Sp:=λc H Q E=>∃ x:j9,A3 (c=[.str x]) (ai x) (Zt (vS x) Q E wf H)
def Tk(a c:Nat):(!decide ((⟨#[c]⟩:j9).cps.toList<(⟨#[a]⟩:j9).cps.toList))=decide (a<=c):=by
 have e:([c]<[a])↔c<a:=by
  rw[List.cons_lt_cons_iff];simp
 show(!decide ([c]<[a]))=_;by_cases h:c<a
 ·rw[y7 (e.mpr h),y8 (by lia)];rfl
 ·rw[y8 (λz=>h (e.mp z)),y7 (by lia)];rfl
def lA(F:Fun K "check_name" "check_name" tT f fd)(Z:Zs mg)(CB:Cb P w mg base)  : yR P w K mg base 'w' 1 f fd ["name"] (qB K):=by
 erw[F.okX lR (λvs H Q E h=>?_) (λcdv A outer s H vs Q E hr h=>?_)]
 ·obtain⟨x,rfl,_⟩:=h;rfl
 obtain⟨x,rfl,as,q⟩:=h;exists _,(zE (xL (PW.pt (ZT (xA US (yP oE rfl Z.len oG (zD (pv 0) zL)) wH (sS _)) (ZT (xA Uz (yP oE rfl Z.len oG (zD (pv 0) zL)) (aF CB.LONGEST_NAME) (sS _)) (fD (iy (kG (yP (xw rfl) rfl Z.all fG (zD (xO (T:=["letter"]) (caps:=[]) ⟨rfl,by ac_nf,by ac_nf,rfl,z8⟩ rfl (Ph (pv 0)) (λ_=>(iU (i:=0) (show(["letter"]:List j9).Nodup by ac_nf) rfl (B9 rfl))) (λ_=>yX) (λ_=>(ao fZ fZ zZ (pv 0) zZ))) zL)))))))) (zE (xU (λ_=>E) CB.e_BadName i8 'a' i8 xT (zD (uR (cS (pv 0) (uT qF))) zL))) zV))
 try dsimp only[L2.cxOf,L2.cxComp,L2.Cx.nox]
 have X:x.length<=sizeLine:=i4 as.2 'a';have go:∀ d,Same H d->¬ vS x->XB (PN (Uv 0) Xr) [O (.str x)] d (λv H1=>1<=sizeLine/\E (.ref wf) J2 H1):=λd s' z=>⟨_,rfl,⟨x,rfl,as.big,i4 as.2 'a'⟩,λy _=>⟨by show 1<=sizeLine; decide,q.no z s'⟩⟩;exists _,U,x,U,X,_,_,U,U,_,rfl;refine ifD (λz=>vf (go H (Same.refl _) λo=>y9 o.1 (by lia))) (λz1=>?_);exists _,U,x,U,X,_,_,U,U,_,rfl;refine ifD (λz=>vf (go H (Same.refl _) λo=>y9 o.2.1 (by lia))) (λz2=>?_);have asc:x.cps.all (· < 128)=true:=by
  rw[Array.all_eq_true'];intro c hm;rwa[y7 (as.1 c (Gr.mpr hm))]
 refine⟨_,U,x,U,asc,λc D Y=>?_⟩;refine Vn (xs:=dk x) (λi p g d=>A5 (Same H d) (d D=O (.lst g)) (∃ bs:List Bool,A3 (g=bs.map V.bl) (bs.length=i) (bs.all id=J3↔∀ c∈x.cps.toList.take i,97<=c/\c<=122)) (i<=x.length) (∃ u:Option V,p=[u]))
  ⟨zC Y _,zA,⟨[],rfl,rfl,by simp⟩,x6 _,J2,rfl⟩ (λi p g d B=>by obtain⟨_,e,_⟩:=B; rwa[z8,e]) ?_ ?_
 ·rintro i v p g d hi ⟨r,R,⟨bs,rfl,lb,m⟩,hi8,u,rfl⟩;unfold dk at hi;rw[e7,o6] at hi;obtain⟨n,gn,rfl⟩:=hi;have C:i<x.length:=by
   have:=(e8.mp gn).1;rw[o7] at this;rwa[this]
  have l:∀ b:Bool,(b=J3↔97<=n/\n<=122)->d D=O (.lst (bs.map V.bl))/\(bs.map V.bl).length<sizeLine/\Same H (upd d D (.lst (bs.map V.bl++[.bl b])))/\upd d D (.lst (bs.map V.bl++[.bl b])) D=O (.lst (bs.map V.bl++[.bl b]))/\(∃ S:List Bool,A3 (bs.map V.bl++[.bl b]=S.map V.bl) (S.length=i+1) (S.all id=J3↔∀ c∈x.cps.toList.take (i+1),97<=c/\c<=122))/\i+1<=x.length:=λb j=>by
   refine⟨R,zM (by rw[b9]; have:=as.2; lia),r.putNew Y,zA,⟨bs++[b],by rw[f8]; rfl,by rw[f9,lb]; rfl,?_⟩,C⟩;rw[List.all_append,AA,m,w9,gn];simp only[Dx,Ht,GT,id,j,j5,Option.toList,g6];constructor
   ·rintro⟨h1,h2⟩ c (h | rfl)
    ·rwa[h1 c h]
    ·rwa[h2]
   ·rwa[λh=>⟨λc hc=>h c (.inl hc),h n (.inr rfl)⟩]
  exists _,U,_,_,U,U,_,rfl;rw[show(!decide (((⟨#[n]⟩:j9).cps.toList)<(("a" : j9).cps.toList)))=decide (97<=n) from Tk 97 n];erw[ifD (λh1=>?_) (λh1=>?_)]
  ·exists _,_,U,rfl;rw[show(!decide ((("z" : j9).cps.toList)<((⟨#[n]⟩:j9).cps.toList)))=decide (n<=122) from Tk n 122];obtain⟨N,M,L,J,I,G⟩:=l (decide (n<=122)) (by simp[h1]);rwa[N,M,L,J,I,G,_,rfl]
  ·obtain⟨N,M,L,J,I,G⟩:=l J7 (by simp[h1]);rwa[N,M,L,J,I,G,_,rfl]
 ·rintro p g d ⟨r,R,⟨bs,rfl,lb,m⟩,_,u,rfl⟩;have lc:(dk x).length=x.cps.toList.length:=b9 _;rw[lc,o5] at m;exists D,bs,U,SqL.of R,_,rfl;cases j:bs.all id with
  | true=>rwa[zd (q.yes ⟨by lia,by lia,m.mp j⟩ r)]
  | false=>exact vf (go d r λo=>by rw[m.mpr o.2.2] at j; cases j)
def qA(K:c5):Sp:=λg H Q E=>E6 λ(d a:c7) (kind:j9) (n:j9) (c e:List (Key×V))=>A7 (g=[.ref d,.str kind,.str n]) (Rd H d (.dK c)) (vR c (.inr kind)=O (.ref a)) (Rd H a (.dK e)) (kind.length<=1000) (n.length<=1000) (Zt (vR e (.inr n)=J2) Q E iM H)
def kC(F:Fun K "check_free" "check_free" tN f fd)(Z:Zs mg)(u:Cb P w mg base)  : yR P w K mg base 'w' 1 f fd ["state","kind","name"] (qA K):=by
 erw[F.okX mK (λj H Q E h=>?_) (λr A outer s H j Q E i h=>?_)]
 ·obtain⟨d,a,kind,n,c,g,rfl,_⟩:=h;rfl
 obtain⟨d,a,kind,n,c,g,rfl,hd,p,o,m,l,q⟩:=h;exists _,(zE (xL (dC (Qb (yH i) (pv 2) (zU (yH i) (pv 0) (pv 1) 'j')) (by with_unfolding_all rfl)) (zE (xU (λ_=>E) u.e_Taken i8 'a' i8 xT (zD (uR (uT (sr (pv 1) (uT (sr (pv 2) (uT qF)))))) zL))) zV))
 try dsimp only[L2.cxOf,L2.cxComp,L2.Cx.nox]
 exists _,U,_,U,_,U,d,.ref a,U,.inl ⟨c,.inr kind,hd,U,p.symm⟩,a,_,U,.inl ⟨g,.inr n,o,U,U⟩,_,rfl;cases e:vR g (.inr n) with
 | none=>rwa[zd (q.yes e (Same.refl _))]
 | some v=>exact vf ⟨_,rfl,.inr ⟨kind,rfl,m⟩,_,rfl,.inr ⟨n,rfl,l⟩,λx _=>⟨by show 1<=sizeLine; decide,q.no (by rw[e]; exact λz=>nomatch z) (Same.refl _)⟩⟩
def uJ(K:c5):Sp:=λc H Q E=>E3 λ(a:c7) (x y:Int)=>A5 (c=[.ref a]) (H a=O 'r') (vm x) (vm y) (Zt (zm (x,y)) Q E uy H)
def mv{x y:Int} : oJ [x,y] 1000=J3↔zm (x,y):=by
 simp only[oJ,zm,Dx,Ht,GT,AA,decide_eq_true_eq,and_assoc]
def oP(F:Fun K "check_place" "check_place" vO f fd)(Z:Zs mg)(m:Cb P w mg base)(c:Has P w K mg base "within" 1 ["numbers","most"] (yw K)):yR P w K mg base 'w' 2 f fd ["place"] (uJ K):=by
 erw[F.okX nF (λn H Q E h=>?_) (λo A outer s H n Q E j h=>?_)]
 ·obtain⟨a,x,y,rfl,_⟩:=h;rfl
 obtain⟨a,x,y,rfl,l,g,d,q⟩:=h;exists _,(zE (xL (iy (kG (xI c (j.mono 'a') rfl (zD (pv 0) (zD (aF m.FARTHEST) zL))))) (zE (xU (λ_=>E) m.e_BadPlace i8 'a' i8 xT (zD (uR (eA j.gd j.units (pv 0) (uT qF))) zL))) zV))
 try dsimp only[L2.cxOf,L2.cxComp,L2.Cx.nox]
 refine⟨_,U,a,[x,y],1000,U,l,(by show 2<=100; decide),λp i=>⟨_,rfl,?_⟩⟩;cases e:oJ [x,y] 1000 with
 | true=>rwa[zd (q.yes (mv.mp e) i)]
 | false=>exact vf ⟨_,rfl,⟨ptD (x,y),zp (i _ _ l),(rQ g d).1,(rQ g d).2.1,(rQ g d).2.2⟩,λz _=>⟨by show 1<=sizeLine; decide,q.no (λz=>by rw[mv.mpr z] at e; cases e) i⟩⟩
def qX(K:c5):Sp:=λc H Q E=>E3 λ(a:c7) (x y:Int)=>A5 (c=[.ref a]) (H a=O 'r') (vm x) (vm y) (Zt (zm (x,y)) Q E kX H)
def jh(F:Fun K "check_run" "check_run" sZ f fd)(Z:Zs mg)(m:Cb P w mg base)(c:Has P w K mg base "within" 1 ["numbers","most"] (yw K)):yR P w K mg base 'w' 2 f fd ["run"] (qX K):=by
 erw[F.okX jo (λn H Q E h=>?_) (λo A outer s H n Q E j h=>?_)]
 ·obtain⟨a,x,y,rfl,_⟩:=h;rfl
 obtain⟨a,x,y,rfl,l,g,d,q⟩:=h;exists _,(zE (xL (iy (kG (xI c (j.mono 'a') rfl (zD (pv 0) (zD (aF m.FARTHEST) zL))))) (zE (xU (λ_=>E) m.e_BadRun i8 'a' i8 xT (zD (uR (eA j.gd j.units (pv 0) (uT qF))) zL))) zV))
 try dsimp only[L2.cxOf,L2.cxComp,L2.Cx.nox]
 refine⟨_,U,a,[x,y],1000,U,l,(by show 2<=100; decide),λp i=>⟨_,rfl,?_⟩⟩;cases e:oJ [x,y] 1000 with
 | true=>rwa[zd (q.yes (mv.mp e) i)]
 | false=>exact vf ⟨_,rfl,⟨ptD (x,y),zp (i _ _ l),(rQ g d).1,(rQ g d).2.1,(rQ g d).2.2⟩,λz _=>⟨by show 1<=sizeLine; decide,q.no (λz=>by rw[mv.mpr z] at e; cases e) i⟩⟩
def wL(K:c5):Sp:=λh H Q E=>E6 λ(d a:c7) (kind:j9) (c g:List (Key×V)) (e:Int)=>A7 (h=[.ref d,.str kind]) (Rd H d (.dK c)) (vR c (.inr kind)=O (.ref a)) (Rd H a (.dK g)) (vR Ow (.inr kind)=O (.int e)) (kind.length<=1000) (Zt ((g.length:Int)<e) Q E gJ H)
def lO(F:Fun K "check_room" "check_room" tQ f fd)(Z:Zs mg)(e:Cb P w mg base)  : yR P w K mg base 'w' 1 f fd ["state","kind"] (wL K):=by
 erw[F.okX mC (λj H Q E h=>?_) (λp A outer s H j Q E m h=>?_)]
 ·obtain⟨d,a,kind,c,i,g,rfl,_⟩:=h;rfl
 obtain⟨d,a,kind,c,i,g,rfl,hd,o,n,em,l,q⟩:=h;exists _,(zE (xL (xA RG (yP qe rfl Z.len oG (zD (zU (yH m) (pv 0) (pv 1) 'j') zL)) (VS e.dMOST e.gMOST (pv 1)) (sS _)) (zE (xU (λ_=>E) e.e_Full i8 'a' i8 xT (zD (uR (uT (sr (pv 1) (uT qF)))) zL))) zV))
 try dsimp only[L2.cxOf,L2.cxComp,L2.Cx.nox]
 exists _,U,_,U,d,.ref a,U,.inl ⟨c,.inr kind,hd,U,o.symm⟩,a,i,U,n,_,U,.inr kind,.int g,U,em,_,_,U,U,_,rfl;exact ifD (λz=>⟨_,rfl,.inr ⟨kind,rfl,l⟩,λx _=>⟨by show 1<=sizeLine; decide,q.no (by lia) (Same.refl _)⟩⟩) (λz=>q.yes (by lia) (Same.refl _))
def wI(K:c5):Sp:=λc H Q E=>E7 λ(d m b r n:c7) (S:BS) (x:j9)=>A4 (c=[.ref d,.str x]) (StA H d m b r n S) (ai x) (Zt ((zK S x).isSome=J3) Q E mD H)
def lT(F:Fun K "check_mark" "check_mark" tR f fd)(Z:Zs mg)(o:Cb P w mg base)  : yR P w K mg base 'w' 1 f fd ["state","name"] (wI K):=by
 erw[F.okX mG (λi H Q E h=>?_) (λl A outer s H i Q E g h=>?_)]
 ·obtain⟨d,m,b,r,n,S,x,rfl,_⟩:=h;rfl
 obtain⟨d,m,b,r,n,S,x,rfl,st,as,q⟩:=h;obtain⟨c,j,kv⟩:=st.ma;exists _,(zE (xL (dC (qz (yH g) (pv 1) (zU (yH g) (pv 0) zZ 'j')) (by with_unfolding_all rfl)) (zE (xU (λ_=>E) o.e_NoMark i8 'a' i8 xT (zD (uR (uT (cS (pv 1) qF))) zL))) zV))
 try dsimp only[L2.cxOf,L2.cxComp,L2.Cx.nox]
 exists _,U,_,U,d,.ref m,U,.inl ⟨_,.inr "marks",st.at_,U,rC.symm⟩,m,_,U,.inl ⟨c,.inr x,j,U,U⟩,_,rfl;rw[kv.isSome,uu,Ct];cases e:(zK S x).isSome with
 | true=>rwa[zd (q.yes e (Same.refl _))]
 | false=>exact vf ⟨_,rfl,⟨x,rfl,as.big,i4 as.2 'a'⟩,λy _=>⟨by show 1<=sizeLine; decide,q.no (by rw[e]; rwa[o4]) (Same.refl _)⟩⟩
def offM(n:Nat)(m:Int):Prop:=(m<0\/(n:Int)<m)/\m.natAbs.log2<1920
def xR(K:c5):Sp:=λd H Q E=>E3 λ(a:c7) (m:Int) (n:Nat)=>A3 (d=[.int m,.ref a]) ((∃ xs,SqL K H a xs/\xs.length=n)\/∃ c,Rd H a (.dK c)/\c.length=n) ((A3 (0<=m) (m<=n) (Q .non H))\/(offM n m/\E (.ref rY) J2 H))
def oy(F:Fun K "check_moment" "check_moment" uF f fd)(Z:Zs mg)(r:Cb P w mg base)  : yR P w K mg base 'w' 1 f fd ["moment","runs"] (xR K):=by
 erw[F.okX pZ (λe H Q E h=>?_) (λl A outer s H e Q E hr h=>?_)]
 ·obtain⟨a,m,n,rfl,_⟩:=h;rfl
 obtain⟨a,m,n,rfl,j,q⟩:=h
 refine'⟨_,(zE (xL (PW.pt (ZT ?_ (fD (xA Uz (pv 0) (yP (tD.or xz qe) rfl Z.len oG (zD (pv 1) zL)) (sS _))))) (zE (xU (λ_=>E) r.e_NoMoment i8 'a' i8 xT (zD (uR (uT (sr (pv 0) qF))) zL))) zV)),?_⟩
 nofun
 exists _,U,_,_,U,U,_,rfl;have go:¬ (0<=m/\m<=n)->XB (Sn (Uv 0) Xr) [O (.int m),O (.ref a)] H (λv p=>1<=sizeLine/\E (.ref rY) J2 p):=λz=>by
  rcases q with ⟨h0,i,_⟩ | ⟨⟨_,g⟩,q⟩
  ·rwa[y9 ⟨h0,i⟩ z]
  ·rwa[_,rfl,.inl ⟨m,rfl,g⟩,λx _=>⟨by decide,q⟩]
 erw[ifD (λz=>?_) (λz=>?_)]
 ·erw[vf ?_];rwa[go (λy=>y9 y.1 (by lia))]
 exists _,U,_,rfl;rcases j with ⟨xs,d,rfl⟩ | ⟨c,d,rfl⟩
 ·erw[.inl ⟨a,xs,rfl,.inl d,_,_,rfl,rfl,_,rfl,?_⟩];erw[ifD (λy=>go (λy=>y9 y.2 (by lia))) (λy=>?_)];rcases q with ⟨_,_,q⟩ | ⟨⟨o,_⟩,_⟩
  ·rwa[q]
  ·rwa[y9 o (by lia)]
 ·erw[.inr ⟨a,c,rfl,d,_,_,rfl,rfl,_,rfl,?_⟩];erw[ifD (λy=>go (λy=>y9 y.2 (by lia))) (λy=>?_)];rcases q with ⟨_,_,q⟩ | ⟨⟨o,_⟩,_⟩
  ·rwa[q]
  ·rwa[y9 o (by lia)]
def vp(K:c5):Sp:=λc H Q E=>E3 λ(a:c7) (x y:Int)=>A5 (c=[.ref a]) (H a=O 'r') (vm x) (vm y) (Zt (uz (x,y)) Q E rh H)
def XO{x y:Int} : oJ [x,y] 100=J3↔(-100<=x/\x<=100/\-100<=y/\y<=100):=by
 simp only[oJ,Dx,Ht,GT,AA,decide_eq_true_eq,and_assoc]
def jg(F:Fun K "check_way" "check_way" sX f fd)(Z:Zs mg)(r:Cb P w mg base)(i:Has P w K mg base "within" 1 ["numbers","most"] (yw K)):yR P w K mg base 'w' 2 f fd ["direction"] (vp K):=by
 erw[F.okX jr (λu H Q E h=>?_) (λC A outer s H u Q E hr h=>?_)]
 ·obtain⟨a,x,y,rfl,_⟩:=h;rfl
 obtain⟨a,x,y,rfl,n,l,j,q⟩:=h
 refine'⟨_,(zE (xL (PW.pt (ZT (xA (Vi hr.units0) (pv 0) ?_ (sS _)) (fD (iy (kG (xI i 'e' rfl (zD (pv 0) (zD (aF r.LONGEST_WAY) zL)))))))) (zE (xU (λ_=>E) r.e_BadWay i8 'a' i8 xT (zD (uR (eA hr.gd hr.units (pv 0) (uT qF))) zL))) zV)),?_⟩
 nofun
 erw[_,rfl,sz2,λp B=>?_];have sp:=zC B (.tup [.int 0,.int 0]);have c:=sp _ _ n;have go:∀ g,Same H g->¬ uz (x,y)->XB (Ps (Uv 0) Xr) [O (.ref a)] g (λv D=>1<=sizeLine/\E (.ref rh) J2 D):=λg d z=>⟨_,rfl,⟨ptD (x,y),zp (d _ _ n),(rQ l j).1,(rQ l j).2.1,(rQ l j).2.2⟩,λy _=>⟨by show 1<=sizeLine; decide,q.no z d⟩⟩;exists a,p,[x,y],[0,0],U,U,SqT.of c,SqT.of zA,_,rfl;refine ifD (λz=>vf (go _ sp λo=>o.1 (show(x,y)=(0,0) by simp at z; rw[z.1,z.2]))) (λz=>?_);refine⟨_,U,a,[x,y],100,U,c,(by show 2<=100; decide),λg d=>⟨_,rfl,?_⟩⟩;have m:=sp.trans d;cases e:oJ [x,y] 100 with
 | true=>exact zd (q.yes ⟨λy=>z (by injection y with y1 y2; rw[y1,y2]),XO.mp e⟩ m)
 | false=>exact vf (go _ m λo=>by rw[XO.mpr o.2] at e; cases e)
def sQ(K:c5):Sp:=λc H Q E=>E10 λ(d m b r n:c7) (S:BS) (x y:j9) (p u:Int×Int)=>A7 (c=[.ref d,.str x,.str y]) (StA H d m b r n S) (zK S x=O p) (zK S y=O u) (x.length<=1000) (y.length<=1000) (Zt (p≠u) Q E pX H)
def nj(F:Fun K "check_apart" "check_apart" vG f fd)(Z:Zs mg)(L:Cb P w mg base)  : yR P w K mg base 'w' 1 f fd ["state","left","right"] (sQ K):=by
 erw[F.okX oX (λj H Q E h=>?_) (λG A outer s H j Q E g h=>?_)]
 ·obtain⟨d,m,b,r,n,S,x,y,p,u,rfl,_⟩:=h;rfl
 obtain⟨d,m,b,r,n,S,x,y,p,u,rfl,st,ex,ey,B,v,q⟩:=h;obtain⟨c,i,kv⟩:=st.ma;obtain⟨N,D,o⟩:=kv.get (k:=.inr x) (d:=ptD p) (by rw[uu,ex]; rfl);obtain⟨M,C,l⟩:=kv.get (k:=.inr y) (d:=ptD u) (by rw[uu,ey]; rfl);obtain⟨J,rfl,h1⟩:=rf o;obtain⟨I,rfl,h2⟩:=rf l;exists _,(zE (xL (xA (Vi g.units0) (zU (yH g) (zU (yH g) (pv 0) zZ 'j') (pv 1) 'j') (zU (yH g) (zU (yH g) (pv 0) zZ 'j') (pv 2) 'j') (sS _)) (zE (xU (λ_=>E) L.e_Same i8 'a' i8 xT (zD (uR (sr (pv 1) (uT (sr (pv 2) (uT qF))))) zL))) zV))
 try dsimp only[L2.cxOf,L2.cxComp,L2.Cx.nox]
 refine⟨_,U,d,.ref m,U,.inl ⟨_,.inr "marks",st.at_,U,rC.symm⟩,_,U,m,_,U,.inl ⟨c,.inr x,i,U,D.symm⟩,_,U,d,.ref m,U,.inl ⟨_,.inr "marks",st.at_,U,rC.symm⟩,_,U,m,_,U,.inl ⟨c,.inr y,i,U,C.symm⟩,
  J,I,[p.1,p.2],[u.1,u.2],rfl,rfl,SqT.of h1,SqT.of h2,_,rfl,?_⟩
 exact ifD (λz=>⟨_,rfl,.inr ⟨x,rfl,B⟩,_,rfl,.inr ⟨y,rfl,v⟩,λx _=>⟨by show 1<=sizeLine; decide,q.no (λne=>ne (by simp at z; rwa[DU z.1 z.2])) (Same.refl _)⟩⟩) (λz=>q.yes (λe=>z (by rw[e])) (Same.refl _))
def rT(_:c5):Sp:=mO axC λD=>E3 λn x y=>D=.mark n x y
def mZ(F:Fun K "after_mark" "after_mark" tF f fd)(Z:Zs mg)(CB:Cb P w mg base)(yBv:Has P w K mg base "changed" 1 ["state","kind","key","value"] (wP K))(Y:qJ P w K mg base "check_room" 1 ["state","kind"] (wL K))(yAp:qJ P w K mg base "check_place" 2 ["place"] (uJ K))(yBe:qJ P w K mg base "check_free" 1 ["state","kind","name"] (qA K))(X:qJ P w K mg base "check_name" 1 ["name"] (qB K)):yR P w K mg base 'w' 3 f fd 'i' (rT K):=by
 erw[F.okX rN (λvs H Q E h=>?_) (λcdv A outer s H vs Q E hr h=>?_)]
 ·obtain⟨d,v,S,D,rfl,_⟩:=h;rfl
 obtain⟨d,v,S,D,rfl,⟨n,x,y,rfl⟩,⟨m,b,r,t,st⟩,hv,tm,wl,q,e⟩:=h;obtain⟨a,rfl,ha⟩:=iJ hv;obtain⟨an,tx,ty⟩:=tm
 refine'⟨_,(zB (PS.nox (zQ 2 rN.nd ?_))
   (zB (PS.nox (zQ 3 rN.nd ?_))
   (zB (zO (zS (λ_=>E) X zT 'e' rfl (zD (pv 2) zL)))
   (zB (zO (zS (λ_=>E) yBe zT 'e' rfl (zD (pv 0) (zD zZ (zD (pv 2) zL)))))
   (zB (zO (zS (λ_=>E) yAp zT 'e' rfl (zD (pv 3) zL)))
   (zB (zO (zS (λ_=>E) Y zT 'e' rfl (zD (pv 0) (zD zZ zL))))
   (zE (PS.nox (zN ?_))))))))),?_⟩
 nofun
 exists _,U,a,_,_,.str n,U,U,.inr (SqT.of ha),rfl;refine⟨_,U,a,_,_,.int x,U,U,.inr (SqT.of ha),U,_,U,a,_,_,.int y,U,U,.inr (SqT.of ha),U,sz2,λp hp=>?_⟩;have s1:=zC hp 'r';refine⟨_,U,n,U,an,.of (λT H2 R=>?_) (λno H2 R=>e .badName (by simp[yC,no]) _ (.of (s1.trans R)))⟩;have o:=s1.trans R;have C:=st.to (.of o);obtain⟨u,hm,kv⟩:=C.ma;have ep:=R _ _ (show upd H p 'r' p=_ from zA);refine⟨_,U,_,U,d,m, "marks",n,_,u,U,C.at_,rC,hm,'a',i4 an.2 'a',.of (λB H3 G=>?_) (λno H3 G=>e .taken (by
  have:¬ zK S n=none:=λz=>no ((Vw kv).mpr z);simp[yC,T,vz this]) _ (.of (o.trans G)))⟩
 have B:=(Vw kv).mp B;have L:=o.trans G;refine⟨_,U,p,x,y,U,G _ _ ep,tx,ty,.of (λk3 H4 N=>?_) (λno H4 N=>e .badPlace (by simp[yC,T,B,no]) _ (.of (L.trans N)))⟩;have l:=L.trans N;have I:=G.trans N;have st4:=st.to (.of l);have hm4:=Rd.same hm I;refine⟨_,U,d,m, "marks",_,u,20,U,st4.at_,rC,hm4,'g','a',.of (λk4 H5 M=>?_) (λno H5 M=>e .full (by
  rw[kv.length,kB] at no;simp[yC,T,B,k3,show 20<=S.marks.length by lia]) _ (.of (l.trans M)))⟩
 rw[kv.length,kB] at k4;have j:=l.trans M;have i:=I.trans M;have st5:=st.to (.of j);erw[_,rfl,_,rfl,_,rfl,d,m, "marks",.inr n,.ref p,_,u,rfl,st5.at_,rC,Rd.same hm i,StA.stKlen,kv.le (by rw[kB]; lia),λf c H6 s6 hf _ ef ec=>?_];have J:=j.trans s6;have g:=st.to (.of J);rw[lE] at ef;erw[q (by simp[yC,T,B,k3]; lia) f H6 (.of J) (j.free hf) ⟨c,b,r,t,.inl ef,⟨_,.inl ec,?_⟩,g.ba,g.ru,g.no⟩];show wC H6 _ (mkE (S.marks++[(n,x,y)]));rw[bh,<- sy (aH B)];exact(kv.to (.of (i.trans s6))).put (zp ((i.trans s6) _ _ ep))
def qD(_:c5):Sp:=mO axC λD=>E3 λk x y=>D=.move k x y
def mI(F:Fun K "after_move" "after_move" tM f fd)(Z:Zs mg)(CB:Cb P w mg base)(yAw:qJ P w K mg base "check_apart" 1 ["state","left","right"] (sQ K))(yBv:Has P w K mg base "changed" 1 ["state","kind","key","value"] (wP K))(yAp:qJ P w K mg base "check_place" 2 ["place"] (uJ K))(yBf:qJ P w K mg base "check_mark" 1 ["state","name"] (wI K)):yR P w K mg base 'w' 3 f fd 'i' (qD K):=by
 erw[F.okX vL (λvs H Q E h=>?_) (λcdv A outer s H vs Q E hr h=>?_)]
 ·obtain⟨d,v,S,D,rfl,_⟩:=h;rfl
 obtain⟨d,v,S,D,rfl,⟨k,x,y,rfl⟩,⟨m,b,r,t,st⟩,hv,tm,wl,q,I⟩:=h;obtain⟨a,rfl,ha⟩:=Wl hv;obtain⟨an,tx,ty⟩:=tm
 refine'⟨_,(zB (PS.nox (zQ 2 vL.nd ?_))
   (zB (zO (zS (λ_=>E) yBf zT 'e' rfl ?_))
   (zB (zO (zS (λ_=>E) yAp zT 'e' rfl (zD (pv 2) zL)))
   (zB (PS.nox (zQ 3 vL.nd ?_))
   (zB (xH Da rfl (XJ (zU (yH hr) (pv 3) zZ 'j')) (uY 4 vL.nd) (zE (xL ?_ (zE (zO (zS (λ_=>E) yAw zT 'e' rfl ?_))) zV)))
   (zE (PS.nox (zN (pv 3))))))))),?_⟩
 nofun
 refine⟨_,U,a,_,_,.int x,U,U,.inr (SqT.of ha),U,_,U,a,_,_,.int y,U,U,.inr (SqT.of ha),U,sz2,λp hp=>?_⟩;have N:=zC hp 'r';have X:upd H p 'r' p=O 'r':=zA;have st1:=st.to (.of N);refine⟨_,U,_,U,a,_,_,.str k,U,U,.inr (SqT.of (N _ _ ha)),U,d,m,b,r,t,S,k,U,st1,an,.of (λk1 H2 J=>?_) (λno H2 J=>I .noMark (by
  have:zK S k=none:=by cases e:zK S k <;> simp[e] at no ⊢
  simp only[yC,y6 this]) _ (.of (N.trans J)))⟩
 have G:¬ zK S k=none:=λz=>by rw[z] at k1; cases k1
 erw[_,rfl,p,x,y,rfl,J _ _ X,tx,ty,.of (λk2 H3 s3=>?_) (λno H3 s3=>I .badPlace (by simp only[yC,y4 G,y6 no]) _ (.of ((N.trans J).trans s3)))];have j:=(N.trans J).trans s3;have ep3:=s3 _ _ (J _ _ X);have M:=st.to (.of j);obtain⟨mvs,hm,km⟩:=M.ma;refine⟨_,U,_,U,a,_,_,.str k,U,U,.inr (SqT.of (j _ _ ha)),U,_,U,d,m, "marks",.inr k,.ref p,_,mvs,U,M.at_,rC,hm,StA.stKlen,km.le (by rw[kB]; have:=wl.good.few.ma; lia),λf c H4 s4 hf _ ef ec=>?_⟩;have C:=j.trans s4;have B:=st.to (.of C);rw[lE] at ef;have fst:StA H4 f c b r t (aft S (.move k x y)):=⟨.inl ef,⟨_,.inl ec,by rw[<- RK k1]; exact(km.to (.of s4)).put (zp (p:=(x,y)) (s4 _ _ ep3))⟩,B.ba,B.ru,B.no⟩;obtain⟨nk,hn,kn⟩:=fst.no;obtain⟨ks,rfl,e1,rk⟩:=nS kn;have lks:ks.length=S.notes.length:=by have:=congrArg Ay e1; rw[b9,b9] at this; rwa[this]
 refine⟨_,U,f,.ref t,U,.inl ⟨_,.inr "notes",fst.at_,U,zh.symm⟩,t,_,U,hn,λo H5 fz=>?_⟩;have s5:Sam H4 H5:=cE hn fz;refine QK (λi Y L=>A4 (Sam H4 L) (ZS t o (ks.map λe=>(.inl e.1,e.2)) L) (∀ e∈S.notes.take i,bM (aft S (.move k x y)) e.2) (∃ u:Option V,Y=[O (.ref d),O (.ref a),O (.ref p),O (.ref f),u]))
  ⟨s5,fz.1,λe he=>(nomatch he),J2,rfl⟩ (λi Y L h=>h.2) ?_ ?_
 ·rintro i x' Y L gx ⟨l,fa,ul,u,rfl⟩;have gx':(ks.map (·.2))[i]?=O x':=by rw[x5] at gx; rwa[gx]
  obtain⟨dt,gd,rd⟩:=rk.back gx';rw[e7,o6] at gd;obtain⟨e,ge,rfl⟩:=gd;have ge:S.notes[i]?=O e:=ge;have mem:=j4 ge;have kn:=wl.good.note e mem;have g:=rd.to l;have snoc:bM (aft S (.move k x y)) e.2->∀ e'∈S.notes.take (i+1),bM (aft S (.move k x y)) e'.2:=λh e' R=>by
   rw[w9,ge] at R;rcases j5.mp R with z | z
   ·rwa[ul e' z]
   ·rw[g6.mp z]; rwa[h]
  match hE:e.2,kn,g with
  | .bearing mo n x1 y1 x2 y2,kn,g =>
   obtain⟨c,c1,c2,rfl,T,hc1,hc2⟩:=uS g;exists _,U,c,_,0,.str "bearing",U,U,.inr (SqT.of T),U,U,_,rfl;rwa[zd ⟨l,fa,snoc (by rw[hE]; trivial),_,rfl⟩]
  | .range mo l1 r1,kn,g =>
   obtain⟨c',rfl,T⟩:=qT g;obtain⟨_,_,i1,i2,_⟩:=kn;have o1:=wl.mark i1;have o2:=wl.mark i2;obtain⟨p1,g1⟩:=j7.mp (sC (n:=k) (x:=x) (y:=y) i1);obtain⟨p2,g2⟩:=j7.mp (sC (n:=k) (x:=x) (y:=y) i2);exists _,U,c',_,0,.str "range",U,U,.inr (SqT.of T),U,U,_,rfl;refine vf ?_;refine⟨_,U,_,U,c',_,2,.str l1,U,U,.inr (SqT.of T),U,_,U,c',_,3,.str r1,U,U,.inr (SqT.of T),U,f,_,_,_,_,_,l1,r1,p1,p2,U,fst.to l,g1,g2,i4 o1.2.1 'a',i4 o2.2.1 'a',.of (λne H7 s7=>?_) (λno H7 s7=>I .same (by
    have z:¬ ∀ e∈S.notes,bM (aft S (.move k x y)) e.2:=λz=>by
     have z:=z e mem;rw[hE] at z;obtain⟨u1,u2,h1,h2,h3⟩:=z;rw[g1] at h1;rw[g2] at h2;cases h1;cases h2;rwa[no h3]
    simp only[yC,y4 G,y4 (j8.mpr k2),y4 z]) _ (((wG.of C).trans l).trans (.of s7)))⟩
   rwa[l.trans (.of s7),s7 _ _ fa,snoc (by rw[hE]; exact⟨p1,p2,g1,g2,ne⟩),_,rfl]
 ·rintro Y L ⟨l,fa,ul,u,rfl⟩;rw[b9,b9,lks,o5] at ul;rwa[_,rfl,q (by simp only[yC,y4 G,y4 (j8.mpr k2),y6 ul]) f L ((wG.of C).trans l) (j.free hf) ⟨_,_,_,_,fst.to l⟩]
def vW(_:c5):Sp:=mO axC λD=>∃ k,D=.unmark k
def pB(F:Fun K "after_unmark" "after_unmark" uI f fd)(Z:Zs mg)(CB:Cb P w mg base)(yBt:Has P w K mg base "without" 1 ["state","kind","key"] (qM K))(yBf:qJ P w K mg base "check_mark" 1 ["state","name"] (wI K)):yR P w K mg base 'w' 2 f fd 'i' (vW K):=by
 erw[F.okX vY (λvs H Q E h=>?_) (λcdv A outer s H vs Q E hr h=>?_)]
 ·obtain⟨d,v,S,D,rfl,_⟩:=h;rfl
 obtain⟨d,v,S,D,rfl,⟨k,rfl⟩,⟨m,b,r,t,st⟩,l,tm,wl,q,bad⟩:=h;obtain⟨a,rfl,ha⟩:=eI l
 refine'⟨_,(zB (PS.nox (zQ 2 vY.nd ?_))
   (zB (zO (zS (λ_=>E) yBf zT 'e' rfl (zD (pv 0) (zD (pv 2) zL))))
   (zB (xH Da rfl (XJ (zU (yH hr) (pv 0) zZ 'j')) (uY 3 vY.nd) (zE (xL (xA (Qn (yH hr)) (pv 2) (zk WM (pv 3) (xy wH) oz) (by with_unfolding_all rfl)) (zE (xU (λ_=>E) CB.e_Needed i8 'a' i8 xT (zD (uR (uT (sr (pv 2) qF))) zL))) zV)))
   (zE (PS.nox (zN ?_)))))),?_⟩
 nofun
 exists _,U,a,_,_,.str k,U,U,.inr (SqT.of ha),rfl;refine⟨_,U,_,U,d,m,b,r,t,S,k,U,st,tm,.of (λk1 H1 T=>?_) (λno H1 T=>bad .noMark (by
  have:zK S k=none:=by cases e:zK S k <;> simp[e] at no ⊢
  simp only[yC,y6 this]) _ (.of T))⟩
 have Y:¬ zK S k=none:=λz=>by rw[z] at k1; cases k1
 have G:=st.to (.of T);obtain⟨nk,hn,kn⟩:=G.no;obtain⟨ks,rfl,e1,rk⟩:=nS kn;have lks:ks.length=S.notes.length:=by have:=congrArg Ay e1; rw[b9,b9] at this; rwa[this]
 refine⟨_,U,d,.ref t,U,.inl ⟨_,.inr "notes",G.at_,U,zh.symm⟩,t,_,U,hn,λo H2 fz=>?_⟩;have s2:Sam H1 H2:=cE hn fz;refine QK (λi σ N=>A4 (Sam H1 N) (ZS t o (ks.map λe=>(.inl e.1,e.2)) N) (∀ e∈S.notes.take i,uh k e.2) (∃ u:Option V,σ=[O (.ref d),O (.ref a),O (.str k),u]))
  ⟨s2,fz.1,λe he=>(nomatch he),J2,rfl⟩ (λi σ N h=>h.2) ?_ ?_
 ·rintro i x σ N gx ⟨I,fa,ul,u,rfl⟩;have gx':(ks.map (·.2))[i]?=O x:=by rw[x5] at gx; rwa[gx]
  obtain⟨dt,gd,rd⟩:=rk.back gx';rw[e7,o6] at gd;obtain⟨e,ge,rfl⟩:=gd;have mem:=j4 ge;have kn:=wl.good.note e mem;have j:=rd.to I;have snoc:uh k e.2->∀ e'∈S.notes.take (i+1),uh k e'.2:=λh e' he'=>by
   rw[w9,ge] at he';rcases j5.mp he' with z | z
   ·rwa[ul e' z]
   ·rw[g6.mp z]; rwa[h]
  have g:¬ uh k e.2->∀ H4,Same N H4->XB (Sn (Uv 2) Xr) [O (.ref d),O (.ref a),O (.str k),O x] H4 (λv H1=>1<=sizeLine/\E (.ref lS) J2 H1):=λno H4 R=>⟨_,rfl,.inr ⟨k,rfl,i4 tm.2 'a'⟩,λy _=>⟨by show 1<=sizeLine; decide,bad .needed (by
   simp only[yC,y4 Y,y4 (show ¬ ∀ e∈S.notes,uh k e.2 from λz=>no (z e mem))]) _ (((wG.of T).trans I).trans (.of R))⟩⟩
  match hE:e.2,kn,j with
  | .bearing mo n x1 y1 x2 y2,kn,j =>
   obtain⟨c,c1,c2,rfl,hc,hc1,hc2⟩:=uS j;refine⟨_,U,_,U,_,U,c,_,U,SqT.of hc,(λz=>y9 z.1 (by show ¬ HT.sIx 5 0 (O 2)=0; decide)),λp hp=>?_⟩;have sp:=zC hp (.tup (xf [.str "bearing",.int mo,.str n,.ref c1,.ref c2] (O 2) J2));erw[p,[.str n,.ref c1,.ref c2],k,rfl,rfl,SqT.of zA,λv l=>?_,_,rfl,?_]
   ·rcases l9.mp l with z | l
    ·rwa[.inl ⟨n,z⟩]
    rcases l9.mp l with z | l
    ·rwa[.inr ⟨c1,_,z,SqT.of (sp _ _ hc1)⟩]
    ·rwa[.inr ⟨c2,_,g6.mp l,SqT.of (sp _ _ hc2)⟩]
   have nn:([V.str n,.ref c1,.ref c2].any (isS k))=(n == k):=by
    show((n == k)||(J7||(J7||false)))=(n == k);cases n == k <;> rfl
   rw[nn];cases M:n == k with
   | true=>rwa[vf (g (by rw[hE]; exact λz=>z (eq_of_beq M)) _ sp)]
   | false=>rwa[zd ⟨I.trans (.of sp),sp _ _ fa,snoc (by rw[hE]; exact x4.mp M),_,rfl⟩]
  | .range mo L J,kn,j =>
   obtain⟨c,rfl,hc⟩:=qT j;refine⟨_,U,_,U,_,U,c,_,U,SqT.of hc,(λz=>y9 z.1 (by show ¬ HT.sIx 4 0 (O 2)=0; decide)),λp hp=>?_⟩;have sp:=zC hp (.tup (xf [.str "range",.int mo,.str L,.str J] (O 2) J2));erw[p,[.str L,.str J],k,rfl,rfl,SqT.of zA,λv l=>?_,_,rfl,?_]
   ·rcases l9.mp l with z | l
    ·rwa[.inl ⟨L,z⟩]
    ·rwa[.inl ⟨J,g6.mp l⟩]
   have nn:([V.str L,.str J].any (isS k))=(L == k||J == k):=by
    show((L == k)||((J == k)||false))=_;rw[Jf]
   rw[nn];cases M:(L == k||J == k) with
   | true=>exact vf (g (by
     rw[hE];rintro⟨h1,h2⟩;rcases Ih _ _ |>.mp M with z | z
     ·rwa[h1 (eq_of_beq z)]
     ·rwa[h2 (eq_of_beq z)]) _ sp)
   | false =>
    rw[Bool.or_eq_false_iff] at M;rwa[zd ⟨I.trans (.of sp),sp _ _ fa,snoc (by rw[hE]; exact⟨x4.mp M.1,x4.mp M.2⟩),_,U⟩]
 ·rintro σ N ⟨I,fa,ul,u,rfl⟩;rw[b9,b9,lks,o5] at ul;have C:=G.to I;obtain⟨mvs,hm,km⟩:=C.ma;obtain⟨p,ep⟩:=j7.mp k1;obtain⟨v,ev,_⟩:=km.get (k:=.inr k) (d:=ptD p) (by rw[uu,ep]; rfl);erw[_,rfl,_,rfl,d,m, "marks",.inr k,v,_,mvs,rfl,C.at_,rC,hm,ev,StA.stKlen,λf c H4 R hf ne ef ec=>?_];have B:=C.to (.of R);have X:=(wG.of T).trans I;rw[lE] at ef;erw[q (by simp only[yC,y4 Y,y6 ul]) f H4 (X.trans (.of R)) (X.free id hf) ⟨c,b,r,t,.inl ef,⟨_,.inl ec,?_⟩,B.ba,B.ru,B.no⟩];have:=(km.to (.of R)).drop (k:=.inr k);rw[UU] at this;rwa[this]
def rJ(_:c5):Sp:=mO axC λD=>E2 λn c=>D=.bank n c
def cn_ok{H:Hp}(h:Oc H g d)(i:∀ c∈g,c.1.natAbs.log2<20/\c.2.natAbs.log2<20):Qy H (10^8) d:=λt e=>by
 obtain⟨h1,h2⟩:=i t.2 (by rw[<- h.pt]; rwa[i9.mpr ⟨t,e,rfl⟩]);have m:=lt_two_pow_of_log2_lt h1;have l:=lt_two_pow_of_log2_lt h2;have j:(2:Nat)^20<=10^8:=by decide
 rwa[h.at_ t e,by lia,by lia]
def ke(F:Fun K "after_bank" "after_bank" tJ f fd)(Z:Zs mg)(CB:Cb P w mg base)(yBv:Has P w K mg base "changed" 1 ["state","kind","key","value"] (wP K))(yBi:qJ P w K mg base "check_room" 1 ["state","kind"] (wL K))(yBz:Has P w K mg base "is_bank" 3 ["corners"] (oM K))(yAp:qJ P w K mg base "check_place" 2 ["place"] (uJ K))(yBe:qJ P w K mg base "check_free" 1 ["state","kind","name"] (qA K))(yBj:qJ P w K mg base "check_name" 1 ["name"] (qB K)):yR P w K mg base 'w' 4 f fd 'i' (rJ K):=by
 erw[F.okX vJ (λvs H Q E h=>?_) (λcdv A outer s H vs Q E hr h=>?_)]
 ·obtain⟨d,v,S,D,rfl,_⟩:=h;rfl
 obtain⟨d,v,S,D,rfl,⟨n,cs,rfl⟩,⟨m,b,r,t,st⟩,hv,tm,wl,q,j⟩:=h;obtain⟨a,cc,ps,rfl,ha,hc,cn,rc⟩:=XY hv;obtain⟨an,J,tc⟩:=tm;have B:=cb J tc;have lps:ps.length<=12:=by rw[<- cn.pt,b9] at J; rwa[J]
 refine'⟨_,(zB (PS.nox (zQ 2 vJ.nd ?_))
   (zB (PS.nox (zQ 3 vJ.nd ?_))
   (zB (zO (zS (λ_=>E) yBj zT 'e' rfl (zD (pv 2) zL)))
   (zB (zO (zS (λ_=>E) yBe zT 'e' rfl (zD (pv 0) (zD zZ (zD (pv 2) zL)))))
   (zB (xH Da rfl (xB (pv 3)) (uY 4 vJ.nd) (zE (zO (zS (λ_=>E) yAp zT 'e' rfl (zD (pv 4) zL)))))
   (zB (xL ?_ (zE (xU (λ_=>E) CB.e_BadBank i8 'a' i8 xT (zD (uR (eA hr.gd hr.units (pv 3) (uT qF))) zL))) zV)
   (zB (zO (zS (λ_=>E) yBi zT 'e' rfl (zD (pv 0) (zD zZ zL))))
   (zE (PS.nox (zN ?_)))))))))),?_⟩
 nofun
 exists _,U,a,_,_,.str n,U,U,.inr (SqT.of ha),rfl;exists _,U,a,_,_,.ref cc,U,U,.inr (SqT.of ha),rfl;refine⟨_,U,n,U,an,.of (λk1 H1 s1=>?_) (λno H1 s1=>j .badName (by simp only[yC,y6 no]) _ (.of s1))⟩;have g:=j8.mpr k1;have st1:=st.to (.of s1);obtain⟨R,hb,X⟩:=st1.ba;refine⟨_,U,_,U,d,b, "banks",n,_,R,U,st1.at_,qg,hb,'a',i4 an.2 'a',.of (λM H2 s2=>?_) (λno H2 s2=>j .taken (by
  have:n∈S.banks.map (·.1):=j8.mp λz=>no ((hZ X).mpr z);simp only[yC,y4 g,y6 this]) _ (.of (s1.trans s2)))⟩
 have M:=(hZ X).mp M;have l:=s1.trans s2;have N:=l _ _ hc;refine⟨_,U,cc,U,.inr ⟨⟨_,SqT.of N⟩,?_⟩⟩;refine YU (K:=K) (a:=cc) (xs:=sT ps) (λi σ H'=>A3 (Same H2 H') (∀ u∈ps.take i,zm u.2) (∃ u:Option V,σ=[O (.ref d),O (.ref a),O (.str n),O (.ref cc),u]))
  ⟨Same.refl _,λu Y=>(nomatch Y),J2,rfl⟩ (λi σ H' _ h=>SqT.of (h.1 _ _ N)) ?_ ?_
 ·rintro i x σ H' gx ⟨o,nr,u,rfl⟩;rw[e7,e7,Option.map_map,o6] at gx;obtain⟨T,gt,rfl⟩:=gx;have mt:=j4 gt;have mc:T.2∈cs:=by rw[<- cn.pt]; rwa[i9.mpr ⟨T,mt,rfl⟩]
  obtain⟨c1,c2⟩:=tc _ mc;refine⟨_,U,T.1,T.2.1,T.2.2,U,o _ _ (l _ _ (cn.at_ T mt)),Cs c1 'a',Cs c2 'a',.of (λk3 H4 C=>⟨o.trans C,λu Y=>?_,_,U⟩) (λno H4 C=>j .badPlace (by
   simp only[yC,y4 g,y4 M,y6 (show ¬ ∀ c∈cs,zm c from λz=>no (z _ mc))]) _ (.of (l.trans (o.trans C))))⟩
  rw[w9,gt] at Y;rcases j5.mp Y with z | z
  ·rwa[nr u z]
  ·rw[g6.mp z]; rwa[k3]
 ·rintro σ H3 ⟨o,nr,u,rfl⟩;rw[Au (by rw[wQ]; exact f7 _)] at nr;have k3:∀ c∈cs,zm c:=λc hc=>by
   rw[<- cn.pt] at hc;obtain⟨u,Y,rfl⟩:=i9.mp hc;rwa[nr u Y]
  have L:=j8.mpr k3;have s13:=l.trans o;erw[_,rfl,cc,ps,rfl,⟨.inr (SqT.of (o _ _ N)),(cn_ok cn tc).same s13⟩,by lia,λH4 C=>⟨_,rfl,?_⟩];rw[Pb,cn.pt];have e:=s13.trans C;cases k4:TQ cs with
  | false=>exact vf ⟨_,rfl,⟨_,rc.to (.of e),B.1,B.2.1,B.2.2⟩,λy _=>⟨by show 1<=sizeLine; decide,j .badBank (by simp only[yC,y4 g,y4 M,y4 L,y6 k4]) _ (.of e)⟩⟩
  | true =>
   have k4':¬ TQ cs=false:=by rw[k4]; exact λz=>nomatch z
   refine zd ?_;have st4:=st.to (.of e);have hb4:=Rd.same hb ((s2.trans o).trans C);refine⟨_,U,d,b, "banks",_,R,8,U,st4.at_,qg,hb4,'g','a',.of (λk5 H5 s5=>?_) (λno H5 s5=>j .full (by
    rw[X.length,bz] at no;simp only[yC,y4 g,y4 M,y4 L,y4 k4',y6 (show 8<=S.banks.length by lia)]) _ (.of (e.trans s5)))⟩
   rw[X.length,bz] at k5;have I:=e.trans s5;have st5:=st.to (.of I);erw[_,rfl,_,rfl,_,rfl,d,b, "banks",.inr n,.ref cc,_,R,rfl,st5.at_,qg,Rd.same hb4 s5,StA.stKlen,X.le (by rw[bz]; lia),λf c H6 s6 hf _ ef ec=>?_];have G:=I.trans s6;have p:=st.to (.of G);rw[fL] at ef;refine q (by simp only[yC,y4 g,y4 M,y4 L,y4 k4',y4 (show ¬ 8<=S.banks.length by lia)]) f H6 (.of G) (I.free hf) ⟨m,c,r,t,.inl ef,p.ma,⟨_,.inl ec,?_⟩,p.ru,p.no⟩;show wC H6 _ (bkE (S.banks++[(n,cs)]));rw[Sw,<- sy (aU M)];exact(X.to (.of ((((s2.trans o).trans C).trans s5).trans s6))).put (rc.to (.of G))
def sM(_:c5):Sp:=mO axC λD=>∃ k,D=.level k
def oV(F:Fun K "after_level" "after_level" vD f fd)(Z:Zs mg)(L:Cb P w mg base)(p:Has P w K mg base "without" 1 ["state","kind","key"] (qM K)):yR P w K mg base 'w' 2 f fd 'i' (sM K):=by
 erw[F.okX yq (λu H Q E h=>?_) (λI A outer s H u Q E hr h=>?_)]
 ·obtain⟨d,v,S,D,rfl,_⟩:=h;rfl
 obtain⟨d,v,S,D,rfl,⟨k,rfl⟩,⟨m,b,r,t,st⟩,x,tm,M,q,l⟩:=h;obtain⟨a,rfl,C⟩:=aA x;obtain⟨j,n,kn⟩:=st.ba
 refine'⟨_,(zB (PS.nox (zQ 2 yq.nd ?_))
   (zB (xL (dC (qz (yH hr) (pv 2) (zU (yH hr) (pv 0) zZ 'j')) (by with_unfolding_all rfl)) (zE (xU (λ_=>E) L.e_NoBank i8 'a' i8 xT (zD (uR (uT (cS (pv 2) qF))) zL))) zV)
   (zE (PS.nox (zN ?_))))),?_⟩
 nofun
 exists _,U,a,_,_,.str k,U,U,.inr (SqT.of C),U,_,U,_,U,d,.ref b,U,.inl ⟨_,.inr "banks",st.at_,U,qg.symm⟩,b,_,U,.inl ⟨j,.inr k,n,U,U⟩,_,rfl;cases g:vR j (.inr k) with
 | none=>exact vf ⟨_,rfl,⟨k,rfl,ai.big tm,i4 tm.2 'a'⟩,λy _=>⟨by show 1<=sizeLine; decide,l .noBank (by simp only[yC,y4 ((hZ kn).mp g)]) H (.refl _)⟩⟩
 | some v =>
  have ok:k∈S.banks.map (·.1):=j8.mp λz=>by rw[(hZ kn).mpr z] at g; cases g
  erw[zd ?_];erw[_,rfl,_,rfl,d,b, "banks",.inr k,v,_,j,rfl,st.at_,qg,n,g,StA.stKlen,λf c J i B ne o G=>?_];have e:=st.to (.of i);rw[fL] at o;erw[q (by simp only[yC,y6 ok]) f J (.of i) B ⟨m,c,r,t,.inl o,e.ma,⟨_,.inl G,?_⟩,e.ru,e.no⟩];have:=(kn.to (.of i)).drop (k:=.inr k);rw[VG] at this;rwa[this]
def qH(_:c5):Sp:=mO axC λD=>E2 λx y=>D=.sail x y
def mF(F:Fun K "after_sail" "after_sail" tO f fd)(Z:Zs mg)(CB:Cb P w mg base)(G:Has P w K mg base "changed" 1 ["state","kind","key","value"] (wP K))(J:qJ P w K mg base "check_room" 1 ["state","kind"] (wL K))(I:qJ P w K mg base "check_run" 2 ["run"] (qX K)):yR P w K mg base 'w' 3 f fd 'i' (qH K):=by
 erw[F.okX ww (λvs H Q E h=>?_) (λcdv A outer s H vs Q E hr h=>?_)]
 ·obtain⟨d,v,S,D,rfl,_⟩:=h;rfl
 obtain⟨d,v,S,D,rfl,⟨x,y,rfl⟩,⟨m,b,r,t,st⟩,hv,tm,wl,q,B⟩:=h;obtain⟨a,rfl,T⟩:=gG hv;obtain⟨tx,ty⟩:=tm
 refine'⟨_,(zB (PS.nox (zQ 2 ww.nd ?_))
   (zB (zO (zS (λ_=>E) I zT 'e' rfl (zD (pv 2) zL)))
   (zB (zO (zS (λ_=>E) J zT 'e' rfl (zD (pv 0) (zD zZ zL))))
   (zE (PS.nox (zN (xI G 'e' rfl (zD (pv 0) (zD zZ (zD (yP qe rfl Z.len oG (zD (zU (yH hr) (pv 0) zZ 'j') zL)) (zD (pv 2) zL))))))))))),?_⟩
 nofun
 erw[_,rfl,a,_,_,.int x,rfl,rfl,.inr (SqT.of T),rfl,_,rfl,a,_,_,.int y,rfl,rfl,.inr (SqT.of T),rfl,sz2,λp hp=>?_];have M:=zC hp 'r';erw[_,rfl,p,x,y,rfl,zA,tx,ty,.of (λN H2 C=>?_) (λno H2 C=>B .badRun (by simp[yC,no]) _ (.of (M.trans C)))];have j:=M.trans C;have o:=st.to (.of j);obtain⟨e,R,kv⟩:=o.ru;have ln:e.length=S.runs.length:=by rw[kv.length,uv]
 have ep:=C _ _ (show upd H p 'r' p=_ from zA);refine⟨_,U,d,r, "runs",_,e,12,U,o.at_,qZ,R,'g','a',.of (λk2 H3 l=>?_) (λno H3 l=>B .full (by simp[yC,N,show 12<=S.runs.length by lia]) _ (.of (j.trans l)))⟩;have i:=j.trans l;have n:=st.to (.of i);have z:=Rd.same R l;erw[_,rfl,_,rfl,d,.ref r,rfl,.inl ⟨_,.inr "runs",n.at_,rfl,qZ.symm⟩,r,e,rfl,z,_,rfl,d,r, "runs",.inl (e.length:Int),.ref p,_,e,rfl,n.at_,qZ,z,StA.stKlen,by lia,λf c Y L hf _ X ec=>?_];have u:=i.trans L;have g:=st.to (.of u);rw[Zy] at X;erw[q (by simp[yC,N]; lia) f Y (.of u) (i.free hf) ⟨m,b,c,t,.inl X,g.ma,g.ba,⟨_,.inl ec,?_⟩,g.no⟩];show wC Y _ (rnE (S.runs++[(x,y)]));rw[Rl,<- sy UO,<- ln];exact(kv.to (.of (l.trans L))).put (zp ((l.trans L) _ _ ep))
def sN(_:c5):Sp:=mO axC λD=>E3 λk x y=>D=.right k x y
def ng(F:Fun K "after_right" "after_right" vQ f fd)(Z:Zs mg)(CB:Cb P w mg base)(X:Has P w K mg base "changed" 1 ["state","kind","key","value"] (wP K))(G:qJ P w K mg base "check_run" 2 ["run"] (qX K)):yR P w K mg base 'w' 3 f fd 'i' (sN K):=by
 erw[F.okX sR (λvs H Q E h=>?_) (λcdv A outer s H vs Q E hr h=>?_)]
 ·obtain⟨d,v,S,D,rfl,_⟩:=h;rfl
 obtain⟨d,v,S,D,rfl,⟨k,x,y,rfl⟩,⟨m,b,r,t,st⟩,hv,tm,Y,q,B⟩:=h;obtain⟨a,rfl,M⟩:=ah hv;obtain⟨tk,tx,ty⟩:=tm
 refine'⟨_,(zB (PS.nox (zQ 2 sR.nd ?_))
   (zB (PS.nox (zQ 3 sR.nd ?_))
   (zB (xL (dC (qz (yH hr) (pv 2) (zU (yH hr) (pv 0) zZ 'j')) (by with_unfolding_all rfl)) (zE (xU (λ_=>E) CB.e_NoRun i8 'a' i8 xT (zD (uR (uT (sr (pv 2) qF))) zL))) zV)
   (zB (zO (zS (λ_=>E) G zT 'e' rfl (zD (pv 3) zL)))
   (zE (PS.nox (zN ?_))))))),?_⟩
 nofun
 exists _,U,a,_,_,.int k,U,U,.inr (SqT.of M),rfl;erw[_,rfl,a,_,_,.int x,rfl,rfl,.inr (SqT.of M),rfl,_,rfl,a,_,_,.int y,rfl,rfl,.inr (SqT.of M),rfl,sz2,λp hp=>?_];have o:=zC hp 'r';have j:=st.to (.of o);obtain⟨l,u,C⟩:=j.ru;exists _,U,_,U,d,.ref r,U,.inl ⟨_,.inr "runs",j.at_,U,qZ.symm⟩,r,_,U,.inl ⟨l,.inl k,u,U,U⟩,_,rfl;cases N:vR l (.inl k) with
 | none=>exact vf ⟨_,rfl,.inl ⟨k,rfl,Cs (show k.natAbs.log2<200 from tk) 'a'⟩,λy _=>⟨by show 1<=sizeLine; decide,B .noRun (by simp only[yC,y4 ((Wn C).mp N)]) _ (.of o)⟩⟩
 | some v =>
  have ok:0<=k/\k<S.runs.length:=j8.mp λz=>by rw[(Wn C).mpr z] at N; cases N
  erw[zd ?_];obtain⟨i,rfl⟩:=AQ ok.1;have hi:i<S.runs.length:=by lia
  erw[_,rfl,p,x,y,rfl,zA,tx,ty,.of (λk3 H3 e=>?_) (λno H3 e=>B .badRun (by simp only[yC,y6 ok,y4 no]) _ (.of (o.trans e)))];have I:=j.to (.of e);have L:=Rd.same u e;refine⟨_,U,_,U,_,U,d,r, "runs",.inl (i:Int),.ref p,_,l,U,I.at_,qZ,L,StA.stKlen,C.le (by rw[uv]; have:=Y.good.few.ru; lia),λf c T J hf _ R ec=>?_⟩;have n:=(o.trans e).trans J;have g:=st.to (.of n);rw[Zy] at R;erw[q (by simp only[yC,y6 ok,y6 k3]) f T (.of n) ((o.trans e).free hf) ⟨m,b,c,t,.inl R,g.ma,g.ba,⟨_,.inl ec,?_⟩,g.no⟩];show wC T _ (rnE (S.runs.set i (x,y)));rw[<- RN hi];exact(C.to (.of (e.trans J))).put (zp (p:=(x,y)) ((e.trans J) _ _ zA))
def rE(_:c5):Sp:=λe H Q E=>E4 λ(d:c7) (v:V) (S:BS) (D:Deed)=>A7 (e=[.ref d,v]) (aP H d S) (Rep H D.dt v) (S.notes.length<=60) (Sv S) (S.notes.length<24->∀(d':c7)(c:Hp),Same H c->H d'=J2->aP c d' { S with notes:=S.notes++[(S.coming,D)],coming:=S.coming+1 }->Q (.ref d') c) (24<=S.notes.length->∀ c,Same H c->E (.ref gJ) J2 c)
def lV(F:Fun K "after_note" "after_note" tI f fd)(Z:Zs mg)(CB:Cb P w mg base)(x:Has P w K mg base "changed" 1 ["state","kind","key","value"] (wP K))(y:qJ P w K mg base "check_room" 1 ["state","kind"] (wL K)):yR P w K mg base 'w' 2 f fd 'i' (rE K):=by
 erw[F.okX ya (λL H Q E h=>?_) (λcdv A outer s H L Q E o h=>?_)]
 ·obtain⟨d,v,S,D,rfl,_⟩:=h;rfl
 obtain⟨d,v,S,D,rfl,⟨m,b,r,t,st⟩,R,N,X,q,C⟩:=h;obtain⟨g,G,kv⟩:=st.no;have ln:g.length=S.notes.length:=by rw[kv.length,SB]
 refine⟨_,(zB (zO (zS (λ_=>E) y zT (o.mono 'a') rfl (zD (pv 0) (zD zZ zL))))
   (zB (PS.nox (aV (i:=2) ya.nd rfl (B9 rfl) (xI x (o.mono 'a') rfl (zD (pv 0) (zD zZ (zD (zU (yH o) (pv 0) zZ 'j') (zD (pv 1) zL)))))))
   (zB (PS.nox (qY (yH o) (pv 2) zZ (tZ fH (zU (yH o) (pv 0) zZ 'j') wH) rfl))
   (zE (PS.nox (zN (pv 2))))))),?_⟩
 try dsimp only[L2.cxOf,L2.cxComp,L2.Cx.nox]
 erw[_,rfl,d,t, "notes",_,g,24,rfl,st.at_,zh,G,'g','a',.of (λk1 J j=>?_) (λno J j=>C (by lia) J j)];have l:=st.to (.of j);have B:=Rd.same G j;erw[_,rfl,_,rfl,d,.int S.coming,rfl,.inl ⟨_,.inr "coming",l.at_,rfl,jx.symm⟩,_,rfl,d,t, "notes",.inl S.coming,v,_,g,rfl,l.at_,zh,B,StA.stKlen,by lia,λf c H2 M T ne I Y=>?_];have n:=j.trans M;have z:=st.to (.of n);rw[gY] at I;exists _,U,d,.int S.coming,U,.inl ⟨_,.inr "coming",z.at_,U,jx.symm⟩,_,_,U,U,_,U,f,_,U,cC.k (k:=.inr "coming") I (zM (i4 StA.stKlen 'a')),_,rfl;rw[ZK];have p:=j.free T;have u:Same H (upd H2 f (.dK (stK m b r c (S.coming+1)))):=n.putNew p;have e:=st.to (.of u);erw[q (by lia) f _ u p ⟨m,b,r,c,.inl zA,e.ma,e.ba,e.ru,⟨_,.inl (by rw[zG ne.symm]; rwa[Y]),?_⟩⟩];rw[Rw,<- sy (Ut X)];exact(kv.to (.of u)).put (R.to (.of u))
def vM(_:c5):Sp:=mO axC λD=>E6 λmo nm g d e c=>D=.bearing mo nm g d e c
def pz(F:Fun K "after_bearing" "after_bearing" wW f fd)(Z:Zs mg)(CB:Cb P w mg base)(R:qJ P w K mg base "after_note" 2 'i' (rE K))(yCq:Has P w K mg base "turn" 1 'y' (qC K))(C:qJ P w K mg base "check_way" 2 ["direction"] (vp K))(N:qJ P w K mg base "check_mark" 1 ["state","name"] (wI K))(T:qJ P w K mg base "check_moment" 1 ["moment","runs"] (xR K)):yR P w K mg base 'w' 3 f fd 'i' (vM K):=by
 erw[F.okX ub (λvs H Q E h=>?_) (λcdv A outer s H vs Q E hr h=>?_)]
 ·obtain⟨d,v,S,D,rfl,_⟩:=h;rfl
 obtain⟨d,v,S,D,rfl,⟨mo,nm,M,L,Y,X,rfl⟩,⟨m,b,r,t,st⟩,hv,tm,wl,q,g⟩:=h;obtain⟨a,p,u,rfl,B,hp,hu⟩:=uS hv;obtain⟨G,I,kr⟩:=st.ru;have o:=df tm;obtain⟨t1,an,tx1,ty1,tx2,ty2⟩:=tm
 refine'⟨_,(zB (zO (zS (λ_=>E) T zT 'e' rfl (zD ?_ (zD (zU (yH hr) (pv 0) zZ 'j') zL))))
   (zB (zO (zS (λ_=>E) N zT 'e' rfl ?_))
   (zB (zO (zS (λ_=>E) C zT 'e' rfl ?_))
   (zB (zO (zS (λ_=>E) C zT 'e' rfl ?_))
   (zB (xL ?_ (zE (xU (λ_=>E) CB.e_BadTurn i8 'a' i8 xT (zD (uR (uT (eA hr.gd hr.units (pv 1) qF))) zL))) zV)
   (zE (zN (zS (λ_=>E) R zT 'e' rfl (zD (pv 0) (zD (pv 1) zL)))))))))),?_⟩
 nofun
 by_cases l:0<=mo/\mo<=S.runs.length
 rotate_left
 ·exact⟨_,U,a,_,_,.int mo,U,U,.inr (SqT.of B),U,_,U,d,.ref r,U,.inl ⟨_,.inr "runs",st.at_,U,qZ.symm⟩,r,mo,S.runs.length,U,.inr ⟨G,I,by rw[kr.length,uv]⟩,.inr ⟨⟨by lia,Cs (show mo.natAbs.log2<200 from t1) 'a'⟩,g .noMoment (by simp only[yC,y6 l]) H (.refl _)⟩⟩
 refine⟨_,U,a,_,_,.int mo,U,U,.inr (SqT.of B),U,_,U,d,.ref r,U,.inl ⟨_,.inr "runs",st.at_,U,qZ.symm⟩,r,mo,S.runs.length,U,.inr ⟨G,I,by rw[kr.length,uv]⟩,.inl ⟨l.1,l.2,?_⟩⟩;refine⟨_,U,_,U,a,_,_,.str nm,U,U,.inr (SqT.of B),U,d,m,b,r,t,S,nm,U,st,an,.of (λk3 H1 x=>?_) (λno H1 x=>g .noMark (by
  have:zK S nm=none:=by cases e:zK S nm <;> simp[e] at no ⊢
  simp only[yC,y4 (j8.mpr l),y6 this]) _ (.of x))⟩
 have i:¬ zK S nm=none:=λz=>by rw[z] at k3; cases k3
 have ha1:=x _ _ B;erw[_,rfl,a,_,_,.ref p,rfl,rfl,.inr (SqT.of ha1),rfl,p,M,L,rfl,x _ _ hp,tx1,ty1,.of (λn H2 s2=>?_) (λno H2 s2=>g .badWay (by simp only[yC,y4 (j8.mpr l),y4 i,y6 no]) _ (.of (x.trans s2)))];have j:=x.trans s2;have ha2:=j _ _ B;erw[_,rfl,a,_,_,.ref u,rfl,rfl,.inr (SqT.of ha2),rfl,u,Y,X,rfl,j _ _ hu,tx2,ty2,.of (λk5 H3 s3=>?_) (λno H3 s3=>g .badWay (by simp only[yC,y4 (j8.mpr l),y4 i,y4 (j8.mpr n),y6 no]) _ (.of (j.trans s3)))];have c:=j.trans s3;have J:=c _ _ B;have b1:=n.2.1;have b2:=n.2.2.1;have b3:=n.2.2.2.1;have b4:=n.2.2.2.2;have n1:M.natAbs<=10^18:=by simp at b1 b2; lia
 have n2:L.natAbs<=10^18:=by simp at b3 b4; lia
 exists _,U,a,_,_,.ref p,U,U,.inr (SqT.of J),U,_,U,a,_,_,.ref u,U,U,.inr (SqT.of J),U,p,u,_,_,M,L,Y,X,U,.inr (SqT.of (c _ _ hp)),.inr (SqT.of (c _ _ hu)),U,U,U,U,n1,n2,_,_,U,U,_,rfl;erw[ifD (λz=>?_) (λk6=>?_)]
 ·exact⟨_,U,⟨_,hv.to (.of c),o.1,o.2.1,o.2.2⟩,λy _=>⟨by show 1<=sizeLine; decide,g .badTurn (by simp only[yC,y4 (j8.mpr l),y4 i,y4 (j8.mpr n),y4 (j8.mpr k5),y6 z]) _ (.of c)⟩⟩
 refine⟨_,U,_,U,d,.ref a,S,.bearing mo nm M L Y X,U,⟨m,b,r,t,st.to (.of c)⟩,hv.to (.of c),wl.good.few.no,wl.good.fresh,λk7 d' H4 s4 hd' st4=>q (by simp only[yC,y4 (j8.mpr l),y4 i,y4 (j8.mpr n),y4 (j8.mpr k5),y4 k6,y4 (show ¬ 24<=S.notes.length by lia)]) d' H4 (.of (c.trans s4)) (c.free hd') st4,
  λk7 H4 s4=>g .full (by simp only[yC,y4 (j8.mpr l),y4 i,y4 (j8.mpr n),y4 (j8.mpr k5),y4 k6,y6 k7]) _ (.of (c.trans s4))⟩
def sP(_:c5):Sp:=mO axC λD=>E3 λmo d c=>D=.range mo d c
def oU(F:Fun K "after_range" "after_range" vH f fd)(Z:Zs mg)(CB:Cb P w mg base)(J:qJ P w K mg base "after_note" 2 'i' (rE K))(L:qJ P w K mg base "check_apart" 1 ["state","left","right"] (sQ K))(x:qJ P w K mg base "check_mark" 1 ["state","name"] (wI K))(M:qJ P w K mg base "check_moment" 1 ["moment","runs"] (xR K)):yR P w K mg base 'w' 3 f fd 'i' (sP K):=by
 erw[F.okX oY (λvs H Q E h=>?_) (λcdv A outer s H vs Q E hr h=>?_)]
 ·obtain⟨d,v,S,D,rfl,_⟩:=h;rfl
 obtain⟨d,v,S,D,rfl,⟨mo,j,i,rfl⟩,⟨m,b,r,t,st⟩,hv,tm,wl,q,g⟩:=h;obtain⟨a,rfl,G⟩:=qT hv;obtain⟨y,C,kr⟩:=st.ru;obtain⟨t1,a1,a2⟩:=tm
 refine'⟨_,(zB (zO (zS (λ_=>E) M zT 'e' rfl (zD ?_ (zD (zU (yH hr) (pv 0) zZ 'j') zL))))
   (zB (zO (zS (λ_=>E) x zT 'e' rfl ?_))
   (zB (zO (zS (λ_=>E) x zT 'e' rfl ?_))
   (zB (zO (zS (λ_=>E) L zT 'e' rfl ?_))
   (zE (zN (zS (λ_=>E) J zT 'e' rfl (zD (pv 0) (zD (pv 1) zL))))))))),?_⟩
 nofun
 by_cases o:0<=mo/\mo<=S.runs.length
 rotate_left
 ·exact⟨_,U,a,_,_,.int mo,U,U,.inr (SqT.of G),U,_,U,d,.ref r,U,.inl ⟨_,.inr "runs",st.at_,U,qZ.symm⟩,r,mo,S.runs.length,U,.inr ⟨y,C,by rw[kr.length,uv]⟩,.inr ⟨⟨by lia,Cs (show mo.natAbs.log2<200 from t1) 'a'⟩,g .noMoment (by simp only[yC,y6 o]) H (.refl _)⟩⟩
 refine⟨_,U,a,_,_,.int mo,U,U,.inr (SqT.of G),U,_,U,d,.ref r,U,.inl ⟨_,.inr "runs",st.at_,U,qZ.symm⟩,r,mo,S.runs.length,U,.inr ⟨y,C,by rw[kr.length,uv]⟩,.inl ⟨o.1,o.2,?_⟩⟩;refine⟨_,U,_,U,a,_,_,.str j,U,U,.inr (SqT.of G),U,d,m,b,r,t,S,j,U,st,a1,.of (λk3 H1 u=>?_) (λno H1 u=>g .noMark (by
  have:zK S j=none:=by cases e:zK S j <;> simp[e] at no ⊢
  simp only[yC,y4 (j8.mpr o),y6 this]) _ (.of u))⟩
 have n:¬ zK S j=none:=λz=>by rw[z] at k3; cases k3
 have ha1:=u _ _ G;refine⟨_,U,_,U,a,_,_,.str i,U,U,.inr (SqT.of ha1),U,d,m,b,r,t,S,i,U,st.to (.of u),a2,.of (λY H2 X=>?_) (λno H2 X=>g .noMark (by
  have:zK S i=none:=by cases e:zK S i <;> simp[e] at no ⊢
  simp only[yC,y4 (j8.mpr o),y4 n,y6 this]) _ (.of (u.trans X)))⟩
 have p:¬ zK S i=none:=λz=>by rw[z] at Y; cases Y
 obtain⟨p1,e1⟩:=j7.mp k3;obtain⟨p2,e2⟩:=j7.mp Y;have l:=u.trans X;have I:Sq K H2 a _:=.inr (SqT.of (l _ _ G));refine⟨_,U,_,U,a,_,_,.str j,U,U,I,U,_,U,a,_,_,.str i,U,U,I,U,d,m,b,r,t,S,j,i,p1,p2,U,st.to (.of l),e1,e2,i4 a1.2 'a',i4 a2.2 'a',.of (λk5 H3 T=>?_) (λno H3 T=>g .same (by
  have:zK S j=zK S i:=by rw[e1,e2,j8.mp no]
  simp only[yC,y4 (j8.mpr o),y4 n,y4 p,y6 this]) _ (.of (l.trans T)))⟩
 have B:¬ zK S j=zK S i:=λz=>k5 (by rw[e1,e2] at z; exact t6 z);have c:=l.trans T;refine⟨_,U,_,U,d,.ref a,S,.range mo j i,U,⟨m,b,r,t,st.to (.of c)⟩,hv.to (.of c),wl.good.few.no,wl.good.fresh,λk6 d' H4 R hd' N=>q (by simp only[yC,y4 (j8.mpr o),y4 n,y4 p,y4 B,y4 (show ¬ 24<=S.notes.length by lia)]) d' H4 (.of (c.trans R)) (c.free hd') N,
  λk6 H4 R=>g .full (by simp only[yC,y4 (j8.mpr o),y4 n,y4 p,y4 B,y6 k6]) _ (.of (c.trans R))⟩
def vZ(_:c5):Sp:=mO axC λD=>∃ k,D=.strike k
def pN(F:Fun K "after_strike" "after_strike" uN f fd)(Z:Zs mg)(L:Cb P w mg base)(p:Has P w K mg base "without" 1 ["state","kind","key"] (qM K)):yR P w K mg base 'w' 2 f fd 'i' (vZ K):=by
 erw[F.okX zv (λu H Q E h=>?_) (λI A outer s H u Q E hr h=>?_)]
 ·obtain⟨d,v,S,D,rfl,_⟩:=h;rfl
 obtain⟨d,v,S,D,rfl,⟨k,rfl⟩,⟨m,b,r,t,st⟩,x,tm,M,q,l⟩:=h;obtain⟨a,rfl,C⟩:=fe x;obtain⟨j,n,kn⟩:=st.no
 refine'⟨_,(zB (PS.nox (zQ 2 zv.nd ?_))
   (zB (xL (dC (qz (yH hr) (pv 2) (zU (yH hr) (pv 0) zZ 'j')) (by with_unfolding_all rfl)) (zE (xU (λ_=>E) L.e_NoNote i8 'a' i8 xT (zD (uR (uT (sr (pv 2) (uT qF)))) zL))) zV)
   (zE (PS.nox (zN ?_))))),?_⟩
 nofun
 exists _,U,a,_,_,.int k,U,U,.inr (SqT.of C),U,_,U,_,U,d,.ref t,U,.inl ⟨_,.inr "notes",st.at_,U,zh.symm⟩,t,_,U,.inl ⟨j,.inl k,n,U,U⟩,_,rfl;cases g:vR j (.inl k) with
 | none=>exact vf ⟨_,rfl,.inl ⟨k,rfl,Cs (show k.natAbs.log2<200 from tm) 'a'⟩,λy _=>⟨by show 1<=sizeLine; decide,l .noNote (by simp only[yC,y4 ((Xg kn).mp g)]) H (.refl _)⟩⟩
 | some v =>
  have ok:k∈S.notes.map (·.1):=j8.mp λz=>by rw[(Xg kn).mpr z] at g; cases g
  erw[zd ?_];erw[_,rfl,_,rfl,d,t, "notes",.inl k,v,_,j,rfl,st.at_,zh,n,g,StA.stKlen,λf c J i B ne o G=>?_];have e:=st.to (.of i);rw[gY] at o;erw[q (by simp only[yC,y6 ok]) f J (.of i) B ⟨m,b,r,c,.inl o,e.ma,e.ba,e.ru,⟨_,.inl G,?_⟩⟩];have:=(kn.to (.of i)).drop (k:=.inl k);rw[Vb] at this;rwa[this]
def inTab(_:Deed):Prop:=True
def jF(_:c5):Sp:=mO axC inTab
def tabL:List (Key×Sp):=[(.inr "mark",rT []),(.inr "move",qD []),(.inr "unmark",vW []),(.inr "bank",rJ []),(.inr "level",sM []),(.inr "sail",qH []),(.inr "right",sN []),(.inr "bearing",vM []),(.inr "range",sP []),(.inr "strike",vZ [])]
def ZD(F:Fun K "after" "after" qx f fd)(Z:Zs mg)(i:Cb P w mg base)(o:qJ P w K mg base "after_mark" 3 'i' (rT K))(G:qJ P w K mg base "after_move" 3 'i' (qD K))(M:qJ P w K mg base "after_unmark" 2 'i' (vW K))(B:qJ P w K mg base "after_bank" 4 'i' (rJ K))(L:qJ P w K mg base "after_level" 2 'i' (sM K))(C:qJ P w K mg base "after_sail" 3 'i' (qH K))(I:qJ P w K mg base "after_right" 3 'i' (sN K))(R:qJ P w K mg base "after_bearing" 3 'i' (vM K))(J:qJ P w K mg base "after_range" 3 'i' (sP K))(N:qJ P w K mg base "after_strike" 2 'i' (vZ K)):yR P w K mg base 'w' 5 f fd 'i' (jF K):=by
 erw[F.okX ZR (λT H Q E h=>?_) (λX A outer s H T Q E hr h=>?_)]
 ·obtain⟨d,v,S,D,rfl,_⟩:=h;rfl
 obtain⟨d,v,S,D,rfl,kd,st,e,tm,j,q,c⟩:=h;have l:∀ r∈tabL,Ta P w K mg base 4 Tb r.1 r.2:=by
  intro r hr;simp only[tabL,l9,Ee,or_false] at hr;rcases hr with rfl | rfl | rfl | rfl | rfl | rfl | rfl | rfl | rfl | rfl
  ·rwa["after_mark",_,_,_,by symm,i.t_mark,o,by decide]
  ·rwa["after_move",_,_,_,by symm,i.t_move,G,by decide]
  ·rwa["after_unmark",_,_,_,by symm,i.t_unmark,M,by decide]
  ·rwa["after_bank",_,_,_,by symm,i.t_bank,B,by decide]
  ·rwa["after_level",_,_,_,by symm,i.t_level,L,by decide]
  ·rwa["after_sail",_,_,_,by symm,i.t_sail,C,by decide]
  ·rwa["after_right",_,_,_,by symm,i.t_right,I,by decide]
  ·rwa["after_bearing",_,_,_,by symm,i.t_bearing,R,by decide]
  ·rwa["after_range",_,_,_,by symm,i.t_range,J,by decide]
  ·rwa["after_strike",_,_,_,by symm,i.t_strike,N,by decide]
 refine'⟨_,(zE (zN (SW (λ_=>E) i.dAFTER i.gAFTER l zT 'e' ?_ (zD (pv 0) (zD (pv 1) zL))))),?_⟩
 nofun
 cases D with
 | mark n x y =>
  obtain⟨a,rfl,g⟩:=iJ e;rwa[_,rfl,a,_,_,.str "mark",rfl,rfl,.inr (SqT.of g),rfl,.inr "mark",_,rfl,.head _,_,rfl,_,rfl,d,.ref a,S,_,rfl,⟨_,_,_,rfl⟩,st,e,tm,j,q,c]
 | move n x y =>
  obtain⟨a,rfl,g⟩:=Wl e;rwa[_,rfl,a,_,_,.str "move",rfl,rfl,.inr (SqT.of g),rfl,.inr "move",_,rfl,.tail _ (.head _),_,rfl,_,rfl,d,.ref a,S,_,rfl,⟨_,_,_,rfl⟩,st,e,tm,j,q,c]
 | unmark n =>
  obtain⟨a,rfl,g⟩:=eI e;rwa[_,rfl,a,_,_,.str "unmark",rfl,rfl,.inr (SqT.of g),rfl,.inr "unmark",_,rfl,.tail _ (.tail _ (.head _)),_,rfl,_,rfl,d,.ref a,S,_,rfl,⟨_,rfl⟩,st,e,tm,j,q,c]
 | bank n Y =>
  obtain⟨a,_,_,rfl,g,_⟩:=XY e;rwa[_,rfl,a,_,_,.str "bank",rfl,rfl,.inr (SqT.of g),rfl,.inr "bank",_,rfl,.tail _ (.tail _ (.tail _ (.head _))),_,rfl,_,rfl,d,.ref a,S,_,rfl,⟨_,_,rfl⟩,st,e,tm,j,q,c]
 | level n =>
  obtain⟨a,rfl,g⟩:=aA e;rwa[_,rfl,a,_,_,.str "level",rfl,rfl,.inr (SqT.of g),rfl,.inr "level",_,rfl,.tail _ (.tail _ (.tail _ (.tail _ (.head _)))),_,rfl,_,rfl,d,.ref a,S,_,rfl,⟨_,rfl⟩,st,e,tm,j,q,c]
 | sail x y =>
  obtain⟨a,rfl,g⟩:=gG e;rwa[_,rfl,a,_,_,.str "sail",rfl,rfl,.inr (SqT.of g),rfl,.inr "sail",_,rfl,.tail _ (.tail _ (.tail _ (.tail _ (.tail _ (.head _))))),_,rfl,_,rfl,d,.ref a,S,_,rfl,⟨_,_,rfl⟩,st,e,tm,j,q,c]
 | right k x y =>
  obtain⟨a,rfl,g⟩:=ah e;rwa[_,rfl,a,_,_,.str "right",rfl,rfl,.inr (SqT.of g),rfl,.inr "right",_,rfl,.tail _ (.tail _ (.tail _ (.tail _ (.tail _ (.tail _ (.head _)))))),_,rfl,_,rfl,d,.ref a,S,_,rfl,⟨_,_,_,rfl⟩,st,e,tm,j,q,c]
 | bearing m n x y z t =>
  obtain⟨a,p,u,rfl,g,_⟩:=uS e;rwa[_,rfl,a,_,_,.str "bearing",rfl,rfl,.inr (SqT.of g),rfl,.inr "bearing",_,rfl,.tail _ (.tail _ (.tail _ (.tail _ (.tail _ (.tail _ (.tail _ (.head _))))))),_,rfl,_,rfl,d,.ref a,S,_,rfl,⟨_,_,_,_,_,_,rfl⟩,st,e,tm,j,q,c]
 | range m n k =>
  obtain⟨a,rfl,g⟩:=qT e;rwa[_,rfl,a,_,_,.str "range",rfl,rfl,.inr (SqT.of g),rfl,.inr "range",_,rfl,.tail _ (.tail _ (.tail _ (.tail _ (.tail _ (.tail _ (.tail _ (.tail _ (.head _)))))))),_,rfl,_,rfl,d,.ref a,S,_,rfl,⟨_,_,_,rfl⟩,st,e,tm,j,q,c]
 | strike k =>
  obtain⟨a,rfl,g⟩:=fe e;rwa[_,rfl,a,_,_,.str "strike",rfl,rfl,.inr (SqT.of g),rfl,.inr "strike",_,rfl,.tail _ (.tail _ (.tail _ (.tail _ (.tail _ (.tail _ (.tail _ (.tail _ (.tail _ (.head _))))))))),_,rfl,_,rfl,d,.ref a,S,_,rfl,⟨_,rfl⟩,st,e,tm,j,q,c]
def dbN(c:List (List Sd))(P:P3)(n:Nat):List Int:=((Ad n).filter λi=>!(iY (c.getD i []) P)).map λi=>((i:Nat):Int)
def UG(c:List (List Sd))(P:P3)(n:Nat):dbN c P (n+1)=dbN c P n++(if iY (c.getD n []) P then [] else [(n:Int)]):=by
 unfold dbN;rw[DE,Bf,f8]
 congr 1
 rw[Bj];cases iY (c.getD n []) P <;> rfl
def We(c:List (List Sd))(P:P3)(n:Nat):(dbN c P n).length<=n:=by
 unfold dbN;rw[b9];have z:=Bs (λi=>!(iY (c.getD i []) P)) (Ad n);(rw[C9] at z;assumption)
def db(c:List (List Sd))(P:P3):List Int:=dbN c P c.length
abbrev Grp:=c7×List Sd
def pJ(c:List Grp):List V:=c.map λg=>V.ref g.1
def tU(c:List Grp):(pJ c).length=c.length:=by unfold pJ; rw[b9]
def GrL(H:Hp)(c:List Grp):Prop:=∀ g∈c,H g.1=O (.lst (yM g.2))/\bE H g.2
def GrL.same{H e:Hp}(h:GrL H d)(s:Same H e):GrL e d:=λg c=>⟨s _ _ (h g c).1,(h g c).2.same s⟩
def Va{c:List Grp}{i:Nat}{k:Int}(hi:i<c.length)(d:k=i):∃ g,c[i]?=O g/\g∈c/\atI (pJ c) k=O (.ref g.1)/\(c.map (·.2)).getD i []=g.2:=by
 subst d;erw[c[i],c6 hi,r6 hi,?_,by simp[hi]];rwa[vX (by unfold pJ; rw[e7,c6 hi]; rfl)]
structure Rws(H0:Hp)(D:c7)(rs:List (c7×List Int))(H:Hp):Prop where
 same:Same H0 H
 new:H0 D=J2
 at':H D=O (.lst ((rs.map (·.1)).map V.ref))
 rows:∀ t∈rs,H t.1=O (.lst (t.2.map V.int))/\H0 t.1=J2/\t.1≠D
def Rws.app{m H e:Hp}{k:List Int}(h:Rws m D g H)(j:Same H e)(i:H p=J2)(q:e p=O (.lst (k.map V.int))) :
  Rws m D (g++[(p,k)]) (upd e D (.lst ((g.map (·.1)).map V.ref++[.ref p]))):=by
 have d:p≠D:=λz=>by rw[z,h.at'] at i; cases i
 erw[(h.same.trans j).putNew h.new,h.new,by rw[zA]; simp,λu c=>?_];rcases j5.mp c with c | c
 ·obtain⟨o,n,l⟩:=h.rows u c;rwa[by rw[zG l]; exact j _ _ o,n,l]
 ·rw[g6] at c;subst c;exact⟨by show upd e D _ p=_; rw[zG d]; exact q,h.same.free i,d⟩
def oK(K:c5):Sp:=λd H Q _=>E4 λ(l p:c7) (c:List Grp) (P:P3)=>A6 (d=[.ref l,.ref p]) (SqL K H l (pJ c)) (GrL H c) (c.length<=100) (Sq K H p [.int P.1,.int P.2.1,.int P.2.2]) (∀(D:c7),H D=J2->Q (.ref D) (upd H D (.lst ((db (c.map (·.2)) P).map V.int))))
def eW(F:Fun K "doubted" "doubted" zf f fd)(Z:Zs mg)(R:Cb P w mg base)(B:Has P w K mg base "in_water" 3 ["sides","place"] (zc K)):yR P w K mg base CX0 4 f fd ["groups","place"] (oK K):=by
 specialize fj
 ·obtain⟨l,p,c,P,rfl,_⟩:=h;rfl
 obtain⟨l,p,c,P,rfl,y,ok,M,C,q⟩:=h
 refine'⟨_,(zE (zN (xO (T:=["number"]) (caps:=[("groups",0),("place",1)]) ⟨rfl,by ac_nf,by ac_nf,rfl,⟨⟨rfl,rfl,B9 rfl⟩,⟨rfl,rfl,B9 rfl⟩,z8⟩⟩ rfl (xP rfl Z.range ?_) (λ_=>(uY 0 (show(["number","groups","place"]:List j9).Nodup by ac_nf))) (λ_=>(qy ?_)) (λ_=>(pv 0))))),?_⟩
 nofun
 refine⟨_,U,l,pJ c,U,.inl y,_,U,by rw[tU]; lia,by rw[tU]; lia,λN D z=>jC (lo:=0) (n:=(pJ c).length) (λi j d o=>A3 (o=upd H D (.lst d)) (d=(dbN (c.map (·.2)) P i).map V.int) (∃ u:Option V,j=[u,O (.ref l),O (.ref p)]))
  ⟨rfl,rfl,J2,rfl⟩ (λi j d o _ v=>by obtain⟨e,_⟩:=v; rw[e]; rwa[zA]) ?_ ?_⟩
 ·rintro i j d o hi ⟨rfl,rfl,u,rfl⟩;rw[tU] at hi;obtain⟨g,_,r,at',G⟩:=Va hi (k:=0+(i:Int)) (by lia);obtain⟨J,I⟩:=ok g r;have m:=zC z (.lst ((dbN (c.map (·.2)) P i).map V.int));erw[_,rfl,_,rfl,l,_,_,_,rfl,rfl,.inl (m.seq y),at',_,rfl,g.1,p,g.2,P,rfl,SqL.of (m _ _ J),I.same m,?_,_,rfl,?_]
  ·rwa[C.same m]
  rw[<- G];have nx:=UG (c.map (·.2)) P i;have L:=We (c.map (·.2)) P i;cases x:iY ((c.map (·.2)).getD i []) P with
  | true =>
   rw[x] at nx;erw[zd ⟨rfl,?_,_,rfl⟩];rw[nx];simp
  | false =>
   rw[x] at nx;erw[vf ⟨_,rfl,zA,zM (by rw[b9]; lia),ux,?_,_,rfl⟩];rw[nx,f8];show _++[V.int (0+(i:Int))]=_++[V.int (i:Int)];rw[BN]
 ·rintro j d o ⟨rfl,rfl,u,rfl⟩;rw[tU,show c.length=(c.map (·.2)).length by rw[b9]];rwa[q D z]
def pF{n:Nat}(h:n<=9000):n<sizeLine:=Am h 'a'
def pV(c:List Sd)(P:P3):Prop:=P=(0,0,1)\/(∃ t∈c,P=pt3 (ftL t.2))\/∃ t∈c,∃ u∈c,tn t.2 u.2≠0/\P=pt3 (crL t.2 u.2)
def yG(c:List Grp):List Sd:=c.flatMap (·.2)
def UM(c:List Sd)(n:Nat):xf (yM c) J2 (O (n:Int))=yM (c.take n):=by
 unfold xf;rw[show HT.sIx (yM c).length 0 J2=0 from rfl,HT.sIx_nat (yM c).length (yM c).length n,Gx,Jy];rw[yA];unfold yM;rw[<- DA,<- DA];by_cases h:n<=c.length
 ·rw[Es h]
 ·rw[Nat.min_eq_right (by lia),Au (f7 _),Au (by lia)]
structure Tr(ss:List Sd)(nf i j:Nat)(ps:List P3):Prop where
 each:∀ P∈ps,pV ss P
 zero:((0,0,1):P3)∈ps
 feet:∀(a:Nat)(t:Sd),a<nf->ss[a]?=O t->pt3 (ftL t.2)∈ps
 meet:∀(a b:Nat)(t u:Sd),b<a->(a<i\/(a=i/\b<j))->ss[a]?=O t->ss[b]?=O u->tn t.2 u.2≠0->pt3 (crL t.2 u.2)∈ps
def Tr.all(h:Tr c c.length c.length 0 n)(P:P3):P∈n↔pV c P:=by
 erw[h.each P,λz=>?_];rcases z with rfl | ⟨t,l,rfl⟩ | ⟨t,l,u,p,g,rfl⟩
 ·rwa[h.zero]
 ·obtain⟨a,d,m⟩:=AU l;rwa[h.feet a t d (by rw[c6 d,m])]
 ·obtain⟨a,d,m⟩:=AU l;obtain⟨b,o,q⟩:=AU p;have ga:c[a]?=O t:=by rw[c6 d,m]
  have i:c[b]?=O u:=by rw[c6 o,q]
  by_cases h1:b<a
  ·rwa[h.meet a b t u h1 (.inl d) ga i g]
  ·by_cases e:a=b
   ·subst e;rw[ga] at i;cases i;rwa[y9 (by unfold tn; rw[z9]; lia) g]
   ·have j:tn u.2 t.2≠0:=λz=>g (by unfold tn at z ⊢; rw[z9 u.2.1,z9 u.2.2.1] at z; lia);rw[XE g];rwa[h.meet b a u t (by lia) (.inl o) i ga j]
def Tr.foot{i:Nat}(h:Tr c i i 0 j)(gt:c[i]?=O t):Tr c (i+1) i 0 (j++[pt3 (ftL t.2)]):=by
 erw[λP n=>?_,Bb _ h.zero,λa u p g=>?_,λa b x y d m gx o l=>Bb _ (h.meet a b x y d m gx o l)]
 ·rcases j5.mp n with z | z
  ·rwa[h.each P z]
  ·rw[g6] at z;rwa[.inr (.inl ⟨t,j4 gt,z⟩)]
 ·by_cases e:a=i
  ·rw[e,gt] at g;cases g;rwa[t5 _ (.head _)]
  ·rwa[Bb _ (h.feet a u (by lia) g)]
def Tr.more{i j:Nat}{g c:List P3}(h:Tr d (i+1) i j g)(gt:d[i]?=O t)(o:d[j]?=O u)(sub:∀ P∈g,P∈c)(new:∀ P∈c,P∈g\/(tn t.2 u.2≠0/\P=pt3 (crL t.2 u.2)))(has:tn t.2 u.2≠0->pt3 (crL t.2 u.2)∈c):Tr d (i+1) i (j+1) c:=by
 erw[λP s=>?_,sub _ h.zero,λa x r gx=>sub _ (h.feet a x r gx),λa b x y l v gx m n=>?_]
 ·rcases new P s with z | ⟨q,p⟩
  ·rwa[h.each P z]
  ·rwa[.inr (.inr ⟨t,j4 gt,u,j4 o,q,p⟩)]
 ·by_cases e:a=i/\b=j
  ·obtain⟨rfl,rfl⟩:=e;rw[gt] at gx;rw[o] at m;cases gx;cases m;rwa[has n]
  ·rwa[sub _ (h.meet a b x y l (by lia) gx m n)]
def Tr.next{i:Nat}(h:Tr d (i+1) i i e):Tr d (i+1) (i+1) 0 e:=⟨h.each,h.zero,h.feet,λa b t u c l gt j g=>h.meet a b t u c (by lia) gt j g⟩
structure PlT(H0:Hp)(D:c7)(qs:List SpT)(H:Hp):Prop where
 same:Same H0 H
 new:H0 D=J2
 at':H D=O (.lst (rP qs))
 ok:jq H qs
def PlT.app{n H e:Hp}{l:List Int}(h:PlT n D g H)(d:Same H e)(j:H p=J2)(q:e p=O (.tup (l.map V.int)))(sp:WG l x) :
  PlT n D (g++[(p,x)]) (upd e D (.lst (rP g++[.ref p]))):=by
 have i:p≠D:=λz=>by rw[z,h.at'] at j; cases j
 erw[(h.same.trans d).putNew h.new,h.new,by rw[zA]; simp[rP],λu c=>?_];rcases j5.mp c with c | c
 ·obtain⟨m,o⟩:=h.ok u c;rwa[by rw[zG (vq (d _ _ m) (d _ _ h.at') 'z')]; exact d _ _ m,o]
 ·rw[g6] at c;subst c;erw[?_,sp.pos,sp.low];show upd e D _ p=_;rw[zG i,q,sp.list];rfl
def qP(K:c5):Sp:=λh H Q _=>E2 λ(l:c7) (c:List Grp)=>A6 (h=[.ref l]) (SqL K H l (pJ c)) (GrL H c) (c.length<=24) (∀ g∈c,g.2.length<=2) (∀(D:c7)(d:List SpT)(e:Hp),Same H e->H D=J2->e D=O (.lst (rP d))->jq e d->(∀ P,P∈d.map (·.2)↔pV (yG c) P)->d.length<=9000->Q (.ref D) e)
def rj(F:Fun K "places_to_try" "places_to_try" wV f fd)(Z:Zs mg)(CB:Cb P w mg base)(yBs:Has P w K mg base "crossing" 4 'y' (rA K))(yCp:Has P w K mg base "foot" 5 ["side"] (cu K))(yCr:Has P w K mg base "spot" 4 ["x","y","w"] (mU K)):yR P w K mg base CX0 6 f fd ["groups"] (qP K):=by
 specialize yK
 ·obtain⟨l,m,rfl,_⟩:=h;rfl
 obtain⟨l,m,rfl,hl,ok,hn,h2,q⟩:=h
 refine'⟨_,(zB (zQ 1 yK.nd ?_)
   (zB (xH v8 rfl (xB (pv 0)) (uY 2 yK.nd) (zE (zO (VT DR FG FH cr (pv 1) (zD (pv 2) zL)))))
   (zB (zQ 3 yK.nd ?_)
   (zB (xH v8 rfl (xP rfl Z.range ?_) (uY 4 yK.nd) (zB (zO (qo (pv 3) ?_))
   (zE (xH v8 rfl (Vp ?_) (uY 5 yK.nd) (zB (zQ 6 yK.nd ?_)
   (zE (xL ?_ (zE (zO (qo (pv 3) (zD (pv 6) zL)))) zV)))))))
   (zE (zN (pv 3))))))),?_⟩
 nofun
 have len:∀ k,k<=m.length->(yG (m.take k)).length<=2*k:=λk=>by
  induction k with
  | zero=>intro _; simp[yG]
  | succ k ih =>
   intro hk;have hk':k<m.length:=by lia
   have z:=ih (by lia);have g2:=h2 m[k] (r6 hk');have e:yG (m.take (k+1))=yG (m.take k)++m[k].2:=by
    unfold yG;rw[D4 hk',GO];simp
   rw[e,f9];lia
 have okS:∀{x:Hp},GrL x m->bE x (yG m):=λ{x} o t ht=>by
  obtain⟨g,hg,htg⟩:=FX.mp ht;exact(o g hg).2 t htg
 refine⟨x6 _,λd hd=>?_⟩;have T:∀ v,Same H (upd H d v):=λv=>zC hd v;refine⟨_,U,l,U,.inl ⟨⟨_,(T _).seq hl⟩,xM (K:=K) (a:=l) (xs:=pJ m) (λi C x=>x=upd H d (.lst (yM (yG (m.take i))))/\∃ Y:Option V,C=[O (.ref l),O (.ref d),Y,J2,J2,J2,J2])
  ⟨rfl,J2,rfl⟩ (λi C x _ R=>by obtain⟨e,_⟩:=R; rw[e]; exact(T _).seq hl) ?_ ?_⟩⟩
 ·rintro i v C x hi ⟨rfl,Y,rfl⟩;unfold pJ at hi;rw[e7] at hi;cases gx:m[i]? with
  | none=>rw[gx] at hi; cases hi
  | some g =>
   rw[gx] at hi;cases hi;have hil:i<m.length:=(e8.mp gx).1;have eg:=(ok g (j4 gx)).1;have lz:=len i (by lia);have g2:=h2 g (j4 gx);erw[_,rfl,.inl ⟨rfl,_,SqL.of zA⟩,_,rfl,d,g.1,_,_,rfl,rfl,zA,T _ _ _ eg,?_,?_]
   ·rw[yA,yA];rwa[Wm (by lia)]
   ·erw[?_,_,rfl];rw[ux]
    congr 2
    unfold yG;rw[D4 hil,GO,(e8.mp gx).2];simp[yM]
 ·rintro C x ⟨rfl,Y,rfl⟩;rw[tU,o5];have lz:=len m.length (f7 _);rw[o5] at lz;have N:bE (upd H d (.lst (yM (yG m)))) (yG m):=okS (ok.same (T _));have s0:=T (.lst (yM (yG m)));have ed:upd H d (.lst (yM (yG m))) d=O (.lst (yM (yG m))):=zA;generalize upd H d (.lst (yM (yG m)))=H1 at N s0 ed ⊢;clear len okS T;generalize hss:yG m=y at N ed lz q;erw[0,0,1,rfl,by decide,by ac_nf,λp X s2 hp ep=>?_];have e0:wc (upL 0 0 1)=[0,0,1]:=by ac_nf
  rw[e0] at ep;refine⟨by show 1<=sizeLine; decide,λD hD=>?_⟩;have P0:PlT X D [(p,0,0,1)] (upd X D (.lst [.ref p])):=by
   erw[zC hD _,hD,zA,λu hu=>?_];rw[g6] at hu;subst hu;exact⟨zC hD _ _ _ ep,by show(0:Int)<1; decide,by show Af (Af 0 0) 1=1; decide⟩
  have T0:Tr y 0 0 0 ([((p,0,0,1):SpT)].map (·.2)):=⟨λP hP=>by rw[g6.mp hP]; exact .inl rfl,.head _,λa t h=>y9 h (Bh _),λa b t u h1 h2=>y9 h2 (by lia)⟩;have hs12:Same H1 X:=s2;have I:=s2 _ _ ed;have ok2:=N.same s2;refine⟨_,U,d,yM y,U,.inl ((zC hD _).seq (SqL.of I)),_,U,by rw[yA]; lia,by rw[yA]; lia,uC (lo:=0) (n:=(yM y).length) (λi C x=>∃ B:List SpT,A4 (PlT X D B x) (Tr y i i 0 (B.map (·.2))) (B.length<=1+i*49) (E3 λ(u4 M L:Option V)=>C=[O (.ref l),O (.ref d),Y,O (.ref D),u4,M,L]))
   ⟨_,P0,T0,by show 1<=1+0*49; lia,J2,J2,J2,rfl⟩ ?_ ?_⟩
  ·rintro i C x hi ⟨B,r,tr,hq,u4,M,L,rfl⟩;rw[yA] at hi;obtain⟨t,mt,gt,at'⟩:=lJ (ss:=y) (i:=i) (k:=0+(i:Int)) (by lia) hi;have G:=ok2.same r.same;obtain⟨et,nt,b1,b2,b3⟩:=G t mt;have hq1:i*49<=48*49:=GC _ (by lia);erw[_,rfl,.inl ⟨rfl,_,SqL.of r.at'⟩,_,rfl,_,rfl,d,_,_,_,rfl,rfl,.inl (SqL.of (r.same _ _ I)),at',t.1,t.2,rfl,.inr (SqT.of et),nt,b1,b2,λp3 H3 s3 hp3 ep3=>?_];exists D,_,_,U,U,s3 _ _ r.at',pF (by simp only[rP,b9]; lia);have J:=r.app s3 hp3 ep3 (ft_ok nt).1;have T1:=tr.foot gt;generalize upd H3 D (.lst (rP B++[.ref p3]))=H4 at J ⊢;erw[_,rfl,_,rfl,_,rfl,d,_,rfl,SqL.of (J.same _ _ I),λc hc=>?_];rw[BN,UM];rw[BN] at at';have sc:Same H4 (upd H4 c (.lst (yM (y.take i)))):=zC hc _;have ec:upd H4 c (.lst (yM (y.take i))) c=O (.lst (yM (y.take i))):=zA;have P2:PlT X D (B++[(p3,pt3 (ftL t.2))]) (upd H4 c (.lst (yM (y.take i)))):=⟨J.same.trans sc,J.new,sc _ _ J.at',J.ok.same sc⟩;have ncD:c≠D:=λz=>by rw[z,J.at'] at hc; cases hc
   generalize upd H4 c (.lst (yM (y.take i)))=H5 at P2 ec ⊢;clear J sc hc;refine⟨c,U,⟨_,SqL.of ec⟩,xM (K:=K) (a:=c) (xs:=yM (y.take i)) (λj C x=>A3 (x c=O (.lst (yM (y.take i)))) (∃ B:List SpT,A3 (PlT X D B x) (Tr y (i+1) i j (B.map (·.2))) (B.length<=2+i*49+j)) (E2 λ(M L:Option V)=>C=[O (.ref l),O (.ref d),Y,O (.ref D),O (.int i),M,L]))
    ⟨ec,⟨_,P2,by rw[f8]; exact T1,by rw[f9,Al]; lia⟩,_,_,rfl⟩ (λj C x _ R=>by obtain⟨e,_⟩:=R; rwa[SqL.of e]) ?_ ?_⟩
   ·rintro j v C H6 hj ⟨S,⟨B,r,tr,hq⟩,M,L,rfl⟩;obtain⟨u,gu0,rfl,hjl⟩:=pE hj;rw[m8] at hjl;have gu:y[j]?=O u:=by rw[Fz (by lia)] at gu0; rwa[gu0]
    have G:=ok2.same r.same;obtain⟨et,nt,b1,b2,b3⟩:=G t mt;obtain⟨eu,nu,c1,c2,c3⟩:=G u (j4 gu);erw[_,rfl,_,rfl,d,_,_,_,rfl,rfl,.inl (SqL.of (r.same _ _ I)),at',_,rfl,t.1,u.1,t.2.1,t.2.2.1,t.2.2.2,u.2.1,u.2.2.1,u.2.2.2,rfl,.inr (SqT.of et),.inr (SqT.of eu),by lia,by lia,by lia,by lia,by lia,λh0=>?_,λh0 p7 H7 s7 hp7 ep7=>?_]
    ·exists _,U,U,_,rfl;erw[zd ?_];rwa[S,⟨B,r,tr.more gt gu (λP h=>h) (λP h=>.inl h) λz=>y9 h0 z,by lia⟩,_,_,rfl]
    ·exists _,U,U,_,rfl;erw[vf ?_];have P7:=r.app (l:=crL t.2 u.2) s7 hp7 ep7 (oW h0).1;exists _,U,.inl ⟨U,_,SqL.of (s7 _ _ r.at')⟩,_,U,D,_,_,U,U,s7 _ _ r.at',pF (by simp only[rP,b9]; lia);erw[by rw[zG ncD]; exact s7 _ _ S,⟨_,P7,?_,by rw[f9,Al]; lia⟩,_,_,rfl];rw[f8];rwa[tr.more gt gu (λP h=>Bb _ h) (λP h=>(j5.mp h).imp id λz=>⟨h0,g6.mp z⟩) λ_=>t5 _ (.head _)]
   ·rintro C H6 ⟨S,⟨B,r,tr,hq⟩,M,L,rfl⟩;rw[yA,m8,Es (by lia)] at tr hq;rwa[B,r,tr.next,by lia,_,_,_,rfl]
  ·rintro C x ⟨B,r,tr,hq,u4,M,L,rfl⟩;rw[yA] at tr hq;erw[_,rfl,q D B x ((s0.trans s2).trans r.same) ((s0.trans s2).free r.new) r.at' r.ok (λP=>tr.all P) ?_];have:y.length*49<=48*49:=GC _ (by lia);lia
def yg:∀{a b:List (List Int)},a.map pi=b.map pi->a=b
 | [],[],_=>rfl
 | [],_::_,h=>nomatch h
 | _::_,[],h=>nomatch h
 | x::a,y::b,h=>by
  rw[j3,j3] at h;injection h with h1 h2
  rw[gH h1,yg h2]
def cD.put_or(h:cD d g)(i:cD (zz d (pi k) v) c):c=g\/c=g++[k]:=by
 have e:=i.keys;unfold zz at e;split at e
 ·left;erw[yg ?_];rw[<- e,<- h.keys,x5];erw[AV λa _=>?_];show(if a.1=pi k then(a.1,v) else a).1=a.1;split <;> rfl
 ·right;erw[yg ?_];rw[<- e,f8,f8,h.keys];rfl
structure YB(H:Hp)(gs:List Grp)(kvs:List (List Key×V))(ks:List (List Int)):Prop where
 tab:cD kvs ks
 spot:∀ k∈ks,∃ sp:SpT,vR kvs (pi k)=O (.ref sp.1)/\jq H [sp]/\k=db (gs.map (·.2)) sp.2/\pV (yG gs) sp.2
structure Pz(gs:List Grp)(ks:List (List Int)):Prop where
 ne:ks≠[]
 least:∀ k∈ks,∀ P,pV (yG gs) P->k.length<=(db (gs.map (·.2)) P).length
 all:∀ P,pV (yG gs) P->(∀ k∈ks,(db (gs.map (·.2)) P).length<=k.length)->db (gs.map (·.2)) P∈ks
def YB.put{H H':Hp}(l:YB H d g h){x:SpT}(s:jq H' [x])(tr:pV (yG d) x.2)(keep:∀ b xs,H b=O 'q'->H' b=O 'q') :
  ∃ c,YB H' d (zz g (pi (db (d.map (·.2)) x.2)) (.ref x.1)) c/\(∀ k,k∈c↔k∈h\/k=db (d.map (·.2)) x.2)/\c.length<=h.length+1:=by
 obtain⟨c,r,j,q⟩:=l.tab.put (db (d.map (·.2)) x.2) (.ref x.1);erw[c,⟨r,λk v=>?_⟩,j,q];by_cases e:k=db (d.map (·.2)) x.2
 ·rwa[x,by rw[wm,y6 (by rw[e])],s,e,tr]
 ·obtain⟨sp,p,i,o,n⟩:=l.spot k (((j k).mp v).resolve_right e);erw[sp,by rw[wm,y4 (λz=>e (gH z))]; exact p,λu m=>?_,o,n];rwa[keep _ _ (i u m).1,(i u m).2]
def jE{h:List (c7×List Key)}{g:TG}{q:TE}{n:St}{s:Hp}{Q:VK}(j:Nat->St->List V->Hp->Prop)(h0:j 0 n [] (upd s D 'C'))(A:∀ i d c H,j i d c H->H D=O (.lst c))
  (v:∀ i t d c H,h[i]?=O t->j i d c H->g (.ref t.1) d H λl B=>q l B λy r=>r D=O (.lst c)/\c.length<sizeLine/\j (i+1) l (c++[y]) (upd r D (.lst (c++[y]))))
  (hd:∀ d c H,j h.length d c H->Q (.ref D) H):nD (Itk h) D g Qr q n s Q:=by
 exists λi m d c H=>m=h.length-i/\i<=h.length/\j i d c H,⟨_,U,x6 _,h0⟩;rintro i m d c H ⟨rfl,hi,p⟩;exists A i d c H p;by_cases o:i<h.length
 ·erw[.inr ⟨o,j (i+1),λu E C z=>⟨h.length-(i+1),by lia,rfl,o,z⟩,λx C y=>?_⟩];obtain⟨rfl,t,gt,rfl⟩:=y;rwa[v i t d c _ gt p]
 ·have e:i=h.length:=by lia
  subst e;rwa[.inl ⟨f7 _,hd d c H p⟩]
def Vg:Nat->List (List Int)
 | 0=>[[]]
 | n+1=>Vg n++(Vg n).map (· ++ [(n:Int)])
def aq:∀ n,(Vg n).length=2^n
 | 0=>rfl
 | n+1=>by rw[Vg,f9,b9,aq n,Hh]; lia
def aX:∀ n,∃ r,Vg n=[]::r
 | 0=>⟨[],rfl⟩
 | n+1=>by
  obtain⟨r,e⟩:=aX n;rwa[r++(Vg n).map (· ++ [(n:Int)]),by rw[Vg,e]; rfl]
def WD(c:List (List Sd))(P:P3):∀ n,dbN c P n∈Vg n
 | 0=>.head _
 | n+1=>by
  have d:=WD c P n;have e:dbN c P (n+1)=dbN c P n++(if iY (c.getD n []) P=J3 then [] else [(n:Int)]):=by
   unfold dbN;rw[DE,Bf,f8]
   congr 1
   rw[Bj];cases h:iY (c.getD n []) P <;> rfl
  rw[e,Vg,j5];split
  ·rw[BX]; rwa[.inl d]
  ·rwa[.inr (i9.mpr ⟨_,d,rfl⟩)]
def QU{c:List (List Sd)}(i:c.length<=6){d:List (List Int)}(nd:d.Nodup)(j:∀ k∈d,∃ P,k=db c P)(p:64<=d.length):[]∈d:=by
 refine Classical.byContradiction λno=>?_;obtain⟨r,e⟩:=aX c.length;have sub:d ⊆ r:=λk h=>by
  obtain⟨P,l⟩:=j k h;have m:k∈Vg c.length:=by rw[l]; rwa[WD c P _]
  rw[e] at m;rcases l9.mp m with z | z
  ·rw[z] at h; rwa[y9 h no]
  ·rwa[z]
 have o:=List.Nodup.length_le_of_subset nd sub;have g:=aq c.length;rw[e,g8] at g;have n:2^c.length<=2^6:=Nat.pow_le_pow_right 'a' i;have:(2:Nat)^6=64:=rfl;lia
def zn(K:c5):Sp:=λi H Q _=>E2 λ(l:c7) (c:List Grp)=>A6 (i=[.ref l]) (SqL K H l (pJ c)) (GrL H c) (c.length<=6) (∀ g∈c,g.2.length<=2) (∀(D:c7)(d:List (List Key×V))(e:List (List Int))(h:Hp),Same H h->H D=J2->h D=O (.dT d)->YB h c d e->Pz c e->e.Pairwise (λa b=>HT.lexLt b a=J7)->e.length<=9000->Q (.ref D) h)
def pW(F:Fun K "least_doubts" "least_doubts" uK f fd)(Z:Zs mg)(CB:Cb P w mg base)(yAa:Has P w K mg base "places_to_try" 6 ["groups"] (qP K))(yBu:Has P w K mg base "doubted" 4 ["groups","place"] (oK K)):yR P w K mg base CX0 7 f fd ["groups"] (zn K):=by
 specialize yZ
 ·obtain⟨l,B,rfl,_⟩:=h;rfl
 obtain⟨l,B,rfl,hl,ok,hn,h2,q⟩:=h;have hu1:=Am (Du (show 1<=64 by decide) _) hr.units;have hu2:=Am (Du (show 2<=64 by decide) _) hr.units
 refine'⟨_,(zB (zQ 1 yZ.nd gr)
   (zB (xH v8 rfl (xB ?_) (uY 2 yZ.nd) (zE (qY (yH hr) (pv 1) ?_ (pv 2) rfl)))
   (zB (zQ 3 yZ.nd (yP (Wd rfl) rfl Z.min TY (zD (Zh (T:=["choice"]) (caps:=[]) ⟨rfl,by ac_nf,by ac_nf,rfl,z8⟩ rfl (pv 1) (λ_=>(uY 0 (show(["choice"]:List j9).Nodup by ac_nf))) (λ_=>yX) (λ_=>?_)) zL)))
   (zB (zQ 4 yZ.nd gr)
   (zB (xH v8 rfl (xB (yP (iL hu2) rfl Z.sorted wv (zD (tV (og rfl) rfl Z.list pU (zD (pv 1) zL)) zL))) (uY 5 yZ.nd) (zE (xL ?_ (zE (qY (yH hr) (pv 4) (pv 5) (zU (yH hr) (pv 1) (pv 5) 'j') rfl)) zV)))
   (zE (zN (pv 4)))))))),?_⟩
 nofun
 refine λd hd=>?_;have s0:=zC hd (.dT []);refine⟨_,U,l,B,U,s0.seq hl,ok.same s0,(by lia),h2,λp1 qs H1 s1 hp1 ep1 okq mem hq=>?_⟩;have ed1:=s1 _ _ (show upd H d (.dT []) d=O (.dT []) from zA);refine⟨p1,U,.inl ⟨⟨_,SqL.of ep1⟩,xM (K:=K) (a:=p1) (xs:=rP qs) (λi N I=>A3 (∀ b o,H1 b=O o->b≠d->I b=O o) (E2 λr L=>A4 (I d=O (.dT r)) (YB I B r L) (L.length<=i) (∀ j x,j<i->qs[j]?=O x->db (B.map (·.2)) x.2∈L)) (E4 λ(u2 u3 u4 u5:Option V)=>N=[O (.ref l),O (.ref d),u2,u3,u4,u5]))
  ⟨λb o e _=>e,⟨[],[],ed1,⟨.nil,λk R=>nomatch R⟩,f7 _,λj x h=>y9 h (Bh _)⟩,J2,J2,J2,J2,rfl⟩ (λi N I _ hq'=>SqL.of (hq'.1 _ _ ep1 ?_)) ?_ ?_⟩⟩
 ·rwa[vq ep1 ed1 'z']
 ·rintro i v N H2 hi ⟨kp,⟨r,L,eD,sh,R,done⟩,u2,u3,u4,u5,rfl⟩;rw[e7,e7] at hi;cases gx:qs[i]? with
  | none=>rw[gx] at hi; cases hi
  | some x =>
   rw[gx] at hi;cases hi;have hx:=okq x (j4 gx);have nxd:x.1≠d:=vq hx.1 ed1 'z';have ex2:=kp _ _ hx.1 nxd;have ld:∀{b:c7}{o:HO},H b=O o->b≠d:=λ{b o} e z=>by rw[z,hd] at e; cases e
   have h12:∀{b:c7}{o:HO},H b=O o->H2 b=O o:=λ{b o} e=>kp _ _ (s1 _ _ (s0 _ _ e)) (ld e);have s02:Same H H2:=λb o e=>h12 e;refine⟨_,U,_,U,_,U,_,U,l,x.1,B,x.2,U,s02.seq hl,ok.same s02,by lia,.inr (SqT.of ex2),λD hD=>?_⟩;have sD:=zC hD (.lst ((db (B.map (·.2)) x.2).map V.int));refine⟨D,_,U,.inl ⟨SqL.of zA,λt ht=>?_⟩⟩;have st:=zC ht (.tup ((db (B.map (·.2)) x.2).map V.int));have eD4:=st _ _ (sD _ _ eD);have kl:=sh.tab.len;have J:=sD.trans st;have et:upd (upd H2 D (.lst ((db (B.map (·.2)) x.2).map V.int))) t (.tup ((db (B.map (·.2)) x.2).map V.int)) t=O (.tup ((db (B.map (·.2)) x.2).map V.int)):=zA;generalize upd (upd H2 D (.lst ((db (B.map (·.2)) x.2).map V.int))) t (.tup ((db (B.map (·.2)) x.2).map V.int))=H4 at J eD4 et ⊢;have hi2:i<qs.length:=(e8.mp gx).1;exists d,_,U,cC.t (k:=pi (db (B.map (·.2)) x.2)) eD4 (by rw[ur]; exact et) (by rw[kl]; exact pF (by lia));have g:∀(b:c7)(xs:List V),H2 b=O 'q'->upd H4 d (.dT (zz r (pi (db (B.map (·.2)) x.2)) (.ref x.1))) b=O 'q':=λb xs e=>by
    rw[zG (vq (J _ _ e) eD4 'z')];rwa[J _ _ e]
   obtain⟨ks',Y,G,len'⟩:=sh.put (H':=upd H4 d (.dT (zz r (pi (db (B.map (·.2)) x.2)) (.ref x.1)))) (x:=x) (λu hu=>by rw[g6] at hu; subst hu; rwa[g _ _ ex2,hx.2]) ((mem x.2).mp (Az (j4 gx))) g;erw[λb o e n=>by rw[zG n]; exact J _ _ (kp b o e n),⟨_,ks',zA,Y,by lia,λj y hj gy=>?_⟩,_,_,_,_,rfl];by_cases e:j=i
   ·rw[e,gx] at gy;cases gy;exact(G _).mpr (.inr rfl)
   ·exact(G _).mpr (.inl (done j y (by lia) gy))
 ·rintro N H2 ⟨kp,⟨r,L,eD,sh,R,done⟩,u2,u3,u4,u5,rfl⟩;have lq:(rP qs).length=qs.length:=by simp
  rw[lq] at R done;have ld:∀{b:c7}{o:HO},H b=O o->b≠d:=λ{b o} e z=>by rw[z,hd] at e; cases e
  have s02:Same H H2:=λb o e=>kp _ _ (s1 _ _ (s0 _ _ e)) (ld e);have all:∀ P,pV (yG B) P->db (B.map (·.2)) P∈L:=λP hP=>by
   obtain⟨x,hx,e⟩:=i9.mp ((mem P).mpr hP);obtain⟨j,hj,ej⟩:=AU hx;rw[<- e];rwa[done j x hj (by rw[c6 hj,ej])]
  clear kp done okq mem;refine⟨_,U,d,r,U,eD,λts ets hts cc D hD=>jE (λi N ys I=>A3 (I=upd (wF H2 d) D (.lst ys)) (ys=((ts.take i).map λt=>V.int (t.2.length:Int))) (∃ u:Option V,N=[u]))
   ⟨rfl,rfl,J2,rfl⟩ (λi N ys I hq'=>by obtain⟨e,_⟩:=hq'; rw[e]; rwa[zA]) ?_ ?_⟩
  ·rintro i t N ys I gt ⟨rfl,rfl,u,rfl⟩;have ht:=hts t (j4 gt);have htd:t.1≠d:=vq ht eD 'z';have htD:t.1≠D:=λz=>by rw[z,hD] at ht; cases ht
   have til:i<ts.length:=(e8.mp gt).1;have tl:ts.length=r.length:=by have z:=congrArg Ay ets; (rw[b9,b9] at z;assumption)
   have kl:=sh.tab.len;erw[_,rfl,t.1,_,rfl,.inr (SqT.of (by rw[zG htD,wZ htd]; rwa[ht])),zA,pF (by rw[b9,m8]; lia),ux,?_,_,rfl];rw[wM gt,f8,b9];rfl
  ·rintro N ys I ⟨rfl,rfl,u,rfl⟩;erw[λ_=>?_];have nDd:D≠d:=λz=>by rw[z,eD] at hD; cases hD
   rw[Vy eD nDd,o5];have lens:(ts.map λt=>(t.2.length:Int))=L.map λk=>(k.length:Int):=by
    have z:=congrArg (List.map λt:List Key=>(t.length:Int)) (ets.trans sh.tab.keys);rw[x5,x5] at z;erw[z.trans (AV λk _=>?_)];show((pi k).length:Int)=_;unfold pi;rw[b9]
   have kne:L≠[]:=λz=>by have:=all (0,0,1) (.inl rfl); rw[z] at this; cases this
   erw[D,ts.map (λt=>(t.2.length:Int)),rfl,SqL.of (by rw[zA,x5]; rfl),by rw[lens]; exact λz=>kne (List.map_eq_nil_iff.mp z),λM m1 m2=>?_];rw[lens] at m1 m2;obtain⟨k0,mk0,ek0⟩:=i9.mp m1;have m3:∀ k∈L,M<=(k.length:Int):=λk R=>m2 _ (Az (f:=λk:List Int=>(k.length:Int)) R);have s3:=zC hD (.lst (ts.map λt=>V.int (t.2.length:Int)));generalize upd H2 D (.lst (ts.map λt=>V.int (t.2.length:Int)))=H3 at s3 ⊢;clear lens m1 m2 ets hts;erw[λX hd2=>?_];have s4:=zC hd2 (.dT []);have ed4:=(s3.trans s4) _ _ eD;have e24:upd H3 X (.dT []) X=O (.dT []):=zA;have ndd:d≠X:=λz=>by rw[<- z] at hd2; rw[s3 _ _ eD] at hd2; cases hd2
   have J:=s3.trans s4;have hd20:H2 X=none:=s3.free hd2;generalize upd H3 X (.dT [])=H4 at J ed4 e24 ⊢;clear s3 s4;erw[_,rfl,d,r,rfl,ed4,λp5 ts5 hp5 ets5 hts5=>?_];obtain⟨us,w1,w2,w3⟩:=sh.tab.refs ets5 hts5;have s5:=zC hp5 (.lst ((ts5.map (·.1)).map V.ref));have ep5:upd H4 p5 (.lst ((ts5.map (·.1)).map V.ref)) p5=O (.lst ((us.map (·.1)).map V.ref)):=by rw[zA,w1]
   generalize upd H4 p5 (.lst ((ts5.map (·.1)).map V.ref))=H5 at s5 ep5 ⊢;refine⟨p5,us,U,SqL.of ep5,λt ht=>s5 _ _ (w3 t ht),λp6 us6 hp6 pm pw=>?_⟩;have s6:=zC hp6 (.lst ((us6.map (·.1)).map V.ref));have ep6:upd H5 p6 (.lst ((us6.map (·.1)).map V.ref)) p6=O (.lst ((us6.map (·.1)).map V.ref)):=zA;generalize upd H5 p6 (.lst ((us6.map (·.1)).map V.ref))=H6 at s6 ep6 ⊢;have s46:=s5.trans s6;have eu6:∀ u∈us6,H6 u.1=O (.tup (u.2.map V.int)):=λu hu=>s46 _ _ (w3 u (pm.mem_iff.mp hu));have mu6:∀ k,k∈L↔∃ u∈us6,u.2=k:=λk=>by
    rw[<- w2,i9];rwa[λ⟨u,h1,h2⟩=>⟨u,pm.mem_iff.mpr h1,h2⟩,λ⟨u,h1,h2⟩=>⟨u,pm.mem_iff.mp h1,h2⟩]
   have lu:us6.length<=9000:=by
    have z:=congrArg Ay w2;rw[b9] at z;rw[pm.length_eq,z];lia
   have lk:us.length=L.length:=by have z:=congrArg Ay w2; (rw[b9] at z;assumption)
   have dbk:∀ k∈L,∃ P,k=db (B.map (·.2)) P:=λk R=>let ⟨sp,_,_,e,_⟩:=sh.spot k R;⟨_,e⟩;have ndk:=sh.tab.nodup;rw[lk] at pw;have e26:=s46 _ _ e24;have ed6:=s46 _ _ ed4;have s26:=J.trans s46;clear w1 w2 w3 pm ep5 s5 s6 hp5 hp6 ets5 hts5;refine⟨p6,U,.inl ⟨⟨_,SqL.of ep6⟩,xM (K:=K) (a:=p6) (xs:=(us6.map (·.1)).map V.ref) (λi N I=>A3 (∀ b o,H6 b=O o->b≠X->I b=O o) (E2 λc m=>A5 (I X=O (.dT c)) (YB I B c m) (m.length<=i) (m.Sublist ((us6.take i).map (·.2))) (∀ k,k∈m↔∃ j u,j<i/\us6[j]?=O u/\u.2=k/\(k.length:Int)=M)) (∃ u5:Option V,N=[O (.ref l),O (.ref d),u2,O (.int M),O (.ref X),u5]))
    ⟨λb o e _=>e,⟨[],[],e26,⟨.nil,(λk R=>nomatch R)⟩,f7 _,List.nil_sublist _,λk=>⟨(λh=>nomatch h),λ⟨j,u,h,_⟩=>y9 h (Bh _)⟩⟩,_,rfl⟩ (λi N I _ hq'=>by obtain⟨e,_⟩:=hq'; rwa[SqL.of (e _ _ ep6 (vq ep6 e26 'z'))]) ?_ ?_⟩⟩
   ·rintro i v N H7 hi ⟨kp,⟨c,m,eD7,S,hk2,p,C⟩,u5,rfl⟩;rw[e7,e7] at hi;cases gx:us6[i]? with
    | none=>rw[gx] at hi; cases hi
    | some x =>
     rw[gx] at hi;cases hi;have hx:=eu6 x (j4 gx);have ex7:=kp _ _ hx (vq hx e26 'z');have ed7:=kp _ _ ed6 ndd;have hi2:i<us6.length:=(e8.mp gx).1;have xk:x.2∈L:=(mu6 x.2).mpr ⟨x,j4 gx,rfl⟩;exists _,U,x.1,_,U,.inr (SqT.of ex7),_,U,U,_,rfl;rw[b9];erw[ifE (λhe=>?_) (λhe=>?_)]
     ·obtain⟨sp,v1,v2,v3,v4⟩:=sh.spot x.2 xk;have hsp:=v2 sp (.head _);have esp6:=s26 _ _ hsp.1;have esp7:=kp _ _ esp6 (vq esp6 e26 'z');have kl:=S.tab.len;refine⟨_,U,_,U,d,.ref sp.1,U,by rw[<- v1]; exact YZ.t (k:=pi x.2) ed7 (by rw[ur]; exact ex7),?_⟩;exists _,U,_,U,X,_,U,cC.t (k:=pi x.2) eD7 (by rw[ur]; exact ex7) (by rw[kl]; exact pF (by lia));have g:∀(b:c7)(xs:List V),H7 b=O 'q'->upd H7 X (.dT (zz c (pi x.2) (.ref sp.1))) b=O 'q':=λb xs e=>by
       rw[zG (vq e eD7 'z')];rwa[e]
      obtain⟨ks',Y,G,len'⟩:=S.put (H':=upd H7 X (.dT (zz c (pi x.2) (.ref sp.1)))) (x:=sp) (λu hu=>by rw[g6] at hu; subst hu; rwa[g _ _ esp7,hsp.2]) v4 g;rw[<- v3] at Y G;erw[λb o e n=>by rw[zG n]; exact kp b o e n,⟨_,ks',zA,Y,by lia,?_,λk=>?_⟩,_,rfl]
      ·rw[wM gx,f8];rcases cD.put_or S.tab Y.tab with e | e
       ·rw[e]; rwa[p.trans (FI _ _)]
       ·rw[e]; rwa[JP p (JW _)]
      rw[G k,C k];erw[λz=>?_,λ⟨j,u,h1,h2,h3,h4⟩=>?_]
      ·rcases z with ⟨j,u,h1,h2⟩ | z
       ·rwa[j,u,by lia,h2]
       ·rwa[i,x,CI _,gx,z.symm,by rw[z]; exact he]
      ·by_cases e:j=i
       ·rw[e,gx] at h2;cases h2;rwa[.inr h3.symm]
       ·rwa[.inl ⟨j,u,by lia,h2,h3,h4⟩]
     ·erw[kp,⟨c,m,eD7,S,by lia,by rw[wM gx,f8]; exact p.trans (FI _ _),λk=>?_⟩,_,rfl];rw[C k];erw[λ⟨j,u,h1,h2⟩=>⟨j,u,by lia,h2⟩,λ⟨j,u,h1,h2,h3,h4⟩=>?_];by_cases e:j=i
      ·rw[e,gx] at h2;cases h2;rw[h3] at he;rwa[y9 h4 he]
      ·rwa[j,u,by lia,h2,h3,h4]
   ·rintro N H7 ⟨kp,⟨c,m,eD7,S,hk2,p,C⟩,u5,rfl⟩;exists _,rfl;have n02:H X=none:=s02.free hd20;have same7:Same H H7:=λb o e=>kp _ _ (s26 _ _ (s02 _ _ e)) λz=>by rw[z,n02] at e; cases e
    have lu6:((us6.map (·.1)).map V.ref).length=us6.length:=by simp
    rw[lu6] at C;have in2:∀ k,k∈m↔k∈L/\(k.length:Int)=M:=λk=>by
     rw[C,mu6];erw[λ⟨j,u,h1,h2,h3,h4⟩=>⟨⟨u,j4 h2,h3⟩,h4⟩,λ⟨⟨u,h1,h2⟩,h3⟩=>?_];obtain⟨j,hj,ej⟩:=AU h1;rwa[j,u,hj,by rw[c6 hj,ej],h2,h3]
    erw[q X c m H7 same7 n02 eD7 S ⟨λz=>?_,λk R P hP=>?_,λP hP hall=>?_⟩ ?_ ?_]
    ·have:=(in2 k0).mpr ⟨mk0,ek0⟩;rw[z] at this;cases this
    ·have z1:=((in2 k).mp R).2;have z2:=m3 _ (all P hP);lia
    ·refine(in2 _).mpr ⟨all P hP,?_⟩;have z1:=hall k0 ((in2 k0).mpr ⟨mk0,ek0⟩);have z2:=m3 _ (all P hP);lia
    ·by_cases h64:L.length<64
     ·rw[lu6,o5] at p;erw[JE p ?_];rw[BU];rwa[pw h64]
     ·have z0:=m3 _ (QU (by rw[b9]; exact hn) ndk dbk (by lia));have e0:∀ k∈m,k=[]:=λk R=>by
       have z1:=((in2 k).mp R).2;have z2:(([]:List Int).length:Int)=0:=rfl;rwa[CN.mp (by lia)]
      rw[Dp];intro i j hi hj _;rw[e0 _ (r6 hi),e0 _ (r6 hj)];rfl
    ·rw[lu6] at hk2;rwa[i4 hk2 lu]
def oh(K:c5):Sp:=λe H Q _=>E2 λ(l:c7) (c:List Grp)=>A6 (e=[.ref l]) (SqL K H l (pJ c)) (GrL H c) (c.length<=6) (∀ g∈c,g.2.length<=2) (∀(D:c7)(fs:List (c7×List Int))(d:Hp),Same H d->H D=J2->d D=O (.lst ((fs.map (·.1)).map V.ref))->(∀ t∈fs,d t.1=O (.lst (t.2.map V.int))/\H t.1=J2/\t.1≠D)->(∀ k∈fs.map (·.2),∃ P,pV (yG c) P/\k=db (c.map (·.2)) P)->Pz c (fs.map (·.2))->(fs.map (·.2)).Nodup->(fs.map (·.2)).Pairwise (λa b=>HT.lexLt b a=J7)->fs.length<=9000->Q (.ref D) d)
def eX(F:Fun K "choices" "choices" za f fd)(Z:Zs mg)(CB:Cb P w mg base)(yAk:Has P w K mg base "least_doubts" 7 ["groups"] (zn K)):yR P w K mg base CX0 8 f fd ["groups"] (oh K):=by
 specialize dW
 ·obtain⟨l,gs,rfl,_⟩:=h;rfl
 obtain⟨l,gs,rfl,hl,ok,hn,h2,q⟩:=h
 refine'⟨_,(zE (zN (Zh (T:=["choice"]) (caps:=[]) ⟨rfl,by ac_nf,by ac_nf,rfl,z8⟩ rfl ?_ (λ_=>(uY 0 (show(["choice"]:List j9).Nodup by ac_nf))) (λ_=>yX) (λ_=>?_)))),?_⟩
 nofun
 erw[_,rfl,l,gs,rfl,hl,ok,hn,h2,λd n M H1 I hd C G le pw lk=>?_];erw[d,n,rfl,C,λts X N cc D B=>?_];obtain⟨g,w1,w2,w3⟩:=G.tab.refs X N;have lt:ts.length=g.length:=by have z:=congrArg Ay w1; rw[b9,b9] at z; rwa[z.symm]
 have lu:g.length=M.length:=by have z:=congrArg Ay w2; (rw[b9] at z;assumption)
 have nDd:D≠d:=λz=>by rw[z,C] at B; cases B
 have v:wF H1 d D=none:=uB B;refine jE (λi x y p=>(∃ j:List (c7×List Int),A3 (y=(j.map (·.1)).map V.ref) (Rws (wF H1 d) D j p) (j.map (·.2)=M.take i))/\∃ u:Option V,x=[u])
  ⟨⟨[],rfl,⟨zC v _,v,zA,(λt S=>nomatch S)⟩,rfl⟩,J2,rfl⟩ (λi x y p ⟨⟨j,e,R,_⟩,_⟩=>by rw[e]; rwa[R.at']) ?_ ?_
 ·rintro i t x y p gt ⟨⟨j,rfl,R,em⟩,u,rfl⟩;have hi:i<ts.length:=(e8.mp gt).1;have gu:g[i]?=O g[i]:=c6 (by lia);have e1:g[i].1=t.1:=by
   have z:=congrArg (λl:List c7=>l[i]?) w1;simp only[e7,gu,gt,AB] at z;rwa[t6 z]
  have ek:M[i]?=O g[i].2:=by
   have z:=congrArg (λl:List (List Int)=>l[i]?) w2;simp only[e7,gu,AB] at z;rwa[z.symm]
  have et:=w3 g[i] (r6 _);rw[e1] at et;have m:t.1≠d:=vq et C 'z';have Y:=R.same _ _ ((wZ m).trans et);have lr:j.length=i:=by have z:=congrArg Ay em; rw[b9,m8] at z; lia
  erw[_,rfl,t.1,_,rfl,.inr (SqT.of Y),λc hc=>?_];have sc:=zC hc (.lst (g[i].2.map V.int));erw[sc _ _ R.at',pF (by simp only[b9]; lia),⟨_,by simp,R.app sc hc zA,?_⟩,_,rfl];rw[f8,em,wM ek];rfl
 ·rintro x y p ⟨⟨j,rfl,R,em⟩,u,rfl⟩ r;rw[lt,lu,o5] at em;have L:∀{b:c7}{o:HO},p b=O o->upd p d (.dT n) b=O o:=λ{b o} e=>by
   rw[zG λz=>by rw[z,r] at e; cases e];rwa[e]
  have sB:Same H1 (upd p d (.dT n)):=λb o e=>by
   by_cases c:b=d
   ·subst c;rw[C] at e;cases e;rwa[zA]
   ·rwa[L (R.same _ _ ((wZ c).trans e))]
  erw[q D j _ (I.trans sB) (I.free B) (L R.at') (λt S=>?_) (λk hk=>?_) (by rw[em]; rwa[le]) (by rw[em]; rwa[G.tab.nodup]) (by rw[em]; rwa[pw]) ?_]
  ·obtain⟨J,r2,r3⟩:=R.rows t S;have r4:=L J;erw[r4,?_,r3];have m:t.1≠d:=λz=>by rw[z,r] at J; cases J
   rw[wZ m] at r2;rwa[I.free r2]
  ·rw[em] at hk;obtain⟨sp,_,_,e1,e2⟩:=G.spot k hk;rwa[_,e2,e1]
  ·have z:=congrArg Ay em;rw[b9] at z;lia
def re(_:c5):Sp:=λg H Q _=>E4 λ(d:c7) (v:V) (S:BS) (D:Deed)=>A6 (g=[v,.ref d]) (Rep H D.dt v) (sk H d S) (qI S D) (∀ e∈S.marks,zm e.2) (∀(l:c7)(as:List c7)(c:Hp),Same H c->c l=O (.lst (as.map V.ref))->xD c as (ym S D)->Q (.ref l) c)
def iN(F:Fun K "sides_of" "sides_of" qK f fd)(Z:Zs mg)(CB:Cb P w mg base)(B:Has P w K mg base "range_side" 4 ["left","right"] (yh K))(C:Has P w K mg base "bearing_sides" 4 ["place","one","other"] (qL K)):yR P w K mg base CX0 5 f fd ["note","places"] (re K):=by
 specialize gv
 ·obtain⟨d,v,S,D,rfl,_⟩:=h;rfl
 obtain⟨d,v,S,D,rfl,rep,⟨j,hd,M⟩,kn,N,q⟩:=h
 refine'⟨_,(zB (xL ?_ (zE (zN (xI C 'e' rfl (zD (zU (yH hr) (pv 1) ?_ 'j') (zD ?_ (zD ?_ zL)))))) zV)
   (zE (zN (Wu (zD (xI B 'e' rfl (zD (zU (yH hr) (pv 1) ?_ 'j') (zD (zU (yH hr) (pv 1) ?_ 'j') zL))) zL))))),?_⟩
 nofun
 cases D with
 | bearing m n a b c e =>
  obtain⟨t,p1,p2,rfl,u,h1,h2⟩:=uS rep;obtain⟨_,_,hn,w1,w2⟩:=kn;obtain⟨pt,g⟩:=j7.mp hn;obtain⟨pa,X,T⟩:=M n pt g;obtain⟨n1,n2,n3,n4⟩:=tW N g;exists _,U,t,_,0,.str "bearing",U,U,.inr (SqT.of u),U,U,_,rfl;erw[vf ?_];have o:Sq K H t _:=.inr (SqT.of u);exists _,U,_,U,t,_,2,.str n,U,U,o,U,d,.ref pa,U,.inl ⟨j,.inr n,hd,U,X.symm⟩,_,U,t,_,3,.ref p1,U,U,o,U,_,U,t,_,4,.ref p2,U,U,o,rfl;obtain⟨I,w11,w12,w13,w14⟩:=w1;obtain⟨G,w21,w22,w23,w24⟩:=w2;refine⟨pa,p1,p2,pt.1,pt.2,a,b,c,e,U,SqT.of T,SqT.of h1,SqT.of h2,(by lia),(by lia),(by dsimp only at *; lia),(by dsimp only at *; lia),(by dsimp only at *; lia),(by dsimp only at *; lia),?_,?_,λl p q' H' J Y e2 e3=>?_⟩
  ·rcases Ga (a=0) with z | z
   ·rwa[.inr λx=>I (by rw[z,x])]
   ·rwa[.inl z]
  ·rcases Ga (c=0) with z | z
   ·rwa[.inr λx=>G (by rw[z,x])]
   ·rwa[.inl z]
  ·erw[q l [p,q'] H' J Y ?_];show xD H' ([p]++[q']) ([_]++[_]);rw[uV g];exact(xD.one e2).app (.one e3)
 | range m l r =>
  obtain⟨t,rfl,u⟩:=qT rep;obtain⟨_,_,hl,R,ne⟩:=kn;obtain⟨pt,g⟩:=j7.mp hl;obtain⟨y,i⟩:=j7.mp R;obtain⟨pa,X,T⟩:=M l pt g;obtain⟨pb,g3,g4⟩:=M r y i;obtain⟨n1,n2,n3,n4⟩:=tW N g;obtain⟨n5,n6,n7,n8⟩:=tW N i;exists _,U,t,_,0,.str "range",U,U,.inr (SqT.of u),U,U,_,rfl;erw[zd ?_];have o:Sq K H t _:=.inr (SqT.of u);exists _,U,_,U,t,_,2,.str l,U,U,o,U,d,.ref pa,U,.inl ⟨j,.inr l,hd,U,X.symm⟩,_,U,_,U,t,_,3,.str r,U,U,o,U,d,.ref pb,U,.inl ⟨j,.inr r,hd,U,g3.symm⟩;erw[pa,pb,pt.1,pt.2,y.1,y.2,rfl,.inr (SqT.of T),.inr (SqT.of g4),(by lia),(by lia),(by lia),(by lia),?_,λp H' J hp' Y=>⟨sz1,λL hL=>?_⟩]
  ·rcases Ga (pt.2-y.2=0) with z | z
   ·erw[.inr λx=>ne ?_];rw[g,i];rwa[congrArg O (DU (by lia) (by lia))]
   ·rwa[.inl z]
  ·have sL:=zC hL (.lst [.ref p]);erw[q L [p] _ (J.trans sL) zA ?_];show xD _ [p] [_];rw[uV g,uV i];exact(xD.one Y).to (.of sL)
 | _=>rwa[kn.elim]
def jb(_:c5):Sp:=λc H Q _=>∃(n:Int),c=[.int n]/\∀ v:Int,0<=v->v<1000003->Q (.int v) H
def ZA(F:Fun K "_law_power" "_law_power" uj f fd)(Z:Zs mg):yR P w K mg base CX0 1 f fd ["_law_number"] (jb K):=by
 specialize Yl
 ·obtain⟨n,rfl,_⟩:=h;rfl
 obtain⟨n,rfl,q⟩:=h
 refine'⟨_,(zE (zN ?_)),?_⟩
 nofun
 have h1:=An n (show(1000003:Int)≠0 by decide);have h2:=z7 n (show(0:Int)<1000003 by decide);exists _,U,_,_,U,U,(by show(0:Int)<1000003; decide),_,_,rfl,rfl,⟨by decide,by decide,by lia⟩,_,_,rfl,rfl,(by show(0:Int)<1000003; decide);rwa[q _ (An _ 'a') (z7 _ 'a')]
def jI(K:c5):Sp:=λe H Q _=>E3 λ(a:c7) (ns:List Int) (c:Int)=>A6 (e=[.ref a,.int c]) (SqL K H a 'p') (ns.length<=63) (0<=c) (c<=500) (∀(r:c7)(rows:List Int)(d:Hp),Same H d->H r=J2->d r=O (.lst 'u')->c<=rows.length->rows.length<=600->(∀ x∈rows,0<=x/\x<1000003)->Q (.ref r) d)
structure jw(H:Hp)(r c:c7)(ms:List Int)(H':Hp)(rows:List Int):Prop where
 same:Same H H'
 src:H' c=O (.lst (ms.map V.int))
 at':H' r=O (.lst (rows.map V.int))
 bd:∀ x∈rows,0<=x/\x<1000003
def jw.app{H i:Hp}{v:Int}(d:jw H r c h i rows)(l:H r=J2)(g:c≠r)(h0:0<=v)(h1:v<1000003):jw H r c h (upd i r (.lst (rows.map V.int++[.int v]))) (rows++[v]):=by
 erw[λb o e=>?_,?_,?_,λx j=>?_]
 ·rw[zG (zI e l)];rwa[d.same b o e]
 ·rw[zG g];rwa[d.src]
 ·rw[zA,f8];rfl
 ·rcases j5.mp j with e | e
  ·rwa[d.bd x e]
  ·rw[g6] at e;rw[e];rwa[h0,h1]
def cutR{ok:Int->Hp->Prop}{G:Prop}{R:Int->Hp->Prop}(h1:(∀ m H,ok m H->R m H)->G)(h2:∀ m H,ok m H->R m H):G:=h1 h2
def ZM(F:Fun K "_law_draws" "_law_draws" tw f fd)(Z:Zs mg)(CB:Cb P w mg base)(yCn:Has P w K mg base "_law_power" 1 ["_law_number"] (jb K)):yR P w K mg base CX0 2 f fd ["_law_script","_law_many"] (jI K):=by
 specialize wY
 ·obtain⟨a,ns,j,rfl,_⟩:=h;rfl
 obtain⟨a,ns,j,rfl,hS,hl,hm0,hm1,q⟩:=h
 refine'⟨_,(zB (zQ 2 wY.nd ?_)
   (zB (zQ 3 wY.nd wH)
   (zB (xH v8 rfl (Vp ?_) (uY 4 wY.nd) (zB (zQ 3 wY.nd ?_)
   (zB (zQ 5 wY.nd ?_)
   (zB (xL ?_ (zB (zO (qo (pv 2) ?_))
   (zE (zQ 5 wY.nd wH))) zV)
   (zE (nK v8 ?_ (zB (zO (qo (pv 2) ?_))
   (zE (zQ 5 wY.nd ?_)))))))))
   (zB (nK v8 ?_ (zB (zQ 3 wY.nd ?_)
   (zE (zO (qo (pv 2) ?_)))))
   (zE (zN (pv 2))))))),?_⟩
 nofun
 refine⟨sz0,λr y=>?_⟩;have S1:=zC y 'C';refine⟨_,U,_,U,a,_,U,S1.seq hS,λc hc=>⟨c,U,⟨_,SqL.of zA⟩,?_⟩⟩;rw[kD];generalize hms:((ns.drop (HT.sIx ns.length 0 J2)).take (HT.sIx ns.length ns.length (O 63)-HT.sIx ns.length 0 J2))=S;have hml:S.length<=63:=by
  rw[<- hms,m8,Ai];lia
 have C:c≠r:=λe=>by
  rw[e,zA] at hc;cases hc
 have hc0:H c=none:=S1.free hc;refine xM (K:=K) (a:=c) (xs:=S.map V.int) (λi p I=>E4 λ(rows:List Int) (l:Int) (u v:Option V)=>A5 (p=[O (.ref a),O (.int j),O (.ref r),O (.int l),u,v]) (jw H r c S I rows) (0<=l) (l<2147483647) (rows.length<=j.toNat+i))
  ⟨[],7,J2,J2,rfl,⟨S1.trans (zC hc _),zA,by rw[zG (Bi C),zA]; rfl,λx hx=>nomatch hx⟩,by decide,by decide,x6 _⟩ (λi p I _ hq'=>by obtain⟨_,_,_,_,_,d,_⟩:=hq'; rwa[SqL.of d.src]) ?_ ?_
 ·rintro i x p I hi ⟨rows,l,u,v,rfl,d,L,J,M⟩;obtain⟨n,hn,rfl⟩:=uU hi;have hi63:i<63:=o3 (e8.mp hn).1 hml;exists _,U,_,_,U,U,.inr ⟨by decide,by decide⟩,_,U,_,_,U,U,_,_,U,U,(by show(0:Int)<2147483647; decide);have Y:=An (l*48271+n) (show(2147483647:Int)≠0 by decide);have X:=z7 (l*48271+n) (show(0:Int)<2147483647 by decide);exists _,U,n,rfl;have a0:0<=(if n<0 then -n else n):=by split <;> lia
  generalize (if n<0 then -n else n)=g at a0 ⊢;revert I g;apply cutR (ok:=λg D=>0<=g/\∃ rows,jw H r c S D rows/\rows.length<=j.toNat+(i+1))
  ·intro G I d g a0;exists _,U,_,_,U,U,⟨by decide,by decide,by decide⟩,_,_,U,U,_,rfl;erw[ifD (λhsm=>?_) (λhsm=>?_)];rotate_left
   ·rwa[G g I ⟨a0,rows,d,by lia⟩]
   ·erw[_,rfl,.inl ⟨rfl,_,SqL.of d.at'⟩,_,rfl,_,rfl,r,_,rfl,.inl (SqL.of d.at'),_,_,rfl,rfl,.inl ⟨by decide,by decide⟩,_,_,rfl,rfl,_,rfl,λv R N=>?_];exists r,_,_,U,U,d.at',zM (by rw[b9]; lia);rwa[G 0 _ ⟨DQ 0,_,d.app y C R N,by rw[f9,Al]; lia⟩]
  clear M rows;rintro g I ⟨j0,rows,j1,j2⟩;refine uk (λp D=>E2 λ(rows:List Int) (g:Int)=>A4 (p=[O (.ref a),O (.int j),O (.ref r),O (.int ((l*48271+n)%2147483647)),O (.int n),O (.int g)]) (0<=g) (jw H r c S D rows) (rows.length<=j.toNat+(i+1)))
   (λp _=>match p with | [_,_,_,_,_,O (.int z)]=>z.toNat | _=>0) ⟨_,_,rfl,j0,j1,j2⟩ ?_ (Tc (gK (Vo UT vg mo_c)) (gK (Vo UT (SJ WZ (mE vg aa)) vg)))
  rintro p D ⟨rows,g,rfl,r0,o,l2⟩;exists _,U,_,_,U,U,_,rfl;erw[ifD (λT=>?_) (λT=>?_)]
  ·exists _,U,r,_,U,.inl (SqL.of o.at'),_,U,_,_,U,U,_,rfl;erw[ifD (λB=>?_) (λB=>?_)]
   ·have m:((rows.map V.int).length:Int)<j:=B;rw[b9] at m;exists _,U,.inl ⟨U,_,SqL.of o.at'⟩,_,U,_,_,U,U,(by show(0:Int)<1000003; decide),r,_,_,rfl,rfl,o.at',zM (by rw[b9]; lia);have R:=An g (show(1000003:Int)≠0 by decide);have N:=z7 g (show(0:Int)<1000003 by decide);exists _,U,_,_,U,U,pH.of 'a' 'm',⟨rows++[g%1000003],_,U,by lia,o.app y C R N,by rw[f9,Al]; lia⟩;show(g/1000003).toNat<g.toNat;lia
   ·rwa[rows,_,_,_,rfl,o,Y,X,l2]
  ·rwa[rows,_,_,_,rfl,o,Y,X,l2]
 ·rintro p I ⟨rows,l,u,v,rfl,d,L,J,M⟩;rw[b9] at M;refine uk (λp D=>E2 λ(rows:List Int) (l:Int)=>A6 (p=[O (.ref a),O (.int j),O (.ref r),O (.int l),u,v]) (jw H r c S D rows) (0<=l) (l<2147483647) (rows.length<=j.toNat+63) (D r=O (.lst 'u')))
   (λp D=>match D r with | some (.lst xs)=>j.toNat-xs.length | _=>0) ⟨rows,l,rfl,d,L,J,by lia,d.at'⟩ ?_ (gK (Vo UT (SJ WZ (mE vg aa)) vg))
  rintro p D ⟨rows,l,rfl,o,L,J,l2,ha2⟩;exists _,U,r,_,U,.inl (SqL.of o.at'),_,U,_,_,U,U,_,rfl;erw[ifD (λB=>?_) (λB=>?_)]
  ·have m:((rows.map V.int).length:Int)<j:=B;rw[b9] at m;exists _,U,_,_,U,U,.inr ⟨by decide,by decide⟩,_,_,U,U,_,_,U,U,(by show(0:Int)<2147483647; decide);have Y:=An (l*48271+11) (show(2147483647:Int)≠0 by decide);have X:=z7 (l*48271+11) (show(0:Int)<2147483647 by decide);erw[_,rfl,.inl ⟨rfl,_,SqL.of o.at'⟩,_,rfl,_,rfl,λv R N=>?_];exists r,_,_,U,U,o.at',zM (by rw[b9]; lia),⟨rows++[v],_,rfl,o.app y C R N,Y,X,by rw[f9,Al]; lia,(o.app y C R N).at'⟩;rw[ha2,zA];show j.toNat-(rows.map V.int++[V.int v]).length<j.toNat-(rows.map V.int).length;rw[f9,b9,Al];lia
  ·have m:¬ ((rows.map V.int).length:Int)<j:=B;rw[b9] at m;rwa[_,rfl,q r rows D o.same y o.at' (by lia) (by lia) o.bd]
def jY(K:c5):Sp:=λe H Q _=>E3 λ(a:c7) (rows:List Int) (c:Nat)=>A6 (e=[.ref a,.int c]) (SqL K H a 'u') (c<=rows.length) (c<=25) (∀ x∈rows,0<=x/\x<1000003) (∀(r:c7)(ns:List j9)(d:Hp),Same H d->H r=J2->d r=O (.lst (ns.map V.str))->ns.length=c->(∀ n∈ns,vS n)->ns.Nodup->Q (.ref r) d)
def ZQ(F:Fun K "_law_names" "_law_names" ud f fd)(Z:Zs mg)(CB:Cb P w mg base)  : yR P w K mg base CX0 1 f fd ["_law_some","_law_many"] (jY K):=by
 specialize xF
 ·obtain⟨a,rows,d,rfl,_⟩:=h;rfl
 obtain⟨a,rows,d,rfl,ha,h1,h2,bd,q⟩:=h
 refine'⟨_,(zB (zQ 2 xF.nd zZ)
   (zB (zQ 3 xF.nd ?_)
   (zB (xH v8 rfl (xP rfl Z.range (zD (pv 1) zL)) (uY 4 xF.nd) (zB (zQ 5 xF.nd ?_)
   (zB (zQ 6 xF.nd ?_)
   (zB (zQ 7 xF.nd ?_)
   (zB (zQ 8 xF.nd (VT PySem.F.plainAttrs_str PySem.F.slot_str_join PySem.F.type_str_join Rq zZ (zD (xO (T:=["_law_k"]) (caps:=[("_law_letters",2),("_law_raw",5),("_law_step",7)]) ⟨rfl,by ac_nf,by ac_nf,rfl,⟨⟨rfl,rfl,B9 rfl⟩,⟨rfl,rfl,B9 rfl⟩,⟨rfl,rfl,B9 rfl⟩,z8⟩⟩ rfl (xP rfl Z.range (zD (pv 6) zL)) (λ_=>(uY 0 (show(["_law_k","_law_letters","_law_raw","_law_step"]:List j9).Nodup by ac_nf))) (λ_=>yX) (λ_=>(iF Td (pv 1) ?_ 'j'))) zL)))
   (zB (zQ 9 xF.nd ?_)
   (zB (xH v8 rfl (xP rfl Z.range (zD wH zL)) (uY 10 xF.nd) (zE (xL (xA dX (pv 8) (pv 3) (by with_unfolding_all rfl)) (zB (zQ 11 xF.nd (iF Td (pv 2) ?_ 'j'))
   (zE (zQ 8 xF.nd (tZ jB (tZ jB (zk TF (pv 8) oz (xy (pv 9))) (pv 11)) (zk TF (pv 8) (xy ?_) oz))))) zV)))
   (zE (zO (qo (pv 3) (zD (pv 8) zL)))))))))))
   (zE (zN (pv 3)))))),?_⟩
 nofun
 refine⟨sz0,λr N=>?_⟩;have s0:=zC N 'C';refine⟨_,U,_,U,by lia,by lia,uC (lo:=0) (n:=((d:Nat):Int).toNat) (λi B I=>∃ ns:List j9,A6 (Same H I) (I r=O (.lst (ns.map V.str))) (ns.length=i) (∀ n∈ns,vS n) ns.Nodup (E8 λ(u4 u5 u6 u7 u8 u9 o g:Option V)=>B=[O (.ref a),O (.int d),O (.str abc),O (.ref r),u4,u5,u6,u7,u8,u9,o,g]))
  ⟨[],s0,zA,rfl,(λ_ z=>nomatch z),EW,J2,J2,J2,J2,J2,J2,J2,J2,rfl⟩ ?_ ?_⟩
 ·rintro i B H1 hi ⟨ns,s1,er,ln,M,nd,u4,u5,u6,u7,u8,u9,o,g,rfl⟩;rw[Br] at hi;obtain⟨x,ax,x0,x1⟩:=xQ bd (k:=(0:Int)+i) (by lia) (by lia);exists _,U,_,U,a,_,_,_,U,U,.inl (s1.seq ha),ax;exists _,U,_,_,U,U,(by show(0:Int)<8; decide),_,_,rfl,rfl;exists _,U,_,_,U,U,pH.of 'a' 'm',_,_,U,U,gt5;have z0:0<=x%8:=An _ 'a';have z1:x%8<8:=z7 _ 'a';have t0:0<=x/8%5:=An _ 'a';have t1:x/8%5<5:=z7 _ 'a';obtain⟨sz,esz⟩:∃ n:Nat,1+x%8=(n:Int):=⟨(1+x%8).toNat,by lia⟩;have w1:1<=sz:=by lia
  have w8:sz<=8:=by lia
  refine⟨U,_,U,_,U,by lia,by lia,λc D hD=>?_⟩;have sD:=zC hD 'C';refine vb (lo:=0) (n:=(1+x%8).toNat) (λj B Y I=>A3 (Same H1 I) (I D=O (.lst Y)) (∃ l:List Nat,A4 (Y=(l.map chS).map V.str) (l.length=j) (∀ c∈l,97<=c/\c<=122) (∃ u0:Option V,B=[u0,O (.str abc),O (.int x),O (.int (x/8%5))])))
   ⟨sD,zA,[],rfl,rfl,(λ_ z=>nomatch z),J2,rfl⟩ (λj B Y I _ hq'=>by obtain⟨_,e,_⟩:=hq'; rwa[e]) ?_ ?_
  ·rintro j B Y I hj ⟨sH,eD,l,rfl,lj,lc,u0,rfl⟩;have m0:0<=(x/40+((0:Int)+j)*(x/8%5))%26:=An _ 'a';have m1:(x/40+((0:Int)+j)*(x/8%5))%26<26:=z7 _ 'a';exists _,U,_,U,_,_,U,U,pH.of 'a' 'm',_,U,_,U,_,_,U,U,xu (by lia),_,_,U,U,_,_,U,U,(by show(0:Int)<26; decide),abc,_,_,rfl,rfl,'a',TL m0 m1;erw[eD,zM (by rw[b9,b9]; lia),sH.putNew hD,zA,l++[97+((x/40+((0:Int)+j)*(x/8%5))%26).toNat],?_,by rw[f9,lj]; rfl,λc J=>?_,_,rfl]
   ·rw[f8,f8];rfl
   ·rcases j5.mp J with J | J
    ·rwa[lc c J]
    ·rw[g6] at J;lia
  ·rintro B Y H2 ⟨s2,eD,l,rfl,lj,lc,u0,rfl⟩;have s12:=s1.trans s2;have R:=s2 _ _ er;have ll:l.length=sz:=by lia
   refine⟨"",D,l.map chS,U,U,SqL.of eD,by rw[Zd,ll]; exact i4 w8 'a',?_⟩;rw[Uo];obtain⟨L,epl⟩:∃ n:Nat,x/7%(1+x%8)=(n:Int):=⟨(x/7%(1+x%8)).toNat,by rw[Ew (An _ (by lia))]⟩;have plt:L<l.length:=by
    have:=z7 (x/7) (show 0<1+x%8 by lia);lia
   exists _,U,_,_,U,U,pH.of 'a' 'm',_,U,_,_,U,U,(by show(0:Int)<1+x%8; lia);obtain⟨S,exn⟩:∃ n:Nat,x=(n:Int):=⟨x.toNat,by lia⟩;refine⟨26,U,by decide,by decide,uC (lo:=0) (n:=26) (λk B I=>I=H2/\∃ m:List Nat,A5 (txt m ∉ ns\/((k=0\/∃ j,j+1=k/\m=l.set L (97+(S+j)%26))/\∀ j,j+1<k->txt (l.set L (97+(S+j)%26))∈ns)) (m.length=l.length) (∀ c,m.set L c=l.set L c) (∀ c∈m,97<=c/\c<=122) (E2 λ(o g:Option V)=>B=[O (.ref a),O (.int d),O (.str abc),O (.ref r),O (.int (0+i)),O (.int x),O (.int (1+x%8)),O (.int (x/8%5)),O (.str (txt m)),O (.int (x/7%(1+x%8))),o,g]))
    ⟨rfl,l,.inr ⟨.inl rfl,λj hj=>y9 hj (Bh _)⟩,rfl,λ_=>rfl,lc,o,g,rfl⟩ ?_ ?_⟩
   ·rintro k B I hk ⟨rfl,m,u,lm,C,mc,v10,v11,rfl⟩;exists _,U,_,U,r,_,U,.inl (SqL.of R),U,YN ns,_,rfl;show if inV (.str (txt m)) (ns.map V.str)=J3 then _ else _
    rw[SD];erw[ifD (λv=>?_) (λv=>?_)]
    ·have b0:0<=(x+((0:Int)+k))%26:=An _ 'a';have b1:(x+((0:Int)+k))%26<26:=z7 _ 'a';exists _,U,_,U,_,U,_,_,U,U,_,_,U,U,(by show(0:Int)<26; decide),abc,_,_,rfl,rfl,'a',TL b0 b1;have lz:(txt m).length<=sizeLine:=by rw[yz,lm,ll]; rwa[i4 w8 'a']
     have es:(97+((x+((0:Int)+k))%26).toNat)=97+(S+k)%26:=by lia
     have c1:Dm (txt m) J2 (O (x/7%(1+x%8)))++chS (97+((x+((0:Int)+k))%26).toNat)++Dm (txt m) (O (x/7%(1+x%8)+1)) J2=txt (l.set L (97+(S+k)%26)):=by
      rw[epl,Uj (by lia),es,C]
     erw[_,rfl,_,rfl,_,rfl,txt m,rfl,lz,_,rfl,_,_,rfl,rfl,?_,_,rfl,_,rfl,_,_,rfl,rfl,_,rfl,txt m,rfl,lz,_,_,rfl,rfl,?_,?_]
     ·rwa[i4 (Fc (F9 _ _ _) (f7 1)) (by rw[yz,lm,ll]; exact i4 (GD w8 1) 'a')]
     ·rw[strLen_append];rwa[i4 (Fc (Fc (F9 _ _ _) (f7 1)) (F9 _ _ _)) (by rw[yz,lm,ll]; exact i4 (Fc (GD w8 1) w8) 'a')]
     ·erw[rfl,l.set L (97+(S+k)%26),.inr ⟨.inr ⟨k,rfl,rfl⟩,λj hj=>?_⟩,DD,λc=>List.set_set _,λc J=>?_,_,_,by rw[<- c1]; rfl]
      ·rcases u with u | ⟨u,G⟩
       ·rwa[y9 v u]
       ·by_cases e:j+1=k
        ·rcases u with u | ⟨j0,e0,rfl⟩
         ·lia
         ·rw[show j=j0 by lia];rwa[v]
        ·rwa[G j (by lia)]
      ·rcases Dq J with J | J
       ·rwa[lc c J]
       ·lia
    ·rwa[rfl,m,.inl v,lm,C,mc,_,_,rfl]
   ·rintro B I ⟨rfl,m,u,lm,C,mc,v10,v11,rfl⟩;have out:txt m ∉ ns:=by
     rcases u with u | ⟨u,G⟩
     ·rwa[u]
     ·intro v;erw[RF (l:=l) (p:=L) (r:=S) plt (ws:=ns) (by lia) λj hj=>?_];by_cases e:j+1<26
      ·rwa[G j e]
      ·rcases u with u | ⟨j0,e0,rfl⟩
       ·lia
       ·rw[show j=j0 by lia];rwa[v]
    exists _,U,.inl ⟨U,_,SqL.of R⟩,_,U,r,_,_,U,U,R,zM (by rw[b9]; lia);erw[ns++[txt m],s12.putNew N,?_,by rw[f9,ln]; rfl,λn X=>?_,?_,_,_,_,_,_,_,_,_,rfl]
    ·rw[zA,f8];rfl
    ·rcases j5.mp X with X | X
     ·rwa[M n X]
     ·rw[g6] at X;rw[X];rwa[ZL (by lia) (by lia) mc]
    ·erw[Fp.mpr ⟨nd,by simp,λx hx y hy=>?_⟩];rw[g6] at hy;rw[hy];rwa[λz=>out (z ▸ hx)]
 ·rintro B H1 ⟨ns,s1,er,ln,M,nd,u4,u5,u6,u7,u8,u9,o,g,rfl⟩;rwa[_,rfl,q r ns H1 s1 N er (by rw[ln,Br]) M nd]
def bZ(_:c5):Sp:=λe H Q _=>e=[]/\∀(d m b r n:c7)(c:Hp),Same H c->H d=J2->H m=J2->H r=J2->c d=O (.dK (lwK m b r n 1))->c m=O (.dK [])->c b=O (.dK [])->c r=O 'C'->c n=O (.dK [])->b≠m->n≠m->Q (.ref d) c
def VO(F:Fun K "_law_new" "_law_new" iQ f fd)(Z:Zs mg)(J:Cb P w mg base)  : yR P w K mg base CX0 1 f fd [] (bZ K):=by
 specialize VE
 ·obtain⟨rfl,_⟩:=h;rfl
 obtain⟨rfl,q⟩:=h
 refine'⟨_,zE ?h,?_⟩
 rotate_left
 with_reducible refine' zN ?_
 rotate_left
 with_reducible exact WR (tG zZ tS (tG zZ tS (tG zZ (Wu zL) (tG zZ tS (tG zZ wH XH))))) rfl rfl 'n' 'a'
 try dsimp only[L2.cxOf]
 intro p v m B b l;erw[sz0,λr hr n y=>?_];have u:=zC v (.dK []);have i:=zC B (.dK []);have d:=zC l (.dK []);have g:=zC hr 'C';have j:=zC y (.dK []);have em:=(d.trans (g.trans j)) _ _ zA;have I:=(g.trans j) _ _ zA;have er:=j _ _ zA;have G:=(i.trans (d.trans (g.trans j))) _ _ zA;exists G,[(.inr "marks",.ref m),(.inr "banks",.ref b),(.inr "runs",.ref r),(.inr "notes",.ref n),(.inr "next",.int 1)],U,(show 5<=15 by decide);rw[VP];have ne:∀{x:c7},(upd H p (.dK [])) x=J2->x≠p:=λ{x} h z=>by rw[z,zA] at h; cases h
 have nb:=ne (i.free l);have C:=ne (i.free (d.free hr));have D:=ne (i.free (d.free (g.free y)));refine q p m b r n _ (λc o e=>?_) v (u.free B) (u.free (i.free (d.free hr))) zA ?_ ?_ ?_ ?_ (λz=>by rw[z,zA] at l; cases l) (λz=>by have:=d.free (g.free y); rw[z,zA] at this; cases this)
 ·rw[zG (zI e v)];exact(u.trans (i.trans (d.trans (g.trans j)))) c o e
 ·rw[zG (ne B)]; rwa[em]
 ·rw[zG nb]; rwa[I]
 ·rw[zG C]; rwa[er]
 ·rw[zG D]; rwa[zA]
def eK(_:c5):Sp:=λe H Q _=>E4 λ(d:c7) (S:BS) (i j:Nat)=>A6 (e=[.ref d,.int i,.int j]) (LwAt H d S) (i<=S.runs.length) (j<=S.runs.length) (S.runs.length<=60) (∀(t:c7)(c:Hp),Same H c->H t=J2->c t=O (.tup [.int (vT S.runs i j).1,.int (vT S.runs i j).2])->Q (.ref t) c)
def Xw(F:Fun K "_law_lead" "_law_lead" mf f fd)(Z:Zs mg)(CB:Cb P w mg base)  : yR P w K mg base CX0 1 f fd ["_law_m","_law_one","_law_other"] (eK K):=by
 specialize kZ
 ·obtain⟨d,S,i,j,rfl,_⟩:=h;rfl
 obtain⟨d,S,l,g,rfl,⟨m,b,r,n,lw⟩,hi,hj,few,k⟩:=h;obtain⟨L,hr1,rep⟩:=lw.ru;have lrs:L.length=S.runs.length:=by rw[rep.length,b9]
 refine'⟨_,(zB (zQ 3 kZ.nd (zk Xq (zU (yH hr) (pv 0) zZ 'j') (xy ?_) (xy ?_)))
   (zB (zQ 4 kZ.nd ?_)
   (zE (zN (fM (zD (tZ fK (pv 4) (yP (yc rfl) rfl Z.sum cy (zD (xO (T:=["_law_x","_law_y"]) (caps:=[]) ⟨rfl,by ac_nf,by ac_nf,rfl,z8⟩ rfl (xB (pv 3)) (λ_=>(jU rfl (wX (uY 0 (show(["_law_x","_law_y"]:List j9).Nodup by ac_nf)) (wX (uY 1 (show(["_law_x","_law_y"]:List j9).Nodup by ac_nf)) pc)))) (λ_=>yX) (λ_=>(pv 0))) zL))) (zD (tZ fK (pv 4) (yP (yc rfl) rfl Z.sum cy (zD (xO (T:=["_law_x","_law_y"]) (caps:=[]) ⟨rfl,by ac_nf,by ac_nf,rfl,z8⟩ rfl (xB (pv 3)) (λ_=>(jU rfl (wX (uY 0 (show(["_law_x","_law_y"]:List j9).Nodup by ac_nf)) (wX (uY 1 (show(["_law_x","_law_y"]:List j9).Nodup by ac_nf)) pc)))) (λ_=>yX) (λ_=>(pv 1))) zL))) zL))))))),?_⟩
 nofun
 erw[_,rfl,d,.ref r,rfl,.inl ⟨_,.inr "runs",lw.at_,rfl,bL.symm⟩,_,rfl,_,rfl,_,_,rfl,_,rfl,_,rfl,_,rfl,_,_,rfl,_,rfl,r,L,rfl,SqL.of hr1,λq hq=>?_];have e1:(if (g:Int)<l then(g:Int) else l)=((min l g:Nat):Int):=by split <;> lia
 have e2:(if (g:Int)>l then(g:Int) else l)=((max l g:Nat):Int):=by split <;> lia
 have ec:xf L (O (if (g:Int)<l then(g:Int) else l)) (O (if (g:Int)>l then(g:Int) else l))=(L.drop (min l g)).take (max l g-min l g):=by
  rw[e1,e2,Zk (by lia) (by lia)]
 generalize hcs:xf L (O (if (g:Int)<l then(g:Int) else l)) (O (if (g:Int)>l then(g:Int) else l))=G at hq;have sq:=zC hq (.lst G);have rc:xS (upd H q (.lst G)) ((yi S.runs l g).map ptD) G:=by
  have ecs:G=(L.drop (min l g)).take (max l g-min l g):=hcs.symm.trans ec;have:=((rep.drop (min l g)).take (max l g-min l g)).to (.of sq);rw[<- ecs,<- Eg,<- DA] at this;rwa[this]
 have ls:=ue S.runs l g;have N:(1:Int)-2*(if decide ((g:Int)<l) then 1 else 0)=rO l g:=by
  unfold rO;by_cases c:g<l
  ·rw[y6 c,y6 (y7 (by lia))]; rfl
  ·rw[y4 c,y4 (by simp; lia)]; rfl
 refine⟨_,U,_,U,_,_,U,U,.inr ⟨_,U,_,_,U,U,xu 'a',_,_,U,U,?_⟩⟩;show Za 4 (V.int (1-2*if decide ((g:Int)<l)=J3 then 1 else 0)) _ _ _;rw[N];have cmh:∀ y:Int,Qx (rO l g) y:=λy=>xu (by unfold rO; split <;> decide);refine⟨_,U,_,U,q,U,.inl ⟨⟨_,SqL.of zA⟩,λc D R=>?_⟩⟩;refine xN (K:=K) (a:=q) (xs:=G) (λi B z I=>A4 (Same (upd H q (.lst G)) I) (I D=O (.lst z)) (z=(((yi S.runs l g).take i).map (·.1)).map V.int) (E2 λ(u v:Option V)=>B=[u,v]))
  ⟨zC R _,zA,rfl,J2,J2,rfl⟩ (λi B z I _ J=>by obtain⟨C,e,_⟩:=J; rwa[SqL.of (C _ _ zA),e]) ?_ ?_
 ·rintro i x B z I hi ⟨C,eD,rfl,u,v,rfl⟩;obtain⟨p,a,X,rfl,ea⟩:=iO rc hi;have hil:=(e8.mp X).1;erw[a,_,rfl,SqT.of (C _ _ ea),rfl,.int p.1,_,rfl,.int p.2,_,rfl,rfl,_,rfl,eD,zM (by rw[b9,b9,m8]; lia),C.putNew R,zA,?_,_,_,rfl];rw[w9,X,f8,f8];rfl
 rintro B z H2 ⟨s2,eD,rfl,u,v,rfl⟩;exists D,_,U,SqL.of eD,_,_,U,U,cmh _;have Y:=s2 _ _ (zA (H:=H) (a:=q) (o:=.lst G));have rc2:=rc.to (.of s2);refine⟨_,U,_,U,q,U,.inl ⟨⟨_,SqL.of Y⟩,λc D R=>?_⟩⟩;refine xN (K:=K) (a:=q) (xs:=G) (λi B z I=>A4 (Same H2 I) (I D=O (.lst z)) (z=(((yi S.runs l g).take i).map (·.2)).map V.int) (E2 λ(u v:Option V)=>B=[u,v]))
  ⟨zC R _,zA,rfl,J2,J2,rfl⟩ (λi B z I _ J=>by obtain⟨C,e,_⟩:=J; rwa[SqL.of (C _ _ Y),e]) ?_ ?_
 ·rintro i x B z I hi ⟨C,eD,rfl,u,v,rfl⟩;obtain⟨p,a,X,rfl,ea⟩:=iO rc2 hi;have hil:=(e8.mp X).1;erw[a,_,rfl,SqT.of (C _ _ ea),rfl,.int p.1,_,rfl,.int p.2,_,rfl,rfl,_,rfl,eD,zM (by rw[b9,b9,m8]; lia),C.putNew R,zA,?_,_,_,rfl];rw[w9,X,f8,f8];rfl
 rintro B z H3 ⟨s3,eD3,rfl,u,v,rfl⟩;erw[D,_,rfl,SqL.of eD3,_,_,rfl,rfl,cmh _,sz2,λt ht=>?_];have M:=s2.trans s3;erw[k t _ ((sq.trans M).trans (zC ht _)) (sq.free (M.free ht)) ?_];rw[zA,show G.length=(yi S.runs l g).length by rw[rc.length,b9],o5];rfl
def aw(_:c5):Sp:=λe H Q _=>E3 λ(o t c:Int)=>A4 (e=[.int o,.int t,.int c]) (1<=c) (c<=1000000) (∀(p:c7)(x y:Int)(d:Hp),Same H d->H p=J2->d p=O 'r'->(x≠0\/y≠0)->x.natAbs<=c.natAbs->y.natAbs<=c.natAbs->Q (.ref p) d)
def Ui(F:Fun K "_law_way" "_law_way" gh f fd)(Z:Zs mg)(r:Cb P w mg base)  : yR P w K mg base CX0 1 f fd ["_law_one","_law_two","_law_wide"] (aw K):=by
 specialize nL
 ·obtain⟨o,t,d,rfl,_⟩:=h;rfl
 obtain⟨o,t,d,rfl,w1,n,q⟩:=h
 refine'⟨_,(zB (zQ 3 nL.nd ?_)
   (zB (zQ 4 nL.nd ?_)
   (zB (xL ?_ (zE (zQ 3 nL.nd ?_)) zV)
   (zE (zN ?_))))),?_⟩
 nofun
 have m:=An o (show 2*d+1≠0 by lia);have l:=z7 o (show 0<2*d+1 by lia);have j:=An t (show 2*d+1≠0 by lia);have i:=z7 t (show 0<2*d+1 by lia);exists _,U,_,U,_,_,U,U,.inl ⟨by decide,by decide⟩,_,_,U,U,_,_,U,U,(by show 0<2*d+1; lia),_,rfl,_,_,rfl,rfl;exists _,U,_,U,_,_,U,U,.inl ⟨by decide,by decide⟩,_,_,U,U,_,_,U,U,(by show 0<2*d+1; lia),_,rfl,_,_,rfl,rfl;exists _,U,U,_,rfl;erw[ifE (λg=>?_) (λg=>?_)]
 ·exists _,U,U,_,rfl;erw[ifE (λe=>?_) (λe=>?_)]
  ·exists _,U,_,_,U,U,gt2,_,_,U,U,.inl ⟨by decide,by decide⟩,_,_,U,rfl;erw[_,rfl,_,rfl,sz2,λp c=>?_];rwa[q p _ _ _ (zC c _) c zA (by left; lia) (by lia) (by lia)]
  ·erw[_,rfl,_,rfl,sz2,λp c=>?_];rwa[q p _ _ _ (zC c _) c zA (.inr e) (by lia) (by lia)]
 ·erw[zd ?_];erw[_,rfl,_,rfl,sz2,λp c=>?_];rwa[q p _ _ _ (zC c _) c zA (.inl g) (by lia) (by lia)]
def lg(K:c5):Sp:=λj H Q _=>E8 λ(a b:c7) (g e:List V) (d c i h:Int)=>A10 (j=[.ref a,.ref b]) (Sq K H a g) (Sq K H b e) (atI g 0=O (.int d)) (atI g 1=O (.int c)) (atI e 0=O (.int i)) (atI e 1=O (.int h)) (d.natAbs<=10^18) (c.natAbs<=10^18) (Q (.int (d*h-c*i)) H)
def bU(F:Fun K "_law_turned" "_law_turned" wt f fd)(Z:Zs mg)(v:Cb P w mg base)  : yR P w K mg base CX0 1 f fd ["_law_one","_law_other"] (lg K):=by
 specialize bK
 ·obtain⟨a,b,n,l,g,d,e,c,rfl,_⟩:=h;rfl
 obtain⟨a,b,n,l,g,d,e,c,rfl,j,i,p,o,m,w1,u,r,q⟩:=h
 refine'⟨_,(zE (zN ?_)),?_⟩
 nofun
 exact⟨_,U,a,_,_,.int g,U,U,j,p,_,U,b,_,_,.int c,U,U,i,w1,_,_,U,U,xu (by lia),
  _,rfl,a,_,_,.int d,rfl,rfl,j,o,_,rfl,b,_,_,.int e,rfl,rfl,i,m,_,_,rfl,rfl,xu (by lia),_,_,rfl,rfl,q⟩
def ve(K:c5):Sp:=λj H Q _=>E3 λ(a:c7) (rows:List Int) (c:Int)=>A7 (j=[.ref a,.int c]) (SqL K H a 'u') (5<=rows.length) (∀ x∈rows,0<=x/\x<1000003) (1<=c) (c<=100) (∀(t p r:c7)(i h g e:Int)(d:Hp),Same H d->d t=O (.tup [.ref p,.ref r])->d p=O (.tup [.int i,.int h])->d r=O (.tup [.int g,.int e])->0<i*e-h*g->i.natAbs<=c.natAbs->h.natAbs<=c.natAbs->g.natAbs<=c.natAbs->e.natAbs<=c.natAbs->Q (.ref t) d)
def jk(F:Fun K "_law_left_pair" "_law_left_pair" sU f fd)(Z:Zs mg)(CB:Cb P w mg base)(yCd:Has P w K mg base "_law_turned" 1 ["_law_one","_law_other"] (lg K))(yCt:Has P w K mg base "_law_way" 1 ["_law_one","_law_two","_law_wide"] (aw K)):yR P w K mg base CX0 2 f fd ["_law_d","_law_wide"] (ve K):=by
 specialize wB
 ·obtain⟨a,rows,o,rfl,_⟩:=h;rfl
 obtain⟨a,rows,o,rfl,D,T,bd,w1,N,q⟩:=h
 refine'⟨_,(zB (zQ 2 wB.nd ?_)
   (zB (zQ 3 wB.nd ?_)
   (zB (xL ?_ (zE (zQ 3 wB.nd ?_)) zV)
   (zB (xL ?_ (zE (jW (i:=2) (j:=3) rfl wB.nd rfl rfl 'a' rfl rfl (zD (pv 3) (zD (pv 2) zL)) rfl)) zV)
   (zB (xL ?_ (zE (zQ 3 wB.nd ?_)) zV)
   (zE (zN ?_))))))),?_⟩
 nofun
 obtain⟨v0,a0,_⟩:=xQ bd (k:=0) 'a' (by lia);obtain⟨v1,a1,_⟩:=xQ bd (k:=1) 'a' (by lia);obtain⟨v2,a2,_⟩:=xQ bd (k:=2) 'a' (by lia);obtain⟨v3,a3,_⟩:=xQ bd (k:=3) 'a' (by lia);obtain⟨v4,a4,_⟩:=xQ bd (k:=4) 'a' (by lia);erw[_,rfl,a,_,_,_,rfl,rfl,.inl D,a0,_,rfl,a,_,_,_,rfl,rfl,.inl D,a1,_,rfl,v0,v1,o,rfl,w1,by lia,λp1 g e H2 S hp1 e1' n1 m1 m2=>?_];have r:o.natAbs<=10^18:=by lia
 have m:g.natAbs<=o.natAbs:=by lia
 have l:e.natAbs<=o.natAbs:=by lia
 clear m1 m2;apply cut4 (ok:=λc X Y G=>A5 (Same H G) (G p1=O (.tup [.int g,.int e])) (G c=O (.tup [.int X,.int Y])) (X.natAbs<=o.natAbs) (Y.natAbs<=o.natAbs))
 ·intro p;erw[_,rfl,a,_,_,_,rfl,rfl,.inl (S.seq D),a2,_,rfl,a,_,_,_,rfl,rfl,.inl (S.seq D),a3,_,rfl,v2,v3,o,rfl,w1,by lia,λp2 x2 y2 H3 s3 hp2 e3 n2 m3 m4=>?_];have u:=S.trans s3;have n:=s3 _ _ e1';exists _,U,a,_,_,_,U,U,.inl (u.seq D),a4,_,_,U,U,gt4,U,_,rfl;erw[ifE (λ_=>?_) (λ_=>?_)];rotate_left
  ·rwa[p p2 x2 y2 H3 ⟨u,n,e3,by lia,by lia⟩]
  ·erw[_,rfl,p1,_,_,.int e,rfl,rfl,.inr (SqT.of n),rfl,_,rfl,_,rfl,p1,_,_,.int g,rfl,rfl,.inr (SqT.of n),rfl,sz2,λd hd=>?_];have y:=zC hd (.tup [.int (-e),.int g]);rwa[p d (-e) g _ ⟨u.trans y,y _ _ n,zA,by rw[Gu]; exact l,m⟩]
 rintro c X Y G ⟨R,M,e2,x,v⟩;have I:Sq K G p1 [.int g,.int e]:=.inr (SqT.of M);have f2:Sq K G c [.int X,.int Y]:=.inr (SqT.of e2);have L:g.natAbs<=10^18:=i4 m r;have J:e.natAbs<=10^18:=i4 l r;exists _,U,_,U,p1,c,_,_,g,e,X,Y,U,I,f2,U,U,U,U,L,J,_,_,U,U,_,rfl;have eT:X*e-Y*g = -(g*Y-e*X):=by rw[z9 X e,z9 Y g]; lia
 erw[ifD (λC=>?_) (λC=>?_)]
 ·exists _,U,_,U,_,_,rfl;exists _,U,_,U,c,p1,_,_,X,Y,g,e,U,f2,I,U,U,U,U,i4 x r,i4 v r,U,_,rfl;erw[ifE (λz=>y9 z (by clear m l x v L J w1 N r T; lia)) (λ_=>?_)];erw[_,rfl,_,rfl,sz2,λt B=>?_];have st:=zC B (.tup [.ref c,.ref p1]);rwa[q t c p1 X Y g e _ ((R).trans st) zA (st _ _ e2) (st _ _ M) (by clear m l x v L J w1 N r T; lia) x v m l]
 ·exists _,U,_,U,p1,c,_,_,g,e,X,Y,U,I,f2,U,U,U,U,L,J,U,_,rfl;erw[ifE (λhz=>?_) (λhz=>?_)]
  ·erw[_,rfl,p1,_,_,.int e,rfl,rfl,I,rfl,_,rfl,_,rfl,p1,_,_,.int g,rfl,rfl,I,rfl,sz2,λd hd=>?_];have y:=zC hd (.tup [.int (-e),.int g]);erw[_,rfl,_,rfl,sz2,λt B=>?_];have st:=zC B (.tup [.ref p1,.ref d]);have sp:=Sz n1;rwa[q t p1 d g e (-e) g _ (R.trans (y.trans st)) zA (st _ _ (y _ _ M)) (st _ _ zA) (by rw[Ej]; lia) m l (by rw[Gu]; exact l) m]
  ·erw[_,rfl,_,rfl,sz2,λt B=>?_];have st:=zC B (.tup [.ref p1,.ref c]);rwa[q t p1 c g e X Y _ (R.trans st) zA (st _ _ M) (st _ _ e2) (by clear m l x v L J w1 N r T; lia) m l x v]
def zo(_:c5):Sp:=λh H Q _=>E9 λ(a d:c7) (rows:List Int) (S:BS) (mo:Nat) (n:j9) (x y:Int) (pt:Int×Int)=>A12 (h=[.ref a,.ref d,.int mo,.str n,.int x,.int y]) (H a=O (.lst 'u')) (8<=rows.length) (∀ v∈rows,0<=v/\v<1000003) (LwAt H d S) (mo<=S.runs.length) (S.runs.length<=3) (∀ e∈S.runs,e.1.natAbs<=4/\e.2.natAbs<=4) (zK S n=O pt) ((pt.1-x).natAbs<=10) ((pt.2-y).natAbs<=10) (∀(v:V)(a b c e:Int)(g:Hp),Same H g->Rep g (Deed.bearing mo n a b c e).dt v->uz (a,b)->uz (c,e)->0<a*e-b*c->Q v g)
def ou(F:Fun K "_law_true_bearing" "_law_true_bearing" uM f fd)(Z:Zs mg)(CB:Cb P w mg base)(yBl:Has P w K mg base "_law_left_pair" 2 ["_law_d","_law_wide"] (ve K))(yCo:Has P w K mg base "_law_lead" 1 ["_law_m","_law_one","_law_other"] (eK K)):yR P w K mg base CX0 3 f fd ["_law_d","_law_m","_law_moment","_law_mark","_law_x","_law_y"] (zo K):=by
 specialize yD
 ·obtain⟨a,d,rows,S,mo,n,x,y,pt,rfl,_⟩:=h;rfl
 obtain⟨a,d,rows,S,mo,n,x,y,pt,rfl,ha,l8,bd,T,hmo,l3,rb,hpt,hx,hy,q⟩:=h;obtain⟨m,b,r,nn,lw⟩:=id T;obtain⟨v2,a2,_⟩:=xQ bd (k:=2) 'a' (by lia);obtain⟨v3,a3,_⟩:=xQ bd (k:=3) 'a' (by lia)
 refine'⟨_,(zB (aK ?_ (jU rfl (wX (uY 6 yD.nd) (wX (uY 7 yD.nd) pc))))
   (zB (aK (zU (yH hr) (zU (yH hr) (pv 1) zZ 'j') (pv 3) 'j') (jU rfl (wX (uY 8 yD.nd) (wX (uY 9 yD.nd) pc))))
   (zB (jW (i:=8) (j:=9) rfl yD.nd rfl rfl 'a' rfl rfl ?_ rfl)
   (zB (zQ 10 yD.nd ?_)
   (zB (xL ?_ (zB (aK ?_ (jU rfl (wX (uY 11 yD.nd) (wX (uY 12 yD.nd) pc))))
   (zE (zN ?_))) zV)
   (zE (zN ?_))))))),?_⟩
 nofun
 erw[_,rfl,_,rfl,d,S,0,mo,rfl,T,(by lia),hmo,(by lia),λt H1 u ht et=>?_];have lb:(vT S.runs 0 mo).1.natAbs<=12/\(vT S.runs 0 mo).2.natAbs<=12:=ZC l3 rb;generalize vT S.runs 0 mo=ld at et lb;obtain⟨kvs,pa,hm,g1,g2⟩:=ui (lw.ma.to (.of u)) hpt;exists t,_,U,SqT.of et,U,.int ld.1,_,U,.int ld.2,_,U,rfl;exists _,U,d,.ref m,U,.inl ⟨_,.inr "marks",Rd.same lw.at_ u,U,qh.symm⟩,_,U,m,.ref pa,U,.inl ⟨kvs,.inr n,hm,U,g1.symm⟩,pa,_,U,SqT.of g2,U,.int pt.1,_,U,.int pt.2,_,U,rfl;exists _,U,_,U,_,_,U,U,_,U,_,_,U,U,_,U,_,U,_,_,U,U,_,U,_,_,U,U,_,_,rfl;have bP:(pt.1-x-ld.1).natAbs<=22:=by lia
 have bQ:(pt.2-y-ld.2).natAbs<=22:=by lia
 generalize pt.1-x-ld.1=P at bP ⊢;generalize pt.2-y-ld.2=R at bQ ⊢;have C:Sq K H1 a 'u':=.inl (SqL.of (u _ _ ha));exists _,U,a,_,_,_,U,U,C,a3,_,_,U,U,gt3,_,_,U,rfl;have b1:1<=1+v3%3:=by lia
 have b2:1+v3%3<=3:=by lia
 generalize 1+v3%3=k at b1 b2;have g:xf 'u' (O ((3:Nat):Int)) J2=(rows.drop 3).map V.int:=by rw[kD,HT.sIx_nat rows.length 0 3,show min 3 rows.length=3 by lia,show HT.sIx rows.length rows.length J2=rows.length from rfl,Au (by rw[Ai]; lia)]
 have g:xf 'u' (O 3) J2=(rows.drop 3).map V.int:=g;have G:SqL K H1 a 'u':=SqL.of (u _ _ ha);exists _,U,U,_,rfl;erw[ifE (λzP=>?_) (λzP=>?_)]
 ·exists _,U,U,_,rfl;erw[ifE (λzR=>?_) (λzR=>?_)]
  ·erw[vf ?_];erw[_,rfl,_,rfl,a,_,rfl,G,λc Y=>?_];have M:=zC Y (.lst (xf 'u' (O 3) J2));erw[c,rows.drop 3,3,rfl,SqL.of (by rw[zA,g]),(by rw[Ai]; lia),(λv X=>bd v (AM X)),'a','a',λL p1 p2 A0 A1 B0 B1 H2 N o e1 e2 tn n1 n2 n3 n4=>?_];exists L,_,U,SqT.of o,U,.ref p1,_,U,.ref p2,_,U,rfl;refine⟨_,U,_,U,_,U,_,U,(by show 5<=sizeLine; decide),λw B=>?_⟩;have e:=zC B (.tup [.str "bearing",.int mo,.str n,.ref p1,.ref p2]);obtain⟨w1,p⟩:=fv tn (i4 n1 'a') (i4 n2 'a') (i4 n3 'a') (i4 n4 'a');rwa[q (.ref w) A0 A1 B0 B1 _ (u.trans (M.trans (N.trans e))) (qE zA (e _ _ e1) (e _ _ e2)) w1 p tn]
  ·exists _,U,a,_,_,_,U,U,C,a2,_,_,U,U,gt5,U,_,rfl;erw[ifE (λz5=>?_) (λz5=>?_)]
   ·
    erw[_,rfl,_,rfl,a,_,rfl,G,λc Y=>?_];have M:=zC Y (.lst (xf 'u' (O 3) J2));erw[c,rows.drop 3,3,rfl,SqL.of (by rw[zA,g]),(by rw[Ai]; lia),(λv X=>bd v (AM X)),'a','a',λL p1 p2 A0 A1 B0 B1 H2 N o e1 e2 tn n1 n2 n3 n4=>?_];exists L,_,U,SqT.of o,U,.ref p1,_,U,.ref p2,_,U,rfl;refine⟨_,U,_,U,_,U,_,U,(by show 5<=sizeLine; decide),λw B=>?_⟩;have e:=zC B (.tup [.str "bearing",.int mo,.str n,.ref p1,.ref p2]);obtain⟨w1,p⟩:=fv tn (i4 n1 'a') (i4 n2 'a') (i4 n3 'a') (i4 n4 'a');rwa[q (.ref w) A0 A1 B0 B1 _ (u.trans (M.trans (N.trans e))) (qE zA (e _ _ e1) (e _ _ e2)) w1 p tn]
   ·have nz:¬ (P=0/\R=0):=λz=>zR z.2;erw[_,rfl,_,rfl,_,rfl,_,rfl,_,_,rfl,rfl,xu (by lia),_,rfl,_,_,rfl,rfl,_,rfl,_,rfl,_,_,rfl,rfl,xu (by lia),_,rfl,_,_,rfl,rfl,sz2,λp1 J=>?_];have D:=zC J (.tup [.int (k*P+R),.int (k*R-P)]);refine⟨_,U,_,U,_,_,U,U,xu (by lia),_,U,_,_,U,U,_,U,_,U,_,_,U,U,xu (by lia),_,U,_,_,U,U,sz2,λp2 I=>⟨(by show 5<=sizeLine; decide),λw B=>?_⟩⟩;have l:=zC I (.tup [.int (k*P-R),.int (k*R+P)]);have e:=zC B (.tup [.str "bearing",.int mo,.str n,.ref p1,.ref p2]);have tn:=aQ b1 nz;have z1:=zW k P (show k.natAbs<=3 by lia) bP;have z2:=zW k R (show k.natAbs<=3 by lia) bQ;obtain⟨w1,p⟩:=fv tn (by lia) (by lia) (by lia) (by lia);rwa[q (.ref w) _ _ _ _ _ (u.trans (D.trans (l.trans e))) (qE zA (e _ _ (l _ _ zA)) (e _ _ zA)) w1 p tn]
 ·erw[zd ?_];exists _,U,a,_,_,_,U,U,C,a2,_,_,U,U,gt5,U,_,rfl;erw[ifE (λz5=>?_) (λz5=>?_)]
  ·
   erw[_,rfl,_,rfl,a,_,rfl,G,λc Y=>?_];have M:=zC Y (.lst (xf 'u' (O 3) J2));erw[c,rows.drop 3,3,rfl,SqL.of (by rw[zA,g]),(by rw[Ai]; lia),(λv X=>bd v (AM X)),'a','a',λL p1 p2 A0 A1 B0 B1 H2 N o e1 e2 tn n1 n2 n3 n4=>?_];exists L,_,U,SqT.of o,U,.ref p1,_,U,.ref p2,_,U,rfl;refine⟨_,U,_,U,_,U,_,U,(by show 5<=sizeLine; decide),λw B=>?_⟩;have e:=zC B (.tup [.str "bearing",.int mo,.str n,.ref p1,.ref p2]);obtain⟨w1,p⟩:=fv tn (i4 n1 'a') (i4 n2 'a') (i4 n3 'a') (i4 n4 'a');rwa[q (.ref w) A0 A1 B0 B1 _ (u.trans (M.trans (N.trans e))) (qE zA (e _ _ e1) (e _ _ e2)) w1 p tn]
  ·have nz:¬ (P=0/\R=0):=λz=>zP z.1;erw[_,rfl,_,rfl,_,rfl,_,rfl,_,_,rfl,rfl,xu (by lia),_,rfl,_,_,rfl,rfl,_,rfl,_,rfl,_,_,rfl,rfl,xu (by lia),_,rfl,_,_,rfl,rfl,sz2,λp1 J=>?_];have D:=zC J (.tup [.int (k*P+R),.int (k*R-P)]);refine⟨_,U,_,U,_,_,U,U,xu (by lia),_,U,_,_,U,U,_,U,_,U,_,_,U,U,xu (by lia),_,U,_,_,U,U,sz2,λp2 I=>⟨(by show 5<=sizeLine; decide),λw B=>?_⟩⟩;have l:=zC I (.tup [.int (k*P-R),.int (k*R+P)]);have e:=zC B (.tup [.str "bearing",.int mo,.str n,.ref p1,.ref p2]);have tn:=aQ b1 nz;have z1:=zW k P (show k.natAbs<=3 by lia) bP;have z2:=zW k R (show k.natAbs<=3 by lia) bQ;obtain⟨w1,p⟩:=fv tn (by lia) (by lia) (by lia) (by lia);rwa[q (.ref w) _ _ _ _ _ (u.trans (D.trans (l.trans e))) (qE zA (e _ _ (l _ _ zA)) (e _ _ zA)) w1 p tn]
def xj(_:c5):Sp:=QG
def kW(F:Fun K "_law_some_deeds" "_law_some_deeds" tE f fd)(Z:Zs mg)(CB:Cb P w mg base)(yAl:Has P w K mg base "_law_true_bearing" 3 ["_law_d","_law_m","_law_moment","_law_mark","_law_x","_law_y"] (zo K))(yCs:Has P w K mg base "_law_new" 1 [] (bZ K)):yR P w K mg base CX0 4 f fd ["_law_some","_law_names_here"] (xj K):=by
 specialize zX
 ·obtain⟨a,r,rows,ns,rfl,_⟩:=h;rfl
 obtain⟨a,R,rows,ns,rfl,ha,l90,bd,eR,ln,okn,nod,q⟩:=h;obtain⟨v5,a5,_⟩:=xQ bd (k:=5) 'a' (by lia);obtain⟨v6,a6,_⟩:=xQ bd (k:=6) 'a' (by lia);obtain⟨v7,a7,_⟩:=xQ bd (k:=7) 'a' (by lia);obtain⟨v18,a18,_⟩:=xQ bd (k:=18) 'a' (by lia);have sq:∀{H':Hp},H' a=O (.lst 'u')->Sq K H' a 'u':=λh=>.inl (SqL.of h)
 refine'⟨_,(zB (jW (i:=2) (j:=3) rfl zX.nd rfl rfl 'a' rfl rfl ?_ rfl)
   (zB (zQ 4 zX.nd (eF yCs 'e' rfl))
   (zB (zQ 5 zX.nd ?_)
   (zB (xH v8 rfl (xP rfl Z.range ?_) (uY 6 zX.nd) (zB (zO (qo (pv 5) ?_))
   (zE (qY (yH hr) (zU (yH hr) (pv 4) zZ 'j') ?_ (zk WM ?_ (xy wH) oz) rfl))))
   (zB (xH v8 rfl (xP rfl Z.range ?_) (uY 6 zX.nd) (zB (zO (qo (pv 5) ?_))
   (zE (zO (qo (zU (yH hr) (pv 4) zZ 'j') (zD (zk WM ?_ (xy wH) oz) zL))))))
   (zB (zQ 7 zX.nd (yP oo rfl Z.sorted wv (zD (tV (oF rfl) rfl Z.list pU (zD (zU (yH hr) (pv 4) zZ 'j') zL)) zL)))
   (zB (xH v8 rfl (xP rfl Z.range ?_) (uY 6 zX.nd) (zB (zQ 8 zX.nd ?_)
   (zB (zQ 9 zX.nd (tZ Tl ?_ (tZ fH (yP xz rfl Z.len oG (zD (zU (yH hr) (pv 4) zZ 'j') zL)) wH)))
   (zB (jW (i:=10) (j:=11) rfl zX.nd rfl rfl 'a' rfl rfl ?_ rfl)
   (zB (zQ 12 zX.nd ?_)
   (zB (xL (PW.pt (ZT ?_ (fD (xA (Vi hr.units0) (zU (yH hr) (zU (yH hr) (pv 4) zZ 'j') (pv 10) 'j') (zU (yH hr) (zU (yH hr) (pv 4) zZ 'j') (pv 11) 'j') (sS _))))) (zE (zQ 12 zX.nd ?_)) zV)
   (zE (zO (qo (pv 5) (zD (pv 12) zL))))))))))
   (zE (zN (pv 5)))))))))),?_⟩
 nofun
 exists _,U,a,_,_,_,U,U,sq ha,a5,_,_,U,U,(by show(0:Int)<1701; decide),_,_,rfl,rfl,_,rfl,a,_,_,_,rfl,rfl,sq ha,a6,_,_,rfl,rfl,(by show(0:Int)<1701; decide),_,_,rfl,rfl,_,_,rfl;have x1:(v5%1701-850).natAbs<=850:=by lia
 have y1:(v6%1701-850).natAbs<=850:=by lia
 generalize v5%1701-850=X at x1 ⊢;generalize v6%1701-850=Y at y1 ⊢;erw[rfl,λd m b r n H1 s1 hd hm hr0 ed em eb er en nbm nnm=>?_];erw[sz0,λL hL=>?_];have sL:=zC hL 'C';have ndL:d≠L:=zI ed hL;have nmL:m≠L:=zI em hL;have nrL:r≠L:=zI er hL;have eL1:upd H1 L 'C' L=O 'C':=zA;have ha1:=sL _ _ (s1 _ _ ha);have eR1:=sL _ _ (s1 _ _ eR);have ed1:=sL _ _ ed;have em1:=sL _ _ em;have eb1:=sL _ _ eb;have er1:=sL _ _ er;have en1:=sL _ _ en;have s01:=s1.trans sL;have hL0:=s1.free hL;generalize upd H1 L 'C'=H2 at eL1 ha1 eR1 ed1 em1 eb1 er1 en1 s01 ⊢;have naL:a≠L:=λz=>by rw[z,hL0] at ha; cases ha
 have nam:a≠m:=λz=>by rw[z,hm] at ha; cases ha
 have nRL:R≠L:=λz=>by rw[z,hL0] at eR; cases eR
 have nRm:R≠m:=λz=>by rw[z,hm] at eR; cases eR
 have ndm:d≠m:=λz=>by rw[z,em1] at ed1; cases ed1
 exists _,U,a,_,_,_,U,U,sq ha1,a7,_,_,U,U,gt3,_,_,U,rfl;have k3:3<=3+v7%3:=by lia
 have k5:3+v7%3<=5:=by lia
 generalize 3+v7%3=M at k3 k5;refine⟨_,U,(by lia),(by lia),uC (lo:=0) (n:=M.toNat) (λi σ H'=>A3 (∀ x o,x≠L->x≠m->H2 x=O o->H' x=O o) (E4 λ(G:List Deed) (l:List (j9×Int×Int)) (xs:List V) (mk:List (Key×V))=>A8 (H' L=O (.lst xs)) (xS H' (G.map Deed.dt) xs) (G.length=i) (jA G l [] [] 1) (l.map (·.1)=ns.take i) (H' m=O (.dK mk)) (wC H' mk (mkE l)) (∀ e∈l,(e.2.1-X).natAbs<=10/\(e.2.2-Y).natAbs<=10)) (∃ u:Option V,σ=[O (.ref a),O (.ref R),O (.int X),O (.int Y),O (.ref d),O (.ref L),u,J2,J2,J2,J2,J2,J2]))
  ⟨λ_ _ _ _ e=>e,⟨[],[],[],[],eL1,zY.mpr rfl,rfl,VI,rfl,em1,.nil,λe he=>(nomatch he)⟩,J2,rfl⟩ ?_ ?_⟩
 ·rintro i σ H3 hi ⟨sH,⟨G,l,xs,mk,eL,rp,lD,dn,nms,eM,kv,pl⟩,u,rfl⟩;have hi5:i<ns.length:=by lia
  have hn:ns[i]?=O ns[i]:=c6 hi5;have ha3:=sH _ _ naL nam ha1;have eR3:=sH _ _ nRL nRm eR1;obtain⟨w1,b1,_⟩:=xQ bd (k:=8+2*i) (by lia) (by lia);obtain⟨w2,b2,_⟩:=xQ bd (k:=9+2*i) (by lia) (by lia);rw[BN];have c1:atI 'u' (8+2*(i:Int))=O (.int w1):=by rw[show 8+2*(i:Int)=((8+2*i:Nat):Int) by lia]; rwa[b1]
  have c2:atI 'u' (9+2*(i:Int))=O (.int w2):=by rw[show 9+2*(i:Int)=((9+2*i:Nat):Int) by lia]; rwa[b2]
  have cn:atI (ns.map V.str) (i:Int)=O (.str ns[i]):=vX (by rw[e7,hn]; rfl);exists _,U,.inl ⟨U,_,SqL.of eL⟩,_,U,_,U,R,_,_,.str ns[i],U,U,.inl (SqL.of eR3),cn;exists _,U,_,U,_,U,_,_,U,U,xu (by lia),_,_,U,U,a,_,_,_,U,U,sq ha3,c1,_,_,U,U,(by show(0:Int)<21; decide),_,_,rfl,rfl,_,_,rfl,rfl;refine⟨_,U,_,U,_,U,_,_,U,U,xu (by lia),_,_,U,U,a,_,_,_,U,U,sq ha3,c2,_,_,U,U,(by show(0:Int)<21; decide),_,_,rfl,rfl,_,_,rfl,rfl,(by show 4<=sizeLine; decide),λt ht=>?_⟩;have x3:(X+w1%21-10-X).natAbs<=10:=by lia
  have y3:(Y+w2%21-10-Y).natAbs<=10:=by lia
  generalize X+w1%21-10=g at x3 ⊢;generalize Y+w2%21-10=W at y3 ⊢;have st:=zC ht (.tup [.str "mark",.str ns[i],.int g,.int W]);have eL3:=st _ _ eL;exists L,_,.ref t,U,U,eL3,zM (by rw[rp.length,b9]; lia);have sE4:=vi (o:=.lst (xs++[.ref t])) eL3;have np4:=vU eL3;have ntL:t≠L:=λz=>by rw[z,eL] at ht; cases ht
  have rp4:xS (upd (upd H3 t (.tup [.str "mark",.str ns[i],.int g,.int W])) L (.lst (xs++[.ref t]))) ((G++[Deed.mark ns[i] g W]).map Deed.dt) (xs++[.ref t]):=by
   rw[f8];exact(xS.app (rp.to (.of st)) (.one (Zx zA))).sam sE4 np4
  have kv4:=(kv.to (.of st)).sam sE4 np4;have k4:∀ x o,x≠L->H3 x=O o->upd (upd H3 t (.tup [.str "mark",.str ns[i],.int g,.int W])) L (.lst (xs++[.ref t])) x=O o:=λx o h e=>by rw[zG h]; rwa[st _ _ e]
  have eL4:upd (upd H3 t (.tup [.str "mark",.str ns[i],.int g,.int W])) L (.lst (xs++[.ref t])) L=O (.lst (xs++[.ref t])):=zA;have et4:upd (upd H3 t (.tup [.str "mark",.str ns[i],.int g,.int W])) L (.lst (xs++[.ref t])) t=O (.tup [.str "mark",.str ns[i],.int g,.int W]):=by rw[zG ntL,zA]
  generalize upd (upd H3 t (.tup [.str "mark",.str ns[i],.int g,.int W])) L (.lst (xs++[.ref t]))=H4 at rp4 kv4 k4 eL4 et4 ⊢;have eM4:=k4 _ _ nmL eM;have ed4:=k4 _ _ ndL (sH _ _ ndL ndm ed1);have eR4:=k4 _ _ nRL eR3;have lst1:atI (xs++[.ref t]) (-1)=O (.ref t):=Zl xs (.ref t);refine⟨_,U,_,U,L,_,_,.ref t,U,U,.inl (SqL.of eL4),lst1,_,U,t,_,U,SqT.of et4,(λz=>y9 z.1 (by show ¬ HT.sIx 4 0 (O 2)=0; decide)),λc hc=>?_⟩;rw[show xf [V.str "mark",V.str ns[i],V.int g,V.int W] (O 2) J2=[V.int g,V.int W] from rfl];have sc:=zC hc (.tup [.int g,.int W]);have eM5:=sc _ _ eM4;have lk:mk.length=l.length:=by rw[kv.length,kB]
  have ll:l.length=i:=by have:=congrArg Ay nms; rw[b9,m8] at this; lia
  exists _,U,d,.ref m,U,.inl ⟨_,.inr "marks",.inl (sc _ _ ed4),U,qh.symm⟩,_,U,_,U,R,_,_,.str ns[i],U,U,.inl (SqL.of (sc _ _ eR4)),cn,m,_,U,cC.k (k:=.inr ns[i]) eM5 (zM (by lia));have sE5:=vi (o:=.dK (zz mk (.inr ns[i]) (.ref c))) eM5;have np5:=np_dk eM5;have nmem:ns[i] ∉ l.map (·.1):=by
   rw[nms];rwa[ig nod hn]
  have nr5:zm (g,W):=⟨by dsimp only; lia,by dsimp only; lia,by dsimp only; lia,by dsimp only; lia⟩;erw[λx o h1 h2 e=>by rw[zG h2]; exact sc _ _ (k4 _ _ h1 (sH _ _ h1 h2 e)),⟨G++[.mark ns[i] g W],l++[(ns[i],g,W)],xs++[.ref t],_,?_,(rp4.to (.of sc)).sam sE5 np5,(by rw[f9,lD]; rfl),dn.mark (Xa (okn _ (r6 hi5)) nmem nr5 (by lia)),?_,zA,?_,λe he=>?_⟩,_,rfl]
  ·rw[zG nmL.symm]; rwa[sc _ _ eL4]
  ·rw[f8,nms,w9,hn]; rfl
  ·have:=((kv4.to (.of sc)).put (k:=.inr ns[i]) (zp (p:=(g,W)) zA)).sam sE5 np5;have pe:=sy (es:=mkE l) (k:=.inr ns[i]) (d:=ptD (g,W)) (aH (S:=stN l [] [] 1) (ix nmem));rw[pe] at this;rw[bh];rwa[this]
  ·rcases j5.mp he with z | z
   ·rwa[pl e z]
   ·rw[g6.mp z]; rwa[x3,y3]
 ·rintro σ H3 ⟨sH,⟨G,l,xs,mk,eL,rp,lD,dn,nms,eM,kv,pl⟩,u,rfl⟩;have nrm:r≠m:=λz=>by rw[z,em1] at er1; cases er1
  have nar:a≠r:=λz=>by rw[z,hr0] at ha; cases ha
  have ndr:d≠r:=λz=>by rw[z,er1] at ed1; cases ed1
  have nbL:b≠L:=zI eb hL;have nnL:n≠L:=zI en hL;have nbr:b≠r:=λz=>by rw[z,er1] at eb1; cases eb1
  have nnr:n≠r:=λz=>by rw[z,er1] at en1; cases en1
  have ha3:=sH _ _ naL nam ha1;have ed3:=sH _ _ ndL ndm ed1;have er3:=sH _ _ nrL nrm er1;have eb3:=sH _ _ nbL nbm eb1;have en3:=sH _ _ nnL nnm en1;have s03:∀ x o,H x=O o->H3 x=O o:=λx o e=>sH x o (zI e hL0) (zI e hm) (s01 _ _ e);have lM:l.length=M.toNat:=by have:=congrArg Ay nms; rw[b9,m8] at this; lia
  clear sH;exists _,U,a,_,_,_,U,U,sq ha3,a18,_,_,U,U,gt4;have n0:0<=v18%4:=by lia
  have n3:v18%4<=3:=by lia
  generalize v18%4=N at n0 n3;refine⟨_,U,(by lia),(by lia),uC (lo:=0) (n:=N.toNat) (λi σ H'=>A3 (∀ x o,x≠L->x≠r->H3 x=O o->H' x=O o) (E4 λ(G:List Deed) (I:List 'x') (xs ys:List V)=>A8 (H' L=O (.lst xs)) (xS H' (G.map Deed.dt) xs) (G.length=M.toNat+i) (jA G l I [] 1) (I.length=i) (H' r=O (.lst ys)) (xS H' (I.map ptD) ys) (∀ e∈I,e.1.natAbs<=4/\e.2.natAbs<=4)) (∃ u:Option V,σ=[O (.ref a),O (.ref R),O (.int X),O (.int Y),O (.ref d),O (.ref L),u,J2,J2,J2,J2,J2,J2]))
   ⟨λ_ _ _ _ e=>e,⟨G,[],xs,[],eL,rp,lD,dn,rfl,er3,zY.mpr rfl,λe he=>(nomatch he)⟩,u,rfl⟩ ?_ ?_⟩
  ·clear lD rp dn;rintro i σ H4 hi ⟨sK,⟨G,I,xs,ys,eL,rp,lD,dn,lrs,er4,rr,rb⟩,u,rfl⟩;have ha4:=sK _ _ naL nar ha3;have ed4:=sK _ _ ndL ndr ed3;obtain⟨w1,b1,_⟩:=xQ bd (k:=19+2*i) (by lia) (by lia);obtain⟨w2,b2,_⟩:=xQ bd (k:=20+2*i) (by lia) (by lia);rw[BN];have c1:atI 'u' (19+2*(i:Int))=O (.int w1):=b1;have c2:atI 'u' (20+2*(i:Int))=O (.int w2):=b2;exists _,U,.inl ⟨U,_,SqL.of eL⟩,_,U,_,U,_,_,U,U,xu (by lia),_,_,U,U,a,_,_,_,U,U,sq ha4,c1,_,_,U,U,(by show(0:Int)<9; decide),_,_,rfl,rfl;refine⟨_,U,_,U,_,_,U,U,xu (by lia),_,_,U,U,a,_,_,_,U,U,sq ha4,c2,_,_,U,U,(by show(0:Int)<9; decide),_,_,rfl,rfl,sz3,λt ht=>?_⟩;have x3:(w1%9-4).natAbs<=4:=by lia
   have y3:(w2%9-4).natAbs<=4:=by lia
   generalize w1%9-4=g at x3 ⊢;generalize w2%9-4=W at y3 ⊢;have st:=zC ht (.tup [.str "sail",.int g,.int W]);have eL3:=st _ _ eL;exists L,_,.ref t,U,U,eL3,zM (by rw[rp.length,b9]; lia);have sE4:=vi (o:=.lst (xs++[.ref t])) eL3;have np4:=vU eL3;have ntL:t≠L:=λz=>by rw[z,eL] at ht; cases ht
   have rp4:xS (upd (upd H4 t (.tup [.str "sail",.int g,.int W])) L (.lst (xs++[.ref t]))) ((G++[Deed.sail g W]).map Deed.dt) (xs++[.ref t]):=by
    rw[f8];exact(xS.app (rp.to (.of st)) (.one (aJ zA))).sam sE4 np4
   have rr4:=(rr.to (.of st)).sam sE4 np4;have k4:∀ x o,x≠L->H4 x=O o->upd (upd H4 t (.tup [.str "sail",.int g,.int W])) L (.lst (xs++[.ref t])) x=O o:=λx o h e=>by rw[zG h]; rwa[st _ _ e]
   have eL4:upd (upd H4 t (.tup [.str "sail",.int g,.int W])) L (.lst (xs++[.ref t])) L=O (.lst (xs++[.ref t])):=zA;have et4:upd (upd H4 t (.tup [.str "sail",.int g,.int W])) L (.lst (xs++[.ref t])) t=O (.tup [.str "sail",.int g,.int W]):=by rw[zG ntL,zA]
   generalize upd (upd H4 t (.tup [.str "sail",.int g,.int W])) L (.lst (xs++[.ref t]))=H5 at rp4 rr4 k4 eL4 et4 ⊢;have er5:=k4 _ _ nrL er4;have ed5:=k4 _ _ ndL ed4;have lst1:atI (xs++[.ref t]) (-1)=O (.ref t):=Zl xs (.ref t);refine⟨_,U,d,.ref r,U,.inl ⟨_,.inr "runs",.inl ed5,U,bL.symm⟩,.inl ⟨U,_,SqL.of er5⟩,_,U,_,U,L,_,_,.ref t,U,U,.inl (SqL.of eL4),lst1,_,U,t,_,U,SqT.of et4,(λz=>y9 z.1 (by show ¬ HT.sIx 3 0 (O 1)=0; decide)),λc hc=>?_⟩;rw[show xf [V.str "sail",V.int g,V.int W] (O 1) J2=[V.int g,V.int W] from rfl];have sc:=zC hc (.tup [.int g,.int W]);have er6:=sc _ _ er5;have ly:ys.length=I.length:=by rw[rr.length,b9]
   exists r,_,.ref c,U,U,er6,zM (by lia);have sE6:=vi (o:=.lst (ys++[.ref c])) er6;have np6:=vU er6;have nr5:zm (g,W):=⟨by dsimp only; lia,by dsimp only; lia,by dsimp only; lia,by dsimp only; lia⟩;erw[λx o h1 h2 e=>by rw[zG h2]; exact sc _ _ (k4 _ _ h1 (sK _ _ h1 h2 e)),⟨G++[.sail g W],I++[(g,W)],xs++[.ref t],ys++[.ref c],?_,(rp4.to (.of sc)).sam sE6 np6,(by rw[f9,lD]; rfl),dn.sail (YR nr5 (by lia)),(by rw[f9,lrs]; rfl),zA,?_,λe he=>?_⟩,_,rfl]
   ·rw[zG nrL.symm]; rwa[sc _ _ eL4]
   ·rw[f8];exact(xS.app (rr4.to (.of sc)) (.one (zp (p:=(g,W)) zA))).sam sE6 np6
   ·rcases j5.mp he with z | z
    ·rwa[rb e z]
    ·rw[g6.mp z]; rwa[x3,y3]
  ·rintro σ H4 ⟨sK,hh,u,rfl⟩;have sE4:wG (λx=>x=L\/x=r) H3 H4:=λx o hx e=>.inl (sK x o (λz=>hx (.inl z)) (λz=>hx (.inr z)) e);have np4:∀ b xs,H3 b=O 'q'->¬ (b=L\/b=r):=λb xs e z=>z.elim (vU eL b xs e) (vU er3 b xs e);have kv4:=kv.sam sE4 np4;clear eL rp lD dn;obtain⟨G,I,xs,ys,eL,rp,lD,dn,lrs,er4,rr,rb⟩:=hh;have ha4:=sK _ _ naL nar ha3;have ed4:=sK _ _ ndL ndr ed3;have eM4:=sK _ _ nmL nrm.symm eM;have eb4:=sK _ _ nbL nbr eb3;have en4:=sK _ _ nnL nnr en3;have s04:∀ x o,H x=O o->H4 x=O o:=λx o e=>sK x o (zI e hL0) (zI e hr0) (s03 _ _ e);have lw4:LwA H4 d m b r n (stN l I [] 1):=⟨.inl ed4,⟨mk,.inl eM4,kv4⟩,.nil eb4,⟨ys,er4,rr⟩,.nil en4⟩;have lrm:(mk.map λkv=>kV kv.1)=(l.map (·.1)).map V.str:=hW kv4;have ly:ys.length=I.length:=by rw[rr.length,b9]
   erw[_,rfl,d,.ref m,rfl,.inl ⟨_,.inr "marks",.inl ed4,rfl,qh.symm⟩,m,mk,rfl,.inl eM4,λp1 hp1=>?_];rw[lrm];have s5:=zC hp1 (.lst ((l.map (·.1)).map V.str));erw[p1,l.map (·.1),rfl,SqL.of zA,(by rw[b9]; lia),λp2 ms hp2 pm srt=>?_];have s6:=zC hp2 (.lst (ms.map V.str));have s46:=s5.trans s6;have ep2:upd (upd H4 p1 (.lst ((l.map (·.1)).map V.str))) p2 (.lst (ms.map V.str)) p2=O (.lst (ms.map V.str)):=zA;generalize upd (upd H4 p1 (.lst ((l.map (·.1)).map V.str))) p2 (.lst (ms.map V.str))=H6 at s46 ep2 ⊢;have lms:ms.length=M.toNat:=by rw[pm.length_eq,b9,lM]
   have np2:p2≠L:=λz=>by rw[z] at hp2; rw[s5 _ _ eL] at hp2; cases hp2
   have ha6:=s46 _ _ ha4;have lw6:=lw4.to (.of s46);have rp6:=rp.to (.of s46);have eL6:=s46 _ _ eL;have s06:∀ x o,H x=O o->H6 x=O o:=λx o e=>s46 _ _ (s04 _ _ e);exists _,U,a,_,_,_,U,U,sq ha6,a7,_,_,U,U,pH.of 'a' 'm',_,_,U,U,(by show(0:Int)<7; decide);have j0:0<=v7/3%7:=by lia
   have j6:v7/3%7<=6:=by lia
   generalize v7/3%7=J at j0 j6;refine⟨_,U,(by lia),(by lia),uC (lo:=0) (n:=J.toNat) (λi σ H'=>A3 (∀ x o,x≠L->H6 x=O o->H' x=O o) (E4 λ(G:List Deed) (no:List (Int×Deed)) (k:Int) (xs:List V)=>A5 (H' L=O (.lst xs)) (xS H' (G.map Deed.dt) xs) (G.length=M.toNat+N.toNat+i) (jA G l I no k) (vj no k i)) (E6 λ(u1 u2 u3 u4 u5 u6:Option V)=>σ=[O (.ref a),O (.ref R),O (.int X),O (.int Y),O (.ref d),O (.ref L),u1,O (.ref p2),u2,u3,u4,u5,u6]))
    ⟨λ_ _ _ e=>e,⟨G,[],1,xs,eL6,rp6,lD,dn,vj.nil⟩,u,J2,J2,J2,J2,J2,rfl⟩ ?_ ?_⟩
   ·clear lD rp dn rp6 eL6;rintro i σ H7 hi ⟨sJ,⟨G,no,k,xs,eL7,rp,lD,dn,lno⟩,u1,u2,u3,u4,u5,u6,rfl⟩;have sE7:wG (λx=>x=L) H6 H7:=λx o hx e=>.inl (sJ x o hx e);have eLq:∃ zs,H6 L=O (.lst zs):=⟨_,s46 _ _ eL⟩;obtain⟨zs,eLq⟩:=eLq;have lw7:=lw6.samE sE7 (λa kvs h z=>by
     rw[z] at h;rcases h with h | ⟨o,h⟩ <;> rw[eLq] at h <;> cases h) (vU eLq) (λ_ _=>nrL)
    have ha7:=sJ _ _ naL ha6;have ep7:=sJ _ _ np2 ep2;rw[BN];have cut:xf 'u' (O (27+8*(i:Int))) J2=(rows.drop (27+8*i)).map V.int:=by
     rw[show 27+8*(i:Int)=((27+8*i:Nat):Int) by lia,kD,HT.sIx_nat rows.length 0 (27+8*i),show min (27+8*i) rows.length=27+8*i by lia,show HT.sIx rows.length rows.length J2=rows.length from rfl,Au (by rw[Ai]; lia)]
    erw[_,rfl,_,rfl,_,_,rfl,rfl,xu (by lia),_,_,rfl,rfl,_,rfl,a,_,rfl,SqL.of ha7,λc hc=>?_];rw[cut];have bd8:∀ v∈rows.drop (27+8*i),0<=v/\v<1000003:=λv hv=>bd v (AM hv);have l8:8<=(rows.drop (27+8*i)).length:=by rw[Ai]; lia
    generalize rows.drop (27+8*i)=rw8 at bd8 l8 ⊢;have sc:=zC hc (.lst (rw8.map V.int));have ec:upd H7 c (.lst (rw8.map V.int)) c=O (.lst (rw8.map V.int)):=zA;have lw8:=lw7.to (.of sc);have rp8:=rp.to (.of sc);have eL8:=sc _ _ eL7;have ep8:=sc _ _ ep7;have k8:∀ x o,x≠L->H6 x=O o->upd H7 c (.lst (rw8.map V.int)) x=O o:=λx o h e=>sc _ _ (sJ x o h e);generalize upd H7 c (.lst (rw8.map V.int))=H8 at ec lw8 rp8 eL8 ep8 k8 ⊢;obtain⟨d0,g0,_⟩:=xQ bd8 (k:=0) 'a' (by lia);obtain⟨d1,g1,_⟩:=xQ bd8 (k:=1) 'a' (by lia);obtain⟨d2,g2,_⟩:=xQ bd8 (k:=2) 'a' (by lia);have cq:Sq K H8 c (rw8.map V.int):=.inl (SqL.of ec);obtain⟨ys8,er8,rr8⟩:=lw8.ru;have ly8:ys8.length=I.length:=by rw[rr8.length,b9]; rfl
    exists _,U,c,_,_,_,U,U,cq,g0,_,U,d,.ref r,U,.inl ⟨_,.inr "runs",lw8.at_,U,bL.symm⟩,r,ys8,U,.inl (SqL.of er8),_,_,U,U,_,_,U,U,(by show(0:Int)<(ys8.length:Int)+1; lia);rw[ly8];obtain⟨mo,emo⟩:∃ mo:Nat,d0%((I.length:Int)+1)=mo:=⟨(d0%((I.length:Int)+1)).toNat,(Ew (An _ (by lia))).symm⟩;have hmo:mo<=I.length:=by have:=z7 d0 (show(0:Int)<(I.length:Int)+1 by lia); lia
    rw[emo];have lk:((ms.map V.str).length:Int)=M:=by rw[b9,lms]; lia
    obtain⟨i1,h1,g3⟩:∃ n1,n1∈ms/\atI (ms.map V.str) (d1%((ms.map V.str).length:Int))=O (.str n1):=Tq (by lia);obtain⟨i2,h2,g4⟩:∃ n1,n1∈ms/\atI (ms.map V.str) (d2/5%((ms.map V.str).length:Int))=O (.str n1):=Tq (by lia);have pq:Sq K H8 p2 (ms.map V.str):=.inl (SqL.of ep8);exists _,U,_,U,c,_,_,_,U,U,cq,g1,_,U,p2,_,U,.inl (SqL.of ep8),_,_,U,U,(by show(0:Int)<((ms.map V.str).length:Int); lia),p2,_,_,.str i1,rfl,rfl,pq,g3;exists _,U,_,U,c,_,_,_,U,U,cq,g2,_,_,U,U,pH.of 'a' 'm',_,U,p2,_,U,.inl (SqL.of ep8),_,_,U,U,(by show(0:Int)<((ms.map V.str).length:Int); lia),p2,_,_,.str i2,rfl,rfl,pq,g4,_,_,rfl;refine⟨_,U,_,U,_,U,(by show 4<=sizeLine; decide),λt ht=>?_⟩;have st:=zC ht (.tup [.str "range",.int mo,.str i1,.str i2]);have et:upd H8 t (.tup [.str "range",.int mo,.str i1,.str i2]) t=O (.tup [.str "range",.int mo,.str i1,.str i2]):=zA;have ec9:=st _ _ ec;have lw9:=lw8.to (.of st);have rp9:=rp8.to (.of st);have eL9:=st _ _ eL8;have k9:∀ x o,x≠L->H6 x=O o->upd H8 t (.tup [.str "range",.int mo,.str i1,.str i2]) x=O o:=λx o h e=>st _ _ (k8 x o h e);have ntL:t≠L:=λz=>by rw[z,eL8] at ht; cases ht
    generalize upd H8 t (.tup [.str "range",.int mo,.str i1,.str i2])=H9 at et ec9 lw9 rp9 eL9 k9 ⊢;have m1:i1∈l.map (·.1):=pm.mem_iff.mp h1;have m2:i2∈l.map (·.1):=pm.mem_iff.mp h2;obtain⟨q1,f1⟩:=wJ (S:=stN l I [] 1) m1;obtain⟨q2,f2⟩:=wJ (S:=stN l I [] 1) m2;obtain⟨kvs,pa,hkv,t1,t2⟩:=ui lw9.ma f1;obtain⟨kvs',pb,hkv',t3,t4⟩:=ui lw9.ma f2;have pl1:=pl _ (yS f1);have cq9:Sq K H9 c (rw8.map V.int):=.inl (SqL.of ec9);have lx:xs.length=M.toNat+N.toNat+i:=by rw[rp.length,b9,lD]
    have fin:∀(v:V)(D:Deed)(no':List (Int×Deed))(k':Int)(Hz:Hp),Same H9 Hz->Rep Hz D.dt v->jA (G++[D]) l I no' k'->vj no' k' (i+1) ->
      Hz L=O (.lst xs)/\((∀ x o,x≠L->H6 x=O o->upd Hz L (.lst (xs++[v])) x=O o)/\(E4 λ(G:List Deed) (no:List (Int×Deed)) (k:Int) (ys:List V)=>A5 (upd Hz L (.lst (xs++[v])) L=O (.lst ys)) (xS (upd Hz L (.lst (xs++[v]))) (G.map Deed.dt) ys) (G.length=M.toNat+N.toNat+(i+1)) (jA G l I no k) (vj no k (i+1)))):=by
     intro v D no' k' Hz sz rv dz ln;have T:=sz _ _ eL9;erw[T,λx o h e=>by rw[zG h]; exact sz _ _ (k9 x o h e),G++[D],no',k',xs++[v],zA,?_,by rw[f9,lD]; rfl,dz,ln];rw[f8];exact(xS.app (rp9.to (.of sz)) (.one rv)).sam (vi T) (vU T)
    exists _,U,c,_,_,_,U,U,cq9,g2,_,_,U,U,gt5,_,_,U,U,_,rfl;erw[ifD (λz=>?_) (λz=>?_)]
    ·erw[vf ?_];refine⟨_,U,_,U,_,U,_,U,_,U,_,U,c,d,rw8,stN l I [] 1,mo,i1,X,Y,q1,U,ec9,l8,bd8,⟨m,b,r,n,lw9⟩,hmo,(by show I.length<=3; lia),rb,f1,pl1.1,pl1.2,λv A B C D Hz sz rv w1 w2 tn=>?_⟩;obtain⟨T,f3,f4⟩:=fin v _ _ _ Hz sz rv (dn.bearing (jP hmo m1 w1 w2 tn (by rw[lno.len]; lia))) lno.snoc;erw[_,rfl,.inl ⟨rfl,_,SqL.of T⟩,_,rfl,L,_,v,rfl,rfl,T,zM (by lia),f3,f4,_,_,_,_,_,_,rfl]
    ·refine⟨_,U,d,.ref m,U,.inl ⟨_,.inr "marks",lw9.at_,U,qh.symm⟩,_,U,m,_,U,.inl ⟨kvs,.inr i1,hkv,U,t1.symm⟩,_,U,d,.ref m,U,.inl ⟨_,.inr "marks",lw9.at_,U,qh.symm⟩,_,U,m,_,U,.inl ⟨kvs',.inr i2,hkv',U,t3.symm⟩,
      pa,pb,[q1.1,q1.2],[q2.1,q2.2],rfl,rfl,SqT.of t2,SqT.of t4,_,rfl,?_⟩
     erw[ifD (λz=>?_) (λz=>?_)]
     ·
      refine⟨_,U,_,U,_,U,_,U,_,U,_,U,c,d,rw8,stN l I [] 1,mo,i1,X,Y,q1,U,ec9,l8,bd8,⟨m,b,r,n,lw9⟩,hmo,(by show I.length<=3; lia),rb,f1,pl1.1,pl1.2,λv A B C D Hz sz rv w1 w2 tn=>?_⟩;obtain⟨T,f3,f4⟩:=fin v _ _ _ Hz sz rv (dn.bearing (jP hmo m1 w1 w2 tn (by rw[lno.len]; lia))) lno.snoc;erw[_,rfl,.inl ⟨rfl,_,SqL.of T⟩,_,rfl,L,_,v,rfl,rfl,T,zM (by lia),f3,f4,_,_,_,_,_,_,rfl]
     ·have ne:zK (stN l I no k) i1≠zK (stN l I no k) i2:=λy=>by
       have y:zK (stN l I [] 1) i1=zK (stN l I [] 1) i2:=y;rw[f1,f2] at y;injection y with y
       rwa[z (by rw[y])]
      obtain⟨T,f3,f4⟩:=fin (.ref t) _ _ _ H9 (Same.refl _) (Wp et) (dn.range (UV hmo m1 m2 ne (by rw[lno.len]; lia))) lno.snoc;erw[_,rfl,.inl ⟨rfl,_,SqL.of T⟩,_,rfl,L,_,.ref t,rfl,rfl,T,zM (by lia),f3,f4,_,_,_,_,_,_,rfl]
   ·clear lD rp dn;rintro σ H7 ⟨sJ,⟨G,no,k,xs,eL7,rp,lD,dn,lno⟩,u1,u2,u3,u4,u5,u6,rfl⟩;refine⟨_,U,q L xs G H7 (λx o e=>sJ x o (zI e hL0) (s06 _ _ e)) hL0 eL7 rp (by lia) dn.ok (by rw[dn.at_]; show I.length<=3; lia) dn.four ⟨J.toNat,by lia,by rw[dn.at_]; rwa[lno]⟩ (by rw[dn.at_]; exact⟨by show 3<=l.length; lia,by show l.length<=5; lia,λe he=>by have:=pl e he; lia,rfl⟩)⟩
def cm(_:c5):Sp:=λd H Q _=>E2 λ(b e:c7)=>A3 (d=[.ref b]) (H b=O (.ins bkC e [])) (∀(p:c7)(c:Hp),wG (λx=>x=b) H c->H p=J2->vh bkC c b p BS.nil [] []->Q .non c)
def Ww(F:Fun K "__init__" "Book.__init__" nQ f fd)(Z:Zs mg)(I:Cb P w mg base)(y:Has P w K mg base "nothing_yet" 1 [] (yp K)):yR P w K mg base CX0 2 f fd ["self"] (cm K):=by
 specialize Xk
 ·obtain⟨b,i,rfl,_⟩:=h;rfl
 obtain⟨b,i,rfl,M,q⟩:=h
 refine'⟨_,(zB (mR I.state (pv 0) (eF y 'e' rfl))
   (zB (mR I.past (pv 0) ?_)
   (zE (mR I.later (pv 0) ?_)))),?_⟩
 nofun
 refine⟨U,λd n B N st=>?_⟩;have m:=B _ _ M;exists _,U,b,i,[],U,m,(by show 0<1000; decide);refine⟨sz0,λp D=>?_⟩;have c:b≠p:=zI zA D;exists _,U,b,i,_,U,(by rw[zG c,zA]),(by show 1<1000; decide);refine⟨sz0,λl v=>?_⟩;have g:b≠l:=zI zA v;have j:p≠l:=λz=>by
  rw[<- z,zG c.symm,zA] at v;cases v
 exists _,U,b,i,_,U,(by rw[zG g,zA]),(by show 2<1000; decide);rw[Rn];have u:n p=none:=by rw[zG c.symm] at D; rwa[D]
 have G:n l=none:=by rw[zG g.symm,zG j.symm,zG g.symm] at v; rwa[v]
 have J:wG (λx=>x=b) n (upd (upd (upd (upd (upd n b (.ins bkC i (nZ "state" (.ref d) []))) p 'C') b (.ins bkC i (nZ "past" (.ref p) (nZ "state" (.ref d) [])))) l 'C') b (.ins bkC i (bkF d p l))):=λx o C e=>by
  have n1:=zI e u;have n2:=zI e G;rw[zG C,zG n2,zG C,zG n1,zG C];rwa[.inl e]
 have nd:∀ a r,Rd n a (.dK r)->¬ a=b:=λa r h z=>by
  subst z;rcases h with h | ⟨o,h⟩ <;> rw[m] at h <;> cases h
 have L:∀ a xs,n a=O 'q'->¬ a=b:=λa xs h z=>by
  subst z;rw[m] at h;cases h
 erw[q p _ ((wG.of B).trans J) (B.free u) ⟨i,d,l,[],[],zA,st.samE J nd L,?_,?_,rfl,rfl,j.symm⟩]
 ·rw[zG c.symm,zG j,zG c.symm,zA]
 ·rw[zG g.symm,zA]
def pG(_:c5):Sp:=λg H Q _=>E5 λ(b p:c7) (S:BS) (past later:List (Deed×BS))=>A4 (g=[.ref b]) 'o' (Few S) (∀(c:c7)(as:List c7)(e:List j9)(d:Hp),Same H d->H c=J2->d c=O (.lst (as.map V.ref))->e.Perm (S.marks.map (·.1))->JM e=J3->rL d S as e->Q (.ref c) d)
def ZH(F:Fun K "marks" "Book.marks" ug f fd)(Z:Zs mg)(CB:Cb P w mg base)  : yR P w K mg base CX0 1 f fd ["self"] (pG K):=by
 specialize iz
 ·obtain⟨b,p,S,past,later,rfl,_⟩:=h;rfl
 obtain⟨b,p,S,past,later,rfl,⟨dx,d,l,ps,ls,k⟩,few,q⟩:=h;obtain⟨m,bk,r,n,st⟩:=k.st;obtain⟨M,hm,kv⟩:=id st.ma;have fm:=few.ma;refine⟨_,(zB (aV (i:=1) iz.nd rfl (HG rfl) (zU (yH hr) (vc CB.state (pv 0)) zZ 'j'))
   (zE (zN (xO (T:=["name"]) (caps:=[("places",1)]) ⟨rfl,by ac_nf,by ac_nf,rfl,⟨⟨rfl,rfl,B9 rfl⟩,z8⟩⟩ rfl (xB (yP oo rfl Z.sorted wv (zD (tV (oF rfl) rfl Z.list pU (zD (pv 1) zL)) zL))) (λ_=>(iU (i:=0) (show(["name","places"]:List j9).Nodup by ac_nf) rfl (B9 rfl))) (λ_=>yX) (λ_=>(fM (zD (pv 0) (zD (iF lL (zU (yH hr) (pv 1) (pv 0) 'j') wH 'j') (zD (iF lL (zU (yH hr) (pv 1) (pv 0) 'j') wH 'j') zL))))))))),?_⟩
 try dsimp only[L2.cxOf,L2.cxComp,L2.Cx.nox]
 erw[_,rfl,b,dx,_,_,rfl,k.ob,we,d,.ref m,rfl,.inl ⟨_,.inr "marks",st.at_,rfl,rC.symm⟩,_,rfl,m,M,rfl,hm,λg hg=>?_];rw[hW kv];have s1:=zC hg (.lst ((S.marks.map (·.1)).map V.str));erw[g,_,rfl,SqL.of zA,(by rw[b9]; lia),λt v ht pm J=>?_];have G:=s1.trans (zC ht (.lst (v.map V.str)));have lm:v.length=S.marks.length:=by rw[pm.length_eq,b9]
 refine⟨t,U,.inl ⟨⟨_,SqL.of zA⟩,λcc D I=>?_⟩⟩;have s3:=G.trans (zC I 'C');refine xN (K:=K) (a:=t) (xs:=v.map V.str) (λi B y c=>A4 (Same (upd (upd H g (.lst ((S.marks.map (·.1)).map V.str))) t (.lst (v.map V.str))) c) (c D=O (.lst y)) (∃ as:List c7,y=as.map V.ref/\rL c S as (v.take i)) (∃ u:Option V,B=[u,O (.ref m)]))
  ⟨zC I _,zA,⟨[],rfl,rfl,λj a n e=>by simp at e⟩,J2,rfl⟩ (λi B y c _ hq=>⟨SqL.of (hq.1 _ _ zA),hq.2⟩) ?_ ?_
 ·rintro i x B y c hi ⟨C,Y,⟨as,rfl,ma⟩,u,rfl⟩;rw[e7,o6] at hi;obtain⟨x,R,rfl⟩:=hi;obtain⟨pt,z⟩:=wJ (S:=S) (n:=x) (pm.mem_iff.mp (j4 R));obtain⟨N,a,g1,g2,g3⟩:=ui (st.ma.to (.of (G.trans C))) z;have hil:=(e8.mp R).1;have la:=ma.len;rw[m8] at la;have dg:YZ c m (.str x) (O (.ref a)):=.inl ⟨N,.inr x,g1,rfl,g2.symm⟩;exists _,U,_,U,_,U,m,.ref a,U,dg;erw[a,_,0,.int pt.1,rfl,rfl,.inr (SqT.of g3),rfl,_,rfl,_,rfl,m,.ref a,rfl,dg,a,_,1,.int pt.2,rfl,rfl,.inr (SqT.of g3),rfl,sz3,λt3 X=>?_];have L:=zC X (.tup [.str x,.int pt.1,.int pt.2]);have o:=L _ _ Y;erw[o,zM (by rw[b9]; lia),(C.trans L).putNew I,zA,⟨as++[t3],by rw[f8]; rfl,?_⟩,_,rfl];rw[w9,R];exact((ma.samE (.of L) (λ_ _ _=>id)).app z zA).samE (vi o) (vU o)
 ·rintro B y c ⟨C,Y,⟨as,rfl,ma⟩,u,rfl⟩;rw[b9,o5] at ma;rwa[q D as v c (G.trans C) (G.free I) Y pm J ma]
def yl(_:c5):Sp:=λe H Q _=>E5 λ(b p:c7) (S:BS) (past later:List (Deed×BS))=>A4 (e=[.ref b]) 'o' (Few S) (∀(d:c7)(c:Hp),Same H c->H d=J2->sk c d S->Q (.ref d) c)
def nq(F:Fun K "mark_places" "mark_places" vI f fd)(Z:Zs mg)(CB:Cb P w mg base)(j:YE P w K mg base mm 1 ["self"] (pG K)):yR P w K mg base CX0 2 f fd ["book"] (yl K):=by
 specialize sO
 ·obtain⟨b,p,S,past,later,rfl,_⟩:=h;rfl
 obtain⟨b,p,S,past,later,rfl,bk,few,q⟩:=h;have no:∀{d l:c7}{m:j9},m = "marks" ->(bkF d p l).lookup m=none:=λ{d l m} e=>by subst e; rwa[nh 'm' 'm' 'm']
 refine'⟨_,(zB (zQ 1 sO.nd tS)
   (zB (xH v8 rfl (xB (wN CB.m_marks j 'e' (pv 0))) (uY 2 sO.nd) (zE (qY (yH hr) (pv 1) ?_ ?_ rfl)))
   (zE (zN (pv 1))))),?_⟩
 nofun
 intro D hD;have T:=zC hD (.dK []);obtain⟨dx,d,l,ps,ls,k⟩:=bk.to (.of T);erw[_,rfl,b,dx,_,rfl,k.ob,no rfl,b,p,S,past,later,rfl,bk.to (.of T),few,λc as r H1 s1 hc e1 pm srt ma=>?_];have fm:=few.ma;have lm:r.length=S.marks.length:=by rw[pm.length_eq,b9]
 have Y:c≠D:=λz=>by rw[z,zA] at hc; cases hc
 have G:=s1 _ _ (zA (H:=H) (a:=D) (o:=.dK []));refine⟨c,U,.inl ⟨⟨_,SqL.of e1⟩,xM (K:=K) (a:=c) (xs:=as.map V.ref) (λi J y=>A3 (∀ x o,x≠D->H1 x=O o->y x=O o) (∃ g,A3 (y D=O (.dK g)) (g.length<=i) (∀ n∈r.take i,∃(p:Int×Int)(a:c7),zK S n=O p/\vR g (.inr n)=O (.ref a)/\y a=O (.tup [.int p.1,.int p.2]))) (∃ u:Option V,J=[O (.ref b),O (.ref D),u]))
  ⟨λ_ _ _ e=>e,⟨[],G,f7 _,λn N=>by simp at N⟩,J2,rfl⟩ (λi J y _ hq=>SqL.of (hq.1 _ _ Y e1)) ?_ ?_⟩⟩
 ·rintro i x J y hi ⟨L,⟨g,I,lk,inv⟩,u,rfl⟩;rw[e7,o6] at hi;obtain⟨a,ha,rfl⟩:=hi;have hil:i<r.length:=by rw[<- ma.len]; exact(e8.mp ha).1
  have N:r[i]?=O r[i]:=c6 hil;obtain⟨pt,hpt,ea⟩:=ma.at_ i a _ ha N;have naD:a≠D:=λz=>by rw[z,G] at ea; cases ea
  have v:=L _ _ naD ea;erw[_,rfl,a,_,1,.int pt.1,rfl,rfl,.inr (SqT.of v),rfl,_,rfl,a,_,2,.int pt.2,rfl,rfl,.inr (SqT.of v),rfl,sz2,λt ht=>?_];have M:=zC ht (.tup [.int pt.1,.int pt.2]);exists _,U,_,U,a,_,0,.str r[i],U,U,.inr (SqT.of (M _ _ v)),U,D,_,U,cC.k (k:=.inr r[i]) (M _ _ I) (zM (by lia));have X:t≠D:=λz=>by rw[z,I] at ht; cases ht
  refine⟨λx o n e=>by rw[zG n]; exact M _ _ (L x o n e),⟨_,zA,(by have:=zg g (.inr r[i]:Key) (.ref t); lia),λn h=>?_⟩,_,rfl⟩;rw[w9,N,j5] at h;by_cases z:n=r[i]
  ·rwa[pt,t,by rw[z]; exact hpt,by rw[wm,z,y6 rfl],by rw[zG X,zA]]
  ·obtain⟨p',a',R,g2,C⟩:=inv n (h.resolve_right (by simpa using z));have B:a'≠D:=λz=>by rw[z,I] at C; cases C
   exact⟨p',a',R,by rw[wm,y4 (by intro w; injection w with w; rwa[z w])]; exact g2,by rw[zG B]; rwa[M _ _ C]⟩
 ·rintro J y ⟨L,⟨g,I,lk,inv⟩,u,rfl⟩;rw[b9,ma.len,o5] at inv;erw[_,rfl,q D y (λx o e=>?_) hD ⟨g,.inl I,λn p e=>?_⟩]
  ·rwa[L x o (zI e hD) (s1 _ _ (T _ _ e))]
  ·obtain⟨p',a,R,g2,C⟩:=inv n (pm.mem_iff.mpr (i9.mpr ⟨(n,p),yS e,rfl⟩));rw[e] at R;cases R;rwa[a,g2,C]
def kA(_:c5):Sp:=λe H Q _=>E5 λ(b p:c7) (S:BS) (past later:List (Deed×BS))=>A4 (e=[.ref b]) 'o' (Few S) (∀(c:c7)(xs:List V)(d:Hp),Same H d->H c=J2->d c=O (.lst xs)->xS d (S.runs.map ptD) xs->Q (.ref c) d)
def WE(F:Fun K "runs" "Book.runs" nT f fd)(Z:Zs mg)(CB:Cb P w mg base)  : yR P w K mg base CX0 1 f fd ["self"] (kA K):=by
 specialize fN
 ·obtain⟨b,p,S,past,later,rfl,_⟩:=h;rfl
 obtain⟨b,p,S,past,later,rfl,⟨dx,d,l,ps,ls,k⟩,few,q⟩:=h;obtain⟨m,bk,r,n,st⟩:=k.st;obtain⟨g,G,kv⟩:=id st.ru;have lr:g.length=S.runs.length:=by rw[kv.length,uv]
 refine⟨_,(zB (aV (i:=1) fN.nd rfl (HG rfl) (zU (yH hr) (vc CB.state (pv 0)) zZ 'j'))
   (zE (zN (xO (T:=["number"]) (caps:=[("runs",1)]) ⟨rfl,by ac_nf,by ac_nf,rfl,⟨⟨rfl,rfl,B9 rfl⟩,z8⟩⟩ rfl (xP rfl Z.range (zD (yP qe rfl Z.len oG (zD (pv 1) zL)) zL)) (λ_=>(iU (i:=0) (show(["number","runs"]:List j9).Nodup by ac_nf) rfl (B9 rfl))) (λ_=>yX) (λ_=>(zU (yH hr) (pv 1) (pv 0) 'j')))))),?_⟩
 try dsimp only[L2.cxOf,L2.cxComp,L2.Cx.nox]
 exists _,U,b,dx,_,_,U,k.ob,we,d,.ref r,U,.inl ⟨_,.inr "runs",st.at_,U,qZ.symm⟩,_,U,r,g,U,G;refine⟨_,U,(by have:=few.ru; lia),(by have:=few.ru; lia),λcc D J=>vb (lo:=0) (n:=(g.length:Int).toNat) (λi v j c=>A4 (Same H c) (c D=O (.lst j)) (xS c ((S.runs.take i).map ptD) j) (∃ u:Option V,v=[u,O (.ref r)]))
  ⟨zC J _,zA,zY.mpr rfl,J2,rfl⟩ (λi v j c _ X=>X.2) ?_ ?_⟩
 ·rintro i v j c hi ⟨y,B,rp,u,rfl⟩;have I:i<S.runs.length:=by lia
  have N:S.runs[i]?=O S.runs[i]:=c6 I;obtain⟨C,a,g1,g2,Y⟩:=Uf (st.ru.to (.of y)) N;refine⟨_,U,_,U,r,.ref a,U,.inl ⟨C,.inl (i:Int),g1,by rw[BN]; rfl,g2.symm⟩,B,zM (by rw[rp.length,b9,m8]; have:=few.ru; lia),y.putNew J,zA,?_,_,rfl⟩;rw[w9,N,f8];have L:wG (λx=>x=D) c (upd c D (.lst (j++[.ref a]))):=λx o R e=>.inl (by rw[zG R]; rwa[e]);have M:∀ b xs,c b=O 'q'->¬ b=D:=λb xs e z=>by rw[z,B] at e; cases e
  rwa[xS.app (rp.sam L M) (.one ((zp Y).sam L M))]
 ·rintro v j c ⟨y,B,rp,u,rfl⟩;rw[show(g.length:Int).toNat=S.runs.length by lia,o5] at rp;rwa[q D j c y J B rp]
def SC(ask:c7->Int->List V->Prop):List V->Hp->XK->Prop:=λd H E=>∃(b p:c7)(S:BS)(past later:List (Deed×BS))(m:Int),ask b m d/\vh bkC H b p S past later/\Few S/\offM S.runs.length m/\∀ c:Hp,Same H c->E (.ref rY) J2 c
def askW(b:c7)(m:Int)(c:List V):Prop:=∃ o:Int,(c=[.ref b,.int m,.int o]\/c=[.ref b,.int o,.int m])/\o.natAbs.log2<1920
def yo(_:c5):Sp:=λd H Q E=>(E7 λ(b p:c7) (S:BS) (past later:List (Deed×BS)) (i j:Nat)=>A6 (d=[.ref b,.int i,.int j]) 'o' (Few S) (i<=S.runs.length) (j<=S.runs.length) (∀(t:c7)(c:Hp),Same H c->H t=J2->c t=O (.tup [.int (vT S.runs i j).1,.int (vT S.runs i j).2])->Q (.ref t) c))\/SC askW d H E
def oR(F:Fun K "way_between" "way_between" uZ f fd)(Z:Zs mg)(CB:Cb P w mg base)(yAe:qJ P w K mg base "check_moment" 1 ["moment","runs"] (xR K))(G:YE P w K mg base iB 1 ["self"] (kA K)):yR P w K mg base 'w' 2 f fd ["book","one","other"] (yo K):=by
 erw[F.okX uO (λvs H Q E h=>?_) (λcdv A outer s H vs Q E hr h=>?_)]
 ·rcases h with ⟨b,p,S,past,later,i,j,rfl,_⟩ | ⟨b,p,S,past,later,m,⟨o,rfl | rfl,_⟩,_⟩ <;> rfl
 refine'⟨_,(zB (PS.nox (zQ 3 uO.nd (wN CB.m_runs G 'e' (pv 0))))
   (zB (zO (zS (λ_=>E) yAe zT 'e' rfl (zD (pv 1) (zD (pv 3) zL))))
   (zB (zO (zS (λ_=>E) yAe zT 'e' rfl (zD (pv 2) (zD (pv 3) zL))))
   (zB (PS.nox (zQ 4 uO.nd ?_))
   (zB (PS.nox (zQ 5 uO.nd ?_))
   (zE (PS.nox (zN (fM (zD (tZ fK (pv 5) (yP (yc rfl) rfl Z.sum cy (zD (xO (T:=["run"]) (caps:=[]) ⟨rfl,by ac_nf,by ac_nf,rfl,z8⟩ rfl (xB (pv 4)) (λ_=>(uY 0 (show(["run"]:List j9).Nodup by ac_nf))) (λ_=>yX) (λ_=>?_)) zL))) (zD (tZ fK (pv 5) (yP (yc rfl) rfl Z.sum cy (zD (xO (T:=["run"]) (caps:=[]) ⟨rfl,by ac_nf,by ac_nf,rfl,z8⟩ rfl (xB (pv 4)) (λ_=>(uY 0 (show(["run"]:List j9).Nodup by ac_nf))) (λ_=>yX) (λ_=>?_)) zL))) zL))))))))))),?_⟩
 nofun
 rcases h with h | h
 rotate_left
 ·obtain⟨b,p,S,past,later,m,ask,bk,Y,off,k⟩:=h;have few:=Y.ru;obtain⟨dx,d,l,ps,ls,kk⟩:=id bk;have no:∀{d l:c7}{m:j9},m = "runs" ->(bkF d p l).lookup m=none:=λ{d l m} e=>by subst e; rwa[nh 'm' 'm' 'm']
  obtain⟨o,e | e,so⟩:=ask
  ·subst e;erw[_,rfl,b,dx,_,rfl,kk.ob,no rfl,b,p,S,past,later,rfl,bk,Y,λr B H1 R hr0 v rep=>?_];have C:B.length=S.runs.length:=by rw[rep.length,b9]
   rwa[_,rfl,_,rfl,r,m,S.runs.length,rfl,.inl ⟨B,SqL.of v,C⟩,.inr ⟨off,k _ R⟩]
  ·subst e;erw[_,rfl,b,dx,_,rfl,kk.ob,no rfl,b,p,S,past,later,rfl,bk,Y,λr B H1 R hr0 v rep=>?_];have C:B.length=S.runs.length:=by rw[rep.length,b9]
   exists _,U,_,U,r,o,S.runs.length,U,.inl ⟨B,SqL.of v,C⟩;by_cases z:0<=o/\o<=(S.runs.length:Int)
   ·rwa[.inl ⟨z.1,z.2,_,rfl,_,rfl,r,m,S.runs.length,rfl,.inl ⟨B,SqL.of v,C⟩,.inr ⟨off,k _ R⟩⟩]
   ·rwa[.inr ⟨⟨by lia,so⟩,k _ R⟩]
 obtain⟨b,p,S,past,later,n,g,rfl,bk,Y,hi,hj,k⟩:=h;have few:=Y.ru;obtain⟨dx,d,l,ps,ls,kk⟩:=id bk;have no:∀{d l:c7}{m:j9},m = "runs" ->(bkF d p l).lookup m=none:=λ{d l m} e=>by subst e; rwa[nh 'm' 'm' 'm']
 erw[_,rfl,b,dx,_,rfl,kk.ob,no rfl,b,p,S,past,later,rfl,bk,Y,λr B H1 R hr0 v rep=>?_];have C:B.length=S.runs.length:=by rw[rep.length,b9]
 erw[_,rfl,_,rfl,r,n,S.runs.length,rfl,.inl ⟨B,SqL.of v,C⟩,.inl ⟨(by lia),(by lia),?_⟩];erw[_,rfl,_,rfl,r,g,S.runs.length,rfl,.inl ⟨B,SqL.of v,C⟩,.inl ⟨(by lia),(by lia),?_⟩];erw[_,rfl,_,rfl,_,rfl,_,_,rfl,_,rfl,_,rfl,_,rfl,_,_,rfl,_,rfl,r,B,rfl,SqL.of v,λq hq=>?_];have e1:(if (g:Int)<n then(g:Int) else n)=((min n g:Nat):Int):=by split <;> lia
 have e2:(if (g:Int)>n then(g:Int) else n)=((max n g:Nat):Int):=by split <;> lia
 have ec:xf B (O (if (g:Int)<n then(g:Int) else n)) (O (if (g:Int)>n then(g:Int) else n))=(B.drop (min n g)).take (max n g-min n g):=by
  rw[e1,e2,Zk (by lia) (by lia)]
 generalize hcs:xf B (O (if (g:Int)<n then(g:Int) else n)) (O (if (g:Int)>n then(g:Int) else n))=M at hq;have sq:=zC hq (.lst M);have rc:xS (upd H1 q (.lst M)) ((yi S.runs n g).map ptD) M:=by
  have ecs:M=(B.drop (min n g)).take (max n g-min n g):=hcs.symm.trans ec;have:=((rep.drop (min n g)).take (max n g-min n g)).to (.of sq);rw[<- ecs,<- Eg,<- DA] at this;rwa[this]
 have ls:=ue S.runs n g;exists _,U,_,U,_,_,U,U,_,rfl;have cmh:∀ y:Int,Qx (rO n g) y:=λy=>xu (by unfold rO; split <;> decide);refine Rm (i:=n) (j:=g) ?_;refine⟨_,U,_,U,q,U,.inl ⟨⟨_,SqL.of zA⟩,λc D hD=>?_⟩⟩;refine xN (K:=K) (a:=q) (xs:=M) (λi J I N=>A4 (Same (upd H1 q (.lst M)) N) (N D=O (.lst I)) (I=(((yi S.runs n g).take i).map (·.1)).map V.int) (∃ u:Option V,J=[u]))
  ⟨zC hD _,zA,rfl,J2,rfl⟩ (λi J I N _ X=>by obtain⟨L,e,_⟩:=X; rwa[SqL.of (L _ _ zA),e]) ?_ ?_
 ·rintro i x J I N hi ⟨L,eD,rfl,u,rfl⟩;obtain⟨p,a,gp,rfl,ea⟩:=iO rc hi;have hil:=(e8.mp gp).1;erw[_,rfl,a,_,0,.int p.1,rfl,rfl,.inr (SqT.of (L _ _ ea)),rfl,eD,zM (by rw[b9,b9,m8]; lia),L.putNew hD,zA,?_,_,rfl];rw[w9,gp,f8,f8];rfl
 rintro J I H2 ⟨s2,eD,rfl,u,rfl⟩;exists D,_,U,SqL.of eD,_,_,U,U,cmh _;have eq2:=s2 _ _ (zA (H:=H1) (a:=q) (o:=.lst M));have rc2:=rc.to (.of s2);refine⟨_,U,_,U,q,U,.inl ⟨⟨_,SqL.of eq2⟩,λc D hD=>?_⟩⟩;refine xN (K:=K) (a:=q) (xs:=M) (λi J I N=>A4 (Same H2 N) (N D=O (.lst I)) (I=(((yi S.runs n g).take i).map (·.2)).map V.int) (∃ u:Option V,J=[u]))
  ⟨zC hD _,zA,rfl,J2,rfl⟩ (λi J I N _ X=>by obtain⟨L,e,_⟩:=X; rwa[SqL.of (L _ _ eq2),e]) ?_ ?_
 ·rintro i x J I N hi ⟨L,eD,rfl,u,rfl⟩;obtain⟨p,a,gp,rfl,ea⟩:=iO rc2 hi;have hil:=(e8.mp gp).1;erw[_,rfl,a,_,1,.int p.2,rfl,rfl,.inr (SqT.of (L _ _ ea)),rfl,eD,zM (by rw[b9,b9,m8]; lia),L.putNew hD,zA,?_,_,rfl];rw[w9,gp,f8,f8];rfl
 rintro J I H3 ⟨s3,eD3,rfl,u,rfl⟩;erw[D,_,rfl,SqL.of eD3,_,_,rfl,rfl,cmh _,sz2,λt ht=>?_];have s23:=s2.trans s3;erw[k t _ (R.trans ((sq.trans s23).trans (zC ht _))) (R.free (sq.free (s23.free ht))) ?_];rw[zA,show M.length=(yi S.runs n g).length by rw[rc.length,b9],o5];rfl
def pT(_:c5):Sp:=λe H Q _=>E5 λ(b p:c7) (S:BS) (past later:List (Deed×BS))=>A5 (e=[.ref b]) 'o' (Few S) (TB S) (∀(c:c7)(as:List c7)(d:Hp),Same H d->H c=J2->d c=O (.lst (as.map V.ref))->SO d as S.notes->Q (.ref c) d)
def Ze(F:Fun K "notes" "Book.notes" qi f fd)(Z:Zs mg)(Y:Cb P w mg base)  : yR P w K mg base CX0 1 f fd ["self"] (pT K):=by
 specialize Yk
 ·obtain⟨b,p,S,past,later,rfl,_⟩:=h;rfl
 obtain⟨b,p,S,past,later,rfl,⟨T,d,l,ps,ls,k⟩,few,C,q⟩:=h;obtain⟨m,bk,r,n,st⟩:=k.st;obtain⟨D,B,kv⟩:=st.no;obtain⟨g,rfl,y,rp⟩:=nS kv;have lk:g.length=S.notes.length:=by have:=congrArg Ay y; simpa using this
 exists _,(zE (zN (yP (fQ rfl) rfl Z.sorted wv (zD (VD (zU (yH hr) (vc Y.state (pv 0)) zZ 'j')) zL))))
 try dsimp only[L2.cxOf,L2.cxComp,L2.Cx.nox]
 refine⟨_,U,b,T,_,_,U,k.ob,we,d,.ref n,U,.inl ⟨_,.inr "notes",st.at_,U,zh.symm⟩,n,_,U,B,λv G=>?_⟩;have o:=zC G (.ext (de v n));refine⟨v,n,g,U,zA,Rd.same B o,(by have:=few.no; lia),(by rw[y]; exact C),λc as X z J I N L=>?_⟩;refine q c as X (o.trans z) (o.free J) N ⟨I.trans lk,λj a e h1 h2=>?_⟩;have hj:=(e8.mp h1).1;have u:g[j]?=O g[j]:=c6 (by lia);obtain⟨_,h3⟩:=L j a _ h1 u;obtain⟨x,h4,h5⟩:=(rp.to (.of (o.trans z))).at (i:=j) (d:=e.2.dt) (by rw[e7,h2]; rfl);rw[e7,u] at h4;have R:g[j].1=e.1:=by
  have:=congrArg (·[j]?) y;simp only[e7,u,h2,AB,Cv] at this;rwa[this]
 rw[R] at h3;have M:g[j].2=x:=by simpa using h4
 rwa[x,by rw[<- M]; exact h3,h5]
def askM(b:c7)(m:Int)(c:List V):Prop:=c=[.ref b,.int m]
def sF(_:c5):Sp:=λh H Q E=>(E6 λ(b p:c7) (S:BS) (past later:List (Deed×BS)) (j:Nat)=>A5 (h=[.ref b,.int j]) 'o' (Yh S) (j<=S.runs.length) (∀(l:c7)(d:List c7)(c:Hp),Same H c->H l=J2->(∀ g∈d,g≠l)->c l=O (.lst (d.map V.ref))->wT H c d (S.notes.map λe=>uA S j e.2)->Q (.ref l) c))\/SC askM h H E
def oQ(F:Fun K "note_groups" "note_groups" vB f fd)(Z:Zs mg)(CB:Cb P w mg base)(I:YE P w K mg base mw 1 ["self"] (pT K))(yBr:Has P w K mg base "sides_of" 5 ["note","places"] (re K))(yCe:Has P w K mg base "pushed" 1 ["side","x","y"] (lW K))(yAn:qJ P w K mg base "way_between" 2 ["book","one","other"] (yo K))(yAs:Has P w K mg base "mark_places" 2 ["book"] (yl K))(yAe:qJ P w K mg base "check_moment" 1 ["moment","runs"] (xR K))(J:YE P w K mg base iB 1 ["self"] (kA K)):yR P w K mg base 'w' 6 f fd ["book","moment"] (sF K):=by
 erw[F.okX xG (λvs H Q E h=>?_) (λcdv A outer s H vs Q E hr h=>?_)]
 ·rcases h with ⟨b,p,S,past,later,j,rfl,_⟩ | ⟨b,p,S,past,later,m,rfl,_⟩ <;> rfl
 refine'⟨_,(zB (zO (zS (λ_=>E) yAe zT 'e' rfl (zD (pv 1) (zD (wN CB.m_runs J 'e' (pv 0)) zL))))
   (zB (PS.nox (zQ 2 xG.nd ?_))
   (zB (PS.nox (zQ 3 xG.nd ?_))
   (zB (xH Da rfl (xB (wN CB.m_notes I 'e' (pv 0))) (uY 4 xG.nd) (zB (PS.nox (zQ 5 xG.nd ?_))
   (zB (zQ 6 xG.nd (zS (λ_=>E) yAn zT 'e' rfl ?_))
   (zE (PS.nox (zO (qo (pv 3) (zD (xO (T:=["side"]) (caps:=[("way",6)]) ⟨rfl,by ac_nf,by ac_nf,rfl,⟨⟨rfl,rfl,B9 rfl⟩,z8⟩⟩ rfl (xB ?_) (λ_=>(uY 0 (show(["side","way"]:List j9).Nodup by ac_nf))) (λ_=>yX) (λ_=>?_)) zL))))))))
   (zE (PS.nox (zN (pv 3)))))))),?_⟩
 nofun
 rcases h with h | h
 rotate_left
 ·obtain⟨b,p,S,past,later,m,rfl,bk,fw,off,k⟩:=h;obtain⟨dx,d,l,ps,ls,kk⟩:=id bk;have no:(bkF d p l).lookup ("runs" : j9)=none:=nh 'm' 'm' 'm';erw[_,rfl,_,rfl,b,dx,_,rfl,kk.ob,no,b,p,S,past,later,rfl,bk,fw,λr rs H1 s1 hr0 hr1 rep=>?_];rwa[r,m,S.runs.length,rfl,.inl ⟨rs,SqL.of hr1,by rw[rep.length,b9]⟩,.inr ⟨off,k _ s1⟩]
 obtain⟨b,p,S,past,later,j0,rfl,bk,gd,hj,q⟩:=h;have no:∀{d l:c7}{m:j9},m = "runs" \/ m = "notes" ->(bkF d p l).lookup m=none:=λ{d l m} e=>by rcases e with e | e <;> subst e <;> rwa[nh 'm' 'm' 'm']
 obtain⟨dx,d,l,ps,ls,kk⟩:=id bk;erw[_,rfl,_,rfl,b,dx,_,rfl,kk.ob,no (.inl rfl),b,p,S,past,later,rfl,bk,gd.few,λr rs H1 s1 hr0 hr1 rep=>?_];have lrs:rs.length=S.runs.length:=by rw[rep.length,b9]
 erw[r,j0,S.runs.length,rfl,.inl ⟨rs,SqL.of hr1,lrs⟩,.inl ⟨(by lia),(by lia),?_⟩];have bk1:=bk.to (.of s1);erw[_,rfl,b,p,S,past,later,rfl,bk1,gd.few,λdd H2 s2 hdd pl=>?_];erw[sz0,λG hG=>?_];have s3:=zC hG 'C';have bk3:=bk1.to (.of (s2.trans s3));obtain⟨dx3,d3,l3,ps3,ls3,kk3⟩:=id bk3;erw[_,rfl,b,dx3,_,rfl,kk3.ob,no (.inr rfl),b,p,S,past,later,rfl,bk3,gd.few,gd.rise,λc as H4 s4 hc e4 na=>?_];have ncG:c≠G:=λz=>by rw[z,zA] at hc; cases hc
 have eG4:=s4 _ _ (zA (H:=H2) (a:=G) (o:=.lst []));have s14:Same H1 H4:=s2.trans (s3.trans s4);have fn:=gd.few.no;have nG:H G=none:=s1.free (s2.free hG);refine⟨c,U,.inl ⟨⟨_,SqL.of e4⟩,xM (K:=K) (a:=c) (xs:=as.map V.ref) (λi N M=>A3 (∀ x o,x≠G->H4 x=O o->M x=O o) (∃ Y:List c7,A3 (M G=O (.lst (Y.map V.ref))) (∀ g∈Y,g≠G) (wT H M Y ((S.notes.take i).map λe=>uA S j0 e.2))) (E3 λ(u1 u2 u3:Option V)=>N=[O (.ref b),O (.int j0),O (.ref dd),O (.ref G),u1,u2,u3]))
  ⟨λ_ _ _ e=>e,⟨[],eG4,λ_ h=>(nomatch h),wT.nil⟩,J2,J2,J2,rfl⟩ (λi N M _ hq=>SqL.of (hq.1 _ _ ncG e4)) ?_ ?_⟩⟩
 ·rintro i x N H5 hi ⟨sH,⟨Y,eG,X,ga⟩,u1,u2,u3,rfl⟩;rw[e7,o6] at hi;obtain⟨a,ha,rfl⟩:=hi;have hil:i<S.notes.length:=by rw[<- na.len]; exact(e8.mp ha).1
  have hn:S.notes[i]?=O S.notes[i]:=c6 hil;obtain⟨v,ea,rv⟩:=na.at_ i a _ ha hn;have kn:=gd.note _ (r6 hil);generalize S.notes[i]=R at hn ea rv kn;have sE:wG (λx=>x=G) H4 H5:=λx o hx e=>.inl (sH x o hx e);have npG:∀ a xs,H4 a=O 'q'->¬ a=G:=vU eG4;have ea5:=sE.tup (npG _ _ ea) ea;have rv5:=rv.sam sE npG;obtain⟨t,xs,rfl,et,mo,m0,m1⟩:=br kn rv5;exists _,U,a,_,1,.ref t,U,U,.inr (SqT.of ea5),rfl;have s05:Same H H5:=λx o e=>sH x o (zI e nG) (s14 _ _ (s1 _ _ e));have s25:Same H2 H5:=λx o e=>sH x o (zI e hG) ((s3.trans s4) _ _ e);erw[_,rfl,_,rfl,t,xs,1,_,rfl,rfl,.inr (SqT.of et),mo,_,rfl,.inl ⟨b,p,S,past,later,(tP R.2).toNat,j0,?_,bk.to (.of s05),gd.few,(by lia),hj,λw H6 s6 hw ew=>?_⟩]
  ·rwa[congrArg (λz=>[V.ref b,V.int z,V.int j0]) (Ew m0).symm]
  refine⟨_,U,.inl ⟨U,_,SqL.of (s6 _ _ eG)⟩,_,U,_,U,dd,.ref t,S,R.2,U,rv5.to (.of s6),pl.to (.of (s25.trans s6)),kn,gd.mk_,λL sd H7 s7 eL ts=>?_⟩;have three:=fU gd.mk_ kn;have two:=iw (S:=S) (D:=R.2);refine⟨L,U,.inl ⟨⟨_,SqL.of eL⟩,λcc B hB=>?_⟩⟩;have ew7:=s7 _ _ ew;refine xN (K:=K) (a:=L) (xs:=sd.map V.ref) (λi N zs M=>A4 (Same H7 M) (M B=O (.lst zs)) (∃ bs:List c7,zs=bs.map V.ref/\xD M bs (((ym S R.2).take i).map (QX (vT S.runs (tP R.2).toNat j0).1 (vT S.runs (tP R.2).toNat j0).2))) (∃ u:Option V,N=[u,O (.ref w)]))
   ⟨zC hB _,zA,⟨[],rfl,.nil⟩,J2,rfl⟩ (λi N zs M _ hq=>⟨SqL.of (hq.1 _ _ eL),hq.2⟩) ?_ ?_
  ·rintro i x N zs M hi ⟨sH',eB,⟨bs,rfl,tb⟩,u,rfl⟩;rw[e7,o6] at hi;obtain⟨y,hy,rfl⟩:=hi;have hil':i<(ym S R.2).length:=by rw[<- ts.len]; exact(e8.mp hy).1
   have hr':(ym S R.2)[i]?=O (ym S R.2)[i]:=c6 hil';obtain⟨A,B',C,e3,bA,bB⟩:=three _ (r6 hil');have ey:=ts.at_ i y _ hy hr';rw[e3] at ey hr';have ewq:Sq K M w _:=.inr (SqT.of (sH' _ _ ew7));erw[_,rfl,_,rfl,w,_,0,_,rfl,rfl,ewq,rfl,_,rfl,w,_,1,_,rfl,rfl,ewq,rfl,y,A,B',C,_,_,rfl,.inr (SqT.of (sH' _ _ ey)),(by lia),(by lia),λz H8 s8 hz ez=>?_];have eB8:=s8 _ _ eB;erw[eB8,zM (by rw[b9,tb.len,b9,m8]; lia),(sH'.trans s8).putNew hB,zA,⟨bs++[z],by rw[f8]; rfl,?_⟩,_,rfl];rw[w9,hr',f8];exact((tb.to (.of s8)).app (.one ez)).samE (vi eB8) (vU eB8)
  ·rintro N zs H8 ⟨s8,eB,⟨bs,rfl,tb⟩,u,rfl⟩;rw[b9,ts.len,o5] at tb;have s58:Same H5 H8:=s6.trans (s7.trans s8);have eG8:=s58 _ _ eG;have nB5:H5 B=none:=s6.free (s7.free hB);have nBG:B≠G:=λz=>by rw[z,eG] at nB5; cases nB5
   exists G,_,.ref B,U,U,eG8,zM (by rw[b9,ga.len,b9,m8]; lia);have sG:=vi (o:=.lst (Y.map V.ref++[.ref B])) eG8;erw[λx o n e=>by rw[zG n]; exact s58 _ _ (sH x o n e),⟨Y++[B],by rw[zA,f8]; rfl,λg hg=>?_,?_⟩,_,_,_,rfl]
   ·rcases j5.mp hg with z | z
    ·rwa[X g z]
    ·rw[g6.mp z]; rwa[nBG]
   ·rw[w9,hn,f8];have ga8:wT H H8 Y _:=ga.samE (wG.of (φ:=λ_=>False) s58) (λ_ _ _=>id) (λ_ _=>id);exact(ga8.samE sG (vU eG8) X).snoc (s05.free nB5) (by rw[zG nBG]; rwa[eB]) (tb.samE sG (vU eG8))
 ·rintro N H5 ⟨sH,⟨Y,eG,X,ga⟩,u1,u2,u3,rfl⟩;rw[b9,na.len,o5] at ga;rwa[_,rfl,q G Y H5 (λx o e=>sH x o (zI e nG) (s14 _ _ (s1 _ _ e))) nG X eG ga]
def rR(_:c5):Sp:=λd H Q E=>(E6 λ(b p:c7) (S:BS) (past later:List (Deed×BS)) (j:Nat)=>A5 (d=[.ref b,.int j]) 'o' (Yh S) (j<=S.runs.length) (∀(l:c7)(as:List c7)(c:Hp),Same H c->H l=J2->c l=O (.lst (as.map V.ref))->xD c as (S.notes.map λe=>uA S j e.2).flatten->Q (.ref l) c))\/SC askM d H E
def kN(F:Fun K "note_sides" "note_sides" tH f fd)(Z:Zs mg)(CB:Cb P w mg base)(N:qJ P w K mg base "note_groups" 6 ["book","moment"] (sF K)):yR P w K mg base 'w' 7 f fd ["book","moment"] (rR K):=by
 erw[F.okX qG (λvs H Q E h=>?_) (λcdv A outer s H vs Q E hr h=>?_)]
 ·rcases h with ⟨b,p,S,past,later,j,rfl,_⟩ | ⟨b,p,S,past,later,m,rfl,_⟩ <;> rfl
 refine'⟨_,(zB (PS.nox (zQ 2 qG.nd ?_))
   (zB (xH Da rfl (xB (zS (λ_=>E) N zT 'e' rfl (zD (pv 0) (zD (pv 1) zL)))) (uY 3 qG.nd) (PSs.nox (zE (zO (VT DR FG FH cr (pv 2) (zD (pv 3) zL))))))
   (zE (PS.nox (zN (pv 2)))))),?_⟩
 nofun
 rcases h with h | h
 rotate_left
 ·obtain⟨b,p,S,past,later,m,rfl,bk,fw,T,k⟩:=h;erw[sz0,λL v=>?_];have l:=zC v 'C';rwa[_,rfl,_,rfl,.inr ⟨b,p,S,past,later,m,rfl,bk.to (.of l),fw,T,λB J=>k _ (l.trans J)⟩]
 obtain⟨b,p,S,past,later,c,rfl,bk,gd,hj,q⟩:=h;erw[sz0,λL v=>?_];have l:=zC v 'C';erw[_,rfl,_,rfl,.inl ⟨b,p,S,past,later,c,rfl,bk.to (.of l),gd,hj,λG gs H2 J hG _ eG ga=>?_⟩];have y:=J _ _ (zA (H:=H) (a:=L) (o:=.lst []));have Y:G≠L:=λz=>by rw[z,zA] at hG; cases hG
 have X:∀ g∈gs,g≠L:=λg r z=>by
  have:=ga.new g r;rw[z,zA] at this;cases this
 refine⟨G,U,.inl ⟨⟨_,SqL.of eG⟩,xM (K:=K) (a:=G) (xs:=gs.map V.ref) (λi C B=>A3 (∀ x o,x≠L->H2 x=O o->B x=O o) (∃ as:List c7,B L=O (.lst (as.map V.ref))/\xD B as ((S.notes.take i).map λe=>uA S c e.2).flatten) (∃ u:Option V,C=[O (.ref b),O (.int c),O (.ref L),u]))
  ⟨λ_ _ _ e=>e,⟨[],y,xD.nil⟩,J2,rfl⟩ (λi C B _ hq=>SqL.of (hq.1 _ _ Y eG)) ?_ ?_⟩⟩
 ·rintro i x C M hi ⟨I,⟨as,eL,d⟩,u,rfl⟩;rw[e7,o6] at hi;obtain⟨g,r,rfl⟩:=hi;have hil:i<S.notes.length:=by
   have:=ga.len;rw[b9] at this;rw[<- this];exact(e8.mp r).1
  have hn:S.notes[i]?=O S.notes[i]:=c6 hil;obtain⟨bs,eg,tb⟩:=ga.at_ i g (uA S c S.notes[i].2) r (by rw[e7,hn]; rfl);have sE:wG (λx=>x=L) H2 M:=λx o hx e=>.inl (I x o hx e);have eg5:=sE.lst (X g (j4 r)) eg;have R:=tb.samE sE (vU y);have l1:=hU (λe:Int×Deed=>uA S c e.2) (λ_=>vw) (S.notes.take i);have l2:=vw (S:=S) (j:=c) (D:=S.notes[i].2);have l3:=d.len;have l4:=tb.len;have fn:=gd.few.no;rw[m8] at l1;exists _,U,.inl ⟨U,_,SqL.of eL⟩,_,U,L,g,_,_,U,U,eL,eg5,BM (zM (by rw[b9,b9]; lia));have sL:=vi (o:=.lst (as.map V.ref++bs.map V.ref)) eL;erw[λx o n e=>by rw[zG n]; exact I x o n e,⟨as++bs,by rw[zA,f8],?_⟩,_,rfl];rw[w9,hn,f8,List.flatten_append];refine(d.app ?_).samE sL (vU eL);show xD M bs [uA S c S.notes[i].2].flatten;rw[List.flatten_singleton];rwa[R]
 ·rintro C M ⟨I,⟨as,eL,d⟩,u,rfl⟩;rw[b9,ga.len,b9,o5] at d;rwa[_,rfl,q L as M (λx o e=>I x o (zI e v) (J _ _ (l _ _ e))) v eL d]
def csd(C:List P3):List Sd:=C.map λt=>(0,t)
def Sg(C:List P3):(csd C).map (·.2)=C:=by
 unfold csd;rw[x5];rwa[Gy C]
def cR(S:BS)(j:Nat):List P3:=(S.notes.map λe=>uA S j e.2).flatten.map p3
def aE{g d:List Sd}(e:g.map (·.2)=d.map (·.2)){P:P3}(h:Cor g P):Cor d P:=by
 have go:∀ t∈g,∃ u∈d,u.2=t.2:=λt c=>by
  have z:=Az (f:=λx:Sd=>x.2) c;rw[e] at z;rwa[i9.mp z]
 have back:∀ t∈d,∃ u∈g,u.2=t.2:=λt c=>by
  have z:=Az (f:=λx:Sd=>x.2) c;rw[<- e] at z;rwa[i9.mp z]
 obtain⟨t,c,u,s,h1,h2,h3⟩:=h;obtain⟨q,l,n⟩:=go t c;obtain⟨p,j,m⟩:=go u s;erw[q,l,p,j,by rw[n,m]; exact h1,by rw[n,m]; exact h2,λv r=>?_];obtain⟨o,i,y⟩:=back v r;rw[<- y];rwa[h3 o i]
def rM.rows{H:Hp}{d c:List Sd}(e:d.map (·.2)=c.map (·.2))(h:rM H D d g):rM H D c g :=
 ⟨h.at',h.ok,h.nodup,λP=>(h.mem P).trans ⟨aE e,aE e.symm⟩,h.rises,by have:=congrArg Ay e; rw[b9,b9] at this; rw[<- this]; rwa[h.few]⟩
def UY{j:Nat} : (cR S j).length<=2*S.notes.length:=by
 unfold cR;rw[b9];have:=hU (λe:Int×Deed=>uA S j e.2) (λ_=>vw) S.notes;lia
def RH{H:Hp}{j:Nat}(gd:Yh S)(h:xD H as (S.notes.map λe=>uA S j e.2).flatten):∃ c:List Sd,yM c=as.map V.ref/\bE H c/\c.map (·.2)=cR S j:=by
 obtain⟨c,n,ok,m⟩:=WI h λr d=>by
  obtain⟨g,i,d⟩:=List.mem_flatten.mp d;obtain⟨e,l,rfl⟩:=i9.mp i;rwa[ol gd (gd.note e l) r d]
 rwa[c,by rw[<- n],ok,m]
def zt(_:c5):Sp:=λd H Q _=>E6 λ(b p:c7) (S:BS) (past later:List (Deed×BS)) (j:Nat)=>A6 (d=[.ref b,.int j]) 'o' (Yh S) (j<=S.runs.length) (S.notes.length<=24) (∀(D:c7)(e:List SpT)(c:Hp),Same H c->H D=J2->rM c D (csd (cR S j)) e->Q (.ref D) c)
def pP(F:Fun K "book_corners" "book_corners" uH f fd)(Z:Zs mg)(J:Cb P w mg base)(c:Has P w K mg base "corners" 16 ["sides"] (oO K))(d:qJ P w K mg base "note_sides" 7 ["book","moment"] (rR K)):yR P w K mg base CX0 17 f fd ["book","moment"] (zt K):=by
 specialize ox
 ·obtain⟨b,p,S,past,later,j,rfl,_⟩:=h;rfl
 obtain⟨b,p,S,past,later,j,rfl,bk,gd,u,C,q⟩:=h;exists _,(zE (zN (xI c 'e' rfl (zD (zS (λ_=>E0) d xo 'e' rfl (zD (pv 0) (zD (pv 1) zL))) zL))))
 try dsimp only[L2.cxOf,L2.cxComp,L2.Cx.nox]
 refine⟨_,U,_,U,.inl ⟨b,p,S,past,later,j,U,bk,gd,u,λl as I g G x m=>?_⟩⟩;obtain⟨e,y,ok,i⟩:=RH gd m;have r:e.length<=63:=by
  have:=UY (S:=S) (j:=j);rw[<- i,b9] at this;lia
 rwa[l,e,rfl,SqL.of (by rw[y]; exact x),ok,r,λD o B n v z=>q D o B (g.trans n) (g.free v) (z.rows (by rw[i,Sg]))]
def zy(_:c5):Sp:=λd H Q _=>E5 λ(b p:c7) (S:BS) (past later:List (Deed×BS))=>A4 (d=[.ref b]) 'o' (Yh S) (∀(l:c7)(c:Hp),Same H c->H l=J2->c l=O (.lst ((S.notes.map (·.1)).map V.int))->Q (.ref l) c)
def pY(F:Fun K "note_numbers" "note_numbers" uP f fd)(Z:Zs mg)(Y:Cb P w mg base)(e:YE P w K mg base mw 1 ["self"] (pT K)):yR P w K mg base CX0 2 f fd ["book"] (zy K):=by
 specialize pI
 ·obtain⟨b,p,S,past,later,rfl,_⟩:=h;rfl
 obtain⟨b,p,S,past,later,rfl,bk,gd,q⟩:=h;obtain⟨R,d,l,ps,ls,M⟩:=id bk;have no:(bkF d p l).lookup ("notes" : j9)=none:=nh 'm' 'm' 'm'
 refine'⟨_,(zE (zN (xO (T:=["pair"]) (caps:=[]) ⟨rfl,by ac_nf,by ac_nf,rfl,z8⟩ rfl (xB (wN Y.m_notes e 'e' (pv 0))) (λ_=>(uY 0 (show(["pair"]:List j9).Nodup by ac_nf))) (λ_=>yX) (λ_=>?_)))),?_⟩
 nofun
 refine⟨_,U,b,R,_,U,M.ob,no,b,p,S,past,later,U,bk,gd.few,gd.rise,λc as X B hc J o=>?_⟩;have fn:=gd.few.no;refine⟨c,U,.inl ⟨⟨_,SqL.of J⟩,λcc D y=>?_⟩⟩;refine xN (K:=K) (a:=c) (xs:=as.map V.ref) (λi j g z=>A4 (Same X z) (z D=O (.lst g)) (g=((S.notes.take i).map (·.1)).map V.int) (∃ u:Option V,j=[u]))
  ⟨zC y _,zA,rfl,J2,rfl⟩ (λi j g z _ C=>⟨SqL.of (C.1 _ _ J),C.2⟩) ?_ ?_
 ·rintro i x j g L hi ⟨m,n,rfl,u,rfl⟩;rw[e7,o6] at hi;obtain⟨a,I,rfl⟩:=hi;have r:i<S.notes.length:=by rw[<- o.len]; exact(e8.mp I).1
  have G:S.notes[i]?=O S.notes[i]:=c6 r;obtain⟨v,N,_⟩:=o.at_ i a _ I G;erw[_,rfl,a,_,0,_,rfl,rfl,.inr (SqT.of (m _ _ N)),rfl,n,zM (by rw[b9,b9,m8]; lia),m.putNew y,zA,?_,_,rfl];rw[w9,G,f8,f8];rfl
 ·rintro j g L ⟨m,n,rfl,u,rfl⟩;rw[b9,o.len,o5] at n;rwa[q D L (B.trans m) (B.free y) n]
def cg(C:List (List P3)):List Grp:=C.map λr=>(0,r.map λt=>(0,t))
def co(c:List Grp):List (List P3):=c.map λg=>g.2.map (·.2)
def TD{t:P3} : (∃ u∈yG e,u.2=t)↔∃ r∈co e,t∈r:=by
 unfold yG co;constructor
 ·rintro⟨u,c,rfl⟩;obtain⟨g,d,c⟩:=FX.mp c;rwa[_,i9.mpr ⟨g,d,rfl⟩,i9.mpr ⟨u,c,rfl⟩]
 ·rintro⟨r,i,h⟩;obtain⟨g,d,rfl⟩:=i9.mp i;obtain⟨u,c,rfl⟩:=i9.mp h;rwa[u,FX.mpr ⟨g,d,c⟩,rfl]
def mz(e:co m=co l){P:P3}(h:pV (yG m) P):pV (yG l) P:=by
 have go:∀ t∈yG m,∃ u∈yG l,u.2=t.2:=λt d=>by
  have:=TD.mp ⟨t,d,rfl⟩;rw[e] at this;rwa[TD.mpr this]
 rcases h with h | ⟨t,d,h⟩ | ⟨t,d,u,p,h1,h2⟩
 ·rwa[.inl h]
 ·obtain⟨i,c,g⟩:=go t d;rwa[.inr (.inl ⟨i,c,by rw[g]; exact h⟩)]
 ·obtain⟨i,c,g⟩:=go t d;obtain⟨o,j,n⟩:=go u p;rwa[.inr (.inr ⟨i,c,o,j,by rw[g,n]; exact h1,by rw[g,n]; exact h2⟩)]
def Si{d c:List Sd}(e:d.map (·.2)=c.map (·.2))(P:P3):iY d P=iY c P:=by
 have h:∀ l:List Sd,iY l P=(l.map (·.2)).all λt=>decide (sv t P<=0):=λl=>by
  unfold iY;rw[EB];rfl
 rw[h,h,e]
def WL(e:co c=co g)(P:P3):db (c.map (·.2)) P=db (g.map (·.2)) P:=by
 have l:c.length=g.length:=by have:=congrArg Ay e; simpa [co] using this
 unfold db dbN;rw[b9,b9,l]
 congr 1
 refine D3 λi hi=>?_;have hi:=Bt.mp hi;have m:∀ d:List Grp,(h:i<d.length)->(d.map (·.2)).getD i []=d[i].2:=λd h=>by
  rw[Ck,e7,c6 h];rfl
 rw[m c (by lia),m g hi];have j:=congrArg (λz:List (List P3)=>z[i]?) e;simp only[co,e7,c6 (show i<c.length by lia),c6 hi,AB,Cv] at j;rw[Si j]
def iZ(C:List (List P3)):co (cg C)=C:=by
 unfold co cg;rw[x5];have:((λg:Grp=>g.2.map (·.2)) ∘ λr:List P3=>((0:c7),r.map λt=>((0:c7),t)))=id:=by
  funext r
  simp[Function.comp_def]
 rw[this,Gy]
def db_in{P:P3}{x:Int}(h:x∈db c P):∃ i:Nat,x=i/\i<c.length:=by
 unfold db dbN at h;obtain⟨i,hi,rfl⟩:=i9.mp h;rwa[i,rfl,Bt.mp (AS.mp hi).1]
def QH(C:List (List P3))(k:List Int):Prop:=(∃ P,pV (yG (cg C)) P/\k=db ((cg C).map (·.2)) P)/\∀ P,pV (yG (cg C)) P->k.length<=(db ((cg C).map (·.2)) P).length
structure Zr(C:List (List P3))(ks:List (List Int)):Prop where
 mk ::
 rows:∀ k,k∈ks↔QH C k
 nd:ks.Nodup
 pw:ks.Pairwise (λa b=>HT.lexLt b a=J7)
 len:ks.length<=9000
def dB(ns:List Int)(k:Int):Int:=ns.getD k.toNat 0
def oA(S:BS):List (List P3):=S.notes.map λe=>(uA S 0 e.2).map p3
def zr(_:c5):Sp:=λd H Q _=>E5 λ(b p:c7) (S:BS) (past later:List (Deed×BS))=>A5 (d=[.ref b]) 'o' (Yh S) (S.notes.length<=6) (∀(D:c7)(fs:List (c7×List Int))(c:Hp),Same H c->H D=J2->c D=O (.lst ((fs.map (·.1)).map V.ref))->(∀ t∈fs,c t.1=O (.lst ((t.2.map (dB (S.notes.map (·.1)))).map V.int))/\H t.1=J2/\t.1≠D)->Zr (oA S) (fs.map (·.2))->Q (.ref D) c)
def pD(F:Fun K "book_choices" "book_choices" uL f fd)(Z:Zs mg)(CB:Cb P w mg base)(yBy:Has P w K mg base "choices" 8 ["groups"] (oh K))(yAm:qJ P w K mg base "note_groups" 6 ["book","moment"] (sF K))(yAj:Has P w K mg base "note_numbers" 2 ["book"] (zy K)):yR P w K mg base CX0 9 f fd ["book"] (zr K):=by
 specialize zq
 ·obtain⟨b,p,S,past,later,rfl,_⟩:=h;rfl
 obtain⟨b,p,S,past,later,rfl,bk,gd,l24,q⟩:=h
 refine'⟨_,(zB (zQ 1 zq.nd ?_)
   (zE (zN (xO (T:=["choice"]) (caps:=[("numbers",1)]) ⟨rfl,by ac_nf,by ac_nf,rfl,⟨⟨rfl,rfl,B9 rfl⟩,z8⟩⟩ rfl (xB (xI yBy 'e' rfl (zD (zS (λ_=>E0) yAm xo 'e' rfl (zD (pv 0) (zD wH zL))) zL))) (λ_=>(uY 0 (show(["choice","numbers"]:List j9).Nodup by ac_nf))) (λ_=>yX) (λ_=>(xO (T:=["at"]) (caps:=[("numbers",1)]) ⟨rfl,by ac_nf,by ac_nf,rfl,⟨⟨rfl,rfl,B9 rfl⟩,z8⟩⟩ rfl (xB (pv 0)) (λ_=>(uY 0 (show(["at","numbers"]:List j9).Nodup by ac_nf))) (λ_=>yX) (λ_=>?_))))))),?_⟩
 nofun
 refine⟨_,U,b,p,S,past,later,U,bk,gd,λnl H1 s1 hnl enl=>?_⟩;refine⟨_,U,.inl ⟨b,p,S,past,later,0,U,bk.to (.of s1),gd,x6 _,λg gs H2 s2 hg ngg eg ga=>?_⟩⟩;obtain⟨Y,e1,grl,c⟩:=eU ga (λr hr x N=>by
  obtain⟨e,he,rfl⟩:=i9.mp hr;rwa[ol gd (gd.note e he) x N])
 rw[x5] at c;have c:co Y=oA S:=c;have lG:Y.length=S.notes.length:=by have:=congrArg Ay c; simpa [co,oA] using this
 have two:∀ g∈Y,g.2.length<=2:=λg hg=>by
  have m:g.2.map (·.2)∈oA S:=by rw[<- c]; rwa[i9.mpr ⟨g,hg,rfl⟩]
  obtain⟨e,_,q⟩:=i9.mp m;have:=congrArg Ay q;rw[b9,b9] at this;rw[<- this];rwa[vw]
 have egr:gs.map V.ref=pJ Y:=by rw[<- e1,x5]; rfl
 rw[egr] at eg;refine⟨g,Y,U,SqL.of eg,grl,by lia,two,λD fs H3 s3 hD eD of o le nd pw lf=>?_⟩;have cs:Zr (oA S) (fs.map (·.2)):=by
  erw[λk=>⟨λhk=>?_,λhk=>?_⟩,nd,pw,by rw[b9]; rwa[lf]]
  ·obtain⟨P,hP,G⟩:=o k hk;refine⟨⟨P,mz (c.trans (iZ _).symm) hP,by rw[G,WL (c.trans (iZ _).symm)]⟩,λP' X=>?_⟩;have:=le.least k hk P' (mz ((iZ _).trans c.symm) X);(rw[WL (c.trans (iZ _).symm)] at this;assumption)
  ·obtain⟨⟨P,hP,G⟩,h1⟩:=hk;have z:=le.all P (mz ((iZ _).trans c.symm) hP) (λk' v=>by
    obtain⟨P',X,e'⟩:=o k' v;rw[WL (c.trans (iZ _).symm),<- G,e',WL (c.trans (iZ _).symm)];rwa[h1 P' (mz (c.trans (iZ _).symm) X)])
   (rw[WL (c.trans (iZ _).symm),<- G] at z;assumption)
 have inN:∀ t∈fs,∀ x∈t.2,∃ i:Nat,x=i/\i<S.notes.length:=λt R x N=>by
  obtain⟨P,_,G⟩:=o t.2 (i9.mpr ⟨t,R,rfl⟩);rw[G] at N;obtain⟨i,e,hi⟩:=db_in N;rw[b9] at hi;rwa[i,e,by lia]
 have M:∀ t∈fs,t.2.length<=24:=λt R=>by
  obtain⟨P,_,G⟩:=o t.2 (i9.mpr ⟨t,R,rfl⟩);rw[G];have z:=We (Y.map (·.2)) P (Y.map (·.2)).length;rwa[i4 z (by rw[b9]; lia)]
 have enl3:=s3 _ _ (s2 _ _ enl);refine⟨D,U,.inl ⟨⟨_,SqL.of eD⟩,λcc B hB=>?_⟩⟩;refine xN (K:=K) (a:=D) (xs:=(fs.map (·.1)).map V.ref) (λi n d I=>A4 (Same H3 I) (I B=O (.lst d)) (∃ C:List (c7×List Int),A3 (d=(C.map (·.1)).map V.ref) (C.map (·.2)=(fs.take i).map (·.2)) (∀ t∈C,I t.1=O (.lst ((t.2.map (dB (S.notes.map (·.1)))).map V.int))/\H3 t.1=J2/\t.1≠B)) (∃ u:Option V,n=[u,O (.ref nl)]))
  ⟨zC hB _,zA,⟨[],rfl,rfl,λt R=>(nomatch R)⟩,J2,rfl⟩ (λi n d I _ hq=>⟨SqL.of (hq.1 _ _ eD),hq.2⟩) ?_ ?_
 ·rintro i x n d H4 hi ⟨s4,eB,⟨C,rfl,l,L⟩,u,rfl⟩;rw[e7,e7] at hi;cases gx:fs[i]? with
  | none=>rw[gx] at hi; cases hi
  | some t =>
   rw[gx] at hi;cases hi;have mt:=j4 gx;have et:=s4 _ _ (of t mt).1;have il:i<fs.length:=(e8.mp gx).1;have lrs:C.length=i:=by have:=congrArg Ay l; rw[b9,b9,m8] at this; lia
   refine⟨_,U,t.1,U,.inl ⟨⟨_,SqL.of et⟩,λc2 E hE=>?_⟩⟩;refine xN (K:=K) (a:=t.1) (xs:=t.2.map V.int) (λj n d I=>A4 (Same H4 I) (I E=O (.lst d)) (d=((t.2.take j).map (dB (S.notes.map (·.1)))).map V.int) (∃ u:Option V,n=[u,O (.ref nl)]))
    ⟨zC hE _,zA,rfl,J2,rfl⟩ (λj n d I _ hq=>⟨SqL.of (hq.1 _ _ et),hq.2⟩) ?_ ?_
   ·rintro j y n d H5 hj ⟨s5,eE,rfl,u,rfl⟩;rw[e7,o6] at hj;obtain⟨x,N,rfl⟩:=hj;obtain⟨k,rfl,hk⟩:=inN t mt x (j4 N);have v:k<(S.notes.map (·.1)).length:=by rw[b9]; rwa[hk]
    have enl5:=s5 _ _ (s4 _ _ enl3);have atk:atI ((S.notes.map (·.1)).map V.int) (k:Int)=O (.int (dB (S.notes.map (·.1)) k)):=vX (by
     rw[e7,c6 v];unfold dB;rw[Br,Ck,c6 v];rfl)
    have l24':=M t mt;erw[_,rfl,_,rfl,nl,_,_,_,rfl,rfl,.inl (SqL.of enl5),atk,eE,zM (by rw[b9,b9,m8]; lia),s5.putNew hE,zA,?_,_,rfl];rw[w9,N,f8,f8];rfl
   ·rintro n d H5 ⟨s5,eE,rfl,u,rfl⟩;rw[b9,o5] at eE;have eB5:=s5 _ _ eB;have nEB:E≠B:=λz=>by rw[z,eB] at hE; cases hE
    refine⟨eB5,Am (show _<=9000 by rw[b9,b9]; lia) 'a',(s4.trans s5).putNew hB,zA,⟨C++[(E,t.2)],by rw[f8,f8]; rfl,by rw[f8,l,w9,gx,f8]; rfl,λt' ht'=>?_⟩,_,rfl⟩;rcases j5.mp ht' with z | z
    ·obtain⟨z1,z2,z3⟩:=L t' z;rwa[by rw[zG z3]; exact s5 _ _ z1,z2,z3]
    ·rw[g6.mp z];rwa[by rw[zG nEB]; exact eE,s4.free hE,nEB]
 ·rintro n d H4 ⟨s4,eB,⟨C,rfl,l,L⟩,u,rfl⟩;rw[show((fs.map (·.1)).map V.ref).length=fs.length by rw[b9,b9],o5] at l;have J:=(s1.trans s2).trans s3;erw[q B C H4 (J.trans s4) (J.free hB) eB (λt R=>?_) (by rw[l]; rwa[cs])];obtain⟨z1,z2,z3⟩:=L t R;rwa[z1,J.free z2,z3]
def kR(_:c5):Sp:=λc H Q _=>E5 λ(b p:c7) (S:BS) (past later:List (Deed×BS))=>A3 (c=[.ref b]) 'o' (Q (.int S.coming) H)
def cZ(F:Fun K "coming" "Book.coming" wj f fd)(Z:Zs mg)(e:Cb P w mg base)  : yR P w K mg base CX0 1 f fd ["self"] (kR K):=by
 specialize bG
 ·obtain⟨b,p,S,past,later,rfl,_⟩:=h;rfl
 obtain⟨b,p,S,past,later,rfl,⟨c,d,l,g,i,k⟩,q⟩:=h;obtain⟨m,bk,r,n,st⟩:=k.st;exists _,(zE (zN (zU (yH hr) (vc e.state (pv 0)) zZ 'j')))
 try dsimp only[L2.cxOf,L2.cxComp,L2.Cx.nox]
 rwa[_,rfl,b,c,_,_,rfl,k.ob,we,d,.int S.coming,rfl,.inl ⟨_,.inr "coming",st.at_,rfl,jx.symm⟩,q]
def BkF(c H:Hp)(b p:c7)(S:BS)(past:List (Deed×BS)):Prop:=∃ l,c l=J2/\BkL bkC H b p l S past []
def BkF.at{c H:Hp}(h:BkF c H b p S past):vh bkC H b p S past []:=let ⟨_,_,k⟩:=h; k.at
def BkF.to{d H c:Hp}(h:BkF d H b p S past)(s:Sam H c):BkF d c b p S past:=let ⟨l,e,k⟩:=h;⟨l,e,k.to s⟩
def BkF.from{d c H:Hp}(h:BkF c H b p S past)(s:Sam d c):BkF d H b p S past:=let ⟨l,e,k⟩:=h;⟨l,s.free id e,k⟩
def Og(e:List V->Hp->Deed->Prop):Sp:=λg H Q E=>E7 λ(b p:c7) (xs:List V) (S:BS) (D:Deed) (past later:List (Deed×BS))=>A8 (g=.ref b::xs) 'o' (e xs H D) (ZJ D) (mT S) (past.length<=500) (yC S D=J2->∀(d:Hp),wG (Bp b p) H d->BkF H d b p (aft S D) (past++[(D,S)])->Q (Oi S D) d) (∀ c,yC S D=O c->∀ d,Sam H d->E (.ref (axC c)) J2 d)
def WO{Q:VK}{H:Hp}(h:(aft S D).coming=S.coming)(q:Q (Oi S D) H):Q .non H:=by
 rw[Oi,y6 h.symm] at q;rwa[q]
def wu(_:c5):Sp:=λe H Q E=>E7 λ(b p:c7) (v:V) (S:BS) (D:Deed) (past later:List (Deed×BS))=>A8 (e=[.ref b,v]) 'o' (Rep H D.dt v) (ZJ D) (mT S) (past.length<=500) (yC S D=J2->∀(d:Hp),wG (Bp b p) H d->BkF H d b p (aft S D) (past++[(D,S)])->Q (if S.coming=(aft S D).coming then .non else .int S.coming) d) (∀ c,yC S D=O c->∀ d,Sam H d->E (.ref (axC c)) J2 d)
def Vu(F:Fun K "deed" "Book.deed" nX f fd)(Z:Zs mg)(B:Cb P w mg base)(c:YE P w K mg base kY 1 ["self"] (kR K))(X:qJ P w K mg base "after" 5 'i' (jF K)):yR P w K mg base 'w' 6 f fd ["self","row"] (wu K):=by
 erw[F.okX lv (λvs H Q E h=>?_) (λcdv A outer s H vs Q E hr h=>?_)]
 ·obtain⟨b,p,v,S,D,past,later,rfl,_⟩:=h;rfl
 obtain⟨b,p,v,S,D,past,later,rfl,bk,hv,tm,wl,hl,q,bad⟩:=h;obtain⟨i,d,l,G,ls,k⟩:=bk;have no:∀{d l:c7}{m:j9},m = "coming" ->(bkF d p l).lookup m=none:=λ{d l m} e=>by subst e; rwa[nh 'm' 'm' 'm']
 refine'⟨_,(zB (PS.nox (zQ 2 lv.nd (wN B.m_coming c 'e' (pv 0))))
   (zB (zQ 3 lv.nd (zS (λ_=>E) X zT 'e' rfl (zD (vc B.state (pv 0)) (zD (pv 1) zL))))
   (zB (PS.nox (zO (qo (vc B.past (pv 0)) (zD (fM (zD (pv 1) (zD (vc B.state (pv 0)) zL))) zL))))
   (zB (PS.nox (mR B.state (pv 0) (pv 3)))
   (zB (PS.nox (mR B.later (pv 0) ?_))
   (zE (PS.nox (zN (au (xA SA (wN B.m_coming c 'e' (pv 0)) (pv 2) (sS _)) ff (pv 2)))))))))),?_⟩
 nofun
 exists _,U,b,i,_,U,k.ob,no rfl,b,p,S,past,later,U,⟨i,d,l,G,ls,k⟩;erw[_,rfl,b,i,_,_,rfl,k.ob,we,_,rfl,d,v,S,D,rfl,trivial,k.st,hv,tm,wl,λjn d' N R hd' st'=>?_,bad];have T:=k.to R;have hv1:=hv.to R;erw[_,rfl,b,i,_,_,rfl,T.ob,Rj,.inl ⟨rfl,_,SqL.of T.pa⟩,_,rfl,_,rfl,b,i,_,_,rfl,T.ob,we,sz2,λt ht=>?_];have I:=zC ht (.tup [v,.ref d]);have j:=T.to (.of I);exists p,G,.ref t,U,U,j.pa,zM (by rw[j.pp.len]; lia);have n:b≠p:=vq j.ob j.pa 'n';have e3:upd (upd N t (.tup [v,.ref d])) p (.lst (G++[.ref t])) b=O (.ins bkC i (bkF d p l)):=by rw[zG n]; rwa[j.ob]
 exists _,U,_,U,b,i,_,U,e3,(by show 3<1000; decide);rw[dh];refine⟨sz0,λg M=>?_⟩;have y:b≠g:=zI zA M;have u:p≠g:=λz=>by
  rw[<- z,zG n.symm,zA] at M;cases M
 exists _,U,b,i,_,U,(by rw[zG y,zA]),(by show 3<1000; decide);rw[dj];have L:(upd N t (.tup [v,.ref d])) g=none:=by rw[zG y.symm,zG u.symm] at M; rwa[M]
 have C:wG (Bp b p) (upd N t (.tup [v,.ref d])) (upd (upd (upd (upd (upd N t (.tup [v,.ref d])) p (.lst (G++[.ref t]))) b (.ins bkC i (bkF d' p l))) g 'C') b (.ins bkC i (bkF d' p g))):=λx o hx e=>by
  have n1:x≠b:=λz=>hx (.inl z);have n2:x≠p:=λz=>hx (.inr z);rw[zG n1,zG (zI e L),zG n1,zG n2];rwa[.inl e]
 have nd:=QB j.ob j.pa;have J:=jm j.ob j.pa;have Y:=st'.to (.of I);have BK:BkL bkC (upd (upd (upd (upd (upd N t (.tup [v,.ref d])) p (.lst (G++[.ref t]))) b (.ins bkC i (bkF d' p l))) g 'C') b (.ins bkC i (bkF d' p g))) b p g (aft S D) (past++[(D,S)]) []:=by
  erw[i,d',G++[.ref t],[],zA,Y.samE C nd J,?_,?_,?_,rfl,u.symm]
  ·rw[zG n.symm,zG u,zG n.symm,zA]
  ·rw[zG y.symm,zA]
  ·rwa[rD.app (C.tup (J _ _ zA) zA) ((hv1.to (.of I)).sam C J) (j.st.samE C nd J) (j.pp.samE C nd J)]
 have r:=q jn _ (((R.trans (.of I)).wider (λ_ z=>z.elim)).trans C) ⟨g,(R.trans (.of I)).free id L,BK⟩;exists _,U,b,i,_,U,zA,no rfl,b,p,aft S D,_,[],U,BK.at,_,U,U,_,rfl;erw[ifE (λe=>?_) (λe=>?_)]
 ·rw[y6 e.symm] at r;rwa[r]
 ·rw[y4 (λz=>e z.symm)] at r;rwa[_,rfl,r]
def Sf:List V->Hp->Deed->Prop:=λxs H D=>∃(n:j9)(x y:Int),xs=[.str n,.int x,.int y]/\D=.mark n x y
def eQ(_:c5):Sp:=Og Sf
def WX(F:Fun K "mark" "Book.mark" md f fd)(Z:Zs mg)(N:Cb P w mg base)(g:iA P w K mg base pf 6 ["self","row"] (wu K)):yR P w K mg base 'w' 7 f fd ["self","name","x","y"] (eQ K):=by
 erw[F.okX Wy (λz H Q E h=>?_) (λM A outer s H z Q E hr h=>?_)]
 ·obtain⟨b,p,xs,S,D,past,later,rfl,bk,⟨n,x,y,rfl,rfl⟩,_⟩:=h;rfl
 obtain⟨b,p,xs,S,D,past,later,rfl,bk,⟨n,x,y,rfl,rfl⟩,tm,v,J,q,r⟩:=h;have no:∀{d l:c7}{m:j9},m = "deed" ->(bkF d p l).lookup m=none:=λ{d l m} e=>by subst e; rwa[nh 'm' 'm' 'm']
 obtain⟨L,d,l,R,T,B⟩:=id bk
 refine'⟨_,(zE (zO (qU (λ_=>E) N.m_deed g zT 'e' (pv 0) ?_))),?_⟩
 nofun
 refine⟨_,U,b,L,_,U,B.ob,no rfl,_,U,_,U,_,U,(by show 4<=sizeLine; decide),λt I=>?_⟩;have i:=zC I (.tup [.str "mark",.str n,.int x,.int y]);erw[b,p,.ref t,S,.mark n x y,past,later,rfl,bk.to (.of i),Zx zA,tm,v,J,λC u j o=>?_,λc G u j=>r c G _ ((wG.of i).trans j)];rwa[WO rfl (q C u ((wG.of i).trans j) (o.from (.of i)))]
def Pi{H:Hp}{w:c7}{x y:Int}(c:H w=O (.tup [.str "move",.str n,.int x,.int y])):Rep H (Deed.move n x y).dt (.ref w) :=
 xE.mpr ⟨w,_,rfl,c,zH.mpr ⟨_,_,rfl,yF.mpr rfl,zH.mpr ⟨_,_,rfl,yF.mpr rfl,.two (yJ.mpr rfl) (yJ.mpr rfl)⟩⟩⟩
def Ra:List V->Hp->Deed->Prop:=λxs H D=>∃(n:j9)(x y:Int),xs=[.str n,.int x,.int y]/\D=.move n x y
def gT(_:c5):Sp:=Og Ra
def Vv(F:Fun K "move" "Book.move" mi f fd)(Z:Zs mg)(N:Cb P w mg base)(g:iA P w K mg base pf 6 ["self","row"] (wu K)):yR P w K mg base 'w' 7 f fd ["self","name","x","y"] (gT K):=by
 erw[F.okX XQ (λz H Q E h=>?_) (λM A outer s H z Q E hr h=>?_)]
 ·obtain⟨b,p,xs,S,D,past,later,rfl,bk,⟨n,x,y,rfl,rfl⟩,_⟩:=h;rfl
 obtain⟨b,p,xs,S,D,past,later,rfl,bk,⟨n,x,y,rfl,rfl⟩,tm,v,J,q,r⟩:=h;have no:∀{d l:c7}{m:j9},m = "deed" ->(bkF d p l).lookup m=none:=λ{d l m} e=>by subst e; rwa[nh 'm' 'm' 'm']
 obtain⟨L,d,l,R,T,B⟩:=id bk
 refine'⟨_,(zE (zO (qU (λ_=>E) N.m_deed g zT 'e' (pv 0) ?_))),?_⟩
 nofun
 refine⟨_,U,b,L,_,U,B.ob,no rfl,_,U,_,U,_,U,(by show 4<=sizeLine; decide),λt I=>?_⟩;have i:=zC I (.tup [.str "move",.str n,.int x,.int y]);erw[b,p,.ref t,S,.move n x y,past,later,rfl,bk.to (.of i),Pi zA,tm,v,J,λC u j o=>?_,λc G u j=>r c G _ ((wG.of i).trans j)];rwa[WO rfl (q C u ((wG.of i).trans j) (o.from (.of i)))]
def jK(_:c5):Sp:=λd H Q _=>E8 λ(b p:c7) (n:j9) (x y:Int) (S:BS) (past later:List (Deed×BS))=>A8 (d=[.ref b,.str n,.int x,.int y]) 'o' ((zK S n).isSome=J3) (zm (x,y)) (mT S) (past.length<=500) (okD S (.move n x y)->∀(c:Hp),wG (Bp b p) H c->BkF H c b p (aft S (.move n x y)) (past++[(.move n x y,S)])->Q (.bl J3) c) (∀ c,Sam H c->Q (.bl J7) c)
def Yu(F:Fun K "_law_moved" "_law_moved" qj f fd)(Z:Zs mg)(C:Cb P w mg base)(g:iA P w K mg base bg 7 ["self","name","x","y"] (gT K)):yR P w K mg base CX0 8 f fd ["_law_book","_law_name","_law_x","_law_y"] (jK K):=by
 specialize Yq
 ·obtain⟨b,p,n,x,y,S,past,later,rfl,_⟩:=h;rfl
 obtain⟨b,p,n,x,y,S,past,later,rfl,bk,r,o,D,I,q,v⟩:=h;obtain⟨L,d,l,N,R,k⟩:=id bk;have no:∀{d l:c7}{m:j9},m = "move" ->(bkF d p l).lookup m=none:=λ{d l m} e=>by subst e; rwa[nh 'm' 'm' 'm']
 refine⟨_,(zB (Rp (λ_ M=>(zE (zO (qU M C.m_move g UI 'e' (pv 0) (zD (pv 1) (zD (pv 2) (zD (pv 3) zL))))))) C.gSame (λ_=>(zE (zN oS))))
   (zE (zN oS))),?_⟩
 try dsimp only[L2.cxOf,L2.cxComp,L2.Cx.nox]
 erw[_,rfl,b,L,_,rfl,k.ob,no rfl,_,rfl,_,rfl,_,rfl,b,p,_,S,.move n x y,past,later,rfl,bk,⟨n,x,y,rfl,rfl⟩,⟨(D.mark r).asc,(vC o).1,(vC o).2⟩,D,I,λG B j u=>?_,λc i B j=>?_]
 ·rwa[q (UX G) B j u]
 ·have J:c=.same:=by
   have h1:¬ zK S n=none:=λz=>by rw[z] at r; cases r
   simp only[yC,y4 h1,y4 (j8.mpr o)] at i;split at i
   ·cases i
   ·cases i; rfl
  subst J;rwa[C.t_Same_Same,v B j]
def Qf{H:Hp}{w:c7}{k x y:Int}(c:H w=O (.tup [.str "right",.int k,.int x,.int y])):Rep H (Deed.right k x y).dt (.ref w) :=
 xE.mpr ⟨w,_,rfl,c,zH.mpr ⟨_,_,rfl,yF.mpr rfl,zH.mpr ⟨_,_,rfl,yJ.mpr rfl,.two (yJ.mpr rfl) (yJ.mpr rfl)⟩⟩⟩
def Ur:List V->Hp->Deed->Prop:=λxs H D=>∃(k x y:Int),xs=[.int k,.int x,.int y]/\D=.right k x y
def jd(_:c5):Sp:=Og Ur
def Yo(F:Fun K "right" "Book.right" qu f fd)(Z:Zs mg)(M:Cb P w mg base)(g:iA P w K mg base pf 6 ["self","row"] (wu K)):yR P w K mg base 'w' 7 f fd ["self","number","x","y"] (jd K):=by
 erw[F.okX Yp (λv H Q E h=>?_) (λL A outer s H v Q E hr h=>?_)]
 ·obtain⟨b,p,xs,S,D,past,later,rfl,bk,⟨k,x,y,rfl,rfl⟩,_⟩:=h;rfl
 obtain⟨b,p,xs,S,D,past,later,rfl,bk,⟨k,x,y,rfl,rfl⟩,tm,u,I,q,o⟩:=h;have no:∀{d l:c7}{m:j9},m = "deed" ->(bkF d p l).lookup m=none:=λ{d l m} e=>by subst e; rwa[nh 'm' 'm' 'm']
 obtain⟨J,d,l,N,R,z⟩:=id bk
 refine'⟨_,(zE (zO (qU (λ_=>E) M.m_deed g zT 'e' (pv 0) ?_))),?_⟩
 nofun
 refine⟨_,U,b,J,_,U,z.ob,no rfl,_,U,_,U,_,U,(by show 4<=sizeLine; decide),λt G=>?_⟩;have i:=zC G (.tup [.str "right",.int k,.int x,.int y]);erw[b,p,.ref t,S,.right k x y,past,later,rfl,bk.to (.of i),Qf zA,tm,u,I,λB r j n=>?_,λc C r j=>o c C _ ((wG.of i).trans j)];rwa[WO rfl (q B r ((wG.of i).trans j) (n.from (.of i)))]
def sp_law(K:c5):Sp:=λc H Q _=>E2 λ(a:c7) (ns:List Int)=>A4 (c=[.ref a]) (SqL K H a 'p') (ns.length<=63) (∀ d,Q (.bl J3) d)
def BkL.other{H r:Hp}(k:BkL C H b p l S past later)(s:wG (Bp g c) H r)(m:H g=O (.ins C o n))(j:H c=O (.lst h))(n1:b≠g)(n2:p≠c)(n3:l≠c):BkL C r b p l S past later:=by
 obtain⟨y,d,u,v,q⟩:=k;have nd:=QB m j;have i:=jm m j;have nb:∀{x:c7}{xs:List V},H x=O (.lst xs)->x≠g:=λe z=>by rw[z,m] at e; cases e
 exact⟨y,d,u,v,s.ins (λz=>z.elim n1 λz=>by have:=q.ob; rw[z,j] at this; cases this) q.ob,q.st.samE s nd i,s.lst (λz=>z.elim (nb q.pa) n2) q.pa,s.lst (λz=>z.elim (nb q.la) n3) q.la,q.pp.samE s nd i,q.ll.samE s nd i,q.ne⟩
def BkL.put{H:Hp}(k:BkL C H b p l S past later)(e:H D=O (.lst i))(n1:p≠D)(n2:l≠D):BkL C (upd H D (.lst ws)) b p l S past later:=by
 obtain⟨n,d,j,m,q⟩:=k;have s:=vi (o:=.lst ws) e;have g:=vU e;have nd:∀ a c,Rd H a (.dK c)->¬ a=D:=λa c h z=>by
  rw[z] at h;rcases h with h | ⟨o,h⟩ <;> rw[e] at h <;> cases h
 exact⟨n,d,j,m,s.ins (λz=>by have:=q.ob; rw[z,e] at this; cases this) q.ob,q.st.samE s nd g,s.lst n1 q.pa,s.lst n2 q.la,q.pp.samE s nd g,q.ll.samE s nd g,q.ne⟩
def cutHp{ok:Hp->Prop}{G:Prop}{R:Hp->Prop}(h1:(∀ H,ok H->R H)->G)(h2:∀ H,ok H->R H):G:=h1 h2
def cutXY{ok:Int->Int->Hp->Prop}{G:Prop}{R:Int->Int->Hp->Prop}(h1:(∀ x y H,ok x y H->R x y H)->G)(h2:∀ x y H,ok x y H->R x y H):G:=h1 h2
structure Mvd(S0 S:BS):Prop where
 mk ::
 well:mT S
 nd:NdM S
 names:S.marks.map (·.1)=S0.marks.map (·.1)
 run:S.runs=S0.runs
 note:S.notes=S0.notes
 next:S.coming=S0.coming
def Mvd.move{x y:Int}(h:Mvd c S)(ok:okD S (.move n x y)):Mvd c (aft S (.move n x y)):=⟨h.well.aft ok,h.nd.aft ok,ir.trans h.names,h.run,h.note,h.next⟩
def Pk(c:List (j9×Int×Int))(n:j9)(x y:Int):∃ d,Vf (mkE c) (.inr n) (ptD (x,y))=mkE d/\(∀ e∈d,(e∈c/\e.1≠n)\/e=(n,x,y))/\d.length<=c.length+1:=by
 unfold Vf;split
 ·refine⟨c.map λe=>if e.1=n then(n,x,y) else e,?_,λe i=>?_,by rw[b9]; lia⟩
  ·unfold mkE;rw[x5,x5];erw[AV λe _=>?_];by_cases z:e.1=n
   ·simp[z]
   ·simp[z]
  ·obtain⟨j,g,rfl⟩:=i9.mp i;by_cases z:j.1=n
   ·right; simp[z]
   ·left; simp[z]; rwa[g]
 ·rename_i z
  erw[c++[(n,x,y)],(bh c n x y).symm,λe i=>?_,by rw[f9]; rwa[f7 _]];rcases j5.mp i with h | h
  ·erw[.inl ⟨h,λq=>z (Bz.mpr ⟨_,i9.mpr ⟨e,h,rfl⟩,by simp[q]⟩)⟩]
  ·rwa[.inr (g6.mp h)]
def gC{H:Hp}(e:H d=O (.dK c)):∀ a xs,H a=O 'q'->¬ a=d:=λa xs h z=>by rw[z,e] at h; cases h
def Tu{H:Hp} : wF (upd H d o) d=wF H d:=by
 funext b
 by_cases e:b=d
 ·rw[e,tX,tX]
 ·rw[wZ e,wZ e,zG e]
def ZN:Deed->Bool
 | .sail _ _=>J3
 | _=>J7
def cutOH{ok:Option V->Hp->Prop}{G:Prop}{R:Option V->Hp->Prop}(h1:(∀ o H,ok o H->R o H)->G)(h2:∀ o H,ok o H->R o H):G:=h1 h2
def Ox(l:List Deed):(l.filterMap slO).length=(l.filter ZN).length:=by
 induction l with
 | nil=>rfl
 | cons D l c=>cases D <;> simp[AT,Bj,slO,ZN,c]
def SN(l:List Deed):(l.filter ZN).filterMap slO=l.filterMap slO:=by
 induction l with
 | nil=>rfl
 | cons D l c=>cases D <;> simp[AT,Bj,slO,ZN,c]
def dP(D:Deed):Prop:=∃ x y,D=.sail x y/\zm (x,y)
def bV:∀{l:List Deed},(∀ D∈l,dP D)->l.filterMap slO=l.map λD=>match D with | .sail x y=>(x,y) | _=>(0,0)
 | [],_=>rfl
 | D::l,h=>by
  obtain⟨x,y,rfl,_⟩:=h D (.head _);rw[j3,<- bV λE c=>h E (.tail _ c)];rfl
def Py{l:List Deed}(h:∀ D∈l,dP D)(j:Nat)(x y:Int):(l.set j (.sail x y)).filterMap slO=(l.filterMap slO).set j (x,y):=by
 induction l generalizing j with
 | nil=>rfl
 | cons D l c =>
  obtain⟨a,b,rfl,_⟩:=h D (.head _);cases j with
  | zero=>rfl
  | succ j =>
   show(a,b)::(l.set j (.sail x y)).filterMap slO=(a,b)::(l.filterMap slO).set j (x,y);rw[c λE d=>h E (.tail _ d)]
structure Bas(H:Hp)(rr L:c7)(rows:List Int)(xs:List V)(Ds:List Deed):Prop where
 mk ::
 er:H rr=O (.lst (rows.map V.int))
 eL:H L=O (.lst xs)
 rp:xS H (Ds.map Deed.dt) xs
def Bas.samE{c:c7->Prop}{H e:Hp}(h:Bas H d L rows xs g)(s:wG c H e)(n1:¬ c d)(n2:¬ c L)(i:∀ a xs,H a=O 'q'->¬ c a):Bas e d L rows xs g:=⟨s.lst n1 h.er,s.lst n2 h.eL,h.rp.sam s i⟩
def Bas.to{H d:Hp}(h:Bas H c L rows xs e)(s:Sam H d):Bas d c L rows xs e:=h.samE s id id λ_ _ _=>id
structure UP(m:Nat)(H:Hp)(rr L rn bk p pl:c7)(rows:List Int)(xs:List V)(Ds:List Deed)(S0:BS)(kvs:List (Key×V))(pls:List (j9×Int×Int))(S:BS)(sls:List Deed)(ys:List V):Prop where
 mk ::
 bas:Bas H rr L rows xs Ds
 ern:H rn=O (.lst ys)
 rpn:xS H (sls.map Deed.dt) ys
 sail:∀ D∈sls,dP D
 run:S.runs=sls.filterMap slO
 few:sls.length<=3
 well:mT S
 nd:NdM S
 note:S.notes=S0.notes
 next:S.coming=S0.coming
 names:S.marks.map (·.1)=S0.marks.map (·.1)
 rd:Rd H pl (.dK kvs)
 kv:wC H kvs (mkE pls)
 pm:∀ e∈pls,zK S e.1=O e.2
 bk:∃(past:List (Deed×BS))(l:c7),BkL bkC H bk p l S past []/\l≠rn/\past.length<=m
def UP.to{m:Nat}{H u:Hp}{j L o bk p q:c7}{rows:List Int}{xs:List V}{v:List Deed}{r:BS}{g:List (Key×V)}{d:List (j9×Int×Int)}{S:BS}{c:List Deed}{i:List V}(h:UP m H j L o bk p q rows xs v r g d S c i)(s:Sam H u):UP m u j L o bk p q rows xs v r g d S c i :=
 ⟨h.bas.to s,s.lst id h.ern,h.rpn.to s,h.sail,h.run,h.few,h.well,h.nd,h.note,h.next,h.names,s.rd id h.rd,h.kv.to s,h.pm,let ⟨past,l,b,n,e⟩:=h.bk;⟨past,l,b.to s,n,e⟩⟩
def UP.more{m:Nat}{H:Hp}{j L o bk p q:c7}{rows:List Int}{xs:List V}{s:List Deed}{r:BS}{g:List (Key×V)}{d:List (j9×Int×Int)}{S:BS}{c:List Deed}{i:List V}(h:UP m H j L o bk p q rows xs s r g d S c i):UP (m+1) H j L o bk p q rows xs s r g d S c i :=
 ⟨h.bas,h.ern,h.rpn,h.sail,h.run,h.few,h.well,h.nd,h.note,h.next,h.names,h.rd,h.kv,h.pm,let ⟨past,l,b,n,e⟩:=h.bk;⟨past,l,b,n,Ft e⟩⟩
structure Rst(H:Hp)(rr L rn bk p l pl:c7)(rows:List Int)(xs:List V)(Ds:List Deed)(kvs:List (Key×V))(pls:List (j9×Int×Int))(S:BS)(past:List (Deed×BS))(sls:List Deed)(ys:List V):Prop where
 mk ::
 bas:Bas H rr L rows xs Ds
 ern:H rn=O (.lst ys)
 rpn:xS H (sls.map Deed.dt) ys
 rd:Rd H pl (.dK kvs)
 kv:wC H kvs (mkE pls)
 bk:BkL bkC H bk p l S past []
section
variable{H H1:Hp}{rr L rn bk p l pl:c7}{rows:List Int}{xs:List V}{Ds:List Deed}{kvs:List (Key×V)}{pls:List (j9×Int×Int)}{S:BS}{past:List (Deed×BS)}{sls:List Deed}{ys:List V}
def Rst.to(h:Rst H rr L rn bk p l pl rows xs Ds kvs pls S past sls ys)(s:Sam H H1):Rst H1 rr L rn bk p l pl rows xs Ds kvs pls S past sls ys :=
 ⟨h.bas.to s,s.lst id h.ern,h.rpn.to s,s.rd id h.rd,h.kv.to s,h.bk.to s⟩
structure Aprt(ot p2 rr L rn bk p l pl:c7):Prop where
 mk ::
 r:¬ Bp ot p2 rr
 L:¬ Bp ot p2 L
 n:¬ Bp ot p2 rn
 b:bk≠ot
 p:p≠p2
 l:l≠p2
 d:¬ Bp ot p2 pl
def Rst.other(h:Rst H rr L rn bk p l pl rows xs Ds kvs pls S past sls ys)(a:Aprt g p2 rr L rn bk p l pl)(s:wG (Bp g p2) H H1)(e:H g=O (.ins bkC j fs))(c:H p2=O (.lst i)):Rst H1 rr L rn bk p l pl rows xs Ds kvs pls S past sls ys :=
 ⟨h.bas.samE s a.r a.L (jm e c),s.lst a.n h.ern,h.rpn.sam s (jm e c),s.rd a.d h.rd,h.kv.sam s (jm e c),h.bk.other s e c a.b a.p a.l⟩
end
def mkL(S:BS)(c:List j9):List (j9×Int×Int):=c.map λn=>(n,yE S n)
def dr(S:BS)(c:List j9):(mkL S c).map (·.1)=c:=by
 unfold mkL;rw[x5];rwa[Gy c]
def Zv:∀{l:List Deed}{M:List (j9×Int×Int)}{c:List 'x'},(∀ D∈l,dP D)->c.length+l.length<=12->wE (stN M c [] 1) l
 | [],_,_,_,_=>trivial
 | D::l,M,c,h,e=>by
  obtain⟨x,y,rfl,d⟩:=h D (.head _);rw[g8] at e;exists YR d (by lia);rw[aG];rwa[Zv (λE g=>h E (.tail _ g)) (by rw[f9,Al]; lia)]
def gW:∀{l m:List Deed}{S:BS},wE S l->wE (yU S l) m->wE S (l++m)
 | [],_,_,_,h=>h
 | D::l,m,S,⟨h1,h2⟩,h=>⟨h1,gW h2 h⟩
def gm : ∀{l:List Deed}{M:List (j9×Int×Int)}{e:List 'x'}{no:List (Int×Deed)}{k:Int},(∀ n,zK (stN M e no k) n=zK S n)->e.length=S.runs.length->(∀ D∈l,qI S D/\XU D)->no.length+l.length<=24->wE (stN M e no k) l
 | [],_,_,_,_,_,_,_,_=>trivial
 | D::l,M,e,no,k,i,g,h,p=>by
  rw[g8] at p;obtain⟨kn,o⟩:=h D (.head _);have ok:okD (stN M e no k) D:=Ug kn o i g (by show no.length<24; lia);have j:∀ D∈l,qI S D/\XU D:=λE q=>h E (.tail _ q);exists ok
  match D,kn with
  | .bearing m n a b c d,_ =>
   rw[lX];rwa[gm i g j (by rw[f9,Al]; lia)]
  | .range m a b,_ =>
   rw[dO];rwa[gm i g j (by rw[f9,Al]; lia)]
def kU(h:dP D):lC D:=by
 obtain⟨x,y,rfl,_⟩:=h;trivial
def WT(h:rF D=J3):lC D:=by
 cases D <;> first | trivial | cases h
def aZ{l:List Deed}(h:∀ D∈l,dP D):l.filter rF=[]:=by
 rw[List.filter_eq_nil_iff];intro D c z;obtain⟨x,y,rfl,_⟩:=h D c;cases z
def aW{l:List Deed}(h:∀ D∈l,dP D):l.filterMap mkO=[]:=by
 rw[Dr];intro D c;obtain⟨x,y,rfl,_⟩:=h D c;rfl
def Tp(l:List Deed):(l.filter rF).filterMap mkO=[]/\(l.filter rF).filterMap slO=[]:=by
 rw[Dr,Dr];erw[λD c=>?_,λD c=>?_]<;>(obtain⟨_,h⟩:=AS.mp c; cases D <;> first | rfl | cases h)
def Ue{c d:List Deed}(h:∀ D∈c,dP D):yU (stN M [] [] 1) (c++d.filter rF)=stN M (c.filterMap slO) (cQ 1 (d.filter rF)) (1+(d.filter rF).length):=by
 rw[parts _ _ _ _ _ λD e=>(j5.mp e).elim (λz=>kU (h D z)) λz=>WT (AS.mp z).2];rw[Ba,Ba,Bf,aW h,aZ h,(Tp d).1,(Tp d).2,List.filter_filter];simp
def im{H:Hp} : ∀{as:List c7}{ms:List j9},rL H S as ms->∃ c:List Qq,c.map (·.1)=as/\(∀ t∈c,H t.1=O (.tup (xc t.2)))/\∀ n∈ms,∃ t∈c,t.2=(n,yE S n)
 | [],[],_=>⟨[],rfl,λt d=>(nomatch d),λn i=>(nomatch i)⟩
 | [],_::_,h=>by have:=h.len; simp at this
 | _::_,[],h=>by have:=h.len; simp at this
 | a::as,n::ms,h=>by
  obtain⟨pt,e,o⟩:=h.at_ 0 a n rfl rfl;obtain⟨c,h1,h2,h3⟩:=im (as:=as) (ms:=ms) ⟨by have:=h.len; simpa using this,λj b m l g=>h.at_ (j+1) b m (by simpa using l) (by simpa using g)⟩;have p:yE S n=pt:=by unfold yE; rw[e]; rfl
  erw[(a,n,pt)::c,by rw[j3,h1],λt d=>?_,λm g=>?_]
  ·rcases l9.mp d with z | z
   ·rw[z]; rwa[o]
   ·rwa[h2 t z]
  ·rcases l9.mp g with z | z
   ·rwa[_,.head _,by rw[z,p]]
   ·obtain⟨t,h4,h5⟩:=h3 m z;rwa[t,.tail _ h4,h5]
def WH{K:c5}{H:Hp}{ns:List Int}(n:Nat)(g:H a=O (.tup 'p'))(c:H b=O (.tup 'p')):Deep K H (n+1) (.ref a) (.ref b) true:=by
 by_cases ne:a=b
 ·subst ne;rwa[.same _ _]
 ·have d:=Deep.tup (n:=n) (e:=λ_=>J3) ne (SqT.of (K:=K) g) (SqT.of (K:=K) c) λj h1 h2=>by
   have z:=Deep.int (K:=K) (H:=H) n (ns[j]'(by simpa using h1)) (ns[j]'(by simpa using h1));rw[beq_self_eq_true] at z;rw[AR];rwa[z]
  rw[xi,beq_self_eq_true] at d;rwa[d]
def Rv{K:c5}{H:Hp}{ns:List Int}(n:Nat)(e:H a=O (.lst 'p'))(c:H b=O (.lst 'p')):Deep K H (n+1) (.ref a) (.ref b) true:=by
 by_cases ne:a=b
 ·subst ne;rwa[.same _ _]
 ·have d:=Xo (K:=K) n ne (SqL.of e) (SqL.of c);rw[y7 rfl] at d;rwa[d]
def XR{K:c5}{H:Hp}(n:Nat)(c:xD H as rows)(d:xD H bs rows):(as.map V.ref).length=(bs.map V.ref).length/\∀(j:Nat)(h1:j<(as.map V.ref).length)(h2:j<(bs.map V.ref).length),Deep K H (n+1) (as.map V.ref)[j] (bs.map V.ref)[j] true:=by
 erw[by rw[b9,b9,c.len,d.len],λj h1 h2=>?_];rw[b9] at h1 h2;have h3:j<rows.length:=by rw[<- c.len]; rwa[h1]
 rw[AR,AR];rwa[WH n (c.at_ j _ _ (c6 h1) (c6 h3)) (d.at_ j _ _ (c6 h2) (c6 h3))]
def Zc{H m:Hp}(h:rM H D g i)(e:rM m D' g d):i.map (·.2)=d.map (·.2):=by
 erw[uniq (R:=leP) ((Fd h.nodup e.nodup).mpr λP=>(h.mem P).trans (e.mem P).symm) (λa l c j h1 h2=>UR (jZ ((h.mem a).mp l)) (jZ ((h.mem c).mp j)) h1 h2) ?_ ?_]
 ·rw[BU]; rwa[h.rises]
 ·rw[BU]; rwa[e.rises]
def Yd{K:c5}{H:Hp}{d c:List SpT}(n:Nat)(e:d.map (·.2)=c.map (·.2))(h:∀ t∈d,YI H t)(i:∀ t∈c,YI H t):(yV d).length=(yV c).length/\∀(j:Nat)(h1:j<(yV d).length)(h2:j<(yV c).length),Deep K H (n+1) (yV d)[j] (yV c)[j] true:=by
 have l:d.length=c.length:=by have:=congrArg Ay e; (rw[b9,b9] at this;assumption)
 erw[by rw[yO,yO,l],λj h1 h2=>?_];rw[yO] at h1 h2;have p:(yV d)[j]'(by rw[yO]; rwa[h1])=.ref d[j].1:=by unfold yV; rw[AR]
 have o:(yV c)[j]'(by rw[yO]; rwa[h2])=.ref c[j].1:=by unfold yV; rw[AR]
 rw[p,o];have m:d[j].2=c[j].2:=by
  have:=congrArg (λl:List P3=>l[j]?) e;simp only[e7,c6 h1,c6 h2,AB,Cv] at this;rwa[this]
 have q:=(h _ (r6 h1)).1;have g:=(i _ (r6 h2)).1;rw[<- m] at g;rwa[WH (ns:=[d[j].2.1,d[j].2.2.1,d[j].2.2.2]) n q g]
def WJ(h:Zr C c)(k:Zr C d):c=d :=
 XZ ((Fd h.nd k.nd).mpr λx=>(h.rows x).trans (k.rows x).symm) h.pw k.pw
def PV(F:Fun K "law" "law" cH f fd)(Z:Zs mg)(CB:Cb P w mg base)(yAg:Has P w K mg base "book_choices" 9 ["book"] (zr K))(yAh:Has P w K mg base "book_corners" 17 ["book","moment"] (zt K))(yAz:qJ P w K mg base "note_sides" 7 ["book","moment"] (rR K))(h_b_marks:YE P w K mg base mm 1 ["self"] (pG K))(h_b_deed:iA P w K mg base pf 6 ["self","row"] (wu K))(h_b_mark:iA P w K mg base cG 7 ["self","name","x","y"] (eQ K))(h_b_init:YE P w K mg base bo 2 ["self"] (cm K))(h_b_right:iA P w K mg base iG 7 ["self","number","x","y"] (jd K))(yCk:Has P w K mg base "_law_moved" 8 ["_law_book","_law_name","_law_x","_law_y"] (jK K))(yAx:Has P w K mg base "_law_some_deeds" 4 ["_law_some","_law_names_here"] (xj K))(yCm:Has P w K mg base "_law_names" 1 ["_law_some","_law_many"] (jY K))(yCj:Has P w K mg base "_law_draws" 2 ["_law_script","_law_many"] (jI K)):yR P w K mg base CX0 18 f fd ["_law_script"] (sp_law K):=by
 specialize uX
 ·obtain⟨a,ns,rfl,_⟩:=h;rfl
 obtain⟨ad,ns,rfl,hS,hl,q⟩:=h;have hu64:=hr.units;have noD:∀{d p l:c7}{m:j9},m = "deed" \/ m = "marks" \/ m = "mark" \/ m = "right" ->(bkF d p l).lookup m=none:=λ{d p l m} e=>by rcases e with e | e | e | e <;> subst e <;> rwa[nh 'm' 'm' 'm']
 refine'⟨_,(zB (zQ 1 uX.nd ?_)
   (zB (zQ 2 uX.nd ?_)
   (zB (zQ 3 uX.nd ?_)
   (zB (zQ 4 uX.nd (fW CB.make h_b_init 'e' CB.gBook))
   (zB (xH v8 rfl (xB (pv 3)) (uY 5 uX.nd) (zE (zO (qU (λ_=>E0) CB.m_deed h_b_deed xo 'e' (pv 4) (zD (pv 5) zL)))))
   (zB (zQ 6 uX.nd tS)
   (zB (ii (T:=["_law_deed"]) (caps:=[]) (i:=7) uX.nd rfl rfl ⟨rfl,by ac_nf,by ac_nf,rfl,z8⟩ rfl (xB (pv 3)) (λ_=>(uY 0 (show(["_law_deed"]:List j9).Nodup by ac_nf))) (λ_=>(qy ?_)) (λ_=>?_))
   (zB (xH v8 rfl (xP rfl Z.range ?_) (uY 8 uX.nd) (zB (zQ 9 uX.nd ?_)
   (zB (jW (i:=10) (j:=11) rfl uX.nd rfl rfl 'a' rfl rfl ?_ rfl)
   (zB (xL ?_ (zE (jW (i:=10) (j:=11) rfl uX.nd rfl rfl 'a' rfl rfl (zD (tZ Xy (tZ fH (iF lL (iF lL (wN CB.m_marks h_b_marks 'e' (pv 4)) wH 'j') wH 'j') ?_) wH) (zD (tZ fH (iF lL (iF lL (wN CB.m_marks h_b_marks 'e' (pv 4)) wH 'j') wH 'j') wH) zL)) rfl)) zV)
   (zE (xL (PW.pt (Wx ?_ (bR (kG (SI (xI yCk 'e' rfl (zD (pv 4) (zD (pv 9) (zD (pv 10) (zD (pv 11) zL)))))))))) (zE (qY (yH hr) (pv 6) (pv 9) ?_ rfl)) zV))))))
   (zB (ii (T:=["_law_deed"]) (caps:=[]) (i:=12) uX.nd rfl rfl ⟨rfl,by ac_nf,by ac_nf,rfl,z8⟩ rfl (xB (pv 3)) (λ_=>(uY 0 (show(["_law_deed"]:List j9).Nodup by ac_nf))) (λ_=>(qy ?_)) (λ_=>(pv 0)))
   (zB (xL (xA (Pl hr.units0) (pv 12) ?_ (sS _)) (zB (zQ 13 uX.nd ?_)
   (zB (aK ?_ (Pe (pv 12) (pv 13) VR))
   (zE (zO (qU (λ_=>E0) CB.m_right h_b_right xo 'e' (pv 4) ?_))))) zV)
   (zB (zQ 14 uX.nd (fW CB.make h_b_init 'e' CB.gBook))
   (zB (xH v8 rfl (xB (wN CB.m_marks h_b_marks 'e' (pv 4))) (jU rfl (wX (uY 9 uX.nd) (wX (uY 10 uX.nd) (wX (uY 11 uX.nd) pc)))) (zE (zO (qU (λ_=>E0) CB.m_mark h_b_mark xo 'e' (pv 14) (zD (pv 9) (zD (pv 10) (zD (pv 11) zL)))))))
   (zB (xH v8 rfl (xB (tZ Tf (pv 12) (xO (T:=["_law_deed"]) (caps:=[]) ⟨rfl,by ac_nf,by ac_nf,rfl,z8⟩ rfl (xB (pv 3)) (λ_=>(uY 0 (show(["_law_deed"]:List j9).Nodup by ac_nf))) (λ_=>(qy (xA dX ?_ ?_ (by with_unfolding_all rfl)))) (λ_=>(pv 0))))) (uY 5 uX.nd) (zE (zO (qU (λ_=>E0) CB.m_deed h_b_deed xo 'e' (pv 14) (zD (pv 5) zL)))))
   (zB (xL (PW.pt (Wx (xA (Su hr.units0) (pv 6) tS (sS _)) (bR (iy (kG (yP (xw rfl) rfl Z.all fG (zD (xO (T:=["_law_name"]) (caps:=[("_law_book",4),("_law_places",6)]) ⟨rfl,by ac_nf,by ac_nf,rfl,⟨⟨rfl,rfl,B9 rfl⟩,⟨rfl,rfl,B9 rfl⟩,z8⟩⟩ rfl (RW (pv 6)) (λ_=>(uY 0 (show(["_law_name","_law_book","_law_places"]:List j9).Nodup by ac_nf))) (λ_=>yX) (λ_=>(rG (SL hu64) (tZ Ri ?_ (zU (yH hr) (pv 2) (pv 0) 'j')) (wN CB.m_marks h_b_marks 'e' (pv 1)) (by with_unfolding_all rfl)))) zL))))))) (zE (zN oS)) zV)
   (zB (xH v8 rfl (xP rfl Z.range ?_) (uY 15 uX.nd) (zB (xL (xA (Ws hu64) (zS (λ_=>E0) yAz xo 'e' rfl (zD (pv 4) (zD (pv 15) zL))) (zS (λ_=>E0) yAz xo 'e' rfl (zD (pv 14) (zD (pv 15) zL))) (sS _)) (zE (zN oS)) zV)
   (zE (xL (xA (Ws hu64) ?_ ?_ (sS _)) (zE (zN oS)) zV))))
   (zE (zN (rG (Qa hu64) ?_ ?_ (sS _))))))))))))))))))),?_⟩
 nofun
 erw[_,rfl,ad,ns,100,rfl,hS,hl,by decide,by decide,λrr rows H1 s1 hr0 er1 l1 l2 bd=>?_];erw[_,rfl,rr,rows,5,rfl,SqL.of er1,(by lia),'a',bd,λR nms H2 s2 hR eR ln okn ndn=>?_];erw[_,rfl,_,rfl,rr,R,rows,nms,rfl,s2 _ _ er1,(by lia),bd,eR,ln,okn,ndn,λL xs g H3 s3 hL eL rp l14 ch l3 four sm mn=>?_];have er3:=s3 _ _ (s2 _ _ er1);have lxs:xs.length=g.length:=by rw[rp.length,b9]
 have s03:Same H H3:=s1.trans (s2.trans s3);clear s1 s2 s3 hr0 er1 hR eR hL;intro bk dx hb hdx nbd;erw[bk,dx,rfl,zA,λp H4 s4 hp bk4=>⟨rfl,?_⟩];have nrb:rr≠bk:=zI er3 hb;have nLb:L≠bk:=zI eL hb;have u4:∀{x:c7}{o:HO},x≠bk->H3 x=O o->upd (upd H3 dx (.own bk)) bk (.ins bkC dx []) x=O o:=λn e=>by rw[zG n,zG (zI e hdx)]; rwa[e]
 have nrp:rr≠p:=zI (u4 nrb er3) hp;have nLp:L≠p:=zI (u4 nLb eL) hp;have nrB:¬ Bp bk p rr:=λz=>z.elim nrb nrp;have nLB:¬ Bp bk p L:=λz=>z.elim nLb nLp;have s34:Same H3 (upd (upd H3 dx (.own bk)) bk (.ins bkC dx [])):=(zC hdx _).trans (zC (by rw[zG nbd.symm]; exact hb) _);have s0:Same H (upd (upd H3 dx (.own bk)) bk (.ins bkC dx [])):=s03.trans s34;have B4:Bas H4 rr L rows xs g:=by
  exact((⟨er3,eL,rp⟩:Bas H3 rr L rows xs g).to (.of s34)).samE s4 nrb nLb λa xs h z=>by rw[z,zA] at h; cases h
 clear rp er3 u4 hb hdx s34 s03;refine⟨_,U,L,U,.inl ⟨⟨_,SqL.of B4.eL⟩,xM (K:=K) (a:=L) (xs:=xs) (λi σ J=>A4 (Bas J rr L rows xs g) (wG (Bp bk p) H4 J) (∃ past:List (Deed×BS),vh bkC J bk p (yU BS.nil (g.take i)) past []/\past.length<=i) (∃ u:Option V,σ=[O (.ref ad),O (.ref rr),O (.ref R),O (.ref L),O (.ref bk),u,J2,J2,J2,J2,J2,J2,J2,J2,J2,J2]))
  ⟨B4,wG.refl _,⟨[],bk4,f7 _⟩,J2,rfl⟩ (λi σ J _ hq=>SqL.of hq.1.eL) ?_ ?_⟩⟩
 ·rintro i v σ H5 hi ⟨B5,s5,⟨past,bk5,lp⟩,u,rfl⟩;have hil:i<g.length:=by rw[<- lxs]; exact(e8.mp hi).1
  have hD:g[i]?=O g[i]:=c6 hil;have f4:=four _ (r6 hil);generalize g[i]=D at hD f4;obtain⟨dt,g1,g2⟩:=B5.rp.back hi;rw[e7,hD] at g1;cases g1;have okd:=pC ch hD;have wl:=pS mT.nil (oC (i:=i) ch);rw[kj hD];generalize yU BS.nil (g.take i)=S at bk5 okd wl;obtain⟨dx5,d5,l5,ps5,ls5,k5⟩:=id bk5;refine⟨_,U,bk,dx5,_,U,k5.ob,noD (.inl rfl),_,U,bk,p,v,S,D,past,[],U,bk5,g2,gZ wl wl.good.few.ru f4 okd,wl,(by lia),λjn H6 s6 bk6=>?_,λc jc _ _=>by rw[nY okd] at jc; cases jc⟩;rwa[B5.samE s6 nrB nLB (jm k5.ob k5.pa),s5.trans s6,⟨_,bk6.at,by rw[f9]; simp only[g8,Ax]; lia⟩,_,rfl]
 rintro σ H5 ⟨B5,s5,⟨past,bk5,lp⟩,u5,rfl⟩;rw[lxs,o5] at bk5;intro M hpl;have s6:=zC hpl (.dK []);have B6:=B5.to (.of s6);have bk6:=bk5.to (.of s6);have bh6:vh bkC (wF (upd H5 M (.dK [])) M) bk p (yU BS.nil g) past []:=by rw[iT hpl]; rwa[bk5]
 have epl:upd H5 M (.dK []) M=O (.dK []):=zA;generalize upd H5 M (.dK [])=H6 at s6 B6 bk6 bh6 epl ⊢;clear s6 bk5 B5 hpl bk4 B4 s5 s4 s0;obtain⟨dx6,d6,l6,ps6,ls6,k6⟩:=id bk6;refine⟨_,U,L,U,.inl ⟨⟨_,SqL.of B6.eL⟩,λcc D hD=>ye (K:=K) (a:=L) (xs:=xs) (λi σ B J=>A4 (Same H6 J) (J D=O (.lst B)) (B=(((g.take i).filterMap mkO).map (·.1)).map V.str) (∃ u:Option V,σ=[u]))
  ⟨zC hD _,zA,rfl,J2,rfl⟩ (λi σ B J _ hq=>⟨SqL.of (hq.1 _ _ B6.eL),hq.2⟩) ?_ ?_⟩⟩
 ·rintro i v σ B H7 hi ⟨s7,eD,rfl,u,rfl⟩;have hil:i<g.length:=by rw[<- lxs]; exact(e8.mp hi).1
  have hE:g[i]?=O g[i]:=c6 hil;have f4:=four _ (r6 hil);generalize g[i]=E at hE f4;obtain⟨dt,g1,g2⟩:=B6.rp.back hi;rw[e7,hE] at g1;cases g1;have g7:=g2.to (.of s7);rw[w9,hE];have ln7:(((g.take i).filterMap mkO).map (·.1)).length<=14:=by rw[b9]; rwa[i4 (List.length_filterMap_le _ _) (by rw[m8]; lia)]
  match E,f4,g7 with
  | .mark n x y,_,g7 =>
   obtain⟨t,rfl,ht⟩:=iJ g7;erw[_,rfl,t,_,0,.str "mark",rfl,rfl,.inr (SqT.of ht),rfl,rfl,_,rfl,vf ?_];rwa[_,rfl,t,_,1,.str n,rfl,rfl,.inr (SqT.of ht),rfl,eD,zM (by rw[b9]; lia),s7.putNew hD,zA,(by rw[Ba,f8,f8]; rfl),_,rfl]
  | .sail x y,_,g7 =>
   obtain⟨t,rfl,ht⟩:=gG g7;erw[_,rfl,t,_,0,.str "sail",rfl,rfl,.inr (SqT.of ht),rfl,rfl,_,rfl,zd ?_];rwa[s7,eD,(by rw[Ba]; simp[mkO]),_,rfl]
  | .bearing m n a b c d,_,g7 =>
   obtain⟨t,_,_,rfl,ht,_⟩:=uS g7;erw[_,rfl,t,_,0,.str "bearing",rfl,rfl,.inr (SqT.of ht),rfl,rfl,_,rfl,zd ?_];rwa[s7,eD,(by rw[Ba]; simp[mkO]),_,rfl]
  | .range m a b,_,g7 =>
   obtain⟨t,rfl,ht⟩:=qT g7;erw[_,rfl,t,_,0,.str "range",rfl,rfl,.inr (SqT.of ht),rfl,rfl,_,rfl,zd ?_];rwa[s7,eD,(by rw[Ba]; simp[mkO]),_,rfl]
 rintro σ B H7 ⟨s7,ekn,rfl,u7,rfl⟩;rw[lxs,o5] at ekn;have eS:yU BS.nil g=stN (g.filterMap mkO) (g.filterMap slO) (cQ 1 (g.filter rF)) (1+(g.filter rF).length):=by
  have:=parts g [] [] [] 1 four;simpa [show BS.nil=stN [] [] [] 1 from rfl] using this
 have eM:g.filterMap mkO=(yU BS.nil g).marks:=by rw[eS]; rfl
 rw[eM] at ekn;have B7:=B6.to (.of s7);have bk7:=bh6.to (.of (lZ s7));have epl7:=s7 _ _ epl;have nkb:D≠bk:=λz=>by rw[z,k6.ob] at hD; cases hD
 have nkp:D≠p:=λz=>by rw[z,k6.pa] at hD; cases hD
 have nkB:¬ Bp bk p D:=λz=>z.elim nkb nkp;have nlb:M≠bk:=λz=>by rw[z,k6.ob] at epl; cases epl
 have nlp:M≠p:=λz=>by rw[z,k6.pa] at epl; cases epl
 have nlB:¬ Bp bk p M:=λz=>z.elim nlb nlp;have nlr:rr≠M:=vq B6.er epl 'z';have nlL:L≠M:=vq B6.eL epl 'z';have nlk:D≠M:=zI epl hD |>.symm
 have M0:Mvd (yU BS.nil g) (yU BS.nil g):=⟨pS mT.nil ch,cv EW ch,rfl,rfl,rfl,rfl⟩;clear s7 bk6 bh6 B6 epl hD k6;obtain⟨v84,a84,_⟩:=xQ bd (k:=84) 'a' (by lia);have m84:0<=v84%2/\v84%2<2:=by lia
 generalize hS0:yU BS.nil g=S0 at *;have kl:((S0.marks.map (·.1)).map V.str).length=S0.marks.length:=by rw[b9,b9]
 have mlo:=mn.lo;refine⟨_,U,rr,_,_,_,U,U,.inl (SqL.of B7.er),a84,_,_,U,U,gt2,_,_,U,U,_,U,(by lia),(by lia),uC (lo:=0) (n:=(1+v84%2).toNat) (λi σ J=>A4 (Bas J rr L rows xs g) (J D=O (.lst ((S0.marks.map (·.1)).map V.str))) (E4 λ(S:BS) (past:List (Deed×BS)) (I:List (j9×Int×Int)) (r:List (Key×V))=>A7 (vh bkC (wF J M) bk p S past []) (past.length<=14+i) (Mvd S0 S) (J M=O (.dK r)) (wC J r (mkE I)) (∀ e∈I,zK S e.1=O e.2) (I.length<=i)) (E4 λ(u8 u9 u10 u11:Option V)=>σ=[O (.ref ad),O (.ref rr),O (.ref R),O (.ref L),O (.ref bk),u5,O (.ref M),O (.ref D),u8,u9,u10,u11,J2,J2,J2,J2]))
  ⟨B7,ekn,⟨S0,past,[],[],bk7,by lia,M0,epl7,.nil,λe he=>(nomatch he),f7 _⟩,J2,J2,J2,J2,rfl⟩ ?_ ?_⟩
 ·clear B7 ekn bk7 epl7;rintro i σ H5 hi ⟨B5,ekn,⟨S,past,I,r,bk5,lp5,M5,epl,kv,pm,pll⟩,u8,u9,u10,u11,rfl⟩;have hi2:i<2:=by lia
  rw[BN];obtain⟨w0,c0,_⟩:=xQ bd (k:=85+3*(i:Int)) (by lia) (by lia);obtain⟨nv,hnv,an⟩:=Sr (vs:=(S0.marks.map (·.1)).map V.str) (x:=w0) (n:=(((S0.marks.map (·.1)).map V.str).length:Int)) (by lia) rfl;obtain⟨n,hn,rfl⟩:=i9.mp hnv;have kq:Sq K H5 D ((S0.marks.map (·.1)).map V.str):=.inl (SqL.of ekn);exists _,U,_,U,_,U,_,_,U,U,xu (by lia),_,_,U,U,rr,_,_,_,U,U,.inl (SqL.of B5.er),c0,_,U,D,_,U,kq,_,_,U,U,(by show(0:Int)<(((S0.marks.map (·.1)).map V.str).length:Int); lia),D,_,_,.str n,rfl,rfl,kq,an;apply cutXY (ok:=λx y H=>A7 (Bas H rr L rows xs g) (H D=O (.lst ((S0.marks.map (·.1)).map V.str))) (vh bkC (wF H M) bk p S past []) (H M=O (.dK r)) (wC H r (mkE I)) (x.natAbs<=5000) (y.natAbs<=5000))
  ·intro main;obtain⟨w1,c1,_⟩:=xQ bd (k:=86+3*(i:Int)) (by lia) (by lia);obtain⟨w2,c2,_⟩:=xQ bd (k:=87+3*(i:Int)) (by lia) (by lia);exists _,U,_,U,_,_,U,U,xu (by lia),_,_,U,U,rr,_,_,_,U,U,.inl (SqL.of B5.er),c1,_,_,U,U,(by show(0:Int)<2001; decide),_,_,rfl,rfl;exists _,U,_,U,_,_,U,U,xu (by lia),_,_,U,U,rr,_,_,_,U,U,.inl (SqL.of B5.er),c2,_,_,U,U,(by show(0:Int)<41; decide),_,_,rfl,rfl,_,_,rfl;have x0b:(w1%2001-1000).natAbs<=5000:=by lia
   have y0b:(w2%41-20).natAbs<=5000:=by lia
   generalize w1%2001-1000=x0 at x0b ⊢;generalize w2%41-20=y0 at y0b ⊢;exists _,U,rr,_,_,_,U,U,.inl (SqL.of B5.er),a84,_,_,U,U,pH.of 'a' 'm',_,_,U,U,gt3,U,_,rfl;erw[ifE (λ_=>?_) (λ_=>?_)];rotate_left
   ·rwa[main x0 y0 H5 ⟨B5,ekn,bk5,epl,kv,x0b,y0b⟩]
   obtain⟨w3,c3,_⟩:=xQ bd (k:=86) (by lia) (by lia);have fst:∀{Ha:Hp}{as:List c7}{ms:List j9},ms.Perm (S.marks.map (·.1))->rL Ha S as ms->∃(a0:c7)(n0:j9)(p0:Int×Int),atI (as.map V.ref) 0=O (.ref a0)/\zm p0/\Ha a0=O (.tup [.str n0,.int p0.1,.int p0.2]):=λ{Ha as ms} pm ma=>by
    have l0:0<ms.length:=by rw[pm.length_eq,M5.names,b9]; lia
    have l1:0<as.length:=by rw[ma.len]; rwa[l0]
    obtain⟨p0,e0,h0⟩:=ma.at_ 0 as[0] ms[0] (c6 l1) (c6 l0);rwa[as[0],ms[0],p0,vX (j:=0) (by rw[e7,c6 l1]; rfl),M5.well.good.mk_ _ (yS e0),h0]
   have bo5:=bk5.to (.of dy);obtain⟨dx5,d5,l5,ps5,ls5,k5⟩:=id bo5;erw[_,rfl,bk,dx5,_,rfl,k5.ob,noD (.inr (.inl rfl)),bk,p,S,past,[],rfl,bo5,M5.well.good.few,λm1 as1 ms1 H6 s6 hm1 em1 pm1 _ ma1=>?_];obtain⟨a1,n1,p1,at1,nr1,e1⟩:=fst pm1 ma1;have B6:=B5.to (.of s6);have bk6:=bo5.to (.of s6);obtain⟨dx6,d6,l6,ps6,ls6,k6⟩:=id bk6;exists m1,_,0,.ref a1,U,U,.inl (SqL.of em1),at1,a1,_,1,.int p1.1,U,U,.inr (SqT.of e1),U,_,U,rr,_,_,_,U,U,.inl (SqL.of B6.er),c3,_,_,U,U,(by show(0:Int)<7; decide),_,_,rfl,rfl,_,_,rfl,rfl;erw[_,rfl,bk,dx6,_,rfl,k6.ob,noD (.inr (.inl rfl)),bk,p,S,past,[],rfl,bk6,M5.well.good.few,λm2 as2 ms2 H7 s7 hm2 em2 pm2 _ ma2=>?_];obtain⟨a2,n2,p2,at2,nr2,e2⟩:=fst pm2 ma2;exists m2,_,0,.ref a2,U,U,.inl (SqL.of em2),at2,a2,_,2,.int p2.2,U,U,.inr (SqT.of e2),U,_,_,U,U,_,_,rfl;obtain⟨q1,q2,_,_⟩:=nr1;obtain⟨_,_,q3,q4⟩:=nr2;have s57:=s6.trans s7;rwa[main _ _ H7 ⟨B6.to (.of s7),s57 _ _ ekn,bk5.to (.of (lZ s57)),s57 _ _ epl,kv.to (.of s57),by lia,by lia⟩]
  rintro x y H8 ⟨B8,ekn8,bk8,epl8,kv8,xb,yb⟩;have hnm:(zK S n).isSome=true:=by
   obtain⟨pt,e⟩:=wJ (S:=S) (n:=n) (by rw[M5.names]; rwa[hn]);rw[e]; rfl
  have fin:∀(J:Hp)(S':BS)(past':List (Deed×BS)),Bas J rr L rows xs g->J D=O (.lst ((S0.marks.map (·.1)).map V.str))->vh bkC (wF J M) bk p S' past' []->past'.length<=14+(i+1)->Mvd S0 S'->J M=O (.dK r)->wC J r (mkE I)->(∀ e∈I,zK S' e.1=O e.2)->(A4 (Bas J rr L rows xs g) (J D=O (.lst ((S0.marks.map (·.1)).map V.str))) (E4 λ(S:BS) (past:List (Deed×BS)) (I:List (j9×Int×Int)) (r:List (Key×V))=>A7 (vh bkC (wF J M) bk p S past []) (past.length<=14+(i+1)) (Mvd S0 S) (J M=O (.dK r)) (wC J r (mkE I)) (∀ e∈I,zK S e.1=O e.2) (I.length<=i+1)) (E4 λ(u8 u9 u10 u11:Option V)=>[O (.ref ad),O (.ref rr),O (.ref R),O (.ref L),O (.ref bk),u5,O (.ref M),O (.ref D),O (.int i),O (.str n),O (.int x),O (.int y),J2,J2,J2,J2]=[O (.ref ad),O (.ref rr),O (.ref R),O (.ref L),O (.ref bk),u5,O (.ref M),O (.ref D),u8,u9,u10,u11,J2,J2,J2,J2])):=λJ S' past' b1 b2 b3 b4 b5 b6 b7 b8 =>
   ⟨b1,b2,⟨S',past',I,r,b3,b4,b5,b6,b7,b8,by lia⟩,_,_,_,_,rfl⟩
  exists _,U,x,U,_,U,y,U,_,_,U,_,_,U,U,_,rfl;erw[ifD (λhx=>?_) (λ_=>?_)];rotate_left
  ·rwa[zd (fin H8 S past B8 ekn8 bk8 (by lia) M5 epl8 kv8 pm)]
  have nr:zm (x,y):=by
   unfold zm;dsimp only;split at hx <;> split at hx <;> split at hx <;> lia
  have sh:wG (λz=>z=M) H8 (wF H8 M):=λz o n e=>.inl ((wZ n).trans e);have hB8:=B8.samE sh nlr nlL (gC epl8);have kvh:=kv8.sam sh (gC epl8);erw[M,r,epl8,_,rfl,_,rfl,_,rfl,_,rfl,bk,p,n,x,y,S,past,[],rfl,bk8,hnm,nr,M5.well,(by lia),λokd H9 s9 bk9 hn9=>?_,λH9 s9 hn9=>?_]
  ·obtain⟨dx8,d8,l8,ps8,ls8,k8⟩:=id bk8;have np8:=jm k8.ob k8.pa;obtain⟨pls',ep,hp',lp'⟩:=Pk I n x y;have s10:=zC hn9 (.dK r);have B10:=(hB8.samE s9 nrB nLB np8).to (.of s10);have ekn10:=s10 _ _ (s9.lst nkB ((wZ nlk).trans ekn8));have kv10:=(kvh.sam s9 np8).to (.of s10);have bh10:vh bkC (wF (upd H9 M (.dK r)) M) bk p (aft S (.move n x y)) (past++[(.move n x y,S)]) []:=by rw[iT hn9]; rwa[bk9.at]
   have epl10:upd H9 M (.dK r) M=O (.dK r):=zA;generalize upd H9 M (.dK r)=H10 at B10 ekn10 kv10 bh10 epl10 ⊢;erw[_,rfl,vf ?_];erw[_,rfl,_,rfl,sz2,λt ht=>?_];have st:=zC ht 'r';have et:upd H10 t 'r' t=O 'r':=zA;have B11:=B10.to (.of st);have ekn11:=st _ _ ekn10;have bh11:=bh10.to (.of (lZ (d:=M) st));have kv11:=kv10.to (.of st);have epl11:=st _ _ epl10;generalize upd H10 t 'r'=H11 at et B11 ekn11 bh11 kv11 epl11 ⊢;exists _,U,_,U,M,_,U,cC.k (k:=.inr n) epl11 (zM (by rw[kv11.length]; unfold mkE; rw[b9]; lia));have su:wG (λz=>z=M) H11 (upd H11 M (.dK (zz r (.inr n) (.ref t)))):=λz o n e=>.inl (by rw[zG n]; rwa[e]);erw[B11.samE su nlr nlL (gC epl11),(by rw[zG nlk]; rwa[ekn11]),⟨_,_,pls',_,(by rw[Tu]; rwa[bh11]),by rw[f9]; simp only[g8,Ax]; lia,M5.move okd,zA,by rw[<- ep]; exact(kv11.put (zp (p:=(x,y)) et)).sam su (gC epl11),λe he=>?_,by lia⟩,_,_,_,_,rfl];rw[oI];rcases hp' e he with ⟨h1,h2⟩ | rfl
   ·rw[pm e h1,AB,y4 h2]
   ·obtain⟨pt,e⟩:=j7.mp hnm;rw[e,AB,y6 rfl]
  ·have s10:=zC hn9 (.dK r);erw[_,rfl,zd ?_];rwa[fin (upd H9 M (.dK r)) S past ((hB8.to s9).to (.of s10)) (s10 _ _ (s9.lst id ((wZ nlk).trans ekn8))) (by rw[iT hn9]; exact bk8.to s9) (by lia) M5 zA ((kvh.to s9).to (.of s10)) pm]
 rintro σ H8 ⟨B8,ekn8,⟨S,past8,I,r,bh8,lp8,M8,epl8,kv8,pm8,pll⟩,u8,u9,u10,u11,rfl⟩;have bk8:=bh8.to (.of dy);clear bh8 B7 ekn bk7 epl7;obtain⟨dx8,d8,l8,ps8,ls8,k8⟩:=id bk8;refine⟨_,U,L,U,.inl ⟨⟨_,SqL.of B8.eL⟩,λcc rn hrn=>ye (K:=K) (a:=L) (xs:=xs) (λi σ B J=>A4 (Same H8 J) (J rn=O (.lst B)) (xS J (((g.take i).filter ZN).map Deed.dt) B) (∃ u:Option V,σ=[u]))
  ⟨zC hrn _,zA,zY.mpr rfl,J2,rfl⟩ (λi σ B J _ hq=>⟨SqL.of (hq.1 _ _ B8.eL),hq.2⟩) ?_ ?_⟩⟩
 ·rintro i v σ B H9 hi ⟨s9,eD,rz,u,rfl⟩;have hil:i<g.length:=by rw[<- lxs]; exact(e8.mp hi).1
  have hE:g[i]?=O g[i]:=c6 hil;have f4:=four _ (r6 hil);generalize g[i]=E at hE f4;obtain⟨dt,g1,g2⟩:=B8.rp.back hi;rw[e7,hE] at g1;cases g1;have g9:=g2.to (.of s9);rw[w9,hE];have lz:B.length<=14:=by rw[rz.length,b9]; rwa[i4 (Bs _ _) (by rw[m8]; lia)]
  match E,f4,g9 with
  | .mark n x y,_,g9 =>
   obtain⟨t,rfl,ht⟩:=iJ g9;erw[_,rfl,t,_,0,.str "mark",rfl,rfl,.inr (SqT.of ht),rfl,rfl,_,rfl,zd ?_];exact⟨s9,eD,(by rw[Bf]; simpa [ZN] using rz),_,rfl⟩
  | .sail x y,_,g9 =>
   obtain⟨t,e,ht⟩:=gG g9;subst e;erw[_,rfl,t,_,0,.str "sail",rfl,rfl,.inr (SqT.of ht),rfl,rfl,_,rfl,vf ?_];erw[_,rfl,eD,zM (by lia),s9.putNew hrn,zA,?_,_,rfl];rw[Bf,f8];have su:wG (λz=>z=rn) H9 (upd H9 rn (.lst (B++[.ref t]))):=λz o n e=>.inl (by rw[zG n]; rwa[e]);have npn:∀ a xs,H9 a=O 'q'->¬ a=rn:=vU eD;exact(rz.sam su npn).app (.one (g9.sam su npn))
  | .bearing m n a b c d,_,g9 =>
   obtain⟨t,_,_,rfl,ht,_⟩:=uS g9;erw[_,rfl,t,_,0,.str "bearing",rfl,rfl,.inr (SqT.of ht),rfl,rfl,_,rfl,zd ?_];exact⟨s9,eD,(by rw[Bf]; simpa [ZN] using rz),_,rfl⟩
  | .range m a b,_,g9 =>
   obtain⟨t,rfl,ht⟩:=qT g9;erw[_,rfl,t,_,0,.str "range",rfl,rfl,.inr (SqT.of ht),rfl,rfl,_,rfl,zd ?_];exact⟨s9,eD,(by rw[Bf]; simpa [ZN] using rz),_,rfl⟩
 rintro σ B H9 ⟨s9,ern,rz,u9',rfl⟩;rw[lxs,o5] at rz;have nnb:rn≠bk:=λz=>by rw[z,k8.ob] at hrn; cases hrn
 have nnp:rn≠p:=λz=>by rw[z,k8.pa] at hrn; cases hrn
 have nnB:¬ Bp bk p rn:=λz=>z.elim nnb nnp;have nrn:rr≠rn:=zI B8.er hrn;have nLn:L≠rn:=zI B8.eL hrn;have nln:M≠rn:=zI epl8 hrn;have wr:=M8.well.good.way;have hrun:S.runs=(g.filter ZN).filterMap slO:=by rw[M8.run,SN,eS]; rfl
 have hA9:UP 20 H9 rr L rn bk p M rows xs g S0 r I S (g.filter ZN) B:=by
  erw[B8.to (.of s9),ern,rz,λE hE=>?_,hrun,?_,M8.well,M8.nd,M8.note,M8.next,M8.names,.inl (s9 _ _ epl8),kv8.to (.of s9),pm8,past8,l8,BkL.to ⟨dx8,d8,ps8,ls8,k8⟩ (.of s9),zI k8.la hrn,by lia]
  ·obtain⟨hE,hs⟩:=AS.mp hE;cases E with
   | sail x y =>
    erw[x,y,rfl,wr _ ?_];rw[M8.run,eS];rwa[CS.mpr ⟨_,hE,rfl⟩]
   | _=>cases hs
  ·rw[<- Ox];have:=l3;rw[eS] at this;rwa[this]
 clear B8 ekn8 bk8 k8 kv8 epl8 rz ern hrn s9;apply cutOH (ok:=λo H=>E3 λ(S:BS) (G:List Deed) (ys:List V)=>UP 21 H rr L rn bk p M rows xs g S0 r I S G ys)
 ·intro main;erw[_,rfl,sz0,λe he=>?_];have se:=zC he 'C';have A:=hA9.to (.of se);have ee:upd H9 e 'C' e=O 'C':=zA;generalize upd H9 e 'C'=H10 at A ee ⊢;clear se he;exists rn,e,B,U,U,SqL.of A.ern,SqL.of ee,_,rfl;by_cases hz:B=[]
  rotate_left
  ·have em:B.isEmpty=false:=by cases hq:B with | nil=>exact y9 hq hz | cons _ _=>rfl
   rw[em];erw[vf ?_];have lz:B.length=(g.filter ZN).length:=by rw[A.rpn.length,b9]
   have lz0:0<B.length:=GK.mpr hz;obtain⟨w1,c1,_⟩:=xQ bd (k:=91) 'a' (by lia);obtain⟨w2,c2,_⟩:=xQ bd (k:=92) 'a' (by lia);obtain⟨w3,c3,_⟩:=xQ bd (k:=93) 'a' (by lia);exists _,U,rr,_,_,_,U,U,.inl (SqL.of A.bas.er),c1,_,U,rn,_,U,.inl (SqL.of A.ern),_,_,U,U,(by show(0:Int)<(B.length:Int); lia);have k0:=An w1 (show(B.length:Int)≠0 by lia);have k1:=z7 w1 (show(0:Int)<(B.length:Int) by lia);generalize w1%(B.length:Int)=k at k0 k1 ⊢;obtain⟨j,rfl⟩:=AQ k0;have hj:j<B.length:=by lia
   exists _,U,rr,_,_,_,U,U,.inl (SqL.of A.bas.er),c2,_,_,U,U,(by show(0:Int)<2001; decide),_,_,rfl,rfl;refine⟨_,U,rr,_,_,_,U,U,.inl (SqL.of A.bas.er),c3,_,_,U,U,(by show(0:Int)<31; decide),_,_,rfl,rfl,sz3,λt ht=>?_⟩;have nr:zm (w2%2001-1000,w3%31-15):=by unfold zm; dsimp only; lia
   generalize w2%2001-1000=x at nr ⊢;generalize w3%31-15=y at nr ⊢;have st:=zC ht (.tup [.str "sail",.int x,.int y]);have et:upd H10 t (.tup [.str "sail",.int x,.int y]) t=O (.tup [.str "sail",.int x,.int y]):=zA;have C:=A.to (.of st);generalize upd H10 t (.tup [.str "sail",.int x,.int y])=H11 at et C ⊢;clear st ht ee;exists _,U,_,U,rn,B,j,j,U,U,C.ern,Ot hj;have su:wG (λz=>z=rn) H11 (upd H11 rn (.lst (B.set j (.ref t)))):=λz o n e=>.inl (by rw[zG n]; exact e);have npn:∀ a xs,H11 a=O 'q'->¬ a=rn:=vU C.ern;have ndn:∀ a r,Rd H11 a (.dK r)->¬ a=rn:=λa r h z=>by
    rw[z] at h;rcases h with h | ⟨o,h⟩ <;> rw[C.ern] at h <;> cases h
   obtain⟨X,l1,bk1,nl1,lp1⟩:=C.bk;have B2:=C.bas.samE su nrn nLn npn;have e2:upd H11 rn (.lst (B.set j (.ref t))) rn=O (.lst (B.set j (.ref t))):=zA;have et2:upd H11 rn (.lst (B.set j (.ref t))) t=O (.tup [.str "sail",.int x,.int y]):=by rw[zG (npn _ _ et)]; rwa[et]
   have rp2:xS (upd H11 rn (.lst (B.set j (.ref t)))) (((g.filter ZN).set j (.sail x y)).map Deed.dt) (B.set j (.ref t)):=by
    rw[List.map_set];exact(C.rpn.sam su npn).set (aJ et2) j
   have bk2:=bk1.put C.ern (λz=>nnp z.symm) nl1 (ws:=B.set j (.ref t));have rd2:=su.rd (ndn _ _ C.rd) C.rd;have kv2:=C.kv.sam su npn;generalize upd H11 rn (.lst (B.set j (.ref t)))=H12 at B2 e2 et2 rp2 bk2 rd2 kv2 ⊢;have lsr:S.runs.length=B.length:=by rw[C.run,bV C.sail,b9,lz]
   have okd:okD S (.right j x y):=⟨by lia,by lia,nr⟩;have f3:=C.few;obtain⟨dx2,d2,ps2,ls2,k2⟩:=id bk2;have gj:atI (B.set j (.ref t)) (j:Int)=O (.ref t):=vX (by rw[CQ hj]);have sq2:Sq K H12 rn (B.set j (.ref t)):=.inl (SqL.of e2);exists _,U,bk,dx2,_,U,k2.ob,noD (.inr (.inr (.inr rfl))),_,rfl;exists _,U,_,U,rn,_,_,.ref t,U,U,sq2,gj,t,_,1,.int x,U,U,.inr (SqT.of et2),rfl;exists _,U,_,U,rn,_,_,.ref t,U,U,sq2,gj,t,_,2,.int y,U,U,.inr (SqT.of et2),rfl;refine⟨bk,p,_,S,.right j x y,X,[],U,bk2.at,⟨_,_,_,U,U⟩,⟨ut (by lia),(vC nr).1,(vC nr).2⟩,M8.well,(by lia),λjn H13 s13 bk13=>?_,λc jc _ _=>by rw[nY okd] at jc; cases jc⟩;have np2:=jm k2.ob k2.pa;obtain⟨l3,hl3,bk3⟩:=bk13;have A13:UP 21 H13 rr L rn bk p M rows xs g S0 r I (aft S (.right j x y)) ((g.filter ZN).set j (.sail x y)) (B.set j (.ref t)):=by
    refine⟨B2.samE s13 nrB nLB np2,s13.lst nnB e2,rp2.sam s13 np2,λE hE=>?_,?_,by rw[DD]; exact C.few,C.well.aft okd,C.nd.aft okd,C.note,C.next,C.names,s13.rd nlB rd2,kv2.sam s13 np2,C.pm,_,l3,bk3,(λz=>by rw[z,e2] at hl3; cases hl3),by rw[f9]; simp only[g8,Ax]; lia⟩
    ·rcases Dq hE with h | h
     ·rwa[C.sail E h]
     ·rwa[x,y,h,nr]
    ·rw[Py C.sail,<- C.run];rfl
   generalize (O (V.int (j:Int)):Option V)=oj;rwa[main oj H13 ⟨_,_,_,A13⟩]
  ·have em:B.isEmpty=true:=by rw[hz]; rfl
   rw[em];rwa[zd (main J2 H10 ⟨_,_,_,A.more⟩)]
 rintro o13 H10 ⟨Y,G,ys,C⟩;have pll2:I.length<=2:=by lia
 clear hA9 hS0 hrun wr M8 M0 pm8 pll lp8;obtain⟨X,l1,bkl,nl1,_⟩:=id C.bk;intro ot dx2 hb2 hdx2 nbd2;refine⟨ot,dx2,U,zA,λp2 H11 s11 hp2 bk11=>⟨U,?_⟩⟩;have u11:∀{x:c7}{o:HO},H10 x=O o->x≠ot/\x≠p2/\upd (upd H10 dx2 (.own ot)) ot (.ins bkC dx2 []) x=O o:=λ{x o} e=>by
  have n1:=zI e hb2;have e2:upd (upd H10 dx2 (.own ot)) ot (.ins bkC dx2 []) x=O o:=by rw[zG n1,zG (zI e hdx2)]; rwa[e]
  rwa[n1,zI e2 hp2,e2]
 have s1011:Sam H10 H11:=λx o _ e=>s11 x o (u11 e).1 (u11 e).2.2;have ap:Aprt ot p2 rr L rn bk p l1 M:=by
  obtain⟨dxq,dq,psq,lsq,kq⟩:=id bkl;have go:∀{x:c7}{o:HO},H10 x=O o->¬ Bp ot p2 x:=λe z=>z.elim (u11 e).1 (u11 e).2.1;exact⟨go C.bas.er,go C.bas.eL,go C.ern,(u11 kq.ob).1,(u11 kq.pa).2.1,(u11 kq.la).2.1,by rcases C.rd with e | ⟨o,e⟩ <;> rwa[go e]⟩
 have R11:Rst H11 rr L rn bk p l1 M rows xs g r I Y X G ys:=⟨C.bas.to s1011,s1011.lst id C.ern,C.rpn.to s1011,s1011.rd id C.rd,C.kv.to s1011,bkl.to s1011⟩;clear u11 s11 s1011 hp2 hb2 hdx2 bkl;obtain⟨dx3,d3,ps3,ls3,k3⟩:=id R11.bk;obtain⟨dx4,d4,l4,ps4,ls4,k4⟩:=id bk11;refine⟨_,U,bk,dx3,_,U,k3.ob,noD (.inr (.inl rfl)),bk,p,Y,X,[],U,R11.bk.at,C.well.good.few,λm as ms H12 s12 hm em pm _ ma=>?_⟩;have nmO:¬ Bp ot p2 m:=λz=>z.elim (λz=>by rw[z,k4.ob] at hm; cases hm) (λz=>by rw[z,k4.pa] at hm; cases hm);have R12:=R11.to (.of s12);have bk12:=bk11.to (.of s12);have nd1:ms.Nodup:=pm.nodup_iff.mpr C.nd;have l5:ms.length<=5:=by
  have h5:=mn.hi;rw[pm.length_eq,C.names,b9];rwa[h5]
 clear R11 bk11 k3 k4 s12 hm;refine⟨m,U,.inl ⟨⟨_,SqL.of em⟩,xM (K:=K) (a:=m) (xs:=as.map V.ref) (λi σ J=>A5 (Rst J rr L rn bk p l1 M rows xs g r I Y X G ys) (J m=O (.lst (as.map V.ref))) (rL J Y as ms) (∃ N:List (Deed×BS),A3 (vh bkC J ot p2 (stN (mkL Y (ms.take i)) [] [] 1) N []) (mT (stN (mkL Y (ms.take i)) [] [] 1)) (N.length<=i)) (E3 λ(u9 u10 u11:Option V)=>σ=[O (.ref ad),O (.ref rr),O (.ref R),O (.ref L),O (.ref bk),u5,O (.ref M),O (.ref D),u8,u9,u10,u11,O (.ref rn),o13,O (.ref ot),J2]))
  ⟨R12,em,ma,⟨[],bk12,mT.nil,f7 _⟩,_,_,_,rfl⟩ (λi σ J _ hq=>SqL.of hq.2) ?_ ?_⟩⟩
 ·clear R12 bk12 em ma;rintro i v σ H13 hi ⟨R13,em,ma,⟨N,bk13,wl13,lp2⟩,u9,u10,u11,rfl⟩;rw[e7,o6] at hi;obtain⟨a,ha,rfl⟩:=hi;have him:i<ms.length:=by rw[<- ma.len]; exact(e8.mp ha).1
  have hn:ms[i]?=O ms[i]:=c6 him;have nin:=ig nd1 hn;generalize ms[i]=n at hn nin;obtain⟨pt,ept,ea⟩:=ma.at_ i a n ha hn;have nr:=C.well.good.mk_ _ (yS ept);have okn1:=C.well.names _ (yS ept);have okd:okD (stN (mkL Y (ms.take i)) [] [] 1) (.mark n pt.1 pt.2):=Xa okn1 (by rw[dr]; exact nin) nr (by unfold mkL; rw[b9,m8]; lia);obtain⟨dx5,d5,l5',ps5,ls5,k5⟩:=id bk13;exists a,[.str n,.int pt.1,.int pt.2],U,SqT.of ea,U,.str n,_,U,.int pt.1,_,U,.int pt.2,[],U,rfl;refine⟨_,U,ot,dx5,_,U,k5.ob,noD (.inr (.inr (.inl rfl))),_,U,_,U,_,U,ot,p2,_,_,.mark n pt.1 pt.2,N,[],U,bk13,⟨_,_,_,U,U⟩,⟨okn1.asc,(vC nr).1,(vC nr).2⟩,wl13,(by lia),λjn H14 s14 bk14=>?_,λc jc _ _=>by rw[nY okd] at jc; cases jc⟩;have e1:aft (stN (mkL Y (ms.take i)) [] [] 1) (.mark n pt.1 pt.2)=stN (mkL Y (ms.take (i+1))) [] [] 1:=by
   rw[Zi,w9,hn];unfold mkL;rw[f8];show _=stN (_++[(n,yE Y n)]) [] [] 1;rw[show yE Y n=pt by unfold yE; rw[ept]; rfl]
  have wl14:=wl13.aft okd;have b14:=bk14.at;rw[e1] at wl14 b14;rwa[R13.other ap s14 k5.ob k5.pa,s14.lst nmO em,ma.samE s14 (jm k5.ob k5.pa),⟨_,b14,wl14,by rw[f9]; simp only[g8,Ax]; lia⟩,_,_,_,rfl]
 clear R12 bk12 em ma;rintro σ H13 ⟨R13,_,ma,⟨N,bk13,wl13,lp2⟩,u9',u10',u11',rfl⟩;have elm:ms.take ((as.map V.ref).length)=ms:=Au (by rw[b9,ma.len]; rwa[f7 _]);rw[elm] at bk13 wl13;have lp5:N.length<=5:=by rw[b9,ma.len] at lp2; lia
 clear ma elm lp2;have eN:Y.notes=cQ 1 (g.filter rF):=by rw[C.note,eS]; rfl
 have n6:(g.filter rF).length<=6:=by
  obtain⟨i6,h6,sm⟩:=sm;have:=sm.len;rw[eS] at this;have e6:(cQ 1 (g.filter rF)).length=i6:=this;rw[mj] at e6;lia
 have hmk:∀ n,zK (stN (mkL Y ms) [] [] 1) n=zK Y n:=by
  refine cF C.nd (by unfold NdM; show((mkL Y ms).map (·.1)).Nodup; rw[dr]; rwa[nd1]) λe=>?_;constructor
  ·intro he;obtain⟨n,hn,rfl⟩:=i9.mp he;obtain⟨pt,e⟩:=wJ (S:=Y) (pm.mem_iff.mp hn);show(n,yE Y n)∈_;rw[show yE Y n=pt by unfold yE; rw[e]; rfl];rwa[yS e]
  ·intro he;have hn:e.1∈ms:=pm.mem_iff.mpr (i9.mpr ⟨e,he,rfl⟩);erw[i9.mpr ⟨e.1,hn,?_⟩];rw[show yE Y e.1=e.2 by unfold yE; rw[pL C.nd he]; rfl]
 have chO:wE (stN (mkL Y ms) [] [] 1) (G++g.filter rF):=by
  refine gW (Zv C.sail (by have:=C.few; simp; lia)) ?_;have e1:yU (stN (mkL Y ms) [] [] 1) G=stN (mkL Y ms) (G.filterMap slO) [] 1:=by
   rw[parts _ _ _ _ _ λD hD=>kU (C.sail D hD),aW C.sail,aZ C.sail];simp[cQ]
  rw[e1];erw[gm (S:=Y) (λn=>hmk n) (by rw[C.run]) (λD hD=>?_) (by simp; lia)];obtain⟨j,hj⟩:=ar (k:=1) hD;rwa[C.well.good.note (j,D) (by rw[eN]; exact hj),iq ch D (AS.mp hD).1]
 have fO:∀ D∈G++g.filter rF,lC D:=λD hD=>(j5.mp hD).elim (λz=>kU (C.sail D z)) λz=>WT (AS.mp z).2;obtain⟨dxo,do',lo,pso,lso,ko⟩:=id bk13;refine⟨_,U,_,U,L,U,.inl ⟨⟨_,SqL.of R13.bas.eL⟩,λcc qn hqn=>ye (K:=K) (a:=L) (xs:=xs) (λi σ B J=>A4 (Same H13 J) (J qn=O (.lst B)) (xS J (((g.take i).filter rF).map Deed.dt) B) (∃ u:Option V,σ=[u]))
  ⟨zC hqn _,zA,zY.mpr rfl,J2,rfl⟩ (λi σ B J _ hq=>⟨SqL.of (hq.1 _ _ R13.bas.eL),hq.2⟩) ?_ ?_⟩⟩
 ·rintro i v σ B H14 hi ⟨s14,eD,rz,u,rfl⟩;have hil:i<g.length:=by rw[<- lxs]; exact(e8.mp hi).1
  have hE:g[i]?=O g[i]:=c6 hil;have f4:=four _ (r6 hil);generalize g[i]=E at hE f4;obtain⟨dt,g1,g2⟩:=R13.bas.rp.back hi;rw[e7,hE] at g1;cases g1;have g14:=g2.to (.of s14);rw[w9,hE];have lz:B.length<=14:=by rw[rz.length,b9]; rwa[i4 (Bs _ _) (by rw[m8]; lia)]
  obtain⟨t,vs,rfl,ht⟩:=Ru g14;refine⟨_,U,t,_,0,.str (Re E),U,U,.inr (SqT.of ht),vX (xs:=.str (Re E)::vs) (j:=0) rfl,sz2,λz hz=>?_⟩;have sz:=zC hz (.tup [.str "bearing",.str "range"]);have eD':=sz _ _ eD;have s15:=s14.trans sz;have rz':=rz.to (.of sz);have g15:=g14.to (.of sz);have ez:upd H14 z (.tup [.str "bearing",.str "range"]) z=O (.tup [.str "bearing",.str "range"]):=zA;generalize upd H14 z (.tup [.str "bearing",.str "range"])=H15 at eD' s15 rz' g15 ez ⊢;exists z,_,U,.inr (SqT.of ez),U,U,_,rfl;have yes:rF E=J3->(A4 (Same H13 (upd H15 qn (.lst (B++[.ref t])))) (upd H15 qn (.lst (B++[.ref t])) qn=O (.lst (B++[.ref t]))) (xS (upd H15 qn (.lst (B++[.ref t]))) ((GE rF (g.take i++(O E).toList)).map Deed.dt) (B++[.ref t])) (∃ u:Option V,[O (V.ref t)]=[u])):=λhN=>by
   erw[s15.putNew hqn,zA,?_,_,rfl];rw[Bf,f8];have su:wG (λz=>z=qn) H15 (upd H15 qn (.lst (B++[.ref t]))):=λz o n e=>.inl (by rw[zG n]; rwa[e]);have npn:∀ a xs,H15 a=O 'q'->¬ a=qn:=vU eD';rw[show GE rF (O E).toList=[E] by simp[hN]];exact(rz'.sam su npn).app (.one (g15.sam su npn))
  have no:rF E=J7->(A4 (Same H13 H15) (H15 qn=O (.lst B)) (xS H15 ((GE rF (g.take i++(O E).toList)).map Deed.dt) B) (∃ u:Option V,[O (V.ref t)]=[u])):=λhN=>by
   erw[s15,eD',?_,_,rfl];rw[Bf,show GE rF (O E).toList=[] by simp[hN],BX];rwa[rz']
  match E,f4,yes,no with
  | .mark _ _ _,_,_,no=>rwa[zd (no rfl)]
  | .sail _ _,_,_,no=>rwa[zd (no rfl)]
  | .bearing _ _ _ _ _ _,_,yes,_=>rwa[vf ⟨_,rfl,eD',zM (by lia),yes rfl⟩]
  | .range _ _ _,_,yes,_=>rwa[vf ⟨_,rfl,eD',zM (by lia),yes rfl⟩]
 rintro σ B H14 ⟨s14,eqn,rz,u14,rfl⟩;rw[lxs,o5] at rz;have R14:=R13.to (.of s14);have bk14:=bk13.to (.of s14);have lys:ys.length=G.length:=by rw[R14.rpn.length,b9]
 have lzs:B.length=(g.filter rF).length:=by rw[rz.length,b9]
 have f3:=C.few;erw[rn,qn,ys,B,rfl,rfl,R14.ern,eqn,BM (zM (by lia)),λc hc=>?_];have sc:=zC hc (.lst (ys++B));have ec:upd H14 c (.lst (ys++B)) c=O (.lst (ys++B)):=zA;have R15:=R14.to (.of sc);have bk15:=bk14.to (.of sc);have rp15:xS (upd H14 c (.lst (ys++B))) ((G++g.filter rF).map Deed.dt) (ys++B):=by rw[f8]; exact(R14.rpn.app rz).to (.of sc)
 obtain⟨dxp,dp,lp',psp,lsp,kp⟩:=id bk14;have ncO:¬ Bp ot p2 c:=λz=>z.elim (λz=>by rw[z,kp.ob] at hc; cases hc) (λz=>by rw[z,kp.pa] at hc; cases hc);generalize upd H14 c (.lst (ys++B))=H15 at ec R15 bk15 rp15 ⊢;clear R13 bk13 R14 bk14 ko kp sc hc s14 eqn rz hqn;have lyz:(ys++B).length=(G++g.filter rF).length:=by rw[rp15.length,b9]
 refine⟨c,U,.inl ⟨⟨_,SqL.of ec⟩,xM (K:=K) (a:=c) (xs:=ys++B) (λi σ J=>A5 (Rst J rr L rn bk p l1 M rows xs g r I Y X G ys) (J c=O (.lst (ys++B))) (xS J ((G++g.filter rF).map Deed.dt) (ys++B)) (∃ N:List (Deed×BS),A3 (vh bkC J ot p2 (yU (stN (mkL Y ms) [] [] 1) ((G++g.filter rF).take i)) N []) (mT (yU (stN (mkL Y ms) [] [] 1) ((G++g.filter rF).take i))) (N.length<=5+i)) (∃ u5:Option V,σ=[O (.ref ad),O (.ref rr),O (.ref R),O (.ref L),O (.ref bk),u5,O (.ref M),O (.ref D),u8,u9',u10',u11',O (.ref rn),o13,O (.ref ot),J2]))
  ⟨R15,ec,rp15,⟨N,bk15,wl13,by lia⟩,_,rfl⟩ (λi σ J _ hq=>SqL.of hq.2) ?_ ?_⟩⟩
 ·clear R15 bk15 ec rp15;rintro i v σ H16 hi ⟨R16,ec,rp16,⟨N,bk16,wl16,lp2⟩,u5,rfl⟩;have hil:i<(G++g.filter rF).length:=by rw[<- lyz]; exact(e8.mp hi).1
  have hE:(G++g.filter rF)[i]?=O (G++g.filter rF)[i]:=c6 hil;have f4:=fO _ (r6 hil);have li:(G++g.filter rF).length<=9:=by rw[f9]; lia
  generalize (G++g.filter rF)[i]=E at hE f4;obtain⟨dt,g1,g2⟩:=rp16.back hi;rw[e7,hE] at g1;cases g1;have okd:=pC chO hE;rw[kj hE];generalize yU (stN (mkL Y ms) [] [] 1) ((G++g.filter rF).take i)=S' at bk16 okd wl16;obtain⟨dx6,d6,l6,ps6,ls6,k6⟩:=id bk16;refine⟨_,U,ot,dx6,_,U,k6.ob,noD (.inl rfl),_,U,ot,p2,v,S',E,N,[],U,bk16,g2,gZ wl16 wl16.good.few.ru f4 okd,wl16,(by lia),λjn H17 s17 bk17=>?_,λc jc _ _=>by rw[nY okd] at jc; cases jc⟩;rwa[R16.other ap s17 k6.ob k6.pa,s17.lst ncO ec,rp16.sam s17 (jm k6.ob k6.pa),⟨_,bk17.at,wl16.aft okd,by rw[f9]; simp only[g8,Ax]; lia⟩,_,rfl]
 clear R15 bk15 ec rp15 wl13;rintro σ H16 ⟨R16,_,_,⟨past3,bk16,wl16,_⟩,u5',rfl⟩;rw[lyz,o5,Ue C.sail] at bk16 wl16;have hmk3:∀ n,zK (stN (mkL Y ms) (G.filterMap slO) (cQ 1 (g.filter rF)) (1+(g.filter rF).length)) n=zK Y n:=hmk;have run3:(stN (mkL Y ms) (G.filterMap slO) (cQ 1 (g.filter rF)) (1+(g.filter rF).length)).runs=Y.runs:=C.run.symm;have not3:(stN (mkL Y ms) (G.filterMap slO) (cQ 1 (g.filter rF)) (1+(g.filter rF).length)).notes=Y.notes:=eN.symm;generalize stN (mkL Y ms) (G.filterMap slO) (cQ 1 (g.filter rF)) (1+(g.filter rF).length)=S3 at bk16 wl16 hmk3 run3 not3;apply cutHp (ok:=λH=>Rst H rr L rn bk p l1 M rows xs g r I Y X G ys/\vh bkC H ot p2 S3 past3 [])
 ·intro main;erw[_,rfl,λe he=>?_];have se:=zC he (.dK []);have ee:upd H16 e (.dK []) e=O (.dK []):=zA;have R17:=R16.to (.of se);have bk17:=bk16.to (.of se);generalize upd H16 e (.dK [])=H17 at ee R17 bk17 ⊢;exists M,e,r,U,U,R17.rd,ee,_,rfl;cases hk:r.isEmpty with
  | true=>rwa[zd (zd (main H17 ⟨R17,bk17⟩))]
  | false =>
   erw[vf ?_];erw[_,rfl,M,r,rfl,R17.rd,λo H18 fz cc Dc hDc=>?_];have sf:Sam H17 H18:=cE R17.rd fz;have R18:=R17.to sf;have bk18:=bk17.to sf;have nDl:M≠Dc:=λz=>by have:=fz.1; rw[z,hDc] at this; cases this
   refine Vn (λi σ B J=>A4 (wG (λx=>x=Dc) H18 J) (J Dc=O (.lst B)) (B=(Df i J3).map V.bl) (∃ u:Option V,σ=[u,O (.ref bk),O (.ref M)]))
    ⟨.of (zC hDc _),zA,rfl,J2,rfl⟩ (λj σ B J hP=>⟨Up hP.1 nDl fz.1,hP.2⟩) ?_ ?_
   ·rintro i v σ B H19 gx ⟨s19,eD,rfl,u,rfl⟩;rw[e7,o6] at gx;obtain⟨kv0,hk0,rfl⟩:=gx;obtain⟨e0,he0,ek0⟩:∃ e0∈I,kv0.1=.inr e0.1:=by
     have z:(r.map (·.1))[i]?=O kv0.1:=by rw[e7,hk0]; rfl
     rw[R18.kv.keys] at z;unfold mkE at z;rw[x5,e7,o6] at z;obtain⟨e0,h0,h1⟩:=z;rwa[e0,j4 h0,h1.symm]
    rw[ek0,show kV (Cq e0.1)=V.str e0.1 from rfl];have li:i<100:=by
     have h1:=(e8.mp hk0).1;rw[R18.kv.length] at h1;unfold mkE at h1;rw[b9] at h1;lia
    obtain⟨q0,eq0⟩:=wJ (S:=stN I [] [] 1) (n:=e0.1) (i9.mpr ⟨e0,he0,rfl⟩);have mq:(e0.1,q0)∈I:=yS eq0;have m1:=C.pm _ mq;have s1819:Sam H18 H19:=λx o _ e=>s19 x o (zI e hDc) e;have R19:=R18.to s1819;have lk:=uu (S:=stN I [] [] 1) (n:=e0.1);rw[eq0] at lk;obtain⟨v,ev,rv⟩:=R19.kv.get lk;obtain⟨tp,rfl,htp⟩:=rf rv;generalize e0.1=n at ev m1 mq ⊢;clear eq0 lk he0 ek0 hk0 rv;refine⟨_,U,sz1,λt1 ht1=>?_⟩;have st1:=zC ht1 (.tup [.str n]);have e1:upd H19 t1 (.tup [.str n]) t1=O (.tup [.str n]):=zA;have R20:=R19.to (.of st1);have htp:=st1 _ _ htp;have eD:=st1 _ _ eD;have s20:=s19.trans (.of st1);generalize upd H19 t1 (.tup [.str n])=H20 at e1 R20 htp eD s20 ⊢;refine⟨_,rfl,_,rfl,M,.ref tp,rfl,.inl ⟨r,.inr n,R20.rd,rfl,ev.symm⟩,t1,tp,_,_,rfl,rfl,SqT.of e1,SqT.of htp,'n',sz3,'n',λ_ w hw=>?_⟩;have sw:=zC hw (.tup ([.str n]++[.int q0.1,.int q0.2]));have ew:upd H20 w (.tup ([.str n]++[.int q0.1,.int q0.2])) w=O (.tup (xc (n,q0))):=zA;have R21:=R20.to (.of sw);have eD:=sw _ _ eD;have s21:=s20.trans (.of sw);generalize upd H20 w (.tup ([.str n]++[.int q0.1,.int q0.2]))=H21 at ew R21 eD s21 ⊢;obtain⟨dx9,d9,ps9,ls9,k9⟩:=id R21.bk;refine⟨_,U,bk,dx9,_,U,k9.ob,noD (.inr (.inl rfl)),bk,p,Y,X,[],U,R21.bk.at,C.well.good.few,λm9 as9 ms9 H22 s22 hm9 em9 pm9 _ ma9=>?_⟩;obtain⟨rs,r1,r2,r3⟩:=im ma9;have ew22:=s22 _ _ ew;have hn9:n∈ms9:=pm9.mem_iff.mpr (i9.mpr ⟨_,yS m1,rfl⟩);obtain⟨t9,ht9,et9⟩:=r3 n hn9;exists w,m9,(n,q0),rs,U,U,ew22,SqL.of (by rw[r1]; exact em9),r2;have any:(rs.any λt=>decide (t.2=(n,q0)))=true:=Bz.mpr ⟨t9,ht9,y7 (by rw[et9]; show(n,yE Y n)=_; rw[show yE Y n=q0 by unfold yE; rw[m1]; rfl])⟩;rw[any];have s22':=s21.trans (.of s22);exact⟨s22 _ _ eD,zM (by rw[b9,C0]; lia),λx o hx e=>by
     rw[zG hx]; exact s22' x o hx e,zA,(by rw[List.replicate_succ',f8]; rfl),_,rfl⟩
   ·rintro σ B H19 ⟨s19,eD,rfl,u,rfl⟩;exists Dc,_,U,SqL.of eD,_,rfl;have al:∀ k:Nat,(Df k J3).all id=true:=λk=>by rw[Aw]; intro b hb; rw[(List.mem_replicate.mp hb).2]; rfl
    rw[al];have s1819:Sam H18 H19:=λx o _ e=>s19 x o (zI e hDc) e;rwa[zd (main H19 ⟨R18.to s1819,bk18.to s1819⟩)]
 rintro H17 ⟨R17,bk17⟩;have lys':ys.length=Y.runs.length:=by rw[lys,C.run,bV C.sail,b9]
 have n6':Y.notes.length<=6:=by rw[eN,mj]; rwa[n6]
 have n24:Y.notes.length<=24:=by rw[eN,mj]; lia
 have n24':S3.notes.length<=24:=by rw[not3]; rwa[n24]
 have eG:∀ j:Nat,(S3.notes.map λe=>uA S3 j e.2)=Y.notes.map λe=>uA Y j e.2:=λj=>by rw[not3]; rwa[AV λe _=>aS hmk3 run3]
 have eC:oA S3=oA Y:=by
  unfold oA;rw[not3];exact AV λe _=>by rw[aS hmk3 run3]
 refine⟨_,U,rn,_,U,.inl (SqL.of R17.ern),_,_,U,U,_,U,(by lia),(by lia),uC (lo:=0) (n:=((ys.length:Int)+1).toNat) (λi σ J=>A3 (Rst J rr L rn bk p l1 M rows xs g r I Y X G ys) (vh bkC J ot p2 S3 past3 []) (∃ u15:Option V,σ=[O (.ref ad),O (.ref rr),O (.ref R),O (.ref L),O (.ref bk),u5',O (.ref M),O (.ref D),u8,u9',u10',u11',O (.ref rn),o13,O (.ref ot),u15]))
  ⟨R17,bk17,J2,rfl⟩ ?_ ?_⟩
 ·clear R17 bk17;rintro i σ H18 hi ⟨R18,bk18,u15,rfl⟩;rw[BN];have hj:i<=Y.runs.length:=by lia
  have hj3:i<=S3.runs.length:=by rw[run3]; rwa[hj]
  erw[_,rfl,_,rfl,.inl ⟨bk,p,Y,X,[],i,rfl,R18.bk.at,C.well.good,hj,λl as H19 s19 hl el ta=>?_⟩];erw[_,rfl,_,rfl,.inl ⟨ot,p2,S3,past3,[],i,rfl,bk18.to (.of s19),wl16.good,hj3,λl' as' H20 s20 hl' el' ta'=>?_⟩];rw[eG] at ta';obtain⟨ll,dd⟩:=XR (K:=K) 7 (ta.to (.of s20)) ta';erw[l,l',_,_,rfl,rfl,SqL.of (s20 _ _ el),SqL.of el',ll,dd,_,rfl,zd ?_];have s1820:=s19.trans s20;have R20:=R18.to (.of s1820);have bk20:=bk18.to (.of s1820);clear ta ta' ll dd el el' hl hl' s19 s20 s1820;erw[_,rfl,_,rfl,bk,p,Y,X,[],i,rfl,R20.bk.at,C.well.good,hj,n24,λq1 ps H21 s21 hq1 ca=>?_];erw[_,rfl,_,rfl,ot,p2,S3,past3,[],i,rfl,bk20.to (.of s21),wl16.good,hj3,n24',λq2 ps' H22 s22 hq2 ca'=>?_];have er:cR S3 i=cR Y i:=by unfold cR; rw[eG]
  rw[er] at ca';obtain⟨ll,dd⟩:=Yd (K:=K) 7 (Zc ca ca') (λt ht=>(ca.ok t ht).1.same s22) (λt ht=>(ca'.ok t ht).1);erw[q1,q2,_,_,rfl,rfl,SqL.of (s22 _ _ ca.at'),SqL.of ca'.at',ll,dd,_,rfl,zd ?_];have s2022:=s21.trans s22;rwa[R20.to (.of s2022),bk20.to (.of s2022),_,rfl]
 ·rintro σ H18 ⟨R18,bk18,u15,rfl⟩;erw[_,rfl,bk,p,Y,X,[],rfl,R18.bk.at,C.well.good,n6',λD1 fs H19 s19 hD1 eD1 of1 cs1=>?_];erw[_,rfl,ot,p2,S3,past3,[],rfl,bk18.to (.of s19),wl16.good,(by rw[not3]; rwa[n6']),λD2 gs H20 s20 hD2 eD2 of2 cs2=>?_];rw[eC] at cs2;have efg:fs.map (·.2)=gs.map (·.2):=WJ cs1 cs2;have ne:D1≠D2:=λz=>by rw[<- z,eD1] at hD2; cases hD2
  have lf:fs.length=gs.length:=by have:=congrArg Ay efg; (rw[b9,b9] at this;assumption)
  refine⟨D1,D2,J3,U,U,ne,?_,q H20⟩;have d:=Deep.lst (K:=K) (H:=H20) (n:=7) (e:=λ_=>J3) ne (SqL.of (s20 _ _ eD1)) (SqL.of eD2) (by simp only[b9]; exact lf) λj h1 h2=>by
   simp only[b9] at h1 h2;simp only[AR];have e3:fs[j].2=gs[j].2:=by
    have:=congrArg (λl:List (List Int)=>l[j]?) efg;simp only[e7,c6 h1,c6 h2,AB,Cv] at this;rwa[this]
   have a1:=s20 _ _ (of1 _ (r6 h1)).1;have a2:=(of2 _ (r6 h2)).1;rw[not3,<- e3] at a2;rwa[Rv 6 a1 a2]
  rw[xi] at d;rwa[d]
end
def RP{K:c5}(h:Bc K (.ref C) f=O J2):vn K C f:=h
def mM(P:CO):Cls (KK P) bkC:=⟨by symm,by symm,by symm,by symm⟩
set_option maxHeartbeats 0 in
def cb_mk{w:t7}{mg:j9->Option c8}(X:AH (KK w.params) base)(G:base.Ns mainGlobals mg):Cb P w mg base :=
 ⟨⟨_,X,mM _,RP 'g'⟩,
   ⟨_,X,mM _,RP 'g'⟩,
   ⟨_,X,mM _,RP 'g'⟩,
   ⟨_,X,mM _,⟨'g','g','g'⟩⟩,
   ⟨_,X,mM _,⟨'g','g','g'⟩⟩,
   ⟨_,X,mM _,⟨'g','g','g'⟩⟩,
   ⟨_,X,mM _,⟨'g','g','g'⟩⟩,
   ⟨_,X,mM _,⟨'g','g','g'⟩⟩,
   ⟨_,X,mM _,⟨'g','g','g'⟩⟩,
   ⟨_,X,mM _,⟨'g','g','g'⟩⟩,
   ⟨_,X,mM _,⟨'g','g','g'⟩⟩,
   ⟨_,X,⟨'g','g','g','g'⟩⟩,
   (o8 X G 'g'),
   (Vx (ep:=4) (l:=[("marks",673,.int 20,.int 20 674),("banks",675,.int 8,.int 8 676),("runs",677,.int 12,.int 12 678),("notes",679,.int 24,.int 24 680)]) (X _ _ 'g') (λe c=>by simp only[l9,Ee,or_false] at c; rcases c with rfl | rfl | rfl | rfl <;> rwa[_,rfl]) 'm'),
   (o8 X G 'g'),
   (Vx (ep:=10) (l:=[("mark",898,.ref 469,.ref 469),("move",899,.ref 476,.ref 476),("unmark",900,.ref 483,.ref 483),("bank",901,.ref 490,.ref 490),("level",902,.ref 497,.ref 497),("sail",903,.ref 504,.ref 504),("right",904,.ref 511,.ref 511),("bearing",905,.ref 525,.ref 525),("range",906,.ref 532,.ref 532),("strike",907,.ref 539,.ref 539)]) (X _ _ 'g') (λe c=>by simp only[l9,Ee,or_false] at c; rcases c with rfl | rfl | rfl | rfl | rfl | rfl | rfl | rfl | rfl | rfl <;> rwa[rfl]) 'm'),
   (o8 X G 'g'),
   ⟨686,(o8 X G 'g')⟩,
   ⟨688,(o8 X G 'g')⟩,
   ⟨690,(o8 X G 'g')⟩,
   (o8 X G 'g'),
   (o8 X G 'g'),
   (o8 X G 'g'),
   (o8 X G 'g'),
   (o8 X G 'g'),
   (o8 X G 'g'),
   (o8 X G 'g'),
   (o8 X G 'g'),
   (o8 X G 'g'),
   (o8 X G 'g'),
   (o8 X G 'g'),
   's',
   's',
   's',
   's',
   's',
   's',
   's',
   's',
   's',
   's',
   's',
   's',
   's',
   's',
   ⟨_,X,'g'⟩,
   's'⟩
def us0{R:List c8->Prop}(h:R []):∀ c:List c8,c.length=0->R c
 | [],_=>h
 | _::_,e=>nomatch e
def usS{R:List c8->Prop}{n:Nat}(h:∀ a (c:List c8),c.length=n->R (a::c)):∀ c:List c8,c.length=n+1->R c
 | [],e=>nomatch e
 | a::l,e=>h a l (Nat.succ.inj e)
def us1{R:List c8->Prop}(h:∀ a,R [a]):∀ c:List c8,c.length=1->R c:=usS λa=>us0 (R:=λl=>R (a::l)) (h a)
def us2{R:List c8->Prop}(h:∀ a b,R [a,b]):∀ c:List c8,c.length=2->R c:=usS λa=>us1 (R:=λl=>R (a::l)) (h a)
def us3{R:List c8->Prop}(h:∀ a b c,R [a,b,c]):∀ d:List c8,d.length=3->R d:=usS λa=>us2 (R:=λl=>R (a::l)) (h a)
def us4{R:List c8->Prop}(h:∀ a b c d,R [a,b,c,d]):∀ e:List c8,e.length=4->R e:=usS λa=>us3 (R:=λl=>R (a::l)) (h a)
def us5{R:List c8->Prop}(h:∀ a b c d e,R [a,b,c,d,e]):∀ f:List c8,f.length=5->R f:=usS λa=>us4 (R:=λl=>R (a::l)) (h a)
def us6{R:List c8->Prop}(h:∀ a b c d e f,R [a,b,c,d,e,f]):∀ g:List c8,g.length=6->R g:=usS λa=>us5 (R:=λl=>R (a::l)) (h a)
abbrev AtK(j:CO)(x:j9)(s:Ao)(f:c7)(g:c8)(e:Option c7)(d:Array (Option c8))(kV h pm:c8)(i:Option c7)(c ct:c8):Prop :=
 Bx (KK j) mainGlobals x=O (O (.ref f))/\Av f KC=O ⟨g,e,.func (AD x x (wO s) (xX s) (zF s) .none kV h pm i c ct),d⟩/\Dg KC c x=J3/\AJ KC (.ref f)=J3
section
variable{Pm:CO}{x:j9}{s:Ao}{f:c7}{oc kV dc pm cd ct:c8}{od an:Option c7}{sl:Array (Option c8)}{h:Aa}{mg:j9->Option c8}
def VA(q:AtK Pm x s f oc od sl kV dc pm an cd ct):Fun K x x s f (AD x x (wO s) (xX s) (zF s) .none kV dc pm an cd ct):=Wr (st:=s) (by rw[Vs]; rwa[q.2.1]) (by rw[Vs]; rwa[q.2.2.1]) (by rw[Vs]; rwa[q.2.2.2])
abbrev AtE(Pm:CO)(x:j9)(s:Ao):Prop:=∃(f:c7)(oc:c8)(od:Option c7)(sl:Array (Option c8))(kV dc pm:c8)(an:Option c7)(cd ct:c8),AtK Pm x s f oc od sl kV dc pm an cd ct
def at_mk(q:AtK Pm x s f oc od sl kV dc pm an cd ct):AtE Pm x s:=⟨_,_,_,_,_,_,_,_,_,_,q⟩
def Xf(P:o0)(w:t7)(base:Aa)(X:AH (KK Pm) h)(G:h.Ns mainGlobals mg)(q:AtE Pm x s){n:Nat}{sp:Sp}(o:∀ {f:c7} {fd:AK},Fun K x x s f fd->qf K fd c []->AJ K (.ref f)=J3->mg x=O (.ref f)->yR P w K mg base CX0 n f fd c sp)
  (b:∀(kV e pm:c8)(an:Option c7)(g ct:c8)(d:List c8),d.length=c.length->bindArgs (AD x x (wO s) (xX s) (zF s) .none kV e pm an g ct) ⟨d,[]⟩=pure (c.zip d)):Has P w K mg base x n c sp:=by
 obtain⟨f,oc,od,sl,kV,dc,pm,an,cd,ct,q⟩:=q;have F:=VA q;rwa[_,_,o F (F.binds b) F.kp (o8 X G q.1),F.binds b,F.kp,o8 X G q.1]
def Pj(P:o0)(w:t7)(base:Aa)(X:AH (KK Pm) h)(G:h.Ns mainGlobals mg){x:j9}{s:Ao}(q:AtE Pm x s){c:List j9}{n:Nat}{sp:Sp}(o:∀ {f:c7} {fd:AK},Fun K x x s f fd->yR P w K mg base CX0 n f fd c sp)
  (b:∀(kV e pm:c8)(an:Option c7)(g ct:c8)(d:List c8),d.length=c.length->bindArgs (AD x x (wO s) (xX s) (zF s) .none kV e pm an g ct) ⟨d,[]⟩=pure (c.zip d):=by first | exact λ_ _ _ _ _ _=>us0 rfl | exact λ_ _ _ _ _ _=>us1 λ_=>rfl | exact λ_ _ _ _ _ _=>us2 λ_ _=>rfl | exact λ_ _ _ _ _ _=>us3 λ_ _ _=>rfl | exact λ_ _ _ _ _ _=>us4 λ_ _ _ _=>rfl | exact λ_ _ _ _ _ _=>us6 λ_ _ _ _ _ _=>rfl):Has P w K mg base x n c sp:=Xf P w base X G q (λF _ _ _=>o F) b
abbrev AtM(x q:j9)(s:Ao)(f:c7):Prop:=∃(oc:c8)(od:Option c7)(sl:Array (Option c8))(kV dc pm:c8)(an:Option c7)(cd ct:c8),Av f KC=O ⟨oc,od,.func (AD x q (wO s) (xX s) (zF s) .none kV dc pm an cd ct),sl⟩/\Dg KC cd q=J3/\AJ KC (.ref f)=J3
def atm_mk(h:Av f KC=O ⟨oc,od,.func (AD x q (wO s) (xX s) (zF s) .none kV dc pm an cd ct),sl⟩/\Dg KC cd q=J3/\AJ KC (.ref f)=J3):AtM x q s f:=⟨_,_,_,_,_,_,_,_,_,h⟩
def RD(P:o0)(w:t7)(base:Aa)(X:AH (KK Pm) h)(G:h.Ns mainGlobals mg){x:j9}{s:Ao}(q:AtE Pm x s){c:List j9}{n:Nat}{sp:Sp}(o:∀ {f:c7} {fd:AK},Fun K x x s f fd->yR P w K mg base 'w' n f fd c sp)
  (b:∀(kV e pm:c8)(an:Option c7)(g ct:c8)(d:List c8),d.length=c.length->bindArgs (AD x x (wO s) (xX s) (zF s) .none kV e pm an g ct) ⟨d,[]⟩=pure (c.zip d):=by first | exact λ_ _ _ _ _ _=>us0 rfl | exact λ_ _ _ _ _ _=>us1 λ_=>rfl | exact λ_ _ _ _ _ _=>us2 λ_ _=>rfl | exact λ_ _ _ _ _ _=>us3 λ_ _ _=>rfl | exact λ_ _ _ _ _ _=>us4 λ_ _ _ _=>rfl | exact λ_ _ _ _ _ _=>us6 λ_ _ _ _ _ _=>rfl):qJ P w K mg base x n c sp:=by
 obtain⟨f,oc,od,sl,kV,dc,pm,an,cd,ct,q⟩:=q;have F:=VA q;rwa[_,_,o F,F.binds b,F.kp,o8 X G q.1]
def has_mkH(P:o0)(w:t7)(base:Aa)(X:AH (KK Pm) h)(G:h.Ns mainGlobals mg)(q:AtE Pm x s){n:Nat}{sp:c7->Sp}(o:∀ {f:c7} {fd:AK},Fun K x x s f fd->Qo P w K mg base n f fd c sp)
  (b:∀(kV e pm:c8)(an:Option c7)(g ct:c8)(d:List c8),d.length=c.length->bindArgs (AD x x (wO s) (xX s) (zF s) .none kV e pm an g ct) ⟨d,[]⟩=pure (c.zip d)):HasH P w K mg base x n c sp:=by
 obtain⟨f,oc,od,sl,kV,dc,pm,an,cd,ct,q⟩:=q;have F:=VA q;rwa[_,_,o F,F.binds b,F.kp,o8 X G q.1]
def mJ(P:o0)(w:t7)(mg:j9->Option c8)(base:Aa)(a:AtM x q s f){n:Nat}{sp:Sp}(o:∀ {fd:AK},Fun K x q s f fd->yR P w K mg base CX0 n f fd c sp)
  (b:∀(kV e pm:c8)(an:Option c7)(g ct:c8)(d:List c8),d.length=c.length->bindArgs (AD x q (wO s) (xX s) (zF s) .none kV e pm an g ct) ⟨d,[]⟩=pure (c.zip d)):YE P w K mg base f n c sp:=by
 obtain⟨oc,od,sl,kV,dc,pm,an,cd,ct,l,j,i⟩:=a;rwa[_,o (Wr (st:=s) (by rw[Vs]; exact l) (by rw[Vs]; exact j) (by rw[Vs]; exact i)),b _ _ _ _ _ _]
def nN(P:o0)(w:t7)(mg:j9->Option c8)(base:Aa)(a:AtM x q s f){n:Nat}{sp:Sp}(o:∀ {fd:AK},Fun K x q s f fd->yR P w K mg base 'w' n f fd c sp)
  (b:∀(kV e pm:c8)(an:Option c7)(g ct:c8)(d:List c8),d.length=c.length->bindArgs (AD x q (wO s) (xX s) (zF s) .none kV e pm an g ct) ⟨d,[]⟩=pure (c.zip d)):iA P w K mg base f n c sp:=by
 obtain⟨oc,od,sl,kV,dc,pm,an,cd,ct,l,j,i⟩:=a;rwa[_,o (Wr (st:=s) (by rw[Vs]; exact l) (by rw[Vs]; exact j) (by rw[Vs]; exact i)),b _ _ _ _ _ _]
def K_in{Pm:CO}{h:Aa}(X:AH (KK Pm) h):AH K h:=by
 rw[Vs];rwa[VN (F:=KF Pm) 'g' X]
end
def all_mk{l:Gg}{w:t7}{mg:j9->Option c8}(X:AH (KK w.params) h)(G:h.Ns mainGlobals mg)(hfa:mg "law" = O (.ref fa))
  
  
  
  
  (q1:AtE w.params "common_factor" wR)
  (q2:AtE w.params "lowest" wq)
  (q3:AtE w.params "upright" zj)
  (q4:AtE w.params "spot" nR)
  (q5:AtE w.params "ahead" si)
  (q6:AtE w.params "merged" wk)
  (q7:AtE w.params "in_order" tY)
  (q8:AtE w.params "turn" mh)
  (q9:AtE w.params "along" tz)
  (q10:AtE w.params "plain_side" tL)
  (q11:AtE w.params "beyond" vx)
  (q12:AtE w.params "holds" sg)
  (q13:AtE w.params "crossing" qW)
  (q14:AtE w.params "pushed" wn)
  (q15:AtE w.params "bearing_sides" wS)
  (q16:AtE w.params "range_side" tK)
  (q17:AtE w.params "in_water" qV)
  (q18:AtE w.params "foot" nM)
  (q19:AtE w.params "edge_end" qS)
  (q20:AtE w.params "edge_ends" sW)
  (q21:AtE w.params "corners" yu)
  (q22:AtE w.params "stretch_way" vF)
  (q23:AtE w.params "all_left_of" vK)
  (q24:AtE w.params "is_bank" zb)
  (q25:AtE w.params "nothing_yet" vN)
  (q26:AtE w.params "changed" ze)
  (q27:AtE w.params "without" zi)
  (q28:AtE w.params "within" wa)
  (q29:AtE w.params "check_name" tT)
  (q30:AtE w.params "check_free" tN)
  (q31:AtE w.params "check_place" vO)
  (q32:AtE w.params "check_run" sZ)
  (q33:AtE w.params "check_room" tQ)
  (q34:AtE w.params "check_mark" tR)
  (q35:AtE w.params "check_moment" uF)
  (q36:AtE w.params "check_way" sX)
  (q37:AtE w.params "check_apart" vG)
  (q38:AtE w.params "after_mark" tF)
  (q39:AtE w.params "after_move" tM)
  (q40:AtE w.params "after_unmark" uI)
  (q41:AtE w.params "after_bank" tJ)
  (q42:AtE w.params "after_level" vD)
  (q43:AtE w.params "after_sail" tO)
  (q44:AtE w.params "after_right" vQ)
  (q45:AtE w.params "after_note" tI)
  (q46:AtE w.params "after_bearing" wW)
  (q47:AtE w.params "after_range" vH)
  (q48:AtE w.params "after_strike" uN)
  (q49:AtE w.params "after" qx)
  (q50:AtE w.params "doubted" zf)
  (q51:AtE w.params "places_to_try" wV)
  (q52:AtE w.params "least_doubts" uK)
  (q53:AtE w.params "choices" za)
  (q54:AtE w.params "way_between" uZ)
  (q55:AtE w.params "mark_places" vI)
  (q56:AtE w.params "sides_of" qK)
  (q57:AtE w.params "note_groups" vB)
  (q58:AtE w.params "note_sides" tH)
  (q59:AtE w.params "book_corners" uH)
  (q60:AtE w.params "note_numbers" uP)
  (q61:AtE w.params "book_choices" uL)
  (q62:AtE w.params "_law_power" uj)
  (q63:AtE w.params "_law_draws" tw)
  (q64:AtE w.params "_law_names" ud)
  (q65:AtE w.params "_law_new" iQ)
  (q66:AtE w.params "_law_lead" mf)
  (q67:AtE w.params "_law_way" gh)
  (q68:AtE w.params "_law_turned" wt)
  (q69:AtE w.params "_law_left_pair" sU)
  (q70:AtE w.params "_law_true_bearing" uM)
  (q71:AtE w.params "_law_some_deeds" tE)
  (q72:AtE w.params "_law_moved" qj)
  (q73:AtK w.params "law" cH f73 oc73 od73 sl73 L M J Q P N)
  (q74:AtM "__init__" "Book.__init__" nQ bo)
  (q75:AtM "mark" "Book.mark" md cG)
  (q76:AtM "move" "Book.move" mi bg)
  (q77:AtM "right" "Book.right" qu iG)
  (q78:AtM "deed" "Book.deed" nX pf)
  (q79:AtM "marks" "Book.marks" ug mm)
  (q80:AtM "runs" "Book.runs" nT iB)
  (q81:AtM "notes" "Book.notes" qi mw)
  (q82:AtM "coming" "Book.coming" wj kY)
  (z_abs:Bx (KK w.params) mainGlobals "abs" = O J2)
  (z_all:Bx (KK w.params) mainGlobals "all" = O J2)
  (D:Bx (KK w.params) mainGlobals "dict" = O J2)
  (z_int:Bx (KK w.params) mainGlobals "int" = O J2)
  (Y:Bx (KK w.params) mainGlobals "len" = O J2)
  (C:Bx (KK w.params) mainGlobals "list" = O J2)
  (T:Bx (KK w.params) mainGlobals "max" = O J2)
  (S:Bx (KK w.params) mainGlobals "min" = O J2)
  (B:Bx (KK w.params) mainGlobals "range" = O J2)
  (q:Bx (KK w.params) mainGlobals "sorted" = O J2)
  (R:Bx (KK w.params) mainGlobals "sum" = O J2)
  (A:Bx (KK w.params) mainGlobals "tuple" = O J2) :
  ∃ fd:AK,(∀(s:d7)(v:c8),F0 s fd ⟨[v],[]⟩ [("_law_script",v)])/\∀ base:Aa,AH (KK w.params) base->base.Ns mainGlobals mg->yR l.prog w K mg base CX0 18 fa fd ["_law_script"] (sp_law K):=by
 have e:=hfa.symm.trans (o8 X G q73.1);cases e;have Z:Zs mg:=⟨AC X G z_abs,AC X G z_all,AC X G D,AC X G z_int,AC X G Y,AC X G C,AC X G T,AC X G S,AC X G B,AC X G q,AC X G R,AC X G A⟩;erw[AD "law" "law" (wO cH) (xX cH) (zF cH) .none L M J Q P N,λs v=>.of_eq rfl,λbase KB GB=>?_];have c:Cb l.prog w mg base:=cb_mk KB GB;have d:=@Pj w.params h mg l.prog w base X G;have g:=@RD w.params h mg l.prog w base X G;have yAc:=d q1 λF=>rq F Z ;have yCb:=d q2 λF=>bw F Z c yAc;have yBx:=d q3 λF=>ce F Z c yCb;have yCr:=d q4 λF=>YK F Z c yBx;have yCl:=d q5 λF=>ZB F Z c ;have yCa:=d q6 λF=>bf F Z c yCl;have yBp:=Xf l.prog w base X G q7 (λF b k m=>hJ F Z c yCa b k m) (λ_ _ _ _ _ _=>us1 λ_=>rfl);have r:=d q8 λF=>Xl F Z c ;have yCi:=d q9 λF=>Yr F Z c ;have yAy:=d q10 λF=>mV F Z c yCb;have yCc:=d q11 λF=>cT F Z c ;have yCg:=d q12 λF=>Yn F Z c yCc;have yBs:=d q13 λF=>gw F Z c yBx r;have yCe:=d q14 λF=>bI F Z c ;have yAb:=d q15 λF=>qm F Z c yAy r;have yBh:=d q16 λF=>kL F Z c yAy r;have yBq:=d q17 λF=>gM F Z c yCg;have yCp:=d q18 λF=>WC F Z c yCr yCi;have yBo:=d q19 λF=>gB F Z c r yCg yBs;have yBn:=d q20 λF=>ji F Z c yBs yBo;have yBw:=d q21 λF=>dZ F Z c yBp yBn yBq;have yAr:=d q22 λF=>ny F Z c ;have yAv:=d q23 λF=>nE F Z c r yAr;have yBz:=d q24 λF=>dw F Z c yAv;have yAt:=d q25 λF=>nI F Z c ;have u:=d q26 λF=>fB F Z c ;have yBt:=d q27 λF=>fS F Z c ;have yCf:=d q28 λF=>bp F Z c ;have yBj:=g q29 λF=>lA F Z c ;have yBe:=g q30 λF=>kC F Z c ;have yAp:=g q31 λF=>oP F Z c yCf;have yBk:=g q32 λF=>jh F Z c yCf;have E:=g q33 λF=>lO F Z c ;have H:=g q34 λF=>lT F Z c ;have I:=g q35 λF=>oy F Z c ;have yBm:=g q36 λF=>jg F Z c yCf;have yAw:=g q37 λF=>nj F Z c ;have yBg:=g q38 λF=>mZ F Z c u E yAp yBe yBj;have yBb:=g q39 λF=>mI F Z c yAw u yAp H;have yAi:=g q40 λF=>pB F Z c yBt H
 have yBd:=g q41 λF=>ke F Z c u E yBz yAp yBe yBj;have yAo:=g q42 λF=>oV F Z c yBt;have yBc:=g q43 λF=>mF F Z c u E yBk;have yAu:=g q44 λF=>ng F Z c u yBk;have yBa:=g q45 λF=>lV F Z c u E;have yAd:=g q46 λF=>pz F Z c yBa r yBm H I;have yAq:=g q47 λF=>oU F Z c yBa yAw H I;have yAf:=g q48 λF=>pN F Z c yBt;have yCh:=g q49 λF=>ZD F Z c yBg yBb yAi yBd yAo yBc yAu yAd yAq yAf;have yBu:=d q50 λF=>eW F Z c yBq;have yAa:=d q51 λF=>rj F Z c yBs yCp yCr;have yAk:=d q52 λF=>pW F Z c yAa yBu;have yBy:=d q53 λF=>eX F Z c yAk;have yBr:=d q56 λF=>iN F Z c yBh yAb;have yCn:=d q62 λF=>ZA F Z ;have yCj:=d q63 λF=>ZM F Z c yCn;have yCm:=d q64 λF=>ZQ F Z c ;have yCs:=d q65 λF=>VO F Z c ;have yCo:=d q66 λF=>Xw F Z c ;have yCt:=d q67 λF=>Ui F Z c ;have yCd:=d q68 λF=>bU F Z c ;have yBl:=d q69 λF=>jk F Z c yCd yCt;have yAl:=d q70 λF=>ou F Z c yBl yCo;have yAx:=d q71 λF=>kW F Z c yAl yCs;have z:=mJ l.prog w mg base q74 (λF=>Ww F Z c yAt) (λ_ _ _ _ _ _=>us1 λ_=>rfl);have j:=mJ l.prog w mg base q79 (λF=>ZH F Z c ) (λ_ _ _ _ _ _=>us1 λ_=>rfl);have yAs:=d q55 λF=>nq F Z c j;have n:=mJ l.prog w mg base q80 (λF=>WE F Z c ) (λ_ _ _ _ _ _=>us1 λ_=>rfl);have yAn:=g q54 λF=>oR F Z c I n;have i:=mJ l.prog w mg base q81 (λF=>Ze F Z c ) (λ_ _ _ _ _ _=>us1 λ_=>rfl);have yAm:=g q57 λF=>oQ F Z c i yBr yCe yAn yAs I n;have yAz:=g q58 λF=>kN F Z c yAm;have yAh:=d q59 λF=>pP F Z c yBw yAz;have yAj:=d q60 λF=>pY F Z c i;have yAg:=d q61 λF=>pD F Z c yBy yAm yAj;have o:=mJ l.prog w mg base q82 (λF=>cZ F Z c ) (λ_ _ _ _ _ _=>us1 λ_=>rfl);have f:=nN l.prog w mg base q78 (λF=>Vu F Z c o yCh) (λ_ _ _ _ _ _=>us2 λ_ _=>rfl);have y:=nN l.prog w mg base q75 (λF=>WX F Z c f) (λ_ _ _ _ _ _=>us4 λ_ _ _ _=>rfl);have x:=nN l.prog w mg base q76 (λF=>Vv F Z c f) (λ_ _ _ _ _ _=>us4 λ_ _ _ _=>rfl)
 have yCk:=d q72 λF=>Yu F Z c x;have p:=nN l.prog w mg base q77 (λF=>Yo F Z c f) (λ_ _ _ _ _ _=>us4 λ_ _ _ _=>rfl);rwa[PV (VA q73) Z c yAg yAh yAz j f y z p yCk yAx yCm yCj]
def walk{l:Gg}{A:(j9->Option c8)->Aa->Prop}{j:t7->Aa->Prop}{d:DefRec}(r:l.most=O 63)(g:d.params.defaults=[])
  (y:∀(w:t7)(h:Aa),j w h->AH (KK w.params) h)
  (F:∀(w:t7)(mg:j9->Option c8)(i:c7)(h:Aa),AH (KK w.params) h->h.Ns mainGlobals mg->mg d.name=O (.ref i) ->
   ∃ fd:AK,(∀(s:d7)(u:c8),F0 s fd ⟨[u],[]⟩ [("_law_script",u)])/\∀ base:Aa,AH (KK w.params) base->base.Ns mainGlobals mg->yR l.prog w K mg base CX0 18 i fd ["_law_script"] (sp_law K)) :
  Jk q e A j l.row.toRowW d [] (λf m=>Iy f m) :=
 L2.walk_of3 (n:=63) (k:=18) (x := "_law_script") (KK:=KK) (K:=K) (sp:=sp_law K) r 'a' g ⟨rfl,by decide,by decide,rfl⟩ y (λ_ _ X=>K_in X) (λp a o h c=>by rw[Vs]; rwa[Vr (F:=KF p) 'g' h c]) F (λ_ a ns v z=>⟨a,ns,rfl,z,v,λ_=>rfl⟩)

end Sea
open PySem PySem.W PyProof.Rows
set_option maxRecDepth 100000 in
set_option maxHeartbeats 0 in
theorem PySem.Challenge.cw_seamarks_k42_whole_put_right_as_from_the_holds : PySem.Challenge.rw_seamarks_k42_whole_put_right_as_from_the.Holds := by
 w_on
 refine holds_law Sea.said_ok λsaid=>?_;refine holds_open (q:=Sea.qv) (loose:=Sea.lse) (XP:=XL Sea.qv []) (YP:=InK Sea.KK) Sea.left_ok (InK.of Sea.kas_ok)
  InK.keeps (λs e=>xl_of s (GF.mp e).1) XL.keeps (by rfl) (by rfl) (by rfl)
  (λs e=>recFacts_of (GF.mp e).2) (by rfl) (by assumption) (by ac_nf)
  ⟨rfl,rfl,rfl,rfl,rfl,by ac_nf⟩ ?hw ?hc
 case hw=>w_witness2
 k_fill
 erw[Sea.walk (l:=PySem.Challenge.rw_seamarks_k42_whole_put_right_as_from_the) rfl rfl (λw h Y=>Y) ?F]
 case F =>
  intro w mg fa h KX G hmg
  refine' Sea.all_mk KX G hmg ?q1 ?q2 ?q3 ?q4 ?q5 ?q6 ?q7 ?q8 ?q9 ?q10 ?q11 ?q12 ?q13 ?q14 ?q15 ?q16 ?q17 ?q18 ?q19 ?q20 ?q21 ?q22 ?q23 ?q24 ?q25 ?q26 ?q27 ?q28 ?q29 ?q30 ?q31 ?q32 ?q33 ?q34 ?q35 ?q36 ?q37 ?q38 ?q39 ?q40 ?q41 ?q42 ?q43 ?q44 ?q45 ?q46 ?q47 ?q48 ?q49 ?q50 ?q51 ?q52 ?q53 ?q54 ?q55 ?q56 ?q57 ?q58 ?q59 ?q60 ?q61 ?q62 ?q63 ?q64 ?q65 ?q66 ?q67 ?q68 ?q69 ?q70 ?q71 ?q72 ?q73 ?q74 ?q75 ?q76 ?q77 ?q78 ?q79 ?q80 ?q81 ?q82 ?z_abs ?z_all ?z_dict ?z_int ?z_len ?z_list ?z_max ?z_min ?z_range ?z_sorted ?z_sum ?z_tuple
  (case q74 | q75 | q76 | q77 | q78 | q79 | q80 | q81 | q82=>refine' Sea.atm_mk ⟨?b,?c,?d⟩;(case b=>rwa[rfl]);(case c=>symm);(case d=>symm))
  (case q73=>refine'⟨?_,?_,?_,?_⟩; k_is; rwa[rfl]; symm; symm)
  (case q1 | q2 | q3 | q4 | q5 | q6 | q7 | q8 | q9 | q10 | q11 | q12 | q13 | q14 | q15 | q16 | q17 | q18 | q19 | q20 | q21 | q22 | q23 | q24 | q25 | q26 | q27 | q28 | q29 | q30 | q31 | q32 | q33 | q34 | q35 | q36 | q37 | q38 | q39 | q40 | q41 | q42 | q43 | q44 | q45 | q46 | q47 | q48 | q49 | q50 | q51 | q52 | q53 | q54 | q55 | q56 | q57 | q58 | q59 | q60 | q61 | q62 | q63 | q64 | q65 | q66 | q67 | q68 | q69 | q70 | q71 | q72=>refine' Sea.at_mk ⟨?a,?b,?c,?d⟩;(case a=>k_is);(case b=>rwa[rfl]);(case c=>symm);(case d=>symm))
  (case z_abs | z_all | z_dict | z_int | z_len | z_list | z_max | z_min | z_range | z_sorted | z_sum | z_tuple=>k_is)
